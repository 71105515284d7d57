import PyProof.Rows.All
import Wide.All
import OpenK.AllK
import Wide.FinOn
import Lean
import PyProof.EqAt
import PyProof.EqKinds
import PyProof.TupleCall
import PySem.Challenge.RW_mothloom_k34_whole_never_both
set_option Elab.async false
set_option linter.all false
set_option maxRecDepth 100000
set_option genSizeOf false
set_option backward.eqns.nonrecursive false
set_option bootstrap.genMatcherCode false
def ez:=@PySem.wpAny_bind
def gf:=@Option.bind_eq_some_iff
def gk:=@PySem.wpAny_pure
def iA:=@PySem.Heap.get?_push_of_some
def mu:=@Bool.and_eq_true
def oe:=@Bool.and_eq_true_iff
def pb:=@Nat.le_refl
def pd:=@Bool.false_ne_true
def pe:=@Option.map_eq_some_iff
def p0:=@List.length_map
def r4:=@List.size_toArray
def tf:=@PySem.Heap.lt_size
def ti:=@Option.some.injEq
def tr:=@PySem.Heap.get?_push_size
def uw:=@Nat.le_trans
def wh:=@List.mem_cons
def G1:=@List.getElem?_eq_some_iff
def JW:=@Nat.ne_of_lt
def JX:=@Nat.lt_of_lt_of_le
def JY:=@List.map_cons
def JZ:=@beq_iff_eq
def J0:=@List.length_append
def J1:=@List.getElem?_eq_getElem
def J2:=@Option.some.inj
def J3:=@List.map_map
def J4:=@Bool.not_eq_true'
def J5:=@Bool.false_eq_true
def J6:=@List.length_eq_zero_iff
def J7:=@PySem.wpAny_loadPart'
def J8:=@List.mem_singleton
def J9:=@decide_eq_true
def Ka:=@List.any_eq_true
def Kb:=@PySem.wpAny_setState_of
def Kc:=@List.getElem?_map
def Kd:=@Nat.zero_le
def Ke:=@PySem.wpAny_ite_split
def Kf:=@PySem.Heap.size_push
def Kg:=@List.mem_filter
def Kh:=@decide_eq_true_eq
def Ki:=@List.mem_append
def Kj:=@List.getElem?_set_ne
def Kk:=@PySem.wpAny_call_entry
def Kl:=@PySem.wpAny_holding
def Km:=@PySem.Heap.SameBut.update
def Kn:=@congrArg
def Ko:=@Nat.lt_succ_of_lt
def Kp:=@Nat.le_of_succ_le_succ
def Kq:=@Nat.lt_of_le_of_lt
def Kr:=@decide_eq_false
def Ks:=@PySem.wpAny_mono
def Kt:=@List.nodup_cons
def Ku:=@Nat.lt_irrefl
def Kv:=@Bool.eq_iff_iff
def Kw:=@PyProof.Rows.callWith_type1
def Kx:=@PySem.Heap.get?_update_self
def Ky:=@Array.getElem?_toList
def Kz:=@PySem.wpAny_newObj_type
def KA:=@PyProof.Rows.slot_tuple_getitem
def KC:=@PySem.wpAny_callSpecial?_slot
def KD:=@List.mem_append_right
def KG:=@PySem.sizeLine_eq
def KH:=@List.mem_cons_of_mem
def KI:=@Nat.add_right_comm
def KJ:=@List.filter_cons_of_neg
def KL:=@decide_eq_true_iff
def KN:=@PySem.Heap.get?_update_other
def KP:=@of_decide_eq_true
def KQ:=@Nat.le_antisymm
def KR:=@Nat.not_lt
def KS:=@Nat.ne_of_gt
def KU:=@if_false
def KW:=@Nat.add_sub_cancel
def KY:=@PySem.wpAny_isInstance
def KZ:=@List.append_assoc
def K0:=@List.filter_cons_of_pos
def K1:=@List.mem_cons_self
def K2:=@List.pairwise_cons
def K3:=@List.getElem?_append_left
def K4:=@PySem.wpAny_truthy_bool
def K5:=@Nat.le_of_lt_succ
def K6:=@PyProof.Rows.KeyOrd.kle_refl
def K7:=@List.mem_flatten
def K8:=@List.map_append
def K9:=@Bool.not_eq_true
def La:=@List.map_congr_left
def Lb:=@List.filter_eq_self
def Lc:=@Int.emod_lt_of_pos
def Ld:=@Nat.le_of_lt
def Le:=@List.append_nil
def Lf:=@Int.emod_nonneg
def Lg:=@List.getElem?_set_self
def Lh:=@PySem.fits_of_scanBound
def Li:=@List.nodup_nil
def Lj:=@Nat.exists_eq_add_of_lt
def Lk:=@List.not_mem_nil
def Ll:=@PySem.wpAny_Call_Name_kw
def Lm:=@Array.getD_eq_getD_getElem?
def Ln:=@Nat.lt_of_le_of_ne
def Lo:=@PySem.wpAny_setField_rec
def Lp:=@List.getElem?_append_right
def Lq:=@List.mem_of_getElem?
def Lr:=@List.getD_eq_getElem?_getD
def Ls:=@List.perm_ext_iff_of_nodup
def Lu:=@PySem.Heap.SameBut.refl
def Lv:=@PySem.wpAny_storeSet_of
def Lw:=@PySem.wpAny_setEpoch_of
def Lx:=@List.find?_cons_of_neg
def Ly:=@List.length_set
def Lz:=@PySem.wpAny_rule
def LA:=@Nat.le_succ
def LB:=@List.isEmpty_iff
def LC:=@beq_self_eq_true
def LD:=@List.all_eq_true
def LF:=@Nat.zero_add
def LG:=@Nat.lt_succ_self
def LH:=@List.nodup_append
def LI:=@beq_eq_false_iff_ne
def LJ:=@Ne.symm
def LK:=@PySem.tupleKind_room_in1
def LM:=@Nat.le_add_left
def LN:=@Array.size_extract
def LO:=@Nat.min_eq_left
def LP:=@PySem.F.slot_dict_valueiterator_next
def LQ:=@PySem.richCompare_meets_room
def LR:=@PySem.Calls.callWith_builtin
def LS:=@Array.getElem?_eq_none
def LU:=@PySem.wpAny_pyIter_list
def LV:=@Nat.le_of_succ_le
def LW:=@PyProof.Rows.KeyOrd.kle_of_klt
def LX:=@bne_self_eq_false
def LY:=@List.length_eq_one_iff
def LZ:=@List.filter_eq_nil_iff
def L0:=@PySem.codeAny_mono
def L3:=@PySem.wpAny_typeOf
def L4:=@Nat.le_of_eq
def L5:=@Nat.lt_trans
def L6:=@PySem.builtinLookup_eq_fast
def L7:=@List.length_eraseIdx_of_lt
def L8:=@Int.le_trans
def L9:=@PyProof.Rows.KeyOrd.kle_trans
def Ma:=@Nat.le_sub_one_of_lt
def Mb:=@List.perm_append_comm
def Mc:=@or_false
def Md:=@List.length_filter_le
def Me:=@List.mem_or_eq_of_mem_set
def Mf:=@Array.perm_iff_toList_perm
def Mg:=@Bool.not_true
def Mh:=@List.eraseIdx_eq_take_drop_succ
def Mi:=@Int.le_refl
def Mj:=@List.filterMap_cons_some
def Mk:=@List.mem_of_mem_eraseIdx
def Ml:=@List.mem_map_of_mem
def Mm:=@PySem.wpAny_passesOwn
def Mn:=@PySem.W.KasT.kasWp_bind
def Mo:=@Array.getElem?_eq_getElem
def Mp:=@PySem.wpAny_pyIter_tuple
def Mq:=@PySem.Calls.spliced_cons
def Mr:=@List.getElem?_replicate
def Ms:=@PySem.AutoSeq1.sub_tuple_tuple
def Mt:=@List.eq_nil_of_length_eq_zero
def Mu:=@Nat.sub_le
def Mv:=@Array.size_map
def Mw:=@Classical.axiomOfChoice
def Mx:=@Nat.lt_trichotomy
def Mz:=@PySem.wpAny_collect_seq
def MA:=@List.find?_cons_of_pos
def MB:=@Nat.lt_of_succ_lt_succ
def MC:=@LawfulMonad.bind_assoc
def MF:=@List.sublist_flatten_of_mem
def MG:=@Nat.le_zero
def MH:=@PySem.plainId_quiet
def MI:=@PySem.wpAny_attempt
def MJ:=@Nat.le_add_right
def MK:=@List.mem_range
def ML:=@List.mem_append_left
def MN:=@PySem.call_meets
def MO:=@PySem.wpAny_specialOf
def MP:=@List.all_map
def MQ:=@PySem.codeAny_builtin
def MR:=@PySem.Around.under_plainId
def MT:=@PySem.typeLookup_type
def MU:=@PySem.wpAny_updateSeq
def MW:=@List.length_range
def MX:=@Bool.or_eq_true
def MY:=@List.cons.injEq
def MZ:=@List.drop_eq_getElem_cons
def M0:=@Nat.add_sub_cancel'
def M3:=@PySem.wpAny_setEntries_of
def M4:=@List.filterMap_cons_none
def M5:=@Bool.false_and
def M6:=@PySem.isSubtype_type
def M7:=@PySem.wpAny_fieldsOf
def M8:=@Option.map_map
def M9:=@PySem.wpAny_of_eq
def Na:=@List.getElem_mem
def Nb:=@Nat.lt_or_eq_of_le
def Nc:=@PySem.wpAny_forIn_array'
def Nd:=@Int.fdiv_eq_ediv_of_nonneg
def Nf:=@Array.getElem?_append_left
def Ng:=@Bool.true_and
def Nh:=@PySem.Value.isInt_shape
def Ni:=@PySem.Calls.spliced_nil
def Nj:=@List.take_of_length_le
def Nk:=@PySem.wpAny_pyIter_slot
def Nl:=@List.any_eq_false
def Nm:=@Bool.not_eq_false
def Nn:=@PySem.intKind_is
def Np:=@PySem.concat_meets
def Nq:=@PySem.noFill_tuple_add
def Nr:=@Nat.lt_asymm
def Nt:=@List.ext_getElem?
def Nu:=@map_eq_pure_bind
def Nv:=@Nat.min_self
def Nw:=@PySem.wpAny_askSetting
def Nx:=@Classical.em
def Ny:=@decide_eq_decide
def Nz:=@List.length_take
def NA:=@List.mem_reverse
def NB:=@Nat.sub_lt
def NC:=@Nat.mod_lt
def ND:=@Bool.and_true
abbrev NF:=PySem.W.Frag
def ax{P:Prop}(h:∀Q:Prop,(P->Q)->Q):P:=h P id
namespace L2
open PySem PySem.Spec PyProof.Rows List Option
noncomputable abbrev Key:=Sum Int Str
noncomputable def oI:Key->Value->Bool
 | .inl k,v=>Value.isInt k v
 | .inr x,v=>Value.isStrOf x v
noncomputable def Ja(w:World):Key->Int
 | .inl k=>hashInt k
 | .inr x=>hashStr w x
def bP:∀{k}{v},oI k v=true->(∃i t,k=Sum.inl i/\v=Value.int i t)\/(∃x t,k=Sum.inr x/\v=Value.str x t)
 | .inl i,v,h=>by
  obtain⟨t,e⟩:=Nh (k:=i) (v:=v) h;exact .inl ⟨i,t,rfl,e⟩
 | .inr x,v,h=>by
  obtain⟨t,e⟩:=Value.isStrOf_shape (x:=x) (v:=v) h;exact .inr ⟨x,t,rfl,e⟩
def wC(i)(t):oI (.inl i) (.int i t)=true:=by simp[oI,Value.isInt]
def wD(x)(t):oI (.inr x) (.str x t)=true:=by simp[oI,Value.isStrOf]
def DG(a b):decide ((Sum.inl a:Key)=Sum.inl b)=(a==b):=by
 by_cases e:a=b
 .subst e;simp
 .simp_all
def DH(a b):decide ((Sum.inr a:Key)=Sum.inr b)=decide (a=b):=by simp
def DI(a)(b):decide ((Sum.inl a:Key)=Sum.inr b)=false:=rfl
def DJ(a)(b):decide ((Sum.inr a:Key)=Sum.inl b)=false:=rfl
noncomputable def bY(prog)(w):PySem.KeyKind prog w Key where
 is:=oI
 hash:=Ja w
 inj:=λv a b U J=>by
  rcases bP U with⟨i,t,rfl,rfl⟩|⟨x,t,rfl,rfl⟩
  .rcases bP J with⟨j,u,rfl,e⟩|⟨y,u,rfl,e⟩
   .injection e with z _;rw[z]
   .exact nomatch e
  .rcases bP J with⟨j,u,rfl,e⟩|⟨y,u,rfl,e⟩
   .exact nomatch e
   .injection e with z _;rw[z]
 byValue:=λk v h=>by
  rcases bP h with⟨i,t,rfl,rfl⟩|⟨x,t,rfl,rfl⟩<;>rfl
 pyHash:=λhv h=>by
  rcases bP hv with⟨i,t,rfl,rfl⟩|⟨x,t,rfl,rfl⟩
  .exact wpAny_pyHash_int h
  .exact wpAny_pyHash_str h
 eqBool:=λY hv h=>by
  rcases bP Y with⟨i,t,rfl,rfl⟩|⟨x,t,rfl,rfl⟩
  .rcases bP hv with⟨j,u,rfl,rfl⟩|⟨y,u,rfl,rfl⟩
   .rw[DG]at h;exact wpAny_eqBool_int h
   .rw[DI]at h;exact SeqAt.EqAt.int_str i t y u _ _ _ _ h
  .rcases bP hv with⟨j,u,rfl,rfl⟩|⟨y,u,rfl,rfl⟩
   .rw[DJ]at h;exact SeqAt.EqAt.str_int x t j u _ _ _ _ h
   .rw[DH]at h;exact wpAny_eqBool_str h
 «strs»:=λk x t v h=>by
  rcases bP h with⟨i,u,rfl,e⟩|⟨y,u,rfl,e⟩
  .exact nomatch e
  .injection e with z _
   subst z;cases v<;>rfl
def qS(prog)(w)(i)(t):(bY prog w).is (.inl i) (.int i t)=true:=wC i t
def qT(prog)(w)(x)(t):(bY prog w).is (.inr x) (.str x t)=true:=wD x t
inductive V where
 | non|bl (b:Bool)|int (i:Int)|str (x:Str)|byt (b:Array UInt8)|flt (b:UInt64)|ref (a:Addr)|ty (n:String)
 deriving DecidableEq
def aD:V->Value->Prop
 | .non,u=>u=Value.none
 | .bl b,u=>u=Value.bool b
 | .int i,u=>∃t,u=Value.int i t
 | .str x,u=>∃t,u=Value.str x t
 | .byt b,u=>∃t,u=Value.bytes b t
 | .flt b,u=>∃t,u=Value.float b t
 | .ref a,u=>u=Value.ref a
 | .ty n,u=>u=Value.type n
abbrev aG:List V->List Value->Prop:=Paired aD
theorem aG.length(r:aG xs us):xs.length=us.length:=Paired.length r
theorem aG.get:∀{xs}{us}{i:Nat}{x},aG xs us->xs[i]?=some x->∃u,us[i]?=some u/\aD x u
 | _,_,_,_,.nil,e=>by simp at e
 | _,_,0,_,.cons r _,e=>by simp at e;subst e;exact⟨_,rfl,r⟩
 | _,_,i+1,x,.cons _ t,e=>by
  obtain⟨u,h1,h2⟩:=aG.get (i:=i) (x:=x) t (by simpa using e);exact⟨u,by simpa using h1,h2⟩
theorem aG.set(r:aD x u):∀{xs}{us} i,aG xs us->aG (xs.set i x) (us.set i u)
 | _,_,_,.nil=>.nil
 | _,_,0,.cons _ t=>.cons r t
 | _,_,i+1,.cons q t=>.cons q (aG.set r i t)
theorem aG.append:∀{xs ys}{us z},aG xs us->aG ys z->aG (xs++ys) (us++z)
 | _,_,_,_,.nil,s=>s
 | _,_,_,_,.cons r t,s=>.cons r (aG.append t s)
theorem aG.take:∀{xs}{us} n,aG xs us->aG (xs.take n) (us.take n)
 | _,_,0,_=>.nil
 | _,_,_+1,.nil=>.nil
 | _,_,n+1,.cons r t=>.cons r (aG.take n t)
theorem aG.drop:∀{xs}{us} n,aG xs us->aG (xs.drop n) (us.drop n)
 | _,_,0,r=>r
 | _,_,_+1,.nil=>.nil
 | _,_,n+1,.cons _ t=>aG.drop n t
def lD:Option V->Option Value->Prop
 |some v,some u=>aD v u
 |none,none=>True
 | _,_=>False
def KV :List (g×V)->List (g×Value)->Prop:=Paired λp q=>p.1=q.1/\aD p.2 q.2
noncomputable def kV:Key->V
 | .inl i=>.int i
 | .inr x=>.str x
inductive HO where
 | lst (xs:List V)
 | tup (xs:List V)
 | dK (kvs:List (Key×V))|dT (kvs:List (List Key×V))
 | set (S:Int->Bool) (n:Nat)
 | ins (C dx:Addr) (fs:List (Str×V))
 | own (x:Addr)
 | xd (fs:List (Str×V))
 | met (f x:Addr)
 | rng (lo hi:Int)
 | frz (o:Obj) (u:HO)
 | tbl (ps:Array Value)
 | ext (φ:Heap->Prop)
noncomputable abbrev Hp:=Addr->Option HO
noncomputable def upd(H:Hp)(a:Addr)(o:HO):Hp:=λb=>if b=a then some o else H b
def az :upd H a o a=some o:=by unfold upd;rw[if_pos rfl]
def aX(h:b≠a):upd H a o b=H b:=by unfold upd;rw[if_neg h]
def GC{H:Hp}{a b:Addr}{o u:HO}(h:H a=some o)(h':H b=some u)(d:o≠u):a≠b:=by
 intro e;subst e;rw[h]at h';exact d (J2 h')
def cx{H:Hp}{a b:Addr}{o:HO}(h:H a=some o)(h':H b=none):a≠b:=by
 intro e;subst e;rw[h]at h';cases h'
section
variable(P:Program)(w:World)
def bL(H:Hp)(h:Heap)(a:Addr):HO->Prop
 | .lst xs=>xs.length<=sizeLine/\∃its n,aG xs its/\h.get? a=some { cls:=.type "list",data:=.seq its.toArray n }
 | .tup xs=>xs.length<=sizeLine/\∃its,aG xs its/\IsTup h a its.toArray
 | .dK kvs=>kvs.length<=sizeLine/\(a==sysModules)=false/\∃vs,KV kvs vs/\h.DictOf (bY P w) a vs
 | .dT kvs=>kvs.length<=sizeLine/\(a==sysModules)=false/\∃xs,
   Paired (λp q=>p.1=q.1/\H q.2.1=some (.tup (p.1.map kV))/\aD p.2 q.2.2) kvs xs /\
   ∃o es ep,h.get? a=some o/\o.ExactDict/\o.data=.dict es ep/\es.toList=xs.map (entryOfKey (tupleKind (bY P w)))/\(xs.map (·.1)).Nodup
 | .set S n=>h.SetOf (intKind P w) a S n
 | .ins C dx fs=>H dx=some (.own a)/\fs.length<=1000/\dx≠a/\h.get? a=some (PySem.W.instObj C dx) /\
   ∃mA,h.Ns1 dx mA/\(∀f,lD (fs.lookup f) (mA f))/\PySem.Within mA (fs.map (·.1))
 | .own _=>∃o,h.get? a=some o
 | .xd fs=>∃mA,h.Ns1 a mA/\∀f,lD (fs.lookup f) (mA f)
 | .rng lo hi=>∃t u v,h.get? a=some { cls:=.type "range",data:=.fields #[.int lo t,.int hi u,.int 1 v] }
 | .frz o u=>h.get? a=some o/\bL H h a u
 | .tbl ps=>h.get? a=some { cls:=.none,data:=.fields ps }
 | .met f x=>h.get? a=some (PySem.W.methodObj (.ref f) (.ref x))
 | .ext z=>z h/\(∃o,h.get? a=some o)/\∀h1 h2,z h1->(∀o,h1.get? a=some o->h2.get? a=some o)->z h2
def HOk(H:Hp)(h:Heap):Prop:=∀a o,H a=some o->bL P w H h a o
end
section
variable{P:Program}{w:World}{H H':Hp}{h h':Heap}{a:Addr}{o:HO}
theorem bL.lt(x:bL P w H h a o):a<h.objs.size:=by
 cases o with
 |own y=>obtain⟨_,e⟩:=x;exact tf e
 |xd fs=>obtain⟨_,⟨_,_,_,e,_⟩,_⟩:=x;exact tf e
 |ext z=>obtain⟨_,⟨_,e⟩,_⟩:=x;exact tf e
 |lst xs=>obtain⟨_,_,_,_,e⟩:=x;exact tf e
 |tup xs=>obtain⟨_,_,_,p⟩:=x;exact p.lt
 |set S n=>obtain⟨o,_,_,_,e,_⟩:=x;exact tf e
 |frz J u=>obtain⟨e,_⟩:=x;exact tf e
 |rng lo hi=>obtain⟨_,_,_,e⟩:=x;exact tf e
 |ins C dx fs=>obtain⟨_,_,_,e,_⟩:=x;exact tf e
 |dK kvs|dT kvs=>obtain⟨_,_,_,_,o,_,_,e,_⟩:=x;exact tf e
 | _=>exact tf (show h.get? a=some _ from x)
theorem Paired.mapP :∀{l₁}{z},Paired F l₁ z->(∀a b,F a b->G a b)->Paired G l₁ z
 | _,_,.nil,_=>.nil
 | _,_,.cons r t,f=>.cons (f _ _ r) (Paired.mapP t f)
def bL.stay(x:bL P w H h a o)(k:∀b u,(b=a\/H b=some (.own a))->h.get? b=some u->h'.get? b=some u)
  (ho:∀b,H b=some (.own a)->H' b=some (.own a)) (Y:∀b xs,H b=some (.tup xs)->H' b=some (.tup xs)):bL P w H' h' a o:=by
 induction o with
 |lst xs=>obtain⟨z,its,n,r,e⟩:=x;exact⟨z,its,n,r,k _ _ (.inl rfl) e⟩
 |tup xs=>obtain⟨z,its,r,J,e,c⟩:=x;exact⟨z,its,r,J,k _ _ (.inl rfl) e,c⟩
 |dK kvs=>obtain⟨z,y,vs,r,J,es,ep,e,c⟩:=x;exact⟨z,y,vs,r,J,es,ep,k _ _ (.inl rfl) e,c⟩
 |dT kvs =>
  obtain⟨z,y,xs,r,J,es,ep,e,c⟩:=x;exact⟨z,y,xs,Paired.mapP r λp q z=>⟨z.1,Y _ _ z.2.1,z.2.2⟩,J,es,ep,k _ _ (.inl rfl) e,c⟩
 |set S n=>obtain⟨J,es,ep,t,e,c⟩:=x;exact⟨J,es,ep,t,k _ _ (.inl rfl) e,c⟩
 |ins C dx fs =>
  obtain⟨d,z,ne,e,mA,⟨U,es,ep,Z,c⟩,r⟩:=x;exact⟨ho _ d,z,ne,k _ _ (.inl rfl) e,mA,⟨U,es,ep,k _ _ (.inr d) Z,c⟩,r⟩
 |own y=>obtain⟨J,e⟩:=x;exact⟨J,k _ _ (.inl rfl) e⟩
 |xd fs=>obtain⟨mA,⟨U,es,ep,e,c⟩,r⟩:=x;exact⟨mA,⟨U,es,ep,k _ _ (.inl rfl) e,c⟩,r⟩
 |rng lo hi=>obtain⟨t,u,v,e⟩:=x;exact⟨t,u,v,k _ _ (.inl rfl) e⟩
 |frz J u ih=>obtain⟨e,q⟩:=x;exact⟨k _ _ (.inl rfl) e,ih q⟩
 |tbl ps =>
  have e:=x;exact k a _ (.inl rfl) e
 |met f y =>
  have e:=x;exact k a _ (.inl rfl) e
 |ext φ=>obtain⟨p,⟨o,e⟩,st⟩:=x;exact⟨st _ _ p λo q=>k _ _ (.inl rfl) q,⟨o,k _ _ (.inl rfl) e⟩,st⟩
theorem HOk.lt(x:HOk P w H h)(e:H a=some o):a<h.objs.size:=(x a o e).lt
def HOk.fresh(x:HOk P w H h)(e:h.objs.size<=a):H a=none:=by
 cases q:H a<;>first|rfl|exact absurd (JX (x.lt q) e) (Ku _)
theorem HOk.kept(x:HOk P w H h)(k:∀b u,h.get? b=some u->h'.get? b=some u):HOk P w H h':=λa o e =>
 (x a o e).stay (λb u _ q=>k b u q) (λ_ q=>q) λ_ _ q=>q
theorem HOk.laid(x:HOk P w H h)(k:∀b u,h.get? b=some u->h'.get? b=some u)(U:h.objs.size<=a)(new:bL P w (upd H a o) h' a o):HOk P w (upd H a o) h':=λb u e=>by
 have z:=x.fresh U;by_cases J:b=a
 .subst J;rw[az]at e;cases e;exact new
 .rw[aX J]at e;exact(x b u e).stay (λc v _ q=>k c v q) (λc q=>by rw[aX (cx q z)];exact q) λc xs q=>by rw[aX (cx q z)];exact q
end
def Rd(H:Hp)(a:Addr)(u:HO):Prop:=H a=some u\/∃o,H a=some (.frz o u)
theorem Rd.ok(r:Rd H a u)(x:HOk P w H h):bL P w H h a u:=by
 rcases r with r|⟨o,r⟩
 .exact x a u r
 .obtain⟨_,q⟩:=x a _ r;exact q
def Mut:Option HO->Prop
 |some (.lst _)=>True
 |some (.dK _)=>True
 |some (.dT _)=>True
 |some (.set _ _)=>True
 |some (.ins _ _ _)=>True
 |some (.ext _)=>True
 | _=>False
section
variable{P:Program}{w:World}{H:Hp}{h h':Heap}{x e:Addr}{o':HO}
def HOk.write(ok:HOk P w H h)(Z:Mut (H x))(he:e=x\/H e=some (.own x))(k:∀b u,b≠e->h.get? b=some u->h'.get? b=some u)(ao:∃u,h'.get? e=some u)
  (new:bL P w (upd H x o') h' x o'):HOk P w (upd H x o') h':=λb u q=>by
 have U:∀c y,H c=some (.own y)->c≠x:=λc y r z=>by subst z;rw[r]at Z;exact Z
 have Y:∀c xs,H c=some (.tup xs)->c≠x:=λc xs r z=>by subst z;rw[r]at Z;exact Z
 by_cases hb:b=x
 .subst hb;rw[az]at q;cases q;exact new
 .rw[aX hb]at q;by_cases J:b=e
  .have q':H b=some (.own x):=by
    rcases he with z|z
    .exact absurd (J.trans z) hb
    .rw[J];exact z
   rw[q]at q';cases q'
   obtain⟨v,hv⟩:=ao;exact⟨v,by rw[J];exact hv⟩
  .refine(ok b u q).stay (λc v hc r=>k c v ?_ r) (λc r=>by rw[aX (U c b r)];exact r) λc xs r=>by rw[aX (Y c xs r)];exact r
   rcases hc with rfl|hc
   .exact J
   .rintro rfl
    simp_all
end
structure Un(fs ex:List Addr)(H H':Hp)(h h':Heap):Prop where
 keep:∀b o,h.get? b=some o->H b=none->b∉fs->b∉ex->h'.get? b=some o
 slot:∀b o,h.get? b=some o->H b=none->b∈fs->b∉ex->∃sl,h'.get? b=some { o with slots:=sl }
 free:∀b o,h.get? b=some o->H b=none->b∉ex->H' b=none
 there:∀b o,h.get? b=some o->b∉ex->∃o',h'.get? b=some o'
 tups:∀b xs,H b=some (.tup xs)->H' b=some (.tup xs)
 frzs:∀b o u,H b=some (.frz o u)->H' b=some (.frz o u)
 tbls:∀b ps,H b=some (.tbl ps)->∃more,H' b=some (.tbl (ps++more))
section
variable{fs fs' ex ex':List Addr}{H H1 H2:Hp}{h h1 h2 h':Heap}{a x e:Addr}{o:HO}
theorem Un.any(u:Un fs ex H H1 h h1)(q:h.get? b=some z)(n:H b=none)(hx:b∉ex):∃U,h1.get? b=some { z with slots:=U }:=by
 by_cases J:b∈fs
 .exact u.slot b z q n J hx
 .exact⟨z.slots,u.keep b z q n J hx⟩
def Un.kept(k:∀b u,h.get? b=some u->h'.get? b=some u):Un fs ex H H h h':=
 ⟨λb z q _ _ _=>k b z q,λb z q _ _ _=>⟨z.slots,k b z q⟩,λ_ _ _ n _=>n,λb z q _=>⟨z,k b z q⟩,λ_ _ q=>q,λ_ _ _ q=>q,λ_ ps q=>⟨#[],by rw[q];simp⟩⟩
def Un.refl:Un fs ex H H h h:=Un.kept λ_ _ q=>q
def Un.laid(k:∀b u,h.get? b=some u->h'.get? b=some u)(J:h.objs.size<=a)(z:H a=none):Un fs ex H (upd H a o) h h' where
 keep:=λb u q _ _ _=>k b u q
 slot:=λb u q _ _ _=>⟨u.slots,k b u q⟩
 free:=λb u q n _=>by rw[aX (JW (JX (tf q) J))];exact n
 there:=λb u q _=>⟨u,k b u q⟩
 tups:=λb xs q=>by rw[aX (cx q z)];exact q
 frzs:=λb u xs q=>by rw[aX (cx q z)];exact q
 tbls:=λb ps q=>⟨#[],by rw[aX (cx q z),q];simp⟩
def Un.write(U:Mut (H x))(he:e=x\/H e=some (.own x))(k:∀b u,b≠e->h.get? b=some u->h'.get? b=some u)(Y:∃u,h'.get? e=some u):Un fs ex H (upd H x o) h h':=by
 have hx:∀b,H b=none->b≠x:=λb n z=>by subst z;rw[n]at U;exact U
 have hb:∀b,H b=none->b≠e:=λb n z=>by
  simp_all
 have Z:∀b u,H b=some u->¬ Mut (some u)->b≠x:=λb u q nm z=>by subst z;rw[q]at U;exact nm U
 refine⟨λb u q n _ _=>k b u (hb b n) q,λb u q n _ _=>⟨u.slots,k b u (hb b n) q⟩,λb u q n _=>by rw[aX (hx b n)];exact n,λb u q _=>?_,
  λb xs q=>by rw[aX (Z b _ q λz=>z)];exact q,λb u xs q=>by rw[aX (Z b _ q λz=>z)];exact q,λb ps q=>⟨#[],by rw[aX (Z b _ q λz=>z),q];simp⟩⟩
 by_cases J:b=e
 .subst J;exact Y
 .exact⟨u,k b u J q⟩
end
noncomputable def trk(h:Heap)(H:Hp):List Addr:=(range h.objs.size).filter λa=>(H a).isSome
noncomputable def pR(h:Heap)(H:Hp):Heap:=PySem.W.hideAll h (trk h H)
def wE(h)(H):(pR h H).objs.size=h.objs.size:=PySem.W.hideAll_size _ _
def xY{H:Hp}{b:Addr}{o:Obj}(e:h.get? b=some o)(n:H b=none):(pR h H).get? b=some o:=
 PySem.W.hideAll_get _ e λhm=>by
  have q:=(Kg.mp hm).2;rw[n]at q;simp at q
def Bm(e:(pR h H).get? b=some o):h.get? b=some o/\H b=none:=by
 have J:=PySem.W.of_hideAll _ e;refine⟨J,?_⟩;cases q:H b with
 |none=>rfl
 |some x =>
  have U:b∈trk h H:=Kg.mpr ⟨MK.mpr (tf J),by simp[q]⟩;have z:(pR h H).get? b=none:=PySem.W.hideAll_none _ U;rw[z]at e;cases e
noncomputable def Bn(g h:Heap)(L:Addr):List (Addr×Obj):=(range h.objs.size).filterMap λa=>if a=L\/(g.get? a).isSome=true then none else(h.get? a).map λo=>(a,o)
noncomputable def bQ(g h:Heap)(L d:Addr):List (Addr×Obj):=(Bn g h L).filter λp=>decide (p.1≠d)
structure Mod(K:NF)(mg:Str->Option Value)(base:Heap):Prop where
 kin:K.In base
 glob:base.Ns mainGlobals mg
 blt:∃mb,base.Ns builtinsNs mb/\∀x:Str,x ≠ "__name__"->mb x=bootBuiltins x
 nolimit:base.NoLimit
structure Cx where
 prog:Program
 w:World
 K:NF
 mg:Str->Option Value
 base:Heap
 A:Around
 N:List Str
 s₀:Shared
 H₀:Hp
 env:Env
 outer:List Env
 stack:List Env
 ex:List Addr
 fn:Str->Bool
 calm:Bool
 pn:List (Addr×Obj)
 xe:Value->Shared->Prop
noncomputable def frs(l:List Env):List Addr:=l.filterMap (·.frame)
noncomputable abbrev Cx.fs(X:Cx):List Addr:=frs X.outer
def Vis(sc:Scope)(x:Str):Prop:=sc.names.lookup x=some .local\/sc.names.lookup x=some .cell\/sc.names.lookup x=some .free
def Loc(sc:Scope)(x:Str):Prop:=sc.names.lookup x=some .local\/sc.names.lookup x=some .cell
def Jb(env:Env)(h:Heap)(m:Str->Option Value)(x:Str)(u:Value):Prop:=
 (env.kindOf x=some .local/\m x=some u)\/((env.kindOf x=some .cell\/env.kindOf x=some .free)/\∃c,env.cells.lookup x=some c/\h.IsCell c (some u))
structure Cx.Ok(X:Cx):Prop where
 mod:Mod X.K X.mg X.base
 kind:X.env.scope.kind=.function
 glob:X.env.globals=mainGlobals
 blt:X.env.builtins=builtinsNs
 above:X.s₀.heap.objs.size<=X.env.locals
 inj:∀x y c,X.env.cells.lookup x=some c->X.env.cells.lookup y=some c->x=y
 has:∀x,(X.env.kindOf x=some .cell\/X.env.kindOf x=some .free)->∃c,X.env.cells.lookup x=some c
 cab:∀x c,X.fn x=true->X.env.cells.lookup x=some c->X.s₀.heap.objs.size<=c
 hd:X.calm=true->X.A.handled=none
 frames:X.A.frames=some X.stack
 stk:X.stack=X.outer\/(X.stack=X.env::X.outer/\X.env.frame=some X.env.locals)
 exf:∀b∈X.ex,b≠X.env.locals/\∀x c,X.env.cells.lookup x=some c->c≠b
 bs:∀b o,X.base.get? b=some o->X.s₀.heap.get? b=some o/\X.H₀ b=none
 bsz:X.base.objs.size<=X.s₀.heap.objs.size
 noex:∀b o,X.base.get? b=some o->b∉X.ex
 exfs:∀b∈X.ex,b∉X.fs
 funs:X.s₀.heap.FunFrames X.base X.outer
 frf:∀b∈X.fs,X.H₀ b=none
structure Inv(X:Cx)(pins:List (Addr×Obj))(σ:List (Option V))(H:Hp)(s:Shared):Prop where
 ok:X.Ok
 os:s.os=X.s₀.os
 bare:AllBare s.gens
 base:Un X.fs X.ex X.H₀ H X.s₀.heap s.heap
 loc:∃m,s.heap.Ns X.env.locals m/\∀(i:Nat) (x:Str) (v:V),X.N[i]?=some x->σ[i]?=some (some v)->Vis X.env.scope x->∃u,aD v u/\Jb X.env s.heap m x u
 cell:∀x c,X.env.cells.lookup x=some c->∃v,s.heap.IsCell c v
 free:H X.env.locals=none
 freeC:∀x c,X.env.cells.lookup x=some c->H c=none
 pin:∀p∈X.pn++pins,s.heap.get? p.1=some p.2/\H p.1=none/\p.1≠X.env.locals/\p.1∉X.fs/\∀v,p.2.data≠.cell v
 hok:HOk X.prog X.w H s.heap
 len:σ.length=X.N.length
section
variable{X:Cx}{pins:List (Addr×Obj)}{σ:List (Option V)}{H H':Hp}{s:Shared}{h':Heap}
theorem Cx.Ok.nofr(ok:X.Ok)(e:X.base.get? b=some o):b∉X.fs:=λz=>by
 have:=(ok.funs.mem z).1;rw[e]at this;cases this
theorem Inv.bs(I:Inv X pins σ H s):∀b o,X.base.get? b=some o->s.heap.get? b=some o/\H b=none:=λb o e =>
 ⟨I.base.keep b o (I.ok.bs b o e).1 (I.ok.bs b o e).2 (I.ok.nofr e) (I.ok.noex b o e),I.base.free b o (I.ok.bs b o e).1 (I.ok.bs b o e).2 (I.ok.noex b o e)⟩
theorem Inv.bk(I:Inv X pins σ H s):∀b o,X.base.get? b=some o->s.heap.get? b=some o:=λb o e=>(I.bs b o e).1
theorem Inv.mod(I:Inv X pins σ H s):Mod X.K X.mg X.base:=I.ok.mod
theorem Inv.kIn(I:Inv X pins σ H s):X.K.In s.heap:=I.ok.mod.kin.keeps I.bk
theorem Inv.lt(I:Inv X pins σ H s):X.env.locals<s.heap.objs.size:=let ⟨_,z,_⟩:=I.loc;z.lt
theorem Inv.sz(I:Inv X pins σ H s):X.s₀.heap.objs.size<=s.heap.objs.size:=uw I.ok.above (Ld I.lt)
theorem Inv.nofs(I:Inv X pins σ H s)(h:s.heap.objs.size<=a):a∉X.fs:=λz=>by
 obtain⟨_,o,ho,_⟩:=I.ok.funs.mem z;exact absurd (JX (tf ho) (uw I.sz h)) (Ku _)
theorem Inv.cne(I:Inv X pins σ H s):∀x c,X.env.cells.lookup x=some c->c≠X.env.locals:=λx c e z=>by
 obtain⟨v,o,ho,hd⟩:=I.cell x c e;obtain⟨m,⟨o',es,ep,J,U,_⟩,_⟩:=I.loc
 simp_all
theorem Inv.funs(I:Inv X pins σ H s):s.heap.FunFrames X.base X.outer:=by
 have all:∀l,(∀b∈frs l,b∈X.fs)->X.s₀.heap.FunFrames X.base l->s.heap.FunFrames X.base l:=by
  intro l
  induction l with
  |nil=>intro _ _;trivial
  |cons env r ih =>
   intro hs Y;obtain⟨Z,⟨L,o,J,hn,ho,hd⟩,hr⟩:=Y;have hL:=hs L (by unfold frs;rw[filterMap_cons,J];exact K1);obtain⟨sl,e⟩:=I.base.slot L o ho (I.ok.frf L hL) hL λz=>I.ok.exfs L z hL
   exact⟨Z,⟨L,_,J,hn,e,hd⟩,ih (λb U=>hs b (by unfold frs;rw[filterMap_cons,J];exact KH _ U)) hr⟩
 exact all X.outer (λ_ U=>U) I.ok.funs
theorem Inv.stack(I:Inv X pins σ H s):s.heap.FunFrames X.base X.stack:=by
 rcases I.ok.stk with e|⟨e,z⟩
 .rw[e];exact I.funs
 .rw[e];obtain⟨m,J,_⟩:=I.loc;refine .cons (by rw[I.ok.kind];decide) z J ?_ I.funs;exact Heap.get?_none_of_le (uw I.ok.bsz I.ok.above)
def Inv.stkSub(I:Inv X pins σ H s):∀b∈frs X.stack,b∈X.env.locals::X.fs:=λb z=>by
 rcases I.ok.stk with e|⟨e,J⟩
 .rw[e]at z;exact KH _ z
 .rw[e]at z;unfold frs at z;rw[filterMap_cons,J]at z;exact z
def Inv.stkFree(I:Inv X pins σ H s):∀b∈frs X.stack,H b=none:=λb J=>by
 rcases wh.mp (I.stkSub b J)with e|J
 .rw[e];exact I.free
 .obtain⟨_,o,ho,_⟩:=I.ok.funs.mem J;exact I.base.free b o ho (I.ok.frf b J) λz=>I.ok.exfs b z J
theorem Inv.step{ch:List Addr}(I:Inv X pins σ H s)
  (J:∀b∈ch,(b∈X.ex\/X.s₀.heap.objs.size<=b)/\b≠X.env.locals/\(∀x c,X.env.cells.lookup x=some c->c≠b)/\∀p∈X.pn++pins,p.1≠b)
  (keep:∀b o,b≠X.env.locals->b∉X.fs->b∉ch->s.heap.get? b=some o->H b=none->h'.get? b=some o)
  (slot:∀b o,b≠X.env.locals->b∈X.fs->b∉ch->s.heap.get? b=some o->H b=none->∃sl,h'.get? b=some { o with slots:=sl }) (free:∀b o,b∉ch->s.heap.get? b=some o->H b=none->H' b=none)
  (there:∀b o,b∉ch->s.heap.get? b=some o->∃o',h'.get? b=some o')
  (tups:∀b xs,H b=some (.tup xs)->H' b=some (.tup xs)) (frzs:∀b o u,H b=some (.frz o u)->H' b=some (.frz o u)) (tbls:∀b ps,H b=some (.tbl ps)->∃aO,H' b=some (.tbl (ps++aO)))
  (ns:∀m,s.heap.Ns X.env.locals m->h'.Ns X.env.locals m) (hok:HOk X.prog X.w H' h') (hg:AllBare g') :
  Inv X pins σ H' { s with heap:=h',gens:=g',drawn:=d',toks:=t' }:=by
 have a0:∀b o,X.s₀.heap.get? b=some o->b≠X.env.locals:=λb o e=>JW (JX (tf e) I.ok.above)
 have Z:∀b o,X.s₀.heap.get? b=some o->b∉X.ex->b∉ch:=λb o e hx hb=>by
  rcases(J b hb).1 with z|z
  .exact hx z
  .exact absurd (JX (tf e) z) (Ku _)
 have U:∀x c,X.env.cells.lookup x=some c->∀v,s.heap.IsCell c v->h'.IsCell c v:=λx c e v ⟨o,ho,hd⟩=>by
  have Y:c∉ch:=λz=>(J c z).2.2.1 x c e rfl
  by_cases hc:c∈X.fs
  .obtain⟨sl,q⟩:=slot c o (I.cne x c e) hc Y ho (I.freeC x c e);exact⟨_,q,hd⟩
  .exact⟨o,keep c o (I.cne x c e) hc Y ho (I.freeC x c e),hd⟩
 refine⟨I.ok,I.os,hg,⟨λb o e n hb hx=>?_,λb o e n hb hx=>?_,λb o e n hx=>?_,λb o e hx=>?_,λb xs e=>tups b xs (I.base.tups b xs e),λb o xs e=>frzs b o xs (I.base.frzs b o xs e),λb ps e=>?_⟩,?_,λx c e=>?_,?_,λx c e=>?_,λp hp=>?_,hok,I.len⟩
 .exact keep b o (a0 b o e) hb (Z b o e hx) (I.base.keep b o e n hb hx) (I.base.free b o e n hx)
 .obtain⟨sl,e1⟩:=I.base.slot b o e n hb hx;obtain⟨a3,e2⟩:=slot b _ (a0 b o e) hb (Z b o e hx) e1 (I.base.free b o e n hx);exact⟨a3,e2⟩
 .obtain⟨o',e1⟩:=I.base.there b o e hx;exact free b o' (Z b o e hx) e1 (I.base.free b o e n hx)
 .obtain⟨o',e1⟩:=I.base.there b o e hx;exact there b o' (Z b o e hx) e1
 .obtain⟨m1,e1⟩:=I.base.tbls b ps e;obtain⟨m2,e2⟩:=tbls b _ e1;exact⟨m1++m2,by rw[e2,Array.append_assoc]⟩
 .obtain⟨m,hn,hl⟩:=I.loc;refine⟨m,ns m hn,λi x v e1 e2 e3=>?_⟩;obtain⟨u,r,l⟩:=hl i x v e1 e2 e3;refine⟨u,r,?_⟩;rcases l with l|⟨k,c,e,z⟩
  .exact .inl l
  .exact .inr ⟨k,c,e,U x c e _ z⟩
 .obtain⟨v,z⟩:=I.cell x c e;exact⟨v,U x c e v z⟩
 .obtain⟨m,⟨o,_,_,ho,_⟩,_⟩:=I.loc;exact free _ o (λz=>(J _ z).2.1 rfl) ho I.free
 .obtain⟨v,o,ho,hd⟩:=I.cell x c e;exact free c o (λz=>(J c z).2.2.1 x c e rfl) ho (I.freeC x c e)
 .obtain⟨e,n,ne,nf,d⟩:=I.pin p hp;have Y:p.1∉ch:=λz=>(J p.1 z).2.2.2 p hp rfl
  exact⟨keep p.1 p.2 ne nf Y e n,free p.1 p.2 Y e n,ne,nf,d⟩
theorem Inv.un(I:Inv X pins σ H s)(u:Un X.fs [] H H' s.heap h')(hok:HOk X.prog X.w H' h'):Inv X pins σ H' { s with heap:=h',toks:=t' }:=by
 obtain⟨m,⟨o,es,ep,ho,r⟩,_⟩:=id I.loc;obtain⟨sl,hL⟩:=u.any ho I.free (by simp);exact I.step (ch:=[]) (λ_ z=>nomatch z) (λb o _ U _ e n=>u.keep b o e n U (by simp)) (λb o _ U _ e n=>u.slot b o e n U (by simp)) (λb o _ e n=>u.free b o e n (by simp)) (λb o _ e=>u.there b o e (by simp)) u.tups u.frzs u.tbls (λm' hm=>by
  obtain⟨o',Y,Z,J,r'⟩:=hm;rw[ho]at J;cases J
  exact⟨_,Y,Z,hL,r'⟩) hok I.bare
theorem Inv.call(I:Inv X pins σ H s)(u:Un (frs X.stack) ch H H' s.heap h')(hok:HOk X.prog X.w H' h')(hg:AllBare g')
  (J:∀b∈ch,(b∈X.ex\/X.s₀.heap.objs.size<=b)/\b≠X.env.locals/\(∀x c,X.env.cells.lookup x=some c->c≠b)/\∀p∈X.pn++pins,p.1≠b) :
  Inv X pins σ H' { s with heap:=h',gens:=g',drawn:=d',toks:=t' }:=by
 obtain⟨m,⟨o,es,ep,ho,r⟩,_⟩:=id I.loc;obtain⟨sl,hL⟩:=u.any ho I.free λz=>(J _ z).2.1 rfl
 exact I.step J (λb o hL hb hc e n=>u.keep b o e n (λz=>(wh.mp (I.stkSub b z)).elim hL hb) hc) (λb o _ _ hc e n=>u.any e n hc) (λb o hc e n=>u.free b o e n hc) (λb o hc e=>u.there b o e hc) u.tups u.frzs u.tbls (λm' hm=>by
  obtain⟨o',Y,Z,U,r'⟩:=hm;rw[ho]at U;cases U
  exact⟨_,Y,Z,hL,r'⟩) hok hg
def Inv.turned(I:Inv X pins σ H s)(k:∀b o,b≠it->s.heap.get? b=some o->h'.get? b=some o)(U:H it=none)(hL:it≠X.env.locals)
  (h1:it∈X.ex\/X.s₀.heap.objs.size<=it) (h2:∀x c,X.env.cells.lookup x=some c->c≠it) (Y:∀p∈X.pn++pins,p.1≠it):Inv X pins σ H { s with heap:=h',toks:=t' }:=by
 have J:∀b u,H b=some u->b≠it:=λb u e z=>by rw[z,U]at e;cases e
 refine I.step (ch:=[it]) (λb Z=>?_) (λb o _ _ hc e _=>k b o (λz=>hc (by simp[z])) e) (λb o _ _ hc e _=>⟨o.slots,k b o (λz=>hc (by simp[z])) e⟩) (λ_ _ _ _ n=>n)
  (λb o hc e=>⟨o,k b o (λz=>hc (by simp[z])) e⟩) (λ_ _ e=>e) (λ_ _ _ e=>e) (λb ps e=>⟨#[],by rw[e];simp⟩) (λm hm=>?_) (λb u e=>?_) I.bare
 .have e:b=it:=by simpa using Z
  subst e;exact⟨h1,hL,h2,Y⟩
 .obtain⟨o,es,ep,ho,r⟩:=hm;exact⟨o,es,ep,k _ o (LJ hL) ho,r⟩
 .refine(I.hok b u e).stay (λc v hc q=>k c v ?_ q) (λ_ q=>q) λ_ _ q=>q
  rcases hc with z|z
  .rw[z];exact J b u e
  .exact J c _ z
theorem Inv.tok(I:Inv X pins σ H s)(t):Inv X pins σ H { s with toks:=t }:=I.un (h':=s.heap) (t':=t) Un.refl I.hok
theorem Inv.kept(I:Inv X pins σ H s)(k:∀b u,s.heap.get? b=some u->h'.get? b=some u):Inv X pins σ H { s with heap:=h',toks:=t' }:=I.un (Un.kept k) (I.hok.kept k)
theorem Inv.laid(I:Inv X pins σ H s)(k:∀b u,s.heap.get? b=some u->h'.get? b=some u)(z:s.heap.objs.size<=a)(new:bL X.prog X.w (upd H a o) h' a o) :
  Inv X pins σ (upd H a o) { s with heap:=h',toks:=t' }:=I.un (Un.laid k z (I.hok.fresh z)) (I.hok.laid k z new)
theorem Inv.write(I:Inv X pins σ H s)(J:Mut (H x))(U:e=x\/H e=some (.own x))(k:∀b u,b≠e->s.heap.get? b=some u->h'.get? b=some u)(z:∃u,h'.get? e=some u)
  (new:bL X.prog X.w (upd H x o) h' x o):Inv X pins σ (upd H x o) { s with heap:=h',toks:=t' }:=I.un (Un.write J U k z) (I.hok.write J U k z new)
def Inv.pins_of(I:Inv X pins σ H s)(h:∀p∈J,s.heap.get? p.1=some p.2/\H p.1=none/\p.1≠X.env.locals/\p.1∉X.fs/\∀v,p.2.data≠.cell v):Inv X J σ H s:=
 ⟨I.ok,I.os,I.bare,I.base,I.loc,I.cell,I.free,I.freeC,λp U=>(Ki.mp U).elim (λz=>I.pin p (ML _ z)) (h p),I.hok,I.len⟩
def qU{N:List Str}(z:N.Nodup){i j:Nat}(a:N[i]?=some x)(b:N[j]?=some x):i=j:=by
 obtain⟨h1,J⟩:=G1.mp a;obtain⟨h2,U⟩:=G1.mp b;exact(getElem_inj z).mp (J.trans U.symm)
def oJ{i:Nat}{x:Str}{v:V}{u:Value}{Q:Unit->Shared->Prop}(I:Inv X pins σ H s)(hN:X.N.Nodup)(hi:X.N[i]?=some x)(hx:Loc X.env.scope x)(r:aD v u)
  (h:∀s',Inv X pins (σ.set i (some v)) H s'->(∃a,Heap.SameBut a s.heap s'.heap/\(a=X.env.locals\/X.env.cells.lookup x=some a))->Q () s') (hf:X.fn x=true\/X.env.scope.names.lookup x=some .local:=by first|exact .inl rfl|exact .inr rfl|assumption):wpAny M A (storeName X.env x u) Q E s:=by
 obtain⟨m,hn,hl⟩:=id I.loc;have a2:(X.env.scope.kind==.class||(X.env.scope.kind==.module&&X.env.locals != X.env.globals))=false:=by rw[I.ok.kind];rfl
 have ao:i<σ.length:=by rw[I.len];exact(G1.mp hi).1
 have cne:=I.cne;have J:∀{a}{h'},(∃o,s.heap.get? a=some o/\H a=none)->Heap.SameBut a s.heap h'->HOk X.prog X.w H h':=λ{a h'} ha hs b ob e=>by
  obtain⟨_,_,Y⟩:=ha;refine(I.hok b ob e).stay (λc w' hc q=>(hs.2 c ?_).trans q) (λ_ q=>q) λ_ _ q=>q
  rintro rfl;rcases hc with rfl|hc
  .rw[Y]at e;cases e
  .rw[Y]at hc;cases hc
 rcases hx with hk|hk
 .refine wpAny_storeName_local hk hn (λh' b1 hs=>?_) a2;obtain⟨oL,_,_,b2,_⟩:=id hn;refine h _ ⟨I.ok,I.os,I.bare,⟨λb o e n hb hx=>?_,λb o e n hb hx=>?_,I.base.free,λb o e hx=>?_,I.base.tups,I.base.frzs,I.base.tbls⟩,⟨_,b1,λj y v' U Z e3=>?_⟩,λy c e=>?_,I.free,I.freeC,λp hp=>?_,J ⟨oL,b2,I.free⟩ hs,by simpa using I.len⟩ ⟨_,hs,.inl rfl⟩
  .exact(hs.2 b (JW (JX (tf e) I.ok.above))).trans (I.base.keep b o e n hb hx)
  .obtain⟨sl,U⟩:=I.base.slot b o e n hb hx;exact⟨sl,(hs.2 b (JW (JX (tf e) I.ok.above))).trans U⟩
  .obtain⟨o',U⟩:=I.base.there b o e hx;exact⟨o',(hs.2 b (JW (JX (tf e) I.ok.above))).trans U⟩
  .by_cases hj:j=i
   .subst hj;rw[hi]at U;cases U
    rw[Lg ao]at Z;cases Z;exact⟨u,r,.inl ⟨hk,by simp⟩⟩
   .rw[Kj (LJ hj)]at Z;obtain⟨u',r',q⟩:=hl j y v' U Z e3;refine⟨u',r',?_⟩;rcases q with⟨k,e⟩|⟨k,c,e,z⟩
    .refine .inl ⟨k,?_⟩;have:y≠x:=λe=>hj (qU hN U (e▸hi))
     simp[this,e]
    .exact .inr ⟨k,c,e,z.sameBut hs (cne y c e)⟩
  .obtain⟨w',z⟩:=I.cell y c e;exact⟨w',z.sameBut hs (cne y c e)⟩
  .obtain⟨e,n,ne,nf,d⟩:=I.pin p hp;exact⟨(hs.2 p.1 ne).trans e,n,ne,nf,d⟩
 .have a1:X.fn x=true:=by
   rcases hf with z|z
   .exact z
   .rw[z]at hk;cases hk
  obtain⟨c,hc⟩:=I.ok.has x (.inl hk);obtain⟨w',z⟩:=I.cell x c hc;refine wpAny_storeName_cell I.ok.kind hk hc z (λh' a3 hs=>?_);obtain⟨oc,a4,a5⟩:=id z;refine h { s with heap:=h' } ⟨I.ok,I.os,I.bare,⟨λb o e n hb hx=>?_,λb o e n hb hx=>?_,I.base.free,λb o e hx=>?_,I.base.tups,I.base.frzs,I.base.tbls⟩,⟨m,hn.sameBut hs (LJ (cne x c hc)),λj y v' U Z e3=>?_⟩,λy c' e=>?_,I.free,I.freeC,λp hp=>?_,J ⟨oc,a4,I.freeC x c hc⟩ hs,by simpa using I.len⟩ ⟨c,hs,.inr hc⟩
  .exact(hs.2 b (JW (JX (tf e) (I.ok.cab x c a1 hc)))).trans (I.base.keep b o e n hb hx)
  .obtain⟨sl,U⟩:=I.base.slot b o e n hb hx;exact⟨sl,(hs.2 b (JW (JX (tf e) (I.ok.cab x c a1 hc)))).trans U⟩
  .obtain⟨o',U⟩:=I.base.there b o e hx;exact⟨o',(hs.2 b (JW (JX (tf e) (I.ok.cab x c a1 hc)))).trans U⟩
  .by_cases hj:j=i
   .subst hj;rw[hi]at U;cases U
    rw[Lg ao]at Z;cases Z;exact⟨u,r,.inr ⟨.inl hk,c,hc,a3⟩⟩
   .rw[Kj (LJ hj)]at Z;obtain⟨u',r',q⟩:=hl j y v' U Z e3;refine⟨u',r',?_⟩;rcases q with q|⟨k,c',e,z'⟩
    .exact .inl q
    .refine .inr ⟨k,c',e,z'.sameBut hs ?_⟩;rintro rfl;exact hj (qU hN U (I.ok.inj _ _ _ e hc▸hi))
  .by_cases a6:c'=c
   .subst a6;exact⟨_,a3⟩
   .obtain⟨w2,z2⟩:=I.cell y c' e;exact⟨w2,z2.sameBut hs a6⟩
  .obtain⟨e,n,ne,nf,d⟩:=I.pin p hp;refine⟨(hs.2 p.1 ?_).trans e,n,ne,nf,d⟩;intro q;rw[q,a4]at e;have q':=J2 e;exact d w' (by rw[<- q'];exact a5)
def qV{i:Nat}{x:Str}{v:V}{u:Value}{Q:Unit->Shared->Prop}(I:Inv X pins σ H s)(z:X.N.Nodup)(hi:X.N[i]?=some x)(hx:Loc X.env.scope x)(r:aD v u)
  (h:∀s',Inv X pins (σ.set i (some v)) H s'->Q () s') (J:X.fn x=true\/X.env.scope.names.lookup x=some .local:=by first|exact .inl rfl|exact .inr rfl|assumption):wpAny M A (storeName X.env x u) Q E s:=
 oJ I z hi hx r (λs' U _=>h s' U) J
def Inv.call'(I:Inv X pins σ H s)(ho:s'.os=s.os)(u:Un (frs X.stack) ch H H' s.heap s'.heap)(hok:HOk X.prog X.w H' s'.heap)(J:AllBare s'.gens)
  (z:∀b∈ch,(b∈X.ex\/X.s₀.heap.objs.size<=b)/\b≠X.env.locals/\(∀x c,X.env.cells.lookup x=some c->c≠b)/\∀p∈X.pn++pins,p.1≠b):Inv X pins σ H' s':=by
 obtain⟨h',g',d',t',o'⟩:=s';have e:=ho;subst e;exact I.call u hok J z
end
noncomputable abbrev XK:=Value->Option Addr->Hp->Prop
noncomputable abbrev St:=List (Option V)
noncomputable abbrev VK:=V->Hp->Prop
noncomputable abbrev TE:=St->Hp->VK->Prop
noncomputable abbrev TT:=St->Hp->(Bool->Hp->Prop)->Prop
noncomputable abbrev TA:=St->Hp->(List V->Hp->Prop)->Prop
structure Bo where
 nx:St->Hp->Prop
 rt:VK
 bk:St->Hp->Prop:=λ_ _=>False
 ct:St->Hp->Prop:=λ_ _=>False
noncomputable abbrev TS:=Bo->St->Hp->Prop
def EP(X:Cx)(pins:List (Addr×Obj))(σ:St)(Q:VK)(u:Value)(s':Shared):Prop:=∃v H',Inv X pins σ H' s'/\aD v u/\Q v H'
def TP(X:Cx)(pins:List (Addr×Obj))(σ:St)(Q:Bool->Hp->Prop)(b:Bool)(s':Shared):Prop:=∃H',Inv X pins σ H' s'/\Q b H'
def AP(X:Cx)(pins:List (Addr×Obj))(σ:St)(Q:List V->Hp->Prop)(us:List Value)(s':Shared):Prop:=∃vs H',Inv X pins σ H' s'/\aG vs us/\Q vs H'
def SP(X:Cx)(pins:List (Addr×Obj))(D:Bo)(f:Flow)(s':Shared):Prop:=
 match f with
 | .next=>∃F H',Inv X pins F H' s'/\D.nx F H'
 | .brk=>∃F H',Inv X pins F H' s'/\D.bk F H'
 | .cont=>∃F H',Inv X pins F H' s'/\D.ct F H'
 | .ret u=>∃v F H',Inv X pins F H' s'/\aD v u/\D.rt v H'
def PE(X:Cx)(e:Expr)(t:TE):Prop:=
 ∀pins s (σ:St) H Q,Inv X pins σ H s->t σ H Q->wpAny (model X.prog X.w) X.A (eval e X.env) (EP X pins σ Q) X.xe s
def PT(X:Cx)(e:Expr)(t:TT):Prop:=
 ∀pins s (σ:St) H Q,Inv X pins σ H s->t σ H Q->wpAny (model X.prog X.w) X.A (isTrue e X.env (eval e X.env)) (TP X pins σ Q) X.xe s
def PW(X:Cx)(e:Expr)(t:TT):Prop:=
 ∀whole pins s (σ:St) H Q,Inv X pins σ H s->t σ H Q->wpAny (model X.prog X.w) X.A (isTrue e X.env whole) (TP X pins σ Q) X.xe s
theorem PW.pt(h:PW X e t):PT X e t:=h _
def PA(X:Cx)(es:List Expr)(t:TA):Prop:=
 ∀pos pins s (σ:St) H Q,Inv X pins σ H s->t σ H Q->wpAny (model X.prog X.w) X.A (spliced (backTo pos (starEach es X.env))) (AP X pins σ Q) X.xe s
def PS(X:Cx)(st:Stmt)(t:TS):Prop:=
 ∀pins s (σ:St) H D,Inv X pins σ H s->t D σ H->wpAny (model X.prog X.w) X.A (exec st X.env) (SP X pins D) X.xe s
def PSs(X:Cx)(st:List Stmt)(t:TS):Prop:=
 ∀pins s (σ:St) H D,Inv X pins σ H s->t D σ H->wpAny (model X.prog X.w) X.A (execs st X.env) (SP X pins D) X.xe s
def thn(h:wpAny M A t Q E s)(z:∀a s,Q a s->J a s):wpAny M A t J E s:=Ks h z λ_ _ x=>x
section
variable{X:Cx}
def bin(Y:PE X a ta)(Z:PE X b tb){σ:St}{R:V->V->Hp->Prop}(I:Inv X pins σ H s)(h:ta σ H λx H1=>tb σ H1 λy H2=>R x y H2)
  {f:Value->Value->Sem α}
  (hf:∀v u U x y H2,Inv X pins σ H2 U->aD x v->aD y u->R x y H2->wpAny (model X.prog X.w) X.A (f v u) Q X.xe U) :
  wpAny (model X.prog X.w) X.A (eval a X.env) (λv z=>wpAny (model X.prog X.w) X.A (eval b X.env) (λu J=>wpAny (model X.prog X.w) X.A (f v u) Q X.xe J) X.xe z) X.xe s:=by
 refine thn (Y pins s σ H _ I h) λv s1 ⟨x,H1,I1,r1,q1⟩=>?_
 refine thn (Z pins s1 σ H1 _ I1 q1) λu U ⟨y,H2,I2,r2,q2⟩=>?_
 exact hf v u U x y H2 I2 r1 r2 q2
noncomputable def GD(i:Nat):TE:=λσ H Q=>∃v,σ[i]?=some (some v)/\Q v H
noncomputable def tC(v:V):TE:=λ_ H Q=>Q v H
def DK (Y:X.N[i]?=some x) (hv:Vis X.env.scope x) (hd:(x==("__debug__":Str))=false:=by decide) (U:(x==("__classdict__":Str))=false:=by decide):PE X (.Name x pos) (GD i):=by
 intro pins s σ H Q I h;obtain⟨v,e,h⟩:=h;obtain⟨m,Z,hl⟩:=I.loc;obtain⟨u,r,l⟩:=hl i x v Y e hv;have fin:EP X pins σ Q u s:=⟨v,H,I,r,h⟩;rcases l with⟨J,hm⟩|⟨J,c,hc,z⟩
 .exact wpAny_Name (wpAny_loadName_local I.ok.kind J Z hm fin) hd
 .rcases J with J|J
  .exact wpAny_Name (wpAny_loadName_cell I.ok.kind J hc z fin) hd
  .exact wpAny_Name (wpAny_loadName_free I.ok.kind J hc z fin U) hd
def DL{i j pos}:PE X (.Constant (.int i) j pos) (tC (.int i)):=λ_ _ _ H _ I h=>wpAny_Constant_int ⟨.int i,H,I.tok _,⟨_,rfl⟩,h⟩
def GE{b j pos}:PE X (.Constant (.bool b) j pos) (tC (.bl b)):=λ_ _ _ H _ I h=>Constant_bool ⟨.bl b,H,I,rfl,h⟩
def DM{j pos}:PE X (.Constant .none j pos) (tC .non):=λ_ _ _ H _ I h=>Constant_none ⟨.non,H,I,rfl,h⟩
def sW{x j pos}:PE X (.Constant (.str x) j pos) (tC (.str x)):=λ_ _ _ H _ I h=>Calls.Constant_str ⟨.str x,H,I.tok _,⟨_,rfl⟩,h⟩
def Gl(X:Cx)(x:Str):Prop:=X.env.kindOf x=some .globalImplicit
def pS{pins:List (Addr×Obj)}{s:Shared}{σ:St}{H:Hp}{x:Str}{u:Value}{pos:Pos}{Q:Value->Shared->Prop}(I:Inv X pins σ H s)(z:Gl X x)(J:X.mg x=some u)(h:Q u s)
  (hd:(x==("__debug__":Str))=false:=by decide):wpAny (model X.prog X.w) X.A (eval (.Name x pos) X.env) Q E s:=
 Calls.Name_function_global I.ok.kind z (Calls.loadGlobal_global (by rw[I.ok.glob];exact I.mod.glob.keeps I.bk) J h) hd
def gC{E:Value->Shared->Prop}{pins:List (Addr×Obj)}{s:Shared}{σ:St}{H:Hp}{x:Str}{u:Value}{pos:Pos}{Q:Value->Shared->Prop}(I:Inv X pins σ H s)(z:Gl X x)(J:X.mg x=none)(hv:bootBuiltins x=some u)(h:Q u s)
  (U:x ≠ "__name__":=by decide) (hd:(x==("__debug__":Str))=false:=by decide):wpAny (model X.prog X.w) X.A (eval (.Name x pos) X.env) Q E s:=by
 obtain⟨Y,h1,h2⟩:=I.mod.blt;exact Calls.Name_function_global I.ok.kind z (Calls.loadGlobal_builtin (by rw[I.ok.glob];exact I.mod.glob.keeps I.bk) J (by rw[I.ok.blt];exact h1.keeps I.bk) ((h2 x U).trans hv) h) hd
def Bp (z:Gl X x) (J:X.mg x=some u) (r:aD v u) (hd:(x==("__debug__":Str))=false:=by decide):PE X (.Name x pos) (tC v):=
 λ_ _ _ H _ I h=>pS I z J ⟨v,H,I,r,h⟩ hd
def Bq (z:Gl X x) (J:X.mg x=none) (hv:bootBuiltins x=some u) (r:aD v u) (U:x ≠ "__name__":=by decide) (hd:(x==("__debug__":Str))=false:=by decide):PE X (.Name x pos) (tC v):=
 λ_ _ _ H _ I h=>gC I z J hv ⟨v,H,I,r,h⟩ U hd
variable{a b:Expr}{ta tb:TE}{pos:Pos}
def PC(X:Cx)(op:CmpOp)(a b:Expr)(t:TE):Prop:=
 ∀pins s (σ:St) H Q,Inv X pins σ H s->t σ H Q ->
  wpAny (model X.prog X.w) X.A (eval a X.env) (λv z=>wpAny (model X.prog X.w) X.A (eval b X.env) (λu J=>wpAny (model X.prog X.w) X.A (compareOp op v u) (EP X pins σ Q) X.xe J) X.xe z) X.xe s
noncomputable def tB(t:TE):TT:=λσ H Q=>t σ H λx H1=>∃c,x=.bl c/\Q c H1
def xZ(h:PC X op a b t)(h1:behindInMarks op b=false:=by first|exact z _ (by decide) (by decide)|rfl):PE X (.Compare a [op] [b] pos) t:=λpins s σ H Q I hw=>wpAny_Compare1 (h pins s σ H Q I hw) h1
def x0(h:PC X op a b t)(h1:behindInMarks op b=false:=by first|exact z _ (by decide) (by decide)|rfl):PT X (.Compare a [op] [b] pos) (tB t):=by
 intro pins s σ H Q I hw;refine wpAny_isTrue_Compare1 (thn (h pins s σ H _ I hw) λv Z h1=>thn h1 λu s2 h2=>thn h2 λc s3 ⟨x,H1,J,U,Y⟩=>?_) h1;obtain⟨d,rfl,q⟩:=Y;cases U;exact K4 ⟨H1,J,q⟩
def DN(h:PE X e t)(z:∀whole,isTrue e X.env whole=(do let v <- whole;standAt e.pos;holding [v] (truthy v)):=by intro _;rfl):PT X e (tB t):=by
 intro pins s σ H Q I hw;refine isTrue_plain (thn (h pins s σ H _ I hw) λv Z ⟨x,H1,J,U,Y⟩=>?_) (z _);obtain⟨d,rfl,q⟩:=Y;cases U;exact K4 ⟨H1,J,q⟩
variable{tA tB':TT}{bQ:List Expr}
noncomputable def Jc(t u:TT):TT:=λσ H Q=>t σ H λc H1=>if c=true then u σ H1 Q else Q false H1
noncomputable def tOr(t u:TT):TT:=λσ H Q=>t σ H λc H1=>if c=true then Q true H1 else u σ H1 Q
noncomputable def Jd(t:TT):TT:=λσ H Q=>t σ H λc H1=>Q (!c) H1
def Br(z:PT X a tA):PW X (.BoolOp .And [a] pos) tA:=by
 intro J pins s σ H Q I h;refine isTrue_and (thn (z pins s σ H Q I h) λc U e=>?_);cases c<;>first|exact isTrue_and_nil e|exact e
def DO(z:PT X a tA):PW X (.BoolOp .Or [a] pos) tA:=by
 intro J pins s σ H Q I h;refine isTrue_or (thn (z pins s σ H Q I h) λc U e=>?_);cases c<;>first|exact isTrue_or_nil e|exact e
def DP(U:PT X a tA)(Y:PW X (.BoolOp .And (b::bQ) pos) tB'):PW X (.BoolOp .And (a::b::bQ) pos) (Jc tA tB'):=by
 intro Z pins s σ H Q I h;refine isTrue_and (thn (U pins s σ H _ I h) λc s1 ⟨H1,z,J⟩=>?_);cases c<;>first|exact Y Z pins s1 σ H1 Q z J|exact⟨H1,z,J⟩
def GF(U:PT X a tA)(Y:PW X (.BoolOp .Or (b::bQ) pos) tB'):PW X (.BoolOp .Or (a::b::bQ) pos) (tOr tA tB'):=by
 intro Z pins s σ H Q I h;refine isTrue_or (thn (U pins s σ H _ I h) λc s1 ⟨H1,z,J⟩=>?_);cases c<;>first|exact⟨H1,z,J⟩|exact Y Z pins s1 σ H1 Q z J
def DQ(z:PT X a tA):PT X (.UnaryOp .Not a pos) (Jd tA):=by
 intro pins s σ H Q I h;exact isTrue_not (z pins s σ H (λc H1=>Q _ H1) I h)
noncomputable def GG(ta tb:TE):TE:=λσ H Q=>ta σ H λx H1=>∃c,x=.bl c/\if c=true then tb σ H1 Q else Q (.bl false) H1
noncomputable def Je(ta tb:TE):TE:=λσ H Q=>ta σ H λx H1=>∃c,x=.bl c/\if c=true then Q (.bl true) H1 else tb σ H1 Q
noncomputable def GH(ta:TE):TE:=λσ H Q=>ta σ H λx H1=>∃c,x=.bl c/\Q (.bl (!c)) H1
def x_{op}(h:PE X a t):PE X (.BoolOp op [a] pos) t:=λpins s σ H Q I hw=>BoolOp_one (h pins s σ H Q I hw)
def DR(U:PE X a ta)(Y:PE X (.BoolOp .And (b::bQ) pos) tb):PE X (.BoolOp .And (a::b::bQ) pos) (GG ta tb):=by
 intro pins s σ H Q I h;refine BoolOp_and (thn (U pins s σ H _ I h) λv Z ⟨x,H1,J,r1,z⟩=>?_);obtain⟨c,rfl,z⟩:=z;cases r1;refine K4 ?_;cases c<;>first|exact Y pins Z σ H1 Q J z|exact⟨.bl false,H1,J,rfl,z⟩
def GI(U:PE X a ta)(Y:PE X (.BoolOp .Or (b::bQ) pos) tb):PE X (.BoolOp .Or (a::b::bQ) pos) (Je ta tb):=by
 intro pins s σ H Q I h;refine BoolOp_or (thn (U pins s σ H _ I h) λv Z ⟨x,H1,J,r1,z⟩=>?_);obtain⟨c,rfl,z⟩:=z;cases r1;refine K4 ?_;cases c<;>first|exact Y pins Z σ H1 Q J z|exact⟨.bl true,H1,J,rfl,z⟩
def DS(J:PE X a ta):PE X (.UnaryOp .Not a pos) (GH ta):=by
 intro pins s σ H Q I h;refine UnaryOp_ (thn (J pins s σ H _ I h) λv Z ⟨x,H1,U,Y,z⟩=>?_);obtain⟨c,rfl,z⟩:=z;cases Y;exact not_of (K4 ⟨.bl _,H1,U,rfl,z⟩)
noncomputable def tIf(t:TT)(ta tb:TE):TE:=λσ H Q=>t σ H λc H1=>if c=true then ta σ H1 Q else tb σ H1 Q
def ya(hc:PT X c tA)(Y:PE X a ta)(Z:PE X b tb):PE X (.IfExp c a b pos) (tIf tA ta tb):=by
 intro pins s σ H Q I h;refine wpAny_IfExp (thn (hc pins s σ H _ I h) λd z ⟨H1,J,U⟩=>?_);cases d<;>first|exact Y pins z σ H1 Q J U|exact Z pins z σ H1 Q J U
end
def SqL(K:NF)(H:Hp)(a:Addr)(xs:List V):Prop:=
 Rd H a (.lst xs) \/
  ∃o its n,K.lookup a=some o/\o.cls=.type "list"/\o.dict=none/\o.data=.seq its n/\its.size<=sizeLine/\aG xs its.toList
def SqT(K:NF)(H:Hp)(a:Addr)(xs:List V):Prop:=
 Rd H a (.tup xs) \/
  ∃o its n,K.lookup a=some o/\o.cls=.type "tuple"/\o.data=.seq its n/\its.size<=sizeLine/\aG xs its.toList
noncomputable def Jf:Value->Option V
 | .none=>some .non
 | .bool b=>some (.bl b)
 | .int i _=>some (.int i)
 | .str x _=>some (.str x)
 | .bytes b _=>some (.byt b)
 | .float b _=>some (.flt b)
 | .ref a=>some (.ref a)
 | .type n=>some (.ty n)
 | _=>none
theorem aD.abs(r:aD x u):Jf u=some x:=by
 cases x<;>first|(cases r;rfl)|(obtain⟨t,rfl⟩:=r;rfl)
theorem aD.inj(r:aD x u)(q:aD y u):x=y:=J2 (r.abs.symm.trans q.abs)
theorem aG.inj:∀{xs ys}{us},aG xs us->aG ys us->xs=ys
 | _,_,_,.nil,.nil=>rfl
 | _,_,_,.cons r t,.cons z t'=>by rw[r.inj z,aG.inj t t']
section
variable{X:Cx}{pins:List (Addr×Obj)}{σ:St}{H:Hp}{s:Shared}{a:Addr}{xs ys:List V}
theorem SqL.of{K:NF}(h:H a=some (.lst xs)):SqL K H a xs:=.inl (.inl h)
theorem SqT.of{K:NF}(h:H a=some (.tup xs)):SqT K H a xs:=.inl (.inl h)
theorem Inv.list(I:Inv X pins σ H s)(h:SqL X.K H a xs):∃its,aG xs its/\PlainL s.heap a its.toArray/\xs.length<=sizeLine:=by
 rcases h with h|⟨o,its,n,J,hc,hd,hs,hz,r⟩
 .obtain⟨z,its,n,r,e⟩:=h.ok I.hok;exact⟨its,r,⟨_,n,e,rfl,rfl,rfl⟩,z⟩
 .refine⟨its.toList,r,⟨o,n,I.kIn a o J,hc,hd,by simpa using hs⟩,?_⟩;have e:=r.length
  simp_all
def Inv.tuple(I:Inv X pins σ H s)(h:SqT X.K H a xs):∃its,aG xs its/\IsTup s.heap a its.toArray/\xs.length<=sizeLine:=by
 rcases h with h|⟨o,its,n,J,hc,hs,hz,r⟩
 .obtain⟨z,its,r,p⟩:=h.ok I.hok;exact⟨its,r,p,z⟩
 .refine⟨its.toList,r,⟨o,I.kIn a o J,hc,n,by simpa using hs⟩,?_⟩;have e:=r.length
  simp_all
def Inv.list_inj(I:Inv X pins σ H s)(h:SqL X.K H a xs)(h':SqL X.K H a ys):xs=ys:=by
 obtain⟨its,r,⟨o,n,e,_,_,d⟩,_⟩:=I.list h;obtain⟨its',J,⟨o',Y,z,_,_,d'⟩,_⟩:=I.list h';rw[e]at z;cases z
 rw[d]at d';injection d' with U _
 have:its=its':=by simpa using Kn Array.toList U
 subst this;exact r.inj J
def Inv.tuple_inj(I:Inv X pins σ H s)(h:SqT X.K H a xs)(h':SqT X.K H a ys):xs=ys:=by
 obtain⟨its,r,⟨o,e,_,n,d⟩,_⟩:=I.tuple h;obtain⟨its',J,⟨o',z,_,Y,d'⟩,_⟩:=I.tuple h';rw[e]at z;cases z
 rw[d]at d';injection d' with U _
 have:its=its':=by simpa using Kn Array.toList U
 subst this;exact r.inj J
end
noncomputable abbrev Cx.wish(X:Cx)(E:Value->Shared->Prop):Cx:={ X with xe:=E }
noncomputable abbrev Cx.nox(X:Cx):Cx:=X.wish λ_ _=>False
theorem Cx.Ok.wish{X:Cx}(ok:X.Ok)(E:Value->Shared->Prop):(X.wish E).Ok:=
 ⟨ok.mod,ok.kind,ok.glob,ok.blt,ok.above,ok.inj,ok.has,ok.cab,ok.hd,ok.frames,ok.stk,ok.exf,ok.bs,ok.bsz,ok.noex,ok.exfs,ok.funs,ok.frf⟩
theorem Cx.Ok.unwish{X:Cx}{E:Value->Shared->Prop}(ok:(X.wish E).Ok):X.Ok:=
 ⟨ok.mod,ok.kind,ok.glob,ok.blt,ok.above,ok.inj,ok.has,ok.cab,ok.hd,ok.frames,ok.stk,ok.exf,ok.bs,ok.bsz,ok.noex,ok.exfs,ok.funs,ok.frf⟩
section
variable{X:Cx}{pins:List (Addr×Obj)}{σ:St}{H:Hp}{s:Shared}{E:Value->Shared->Prop}
theorem Inv.wish(I:Inv X pins σ H s)(E):Inv (X.wish E) pins σ H s:=⟨I.ok.wish E,I.os,I.bare,I.base,I.loc,I.cell,I.free,I.freeC,I.pin,I.hok,I.len⟩
theorem Inv.unwish(I:Inv (X.wish E) pins σ H s):Inv X pins σ H s:=⟨I.ok.unwish,I.os,I.bare,I.base,I.loc,I.cell,I.free,I.freeC,I.pin,I.hok,I.len⟩
theorem SP.unwish(h:SP (X.wish E) pins D f s'):SP X pins D f s':=by
 cases f<;>first|(obtain⟨F,H',I,q⟩:=h;exact⟨F,H',I.unwish,q⟩)|(obtain⟨v,F,H',I,r,q⟩:=h;exact⟨v,F,H',I.unwish,r,q⟩)
theorem PSs.nox{st:List Stmt}(h:PSs X.nox st t):PSs X st t:=λpins s σ H D I hw =>
 Ks (h pins s σ H D (I.wish _) hw) (λ_ _ q=>q.unwish) λ_ _ z=>False.elim z
end
section
variable{X:Cx}{st:Stmt}{bQ:List Stmt}{t u:TS}{e:Expr}{te:TE}{pos:Pos}
noncomputable def GJ:TS:=λD σ H=>D.nx σ H
noncomputable def Jg(t u:TS):TS:=λD σ H=>t { D with nx:=u D } σ H
def Bs:PSs X [] GJ:=λ_ _ σ H _ I h=>wpAny_execs_nil ⟨σ,H,I,h⟩
def yb(h1:PS X st t)(h2:PSs X bQ u):PSs X (st::bQ) (Jg t u):=by
 intro pins s σ H D I h;refine wpAny_execs_cons (thn (h1 pins s σ H { D with nx:=u D } I h) λf z q=>?_);cases f with
 |next =>
  obtain⟨F,H',J,q⟩:=q;exact h2 pins z F H' D J q
 | _=>exact q
def Inv.quiet(I:Inv X pins σ H s):interactive X.env=false:=by simp[interactive,I.ok.kind]
noncomputable def GK(te:TE):TS:=λD σ H=>te σ H λ_ H1=>D.nx σ H1
def lN(z:PE X e te)(hs:swapsWith e none pos.line X.env=pure false:=by rfl):PS X (.Expr e pos) (GK te):=by
 intro pins s σ H D I h;exact wpAny_Expr_any (thn (z pins s σ H _ I h) λv Y ⟨x,H1,J,Z,U⟩=>⟨σ,H1,J,U⟩) I.quiet hs
noncomputable def Jh(te:TE):TS:=λD σ H=>te σ H D.rt
def pT(z:PE X e te):PS X (.Return (some e) pos) (Jh te):=by
 intro pins s σ H D I h;exact wpAny_Return_some (thn (z pins s σ H _ I h) λv Z ⟨x,H1,J,U,Y⟩=>⟨x,σ,H1,J,U,Y⟩)
noncomputable def Ji(c:TT)(t u:TS):TS:=λD σ H=>c σ H λb H1=>if b=true then t D σ H1 else u D σ H1
def GL(hc:PT X c tc)(Y:PSs X a t)(Z:PSs X b u):PS X (.If c a b pos) (Ji tc t u):=by
 intro pins s σ H D I h;refine wpAny_If (thn (hc pins s σ H _ I h) λd z ⟨H1,J,U⟩=>?_);cases d<;>first|exact Y pins z σ H1 D J U|exact Z pins z σ H1 D J U
noncomputable def DT:TS:=λ_ _ _=>False
def yc:PS X st DT:=λ_ _ _ _ _ _ h=>h.elim
end
noncomputable abbrev TG:=V->St->Hp->(St->Hp->Prop)->Prop
noncomputable abbrev TGs:=List V->St->Hp->(St->Hp->Prop)->Prop
def PG(X:Cx)(target:Expr)(t:TG):Prop:=
 ∀pins s (σ:St) H v u Q,Inv X pins σ H s->aD v u->t v σ H Q ->
  wpAny (model X.prog X.w) X.A (assign target X.env u) (λ_ s'=>∃F H',Inv X pins F H' s'/\Q F H') X.xe s
def PGs(X:Cx)(z:List Expr)(t:TGs):Prop:=
 ∀pins s (σ:St) H vs us Q,Inv X pins σ H s->aG vs us->t vs σ H Q ->
  wpAny (model X.prog X.w) X.A (assignInOrder ((assignEach z X.env).map (·.2)) us) (λ_ s'=>∃F H',Inv X pins F H' s'/\Q F H') X.xe s
noncomputable abbrev GM:=V->V->V->Hp->(Hp->Prop)->Prop
def GN(X:Cx)(t:GM):Prop:=
 ∀pins s (σ:St) H o i v z J u Q,Inv X pins σ H s->aD o z->aD i J->aD v u->t o i v H Q ->
  wpAny (model X.prog X.w) X.A (setItem z J u) (λ_ s'=>∃H',Inv X pins σ H' s'/\Q H') X.xe s
section
variable{X:Cx}{pos:Pos}
noncomputable def ig(i:Nat):TG:=λv σ H Q=>Q (σ.set i (some v)) H
def lO(z:X.N.Nodup)(hi:X.N[i]?=some x)(hx:Loc X.env.scope x)(J:X.fn x=true\/X.env.scope.names.lookup x=some .local:=by first|exact .inl rfl|exact .inr rfl|assumption):PG X (.Name x pos) (ig i):=by
 intro pins s σ H v u Q I r h;exact wpAny_assign_Name (qV I z hi hx r (λs' U=>⟨_,H,U,h⟩) J)
noncomputable def GO:TGs:=λvs σ H Q=>vs=[]/\Q σ H
noncomputable def Db(t:TG)(u:TGs):TGs:=λvs σ H Q=>∃v r,vs=v::r/\t v σ H λF H'=>u r F H' Q
def Bt:PGs X [] GO:=by
 intro pins s σ H vs us Q I r h;obtain⟨e,h⟩:=h;subst e;cases r;exact assignInOrder_nil ⟨σ,H,I,h⟩
def yd(h1:PG X e t)(h2:PGs X es u)
  (hs:(assignEach (e::es) X.env).map (·.2)=assign e X.env::(assignEach es X.env).map (·.2):=by rfl):PGs X (e::es) (Db t u):=by
 intro pins s σ H vs us Q I r h;obtain⟨v,vr,J,h⟩:=h;subst J;cases r with
 |cons r U =>
  rw[hs];refine assignInOrder_cons (thn (h1 pins s σ H _ _ _ I r h) λ_ Y ⟨z,H1,Z,q1⟩=>?_);exact h2 pins Y z H1 _ _ Q Z U q1
noncomputable def GP(K:NF)(n:Nat)(t:TGs):TG:=λv σ H Q=>∃a xs,v=.ref a/\SqT K H a xs/\xs.length=n/\t xs σ H Q
def DU{k:Nat}(hc:X.calm=true)(h:PGs X es t)
  (U:(assignEach es X.env).length=n:=by rfl) (z:(assignEach es X.env).findIdx? (·.1)=none:=by rfl):PG X (.Tuple es k pos) (GP X.K n t):=by
 intro pins s σ H v u Q I r hw;refine ax λZq Y=>?_
 obtain⟨a,xs,Z,hq,hl,hw⟩:=hw;subst Z;cases r;obtain⟨its,J,ht,hz⟩:=I.tuple hq;refine Y ?_;refine assign_Tuple_tuple (I.ok.hd hc) ht (by simp[U,<- hl,J.length]) z λh' hx=>?_
 have I1:=I.kept (t':=s.toks) λb o e=>hx b o (JW (tf e)) e
 exact h pins _ σ H xs _ Q I1 (by simpa using J) hw
noncomputable def Jj(to z:TE)(t:GM):TG:=λv σ H Q=>to σ H λo H1=>z σ H1 λi H2=>t o i v H2 λJ=>Q σ J
def DV(ho:PE X o to)(hi:PE X i U)(hs:GN X t)
  (Y:∀v,assign (.Subscript o i pos) X.env v=(do
   let z <- holding [v] (eval o X.env)
   let J <- holding [v,z] (eval i X.env)
   standAt pos
   holding [v,z,J] (setItem z J v)
   release [v,z,J] []):=by intro _;rfl):PG X (.Subscript o i pos) (Jj to U t):=by
 intro pins s σ H v u Q I r h;rw[Y];refine ez (Kl (thn (ho pins s σ H _ I h) λz Z ⟨x,H1,I1,r1,q1⟩=>?_));refine ez (Kl (thn (hi pins Z σ H1 _ I1 q1) λJ s2 ⟨y,H2,I2,r2,q2⟩=>?_));refine ez (wpAny_standAt (ez (Kl (thn (hs pins s2 σ H2 x y v z J u _ I2 r1 r2 r q2) λ_ s3 ⟨H3,I3,q3⟩=>?_))));exact wpAny_release ⟨σ,H3,I3,q3⟩
noncomputable def sX(te:TE)(g:TG):TS:=λD σ H=>te σ H λx H1=>g x σ H1 D.nx
def DW(z:PE X e te)(J:PG X tg g)(hs:swapsWithSole [tg] e pos.line X.env=pure false:=by rfl)(hw:swappedStores [tg] e X.env=pure none:=by rfl)
  (h1:(assignEach [tg] X.env).map (·.2)=[assign tg X.env]:=by rfl):PS X (.Assign [tg] e pos) (sX te g):=by
 intro pins s σ H D I h;refine wpAny_Assign_stores (thn (z pins s σ H _ I h) λv U ⟨x,H1,Y,Z,q1⟩=>?_) hs hw;rw[h1];exact thn (J pins U σ H1 x v _ Y Z q1) λ_ s2 q=>q
def kj(z:X.N.Nodup)(hi:X.N[i]?=some x)(hx:Loc X.env.scope x)(J:PE X e te)(hs:swapsWith e (some (.Name x pos')) pos.line X.env=pure false:=by rfl)(U:X.fn x=true\/X.env.scope.names.lookup x=some .local:=by first|exact .inl rfl|exact .inr rfl|assumption) :
  PS X (.Assign [.Name x pos'] e pos) (sX te (ig i)):=by
 intro pins s σ H D I h;refine wpAny_Assign_Name (thn (J pins s σ H _ I h) λv s1 ⟨y,H1,Y,Z,q1⟩=>?_) hs;exact qV Y z hi hx Z (λs2 I2=>⟨_,H1,I2,q1⟩) U
end
structure It where
 go:Nat->Hp->Prop
 yld:Nat->Hp->V->Hp->Prop
 stop:Nat->Hp->Prop
def km(X:Cx)(pins:List (Addr×Obj))(H:Hp)(b:Addr):Prop:=
 H b=none/\b≠X.env.locals/\b∉X.fs/\(b∈X.ex\/X.s₀.heap.objs.size<=b)/\(∀x c,X.env.cells.lookup x=some c->c≠b)/\∀p∈X.pn++pins,p.1≠b
theorem Inv.fpOk{σ:St}{H H':Hp}{s:Shared}{b:Addr}(I:Inv X pins σ H s)(J:s.heap.objs.size<=b)(U:H' b=none):km X pins H' b:=by
 refine⟨U,KS (JX I.lt J),I.nofs J,.inr (uw I.sz J),λx c e z=>?_,λp Y z=>?_⟩
 .obtain⟨v,q⟩:=I.cell x c e;exact absurd (JX q.lt (by rw[z];exact J)) (Ku _)
 .exact absurd (JX (tf (I.pin p Y).1) (by rw[z];exact J)) (Ku _)
structure qW(P:Program)(w:World)(K:NF)(tg:Expr)(J:It)(fp:List Addr)(it:Addr)(tn:Nat->Heap->Prop):Prop where
 mem:it∈fp
 obj:∀i h,tn i h->∀b∈fp,∃o,h.get? b=some o/\∀v,o.data≠.cell v
 keep:∀i h h',tn i h->(∀b∈fp,∀o,h.get? b=some o->h'.get? b=some o)->tn i h'
 item:∀(X:Cx),X.prog=P->X.w=w->X.K=K->X.calm=true->∀(i:Nat) (pins:List (Addr×Obj)) (s:Shared) (σ:St) (H:Hp) (E:Value->Shared->Prop),Inv X pins σ H s->(∀b∈fp,km X pins H b)->tn i s.heap->J.go i H ->
  wpAny (model P w) X.A (pyNext (.ref it)) (λr s1=>∃u,r=some u /\
   wpAny (model P w) X.A (letOwnedTupleGo tg (.ref it) u) (λ_ s2=>∃x H',Inv X pins σ H' s2/\aD x u/\J.yld i H x H'/\tn (i+1) s2.heap/\∀b∈fp,H' b=none) E s1) E s
 done:∀(X:Cx),X.prog=P->X.w=w->X.K=K->X.calm=true->∀(i:Nat) (pins:List (Addr×Obj)) (s:Shared) (σ:St) (H:Hp) (E:Value->Shared->Prop),Inv X pins σ H s->(∀b∈fp,km X pins H b)->tn i s.heap->J.stop i H ->
  wpAny (model P w) X.A (pyNext (.ref it)) (λr s1=>r=none/\Inv X pins σ H s1) E s
 self:∀(A:Around) (i:Nat) (s:Shared) (Q:Value->Shared->Prop) (E:Value->Shared->Prop),tn i s.heap->Q (.ref it) s->wpAny (model P w) A (pyIter (.ref it)) Q E s
noncomputable abbrev TI:=St->Hp->(It->Hp->Prop)->Prop
def PIE(X:Cx)(pins:List (Addr×Obj))(σ:St)(tg:Expr)(R:It->Hp->Prop)(z:Value)(U:Shared):Prop:=
 ∃it fp Y J H',z=.ref it/\Inv X pins σ H' U/\qW X.prog X.w X.K tg J fp it Y/\Y 0 U.heap/\(∀b∈fp,km X pins H' b)/\R J H'
def PI(X:Cx)(tg iter:Expr)(wi:TI):Prop:=
 ∀pins s (σ:St) H R,Inv X pins σ H s->wi σ H R ->
  wpAny (model X.prog X.w) X.A (eval iter X.env) (λv z=>wpAny (model X.prog X.w) X.A (pyIter v) (PIE X pins σ tg R) X.xe z) X.xe s
def uT{s:Shared}{tg:Expr}{it:Addr}{u:Value}{o:Obj}{n:String}{vs:Array Value}{Q:Unit->Shared->Prop}(ho:s.heap.get? it=some o)(hc:o.cls=.type n)(hd:o.data=.fields vs)
    (hn:["enumerate","zip","dict_itemiterator","dict_reverseitemiterator","odict_iterator","itertools.zip_longest","itertools.pairwise"].contains n=false) (hQ:Q () s):wpAny M A (letOwnedTupleGo tg (.ref it) u) Q E s:=by
  unfold letOwnedTupleGo;cases tg<;>first
    | exact gk hQ
    | (cases u<;>first
        | exact gk hQ
        | (refine ez (wpAny_load ho ?_)
           rw[hc,hd];show wpAny M A (if (["enumerate","zip","dict_itemiterator","dict_reverseitemiterator","odict_iterator","itertools.zip_longest","itertools.pairwise"].contains n&&vs[0]?==some (rawInt _))=true then _ else _) Q E s;rw[if_neg (by intro h;rw[hn,M5]at h;cases h)];exact gk hQ))
noncomputable def Itl(K:NF)(a:Addr):It:=
 ⟨λi H=>∃xs x,SqL K H a xs/\xs[i]?=some x,λi H x H'=>H'=H/\∀xs,SqL K H a xs->xs[i]?=some x,λi H=>∃xs,SqL K H a xs/\xs.length<=i⟩
noncomputable def Itt(K:NF)(a:Addr):It:=
 ⟨λi H=>∃xs x,SqT K H a xs/\xs[i]?=some x,λi H x H'=>H'=H/\∀xs,SqT K H a xs->xs[i]?=some x,λi H=>∃xs,SqT K H a xs/\xs.length<=i⟩
noncomputable def Itr(lo:Int)(n:Nat):It:=⟨λi _=>i<n,λi H x H'=>H'=H/\x=.int (lo+i),λi _=>n<=i⟩
def wF{K:NF}(a it):qW P w K tg (Itl K a) [it] it (λi h=>h.IsListIter it a i) where
 mem:=by simp
 obj:=λi h st b z=>by
  obtain⟨o,e,c,d⟩:=st
  simp_all
 keep:=λi h h' st k=>st.at λo e=>k it (by simp) o e
 item:=by
  intro X Z hw hK hc i pins s σ H E I U st hg;refine ax λZq kq=>?_
  subst Z hw hK;obtain⟨xs,x,Y,hx⟩:=hg;obtain⟨its,rv,p,hz⟩:=I.list Y;obtain⟨u,hu,ru⟩:=rv.get hx;obtain⟨f0,f1,f2,f3,f4,f5⟩:=U it (by simp);refine kq ?_;refine wpAny_pyNext_list_item st p.isList (by simpa using hu) λh' J sb=>?_
  have I1:=I.turned (t':=s.toks) (λb o z e=>(sb.2 b z).trans e) f0 f1 f3 f4 f5;obtain⟨o,e,c,d⟩:=id J;exact⟨u,rfl,uT e c d (by decide) ⟨x,H,I1,ru,⟨rfl,λys hy=>by rw[I.list_inj hy Y];exact hx⟩,J,λb z=>(U b z).1⟩⟩
 done:=by
  intro X Z hw hK hc i pins s σ H E I U st hg;refine ax λZq kq=>?_
  subst Z hw hK;obtain⟨xs,Y,hx⟩:=hg;obtain⟨its,rv,p,hz⟩:=I.list Y;obtain⟨f0,f1,f2,f3,f4,f5⟩:=U it (by simp);have hl:=rv.length;refine kq ?_;exact wpAny_pyNext_list_end (I.ok.hd hc) st p.isList (by simp;omega) λh' eb=>⟨rfl,I.turned (λb o z e=>eb b o z e) f0 f1 f3 f4 f5⟩
 self:=λ_ _ _ _ _ st h=>wpAny_pyIter_listiter st h
def sY{K:NF}(a it):qW P w K tg (Itt K a) [it] it (λi h=>h.IsTupleIter it a i) where
 mem:=by simp
 obj:=λi h st b z=>by
  obtain⟨o,e,c,d⟩:=st
  simp_all
 keep:=λi h h' st k=>st.at λo e=>k it (by simp) o e
 item:=by
  intro X Z hw hK hc i pins s σ H E I U st hg;refine ax λZq kq=>?_
  subst Z hw hK;obtain⟨xs,x,Y,hx⟩:=hg;obtain⟨its,rv,p,hz⟩:=I.tuple Y;obtain⟨u,hu,ru⟩:=rv.get hx;obtain⟨f0,f1,f2,f3,f4,f5⟩:=U it (by simp);refine kq ?_;refine wpAny_pyNext_tuple_item st (show s.heap.IsTuple a its.toArray from p) (by simpa using hu) λh' J sb=>?_
  have I1:=I.turned (t':=s.toks) (λb o z e=>(sb.2 b z).trans e) f0 f1 f3 f4 f5;obtain⟨o,e,c,d⟩:=id J;exact⟨u,rfl,uT e c d (by decide) ⟨x,H,I1,ru,⟨rfl,λys hy=>by rw[I.tuple_inj hy Y];exact hx⟩,J,λb z=>(U b z).1⟩⟩
 done:=by
  intro X Z hw hK hc i pins s σ H E I U st hg;refine ax λZq kq=>?_
  subst Z hw hK;obtain⟨xs,Y,hx⟩:=hg;obtain⟨its,rv,p,hz⟩:=I.tuple Y;obtain⟨f0,f1,f2,f3,f4,f5⟩:=U it (by simp);have hl:=rv.length;refine kq ?_;exact wpAny_pyNext_tuple_end (I.ok.hd hc) st (show s.heap.IsTuple a its.toArray from p) (by simp;omega) λh' eb=>⟨rfl,I.turned (λb o z e=>eb b o z e) f0 f1 f3 f4 f5⟩
 self:=λ_ _ _ _ _ st h=>wpAny_pyIter_tupleiter st h
def sZ{K:NF}(it)(lo)(n):qW P w K tg (Itr lo n) [it] it (λi h=>IsRangeIter h it (lo+(i:Nat)*1) ((n:Int)-(i:Nat)) 1) where
 mem:=by simp
 obj:=λi h st b z=>by
  simp_all
 keep:=λi h h' st k=>k it (by simp) _ st
 item:=by
  intro X hP hw hK hc i pins s σ H E I U st Y;subst hP hw hK;obtain⟨Z,f1,f2,f3,f4,f5⟩:=U it (by simp);have W:=Walks.range (prog:=X.prog) (w:=X.w) (I.ok.hd hc) it lo 1 n;refine W.item i s _ _ Y st λv h' tk hv J kk=>?_
  obtain⟨t,rfl⟩:=hv;have I1:Inv X pins σ H { s with heap:=h',toks:=tk }:=I.turned (λb o z e=>kk b o (by simpa using z) e) Z f1 f3 f4 f5;refine⟨_,rfl,uT J rfl rfl (by decide) ⟨.int _,H,I1,⟨t,?_⟩,⟨rfl,rfl⟩,J,λb z=>(U b z).1⟩⟩;rw[Int.mul_one]
 done:=by
  intro X hP hw hK hc i pins s σ H E I U st Y;obtain⟨Z,f1,f2,f3,f4,f5⟩:=U it (by simp);exact wpAny_pyNext_range_end (I.ok.hd hc) st (by have:n<=i:=Y;omega) λh' eb=>⟨rfl,I.turned (λb o z e=>eb b o z e) Z f1 f3 f4 f5⟩
 self:=λ_ _ _ _ _ st h=>wpAny_pyIter_rangeiter st h
section
variable{X:Cx}{tg:Expr}
noncomputable def GQ(K:NF)(tl:TE):TI:=λσ H R=>tl σ H λx H1=>∃a,x=.ref a/\(∃xs,SqL K H1 a xs)/\R (Itl K a) H1
noncomputable def Jk(K:NF)(tl:TE):TI:=λσ H R=>tl σ H λx H1=>∃a,x=.ref a/\(∃xs,SqT K H1 a xs)/\R (Itt K a) H1
def uU(U:PE X l tl):PI X tg l (GQ X.K tl):=by
 intro pins s σ H R I h;refine thn (U pins s σ H _ I h) λv J ⟨x,H1,z,Y,Z⟩=>?_
 obtain⟨a,e,⟨xs,hq⟩,q⟩:=Z;subst e;cases Y;obtain⟨its,rv,p,hz⟩:=z.list hq;refine LU p.isList ?_;refine⟨J.heap.objs.size,[J.heap.objs.size],_,_,H1,rfl,z.kept λb o e=>iA _ e,wF a _,⟨_,tr _ rfl,rfl,rfl⟩,λb hb=>?_,q⟩;have e:b=J.heap.objs.size:=by simpa using hb
 subst e;exact z.fpOk (pb _) (z.hok.fresh (pb _))
def ye(U:PE X l tl):PI X tg l (Jk X.K tl):=by
 intro pins s σ H R I h;refine thn (U pins s σ H _ I h) λv z ⟨x,H1,J,Y,Z⟩=>?_
 obtain⟨a,e,⟨xs,hq⟩,q⟩:=Z;subst e;cases Y;obtain⟨its,rv,p,hz⟩:=J.tuple hq;refine Mp (show z.heap.IsTuple a its.toArray from p) ?_;refine⟨z.heap.objs.size,[z.heap.objs.size],_,_,H1,rfl,J.kept λb o e=>iA _ e,sY a _,⟨_,tr _ rfl,rfl,rfl⟩,λb hb=>?_,q⟩;have e:b=z.heap.objs.size:=by simpa using hb
 subst e;exact J.fpOk (pb _) (J.hok.fresh (pb _))
def qX{σ:St}{H:Hp}{s:Shared}{R:It->Hp->Prop}{E:Value->Shared->Prop}{lo hi:Int}{t u v:Tok}{tk:Nat}(I:Inv X pins σ H s)(h1:-(2 ^ 62)<=lo)(h2:lo<2 ^ 62)(J:-(2 ^ 62)<=hi)(U:hi<2 ^ 62)
  (q:R (Itr lo (hi-lo).toNat) H):wpAny (model X.prog X.w) X.A (pyIter (.ref s.heap.objs.size)) (PIE X pins σ tg R) E { s with heap:=s.heap.push { cls:=.type "range",data:=.fields #[.int lo t,.int hi u,.int 1 v] },toks:=tk }:=by
 refine wpAny_pyIter_range (IsRange.new ..) (small_one h1 h2 J U) ?_;have z:Inv X pins σ H { s with heap:=s.heap.push { cls:=.type "range",data:=.fields #[.int lo t,.int hi u,.int 1 v] },toks:=tk }:=I.kept λb o e=>iA _ e
 refine⟨(s.heap.push { cls:=.type "range",data:=.fields #[.int lo t,.int hi u,.int 1 v] }).objs.size,[(s.heap.push { cls:=.type "range",data:=.fields #[.int lo t,.int hi u,.int 1 v] }).objs.size],_,_,H,rfl,
  z.kept (t':=tk) λb o e=>iA _ e,sZ _ lo (hi-lo).toNat,?_,λb Y=>?_,q⟩
 .have Z:lo+((0:Nat):Int)*1=lo:=by simp
  have e2:(((hi-lo).toNat:Nat):Int)-((0:Nat):Int)=Builtin.Range.rangeSize lo hi 1:=by rw[rangeSize_one];split<;>omega
  show IsRangeIter _ _ (lo+((0:Nat):Int)*1) ((((hi-lo).toNat:Nat):Int)-((0:Nat):Int)) 1;rw[Z,e2];exact tr _ rfl
 .have e:b=(s.heap.push { cls:=.type "range",data:=.fields #[.int lo t,.int hi u,.int 1 v] }).objs.size:=by simpa using Y
  subst e;exact z.fpOk (pb _) (z.hok.fresh (pb _))
noncomputable def GR(ta:TA):TI:=λσ H R=>ta σ H λvs H1=>∃j,vs=[.int j]/\-(2 ^ 62)<=j/\j<2 ^ 62/\R (Itr 0 j.toNat) H1
noncomputable def GS(ta:TA):TI:=λσ H R=>ta σ H λvs H1=>∃i j,vs=[.int i,.int j]/\(-(2 ^ 62)<=i/\i<2 ^ 62/\-(2 ^ 62)<=j/\j<2 ^ 62)/\R (Itr i (j-i).toNat) H1
def oK (J:Gl X "range") (U:X.mg "range"=none) (Y:PA X [a] ta) (hs:starEach [a] X.env=[(false,eval a X.env)]:=by rfl):PI X tg (.Call (.Name "range" p) [a] [] pos) (GR ta):=by
 intro pins s σ H R I h;refine Call_ (gC I J U boot_range (Kw (thn (Y pos pins s σ H _ I h) λus s1 ⟨vs,H1,Z,r1,z⟩=>?_) hs rfl));obtain⟨j,e,z,q2,q⟩:=z;subst e;cases r1 with
 |cons r rr =>
  cases rr;obtain⟨t,rfl⟩:=r;exact call_range_1 (qX Z (by omega) (by omega) z q2 (by simpa using q))
def wG (Y:Gl X "range") (Z:X.mg "range"=none) (ha:PA X [a,b] ta) (hs:starEach [a,b] X.env=[(false,eval a X.env),(false,eval b X.env)]:=by rfl) (z:starEach [b] X.env=[(false,eval b X.env)]:=by rfl) :
  PI X tg (.Call (.Name "range" p) [a,b] [] pos) (GS ta):=by
 intro pins s σ H R I h;refine Call_ (gC I Y Z boot_range (Kw (thn (ha pos pins s σ H _ I h) λus s1 ⟨vs,H1,I1,r1,J⟩=>?_) (by rw[hs,z]) (by rw[z];rfl)));obtain⟨i,j,e,⟨J,q2,q3,q4⟩,q⟩:=J;subst e;cases r1 with
 |cons r U =>
  cases U with
  |cons r' U =>
   cases U;obtain⟨t,rfl⟩:=r;obtain⟨t',rfl⟩:=r';exact call_range_2 (qX I1 J q2 q3 q4 q)
noncomputable def DX(wi:TI)(g:TG)(tb:TS):TS:=λD σ H=>wi σ H λJ H1=>∃W:Nat->Nat->St->Hp->Prop,(∃m,W 0 m σ H1)/\∀i m σ H,W i m σ H ->
 (J.stop i H/\D.nx σ H)\/(J.go i H/\∃N,(∀F H',N F H'->∃U,U<m/\W (i+1) U F H')/\∀x H',J.yld i H x H'->g x σ H' λz H2=>tb { D with nx:=N,ct:=N,bk:=D.nx } z H2)
noncomputable def mf(fp:List Addr)(h:Heap):List (Addr×Obj):=fp.filterMap λb=>(h.get? b).map λo=>(b,o)
def gE(z:b∈fp)(e:h.get? b=some o):(b,o)∈mf fp h:=mem_filterMap.mpr ⟨b,z,by rw[e];rfl⟩
def wH(z:p∈mf fp h):p.1∈fp/\h.get? p.1=some p.2:=by
 obtain⟨b,J,e⟩:=mem_filterMap.mp z;cases q:h.get? b with
 |none=>rw[q]at e;cases e
 |some o =>
  rw[q]at e;have U:=J2 e;subst U;exact⟨J,q⟩
def Inv.pinned(I:Inv X pins σ H s)(U:∀b∈fp,km X pins H b)(ho:∀b∈fp,∃o,s.heap.get? b=some o/\∀v,o.data≠.cell v):Inv X (pins++mf fp s.heap) σ H s:=
 I.pins_of λp Y=>(Ki.mp Y).elim (λz=>I.pin p (KD _ z)) λz=>by
  obtain⟨J,e⟩:=wH z;obtain⟨Z,f1,f2,_⟩:=U p.1 J;obtain⟨o,e',d⟩:=ho p.1 J
  simp_all
def Inv.unpinned(I:Inv X (pins++J) σ H s):Inv X pins σ H s:=I.pins_of λp z=>I.pin p (KD _ (ML _ z))
def s_{iter:Expr}(hp:PassesOwn (model X.prog X.w) X.A X.env X.xe)(hc:X.calm=true)(hi:PI X tg iter wi)(hg:PG X tg g)(U:PSs X body tb)(hs:∀x,foldedSetIterable iter X.env x=pure x:=by intro _;rfl):PS X (.For tg iter body [] pos) (DX wi g tb):=by
 intro pins s σ H D I h;refine wpAny_For (thn (hi pins s σ H _ I h) λv s1 h1=>thn h1 λcu s2 h2=>?_) hs;refine ax λZq kq=>?_
 obtain⟨it,fp,tn,J,H2,e,I2,T,a5,f2,W,⟨m0,w0⟩,turn⟩:=h2;subst e;have Y:∀{H'},(∀b∈fp,H' b=none)->∀b∈fp,km X pins H' b:=λhn b U=>⟨hn b U,(f2 b U).2⟩
 refine kq ?_;refine codeAny_forLoop_any (λn s'=>∃i F H',Inv X pins F H' s'/\tn i s'.heap/\(∀b∈fp,H' b=none)/\W i n F H') ?_ m0 ⟨0,σ,H2,I2,a5,λb U=>(f2 b U).1,w0⟩;rintro n s3 ⟨i,Z,H3,I3,a2,a3,w3⟩;rcases turn i n Z H3 w3 with⟨stop,qn⟩|⟨go,N,hN,step⟩
 .refine Mm hp (thn (T.done X rfl rfl rfl hc i pins s3 Z H3 X.xe I3 (Y a3) a2 stop) λr s4 ⟨hr,I4⟩=>?_);subst hr;exact wpAny_execs_nil ⟨Z,H3,I4,qn⟩
 .refine Mm hp (thn (T.item X rfl rfl rfl hc i pins s3 Z H3 X.xe I3 (Y a3) a2 go) λr s4 ⟨u,hr,h4⟩=>?_);subst hr;refine Mm hp (thn h4 λ_ s5 ⟨x,H5,I5,r5,y5,aO,bA⟩=>?_);have bB:=I5.pinned (Y bA) (T.obj _ _ aO);refine Mm hp (thn (hg _ s5 Z H5 x u _ bB r5 (step x H5 y5)) λ_ s6 ⟨b0,H6,I6,q6⟩=>?_);refine Mm hp (thn (U _ s6 b0 H6 _ I6 q6) λf s7 q7=>?_);have again:∀{z}{H7},Inv X (pins++mf fp s5.heap) z H7 s7->N z H7->∃m,m<n/\∃i F H',Inv X pins F H' s7/\tn i s7.heap/\(∀b∈fp,H' b=none)/\W i m F H':=λ{z H7} I7 n7=>by
   obtain⟨m',hm,w7⟩:=hN z H7 n7;refine⟨m',hm,i+1,z,H7,I7.unpinned,T.keep _ _ _ aO λb U o e=>(I7.pin (b,o) (KD _ (KD _ (gE U e)))).1,λb U=>?_,w7⟩;obtain⟨o,e,d⟩:=T.obj _ _ aO b U;exact(I7.pin (b,o) (KD _ (KD _ (gE U e)))).2.1
  cases f<;>first|(obtain⟨z,H7,I7,n7⟩:=q7;exact again I7 n7)|(obtain⟨z,H7,I7,q7⟩:=q7;exact⟨z,H7,I7.unpinned,q7⟩)|(obtain⟨x7,z,H7,I7,r7,q7⟩:=q7;exact⟨x7,z,H7,I7.unpinned,r7,q7⟩)
end
noncomputable abbrev R2:=V->V->Hp->VK->Prop
def OpR(X:Cx)(f:Value->Value->Sem Value)(r:R2):Prop:=
 ∀pins s (σ:St) H x y v u Q,Inv X pins σ H s->aD x v->aD y u->r x y H Q ->
  wpAny (model X.prog X.w) X.A (f v u) (EP X pins σ Q) X.xe s
def bW(X:Cx)(f:Value)(r:List V->Hp->VK->Prop):Prop:=
 ∀pins s (σ:St) H xs us Q,Inv X pins σ H s->aG xs us->r xs H Q ->
  wpAny (model X.prog X.w) X.A (call f us) (EP X pins σ Q) X.xe s
noncomputable def tOp(r:R2)(ta tb:TE):TE:=λσ H Q=>ta σ H λx H1=>tb σ H1 λy H2=>r x y H2 Q
noncomputable def rI(C:Int->Int->Prop)(g:Int->Int->V):R2:=λx y H Q=>∃i j,x=.int i/\y=.int j/\C i j/\Q (g i j) H
noncomputable def rI0(g:Int->Int->V):R2:=λx y H Q=>∃i j,x=.int i/\y=.int j/\Q (g i j) H
section
variable{X:Cx}{a b c:Expr}{ta tb tc:TE}{pos:Pos}
def DY(Y:PE X a ta)(Z:PE X b tb){R:V->V->Hp->Prop}(I:Inv X pins σ H s)
  (h:ta σ H λx H1=>tb σ H1 λy H2=>R x y H2) {f:Value->Value->Sem Value}
  (hf:∀v u U x y H2,Inv X pins σ H2 U->aD x v->aD y u->R x y H2->wpAny (model X.prog X.w) X.A (f v u) Q X.xe U) :
  wpAny (model X.prog X.w) X.A (eval a X.env) (λv z=>wpAny (model X.prog X.w) X.A (eval b X.env) (λu J=>wpAny (model X.prog X.w) X.A (f v u) Q X.xe J) X.xe z) X.xe s:=by
 refine thn (Y pins s σ H _ I h) λv s1 ⟨x,H1,I1,r1,q1⟩=>?_
 refine thn (Z pins s1 σ H1 _ I1 q1) λu U ⟨y,H2,I2,r2,q2⟩=>?_
 exact hf v u U x y H2 I2 r1 r2 q2
def uV(ho:OpR X (binaryOp op) r)(z:PE X a ta)(J:PE X b tb):PE X (.BinOp a op b pos) (tOp r ta tb):=by
 intro pins s σ H Q I h;exact wpAny_BinOp (DY z J I h λv u U x y H2 Y Z ry q=>ho pins U σ H2 x y v u Q Y Z ry q)
def opI{C:Int->Int->Prop}{g:Int->Int->Int}
  (rule:∀i j t u s Q E,C i j->Q (.int (g i j) s.toks) { s with toks:=s.toks+1 }->wpAny (model X.prog X.w) X.A (f (.int i t) (.int j u)) Q E s) :
  OpR X f (rI C λi j=>.int (g i j)):=by
 intro pins s σ H x y v u Q I z J h;obtain⟨i,j,rfl,rfl,hc,q⟩:=h;obtain⟨t,rfl⟩:=z;obtain⟨t',rfl⟩:=J;exact rule i j t t' s _ _ hc ⟨.int (g i j),H,I.tok _,⟨_,rfl⟩,q⟩
def GT{g:Int->Int->Int}
  (rule:∀i j t u s Q E,Q (.int (g i j) s.toks) { s with toks:=s.toks+1 }->wpAny (model X.prog X.w) X.A (f (.int i t) (.int j u)) Q E s) :
  OpR X f (rI0 λi j=>.int (g i j)):=by
 intro pins s σ H x y v u Q I z J h;obtain⟨i,j,rfl,rfl,q⟩:=h;obtain⟨t,rfl⟩:=z;obtain⟨t',rfl⟩:=J;exact rule i j t t' s _ _ ⟨.int _,H,I.tok _,⟨_,rfl⟩,q⟩
def Bu{g:Int->Int->Bool}
  (rule:∀i j t u s Q E,Q (.bool (g i j)) s->wpAny (model X.prog X.w) X.A (f (.int i t) (.int j u)) Q E s) :
  OpR X f (rI0 λi j=>.bl (g i j)):=by
 intro pins s σ H x y v u Q I z J h;obtain⟨i,j,rfl,rfl,q⟩:=h;obtain⟨t,rfl⟩:=z;obtain⟨t',rfl⟩:=J;exact rule i j t t' s _ _ ⟨.bl _,H,I,rfl,q⟩
def Jl(i j:Int):Prop:=0<j/\j<1073741824
def Jm(i j:Int):Prop:=0<=j/\j<=1000000/\i.natAbs<2 ^ 64
def DZ(i j:Int):Prop:=(-(2 ^ 64)<i/\i<2 ^ 64)\/(-(2 ^ 64)<j/\j<2 ^ 64)
theorem DZ.ok(h:DZ i j):IntMulOk i j:=by
 rcases h with⟨h1,h2⟩|⟨h1,h2⟩
 .exact .of_left (intBits_le_64 h1 h2)
 .exact .of_right (intBits_le_64 h1 h2)
def tj(k):(0:Int)<=2 ^ k:=
  Int.natCast_nonneg _
def D0:OpR X (binaryOp .Add) (rI0 λi j=>.int (i+j)):=GT λ_ _ _ _ _ _ _ q=>add_int q
def D1:OpR X (binaryOp .Sub) (rI0 λi j=>.int (i-j)):=GT λ_ _ _ _ _ _ _ q=>sub_int q
def D3:OpR X (binaryOp .Mult) (rI DZ λi j=>.int (i*j)):=opI λ_ _ _ _ _ _ _ hc q=>mul_int q hc.ok
def Bv:OpR X (binaryOp .FloorDiv) (rI Jl λi j=>.int (i / j)):=opI λi j _ _ _ _ _ hc q=>by
 have h1:=hc.1;have h2:=hc.2;exact floordiv_int (by omega) (by rw[Nd i (by omega)];exact q) (.inl (PyProof.noPylong_small (by omega)))
def D4:OpR X (binaryOp .Mod) (rI (λ_ j=>0<j) λi j=>.int (i % j)):=opI λi j _ _ _ _ _ hc q=>by
 exact mod_int' (by omega) (by rw[Int.fmod_eq_emod_of_nonneg i (by omega)];exact q)
def D5:OpR X (binaryOp .Pow) (rI Jm λi j=>.int (i ^ j.toNat)):=opI λ_ _ _ _ _ _ _ hc q=>pow_int_small hc.1 hc.2.1 hc.2.2 q
def D6:OpR X (binaryOp .RShift) (rI (λ_ j=>0<=j) λi j=>.int (i / 2 ^ j.toNat)):=opI λi j _ _ _ _ _ hc q =>
 rshift_int hc (by rw[Nd i (tj _)];exact q)
end
noncomputable def scal:V->V->Bool
 | .non,.non=>true|.non,.int _=>true|.int _,.non=>true|.non,.bl _=>true|.bl _,.non=>true|.non,.str _=>true|.str _,.non=>true
 | .int _,.int _=>true|.bl _,.bl _=>true|.str _,.str _=>true|.byt _,.byt _=>true
 | .int _,.str _=>true|.str _,.int _=>true|.bl _,.str _=>true|.str _,.bl _=>true
 | _,_=>false
noncomputable def rNe:R2:=λx y H Q=>scal x y=true/\Q (.bl (!decide (x=y))) H
def uW :decide (V.int i=V.int j)=(i==j):=by
 rw[Kv];simp
def yf :decide (V.bl i=V.bl j)=(i==j):=by
 rw[Kv];simp
def uX :decide (V.str i=V.str j)=(i==j):=by
 rw[Kv];simp
def Bw :decide (V.byt i=V.byt j)=(i.toList==j.toList):=by
 rw[Kv];cases i;cases j;simp
section
variable{X:Cx}{a b c:Expr}{ta tb tc:TE}{pos:Pos}
def ca{σ:St}{H:Hp}{s:Shared}{Q:VK}{k z:Bool}(I:Inv X pins σ H s)(q:Q (.bl k) H)(e:k=z):EP X pins σ Q (.bool z) s:=by
 subst e;exact⟨.bl k,H,I,rfl,q⟩
def GU:OpR X (compareOp .NotEq) rNe:=by
 intro pins s σ H x y v u Q I J z h;obtain⟨hs,q⟩:=h;cases x with
 |non =>
  cases J;cases y with
  |non=>cases z;exact PySem.EqNone.ne_none_none (ca I q (by simp))
  |bl j=>cases z;exact PySem.EqNone.ne_none_bool (ca I q (by simp))
  |int j=>obtain⟨t',rfl⟩:=z;exact PySem.EqNone.ne_none_int (ca I q (by simp))
  |str j=>obtain⟨t',rfl⟩:=z;exact PySem.EqNone.ne_none_str (ca I q (by simp))
  | _=>exact absurd (show false=true from hs) pd
 |bl i =>
  cases J;cases y with
  |non=>cases z;exact PySem.EqNone.ne_bool_none (ca I q (by simp))
  |bl j=>cases z;exact ne_bool (ca I q (Kn not yf))
  |str j=>obtain⟨t',rfl⟩:=z;exact PySem.EqMixed.ne_bool_str (ca I q (by simp))
  | _=>exact absurd (show false=true from hs) pd
 |int i =>
  obtain⟨t,rfl⟩:=J;cases y with
  |non=>cases z;exact PySem.EqNone.ne_int_none (ca I q (by simp))
  |int j=>obtain⟨t',rfl⟩:=z;exact ne_int (ca I q (Kn not uW))
  |str j=>obtain⟨t',rfl⟩:=z;exact PySem.EqMixed.ne_int_str (ca I q (by simp))
  | _=>exact absurd (show false=true from hs) pd
 |str i =>
  obtain⟨t,rfl⟩:=J;cases y with
  |non=>cases z;exact PySem.EqNone.ne_str_none (ca I q (by simp))
  |bl j=>cases z;exact PySem.EqMixed.ne_str_bool (ca I q (by simp))
  |int j=>obtain⟨t',rfl⟩:=z;exact PySem.EqMixed.ne_str_int (ca I q (by simp))
  |str j=>obtain⟨t',rfl⟩:=z;exact ne_str (ca I q (Kn not uX))
  | _=>exact absurd (show false=true from hs) pd
 |byt i =>
  obtain⟨t,rfl⟩:=J;cases y with
  |byt j=>obtain⟨t',rfl⟩:=z;exact PySem.W.ne_bytes (ca I q (Kn not Bw))
  | _=>exact absurd (show false=true from hs) pd
 | _=>cases y<;>exact absurd (show false=true from hs) pd
def GV:OpR X (compareOp .Lt) (rI0 λi j=>.bl (decide (i<j))):=Bu λ_ _ _ _ _ _ _ q=>lt_int q
def GW:OpR X (compareOp .LtE) (rI0 λi j=>.bl (decide (i<=j))):=Bu λ_ _ _ _ _ _ _ q=>le_int q
def GX:OpR X (compareOp .Gt) (rI0 λi j=>.bl (decide (j<i))):=Bu λ_ _ _ _ _ _ _ q=>gt_int q
def GY:OpR X (compareOp .GtE) (rI0 λi j=>.bl (decide (j<=i))):=Bu λ_ _ _ _ _ _ _ q=>ge_int q
def D7:OpR X (compareOp .Is) (λx y H Q=>y=.non/\Q (.bl (decide (x=.non))) H):=by
 intro pins s σ H x y v u Q I z J h;obtain⟨rfl,q⟩:=h;cases J;refine is_none_gen (ca I q ?_);cases x<;>first
  | (cases z;rfl)
  | (obtain⟨t,rfl⟩:=z;rfl)
def Bx:OpR X (compareOp .IsNot) (λx y H Q=>y=.non/\Q (.bl (!decide (x=.non))) H):=by
 intro pins s σ H x y v u Q I z J h;obtain⟨rfl,q⟩:=h;cases J;refine isnot_none_gen (ca I q ?_);cases x<;>first
  | (cases z;rfl)
  | (obtain⟨t,rfl⟩:=z;rfl)
def By(ho:OpR X (compareOp op) r)(z:PE X a ta)(J:PE X b tb)(U:behindInMarks op b=false):PE X (.Compare a [op] [b] pos) (tOp r ta tb):=by
 intro pins s σ H Q I h;exact wpAny_Compare1 (DY z J I h λv u Y x y H2 Z rx ry q=>ho pins Y σ H2 x y v u Q Z rx ry q) U
noncomputable def GZ(t:TE):TT:=λσ H Q=>t σ H λx H'=>∃k,x=.bl k/\Q k H'
def Bz(ho:OpR X (compareOp op) r)(J:PE X a ta)(U:PE X b tb)(Y:behindInMarks op b=false):PT X (.Compare a [op] [b] pos) (GZ (tOp r ta tb)):=by
 intro pins s σ H Q I h;refine wpAny_isTrue_Compare1 (thn (J pins s σ H _ I h) λv Z ⟨x,H1,I1,r1,q1⟩=>thn (U pins Z σ H1 _ I1 q1) λu s2 ⟨y,H2,I2,r2,q2⟩ =>
  thn (ho pins s2 σ H2 x y v u _ I2 r1 r2 q2) λc s3 ⟨z,H3,I3,r3,k,e,q3⟩=>?_) Y
 subst e;cases r3;exact K4 ⟨H3,I3,q3⟩
def kn:(sizeLine:Nat)<2 ^ 63:=by simp_all [KG]
def tm:OpR X (binaryOp .Add) (λx y H Q=>∃i j,x=.str i/\y=.str j/\i.length+j.length<=sizeLine/\Q (.str (i++j)) H):=by
 intro pins s σ H x y v u Q I z J h;obtain⟨i,j,rfl,rfl,hz,q⟩:=h;obtain⟨t,rfl⟩:=z;obtain⟨t',rfl⟩:=J;exact add_str (λt' tk=>⟨.str _,H,I.tok _,⟨_,rfl⟩,q⟩) hz
def d_(r:aG [x] us):∃u,us=[u]/\aD x u:=by
 cases r with
 |cons z J=>cases J;exact⟨_,rfl,z⟩
def G0(r:aG [x,y] us):∃u z,us=[u,z]/\aD x u/\aD y z:=by
 cases r with
 |cons J U =>
  cases U with
  |cons Y Z=>cases Z;exact⟨_,_,rfl,J,Y⟩
def oM:bW X (.type "int") (λxs H Q=>(∃i,xs=[.int i]/\Q (.int i) H)\/∃k,xs=[.bl k]/\Q (.int (if k then 1 else 0)) H):=by
 intro pins s σ H xs us Q I r h;rcases h with⟨i,rfl,q⟩|⟨k,rfl,q⟩
 .obtain⟨u,rfl,t,rfl⟩:=d_ r;exact call_int_int ⟨.int i,H,I,⟨_,rfl⟩,q⟩
 .obtain⟨u,rfl,z⟩:=d_ r;cases z;exact call_int_bool ⟨.int _,H,I.tok _,⟨_,rfl⟩,q⟩
end
section
variable{prog:Program}{w:World}{A:Around}{E:Value->Shared->Prop}{s:Shared}{K:NF}{x dx C f:Addr}{mA:Str->Option Value}{name:Str}{v:Value}
end
def lD.some_of(r:lD (some v) o):∃u,o=some u/\aD v u:=by
 cases o with
 |none=>exact(show False from r).elim
 |some u=>exact⟨u,rfl,r⟩
section
variable{P:Program}{w:World}{H H':Hp}{h h':Heap}{a C dx:Addr}{fs fs':List (Str×V)}
end
section
variable{X:Cx}{pins:List (Addr×Obj)}{σ:St}{H:Hp}{s:Shared}{a C dx:Addr}{fs:List (Str×V)}{f:Str}{v:V}{A:Around}{E:Value->Shared->Prop}
end
section
variable{X:Cx}{o e value:Expr}{f:Str}{pos pos' tpos:Pos}{ta tv:TE}
end
section
variable{X:Cx}{pins:List (Addr×Obj)}{σ:St}{H:Hp}{s:Shared}{A:Around}{E:Value->Shared->Prop}{Q:Value->Shared->Prop}{c:Value}{b:Bool}
end
structure ko(k:Nat)(A:Around):Prop where
 hd:A.handled=none
 dp:A.depth+3*k+5<recursionLimit
 un:A.units+16*k+200<cLine
theorem ko.deeper(r:ko (k+1) A)(env):ko k (A.deeper env):=
 ⟨r.hd,by have:=r.dp;show A.depth+1+3*k+5<_;omega,by have:=r.un;show A.units+3+16*k+200<_;omega⟩
theorem ko.depth(r:ko k A):A.depth<recursionLimit:=by have:=r.dp;omega
noncomputable def G3:TA:=λ_ H Q=>Q [] H
noncomputable def G4(ta:TE)(z:TA):TA:=λσ H Q=>ta σ H λx H1=>z σ H1 λxs H2=>Q (x::xs) H2
section
variable{X:Cx}{e:Expr}{es:List Expr}{te:TE}{t:TA}{pos:Pos}
def bF:PA X [] G3:=λ_ _ _ _ H Q I h=>Ni ⟨[],H,I,.nil,h⟩
def aK(z:PE X e te)(J:PA X es t)(hs:starEach (e::es) X.env=(false,eval e X.env)::starEach es X.env:=by rfl):PA X (e::es) (G4 te t):=by
 intro pos pins s σ H Q I h;rw[hs];show wpAny _ _ (spliced ((false,eval e X.env)::backTo pos _)) _ _ s;refine Mq (thn (z pins s σ H _ I h) λu U ⟨x,H1,Y,Z,q1⟩=>?_);exact thn (J pos pins U σ H1 _ Y q1) λus s2 ⟨xs,H2,I2,r2,q2⟩=>⟨x::xs,H2,I2,.cons Z r2,q2⟩
noncomputable def Jn(t:TA):TE:=λσ H Q=>t σ H λxs H1=>xs.length<=sizeLine/\∀p,H1 p=none->Q (.ref p) (upd H1 p (.tup xs))
noncomputable def Jo(t:TA):TE:=λσ H Q=>t σ H λxs H1=>xs.length<=sizeLine/\∀p,H1 p=none->Q (.ref p) (upd H1 p (.lst xs))
def tq{Y}(h:PA X es t):PE X (.Tuple es Y pos) (Jn t):=by
 intro pins s σ H Q I Z;refine wpAny_Tuple_spliced (thn (h pos pins s σ H _ I Z) λus J ⟨xs,H1,U,r,z,q⟩=>⟨by rw[<- r.length];exact z,?_⟩);have hf:=U.hok.fresh (pb _);refine⟨.ref J.heap.objs.size,upd H1 J.heap.objs.size _,U.laid (λb u e=>iA _ e) (pb _) ?_,rfl,q _ hf⟩;exact⟨z,us,r,⟨_,tr _ rfl,rfl,_,rfl⟩⟩
def yg(h:PA X es t):PE X (.List es pos) (Jo t):=by
 intro pins s σ H Q I Y;refine wpAny_List_spliced (thn (h pos pins s σ H _ I Y) λus J ⟨xs,H1,U,r,z,q⟩=>⟨by rw[<- r.length];exact z,?_⟩);have Z:=U.hok.fresh (pb _);refine⟨.ref J.heap.objs.size,upd H1 J.heap.objs.size _,U.laid (λb u e=>iA _ e) (pb _) ?_,rfl,q _ Z⟩;exact⟨z,us,0,r,tr _ rfl⟩
end
noncomputable abbrev Sp:=List V->Hp->VK->XK->Prop
noncomputable abbrev CXT:=List Env->Hp->Shared->XK->Value->Shared->Prop
structure BA(P:Program)(w:World)(K:NF)(mg:Str->Option Value)(base:Heap)(A:Around)(outer:List Env)(s:Shared)(H:Hp):Prop where
 frames:A.frames=some outer
 mod:Mod K mg base
 bs:∀b o,base.get? b=some o->s.heap.get? b=some o/\H b=none
 bsz:base.objs.size<=s.heap.objs.size
 funs:s.heap.FunFrames base outer
 frf:∀b∈frs outer,H b=none
 hok:HOk P w H s.heap
 bare:AllBare s.gens
def CE(outer:List Env)(P:Program)(w:World)(H:Hp)(s:Shared)(Q:VK)(u:Value)(s':Shared):Prop:=
 ∃v H',s'.os=s.os/\AllBare s'.gens/\Un (frs outer) [] H H' s.heap s'.heap/\HOk P w H' s'.heap/\aD v u/\Q v H'
def CR(CX:CXT)(outer:List Env)(P:Program)(w:World)(H:Hp)(s:Shared)(Q:VK)(E:XK)(r:Result)(s':Shared):Prop:=
 match r with
 | .ok (.ret u)=>CE outer P w H s Q u s'
 | .ok _=>False
 | .error e=>CX outer H s E e s'
structure jc(P:Program)(w:World)(K:NF)(mg:Str->Option Value)(base:Heap)(CX:CXT)(k:Nat)(f:Addr)(fd:FuncData)(ps:List Str)(sp:Sp):Prop where
 len:∀vs H Q E,sp vs H Q E->vs.length=ps.length
 run:∀(A:Around) (outer:List Env) (s:Shared) (H:Hp) (args:Args) (us:List Value) (vs:List V) (Q:VK) (E:XK),ko k A->BA P w K mg base A outer s H->BindsTo s fd args (ps.zip us)->aG vs us->sp vs H Q E ->
  codeAny (model P w) A (.call (.ref f) args) (CR CX outer P w H s Q E) s
section
variable{X:Cx}{pins:List (Addr×Obj)}{σ:St}{H:Hp}{s s':Shared}
theorem Inv.env0(I:Inv X pins σ H s):BA X.prog X.w X.K X.mg X.base X.A X.stack s H:=
 ⟨I.ok.frames,I.ok.mod,I.bs,uw I.ok.bsz I.sz,I.stack,I.stkFree,I.hok,I.bare⟩
def Inv.after(I:Inv X pins σ H s)(h:CE X.stack X.prog X.w H s Q u s'):EP X pins σ Q u s':=by
 obtain⟨v,H',os,bare,un,hok,r,q⟩:=h;obtain⟨U,g,d,t,J⟩:=s';obtain rfl:J=s.os:=os;exact⟨v,H',I.call un hok bare (λb z=>absurd z (by simp)),r,q⟩
end
noncomputable def yh(sp:Sp)(dvs:List V)(E:XK)(t:TA):TE:=λσ H Q=>t σ H λvs H1=>sp (vs++dvs) H1 Q E
def c8(K:NF)(fd:FuncData)(ps:List Str)(ds:List Value):Prop:=
 ∀s us,K.In s.heap->(us++ds).length=ps.length->BindsTo s fd ⟨us,[]⟩ (ps.zip (us++ds))
theorem c8.all{K:NF}(h:∀us,us.length=ps.length->bindArgs fd ⟨us,[]⟩=pure (ps.zip us)):c8 K fd ps []:=λs us _ z=>by
 rw[Le]at z ⊢;exact .of_eq (h us z)
def pU(CX:CXT)(X:Cx)(E:XK):Prop:=∀pins (σ:St) H s e s',Inv X pins σ H s->CX X.stack H s E e s'->X.xe e s'
section
variable{X:Cx}{CX:CXT}{k:Nat}{f C:Addr}{fd:FuncData}{ps:List Str}{sp:Sp}{dvs:List V}{ds:List Value}{E:XK}{x m:Str}{p pos apos:Pos}{e o:Expr}{es:List Expr}{ta:TE}{t:TA}
def yi(F:jc X.prog X.w X.K X.mg X.base CX k f fd ps sp)(U:ko k X.A)(Y:c8 X.K fd ps ds)(hd:aG dvs ds)(hx:pU CX X E)
  (I:Inv X pins σ H s) (r:aG vs us) (h:sp (vs++dvs) H Q E):wpAny (model X.prog X.w) X.A (call (.ref f) us) (EP X pins σ Q) X.xe s:=by
 have J:=r.append hd;have Z:(us++ds).length=ps.length:=by rw[<- J.length];exact F.len _ _ _ _ h
 refine wpAny_call (L0 (F.run X.A X.stack s H ⟨us,[]⟩ (us++ds) (vs++dvs) Q E U I.env0 (Y s us I.kIn Z) J h) λr s' z=>?_);cases r with
 |error e=>exact hx pins σ H s e s' I z
 |ok fl =>
  cases fl with
  |ret u=>exact I.after z
  |next=>exact False.elim z
  |brk=>exact False.elim z
  |cont=>exact False.elim z
def lP(F:jc X.prog X.w X.K X.mg X.base CX k f fd ps sp)(Y:ko k X.A)(Z:Gl X x)(hm:X.mg x=some (.ref f))(hk:PySem.W.keepIn X.K (.ref f)=true)(hb:c8 X.K fd ps ds)(hd:aG dvs ds)(hx:pU CX X E)
  (ha:PA X (e::es) t) (z:(x==("__debug__":Str))=false:=by decide) (he:starEach (e::es) X.env=(false,eval e X.env)::starEach es X.env:=by rfl) (J:(backTo pos (starEach es X.env)).any (·.1)=false:=by rfl) :
  PE X (.Call (.Name x p) (e::es) [] pos) (yh sp dvs E t):=by
 intro pins s σ H Q I h;refine Ll (pS I Z hm ?_ z);refine PySem.W.callWith_K I.ok.mod.kin hk (thn (ha pos pins s σ H _ I h) λus s1 ⟨vs,H1,U,r,q⟩=>⟨U.kIn,?_⟩) he J;exact yi F Y hb hd hx U r q
def yj(F:jc X.prog X.w X.K X.mg X.base CX k f fd ps sp)(J:ko k X.A)(U:Gl X x)(Y:X.mg x=some (.ref f))(Z:PySem.W.keepIn X.K (.ref f)=true)(hb:c8 X.K fd ps ds)(hd:aG dvs ds)(hx:pU CX X E)
  (z:(x==("__debug__":Str))=false:=by decide):PE X (.Call (.Name x p) [] [] pos) (yh sp dvs E G3):=by
 intro pins s σ H Q I h;refine Ll (pS I U Y ?_ z);exact PySem.W.callWith_K0 I.kIn Z (yi (us:=[]) F J hb hd hx I .nil h)
end
section
variable{X:Cx}{CX:CXT}{k:Nat}{f C:Addr}{fd:FuncData}{ps ks:List Str}{sp:Sp}{E:XK}{x m:Str}{p pos apos kpos:Pos}{e o:Expr}{es:List Expr}{kws:List Keyword}{te ta:TE}{t tk:TA}{nm:Option Str}
variable{g:List Value->List Value->List Value}{gV:List V->List V->List V}
end
structure pV(N P:List Str)(sc:Scope):Prop where
 kind:sc.kind=.function
 co:sc.isCoroutine=false
 gen:sc.isGenerator=false
 nd:N.Nodup
 pre:N.take P.length=P
 par:∀x∈P,sc.names.lookup x=some .local\/sc.names.lookup x=some .cell
 nofree:∀y∈sc.names,y.2≠.free
theorem oN{kindOf:Str->Option NameKind} :∀{binds}{m},(∀v,(x,v)∉binds)->bindL kindOf binds m x=m x
 | [],_,_=>rfl
 | (n,v)::r,m,h=>by
  unfold bindL;rw[oN λw hw=>h w (KH _ hw)];split
  .have:x≠n:=by rintro rfl;exact h v K1
   simp[this]
  .rfl
theorem oO{kindOf:Str->Option NameKind} :∀{binds}{m},(∀v,(x,v)∉binds)->bindC kindOf binds m x=m x
 | [],_,_=>rfl
 | (n,v)::r,m,h=>by
  unfold bindC;rw[oO λw hw=>h w (KH _ hw)];split
  .rfl
  .have:x≠n:=by rintro rfl;exact h v K1
   simp[this]
theorem oP{kindOf:Str->Option NameKind}{x:Str}{v:Value}:∀{P:List Str}{vs}{i:Nat}{m},P.Nodup->P[i]?=some x->vs[i]?=some v->kindOf x=some .local ->
  bindL kindOf (P.zip vs) m x=some v
 | [],_,_,_,_,h,_,_=>by simp at h
 | _::_,[],_,_,_,_,h,_=>by simp at h
 |p::P,w::vs,0,m,nd,h1,h2,z=>by
  simp at h1 h2;subst h1;subst h2
  show bindL kindOf ((p,w)::P.zip vs) m p=_;unfold bindL;rw[oN λv hv=>(Kt.mp nd).1 (of_mem_zip hv).1,if_pos z];simp
 |p::P,w::vs,i+1,m,nd,h1,h2,z=>by
  show bindL kindOf ((p,w)::P.zip vs) m x=_;exact oP (i:=i) (Kt.mp nd).2 (by simpa using h1) (by simpa using h2) z
theorem oQ{kindOf:Str->Option NameKind}{x:Str}{v:Value}:∀{P:List Str}{vs}{i:Nat}{m},P.Nodup->P[i]?=some x->vs[i]?=some v->kindOf x≠some .local ->
  bindC kindOf (P.zip vs) m x=some v
 | [],_,_,_,_,h,_,_=>by simp at h
 | _::_,[],_,_,_,_,h,_=>by simp at h
 |p::P,w::vs,0,m,nd,h1,h2,z=>by
  simp at h1 h2;subst h1;subst h2
  show bindC kindOf ((p,w)::P.zip vs) m p=_;unfold bindC;rw[oO λv hv=>(Kt.mp nd).1 (of_mem_zip hv).1,if_neg z];simp
 |p::P,w::vs,i+1,m,nd,h1,h2,z=>by
  show bindC kindOf ((p,w)::P.zip vs) m x=_;exact oQ (i:=i) (Kt.mp nd).2 (by simpa using h1) (by simpa using h2) z
noncomputable def eA(N:List Str)(vs:List V):St:=vs.map some++replicate (N.length-vs.length) none
noncomputable def qY(CX:CXT)(P:Program)(w:World)(K:NF)(mg:Str->Option Value)(base:Heap)(N:List Str)(qual:Str)(scope:Scope)(f:Addr)(J:Value)(A:Around)(outer:List Env)(s:Shared)(H:Hp)(E:XK):Cx where
 prog:=P
 w:=w
 K:=K
 mg:=mg
 base:=base
 A:=A.deeper (envOfC qual scope s.heap.objs.size f J)
 N:=N
 s₀:=s
 H₀:=H
 env:=envOfC qual scope s.heap.objs.size f J
 outer:=outer
 stack:=envOfC qual scope s.heap.objs.size f J::outer
 ex:=[]
 calm:=true
 fn:=λ_=>true
 pn:=[]
 xe:=λe s'=>wpAny (model P w) (A.deeper (envOfC qual scope s.heap.objs.size f J)) (leaving (envOfC qual scope s.heap.objs.size f J) e) (λ_ z=>CX outer H s E e z) (λU z=>CX outer H s E U z) s'
def qZ{sc:Scope}(h:sc.names.lookup x=some .cell):∃c,(cellsFrom n sc.names []).lookup x=some c:=by
 have q:=PySem.W.cellsFrom_some sc.names n [] (.inl h);exact isSome_iff_exists.mp q
def wI{K:NF} 
  (S:pV N ps scope) (hd:A.handled=none) (J:BA P w K mg base A outer s H) (hl:vs.length=ps.length) (r:aG vs us)
  (x:InCallC s s.heap.objs.size (bindL (envOfC qual scope s.heap.objs.size f cd).kindOf (ps.zip us) λ_=>none) (cellsFrom (s.heap.objs.size+1) scope.names []) (bindC (envOfC qual scope s.heap.objs.size f cd).kindOf (ps.zip us) λ_=>none) s1) :
  Inv (qY CX P w K mg base N qual scope f cd A outer s H E) [] (eA N vs) H s1:=by
 have a0:ps.length<=N.length:=by have:=Kn List.length S.pre;rw[Nz]at this;omega
 obtain⟨h1,tk,rfl,hk⟩:=x.done;have U:∀b,b∉(qY CX P w K mg base N qual scope f cd A outer s H E).ex:=λb z=>absurd (show b∈([]:List Addr)from z) (by simp)
 refine⟨⟨J.mod,S.kind,rfl,rfl,pb _,λy z c h1 h2=>?_,λy Y=>?_,λy c _ h=>?_,λ_=>hd,Around.frames_deeper J.frames,.inr ⟨rfl,rfl⟩,λb z=>absurd z (U b),J.bs,J.bsz,λb _ _=>U b,λb z=>absurd z (U b),J.funs,J.frf⟩,
  rfl,J.bare,Un.kept hk,⟨_,x.toInCall.ns,λi y v h1 h2 h3=>?_⟩,λy c h=>⟨_,x.cell y c h⟩,J.hok.fresh (pb _),λy c h=>?_,λp Z=>absurd (show p∈([]:List (Addr×Obj))from Z) (by simp),J.hok.kept hk,?_⟩
 .exact name_of_addr x.apart (PySem.mem_of_lookup h1) (PySem.mem_of_lookup h2)
 .have Y:=Y;rcases Y with Y|Y
  .exact qZ Y
  .exact absurd rfl (S.nofree _ (PySem.mem_of_lookup Y))
 .exact Ld (x.above y c (PySem.mem_of_lookup h))
 .have hi:i<vs.length:=by
   unfold eA at h2;by_cases hi:i<vs.length
   .exact hi
   .rw[Lp (by simpa using hi)]at h2;rw[Mr]at h2;split at h2<;>cases h2
  have ha:vs[i]?=some v:=by
   unfold eA at h2;rw[K3 (by simpa using hi),Kc]at h2;cases e:vs[i]?<;>simp_all
  obtain⟨u,hu,rv⟩:=r.get ha;have Z:ps[i]?=some y:=by
   rw[<- S.pre,getElem?_take_of_lt (by omega)];exact h1
  have ao:ps.Nodup:=by rw[<- S.pre];exact S.nd.sublist (take_sublist _ _)
  refine⟨u,rv,?_⟩;rcases S.par y (Lq Z)with k|k
  .exact .inl ⟨k,oP ao Z hu k⟩
  .obtain⟨c,e⟩:=qZ (n:=s.heap.objs.size+1) k;refine .inr ⟨.inl k,c,e,?_⟩;have q:=x.cell y c e;rw[oQ ao Z hu (by show scope.names.lookup y≠_;rw[k];decide)]at q;exact q
 .exact J.hok.fresh (Ld (x.above y c (PySem.mem_of_lookup h)))
 .unfold eA;show _=N.length;rw[J0,p0,length_replicate];omega
def yk{K:NF}{dV kV Z pm z ct oc:Value} 
  (lk:K.lookup f=some ⟨oc,od,.func (PySem.W.fnOf name qual params body scope dV kV Z pm an z ct),bA⟩) (aO:PySem.W.codeIn K z qual=true) (S:pV N ps scope)
  (len:∀vs H Q E,sp vs H Q E->vs.length=ps.length)
  (U:∀A outer s H vs Q E,ko k (A.deeper (envOfC qual scope s.heap.objs.size f z))->sp vs H Q E ->
   ∃t,PSs (qY CX P w K mg base N qual scope f z A outer s H E) body t/\t { nx:=λ_ H'=>Q .non H',rt:=Q } (eA N vs) H) :
  jc P w K mg base CX (k+1) f (PySem.W.fnOf name qual params body scope dV kV Z pm an z ct) ps sp:=by
 refine⟨len,λA outer s H args us vs Q E hr e0 hb r ar=>?_⟩;have hl:=len _ _ _ _ ar;have KX:=e0.mod.kin.keeps λb o e=>(e0.bs b o e).1
 have a1:=e0.mod.nolimit.keeps λb o e=>(e0.bs b o e).1
 have Y:∀y∈ps.zip us,scope.names.lookup y.1=some .local\/(scope.names.lookup y.1=some .cell/\((cellsFrom (s.heap.objs.size+1) scope.names []).lookup y.1).isSome=true):=λ⟨n,v⟩ hy=>by
  rcases S.par n (of_mem_zip hy).1 with q|q
  .exact .inl q
  .exact .inr ⟨q,PySem.W.cellsFrom_some _ _ _ (.inl q)⟩
 refine codeAny_call_function hr.depth (KX _ _ lk) rfl S.co S.gen rfl (PySem.W.codeRec_of KX aO) (hb _ _ _ _ ?_);refine wpAny_newFunctionEnv_cells S.kind Y λenv he s1 x=>?_
 subst he;refine⟨a1.keeps x.toInCall.keep,codeAny_func ?_⟩;obtain⟨t,ht,hq⟩:=U A outer s H vs Q E (hr.deeper _) ar;have I:Inv (qY CX P w K mg base N qual scope f z A outer s H E) [] _ H s1:=wI S hr.hd e0 hl r x;refine Ks (ht [] s1 _ H _ I hq) (λfl s' hs=>?_) λe s' hs=>hs
 have fin:∀{F}{H'}{v}{u},Inv (qY CX P w K mg base N qual scope f z A outer s H E) [] F H' s'->aD v u->Q v H'->CE outer P w H s Q u s':=
  λ{F H' v u} J rv q=>⟨v,H',J.os,J.bare,J.base,J.hok,rv,q⟩
 cases fl with
 |next =>
  obtain⟨F,H',J,q⟩:=hs;exact fin (v:=V.non) J rfl q
 |ret u =>
  obtain⟨v,F,H',J,rv,q⟩:=hs;exact fin J rv q
 | _ =>
  obtain⟨_,_,_,q⟩:=hs;exact False.elim q
section
variable{X:Cx}{x:Str}{p pos:Pos}{e:Expr}{es:List Expr}{t:TA}{id T:String}{r:List V->Hp->VK->Prop}
noncomputable def tCB(r:List V->Hp->VK->Prop)(t:TA):TE:=λσ H Q=>t σ H λvs H1=>r vs H1 Q
def eQ (hc:bW X (.builtin id) r) (U:Gl X x) (Y:X.mg x=none) (hv:bootBuiltins x=some (.builtin id)) (Z:PA X (e::es) t) (hn:x ≠ "__name__":=by decide) (z:(x==("__debug__":Str))=false:=by decide)
  (he:starEach (e::es) X.env=(false,eval e X.env)::starEach es X.env:=by rfl) (J:(backTo pos (starEach es X.env)).any (·.1)=false:=by rfl):PE X (.Call (.Name x p) (e::es) [] pos) (tCB r t):=by
 intro pins s σ H Q I h;refine Ll (gC I U Y hv ?_ hn z);exact PyProof.Rows.callWith_builtin1 (thn (Z pos pins s σ H _ I h) λus s1 ⟨vs,H1,I1,r1,q1⟩=>hc pins s1 σ H1 vs us Q I1 r1 q1) he J
def c9 (hc:bW X (.type T) r) (U:Gl X x) (Y:X.mg x=none) (hv:bootBuiltins x=some (.type T)) (Z:PA X (e::es) t) (hn:x ≠ "__name__":=by decide) (z:(x==("__debug__":Str))=false:=by decide)
  (he:starEach (e::es) X.env=(false,eval e X.env)::starEach es X.env:=by rfl) (J:(backTo pos (starEach es X.env)).any (·.1)=false:=by rfl):PE X (.Call (.Name x p) (e::es) [] pos) (tCB r t):=by
 intro pins s σ H Q I h;refine Ll (gC I U Y hv ?_ hn z);exact Kw (thn (Z pos pins s σ H _ I h) λus s1 ⟨vs,H1,I1,r1,q1⟩=>hc pins s1 σ H1 vs us Q I1 r1 q1) he J
end
end L2
namespace HT
open PySem PyProof.Rows List Option
noncomputable def lexLt:List Int->List Int->Bool
 | [],[]=>false
 | [],_::_=>true
 | _::_,[]=>false
 |x::xs,y::ys=>if x=y then lexLt xs ys else decide (x<y)
def lexLt_cons(x y)(xs ys):lexLt (x::xs) (y::ys)=if x=y then lexLt xs ys else decide (x<y):=rfl
def og:lexLt [] []=false:=rfl
def mh(y)(ys):lexLt [] (y::ys)=true:=rfl
def mi(x)(xs):lexLt (x::xs) []=false:=rfl
def yl(A)(s)(a)(t)(c)(u):∃e,SeqAt.EqAt A s (.int a t) (.int c u) e/\(e=true ↔ a=c):=
 ⟨(a==c),SeqAt.EqAt.int_int a t c u,by simp⟩
def ym(A)(s)(a)(t)(c)(u)(prog)(w)(E)(Q)(h:Q (.bool (decide (a<c))) s) :
  wpAny (model prog w) A (richCompare .Lt (.int a t) (.int c u)) Q E s:=
 (PyProof.Rows.lt_int h:wpAny (model prog w) A (compareOp .Lt (.int a t) (.int c u)) Q E s)
section
open PySem.SeqAt List Option
open PySem.AutoSeq1 (wpAny_loadPart')
open PySem.MeetsSeq PySem.MeetsSeq2 PySem.MeetsSeq3 List Option
def tuple_lt_ints(l b)(items z)(n n2)(dd a6)(sl bA)(ns ms)(hi:IntsAre items.toList ns)(hj:IntsAre z.toList ms) :
  Meets (Builtin.«tuple.__lt__» ⟨[.ref l,.ref b],[]⟩)
   (λ_ R s=>s.heap.get? l=some { cls:=.type "tuple",dict:=dd,data:=.seq items n,slots:=sl }/\s.heap.get? b=some { cls:=.type "tuple",dict:=a6,data:=.seq z n2,slots:=bA } /\
    R (.ok (.ret (.bool (lexLt ns ms)))) s):=
 .of_wp λprog w A R s h=>by
  obtain⟨hp,g,d,tk,os⟩:=s;obtain⟨hl,hb,h⟩:=h
  have f2:=Ms;have z1:items.size=ns.length:=by rw[<- hi.length];simp
  have z2:z.size=ms.length:=by rw[<- hj.length];simp
  wp_walk using wpAny_loadPart' hl,wpAny_loadPart' hb,wpAny_forIn_list _ (λbQ b s'=>b.1=none/\s'=⟨hp,g,d,tk,os⟩/\∃vs ws U Y,bQ=vs.zip ws /\
   IntsAre vs U/\IntsAre ws Y/\U.length+z.size=Y.length+items.size/\R (.ok (.ret (.bool (lexLt U Y)))) ⟨hp,g,d,tk,os⟩) _
  case turn =>
   rintro ⟨y,x⟩ bQ b s' ⟨aO,rfl,vs,ws,U,Y,hz,a0,Z,J,hR⟩;cases a0 with
   |nil=>rw[zip_nil_left]at hz;cases hz
   |cons a t a2 =>
    cases Z with
    |nil=>rw[zip_nil_right]at hz;cases hz
    |cons c u a3 =>
     rw[zip_cons_cons]at hz;injection hz with bB a1
     injection bB with hy hx
     subst hy hx;rw[lexLt_cons]at hR;simp only[length_cons]at J;obtain⟨e,he,ar⟩:=yl A.in1 ⟨hp,g,d,tk,os⟩ a t c u;refine ez (he prog w _ _ ?_);cases e with
     |true =>
      rw[if_pos (ar.mp rfl)]at hR
      wp_walk
      exact⟨rfl,rfl,_,_,_,_,a1,a2,a3,by omega,hR⟩
     |false =>
      rw[if_neg (λq=>absurd (ar.mpr q) pd)]at hR;have b0:=ym A.in1 ⟨hp,g,d,tk,os⟩ a t c u prog w
      wp_walk using b0
      exact⟨_,rfl,by simpa using hR⟩
  case fin =>
   rintro ⟨b1,b2⟩ s' ⟨aO,rfl,vs,ws,U,Y,hz,a0,Z,J,hR⟩;simp only at aO;subst aO;have hv:lexLt U Y=decide (items.size<z.size):=by
    cases a0 with
    |nil =>
     cases Z with
     |nil =>
      simp only[length_nil]at J;rw[og];exact(Kr (by omega)).symm
     |cons c u hw =>
      simp only[length_nil,length_cons]at J;rw[mh];exact(J9 (by omega)).symm
    |cons a t hv =>
     cases Z with
     |nil =>
      simp only[length_nil,length_cons]at J;rw[mi];exact(Kr (by omega)).symm
     |cons c u hw =>
      rw[zip_cons_cons]at hz;cases hz
   rw[hv]at hR
   wp_walk
   exact⟨_,rfl,by simpa[Builtin.Tuple.tupleCompareSizes]using hR⟩
  case h =>
   exact⟨rfl,rfl,items.toList,z.toList,ns,ms,rfl,hi,hj,by omega,h⟩
end
section
variable{prog:Program}{w:World}{A:Around}{E:Value->Shared->Prop}{s:Shared}
def lt_tupInts{items z:Array Value}{ns ms:List Int}{Q:Value->Shared->Prop}(hl:IsTup s.heap l items)(hb:IsTup s.heap b z)(hi:IntsAre items.toList ns)(hj:IntsAre z.toList ms)
  (hu:A.units<cLine) (h:Q (.bool (lexLt ns ms)) s):wpAny (model prog w) A (compareOp .Lt (.ref l) (.ref b)) Q E s:=by
 refine ax λZq kq=>?_
 obtain⟨⟨cls,dd,data,sl⟩,ho,hc,n,hd⟩:=id hl;obtain⟨⟨ar,Z,data2,ao⟩,J,U,n2,Y⟩:=id hb;simp only at hc hd U Y;subst hc hd U Y;refine kq ?_;exact LQ (op:=.Lt) ⟨_,ho,rfl⟩ ⟨_,J,rfl⟩ PySem.F.slot_tuple_lt PySem.F.entry_tuple_lt (PySem.F.args_tuple_lt_2 _ _) (tuple_lt_ints l b items z n n2 dd Z sl ao ns ms hi hj)
  ⟨ho,J,show Value.bool _≠Value.notImplemented/\Q _ s from⟨(λx=>nomatch x),h⟩⟩ hu
def cat_tup(ht:IsTup s.heap t vs.toArray)(hb:IsTup s.heap b ws.toArray)(hv:vs≠[])
  (h1:ws=[]->Q (.ref t) s) (h2:ws≠[]->Q (.ref s.heap.objs.size) { s with heap:=s.heap.push { cls:=.type "tuple",data:=.seq (vs++ws).toArray } })
  (ao:vs.length+ws.length<=sizeLine):wpAny (model prog w) A (binaryOp .Add (.ref t) (.ref b)) Q E s:=by
 refine ax λZq kq=>?_
 obtain⟨⟨cls,dd,data,sl⟩,ho,hc,n,hd⟩:=id ht;obtain⟨⟨aO,J,data2,U⟩,z,Y,n2,Z⟩:=id hb;simp only at hc hd Y Z;subst hc hd Y Z;have e:vs.toArray++ws.toArray=(vs++ws).toArray:=by simp
 refine kq ?_;by_cases hw:ws=[]
 .exact Np ⟨_,ho,rfl⟩ ⟨_,z,rfl⟩ Nq seq_tuple_add PySem.F.slot_tuple_add PySem.F.entry_tuple_add (PySem.F.args_tuple_add_2 _ _)
   (tuple_addW1 t b vs.toArray ws.toArray n n2 dd J sl U (by simpa using hv) (by simp[hw])) ⟨ho,z,h1 hw⟩
 .refine Np ⟨_,ho,rfl⟩ ⟨_,z,rfl⟩ Nq seq_tuple_add PySem.F.slot_tuple_add PySem.F.entry_tuple_add (PySem.F.args_tuple_add_2 _ _)
   (tuple_addW2 t b vs.toArray ws.toArray n n2 dd J sl U (by simpa using hv) (by simpa using hw) (by rw[r4,r4];exact ao)) ⟨ho,z,?_⟩
  rw[e];exact h2 hw
noncomputable def sIx(n d:Nat):Option Int->Nat
 |none=>d
 |some v=>if v<0 then(v+(n:Int)).toNat else min v.toNat n
def D8(n d)(hd:d<=n)(o):sIx n d o<=n:=by
 cases o with
 |none=>exact hd
 |some v =>
  show(if v<0 then(v+_).toNat else min v.toNat n)<=n
  grind
def uY(v)(n d:Nat):(if v<0 then max (v+(n:Int)) 0 else min v (n:Int))=((sIx n d (some v):Nat):Int):=by
 show(if v<0 then max _ 0 else min v _)=(((if v<0 then(v+_).toNat else min v.toNat n):Nat):Int)
 grind
def tu(lo hi)(n:Nat):Builtin.Slice.sliceAdjust lo hi 1 (n:Int)=(((sIx n 0 lo:Nat):Int),((sIx n n hi:Nat):Int)):=by
 refine Prod.ext ?_ ?_
 .cases lo with
  |none=>rfl
  |some v=>exact uY v n 0
 .cases hi with
  |none=>rfl
  |some v=>exact uY v n n
theorem tw(i j:Nat):Builtin.Slice.slicePlaces (i:Int) (j:Int) 1=j-i:=by
 unfold Builtin.Slice.slicePlaces
 grind
def mj(p:IsPart v o)(h:Q o s):wpAny (model prog w) A (Builtin.Slice.slicePartIndex v) Q E s:=by
 cases p<;>first|exact slicePart_none h|exact slicePart_int h
def fT{lo hi:Option Int}{n:Nat}{Q:Int×Int×Nat->Shared->Prop}(hs:s.heap.IsSliceOf Z U Y .none)(pl:IsPart U lo)(pu:IsPart Y hi)
  (h:Q (((sIx n 0 lo:Nat):Int),1,sIx n n hi-sIx n 0 lo) s):wpAny (model prog w) A (Builtin.Slice.sliceApplied (.ref Z) (pure (n:Int))) Q E s:=by
 obtain⟨os,z,aO,J⟩:=id hs;refine ez (ez (wpAny_field z J (x:=U) rfl (ez (wpAny_field z J (x:=Y) rfl (ez (wpAny_field z J (x:=.none) rfl (gk ?_)))))));refine ez (slicePart_none ?_);refine ez (mj pl (ez (mj pu (ez (gk ?_)))));show wpAny _ _ (match Builtin.Slice.sliceAdjust lo hi 1 _ with|(lo,hi)=>pure (lo,_,Builtin.Slice.slicePlaces lo hi 1)) _ _ s;rw[tu lo hi n];show wpAny _ _ (pure (((sIx n 0 lo:Nat):Int),_,Builtin.Slice.slicePlaces _ _ 1)) _ _ s;rw[tw];exact gk h
def yn(xs:Array Value)(i k:Nat):((range k).filterMap λ(m:Nat)=>xs[((i:Int)+(m:Int)*1).toNat]?).toArray=((xs.toList.drop i).take k).toArray:=by
 have e:(λ(m:Nat)=>xs[((i:Int)+(m:Int)*1).toNat]?)=λm=>xs[i+m]?:=by
  funext m
  have:((i:Int)+(m:Int)*1).toNat=i+m:=by omega
  rw[this]
 rw[e];have:=pick_run xs i k;rw[filterMap_map]at this;have z:((λx=>xs[x]?)∘λx=>i+x)=λm=>xs[i+m]?:=rfl
 rw[z]at this;rw[this]
def getItem_tuple_cut{items:Array Value}{vl vu:Value}{lo hi:Option Int}{Q:Value->Shared->Prop}(J:IsTup s.heap t items)(hs:s.heap.IsSliceOf sl vl vu .none)(pl:IsPart vl lo)(pu:IsPart vu hi)
  (hw:¬ (sIx items.size 0 lo=0/\sIx items.size items.size hi=items.size))
  (h:Q (.ref s.heap.objs.size) { s with heap:=s.heap.push { cls:=.type "tuple",data:=.seq ((items.toList.drop (sIx items.size 0 lo)).take (sIx items.size items.size hi-sIx items.size 0 lo)).toArray } })
  (a3:items.size<=sizeLine):wpAny (model prog w) A (getItem (.ref t) (.ref sl)) Q E s:=by
 have z:sizeOk (.seq ((items.toList.drop (sIx items.size 0 lo)).take (sIx items.size items.size hi-sIx items.size 0 lo)).toArray):=by
  show((items.toList.drop (sIx items.size 0 lo)).take (sIx items.size items.size hi-sIx items.size 0 lo)).toArray.size<=sizeLine;rw[r4,Nz,length_drop,Array.length_toList];omega
 have hj:sIx items.size items.size hi<=items.size:=D8 _ _ (pb _) hi;obtain⟨os,U,Y,a4⟩:=id hs;have Z:s.TypeIs (.ref sl) "slice":=⟨os,U,Y⟩;unfold getItem
 try with_reducible refine Kl ?_
 first|refine ez (gk ?_)|skip
 refine ez (wpAny_sequenceKey J.typeIs (by decide) ?_);refine ez (KC (name:=Str.ofString "__getitem__") J.typeIs KA
  (Kk KA J.typeIs entry_tuple_getitem ?_ (args_tuple_getitem _ _)))
 show wpAny _ _ (Builtin.Tuple.tupleItemsOf (.ref t) >>= _) _ _ s;refine ez (tupleItemsOf_ J ?_);refine ez (L3 Z ?_);rw[if_pos (by decide)];refine ez (fT hs pl pu ?_);have ao:¬ ((((sIx items.size 0 lo:Nat):Int)==0&&(1:Int)==1&&(sIx items.size items.size hi-sIx items.size 0 lo)==items.size)=true):=by
  simp_all
 show wpAny _ _ (if (((sIx items.size 0 lo:Nat):Int)==0&&_==1&&_==items.size)=true then _ else _) _ _ s;rw[if_neg ao,yn]
 first
  | exact ez (Kz (gk ⟨_,rfl,gk h⟩) z)
  | exact ez (Kz (ez (gk _)) z)
  | exact ez (ez (Kz (gk _) z))
  | exact ez (ez (Kz _ z))
end
end HT
namespace L2
open PySem PySem.Spec PyProof.Rows List Option
noncomputable abbrev TO:=St->Hp->(Option Int->Hp->Prop)->Prop
def PO(X:Cx)(e:Option Expr)(t:TO):Prop:=
 ∀pins s (σ:St) H Q,Inv X pins σ H s->t σ H Q ->
  wpAny (model X.prog X.w) X.A (evalPart e X.env) (λu s'=>∃o H',Inv X pins σ H' s'/\IsPart u o/\Q o H') X.xe s
noncomputable def BB:TO:=λ_ H Q=>Q none H
noncomputable def G5(t:TE):TO:=λσ H Q=>t σ H λx H1=>∃i,x=.int i/\Q (some i) H1
def cX :∀{us},aG (ns.map V.int) us->IntsAre us ns:=by
 induction ns with
 |nil=>intro us r;rw[map_nil]at r;cases r;exact .nil
 |cons n ns ih =>
  intro us r;cases r with
  |cons z J =>
   obtain⟨t,e⟩:=z;subst e;exact .cons n t (ih J)
section
variable{X:Cx}{e:Expr}{te:TE}{lo hi:Option Expr}{tl th:TO}{pos p2:Pos}
def BC:PO X none BB:=by
 intro pins s σ H Q I h;exact gk ⟨none,H,I,.none,h⟩
def BD(h:PE X e te):PO X (some e) (G5 te):=by
 intro pins s σ H Q I hw;refine thn (h pins s σ H _ I hw) λu Y ⟨x,H1,z,J,U⟩=>?_
 obtain⟨i,rfl,q⟩:=U;obtain⟨t,rfl⟩:=J;exact⟨some i,H1,z,.int i t,q⟩
def SlR(X:Cx)(r:V->Option Int->Option Int->Hp->VK->Prop):Prop:=
 ∀pins s (σ:St) H x v z J lo hi U Q,Inv X pins σ H s->aD x v->s.heap.IsSliceOf U z J .none->IsPart z lo->IsPart J hi->r x lo hi H Q ->
  ∃T id,typeLookup (.type T) "__getitem__"=pure (some (.builtin id))/\s.TypeIs v T/\wpAny (model X.prog X.w) X.A (getItem v (.ref U)) (EP X pins σ Q) X.xe s
noncomputable def tSl(r:V->Option Int->Option Int->Hp->VK->Prop)(te:TE)(tl th:TO):TE:=λσ H Q=>te σ H λx H1=>tl σ H1 λl H2=>th σ H2 λu z=>r x l u z Q
def yo(Z:SlR X r)(he:PE X e te)(hl:PO X lo tl)(hu:PO X hi th):PE X (.Subscript e (.Slice lo hi none p2) pos) (tSl r te tl th):=by
 intro pins s σ H Q I h;refine Subscript_ (thn (he pins s σ H _ I h) λv s1 ⟨x,H1,I1,r1,q1⟩=>?_);refine wpAny_Slice (thn (hl pins s1 σ H1 _ I1 q1) λJ s2 ⟨l,H2,I2,pl,q2⟩=>thn (hu pins s2 σ H2 _ I2 q2) λU z ⟨u,Y,I3,pu,q3⟩=>?_);refine gk ?_;have I4:Inv X pins σ Y { z with heap:=z.heap.push { cls:=.type "slice",data:=.fields #[J,U,.none] } }:=I3.kept λb ob q=>iA _ q
 obtain⟨T,id,hT,ht,hg⟩:=Z pins { z with heap:=z.heap.push { cls:=.type "slice",data:=.fields #[J,U,.none] } } σ Y x v J U l u z.heap.objs.size Q I4 r1 (Heap.IsSliceOf.new ..) pl pu q3;exact tail_any ht hT hg (by with_unfolding_all rfl)
noncomputable def wJ(xs:List V)(lo hi:Option Int):List V:=(xs.drop (HT.sIx xs.length 0 lo)).take (HT.sIx xs.length xs.length hi-HT.sIx xs.length 0 lo)
def k9(xs)(lo hi):(wJ xs lo hi).length<=xs.length:=by
 unfold wJ;rw[Nz,length_drop];omega
def Jp(K:NF):V->Option Int->Option Int->Hp->VK->Prop:=λx lo hi H Q=>∃a xs,x=.ref a/\SqT K H a xs /\
 ¬ (HT.sIx xs.length 0 lo=0/\HT.sIx xs.length xs.length hi=xs.length)/\∀p,H p=none->Q (.ref p) (upd H p (.tup (wJ xs lo hi)))
def D9:SlR X (Jp X.K):=by
 intro pins s σ H x v vl vu lo hi sl Q I U hs Y Z h;obtain⟨a,xs,rfl,hx,hw,q⟩:=h;cases U;obtain⟨its,r,J,hz⟩:=I.tuple hx;have z:its.toArray.size=xs.length:=by rw[r4];exact r.length.symm
 refine⟨"tuple",_,KA.lookup,J.typeIs,?_⟩;refine HT.getItem_tuple_cut J hs Y Z (by rw[z];exact hw) ?_ (by rw[z];exact hz);rw[z];refine⟨.ref s.heap.objs.size,_,I.laid (o:=.tup _) (λb ob q=>iA _ q) (pb _) ?_,rfl,q _ (I.hok.fresh (pb _))⟩;exact⟨uw (k9 xs lo hi) hz,_,(r.drop _).take _,IsTup.new _ _⟩
noncomputable def G6(K:NF):R2:=λx y H Q=>∃a b xs ys,x=.ref a/\y=.ref b/\SqT K H a xs/\SqT K H b ys/\xs≠[]/\xs.length+ys.length<=sizeLine /\
 (ys=[]->Q (.ref a) H)/\(ys≠[]->∀p,H p=none->Q (.ref p) (upd H p (.tup (xs++ys))))
def aG.nil_iff(r:aG xs us):us=[] ↔ xs=[]:=by
 cases r<;>simp_all
def BE:OpR X (binaryOp .Add) (G6 X.K):=by
 intro pins s σ H x y v u Q I Z ry h;refine ax λZq kq=>?_
 obtain⟨a,b,xs,ys,rfl,rfl,ha,hb,hx,hz,q1,q2⟩:=h;cases Z;cases ry;obtain⟨its,U,p1,_⟩:=I.tuple ha;obtain⟨Y,J,p2,_⟩:=I.tuple hb;refine kq ?_;refine HT.cat_tup p1 p2 (λz=>hx (U.nil_iff.mp z)) (λz=>⟨.ref a,H,I,rfl,q1 (J.nil_iff.mp z)⟩) (λz=>?_) (by rw[<- U.length,<- J.length];exact hz);refine⟨.ref s.heap.objs.size,_,I.laid (o:=.tup _) (λb ob q=>iA _ q) (pb _) ?_,rfl,q2 (λw=>z (J.nil_iff.mpr w)) _ (I.hok.fresh (pb _))⟩;exact⟨by rw[J0];exact hz,_,U.append J,IsTup.new _ _⟩
end
noncomputable def ixN(n:Nat)(i:Int):Option Nat:=if 0<=i then(if i<n then some i.toNat else none)else if -(n:Int)<=i then some (i+n).toNat else none
noncomputable def atI{α:Type}(xs:List α)(i:Int):Option α:=(ixN xs.length i).bind λj=>xs[j]?
def uZ(h:ixN n i=some j):seqIndex? i n=some j/\j<n/\-(n:Int)<=i/\i<n:=by
 unfold ixN at h;by_cases z:0<=i
 .rw[if_pos z]at h;by_cases h1:i<n
  .rw[if_pos h1]at h;have e:=J2 h;exact⟨by rw[seqIndex_of z h1,e],by omega,by omega,h1⟩
  .simp_all
 .rw[if_neg z]at h;by_cases h1:-(n:Int)<=i
  .rw[if_pos h1]at h;have e:=J2 h;exact⟨by rw[seqIndex_neg (by omega) h1,e],by omega,h1,by omega⟩
  .simp_all
def pW(h:atI xs i=some v):∃j,seqIndex? i xs.length=some j/\xs[j]?=some v/\j<xs.length/\-(xs.length:Int)<=i/\i<xs.length:=by
 unfold atI at h;cases e:ixN xs.length i with
 |none=>rw[e]at h;cases h
 |some j =>
  rw[e]at h;obtain⟨h1,h2,z,J⟩:=uZ e;exact⟨j,h1,h,h2,z,J⟩
def u6(b:Expr):Prop:=∀o i,subscripted b false o i=operate [o,i] (getItem o i)
def IxR(X:Cx)(r:R2):Prop:=
 ∀value slice pins s (σ:St) H x y v u Q,Inv X pins σ H s->aD x v->aD y u->r x y H Q ->
  subscripted slice false v u=operate [v,u] (getItem v u)->wpAny (model X.prog X.w) X.A (subscriptTail value slice v u) (EP X pins σ Q) X.xe s
def MtR(X:Cx)(id:String)(r:V->List V->Hp->VK->Prop):Prop:=
 ∀pins s (σ:St) H x xs v us Q,Inv X pins σ H s->aD x v->aG xs us->r x xs H Q ->
  wpAny (model X.prog X.w) X.A (call (.builtin id) (v::us)) (EP X pins σ Q) X.xe s
section
variable{X:Cx}{a b:Expr}{ta tb:TE}{pos:Pos}
theorem IxR.or(h:IxR X r)(h':IxR X U):IxR X (λx y H Q=>r x y H Q\/U x y H Q):=by
 intro value slice pins s σ H x y v u Q I z J q hs;rcases q with q|q
 .exact h value slice pins s σ H x y v u Q I z J q hs
 .exact h' value slice pins s σ H x y v u Q I z J q hs
def G7(z:IxR X r)(J:PE X a ta)(U:PE X b tb)(hs:u6 b):PE X (.Subscript a b pos) (tOp r ta tb):=by
 intro pins s σ H Q I h;exact Subscript_ (DY J U I h λv u Y x y H2 Z rx ry q=>z a b pins Y σ H2 x y v u Q Z rx ry q (hs _ _))
noncomputable def G8(K:NF):R2:=λx y H Q=>∃p xs i v,x=.ref p/\y=.int i/\SqL K H p xs/\atI xs i=some v/\Q v H
noncomputable def G9(K:NF):R2:=λx y H Q=>∃p xs i v,x=.ref p/\y=.int i/\SqT K H p xs/\atI xs i=some v/\Q v H
noncomputable def G_:R2:=λx y H Q=>∃z i c,x=.str z/\y=.int i/\z.length<=sizeLine/\atI z.cps.toList i=some c/\Q (.str ⟨#[c]⟩) H
def BF:IxR X (G8 X.K):=by
 intro value slice pins s σ H x y v u Q I rx ry h hs;refine ax λZq kq=>?_
 obtain⟨p,xs,i,z,rfl,rfl,hq,he,q⟩:=h;cases rx;obtain⟨t,rfl⟩:=ry;obtain⟨its,r,J,hz⟩:=I.list hq;obtain⟨j,h1,h2,h3,h4,h5⟩:=pW he;obtain⟨w,Z,U⟩:=r.get h2;have hl:=r.length;have hn:=kn;have fin:EP X pins σ Q w s:=⟨z,H,I,U,q⟩;refine kq ?_;by_cases h0:0<=i
 .have Y:i.toNat=j:=by
   rw[seqIndex_of h0 h5]at h1;exact J2 h1
  exact item_listR J.isList h0 (by omega) (by rw[Y];simpa using Z) fin hs
 .have Y:(i+(its.toArray.size:Int)).toNat=j:=by
   rw[seqIndex_neg (by omega) h4]at h1;rw[r4,<- hl];exact J2 h1
  exact subscriptTail_builtinR J.isList.typeIs slot_list_getitem.lookup
   (wpAny_getItem_list_neg J.isList (by omega) (by rw[r4]<;>omega) (by omega) (by rw[Y];simpa using Z) ⟨rfl,fin⟩) hs
def D_:IxR X (G9 X.K):=by
 intro value slice pins s σ H x y v u Q I Y Z h hs;refine ax λZq kq=>?_
 obtain⟨p,xs,i,z,rfl,rfl,hq,he,q⟩:=h;cases Y;obtain⟨t,rfl⟩:=Z;obtain⟨its,r,U,hz⟩:=I.tuple hq;obtain⟨j,h1,h2,h3,h4,h5⟩:=pW he;obtain⟨w,ew,J⟩:=r.get h2;have hl:=r.length;have hn:=kn;have fin:EP X pins σ Q w s:=⟨z,H,I,J,q⟩;refine kq ?_;exact subscriptTail_builtinR U.typeIs slot_tuple_getitem.lookup
  (getItem_tuple U (by omega) (by omega) (by rw[r4,<- hl];exact h1) (by simpa using ew) ⟨rfl,fin⟩) hs
def Ea:IxR X G_:=by
 intro value slice pins s σ H x y v u Q I J U h hs;refine ax λZq Y=>?_
 obtain⟨z,i,c,rfl,rfl,hz,Z,q⟩:=h;obtain⟨t,rfl⟩:=J;obtain⟨t',rfl⟩:=U;obtain⟨j,h1,h2,h3,h4,h5⟩:=pW Z;have hl:z.cps.toList.length=z.length:=by simp[Str.length]
 rw[hl]at h1 h4 h5;have hn:=kn;refine Y ?_;exact tail_any (typeIs_str s z t) slot_str_getitem.lookup (getItem_str (by
  have e1:decide (i < -(2 ^ 63:Int))=false:=Kr (by omega);have e2:decide (i>=2 ^ 63)=false:=Kr (by omega);rw[e1,e2,Bool.or_false]) (by rw[h1];simpa using h2) ⟨.str ⟨#[c]⟩,H,I.tok _,⟨_,rfl⟩,q⟩) hs
noncomputable def rIx(K:NF):R2:=λx y H Q=>G8 K x y H Q\/G9 K x y H Q\/G_ x y H Q
def yq:IxR X (rIx X.K):=BF.or (D_.or Ea)
def tz (its:List Value) (n j) (u):Obj.mapSeq (·.setIfInBounds j u) { cls:=.type "list",data:=.seq its.toArray n }={ cls:=.type "list",data:=.seq (its.set j u).toArray n }:=by
 simp[Obj.mapSeq]
theorem Inv.lst(I:Inv X pins σ H s)(h:H p=some (.lst xs)) :
  ∃its n,aG xs its/\s.heap.get? p=some { cls:=.type "list",data:=.seq its.toArray n }/\xs.length<=sizeLine:=by
 obtain⟨z,its,n,r,e⟩:=I.hok p _ h;exact⟨its,n,r,e,z⟩
def Inv.lstUpd{σ:St}{H:Hp}{s:Shared}{p:Addr}{xs ys:List V}{its its':List Value}{n z:Nat}{f:Obj->Obj}(I:Inv X pins σ H s)(h:H p=some (.lst xs))
  (ho:s.heap.get? p=some { cls:=.type "list",data:=.seq its.toArray n }) (J:f { cls:=.type "list",data:=.seq its.toArray n }={ cls:=.type "list",data:=.seq its'.toArray z }) (r:aG ys its') (hz:ys.length<=sizeLine) (t) :
  Inv X pins σ (upd H p (.lst ys)) { s with heap:=s.heap.update p f,toks:=t }:=by
 have e:(s.heap.update p f).get? p=some { cls:=.type "list",data:=.seq its'.toArray z }:=by
  rw[Kx f ho (by rw[J]<;>rfl),J]
 refine I.write (by rw[h];trivial) (.inl rfl) (λb u U q=>(KN _ _ (LJ U)).trans q) ⟨_,e⟩ ?_;exact⟨hz,its',z,r,e⟩
def Ha:V->V->V->Hp->(Hp->Prop)->Prop:=λo i v H Q=>∃p xs k j,o=.ref p/\i=.int k/\H p=some (.lst xs)/\ixN xs.length k=some j/\Q (upd H p (.lst (xs.set j v)))
def set_list:GN X Ha:=by
 intro pins s σ H o i v ov iv u Q I ro ri rv h;refine ax λZq kq=>?_
 obtain⟨p,xs,k,j,rfl,rfl,U,hj,q⟩:=h;cases ro;obtain⟨t,rfl⟩:=ri;obtain⟨its,n,r,ho,hz⟩:=I.lst U;obtain⟨h1,h2,Y,Z⟩:=uZ hj;have z:=r.length;have hn:=kn;have I':Inv X pins σ (upd H p (.lst _)) { s with heap:=s.heap.update p (Obj.mapSeq _) }:=
  I.lstUpd U ho (tz its n j u) (r.set rv j) (by rw[Ly];exact hz) s.toks
 refine kq ?_;by_cases h0:0<=k
 .have J:k.toNat=j:=by
   rw[seqIndex_of h0 Z]at h1;exact J2 h1
  exact PySem.W.ki_setAt ho h0 (by omega) (by rw[r4,<- z];exact Z) (by rw[J];exact⟨_,I',q⟩)
 .have J:(k+(its.toArray.size:Int)).toNat=j:=by
   rw[seqIndex_neg (by omega) Y]at h1;rw[r4,<- z];exact J2 h1
  exact PySem.W.ki_setBack ho (by omega) (by rw[r4,<- z];exact Y) (by omega) (by rw[J];exact⟨_,I',q⟩)
def pX(lo hi)(n):(sliceBounds lo hi none n).1=((HT.sIx n 0 lo:Nat):Int)/\(sliceBounds lo hi none n).2.1=((HT.sIx n n hi:Nat):Int)/\(sliceBounds lo hi none n).2.2=1:=by
 refine⟨?_,?_,rfl⟩
 .cases lo with
  |none=>simp[sliceBounds,HT.sIx]
  |some i =>
   simp[sliceBounds,HT.sIx,getD_none,show(1:Int) > 0 by decide,if_true];by_cases h:i<0
   .simp[h,if_true]<;>omega
   .simp[h,KU]<;>omega
 .cases hi with
  |none=>simp[sliceBounds,HT.sIx]
  |some i =>
   simp[sliceBounds,HT.sIx,getD_none,show(1:Int) > 0 by decide,if_true];by_cases h:i<0
   .simp[h,if_true]<;>omega
   .simp[h,KU]<;>omega
def oh(its:List Value)(lo hi):slicePick its.toArray lo hi none=((its.drop (HT.sIx its.length 0 lo)).take (HT.sIx its.length its.length hi-HT.sIx its.length 0 lo)).toArray:=by
 obtain⟨h1,h2,z⟩:=pX lo hi its.toArray.size;unfold slicePick;rw[h1,h2,z];simp only[sliceRange_one,pick_run]<;>rfl
def Jq(K:NF):V->Option Int->Option Int->Hp->VK->Prop:=λx lo hi H Q=>∃a xs,x=.ref a/\SqL K H a xs/\∀p,H p=none->Q (.ref p) (upd H p (.lst (wJ xs lo hi)))
def BG:SlR X (Jq X.K):=by
 intro pins s σ H x v vl vu lo hi sl Q I U hs Y Z h;obtain⟨a,xs,rfl,hx,q⟩:=h;cases U;obtain⟨its,r,J,hz⟩:=I.list hx;have z:=r.length;refine⟨"list",_,slot_list_getitem.lookup,J.isList.typeIs,?_⟩;refine wpAny_getItem_list_slice J.isList hs Y Z .none (by simp) ?_ (by rw[r4]<;>omega);rw[oh,<- z];refine⟨.ref s.heap.objs.size,_,I.laid (o:=.lst _) (λb ob q=>iA _ q) (pb _) ?_,rfl,q _ (I.hok.fresh (pb _))⟩;exact⟨uw (k9 xs lo hi) hz,_,0,(r.drop _).take _,tr _ rfl⟩
noncomputable def ii:V->Bool
 | .non=>true
 | .bl _=>true
 | .int _=>true
 | .str _=>true
 | _=>false
noncomputable def eqV:V->V->Bool
 | .non,.non=>true
 | .bl a,.bl b=>a==b
 | .bl a,.int b=>(if a then 1 else 0)==b
 | .int a,.bl b=>a==(if b then 1 else 0)
 | .int a,.int b=>a==b
 | .str a,.str b=>a==b
 | _,_=>false
def yr(J:aD y u)(z:aD x v)(Y:ii y=true)(U:ii x=true):SeqAt.EqAt A s u v (eqV y x):=by
 cases y with
 |non =>
  cases J;cases x with
  |non=>cases z;exact SeqAt.EqAt.same _
  |bl b=>cases z;exact SeqAt.EqAt.none_bool b
  |int b=>obtain⟨t,rfl⟩:=z;exact SeqAt.EqAt.none_int b t
  |str b=>obtain⟨t,rfl⟩:=z;exact SeqAt.EqAt.none_str b t
  | _=>exact absurd (show false=true from U) pd
 |bl a =>
  cases J;cases x with
  |non=>cases z;exact SeqAt.EqAt.bool_none a
  |bl b=>cases z;exact SeqAt.EqAt.bool_bool a b
  |int b=>obtain⟨t,rfl⟩:=z;exact SeqAt.EqAt.bool_int a b t
  |str b=>obtain⟨t,rfl⟩:=z;exact SeqAt.EqAt.bool_str a b t
  | _=>exact absurd (show false=true from U) pd
 |int a =>
  obtain⟨t',rfl⟩:=J;cases x with
  |non=>cases z;exact SeqAt.EqAt.int_none a t'
  |bl b=>cases z;exact SeqAt.EqAt.int_bool a t' b
  |int b=>obtain⟨t,rfl⟩:=z;exact SeqAt.EqAt.int_int a t' b t
  |str b=>obtain⟨t,rfl⟩:=z;exact SeqAt.EqAt.int_str a t' b t
  | _=>exact absurd (show false=true from U) pd
 |str a =>
  obtain⟨t',rfl⟩:=J;cases x with
  |non=>cases z;exact SeqAt.EqAt.str_none a t'
  |bl b=>cases z;exact SeqAt.EqAt.str_bool a t' b
  |int b=>obtain⟨t,rfl⟩:=z;exact SeqAt.EqAt.str_int a t' b t
  |str b=>obtain⟨t,rfl⟩:=z;exact SeqAt.EqAt.str_str a t' b t
  | _=>exact absurd (show false=true from U) pd
 | _=>exact absurd (show false=true from Y) pd
def gF:bW X (.builtin "len") (λxs H Q=>∃p ys,xs=[.ref p]/\(SqL X.K H p ys\/SqT X.K H p ys)/\Q (.int ys.length) H):=by
 intro pins s σ H xs us Q I r h;obtain⟨p,ys,rfl,J,q⟩:=h;obtain⟨u,rfl,Z⟩:=d_ r;cases Z;have hn:=kn;rcases J with J|J
 .obtain⟨its,U,Y,hz⟩:=I.list J;have z:=U.length;exact Calls.call_len_list Y.isList (by simp[r4]<;>omega) ⟨.int ys.length,H,I.tok _,⟨s.toks+1,by rw[r4,z]⟩,q⟩
 .obtain⟨its,U,Y,hz⟩:=I.tuple J;have z:=U.length;exact len_tuple Y (by simp[r4]<;>omega) ⟨.int ys.length,H,I.tok _,⟨s.toks+1,by rw[r4,z]⟩,q⟩
def pY:bW X (.type "list") (λxs H Q=>∃p ys,xs=[.ref p]/\(SqL X.K H p ys\/SqT X.K H p ys)/\∀l,H l=none->Q (.ref l) (upd H l (.lst ys))):=by
 intro pins s σ H xs us Q I r h;obtain⟨p,ys,rfl,U,q⟩:=h;obtain⟨u,rfl,rx⟩:=d_ r;cases rx;have fin:∀its,aG ys its->ys.length<=sizeLine->∀h' z,(∀b o',s.heap.get? b=some o'->h'.get? b=some o') ->
   h'.get? s.heap.objs.size=some { cls:=.type "list",dict:=none,data:=.seq its.toArray z,slots:=#[] }->EP X pins σ Q (.ref s.heap.objs.size) { s with heap:=h' }:=λits J hz h' z kp e =>
  ⟨.ref s.heap.objs.size,_,I.laid (t':=s.toks) kp (pb _) (show bL X.prog X.w _ h' _ (.lst ys)from⟨hz,its,z,J,e⟩),rfl,q _ (I.hok.fresh (pb _))⟩
 rcases U with U|U
 .obtain⟨its,J,Z,hz⟩:=I.list U;have Y:=J.length;obtain⟨o,ho,hc,n,hd⟩:=Z.isList;exact call_list_seq p (.inl rfl) ho hc hd (λh' z kp e=>fin its J hz h' z kp e) (by simp only[r4]<;>omega)
 .obtain⟨its,J,Z,hz⟩:=I.tuple U;have Y:=J.length;obtain⟨o,ho,hc,n,hd⟩:=Z;exact call_list_seq p (.inr rfl) ho hc hd (λh' z kp e=>fin its J hz h' z kp e) (by simp only[r4]<;>omega)
def i3:bW X (.type "tuple") (λxs H Q=>∃p ys,xs=[.ref p]/\((SqL X.K H p ys/\∀l,H l=none->Q (.ref l) (upd H l (.tup ys)))\/(SqT X.K H p ys/\Q (.ref p) H))):=by
 intro pins s σ H xs us Q I r h;obtain⟨p,ys,rfl,h⟩:=h;obtain⟨u,rfl,rx⟩:=d_ r;cases rx;rcases h with⟨z,q⟩|⟨z,q⟩
 .obtain⟨its,J,U,hz⟩:=I.list z;have Y:=J.length;refine call_tuple_list U.isList (λh' kp=>?_) (by simp[r4]<;>omega);have Z:=I.kept (t':=s.toks) kp;have I2:Inv X pins σ (upd H h'.objs.size (.tup ys)) { s with heap:=h'.push { cls:=.type "tuple",data:=.seq its.toArray } }:=
   Z.laid (λb o e=>iA _ e) (pb _) (show bL X.prog X.w _ _ _ _ from⟨hz,its,J,IsTup.new _ _⟩)
  exact⟨.ref h'.objs.size,_,I2,rfl,q _ (Z.hok.fresh (pb _))⟩
 .obtain⟨its,J,U,hz⟩:=I.tuple z;exact call_tuple_same U ⟨.ref p,H,I,rfl,q⟩
def tyV(K:NF)(T:String)(x:V)(H:Hp):Prop:=match x with
 | .str _=>T="str"
 | .int _=>T="int"
 | .ref p=>(T="list"/\∃xs,SqL K H p xs)\/(T="tuple"/\∃o,K.lookup p=some o/\o.cls=.type "tuple"/\o.dict=none) \/
   (T="dict"/\((∃kvs,H p=some (.dK kvs))\/∃kvs,H p=some (.dT kvs)))\/(T="set"/\∃S n,H p=some (.set S n))
 | _=>False
def yt(I:Inv X pins σ H s)(r:aD x v)(ty:tyV X.K T x H) :
  s.TypeIs v T/\∀a,v=.ref a->∃Y,s.heap.get? a=some Y/\Y.dict=none:=by
 cases x with
 |str z =>
  obtain⟨t,rfl⟩:=r;cases (show T="str" from ty);exact⟨typeIs_str s z t,λ_ e=>nomatch e⟩
 |int i =>
  obtain⟨t,rfl⟩:=r;cases (show T="int" from ty);exact⟨typeIs_int s i t,λ_ e=>nomatch e⟩
 |ref p =>
  cases r;rcases ty with⟨rfl,xs,hq⟩|⟨rfl,o,J,hc,hd⟩|⟨rfl,J⟩|⟨rfl,S,n,J⟩
  .obtain⟨its,_,Z,_⟩:=I.list hq;refine⟨Z.isList.typeIs,λa e=>?_⟩;cases e;obtain⟨o,n,e,c,hd,_⟩:=Z;exact⟨o,e,hd⟩
  .refine⟨⟨o,I.kIn p o J,hc⟩,λa e=>?_⟩;cases e;exact⟨o,I.kIn _ o J,hd⟩
  .have z:∃o,s.heap.get? p=some o/\o.ExactDict:=by
    rcases J with⟨kvs,J⟩|⟨kvs,J⟩
    .obtain⟨_,_,_,_,o,_,_,e,ex,_⟩:=I.hok p _ J;exact⟨o,e,ex⟩
    .obtain⟨_,_,_,_,o,_,_,e,ex,_⟩:=I.hok p _ J;exact⟨o,e,ex⟩
   obtain⟨o,e,ex⟩:=z;refine⟨⟨o,e,ex.1⟩,λa U=>?_⟩;cases U;exact⟨o,e,ex.2.1⟩
  .obtain⟨o,_,_,_,e,ex,_⟩:=I.hok p _ J;refine⟨⟨o,e,ex.1⟩,λa U=>?_⟩;cases U;exact⟨o,e,ex.2.1⟩
 | _=>exact False.elim ty
noncomputable def Jr(K:NF)(T:String)(r:V->List V->Hp->VK->Prop)(to:TE):TE:=λσ H Q=>to σ H λx H1=>tyV K T x H1/\r x [] H1 Q
noncomputable def tBM(K:NF)(T:String)(r:V->List V->Hp->VK->Prop)(to:TE)(t:TA):TE:=λσ H Q=>to σ H λx H1=>tyV K T x H1/\t σ H1 λxs H2=>r x xs H2 Q
variable{o e:Expr}{es:List Expr}{to:TE}{t:TA}{name:Str}{apos cpos:Pos}{T id:String}{r:V->List V->Hp->VK->Prop}
def Eb (pa:PlainAttrs T) (slot:Slot T name id) (U:typeOf (.builtin id)=pure (.type "method_descriptor")) (hm:MtR X id r) (ho:PE X o to)
  (z:attributeBase o name X.env (eval o X.env)=eval o X.env:=by rfl) (J:(apos.endLine==cpos.line)=true:=by rfl):PE X (.Call (.Attribute o name apos) [] [] cpos) (Jr X.K T r to):=by
 intro pins s σ H Q I h;refine wpAny_Call_method0_late z J (thn (ho pins s σ H _ I h) λv s1 ⟨x,H1,Y,Z,ty,q1⟩=>?_);obtain⟨h1,h2⟩:=yt Y Z ty;exact⟨T,id,pa,slot,U,h1,h2,LR rfl (PySem.evalArgs_none (hm pins s1 σ H1 x [] v [] Q Y Z .nil q1))⟩
def u7 (pa:PlainAttrs T) (slot:Slot T name id) (Z:typeOf (.builtin id)=pure (.type "method_descriptor")) (hm:MtR X id r) (ho:PE X o to) (ha:PA X (e::es) t)
  (J:attributeBase o name X.env (eval o X.env)=eval o X.env:=by rfl)
  (Y:((backTo cpos (starEach (e::es) X.env)).all (λx=>!x.1)&&(backToKw cpos (keywordEach [] X.env)).all (λx=>x.1.isSome)
  &&decide ((e::es).length+([]:List Keyword).length+(if ([]:List Keyword).isEmpty then 0 else 1)<30))=true:=by rfl)
  (U:(apos.endLine==cpos.line)=true:=by rfl) (hs:starEach (e::es) X.env=(false,eval e X.env)::starEach es X.env:=by rfl) (z:(backTo cpos (starEach es X.env)).any (·.1)=false:=by rfl) :
  PE X (.Call (.Attribute o name apos) (e::es) [] cpos) (tBM X.K T r to t):=by
 intro pins s σ H Q I h;refine wpAny_Call_method_late J Y U rfl (thn (ho pins s σ H _ I h) λv s1 ⟨x,H1,I1,r1,ty,q1⟩=>?_);obtain⟨h1,h2⟩:=yt I1 r1 ty;refine⟨T,id,pa,slot,Z,h1,h2,?_⟩;have hA:=ha cpos pins s1 σ H1 _ I1 q1;rw[hs]at hA ⊢;refine LR (by show(false||(backTo cpos _).any _)=false;rw[z]<;>rfl) (Calls.evalArgs_plain ?_);exact thn hA λus s2 ⟨vs,H2,I2,r2,q2⟩=>hm pins s2 σ H2 x vs v us Q I2 r1 r2 q2
end
def MtM(X:Cx)(id:String)(r:V->List V->Hp->VK->Prop):Prop:=
 ∀pins s (σ:St) H x xs v us Q,Inv X pins σ H s->aD x v->aG xs us->r x xs H Q ->
  wpAny (model X.prog X.w) X.A (call (.builtin id) (v::us)) (EP X pins σ Q) X.xe s
theorem aG.one:∀{x}{us},aG [x] us->∃u,us=[u]/\aD x u
 | _,_,.cons r .nil=>⟨_,rfl,r⟩
def aG.zero:∀{us},aG [] us->us=[]
 | _,.nil=>rfl
theorem aG.dropLast(h:aG xs us):aG xs.dropLast us.dropLast:=by
 induction h with
 |nil=>exact .nil
 |cons r t ih =>
  cases t<;>first|exact .nil|exact .cons r ih
theorem aG.reverse(h:aG xs us):aG xs.reverse us.reverse:=by
 induction h with
 |nil=>exact .nil
 |cons r t ih=>rw[reverse_cons,reverse_cons];exact aG.append ih (.cons r .nil)
def Ec{α:Type}(l:List α):l.eraseIdx (l.length-1)=l.dropLast:=by simp
section
variable{X:Cx}{pins:List (Addr×Obj)}{σ:St}{H:Hp}{s:Shared}{l b:Addr}{xs ys zs:List V}
theorem Inv.lset{its its':List Value}{n:Nat}{f:Array Value->Array Value}{t':Nat}(I:Inv X pins σ H s)(z:H l=some (.lst xs))
  (e:s.heap.get? l=some { cls:=.type "list",data:=.seq its.toArray n }) (J:f its.toArray=its'.toArray) (hv:aG ys its') (hz:ys.length<=sizeLine) :
  Inv X pins σ (upd H l (.lst ys)) { s with heap:=s.heap.update l (Obj.mapSeq f),toks:=t' }:=by
 have q:=PySem.IsL.update e f;rw[J]at q;refine I.write (by rw[z];exact trivial) (.inl rfl) (λZ u U Y=>(KN s.heap _ (LJ U)).trans Y) ⟨_,q⟩ ?_;exact⟨hz,its',_,hv,q⟩
theorem Inv.lnew(I:Inv X pins σ H s)(hv:aG ys its)(hz:ys.length<=sizeLine) :
  Inv X pins σ (upd H s.heap.objs.size (.lst ys)) { s with heap:=s.heap.push { cls:=.type "list",data:=.seq its.toArray },toks:=t' }:=
 I.laid (λ_ _ q=>iA _ q) (pb _) ⟨hz,its,0,hv,tr _ rfl⟩
theorem Inv.fresh(I:Inv X pins σ H s):H s.heap.objs.size=none:=I.hok.fresh (pb _)
theorem Inv.lstM (I:Inv X pins σ H s) (J:H l=some (.lst xs)):xs.length<=sizeLine/\∃its n,aG xs its/\xs.length=its.length/\s.heap.get? l=some { cls:=.type "list",data:=.seq its.toArray n }:=by
 obtain⟨z,its,n,r,e⟩:=I.hok l _ J;exact⟨z,its,n,r,r.length,e⟩
def q8(h:n<=sizeLine):Builtin.List.listTooLong n=false:=by simp_all [Builtin.List.listTooLong]
end
section
variable{X:Cx}
def BH:V->List V->Hp->VK->Prop:=λx vs H Q=>∃l xs y,x=.ref l/\vs=[y]/\H l=some (.lst xs)/\xs.length<sizeLine/\Q .non (upd H l (.lst (xs++[y])))
def kr:MtM X "list.append" BH:=by
 intro pins s σ H x vs v us Q I U Y h;refine ax λZq Z=>?_
 obtain⟨l,xs,y,rfl,rfl,J,hz,q⟩:=h;cases U;obtain⟨u,rfl,ru⟩:=Y.one;obtain⟨z,its,n,r,hl,e⟩:=I.lstM J;refine Z ?_;refine MN F.slot_list_append ⟨_,e,rfl⟩ F.entry_list_append (F.args_list_append_2 _ _) (PySem.list_append l its.toArray n u (by rw[r4];omega)) ⟨e,?_⟩;refine⟨.non,_,I.lset J e (by simp) (r.append (.cons ru .nil)) ?_,rfl,q⟩
 grind
def Js:V->List V->Hp->VK->Prop:=λx vs H Q=>∃l xs y,x=.ref l/\vs=[]/\H l=some (.lst xs)/\xs[xs.length-1]?=some y/\Q y (upd H l (.lst xs.dropLast))
def Ed:MtM X "list.pop" Js:=by
 intro pins s σ H x vs v us Q I Z rv h;refine ax λZq kq=>?_
 obtain⟨l,xs,y,rfl,rfl,Y,hy,q⟩:=h;cases Z;have J:=rv.zero;subst J;obtain⟨z,its,n,r,hl,e⟩:=I.lstM Y;obtain⟨u,hu,ru⟩:=r.get hy;have U:its.toArray[its.toArray.size-1]?=some u:=by
  simp_all
 refine kq ?_;refine MN F.slot_list_pop ⟨_,e,rfl⟩ F.entry_list_pop (F.args_list_pop_1 _) (MeetsSeq.list_pop_last l its.toArray n u U (by rw[r4];omega)) ⟨e,?_⟩;refine⟨y,_,I.lset Y e ?_ r.dropLast ?_,ru,q⟩
 .simp_all
 .rw[length_dropLast];omega
def rPopAt:V->List V->Hp->VK->Prop:=λx vs H Q=>∃l xs i k y,x=.ref l/\vs=[.int i]/\H l=some (.lst xs)/\-(2 ^ 63)<=i/\i<2 ^ 63/\seqIndex? i xs.length=some k/\xs[k]?=some y/\Q y (upd H l (.lst (xs.eraseIdx k)))
end
section
variable{prog:Program}{w:World}{A:Around}{E:Value->Shared->Prop}{s:Shared}
end
section
variable{X:Cx}
end
end L2
namespace Att
open PySem PySem.W PySem.Calls PyProof.Rows List Option
def lE :∀ns vs,WellAll P h vs (ns.map WData.int)->IntsAre vs ns:=by
 intro ns
 induction ns with
 |nil =>
  intro vs w;cases w;exact .nil
 |cons n ns ih =>
  intro vs w;cases w with
  |cons a b =>
   cases a;exact .cons _ _ (ih _ b)
def wK{l:OpenLaw}(hn:l.most=some n) 
  (z:l.row.toRowW.claim.pre args=true) (Z:WellAll P h vals args) :
  ∃a vs ns,vals=[Value.ref a]/\args=[WData.list (ns.map WData.int)]/\h.get? a=some { cls:=.type "list",data:=.seq vs.toArray }/\IntsAre vs ns/\ns.length<=n:=by
 have ao:WShape.hasAll [] args [.list .int]=true:=(pre_splitW z).1;have hc:l.pre.holds [] { args:=args }=true:=(pre_splitW z).2;obtain⟨d,r,rfl,h1,h2⟩:=hasAllW_cons ao;obtain rfl:=hasAllW_nil h2;obtain⟨xs,rfl,h3⟩:=hasW_list h1;obtain⟨ns,rfl⟩:=items_int h3;have J:ns.length<=n:=by
  have Y:(WTm.not (.lt (.lit (.int (n:Int))) (.len (.arg 0)))).holds [] { args:=[.list (ns.map .int)] }=true:=by
   have Y:=(holds_andW hc).1;rw[hn]at Y;exact Y
  have h5:=condW_of Y (w_not (w_lt w_lit (w_len_list (w_arg rfl))))
  simp_all
 cases Z with
 |cons w1 w2 =>
  cases w2;cases w1 with
  |list ho U=>exact⟨_,_,ns,rfl,rfl,ho,lE ns _ U,J⟩
def wL(l:OpenLaw)(args):l.row.toRowW.claim.post args (.bool true) args=true:=
 postW_of (r:=l.row.toRowW) (X:=(true==true))
  (show WShape.has [] (.bool true) .bool=true by first|rfl|decide|simp[WShape.arms])
  (show(WTm.eq .res (.lit (.bool true))).value [] { args:=args,res:=some (.bool true),after:=args }=some (.bool (true==true))from w_eq_bool (w_res rfl) w_lit) rfl
def attach_call{l:OpenLaw}{n:Nat}{q:Program}{J:List Str}{XP:(Str->Option Value)->Heap->Prop}{YP:World->Heap->Prop}{d:DefRec}
  (hn:l.most=some n) (a2:d.params.defaults=[])
  (call:∀w s₀ z mg mb fa o pm cd U a vs ns,
   Ground q J [] XP w s₀ mg mb z.heap->YP w z.heap ->
   z.heap.get? fa=some o->o.data=.func (docDef d.name d.params d.body d.scope pm cd U)->z.heap.CodeRec cd d.name->mg d.name=some (.ref fa) ->
   z.heap.get? a=some { cls:=.type "list",data:=.seq vs.toArray }->IntsAre vs ns->ns.length<=n->z.gens=#[] ->
   codeAny (model l.prog w) callerA (.call (.ref fa) ⟨[.ref a],[]⟩) (λr s'=>r=.ok (.ret (.bool true))/\OldK z.heap s'.heap/\s'.os=z.os/\AllBare s'.gens) z) :
  WalkO q J XP YP l.row.toRowW d [] (λf vs=>PySem.call f vs):=by
 intro w s₀ z mg mb G Y fa o pm cd U dV kV ho hd a4 hD a5 hg args vals as ar b1 b5 a6 ck;obtain rfl:dV=.none:=Dflts.none hD a2;obtain rfl:kV=.none:=Dflts.noKw hD;obtain⟨a,vs,ns,rfl,rfl,aO,Z,a0⟩:=wK hn ar a6;refine enter_call (L0 (call w s₀ z mg mb fa o pm cd U a vs ns G Y ho (fd_plain hd) a4 a5 aO Z a0 hg) λr s' hq=>?_);obtain⟨rfl,h2,h3,h4⟩:=hq;exact⟨.inl ⟨.bool true,.bool true,[],rfl,λ_=>rfl,.bool true,wL l _,λ_=>⟨Pairwise.nil,λ_ hm=>(nomatch hm)⟩⟩,h2,h3,h4⟩
section
variable{prog:Program}{w:World}{A:Around}{E:Value->Shared->Prop}{s:Shared}{K:Frag}
end
end Att
namespace L2
open PySem PySem.Spec PyProof.Rows List Option
theorem ku:∀{vs}{ns},IntsAre vs ns->aG (ns.map V.int) vs
 | _,_,.nil=>.nil
 | _,_,.cons n t h=>.cons ⟨t,rfl⟩ (ku h)
def Ee(H:Hp):Prop:=∀b,H b=none\/∃o xs,H b=some (.frz o (.lst xs))
def yu{K:NF} 
  (KX:K.In J.heap) (ar:J.heap.Ns mainGlobals mg) (U:J.heap.Ns builtinsNs mb) (a5:∀x:Str,x ≠ "__name__"->mb x=bootBuiltins x) (aO:J.heap.NoLimit) (hg:J.gens=#[])
  (ha:J.heap.get? a=some { cls:=.type "list",data:=.seq vs.toArray }) (hi:IntsAre vs ns) (hl:ns.length<=sizeLine) (hr:ko k callerA)
  (F:∀base,K.In base->base.Ns mainGlobals mg->jc P w K mg base CX k fa fd [x] sp) (ao:∀s u,BindsTo s fd ⟨[u],[]⟩ [(x,u)])
  (a6:∀H,Ee H->SqL K H a (ns.map V.int)->sp [.ref a] H (λv _=>v=.bl true) λ_ _ _=>False)
  (bA:∀H e s',CX [] H J (λ_ _ _=>False) e s'->False) :
  codeAny (model P w) callerA (.call (.ref fa) ⟨[.ref a],[]⟩) (λr s'=>r=.ok (.ret (.bool true))/\OldK J.heap s'.heap/\s'.os=J.os/\AllBare s'.gens) J:=by
 have rv:=ku hi;have a0:=hi.length;have Z:∀H,Ee H->SqL K H a (ns.map V.int)->HOk P w H J.heap->(∀b,H b≠none->b=a)->(H a≠none->K.lookup a=none) ->
   codeAny (model P w) callerA (.call (.ref fa) ⟨[.ref a],[]⟩) (λr s'=>r=.ok (.ret (.bool true))/\OldK J.heap s'.heap/\s'.os=J.os/\AllBare s'.gens) J:=by
  intro H hO hS hok hA hK;have base_of:∀{b}{o},J.heap.get? b=some o->H b=none->(pR J.heap H).get? b=some o:=λe n=>xY e n
  have bB:∀{b}{o}{es}{ep},J.heap.get? b=some o->o.data=.dict es ep->H b=none:=λ{b o es ep} e d=>by
   cases q:H b with
   |none=>rfl
   |some u =>
    have e':=hA b (by rw[q];simp);subst e';rw[ha]at e;cases e
    have d':=d;cases d'
  have Y:∀{b}{m},J.heap.Ns b m->(pR J.heap H).Ns b m:=λ{b m} ⟨o,es,ep,e,d,r⟩=>⟨o,es,ep,base_of e (bB e d),d,r⟩
  have a1:K.In (pR J.heap H):=λb o e=>base_of (KX b o e) (by
   cases q:H b with
   |none=>rfl
   |some u =>
    have e':=hA b (by rw[q];simp);subst e';rw[hK (by rw[q];simp)]at e;cases e)
  have hM:Mod K mg (pR J.heap H):=⟨a1,Y ar,⟨mb,Y U,a5⟩,let ⟨mc,h1,h2⟩:=aO;⟨mc,Y h1,h2⟩⟩;have e0:BA P w K mg (pR J.heap H) callerA [] J H:=⟨rfl,hM,λb o e=>Bm e,L4 (wE _ _),trivial,λb U=>absurd (show b∈([]:List Addr)from U) (by simp),hok,.of_eq hg⟩;refine L0 ((F _ a1 (Y ar)).run callerA [] J H ⟨[.ref a],[]⟩ [.ref a] [.ref a] _ _ hr e0 (ao J (.ref a)) (.cons rfl .nil) (a6 H hO hS)) λr s' h=>?_
  cases r with
  |error e=>exact(bA H e s' h).elim
  |ok fl =>
   cases fl with
   |ret u =>
    obtain⟨v,H',os,bare,un,a2,r',q⟩:=h;have q':=q;subst q';obtain rfl:u=Value.bool true:=r';refine⟨rfl,OldK.of_keep λb o e=>?_,os,bare⟩;cases q:H b with
    |none=>exact un.keep b o e q (by intro z;exact absurd (show b∈([]:List Addr)from z) (by simp)) (by simp)
    |some u =>
     rcases hO b with z|⟨ob,xs,z⟩
     .rw[q]at z;cases z
     .have z2:=un.frzs b ob _ z;obtain⟨e1,_⟩:=hok b _ z;obtain⟨e2,_⟩:=a2 b _ z2;rw[e]at e1;cases e1
      exact e2
   | _=>exact False.elim h
 cases hk:K.lookup a with
 |some o =>
  have e:=KX a o hk;rw[ha]at e;cases e;refine Z (λ_=>none) (λ_=>.inl rfl) (.inr ⟨_,vs.toArray,_,hk,rfl,rfl,rfl,by rw[r4,a0];exact hl,by simpa using rv⟩) (λb u z=>by have z':=z;cases z') (λb z=>absurd rfl z) λz=>absurd rfl z
 |none =>
  refine Z (λb=>if b=a then some (.frz { cls:=.type "list",data:=.seq vs.toArray } (.lst (ns.map V.int)))else none) (λb=>?_) (.inl (.inr ⟨{ cls:=.type "list",data:=.seq vs.toArray },if_pos rfl⟩)) (λb u z=>?_) (λb z=>?_) λ_=>hk
  .by_cases U:b=a
   .exact .inr ⟨_,_,if_pos U⟩
   .exact .inl (if_neg U)
  .by_cases U:b=a
   .have z':=(if_pos U).symm.trans z;cases z';subst U;exact⟨ha,by rw[p0];exact hl,vs,_,rv,ha⟩
   .have z':=(if_neg U).symm.trans z;cases z'
  .by_cases U:b=a
   .exact U
   .exact absurd (if_neg U) z
def BI{l:PySem.W.OpenLaw}{n k:Nat}{q:Program}{J:List Str}{XP:(Str->Option Value)->Heap->Prop}{YP:World->Heap->Prop}{d:DefRec}{K:Params->NF}{CX:World->CXT}{sp:World->Sp}{x:Str}
  (hn:l.most=some n) (aO:n<=sizeLine) (a0:d.params.defaults=[]) (hr:ko k callerA)
  (hY:∀w h,YP w h->(K w.params).In h)
  (F:∀w mg fa h,(K w.params).In h->h.Ns mainGlobals mg->mg d.name=some (.ref fa) ->
   ∃fd,(∀s u,BindsTo s fd ⟨[u],[]⟩ [(x,u)]) /\
    ∀base,(K w.params).In base->base.Ns mainGlobals mg->jc l.prog w (K w.params) mg base (CX w) k fa fd [x] (sp w))
  (a1:∀w H a (ns:List Int),ns.length<=n->Ee H->SqL (K w.params) H a (ns.map V.int)->sp w [.ref a] H (λv _=>v=.bl true) λ_ _ _=>False)
  (a2:∀w H s e s',CX w [] H s (λ_ _ _=>False) e s'->False) :
  PySem.W.WalkO q J XP YP l.row.toRowW d [] (λf vs=>PySem.call f vs):=by
 refine Att.attach_call hn a0 λw s₀ Z mg mb fa o pm cd b1 a vs ns G Y ho hd b2 a3 ao U z hg=>?_
 have KX:=hY w _ Y;obtain⟨fd,hb,hF⟩:=F w mg fa _ KX G.T.g a3;exact yu KX G.T.g G.T.b G.T.builtins G.T.nolimit hg ao U (uw z aO) hr hF hb (λH hO hS=>a1 w H a ns z hO hS) λH e s'=>a2 w H Z e s'
noncomputable def jD(s:Stmt):Arguments:=match s with
 | .FunctionDef _ a _ _ _ _ _ _ _ _=>a
 | _=>{ posonlyargs:=[],args:=[],vararg:=none,kwonlyargs:=[],kw_defaults:=[],kwarg:=none,defaults:=[] }
noncomputable def dH(s:Stmt):List Stmt:=match s with
 | .FunctionDef _ _ b _ _ _ _ _ _ _=>b
 | _=>[]
noncomputable def bo(s:Stmt):Scope:=match s with
 | .FunctionDef _ _ _ _ _ _ sc _ _ _=>sc
 | _=>{ kind:=.function,names:=[],isGenerator:=false,isCoroutine:=false }
noncomputable abbrev CX0:CXT:=λ_ _ _ _ _ _=>False
noncomputable abbrev E0:XK:=λ_ _ _=>False
def q_ :pU CX0 X E0:=λ_ _ _ _ _ _ _ h=>h.elim
section
variable{P:Program}{w:World}{K:NF}{mg:Str->Option Value}{base:Heap}
end
section
variable{X:Cx}
end
def aj(H H':Hp):Prop:=∀b o,H b=some o->H' b=some o
def aj.refl(H):aj H H:=λ_ _ h=>h
def aj.trans(a:aj H H1)(b:aj H1 H2):aj H H2:=λc o h=>b c o (a c o h)
def aj.free(e:aj H H')(h:H' l=Option.none):H l=Option.none:=by
 cases q:H l with
 |none=>rfl
 |some o =>
  rw[e l o q]at h;cases h
theorem aj.seq{K:NF}(e:aj H H')(h:SqL K H a xs):SqL K H' a xs:=by
 rcases h with(h|⟨o,h⟩)|h
 .exact .inl (.inl (e _ _ h))
 .exact .inl (.inr ⟨o,e _ _ h⟩)
 .exact .inr h
section
variable{g:Type} [DecidableEq g]
noncomputable def iY(kvs:List (g×V))(k:g):Option V:=(kvs.find? λz=>decide (z.1=k)).map (·.2)
noncomputable def fU(kvs:List (g×V))(k:g)(v:V):List (g×V):=
 if (kvs.any λz=>decide (z.1=k))=true then kvs.map (λz=>if z.1=k then(z.1,v)else z)else kvs++[(k,v)]
noncomputable def JS(kvs:List (g×V))(k:g):List (g×V):=kvs.filter λz=>decide (z.1≠k)
def ml{k:g}(e:p.1=k):iY (p::r) k=some p.2:=by simp_all [iY]
def mn{k:g}(e:¬ p.1=k):iY (p::r) k=iY r k:=by simp_all [iY]
theorem ra(k):∀kvs:List (g×V),(kvs.any λz=>decide (z.1=k))=(iY kvs k).isSome
 | []=>rfl
 |p::r=>by
  rw[any_cons];by_cases e:p.1=k
  .simp[ml e,J9 e]
  .rw[mn e,Kr e,Bool.false_or];exact ra k r
def ij(kvs)(k:g)(v):(fU kvs k v).length<=kvs.length+1:=by grind [fU,length_map,length_append,length_cons,length_nil]
def lD.isSome_eq(r:lD o u):o.isSome=u.isSome:=by
 cases o<;>first|(cases u<;>first|rfl|exact(show False from r).elim)|(cases u<;>first|exact(show False from r).elim|rfl)
theorem lD.getD(r:lD o u)(rd:aD d d'):aD (o.getD d) (u.getD d'):=by
 cases o<;>first|(cases u<;>first|exact rd|exact(show False from r).elim)|(cases u<;>first|exact(show False from r).elim|exact r)
theorem KV.val(r:KV kvs vs)(k:g):lD (iY kvs k) (valueAt vs k):=by
 induction r with
 |nil=>exact True.intro
 | @cons p q ps J h t ih =>
  obtain⟨h1,h2⟩:=h;by_cases e:p.1=k
  .have U:=h1.symm.trans e;have b:valueAt (q::J) k=some q.2:=by simp[valueAt,find?_cons,U]
   rw[ml e,b];exact h2
  .have U:¬ q.1=k:=λz=>e (h1.trans z)
   have b:valueAt (q::J) k=valueAt J k:=by simp[valueAt,find?_cons,U]
   rw[mn e,b];exact ih
theorem KV.any(r:KV kvs vs)(k:g):(kvs.any λz=>decide (z.1=k))=vs.any λz=>decide (z.1=k):=by
 induction r with
 |nil=>rfl
 |cons h t ih=>rw[any_cons,any_cons,ih,h.1]
def KV.repl(r:KV kvs vs)(k:g)(U:aD y u) :
  KV (kvs.map λJ=>if J.1=k then(J.1,y)else J) (vs.map λJ=>if J.1=k then(J.1,u)else J):=by
 induction r with
 |nil=>exact .nil
 | @cons p q ps Y h t ih =>
  rw[JY,JY];refine .cons ?_ ih;obtain⟨h1,h2⟩:=h;by_cases e:p.1=k
  .rw[if_pos e,if_pos (h1.symm.trans e)];exact⟨h1,U⟩
  .rw[if_neg e,if_neg (λz=>e (h1.trans z))];exact⟨h1,h2⟩
theorem KV.put(r:KV kvs vs)(k:g)(z:aD y u):KV (fU kvs k y) (stored vs k u):=by
 unfold fU stored;rw[r.any k];by_cases e:(vs.any λJ=>decide (J.1=k))=true
 .rw[if_pos e,if_pos e];exact r.repl k z
 .rw[if_neg e,if_neg e];exact Paired.snoc r ⟨rfl,z⟩
def KV.keys{vs:List (g×Value)}(r:KV kvs vs):kvs.map (·.1)=vs.map (·.1):=by
 induction r with
 |nil=>rfl
 |cons h t ih=>rw[JY,JY,ih,h.1]
theorem KV.length(r:KV kvs vs):kvs.length=vs.length:=Paired.length r
end
def mq(r:aD (kV k) u):(bY P w).is k u=true:=by
 cases k with
 |inl i=>obtain⟨t,e⟩:=(show ∃t,u=Value.int i t from r);subst e;exact qS P w i t
 |inr x=>obtain⟨t,e⟩:=(show ∃t,u=Value.str x t from r);subst e;exact qT P w x t
theorem oR :∀{ks}{us},aG (ks.map kV) us->ItemsAre (bY P w) ks us
 | [],_,r=>by rw[map_nil]at r;cases r;exact .nil
 |k::ks,_,r=>by
  cases r with
  |cons h t=>exact .cons (mq h) (oR t)
abbrev KT(H:Hp):List (List Key×V)->List (List Key×Addr×Value)->Prop:=Paired λp q=>p.1=q.1/\H q.2.1=some (.tup (p.1.map kV))/\aD p.2 q.2.2
theorem KT.val(r:KT H kvs xs)(k):lD (iY kvs k) ((atKey xs k).map (·.2)):=by
 induction r with
 |nil=>exact True.intro
 | @cons p q ps J h t ih =>
  obtain⟨h1,_,h2⟩:=h;by_cases e:p.1=k
  .have U:=h1.symm.trans e;have b:atKey (q::J) k=some q.2:=by simp[atKey,find?_cons,U]
   rw[ml e,b];exact h2
  .have U:¬ q.1=k:=λz=>e (h1.trans z)
   have b:atKey (q::J) k=atKey J k:=by simp[atKey,find?_cons,U]
   rw[mn e,b];exact ih
def KT.repl(r:KT H kvs xs)(k)(U:aD y u) :
  KT H (kvs.map λJ=>if J.1=k then(J.1,y)else J) (xs.map (putAt k u)):=by
 induction r with
 |nil=>exact .nil
 | @cons p q ps Z h t ih =>
  rw[JY,JY];refine .cons ?_ ih;obtain⟨h1,h2,Y⟩:=h;unfold putAt;by_cases e:p.1=k
  .rw[if_pos e,if_pos (h1.symm.trans e)];exact⟨h1,h2,U⟩
  .rw[if_neg e,if_neg (λz=>e (h1.trans z))];exact⟨h1,h2,Y⟩
theorem KT.put(r:KT H kvs xs)(k)(J:H b=some (.tup (k.map kV)))(z:aD y u) :
  KT H (fU kvs k y) (storedH xs k b u):=by
 have e:(kvs.any λU=>decide (U.1=k))=(atKey xs k).isSome:=by
  rw[ra,(r.val k).isSome_eq,isSome_map]
 unfold fU storedH;rw[e];by_cases q:(atKey xs k).isSome=true
 .rw[if_pos q,if_pos q];exact r.repl k z
 .rw[if_neg q,if_neg q];exact Paired.snoc r ⟨rfl,J,z⟩
def KT.keeps(r:KT H kvs xs)(J:∀b ys,H b=some (.tup ys)->H' b=some (.tup ys)):KT H' kvs xs:=
 Paired.mapP r λ_ _ z=>⟨z.1,J _ _ z.2.1,z.2.2⟩
section
variable{P:Program}{w:World}{H:Hp}{h:Heap}{a:Addr}
def Dc(ok:HOk P w H h)(e:Rd H a u):bL P w H h a u:=e.ok ok
def jE(ok:HOk P w H h)(e:Rd H a (.dK kvs)):kvs.length<=sizeLine/\(a==sysModules)=false/\∃vs,KV kvs vs/\h.DictOf (bY P w) a vs:=
 show bL P w H h a (.dK kvs)from Dc ok e
def Dd(ok:HOk P w H h)(e:H a=some (.dK kvs)):kvs.length<=sizeLine/\(a==sysModules)=false/\∃vs,KV kvs vs/\h.DictOf (bY P w) a vs:=jE ok (.inl e)
def kw(ok:HOk P w H h)(e:H a=some (.tup (ks.map kV))):(tupleKind (bY P w)).is h ks a:=by
 obtain⟨_,its,r,o,h1,h2,n,z⟩:=(show bL P w H h a _ from ok a _ e);exact⟨o,its.toArray,n,h1,h2,z,by simpa using oR r⟩
def k_(ok:HOk P w H h)(e:Rd H a (.dT kvs)):kvs.length<=sizeLine/\(a==sysModules)=false /\
  ∃xs,KT H kvs xs/\h.DictOfH (tupleKind (bY P w)) a xs:=by
 refine ax λZq U=>?_
 obtain⟨z,y,xs,r,o,es,ep,h1,h2,Y,Z,h5⟩:=(show bL P w H h a _ from Dc ok e);refine U ?_;refine⟨z,y,xs,r,o,es,ep,h1,h2,Y,Z,λx hx=>?_,h5⟩;have all:∀{l}{m},KT H l m->∀x∈m,(tupleKind (bY P w)).is h x.1 x.2.1:=by
  intro l m q
  induction q with
  |nil=>intro x hx;exact nomatch hx
  | @cons p q ps qs J t ih =>
   intro x hx;rcases wh.mp hx with e|hx
   .subst e;exact kw ok (by rw[<- J.1];exact J.2.1)
   .exact ih x hx
 exact all r x hx
def Hb(ok:HOk P w H h)(e:H a=some (.dT kvs)):kvs.length<=sizeLine/\(a==sysModules)=false /\
  ∃xs,KT H kvs xs/\h.DictOfH (tupleKind (bY P w)) a xs:=k_ ok (.inl e)
end
def mr(H:Hp)(a:Addr)(y:V)(r:Option V):Prop:=
 (∃kvs k,Rd H a (.dK kvs)/\y=kV k/\r=iY kvs k)\/∃kvs k b,Rd H a (.dT kvs)/\y=.ref b/\H b=some (.tup (k.map kV))/\r=iY kvs k
def mw(H:Hp)(a:Addr)(y v:V)(H':Hp):Prop:=
 (∃kvs k,H a=some (.dK kvs)/\y=kV k/\kvs.length<sizeLine/\H'=upd H a (.dK (fU kvs k v))) \/
 ∃kvs k b,H a=some (.dT kvs)/\y=.ref b/\H b=some (.tup (k.map kV))/\kvs.length<sizeLine/\H'=upd H a (.dT (fU kvs k v))
theorem mw.k{k:Key}{v:V}(e:H a=some (.dK kvs))(z:kvs.length<sizeLine):mw H a (kV k) v (upd H a (.dK (fU kvs k v))):=.inl ⟨kvs,k,e,rfl,z,rfl⟩
theorem mw.t{k:List Key}{v:V}(e:H a=some (.dT kvs))(z:H b=some (.tup (k.map kV)))(J:kvs.length<sizeLine) :
  mw H a (.ref b) v (upd H a (.dT (fU kvs k v))):=.inr ⟨kvs,k,b,e,rfl,z,J,rfl⟩
section
variable{X:Cx}{pins:List (Addr×Obj)}{σ:St}{H:Hp}{s:Shared}{a:Addr}{y v:V}{u r:Value}{o:Option V}{A:Around}{E:Value->Shared->Prop}
theorem Inv.big(I:Inv X pins σ H s):sysModules<s.heap.objs.size:=by
 have h:=(I.mod.glob.keeps I.bk).lt;exact L5 (by decide) h
def wM(hu:A.units+1<cLine)(I:Inv X pins σ H s)(g:mr H a y (some v))(ry:aD y u)(h:∀Y s',Inv X pins σ H s'->aD v Y->Q Y s') :
  wpAny (model X.prog X.w) A (getItem (.ref a) u) Q E s:=by
 rcases g with⟨kvs,k,e,Z,l⟩|⟨kvs,k,b,e,Z,eb,l⟩
 .subst Z;obtain⟨z,hd,vs,J,dd⟩:=jE I.hok e;obtain⟨Y,hw,U⟩:=lD.some_of (by rw[l];exact J.val k);exact wpAny_getItem_of (mq ry) dd.mapOf hw (h Y _ (I.tok _) U)
 .subst Z;cases (show u=Value.ref b from ry);obtain⟨z,hd,xs,J,dd⟩:=k_ I.hok e;obtain⟨Y,hw,U⟩:=lD.some_of (o:=(atKey xs k).map _) (by rw[l];exact J.val k);obtain⟨p,hp,ao⟩:=pe.mp hw;refine wpAny_getItem_heap (LK hu) (kw I.hok eb) dd hp ?_;rw[ao];exact h Y _ (I.tok _) U
def Jt(Z:A.units+1<cLine)(I:Inv X pins σ H s)(g:mr H a y o)(Y:aD y u)(h:∀s',Inv X pins σ H s'->Q (.bool o.isSome) s') :
  wpAny (model X.prog X.w) A (compareOp .In u (.ref a)) Q E s:=by
 rcases g with⟨kvs,k,e,U,l⟩|⟨kvs,k,b,e,U,eb,l⟩
 .subst U;obtain⟨z,hd,vs,J,dd⟩:=jE I.hok e;refine wpAny_in_of (mq Y) hd dd.mapOf ?_;rw[<- (J.val k).isSome_eq,<- l];exact h _ (I.tok _)
 .subst U;cases (show u=Value.ref b from Y);obtain⟨z,hd,xs,J,dd⟩:=k_ I.hok e;refine wpAny_in_heap (LK Z) (kw I.hok eb) hd dd ?_;have q:=(J.val k).isSome_eq;rw[isSome_map]at q;rw[<- q,<- l];exact h _ (I.tok _)
def BJ(Z:A.units+1<cLine)(I:Inv X pins σ H s)(g:mr H a y o)(Y:aD y u)(h:∀s',Inv X pins σ H s'->Q (.bool (!o.isSome)) s') :
  wpAny (model X.prog X.w) A (compareOp .NotIn u (.ref a)) Q E s:=by
 rcases g with⟨kvs,k,e,U,l⟩|⟨kvs,k,b,e,U,eb,l⟩
 .subst U;obtain⟨z,hd,vs,J,dd⟩:=jE I.hok e;refine wpAny_notIn_of (mq Y) hd dd.mapOf ?_;rw[<- (J.val k).isSome_eq,<- l];exact h _ (I.tok _)
 .subst U;cases (show u=Value.ref b from Y);obtain⟨z,hd,xs,J,dd⟩:=k_ I.hok e;refine wpAny_notIn_heap (LK Z) (kw I.hok eb) hd dd ?_;have q:=(J.val k).isSome_eq;rw[isSome_map]at q;rw[<- q,<- l];exact h _ (I.tok _)
def pZ(I:Inv X pins σ H s)(U:Mut (H a))(hs:Heap.SameBut a s.heap h')(Y:∃q,h'.get? a=some q)(new:bL X.prog X.w (upd H a J) h' a J) :
  Inv X pins σ (upd H a J) { s with heap:=h',toks:=t' }:=
 I.write (x:=a) (e:=a) U (.inl rfl) (λb q Z z=>(hs.2 b Z).trans z) Y new
def yw(z:kvs.length<=sizeLine)(hd:(a==sysModules)=false)(J:KV kvs vs)(dd:h'.DictOf (bY P w) a vs) :
  bL P w H' h' a (.dK kvs):=⟨z,hd,vs,J,dd⟩
def wN(hu:A.units+1<cLine)(I:Inv X pins σ H s)(g:mw H a y v H')(ry:aD y u)(rv:aD v r)(h:∀s',Inv X pins σ H' s'->Q () s') :
  wpAny (model X.prog X.w) A (setItem (.ref a) u r) Q E s:=by
 rcases g with⟨kvs,k,e,Z,l,eH⟩|⟨kvs,k,b,e,Z,eb,l,eH⟩
 .subst Z eH;obtain⟨z,hd,vs,J,dd⟩:=Dd I.hok e;have hz:vs.length<=sizeLine:=by rw[<- J.length];exact z
  have hl:(fU kvs k v).length<=sizeLine:=by have:=ij kvs k v;omega
  refine wpAny_setItem_pairs (mq ry) dd λh' U hs=>h _ ?_
  have he:∃q,h'.get? a=some q:=let ⟨q,_,_,Y,_⟩:=U;⟨q,Y⟩
  exact pZ I (by rw[e];exact True.intro) hs he (yw hl hd (J.put k rv) U)
 .subst Z eH;cases (show u=Value.ref b from ry);obtain⟨z,hd,xs,J,dd⟩:=Hb I.hok e;have hz:xs.length<=sizeLine:=by rw[<- Paired.length J];exact z
  have hl:(fU kvs k v).length<=sizeLine:=by have:=ij kvs k v;omega
  refine wpAny_setItem_heap (LK hu) (kw I.hok eb) dd λh' U hs=>h _ ?_
  refine ax λZq kq=>?_
  obtain⟨q,es,ep,Y,h2,h3,h4,_,h5⟩:=U;refine kq ?_;refine pZ I (by rw[e];exact True.intro) hs ⟨q,Y⟩ ⟨hl,hd,_,(J.put k eb rv).keeps λc ys ec=>?_,q,es,ep,Y,h2,h3,h4,h5⟩;rw[aX (GC ec e (λz=>nomatch z))];exact ec
end
section
variable{X:Cx}{pins:List (Addr×Obj)}{σ:St}{H:Hp}{s:Shared}{a:Addr}{kvs:List (Key×V)}{k:Key}{u:Value}{A:Around}{E:Value->Shared->Prop}
end
def Hc(i:Expr):Prop:=∀z J,subscripted i false z J=operate [z,J] (getItem z J)
def BK{T id:String} 
  (hl:typeLookup (.type T) "__getitem__"=pure (some (.builtin id))) (hs:Hc slice)
  (h:wpAny (model prog w) A (eval value env) (λo U=>wpAny (model prog w) A (eval slice env) (λi z=>z.TypeIs o T/\wpAny (model prog w) A (getItem o i) Q E z) E U) E s) :
  wpAny (model prog w) A (eval (.Subscript value slice pos) env) Q E s:=by
 refine Subscript_ (Ks h (λo U Z=>Ks Z (λi z J=>?_) λ_ _ x=>x) λ_ _ x=>x);obtain⟨hT,J⟩:=J;refine ez ?_;refine ez (MO hT hl ?_);have fin:wpAny (model prog w) A (subscripted slice false o i) (λr Y=>wpAny (model prog w) A (letTemporaryGo value o r >>= λ_=>pure r) Q E Y) E z:=by
  rw[hs o i];exact wpAny_operating (Ks J (λr Y ao=>ez (wpAny_letTemporaryGo (gk ao))) λ_ _ x=>x)
 first
  | exact gk (ez fin)
  | exact ez (gk _)
  | exact ez fin
def rb (I:Inv X pins σ H s) (g:mr H a y o):s.TypeIs (.ref a) "dict":=by
 rcases g with⟨kvs,k,e,_,_⟩|⟨kvs,k,b,e,_,_,_⟩
 .obtain⟨_,_,vs,_,dd⟩:=jE I.hok e;exact dd.typeIs
 .obtain⟨_,_,xs,_,dd⟩:=k_ I.hok e;exact dd.typeIs
noncomputable def Hd(td ty:TE):TE:=λσ H Q=>td σ H λx H1=>ty σ H1 λy H2=>∃a v,x=.ref a/\mr H2 a y (some v)/\Q v H2
noncomputable def Ju(ty td:TE):TE:=λσ H Q=>ty σ H λy H1=>td σ H1 λx H2=>∃a o,x=.ref a/\mr H2 a y o/\Q (.bl o.isSome) H2
noncomputable def BL(ty td:TE):TE:=λσ H Q=>ty σ H λy H1=>td σ H1 λx H2=>∃a o,x=.ref a/\mr H2 a y o/\Q (.bl (!o.isSome)) H2
noncomputable def He(td ty tv:TE):TS:=λD σ H=>tv σ H λv H1=>td σ H1 λx H2=>ty σ H2 λy J=>∃a z,x=.ref a/\mw J a y v z/\D.nx σ z
section
variable{X:Cx}{o i e value:Expr}{pos pos' tpos:Pos}{td ty tv:TE}
def u8(U:X.A.units+1<cLine)(ho:PE X o td)(hi:PE X i ty)(hs:Hc i):PE X (.Subscript o i pos) (Hd td ty):=by
 intro pins s σ H Q I h;refine BK PySem.F.slot_dict_getitem.lookup hs (thn (ho pins s σ H _ I h) λu Y ⟨x,H1,Z,rx,q1⟩=>thn (hi pins Y σ H1 _ Z q1) λiv s2 ⟨y,H2,J,ry,a,v,ex,g,q2⟩=>?_);subst ex;obtain rfl:u=Value.ref a:=rx;exact⟨rb J g,wM U J g ry λw' s3 I3 z=>⟨v,H2,I3,z,q2⟩⟩
def yx(z:X.A.units+1<cLine)(hi:PE X i ty)(ho:PE X o td):PC X .In i o (Ju ty td):=by
 intro pins s σ H Q I h;refine thn (hi pins s σ H _ I h) λiv J ⟨y,H1,U,Y,Z⟩=>thn (ho pins J σ H1 _ U Z) λu s2 ⟨x,H2,I2,rx,a,ov,ex,g,q2⟩=>?_
 subst ex;obtain rfl:u=Value.ref a:=rx;exact Jt z I2 g Y λs3 I3=>⟨.bl ov.isSome,H2,I3,rfl,q2⟩
def oS(z:X.A.units+1<cLine)(hi:PE X i ty)(ho:PE X o td):PC X .NotIn i o (BL ty td):=by
 intro pins s σ H Q I h;refine thn (hi pins s σ H _ I h) λiv J ⟨y,H1,U,Y,Z⟩=>thn (ho pins J σ H1 _ U Z) λu s2 ⟨x,H2,I2,rx,a,ov,ex,g,q2⟩=>?_
 subst ex;obtain rfl:u=Value.ref a:=rx;exact BJ z I2 g Y λs3 I3=>⟨.bl _,H2,I3,rfl,q2⟩
def BM(z:X.A.units+1<cLine)(ho:PE X o td)(hi:PE X i ty)(hv:PE X value tv)(hs:swapsWith value (some (.Subscript o i pos')) pos.line X.env=pure false) :
  PS X (.Assign [.Subscript o i pos'] value pos) (He td ty tv):=by
 intro pins s σ H D I h;refine wpAny_Assign_Subscript (thn (hv pins s σ H _ I h) λr J ⟨v,H1,U,Y,Z⟩=>thn (ho pins J σ H1 _ U Z) λu s2 ⟨x,H2,I2,rx,q2⟩=>thn (hi pins s2 σ H2 _ I2 q2) λiv s3 ⟨y,H3,I3,ry,a,H4,ex,g,q3⟩=>?_) hs;subst ex;obtain rfl:u=Value.ref a:=rx;exact wN z I3 g ry Y λs4 I4=>⟨σ,H4,I4,q3⟩
end
def re (h:Heap) (z:sysModules<h.objs.size):bL P w H (h.push { cls:=.type "dict",data:=.dict #[] }) h.objs.size (.dK []):=
 ⟨Kd _,LI.mpr (LJ (JW z)),[],.nil,Heap.DictOf.new h⟩
def yy (h:Heap) (z:sysModules<h.objs.size):bL P w H (h.push { cls:=.type "dict",data:=.dict #[] }) h.objs.size (.dT []):=
 ⟨Kd _,LI.mpr (LJ (JW z)),[],.nil,_,#[],0,tr _ rfl,⟨rfl,rfl,rfl⟩,rfl,rfl,Li⟩
noncomputable def Ef:TE:=λ_ H Q=>∀p,H p=none->Q (.ref p) (upd H p (.dK []))
noncomputable def Eg:TE:=λ_ H Q=>∀p,H p=none->Q (.ref p) (upd H p (.dT []))
section
variable{X:Cx}{pos:Pos}
def yz:PE X (.Dict [] [] pos) Ef:=λpins s σ H Q I h =>
 wpAny_Dict_empty ⟨.ref s.heap.objs.size,_,I.laid (a:=s.heap.objs.size) (o:=.dK []) (t':=s.toks) (λ_ _ q=>iA _ q) (pb _) (re s.heap I.big),rfl,h _ (I.hok.fresh (pb _))⟩
def yA:PE X (.Dict [] [] pos) Eg:=λpins s σ H Q I h =>
 wpAny_Dict_empty ⟨.ref s.heap.objs.size,_,I.laid (a:=s.heap.objs.size) (o:=.dT []) (t':=s.toks) (λ_ _ q=>iA _ q) (pb _) (yy s.heap I.big),rfl,h _ (I.hok.fresh (pb _))⟩
end
def p5:List (TE×TE)->St->Hp->(List (V×V)->Hp->Prop)->Prop
 | [],_,H,Q=>Q [] H
 | (tk,tv)::r,σ,H,Q=>tk σ H λx H1=>tv σ H1 λy H2=>p5 r σ H2 λps z=>Q ((x,y)::ps) z
abbrev VV:List (V×V)->List (Value×Value)->Prop:=Paired λp q=>aD p.1 q.1/\aD p.2 q.2
def PPs(X:Cx)(pos:Pos)(keys:List (Option Expr))(z:List Expr)(J:List (TE×TE)):Prop:=
 ∀pins s (σ:St) H Q,Inv X pins σ H s->p5 J σ H Q ->
  wpAny (model X.prog X.w) X.A (evalPairs (pairTrees keys z X.env pos)) (λvs s'=>∃ps H',Inv X pins σ H' s'/\VV ps vs/\Q ps H') X.xe s
def BN :PPs X pos [] [] []:=λpins s σ H Q I h=>pairTrees_nil_walk ⟨[],H,I,.nil,h⟩
def yB(U:PE X k tk)(hv:PE X v tv)(Y:PPs X pos ks vs z) :
  PPs X pos (some k::ks) (v::vs) ((tk,tv)::z):=λpins s σ H Q I h =>
 pairTrees_cons_walk (thn (U pins s σ H _ I h) λu Z ⟨x,H1,I1,rx,q1⟩=>thn (hv pins Z σ H1 _ I1 q1) λw2 s2 ⟨y,H2,I2,ry,q2⟩ =>
  thn (Y pins s2 σ H2 _ I2 q2) λws s3 ⟨ps,H3,I3,J,q3⟩=>⟨(x,y)::ps,H3,I3,.cons ⟨rx,ry⟩ J,q3⟩)
noncomputable def ik(kvs z:List (Key×V)):List (Key×V):=z.foldl (λacc J=>fU acc J.1 J.2) kvs
def KV.merge:∀{z}{J}{kvs}{vs},KV z J->KV kvs vs->KV (ik kvs z) (merged vs J):=by
 intro z J kvs vs r
 induction r generalizing kvs vs with
 |nil=>intro q;exact q
 | @cons p q ps Y h t ih =>
  intro U;have e:KV (fU kvs p.1 p.2) (stored vs q.1 q.2):=by
   have:=U.put p.1 h.2;rw[<- h.1];exact this
  exact ih e
theorem i4:∀z kvs,(ik kvs z).length<=kvs.length+z.length
 | [],kvs=>by show kvs.length<=kvs.length+0;omega
 |p::r,kvs=>by
  have h1:=i4 r (fU kvs p.1 p.2);have h2:=ij kvs p.1 p.2;show(ik (fU kvs p.1 p.2) r).length<=_
  grind
theorem mx :∀{kvs}{J},VV (kvs.map λU=>(kV U.1,U.2)) J->∃z,Carries (bY P w) J z/\KV kvs z
 | [],_,r=>by rw[map_nil]at r;cases r;exact⟨[],True.intro,.nil⟩
 |p::kvs,_,r=>by
  cases r with
  | @cons a b as bs h t =>
   obtain⟨z,c,q⟩:=mx (P:=P) (w:=w) t;obtain⟨Z,Y⟩:=b;exact⟨(p.1,Y)::z,⟨mq h.1,rfl,c⟩,.cons ⟨rfl,h.2⟩ q⟩
noncomputable def Hf(z:List (TE×TE)):TE:=λσ H Q=>∀p,H p=none->p5 z σ (upd H p (.dK [])) λps H2=>H2 p=some (.dK [])/\∃kvs,ps=kvs.map (λJ=>(kV J.1,J.2))/\kvs.length<=15/\Q (.ref p) (upd H2 p (.dK (ik [] kvs)))
def BO(h:PPs X pos keys values Y)(J:keys.all (·.isSome)=true)(hl:keys.length=values.length)(h0:keys≠[])
  (Z:keys.length<=15):PE X (.Dict keys values pos) (Hf Y):=by
 intro pins s σ H Q I q;have hn:=I.hok.fresh (pb s.heap.objs.size);have I1:=I.laid (t':=s.toks) (λ_ _ q=>iA _ q) (pb _) (re s.heap I.big);refine wpAny_Dict_walk (knd:=bY X.prog X.w) J hl h0 Z (thn (h pins _ σ _ _ I1 (q _ hn)) λws s2 ⟨ps,H2,I2,ao,e,kvs,ep,lk,q2⟩=>?_);refine ax λZq kq=>?_
 subst ep;obtain⟨rs,c,rk⟩:=mx ao;obtain⟨z,hd,bA,r0,dd⟩:=Dd I2.hok e;cases r0;refine kq ?_;refine⟨rs,c,dd,λh' U hs=>⟨.ref s.heap.objs.size,_,?_,rfl,q2⟩⟩;have hz:(ik [] kvs).length<=sizeLine:=by
  have h1:=i4 kvs [];rw[length_nil]at h1;rw[KG];omega
 have he:∃q,h'.get? s.heap.objs.size=some q:=let ⟨q,_,_,hq,_⟩:=U;⟨q,hq⟩
 exact pZ I2 (by rw[e];exact True.intro) hs he (yw hz hd (rk.merge .nil) U)
structure M1(X:Cx)(o:Expr)(m:Str)(apos:Pos)(e:Expr)(cpos:Pos):Prop where
 base:attributeBase o m X.env (eval o X.env)=eval o X.env
 few:((backTo cpos (starEach [e] X.env)).all (λx=>!x.1)&&(backToKw cpos (keywordEach [] X.env)).all (λx=>x.1.isSome)
 &&decide (([e]:List Expr).length+([]:List Keyword).length+(if ([]:List Keyword).isEmpty then 0 else 1)<30))=true
 line:(apos.endLine==cpos.line)=true
 trees:backTo cpos (starEach [e] X.env)=[(false,eval e X.env)]
structure M2(X:Cx)(o:Expr)(m:Str)(apos:Pos)(e f:Expr)(cpos:Pos):Prop where
 base:attributeBase o m X.env (eval o X.env)=eval o X.env
 few:((backTo cpos (starEach [e,f] X.env)).all (λx=>!x.1)&&(backToKw cpos (keywordEach [] X.env)).all (λx=>x.1.isSome)
 &&decide (([e,f]:List Expr).length+([]:List Keyword).length+(if ([]:List Keyword).isEmpty then 0 else 1)<30))=true
 line:(apos.endLine==cpos.line)=true
 trees:backTo cpos (starEach [e,f] X.env)=[(false,eval e X.env),(false,eval f X.env)]
def IsD(H:Hp)(a:Addr):Prop:=(∃kvs,Rd H a (.dK kvs))\/∃kvs,Rd H a (.dT kvs)
def tD(I:Inv X pins σ H s)(d:IsD H a) :
  s.TypeIs (.ref a) "dict"/\(∀b,Value.ref a=.ref b->∃z,s.heap.get? b=some z/\z.dict=none)/\(a==sysModules)=false:=by
 rcases d with⟨kvs,e⟩|⟨kvs,e⟩
 .obtain⟨_,hd,vs,_,dd⟩:=jE I.hok e;refine⟨dd.typeIs,λb q=>?_,hd⟩;cases q;obtain⟨z,_,_,h1,h2,_⟩:=dd;exact⟨z,h1,h2.2.1⟩
 .obtain⟨_,hd,xs,_,dd⟩:=k_ I.hok e;refine⟨dd.typeIs,λb q=>?_,hd⟩;cases q;obtain⟨z,_,_,h1,h2,_⟩:=dd;exact⟨z,h1,h2.2.1⟩
section
variable{X:Cx}{pins:List (Addr×Obj)}{σ:St}{H:Hp}{s:Shared}{a:Addr}{y d:V}{u r:Value}{o:Option V}{A:Around}{E:Value->Shared->Prop}
def Eh(hu:A.units+1<cLine)(I:Inv X pins σ H s)(g:mr H a y o)(Y:aD y u)(rd:aD d r)(h:∀Z s',Inv X pins σ H s'->aD (o.getD d) Z->Q Z s') :
  wpAny (model X.prog X.w) A (call (.builtin "dict.get") [.ref a,u,r]) Q E s:=by
 rcases g with⟨kvs,k,e,U,l⟩|⟨kvs,k,b,e,U,eb,l⟩
 .subst U;obtain⟨z,hd,vs,J,dd⟩:=jE I.hok e;refine call_meetsIn PySem.F.slot_dict_get dd.typeIs PySem.F.entry_dict_get (PySem.F.args_dict_get_3 _ _ _) (meets_dict_get_default _ a (mq Y) hd r) ⟨_,dd.mapOf,h _ _ (I.tok _) ?_⟩;rw[l];exact(J.val k).getD rd
 .subst U;cases (show u=Value.ref b from Y);obtain⟨z,hd,xs,J,dd⟩:=k_ I.hok e;refine call_meetsIn PySem.F.slot_dict_get dd.typeIs PySem.F.entry_dict_get (PySem.F.args_dict_get_3 _ _ _) (meetsH_dict_get_default (tupleKind _) a b hd r) ⟨LK hu,k,xs,kw I.hok eb,dd,h _ _ (I.tok _) ?_⟩;rw[l];exact(J.val k).getD rd
end
noncomputable def Ei(td ty tx:TE):TE:=λσ H Q=>td σ H λx H1=>∃a,x=.ref a/\IsD H1 a/\ty σ H1 λy H2=>tx σ H2 λz J=>∃o,mr J a y o/\Q (o.getD z) J
section
variable{X:Cx}{o e f:Expr}{apos cpos:Pos}{td ty tx:TE}
def yC (Y:X.A.units+1<cLine) (ho:PE X o td) (Z:PE X e ty) (hf:PE X f tx) (m:M2 X o "get" apos e f cpos):PE X (.Call (.Attribute o "get" apos) [e,f] [] cpos) (Ei td ty tx):=by
 intro pins s σ H Q I h;refine wpAny_Call_method m.base m.few m.line PySem.F.plainAttrs_dict PySem.F.slot_dict_get PySem.F.type_dict_get (thn (ho pins s σ H _ I h) λu s1 ⟨x,H1,U,rx,a,ex,d,q1⟩=>?_);subst ex;obtain rfl:u=Value.ref a:=rx;obtain⟨t1,t2,_⟩:=tD U d;refine⟨t1,t2,?_⟩;rw[m.trees];refine LR rfl (Calls.evalArgs_plain (Mq (thn (Z pins s1 σ H1 _ U q1) λiv s2 ⟨y,H2,I2,ry,q2⟩ =>
  Mq (thn (hf pins s2 σ H2 _ I2 q2) λfv s3 ⟨z,H3,I3,rz,ov,g,q3⟩=>Ni ?_))))
 exact Eh Y I3 g ry rz λw' s4 I4 J=>⟨_,H3,I4,J,q3⟩
end
section
variable{X:Cx}{pins:List (Addr×Obj)}{σ:St}{H:Hp}{s:Shared}{a:Addr}{kvs:List (Key×V)}{A:Around}{E:Value->Shared->Prop}
end
section
variable{X:Cx}{pins:List (Addr×Obj)}{σ:St}{H:Hp}{s:Shared}{a:Addr}{y:V}{u:Value}{A:Around}{E:Value->Shared->Prop}
end
end L2
namespace L2.Srt
open PySem PySem.W PyProof.Rows List Option
section
variable{O:KeyOrd}{key:Nat->O.α}{N:Nat}{cmp:Nat->Nat->(Bool->Shared->Prop)->Shared->Prop}{s:Shared}
noncomputable def kk(key:Nat->O.α)(p:Array Nat)(i:Nat):O.α:=key (p.getD i 0)
def fk(key:Nat->O.α)(p:Array Nat)(k:Nat):Prop:=∀i j,i<=j->j<k->O.kle (kk key p i) (kk key p j)
def rf(key:Nat->O.α)(p:Array Nat)(k:Nat):Prop:=∀i j,i<=j->j<k->O.kle (kk key p j) (kk key p i)
def PB(N:Nat)(p:Array Nat):Prop:=p.Perm (range N).toArray
theorem PB.size(h:PB N p):p.size=N:=by have:=h.size_eq;simpa using this
theorem PB.lt(h:PB N p)(hi:i<N):p.getD i 0<N:=by
 have hs:i<p.size:=by rw[h.size];exact hi
 have z:p[i]∈(range N):=by
  have e:=(Mf.mp h).mem_iff (a:=p[i])
  simp_all
 simp_all
theorem PB.rev(h:PB N p)(i j):PB N (kas_rev p i j):=(mirror_perm _ _ _ _).trans h
theorem PB.bub(h:PB N p)(i j):PB N (bubble p i j):=(bubble_perm _ _ _).trans h
def il(h:p[i]?=q[j]?):kk key p i=kk key q j:=by
 unfold kk;rw[Lm,Lm,h]
def wO(hs:src<p.size)(hd:d<=src)(k) :
  kk key (bubble p src d) k=if k=src-d then kk key p src else if src-d<k/\k<=src then kk key p (k-1)else kk key p k:=by
 have e:=getElem?_bubble hs d hd k;by_cases h1:k=src-d
 .rw[if_pos h1]at e ⊢;exact il e
 .rw[if_neg h1]at e ⊢;by_cases h2:src-d<k/\k<=src
  .rw[if_pos h2]at e ⊢;exact il e
  .rw[if_neg h2]at e ⊢;exact il e
def tG(z:j<=p.size)(k) :
  kk key (kas_rev p i j) k=if i<=k/\k<j then kk key p (i+j-1-k)else kk key p k:=by
 have e:=getElem?_mirror_all (i:=i) z k;by_cases h1:i<=k/\k<j
 .rw[if_pos h1]at e ⊢;exact il e
 .rw[if_neg h1]at e ⊢;exact il e
def di(z:j<=p.size)(J:∀k,i<=k->k<j->kk key p k=kk key p (j-1))(k) :
  kk key (kas_rev p i j) k=kk key p k:=by
 rw[tG z]
 grind
variable(hc:∀a b C,a<N->b<N->C (O.blt (key a) (key b)) s->cmp a b C s)
include hc
def rg{Q:α->Shared->Prop}(z:PB N p)(hi:i<N)(J:j<N)
  (h:(k (O.blt (kk key p i) (kk key p j))).kasWp cmp Q s):(KasT.ask (p.getD i 0) (p.getD j 0) k).kasWp cmp Q s:=
 hc _ _ _ (z.lt hi) (z.lt J) h
theorem yD{p:Array Nat}{z:Nat}{Q:Nat->Shared->Prop}(hp:PB N p)(hn:z<=N):∀(f n:Nat),n+f=z->1<=n->fk key p n ->
  (∀m,n<=m->m<=z->fk key p m->(m=z\/O.klt (kk key p m) (kk key p (m-1)))->Q m s)->(kas_asc p f n).kasWp cmp Q s
 |0,n,e,h1,hs,h=>h n (pb _) (L4 e) hs (.inl e)
 |f+1,n,e,h1,hs,h=>by
  show(KasT.ask (p.getD n 0) (p.getD (n-1) 0) λc=>if c=true then .ret n else kas_asc p f (n+1)).kasWp cmp Q s;have nN:n<N:=by omega
  refine rg hc hp nN (Kq (Mu n 1) nN) ?_;cases J:O.blt (kk key p n) (kk key p (n-1))with
  |true =>
   rw[if_pos rfl];exact h n (pb _) (uw (MJ n (f+1)) (L4 e)) hs (.inr J)
  |false =>
   rw[if_neg (by simp)];refine yD hp hn f (n+1) ((KI n 1 f).trans e) (LM 1 n) (λi j U hj=>?_) λm a b c d=>h m (LV a) b c d
   by_cases Y:j<n
   .exact hs i j U Y
   .have ao:j=n:=KQ (K5 hj) (KR.mp Y);subst ao;by_cases Z:i=j
    .subst Z;exact K6 _
    .exact L9 (hs i (j-1) (Ma (Ln U Z)) (NB h1 Nat.one_pos)) J
def u9{p:Array Nat}{n z:Nat}{Q:Nat×Array Nat->Shared->Prop}(U:PB N p)(hn:z<=N)(h1:1<=n)(J:n<=z)(hs:rf key p n)
  (h:∀m Y,PB N Y->1<=m->m<=z->fk key Y m->Q (m,Y) s):(kas_tail3 n z p).kasWp cmp Q s:=by
 unfold kas_tail3;rw[Mn];have hz:n<=p.size:=by rw[U.size];exact uw J hn
 refine yD hc (U.rev 0 n) hn (z-n) n (M0 J) h1 (λi j Z hj=>?_) λm a b c _=>h m _ (U.rev 0 n) (uw h1 a) b c
 rw[tG hz,tG hz,if_pos ⟨Kd _,Kq Z hj⟩,if_pos ⟨Kd _,hj⟩];exact hs _ _ (by omega) (by omega)
theorem p6{J:Nat}{Q:Array Nat×Nat×Nat->Shared->Prop}(hn:J<=N):∀(f:Nat) (p:Array Nat) (n q:Nat),n+f=J->PB N p->rf key p n->q+1<=n ->
  (∀i,n-(q+1)<=i->i<n->kk key p i=kk key p (n-1)) ->
  (∀z m q',n<=m->m<=J->PB N z->rf key z m->q'+1<=m->(∀i,m-(q'+1)<=i->i<m->kk key z i=kk key z (m-1))->Q (z,m,q') s) ->
  (kas_desc f p n q).kasWp cmp Q s
 |0,p,n,q,e,hp,hs,hq,he,h=>h p n q (pb _) (by omega) hp hs hq he
 |f+1,p,n,q,e,hp,hs,hq,he,h=>by
  show(KasT.ask (p.getD n 0) (p.getD (n-1) 0) λc =>
   if c=true then(if q > 0 then kas_desc f (kas_rev p (n-(q+1)) n) (n+1) 0 else kas_desc f p (n+1) 0)
   else .ask (p.getD (n-1) 0) (p.getD n 0) λd=>if d=true then .ret (p,n,q)else kas_desc f p (n+1) (q+1)).kasWp cmp Q s
  have nN:n<N:=by omega
  have hz:n<=p.size:=by rw[hp.size];exact Ld nN
  refine rg hc hp nN (Kq (Mu n 1) nN) ?_;cases U:O.blt (kk key p n) (kk key p (n-1))with
  |true =>
   rw[if_pos rfl];have Y:∀z:Array Nat,(∀k,kk key z k=kk key p k)->rf key z (n+1):=by
    intro z hk i j Z hj;rw[hk,hk];by_cases ao:j<n
    .exact hs i j Z ao
    .have a4:j=n:=KQ (K5 hj) (KR.mp ao);subst a4;by_cases ar:i=j
     .subst ar;exact K6 _
     .exact L9 (LW U) (hs i (j-1) (Ma (Ln Z ar)) (NB (JX (Nat.succ_pos q) hq) Nat.one_pos))
   by_cases a2:q > 0
   .rw[if_pos a2];exact p6 hn f _ (n+1) 0 ((KI n 1 f).trans e) (hp.rev _ _) (Y _ (di hz he)) (LM 1 n) (λi a b=>by congr 1;omega)
     λz m q' a=>h z m q' (LV a)
   .rw[if_neg a2];exact p6 hn f p (n+1) 0 ((KI n 1 f).trans e) hp (Y _ λ_=>rfl) (LM 1 n) (λi a b=>by congr 1;omega) λz m q' a=>h z m q' (LV a)
  |false =>
   rw[if_neg (by simp)];refine rg hc hp (Kq (Mu n 1) nN) nN ?_;cases aO:O.blt (kk key p (n-1)) (kk key p n)with
   |true =>
    rw[if_pos rfl];exact h p n q (pb _) (by omega) hp hs hq he
   |false =>
    rw[if_neg (by simp)];have a3:kk key p n=kk key p (n-1):=KeyOrd.kle_antisymm aO U;refine p6 hn f p (n+1) (q+1) ((KI n 1 f).trans e) hp (λi j Z hj=>?_) (Nat.succ_le_succ hq) (λi a b=>?_) λz m q' a=>h z m q' (LV a)
    .by_cases ao:j<n
     .exact hs i j Z ao
     .have a4:j=n:=KQ (K5 hj) (KR.mp ao);subst a4;by_cases ar:i=j
      .subst ar;exact K6 _
      .rw[a3];exact hs i (j-1) (Ma (Ln Z ar)) (NB (JX (Nat.succ_pos q) hq) Nat.one_pos)
    .rw[KW];by_cases b0:i=n
     .subst b0;rfl
     .rw[a3];exact he i (by omega) (by omega)
def my{n z:Nat}{Q:Nat×Array Nat->Shared->Prop}(hp:PB N p)(hn:z<=N)(a2:n+1<=z)(hs:rf key p (n+1))
  (h:∀m Y,PB N Y->1<=m->m<=z->fk key Y m->Q (m,Y) s):(kas_descPart n z p).kasWp cmp Q s:=by
 unfold kas_descPart;rw[Mn];refine p6 hc hn (z-_) p _ 0 (by omega) hp hs (by omega) (λi a b=>by congr 1;omega) λY m q' a4 Z U ao hq he=>?_
 dsimp only;have hz:m<=Y.size:=by rw[U.size];omega
 by_cases J:q' > 0
 .rw[if_pos J];refine u9 hc (U.rev _ _) hn (by omega) Z (λi j aO hj=>?_) h;rw[di hz he,di hz he];exact ao i j aO hj
 .rw[if_neg J];exact u9 hc U hn (by omega) Z ao h
def BP{p:Array Nat}{z:Nat}{Q:Nat×Array Nat->Shared->Prop}(hp:PB N p)(hn:z<=N)(h1:1<=z)
  (h:∀m p',PB N p'->1<=m->m<=z->fk key p' m->Q (m,p') s):(kas_count z p).kasWp cmp Q s:=by
 unfold kas_count;rw[Mn];refine yD hc hp hn (z-1) 1 (by omega) (pb _) (λi j U hj=>by have:i=j:=KQ U (uw (K5 hj) (Kd i));subst this;exact K6 _) λn Y a0 Z b3=>?_
 by_cases ao:n=z
 .rw[if_pos (by simpa using ao)];exact h n p hp Y a0 Z
 .rw[if_neg (by simpa using ao)];have nr:n<z:=Ln a0 ao;have nN:=JX nr hn;have a6:O.klt (kk key p n) (kk key p (n-1)):=b3.resolve_left ao;by_cases a3:n > 1
  .rw[if_pos a3];refine rg hc hp (Kq (Kd n) nN) (Kq (Mu n 1) nN) ?_;cases a4:O.blt (kk key p 0) (kk key p (n-1))with
   |true =>
    rw[if_pos rfl];exact h n p hp Y a0 Z
   |false =>
    rw[if_neg (by simp)];have bA:n<=p.size:=by rw[hp.size];exact Ld nN
    have J:∀k,0<=k->k<n->kk key p k=kk key p (n-1):=by
     intro k _ hk;have a1:=Z 0 k (Kd k) hk;have a2:=Z k (n-1) (Ma hk) (NB Y Nat.one_pos);exact KeyOrd.kle_antisymm a2 (L9 a4 a1)
    refine my hc (hp.rev _ _) hn nr (λi j U hj=>?_) h;rw[di bA J,di bA J];by_cases a5:j<n
    .rw[J i (Kd _) (Kq U a5),J j (Kd _) a5];exact K6 _
    .have cd:j=n:=KQ (K5 hj) (KR.mp a5);subst cd;by_cases ar:i=j
     .subst ar;exact K6 _
     .rw[J i (Kd _) (Ln U ar)];exact LW a6
  .rw[if_neg a3];have bB:n=1:=KQ (KR.mp a3) Y;subst bB;refine my hc hp hn nr (λi j U hj=>?_) h;by_cases ar:i=j
   .subst ar;exact K6 _
   .have ck:i=0:=by omega
    have cl:j=1:=by omega
    subst ck;subst cl
    exact LW a6
theorem p7{p:Array Nat}{k:Nat}{Q:Nat->Shared->Prop}(hp:PB N p)(hk:k<N)(hs:fk key p k):∀(f l r:Nat),r<=l+f->l<=r->r<=k ->
  (∀i,i<l->O.kle (kk key p i) (kk key p k))->(∀i,r<=i->i<k->O.klt (kk key p k) (kk key p i)) ->
  (∀l,l<=k->(∀i,i<l->O.kle (kk key p i) (kk key p k))->(∀i,l<=i->i<k->O.klt (kk key p k) (kk key p i))->Q l s)->(kas_place p k f l r).kasWp cmp Q s
 |0,l,r,hf,Z,z,U,Y,h=>by
  have:l=r:=KQ Z hf;subst this;exact h l z U Y
 |f+1,l,r,hf,Z,z,U,Y,h=>by
  show(if l>=r then KasT.ret l else .ask (p.getD k 0) (p.getD ((l+r) / 2) 0) λc=>if c=true then kas_place p k f l ((l+r) / 2)else kas_place p k f ((l+r) / 2+1) r).kasWp cmp Q s;by_cases ao:l>=r
  .rw[if_pos ao];have:l=r:=KQ Z ao;subst this;exact h l z U Y
  .rw[if_neg ao];obtain⟨m,em,m1,m2⟩:∃m,(l+r) / 2=m/\l<=m/\m<r:=⟨_,rfl,by omega,by omega⟩;rw[em];have mk:=JX m2 z;refine rg hc hp hk (L5 mk hk) ?_;cases J:O.blt (kk key p k) (kk key p m)with
   |true =>
    rw[if_pos rfl];exact p7 hp hk hs f l m (by omega) m1 (Ld mk) U (λi a b=>KeyOrd.klt_of_klt_of_kle J (hs _ _ a b)) h
   |false =>
    rw[if_neg (by simp)];exact p7 hp hk hs f (m+1) r (by omega) m2 z (λi a=>L9 (hs i m (K5 a) mk) (show O.kle _ _ from J)) Y h
theorem De{Q:Array Nat->Shared->Prop}:∀(f:Nat) (p:Array Nat) (k:Nat),k+f=N->PB N p->fk key p k->(∀p',PB N p'->fk key p' N->Q p' s)->(kas_bin f p k).kasWp cmp Q s
 |0,p,k,e,Z,hs,h=>by
  have:k=N:=by omega
  subst this;exact h p Z hs
 |f+1,p,k,e,Z,hs,h=>by
  show((kas_place p k k 0 k).bind λl=>kas_bin f (bubble p k (k-l)) (k+1)).kasWp cmp Q s;rw[Mn];refine p7 hc Z (by omega) hs k 0 k (LM k 0) (Kd k) (pb k) (λi a=>absurd a (Nat.not_lt_zero i)) (λi a b=>absurd b (KR.mpr a)) λl hl aO a0=>?_
  refine De f _ (k+1) (by omega) (Z.bub _ _) (λi j J hj=>?_) h;have a1:k<p.size:=by rw[Z.size];omega
  have val:∀i,i<k+1->(i<l/\kk key (bubble p k (k-l)) i=kk key p i)\/(i=l/\kk key (bubble p k (k-l)) i=kk key p k)\/∃U,i=U+1/\l<=U/\U<k/\kk key (bubble p k (k-l)) i=kk key p U:=λi hi=>by
   rw[wO a1 (Mu k l),Nat.sub_sub_self hl];rcases Mx i l with q|q|q
   .exact .inl ⟨q,by rw[if_neg (JW q),if_neg λz=>Nr q z.1]⟩
   .exact .inr (.inl ⟨q,by rw[if_pos q]⟩)
   .obtain⟨c,rfl⟩:=Lj q;exact .inr (.inr ⟨l+c,rfl,MJ _ _,MB hi,by rw[if_neg (KS q),if_pos ⟨q,K5 hi⟩];rfl⟩)
  rcases val i (Kq J hj)with⟨a,e1⟩|⟨a,e1⟩|⟨U,a,b,c,e1⟩<;>rcases val j hj with⟨Y,e2⟩|⟨Y,e2⟩|⟨j',Y,b',c',e2⟩<;>rw[e1,e2]
  .exact hs i j J (JX Y hl)
  .exact aO i a
  .exact hs i j' (uw (Ld a) b') c'
  .exact absurd Y (KR.mpr (a▸J))
  .exact K6 _
  .exact LW (a0 j' b' c')
  .exact absurd (Kq (a▸J:U+1<=j) Y) (KR.mpr (Nat.le_succ_of_le b))
  .exact absurd (Y▸a▸J:U+1<=l) (Nat.not_le.mpr (Nat.lt_succ_of_le b))
  .exact hs U j' (Kp (Y▸a▸J:U+1<=j'+1)) c'
def Ej(h1:1<=N)(h:∀p,PB N p->fk key p N->Q p s):(kas_sort N).kasWp cmp Q s:=by
 unfold kas_sort;rw[Mn];refine BP hc (Array.Perm.refl _) (pb _) h1 λm Y z Z ao J=>?_
 by_cases U:m<N
 .rw[if_pos U,show max m 1=m by omega];exact De hc _ _ _ (by omega) z J h
 .rw[if_neg U];have:m=N:=by omega
  subst this;exact h Y z J
end
end L2.Srt
namespace L2.Srt
open PySem PyProof.Rows List Option
theorem mz:∀a,HT.lexLt a a=false
 | []=>rfl
 |x::r=>by rw[HT.lexLt_cons,if_pos rfl];exact mz r
theorem kz:∀a b c,HT.lexLt a b=true->HT.lexLt b c=true->HT.lexLt a c=true
 | [],[],_,h,_=>by cases h
 | [],_::_,[],_,h=>by cases h
 | [],_::_,_::_,_,_=>rfl
 | _::_,[],_,h,_=>by cases h
 | _::_,_::_,[],_,h=>by cases h
 |x::a,y::b,z::c,h1,h2=>by
  rw[HT.lexLt_cons]at h1 h2 ⊢;by_cases J:x=y
  .rw[if_pos J]at h1;by_cases U:y=z
   .rw[if_pos U]at h2;rw[if_pos (J.trans U)];exact kz a b c h1 h2
   .simp_all
  .grind
theorem kA:∀a b,HT.lexLt a b=false->HT.lexLt b a=false->a=b
 | [],[],_,_=>rfl
 | [],_::_,h,_=>by cases h
 | _::_,[],_,h=>by cases h
 |x::a,y::b,h1,h2=>by
  rw[HT.lexLt_cons]at h1 h2;by_cases e:x=y
  .rw[if_pos e]at h1;rw[if_pos e.symm]at h2;rw[e,kA a b h1 h2]
  .grind
def BQ(a b c)(h:HT.lexLt a c=true):HT.lexLt a b=true\/HT.lexLt b c=true:=by
 cases h1:HT.lexLt a b with
 |true=>exact .inl rfl
 |false =>
  cases h2:HT.lexLt b a<;>first|exact .inr (kz b a c h2 h)|(rw[kA a b h1 h2]at h;exact .inr h)
noncomputable def eR:KeyOrd:=⟨List Int,HT.lexLt,mz,kz,BQ,kA⟩
noncomputable def dC:KeyOrd:=⟨Int,λa b=>decide (a<b),λa=>Kr (by omega),λa b c h1 h2=>J9 (by have:=KP h1;have:=KP h2;omega),
 λa b c h=>by
  have:=KP h;by_cases q:a<b
  .exact .inl (J9 q)
  .exact .inr (J9 (by omega)),
 λa b h1 h2=>by have:=of_decide_eq_false h1;have:=of_decide_eq_false h2;omega⟩
section
variable(O:KeyOrd)
noncomputable def lF(x:O.α):List O.α->List O.α
 | []=>[x]
 |y::r=>if O.blt y x then y::lF x r else x::y::r
noncomputable def im:List O.α->List O.α
 | []=>[]
 |x::r=>lF O x (im r)
theorem kB(x):∀l,(lF O x l).Perm (x::l)
 | []=>.refl _
 |y::r=>by
  show(if O.blt y x then y::lF O x r else x::y::r).Perm _;split
  .exact(Perm.cons y (kB x r)).trans (.swap x y r)
  .exact .refl _
theorem eS:∀l,(im O l).Perm l
 | []=>.refl _
 |x::r=>(kB O x _).trans (.cons x (eS r))
theorem mB(x):∀l,l.Pairwise O.kle->(lF O x l).Pairwise O.kle
 | [],_=>pairwise_singleton _ _
 |y::r,h=>by
  show(if O.blt y x then y::lF O x r else x::y::r).Pairwise O.kle;obtain⟨h1,h2⟩:=K2.mp h;by_cases q:O.blt y x=true
  .rw[if_pos q];refine K2.mpr ⟨λz hz=>?_,mB x r h2⟩;rcases wh.mp ((kB O x r).mem_iff.mp hz)with e|e
   .rw[e];exact LW q
   .exact h1 z e
  .rw[if_neg q];have J:=Bool.eq_false_iff.mpr q;refine K2.mpr ⟨λz hz=>?_,h⟩;rcases wh.mp hz with e|e
   .rw[e];exact J
   .exact L9 J (h1 z e)
theorem dR:∀l,(im O l).Pairwise O.kle
 | []=>Pairwise.nil
 |x::r=>mB O x _ (dR r)
theorem jF:∀{a b:List O.α},a.Perm b->a.Pairwise O.kle->b.Pairwise O.kle->a=b
 | [],b,p,_,_=>p.nil_eq
 |x::a,[],p,_,_=>by have:=p.length_eq;simp at this
 |x::a,y::b,p,J,U=>by
  obtain⟨Y,Z⟩:=K2.mp J;obtain⟨b1,b2⟩:=K2.mp U;have e:x=y:=by
   have hx:=p.mem_iff.mp (.head _);have hy:=p.mem_iff.mpr (.head _);rcases wh.mp hx with q|q
   .exact q
   .rcases wh.mp hy with z|z
    .exact z.symm
    .exact KeyOrd.kle_antisymm (Y y z) (b1 x q)
  subst e;rw[jF (p.cons_inv) Z b2]
def mC(p:a.Perm l)(h:a.Pairwise O.kle):a=im O l:=jF O (p.trans (eS O l).symm) h (dR O l)
def oj(p:a.Perm b):im O a=im O b:=mC O ((eS O a).trans p) (dR O a)
end
def iP{α:Type}(xs)(d:α):(range xs.length).map (λi=>xs.getD i d)=xs:=by
 apply Nt;intro i;rw[Kc];by_cases q:i<xs.length
 .simp_all
 .simp_all
def Ek(J:PB xs.length p)(Y:fk (λi=>xs.getD i d) p xs.length):p.toList.map (λi=>xs.getD i d)=im O xs:=by
 refine mC O ?_ ?_
 .have h:=(Mf.mp J).map λi=>xs.getD i d
  have e:=iP xs d;rw[e]at h;exact h
 .rw[pairwise_iff_getElem];intro i j hi U z;rw[p0,Array.length_toList]at hi U;have hz:=J.size;have q:=Y i j (Ld z) (by omega);simp only[getElem_map];have Z:p.getD i 0=p[i]:=by simp[hi]
  have ej:p.getD j 0=p[j]:=by simp[U]
  unfold kk at q;rw[Z,ej]at q;exact q
end L2.Srt
namespace L2.Srt
open PySem PySem.W PySem.Calls PyProof.Rows List Option
section
variable{prog:Program}{w:World}{A:Around}{E:Value->Shared->Prop}{s:Shared}
def KOk(g:SortKind):Prop:=g=tuples' true\/g=general'\/g=oneType'
def p8 {KO:SortKind->Prop}{O:KeyOrd}{key:Nat->O.α}{a:Addr}{vs:List Value}{n:Nat}{R:PySem.Fin->Shared->Prop} (ho:s.heap.get? a=some (seqObj "list" vs.toArray n)) (aO:vs.length<64)
  (hk:2<=vs.length->∀s' Q,(∀b o,b≠a->s.heap.get? b=some o->s'.heap.get? b=some o)->(∀g,KO g->Q g s')->wpAny (model prog w) A (keyKind' vs.toArray) Q (λ_ _=>False) s')
  (hc:∀g,KO g->∀s' i j C,(∀b o,b≠a->s.heap.get? b=some o->s'.heap.get? b=some o)->i<vs.length->j<vs.length->C (O.blt (key i) (key j)) s' ->
   wpAny (model prog w) A (keyLt' g (vs.getD i Value.none) (vs.getD j Value.none)) C (λ_ _=>False) s')
  (h:∀p,PB vs.length p->fk key p vs.length->R (.done (.ret .none)) { s with heap:=sortedHeap s.heap a vs (p.toList.map λi=>vs.getD i Value.none).toArray }) :
  wpAny (model prog w) A (Builtin.«list.sort» ⟨[.ref a],[]⟩) R E s:=by
 rw[list_sort_plain];have ha:=tf ho;refine ez (listItems_at ho rfl ?_);refine ez (listUpdate_at ho rfl ?_ (by rw[r4,KG];omega) (Kd _));obtain⟨e1,Z⟩:∃e1,(s.heap.update a (Obj.mapSeq λ_=>(#[]:Array Value))).get? a=some (seqObj "list" #[] e1):=⟨_,get?_update_seq ho λ_=>#[]⟩;refine ez (seqEpoch_at Z rfl ?_);refine ez (wpAny_newTuple ?_ (by show vs.length<=_;rw[KG];omega));refine ez (wpAny_newList ?_ (Kd _));refine Kl ?_;have J:(((s.heap.update a (Obj.mapSeq λ_=>(#[]:Array Value))).push (seqObj "tuple" vs.toArray 0)).push (seqObj "list" #[] 0)).get? a=some (seqObj "list" #[] e1):=iA _ (iA _ Z);have kp:∀b o,b≠a->s.heap.get? b=some o->(((s.heap.update a (Obj.mapSeq λ_=>(#[]:Array Value))).push (seqObj "tuple" vs.toArray 0)).push (seqObj "list" #[] 0)).get? b=some o:=λb o hb e =>
  iA _ (iA _ ((KN _ _ (LJ hb)).trans e))
 show wpAny (model prog w) A _ R E { s with heap:=((s.heap.update a (Obj.mapSeq λ_=>(#[]:Array Value))).push (seqObj "tuple" vs.toArray 0)).push (seqObj "list" #[] 0) };dsimp only;have b4:vs.toArray.size=vs.length:=by simp
 by_cases h2:vs.toArray.size<2
 .rw[if_pos h2,if_pos h2];refine ez (gk ?_);rw[StateT.run_pure];refine ez (gk ?_);dsimp only;refine ez (seqEpoch_at J rfl ?_);refine ez (listUpdate_at J rfl ?_ (Kd _) (by rw[Mv];show(pairsOf vs).size<=_;rw[pairsOf_size,KG];omega));simp only[LX,J5,KU];have e:((arrOf (SortSt.mk' general' (vs.toArray.zip vs.toArray) #[] 7 none)).map (·.2))=((range vs.length).toArray.toList.map λi=>vs.getD i Value.none).toArray:=by
   have e2:(arrOf (SortSt.mk' general' (vs.toArray.zip vs.toArray) #[] 7 none))=vs.toArray.zip vs.toArray:=rfl;rw[e2];apply Array.toList_inj.mp;rw[iP];simp[map_snd_zip]
  refine gk ?_;have q:=h (range vs.length).toArray (Array.Perm.refl _) (λi j cd hj=>by
   have:i=j:=by omega
   subst this;exact K6 _)
  rw[<- e]at q;exact q
 .rw[if_neg h2,if_neg h2];have ao:2<=vs.length:=by omega
  refine ez (Ks (hk ao _ (λg s0=>KO g/\s0={ s with heap:=((s.heap.update a (Obj.mapSeq λ_=>(#[]:Array Value))).push (seqObj "tuple" vs.toArray 0)).push (seqObj "list" #[] 0) }) kp λg z=>⟨z,rfl⟩) (λg s0 z=>?_) λ_ _ x=>x.elim);obtain⟨z,rfl⟩:=z;refine ez (Ks (kat_run (Q:=λU s'=>∃p,p.size=vs.length/\arrOf U=p.map (kas_item (vs.toArray.zip vs.toArray))/\failedOf U=none/\PB vs.length p/\fk key p vs.length/\s'={ s with heap:=((s.heap.update a (Obj.mapSeq λ_=>(#[]:Array Value))).push (seqObj "tuple" vs.toArray 0)).push (seqObj "list" #[] 0) })
   (G:=λp s'=>PB vs.length p/\fk key p vs.length/\s'={ s with heap:=((s.heap.update a (Obj.mapSeq λ_=>(#[]:Array Value))).push (seqObj "tuple" vs.toArray 0)).push (seqObj "list" #[] 0) })
   rfl ao aO (λp' U s' a1 a2 a3 a4=>⟨p',a1,a2,a3,a4⟩)
   (Ej (key:=key) (λi j C hi hj q=>hc g z _ i j C kp hi hj q) (by omega) λp hp hr=>⟨hp,hr,rfl⟩)) ?_ λ_ _ e=>e)
  rintro ⟨⟨⟩,U⟩ s' ⟨p,hp,a6,hf,bA,bB,rfl⟩;dsimp only;have Y:=kat_snds rfl a6;refine ez (seqEpoch_at J rfl ?_);refine ez (listUpdate_at J rfl ?_ (Kd _) (by rw[Y];refine uw (L4 ?_) (show vs.length<=_ by rw[KG];omega);simp[hp]));rw[hf,Y];simp only[LX,J5,KU];exact gk (h p bA bB)
theorem lb :∀{vs z}{ns ms} i,IntsAre vs ns->IntsAre z ms->fin=decide (ns.length<ms.length)->C (HT.lexLt ns ms) s->KatLex prog w A true fin C (vs.zip z) i s
 | _,_,_,_,i,.nil,.nil,hf,h=>by
  refine kat_nil ?_;rw[hf];exact h
 | _,_,_,_,i,.nil,.cons c u hw,hf,h=>by
  refine kat_nil ?_;rw[hf,J9 (by simp)];exact h
 | _,_,_,_,i,.cons a t hv,.nil,hf,h=>by
  refine kat_nil ?_;rw[hf,Kr (by simp)];exact h
 | _,_,_,_,i,.cons (ns:=ns) a t hv,.cons (ns:=ms) c u hw,hf,h=>by
  rw[HT.lexLt_cons]at h;refine kat_cons (wpAny_eqBool_int ?_);by_cases e:a=c
  .rw[if_pos e]at h;have q:(a==c)=true:=by rw[e];exact LC c
   rw[q];refine kat_yes (lb _ hv hw ?_ h);rw[hf];simp
  .rw[if_neg e]at h;have q:=LI.mpr e;rw[q];refine kat_no ?_;cases i with
   |zero=>exact oneLt_int h
   |succ i=>exact kat_one _ _ (lt_int h)
def BR(hk:KOk g){a b:Addr}{its z:Array Value}{ns ms:List Int}{C:Bool->Shared->Prop}(ha:IsTup s.heap a its)(hb:IsTup s.heap b z)(hi:IntsAre its.toList ns)(Z:IntsAre z.toList ms)
  (hu:A.units<cLine) (h:C (HT.lexLt ns ms) s):wpAny (model prog w) A (keyLt' g (.ref a) (.ref b)) C E s:=by
 rcases hk with rfl|rfl|rfl
 .obtain⟨o,ho,_,n,hd⟩:=id ha;obtain⟨o2,U,_,n2,J⟩:=id hb;refine kat_lt ho hd U J (lb 0 hi Z ?_ h);have z1:its.size=ns.length:=by rw[<- hi.length];simp
  have z2:z.size=ms.length:=by rw[<- Z.length];simp
  rw[z1,z2]
 .show wpAny _ _ (oneLt' false _ _) _ _ _;exact kat_one _ _ (HT.lt_tupInts ha hb hi Z hu h)
 .rw[keyLt'_oneType,oneLt'_eq];refine ez (wpAny_cRoomFor hu ?_);refine ax λZq kq=>?_
  obtain⟨⟨cls,dd,data,sl⟩,ho,hc,n,hd⟩:=id ha;obtain⟨⟨a3,aO,data2,a0⟩,U,Y,n2,J⟩:=id hb;simp only at hc hd Y J;subst hc hd Y J;refine kq ?_;refine ez (wpAny_callSpecialIfBound?_slot ⟨_,ho,rfl⟩ PySem.F.slot_tuple_lt (MN PySem.F.slot_tuple_lt ⟨_,ho,rfl⟩ PySem.F.entry_tuple_lt (PySem.F.args_tuple_lt_2 _ _) (HT.tuple_lt_ints a b its z n n2 dd aO sl a0 ns ms hi Z) ⟨ho,U,?_⟩));exact K4 h
theorem lc:∀(vs:List Value) {Q},(∀v∈vs,∃a its ns,v=.ref a/\IsTup s.heap a its/\IntsAre its.toList ns) ->
  (∀fs,fs.length=vs.length->(∀f∈fs,∀v,f=some v->∃n t,v=Value.int n t)->Q fs s)->wpAny (model prog w) A (vs.mapM firstOfTuple') Q E s
 | [],Q,_,h=>by rw[mapM_nil];exact gk (h [] rfl (by simp))
 |v::vs,Q,hv,h=>by
  obtain⟨a,its,ns,rfl,⟨o,ho,hc,n,hd⟩,hi⟩:=hv v (.head _);rw[mapM_cons];refine ez ?_;refine ez (Looks.here (show Looks (model prog w) s.heap (typeOf (.ref a)) o.cls from(Looks.ld ho).andThen .now) ?_);rw[hc,if_neg (by first|decide|simp)];refine ez (listItems_at ho hd (gk ?_));refine ez (lc vs (Q:=λbs s'=>wpAny (model prog w) A (pure (its[0]?::bs)) Q E s') (λu U=>hv u (.tail _ U)) λfs Y Z=>?_);refine gk (h _ (by simp[Y]) λf hm u e=>?_);rcases wh.mp hm with z|z
  .rw[z]at e;have J:u∈its.toList:=by
    rw[<- Ky]at e;exact Lq e
   exact hi.all u J
  .exact Z f z u e
def wP{vs:List Value}{Q:SortKind->Shared->Prop}(h2:2<=vs.length)(hv:∀v∈vs,∃a its ns,v=.ref a/\IsTup s.heap a its/\IntsAre its.toList ns)(h:∀g,KOk g->Q g s) :
  wpAny (model prog w) A (keyKind' vs.toArray) Q E s:=by
 rw[kat_kind_eq,mapM_toArray,Nu];refine ez (ez (lc vs hv λfs hl hf=>gk ?_));by_cases z:(fs.toArray.all λx=>x.isSome)=true
 .rw[if_pos z];refine ez (Lz ?_);have ar:(fs.toArray.filterMap id)=(fs.filterMap id).toArray:=by simp
  rw[ar,oneTypeOnly'_eq,mapM_toArray,Nu];have U:∀v∈fs.filterMap id,∃n t,v=Value.int n t:=λv Y=>by
   obtain⟨f,aO,e⟩:=mem_filterMap.mp Y;exact hf f aO v e
  have a0:0<(fs.filterMap id).length:=by
   match fs,hl,z with
   | [],hl,_=>simp at hl;omega
   |f::r,_,z =>
    have:f.isSome=true:=by simp at z;exact z.1
    obtain⟨u,rfl⟩:=isSome_iff_exists.mp this;simp
  refine ez (ez (ez (kas_mapM (r:=Value.type "int") _ (λv Y Q' hq=>?_) (gk ?_))))
  .obtain⟨n,t,rfl⟩:=U v Y;exact gk hq
  .have h0:(map (λ_=>Value.type "int") (fs.filterMap id)).toArray[0]?=some (Value.type "int"):=by
    simp[a0]
   rw[h0];have J:((map (λ_=>Value.type "int") (fs.filterMap id)).toArray.all λx=>x==Value.type "int")=true:=by
    simp only[all_toArray,MP,LD];intro _ _
    rfl
   simp only[J,if_true];exact gk (gk (h _ (.inl rfl)))
 .rw[if_neg z];by_cases Z:((fs.toArray[0]?).bind id).isSome=true
  .rw[if_pos Z];exact gk (h _ (.inr (.inl rfl)))
  .rw[if_neg Z];rw[oneTypeOnly'_eq,mapM_toArray,Nu];refine ez (ez (ez (kas_mapM (r:=Value.type "tuple") _ (λv Y Q' hq=>?_) (gk ?_))))
   .obtain⟨a,its,ns,rfl,⟨o,ho,hc,n,hd⟩,hi⟩:=hv v Y;have q:Looks (model prog w) s.heap (typeOf (.ref a)) o.cls:=(Looks.ld ho).andThen .now;rw[hc]at q;exact q.here hq
   .have h0:(map (λ_=>Value.type "tuple") vs).toArray[0]?=some (Value.type "tuple"):=by
     have:0<vs.length:=by omega
     simp[this]
    rw[h0];have J:((map (λ_=>Value.type "tuple") vs).toArray.all λx=>x==Value.type "tuple")=true:=by
     simp only[all_toArray,MP,LD];intro _ _
     rfl
    simp only[J,if_true];exact gk (gk (h _ (.inr (.inr rfl))))
end
end L2.Srt
namespace L2.St
open PySem PyProof.Rows List Option
section
variable{P:Program}{w:World}{A:Around}{E:Value->Shared->Prop}{s:Shared}
def lQ{items:Array Value}(hi:IntsAre items.toList ns):∀i (v:Value),items[i]?=some v->∃t,v=.int (ns.getD i 0) t:=
 λi v e=>IntsAre.int_at hi i v (by rw[Ky];exact e)
def kC{v:Value}{vs:Array Value}{it:Addr}{Q:Option Value->Shared->Prop}(z:A.handled=none){R:Value->Shared->Prop}
  (J:∀e s',(∀b o,s.heap.get? b=some o->s'.heap.get? b=some o)->(∃h',s'={ s with heap:=h' })->s'.TypeIs e "StopIteration"->R e s') {U:PySem.Fin->Shared->Prop} :
  wpAny (model P w) A (newExc (.type "StopIteration") [] >>= λe=>(raiseNew e:Sem PySem.Fin)) U R s:=by
 refine wpAny_bind ?_;simp only[newExc,newTuple];refine wpAny_bind (wpAny_newObj_type ?_ (by size_fits));refine wpAny_bind (m:=firstArgMember _ _) (wpAny_of_eq (a:=Value.none) (by first|rfl|(simp only[firstArgMember];rfl)) ?_);refine wpAny_newObj_type ?_ (by size_fits);simp only[raiseNew];refine wpAny_bind (wpAny_handled ?_);rw[z];refine wpAny_bind (wpAny_pure (wpAny_throw ?_));exact J _ _ (λb o e=>Heap.get?_push_of_some _ (Heap.get?_push_of_some _ e)) ⟨_,rfl⟩ ⟨_,Heap.get?_push_size _ rfl,rfl⟩
def ol(h:ItemsOf (λi v=>∃t,v=Value.int (order.getD i 0) t) acc order.length):IntsAre acc.toList order:=by
 obtain⟨hz,hv⟩:=h;have J:acc.toList.length=order.length:=by simpa using hz
 have z:∀j v,acc.toList[j]?=some v->∃t,v=Value.int _ t:=λj v e=>hv j v (by rw[<- Ky];exact e)
 clear hv hz;generalize acc.toList=vs at J z
 induction vs generalizing order with
 |nil =>
  have:=J6.mp J.symm;rw[this];exact .nil
 |cons v r ih =>
  match order,J,z with
  | [],J,_=>simp at J
  |k::ks,J,z =>
   obtain⟨t,e⟩:=z 0 v rfl;have U:=e;rw[U];exact .cons k t (ih (by simpa using J) λj u q=>z (j+1) u (by simpa using q))
end
end L2.St
namespace L2.St
open PySem List Option
def oq(xs:Array Nat):Prop:=∀i j,i<j->j<xs.size->xs.getD i 0<xs.getD j 0
def yE{xs:Array Nat}(h:i<xs.size)(d e):xs.getD i d=xs.getD i e:=by simp[Array.getD,h]
theorem mD{xs:Array Nat}{j:Nat}(Z:oq xs):∀(J lo hi:Nat),hi<=lo+J->lo<=hi->hi<=xs.size->(∀i,i<lo->xs.getD i 0<j)->(∀i,hi<=i->i<xs.size->j<=xs.getD i 0) ->
  (SetTable.below.go xs j J lo hi<=xs.size/\(∀i,i<SetTable.below.go xs j J lo hi->xs.getD i 0<j)/\∀i,SetTable.below.go xs j J lo hi<=i->i<xs.size->j<=xs.getD i 0)
 |0,lo,hi,hf,h1,h2,a,b=>by
  have e:SetTable.below.go xs j 0 lo hi=lo:=rfl;rw[e];have:lo=hi:=KQ h1 hf;subst this;exact⟨h2,a,b⟩
 |J+1,lo,hi,hf,h1,h2,a,b=>by
  have e:SetTable.below.go xs j (J+1) lo hi=if lo<hi then(if xs.getD ((lo+hi) / 2) j<j then SetTable.below.go xs j J ((lo+hi) / 2+1) hi else SetTable.below.go xs j J lo ((lo+hi) / 2))else lo:=rfl
  rw[e];by_cases hl:lo<hi
  .rw[if_pos hl];obtain⟨m,em,m1,m2⟩:∃m,(lo+hi) / 2=m/\lo<=m/\m<hi:=⟨_,rfl,by omega,by omega⟩;rw[em];have hm:m<xs.size:=JX m2 h2;rw[yE hm j 0];by_cases Y:xs.getD m 0<j
   .rw[if_pos Y];refine mD Z J _ hi (by omega) m2 h2 (λi U=>?_) b;rcases Nb (K5 U)with z|z
    .exact L5 (Z i m z hm) Y
    .rw[z];exact Y
   .rw[if_neg Y];refine mD Z J lo _ (by omega) m1 (Ld hm) a λi U hz=>?_
    rcases Nb U with z|z
    .exact uw (KR.mp Y) (Ld (Z m i z hz))
    .rw[<- z];exact KR.mp Y
  .rw[if_neg hl];have:lo=hi:=KQ h1 (KR.mp hl);subst this;exact⟨h2,a,b⟩
def jd{xs:Array Nat}(z:oq xs)(j:Nat):SetTable.below xs j<=xs.size/\(∀i,i<SetTable.below xs j->xs.getD i 0<j)/\∀i,SetTable.below xs j<=i->i<xs.size->j<=xs.getD i 0:=
 mD z xs.size 0 xs.size (LM _ _) (Kd _) (pb _) (λi h=>absurd h (Nat.not_lt_zero i)) λi h1 h2=>absurd h2 (KR.mpr h1)
def ou(xs)(p)(x:α)(z:p<=xs.size):(SetTable.insertAt xs p x).size=xs.size+1:=by grind [SetTable.insertAt]
def jG{α:Type}(xs:Array α)(p:Nat)(x:α)(z:p<=xs.size)(i:Nat):(SetTable.insertAt xs p x)[i]?=if i<p then xs[i]? else if i=p then some x else xs[i-1]?:=by
 unfold SetTable.insertAt;have hz:((xs.extract 0 p).push x).size=p+1:=by rw[Array.size_push,LN,LO z,Nat.sub_zero]
 rcases Mx i p with h1|h1|h1
 .rw[if_pos h1,Nf (by rw[hz];exact Ko h1)];rw[Array.getElem?_push,if_neg (by rw[LN,LO z];exact JW h1),Array.getElem?_extract,if_pos (by rw[LO z];exact h1),LF]
 .subst h1;rw[if_neg (Ku _),if_pos rfl,Nf (by rw[hz];exact LG _)];rw[Array.getElem?_push,if_pos (by rw[LN,LO z];rfl)]
 .obtain⟨k,rfl⟩:=Lj h1;rw[if_neg (Nr h1),if_neg (KS h1),Array.getElem?_append_right (by rw[hz];exact h1),hz,Array.getElem?_extract,KI,Nat.add_sub_cancel_left,Nv,KI,KW];by_cases J:k<xs.size-p
  .rw[if_pos J]
  .rw[if_neg J,LS (Nat.sub_le_iff_le_add'.mp (KR.mp J))]
def dJ{xs:Array Nat} :xs.getD i 0=(xs[i]?).getD 0:=Lm
def rh{xs:Array Nat}(Y:oq xs){j:Nat}(hn:xs[SetTable.below xs j]?≠some j):oq (SetTable.insertAt xs (SetTable.below xs j) j):=by
 obtain⟨Z,ha,hb⟩:=jd Y j;generalize SetTable.below xs j=p at *
 have ao:∀i,p<=i->i<xs.size->j<xs.getD i 0:=λi h1 h2=>by
  rcases Nb h1 with z|z
  .exact Kq (hb p (pb _) (L5 z h2)) (Y p i z h2)
  .subst z;have e:xs[p]?=some (xs.getD p 0):=by rw[Mo h2];simp[Array.getD,h2]
   exact Ln (hb p h1 h2) λz=>hn (by rw[e,<- z])
 intro i k J hk;rw[ou _ _ _ Z]at hk;rw[dJ,dJ,jG _ _ _ Z,jG _ _ _ Z];rcases Mx k p with h1|h1|h1
 .rw[if_pos h1,if_pos (L5 J h1),<- dJ,<- dJ];exact Y i k J (JX h1 Z)
 .subst h1;rw[if_neg (Ku k),if_pos rfl,if_pos J,<- dJ];exact ha i J
 .obtain⟨c,rfl⟩:=Lj h1;have hc:=MB hk;rw[if_neg (Nr h1),if_neg (KS h1),KW];rcases Mx i p with U|U|U
  .rw[if_pos U,<- dJ,<- dJ];exact Y i (p+c) (JX U (MJ p c)) hc
  .rw[if_neg (U▸Ku p),if_pos U,<- dJ];exact ao (p+c) (MJ p c) hc
  .obtain⟨b,rfl⟩:=Lj U;rw[if_neg (Nr U),if_neg (KS U),KW,<- dJ,<- dJ];exact Y (p+b) (p+c) (MB J) hc
def tH(n):oq (Array.range n):=λi j h1 h2=>by
 rw[Array.size_range]at h2;simp[Array.getD,h2,L5 h1 h2];exact h1
def yF:oq #[]:=λi j _ h=>by simp at h
structure Gd(L:Bool)(t:SetTable):Prop where
 led:t.led=L
 dum:t.dummies=#[]
 rise:oq t.place
theorem Gd.fresh(L):Gd L (.fresh 0 0 L):=⟨rfl,rfl,yF⟩
theorem Gd.standIn(h:Gd L t)(n):Gd L (t.standIn n):=⟨h.led,rfl,tH n⟩
theorem Gd.orStandIn(h:Gd L t)(n):Gd L (t.orStandIn n):=by
 unfold SetTable.orStandIn;split
 .exact h
 .exact h.standIn n
def Gd.unplain(h:Gd L t):Gd L { t with plain:=false }:=⟨h.led,h.dum,h.rise⟩
def p9{t:SetTable}(hd:t.dummies=#[])(j):t.slot j≠.dummy:=by
 unfold SetTable.slot SetTable.has;rw[hd];dsimp only;split
 .simp
 .simp
def tI{t:SetTable}(h:t.slot j=.empty):t.place[SetTable.below t.place j]?≠some j:=by
 intro e;unfold SetTable.slot at h
 simp_all
theorem rj(hd:t.dummies=#[]) :∀z p,p.dummy=none->∀j d,SetTable.probe.go t J h z p=some (.empty j d)->d=none/\t.slot j=.empty
 |0,p,U,j,d,e=>by
  have:SetTable.probe.go t J h 0 p=none:=rfl;rw[this]at e;cases e
 |z+1,p,U,j,d,e=>by
  have step:SetTable.probe.go t J h (z+1) p=(match t.slot p.j with
   | .empty=>some (.empty p.j p.dummy)
   | .dummy=>SetTable.probe.go t J h z (t.advance { p with dummy:=some p.j })
   | .live i=>if J i==h then some (.candidate p.j i (t.advance p))else SetTable.probe.go t J h z (t.advance p)):=rfl
  rw[step]at e;have Y:(t.advance p).dummy=none:=by unfold SetTable.advance;split<;>simp[U]
  cases hs:t.slot p.j with
  |empty =>
   rw[hs]at e;dsimp only at e;cases e;exact⟨U,hs⟩
  |dummy=>exact absurd hs (p9 hd _)
  |live i =>
   rw[hs]at e;dsimp only at e;split at e
   .cases e
   .exact rj hd z _ Y j d e
def wQ{t:SetTable}(hd:t.dummies=#[])(e:t.freeSlot h=some (j,b)):t.slot j=.empty:=by
 unfold SetTable.freeSlot at e;split at e
 .rename_i z d J;obtain⟨rfl,hs⟩:=rj hd _ _ rfl z d J
  simp_all
 .cases e
theorem Gd.put(h:Gd L t)(hs:t.slot j=.empty):Gd L (t.put j).1:=by
 refine⟨h.led,?_,rh h.rise (tI hs)⟩;show(if SetTable.has t.dummies j then _ else t.dummies)=#[];rw[if_neg (by unfold SetTable.has;rw[h.dum];simp)];exact h.dum
theorem Gd.layNew(g:Gd L t)(es)(h)(x):Gd L (layNew t es h x).2.1:=by
 unfold PySem.layNew;cases e:t.freeSlot h with
 |none=>exact g.standIn _
 |some q =>
  exact(g.put (wQ g.dum e)).orStandIn _
def yG(f:Nat->Option Nat)(n):oq ((((range n).filterMap λj=>(f j).map λi=>(j,i)).map λq:Nat×Nat=>q.1).toArray):=by
 have e:((range n).filterMap λj=>(f j).map λi=>(j,i)).map (λq:Nat×Nat=>q.1)=(range n).filter λj=>(f j).isSome:=by
  generalize range n=l
  induction l with
  |nil=>rfl
  |cons a l ih =>
   cases h:f a<;>simp[filterMap_cons,filter_cons,h,ih]
 rw[e];have Y:((range n).filter λj=>(f j).isSome).Pairwise (· < ·):=Pairwise.filter _ pairwise_lt_range;intro i j J Z;have z:j<((range n).filter λj=>(f j).isSome).length:=by simpa using Z
 have U:i<((range n).filter λj=>(f j).isSome).length:=L5 J z;have:=pairwise_iff_getElem.mp Y i j U z J;simpa[Array.getD,z,U]using this
theorem Gd.relaid(g:Gd L t)(e:t.relaid hs n=some (t',o)):Gd L t':=by
 unfold SetTable.relaid SetTable.laid at e;cases h:SetTable.layClean (SetTable.sizeAbove n-1) hs with
 |none=>rw[h]at e;cases e
 |some ow =>
  rw[h]at e;cases e;exact⟨g.led,rfl,yG (λj=>ow.getD j none) _⟩
theorem Gd.relayAll(g:Gd L t)(es)(n):Gd L (relayAll t es n).2.1:=by
 unfold PySem.relayAll;cases e:t.relaid (es.map _) n with
 |none=>exact g.standIn _
 |some q =>
  dsimp only;split
  .exact g.relaid e
  .exact g.standIn _
end L2.St
namespace L2.St
open PySem PyProof.Rows List Option
noncomputable def byT (w:World):Bool:=w.params.followText "set-order"
structure Arr(P:Program)(w:World)(ks:List Int)(es:Array (Int×Value))(t:SetTable):Prop where
 el:ElemsOf (intKind P w) es.toList
 pm:(es.toList.map λe=>numOf e.2).Perm ks
 nd:ks.Nodup
 bd:es.size<scanBound
 fi:t.fits es.size=true
 gd:Gd (!byT w) t
def b9(P:Program)(w:World)(h:Heap)(a:Addr)(ks:List Int):Prop:=
 ∃o es ep t,h.get? a=some o/\o.ExactSet/\o.data=.set es ep t/\ElemsOf (intKind P w) es.toList/\(es.toList.map λe=>numOf e.2).Perm ks/\ks.Nodup/\es.size<scanBound/\t.fits es.size=true/\Gd (!byT w) t
section
variable{P:Program}{w:World}{h h':Heap}{a:Addr}{ks ks':List Int}{o:Obj}{es:Array (Int×Value)}{ep:Nat}{t:SetTable}
theorem b9.arr(g:b9 P w h a ks):∃o es ep t,(h.get? a=some o/\o.ExactSet/\o.data=.set es ep t)/\Arr P w ks es t:=by
 refine ax λZq J=>?_
 obtain⟨o,es,ep,t,ho,z,hd,U,Y,Z,c4,c5,c6⟩:=g;refine J ?_;exact⟨o,es,ep,t,⟨ho,z,hd⟩,⟨U,Y,Z,c4,c5,c6⟩⟩
theorem Arr.set(r:Arr P w ks es t)(ho:h.get? a=some o)(z:o.ExactSet)(hd:o.data=.set es ep t):b9 P w h a ks:=
 ⟨o,es,ep,t,ho,z,hd,r.el,r.pm,r.nd,r.bd,r.fi,r.gd⟩
theorem Arr.len(r:Arr P w ks es t):es.size=ks.length:=by simpa using r.pm.length_eq
theorem Arr.bare(r:Arr P w ks es t)(b):Arr P w ks es (if b=true then t else { t with plain:=false }):=by
 cases b
 .exact⟨r.el,r.pm,r.nd,r.bd,SetTable.fits_plain_off r.fi,r.gd.unplain⟩
 .exact r
theorem Arr.lay(r:Arr P w ks es t)(tk)(J:k∉ks)(U:ks.length+1<scanBound):Arr P w (k::ks) (layNew t es (hashInt k) (.int k tk)).1 (layNew t es (hashInt k) (.int k tk)).2.1:=by
 have p:(layNew t es (hashInt k) (.int k tk)).1.toList.Perm (es.toList++[(hashInt k,.int k tk)]):=by simpa using layNew_perm t es _ _
 have z:=p.length_eq;have l:=r.len;constructor
 .exact ElemsOf.perm (r.el.push (Nn _ _ _ _) rfl) p
 .have q:((es.toList++[(hashInt k,Value.int k tk)]).map λe=>numOf e.2).Perm (k::ks):=by
   rw[K8];exact Mb.trans (r.pm.cons k)
  exact(p.map _).trans q
 .exact Kt.mpr ⟨J,r.nd⟩
 .simp at z;omega
 .exact layNew_fits _ _ _ _
 .exact r.gd.layNew _ _ _
def Arr.relay(r:Arr P w ks es t)(n):Arr P w ks (relayAll t es n).1 (relayAll t es n).2.1:=by
 have p:=relayAll_perm t es n;have z:=p.length_eq;have b:=r.bd;exact⟨r.el.perm p,(p.map _).trans r.pm,r.nd,by simp at z;omega,relayAll_fits t es n,r.gd.relayAll es n⟩
theorem b9.at(g:b9 P w h a ks)(k:∀o,h.get? a=some o->h'.get? a=some o):b9 P w h' a ks:=by
 obtain⟨o,es,ep,t,⟨ho,z,hd⟩,r⟩:=g.arr;exact r.set (k o ho) z hd
end
def eM(h:ElemsOf (intKind P w) es):∀e∈es,∃t,e.2=.int (numOf e.2) t:=λe z=>by
 obtain⟨⟨k,J,_⟩,_⟩:=h e z;obtain⟨t,q⟩:=Nh (show Value.isInt k e.2=true from J);exact⟨t,by rw[q];rfl⟩
def je(h:ElemsOf (intKind P w) es)(J:e∈es)(k):(intKind P w).is k e.2=true ↔ numOf e.2=k:=by
 obtain⟨t,q⟩:=eM h e J;constructor
 .intro z;obtain⟨t',U⟩:=Nh (show Value.isInt k e.2=true from z);rw[U];rfl
 .intro z;rw[q,z];exact Nn _ _ _ _
section
variable{P:Program}{w:World}{A:Around}{E:Value->Shared->Prop}{s:Shared}
def Now(P:Program)(w:World)(a:Addr)(s:Shared)(ks:List Int)(s':Shared):Prop:=
 ∃h',s'={ s with heap:=h' }/\Heap.SameBut a s.heap h'/\b9 P w h' a ks
theorem Now.stay(g:b9 P w s.heap a ks):Now P w a s ks s:=⟨s.heap,rfl,Lu a s.heap,g⟩
def u_{h:Heap}(ho:h.get? a=some o)(J:o.ExactSet)(hd:o.data=.set es ep t)
  (r:Arr P w ks z t'):b9 P w (h.update a (Obj.putSet z t')) a ks:=by
 refine r.set (o:={ o with data:=.set z (ep+1) t' }) (ep:=ep+1) ?_ J rfl;have e:=putSet_of z t' hd;rw[<- e];exact Kx _ ho (by rw[e];rfl)
theorem Now.put{s':Shared}(n:Now P w a s ks s'){es:Array (Int×Value)}{t:SetTable}(r:Arr P w ks' es t){Q:Unit->Shared->Prop}(h:∀z,Now P w a s ks' z->Q () z) :
  wpAny (model P w) A (storeSet a es t) Q E s':=by
 refine ax λZ U=>?_
 obtain⟨h',rfl,Y,g⟩:=n;obtain⟨o,_,_,_,⟨ho,J,hd⟩,_⟩:=g.arr;refine U ?_;exact Lv ho hd (h _ ⟨_,rfl,Y.trans (Km h' a _),u_ ho J hd r⟩) (Lh r.bd)
def Hg{Q:Unit->Shared->Prop}(z:m=pure ()\/∃n,m=rule n)(h:Q () s'):wpAny (model P w) A m Q E s':=by
 rcases z with rfl|⟨n,rfl⟩
 .exact gk h
 .exact Lz h
def Hh(k)(tk)(c)(h:∀b,wpAny (model P w) A (f b) Q E s') :
  wpAny (model P w) A (if c=true then hashByValue 8 (.int k tk) >>= f else(pure true:Sem Bool) >>= f) Q E s':=by
 cases c
 .exact ez (gk (h true))
 .rw[if_pos rfl,hashByValue_scannable 8 (show(Value.int k tk).scannable=true from rfl)];exact ez (gk (h _))
def oT{Q:Bool->Shared->Prop}(hS:b9 P w s.heap a ks)(J:ks.length+1<scanBound)
  (h:∀h' b,Heap.SameBut a s.heap h'->b9 P w h' a (if k∈ks then ks else k::ks)->Q b { s with heap:=h' }) :
  wpAny (model P w) A (setAddHashed a (.int k tk) (hashInt k)) Q E s:=by
 have fin:∀b s',Now P w a s (if k∈ks then ks else k::ks) s'->Q b s':=by
  rintro b _ ⟨h',rfl,sb,g⟩;exact h h' b sb g
 have now:=Now.stay hS;obtain⟨o,es,ep,t,⟨ho,a5,hd⟩,r⟩:=hS.arr;have here:k∈ks ↔ ((es.toList.findIdx? λe=>(intKind P w).is k e.2).isSome=true):=by
  rw[findIdx?_isSome,Ka,<- r.pm.mem_iff,mem_map];exact⟨λ⟨e,Y,q⟩=>⟨e,Y,(je r.el Y k).mpr q⟩,λ⟨e,Y,q⟩=>⟨e,Y,(je r.el Y k).mp q⟩⟩
 unfold setAddHashed setAddHashedIn;refine Kl (ez (Kb ho hd r.fi ?_));dsimp only;rw[byScan_of (x:=.int k tk) rfl r.bd r.el,if_pos rfl];refine ez ?_;unfold setAddByScan;refine ez (Lz (ez (wpAny_setScan_of (knd:=intKind P w) (Nn _ _ _ _) ho hd r.fi r.el ?_)));rcases Z:es.toList.findIdx? λe=>(intKind P w).is k e.2 with _|j
 .rw[Z];have hk:k∉ks:=λz=>by rw[here,Z]at z;exact Bool.noConfusion z
  rw[if_neg hk]at fin;have r1:=r.lay tk hk J;rcases hl:layNew t es (hashInt k) (.int k tk)with⟨U,t1,dm,gv⟩
  rw[hl]at r1;dsimp only at r1 ⊢;refine ez (Hg ?_ ?_)
  .cases gv
   .exact .inl rfl
   .exact .inr ⟨_,rfl⟩
  refine Hh k tk _ λb=>?_
  have r2:=r1.bare b;generalize (if b=true then t1 else _)=t2 at r2 ⊢;refine ez (now.put r2 λs2 n2=>?_);refine Ke (λ_=>?_) (λ_=>gk (gk (fin _ _ n2)));have r3:=r2.relay (SetTable.grown U.size);rcases hm:relayAll t2 U (SetTable.grown U.size)with⟨b2,t3,a1⟩
  rw[hm]at r3;dsimp only at r3 ⊢;refine ez (Hg ?_ ?_)
  .cases a1
   .exact .inl rfl
   .exact .inr ⟨_,rfl⟩
  exact ez (n2.put r3 λs3 n3=>gk (gk (fin _ _ n3)))
 .rw[Z];have hk:=here.mpr (by rw[Z];rfl);rw[if_pos hk]at fin;exact gk (gk (fin _ _ now))
end
noncomputable def dd:List Int->List Int
 | []=>[]
 |k::r=>if k∈dd r then dd r else k::dd r
theorem fJ :∀{l},k∈dd l ↔ k∈l
 | []=>Iff.rfl
 |x::r=>by
  show k∈(if x∈dd r then dd r else x::dd r) ↔ _;have ih:=@fJ k r;by_cases h:x∈dd r
  .rw[if_pos h,ih,wh];exact⟨.inr,λz=>z.elim (λe=>by rw[e];exact fJ.mp h) id⟩
  .simp_all
theorem dd_nodup:∀l,(dd l).Nodup
 | []=>Li
 |x::r=>by
  show(if x∈dd r then dd r else x::dd r).Nodup;by_cases h:x∈dd r
  .rw[if_pos h];exact dd_nodup r
  .rw[if_neg h];exact Kt.mpr ⟨h,dd_nodup r⟩
theorem yH:∀l,(dd l).length<=l.length
 | []=>pb _
 |x::r=>by
  show(if x∈dd r then dd r else x::dd r).length<=_;have:=yH r
  grind
def BS(xs:List Int):(range xs.length).map (λi=>xs.getD i 0)=xs:=by
 apply Nt;intro i;by_cases q:i<xs.length
 .simp_all
 .simp_all
def But(z:List Addr)(s s':Shared):Prop:=
 ∃h' tk,s'={ s with heap:=h',toks:=tk }/\∀b o,b∉z->s.heap.get? b=some o->h'.get? b=some o
theorem But.on(x:But Y s s')(y:But vs s' J)(hs:∀b∈Y,b∈vs):But vs s J:=by
 obtain⟨h1,t1,rfl,Z⟩:=x;obtain⟨h2,t2,rfl,k2⟩:=y;exact⟨h2,t2,rfl,λb o U e=>k2 b o U (Z b o (λz=>U (hs b z)) e)⟩
section
variable{P:Program}{w:World}{A:Around}{R:Result->Shared->Prop}{I S:Addr}{fp wr:List Addr}{n:Nat}{Pv:Nat->Value->Prop}{St:Nat->Heap->Prop}
noncomputable abbrev upd (S I:Addr):Code:=.builtin "set.update.loop" ⟨[.ref S,.ref I],[]⟩
def rl (h:wpAny (model P w) A.in1 (pyNext (.ref I)) (λv s'=>match v with
   |none=>R (.ok (.ret .none)) s'
   |some x=>wpAny (model P w) A.in1 (setAdd S x) (λ_ z=>codeAny (model P w) A (upd S I) R z) (λe z=>R (.error e) z) s') (λe s'=>R (.error e) s') s) :
  codeAny (model P w) A (upd S I) R s:=by
 have J:=PyProof.Rows.F.plain_set_update_loop;apply MQ PyProof.Rows.F.entry_set_update_loop;rw[MR J];apply ez (m:=pyNext _);refine Ks h (λv s' hv=>?_) λ_ _ x=>x
 cases v with
 |none=>exact gk hv
 |some x =>
  refine ez (Kl (Ks hv (λ_ z hc=>?_) λ_ _ x=>x));exact gk ⟨MH J _,hc⟩
def add_int(g:b9 P w s.heap S ks)(room:ks.length+1<scanBound) 
  (h:∀b s',But [S] s s'->b9 P w s'.heap S (if k∈ks then ks else k::ks)->(∀b,b≠S->s'.heap.get? b=s.heap.get? b)->Q b s'):wpAny (model P w) B (setAdd S (.int k t)) Q E s:=by
 refine Kl (ez ((intKind P w).pyHash (Nn _ _ _ _) ?_));refine oT g room λh' b z g'=>h b _ ⟨h',_,rfl,λc o hc e=>?_⟩ g' λc hc=>?_
 .rw[z.2 c (by simpa using hc)];exact e
 .exact z.2 c hc
theorem va(W:Walks P w A.in1 I fp wr n Pv St)(Y:S∉fp)(xs:List Int)(hn:xs.length=n)(hv:∀i v,Pv i v->∃t,v=.int (xs.getD i 0) t)(hb:n+1<scanBound) :
  ∀m i s,i+m=n->St i s.heap->b9 P w s.heap S (dd (xs.take i).reverse)->(∀s',But (S::wr) s s'->b9 P w s'.heap S (dd xs.reverse)->R (.ok (.ret .none)) s') ->
   codeAny (model P w) A (upd S I) R s
 |0,i,s,e,st,g,h=>by
  have hi:i=n:=e;subst hi;refine rl (W.done s _ _ st λh' tk kp=>h _ ⟨h',tk,rfl,λb o J=>kp b o λz=>J (.tail _ z)⟩ ?_);rw[Nj (by omega)]at g;exact g.at λo=>kp S o λz=>Y (W.sub S z)
 |m+1,i,s,e,st,g,h=>by
  have hi:i<n:=by omega
  refine rl (W.item i s _ _ hi st λv h1 U pv Z kp=>?_);obtain⟨t,rfl⟩:=hv i v pv;have b1:But wr s { s with heap:=h1,toks:=U }:=⟨h1,U,rfl,kp⟩;have l:(dd (xs.take i).reverse).length+1<scanBound:=by
   have:=yH (xs.take i).reverse;simp at this;omega
  refine add_int (g.at λo=>kp S o λz=>Y (W.sub S z)) l λ_ s2 b2 g2 ao=>?_
  refine va W Y xs hn hv hb m _ s2 (by omega) (W.frame _ h1 _ Z λb J o e'=>?_) ?_ λs3 b3 g3=>h s3 ?_ g3
  .rw[ao b λz=>Y (z▸J)];exact e'
  .have:xs.take (i+1)=xs.take i++[xs.getD i 0]:=by
    simp_all
   rw[this,reverse_append];exact g2
  .exact(b1.on (b2.on b3 (by simp)) λb z=>.tail _ z)
end
section
variable{P:Program}{w:World}{A:Around}{E:Value->Shared->Prop}{s:Shared}
def c_(h:Q (byT w) s):wpAny (model P w) A setsByText Q E s:=
  ez (Nw (gk h))
noncomputable abbrev bt (w:World):Obj:={ cls:=.type "set",dict:=none,data:=.set #[] 0 (.fresh 0 0 (!byT w)) }
noncomputable abbrev bf(w:World)(s:Shared):Shared:={ s with heap:=s.heap.push (bt w) }
def p_ (h:Q (.ref s.heap.objs.size) (bf w s)):wpAny (model P w) A (newSet (.type "set")) Q E s:=by
 refine ez (c_ ?_);exact ez (wpAny_alloc (gk h))
def rm(h:Heap):b9 P w (h.push (bt w)) h.objs.size []:=
 Arr.set (es:=#[]) (ep:=0) ⟨λe z=>by simp at z,by simp,Li,by decide,rfl,Gd.fresh _⟩ (tr _ rfl) ⟨rfl,rfl,rfl⟩ rfl
def BT (x) {Q:Value->Shared->Prop} (h:Q (.ref s.heap.objs.size) (bf w s)):codeAny (model P w) A (.call (.builtin "set.__new__") ⟨[.type "set",x],[]⟩) (wants Q E) s:=by
 refine codeAny_call_builtin PySem.F.plain_set_new PySem.F.entry_set_new (M9 (PySem.F.newCall_set_1 x) ?_);have cls:∀{R}{F},R (.type "set",[x]) s->wpAny (model P w) A.in1 (Builtin.Frozenset.newClass "set" ⟨[.type "set",x],[]⟩) R F s:=by
  intro R F J;have z:=sub_set_self
  wp_walk
  exact J
 exact ez (cls (ez (p_ (gk h))))
def yI(x){Q:Value->Shared->Prop}
  (hU:∀B,B.handled=A.handled->wpAny (model P w) B (Builtin.Frozenset.updateFrom "set.__init__" s.heap.objs.size x) (λ_ s'=>Q (.ref s.heap.objs.size) s') E (bf w s)) :
  wpAny (model P w) A (call (.type "set") [x]) Q E s:=by
 have Y:(bf w s).heap.get? s.heap.objs.size=some (bt w):=tr _ rfl;have init:codeAny (model P w) A.in1 (.call (.builtin "set.__init__") ⟨[.ref s.heap.objs.size,x],[]⟩) (wants (λr s'=>r=.none/\Q (.ref s.heap.objs.size) s') E) (bf w s):=by
  refine codeAny_call_builtin PySem.F.called_set.init.plain PySem.F.entry_set_init (check_set_init_1 ⟨_,Y,rfl⟩ ?_);have hu:=hU A.in1.in1 (by simp);generalize hw:bf w s=s1 at Y hu ⊢;generalize s.heap.objs.size=S at Y hu ⊢;obtain⟨hp,g,d,tk,os⟩:=s1;unfold Builtin.«set.__init__» noKeywords;generalize Builtin.Frozenset.updateFrom=U at hu ⊢
  wp_walk
  exact Ks hu (λ_ s' hq=>gk ⟨rfl,hq⟩) λ_ _ z=>z
 have Z:=PySem.F.called_set;refine wpAny_call (codeAny_of_tree (gk ⟨Code.quiet_builtin _ (by decide +kernel),MQ PySem.F.entry_type_call ?_⟩));rw[Around.under_plain (weight_type_call_type "set" [x] []) rfl];have f1:=Z.notType;have f2:=Z.canCreate;have f3:=Z.made;have f4:=Z.sub
 have f5:=PySem.F.typeCall_set_1 x;obtain⟨c,tl,f6⟩:=Z.mro
 repeat (any_goals (first|assumption|wp_step))
 refine L0 (BT x (E:=E) (Q:=λv s'=>v=.ref s.heap.objs.size/\s'=bf w s) ⟨rfl,rfl⟩) λr s1 J=>?_
 match r,J with
 | .error e,J=>exact J
 | .ok (.ret v),J =>
  obtain⟨rfl,rfl⟩:=J;have f7:Shared.TypeIs (bf w s) (.ref s.heap.objs.size) "set":=⟨_,Y,rfl⟩;have f8:=Z.init.lookup;have f9:=Z.init.bind (.ref s.heap.objs.size)
  repeat (any_goals (first|assumption|wp_step))
  refine L0 init λr s2 J=>?_
  match r,J with
  | .error e,J=>exact J
  | .ok (.ret v),J =>
   obtain⟨rfl,hq⟩:=J;show wpAny _ A.in1 (pure (some Value.none)) _ _ _;exact gk (gk hq)
def mE {o:Obj} (x:s.heap.get? l=some o) (hc:o.cls=.type z) (hd:(Value.type z==.type "dict")=false)
  (U:isSubtype (.type z) (.type "set")=pure false) (Y:isSubtype (.type z) (.type "frozenset")=pure false)
  {ns:List Int}{Pv:Nat->Value->Prop}{St:Nat->Heap->Prop} (hv:∀i v,Pv i v->∃t,v=.int (ns.getD i 0) t) (J:ns.length+1<scanBound) {Z:Obj}
  (W:∀B,B.handled=A.handled->Walks P w B ((bf w s).heap.objs.size) [(bf w s).heap.objs.size,l] [(bf w s).heap.objs.size] ns.length Pv St)
  (it:∀B E' R,R (.ref (bf w s).heap.objs.size) { s with heap:=(bf w s).heap.push Z }->wpAny (model P w) B (pyIter (.ref l)) R E' (bf w s))
  (st:St 0 ((bf w s).heap.push Z)) {Q:Value->Shared->Prop}
  (h:∀h' tk,b9 P w h' s.heap.objs.size (dd ns.reverse)->(∀b o,s.heap.get? b=some o->h'.get? b=some o)->Q (.ref s.heap.objs.size) { s with heap:=h',toks:=tk }) :
  wpAny (model P w) A (call (.type "set") [.ref l]) Q E s:=by
 have z1:(bf w s).heap.objs.size=s.heap.objs.size+1:=Kf ..;have ao:∀b,b<s.heap.objs.size->b∉[s.heap.objs.size,(bf w s).heap.objs.size]:=λb J=>by
  rw[z1];simp only[wh,Lk,Mc,not_or];exact⟨JW J,JW (Ko J)⟩
 have kept:∀b o,s.heap.get? b=some o->((bf w s).heap.push Z).get? b=some o:=λb o e=>iA _ (iA _ e)
 refine yI _ λB hB=>?_
 have hT:(bf w s).TypeIs (.ref l) z:=⟨o,iA _ x,hc⟩;unfold Builtin.Frozenset.updateFrom Builtin.Frozenset.isAnySet;refine ez (ez (KY hT U ?_));show wpAny _ _ (isInstance (.ref l) (.type "frozenset")) _ _ _;refine KY hT Y ?_;rw[if_neg pd];refine ez (L3 hT ?_);rw[hd,if_neg pd];refine ez (it _ _ _ (ez (wpAny_runValue ?_)));have hS:s.heap.objs.size∉[(bf w s).heap.objs.size,l]:=by
  have:=tf x;rw[z1];simp only[wh,Lk,Mc,not_or];exact⟨JW (LG _),KS this⟩
 refine va (W _ (by simpa using hB)) hS ns rfl hv J ns.length 0 _ (by omega) st ((rm s.heap).at λo e=>iA _ e) ?_;rintro s' ⟨h',tk,rfl,kp⟩ g;exact gk (h h' tk g λb o e=>kp b o (ao b (tf e)) (kept b o e))
def set_list 
  (U:A.handled=none) (Y:s.heap.IsList l items) (hi:IntsAre items.toList ns) (Z:items.size+1<scanBound)
  (h:∀h' tk,b9 P w h' s.heap.objs.size (dd ns.reverse)->(∀b o,s.heap.get? b=some o->h'.get? b=some o)->Q (.ref s.heap.objs.size) { s with heap:=h',toks:=tk }) :
  wpAny (model P w) A (call (.type "set") [.ref l]) Q E s:=by
 have z:items.size=ns.length:=by simpa using IntsAre.length hi
 obtain⟨o,ho,hc,hr⟩:=Y;have J:(bf w s).heap.IsList l items:=⟨o,iA _ ho,hc,hr⟩;refine mE ho hc (by decide) PySem.F.sub_list_set PySem.F.sub_list_frozenset (lQ hi) (z▸Z) (λB hB=>z▸Walks.list (hB.trans U) _ l ?_ items)
  (λB E' R=>LU J) ⟨⟨_,tr _ rfl,rfl,rfl⟩,J.push _⟩ h
 exact JW (Nat.lt_of_lt_of_eq (Ko (tf ho)) (Kf ..).symm)
def wR 
  (U:A.handled=none) (Y:s.heap.IsTuple l items) (hi:IntsAre items.toList ns) (Z:items.size+1<scanBound)
  (h:∀h' tk,b9 P w h' s.heap.objs.size (dd ns.reverse)->(∀b o,s.heap.get? b=some o->h'.get? b=some o)->Q (.ref s.heap.objs.size) { s with heap:=h',toks:=tk }) :
  wpAny (model P w) A (call (.type "set") [.ref l]) Q E s:=by
 have z:items.size=ns.length:=by simpa using IntsAre.length hi
 obtain⟨o,ho,hc,hr⟩:=Y;have J:(bf w s).heap.IsTuple l items:=⟨o,iA _ ho,hc,hr⟩;refine mE ho hc (by decide) PySem.F.sub_tuple_set PySem.F.sub_tuple_frozenset (lQ hi) (z▸Z) (λB hB=>z▸Walks.tuple (hB.trans U) _ l ?_ items)
  (λB E' R=>Mp J) ⟨⟨_,tr _ rfl,rfl,rfl⟩,J.push _⟩ h
 exact JW (Nat.lt_of_lt_of_eq (Ko (tf ho)) (Kf ..).symm)
end
set_option maxRecDepth 100000 in
def mF:entryFor table "set.__iter__"=some Builtin.«frozenset.__iter__»:=
 entryFor_alias (id':="frozenset.__iter__") (by kernel_rfl) rfl (by decide +kernel) (by kernel_rfl)
set_option maxRecDepth 100000 in
def oU:Manifest.owners.lookup (String.ofList ['r','o','t','a','r','e','t','i','_','t','e','s'].reverse)=some Manifest.sig_set_iterator:=by kernel_rfl
set_option maxRecDepth 100000 in
def aT:Slot "set_iterator" "__next__" "set_iterator.__next__":=
 .of (owner:="set_iterator") (n:="__next__") (by rw[MT,L6];kernel_rfl) (by decide +kernel) (by decide +kernel) (by decide +kernel)
  (by first|exact .inl (by decide +kernel)|exact .inr (by decide +kernel)) (by rw[M6];kernel_rfl)
set_option maxRecDepth 100000 in
def dj:entryFor table "set_iterator.__next__"=some Builtin.«set_iterator.__next__»:=entryFor_of_tree (by kernel_rfl)
set_option maxRecDepth 100000 in
def dL (a):argsOk "set_iterator.__next__" ⟨[a],[]⟩:=by
 unfold argsOk;rw[signature?_of (n:=['_','_','t','x','e','n','_','_']) (by kernel_rfl) oU];kernel_rfl
set_option maxRecDepth 100000 in
def i5:Slot "set_iterator" "__iter__" "set_iterator.__iter__":=
 .of (owner:="set_iterator") (n:="__iter__") (by rw[MT,L6];kernel_rfl) (by decide +kernel) (by decide +kernel) (by decide +kernel)
  (by first|exact .inl (by decide +kernel)|exact .inr (by decide +kernel)) (by rw[M6];kernel_rfl)
set_option maxRecDepth 100000 in
def mG:entryFor table "set_iterator.__iter__"=some Builtin.«dict_keyiterator.__iter__»:=
 entryFor_alias (id':="dict_keyiterator.__iter__") (by kernel_rfl) rfl (by decide +kernel) (by kernel_rfl)
set_option maxRecDepth 100000 in
def oA (a):argsOk "set_iterator.__iter__" ⟨[a],[]⟩:=by
 unfold argsOk;rw[signature?_of (n:=['_','_','r','e','t','i','_','_']) (by kernel_rfl) oU];kernel_rfl
def yJ {s:Shared}{I:Addr}{Q:Value->Shared->Prop} (z:s.TypeIs (.ref I) "set_iterator") (h:Q (.ref I) s):wpAny (model P w) A (pyIter (.ref I)) Q E s:=by
 refine Nk z i5 (Kk i5 z mG ?_ (oA _));exact gk ⟨_,rfl,"set_iterator",_,z,aT.lookup,h⟩
theorem gG{α:Type}:∀{l}{i}{x:α},l[i]?=some x->(x::l.eraseIdx i).Perm l
 | [],i,x,h=>by simp at h
 |a::l,0,x,h=>by
  simp_all
 |a::l,i+1,x,h=>by
  have h':l[i]?=some x:=by simpa using h
  exact(Perm.swap a x _).trans (.cons a (gG h'))
theorem vb(next):∀z k left (out:Array α),z=left.length->(pickOrder.go next z k left out).toList.Perm (out.toList++left)
 |0,k,left,out,h=>by
  have:=J6.mp h.symm;subst this;rw[Le];exact .refl _
 |z+1,k,left,out,h=>by
  have J:next k % left.length<left.length:=NC _ (by omega);obtain⟨x,hx⟩:∃x,left[next k % left.length]?=some x:=⟨_,J1 J⟩;have e:pickOrder.go next (z+1) k left out=pickOrder.go next z (k+1) (left.eraseIdx (next k % left.length)) (out.push x):=by
   show(match left[next k % left.length]? with
    |some x=>pickOrder.go next z _ _ _
    |none=>out)=_
   rw[hx]
  rw[e];refine(vb next z _ _ _ (by rw[L7 J];omega)).trans ?_;rw[Array.toList_push,KZ];exact Perm.append_left _ (gG hx)
def oV(next)(xs:Array α):(pickOrder next xs).toList.Perm xs.toList:=by
 have:=vb next xs.size 0 xs.toList #[] (by simp);simpa[pickOrder]using this
section
variable{M:Model}{A:Around}{E:Value->Shared->Prop}{s:Shared}
def tJ{n:Nat}{Q:Nat->Shared->Prop}(z:n≠0)(h:∀i d',i<n->Q i { s with drawn:=d' }):wpAny M A (choose src n) Q E s:=λ_ _ _ =>
 ⟨z,h _ _ (NC _ (Nat.pos_of_ne_zero z))⟩
theorem jf :∀n xs s {Q:List α->Shared->Prop},n=xs.length->(∀ys d',ys.Perm xs->Q ys { s with drawn:=d' })->wpAny M A (drawOrder n xs) Q E s
 |0,xs,s,Q,h,q=>by
  have:=J6.mp h.symm;subst this;exact gk (q [] s.drawn (.refl _))
 |n+1,[],s,Q,h,q=>by simp at h
 |n+1,x::r,s,Q,h,q=>by
  refine ez (tJ (by simp) λi d' hi=>?_);obtain⟨y,J⟩:∃y,(x::r)[i]?=some y:=⟨_,J1 hi⟩;rw[J];refine ez (jf n _ _ (by rw[L7 hi];simp at h ⊢;omega) λys z U=>gk ?_);exact q (y::ys) z ((Perm.cons y U).trans (gG J))
end
def SIt(h:Heap)(I S:Addr)(o:Obj)(f:Value)(i n ep:Nat):Prop:=
 h.get? I=some { cls:=.type "set_iterator",dict:=none,data:=.fields #[f,.int i 0,.ref S,.int n 0,.int ep 0],slots:=#[] }/\h.get? S=some o
theorem SIt.type {s:Shared} (h:SIt s.heap I S o f i n ep):s.TypeIs (.ref I) "set_iterator":=⟨_,h.1,rfl⟩
section
variable{P:Program}{w:World}{A:Around}{E:Value->Shared->Prop}{s:Shared}
def eT(ho:s.heap.get? S=some o)(hd:o.data=.set es ep t)(z:t.fits es.size=true)(h:Q es s) :
  wpAny (model P w) A (setEntries S) Q E s:=M3 ho hd z h
def oW{ep slot i:Nat}{t:SetTable}{Q:Option (Value×Nat)->Shared->Prop}(ho:s.heap.get? S=some o)(hd:o.data=.set es ep t)(z:t.fits es.size=true)(J:byT w=true)
  (h:Q (((pickOrder (w.params.setOrder S ep) es)[i]?).map λe=>(e.2,slot)) s):wpAny (model P w) A (setNext S slot i ep) Q E s:=by
 unfold setNext;refine ez (Kb ho hd z ?_);dsimp only;refine ez (c_ ?_);rw[if_pos J];simp only[LX,J5,KU];refine ez ?_;unfold setWalk;refine ez (Kb ho hd z ?_);dsimp only;refine ez (c_ ?_);rw[if_pos J];refine ez (Nw (gk ?_));exact gk h
def mH{t:SetTable}{Q:Option (Value×Nat)->Shared->Prop}(ho:s.heap.get? S=some o)(hd:o.data=.set es ep t)(Y:t.fits es.size=true)(Z:byT w=false)
  (J:(!t.plain&&decide (es.size > 1))=false) (z:t.led=true)
  (h:Q (match es[SetTable.below t.place slot]?,t.place[SetTable.below t.place slot]? with|some (_,x),some j=>some (x,j+1)|_,_=>none) s):wpAny (model P w) A (setNext S slot i ep) Q E s:=by
 unfold setNext;refine ez (Kb ho hd Y ?_);dsimp only;refine ez (c_ ?_);rw[if_neg (by rw[Z];simp)];refine Ke (λU=>absurd (show(!t.plain&&decide (es.size > 1))=true from U) (by rw[J];simp)) (λ_=>?_);refine ez ?_;show wpAny _ _ (if (!t.led&&!es.isEmpty)=true then _ else _) _ _ s;rw[if_neg (by rw[z];simp)];exact gk (gk h)
def yK(z:oq xs)(hi:i<xs.size):SetTable.below xs (xs.getD i 0+1)=i+1:=by
 obtain⟨h1,h2,J⟩:=jd z _;have a:i<SetTable.below xs (xs.getD i 0+1):=by
  by_cases q:SetTable.below xs (xs.getD i 0+1)<=i
  .have:=J i q hi;omega
  .omega
 have b:SetTable.below xs (xs.getD i 0+1)<=i+1:=by
  by_cases q:i+1<SetTable.below xs (xs.getD i 0+1)
  .have:=h2 _ q;have:=z i (i+1) (by omega) (by omega);omega
  .omega
 omega
def tK(xs)(z:oq xs):SetTable.below xs 0=0:=by
 obtain⟨h1,h2,J⟩:=jd z 0;by_cases q:0<SetTable.below xs 0
 .have:=h2 0 q;omega
 .omega
end
section
variable{P:Program}{w:World}{A:Around}{E:Value->Shared->Prop}{s:Shared}{I S:Addr}{o:Obj}{es:Array (Int×Value)}{t:SetTable}{i n ep:Nat}
def oB{slot nx:Nat}{x:Value}{Q:Option Value->Shared->Prop}(z:SIt s.heap I S o (.int slot 0) i n ep)(hd:o.data=.set es ep t)(hf:t.fits es.size=true)(hn:es.size=n)(Y:S≠I)
  (Z:∀A' s' Q' E',s'.heap.get? S=some o->Q' (some (x,nx)) s'->wpAny (model P w) A' (setNext S slot i ep) Q' E' s')
  (hQ:∀h',SIt h' I S o (.int nx 0) (i+1) n ep->Heap.SameBut I s.heap h'->Q (some x) { s with heap:=h' }):wpAny (model P w) A (pyNext (.ref I)) Q E s:=by
 unfold pyNext;refine ez (MI (KC (name:=Str.ofString "__next__") z.type aT (Kk aT z.type dj ?_ (dL _))));unfold Builtin.«set_iterator.__next__»;refine ez (m:=slotArgs "__next__" 0 _) (gk ?_);refine ez (M7 z.1 rfl ?_);dsimp only;refine ez (eT z.2 hd hf ?_);rw[if_neg (by simp[hn])]
 try dsimp only
 simp only[Int.toNat_natCast];refine ez (Z _ _ _ _ z.2 ?_);dsimp only;refine ez (Lo z.1 (by simp) λh1 e1 J=>?_);refine ez (Lo e1 (by simp) λh2 e2 U=>?_);refine gk ⟨x,rfl,gk (hQ h2 ⟨?_,?_⟩ (J.trans U))⟩
 .simpa[rawInt]using e2
 .exact((J.trans U).2 S Y).trans z.2
def oC{slot:Nat}{Q:Option Value->Shared->Prop}(Y:A.handled=none)(z:SIt s.heap I S o (.int slot 0) i n ep)(hd:o.data=.set es ep t)(hf:t.fits es.size=true)(hn:es.size=n)
  (J:∀A' s' Z E',s'.heap.get? S=some o->Z none s'->wpAny (model P w) A' (setNext S slot i ep) Z E' s')
  (hQ:∀h',(∀b o,b≠I->s.heap.get? b=some o->h'.get? b=some o)->Q none { s with heap:=h' }):wpAny (model P w) A (pyNext (.ref I)) Q E s:=by
 unfold pyNext;refine ez (MI (KC (name:=Str.ofString "__next__") z.type aT (Kk aT z.type dj ?_ (dL _))));unfold Builtin.«set_iterator.__next__»;refine ez (m:=slotArgs "__next__" 0 _) (gk ?_);refine ez (M7 z.1 rfl ?_);dsimp only;refine ez (eT z.2 hd hf ?_);rw[if_neg (by simp[hn])]
 try dsimp only
 simp[Int.toNat_natCast];refine ez (J _ _ _ _ z.2 ?_);dsimp only;refine ez (Lo z.1 (by simp) λh1 e1 U=>?_);refine kC (v:=.none) (vs:=#[]) (it:=0) (Q:=λ_ _=>True) (by first|exact Y|simpa using Y) λe s' kp ⟨h',eq⟩ hT=>?_
 subst eq;refine ez (KY hT isSubtype_stop ?_);exact gk (hQ h' λb o hb q=>kp b o ((U.2 b hb).trans q))
def mI{pn place:Nat}{pt:Tok}{hx:Int}{x:Value}{Q:Option Value->Shared->Prop}(z:SIt s.heap I S o (.ref Tp) i n ep)(hd:o.data=.set es ep t)(hf:t.fits es.size=true)(hn:es.size=n)(U:S≠I)
  (Y:s.heap.get? Tp=some ot) (Z:ot.data=.seq ps pn) (hp:ps[i]?=some (.int place pt)) (ao:es[place]?=some (hx,x))
  (hQ:∀h',SIt h' I S o (.ref Tp) (i+1) n ep->Heap.SameBut I s.heap h'->Q (some x) { s with heap:=h' }):wpAny (model P w) A (pyNext (.ref I)) Q E s:=by
 unfold pyNext;refine ez (MI (KC (name:=Str.ofString "__next__") z.type aT (Kk aT z.type dj ?_ (dL _))));unfold Builtin.«set_iterator.__next__»;refine ez (m:=slotArgs "__next__" 0 _) (gk ?_);refine ez (M7 z.1 rfl ?_);dsimp only;refine ez (eT z.2 hd hf ?_);rw[if_neg (by simp[hn])]
 try dsimp only
 refine ez (wpAny_seqItems Y Z ?_);dsimp only;simp only[Int.toNat_natCast,hp];refine ez ?_;unfold setNextDrawn;refine ez (Kb z.2 hd hf ?_);dsimp only;simp only[LX,J5,KU,Int.toNat_natCast,ao];refine gk ?_;refine ez (Lo z.1 (by simp) λh1 e1 J=>?_);refine gk ⟨x,rfl,gk (hQ h1 ⟨?_,?_⟩ J)⟩
 .simpa[rawInt]using e1
 .exact(J.2 S U).trans z.2
def mJ(hh:A.handled=none)(z:SIt s.heap I S o (.ref Tp) i n ep)(hd:o.data=.set es ep t)(hf:t.fits es.size=true)(hn:es.size=n)
  (J:s.heap.get? Tp=some ot) (U:ot.data=.seq ps pn) (hp:ps[i]?=none)
  (hQ:∀h',(∀b o,b≠I->s.heap.get? b=some o->h'.get? b=some o)->Q none { s with heap:=h' }):wpAny (model P w) A (pyNext (.ref I)) Q E s:=by
 refine ez (MI (KC z.type aT (Kk aT z.type dj ?_ (dL _))));refine ez (gk ?_);refine ez (M7 z.1 rfl ?_);dsimp only;refine ez (eT z.2 hd hf ?_);rw[if_neg (by simp[hn])]
 try dsimp only
 refine ez (wpAny_seqItems J U ?_);simp[Int.toNat_natCast,hp];refine ez (Lo z.1 (by simp) λh1 e1 Y=>?_);refine ez (Lo e1 (by simp) λh2 e2 Z=>?_);refine kC (v:=.none) (vs:=#[]) (it:=0) (Q:=λ_ _=>True) (by first|exact hh|simpa using hh) λe s' kp ⟨h',eq⟩ hT=>?_
 subst eq;refine ez (KY hT isSubtype_stop ?_);exact gk (hQ h' λb o hb q=>kp b o (((Y.trans Z).2 b hb).trans q))
end
structure qa(P:Program)(w:World)(I:Addr)(fp:List Addr)(order:List Int)(St:Nat->Heap->Prop):Prop where
 mem:I∈fp
 ty:∀i h,St i h->∃o,h.get? I=some o/\o.cls=.type "set_iterator"
 frame:∀i h h',St i h->(∀b∈fp,∀o,h.get? b=some o->h'.get? b=some o)->St i h'
 item:∀(A:Around) i (s:Shared) (Q:Option Value->Shared->Prop) (E:Value->Shared->Prop),i<order.length->St i s.heap ->
  (∀t h',St (i+1) h'->(∀b o,b≠I->s.heap.get? b=some o->h'.get? b=some o)->Q (some (.int (order.getD i 0) t)) { s with heap:=h' })->wpAny (model P w) A (pyNext (.ref I)) Q E s
 done:∀(A:Around) (s:Shared) (Q:Option Value->Shared->Prop) (E:Value->Shared->Prop),A.handled=none->St order.length s.heap ->
  (∀h',(∀b o,b≠I->s.heap.get? b=some o->h'.get? b=some o)->Q none { s with heap:=h' })->wpAny (model P w) A (pyNext (.ref I)) Q E s
def qa.walks{St:Nat->Heap->Prop}(W:qa P w I fp order St)(Z:A.handled=none) :
  Walks P w A I fp [I] order.length (λi v=>∃t,v=.int (order.getD i 0) t) St where
 sub:=λb J=>by rw[J8.mp J];exact W.mem
 frame:=W.frame
 item:=λi s Q E hi st U=>W.item A i s Q E hi st λt h' Y kp=>U _ h' s.toks ⟨t,rfl⟩ Y λb o J e=>kp b o (λz=>J (by rw[z];exact J8.mpr rfl)) e
 done:=λs Q E st U=>W.done A s Q E Z st λh' kp=>U h' s.toks λb o J e=>kp b o (λz=>J (by rw[z];exact J8.mpr rfl)) e
 self:=λi s Q E st h=>by
  obtain⟨o,e,c⟩:=W.ty i _ st;exact yJ ⟨o,e,c⟩ h
section
variable{P:Program}{w:World}{A:Around}{E:Value->Shared->Prop}{s:Shared}
def jH{l:List (Int×Value)}(h:l[i]?=some e):(l.map λe=>numOf e.2).getD i 0=numOf e.2:=by simp_all
set_option maxRecDepth 100000 in
def yL(g:b9 P w s.heap S ks)
  (hQ:∀(I:Addr) h' d' fp J St,J.Perm ks->(∀b o,s.heap.get? b=some o->h'.get? b=some o)->s.heap.objs.size<=I->(∀b∈fp,b=S\/s.heap.objs.size<=b)->(∀b∈fp,b<h'.objs.size) ->
   qa P w I fp J St->St 0 h'->Q (.ref I) { s with heap:=h',drawn:=d' }):wpAny (model P w) A (pyIter (.ref S)) Q E s:=by
 obtain⟨o,es,ep,t,ho,cL,hd,cu,b1,c6,hb,Z,b2⟩:=g;have hT:s.TypeIs (.ref S) "set":=⟨o,ho,cL.1⟩;have ar:=tf ho;have cP:t.place.size=es.size:=by simp[SetTable.fits]at Z;exact Z.1
 have c5:es.size=ks.length:=by have:=b1.length_eq;simpa using this
 refine Nk hT PySem.F.slot_set_iter (Kk PySem.F.slot_set_iter hT mF ?_ (PySem.F.args_set_iter_1 _));unfold Builtin.«frozenset.__iter__»;refine ez (m:=Builtin.Frozenset.slot0 "__iter__" _) (gk ?_);refine ez (m:=Builtin.Frozenset.sizeOf S) (ez (eT ho hd Z (gk ?_)));refine ez (m:=setDrawn S) ?_;unfold setDrawn;refine ez (Kb ho hd Z ?_);dsimp only;refine ez (c_ (gk ?_));have Y:∀(J:List (Int×Value)) (fs:Nat->Nat),J.Perm es.toList->fs 0=0 ->
   (∀A' i (s':Shared) (Q':Option (Value×Nat)->Shared->Prop) (E':Value->Shared->Prop) e,J[i]?=some e->s'.heap.get? S=some o->Q' (some (e.2,fs (i+1))) s'->wpAny (model P w) A' (setNext S (fs i) i ep) Q' E' s') ->
   (∀A' s' Q' E',s'.heap.get? S=some o->Q' none s'->wpAny (model P w) A' (setNext S (fs J.length) J.length ep) Q' E' s') ->
   Q (.ref s.heap.objs.size) { s with heap:=s.heap.push { cls:=.type "set_iterator",data:=.fields #[.int 0 0,.int 0 0,.ref S,.int (es.size:Nat) 0,.int (ep:Nat) 0] } }:=by
  intro J fs hp h0 b3 cA;have hol:J.length=es.size:=by have:=hp.length_eq;simpa using this
  refine hQ s.heap.objs.size _ s.drawn [s.heap.objs.size,S] (J.map λe=>numOf e.2) (λi h=>SIt h s.heap.objs.size S o (.int (fs i) 0) i es.size ep) ((hp.map _).trans b1) (λb o e=>iA _ e) (pb _) (λb hb=>?_) (λb hb=>?_) ?_ ?_
  .rcases wh.mp hb with e|e
   .exact .inr (L4 e.symm)
   .exact .inl (J8.mp e)
  .rw[Kf];rcases wh.mp hb with e|e
   .rw[e];exact LG _
   .rw[J8.mp e];exact Ko ar
  .refine⟨.head _,λi h st=>⟨_,st.1,rfl⟩,λi h h' st k=>⟨k _ (.head _) _ st.1,k _ (.tail _ (.head _)) _ st.2⟩,λA' i s' Q' E' hi st hq=>?_,λA' s' Q' E' hh st hq=>?_⟩
   .rw[p0]at hi;obtain⟨e,he⟩:∃e,J[i]?=some e:=⟨_,J1 hi⟩;have hm:=hp.mem_iff.mp (Lq he);obtain⟨tk,hv⟩:=eM cu e hm;rw[jH he]at hq;refine oB (slot:=fs i) (nx:=fs (i+1)) (x:=e.2) st hd Z rfl (JW ar) (λb4 b5 cd ck a4 q=>b3 b4 i b5 cd ck e he a4 q) λh' cl sb=>?_
    rw[hv];exact hq tk h' cl λb o hb q=>(sb.2 b hb).trans q
   .rw[p0]at st;exact oC (slot:=fs J.length) hh st hd Z rfl (λb4 b5 cd ck a4 q=>cA b4 b5 cd ck a4 q) hq
  .refine⟨?_,iA _ ho⟩;rw[h0];exact tr _ rfl
 cases a5:byT w with
 |true =>
  simp only[Mg,M5,J5,KU];refine ez (gk ?_);refine ez (Lw ho hd Z ?_);refine ez (Kz (gk ⟨_,rfl,"set_iterator",_,⟨_,tr _ rfl,rfl⟩,aT.lookup,?_⟩));have q:=Y (pickOrder (w.params.setOrder S ep) es).toList (λ_=>0) (oV _ _) rfl
   (λA' i s' Q' E' e he ao q=>oW ao hd Z a5 (by rw[<- Ky,he];exact q))
   (λA' s' Q' E' ao q=>oW ao hd Z a5 (by rw[LS (by simp)];exact q))
  simpa[rawInt]using q
 |false =>
  cases bB:(!t.plain&&decide (es.size > 1))with
  |false =>
   refine Ke (λcr=>absurd (show(!false&&(!t.plain&&decide (es.size > 1)))=true from cr) (by rw[bB];simp)) (λ_=>?_);refine ez (gk ?_);refine ez (Lw ho hd Z ?_);refine ez (Kz (gk ⟨_,rfl,"set_iterator",_,⟨_,tr _ rfl,rfl⟩,aT.lookup,?_⟩));have b0:t.led=true:=by rw[b2.led,a5];rfl
   have cB:∀i,i<=t.place.size->SetTable.below t.place (match i with|0=>0|j+1=>t.place.getD j 0+1)=i:=λi hi=>by
    cases i<;>first|exact tK _ b2.rise|exact yK b2.rise (by omega)
   have q:=Y es.toList (λi=>match i with|0=>0|j+1=>t.place.getD j 0+1) (.refl _) rfl
    (λA' i s' Q' E' e he ao q=>mH ao hd Z a5 bB b0 (by
     have hi:i<es.size:=by have:=(G1.mp he).1;simpa using this
     rw[cB i (by omega)];rw[<- Ky,he,Mo (by omega:i<t.place.size)];have e2:t.place.getD i 0=t.place[i]:=by simp[Array.getD,(by omega:i<t.place.size)]
     dsimp only at q ⊢;rw[e2]at q;exact q))
    (λA' s' Q' E' ao q=>mH ao hd Z a5 bB b0 (by
     rw[cB _ (by simp[cP]),LS (by simp)];exact q))
   simpa[rawInt]using q
  |true =>
   refine Ke (λ_=>?_) (λcr=>absurd (show(!false&&(!t.plain&&decide (es.size > 1)))=true by rw[bB];rfl) cr);refine ez (jf _ _ _ (by simp) λz d' U=>?_);refine ez (wpAny_newTuple ?_ (by simp;have:=U.length_eq;simp at this;rw[this,KG];unfold scanBound at hb;omega));refine ez (Lw (iA _ ho) hd Z ?_);refine ez (Kz (gk ⟨_,rfl,"set_iterator",_,⟨_,tr _ rfl,rfl⟩,aT.lookup,?_⟩));have dr:z.length=es.size:=by have:=U.length_eq;simpa using this
   have c0:∀p∈z,p<es.size:=λp hp=>by have:=U.mem_iff.mp hp;simpa using this
   have c1:((s.heap.push { cls:=.type "tuple",data:=.seq (map (λ(i:Nat)=>rawInt i) z).toArray }).push { cls:=.type "set_iterator",data:=.fields #[.ref s.heap.objs.size,.int 0 0,.ref S,.int (es.size:Nat) 0,.int (ep:Nat) 0] }).get? s.heap.objs.size=some { cls:=.type "tuple",data:=.seq (map (λ(i:Nat)=>rawInt i) z).toArray }:=
    iA _ (tr _ rfl)
   have q:=hQ (s.heap.push { cls:=.type "tuple",data:=.seq (map (λ(i:Nat)=>rawInt i) z).toArray }).objs.size
    ((s.heap.push { cls:=.type "tuple",data:=.seq (map (λ(i:Nat)=>rawInt i) z).toArray }).push { cls:=.type "set_iterator",data:=.fields #[.ref s.heap.objs.size,.int 0 0,.ref S,.int (es.size:Nat) 0,.int (ep:Nat) 0] }) d'
    [(s.heap.push { cls:=.type "tuple",data:=.seq (map (λ(i:Nat)=>rawInt i) z).toArray }).objs.size,S,s.heap.objs.size]
    (z.map λp=>(es.toList.map λe=>numOf e.2).getD p 0)
    (λi h=>SIt h (s.heap.push { cls:=.type "tuple",data:=.seq (map (λ(i:Nat)=>rawInt i) z).toArray }).objs.size S o (.ref s.heap.objs.size) i es.size ep/\h.get? s.heap.objs.size=some { cls:=.type "tuple",data:=.seq (map (λ(i:Nat)=>rawInt i) z).toArray })
    ?p1 (λb o e=>iA _ (iA _ e)) (by rw[Kf];exact LA _) ?p2 ?p3 ?p4 ⟨⟨tr _ rfl,iA _ (iA _ ho)⟩,c1⟩
   .simpa[rawInt]using q
   case p1 =>
    have e1:(es.toList.map λe=>numOf e.2).length=es.size:=by simp
    have h1:=U.map λp=>(es.toList.map λe=>numOf e.2).getD p 0
    rw[<- e1,BS]at h1;exact h1.trans b1
   case p2 =>
    simp_all
   case p3 =>
    intro b hb;rw[Kf];simp only[wh,Lk,Mc]at hb;rcases hb with e|e|e
    .rw[e];exact LG _
    .rw[e,Kf];exact Ko (Ko ar)
    .rw[e,Kf];exact Ko (LG _)
   case p4 =>
    refine⟨.head _,λi h st=>⟨_,st.1.1,rfl⟩,λi h h' st k=>⟨⟨k _ (.head _) _ st.1.1,k _ (.tail _ (.head _)) _ st.1.2⟩,k _ (.tail _ (.tail _ (.head _))) _ st.2⟩,λA' i s' Q' E' hi st hq=>?_,λA' s' Q' E' hh st hq=>?_⟩
    .rw[p0]at hi;obtain⟨p,hp⟩:∃p,z[i]?=some p:=⟨_,J1 hi⟩;have c2:=c0 p (Lq hp);obtain⟨e,he⟩:∃e,es.toList[p]?=some e:=⟨_,J1 (by simpa using c2)⟩;obtain⟨tk,hv⟩:=eM cu e (Lq he);have e3:(z.map λp=>(es.toList.map λe=>numOf e.2).getD p 0).getD i 0=numOf e.2:=by
      rw[Lr,Kc,hp];exact jH he
     rw[e3]at hq;refine mI (place:=p) (pt:=0) (hx:=e.1) (x:=e.2) st.1 hd Z rfl (by rw[Kf];exact JW (Ko ar)) st.2 rfl (by simp[hp,rawInt]) (by rw[<- Ky,he]) λh' cl sb=>?_
     rw[hv];exact hq tk h' ⟨cl,(sb.2 _ (by rw[Kf];exact JW (LG _))).trans st.2⟩ λb o hb q=>(sb.2 b hb).trans q
    .rw[p0]at st;exact mJ hh st.1 hd Z rfl st.2 rfl (by simp) hq
def yM (U:s.TypeIs (.ref r) "set") (h:Q false s):wpAny (model P w) A (Builtin.List.listLengthHint (.ref r)) Q E s:=by
 unfold Builtin.List.listLengthHint;refine ez (MO U PySem.F.slot_set_len.lookup ?_);generalize J:("set.__len__":String)=Y
 wp_delta
 rw[show splitId Y=some ("set","__len__")from by subst J;decide +kernel];subst J;refine ez (KY (T:="set") (b:=true) U (by rw[M6];kernel_rfl) ?_);refine Ke (λz=>absurd z (by decide)) (λ_=>?_);refine Ke (λ_=>?_) (λz=>absurd (by decide +kernel) z);refine ez (L3 U ?_);exact gk h
set_option maxRecDepth 100000 in
def rn(hh:A.handled=none)(g:b9 P w s.heap S ks)
  (h:∀h' tk d' a3 J,(∀b o,s.heap.get? b=some o->h'.get? b=some o)->J.Perm ks->IntsAre a3 J->R a3 { s with heap:=h',toks:=tk,drawn:=d' }) :
  wpAny (model P w) A (collect (.ref S)) R E s:=by
 have b4:ks.length<scanBound:=by
  obtain⟨o,es,ep,t,ho,a4,hd,cS,hp,hn,hb,_⟩:=g;have:=hp.length_eq
  simp_all
 have Y:S<s.heap.objs.size:=by
  obtain⟨o,es,ep,t,ho,_⟩:=g;exact tf ho
 unfold collect;refine ez (wpAny_runValue (MQ entry_proto_collect' ?_));rw[MR PySem.F.plain_proto_collect _];show wpAny _ A.in1 (newList [] >>= λl=>again (.builtin "list.__iadd__" ⟨[l,.ref S],[]⟩)) _ _ s;refine ez (Kz ?_);refine gk ⟨MH PySem.F.plain_list_iadd _,MQ entry_list_iadd' ?_⟩;rw[MR PySem.F.plain_list_iadd _];have b5:(s.heap.push { cls:=.type "list",data:=.seq ([]:List Value).toArray }).get? s.heap.objs.size=some { cls:=.type "list",data:=.seq #[] }:=tr _ rfl;show wpAny _ A.in1 (Builtin.List.listExtendWith (.ref s.heap.objs.size) (.ref S) (.ref s.heap.objs.size)) _ _ _;have g1:b9 P w (s.heap.push { cls:=.type "list",data:=.seq ([]:List Value).toArray }) S ks:=g.at λo e=>iA _ e
 have hT:Shared.TypeIs { s with heap:=s.heap.push { cls:=.type "list",data:=.seq ([]:List Value).toArray } } (.ref S) "set":=by
  obtain⟨o,es,ep,t,ho,a4,_⟩:=g1;exact⟨o,ho,a4.1⟩
 unfold Builtin.List.listExtendWith;refine ez (L3 (T:="set") hT ?_);have q1:Builtin.List.listSameRef (.ref s.heap.objs.size) (.ref S)=false:=by simp[Builtin.List.listSameRef,KS Y]
 have q2:(Value.type "set" == Value.type "list")=false:=by decide
 have q3:(Value.type "set" == Value.type "tuple")=false:=by decide
 simp only[q1,q2,q3,Bool.or_false,J5,KU];refine ez (yL g1 λI h1 d1 fp J St Z kp hI cd c6 W st=>?_);have a6:(s.heap.push { cls:=.type "list",data:=.seq ([]:List Value).toArray }).objs.size=s.heap.objs.size+1:=Kf ..;have bA:s.heap.objs.size∉fp:=λhm=>by
  rcases cd _ hm with e|e
  .exact Ku _ (by rw[<- e]at Y;exact Y)
  .dsimp only at e;rw[a6]at e;exact Nat.not_succ_le_self _ e
 have hol:J.length<=sizeLine:=by
  have:=Z.length_eq;rw[this];exact Lh b4
 have ck:Shared.TypeIs { s with heap:=h1,drawn:=d1 } (.ref S) "set":=by
  obtain⟨o,e,c⟩:=hT;exact⟨o,kp S o e,c⟩
 refine ez (Kl (yM ck ?_));have WS:=(W.walks (A:=A.in1) (by first|exact hh|simpa using hh)).toS;have fin:∀h2 c1,St 0 h2->(∀b o,b≠s.heap.objs.size->h1.get? b=some o->h2.get? b=some o)->h2.get? s.heap.objs.size=some { cls:=.type "list",dict:=none,data:=.seq #[] c1,slots:=#[] } ->
   codeAny (model P w) A (.builtin "list.extend.loop" ⟨[.ref s.heap.objs.size,.ref I,.ref s.heap.objs.size],[]⟩)
    (λr s'=>∃h' tk U c',r=.ok (.ret (.ref s.heap.objs.size))/\s'={ s with heap:=h',toks:=tk,drawn:=d1 }/\(∀b o,s.heap.get? b=some o->h'.get? b=some o) /\
     h'.get? s.heap.objs.size=some { cls:=.type "list",dict:=none,data:=.seq U c',slots:=#[] }/\IntsAre U.toList J) { s with heap:=h2,drawn:=d1 }:=by
  intro h2 c1 cr k2 ao;refine codeAny_extend_loopS WS hol s.heap.objs.size bA _ J.length 0 _ #[] c1 rfl (Kd _) cr ao (ItemsOf.nil _) λs' U c' hm ar bB=>?_
  refine⟨s'.heap,s'.toks,U,c',rfl,(by
   obtain⟨h',g',cu,dn,dr⟩:=s';have eg:g'=s.gens:=hm.gens;have ed:cu=d1:=hm.drawn;have eo:=hm.os;subst eg;subst ed;subst eo;rfl),λb o e=>?_,ar,ol bB⟩
  have b0:=JW (tf e);refine hm.heap b o (λb1=>?_) (k2 b o b0 (kp b o (iA _ e)));rcases wh.mp b1 with z|z
  .exact b0 z
  .have cA:=J8.mp z;rw[cA]at e;have b2:=hI;rw[a6]at b2;exact absurd (JX (tf e) (LV b2)) (Ku _)
 have done:∀r s',(∃h' tk U c',r=.ok (.ret (.ref s.heap.objs.size))/\s'={ s with heap:=h',toks:=tk,drawn:=d1 }/\(∀b o,s.heap.get? b=some o->h'.get? b=some o) /\
     h'.get? s.heap.objs.size=some { cls:=.type "list",dict:=none,data:=.seq U c',slots:=#[] }/\IntsAre U.toList J) ->
   wants (λv s'=>wpAny (model P w) A (match v with
    |Value.ref a=>do
     match (<- load a).data with
      |Data.seq xs _=>pure xs.toList
      | _=>unsupported "internal:collect"
    | _=>unsupported "internal:collect") R E s') E r s':=by
  rintro r s' ⟨h',tk,U,c',rfl,rfl,k',ar,hi⟩;show wpAny _ A (load s.heap.objs.size >>= _) _ _ _;refine ez (wpAny_load ar ?_);exact gk (h h' tk d1 U.toList J k' Z hi)
 have aO:=kp _ _ b5;refine Ke (λ_=>?_) (λ_=>gk ⟨MH PySem.F.plain_extend_loop _,L0 (fin h1 0 st (λ_ _ _ e=>e) aO) done⟩);refine ez (Lz ?_);refine ez ?_;show wpAny _ _ (updateSeq s.heap.objs.size (·.push .none) >>= λ_=>updateSeq s.heap.objs.size (·.pop)) _ _ _;refine ez (MU aO rfl ?_);have ao:=Kx (Obj.mapSeq (·.push Value.none)) aO rfl;refine MU (hz:=by seq_fits) ao rfl ?_;have cB:=Kx (Obj.mapSeq (·.pop)) ao rfl;refine gk ⟨MH PySem.F.plain_extend_loop _,L0 (fin _ _ ?_ (λb o hb e=>?_) cB) done⟩
 .refine W.frame 0 _ _ st λb hb o e=>?_
  have b3:b≠s.heap.objs.size:=λz=>bA (z▸hb)
  exact(KN _ _ (LJ b3)).trans ((KN _ _ (LJ b3)).trans e)
 .exact(KN _ _ (LJ hb)).trans ((KN _ _ (LJ hb)).trans e)
end
end L2.St
namespace L2
open PySem PySem.Spec PyProof.Rows List Option
noncomputable def lG(scope osc:Scope):Scope:=
 { scope with names:=scope.names.map λ(n,k)=>if (k==.free&&osc.kind==.function&&osc.names.lookup n==some .cell)then(n,.cell)else(n,k) }
noncomputable def oD(osc:Scope)(n:Str)(k:NameKind):NameKind:=if (k==.free&&osc.kind==.function&&osc.names.lookup n==some .cell)then .cell else k
def jg(scope osc):(lG scope osc).names=scope.names.map λq=>(q.1,oD osc q.1 q.2):=by
 refine La λq _=>?_
 obtain⟨n,k⟩:=q;show(if _=true then _ else _)=(n,oD osc n k);unfold oD;split<;>rfl
theorem fm{α z:Type}(g:Str->α->z)(y):∀names:List (Str×α),(names.map λq=>(q.1,g q.1 q.2)).lookup y=(names.lookup y).map (g y)
 | []=>rfl
 | (n,k)::r=>by
  cases hx:y==n with
  |true =>
   simp[lookup_cons,hx,map_some];rw[eq_of_beq hx]
  |false =>
   simp[lookup_cons,hx];exact fm g y r
def wS(osc)(n):oD osc n .free=.cell\/oD osc n .free=.free:=by
 unfold oD;split
 .exact .inl rfl
 .exact .inr rfl
def wT(z:k≠.cell)(h:oD osc n k=.cell\/oD osc n k=.free):k=.free:=by
 unfold oD at h;by_cases hc:(k==NameKind.free&&osc.kind==.function&&osc.names.lookup n==some .cell)=true
 .simp_all
 .simp_all
theorem jh{α:Type}{k:α}:∀{l:List (Str×α)},l.lookup y=some k->(y,k)∈l
 | [],h=>by simp at h
 | (n,z)::r,h=>by
  cases hx:y==n with
  |true =>
   simp only[lookup_cons,hx]at h;rw[eq_of_beq hx,J2 h];exact .head _
  |false =>
   simp[lookup_cons,hx]at h;exact .tail _ (jh h)
def wU(h:scope.names.lookup y=some .free):(lG scope osc).names.lookup y=some .cell\/(lG scope osc).names.lookup y=some .free:=by
 rw[jg,fm,h,map_some];rcases wS osc y with e|e
 .exact .inl (by rw[e])
 .exact .inr (by rw[e])
def wV(U:∀z∈scope.names,z.2=.cell->z.1=x)(h:(lG scope osc).names.lookup y=some .cell\/(lG scope osc).names.lookup y=some .free):(y,NameKind.free)∈scope.names\/(y=x/\scope.names.lookup x=some .cell):=by
 rw[jg,fm]at h;cases e:scope.names.lookup y with
 |none=>rw[e]at h;rcases h with h|h<;>cases h
 |some k =>
  rw[e,map_some]at h;have J:=jh e;by_cases hc:k=.cell
  .subst hc;have q:=U _ J rfl;exact .inr ⟨q,by rw[<- q];exact e⟩
  .have Y:=wT hc (h.elim (λz=>.inl (J2 z)) λz=>.inr (J2 z));rw[Y]at J;exact .inl J
def wW(h:scope.names.lookup y=some .cell):(lG scope osc).names.lookup y=some .cell:=by
 rw[jg,fm,h,map_some];unfold oD;split
 .rfl
 .rfl
noncomputable def fK(env:Env):List (Str×NameKind)->List (Str×Addr)->List (Str×Addr)
 | [],acc=>acc
 | (n,k)::r,acc=>if k==.free then fK env r ((n,(env.cells.lookup n).getD 0)::acc)else fK env r acc
theorem kD :∀names z,(∀y∈names,y.2=.free->∃c,env.cells.lookup y.1=some c) ->
  (forIn names z λx r=>(match x with|(name,kind)=>if (kind==NameKind.free)=true then do let c <- cellOf env name;pure (ForInStep.yield ((name,c)::r))else pure (ForInStep.yield r)):Sem (List (Str×Addr)))=pure (fK env names z)
 | [],z,_=>rfl
 | (n,k)::r,z,h=>by
  rw[forIn_cons];have U:∀y∈r,y.2=.free->∃c,env.cells.lookup y.1=some c:=λy Y=>h y (.tail _ Y)
  by_cases J:(k==NameKind.free)=true
  .obtain⟨c,hc⟩:=h (n,k) (.head _) (eq_of_beq J);dsimp only;rw[if_pos J];have Z:cellOf env n=pure c:=by unfold cellOf;rw[hc]
   rw[Z];simp only[pure_bind];rw[kD r _ U];show _=pure (if _=true then _ else _);rw[if_pos J,hc]
   all_goals rfl
  .dsimp only;rw[if_neg J];simp only[pure_bind];rw[kD r _ U];show _=pure (if _=true then _ else _);rw[if_neg J]
def mK(h:∀y∈scope.names,y.2=.free->∃c,env.cells.lookup y.1=some c):closureFor scope env=pure (fK env scope.names []):=by
 unfold closureFor;have:=kD scope.names [] h
 first
  | exact this
  | (rw[bind_pure];exact this)
  | simpa using this
theorem mL :∀names J,(∀z∈names,z.2=.free->∃c,env.cells.lookup z.1=some c)->(∀c,J.lookup y=some c->env.cells.lookup y=some c) ->
  (fK env names J).lookup y=some c->env.cells.lookup y=some c
 | [],J,_,U,e=>U c e
 | (n,k)::r,J,h,U,e=>by
  have hr:∀y∈r,y.2=.free->∃c,env.cells.lookup y.1=some c:=λy hy=>h y (.tail _ hy)
  have Y:(if (k==NameKind.free)=true then fK env r ((n,(env.cells.lookup n).getD 0)::J)else fK env r J).lookup y=some c:=e;by_cases Z:(k==NameKind.free)=true
  .rw[if_pos Z]at Y;refine mL r _ hr (λc' q=>?_) Y;cases hx:y==n with
   |true =>
    obtain⟨c0,a0⟩:=h (n,k) (.head _) (eq_of_beq Z)
    simp_all
   |false =>
    simp[lookup_cons,hx]at q;exact U c' q
  .rw[if_neg Z]at Y;exact mL r _ hr U Y
theorem jI :∀names J,((y,NameKind.free)∈names\/∃c,J.lookup y=some c)->∃c,(fK env names J).lookup y=some c
 | [],J,h=>by
  rcases h with h|h
  .simp at h
  .exact h
 | (n,k)::r,J,h=>by
  show ∃c,(if (k==NameKind.free)=true then fK env r ((n,(env.cells.lookup n).getD 0)::J)else fK env r J).lookup y=some c;by_cases U:(k==NameKind.free)=true
  .rw[if_pos U];refine jI r _ ?_;cases hx:y==n with
   |true=>exact .inr ⟨(env.cells.lookup n).getD 0,by simp[lookup_cons,hx]⟩
   |false =>
    rcases h with h|⟨c,h⟩
    .simp_all
    .exact .inr ⟨c,by simp[lookup_cons,hx];exact h⟩
  .rw[if_neg U];refine jI r _ ?_;rcases h with h|h
   .rcases wh.mp h with z|z
    .have:=(Prod.mk.inj z).2
     simp_all
    .exact .inl z
   .exact .inr h
structure kE(osc:Scope)(N:List Str)(scope:Scope)(x:Str)(fvs:List Str)(js:List Nat):Prop where
 cells:∀y∈scope.names,y.2=.cell->y.1=x
 once:scope.names.lookup x=some .local/\(scope.names.filter λy=>y.2==.cell)=[]\/scope.names.lookup x=some .cell/\(scope.names.filter λy=>y.2==.cell)=[(x,.cell)]
 xf:∀y∈scope.names,y.2=.free->y.1≠x
 kind:scope.kind=.function
 names:∀y∈scope.names,y.2=.local->scope.names.lookup y.1=some .local
 nd:(x::fvs).Nodup
 out:∀y∈scope.names,y.2=.free->osc.names.lookup y.1=some .cell\/osc.names.lookup y.1=some .free
 slots:(js.map λj=>N[j]?)=fvs.map some
 free:∀y∈fvs,scope.names.lookup y=some .free
structure vc(osc:Scope)(N:List Str)(scope:Scope)(x:Str)(ys fvs:List Str)(js:List Nat):Prop where
 cells:∀y∈scope.names,y.2=.cell->y.1=x
 once:scope.names.lookup x=some .local/\(scope.names.filter λy=>y.2==.cell)=[]\/scope.names.lookup x=some .cell/\(scope.names.filter λy=>y.2==.cell)=[(x,.cell)]
 xf:∀y∈scope.names,y.2=.free->y.1≠x
 kind:scope.kind=.function
 names:∀y∈scope.names,y.2=.local->scope.names.lookup y.1=some .local
 nd:(x::(ys++fvs)).Nodup
 out:∀y∈scope.names,y.2=.free->osc.names.lookup y.1=some .cell\/osc.names.lookup y.1=some .free
 slots:(js.map λj=>N[j]?)=fvs.map some
 free:∀y∈fvs,scope.names.lookup y=some .free
theorem kE.g(h:kE osc N scope x fvs js):vc osc N scope x [] fvs js:=⟨h.cells,h.once,h.xf,h.kind,h.names,h.nd,h.out,h.slots,h.free⟩
noncomputable def kF(scope:Scope)(x:Str)(C:Addr):List (Str×Addr):=if scope.names.lookup x=some .cell then [(x,C+1)]else []
noncomputable def Cx.blk(X:Cx)(x:Str)(fvs:List Str)(scope:Scope)(z:Shared)(J:Hp)(C:Addr)(fp:List Addr):Cx:=
 { X with N:=x::fvs,s₀:=z,H₀:=J,env:=compEnvC scope (kF scope x C++fK X.env scope.names []) C X.env,outer:=X.stack,ex:=fp,fn:=λy=>decide (y=x/\scope.names.lookup x=some .cell),pn:=[],xe:=λ_ _=>False }
theorem mM :∀{names:List (Str×NameKind)}{z}{s}{Q},(names.filter λy=>y.2==.cell)=[]->Q z s ->
  wpAny M A (forIn names z λx r=>(match x with|(name,kind)=>if (kind==NameKind.cell)=true then do let c <- alloc { cls:=.type "cell",data:=.cell none };pure (ForInStep.yield ((name,c)::r))else pure (ForInStep.yield r)):Sem (List (Str×Addr))) Q E s
 | [],_,_,_,_,h=>gk h
 | (n,k)::r,z,s,Q,hf,h=>by
  rw[forIn_cons];have J:(k==NameKind.cell)=false:=by
   simp_all
  rw[KJ (by rw[J];decide)]at hf;dsimp only;rw[if_neg (by rw[J];decide)];exact ez (gk (mM hf h))
theorem oX{x:Str}:∀{names:List (Str×NameKind)}{z}{s}{Q},(names.filter λy=>y.2==.cell)=[(x,.cell)] ->
  Q ((x,s.heap.objs.size)::z) { s with heap:=s.heap.push { cls:=.type "cell",data:=.cell none } } ->
  wpAny M A (forIn names z λx r=>(match x with|(name,kind)=>if (kind==NameKind.cell)=true then do let c <- alloc { cls:=.type "cell",data:=.cell none };pure (ForInStep.yield ((name,c)::r))else pure (ForInStep.yield r)):Sem (List (Str×Addr))) Q E s
 | [],_,_,_,hf,_=>by cases hf
 | (n,k)::r,z,s,Q,hf,h=>by
  rw[forIn_cons];dsimp only;cases J:(k==NameKind.cell)with
  |false =>
   rw[KJ (by rw[J];decide)]at hf;exact ez (gk (oX hf h))
  |true =>
   rw[K0 (by exact J)]at hf;obtain⟨U,Y⟩:=List.cons.inj hf;cases U;exact ez (ez (wpAny_alloc (gk (mM Y h))))
def tL{scope:Scope}{x:Str}{globals:Addr}{Z:List (Str×Addr)}{qual:Str}{env:Env}{s:Shared}{Q:Env->Shared->Prop}(hk:scope.kind=.function)
  (ho:scope.names.lookup x=some .local/\(scope.names.filter λy=>y.2==.cell)=[]\/scope.names.lookup x=some .cell/\(scope.names.filter λy=>y.2==.cell)=[(x,.cell)])
  (h:∀h' m,h'.Ns s.heap.objs.size m->(∀b u,s.heap.get? b=some u->h'.get? b=some u)->(scope.names.lookup x=some .cell->h'.IsCell (s.heap.objs.size+1) none)->Q (newEnv scope s.heap.objs.size globals (kF scope x s.heap.objs.size++Z) qual none .none (some env) builtinsNs) { s with heap:=h' }) :
  wpAny M A (newFunctionEnv scope globals Z [] qual none .none (some env)) Q E s:=by
 rcases ho with⟨h1,h2⟩|⟨h1,h2⟩
 .refine wpAny_newFunctionEnv (λy J z=>?_) (by intro y J;simp at J) (λh' U Y=>?_) hk
  .have:y∈scope.names.filter λy=>y.2==.cell:=Kg.mpr ⟨J,by rw[z];rfl⟩
   rw[h2]at this;cases this
  .have q:=h h' _ U (λb u e=>Y.extBut b u (JW (tf e)) (iA _ e)) λz=>by rw[h1]at z;cases z
   unfold kF at q
   simp_all
 .unfold newFunctionEnv;refine ez (wpAny_alloc (ez (oX h2 ?_)));have hn:=Heap.Ns.new s.heap (.type "dict");have hs:(s.heap.push { cls:=.type "dict",data:=.dict #[] }).objs.size=s.heap.objs.size+1:=Kf _ _;have q:=h ((s.heap.push { cls:=.type "dict",data:=.dict #[] }).push { cls:=.type "cell",data:=.cell none }) _ (hn.keeps λb o e=>iA _ e) (λb u e=>iA _ (iA _ e)) λ_=>⟨_,by rw[<- hs];exact tr _ rfl,rfl⟩
  unfold kF at q;rw[if_pos h1]at q;rw[<- hs]at q;exact ez (gk (gk q))
noncomputable def fc(js:List Nat)(σ:St):St:=none::js.map λj=>(σ[j]?).join
noncomputable def wX(n:Nat)(js:List Nat)(σ:St):St:=none::(replicate n none++js.map λj=>(σ[j]?).join)
def PF(X:Cx)(ifs:List Expr)(t:TT):Prop:=
 ∀pins s (σ:St) H Q,Inv X pins σ H s->t σ H Q ->
  wpAny (model X.prog X.w) X.A (forIn ifs true λc r=>if r=true then do let ok <- isTrue c X.env (eval c X.env);pure (ForInStep.yield ok)else pure (ForInStep.yield r)) (TP X pins σ Q) X.xe s
noncomputable def Jv:TT:=λ_ H Q=>Q true H
def El :PF X [] Jv:=λ_ _ _ H _ I h=>wpAny_tests_nil ⟨H,I,h⟩
def Em(h:PT X c t):PF X [c] t:=λpins s σ H Q I q=>wpAny_tests_one (h pins s σ H Q I q)
section
variable{prog:Program}{w:World}{A:Around}{R:Result->Shared->Prop}{s:Shared}
def wY{elt target iter:Expr}{ifs:List Expr}{scope:Scope}{pos:Pos}{it U:Value}{env:Env}(J:Nat->Shared->Prop)
  (turn:∀n s,J n s->wpAny (model prog w) A (pyNext it) (λr Z=>match r with
   |none=>R (.ok .next) Z
   |some v=>wpAny (model prog w) A (letOwnedTupleGo target it v) (λ_ s2=>wpAny (model prog w) A (assign target env v) (λ_ s3 =>
     wpAny (model prog w) A (forIn ifs true λc r=>if r=true then do let ok <- isTrue c env (eval c env);pure (ForInStep.yield ok)else pure (ForInStep.yield r)) (λok s4 =>
      if ok=true then wpAny (model prog w) A (eval elt env) (λx s5 =>
       wpAny (model prog w) A (call (.builtin "list.append") [U,x]) (λ_ s6=>∃m,m<n/\J m s6) (λ_ _=>False) s5) (λ_ _=>False) s4
      else ∃m,m<n/\J m s4) (λ_ _=>False) s3) (λ_ _=>False) s2) (λ_ _=>False) Z) (λ_ _=>False) s)
  (n) (h:J n s):codeAny (model prog w) A (.compLoop (.ListComp elt [⟨target,iter,ifs,0⟩] scope pos) 0 it U env) R s:=by
 have Y:∀{α}{t}{Q:α->Shared->Prop}{E}{s},wpAny (model prog w) A t Q (λ_ _=>False) s->wpAny (model prog w) A t Q E s:=λq=>Ks q (λ_ _ z=>z) λ_ _ z=>z.elim
 refine codeAny_loop rfl J (λn s hJ=>?_) n h;show wpAny _ A ((compTurn (.ListComp elt [⟨target,iter,ifs,0⟩] scope pos) 0 it U env).onRaise (λx=>do noteFrame x env;theTreesLotGoes x)) _ _ s;refine wpAny_noted ?_;rw[compTurn_list];refine ez (wpAny_standAt (ez (Ks (Y (turn n s hJ)) (λr Z h1=>?_) λ_ _ z=>z)));cases r with
 |none=>exact gk h1
 |some v =>
  refine ez (Ks (Y h1) (λ_ s2 h2=>?_) λ_ _ z=>z);refine ez (Ks (Y h2) (λ_ s3 h3=>ez (Ks (Y h3) (λok s4 h4=>?_) λ_ _ z=>z)) λ_ _ z=>z);cases ok<;>first|exact gk ⟨rfl,h4⟩|exact ez (ez (Ks (Y h4) (λx s5 h5=>ez (Ks (Y h5) (λ_ s6 h6=>gk (gk ⟨rfl,h6⟩)) λ_ _ z=>z)) λ_ _ z=>z))
end
def rq(J:It)(U:St)(H1:Hp)(tt:TT)(te:TE)(D:Addr)(Q:VK):Prop:=
 ∃W:Nat->Nat->St->Hp->Prop,(∃m,W 0 m U (upd H1 D (.lst [])))/\∀i m F H',W i m F H' ->
  (J.stop i H'/\Q (.ref D) H')\/(J.go i H'/\∃N:St->Hp->Prop,(∀z H2,N z H2->∃Y,Y<m/\W (i+1) Y z H2)/\∀x H2,J.yld i H' x H2 ->
   tt (F.set 0 (some x)) H2 λb Z=>if b=true then te (F.set 0 (some x)) Z λy H4=>∃ys,H4 D=some (.lst ys)/\ys.length<sizeLine/\N (F.set 0 (some x)) (upd H4 D (.lst (ys++[y])))else N (F.set 0 (some x)) Z)
def yN(J:It)(g:TG)(Y:St)(H1:Hp)(tt:TT)(te:TE)(D:Addr)(Q:VK):Prop:=
 ∃W:Nat->Nat->St->Hp->Prop,(∃m,W 0 m Y (upd H1 D (.lst [])))/\∀i m F H',W i m F H' ->
  (J.stop i H'/\Q (.ref D) H')\/(J.go i H'/\∃N:St->Hp->Prop,(∀U H2,N U H2->∃Z,Z<m/\W (i+1) Z U H2)/\∀x H2,J.yld i H' x H2 ->
   g x F H2 λz H3=>tt z H3 λb H4=>if b=true then te z H4 λy H5=>∃ys,H5 D=some (.lst ys)/\ys.length<sizeLine/\N z (upd H5 D (.lst (ys++[y])))else N z H4)
theorem rq.g(h:rq J z H1 tt te D Q):yN J (ig 0) z H1 tt te D Q:=h
noncomputable def yO(wi:TI)(js:List Nat)(tt:TT)(te:TE):TE:=λσ H Q=>wi σ H λJ H1=>∀D,H1 D=none->rq J (fc js σ) H1 tt te D Q
section
variable{X:Cx}{elt iter:Expr}{x:Str}{px:Pos}{ifs:List Expr}{scope:Scope}{pos:Pos}{fvs:List Str}{js:List Nat}{wi:TI}{tt:TT}{te:TE}
def tM{ys:List Str}(Z:vc X.env.scope X.N scope x ys fvs js)(hc:X.calm=true)(hg:∀aO a0 C fp,PG (X.blk x (ys++fvs) scope aO a0 C fp) tg g)
  (ht:∀aO a0 C fp,PF (X.blk x (ys++fvs) scope aO a0 C fp) ifs tt) (he:∀aO a0 C fp,PE (X.blk x (ys++fvs) scope aO a0 C fp) elt te)
  {pins:List (Addr×Obj)}{σ:St}{H2:Hp}{U:Shared}{Q:VK}{it:Addr}{fp:List Addr}{tn:Nat->Heap->Prop}{J:It}{RR:Value->Addr->Result->Shared->Prop}
  (I2:Inv X pins σ H2 U) (T:qW X.prog X.w X.K tg J fp it tn) (dr:tn 0 U.heap) (f2:∀b∈fp,km X pins H2 b)
  (hh:∀D,H2 D=none->yN J g (wX ys.length js σ) H2 tt te D Q)
  (fin:∀D C H' s',Inv X pins σ H' s'->(∃m,s'.heap.Ns C m)->H' C=none->C≠X.env.locals->X.s₀.heap.objs.size<=C->(∀y c,X.env.cells.lookup y=some c->c≠C)->(∀p∈X.pn++pins,p.1≠C)->Q (.ref D) H' ->
   RR (.ref D) C (.ok .next) s') {E:Value->Shared->Prop} :
  wpAny (model X.prog X.w) X.A (newList []) (λacc s3=>wpAny (model X.prog X.w) X.A (newFunctionEnv scope X.env.globals (fK X.env scope.names []) [] X.env.qual none .none (some X.env)) (λcu s4 =>
   codeAny (model X.prog X.w) X.A (.compStart (.ListComp elt [⟨tg,iter,ifs,0⟩] scope pos) 0 (.ref it) acc { cu with scope:=relabel scope X.env }) (RR acc cu.locals) s4) E s3) E U:=by
 have fr:∀y∈scope.names,y.2=.free->∃c,X.env.cells.lookup y.1=some c:=λy hy hk=>I2.ok.has y.1 (Z.out y hy hk)
 have sub:∀y c,(fK X.env scope.names []).lookup y=some c->X.env.cells.lookup y=some c:=λy c e=>mL scope.names [] fr (λ_ q=>by simp at q) e
 refine Kz (tL (x:=x) Z.kind Z.once λh1 m1 a5 a6 bA=>?_);dsimp only at a5 a6 bA ⊢;have Y:Inv X pins σ (upd H2 U.heap.objs.size (.lst [])) { U with heap:=U.heap.push { cls:=.type "list",data:=.seq ([]:List Value).toArray },toks:=U.toks }:=I2.lnew (ys:=[]) (its:=[]) .nil (Kd _);generalize hG:U.heap.push { cls:=.type "list",dict:=none,data:=.seq ([]:List Value).toArray }=G at a5 a6 bA Y ⊢;have hC:G.objs.size=U.heap.objs.size+1:=by rw[<- hG,Kf]
 obtain⟨W,⟨m0,w0⟩,turn⟩:=hh U.heap.objs.size I2.fresh;have up:=a6;have ar:∀{y}{c},(kF scope x G.objs.size++fK X.env scope.names []).lookup y=some c->(y=x/\scope.names.lookup x=some .cell/\c=G.objs.size+1)\/(fK X.env scope.names []).lookup y=some c:=λ{y c} e=>by
  unfold kF at e;by_cases q:scope.names.lookup x=some .cell
  .rw[if_pos q]at e;by_cases z:(y==x)=true
   .rw[cons_append,lookup_cons,z]at e;exact .inl ⟨eq_of_beq z,q,(J2 e).symm⟩
   .rw[cons_append,lookup_cons,(K9 _).mp z]at e;exact .inr e
  .rw[if_neg q]at e;exact .inr e
 have gy:∀{H'}{s'},Inv X pins σ H' s'->True:=λ_=>trivial
 have nC:=Y.hok.fresh (pb _);have cL:=KS Y.lt;have cS:=Y.sz;have cC:∀y c,X.env.cells.lookup y=some c->c≠G.objs.size:=λy c e z=>by
  obtain⟨v,q⟩:=Y.cell y c e;exact absurd (show c<G.objs.size from q.lt) (by rw[z];exact Ku _)
 have cP:∀p∈X.pn++pins,p.1≠G.objs.size:=λp hp z=>absurd (show p.1<G.objs.size from tf (Y.pin p hp).1) (by rw[z];exact Ku _)
 have c0:∀b∈fp,b<U.heap.objs.size:=λb hb=>by
  obtain⟨o,e,_⟩:=T.obj 0 _ dr b hb;exact tf e
 have ok:(X.blk x (ys++fvs) scope { U with heap:=G,toks:=U.toks } (upd H2 U.heap.objs.size (.lst [])) G.objs.size fp).Ok:=by
  have hb:∀b∈fp,b∉frs X.stack:=λb hb z=>(wh.mp (I2.stkSub b z)).elim (f2 b hb).2.1 (f2 b hb).2.2.1
  exact {
   mod:=Y.ok.mod
   kind:=by show(relabel scope X.env).kind=_;exact Z.kind
   glob:=Y.ok.glob
   blt:=Y.ok.blt
   above:=pb _
   inj:=λy z c e1 e2=>by
    have lt:∀{y},(fK X.env scope.names []).lookup y=some c->c<G.objs.size:=λ{y} e=>by
     obtain⟨v,q⟩:=Y.cell y c (sub y c e);exact q.lt
    rcases ar e1 with⟨a1,_,a2⟩|a1
    .rcases ar e2 with⟨b1,_,_⟩|b1
     .rw[a1,b1]
     .exact absurd (lt b1) (by rw[a2];exact KR.mpr (LA _))
    .rcases ar e2 with⟨_,_,b2⟩|b1
     .exact absurd (lt a1) (by rw[b2];exact KR.mpr (LA _))
     .exact Y.ok.inj y z c (sub y c a1) (sub z c b1)
   has:=λy hy=>by
    show ∃c,(kF scope x G.objs.size++fK X.env scope.names []).lookup y=some c;unfold kF;rcases wV Z.cells hy with hm|⟨e,q⟩
    .obtain⟨c,ec⟩:=jI (env:=X.env) scope.names [] (.inl hm);by_cases q:scope.names.lookup x=some .cell
     .have z:=LI.mpr (Z.xf _ hm rfl);exact⟨c,by rw[if_pos q,cons_append,lookup_cons,z];exact ec⟩
     .exact⟨c,by rw[if_neg q];exact ec⟩
    .subst e;exact⟨G.objs.size+1,by rw[if_pos q,cons_append,lookup_cons,LC]⟩
   cab:=λy c h e=>by
    obtain⟨h1,h2⟩:=KP h;have e':(kF scope x G.objs.size++fK X.env scope.names []).lookup y=some c:=e;unfold kF at e';rw[if_pos h2,h1,cons_append,lookup_cons,LC]at e';rw[<- J2 e'];exact LA _
   hd:=Y.ok.hd
   frames:=Y.ok.frames
   stk:=.inl rfl
   exf:=λb bB=>⟨JW (show b<G.objs.size from JX (c0 b bB) (by rw[hC];exact LA _)),λy c e=>by
    rcases ar e with⟨_,_,a⟩|a
    .rw[a,hC];exact KS (JX (c0 b bB) (uw (LA _) (LA _)))
    .exact(f2 b bB).2.2.2.2.1 y c (sub y c a)⟩
   bs:=Y.bs
   bsz:=uw Y.ok.bsz Y.sz
   noex:=λb o e bB=>by
    have q:=(f2 b bB).2.2.2.1;rcases q with q|q
    .exact Y.ok.noex b o e q
    .exact absurd (JX (tf e) (uw Y.ok.bsz q)) (Ku _)
   exfs:=hb
   funs:=Y.stack
   frf:=Y.stkFree }
 have d3:(wX ys.length js σ).length=(x::(ys++fvs)).length:=by
  have e:=Kn List.length Z.slots;simp only[p0]at e;simp[wX,e]
 have I4:Inv (X.blk x (ys++fvs) scope { U with heap:=G,toks:=U.toks } (upd H2 U.heap.objs.size (.lst [])) G.objs.size fp) [] (wX ys.length js σ) (upd H2 U.heap.objs.size (.lst [])) { U with heap:=h1,toks:=U.toks }:=by
  refine⟨ok,rfl,Y.bare,Un.kept up,⟨_,a5,λi y v e1 e2 e3=>?_⟩,λy c e=>?_,nC,λy c e=>(ar e).elim (λ⟨_,_,a⟩=>by rw[a];exact Y.hok.fresh (LA _)) λa=>Y.freeC y c (sub y c a),λp hp=>by simp[Cx.blk]at hp,Y.hok.kept up,d3⟩
  .cases i with
   |zero=>simp[wX]at e2
   |succ i0 =>
    have c1:(ys++fvs)[i0]?=some y:=e1;have b0:(replicate ys.length none++js.map λj=>(σ[j]?).join)[i0]?=some (some v):=by simpa[wX]using e2
    by_cases cd:i0<ys.length
    .rw[K3 (by simpa using cd),Mr,if_pos cd]at b0;cases b0
    rw[Lp (by simpa using Nat.le_of_not_lt cd),length_replicate]at b0;rw[Lp (Nat.le_of_not_lt cd)]at c1;generalize i0-ys.length=i at c1 b0;have ea:=c1;have hm:=Lq ea;have eb:=Z.free y hm;have c2:=jh eb;have b3:=b0;rw[Kc]at b3;cases ej:js[i]? with
    |none=>rw[ej]at b3;cases b3
    |some j =>
     rw[ej]at b3;have ck:(σ[j]?).join=some v:=J2 b3;have e4:σ[j]?=some (some v):=by
      cases q:σ[j]? with
      |none=>rw[q]at ck;cases ck
      |some z=>rw[q]at ck;exact Kn some ck
     have e5:X.N[j]?=some y:=by
      have q:=Kn (λl=>l[i]?) Z.slots;simp only[Kc,ej,ea,map_some]at q;exact J2 q
     obtain⟨m,hn,hl⟩:=Y.loc;have cA:=Z.out (y,.free) c2 rfl;obtain⟨u,ru,lk⟩:=hl j y v e5 e4 (.inr cA);refine⟨u,ru,.inr ⟨?_,?_⟩⟩
     .show(relabel scope X.env).names.lookup y=_\/(relabel scope X.env).names.lookup y=_;exact wU (osc:=X.env.scope) eb
     .obtain⟨c,ec⟩:=jI (env:=X.env) scope.names [] (.inl c2);have nx:=LI.mpr (Z.xf _ c2 rfl);refine⟨c,?_,?_⟩
      .show(kF scope x G.objs.size++fK X.env scope.names []).lookup y=some c;unfold kF;split
       .rw[cons_append,lookup_cons,nx];exact ec
       .exact ec
      rcases lk with⟨z,_⟩|⟨_,c',eK,q⟩
      .have z':X.env.scope.names.lookup y=some .local:=z;rcases cA with w|w
       .rw[show X.env.scope.names.lookup y=some .cell from w]at z';cases z'
       .rw[show X.env.scope.names.lookup y=some .free from w]at z';cases z'
      .have:=sub y c ec;rw[eK]at this;cases this;obtain⟨o,ho,hd⟩:=q;exact⟨o,up _ _ ho,hd⟩
  .rcases ar e with⟨_,q,a⟩|a
   .exact⟨none,by rw[a];exact bA q⟩
   .obtain⟨v,o,ho,hd⟩:=Y.cell y c (sub y c a);exact⟨v,o,up _ _ ho,hd⟩
 have ed:=T.keep 0 _ _ dr λb hb o e=>up b o (by rw[<- hG];exact iA _ e)
 have eL:∀b∈fp,(upd H2 U.heap.objs.size (.lst [])) b=none:=λb hb=>by
  rw[aX (JW (c0 b hb))];exact(f2 b hb).1
 have b4:∀{H'},(∀b∈fp,H' b=none)->∀b∈fp,km (X.blk x (ys++fvs) scope { U with heap:=G,toks:=U.toks } (upd H2 U.heap.objs.size (.lst [])) G.objs.size fp) [] H' b:=λhn b hb =>
  ⟨hn b hb,(ok.exf b hb).1,ok.exfs b hb,.inl hb,(ok.exf b hb).2,λp hp=>by simp[Cx.blk]at hp⟩
 have e0:∀b∈fp,(b∈X.ex\/X.s₀.heap.objs.size<=b)/\b≠X.env.locals/\(∀x c,X.env.cells.lookup x=some c->c≠b)/\∀p∈X.pn++pins,p.1≠b:=λb hb =>
  let ⟨_,q1,_,q2,q3,q4⟩:=f2 b hb;⟨q2,q1,q3,q4⟩
 have cB:∀s5,s5={ U with heap:=h1,toks:=U.toks } ->
   codeAny (model X.prog X.w) X.A (.compLoop (.ListComp elt [⟨tg,iter,ifs,0⟩] scope pos) 0 (.ref it) (.ref U.heap.objs.size) (compEnvC scope (kF scope x G.objs.size++fK X.env scope.names []) G.objs.size X.env)) (RR (.ref U.heap.objs.size) G.objs.size) s5:=by
  rintro s5 rfl;refine wY (λn s'=>∃i F H',Inv (X.blk x (ys++fvs) scope { U with heap:=G,toks:=U.toks } (upd H2 U.heap.objs.size (.lst [])) G.objs.size fp) [] F H' s'/\tn i s'.heap/\(∀b∈fp,H' b=none)/\W i n F H') ?_ m0 ⟨0,_,_,I4,ed,eL,w0⟩;rintro n s6 ⟨i,cl,H6,I6,ee,ef,w6⟩;rcases turn i n cl H6 w6 with⟨stop,qn⟩|⟨go,N,hN,step⟩
  .refine thn (T.done (X.blk x (ys++fvs) scope { U with heap:=G,toks:=U.toks } (upd H2 U.heap.objs.size (.lst [])) G.objs.size fp) rfl rfl rfl hc i [] s6 cl H6 _ I6 (b4 ef) ee stop) λr s7 ⟨hr,I7⟩=>?_
   subst hr;have I8:=Y.call' (ch:=fp) I7.os I7.base I7.hok I7.bare e0;obtain⟨m,hn,_⟩:=I7.loc;exact fin _ _ H6 s7 I8 ⟨m,hn⟩ I7.free cL cS cC cP qn
  .refine thn (T.item (X.blk x (ys++fvs) scope { U with heap:=G,toks:=U.toks } (upd H2 U.heap.objs.size (.lst [])) G.objs.size fp) rfl rfl rfl hc i [] s6 cl H6 _ I6 (b4 ef) ee go) λr s7 ⟨u,hr,h7⟩=>?_
   subst hr;refine thn h7 λ_ s8 ⟨x8,H8,I8,r8,y8,c3,e9⟩=>?_
   have fa:=I8.pinned (b4 e9) (T.obj _ _ c3);refine thn (hg _ _ _ _ _ s8 cl H8 x8 u _ fa r8 (step x8 H8 y8)) λ_ s9 ⟨c4,H9,I9,q9⟩=>?_
   refine thn (ht _ _ _ _ _ s9 _ H9 _ I9 q9) λfe ff ⟨fl,eg,cr⟩=>?_
   have again:∀{a4}{a3},Inv (X.blk x (ys++fvs) scope { U with heap:=G,toks:=U.toks } (upd H2 U.heap.objs.size (.lst [])) G.objs.size fp) ([]++mf fp s8.heap) c4 a3 a4->N c4 a3 ->
     ∃m,m<n/\∃i F H',Inv (X.blk x (ys++fvs) scope { U with heap:=G,toks:=U.toks } (upd H2 U.heap.objs.size (.lst [])) G.objs.size fp) [] F H' a4/\tn i a4.heap/\(∀b∈fp,H' b=none)/\W i m F H':=λ{a4 a3} b5 c5=>by
    obtain⟨m',hm,ft⟩:=hN _ a3 c5;refine⟨m',hm,i+1,_,a3,b5.unpinned,T.keep _ _ _ c3 λb hb o e=>(b5.pin (b,o) (KD _ (KD _ (gE hb e)))).1,λb hb=>?_,ft⟩;obtain⟨o,e,d⟩:=T.obj _ _ c3 b hb;exact(b5.pin (b,o) (KD _ (KD _ (gE hb e)))).2.1
   cases fe with
   |false =>
    rw[if_neg (by simp)]at cr ⊢;exact again eg cr
   |true =>
    rw[if_pos rfl]at cr ⊢;refine thn (he _ _ _ _ _ ff _ fl _ eg cr) λy a4 ⟨yv,a3,b5,ry,ys,fv,hl,c5⟩=>?_
    refine thn (kr _ a4 _ a3 (.ref U.heap.objs.size) [yv] (.ref U.heap.objs.size) [y] (λ_ eh=>N c4 eh) b5 rfl (.cons ry .nil) ⟨_,ys,yv,rfl,rfl,fv,hl,c5⟩) λ_ hP ⟨_,eh,fx,_,fy⟩=>again fx fy
 exact codeAny_compStart_list (cB _ rfl) (T.self _ 0 _ _ _ ed (cB _ rfl))
def oY(Y:kE X.env.scope X.N scope x fvs js)(hc:X.calm=true)
  (ht:∀z U C fp,PF (X.blk x fvs scope z U C fp) ifs tt) (he:∀z U C fp,PE (X.blk x fvs scope z U C fp) elt te)
  {pins:List (Addr×Obj)}{σ:St}{H2:Hp}{s2:Shared}{Q:VK}{it:Addr}{fp:List Addr}{tn:Nat->Heap->Prop}{J:It}{RR:Value->Addr->Result->Shared->Prop}
  (I2:Inv X pins σ H2 s2) (T:qW X.prog X.w X.K (.Name x px) J fp it tn) (ar:tn 0 s2.heap) (f2:∀b∈fp,km X pins H2 b)
  (hh:∀D,H2 D=none->rq J (fc js σ) H2 tt te D Q)
  (fin:∀(D C:Addr) (H':Hp) (s':Shared),Inv X pins σ H' s'->(∃m,s'.heap.Ns C m)->H' C=none->C≠X.env.locals->X.s₀.heap.objs.size<=C->(∀y c,X.env.cells.lookup y=some c->c≠C)->(∀p∈X.pn++pins,p.1≠C)->Q (.ref D) H' ->
   RR (.ref D) C (.ok .next) s') {E:Value->Shared->Prop} :
  wpAny (model X.prog X.w) X.A (newList []) (λacc s3=>wpAny (model X.prog X.w) X.A (newFunctionEnv scope X.env.globals (fK X.env scope.names []) [] X.env.qual none .none (some X.env)) (λZ s4 =>
   codeAny (model X.prog X.w) X.A (.compStart (.ListComp elt [⟨.Name x px,iter,ifs,0⟩] scope pos) 0 (.ref it) acc { Z with scope:=relabel scope X.env }) (RR acc Z.locals) s4) E s3) E s2:=
 tM (ys:=[]) Y.g hc (λz U C fp=>lO (X:=X.blk x fvs scope z U C fp) (i:=0) (x:=x) (pos:=px) Y.nd rfl (Y.once.elim (λq=>.inl (lookup_relabel_local q.1)) λq=>.inr (wW q.1)) (Y.once.elim (λq=>.inr (lookup_relabel_local q.1)) λq=>.inl (J9 ⟨rfl,q.1⟩))) ht he I2 T ar f2 (λD hD=>(hh D hD).g) fin
def vd(Y:kE X.env.scope X.N scope x fvs js)(hc:X.calm=true)(hi:PI X (.Name x px) iter wi)
  (ht:∀z U C fp,PF (X.blk x fvs scope z U C fp) ifs tt) (he:∀z U C fp,PE (X.blk x fvs scope z U C fp) elt te)
  (hs:∀v,foldedSetIterable iter X.env v=pure v:=by intro _;rfl):PE X (.ListComp elt [⟨.Name x px,iter,ifs,0⟩] scope pos) (yO wi js tt te):=by
 intro pins s σ H Q I h;have fr:∀y∈scope.names,y.2=.free->∃c,X.env.cells.lookup y.1=some c:=λy hy hk=>I.ok.has y.1 (Y.out y hy hk)
 rw[eval_ListComp];refine wpAny_comprehension_free rfl hs (mK fr) Y.kind Y.names (thn (hi pins s σ H _ I h) λv s1 h1=>thn h1 λa3 s2 h2=>?_);refine ax λZq kq=>?_
 obtain⟨it,fp,tn,J,H2,e,I2,T,Z,f2,hh⟩:=h2;subst e;refine kq ?_;refine oY (RR:=λacc C=>compPost _ X.A X.xe none _ acc C) Y hc ht he I2 T Z f2 hh λD C H' s' I' hn nC cL cS cC cP q=>?_
 obtain⟨m,hn⟩:=hn;refine⟨m,hn,λh' sb=>⟨.ref D,H',?_,rfl,q⟩⟩;exact I'.turned (λb o hb e=>(sb.2 b hb).trans e) nC cL (.inr cS) cC cP
def tN{py ao:Pos}(hN:X.N.Nodup)(aO:X.N[i]?=some y)(hy:Loc X.env.scope y)(Z:kE X.env.scope X.N scope x fvs js)(hc:X.calm=true)(hi:PI X (.Name x px) iter wi)
  (ht:∀U Y C fp,PF (X.blk x fvs scope U Y C fp) ifs tt) (he:∀U Y C fp,PE (X.blk x fvs scope U Y C fp) elt te)
  (a1:swapsWith (.ListComp elt [⟨.Name x px,iter,ifs,0⟩] scope pos) (some (.Name y py)) ao.line X.env=pure true:=by rfl)
  (hs:∀v,foldedSetIterable iter X.env v=pure v:=by intro _;rfl) (hf:X.fn y=true\/X.env.scope.names.lookup y=some .local:=by first|exact .inl rfl|exact .inr rfl|assumption) :
  PS X (.Assign [.Name y py] (.ListComp elt [⟨.Name x px,iter,ifs,0⟩] scope pos) ao) (sX (yO wi js tt te) (ig i)):=by
 intro pins s σ H D I h;have fr:∀y∈scope.names,y.2=.free->∃c,X.env.cells.lookup y.1=some c:=λy hy hk=>I.ok.has y.1 (Z.out y hy hk)
 rw[exec_Assign_Name_used _ _ _ _ a1];refine ez (wpAny_standAt (ez ?_));show wpAny _ X.A (do let _ <- comprehension (.ListComp elt [⟨.Name x px,iter,ifs,0⟩] scope pos) scope X.env _ (newList []) false (eval iter X.env) (some (assign (.Name y py) X.env))) _ _ s;refine ez (thn (wpAny_comprehension_free (use:=some (assign (.Name y py) X.env)) (Q:=λ_ s'=>SP X pins D .next s') rfl hs (mK fr) Z.kind Z.names (thn (hi pins s σ H _ I h) λv s1 h1=>thn h1 λck s2 h2=>?_)) λ_ s' q=>?_)
 .refine ax λZq kq=>?_
  obtain⟨it,fp,tn,J,H2,e,I2,T,a2,f2,hh⟩:=h2;subst e;refine kq ?_;refine oY (RR:=λacc C=>compPost (model X.prog X.w) X.A X.xe (some (assign (.Name y py) X.env)) (λ_ s'=>SP X pins D .next s') acc C) (Q:=λv H'=>ig i v σ H' D.nx) Z hc ht he I2 T a2 f2 hh λD' C H' s' I' hn nC cL cS cC cP q=>?_
  obtain⟨m,hn⟩:=hn;show wpAny _ _ (assign (.Name y py) X.env (.ref D')) _ _ s';refine wpAny_assign_Name (oJ I' hN aO hy (v:=.ref D') rfl (λa4 a5 ⟨a,sb,ha⟩=>?_) hf);have ne:C≠a:=by
   rcases ha with z|z
   .rw[z];exact cL
   .exact λw=>cC y a z w.symm
  refine⟨m,hn.sameBut sb ne,λh' a6=>?_⟩;exact⟨_,H',a5.turned (t':=a4.toks) (λb o hb e=>(a6.2 b hb).trans e) nC cL (.inr cS) cC cP,q⟩
 .exact gk (gk q)
end
abbrev tO(K:NF)(H:Hp):List V->List (List Int)->Prop:=Paired λx z=>∃a,x=V.ref a/\SqT K H a (z.map V.int)
theorem tO.len{K:NF}(h:tO K H xs z):xs.length=z.length:=Paired.length h
def aB(h:H p=none)(o):aj H (upd H p o):=λb u q=>by rw[aX (cx q h)];exact q
def aj.seqT{K:NF}(e:aj H H')(h:SqT K H a xs):SqT K H' a xs:=by
 rcases h with(h|⟨o,h⟩)|h
 .exact .inl (.inl (e _ _ h))
 .exact .inl (.inr ⟨o,e _ _ h⟩)
 .exact .inr h
section
variable{X:Cx}{pins:List (Addr×Obj)}{σ:St}{H:Hp}{s:Shared}
def Inv.laidD(I:Inv X pins σ H s)(k:∀b u,s.heap.get? b=some u->h'.get? b=some u)(J:s.heap.objs.size<=a)(new:bL X.prog X.w (upd H a o) h' a o) :
  Inv X pins σ (upd H a o) { s with heap:=h',toks:=t',drawn:=d' }:=
 I.call (g':=s.gens) (d':=d') (t':=t') (ch:=[]) (Un.laid k J (I.hok.fresh J)) (I.hok.laid k J new) I.bare λ_ z=>nomatch z
def Inv.tupInts(I:Inv X pins σ H s)(h:SqT X.K H a (ns.map V.int)):∃its,IsTup s.heap a its.toArray/\IntsAre its ns:=by
 obtain⟨its,r,p,_⟩:=I.tuple h;exact⟨its,p,cX r⟩
theorem Inv.tupsAt(I:Inv X pins σ H s):∀{xs}{us}{z},tO X.K H xs z->aG xs us->Paired (λu J=>∃a its,u=Value.ref a/\IsTup s.heap a its/\IntsAre its.toList J) us z
 | _,_,_,.nil,.nil=>.nil
 | _,_,_,.cons ⟨a,U,Y⟩ t,.cons r q=>by
  obtain⟨its,p,hi⟩:=I.tupInts Y;rw[U]at r;exact .cons ⟨a,its.toArray,r,p,by simpa using hi⟩ (I.tupsAt t q)
end
noncomputable def i6(P:Program)(w:World)(a:Addr)(ks:List Int):HO:=.ext λh=>St.b9 P w h a ks
def rA(g:St.b9 P w h a ks):bL P w H h a (i6 P w a ks):=by
 obtain⟨o,es,ep,t,ho,r⟩:=id g;exact⟨g,⟨o,ho⟩,λh1 h2 z k=>z.at k⟩
theorem Inv.set(I:Inv X pins σ H s)(h:H a=some (i6 X.prog X.w a ks)):St.b9 X.prog X.w s.heap a ks:=
 (show bL X.prog X.w H s.heap a (i6 X.prog X.w a ks)from I.hok a _ h).1
section
variable{X:Cx}
def yP (hc:X.calm=true):bW X (.type "set") (λxs H Q=>∃(p:Addr) (ns:List Int),xs=[.ref p]/\(SqL X.K H p (ns.map V.int)\/SqT X.K H p (ns.map V.int))/\ns.length<=4000/\∀l:Addr,H l=none->Q (.ref l) (upd H l (i6 X.prog X.w l (St.dd ns.reverse)))):=by
 intro pins s σ H xs us Q I r h;obtain⟨p,ns,rfl,z,hz,q⟩:=h;obtain⟨u,rfl,Z⟩:=d_ r;cases Z;have Y:=I.ok.hd hc;rcases z with z|z
 .obtain⟨its,J,U,_⟩:=I.list z;have hi:=cX J;have hl:=hi.length;refine St.set_list Y U.isList (ns:=ns) (by simpa using hi) (by simp;unfold scanBound;omega) λh' tk g kp=>?_
  exact⟨.ref s.heap.objs.size,_,I.laidD (d':=s.drawn) kp (pb _) (rA g),rfl,q _ (I.hok.fresh (pb _))⟩
 .obtain⟨its,J,U,_⟩:=I.tuple z;have hi:=cX J;have hl:=hi.length;refine St.wR Y (show s.heap.IsTuple p its.toArray from U) (ns:=ns) (by simpa using hi) (by simp;unfold scanBound;omega) λh' tk g kp=>?_
  exact⟨.ref s.heap.objs.size,_,I.laidD (d':=s.drawn) kp (pb _) (rA g),rfl,q _ (I.hok.fresh (pb _))⟩
end
namespace Srt
noncomputable def sortI(l:List Int):List Int:=im dC l
noncomputable def sortT(l:List (List Int)):List (List Int):=im eR l
def leT(a b:List Int):Prop:=HT.lexLt b a=false
def sortI_perm(l):(sortI l).Perm l:=eS dC l
def sortT_perm(l):(sortT l).Perm l:=eS eR l
def sortI_len(l):(sortI l).length=l.length:=(sortI_perm l).length_eq
def sortT_len(l):(sortT l).length=l.length:=(sortT_perm l).length_eq
def sortT_rises(l):(sortT l).Pairwise leT:=dR eR l
def sortI_of_perm(p:a.Perm b):sortI a=sortI b:=oj dC p
def BU{a b:Int}:dC.kle a b ↔ a<=b:=by
 show decide _=false ↔ a<=b
 simp_all
def sortI_rises(l):(sortI l).Pairwise (· <= ·):=(dR dC l).imp λh=>BU.mp h
section
variable{P:Program}{w:World}{A:Around}{E:Value->Shared->Prop}{s:Shared}
def rB(z:ns.Perm ks)(hs:ns.Pairwise (· <= ·)):ns=sortI ks:=by
 refine mC dC z (hs.imp λ{a b} h=>?_);show decide _=false
 simp_all
def mN(a2:ks.length<64)
  (Y:∀Q',(∀h' tk d' J z,(∀b o,s.heap.get? b=some o->h'.get? b=some o)->z.Perm ks->IntsAre J z->Q' J { s with heap:=h',toks:=tk,drawn:=d' }) ->
   wpAny (model P w) A.in1 (collect x) Q' E s)
  (h:∀(h1 h':Heap) tk d' out c,(∀b o,s.heap.get? b=some o->h1.get? b=some o)->(∀b o,h1.get? b=some o->h'.get? b=some o)->h'.get? h1.objs.size=some { cls:=.type "list",data:=.seq out.toArray c } ->
   IntsAre out (sortI ks)->Q (.ref h1.objs.size) { s with heap:=h',toks:=tk,drawn:=d' }) :
  wpAny (model P w) A (call (.builtin "sorted") [x]) Q E s:=by
 refine Calls.call_function_entry kind_sorted plain_sorted entry_sorted (args_sorted1 _) ?_;unfold Builtin.«sorted»;refine ez (gk ?_);refine ez (Y _ λh1 tk d1 J z kp hp hi=>?_);have a4:=hi.length;have a5:=hp.length_eq;refine ez (wpAny_newList ?_ (by rw[KG];omega));have U:(h1.push (seqObj "list" J.toArray 0)).get? h1.objs.size=some _:=tr _ rfl;refine ez (Kl (Kk slot_list_sort ⟨_,U,rfl⟩ entry_list_sort (list_sort_tree U hi (by omega) λout a6 Z ao ar=>⟨_,rfl,?_⟩) (args_list_sort _)));obtain⟨c,hc⟩:=sortedHeap_at (out:=out) U;refine gk ⟨_,rfl,h h1 _ tk d1 out.toList c kp (λb o e=>?_) ?_ ?_⟩
 .have hb:=tf e;rw[sortedHeap_old (JW hb) (by rw[Kf];exact Ko hb)];exact iA _ e
 .simp_all
 .rw[<- rB (ao.trans hp) ar];exact Z
def mO{vs:List Value}{z:List (List Int)}{Q:Value->Shared->Prop}(a0:vs.length<64)(hu:A.units+2<cLine)
  (hv:Paired (λu ts=>∃a its,u=Value.ref a/\IsTup s.heap a its/\IntsAre its.toList ts) vs z)
  (ao:∀Q',(∀h',(∀b o,s.heap.get? b=some o->h'.get? b=some o)->Q' vs { s with heap:=h' })->wpAny (model P w) A.in1 (collect x) Q' E s)
  (h:∀(h1 h':Heap) (p:Array Nat) (c:Nat),(∀b o,s.heap.get? b=some o->h1.get? b=some o)->(∀b o,h1.get? b=some o->h'.get? b=some o)->h'.get? h1.objs.size=some { cls:=.type "list",data:=.seq (p.toList.map λi=>vs.getD i Value.none).toArray c } ->
   PB vs.length p->p.toList.map (λi=>z.getD i [])=sortT z->Q (.ref h1.objs.size) { s with heap:=h' }) :
  wpAny (model P w) A (call (.builtin "sorted") [x]) Q E s:=by
 have J:vs.length=z.length:=Paired.length hv;refine Calls.call_function_entry kind_sorted plain_sorted entry_sorted (args_sorted1 _) ?_;unfold Builtin.«sorted»;refine ez (m:=checkCount "sorted" 1 1 _) (gk ?_);refine ez (ao _ λh1 kp=>?_);refine ez (wpAny_newList ?_ (by rw[KG];omega));have U:(h1.push (seqObj "list" vs.toArray 0)).get? h1.objs.size=some (seqObj "list" vs.toArray 0):=tr _ rfl;have Y:∀(s':Shared),(∀b o,b≠h1.objs.size->(h1.push (seqObj "list" vs.toArray 0)).get? b=some o->s'.heap.get? b=some o)->∀i,i<vs.length->∃a its,vs.getD i Value.none=.ref a/\IsTup s'.heap a its/\IntsAre its.toList (z.getD i []):=λs' k i hi=>by
  have gen:∀{us:List Value}{Z:List (List Int)},Paired (λu ts=>∃a its,u=Value.ref a/\IsTup s.heap a its/\IntsAre its.toList ts) us Z->∀i,i<us.length->∃a its,us.getD i Value.none=.ref a/\IsTup s.heap a its/\IntsAre its.toList (Z.getD i []):=by
   intro us Z hp
   induction hp with
   |nil=>intro i hi;simp at hi
   |cons q _ ih =>
    intro i hi;cases i with
    |zero=>obtain⟨a,its,e,r⟩:=q;exact⟨a,its,by simpa using e,by simpa using r⟩
    |succ i=>obtain⟨a,its,e,r⟩:=ih i (by simpa using hi);exact⟨a,its,by simpa using e,by simpa using r⟩
  obtain⟨a,its,e,⟨o,ho,r⟩,a3⟩:=gen hv i hi;have ar:=kp a o ho;exact⟨a,its,e,⟨o,k a o (JW (tf ar)) (iA _ ar),r⟩,a3⟩
 refine ez (Kl (Kk slot_list_sort ⟨_,U,rfl⟩ entry_list_sort (p8 (O:=eR) (key:=λi=>z.getD i []) U a0 (λh2 s' Q' k q=>wP h2 (λv hm=>?_) q) (λg a4 s' i j C k hi hj q=>?_) λp hp hr=>⟨_,rfl,?_⟩) (args_list_sort _)))
 .obtain⟨i,hi,e⟩:=getElem_of_mem hm;obtain⟨a,its,e',r1,r2⟩:=Y s' k i hi;exact⟨a,its,_,by rw[<- e',<- e];simp[hi],r1,r2⟩
 .obtain⟨a,its,e,r1,r2⟩:=Y s' k i hi;obtain⟨a',its',e',bB,b0⟩:=Y s' k j hj;rw[e,e'];exact BR a4 r1 bB r2 b0 (show A.units+1+1<cLine from hu) q
 .obtain⟨c,hc⟩:=sortedHeap_at (out:=(p.toList.map λi=>vs.getD i Value.none).toArray) (vs:=vs) U;have b1:PB z.length p:=by rw[<- J];exact hp
  have b2:fk (O:=eR) (λi=>z.getD i []) p z.length:=by rw[<- J];exact hr
  refine gk ⟨_,rfl,h h1 _ p c kp (λb o e=>?_) hc hp (Ek (O:=eR) (d:=([]:List Int)) (xs:=z) b1 b2)⟩;have hb:b<h1.objs.size:=tf e;rw[sortedHeap_old (JW hb) (by rw[Kf];exact Ko hb)];exact iA _ e
end
end Srt
section
variable{X:Cx}
def Inv.keptD(I:Inv X pins σ H s)(k:∀b u,s.heap.get? b=some u->h'.get? b=some u):Inv X pins σ H { s with heap:=h',toks:=t',drawn:=d' }:=
 I.call (g':=s.gens) (d':=d') (t':=t') (ch:=[]) (Un.kept k) (I.hok.kept k) I.bare λ_ z=>nomatch z
def wZ:∀{vs}{ns},IntsAre vs ns->aG (ns.map V.int) vs:=ku
def Eo(X:Cx):List V->Hp->VK->Prop:=λxs H Q=>∃p ks,xs=[.ref p]/\(SqL X.K H p (ks.map V.int)\/SqT X.K H p (ks.map V.int)\/H p=some (i6 X.prog X.w p ks))/\ks.length<64/\∀l,H l=none->Q (.ref l) (upd H l (.lst ((Srt.sortI ks).map V.int)))
def jJ (hc:X.calm=true):bW X (.builtin "sorted") (Eo X):=by
 intro pins s σ H xs us Q I r h;obtain⟨p,ks,rfl,z,ao,q⟩:=h;obtain⟨u,rfl,rx⟩:=d_ r;cases rx;have hh:=I.ok.hd hc;refine Srt.mN (ks:=ks) ao (λQ' J=>?_) λh1 h' tk d' out c k1 k2 e hi=>?_
 .rcases z with z|z|z
  .obtain⟨its,Z,pl,hz⟩:=I.list z;obtain⟨o,ho,U,n,hd⟩:=pl.isList;refine Mz p (.inl rfl) ho U hd (λh' kp=>?_) (by have:=Z.length;simp[r4]<;>omega);exact J h' s.toks s.drawn _ ks kp (.refl _) (by simpa using cX Z)
  .obtain⟨its,Z,pl,hz⟩:=I.tuple z;obtain⟨o,ho,U,n,hd⟩:=pl;refine Mz p (.inr rfl) ho U hd (λh' kp=>?_) (by have:=Z.length;simp[r4]<;>omega);exact J h' s.toks s.drawn _ ks kp (.refl _) (by simpa using cX Z)
  .exact St.rn (by first|exact hh|simpa using hh) (I.set z) λh' tk d' aO Y kp hp hi=>J h' tk d' aO Y kp hp hi
 .have I1:Inv X pins σ H { s with heap:=h1,toks:=tk,drawn:=d' }:=I.keptD k1;have I2:Inv X pins σ (upd H h1.objs.size (.lst ((Srt.sortI ks).map V.int))) { s with heap:=h',toks:=tk,drawn:=d' }:=
   I1.laid k2 (pb _) (show bL X.prog X.w _ h' _ _ from⟨by rw[p0,Srt.sortI_len,KG];omega,out,c,wZ hi,e⟩)
  exact⟨.ref h1.objs.size,_,I2,rfl,q _ (I1.hok.fresh (pb _))⟩
def Ep(X:Cx):List V->Hp->VK->Prop:=λxs H Q=>∃(p:Addr) (vs:List V) (z:List (List Int)),xs=[.ref p]/\(SqL X.K H p vs\/SqT X.K H p vs)/\tO X.K H vs z/\z.length<64 /\
 ∀l (pm:List Nat),H l=none->(∀i∈pm,i<vs.length)->pm.map (λi=>z.getD i [])=Srt.sortT z->Q (.ref l) (upd H l (.lst (pm.map λi=>vs.getD i .non)))
theorem oZ(h:aG vs us):∀(l:List Nat),(∀i∈l,i<vs.length)->aG (l.map λi=>vs.getD i .non) (l.map λi=>us.getD i Value.none)
 | [],_=>.nil
 |i::l,z=>by
  have hi:=z i (.head _);obtain⟨u,U,Y⟩:=h.get (i:=i) (x:=vs[i]) (J1 hi);refine .cons ?_ (oZ h l λj J=>z j (.tail _ J))
  simp_all
def qb (hu:X.A.units+64<cLine):bW X (.builtin "sorted") (Ep X):=by
 intro pins s σ H xs us Q I r h;obtain⟨p,vs,a3,rfl,Y,ht,a4,q⟩:=h;obtain⟨u,rfl,rx⟩:=d_ r;cases rx;have key:∀its,aG vs its->vs.length<=sizeLine->(∀Q',(∀h',(∀b o,s.heap.get? b=some o->h'.get? b=some o)->Q' its { s with heap:=h' })->wpAny (model X.prog X.w) X.A.in1 (collect _) Q' X.xe s) ->
   wpAny _ X.A (call _ [.ref p]) (EP X pins σ Q) X.xe s:=λits z hz Z=>by
  have hl:=z.length;have a6:=ht.len;refine Srt.mO (by omega) (by omega) (I.tupsAt ht z) Z λh1 h' pm c k1 k2 e hp ho=>?_
  have ao:∀i∈pm.toList,i<vs.length:=λi hi=>by
   have:=(Mf.mp hp).mem_iff.mp hi
   simp_all
  have I1:=I.kept (t':=s.toks) k1;have I2:Inv X pins σ (upd H h1.objs.size (.lst _)) { s with heap:=h' }:=
   I1.laid k2 (pb _) (show bL X.prog X.w _ h' _ _ from⟨by have:=hp.size;rw[p0,Array.length_toList,KG];omega,_,c,oZ z _ ao,e⟩)
  exact⟨.ref h1.objs.size,_,I2,rfl,q _ pm.toList (I1.hok.fresh (pb _)) ao ho⟩
 rcases Y with Y|Y
 .obtain⟨its,z,pl,hz⟩:=I.list Y;obtain⟨o,ho,J,n,hd⟩:=pl.isList;refine key its z hz λQ' U=>Mz p (.inl rfl) ho J hd (λh' kp=>?_) (by have:=z.length;simp[r4]<;>omega)
  have:=U h' kp;simpa using this
 .obtain⟨its,z,pl,hz⟩:=I.tuple Y;obtain⟨o,ho,J,n,hd⟩:=pl;refine key its z hz λQ' U=>Mz p (.inr rfl) ho J hd (λh' kp=>?_) (by have:=z.length;simp[r4]<;>omega)
  have:=U h' kp;simpa using this
end
end L2
namespace L2.St
open PySem PyProof.Rows List Option
structure b6(P:Program)(w:World)(h:Heap)(a:Addr)(ks:List Int)(o:Obj)(es:Array (Int×Value))(ep:Nat)(t:SetTable):Prop where
 ho:h.get? a=some o
 ex:o.ExactSet
 hd:o.data=.set es ep t
 el:ElemsOf (intKind P w) es.toList
 pm:(es.toList.map λe=>numOf e.2).Perm ks
 nd:ks.Nodup
 bd:es.size<scanBound
 fi:t.fits es.size=true
theorem b9.w{w:World}(g:b9 P w h a ks):∃o es ep t,b6 P w h a ks o es ep t/\Gd (!byT w) t:=by
 refine ax λZq U=>?_
 obtain⟨o,es,ep,t,ho,z,hd,J,Y,Z,hb,hf,hg⟩:=g;refine U ?_;exact⟨o,es,ep,t,⟨ho,z,hd,J,Y,Z,hb,hf⟩,hg⟩
theorem b6.len(g:b6 P w h a ks o es ep t):es.size=ks.length:=by
 have:=g.pm.length_eq;simpa using this
theorem b6.at(g:b6 P w h a ks o es ep t)(k:∀o,h.get? a=some o->h'.get? a=some o):b6 P w h' a ks o es ep t:=
 ⟨k o g.ho,g.ex,g.hd,g.el,g.pm,g.nd,g.bd,g.fi⟩
section
variable{P:Program}{w:World}{A:Around}{E:Value->Shared->Prop}{s:Shared}
variable{a:Addr}{ks:List Int}{o:Obj}{es:Array (Int×Value)}{ep:Nat}{t:SetTable}
def yQ(g:b6 P w s.heap a ks o es ep t)(J:t.led=!byT w){Q:Array (Int×Value)->Shared->Prop}(h:∀z d',z.toList.Perm es.toList->Q z { s with drawn:=d' }):wpAny (model P w) A (setWalk a) Q E s:=by
 unfold setWalk;refine ez (Kb g.ho g.hd g.fi ?_);dsimp only;refine ez (c_ ?_);cases U:byT w with
 |true =>
  rw[if_pos rfl];refine ez (Nw (gk ?_));exact h _ s.drawn (oV _ _)
 |false =>
  rw[if_neg (by simp)];refine Ke (λ_=>?_) (λ_=>?_)
  .refine ez (jf es.size es.toList s (by simp) λys d' Y=>?_);exact gk (h _ d' (by simpa using Y))
  .refine ez ?_;rw[U]at J;show wpAny _ _ (if (!t.led&&decide _)=true then _ else _) _ _ s;rw[if_neg (by rw[J];simp)];exact gk (gk (h es s.drawn (.refl _)))
def ve:∀z,(∀b∈z,∃ks o es ep t,b6 P w s.heap b ks o es ep t)->∀{Q},Q true s->wpAny (model P w) A (setsQuiet z) Q E s:=by
 intro z hs Q hq;unfold setsQuiet;refine ez (wpAny_forIn_list _ (λbQ b s'=>(∀c∈bQ,c∈z)/\b.1=none/\s'=s) _ ?_ ?_ z _ ⟨λc hc=>hc,rfl,rfl⟩)
 .rintro c bQ b s' ⟨hc,hb,rfl⟩;obtain⟨ks,o,es,ep,t,g⟩:=hs c (hc c (.head _));refine ez (M3 g.ho g.hd g.fi ?_);refine ez (Nc _ (λbQ b J=>(∀e∈bQ,e∈es.toList)/\b.1=none/\J=s') _ ?_ ?_ es _ ⟨λe Y=>Y,rfl,rfl⟩)
  .rintro e Z b' J ⟨Y,U,rfl⟩;obtain⟨t',q⟩:=eM g.el e (Y e (.head _));obtain⟨hx,x⟩:=e;dsimp only at q ⊢;rw[q];exact gk ⟨λe' ao=>Y e' (.tail _ ao),rfl,rfl⟩
  .rintro b' J ⟨_,U,rfl⟩;dsimp only;rw[U];exact gk ⟨λc' ar=>hc c' (.tail _ ar),rfl,rfl⟩
 .rintro b s' ⟨_,hb,rfl⟩;dsimp only;rw[hb];exact gk hq
def yR(g:b6 P w s.heap a ks o es ep t)(U:t.led=!byT w){others:List Addr}(hs:∀b∈others,∃ks o es ep t,b6 P w s.heap b ks o es ep t){Q:Array (Int×Value)->Shared->Prop}
  (h:∀z d',z.toList.Perm es.toList->Q z { s with drawn:=d' }):wpAny (model P w) A (setWalkUnseen a others none) Q E s:=by
 refine ez (Kb g.ho g.hd g.fi ?_);dsimp only;refine ez (c_ ?_);refine Ke (λ_=>?_) (λ_=>?_)
 .exact yQ g U h
 .refine ez (ve _ (λb J=>?_) ?_)
  .rcases wh.mp J with rfl|J
   .exact⟨_,_,_,_,_,g⟩
   .exact hs b J
  .simp only[Mg,J5];refine ez (Lz ?_);exact gk (h es s.drawn (.refl _))
def yS(g:b6 P w s.heap a ks o es ep t)(hl:t.led=!byT w){others:List Addr}(hs:∀b∈others,∃ks o es ep t,b6 P w s.heap b ks o es ep t){f:Addr}(Y:b9 P w s.heap f []){Q:Array (Int×Value)->Shared->Prop}
  (h:∀J d' h',J.toList.Perm es.toList->Heap.SameBut f s.heap h'->b9 P w h' f []->Q J { s with drawn:=d',heap:=h' }):wpAny (model P w) A (setWalkUnseen a others (some f)) Q E s:=by
 unfold setWalkUnseen;refine ez (Kb g.ho g.hd g.fi ?_);dsimp only;refine ez (c_ ?_);refine Ke (λ_=>?_) (λ_=>?_)
 .exact yQ g hl λJ d' hp=>h J d' s.heap hp (Lu f s.heap) Y
 .refine ez (ve (a::others) (λb Z=>?_) ?_)
  .rcases wh.mp Z with rfl|Z
   .exact⟨_,_,_,_,_,g⟩
   .exact hs b Z
  .simp only[Mg,J5,KU];refine ez (Lz ?_);obtain⟨of,ef,a2,U,z,gd⟩:=Y.w;refine ez (Kb z.ho z.hd z.fi ?_);dsimp only;refine Ke (λ_=>?_) (λ_=>?_)
   .have ao:({ U with led:=U.led&&t.led,plain:=U.plain&&t.plain }:SetTable).fits ef.size=true:=z.fi;have ar:Gd (!byT w) ({ U with led:=U.led&&t.led,plain:=U.plain&&t.plain }:SetTable):=⟨by show(U.led&&t.led)=_;rw[gd.led,hl];simp,gd.dum,gd.rise⟩;refine ez (Lv z.ho z.hd ?_ (Lh z.bd));have g2:=u_ (P:=P) (w:=w) z.ho z.ex z.hd ⟨z.el,z.pm,z.nd,z.bd,ao,ar⟩;exact gk (h es s.drawn _ (.refl _) (Km _ f _) g2)
   .exact gk (h es s.drawn s.heap (.refl _) (Lu f s.heap) Y)
def yT(g:b6 P w s.heap a ks o es ep t){k:Int}{tk:Tok}{Q:Option Nat->Shared->Prop}(h:Q (es.toList.findIdx? λe=>(intKind P w).is k e.2) s):wpAny (model P w) A (setFind a (.int k tk) (hashInt k)) Q E s:=by
 have z:(intKind P w).is k (.int k tk)=true:=Nn _ _ _ _;have J:(Value.int k tk).scannable=true:=rfl;unfold setFind setFindIn;refine ez (Kb g.ho g.hd g.fi ?_);dsimp only;rw[byScan_of J g.bd g.el];simp only[↓reduceIte];refine ez (Lz ?_);refine ez (wpAny_setScan_of (knd:=intKind P w) z g.ho g.hd g.fi g.el ?_);cases U:findIdx? (λe=>(intKind P w).is k e.2) es.toList with
 |some j =>
  rw[U]at h;dsimp only;rw[LF];exact gk h
 |none =>
  rw[U]at h;exact gk h
theorem b6.mem(g:b6 P w s.heap a ks o es ep t) :k∈ks ↔ ∃e∈es.toList,(intKind P w).is k e.2=true:=by
 rw[<- g.pm.mem_iff,mem_map];constructor
 .rintro ⟨e,z,q⟩;exact⟨e,z,(je g.el z k).mpr q⟩
 .rintro ⟨e,z,q⟩;exact⟨e,z,(je g.el z k).mp q⟩
def rC(g:b6 P w s.heap a ks o es ep t)(k):(es.toList.findIdx? λe=>(intKind P w).is k e.2).isSome=decide (k∈ks):=by
 rw[Kv,KL,g.mem,findIdx?_isSome,Ka]
end
section
variable{P:Program}{w:World}{A:Around}{E:Value->Shared->Prop}{s:Shared}
def b6.type (g:b6 P w s.heap a ks o es ep t):s.TypeIs (.ref a) "set":=⟨o,g.ho,g.ex.1⟩
def jK (z:s.TypeIs (.ref a) "set") {Q:Bool->Shared->Prop} (h:Q true s):wpAny (model P w) A (Builtin.Frozenset.isAnySet (.ref a)) Q E s:=by
 refine ez (KY z F.sub_set_set ?_);exact gk h
def rD (z:s.TypeIs (.ref a) "set") {Q:Value->Shared->Prop} (h:Q (.type "set") s):wpAny (model P w) A (Builtin.Frozenset.baseOf a) Q E s:=by
 refine ez (KY z F.sub_set_set ?_);exact gk h
def fV(g:b6 P w s.heap a ks o es ep t){Q:Nat->Shared->Prop}(h:Q ks.length s):wpAny (model P w) A (Builtin.Frozenset.sizeOf a) Q E s:=by
 refine ez (M3 g.ho g.hd g.fi ?_);rw[<- g.len]at h;exact gk h
def Er{id:String}{a:Addr}{ks:List Int}{o:Obj}{es:Array (Int×Value)}{ep:Nat}{t:SetTable}(g:b6 P w s.heap a ks o es ep t){α:Type}{x:α}{R:α->Shared->Prop}(h:R x s):wpAny (model P w) A (Builtin.Frozenset.unchanged id a ep >>= λ_=>pure x) R E s:=by
 unfold Builtin.Frozenset.unchanged;refine ez (ez (Lw g.ho g.hd g.fi ?_));simp only[LX,J5,KU];exact gk (gk h)
def Es{id:String}{a b:Addr}{ks js:List Int}{Q:Value->Shared->Prop}(ga:b9 P w s.heap a ks)(gb:b9 P w s.heap b js)(cd:¬ ks.length / 4 > js.length)
  (h:∀h' d' J,(∀c o,s.heap.get? c=some o->h'.get? c=some o)->J.Perm (ks.filter λk=>!decide (k∈js))->b9 P w h' s.heap.objs.size J->Q (.ref s.heap.objs.size) { s with heap:=h',drawn:=d' }) :
  wpAny (model P w) A (Builtin.Frozenset.difference id a (.ref b)) Q E s:=by
 obtain⟨oa,ea,c4,ta,Z,ck⟩:=ga.w;obtain⟨ob,eb,c5,tb,wb,c6⟩:=gb.w;unfold Builtin.Frozenset.difference;refine ez (jK wb.type ?_);simp only[Mg,J5,KU,M5,if_true,Builtin.Frozenset.addrOf,pure_bind];refine ez (fV wb ?_);refine ez (fV Z ?_);rw[if_neg cd];refine ez (rD Z.type ?_);refine ez (p_ ?_);have keep:∀c o,s.heap.get? c=some o->(s.heap.push (bt w)).get? c=some o:=λc o e=>iA _ e
 have ao:=Z.at (keep a);have cl:=wb.at (keep b);have gn:b9 P w (s.heap.push (bt w)) s.heap.objs.size []:=rm _;have ha:=JW (tf Z.ho);have hb:=JW (tf wb.ho);refine ez (gk ?_);refine ez (Lw (s:={ s with heap:=s.heap.push (bt w) }) ao.ho ao.hd ao.fi ?_);refine ez (Kl ?_);refine ez (yS (s:={ s with heap:=s.heap.push (bt w) }) ao ck.led (others:=[b,s.heap.objs.size]) (λc hc=>?_) gn λar d0 h0 hp cu g0=>?_)
 .rcases wh.mp hc with rfl|hc
  .exact⟨_,_,_,_,_,cl⟩
  .rw[J8.mp hc];obtain⟨_,_,_,_,q,_⟩:=gn.w;exact⟨_,_,_,_,_,q⟩
 have a1:=Z.el.perm hp;have hK:=(hp.map _).trans Z.pm;have a6:=hK.nodup_iff.mpr Z.nd;refine ez (Nc _ (λbQ _ s'=>∃dn h' d' J,dn++bQ=ar.toList/\s'={ s with heap:=h',drawn:=d' }/\Heap.SameBut s.heap.objs.size (s.heap.push (bt w)) h'/\b9 P w h' s.heap.objs.size J/\J.Perm ((dn.map λe:Int×Value=>numOf e.2).filter λk=>!decide (k∈js))) _ ?_ ?_ ar _ ⟨[],h0,d0,[],rfl,rfl,cu,g0,by simp⟩)
 .rintro ⟨hx,x⟩ bQ u s' ⟨dn,h',d',J,e1,rfl,sb,gl,pl⟩;have U:(hx,x)∈ar.toList:=by rw[<- e1];simp
  obtain⟨t',q⟩:=eM a1 _ U;obtain⟨⟨k0,cA,aO⟩,_⟩:=a1 _ U;have a3:=(je a1 U k0).mp cA;dsimp only at q a3 aO;generalize numOf x=k at q a3;subst q a3;have aO:=aO;subst aO;have Y:∀c o,c≠s.heap.objs.size->s.heap.get? c=some o->h'.get? c=some o:=λc o hc e=>(sb.2 c hc).trans (keep c o e)
  have b0:=Z.at λo e=>Y a o ha e
  have b1:=wb.at λo e=>Y b o hb e
  dsimp only;have b2:numOf (Value.int k t')=k:=rfl;have cB:k∉J:=λz=>by
   have:=pl.mem_iff.mp z;have:=(Kg.mp this).1;rw[<- e1,K8,JY]at a6;exact(LH.mp a6).2.2 k this k (by rw[b2];exact .head _) rfl
  refine ez (Kl ?_);refine ez (yT (s:={ s with heap:=h',drawn:=d' }) b1 ?_);rw[rC (s:={ s with heap:=h',drawn:=d' }) b1 k];by_cases hj:k∈js
  .simp only[hj,decide_true,Mg,J5,KU];refine gk (Er (s:={ s with heap:=h',drawn:=d' }) b0 ⟨dn++[(hashInt k,Value.int k t')],h',d',J,by rw[KZ];exact e1,rfl,sb,gl,?_⟩)
   simp_all
  .simp only[hj,decide_false,Bool.not_false,if_true];have a4:J.length+1<scanBound:=by
    have h1:=pl.length_eq;have h2:=Md (λk=>!decide (k∈js)) (dn.map λe:Int×Value=>numOf e.2);rw[p0]at h2;have h3:ar.toList.length<scanBound:=by rw[hp.length_eq,Array.length_toList];exact Z.bd
    rw[<- e1,J0,length_cons]at h3;omega
   refine ez (oT (s:={ s with heap:=h',drawn:=d' }) gl a4 λb3 b' b4 g2=>?_);rw[if_neg cB]at g2;have cL:=b0.at λo e=>(b4.2 a ha).trans e
   refine gk (Er (s:={ s with heap:=b3,drawn:=d' }) cL ⟨dn++[(hashInt k,Value.int k t')],b3,d',k::J,by rw[KZ];exact e1,rfl,sb.trans b4,g2,?_⟩);rw[K8,filter_append];have:filter (λk=>!decide (k∈js)) (map (λe:Int×Value=>numOf e.2) [(hashInt k,Value.int k t')])=[k]:=by simp[b2,hj]
   rw[this];exact(Perm.cons k pl).trans (Mb (l₁:=[k]))
 .rintro u s' ⟨dn,h',d',J,e1,rfl,sb,gl,pl⟩;rw[Le]at e1;subst e1;refine gk (gk (h h' d' J (λc o e=>?_) (pl.trans (hK.filter _)) gl));exact(sb.2 c (JW (tf e))).trans (keep c o e)
end
noncomputable def itL(m:Nat):Nat->Nat->Nat
 |0,i=>i
 |t+1,i=>itL m t ((i*5+1) % (m+1))
theorem lR(m):∀a b i,itL m (a+b) i=itL m b (itL m a i)
 |0,b,i=>by rw[LF];rfl
 |a+1,b,i=>by rw[KI];exact lR m a b _
noncomputable def fW(m:Nat):Bool:=itL m (m+1) 0==0&&(range (m+1)).all λj=>(range (m+1)).any λt=>itL m t 0==j
theorem vf(h:itL m (m+1) 0=0):∀q r,itL m (q*(m+1)+r) 0=itL m r 0
 |0,r=>by simp
 |q+1,r=>by
  have e:(q+1)*(m+1)+r=(m+1)+(q*(m+1)+r):=by rw[Nat.succ_mul];omega
  rw[e,lR,h,vf h q r]
def cov{m:Nat}(h:fW m=true){i j:Nat}(hi:i<=m)(Y:j<=m):∃t,t<=m/\itL m t i=j:=by
 unfold fW at h;rw[mu,JZ,LD]at h;obtain⟨Z,h1⟩:=h;have z:∀x,x<=m->∃t,t<=m/\itL m t 0=x:=λx hx=>by
  have:=h1 x (MK.mpr (by omega));rw[Ka]at this;obtain⟨t,ht,e⟩:=this;exact⟨t,by have:=MK.mp ht;omega,by simpa using e⟩
 obtain⟨a,ha,J⟩:=z i hi;obtain⟨b,hb,U⟩:=z j Y;rcases Nat.lt_or_ge b a with c|c
 .obtain⟨k,rfl⟩:=Lj c;refine⟨m-k,Mu m k,?_⟩;rw[<- J,<- lR,show b+k+1+(m-k)=1*(m+1)+b by omega,vf Z,U]
 .refine⟨b-a,uw (Mu b a) hb,?_⟩;rw[<- J,<- lR,M0 c,U]
def Dg:fW 7=true:=rfl
def Et:fW 15=true:=rfl
def Eu:fW 31=true:=rfl
def Ev:fW 63=true:=by decide +kernel
def BV:fW 127=true:=by decide +kernel
def BW:fW 255=true:=by decide +kernel
noncomputable def lp(m:Nat):Nat->Nat×Nat->Nat×Nat
 |0,p=>p
 |t+1,p=>lp m t (SetTable.leap m p.1 p.2)
theorem yU(m):∀a b p,lp m (a+b) p=lp m b (lp m a p)
 |0,b,p=>by rw[LF];rfl
 |a+1,b,p=>by rw[KI];exact yU m a b _
theorem vg(m):∀t i,lp m t (i,0)=(itL m t i,0)
 |0,_=>rfl
 |t+1,i=>by
  show lp m t (SetTable.leap m i 0)=_;have:SetTable.leap m i 0=((i*5+1) % (m+1),0):=by simp[SetTable.leap]
  rw[this,vg m t]
  rfl
theorem Dh(m):∀t p,p.1<=m->(lp m t p).1<=m
 |0,_,h=>h
 |t+1,p,_=>Dh m t _ (by
  show(p.1*5+1+p.2 / 32) % (m+1)<=m;have:=NC (p.1*5+1+p.2 / 32) (show 0<m+1 by omega);omega)
theorem vh(m):∀t p,(lp m t p).2=p.2 / 32 ^ t
 |0,p=>by simp[lp]
 |t+1,p=>by
  show(lp m t (SetTable.leap m p.1 p.2)).2=_;rw[vh m t];show p.2 / 32 / 32 ^ t=_;rw[Nat.div_div_eq_div_mul,Nat.pow_succ,Nat.mul_comm]
theorem o3 :∀z i p,SetTable.layClean.free m ow z i p=none->∀t,t<z->(ow.getD (lp m t (i,p)).1 (some 0)).isNone=false
 |0,_,_,_,t,h=>absurd h (by omega)
 |z+1,i,p,e,t,h=>by
  rw[SetTable.layClean.free]at e;split at e
  .cases e
  .rename_i q;cases t with
   |zero =>
    have:=find?_eq_none.mp q 0 (MK.mpr (by unfold SetTable.runEnd;split<;>omega));exact(K9 _).mp this
   |succ t=>exact o3 z _ _ e t (by omega)
theorem o4 :∀z i p k,SetTable.layClean.free m ow z i p=some k->(ow.getD k (some 0)).isNone=true
 |0,_,_,_,e=>by cases e
 |z+1,i,p,k,e=>by
  rw[SetTable.layClean.free]at e;split at e
  .rename_i q;cases e;exact find?_some (p:=λk=>(ow.getD (i+k) (some 0)).isNone) q
  .exact o4 z _ _ k e
def BX(U:fW m=true)(Y:j<=m)(Z:(ow.getD j (some 0)).isNone=true)(hi:i<=m)(hp:p<2 ^ 64):∃k,SetTable.layClean.free m ow (SetTable.turns m) i p=some k/\(ow.getD k (some 0)).isNone=true:=by
 cases e:SetTable.layClean.free m ow (SetTable.turns m) i p with
 |some k=>exact⟨k,rfl,o4 _ _ _ _ e⟩
 |none =>
  exfalso;have q:=o3 _ _ _ e;obtain⟨t,ht,et⟩:=cov U (Dh m 13 (i,p) hi) Y;have z:(lp m 13 (i,p)).2=0:=by
   rw[vh];exact Nat.div_eq_of_lt (JX hp (by decide))
  have J:lp m 13 (i,p)=((lp m 13 (i,p)).1,0):=by rw[<- z]
  have:=q (13+t) (by unfold SetTable.turns;omega);rw[yU,J,vg,et]at this;rw[Z]at this;cases this
noncomputable def vals(m:Nat)(ow:Array (Option Nat)):List Nat:=(range (m+1)).filterMap λj=>ow.getD j none
theorem yV{j k:Nat}(h1:g j=none)(h2:g' j=some k)(U:∀x,x≠j->g' x=g x):∀l:List Nat,l.Nodup->j∈l->(l.filterMap g').Perm (k::l.filterMap g)
 | [],_,h=>by cases h
 |x::l,Y,h=>by
  obtain⟨Z,n2⟩:=Kt.mp Y;by_cases e:x=j
  .subst e;rw[M4 h1,Mj h2];have:∀J:List Nat,x∉J->J.filterMap g'=J.filterMap g:=by
    intro J
    induction J with
    |nil=>intro _;rfl
    |cons y J ih =>
     intro hx;have hy:y≠x:=λz=>hx (z ▸ .head _)
     rw[filterMap_cons,filterMap_cons,U y hy,ih λz=>hx (.tail _ z)]
   rw[this l Z]
  .have hm:=(wh.mp h).resolve_left λz=>e z.symm
   have ih:=yV h1 h2 U l n2 hm;cases q:g x with
   |none =>
    rw[M4 q,M4 ((U x e).trans q)];exact ih
   |some v =>
    rw[Mj q,Mj ((U x e).trans q)];exact(Perm.cons v ih).trans (Perm.swap k v _)
theorem yW{g:Nat->Option Nat}:∀l:List Nat,(∀x∈l,g x≠none)->(l.filterMap g).length=l.length
 | [],_=>rfl
 |x::l,h=>by
  cases q:g x with
  |none=>exact absurd q (h x (.head _))
  |some v =>
   rw[Mj q,length_cons,length_cons,yW l λy z=>h y (.tail _ z)]
def yX(hs:ow.size=m+1)(h:(vals m ow).length<=m):∃j,j<=m/\(ow.getD j (some 0)).isNone=true:=by
 cases Nx (∃j,j<=m/\ow.getD j none=none)with
 |inl q =>
  obtain⟨j,U,e⟩:=q;refine⟨j,U,?_⟩;have J:j<ow.size:=by omega
  simp[Array.getD,J]at e ⊢;exact e
 |inr q =>
  have:=yW (g:=λj=>ow.getD j none) (range (m+1)) λx hx z=>q ⟨x,by have:=MK.mp hx;omega,z⟩
  unfold vals at h;rw[this,MW]at h;omega
noncomputable abbrev Ew(m:Nat):Option (Array (Option Nat)×Nat)->Int->Option (Array (Option Nat)×Nat):=λacc h=>do
  let (owner,k) <- acc
  let j <- SetTable.layClean.free m owner (SetTable.turns m) (SetTable.bits h % (m+1)) (SetTable.bits h)
  pure (owner.setIfInBounds j (some k),k+1)
def BY(h):SetTable.bits h<2 ^ 64:=by grind [SetTable.bits]
theorem yY(hg:fW m=true):∀(hs:List Int) ow k,ow.size=m+1->(vals m ow).Perm (range k)->k+hs.length<=m ->
  ∃J,hs.foldl (Ew m) (some (ow,k))=some (J,k+hs.length)/\J.size=m+1/\(vals m J).Perm (range (k+hs.length))
 | [],ow,k,h1,h2,_=>⟨ow,rfl,h1,h2⟩
 |h::hs,ow,k,h1,h2,h3=>by
  refine ax λZq kq=>?_
  rw[length_cons]at h3;have hl:=h2.length_eq;rw[MW]at hl;obtain⟨j0,Y,Z⟩:=yX h1 (by omega);obtain⟨j,ej,hj⟩:=BX hg (ow:=ow) (i:=SetTable.bits h % (m+1)) (p:=SetTable.bits h) Y Z (by have:=NC (SetTable.bits h) (show 0<m+1 by omega);omega) (BY h);have U:j<ow.size:=by
   refine Decidable.byContradiction λz=>?_
   simp[Array.getD,z]at hj
  have e1:Ew m (some (ow,k)) h=some (ow.setIfInBounds j (some k),k+1):=by
   show(Option.bind (SetTable.layClean.free m ow (SetTable.turns m) (SetTable.bits h % (m+1)) (SetTable.bits h)) _)=_;rw[ej]
   rfl
  have hv:(vals m (ow.setIfInBounds j (some k))).Perm (range (k+1)):=by
   refine(yV (g:=λj=>ow.getD j none) (j:=j) (k:=k) ?_ ?_ ?_ (range (m+1)) nodup_range (MK.mpr (by omega))).trans ?_
   .simp[Array.getD,U]at hj ⊢;exact hj
   .simp[Array.getD,U]
   .intro x hx;simp only[Lm,Array.getElem?_setIfInBounds];rw[if_neg λz=>hx z.symm]
   .rw[range_succ (n:=k)];exact(Perm.cons k h2).trans (Mb (l₁:=[k]))
  obtain⟨J,q1,q2,q3⟩:=yY hg hs (ow.setIfInBounds j (some k)) (k+1) (by rw[Array.size_setIfInBounds];exact h1) hv (by omega);refine kq ?_;refine⟨J,?_,q2,?_⟩
  .rw[foldl_cons,e1,q1,length_cons]
   congr 2;omega
  .rw[length_cons]
   grind
def vi(Y:fW m=true){led plain:Bool}(h:hs.size<=m):∃t z,SetTable.laid m f mv led plain hs=some (t,z)/\z.toList.Perm (range hs.size)/\t.place.size=hs.size/\t.mask=m/\t.dummies=#[]:=by
 have Z:(vals m (Array.replicate (m+1) none)).Perm (range 0):=by
  have:vals m (Array.replicate (m+1) none)=[]:=by
   unfold vals
   simp_all
  rw[this];simp
 obtain⟨ow,U,e2,J⟩:=yY Y hs.toList (Array.replicate (m+1) none) 0 (by simp) Z (by simpa using h);rw[LF,Array.length_toList]at U J;have ec:SetTable.layClean m hs=some ow:=by
  unfold SetTable.layClean;rw[<- Array.foldl_toList];show Option.map _ (hs.toList.foldl (Ew m) _)=_;rw[U]
  rfl
 have el:((range (m+1)).filterMap λj=>(ow.getD j none).map (j,·)).map (·.2)=vals m ow:=by
  unfold vals;rw[map_filterMap]
  congr 1
  funext j
  cases ow.getD j none<;>rfl
 refine⟨_,_,by unfold SetTable.laid;rw[ec];rfl,?_,?_,rfl,rfl⟩
 .show(map _ _).Perm _;rw[el];exact J
 .show(map _ _).toArray.size=_;rw[r4,p0];have:=Kn List.length el;rw[p0]at this;rw[this,J.length_eq,MW]
def Hi:∀n,n<241->(SetTable.sizeAbove n=8\/SetTable.sizeAbove n=16\/SetTable.sizeAbove n=32\/SetTable.sizeAbove n=64\/SetTable.sizeAbove n=128\/SetTable.sizeAbove n=256)/\n<SetTable.sizeAbove n:=by decide +kernel
def vj(h:n<241):fW (SetTable.sizeAbove n-1)=true/\n<=SetTable.sizeAbove n-1/\SetTable.sizeAbove n<=256:=by
 obtain⟨h1,h2⟩:=Hi n h;refine⟨?_,by omega,by omega⟩;rcases h1 with e|e|e|e|e|e<;>rw[e]
 .exact Dg
 .exact Et
 .exact Eu
 .exact Ev
 .exact BV
 .exact BW
def mP{es:Array (Int×Value)}{z:Array Nat}(h:z.toList.Perm (range es.size)):(z.filterMap (es[·]?)).toList.Perm es.toList:=by
 rw[Array.toList_filterMap];refine(h.filterMap _).trans ?_;have:=PySem.List.filterMap_getElem?_range_length es.toList
 simp_all
section
variable{P:Program}{w:World}{A:Around}{E:Value->Shared->Prop}{s:Shared}
variable{a:Addr}{ks:List Int}{o:Obj}{es:Array (Int×Value)}{ep:Nat}{t:SetTable}
def lS(g:b6 P w h a ks o es ep t)(J:ElemsOf (intKind P w) z.toList)(U:(z.toList.map λe=>numOf e.2).Perm ks')(Y:ks'.Nodup)(Z:z.size<scanBound)(hf:t'.fits z.size=true) :
  b6 P w (h.update a (Obj.putSet z t')) a ks' { o with data:=.set z (ep+1) t' } z (ep+1) t':=by
 have hq:(h.update a (Obj.putSet z t')).get? a=some { o with data:=.set z (ep+1) t' }:=by
  have:=Kx (Obj.putSet z t') g.ho (by rw[putSet_of z t' g.hd];rfl);rw[putSet_of z t' g.hd]at this;exact this
 exact⟨hq,g.ex,rfl,J,U,Y,Z,hf⟩
def BZ:(256:Nat)<=sizeLine:=by simp_all [KG]
def vk(g:b6 P w s.heap a ks o es ep t){z:Nat}(hw:z<241)(hn:es.size<=z){Q:Unit->Shared->Prop}
  (h:∀h' o' ao ar t',Heap.SameBut a s.heap h'->b6 P w h' a ks o' ao ar t'->t'.dummies=#[]->t'.mask=SetTable.sizeAbove z-1->Q () { s with heap:=h' }):wpAny (model P w) A (setRelay a z) Q E s:=by
 obtain⟨hg,a6,hz⟩:=vj hw;unfold setRelay;refine ez (Kb g.ho g.hd g.fi ?_);dsimp only;rw[if_neg (by have:=BZ;omega)];obtain⟨t',J,e1,e2,e3,e4,e5⟩:=vi hg (f:=t.finger) (mv:=t.movedTo (SetTable.sizeAbove z-1)) (led:=t.led) (plain:=t.plain) (hs:=es.map (·.1)) (by rw[Mv];omega);have a0:t.relaid (es.map (·.1)) z=some (t',J):=e1;rw[Mv]at e2 e3;have hp:=mP e2;have Y:(J.filterMap (es[·]?)).size=es.size:=by rw[<- Array.length_toList,hp.length_eq,Array.length_toList]
 rw[a0];refine ez (M9 (a:=(J.filterMap (es[·]?),t')) ?_ ?_)
 .show(if ((J.filterMap (es[·]?)).size != es.size)=true then _ else _)=_
  simp_all
 .dsimp only;have Z:(J.filterMap (es[·]?)).size<scanBound:=by rw[Y];exact g.bd
  have a2:t'.fits (J.filterMap (es[·]?)).size=true:=by
   have U:t'.fill=es.size:=by unfold SetTable.fill;rw[e5,e3];simp
   simp only[SetTable.fits,U,mu,JZ,Kh];exact⟨by rw[e3,Y],by omega⟩
  refine Lv g.ho g.hd ?_ (Lh Z);exact h _ _ _ _ _ (Km _ a _) (lS g (g.el.perm hp) ((hp.map _).trans g.pm) g.nd Z a2) e5 e4
def Ex(g:b6 P w s.heap a [] o es ep t)(hd:t.dummies=#[])(Z:t.mask=7){n:Nat}(hn:n<=60){Q:Unit->Shared->Prop}
  (h:∀h' o' J U t',Heap.SameBut a s.heap h'->b6 P w h' a [] o' J U t'->t'.dummies=#[]->fW t'.mask=true->n<=t'.mask->Q () { s with heap:=h' }):wpAny (model P w) A (setRoomFor a n) Q E s:=by
 have hz:es.size=0:=g.len;have Y:t.place.size=0:=by
  have:=g.fi;simp only[SetTable.fits,mu,JZ]at this;omega
 have z:t.fill=0:=by unfold SetTable.fill;rw[hd,Y];rfl
 unfold setRoomFor;refine ez (Kb g.ho g.hd g.fi ?_);have er:t.roomFor n=if (0+n)*5>=7*3 then some ((0+n)*2)else none:=by
  unfold SetTable.roomFor;rw[z,Y,Z]
 dsimp only;rw[er];by_cases c:(0+n)*5>=7*3
 .rw[if_pos c];dsimp only;have hw:(0+n)*2<241:=by omega
  refine vk g hw (by omega) λh' o' J U t' sb g' h1 h2=>?_
  obtain⟨q1,q2,_⟩:=vj hw
  grind
 .rw[if_neg c];exact gk (h s.heap o es ep t (Lu a s.heap) g hd (by rw[Z];exact Dg) (by omega))
def Ey(g:b6 P w s.heap a ks o es ep t)(h0:0<ks.length)(hn:ks.length<=60){Q:Value->Shared->Prop}
  (h:∀h' o' U Z t',(∀c o,s.heap.get? c=some o->h'.get? c=some o)->b6 P w h' s.heap.objs.size ks o' U Z t'->Q (.ref s.heap.objs.size) { s with heap:=h' }):wpAny (model P w) A (Builtin.Frozenset.copyOf a) Q E s:=by
 have keep:∀c o,s.heap.get? c=some o->(s.heap.push (bt w)).get? c=some o:=λc o e=>iA _ e
 have ha:=JW (tf g.ho);unfold Builtin.Frozenset.copyOf;refine ez (rD g.type ?_);refine ez (p_ ?_);simp only[Builtin.Frozenset.addrOf,pure_bind];have g1:b6 P w (s.heap.push (bt w)) s.heap.objs.size [] (bt w) #[] 0 (.fresh 0 0 (!byT w)):=⟨tr _ rfl,⟨rfl,rfl,rfl⟩,rfl,λe he=>by simp at he,by simp,Li,by decide,by rfl⟩;have a1:(s.heap.objs.size==a)=false:=by simpa using λz=>ha z.symm
 have ga:=g.at (keep a);have a3:es.isEmpty=false:=by
  have:=g.len;rw[Array.isEmpty_eq_false_iff];intro z
  simp_all
 unfold setMerge;rw[a1];simp only[J5,KU,MC];refine ez (Kb (s:={ s with heap:=s.heap.push (bt w) }) ga.ho ga.hd ga.fi ?_);simp only[a3,J5,KU,MC];refine ez (Ex (s:={ s with heap:=s.heap.push (bt w) }) g1 rfl rfl (n:=es.size) (by have:=g.len;omega) λh' o' U Z t' sb g' hd hm b5=>?_);have fin:∀h' o' U Z t',Heap.SameBut s.heap.objs.size (s.heap.push (bt w)) h'->b6 P w h' s.heap.objs.size ks o' U Z t'->Q (.ref s.heap.objs.size) { s with heap:=h' }:=λh' o' U Z t' sb g' =>
  h h' o' U Z t' (λc o e=>(sb.2 c (JW (tf e))).trans (keep c o e)) g'
 refine ez (Kb (s:={ s with heap:=h' }) g'.ho g'.hd g'.fi ?_);have hz:U.size=0:=g'.len;have a4:t'.place.size=0:=by
  have:=g'.fi;simp only[SetTable.fits,mu,JZ]at this;omega
 have Y:t'.fill=0:=by unfold SetTable.fill;rw[hd,a4];rfl
 have ao:t'.road t=if (t'.mask==t.mask&&t.dummies.isEmpty)=true then .slotForSlot else .clean:=by
  unfold SetTable.road;rw[Y]
  rfl
 dsimp only;rw[ao];by_cases c:(t'.mask==t.mask&&t.dummies.isEmpty)=true
 .rw[if_pos c];dsimp only;refine ez (Lv (s:={ s with heap:=h' }) g'.ho g'.hd ?_ (Lh g.bd));refine gk (fin _ _ _ _ _ (sb.trans (Km _ _ _)) (lS g' g.el g.pm g.nd g.bd ?_));exact g.fi
 .rw[if_neg c];dsimp only;refine ax λZq kq=>?_
  obtain⟨t2,J,e1,e2,e3,e4,e5⟩:=vi hm (f:=t'.finger) (mv:=t'.moves) (led:=t'.led&&t.led) (plain:=t'.plain&&t.plain) (hs:=es.map (·.1)) (by rw[Mv];have:=g.len;omega);rw[Mv]at e2 e3;have hp:=mP e2;have ar:(J.filterMap (es[·]?)).size=es.size:=by rw[<- Array.length_toList,hp.length_eq,Array.length_toList]
  have aO:(J.filterMap (es[·]?)).size<scanBound:=by rw[ar];exact g.bd
  refine kq ?_;rw[e1];simp only[MC];refine ez (M9 (a:=(J.filterMap (es[·]?),t2)) ?_ ?_)
  .show(if ((J.filterMap (es[·]?)).size != es.size)=true then _ else _)=_;rw[if_neg (by rw[ar];simp)]
  .dsimp only;have bA:t2.fits (J.filterMap (es[·]?)).size=true:=by
    have Y:t2.fill=es.size:=by unfold SetTable.fill;rw[e5,e3];simp
    simp only[SetTable.fits,Y,mu,JZ,Kh]
    simp_all
   refine ez (Lv (s:={ s with heap:=h' }) g'.ho g'.hd ?_ (Lh aO));exact gk (fin _ _ _ _ _ (sb.trans (Km _ _ _)) (lS g' (g.el.perm hp) ((hp.map _).trans g.pm) g.nd aO bA))
def eD(xs:Array α)(i):(SetTable.eraseAt xs i).toList=xs.toList.eraseIdx i:=by
 unfold SetTable.eraseAt;rw[Array.toList_append,Array.toList_extract,Array.toList_extract,Mh,extract_eq_take_drop,extract_eq_take_drop];simp;exact Nj (by simp)
def w8(g:b6 P w s.heap a ks o es ep t){k:Int}{tk:Tok}{Q:Bool->Shared->Prop}
  (h:∀b h' o' a1 a2 t',Heap.SameBut a s.heap h'->b6 P w h' a (ks.filter λx=>!decide (x=k)) o' a1 a2 t'->Q b { s with heap:=h' }):wpAny (model P w) A (setDiscardHashed a (.int k tk) (hashInt k)) Q E s:=by
 unfold setDiscardHashed;refine ez (yT g ?_);cases hr:findIdx? (λe=>(intKind P w).is k e.2) es.toList with
 |none =>
  have hk:k∉ks:=λz=>by
   have:=rC (s:=s) g k;rw[hr]at this;simp[z]at this
  have e:ks.filter (λx=>!decide (x=k))=ks:=Lb.mpr λx hx=>by
   have:x≠k:=λz=>hk (z▸hx)
   simpa using this
  have e2:s={ s with heap:=s.heap }:=by cases s;rfl
  rw[e]at h;have:=h false s.heap o es ep t (Lu a s.heap) g;exact gk this
 |some i =>
  obtain⟨hi,a3,_⟩:=findIdx?_eq_some_iff_getElem.mp hr;dsimp only;refine ez (Kb g.ho g.hd g.fi ?_);dsimp only;have U:numOf (es.toList[i]).2=k:=(je g.el (Na hi) k).mp a3;have a4:=gG (J1 hi);have Y:(SetTable.eraseAt es i).size=es.size-1:=by
   rw[<- Array.length_toList,eD,L7 hi,Array.length_toList]
  have b0:i<es.size:=by simpa using hi
  have Z:(SetTable.eraseAt es i).size<scanBound:=by rw[Y];have:=g.bd;omega
  have J:=g.fi;simp only[SetTable.fits,mu,JZ,Kh]at J;have ao:i<t.place.size:=by omega
  have a5:(t.drop i).fits (SetTable.eraseAt es i).size=true:=by
   have ed:t.drop i={ t with place:=SetTable.eraseAt t.place i,dummies:=SetTable.insertAt t.dummies (SetTable.below t.dummies (t.place[i])) (t.place[i]) }:=by
    unfold SetTable.drop;rw[Mo ao]
   rw[ed];have h1:(SetTable.eraseAt t.place i).size=t.place.size-1:=by
    rw[<- Array.length_toList,eD,L7 (by simpa using ao),Array.length_toList]
   have h2:(SetTable.insertAt t.dummies (SetTable.below t.dummies (t.place[i])) (t.place[i])).size<=t.dummies.size+1:=by
    unfold SetTable.insertAt;generalize SetTable.below t.dummies (t.place[i])=p;rw[Array.size_append,Array.size_push,LN,LN,Nv,Nat.sub_zero];rcases Nat.le_total p t.dummies.size with q|q
    .rw[LO q,KI,M0 q];exact pb _
    .rw[Nat.min_eq_right q,Nat.sub_eq_zero_of_le q];exact pb _
   have h3:(⟨t.mask,SetTable.eraseAt t.place i,SetTable.insertAt t.dummies (SetTable.below t.dummies (t.place[i])) (t.place[i]),t.finger,t.led,t.moves,t.plain⟩:SetTable).fill<=t.mask:=by
    show(SetTable.eraseAt t.place i).size+(SetTable.insertAt t.dummies (SetTable.below t.dummies (t.place[i])) (t.place[i])).size<=t.mask;have:t.place.size+t.dummies.size<=t.mask:=J.2;omega
   simp only[SetTable.fits,mu,JZ,Kh];exact⟨by rw[h1,Y,J.1],h3⟩
  have ar:ElemsOf (intKind P w) (SetTable.eraseAt es i).toList:=λe he=>g.el e (by rw[eD]at he;exact Mk he)
  have aO:((SetTable.eraseAt es i).toList.map λe=>numOf e.2).Perm (ks.filter λx=>!decide (x=k)):=by
   rw[eD];have h1:(k::(es.toList.eraseIdx i).map λe=>numOf e.2).Perm ks:=by
    have:=(a4.map λe=>numOf e.2).trans g.pm;rwa[JY,U]at this
   have h2:=h1.nodup_iff.mpr g.nd;obtain⟨n1,_⟩:=Kt.mp h2;have h3:=h1.filter λx=>!decide (x=k)
   rw[KJ (by simp)]at h3;refine Perm.trans (Perm.of_eq ?_) h3;refine(Lb.mpr λx hx=>?_).symm;have:x≠k:=λz=>n1 (z▸hx)
   simpa using this
  refine ez (Lv g.ho g.hd ?_ (Lh Z));refine ez (wpAny_point ?_);exact gk (h true _ _ _ _ _ (Km _ _ _) (lS g ar aO (g.nd.filter _) Z a5))
def Hj{id:String}{r b:Addr}{js:List Int}{ob:Obj}{eb:Array (Int×Value)}{b0:Nat}{tb:SetTable}(g:b6 P w s.heap r ks o es ep t)(Y:b6 P w s.heap b js ob eb b0 tb)(hl:tb.led=!byT w)(a1:b≠r)(b1:¬ js.length / 8 > ks.length)(hn:ks.length<=60){Q:Unit->Shared->Prop}
  (h:∀h' d' o' z J t' ls,Heap.SameBut r s.heap h'->b6 P w h' r ls o' z J t'->ls=(ks.filter λk=>!decide (k∈js))->Q () { s with heap:=h',drawn:=d' }):wpAny (model P w) A (Builtin.Frozenset.differenceUpdate id r (.ref b)) Q E s:=by
 unfold Builtin.Frozenset.differenceUpdate;have b2:(Value.ref b==Value.ref r)=false:=by
  simpa using a1
 rw[b2];simp only[J5,KU];refine ez (jK Y.type ?_);simp only[if_true,Builtin.Frozenset.addrOf,pure_bind];refine ez (fV Y ?_);refine ez (fV g ?_);rw[if_neg b1];refine ez (Lw Y.ho Y.hd Y.fi ?_);refine ez (Kl ?_);refine ez (yR Y hl (others:=[r]) (λc hc=>?_) λZ d0 hp=>?_)
 .rw[J8.mp hc];exact⟨_,_,_,_,_,g⟩
 have a2:=Y.el.perm hp;have hK:=(hp.map _).trans Y.pm;refine ez (Nc _ (λbQ _ s'=>∃dn h' d' o' z J t',dn++bQ=Z.toList/\s'={ s with heap:=h',drawn:=d' }/\Heap.SameBut r s.heap h'/\b6 P w h' r (ks.filter λk=>!decide (k∈dn.map λe:Int×Value=>numOf e.2)) o' z J t') _ ?_ ?_ Z _ ⟨[],s.heap,d0,o,es,ep,t,rfl,rfl,Lu r s.heap,by
  have:ks.filter (λk=>!decide (k∈([]:List (Int×Value)).map λe=>numOf e.2))=ks:=Lb.mpr λx _=>by simp
  rw[this];exact g⟩)
 .rintro ⟨hx,x⟩ bQ u s' ⟨dn,h',d',o',z,J,t',e1,rfl,sb,gl⟩;have U:(hx,x)∈Z.toList:=by rw[<- e1];simp
  obtain⟨a3,q⟩:=eM a2 _ U;obtain⟨⟨k0,b3,ar⟩,_⟩:=a2 _ U;have a4:=(je a2 U k0).mp b3;dsimp only at q a4 ar;generalize numOf x=k at q a4;subst q a4;have ar:=ar;subst ar;dsimp only;refine ez (Kl (w8 (s:={ s with heap:=h',drawn:=d' }) gl λb' h2 o2 a5 a6 t2 aO g2=>?_));have ck:=Y.at λo e=>(aO.2 b a1).trans ((sb.2 b a1).trans e)
  refine Er (s:={ s with heap:=h2,drawn:=d' }) ck ⟨dn++[(hashInt k,Value.int k a3)],h2,d',o2,a5,a6,t2,by rw[KZ];exact e1,rfl,sb.trans aO,?_⟩;have:(ks.filter λx=>!decide (x∈(dn++[(hashInt k,Value.int k a3)]).map λe:Int×Value=>numOf e.2))=(ks.filter λk=>!decide (k∈dn.map λe:Int×Value=>numOf e.2)).filter λx=>!decide (x=k):=by
   rw[List.filter_filter]
   congr 1
   funext x
   have cl:numOf (Value.int k a3)=k:=rfl;rw[K8,JY,map_nil,cl];by_cases h1:x=k<;>by_cases h2:x∈dn.map (λe:Int×Value=>numOf e.2)<;>simp[h1,h2]
  rw[this];exact g2
 .rintro u s' ⟨dn,h',d',o',z,J,t',e1,rfl,sb,gl⟩;rw[Le]at e1;subst e1;have e3:(ks.filter λk=>!decide (k∈Z.toList.map λe:Int×Value=>numOf e.2))=ks.filter λk=>!decide (k∈js):=by
   congr 1
   funext k
   congr 1
   rw[Ny];exact hK.mem_iff
  rw[e3]at gl;refine gk ?_;unfold setTidy;refine ez (Kb (s:={ s with heap:=h',drawn:=d' }) gl.ho gl.hd gl.fi ?_);dsimp only;refine Ke (λ_=>?_) (λ_=>?_)
  .have c2:z.size<=60:=by
    rw[gl.len];exact uw (Md _ _) hn
   have cr:SetTable.grown z.size=z.size*4:=by unfold SetTable.grown;rw[if_neg (by omega)]
   rw[cr];exact vk (s:={ s with heap:=h',drawn:=d' }) gl (by omega) (by omega) λh2 o2 a5 a6 t2 aO g2 _ _=>h h2 d' o2 a5 a6 t2 _ (sb.trans aO) g2 rfl
  .exact gk (h h' d' o' z J t' _ sb gl rfl)
def Ez{id:String}{b:Addr}{js:List Int}{Q:Value->Shared->Prop}(ga:b9 P w s.heap a ks)(gb:b9 P w s.heap b js)(U:ks.length / 4 > js.length)(hn:ks.length<=60)
  (h:∀h' d' z o' Y Z t',(∀c o,s.heap.get? c=some o->h'.get? c=some o)->z.length=(ks.filter λk=>!decide (k∈js)).length->b6 P w h' s.heap.objs.size z o' Y Z t'->Q (.ref s.heap.objs.size) { s with heap:=h',drawn:=d' }) :
  wpAny (model P w) A (Builtin.Frozenset.difference id a (.ref b)) Q E s:=by
 obtain⟨oa,ea,bA,ta,wa,bB⟩:=ga.w;obtain⟨ob,eb,b0,tb,J,ao⟩:=gb.w;have hb:=JW (tf J.ho);unfold Builtin.Frozenset.difference;refine ez (jK J.type ?_);simp[J5,M5,Builtin.Frozenset.addrOf,pure_bind];refine ez (fV J ?_);refine ez (fV wa ?_);rw[if_pos U];refine ez (Lz ?_);refine ez (Ey wa (by omega) hn λh1 o1 b2 b3 t1 k1 g1=>?_);refine ez (gk ?_);have ar:=J.at (k1 b);refine ez (Kl (Hj (s:={ s with heap:=h1 }) g1 ar ao.led hb (by omega) hn λh2 d2 o2 aO a0 t2 z a1 g2 e2=>?_));exact gk (h h2 d2 z o2 aO a0 t2 (λc o e=>(a1.2 c (JW (tf e))).trans (k1 c o e)) (by rw[e2]) g2)
def yZ{id:String}{b:Addr}{js:List Int}{Q:Value->Shared->Prop}(Y:b9 P w s.heap a ks)(Z:b9 P w s.heap b js)(hn:ks.length<=60)
  (h:∀h' d' U o' z J t',(∀c o,s.heap.get? c=some o->h'.get? c=some o)->U.length=(ks.filter λk=>!decide (k∈js)).length->b6 P w h' s.heap.objs.size U o' z J t'->Q (.ref s.heap.objs.size) { s with heap:=h',drawn:=d' }) :
  wpAny (model P w) A (Builtin.Frozenset.difference id a (.ref b)) Q E s:=by
 by_cases c:ks.length / 4 > js.length
 .exact Ez Y Z c hn h
 .refine Es Y Z c λh' d' U k p g=>?_
  obtain⟨o',z,J,t',g',_⟩:=g.w;exact h h' d' U o' z J t' k p.length_eq g'
end
def oE:entryFor table "set.__sub__"=some Builtin.«frozenset.__sub__»:=
 entryFor_alias (id':="frozenset.__sub__") (by kernel_rfl) (by first|rfl|decide +kernel|(unfold String.splitOn;simp +decide [String.splitOnAux])) (by decide +kernel) (by kernel_rfl)
section
variable{P:Program}{w:World}{A:Around}{E:Value->Shared->Prop}{s:Shared}
def y0{ks js:List Int}{Q:Value->Shared->Prop}(Z:b9 P w s.heap a ks)(gb:b9 P w s.heap b js)(hn:ks.length<=60)
  (h:∀h' d' U o' z J t',(∀c o,s.heap.get? c=some o->h'.get? c=some o)->U.length=(ks.filter λk=>!decide (k∈js)).length->b6 P w h' s.heap.objs.size U o' z J t'->Q (.ref s.heap.objs.size) { s with heap:=h',drawn:=d' }) :
  wpAny (model P w) A (binaryOp .Sub (.ref a) (.ref b)) Q E s:=by
 obtain⟨oa,ea,a0,ta,Y,a1⟩:=Z.w;obtain⟨ob,eb,a2,tb,wb,a3⟩:=gb.w;refine wpAny_binaryOp_same Y.type wb.type F.fills_set_sub F.slot_set_sub ?_;refine Kk F.slot_set_sub Y.type oE ?_ (F.args_set_sub_2 _ _);show wpAny _ _ (do
  let (self,other) <- Builtin.Frozenset.slot1 "__sub__" ⟨[.ref a,.ref b],[]⟩
  let (l,r):=if false then(other,self)else(self,other)
  if !(<- Builtin.Frozenset.isAnySet l <&&> Builtin.Frozenset.isAnySet r)then rule s!"frozenset.{"__sub__"}.declined";return <- ret .notImplemented
  ret (<- Builtin.Frozenset.difference s!"frozenset.{"__sub__"}" _ r)) _ _ s
 refine ez (M9 (a:=_) rfl ?_);refine ez (ez (jK Y.type ?_));refine jK wb.type ?_;refine ez (yZ Z gb hn λh' d' U o' z J t' k hl g=>?_);exact gk ⟨_,rfl,by simp,h h' d' U o' z J t' k hl g⟩
end
end L2.St
namespace L2
open PySem PySem.Spec PyProof.Rows List Option
noncomputable def tP(P:Program)(w:World)(a:Addr)(n:Nat):HO:=.ext λh=>∃ks o es ep t,St.b6 P w h a ks o es ep t/\ks.length=n
def w9(g:St.b6 P w h a ks o es ep t)(e:ks.length=n):bL P w H h a (tP P w a n):=
 ⟨⟨ks,o,es,ep,t,g,e⟩,⟨o,g.ho⟩,λh1 h2 ⟨ks,o,es,ep,t,g,e⟩ k=>⟨ks,o,es,ep,t,g.at k,e⟩⟩
section
variable{X:Cx}
def w_:OpR X (binaryOp .Sub) (λx y H Q=>∃a b ks js,x=.ref a/\y=.ref b/\H a=some (i6 X.prog X.w a ks)/\H b=some (i6 X.prog X.w b js)/\ks.length<=60/\∀p,H p=none->Q (.ref p) (upd H p (tP X.prog X.w p (ks.filter λk=>!decide (k∈js)).length))):=by
 intro pins s σ H x y v u Q I z J h;obtain⟨a,b,ks,js,rfl,rfl,U,Y,Z,q⟩:=h;cases z;cases J;refine St.y0 (I.set U) (I.set Y) Z λh' d' ls o' ao ar t' kp hl g=>?_
 exact⟨.ref s.heap.objs.size,_,I.laidD kp (pb _) (w9 g hl),rfl,q _ (I.hok.fresh (pb _))⟩
def rE:bW X (.builtin "len") (λxs H Q=>∃a n,xs=[.ref a]/\H a=some (tP X.prog X.w a n)/\Q (.int n) H):=by
 intro pins s σ H xs us Q I r h;refine ax λZq z=>?_
 obtain⟨a,n,rfl,e,q⟩:=h;obtain⟨u,rfl,J⟩:=d_ r;cases J;obtain⟨ks,o,es,ep,t,g,U⟩:=(show bL X.prog X.w H s.heap a _ from I.hok a _ e).1;have Y:=g.len;have hb:=g.bd;have Z:scanBound=4096:=rfl;refine z ?_;refine call_len_set g.ho g.ex g.hd g.fi (by omega) ⟨.int n,H,I.tok _,⟨s.toks+1,?_⟩,q⟩;rw[Y,U]
def qc:bW X (.builtin "len") (λxs H Q=>∃a ks,xs=[.ref a]/\H a=some (i6 X.prog X.w a ks)/\Q (.int ks.length) H):=by
 intro pins s σ H xs us Q I r h;obtain⟨a,ks,rfl,e,q⟩:=h;obtain⟨u,rfl,z⟩:=d_ r;cases z;obtain⟨o,es,ep,t,g,_⟩:=(I.set e).w;have U:=g.bd;have J:scanBound=4096:=rfl;refine call_len_set g.ho g.ex g.hd g.fi (by omega) ⟨.int ks.length,H,I.tok _,⟨s.toks+1,?_⟩,q⟩;rw[g.len]
end
end L2
namespace L2.En
open PySem PyProof.Rows List Option
open AutoSeq1 (wpAny_loadPart')
section
variable{P:Program}{w:World}{A:Around}{E:Value->Shared->Prop}{s:Shared}
def tQ(J:s.heap.IsTupleIter it t i)
  (h:wpAny (model P w) A.in1 (Builtin.«tuple_iterator.__next__» ⟨[.ref it],[]⟩) (λfin s'=>∃v,fin=.done (.ret v)/\Q v s') E s):wpAny (model P w) A (Builtin.SmallTypes.nextOf (.ref it)) Q E s:=by
 refine ez (KC J.typeIs F.slot_tuple_iterator_next ?_);refine Kk F.slot_tuple_iterator_next J.typeIs F.entry_tuple_iterator_next ?_ (F.args_tuple_iterator_next_1 _);refine Ks h (λfin s' hv=>?_) λ_ _ z=>z
 obtain⟨v,rfl,q⟩:=hv;exact⟨v,rfl,gk q⟩
def Hk (z:A.handled=none) (h:∀h' e,(∀b o,s.heap.get? b=some o->h'.get? b=some o)->(∃o,h'.get? e=some o/\o.cls=.type "StopIteration")->E (.ref e) { s with heap:=h' }) :
  wpAny (model P w) A (Builtin.SmallTypes.stopIteration:Sem α) Q E s:=by
 wp_walk
 exact wpAny_raiseNew_none z (h _ _ (λb o q=>iA _ (iA _ q)) ⟨_,tr _ rfl,rfl⟩)
def o5(U:A.handled=none)(z:s.heap.IsTupleIter it t i)(Y:s.heap.IsTuple t items)
  (Z:∀x h',items[i]?=some x->h'.IsTupleIter it t (i+1)->Heap.SameBut it s.heap h'->Q x { s with heap:=h' })
  (hE:∀h' e,items[i]?=none->Heap.ExtBut it s.heap h'->(∃o,h'.get? e=some o/\o.cls=.type "StopIteration")->E (.ref e) { s with heap:=h' }):wpAny (model P w) A (Builtin.SmallTypes.nextOf (.ref it)) Q E s:=by
 refine tQ z ?_;refine ax λZq kq=>?_
 obtain⟨⟨c1,d1,t1,l1⟩,h1,e1,e2⟩:=z;obtain⟨⟨c2,d2,t2,l2⟩,h2,e3,n2,e4⟩:=Y;cases e1;cases e2;cases e3;cases e4;obtain⟨J,g,d,tk,os⟩:=s;refine kq ?_
 wp_walk using wpAny_loadPart' h1,wpAny_loadPart' h2
 have self:∀k v,(J.update it (Obj.mapFields (·.setIfInBounds k v))).get? it=some { cls:=.type "tuple_iterator",dict:=d1,data:=.fields _,slots:=l1 }:=λk v=>Kx _ h1 rfl
 rw[Int.toNat_natCast];cases hx:items[i]? with
 |some x =>
  refine ez (wpAny_setField h1 rfl (by simp) (gk ⟨x,rfl,Z x _ hx ⟨_,self 1 _,rfl,?_⟩ (Km ..)⟩));simp[rawInt]
 |none =>
  refine ez (Lz (ez (wpAny_setField h1 rfl (by simp) (Hk (by simpa using U) λh' e k st=>?_))));exact hE h' e hx (λb o hb q=>k b o ((Km J it _).extBut b o hb q)) st
def draws(U:A.handled=none)(it t)(z:t≠it)(items):Draws P w A it [it,t] items.size (λi v=>items[i]?=some v) (λi h=>h.IsTupleIter it t i/\h.IsTuple t items) where
 live:=λ_ _ ⟨⟨o,ho,_⟩,_⟩=>⟨o,ho⟩
 frame:=λi h h' ⟨⟨o,ho,r⟩,⟨Y,J,r2⟩⟩ k=>⟨⟨o,k it (.head _) o ho,r⟩,⟨Y,k t (.tail _ (.head _)) Y J,r2⟩⟩
 item:=λi s Q E hi ⟨h1,h2⟩ hQ=>o5 U h1 h2 (λx h' hx h3 Z=>hQ x h' s.toks hx ⟨h3,h2.extBut Z.extBut z⟩ Z) λh' e hx _ _=>absurd hx (by simp;omega)
 done:=λs Q E ⟨h1,h2⟩ hE=>o5 U h1 h2 (λx h' hx _ _=>absurd hx (by simp)) λh' e _ eb st=>hE h' e eb st
def y9{Q:Bool->Shared->Prop}(h:∀c,Q c s):wpAny (model P w) A (pure b) Q E s:=gk (h b)
def B0(l)(items)(n)(z)(J) :
  Meets (Builtin.«enumerate.__new__» ⟨[.type "enumerate",.ref l],[]⟩) (λ_ R s=>s.heap.get? l=some { cls:=.type "tuple",dict:=z,data:=.seq items n,slots:=J } /\
   R (.ok (.ret (.ref (s.heap.push { cls:=.type "tuple_iterator",data:=.fields #[.ref l,.int 0 0] }).objs.size)))
    { s with heap:=(s.heap.push { cls:=.type "tuple_iterator",data:=.fields #[.ref l,.int 0 0] }).push { cls:=.type "enumerate",data:=.fields #[.none,.bool false,.ref s.heap.objs.size,rawInt 0,.none,.none] } }):=by
 refine .of_wp λP w A R s h=>?_
 have tl:Heap.IsTuple _ l items:=⟨_,h.1,rfl,n,rfl⟩;have U:=sub_enumerate
 wp_walk using wpAny_loadPart' h.1
 apply wpAny_stack_any;intro st;refine y9 λc=>?_
 cases c
 .wp_walk using wpAny_pyIter_tuple tl
  exact⟨_,rfl,h.2⟩
 .wp_walk using wpAny_pyIter_tuple tl
  exact⟨_,rfl,h.2⟩
def call_tup(Z:s.heap.IsTuple l items)
  (h:∀h',IsEnum h' (s.heap.objs.size+1) s.heap.objs.size 0 .none->h'.IsTupleIter s.heap.objs.size l 0->h'.objs.size=s.heap.objs.size+2 ->
   (∀b o,s.heap.get? b=some o->h'.get? b=some o)->Q (.ref (s.heap.objs.size+1)) { s with heap:=h' }):wpAny (model P w) A (call (.type "enumerate") [.ref l]) Q E s:=by
 obtain⟨⟨c,J,dt,sl⟩,hl,hc,n,hd⟩:=Z;cases hc;cases hd;have made:=B0 l items n J sl;refine callType_new F.called_enumerate (by decide) (F.typeCall_enumerate_1 _) (F.newCall_enumerate_1 _) (λv=>F.args_object_init_2 v _) F.entry_enumerate_new made ⟨hl,?_⟩;generalize hi:({ cls:=.type "tuple_iterator",data:=.fields #[.ref l,.int 0 0] }:Obj)=io;generalize ho:({ cls:=.type "enumerate",data:=.fields #[.none,.bool false,.ref s.heap.objs.size,rawInt 0,.none,.none] }:Obj)=U;have z:(s.heap.push io).objs.size=s.heap.objs.size+1:=Kf ..;have Y:((s.heap.push io).push U).get? (s.heap.objs.size+1)=some U:=by
  rw[<- z];exact tr _ (by rw[<- ho];rfl)
 have g2:((s.heap.push io).push U).get? s.heap.objs.size=some io:=iA _ (tr _ (by rw[<- hi];rfl));rw[z];refine⟨⟨_,Y,by rw[<- ho]⟩,h _ (by rw[<- ho]at Y;rw[<- ho];exact Y) ⟨_,g2,by rw[<- hi],by rw[<- hi];rfl⟩ (by rw[Kf,z]) λb o q=>iA _ (iA _ q)⟩
end
end L2.En
namespace L2.Dv
open PySem PyProof.Rows List Option
open AutoSeq1 (wpAny_loadPart')
section
variable{P:Program}{w:World}{A:Around}{E:Value->Shared->Prop}{s:Shared}
def Ents(h:Heap)(d:Addr)(es:Array DictEntry)(ep:Nat):Prop:=∃o,h.get? d=some o/\o.ExactDict/\o.data=.dict es ep
theorem Ents.at(x:Ents h d es ep)(k:∀o,h.get? d=some o->h'.get? d=some o):Ents h' d es ep:=by
 obtain⟨o,ho,r⟩:=x;exact⟨o,k o ho,r⟩
theorem Ents.type (x:Ents s.heap d es ep):s.TypeIs (.ref d) "dict":=by
 obtain⟨o,ho,r,_⟩:=x;exact⟨o,ho,r.1⟩
def values_of(hd:(d==sysModules)=false)(x:Ents s.heap d es ep)
  (h:Q (.ref s.heap.objs.size) { s with heap:=s.heap.push { cls:=.type "dict_values",data:=.fields #[.ref d] } }):wpAny (model P w) A (call (.builtin "dict.values") [.ref d]) Q E s:=by
 refine Kk F.slot_dict_values x.type F.entry_dict_values ?_ (F.args_dict_values_1 _);refine ax λY z=>?_
 obtain⟨⟨Z,d1,t1,l1⟩,h1,hx,J⟩:=x;have U:=hx.1;cases U;cases J;refine z ?_
 wp_walk using wpAny_loadPart' h1
 exact⟨_,rfl,h⟩
def B1(hv:s.heap.IsValuesView v d)(x:Ents s.heap d es ep)
  (h:Q (.ref s.heap.objs.size) { s with heap:=s.heap.push { cls:=.type "dict_valueiterator",data:=.fields #[.ref d,.int 0 0,.int es.size 0,.int ep 0] } }):wpAny (model P w) A (pyIter (.ref v)) Q E s:=by
 refine Nk hv.typeIs F.slot_dict_values_iter (Kk F.slot_dict_values_iter hv.typeIs F.entry_dict_values_iter ?_ (F.args_dict_values_iter_1 _));refine ax λZq z=>?_
 obtain⟨⟨c1,d1,t1,l1⟩,h1,hx,J⟩:=x;have U:=hx.1;cases U;cases J;obtain⟨⟨c3,d3,t3,l3⟩,Y,Z,e4⟩:=hv;cases Z;cases e4;refine z ?_
 wp_walk using wpAny_loadPart' h1,wpAny_loadPart' Y
 exact⟨_,rfl,_,_,⟨_,tr _ rfl,rfl⟩,LP.lookup,h⟩
def vm{ep:Nat}{Q:Option Value->Shared->Prop}(Z:A.handled=none)(hv:s.heap.IsValIter it d i es.size ep)(x:Ents s.heap d es ep)
  (h1:∀e h',es[i]?=some e->h'.IsValIter it d (i+1) es.size ep->Heap.SameBut it s.heap h'->Q (some e.val) { s with heap:=h' })
  (h2:∀h',es[i]?=none->Heap.ExtBut it s.heap h'->Q none { s with heap:=h' }):wpAny (model P w) A (pyNext (.ref it)) Q E s:=by
 have ty:=hv.typeIs;obtain⟨⟨c1,d1,t1,l1⟩,g1,hx,e2⟩:=x;have e1:=hx.1;cases e1;cases e2;obtain⟨⟨c3,d3,t3,l3⟩,J,e3,e4⟩:=hv;cases e3;cases e4;obtain⟨U,g,dr,tk,os⟩:=s;unfold pyNext;refine ez (MI (KC (name:=Str.ofString "__next__") ty LP (Kk LP ty F.entry_dict_valueiterator_next ?_ (F.args_dict_valueiterator_next_1 _))));unfold Builtin.«dict_valueiterator.__next__»
 wp_walk using wpAny_loadPart' g1,wpAny_loadPart' J
 rw[if_neg (by omega),Int.toNat_natCast];have self:∀k v,(U.update it (Obj.mapFields (·.setIfInBounds k v))).get? it=some { cls:=.type "dict_valueiterator",dict:=d3,data:=.fields ((#[.ref d,.int (i:Int) 0,.int (es.size:Int) 0,.int (ep:Int) 0]:Array Value).setIfInBounds k v),slots:=l3 }:=λk v=>Kx _ J rfl
 cases hx:es[i]? with
 |some e =>
  have Y:=self 1 (rawInt ((i:Int)+1))
  wp_walk using wpAny_loadPart' J,wpAny_loadPart' Y
  exact⟨_,rfl,gk (h1 e _ hx ⟨_,Y,rfl,rfl⟩ (Km ..))⟩
 |none =>
  refine ez (Ks (Q:=λn s'=>n=0/\s'=⟨U,g,dr,tk,os⟩) (E:=λ_ _=>False) ?_ (λn s' q=>?_) λ_ _ z=>z.elim)
  .wp_walk using wpAny_loadPart' J
   exact⟨by decide +kernel,rfl⟩
  obtain⟨rfl,rfl⟩:=q;refine ez (wpAny_setField J rfl (by simp) ?_);refine St.kC (v:=.none) (vs:=#[]) (it:=0) (Q:=λ_ _=>True) (by simpa using Z) λe s' kp ⟨h',eq⟩ hT=>?_
  subst eq;refine ez (KY (T:="StopIteration") (b:=true) hT isSubtype_stop ?_);exact gk (h2 h' hx λb o hb q=>kp b o ((Km U it _).extBut b o hb q))
def src :PySem.W.KdlSrc P w "dict_values" r d es.size (λi v=>∃e,es[i]?=some e/\v=e.val) (λh=>h.IsValuesView r d/\Ents h d es ep) where
 type:=λ_ q=>q.1.typeIs
 there:=λ_ ⟨⟨o,ho,_⟩,⟨o',Z,_⟩⟩=>⟨tf ho,tf Z⟩
 keep:=λ_ _ ⟨⟨o,ho,z⟩,x⟩ k=>⟨⟨o,k r (.inl rfl) o ho,z⟩,x.at λo e=>k d (.inr rfl) o e⟩
 notList:=by decide
 notTuple:=by decide
 hint:=λ_ _ _ _ q z=>PySem.W.kdl_hint_values q.1.typeIs z
 iter:=λA s hh ⟨q,x⟩=>by
  have lt:d<s.heap.objs.size:=by obtain⟨o,ho,_⟩:=x;exact tf ho
  have ne:=JW lt;refine⟨{ cls:=.type "dict_valueiterator",data:=.fields #[.ref d,.int 0 0,.int es.size 0,.int ep 0] },λi h=>h.IsValIter s.heap.objs.size d i es.size ep/\Ents h d es ep,λE Q z=>B1 q x z,?_,⟨_,tr _ rfl,rfl,rfl⟩,x.at λo e=>iA _ e⟩;refine⟨λb J=>by simp at J;simp[J],λi h h' ⟨⟨o,ho,z⟩,y⟩ k=>⟨⟨o,k _ (by simp) o ho,z⟩,y.at λo e=>k d (by simp) o e⟩,λi s' Q E hi ⟨y,z⟩ U=>?_,λs' Q E ⟨y,z⟩ U=>?_,λi s' Q E ⟨y,z⟩ U=>?_⟩
  .refine vm hh y z (λe h' Y y' sb=>?_) λh' Y _=>absurd Y (by simp;omega)
   exact U _ h' s'.toks ⟨e,Y,rfl⟩ ⟨y',z.at λo q=>sb.extBut d o ne q⟩ λb o J q=>sb.extBut b o (λw=>J (by simp[w])) q
  .refine vm hh y z (λe h' Y _ _=>absurd Y (by simp)) λh' _ eb=>?_
   exact U h' s'.toks λb o J q=>eb b o (λw=>J (by simp[w])) q
  .exact wpAny_pyIter_valiter y U
end
end L2.Dv
namespace HT
open PySem PyProof.Rows List Option
section
variable{prog:Program}{w:World}{A:Around}{E:Value->Shared->Prop}{s:Shared}
def getItem_tuple_whole{items:Array Value}{Z vu:Value}{lo hi:Option Int}{Q:Value->Shared->Prop}(z:IsTup s.heap t items)(hs:s.heap.IsSliceOf sl Z vu .none)(pl:IsPart Z lo)(pu:IsPart vu hi)
  (h0:sIx items.size 0 lo=0) (h1:sIx items.size items.size hi=items.size) (h:Q (.ref t) s):wpAny (model prog w) A (getItem (.ref t) (.ref sl)) Q E s:=by
 have J:s.TypeIs (.ref sl) "slice":=by obtain⟨os,U,Y,_⟩:=hs;exact⟨os,U,Y⟩
 unfold getItem
 try with_reducible refine Kl ?_
 first|refine ez (gk ?_)|skip
 refine ez (wpAny_sequenceKey z.typeIs (by decide) ?_);refine ez (KC (name:=Str.ofString "__getitem__") z.typeIs KA
  (Kk KA z.typeIs entry_tuple_getitem ?_ (args_tuple_getitem _ _)))
 show wpAny _ _ (Builtin.Tuple.tupleItemsOf _ >>= _) _ _ s;refine ez (tupleItemsOf_ z ?_);refine ez (L3 J ?_);rw[if_pos (by decide)];refine ez (fT hs pl pu ?_);show wpAny _ _ (if (((sIx items.size 0 lo:Nat):Int)==0&&_==1&&_==items.size)=true then _ else _) _ _ s;rw[h0,h1,if_pos (by simp)];unfold Builtin.Tuple.tupleIsExact;refine ez (ez (L3 z.typeIs (gk ?_)));rw[if_pos (by decide)];refine ez (Lz ?_);exact gk ⟨_,rfl,gk h⟩
end
end HT
namespace L2
open PySem PySem.Spec PyProof.Rows List Option
section
variable{X:Cx}
def B2:SlR X (λx lo hi H Q=>∃a xs,x=.ref a/\SqT X.K H a xs/\HT.sIx xs.length 0 lo=0/\HT.sIx xs.length xs.length hi=xs.length/\Q (.ref a) H):=by
 intro pins s σ H x v vl vu lo hi sl Q I U hs Y Z h;refine ax λZq kq=>?_
 obtain⟨a,xs,rfl,hx,h0,h1,q⟩:=h;cases U;obtain⟨its,r,J,hz⟩:=I.tuple hx;have z:its.toArray.size=xs.length:=by rw[r4];exact r.length.symm
 refine kq ?_;refine⟨"tuple",_,KA.lookup,J.typeIs,?_⟩;exact HT.getItem_tuple_whole J hs Y Z (by rw[z];exact h0) (by rw[z];exact h1) ⟨.ref a,H,I,rfl,q⟩
end
end L2
namespace L2.Rv
open PySem PyProof.Rows List Option
section
variable{P:Program}{w:World}{A:Around}{E:Value->Shared->Prop}{s:Shared}
def EA:typeLookup (.type "list_reverseiterator") "__len__"=pure none:=by rw[MT,L6];kernel_rfl
def y_:typeLookup (.type "list_reverseiterator") "__length_hint__"=pure (some (.builtin "list_reverseiterator.__length_hint__")):=by rw[MT,L6];kernel_rfl
def za (U:s.TypeIs (.ref it) "list_reverseiterator") (h:Q false s):wpAny (model P w) A (Builtin.List.listLengthHint (.ref it)) Q E s:=by
 unfold Builtin.List.listLengthHint;refine ez (MO U EA ?_);refine Ke (λz=>absurd z (by decide)) (λ_=>?_);refine Ke (λz=>absurd z (by decide)) (λ_=>?_);refine ez (MO U y_ ?_);generalize J:("list_reverseiterator.__length_hint__":String)=Y
 wp_delta
 rw[show splitId Y=some ("list_reverseiterator","__length_hint__")from by subst J;decide +kernel];subst J;refine ez (KY (T:="list_reverseiterator") (b:=true) U (by rw[M6];kernel_rfl) ?_);refine Ke (λz=>absurd z (by decide)) (λ_=>?_);refine Ke (λ_=>?_) (λz=>absurd (by decide +kernel) z);refine Ke (λz=>absurd z (by decide +kernel)) (λ_=>?_);exact gk h
def Drawn(items:Array Value)(i:Nat)(v:Value):Prop:=items[items.size-1-i]?=some v
def tR{it l S:Addr}{items:Array Value}(hh:A.handled=none)(ao:l≠it)(U:s.heap.IsRevIter it l ((items.size:Int)-1))(hl:s.heap.IsList l items)(hn:items.size<=sizeLine)(Y:S≠it)(ar:S≠l)(res)
  (hS:s.heap.get? S=some { cls:=.type "list",data:=.seq #[] })
  (hR:∀h' tk J c,(∀b o,b≠S->b≠it->s.heap.get? b=some o->h'.get? b=some o)->h'.get? S=some { cls:=.type "list",dict:=none,data:=.seq J c,slots:=#[] }->ItemsOf (Drawn items) J items.size->R (.ok (.ret res)) { s with heap:=h',toks:=tk }) :
  wpAny (model P w) A.in1 (Builtin.List.listExtendWith (.ref S) (.ref it) res)
   (λfin s'=>match fin with|.done f=>R (.ok f) s'|.again c'=>c'.quiet=true/\codeAny (model P w) A c' R s') (λe s'=>R (.error e) s') s:=by
 have hT:=U.typeIs;have W:=Walks.listRev (prog:=P) (w:=w) (A:=A.in1) (by simpa using hh) it l ao items;have aO:S∉[it,l]:=by simp[Y,ar]
 unfold Builtin.List.listExtendWith;refine ez (L3 hT ?_);have h1:Builtin.List.listSameRef (.ref S) (.ref it)=false:=by simp[Builtin.List.listSameRef,Y]
 rw[if_neg (by rw[h1];decide)];refine ez (wpAny_pyIter_revIter U ?_);refine ez (Kl (za hT ?_));refine Ke (λa0=>absurd a0 (by decide)) (λ_=>?_);refine gk ⟨MH PySem.F.plain_extend_loop _,?_⟩;refine codeAny_extend_loopS W.toS hn S aO res items.size 0 s #[] 0 rfl (Kd _) ⟨Kd _,by simpa using U,hl⟩ hS (ItemsOf.nil _) λs' J c hm a1 Z=>?_
 rw[Moved.eq_with hm];refine hR s'.heap s'.toks J c (λb o hb b1 e=>hm.heap b o (λz=>?_) e) a1 Z
 simp_all
end
end L2.Rv
namespace L2
open PySem PySem.Spec PyProof.Rows List Option
section
variable{X:Cx}
def tU{its:List Value}(h:ItemsOf (Rv.Drawn its.toArray) acc its.toArray.size):acc.toList=its.reverse:=by
 have hs:acc.size=its.length:=by rw[h.1,r4]
 refine Nt λi=>?_
 rw[Ky];by_cases hi:i<its.length
 .cases e:acc[i]? with
  |none=>rw[Array.getElem?_eq_none_iff]at e;omega
  |some v =>
   have:=h.2 i v e;unfold Rv.Drawn at this;rw[r4,getElem?_toArray]at this;rw[getElem?_reverse hi,<- this]
 .simp_all
end
end L2
namespace L2.Rg
open PySem PyProof.Rows List Option
section
variable{P:Program}{w:World}{A:Around}{E:Value->Shared->Prop}{s:Shared}
end
end L2.Rg
namespace L2
open PySem PySem.Spec PyProof.Rows List Option
section
variable{X:Cx}
end
end L2
namespace L2.Rv
open PySem PyProof.Rows List Option
open AutoSeq1 (wpAny_loadPart')
section
variable{P:Program}{w:World}{A:Around}{E:Value->Shared->Prop}{s:Shared}
def list_rev{it l:Addr}{items:Array Value}(hh:A.handled=none)(U:l≠it)(J:s.heap.IsRevIter it l ((items.size:Int)-1))(hl:s.heap.IsList l items)(hn:items.size<=sizeLine)
  (h:∀h' tk z c,(∀b o,b≠it->s.heap.get? b=some o->h'.get? b=some o)->h'.get? s.heap.objs.size=some { cls:=.type "list",dict:=none,data:=.seq z c,slots:=#[] }->ItemsOf (Drawn items) z items.size->Q (.ref s.heap.objs.size) { s with heap:=h',toks:=tk }) :
  wpAny (model P w) A (call (.type "list") [.ref it]) Q E s:=by
 have li:it<s.heap.objs.size:=by obtain⟨o,ho,_⟩:=J;exact tf ho
 have ll:l<s.heap.objs.size:=by obtain⟨o,ho,_⟩:=hl;exact tf ho
 refine callType_codes F.called_list (F.typeCall_list_1 _) F.entry_list_init (code_list_new (.ref it) (Q₁:=λobj s1=>obj=.ref s.heap.objs.size/\s1={ s with heap:=s.heap.push { cls:=.type "list",data:=.seq #[] } }) ⟨rfl,rfl⟩) λobj s1 h1=>?_
 obtain⟨rfl,rfl⟩:=h1;have Y:(s.heap.push { cls:=.type "list",data:=.seq #[] }).get? s.heap.objs.size=some { cls:=.type "list",data:=.seq #[] }:=tr _ rfl;refine⟨⟨_,Y,rfl⟩,F.args_list_init_2 _ _,?_⟩;unfold Builtin.«list.__init__»;generalize hX:Builtin.List.listExtendWith=X
 wp_walk using wpAny_loadPart' Y
 subst hX;have g1:((s.heap.push { cls:=.type "list",data:=.seq #[] }).update s.heap.objs.size (Obj.mapSeq λ_=>#[])).get? s.heap.objs.size=some { cls:=.type "list",data:=.seq #[] }:=Kx _ Y rfl;have kp:∀b o,b≠s.heap.objs.size->s.heap.get? b=some o->((s.heap.push { cls:=.type "list",data:=.seq #[] }).update s.heap.objs.size (Obj.mapSeq λ_=>#[])).get? b=some o:=λb o Z e=>(Km ..).extBut b o Z (iA _ e)
 refine tR (A:=A.in1) (by simpa using hh) U (J.at λo e=>kp _ o (JW li) e) (hl.at λo e=>kp _ o (JW ll) e) hn (KS li) (KS ll) .none g1 λh' tk z c k e i=>?_
 exact⟨rfl,h h' tk z c (λb o Z q=>k b o (JW (tf q)) Z (kp b o (JW (tf q)) q)) e i⟩
end
end L2.Rv
namespace L2
open PySem PySem.Spec PyProof.Rows List Option
section
variable{X:Cx}
def tV (hc:X.calm=true) (hg:Gl X "list") (hm:X.mg "list"=none) (hv:bootBuiltins "list"=some (.type "list")) (a0:Gl X "reversed") (a1:X.mg "reversed"=none) (hl:PE X l tl) (hs:starEach [l] X.env=[(false,eval l X.env)]:=by rfl) :
  PE X (.Call (.Name "list" p) [.Call (.Name "reversed" p2) [l] [] pos2] [] pos) (λσ H Q=>tl σ H λx H1=>∃a xs,x=.ref a/\SqL X.K H1 a xs/\∀q,H1 q=none->Q (.ref q) (upd H1 q (.lst xs.reverse))):=by
 intro pins s σ H Q I h;refine Ll (gC I hg hm hv ?_);refine Kw (Mq ?_) rfl rfl;refine Ll (gC I a0 a1 PyProof.Rows.boot_reversed ?_);refine Kw (thn (aK hl bF hs pos2 pins s σ H (λvs H1=>match vs with|[x]=>∃a xs,x=.ref a/\SqL X.K H1 a xs/\∀q,H1 q=none->Q (.ref q) (upd H1 q (.lst xs.reverse))|_=>False) I h) λus J ⟨vs,H1,I1,r1,q1⟩=>?_) hs rfl;cases r1 with
 |nil=>exact q1.elim
 |cons r rr =>
  cases rr with
  |cons _ _=>exact q1.elim
  |nil =>
   refine ax λZq kq=>?_
   obtain⟨a,xs,e,hq,q⟩:=q1;subst e;cases r;obtain⟨its,rv,pl,hz⟩:=I1.list hq;have la:a<J.heap.objs.size:=by obtain⟨o,ho,_⟩:=pl.isList;exact tf ho
   have aO:its.toArray.size=xs.length:=by rw[r4];exact rv.length.symm
   refine kq ?_;refine call_reversed_list pl.isList (Ni ?_);generalize Z:revObj a ((its.toArray.size:Int)-1)=U;have a4:(J.heap.push U).get? J.heap.objs.size=some U:=tr _ (by rw[<- Z];rfl);have I2:Inv X pins σ H1 { J with heap:=J.heap.push U }:=I1.kept (t':=J.toks) λb o e=>iA _ e
   have hn:=I1.hok.fresh (pb _);obtain⟨_,f1,_,f3,f4,f5⟩:=I1.fpOk (pb _) hn;refine Rv.list_rev (s:={ J with heap:=J.heap.push U }) (it:=J.heap.objs.size) (l:=a) (items:=its.toArray) (I1.ok.hd hc) (JW la) ⟨_,a4,by rw[<- Z];rfl,by rw[<- Z];rfl⟩ (pl.isList.at λo e=>iA _ e) (by rw[aO];exact hz) λh' tk Y c k e it=>?_
   have z:(J.heap.push U).objs.size=J.heap.objs.size+1:=Kf ..;have ne:(J.heap.push U).objs.size≠J.heap.objs.size:=by omega
   have g2:((J.heap.push U).push { cls:=.type "list",data:=.seq Y c }).get? (J.heap.push U).objs.size=some { cls:=.type "list",data:=.seq Y c }:=tr _ rfl;have I3:Inv X pins σ (upd H1 (J.heap.push U).objs.size (.lst xs.reverse)) { J with heap:=(J.heap.push U).push { cls:=.type "list",data:=.seq Y c },toks:=J.toks }:=I2.laid (λb o e=>iA _ e) (pb _) ⟨by rw[length_reverse];exact hz,Y.toList,c,by rw[tU it];exact rv.reverse,by rw[Array.toArray_toList];exact g2⟩;have a5:H1 (J.heap.push U).objs.size=none:=I1.hok.fresh (by omega);have I4:=I3.turned (t':=tk) (it:=J.heap.objs.size) (h':=h') (λb o hb e1=>by
    by_cases eb:b=(J.heap.push U).objs.size
    .subst eb;have e1:=e1;rw[g2]at e1;cases e1;exact e
    .refine k b o hb ?_;have e1:=e1;show(J.heap.push U).get? b=some o;rw[<- Heap.get?_push_ne _ _ _ eb];exact e1) (by rw[aX ne.symm];exact hn) f1 f3 f4 f5
   exact⟨.ref (J.heap.push U).objs.size,_,I4,rfl,q _ a5⟩
end
noncomputable def It2(lo:Int)(n:Nat):It:=⟨λi _=>i<n,λi H x H'=>H'=H/\x=.int (lo+i*2),λi _=>n<=i⟩
def zb{P:Program}{w:World}{K:NF}{tg:Expr}(a:Addr)(lo:Int)(n:Nat):qW P w K tg (It2 lo n) [a] a (λi h=>IsRangeIter h a (lo+(i:Nat)*2) ((n:Int)-(i:Nat)) 2) where
 mem:=J8.mpr rfl
 obj:=λi h st b J=>by
  obtain rfl:=J8.mp J;exact⟨_,st,λv z=>by cases (show Data.fields _=Data.cell v from z)⟩
 keep:=λi h h' st k=>k a (J8.mpr rfl) _ st
 item:=by
  intro X Z hw hK hc i pins s σ H E I Y st hg;subst Z hw hK;obtain⟨f0,f1,_,f3,f4,f5⟩:=Y a (J8.mpr rfl);refine(Walks.range (prog:=X.prog) (w:=X.w) (I.ok.hd hc) a lo 2 n).item i s _ _ hg st λv h' tk hv U kk=>?_
  obtain⟨t,rfl⟩:=hv;exact⟨_,rfl,uT (s:={ s with heap:=h',toks:=tk }) (n:="range_iterator") U rfl rfl (by decide) ⟨.int (lo+i*2),H,I.turned (λb o J e=>kk b o (λz=>J (J8.mp z)) e) f0 f1 f3 f4 f5,⟨t,rfl⟩,⟨rfl,rfl⟩,U,λb J=>(Y b J).1⟩⟩
 done:=by
  intro X Z hw hK hc i pins s σ H E I Y st hg;subst Z hw hK;obtain⟨f0,f1,_,f3,f4,f5⟩:=Y a (J8.mpr rfl);exact wpAny_pyNext_range_end (I.ok.hd hc) st (by have:n<=i:=hg;omega) λh' eb=>⟨rfl,I.turned (t':=s.toks) (λb o J e=>eb b o J e) f0 f1 f3 f4 f5⟩
 self:=λ_ _ _ _ _ st h=>wpAny_pyIter_rangeiter st h
def rF(a b:Int):Builtin.Range.rangeSize a b 2=(((b-a+1) / 2).toNat:Int):=by
 unfold Builtin.Range.rangeSize;rw[if_pos (by decide)];split<;>omega
noncomputable def Hl(ta:TA):TI:=λσ H R=>ta σ H λvs H1=>∃i j:Int,vs=[.int i,.int j,.int 2]/\(-1000<=i/\i<=1000/\-1000<=j/\j<=1000)/\R (It2 i ((j-i+1) / 2).toNat) H1
def xa {X:Cx}{tg a b c:Expr}{ta:TA}{p pos:Pos} (hg:Gl X "range") (hm:X.mg "range"=none) (ha:PA X [a,b,c] ta) (hs:starEach [a,b,c] X.env=[(false,eval a X.env),(false,eval b X.env),(false,eval c X.env)]) (J:starEach [b,c] X.env=[(false,eval b X.env),(false,eval c X.env)]) :
  PI X tg (.Call (.Name "range" p) [a,b,c] [] pos) (Hl ta):=by
 intro pins s σ H R I h;refine Call_ (gC I hg hm boot_range (Kw (thn (ha pos pins s σ H _ I h) λus z ⟨vs,H1,I1,r1,q1⟩=>?_) (by rw[hs,J]) (by rw[J];rfl)));obtain⟨i,j,rfl,⟨q1,q2,q3,q4⟩,q⟩:=q1;obtain⟨Y,Z,u3,rfl,⟨t1,rfl⟩,⟨t2,rfl⟩,⟨t3,rfl⟩⟩:∃Y Z u3,us=[Y,Z,u3]/\aD (.int i) Y/\aD (.int j) Z/\aD (.int 2) u3:=by
  cases r1 with
  |cons r U =>
   cases U with
   |cons r' U =>
    cases U with
    |cons ar U =>
     cases U;exact⟨_,_,_,rfl,r,r',ar⟩
 refine call_range_3 (by decide) ?_ (Or.inl (PyProof.noPylong_small (by omega)));generalize hO:({ cls:=.type "range",data:=.fields #[.int i t1,.int j t2,.int 2 t3] }:Obj)=o;have sm:Builtin.Range.small i j 2=true:=by
  unfold Builtin.Range.small;rw[rF];simp only[Builtin.Range.rangeFitsLong,mu,MX,Kh,JZ,show(2:Int) > 0 by decide,if_true];omega
 have I2:Inv X pins σ H1 { z with heap:=z.heap.push o }:=I1.kept (t':=z.toks) λb o e=>iA _ e
 refine wpAny_pyIter_range (a:=i) (b:=j) (c:=2) (t:=t1) (u:=t2) (v:=t3) (by subst hO;exact IsRange.new ..) sm ?_;refine⟨(z.heap.push o).objs.size,[(z.heap.push o).objs.size],_,_,H1,rfl,I2.kept (t':=z.toks) λb o e=>iA _ e,zb _ i ((j-i+1) / 2).toNat,?_,λb hb=>?_,q⟩
 .show IsRangeIter _ _ (i+((0:Nat):Int)*2) (((((j-i+1) / 2).toNat:Nat):Int)-((0:Nat):Int)) 2;rw[show i+((0:Nat):Int)*2=i by simp,show((((j-i+1) / 2).toNat:Nat):Int)-((0:Nat):Int)=Builtin.Range.rangeSize i j 2 from(Int.sub_zero _).trans (rF i j).symm];exact tr _ rfl
 .obtain rfl:=J8.mp hb;exact I2.fpOk (pb _) (I2.hok.fresh (pb _))
end L2
namespace MM
open PySem List Option
inductive Sc where
 | non|bl (b:Bool)|int (i:Int)|str (x:Str)
 deriving Inhabited,DecidableEq
inductive DD where
 | k (kvs:List (Int×Sc))|t (kvs:List (List Int×Sc))
 | p (ns:List Int)
 deriving Inhabited
inductive PV where
 | non|bl (b:Bool)|int (i:Int)|str (x:Str)|tup (xs:List PV)|lst (xs:List PV)|dI (d:DD)
 deriving Inhabited
noncomputable def Sc.pv:Sc->PV
 | .non=>.non
 | .bl b=>.bl b
 | .int i=>.int i
 | .str x=>.str x
noncomputable def sc?:PV->Option Sc
 | .non=>some .non
 | .bl b=>some (.bl b)
 | .int i=>some (.int i)
 | .str x=>some (.str x)
 | _=>none
noncomputable def cH{α:Type} [DecidableEq α] (kvs:List (α×Sc)) (k:α):Option Sc:=(kvs.find? λp=>decide (p.1=k)).map (·.2)
noncomputable def cK{α:Type} [DecidableEq α] (kvs:List (α×Sc)) (k:α) (v:Sc):List (α×Sc):=
 if (kvs.any λp=>decide (p.1=k))=true then kvs.map (λp=>if p.1=k then(p.1,v)else p)else kvs++[(k,v)]
noncomputable def eqL(f:PV->PV->Option Bool):List PV->List PV->Option Bool
 | [],[]=>some true
 |x::xs,y::ys=>(f x y).bind λp=>(eqL f xs ys).map λq=>p&&q
 | _,_=>some false
noncomputable def eqF:Nat->PV->PV->Option Bool
 | _,.non,.non=>some true
 | _,.bl a,.bl b=>some (a==b)
 | _,.bl a,.int b=>some ((if a then 1 else 0)==b)
 | _,.int a,.bl b=>some (a==(if b then 1 else 0))
 | _,.int a,.int b=>some (a==b)
 | _,.str a,.str b=>some (a==b)
 |0,.tup _,.tup _=>none
 |0,.lst _,.lst _=>none
 | _,.dI _,_=>none
 | _,_,.dI _=>none
 |n+1,.tup a,.tup b=>eqL (eqF n) a b
 |n+1,.lst a,.lst b=>if a.length=b.length then eqL (eqF n) a b else some false
 | _,_,_=>some false
noncomputable def tY:PV->PV->Bool
 | .tup _,.tup _=>true
 | .lst _,.lst _=>true
 | .tup _,_=>false
 | _,.tup _=>false
 | .lst _,_=>false
 | _,.lst _=>false
 | .bl _,.int _=>false
 | .int _,.bl _=>false
 | .dI _,_=>false
 | _,.dI _=>false
 | _,_=>true
noncomputable def inL(f:PV->Option Bool):List PV->Option Bool
 | []=>some false
 |y::ys=>(f y).bind λp=>(inL f ys).map λq=>p||q
inductive MV where
 | val (v:PV)|own (xs:List PV)|brw (xs:List PV)|ownD (d:DD)|brwD (d:DD)
 | mutD (d:DD)
 deriving Inhabited
noncomputable abbrev Rho:=List (Option MV)
inductive Op2 where
 | add|sub|mul|fdiv|mod|pow|shr
 deriving DecidableEq
inductive Cp where
 | eq|ne|lt|le|gt|ge|isN|notN|isIn|notIn
 deriving DecidableEq
inductive Blt where
 | len|tupleOf|listOf|sorted|any|all|sum|max1|min1|max2|min2|intOf|boolOf|isInt|isBool|isStr|isList|isTuple
 | sortedSet|lenSet|lenSetSub|sortedKeys|valuesOf|tupleRev
 deriving DecidableEq
inductive Sk where
 | seq|rng|enm|rev
 deriving DecidableEq
set_option genInjectivity false in
inductive ME where
 | var (i:Nat)
 | bor (i:Nat)
 | cst (v:PV)
 | glob (x:Str) (v:PV)
 | bin (op:Op2) (a b:ME)
 | neg (a:ME)
 | not (a:ME)
 | and (a b:ME)
 | or (a b:ME)
 | ite (c a b:ME)
 | cmp (op:Cp) (a b:ME)
 | chain (op op':Cp) (a b c:ME)
 | tup (es:List ME)
 | lst (es:List ME)
 | idx (a i:ME)
 | slice (a lo hi:ME)
 | blt (b:Blt) (es:List ME)
 | call (f:Nat) (es:List ME)
 | callD (f:Nat) (es:List ME) (d:List Sc)
 | comp (k:Sk) (src:List ME) (js:List Nat) (cond elt:ME)
 | dget (a k d:ME)
 | dat (a k:ME)
 | dIn (neg:Bool) (k a:ME)
 | lenP (i:Nat)
 | disp (kvs:List (Str×Str)) (e:ME)
 deriving Inhabited
noncomputable def a8:List PV->Option (List Int)
 | []=>some []
 | .int i::r=>(a8 r).map (i::·)
 | _=>none
noncomputable def fX:List PV->Option (List (List Int))
 | []=>some []
 | .tup xs::r=>(a8 xs).bind λx=>(fX r).map (x::·)
 | _=>none
noncomputable def cI:List PV->Option (List Bool)
 | []=>some []
 | .bl i::r=>(cI r).map (i::·)
 | _=>none
noncomputable def o6(kvs:List (Str×Str)):List (L2.Key×L2.V):=kvs.map λp=>(Sum.inr p.1,L2.V.str p.2)
noncomputable def B3(kvs:List (Str×Str)):PV->Option PV
 | .str x=>(L2.iY (L2.ik [] (o6 kvs)) (Sum.inr x)).bind λv=>match v with|.str y=>some (.str y)|_=>none
 | _=>none
noncomputable def xb:PV->PV->Option (Option Sc)
 | .dI (.k kvs),.int i=>some (cH kvs i)
 | .dI (.t kvs),.tup xs=>(a8 xs).map (cH kvs)
 | _,_=>none
noncomputable def qd:DD->PV->Sc->Option DD
 | .k kvs,.int i,s=>if kvs.length<10000 then some (.k (cK kvs i s))else none
 | .t kvs,.tup xs,s=>(a8 xs).bind λk=>if kvs.length<10000 then some (.t (cK kvs k s))else none
 | _,_,_=>none
noncomputable def dSc:DD->List Sc
 | .k kvs=>kvs.map (·.2)
 | .t kvs=>kvs.map (·.2)
 | .p _=>[]
noncomputable def jL(d:DD):List PV:=(dSc d).map Sc.pv
noncomputable def lexLt:List Int->List Int->Bool
 | [],[]=>false
 | [],_::_=>true
 | _::_,[]=>false
 |x::xs,y::ys=>if x=y then lexLt xs ys else decide (x<y)
noncomputable def zc(x:Int):List Int->List Int
 | []=>[x]
 |y::r=>if y<x then y::zc x r else x::y::r
noncomputable def sortI:List Int->List Int
 | []=>[]
 |x::r=>zc x (sortI r)
noncomputable def zd(x:List Int):List (List Int)->List (List Int)
 | []=>[x]
 |y::r=>if lexLt y x=true then y::zd x r else x::y::r
noncomputable def sortT:List (List Int)->List (List Int)
 | []=>[]
 |x::r=>zd x (sortT r)
noncomputable def dd:List Int->List Int
 | []=>[]
 |x::r=>if x∈dd r then dd r else x::dd r
noncomputable def jM{α:Type}(f:Int->Int->Option α):PV->PV->Option α
 | .int i,.int j=>f i j
 | _,_=>none
noncomputable def Di:PV->PV->Option PV
 | .int i,.int j=>some (.int (i+j))
 | .lst a,.lst b=>if a.length+b.length<=10000 then some (.lst (a++b))else none
 | .tup a,.tup b=>if a.length+b.length<=10000 then some (.tup (a++b))else none
 | .str a,.str b=>if a.length+b.length<=1000000 then some (.str (a++b))else none
 | _,_=>none
noncomputable def eC(op:Op2):PV->PV->Option PV:=match op with
 | .add=>Di
 | .sub=>jM λi j=>some (.int (i-j))
 | .mul=>jM λi j=>if (-(2 ^ 64)<i/\i<2 ^ 64)\/(-(2 ^ 64)<j/\j<2 ^ 64)then some (.int (i*j))else none
 | .fdiv=>jM λi j=>if 0<j/\j<1073741824 then some (.int (i / j))else none
 | .mod=>jM λi j=>if 0<j then some (.int (i % j))else none
 | .pow=>jM λi j=>if 0<=j/\j<=1000000/\i.natAbs<2 ^ 64 then some (.int (i ^ j.toNat))else none
 | .shr=>jM λi j=>if 0<=j then some (.int (i / 2 ^ j.toNat))else none
noncomputable def mQ:PV->Bool
 | .non=>true
 | _=>false
noncomputable def isIn(x:PV)(xs:List PV):Option Bool:=inL (λy=>eqF 100 y x) xs
noncomputable def Hm(a b:PV):Option Bool:=match b with
 | .non=>some (mQ a)
 | .bl q=>(match a with|.bl p=>some (p==q)|_=>none)
 | _=>none
noncomputable def a7:PV->Option (List PV)
 | .tup xs=>some xs
 | .lst xs=>some xs
 | _=>none
noncomputable def hW:PV->Option (List PV)
 | .lst xs=>some xs
 | _=>none
noncomputable def cy(op:Cp):PV->PV->Option Bool:=match op with
 | .eq=>eqF 100
 | .ne=>λa b=>if tY a b=true then(eqF 100 a b).map λp=>!p else none
 | .lt=>jM λi j=>some (decide (i<j))
 | .le=>jM λi j=>some (decide (i<=j))
 | .gt=>jM λi j=>some (decide (j<i))
 | .ge=>jM λi j=>some (decide (j<=i))
 | .isN=>Hm
 | .notN=>λa b=>(Hm a b).map λp=>!p
 | .isIn=>λa b=>(a7 b).bind (isIn a)
 | .notIn=>λa b=>((a7 b).bind (isIn a)).map λp=>!p
noncomputable def place(n:Nat)(i:Int):Option Nat:=
 if 0<=i then(if i<n then some i.toNat else none)else if -(n:Int)<=i then some (i+n).toNat else none
noncomputable def fo:PV->PV->Option PV
 | .tup xs,.int i=>(place xs.length i).bind λj=>xs[j]?
 | .lst xs,.int i=>(place xs.length i).bind λj=>xs[j]?
 | _,_=>none
noncomputable def fY(n d:Nat):Option Int->Nat
 |none=>d
 |some i=>if i<0 then(i+n).toNat else min i.toNat n
noncomputable def cut(xs:List PV)(lo hi:Option Int):List PV:=(xs.drop (fY xs.length 0 lo)).take (fY xs.length xs.length hi-fY xs.length 0 lo)
noncomputable def iQ:PV->Option Int->Option Int->Option PV
 | .lst xs,lo,hi=>some (.lst (cut xs lo hi))
 | .tup xs,lo,hi=>some (.tup (cut xs lo hi))
 | _,_,_=>none
noncomputable def bnd:ME->PV->Option (Option Int)
 | .cst .non,_=>some none
 | _,.int i=>some (some i)
 | _,_=>none
noncomputable def ze:List Int->Option Int
 | []=>none
 |x::r=>some (r.foldl (λa b=>if a<b then b else a) x)
noncomputable def ip(xs:List PV):Option PV:=
 if xs.length<64 then
  match a8 xs with
  |some ns=>some (.lst ((sortI ns).map .int))
  |none=>(fX xs).map λz=>.lst ((sortT z).map λt=>.tup (t.map .int))
 else none
noncomputable def isT(b:Blt):PV->Bool
 | .int _=>b==.isInt
 | .bl _=>b==.isInt||b==.isBool
 | .str _=>b==.isStr
 | .lst _=>b==.isList
 | .tup _=>b==.isTuple
 | .non=>false
 | .dI _=>false
noncomputable def isD:PV->Bool
 | .dI _=>true
 | _=>false
noncomputable def cf(vs:List PV)(f:PV->Option PV):Option PV:=match vs with
 | [a]=>f a
 | _=>none
noncomputable def lH(vs:List PV)(f:PV->PV->Option PV):Option PV:=match vs with
 | [a,b]=>f a b
 | _=>none
noncomputable def iZ(b:Blt)(vs:List PV):Option PV:=cf vs λa=>if isD a=true then none else some (.bl (isT b a))
noncomputable def Hn:PV->Option PV
 | .tup xs=>some (.int xs.length)
 | .lst xs=>some (.int xs.length)
 | .dI (.k kvs)=>some (.int kvs.length)
 | _=>none
noncomputable def aC(b:Blt)(vs:List PV):Option PV:=match b with
 | .len=>cf vs Hn
 | .tupleOf=>cf vs λa=>(a7 a).map .tup
 | .listOf=>cf vs λa=>(a7 a).map .lst
 | .sorted=>cf vs λa=>(a7 a).bind ip
 | .any=>cf vs λa=>(hW a).bind λxs=>(cI xs).map λbs=>.bl (bs.any id)
 | .all=>cf vs λa=>(hW a).bind λxs=>(cI xs).map λbs=>.bl (bs.all id)
 | .sum=>cf vs λa=>(hW a).bind λxs=>(a8 xs).map λns=>.int ns.sum
 | .max1=>cf vs λa=>(hW a).bind λxs=>(a8 xs).bind λns=>(ze ns).map .int
 | .min1=>none
 | .max2=>lH vs (jM λi j=>some (.int (if j > i then j else i)))
 | .min2=>lH vs (jM λi j=>some (.int (if j<i then j else i)))
 | .intOf=>cf vs λa=>match a with|.int i=>some (.int i)|.bl b=>some (.int (if b then 1 else 0))|_=>none
 | .boolOf=>cf vs λa=>match a with|.bl b=>some (.bl b)|_=>none
 | .isInt=>iZ .isInt vs
 | .isBool=>iZ .isBool vs
 | .isStr=>iZ .isStr vs
 | .isList=>iZ .isList vs
 | .isTuple=>iZ .isTuple vs
 | .sortedSet=>cf vs λa=>(a7 a).bind λxs=>(a8 xs).bind λns=>if ns.length<=4000/\(dd ns).length<64 then some (.lst ((sortI (dd ns)).map .int))else none
 | .lenSet=>cf vs λa=>(a7 a).bind λxs=>(a8 xs).bind λns=>if ns.length<=4000 then some (.int (dd ns).length)else none
 | .lenSetSub=>lH vs λa b=>(a7 a).bind λxs=>(a8 xs).bind λns=>(a7 b).bind λys=>(a8 ys).bind λms =>
   if ns.length<=4000/\ms.length<=4000/\(dd ns).length<=60 then some (.int ((dd ns).filter λn=>!decide (n∈ms)).length)else none
 | .sortedKeys=>cf vs λa=>match a with|.dI (.k kvs)=>if kvs.length<64 then some (.lst ((sortI (kvs.map (·.1))).map .int))else none|_=>none
 | .tupleRev=>cf vs λa=>(hW a).map λxs=>.tup xs.reverse
 | .valuesOf=>cf vs λa=>match a with|.dI d=>if (jL d).length<=10000 then some (.lst (jL d))else none|_=>none
noncomputable def bz(n:Nat):List PV->List PV
 | []=>[]
 |x::r=>.tup [.int (n:Nat),x]::bz (n+1) r
noncomputable def bc:Sk->List PV->Option (List PV)
 | .seq,[a]=>a7 a
 | .rng,[.int j]=>if -(2 ^ 62)<=j/\j<2 ^ 62 then some ((range j.toNat).map λ(k:Nat)=>.int ((0:Int)+k))else none
 | .rng,[.int i,.int j]=>if -(2 ^ 62)<=i/\i<2 ^ 62/\-(2 ^ 62)<=j/\j<2 ^ 62 then some ((range (j-i).toNat).map λ(k:Nat)=>.int (i+k))else none
 | .rng,[.int i,.int j,.int c]=>if c=2/\-1000<=i/\i<=1000/\-1000<=j/\j<=1000 then some ((range ((j-i+1) / 2).toNat).map λ(k:Nat)=>.int (i+k*2))else none
 | .enm,[a]=>(a7 a).map (bz 0)
 | .rev,[.lst xs]=>some xs.reverse
 | _,_=>none
noncomputable def fL(c:PV->Option Bool)(f:PV->Option PV):List PV->Option (List PV)
 | []=>some []
 |x::r=>(c x).bind λb=>if b=true then(f x).bind λy=>(fL c f r).map (y::·)else fL c f r
noncomputable def aZ:PV->Option Bool
 | .bl b=>some b
 | _=>none
noncomputable abbrev Cal:=Nat->List MV->Option PV
noncomputable def zf:Option MV->Option PV
 |some (.val v)=>some v
 | _=>none
noncomputable def rG:DD->Bool
 | .p _=>false
 | _=>true
noncomputable def bC:Option MV->Option PV
 |some (.val v)=>some v
 |some (.own xs)=>some (.lst xs)
 |some (.brw xs)=>some (.lst xs)
 |some (.ownD kvs)=>if rG kvs=true then some (.dI kvs)else none
 |some (.brwD kvs)=>if rG kvs=true then some (.dI kvs)else none
 |some (.mutD kvs)=>if rG kvs=true then some (.dI kvs)else none
 |none=>none
noncomputable def fZ:Option MV->Option MV
 |some (.val v)=>some (.val v)
 |some (.own xs)=>some (.brw xs)
 |some (.brw xs)=>some (.brw xs)
 |some (.ownD xs)=>some (.brwD xs)
 |some (.brwD xs)=>some (.brwD xs)
 |some (.mutD xs)=>some (.brwD xs)
 |none=>none
noncomputable def fq:Option MV->Option MV
 |some (.own xs)=>some (.brw xs)
 |some (.ownD xs)=>some (.brwD xs)
 |some (.mutD xs)=>some (.brwD xs)
 |o=>o
noncomputable def cb(js:List Nat)(W:Rho)(x:PV):Rho:=some (.val x)::js.map λj=>fq (W[j]?).join
noncomputable def tZ:Option MV->Option PV
 |some (.ownD (.p ns))=>some (.int ns.length)
 |some (.mutD (.p ns))=>some (.int ns.length)
 | _=>none
mutual
noncomputable def ev(cal:Cal):ME->Rho->Option PV
 | .var i,W=>zf (W[i]?).join
 | .bor i,W=>bC (W[i]?).join
 | .cst v,_=>some v
 | .glob _ v,_=>some v
 | .bin op a b,W=>(ev cal a W).bind λx=>(ev cal b W).bind λy=>eC op x y
 | .neg a,W=>(ev cal a W).bind λx=>match x with|.int i=>some (.int (-i))|_=>none
 | .not a,W=>((ev cal a W).bind aZ).map λb=>.bl (!b)
 | .and a b,W=>((ev cal a W).bind aZ).bind λc=>if c=true then(ev cal b W).bind λy=>(aZ y).map .bl else some (.bl false)
 | .or a b,W=>((ev cal a W).bind aZ).bind λc=>if c=true then some (.bl true)else(ev cal b W).bind λy=>(aZ y).map .bl
 | .ite c a b,W=>((ev cal c W).bind aZ).bind λk=>if k=true then ev cal a W else ev cal b W
 | .cmp op a b,W=>(ev cal a W).bind λx=>(ev cal b W).bind λy=>(cy op x y).map .bl
 | .chain op J a b c,W=>(ev cal a W).bind λx=>(ev cal b W).bind λy=>(cy op x y).bind λk=>if k=true then(ev cal c W).bind λz=>(cy J y z).map .bl else some (.bl false)
 | .tup es,W=>(evs cal es W).bind λvs=>if vs.length<=10000 then some (.tup vs)else none
 | .lst es,W=>(evs cal es W).bind λvs=>if vs.length<=10000 then some (.lst vs)else none
 | .idx a i,W=>(ev cal a W).bind λx=>(ev cal i W).bind λy=>fo x y
 | .slice a lo hi,W=>(ev cal a W).bind λx=>((ev cal lo W).bind λl=>bnd lo l).bind λl=>((ev cal hi W).bind λh=>bnd hi h).bind λh=>iQ x l h
 | .blt b es,W=>(evs cal es W).bind λvs=>aC b vs
 | .call f es,W=>(evA cal es W).bind λvs=>cal f vs
 | .callD f es d,W=>(evA cal es W).bind λvs=>cal f (vs++d.map λx=>.val x.pv)
 | .comp k src js cond elt,W=>(evs cal src W).bind λvs=>(bc k vs).bind λxs =>
   if xs.length<=10000 then(fL (λx=>(ev cal cond (cb js W x)).bind aZ) (λx=>ev cal elt (cb js W x)) xs).map .lst else none
 | .dget a k d,W=>(ev cal a W).bind λx=>(ev cal k W).bind λy=>(ev cal d W).bind λz=>(xb x y).bind λo=>(sc? z).map λs=>(o.getD s).pv
 | .dat a k,W=>(ev cal a W).bind λx=>(ev cal k W).bind λy=>(xb x y).bind λo=>o.map Sc.pv
 | .dIn neg k a,W=>(ev cal k W).bind λy=>(ev cal a W).bind λx=>(xb x y).map λo=>.bl (if neg=true then !o.isSome else o.isSome)
 | .lenP i,W=>tZ (W[i]?).join
 | .disp kvs e,W=>(ev cal e W).bind (B3 kvs)
noncomputable def evs(cal:Cal):List ME->Rho->Option (List PV)
 | [],_=>some []
 |e::es,W=>(ev cal e W).bind λv=>(evs cal es W).map (v::·)
noncomputable def evA(cal:Cal):List ME->Rho->Option (List MV)
 | [],_=>some []
 | .bor i::es,W=>(fZ (W[i]?).join).bind λv=>(evA cal es W).map (v::·)
 |e::es,W=>(ev cal e W).bind λv=>(evA cal es W).map (MV.val v::·)
end
noncomputable def evB(cal:Cal)(e:ME)(W:Rho):Option Bool:=(ev cal e W).bind aZ
noncomputable def f_:Option MV->Option DD
 |some (.ownD d)=>some d
 |some (.mutD d)=>some d
 | _=>none
noncomputable def evM(cal:Cal):List Bool->List ME->Rho->Option (List MV)
 | [],[],_=>some []
 |true::bs,.bor i::es,W=>(f_ (W[i]?).join).bind λd=>(evM cal bs es W).map (MV.mutD d::·)
 |false::bs,e::es,W=>(evA cal [e] W).bind λa=>match a with|[.val v]=>(evM cal bs es W).map (MV.val v::·)|_=>none
 | _,_,_=>none
noncomputable def fg(W:Rho)(i:Nat)(d:DD):Rho:=match (W[i]?).join with
 |some (.ownD _)=>W.set i (some (.ownD d))
 | _=>W.set i (some (.mutD d))
noncomputable def jN:List Bool->List ME->List PV->Rho->Option Rho
 | [],[],[],W=>some W
 |true::bs,.bor i::es,.dI d::ds,W=>jN bs es ds (fg W i d)
 |false::bs,_::es,ds,W=>jN bs es ds W
 | _,_,_,_=>none
noncomputable def rH(cal:Cal)(f:Nat)(mask:List Bool)(es:List ME)(W:Rho):Option (PV×Rho):=
 match (evM cal mask es W).bind λvs=>cal (f+2000) vs with
 |some (.tup (v::ds))=>(jN mask es ds W).map λl=>(v,l)
 | _=>none
inductive SK where
 | one|cat|pair
 deriving DecidableEq
noncomputable def Dj:SK->PV->PV->Option PV
 | .one,_,v=>some v
 | .cat,w,v=>eC .add w v
 | .pair,w,v=>some (.tup [w,v])
noncomputable def B4:Option MV->Option MV
 |some (.val v)=>some (.val v)
 |some (.brw xs)=>some (.brw xs)
 |some (.ownD d)=>some (.mutD d)
 |some (.mutD d)=>some (.mutD d)
 |some (.brwD d)=>some (.brwD d)
 | _=>none
noncomputable def kG(js:List Nat)(W:Rho)(x:PV):Rho:=some (.val x)::js.map λj=>B4 (W[j]?).join
noncomputable def EB(js:List Nat):ME->ME
 | .bor i=>.bor (if i=0 then 0 else js.getD (i-1) 0)
 |e=>e
noncomputable def dk(cal:Cal)(js:List Nat)(k:SK)(e:ME)(f:Nat)(mask:List Bool)(es:List ME):List PV->Rho->Option (List PV×Rho)
 | [],W=>some ([],W)
 |x::xs,W=>(ev cal e (kG js W x)).bind λw=>match (evM cal mask es (kG js W x)).bind λvs=>cal (f+2000) vs with
  |some (.tup (v::ds))=>(Dj k w v).bind λr=>(jN mask (es.map (EB js)) ds W).bind λl=>(dk cal js k e f mask es xs l).map λp=>(r::p.1,p.2)
  | _=>none
inductive XE where
 | pure (e:ME)
 | call (f:Nat) (mask:List Bool) (es:List ME)
 | pop (i:Nat)
 | bin (op:Op2) (a:XE) (b:ME)
 | fn (g:Nat) (a:XE) (es:List ME)
 | tup (xs:List XE)
 | tupOf (a:XE)
 | lst (xs:List XE)
 | fn2 (g:Nat) (e:ME) (a:XE)
 | compS (src:ME) (js:List Nat) (k:SK) (e:ME) (f:Nat) (mask:List Bool) (es:List ME)
 deriving Inhabited
noncomputable def B5(i:Nat)(W:Rho):Option (PV×Rho):=match f_ (W[i]?).join with
 |some (.p ns)=>(ns.getLast?).map λn=>(.int n,fg W i (.p ns.dropLast))
 | _=>none
mutual
noncomputable def evX(cal:Cal):XE->Rho->Option (PV×Rho)
 | .pure e,W=>(ev cal e W).map λv=>(v,W)
 | .call f mask es,W=>rH cal f mask es W
 | .pop i,W=>B5 i W
 | .bin op a b,W=>(evX cal a W).bind λp=>(ev cal b p.2).bind λy=>(eC op p.1 y).map λr=>(r,p.2)
 | .fn g a es,W=>(evX cal a W).bind λp=>(evA cal es p.2).bind λvs=>(cal g (.val p.1::vs)).map λr=>(r,p.2)
 | .tup xs,W=>(evXs cal xs W).bind λp=>if p.1.length<=10000 then some (.tup p.1,p.2)else none
 | .lst xs,W=>(evXs cal xs W).bind λp=>if p.1.length<=10000 then some (.lst p.1,p.2)else none
 | .fn2 g e a,W=>(ev cal e W).bind λw=>(evX cal a W).bind λp=>(cal g [.val w,.val p.1]).map λr=>(r,p.2)
 | .tupOf a,W=>(evX cal a W).bind λp=>(aC .tupleOf [p.1]).map λr=>(r,p.2)
 | .compS src js k e f mask es,W=>(evs cal [src] W).bind λvs=>(bc .seq vs).bind λxs=>if xs.length<=10000 then(dk cal js k e f mask es xs W).map λp=>(.lst p.1,p.2)else none
noncomputable def evXs(cal:Cal):List XE->Rho->Option (List PV×Rho)
 | [],W=>some ([],W)
 |x::xs,W=>(evX cal x W).bind λp=>(evXs cal xs p.2).map λq=>(p.1::q.1,q.2)
end
set_option genInjectivity false in
inductive MS where
 | set (i:Nat) (e:ME)
 | setOwn (i:Nat) (e:ME)
 | freeze (i:Nat)
 | append (i:Nat) (e:ME)
 | extend (i:Nat) (e:ME)
 | popAt (i:Nat) (k:ME)
 | setIdx (i:Nat) (k v:ME)
 | unpack (is:List Nat) (e:ME)
 | expr (e:ME)
 | ite (c:ME) (a b:List MS)
 | for1 (i:Nat) (k:Sk) (src:List ME) (body:List MS)
 | forT (is:List Nat) (k:Sk) (src:List ME) (body:List MS)
 | while (n:Nat) (c:ME) (body:List MS)
 | ret (e:ME)
 | retOwn (i:Nat)
 | retN
 | brk
 | cont
 | pass
 | never
 | newD (m:Bool) (i:Nat)
 | retM (e:ME)
 | retF (e:ME)
 | setCall (i f:Nat) (es:List ME)
 | clear (i:Nat)
 | setP (i:Nat) (e:ME)
 | setQ (i:Nat) (e:ME)
 | setX (i:Nat) (x:XE)
 | appX (i:Nat) (x:XE)
 | retXE (x:XE)
 | forX (i:Nat) (x:XE) (body:List MS)
 | dput (i:Nat) (k v:ME)
 deriving Inhabited
inductive R where
 | next (W:Rho)|brk (W:Rho)|cont (W:Rho)|ret (v:PV)|bad
 | retF (xs:List PV)
 | retM (v:PV) (W:Rho)
 deriving Inhabited
noncomputable def R.andThen:R->(Rho->R)->R
 | .next W,k=>k W
 |r,_=>r
noncomputable def put(W:Rho)(i:Nat)(v:MV):Rho:=W.set i (some v)
noncomputable def dS(o:Option PV)(k:PV->R):R:=match o with
 |some v=>k v
 |none=>.bad
noncomputable def zg(o:Option Bool)(k:Bool->R):R:=match o with
 |some v=>k v
 |none=>.bad
noncomputable def mR:List Nat->List PV->Rho->Option Rho
 | [],[],W=>some W
 |i::is,v::vs,W=>mR is vs (put W i (.val v))
 | _,_,_=>none
noncomputable def cM(is:List Nat):PV->Rho->Option Rho
 | .tup vs,W=>mR is vs W
 | _,_=>none
noncomputable def cg(o:Option Rho)(f:Rho->R):R:=match o with
 |some W=>f W
 |none=>.bad
noncomputable def ay(body:PV->Rho->R):List PV->Rho->R
 | [],W=>.next W
 |x::r,W=>match body x W with
  | .next l=>ay body r l
  | .cont l=>ay body r l
  | .brk l=>.next l
  | .ret v=>.ret v
  | .bad=>.bad
  | .retF xs=>.retF xs
  | .retM v l=>.retM v l
noncomputable def qe(c:Rho->Option Bool)(body:Rho->R):Nat->Rho->R
 |0,_=>.bad
 |n+1,W=>match c W with
  |none=>.bad
  |some false=>.next W
  |some true=>match body W with
   | .next l=>qe c body n l
   | .cont l=>qe c body n l
   | .brk l=>.next l
   | .ret v=>.ret v
   | .bad=>.bad
   | .retF xs=>.retF xs
   | .retM v l=>.retM v l
noncomputable def bv(src:List ME)(W:Rho):Rho:=match src with
 | [.bor i]=>(match (W[i]?).join with|some (.own xs)=>put W i (.brw xs)|_=>W)
 | _=>W
noncomputable def aP(src:List ME)(z W:Rho):Rho:=match src with
 | [.bor i]=>(match (z[i]?).join,(W[i]?).join with|some (.own _),some (.brw xs)=>put W i (.own xs)|_,_=>W)
 | _=>W
noncomputable def R.back(src:List ME)(z:Rho):R->R
 | .next W=>.next (aP src z W)
 | .brk W=>.brk (aP src z W)
 | .cont W=>.cont (aP src z W)
 | .retM v W=>.retM v (aP src z W)
 |r=>r
mutual
noncomputable def ex(cal:Cal):MS->Rho->R
 | .set i e,W=>dS (ev cal e W) λv=>.next (put W i (.val v))
 | .setOwn i e,W=>dS (ev cal e W) λv=>match v with|.lst xs=>.next (put W i (.own xs))|_=>.bad
 | .freeze i,W=>match (W[i]?).join with|some (.own xs)=>.next (put W i (.val (.lst xs)))|some _=>.next W|none=>.bad
 | .append i e,W=>dS (ev cal e W) λv=>match (W[i]?).join with
  |some (.own xs)=>if xs.length<10000 then .next (put W i (.own (xs++[v])))else .bad
  | _=>.bad
 | .extend i e,W=>dS (ev cal e W) λv=>match (W[i]?).join,a7 v with
  |some (.own xs),some ys=>if xs.length+ys.length<=10000 then .next (put W i (.own (xs++ys)))else .bad
  | _,_=>.bad
 | .popAt i k,W=>dS (ev cal k W) λk=>match (W[i]?).join,k with
  |some (.own xs),.int j=>if 0<=j/\j<xs.length/\xs.length<=10000 then .next (put W i (.own (xs.eraseIdx j.toNat)))else .bad
  | _,_=>.bad
 | .setIdx i k v,W=>dS (ev cal v W) λv=>dS (ev cal k W) λk=>match (W[i]?).join,k with
  |some (.own xs),.int k=>(match place xs.length k with|some j=>.next (put W i (.own (xs.set j v)))|none=>.bad)
  | _,_=>.bad
 | .unpack is e,W=>dS (ev cal e W) λv=>cg (cM is v W) .next
 | .expr e,W=>dS (ev cal e W) λ_=>.next W
 | .ite c a b,W=>zg (evB cal c W) λk=>if k=true then exs cal a W else exs cal b W
 | .for1 i k src body,W=>match (evs cal src W).bind (bc k)with
  |some xs=>(ay (λx l=>exs cal body (put l i (.val x))) xs (bv src W)).back src W
  |none=>.bad
 | .forT is k src body,W=>match (evs cal src W).bind (bc k)with
  |some xs=>(ay (λx l=>cg (cM is x l) λz=>exs cal body z) xs (bv src W)).back src W
  |none=>.bad
 | .while n c body,W=>qe (evB cal c) (λl=>exs cal body l) n W
 | .ret e,W=>dS (ev cal e W) .ret
 | .retOwn i,W=>match (W[i]?).join with|some (.own xs)=>.ret (.lst xs)|some (.ownD kvs)=>if rG kvs=true then .ret (.dI kvs)else .bad|some (.val v)=>.ret v|_=>.bad
 | .newD m i,W=>.next (put W i (.ownD (if m=true then .t []else .k [])))
 | .dput i k v,W=>dS (ev cal v W) λv=>dS (ev cal k W) λk=>match (W[i]?).join,sc? v with
  |some (.ownD d),some s=>match qd d k s with|some d'=>.next (put W i (.ownD d'))|none=>.bad
  |some (.mutD d),some s=>match qd d k s with|some d'=>.next (put W i (.mutD d'))|none=>.bad
  | _,_=>.bad
 | .retM e,W=>dS (ev cal e W) λv=>.retM v W
 | .retF e,W=>dS (ev cal e W) λv=>match v with|.lst xs=>.retF xs|_=>.bad
 | .setCall i f es,W=>dS ((evA cal es W).bind λvs=>cal (f+1000) vs) λv=>match v with|.lst xs=>.next (put W i (.own xs))|_=>.bad
 | .clear i,W=>match (W[i]?).join with|some (.own _)=>.next (put W i (.own []))|_=>.bad
 | .setP i e,W=>match ev cal e W with
  |some (.lst xs)=>(match a8 xs with
   |some ns=>.next (put W i (.ownD (.p ns.reverse)))
   |none=>.bad)
  | _=>.bad
 | .setQ i e,W=>match ev cal e W with
  |some (.lst xs)=>(match a8 xs with
   |some ns=>.next (put W i (.ownD (.p ns)))
   |none=>.bad)
  | _=>.bad
 | .setX i x,W=>match evX cal x W with
  |some (v,l)=>.next (put l i (.val v))
  |none=>.bad
 | .appX i x,W=>match (W[i]?).join with
  |some (.own _)=>(match evX cal x W with
   |some (v,l)=>(match (l[i]?).join with
    |some (.own xs)=>if xs.length<10000 then .next (put l i (.own (xs++[v])))else .bad
    | _=>.bad)
   |none=>.bad)
  | _=>.bad
 | .retXE x,W=>match evX cal x W with
  |some (v,l)=>.retM v l
  |none=>.bad
 | .forX i x body,W=>match evX cal x W with
  |some (v,l)=>(match bc .rng [v]with
   |some xs=>ay (λy z=>exs cal body (put z i (.val y))) xs l
   |none=>.bad)
  |none=>.bad
 | .retN,_=>.ret .non
 | .brk,W=>.brk W
 | .cont,W=>.cont W
 | .pass,W=>.next W
 | .never,_=>.bad
noncomputable def exs(cal:Cal):List MS->Rho->R
 | [],W=>.next W
 |s::ss,W=>(ex cal s W).andThen λl=>exs cal ss l
end
structure MD where
 name:Str
 params:List Str
 names:List Str
 body:List MS
 deriving Inhabited
noncomputable def dZ:List MV->Rho->Option (List PV)
 | [],_=>some []
 | .mutD _::as,some (.mutD d)::W=>(dZ as W).map (.dI d::·)
 | .val _::as,_::W=>dZ as W
 | _,_=>none
noncomputable def aa(ds:List MD):Nat->Cal
 |0,_,_=>none
 |n+1,f,args=>match ds[f]? with
  |none=>if 2000<=f then(
   match ds[f-2000]? with
   |none=>none
   |some d=>if args.length=d.params.length then
     (match exs (aa ds n) d.body (args.map some++replicate (d.names.length-args.length) none)with
     | .retM v W=>(dZ args W).map λds=>.tup (v::ds)
     | _=>none)else none)else
   (match ds[f-1000]? with
   |none=>none
   |some d=>if args.length=d.params.length then
     (match exs (aa ds n) d.body (args.map some++replicate (d.names.length-args.length) none)with
     | .retF xs=>some (.lst xs)
     | _=>none)else none)
  |some d=>if args.length=d.params.length then
    (match exs (aa ds n) d.body (args.map some++replicate (d.names.length-args.length) none)with
    | .next _=>some .non
    | .ret v=>some v
    | .retF xs=>some (.lst xs)
    | _=>none)else none
end MM
namespace MM
open PySem PySem.Spec PyProof.Rows L2 List Option
noncomputable abbrev St:=L2.St
noncomputable def aw(H:Hp)(O:List Addr):Hp:=λb=>if b∈O then none else H b
def eE(h:b∈O):aw H O b=none:=if_pos h
def aV(h:b∉O):aw H O b=H b:=if_neg h
theorem aj.rd(s:aj H H')(h:Rd H a u):Rd H' a u:=h.elim (λe=>.inl (s a _ e)) λ⟨o,e⟩=>.inr ⟨o,s a _ e⟩
def bR(H)(O):aj (aw H O) H:=λb u e=>by
 unfold aw at e
 simp_all
def bM(s:aj H H')(h:∀b∈U,b∈O\/H b=none):aj (aw H O) (aw H' U):=λb u e=>by
 have J:b∉O:=λz=>by rw[eE z]at e;cases e
 rw[aV J]at e;rw[aV]
 .exact s b u e
 .intro z;rcases h b z with q|q
  .exact J q
  .rw[q]at e;cases e
def ak(s:aj H H'):aj (aw H O) (aw H' O):=bM s λ_ h=>.inl h
noncomputable def Sc.v:Sc->V
 | .non=>.non
 | .bl b=>.bl b
 | .int i=>.int i
 | .str x=>.str x
noncomputable def iq(kvs:List (Int×Sc)):List (Key×V):=kvs.map λp=>(Sum.inl p.1,p.2.v)
noncomputable def ji(kvs:List (List Int×Sc)):List (List Key×V):=kvs.map λp=>(p.1.map Sum.inl,p.2.v)
noncomputable def ir:DD->HO
 | .k kvs=>.dK (iq kvs)
 | .t kvs=>.dT (ji kvs)
 | .p ns=>.lst (ns.map V.int)
def RdD(F:Hp)(a:Addr)(d:DD):Prop:=Rd F a (ir d)/\rG d=true
theorem RdD.rd(h:RdD F a d):Rd F a (ir d):=h.1
theorem aj.rdD(s:aj H H')(h:RdD H a d):RdD H' a d:=⟨aj.rd s h.1,h.2⟩
mutual
noncomputable def Rep(K:NF)(F:Hp):PV->V->Prop
 | .non,u=>u=.non
 | .bl b,u=>u=.bl b
 | .int i,u=>u=.int i
 | .str x,u=>u=.str x
 | .tup xs,u=>∃a us,u=.ref a/\F a=some (.tup us)/\Reps K F xs us
 | .lst xs,u=>∃a us,u=.ref a/\SqL K F a us/\Reps K F xs us
 | .dI kvs,u=>∃a,u=.ref a/\RdD F a kvs
noncomputable def Reps(K:NF)(F:Hp):List PV->List V->Prop
 | [],us=>us=[]
 |x::xs,us=>∃u r,us=u::r/\Rep K F x u/\Reps K F xs r
end
section
variable{K:NF}{F F':Hp}
mutual
theorem Rep.mono(s:aj F F'):∀(x:PV) {u:V},Rep K F x u->Rep K F' x u
 | .non,_,h=>by simpa only[Rep]using h
 | .bl _,_,h=>by simpa only[Rep]using h
 | .int _,_,h=>by simpa only[Rep]using h
 | .str _,_,h=>by simpa only[Rep]using h
 | .tup xs,_,h=>by
  rw[Rep]at h ⊢;obtain⟨a,us,e,q,r⟩:=h;exact⟨a,us,e,s a _ q,Reps.mono s xs r⟩
 | .lst xs,_,h=>by
  rw[Rep]at h ⊢;obtain⟨a,us,e,q,r⟩:=h;exact⟨a,us,e,s.seq q,Reps.mono s xs r⟩
 | .dI kvs,_,h=>by
  rw[Rep]at h ⊢;obtain⟨a,e,q⟩:=h;exact⟨a,e,aj.rdD s q⟩
theorem Reps.mono(s:aj F F'):∀(xs:List PV) {us:List V},Reps K F xs us->Reps K F' xs us
 | [],_,h=>by simpa only[Reps]using h
 |x::xs,_,h=>by
  rw[Reps]at h ⊢;obtain⟨u,r,e,q,t⟩:=h;exact⟨u,r,e,Rep.mono s x q,Reps.mono s xs t⟩
end
theorem Reps.nil:Reps K F [] []:=rfl
theorem Reps.cons{u:V}{us:List V}(h:Rep K F x u)(t:Reps K F xs us):Reps K F (x::xs) (u::us):=by
 rw[Reps];exact⟨u,us,rfl,h,t⟩
theorem Reps.length:∀{xs}{us},Reps K F xs us->xs.length=us.length
 | [],_,h=>by rw[Reps]at h;subst h;rfl
 |x::xs,_,h=>by
  obtain⟨u,r,e,_,t⟩:=h;subst e;simp[Reps.length t]
theorem Reps.get:∀{xs}{us}{i:Nat}{x},Reps K F xs us->xs[i]?=some x->∃u,us[i]?=some u/\Rep K F x u
 | [],_,_,_,_,e=>by simp at e
 |x::xs,_,i,y,h,e=>by
  obtain⟨u,r,rfl,q,t⟩:=h;cases i with
  |zero=>simp at e;subst e;exact⟨u,by simp,q⟩
  |succ i=>obtain⟨w,h1,h2⟩:=Reps.get (i:=i) t (by simpa using e);exact⟨w,by simpa using h1,h2⟩
theorem Reps.get':∀{xs}{us}{i:Nat}{u},Reps K F xs us->us[i]?=some u->∃x,xs[i]?=some x/\Rep K F x u
 | [],_,i,_,h,e=>by rw[Reps]at h;subst h;simp at e
 |x::xs,_,i,y,h,e=>by
  obtain⟨u,r,rfl,q,t⟩:=h;cases i with
  |zero=>simp at e;subst e;exact⟨x,by simp,q⟩
  |succ i=>obtain⟨w,h1,h2⟩:=Reps.get' (i:=i) t (by simpa using e);exact⟨w,by simpa using h1,h2⟩
theorem Reps.append:∀{xs ys}{us z},Reps K F xs us->Reps K F ys z->Reps K F (xs++ys) (us++z)
 | [],_,_,_,h,g=>by rw[Reps]at h;subst h;exact g
 |x::xs,_,_,_,h,g=>by
  obtain⟨u,r,rfl,q,t⟩:=h;exact .cons q (Reps.append t g)
theorem Reps.snoc(h:Reps K F xs us)(g:Rep K F x u):Reps K F (xs++[x]) (us++[u]):=h.append (.cons g .nil)
theorem Reps.take:∀{xs}{us} n,Reps K F xs us->Reps K F (xs.take n) (us.take n)
 | _,_,0,_=>by simpa using Reps.nil
 | [],_,n+1,h=>by rw[Reps]at h;subst h;simpa using Reps.nil
 |x::xs,_,n+1,h=>by
  obtain⟨u,r,rfl,q,t⟩:=h;exact .cons q (Reps.take n t)
theorem Reps.drop:∀{xs}{us} n,Reps K F xs us->Reps K F (xs.drop n) (us.drop n)
 | _,_,0,h=>h
 | [],_,n+1,h=>by rw[Reps]at h;subst h;simpa using Reps.nil
 |x::xs,_,n+1,h=>by
  obtain⟨u,r,rfl,q,t⟩:=h;exact Reps.drop n t
theorem Reps.set:∀{xs}{us}{x}{u} n,Reps K F xs us->Rep K F x u->Reps K F (xs.set n x) (us.set n u)
 | [],_,_,_,n,h,_=>by rw[Reps]at h;subst h;simpa using Reps.nil
 |x::xs,_,_,_,0,h,g=>by
  obtain⟨u,r,rfl,q,t⟩:=h;exact .cons g t
 |x::xs,_,_,_,n+1,h,g=>by
  obtain⟨u,r,rfl,q,t⟩:=h;exact .cons q (Reps.set n t g)
theorem Reps.dropLast(h:Reps K F xs us):Reps K F xs.dropLast us.dropLast:=by
 rw[dropLast_eq_take,dropLast_eq_take,<- h.length];exact h.take _
theorem Reps.ints:∀{ns:List Int}{us},Reps K F (ns.map .int) us->us=ns.map V.int
 | [],_,h=>by simpa[Reps]using h
 |n::ns,_,h=>by
  obtain⟨u,r,rfl,q,t⟩:=h;rw[q,Reps.ints t];rfl
theorem Reps.of_ints:∀(ns:List Int),Reps K F (ns.map .int) (ns.map V.int)
 | []=>.nil
 |n::ns=>.cons (by rw[Rep]) (Reps.of_ints ns)
theorem dl:∀{xs}{ns},a8 xs=some ns->xs=ns.map .int
 | [],_,h=>by simp[a8]at h;subst h;rfl
 | .int i::r,ns,h=>by
  simp[a8]at h;obtain⟨ms,h1,rfl⟩:=h;rw[dl h1];rfl
 | .non::_,_,h=>by simp[a8]at h
 | .bl _::_,_,h=>by simp[a8]at h
 | .str _::_,_,h=>by simp[a8]at h
 | .tup _::_,_,h=>by simp[a8]at h
 | .lst _::_,_,h=>by simp[a8]at h
 | .dI _::_,_,h=>by simp[a8]at h
theorem rJ:∀{xs}{ns},fX xs=some ns->xs=ns.map λt=>.tup (t.map .int)
 | [],_,h=>by simp[fX]at h;subst h;rfl
 | .tup i::r,ns,h=>by
  simp[fX,gf]at h;obtain⟨t,z,ms,h1,rfl⟩:=h;rw[rJ h1,dl z];rfl
 | .non::_,_,h=>by simp[fX]at h
 | .bl _::_,_,h=>by simp[fX]at h
 | .str _::_,_,h=>by simp[fX]at h
 | .int _::_,_,h=>by simp[fX]at h
 | .lst _::_,_,h=>by simp[fX]at h
 | .dI _::_,_,h=>by simp[fX]at h
theorem kH:∀{xs}{ns},cI xs=some ns->xs=ns.map .bl
 | [],_,h=>by simp[cI]at h;subst h;rfl
 | .bl i::r,ns,h=>by
  simp[cI]at h;obtain⟨ms,h1,rfl⟩:=h;rw[kH h1];rfl
 | .non::_,_,h=>by simp[cI]at h
 | .int _::_,_,h=>by simp[cI]at h
 | .str _::_,_,h=>by simp[cI]at h
 | .tup _::_,_,h=>by simp[cI]at h
 | .lst _::_,_,h=>by simp[cI]at h
 | .dI _::_,_,h=>by simp[cI]at h
end
def d4{K:NF}{H:Hp}{a:Addr}{us:List V}(h:H a=some (.tup us)):SqT K H a us:=SqT.of h
def bp(K:NF)(H:Hp)(O:List Addr)(v:PV)(u:V):Prop:=
 Rep K (aw H O) v u\/(∃xs a us,v=.lst xs/\u=.ref a/\SqL K H a us/\Reps K (aw H O) xs us)\/∃kvs a,v=.dI kvs/\u=.ref a/\RdD H a kvs
section
variable{K:NF}{H H':Hp}{O:List Addr}
theorem bp.of(h:Rep K (aw H O) v u):bp K H O v u:=.inl h
theorem bp.mono(s:aj H H')(h:bp K H O v u):bp K H' O v u:=by
 rcases h with h|⟨xs,a,us,z,J,q,r⟩|⟨kvs,a,z,J,q⟩
 .exact .inl (Rep.mono (ak s) _ h)
 .exact .inr (.inl ⟨xs,a,us,z,J,s.seq q,Reps.mono (ak s) _ r⟩)
 .exact .inr (.inr ⟨kvs,a,z,J,aj.rdD s q⟩)
theorem bp.lst(h:bp K H O (.lst xs) u):∃a us,u=.ref a/\SqL K H a us/\Reps K (aw H O) xs us:=by
 rcases h with h|⟨ys,a,us,z,J,q,r⟩|⟨kvs,a,z,J,q⟩
 .rw[Rep]at h;obtain⟨a,us,e,q,r⟩:=h;exact⟨a,us,e,(bR H O).seq q,r⟩
 .cases z;exact⟨a,us,J,q,r⟩
 .cases z
def bp.tupH(h:bp K H O (.tup xs) u):∃a us,u=.ref a/\H a=some (.tup us)/\Reps K (aw H O) xs us:=by
 rcases h with h|⟨ys,a,us,z,J,q,r⟩|⟨kvs,a,z,J,q⟩
 .rw[Rep]at h;obtain⟨a,us,e,q,r⟩:=h;exact⟨a,us,e,bR H O a _ q,r⟩
 .cases z
 .cases z
theorem bp.tup(h:bp K H O (.tup xs) u):∃a us,u=.ref a/\SqT K H a us/\Reps K (aw H O) xs us:=by
 obtain⟨a,us,e,q,r⟩:=h.tupH;exact⟨a,us,e,SqT.of q,r⟩
def bp.tupR(h:bp K H O (.tup xs) u):Rep K (aw H O) (.tup xs) u:=by
 rcases h with h|⟨ys,a,us,z,J,q,r⟩|⟨kvs,a,z,J,q⟩
 .exact h
 .cases z
 .cases z
theorem bp.dI(h:bp K H O (.dI kvs) u):∃a,u=.ref a/\RdD H a kvs:=by
 rcases h with h|⟨ys,a,us,z,J,q,r⟩|⟨kvs,a,z,J,q⟩
 .rw[Rep]at h;obtain⟨a,e,q⟩:=h;exact⟨a,e,aj.rdD (bR H O) q⟩
 .cases z
 .simp_all
theorem bp.int(h:bp K H O (.int i) u):u=.int i:=by
 rcases h with h|⟨ys,a,us,z,J,q,r⟩|⟨kvs,a,z,J,q⟩
 .rw[Rep]at h;exact h
 .cases z
 .cases z
theorem bp.bl(h:bp K H O (.bl i) u):u=.bl i:=by
 rcases h with h|⟨ys,a,us,z,J,q,r⟩|⟨kvs,a,z,J,q⟩
 .rw[Rep]at h;exact h
 .cases z
 .cases z
theorem bp.str(h:bp K H O (.str i) u):u=.str i:=by
 rcases h with h|⟨ys,a,us,z,J,q,r⟩|⟨kvs,a,z,J,q⟩
 .rw[Rep]at h;exact h
 .cases z
 .cases z
theorem bp.non(h:bp K H O .non u):u=.non:=by
 rcases h with h|⟨ys,a,us,z,J,q,r⟩|⟨kvs,a,z,J,q⟩
 .rw[Rep]at h;exact h
 .cases z
 .cases z
theorem bp.seq(h:bp K H O v u)(e:a7 v=some xs):∃a us,u=.ref a/\(SqL K H a us\/SqT K H a us)/\Reps K (aw H O) xs us:=by
 cases v<;>first|(simp[a7]at e;subst e;obtain⟨a,us,e,q,r⟩:=h.lst;exact⟨a,us,e,.inl q,r⟩)|(simp[a7]at e;subst e;obtain⟨a,us,e,q,r⟩:=h.tup;exact⟨a,us,e,.inr q,r⟩)|simp[a7]at e
def bp.whole(h:bp K H O v u):Rep K H v u:=by
 rcases h with h|⟨xs,a,us,rfl,z,q,r⟩|⟨kvs,a,rfl,z,q⟩
 .exact Rep.mono (bR H O) _ h
 .rw[Rep];exact⟨a,us,z,q,Reps.mono (bR H O) _ r⟩
 .rw[Rep];exact⟨a,z,q⟩
end
abbrev DAt(_:NF)(H:Hp)(_:List Addr)(a:Addr)(d:DD):Prop:=H a=some (ir d)
theorem DAt.here{K:NF}(h:DAt K H O a d):∃o,H a=some o:=⟨_,h⟩
theorem DAt.put1{K:NF}(_:qd d y s=some d')(h:DAt K H O a d):H a=some (ir d):=h
theorem DAt.put2{K:NF}{H:Hp}{O:List Addr}{a:Addr}{d d':DD}{y:PV}{s:Sc}(_:qd d y s=some d')(h:H a=some (ir d')):DAt K H O a d':=h
theorem DAt.np{K:NF}(h:DAt K H O a d)(_:rG d=true):H a=some (ir d):=h
theorem DAt.move{K:NF}{H H':Hp}{O z:List Addr}{a:Addr}{d:DD}(h:DAt K H O a d)(e:∀o,H a=some o->H' a=some o)(_:aj (aw H O) (aw H' z)):DAt K H' z a d:=e _ h
def eU(K:NF)(B:Hp)(O:List Addr)(H:Hp):MV->V->Prop
 | .val v,u=>Rep K (aw H O) v u
 | .own xs,u=>∃a us,u=.ref a/\H a=some (.lst us)/\Reps K (aw H O) xs us/\a∈O/\B a=none
 | .brw xs,u=>∃a us,u=.ref a/\SqL K B a us/\Reps K (aw H O) xs us
 | .ownD kvs,u=>∃a,u=.ref a/\DAt K H O a kvs/\a∈O/\B a=none
 | .mutD kvs,u=>∃a,u=.ref a/\DAt K H O a kvs/\a∈O/\B a=none
 | .brwD kvs,u=>∃a,u=.ref a/\Rd B a (ir kvs)
noncomputable def hZ:MV->Bool
 | .own _=>true
 | .ownD _=>true
 | .mutD _=>true
 | _=>false
structure aE(K:NF)(B:Hp)(E O:List Addr)(H:Hp)(W:Rho)(σ:St):Prop where
 keep:aj B H
 here:∀a∈O,H a≠none
 sub:∀a∈E,a∈O
 old:∀a∈E,B a≠none
 len:W.length=σ.length
 slot:∀(i:Nat) (m:MV),W[i]?=some (some m)->∃u,σ[i]?=some (some u)/\eU K B O H m u
 apart:∀(i j:Nat) (m m':MV) (a:Addr),i≠j->W[i]?=some (some m)->W[j]?=some (some m')->hZ m=true->hZ m'=true->σ[i]?=some (some (.ref a))->σ[j]?≠some (some (.ref a))
section
variable{K:NF}{B H H':Hp}{E O:List Addr}{W:Rho}{σ:St}
theorem eU.mono(s:aj H H')(h:eU K B O H m u):eU K B O H' m u:=by
 cases m with
 |val v=>exact Rep.mono (ak s) _ h
 |own xs=>obtain⟨a,us,e,q,r,h1,h2⟩:=h;exact⟨a,us,e,s _ _ q,Reps.mono (ak s) _ r,h1,h2⟩
 |brw xs=>obtain⟨a,us,e,q,r⟩:=h;exact⟨a,us,e,q,Reps.mono (ak s) _ r⟩
 |brwD kvs=>exact h
 | _=>obtain⟨a,e,q,h1,h2⟩:=h;exact⟨a,e,q.move (s _) (ak s),h1,h2⟩
theorem aE.mono(s:aj H H')(h:aE K B E O H W σ):aE K B E O H' W σ where
 keep:=h.keep.trans s
 here:=λa z e=>h.here a z (s.free e)
 sub:=h.sub
 old:=h.old
 len:=h.len
 slot:=λi m e=>let ⟨u,J,q⟩:=h.slot i m e;⟨u,J,q.mono s⟩
 apart:=h.apart
theorem eU.bor(z:aj B H)(h:eU K B O H m u)(e:bC (some m)=some v):bp K H O v u:=by
 cases m with
 |val w=>simp[bC]at e;subst e;exact .inl h
 |own xs=>simp[bC]at e;subst e;obtain⟨a,us,e,q,r,_⟩:=h;exact .inr (.inl ⟨xs,a,us,rfl,e,SqL.of q,r⟩)
 |brw xs=>simp[bC]at e;subst e;obtain⟨a,us,e,q,r⟩:=h;exact .inr (.inl ⟨xs,a,us,rfl,e,z.seq q,r⟩)
 |ownD kvs|mutD kvs=>simp[bC]at e;obtain⟨np,rfl⟩:=e;obtain⟨a,e,q,_⟩:=h;exact .inr (.inr ⟨kvs,a,rfl,e,.inl (q.np np),np⟩)
 |brwD kvs=>simp[bC]at e;obtain⟨np,rfl⟩:=e;obtain⟨a,e,q⟩:=h;exact .inr (.inr ⟨kvs,a,rfl,e,aj.rd z q,np⟩)
end
def aA{α:Type}{o:Option (Option α)}{x:α}(h:o.join=some x):o=some (some x):=by
 cases o<;>simp_all
def vn(h:bC (some (.ownD d))=some v):v=.dI d:=by simp_all [bC]
def vo(h:bC (some (.brwD d))=some v):v=.dI d:=by simp_all [bC]
def vq(h:bC (some (.mutD d))=some v):v=.dI d:=by simp_all [bC]
structure Tab where
 fs:List Str
 gs:List (Str×PV)
 ds:List (List Sc)
noncomputable def EC(sc:Scope)(x:Str):Bool:=sc.names.lookup x==some .local||sc.names.lookup x==some .cell||sc.names.lookup x==some .free
noncomputable def fh(sc:Scope)(x:Str):Bool:=sc.names.lookup x==some .local||sc.names.lookup x==some .cell
noncomputable def glB(sc:Scope)(x:Str):Bool:=sc.names.lookup x==some .globalImplicit
noncomputable def au (x:Str):Bool:=!(x==("__debug__":Str))&&!(x==("__classdict__":Str))&&!(x==("__name__":Str))
noncomputable def aM(N:List Str)(sc:Scope)(i:Nat)(x:Str):Bool:=N[i]?==some x&&EC sc x&&au x
noncomputable def onQ{α:Type}:Option α->(α->Bool)->Bool
 |some a,f=>f a
 |none,_=>false
def al(h:onQ o f=true):∃a,o=some a/\f a=true:=by
 cases o with
 |none=>cases h
 |some a=>exact⟨a,rfl,h⟩
def bS{α z:Type}{o:Option α}{f:α->Option z}{b:z}(h:o.bind f=some b):∃a,o=some a/\f a=some b:=gf.mp h
noncomputable def okQ{α:Type}(b:Bool)(x:α):Option α:=if b=true then some x else none
def jk(h:okQ b x=some y):b=true/\x=y:=by
 cases b with
 |false=>cases h
 |true=>cases h;exact⟨rfl,rfl⟩
noncomputable def jl{α:Type}:List α->Option α
 | [x]=>some x
 | _=>none
def cF(h:jl l=some x):l=[x]:=by
 rcases l with _|⟨a,_|⟨b,l⟩⟩<;>cases h
 rfl
noncomputable def zh{α:Type}:List α->Option (α×α)
 | [x,y]=>some (x,y)
 | _=>none
def lT(h:zh l=some q):l=[q.1,q.2]:=by
 rcases l with _|⟨a,_|⟨b,_|⟨c,l⟩⟩⟩<;>cases h
 rfl
noncomputable def nmP:Expr->Option (Str×Pos)
 | .Name x p=>some (x,p)
 | _=>none
def d5(h:nmP e=some q):e=.Name q.1 q.2:=by
 cases e<;>cases h
 rfl
noncomputable def caP:Expr->Option (Expr×List Expr×List Keyword×Pos)
 | .Call f as ks p=>some (f,as,ks,p)
 | _=>none
def zi(h:caP e=some q):e=.Call q.1 q.2.1 q.2.2.1 q.2.2.2:=by
 cases e<;>cases h
 rfl
noncomputable def atP:Expr->Option (Expr×Str×Pos)
 | .Attribute o m p=>some (o,m,p)
 | _=>none
def ED(h:atP e=some q):e=.Attribute q.1 q.2.1 q.2.2:=by
 cases e<;>cases h
 rfl
noncomputable def biP:Expr->Option (Expr×Operator×Expr×Pos)
 | .BinOp l o r p=>some (l,o,r,p)
 | _=>none
def qf(h:biP e=some q):e=.BinOp q.1 q.2.1 q.2.2.1 q.2.2.2:=by
 cases e<;>cases h
 rfl
noncomputable def suP:Expr->Option (Expr×Expr×Pos)
 | .Subscript v s p=>some (v,s,p)
 | _=>none
def mS(h:suP e=some q):e=.Subscript q.1 q.2.1 q.2.2:=by
 cases e<;>cases h
 rfl
noncomputable def lcP:Expr->Option (Expr×List Comprehension×Scope×Pos)
 | .ListComp e g s p=>some (e,g,s,p)
 | _=>none
def t4(h:lcP e=some q):e=.ListComp q.1 q.2.1 q.2.2.1 q.2.2.2:=by
 cases e<;>cases h
 rfl
noncomputable def coP:Expr->Option (Expr×List CmpOp×List Expr×Pos)
 | .Compare l o r p=>some (l,o,r,p)
 | _=>none
def EE(h:coP e=some q):e=.Compare q.1 q.2.1 q.2.2.1 q.2.2.2:=by
 cases e<;>cases h
 rfl
noncomputable def ctP:Expr->Option (Const×Nat×Pos)
 | .Constant c j p=>some (c,j,p)
 | _=>none
def zj(h:ctP e=some q):e=.Constant q.1 q.2.1 q.2.2:=by
 cases e<;>cases h
 rfl
noncomputable def tuP:Expr->Option (List Expr×Nat×Pos)
 | .Tuple xs j p=>some (xs,j,p)
 | _=>none
def t5(h:tuP e=some q):e=.Tuple q.1 q.2.1 q.2.2:=by
 cases e<;>cases h
 rfl
noncomputable def liP:Expr->Option (List Expr×Pos)
 | .List xs p=>some (xs,p)
 | _=>none
def t6(h:liP e=some q):e=.List q.1 q.2:=by
 cases e<;>cases h
 rfl
noncomputable def unP:Expr->Option (UnaryOp×Expr×Pos)
 | .UnaryOp o e p=>some (o,e,p)
 | _=>none
def EF(h:unP e=some q):e=.UnaryOp q.1 q.2.1 q.2.2:=by
 cases e<;>cases h
 rfl
noncomputable def boP:Expr->Option (BoolOp×List Expr×Pos)
 | .BoolOp o vs p=>some (o,vs,p)
 | _=>none
def zk(h:boP e=some q):e=.BoolOp q.1 q.2.1 q.2.2:=by
 cases e<;>cases h
 rfl
noncomputable def ifP:Expr->Option (Expr×Expr×Expr×Pos)
 | .IfExp t x y p=>some (t,x,y,p)
 | _=>none
def EG(h:ifP e=some q):e=.IfExp q.1 q.2.1 q.2.2.1 q.2.2.2:=by
 cases e<;>cases h
 rfl
noncomputable def slP:Expr->Option (Option Expr×Option Expr×Option Expr×Pos)
 | .Slice l u s p=>some (l,u,s,p)
 | _=>none
def EH(h:slP e=some q):e=.Slice q.1 q.2.1 q.2.2.1 q.2.2.2:=by
 cases e<;>cases h
 rfl
noncomputable def asP:Stmt->Option (List Expr×Expr×Pos)
 | .Assign z v p=>some (z,v,p)
 | _=>none
def zl(h:asP s=some q):s=.Assign q.1 q.2.1 q.2.2:=by
 cases s<;>cases h
 rfl
noncomputable def rK(e:Expr):Option (Str×List Expr):=(caP e).bind λc=>(nmP c.1).bind λx=>okQ c.2.2.1.isEmpty (x.1,c.2.1)
def fu(h:rK e=some q):∃p cp,e=.Call (.Name q.1 p) q.2 [] cp:=by
 obtain⟨c,h1,h⟩:=bS h;obtain⟨x,h2,h⟩:=bS h;obtain⟨z,rfl⟩:=jk h;exact⟨_,_,by rw[zi h1,d5 h2,LB.mp z]⟩
noncomputable def rL(e:Expr):Option (Str×Expr):=(rK e).bind λc=>(jl c.2).bind λa=>some (c.1,a)
def gH(h:rL e=some q):∃p cp,e=.Call (.Name q.1 p) [q.2] [] cp:=by
 obtain⟨c,h1,h⟩:=bS h;obtain⟨a,h2,h⟩:=bS h;cases h;obtain⟨p,cp,rfl⟩:=fu h1;exact⟨p,cp,by rw[cF h2]⟩
noncomputable def maP(e:Expr):Option (Expr×Str×Pos×List Expr×Pos):=(caP e).bind λc=>(atP c.1).bind λa=>okQ c.2.2.1.isEmpty (a.1,a.2.1,a.2.2,c.2.1,c.2.2.2)
def t7(h:maP e=some q):e=.Call (.Attribute q.1 q.2.1 q.2.2.1) q.2.2.2.1 [] q.2.2.2.2:=by
 obtain⟨c,h1,h⟩:=bS h;obtain⟨x,h2,h⟩:=bS h;obtain⟨z,rfl⟩:=jk h;rw[zi h1,ED h2,LB.mp z]
noncomputable def maN(e:Expr):Option (Str×Str×Pos×List Expr×Pos):=(maP e).bind λa=>(nmP a.1).bind λx=>some (x.1,a.2.1,a.2.2.1,a.2.2.2.1,a.2.2.2.2)
def zm(h:maN e=some q):∃p,e=.Call (.Attribute (.Name q.1 p) q.2.1 q.2.2.1) q.2.2.2.1 [] q.2.2.2.2:=by
 obtain⟨c,h1,h⟩:=bS h;obtain⟨x,h2,h⟩:=bS h;cases h;exact⟨x.2,by rw[t7 h1,d5 h2]⟩
noncomputable def EI(e:Expr):Option (Expr×CmpOp×Expr):=(coP e).bind λc=>(jl c.2.1).bind λo=>(jl c.2.2.1).bind λr=>some (c.1,o,r)
def vt(h:EI e=some q):∃pos,e=.Compare q.1 [q.2.1] [q.2.2] pos:=by
 obtain⟨c,h1,h⟩:=bS h;obtain⟨x,h2,h⟩:=bS h;obtain⟨y,z,h⟩:=bS h;cases h;exact⟨c.2.2.2,by rw[EE h1,cF h2,cF z]⟩
noncomputable def Ho(e:Expr):Option (Expr×Option Expr×Option Expr):=(suP e).bind λc=>(slP c.2.1).bind λs=>okQ s.2.2.1.isNone (c.1,s.1,s.2.1)
def B6(h:Ho e=some q):∃p pos,e=.Subscript q.1 (.Slice q.2.1 q.2.2 none p) pos:=by
 obtain⟨c,h1,h⟩:=bS h;obtain⟨x,h2,h⟩:=bS h;obtain⟨z,rfl⟩:=jk h;exact⟨_,_,by rw[mS h1,EH h2,isNone_iff_eq_none.mp z]⟩
noncomputable def lcX(e:Expr):Option (Expr×Scope×(Str×Pos)×Expr×List Expr):=(lcP e).bind λc=>(jl c.2.1).bind λg=>(nmP g.target).bind λx=>okQ (g.is_async==0) (c.1,c.2.2.1,x,g.iter,g.ifs)
def zn(h:lcX e=some q):∃pos,e=.ListComp q.1 [⟨.Name q.2.2.1.1 q.2.2.1.2,q.2.2.2.1,q.2.2.2.2,0⟩] q.2.1 pos:=by
 obtain⟨c,h1,h⟩:=bS h;obtain⟨⟨tg,it,is,as⟩,h2,h⟩:=bS h;obtain⟨x,z,h⟩:=bS h;obtain⟨J,rfl⟩:=jk h;exact⟨c.2.2.2,by rw[t4 h1,cF h2,d5 (e:=tg) z,show as=0 from eq_of_beq J]⟩
noncomputable def diP:Expr->Option (List (Option Expr)×List Expr×Pos)
 | .Dict ks vs p=>some (ks,vs,p)
 | _=>none
def zo(h:diP e=some q):e=.Dict q.1 q.2.1 q.2.2:=by
 cases e<;>cases h
 rfl
noncomputable def exP:Stmt->Option (Expr×Pos)
 | .Expr e p=>some (e,p)
 | _=>none
def EJ(h:exP s=some q):s=.Expr q.1 q.2:=by
 cases s<;>cases h
 rfl
noncomputable def reP:Stmt->Option (Option Expr×Pos)
 | .Return v p=>some (v,p)
 | _=>none
def EK(h:reP s=some q):s=.Return q.1 q.2:=by
 cases s<;>cases h
 rfl
noncomputable def Hq:Const->Option Str
 | .str x=>some x
 | _=>none
def B7(h:Hq c=some x):c=.str x:=by
 cases c<;>cases h
 rfl
noncomputable def EL(e:Expr):Option Str:=(ctP e).bind λc=>Hq c.1
def vv(h:EL e=some x):∃j p,e=.Constant (.str x) j p:=by
 obtain⟨c,h1,h⟩:=bS h;exact⟨c.2.1,c.2.2,by rw[zj h1,B7 h]⟩
noncomputable def hdQ{α:Type}:List α->Option (α×List α)
 |x::l=>some (x,l)
 | _=>none
def EM(h:hdQ l=some q):l=q.1::q.2:=by
 cases l<;>cases h
 rfl
noncomputable def aH:ME->Bool
 | .bor _=>true
 | _=>false
noncomputable def t8:Op2->Operator
 | .add=>.Add|.sub=>.Sub|.mul=>.Mult|.fdiv=>.FloorDiv|.mod=>.Mod|.pow=>.Pow|.shr=>.RShift
noncomputable def zp:Cp->CmpOp
 | .eq=>.Eq|.ne=>.NotEq|.lt=>.Lt|.le=>.LtE|.gt=>.Gt|.ge=>.GtE|.isN=>.Is|.notN=>.IsNot|.isIn=>.In|.notIn=>.NotIn
noncomputable def t9:PV->Const->Bool
 | .non,.none=>true
 | .bl a,.bool b=>a==b
 | .int a,.int b=>a==b
 | .str a,.str b=>a==b
 | _,_=>false
noncomputable def Dk:PV->PV->Bool
 | .non,.non=>true
 | .bl a,.bl b=>a==b
 | .int a,.int b=>a==b
 | .str a,.str b=>a==b
 | _,_=>false
noncomputable def Dl(gs:List (Str×PV))(x:Str)(v:PV):Bool:=gs.any λp=>p.1==x&&Dk p.2 v
noncomputable def ag:Expr->Bool
 | .Starred ..=>false
 | _=>true
noncomputable def eV:Expr->Bool
 | .Set ..=>false
 | _=>true
noncomputable def bq:Expr->Bool
 | .Slice ..=>false
 | _=>true
noncomputable def bm:Expr->Bool
 | .ListComp ..=>false
 | .SetComp ..=>false
 | .DictComp ..=>false
 | _=>true
noncomputable def kI:Expr->Bool
 | .UnaryOp .Not _ _=>false
 | .BoolOp ..=>false
 | .IfExp ..=>false
 | .Compare ..=>false
 | _=>true
noncomputable def rM:Blt->String
 | .len=>"len" | .tupleOf=>"tuple" | .listOf=>"list" | .sorted=>"sorted" | .any=>"any" | .all=>"all" | .sum=>"sum" | .max1=>"max" | .min1=>"min" | .max2=>"max" | .min2=>"min"
 | .intOf=>"int" | .boolOf=>"bool" | .isInt=>"isinstance" | .isBool=>"isinstance" | .isStr=>"isinstance" | .isList=>"isinstance" | .isTuple=>"isinstance" | .sortedKeys=>"sorted" | .valuesOf=>"list" | .sortedSet=>"sorted" | .lenSet=>"len" | .lenSetSub=>"len" | .tupleRev=>"tuple"
noncomputable def dq:Blt->Option String
 | .isInt=>some "int" | .isBool=>some "bool" | .isStr=>some "str" | .isList=>some "list" | .isTuple=>some "tuple"
 | _=>none
noncomputable def kJ:Blt->Option Nat
 | .len|.tupleOf|.listOf|.sorted|.any|.all|.sum|.intOf|.boolOf|.max1|.sortedKeys=>some 1
 | .max2|.min2=>some 2
 | _=>none
noncomputable def fw(osc:Scope)(N:List Str)(scope:Scope)(x:Str)(fvs:List Str)(js:List Nat):Bool:=
 decide (∀y∈scope.names,y.2=.cell->y.1=x)&&decide (scope.names.lookup x=some .local/\(scope.names.filter λy=>y.2==.cell)=[]\/scope.names.lookup x=some .cell/\(scope.names.filter λy=>y.2==.cell)=[(x,.cell)])
 &&decide (∀y∈scope.names,y.2=.free->y.1≠x)&&scope.kind==.function&&decide (∀y∈scope.names,y.2=.local->scope.names.lookup y.1=some .local)
 &&decide ((x::fvs).Nodup)&&decide (∀y∈scope.names,y.2=.free->osc.names.lookup y.1=some .cell\/osc.names.lookup y.1=some .free)&&decide ((js.map λj=>N[j]?)=fvs.map some)
 &&decide (∀y∈fvs,scope.names.lookup y=some .free)
noncomputable def dB(N:List Str)(js:List Nat):List Str:=js.map λj=>(N[j]?).getD Str.empty
noncomputable def mT(sc:Scope)(tup:Bool)(f:List Expr->Bool):Sk->Expr->Bool
 | .seq,it=>eV it&&f [it]
 | .rng,it=>onQ (rK it) λc=>c.1==("range":Str)&&glB sc c.1&&f c.2&&(c.2.length==1||c.2.length==2||c.2.length==3)
 | .rev,_=>false
 | .enm,it=>onQ (rL it) λc=>tup&&c.1==("enumerate":Str)&&glB sc c.1&&f [c.2]&&ag c.2
noncomputable def rN(sc:Scope)(f:List Expr->Bool)(n:Nat)(c:String)(args:List Expr):Bool:=onQ (zh args) λa=>onQ (nmP a.2) λt=>t.1==(c:Str)&&glB sc t.1&&f [a.1]&&n==1
noncomputable def t_(sc:Scope)(f:List Expr->Bool)(n:Nat)(g:Str)(args:List Expr):Bool:=onQ (jl args) λa=>onQ (rL a) λc=>c.1==g&&glB sc c.1&&f [c.2]&&n==1
noncomputable def o7:Expr->Bool
 | .Name _ _=>true
 | .Call _ (_::_) _ _=>true
 | _=>false
noncomputable def lU(sc:Scope)(f:List Expr->Bool)(n:Nat)(b:Blt)(args:List Expr):Bool:=match b with
 | .sortedSet=>t_ sc f n "set" args
 | .lenSet=>t_ sc f n "set" args
 | .lenSetSub=>onQ (jl args) λa=>onQ (biP a) λb=>onQ (rL b.1) λc=>onQ (rL b.2.2.1) λd=>b.2.1==.Sub&&c.1==("set":Str)&&glB sc c.1&&d.1==("set":Str)&&glB sc d.1&&f [c.2,d.2]&&n==2
 | .tupleRev=>false
 | .valuesOf=>onQ (jl args) λa=>onQ (maP a) λc=>c.2.2.2.1.isEmpty&&c.2.1==("values":Str)&&o7 c.1&&c.2.2.1.endLine==c.2.2.2.2.line&&f [c.1]&&n==1
 | .sortedKeys=>false
 | .max2=>false
 | .min2=>false
 | .boolOf=>false
 | .isStr=>false
 | .isList=>false
 |b=>match dq b with
  |some c=>rN sc f n c args
  |none=>kJ b==some n&&f args
noncomputable def jm:ME->Bool
 | .cst .non=>true
 | _=>false
noncomputable def qg(f:Expr->Bool)(non:Bool):Option Expr->Bool
 |none=>non
 |some l=>f l&&!non
noncomputable def rO(f:Expr->Bool)(m:ME):List Expr->Bool
 | []=>(match m with|.cst (.bl true)=>true|_=>false)
 | [c]=>f c
 | _=>false
noncomputable def Hr(f:Expr->Bool)(op:BoolOp)(pos:Pos)(y:Expr):List Expr->Bool
 | []=>f y
 |z::r=>f (.BoolOp op (y::z::r) pos)
noncomputable def EN(g f:Expr->Bool)(op:BoolOp)(pos:Pos):List Expr->Bool
 |x::y::r=>g x&&Hr f op pos y r
 | _=>false
def vz(h:EN g f op pos vs=true):(∃x y,vs=[x,y]/\g x=true/\f y=true)\/∃x y z r,vs=x::y::z::r/\g x=true/\f (.BoolOp op (y::z::r) pos)=true:=by
 rcases vs with _|⟨x,_|⟨y,_|⟨z,r⟩⟩⟩
 .cases h
 .cases h
 .exact .inl ⟨x,y,rfl,oe.mp h⟩
 .exact .inr ⟨x,y,z,r,rfl,oe.mp h⟩
noncomputable def zq(e:Expr):Option (List (Option Expr)×List Expr×Expr):=(suP e).bind λc=>(diP c.1).bind λd=>some (d.1,d.2.1,c.2.1)
def zr(h:zq e=some q):∃p pos,e=.Subscript (.Dict q.1 q.2.1 p) q.2.2 pos:=by
 obtain⟨c,h1,h⟩:=bS h;obtain⟨d,h2,h⟩:=bS h;cases h;exact⟨d.2.2,c.2.2,by rw[mS h1,zo h2]⟩
noncomputable def rP:List (Str×Str)->List (Option Expr)->List Expr->Bool
 | [],[],[]=>true
 |p::r,k::ks,v::vs=>k.bind EL==some p.1&&EL v==some p.2&&rP r ks vs
 | _,_,_=>false
noncomputable def Dm(e:Expr):Option (Str×Str):=(rL e).bind λc=>(nmP c.2).bind λy=>some (c.1,y.1)
def B8(h:Dm e=some q):∃p p2 pos,e=.Call (.Name q.1 p) [.Name q.2 p2] [] pos:=by
 obtain⟨c,h1,h⟩:=bS h;obtain⟨y,h2,h⟩:=bS h;cases h;obtain⟨p,pos,rfl⟩:=gH h1;exact⟨p,y.2,pos,by rw[d5 h2]⟩
mutual
noncomputable def chk(T:Tab):ME->List Str->Scope->Expr->Bool
 | .var i,N,sc,J=>onQ (nmP J) λx=>aM N sc i x.1
 | .bor i,N,sc,J=>onQ (nmP J) λx=>aM N sc i x.1
 | .cst v,_,_,J=>onQ (ctP J) λc=>t9 v c.1
 | .glob x v,_,sc,J=>onQ (nmP J) λy=>x==y.1&&glB sc x&&Dl T.gs x v&&au x
 | .bin op a b,N,sc,J=>onQ (biP J) λq=>q.2.1==t8 op&&chk T a N sc q.1&&chk T b N sc q.2.2.1
 | .neg _,_,_,_=>false
 | .not a,N,sc,J=>onQ (unP J) λq=>q.1==.Not&&chk T a N sc q.2.1
 | .and a b,N,sc,J=>onQ (boP J) λq=>q.1==.And&&EN (λe=>chk T a N sc e) (λe=>chk T b N sc e) .And q.2.2 q.2.1
 | .or a b,N,sc,J=>onQ (boP J) λq=>q.1==.Or&&EN (λe=>chk T a N sc e) (λe=>chk T b N sc e) .Or q.2.2 q.2.1
 | .ite c a b,N,sc,J=>onQ (ifP J) λq=>chk T c N sc q.1&&chk T a N sc q.2.1&&chk T b N sc q.2.2.1&&!aH a&&!aH b
 | .cmp op a b,N,sc,J=>onQ (EI J) λq=>q.2.1==zp op&&chk T a N sc q.1&&chk T b N sc q.2.2&&!behindInMarks q.2.1 q.2.2
 | .chain _ _ _ _ _,_,_,_=>false
 | .tup es,N,sc,J=>onQ (tuP J) λq=>chks T es N sc q.1&&es.all (λe=>!aH e)
 | .lst es,N,sc,J=>onQ (liP J) λq=>chks T es N sc q.1&&es.all (λe=>!aH e)
 | .idx a i,N,sc,J=>onQ (suP J) λq=>chk T a N sc q.1&&chk T i N sc q.2.1&&bq q.2.1
 | .slice a lo hi,N,sc,J=>onQ (Ho J) λq=>chk T a N sc q.1&&qg (λe=>chk T lo N sc e) (jm lo) q.2.1&&qg (λe=>chk T hi N sc e) (jm hi) q.2.2
 | .blt b es,N,sc,J=>onQ (rK J) λq=>q.1==(rM b:Str)&&glB sc q.1&&lU sc (λxs=>chks T es N sc xs) es.length b q.2
 | .call f es,N,sc,J=>onQ (rK J) λq=>T.fs[f]?==some q.1&&glB sc q.1&&au q.1&&chks T es N sc q.2
 | .callD _ _ _,_,_,_=>false
 | .comp k src js cond elt,N,sc,J=>onQ (lcX J) λq=>fw sc N q.2.1 q.2.2.1.1 (dB N js) js&&mT sc false (λxs=>chks T src N sc xs) k q.2.2.2.1&&rO (λc=>chk T cond (q.2.2.1.1::dB N js) (lG q.2.1 sc) c) cond q.2.2.2.2&&chk T elt (q.2.2.1.1::dB N js) (lG q.2.1 sc) q.1&&!aH elt
 | .dget a k d,N,sc,J=>onQ (maP J) λc=>onQ (zh c.2.2.2.1) λz=>c.2.1==("get":Str)&&o7 c.1&&c.2.2.1.endLine==c.2.2.2.2.line&&chk T a N sc c.1&&chk T k N sc z.1&&chk T d N sc z.2&&ag z.1&&ag z.2
 | .dat a k,N,sc,J=>onQ (suP J) λq=>chk T a N sc q.1&&chk T k N sc q.2.1&&bq q.2.1
 | .dIn neg k a,N,sc,J=>onQ (EI J) λq=>q.2.1==(if neg=true then CmpOp.NotIn else CmpOp.In)&&chk T k N sc q.1&&chk T a N sc q.2.2&&!behindInMarks q.2.1 q.2.2
 | .disp kvs e,N,sc,J=>onQ (zq J) λq=>rP kvs q.1 q.2.1&&chk T e N sc q.2.2&&bq q.2.2&&decide (kvs.length<=15)&&!kvs.isEmpty
 | .lenP i,N,sc,J=>onQ (Dm J) λq=>q.1==("len":Str)&&glB sc q.1&&aM N sc i q.2
noncomputable def chks(T:Tab):List ME->List Str->Scope->List Expr->Bool
 | [],_,_,[]=>true
 |m::ms,N,sc,e::es=>chk T m N sc e&&ag e&&chks T ms N sc es
 | _,_,_,_=>false
end
def jO(h:chk T (.bor i) N sc e=true):∃x p,e=.Name x p/\aM N sc i x=true:=by
 replace h:=al h
 obtain⟨x,h1,h⟩:=h;exact⟨x.1,x.2,d5 h1,h⟩
def b7(h:chks T (m::ms) N sc (e::es)=true):(chk T m N sc e=true/\ag e=true)/\chks T ms N sc es=true:=by
 obtain⟨a,b⟩:=oe.mp h;exact⟨oe.mp a,b⟩
def kK{cond elt:ME}(h:chk T (.comp z src js cond elt) N sc J=true):∃e x px it ifs scope pos,J=.ListComp e [⟨.Name x px,it,ifs,0⟩] scope pos /\
  (fw sc N scope x (dB N js) js&&mT sc false (λxs=>chks T src N sc xs) z it&&rO (λc=>chk T cond (x::dB N js) (lG scope sc) c) cond ifs&&chk T elt (x::dB N js) (lG scope sc) e&&!aH elt)=true:=by
 replace h:=al h
 obtain⟨q,w,h⟩:=h;obtain⟨pos,rfl⟩:=zn w;exact⟨_,_,_,_,_,_,_,rfl,h⟩
def mU(h:aH m=true):∃i,m=.bor i:=by
 cases m<;>first|(cases h;done)|exact⟨_,rfl⟩
noncomputable def iu:ME->Bool
 | .lst _=>true
 | .comp ..=>true
 | .blt .listOf _=>true
 | .blt .sorted _=>true
 | .blt .sortedSet _=>true
 | .blt .sortedKeys _=>true
 | .blt .valuesOf _=>true
 | _=>false
noncomputable def Dn(sc:Scope)(t:Str)(tpos:Pos)(e:Expr):Bool:=onQ (lcP e) λq=>sc.names.lookup t==some .local&&tpos.line==q.2.2.2.line&&!(q.2.2.1.names.any λ(n,k)=>n==t&&(k==.local||k==.cell))
noncomputable def lf(sc:Scope)(t:Str)(tpos:Pos)(v:Expr)(e:ME):Bool:=Dn sc t tpos v
noncomputable def dM(N:List Str)(sc:Scope):List Nat->List Expr->Bool
 | [],[]=>true
 |i::is,.Name x _::es=>N[i]?==some x&&fh sc x&&au x&&dM N sc is es
 | _,_=>false
def qh(N)(sc)(i)(is)(x)(p)(es):dM N sc (i::is) (.Name x p::es)=(N[i]?==some x&&fh sc x&&au x&&dM N sc is es):=rfl
noncomputable def jn:List Bool->List ME->Bool
 | [],[]=>true
 |true::bs,e::es=>aH e&&jn bs es
 |false::bs,_::es=>jn bs es
 | _,_=>false
noncomputable def eW:List Bool->List ME->List Nat
 |true::bs,.bor i::es=>i::eW bs es
 | _::bs,_::es=>eW bs es
 | _,_=>[]
noncomputable def fz(T:Tab)(f:Nat)(mask:List Bool)(es:List ME)(N:List Str)(sc:Scope)(x:Expr):Bool:=onQ (rK x) λc=>T.fs[f]?==some c.1&&glB sc c.1&&au c.1&&chks T es N sc c.2&&jn mask es&&decide (eW mask es).Nodup&&!c.2.isEmpty
def mV(h:fz T f mask es N sc e=true):∃g p args cp,e=.Call (.Name g p) args [] cp/\(T.fs[f]?==some g&&glB sc g&&au g&&chks T es N sc args&&jn mask es&&decide (eW mask es).Nodup&&!args.isEmpty)=true:=by
 replace h:=al h
 obtain⟨c,w,h⟩:=h;obtain⟨p,cp,rfl⟩:=fu w;exact⟨c.1,p,c.2,cp,rfl,h⟩
noncomputable def Hs(e:Expr):Option (Expr×Expr):=(biP e).bind λc=>okQ (c.2.1==.Add) (c.1,c.2.2.1)
def B9(h:Hs e=some q):∃pos,e=.BinOp q.1 .Add q.2 pos:=by
 obtain⟨c,h1,h⟩:=bS h;obtain⟨h2,rfl⟩:=jk h;exact⟨c.2.2.2,by rw[qf h1,eq_of_beq h2]⟩
noncomputable def Ht(e:Expr):Option (Expr×Expr):=(tuP e).bind λc=>zh c.1
def B_(h:Ht e=some q):∃j pos,e=.Tuple [q.1,q.2] j pos:=by
 obtain⟨c,h1,h⟩:=bS h;exact⟨c.2.1,c.2.2,by rw[t5 h1,lT h]⟩
noncomputable def ua:ME->Bool
 | .cst .non=>true
 | _=>false
noncomputable def zt(T:Tab)(k:SK)(e:ME)(f:Nat)(mask:List Bool)(es:List ME)(N:List Str)(sc:Scope)(x:Expr):Bool:=match k with
 | .one=>ua e&&fz T f mask es N sc x
 | .cat=>match Hs x with|some q=>chk T e N sc q.1&&!aH e&&fz T f mask es N sc q.2|none=>false
 | .pair=>match Ht x with|some q=>chk T e N sc q.1&&!aH e&&ag q.1&&fz T f mask es N sc q.2|none=>false
noncomputable def zu(e:Expr):Option (Expr×Scope×Str×Expr):=(lcX e).bind λc=>okQ c.2.2.2.2.isEmpty (c.1,c.2.1,c.2.2.1.1,c.2.2.2.1)
def zv(h:zu e=some q):∃z pos,e=.ListComp q.1 [⟨.Name q.2.2.1 z,q.2.2.2,[],0⟩] q.2.1 pos:=by
 obtain⟨c,h1,h⟩:=bS h;obtain⟨h2,rfl⟩:=jk h;obtain⟨pos,rfl⟩:=zn h1;exact⟨_,pos,by rw[LB.mp h2]⟩
noncomputable def EO(e:Expr):Option (Str×Str×Expr):=(rL e).bind λc=>(rL c.2).bind λd=>some (c.1,d.1,d.2)
def Ca(h:EO e=some q):∃p p2 pos2 pos,e=.Call (.Name q.1 p) [.Call (.Name q.2.1 p2) [q.2.2] [] pos2] [] pos:=by
 obtain⟨c,h1,h⟩:=bS h;obtain⟨d,h2,h⟩:=bS h;cases h;obtain⟨p,pos,rfl⟩:=gH h1;obtain⟨p2,pos2,e⟩:=gH h2;exact⟨p,p2,pos2,pos,by rw[e]⟩
noncomputable def EQ(e:Expr):Option (Str×Str×Pos×Pos):=(maN e).bind λa=>okQ a.2.2.2.1.isEmpty (a.1,a.2.1,a.2.2.1,a.2.2.2.2)
def Cb(h:EQ e=some q):∃p,e=.Call (.Attribute (.Name q.1 p) q.2.1 q.2.2.1) [] [] q.2.2.2:=by
 obtain⟨x,h1,h⟩:=bS h;obtain⟨h2,rfl⟩:=jk h;obtain⟨p,rfl⟩:=zm h1;exact⟨p,by rw[LB.mp h2]⟩
noncomputable def ER(e:Expr):Option (Expr×Operator×Expr):=(biP e).bind λc=>some (c.1,c.2.1,c.2.2.1)
def Cc(h:ER e=some q):∃pos,e=.BinOp q.1 q.2.1 q.2.2 pos:=by
 obtain⟨c,h1,h⟩:=bS h;cases h;exact⟨c.2.2.2,qf h1⟩
noncomputable def fnQ(e:Expr):Option (Str×Expr×List Expr):=(rK e).bind λc=>(hdQ c.2).bind λa=>some (c.1,a.1,a.2)
def ub(h:fnQ e=some q):∃p pos,e=.Call (.Name q.1 p) (q.2.1::q.2.2) [] pos:=by
 obtain⟨c,h1,h⟩:=bS h;obtain⟨a,h2,h⟩:=bS h;cases h;obtain⟨p,pos,rfl⟩:=fu h1;exact⟨p,pos,by rw[EM h2]⟩
noncomputable def ES(e:Expr):Option (List Expr):=(tuP e).bind λc=>some c.1
def Cd(h:ES e=some q):∃j pos,e=.Tuple q j pos:=by
 obtain⟨c,h1,h⟩:=bS h;cases h;exact⟨c.2.1,c.2.2,t5 h1⟩
noncomputable def ET(e:Expr):Option (List Expr):=(liP e).bind λc=>some c.1
def Ce(h:ET e=some q):∃pos,e=.List q pos:=by
 obtain⟨c,h1,h⟩:=bS h;cases h;exact⟨c.2,t6 h1⟩
noncomputable def EU(e:Expr):Option (Str×Expr×Expr):=(rK e).bind λc=>(zh c.2).bind λa=>some (c.1,a.1,a.2)
def Cf(h:EU e=some q):∃p pos,e=.Call (.Name q.1 p) [q.2.1,q.2.2] [] pos:=by
 obtain⟨c,h1,h⟩:=bS h;obtain⟨a,h2,h⟩:=bS h;cases h;obtain⟨p,pos,rfl⟩:=fu h1;exact⟨p,pos,by rw[lT h2]⟩
mutual
noncomputable def da(T:Tab):XE->List Str->Scope->Expr->Bool
 | .pure e,N,sc,x=>chk T e N sc x&&!aH e&&bm x
 | .call f mask es,N,sc,x=>fz T f mask es N sc x
 | .pop i,N,sc,x=>onQ (EQ x) λq=>aM N sc i q.1&&q.2.1==("pop":Str)&&q.2.2.1.endLine==q.2.2.2.line
 | .bin op a b,N,sc,x=>onQ (ER x) λq=>q.2.1==t8 op&&da T a N sc q.1&&chk T b N sc q.2.2
 | .fn g a es,N,sc,x=>onQ (fnQ x) λq=>T.fs[g]?==some q.1&&glB sc q.1&&au q.1&&da T a N sc q.2.1&&ag q.2.1&&chks T es N sc q.2.2
 | .tup xs,N,sc,x=>onQ (ES x) λq=>chkXEs T xs N sc q
 | .lst xs,N,sc,x=>onQ (ET x) λq=>chkXEs T xs N sc q
 | .fn2 g e a,N,sc,x=>onQ (EU x) λq=>T.fs[g]?==some q.1&&glB sc q.1&&au q.1&&chk T e N sc q.2.1&&!aH e&&ag q.2.1&&da T a N sc q.2.2&&ag q.2.2
 | .tupOf a,N,sc,x=>onQ (fnQ x) λq=>q.1==("tuple":Str)&&glB sc q.1&&q.2.2.isEmpty&&da T a N sc q.2.1&&ag q.2.1
 | .compS src js k e f mask es,N,sc,x=>onQ (zu x) λc=>fw sc N c.2.1 c.2.2.1 (dB N js) js&&mT sc false (λxs=>chks T [src] N sc xs) .seq c.2.2.2&&!aH src&&zt T k e f mask es (c.2.2.1::dB N js) (lG c.2.1 sc) c.1&&decide js.Nodup
noncomputable def chkXEs(T:Tab):List XE->List Str->Scope->List Expr->Bool
 | [],_,_,[]=>true
 |x::xs,N,sc,e::es=>da T x N sc e&&ag e&&chkXEs T xs N sc es
 | _,_,_,_=>false
end
noncomputable def oF(s:Stmt):Option (Str×Pos×Expr):=(asP s).bind λc=>(jl c.1).bind λu=>(nmP u).bind λx=>some (x.1,x.2,c.2.1)
def iR(h:oF s=some q):∃pos,s=.Assign [.Name q.1 q.2.1] q.2.2 pos:=by
 obtain⟨c,h1,h⟩:=bS h;obtain⟨u,h2,h⟩:=bS h;obtain⟨x,z,h⟩:=bS h;cases h;exact⟨c.2.2,by rw[zl h1,cF h2,d5 z]⟩
noncomputable def xc(s:Stmt):Option (Str×Str×Pos×List Expr×Pos):=(exP s).bind λa=>maN a.1
def lV(h:xc s=some q):∃p pos,s=.Expr (.Call (.Attribute (.Name q.1 p) q.2.1 q.2.2.1) q.2.2.2.1 [] q.2.2.2.2) pos:=by
 obtain⟨x,h1,h⟩:=bS h;obtain⟨p,e⟩:=zm h;exact⟨p,x.2,by rw[EJ h1,e]⟩
noncomputable def EV(s:Stmt):Option (Str×Expr×Expr):=(asP s).bind λc=>(jl c.1).bind λu=>(suP u).bind λw=>(nmP w.1).bind λx=>some (x.1,w.2.1,c.2.1)
def vA(h:EV s=some q):∃p sp pos,s=.Assign [.Subscript (.Name q.1 p) q.2.1 sp] q.2.2 pos:=by
 refine ax λY z=>?_
 obtain⟨c,h1,h⟩:=bS h;obtain⟨u,h2,h⟩:=bS h;obtain⟨w,J,h⟩:=bS h;obtain⟨x,U,h⟩:=bS h;cases h;refine z ?_;exact⟨x.2,w.2.2,c.2.2,by rw[zl h1,cF h2,mS J,d5 U]⟩
noncomputable def xg(s:Stmt):Option (Expr):=(reP s).bind λc=>c.1
def lW(h:xg s=some v):∃pos,s=.Return (some v) pos:=by
 obtain⟨c,h1,h⟩:=bS h;exact⟨c.2,by rw[EK h1,h]⟩
noncomputable def Do(e:Expr):Option (Str):=(nmP e).bind λx=>some x.1
def zw(h:Do e=some x):∃p,e=.Name x p:=by
 obtain⟨x,h1,h⟩:=bS h;cases h;exact⟨x.2,d5 h1⟩
noncomputable def Dp(e:Expr):Bool:=onQ (diP e) λd=>d.1.isEmpty&&d.2.1.isEmpty
def zx(h:Dp e=true):∃p,e=.Dict [] [] p:=by
 replace h:=al h
 obtain⟨d,h1,h⟩:=h;obtain⟨h2,z⟩:=oe.mp h;exact⟨d.2.2,by rw[zo h1,LB.mp h2,LB.mp z]⟩
mutual
noncomputable def fj(T:Tab)(N:List Str)(sc:Scope):MS->Stmt->Bool
 | .set i e,s0=>onQ (oF s0) λq=>N[i]?==some q.1&&fh sc q.1&&au q.1&&chk T e N sc q.2.2&&!aH e&&(bm q.2.2||lf sc q.1 q.2.1 q.2.2 e)
 | .setOwn i e,s0=>onQ (oF s0) λq=>N[i]?==some q.1&&fh sc q.1&&au q.1&&chk T e N sc q.2.2&&iu e&&(bm q.2.2||lf sc q.1 q.2.1 q.2.2 e)
 | .append i e,s0=>onQ (xc s0) λq=>onQ (jl q.2.2.2.1) λv=>aM N sc i q.1&&q.2.1==("append":Str)&&chk T e N sc v&&!aH e&&ag v&&q.2.2.1.endLine==q.2.2.2.2.line
 | .extend i e,s0=>onQ (xc s0) λq=>onQ (jl q.2.2.2.1) λv=>aM N sc i q.1&&q.2.1==("extend":Str)&&chk T e N sc v&&ag v&&q.2.2.1.endLine==q.2.2.2.2.line
 | .setIdx i k e,s0=>onQ (EV s0) λq=>aM N sc i q.1&&chk T k N sc q.2.1&&bq q.2.1&&chk T e N sc q.2.2&&!aH e&&bm q.2.2
 | .unpack _ _,_=>false
 | .ite c a b,s0=>(match s0 with|.If t x y _=>chk T c N sc t&&chkSs T N sc a x&&chkSs T N sc b y|_=>false)
 | .for1 i k src body,s0=>(match s0 with|.For (.Name x _) it b [] _=>N[i]?==some x&&fh sc x&&au x&&mT sc false (λxs=>chks T src N sc xs) k it&&chkSs T N sc body b|_=>false)
 | .forT is k src body,s0=>(match s0 with|.For (.Tuple z _ _) it b [] _=>dM N sc is z&&mT sc true (λxs=>chks T src N sc xs) k it&&chkSs T N sc body b|_=>false)
 | .ret e,s0=>onQ (xg s0) λv=>chk T e N sc v&&!aH e
 | .popAt i k,s0=>onQ (xc s0) λq=>onQ (jl q.2.2.2.1) λv=>aM N sc i q.1&&q.2.1==("pop":Str)&&chk T k N sc v&&ag v&&q.2.2.1.endLine==q.2.2.2.2.line
 | .retOwn i,s0=>onQ (xg s0) λv=>onQ (Do v) λx=>aM N sc i x
 | .retM e,s0=>onQ (xg s0) λv=>chk T e N sc v&&!aH e
 | .setP i e,s0=>onQ (oF s0) λq=>N[i]?==some q.1&&fh sc q.1&&au q.1&&onQ (EO q.2.2) λr=>r.1==("list":Str)&&r.2.1==("reversed":Str)&&glB sc r.1&&glB sc r.2.1&&chk T e N sc r.2.2&&ag r.2.2
 | .setQ i e,s0=>onQ (oF s0) λq=>N[i]?==some q.1&&fh sc q.1&&au q.1&&chk T e N sc q.2.2&&lf sc q.1 q.2.1 q.2.2 e
 | .setX i x,s0=>onQ (oF s0) λq=>N[i]?==some q.1&&fh sc q.1&&au q.1&&da T x N sc q.2.2&&bm q.2.2
 | .appX i x,s0=>onQ (xc s0) λq=>onQ (jl q.2.2.2.1) λv=>aM N sc i q.1&&q.2.1==("append":Str)&&da T x N sc v&&ag v&&q.2.2.1.endLine==q.2.2.2.2.line
 | .retXE x,s0=>onQ (xg s0) λv=>da T x N sc v
 | .forX i x body,s0=>(match s0 with|.For (.Name y _) it b [] _=>N[i]?==some y&&fh sc y&&au y&&onQ (fnQ it) (λq=>q.1==("range":Str)&&glB sc q.1&&q.2.2.isEmpty&&da T x N sc q.2.1&&ag q.2.1)&&chkSs T N sc body b|_=>false)
 | .never,_=>true
 | .newD _ i,s0=>onQ (oF s0) λq=>Dp q.2.2&&(N[i]?==some q.1&&fh sc q.1&&au q.1)
 | .dput i k e,s0=>onQ (EV s0) λq=>aM N sc i q.1&&chk T k N sc q.2.1&&bq q.2.1&&chk T e N sc q.2.2&&!aH e&&bm q.2.2
 | _,_=>false
noncomputable def chkSs(T:Tab)(N:List Str)(sc:Scope):List MS->List Stmt->Bool
 | [],[]=>true
 | .freeze _::_,_=>false
 |m::ms,s::ss=>fj T N sc m s&&chkSs T N sc ms ss
 | _,_=>false
end
def Cg (T) (N) (sc) (i) (x) (body) (s0):fj T N sc (.forX i x body) s0=(match s0 with|.For (.Name y _) it b [] _=>N[i]?==some y&&fh sc y&&au y&&onQ (fnQ it) (λq=>q.1==("range":Str)&&glB sc q.1&&q.2.2.isEmpty&&da T x N sc q.2.1&&ag q.2.1)&&chkSs T N sc body b|_=>false):=rfl
def Ch(T)(N)(sc)(i)(k)(src)(body)(s0):fj T N sc (.for1 i k src body) s0=(match s0 with|.For (.Name x _) it b [] _=>N[i]?==some x&&fh sc x&&au x&&mT sc false (λxs=>chks T src N sc xs) k it&&chkSs T N sc body b|_=>false):=rfl
def Ci(T)(N)(sc)(is)(k)(src)(body)(s0):fj T N sc (.forT is k src body) s0=(match s0 with|.For (.Tuple z _ _) it b [] _=>dM N sc is z&&mT sc true (λxs=>chks T src N sc xs) k it&&chkSs T N sc body b|_=>false):=rfl
theorem mW(z:∀x b,f x x=some b->b=true):∀xs {b},eqL f xs xs=some b->b=true
 | [],b,h=>by simp[eqL]at h;exact h
 |x::xs,b,h=>by
  simp only[eqL,gf,pe]at h;obtain⟨p,h1,q,h2,rfl⟩:=h;rw[z x p h1,mW z xs h2];rfl
theorem jP:∀(n:Nat) (x:PV) {b:Bool},eqF n x x=some b->b=true
 |n,.non,b,h=>by cases n<;>cases h<;>rfl
 |n,.bl x,b,h=>by cases n<;>cases h<;>exact LC x
 |n,.int x,b,h=>by cases n<;>cases h<;>exact LC x
 |n,.str x,b,h=>by cases n<;>cases h<;>exact LC x
 |0,.tup _,b,h=>by cases h
 |0,.lst _,b,h=>by cases h
 |n+1,.tup xs,b,h=>mW (λx b=>jP n x) xs h
 |n+1,.lst xs,b,h=>mW (λx b=>jP n x) xs ((if_pos rfl).symm.trans h)
 |n,.dI _,b,h=>by cases n<;>cases h
def fM{n:Nat}{x y:PV}{b:Bool}(h:eqF n x y=some b):isD x=false/\isD y=false:=by
 cases x<;>cases y<;>first|exact⟨rfl,rfl⟩|(cases n<;>cases h)
noncomputable def EW:PV->Bool
 | .tup _=>true
 | .lst _=>true
 | _=>false
def fC{n:Nat}{x y:PV}{b:Bool}(h:eqF n x y=some b)(e:EW x=!EW y):b=false:=by
 cases x<;>cases y<;>first|(cases e;done)|(cases n<;>cases h<;>rfl)
theorem jQ :∀xs ys {b},eqL f xs ys=some b ->
  (∀(j:Nat) x y,xs[j]?=some x->ys[j]?=some y->∃c,f x y=some c) /\
   b=((range (min xs.length ys.length)).all (λj=>(f (xs.getD j .non) (ys.getD j .non)).getD false)&&xs.length==ys.length)
 | [],[],b,h=>by simp[eqL]at h;subst h;simp
 | [],y::ys,b,h=>by simp[eqL]at h;subst h;simp
 |x::xs,[],b,h=>by simp[eqL]at h;subst h;simp
 |x::xs,y::ys,b,h=>by
  simp only[eqL,gf,pe]at h;obtain⟨p,h1,q,h2,rfl⟩:=h;obtain⟨z,J⟩:=jQ xs ys h2;refine⟨λj Z y' U Y=>?_,?_⟩
  .cases j with
   |zero=>simp at U Y;subst U Y;exact⟨p,h1⟩
   |succ j=>exact z j Z y' (by simpa using U) (by simpa using Y)
  .rw[J];have hm:min (x::xs).length (y::ys).length=min xs.length ys.length+1:=by simp only[length_cons];omega
   rw[hm,range_succ_eq_map,all_cons,MP];have hl:((x::xs).length==(y::ys).length)=(xs.length==ys.length):=by
    simp_all
   rw[hl,Bool.and_assoc];simp only[getD_cons_zero,h1,getD_some,Function.comp_def,getD_cons_succ]
theorem vB :∀xs {b},inL f xs=some b->(∀x∈xs,∃c,f x=some c)/\b=xs.any λx=>(f x).getD false
 | [],b,h=>by simp[inL]at h;subst h;simp
 |x::xs,b,h=>by
  simp only[inL,gf,pe]at h;obtain⟨p,h1,q,h2,rfl⟩:=h;obtain⟨z,U⟩:=vB xs h2;refine⟨λy J=>?_,?_⟩
  .rcases wh.mp J with rfl|J
   .exact⟨p,h1⟩
   .exact z y J
  .simp_all
section
variable{X:Cx}{pins:List (Addr×Obj)}{σ:St}{H:Hp}{s:Shared}
def rQ(I:Inv X pins σ H s)(h1:SqL X.K H a xs)(h2:SqT X.K H a ys):False:=by
 obtain⟨its,_,p,_⟩:=I.list h1;obtain⟨z,_,q,_⟩:=I.tuple h2;exact SeqAt.ne_of_list_tuple p.isList (show s.heap.IsTuple a z.toArray from q) rfl
def qi(h:RdD H a d):IsD H a:=by
 cases d<;>first|exact .inl ⟨_,h.rd⟩|exact .inr ⟨_,h.rd⟩|exact absurd h.2 pd
def lX(I:Inv X pins σ H s)(h1:SqL X.K H a xs\/SqT X.K H a xs)(h2:RdD H a d):False:=by
 obtain⟨o,ho,hc⟩:=(tD I (qi h2)).1;rcases h1 with h1|h1
 .obtain⟨its,_,p,_⟩:=I.list h1;obtain⟨o',z,J,_⟩:=p.isList;rw[ho]at z;cases z;rw[hc]at J;exact absurd J (by decide)
 .obtain⟨its,_,⟨o',z,J,_⟩,_⟩:=I.tuple h1;rw[ho]at z;cases z;rw[hc]at J;exact absurd J (by decide)
def Sc.v_inj:∀{a b:Sc},a.v=b.v->a=b:=by
 intro a b h;cases a<;>cases b<;>simp[Sc.v]at h ⊢<;>exact h
theorem rR:∀{a b},iq a=iq b->a=b
 | [],[],_=>rfl
 | [],_::_,h=>by cases h
 | _::_,[],h=>by cases h
 | (k,v)::a,(J,U)::b,h=>by
  simp[iq,JY,Prod.mk.injEq]at h;obtain⟨⟨h1,h2⟩,z⟩:=h;rw[h1,Sc.v_inj h2,rR z]
theorem lY:∀{a b:List Int},(a.map Sum.inl:List Key)=b.map Sum.inl->a=b
 | [],[],_=>rfl
 | [],_::_,h=>by cases h
 | _::_,[],h=>by cases h
 |x::a,y::b,h=>by
  simp[MY]at h;rw[h.1,lY h.2]
theorem rS:∀{a b},ji a=ji b->a=b
 | [],[],_=>rfl
 | [],_::_,h=>by cases h
 | _::_,[],h=>by cases h
 | (k,v)::a,(J,U)::b,h=>by
  simp[ji,JY]at h;obtain⟨⟨h1,h2⟩,z⟩:=h;rw[lY h1,Sc.v_inj h2,rS z]
theorem mX:∀{a b:List Int},a.map V.int=b.map V.int->a=b
 | [],[],_=>rfl
 | [],_::_,h=>by cases h
 | _::_,[],h=>by cases h
 |x::a,y::b,h=>by
  simp only[JY,MY]at h;rw[V.int.inj h.1,mX h.2]
def rT(h:ir a=ir b):a=b:=by
 cases a<;>cases b<;>first
  | (cases h;done)
  | (rw[rR (HO.dK.inj h)];done)
  | (rw[rS (HO.dT.inj h)];done)
  | rw[mX (HO.lst.inj h)]
def EX(h:RdD H a x)(g:RdD H a y):x=y:=by
 have h:=h.rd;have g:=g.rd;have ne:∀x o u,ir x≠.frz o u:=λx o u e=>by cases x<;>cases e
 rcases h with h|⟨o,h⟩<;>rcases g with g|⟨o',g⟩
 .rw[h]at g;exact rT (J2 g)
 .rw[h]at g;exact absurd (J2 g) (ne x _ _)
 .simp_all
 .rw[h]at g;exact rT (HO.frz.inj (J2 g)).2
mutual
theorem lZ(I:Inv X pins σ H s):∀(x y:PV) {u:V},Rep X.K H x u->Rep X.K H y u->x=y
 | .non,y,u,h,g=>by rw[Rep]at h;subst h;cases y<;>simp[Rep]at g ⊢
 | .bl b,y,u,h,g=>by rw[Rep]at h;subst h;cases y<;>simp[Rep]at g ⊢;exact g
 | .int b,y,u,h,g=>by rw[Rep]at h;subst h;cases y<;>simp[Rep]at g ⊢;exact g
 | .str b,y,u,h,g=>by rw[Rep]at h;subst h;cases y<;>simp[Rep]at g ⊢;exact g
 | .tup xs,y,u,h,g=>by
  rw[Rep]at h;obtain⟨a,us,rfl,q,r⟩:=h;cases y with
  |tup ys =>
   rw[Rep]at g;obtain⟨b,vs,e,z,J⟩:=g;cases e;have:=I.tuple_inj (d4 q) (d4 z);subst this;rw[reps_inj I xs ys r J]
  |lst ys =>
   rw[Rep]at g;obtain⟨b,vs,e,z,J⟩:=g;cases e;exact(rQ I z (d4 q)).elim
  |dI kvs =>
   rw[Rep]at g;obtain⟨b,e,z⟩:=g;cases e;exact(lX I (.inr (d4 q)) z).elim
  | _=>simp[Rep]at g
 | .lst xs,y,u,h,g=>by
  rw[Rep]at h;obtain⟨a,us,rfl,q,r⟩:=h;cases y with
  |lst ys =>
   rw[Rep]at g;obtain⟨b,vs,e,z,J⟩:=g;cases e;have:=I.list_inj q z;subst this;rw[reps_inj I xs ys r J]
  |tup ys =>
   rw[Rep]at g;obtain⟨b,vs,e,z,J⟩:=g;cases e;exact(rQ I q (d4 z)).elim
  |dI kvs =>
   rw[Rep]at g;obtain⟨b,e,z⟩:=g;cases e;exact(lX I (.inl q) z).elim
  | _=>simp[Rep]at g
 | .dI kvs,y,u,h,g=>by
  rw[Rep]at h;obtain⟨a,rfl,q⟩:=h;cases y with
  |dI ks =>
   rw[Rep]at g;obtain⟨b,e,z⟩:=g;cases e;rw[EX q z]
  |tup ys =>
   rw[Rep]at g;obtain⟨b,vs,e,z,J⟩:=g;cases e;exact(lX I (.inr (d4 z)) q).elim
  |lst ys =>
   rw[Rep]at g;obtain⟨b,vs,e,z,J⟩:=g;cases e;exact(lX I (.inl z) q).elim
  | _=>simp[Rep]at g
theorem reps_inj(I:Inv X pins σ H s):∀(xs ys:List PV) {us:List V},Reps X.K H xs us->Reps X.K H ys us->xs=ys
 | [],ys,us,h,g=>by
  rw[Reps]at h;subst h
  cases ys with
  |nil=>rfl
  |cons y ys=>rw[Reps]at g;obtain⟨_,_,e,_⟩:=g;cases e
 |x::xs,ys,us,h,g=>by
  rw[Reps]at h;obtain⟨u,r,rfl,q,t⟩:=h;cases ys with
  |nil=>rw[Reps]at g;cases g
  |cons y ys =>
   rw[Reps]at g;obtain⟨J,U,e,z,t'⟩:=g;cases e;rw[lZ I x y q z,reps_inj I xs ys t t']
end
def Rep.tupAt(I:Inv X pins σ H s)(h:Rep X.K H (.tup xs) u)(r:aD u v) :
  ∃a us its,u=.ref a/\v=.ref a/\Reps X.K H xs us/\aG us its/\s.heap.IsTuple a its.toArray/\xs.length=its.length:=by
 obtain⟨a,us,rfl,q,t⟩:=h;obtain⟨its,z,p,_⟩:=I.tuple (d4 q);exact⟨a,us,its,rfl,r,t,z,p,t.length.trans z.length⟩
def Rep.lstAt(I:Inv X pins σ H s)(h:Rep X.K H (.lst xs) u)(r:aD u v) :
  ∃a us its,u=.ref a/\v=.ref a/\Reps X.K H xs us/\aG us its/\s.heap.IsList a its.toArray/\xs.length=its.length:=by
 obtain⟨a,us,rfl,q,t⟩:=h;obtain⟨its,z,p,_⟩:=I.list q;exact⟨a,us,its,rfl,r,t,z,p.isList,t.length.trans z.length⟩
def jR{A:Around}(ih:∀x y {Y Z}{J U}{b}{A},A.units+n<cLine->eqF n x y=some b->Rep X.K H x Y->Rep X.K H y Z->aD Y J->aD Z U->SeqAt.EqAt A s J U b)
  (hu:A.units+(n+1)<cLine) (rx:Reps X.K H xs us) (ry:Reps X.K H ys ws) (J:aG us its) (U:aG ws z)
  (hs:∀(j:Nat) x y,xs[j]?=some x->ys[j]?=some y->∃c,eqF n x y=some c) :
  ∀j (h1:j<its.toArray.size) (h2:j<z.toArray.size),SeqAt.EqAt A.in1 s its.toArray[j] z.toArray[j] ((eqF n (xs.getD j .non) (ys.getD j .non)).getD false):=λj h1 h2=>by
 refine ax λZq kq=>?_
 have l1:=rx.length.trans J.length;have l2:=ry.length.trans U.length;simp[r4]at h1 h2;have e1:xs[j]?=some xs[j]:=J1 (by omega);have e2:ys[j]?=some ys[j]:=J1 (by omega);obtain⟨Y,q1,p1⟩:=rx.get e1;obtain⟨Z,q2,p2⟩:=ry.get e2;obtain⟨wx,q3,p3⟩:=J.get q1;obtain⟨wy,q4,p4⟩:=U.get q2;obtain⟨c,hc⟩:=hs j _ _ e1 e2;have d1:xs.getD j .non=xs[j]:=by simp[List.getD,e1]
 have d2:ys.getD j .non=ys[j]:=by simp[List.getD,e2]
 have g1:its.toArray[j]=wx:=by
  simp_all
 have g2:z.toArray[j]=wy:=by
  simp_all
 refine kq ?_;rw[d1,d2,hc,g1,g2];exact ih _ _ (show A.units+1+n<cLine by omega) hc p1 p2 p3 p4
def Cj{A:Around}{n:Nat}(I:Inv X pins σ H s)(ih:∀(x y:PV) {z J:V}{U Y:Value}{b:Bool}{A:Around},A.units+n<cLine->eqF n x y=some b->Rep X.K H x z->Rep X.K H y J->aD z U->aD J Y->SeqAt.EqAt A s U Y b)
  (hu:A.units+(n+1)<cLine):(∀{xs ys:List PV}{z J:V}{U Y:Value}{b:Bool},eqF (n+1) (.tup xs) (.tup ys)=some b->Rep X.K H (.tup xs) z->Rep X.K H (.tup ys) J->aD z U->aD J Y->SeqAt.RcAt A s U Y b) /\
   (∀{xs ys:List PV}{z J:V}{U Y:Value}{b:Bool},eqF (n+1) (.lst xs) (.lst ys)=some b->Rep X.K H (.lst xs) z->Rep X.K H (.lst ys) J->aD z U->aD J Y->SeqAt.RcAt A s U Y b):=by
 refine⟨λ{xs ys z J U Y b} h rx ry r1 r2=>?_,λ{xs ys z J U Y b} h rx ry r1 r2=>?_⟩
 .obtain⟨a,us,its,rfl,rfl,t1,w1,p1,l1⟩:=rx.tupAt I r1;obtain⟨c,ws,Z,rfl,rfl,t2,w2,p2,l2⟩:=ry.tupAt I r2;have h:eqL (eqF n) xs ys=some b:=h;obtain⟨hs,hb⟩:=jQ xs ys h;have q:=SeqAt.RcAt.tuples (A:=A) p1 p2 (by omega) (jR ih hu t1 t2 w1 w2 hs);rw[hb];simpa[l1,l2]using q
 .obtain⟨a,us,its,rfl,rfl,t1,w1,p1,l1⟩:=rx.lstAt I r1;obtain⟨c,ws,Z,rfl,rfl,t2,w2,p2,l2⟩:=ry.lstAt I r2;have h:(if xs.length=ys.length then eqL (eqF n) xs ys else some false)=some b:=h;by_cases hl:xs.length=ys.length
  .rw[if_pos hl]at h;obtain⟨hs,hb⟩:=jQ xs ys h;have q:=SeqAt.RcAt.lists (A:=A) p1 p2 (by simp only[r4];omega) (by omega) (jR ih hu t1 t2 w1 w2 hs);rw[hb,hl,Nv];simpa[<- l1,hl]using q
  .rw[if_neg hl]at h;cases h;exact SeqAt.RcAt.lists_lengths (A:=A) p1 p2 (by simp only[r4,bne_iff_ne];omega) (by omega)
def cN(hd:isD x=false)(h:Rep X.K H x u):(∃xs,x=.tup xs)\/(∃xs,x=.lst xs)\/ii u=true:=by
 cases x with
 |dI _=>cases hd
 |tup xs=>exact .inl ⟨xs,rfl⟩
 |lst xs=>exact .inr (.inl ⟨xs,rfl⟩)
 | _=>rw[Rep]at h;subst h;exact .inr (.inr rfl)
def gI(z:A.units<cLine)(f:ii u=true)(r:aD u v)(p:s.heap.IsTuple a its) :
  SeqAt.EqAt A s v (.ref a) false/\SeqAt.EqAt A s (.ref a) v false/\SeqAt.RcAt A s v (.ref a) false/\SeqAt.RcAt A s (.ref a) v false:=by
 cases u with
 |non=>cases r;exact⟨.none_tuple p z,.tuple_none p z,.none_tuple p z,.tuple_none p z⟩
 |bl b=>cases r;exact⟨.bool_tuple b p z,.tuple_bool b p z,.bool_tuple b p z,.tuple_bool b p z⟩
 |int b=>obtain⟨t,rfl⟩:=r;exact⟨.int_tuple b t p z,.tuple_int b t p z,.int_tuple b t p z,.tuple_int b t p z⟩
 |str b=>obtain⟨t,rfl⟩:=r;exact⟨.str_tuple b t p z,.tuple_str b t p z,.str_tuple b t p z,.tuple_str b t p z⟩
 | _=>exact absurd (show false=true from f) pd
def iS(z:A.units<cLine)(f:ii u=true)(r:aD u v)(p:s.heap.IsList a its) :
  SeqAt.EqAt A s v (.ref a) false/\SeqAt.EqAt A s (.ref a) v false/\SeqAt.RcAt A s v (.ref a) false/\SeqAt.RcAt A s (.ref a) v false:=by
 cases u with
 |non=>cases r;exact⟨.none_list p z,.list_none p z,.none_list p z,.list_none p z⟩
 |bl b=>cases r;exact⟨.bool_list b p z,.list_bool b p z,.bool_list b p z,.list_bool b p z⟩
 |int b=>obtain⟨t,rfl⟩:=r;exact⟨.int_list b t p z,.list_int b t p z,.int_list b t p z,.list_int b t p z⟩
 |str b=>obtain⟨t,rfl⟩:=r;exact⟨.str_list b t p z,.list_str b t p z,.str_list b t p z,.list_str b t p z⟩
 | _=>exact absurd (show false=true from f) pd
def zy(J:aD y u)(z:aD x v)(Y:ii y=true)(U:ii x=true):SeqAt.RcAt A s u v (eqV y x):=by
 cases y with
 |non =>
  cases J;cases x with
  |non=>cases z;exact SeqAt.RcAt.none_none
  |bl b=>cases z;exact SeqAt.RcAt.none_bool b
  |int b=>obtain⟨t,rfl⟩:=z;exact SeqAt.RcAt.none_int b t
  |str b=>obtain⟨t,rfl⟩:=z;exact SeqAt.RcAt.none_str b t
  | _=>exact absurd (show false=true from U) pd
 |bl a =>
  cases J;cases x with
  |non=>cases z;exact SeqAt.RcAt.bool_none a
  |bl b=>cases z;exact SeqAt.RcAt.bool_bool a b
  |int b=>obtain⟨t,rfl⟩:=z;exact SeqAt.RcAt.bool_int a b t
  |str b=>obtain⟨t,rfl⟩:=z;exact SeqAt.RcAt.bool_str a b t
  | _=>exact absurd (show false=true from U) pd
 |int a =>
  obtain⟨t',rfl⟩:=J;cases x with
  |non=>cases z;exact SeqAt.RcAt.int_none a t'
  |bl b=>cases z;exact SeqAt.RcAt.int_bool a t' b
  |int b=>obtain⟨t,rfl⟩:=z;exact SeqAt.RcAt.int_int a t' b t
  |str b=>obtain⟨t,rfl⟩:=z;exact SeqAt.RcAt.int_str a t' b t
  | _=>exact absurd (show false=true from U) pd
 |str a =>
  obtain⟨t',rfl⟩:=J;cases x with
  |non=>cases z;exact SeqAt.RcAt.str_none a t'
  |bl b=>cases z;exact SeqAt.RcAt.str_bool a t' b
  |int b=>obtain⟨t,rfl⟩:=z;exact SeqAt.RcAt.str_int a t' b t
  |str b=>obtain⟨t,rfl⟩:=z;exact SeqAt.RcAt.str_str a t' b t
  | _=>exact absurd (show false=true from U) pd
 | _=>exact absurd (show false=true from Y) pd
def mY{n:Nat}{x y:PV}{u v:V}{b:Bool}(z:Rep X.K H x u)(J:Rep X.K H y v)(U:ii u=true)(Y:ii v=true)(h:eqF n x y=some b):b=eqV u v:=by
 cases x<;>cases y<;>simp only[Rep]at z J
 all_goals first
  | (obtain⟨_,_,rfl,_⟩:=z;exact absurd (show false=true from U) pd)
  | (obtain⟨_,_,rfl,_⟩:=J;exact absurd (show false=true from Y) pd)
  | (obtain⟨_,rfl,_⟩:=z;exact absurd (show false=true from U) pd)
  | (obtain⟨_,rfl,_⟩:=J;exact absurd (show false=true from Y) pd)
  | (subst z J;cases n<;>cases h<;>rfl)
def fD{y:PV}{v:V}(r:Rep X.K H y v)(f:ii v=true):EW y=false:=by
 cases y with
 |tup _=>obtain⟨_,_,rfl,_⟩:=r;cases f
 |lst _=>obtain⟨_,_,rfl,_⟩:=r;cases f
 | _=>rfl
def qj(I:Inv X pins σ H s):∀(n:Nat) (x y:PV) {ux uy:V}{vx vy:Value}{b:Bool}{A:Around},A.units+n<cLine->eqF n x y=some b->Rep X.K H x ux->Rep X.K H y uy->aD ux vx->aD uy vy ->
  SeqAt.EqAt A s vx vy b/\SeqAt.RcAt A s vx vy b:=by
 intro n
 induction n with
 |zero =>
  intro x y ux uy vx vy b A hu h rx U r1 Y;have z:A.units<cLine:=by omega
  rcases cN (fM h).1 rx with⟨xs,rfl⟩|⟨xs,rfl⟩|fx
  .obtain⟨a,us,its,rfl,rfl,t1,w1,p1,l1⟩:=rx.tupAt I r1;rcases cN (fM h).2 U with⟨ys,rfl⟩|⟨ys,rfl⟩|Z
   .cases h
   .obtain⟨c,ws,J,rfl,rfl,t2,w2,p2,l2⟩:=U.lstAt I Y;cases h;exact⟨.tuple_list p1 p2 z,.tuple_list p1 p2 z⟩
   .obtain⟨z1,z2,z3,z4⟩:=gI z Z Y p1;have:b=false:=fC h (by rw[fD U Z];rfl);subst this;exact⟨z2,z4⟩
  .obtain⟨a,us,its,rfl,rfl,t1,w1,p1,l1⟩:=rx.lstAt I r1;rcases cN (fM h).2 U with⟨ys,rfl⟩|⟨ys,rfl⟩|Z
   .obtain⟨c,ws,J,rfl,rfl,t2,w2,p2,l2⟩:=U.tupAt I Y;cases h;exact⟨.list_tuple p1 p2 z,.list_tuple p1 p2 z⟩
   .cases h
   .obtain⟨z1,z2,z3,z4⟩:=iS z Z Y p1;have:b=false:=fC h (by rw[fD U Z];rfl);subst this;exact⟨z2,z4⟩
  .rcases cN (fM h).2 U with⟨ys,rfl⟩|⟨ys,rfl⟩|Z
   .obtain⟨c,ws,J,rfl,rfl,t2,w2,p2,l2⟩:=U.tupAt I Y;obtain⟨z1,z2,z3,z4⟩:=gI z fx r1 p2;have:b=false:=fC h (by rw[fD rx fx];rfl);subst this;exact⟨z1,z3⟩
   .obtain⟨c,ws,J,rfl,rfl,t2,w2,p2,l2⟩:=U.lstAt I Y;obtain⟨z1,z2,z3,z4⟩:=iS z fx r1 p2;have:b=false:=fC h (by rw[fD rx fx];rfl);subst this;exact⟨z1,z3⟩
   .rw[mY rx U fx Z h];exact⟨yr r1 Y fx Z,zy r1 Y fx Z⟩
 |succ n ih =>
  intro x y ux uy vx vy b A hu h rx U r1 Y;have z:A.units<cLine:=by omega
  obtain⟨kt,kl⟩:=Cj I (λx y {_ _ _ _ _ _} a1 a2 a3 a4 a5 a6=>(ih x y a1 a2 a3 a4 a5 a6).1) hu;rcases cN (fM h).1 rx with⟨xs,rfl⟩|⟨xs,rfl⟩|fx
  .obtain⟨a,us,its,e1,a0,t1,w1,p1,l1⟩:=rx.tupAt I r1;rcases cN (fM h).2 U with⟨ys,rfl⟩|⟨ys,rfl⟩|Z
   .have q:=kt h rx U r1 Y;obtain⟨c,ws,J,e2,bA,t2,w2,p2,l2⟩:=U.tupAt I Y;subst e1 a0 e2 bA;refine⟨?_,q⟩;by_cases b3:a=c
    .subst b3;have e:=lZ I _ _ rx U;rw[e]at h;rw[jP _ _ h];exact .same _
    .exact .of_refs b3 q
   .obtain⟨c,ws,J,e2,bA,t2,w2,p2,l2⟩:=U.lstAt I Y;subst e1 a0 e2 bA;cases h;exact⟨.tuple_list p1 p2 z,.tuple_list p1 p2 z⟩
   .subst e1 a0;obtain⟨z1,z2,z3,z4⟩:=gI z Z Y p1;have:b=false:=fC h (by rw[fD U Z];rfl);subst this;exact⟨z2,z4⟩
  .obtain⟨a,us,its,e1,a0,t1,w1,p1,l1⟩:=rx.lstAt I r1;rcases cN (fM h).2 U with⟨ys,rfl⟩|⟨ys,rfl⟩|Z
   .obtain⟨c,ws,J,e2,bA,t2,w2,p2,l2⟩:=U.tupAt I Y;subst e1 a0 e2 bA;cases h;exact⟨.list_tuple p1 p2 z,.list_tuple p1 p2 z⟩
   .have q:=kl h rx U r1 Y;obtain⟨c,ws,J,e2,bA,t2,w2,p2,l2⟩:=U.lstAt I Y;subst e1 a0 e2 bA;refine⟨?_,q⟩;by_cases b3:a=c
    .subst b3;have e:=lZ I _ _ rx U;rw[e]at h;rw[jP _ _ h];exact .same _
    .exact .of_refs b3 q
   .subst e1 a0;obtain⟨z1,z2,z3,z4⟩:=iS z Z Y p1;have:b=false:=fC h (by rw[fD U Z];rfl);subst this;exact⟨z2,z4⟩
  .rcases cN (fM h).2 U with⟨ys,rfl⟩|⟨ys,rfl⟩|Z
   .obtain⟨c,ws,J,rfl,rfl,t2,w2,p2,l2⟩:=U.tupAt I Y;obtain⟨z1,z2,z3,z4⟩:=gI z fx r1 p2;have:b=false:=fC h (by rw[fD rx fx];rfl);subst this;exact⟨z1,z3⟩
   .obtain⟨c,ws,J,rfl,rfl,t2,w2,p2,l2⟩:=U.lstAt I Y;obtain⟨z1,z2,z3,z4⟩:=iS z fx r1 p2;have:b=false:=fC h (by rw[fD rx fx];rfl);subst this;exact⟨z1,z3⟩
   .rw[mY rx U fx Z h];exact⟨yr r1 Y fx Z,zy r1 Y fx Z⟩
end
section
variable{X:Cx}
def EY(hu:X.A.units+101<cLine):OpR X (compareOp .Eq) (λz J H Q=>∃x y b,Rep X.K H x z/\Rep X.K H y J/\eqF 100 x y=some b/\Q (.bl b) H):=by
 intro pins s σ H z J v u Q I U Y h;obtain⟨x,y,b,Z,r2,e,q⟩:=h;exact(qj I 100 x y (by omega) e Z r2 U Y).2 _ _ _ _ ⟨.bl b,H,I,rfl,q⟩
def EZ(hu:X.A.units+101<cLine):OpR X (compareOp .NotEq) (λux uy H Q=>∃x y b,Rep X.K H x ux/\Rep X.K H y uy/\tY x y=true/\eqF 100 x y=some b/\Q (.bl (!b)) H):=by
 intro pins s σ H ux uy v u Q I rx ry h;obtain⟨x,y,b,Y,r2,ok,e,q⟩:=h;rcases cN (fM e).1 Y with⟨xs,rfl⟩|⟨xs,rfl⟩|fx
 .cases y with
  |tup ys =>
   refine ax λZq kq=>?_
   obtain⟨a,us,its,rfl,rfl,t1,w1,p1,l1⟩:=Y.tupAt I rx;obtain⟨c,ws,U,rfl,rfl,t2,w2,p2,l2⟩:=r2.tupAt I ry;have e:eqL (eqF 99) xs ys=some b:=e;obtain⟨hs,hb⟩:=jQ xs ys e;obtain⟨⟨cls,dd,data,sl⟩,ho,hc,n,hd⟩:=id p1;obtain⟨⟨b2,ar,data2,aO⟩,J,Z,n2,ao⟩:=id p2;simp only at hc hd Z ao;subst hc hd Z ao;refine kq ?_;refine LQ (op:=.NotEq) ⟨_,ho,rfl⟩ ⟨_,J,rfl⟩ PySem.F.slot_tuple_ne PySem.F.entry_tuple_ne (PySem.F.args_tuple_ne_2 _ _) (SeqAt.tuple_neAt a c its.toArray U.toArray n n2 dd ar sl aO _)
    ⟨ho,J,jR (n:=99) (λx y {_ _ _ _ _ _} a1 a2 a3 a4 a5 a6=>(qj I 99 x y a1 a2 a3 a4 a5 a6).1) (by omega) t1 t2 w1 w2 hs,?_⟩ (by omega)
   refine⟨(λx=>nomatch x),⟨.bl (!b),H,I,?_,q⟩⟩;rw[hb];simp[l1,l2,L2.aD]
  | _=>cases ok
 .cases y with
  |lst ys =>
   refine ax λZq kq=>?_
   obtain⟨a,us,its,rfl,rfl,t1,w1,p1,l1⟩:=Y.lstAt I rx;obtain⟨c,ws,U,rfl,rfl,t2,w2,p2,l2⟩:=r2.lstAt I ry;have e:(if xs.length=ys.length then eqL (eqF 99) xs ys else some false)=some b:=e;obtain⟨⟨cls,dd,data,sl⟩,ho,hc,n,hd⟩:=id p1;obtain⟨⟨b2,ar,data2,aO⟩,J,Z,n2,ao⟩:=id p2;simp only at hc hd Z ao;subst hc hd Z ao;refine kq ?_;by_cases hl:xs.length=ys.length
   .rw[if_pos hl]at e;obtain⟨hs,hb⟩:=jQ xs ys e;refine LQ (op:=.NotEq) ⟨_,ho,rfl⟩ ⟨_,J,rfl⟩ PySem.F.slot_list_ne PySem.F.entry_list_ne (PySem.F.args_list_ne_2 _ _) (SeqAt.list_neAt a c its.toArray U.toArray n n2 dd ar sl aO (by simp only[r4];omega) _)
     ⟨ho,J,jR (n:=99) (λx y {_ _ _ _ _ _} a1 a2 a3 a4 a5 a6=>(qj I 99 x y a1 a2 a3 a4 a5 a6).1) (by omega) t1 t2 w1 w2 hs,?_⟩ (by omega)
    refine⟨(λx=>nomatch x),⟨.bl (!b),H,I,?_,q⟩⟩;rw[hb,hl,Nv];simp[<- l1,hl,L2.aD]
   .rw[if_neg hl]at e;cases e;refine LQ (op:=.NotEq) ⟨_,ho,rfl⟩ ⟨_,J,rfl⟩ PySem.F.slot_list_ne PySem.F.entry_list_ne (PySem.F.args_list_ne_2 _ _) (SeqAt.list_ne_lengthsAt a c its.toArray U.toArray n n2 dd ar sl aO (by simp only[r4,bne_iff_ne];omega)) ⟨ho,J,?_⟩ (by omega);exact⟨(λx=>nomatch x),⟨.bl true,H,I,rfl,q⟩⟩
  | _=>cases ok
 .have fy:ii uy=true:=by
   rcases cN (fM e).2 r2 with⟨ys,rfl⟩|⟨ys,rfl⟩|fy
   .cases x<;>cases ok
    obtain⟨_,_,rfl,_⟩:∃a us,ux=V.ref a/\_:=by rw[Rep]at Y;exact Y
    exact absurd (show false=true from fx) pd
   .cases x<;>cases ok
    obtain⟨_,_,rfl,_⟩:∃a us,ux=V.ref a/\_:=by rw[Rep]at Y;exact Y
    exact absurd (show false=true from fx) pd
   .exact fy
  have hb:=mY Y r2 fx fy e;subst hb;refine GU pins s σ H ux uy v u Q I rx ry ?_;have key:scal ux uy=true/\decide (ux=uy)=eqV ux uy:=by
   cases x<;>cases y<;>simp only[Rep]at Y r2<;>first
    | (obtain⟨_,_,rfl,_⟩:=Y;exact absurd (show false=true from fx) pd)
    | (obtain⟨_,_,rfl,_⟩:=r2;exact absurd (show false=true from fy) pd)
    | (obtain⟨_,rfl,_⟩:=Y;exact absurd (show false=true from fx) pd)
    | (obtain⟨_,rfl,_⟩:=r2;exact absurd (show false=true from fy) pd)
    | (subst Y r2;first|(cases ok;done)|exact⟨rfl,by first|exact uW|exact yf|exact uX|exact J9 rfl|exact Kr (λz=>by cases z)⟩)
  exact⟨key.1,by rw[key.2];exact q⟩
def jS(I:Inv X pins σ H s)(hu:X.A.units+101<cLine)(rx:Rep X.K H x ux)(r1:aD ux vx)(t:Reps X.K H xs us)(w:aG us its)(h:isIn x xs=some b) :
  ∃e,(∀y,y∈its.toArray->SeqAt.EqAt X.A.in1 s y vx (e y))/\its.toArray.any e=b:=by
 obtain⟨h1,h2⟩:=vB xs h
 classical
 have J:∀z u y,aD u y->Rep X.K H z u->∀p:(∃z u,aD u y/\Rep X.K H z u),p.choose=z:=λz u y r q p=>by
  obtain⟨u',r',q'⟩:=p.choose_spec;have e:=r.inj r';subst e;exact lZ I _ _ q' q
 refine⟨λy=>if p:∃z u,aD u y/\Rep X.K H z u then(eqF 100 p.choose x).getD false else false,?_,?_⟩
 .intro y hy;refine ax λZq kq=>?_
  obtain⟨j,hj,e⟩:=getElem_of_mem (by simpa using hy:y∈its);have ej:its[j]?=some y:=by rw[J1 hj,e]
  have l1:=w.length;obtain⟨U,e1⟩:∃U,us[j]?=some U:=⟨_,J1 (by omega)⟩;obtain⟨wy,e2,Y⟩:=w.get e1;rw[ej]at e2;cases e2;obtain⟨z,e3,Z⟩:=t.get' e1;obtain⟨c,hc⟩:=h1 z (Lq e3);have q:=(qj I 100 z x (A:=X.A.in1) (show X.A.units+1+100<cLine by omega) hc Z rx Y r1).1;have p:∃z u,aD u y/\Rep X.K H z u:=⟨z,U,Y,Z⟩;have e4:=J z U y Y Z p;refine kq ?_
  simp_all
 .rw[h2];simp only[any_toArray];clear h h1 h2
  induction xs generalizing us its with
  |nil =>
   rw[Reps]at t;subst t;cases w
   rfl
  |cons z zs ih =>
   rw[Reps]at t;obtain⟨u,r,rfl,q,t⟩:=t;cases w with
   |cons rv w =>
    rename_i y ys;have p:∃z u,aD u y/\Rep X.K H z u:=⟨z,u,rv,q⟩;have e4:=J z u y rv q p;rw[any_cons,any_cons,ih t w];simp only[p,dite_true,e4]
def E1(U:X.A.units+101<cLine):OpR X (compareOp .In) (λY Z H Q=>∃x xs a us b,Rep X.K H x Y/\Z=.ref a/\(SqL X.K H a us\/SqT X.K H a us)/\Reps X.K H xs us/\isIn x xs=some b/\Q (.bl b) H):=by
 intro pins s σ H Y Z v u Q I rx ry h;obtain⟨x,xs,a,us,b,r1,rfl,z,r2,e,q⟩:=h;cases ry;rcases z with z|z
 .obtain⟨its,r,J,hz⟩:=I.list z;obtain⟨f,h1,h2⟩:=jS I U r1 rx r2 r e;refine SeqAt.in_listAt f J.isList h1 ?_;rw[h2];exact⟨.bl b,H,I,rfl,q⟩
 .obtain⟨its,r,J,hz⟩:=I.tuple z;obtain⟨f,h1,h2⟩:=jS I U r1 rx r2 r e;refine SeqAt.in_tupleAt f J h1 ?_;rw[h2];exact⟨.bl b,H,I,rfl,q⟩
def xh(U:X.A.units+101<cLine):OpR X (compareOp .NotIn) (λY Z H Q=>∃x xs a us b,Rep X.K H x Y/\Z=.ref a/\(SqL X.K H a us\/SqT X.K H a us)/\Reps X.K H xs us/\isIn x xs=some b/\Q (.bl (!b)) H):=by
 intro pins s σ H Y Z v u Q I rx ry h;obtain⟨x,xs,a,us,b,r1,rfl,z,r2,e,q⟩:=h;cases ry;rcases z with z|z
 .obtain⟨its,r,J,hz⟩:=I.list z;obtain⟨f,h1,h2⟩:=jS I U r1 rx r2 r e;refine SeqAt.notIn_listAt f J.isList h1 ?_;rw[h2];exact⟨.bl _,H,I,rfl,q⟩
 .obtain⟨its,r,J,hz⟩:=I.tuple z;obtain⟨f,h1,h2⟩:=jS I U r1 rx r2 r e;refine SeqAt.notIn_tupleAt f J h1 ?_;rw[h2];exact⟨.bl _,H,I,rfl,q⟩
end
end MM
namespace L2
open PySem PySem.Spec PyProof.Rows List Option
theorem PE.imp(h:PE X e t)(i:∀σ H Q,t' σ H Q->t σ H Q):PE X e t':=λpins s σ H Q I q=>h pins s σ H Q I (i σ H Q q)
theorem PT.imp(h:PT X e t)(i:∀σ H Q,t' σ H Q->t σ H Q):PT X e t':=λpins s σ H Q I q=>h pins s σ H Q I (i σ H Q q)
theorem PA.imp(h:PA X e t)(i:∀σ H Q,t' σ H Q->t σ H Q):PA X e t':=λpos pins s σ H Q I q=>h pos pins s σ H Q I (i σ H Q q)
theorem PS.imp(h:PS X e t)(i:∀D σ H,t' D σ H->t D σ H):PS X e t':=λpins s σ H D I q=>h pins s σ H D I (i D σ H q)
theorem PSs.imp(h:PSs X e t)(i:∀D σ H,t' D σ H->t D σ H):PSs X e t':=λpins s σ H D I q=>h pins s σ H D I (i D σ H q)
theorem PI.imp(h:PI X tg e t)(i:∀σ H R,t' σ H R->t σ H R):PI X tg e t':=λpins s σ H R I q=>h pins s σ H R I (i σ H R q)
end L2
namespace MM
open PySem PySem.Spec PyProof.Rows L2 List Option
noncomputable def i7(H:Hp)(ms:List Addr):Hp:=λb=>if b∈ms then none else H b
def lh(K:NF)(O:List Addr)(H:Hp):MV->V->Prop
 | .val v,u=>Rep K (aw H O) v u
 | .brw xs,u=>∃a us,u=.ref a/\SqL K H a us/\Reps K (aw H O) xs us
 | .own _,_=>False
 | .ownD _,_=>False
 | .mutD _,_=>False
 | .brwD kvs,u=>∃a,u=.ref a/\Rd H a (ir kvs)
noncomputable def spM(K:NF)(cal:Cal)(f:Nat):Sp:=λvs H Q _ =>
 ∃O args r,(∀a∈O,H a≠none)/\Paired (lh K O H) args vs/\cal f args=some r/\∀u H',aj H H'->Rep K (aw H' O) r u->Q u H'
noncomputable def spF(K:NF)(cal:Cal)(f:Nat):Sp:=λvs H Q _ =>
 ∃O args xs,(∀a∈O,H a≠none)/\Paired (lh K O H) args vs/\cal (f+1000) args=some (.lst xs)/\∀p us H',aj H H'->H p=none->H' p=some (.lst us)->Reps K (aw H' (p::O)) xs us->Q (.ref p) H'
def E2(K:NF)(O:List Addr)(H:Hp):MV->V->Prop
 | .val v,u=>Rep K (aw H O) v u
 | .mutD d,u=>∃a,u=.ref a/\DAt K H O a d/\a∈O
 | _,_=>False
inductive cj(K:NF)(O:List Addr)(H':Hp):List MV->List V->List PV->List Addr->Prop where
 | nil:cj K O H' [] [] [] []
 | mutd {d d':DD}{a:Addr}{as:List MV}{vs:List V}{ds:List PV}{ms:List Addr} (h:DAt K H' O a d') (hn:a∉ms) (t:cj K O H' as vs ds ms):cj K O H' (.mutD d::as) (.ref a::vs) (.dI d'::ds) (a::ms)
 | other {m:MV}{v:V}{as:List MV}{vs:List V}{ds:List PV}{ms:List Addr} (h:∀d,m≠.mutD d) (t:cj K O H' as vs ds ms):cj K O H' (m::as) (v::vs) ds ms
noncomputable def spD(K:NF)(cal:Cal)(f:Nat):Sp:=λvs H Q _ =>
 ∃O args v ds z ms,(∀a∈O,H a≠none)/\Paired (E2 K O H) args vs/\cj K O H args vs z ms/\cal (f+2000) args=some (.tup (v::ds)) /\
  ∀u H',(∀b o,b∉ms->H b=some o->H' b=some o)->cj K O H' args vs ds ms->Rep K (aw H' O) v u->Q u H'
noncomputable def jT:List String:=["len","tuple","list","sorted","any","all","sum","max","min","int","bool","str","isinstance","set","range","enumerate","reversed"
 ]
noncomputable def toV:PV->V
 | .non=>.non
 | .bl b=>.bl b
 | .int i=>.int i
 | .str x=>.str x
 | _=>.non
structure Gf(X:Cx)(T:Tab)(k:Nat)(cal:Cal):Prop where
 calm:X.calm=true
 room:ko k X.A
 fns:∀(f:Nat) (x:Str),T.fs[f]?=some x->∃(fa:Addr) (fd:FuncData) (ps:List Str),X.mg x=some (.ref fa)/\PySem.W.keepIn X.K (.ref fa)=true/\c8 X.K fd ps []/\jc X.prog X.w X.K X.mg X.base CX0 k fa fd ps (spM X.K cal f)/\∀l,T.ds[f]?=some l->∃vs,c8 X.K fd ps vs/\aG (l.map Sc.v) vs
 blt:∀x∈jT,X.mg (x:Str)=none
 gs:∀p∈T.gs,∃u,X.mg p.1=some u/\aD (toV p.2) u
 fnsF:∀(f:Nat) (x:Str),T.fs[f]?=some x->∃(fa:Addr) (fd:FuncData) (ps:List Str),X.mg x=some (.ref fa)/\PySem.W.keepIn X.K (.ref fa)=true/\c8 X.K fd ps []/\jc X.prog X.w X.K X.mg X.base CX0 k fa fd ps (spF X.K cal f)
 fnsD:∀(f:Nat) (x:Str),T.fs[f]?=some x->∃(fa:Addr) (fd:FuncData) (ps:List Str),X.mg x=some (.ref fa)/\PySem.W.keepIn X.K (.ref fa)=true/\c8 X.K fd ps []/\jc X.prog X.w X.K X.mg X.base CX0 k fa fd ps (spD X.K cal f)
theorem Gf.units(g:Gf X T k cal):X.A.units+200<cLine:=by have:=g.room.un;omega
def Got(K:NF)(H:Hp)(O:List Addr)(z:ME)(v:PV)(u:V):Prop:=bp K H O v u/\(aH z=false->Rep K (aw H O) v u)
noncomputable def tE(K:NF)(cal:Cal)(z:ME):TE:=λσ H Q=>∃B E O W v,aE K B E O H W σ/\ev cal z W=some v/\∀u H',aj H H'->Got K H' O z v u->Q u H'
noncomputable def tT(K:NF)(cal:Cal)(z:ME):TT:=λσ H Q=>∃B E O W b,aE K B E O H W σ/\evB cal z W=some b/\∀H',aj H H'->Q b H'
def Jw(K:NF)(H:Hp)(O:List Addr)(ms:List ME)(vs:List PV)(us:List V):Prop:=Paired (bp K H O) vs us/\((ms.all λm=>!aH m)=true->Reps K (aw H O) vs us)
noncomputable def tEs(K:NF)(cal:Cal)(ms:List ME):TA:=λσ H Q=>∃B E O W vs,aE K B E O H W σ/\evs cal ms W=some vs/\∀us H',aj H H'->Jw K H' O ms vs us->Q us H'
noncomputable def tAs(K:NF)(cal:Cal)(ms:List ME):TA:=λσ H Q=>∃B E O W vs,aE K B E O H W σ/\evA cal ms W=some vs/\∀us H',aj H H'->Paired (lh K O H') vs us->Q us H'
section
variable{K:NF}{H H':Hp}{O:List Addr}
theorem Got.of(h:Rep K (aw H O) v u):Got K H O z v u:=⟨.inl h,λ_=>h⟩
theorem Got.scal(h:∀F,Rep K F v u):Got K H O z v u:=.of (h _)
theorem Got.mono(s:aj H H')(h:Got K H O z v u):Got K H' O z v u:=⟨h.1.mono s,λe=>Rep.mono (ak s) _ (h.2 e)⟩
def d6(F)(b):Rep K F (.bl b) (.bl b):=rfl
def bZ(F)(b):Rep K F (.int b) (.int b):=rfl
def l0(F)(b):Rep K F (.str b) (.str b):=rfl
def qk(F):Rep K F .non .non:=rfl
def gc(U:∀a∈O,H1 a≠none)(J:H1 p=none)(h:Reps K (aw H1 O) xs us):Rep K (aw (upd H1 p (.tup us)) O) (.tup xs) (.ref p):=by
 refine⟨p,us,rfl,?_,Reps.mono (ak (aB J _)) _ h⟩;rw[aV (λz=>U p z J)];exact az
def mZ(U:∀a∈O,H1 a≠none)(J:H1 p=none)(h:Reps K (aw H1 O) xs us):Rep K (aw (upd H1 p (.lst us)) O) (.lst xs) (.ref p):=by
 refine⟨p,us,rfl,SqL.of ?_,Reps.mono (ak (aB J _)) _ h⟩;rw[aV (λz=>U p z J)];exact az
def bu(s:aj H H')(h:∀a∈O,H a≠none):∀a∈O,H' a≠none:=λa z e=>h a z (s.free e)
def db(h:n<=10000):n<=sizeLine:=uw h (by decide)
end
section
variable{X:Cx}{T:Tab}{k:Nat}{cal:Cal}
def Hu(h:EC sc x=true):Vis sc x:=by
 unfold EC at h;simp[JZ]at h;rcases h with(h|h)|h
 .exact .inl h
 .exact .inr (.inl h)
 .exact .inr (.inr h)
def iw(h:fh sc x=true):Loc sc x:=by
 unfold fh at h;simp[JZ]at h;exact h
def gJ (h:au x=true):(x==("__debug__":Str))=false/\(x==("__classdict__":Str))=false/\x ≠ "__name__":=by simp_all [au]
def dh(h:glB X.env.scope x=true):Gl X x:=by
 unfold glB at h;simp at h;exact h
def bT(h:aM X.N X.env.scope i x=true):PE X (.Name x pos) (GD i):=by
 unfold aM at h;simp[mu,JZ]at h;obtain⟨⟨h1,h2⟩,z⟩:=h;obtain⟨p1,p2,_⟩:=gJ z;exact DK h1 (Hu h2) p1 p2
def aR{K:NF}(st:aE K B E O H W σ){i:Nat}(e:(W[i]?).join=some m):∃u,σ[i]?=some (some u)/\eU K B O H m u:=st.slot i m (aA e)
def Dq(h:aM X.N X.env.scope i x=true):PE X (.Name x pos) (tE X.K cal (.var i)):=by
 refine(bT h).imp λσ H Q U=>?_
 obtain⟨B,E,O,W,v,st,z,q⟩:=U;rw[ev]at z;cases J:(W[i]?).join with
 |none=>rw[J]at z;cases z
 |some m =>
  rw[J]at z;cases m with
  |val w =>
   simp[zf]at z;subst z;obtain⟨u,Y,r⟩:=aR st J;exact⟨u,Y,q u H (aj.refl H) (.of r)⟩
  | _=>cases z
def Dr(h:aM X.N X.env.scope i x=true):PE X (.Name x pos) (tE X.K cal (.bor i)):=by
 refine(bT h).imp λσ H Q Y=>?_
 obtain⟨B,E,O,W,v,st,J,q⟩:=Y;rw[ev]at J;cases U:(W[i]?).join with
 |none=>rw[U]at J;cases J
 |some m =>
  rw[U]at J;obtain⟨u,Z,r⟩:=aR st U;exact⟨u,Z,q u H (aj.refl H) ⟨r.bor st.keep J,λz=>by cases z⟩⟩
def Ds(h:t9 v c=true):PE X (.Constant c j pos) (tE X.K cal (.cst v)):=by
 have key:∀u,_->PE X (.Constant c j pos) _->PE X _ (tE X.K cal (.cst v)):=λu r p=>p.imp λσ H Q z=>by
  obtain⟨B,E,O,W,w,st,J,q⟩:=z;cases J;exact q u H (aj.refl H) (.scal r)
 cases v<;>cases c<;>simp[t9,J5,JZ]at h
 .exact key .non (λF=>qk F) DM
 .subst h;exact key _ (λF=>d6 F _) GE
 .subst h;exact key _ (λF=>bZ F _) DL
 .subst h;exact key _ (λF=>l0 F _) sW
def zz(g:Gf X T k cal)(h:(x==y&&glB X.env.scope x&&Dl T.gs x v&&au x)=true):PE X (.Name y pos) (tE X.K cal (.glob x v)):=by
 simp[mu,JZ]at h;obtain⟨⟨⟨rfl,Y⟩,hs⟩,Z⟩:=h;obtain⟨p,U,J⟩:=Ka.mp hs;simp[mu,JZ]at J;obtain⟨rfl,hv⟩:=J;obtain⟨u,e1,r⟩:=g.gs p U;have e:p.2=v/\∀F,Rep X.K F v (toV v):=by
  revert hv;generalize p.2=z;intro hv;cases z<;>cases v<;>simp[Dk,J5,JZ]at hv
  .exact⟨rfl,λF=>qk F⟩
  .subst hv;exact⟨rfl,λF=>d6 F _⟩
  .subst hv;exact⟨rfl,λF=>bZ F _⟩
  .subst hv;exact⟨rfl,λF=>l0 F _⟩
 rw[e.1]at r;refine(Bp (dh Y) e1 r (gJ Z).1).imp λσ H Q hq=>?_
 obtain⟨B,E,O,W,w,st,he,q⟩:=hq;cases he;exact q _ H (aj.refl H) (.scal e.2)
end
section
variable{X:Cx}
noncomputable def R2M(K:NF)(f:PV->PV->Option PV):R2:=λz J H Q =>
 ∃O x y v,(∀a∈O,H a≠none)/\bp K H O x z/\bp K H O y J/\f x y=some v/\∀u H',aj H H'->Rep K (aw H' O) v u->Q u H'
def kL{g:Int->Int->Int}(h:OpR X (binaryOp op) (rI C λi j=>.int (g i j)))
  (z:∀x y v,f x y=some v->∃i j,x=.int i/\y=.int j/\C i j/\v=.int (g i j)):OpR X (binaryOp op) (R2M X.K f):=by
 intro pins s σ H ux uy v u Q I J U Y;refine ax λZq Z=>?_
 obtain⟨O,x,y,w,hO,r1,r2,e,q⟩:=Y;obtain⟨i,j,rfl,rfl,c,rfl⟩:=z x y w e;have e1:=r1.int;have e2:=r2.int;subst e1 e2;refine Z ?_;exact h pins s σ H _ _ v u Q I J U ⟨i,j,rfl,rfl,c,q _ H (aj.refl H) (bZ _ _)⟩
def Ck:OpR X (binaryOp .Add) (λx y H Q=>∃l b xs zs,x=.ref l/\y=.ref b/\SqL X.K H l xs/\SqL X.K H b zs/\xs.length+zs.length<=sizeLine/\∀p,H p=none->Q (.ref p) (upd H p (.lst (xs++zs)))):=by
 intro pins s σ H x y v u Q I rx ry h;refine ax λZq kq=>?_
 obtain⟨l,b,xs,zs,rfl,rfl,hH,hB,hz,q⟩:=h;cases rx;cases ry;obtain⟨its,r,pl,_⟩:=I.list hH;obtain⟨z,r2,Z,_⟩:=I.list hB;have l1:=r.length;have l2:=r2.length;obtain⟨⟨cls,dd,data,sl⟩,ho,hc,n,hd⟩:=pl.isList;obtain⟨⟨a0,ao,data2,ar⟩,J,U,n2,Y⟩:=Z.isList;simp only at hc hd U Y;subst hc hd U Y;have e:its.toArray++z.toArray=(its++z).toArray:=by simp
 refine kq ?_;refine Np ⟨_,ho,rfl⟩ ⟨_,J,rfl⟩ noFill_list_add seq_list_add PySem.F.slot_list_add PySem.F.entry_list_add (PySem.F.args_list_add_2 _ _) (list_addW l b its.toArray z.toArray n n2 dd ao sl ar (by rw[r4,r4];omega)) ⟨ho,J,?_⟩;rw[e];exact⟨.ref _,_,I.lnew (r.append r2) (by rw[J0];omega),rfl,q _ I.fresh⟩
def Cl:OpR X (binaryOp .Add) (λx y H Q=>∃a b ys,x=.ref a/\y=.ref b/\SqT X.K H a []/\SqT X.K H b ys/\Q (.ref b) H):=by
 intro pins s σ H x y v u Q I rx ry h;refine ax λZq kq=>?_
 obtain⟨a,b,ys,rfl,rfl,ha,hb,q⟩:=h;cases rx;cases ry;obtain⟨its,r1,⟨⟨c1,d1,t1,l1⟩,ho,hc,n,hd⟩,_⟩:=I.tuple ha;obtain⟨U,r2,⟨⟨c2,d2,t2,l2⟩,Y,Z,n2,ao⟩,_⟩:=I.tuple hb;cases hc;cases hd;cases Z;cases ao;have z:=r1.nil_iff.mpr rfl;have J:=tuple_addW0 a b its.toArray U.toArray n n2 d1 d2 l1 l2 (by simp[z]);refine kq ?_;exact Np ⟨_,ho,rfl⟩ ⟨_,Y,rfl⟩ Nq seq_tuple_add PySem.F.slot_tuple_add PySem.F.entry_tuple_add (PySem.F.args_tuple_add_2 _ _) J ⟨ho,Y,.ref b,H,I,rfl,q⟩
def eN(h:jM f x y=some v):∃i j,x=.int i/\y=.int j/\f i j=some v:=by
 cases x<;>try (cases h;done)
 cases y<;>try (cases h;done)
 exact⟨_,_,rfl,rfl,h⟩
def jU{C:Int->Int->Prop} [∀i j,Decidable (C i j)] {g:Int->Int->Int}{x y v:PV} (h:jM (λi j=>if C i j then some (.int (g i j))else none) x y=some v):∃i j,x=.int i/\y=.int j/\C i j/\v=.int (g i j):=by
 obtain⟨i,j,z,J,U⟩:=eN h
 simp_all
def uc(op):OpR X (binaryOp (t8 op)) (R2M X.K (eC op)):=by
 cases op with
 |sub=>exact kL (C:=λ_ _=>True) (g:=λi j=>i-j) (λpins s σ H x y v u Q I J U h=>D1 pins s σ H x y v u Q I J U (by obtain⟨i,j,Y,Z,_,q⟩:=h;exact⟨i,j,Y,Z,q⟩)) (λx y v h=>by
   obtain⟨i,j,Y,Z,e3⟩:=eN h;exact⟨i,j,Y,Z,trivial,(J2 e3).symm⟩)
 |mul=>exact kL D3 λx y v h=>by have q:=jU h;exact q
 |fdiv=>exact kL Bv λx y v h=>by have q:=jU h;exact q
 |mod=>exact kL D4 λx y v h=>by have q:=jU h;exact q
 |pow=>exact kL D5 λx y v h=>by have q:=jU h;exact q
 |shr=>exact kL D6 λx y v h=>by have q:=jU h;exact q
 |add =>
  intro pins s σ H ux uy v u Q I J U hq;obtain⟨O,x,y,w,hO,r1,r2,e,q⟩:=hq;cases x<;>try (cases e;done)
  all_goals (cases y<;>simp only[eC,Di]at e<;>try (cases e;done))
  .cases e;have Y:=r1.int;have Z:=r2.int;subst Y Z;exact D0 pins s σ H _ _ v u Q I J U ⟨_,_,rfl,rfl,q _ H (aj.refl H) (bZ _ _)⟩
  .split at e
   .rename_i c;cases e;have Y:=r1.str;have Z:=r2.str;subst Y Z;exact tm pins s σ H _ _ v u Q I J U ⟨_,_,rfl,rfl,uw c (by decide),q _ H (aj.refl H) (l0 _ _)⟩
   .cases e
  .split at e
   .rename_i c;cases e;obtain⟨a,us,rfl,s1,t1⟩:=r1.tup;obtain⟨b,ws,rfl,s2,t2⟩:=r2.tup;have l1:=t1.length;have l2:=t2.length;have w1:=r1.tupR;have w2:=r2.tupR;by_cases z0:us=[]
    .subst z0;have z1:=Mt l1;subst z1;exact Cl pins s σ H _ _ v u Q I J U ⟨a,b,ws,rfl,rfl,s1,s2,q _ H (aj.refl H) w2⟩
    refine BE pins s σ H _ _ v u Q I J U ⟨a,b,us,ws,rfl,rfl,s1,s2,z0,db (by omega),λz=>?_,λz p hp=>?_⟩
    .rw[z,length_nil]at l2;have z1:=Mt l2;subst z1;rw[Le]at q;exact q _ H (aj.refl H) w1
    .exact q _ _ (aB hp _) (gc hO hp (t1.append t2))
   .cases e
  .split at e
   .rename_i c;cases e;obtain⟨a,us,rfl,s1,t1⟩:=r1.lst;obtain⟨b,ws,rfl,s2,t2⟩:=r2.lst;have l1:=t1.length;have l2:=t2.length;exact Ck pins s σ H _ _ v u Q I J U ⟨a,b,us,ws,rfl,rfl,s1,s2,db (by omega),λp hp=>q _ _ (aB hp _) (mZ hO hp (t1.append t2))⟩
   .cases e
noncomputable def R2C(K:NF)(f:PV->PV->Option Bool):R2:=λz J H Q =>
 ∃O x y b,bp K H O x z/\bp K H O y J/\f x y=some b/\Q (.bl b) H
def l4{g:Int->Int->Bool}(h:OpR X (compareOp op) (rI0 λi j=>.bl (g i j)))
  (z:∀x y v,f x y=some v->∃i j,x=.int i/\y=.int j/\v=g i j):OpR X (compareOp op) (R2C X.K f):=by
 intro pins s σ H ux uy v u Q I J U Y;refine ax λZq Z=>?_
 obtain⟨O,x,y,w,r1,r2,e,q⟩:=Y;obtain⟨i,j,rfl,rfl,rfl⟩:=z x y w e;have e1:=r1.int;have e2:=r2.int;subst e1 e2;refine Z ?_;exact h pins s σ H _ _ v u Q I J U ⟨i,j,rfl,rfl,q⟩
def E3:OpR X (compareOp .Is) (λx y H Q=>∃p q,x=.bl p/\y=.bl q/\Q (.bl (p==q)) H):=by
 rintro pins s σ H x y v u Q I z J ⟨p,q,rfl,rfl,U⟩;cases z;cases J;exact gk (ca I U (by cases p<;>cases q<;>rfl))
def xi:OpR X (compareOp .IsNot) (λx y H Q=>∃p q,x=.bl p/\y=.bl q/\Q (.bl (!(p==q))) H):=by
 rintro pins s σ H x y v u Q I z J ⟨p,q,rfl,rfl,U⟩;cases z;cases J;exact gk (ca I U (by cases p<;>cases q<;>rfl))
def vC{K:NF}(r:bp K H O x u):decide (u=.non)=mQ x:=by
 cases x with
 |non=>rw[r.non];rfl
 |bl b=>rw[r.bl];rfl
 |int b=>rw[r.int];rfl
 |str b=>rw[r.str];rfl
 |tup xs=>obtain⟨a,us,rfl,_⟩:=r.tup;rfl
 |lst xs=>obtain⟨a,us,rfl,_⟩:=r.lst;rfl
 |dI kvs=>obtain⟨a,rfl,_⟩:=r.dI;rfl
def zA(hu:X.A.units+200<cLine)(op):OpR X (compareOp (zp op)) (R2C X.K (cy op)):=by
 cases op with
 |lt=>exact l4 GV λx y v h=>by obtain⟨i,j,J,z,e3⟩:=eN h;exact⟨i,j,J,z,(J2 e3).symm⟩
 |le=>exact l4 GW λx y v h=>by obtain⟨i,j,J,z,e3⟩:=eN h;exact⟨i,j,J,z,(J2 e3).symm⟩
 |gt=>exact l4 GX λx y v h=>by obtain⟨i,j,J,z,e3⟩:=eN h;exact⟨i,j,J,z,(J2 e3).symm⟩
 |ge=>exact l4 GY λx y v h=>by obtain⟨i,j,J,z,e3⟩:=eN h;exact⟨i,j,J,z,(J2 e3).symm⟩
 |eq =>
  intro pins s σ H ux uy v u Q I U Y hq;obtain⟨O,x,y,w,Z,r2,e,q⟩:=hq;exact EY (by omega) pins s σ H ux uy v u Q I U Y ⟨x,y,w,Z.whole,r2.whole,e,q⟩
 |ne =>
  intro pins s σ H ux uy v u Q I U Y hq;obtain⟨O,x,y,w,Z,r2,e,q⟩:=hq;simp only[cy]at e;split at e
  .rename_i c;simp only[pe]at e;obtain⟨b,e,rfl⟩:=e;exact EZ (by omega) pins s σ H ux uy v u Q I U Y ⟨x,y,b,Z.whole,r2.whole,c,e,q⟩
  .cases e
 |isN =>
  intro pins s σ H ux uy v u Q I U Y hq;obtain⟨O,x,y,w,Z,r2,e,q⟩:=hq;cases y<;>try (cases e;done)
  .have z:=r2.non;subst z;refine D7 pins s σ H ux _ v u Q I U Y ⟨rfl,?_⟩;have e:=e;rw[vC Z,J2 e];exact q
  .cases x<;>try (cases e;done)
   have J:=Z.bl;have z:=r2.bl;subst J z;exact E3 pins s σ H _ _ v u Q I U Y ⟨_,_,rfl,rfl,by rw[J2 e];exact q⟩
 |notN =>
  intro pins s σ H ux uy v u Q I U Y hq;obtain⟨O,x,y,w,Z,r2,e,q⟩:=hq;cases y<;>try (cases e;done)
  .have z:=r2.non;subst z;refine Bx pins s σ H ux _ v u Q I U Y ⟨rfl,?_⟩;have e:some (!mQ x)=some w:=e;rw[vC Z,J2 e];exact q
  .cases x<;>try (cases e;done)
   have J:=Z.bl;have z:=r2.bl;subst J z;cases e;exact xi pins s σ H _ _ v u Q I U Y ⟨_,_,rfl,rfl,q⟩
 |isIn =>
  intro pins s σ H ux uy v u Q I U Y hq;obtain⟨O,x,y,w,Z,r2,e,q⟩:=hq;simp only[cy,gf]at e;obtain⟨xs,J,z⟩:=e;obtain⟨a,us,rfl,s2,t2⟩:=r2.seq J;exact E1 (by omega) pins s σ H ux _ v u Q I U Y ⟨x,_,a,us,w,Z.whole,rfl,s2,Reps.mono (bR H O) _ t2,z,q⟩
 |notIn =>
  intro pins s σ H ux uy v u Q I U Y hq;obtain⟨O,x,y,w,Z,r2,e,q⟩:=hq;simp only[cy,gf,pe]at e;obtain⟨b,⟨xs,J,z⟩,rfl⟩:=e;obtain⟨a,us,rfl,s2,t2⟩:=r2.seq J;exact xh (by omega) pins s σ H ux _ v u Q I U Y ⟨x,_,a,us,b,Z.whole,rfl,s2,Reps.mono (bR H O) _ t2,z,q⟩
def m3(n)(i):place n i=ixN n i:=rfl
def E4:IxR X (R2M X.K fo):=by
 intro value slice pins s σ H ux uy v u Q I rx ry hq z;obtain⟨O,x,y,w,hO,r1,r2,e,q⟩:=hq;cases x<;>cases y<;>simp[fo]at e<;>try (cases e;done)
 .simp[gf]at e;obtain⟨j,Z,e2⟩:=e;obtain⟨a,us,rfl,s1,U⟩:=r1.tup;have e3:=r2.int;subst e3;obtain⟨Y,e4,J⟩:=U.get e2;refine yq value slice pins s σ H _ _ v u Q I rx ry (.inr (.inl ⟨a,us,_,Y,rfl,rfl,s1,?_,q Y H (aj.refl H) J⟩)) z;unfold atI;rw[<- U.length,<- m3,Z];exact e4
 .simp[gf]at e;obtain⟨j,Z,e2⟩:=e;obtain⟨a,us,rfl,s1,U⟩:=r1.lst;have e3:=r2.int;subst e3;obtain⟨Y,e4,J⟩:=U.get e2;refine yq value slice pins s σ H _ _ v u Q I rx ry (.inl ⟨a,us,_,Y,rfl,rfl,s1,?_,q Y H (aj.refl H) J⟩) z;unfold atI;rw[<- U.length,<- m3,Z];exact e4
def ud(h:bq b=true):u6 b:=by
 intro o i;cases b<;>first|rfl|(simp[bq]at h)
def rU{K:NF}(h:Reps K F xs us)(lo hi):Reps K F (cut xs lo hi) (wJ us lo hi):=by
 have z:=h.length;have e:∀n d o,fY n d o=HT.sIx n d o:=λn d o=>by cases o<;>rfl
 unfold cut wJ;rw[e,e,z];exact(h.drop _).take _
def E5:SlR X (λx lo hi H Q=>∃O v w,(∀a∈O,H a≠none)/\bp X.K H O v x/\iQ v lo hi=some w/\∀u H',aj H H'->Rep X.K (aw H' O) w u->Q u H'):=by
 intro pins s σ H x v Z vu lo hi sl Q I rx hs pl pu hq;obtain⟨O,pv,w,hO,r1,e,q⟩:=hq;cases pv<;>simp only[iQ]at e<;>try (cases e;done)
 .rename_i xs;cases e;obtain⟨a,us,rfl,Y,z⟩:=r1.tup;have e:∀n d o,fY n d o=HT.sIx n d o:=λn d o=>by cases o<;>rfl
  by_cases J:HT.sIx us.length 0 lo=0/\HT.sIx us.length us.length hi=us.length
  .refine B2 pins s σ H _ v Z vu lo hi sl Q I rx hs pl pu ⟨a,us,rfl,Y,J.1,J.2,q _ _ (aj.refl H) ?_⟩;have:cut xs lo hi=xs:=by
    unfold cut;rw[e,e,z.length,J.1,J.2,drop_zero,<- z.length,Nat.sub_zero,take_length]
   rw[this];exact r1.tupR
  .exact D9 pins s σ H _ v Z vu lo hi sl Q I rx hs pl pu ⟨a,us,rfl,Y,J,λp U=>q _ _ (aB U _) (gc hO U (rU z lo hi))⟩
 .cases e;obtain⟨a,us,rfl,Y,z⟩:=r1.lst;exact BG pins s σ H _ v Z vu lo hi sl Q I rx hs pl pu ⟨a,us,rfl,Y,λp U=>q _ _ (aB U _) (mZ hO U (rU z lo hi))⟩
end
theorem vD(x):∀l,zc x l=Srt.lF Srt.dC x l
 | []=>rfl
 |y::r=>by
  show(if y<x then y::zc x r else x::y::r)=(if Srt.dC.blt y x=true then y::Srt.lF Srt.dC x r else x::y::r);rw[vD x r];by_cases h:y<x
  .have e:Srt.dC.blt y x=true:=J9 h;rw[if_pos h,if_pos e]
  .have e:Srt.dC.blt y x=false:=Kr h;rw[if_neg h,if_neg (by rw[e];exact pd)]
theorem eX:∀l,sortI l=Srt.sortI l
 | []=>rfl
 |x::r=>by
  show zc x (sortI r)=Srt.lF Srt.dC x (Srt.im Srt.dC r);rw[eX r,vD];rfl
theorem m4:∀a b,lexLt a b=HT.lexLt a b
 | [],[]=>rfl
 | [],_::_=>rfl
 | _::_,[]=>rfl
 |x::xs,y::ys=>by
  rw[lexLt,HT.lexLt_cons,m4 xs ys]
theorem vE(x):∀l,zd x l=Srt.lF Srt.eR x l
 | []=>rfl
 |y::r=>by
  show(if lexLt y x=true then y::zd x r else x::y::r)=(if Srt.eR.blt y x=true then y::Srt.lF Srt.eR x r else x::y::r);rw[vE x r,m4]
  rfl
theorem jV:∀l,sortT l=Srt.sortT l
 | []=>rfl
 |x::r=>by
  show zd x (sortT r)=Srt.lF Srt.eR x (Srt.im Srt.eR r);rw[jV r,vE];rfl
theorem o8:∀l,dd l=St.dd l
 | []=>rfl
 |x::r=>by
  unfold dd St.dd;rw[o8 r]
def Cm(ns):Srt.sortI (St.dd ns.reverse)=sortI (dd ns):=by
 rw[eX,o8];refine Srt.sortI_of_perm ?_;refine(Ls (St.dd_nodup _) (St.dd_nodup _)).mpr λa=>?_
 rw[St.fJ,St.fJ,NA]
def ue(ns):(St.dd ns.reverse).length=(dd ns).length:=by
 rw[o8];refine Perm.length_eq ((Ls (St.dd_nodup _) (St.dd_nodup _)).mpr λa=>?_);rw[St.fJ,St.fJ,NA]
section
variable{X:Cx}{T:Tab}{k:Nat}{cal:Cal}
def RBM(K:NF)(f:List PV->Option PV):List V->Hp->VK->Prop:=λus H Q =>
 ∃O vs v,(∀a∈O,H a≠none)/\Paired (bp K H O) vs us/\f vs=some v/\∀u H',aj H H'->Rep K (aw H' O) v u->Q u H'
def p1{K:NF}(h:Paired (bp K H O) [x] us):∃u,us=[u]/\bp K H O x u:=by
 cases h with
 |cons r t=>cases t;exact⟨_,rfl,r⟩
def p2{K:NF}(h:Paired (bp K H O) [x,y] us):∃u w,us=[u,w]/\bp K H O x u/\bp K H O y w:=by
 cases h with
 |cons r t=>cases t with
  |cons z t'=>cases t';exact⟨_,_,rfl,r,z⟩
def du(h:aC f vs=some v)(z:kJ f=some 1\/(dq f).isSome=true\/f=.sortedSet\/f=.lenSet\/f=.valuesOf):∃x,vs=[x]:=by
 cases vs with
 |nil=>cases f<;>simp[aC,cf,lH,iZ]at h
 |cons x r=>cases r<;>first|exact⟨x,rfl⟩|(cases f<;>simp[aC,cf,iZ,kJ,dq]at h z)
def Hv:bW X (.builtin "len") (RBM X.K (aC .len)):=by
 intro pins s σ H xs us Q I r h;obtain⟨O,vs,v,hO,rs,e,q⟩:=h;obtain⟨x,rfl⟩:=du e (.inl rfl);obtain⟨u,rfl,U⟩:=p1 rs;cases x<;>simp[aC,cf]at e<;>try (cases e;done)
 .cases e;obtain⟨a,J,rfl,Y,Z⟩:=U.tup;exact gF pins s σ H _ us Q I r ⟨a,J,rfl,.inr Y,by rw[<- Z.length];exact q _ H (aj.refl H) (bZ _ _)⟩
 .cases e;obtain⟨a,J,rfl,Y,Z⟩:=U.lst;exact gF pins s σ H _ us Q I r ⟨a,J,rfl,.inl Y,by rw[<- Z.length];exact q _ H (aj.refl H) (bZ _ _)⟩
 .rename_i d;cases d with
  |k kvs =>
   cases e;obtain⟨a,rfl,ha⟩:=U.dI;obtain⟨u,rfl,ru⟩:=d_ r;cases ru;obtain⟨hz,hs,J,ao,dd⟩:=jE I.hok (show Rd H a (.dK _)from ha.rd);have z:J.length=kvs.length:=by rw[<- ao.length];unfold iq;rw[p0]
   have hz:kvs.length<=sizeLine:=by unfold iq at hz;rw[p0]at hz;exact hz
   have hn:=kn;exact call_len_dict hs dd (by rw[z];omega) ⟨.int kvs.length,H,I.tok _,⟨s.toks+1,by rw[z]⟩,q _ H (aj.refl H) (bZ _ _)⟩
  | _=>cases e
def vF:bW X (.type "tuple") (RBM X.K (aC .tupleOf)):=by
 intro pins s σ H xs us Q I r h;refine ax λZq kq=>?_
 obtain⟨O,vs,v,hO,rs,e,q⟩:=h;obtain⟨x,rfl⟩:=du e (.inl rfl);obtain⟨u,rfl,z⟩:=p1 rs;simp[aC,cf,hW,pe]at e;obtain⟨ys,e,rfl⟩:=e;refine kq ?_;cases x<;>simp[a7]at e
 .subst e;obtain⟨a,J,rfl,U,Y⟩:=z.tup;refine i3 pins s σ H _ us Q I r ⟨a,J,rfl,.inr ⟨U,q _ H (aj.refl H) ?_⟩⟩;exact z.tupR
 .subst e;obtain⟨a,J,rfl,U,Y⟩:=z.lst;exact i3 pins s σ H _ us Q I r ⟨a,J,rfl,.inl ⟨U,λl Z=>q _ _ (aB Z _) (gc hO Z Y)⟩⟩
def RBF(K:NF)(f:List PV->Option PV):List V->Hp->VK->Prop:=λus H Q =>
 ∃O vs xs,(∀a∈O,H a≠none)/\Paired (bp K H O) vs us/\f vs=some (.lst xs)/\∀l z,H l=none->Reps K (aw H O) xs z->Q (.ref l) (upd H l (.lst z))
def E6:bW X (.type "list") (RBF X.K (aC .listOf)):=by
 intro pins s σ H xs us Q I r h;refine ax λZq J=>?_
 obtain⟨O,vs,v,hO,U,e,q⟩:=h;obtain⟨x,rfl⟩:=du e (.inl rfl);obtain⟨u,rfl,Y⟩:=p1 U;simp[aC,cf,hW,pe,PV.lst.injEq,exists_eq_right]at e;obtain⟨a,z,rfl,Z,t1⟩:=Y.seq e;refine J ?_;exact pY pins s σ H _ us Q I r ⟨a,z,rfl,Z,λl hl=>q l z hl t1⟩
theorem o9{K:NF} :∀{J}{us},Reps K F (J.map λt=>.tup (t.map .int)) us->tO K F us J
 | [],_,h=>by rw[map_nil,Reps]at h;subst h;exact .nil
 |t::J,_,h=>by
  obtain⟨u,r,rfl,q,z⟩:=h;obtain⟨a,vs,e,U,Y⟩:=q;rw[Y.ints]at U;exact .cons ⟨a,e,d4 U⟩ (o9 z)
theorem o_{K:NF}(s:aj F F'):∀{us}{z},tO K F us z->tO K F' us z
 | _,_,.nil=>.nil
 | _,_,.cons ⟨a,J,U⟩ t=>.cons ⟨a,J,s.seqT U⟩ (o_ s t)
theorem pf{K:NF}(h:Reps K F xs us):∀(l:List Nat),(∀i∈l,i<us.length)->Reps K F (l.map λi=>xs.getD i .non) (l.map λi=>us.getD i .non)
 | [],_=>.nil
 |i::l,z=>by
  have hi:=z i (.head _);have hx:i<xs.length:=by rw[h.length];exact hi
  obtain⟨u,U,Y⟩:=h.get (J1 hx);refine .cons ?_ (pf h l λj J=>z j (.tail _ J))
  simp_all
def zB (g:Gf X T k cal):bW X (.builtin "sorted") (RBF X.K (aC .sorted)):=by
 intro pins s σ H xs us Q I r h;refine ax λZq kq=>?_
 obtain⟨O,vs,v,hO,rs,e,q⟩:=h;obtain⟨x,rfl⟩:=du e (.inl rfl);obtain⟨u,rfl,rx⟩:=p1 rs;simp only[aC,cf,lH,hW,iZ,gf]at e;obtain⟨ys,e,J⟩:=e;obtain⟨a,ws,rfl,s1,U⟩:=rx.seq e;unfold ip at J;refine kq ?_;split at J
 .rename_i z;split at J
  .rename_i ns hn;cases J;have:=dl hn;subst this;have Z:=U.ints;subst Z;rw[p0]at z;refine jJ g.calm pins s σ H _ us Q I r ⟨a,ns,rfl,s1.imp id .inl,z,λl hl=>?_⟩;rw[<- eX];exact q l _ hl (.of_ints _)
  .simp only[pe,PV.lst.injEq]at J;obtain⟨Y,Z,rfl⟩:=J;have:=rJ Z;subst this;rw[p0]at z;refine qb (by have:=g.units;omega) pins s σ H _ us Q I r ⟨a,ws,Y,rfl,s1,o_ (bR H O) (o9 U),z,λl pm hl hp e=>q l _ hl ?_⟩;have q2:=pf U pm hp;have e4:(pm.map λi=>(Y.map λt=>PV.tup (t.map .int)).getD i .non)=(sortT Y).map λt=>.tup (t.map .int):=by
    rw[jV,<- e,J3];refine La λi hi=>?_
    have ar:i<Y.length:=by have:=hp i hi;rw[<- U.length,p0]at this;exact this
    simp[ar]
   rw[e4]at q2;exact q2
 .cases J
def Hw:bW X (.type "int") (RBM X.K (aC .intOf)):=by
 intro pins s σ H xs us Q I r h;refine ax λY J=>?_
 obtain⟨O,vs,v,Z,U,e,q⟩:=h;obtain⟨x,rfl⟩:=du e (.inl rfl);obtain⟨u,rfl,z⟩:=p1 U;refine J ?_;cases x<;>simp[aC,cf,hW]at e<;>try (cases e;done)
 .cases e;have:=z.bl;subst this;exact oM pins s σ H _ us Q I r (.inr ⟨_,rfl,q _ H (aj.refl H) (bZ _ _)⟩)
 .cases e;have:=z.int;subst this;exact oM pins s σ H _ us Q I r (.inl ⟨_,rfl,q _ H (aj.refl H) (bZ _ _)⟩)
theorem two_of{f:PV->PV->Option PV}{vs:List PV}{v:PV}(h:lH vs f=some v):∃x y,vs=[x,y]/\f x y=some v:=by
 match vs,h with
 | [x,y],h=>exact⟨x,y,rfl,h⟩
def l5(h:hW x=some ys):x=.lst ys:=by
 cases x<;>cases h
 rfl
def E7 (J:dq b=some c):bW X (.builtin "isinstance") (λus H Q=>∃O v u,us=[u,.ty c]/\isD v=false/\bp X.K H O v u/\Q (.bl (isT b v)) H):=by
 intro pins s σ H xs us Q I r h;obtain⟨O,v,x,rfl,nd,U,q⟩:=h;obtain⟨u,t,rfl,Y,rc⟩:=G0 r;have Z:=rc;subst Z;have fin:∀z tk,z=isT b v->EP X pins σ Q (.bool z) { s with toks:=tk }:=λz tk e=>⟨.bl z,H,I.tok tk,rfl,by rw[e];exact q⟩
 cases v with
 |dI _=>cases nd
 |non =>
  have e:=U.non;subst e;cases (show u=Value.none from Y);cases b<;>simp only[dq,ti,reduceCtorEq]at J<;>subst J <;>
   exact PySem.W.kia_one PySem.W.kitx_none I.kIn True.intro (b:=false) (by first|rfl|kernel_rfl|decide) (λz=>nomatch z) λtk=>fin _ tk rfl
 |bl y =>
  have e:=U.bl;subst e;cases (show u=Value.bool y from Y);cases b<;>simp only[dq,ti,reduceCtorEq]at J<;>subst J<;>first
   |exact PySem.W.kia_one PySem.W.kitx_bool I.kIn True.intro (b:=true) (by first|rfl|kernel_rfl|decide) (λz=>nomatch z) λtk=>fin _ tk rfl
   |exact PySem.W.kia_one PySem.W.kitx_bool I.kIn True.intro (b:=false) (by first|rfl|kernel_rfl|decide) (λz=>nomatch z) λtk=>fin _ tk rfl
 |int y =>
  have e:=U.int;subst e;obtain⟨t,z⟩:=(show ∃t,u=Value.int y t from Y);cases z;cases b<;>simp only[dq,ti,reduceCtorEq]at J<;>subst J<;>first
   |exact PySem.W.kia_one PySem.W.kitx_int I.kIn True.intro (b:=true) (by first|rfl|kernel_rfl|decide) (λz=>nomatch z) λtk=>fin _ tk rfl
   |exact PySem.W.kia_one PySem.W.kitx_int I.kIn True.intro (b:=false) (by first|rfl|kernel_rfl|decide) (λz=>nomatch z) λtk=>fin _ tk rfl
 |str y =>
  have e:=U.str;subst e;obtain⟨t,z⟩:=(show ∃t,u=Value.str y t from Y);cases z;cases b<;>simp only[dq,ti,reduceCtorEq]at J<;>subst J<;>first
   |exact PySem.W.kia_one PySem.W.kitx_str I.kIn True.intro (b:=true) (by first|rfl|kernel_rfl|decide) (λz=>nomatch z) λtk=>fin _ tk rfl
   |exact PySem.W.kia_one PySem.W.kitx_str I.kIn True.intro (b:=false) (by first|rfl|kernel_rfl|decide) (λz=>nomatch z) λtk=>fin _ tk rfl
 |lst ys =>
  obtain⟨a,us,rfl,s1,t1⟩:=U.lst;cases (show u=Value.ref a from Y);obtain⟨its,_,p,_⟩:=I.list s1;obtain⟨o,h1,h2,_⟩:=p.isList;cases b<;>simp only[dq,ti,reduceCtorEq]at J<;>subst J<;>first
   |exact PySem.W.kia_one PySem.W.kitx_list I.kIn ⟨o,h1,h2⟩ (b:=true) (by first|rfl|kernel_rfl|decide) (λz=>nomatch z) λtk=>fin _ tk rfl
   |exact PySem.W.kia_one PySem.W.kitx_list I.kIn ⟨o,h1,h2⟩ (b:=false) (by first|rfl|kernel_rfl|decide) (λz=>nomatch z) λtk=>fin _ tk rfl
 |tup ys =>
  obtain⟨a,us,rfl,s1,t1⟩:=U.tup;cases (show u=Value.ref a from Y);obtain⟨its,_,p,_⟩:=I.tuple s1;obtain⟨o,h1,h2,_⟩:=p;cases b<;>simp only[dq,ti,reduceCtorEq]at J<;>subst J<;>first
   |exact PySem.W.kia_one PySem.W.kitx_tuple I.kIn ⟨o,h1,h2⟩ (b:=true) (by first|rfl|kernel_rfl|decide) (λz=>nomatch z) λtk=>fin _ tk rfl
   |exact PySem.W.kia_one PySem.W.kitx_tuple I.kIn ⟨o,h1,h2⟩ (b:=false) (by first|rfl|kernel_rfl|decide) (λz=>nomatch z) λtk=>fin _ tk rfl
theorem jo{K:NF} :∀{bs:List Bool}{us}{its},Reps K F (bs.map .bl) us->aG us its->its=bs.map Value.bool
 | [],_,_,h,w=>by rw[map_nil,Reps]at h;subst h;cases w;rfl
 |b::bs,_,_,h,w=>by
  obtain⟨u,r,rfl,q,t⟩:=h;subst q;cases w with
  |cons z J =>
   cases z;rw[jo t J];rfl
def xj(bs:List Bool):(range bs.length).all (λi=>bs.getD i false)=bs.all id:=by
 conv=>rhs;rw[<- Srt.iP bs false]
 rw[MP]
 rfl
def xk(bs:List Bool):(range bs.length).any (λi=>bs.getD i false)=bs.any id:=by
 conv=>rhs;rw[<- Srt.iP bs false]
 rw[List.any_map]
 rfl
def lj(bs:List Bool):TruthOf P w A (λi v=>(bs.map Value.bool).toArray[i]?=some v) (λi=>bs.getD i false):=by
 intro i v s Q E h q;simp only[getElem?_toArray,Kc,pe]at h;obtain⟨b,e,rfl⟩:=h;have:bs.getD i false=b:=by rw[Lr,e];rfl
 have z:Q (bs.getD i false) s:=q;rw[this]at z;exact K4 z
def Hx (hc:X.calm=true):bW X (.builtin "any") (RBM X.K (aC .any)):=by
 intro pins s σ H xs us Q I r h;refine ax λZq U=>?_
 obtain⟨O,vs,v,hO,Y,e,q⟩:=h;obtain⟨x,rfl⟩:=du e (.inl rfl);obtain⟨u,rfl,Z⟩:=p1 Y;simp[aC,cf,gf,pe]at e;obtain⟨ys,e0,bs,e,rfl⟩:=e;obtain rfl:=l5 e0;have:=kH e;subst this;obtain⟨a,ws,rfl,s1,t1⟩:=Z.lst;obtain⟨u,rfl,ru⟩:=d_ r;cases ru;obtain⟨its,r',z,hz⟩:=I.list s1;have:=jo t1 r';subst this;have J:a<s.heap.objs.size:=by obtain⟨o,ho,_⟩:=z.isList;exact tf ho
 refine U ?_;refine call_any_walk (LU z.isList ?_);refine⟨s.heap.objs.size,_,_,_,_,_,λi=>bs.getD i false,rfl,Walks.list (by first|exact I.ok.hd hc|simpa using I.ok.hd hc) s.heap.objs.size a (JW J) (bs.map Value.bool).toArray,⟨⟨_,tr _ rfl,rfl,rfl⟩,z.isList.push _⟩,lj bs,λh' tk hk=>?_⟩;have e2:(range (bs.map Value.bool).toArray.size).any (λi=>bs.getD i false)=bs.any id:=by
  rw[r4,p0];exact xk bs
 rw[e2];refine⟨.bl _,H,?_,rfl,q _ H (aj.refl H) (d6 _ _)⟩;refine I.kept λb o e=>hk b o ?_ (iA _ e)
 intro hm;have hb:=tf e
 simp_all
def Hy (hc:X.calm=true):bW X (.builtin "all") (RBM X.K (aC .all)):=by
 intro pins s σ H xs us Q I r h;refine ax λZq U=>?_
 obtain⟨O,vs,v,hO,Y,e,q⟩:=h;obtain⟨x,rfl⟩:=du e (.inl rfl);obtain⟨u,rfl,Z⟩:=p1 Y;simp only[aC,cf,gf,pe]at e;obtain⟨ys,e0,bs,e,rfl⟩:=e;obtain rfl:=l5 e0;have:=kH e;subst this;obtain⟨a,ws,rfl,s1,t1⟩:=Z.lst;obtain⟨u,rfl,ru⟩:=d_ r;cases ru;obtain⟨its,r',z,hz⟩:=I.list s1;have:=jo t1 r';subst this;have J:a<s.heap.objs.size:=by obtain⟨o,ho,_⟩:=z.isList;exact tf ho
 refine U ?_;refine call_all_walk (LU z.isList ?_);refine⟨s.heap.objs.size,_,_,_,_,_,λi=>bs.getD i false,rfl,Walks.list (by first|exact I.ok.hd hc|simpa using I.ok.hd hc) s.heap.objs.size a (JW J) (bs.map Value.bool).toArray,⟨⟨_,tr _ rfl,rfl,rfl⟩,z.isList.push _⟩,lj bs,λh' tk hk=>?_⟩;have e2:(range (bs.map Value.bool).toArray.size).all (λi=>bs.getD i false)=bs.all id:=by
  rw[r4,p0];exact xj bs
 rw[e2];refine⟨.bl _,H,?_,rfl,q _ H (aj.refl H) (d6 _ _)⟩;refine I.kept (t':=tk) λb o e=>hk b o ?_ (iA _ e)
 intro hm;have hb:=tf e
 simp_all
theorem lm(ns:List Int):∀k,k<=ns.length->preSum (λi=>ns.getD i 0) k=(ns.take k).sum
 |0,_=>by simp[preSum]
 |k+1,h=>by
  have e:ns.take (k+1)=ns.take k++[ns.getD k 0]:=by
   rw[take_succ,Lr,J1 (by omega)]
   rfl
  rw[preSum,lm ns k (by omega),e,sum_append];simp
def Hz (hc:X.calm=true):bW X (.builtin "sum") (RBM X.K (aC .sum)):=by
 intro pins s σ H xs us Q I r h;obtain⟨O,vs,v,hO,rs,e,q⟩:=h;obtain⟨x,rfl⟩:=du e (.inl rfl)
 .refine ax λZq kq=>?_
  simp only[aC,cf,gf,pe]at e;obtain⟨ys,e9,ns,e0,rfl⟩:=e;obtain rfl:=l5 e9;have:=dl e0;subst this;obtain⟨u,rfl,rx⟩:=p1 rs;obtain⟨a,ws,rfl,s1,t1⟩:=rx.lst;have:=t1.ints;subst this;obtain⟨u,rfl,ru⟩:=d_ r;cases ru;obtain⟨its,r',Y,hz⟩:=I.list s1;have ia:=cX r';have hl:=r'.length;rw[p0]at hl;have J:a<s.heap.objs.size:=by obtain⟨o,ho,_⟩:=Y.isList;exact tf ho
  have hh:X.A.in1.handled=none:=by simpa using I.ok.hd hc
  refine kq ?_;refine call_sum_walkAnyS (LU Y.isList ⟨s.heap.objs.size,_,_,_,_,_,_,λi=>ns.getD i 0,rfl,(Walks.list hh s.heap.objs.size a (JW J) its.toArray).toS,⟨⟨_,tr _ rfl,rfl,rfl⟩,Y.isList.push _⟩,λb hb=>?_,λi v hv=>St.lQ (items:=its.toArray) (by simpa using ia) i v hv,λs' t' U=>?_⟩)
  .simp only[wh,Lk,Mc]at hb;rw[Kf];rcases hb with rfl|rfl
   .simp_all
   .exact Ko J
  .obtain⟨h',g',d',tk,Z⟩:=s';have e1:g'=s.gens:=U.gens;have e2:d'=s.drawn:=U.drawn;have e3:Z=s.os:=U.os;subst e1 e2 e3;rw[r4,<- hl,lm ns ns.length (pb _),take_length];refine⟨.int ns.sum,H,I.kept (t':=tk) λb o eb=>U.heap b o (λz=>?_) (iA _ eb),⟨_,rfl⟩,q _ H (aj.refl H) (bZ _ _)⟩;rw[J8.mp z]at eb;exact absurd (tf eb) (Ku _)
def pg:∀{ns}{m},ze ns=some m->m∈ns/\∀x∈ns,x<=m
 |n::ns,m,h=>by
  have gen:∀l (a:Int),(l.foldl (λa b=>if a<b then b else a) a∈a::l)/\a<=l.foldl (λa b=>if a<b then b else a) a/\∀x∈l,x<=l.foldl (λa b=>if a<b then b else a) a:=by
   intro l
   induction l with
   |nil=>intro a;exact⟨.head _,Mi _,λx hx=>by cases hx⟩
   |cons b l ih =>
    intro a;obtain⟨h1,h2,z⟩:=ih (if a<b then b else a);rw[foldl_cons];refine⟨?_,?_,λx hx=>?_⟩
    .rcases wh.mp h1 with e|e
     .rw[e];split
      .exact .tail _ (.head _)
      .exact .head _
     .exact .tail _ (.tail _ e)
    .exact L8 (by split<;>omega) h2
    .rcases wh.mp hx with rfl|hx
     .exact L8 (by split<;>omega) h2
     .exact z x hx
  obtain⟨h1,h2,z⟩:=gen ns n;cases h;exact⟨h1,λx hx=>by
   rcases wh.mp hx with rfl|hx
   .exact h2
   .exact z x hx⟩
def E8 (hc:X.calm=true):bW X (.builtin "max") (RBM X.K (aC .max1)):=by
 intro pins s σ H xs us Q I r h;refine ax λZq kq=>?_
 obtain⟨O,vs,v,hO,rs,e,q⟩:=h;obtain⟨x,rfl⟩:=du e (.inl rfl);simp only[aC,cf,gf,pe]at e;obtain⟨ys,e9,ns,e0,m,em,rfl⟩:=e;obtain rfl:=l5 e9;have:=dl e0;subst this;obtain⟨u,rfl,rx⟩:=p1 rs;obtain⟨a,ws,rfl,s1,t1⟩:=rx.lst;have:=t1.ints;subst this;obtain⟨u,rfl,ru⟩:=d_ r;cases ru;obtain⟨its,Z,pl,hz⟩:=I.list s1;have ia:=cX Z;have hl:=Z.length;rw[p0]at hl;obtain⟨J,b5⟩:=pg em;have ar:=length_pos_iff.mpr (ne_nil_of_mem J);obtain⟨zs,U⟩:=ia.allInts.items;have cd:zs.size=ns.length:=by
  have:=Kn Array.size U;simp[intItems]at this;omega
 have num:∀i,i<ns.length->numAt zs i=ns.getD i 0:=λi hi=>by
  have h1:(intItems zs)[i]?=some (.int (zs[i]'(by omega)).1 (zs[i]'(by omega)).2):=by simp[intItems,show i<zs.size by omega]
  obtain⟨t,e1⟩:=intItems_at h1;obtain⟨t',e2⟩:=St.lQ (items:=its.toArray) (by simpa using ia) i _ (by rw[U];exact h1)
  simp_all
 have z:s.heap.IsList a (intItems zs):=by rw[<- U];exact pl.isList
 refine kq ?_;refine max_intList (I.ok.hd hc) z (by omega) λv h' tk hv hk=>?_
 obtain⟨t,rfl⟩:=intItems_at hv;obtain⟨b1,b2⟩:=argBest_gt (numAt zs) (zs.size-1);generalize argBest (λi j=>decide (numAt zs i > numAt zs j)) (zs.size-1)=k at b1 b2;have Y:k<ns.length:=by omega
 have e1:numAt zs k=m:=by
  refine Int.le_antisymm ?_ ?_
  .rw[num k Y]
   simp_all
  .obtain⟨j,hj,rfl⟩:=getElem_of_mem J;have:=b2 j (by omega);rw[num j hj,Lr,J1 hj]at this;exact this
 rw[e1];exact⟨.int m,H,I.kept (t':=tk) hk,⟨_,rfl⟩,q _ H (aj.refl H) (bZ _ _)⟩
def vG (hc:X.calm=true):bW X (.type "set") (λus H Q=>∃O v u ns,us=[u]/\bp X.K H O v u/\((a7 v).bind a8)=some ns/\ns.length<=4000/\∀l,H l=none->Q (.ref l) (upd H l (i6 X.prog X.w l (St.dd ns.reverse)))):=by
 intro pins s σ H xs us Q I r h;obtain⟨O,v,u,ns,rfl,J,e,z,q⟩:=h;simp only[gf]at e;obtain⟨ys,U,Y⟩:=e;obtain⟨a,ws,rfl,Z,t1⟩:=J.seq U;have:=dl Y;subst this;have e3:=t1.ints;subst e3;exact yP hc pins s σ H _ us Q I r ⟨a,ns,rfl,Z,z,λl hl=>q l hl⟩
def rV (hc:X.calm=true):bW X (.builtin "sorted") (λus H Q=>∃l ks,us=[.ref l]/\H l=some (i6 X.prog X.w l ks)/\ks.length<64/\∀p,H p=none->Q (.ref p) (upd H p (.lst ((Srt.sortI ks).map V.int)))):=by
 intro pins s σ H xs us Q I r h;obtain⟨l,ks,rfl,e,z,q⟩:=h;exact jJ hc pins s σ H _ us Q I r ⟨l,ks,rfl,.inr (.inr e),z,q⟩
end
end MM
namespace L2
open PySem PySem.Spec PyProof.Rows List Option
def Inv.turned2(I:Inv X pins σ H s)(he:s.heap.get? e=some J)(hf:J.isFreed=false)(Z:∃o,h'.get? e=some o)
  (k:∀b o,b≠e->b≠it->s.heap.get? b=some o->h'.get? b=some o) (fe:km X pins H e) (fi:km X pins H it):Inv X pins σ H { s with heap:=h',toks:=t' }:=by
 obtain⟨o',ao⟩:=Z;obtain⟨a0,a1,a2,a3,a4,a5⟩:=fe;obtain⟨b0,b1,b2,b3,b4,b5⟩:=fi;have ar:(h'.update e λ_=>J).get? e=some J:=Kx _ ao hf;have U:∀b,b≠e->(h'.update e λ_=>J).get? b=h'.get? b:=λb Y=>(Km h' e _).2 b Y
 have I1:Inv X pins σ H { s with heap:=h'.update e λ_=>J,toks:=t' }:=I.turned (it:=it) (λb o Y q=>by
  by_cases z:b=e
  .subst z;rw[ar,<- he];exact q
  .rw[U b z];exact k b o z Y q) b0 b1 b3 b4 b5
 exact Inv.turned (s:={ s with heap:=h'.update e λ_=>J,toks:=t' }) (it:=e) I1 (λb o Y q=>by
  have q:=q;rw[U b Y]at q;exact q) a0 a1 a3 a4 a5
noncomputable def Ite(q:Hp->List V->Prop):It:=
 ⟨λi H=>∃xs,q H xs/\i<xs.length,λi H x H'=>∃p,x=.ref p/\H p=none/\∃u,H'=upd H p (.tup [.int i,u])/\∀xs,q H xs->xs[i]?=some u,λi H=>∃xs,q H xs/\i=xs.length⟩
structure Src(P:Program)(w:World)(K:NF)(a it:Addr)(q:Hp->List V->Prop)(r:Nat->Heap->Prop):Prop where
 ne:a≠it
 keep:∀i h h',r i h->(∀o,h.get? it=some o->h'.get? it=some o)->r i h'
 live:∀i h,r i h->∃o,h.get? it=some o/\∀v,o.data≠.cell v
 one:∀(X:Cx),X.K=K->∀(pins:List (Addr×Obj)) (s:Shared) (σ:St) (H:Hp) (xs ys:List V),Inv X pins σ H s->q H xs->q H ys->xs=ys
 row:∀(X:Cx),X.prog=P->X.w=w->X.K=K->∀(pins:List (Addr×Obj)) (s:Shared) (σ:St) (H:Hp) (xs:List V),Inv X pins σ H s->q H xs->∃(its:List Value),aG xs its/\∀(A:Around),A.handled=none ->
  ∃St:Nat->Heap->Prop,Draws P w A it [it,a] its.length (λi v=>its[i]?=some v) St/\(∀i,r i s.heap->St i s.heap)/\∀i h,St i h->r i h
def zC{K:NF}(S:Src P w K a it q r)(ao:e≠it)(bB:e≠a) :
  qW P w K (.Tuple ts j tp) (Ite q) [e,it] e (λi h=>(∃old,IsEnum h e it (i:Nat) old)/\r i h) where
 mem:=.head _
 obj:=λi h st b J=>by
  obtain⟨⟨old,U⟩,Y⟩:=st;rcases wh.mp J with rfl|J
  .exact⟨_,U,λv z=>by cases z⟩
  .have z:b=it:=by simpa using J
   subst z;exact S.live i h Y
 keep:=λi h h' ⟨⟨old,U⟩,Y⟩ k=>⟨⟨old,k e (.head _) _ U⟩,S.keep i h h' Y (k it (.tail _ (.head _)))⟩
 item:=by
  intro X hP hw hK hc i pins s σ H E I hf st hg;obtain⟨⟨old,U⟩,Y⟩:=st;obtain⟨xs,hq,hi⟩:=hg;obtain⟨its,rv,dr⟩:=S.row X hP hw hK pins s σ H xs I hq;have hh:=I.ok.hd hc;obtain⟨St,D,Z,ar⟩:=dr X.A.in1 (by simpa using hh);have hl:=rv.length;have fe:=hf e (.head _);have fi:=hf it (.tail _ (.head _));refine wpAny_pyNext_enum_itemD D U (Z i Y) (by omega) ao (by simp only[wh,Lk,Mc,not_or];exact⟨ao,bB⟩) λx h' tk px eo b4 tup sz kp=>?_
  refine⟨_,rfl,wpAny_letOwnedTupleGo_enum eo λh2 aO a0=>?_⟩;have hx:=hi;obtain⟨u,hu,ru⟩:=rv.get (J1 hx);have ex:x=u:=by
   have:=px.symm.trans hu;simpa using this
  subst ex;have fresh:=I.hok.fresh (pb _);have ne:∀b o,s.heap.get? b=some o->b≠s.heap.objs.size:=λb o q z=>Ku _ (by have:=tf q;rw[z]at this;exact this)
  have en:=ne _ _ U;obtain⟨oi,b5,_⟩:=S.live i _ Y;have a1:=ne _ _ b5;have I1:Inv X pins σ (upd H s.heap.objs.size (.tup [.int i,xs[i]])) { s with heap:=s.heap.push { cls:=.type "tuple",data:=.seq #[.int i tk,x] } }:=
   I.laid (t':=s.toks) (λb o q=>iA _ q) (pb _) ⟨by show 2<=sizeLine;decide,_,.cons ⟨_,rfl⟩ (.cons ru .nil),IsTup.new _ _⟩
  have up:∀b,b≠s.heap.objs.size->km X pins H b->km X pins (upd H s.heap.objs.size (.tup [.int i,xs[i]])) b:=λb J ⟨z,r⟩=>⟨by rw[aX J];exact z,r⟩
  have I2:=I1.turned2 (h':=h2) (t':=tk+1) (e:=e) (it:=it) (iA _ U) rfl ⟨_,aO⟩ (λb o a2 cd q=>?_) (up e en fe) (up it a1 fi)
  .refine⟨.ref s.heap.objs.size,_,I2,rfl,⟨_,rfl,fresh,_,rfl,λys hy=>?_⟩,⟨⟨_,by simpa using aO⟩,?_⟩,λb J=>?_⟩
   .rw[S.one X hK pins s σ H ys xs I hy hq];exact J1 hx
   .refine ar _ _ (D.frame _ _ _ b4 λb J o q=>?_);rw[a0.2 b λz=>?_]
    .exact q
    .simp_all
   .rcases wh.mp J with rfl|J
    .exact(up b en fe).1
    .have z:b=it:=by simpa using J
     subst z;exact(up b a1 fi).1
  .rw[a0.2 b a2];rcases Heap.get?_push_cases q with⟨rfl,rfl⟩|q
   .exact tup
   .exact kp b o a2 cd q
 done:=by
  intro X hP hw hK hc i pins s σ H E I hf st hg;obtain⟨⟨old,U⟩,Y⟩:=st;obtain⟨xs,hq,hi⟩:=hg;obtain⟨its,rv,dr⟩:=S.row X hP hw hK pins s σ H xs I hq;have hh:=I.ok.hd hc;obtain⟨St,D,Z,ar⟩:=dr X.A.in1 (by simpa using hh);have hl:=rv.length;obtain⟨f0,f1,f2,f3,f4,f5⟩:=hf it (.tail _ (.head _));have e:i=its.length:=by omega
  subst e;exact wpAny_pyNext_enum_endD D U (Z _ Y) λh' eb=>⟨rfl,I.turned (t':=s.toks) (λb o J q=>eb b o J q) f0 f1 f3 f4 f5⟩
 self:=λ_ i s Q E ⟨⟨old,U⟩,_⟩ h=>wpAny_pyIter_enum U h
def zD{K:NF}(ne:a≠it):Src P w K a it (λH xs=>SqL K H a xs) (λi h=>h.IsListIter it a i) where
 ne:=ne
 keep:=λi h h' ⟨o,ho,r⟩ k=>⟨o,k o ho,r⟩
 live:=λi h ⟨o,ho,_,hd⟩=>⟨o,ho,λv z=>by rw[hd]at z;cases z⟩
 one:=λX J pins s σ H xs ys I h h'=>by subst J;exact I.list_inj h h'
 row:=λX U hw J pins s σ H xs I h=>by
  subst U hw J;obtain⟨its,Y,p,_⟩:=I.list h;refine⟨its,Y,λA Z=>⟨λi h=>h.IsListIter it a i/\h.IsList a its.toArray,?_,λi st=>⟨st,p.isList⟩,λi h' st=>st.1⟩⟩;simpa using Draws.list (prog:=X.prog) (w:=X.w) Z it a ne its.toArray
def Cn{K:NF}(ne:a≠it):Src P w K a it (λH xs=>SqT K H a xs) (λi h=>h.IsTupleIter it a i) where
 ne:=ne
 keep:=λi h h' ⟨o,ho,r⟩ k=>⟨o,k o ho,r⟩
 live:=λi h ⟨o,ho,_,hd⟩=>⟨o,ho,λv z=>by rw[hd]at z;cases z⟩
 one:=λX J pins s σ H xs ys I h h'=>by subst J;exact I.tuple_inj h h'
 row:=λX U hw J pins s σ H xs I h=>by
  subst U hw J;obtain⟨its,Y,p,_⟩:=I.tuple h;refine⟨its,Y,λA Z=>⟨λi h=>h.IsTupleIter it a i/\h.IsTuple a its.toArray,?_,λi st=>⟨st,(show s.heap.IsTuple a its.toArray from p)⟩,λi h' st=>st.1⟩⟩;simpa using En.draws (P:=X.prog) (w:=X.w) Z it a ne its.toArray
noncomputable def Jx(K:NF)(tl:TE):TI:=λσ H R=>tl σ H λx H1=>∃a,x=.ref a/\(((∃xs,SqL K H1 a xs)/\R (Ite λH xs=>SqL K H a xs) H1)\/((∃xs,SqT K H1 a xs)/\R (Ite λH xs=>SqT K H a xs) H1))
def rW{σ:St}{H:Hp}{s:Shared}{E:Value->Shared->Prop}{h':Heap}{U:List Expr}{j:Nat}{Y:Pos}{a:Addr}{q:Hp->List V->Prop}{r:Nat->Heap->Prop}{R:It->Hp->Prop}(I:Inv X pins σ H s)(Z:a<s.heap.objs.size)
  (S:Src X.prog X.w X.K a s.heap.objs.size q r) (J:IsEnum h' (s.heap.objs.size+1) s.heap.objs.size 0 .none) (hr:r 0 h') (k:∀b o,s.heap.get? b=some o->h'.get? b=some o) (hR:R (Ite q) H) :
  wpAny (model X.prog X.w) X.A (pyIter (.ref (s.heap.objs.size+1))) (PIE X pins σ (.Tuple U j Y) R) E { s with heap:=h' }:=by
 have I1:=I.kept (t':=s.toks) k;refine wpAny_pyIter_enum (s:={ s with heap:=h' }) J ⟨s.heap.objs.size+1,[s.heap.objs.size+1,s.heap.objs.size],_,_,H,rfl,I1,zC S (Nat.succ_ne_self _) (KS (Ko Z)),⟨⟨_,J⟩,hr⟩,λb z=>?_,hR⟩;have z:s.heap.objs.size<=b:=by
  simp only[wh,Lk,Mc]at z;rcases z with rfl|rfl
  .exact LA _
  .exact pb _
 exact I.fpOk z (I.hok.fresh z)
def zE (hg:Gl X "enumerate") (hm:X.mg "enumerate"=none) (hl:PE X l tl) (hs:starEach [l] X.env=[(false,eval l X.env)]:=by rfl) :
  PI X (.Tuple ts j tp) (.Call (.Name "enumerate" p) [l] [] pos) (Jx X.K tl):=by
 intro pins s σ H R I h;refine Call_ (gC I hg hm PyProof.Rows.boot_enumerate (Kw (thn (aK hl bF hs pos pins s σ H (λvs H1=>match vs with
  | [x]=>∃a,x=.ref a/\(((∃xs,SqL X.K H1 a xs)/\R (Ite λH xs=>SqL X.K H a xs) H1)\/((∃xs,SqT X.K H1 a xs)/\R (Ite λH xs=>SqT X.K H a xs) H1))
  | _=>False) I h) λus s1 ⟨vs,H1,J,r1,U⟩=>?_) hs rfl))
 cases r1 with
 |nil=>exact U.elim
 |cons r rr =>
  cases rr with
  |cons _ _=>exact U.elim
  |nil =>
   obtain⟨a,e,q⟩:=U;subst e;cases r;rcases q with⟨⟨xs,Y⟩,q⟩|⟨⟨xs,Y⟩,q⟩
   .obtain⟨its,_,pl,_⟩:=J.list Y;have z:=let ⟨o,ho,_⟩:=pl.isList;tf ho
    exact call_enumerate_list pl.isList λh' Z it _ k=>rW J z (zD (JW z)) Z it k q
   .obtain⟨its,_,pt,_⟩:=J.tuple Y;have z:=let ⟨o,ho,_⟩:=pt;tf ho
    exact En.call_tup pt λh' Z it _ k=>rW J z (Cn (JW z)) Z it k q
end L2
namespace MM
open PySem PySem.Spec PyProof.Rows L2 List Option
structure lI(K:NF)(J:It)(xs:List PV)(V G:Hp):Prop where
 stop:∀H',aj G H'->J.stop xs.length H'
 go:∀(i:Nat) x H',aj G H'->xs[i]?=some x->J.go i H'
 yld:∀(i:Nat) x H' u H2,aj G H'->xs[i]?=some x->J.yld i H' u H2->aj H' H2/\∀O',(∀a∈O',H' a≠none)->aj V (aw H2 O')->Rep K (aw H2 O') x u
def lI.weak{K:NF}{V G z:Hp}(h:lI K J xs V G)(s:aj G z):lI K J xs V z:=
 ⟨λH' s'=>h.stop H' (s.trans s'),λi x H' s'=>h.go i x H' (s.trans s'),λi x H' u H2 s'=>h.yld i x H' u H2 (s.trans s')⟩
noncomputable def bh(ms:List ME)(W:Rho)(σ:St):List Addr:=match ms with
 | [.bor i]=>(match (W[i]?).join,(σ[i]?).join with|some (.own _),some (.ref a)=>[a]|_,_=>[])
 | _=>[]
noncomputable def a9(B:Hp)(O:List Addr)(H:Hp)(L:List Addr):Hp:=λb=>if b∈O then(if b∈L then H b else B b)else H b
section
variable{K:NF}{B H:Hp}{O L:List Addr}
def m5(s:aj B H):aj (a9 B O H L) H:=λb u e=>by
 unfold a9 at e;split at e
 .split at e
  .exact e
  .exact s b u e
 .exact e
def dU(s:aj B H):aj B (a9 B O H L):=λb u e=>by
 unfold a9;split
 .split
  .exact s b u e
  .exact e
 .exact s b u e
def cc:aj (aw H O) (a9 B O H L):=λb u e=>by
 have J:b∉O:=λz=>by rw[eE z]at e;cases e
 unfold a9;rw[if_neg J];rw[aV J]at e;exact e
end
def l6{K:NF}{V G:Hp}(h:SqL K G a us)(r:Reps K V xs us):lI K (Itl K a) xs V G where
 stop:=λH' s=>⟨us,s.seq h,L4 r.length.symm⟩
 go:=λi x H' s e=>by
  obtain⟨u,z,_⟩:=r.get e;exact⟨us,u,s.seq h,z⟩
 yld:=λi x H' u H2 s e y=>by
  obtain⟨rfl,y⟩:=y;obtain⟨w,z,q⟩:=r.get e;have J:=y us (s.seq h);rw[z]at J;cases J;exact⟨aj.refl _,λU _ sv=>Rep.mono sv _ q⟩
def zF{K:NF}{V G:Hp}(h:SqT K G a us)(r:Reps K V xs us):lI K (Itt K a) xs V G where
 stop:=λH' s=>⟨us,s.seqT h,L4 r.length.symm⟩
 go:=λi x H' s e=>by
  obtain⟨u,z,_⟩:=r.get e;exact⟨us,u,s.seqT h,z⟩
 yld:=λi x H' u H2 s e y=>by
  obtain⟨rfl,y⟩:=y;obtain⟨w,z,q⟩:=r.get e;have J:=y us (s.seqT h);rw[z]at J;cases J;exact⟨aj.refl _,λU _ sv=>Rep.mono sv _ q⟩
def m6{K:NF}{V G:Hp}{lo:Int} :lI K (Itr lo n) ((range n).map λ(k:Nat)=>.int (lo+k)) V G where
 stop:=λH' s=>by simp[Itr]
 go:=λi x H' s e=>by
  have:=(G1.mp e).1;simpa[Itr]using this
 yld:=λi x H' u H2 s e y=>by
  obtain⟨rfl,rfl⟩:=y;refine⟨aj.refl _,λz _ sv=>?_⟩;have hi:i<n:=by have:=(G1.mp e).1;simpa using this
  rw[Kc,getElem?_range hi]at e;cases e;rw[Rep]
def E9{K:NF}{V G:Hp}{lo:Int}{n:Nat}:lI K (It2 lo n) ((range n).map λ(k:Nat)=>.int (lo+k*2)) V G where
 stop:=λH' s=>by simp[It2]
 go:=λi x H' s e=>by
  have:=(G1.mp e).1;simpa[It2]using this
 yld:=λi x H' u H2 s e y=>by
  obtain⟨rfl,rfl⟩:=y;refine⟨aj.refl _,λz _ sv=>?_⟩;have hi:i<n:=by have:=(G1.mp e).1;simpa using this
  rw[Kc,getElem?_range hi]at e;cases e;rw[Rep]
def E_{K:NF}(J:∀a∈O,H a≠none)(U:H p=none)(h:Reps K (aw (upd H p (.tup us)) O) xs us):Rep K (aw (upd H p (.tup us)) O) (.tup xs) (.ref p):=by
 refine⟨p,us,rfl,?_,h⟩;rw[aV λz=>J p z U];exact az ..
theorem vH:∀xs (k i:Nat),(bz k xs)[i]?=(xs[i]?).map λx=>.tup [.int ((k+i:Nat):Int),x]
 | [],k,i=>by simp[bz]
 |x::xs,k,0=>by simp[bz]
 |x::xs,k,i+1=>by
  rw[bz,getElem?_cons_succ,getElem?_cons_succ,vH xs (k+1) i,show k+1+i=k+(i+1)by omega]
theorem m7:∀xs k,(bz k xs).length=xs.length
 | [],_=>rfl
 |x::xs,k=>by rw[bz,length_cons,length_cons,m7 xs]
def kM{K:NF}{V G:Hp}{q:Hp->List L2.V->Prop}{xs:List PV}{us:List L2.V}(h:∀H',aj G H'->q H' us)(r:Reps K V xs us):lI K (Ite q) (bz 0 xs) V G where
 stop:=λH' s=>⟨us,h H' s,by rw[m7];exact r.length⟩
 go:=λi x H' s e=>by
  refine⟨us,h H' s,?_⟩;have:=(G1.mp e).1;rw[m7]at this;rw[<- r.length];exact this
 yld:=λi x H' u H2 s e y=>by
  refine ax λZq Y=>?_
  obtain⟨p,rfl,J,v,rfl,y⟩:=y;rw[vH]at e;obtain⟨z,Z,rfl⟩:=pe.mp e;obtain⟨w,e2,rz⟩:=r.get Z;have U:=y us (h H' s);rw[e2]at U;cases U;refine Y ?_;refine⟨aB J _,λO' hO sv=>?_⟩;rw[LF];refine E_ hO J (.cons (bZ _ _) (.cons (Rep.mono sv _ rz) .nil))
noncomputable def tW(K:NF)(cal:Cal)(k:Sk)(ms:List ME):TI:=λσ H R =>
 ∃B E O W vs xs,aE K B E O H W σ/\evs cal ms W=some vs/\bc k vs=some xs/\∀J H1,aj H H1->lI K J xs (aw H1 O) (a9 B O H1 (bh ms W σ))->R J H1
section
variable{X:Cx}{cal:Cal}{tg:Expr}
theorem PI.or(h:PI X tg e t)(g:PI X tg e u):PI X tg e (λσ H R=>t σ H R\/u σ H R):=λpins s σ H R I q=>q.elim (h pins s σ H R I) (g pins s σ H R I)
theorem gK:∀{ms}{W}{vs},evs cal ms W=some vs->vs.length=ms.length
 | [],_,_,h=>by simp[evs]at h;subst h;rfl
 |m::ms,_,_,h=>by
  simp[evs,gf]at h;obtain⟨v,_,w,z,rfl⟩:=h;simp[gK z]
def rX(h:evs cal [m] W=some vs):∃v,vs=[v]/\ev cal m W=some v:=by
 simp[evs,gf]at h;obtain⟨v,e,w,z,rfl⟩:=h
 simp_all
def ql{K:NF}(h:Rep K F v u)(e:a7 v=some xs):∃a us,u=.ref a/\Reps K F xs us/\((v=.lst xs/\SqL K F a us)\/(v=.tup xs/\SqT K F a us)):=by
 cases v<;>first|(simp[a7]at e;subst e;rw[Rep]at h;obtain⟨a,us,e,q,r⟩:=h;exact⟨a,us,e,r,.inl ⟨rfl,q⟩⟩)|(simp[a7]at e;subst e;rw[Rep]at h;obtain⟨a,us,e,q,r⟩:=h;exact⟨a,us,e,r,.inr ⟨rfl,d4 q⟩⟩)|simp[a7]at e
def HA(U:aH m=false)(h:PE X e (tE X.K cal m)):PI X tg e (tW X.K cal .seq [m]):=by
 refine(PI.or (uU h) (ye h)).imp λσ H R q=>?_
 obtain⟨B,E,O,W,vs,xs,st,e1,e2,q⟩:=q;obtain⟨v,rfl,Z⟩:=rX e1;have z:a7 v=some xs:=e2;have hl:bh [m] W σ=[]:=by cases m<;>first|rfl|cases U
 rw[hl]at q;cases v with
 |lst ys =>
  simp[a7]at z;subst z
  refine .inl ⟨B,E,O,W,_,st,Z,λu H' s g=>?_⟩;have r:=g.2 U;rw[Rep]at r;obtain⟨a,us,rfl,J,Y⟩:=r;exact⟨a,rfl,⟨us,(bR H' O).seq J⟩,q _ _ s (l6 (cc.seq J) Y)⟩
 |tup ys =>
  simp[a7]at z;subst z
  refine .inr ⟨B,E,O,W,_,st,Z,λu H' s g=>?_⟩;have r:=g.2 U;obtain⟨a,us,rfl,J,Y⟩:=r;exact⟨a,rfl,⟨us,(bR H' O).seqT (d4 J)⟩,q _ _ s (zF (cc.seqT (d4 J)) Y)⟩
 | _=>simp[a7]at z
def HB(h:aM X.N X.env.scope i x=true):PI X tg (.Name x pos) (tW X.K cal .seq [.bor i]):=by
 refine(PI.or (uU (bT h)) (ye (bT h))).imp λσ H R q=>?_
 refine ax λZq kq=>?_
 obtain⟨B,E,O,W,vs,xs,st,e1,e2,q⟩:=q;obtain⟨v,rfl,J⟩:=rX e1;have U:a7 v=some xs:=e2;rw[ev]at J;refine kq ?_;cases hj:(W[i]?).join with
 |none=>rw[hj]at J;cases J
 |some m =>
  rw[hj]at J;obtain⟨u,eu,so⟩:=aR st hj;cases m with
  |val w =>
   simp only[bC,ti]at J;subst J;have a0:=so;obtain⟨a,us,rfl,Z,z⟩:=ql a0 U;rcases z with⟨rfl,Y⟩|⟨rfl,Y⟩
   .exact .inl ⟨_,eu,a,rfl,⟨us,(bR H O).seq Y⟩,q _ _ (aj.refl H) (l6 (cc.seq Y) Z)⟩
   .exact .inr ⟨_,eu,a,rfl,⟨us,(bR H O).seqT Y⟩,q _ _ (aj.refl H) (zF (cc.seqT Y) Z)⟩
  |own ys =>
   simp only[bC,ti]at J;subst J;simp[a7]at U;subst U
   obtain⟨a,us,rfl,ha,Z,hO,_⟩:=so;refine .inl ⟨_,eu,a,rfl,⟨us,SqL.of ha⟩,q _ _ (aj.refl H) (l6 (SqL.of ?_) Z)⟩;have hl:bh [.bor i] W σ=[a]:=by simp[bh,hj,eu]
   unfold a9
   simp_all
  |brw ys =>
   simp only[bC,ti]at J;subst J;simp[a7]at U;subst U
   obtain⟨a,us,rfl,Y,Z⟩:=so;exact .inl ⟨_,eu,a,rfl,⟨us,st.keep.seq Y⟩,q _ _ (aj.refl H) (l6 ((dU st.keep).seq Y) Z)⟩
  |ownD ys =>
   have J:=vn J;subst J;simp[a7]at U
  |mutD ys =>
   have J:=vq J;subst J;simp[a7]at U
  |brwD ys =>
   have J:=vo J;subst J;simp[a7]at U
def HC (g:Gf X T k cal) (hf:f=("enumerate":Str)) (hg:glB X.env.scope f=true) (hs:ag e=true) (hb:aH m=false) (h:PE X e (tE X.K cal m)):PI X (.Tuple ts j tp) (.Call (.Name f p) [e] [] pos) (tW X.K cal .enm [m]):=by
 subst hf;have J:starEach [e] X.env=[(false,eval e X.env)]:=by cases e<;>first|rfl|(simp[ag]at hs)
 refine(zE (dh hg) (g.blt "enumerate" (by decide)) h J).imp λσ H R q=>?_
 obtain⟨B,E,O,W,vs,xs,st,e1,Z,q⟩:=q;obtain⟨v,rfl,e3⟩:=rX e1;simp[bc,pe]at Z;obtain⟨ys,e4,rfl⟩:=Z;refine⟨B,E,O,W,_,st,e3,λu H' s g=>?_⟩;obtain⟨a,us,rfl,rs,z⟩:=ql (g.2 hb) e4;rcases z with⟨_,U⟩|⟨_,U⟩
 .exact⟨a,rfl,.inl ⟨⟨us,(bR H' O).seq U⟩,q _ _ s (kM (λH2 Y=>Y.seq (cc.seq U)) rs)⟩⟩
 .exact⟨a,rfl,.inr ⟨⟨us,(bR H' O).seqT U⟩,q _ _ s (kM (λH2 Y=>Y.seqT (cc.seqT U)) rs)⟩⟩
def Fa (g:Gf X T k cal) (hf:f=("enumerate":Str)) (hg:glB X.env.scope f=true) (h:aM X.N X.env.scope i x=true):PI X (.Tuple ts j tp) (.Call (.Name f p) [.Name x px] [] pos) (tW X.K cal .enm [.bor i]):=by
 subst hf;refine(zE (dh hg) (g.blt "enumerate" (by decide)) (bT h) rfl).imp λσ H R q=>?_
 obtain⟨B,E,O,W,vs,xs,st,e1,e2,q⟩:=q;obtain⟨v,rfl,J⟩:=rX e1;simp only[bc,pe]at e2;obtain⟨zs,U,rfl⟩:=e2;rw[ev]at J;cases hj:(W[i]?).join with
 |none=>rw[hj]at J;cases J
 |some m =>
  rw[hj]at J;obtain⟨u,eu,so⟩:=aR st hj;cases m with
  |val w =>
   simp only[bC,ti]at J;subst J;have a1:=so;obtain⟨a,us,rfl,rs,z⟩:=ql a1 U;rcases z with⟨rfl,Y⟩|⟨rfl,Y⟩
   .exact⟨_,eu,a,rfl,.inl ⟨⟨us,(bR H O).seq Y⟩,q _ _ (aj.refl H) (kM (λH2 Z=>Z.seq (cc.seq Y)) rs)⟩⟩
   .exact⟨_,eu,a,rfl,.inr ⟨⟨us,(bR H O).seqT Y⟩,q _ _ (aj.refl H) (kM (λH2 Z=>Z.seqT (cc.seqT Y)) rs)⟩⟩
  |own ys =>
   simp only[bC,ti]at J;subst J;simp[a7]at U;subst U
   obtain⟨a,us,rfl,ha,rs,hO,_⟩:=so;have hl:bh [.bor i] W σ=[a]:=by simp[bh,hj,eu]
   have hG:a9 B O H (bh [.bor i] W σ) a=some (.lst us):=by
    unfold a9
    simp_all
   exact⟨_,eu,a,rfl,.inl ⟨⟨us,SqL.of ha⟩,q _ _ (aj.refl H) (kM (λH2 Z=>Z.seq (SqL.of hG)) rs)⟩⟩
  |brw ys =>
   simp only[bC,ti]at J;subst J;simp[a7]at U;subst U
   obtain⟨a,us,rfl,Y,rs⟩:=so;exact⟨_,eu,a,rfl,.inl ⟨⟨us,st.keep.seq Y⟩,q _ _ (aj.refl H) (kM (λH2 Z=>Z.seq ((dU st.keep).seq Y)) rs)⟩⟩
  |ownD ys =>
   have J:=vn J;subst J;simp[a7]at U
  |mutD ys =>
   have J:=vq J;subst J;simp[a7]at U
  |brwD ys =>
   have J:=vo J;subst J;simp[a7]at U
def p3{K:NF}{H:Hp}{O:List Addr}{x y z:PV}{us:List V}(h:Paired (bp K H O) [x,y,z] us):∃u v w,us=[u,v,w]/\bp K H O x u/\bp K H O y v/\bp K H O z w:=by
 cases h with
 |cons r t =>
  obtain⟨_,_,rfl,J,U⟩:=p2 t;exact⟨_,_,_,rfl,r,J,U⟩
abbrev Jy(as:List Expr):Prop:=(as.length=1\/as.length=2)\/as.length=3
def Co {T:Tab}{k:Nat}{ms:List ME}{args:List Expr}{f:Str}{p pos:Pos} (g:Gf X T k cal) (hf:f=("range":Str)) (hg:glB X.env.scope f=true) (ha:PA X args (tEs X.K cal ms)) (hn:Jy args) (hs:args.all ag=true) (hm:ms.length=args.length) :
  PI X tg (.Call (.Name f p) args [] pos) (tW X.K cal .rng ms):=by
 subst hf;have J:∀e,ag e=true->∀es env,starEach (e::es) env=(false,eval e env)::starEach es env:=λe he es env=>by
  cases e<;>first|rfl|(simp[ag]at he)
 match args,hn with
 | [a],_ =>
  simp only[all_cons,all_nil,ND]at hs;refine(oK (dh hg) (g.blt "range" (by decide)) ha (by rw[J a hs];rfl)).imp λσ H R q=>?_
  obtain⟨B,E,O,W,vs,xs,st,Y,U,q⟩:=q;refine⟨B,E,O,W,vs,st,Y,λus H' s gs=>?_⟩
  match vs,U,gs with
  | [.int j],U,gs =>
   simp only[bc]at U;split at U
   .rename_i c;cases U;obtain⟨u,rfl,ru⟩:=p1 gs.1;have e3:=ru.int;subst e3;exact⟨j,rfl,c.1,c.2,q _ _ s m6⟩
   .cases U
  | [.int j,.int j'],U,gs =>
   have:=gK Y;simp at this hm;omega
  | [.int j,.int j',.int c],U,gs =>
   have:=gK Y;simp at this hm;omega
 | [a,b],_ =>
  simp only[all_cons,all_nil,ND,mu]at hs;refine(wG (dh hg) (g.blt "range" (by decide)) ha (by rw[J a hs.1,J b hs.2];rfl) (by rw[J b hs.2];rfl)).imp λσ H R q=>?_
  obtain⟨B,E,O,W,vs,xs,st,Y,U,q⟩:=q;refine⟨B,E,O,W,vs,st,Y,λus H' s gs=>?_⟩
  match vs,U,gs with
  | [.int i,.int j],U,gs =>
   simp only[bc]at U;split at U
   .rename_i c;cases U;obtain⟨u,u',rfl,ru,Z⟩:=p2 gs.1;have e3:=ru.int;have e4:=Z.int;subst e3 e4;exact⟨i,j,rfl,c,q _ _ s m6⟩
   .cases U
  | [.int j],U,gs =>
   have:=gK Y;simp at this hm;omega
  | [.int i,.int j,.int c],U,gs =>
   have:=gK Y;simp at this hm;omega
 | [a,b,c],_ =>
  simp only[all_cons,all_nil,ND,mu]at hs;refine(xa (dh hg) (g.blt "range" (by decide)) ha (by rw[J a hs.1,J b hs.2.1,J c hs.2.2];rfl) (by rw[J b hs.2.1,J c hs.2.2];rfl)).imp λσ H R q=>?_
  obtain⟨B,E,O,W,vs,xs,st,Y,U,q⟩:=q;refine⟨B,E,O,W,vs,st,Y,λus H' s gs=>?_⟩
  match vs,U,gs with
  | [.int i,.int j,.int c],U,gs =>
   simp only[bc]at U;split at U
   .rename_i z;cases U;obtain⟨rfl,z⟩:=z;obtain⟨u,u',b0,rfl,ru,Z,a0⟩:=p3 gs.1;have e3:=ru.int;have e4:=Z.int;have e5:=a0.int;subst e3 e4 e5;exact⟨i,j,rfl,z,q _ _ s E9⟩
   .cases U
  | [.int j],U,gs =>
   have:=gK Y;simp at this hm;omega
  | [.int i,.int j],U,gs =>
   have:=gK Y;simp at this hm;omega
end
noncomputable def tF(K:NF)(cal:Cal)(z:ME):TE:=λσ H Q=>∃B E O W xs,aE K B E O H W σ/\ev cal z W=some (.lst xs) /\
 ∀p us H',aj H H'->H p=none->H' p=some (.lst us)->Reps K (aw H' (p::O)) xs us->Q (.ref p) H'
def gL :aj (aw H (p::O)) (aw H O):=bM (aj.refl H) λb z=>.inl (KH _ z)
def iy(h:p∈O):aw (upd H p o) O=aw H O:=by
 funext b
 unfold aw;split
 .rfl
 .rename_i J;exact aX λz=>J (by rw[z];exact h)
def vI{K:NF}{H H':Hp}{O:List Addr}{J:ME}{xs:List PV}{p:Addr}{us:List V}(U:∀a∈O,H a≠none)(Y:H p=none)(e:H' p=some (.lst us))(r:Reps K (aw H' (p::O)) xs us):Got K H' O J (.lst xs) (.ref p):=by
 refine .of ?_;refine⟨p,us,rfl,SqL.of ?_,Reps.mono gL _ r⟩;rw[aV λz=>U p z Y];exact e
section
variable{X:Cx}{T:Tab}{k:Nat}{cal:Cal}
def eO(U:∀W v,ev cal z W=some v->∃xs,v=.lst xs)(h:PE X e (tF X.K cal z)):PE X e (tE X.K cal z):=by
 refine h.imp λσ H Q q=>?_
 obtain⟨B,E,O,W,v,st,J,q⟩:=q;obtain⟨xs,rfl⟩:=U W v J;exact⟨B,E,O,W,xs,st,J,λp us H' s Y Z r=>q _ _ s (vI st.here Y Z r)⟩
theorem Gf.blk(g:Gf X T k cal)(x)(fvs)(scope)(z)(J)(C)(fp):Gf (X.blk x fvs scope z J C fp) T k cal:={ g with }
def kN(h:fw osc N scope x fvs js=true):kE osc N scope x fvs js:=by
 unfold fw at h;simp only[mu,JZ,Kh]at h;obtain⟨⟨⟨⟨⟨⟨⟨⟨h1,h2⟩,z⟩,J⟩,U⟩,Y⟩,Z⟩,h8⟩,h9⟩:=h;exact⟨h1,h2,z,J,U,Y,Z,h8,h9⟩
def Fb{K:NF}{σ F:St}(st:aE K B E O H W σ)(U:aj H H1)(s2:aj H1 H2)(hD:H1 D=none)(a0:H2 D≠none)
  (a1:∀z,F.set 0 z=(fc js σ).set 0 z) (hl:0<F.length) (hx:Rep K (aw H2 (D::O)) x ux):aE K H1 [] (D::O) H2 (cb js W x) (F.set 0 (some ux)):=by
 have hv:aj (aw H O) (aw H2 (D::O)):=bM (U.trans s2) λb hb=>by
  rcases wh.mp hb with rfl|hb
  .exact .inr (U.free hD)
  .exact .inl hb
 rw[a1];have Y:∀(i:Nat) m,hZ m=true->(cb js W x)[i]?≠some (some m):=λi m hm e=>by
  unfold cb at e;cases i with
  |zero =>
   simp at e;subst e;cases hm
  |succ i =>
   simp only[getElem?_cons_succ,Kc,pe]at e;obtain⟨j,_,e⟩:=e;cases Z:(W[j]?).join with
   |none=>rw[Z]at e;cases e
   |some mm =>
    rw[Z]at e;cases mm<;>first|(simp[fq]at e;done)|(simp only[fq,ti]at e;subst e;cases hm)
 refine⟨s2,λa J=>?_,λa J=>by simp at J,λa J=>by simp at J,?_,λi m e=>?_,λi j m m' a _ e _ hm=>absurd e (Y i m hm)
  ⟩
 .rcases wh.mp J with rfl|J
  .exact a0
  .exact λe=>st.here a J ((U.trans s2).free e)
 .simp[cb,fc]
 .cases i with
  |zero =>
   simp only[cb,getElem?_cons_zero,ti]at e;subst e;exact⟨ux,by simp[fc],hx⟩
  |succ i =>
   simp only[cb,getElem?_cons_succ,Kc,pe]at e;obtain⟨j,ej,e⟩:=e;cases Z:(W[j]?).join with
   |none=>rw[Z]at e;cases e
   |some mm =>
    rw[Z]at e;obtain⟨u,eu,so⟩:=aR st Z;have a4:((fc js σ).set 0 (some ux))[i+1]?=some (some u):=by
     simp[fc,ej,eu]
    refine⟨u,a4,?_⟩;cases mm with
    |val w =>
     simp only[fq,ti]at e;subst e;exact Rep.mono hv _ so
    |own ys =>
     simp only[fq,ti]at e;subst e;obtain⟨a,us,rfl,J,rs,hO,_⟩:=so;exact⟨a,us,rfl,SqL.of (U _ _ J),Reps.mono hv _ rs⟩
    |brw ys =>
     simp only[fq,ti]at e;subst e;obtain⟨a,us,rfl,sq,rs⟩:=so;exact⟨a,us,rfl,(st.keep.trans U).seq sq,Reps.mono hv _ rs⟩
    |brwD kvs =>
     simp only[fq,ti]at e;subst e;obtain⟨a,rfl,J⟩:=so;exact⟨a,rfl,aj.rd (st.keep.trans U) J⟩
    | _ =>
     simp only[fq,ti]at e;subst e;obtain⟨a,rfl,J,_⟩:=so;exact⟨a,rfl,.inl (U _ _ J)⟩
def uf{cond elt:ME}(g:Gf X T k cal)(U:fw X.env.scope X.N scope x (dB X.N js) js=true)
  (hw:PI X (.Name x px) it (tW X.K cal Z ms)) (Y:eV it=true)
  (hc:∀z J C fp,PF (X.blk x (dB X.N js) scope z J C fp) ifs (tT X.K cal cond)) (he:∀z J C fp,PE (X.blk x (dB X.N js) scope z J C fp) e (tE X.K cal elt)) (hb:aH elt=false) :
  PE X (.ListComp e [⟨.Name x px,it,ifs,0⟩] scope pos) (tF X.K cal (.comp Z ms js cond elt)):=by
 refine(vd (kN U) g.calm hw hc he (by intro v;cases it<;>first|rfl|(simp[eV]at Y))).imp λσ H Q q=>?_
 exact comp_go hb q
where
 comp_go {k':Sk}{ms:List ME}{js:List Nat}{cond elt:ME}{K:NF}{σ:St}{H:Hp}{Q:VK} (hb:aH elt=false) (q:tF K cal (.comp k' ms js cond elt) σ H Q):yO (tW K cal k' ms) js (tT K cal cond) (tE K cal elt) σ H Q:=by
  refine ax λZq kq=>?_
  obtain⟨B,E,O,W,ws,st,e1,q⟩:=q;rw[ev]at e1;simp only[gf]at e1;obtain⟨vs,e1,xs,e2,e3⟩:=e1;refine kq ?_;split at e3
  .rename_i hlen;simp only[pe,PV.lst.injEq,exists_eq_right]at e3;refine⟨B,E,O,W,vs,xs,st,e1,e2,λJ H1 s1 it D hD=>?_⟩;have hDO:D∉O:=λz=>bu s1 st.here D z hD
   have it1:=it.weak (m5 (st.keep.trans s1));refine⟨λi m F H'=>m=xs.length-i/\i<=xs.length/\aj H1 H'/\(∀z,F.set 0 z=(fc js σ).set 0 z)/\0<F.length/\∃done bQ ys,fL (λx=>(ev cal cond (cb js W x)).bind aZ) (λx=>ev cal elt (cb js W x)) (xs.drop i)=some bQ/\ws=done++bQ/\done.length<=i/\H' D=some (.lst ys)/\Reps K (aw H' (D::O)) done ys,⟨xs.length,by simp,Kd _,aB hD _,λ_=>rfl,by simp[fc],[],ws,[],by simpa using e3,rfl,pb _,az,.nil⟩,?_⟩;rintro i m F H' ⟨rfl,hi,s2,hσ,hl,done,bQ,ys,eg,ew,hdl,hDy,rs⟩;by_cases hlt:i<xs.length
   .right;have ex:=J1 hlt;refine⟨it1.go i _ H' s2 ex,λσ2 H2=>∃m',m'<xs.length-i/\(m'=xs.length-(i+1)/\i+1<=xs.length/\aj H1 H2/\(∀z,σ2.set 0 z=(fc js σ).set 0 z)/\0<σ2.length/\∃done bQ ys,fL (λx=>(ev cal cond (cb js W x)).bind aZ) (λx=>ev cal elt (cb js W x)) (xs.drop (i+1))=some bQ/\ws=done++bQ/\done.length<=i+1/\H2 D=some (.lst ys)/\Reps K (aw H2 (D::O)) done ys),λσ2 H2 z=>z,λux H2 y=>?_⟩;obtain⟨s3,hr⟩:=it1.yld i _ H' ux H2 s2 ex y;have sv:aj (aw H1 O) (aw H2 (D::O)):=bM (s2.trans s3) λb hb=>by
     rcases wh.mp hb with rfl|hb
     .exact .inr hD
     .exact .inl hb
    have hx:=hr (D::O) (λa ha=>by
     rcases wh.mp ha with rfl|ha
     .rw[hDy];simp
     .exact λz=>bu s1 st.here a ha (s2.free z)) sv
    have hD2:=s3 _ _ hDy;have stb:=Fb (js:=js) (W:=W) st s1 (s2.trans s3) hD (by rw[hD2];simp) hσ hl hx;rw[MZ hlt,fL]at eg;simp only[gf]at eg;obtain⟨b,eb,eg⟩:=eg;refine⟨H1,[],D::O,_,b,stb,by simpa[evB,gf]using eb,λH3 s4=>?_⟩;have hσ2:∀z,(F.set 0 (some ux)).set 0 z=(fc js σ).set 0 z:=λz=>by rw[set_set];exact hσ z
    have hl2:0<(F.set 0 (some ux)).length:=by rw[Ly];exact hl
    cases b with
    |false =>
     rw[if_neg (by simp)]at eg;dsimp only;rw[if_neg (by simp)];refine⟨_,by omega,rfl,hlt,(s2.trans s3).trans s4,hσ2,hl2,done,bQ,ys,eg,ew,by omega,s4 _ _ hD2,Reps.mono ?_ _ rs⟩;exact(ak s3).trans (ak s4)
    |true =>
     rw[if_pos rfl]at eg;dsimp only;rw[if_pos rfl];refine ax λZq kq=>?_
     simp only[gf,pe]at eg;obtain⟨y',ey,rest',eg,rfl⟩:=eg;refine kq ?_;refine⟨H1,[],D::O,_,y',stb.mono s4,ey,λuy H4 s5 gy=>?_⟩;have hD4:=s5 _ _ (s4 _ _ hD2);have ry:=gy.2 hb;have rs4:=Reps.mono (((ak s3).trans (ak s4)).trans (ak s5)) _ rs;have hyl:ys.length<=10000:=by rw[<- rs.length];omega
     refine⟨ys,hD4,Kq hyl (by decide),_,by omega,rfl,hlt,?_,hσ2,hl2,done++[y'],rest',ys++[uy],eg,by simp[ew],by simp;omega,az,?_⟩
     .intro b u eb;rw[aX (cx eb hD)];exact s5 _ _ (s4 _ _ ((s2.trans s3) _ _ eb))
     .rw[iy (K1)];exact rs4.snoc ry
   .left;have ei:i=xs.length:=by omega
    subst ei;rw[drop_length,fL]at eg;cases eg;rw[Le]at ew;subst ew;exact⟨it1.stop H' s2,q D ys H' (s1.trans s2) (s1.free hD) hDy rs⟩
  .cases e3
def aS(z:ag e=true)(es)(env):starEach (e::es) env=(false,eval e env)::starEach es env:=by
 cases e<;>first|rfl|(simp[ag]at z)
theorem bV :∀{es},es.all ag=true->(backTo pos (starEach es env)).any (·.1)=false
 | [],_=>rfl
 |e::es,h=>by
  simp only[all_cons,mu]at h;rw[aS h.1];show(false||(backTo pos (starEach es env)).any (·.1))=false;rw[bV h.2];rfl
theorem bH:∀{ms}{N}{sc}{es},chks T ms N sc es=true->es.all ag=true/\ms.length=es.length
 | [],_,_,[],_=>⟨rfl,rfl⟩
 | [],_,_,_::_,h=>by simp[chks]at h
 | _::_,_,_,[],h=>by simp[chks]at h
 |m::ms,N,sc,e::es,h=>by
  simp[chks]at h;obtain⟨h1,h2⟩:=bH h.2;exact⟨by simp[h.1.2,h1],by simp[h2]⟩
def bD(h:PE X e (tE X.K cal Y))(J:kI e=true):PT X e (tT X.K cal Y):=by
 refine(DN h (by intro w;cases e<;>first|rfl|(simp[kI]at J;done)|(rename_i op _ _;cases op<;>first|rfl|(simp[kI]at J)))).imp λσ H Q q=>?_
 obtain⟨B,E,O,W,b,st,z,q⟩:=q;simp[evB,gf]at z;obtain⟨v,z,U⟩:=z;refine⟨B,E,O,W,v,st,z,λu H' s g=>?_⟩;cases v<;>simp[aZ]at U
 subst U;exact⟨_,g.1.bl,q H' s⟩
def zG(h:PE X e (tE X.K cal m))(hs:PA X es (tEs X.K cal ms))(hn:ag e=true):PA X (e::es) (tEs X.K cal (m::ms)):=by
 refine(aK h hs (aS hn es _)).imp λσ H Q q=>?_
 obtain⟨B,E,O,W,vs,st,z,q⟩:=q;simp[evs,gf,pe]at z;obtain⟨v,z,ws,e2,rfl⟩:=z;refine⟨B,E,O,W,v,st,z,λu H1 Y Z=>⟨B,E,O,W,ws,st.mono Y,e2,λus H2 J g2=>q _ H2 (Y.trans J) ⟨.cons (Z.1.mono J) g2.1,λU=>?_⟩⟩⟩;simp only[all_cons,mu,J4]at U;exact .cons ((Z.mono J).2 U.1) (g2.2 U.2)
def Cq:PA X [] (tEs X.K cal []):=by
 refine bF.imp λσ H Q q=>?_
 obtain⟨B,E,O,W,vs,st,z,q⟩:=q;simp only[evs,ti]at z;subst z;exact q [] H (aj.refl H) ⟨.nil,λ_=>.nil⟩
def zH:PA X [] (tAs X.K cal []):=by
 refine bF.imp λσ H Q q=>?_
 obtain⟨B,E,O,W,vs,st,z,q⟩:=q;simp only[evA,ti]at z;subst z;exact q [] H (aj.refl H) .nil
def zI{K:NF}(s:aj H H')(h:lh K O H m u):lh K O H' m u:=by
 cases m<;>first|exact Rep.mono (ak s) _ h|exact h|(obtain⟨a,us,e,q,r⟩:=h;exact⟨a,us,e,s.seq q,Reps.mono (ak s) _ r⟩)|(obtain⟨a,e,q⟩:=h;exact⟨a,e,aj.rd s q⟩)
def xl(J:aH m=false)(h:PE X e (tE X.K cal m))(hs:PA X es (tAs X.K cal ms))(Z:ag e=true):PA X (e::es) (tAs X.K cal (m::ms)):=by
 refine(aK h hs (aS Z es _)).imp λσ H Q q=>?_
 obtain⟨B,E,O,W,vs,st,e1,q⟩:=q;have z:(ev cal m W).bind (λv=>(evA cal ms W).map (MV.val v::·))=some vs:=by
  rw[<- e1];cases m<;>first|(cases J;done)|(simp;done)|rfl
 simp[gf]at z;obtain⟨v,e9,ws,e2,rfl⟩:=z;exact⟨B,E,O,W,v,st,e9,λu H1 U g1=>⟨B,E,O,W,ws,st.mono U,e2,λus H2 Y g2=>q _ H2 (U.trans Y) (.cons ((g1.mono Y).2 J) g2)⟩⟩
def zJ(h:aM X.N X.env.scope i x=true)(hs:PA X es (tAs X.K cal ms)):PA X (.Name x pos::es) (tAs X.K cal (.bor i::ms)):=by
 refine(aK (bT h) hs rfl).imp λσ H Q q=>?_
 obtain⟨B,E,O,W,vs,st,z,q⟩:=q;rw[evA]at z;simp[gf,pe]at z;obtain⟨m',z,ws,e2,rfl⟩:=z;cases Y:(W[i]?).join with
 |none=>rw[Y]at z;cases z
 |some m =>
  rw[Y]at z;obtain⟨u,eu,J⟩:=aR st Y;have ao:lh X.K O H m' u:=by
   cases m with
   |val w=>simp[fZ,ti]at z;subst z;exact J
   |own ys=>simp[fZ,ti]at z;subst z;obtain⟨a,us,rfl,U,Z,_⟩:=J;exact⟨a,us,rfl,SqL.of U,Z⟩
   |brw ys=>simp[fZ,ti]at z;subst z;obtain⟨a,us,rfl,sq,Z⟩:=J;exact⟨a,us,rfl,st.keep.seq sq,Z⟩
   |brwD kvs=>simp[fZ,ti]at z;subst z;obtain⟨a,rfl,U⟩:=J;exact⟨a,rfl,aj.rd st.keep U⟩
   | _=>simp[fZ,ti]at z;subst z;obtain⟨a,rfl,U,_⟩:=J;exact⟨a,rfl,.inl U⟩
  exact⟨u,eu,⟨B,E,O,W,ws,st,e2,λus H2 s2 g2=>q _ H2 s2 (.cons (zI s2 ao) g2)⟩⟩
def HE(Y:PE X l (tE X.K cal a))(Z:PE X r (tE X.K cal b)):PE X (.BinOp l (t8 op) r pos) (tE X.K cal (.bin op a b)):=by
 refine(uV (uc op) Y Z).imp λσ H Q q=>?_
 obtain⟨B,E,O,W,v,st,z,q⟩:=q;rw[ev]at z;simp[gf]at z;obtain⟨x,z,y,e2,e3⟩:=z;exact⟨B,E,O,W,x,st,z,λux H1 J g1=>⟨B,E,O,W,y,st.mono J,e2,λuy H2 U g2=>⟨O,x,y,v,bu (J.trans U) st.here,g1.1.mono U,g2.1,e3,λu H3 s3 r=>q u H3 ((J.trans U).trans s3) (.of r)⟩⟩⟩
def HF(U:PE X e (tE X.K cal a)):PE X (.UnaryOp .Not e pos) (tE X.K cal (.not a)):=by
 refine(DS U).imp λσ H Q q=>?_
 obtain⟨B,E,O,W,v,st,z,q⟩:=q;rw[ev]at z;simp only[gf,pe]at z;obtain⟨b,⟨x,z,J⟩,rfl⟩:=z;cases x<;>simp[aZ,ti,reduceCtorEq]at J
 subst J;exact⟨B,E,O,W,_,st,z,λux H1 Y Z=>⟨_,Z.1.bl,q _ H1 Y (.of (d6 _ _))⟩⟩
def HG(U:PT X e (tT X.K cal a)):PT X (.UnaryOp .Not e pos) (tT X.K cal (.not a)):=by
 refine(DQ U).imp λσ H Q q=>?_
 obtain⟨B,E,O,W,b,st,z,q⟩:=q;simp only[evB,ev,gf,pe]at z;obtain⟨v,⟨c,⟨x,z,Y⟩,rfl⟩,J⟩:=z;simp only[aZ,ti]at J;subst J;exact⟨B,E,O,W,c,st,by simp[evB,z,Y],λH' s=>q H' s⟩
def Dt(ha:PE X x (tE X.K cal a))(hb:PE X (.BoolOp .And (y::r) pos) (tE X.K cal b)):PE X (.BoolOp .And (x::y::r) pos) (tE X.K cal (.and a b)):=by
 refine(DR ha hb).imp λσ H Q q=>?_
 obtain⟨B,E,O,W,v,st,U,q⟩:=q;rw[ev]at U;simp only[gf]at U;obtain⟨c,⟨z,U,Z⟩,J⟩:=U;cases z<;>simp[aZ,ti,reduceCtorEq]at Z
 subst Z;refine⟨B,E,O,W,_,st,U,λux H1 Y g1=>⟨_,g1.1.bl,?_⟩⟩;split at J
 .rename_i h;rw[if_pos h];simp only[gf,pe]at J;obtain⟨z',J,c',e4,rfl⟩:=J;cases z'<;>simp[aZ,ti,reduceCtorEq]at e4
  subst e4;exact⟨B,E,O,W,_,st.mono Y,J,λu H2 s2 g2=>q u H2 (Y.trans s2) (by rw[g2.1.bl];exact .of (d6 _ _))⟩
 .rename_i h;rw[if_neg h];cases J;exact q _ H1 Y (.of (d6 _ _))
def HH(ha:PE X x (tE X.K cal a))(hb:PE X (.BoolOp .Or (y::r) pos) (tE X.K cal b)):PE X (.BoolOp .Or (x::y::r) pos) (tE X.K cal (.or a b)):=by
 refine(GI ha hb).imp λσ H Q q=>?_
 obtain⟨B,E,O,W,v,st,U,q⟩:=q;rw[ev]at U;simp only[gf]at U;obtain⟨c,⟨z,U,Z⟩,J⟩:=U;cases z<;>simp[aZ,ti,reduceCtorEq]at Z
 subst Z;refine⟨B,E,O,W,_,st,U,λux H1 Y g1=>⟨_,g1.1.bl,?_⟩⟩;split at J
 .rename_i h;rw[if_pos h];cases J;exact q _ H1 Y (.of (d6 _ _))
 .rename_i h;rw[if_neg h];simp only[gf,pe]at J;obtain⟨z',J,c',e4,rfl⟩:=J;cases z'<;>simp[aZ,ti,reduceCtorEq]at e4
  subst e4;exact⟨B,E,O,W,_,st.mono Y,J,λu H2 s2 g2=>q u H2 (Y.trans s2) (by rw[g2.1.bl];exact .of (d6 _ _))⟩
def Du(h:PT X (.BoolOp op vs pos) t):PW X (.BoolOp op vs pos) t:=λw pins s σ H Q I q=>by
 have:=h pins s σ H Q I q;exact this
def Dw(ha:PT X x (tT X.K cal a))(hb:PW X (.BoolOp .And (y::r) pos) (tT X.K cal b)):PT X (.BoolOp .And (x::y::r) pos) (tT X.K cal (.and a b)):=by
 refine(DP ha hb).pt.imp λσ H Q q=>?_
 obtain⟨B,E,O,W,v,st,U,q⟩:=q;simp only[evB,ev,gf]at U;obtain⟨w,⟨c,⟨z,U,e2⟩,J⟩,Y⟩:=U;refine⟨B,E,O,W,c,st,by simp[evB,U,e2],λH1 Z=>?_⟩;split at J
 .rename_i h;rw[if_pos h];simp only[gf,pe]at J;obtain⟨z',J,c',e5,rfl⟩:=J;simp only[aZ,ti]at Y;subst Y;exact⟨B,E,O,W,_,st.mono Z,by simp[evB,J,e5],λH2 s2=>q H2 (Z.trans s2)⟩
 .rename_i h;rw[if_neg h];cases J;cases Y;exact q H1 Z
def HI(ha:PT X x (tT X.K cal a))(hb:PW X (.BoolOp .Or (y::r) pos) (tT X.K cal b)):PT X (.BoolOp .Or (x::y::r) pos) (tT X.K cal (.or a b)):=by
 refine(GF ha hb).pt.imp λσ H Q q=>?_
 obtain⟨B,E,O,W,v,st,U,q⟩:=q;simp only[evB,ev,gf]at U;obtain⟨w,⟨c,⟨z,U,e2⟩,J⟩,Y⟩:=U;refine⟨B,E,O,W,c,st,by simp[evB,U,e2],λH1 Z=>?_⟩;split at J
 .rename_i h;rw[if_pos h];cases J;cases Y;exact q H1 Z
 .rename_i h;rw[if_neg h];simp only[gf,pe]at J;obtain⟨z',J,c',e5,rfl⟩:=J;simp[aZ,ti]at Y;subst Y;exact⟨B,E,O,W,_,st.mono Z,by simp[evB,J,e5],λH2 s2=>q H2 (Z.trans s2)⟩
def HJ(hc:PT X t (tT X.K cal c))(ha:PE X x (tE X.K cal a))(hb:PE X y (tE X.K cal b))(na:aH a=false)(nb:aH b=false):PE X (.IfExp t x y pos) (tE X.K cal (.ite c a b)):=by
 refine(ya hc ha hb).imp λσ H Q q=>?_
 obtain⟨B,E,O,W,v,st,z,q⟩:=q;rw[ev]at z;simp only[gf]at z;obtain⟨k',z,U⟩:=z;refine⟨B,E,O,W,k',st,by simpa[evB,gf]using z,λH1 J=>?_⟩;split at U
 .rename_i h;rw[if_pos h];exact⟨B,E,O,W,v,st.mono J,U,λu H2 Y Z=>q u H2 (J.trans Y) (.of (Z.2 na))⟩
 .rename_i h;rw[if_neg h];exact⟨B,E,O,W,v,st.mono J,U,λu H2 Y Z=>q u H2 (J.trans Y) (.of (Z.2 nb))⟩
def HK(hc:PT X t (tT X.K cal c))(ha:PT X x (tT X.K cal a))(hb:PT X y (tT X.K cal b)):PT X (.IfExp t x y pos) (tT X.K cal (.ite c a b)):=by
 intro pins s σ H Q I q;refine ax λZq kq=>?_
 obtain⟨B,E,O,W,v,st,z,q⟩:=q;simp only[evB,ev,gf]at z;obtain⟨w,⟨Z,z,U⟩,e4⟩:=z;refine kq ?_;refine isTrue_IfExp (thn (hc pins s σ H (λb H1=>b=Z/\aj H H1) I ⟨B,E,O,W,Z,st,by simpa[evB,gf]using z,λH1 J=>⟨rfl,J⟩⟩) λb J ⟨H1,I1,eb,hs⟩=>?_);subst eb;split at U
 .rename_i h;subst h;exact ha pins J σ H1 Q I1 ⟨B,E,O,W,v,st.mono hs,by simp[evB,U,e4],λH2 Y=>q H2 (hs.trans Y)⟩
 .rename_i h;have:b=false:=by cases b<;>simp at h ⊢
  subst this;exact hb pins J σ H1 Q I1 ⟨B,E,O,W,v,st.mono hs,by simp[evB,U,e4],λH2 Y=>q H2 (hs.trans Y)⟩
def HL(g:Gf X T k cal)(ha:PE X l (tE X.K cal a))(hb:PE X r (tE X.K cal b))(hm:behindInMarks (zp op) r=false):PE X (.Compare l [zp op] [r] pos) (tE X.K cal (.cmp op a b))/\PT X (.Compare l [zp op] [r] pos) (tT X.K cal (.cmp op a b)):=by
 refine⟨(By (zA g.units op) ha hb hm).imp λσ H Q q=>?_,(Bz (zA g.units op) ha hb hm).imp λσ H Q q=>?_⟩
 .obtain⟨B,E,O,W,v,st,z,q⟩:=q;rw[ev]at z;simp only[gf,pe]at z;obtain⟨x,z,y,Y,c,Z,rfl⟩:=z;exact⟨B,E,O,W,x,st,z,λux H1 J g1=>⟨B,E,O,W,y,st.mono J,Y,λuy H2 U g2=>⟨O,x,y,c,g1.1.mono U,g2.1,Z,q _ H2 (J.trans U) (.of (d6 _ _))⟩⟩⟩
 .obtain⟨B,E,O,W,v,st,z,q⟩:=q;simp only[evB,ev,gf,pe]at z;obtain⟨w,⟨x,z,y,Y,c,Z,rfl⟩,e4⟩:=z;simp[aZ,ti]at e4;subst e4;exact⟨B,E,O,W,x,st,z,λux H1 J g1=>⟨B,E,O,W,y,st.mono J,Y,λuy H2 U g2=>⟨O,x,y,c,g1.1.mono U,g2.1,Z,_,rfl,q H2 (J.trans U)⟩⟩⟩
def HM(h:PA X es (tEs X.K cal ms))(U:(ms.all λm=>!aH m)=true):PE X (.Tuple es j pos) (tE X.K cal (.tup ms)):=by
 refine(tq h).imp λσ H Q q=>?_
 obtain⟨B,E,O,W,v,st,z,q⟩:=q;rw[ev]at z;simp only[gf]at z;obtain⟨vs,z,J⟩:=z;split at J
 .rename_i hl;cases J;refine⟨B,E,O,W,vs,st,z,λus H1 Y Z=>⟨?_,λp hp=>?_⟩⟩
  .rw[<- (Z.2 U).length];exact db hl
  .exact q _ _ (Y.trans (aB hp _)) (.of (gc (bu Y st.here) hp (Z.2 U)))
 .cases J
def Dx(h:PA X es (tEs X.K cal ms))(z:(ms.all λm=>!aH m)=true):PE X (.List es pos) (tF X.K cal (.lst ms)):=by
 refine(yg h).imp λσ H Q q=>?_
 obtain⟨B,E,O,W,xs,st,J,q⟩:=q;rw[ev]at J;simp only[gf]at J;obtain⟨vs,J,U⟩:=J;split at U
 .rename_i hl;cases U;refine⟨B,E,O,W,xs,st,J,λus H1 Z g1=>⟨?_,λp Y=>?_⟩⟩
  .rw[<- (g1.2 z).length];exact db hl
  .refine q p us _ (Z.trans (aB Y _)) (Z.free Y) az ?_;rw[iy (K1)];refine Reps.mono (bM (aj.refl H1) λb z=>?_) _ (g1.2 z);rcases wh.mp z with rfl|z
   .exact .inr Y
   .exact .inl z
 .cases U
def HN(Y:PE X v (tE X.K cal a))(hi:PE X s (tE X.K cal i))(hs:bq s=true):PE X (.Subscript v s pos) (tE X.K cal (.idx a i)):=by
 refine(G7 E4 Y hi (ud hs)).imp λσ H Q q=>?_
 obtain⟨B,E,O,W,v,st,z,q⟩:=q;rw[ev]at z;simp[gf]at z;obtain⟨x,z,y,Z,e3⟩:=z;exact⟨B,E,O,W,x,st,z,λux H1 J g1=>⟨B,E,O,W,y,st.mono J,Z,λuy H2 U g2=>⟨O,x,y,v,bu (J.trans U) st.here,g1.1.mono U,g2.1,e3,λu H3 s3 r=>q u H3 ((J.trans U).trans s3) (.of r)⟩⟩⟩
noncomputable def tB1(K:NF)(cal:Cal)(z:ME):TO:=λσ H Q=>∃B E O W o,aE K B E O H W σ/\((ev cal z W).bind λv=>bnd z v)=some o/\∀H',aj H H'->Q o H'
def Fc(h:jm m=true):PO X none (tB1 X.K cal m):=by
 have e:m=.cst .non:=by
  unfold jm at h;split at h
  .rfl
  .cases h
 subst e;intro pins s σ H Q I q;refine ax λU J=>?_
 obtain⟨B,E,O,W,o,st,z,q⟩:=q;simp[ev,bind_some,bnd]at z;subst z;refine J ?_;exact BC pins s σ H Q I (q H (aj.refl H))
def Fd(h:PE X l (tE X.K cal m))(U:jm m=false):PO X (some l) (tB1 X.K cal m):=by
 intro pins s σ H Q I q;refine ax λZ Y=>?_
 obtain⟨B,E,O,W,o,st,z,q⟩:=q;simp[gf]at z;obtain⟨v,z,J⟩:=z;obtain⟨i,rfl,rfl⟩:∃i,v=.int i/\o=some i:=by
  unfold bnd at J;split at J
  .simp[jm]at U
  .simp_all
  .cases J
 refine Y ?_;exact BD h pins s σ H Q I ⟨B,E,O,W,_,st,z,λu H' s' g=>⟨i,g.1.int,q H' s'⟩⟩
def Cr{a lo hi:ME}{p2 pos:Pos}(ha:PE X v (tE X.K cal a))(hl:PO X l (tB1 X.K cal lo))(hu:PO X u (tB1 X.K cal hi)):PE X (.Subscript v (.Slice l u none p2) pos) (tE X.K cal (.slice a lo hi)):=by
 refine(yo E5 ha hl hu).imp λσ H Q q=>?_
 refine ax λZq kq=>?_
 obtain⟨B,E,O,W,w,st,z,q⟩:=q;rw[ev,gf]at z;obtain⟨x,z,J⟩:=z;rw[gf]at J;obtain⟨ao,J,U⟩:=J;rw[gf]at U;obtain⟨ar,U,e4⟩:=U;refine kq ?_;exact⟨B,E,O,W,x,st,z,λux H1 Y g1=>⟨B,E,O,W,ao,st.mono Y,J,λH2 Z=>⟨B,E,O,W,ar,(st.mono Y).mono Z,U,λH3 s3 =>
  ⟨O,x,w,bu ((Y.trans Z).trans s3) st.here,g1.1.mono (Z.trans s3),e4,λu H4 s4 r=>q u H4 (((Y.trans Z).trans s3).trans s4) (.of r)⟩⟩⟩⟩
def rY {id:String} (hc:bW X (.builtin id) (RBM X.K (aC f))) (U:glB X.env.scope x=true) (Y:X.mg x=none) (hv:bootBuiltins x=some (.builtin id)) (Z:x ≠ "__name__") (hd:(x==("__debug__":Str))=false)
  (ha:PA X (e::es) (tEs X.K cal ms)) (hs:(e::es).all ag=true):PE X (.Call (.Name x p) (e::es) [] pos) (tE X.K cal (.blt f ms)):=by
 simp only[all_cons,mu]at hs;refine(eQ hc (dh U) Y hv ha Z hd (aS hs.1 es _) (bV hs.2)).imp λσ H Q q=>?_
 obtain⟨B,E,O,W,v,st,z,q⟩:=q;rw[ev,gf]at z;obtain⟨vs,z,e2⟩:=z;exact⟨B,E,O,W,vs,st,z,λus H1 J g1=>⟨O,vs,v,bu J st.here,g1.1,e2,λu H2 s2 r=>q u H2 (J.trans s2) (.of r)⟩⟩
def zK {id:String} (hc:bW X (.type id) (RBM X.K (aC f))) (U:glB X.env.scope x=true) (Y:X.mg x=none) (hv:bootBuiltins x=some (.type id)) (Z:x ≠ "__name__") (hd:(x==("__debug__":Str))=false)
  (ha:PA X (e::es) (tEs X.K cal ms)) (hs:(e::es).all ag=true):PE X (.Call (.Name x p) (e::es) [] pos) (tE X.K cal (.blt f ms)):=by
 simp only[all_cons,mu]at hs;refine(c9 hc (dh U) Y hv ha Z hd (aS hs.1 es _) (bV hs.2)).imp λσ H Q q=>?_
 obtain⟨B,E,O,W,v,st,z,q⟩:=q;rw[ev,gf]at z;obtain⟨vs,z,e2⟩:=z;exact⟨B,E,O,W,vs,st,z,λus H1 J g1=>⟨O,vs,v,bu J st.here,g1.1,e2,λu H2 s2 r=>q u H2 (J.trans s2) (.of r)⟩⟩
def ph{K:NF}(q:tF K cal (.blt f ms) σ H Q):tCB (RBF K (aC f)) (tEs K cal ms) σ H Q:=by
 obtain⟨B,E,O,W,xs,st,z,q⟩:=q;rw[ev,gf]at z;obtain⟨vs,z,Z⟩:=z;refine⟨B,E,O,W,vs,st,z,λus H1 J g1=>⟨O,vs,xs,bu J st.here,g1.1,Z,λl ws U r=>q l ws _ (J.trans (aB U _)) (J.free U) az ?_⟩⟩;rw[iy (K1)];refine Reps.mono (bM (aj.refl H1) λb Y=>?_) _ r;rcases wh.mp Y with rfl|Y
 .exact .inr U
 .exact .inl Y
def Fe {id:String} (hc:bW X (.builtin id) (RBF X.K (aC f))) (z:glB X.env.scope x=true) (J:X.mg x=none) (hv:bootBuiltins x=some (.builtin id)) (U:x ≠ "__name__") (hd:(x==("__debug__":Str))=false)
  (Y:PA X (e::es) (tEs X.K cal ms)) (hs:(e::es).all ag=true):PE X (.Call (.Name x p) (e::es) [] pos) (tF X.K cal (.blt f ms)):=by
 simp only[all_cons,mu]at hs;exact(eQ hc (dh z) J hv Y U hd (aS hs.1 es _) (bV hs.2)).imp λσ H Q q=>ph q
def Cs {id:String} (hc:bW X (.type id) (RBF X.K (aC f))) (z:glB X.env.scope x=true) (J:X.mg x=none) (hv:bootBuiltins x=some (.type id)) (U:x ≠ "__name__") (hd:(x==("__debug__":Str))=false)
  (Y:PA X (e::es) (tEs X.K cal ms)) (hs:(e::es).all ag=true):PE X (.Call (.Name x p) (e::es) [] pos) (tF X.K cal (.blt f ms)):=by
 simp only[all_cons,mu]at hs;exact(c9 hc (dh z) J hv Y U hd (aS hs.1 es _) (bV hs.2)).imp λσ H Q q=>ph q
def Ff(g:Gf X T k cal)(hf:T.fs[f]?=some x)(J:glB X.env.scope x=true)(U:au x=true)(ha:PA X es (tAs X.K cal ms))(hs:es.all ag=true)(hl:ms.length=es.length):PE X (.Call (.Name x p) es [] pos) (tE X.K cal (.call f ms)):=by
 obtain⟨fa,fd,ps,h1,h2,Y,F,_⟩:=g.fns f x hf;have key:∀σ H Q,tE X.K cal (.call f ms) σ H Q->yh (spM X.K cal f) [] E0 (tAs X.K cal ms) σ H Q:=λσ H Q q=>by
  obtain⟨B,E,O,W,v,st,z,q⟩:=q;rw[ev,gf]at z;obtain⟨vs,z,e2⟩:=z;refine⟨B,E,O,W,vs,st,z,λus H1 Z g1=>⟨O,vs,v,bu Z st.here,?_,e2,λu H2 s2 r=>q u H2 (Z.trans s2) (.of r)⟩⟩
  simp_all
 cases es with
 |nil =>
  refine(yj F g.room (dh J) h1 h2 Y .nil q_ (gJ U).1).imp λσ H Q q=>?_
  obtain⟨B,E,O,W,vs,st,z,q⟩:=key σ H Q q;cases ms with
  |nil =>
   simp only[evA,ti]at z;subst z;exact q [] H (aj.refl H) .nil
  |cons m ms=>simp at hl
 |cons e es =>
  simp only[all_cons,mu]at hs;exact(lP F g.room (dh J) h1 h2 Y .nil q_ ha (gJ U).1 (aS hs.1 es _) (bV hs.2)).imp key
end
section
variable{K:NF}{H:Hp}{O:List Addr}
def zL(kvs)(i):iY (iq kvs) (Sum.inl i:Key)=(cH kvs i).map Sc.v:=by
 unfold iY iq cH;rw[find?_map,M8,M8];have e:((λz:Key×V=>decide (z.1=(Sum.inl i:Key)))∘λp:Int×Sc=>((Sum.inl p.1:Key),p.2.v))=λp:Int×Sc=>decide (p.1=i):=by
  funext p
  simp
 rw[e]
 rfl
def zM(kvs)(k):iY (ji kvs) (k.map Sum.inl)=(cH kvs k).map Sc.v:=by
 unfold iY ji cH;rw[find?_map,M8,M8];have e:((λz:List Key×V=>decide (z.1=k.map Sum.inl))∘λp:List Int×Sc=>((p.1.map Sum.inl:List Key),p.2.v))=λp:List Int×Sc=>decide (p.1=k):=by
  funext p
  exact Ny.mpr ⟨lY,λe=>Kn _ e⟩
 rw[e]
 rfl
def Ct(ns:List Int):(ns.map Sum.inl:List Key).map kV=ns.map V.int:=by
 rw[J3]
 rfl
def vJ(e:a8 xs=some ns)(r:bp K H O (.tup xs) u):∃b,u=.ref b/\H b=some (.tup ((ns.map Sum.inl:List Key).map kV)):=by
 have z:=dl e;subst z;obtain⟨b,us,rfl,h,t⟩:=r.tupH;have J:=t.ints;subst J;exact⟨b,rfl,by rw[Ct];exact h⟩
def qm(e:xb (.dI d) y=some o)(U:RdD H a d)(r:bp K H O y u):mr H a u (o.map Sc.v):=by
 cases d with
 |k kvs =>
  cases y<;>try (cases e;done)
  rename_i i;have z:=r.int;subst z;have J:=J2 e;rw[<- J,<- zL];exact .inl ⟨_,Sum.inl i,U.rd,rfl,rfl⟩
 |p ns=>cases y<;>cases e
 |t kvs =>
  cases y<;>try (cases e;done)
  rename_i xs;have e:(a8 xs).map _=some o:=e;rw[pe]at e;obtain⟨ns,z,J⟩:=e;obtain⟨b,rfl,Y⟩:=vJ z r;rw[<- J,<- zM];exact .inr ⟨_,_,b,U.rd,rfl,Y,rfl⟩
def zN(kvs)(k)(s):fU (iq kvs) (Sum.inl k:Key) s.v=iq (cK kvs k s):=by
 have z:((iq kvs).any λJ=>decide (J.1=(Sum.inl k:Key)))=kvs.any λp=>decide (p.1=k):=by
  unfold iq;rw[List.any_map]
  congr 1
  funext p
  simp
 unfold fU cK;rw[z];split
 .unfold iq;rw[J3,J3];refine La λp _=>?_
  by_cases h:p.1=k<;>simp[h]
 .unfold iq;rw[K8]
  rfl
def zO(kvs)(k)(s):fU (ji kvs) (k.map Sum.inl:List Key) s.v=ji (cK kvs k s):=by
 have J:∀q,_ ↔ q=k:=λq=>⟨lY,λe=>by rw[e]⟩
 have U:((ji kvs).any λY=>decide (Y.1=(k.map Sum.inl:List Key)))=kvs.any λp=>decide (p.1=k):=by
  unfold ji;rw[List.any_map]
  congr 1
  funext p
  simp_all
 unfold fU cK;rw[U];split
 .unfold ji;rw[J3,J3];refine La λp _=>?_
  by_cases h:p.1=k
  .have h2:=(J p.1).mpr h;simp[h]
  .have h2:¬ _=k.map Sum.inl:=λz=>h ((J p.1).mp z)
   simp[h,h2]
 .unfold ji;rw[K8]
  rfl
def vK{y:PV}{s:Sc}{a:Addr}{u:V}(e:qd d y s=some d')(U:H a=some (ir d))(r:bp K H O y u):mw H a u s.v (upd H a (ir d')):=by
 cases d with
 |p ns=>cases y<;>cases e
 |k kvs =>
  cases y<;>try (cases e;done)
  rename_i i;have J:=r.int;subst J;have z:(if kvs.length<10000 then some (DD.k (cK kvs i s))else none)=some d':=e;split at z
  .rename_i Y;cases z;show mw H a (.int i) s.v (upd H a (.dK (iq (cK kvs i s))));rw[<- zN];exact mw.k (k:=Sum.inl i) U (by unfold iq;rw[p0,KG];omega)
  .cases z
 |t kvs =>
  cases y<;>try (cases e;done)
  rename_i xs;have e:((a8 xs).bind λk=>if kvs.length<10000 then some (DD.t (cK kvs k s))else none)=some d':=e;rw[gf]at e;obtain⟨ns,J,z⟩:=e;obtain⟨b,rfl,Z⟩:=vJ J r;split at z
  .rename_i Y;cases z;show mw H a (.ref b) s.v (upd H a (.dT (ji (cK kvs ns s))));rw[<- zO];exact mw.t U Z (by unfold ji;rw[p0,KG];omega)
  .cases z
end
section
variable{X:Cx}{pins:List (Addr×Obj)}{σ:St}{H:Hp}{s:Shared}
def vL(I:Inv X pins σ H s)(h:RdD H a d):(a==sysModules)=false/\∃es ep,Dv.Ents s.heap a es ep/\aG ((dSc d).map Sc.v) (es.toList.map (·.val)):=by
 cases d with
 |k kvs =>
  obtain⟨_,hs,vs,r,o,es,ep,ho,hx,hd,_,z,_⟩:=jE I.hok h.rd;refine⟨hs,es,ep,⟨o,ho,hx,hd⟩,?_⟩;have gen:∀kvs vs l,KV (iq kvs) vs->Pairs (bY X.prog X.w) l vs->aG ((kvs.map (·.2)).map Sc.v) (l.map (·.val)):=by
   intro kvs
   induction kvs with
   |nil =>
    intro vs l r p;cases r;cases p;exact .nil
   |cons q kvs ih =>
    intro vs l r p;cases r with
    |cons J U =>
     cases p with
     |cons p1 p2 p3=>exact .cons (by have h:=J.2;rw[<- p2]at h;exact h) (ih _ _ U p3)
  exact gen kvs vs es.toList r z
 |p ns=>exact absurd h.2 pd
 |t kvs =>
  obtain⟨_,hs,xs,r,o,es,ep,ho,hx,hd,z,_⟩:=k_ I.hok h.rd;refine⟨hs,es,ep,⟨o,ho,hx,hd⟩,?_⟩;rw[z,J3];have gen:∀kvs xs,KT H (ji kvs) xs->aG ((kvs.map (·.2)).map Sc.v) (xs.map (·.2.2)):=by
   intro kvs
   induction kvs with
   |nil =>
    intro xs r;cases r;exact .nil
   |cons q kvs ih =>
    intro xs r;cases r with
    |cons J U=>exact .cons J.2.2 (ih _ U)
  exact gen kvs xs r
noncomputable def HP(p a:Addr):HO:=.ext λh=>h.IsValuesView p a
def ug{es:Array DictEntry}(h:ItemsOf (λi v=>∃e,es[i]?=some e/\v=e.val) acc es.size):acc.toList=es.toList.map (·.val):=by
 refine Nt λi=>?_
 rw[Kc,Ky,Ky];cases e:acc[i]? with
 |none =>
  have:acc.size<=i:=by simpa using e
  rw[LS (by rw[<- h.1];exact this)]
  rfl
 |some v =>
  obtain⟨q,z,rfl⟩:=h.2 i v e;rw[z]
  rfl
end
section
variable{X:Cx}{T:Tab}{k:Nat}{cal:Cal}
def Cu (J:attributeBase o "values" X.env (eval o X.env)=eval o X.env) (U:(ap.endLine==cp.line)=true) (ho:PE X o td) :
  PE X (.Call (.Attribute o "values" ap) [] [] cp) (λσ H Q=>td σ H λx H1=>∃a d,x=.ref a/\RdD H1 a d/\∀p,H1 p=none->Q (.ref p) (upd H1 p (HP p a))):=by
 intro pins s σ H Q I h;refine wpAny_Call_method J rfl U PySem.F.plainAttrs_dict PySem.F.slot_dict_values PySem.F.type_dict_values (thn (ho pins s σ H _ I h) λu Y ⟨x,H1,z,Z,a,d,ex,hd,q1⟩=>?_);subst ex;obtain rfl:u=Value.ref a:=Z;obtain⟨t1,t2,_⟩:=tD z (qi hd);refine⟨t1,t2,?_⟩;refine LR rfl (PyProof.Rows.evalArgs_empty ?_);obtain⟨hs,es,ep,x,_⟩:=vL z hd;refine Dv.values_of hs x ⟨.ref Y.heap.objs.size,_,z.laid (λb o e=>iA _ e) (pb _) ?_,rfl,q1 _ (z.hok.fresh (pb _))⟩;exact⟨⟨_,tr _ rfl,rfl,rfl⟩,⟨_,tr _ rfl⟩,λh1 h2 ⟨o,ho,r⟩ k=>⟨o,k o ho,r⟩⟩
def uh (hc:X.calm=true):bW X (.type "list") (λus H Q=>∃p a d,us=[.ref p]/\H p=some (HP p a)/\RdD H a d/\(dSc d).length<=10000/\∀l,H l=none->Q (.ref l) (upd H l (.lst ((dSc d).map Sc.v)))):=by
 intro pins s σ H xs us Q I r h;refine ax λZq U=>?_
 obtain⟨p,a,d,rfl,Y,Z,hl,q⟩:=h;obtain⟨u,rfl,ru⟩:=d_ r;cases ru;obtain⟨_,es,ep,x,vs⟩:=vL I Z;have hv:=(show bL X.prog X.w H s.heap p _ from I.hok p _ Y).1;have z:es.size=(dSc d).length:=by have:=vs.length;simp at this;omega
 refine U ?_;refine PySem.W.kdl_call (Dv.src) (I.ok.hd hc) ⟨hv,x⟩ (by rw[z,KG];omega) λh' tk J c kp e it=>?_
 refine⟨.ref s.heap.objs.size,_,I.laid kp (pb _) (o:=.lst _) ⟨by rw[p0,KG];omega,J.toList,c,?_,by rw[Array.toArray_toList];exact e⟩,rfl,q _ (I.hok.fresh (pb _))⟩;rw[ug it];exact vs
end
def qo:bootBuiltins "len"=some (.builtin "len"):=by decide +kernel
def m8:bootBuiltins "tuple"=some (.type "tuple"):=by decide +kernel
def qp:bootBuiltins "list"=some (.type "list"):=by decide +kernel
def pi:bootBuiltins "sorted"=some (.builtin "sorted"):=by decide +kernel
def Fg:bootBuiltins "any"=some (.builtin "any"):=by decide +kernel
def Fh:bootBuiltins "all"=some (.builtin "all"):=by decide +kernel
def Fi:bootBuiltins "max"=some (.builtin "max"):=by decide +kernel
def zP:bootBuiltins "int"=some (.type "int"):=by decide +kernel
def Cv:bootBuiltins "bool"=some (.type "bool"):=by decide +kernel
def qr:bootBuiltins "set"=some (.type "set"):=by decide +kernel
def oG:bootBuiltins "isinstance"=some (.builtin "isinstance"):=by decide +kernel
section
variable{X:Cx}{T:Tab}{k:Nat}{cal:Cal}
def Fj {p p2 pos:Pos} (g:Gf X T k cal) (U:dq f=some c) (hg:glB X.env.scope "isinstance"=true) (ht:t=(c:Str)) (Y:glB X.env.scope t=true)
  (Z:bootBuiltins c=some (.type c)) (ao:X.mg c=none) (hn:(c:Str) ≠ "__name__") (hd:((c:Str)==("__debug__":Str))=false) (h:PE X e (tE X.K cal m)) (hs:ag e=true):PE X (.Call (.Name "isinstance" p) [e,.Name t p2] [] pos) (tE X.K cal (.blt f [m])):=by
 subst ht;refine(eQ (E7 U) (dh hg) (g.blt "isinstance" (by decide)) oG (aK h (aK (Bq (v:=.ty c) (dh Y) ao Z rfl hn hd) bF rfl) (aS hs _ _)) (by decide) (by decide) (aS hs _ _) rfl).imp λσ H Q q=>?_
 obtain⟨B,E,O,W,v,st,z,q⟩:=q;rw[ev,gf]at z;obtain⟨vs,z,J⟩:=z;obtain⟨w,rfl,e3⟩:=rX z;have e5:isD w=false/\v=.bl (isT f w):=by
  cases hd:isD w with
  |true=>cases f<;>simp[dq,reduceCtorEq]at U<;>(simp only[aC,cf,hW,iZ,hd]at J;cases J)
  |false=>cases f<;>simp[dq,reduceCtorEq]at U<;>(simp[aC,cf,hW,iZ,hd,J5,KU,ti]at J;exact⟨rfl,J.symm⟩)
 obtain⟨e5,rfl⟩:=e5;refine⟨B,E,O,W,w,st,e3,λu H1 s1 g1=>⟨O,w,u,rfl,e5,g1.1,q _ H1 s1 (.of (d6 _ _))⟩⟩
def rZ {p p2 pos pos2:Pos} (g:Gf X T k cal) (hx:x=("sorted":Str)) (hy:y=("set":Str)) (hg:glB X.env.scope x=true) (U:glB X.env.scope y=true) (h:PE X e (tE X.K cal m)) (hs:ag e=true):PE X (.Call (.Name x p) [.Call (.Name y p2) [e] [] pos2] [] pos) (tF X.K cal (.blt .sortedSet [m])):=by
 subst hx hy;refine(eQ (rV g.calm) (dh hg) (g.blt "sorted" (by decide)) pi (aK (c9 (vG g.calm) (dh U) (g.blt "set" (by decide)) qr (aK h bF (aS hs _ _)) (by decide) (by decide) (aS hs _ _) rfl) bF rfl) (by decide) (by decide) rfl rfl).imp λσ H Q q=>?_
 refine ax λZq kq=>?_
 obtain⟨B,E,O,W,xs,st,J,q⟩:=q;rw[ev,gf]at J;obtain⟨vs,J,Z⟩:=J;obtain⟨w,rfl,e3⟩:=rX J;simp only[aC,cf,lH,hW,iZ,gf]at Z;obtain⟨ys,e4,ns,e5,Y⟩:=Z;refine kq ?_;split at Y
 .rename_i hc;cases Y;refine⟨B,E,O,W,w,st,e3,λu H1 s1 g1=>⟨O,w,u,ns,rfl,g1.1,by simp[e4,e5],hc.1,λl hl=>⟨l,_,rfl,az,?_,λp' z=>?_⟩⟩⟩
  .rw[ue];exact hc.2
  .rw[Cm];refine q p' _ _ ((s1.trans (aB hl _)).trans (aB z _)) (s1.free ((aB hl _).free z)) az (.of_ints _)
 .cases Y
def zQ {p p2 pos pos2:Pos} (g:Gf X T k cal) (hx:x=("len":Str)) (Z:y=("set":Str)) (hg:glB X.env.scope x=true) (J:glB X.env.scope y=true) (h:PE X e (tE X.K cal m)) (hs:ag e=true):PE X (.Call (.Name x p) [.Call (.Name y p2) [e] [] pos2] [] pos) (tE X.K cal (.blt .lenSet [m])):=by
 subst hx Z;refine(eQ qc (dh hg) (g.blt "len" (by decide)) qo (aK (c9 (vG g.calm) (dh J) (g.blt "set" (by decide)) qr (aK h bF (aS hs _ _)) (by decide) (by decide) (aS hs _ _) rfl) bF rfl) (by decide) (by decide) rfl rfl).imp λσ H Q q=>?_
 refine ax λZq kq=>?_
 obtain⟨B,E,O,W,v,st,z,q⟩:=q;rw[ev,gf]at z;obtain⟨vs,z,Y⟩:=z;obtain⟨w,rfl,e3⟩:=rX z;simp only[aC,cf,lH,hW,iZ,gf]at Y;obtain⟨ys,e4,ns,e5,U⟩:=Y;refine kq ?_;split at U
 .rename_i hc;cases U;refine⟨B,E,O,W,w,st,e3,λu H1 s1 g1=>⟨O,w,u,ns,rfl,g1.1,by simp[e4,e5],hc,λl hl=>⟨l,_,rfl,az,?_⟩⟩⟩;rw[ue];exact q _ _ (s1.trans (aB hl _)) (.of (bZ _ _))
 .cases U
def r6 {p p2 p3 q2 q3 q4 pos:Pos} (g:Gf X T k cal) (hx:x=("len":Str)) (hy:y=("set":Str)) (hz:z=("set":Str)) (hg:glB X.env.scope x=true) (ao:glB X.env.scope y=true) (ar:glB X.env.scope z=true) (ha:PE X a (tE X.K cal m1)) (hb:PE X b (tE X.K cal m2)) (J:ag a=true) (U:ag b=true) :
  PE X (.Call (.Name x p) [.BinOp (.Call (.Name y p2) [a] [] q2) .Sub (.Call (.Name z p3) [b] [] q3) q4] [] pos) (tE X.K cal (.blt .lenSetSub [m1,m2])):=by
 subst hx hy hz;refine(eQ rE (dh hg) (g.blt "len" (by decide)) qo (aK (uV w_ (c9 (vG g.calm) (dh ao) (g.blt "set" (by decide)) qr (aK ha bF (aS J _ _)) (by decide) (by decide) (aS J _ _) rfl) (c9 (vG g.calm) (dh ar) (g.blt "set" (by decide)) qr (aK hb bF (aS U _ _)) (by decide) (by decide) (aS U _ _) rfl)) bF rfl) (by decide) (by decide) rfl rfl).imp λσ H Q q=>?_
 refine ax λZq kq=>?_
 obtain⟨B,E,O,W,v,st,Y,q⟩:=q;rw[ev,gf]at Y;obtain⟨vs,Y,e2⟩:=Y;simp only[evs,gf,pe]at Y;obtain⟨v1,e3,w1,⟨v2,e4,w2,e5,rfl⟩,rfl⟩:=Y;cases e5;simp only[aC,cf,lH,hW,iZ,gf]at e2;obtain⟨xs,f1,ns,f2,ys,f3,ms,f4,f5⟩:=e2;refine kq ?_;split at f5
 .rename_i hc;cases f5;refine⟨B,E,O,W,v1,st,e3,λu H1 s1 g1=>⟨O,v1,u,ns,rfl,g1.1,by simp[f1,f2],hc.1,λl hl=>?_⟩⟩;refine⟨B,E,O,W,v2,st.mono (s1.trans (aB hl _)),e4,λu2 H2 s2 g2=>⟨O,v2,u2,ms,rfl,g2.1,by simp[f3,f4],hc.2.1,λl2 Z=>?_⟩⟩;refine⟨l,l2,_,_,rfl,rfl,(aB Z _) l _ (s2 l _ az),az,by rw[ue];exact hc.2.2,λp' a0=>⟨p',_,rfl,az,?_⟩⟩;have e6:((St.dd ns.reverse).filter λk=>!decide (k∈St.dd ms.reverse)).length=((dd ns).filter λn=>!decide (n∈ms)).length:=by
   rw[o8];have e7:(λk=>!decide (k∈St.dd ms.reverse))=λn=>!decide (n∈ms):=by
    funext k
    congr 1
    rw[Ny,St.fJ,NA]
   rw[e7];refine Perm.length_eq (Perm.filter _ ((Ls (St.dd_nodup _) (St.dd_nodup _)).mpr λa=>?_));rw[St.fJ,St.fJ,NA]
  rw[e6];exact q _ _ ((s1.trans (aB hl _)).trans (s2.trans ((aB Z _).trans (aB a0 _)))) (.of (bZ _ _))
 .cases f5
theorem r9 :∀{kvs}{ks}{vs},rP kvs ks vs=true->PPs X kpos ks vs (kvs.map λp=>(tC (.str p.1),tC (.str p.2)))/\ks.all (·.isSome)=true/\ks.length=vs.length/\ks.length=kvs.length
 | [],[],[],_=>⟨BN,rfl,rfl,rfl⟩
 |p::r,k::ks,v::vs,h=>by
  obtain⟨a,z⟩:=oe.mp h;obtain⟨h1,h2⟩:=oe.mp a;obtain⟨J,U,Y,Z⟩:=r9 (kpos:=kpos) z;cases k with
  |none=>cases h1
  |some k =>
   obtain⟨j,kp,rfl⟩:=vv (eq_of_beq h1);obtain⟨j2,vp,rfl⟩:=vv (eq_of_beq h2);exact⟨yB sW sW J,by rw[all_cons,U];rfl,by rw[length_cons,length_cons,Y],by rw[length_cons,length_cons,Z]⟩
 | [],_::_,_,h=>by cases h
 | [],[],_::_,h=>by cases h
 | _::_,[],_,h=>by cases h
 | _::_,_::_,[],h=>by cases h
theorem m9{σ:St}:∀{kvs:List (Str×Str)}{H}{Q},Q (kvs.map λp=>(V.str p.1,V.str p.2)) H->p5 (kvs.map λp=>(tC (.str p.1),tC (.str p.2))) σ H Q
 | [],_,_,h=>h
 |p::r,H,Q,h=>m9 (kvs:=r) (Q:=λps z=>Q ((V.str p.1,V.str p.2)::ps) z) h
def Fk(g:Gf X T k cal)(hd:rP kvs ks vs=true)(hl:kvs.length<=15)(h0:kvs.isEmpty=false)(hk:PE X i (tE X.K cal m))(hs:bq i=true):PE X (.Subscript (.Dict ks vs dp) i pos) (tE X.K cal (.disp kvs m)):=by
 have hu:X.A.units+1<cLine:=by have:=g.units;omega
 obtain⟨q1,q2,q3,q4⟩:=r9 (X:=X) (kpos:=dp) hd;have hn:ks≠[]:=λz=>by
  grind
 refine(u8 hu (BO q1 q2 q3 hn (by omega)) hk (by cases i<;>first|(intro _ _;rfl)|(simp[bq]at hs))).imp λσ H Q q=>?_
 obtain⟨B,E,O,W,v,st,J,q⟩:=q;rw[ev,gf]at J;obtain⟨w,J,Y⟩:=J;cases w with
 |str x =>
  have U:(iY (ik [] (o6 kvs)) (Sum.inr x)).bind (λv=>match v with|.str y=>some (PV.str y)|_=>none)=some v:=Y;rw[gf]at U;obtain⟨u,U,Z⟩:=U;cases u with
  |str y =>
   cases Z;intro p hp;refine m9 ⟨az,o6 kvs,by unfold o6;rw[J3];rfl,by unfold o6;rw[p0];exact hl,?_⟩;have s1:aj H (upd (upd H p (.dK [])) p (.dK (ik [] (o6 kvs)))):=λb o e=>by
    have hb:b≠p:=λz=>by rw[z,hp]at e;cases e
    rw[aX hb,aX hb];exact e
   refine⟨B,E,O,W,_,st.mono s1,J,λuy H2 s2 g2=>?_⟩;have ey:=g2.1.str;subst ey;exact⟨p,V.str y,rfl,.inl ⟨_,Sum.inr x,.inl (s2 _ _ az),rfl,U.symm⟩,q _ H2 (s1.trans s2) (.of (l0 _ _))⟩
  | _=>cases Z
 | _=>cases Y
def Fl (g:Gf X T k cal) (hg:glB X.env.scope ("len":Str)=true) (hn:aM X.N X.env.scope i y=true):PE X (.Call (.Name ("len":Str) p) [.Name y yp] [] pos) (tE X.K cal (.lenP i)):=by
 refine(eQ gF (dh hg) (g.blt "len" (by decide)) qo (aK (bT hn) bF rfl) (by decide) (by decide) rfl rfl).imp λσ H Q q=>?_
 refine ax λZq kq=>?_
 obtain⟨B,E,O,W,v,st,z,q⟩:=q;rw[ev]at z;have fin:∀ns a,H a=some (ir (.p ns))->v=.int ns.length->σ[i]?=some (some (.ref a))->∃u,σ[i]?=some (some u)/\∃a J,[u]=[V.ref a]/\(SqL X.K H a J\/SqT X.K H a J)/\Q (.int J.length) H:=λns a U hv Y=>by
  refine⟨_,Y,a,ns.map V.int,rfl,.inl (SqL.of U),?_⟩;rw[p0];subst hv;exact q _ H (aj.refl H) (.of (bZ _ _))
 refine kq ?_;cases Z:(W[i]?).join with
 |none=>rw[Z]at z;cases z
 |some m =>
  rw[Z]at z;obtain⟨u,Y,so⟩:=aR st Z;cases m with
  |ownD d|mutD d =>
   cases d with
   |p ns =>
    cases z;obtain⟨a,rfl,U,_⟩:=so;exact fin ns a U rfl Y
   | _=>cases z
  | _=>cases z
def r_{cond elt:ME}:∀W v,ev cal (.comp z src js cond elt) W=some v->∃xs,v=.lst xs:=λW v hv=>by
 rw[ev,gf]at hv;obtain⟨vs,_,hv⟩:=hv;rw[gf]at hv;obtain⟨xs,_,hv⟩:=hv;split at hv
 .simp at hv;obtain⟨ys,_,rfl⟩:=hv;exact⟨_,rfl⟩
 .cases hv
def eF(z:f=.listOf\/f=.sorted\/f=.sortedSet\/f=.sortedKeys\/f=.valuesOf) :∀W v,ev cal (.blt f ms) W=some v->∃xs,v=.lst xs:=λW v hv=>by
 rw[ev,gf]at hv;obtain⟨vs,_,hv⟩:=hv;rcases z with rfl|rfl|rfl|rfl|rfl
 .obtain⟨x,rfl⟩:=du hv (.inl rfl);simp only[aC,cf,lH,hW,iZ,pe]at hv;obtain⟨ys,_,rfl⟩:=hv;exact⟨_,rfl⟩
 .obtain⟨x,rfl⟩:=du hv (.inl rfl);simp only[aC,cf,lH,hW,iZ,gf]at hv;obtain⟨ys,_,hv⟩:=hv;unfold ip at hv;split at hv
  .split at hv
   .cases hv;exact⟨_,rfl⟩
   .simp only[pe]at hv;obtain⟨J,_,rfl⟩:=hv;exact⟨_,rfl⟩
  .cases hv
 .obtain⟨x,rfl⟩:=du hv (.inr (.inr (.inl rfl)));simp only[aC,cf,lH,hW,iZ,gf]at hv;obtain⟨ys,_,ns,_,hv⟩:=hv;split at hv
  .cases hv;exact⟨_,rfl⟩
  .cases hv
 .obtain⟨x,rfl⟩:=du hv (.inl rfl);simp only[aC,cf]at hv;split at hv
  .split at hv
   .cases hv;exact⟨_,rfl⟩
   .cases hv
  .cases hv
 .obtain⟨x,rfl⟩:=du hv (.inr (.inr (.inr (.inr rfl))));simp only[aC,cf]at hv;split at hv
  .grind
  .cases hv
def qt{cond:ME}(h:rO f cond ifs=true)(hc:∀c,f c=true->PT X c (tT X.K cal cond)):PF X ifs (tT X.K cal cond):=by
 match ifs,h with
 | [],h =>
  have e:cond=.cst (.bl true):=by
   simp[rO]at h;split at h
   .rfl
   .cases h
  subst e;intro pins s σ H Q I q;refine ax λU J=>?_
  obtain⟨B,E,O,W,b,st,z,q⟩:=q;simp only[evB,ev,bind_some,aZ,ti]at z;subst z;refine J ?_;exact El pins s σ H Q I (q H (aj.refl H))
 | [c],h=>exact Em (hc c h)
def kO(ao:tup=true->∃ts j tp,tg=.Tuple ts j tp)(g:Gf X T k cal)(h:mT X.env.scope tup (λxs=>chks T src X.N X.env.scope xs) k' it=true)(hs:∀xs,chks T src X.N X.env.scope xs=true->PA X xs (tEs X.K cal src)/\xs.all ag=true/\src.length=xs.length)
  (h1:∀m x,src=[m]->chks T src X.N X.env.scope [x]=true->PE X x (tE X.K cal m)):PI X tg it (tW X.K cal k' src)/\eV it=true:=by
 cases k' with
 |seq =>
  replace h:=oe.mp h
  obtain⟨z,h⟩:=h;refine⟨?_,z⟩;obtain⟨_,_,J⟩:=hs _ h;obtain⟨m,rfl⟩:=LY.mp J;cases U:aH m with
  |false=>exact HA U (h1 m it rfl h)
  |true =>
   have q1:=(b7 h).1.1;obtain⟨i,rfl⟩:=mU U;obtain⟨x,p,rfl,q⟩:=jO q1;exact HB q
 |rng =>
  replace h:=al h
  obtain⟨c,e1,h⟩:=h;obtain⟨p,pos,rfl⟩:=fu e1;simp only[mu,JZ,MX]at h;obtain⟨⟨⟨hx,Z⟩,Y⟩,z⟩:=h;obtain⟨q,a0,J⟩:=hs _ Y;exact⟨Co g hx Z q z a0 J,rfl⟩
 |enm =>
  replace h:=al h
  obtain⟨⟨x,a⟩,e1,h⟩:=h;obtain⟨p,pos,rfl⟩:=gH e1;simp only[mu,JZ]at h;obtain⟨⟨⟨⟨ht,hx⟩,Z⟩,Y⟩,z⟩:=h;obtain⟨ts,j,tp,rfl⟩:=ao ht;obtain⟨_,_,J⟩:=hs _ Y;refine⟨?_,rfl⟩;obtain⟨m,rfl⟩:=LY.mp J;cases U:aH m with
  |false=>exact HC g hx Z z U (h1 m a rfl Y)
  |true =>
   have q1:=(b7 Y).1.1;obtain⟨i,rfl⟩:=mU U;obtain⟨y,p,rfl,q⟩:=jO q1;exact Fa g hx Z q
 |rev=>cases h
def ui(K)(F)(s:Sc):Rep K F s.pv s.v:=by cases s<;>simp[Sc.pv,Sc.v,Rep]
def uj{K:NF}(e:sc? x=some s)(r:bp K H O x u):u=s.v:=by
 cases x<;>simp[sc?,ti,reduceCtorEq]at e<;>subst e
 .exact r.non
 .exact r.bl
 .exact r.int
 .exact r.str
def base_of(z:o7 o=true):attributeBase o n X.env (eval o X.env)=eval o X.env:=by
 cases o<;>first|rfl|(simp at z;done)|skip
 rename_i fn args kws pos;cases args with
 |nil=>simp[o7]at z
 |cons _ _=>cases fn<;>rfl
theorem vM(K)(F):∀ss:List Sc,Reps K F (ss.map Sc.pv) (ss.map Sc.v)
 | []=>rfl
 |s::ss=>⟨_,_,rfl,ui K F s,vM K F ss⟩
def zR (g:Gf X T k cal) (hx:x=("list":Str)) (hg:glB X.env.scope x=true) (h:PE X o (tE X.K cal m)) (hb:attributeBase o "values" X.env (eval o X.env)=eval o X.env) (J:(ap.endLine==cp.line)=true) :
  PE X (.Call (.Name x p) [.Call (.Attribute o "values" ap) [] [] cp] [] pos) (tF X.K cal (.blt .valuesOf [m])):=by
 subst hx;refine(c9 (uh g.calm) (dh hg) (g.blt "list" (by decide)) qp (aK (Cu hb J h) bF rfl) (by decide) (by decide) rfl rfl).imp λσ H Q q=>?_
 refine ax λZq kq=>?_
 obtain⟨B,E,O,W,xs,st,Y,q⟩:=q;rw[ev,gf]at Y;obtain⟨vs,Y,U⟩:=Y;obtain⟨w,rfl,e3⟩:=rX Y;have hd:∃d,w=.dI d/\(jL d).length<=10000/\xs=jL d:=by
  simp[aC,cf]at U;split at U
  .split at U
   .rename_i d J
    simp_all
   .cases U
  .cases U
 obtain⟨d,rfl,hz,rfl⟩:=hd;have Z:(dSc d).length<=10000:=by unfold jL at hz;rw[p0]at hz;exact hz
 refine kq ?_;refine⟨B,E,O,W,_,st,e3,λu H1 s1 g1=>?_⟩;obtain⟨a,rfl,ha⟩:=g1.1.dI;refine⟨a,d,rfl,ha,λp' z=>⟨p',a,d,rfl,az,aj.rdD (aB z _) ha,Z,λl J=>?_⟩⟩;refine q l _ _ ((s1.trans (aB z _)).trans (aB J _)) (s1.free ((aB z _).free J)) az ?_;exact vM _ _ _
def Cw{α:Type}:∀{es:List α},es.length=2->∃m z,es=[m,z]
 | [_,_],_=>⟨_,_,rfl⟩
def Fm {sc:Scope}{f:List Expr->Bool}{n:Nat}{args:List Expr} (J:lU sc f n .lenSetSub args=true):∃U y z Y p2 Z p3 q3 q4,args=[.BinOp (.Call (.Name U p2) [y] [] Z) .Sub (.Call (.Name z p3) [Y] [] q3) q4]/\U="set"/\glB sc U=true/\z="set"/\glB sc z=true/\f [y,Y]=true/\n=2:=by
 refine ax λZq kq=>?_
 obtain⟨a,e1,J⟩:=al J;obtain⟨⟨l,o,r,q4⟩,e2,J⟩:=al J;obtain⟨⟨U,y⟩,e3,J⟩:=al J;obtain⟨⟨z,Y⟩,e4,J⟩:=al J;simp only[mu,JZ]at J;obtain⟨⟨⟨⟨⟨⟨a0,a1⟩,a2⟩,a3⟩,a4⟩,a5⟩,a6⟩:=J;obtain⟨p2,Z,e3⟩:=gH e3;obtain⟨p3,q3,e4⟩:=gH e4;refine kq ?_;exact⟨U,y,z,Y,p2,Z,p3,q3,q4,by rw[cF e1,qf e2,e3,e4,a0],a1,a2,a3,a4,a5,a6⟩
def Cy {sc:Scope}{f:List Expr->Bool}{n:Nat}{args:List Expr} (z:lU sc f n .valuesOf args=true):∃y ap cp,args=[.Call (.Attribute y "values" ap) [] [] cp]/\o7 y=true/\ap.endLine=cp.line/\f [y]=true/\n=1:=by
 refine ax λZq J=>?_
 obtain⟨a,U,z⟩:=al z;obtain⟨⟨y,mm,ap,as,cp⟩,Y,z⟩:=al z;simp only[mu,JZ,LB]at z;obtain⟨⟨⟨⟨⟨Z,a1⟩,h3⟩,h4⟩,h5⟩,h6⟩:=z;refine J ?_;exact⟨y,ap,cp,by rw[cF U,t7 Y,Z,a1],h3,h4,h5,h6⟩
def sa{b:Blt}{es:List ME}{x:Str}{args:List Expr}{p pos:Pos}(g:Gf X T k cal)(hx:x=(rM b:Str))(Y:glB X.env.scope x=true)(J:lU X.env.scope (λxs=>chks T es X.N X.env.scope xs) es.length b args=true)
  (hs:∀xs,chks T es X.N X.env.scope xs=true->PA X xs (tEs X.K cal es)/\xs.all ag=true/\es.length=xs.length)
  (h1:∀m x,es=[m]->chks T es X.N X.env.scope [x]=true->PE X x (tE X.K cal m))
  (ck:∀m m' x x',es=[m,m']->chks T es X.N X.env.scope [x,x']=true->PE X x (tE X.K cal m)/\PE X x' (tE X.K cal m')) :
  (iu (.blt b es)=true->PE X (.Call (.Name x p) args [] pos) (tF X.K cal (.blt b es)))/\PE X (.Call (.Name x p) args [] pos) (tE X.K cal (.blt b es)):=by
 subst hx;have inst:∀{b:Blt}{args:List Expr} (c:String),glB X.env.scope (rM b)=true->dq b=some c->rM b="isinstance"->bootBuiltins c=some (.type c)->X.mg c=none->(c:Str) ≠ "__name__"->((c:Str)==("__debug__":Str))=false->rN X.env.scope (λxs=>chks T es X.N X.env.scope xs) es.length c args=true ->
   PE X (.Call (.Name (rM b) p) args [] pos) (tE X.K cal (.blt b es)):=λ{b args} c Y hc hb cl hm hn hd J=>by
  replace J:=al J
  obtain⟨⟨y,t0⟩,e1,J⟩:=J
  replace J:=al J
  obtain⟨⟨t,p2⟩,e2,J⟩:=J;obtain rfl:=lT e1;obtain rfl:=d5 (e:=t0) e2;simp only[mu,JZ]at J;obtain⟨⟨⟨h2,h3⟩,h4⟩,h5⟩:=J;obtain⟨m,rfl⟩:=LY.mp h5;rw[hb]at Y ⊢;exact Fj g hc Y h2 h3 cl hm hn hd (h1 m y rfl h4) (b7 h4).1.2
 have c1:∀{nm:Str},t_ X.env.scope (λxs=>chks T es X.N X.env.scope xs) es.length nm args=true->∃m y gg p2 pos2,es=[m]/\args=[.Call (.Name gg p2) [y] [] pos2]/\gg=nm/\glB X.env.scope gg=true/\PE X y (tE X.K cal m)/\ag y=true:=λ{nm} J=>by
  refine ax λZq kq=>?_
  replace J:=al J
  obtain⟨a,e1,J⟩:=J
  replace J:=al J
  obtain⟨⟨gg,y⟩,e2,J⟩:=J;obtain⟨p2,pos2,rfl⟩:=gH e2;simp only[mu,JZ]at J;obtain⟨⟨⟨h2,h3⟩,h4⟩,h5⟩:=J;obtain⟨m,rfl⟩:=LY.mp h5;refine kq ?_;exact⟨m,y,gg,p2,pos2,rfl,cF e1,h2,h3,h1 m y rfl h4,(b7 h4).1.2⟩
 have plain:∀{args:List Expr} (n:Nat),0<n->(some n==some es.length&&chks T es X.N X.env.scope args)=true->∃e r,args=e::r/\PA X (e::r) (tEs X.K cal es)/\(e::r).all ag=true:=λ{args} n cS J=>by
  simp only[mu,JZ,ti]at J;obtain⟨Z,U,q3⟩:=hs _ J.2;cases args with
  |nil=>rw[<- J.1]at q3;simp at q3;omega
  |cons e r=>exact⟨e,r,rfl,Z,U⟩
 cases b with
 |len =>
  obtain⟨e,r,er,Z,U⟩:=plain 1 (by decide) J;rw[er];exact⟨λz=>(by cases z),rY Hv Y (g.blt "len" (by decide)) qo (by decide) (by decide) Z U⟩
 |tupleOf =>
  obtain⟨e,r,er,Z,U⟩:=plain 1 (by decide) J;rw[er];exact⟨λz=>(by cases z),zK vF Y (g.blt "tuple" (by decide)) m8 (by decide) (by decide) Z U⟩
 |listOf =>
  obtain⟨e,r,er,Z,U⟩:=plain 1 (by decide) J;rw[er];have q:=Cs (p:=p) (pos:=pos) E6 Y (g.blt "list" (by decide)) qp (by decide) (by decide) Z U;exact⟨λ_=>q,eO (eF (.inl rfl)) q⟩
 |sorted =>
  obtain⟨e,r,er,Z,U⟩:=plain 1 (by decide) J;rw[er];have q:=Fe (p:=p) (pos:=pos) (zB g) Y (g.blt "sorted" (by decide)) pi (by decide) (by decide) Z U;exact⟨λ_=>q,eO (eF (.inr (.inl rfl))) q⟩
 |any =>
  obtain⟨e,r,er,Z,U⟩:=plain 1 (by decide) J;rw[er];exact⟨λz=>(by cases z),rY (Hx g.calm) Y (g.blt "any" (by decide)) Fg (by decide) (by decide) Z U⟩
 |all =>
  obtain⟨e,r,er,Z,U⟩:=plain 1 (by decide) J;rw[er];exact⟨λz=>(by cases z),rY (Hy g.calm) Y (g.blt "all" (by decide)) Fh (by decide) (by decide) Z U⟩
 |intOf =>
  obtain⟨e,r,er,Z,U⟩:=plain 1 (by decide) J;rw[er];exact⟨λz=>(by cases z),zK Hw Y (g.blt "int" (by decide)) zP (by decide) (by decide) Z U⟩
 |boolOf=>exact absurd J pd
 |max2=>exact absurd J pd
 |min2=>exact absurd J pd
 |isInt=>exact⟨λz=>(by cases z),inst "int" Y rfl rfl zP (g.blt "int" (by decide)) (by decide) (by decide) J⟩
 |isBool=>exact⟨λz=>(by cases z),inst "bool" Y rfl rfl Cv (g.blt "bool" (by decide)) (by decide) (by decide) J⟩
 |isStr=>exact absurd J pd
 |isList=>exact absurd J pd
 |isTuple=>exact⟨λz=>(by cases z),inst "tuple" Y rfl rfl m8 (g.blt "tuple" (by decide)) (by decide) (by decide) J⟩
 |sortedSet =>
  obtain⟨m,y,gg,p2,pos2,ee,ea,h2,h3,hp,b0⟩:=c1 J;rw[ee,ea];have q:=rZ (p:=p) (p2:=p2) (pos:=pos) (pos2:=pos2) g rfl h2 Y h3 hp b0;exact⟨λ_=>q,eO (eF (.inr (.inr (.inl rfl)))) q⟩
 |sum =>
  obtain⟨e,r,er,Z,U⟩:=plain 1 (by decide) J;rw[er];exact⟨λz=>(by cases z),rY (Hz g.calm) Y (g.blt "sum" (by decide)) PyProof.Rows.boot_sum (by decide) (by decide) Z U⟩
 |max1 =>
  obtain⟨e,r,er,Z,U⟩:=plain 1 (by decide) J;rw[er];exact⟨λz=>(by cases z),rY (E8 g.calm) Y (g.blt "max" (by decide)) Fi (by decide) (by decide) Z U⟩
 |sortedKeys=>exact absurd J pd
 |valuesOf =>
  refine ax λZq kq=>?_
  obtain⟨y,ap,cp,ea,h3,h4,h5,h6⟩:=Cy J;obtain⟨m,ee⟩:=LY.mp h6;have hy:=h1 m y ee h5;refine kq ?_;rw[ee,ea];have q:=zR (p:=p) (ap:=ap) (cp:=cp) (pos:=pos) g rfl Y hy (base_of h3) (by rw[h4];simp);exact⟨λ_=>q,eO (eF (.inr (.inr (.inr (.inr rfl))))) q⟩
 |min1=>cases J
 |tupleRev=>cases J
 |lenSet =>
  obtain⟨m,y,gg,p2,pos2,ee,ea,h2,h3,hp,b0⟩:=c1 J;rw[ee,ea];exact⟨λz=>(by cases z),zQ g rfl h2 Y h3 hp b0⟩
 |lenSetSub =>
  refine ax λZq kq=>?_
  obtain⟨gg,y,df,y',p2,U,p3,q3,q4,ea,a1,a2,a3,a4,a5,a6⟩:=Fm J;obtain⟨m,m',ee⟩:=Cw a6;obtain⟨b1,b2⟩:=ck m m' y y' ee a5;refine kq ?_;rw[ee]at a5 ⊢;rw[ea];exact⟨λz=>(by cases z),r6 g rfl a1 a3 Y a2 a4 b1 b2 (b7 a5).1.2 (b7 (b7 a5).2).1.2⟩
def HR(g:Gf X T k cal)(hk:PE X l (tE X.K cal mk))(Y:PE X r (tE X.K cal J))(hm:behindInMarks (if neg=true then CmpOp.NotIn else CmpOp.In) r=false) :
  PE X (.Compare l [if neg=true then CmpOp.NotIn else CmpOp.In] [r] pos) (tE X.K cal (.dIn neg mk J))/\PT X (.Compare l [if neg=true then CmpOp.NotIn else CmpOp.In] [r] pos) (tT X.K cal (.dIn neg mk J)):=by
 have hu:X.A.units+1<cLine:=by have:=g.units;omega
 have go:∀{σ}{H}{Q:Bool->Hp->Prop},(∃B E O W b,aE X.K B E O H W σ/\ev cal (.dIn neg mk J) W=some (.bl b)/\∀H',aj H H'->Q b H') ->
   tE X.K cal mk σ H λy H1=>tE X.K cal J σ H1 λx H2=>∃a o,x=.ref a/\mr H2 a y o/\Q (if neg=true then !o.isSome else o.isSome) H2:=λ{σ H Q} q=>by
  refine ax λZq Z=>?_
  obtain⟨B,E,O,W,b,st,z,q⟩:=q;rw[ev]at z;simp only[gf]at z;obtain⟨y,z,x,e2,U⟩:=z;refine Z ?_;refine⟨B,E,O,W,y,st,z,λuy H1 s1 g1=>⟨B,E,O,W,x,st.mono s1,e2,λux H2 s2 g2=>?_⟩⟩;rw[pe]at U;obtain⟨o,U,e4⟩:=U;cases x<;>try (cases U;done)
  obtain⟨a,rfl,Y⟩:=g2.1.dI;refine⟨a,_,rfl,qm U Y (g1.1.mono s2),?_⟩;rw[isSome_map,PV.bl.inj e4];exact q H2 (s1.trans s2)
 have ao:∀{σ}{H}{Q},tE X.K cal (.dIn neg mk J) σ H Q->∃B E O W b,aE X.K B E O H W σ/\ev cal (.dIn neg mk J) W=some (.bl b)/\∀H',aj H H'->Q (.bl b) H':=λ{σ H Q} q=>by
  refine ax λZq Z=>?_
  obtain⟨B,E,O,W,v,st,z,q⟩:=q;have hb:∃b,v=.bl b:=by
   rw[ev]at z;simp only[gf]at z;obtain⟨y,_,x,_,U⟩:=z;rw[pe]at U;obtain⟨o,_,e4⟩:=U;exact⟨_,e4.symm⟩
  obtain⟨b,rfl⟩:=hb;refine Z ?_;exact⟨B,E,O,W,b,st,z,λH' s=>q _ H' s (.of (d6 _ _))⟩
 have ar:∀{σ}{H}{Q},tT X.K cal (.dIn neg mk J) σ H Q->∃B E O W b,aE X.K B E O H W σ/\ev cal (.dIn neg mk J) W=some (.bl b)/\∀H',aj H H'->Q b H':=λ{σ H Q} q=>by
  refine ax λZq Z=>?_
  obtain⟨B,E,O,W,b,st,z,q⟩:=q;unfold evB at z;simp only[gf]at z;obtain⟨v,z,e2⟩:=z;refine Z ?_;cases v<;>simp only[aZ,reduceCtorEq,ti]at e2
  subst e2;exact⟨B,E,O,W,_,st,z,q⟩
 cases neg with
 |false =>
  refine⟨(xZ (yx hu hk Y) hm).imp λσ H Q q=>?_,(x0 (yx hu hk Y) hm).imp λσ H Q q=>?_⟩
  .exact go (Q:=λb H'=>Q (.bl b) H') (ao q)
  .exact go (Q:=λb H'=>∃c,V.bl b=.bl c/\Q c H') (by
    obtain⟨B,E,O,W,b,st,z,q⟩:=ar q;exact⟨B,E,O,W,b,st,z,λH' s=>⟨b,rfl,q H' s⟩⟩)
 |true =>
  refine⟨(xZ (oS hu hk Y) hm).imp λσ H Q q=>?_,(x0 (oS hu hk Y) hm).imp λσ H Q q=>?_⟩
  .exact go (Q:=λb H'=>Q (.bl b) H') (ao q)
  .exact go (Q:=λb H'=>∃c,V.bl b=.bl c/\Q c H') (by
    obtain⟨B,E,O,W,b,st,z,q⟩:=ar q;exact⟨B,E,O,W,b,st,z,λH' s=>⟨b,rfl,q H' s⟩⟩)
def Fn{ma mk md:ME}{o e f:Expr}{ap cp:Pos}(g:Gf X T k cal)(ha:PE X o (tE X.K cal ma))(hk:PE X e (tE X.K cal mk))(hd:PE X f (tE X.K cal md))(hb:o7 o=true)(hl:(ap.endLine==cp.line)=true)(h1:ag e=true)(h2:ag f=true) :
  PE X (.Call (.Attribute o "get" ap) [e,f] [] cp) (tE X.K cal (.dget ma mk md)):=by
 have hu:X.A.units+1<cLine:=by have:=g.units;omega
 have J:starEach [e,f] X.env=[(false,eval e X.env),(false,eval f X.env)]:=by rw[aS h1,aS h2];rfl
 have m:M2 X o "get" ap e f cp:=by
  refine⟨base_of hb,?_,hl,?_⟩
  .rw[J];rfl
  .rw[J];rfl
 refine(yC hu ha hk hd m).imp λσ H Q q=>?_
 refine ax λZq kq=>?_
 obtain⟨B,E,O,W,v,st,U,q⟩:=q;rw[ev]at U;simp only[gf,pe]at U;obtain⟨x,U,y,e2,z,e3,Y,e4,sz,e5,e6⟩:=U;refine kq ?_;cases x<;>try (cases e4;done)
 refine⟨B,E,O,W,_,st,U,λux H1 Z g1=>?_⟩;obtain⟨a,rfl,hH⟩:=g1.1.dI;refine⟨a,rfl,qi hH,B,E,O,W,_,st.mono Z,e2,λuy H2 s2 g2=>⟨B,E,O,W,z,st.mono (Z.trans s2),e3,λuz H3 s3 g3=>?_⟩⟩;refine⟨_,qm e4 (aj.rdD s3 (aj.rdD s2 hH)) (g2.1.mono s3),?_⟩;rw[uj e5 g3.1];have e7:(Y.map Sc.v).getD sz.v=(Y.getD sz).v:=by cases Y<;>rfl
 rw[e7];refine q _ H3 (Z.trans (s2.trans s3)) ?_;rw[<- e6];exact .of (ui _ _ _)
def HS(g:Gf X T k cal)(Z:PE X o (tE X.K cal ma))(hk:PE X i (tE X.K cal mk))(hs:bq i=true):PE X (.Subscript o i pos) (tE X.K cal (.dat ma mk)):=by
 have hu:X.A.units+1<cLine:=by have:=g.units;omega
 refine(u8 hu Z hk (by cases i<;>first|(intro _ _;rfl)|(simp[bq]at hs))).imp λσ H Q q=>?_
 refine ax λZq kq=>?_
 obtain⟨B,E,O,W,v,st,z,q⟩:=q;rw[ev]at z;simp[gf,pe]at z;obtain⟨x,z,y,e2,oo,J,sz,rfl,e6⟩:=z;refine kq ?_;cases x<;>try (cases J;done)
 refine⟨B,E,O,W,_,st,z,λux H1 U g1=>?_⟩;obtain⟨a,rfl,hH⟩:=g1.1.dI;refine⟨B,E,O,W,_,st.mono U,e2,λuy H2 Y g2=>?_⟩;refine⟨a,_,rfl,qm J (aj.rdD Y hH) g2.1,q _ H2 (U.trans Y) ?_⟩;rw[<- e6];exact .of (ui _ _ _)
end
mutual
theorem av{T:Tab}{k:Nat}{cal:Cal}:∀(me:ME) {X:Cx}{e:Expr},Gf X T k cal->chk T me X.N X.env.scope e=true->PE X e (tE X.K cal me)/\PT X e (tT X.K cal me)
 | .var i,X,e,g,h=>by
  replace h:=al h
  obtain⟨x,w,h⟩:=h;obtain rfl:=d5 w;exact⟨Dq h,bD (Dq h) rfl⟩
 | .bor i,X,e,g,h=>by
  replace h:=al h
  obtain⟨x,w,h⟩:=h;obtain rfl:=d5 w;exact⟨Dr h,bD (Dr h) rfl⟩
 | .cst v,X,e,g,h=>by
  replace h:=al h
  obtain⟨x,w,h⟩:=h;obtain rfl:=zj w;exact⟨Ds h,bD (Ds h) rfl⟩
 | .glob x v,X,e,g,h=>by
  replace h:=al h
  obtain⟨y,w,h⟩:=h;obtain rfl:=d5 w;exact⟨zz g h,bD (zz g h) rfl⟩
 | .bin op a b,X,e,g,h=>by
  replace h:=al h
  obtain⟨⟨l,o,r,pos⟩,w,h⟩:=h;obtain rfl:=qf w;simp only[mu,JZ]at h;obtain⟨⟨rfl,h1⟩,h2⟩:=h;have p:=HE (op:=op) (pos:=pos) (av a g h1).1 (av b g h2).1;exact⟨p,bD p rfl⟩
 | .neg _,X,e,g,h=>absurd (show false=true from h) pd
 | .not a,X,e,g,h=>by
  replace h:=al h
  obtain⟨⟨o,x,pos⟩,w,h⟩:=h;obtain rfl:=EF w
  replace h:=oe.mp h
  obtain⟨h2,h⟩:=h;obtain rfl:=eq_of_beq h2;exact⟨HF (av a g h).1,HG (av a g h).2⟩
 | .and a b,X,e,g,h=>by
  replace h:=al h
  obtain⟨⟨o,vs,pos⟩,w,h⟩:=h;obtain rfl:=zk w
  replace h:=oe.mp h
  obtain⟨h2,h⟩:=h;obtain rfl:=eq_of_beq h2;rcases vz h with⟨x,y,rfl,h1,h2⟩|⟨x,y,z,r,rfl,h1,h2⟩
  .exact⟨Dt (av a g h1).1 (x_ (av b g h2).1),Dw (av a g h1).2 (Br (av b g h2).2)⟩
  .exact⟨Dt (av a g h1).1 (av b g h2).1,Dw (av a g h1).2 (Du (av b g h2).2)⟩
 | .or a b,X,e,g,h=>by
  replace h:=al h
  obtain⟨⟨o,vs,pos⟩,w,h⟩:=h;obtain rfl:=zk w
  replace h:=oe.mp h
  obtain⟨h2,h⟩:=h;obtain rfl:=eq_of_beq h2;rcases vz h with⟨x,y,rfl,h1,h2⟩|⟨x,y,z,r,rfl,h1,h2⟩
  .exact⟨HH (av a g h1).1 (x_ (av b g h2).1),HI (av a g h1).2 (DO (av b g h2).2)⟩
  .exact⟨HH (av a g h1).1 (av b g h2).1,HI (av a g h1).2 (Du (av b g h2).2)⟩
 | .ite c a b,X,e,g,h=>by
  replace h:=al h
  obtain⟨q,w,h⟩:=h;obtain rfl:=EG w;simp only[mu,J4]at h;obtain⟨⟨⟨⟨h1,h2⟩,J⟩,h4⟩,h5⟩:=h;exact⟨HJ (av c g h1).2 (av a g h2).1 (av b g J).1 h4 h5,HK (av c g h1).2 (av a g h2).2 (av b g J).2⟩
 | .cmp op a b,X,e,g,h=>by
  replace h:=al h
  obtain⟨⟨l,o,r⟩,w,h⟩:=h;obtain⟨pos,rfl⟩:=vt w;simp only[mu,JZ,J4]at h;obtain⟨⟨⟨rfl,h1⟩,h2⟩,J⟩:=h;exact HL g (av a g h1).1 (av b g h2).1 J
 | .chain _ _ _ _ _,X,e,g,h=>absurd (show false=true from h) pd
 | .tup es,X,e,g,h=>by
  replace h:=al h
  obtain⟨q,w,h⟩:=h;obtain rfl:=t5 w;obtain⟨h1,h2⟩:=oe.mp h;have p:=HM (j:=q.2.1) (pos:=q.2.2) (sounds es g h1) h2;exact⟨p,bD p rfl⟩
 | .lst es,X,e,g,h=>by
  replace h:=al h
  obtain⟨q,w,h⟩:=h;obtain rfl:=t6 w
  replace h:=oe.mp h
  have p:=λ(pos:Pos)=>eO (λW v hv=>by
   rw[ev,gf]at hv;obtain⟨vs,_,hv⟩:=hv;split at hv
   .cases hv;exact⟨_,rfl⟩
   .cases hv) (Dx (pos:=pos) (sounds es g h.1) h.2)
  exact⟨p _,bD (p _) rfl⟩
 | .idx a i,X,e,g,h=>by
  replace h:=al h
  obtain⟨q,w,h⟩:=h;obtain rfl:=mS w;simp only[mu]at h;have p:=HN (pos:=q.2.2) (av a g h.1.1).1 (av i g h.1.2).1 h.2;exact⟨p,bD p rfl⟩
 | .slice a lo hi,X,e,g,h=>by
  replace h:=al h
  obtain⟨⟨v,l,u⟩,w,h⟩:=h;obtain⟨p2,pos,rfl⟩:=B6 w;simp only[mu]at h;obtain⟨⟨h1,h2⟩,J⟩:=h;have bd:∀{b:ME}{o:Option Expr},(∀e,chk T b X.N X.env.scope e=true->PE X e (tE X.K cal b))->qg (λe=>chk T b X.N X.env.scope e) (jm b) o=true->PO X o (tB1 X.K cal b):=λ{b o} hb h2=>by
   cases o with
   |none=>exact Fc h2
   |some l =>
    simp only[qg,mu,J4]at h2;exact Fd (hb l h2.1) h2.2
  have p:=Cr (p2:=p2) (pos:=pos) (av a g h1).1 (bd (λe he=>(av lo g he).1) h2) (bd (λe he=>(av hi g he).1) J);exact⟨p,bD p rfl⟩
 | .blt b es,X,e,g,h=>by
  replace h:=al h
  obtain⟨⟨x,args⟩,w,h⟩:=h;obtain⟨p,pos,rfl⟩:=fu w;simp only[mu,JZ]at h;obtain⟨⟨hx,hg⟩,ha⟩:=h;have q:=(sa (p:=p) (pos:=pos) g hx hg ha (λxs U=>⟨sounds es g U,bH U⟩) (λm x hm hx=>match es,hm with|[m'],rfl=>(av m' g (b7 hx).1.1).1) (λa b x x' hm hx=>match es,hm with|[m1,m2],rfl=>⟨(av m1 g (b7 hx).1.1).1,(av m2 g (b7 (b7 hx).2).1.1).1⟩)).2;exact⟨q,bD q rfl⟩
 | .call f es,X,e,g,h=>by
  replace h:=al h
  obtain⟨⟨x,args⟩,w,h⟩:=h;obtain⟨p,pos,rfl⟩:=fu w;simp only[mu,JZ]at h;obtain⟨⟨⟨h1,h2⟩,J⟩,h4⟩:=h;obtain⟨hs,hl⟩:=bH h4;have q:=Ff (p:=p) (pos:=pos) g h1 h2 J (soundA es g h4) hs hl;exact⟨q,bD q rfl⟩
 | .callD _ _ _,X,e,g,h=>absurd (show false=true from h) pd
 | .disp kvs m,X,e,g,h=>by
  obtain⟨q,e1,h⟩:=al (show onQ (zq e) (λq=>rP kvs q.1 q.2.1&&chk T m X.N X.env.scope q.2.2&&bq q.2.2&&decide (kvs.length<=15)&&!kvs.isEmpty)=true from h);obtain⟨ks,vs,a⟩:=q;obtain⟨p,pos,rfl⟩:=zr e1;obtain⟨a0,h5⟩:=oe.mp h;obtain⟨a1,h4⟩:=oe.mp a0;obtain⟨a2,J⟩:=oe.mp a1;obtain⟨h1,h2⟩:=oe.mp a2;have q:PE X (.Subscript (.Dict ks vs p) a pos) (tE X.K cal (.disp kvs m)):=Fk g h1 (KP h4) (by simpa using h5) (av m g h2).1 J;exact⟨q,bD q rfl⟩
 | .lenP i,X,e,g,h=>by
  replace h:=al h
  obtain⟨⟨x,y⟩,w,h⟩:=h;obtain⟨p,yp,pos,rfl⟩:=B8 w;simp only[mu,JZ]at h;obtain⟨⟨rfl,h2⟩,J⟩:=h;have q:PE X (.Call (.Name ("len":Str) p) [.Name y yp] [] pos) (tE X.K cal (.lenP i)):=Fl g h2 J;exact⟨q,bD q rfl⟩
 | .dIn neg mk ma,X,e,g,h=>by
  replace h:=al h
  obtain⟨⟨l,o,r⟩,w,h⟩:=h;obtain⟨pos,rfl⟩:=vt w;simp only[mu,JZ,J4]at h;obtain⟨⟨⟨rfl,h1⟩,h2⟩,J⟩:=h;exact HR g (av mk g h1).1 (av ma g h2).1 J
 | .dat ma mk,X,e,g,h=>by
  replace h:=al h
  obtain⟨q,w,h⟩:=h;obtain rfl:=mS w;simp only[mu]at h;have p:=HS (pos:=q.2.2) g (av ma g h.1.1).1 (av mk g h.1.2).1 h.2;exact⟨p,bD p rfl⟩
 | .dget ma mk md,X,e,g,h=>by
  replace h:=al h
  obtain⟨⟨o,m,ap,args,cp⟩,w,h⟩:=h;obtain rfl:=t7 w
  replace h:=al h
  obtain⟨⟨x,y⟩,w,h⟩:=h;obtain rfl:=lT w;simp only[mu,JZ]at h;obtain⟨⟨⟨⟨⟨⟨⟨rfl,h1⟩,h2⟩,J⟩,h4⟩,h5⟩,h6⟩,h7⟩:=h;have p:=Fn (ap:=ap) (cp:=cp) g (av ma g J).1 (av mk g h4).1 (av md g h5).1 h1 (by rw[h2];simp) h6 h7;exact⟨p,bD p rfl⟩
 | .comp k' src js cond elt,X,e,g,h=>by
  replace h:=kK h
  obtain⟨e,x,px,it,ifs,scope,pos,rfl,h⟩:=h;simp only[mu,J4]at h;obtain⟨⟨⟨⟨h1,h2⟩,J⟩,h4⟩,h5⟩:=h;have hw:=kO (tg:=.Name x px) (λz=>by cases z) g h2 (λxs U=>⟨sounds src g U,bH U⟩) (λm x hm hx=>match src,hm with|[m'],rfl=>(av m' g (b7 hx).1.1).1);have q:=eO r_ (uf (pos:=pos) g h1 hw.1 hw.2 (λY Z C fp=>qt J λc hc=>(av cond (g.blk x (dB X.N js) scope Y Z C fp) hc).2) (λY Z C fp=>(av elt (g.blk x (dB X.N js) scope Y Z C fp) h4).1) h5);exact⟨q,bD q rfl⟩
theorem sounds{T:Tab}{k:Nat}{cal:Cal}:∀(ms:List ME) {X:Cx}{es:List Expr},Gf X T k cal->chks T ms X.N X.env.scope es=true->PA X es (tEs X.K cal ms)
 | [],X,es,g,h=>by
  cases es with
  |nil=>exact Cq
  |cons _ _=>cases h
 |m::ms,X,es,g,h=>by
  cases es with
  |nil=>cases h
  |cons e es =>
   replace h:=b7 h
   exact zG (av m g h.1.1).1 (sounds ms g h.2) h.1.2
theorem soundA{T:Tab}{k:Nat}{cal:Cal}:∀(ms:List ME) {X:Cx}{es:List Expr},Gf X T k cal->chks T ms X.N X.env.scope es=true->PA X es (tAs X.K cal ms)
 | [],X,es,g,h=>by
  cases es with
  |nil=>exact zH
  |cons _ _=>cases h
 |m::ms,X,es,g,h=>by
  cases es with
  |nil=>cases h
  |cons e es =>
   replace h:=b7 h
   have hs:=soundA ms g h.2;cases z:aH m with
   |false=>exact xl z (av m g h.1.1).1 hs h.1.2
   |true =>
    obtain⟨i,rfl⟩:=mU z;obtain⟨x,p,rfl,h1⟩:=jO h.1.1;exact zJ h1 hs
end
def Fo(g:Gf X T k cal)(h:chk T me X.N X.env.scope e=true)(hf:iu me=true):PE X e (tF X.K cal me):=by
 cases me with
 |lst es =>
  replace h:=al h
  obtain⟨q,w,h⟩:=h;obtain rfl:=t6 w
  replace h:=oe.mp h
  exact Dx (sounds es g h.1) h.2
 |blt b es =>
  replace h:=al h
  obtain⟨⟨x,args⟩,w,h⟩:=h;obtain⟨p,pos,rfl⟩:=fu w;simp[mu,JZ]at h;obtain⟨⟨hx,hg⟩,ha⟩:=h;exact(sa (p:=p) (pos:=pos) g hx hg ha (λxs J=>⟨sounds es g J,bH J⟩) (λm x Z hx=>match es,Z with|[m'],rfl=>(av m' g (b7 hx).1.1).1) (λa b x x' Z hx=>match es,Z with|[m1,m2],rfl=>⟨(av m1 g (b7 hx).1.1).1,(av m2 g (b7 (b7 hx).2).1.1).1⟩)).1 hf
 |comp k' src js cond elt =>
  replace h:=kK h
  obtain⟨e,x,px,it,ifs,scope,pos,rfl,h⟩:=h;simp only[mu,J4]at h;obtain⟨⟨⟨⟨h1,h2⟩,h3⟩,h4⟩,h5⟩:=h;have hw:=kO (tg:=.Name x px) (λz=>by cases z) g h2 (λxs J=>⟨sounds src g J,bH J⟩) (λm x Z hx=>match src,Z with|[m'],rfl=>(av m' g (b7 hx).1.1).1);exact uf g h1 hw.1 hw.2 (λU Y C fp=>qt h3 λc hc=>(av cond (g.blk x _ scope U Y C fp) hc).2) (λU Y C fp=>(av elt (g.blk x _ scope U Y C fp) h4).1) h5
 | _=>cases hf
noncomputable def HU:MV->Bool
 | .brw _=>true
 | .brwD _=>true
 | _=>false
def vN(h1:hZ m=true)(h2:HU m=true):False:=by cases m<;>first|(cases h2;done)|(cases h1;done)
structure be(B:Hp)(O O':List Addr)(W l:Rho)(σ F:St):Prop where
 stay:∀a,B a≠none->a∈O->a∈O'
 new:∀a∈O',a∈O\/B a=none
 brw:∀(i:Nat) (m:MV),HU m=true->l[i]?=some (some m)->W[i]?=some (some m)/\F[i]?=σ[i]?
 len:l.length=W.length
 mutK:∀(i:Nat) (d':DD),l[i]?=some (some (.mutD d'))->(∃d,W[i]?=some (some (.mutD d)))/\F[i]?=σ[i]?
def be.refl :be B O O W W σ σ:=⟨λ_ _ h=>h,λ_ h=>.inl h,λ_ _ _ h=>⟨h,rfl⟩,rfl,λ_ d' h=>⟨⟨d',h⟩,rfl⟩⟩
theorem be.trans(a:be B O O1 W z σ J)(b:be B O1 O2 z U J Y):be B O O2 W U σ Y where
 stay:=λx h1 h2=>b.stay x h1 (a.stay x h1 h2)
 new:=λx h=>(b.new x h).elim (a.new x) .inr
 brw:=λi xs hm h=>by
  obtain⟨h1,Z⟩:=b.brw i xs hm h;obtain⟨h2,e2⟩:=a.brw i xs hm h1;exact⟨h2,Z.trans e2⟩
 len:=b.len.trans a.len
 mutK:=λi d' h=>by
  obtain⟨⟨d1,h1⟩,Z⟩:=b.mutK i d' h;obtain⟨h2,e2⟩:=a.mutK i d1 h1;exact⟨h2,Z.trans e2⟩
def gh(K:NF)(B:Hp)(E O:List Addr)(W:Rho)(σ:St)(D:Bo):R->Prop
 | .next l=>∀F H' z,aE K B E z H' l F->be B O z W l σ F->D.nx F H'
 | .brk l=>∀F H' z,aE K B E z H' l F->be B O z W l σ F->D.bk F H'
 | .cont l=>∀F H' z,aE K B E z H' l F->be B O z W l σ F->D.ct F H'
 | .ret v=>∀u H',aj B H'->Rep K (aw H' E) v u->D.rt u H'
 | .retM v l=>∀u F H' z,aE K B E z H' l F->be B O z W l σ F->Rep K (aw H' z) v u->D.rt u H'
 | .retF xs=>∀p us H',aj B H'->B p=none->H' p=some (.lst us)->Reps K (aw H' (p::E)) xs us->D.rt (.ref p) H'
 | .bad=>False
theorem gh.trans{K:NF}(h:gh K B E O W σ D r)(k:be B O Y W l σ F):gh K B E Y l F D r:=by
 cases r<;>first|exact λz H2 J st U=>h z H2 J st (k.trans U)|exact h|exact λu z H2 J st U=>h u z H2 J st (k.trans U)
noncomputable def tS(K:NF)(cal:Cal)(m:MS):TS:=λD σ H=>∃B E O W,aE K B E O H W σ/\gh K B E O W σ D (ex cal m W)
noncomputable def tSs(K:NF)(cal:Cal)(ms:List MS):TS:=λD σ H=>∃B E O W,aE K B E O H W σ/\gh K B E O W σ D (exs cal ms W)
section
variable{K:NF}{B H H':Hp}{E O:List Addr}{W:Rho}{σ:St}
def ah(h:i<W.length):(put W i m)[i]?=some (some m):=by unfold put;exact Lg h
def af(h:i≠j):(put W i m)[j]?=W[j]?:=by unfold put;exact Kj h
def put_len :(put W i m).length=W.length:=by unfold put;exact Ly
def aE.store(st:aE K B E O H W σ)(hi:i<σ.length)(r:Rep K (aw H O) v u):aE K B E O H (put W i (.val v)) (σ.set i (some u))/\be B O O W (put W i (.val v)) σ (σ.set i (some u)):=by
 have J:i<W.length:=by rw[st.len];exact hi
 refine⟨⟨st.keep,st.here,st.sub,st.old,by rw[put_len,Ly];exact st.len,λj m e=>?_,λa b xs ys ad ao Y Z o1 o2 e3 e4=>?_
  ⟩,⟨λ_ _ h=>h,λ_ h=>.inl h,λj xs ar e=>?_,put_len
  ,λj d' e=>?_
  ⟩⟩
 .by_cases U:i=j
  .subst U;rw[ah J]at e;cases e;exact⟨u,Lg hi,r⟩
  .rw[af U]at e;obtain⟨w,Y,q⟩:=st.slot j m e;exact⟨w,by rw[Kj U];exact Y,q⟩
 .have h1:i≠a:=λz=>by subst z;rw[ah J]at Y;cases Y;cases o1
  have h2:i≠b:=λz=>by subst z;rw[ah J]at Z;cases Z;cases o2
  rw[af h1]at Y;rw[af h2]at Z;rw[Kj h1]at e3;rw[Kj h2]at e4;exact st.apart a b xs ys ad ao Y Z o1 o2 e3 e4
 .have U:i≠j:=λz=>by subst z;rw[ah J]at e;cases e;cases ar
  rw[af U]at e;exact⟨e,Kj U⟩
 .have U:i≠j:=λz=>by subst z;rw[ah J]at e;cases e
  rw[af U]at e;exact⟨⟨d',e⟩,Kj U⟩
def aE.storeM(st:aE K B E O H W σ)(hi:i<σ.length)(s:aj H H')(hp:H p=none)(e:H' p≠none)(hm:hZ mm=true)
  (bA:∀d,mm≠.mutD d)
  (r:B p=none->eU K B (p::O) H' mm (.ref p))
  :
  aE K B E (p::O) H' (put W i mm) (σ.set i (some (.ref p)))/\be B O (p::O) W (put W i mm) σ (σ.set i (some (.ref p))):=by
 have a0:i<W.length:=by rw[st.len];exact hi
 have a3:=st.keep.free hp;have ao:aj (aw H O) (aw H' (p::O)):=bM s λb Z=>by
  rcases wh.mp Z with rfl|Z
  .exact .inr hp
  .exact .inl Z
 refine⟨⟨st.keep.trans s,λa J=>?_,λa J=>KH _ (st.sub a J),st.old,by rw[put_len,Ly];exact st.len,λj m U=>?_,λa b xs ys ad a4 e1 Y o1 o2 e3 e4=>?_
  ⟩,⟨λ_ _ h=>KH _ h,λa J=>?_,λj xs bB U=>?_,put_len
  ,λj d' U=>?_
  ⟩⟩
 .rcases wh.mp J with rfl|J
  .exact e
  .exact λz=>st.here a J (s.free z)
 .by_cases hj:i=j
  .subst hj;rw[ah a0]at U;cases U;exact⟨_,Lg hi,r a3⟩
  .rw[af hj]at U;obtain⟨w,e1,q⟩:=st.slot j m U;refine⟨w,by rw[Kj hj];exact e1,?_⟩;cases m with
   |val v=>exact Rep.mono ao _ q
   |own ys=>obtain⟨a,ws,Y,h1,h2,h3,h4⟩:=q;exact⟨a,ws,Y,s _ _ h1,Reps.mono ao _ h2,KH _ h3,h4⟩
   |brw ys=>obtain⟨a,ws,Y,h1,h2⟩:=q;exact⟨a,ws,Y,h1,Reps.mono ao _ h2⟩
   |brwD ys=>exact q
   | _=>obtain⟨a,Y,h1,h3,h4⟩:=q;exact⟨a,Y,h1.move (s _) ao,KH _ h3,h4⟩
 .have other:∀(j:Nat) zs ad,W[j]?=some (some zs)->hZ zs=true->σ[j]?=some (some (.ref ad))->ad≠p:=λj zs ad h1 ho h2 z=>by
   obtain⟨w,e1,q⟩:=st.slot j _ h1;rw[h2]at e1;cases e1;cases zs with
   |own zs =>
    obtain⟨a,ws,Y,h1,_⟩:=q;cases Y;rw[z,hp]at h1;cases h1
   |ownD zs|mutD zs =>
    obtain⟨a,Y,h1,_⟩:=q;cases Y;obtain⟨o,h1⟩:=h1.here;rw[z,hp]at h1;cases h1
   | _=>cases ho
  by_cases J:i=a
  .subst J;have Z:=a4;rw[Lg hi]at e3;rw[af Z]at Y;rw[Kj Z]at e4;cases e3;exact other b ys _ Y o2 e4 rfl
  .by_cases Z:i=b
   .subst Z;rw[Lg hi]at e4;rw[af J]at e1;rw[Kj J]at e3;cases e4;exact other a xs _ e1 o1 e3 rfl
   .rw[af J]at e1;rw[af Z]at Y;rw[Kj J]at e3;rw[Kj Z]at e4;exact st.apart a b _ _ ad a4 e1 Y o1 o2 e3 e4
 .rcases wh.mp J with rfl|J
  .exact .inr a3
  .exact .inl J
 .have hj:i≠j:=λz=>by subst z;rw[ah a0]at U;cases U;exact vN hm bB
  rw[af hj]at U;exact⟨U,Kj hj⟩
 .have hj:i≠j:=λz=>by subst z;rw[ah a0]at U;cases U;exact bA d' rfl
  rw[af hj]at U;exact⟨⟨d',U⟩,Kj hj⟩
def aE.storeOwn(st:aE K B E O H W σ)(hi:i<σ.length)(s:aj H H')(J:H p=none)(e:H' p=some (.lst us))(r:Reps K (aw H' (p::O)) xs us) :
  aE K B E (p::O) H' (put W i (.own xs)) (σ.set i (some (.ref p)))/\be B O (p::O) W (put W i (.own xs)) σ (σ.set i (some (.ref p))):=
 st.storeM hi s J (by rw[e];simp) rfl (λ_ z=>by cases z) λU=>⟨p,us,rfl,e,r,K1,U⟩
def aE.changeM(st:aE K B E O H W σ)(e:W[i]?=some (some m0))(o0:hZ m0=true)(o1:hZ m1=true)
  (om:∀d',m1=.mutD d'->∃d,m0=.mutD d)
  (es:σ[i]?=some (some (.ref a))) (h3:a∈O) (h4:B a=none) (r:aw (upd H a ob) O=aw H O->eU K B O (upd H a ob) m1 (.ref a))
  :
  aE K B E O (upd H a ob) (put W i m1) σ/\be B O O W (put W i m1) σ σ:=by
 have ao:=(G1.mp e).1;have Y:aw (upd H a ob) O=aw H O:=iy h3;have other:∀j zs ad,i≠j->W[j]?=some (some zs)->hZ zs=true->σ[j]?=some (some (.ref ad))->ad≠a:=λj zs ad U Z o2 q2 z=>by
  subst z;exact st.apart i j m0 zs ad U e Z o0 o2 es q2
 refine⟨⟨λb u eb=>?_,λb hb=>?_,st.sub,st.old,by rw[put_len];exact st.len,λj m J=>?_,λc d ps qs ad a4 e1 e2 p1 p2 e3 e4=>?_
  ⟩,⟨λ_ _ h=>h,λ_ h=>.inl h,λj zs bA J=>?_,put_len
  ,λj d' J=>?_
  ⟩⟩
 .rw[aX (cx eb h4)];exact st.keep b u eb
 .unfold upd;split
  .simp
  .exact st.here b hb
 .by_cases U:i=j
  .subst U;rw[ah ao]at J;cases J;exact⟨_,es,r Y⟩
  .rw[af U]at J;obtain⟨w,ew,q⟩:=st.slot j m J;refine⟨w,ew,?_⟩;cases m with
   |val v=>show Rep K (aw (upd H a ob) O) v w;rw[Y];exact q
   |own zs =>
    obtain⟨ad,ws,rfl,Z,q2,q3,q4⟩:=q;refine⟨ad,ws,rfl,?_,by rw[Y];exact q2,q3,q4⟩;rw[aX (other j (.own zs) ad U J rfl ew)];exact Z
   |ownD zs =>
    obtain⟨ad,rfl,Z,q3,q4⟩:=q;refine⟨ad,rfl,Z.move (λo eo=>?_) (by rw[Y];exact aj.refl _),q3,q4⟩;rw[aX (other j (.ownD zs) ad U J rfl ew)];exact eo
   |mutD zs =>
    obtain⟨ad,rfl,Z,q3,q4⟩:=q;refine⟨ad,rfl,Z.move (λo eo=>?_) (by rw[Y];exact aj.refl _),q3,q4⟩;rw[aX (other j (.mutD zs) ad U J rfl ew)];exact eo
   |brwD zs=>exact q
   |brw zs=>obtain⟨ad,ws,rfl,Z,q2⟩:=q;exact⟨ad,ws,rfl,Z,by rw[Y];exact q2⟩
 .have h1:∀j zs,(put W i m1)[j]?=some (some zs)->hZ zs=true->∃zs,W[j]?=some (some zs)/\hZ zs=true:=λj zs q oz=>by
   by_cases U:i=j
   .subst U;exact⟨m0,e,o0⟩
   .rw[af U]at q;exact⟨zs,q,oz⟩
  obtain⟨Z,e1,p1⟩:=h1 c ps e1 p1;obtain⟨q2,e2,p2⟩:=h1 d qs e2 p2;exact st.apart c d Z q2 ad a4 e1 e2 p1 p2 e3 e4
 .have U:i≠j:=λz=>by subst z;rw[ah ao]at J;cases J;exact vN o1 bA
  rw[af U]at J;exact⟨J,rfl⟩
 .by_cases U:i=j
  .subst U;rw[ah ao]at J;cases J;obtain⟨d,rfl⟩:=om d' rfl;exact⟨⟨d,e⟩,rfl⟩
  .rw[af U]at J;exact⟨⟨d',J⟩,rfl⟩
def aE.change(st:aE K B E O H W σ)(e:W[i]?=some (some (.own xs)))(es:σ[i]?=some (some (.ref a)))(r:Reps K (aw H O) ys us) :
  aE K B E O (upd H a (.lst us)) (put W i (.own ys)) σ/\be B O O W (put W i (.own ys)) σ σ:=by
 refine ax λZq kq=>?_
 obtain⟨w,U,a',ar,e2,h1,h2,Y,Z⟩:=st.slot i _ e;rw[es]at U;cases U;cases e2;refine kq ?_;exact st.changeM e rfl rfl (λ_ z=>by cases z) es Y Z λJ=>⟨a,us,rfl,az,by rw[J];exact r,Y,Z⟩
def aE.changeD(st:aE K B E O H W σ)(e:W[i]?=some (some (.ownD xs)))(es:σ[i]?=some (some (.ref a)))(hd:aw (upd H a U) O=aw H O->DAt K (upd H a U) O a ys) :
  aE K B E O (upd H a U) (put W i (.ownD ys)) σ/\be B O O W (put W i (.ownD ys)) σ σ:=by
 refine ax λZq kq=>?_
 obtain⟨w,Y,a',e2,h1,Z,h4⟩:=st.slot i _ e;rw[es]at Y;cases Y;cases e2;refine kq ?_;exact st.changeM e rfl rfl (λ_ z=>by cases z) es Z h4 λJ=>⟨a,rfl,hd J,Z,h4⟩
def aE.changeU(st:aE K B E O H W σ)(e:W[i]?=some (some (.mutD xs)))(es:σ[i]?=some (some (.ref a)))(hd:aw (upd H a J) O=aw H O->DAt K (upd H a J) O a ys) :
  aE K B E O (upd H a J) (put W i (.mutD ys)) σ/\be B O O W (put W i (.mutD ys)) σ σ:=by
 refine ax λZq kq=>?_
 obtain⟨w,U,a',e2,h1,Y,Z⟩:=st.slot i _ e;rw[es]at U;cases U;cases e2;refine kq ?_;exact st.changeM e rfl rfl (λ_ _=>⟨_,rfl⟩) es Y Z λz=>⟨a,rfl,hd z,Y,Z⟩
def aE.freeze(st:aE K B E O H W σ)(e:W[i]?=some (some (.own xs))):∃O',aE K B E O' H (put W i (.val (.lst xs))) σ/\be B O O' W (put W i (.val (.lst xs))) σ σ:=by
 refine ax λZq kq=>?_
 obtain⟨w,es,a,us,rfl,h1,h2,h3,h4⟩:=st.slot i _ e;have ao:=(G1.mp e).1;have U:aj (aw H O) (aw H (O.filter λb=>decide (b≠a))):=bM (aj.refl H) λb Y=>.inl (Kg.mp Y).1
 have mem:∀b,b≠a->b∈O->b∈O.filter λb=>decide (b≠a):=λb Y ho=>Kg.mpr ⟨ho,J9 Y⟩
 refine kq ?_;refine⟨O.filter λb=>decide (b≠a),⟨st.keep,λb Y=>st.here b (Kg.mp Y).1,λb Y=>mem b (λz=>st.old b Y (z▸h4)) (st.sub b Y),st.old,by rw[put_len];exact st.len,λj m J=>?_,λc d ps qs ad a2 e1 e2 p1 p2 e3 e4=>?_
  ⟩,⟨λb Y ho=>mem b (λz=>Y (z▸h4)) ho,λb Y=>.inl (Kg.mp Y).1,λj zs a3 J=>?_,put_len
  ,λj d' J=>?_
  ⟩⟩
 .by_cases Z:i=j
  .subst Z;rw[ah ao]at J;cases J;refine⟨_,es,?_⟩;show Rep K _ (.lst xs) (.ref a);rw[Rep];refine⟨a,us,rfl,SqL.of ?_,Reps.mono U _ h2⟩;have a4:a∉O.filter λb=>decide (b≠a):=λz=>by simpa using (Kg.mp z).2
   rw[aV a4];exact h1
  .rw[af Z]at J;obtain⟨w,ew,q⟩:=st.slot j m J;refine⟨w,ew,?_⟩;cases m with
   |val v=>exact Rep.mono U _ q
   |own zs =>
    obtain⟨ad,ws,rfl,q1,q2,q3,q4⟩:=q;exact⟨ad,ws,rfl,q1,Reps.mono U _ q2,mem ad (λz=>st.apart i j (.own xs) (.own zs) a Z e J rfl rfl es (by rw[ew,z])) q3,q4⟩
   |ownD zs =>
    obtain⟨ad,rfl,q1,q3,q4⟩:=q;exact⟨ad,rfl,q1.move (λ_ eo=>eo) U,mem ad (λz=>st.apart i j (.own xs) (.ownD zs) a Z e J rfl rfl es (by rw[ew,z])) q3,q4⟩
   |mutD zs =>
    obtain⟨ad,rfl,q1,q3,q4⟩:=q;exact⟨ad,rfl,q1.move (λ_ eo=>eo) U,mem ad (λz=>st.apart i j (.own xs) (.mutD zs) a Z e J rfl rfl es (by rw[ew,z])) q3,q4⟩
   |brwD zs=>exact q
   |brw zs=>obtain⟨ad,ws,rfl,q1,q2⟩:=q;exact⟨ad,ws,rfl,q1,Reps.mono U _ q2⟩
 .have h1:∀j zs,hZ zs=true->(put W i (.val (.lst xs)))[j]?=some (some zs)->W[j]?=some (some zs):=λj zs oz q=>by
   by_cases Z:i=j
   .subst Z;rw[ah ao]at q;cases q;cases oz
   .rw[af Z]at q;exact q
  exact st.apart c d ps qs ad a2 (h1 c ps p1 e1) (h1 d qs p2 e2) p1 p2 e3 e4
 .have Z:i≠j:=λz=>by subst z;rw[ah ao]at J;cases J;cases a3
  rw[af Z]at J;exact⟨J,rfl⟩
 .have Z:i≠j:=λz=>by subst z;rw[ah ao]at J;cases J
  rw[af Z]at J;exact⟨⟨d',J⟩,rfl⟩
end
section
open AutoSeq1 (wpAny_loadPart')
open MeetsSeq MeetsSeq2 MeetsSeq3 SeqRoads2 AutoSeq1
def qu(l)(items)(n)(b)(z)(n2)(J)(U)(ar:¬(!items.isEmpty&&Builtin.List.listTooLong (items.size+z.size))=true)(Y:items.size<=sizeLine)(aO:items.size+z.size<=sizeLine+1) :
  Meets (Builtin.«list.extend» ⟨[.ref l,.ref b],[]⟩) (λ_ R s=>s.heap.get? l=some { cls:=.type "list",dict:=none,data:=.seq items n,slots:=#[] }/\s.heap.get? b=some { cls:=.type "tuple",dict:=J,data:=.seq z n2,slots:=U }/\R (.ok (.ret Value.none)) { s with heap:=s.heap.update l (Obj.mapSeq λx=>x++z),toks:=s.toks }):=
 .of_wp λprog w A R s h=>by
  obtain⟨hp,g,d,tk,os⟩:=s;obtain⟨Z,hb,h⟩:=h;have f1:=AutoSeq1.idx_int;have f2:=Ms;have f3:=AutoSeq1.sub_list_list;have f4:=AutoSeq1.sub_tuple_list;have f5:=AutoSeq1.sub_list_tuple;
  wp_walk using (wpAny_updateSeq Z rfl (hz:=Y)),wpAny_loadPart' Z,wpAny_loadPart' hb;exact⟨_,rfl,h⟩
def qv(l)(items)(n)(b)(z)(n2)(J)(U)(ar:¬(!items.isEmpty&&Builtin.List.listTooLong (items.size+z.size))=true)(Y:items.size<=sizeLine)(aO:items.size+z.size<=sizeLine+1) :
  Meets (Builtin.«list.extend» ⟨[.ref l,.ref b],[]⟩) (λ_ R s=>s.heap.get? l=some { cls:=.type "list",dict:=none,data:=.seq items n,slots:=#[] }/\s.heap.get? b=some { cls:=.type "list",dict:=J,data:=.seq z n2,slots:=U }/\R (.ok (.ret Value.none)) { s with heap:=s.heap.update l (Obj.mapSeq λx=>x++z),toks:=s.toks }):=
 .of_wp λprog w A R s h=>by
  obtain⟨hp,g,d,tk,os⟩:=s;obtain⟨Z,hb,h⟩:=h;have f1:=AutoSeq1.idx_int;have f2:=Ms;have f3:=AutoSeq1.sub_list_list;have f4:=AutoSeq1.sub_tuple_list;have f5:=AutoSeq1.sub_list_tuple;
  wp_walk using (wpAny_updateSeq Z rfl (hz:=Y)),wpAny_loadPart' Z,wpAny_loadPart' hb;exact⟨_,rfl,h⟩
end
section
variable{X:Cx}{T:Tab}{k:Nat}{cal:Cal}
def ul:MtM X "list.extend" (λx vs H Q=>∃l b xs zs,x=.ref l/\vs=[.ref b]/\H l=some (.lst xs)/\(SqL X.K H b zs\/SqT X.K H b zs)/\xs.length+zs.length<=sizeLine/\Q .non (upd H l (.lst (xs++zs)))):=by
 intro pins s σ H x vs v us Q I rx rv h;refine ax λZq kq=>?_
 obtain⟨l,b,xs,zs,rfl,rfl,hH,hB,hz,q⟩:=h;cases rx;obtain⟨u,rfl,ru⟩:=rv.one;cases ru;obtain⟨z,its,n,r,hl,e⟩:=I.lstM hH;have fin:∀J,aG zs J->EP X pins σ Q .none { s with heap:=s.heap.update l (Obj.mapSeq λx=>x++J.toArray),toks:=s.toks }:=λJ Y =>
  ⟨.non,_,I.lset (its':=its++J) hH e (by simp) (r.append Y) (by rw[J0];omega),rfl,q⟩
 refine kq ?_;rcases hB with hB|hB
 .obtain⟨J,Y,pl,z2⟩:=I.list hB;have aO:=Y.length;have Z:its.toArray.size+J.toArray.size<=sizeLine:=by rw[r4,r4];omega
  have U:¬ (!its.toArray.isEmpty&&Builtin.List.listTooLong (its.toArray.size+J.toArray.size))=true:=by
   rw[q8 Z,Bool.and_false];exact pd
  obtain⟨⟨cls,dd,data,sl⟩,ho,hc,n2,hd⟩:=pl.isList;simp only at hc hd;subst hc hd;exact MN PySem.F.slot_list_extend ⟨_,e,rfl⟩ PySem.F.entry_list_extend (PySem.F.args_list_extend_2 _ _) (qv l its.toArray n b J.toArray n2 dd sl U (by rw[r4];omega) (by omega)) ⟨e,ho,fin J Y⟩
 .obtain⟨J,Y,pl,z2⟩:=I.tuple hB;have aO:=Y.length;have Z:its.toArray.size+J.toArray.size<=sizeLine:=by rw[r4,r4];omega
  have U:¬ (!its.toArray.isEmpty&&Builtin.List.listTooLong (its.toArray.size+J.toArray.size))=true:=by
   rw[q8 Z,Bool.and_false];exact pd
  obtain⟨⟨cls,dd,data,sl⟩,ho,hc,n2,hd⟩:=pl;simp only at hc hd;subst hc hd;exact MN PySem.F.slot_list_extend ⟨_,e,rfl⟩ PySem.F.entry_list_extend (PySem.F.args_list_extend_2 _ _) (qu l its.toArray n b J.toArray n2 dd sl U (by rw[r4];omega) (by omega)) ⟨e,ho,fin J Y⟩
structure Df(X:Cx):Prop where
 nd:X.N.Nodup
 fn:∀x,X.fn x=true
 own:PassesOwn (model X.prog X.w) X.A X.env X.xe
 blk:(X.env.blockKind==.function)=true
def dD(h:bm v=true)(t)(n)(env):swapsWith v t n env=pure false:=by
 cases v<;>first|rfl|(simp[bm]at h)
def xm(d:Df X)(h:Dn X.env.scope x px v=true):swapsWith v (some (.Name x px)) n X.env=pure true:=by
 obtain⟨⟨e,gs,s,p⟩,w,h⟩:=al h;obtain rfl:=t4 w;show pure _=pure true;rw[d.blk,Ng];exact Kn pure h
def PS.imp'(h:PS X e t)(i:∀D σ H,σ.length=X.N.length->t' D σ H->t D σ H):PS X e t':=λpins s σ H D I q=>h pins s σ H D I (i D σ H I.len q)
def ltN{N:List Str}{σ:St}(h:N[i]?=some x)(z:σ.length=N.length):i<σ.length:=by rw[z];exact(G1.mp h).1
def b8{K:NF}(h:gh K B E O W σ D (dS o f)):∃v,o=some v/\gh K B E O W σ D (f v):=by
 cases o with
 |none=>exact(show False from h).elim
 |some v=>exact⟨v,rfl,h⟩
def xn{K:NF}(h:gh K B E O W σ D (zg o f)):∃v,o=some v/\gh K B E O W σ D (f v):=by
 cases o with
 |none=>exact(show False from h).elim
 |some v=>exact⟨v,rfl,h⟩
def zS{K:NF}(hi:i<σ.length)(U:aH J=false)(q:tS K cal (.set i J) D σ H):sX (tE K cal J) (ig i) D σ H:=by
 obtain⟨B,E,O,W,st,q⟩:=q;obtain⟨w,e,q⟩:=b8 q;refine⟨B,E,O,W,w,st,e,λu H' s g=>?_⟩;obtain⟨z,Y⟩:=(st.mono s).store hi (g.2 U);exact q _ H' O z Y
def HV(d:Df X)(hi:X.N[i]?=some x)(hx:Loc X.env.scope x)(h:PE X v (tE X.K cal z))(J:aH z=false)(hc:bm v=true):PS X (.Assign [.Name x px] v pos) (tS X.K cal (.set i z)):=
 PS.imp' (kj d.nd hi hx h (dD hc _ _ _) (.inl (d.fn x))) λD σ H U q=>zS (ltN hi U) J q
def zT{K:NF}(hi:i<σ.length)(q:tS K cal (.setOwn i J) D σ H):sX (tF K cal J) (ig i) D σ H:=by
 obtain⟨B,E,O,W,st,q⟩:=q;obtain⟨w,e,q⟩:=b8 q;cases w with
 |lst xs =>
  refine⟨B,E,O,W,xs,st,e,λp us H' s U Y r=>?_⟩;obtain⟨z,Z⟩:=st.storeOwn hi s U Y r;exact q _ H' _ z Z
 | _=>exact(show False from q).elim
def HW(d:Df X)(hi:X.N[i]?=some x)(hx:Loc X.env.scope x)(h:PE X v (tF X.K cal z))(hc:bm v=true):PS X (.Assign [.Name x px] v pos) (tS X.K cal (.setOwn i z)):=
 PS.imp' (kj d.nd hi hx h (dD hc _ _ _) (.inl (d.fn x))) λD σ H J q=>zT (ltN hi J) q
def rPopAt:V->List V->Hp->VK->Prop:=λx vs H Q=>∃l xs,∃k,∃w,x=.ref l/\vs=[.int k]/\H l=some (.lst xs)/\0<=k/\xs[k.toNat]?=some w/\xs.length<=10000/\Q w (upd H l (.lst (xs.eraseIdx k.toNat)))
theorem sd{K:NF} :∀{xs}{us},Reps K F xs us->∀k,Reps K F (xs.eraseIdx k) (us.eraseIdx k)
 | [],us,r,k=>by
  have e:us=[]:=by simpa only[Reps]using r
  simp_all
 |x::xs,us,r,0=>by
  obtain⟨v,t,rfl,h1,h2⟩:=r;simpa using h2
 |x::xs,us,r,k+1=>by
  obtain⟨v,t,rfl,h1,h2⟩:=r;simpa using Reps.cons h1 (sd h2 k)
def zU:MtM X "list.pop" rPopAt:=by
 intro pins s σ H x vs v us Q I rx rv h;refine ax λZq kq=>?_
 obtain⟨l,xs,k,w,rfl,rfl,hH,h0,hk,hz,q⟩:=h;cases rx;obtain⟨J,rfl,U⟩:∃J,us=[J]/\aD (.int k) J:=by
  cases rv with
  |cons U r2 =>
   cases r2;exact⟨_,rfl,U⟩
 obtain⟨t,rfl⟩:=U;obtain⟨z,its,n,r,hl,e⟩:=I.lstM hH;have a6:(10000:Nat)<=sizeLine:=by decide
 obtain⟨y,hy,ry⟩:=aG.get r hk;have bB:=(G1.mp hy).1;have ff:Builtin.List.listFitsIndex k=true:=fitsIndex_both (by omega) (by omega);have Y:its.toArray.size<=sizeLine:=by rw[r4];omega
 have Z:seqIndex? k its.toArray.size=some k.toNat:=by
  have h1:¬ k<0:=by omega
  have h2:k<(its.length:Int):=by omega
  simp[seqIndex?,h1,h2,h0]
 have M:=PySem.MeetsSeq.list_pop_at l its.toArray n k t k.toNat y ff Z (by simpa using hy) Y;have ar:=PySem.F.args_list_pop_2 (.ref l) (.int k t);refine kq ?_;refine MN PySem.F.slot_list_pop ⟨_,e,rfl⟩ PySem.F.entry_list_pop ar M ⟨e,?_⟩;refine⟨w,_,I.lset (its':=its.eraseIdx k.toNat) hH e ?_ ?_ ?_,ry,q⟩
 .simp_all
 .rw[Mh,Mh];exact(r.take k.toNat).append (r.drop _)
 .grind
def Cz(hk:PE X a (tE X.K cal ke))(hn:aM X.N X.env.scope i x=true)(z:ag a=true)(J:(apos.endLine==cpos.line)=true) :
  PS X (.Expr (.Call (.Attribute (.Name x p) "pop" apos) [a] [] cpos) pos) (tS X.K cal (.popAt i ke)):=by
 refine(lN (u7 PySem.F.plainAttrs_list PySem.F.slot_list_pop PySem.F.type_list_pop zU (bT hn) (aK hk bF (aS z _ _)) rfl (by rw[aS z];rfl) J (aS z _ _) rfl) rfl).imp λD σ H q=>?_
 obtain⟨B,E,O,W,st,q⟩:=q;obtain⟨kv,e0,q⟩:=b8 q;cases U:(W[i]?).join with
 |none=>rw[U]at q;exact(show False from q).elim
 |some m =>
  rw[U]at q;cases m with
  |own xs =>
   cases kv with
   |int j =>
    dsimp only at q;split at q
    .rename_i hl;obtain⟨u,eu,b,us,rfl,ha,Y,hO,hB⟩:=aR st U;obtain⟨w,hw⟩:∃w,us[j.toNat]?=some w:=⟨_,J1 (by rw[<- Y.length];omega)⟩;refine⟨_,eu,.inl ⟨rfl,us,SqL.of ha⟩,B,E,O,W,.int j,st,e0,λu1 H1 Z g1=>⟨b,us,j,w,rfl,?_,Z _ _ ha,hl.1,hw,?_,?_⟩⟩
     .rw[g1.1.int]
     .rw[<- Y.length];exact hl.2.2
     .have ao:=Reps.mono (ak Z) _ Y;obtain⟨ar,k'⟩:=(st.mono Z).change (aA U) eu (sd ao _);exact q _ _ _ ar k'
    .exact(show False from q).elim
   | _=>exact(show False from q).elim
  | _=>exact(show False from q).elim
def zV(h:PE X v (tE X.K cal Y))(hn:aM X.N X.env.scope i x=true)(hb:aH Y=false)(hs:ag v=true)(z:(apos.endLine==cpos.line)=true) :
  PS X (.Expr (.Call (.Attribute (.Name x p) "append" apos) [v] [] cpos) pos) (tS X.K cal (.append i Y)):=by
 refine(lN (u7 PySem.F.plainAttrs_list PySem.F.slot_list_append PySem.F.type_list_append kr (bT hn) (aK h bF (aS hs _ _)) rfl (by rw[aS hs];rfl) z (aS hs _ _) rfl) rfl).imp λD σ H q=>?_
 obtain⟨B,E,O,W,st,q⟩:=q;obtain⟨w,e,q⟩:=b8 q;cases J:(W[i]?).join with
 |none=>rw[J]at q;exact(show False from q).elim
 |some m =>
  rw[J]at q;cases m with
  |own xs =>
   dsimp only at q;split at q
   .rename_i hl;obtain⟨u,Z,a,us,rfl,ha,rs,hO,hB⟩:=aR st J;refine⟨_,Z,.inl ⟨rfl,us,SqL.of ha⟩,B,E,O,W,w,st,e,λu H1 s g=>⟨a,us,u,rfl,rfl,s _ _ ha,?_,?_⟩⟩
    .rw[<- rs.length];exact JX hl (by decide)
    .obtain⟨U,k'⟩:=(st.mono s).change (aA J) Z ((Reps.mono (ak s) _ rs).snoc (g.2 hb));exact q _ _ _ U k'
   .exact(show False from q).elim
  | _=>exact(show False from q).elim
def zW(h:PE X v (tE X.K cal me))(hn:aM X.N X.env.scope i x=true)(hs:ag v=true)(z:(apos.endLine==cpos.line)=true) :
  PS X (.Expr (.Call (.Attribute (.Name x p) "extend" apos) [v] [] cpos) pos) (tS X.K cal (.extend i me)):=by
 refine(lN (u7 PySem.F.plainAttrs_list PySem.F.slot_list_extend PySem.F.type_list_extend ul (bT hn) (aK h bF (aS hs _ _)) rfl (by rw[aS hs];rfl) z (aS hs _ _) rfl) rfl).imp λD σ H q=>?_
 refine ax λZq Y=>?_
 obtain⟨B,E,O,W,st,q⟩:=q;rw[ex]at q;obtain⟨w,e,q⟩:=b8 q;refine Y ?_;cases U:(W[i]?).join with
 |none=>rw[U]at q;exact(show False from q).elim
 |some m =>
  rw[U]at q;cases m with
  |own xs =>
   cases hw:a7 w with
   |none=>rw[hw]at q;exact(show False from q).elim
   |some ys =>
    rw[hw]at q;dsimp only at q;split at q
    .refine ax λZq Y=>?_
     rename_i hl;obtain⟨u,eu,a,us,rfl,ha,rs,hO,hB⟩:=aR st U;refine Y ?_;refine⟨_,eu,.inl ⟨rfl,us,SqL.of ha⟩,B,E,O,W,w,st,e,λu H1 s g=>?_⟩;obtain⟨b,ws,rfl,sq,J⟩:=g.1.seq hw;refine⟨a,b,us,ws,rfl,rfl,s _ _ ha,sq,?_,?_⟩
     .rw[<- rs.length,<- J.length];exact db hl
     .obtain⟨Z,k'⟩:=(st.mono s).change (aA U) eu ((Reps.mono (ak s) _ rs).append J);exact q _ _ _ Z k'
    .exact(show False from q).elim
  | _=>exact(show False from q).elim
def zX{v s:Expr}(hk:PE X s (tE X.K cal mk))(h:PE X v (tE X.K cal me))(hn:aM X.N X.env.scope i x=true)(hb:aH me=false)(hc:bm v=true)(Y:bq s=true) :
  PS X (.Assign [.Subscript (.Name x p) s ar] v pos) (tS X.K cal (.setIdx i mk me)):=by
 refine(DW h (DV (bT hn) hk set_list (by intro v';cases s<;>first|rfl|(simp[bq]at Y))) (by cases v<;>first|rfl|(simp[bm]at hc)) (by cases v<;>rfl) rfl).imp λD σ H q=>?_
 obtain⟨B,E,O,W,st,q⟩:=q;rw[ex]at q;obtain⟨w,e,q⟩:=b8 q;obtain⟨kv,ek,q⟩:=b8 q;cases z:(W[i]?).join with
 |none=>rw[z]at q;exact(show False from q).elim
 |some m =>
  rw[z]at q;cases m with
  |own xs =>
   cases kv with
   |int kk =>
    dsimp only at q;split at q
    .rename_i j hp;obtain⟨u,eu,a,us,rfl,ha,rs,hO,hB⟩:=aR st z;refine⟨B,E,O,W,w,st,e,λu H1 J g=>⟨_,eu,B,E,O,W,_,st.mono J,ek,λuk H2 U g2=>⟨a,us,kk,j,rfl,g2.1.int,U _ _ (J _ _ ha),?_,?_⟩⟩⟩
     .rw[<- rs.length,<- m3];exact hp
     .obtain⟨Z,k'⟩:=((st.mono J).mono U).change (us:=us.set j u) (ys:=xs.set j w) (aA z) eu ((Reps.mono (ak (J.trans U)) _ rs).set j (Rep.mono (ak U) _ (g.2 hb)));exact q _ _ _ Z k'
    .exact(show False from q).elim
   | _=>exact(show False from q).elim
  | _=>exact(show False from q).elim
def Fp(d:Df X)(hi:X.N[i]?=some x)(hx:Loc X.env.scope x):PS X (.Assign [.Name x px] (.Dict [] [] dp) pos) (tS X.K cal (.newD m i)):=by
 cases m with
 |false =>
  refine PS.imp' (kj d.nd hi hx yz (dD rfl _ _ _) (.inl (d.fn x))) λD σ H Y q=>?_
  obtain⟨B,E,O,W,st,q⟩:=q;intro p U;obtain⟨J,Z⟩:=st.storeM (mm:=.ownD _) (ltN hi Y) (aB U _) U (by rw[az];simp) rfl (λ_ z=>by cases z) λhB=>⟨p,rfl,az,K1,hB⟩
  exact q _ _ _ J Z
 |true =>
  refine PS.imp' (kj d.nd hi hx yA (dD rfl _ _ _) (.inl (d.fn x))) λD σ H Y q=>?_
  obtain⟨B,E,O,W,st,q⟩:=q;intro p U;obtain⟨J,Z⟩:=st.storeM (mm:=.ownD _) (ltN hi Y) (aB U _) U (by rw[az];simp) rfl (λ_ z=>by cases z) λhB=>⟨p,rfl,az,K1,hB⟩
  exact q _ _ _ J Z
def Fq(g0:Gf X T k cal)(hk:PE X s (tE X.K cal mk))(h:PE X v (tE X.K cal me))(hn:aM X.N X.env.scope i x=true)(hc:bm v=true) :
  PS X (.Assign [.Subscript (.Name x p) s a1] v pos) (tS X.K cal (.dput i mk me)):=by
 have hu:X.A.units+1<cLine:=by have:=g0.units;omega
 refine(BM hu (bT hn) hk h (by cases v<;>first|rfl|(simp[bm]at hc))).imp λD σ H q=>?_
 obtain⟨B,E,O,W,st,q⟩:=q;rw[ex]at q;obtain⟨w,e,q⟩:=b8 q;obtain⟨kv,ek,q⟩:=b8 q;cases U:(W[i]?).join with
 |none=>rw[U]at q;exact(show False from q).elim
 |some m =>
  rw[U]at q;cases m with
  |ownD d =>
   cases hz:sc? w with
   |none=>rw[hz]at q;exact(show False from q).elim
   |some sz =>
    rw[hz]at q;dsimp only at q;cases hd:qd d kv sz with
    |none=>rw[hd]at q;exact(show False from q).elim
    |some d' =>
     rw[hd]at q;obtain⟨u,Y,a,rfl,ha,hO,hB⟩:=aR st U;refine⟨B,E,O,W,w,st,e,λu H1 z g1=>⟨_,Y,B,E,O,W,_,st.mono z,ek,λuk H2 Z g2=>?_⟩⟩;refine⟨a,_,rfl,by rw[uj hz g1.1];exact vK hd (Z _ _ (z _ _ (ha.put1 hd))) g2.1,?_⟩;obtain⟨J,k'⟩:=((st.mono z).mono Z).changeD (ys:=d') (aA U) Y λ_=>.put2 hd az
     exact q _ _ _ J k'
  |mutD d =>
   cases hz:sc? w with
   |none=>rw[hz]at q;exact(show False from q).elim
   |some sz =>
    rw[hz]at q;dsimp only at q;cases hd:qd d kv sz with
    |none=>rw[hd]at q;exact(show False from q).elim
    |some d' =>
     rw[hd]at q;obtain⟨u,Y,a,rfl,ha,hO,hB⟩:=aR st U;refine⟨B,E,O,W,w,st,e,λu H1 z g1=>⟨_,Y,B,E,O,W,_,st.mono z,ek,λuk H2 Z g2=>?_⟩⟩;refine⟨a,_,rfl,by rw[uj hz g1.1];exact vK hd (Z _ _ (z _ _ (ha.put1 hd))) g2.1,?_⟩;obtain⟨J,k'⟩:=((st.mono z).mono Z).changeU (ys:=d') (aA U) Y λ_=>.put2 hd az
     exact q _ _ _ J k'
  | _=>exact(show False from q).elim
def HX(h:PE X v (tE X.K cal J))(z:aH J=false):PS X (.Return (some v) pos) (tS X.K cal (.ret J)):=by
 refine(pT h).imp λD σ H q=>?_
 obtain⟨B,E,O,W,st,q⟩:=q;obtain⟨w,e,q⟩:=b8 q;exact⟨B,E,O,W,w,st,e,λu H' s g=>q u H' (st.keep.trans s) (Rep.mono (bM (aj.refl H') λb z=>.inl (st.sub b z)) _ (g.2 z))⟩
def Fr(h:PE X v (tE X.K cal z))(J:aH z=false):PS X (.Return (some v) pos) (tS X.K cal (.retM z)):=by
 refine(pT h).imp λD σ H q=>?_
 obtain⟨B,E,O,W,st,q⟩:=q;obtain⟨w,e,q⟩:=b8 q;exact⟨B,E,O,W,w,st,e,λu H' s g=>q u σ H' O (st.mono s) .refl (g.2 J)⟩
def zY(hn:aM X.N X.env.scope i x=true):PS X (.Return (some (.Name x p)) pos) (tS X.K cal (.retOwn i)):=by
 refine(pT (bT hn)).imp λD σ H q=>?_
 obtain⟨B,E,O,W,st,q⟩:=q;rw[ex]at q;have J:=bM (aj.refl H) λb hb=>.inl (st.sub b hb)
 cases U:(W[i]?).join with
 |none=>rw[U]at q;exact(show False from q).elim
 |some m =>
  rw[U]at q;cases m with
  |val v =>
   obtain⟨u,Y,so⟩:=aR st U;exact⟨_,Y,q _ H st.keep (Rep.mono J _ so)⟩
  |own xs =>
   obtain⟨u,Y,a,us,rfl,Z,rs,hO,hB⟩:=aR st U;refine⟨_,Y,q _ H st.keep ?_⟩;rw[Rep];refine⟨a,us,rfl,SqL.of ?_,Reps.mono J _ rs⟩;rw[aV λz=>st.old a z hB];exact Z
  |ownD kvs =>
   dsimp only at q;split at q
   .rename_i np;obtain⟨u,Y,a,rfl,Z,hO,hB⟩:=aR st U;refine⟨_,Y,q _ H st.keep ?_⟩;rw[Rep];refine⟨a,rfl,.inl ?_,np⟩;rw[aV λz=>st.old a z hB];exact Z.np np
   .exact(show False from q).elim
  | _=>exact(show False from q).elim
def Jz(hc:PT X t (tT X.K cal c))(z:PSs X x (tSs X.K cal a))(J:PSs X y (tSs X.K cal b)):PS X (.If t x y pos) (tS X.K cal (.ite c a b)):=by
 refine(GL hc z J).imp λD σ H q=>?_
 obtain⟨B,E,O,W,st,q⟩:=q;obtain⟨w,e,q⟩:=xn q;refine⟨B,E,O,W,w,st,e,λH' s=>?_⟩;cases w<;>first|(rw[if_pos rfl]at q ⊢;exact⟨B,E,O,W,st.mono s,q⟩)|(rw[if_neg (by simp)]at q ⊢;exact⟨B,E,O,W,st.mono s,q⟩)
def Fs{st:Stmt}(h1:PS X st (tS X.K cal m))(h2:PSs X ss (tSs X.K cal ms)):PSs X (st::ss) (tSs X.K cal (m::ms)):=by
 refine(yb h1 h2).imp λD σ H q=>?_
 obtain⟨B,E,O,W,st,q⟩:=q;refine⟨B,E,O,W,st,?_⟩;rw[exs]at q;cases e:ex cal m W with
 |next l=>rw[e]at q;exact λF H' J z k=>⟨B,E,J,l,z,gh.trans q k⟩
 | _=>rw[e]at q;exact q
def HY:PSs X [] (tSs X.K cal []):=by
 refine Bs.imp λD σ H q=>?_
 obtain⟨B,E,O,W,st,q⟩:=q;exact q σ H O st .refl
end
inductive cm(σ:St)(W:Rho):List Bool->List ME->List MV->List V->List Addr->List Nat->Prop where
 | nil:cm σ W [] [] [] [] [] []
 | mutd {i:Nat}{d:DD}{a:Addr}{bs:List Bool}{es:List ME}{as:List MV}{vs:List V}{ms:List Addr}{is:List Nat} (hd:f_ (W[i]?).join=some d) (hσ:σ[i]?=some (some (.ref a))) (hi:i∉is) (ha:a∉ms) (t:cm σ W bs es as vs ms is):cm σ W (true::bs) (.bor i::es) (.mutD d::as) (.ref a::vs) (a::ms) (i::is)
 | other {e:ME}{m:MV}{v:V}{bs:List Bool}{es:List ME}{as:List MV}{vs:List V}{ms:List Addr}{is:List Nat} (hm:∀d,m≠.mutD d) (t:cm σ W bs es as vs ms is):cm σ W (false::bs) (e::es) (m::as) (v::vs) ms is
def eY(h:f_ o=some d):o=some (.ownD d)\/o=some (.mutD d):=by
 match o,h with
 |some (.ownD _),rfl=>exact .inl rfl
 |some (.mutD _),rfl=>exact .inr rfl
section
variable{σ:St}{W:Rho}{bs:List Bool}{es:List ME}{as:List MV}{vs:List V}{ms:List Addr}{is:List Nat}
def cm.addr(h:cm σ W bs es as vs ms is):∀a∈ms,∃j∈is,σ[j]?=some (some (.ref a))/\∃d,f_ (W[j]?).join=some d:=by
 induction h with
 |nil=>intro a U;cases U
 |mutd hd z hi U t ih =>
  intro b J;rcases wh.mp J with rfl|J
  .exact⟨_,.head _,z,_,hd⟩
  .obtain⟨j,h1,h2⟩:=ih b J;exact⟨j,.tail _ h1,h2⟩
 |other hm t ih=>exact ih
theorem cm.put(h:cm σ W bs es as vs ms is)(hi:i∉is):cm σ (fg W i d) bs es as vs ms is:=by
 induction h with
 |nil=>exact .nil
 |mutd hd J U Z t ih =>
  rename_i j _ _ _ _ _ _ _ is;refine .mutd ?_ J U Z (ih λz=>hi (.tail _ z));have Y:i≠j:=λz=>hi (z ▸ .head _)
  have:(fg W i d)[j]?=W[j]?:=by
   unfold fg;split<;>exact Kj Y
  rw[this];exact hd
 |other hm t ih=>exact .other hm (ih hi)
theorem cm.at{K:NF}(st:aE K B E O H W σ)(h:cm σ W bs es as vs ms is):∃ds,cj K O H as vs ds ms:=by
 induction h with
 |nil=>exact⟨[],.nil⟩
 |mutd hd z hi Y t ih =>
  obtain⟨ds,q⟩:=ih;rename_i i d a bs es as vs ms is;refine⟨.dI d::ds,.mutd ?_ Y q⟩;rcases eY hd with e|e
  .obtain⟨u,J,Z,U,h1,_⟩:=st.slot _ _ (aA e);rw[z]at J;cases J;cases U;exact h1
  .obtain⟨u,J,Z,U,h1,_⟩:=st.slot _ _ (aA e);rw[z]at J;cases J;cases U;exact h1
 |other hm t ih =>
  obtain⟨ds,q⟩:=ih;exact⟨ds,.other hm q⟩
theorem cm.inO{K:NF}(st:aE K B E O H W σ)(h:cm σ W bs es as vs ms is):∀a∈ms,a∈O:=λa U=>by
 obtain⟨j,_,J,d,Y⟩:=h.addr a U;rcases eY Y with e|e
 .obtain⟨u,z,Z,rfl,_,h2,_⟩:=aR st e;rw[J]at z;cases z;exact h2
 .obtain⟨u,z,Z,rfl,_,h2,_⟩:=aR st e;rw[J]at z;cases z;exact h2
theorem m_{K:NF} :∀{bs}{es}{as}{vs}{ms}{is}{W l}{H}{ds},cm σ W bs es as vs ms is->aE K B E O H W σ->(∀b,b∉ms->H b=H' b)->cj K O H' as vs ds ms->jN bs es ds W=some l->aE K B E O H' l σ/\be B O O W l σ σ
 | _,_,_,_,_,_,W,l,H,ds,.nil,st,U,hm,e=>by
  cases hm;rw[jN]at e;cases e;have hh:=funext λb=>U b λz=>nomatch z
  subst hh;exact⟨st,.refl⟩
 | _,_,_,_,_,_,W,l,H,ds,.other hn t,st,U,hm,e=>by
  cases hm with
  |mutd=>exact absurd rfl (hn _)
  |other _ hm =>
   rw[jN]at e;exact m_ t st U hm e
 | _,_,_,_,_,_,W,l,H,ds,.mutd (i:=i) (a:=a) hd J hi ha t,st,U,hm,e=>by
  cases hm with
  |other h0=>exact absurd rfl (h0 _)
  |mutd h1 h2 hm =>
   rename_i d' ds;rw[jN]at e;obtain⟨o,ho⟩:=h1.here;have inO:=t.inO st;have aO:=(cm.mutd hd J hi ha t).inO st a (.head _);have dd:DAt K (upd H a o) O a d':=h1.move (λu eu=>by rw[ho]at eu;cases eu;exact az) λb u Z=>by
    have Y:b∉O:=λz=>by rw[eE z]at Z;cases Z
    rw[aV Y]at Z ⊢;have ne:b≠a:=λz=>Y (by rw[z];exact aO)
    rw[aX ne,U b λw=>(wh.mp w).elim ne λz=>Y (inO b z)];exact Z
   have key:aE K B E O (upd H a o) (fg W i d') σ/\be B O O W (fg W i d') σ σ:=by
    rcases eY hd with q|q
    .have e1:fg W i d'=put W i (.ownD d'):=by unfold fg;rw[q];rfl
     rw[e1];exact st.changeD (aA q) J λ_=>dd
    .have e1:fg W i d'=put W i (.mutD d'):=by unfold fg;rw[q];rfl
     rw[e1];exact st.changeU (aA q) J λ_=>dd
   obtain⟨ar,k1⟩:=key;obtain⟨a0,k2⟩:=m_ (t.put hi) ar (λb Y=>by
    by_cases z:b=a
    .simp_all
    .rw[aX z];exact U b λw=>(wh.mp w).elim z Y) hm e
   exact⟨a0,k1.trans k2⟩
def vO{K:NF}(U:cm σ W bs es as vs ms is)(st:aE K B E O H W σ)(Y:∀b o,b∉ms->H b=some o->H' b=some o)(Z:cj K O H' as vs ds ms)(e:jN bs es ds W=some l):aE K B E O H' l σ/\be B O O W l σ σ:=
 m_ U (st.mono (H':=λb=>if b∈ms then H b else H' b) λb o J=>by
  by_cases z:b∈ms
  .exact(if_pos z).trans J
  .exact(if_neg z).trans (Y b o z J)) (λb hb=>if_neg hb) Z e
end
noncomputable def tAM(K:NF)(cal:Cal)(mask:List Bool)(ms:List ME):TA:=λσ H Q=>∃B E O W vs,aE K B E O H W σ/\evM cal mask ms W=some vs/\∀us H' as,aj H H'->Paired (E2 K O H') vs us->cm σ W mask ms vs us as (eW mask ms)->Q us H'
section
variable{X:Cx}{T:Tab}{k:Nat}{cal:Cal}
def xo:PA X [] (tAM X.K cal [] []):=by
 refine bF.imp λσ H Q q=>?_
 obtain⟨B,E,O,W,vs,st,z,q⟩:=q;cases z;exact q [] H [] (aj.refl H) .nil .nil
def zZ(h:aM X.N X.env.scope i x=true)(hi:i∉eW bs ms)(hs:PA X es (tAM X.K cal bs ms)):PA X (.Name x pos::es) (tAM X.K cal (true::bs) (.bor i::ms)):=by
 refine(aK (bT h) hs rfl).imp λσ H Q q=>?_
 refine ax λZq kq=>?_
 obtain⟨B,E,O,W,vs,st,U,q⟩:=q;rw[evM]at U;simp[gf,pe]at U;obtain⟨d,U,ws,e2,rfl⟩:=U;obtain⟨m,hj,om,so⟩:∃m,(W[i]?).join=some m/\hZ m=true/\∃a,σ[i]?=some (some (.ref a))/\DAt X.K H O a d/\a∈O:=by
  rcases eY U with e|e
  .obtain⟨u,J,a,rfl,h1,h2,_⟩:=aR st e;exact⟨_,e,rfl,a,J,h1,h2⟩
  .obtain⟨u,J,a,rfl,h1,h2,_⟩:=aR st e;exact⟨_,e,rfl,a,J,h1,h2⟩
 obtain⟨a,J,h1,h2⟩:=so;refine kq ?_;refine⟨_,J,B,E,O,W,ws,st,e2,λus H2 as Z g2 ma=>q _ H2 _ Z (.cons ⟨a,rfl,h1.move (Z _) (ak Z),h2⟩ g2) (.mutd U J hi (λz=>?_) ma)⟩;obtain⟨j,ao,ej,d2,ar⟩:=ma.addr a z;have Y:i≠j:=λw=>hi (w▸ao)
 rcases eY ar with e|e
 .exact st.apart i j m _ a Y (aA hj) (aA e) om rfl J ej
 .exact st.apart i j m _ a Y (aA hj) (aA e) om rfl J ej
def um(Y:aH m=false)(h:PE X e (tE X.K cal m))(hs:PA X es (tAM X.K cal bs ms))(hn:ag e=true):PA X (e::es) (tAM X.K cal (false::bs) (m::ms)):=by
 refine(aK h hs (aS hn es _)).imp λσ H Q q=>?_
 obtain⟨B,E,O,W,vs,st,J,q⟩:=q;rw[evM,gf]at J;obtain⟨a,e0,J⟩:=J;have U:(ev cal m W).bind (λv=>some [MV.val v])=some a:=by
  rw[<- e0];cases m<;>first|(cases Y;done)|(simp only[evA];rfl)
 rw[gf]at U;obtain⟨v,e9,e8⟩:=U;cases e8;rw[pe]at J;obtain⟨ws,e2,rfl⟩:=J;exact⟨B,E,O,W,v,st,e9,λu H1 Z g1=>⟨B,E,O,W,ws,st.mono Z,e2,λus H2 as s2 g2 ma=>q _ H2 as (Z.trans s2) (.cons (show Rep X.K _ v u from(g1.mono s2).2 Y) g2) (.other (λ_ z=>by cases z) ma)⟩⟩
def xp(h:aM X.N X.env.scope i x=true)(hs:PA X es (tAM X.K cal bs ms)):PA X (.Name x pos::es) (tAM X.K cal (false::bs) (.bor i::ms)):=by
 refine(aK (bT h) hs rfl).imp λσ H Q q=>?_
 obtain⟨B,E,O,W,vs,st,J,q⟩:=q;rw[evM,gf]at J;obtain⟨a,U,J⟩:=J;rw[evA,evA]at U;cases Y:(W[i]?).join with
 |none=>rw[Y]at U;cases U
 |some m =>
  rw[Y]at U;obtain⟨u,eu,so⟩:=aR st Y;cases m with
  |val w =>
   cases U;dsimp only at J;rw[pe]at J;obtain⟨ws,e2,rfl⟩:=J;exact⟨u,eu,⟨B,E,O,W,ws,st,e2,λus H2 as Z g2 ma=>q (u::us) H2 as Z (.cons (show Rep X.K (aw H2 O) w u from Rep.mono (ak Z) _ so) g2) (.other (λ_ z=>by cases z) ma)⟩⟩
  | _=>cases U;cases J
theorem qw(g:Gf X T k cal):∀bs ms es,chks T ms X.N X.env.scope es=true->jn bs ms=true->(eW bs ms).Nodup->PA X es (tAM X.K cal bs ms)
 | [],[],es,h,_,_=>by
  cases es<;>first|exact xo|simp[chks]at h
 | [],_::_,_,_,h2,_=>by cases h2
 |true::_,[],_,_,h2,_=>by cases h2
 |false::_,[],_,_,h2,_=>by cases h2
 |b::bs,m::ms,es,h,h2,U=>by
  cases es with
  |nil=>simp[chks]at h
  |cons e es =>
   simp[chks,mu]at h;cases b with
   |true =>
    have z:(aH m&&jn bs ms)=true:=h2;rw[mu]at z;have J:=z.1;obtain⟨i,rfl⟩:=mU J;obtain⟨x,p,rfl,h1⟩:=jO h.1.1;obtain⟨Y,Z⟩:=Kt.mp (show(_::eW bs ms).Nodup from U);exact zZ h1 Y (qw g bs ms es h.2 z.2 Z)
   |false =>
    have hs:=qw g bs ms es h.2 (show jn bs ms=true from h2) (show(eW bs ms).Nodup from U);cases J:aH m with
    |false=>exact um J (av m g h.1.1).1 hs h.1.2
    |true =>
     obtain⟨i,rfl⟩:=mU J;obtain⟨x,p,rfl,h1⟩:=jO h.1.1;exact xp h1 hs
end
def xq(h:rH cal f mask ms W=some (v,l)):∃ds,((evM cal mask ms W).bind λvs=>cal (f+2000) vs)=some (.tup (v::ds))/\jN mask ms ds W=some l:=by
 unfold rH at h;split at h
 .rename_i v ds e
  simp_all
 .cases h
section
variable{X:Cx}{T:Tab}{k:Nat}{cal:Cal}
noncomputable def tMr(K:NF)(cal:Cal)(f:Nat)(mask:List Bool)(ms:List ME):TE:=λσ H Q=>∃B E O W vs v ds,aE K B E O H W σ/\evM cal mask ms W=some vs/\cal (f+2000) vs=some (.tup (v::ds)) /\
 ∀u us as H1 H',aj H H1->cm σ W mask ms vs us as (eW mask ms)->(∀b o,b∉as->H1 b=some o->H' b=some o)->cj K O H' vs us ds as->Rep K (aw H' O) v u->Q u H'
def vP(g:Gf X T k cal)(Z:T.fs[f]?=some x)(hg:glB X.env.scope x=true)(hn:au x=true)(ha:PA X (e::es) (tAM X.K cal mask ms))(hs:(e::es).all ag=true):PE X (.Call (.Name x p) (e::es) [] pos) (tMr X.K cal f mask ms):=by
 obtain⟨fa,fd,ps,h1,h2,h3,F⟩:=g.fnsD f x Z;simp only[all_cons,mu]at hs;refine(lP F g.room (dh hg) h1 h2 h3 .nil q_ ha (gJ hn).1 (aS hs.1 es _) (bV hs.2)).imp λσ H Q q=>?_
 obtain⟨B,E,O,W,vs,v,ds,st,e1,e3,q⟩:=q;refine⟨B,E,O,W,vs,st,e1,λus H1 as J g1 Y=>?_⟩;show spD X.K cal f (us++[]) H1 Q E0;rw[Le];obtain⟨z,U⟩:=Y.at (st.mono J);exact⟨O,vs,v,ds,z,as,bu J st.here,g1,U,e3,λu H' hk hm ru=>q u us as H1 H' J Y hk hm ru⟩
end
def cj.mono{K:NF}(h:cj K O H args vs ds ms)(s:∀a∈ms,∀o,H a=some o->H' a=some o)(v:aj (aw H O) (aw H' z)):cj K z H' args vs ds ms:=by
 induction h with
 |nil=>exact .nil
 |mutd h J t ih=>exact .mutd (h.move (s _ (.head _)) v) J (ih λa U=>s a (.tail _ U))
 |other h t ih=>exact .other h (ih s)
def cj.here{K:NF}(h:cj K O H args vs ds ms):∀a∈ms,H a≠none:=by
 induction h with
 |nil=>intro a z;cases z
 |mutd h J t ih =>
  simp_all
 |other h t ih=>exact ih
theorem cm.own{K:NF}(st:aE K B E O H W σ)(h:cm σ W bs es as vs ms is):∀a∈ms,a∈O/\B a=none/\∃o,H a=some o:=λa Y=>by
 obtain⟨j,_,U,d,Z⟩:=h.addr a Y;rcases eY Z with e|e
 .obtain⟨u,z,a',rfl,h1,h2,J⟩:=aR st e;rw[U]at z;cases z;exact⟨h2,J,h1.here⟩
 .obtain⟨u,z,a',rfl,h1,h2,J⟩:=aR st e;rw[U]at z;cases z;exact⟨h2,J,h1.here⟩
def iT{O as:List Addr}(h:∀a∈as,a∈O)(U:∀b o,b∉as->H1 b=some o->H' b=some o):aj (aw H1 O) (aw H' O):=λb o e=>by
 have J:b∉O:=λz=>by rw[eE z]at e;cases e
 rw[aV J]at e ⊢;exact U b o (λz=>J (h b z)) e
section
variable{X:Cx}{T:Tab}{k:Nat}{cal:Cal}
noncomputable def tSr(K:NF)(cal:Cal)(j:SK)(e:ME)(f:Nat)(mask:List Bool)(ms:List ME):TE:=λσ H Q=>∃B E O W w vs v ds r,aE K B E O H W σ/\ev cal e W=some w/\evM cal mask ms W=some vs/\cal (f+2000) vs=some (.tup (v::ds))/\Dj j w v=some r /\
 ∀u us as H1 H',aj H H1->cm σ W mask ms vs us as (eW mask ms)->(∀b o,b∉as->H1 b=some o->H' b=some o)->cj K O H' vs us ds as->Rep K (aw H' O) r u->Q u H'
def pj{K:NF}(st:aE K B E O H W σ)(J:aj H H1)(U:∀b o,b∉as->H1 b=some o->H' b=some o)(Y:cj K O H' args vs ds as):∀a∈O,H' a≠none:=λa Z=>by
 by_cases z:a∈as
 .exact Y.here a z
 .cases e:H1 a with
  |none=>exact absurd (J.free e) (st.here a Z)
  |some o=>rw[U a o z e];simp
def HZ(h:PE X c (tMr X.K cal f mask ms)):PE X c (tSr X.K cal .one (.cst .non) f mask ms):=by
 refine h.imp λσ H Q q=>?_
 obtain⟨B,E,O,W,w,vs,v,ds,r,st,Y,z,J,U,q⟩:=q;cases U;exact⟨B,E,O,W,vs,v,ds,st,z,J,q⟩
def Ft(J:aH e=false)(ha:PE X l (tE X.K cal e))(h:PE X c (tMr X.K cal f mask ms)):PE X (.BinOp l .Add c pos) (tSr X.K cal .cat e f mask ms):=by
 refine(uV (uc .add) ha h).imp λσ H Q q=>?_
 refine ax λZq kq=>?_
 obtain⟨B,E,O,W,w,vs,v,ds,r,st,e1,e2,e3,e4,q⟩:=q;refine kq ?_;refine⟨B,E,O,W,w,st,e1,λux H1 z g1=>⟨B,E,O,W,vs,v,ds,st.mono z,e2,e3,λuy us as H2 H' U ma Y hm ry=>?_⟩⟩;have own:=ma.own (st.mono z);have rx:=Rep.mono ((ak U).trans (iT (λa h=>(own a h).1) Y)) _ (g1.2 J);exact⟨O,w,v,r,pj (st.mono z) U Y hm,.inl rx,.inl ry,e4,λu H3 Z ru=>q u us as H2 H3 (z.trans U) ma (λb o J eb=>Z b o (Y b o J eb)) (hm.mono (λa _ o e=>Z a o e) (ak Z)) ru⟩
def CA(J:aH e=false)(hl:ag l=true)(hc:ag c=true)(ha:PE X l (tE X.K cal e))(h:PE X c (tMr X.K cal f mask ms)):PE X (.Tuple [l,c] j pos) (tSr X.K cal .pair e f mask ms):=by
 refine(tq (aK ha (aK h bF (aS hc _ _)) (aS hl _ _))).imp λσ H Q q=>?_
 refine ax λZq kq=>?_
 obtain⟨B,E,O,W,w,vs,v,ds,r,st,e1,e2,e3,e4,q⟩:=q;cases e4;refine kq ?_;refine⟨B,E,O,W,w,st,e1,λux H1 z g1=>⟨B,E,O,W,vs,v,ds,st.mono z,e2,e3,λuy us as H2 H' U ma Y hm ry=>⟨db (show 2<=10000 by decide),λp hp=>?_⟩⟩⟩;have own:=ma.own (st.mono z);have rx:=Rep.mono ((ak U).trans (iT (λa h=>(own a h).1) Y)) _ (g1.2 J);have Z:aj H' (upd H' p (.tup [ux,uy])):=aB hp _;exact q _ us as H2 _ (z.trans U) ma (λb o J eb=>Z b o (Y b o J eb)) (hm.mono (λa _ o e=>Z a o e) (ak Z)) (gc (pj (st.mono z) U Y hm) hp (.cons rx (.cons ry .nil)))
def Fu(g:Gf X T k cal)(h:zt T j e f mask ms X.N X.env.scope v=true):PE X v (tSr X.K cal j e f mask ms):=by
 have call:∀c,fz T f mask ms X.N X.env.scope c=true->PE X c (tMr X.K cal f mask ms)/\ag c=true:=λc hc=>by
  obtain⟨y,p,args,cp,rfl,z⟩:=mV hc;simp only[mu,JZ,Kh,J4]at z;obtain⟨⟨⟨⟨⟨⟨U,Y⟩,Z⟩,J⟩,q5⟩,q6⟩,q7⟩:=z;cases args with
  |nil=>cases q7
  |cons a args=>exact⟨vP g U Y Z (qw g mask ms (a::args) J q5 q6) (bH J).1,rfl⟩
 cases j with
 |one =>
  have h:(ua e&&fz T f mask ms X.N X.env.scope v)=true:=h;rw[mu]at h;have e0:e=.cst .non:=by
   have h1:=h.1;unfold ua at h1;split at h1
   .rfl
   .cases h1
  subst e0;exact HZ (call v h.2).1
 |cat =>
  unfold zt at h;dsimp only at h;split at h
  .rename_i q z;obtain⟨pos,rfl⟩:=B9 z;simp only[mu,J4]at h;exact Ft h.1.2 (av e g h.1.1).1 (call _ h.2).1
  .cases h
 |pair =>
  unfold zt at h;dsimp only at h;split at h
  .rename_i q z;obtain⟨i,pos,rfl⟩:=B_ z;simp only[mu,J4]at h;exact CA h.1.1.2 h.1.2 (call _ h.2).2 (av e g h.1.1.1).1 (call _ h.2).1
  .cases h
noncomputable def dc(H:Hp)(D:Addr):Hp:=λb=>if b=D then none else H b
def jW(H)(D):aj (dc H D) H:=λb o e=>by
 unfold dc at e
 simp_all
def nc(h:b≠D):dc H D b=H b:=if_neg h
def uo(s:aj H H'):aj (dc H D) (dc H' D):=λb o e=>by
 unfold dc at e ⊢;split at e
 .cases e
 .rename_i z;rw[if_neg z];exact s b o e
def iU :dc (upd H D o) D=dc H D:=by
 funext b
 unfold dc;split
 .rfl
 .rename_i z;exact aX z
def ng(h:H D=none):dc H D=H:=by
 funext b
 unfold dc
 simp_all
def xr(Z:js.Nodup)(ao:∀i J u,js[i]?=some J->ar[i+1]?=some (some u)->σ[J]?=some (some u))(h:cm ar (kG js W x) bs es as vs ms is) :
  ∃U,cm σ W bs (es.map (EB js)) as vs ms U/\∀J∈U,∃i,i+1∈is/\js[i]?=some J:=by
 induction h with
 |nil=>exact⟨[],.nil,λJ h=>by cases h⟩
 |mutd hd hs hi ha t ih =>
  rename_i i d a bs es as vs ms is;obtain⟨U,m',h'⟩:=ih;cases i with
  |zero=>cases hd
  |succ i =>
   unfold kG at hd;rw[getElem?_cons_succ,Kc]at hd;cases Y:js[i]? with
   |none=>rw[Y]at hd;cases hd
   |some J =>
    rw[Y]at hd;have e1:f_ (W[J]?).join=some d:=by
     have hd:f_ (B4 (W[J]?).join)=some d:=hd;cases hj:(W[J]?).join with
     |none=>rw[hj]at hd;cases hd
     |some m=>rw[hj]at hd;cases m<;>first|(cases hd;done)|exact hd
    have e2:js.getD i 0=J:=by rw[Lr,Y];rfl
    refine⟨J::U,?_,λj2 h2=>?_⟩
    .rw[JY,show EB js (.bor (i+1))=.bor J from by show ME.bor (if i+1=0 then 0 else js.getD (i+1-1) 0)=.bor J;rw[if_neg (by omega),KW,e2]];refine .mutd e1 (ao i J _ Y hs) (λz=>?_) ha m';obtain⟨i2,h3,h4⟩:=h' J z;have hl:=(G1.mp Y).1;have:=(getElem?_inj hl Z).mp (Y.trans h4.symm);exact hi (this▸h3)
    .rcases wh.mp h2 with rfl|h2
     .exact⟨i,.head _,Y⟩
     .obtain⟨i2,h3,h4⟩:=h' j2 h2;exact⟨i2,.tail _ h3,h4⟩
 |other hm t ih =>
  obtain⟨U,m',h'⟩:=ih;exact⟨U,.other hm m',h'⟩
def CB{K:NF}{σ F:St}(a4:js.Nodup)(st:aE K B E O H W σ)(s:aj H H2)(hG:aj G H2)(hB:aj B G)(hO:∀a∈O,B a=none->G a=none)(hD:H D=none)(a5:H2 D≠none)
  (a6:∀z,F.set 0 z=(fc js σ).set 0 z) (hx:Rep K (aw H2 (D::O)) x ux):aE K G [] (D::O) H2 (kG js W x) (F.set 0 (some ux)):=by
 have hv:aj (aw H O) (aw H2 (D::O)):=bM s λb hb=>by
  rcases wh.mp hb with rfl|hb
  .exact .inr hD
  .exact .inl hb
 rw[a6];have get:∀i m,(kG js W x)[i+1]?=some (some m)->∃jj U u,js[i]?=some jj/\(W[jj]?).join=some U/\B4 (some U)=some m/\σ[jj]?=some (some u)/\eU K B O H U u/\((fc js σ).set 0 (some ux))[i+1]?=some (some u):=λi m e=>by
  simp only[kG,getElem?_cons_succ,Kc,pe]at e;obtain⟨j,ej,e⟩:=e;cases hj:(W[j]?).join with
  |none=>rw[hj]at e;cases e
  |some mm =>
   rw[hj]at e;obtain⟨u,eu,Z⟩:=aR st hj;exact⟨j,mm,u,ej,hj,e,eu,Z,by simp[fc,ej,eu]⟩
 refine⟨hG,λa J=>?_,λa J=>by simp at J,λa J=>by simp at J,by simp[kG,fc],λi m e=>?_,λi i2 m m' a b3 e e' om ar es aO=>?_⟩
 .rcases wh.mp J with rfl|J
  .exact a5
  .exact λe=>st.here a J (s.free e)
 .cases i with
  |zero =>
   simp only[kG,getElem?_cons_zero,ti]at e;subst e;exact⟨ux,by simp[fc],hx⟩
  |succ i =>
   obtain⟨jj,U,u,ej,hj,e,eu,Z,b4⟩:=get i m e;refine⟨u,b4,?_⟩;cases U with
   |val w =>
    cases e;exact Rep.mono hv _ Z
   |own ys=>cases e
   |brw ys =>
    cases e;obtain⟨a,us,rfl,sq,rs⟩:=Z;exact⟨a,us,rfl,hB.seq sq,Reps.mono hv _ rs⟩
   |brwD kvs =>
    cases e;obtain⟨a,rfl,J⟩:=Z;exact⟨a,rfl,aj.rd hB J⟩
   | _ =>
    cases e;obtain⟨a,rfl,J,h1,h2⟩:=Z;exact⟨a,rfl,J.move (s _) hv,KH _ h1,hO a h1 h2⟩
 .have zero:∀m,(kG js W x)[0]?=some (some m)->hZ m=true->False:=λm e o=>by
   simp only[kG,getElem?_cons_zero,ti]at e;subst e;cases o
  have Y:∀U m,B4 (some U)=some m->hZ m=true->hZ U=true:=λU m e o=>by
   cases U<;>first|rfl|(cases e;cases o;done)|(cases e;done)
  cases i with
  |zero=>exact zero m e om
  |succ i =>
   cases i2 with
   |zero=>exact zero m' e' ar
   |succ i2 =>
    obtain⟨j1,n1,u1,a0,b5,c1,cd,_,a1⟩:=get i m e;obtain⟨j2,n2,u2,ck,cl,c2,cr,_,a2⟩:=get i2 m' e';rw[a1]at es;rw[a2]at aO;cases es;cases aO;refine st.apart j1 j2 n1 n2 a (λz=>b3 ?_) (aA b5) (aA cl) (Y _ _ c1 om) (Y _ _ c2 ar) cd cr;subst z;have hl:=(G1.mp a0).1;rw[(getElem?_inj hl a4).mp (a0.trans ck.symm)]
def se{K:NF}{B H H1:Hp}{E O:List Addr}{W l:Rho}{σ:St}{J:It}{xs ws:List PV}{D:Addr}{Q:VK}(b4:js.Nodup)(st:aE K B E O H W σ)(s1:aj H H1)(a3:lI K J xs (aw H1 O) (a9 B O H1 []))(dr:xs.length<=10000)
  (e3:dk cal js j e f mask ms xs W=some (ws,l)) (hD:H1 D=none) (q:∀H',aj (aw H O) (aw H' O)->aE K B E O H' l σ->be B O O W l σ σ->Rep K (aw H' O) (.lst ws) (.ref D)->Q (.ref D) H'):rq J (fc js σ) H1 (tT K cal (.cst (.bl true))) (tSr K cal j e f mask ms) D Q:=by
 have a4:D∉O:=λz=>bu s1 st.here D z hD
 have ar:=st.keep.trans s1;have gB:aj B (a9 B O H1 []):=dU ar;have gO:∀a∈O,B a=none->a9 B O H1 [] a=none:=λa ha Z=>by
  unfold a9;rw[if_pos ha,if_neg (λz=>nomatch z)];exact Z
 have gD:a9 B O H1 [] D=none:=by
  unfold a9;rw[if_neg a4];exact hD
 refine⟨λi m F H'=>m=xs.length-i/\i<=xs.length/\(∀z,F.set 0 z=(fc js σ).set 0 z)/\0<F.length/\∃Y done bQ ys,aE K B E O (dc H' D) Y σ/\be B O O W Y σ σ/\aj (a9 B O H1 []) (dc H' D)/\dk cal js j e f mask ms (xs.drop i) Y=some (bQ,l)/\ws=done++bQ/\done.length<=i/\H' D=some (.lst ys)/\Reps K (aw H' (D::O)) done ys,⟨xs.length,by simp,Kd _,λ_=>rfl,by simp[fc],W,[],ws,[],?_,.refl,?_,by simpa using e3,rfl,pb _,az,.nil⟩,?_⟩
 .rw[iU,ng hD];exact st.mono s1
 .rw[iU,ng hD];exact m5 ar
 rintro i m F H' ⟨rfl,hi,a5,hl,Y,done,bQ,ys,a0,ki,sG,eg,ew,et,a6,rs⟩;have ao:=sG.trans (jW H' D);by_cases bA:i<xs.length
 .right;have ex:=J1 bA;refine⟨a3.go i _ H' ao ex,λbB H2=>∃m',m'<xs.length-i/\(m'=xs.length-(i+1)/\i+1<=xs.length/\(∀z,bB.set 0 z=(fc js σ).set 0 z)/\0<bB.length/\∃Y done bQ ys,aE K B E O (dc H2 D) Y σ/\be B O O W Y σ σ/\aj (a9 B O H1 []) (dc H2 D)/\dk cal js j e f mask ms (xs.drop (i+1)) Y=some (bQ,l)/\ws=done++bQ/\done.length<=i+1/\H2 D=some (.lst ys)/\Reps K (aw H2 (D::O)) done ys),λbB H2 z=>z,λux H2 y=>?_⟩;obtain⟨s3,hr⟩:=a3.yld i _ H' ux H2 ao ex y;have sv:aj (aw H1 O) (aw H2 (D::O)):=λb o U=>by
   have Z:b∉O:=λz=>by rw[eE z]at U;cases U
   rw[aV Z]at U;have b0:b≠D:=λz=>by rw[z,hD]at U;cases U
   rw[aV λz=>(wh.mp z).elim b0 Z];refine s3 b o (ao b o ?_);unfold a9;rw[if_neg Z];exact U
  have hx:=hr (D::O) (λa ha=>by
   rcases wh.mp ha with rfl|ha
   .rw[a6];simp
   .exact λz=>a0.here a ha ((jW H' D).free z)) sv
  have cd:=s3 _ _ a6;have c0:=(jW H' D).trans s3;have b1:=CB (F:=F) b4 a0 c0 (ao.trans s3) gB gO (if_pos rfl) (by rw[cd];simp) a5 hx;rw[MZ bA,dk]at eg;simp only[gf]at eg;obtain⟨w,e1,eg⟩:=eg;refine⟨_,[],D::O,_,true,b1,by simp[evB,ev,aZ],λH3 s4=>?_⟩;dsimp only;rw[if_pos rfl];split at eg
  .refine ax λZq kq=>?_
   rename_i v ds ec;simp only[gf,pe]at eg ec;obtain⟨r,e4,c1,e5,⟨c2,eL⟩,e6,e7⟩:=eg;obtain⟨vs,e2,ec⟩:=ec;cases e7;refine kq ?_;refine⟨_,[],D::O,_,w,vs,v,ds,r,b1.mono s4,e1,e2,ec,e4,λu us as H4 H5 s5 ma hk hm ru=>?_⟩;have own:=ma.own (b1.mono s4);obtain⟨ff,mo,_⟩:=xr (σ:=σ) (W:=Y) (js:=js) b4 (λi jj u ej eu=>by
    rw[a5]at eu;have:(σ[jj]?).join=some u:=by simpa[fc,ej]using eu
    exact aA this) ma
   have aO:∀a∈as,a∈O:=λa ha=>(mo.own a0 a ha).1
   have cl:D∉as:=λz=>a4 (aO D z)
   have c5:=hk D _ cl (s5 _ _ (s4 _ _ cd));have cr:∀z,(F.set 0 (some ux)).set 0 z=(fc js σ).set 0 z:=λz=>by rw[set_set];exact a5 z
   have c6:0<(F.set 0 (some ux)).length:=by rw[Ly];exact hl
   have vw:aj (aw H' (D::O)) (aw H5 (D::O)):=((ak s3).trans ((ak s4).trans (ak s5))).trans (iT (λa h=>KH _ (aO a h)) hk);have df:ys.length<=10000:=by rw[<- rs.length];omega
   have cu:∀b o,b∉as->dc H4 D b=some o->dc H5 D b=some o:=λb o Z U=>by
    have b0:b≠D:=λz=>by rw[z]at U;unfold dc at U;rw[if_pos rfl]at U;cases U
    rw[nc b0]at U ⊢;exact hk b o Z U
   have cA:aj (dc H' D) (dc H4 D):=uo ((s3.trans s4).trans s5);obtain⟨dm,k6⟩:=vO mo (a0.mono cA) cu (hm.mono (λa ha o eo=>by
    have dn:a≠D:=λz=>by rw[z]at ha;exact cl ha
    rw[nc dn];exact eo) λb o U=>by
    have Z:b∉D::O:=λz=>by rw[eE z]at U;cases U
    rw[aV Z]at U;rw[aV λz=>Z (.tail _ z),nc (show b≠D from λz=>Z (by rw[z];exact .head _))];exact U) e5
   refine⟨ys,c5,Kq df (by decide),_,by omega,rfl,bA,cr,c6,c1,done++[r],c2,ys++[u],?_,ki.trans k6,?_,e6,by rw[ew];simp,by simp;omega,az,?_⟩
   .rw[iU];exact dm
   .rw[iU];intro b o U;refine cu b o (λz=>?_) (cA b o (sG b o U));have:=(own b z).2.1;rw[this]at U;cases U
   .rw[iy (K1)];exact(Reps.mono vw _ rs).snoc ru
  .cases eg
 .left;have ei:i=xs.length:=by omega
  subst ei;rw[drop_length,dk]at eg;cases eg;rw[Le]at ew;subst ew;refine⟨a3.stop H' ao,q H' (λb o U=>?_) (a0.mono (jW H' D)) ki ?_⟩
  .have Z:b∉O:=λz=>by rw[eE z]at U;cases U
   rw[aV Z]at U ⊢;refine ao b o ?_;unfold a9;rw[if_neg Z];exact s1 b o U
  rw[Rep];refine⟨D,ys,rfl,SqL.of ?_,Reps.mono gL _ rs⟩;rw[aV a4];exact a6
noncomputable def tX(K:NF)(cal:Cal)(x:XE):TE:=λσ H Q=>∃B E O W v l,aE K B E O H W σ/\evX cal x W=some (v,l) /\
 ∀u H',aj (aw H O) (aw H' O)->aE K B E O H' l σ->be B O O W l σ σ->Rep K (aw H' O) v u->Q u H'
noncomputable def tXs(K:NF)(cal:Cal)(xs:List XE):TA:=λσ H Q=>∃B E O W vs l,aE K B E O H W σ/\evXs cal xs W=some (vs,l) /\
 ∀us H',aj (aw H O) (aw H' O)->aE K B E O H' l σ->be B O O W l σ σ->Reps K (aw H' O) vs us->Q us H'
def Fv(J:aH m=false)(h:PE X e (tE X.K cal m)):PE X e (tX X.K cal (.pure m)):=by
 refine h.imp λσ H Q q=>?_
 obtain⟨B,E,O,W,v,l,st,z,q⟩:=q;rw[evX,pe]at z;obtain⟨w,z,U⟩:=z;cases U;exact⟨B,E,O,W,v,st,z,λu H' s g=>q u H' (ak s) (st.mono s) .refl (g.2 J)⟩
def Fw(h:PE X e (tMr X.K cal f mask ms)):PE X e (tX X.K cal (.call f mask ms)):=by
 refine h.imp λσ H Q q=>?_
 obtain⟨B,E,O,W,v,l,st,e0,q⟩:=q;obtain⟨ds,z,e2⟩:=xq (show rH cal f mask ms W=some _ from e0);rw[gf]at z;obtain⟨vs,z,e3⟩:=z;refine⟨B,E,O,W,vs,v,ds,st,z,e3,λu us as H1 H' J Y Z hm ru=>?_⟩;obtain⟨U,k'⟩:=vO Y (st.mono J) Z hm e2;have own:=Y.own (st.mono J);exact q u H' ((ak J).trans (iT (λa h=>(own a h).1) Z)) U k' ru
def z5:∀{ns:List Int}{n},ns.getLast?=some n->(ns.map V.int).getLast?=some (V.int n):=by
 intro ns n h
 simp_all
def H0 (hn:aM X.N X.env.scope i x=true) (U:(apos.endLine==cpos.line)=true):PE X (.Call (.Attribute (.Name x p) "pop" apos) [] [] cpos) (tX X.K cal (.pop i)):=by
 refine(Eb PySem.F.plainAttrs_list PySem.F.slot_list_pop PySem.F.type_list_pop Ed (bT hn) rfl U).imp λσ H Q q=>?_
 obtain⟨B,E,O,W,v,l,st,J,q⟩:=q;have J:B5 i W=some (v,l):=J;unfold B5 at J;cases hd:f_ (W[i]?).join with
 |none=>rw[hd]at J;cases J
 |some d =>
  rw[hd]at J;cases d with
  |p ns =>
   rw[pe]at J;obtain⟨n,el,Z⟩:=J;cases Z;obtain⟨a,Y,ha,hO,key⟩:∃a,σ[i]?=some (some (.ref a))/\H a=some (ir (.p ns))/\a∈O/\(aE X.K B E O (upd H a (ir (.p ns.dropLast))) (fg W i (.p ns.dropLast)) σ/\be B O O W (fg W i (.p ns.dropLast)) σ σ):=by
    rcases eY hd with e|e
    .obtain⟨u,Y,a,rfl,h1,h2,h3⟩:=aR st e;refine⟨a,Y,h1,h2,?_⟩;have Z:fg W i (.p ns.dropLast)=put W i (.ownD (.p ns.dropLast)):=by unfold fg;rw[e];rfl
     rw[Z];exact st.changeD (aA e) Y λ_=>az
    .obtain⟨u,Y,a,rfl,h1,h2,h3⟩:=aR st e;refine⟨a,Y,h1,h2,?_⟩;have Z:fg W i (.p ns.dropLast)=put W i (.mutD (.p ns.dropLast)):=by unfold fg;rw[e];rfl
     rw[Z];exact st.changeU (aA e) Y λ_=>az
   have ao:aj (aw H O) (aw (upd H a (ir (.p ns.dropLast))) O):=λb o e=>by
    have hb:b∉O:=λz=>by rw[eE z]at e;cases e
    rw[aV hb]at e ⊢;rw[aX (show b≠a from λz=>hb (z▸hO))];exact e
   have fin:=q (.int n) _ ao key.1 key.2 (bZ _ _);have ar:(ns.map V.int)[(ns.map V.int).length-1]?=some (V.int n):=by
    rw[<- getLast?_eq_getElem?];exact z5 el
   refine⟨_,Y,.inl ⟨rfl,ns.map V.int,SqL.of ha⟩,a,ns.map V.int,.int n,rfl,rfl,ha,ar,?_⟩;have e9:(ns.map V.int).dropLast=ns.dropLast.map V.int:=map_dropLast.symm;rw[e9];exact fin
  | _=>cases J
def H_(ha:PE X l (tX X.K cal a))(hb:PE X r (tE X.K cal b)):PE X (.BinOp l (t8 op) r pos) (tX X.K cal (.bin op a b)):=by
 refine(uV (uc op) ha hb).imp λσ H Q q=>?_
 refine ax λZq kq=>?_
 obtain⟨B,E,O,W,v,ρ',st,J,q⟩:=q;rw[evX]at J;simp only[gf,pe]at J;obtain⟨⟨x,U⟩,J,y,e2,r,e3,e4⟩:=J;cases e4;refine kq ?_;exact⟨B,E,O,W,x,U,st,J,λux H1 v1 z k1 rx=>⟨B,E,O,U,y,z,e2,λuy H2 Y g2=>⟨O,x,y,v,bu Y z.here,.inl (Rep.mono (ak Y) _ rx),g2.1,e3,λu H3 Z ru=>q u H3 (v1.trans (ak (Y.trans Z))) (z.mono (Y.trans Z)) k1 ru⟩⟩⟩
def JA(g:Gf X T k cal)(hf:T.fs[f]?=some x)(hg:glB X.env.scope x=true)(hn:au x=true)(ha:PE X e (tX X.K cal a))(has:PA X es (tAs X.K cal ms))(J:ag e=true)(hs:es.all ag=true):PE X (.Call (.Name x p) (e::es) [] pos) (tX X.K cal (.fn f a ms)):=by
 obtain⟨fa,fd,ps,h1,h2,h3,F,_⟩:=g.fns f x hf;refine(lP F g.room (dh hg) h1 h2 h3 .nil q_ (aK ha has (aS J es _)) (gJ hn).1 (aS J es _) (bV hs)).imp λσ H Q q=>?_
 refine ax λZq kq=>?_
 obtain⟨B,E,O,W,v,l,st,U,q⟩:=q;rw[evX]at U;simp only[gf,pe]at U;obtain⟨⟨w,Y⟩,U,vs,e2,r,e3,e4⟩:=U;cases e4;refine kq ?_;refine⟨B,E,O,W,w,Y,st,U,λux H1 v1 z k1 rx=>⟨B,E,O,Y,vs,z,e2,λus H2 Z g2=>⟨O,.val w::vs,v,bu Z z.here,?_,e3,λu H3 s3 ru=>q u H3 (v1.trans (ak (Z.trans s3))) (z.mono (Z.trans s3)) k1 ru⟩⟩⟩;rw[Le];exact .cons (show Rep X.K (aw H2 O) w ux from Rep.mono (ak Z) _ rx) g2
def Ia:PA X [] (tXs X.K cal []):=by
 refine bF.imp λσ H Q q=>?_
 obtain⟨B,E,O,W,vs,l,st,z,q⟩:=q;cases z;exact q [] H (aj.refl _) st .refl .nil
def Fx(h:PE X e (tX X.K cal x))(hs:PA X es (tXs X.K cal xs))(hn:ag e=true):PA X (e::es) (tXs X.K cal (x::xs)):=by
 refine(aK h hs (aS hn es _)).imp λσ H Q q=>?_
 refine ax λZq kq=>?_
 obtain⟨B,E,O,W,vs,l,st,z,q⟩:=q;rw[evXs]at z;simp only[gf,pe]at z;obtain⟨⟨v,J⟩,z,⟨ws,a0⟩,e2,e3⟩:=z;cases e3;refine kq ?_;exact⟨B,E,O,W,v,J,st,z,λu H1 v1 U k1 ru=>⟨B,E,O,J,ws,_,U,e2,λus H2 Z Y k2 rs=>q _ H2 (v1.trans Z) Y (k1.trans k2) (.cons (Rep.mono Z _ ru) rs)⟩⟩
def Ib(h:PA X es (tXs X.K cal xs)):PE X (.Tuple es j pos) (tX X.K cal (.tup xs)):=by
 refine(tq h).imp λσ H Q q=>?_
 obtain⟨B,E,O,W,v,l,st,J,q⟩:=q;rw[evX,gf]at J;obtain⟨⟨vs,ar⟩,J,U⟩:=J;dsimp only at U;split at U
 .rename_i hl;cases U;refine⟨B,E,O,W,vs,_,st,J,λus H1 v1 z k1 Y=>⟨?_,λp Z=>?_⟩⟩
  .rw[<- Y.length];exact db hl
  .have s2:aj H1 (upd H1 p (.tup us)):=aB Z _;exact q _ _ (v1.trans (ak s2)) (z.mono s2) k1 (gc z.here Z Y)
 .cases U
def x_tupOf (g:Gf X T k cal) (Z:glB X.env.scope ("tuple":Str)=true) (ha:PE X e (tX X.K cal a)) (hs:ag e=true):PE X (.Call (.Name ("tuple":Str) p) [e] [] pos) (tX X.K cal (.tupOf a)):=by
 refine(c9 vF (dh Z) (g.blt "tuple" (by decide)) m8 (aK ha bF (aS hs _ _)) (by decide) (by decide) (aS hs [] _) (bV rfl)).imp λσ H Q q=>?_
 refine ax λZq kq=>?_
 obtain⟨B,E,O,W,v,l,st,z,q⟩:=q;rw[evX]at z;simp only[gf,pe]at z;obtain⟨⟨w,U⟩,z,r,e2,e3⟩:=z;cases e3;refine kq ?_;exact⟨B,E,O,W,w,U,st,z,λu H1 v1 J k1 ru=>⟨O,[w],_,J.here,.cons (.inl ru) .nil,e2,λu2 H2 Y r2=>q u2 H2 (v1.trans (ak Y)) (J.mono Y) k1 r2⟩⟩
def Ic(h:PA X es (tXs X.K cal xs)):PE X (.List es pos) (tX X.K cal (.lst xs)):=by
 refine(yg h).imp λσ H Q q=>?_
 obtain⟨B,E,O,W,v,l,st,J,q⟩:=q;rw[evX,gf]at J;obtain⟨⟨vs,ar⟩,J,U⟩:=J;dsimp only at U;split at U
 .rename_i hl;cases U;refine⟨B,E,O,W,vs,_,st,J,λus H1 v1 z k1 Y=>⟨?_,λp Z=>?_⟩⟩
  .rw[<- Y.length];exact db hl
  .have s2:aj H1 (upd H1 p (.lst us)):=aB Z _;exact q _ _ (v1.trans (ak s2)) (z.mono s2) k1 (mZ z.here Z Y)
 .cases U
def Ie(g:Gf X T k cal)(hf:T.fs[f]?=some x)(hg:glB X.env.scope x=true)(hn:au x=true)(hm:PE X l (tE X.K cal m))(hb:aH m=false)(ha:PE X r (tX X.K cal a))(z:ag l=true)(J:ag r=true):PE X (.Call (.Name x p) [l,r] [] pos) (tX X.K cal (.fn2 f m a)):=by
 obtain⟨fa,fd,ps,h1,h2,h3,F,_⟩:=g.fns f x hf;refine(lP F g.room (dh hg) h1 h2 h3 .nil q_ (aK hm (aK ha bF (aS J _ _)) (aS z _ _)) (gJ hn).1 (aS z [r] _) (bV (by rw[all_cons,J];rfl))).imp λσ H Q q=>?_
 refine ax λZq kq=>?_
 obtain⟨B,E,O,W,v,ρ',st,U,q⟩:=q;rw[evX]at U;simp only[gf,pe]at U;obtain⟨w,U,⟨Z,bB⟩,e2,r,e3,e4⟩:=U;cases e4;refine kq ?_;refine⟨B,E,O,W,w,st,U,λux H1 s1 g1=>⟨B,E,O,W,Z,_,st.mono s1,e2,λuy H2 v2 Y k2 ry=>⟨O,[.val w,.val Z],v,Y.here,?_,e3,λu H3 s3 ru=>q u H3 ((ak s1).trans (v2.trans (ak s3))) (Y.mono s3) k2 ru⟩⟩⟩;rw[Le];exact .cons (show Rep X.K _ w ux from Rep.mono v2 _ (g1.2 hb)) (.cons (show Rep X.K _ Z uy from ry) .nil)
def x_compS(g:Gf X T k cal)
  (aO:fw X.env.scope X.N scope y (dB X.N js) js=true) (hw:PI X (.Name y py) it (tW X.K cal .seq [src])) (a0:eV it=true) (hb:aH src=false) (a1:js.Nodup) (he:∀z U C fp,PE (X.blk y (dB X.N js) scope z U C fp) el (tSr X.K cal j e f mask ms)) :
  PE X (.ListComp el [⟨.Name y py,it,[],0⟩] scope cpos) (tX X.K cal (.compS src js j e f mask ms)):=by
 refine(vd (tt:=tT X.K cal (.cst (.bl true))) (kN aO) g.calm hw (λz U C fp=>qt (show rO (λ_=>false) (.cst _) []=true from rfl) λc hc=>nomatch hc) he (by intro v;cases it<;>first|rfl|(simp[eV]at a0))).imp λσ H Q q=>?_
 obtain⟨B,E,O,W,v,l,st,Y,q⟩:=q;rw[evX]at Y;simp only[gf]at Y;obtain⟨vs,e2,xs,e3,Y⟩:=Y;split at Y
 .rename_i Z;rw[pe]at Y;obtain⟨⟨ws,bA⟩,e1,e4⟩:=Y;cases e4;have ao:bh [src] W σ=[]:=by
   cases src<;>first|rfl|(cases hb;done)
  refine⟨B,E,O,W,vs,xs,st,e2,e3,λJ H1 s1 ar D' hD=>?_⟩;rw[ao]at ar;exact se a1 st s1 ar Z e1 hD λH' v' a2 k' ru=>q _ H' v' a2 k' ru
 .cases Y
noncomputable def tWX(K:NF)(cal:Cal)(y:XE):TI:=λσ H R =>
 ∃B E O W v l xs,aE K B E O H W σ/\evX cal y W=some (v,l)/\bc .rng [v]=some xs/\∀J H1,aj (aw H O) (aw H1 O)->aE K B E O H1 l σ->be B O O W l σ σ->lI K J xs (aw H1 O) (a9 B O H1 (bh [.cst v] l σ))->R J H1
def z6 (g:Gf X T k cal) (Y:glB X.env.scope ("range":Str)=true) (h:PE X e (tX X.K cal y)) (hs:ag e=true):PI X tg (.Call (.Name ("range":Str) p) [e] [] pos) (tWX X.K cal y):=by
 refine(oK (dh Y) (g.blt "range" (by decide)) (aK h bF (aS hs _ _)) (aS hs _ _)).imp λσ H R q=>?_
 obtain⟨B,E,O,W,v,l,xs,st,Z,z,q⟩:=q;refine⟨B,E,O,W,v,l,st,Z,λu H1 v1 J k1 U=>?_⟩;cases v with
 |int j =>
  simp only[bc]at z;split at z
  .rename_i c;cases z;rw[Rep]at U;subst U;exact⟨j,rfl,c.1,c.2,q _ _ v1 J k1 m6⟩
  .cases z
 | _=>simp[bc]at z
mutual
theorem eG(g:Gf X T k cal):∀(x:XE) (e:Expr),da T x X.N X.env.scope e=true->PE X e (tX X.K cal x)
 | .pure m,e,h=>by
  have h:(chk T m X.N X.env.scope e&&!aH m&&bm e)=true:=h;simp only[mu,J4]at h;exact Fv h.1.2 (av m g h.1.1).1
 | .call f mask ms,e,h=>by
  obtain⟨y,p,args,cp,rfl,hq⟩:=mV (show fz T f mask ms X.N X.env.scope e=true from h);simp only[mu,JZ,Kh,J4]at hq;obtain⟨⟨⟨⟨⟨⟨q1,q2⟩,q3⟩,q4⟩,q5⟩,q6⟩,q7⟩:=hq;cases args with
  |nil=>cases q7
  |cons a args=>exact Fw (vP g q1 q2 q3 (qw g mask ms (a::args) q4 q5 q6) (bH q4).1)
 | .pop i,e,h=>by
  obtain⟨q,J,h⟩:=al (show onQ (EQ e) (λq=>aM X.N X.env.scope i q.1&&q.2.1==("pop":Str)&&q.2.2.1.endLine==q.2.2.2.line)=true from h);obtain⟨y,m,ap,cp⟩:=q;obtain⟨p,rfl⟩:=Cb J;obtain⟨U,Y⟩:=oe.mp h;obtain⟨h1,h2⟩:=oe.mp U;obtain rfl:m=("pop":Str):=eq_of_beq h2;exact H0 h1 Y
 | .bin op a b,e,h=>by
  obtain⟨q,J,h⟩:=al (show onQ (ER e) (λq=>q.2.1==t8 op&&da T a X.N X.env.scope q.1&&chk T b X.N X.env.scope q.2.2)=true from h);obtain⟨l,o,r⟩:=q;obtain⟨pos,rfl⟩:=Cc J;obtain⟨U,Y⟩:=oe.mp h;obtain⟨h1,h2⟩:=oe.mp U;obtain rfl:o=t8 op:=eq_of_beq h1;exact H_ (eG g a l h2) (av b g Y).1
 | .fn f a ms,e,h=>by
  obtain⟨q,J,h⟩:=al (show onQ (fnQ e) (λq=>T.fs[f]?==some q.1&&glB X.env.scope q.1&&au q.1&&da T a X.N X.env.scope q.2.1&&ag q.2.1&&chks T ms X.N X.env.scope q.2.2)=true from h);obtain⟨y,l,r⟩:=q;obtain⟨p,pos,rfl⟩:=ub J;obtain⟨U,h6⟩:=oe.mp h;obtain⟨a2,Z⟩:=oe.mp U;obtain⟨a3,h4⟩:=oe.mp a2;obtain⟨a4,Y⟩:=oe.mp a3;obtain⟨h1,h2⟩:=oe.mp a4;exact JA g (eq_of_beq h1) h2 Y (eG g a l h4) (soundA ms g h6) Z (bH h6).1
 | .tup xs,e,h=>by
  obtain⟨q,J,h⟩:=al (show onQ (ES e) (λq=>chkXEs T xs X.N X.env.scope q)=true from h);obtain⟨j,pos,rfl⟩:=Cd J;exact Ib (soundXEs g xs q h)
 | .lst xs,e,h=>by
  obtain⟨q,J,h⟩:=al (show onQ (ET e) (λq=>chkXEs T xs X.N X.env.scope q)=true from h);obtain⟨pos,rfl⟩:=Ce J;exact Ic (soundXEs g xs q h)
 | .fn2 f m a,e,h=>by
  obtain⟨q,J,h⟩:=al (show onQ (EU e) (λq=>T.fs[f]?==some q.1&&glB X.env.scope q.1&&au q.1&&chk T m X.N X.env.scope q.2.1&&!aH m&&ag q.2.1&&da T a X.N X.env.scope q.2.2&&ag q.2.2)=true from h);obtain⟨y,l,r⟩:=q;obtain⟨p,pos,rfl⟩:=Cf J;obtain⟨U,h8⟩:=oe.mp h;obtain⟨a2,h7⟩:=oe.mp U;obtain⟨a3,h6⟩:=oe.mp a2;obtain⟨a4,Z⟩:=oe.mp a3;obtain⟨a5,h4⟩:=oe.mp a4;obtain⟨a6,Y⟩:=oe.mp a5;obtain⟨h1,h2⟩:=oe.mp a6;exact Ie g (eq_of_beq h1) h2 Y (av m g h4).1 (by simpa using Z) (eG g a r h7) h6 h8
 | .tupOf a,e,h=>by
  obtain⟨q,J,h⟩:=al (show onQ (fnQ e) (λq=>q.1==("tuple":Str)&&glB X.env.scope q.1&&q.2.2.isEmpty&&da T a X.N X.env.scope q.2.1&&ag q.2.1)=true from h);obtain⟨y,l,r⟩:=q;obtain⟨p,pos,rfl⟩:=ub J;obtain⟨U,Z⟩:=oe.mp h;obtain⟨a2,h4⟩:=oe.mp U;obtain⟨a3,Y⟩:=oe.mp a2;obtain⟨h1,h2⟩:=oe.mp a3;obtain rfl:y=("tuple":Str):=eq_of_beq h1;obtain rfl:r=[]:=LB.mp Y;exact x_tupOf g h2 (eG g a l h4) Z
 | .compS src js j m f mask ms,e,h=>by
  obtain⟨c,e2,h2⟩:=al (show onQ (zu e) (λc=>fw X.env.scope X.N c.2.1 c.2.2.1 (dB X.N js) js&&mT X.env.scope false (λxs=>chks T [src] X.N X.env.scope xs) .seq c.2.2.2&&!aH src&&zt T j m f mask ms (c.2.2.1::dB X.N js) (lG c.2.1 X.env.scope) c.1&&decide js.Nodup)=true from h);obtain⟨py,cpos,rfl⟩:=zv e2;obtain⟨el,scope,y,it⟩:=c;simp only[mu,J4,Kh]at h2;obtain⟨⟨⟨⟨Z,h6⟩,h7⟩,h8⟩,h9⟩:=h2;have hw:=kO (tg:=.Name y py) (λz=>by cases z) g h6 (λxs bA=>⟨sounds [src] g bA,bH bA⟩) (λm x hm hx=>by cases hm;exact(av src g (by simp only[chks,mu]at hx;exact hx.1.1)).1);exact x_compS g Z hw.1 hw.2 h7 h9 λbB b0 C fp=>Fu (g.blk y (dB X.N js) scope bB b0 C fp) h8
theorem soundXEs(g:Gf X T k cal):∀(xs:List XE) (es:List Expr),chkXEs T xs X.N X.env.scope es=true->PA X es (tXs X.K cal xs)
 | [],es,h=>by
  cases es with
  |nil=>exact Ia
  |cons _ _=>cases h
 |x::xs,es,h=>by
  cases es with
  |nil=>cases h
  |cons e es =>
   have h:(da T x X.N X.env.scope e&&ag e&&chkXEs T xs X.N X.env.scope es)=true:=h;simp only[mu]at h;exact Fx (eG g x e h.1.1) (soundXEs g xs es h.2) h.1.2
end
def Fy(d:Df X)(hi:X.N[i]?=some x)(hx:Loc X.env.scope x)(h:PE X v (tX X.K cal y))(hc:bm v=true):PS X (.Assign [.Name x px] v pos) (tS X.K cal (.setX i y)):=
 PS.imp' (kj d.nd hi hx h (dD hc _ _ _) (.inl (d.fn x))) λD σ H U q=>by
  obtain⟨B,E,O,W,st,q⟩:=q;rw[ex]at q;cases e:evX cal y W with
  |none=>rw[e]at q;exact(show False from q).elim
  |some cr =>
   obtain⟨s,l⟩:=cr;rw[e]at q;refine⟨B,E,O,W,s,l,st,e,λu H' _ z Y Z=>?_⟩;obtain⟨J,k2⟩:=z.store (ltN hi U) Z;exact q _ H' O J (Y.trans k2)
def CC(h:PE X v (tX X.K cal y)):PS X (.Return (some v) pos) (tS X.K cal (.retXE y)):=by
 refine(pT h).imp λD σ H q=>?_
 obtain⟨B,E,O,W,st,q⟩:=q;rw[ex]at q;cases e:evX cal y W with
 |none=>rw[e]at q;exact(show False from q).elim
 |some cr =>
  obtain⟨s,l⟩:=cr;rw[e]at q;exact⟨B,E,O,W,s,l,st,e,λu H' _ z J U=>q u σ H' O z J U⟩
def Fz(h:PE X v (tX X.K cal y))(hn:aM X.N X.env.scope i x=true)(hs:ag v=true)(J:(apos.endLine==cpos.line)=true) :
  PS X (.Expr (.Call (.Attribute (.Name x p) "append" apos) [v] [] cpos) pos) (tS X.K cal (.appX i y)):=by
 refine(lN (u7 PySem.F.plainAttrs_list PySem.F.slot_list_append PySem.F.type_list_append kr (bT hn) (aK h bF (aS hs _ _)) rfl (by rw[aS hs];rfl) J (aS hs _ _) rfl) rfl).imp λD σ H q=>?_
 obtain⟨B,E,O,W,st,q⟩:=q;rw[ex]at q;cases hj:(W[i]?).join with
 |none=>rw[hj]at q;exact(show False from q).elim
 |some m =>
  rw[hj]at q;cases m with
  |own ar =>
   dsimp only at q;obtain⟨a3,eu,a,U,rfl,ha,_,hO,_⟩:=aR st hj;cases e:evX cal y W with
   |none=>rw[e]at q;exact(show False from q).elim
   |some cr =>
    obtain⟨w,l⟩:=cr;rw[e]at q;dsimp only at q;cases z:(l[i]?).join with
    |none=>rw[z]at q;exact(show False from q).elim
    |some m' =>
     rw[z]at q;cases m' with
     |own xs =>
      dsimp only at q;split at q
      .rename_i hl;refine⟨_,eu,.inl ⟨rfl,U,SqL.of ha⟩,B,E,O,W,w,l,st,e,λu H1 v1 Y k1 ru=>?_⟩;refine ax λZq kq=>?_
       obtain⟨u1,Z,a1,us,e5,a0,rs,_,_⟩:=aR Y z;rw[eu]at Z;cases Z;cases e5;refine kq ?_;refine⟨a,us,u,rfl,rfl,a0,?_,?_⟩
       .rw[<- rs.length];exact JX hl (by decide)
       .obtain⟨a2,k2⟩:=Y.change (us:=us++[u]) (ys:=xs++[w]) (aA z) eu (rs.snoc ru);exact q _ _ _ a2 (k1.trans k2)
      .exact(show False from q).elim
     | _=>exact(show False from q).elim
  | _=>exact(show False from q).elim
def aE.storeP{K:NF}(st:aE K B E O H W σ)(hi:i<σ.length)(s:aj H H')(U:H p=none)(J:H' p=some (.lst us))(r:Reps K (aw H' (p::O)) (ns.map .int) us):aE K B E (p::O) H' (put W i (.ownD (.p ns))) (σ.set i (some (.ref p)))/\be B O (p::O) W (put W i (.ownD (.p ns))) σ (σ.set i (some (.ref p))):=by
 have Y:=r.ints;subst Y;exact st.storeM hi s U (by rw[J];simp) rfl (λ_ z=>by cases z) λZ=>⟨p,rfl,J,K1,Z⟩
def CD{i:Nat}{z:ME}{σ:St}{H:Hp}{D:Bo}{K:NF}(hi:i<σ.length)(q:tS K cal (.setQ i z) D σ H):sX (tF K cal z) (ig i) D σ H:=by
 obtain⟨B,E,O,W,st,q⟩:=q;rw[ex]at q;cases J:ev cal z W with
 |none=>rw[J]at q;exact(show False from q).elim
 |some w =>
  rw[J]at q;cases w with
  |lst xs =>
   dsimp only at q;cases U:a8 xs with
   |none=>rw[U]at q;exact(show False from q).elim
   |some ns =>
    rw[U]at q;have Z:=dl U;subst Z;refine⟨B,E,O,W,_,st,J,λp us H' s hp he r=>?_⟩;obtain⟨Y,k'⟩:=st.storeP hi s hp he r;exact q _ H' _ Y k'
  | _=>exact(show False from q).elim
def FA {px p p2 pos2 cp pos:Pos} (g:Gf X T k cal) (d:Df X) (hi:X.N[i]?=some x) (hx:Loc X.env.scope x) (h1:glB X.env.scope ("list":Str)=true) (h2:glB X.env.scope ("reversed":Str)=true) (h:PE X e (tE X.K cal Z)) (hs:ag e=true):PS X (.Assign [.Name x px] (.Call (.Name ("list":Str) p) [.Call (.Name ("reversed":Str) p2) [e] [] pos2] [] cp) pos) (tS X.K cal (.setP i Z)):=by
 refine PS.imp' (kj d.nd hi hx (tV g.calm (dh h1) (g.blt "list" (by decide)) qp (dh h2) (g.blt "reversed" (by decide)) h (aS hs _ _)) (dD (v:=.Call _ _ _ _) rfl _ _ _) (.inl (d.fn x))) λD σ H hl q=>?_
 obtain⟨B,E,O,W,st,q⟩:=q;rw[ex]at q;cases J:ev cal Z W with
 |none=>rw[J]at q;exact(show False from q).elim
 |some w =>
  rw[J]at q;cases w with
  |lst xs =>
   dsimp only at q;cases U:a8 xs with
   |none=>rw[U]at q;exact(show False from q).elim
   |some ns =>
    rw[U]at q;have e3:=dl U;subst e3;refine⟨B,E,O,W,_,st,J,λu H1 s1 g1=>?_⟩;obtain⟨a,us,rfl,sq,rs⟩:=g1.1.lst;have e4:=rs.ints;subst e4;refine⟨a,_,rfl,sq,λl z=>?_⟩;rw[show(ns.map V.int).reverse=ns.reverse.map V.int from map_reverse.symm];obtain⟨Y,k'⟩:=st.storeP (ns:=ns.reverse) (ltN hi hl) (s1.trans (aB z (.lst (ns.reverse.map V.int)))) (s1.free z) az (Reps.of_ints _);exact q _ _ _ Y k'
  | _=>exact(show False from q).elim
end
section
variable{K:NF}{B H:Hp}{E O:List Addr}{W:Rho}{σ:St}
def Ig(J:aE K (a9 B O H1 L) E U H' l F)(k:be (a9 B O H1 L) O U W l σ F):aj (aw H1 O) (aw H' U):=λb u e=>by
 have Z:b∉O:=λz=>by rw[eE z]at e;cases e
 have Y:a9 B O H1 L b=some u:=cc b u e;rw[aV]
 .exact J.keep b u Y
 .intro z;rcases k.new b z with q|q
  .exact Z q
  .rw[Y]at q;cases q
def CF(st:aE K B E O H W σ):aE K (a9 B O H (bh ms W σ)) E O H (bv ms W) σ/\(bv ms W).length=W.length:=by
 have base:∀L,(∀a∈L,∀(j:Nat) ys,(bv ms W)[j]?=some (some ys)->hZ ys=true->σ[j]?≠some (some (.ref a)))->(∀(j:Nat) m,(bv ms W)[j]?=some (some m)->(∃ys,m=.brw ys/\W[j]?=some (some (.own ys))/\∃a,σ[j]?=some (some (.ref a))/\a∈L)\/W[j]?=some (some m))->(bv ms W).length=W.length ->
   aE K (a9 B O H L) E O H (bv ms W) σ:=λL h1 h2 h3=>by
  have gl:=m5 (O:=O) (L:=L) st.keep;have lg:=dU (O:=O) (L:=L) st.keep;refine⟨gl,st.here,st.sub,λa ha z=>st.old a ha (lg.free z),h3.trans st.len,λj m e=>?_,λc d ps qs ad bB e1 e2 p1 p2 e3 e4=>?_
   ⟩
  .rcases h2 j m e with⟨ys,rfl,e2,a,ea,J⟩|e2
   .obtain⟨u,Y,a',us,rfl,U,q2,Z,q4⟩:=st.slot j _ e2;rw[ea]at Y;cases Y;refine⟨_,ea,a,us,rfl,SqL.of ?_,q2⟩;unfold a9;rw[if_pos Z,if_pos J];exact U
   .obtain⟨u,Y,q⟩:=st.slot j m e2;refine⟨u,Y,?_⟩;cases m with
    |val v=>exact q
    |own ys =>
     obtain⟨a,us,rfl,U,q2,Z,q4⟩:=q;refine⟨a,us,rfl,U,q2,Z,?_⟩;unfold a9;rw[if_pos Z,if_neg λJ=>h1 a J j (.own ys) e rfl Y];exact q4
    |ownD ys =>
     obtain⟨a,rfl,U,Z,q4⟩:=q;refine⟨a,rfl,U,Z,?_⟩;unfold a9;rw[if_pos Z,if_neg λJ=>h1 a J j (.ownD ys) e rfl Y];exact q4
    |mutD ys =>
     obtain⟨a,rfl,U,Z,q4⟩:=q;refine⟨a,rfl,U,Z,?_⟩;unfold a9;rw[if_pos Z,if_neg λJ=>h1 a J j (.mutD ys) e rfl Y];exact q4
    |brwD ys=>obtain⟨a,rfl,U⟩:=q;exact⟨a,rfl,aj.rd lg U⟩
    |brw ys=>obtain⟨a,us,rfl,U,q2⟩:=q;exact⟨a,us,rfl,lg.seq U,q2⟩
  .rcases h2 c _ e1 with⟨_,rfl,_⟩|e1
   .cases p1
   .rcases h2 d _ e2 with⟨_,rfl,_⟩|e2
    .cases p2
    .exact st.apart c d ps qs ad bB e1 e2 p1 p2 e3 e4
 have plain:bv ms W=W->bh ms W σ=[]->aE K (a9 B O H (bh ms W σ)) E O H (bv ms W) σ/\(bv ms W).length=W.length:=λe1 e2=>by
  rw[e2];exact⟨base [] (λa ha=>by simp at ha) (λj m e=>.inr (by rw[e1]at e;exact e)) (by rw[e1]),by rw[e1]⟩
 match ms with
 | []|.var _::_|.cst _::_|.glob _ _::_|.bin _ _ _::_|.neg _::_|.not _::_|.and _ _::_|.or _ _::_|.ite _ _ _::_|.cmp _ _ _::_|.chain _ _ _ _ _::_|.tup _::_|.lst _::_|.idx _ _::_|.slice _ _ _::_|.blt _ _::_|.call _ _::_|.callD _ _ _::_|.comp _ _ _ _ _::_|.dget _ _ _::_|.dat _ _::_|.dIn _ _ _::_|.lenP _::_|.disp _ _::_|.bor _::_::_=>exact plain rfl rfl
 | [.bor i] =>
  cases hj:(W[i]?).join with
  |none=>exact plain (by simp[bv,hj]) (by simp[bh,hj])
  |some m =>
   cases m with
   |own xs =>
    refine ax λZq kq=>?_
    have el:bv [.bor i] W=put W i (.brw xs):=by simp[bv,hj]
    have e0:=aA hj;obtain⟨u,Y,a,us,rfl,U,q2,Z,q4⟩:=st.slot i _ e0;have eL:bh [.bor i] W σ=[a]:=by simp[bh,hj,Y]
    have a2:=(G1.mp e0).1;refine kq ?_;rw[eL];refine⟨base [a] (λb hb j ys e oy z=>?_) (λj m e=>?_) (by rw[el,put_len]),by rw[el,put_len]⟩
    .have:b=a:=by simpa using hb
     subst this;rw[el]at e;have a3:i≠j:=λz=>by subst z;rw[ah a2]at e;cases e;cases oy
     rw[af a3]at e;exact st.apart i j (.own xs) ys b a3 e0 e rfl oy Y z
    .rw[el]at e;by_cases a4:i=j
     .subst a4;rw[ah a2]at e;cases e;exact .inl ⟨xs,rfl,e0,a,Y,by simp⟩
     .rw[af a4]at e;exact .inr e
   | _=>exact plain (by simp[bv,hj]) (by simp[bh,hj])
def jX(h:(bv ms W)[j]?=some (some (.brw ys))):W[j]?=some (some (.brw ys))\/(ms=[.bor j]/\W[j]?=some (some (.own ys))):=by
 unfold bv at h;split at h
 .rename_i i;split at h
  .rename_i xs U;have Y:=aA U;have J:=(G1.mp Y).1;by_cases z:i=j
   .subst z;rw[ah J]at h
    simp_all
   .rw[af z]at h;exact .inl h
  .exact .inl h
 .exact .inl h
def kP{j:Nat}(h:(bv ms W)[j]?=some (some (.brwD ys))):W[j]?=some (some (.brwD ys)):=by
 unfold bv at h;split at h
 .rename_i i;split at h
  .rename_i xs U;have Y:=aA U;have J:=(G1.mp Y).1;by_cases z:i=j
   .subst z;rw[ah J]at h;cases h
   .rw[af z]at h;exact h
  .exact h
 .exact h
def xt{j:Nat}(h:(bv ms W)[j]?=some (some (.mutD ys))):W[j]?=some (some (.mutD ys)):=by
 unfold bv at h;split at h
 .rename_i i;split at h
  .rename_i xs U;have Y:=aA U;have J:=(G1.mp Y).1;by_cases z:i=j
   .subst z;rw[ah J]at h;cases h
   .rw[af z]at h;exact h
  .exact h
 .exact h
def nh :(bv ms W).length=W.length:=by
 unfold bv;split
 .split
  .exact put_len
  .rfl
 .rfl
def qx(st:aE K B E O H1 W σ)(J:aE K (a9 B O H1 (bh ms W σ)) E O' H' l F)(k:be (a9 B O H1 (bh ms W σ)) O O' (bv ms W) l σ F) :
  aE K B E O' H' (aP ms W l) F/\be B O O' W (aP ms W l) σ F:=by
 have lg:=dU (O:=O) (L:=bh ms W σ) st.keep;have bA:=Ig J k;have stay:∀a,B a≠none->a∈O->a∈O':=λa h1 h2=>k.stay a (λz=>h1 (lg.free z)) h2
 have new:∀a∈O',a∈O\/B a=none:=λa h=>(k.new a h).imp id lg.free
 have mutK:∀(j:Nat) d',l[j]?=some (some (.mutD d'))->(∃d,W[j]?=some (some (.mutD d)))/\F[j]?=σ[j]?:=λj d' e=>by
  obtain⟨⟨d,e1⟩,U⟩:=k.mutK j d' e;exact⟨⟨d,xt e1⟩,U⟩
 have slot:∀j m,l[j]?=some (some m)->(∀ys,m=.brw ys->¬ (ms=[.bor j]/\W[j]?=some (some (.own ys))))->∃u,F[j]?=some (some u)/\eU K B O' H' m u:=λj m e hn=>by
  obtain⟨u,eu,q⟩:=J.slot j m e;refine⟨u,eu,?_⟩;cases m with
  |val v=>exact q
  |own ys=>obtain⟨a,us,rfl,q1,q2,q3,q4⟩:=q;exact⟨a,us,rfl,q1,q2,q3,lg.free q4⟩
  |brw ys =>
   obtain⟨e1,U⟩:=k.brw j (.brw ys) rfl e;rcases jX e1 with Z|Z
   .obtain⟨w,ew,a,us,rfl,q1,q2⟩:=st.slot j _ Z;rw[eu,ew]at U;cases U;exact⟨a,us,rfl,q1,Reps.mono bA _ q2⟩
   .exact absurd Z (hn ys rfl)
  |brwD ys =>
   obtain⟨e1,U⟩:=k.brw j (.brwD ys) rfl e;obtain⟨w,ew,a,rfl,q1⟩:=st.slot j _ (kP e1);rw[eu,ew]at U;cases U;exact⟨a,rfl,q1⟩
  | _=>obtain⟨a,rfl,q1,q3,q4⟩:=q;exact⟨a,rfl,q1,q3,lg.free q4⟩
 by_cases hA:∃i aO xs,ms=[.bor i]/\(W[i]?).join=some (.own aO)/\(l[i]?).join=some (.brw xs)
 .obtain⟨i,aO,xs,rfl,h0,h1⟩:=hA;have eb:aP [.bor i] W l=put l i (.own xs):=by simp[aP,h0,h1]
  rw[eb];have e0:=aA h0;have e1:=aA h1;have a2:=(G1.mp e1).1;obtain⟨el,es⟩:=k.brw i (.brw xs) rfl e1;have exs:xs=aO:=by
   rcases jX el with Z|⟨_,Z⟩
   .rw[e0]at Z;cases Z
   .rw[e0]at Z;cases Z;rfl
  subst exs;obtain⟨w,ew,a,us,rfl,q1,q2,q3,q4⟩:=st.slot i _ e0;have eL:bh [.bor i] W σ=[a]:=by simp[bh,h0,ew]
  have ga:a9 B O H1 (bh [.bor i] W σ) a=some (.lst us):=by
   unfold a9;rw[eL,if_pos q3,if_pos (by simp)];exact q1
  have other:∀(j:Nat) ys ad,l[j]?=some (some ys)->hZ ys=true->F[j]?=some (some (.ref ad))->ad≠a:=λj ys ad h1 oy h2 z=>by
   obtain⟨u,eu,qq⟩:=J.slot j _ h1;rw[h2]at eu;cases eu;cases ys with
   |own ys =>
    obtain⟨b,_,U,_,_,_,q⟩:=qq;cases U;rw[z,ga]at q;cases q
   |ownD ys|mutD ys =>
    obtain⟨b,U,_,_,q⟩:=qq;cases U;rw[z,ga]at q;cases q
   | _=>cases oy
  refine⟨⟨lg.trans J.keep,J.here,J.sub,st.old,by rw[put_len];exact J.len,λj m e=>?_,λc d ps qs ad b2 e1 U p1 p2 Z e4=>?_
   ⟩,⟨stay,new,λj ys ar e=>?_,by rw[put_len];exact k.len.trans nh
   ,λj d' e=>?_
   ⟩⟩
  .by_cases Y:i=j
   .subst Y;rw[ah a2]at e;cases e;refine⟨_,by rw[es];exact ew,a,us,rfl,J.keep _ _ ga,Reps.mono bA _ q2,k.stay a (by rw[ga];simp) q3,q4⟩
   .rw[af Y]at e;exact slot j m e λys _ ⟨z,_⟩=>Y (by cases z;rfl)
  .by_cases hc:i=c
   .subst hc;rw[es,ew]at Z;cases Z;rw[af b2]at U;exact other d qs _ U p2 e4 rfl
   .rw[af hc]at e1;by_cases hd:i=d
    .subst hd;rw[es,ew]at e4;cases e4;exact other c ps _ e1 p1 Z rfl
    .rw[af hd]at U;exact J.apart c d ps qs ad b2 e1 U p1 p2 Z e4
  .by_cases Y:i=j
   .subst Y;rw[ah a2]at e;cases e;cases ar
   .rw[af Y]at e;obtain⟨e1,U⟩:=k.brw j ys ar e;cases ys with
    |brw ys =>
     rcases jX e1 with Z|⟨z,_⟩
     .exact⟨Z,U⟩
     .cases z;exact absurd rfl Y
    |brwD ys=>exact⟨kP e1,U⟩
    | _=>cases ar
  .by_cases Y:i=j
   .subst Y;rw[ah a2]at e;cases e
   .rw[af Y]at e;exact mutK j d' e
 .have eb:aP ms W l=l:=by
   unfold aP;split
   .rename_i i;split
    .rename_i aO xs h0 h1;exact absurd ⟨i,aO,xs,rfl,h0,h1⟩ hA
    .rfl
   .rfl
  rw[eb];have no:∀j ys,l[j]?=some (some (.brw ys))->¬ (ms=[.bor j]/\W[j]?=some (some (.own ys))):=λj ys e ⟨h1,h2⟩=>hA ⟨j,ys,ys,h1,by rw[h2];rfl,by rw[e];rfl⟩
  refine⟨⟨lg.trans J.keep,J.here,J.sub,st.old,J.len,λj m e=>slot j m e λys z=>no j ys (by rw[e,z]),J.apart
   ⟩,⟨stay,new,λj ys ar e=>?_,k.len.trans nh
   ,λj d' e=>mutK j d' e
   ⟩⟩
  obtain⟨e1,U⟩:=k.brw j ys ar e;cases ys with
  |brw ys =>
   rcases jX e1 with Z|Z
   .exact⟨Z,U⟩
   .exact absurd Z (no j ys e)
  |brwD ys=>exact⟨kP e1,U⟩
  | _=>cases ar
end
section
variable{X:Cx}{T:Tab}{k:Nat}{cal:Cal}
def CG(K:NF)(n:Nat)(g:TG)(tk:PV->Rho->Option Rho):Prop:=
 ∀B E O H W l σ x u (Q:St->Hp->Prop),σ.length=n->aE K B E O H W σ->Rep K (aw H O) x u->tk x W=some l ->
  (∀F,aE K B E O H l F->be B O O W l σ F->Q F H)->g u σ H Q
def sf{K:NF}(hn:σ.length=n)(hg:CG K n g tk)(Y:aE K B E O H1 W σ)(it:lI K J xs (aw H1 O) (a9 B O H1 (bh ms W σ)))
  (q:gh K B E O W σ D ((ay (λx l=>cg (tk x l) λU=>exs cal body U) xs (bv ms W)).back ms W)):DX (λ_ _ R=>R J H1) g (tSs K cal body) D σ H1:=by
 obtain⟨b2,_⟩:=CF (ms:=ms) Y;refine⟨λi m F H'=>m=xs.length-i/\i<=xs.length/\∃l O',aE K (a9 B O H1 (bh ms W σ)) E O' H' l F/\be (a9 B O H1 (bh ms W σ)) O O' (bv ms W) l σ F /\
  ay (λx l=>cg (tk x l) λU=>exs cal body U) (xs.drop i) l=ay (λx l=>cg (tk x l) λU=>exs cal body U) xs (bv ms W),⟨xs.length,by simp,Kd _,bv ms W,O,b2,.refl,by simp⟩,?_⟩
 rintro i m F H' ⟨rfl,hi,l,O',Z,k',eq⟩;by_cases a5:i<xs.length
 .right;have ex:=J1 a5;refine⟨it.go i _ H' Z.keep ex,λa1 H2=>∃m',m'<xs.length-i/\(m'=xs.length-(i+1)/\i+1<=xs.length/\∃l O',aE K (a9 B O H1 (bh ms W σ)) E O' H2 l a1/\be (a9 B O H1 (bh ms W σ)) O O' (bv ms W) l σ a1 /\
   ay (λx l=>cg (tk x l) λU=>exs cal body U) (xs.drop (i+1)) l=ay (λx l=>cg (tk x l) λU=>exs cal body U) xs (bv ms W)),λa1 H2 z=>z,λu H2 y=>?_⟩
  obtain⟨s2,hr⟩:=it.yld i _ H' u H2 Z.keep ex y;have b3:=Ig Z k';have hx:=hr O' Z.here (b3.trans (ak s2));rw[MZ a5,ay]at eq;cases et:tk xs[i] l with
  |none =>
   rw[et]at eq;rw[<- eq]at q;exact(show False from q).elim
  |some ao =>
   rw[et,show cg (some ao) (λU=>exs cal body U)=exs cal body ao from rfl]at eq;have bA:F.length=n:=by rw[<- Z.len,k'.len,nh,Y.len];exact hn
   refine hg _ E O' H2 l ao F _ u _ bA (Z.mono s2) hx et λa1 b5 k2=>?_
   refine⟨_,E,O',ao,b5,?_⟩;have kk:=k'.trans k2;cases er:exs cal body ao with
   |next a2|cont a2 =>
    rw[er]at eq;exact λa3 H3 O3 ar k3=>⟨_,by omega,rfl,a5,a2,O3,ar,kk.trans k3,eq⟩
   |brk a2 =>
    rw[er]at eq;rw[<- eq]at q;exact λa3 H3 O3 ar k3=>by
     obtain⟨aO,kb⟩:=qx Y ar (kk.trans k3);exact q a3 H3 O3 aO kb
   |ret v =>
    rw[er]at eq;rw[<- eq]at q;exact λw H3 s3 r=>q w H3 ((dU Y.keep).trans s3) r
   |retM v a2 =>
    rw[er]at eq;rw[<- eq]at q;exact λu a3 H3 O3 ar k3 ru=>by
     obtain⟨aO,kb⟩:=qx Y ar (kk.trans k3);exact q u a3 H3 O3 aO kb ru
   |retF ys =>
    rw[er]at eq;rw[<- eq]at q;exact λp us H3 s3 hp he r=>q p us H3 ((dU Y.keep).trans s3) ((dU Y.keep).free hp) he r
   |bad =>
    rw[er]at eq;rw[<- eq]at q;exact(show False from q).elim
 .left;have ei:i=xs.length:=by omega
  subst ei;rw[drop_length,ay]at eq;rw[<- eq]at q;obtain⟨aO,kb⟩:=qx Y Z k';exact⟨it.stop H' Z.keep,q F H' O' aO kb⟩
def z7{K:NF}(U:σ.length=n)(Y:CG K n g tk)(st:aE K B E O H W σ)(Z:evs cal ms W=some vs)(e2:bc k' vs=some xs)
  (q:gh K B E O W σ D ((ay (λx l=>cg (tk x l) λz=>exs cal body z) xs (bv ms W)).back ms W)):DX (tW K cal k' ms) g (tSs K cal body) D σ H:=by
 exact⟨B,E,O,W,vs,xs,st,Z,e2,λJ H1 s1 it=>sf U Y (st.mono s1) it q⟩
def vQ{K:NF}(hi:i<n):CG K n (ig i) (λx W=>some (put W i (.val x))):=by
 intro B E O H W l σ x u Q U st r e q;cases e;obtain⟨z,J⟩:=st.store (i:=i) (by omega) r;exact q _ z J
def FB(g:Gf X T k cal)(d:Df X)(hi:X.N[i]?=some x)(hx:Loc X.env.scope x)(hw:PI X (.Name x px) it (tW X.K cal J src))(z:eV it=true)(U:PSs X b (tSs X.K cal body)) :
  PS X (.For (.Name x px) it b [] pos) (tS X.K cal (.for1 i J src body)):=by
 refine PS.imp' (s_ d.own g.calm hw (lO d.nd hi hx (.inl (d.fn x))) U (by intro v;cases it<;>first|rfl|(simp[eV]at z))) λD σ H Y q=>?_
 obtain⟨B,E,O,W,st,q⟩:=q;rw[ex]at q;cases e:(evs cal src W).bind (bc J)with
 |none=>rw[e]at q;exact(show False from q).elim
 |some xs =>
  rw[e]at q;simp only[gf]at e;obtain⟨vs,Z,e2⟩:=e;exact z7 (tk:=λx W=>some (put W i (.val x))) rfl (vQ (ltN hi Y)) st Z e2 q
def FC (g:Gf X T k cal) (d:Df X) (hi:X.N[i]?=some x) (hx:Loc X.env.scope x) (Z:glB X.env.scope ("range":Str)=true) (h:PE X e (tX X.K cal y)) (hs:ag e=true) (hb:PSs X b (tSs X.K cal body)) :
  PS X (.For (.Name x px) (.Call (.Name ("range":Str) p) [e] [] rp) b [] pos) (tS X.K cal (.forX i y body)):=by
 refine PS.imp' (s_ d.own g.calm (z6 g Z h hs) (lO d.nd hi hx (.inl (d.fn x))) hb (by intro v;rfl)) λD σ H hl q=>?_
 obtain⟨B,E,O,W,st,q⟩:=q;rw[ex]at q;cases z:evX cal y W with
 |none=>rw[z]at q;exact(show False from q).elim
 |some pr =>
  obtain⟨v,l⟩:=pr;rw[z]at q;dsimp only at q;cases U:bc .rng [v]with
  |none=>rw[U]at q;exact(show False from q).elim
  |some xs =>
   rw[U]at q;refine⟨B,E,O,W,v,l,xs,st,z,U,λJ H1 _ Y k1 it=>?_⟩;refine sf (ms:=[.cst v]) (tk:=λx W=>some (put W i (.val x))) rfl (vQ (ltN hi hl)) Y it ?_;have q2:=gh.trans q k1;have back:∀r:R,r.back [.cst v] l=r:=λr=>by cases r<;>rfl
   rw[back];exact q2
end
noncomputable def qy:List Nat->TGs
 | []=>GO
 |i::is=>Db (ig i) (qy is)
section
variable{X:Cx}{T:Tab}{k:Nat}{cal:Cal}
theorem ni:∀{is}{z},dM X.N X.env.scope is z=true->(assignEach z X.env).length=is.length/\(assignEach z X.env).findIdx? (·.1)=none
 | [],[],_=>⟨rfl,rfl⟩
 | [],_::_,h=>by cases h
 | _::_,[],h=>by cases h
 |i::is,e::z,h=>by
  cases e<;>first|(cases h;done)|skip
  simp only[qh,mu]at h;rename_i x p;obtain⟨h1,h2⟩:=ni h.2;refine⟨?_,?_⟩
  .show((false,assign (.Name x p) X.env)::assignEach z X.env).length=_;simp[h1]
  .show((false,assign (.Name x p) X.env)::assignEach z X.env).findIdx? (·.1)=none;rw[findIdx?_cons];simp[h2]
theorem pk(d:Df X):∀{is}{z},dM X.N X.env.scope is z=true->PGs X z (qy is)
 | [],[],_=>Bt
 | [],_::_,h=>by cases h
 | _::_,[],h=>by cases h
 |i::is,e::z,h=>by
  cases e<;>first|(cases h;done)|skip
  simp[qh,mu]at h;rename_i x p;exact yd (lO d.nd h.1.1.1 (iw h.1.1.2) (.inl (d.fn x))) (pk d h.2) rfl
theorem sg:∀{is}{J},dM X.N X.env.scope is J=true->∀i∈is,i<X.N.length
 | [],[],_=>λi hi=>by simp at hi
 | [],_::_,h=>by cases h
 | _::_,[],h=>by cases h
 |i::is,e::J,h=>λj z=>by
  cases e<;>first|(cases h;done)|skip
  simp[qh,mu]at h;rcases wh.mp z with rfl|z
  .exact(G1.mp h.1.1.1).1
  .exact sg h.2 j z
theorem vR{K:NF}:∀{is}{vs}{us}{B}{E O}{H}{W l}{σ}{Q:St->Hp->Prop},(∀i∈is,i<σ.length)->aE K B E O H W σ->Reps K (aw H O) vs us->mR is vs W=some l ->
  (∀F,aE K B E O H l F->be B O O W l σ F->Q F H)->qy is us σ H Q
 | [],[],us,_,_,_,_,_,_,_,_,_,st,r,e,q=>by
  subst r;cases e;exact⟨rfl,q _ st .refl⟩
 | [],_::_,_,_,_,_,_,_,_,_,_,_,_,_,e,_=>by simp[mR]at e
 | _::_,[],_,_,_,_,_,_,_,_,_,_,_,_,e,_=>by simp[mR]at e
 |i::is,v::vs,us,B,E,O,H,W,l,σ,Q,hi,st,r,e,q=>by
  obtain⟨u,U,rfl,Y,Z⟩:=r;obtain⟨z,k1⟩:=st.store (i:=i) (hi i (.head _)) Y;refine⟨u,U,rfl,?_⟩;exact vR (λj hj=>by rw[Ly];exact hi j (.tail _ hj)) z Z e λF J k'=>q F J (k1.trans k')
def FD{K:NF}(hi:∀i∈is,i<n):CG K n (GP K is.length (qy is)) (cM is):=by
 intro B E O H W l σ x u Q J st r e q;cases x with
 |tup vs =>
  obtain⟨a,us,rfl,U,z⟩:=r;have Y:∀{is}{vs}{W l},mR is vs W=some l->vs.length=is.length:=by
   intro is
   induction is with
   |nil=>intro vs W l h;cases vs<;>simp[mR]at h ⊢
   |cons i is ih=>intro vs W l h;cases vs<;>simp[mR]at h ⊢;exact ih h
  exact⟨a,us,rfl,(bR H O).seqT (d4 U),by rw[<- z.length];exact Y e,vR (λi h=>by rw[J];exact hi i h) st z e q⟩
 | _=>cases e
def FE(g:Gf X T k cal)(d:Df X)(hi:dM X.N X.env.scope is J=true)(hw:PI X (.Tuple J j Y) it (tW X.K cal U src))(z:eV it=true)(Z:PSs X b (tSs X.K cal body)) :
  PS X (.For (.Tuple J j Y) it b [] pos) (tS X.K cal (.forT is U src body)):=by
 obtain⟨h1,h2⟩:=ni hi;refine PS.imp' (s_ d.own g.calm hw (DU g.calm (pk d hi) h1 h2) Z (by intro v;cases it<;>first|rfl|(simp[eV]at z))) λD σ H hl q=>?_
 obtain⟨B,E,O,W,st,q⟩:=q;rw[ex]at q;cases e:(evs cal src W).bind (bc U)with
 |none=>rw[e]at q;exact(show False from q).elim
 |some xs =>
  rw[e]at q;simp only[gf]at e;obtain⟨vs,e1,e2⟩:=e;exact z7 (tk:=cM is) hl (FD (sg hi)) st e1 e2 q
def qz(g:Gf X T k cal)(d:Df X)(hi:X.N[i]?=some x)(hx:Loc X.env.scope x)(hc:chk T Z X.N X.env.scope v=true)(hs:lf X.env.scope x px v Z=true):∃t,PS X (.Assign [.Name x px] v pos) (sX t (ig i))/\(∀σ H Q,tF X.K cal Z σ H Q->t σ H Q)/\iu Z=true:=by
 unfold lf at hs;have hl:=al hs;obtain⟨c,w,_⟩:=hl;obtain rfl:=t4 w;cases Z with
 |comp k' src js cond elt =>
  obtain⟨e,y,py,it,ifs,scope,cpos,e0,h⟩:=kK hc;rw[e0]at hs ⊢;simp only[mu,J4]at h;obtain⟨⟨⟨⟨h1,h2⟩,h3⟩,h4⟩,h5⟩:=h;have hw:=kO (tg:=.Name y py) (λz=>by cases z) g h2 (λxs Y=>⟨sounds src g Y,bH Y⟩) (λm x hm hx=>match src,hm with|[m'],rfl=>(av m' g (b7 hx).1.1).1);exact⟨_,tN d.nd hi hx (kN h1) g.calm hw.1 (λJ U C fp=>qt h3 λc hc=>(av cond (g.blk y _ scope J U C fp) hc).2) (λJ U C fp=>(av elt (g.blk y _ scope J U C fp) h4).1) (xm d hs) (by have:=hw.2;intro v;cases it<;>first|rfl|(simp[eV]at this)) (.inl (d.fn x)),
   λσ H Q q=>uf.comp_go h5 q,rfl⟩
 | _=>cases (show false=true from hc)
def Ih(U:iu J=true){K:NF}(q:tE K cal J σ H Q):tF K cal J σ H Q:=by
 obtain⟨B,E,O,W,v,st,z,q⟩:=q;have hv:∃xs,v=.lst xs:=by
  cases J with
  |lst es =>
   rw[ev,gf]at z;obtain⟨vs,_,hv⟩:=z;split at hv
   .cases hv;exact⟨_,rfl⟩
   .cases hv
  |comp _ _ _ _ _=>exact r_ W v z
  |blt b es=>cases b<;>first|exact eF (.inl rfl) W v z|exact eF (.inr (.inl rfl)) W v z|exact eF (.inr (.inr (.inl rfl))) W v z|exact eF (.inr (.inr (.inr (.inl rfl)))) W v z|exact eF (.inr (.inr (.inr (.inr rfl)))) W v z|(simp[iu]at U)
  | _=>simp[iu]at U
 obtain⟨xs,rfl⟩:=hv;exact⟨B,E,O,W,xs,st,z,λp us H' s Y Z r=>q _ _ s (vI st.here Y Z r)⟩
end
section
variable{T:Tab}{N:List Str}{sc:Scope}
def CH(h:fj T N sc (.set i e) s=true):∃x px v pos,s=.Assign [.Name x px] v pos/\(N[i]?==some x&&fh sc x&&au x&&chk T e N sc v&&!aH e&&(bm v||lf sc x px v e))=true:=by
 obtain⟨q,z,h1⟩:=al h;obtain⟨pos,rfl⟩:=iR z;exact⟨_,_,_,_,rfl,h1⟩
def CI(h:fj T N sc (.setOwn i e) s=true):∃x px v pos,s=.Assign [.Name x px] v pos/\(N[i]?==some x&&fh sc x&&au x&&chk T e N sc v&&iu e&&(bm v||lf sc x px v e))=true:=by
 obtain⟨q,z,h1⟩:=al h;obtain⟨pos,rfl⟩:=iR z;exact⟨_,_,_,_,rfl,h1⟩
def uq (h:fj T N sc (.append i e) s=true):∃x p m ap v cp pos,s=.Expr (.Call (.Attribute (.Name x p) m ap) [v] [] cp) pos/\(aM N sc i x&&m==("append":Str)&&chk T e N sc v&&!aH e&&ag v&&ap.endLine==cp.line)=true:=by
 obtain⟨q,z,h1⟩:=al h;obtain⟨v,J,h2⟩:=al h1;obtain⟨p,pos,rfl⟩:=lV z;rw[cF J];exact⟨_,_,_,_,_,_,_,rfl,h2⟩
def xu (h:fj T N sc (.popAt i e) s=true):∃x p m ap v cp pos,s=.Expr (.Call (.Attribute (.Name x p) m ap) [v] [] cp) pos/\(aM N sc i x&&m==("pop":Str)&&chk T e N sc v&&ag v&&ap.endLine==cp.line)=true:=by
 obtain⟨q,z,h1⟩:=al h;obtain⟨v,J,h2⟩:=al h1;obtain⟨p,pos,rfl⟩:=lV z;rw[cF J];exact⟨_,_,_,_,_,_,_,rfl,h2⟩
def ur (h:fj T N sc (.extend i e) s=true):∃x p m ap v cp pos,s=.Expr (.Call (.Attribute (.Name x p) m ap) [v] [] cp) pos/\(aM N sc i x&&m==("extend":Str)&&chk T e N sc v&&ag v&&ap.endLine==cp.line)=true:=by
 obtain⟨q,z,h1⟩:=al h;obtain⟨v,J,h2⟩:=al h1;obtain⟨p,pos,rfl⟩:=lV z;rw[cF J];exact⟨_,_,_,_,_,_,_,rfl,h2⟩
def ut(h:fj T N sc (.setIdx i k e) s=true):∃x p s' sp v pos,s=.Assign [.Subscript (.Name x p) s' sp] v pos/\(aM N sc i x&&chk T k N sc s'&&bq s'&&chk T e N sc v&&!aH e&&bm v)=true:=by
 obtain⟨q,z,h1⟩:=al h;obtain⟨p,sp,pos,rfl⟩:=vA z;exact⟨_,_,_,_,_,_,rfl,h1⟩
def z8(h:fj T N sc (.dput i k e) s=true):∃x p s' sp v pos,s=.Assign [.Subscript (.Name x p) s' sp] v pos/\(aM N sc i x&&chk T k N sc s'&&bq s'&&chk T e N sc v&&!aH e&&bm v)=true:=by
 obtain⟨q,z,h1⟩:=al h;obtain⟨p,sp,pos,rfl⟩:=vA z;exact⟨_,_,_,_,_,_,rfl,h1⟩
def z9(h:fj T N sc (.newD m i) s=true):∃x p dp pos,s=.Assign [.Name x p] (.Dict [] [] dp) pos/\(N[i]?==some x&&fh sc x&&au x)=true:=by
 obtain⟨q,z,h1⟩:=al h;rw[mu]at h1;obtain⟨pos,rfl⟩:=iR z;obtain⟨p,J⟩:=zx h1.1;rw[J];exact⟨_,_,_,_,rfl,h1.2⟩
def CJ(h:fj T N sc (.ite c a b) s=true):∃t x y pos,s=.If t x y pos/\(chk T c N sc t&&chkSs T N sc a x&&chkSs T N sc b y)=true:=by
 cases s with
 |If t x y pos=>exact⟨t,x,y,pos,rfl,h⟩
 | _=>cases (show false=true from h)
def z_ (h:fj T N sc (.forX i y body) s=true):∃x px it b pos,s=.For (.Name x px) it b [] pos/\(N[i]?==some x&&fh sc x&&au x&&onQ (fnQ it) (λq=>q.1==("range":Str)&&glB sc q.1&&q.2.2.isEmpty&&da T y N sc q.2.1&&ag q.2.1)&&chkSs T N sc body b)=true:=by
 rw[Cg]at h;split at h
 .exact⟨_,_,_,_,_,rfl,h⟩
 .cases h
def Aa(h:fj T N sc (.for1 i k src body) s=true):∃x px it b pos,s=.For (.Name x px) it b [] pos/\(N[i]?==some x&&fh sc x&&au x&&mT sc false (λxs=>chks T src N sc xs) k it&&chkSs T N sc body b)=true:=by
 simp[Ch]at h;split at h<;>first|(cases h;done)|(rename_i z;cases z;exact⟨_,_,_,_,_,rfl,h⟩)|(injections;done)|(injections;subst_vars;exact⟨_,_,_,_,_,rfl,h⟩)
def Ab(h:fj T N sc (.forT is k src body) s=true):∃J j U it b pos,s=.For (.Tuple J j U) it b [] pos/\(dM N sc is J&&mT sc true (λxs=>chks T src N sc xs) k it&&chkSs T N sc body b)=true:=by
 simp[Ci]at h;split at h<;>first|(cases h;done)|(rename_i z;cases z;exact⟨_,_,_,_,_,_,rfl,h⟩)|(injections;done)|(injections;subst_vars;exact⟨_,_,_,_,_,_,rfl,h⟩)
def Ac(h:fj T N sc (.retM e) s=true):∃v pos,s=.Return (some v) pos/\(chk T e N sc v&&!aH e)=true:=by
 obtain⟨v,z,h1⟩:=al h;obtain⟨pos,rfl⟩:=lW z;exact⟨_,_,rfl,h1⟩
def CK(h:fj T N sc (.ret e) s=true):∃v pos,s=.Return (some v) pos/\(chk T e N sc v&&!aH e)=true:=by
 obtain⟨v,z,h1⟩:=al h;obtain⟨pos,rfl⟩:=lW z;exact⟨_,_,rfl,h1⟩
def uu(h:fj T N sc (.retOwn i) s=true):∃x p pos,s=.Return (some (.Name x p)) pos/\(aM N sc i x)=true:=by
 obtain⟨v,z,h1⟩:=al h;obtain⟨x,J,h2⟩:=al h1;obtain⟨pos,rfl⟩:=lW z;obtain⟨p,rfl⟩:=zw J;exact⟨_,_,_,rfl,h2⟩
end
def xv(g:Gf X T k cal)(d:Df X)(h:fj T X.N X.env.scope (.set i e) s=true):PS X s (tS X.K cal (.set i e)):=by
 obtain⟨x,px,v,pos,rfl,hc⟩:=CH h;simp only[mu,MX,JZ,J4]at hc;obtain⟨⟨⟨⟨⟨h1,h2⟩,h3⟩,J⟩,U⟩,z⟩:=hc;rcases z with z|z
 .exact HV d h1 (iw h2) (av e g J).1 U z
 .obtain⟨t,p,Y,Z⟩:=qz (pos:=pos) g d h1 (iw h2) J z;exact PS.imp' p λD σ H hl q=>Y _ _ _ (Ih Z (zS (ltN h1 hl) U q))
noncomputable def FF:MS->Bool
 | .freeze _=>true
 | _=>false
mutual
theorem FG{T:Tab}{k:Nat}{cal:Cal}{X:Cx}(g:Gf X T k cal)(d:Df X):∀(m:MS) (s:Stmt),fj T X.N X.env.scope m s=true->PS X s (tS X.K cal m)
 | .set i e,s,h=>xv g d h
 | .setOwn i e,s,h=>by
  obtain⟨x,px,v,pos,rfl,hc⟩:=CI h;simp only[mu,MX,JZ]at hc;obtain⟨⟨⟨⟨⟨h1,h2⟩,Y⟩,J⟩,U⟩,Z⟩:=hc;rcases Z with Z|Z
  .exact HW d h1 (iw h2) (Fo g J U) Z
  .obtain⟨t,p,hp,hf⟩:=qz (pos:=pos) g d h1 (iw h2) J Z;exact PS.imp' p λD σ H hl q=>hp _ _ _ (zT (ltN h1 hl) q)
 | .append i e,s,h=>by
  obtain⟨x,p,m,ap,v,cp,pos,rfl,hc⟩:=uq h;simp only[mu,JZ,J4]at hc;obtain⟨⟨⟨⟨⟨h1,rfl⟩,Y⟩,J⟩,U⟩,Z⟩:=hc;exact zV (av e g Y).1 h1 J U (JZ.mpr Z)
 | .extend i e,s,h=>by
  obtain⟨x,p,m,ap,v,cp,pos,rfl,hc⟩:=ur h;simp only[mu,JZ]at hc;obtain⟨⟨⟨⟨h1,rfl⟩,Y⟩,U⟩,Z⟩:=hc;exact zW (av e g Y).1 h1 U (JZ.mpr Z)
 | .setIdx i kk e,s,h=>by
  obtain⟨x,p,s',sp,v,pos,rfl,hc⟩:=ut h;simp only[mu,J4]at hc;obtain⟨⟨⟨⟨⟨h1,h2⟩,Y⟩,J⟩,U⟩,Z⟩:=hc;exact zX (av kk g h2).1 (av e g J).1 h1 U Z Y
 | .unpack _ _,s,h=>absurd (show false=true from h) pd
 | .expr _,s,h=>absurd (show false=true from h) pd
 | .ite c a b,s,h=>by
  obtain⟨t,x,y,pos,rfl,hc⟩:=CJ h;simp only[mu]at hc;exact Jz (av c g hc.1.1).2 (soundSs g d a x hc.1.2) (soundSs g d b y hc.2)
 | .for1 i k' src body,s,h=>by
  obtain⟨x,px,it,b,pos,rfl,hc⟩:=Aa h;simp only[mu,JZ]at hc;obtain⟨⟨⟨⟨h1,h2⟩,Y⟩,J⟩,U⟩:=hc;have hw:=kO (tg:=.Name x px) (λz=>by cases z) g J (λxs ao=>⟨sounds src g ao,bH ao⟩) (λm x hm hx=>match src,hm with|[m'],rfl=>(av m' g (by simp only[chks,mu]at hx;exact hx.1.1)).1);exact FB g d h1 (iw h2) hw.1 hw.2 (soundSs g d body b U)
 | .forT is k' src body,s,h=>by
  obtain⟨ts,j,tp,it,b,pos,rfl,hc⟩:=Ab h;simp only[mu]at hc;obtain⟨⟨h1,J⟩,U⟩:=hc;have hw:=kO (tg:=.Tuple ts j tp) (λ_=>⟨_,_,_,rfl⟩) g J (λxs ao=>⟨sounds src g ao,bH ao⟩) (λm x hm hx=>match src,hm with|[m'],rfl=>(av m' g (by simp only[chks,mu]at hx;exact hx.1.1)).1);exact FE g d h1 hw.1 hw.2 (soundSs g d body b U)
 | .while _ _ _,s,h=>absurd (show false=true from h) pd
 | .ret e,s,h=>by
  obtain⟨v,pos,rfl,hc⟩:=CK h;simp only[mu,J4]at hc;exact HX (av e g hc.1).1 hc.2
 | .setP i e,s,h=>by
  obtain⟨q,e1,hc⟩:=al (show onQ (oF s) (λq=>X.N[i]?==some q.1&&fh X.env.scope q.1&&au q.1&&onQ (EO q.2.2) λr=>r.1==("list":Str)&&r.2.1==("reversed":Str)&&glB X.env.scope r.1&&glB X.env.scope r.2.1&&chk T e X.N X.env.scope r.2.2&&ag r.2.2)=true from h);obtain⟨x,px,v⟩:=q;obtain⟨pos,rfl⟩:=iR e1;obtain⟨a1,J⟩:=oe.mp hc;obtain⟨a2,Y⟩:=oe.mp a1;obtain⟨h1,h2⟩:=oe.mp a2;obtain⟨r,e2,hr⟩:=al J;obtain⟨f,f2,w⟩:=r;obtain⟨p,p2,pos2,cp,rfl⟩:=Ca e2;obtain⟨b1,c6⟩:=oe.mp hr;obtain⟨b2,c5⟩:=oe.mp b1;obtain⟨b3,c4⟩:=oe.mp b2;obtain⟨b4,c3⟩:=oe.mp b3;obtain⟨c1,c2⟩:=oe.mp b4;obtain rfl:f=("list":Str):=eq_of_beq c1;obtain rfl:f2=("reversed":Str):=eq_of_beq c2;exact FA g d (eq_of_beq h1) (iw h2) c3 c4 (av e g c5).1 c6
 | .setQ i e,s,h=>by
  obtain⟨q,e1,hc⟩:=al (show onQ (oF s) (λq=>X.N[i]?==some q.1&&fh X.env.scope q.1&&au q.1&&chk T e X.N X.env.scope q.2.2&&lf X.env.scope q.1 q.2.1 q.2.2 e)=true from h);obtain⟨x,px,v⟩:=q;obtain⟨pos,rfl⟩:=iR e1;simp only[mu,JZ]at hc;obtain⟨⟨⟨⟨h1,h2⟩,Y⟩,J⟩,Z⟩:=hc;obtain⟨t,p,hp,hf⟩:=qz (pos:=pos) g d h1 (iw h2) J Z;exact PS.imp' p λD σ H hl q=>hp _ _ _ (CD (ltN h1 hl) q)
 | .setX i y,s,h=>by
  obtain⟨q,e1,hc⟩:=al (show onQ (oF s) (λq=>X.N[i]?==some q.1&&fh X.env.scope q.1&&au q.1&&da T y X.N X.env.scope q.2.2&&bm q.2.2)=true from h);obtain⟨pos,rfl⟩:=iR e1;obtain⟨a2,U⟩:=oe.mp hc;obtain⟨a3,J⟩:=oe.mp a2;obtain⟨a4,Y⟩:=oe.mp a3;obtain⟨h1,h2⟩:=oe.mp a4;exact Fy d (eq_of_beq h1) (iw h2) (eG g y _ J) U
 | .appX i y,s,h=>by
  obtain⟨q,e1,hc⟩:=al (show onQ (xc s) (λq=>onQ (jl q.2.2.2.1) λv=>aM X.N X.env.scope i q.1&&q.2.1==("append":Str)&&da T y X.N X.env.scope v&&ag v&&q.2.2.1.endLine==q.2.2.2.2.line)=true from h);obtain⟨v,e2,hc⟩:=al hc;obtain⟨x,m,ap,as,cp⟩:=q;obtain⟨p,pos,rfl⟩:=lV e1;have e3:as=[v]:=cF e2;subst e3;obtain⟨a2,U⟩:=oe.mp hc;obtain⟨a3,J⟩:=oe.mp a2;obtain⟨a4,Y⟩:=oe.mp a3;obtain⟨h1,h2⟩:=oe.mp a4;obtain rfl:m=("append":Str):=eq_of_beq h2;exact Fz (eG g y _ Y) h1 J U
 | .retXE y,s,h=>by
  obtain⟨v,e1,hc⟩:=al (show onQ (xg s) (λv=>da T y X.N X.env.scope v)=true from h);obtain⟨pos,rfl⟩:=lW e1;exact CC (eG g y _ hc)
 | .forX i y body,s,h=>by
  obtain⟨x,px,it,b,pos,rfl,h⟩:=z_ h;obtain⟨a1,U⟩:=oe.mp h;obtain⟨a2,J⟩:=oe.mp a1;obtain⟨a3,Y⟩:=oe.mp a2;obtain⟨h1,h2⟩:=oe.mp a3;obtain⟨q,e1,hc⟩:=al J;obtain⟨f,e,es⟩:=q;obtain⟨p,rp,rfl⟩:=ub e1;obtain⟨b1,c5⟩:=oe.mp hc;obtain⟨b2,c4⟩:=oe.mp b1;obtain⟨b3,c3⟩:=oe.mp b2;obtain⟨c1,c2⟩:=oe.mp b3;obtain rfl:f=("range":Str):=eq_of_beq c1;have e3:es=[]:=LB.mp c3;subst e3;exact FC g d (eq_of_beq h1) (iw h2) c2 (eG g y _ c4) c5 (soundSs g d body b U)
 | .retM e,s,h=>by
  obtain⟨v,pos,rfl,hc⟩:=Ac h;simp only[mu,J4]at hc;exact Fr (av e g hc.1).1 hc.2
 | .retF _,s,h=>absurd (show false=true from h) pd
 | .setCall _ _ _,s,h=>absurd (show false=true from h) pd
 | .clear _,s,h=>absurd (show false=true from h) pd
 | .retOwn i,s,h=>by
  obtain⟨x,p,pos,rfl,hc⟩:=uu h;exact zY hc
 | .retN,s,h=>absurd (show false=true from h) pd
 | .brk,s,h=>absurd (show false=true from h) pd
 | .cont,s,h=>absurd (show false=true from h) pd
 | .pass,s,h=>absurd (show false=true from h) pd
 | .never,s,h=>by
  refine yc.imp λD σ H q=>?_
  obtain⟨B,E,O,W,st,q⟩:=q;rw[ex]at q;exact q
 | .newD m i,s,h=>by
  obtain⟨x,p,dp,pos,rfl,hc⟩:=z9 h;simp only[mu,JZ]at hc;exact Fp d hc.1.1 (iw hc.1.2)
 | .dput i mk me,s,h=>by
  obtain⟨x,p,s',sp,v,pos,rfl,hc⟩:=z8 h;simp only[mu]at hc;exact Fq g (av mk g hc.1.1.1.1.2).1 (av me g hc.1.1.2).1 hc.1.1.1.1.1 hc.2
 | .freeze _,s,h=>absurd (show false=true from h) pd
 | .popAt i k,s,h=>by
  obtain⟨x,p,m,ap,a,cp,pos,rfl,hc⟩:=xu h;simp only[mu,JZ]at hc;obtain⟨⟨⟨⟨h1,rfl⟩,h2⟩,U⟩,h7⟩:=hc;exact Cz (av k g h2).1 h1 U (JZ.mpr h7)
theorem soundSs{T:Tab}{k:Nat}{cal:Cal}{X:Cx}(g:Gf X T k cal)(d:Df X):∀(ms:List MS) (ss:List Stmt),chkSs T X.N X.env.scope ms ss=true->PSs X ss (tSs X.K cal ms)
 | [],ss,h=>by
  cases ss with
  |nil=>exact HY
  |cons _ _=>cases h
 |m::ms,ss,h=>by
  cases hm:FF m with
  |true =>
   cases m<;>simp[FF]at hm
   cases h
  |false =>
   cases ss with
   |nil=>cases m<;>first|(cases h;done)|cases hm
   |cons s ss =>
    have h:(fj T X.N X.env.scope m s&&chkSs T X.N X.env.scope ms ss)=true:=by cases m<;>first|exact h|(simp[FF]at hm)
    simp only[mu]at h;exact Fs (FG g d m s h.1) (soundSs g d ms ss h.2)
end
structure FnD(K:NF)(x y:Str)(st:Stmt)(fa:Addr)(fd:FuncData):Prop where
 it:∃(c0 d0 k0 o0 m0:Value) (a0:Option Addr) (c1 t1:Value) (a1:Option Addr) (sl:Array (Option Value)),
  K.lookup fa=some ⟨c0,a1,.func fd,sl⟩/\PySem.W.codeIn K c1 y=true/\fd=PySem.W.fnOf x y (jD st) (dH st) (bo st) d0 k0 o0 m0 a0 c1 t1
 kp:PySem.W.keepIn K (.ref fa)=true
theorem FnD.mk'{K:NF}{st:Stmt} 
  (l:K.lookup z=some ⟨Z,a1,.func (PySem.W.fnOf x y (jD st) (dH st) (bo st) d0 U o0 m0 Y J t1),sl⟩) (c:PySem.W.codeIn K J y=true) (k:PySem.W.keepIn K (.ref z)=true) :
  FnD K x y st z (PySem.W.fnOf x y (jD st) (dH st) (bo st) d0 U o0 m0 Y J t1):=⟨⟨_,_,_,_,_,_,_,_,_,_,l,c,rfl⟩,k⟩
theorem FnD.mkd{K:NF}{st:Stmt} 
  (l:K.lookup z=some ⟨Z,a1,.func (PySem.W.fnOf x y (jD st) (dH st) (bo st) (.ref T) U o0 m0 Y J t1),sl⟩) (c:PySem.W.codeIn K J y=true) (k:PySem.W.keepIn K (.ref z)=true) :
  FnD K x y st z (PySem.W.fnOf x y (jD st) (dH st) (bo st) (.ref T) U o0 m0 Y J t1):=.mk' l c k
structure sh(T:Tab)(K:NF)(mg:Str->Option Value)(st:Stmt)(d:MD)(fa:Addr)(fd:FuncData):Prop where
 fn:FnD K d.name d.name st fa fd
 binds:c8 K fd d.params []
 named:mg d.name=some (.ref fa)
 scope:pV d.names d.params (bo st)
 body:chkSs T d.names (bo st) d.body (dH st)=true
def cY{α:Type}{n:Nat}:∀{us:List α},us.length=n+1->∃a t,us=a::t/\t.length=n
 | _::_,h=>⟨_,_,rfl,Nat.succ.inj h⟩
def bn1{K:NF}{fd:FuncData}{z:Str}(h:∀a,bindArgs fd ⟨[a],[]⟩=pure [(z,a)]):c8 K fd [z] []:=.all λus J=>by
 obtain⟨a,U,rfl,h1⟩:=cY J;obtain rfl:=J6.mp h1;exact h a
def bn2{K:NF}{fd:FuncData}{z J:Str}(h:∀a b,bindArgs fd ⟨[a,b],[]⟩=pure [(z,a),(J,b)]):c8 K fd [z,J] []:=.all λus U=>by
 obtain⟨a,Y,rfl,h1⟩:=cY U;obtain⟨b,Z,rfl,h2⟩:=cY h1;obtain rfl:=J6.mp h2;exact h a b
def bn3{K:NF}{fd:FuncData}{z J U:Str}(h:∀a b c,bindArgs fd ⟨[a,b,c],[]⟩=pure [(z,a),(J,b),(U,c)]):c8 K fd [z,J,U] []:=.all λus Y=>by
 obtain⟨a,u1,rfl,h1⟩:=cY Y;obtain⟨b,u2,rfl,h2⟩:=cY h1;obtain⟨c,u3,rfl,Z⟩:=cY h2;obtain rfl:=J6.mp Z;exact h a b c
def bn4{K:NF}{fd:FuncData}{z J U Y:Str}(h:∀a b c d,bindArgs fd ⟨[a,b,c,d],[]⟩=pure [(z,a),(J,b),(U,c),(Y,d)]):c8 K fd [z,J,U,Y] []:=.all λus Z=>by
 obtain⟨a,u1,rfl,h1⟩:=cY Z;obtain⟨b,u2,rfl,h2⟩:=cY h1;obtain⟨c,u3,rfl,h3⟩:=cY h2;obtain⟨d,u4,rfl,h4⟩:=cY h3;obtain rfl:=J6.mp h4;exact h a b c d
def bn5{K:NF}{fd:FuncData}{z J U Y Z:Str}(h:∀a b c d e,bindArgs fd ⟨[a,b,c,d,e],[]⟩=pure [(z,a),(J,b),(U,c),(Y,d),(Z,e)]):c8 K fd [z,J,U,Y,Z] []:=.all λus h0=>by
 obtain⟨a,u1,rfl,h1⟩:=cY h0;obtain⟨b,u2,rfl,h2⟩:=cY h1;obtain⟨c,u3,rfl,h3⟩:=cY h2;obtain⟨d,u4,rfl,h4⟩:=cY h3;obtain⟨e,u5,rfl,h5⟩:=cY h4;obtain rfl:=J6.mp h5;exact h a b c d e
def uv{K:NF}(hd:fd.defaults=.ref T)(l:K.lookup T=some ⟨c,o,.seq vs n,J⟩)
  (h:∀us,us.length=ps.length->∃k,bindArgs fd ⟨us,[]⟩=seqItems? fd.defaults >>= k/\k (some vs)=pure (ps.zip us)):c8 K fd ps []:=λs us X z=>by
 rw[Le]at z ⊢;obtain⟨k,h1,h2⟩:=h us z;exact .of_defaults hd (X _ _ l) rfl h1 h2
def HD(K:NF)(x:Str)(st:Stmt)(d:MD)(q:FuncData->Prop:=λ_=>True):Prop:=d.name=x/\∃z fd,PySem.W.nsIn K mainGlobals x=some (some (.ref z))/\FnD K x x st z fd/\c8 K fd d.params []/\q fd
noncomputable def okD(T:Tab)(st:Stmt)(d:MD):Bool:=
 decide ((bo st).kind=.function/\(bo st).isCoroutine=false/\(bo st).isGenerator=false/\d.names.Nodup/\d.names.take d.params.length=d.params/\(∀x∈d.params,(bo st).names.lookup x=some .local\/(bo st).names.lookup x=some .cell)/\∀y∈(bo st).names,y.2≠.free)
 &&chkSs T d.names (bo st) d.body (dH st)
def Ad{K:NF}{st:Stmt}(X:K.In h)(G:h.Ns mainGlobals mg)(hd:HD K x st d q)(J:okD T st d=true):∃U fd,sh T K mg st d U fd/\q fd:=by
 refine ax λZq Y=>?_
 obtain⟨e,_,_,n,f,b,z⟩:=hd;obtain⟨Z,c2⟩:=oe.mp J;obtain⟨s1,s2,s3,s4,s5,s6,s7⟩:=KP Z;subst e;refine Y ?_;exact⟨_,_,⟨f,b,PySem.W.mg_of X G n,⟨s1,s2,s3,s4,s5,s6,s7⟩,c2⟩,z⟩
def xw(T:Tab)(K:NF)(mg:Str->Option Value):List MD->List (List Sc)->Prop
 | [],[]=>True
 |d::ds,l::ls=>(∃st z fd,sh T K mg st d z fd/\∃vs,c8 K fd d.params vs/\aG (l.map Sc.v) vs)/\xw T K mg ds ls
 | _,_=>False
theorem xw.get{K:NF} :∀{ds}{J}{f:Nat}{d},xw T K mg ds J->ds[f]?=some d->∃l st z fd,J[f]?=some l/\sh T K mg st d z fd/\∃vs,c8 K fd d.params vs/\aG (l.map Sc.v) vs
 | [],_,f,d,_,e=>by simp at e
 | _::_,[],f,d,h,e=>h.elim
 |d0::ds,l::J,0,d,h,e=>by
  cases e;obtain⟨⟨st,z,fd,r⟩,_⟩:=h;exact⟨l,st,z,fd,rfl,r⟩
 |d0::ds,l::J,f+1,d,h,e=>by
  obtain⟨k,st,z,fd,q,r⟩:=xw.get h.2 (show ds[f]?=some d from by simpa using e);exact⟨k,st,z,fd,by simpa using q,r⟩
def HQ(K:NF)(d:MD)(fd:FuncData):List Sc->Prop
 | []=>True
 |l=>∃vs,c8 K fd d.params vs/\aG (l.map Sc.v) vs
inductive uA(K:NF)(tp:Nat->Stmt):List MD->List Nat->List (List Sc)->Prop
 | nil:uA K tp [] [] []
 |cons {d:MD}{ds:List MD}{i:Nat}{is:List Nat}{l:List Sc}{ls:List (List Sc)}:HD K d.name (tp i) d (λfd=>HQ K d fd l)->uA K tp ds is ls->uA K tp (d::ds) (i::is) (l::ls)
noncomputable def Ii(T:Tab)(z:Nat->Stmt):List MD->List Nat->Bool
 |d::ds,i::is=>okD T (z i) d&&Ii T z ds is
 | _,_=>true
def FH{T:Tab}{K:NF}{mg:Str->Option Value}{h:Heap}{J:Nat->Stmt}{ds:List MD}{is:List Nat}{z:List (List Sc)}(X:K.In h)(G:h.Ns mainGlobals mg)(a:uA K J ds is z)(U:Ii T J ds is=true):xw T K mg ds z:=by
 induction a with
 |nil=>trivial
 | @cons d ds i is l z hd _ ih =>
  obtain⟨Y,Z⟩:=oe.mp U;obtain⟨fa,fd,D,q⟩:=Ad X G hd Y;refine⟨⟨_,fa,fd,D,?_⟩,ih Z⟩;cases l with
  |nil=>exact⟨_,D.binds,.nil⟩
  |cons _ _=>exact q
structure FI(T:Tab)(K:NF)(mg:Str->Option Value)(ds:List MD)
 :Prop where
 tab:T.fs=ds.map (·.name)
 defs:xw T K mg ds T.ds
 blt:∀x∈jT,mg (x:Str)=none
 gs:∀p∈T.gs,∃u,mg p.1=some u/\aD (toV p.2) u
def nj(hd:ds[f]?=some d)(h:aa ds (n+1) f args=some r):args.length=d.params.length /\
  ((∃W,exs (aa ds n) d.body (args.map some++replicate (d.names.length-args.length) none)=.next W/\r=.non)\/exs (aa ds n) d.body (args.map some++replicate (d.names.length-args.length) none)=.ret r \/
   ∃xs,exs (aa ds n) d.body (args.map some++replicate (d.names.length-args.length) none)=.retF xs/\r=.lst xs):=by
 rw[aa,hd]at h;dsimp only at h;by_cases z:args.length=d.params.length
 .rw[if_pos z]at h;refine⟨z,?_⟩;cases he:exs _ d.body _<;>simp_all
 .simp_all
def ln(U:f<1000)(J:ds[f+1000]?=none)(hd:ds[f]?=some d)(h:aa ds (n+1) (f+1000) args=some r):args.length=d.params.length /\
  ∃xs,exs (aa ds n) d.body (args.map some++replicate (d.names.length-args.length) none)=.retF xs/\r=.lst xs:=by
 rw[aa,J]at h;dsimp only at h;rw[if_neg (by omega),KW,hd]at h;dsimp only at h;by_cases z:args.length=d.params.length
 .rw[if_pos z]at h;refine⟨z,?_⟩;cases he:exs (aa ds n) d.body (args.map some++replicate _ none)<;>simp_all
 .simp_all
def po(Z:f<1000)(J:ds[f+2000]?=none)(hd:ds[f]?=some d)(h:aa ds (n+1) (f+2000) args=some r):args.length=d.params.length /\
  ∃v W ms,exs (aa ds n) d.body (args.map some++replicate (d.names.length-args.length) none)=.retM v W/\dZ args W=some ms/\r=.tup (v::ms):=by
 rw[aa,J]at h;dsimp only at h;rw[if_pos (by omega)]at h;rw[KW,hd]at h;dsimp only at h;by_cases z:args.length=d.params.length
 .rw[if_pos z]at h;refine⟨z,?_⟩;cases he:exs (aa ds n) d.body (args.map some++replicate (d.names.length-args.length) none)with
  |retM v W =>
   rw[he]at h;dsimp only at h;rw[pe]at h;obtain⟨ms,U,Y⟩:=h;exact⟨v,W,ms,rfl,U,Y.symm⟩
  | _=>rw[he]at h;cases h
 .simp_all
def kQ{K:NF}(h:cj K O H args vs ds ms):∀(i:Nat) d a,args[i]?=some (.mutD d)->vs[i]?=some (.ref a)->a∈ms:=by
 induction h with
 |nil=>intro i d a e;simp at e
 |mutd h U t ih =>
  intro i d a z J;cases i with
  |zero=>simp at J;subst J;exact .head _
  |succ i=>exact .tail _ (ih i d a (by simpa using z) (by simpa using J))
 |other hm t ih =>
  intro i d a z J;cases i with
  |zero=>simp at z;exact absurd z (hm d)
  |succ i=>exact ih i d a (by simpa using z) (by simpa using J)
def si{K:NF}(h:cj K O H args vs ds ms):∀(i j:Nat) d d' a,i≠j->args[i]?=some (.mutD d)->args[j]?=some (.mutD d')->vs[i]?=some (.ref a)->vs[j]?≠some (.ref a):=by
 induction h with
 |nil=>intro i j d d' a _ e;simp at e
 |mutd h hn t ih =>
  intro i j d d' a Z z J U Y;cases i with
  |zero =>
   cases j with
   |zero=>exact Z rfl
   |succ j =>
    simp at U;subst U;exact hn (kQ t j d' _ (by simpa using J) (by simpa using Y))
  |succ i =>
   cases j with
   |zero =>
    simp at Y;subst Y;exact hn (kQ t i d _ (by simpa using z) (by simpa using U))
   |succ j=>exact ih i j d d' a (by omega) (by simpa using z) (by simpa using J) (by simpa using U) (by simpa using Y)
 |other hm t ih =>
  intro i j d d' a Z z J U Y;cases i with
  |zero=>simp at z;exact hm d z
  |succ i =>
   cases j with
   |zero=>simp at J;exact hm d' J
   |succ j=>exact ih i j d d' a (by omega) (by simpa using z) (by simpa using J) (by simpa using U) (by simpa using Y)
def uB{K:NF}(h:cj K O H args vs ds ms):∀{W}{z},dZ args W=some z->∀a∈ms,∃(i:Nat) (d:DD),vs[i]?=some (.ref a)/\W[i]?=some (some (.mutD d)):=by
 induction h with
 |nil=>intro W z _ a U;cases U
 |mutd h hn t ih =>
  intro W z e b J
  match W,e with
  |some (.mutD d')::W,e =>
   rw[dZ,pe]at e;obtain⟨Y,Z,rfl⟩:=e;rcases wh.mp J with rfl|J
   .exact⟨0,d',rfl,rfl⟩
   .obtain⟨i,d,h1,h2⟩:=ih Z b J;exact⟨i+1,d,by simpa using h1,by simpa using h2⟩
 |other hm t ih =>
  intro W z e b J;rename_i m v as vs ds ms
  match m,W,e,hm with
  | .val _,r::W,e,hm =>
   obtain⟨i,d,h1,h2⟩:=ih e b J;exact⟨i+1,d,by simpa using h1,by simpa using h2⟩
  | .mutD d,_,_,hm=>exact absurd rfl (hm d)
def xx{K:NF}(h:cj K O H args vs ds ms):∀{W}{z},dZ args W=some z->(∀(i:Nat) d d' a,args[i]?=some (.mutD d)->W[i]?=some (some (.mutD d'))->vs[i]?=some (.ref a)->DAt K H' O' a d')->cj K O' H' args vs z ms:=by
 induction h with
 |nil=>intro W z e _;rw[dZ]at e;cases e;exact .nil
 |mutd h hn t ih =>
  intro W z e J
  match W,e with
  |some (.mutD d')::W,e =>
   rw[dZ,pe]at e;obtain⟨a0,e0,rfl⟩:=e;exact .mutd (J 0 _ d' _ rfl rfl rfl) hn (ih e0 λi d U a Y Z e3=>J (i+1) d U a (by simpa using Y) (by simpa using Z) (by simpa using e3))
 |other hm t ih =>
  intro W z e J;rename_i m v as vs ds ms
  match m,W,e,hm with
  | .val _,r::W,e,hm =>
   exact .other hm (ih e λi d U a Y Z e3=>J (i+1) d U a (by simpa using Y) (by simpa using Z) (by simpa using e3))
  | .mutD d,_,_,hm=>exact absurd rfl (hm d)
theorem jp :∀{xs}{ys}{i:Nat}{x},Paired F xs ys->xs[i]?=some x->∃y,ys[i]?=some y/\F x y
 | _,_,_,_,.nil,e=>by simp at e
 | _,_,0,_,.cons r _,e=>by simp at e;subst e;exact⟨_,rfl,r⟩
 | _,_,i+1,x,.cons _ t,e=>by
  obtain⟨u,h1,h2⟩:=jp (i:=i) (x:=x) t (by simpa using e);exact⟨u,by simpa using h1,h2⟩
def sj{K:NF}(U:∀a∈O,H a≠none)(h:Paired (lh K O H) args vs):aE K H O O H (args.map some++replicate (N.length-args.length) none) (eA N vs):=by
 have Y:=Paired.length h;have get:∀i m,(args.map some++replicate (N.length-args.length) none)[i]?=some (some m)->∃u,(eA N vs)[i]?=some (some u)/\lh K O H m u:=λi m e=>by
  by_cases hi:i<args.length
  .rw[K3 (by simpa using hi),Kc]at e;cases J:args[i]? with
   |none=>rw[J]at e;cases e
   |some m' =>
    rw[J]at e;cases e;obtain⟨u,z,q⟩:=jp h J;refine⟨u,?_,q⟩;unfold L2.eA;rw[K3 (by rw[p0,<- Y];exact hi),Kc,z]
    rfl
  .rw[Lp (by simpa using hi),Mr]at e;split at e<;>cases e
 refine⟨aj.refl H,U,λa Z=>Z,U,by unfold L2.eA;simp[Y],λi m e=>?_,λi j xs ys a _ e _ ox _=>?_
  ⟩
 .obtain⟨u,z,q⟩:=get i m e;refine⟨u,z,?_⟩;cases m<;>first|exact q|exact q.elim
 .obtain⟨u,z,q⟩:=get i _ e;cases xs<;>first|exact q.elim|cases ox
def kR(h:Paired F args vs):∀(i:Nat) m,(args.map some++replicate (N.length-args.length) none)[i]?=some (some m)->args[i]?=some m/\∃u,vs[i]?=some u/\(eA N vs)[i]?=some (some u)/\F m u:=λi m e=>by
 have U:=Paired.length h;by_cases hi:i<args.length
 .rw[K3 (by simpa using hi),Kc]at e;cases z:args[i]? with
  |none=>rw[z]at e;cases e
  |some Y =>
   rw[z]at e;cases e;obtain⟨u,J,q⟩:=jp h z;refine⟨rfl,u,J,?_,q⟩;unfold L2.eA;rw[K3 (by rw[p0,<- U];exact hi),Kc,J]
   rfl
 .rw[Lp (by simpa using hi),Mr]at e;split at e<;>cases e
def xy{K:NF}(hO:∀a∈O,H a≠none)(h:Paired (E2 K O H) args vs)(hm:cj K O H args vs ds ms):aE K (i7 H ms) (O.filter λb=>decide (b∉ms)) O H (args.map some++replicate (N.length-args.length) none) (eA N vs):=by
 have hl:=Paired.length h;have le:aj (i7 H ms) H:=λb u e=>by
  unfold i7 at e;split at e
  .cases e
  .exact e
 refine⟨le,hO,λa z=>(Kg.mp z).1,λa z=>?_,by unfold L2.eA;simp[hl],λi m e=>?_,λi j x y a J e1 e2 ox oy s1 s2=>?_
  ⟩
 .obtain⟨h1,h2⟩:=Kg.mp z;unfold i7;rw[if_neg (KP h2)];exact hO a h1
 .obtain⟨U,u,Y,Z,q⟩:=kR h i m e;refine⟨u,Z,?_⟩;cases m with
  |val v=>exact q
  |mutD d =>
   obtain⟨a,rfl,h1,h2⟩:=q;refine⟨a,rfl,h1,h2,?_⟩;unfold i7;rw[if_pos (kQ hm i d a U Y)]
  | _=>exact q.elim
 .obtain⟨U,u,ao,Z,q⟩:=kR h i x e1;obtain⟨eb,w,ar,ew,q'⟩:=kR h j y e2;rw[Z]at s1;cases s1;rw[ew]at s2;cases s2;cases x with
  |val _=>cases ox
  |mutD d =>
   cases y with
   |val _=>cases oy
   |mutD d'=>exact si hm i j d d' a J U eb ao ar
   | _=>exact q'.elim
  | _=>exact q.elim
section
variable{T:Tab}{P:Program}{w:World}{K:NF}{mg:Str->Option Value}{base:Heap}{ds:List MD}
structure Ij(T:Tab)(P:Program)(w:World)(K:NF)(mg:Str->Option Value)(base:Heap)(ds:List MD)(n g:Nat)(fa:Addr)(fd:FuncData)(ps:List Str):Prop where
 m:jc P w K mg base CX0 n fa fd ps (spM K (aa ds n) g)
 f:jc P w K mg base CX0 n fa fd ps (spF K (aa ds n) g)
 d:jc P w K mg base CX0 n fa fd ps (spD K (aa ds n) g)
theorem l7(ao:ds.length<=1000)
  (pr:FI T K mg ds)
 :∀n f d,ds[f]?=some d->∀st fa fd,sh T K mg st d fa fd->Ij T P w K mg base ds n f fa fd d.params
 |0,f,d,hd,st,fa,fd,D=>{
   m:=⟨λvs H Q E h=>(by obtain⟨O,args,r,_,_,e,_⟩:=h;exact absurd e (by simp[aa])),λA outer s H args us vs Q E _ _ _ _ h=>(by obtain⟨O,args,r,_,_,e,_⟩:=h;exact absurd e (by simp[aa]))⟩
   f:=⟨λvs H Q E h=>(by obtain⟨O,args,r,_,_,e,_⟩:=h;exact absurd e (by simp[aa])),λA outer s H args us vs Q E _ _ _ _ h=>(by obtain⟨O,args,r,_,_,e,_⟩:=h;exact absurd e (by simp[aa]))⟩
   d:=⟨λvs H Q E h=>(by obtain⟨O,args,v,ds,Y,ms,_,_,_,e,_⟩:=h;exact absurd e (by simp[aa])),λA outer s H args us vs Q E _ _ _ _ h=>(by obtain⟨O,args,v,ds,Y,ms,_,_,_,e,_⟩:=h;exact absurd e (by simp[aa]))⟩
   }
 |n+1,f,d,hd,st,fa,fd,D=>by
  refine ax λZq kq=>?_
  obtain⟨c0,d0,k0,o0,m0,a0,bB,t1,a1,sl,lk,hc,rfl⟩:=D.fn.it;have hf:=JX (G1.mp hd).1 ao;have hn:ds[f+1000]?=none:=getElem?_eq_none (by omega);have b5:ds[f+2000]?=none:=getElem?_eq_none (by omega);have gg:∀{CX}{A}{outer}{s}{H}{E},_->Gf (qY CX P w K mg base d.names d.name (bo st) fa bB A outer s H E).nox T n (aa ds n):=λ{CX A outer s H E} hr=>{
   calm:=rfl
   room:=hr
   fns:=λf' x hx=>by
    rw[pr.tab,Kc]at hx;cases hd2:ds[f']? with
    |none=>rw[hd2]at hx;cases hx
    |some d2 =>
     rw[hd2]at hx;cases hx;obtain⟨l2,a2,J,U,el,D2,bd⟩:=pr.defs.get hd2;exact⟨J,U,d2.params,D2.named,D2.fn.kp,D2.binds,(l7 ao pr n f' d2 hd2 a2 J U D2).m,λl hl=>by rw[el]at hl;cases hl;exact bd⟩
   blt:=pr.blt
   gs:=pr.gs
   fnsF:=λf' x hx=>by
    rw[pr.tab,Kc]at hx;cases hd2:ds[f']? with
    |none=>rw[hd2]at hx;cases hx
    |some d2 =>
     rw[hd2]at hx;cases hx;obtain⟨l2,a2,J,U,el,D2,bd⟩:=pr.defs.get hd2;exact⟨J,U,d2.params,D2.named,D2.fn.kp,D2.binds,(l7 ao pr n f' d2 hd2 a2 J U D2).f⟩
   fnsD:=λf' x hx=>by
    rw[pr.tab,Kc]at hx;cases hd2:ds[f']? with
    |none=>rw[hd2]at hx;cases hx
    |some d2 =>
     rw[hd2]at hx;cases hx;obtain⟨l2,a2,J,U,el,D2,bd⟩:=pr.defs.get hd2;exact⟨J,U,d2.params,D2.named,D2.fn.kp,D2.binds,(l7 ao pr n f' d2 hd2 a2 J U D2).d⟩
   }
  have df:∀{CX}{A}{outer}{s}{H}{E},Df (qY CX P w K mg base d.names d.name (bo st) fa bB A outer s H E).nox:=λ{CX A outer s H E}=>⟨D.scope.nd,λ_=>rfl,PassesOwn.never,by
    have hk:(qY CX P w K mg base d.names d.name (bo st) fa bB A outer s H E).nox.env.scope.kind=.function:=D.scope.kind;unfold Env.blockKind;rw[hk]
    rfl
    ⟩
  refine kq ?_;refine {
   m:=?_
   f:=?_
   d:=?_
   }
  .refine yk lk hc D.scope (λvs H Q E h=>?_) (λA outer s H vs Q E hr h=>?_)
   .obtain⟨O,args,r,_,hp,e,_⟩:=h;rw[<- (nj hd e).1];exact(Paired.length hp).symm
   .obtain⟨O,args,r,hO,hp,e,q⟩:=h;obtain⟨hl,c1⟩:=nj hd e;refine⟨_,(soundSs (gg hr) df d.body (dH st) D.body).nox,H,O,O,_,sj hO hp,?_⟩;rcases c1 with⟨W,he,rfl⟩|he|⟨xs,he,rfl⟩
    .rw[he];exact λF H' O' Z _=>q _ H' Z.keep (qk _)
    .rw[he];exact λu H' s' r'=>q u H' s' r'
    .rw[he];refine λp us H' s' b3 b4 r'=>q _ H' s' ?_
     rw[Rep];refine⟨p,us,rfl,SqL.of ?_,Reps.mono gL _ r'⟩;rw[aV λz=>hO p z b3];exact b4
  .refine yk lk hc D.scope (λvs H Q E h=>?_) (λA outer s H vs Q E hr h=>?_)
   .obtain⟨O,args,r,_,hp,e,_⟩:=h;rw[<- (ln hf hn hd e).1];exact(Paired.length hp).symm
   .obtain⟨O,args,xs,hO,hp,e,q⟩:=h;obtain⟨hl,ys,he,ey⟩:=ln hf hn hd e;cases ey;refine⟨_,(soundSs (gg hr) df d.body (dH st) D.body).nox,H,O,O,_,sj hO hp,?_⟩;rw[he];exact λp us H' s' b3 b4 r'=>q p us H' s' b3 b4 r'
  .refine yk lk hc D.scope (λvs H Q E h=>?_) (λA outer s H vs Q E hr h=>?_)
   .obtain⟨O,args,v,es,Y,ms,_,hp,_,e,_⟩:=h;rw[<- (po hf b5 hd e).1];exact(Paired.length hp).symm
   .refine ax λZq kq=>?_
    obtain⟨O,args,v,es,Y,ms,hO,hp,hm,e,q⟩:=h;obtain⟨hl,v',W,dV,he,cl,ey⟩:=po hf b5 hd e;cases ey;refine kq ?_;refine⟨_,(soundSs (gg hr) df d.body (dH st) D.body).nox,i7 H ms,_,O,_,xy hO hp hm,?_⟩;rw[he];have key:∀{F}{H'}{O'},aE K (i7 H ms) (O.filter λb=>decide (b∉ms)) O' H' W F->be (i7 H ms) O O' (args.map some++replicate (d.names.length-args.length) none) W (eA d.names vs) F->∀(i:Nat) d' a,W[i]?=some (some (.mutD d'))->vs[i]?=some (.ref a)->DAt K H' O' a d'/\a∈O':=λ{F H' O'} Z k' i d' a e2 e3=>by
     obtain⟨_,c4⟩:=k'.mutK i d' e2;obtain⟨u,eu,a',rfl,h1,h2,_⟩:=Z.slot i _ e2;have ei:(eA d.names vs)[i]?=some (some (.ref a)):=by
      have hi:=(G1.mp e3).1;unfold L2.eA;rw[K3 (by simpa using hi),Kc,e3]
      rfl
     rw[c4,ei]at eu;cases eu;exact⟨h1,h2⟩
    refine λu F H' O' Z k' ru=>?_
    have vw:=bM (aj.refl H') λb hb=>.inl (by
     by_cases z:b∈ms
     .obtain⟨i,d',h1,h2⟩:=uB hm cl b z;exact(key Z k' i d' b h2 h1).2
     .refine k'.stay b ?_ hb;unfold i7;rw[if_neg z];exact hO b hb)
    refine q u H' (λb o hb eb=>Z.keep b o ?_) (xx hm cl λi d1 d' a e1 e2 e3=>(key Z k' i d' a e2 e3).1.move (λ_ z=>z) vw) (Rep.mono vw _ ru);unfold i7;rw[if_neg hb];exact eb
def Ik(z:ds.length<=1000)
  (U:FI T K mg ds)
  (n f) (d) (hd:ds[f]?=some d) (st) (J) (fd) (D:sh T K mg st d J fd):jc P w K mg base CX0 n J fd d.params (spM K (aa ds n) f):=(l7 z U n f d hd st J fd D).m
end
def FJ{K:NF}{ns:List Int}(h:aa ds n li [.brw (ns.map .int)]=some (.bl true))(J:SqL K H a (ns.map V.int)):spM K (aa ds n) li [.ref a] H (λv _=>v=.bl true) λ_ _ _=>False:=
 ⟨[],[.brw (ns.map .int)],.bl true,λ_ z=>by simp at z,.cons ⟨a,_,rfl,J,.of_ints ns⟩ .nil,h,λu H' _ r=>by rw[Rep]at r;exact r⟩
end MM
namespace MM
open PySem List Option
noncomputable abbrev ofS(z:List Int):PV:=.tup (z.map .int)
noncomputable abbrev ofR(R:List (List Int)):PV:=.tup (R.map ofS)
noncomputable abbrev ofL(ns:List Int):PV:=.lst (ns.map .int)
theorem bI:∀ns,a8 (ns.map .int)=some ns
 | []=>rfl
 |n::ns=>by simp[a8,bI ns]
theorem pp:∀R,fX (R.map ofS)=some R
 | []=>rfl
 |t::R=>by simp[fX,bI,pp R]
theorem dE:∀ns,cI (ns.map .bl)=some ns
 | []=>rfl
 |n::ns=>by simp[cI,dE ns]
def pq(h:ns.length<64):ip (ns.map .int)=some (ofL (sortI ns)):=by
 unfold ip;rw[if_pos (by simpa using h),bI]
def gi{R:List (List Int)}(h:R.length<64):ip (R.map ofS)=some (.lst ((sortT R).map ofS)):=by
 unfold ip;rw[if_pos (by simpa using h)];cases R with
 |nil=>rfl
 |cons t R =>
  have:a8 ((t::R).map ofS)=none:=rfl;rw[this];simp only[pp,map_some]
theorem ce{α:Type}{g:α->PV}{c:PV->Option Bool}{f:PV->Option PV}{p:α->Bool}{h:α->PV}:∀{xs:List α},(∀x∈xs,c (g x)=some (p x))->(∀x∈xs,p x=true->f (g x)=some (h x))->fL c f (xs.map g)=some ((xs.filter p).map h)
 | [],_,_=>rfl
 |x::xs,hc,hf=>by
  rw[JY,fL,hc x (.head _),bind_some];have ih:=ce (xs:=xs) (λy z=>hc y (.tail _ z)) (λy z=>hf y (.tail _ z));cases J:p x<;>simp_all
def gN{α:Type}{g:α->PV}{c:PV->Option Bool}{f:PV->Option PV}{h:α->PV}{xs:List α}(hc:∀x∈xs,c (g x)=some true)(z:∀x∈xs,f (g x)=some (h x)):fL c f (xs.map g)=some (xs.map h):=by
 rw[ce hc (λx hx _=>z x hx),Lb.mpr λ_ _=>rfl]
def FK(a b)(z:List Int):((b==a)||decide (a∈z))=decide (a=b\/a∈z):=by grind
def FL(a b)(z:List (List Int)):(decide (b=a)||decide (a∈z))=decide (a=b\/a∈z):=by grind
@[simp] theorem qA(n)(i j):eqF n (.int i) (.int j)=some (i==j):=by cases n<;>rfl
theorem bN(h:Int):∀z:List Int,isIn (.int h) (z.map .int)=some (decide (h∈z))
 | []=>rfl
 |t::z=>by
  have ih:=bN h z;unfold isIn at ih ⊢;rw[JY,inL,ih];simp only[qA,bind_some,map_some,wh,FK]
theorem nl(n:Nat):∀a b:List Int,eqL (eqF n) (a.map .int) (b.map .int)=some (decide (a=b))
 | [],[]=>rfl
 | [],_::_=>rfl
 | _::_,[]=>rfl
 |x::a,y::b=>by
  rw[JY,JY,eqL,nl n a b];simp only[qA,bind_some,map_some,MY]
  congr 1
  rw[Kv];simp
def Il(n:Nat)(a b:List Int):eqF (n+1) (ofS a) (ofS b)=some (decide (a=b)):=nl n a b
def Im(n:Nat)(a b:List Int):eqF (n+1) (ofL a) (ofL b)=some (decide (a=b)):=by
 show(if (a.map PV.int).length=(b.map PV.int).length then eqL (eqF n) (a.map .int) (b.map .int)else some false)=_;rw[nl];split
 .rfl
 .rename_i h
  congr 1
  exact(Kr λe=>h (by rw[e])).symm
theorem nq(h):∀z:List (List Int),isIn (ofS h) (z.map ofS)=some (decide (h∈z))
 | []=>rfl
 |t::z=>by
  have ih:=nq h z;unfold isIn at ih ⊢;rw[JY,inL,ih,Il 99];simp only[bind_some,map_some,wh,FL]
noncomputable def bj:R->Option PV
 | .next _=>some .non
 | .ret v=>some v
 | .retF xs=>some (.lst xs)
 | _=>none
def ac(hd:ds[f]?=some d)(z:args.length=d.params.length):aa ds (n+1) f args=bj (exs (aa ds n) d.body (args.map some++replicate (d.names.length-args.length) none)):=by
 rw[aa,hd];simp[z]
 rfl
noncomputable def sk(args:List MV):R->Option PV
 | .retM v W=>(dZ args W).map λds=>.tup (v::ds)
 | _=>none
def gj(z:ds[f+2000]?=none)(hd:ds[f]?=some d)(J:args.length=d.params.length)
 :aa ds (n+1) (f+2000) args=sk args (exs (aa ds n) d.body (args.map some++replicate (d.names.length-args.length) none)):=by
 rw[aa,z];rw[KW,hd];simp[J]
 rfl
@[simp] theorem Gi(v)(W)(k):(R.retM v W).andThen k=.retM v W:=rfl
@[simp] theorem FM(v):fZ (some (.mutD v))=some (.brwD v):=rfl
@[simp] theorem FN(v):fq (some (.mutD v))=some (.brwD v):=rfl
@[simp] theorem Gj(xs)(k):(R.retF xs).andThen k=.retF xs:=rfl
@[simp] theorem Gk(v):bC (some (.val v))=some v:=rfl
@[simp] theorem Gm(v):bC (some (.own v))=some (.lst v):=rfl
@[simp] theorem Gn(v):bC (some (.brw v))=some (.lst v):=rfl
@[simp] theorem FO(v):bC (some (.ownD (.k v)))=some (.dI (.k v)):=rfl
@[simp] theorem FP(v):bC (some (.ownD (.t v)))=some (.dI (.t v)):=rfl
@[simp] theorem FQ(v):bC (some (.brwD (.k v)))=some (.dI (.k v)):=rfl
@[simp] theorem JB(v):rG (.k v)=true:=rfl
@[simp] theorem JC(v):rG (.t v)=true:=rfl
@[simp] theorem FR(v):bC (some (.brwD (.t v)))=some (.dI (.t v)):=rfl
@[simp] theorem FS(v):fZ (some (.ownD v))=some (.brwD v):=rfl
@[simp] theorem FT(v):fZ (some (.brwD v))=some (.brwD v):=rfl
@[simp] theorem FU(v):fq (some (.ownD v))=some (.brwD v):=rfl
@[simp] theorem FV(v):fq (some (.brwD v))=some (.brwD v):=rfl
@[simp] theorem JD(i):sc? (.int i)=some (.int i):=rfl
@[simp] theorem JT(i):sc? (.bl i)=some (.bl i):=rfl
@[simp] theorem JE:sc? .non=some .non:=rfl
@[simp] theorem JF(i):(Sc.int i).pv=.int i:=rfl
@[simp] theorem JU(i):(Sc.bl i).pv=.bl i:=rfl
@[simp] theorem Go(v):zf (some (.val v))=some v:=rfl
@[simp] theorem Gp(v):fZ (some (.val v))=some (.val v):=rfl
@[simp] theorem Gq(v):fZ (some (.own v))=some (.brw v):=rfl
@[simp] theorem Gr(v):fZ (some (.brw v))=some (.brw v):=rfl
@[simp] theorem Gs(v):fq (some (.val v))=some (.val v):=rfl
@[simp] theorem Gu(v):fq (some (.own v))=some (.brw v):=rfl
@[simp] theorem Gv(v):fq (some (.brw v))=some (.brw v):=rfl
@[simp] theorem Gw(b):aZ (.bl b)=some b:=rfl
@[simp] theorem IK(i j):eC .add (.int i) (.int j)=some (.int (i+j)):=rfl
@[simp] theorem IL(i j):eC .sub (.int i) (.int j)=some (.int (i-j)):=rfl
@[simp] theorem CL(i j):eC .mul (.int i) (.int j)=if (-(2 ^ 64)<i/\i<2 ^ 64)\/(-(2 ^ 64)<j/\j<2 ^ 64)then some (.int (i*j))else none:=rfl
@[simp] theorem Io(i j):eC .fdiv (.int i) (.int j)=if 0<j/\j<1073741824 then some (.int (i / j))else none:=rfl
@[simp] theorem qB(i j):eC .mod (.int i) (.int j)=if 0<j then some (.int (i % j))else none:=rfl
@[simp] theorem l8(x y):eC .add (.lst x) (.lst y)=if x.length+y.length<=10000 then some (.lst (x++y))else none:=rfl
@[simp] theorem JG(i j):cy .lt (.int i) (.int j)=some (decide (i<j)):=rfl
@[simp] theorem JH(i j):cy .le (.int i) (.int j)=some (decide (i<=j)):=rfl
@[simp] theorem Ae(i j):cy .gt (.int i) (.int j)=some (decide (j<i)):=rfl
@[simp] theorem JI(i j):cy .ge (.int i) (.int j)=some (decide (j<=i)):=rfl
@[simp] theorem FW(x y):cy .eq x y=eqF 100 x y:=rfl
@[simp] theorem FX(x y):cy .ne x y=if tY x y=true then(eqF 100 x y).map (λp=>!p)else none:=rfl
@[simp] theorem IM(x):cy .isN x .non=some (mQ x):=rfl
@[simp] theorem Ip(x):cy .notN x .non=some (!mQ x):=rfl
@[simp] theorem CM(x)(xs):cy .isIn x (.tup xs)=isIn x xs:=rfl
@[simp] theorem IN(x)(xs):cy .isIn x (.lst xs)=isIn x xs:=rfl
@[simp] theorem Iq(x)(xs):cy .notIn x (.tup xs)=(isIn x xs).map λp=>!p:=rfl
@[simp] theorem Ir(x)(xs):cy .notIn x (.lst xs)=(isIn x xs).map λp=>!p:=rfl
@[simp] theorem JJ(n)(i j):eqF n (.bl i) (.bl j)=some (i==j):=by cases n<;>rfl
@[simp] theorem IP(n)(i j):eqF n (.str i) (.str j)=some (i==j):=by cases n<;>rfl
@[simp] theorem IQ(x y):tY (.tup x) (.tup y)=true:=rfl
@[simp] theorem IR(x y):tY (.lst x) (.lst y)=true:=rfl
@[simp] theorem IS(x y):tY (.int x) (.int y)=true:=rfl
@[simp] theorem vS(x):a7 (.tup x)=some x:=rfl
@[simp] theorem jY(x):a7 (.lst x)=some x:=rfl
@[simp] theorem Iu(x):aC .len [.tup x]=some (.int x.length):=rfl
@[simp] theorem Iv(x):aC .len [.lst x]=some (.int x.length):=rfl
@[simp] theorem Iw(x):aC .len [.dI (.k x)]=some (.int x.length):=rfl
@[simp] theorem IT(x):aC .tupleOf [x]=(a7 x).map .tup:=rfl
@[simp] theorem Ix(x):aC .listOf [x]=(a7 x).map .lst:=rfl
@[simp] theorem gP(x):aC .sorted [x]=(a7 x).bind ip:=rfl
@[simp] theorem qC(x):aC .any [.lst x]=(cI x).map λbs=>.bl (bs.any id):=rfl
@[simp] theorem vT(x):aC .all [.lst x]=(cI x).map λbs=>.bl (bs.all id):=rfl
@[simp] theorem Iy(i):aC .intOf [.int i]=some (.int i):=rfl
@[simp] theorem Iz(b):aC .intOf [.bl b]=some (.int (if b then 1 else 0)):=rfl
@[simp] theorem IU(i):isD (.int i)=false:=rfl
@[simp] theorem JK(i):isD (.bl i)=false:=rfl
@[simp] theorem IV(i):isD (.str i)=false:=rfl
@[simp] theorem IW(i):isD (.tup i)=false:=rfl
@[simp] theorem IX(i):isD (.lst i)=false:=rfl
@[simp] theorem IY:isD .non=false:=rfl
@[simp] theorem Gx(x):aC .isInt [x]=if isD x=true then none else some (.bl (isT .isInt x)):=rfl
@[simp] theorem A_(i):isT .isInt (.int i)=true:=rfl
@[simp] theorem CN(i):isT .isInt (.bl i)=true:=rfl
@[simp] theorem Ba(i):isT .isInt (.str i)=false:=rfl
@[simp] theorem Bb(i):isT .isInt (.lst i)=false:=rfl
@[simp] theorem Bc(i):isT .isInt (.tup i)=false:=rfl
@[simp] theorem Bd:isT .isInt .non=false:=rfl
@[simp] theorem FY(x):aC .isBool [x]=if isD x=true then none else some (.bl (isT .isBool x)):=rfl
@[simp] theorem Af(i):isT .isBool (.int i)=false:=rfl
@[simp] theorem Be(i):isT .isBool (.bl i)=true:=rfl
@[simp] theorem Ag(i):isT .isBool (.str i)=false:=rfl
@[simp] theorem Ah(i):isT .isBool (.lst i)=false:=rfl
@[simp] theorem Ai(i):isT .isBool (.tup i)=false:=rfl
@[simp] theorem Aj:isT .isBool .non=false:=rfl
@[simp] theorem Gy(x):aC .isStr [x]=if isD x=true then none else some (.bl (isT .isStr x)):=rfl
@[simp] theorem Bf(i):isT .isStr (.int i)=false:=rfl
@[simp] theorem CO(i):isT .isStr (.bl i)=false:=rfl
@[simp] theorem Bg(i):isT .isStr (.str i)=true:=rfl
@[simp] theorem Bh(i):isT .isStr (.lst i)=false:=rfl
@[simp] theorem Bi(i):isT .isStr (.tup i)=false:=rfl
@[simp] theorem Bj:isT .isStr .non=false:=rfl
@[simp] theorem FZ(x):aC .isList [x]=if isD x=true then none else some (.bl (isT .isList x)):=rfl
@[simp] theorem Ak(i):isT .isList (.int i)=false:=rfl
@[simp] theorem Bk(i):isT .isList (.bl i)=false:=rfl
@[simp] theorem Al(i):isT .isList (.str i)=false:=rfl
@[simp] theorem Am(i):isT .isList (.lst i)=true:=rfl
@[simp] theorem An(i):isT .isList (.tup i)=false:=rfl
@[simp] theorem Ao:isT .isList .non=false:=rfl
@[simp] theorem Dy(x):aC .isTuple [x]=if isD x=true then none else some (.bl (isT .isTuple x)):=rfl
@[simp] theorem xT(i):isT .isTuple (.int i)=false:=rfl
@[simp] theorem Ap(i):isT .isTuple (.bl i)=false:=rfl
@[simp] theorem xU(i):isT .isTuple (.str i)=false:=rfl
@[simp] theorem xV(i):isT .isTuple (.lst i)=false:=rfl
@[simp] theorem xW(i):isT .isTuple (.tup i)=true:=rfl
@[simp] theorem xX:isT .isTuple .non=false:=rfl
@[simp] theorem sn(xs):aC .max1 [.lst xs]=(a8 xs).bind λns=>(ze ns).map .int:=rfl
@[simp] theorem nt(d):aC .valuesOf [.dI d]=if (jL d).length<=10000 then some (.lst (jL d))else none:=rfl
@[simp] theorem Aq(kvs):aC .sortedKeys [.dI (.k kvs)]=if kvs.length<64 then some (ofL (sortI (kvs.map (·.1))))else none:=rfl
@[simp] theorem JL(kvs)(i):xb (.dI (.k kvs)) (.int i)=some (cH kvs i):=rfl
@[simp] theorem JM(kvs)(ns):xb (.dI (.t kvs)) (.tup (ns.map .int))=some (cH kvs ns):=by
 show(a8 _).map _=_;rw[bI]
 rfl
@[simp] theorem JN(kvs)(i)(s):qd (.k kvs) (.int i) s=if kvs.length<10000 then some (.k (cK kvs i s))else none:=rfl
@[simp] theorem JO(kvs)(ns)(s):qd (.t kvs) (.tup (ns.map .int)) s=if kvs.length<10000 then some (.t (cK kvs ns s))else none:=by
 show((a8 _).bind λk=>if kvs.length<10000 then some _ else none)=_;rw[bI]
 rfl
@[simp] theorem IZ(p q):cy .isN (.bl p) (.bl q)=some (p==q):=rfl
@[simp] theorem IA(p q):cy .notN (.bl p) (.bl q)=some (!(p==q)):=rfl
@[simp] theorem CP(xs):aC .tupleRev [.lst xs]=some (.tup xs.reverse):=rfl
@[simp] theorem Bl(x:PV):aC .sortedSet [x]=(a7 x).bind λxs=>(a8 xs).bind λns=>if ns.length<=4000/\(dd ns).length<64 then some (.lst ((sortI (dd ns)).map .int))else none:=rfl
@[simp] theorem vU(x)(i):fo (.lst x) (.int i)=(place x.length i).bind λj=>x[j]?:=rfl
@[simp] theorem JV(x)(i):fo (.tup x) (.int i)=(place x.length i).bind λj=>x[j]?:=rfl
@[simp] theorem I0(x)(lo hi):iQ (.lst x) lo hi=some (.lst (cut x lo hi)):=rfl
@[simp] theorem I_(i j):bnd (.cst (.int i)) (.int j)=some (some j):=rfl
@[simp] theorem vV(x):bc .seq [x]=a7 x:=rfl
def CQ(j):bc .rng [.int j]=if -(2 ^ 62)<=j/\j<2 ^ 62 then some ((range j.toNat).map λk=>.int ((0:Int)+k))else none:=rfl
@[simp] theorem aU(W)(k):(R.next W).andThen k=k W:=rfl
@[simp] theorem IB(v)(k):(R.ret v).andThen k=.ret v:=rfl
@[simp] theorem IC(k):R.bad.andThen k=.bad:=rfl
@[simp] theorem ID(W)(k):(R.brk W).andThen k=.brk W:=rfl
@[simp] theorem Gz(W)(k):(R.cont W).andThen k=.cont W:=rfl
@[simp] theorem gQ(v)(k):dS (some v) k=k v:=rfl
@[simp] theorem nu(v)(k):zg (some v) k=k v:=rfl
@[simp] theorem F0(v)(k):cg (some v) k=k v:=rfl
@[simp] theorem GA(v):bj (.ret v)=some v:=rfl
@[simp] theorem F1(W):bj (.next W)=some .non:=rfl
@[simp] theorem cz(a)(l)(m):put (a::l) 0 m=some m::l:=rfl
@[simp] theorem cD(a)(l)(n)(m):put (a::l) (n+1) m=a::put l n m:=rfl
@[simp] theorem de(src)(z W):(R.next W).back src z=.next (aP src z W):=rfl
@[simp] theorem IE(src)(z)(v):(R.ret v).back src z=.ret v:=rfl
@[simp] theorem GB(body)(W):ay body [] W=.next W:=rfl
def nv(z:0<=j)(h1:j<4611686018427387904):bc .rng [.int j]=some ((range j.toNat).map λk=>.int (k:Int)):=by
 rw[CQ,if_pos ⟨by omega,by omega⟩]
 congr 1
 simp_all
def eZ{n:Nat}{i:Int}(z:0<=i)(h:i<n):place n i=some i.toNat:=by unfold place;rw[if_pos z,if_pos h]
def leT(a b:List Int):Prop:=lexLt b a=false
theorem sortI_perm(l):(sortI l).Perm l:=by rw[eX];exact L2.Srt.sortI_perm l
theorem sortT_perm(l):(sortT l).Perm l:=by rw[jV];exact L2.Srt.sortT_perm l
def sortI_len(l):(sortI l).length=l.length:=(sortI_perm l).length_eq
def sortT_len(l):(sortT l).length=l.length:=(sortT_perm l).length_eq
def pw :x∈sortI l ↔ x∈l:=(sortI_perm l).mem_iff
def dF :x∈sortT l ↔ x∈l:=(sortT_perm l).mem_iff
theorem sortI_rises(l):(sortI l).Pairwise (· <= ·):=by rw[eX];exact L2.Srt.sortI_rises l
theorem sortT_rises(l):(sortT l).Pairwise leT:=by
 rw[jV];exact(L2.Srt.sortT_rises l).imp λh=>by unfold leT;rw[m4];exact h
theorem sortI_of_perm(p:a.Perm b):sortI a=sortI b:=by rw[eX,eX];exact L2.Srt.sortI_of_perm p
def sr(h:l.Nodup):(sortI l).Pairwise (· < ·):=by
 have h1:=sortI_rises l;have h2:=(sortI_perm l).nodup_iff.mpr h;exact(h1.and h2).imp λ⟨a,b⟩=>by omega
def jq :k∈dd l ↔ k∈l:=by rw[o8];exact L2.St.fJ
theorem dd_nodup(l):(dd l).Nodup:=by rw[o8];exact L2.St.dd_nodup l
theorem Dz:∀{l},l.Nodup->dd l=l
 | [],_=>rfl
 |x::r,h=>by
  rw[dd,Dz (Kt.mp h).2,if_neg (Kt.mp h).1]
def iz{l:List Int}(h:l.Pairwise (· < ·)):l.Nodup:=h.imp λ{a b} q=>by omega
def b_(z:List Int):Prop:=z.Pairwise (· < ·)/\∀h∈z,0<=h/\h<=59
def aF(R:List (List Int)):Prop:=(∀z∈R,b_ z)/\R.Pairwise leT/\R.length<=60
theorem qD:∀(n:Nat) (l:List Int),l.Nodup->(∀x∈l,0<=x/\x<(n:Int))->l.length<=n
 |0,l,_,h=>by
  cases l with
  |nil=>simp
  |cons x r=>have:=h x (.head _);omega
 |n+1,l,J,h=>by
  have h1:=qD n (l.filter λx=>decide (x≠(n:Int))) (J.filter _) (λx hx=>by
   obtain⟨h2,U⟩:=Kg.mp hx;have h4:=KP U;have:=h x h2;omega)
  have h2:∀l:List Int,l.Nodup->l.length<=(l.filter λx=>decide (x≠(n:Int))).length+1:=by
   intro l
   induction l with
   |nil=>intro _;simp
   |cons x r ih =>
    intro J;by_cases e:x=(n:Int)
    .have Y:r.filter (λx=>decide (x≠(n:Int)))=r:=Lb.mpr λy Z=>J9 λz=>(Kt.mp J).1 (by rw[e,<- z];exact Z)
     rw[KJ (by simp[e]),Y];simp
    .simp_all
  have:=h2 l J;omega
def aJ(h:b_ z):z.length<=60:=qD 60 z (iz h.1) λx hx=>by have:=h.2 x hx;omega
noncomputable def xz(ns:List Int)(lo hi:Option Int):List Int:=(ns.drop (fY ns.length 0 lo)).take (fY ns.length ns.length hi-fY ns.length 0 lo)
@[simp] theorem Ar(ns)(lo hi):cut (ns.map .int) lo hi=(xz ns lo hi).map .int:=by
 unfold cut xz
 simp_all
def As(ns:List Int){a b:Int}(z:0<=a)(J:0<=b):(xz ns (some a) (some b)).length<=(b-a).toNat:=by
 unfold xz;rw[Nz,length_drop];have U:fY ns.length ns.length (some b)=min b.toNat ns.length:=by show(if b<0 then _ else _)=_;rw[if_neg (Int.not_lt.mpr J)]
 have Y:fY ns.length 0 (some a)=min a.toNat ns.length:=by show(if a<0 then _ else _)=_;rw[if_neg (Int.not_lt.mpr z)]
 rw[U,Y];obtain⟨A,rfl⟩:=Int.eq_ofNat_of_zero_le z;obtain⟨B,rfl⟩:=Int.eq_ofNat_of_zero_le J;rw[Int.toNat_sub,Int.toNat_natCast,Int.toNat_natCast];refine uw (Nat.min_le_left _ _) ?_;rcases Nat.le_total A ns.length with h|h
 .rw[LO h];exact Nat.sub_le_sub_right (Nat.min_le_left _ _) A
 .rw[Nat.min_eq_right h,Nat.sub_eq_zero_of_le (Nat.min_le_right _ _)];exact Kd _
end MM
structure PySem.W.Fast:Prop where (tw13700640887531800433 tw15292160806397687747 tw9104344592977564765 tw7733339970419672894 tw12467109147407214860 tw9877117937864413346 tw18280410859697844054 tw17014356783657831710 tw10270336386651963028 tw9238204465086845186 tw13779621713311773968 tw2017971359235008030 tw8090126621155121332 tw4195753429718387924 tw18311418181965920182 tw9469166710959129308 tw13557833944772217336 tw13580219926506553031 tw3848409840166543532 tw9069185619973310331 tw7719739066043720590 tw16705320004578743679 tw13443077054027798985 tw18230758903996600129 tw4256343338608662558 tw849233677301105367 tw5118616596712103091 tw8951656717300920650 tw9251696412102380745 tw15964799312251472624 tw2874520208330369989 tw15847505775167212401 tw11862647662954409498 tw8472158779925058387 tw18149698785870661394 tw7788173343588167953 tw13546320183040043236 tw3138548072673674213 tw5152065018890528873 tw11270021448346532290 tw8599400514666486109 tw12513655993483387666 tw8822772699359962744 tw14171318658293607706 tw8596872395975728741 tw13479710962909332769 tw8747060987131097470 tw2310633604073815839 tw3033708439493503312 tw15289484848501238921 tw8406084476650547542 tw11126584666601844846 tw96053383102408501 tw17240779293762668394 tw4694942951883226924 tw10035830060495622308 tw13688264929409139647 tw13524156604143624010 tw4094529455988951875 tw10936289297326865647 tw11557160994141967269 tw16359136425254297995 tw14117192251557360392 tw13401214921381785586 tw2984670912156012635 tw16962643597715027110 tw17360444486488309810 tw15572743812906463448 tw3180913776438376530 tw656860892698801215 tw5840235668731558564 tw3639981356865451169 tw15050566646862528102 tw612572722778392168 tw10057556771549377092 tw3850391482165646771 tw1640217675943319587 tw18435575545429311188 tw5888749494816793534 tw5269506577823278059 tw17430919316620828121 tw16946806692860605899 tw11487201150858426867 tw6837154794570243915 tw370081151824694164 tw3503358301276769141 tw2061738579972542050 tw8471149922829933167 tw17989028566831468156 tw1244473862040826727 tw15671835048819256339 tw12448307375306726734 tw8365583259286082954 tw11958615390766456868 tw8926130531718153592 tw8450431877268394307 tw10674408030256600030 tw5215568505604122992 tw12322839496575703370 tw11364335492588761548 tw3812490920319205097 tw17148720340046083920 tw13791687041890744722 tw8212220349310756347 tw6229809586097308084 tw12926436890799076313 tw278964749490994394 tw8721180598063035029 tw7184366698590351140 tw3050519182012165660 tw8822801696619808985 tw8591377793172064107 tw13027837065637227797 tw11824262627316234171 tw3201634307537238933 tw8356763044632308234 tw2589466773365347231 tw7733365281966931703 tw394612393023297145 tw3452250209805231237 tw6130829345489526850 tw15673490819134303200 tw7274516711280830749 tw15173788189197737706 tw13825641664461823966 tw17780118446407270695 tw7009274806131189196 tw17568729520473201720 tw5025291550587345095 tw7958983956301789789 tw9092641887026588642 tw10372909151021156210 tw9965594248656603766 tw5452740478926183182 tw2319054772342366605 tw1889430196914019178 tw11682644702522653508 tw5726765402708733154 tw654349838831467090 tw8400013818729474287 tw13524410647466970412 tw15985851097474755735 tw2819463120841024108 tw3441334220788038411 tw11025393883974305915 tw13924736511065268717 tw9705129148367602904 tw12123581956677049011 tw12322714123241790594 tw8176037529570458985 tw18104349442867127806 tw13017840903489225937 tw14448728311015562195 tw11743103288203457276 tw1029810582396512734 tw9862960559385705856 tw9591233275404034467 tw6270011145028433122 tw8200307378385211473 tw12188401969859047444 tw17895376529195392780 tw284025440511991517 tw17401580743158231849 tw6890355290185698010 tw8625386422177446338 tw17608804690523766341 tw8868566016150136784 tw13411202241893607089 tw14240894577244126903 tw3593662661021516158 tw5175452262151199652 tw18399996711463514767 tw1180346199536051 tw9836638844156218859 tw14505578155821501710 tw9383071009187829017 tw8362342543661911870 tw17788362845734858800 tw1613152974766713417 tw9989263871989197501 tw8452196870774967971 tw11775598486509284184 tw14111741096594640672 tw1904607946200059876 tw17751491640854106099 tw6179577541592440366 tw15415579449268581247 tw5061466620608055889 tw7579063686351423116 tw6063884223651236383 tw5988591529365415946 tw14408669736754736934 tw6189385578246661074 tw15720121761741213640 tw10514965821322624255 tw13904557535036284681 tw6556910392363501500 tw5452213768349310616 tw6182224520049410462 tw16608050091850496239 tw5334638073747741353 tw15862374358498634231 tw5645358606378437924 tw1337610518365014074 tw5507481456485239097 tw10248442110963414583 tw3521490936821807720 tw17745386804556076339 tw7770642303046956787 tw7074867670791357926 tw6056691055448859883 tw15527723205942183205 tw7992507274005231972 tw5903387198906922101 tw7964128805715603707 tw13666286176628080715 tw5557609140466215712 tw397284775256609471 tw905250136229293034 tw863836850170983225 tw2724206833145338312 tw7043783377655675781 tw7689711986001388086 tw5943199847073014782 tw3323746546226919277 tw10531525085261799496 tw13393730711123304783 tw10940118063268276073 tw10838521685437476802 tw12698290619886987426 tw318901654755550359 tw5709918712664547812 tw719745531206714160 tw14089678788738228532 tw17465153590947613671 tw7736574066516116810 tw1858682976041447271 tw8848555613476366143 tw956603205767545409 tw8741972761627258267 tw1742195987165699979 tw10328027213108879536 tw9077435607240362851 tw5980472322840561020 tw7155917832516661912 tw426698499573167695 tw15754840164998707027 tw4948542561942370203 tw11456380372418926857 tw15023527351470079463 tw17793877888565147045 tw11532350755684651658 tw4411074885314907117 tw1866657132254909609 tw171169968873131501 tw14847588297449826953 tw903968440264791853 tw6412655325328355935 tw1558573898966847736 tw11371129763094653068 tw9138540962392045767 tw15665394843087572735 tw5783526023199647473 tw13358589246049356933 tw17688953068415807789 tw17523331946998455021 tw8795510288769180895 tw17231070892984510916 tw5222332825244385060 tw14537579502834082999 tw16546989178925239053 tw2136287751281423909 tw4273341503539815611 tw4367387133457958736 tw7008227897769248663 tw9223697299327281186 tw12324116022731819355 tw17400840521110865843 tw7757833258035913334 tw9784436433132155888 tw12746306027748584830 tw5279456346959408540 tw14952195788210042787 tw1556170246316101771 tw15435907042066418877 tw3394761327209329332 tw17225561833170712499 tw11163529321987236591 tw12204355471143074546 tw15223453362378119167 tw6849961586704004728 tw9710090127694362209 tw12003982936495465031 tw8718738551089665378 tw11273220701877693182 tw10489351395518831075 tw10237278785615088691 tw8339682152938357718 tw11000248237971757476 tw8898913925856412648 tw6591069420862833547 tw8002980050500442110 tw14613013519230065266 tw15666102078588686310 tw15068756732448725370 tw9199436572862612490 tw3792680509229610986 tw14225150945494941972 tw8265306211509004132 tw9153306331958541615 tw3473954293746174862 tw13703333030030300365 tw12023624963567997969 tw3653446531052413955 tw18290656557418901737 tw2355238418975163521 tw6683304322272778463 tw14264084603693149993 tw2774152890423869713 tw12160795719455277130 tw4283880227464539219 tw3763459209974761513 tw16826353710380989620 tw898537656023201324 tw7272450992027916593 tw7803670877526305467 tw6466048733253009088 tw17920697475042400353 tw3435543924875361051 tw16419161803256050915:True)
namespace My
open PySem L2 MM List Option
noncomputable abbrev ix(a:Nat)(b:Int):ME:=.idx (.bor a) (.cst (.int b))
noncomputable abbrev sv(x:PV):Option MV:=some (.val x)
abbrev LL:=List (List Int)
noncomputable abbrev ci(x:Int):ME:=.cst (.int x)
noncomputable abbrev cs(x:Str):ME:=.cst (.str x)
noncomputable def bJ:List MS:=[.extend 1 (.bor 2)]
noncomputable def gR:MD:=⟨"members_of",["rows"],["rows","members","row"],
  [.setOwn 1 (.lst []),
  .for1 2 .seq [.bor 0] bJ,
  .retOwn 1]⟩
noncomputable def iC:MD:=⟨"each_once",["members"],["members"],
  [.ret (.cmp .eq (.blt .lenSet [.bor 0]) (.blt .len [.bor 0]))]⟩
noncomputable def d7:MD:=⟨"strip_without",["strip","hole"],["strip","hole"],
  [.ret (.blt .tupleOf [(.comp .seq [.bor 0] [1] (.cmp .ne (.bor 0) (.bor 1)) (.var 0))])]⟩
noncomputable def kS:MD:=⟨"knotted",["rest","hole"],["rest","hole"],
  [.ret (.blt .tupleOf [(.blt .sorted [(.comp .seq [.bor 0] [1] (.cst (.bl true)) (.call 2 [.bor 0,.bor 1]))])])]⟩
noncomputable def sw:MD:=⟨"bitten",["rest","hole"],["rest","hole"],
  [.ret (.blt .tupleOf [(.comp .seq [.bor 0] [1] (.cmp .notIn (.bor 1) (.bor 0)) (.var 0))])]⟩
noncomputable def jr:MD:=⟨"holes_of",["rest"],["rest"],
  [.ret (.blt .sortedSet [(.call 0 [.bor 0])])]⟩
noncomputable def nw:MD:=⟨"is_whole",["rest"],["rest"],
  [.ret (.cmp .isIn (.tup []) (.bor 0))]⟩
noncomputable def kT:MD:=⟨"is_bare",["rest"],["rest"],
  [.ret (.cmp .eq (.blt .len [.bor 0]) (ci 0))]⟩
noncomputable def jZ:MD:=⟨"other_hand",["hand"],["hand"],
  [.ret (.ite (.cmp .eq (.bor 0) (cs "weaver")) (cs "moth") (cs "weaver"))]⟩
noncomputable def j3:MD:=⟨"behind",["rest","hand","reply"],["rest","hand","reply"],
  [.ite (.cmp .isN (.bor 2) (.cst .non))
   [.ret (.var 0)]
   [],
  .ret (.ite (.cmp .eq (.bor 1) (cs "weaver")) (.call 3 [.bor 0,.bor 2]) (.call 4 [.bor 0,.bor 2]))]⟩
noncomputable def i8:MD:=⟨"behind_both",["rest","hand","hole","reply"],["rest","hand","hole","reply"],
  [.ret (.call 9 [(.call 9 [.bor 0,(.call 8 [.bor 1]),.bor 2]),.bor 1,.bor 3])]⟩
noncomputable def kU:MD:=⟨"has_all",["strip","other"],["strip","other"],
  [.ret (.cmp .eq (.blt .lenSetSub [.bor 1,.bor 0]) (ci 0))]⟩
noncomputable def bw:List MS:=[.ite (.call 11 [.bor 0,.bor 3])
   [.ret (.var 2)]
   []]
noncomputable def dN:MD:=⟨"least_place",["strip","rest"],["strip","rest","place","other"],
  [.forT [2,3] .enm [.bor 1] bw,
  .ret (.cst .non)]⟩
noncomputable def kW:MD:=⟨"footing",["rest","other"],["rest","other"],
  [.ret (.comp .seq [.bor 0] [1] (.cst (.bl true)) (.call 12 [.bor 0,.bor 1]))]⟩
noncomputable def jt:MD:=⟨"is_below",["rest","other"],["rest","other"],
  [.ret (.cmp .notIn (.cst .non) (.call 13 [.bor 0,.bor 1]))]⟩
noncomputable def j4:MD:=⟨"has_a_pair",["strip","pairs"],["strip","pairs"],
  [.ret (.blt .any [(.comp .seq [.bor 1] [0] (.cst (.bl true)) (.call 11 [.bor 1,.bor 0]))])]⟩
noncomputable def j5:MD:=⟨"pairs_hold",["pairs","rest"],["pairs","rest"],
  [.ite (.not (.call 1 [(.call 0 [.bor 0])]))
   [.ret (.cst (.bl false))]
   [],
  .ret (.blt .all [(.comp .seq [.bor 1] [0] (.cst (.bl true)) (.call 15 [.bor 0,.bor 1]))])]⟩
noncomputable def ny:MD:=⟨"together",["rests"],["rests"],
  [.ret (.blt .tupleOf [(.blt .sorted [(.call 0 [.bor 0])])])]⟩
noncomputable def lq:MD:=⟨"are_apart",["rests"],["rests"],
  [.ret (.call 1 [(.call 0 [(.comp .seq [.bor 0] [] (.cst (.bl true)) (.call 5 [.bor 0]))])])]⟩
noncomputable def iD:MD:=⟨"strip_weight",["strip"],["strip"],
  [.ret (.bin .shr (.glob "UNIT" (.int 1152921504606846976)) (.blt .len [.bor 0]))]⟩
noncomputable def sx:MD:=⟨"weight",["rest"],["rest"],
  [.ret (.blt .sum [(.comp .seq [.bor 0] [] (.cst (.bl true)) (.call 19 [.bor 0]))])]⟩
noncomputable def pz:List MS:=[.dput 1 (.bor 3) (.bin .add (.dget (.bor 1) (.bor 3) (ci 0)) (.call 19 [.bor 2]))]
noncomputable def pA:List MS:=[.for1 3 .seq [.bor 2] pz]
noncomputable def vW:MD:=⟨"pulls",["rest"],["rest","pull_of","strip","hole"],
  [.newD false 1,
  .for1 2 .seq [.bor 0] pA,
  .retOwn 1]⟩
noncomputable def lJ:MD:=⟨"greatest_pull",["rest"],["rest"],
  [.ret (.blt .max1 [(.bin .add (.lst [(ci 0)]) (.blt .valuesOf [(.call 21 [.bor 0])]))])]⟩
noncomputable def iE:List MS:=[.extend 1 (.comp .seq [(.slice (.bor 0) (.bin .add (.bor 2) (ci 1)) (.cst .non))] [3] (.cst (.bl true)) (.tup [.var 1,.var 0]))]
noncomputable def xA:MD:=⟨"twos_of",["strip"],["strip","twos","place","low"],
  [.setOwn 1 (.lst []),
  .forT [2,3] .enm [.bor 0] iE,
  .retOwn 1]⟩
noncomputable def g8:List MS:=[.dput 1 (.bor 3) (.bin .add (.dget (.bor 1) (.bor 3) (ci 0)) (ci 1))]
noncomputable def g9:List MS:=[.for1 3 .seq [(.call 23 [.bor 2])] g8]
noncomputable def i9:MD:=⟨"most_shared",["rest"],["rest","count_of","strip","two"],
  [.newD true 1,
  .for1 2 .seq [.bor 0] g9,
  .ret (.blt .max1 [(.bin .add (.lst [(ci 0)]) (.blt .valuesOf [.bor 1]))])]⟩
noncomputable def cO:MD:=⟨"moth_weighs",["rest","turn"],["rest","turn"],
  [.ite (.cmp .eq (.bor 1) (cs "moth"))
   [.ret (.cmp .lt (.call 20 [.bor 0]) (.glob "UNIT" (.int 1152921504606846976)))]
   [],
  .ret (.cmp .lt (.bin .add (.call 20 [.bor 0]) (.call 22 [.bor 0])) (.glob "UNIT" (.int 1152921504606846976)))]⟩
noncomputable def nz:MD:=⟨"is_heavy",["rest"],["rest"],
  [.ret (.cmp .gt (.bin .mul (ci 4) (.call 20 [.bor 0])) (.bin .mul (.bin .mul (.glob "UNIT" (.int 1152921504606846976)) (.call 24 [.bor 0])) (.bin .fdiv (.blt .len [(.call 5 [.bor 0])]) (ci 2))))]⟩
noncomputable def cV:MD:=⟨"weaver_weighs",["rest","turn"],["rest","turn"],
  [.ite (.cmp .eq (.bor 1) (cs "weaver"))
   [.ret (.call 26 [.bor 0])]
   [],
  .ite (.call 6 [.bor 0])
   [.ret (.cst (.bl true))]
   [],
  .ret (.and (.call 26 [.bor 0]) (.blt .all [(.comp .seq [(.call 5 [.bor 0])] [0] (.cst (.bl true)) (.call 26 [(.call 4 [.bor 1,.bor 0])]))]))]⟩
noncomputable def F2:MD:=⟨"good",["paper","rest","turn","hand"],["paper","rest","turn","hand"],
  [.ite (.cmp .eq (.bor 3) (cs "moth"))
   [.ret (.call 29 [.bor 0,.bor 1,.bor 2])]
   [],
  .ret (.call 30 [.bor 0,.bor 1,.bor 2])]⟩
noncomputable def bO:MD:=⟨"good_for_moth",["paper","rest","turn"],["paper","rest","turn","word"],
  [.set 3 (ix 0 0),
  .ite (.cmp .eq (.bor 3) (cs "bare"))
   [.ret (.call 7 [.bor 1])]
   [],
  .ite (.cmp .eq (.bor 3) (cs "weight"))
   [.ret (.call 25 [.bor 1,.bor 2])]
   [],
  .ite (.cmp .eq (.bor 2) (cs "moth"))
   [.ret (.and (.cmp .eq (.bor 3) (cs "bite")) (.call 31 [.bor 0,.bor 1,(cs "moth")]))]
   [],
  .ite (.cmp .eq (.bor 3) (cs "pairs"))
   [.ret (.call 16 [(ix 0 1),.bor 1])]
   [],
  .ite (.cmp .eq (.bor 3) (cs "cases"))
   [.ret (.and (.not (.call 6 [.bor 1])) (.call 32 [(ix 0 1),.bor 1,(cs "moth")]))]
   [],
  .ite (.cmp .eq (.bor 3) (cs "parts"))
   [.ret (.and (.call 33 [(ix 0 1),.bor 1]) (.call 34 [(ix 0 1)]))]
   [],
  .ret (.cst (.bl false))]⟩
noncomputable def ba:MD:=⟨"good_for_weaver",["paper","rest","turn"],["paper","rest","turn","word"],
  [.set 3 (ix 0 0),
  .ite (.cmp .eq (.bor 3) (cs "whole"))
   [.ret (.call 6 [.bor 1])]
   [],
  .ite (.cmp .eq (.bor 3) (cs "weight"))
   [.ret (.call 27 [.bor 1,.bor 2])]
   [],
  .ite (.cmp .eq (.bor 3) (cs "fewer"))
   [.ret (.and (.call 14 [(ix 0 1),.bor 1]) (.call 28 [(ix 0 2),(ix 0 1),.bor 2,(cs "weaver")]))]
   [],
  .ite (.cmp .eq (.bor 2) (cs "weaver"))
   [.ret (.and (.cmp .eq (.bor 3) (cs "knot")) (.call 31 [.bor 0,.bor 1,(cs "weaver")]))]
   [],
  .ite (.cmp .eq (.bor 3) (cs "cases"))
   [.ret (.and (.cmp .gt (.blt .len [(.call 5 [.bor 1])]) (ci 0)) (.call 32 [(ix 0 1),.bor 1,(cs "weaver")]))]
   [],
  .ite (.cmp .eq (.bor 3) (cs "either"))
   [.ret (.call 35 [.bor 0,.bor 1])]
   [],
  .ret (.cst (.bl false))]⟩
noncomputable def iF:MD:=⟨"move_is_good",["paper","rest","hand"],["paper","rest","hand"],
  [.ret (.call 28 [(ix 0 2),(.call 9 [.bor 1,.bor 2,(ix 0 1)]),(.call 8 [.bor 2]),.bor 2])]⟩
noncomputable def aL:List MS:=[.ite (.not (.call 28 [.bor 5,(.call 10 [.bor 1,.bor 2,.bor 3,.bor 4]),(.call 8 [.bor 2]),.bor 2]))
   [.ret (.cst (.bl false))]
   []]
noncomputable def gm:MD:=⟨"cases_are_good",["rows","rest","hand"],["rows","rest","hand","hole","reply","paper"],
  [.ite (.cmp .ne (.comp .seq [.bor 0] [] (.cst (.bl true)) (ix 0 0)) (.call 5 [.bor 1]))
   [.ret (.cst (.bl false))]
   [],
  .forT [3,4,5] .seq [.bor 0] aL,
  .ret (.cst (.bl true))]⟩
noncomputable def fE:MD:=⟨"parts_stand_for",["rows","rest"],["rows","rest","rests","strips"],
  [.set 2 (.comp .seq [.bor 0] [] (.cst (.bl true)) (ix 0 0)),
  .set 3 (.call 17 [.bor 2]),
  .ite (.or (.cmp .gt (.blt .len [.bor 3]) (.blt .len [.bor 1])) (.not (.call 18 [.bor 2])))
   [.ret (.cst (.bl false))]
   [],
  .ret (.and (.call 11 [(.call 5 [.bor 1]),(.call 5 [.bor 3])]) (.call 14 [.bor 1,.bor 3]))]⟩
noncomputable def bK:List MS:=[.ite (.not (.call 28 [.bor 2,.bor 1,(cs "weaver"),(cs "moth")]))
   [.ret (.cst (.bl false))]
   []]
noncomputable def gp:MD:=⟨"parts_are_good",["rows"],["rows","rest","paper"],
  [.forT [1,2] .seq [.bor 0] bK,
  .ret (.cst (.bl true))]⟩
noncomputable def gq:MD:=⟨"either_is_good",["paper","rest"],["paper","rest","one","two"],
  [.set 2 (ix 0 1),
  .set 3 (ix 0 3),
  .ite (.or (.not (.call 18 [(.lst [.var 2,.var 3])])) (.or (.not (.call 14 [.bor 2,.bor 1])) (.not (.call 14 [.bor 3,.bor 1]))))
   [.ret (.cst (.bl false))]
   [],
  .ret (.and (.call 28 [(ix 0 2),.bor 2,(cs "weaver"),(cs "weaver")]) (.call 28 [(ix 0 4),.bor 3,(cs "weaver"),(cs "weaver")]))]⟩
noncomputable def nA:MD:=⟨"_law_cell",["script","k"],["script","k"],
  [.ite (.cmp .lt (.bor 1) (.blt .len [.bor 0]))
   [.ret (.idx (.bor 0) (.bor 1))]
   [],
  .ret (ci 0)]⟩
noncomputable def lr:MD:=⟨"_law_mixed",["cell","by"],["cell","by"],
  [.ret (.bin .mod (.bin .mul (.bin .mod (.bor 0) (ci 2305843009213693951)) (.bor 1)) (ci 2305843009213693951))]⟩
noncomputable def fN:MD:=⟨"_law_knotted",["rest","hole"],["rest","hole"],
  [.ret (.blt .tupleOf [(.blt .sorted [(.comp .seq [.bor 0] [1] (.cst (.bl true)) (.blt .tupleOf [(.comp .seq [.bor 0] [1] (.cmp .ne (.bor 0) (.bor 1)) (.var 0))]))])])]⟩
noncomputable def j6:MD:=⟨"_law_bitten",["rest","hole"],["rest","hole"],
  [.ret (.blt .tupleOf [(.comp .seq [.bor 0] [1] (.cmp .notIn (.bor 1) (.bor 0)) (.var 0))])]⟩
noncomputable def cQ:List MS:=[.ite (.cmp .notIn (.bor 3) (.bor 1))
   [.append 1 (.var 3)]
   []]
noncomputable def dO:List MS:=[.for1 3 .seq [.bor 2] cQ]
noncomputable def iG:MD:=⟨"_law_holes",["rest"],["rest","found","strip","hole"],
  [.setOwn 1 (.lst []),
  .for1 2 .seq [.bor 0] dO,
  .ret (.blt .sorted [.bor 1])]⟩
noncomputable def dv:List MS:=[.ite (.cmp .notIn (.bor 2) (.bor 1))
   [.ret (.cst (.bl false))]
   []]
noncomputable def eI:MD:=⟨"_law_within",["some","others"],["some","others","hole"],
  [.for1 2 .seq [.bor 0] dv,
  .ret (.cst (.bl true))]⟩
noncomputable def e_:List MS:=[.ite (.not (.blt .any [(.comp .seq [.bor 1] [3] (.cst (.bl true)) (.call 41 [.bor 0,.bor 1]))]))
   [.set 4 (.comp .seq [.bor 3] [2] (.cmp .notIn (.bor 0) (.bor 1)) (.var 0)),
   .ite (.cmp .gt (.blt .len [.bor 4]) (ci 1))
    [.append 1 (.tup [(ix 4 0),(ix 4 1)]),
    .set 2 (.bin .add (.bor 2) (.slice (.bor 4) (.cst .non) (ci 2)))]
    []]
   []]
noncomputable def j7:MD:=⟨"_law_greedy",["rest"],["rest","pairs","used","strip","fresh"],
  [.setOwn 1 (.lst []),
  .set 2 (.lst []),
  .for1 3 .seq [.bor 0] e_,
  .ret (.blt .tupleOf [.bor 1])]⟩
noncomputable def dW:List MS:=[.set 4 (.blt .sum [(.comp .seq [.bor 0] [3] (.cmp .isIn (.bor 1) (.bor 0)) (.bin .shr (.bin .pow (ci 2) (ci 60)) (.blt .len [.bor 0])))]),
  .ite (.cmp .gt (.bor 4) (.bor 2))
   [.set 2 (.var 4),
   .set 1 (.var 3)]
   []]
noncomputable def pB:MD:=⟨"_law_top",["rest"],["rest","best","most","hole","pulled"],
  [.set 1 (.cst .non),
  .set 2 (ci 0),
  .for1 3 .seq [(.call 40 [.bor 0])] dW,
  .ret (.var 1)]⟩
noncomputable def cR:List MS:=[.ite (.cmp .eq (.bor 1) (cs "weaver"))
   [.set 4 (.call 44 [(.call 38 [.bor 0,.bor 3]),(cs "moth")])]
   [.set 4 (.call 44 [(.call 39 [.bor 0,.bor 3]),(cs "weaver")])],
  .ite (.cmp .eq (ix 4 0) (.bor 1))
   [.ret (.tup [.var 1,(.tup [(.disp [("weaver","knot"),("moth","bite")] (.bor 1)),.var 3,(ix 4 1)])])]
   [],
  .append 2 (.tup [.var 3,(.idx (ix 4 1) (ci 1)),(.idx (ix 4 1) (ci 2))])]
noncomputable def dX:MD:=⟨"_law_tried",["rest","turn"],["rest","turn","rows","hole","found"],
  [.ite (.cmp .isIn (.tup []) (.bor 0))
   [.ret (.tup [(cs "weaver"),(.tup [(cs "whole")])])]
   [],
  .ite (.cmp .eq (.blt .len [.bor 0]) (ci 0))
   [.ret (.tup [(cs "moth"),(.tup [(cs "bare")])])]
   [],
  .setOwn 2 (.lst []),
  .for1 3 .seq [(.call 40 [.bor 0])] cR,
  .ret (.tup [(.disp [("weaver","moth"),("moth","weaver")] (.bor 1)),(.tup [(cs "cases"),(.blt .tupleOf [.bor 2])])])]⟩
noncomputable def bE:List MS:=[.set 10 (.bin .add (.bin .add (.bor 1) (.idx (.lst [(ci 0),(ci 4),(ci 8),(ci 0)]) (.bor 5))) (.bin .mod (.bor 4) (.bor 7))),
  .ite (.cmp .notIn (.bor 10) (.bor 8))
   [.append 8 (.var 10)]
   [],
  .set 4 (.bin .fdiv (.bor 4) (.bor 7))]
noncomputable def fF:MD:=⟨"_law_block_strip",["cell","base","blocks","least"],["cell","base","blocks","least","left","block","size","many","strip","k","hole"],
  [.set 4 (.call 37 [.bor 0,(ci 1181783497276652981)]),
  .set 5 (.bin .mod (.bor 4) (.bor 2)),
  .set 4 (.bin .fdiv (.bor 4) (.bor 2)),
  .set 6 (.bin .add (.bor 3) (.bin .mod (.bor 4) (ci 3))),
  .set 4 (.bin .fdiv (.bor 4) (ci 3)),
  .set 7 (.idx (.lst [(ci 4),(ci 4),(ci 4),(ci 12)]) (.bor 5)),
  .setOwn 8 (.lst []),
  .for1 9 .rng [.bor 6] bE,
  .ret (.blt .tupleOf [(.blt .sorted [.bor 8])])]⟩
noncomputable def gU:MD:=⟨"_law_next",["tape"],["tape"],
  [.ite (.cmp .gt (.lenP 0) (ci 0))
   [.retXE (.fn 37 (.pop 0) [(ci 2049848353892358983)])]
   [],
  .retM (ci 0)]⟩
noncomputable def nB:MD:=⟨"_law_deed",["rest","hand","reply"],["rest","hand","reply"],
  [.ite (.cmp .isN (.bor 2) (.cst .non))
   [.ret (.var 0)]
   [],
  .ite (.cmp .eq (.bor 1) (cs "moth"))
   [.ret (.call 39 [.bor 0,.bor 2])]
   [],
  .ret (.call 38 [.bor 0,.bor 2])]⟩
noncomputable def dY:MD:=⟨"_law_reply",["rest","pick"],["rest","pick"],
  [.ite (.cmp .eq (.bin .mod (.bor 1) (ci 8)) (ci 0))
   [.ret (.cst .non)]
   [],
  .ite (.cmp .eq (.bin .mod (.bor 1) (ci 8)) (ci 1))
   [.ret (.bin .mod (.bin .fdiv (.bor 1) (ci 8)) (ci 60))]
   [],
  .ret (.call 43 [.bor 0])]⟩
noncomputable def dP:List MS:=[.ite (.blt .any [(.comp .seq [.bor 5] [2] (.cst (.bl true)) (.blt .any [(.comp .seq [.bor 0] [1] (.cst (.bl true)) (.cmp .isIn (.bor 0) (.bor 1)))]))])
   [.set 3 (.bin .add (.bor 3) (.bor 5))]
   [.append 4 (.var 5)]]
noncomputable def dQ:List MS:=[.set 3 (.lst []),
  .setOwn 4 (.lst []),
  .for1 5 .seq [.bor 1] dP,
  .set 1 (.bin .add (.bor 4) (.lst [(.bin .add (.bor 3) (.lst [.var 2]))]))]
noncomputable def lu:MD:=⟨"_law_split",["rest"],["rest","parts","strip","near","far","part"],
  [.set 1 (.lst []),
  .for1 2 .seq [.bor 0] dQ,
  .ret (.comp .seq [.bor 1] [] (.cst (.bl true)) (.blt .tupleOf [(.blt .sorted [.bor 0])]))]⟩
noncomputable def lv:MD:=⟨"_law_plain",["rest","turn","hand","pick"],["rest","turn","hand","pick"],
  [.ite (.cmp .eq (.bor 2) (cs "weaver"))
   [.ret (.idx (.lst [(.tup [(cs "weight")]),(.tup [(cs "whole")])]) (.blt .intOf [(.cmp .isIn (.tup []) (.bor 0))]))]
   [],
  .ite (.cmp .eq (.blt .len [.bor 0]) (ci 0))
   [.ret (.tup [(cs "bare")])]
   [],
  .ite (.and (.cmp .eq (.bor 1) (cs "weaver")) (.cmp .eq (.bin .mod (.bor 3) (ci 2)) (ci 0)))
   [.ret (.tup [(cs "pairs"),(.call 42 [.bor 0])])]
   [],
  .ret (.tup [(cs "weight")])]⟩
noncomputable def fO:List MS:=[.set 6 (.call 47 [.bor 1,.bor 4,.bor 5]),
  .setX 7 (.fn2 48 (.var 6) (.call 46 [true] [.bor 0])),
  .appX 3 (.tup [(.pure (.var 5)),(.pure (.var 7)),(.call 54 [true,false,false,false,false] [.bor 0,(.call 47 [.bor 6,.bor 2,.bor 7]),.bor 4,.bor 2,(ci 0)])])]
noncomputable def iH:MD:=⟨"_law_cases",["tape","rest","hand"],["tape","rest","hand","rows","other","hole","behind_v","reply"],
  [.setOwn 3 (.lst []),
  .set 4 (.disp [("weaver","moth"),("moth","weaver")] (.bor 2)),
  .for1 5 .seq [(.call 40 [.bor 1])] fO,
  .retM (.tup [(cs "cases"),(.blt .tupleOf [.bor 3])])]⟩
noncomputable def fP:MD:=⟨"_law_of_moth",["tape","rest","turn","pick","deep"],["tape","rest","turn","pick","deep","reply","parts"],
  [.ite (.cmp .eq (.bor 2) (cs "moth"))
   [.set 5 (.call 48 [.bor 1,.bor 3]),
   .retXE (.tup [(.pure (cs "bite")),(.pure (.var 5)),(.call 54 [true,false,false,false,false] [.bor 0,(.call 47 [.bor 1,(cs "moth"),.bor 5]),(cs "weaver"),(cs "moth"),.bor 4])])]
   [],
  .ite (.and (.cmp .eq (.bin .mod (.bor 3) (ci 2)) (ci 0)) (.cmp .lt (.blt .len [(.call 40 [.bor 1])]) (ci 5)))
   [.retXE (.call 51 [true,false,false] [.bor 0,.bor 1,(cs "moth")])]
   [],
  .set 6 (.call 49 [.bor 1]),
  .retXE (.tup [(.pure (cs "parts")),(.tupOf (.compS (.var 6) [0,4] .pair (.var 0) 54 [true,false,false,false,false] [.bor 1,.bor 0,(cs "weaver"),(cs "moth"),.bor 2]))])]⟩
noncomputable def d8:MD:=⟨"_law_of_weaver",["tape","rest","turn","pick","deep"],["tape","rest","turn","pick","deep","some","reply","parts","one","two","left"],
  [.ite (.cmp .eq (.bin .mod (.bor 3) (ci 3)) (ci 0))
   [.set 5 (.blt .tupleOf [(.comp .rng [(.blt .len [.bor 1])] [1,3] (.cmp .gt (.bin .mod (.bin .shr (.bor 2) (.bin .add (.bor 0) (ci 8))) (ci 4)) (ci 0)) (.idx (.bor 1) (.bor 0)))]),
   .retXE (.tup [(.pure (cs "fewer")),(.pure (.var 5)),(.call 54 [true,false,false,false,false] [.bor 0,.bor 5,.bor 2,(cs "weaver"),.bor 4])])]
   [],
  .ite (.cmp .eq (.bor 2) (cs "weaver"))
   [.set 6 (.call 48 [.bor 1,(.bin .fdiv (.bor 3) (ci 3))]),
   .retXE (.tup [(.pure (cs "knot")),(.pure (.var 6)),(.call 54 [true,false,false,false,false] [.bor 0,(.call 47 [.bor 1,(cs "weaver"),.bor 6]),(cs "moth"),(cs "weaver"),.bor 4])])]
   [],
  .ite (.and (.cmp .eq (.bin .mod (.bor 3) (ci 3)) (ci 1)) (.cmp .lt (.blt .len [(.call 40 [.bor 1])]) (ci 5)))
   [.retXE (.call 51 [true,false,false] [.bor 0,.bor 1,(cs "weaver")])]
   [],
  .set 7 (.call 49 [.bor 1]),
  .ite (.cmp .lt (.blt .len [.bor 7]) (ci 2))
   [.retM (.tup [(cs "weight")])]
   [],
  .set 8 (.idx (.bor 7) (.bin .mod (.bin .fdiv (.bor 3) (ci 3)) (.blt .len [.bor 7]))),
  .set 9 (.idx (.bor 7) (.bin .mod (.bin .add (.bin .fdiv (.bor 3) (ci 3)) (ci 1)) (.blt .len [.bor 7]))),
  .setX 10 (.call 54 [true,false,false,false,false] [.bor 0,.bor 8,(cs "weaver"),(cs "weaver"),.bor 4]),
  .retXE (.tup [(.pure (cs "either")),(.pure (.var 8)),(.pure (.var 10)),(.pure (.var 9)),(.call 54 [true,false,false,false,false] [.bor 0,.bor 9,(cs "weaver"),(cs "weaver"),.bor 4])])]⟩
noncomputable def fG:MD:=⟨"_law_paper",["tape","rest","turn","hand","deep"],["tape","rest","turn","hand","deep","pick","found"],
  [.setX 5 (.call 46 [true] [.bor 0]),
  .ite (.and (.cmp .eq (.bin .mod (.bor 5) (ci 2)) (ci 0)) (.cmp .lt (.blt .len [(.call 40 [.bor 1])]) (ci 5)))
   [.set 6 (.call 44 [.bor 1,.bor 2]),
   .ite (.cmp .eq (ix 6 0) (.bor 3))
    [.retM (ix 6 1)]
    []]
   [],
  .ite (.or (.cmp .eq (.bor 4) (ci 0)) (.cmp .eq (.bin .mod (.bin .fdiv (.bor 5) (ci 2)) (ci 8)) (ci 0)))
   [.retM (.call 50 [.bor 1,.bor 2,.bor 3,(.bin .fdiv (.bor 5) (ci 16))])]
   [],
  .ite (.cmp .eq (.bor 3) (cs "moth"))
   [.retXE (.call 52 [true,false,false,false,false] [.bor 0,.bor 1,.bor 2,(.bin .fdiv (.bor 5) (ci 16)),(.bin .sub (.bor 4) (ci 1))])]
   [],
  .retXE (.call 53 [true,false,false,false,false] [.bor 0,.bor 1,.bor 2,(.bin .fdiv (.bor 5) (ci 16)),(.bin .sub (.bor 4) (ci 1))])]⟩
noncomputable def bn:MD:=⟨"_law_spoilt",["paper","way"],["paper","way","word","rows","at","last"],
  [.set 2 (ix 0 0),
  .ite (.or (.cmp .eq (.bor 2) (cs "bite")) (.cmp .eq (.bor 2) (cs "knot")))
   [.ite (.cmp .eq (.bin .mod (.bor 1) (ci 3)) (ci 0))
    [.ret (.tup [.var 2,(.bin .mod (.bin .fdiv (.bor 1) (ci 3)) (ci 60)),(ix 0 2)])]
    [],
   .ret (.tup [.var 2,(ix 0 1),(.call 55 [(ix 0 2),(.bin .fdiv (.bor 1) (ci 3))])])]
   [],
  .ite (.cmp .eq (.bor 2) (cs "fewer"))
   [.ret (.tup [.var 2,(ix 0 1),(.call 55 [(ix 0 2),(.bin .fdiv (.bor 1) (ci 3))])])]
   [],
  .ite (.cmp .eq (.bor 2) (cs "either"))
   [.ite (.cmp .eq (.bin .mod (.bor 1) (ci 3)) (ci 0))
    [.ret (.tup [.var 2,(ix 0 1),(ix 0 2),(ix 0 1),(ix 0 2)])]
    [],
   .ret (.tup [.var 2,(ix 0 1),(.call 55 [(ix 0 2),(.bin .fdiv (.bor 1) (ci 3))]),(ix 0 3),(ix 0 4)])]
   [],
  .ite (.and (.or (.cmp .eq (.bor 2) (cs "cases")) (.cmp .eq (.bor 2) (cs "parts"))) (.cmp .gt (.blt .len [(ix 0 1)]) (ci 0)))
   [.setOwn 3 (.blt .listOf [(ix 0 1)]),
   .set 4 (.bin .mod (.bin .fdiv (.bor 1) (ci 3)) (.blt .len [.bor 3])),
   .ite (.cmp .eq (.bin .mod (.bor 1) (ci 3)) (ci 0))
    [.popAt 3 (.bor 4)]
    [.ite (.and (.cmp .eq (.bin .mod (.bor 1) (ci 3)) (ci 1)) (.cmp .eq (.bor 2) (cs "cases")))
     [.setIdx 3 (.bor 4) (.tup [(.idx (.idx (.bor 3) (.bor 4)) (ci 0)),(.bin .mod (.bin .fdiv (.bor 1) (ci 64)) (ci 60)),(.idx (.idx (.bor 3) (.bor 4)) (ci 2))])]
     [.set 5 (.bin .sub (.blt .len [(.idx (.bor 3) (.bor 4))]) (ci 1)),
     .setIdx 3 (.bor 4) (.bin .add (.slice (.idx (.bor 3) (.bor 4)) (.cst .non) (.bor 5)) (.tup [(.call 55 [(.idx (.idx (.bor 3) (.bor 4)) (.bor 5)),(.bin .fdiv (.bor 1) (ci 64))])]))]],
   .ret (.tup [.var 2,(.blt .tupleOf [.bor 3])])]
   [],
  .ret (.idx (.lst [(.tup [(cs "weight")]),(.tup [(cs "whole")]),(.tup [(cs "bare")]),(.tup [(cs "pairs"),(.tup [])])]) (.bin .mod (.bor 1) (ci 4)))]⟩
noncomputable def vX:List MS:=[.set 14 (.call 28 [.bor 13,.bor 6,.bor 9,(cs "moth")]),
  .ite (.not (.blt .isBool [.bor 14]))
   [.ret (.cst (.bl false))]
   [],
  .set 12 (.or (.bor 12) (.bor 14))]
noncomputable def vY:List MS:=[.set 14 (.call 28 [.bor 13,.bor 6,.bor 9,(cs "weaver")]),
  .ite (.or (.not (.blt .isBool [.bor 14])) (.and (.bor 14) (.bor 12)))
   [.ret (.cst (.bl false))]
   []]
noncomputable def vZ:List MS:=[.setX 10 (.call 54 [true,false,false,false,false] [.bor 7,.bor 6,.bor 9,(cs "moth"),(ci 3)]),
  .setX 11 (.call 54 [true,false,false,false,false] [.bor 8,.bor 6,.bor 9,(cs "weaver"),(ci 3)]),
  .set 12 (.cst (.bl false)),
  .for1 13 .seq [(.lst [.var 10,(.call 55 [.bor 10,(.bin .fdiv (.bor 1) (ci 4))])])] vX,
  .for1 13 .seq [(.lst [.var 11,(.call 55 [.bor 11,(.bin .fdiv (.bor 1) (ci 8))])])] vY]
noncomputable def v0:MD:=⟨"law",["script"],["script","way","by","room","cells","strips","rest","left","right","turn","ones","others","held","paper","found"],
  [.set 1 (.call 37 [(.call 36 [.bor 0,(ci 0)]),(ci 1865811235122147685)]),
  .set 2 (.call 37 [(.call 36 [.bor 0,(ci 1)]),(ci 1442695040888963407)]),
  .set 3 (.idx (.lst [(ci 3),(ci 8)]) (.bin .mod (.bor 1) (ci 2))),
  .set 4 (.slice (.bor 0) (ci 2) (.bin .add (ci 2) (.bor 3))),
  .set 5 (.comp .seq [.bor 4] [2] (.cst (.bl true)) (.call 45 [.bor 0,(.bin .mod (.bor 1) (ci 49)),(.bin .add (ci 3) (.bin .mod (.bin .fdiv (.bor 1) (ci 49)) (ci 2))),(.bin .mod (.bin .fdiv (.bor 1) (ci 98)) (ci 3))])),
  .set 6 (.blt .tupleOf [(.blt .sorted [.bor 5])]),
  .setQ 7 (.comp .rng [(.bin .add (ci 2) (.bor 3)),(.blt .len [.bor 0]),(ci 2)] [0] (.cst (.bl true)) (.idx (.bor 1) (.bor 0))),
  .setQ 8 (.comp .rng [(.bin .add (ci 3) (.bor 3)),(.blt .len [.bor 0]),(ci 2)] [0] (.cst (.bl true)) (.idx (.bor 1) (.bor 0))),
  .for1 9 .seq [(.lst [(cs "weaver"),(cs "moth")])] vZ,
  .ret (.cst (.bl true))]⟩
noncomputable def defs:List MD:=[gR,iC,d7,kS,sw,jr,nw,kT,jZ,j3,i8,kU,dN,kW,jt,j4,j5,ny,lq,iD,sx,vW,lJ,xA,i9,cO,nz,cV,F2,bO,ba,iF,gm,fE,gp,gq,nA,lr,fN,j6,iG,eI,j7,pB,dX,fF,gU,nB,dY,lu,lv,iH,fP,d8,fG,bn,v0]
noncomputable def tab:Tab:=⟨defs.map (·.name),[("UNIT",(.int 1152921504606846976))],[[],[],[],[],[],[],[],[],[],[],[],[],[],[],[],[],[],[],[],[],[],[],[],[],[],[],[],[],[],[],[],[],[],[],[],[],[],[],[],[],[],[],[],[],[],[],[],[],[],[],[],[],[],[],[],[],[]]⟩
noncomputable def cellOf(ns:List Int)(k:Int):Int:=ns.getD k.toNat 0
def F3(n)(m)(ns)(k)(z:bC (some m)=some (ofL ns))(J:0<=k):aa defs (n+1) 36 [m,.val (.int k)]=some (.int (cellOf ns k)):=by
 rw[ac rfl rfl];unfold cellOf;simp[nA,exs,ex,ev,evs,evB,z];by_cases h:k<(ns.length:Int)
 .have h2:k.toNat<ns.length:=by omega
  simp[h,eZ J h,h2]
 .have h2:ns.length<=k.toNat:=by omega
  simp[h,h2]
noncomputable def iI(c b:Int):Int:=c % 2305843009213693951*b % 2305843009213693951
def gX(c b):0<=iI c b:=Lf _ (by decide)
def qE(n)(c b):aa defs (n+1) 37 [.val (.int c),.val (.int b)]=some (.int (iI c b)):=by
 rw[ac rfl rfl];have z:(-18446744073709551616<c % 2305843009213693951/\c % 2305843009213693951<18446744073709551616\/-18446744073709551616<b/\b<18446744073709551616):=.inl ⟨by omega,by omega⟩;simp[lr,exs,ex,ev,z,iI]
theorem nD{α:Type}{g:α->PV}{body:PV->Rho->R}{I:Rho->Prop}{p:α->Bool}{r:α->PV}:∀{xs:List α}{W},I W ->
  (∀x∈xs,∀W,I W->(p x=true->body (g x) W=.ret (r x))/\(p x=false->∃l,I l/\body (g x) W=.next l)) ->
  (∀x,xs.find? p=some x->ay body (xs.map g) W=.ret (r x))/\(xs.find? p=none->∃l,I l/\ay body (xs.map g) W=.next l)
 | [],W,J,_=>⟨λx h=>(by cases h),λ_=>⟨W,J,rfl⟩⟩
 |x::xs,W,J,h=>by
  obtain⟨h1,h2⟩:=h x (.head _) W J;rw[JY,ay];cases z:p x with
  |true =>
   rw[h1 z,MA z];exact⟨λy e=>(by cases e;rfl),λe=>(by cases e)⟩
  |false =>
   obtain⟨l,U,e⟩:=h2 z;rw[e,Lx (by simp[z])];exact nD (xs:=xs) U λy Y=>h y (.tail _ Y)
def eJ(h:(evs cal src W).bind (bc k)=some xs):ex cal (.for1 i k src body) W=(ay (λx l=>exs cal body (put l i (.val x))) xs (bv src W)).back src W:=by
 rw[ex,h]
def qF(h:(evs cal src W).bind (bc k)=some xs):ex cal (.forT is k src body) W=(ay (λx l=>cg (cM is x l) λz=>exs cal body z) xs (bv src W)).back src W:=by
 rw[ex,h]
def aq(cal)(m)(ms)(W):exs cal (m::ms) W=(ex cal m W).andThen λl=>exs cal ms l:=rfl
def aQ(h:ev cal e W=some v):ev cal (.blt b [e]) W=aC b [v]:=by
 rw[ev,evs,h,bind_some,evs,map_some,bind_some]
def ju(h:ev cal e W=some v):ex cal (.set i e) W=.next (put W i (.val v)):=by
 rw[ex,h];rfl
def dw(h:ev cal a W=some (.bl p))(h':p=true->ev cal b W=some (.bl q)):ev cal (.and a b) W=some (.bl (p&&q)):=by
 rw[ev,h];cases p<;>first|rfl|simp[h' rfl]
def cZ(h:ev cal e W=some v):ex cal (.ret e) W=.ret v:=by
 rw[ex,h];rfl
def ae(h:evA cal es W=some vs)(h':cal f vs=some v):ev cal (.call f es) W=some v:=by
 rw[ev,h,bind_some,h']
def dg(h:ev cal e W=some (.lst xs)):ex cal (.setOwn i e) W=.next (put W i (.own xs)):=by
 rw[ex,h];rfl
def cn{α:Type}{xs:List α}{g h:α->PV}(h1:evs cal src W=some vs)(h2:bc k vs=some (xs.map g))(z:xs.length<=10000)
  (J:∀x∈xs,ev cal elt (cb js W (g x))=some (h x)):ev cal (.comp k src js (.cst (.bl true)) elt) W=some (.lst (xs.map h)):=by
 rw[ev,h1,bind_some,h2,bind_some,if_pos (by simpa using z),gN (h:=h) (λx _=>by simp[ev]) J]
 rfl
def jv(cal)(v)(W):ev cal (.cst v) W=some v:=rfl
def cJ(h:ev cal a W=some x)(h':ev cal b W=some y):ev cal (.bin op a b) W=eC op x y:=by
 rw[ev,h,bind_some,h',bind_some]
def gY(h:ev cal a W=some x)(h':ev cal b W=some y):ev cal (.cmp op a b) W=(cy op x y).map .bl:=by
 rw[ev,h,bind_some,h',bind_some]
def cT(h:ev cal a W=some (.int x))(z:0<k):ev cal (.cmp .eq (.bin .mod a (ci k)) (ci j)) W=some (.bl (x % k==j)):=by
 rw[gY (cJ h (jv _ _ _) |>.trans (by rw[qB,if_pos z])) (jv _ _ _),FW,qA]
 rfl
def uC(h:ev cal a W=some (.bl b)):evB cal a W=some b:=by simp_all [evB]
def qG(z:∀i,e≠.bor i)(h:ev cal e W=some v):evA cal [e] W=some [.val v]:=by simp_all [evA]
def sy(z:∀i,e≠.bor i)(h:ev cal e W=some v)(h':cal f [.val v]=some r):ev cal (.call f [e]) W=some r:=ae (qG z h) h'
def dG(h:ev cal a W=some x)(h':ev cal i W=some y):ev cal (.idx a i) W=fo x y:=by
 rw[ev,h,bind_some,h',bind_some]
def jw(h:body x W=.next z):ay body (x::xs) W=ay body xs z:=by rw[ay,h]
noncomputable def sub(a b:List Int):Bool:=a.all λx=>decide (x∈b)
def j8 :sub a b=true ↔ ∀x∈a,x∈b:=by simp[sub]
def kX(n:Nat)(m U:MV)(a b:List Int)(J:(bC (some m)).bind a7=some (a.map .int))(z:(bC (some U)).bind a7=some (b.map .int))(Z:a.length<=4000)(hb:b.length<=4000)(hd:(dd b).length<=60):aa defs (n+1) 11 [m,U]=some (.bl (sub b a)):=by
 rw[ac (d:=kU) rfl rfl];have h:((((dd b).filter λx=>!decide (x∈a)).length:Int)==0)=sub b a:=by
  rw[Kv,JZ,j8];constructor
  .intro h x hx;have h2:(dd b).filter (λx=>!decide (x∈a))=[]:=Mt (by omega);have:=LZ.mp h2 x (jq.mpr hx);simpa using this
  .intro h;have h2:(dd b).filter (λx=>!decide (x∈a))=[]:=LZ.mpr λx hx=>by simpa using h x (jq.mp hx)
   rw[h2];rfl
 cases h1:bC (some m)with
 |none=>rw[h1]at J;cases J
 |some v =>
  cases h2:bC (some U)with
  |none=>rw[h2]at z;cases z
  |some Y =>
   rw[h1]at J;rw[h2]at z;have J:a7 v=some (a.map .int):=J;have z:a7 Y=some (b.map .int):=z;have e:aC .lenSetSub [Y,v]=some (.int ((dd b).filter λx=>!decide (x∈a)).length):=by
    show((a7 Y).bind λxs=>(a8 xs).bind λns=>(a7 v).bind λys=>(a8 ys).bind λms=>if ns.length<=4000/\ms.length<=4000/\(dd ns).length<=60 then some (PV.int ((dd ns).filter λn=>!decide (n∈ms)).length)else none)=_;rw[z,J];simp[bI,Z,hb,hd]
   simp[kU,exs,ex,ev,evs,h1,h2,e,h]
theorem j9(cal)(a):∀(R:LL) g (z:∀t,a7 (g t)=some (t.map .int)) acc s,acc.length+R.flatten.length<=10000 ->
  ∃s',ay (λx l=>exs cal bJ (put l 2 (.val x))) (R.map g) [some a,some (.own (acc.map .int)),s]=.next [some a,some (.own ((acc++R.flatten).map .int)),s']
 | [],g,z,acc,s,_=>⟨s,by simp⟩
 |t::R,g,z,acc,s,h=>by
  rw[JY,ay];rw[flatten_cons,J0]at h;have h2:acc.length+t.length<=10000:=by omega
  have e:exs cal bJ (put [some a,some (.own (acc.map .int)),s] 2 (.val (g t)))=.next [some a,some (.own ((acc++t).map .int)),sv (g t)]:=by
   simp[bJ,exs,ex,ev,z,h2]
  rw[e];obtain⟨s',J⟩:=j9 cal a R g z (acc++t) (sv _) (by rw[J0];omega);exact⟨s',by rw[flatten_cons,<- KZ];exact J⟩
def kY(n)(m)(ho:∀xs,m≠.own xs)(R:LL)(g)(U:∀t,a7 (g t)=some (t.map .int))(z:(bC (some m)).bind a7=some (R.map g))(Y:R.flatten.length<=10000):aa defs (n+1) 0 [m]=some (ofL R.flatten):=by
 rw[ac rfl rfl];obtain⟨s',e⟩:=j9 (aa defs n) m R g U [] none (by simpa using Y);simp only[map_nil]at e;cases J:bC _ with
 |none=>rw[J]at z;cases z
 |some v =>
  rw[J]at z;have z:a7 v=some _:=z;cases m<;>first|exact absurd rfl (ho _)|simp[gR,exs,ex,ev,evs,bv,J,z,e,aP,-map_flatten]
theorem iV:∀l,(dd l).length<=l.length
 | []=>pb _
 |x::r=>by
  have:=iV r;rw[dd]
  grind
theorem j_:∀l,(dd l).length=l.length ↔ l.Nodup
 | []=>by simp[dd]
 |x::r=>by
  have h:=iV r;have ih:=j_ r;rw[dd,Kt,<- ih];by_cases q:x∈dd r
  .rw[if_pos q,length_cons];exact⟨λz=>by omega,λz=>absurd (jq.mp q) z.1⟩
  .rw[if_neg q,length_cons,length_cons];exact⟨λz=>⟨λw=>q (jq.mpr w),by omega⟩,λz=>by omega⟩
def At(n:Nat)(l:List Int)(z:l.length<=4000):aa defs (n+1) 1 [.val (ofL l)]=some (.bl (decide l.Nodup)):=by
 rw[ac (d:=iC) rfl rfl];have e:aC .lenSet [ofL l]=some (.int (dd l).length):=by
  show((a7 (ofL l)).bind λxs=>(a8 xs).bind λns=>if ns.length<=4000 then some (PV.int (dd ns).length)else none)=_;rw[jY,bind_some,bI,bind_some,if_pos z]
 have h:(((dd l).length:Int)==(l.length:Int))=decide l.Nodup:=by
  rw[Kv,JZ,KL,<- j_];omega
 simp[iC,exs,ex,ev,evs,e,h]
def OkP(R:LL):Prop:=∀t∈R,∃x y,t=[x,y]/\(0<=x/\x<=59)/\0<=y/\y<=59
def CS(h:t.length<=2):(dd t).length<=60:=uw (iV t) (by omega)
def qH{R:LL}(h:OkP R):∀t∈R,t.length=2:=λt z=>by obtain⟨x,y,rfl,_⟩:=h t z;rfl
theorem DA:∀{R},OkP R->R.flatten.length=2*R.length
 | [],_=>rfl
 |t::R,h=>by
  rw[flatten_cons,J0,qH h t (.head _),DA λu z=>h u (.tail _ z),length_cons];omega
def uD(n:Nat)(s:List Int)(v:PV)(R:LL)(hv:a7 v=some (R.map ofS))(z:OkP R)(Y:R.length<=60)(hs:s.length<=4000):aa defs (n+2) 15 [.val (ofS s),.val v]=some (.bl (R.any λt=>sub t s)):=by
 rw[ac (d:=j4) rfl rfl];have U:ev (aa defs (n+1)) (.comp .seq [.bor 1] [0] (.cst (.bl true)) (.call 11 [.bor 1,.bor 0])) [sv (ofS s),sv v]=some (.lst (R.map λt=>.bl (sub t s))):=by
  refine cn (g:=ofS) (vs:=[v]) (by simp[evs,ev]) hv (by omega) λt J=>?_
  refine ae (vs:=[.val (ofS s),.val (ofS t)]) (by simp[evA,cb]) (kX n _ _ s t rfl rfl hs (by have:=qH z t J;omega) (CS (by have:=qH z t J;omega)))
 show bj (exs _ [.ret _] _)=_;rw[aq,cZ (v:=.bl (R.any λt=>sub t s))]
 .rfl
 .show ev (aa defs (n+1)) (.blt .any [_]) [sv (ofS s),sv v]=_;rw[aQ U,qC,show(R.map λt=>PV.bl (sub t s))=(R.map λt=>sub t s).map PV.bl from by rw[J3];rfl,dE];simp
noncomputable def v3(R A:LL):Bool:=decide R.flatten.Nodup&&A.all λs=>R.any λt=>sub t s
def qI(n)(v)(R A)(hv:a7 v=some (R.map ofS))(J:OkP R)(Y:R.length<=60)(Z:∀t∈A,b_ t)(hA:A.length<=60):aa defs (n+3) 16 [.val v,.val (ofR A)]=some (.bl (v3 R A)):=by
 rw[ac (d:=j5) rfl rfl];have hf:=DA J;have em:=kY (n+1) (.val v) (λ_ z=>by cases z) R ofS (λ_=>rfl) (by simpa using hv) (by omega);simp only[Nat.add_assoc,Nat.reduceAdd]at em;have U:=At (n+1) R.flatten (by omega);simp only[Nat.add_assoc,Nat.reduceAdd]at U;show bj (exs (aa defs (n+2)) (_::[_]) [sv v,sv (ofR A)])=_;have e1:ev (aa defs (n+2)) (.call 1 [(.call 0 [.bor 0])]) [sv v,sv (ofR A)]=some (.bl (decide R.flatten.Nodup)):=
  ae (vs:=[.val (ofL R.flatten)]) (by
   have a1:ev (aa defs (n+2)) (.call 0 [.bor 0]) [sv v,sv (ofR A)]=some (ofL R.flatten):=ae (vs:=[.val v]) (by simp[evA]) em;simp only[evA,a1]
   rfl) U
 have ec:ev (aa defs (n+2)) (.comp .seq [.bor 1] [0] (.cst (.bl true)) (.call 15 [.bor 0,.bor 1])) [sv v,sv (ofR A)]=some (.lst (A.map λs=>.bl (R.any λt=>sub t s))):=by
  refine cn (g:=ofS) (vs:=[ofR A]) (by simp[evs,ev]) rfl (by omega) λs hs=>?_
  exact ae (vs:=[.val (ofS s),.val v]) (by simp[evA,cb]) (uD n s v R hv J Y (by have:=aJ (Z s hs);omega))
 have e2:ev (aa defs (n+2)) (.blt .all [(.comp .seq [.bor 1] [0] (.cst (.bl true)) (.call 15 [.bor 0,.bor 1]))]) [sv v,sv (ofR A)]=some (.bl (A.all λs=>R.any λt=>sub t s)):=by
  rw[aQ ec,vT,show(A.map λs=>PV.bl (R.any λt=>sub t s))=(A.map λs=>R.any λt=>sub t s).map PV.bl from by rw[J3];rfl,dE];simp
 rw[aq];have e3:ex (aa defs (n+2)) (.ite (.not (.call 1 [(.call 0 [.bor 0])])) [.ret (.cst (.bl false))] []) [sv v,sv (ofR A)]=if R.flatten.Nodup then .next [sv v,sv (ofR A)]else .ret (.bl false):=by
  rw[ex,evB,ev,e1];by_cases q:R.flatten.Nodup
  .simp[q,exs]
  .simp[q,exs,ex,ev]
 rw[e3];unfold v3;by_cases q:R.flatten.Nodup
 .rw[if_pos q,aU,aq,cZ e2,J9 q,Ng]
  rfl
 .simp_all
def pC (v:PV):Prop:=v=.tup [.str "bare"]\/v=.tup [.str "whole"]\/v=.tup [.str "weight"]\/∃P,OkP P/\P.length<=60/\v=.tup [.str "pairs",ofR P]
def Au(n)(a b):aa defs (n+1) 41 [.val (ofS a),.val (ofS b)]=some (.bl (sub a b)):=by
 rw[ac (d:=eI) rfl rfl];have key:=nD (g:=PV.int) (xs:=a) (body:=λx l=>exs (aa defs n) dv (put l 2 (.val x))) (I:=λW=>∃kk,W=[sv (ofS a),sv (ofS b),kk]) (p:=λx=>!decide (x∈b)) (r:=λ_=>.bl false)
  (W:=[sv (ofS a),sv (ofS b),none]) ⟨_,rfl⟩ (by
   rintro x hx W ⟨kk,rfl⟩;constructor
   .intro h;simp at h;simp[dv,exs,ex,ev,evB,bN,h]
   .intro h;simp at h;exact⟨[sv (ofS a),sv (ofS b),sv (.int x)],⟨_,rfl⟩,by simp[dv,exs,ex,ev,evs,evB,bN,h]⟩)
 cases hf:a.find? (λx=>!decide (x∈b))with
 |some x =>
  have e:=key.1 x hf;have hx:=find?_some hf;have z:=mem_of_find?_eq_some hf;have:sub a b=false:=by
   cases hs:sub a b<;>first|rfl|simp[j8.mp hs x z]at hx
  simp[eI,exs,ex,ev,evs,bv,e,this]
 |none =>
  obtain⟨l,⟨kk,rfl⟩,e⟩:=key.2 hf;have:=j8.mpr λx hx=>by
   have:=find?_eq_none.mp hf x hx;simpa using this
  simp[eI,exs,ex,ev,evs,bv,e,this,aP]
noncomputable def wgt(s:List Int):Int:=2 ^ (60-s.length)
def sA:∀n,n<=60->(1152921504606846976:Int) / 2 ^ n=2 ^ (60-n):=by decide +kernel
def v4(n)(s)(z:s.length<=60):aa defs (n+1) 19 [.val (ofS s)]=some (.int (wgt s)):=by
 rw[ac rfl rfl];have e:eC .shr (.int 1152921504606846976) (.int (s.length:Int))=some (.int (wgt s)):=by
  show(if 0<=(s.length:Int)then some _ else none)=_;rw[if_pos (by omega),Int.toNat_natCast,sA _ z]
  rfl
 simp[iD,exs,ex,ev,evs,e]
def iJ  [DecidableEq α] (d:List (α×Sc)) (f:α->Int):Prop:=(∀k,cH d k=none->f k=0)/\∀k s,cH d k=some s->s=.int (f k)
def h_{α:Type}(d:List (α×Sc))(P:α->Prop):Prop:=(d.map (·.1)).Nodup/\∀k,k∈d.map (·.1) ↔ P k
section
variable{α:Type} [DecidableEq α]
def Av(d)(k:α)(v):(cK d k v).map (·.1)=if k∈d.map (·.1)then d.map (·.1)else d.map (·.1)++[k]:=by
 have e:(d.any λp=>decide (p.1=k))=decide (k∈d.map (·.1)):=by
  rw[Kv,Ka,KL,mem_map]
  simp_all
 unfold cK;rw[e];by_cases h:k∈d.map (·.1)
 .rw[if_pos (J9 h),if_pos h,J3];refine La λp _=>?_
  show(if p.1=k then _ else p).1=p.1;split<;>rfl
 .rw[if_neg (by simpa using h),if_neg h,K8]
  rfl
def v5(d)(k j:α)(v):cH (cK d k v) j=if j=k then some v else cH d j:=by
 have gen:∀d,(d.any λp=>decide (p.1=k))=true->cH (d.map λp=>if p.1=k then(p.1,v)else p) j=if j=k then some v else cH d j:=by
  intro d
  induction d with
  |nil=>intro h;cases h
  |cons p d ih =>
   intro h;by_cases U:p.1=k
   .by_cases J:j=k
    .subst J;simp[cH,U]
    .rw[if_neg J];have:¬ p.1=j:=λz=>J (by rw[<- z,U])
     unfold cH;rw[JY,if_pos U,Lx (by simpa using this),Lx (by simpa using this)];by_cases Y:(d.any λp=>decide (p.1=k))=true
     .have:=ih Y;rw[if_neg J]at this;exact this
     .have e:(d.map λp=>if p.1=k then(p.1,v)else p)=d:=by
       conv=>rhs;rw[<- List.map_id d]
       refine La λq Z=>?_
       rw[if_neg λz=>Y (Ka.mpr ⟨q,Z,J9 z⟩)]
       rfl
      rw[e]
   .have Y:(d.any λp=>decide (p.1=k))=true:=by simpa[U]using h
    have ih:=ih Y;unfold cH at ih ⊢;rw[JY,if_neg U];by_cases J:p.1=j
    .have:¬ j=k:=λz=>U (J.trans z)
     rw[MA (by simpa using J),MA (by simpa using J),if_neg this]
    .rw[Lx (by simpa using J),Lx (by simpa using J)];exact ih
 unfold cK;by_cases h:(d.any λp=>decide (p.1=k))=true
 .rw[if_pos h];exact gen d h
 .rw[if_neg h];have no:∀p∈d,¬ p.1=k:=λp U z=>h (Ka.mpr ⟨p,U,J9 z⟩)
  unfold cH;rw[find?_append];by_cases J:j=k
  .subst J;have:d.find? (λp=>decide (p.1=j))=none:=find?_eq_none.mpr λp U=>by simpa using no p U
   rw[this,if_pos rfl];simp
  .rw[if_neg J];have:¬ k=j:=λz=>J z.symm
   cases d.find? (λp=>decide (p.1=j))<;>first|rfl|simp[this]
def put_len(d)(k:α)(v):(cK d k v).length<=d.length+1:=by
 unfold cK;split
 .simp_all
 .simp_all
def sB(h:iJ d f)(k:α):((cH d k).getD (.int 0)).pv=.int (f k):=by
 cases e:cH d k with
 |none=>rw[h.1 k e];rfl
 |some s=>rw[h.2 k s e];rfl
def Aw(h:iJ d f)(k:α)(w):iJ (cK d k (.int (f k+w))) (λj=>if j=k then f j+w else f j):=by
 refine⟨λj e=>?_,λj s e=>?_⟩
 .rw[v5]at e;by_cases z:j=k
  .simp_all
  .rw[if_neg z]at e;dsimp only;rw[if_neg z];exact h.1 j e
 .rw[v5]at e;by_cases z:j=k
  .simp_all
  .rw[if_neg z]at e;dsimp only;rw[if_neg z];exact h.2 j s e
def sC:iJ ([]:List (α×Sc)) λ_=>0:=⟨λ_ _=>rfl,λk s z=>by cases z⟩
def sD:h_ ([]:List (α×Sc)) λ_=>False:=⟨Li,λk=>by simp⟩
def Ax(h:h_ d P)(k:α)(v):h_ (cK d k v) (λj=>P j\/j=k):=by
 unfold h_;rw[Av];by_cases J:k∈d.map (·.1)
 .rw[if_pos J];refine⟨h.1,λj=>?_⟩;rw[h.2 j];refine⟨.inl,λz=>z.elim id λe=>?_⟩;rw[e];exact(h.2 k).mp J
 .rw[if_neg J];refine⟨LH.mpr ⟨h.1,by simp,λa U b Y=>by rw[J8.mp Y];exact λe=>J (e▸U)⟩,λj=>?_⟩;rw[Ki,J8,h.2 j]
theorem F4{body:PV->Rho->R}{I:List (α×Sc)->Rho->Prop}{w:Int}:∀{xs:List α},(∀x∈xs,∀d W (f:α->Int),I d W->iJ d f->d.length<9500->∃l,I (cK d x (.int (f x+w))) l/\body (g x) W=.next l) ->
  xs.Nodup->∀{d}{W}{f}{P},I d W->iJ d f->h_ d P->d.length+xs.length<=9000 ->
  ∃d' l,ay body (xs.map g) W=.next l/\I d' l/\iJ d' (λj=>f j+if j∈xs then w else 0)/\h_ d' (λk=>P k\/k∈xs)/\d'.length<=d.length+xs.length
 | [],_,_,d,W,f,P,J,hd,U,_=>⟨d,W,rfl,J,by simpa using hd,by simpa using U,by simp⟩
 |x::xs,hb,Y,d,W,f,P,J,hd,U,hl=>by
  refine ax λZq kq=>?_
  rw[length_cons]at hl;obtain⟨hx,Y⟩:=Kt.mp Y;obtain⟨a2,Z,e1⟩:=hb x (.head _) d W f J hd (by omega);have a4:=put_len d x (.int (f x+w));obtain⟨d',l,e2,ao,ar,z,a6⟩:=F4 (xs:=xs) (λy hy=>hb y (.tail _ hy)) Y Z (Aw hd x w) (Ax U x _) (by omega);refine kq ?_;rw[JY,ay,e1];refine⟨d',l,e2,ao,?_,?_,by rw[length_cons];omega⟩
  .have ef:(λj=>(if j=x then f j+w else f j)+if j∈xs then w else 0)=λj=>f j+if j∈x::xs then w else 0:=by
    funext j
    by_cases hj:j=x
    .simp_all
    .simp[hj]
   rw[<- ef];exact ar
  .refine⟨z.1,λk=>?_⟩;rw[z.2 k];simp[wh,_root_.or_assoc]
theorem IF{J:Type}{ge:J->PV}{m:J->List α}{w:J->Int}{body:PV->Rho->R}{I:List (α×Sc)->Rho->Prop}{top:Nat}:∀{R:List J},(∀s∈R,∀d W (f:α->Int) (P:α->Prop),I d W->iJ d f->h_ d P->d.length<=8000 ->
   ∃d' l,body (ge s) W=.next l/\I d' l/\iJ d' (λj=>f j+if j∈m s then w s else 0)/\h_ d' (λk=>P k\/k∈m s)/\d'.length<=d.length+top) ->
  ∀{d}{W}{f}{P},I d W->iJ d f->h_ d P->d.length+top*R.length<=8000 ->
  ∃d' l,ay body (R.map ge) W=.next l/\I d' l/\iJ d' (λj=>f j+(R.map λs=>if j∈m s then w s else 0).sum)/\h_ d' (λk=>P k\/∃s∈R,k∈m s)/\d'.length<=d.length+top*R.length
 | [],_,d,W,f,P,U,hd,Y,_=>⟨d,W,rfl,U,by simpa using hd,by simpa using Y,by simp⟩
 |s::R,hb,d,W,f,P,U,hd,Y,hl=>by
  refine ax λZq kq=>?_
  rw[length_cons,Nat.mul_succ]at hl;obtain⟨d1,a3,e1,Z,ao,ar,a5⟩:=hb s (.head _) d W f P U hd Y (by omega);obtain⟨d',l,e2,aO,bA,z,bB⟩:=IF (R:=R) (λy hy=>hb y (.tail _ hy)) Z ao ar (by omega);refine kq ?_;rw[JY,ay,e1];refine⟨d',l,e2,aO,?_,⟨z.1,λk=>?_⟩,by rw[length_cons,Nat.mul_succ];omega⟩
  .grind
  .rw[z.2 k];simp only[wh,exists_eq_or_imp,_root_.or_assoc]
end
noncomputable def aI(R:LL)(h:Int):Int:=(R.map λs=>if h∈s then wgt s else 0).sum
def sE(n)(R)(g:aF R):∃d,aa defs (n+2) 21 [.val (ofR R)]=some (.dI (.k d))/\iJ d (aI R)/\h_ d (λk=>∃s∈R,k∈s)/\d.length<=3600:=by
 refine ax λZq kq=>?_
 have hl:=g.2.2;obtain⟨d,l,e,⟨x,y,rfl⟩,hd,hp,U⟩:=IF (R:=R) (ge:=ofS) (m:=id) (w:=wgt) (top:=60) (body:=λv l=>exs (aa defs (n+1)) pA (put l 2 (.val v))) (I:=λd W=>∃x y,W=[sv (ofR R),some (.ownD (.k d)),x,y]) (d:=[]) (W:=[sv (ofR R),some (.ownD (.k [])),none,none]) (f:=λ_=>0) (P:=λ_=>False)
  (by
   rintro s hs d W f P ⟨x,y,rfl⟩ hd hp hl;have gs:=g.1 s hs;have Y:=aJ gs;have ew:=v4 n s Y;obtain⟨d',l,e,⟨y',rfl⟩,r⟩:=F4 (xs:=s) (g:=.int) (w:=wgt s) (body:=λv l=>exs (aa defs (n+1)) pz (put l 3 (.val v))) (I:=λd W=>∃y,W=[sv (ofR R),some (.ownD (.k d)),sv (ofS s),y]) (d:=d) (W:=[sv (ofR R),some (.ownD (.k d)),sv (ofS s),y])
    (by
     rintro z _ d W f ⟨y,rfl⟩ hd hl;have eg:ev (aa defs (n+1)) (.dget (.bor 1) (.bor 3) (ci 0)) [sv (ofR R),some (.ownD (.k d)),sv (ofS s),sv (.int z)]=some (.int (f z)):=by
      rw[<- sB hd z];simp[ev]
     have es:ev (aa defs (n+1)) (.bin .add (.dget (.bor 1) (.bor 3) (ci 0)) (.call 19 [.bor 2])) [sv (ofR R),some (.ownD (.k d)),sv (ofS s),sv (.int z)]=some (.int (f z+wgt s)):=by
      rw[ev,eg,ae (vs:=[.val (ofS s)]) (by simp[evA]) ew]
      rfl
     have Z:d.length<10000:=by omega
     refine⟨_,⟨sv (.int z),rfl⟩,?_⟩;show exs (aa defs (n+1)) [_] [sv (ofR R),some (.ownD (.k d)),sv (ofS s),sv (.int z)]=_;rw[aq,ex,es];simp[ev,Z,exs])
    (iz gs.1) ⟨y,rfl⟩ hd hp (by omega)
   refine⟨d',_,?_,⟨sv (ofS s),y',rfl⟩,r.1,r.2.1,by have:=r.2.2;omega⟩;have J:(evs (aa defs (n+1)) [.bor 2] [sv (ofR R),some (.ownD (.k d)),sv (ofS s),y]).bind (bc .seq)=some (s.map .int):=by simp[evs,ev]
   show exs (aa defs (n+1)) [_] [sv (ofR R),some (.ownD (.k d)),sv (ofS s),y]=_;rw[aq,eJ J,show bv [.bor 2] [sv (ofR R),some (.ownD (.k d)),sv (ofS s),y]=[sv (ofR R),some (.ownD (.k d)),sv (ofS s),y]from rfl,e,de,aU];simp[exs,aP])
  ⟨none,none,rfl⟩ sC sD (by simp;omega)
 refine kq ?_;refine⟨d,?_,?_,?_,by simp at U;omega⟩
 .rw[ac (d:=vW) rfl rfl];have J:(evs (aa defs (n+1)) [.bor 0] [sv (ofR R),some (.ownD (.k [])),none,none]).bind (bc .seq)=some (R.map ofS):=by simp[evs,ev]
  show bj (exs (aa defs (n+1)) (_::_::[_]) [sv (ofR R),none,none,none])=_;simp only[aq];rw[show ex (aa defs (n+1)) (.newD false 1) [sv (ofR R),none,none,none]=.next [sv (ofR R),some (.ownD (.k [])),none,none]from by rw[ex];rfl,aU,eJ J,show bv [.bor 0] [sv (ofR R),some (.ownD (.k [])),none,none]=[sv (ofR R),some (.ownD (.k [])),none,none]from rfl,e,de,aU];simp[exs,ex,aP]
 .have ef:(λj=>(0:Int)+(R.map λs=>if j∈id s then wgt s else 0).sum)=aI R:=by funext j;rw[Int.zero_add];rfl
  rw[<- ef];exact hd
 .simp_all
def Ay  [DecidableEq α] {P:α->Prop} (hd:iJ d f) (J:h_ d P):∃M ns,(d.map (·.2)).map Sc.pv=ns.map .int/\ns.length=d.length/\ze (0::ns)=some M/\0<=M/\(M=0\/∃k,P k/\f k=M)/\∀k,P k->f k<=M:=by
 have U:∀p∈d,p.2=.int (f p.1):=λp z=>by
  have e:cH d p.1=some p.2:=by
   unfold cH;have gen:∀(l:List (α×Sc)),(l.map (·.1)).Nodup->p∈l->l.find? (λq=>decide (q.1=p.1))=some p:=by
    intro l
    induction l with
    |nil=>intro _ h;cases h
    |cons q l ih =>
     intro Y h;rw[JY,Kt]at Y;rcases wh.mp h with rfl|h
     .exact MA (J9 rfl)
     .rw[Lx (by
       simp only[KL];intro e;exact Y.1 (mem_map.mpr ⟨p,h,e.symm⟩))]
      exact ih Y.2 h
   rw[gen d J.1 z]
   rfl
  exact hd.2 p.1 p.2 e
 have Z:ze (0::d.map λp=>f p.1)=some ((d.map λp=>f p.1).foldl (λa b=>if a<b then b else a) 0):=rfl;obtain⟨h1,h2⟩:=pg Z;refine⟨_,d.map λp=>f p.1,?_,by simp,Z,h2 0 (.head _),?_,λk hk=>?_⟩
 .rw[J3,J3];refine La λp z=>?_
  show(p.2).pv=_;rw[U p z]
  rfl
 .rcases wh.mp h1 with h|h
  .exact .inl h
  .obtain⟨p,z,e⟩:=mem_map.mp h;exact .inr ⟨p.1,(J.2 p.1).mp (mem_map.mpr ⟨p,z,rfl⟩),e⟩
 .obtain⟨p,z,rfl⟩:=mem_map.mp ((J.2 k).mpr hk);exact h2 _ (.tail _ (mem_map.mpr ⟨p,z,rfl⟩))
def Top(R:LL)(M:Int):Prop:=0<=M/\(M=0\/∃k,(∃s∈R,k∈s)/\aI R k=M)/\∀k,(∃s∈R,k∈s)->aI R k<=M
def uE(n)(R)(g:aF R):∃M,aa defs (n+3) 22 [.val (ofR R)]=some (.int M)/\Top R M:=by
 refine ax λZq U=>?_
 obtain⟨d,e,hd,Y,Z⟩:=sE n R g;obtain⟨M,ns,e1,ar,e2,h0,h1,h2⟩:=Ay hd Y;refine U ?_;refine⟨M,?_,h0,h1,h2⟩;rw[ac rfl rfl];have z:ev (aa defs (n+2)) (.blt .valuesOf [(.call 21 [.bor 0])]) [sv (ofR R)]=some (.lst (ns.map .int)):=by
  rw[aQ (ae (vs:=[.val _]) (by simp[evA]) e),nt,if_pos (by unfold jL dSc;rw[p0,p0];omega)];show some (PV.lst ((d.map _).map Sc.pv))=_;rw[e1]
 have J:ev (aa defs (n+2)) (.bin .add (.lst [(ci 0)]) (.blt .valuesOf [(.call 21 [.bor 0])])) [sv (ofR R)]=some (.lst ((0::ns).map .int)):=by
  rw[ev,z];simp[ev,evs];omega
 show bj (exs (aa defs _) [_] [sv _])=_;rw[aq,cZ]
 .rfl
 .rw[aQ J,sn,bI,bind_some,e2]
  rfl
def Az{R:LL}(h:Top R M)(h':Top R N):M=N:=by
 have key:∀{M N},Top R M->Top R N->M<=N:=λ{M N} h h'=>by
  rcases h.2.1 with e|⟨k,z,e⟩
  .rw[e];exact h'.1
  .rw[<- e];exact h'.2.2 k z
 grind
def sF(n)(R)(g:∀t∈R,b_ t)(z:R.length<=10000):aa defs (n+2) 20 [.val (ofR R)]=some (.int (R.map wgt).sum):=by
 rw[ac (d:=sx) rfl rfl];have J:ev (aa defs (n+1)) (.comp .seq [.bor 0] [] (.cst (.bl true)) (.call 19 [.bor 0])) [sv (ofR R)]=some (.lst ((R.map wgt).map .int)):=by
  refine(cn (h:=λs=>.int _) (vs:=[ofR R]) (by simp[evs,ev]) rfl z λs hs=>?_).trans (by rw[J3];rfl);exact ae (vs:=[.val _]) (by simp[evA,cb]) (v4 n s (aJ (g s hs)))
 show bj (exs (aa defs _) [_] [sv _])=_;rw[aq,cZ]
 .rfl
 .rw[aQ J];show((a8 _).map λns=>PV.int ns.sum)=_;rw[bI]
  rfl
noncomputable def ib:List Int->LL
 | []=>[]
 |x::s=>s.map (λy=>[x,y])++ib s
theorem nE:∀s,(ib s).length<=s.length*s.length
 | []=>pb _
 |x::s=>by
  have:=nE s;rw[ib,J0,p0,length_cons,Nat.mul_succ,Nat.succ_mul];omega
theorem gr :∀{s},s.Pairwise (· < ·)->(t∈ib s ↔ ∃a b,t=[a,b]/\a<b/\a∈s/\b∈s)
 | [],_=>⟨λh=>(by cases h),λ⟨_,_,_,_,h,_⟩=>by cases h⟩
 |x::s,hs=>by
  obtain⟨h1,h2⟩:=K2.mp hs;rw[ib,Ki,gr h2,mem_map];constructor
  .rintro (⟨y,z,rfl⟩|⟨a,b,e,q,J,U⟩)
   .exact⟨x,y,rfl,h1 y z,.head _,.tail _ z⟩
   .exact⟨a,b,e,q,.tail _ J,.tail _ U⟩
  .rintro ⟨a,b,e,q,J,U⟩
   grind
theorem nF:∀{s},s.Pairwise (· < ·)->(ib s).Nodup
 | [],_=>Li
 |x::s,hs=>by
  obtain⟨h1,h2⟩:=K2.mp hs;refine LH.mpr ⟨?_,nF h2,λt z u J e=>?_⟩
  .unfold Nodup;rw[pairwise_map];exact h2.imp λ{a b} q e=>by cases e;omega
  .obtain⟨y,U,rfl⟩:=mem_map.mp z;obtain⟨a,b,rfl,q,Y,Z⟩:=(gr h2).mp J
   grind
theorem pD(cal:Cal)(s:List Int):∀(r p:List Int) (A:LL) (J U:Option MV),s=p++r->A.length+(ib r).length<=10000->s.length<=4000 ->
  ∃Y Z,ay (λx l=>cg (cM [2,3] x l) λz=>exs cal iE z) (bz p.length (r.map .int)) [sv (ofS s),some (.own (A.map ofS)),J,U]=.next [sv (ofS s),some (.own ((A++ib r).map ofS)),Y,Z]
 | [],p,A,J,U,_,_,_=>⟨J,U,by simp[bz,ib]⟩
 |x::r,p,A,J,U,hs,hl,h3=>by
  rw[ib,J0,p0]at hl;have hp:p.length<s.length:=by rw[hs,J0,length_cons];omega
  have a3:s.length=p.length+(r.length+1):=by rw[hs,J0,length_cons]
  have ec:fY s.length 0 (some ((p.length:Int)+1))=p.length+1:=by
   show(if (p.length:Int)+1<0 then((p.length:Int)+1+(s.length:Int)).toNat else min ((p.length:Int)+1).toNat s.length)=_;rw[if_neg (by omega)];omega
  have ao:iQ (ofS s) (some ((p.length:Int)+1)) none=some (ofS r):=by
   show some (PV.tup (cut (s.map .int) (some ((p.length:Int)+1)) none))=_;have e1:cut (s.map PV.int) (some ((p.length:Int)+1)) none=r.map .int:=by
    unfold cut;rw[p0,ec,show fY s.length s.length none=s.length from rfl,hs,K8,JY,drop_append,drop_eq_nil_of_le (by rw[p0];omega),nil_append,p0,show p.length+1-p.length=1 by omega,drop_one,tail_cons,Nj (by rw[p0,J0,length_cons];omega)]
   rw[e1]
  have ar:ev cal (.comp .seq [(.slice (.bor 0) (.bin .add (.bor 2) (ci 1)) (.cst .non))] [3] (.cst (.bl true)) (.tup [.var 1,.var 0])) [sv (ofS s),some (.own (A.map ofS)),sv (.int (p.length:Int)),sv (.int x)]=some (.lst ((r.map λy=>[x,y]).map ofS)):=by
   refine(cn (g:=.int) (h:=λy=>ofS [x,y]) (vs:=[ofS r]) ?_ rfl (by omega) λy _=>?_).trans (by rw[J3];rfl)
   .simp[evs,ev,bnd,ao]
   .simp[ev,evs,cb]
  have e:cg (cM [2,3] (.tup [.int (p.length:Nat),.int x]) [sv (ofS s),some (.own (A.map ofS)),J,U]) (λz=>exs cal iE z)=.next [sv (ofS s),some (.own ((A++r.map λy=>[x,y]).map ofS)),sv (.int (p.length:Int)),sv (.int x)]:=by
   show exs cal [_] [sv (ofS s),some (.own (A.map ofS)),sv (.int (p.length:Int)),sv (.int x)]=_;have aO:A.length+r.length<=10000:=by omega
   rw[aq,ex,ar,gQ];simp[exs,aO]
  rw[JY,bz,ay,e];obtain⟨Y,Z,e2⟩:=pD cal s r (p++[x]) (A++r.map λy=>[x,y]) (sv (.int (p.length:Int))) (sv (.int x)) (by rw[hs,KZ];rfl) (by rw[J0,p0];omega) h3;rw[J0,length_singleton]at e2;refine⟨Y,Z,?_⟩;rw[ib,<- KZ];exact e2
def xB(n)(s)(J:s.length<=60):aa defs (n+1) 23 [.val (ofS s)]=some (.lst ((ib s).map ofS)):=by
 have h1:=nE s;have h2:=Nat.mul_le_mul J J;obtain⟨U,Y,e⟩:=pD _ s s [] [] none none rfl (by simp;omega) (by omega);have z:(evs (aa defs n) [.bor 0] [sv (ofS s),some (.own []),none,none]).bind (bc .enm)=some (bz 0 (s.map .int)):=by simp[evs,ev,bc]
 show bj (exs _ (_::_::[_]) [sv _,none,none,none])=_;simp[aq];rw[dg (xs:=[]) (by simp[ev,evs]),aU];simp[cz,cD];rw[qF z,show bv [.bor 0] [sv _,some _,none,none]=[sv _,some _,none,none]from rfl];rw[length_nil,map_nil,nil_append]at e;rw[e,de,aU];simp[ex,aP]
section
variable{α:Type} [DecidableEq α]
theorem DB{U:Type}{ge:U->PV}{m:U->List α}{w:U->Int}{body:PV->Rho->R}{I:List (α×Sc)->Rho->Prop}{B:Nat}{Q:α->Prop}(Z:∀d P,h_ d P->(∀k,P k->Q k)->d.length<=B):∀{R:List U},(∀s∈R,∀d W (f:α->Int) (P:α->Prop),I d W->iJ d f->h_ d P->d.length<=B ->
   ∃d' l,body (ge s) W=.next l/\I d' l/\iJ d' (λj=>f j+if j∈m s then w s else 0)/\h_ d' (λk=>P k\/k∈m s))->(∀s∈R,∀k∈m s,Q k) ->
  ∀{d}{W}{f}{P},I d W->iJ d f->h_ d P->(∀k,P k->Q k) ->
  ∃d' l,ay body (R.map ge) W=.next l/\I d' l/\iJ d' (λj=>f j+(R.map λs=>if j∈m s then w s else 0).sum)/\h_ d' (λk=>P k\/∃s∈R,k∈m s)/\d'.length<=B
 | [],_,_,d,W,f,P,hI,hd,z,Y=>⟨d,W,rfl,hI,by simpa using hd,by simpa using z,Z d P z Y⟩
 |s::R,hb,hm,d,W,f,P,hI,hd,z,Y=>by
  refine ax λZq kq=>?_
  obtain⟨d1,a6,e1,ar,aO,a0⟩:=hb s (.head _) d W f P hI hd z (Z d P z Y);obtain⟨d',l,e2,a1,b0,J,a2⟩:=DB Z (R:=R) (λy hy=>hb y (.tail _ hy)) (λy hy=>hm y (.tail _ hy)) ar aO a0 (λk hk=>hk.elim (Y k) (hm s (.head _) k));refine kq ?_;rw[JY,ay,e1];refine⟨d',l,e2,a1,?_,⟨J.1,λk=>?_⟩,a2⟩
  .grind
  .rw[J.2 k];simp[wh,exists_eq_or_imp,_root_.or_assoc]
end
def AA(t:List Int):Prop:=∃a b,t=[a,b]/\0<=a/\a<=59/\0<=b/\b<=59
def AB(d)(P)(J:h_ d P)(U:∀k,P k->AA k):d.length<=3600:=by
 have h1:∀t∈d.map _,AA t:=λt z=>U t ((J.2 t).mp z)
 have h2:((d.map (·.1)).map λt=>t.getD 0 0*60+t.getD 1 0).Nodup:=by
  unfold Nodup;rw[pairwise_map];refine J.1.imp_of_mem λ{t u} z Y q e=>?_
  obtain⟨a,b,rfl,_⟩:=h1 t z;obtain⟨x,y,rfl,_⟩:=h1 u Y;have e:a*60+b=x*60+y:=e;have e1:a=x:=by omega
  simp_all
 have Z:=qD 3600 _ h2 λx hx=>by
  obtain⟨t,z,rfl⟩:=mem_map.mp hx;obtain⟨a,b,rfl,_⟩:=h1 t z;show 0<=a*60+b/\a*60+b<_;omega
 simpa using Z
noncomputable def gu(R:LL)(a b:Int):Int:=((R.filter λs=>decide (a∈s)&&decide (b∈s)).length:Int)
def AC{R:LL}(U:∀s∈R,s.Pairwise (· < ·))(J:a<b):(R.map λs=>if [a,b]∈ib s then(1:Int)else 0).sum=gu R a b:=by
 unfold gu
 induction R with
 |nil=>rfl
 |cons s R ih =>
  rw[JY,sum_cons,ih λt Z=>U t (.tail _ Z)];have Y:=gr (t:=[a,b]) (U s (.head _));by_cases q:a∈s/\b∈s
  .rw[if_pos (Y.mpr ⟨a,b,rfl,J,q.1,q.2⟩),K0 (by simpa using q),length_cons];omega
  .rw[if_neg λz=>q (by obtain⟨x,y,e,_,hx,hy⟩:=Y.mp z;cases e;exact⟨hx,hy⟩),KJ (by simpa using q)];omega
def lK(R:LL)(M:Int):Prop:=0<=M/\(M=0\/∃a b,a<b/\(∃s∈R,a∈s/\b∈s)/\gu R a b=M)/\∀a b,a<b->gu R a b<=M
def xC{R:LL}(h:¬ ∃s∈R,a∈s/\b∈s):gu R a b=0:=by
 unfold gu;rw[LZ.mpr]
 .rfl
 .intro s hs q;exact h ⟨s,hs,by simpa using q⟩
def fQ(n)(R)(g:aF R):∃M,aa defs (n+2) 24 [.val (ofR R)]=some (.int M)/\lK R M:=by
 refine ax λZq kq=>?_
 obtain⟨d,l,e,⟨x,y,rfl⟩,hd,hp,a5⟩:=DB (R:=R) (ge:=ofS) (m:=ib) (w:=λ_=>1) (Q:=AA) (B:=3600) AB (body:=λv l=>exs (aa defs (n+1)) g9 (put l 2 (.val v))) (I:=λd W=>∃x y,W=[sv (ofR R),some (.ownD (.t d)),x,y]) (d:=[]) (W:=[sv (ofR R),some (.ownD (.t [])),none,none]) (f:=λ_=>0) (P:=λ_=>False)
  (by
   rintro s hs d W f P ⟨x,y,rfl⟩ hd hp hl;have gs:=g.1 s hs;have Y:=aJ gs;have et:=xB n s Y;have bB:=nE s;have b0:=Nat.mul_le_mul Y Y;obtain⟨d',l,e,⟨y',rfl⟩,r⟩:=F4 (xs:=ib s) (g:=ofS) (w:=1) (body:=λv l=>exs (aa defs (n+1)) g8 (put l 3 (.val v))) (I:=λd W=>∃y,W=[sv (ofR R),some (.ownD (.t d)),sv (ofS s),y]) (d:=d) (W:=[sv (ofR R),some (.ownD (.t d)),sv (ofS s),y])
    (by
     rintro z _ d W f ⟨y,rfl⟩ hd hl;have eg:ev (aa defs (n+1)) (.dget (.bor 1) (.bor 3) (ci 0)) [sv (ofR R),some (.ownD (.t d)),sv (ofS s),sv (ofS z)]=some (.int (f z)):=by
      rw[<- sB hd z];simp[ev]
     have es:ev (aa defs (n+1)) (.bin .add (.dget (.bor 1) (.bor 3) (ci 0)) (ci 1)) [sv (ofR R),some (.ownD (.t d)),sv (ofS s),sv (ofS z)]=some (.int (f z+1)):=by
      rw[ev,eg];simp[ev]
     have a0:d.length<10000:=by omega
     refine⟨_,⟨sv (ofS z),rfl⟩,?_⟩;show exs (aa defs (n+1)) [_] [sv (ofR R),some (.ownD (.t d)),sv (ofS s),sv (ofS z)]=_;rw[aq,ex,es];simp[ev,a0,exs])
    (nF gs.1) ⟨y,rfl⟩ hd hp (by omega)
   refine⟨d',_,?_,⟨sv (ofS s),y',rfl⟩,r.1,r.2.1⟩;have J:(evs (aa defs (n+1)) [.call 23 [.bor 2]] [sv (ofR R),some (.ownD (.t d)),sv (ofS s),y]).bind (bc .seq)=some ((ib s).map ofS):=by
    rw[evs,ae (vs:=[.val (ofS s)]) (by simp[evA]) et];simp[evs]
   show exs (aa defs (n+1)) [_] [sv (ofR R),some (.ownD (.t d)),sv (ofS s),y]=_;rw[aq,eJ J,show ∀W,bv [.call 23 [.bor 2]] W=W from λ_=>rfl,e,de,aU];simp[exs,aP])
  (λs hs k Z=>by
   obtain⟨a,b,rfl,_,ha,hb⟩:=(gr (g.1 s hs).1).mp Z;have:=(g.1 s hs).2 a ha;have:=(g.1 s hs).2 b hb;exact⟨a,b,rfl,by omega,by omega,by omega,by omega⟩)
  ⟨none,none,rfl⟩ sC sD (λk z=>z.elim)
 obtain⟨M,ns,e1,b4,e2,h0,h1,h2⟩:=Ay hd hp;refine kq ?_;refine⟨M,?_,h0,?_,?_⟩
 .rw[ac (d:=i9) rfl rfl];have J:(evs (aa defs (n+1)) [.bor 0] [sv (ofR R),some (.ownD (.t [])),none,none]).bind (bc .seq)=some (R.map ofS):=by simp[evs,ev]
  have a1:ev (aa defs (n+1)) (.blt .valuesOf [.bor 1]) [sv (ofR R),some (.ownD (.t d)),x,y]=some (.lst (ns.map .int)):=by
   rw[aQ (v:=.dI (.t d)) (by simp[ev]),nt,if_pos (by unfold jL dSc;rw[p0,p0];omega)];show some (PV.lst ((d.map (·.2)).map Sc.pv))=_;rw[e1]
  have a2:ev (aa defs (n+1)) (.bin .add (.lst [(ci 0)]) (.blt .valuesOf [.bor 1])) [sv (ofR R),some (.ownD (.t d)),x,y]=some (.lst ((0::ns).map .int)):=by
   rw[ev,a1];simp[ev,evs];omega
  show bj (exs (aa defs (n+1)) (_::_::[_]) [sv (ofR R),none,none,none])=_;simp only[aq];rw[show ex (aa defs (n+1)) (.newD true 1) [sv (ofR R),none,none,none]=.next [sv (ofR R),some (.ownD (.t [])),none,none]from by rw[ex];rfl,aU,eJ J,show bv [.bor 0] [sv (ofR R),some (.ownD (.t [])),none,none]=[sv (ofR R),some (.ownD (.t [])),none,none]from rfl,e,de,aU];rw[show ∀W,aP [.bor 0] [sv (ofR R),some (.ownD (.t [])),none,none] W=W from λ_=>rfl,cZ (v:=.int M)]
  .rfl
  .rw[aQ a2,sn,bI,bind_some,e2]
   rfl
 .refine h1.imp id λ⟨k,Z,ek⟩=>?_
  obtain⟨s,hs,Z⟩:=Z.resolve_left id;obtain⟨a,b,rfl,U,ha,hb⟩:=(gr (g.1 s hs).1).mp Z;refine⟨a,b,U,⟨s,hs,ha,hb⟩,?_⟩;rw[<- AC (λs hs=>(g.1 s hs).1) U,<- ek];rw[Int.zero_add];exact Kn List.sum (La λs _=>by by_cases q:[a,b]∈ib s<;>simp[q])
 .intro a b U;by_cases q:∃s∈R,a∈s/\b∈s
  .obtain⟨s,hs,ha,hb⟩:=q;have:=h2 [a,b] (.inr ⟨s,hs,(gr (g.1 s hs).1).mpr ⟨a,b,rfl,U,ha,hb⟩⟩);rw[<- AC (λs hs=>(g.1 s hs).1) U];refine L8 (Int.le_of_eq ?_) this;rw[Int.zero_add];exact Kn List.sum (La λs _=>by by_cases q:[a,b]∈ib s<;>simp[q])
  .rw[xC q];exact h0
noncomputable def ic(z:List Int)(h:Int):List Int:=if h∈z then z else z++[h]
noncomputable def kd(R:LL):List Int:=R.foldl (λacc z=>z.foldl ic acc) []
noncomputable def ab(R:LL):List Int:=sortI (kd R)
def v6(J:acc.Nodup):(ic acc h).Nodup/\∀x,x∈ic acc h ↔ x∈acc\/x=h:=by
 unfold ic;by_cases q:h∈acc
 .simp_all
 .rw[if_neg q];refine⟨LH.mpr ⟨J,by simp,λx hx y U=>by rw[J8.mp U];exact λz=>q (z▸hx)⟩,λx=>?_⟩
  simp_all
theorem nG:∀(J z:List Int),z.Nodup->(J.foldl ic z).Nodup/\∀x,x∈J.foldl ic z ↔ x∈z\/x∈J
 | [],z,U=>⟨U,λx=>by simp⟩
 |t::J,z,U=>by
  obtain⟨h1,h2⟩:=v6 (h:=t) U;obtain⟨Y,Z⟩:=nG J (ic z t) h1;refine⟨Y,λx=>?_⟩;rw[foldl_cons,Z,h2,wh,_root_.or_assoc]
theorem gw:∀(R:LL) z,z.Nodup->(R.foldl (λz J=>J.foldl ic z) z).Nodup/\∀x,x∈R.foldl (λz J=>J.foldl ic z) z ↔ x∈z\/∃J∈R,x∈J
 | [],z,U=>⟨U,λx=>by simp⟩
 |t::J,z,U=>by
  obtain⟨h1,h2⟩:=nG t z U;obtain⟨Y,Z⟩:=gw J (t.foldl ic z) h1;refine⟨Y,λx=>?_⟩;rw[foldl_cons,Z,h2];simp[_root_.or_assoc]
def am{R:LL} :x∈ab R ↔ ∃z∈R,x∈z:=by
 unfold ab;rw[pw];have:=(gw R [] Li).2 x;unfold kd;rw[this];simp
def gZ(R):(ab R).Pairwise (· < ·):=sr (gw R [] Li).1
def bG{R:LL}(g:∀z∈R,b_ z):b_ (ab R):=⟨gZ R,λh J=>by
 obtain⟨z,h1,h2⟩:=am.mp J;exact(g z h1).2 h h2⟩
def xD{R:LL}(g:∀z∈R,b_ z):(kd R).length<=60:=by
 have:=aJ (bG g);unfold ab at this;rw[sortI_len]at this;exact this
def CT{R:LL}{z:List Int}(J:z.Nodup)(h:∀x∈z,0<=x/\x<=59):z.length<=60:=qD 60 z J λx hx=>by have:=h x hx;omega
def kf(R):sortI (dd R.flatten)=ab R:=by
 refine sortI_of_perm ((Ls (dd_nodup _) (gw R [] Li).1).mpr λx=>?_);rw[jq,(gw R [] Li).2 x,K7];simp
def c7(n:Nat)(R:LL)(g:∀J∈R,b_ J)(U:R.flatten.length<=4000):aa defs (n+2) 5 [.val (ofR R)]=some (ofL (ab R)):=by
 rw[ac (d:=jr) rfl rfl];have e:=kY n (.val (ofR R)) (λ_ z=>by cases z) R ofS (λ_=>rfl) rfl (by omega);have hd:(dd R.flatten).length<64:=by
  have:=aJ (bG g);rw[<- kf,sortI_len]at this;omega
 simp[jr,exs,ex,ev,evs,evA,e,-map_flatten,bI,-length_flatten,U,hd,kf]
noncomputable def bb(h:Int)(R:LL):LL:=R.filter λz=>!decide (h∈z)
def eP{R:LL}(g:aF R):aF (bb h R):=⟨λz J=>g.1 z (Kg.mp J).1,g.2.1.filter _,uw (Md _ _) g.2.2⟩
def sH(n)(R)(h)(J:R.length<=10000):aa defs (n+1) 4 [.val (ofR R),.val (.int h)]=some (ofR (bb h R)):=by
 rw[ac rfl rfl];simp[sw,exs,ex,ev,evs,J];rw[ce (p:=λz=>!decide (h∈z)) (h:=ofS)]
 .simp[bb]
 .intro z _;simp[cb,bN]
 .intro z _ _;simp[cb]
def pE(h)(R):(bb h R).flatten.length<=R.flatten.length:=by
 unfold bb
 induction R with
 |nil=>exact pb _
 |cons s R ih =>
  by_cases q:h∈s
  .grind
  .simp_all
def jx(n)(R):aa defs (n+1) 6 [.val (ofR R)]=some (.bl (decide ([]∈R))):=by
 rw[ac rfl rfl];have z:isIn (.tup []) _=some _:=nq [] R;simp[nw,exs,ex,ev,evs,z]
def kg(R:LL):Prop:=∃M,lK R M/\1152921504606846976*M*(((ab R).length:Int) / 2)<4*(R.map wgt).sum
noncomputable def hv(R:LL):Bool:=@decide (kg R) (Classical.propDecidable _)
def qJ{R:LL}:hv R=true ↔ kg R:=@KL (kg R) (Classical.propDecidable _)
def xE{R:LL}(h:lK R M)(h':lK R N):M=N:=by
 have gen:∀{M N},lK R M->lK R N->M<=N:=λ{M N} h h'=>by
  rcases h.2.1 with e|⟨a,b,z,_,e⟩
  .have:=h'.1;omega
  .have:=h'.2.2 a b z;omega
 exact Int.le_antisymm (gen h h') (gen h' h)
def nH(n:Nat)(R:LL)(g:aF R)(Z:R.flatten.length<=4000):aa defs (n+3) 26 [.val (ofR R)]=some (.bl (hv R)):=by
 obtain⟨M,em,J⟩:=fQ n R g;have U:=sF n R g.1 (by have:=g.2.2;omega);have Y:=c7 n R g.1 Z;have z:=aJ (bG g.1);have hb:hv R=decide (1152921504606846976*M*(((ab R).length:Int) / 2)<4*(R.map wgt).sum):=by
  rw[Kv,qJ,KL];exact⟨λ⟨N,hN,h⟩=>by rw[xE J hN];exact h,λh=>⟨M,J,h⟩⟩
 rw[hb,ac (d:=nz) rfl rfl];generalize (R.map wgt).sum=w at U;generalize ab R=ks at Y z;have b1:(-18446744073709551616<(4:Int)/\(4:Int)<18446744073709551616\/-18446744073709551616<w/\w<18446744073709551616):=.inl ⟨by decide,by decide⟩;have b2:(-18446744073709551616<(1152921504606846976:Int)/\(1152921504606846976:Int)<18446744073709551616\/-18446744073709551616<M/\M<18446744073709551616):=.inl ⟨by decide,by decide⟩;have b3:(-18446744073709551616<1152921504606846976*M/\1152921504606846976*M<18446744073709551616\/-18446744073709551616<(ks.length:Int) / 2/\(ks.length:Int) / 2<18446744073709551616):=.inr ⟨by omega,by omega⟩;have e1:ev (aa defs (n+2)) (.bin .mul (ci 4) (.call 20 [.bor 0])) [sv (ofR R)]=some (.int (4*w)):=by
  rw[ev,ae (vs:=[.val (ofR R)]) (by simp[evA]) U];simp[ev,b1]
 have e2:ev (aa defs (n+2)) (.bin .mul (.bin .mul (.glob "UNIT" (.int 1152921504606846976)) (.call 24 [.bor 0])) (.bin .fdiv (.blt .len [(.call 5 [.bor 0])]) (ci 2))) [sv (ofR R)]=some (.int (1152921504606846976*M*((ks.length:Int) / 2))):=by
  have e3:ev (aa defs (n+2)) (.bin .mul (.glob "UNIT" (.int 1152921504606846976)) (.call 24 [.bor 0])) [sv (ofR R)]=some (.int (1152921504606846976*M)):=by
   rw[ev,ae (vs:=[.val (ofR R)]) (by simp[evA]) em];simp[ev,b2]
  have e4:ev (aa defs (n+2)) (.bin .fdiv (.blt .len [(.call 5 [.bor 0])]) (ci 2)) [sv (ofR R)]=some (.int ((ks.length:Int) / 2)):=by
   rw[ev,aQ (ae (vs:=[.val (ofR R)]) (by simp[evA]) Y)];simp[ev]
  rw[ev,e3,e4];simp only[bind_some,CL];rw[if_pos (by exact .inr ⟨by omega,by omega⟩)]
 show bj (exs (aa defs (n+2)) [_] [sv (ofR R)])=_;rw[aq,cZ (v:=.bl (decide (1152921504606846976*M*((ks.length:Int) / 2)<4*w)))]
 .rfl
 .rw[ev,e1,e2]
  rfl
def lL (n:Nat) (R:LL) (g:aF R) (J:R.flatten.length<=4000):aa defs (n+4) 27 [.val (ofR R),.val (.str "weaver")]=some (.bl (hv R)) /\
  aa defs (n+4) 27 [.val (ofR R),.val (.str "moth")]=some (.bl (decide ([]∈R)||(hv R&&(ab R).all λh=>hv (bb h R)))):=by
 have U:=nH n R g J;have z:=jx (n+2) R;have Y:=c7 (n+1) R g.1 J;have Z:=aJ (bG g.1);constructor
 .rw[ac (d:=cV) rfl rfl];have h:((("weaver":Str)==("weaver":Str)))=true:=by decide
  simp[cV,exs,ex,ev,evA,evB,h,U]
 .rw[ac (d:=cV) rfl rfl];have h:((("moth":Str)==("weaver":Str)))=false:=by decide
  have ec:ev (aa defs (n+3)) (.comp .seq [(.call 5 [.bor 0])] [0] (.cst (.bl true)) (.call 26 [(.call 4 [.bor 1,.bor 0])])) [sv (ofR R),sv (.str "moth")]=some (.lst (((ab R).map λh=>hv (bb h R)).map .bl)):=by
   refine(cn (g:=.int) (h:=λh=>.bl (hv (bb h R))) (vs:=[ofL (ab R)]) ?_ rfl (by omega) λh _=>?_).trans (by rw[J3];rfl)
   .rw[evs,ae (vs:=[.val (ofR R)]) (by simp[evA]) Y];simp[evs]
   .have eb:ev (aa defs (n+3)) (.call 4 [.bor 1,.bor 0]) (cb [0] [sv (ofR R),sv (.str "moth")] (.int h))=some (ofR (bb h R)):=ae (vs:=[.val (ofR R),.val (.int h)]) (by simp[evA,cb]) (sH (n+2) R h (by have:=g.2.2;omega));exact ae (vs:=[.val (ofR (bb h R))]) (by simp only[evA,eb];simp) (nH n (bb h R) (eP g) (uw (pE h R) J))
  have ea:ev (aa defs (n+3)) (.and (.call 26 [.bor 0]) (.blt .all [(.comp .seq [(.call 5 [.bor 0])] [0] (.cst (.bl true)) (.call 26 [(.call 4 [.bor 1,.bor 0])]))])) [sv (ofR R),sv (.str "moth")]=some (.bl (hv R&&(ab R).all λh=>hv (bb h R))):=by
   refine dw (ae (vs:=[.val (ofR R)]) (by simp[evA]) U) λ_=>?_
   rw[aQ ec,vT,dE,map_some,MP]
   rfl
  show bj (exs (aa defs (n+3)) (_::_::[_]) [sv (ofR R),sv (.str "moth")])=_;simp only[aq];rw[show ex (aa defs (n+3)) (.ite (.cmp .eq (.bor 1) (cs "weaver")) [.ret (.call 26 [.bor 0])] []) [sv (ofR R),sv (.str "moth")]=.next [sv (ofR R),sv (.str "moth")]from by simp[ex,exs,ev,evB,h],aU];by_cases q:[]∈R
  .rw[J9 q]at z ⊢;simp[ex,exs,ev,evA,evB,z]
  .rw[Kr q]at z ⊢;rw[show ex (aa defs (n+3)) (.ite (.call 6 [.bor 0]) [.ret (.cst (.bl true))] []) [sv (ofR R),sv (.str "moth")]=.next [sv (ofR R),sv (.str "moth")]from by simp[ex,exs,ev,evA,evB,z],aU,cZ ea]
   rfl
def fR (n) (R) (g:aF R):∃M,Top R M/\aa defs (n+4) 25 [.val (ofR R),.val (.str "weaver")]=some (.bl (decide ((R.map wgt).sum+M<1152921504606846976)))/\aa defs (n+4) 25 [.val (ofR R),.val (.str "moth")]=some (.bl (decide ((R.map wgt).sum<1152921504606846976))):=by
 obtain⟨M,em,J⟩:=uE n R g;have z:=sF (n+1) R g.1 (by have:=g.2.2;omega);refine⟨M,J,?_,?_⟩
 .rw[ac (d:=cO) rfl rfl];have h:((("weaver":Str)==("moth":Str)))=false:=by decide
  simp[cO,exs,ex,ev,evA,evB,h,z,em]
 .rw[ac (d:=cO) rfl rfl];simp[cO,exs,ex,ev,evA,evB,z]
theorem lw(cal)(a s):∀(U J:List Int) (kk:Option MV),J.Nodup->(∀x∈J,0<=x/\x<=59)->(∀x∈U,0<=x/\x<=59) ->
  ∃Y,ay (λx l=>exs cal cQ (put l 3 (.val x))) (U.map .int) [some a,some (.own (J.map .int)),some s,kk]=.next [some a,some (.own ((U.foldl ic J).map .int)),some s,Y]
 | [],J,kk,_,_,_=>⟨kk,rfl⟩
 |t::U,J,kk,h1,h2,Z=>by
  rw[JY,ay];have hl:J.length<10000:=by have:=CT (R:=[]) h1 h2;omega
  have e:exs cal cQ (put [some a,some (.own (J.map .int)),some s,kk] 3 (.val (.int t)))=.next [some a,some (.own ((ic J t).map .int)),some s,sv (.int t)]:=by
   by_cases q:t∈J
   .simp[cQ,exs,ex,ev,evB,bN,ic,q]
   .simp[cQ,exs,ex,ev,evB,bN,ic,q,hl]
  rw[e];obtain⟨q1,q2⟩:=v6 (h:=t) h1;exact lw cal a s U (ic J t) _ q1 (λx hx=>((q2 x).mp hx).elim (h2 x) λz=>z▸Z t (.head _)) λx hx=>Z x (.tail _ hx)
theorem nI(cal)(a):∀(R:LL) (J:List Int) (s kk:Option MV),J.Nodup->(∀x∈J,0<=x/\x<=59)->(∀U∈R,∀x∈U,0<=x/\x<=59) ->
  ∃s' Y,ay (λx l=>exs cal dO (put l 2 (.val x))) (R.map ofS) [some a,some (.own (J.map .int)),s,kk]=.next [some a,some (.own ((R.foldl (λJ U=>U.foldl ic J) J).map .int)),s',Y]
 | [],J,s,kk,_,_,_=>⟨s,kk,rfl⟩
 |t::R,J,s,kk,h1,h2,Z=>by
  rw[JY,ay];obtain⟨k',e2⟩:=lw cal a (.val (ofS t)) t J kk h1 h2 (Z t (.head _));have e:exs cal dO (put [some a,some (.own (J.map .int)),s,kk] 2 (.val (ofS t)))=.next [some a,some (.own ((t.foldl ic J).map .int)),sv (ofS t),k']:=by
   simp[dO,exs,ex,ev,evs,bv,e2,aP]
  rw[e];obtain⟨q1,q2⟩:=nG t J h1;exact nI cal a R _ _ _ q1 (λx hx=>((q2 x).mp hx).elim (h2 x) λz=>Z t (.head _) x z) λU ao=>Z U (.tail _ ao)
def l9(n)(R)(g:∀z∈R,b_ z):aa defs (n+1) 40 [.val (ofR R)]=some (ofL (ab R)):=by
 rw[ac (d:=iG) rfl rfl];obtain⟨s',Z,e⟩:=nI (aa defs n) (.val (ofR R)) R [] none none Li (λx h=>by cases h) λz J=>(g z J).2
 have U:(kd R).length<64:=by have:=xD g;omega
 simp[map_nil]at e;have Y:R.foldl (λacc z=>z.foldl ic acc) []=kd R:=rfl;rw[Y]at e;simp[iG,exs,ex,ev,evs,bv,e,aP,pq U,ab]
def kh(n)(R)(h)(J:R.length<=10000):aa defs (n+1) 39 [.val (ofR R),.val (.int h)]=some (ofR (bb h R)):=by
 rw[ac rfl rfl];simp[j6,exs,ex,ev,evs,J];rw[ce (p:=λz=>!decide (h∈z)) (h:=ofS)]
 .simp[bb]
 .intro z _;simp[cb,bN]
 .intro z _ _;simp[cb]
def IG(cal)(W):ev cal (.bin .pow (ci 2) (ci 60)) W=some (.int 1152921504606846976):=rfl
def IH(cal)(s)(z:s.length<=60)(r):ev cal (.bin .shr (.bin .pow (ci 2) (ci 60)) (.blt .len [.bor 0])) (sv (ofS s)::r)=some (.int (wgt s)):=by
 rw[cJ (IG _ _) (y:=.int (s.length:Int)) (by simp[ev,evs])];show(if 0<=(s.length:Int)then some _ else none)=_;rw[if_pos (by omega),Int.toNat_natCast,sA _ z]
 rfl
def F5{ns:List Int}(h:ev cal e W=some (.lst (ns.map .int))):ev cal (.blt .sum [e]) W=some (.int ns.sum):=by
 rw[aQ h];show((a8 _).map λns=>PV.int ns.sum)=_;rw[bI]
 rfl
def sI(R)(h):((R.filter λs=>decide (h∈s)).map wgt).sum=aI R h:=by
 unfold aI
 induction R with
 |nil=>rfl
 |cons s R ih =>
  by_cases q:h∈s
  .simp_all
  .simp_all
noncomputable def ai (b:Bool):PySem.Str:=if b=true then "moth" else "weaver"
def v7(a b):((PySem.Str.ofString a)==(PySem.Str.ofString b))=(a==b):=by
 rw[Kv,JZ,JZ];refine⟨λh=>?_,λh=>by rw[h]⟩;rw[PySem.Str.ofString_eq_byList]at h;unfold PySem.Str.ofStringByList at h;have h1:(a.toList.map Char.toNat).toArray=(b.toList.map Char.toNat).toArray:=by injection h
 have h2:a.toList.map Char.toNat=b.toList.map Char.toNat:=by simpa using h1
 have key:∀xs ys:List Char,xs.map Char.toNat=ys.map Char.toNat->xs=ys:=by
  intro xs
  induction xs with
  |nil=>intro ys h;cases ys with|nil=>rfl|cons=>simp at h
  |cons x xs ih=>intro ys h;cases ys with
   |nil=>simp at h
   |cons y ys =>
    simp only[JY,MY]at h;rw[ih ys h.2,Char.toNat_inj.mp h.1]
 exact String.toList_inj.mp (key _ _ h2)
def a_(h:ev cal e W=some v)(k:bj (exs cal ms (put W i (.val v)))=X):bj (exs cal (.set i e::ms) W)=X:=by simp_all [aq,ju]
def jy(h:ex cal m W=.next l)(k:bj (exs cal ms l)=X):bj (exs cal (m::ms) W)=X:=by simp_all [aq]
def g_(h:ev cal e W=some v):bj (exs cal (.ret e::ms) W)=some v:=by
 rw[aq,cZ h];rfl
def cq(h:ev cal e W=some v)(k:exs cal ms (put W i (.val v))=r):exs cal (.set i e::ms) W=r:=by
 rw[aq,ju h,aU,k]
def d9(h:ex cal m W=.next l)(k:exs cal ms l=r):exs cal (m::ms) W=r:=by simp_all [aq]
def cU(h:ex cal m W=.next l):exs cal [m] W=.next l:=by
 rw[aq,h,aU,exs]
def uF{W z J:Rho}(h1:body x W=.next z)(h2:body y z=.next J):ay body [x,y] W=.next J:=by
 rw[jw h1,jw h2,ay]
def jz(h:ev cal (.lst es) W=some (.lst xs))(k:ay (λx l=>exs cal body (put l i (.val x))) xs W=.next l):ex cal (.for1 i .seq [.lst es] body) W=.next l:=by
 rw[eJ (by rw[evs,h];rfl),show bv [.lst es] W=W from rfl,k]
 rfl
def bx(h:ev cal c W=some (.bl p)):ex cal (.ite c a b) W=if p=true then exs cal a W else exs cal b W:=by
 rw[ex,uC h,nu]
def aW(h:ev cal c W=some (.bl false))(k:bj (exs cal ms W)=X):bj (exs cal (.ite c a []::ms) W)=X:=by simp_all [bx,exs]
def dy(h:ev cal c W=some (.bl true))(k:ev cal e W=some v):bj (exs cal (.ite c [.ret e] b::ms) W)=some v:=by
 rw[aq,bx h,if_pos rfl,aq,cZ k];rfl
def g5(h:ev cal (.call f as) W=some v)(k:evA cal es W=some vs):evA cal (.call f as::es) W=some (.val v::vs):=by simp_all [evA]
def AD(h:ev cal (.idx a i) W=some v)(k:evA cal es W=some vs):evA cal (.idx a i::es) W=some (.val v::vs):=by simp_all [evA]
def II(h:fZ (W[i]?).join=some m)(k:evA cal es W=some vs):evA cal (.bor i::es) W=some (m::vs):=by simp_all [evA]
def nJ(h:ev cal a W=some (.bl p)):ev cal (.not a) W=some (.bl (!p)):=by
 rw[ev,h];rfl
def JP(h:ev cal c W=some (.bl p))(k:ev cal e W=some v)(z:p=false->bj (exs cal ms W)=some w):bj (exs cal (.ite c [.ret e] []::ms) W)=some (if p=true then v else w):=by
 cases p<;>first|exact dy h k|exact aW h (z rfl)
def AE(h:ev cal c W=some (.bl true))(k:exs cal a W=.ret v):bj (exs cal (.ite c a b::ms) W)=some v:=by
 rw[aq,bx h,if_pos rfl,k];rfl
def xF(h:ev cal c W=some (.bl false))(k:exs cal ms W=r):exs cal (.ite c a []::ms) W=r:=by simp_all [bx,exs]
def nK(h:ev cal e W=some v):exs cal (.ret e::ms) W=.ret v:=by
 rw[aq,cZ h];rfl
def AF(h:ev cal c W=some (.bl true))(k:ev cal e W=some v):exs cal (.ite c [.ret e] b::ms) W=.ret v:=by
 rw[aq,bx h,if_pos rfl,aq,cZ k];rfl
def AG(h:ev cal a W=some (.bl p))(h':p=false->ev cal b W=some (.bl q)):ev cal (.or a b) W=some (.bl (p||q)):=by
 rw[ev,h];cases p<;>first|rfl|simp[h' rfl]
def CU(h:isIn x xs=some p)(z:ev cal a W=some x)(J:ev cal b W=some (.tup xs)):ev cal (.cmp .isIn a b) W=some (.bl p):=by
 rw[gY z J,CM,h];rfl
def DC(ho:(W[i]?).join=some (.own xs))(h:ev cal e W=some v)(z:xs.length<10000):ex cal (.append i e) W=.next (put W i (.own (xs++[v]))):=by
 rw[ex,ho,h];simp[z]
def qK(h:((xs.length:Int)==0)=p)(z:ev cal a W=some (.tup xs)):ev cal (.cmp .eq (.blt .len [a]) (ci 0)) W=some (.bl p):=by
 rw[gY (aQ z) (jv _ _ _),<- h];rfl
def F6(h:(evs cal src W).bind (bc k)=some xs)(e:ay (λx l=>exs cal body (put l i (.val x))) xs (bv src W)=.ret v):exs cal (.for1 i k src body::ms) W=.ret v:=by
 rw[aq,eJ h,e];rfl
def F7(h:ev cal e W=some (.lst xs)):(evs cal [e] W).bind (bc .seq)=some xs:=by simp_all [evs]
def br(h:ev cal e W=some v)(k:evs cal es W=some vs):evs cal (e::es) W=some (v::vs):=by simp_all [evs]
def fH(h:evs cal es W=some vs)(z:vs.length<=10000:=by simp):ev cal (.tup es) W=some (.tup vs):=by
 rw[ev,h,bind_some,if_pos z]
def v8{cal:Cal}{a lo hi:ME}{W:Rho}{x y:PV}{l h:Option Int}(z:ev cal a W=some x)(J:((ev cal lo W).bind λl=>bnd lo l)=some l)(U:((ev cal hi W).bind λv=>bnd hi v)=some h)(hs:iQ x l h=some y):ev cal (.slice a lo hi) W=some y:=by
 rw[ev,z,bind_some,J,bind_some,U,bind_some,hs]
def xG(n)(R):aa defs (n+1) 7 [.val (ofR R)]=some (.bl (decide (R=[]))):=by
 rw[ac rfl rfl];cases R with
 |nil=>simp[kT,exs,ex,ev,evs]
 |cons t R =>
  have:¬ ((R.length:Int)+1=0):=by omega
  simp[kT,exs,ex,ev,evs,this]
noncomputable def cE:Option Int->PV
 |none=>.non
 |some i=>.int i
def v9(x h:Int):(x==h)=decide (x=h):=rfl
noncomputable def drp(h:Int)(z:List Int):List Int:=z.filter λx=>!decide (x=h)
noncomputable def aN(h:Int)(R:LL):LL:=sortT (R.map (drp h))
def AH(g:b_ z):b_ (drp h z):=⟨g.1.filter _,λx hx=>g.2 x (Kg.mp hx).1⟩
def kZ{R:LL}(g:aF R):aF (aN h R):=by
 refine⟨λU z=>?_,sortT_rises _,by unfold aN;rw[sortT_len,p0];exact g.2.2⟩;obtain⟨t,J,rfl⟩:=mem_map.mp (dF.mp z);exact AH (g.1 t J)
def lM(n)(z)(h)(J:z.length<=10000):aa defs (n+1) 2 [.val (ofS z),.val (.int h)]=some (ofS (drp h z)):=by
 rw[ac (d:=d7) rfl rfl];simp[d7,exs,ex,ev,evs,J];rw[ce (p:=λx=>!decide (x=h)) (h:=PV.int)]
 .simp[drp]
 .intro x _;simp[cb,v9]
 .intro x _ _;simp[cb]
def xH(n)(R)(h)(g:aF R):aa defs (n+2) 3 [.val (ofR R),.val (.int h)]=some (ofR (aN h R)):=by
 rw[ac (d:=kS) rfl rfl];have J:R.length<=10000:=by have:=g.2.2;omega
 simp[kS,exs,ex,ev,evs,J];rw[gN (h:=λU=>ofS (drp h U))]
 .have e:(R.map λc=>ofS (drp h c))=(R.map (drp h)).map ofS:=by rw[J3];rfl
  have z:(R.map (drp h)).length<64:=by rw[p0];have:=g.2.2;omega
  rw[e];simp[-List.map_map,gi z,aN]
 .intro c _;simp[ev]
 .intro c hc;have J:=aJ (g.1 c hc);simp[ev,evA,cb,lM n c h (by omega)]
def xI(h)(R):(aN h R).flatten.length<=R.flatten.length:=by
 have p:(aN h R).flatten.length=(R.map _).flatten.length:=((sortT_perm (R.map _)).flatten).length_eq;rw[p]
 induction R with
 |nil=>exact pb _
 |cons s R ih =>
  rw[JY,flatten_cons,flatten_cons,J0,J0];have:(drp h s).length<=s.length:=Md _ _;have:=ih (by exact((sortT_perm _).flatten).length_eq);omega
noncomputable def bhd(h:Bool)(R:LL):Option Int->LL
 |none=>R
 |some k=>if h=true then bb k R else aN k R
def fb{R:LL}(g:aF R)(r):aF (bhd h R r):=by
 cases r<;>first|exact g|cases h with|true=>exact eP g|false=>exact kZ g
def qL(n)(h):aa defs (n+1) 8 [.val (.str (ai h))]=some (.str (ai (!h))):=by
 rw[ac rfl rfl];cases h<;>simp[jZ,exs,ex,ev,v7,ai]
def nL(n)(R)(g:aF R)(h)(r):aa defs (n+3) 9 [.val (ofR R),.val (.str (ai h)),.val (cE r)]=some (ofR (bhd h R r)):=by
 rw[ac (d:=j3) rfl rfl];cases r with
 |none=>simp[j3,exs,ex,ev,evB,cE,bhd,mQ]
 |some k =>
  have z:=xH n R k g;have J:=λn=>sH n R k (by have:=g.2.2;omega)
  cases h<;>simp[j3,exs,ex,ev,evB,evA,cE,bhd,v7,ai,mQ,z,J]
def iK(h)(R)(r):(bhd h R r).flatten.length<=R.flatten.length:=by
 cases r with
 |none=>exact pb _
 |some k=>cases h with|true=>exact pE k R|false=>exact xI k R
def gM {R:PV} (h:aa defs n 29 [.val v,.val R,.val (.str t)]=some r):aa defs (n+1) 28 [.val v,.val R,.val (.str t),.val (.str "moth")]=some r:=
  dy rfl (ae rfl h)
def gW {R:PV} (h:aa defs n 30 [.val v,.val R,.val (.str t)]=some r):aa defs (n+1) 28 [.val v,.val R,.val (.str t),.val (.str "weaver")]=some r:=
  aW rfl (g_ (ae rfl h))
def AI (n) (R) (t h):aa defs (n+3) 28 [.val (.tup [.str "bare"]),.val (ofR R),.val (.str (ai t)),.val (.str (ai h))]=some (.bl (h&&decide (R=[]))):=by
 cases h
 .refine gW ?_;cases t<;>rfl
 .refine gM ?_;rw[ac rfl rfl];exact a_ rfl (dy rfl (ae rfl (xG n R)))
def v_ (n) (R) (t h):aa defs (n+3) 28 [.val (.tup [.str "whole"]),.val (ofR R),.val (.str (ai t)),.val (.str (ai h))]=some (.bl (!h&&decide ([]∈R))):=by
 cases h
 .refine gW ?_;exact a_ rfl (dy rfl (ae rfl (jx n R)))
 .refine gM ?_;cases t<;>rfl
noncomputable def F8(R:LL)(M:Int)(t h:Bool):Bool:=
 if h=true then(if t=true then decide ((R.map wgt).sum<1152921504606846976)else decide ((R.map wgt).sum+M<1152921504606846976))
 else(if t=true then decide ([]∈R)||(hv R&&(ab R).all λh=>hv (bb h R))else hv R)
def sJ (n:Nat) (R:LL) (g:aF R) (U:R.flatten.length<=4000) {M:Int} (Y:Top R M) (t h:Bool):aa defs (n+6) 28 [.val (.tup [.str "weight"]),.val (ofR R),.val (.str (ai t)),.val (.str (ai h))]=some (.bl (F8 R M t h)):=by
 cases h
 .obtain⟨z,J⟩:=lL n R g U;refine gW ?_;rw[ac (d:=ba) rfl rfl];refine a_ rfl (aW rfl (dy rfl (ae rfl ?_)));cases t
  .exact z
  .exact J
 .obtain⟨N,Z,z,J⟩:=fR n R g;rw[Az Z Y]at z;refine gM ?_;rw[ac (d:=bO) rfl rfl];refine a_ rfl (aW rfl (dy rfl (ae rfl ?_)));cases t
  .exact z
  .exact J
def wc (n) (R P) (z:OkP P) (J:P.length<=60) (g:aF R) (t h):aa defs (n+5) 28 [.val (.tup [.str "pairs",ofR P]),.val (ofR R),.val (.str (ai t)),.val (.str (ai h))]=some (.bl (h&&!t&&v3 P R)):=by
 cases h
 .refine gW ?_;rw[ac rfl rfl];cases t<;>rfl
 .refine gM ?_;cases t
  .exact a_ rfl (aW rfl (aW rfl (aW rfl (dy rfl (ae rfl (qI n _ P R rfl z J g.1 g.2.2))))))
  .rfl
def AJ{R:LL}(g:aF R)(k)(r)(t h)(J:aa defs (n+3) 28 [.val p,.val (ofR (bhd k R r)),.val (.str (ai (!k))),.val (.str (ai k))]=some (.bl b)) :
  aa defs (n+6) 28 [.val (.tup [.str (if k=true then "bite" else "knot"),cE r,p]),.val (ofR R),.val (.str (ai t)),.val (.str (ai h))]=some (.bl ((h==k)&&(t==k)&&b)):=by
 have z:aa defs (n+4) 31 [.val (.tup [.str (if k=true then "bite" else "knot"),cE r,p]),.val (ofR R),.val (.str (ai k))]=some (.bl b):=by
  rw[ac (d:=iF) rfl rfl];exact g_ (ae (AD rfl (g5 (ae rfl (nL n R g k r)) (g5 (ae rfl (qL (n+2) k)) rfl))) J)
 cases h
 .refine gW ?_;rw[ac (d:=ba) rfl rfl];cases k<;>cases t<;>first|rfl|exact a_ rfl (aW rfl (aW rfl (aW rfl (dy rfl (dw rfl λ_=>ae rfl z)))))
 .refine gM ?_;rw[ac (d:=bO) rfl rfl];cases k<;>cases t<;>first|rfl|exact a_ rfl (aW rfl (aW rfl (dy rfl (dw rfl λ_=>ae rfl z))))
def wd(n:Nat)(Rs:List (LL))(J:∀R∈Rs,(∀t∈R,b_ t)/\R.flatten.length<=4000)(hl:Rs.length<=16):aa defs (n+3) 18 [.val (.lst (Rs.map ofR))]=some (.bl (decide (Rs.map ab).flatten.Nodup)):=by
 rw[ac (d:=lq) rfl rfl];have Y:∀Rs:List (LL),(∀R∈Rs,(∀t∈R,b_ t)/\R.flatten.length<=4000)->(Rs.map ab).flatten.length<=60*Rs.length:=λRs=>by
  induction Rs with
  |nil=>intro _;simp
  |cons R Rs ih =>
   intro J;have h1:=aJ (bG (J R (.head _)).1);have h2:=ih λR U=>J R (.tail _ U)
   rw[JY,flatten_cons,J0,length_cons];omega
 have hF:=Y Rs J;have Z:ev (aa defs (n+2)) (.comp .seq [.bor 0] [] (.cst (.bl true)) (.call 5 [.bor 0])) [sv (.lst (Rs.map ofR))]=some (.lst ((Rs.map ab).map ofL)):=by
  refine(cn (g:=ofR) (h:=λR=>ofL (ab R)) (vs:=[.lst (Rs.map ofR)]) (by simp[evs,ev]) rfl (by omega) λR U=>?_).trans (by rw[J3];rfl);exact ae (vs:=[.val (ofR R)]) (by simp[evA,cb]) (c7 n R (J R U).1 (J R U).2)
 have e1:=kY (n+1) (.val (.lst ((Rs.map ab).map ofL))) (λ_ z=>by cases z) (Rs.map ab) ofL (λ_=>rfl) rfl (by omega);have e2:=At (n+1) (Rs.map ab).flatten (by omega);show bj (exs (aa defs (n+2)) [.ret _] [sv (.lst (Rs.map ofR))])=_;rw[aq,cZ (sy (λ_ z=>by cases z) (sy (λ_ z=>by cases z) Z e1) e2)]
 rfl
def CV(h:b_ t):(dd t).length<=60:=by rw[Dz (iz h.1)];exact aJ h
noncomputable def uG:Option Nat->PV
 |none=>.non
 |some i=>.int i
noncomputable def sK(s:List Int)(R:LL):Option Nat:=R.findIdx? λt=>sub t s
theorem nM(n:Nat)(s:List Int)(a b:Option MV)(hs:s.length<=4000)(Y:a=sv (ofS s)):∀(R:LL) (k:Nat) (x y:Option MV),(∀t∈R,b_ t) ->
  (∀i,sK s R=some i->ay (λx l=>cg (cM [2,3] x l) λz=>exs (aa defs (n+1)) bw z) (bz k (R.map ofS)) [a,b,x,y]=.ret (.int ((k+i:Nat):Int))) /\
  (sK s R=none->∃Z y',ay (λx l=>cg (cM [2,3] x l) λz=>exs (aa defs (n+1)) bw z) (bz k (R.map ofS)) [a,b,x,y]=.next [a,b,Z,y'])
 | [],k,x,y,_=>⟨λi h=>(by cases h),λ_=>⟨x,y,rfl⟩⟩
 |t::R,k,x,y,h=>by
  subst Y;have e:=kX n (.val (ofS s)) (.val (ofS t)) s t rfl rfl hs (by have:=aJ (h t (.head _));omega) (CV (h t (.head _)));rw[JY,bz,ay];unfold sK;rw[findIdx?_cons];cases U:sub t s with
  |true =>
   rw[U]at e;have J:(cg (cM [2,3] (.tup [.int (k:Nat),ofS t]) [sv (ofS s),b,x,y]) λz=>exs (aa defs (n+1)) bw z)=.ret (.int (k:Nat)):=by
    simp[cM,mR,bw,exs,ex,ev,evs,evB,evA,e]
   rw[J];exact⟨λi hi=>(by simp at hi;subst hi;rfl),λhi=>(by simp at hi)⟩
  |false =>
   rw[U]at e;have J:(cg (cM [2,3] (.tup [.int (k:Nat),ofS t]) [sv (ofS s),b,x,y]) λz=>exs (aa defs (n+1)) bw z)=.next [sv (ofS s),b,sv (.int (k:Nat)),sv (ofS t)]:=by
    simp[cM,mR,bw,exs,ex,ev,evs,evB,evA,e]
   rw[J];obtain⟨h1,h2⟩:=nM n s (sv (ofS s)) b hs rfl R (k+1) (sv (.int (k:Nat))) (sv (ofS t)) λu hu=>h u (.tail _ hu)
   constructor
   .intro i hi;simp only[J5,KU,pe]at hi;obtain⟨j,hj,rfl⟩:=hi;rw[show k+(j+1)=k+1+j by omega];exact h1 j hj
   .intro hi;simp only[J5,KU,map_eq_none_iff]at hi;exact h2 hi
def CW(n:Nat)(s:List Int)(R:LL)(hs:s.length<=4000)(g:∀t∈R,b_ t):aa defs (n+2) 12 [.val (ofS s),.val (ofR R)]=some (uG (sK s R)):=by
 rw[ac (d:=dN) rfl rfl];obtain⟨h1,h2⟩:=nM n s (sv (ofS s)) (sv (ofR R)) hs rfl R 0 none none g;cases hf:sK s R with
 |some i =>
  have e:=h1 i hf;rw[LF]at e;simp[dN,exs,ex,ev,evs,bc,bv,e,uG]
 |none =>
  obtain⟨z,J,e⟩:=h2 hf;simp[dN,exs,ex,ev,evs,bc,bv,e,uG,aP]
noncomputable def CY(A B:LL):List (Option Nat):=A.map λs=>sK s B
def xJ(n)(A B)(z:aF A)(J:aF B):aa defs (n+3) 13 [.val (ofR A),.val (ofR B)]=some (.lst ((CY A B).map uG)):=by
 rw[ac (d:=kW) rfl rfl];have U:A.length<=10000:=by have:=z.2.2;omega
 simp[kW,exs,ex,ev,evs,U];rw[gN (h:=λs=>uG (sK s B))]
 .simp[CY]
 .intro c _;simp[ev]
 .intro c hc;simp[ev,evA,cb,CW n c B (by have:=aJ (z.1 c hc);omega) J.1]
theorem sL:∀F:List (Option Nat),isIn .non (F.map uG)=some (decide (none∈F))
 | []=>rfl
 |o::F=>by
  have ih:=sL F;unfold isIn at ih ⊢;rw[JY,inL,ih];cases o<;>simp[uG,show ∀v,eqF 100 (.int v) .non=some false from λ_=>rfl,show eqF 100 PV.non .non=some true from rfl]
noncomputable def below(A B:LL):Bool:=decide (none∉CY A B)
def g6(n)(A B)(z:aF A)(J:aF B):aa defs (n+4) 14 [.val (ofR A),.val (ofR B)]=some (.bl (below A B)):=by
 rw[ac (d:=jt) rfl rfl];simp[jt,exs,ex,ev,evs,evA,xJ n A B z J,sL,below]
def we {A R:LL} (z:aF A) (g:aF R) (t h) (J:aa defs (n+4) 28 [.val p,.val (ofR A),.val (.str (ai t)),.val (.str "weaver")]=some (.bl x)) :
  aa defs (n+6) 28 [.val (.tup [.str "fewer",ofR A,p]),.val (ofR R),.val (.str (ai t)),.val (.str (ai h))]=some (.bl (!h&&below A R&&x)):=by
 cases h
 .refine gW ?_;exact a_ rfl (aW rfl (aW rfl (dy rfl (dw (ae rfl (g6 n A R z g)) λ_=>ae rfl J))))
 .refine gM ?_;cases t<;>rfl
def sM{n:Nat}{A B R:LL}(U:aF A)(Y:aF B)(g:aF R)(fA:A.flatten.length<=4000)(fB:B.flatten.length<=4000){p q:PV}{x y:Bool}(t h:Bool)
  (hp:aa defs (n+4) 28 [.val p,.val (ofR A),.val (.str "weaver"),.val (.str "weaver")]=some (.bl x)) (hq:aa defs (n+4) 28 [.val q,.val (ofR B),.val (.str "weaver"),.val (.str "weaver")]=some (.bl y)) :
  aa defs (n+7) 28 [.val (.tup [.str "either",ofR A,p,ofR B,q]),.val (ofR R),.val (.str (ai t)),.val (.str (ai h))]=some (.bl (!h&&t&&(decide (ab A++ab B).Nodup&&below A R&&below B R&&(x&&y)))):=by
 cases h with
 |true =>
  refine gM ?_;rw[ac (d:=bO) rfl rfl];cases t<;>rfl
 |false =>
  refine gW ?_;cases t with
  |false =>
   rw[ac (d:=ba) rfl rfl]
   rfl
  |true =>
   have J:=wd (n+1) [A,B] (λR z=>by
    rcases wh.mp z with rfl|z
    .exact⟨U.1,fA⟩
    .rcases wh.mp z with rfl|z
     .exact⟨Y.1,fB⟩
     .cases z) (by simp)
   simp only[JY,map_nil,flatten_cons,flatten_nil,Le]at J;have Z:=g6 n A R U g;have e2:=g6 n B R Y g;have e3:aa defs (n+5) 35 [.val (.tup [.str "either",ofR A,p,ofR B,q]),.val (ofR R)]=some (.bl (decide (ab A++ab B).Nodup&&below A R&&below B R&&(x&&y))):=by
    rw[ac (d:=gq) rfl rfl];generalize decide (ab A++ab B).Nodup=b0 at J ⊢;generalize below A R=b1 at Z ⊢;generalize below B R=b2 at e2 ⊢;refine(a_ rfl (a_ rfl (JP (AG (nJ (ae rfl J)) λ_=>AG (nJ (ae rfl Z)) λ_=>nJ (ae rfl e2)) rfl λ_=>g_ (dw (ae rfl hp) λ_=>ae rfl hq)))).trans ?_;cases b0<;>cases b1<;>cases b2<;>rfl
   rw[ac (d:=ba) rfl rfl];exact a_ rfl (aW rfl (aW rfl (aW rfl (aW rfl (aW rfl (dy rfl (ae rfl e3)))))))
noncomputable def bU(r:Int×Option Int×PV):PV:=.tup [.int r.1,cE r.2.1,r.2.2]
noncomputable def bh2(h:Bool)(R:LL)(a:Int)(r:Option Int):LL:=bhd h (bhd (!h) R (some a)) r
def nO{R:LL}(g:aF R)(a)(r):aF (bh2 h R a r):=fb (fb g _) _
def CZ(n)(R)(g:aF R)(h)(a)(r):aa defs (n+4) 10 [.val (ofR R),.val (.str (ai h)),.val (.int a),.val (cE r)]=some (ofR (bh2 h R a r)):=by
 rw[ac (d:=i8) rfl rfl];exact g_ (ae (g5 (ae (II rfl (g5 (ae rfl (qL (n+2) h)) rfl)) (nL n R g (!h) (some a))) rfl) (nL n _ (fb g _) h r))
theorem nP(n)(R)(g:aF R)(h)(U)(b):∀(z:List (Int×Option Int×PV)),(∀r∈z,aa defs (n+4) 28 [.val r.2.2,.val (ofR (bh2 h R r.1 r.2.1)),.val (.str (ai (!h))),.val (.str (ai h))]=some (.bl (b r)))->∀Y Z x5,
  (z.all b=true/\∃y3 y4 y5,ay (λx l=>cg (cM [3,4,5] x l) λJ=>exs (aa defs (n+4)) aL J) (z.map bU) [U,sv (ofR R),sv (.str (ai h)),Y,Z,x5]=.next [U,sv (ofR R),sv (.str (ai h)),y3,y4,y5]) \/
  (z.all b=false/\ay (λx l=>cg (cM [3,4,5] x l) λJ=>exs (aa defs (n+4)) aL J) (z.map bU) [U,sv (ofR R),sv (.str (ai h)),Y,Z,x5]=.ret (.bl false))
 | [],_,Y,Z,x5=>.inl ⟨rfl,Y,Z,x5,rfl⟩
 |r::z,hr,Y,Z,x5=>by
  have e1:=hr r (.head _);have e2:=CZ n R g h r.1 r.2.1;have e3:=qL (n+3) h;have turn:∀k,(cg (cM [3,4,5] (bU r) [U,sv (ofR R),sv (.str (ai h)),Y,Z,x5]) k)=k [U,sv (ofR R),sv (.str (ai h)),sv (.int r.1),sv (cE r.2.1),sv r.2.2]:=λk=>rfl
  rw[JY,all_cons];cases hb:b r with
  |false =>
   rw[hb]at e1;refine .inr ⟨rfl,?_⟩;rw[ay,turn,show exs (aa defs (n+4)) aL [U,sv (ofR R),sv (.str (ai h)),sv (.int r.1),sv (cE r.2.1),sv r.2.2]=.ret (.bl false)from by simp[aL,exs,ex,ev,evB,evA,e1,e2,e3]]
  |true =>
   rw[hb]at e1;have eb:exs (aa defs (n+4)) aL [U,sv (ofR R),sv (.str (ai h)),sv (.int r.1),sv (cE r.2.1),sv r.2.2]=.next [U,sv (ofR R),sv (.str (ai h)),sv (.int r.1),sv (cE r.2.1),sv r.2.2]:=by simp[aL,exs,ex,ev,evB,evA,e1,e2,e3]
   have st:=jw (body:=λx l=>cg (cM [3,4,5] x l) λJ=>exs (aa defs (n+4)) aL J) (x:=bU r) (xs:=z.map bU) ((turn _).trans eb);rw[st,Ng];exact nP n R g h U b z (λr aO=>hr r (.tail _ aO)) _ _ _
def JQ(a b):cy .ne (ofL a) (ofL b)=some (!decide (a=b)):=by
 rw[FX,if_pos (show tY _ _=true from rfl),Im]
 rfl
def C0(n:Nat)(R:LL)(g:aF R)(U:R.flatten.length<=4000)(h:Bool)(b:Int×Option Int×PV->Bool)(z:List (Int×Option Int×PV))(Y:z.length<=10000)(Z:∀r∈z,aa defs (n+4) 28 [.val r.2.2,.val (ofR (bh2 h R r.1 r.2.1)),.val (.str (ai (!h))),.val (.str (ai h))]=some (.bl (b r))) :
  aa defs (n+5) 32 [.val (.tup (z.map bU)),.val (ofR R),.val (.str (ai h))]=some (.bl (decide (z.map (·.1)=ab R)&&z.all b)):=by
 rw[ac (d:=gm) rfl rfl];have c1:∀W:Rho,ev (aa defs (n+4)) (.comp .seq [.bor 0] [] (.cst (.bl true)) (ix 0 0)) (sv (.tup (z.map bU))::W)=some (ofL (z.map (·.1))):=λW=>by
  refine(cn (g:=bU) (h:=λr=>.int r.1) (vs:=[.tup (z.map bU)]) (by simp[evs,ev]) rfl Y λr _=>?_).trans (by unfold ofL;rw[J3];rfl);simp[ev,place,cb,bU]
 have e1:ev (aa defs (n+4)) (.cmp .ne (.comp .seq [.bor 0] [] (.cst (.bl true)) (ix 0 0)) (.call 5 [.bor 1])) [sv (.tup (z.map bU)),sv (ofR R),sv (.str (ai h)),none,none,none]=some (.bl (!decide (z.map (·.1)=ab R))):=by
  rw[gY (c1 _) (ae (vs:=[.val (ofR R)]) (by simp[evA]) (c7 (n+2) R g.1 U)),JQ]
  rfl
 show bj (exs (aa defs (n+4)) [.ite _ [.ret _] [],.forT [3,4,5] .seq [.bor 0] aL,.ret _] [sv (.tup (z.map bU)),sv (ofR R),sv (.str (ai h)),none,none,none])=_;rw[aq,ex,uC e1,nu];cases decide (z.map (·.1)=ab R)with
 |false=>rfl
 |true =>
  rw[Mg,if_neg (by decide),exs,aU,aq,qF (xs:=z.map bU) (by simp[evs,ev]),Ng];show bj ((MM.R.back _ _ (ay _ _ [sv (.tup (z.map bU)),sv (ofR R),sv (.str (ai h)),none,none,none])).andThen _)=_;rcases nP n R g h (sv (.tup (z.map bU))) b z Z none none none with⟨J,y3,y4,y5,e⟩|⟨J,e⟩
  .rw[e,J,de,aU,aq,cZ (jv _ _ _)]
   rfl
  .rw[e,J]
   rfl
def wf{n:Nat}{R:LL}(g:aF R)(Z:R.flatten.length<=4000)(h:Bool){b:Int×Option Int×PV->Bool}{J:List (Int×Option Int×PV)}(hl:J.length<=10000)(hr:∀r∈J,aa defs (n+4) 28 [.val r.2.2,.val (ofR (bh2 h R r.1 r.2.1)),.val (.str (ai (!h))),.val (.str (ai h))]=some (.bl (b r))) :
  aa defs (n+7) 28 [.val (.tup [.str "cases",.tup (J.map bU)]),.val (ofR R),.val (.str (ai (!h))),.val (.str (ai h))]=some (.bl ((if h=true then !decide ([]∈R)else !decide (ab R=[]))&&(decide (J.map (·.1)=ab R)&&J.all b))):=by
 have U:=C0 n R g Z h b J hl hr;generalize J.all b=y at U ⊢;generalize decide (J.map (·.1)=ab R)=z at U ⊢;generalize J.map bU=V at U ⊢;cases h with
 |true =>
  refine gM ?_;rw[ac (d:=bO) rfl rfl];have Y:=jx (n+4) R;exact a_ rfl (aW rfl (aW rfl (aW rfl (aW rfl (dy rfl (dw (nJ (ae rfl Y)) λ_=>ae rfl U))))))
 |false =>
  refine gW ?_;rw[ac (d:=ba) rfl rfl];have Y:=c7 (n+3) R g.1 Z;have hz:decide ((0:Int)<((ab R).map PV.int).length)=!decide (ab R=[]):=by
   cases ab R<;>simp
  refine(a_ rfl (aW rfl (aW rfl (aW rfl (aW rfl (dy rfl (dw ((gY (aQ (ae rfl Y)) rfl).trans rfl) λ_=>ae rfl U))))))).trans ?_;rw[hz]
  rfl
def nQ (n) (R V) (h):aa defs (n+3) 28 [.val (.tup [.str "cases",V]),.val R,.val (.str (ai h)),.val (.str (ai h))]=some (.bl false):=by
 cases h
 .refine gW ?_
  rfl
 .refine gM ?_
  rfl
def AK(h:below A B=true):∀s∈A,∃t∈B,sub t s=true:=λs hs=>by
 cases e:sK s B with
 |none =>
  unfold below CY at h;rw[KL]at h;exact absurd (mem_map.mpr ⟨s,hs,e⟩) h
 |some k =>
  obtain⟨z,q,_⟩:=findIdx?_eq_some_iff_getElem.mp e;exact⟨_,Na z,q⟩
def AL(n)(ns)(k b)(z:0<=k)(r):ev (aa defs (n+2)) (.call 37 [(.call 36 [.bor 0,(ci k)]),(ci b)]) (some (.brw (ns.map .int))::r)=some (.int (iI (cellOf ns k) b)):=by
 have J:ev (aa defs (n+2)) (.call 36 [.bor 0,(ci k)]) (some (.brw (ns.map .int))::r)=some (.int _):=ae (vs:=[.brw _,.val _]) (by simp[evA,ev]) (F3 _ (.brw _) ns k rfl z);exact ae (vs:=[.val (.int _),.val _]) (by simp only[evA];rw[J];simp[ev]) (qE _ _ b)
def nR(h)(R)(a)(r):(bh2 h R a r).flatten.length<=R.flatten.length:=uw (iK _ _ _) (iK _ _ _)
theorem k5{α z:Type}(f:α->z):∀(l:List α) k,(l.map f).eraseIdx k=(l.eraseIdx k).map f
 | [],_=>rfl
 | _::_,0=>rfl
 |x::l,k+1=>by simp[k5 f l k]
def i_(n)(R)(h)(g:aF R):aa defs (n+1) 38 [.val (ofR R),.val (.int h)]=some (ofR (aN h R)):=by
 rw[ac (d:=fN) rfl rfl];have U:R.length<=10000:=by have:=g.2.2;omega
 simp[fN,exs,ex,ev,evs,U];rw[gN (h:=λY=>ofS (drp h Y))]
 .have e:(R.map λc=>ofS (drp h c))=(R.map (drp h)).map ofS:=by rw[J3];rfl
  have z:(R.map (drp h)).length<64:=by rw[p0];have:=g.2.2;omega
  rw[e];simp[-List.map_map,gi z,aN]
 .intro c _;simp[ev]
 .intro c hc;have U:=aJ (g.1 c hc);have J:c.length<=10000:=by omega
  simp[ev,evs,evA,cb,J];rw[ce (p:=λx=>!decide (x=h)) (h:=PV.int)]
  .simp[drp]
  .intro x _;simp[ev,cb,v9]
  .intro x _ _;simp[ev,cb]
def C1(n)(R)(g:aF R)(h)(r):aa defs (n+2) 47 [.val (ofR R),.val (.str (ai h)),.val (cE r)]=some (ofR (bhd h R r)):=by
 rw[ac (d:=nB) rfl rfl];cases r with
 |none=>rfl
 |some i =>
  cases h
  .exact aW rfl (aW rfl (g_ (ae rfl (i_ n R i g))))
  .exact aW rfl (dy rfl (ae rfl (kh n R i (by have:=g.2.2;omega))))
theorem ja{α:Type}(f)(g)(cal)(a):∀(W:List α) z s,(∀w∈W,a7 (f w)=some (g w))->z.length+(W.map g).flatten.length<=10000 ->
  ∃s',ay (λx l=>exs cal bJ (put l 2 (.val x))) (W.map f) [some a,some (.own z),s]=.next [some a,some (.own (z++(W.map g).flatten)),s']
 | [],z,s,_,_=>⟨s,by simp⟩
 |w::W,z,s,J,h=>by
  rw[JY,JY,ay];rw[JY,flatten_cons,J0]at h;have h2:z.length+(g w).length<=10000:=by omega
  have e:exs cal bJ (put [some a,some (.own z),s] 2 (.val (f w)))=.next [some a,some (.own (z++g w)),sv (f w)]:=by
   simp[bJ,exs,ex,ev,J w (.head _),h2]
  rw[e];obtain⟨s',U⟩:=ja f g cal a W (z++g w) (sv (f w)) (λw hw=>J w (.tail _ hw)) (by rw[J0];omega);exact⟨s',by rw[flatten_cons,<- KZ];exact U⟩
def uH{α:Type}(f)(g)(n)(v:PV)(W:List α)(hv:a7 v=some (W.map f))(z:∀w∈W,a7 (f w)=some (g w))(J:(W.map g).flatten.length<=10000):aa defs (n+1) 0 [.val v]=some (.lst (W.map g).flatten):=by
 rw[ac (d:=gR) rfl rfl];obtain⟨s',e⟩:=ja f g (aa defs n) (.val v) W [] none z (by simpa using J);rw[nil_append]at e;show bj (exs (aa defs n) (_::_::[_]) [sv v,none,none])=_;simp only[aq];rw[dg (xs:=[]) (by simp[ev,evs]),aU];simp only[cz,cD];rw[eJ (xs:=W.map f) (by simp[evs,ev,hv]),show bv [.bor 0] [sv v,some (.own []),none]=[sv v,some (.own []),none]from rfl,e,de,aU]
 rfl
def F9(h:ev cal a W=some (.bl p))(h':ev cal b W=some (.bl q)):ev cal (.or a b) W=some (.bl (p||q)):=by
 rw[ev,h];cases p<;>first|rfl|simp[h']
noncomputable def bX(r:LL×PV):PV:=.tup [ofR r.1,r.2]
def AM(n)(D:List (LL))(J:D.flatten.length<64):aa defs (n+2) 17 [.val (.lst (D.map ofR))]=some (ofR (sortT D.flatten)):=by
 rw[ac (d:=ny) rfl rfl];have z:(D.map λG=>G.map ofS).flatten=D.flatten.map ofS:=by rw[map_flatten]
 have em:=uH ofR (λG=>G.map ofS) n (.lst (D.map ofR)) D rfl (λ_ _=>rfl) (by rw[z,p0];omega);rw[z]at em;refine g_ (W:=[sv (.lst (D.map ofR))]) ((aQ (v:=.lst ((sortT D.flatten).map ofS)) ?_).trans rfl);rw[aQ (ae (vs:=[.val (.lst (D.map ofR))]) (by simp[evA]) em),gP,jY,bind_some,gi J]
def uI(h:∀t∈F,b_ t)(z:F.length<=60):aF (sortT F):=⟨λt J=>h t (dF.mp J),sortT_rises F,by rw[sortT_len];exact z⟩
def uJ(F):(sortT F).flatten.length=F.flatten.length:=(sortT_perm F).flatten.length_eq
noncomputable def k7(D:List (LL))(R:LL):Bool:=!decide (R.length<D.flatten.length)&&decide (D.map ab).flatten.Nodup&&(sub (ab D.flatten) (ab R)&&below R (sortT D.flatten))
def sN(F):ab (sortT F)=ab F:=by
 rw[<- kf,<- kf];exact sortI_of_perm ((Ls (dd_nodup _) (dd_nodup _)).mpr λx=>by rw[jq,jq];exact(sortT_perm F).flatten.mem_iff)
def C2(n:Nat)(z:List (LL×PV))(R:LL)(g:aF R)(hf:R.flatten.length<=4000)(hl:z.length<=16)(hs:(z.map (·.1)).flatten.length<=60)(Y:(z.map (·.1)).flatten.flatten.length<=4000)(Z:∀r∈z,aF r.1/\r.1.flatten.length<=4000) :
  aa defs (n+5) 33 [.val (.tup (z.map bX)),.val (ofR R)]=some (.bl (k7 (z.map (·.1)) R)):=by
 rw[ac (d:=fE) rfl rfl];have J:∀t∈(z.map (·.1)).flatten,b_ t:=λt ht=>by
  obtain⟨G,J,ht⟩:=K7.mp ht;obtain⟨r,U,rfl⟩:=mem_map.mp J;exact(Z r U).1.1 t ht
 have e1:=AM (n+2) (z.map (·.1)) (by omega);have e2:=wd (n+1) (z.map (·.1)) (λG J=>by
  obtain⟨r,U,rfl⟩:=mem_map.mp J;exact⟨(Z r U).1.1,(Z r U).2⟩) (by rw[p0];exact hl)
 have gT:=uI J hs;have e3:=c7 (n+2) R g.1 hf;have e4:=c7 (n+2) (sortT (z.map (·.1)).flatten) gT.1 (by rw[uJ];exact Y);have e5:=g6 n R (sortT (z.map (·.1)).flatten) g gT;rw[sN]at e4;have l1:=aJ (bG g.1);have l2:=aJ (bG J);have e6:=kX (n+3) (.val (ofL (ab R))) (.val (ofL (ab (z.map (·.1)).flatten))) (ab R) (ab (z.map (·.1)).flatten) rfl rfl (by omega) (by omega) (uw (iV _) l2);have c0:ev (aa defs (n+4)) (.comp .seq [.bor 0] [] (.cst (.bl true)) (ix 0 0)) [sv (.tup (z.map bX)),sv (ofR R),none,none]=some (.lst ((z.map (·.1)).map ofR)):=by
  rw[J3];exact cn (vs:=[.tup (z.map bX)]) (xs:=z) (g:=bX) (by simp[evs,ev]) (by simp[bc]) (by omega) λr _=>by simp[ev,bX,place,cb]
 refine a_ (W:=[sv (.tup (z.map bX)),sv (ofR R),none,none]) c0 ?_;simp only[cz,cD];generalize z.map (·.1)=D at *
 refine a_ (v:=ofR (sortT D.flatten)) (ae (vs:=[.val (.lst (D.map ofR))]) (by simp[evA]) e1) ?_;simp only[cz,cD];have c1:ev (aa defs (n+4)) (.or (.cmp .gt (.blt .len [.bor 3]) (.blt .len [.bor 1])) (.not (.call 18 [.bor 2]))) [sv (.tup (z.map bX)),sv (ofR R),sv (.lst (D.map ofR)),sv (ofR (sortT D.flatten))]=some (.bl (decide (R.length<D.flatten.length)||!decide (D.map ab).flatten.Nodup)):=by
  have q1:ev (aa defs (n+4)) (.cmp .gt (.blt .len [.bor 3]) (.blt .len [.bor 1])) [sv (.tup (z.map bX)),sv (ofR R),sv (.lst (D.map ofR)),sv (ofR (sortT D.flatten))]=some (.bl (decide (R.length<D.flatten.length))):=by
   simp[ev,evs,ofR,sortT_len,-length_flatten]
  have q2:ev (aa defs (n+4)) (.not (.call 18 [.bor 2])) [sv (.tup (z.map bX)),sv (ofR R),sv (.lst (D.map ofR)),sv (ofR (sortT D.flatten))]=some (.bl (!decide (D.map ab).flatten.Nodup)):=by
   rw[ev,ae (vs:=[.val (.lst (D.map ofR))]) (by simp[evA]) e2]
   rfl
  exact F9 q1 q2
 have c2:ev (aa defs (n+4)) (.and (.call 11 [(.call 5 [.bor 1]),(.call 5 [.bor 3])]) (.call 14 [.bor 1,.bor 3])) [sv (.tup (z.map bX)),sv (ofR R),sv (.lst (D.map ofR)),sv (ofR (sortT D.flatten))]=some (.bl (sub (ab D.flatten) (ab R)&&below R (sortT D.flatten))):=by
  refine dw (ae (vs:=[.val (ofL (ab R)),.val (ofL (ab D.flatten))]) ?_ e6) λ_=>ae (vs:=[.val (ofR R),.val (ofR (sortT D.flatten))]) (by simp[evA]) e5
  simp[evA,ev,e3,e4]
 show bj (exs (aa defs (n+4)) (.ite _ [.ret (.cst (.bl false))] []::[.ret _]) _)=_;rw[aq,bx c1];unfold k7;cases h1:decide (R.length<D.flatten.length)with
 |true=>simp[exs,ex,ev]
 |false =>
  cases h2:decide (D.map ab).flatten.Nodup with
  |false=>simp[exs,ex,ev]
  |true =>
   rw[if_neg (by decide),exs,aU,g_ c2]
   rfl
theorem lx (n) (Y) (b):∀(J:List (LL×PV)),(∀r∈J,aa defs n 28 [.val r.2,.val (ofR r.1),.val (.str "weaver"),.val (.str "moth")]=some (.bl (b r)))->∀Z x2,
  (J.all b=true->∃y1 y2,ay (λx l=>cg (cM [1,2] x l) λU=>exs (aa defs n) bK U) (J.map bX) [Y,Z,x2]=.next [Y,y1,y2]) /\
  (J.all b=false->ay (λx l=>cg (cM [1,2] x l) λU=>exs (aa defs n) bK U) (J.map bX) [Y,Z,x2]=.ret (.bl false))
 | [],_,Z,x2=>⟨λ_=>⟨Z,x2,rfl⟩,λz=>by cases z⟩
 |r::J,hr,Z,x2=>by
  have e0:=hr r (.head _);have e3:(cg (cM [1,2] (bX r) [Y,Z,x2]) λU=>exs (aa defs n) bK U)=if b r=true then .next [Y,sv (ofR r.1),sv r.2]else .ret (.bl false):=by
   cases hb:b r<;>rw[hb]at e0<;>simp[bK,bX,cM,mR,cg,exs,ex,ev,evs,evB,evA,e0]
  rw[JY,ay,e3,all_cons];obtain⟨i1,i2⟩:=lx n Y b J (λq hq=>hr q (.tail _ hq)) (sv (ofR r.1)) (sv r.2);cases hb:b r<;>first|exact⟨λz=>(by cases z),λ_=>rfl⟩|exact⟨λz=>i1 z,λz=>i2 z⟩
def AN (n) (b) (z:List (LL×PV)) (U:∀r∈z,aa defs n 28 [.val r.2,.val (ofR r.1),.val (.str "weaver"),.val (.str "moth")]=some (.bl (b r))) :
  aa defs (n+1) 34 [.val (.tup (z.map bX))]=some (.bl (z.all b)):=by
 rw[ac (d:=gp) rfl rfl];obtain⟨Y,Z⟩:=lx n (sv (.tup (z.map bX))) b z U none none;show bj (exs _ [.forT _ _ _ _,.ret _] [sv (.tup (z.map bX)),none,none])=_;rw[aq,qF (xs:=z.map bX) (by simp[evs,ev,bc])];rw[show bv [ME.bor 0] [some (MV.val (.tup (z.map bX))),none,none]=[sv (.tup (z.map bX)),none,none]from rfl];cases J:z.all b with
 |false =>
  rw[Z J]
  rfl
 |true =>
  obtain⟨y1,y2,e⟩:=Y J;rw[e];simp[de,aP,exs,ex,ev]
def wg {n:Nat}{b:LL×PV->Bool}{J:List (LL×PV)}{R:LL} (g:aF R) (hf:R.flatten.length<=4000) (hl:J.length<=16) (hs:(J.map (·.1)).flatten.length<=60) (U:(J.map (·.1)).flatten.flatten.length<=4000) (hg:∀r∈J,aF r.1/\r.1.flatten.length<=4000) (t h:Bool) (hr:∀r∈J,aa defs (n+4) 28 [.val r.2,.val (ofR r.1),.val (.str "weaver"),.val (.str "moth")]=some (.bl (b r))) :
  aa defs (n+7) 28 [.val (.tup [.str "parts",.tup (J.map bX)]),.val (ofR R),.val (.str (ai t)),.val (.str (ai h))]=some (.bl (h&&!t&&(k7 (J.map (·.1)) R&&J.all b))):=by
 have Y:=C2 n J R g hf hl hs U hg;have Z:=AN (n+4) b J hr;generalize J.all b=y at Z ⊢;generalize k7 (J.map (·.1)) R=z at Y ⊢;generalize J.map bX=V at Y Z ⊢;cases h with
 |true =>
  refine gM ?_;rw[ac (d:=bO) rfl rfl];cases t
  .exact a_ rfl (aW rfl (aW rfl (aW rfl (aW rfl (aW rfl (dy rfl (dw (p:=z) (q:=y) (ae rfl Y) λ_=>ae rfl Z)))))))
  .rfl
 |false =>
  refine gW ?_;rw[ac (d:=ba) rfl rfl];cases t<;>rfl
inductive WP:Nat->PV->Prop where
 | leaf {d:Nat}{v:PV} (h:pC v):WP d v
 | one {d:Nat}{v:PV} (k:Bool) (r:Option Int) (h:WP d v):WP (d+1) (.tup [.str (if k=true then "bite" else "knot"),cE r,v])
 | cases {d:Nat} (rows:List (Int×Option Int×PV)) (hl:rows.length<=10000) (h:∀r∈rows,WP d r.2.2):WP (d+1) (.tup [.str "cases",.tup (rows.map bU)])
 | parts {d:Nat} (rows:List (LL×PV)) (hl:rows.length<=16) (hs:(rows.map (·.1)).flatten.length<=60) (hff:(rows.map (·.1)).flatten.flatten.length<=4000) (hg:∀r∈rows,aF r.1/\r.1.flatten.length<=4000) (h:∀r∈rows,WP d r.2):WP (d+1) (.tup [.str "parts",.tup (rows.map bX)])
 | fewer {d:Nat}{v:PV} (A:LL) (gA:aF A) (fA:A.flatten.length<=4000) (h:WP d v):WP (d+1) (.tup [.str "fewer",ofR A,v])
 | either {d:Nat}{v w:PV} (A B:LL) (gA:aF A) (gB:aF B) (fA:A.flatten.length<=4000) (fB:B.flatten.length<=4000) (h:WP d v) (h':WP d w):WP (d+1) (.tup [.str "either",ofR A,v,ofR B,w])
def AO{α J:Type} [Inhabited J] {P:α->J->Prop}{l:List α} (h:∀r∈l,∃b,P r b):∃f:α->J,∀r∈l,P r (f r):=by
 obtain⟨f,Y⟩:=Mw (r:=λr b=>r∈l->P r b) λr=>by
  by_cases U:r∈l
  .obtain⟨b,q⟩:=h r U;exact⟨b,λ_=>q⟩
  .exact⟨default,λz=>absurd z U⟩
 exact⟨f,Y⟩
def up1 :∀{e},d+1<=e->∃x,e=x+1/\d<=x
 |x+1,h=>⟨x,rfl,Kp h⟩
def upN(k:Nat)(h:m+c<=N)(z:k<=c:=by decide):∃n,N=n+k:=⟨N-k,(Nat.sub_add_cancel (uw z (uw (LM c m) h))).symm⟩
def xc1{v:PV}{r:Rho}(h:cal (f+2000) [.mutD (.p ns)]=some (.tup [v,.dI (.p z)])):evX cal (.call f [true] [.bor 0]) (some (.mutD (.p ns))::r)=some (v,some (.mutD (.p z))::r):=by simp_all [evX,rH,evM,f_,jN,fg]
def xc3(Z:evA cal [e] (some (.mutD (.p ns))::r)=some [.val w])(J:evA cal [U] (some (.mutD (.p ns))::r)=some [.val Y])(h:cal (f+2000) [.mutD (.p ns),.val w,.val Y]=some (.tup [v,.dI (.p z)])):evX cal (.call f [true,false,false] [.bor 0,e,U]) (some (.mutD (.p ns))::r)=some (v,some (.mutD (.p z))::r):=by simp_all [evX,rH,evM,f_,jN,fg]
def nS(h:ev cal e W=some v):exs cal (.retM e::ms) W=.retM v W:=by
 rw[aq,ex,h];rfl
def fS(h:evX cal x W=some (v,l)):exs cal (.retXE x::ms) W=.retM v l:=by
 rw[aq,ex,h];rfl
def ie(h:ev cal c W=some (.bl false))(k:exs cal ms W=r):exs cal (.ite c a []::ms) W=r:=by simp_all [bx,exs]
def iL(h:ev cal c W=some (.bl true))(k:exs cal a W=.retM v l):exs cal (.ite c a b::ms) W=.retM v l:=by
 rw[aq,bx h,if_pos rfl,k];rfl
def jA(h:evX cal x W=some (v,l))(k:exs cal ms (put l i (.val v))=r):exs cal (.setX i x::ms) W=r:=by
 rw[aq,ex,h];exact k
def AQ(cal:Cal):Prop:=∀ns,∃x z,0<=x/\cal (46+2000) [.mutD (.p ns)]=some (.tup [.int x,.dI (.p z)])
def F_(n):AQ (aa defs (n+2)):=λns=>by
 rw[gj (d:=gU) (by decide) rfl rfl];by_cases z:ns=[]
 .subst z;refine⟨0,[],Mi _,?_⟩;have e:exs (aa defs (n+1)) gU.body [some (.mutD (.p []))]=.retM (.int 0) [some (.mutD (.p []))]:=ie (by simp[ev,tZ]) (nS (by simp[ev]));show sk _ (exs _ _ [some (.mutD (.p []))])=_;rw[e];simp[sk,dZ]
 .obtain⟨l,x,rfl⟩:∃l x,ns=l++[x]:=⟨ns.dropLast,ns.getLast z,(dropLast_concat_getLast z).symm⟩;refine⟨iI x 2049848353892358983,l,gX _ _,?_⟩;have em:=qE n x 2049848353892358983;have e:exs (aa defs (n+1)) gU.body [some (.mutD (.p (l++[x])))]=.retM (.int (iI x 2049848353892358983)) [some (.mutD (.p l))]:=iL (by simp[ev,tZ]) (fS (by simp[evX,B5,f_,fg,evA,ev,em]));show sk _ (exs _ _ [some (.mutD (.p (l++[x])))])=_;rw[e];simp[sk,dZ]
def cG(h:ev cal e W=some v)(k:evXs cal xs W=some (vs,l)):evXs cal (.pure e::xs) W=some (v::vs,l):=by simp_all [evXs,evX]
def iW(h:evX cal x W=some (v,l)):evXs cal [x] W=some ([v],l):=by simp_all [evXs]
def k8(h:evXs cal xs W=some (vs,l))(z:vs.length<=10000:=by simp):evX cal (.tup xs) W=some (.tup vs,l):=by simp_all [evX]
def xc5(h1:evA cal [J] (some (.mutD (.p ns))::r)=some [.val U])(h2:evA cal [Y] (some (.mutD (.p ns))::r)=some [.val Z])(h3:evA cal [e3] (some (.mutD (.p ns))::r)=some [.val w3])(h4:evA cal [e4] (some (.mutD (.p ns))::r)=some [.val w4])(h:cal (f+2000) [.mutD (.p ns),.val U,.val Z,.val w3,.val w4]=some (.tup [v,.dI (.p z)])):evX cal (.call f [true,false,false,false,false] [.bor 0,J,Y,e3,e4]) (some (.mutD (.p ns))::r)=some (v,some (.mutD (.p z))::r):=by simp_all [evX,rH,evM,f_,jN,fg]
def xcO(hi:(W[i]?).join=some (.ownD (.p ns)))(h1:evA cal [J] W=some [.val U])(h2:evA cal [Y] W=some [.val Z])(h3:evA cal [e3] W=some [.val w3])(h4:evA cal [e4] W=some [.val w4])(h:cal (f+2000) [.mutD (.p ns),.val U,.val Z,.val w3,.val w4]=some (.tup [v,.dI (.p z)])):evX cal (.call f [true,false,false,false,false] [.bor i,J,Y,e3,e4]) W=some (v,W.set i (some (.ownD (.p z)))):=by simp_all [evX,rH,evM,f_,jN,fg]
theorem ly(n)(a):∀(S P:LL) U x y,OkP P->(∀t∈S,b_ t)->P.length+S.length<=60->U.length<=2*P.length ->
  ∃P' U' x' y',OkP P'/\P'.length<=P.length+S.length/\ay (λv l=>exs (aa defs (n+1)) e_ (put l 3 (.val v))) (S.map ofS) [a,some (.own (P.map ofS)),sv (ofL U),x,y]=.next [a,some (.own (P'.map ofS)),sv (ofL U'),x',y']
 | [],P,U,x,y,Y,_,hl,_=>⟨P,U,x,y,Y,by simp,rfl⟩
 |s::S,P,U,x,y,Y,hS,hl,hU=>by
  simp only[length_cons]at hl;have gs:=hS s (.head _);have ea:ev (aa defs (n+1)) (.blt .any [(.comp .seq [.bor 1] [3] (.cst (.bl true)) (.call 41 [.bor 0,.bor 1]))]) [a,some (.own (P.map ofS)),sv (ofL U),sv (ofS s),y]=some (.bl (P.any λt=>sub t s)):=by
   rw[aQ (v:=.lst ((P.map λt=>sub t s).map .bl)),qC,dE]
   .simp
   .refine(cn (g:=ofS) (h:=λt=>.bl (sub t s)) (vs:=[.lst (P.map ofS)]) (by simp[evs,ev]) rfl (by omega) λt ht=>?_).trans (by rw[J3];rfl);exact ae (vs:=[.val (ofS t),.val (ofS s)]) (by simp[evA,cb]) (Au n t s)
  obtain⟨F,hF⟩:∃F,F=s.filter λh=>!decide (h∈U):=⟨_,rfl⟩
  have hm:∀h∈F,0<=h/\h<=59:=λh hh=>gs.2 h (by rw[hF]at hh;exact(Kg.mp hh).1)
  have J:ev (aa defs (n+1)) (.comp .seq [.bor 3] [2] (.cmp .notIn (.bor 0) (.bor 1)) (.var 0)) [a,some (.own (P.map ofS)),sv (ofL U),sv (ofS s),y]=some (ofL F):=by
   rw[ev,show evs (aa defs (n+1)) [.bor 3] [a,some (.own (P.map ofS)),sv (ofL U),sv (ofS s),y]=some [ofS s]from by simp[evs,ev],bind_some,vV,vS,bind_some,if_pos (by rw[p0];have:=aJ gs;omega),ce (p:=λh=>!decide (h∈U)) (h:=PV.int),hF]
   .rfl
   .intro h _;simp[ev,cb,bN]
   .intro h _ _;simp[ev,cb]
  rw[JY,ay];refine ax λZq kq=>?_
  have st:∃Z U1 y1,OkP Z/\Z.length<=P.length+1/\U1.length<=2*Z.length/\exs (aa defs (n+1)) e_ (put [a,some (.own (P.map ofS)),sv (ofL U),x,y] 3 (.val (ofS s)))=.next [a,some (.own (Z.map ofS)),sv (ofL U1),sv (ofS s),y1]:=by
   have c:=nJ ea;cases hq:P.any λt=>sub t s with
   |true =>
    rw[hq]at c;exact⟨P,U,y,Y,by omega,hU,cU ((bx c).trans rfl)⟩
   |false =>
    rw[hq]at c
    match F,hm,J with
    | [],_,J=>exact⟨P,U,sv (ofL []),Y,by omega,hU,cU ((bx c).trans (cq J rfl))⟩
    | [z],_,J=>exact⟨P,U,sv (ofL [z]),Y,by omega,hU,cU ((bx c).trans (cq J rfl))⟩
    |z::w::r,hm,J =>
     refine⟨P++[[z,w]],U++[z,w],sv (ofL (z::w::r)),λt ht=>?_,by simp,by simp;omega,?_⟩
     .rcases Ki.mp ht with h|h
      .exact Y t h
      .exact⟨z,w,by simpa using h,hm z (.head _),hm w (.tail _ (.head _))⟩
     .have hn:(((z::w::r).map PV.int).length:Int)=(r.length:Int)+1+1:=by simp
      have ar:∀k v,0<=k->k<=1->((z::w::r).map PV.int)[k.toNat]?=some v->fo (ofL (z::w::r)) (.int k)=some v:=λk v h0 h1 e=>by
       rw[vU,eZ h0 (by omega)];exact e
      have cu:cut ((z::w::r).map .int) none (some 2)=[.int z,.int w]:=by
       have h4:min 2 (r.length+1+1)=2:=by omega
       simp[cut,fY,h4]
      rw[K8,show ofL (U++[z,w])=.lst (U.map .int++[.int z,.int w])from Kn PV.lst K8];exact cU ((bx c).trans (cq J (cU ((bx (p:=true) ((gY (x:=.int ((((z::w::r).map PV.int).length:Nat):Int)) (y:=.int 1) rfl rfl).trans (by rw[Ae,hn,J9 (by omega)];rfl))).trans (d9 (DC rfl (fH (br ((dG rfl rfl).trans (ar 0 (.int z) (by decide) (by decide) rfl)) (br ((dG rfl rfl).trans (ar 1 (.int w) (by decide) (by decide) rfl)) rfl))) (by rw[p0];omega)) (cU (ju ((cJ rfl (show _=some (PV.lst (cut ((z::w::r).map .int) none (some 2)))from rfl)).trans (by rw[cu,l8,if_pos (by rw[p0];simp;omega)])))))))))
  obtain⟨Z,U1,y1,q1,q2,q3,e⟩:=st;refine kq ?_;rw[e];obtain⟨P',U',x',y',r1,r2,r3⟩:=ly n a S Z U1 (sv (ofS s)) y1 q1 (λt ht=>hS t (.tail _ ht)) (by omega) q3;exact⟨P',U',x',y',r1,by rw[length_cons];omega,r3⟩
def AR(n)(R)(g:aF R):∃P,OkP P/\P.length<=60/\aa defs (n+2) 42 [.val (ofR R)]=some (ofR P):=by
 obtain⟨P,U,x,y,h1,h2,e⟩:=ly n (sv (ofR R)) R [] [] none none (λ_ h=>by cases h) g.1 (by have:=g.2.2;simpa using this) (by simp);refine⟨P,h1,by have:=g.2.2;simp at h2;omega,?_⟩;rw[ac rfl rfl];simp[map_nil]at e;rw[show ofL []=PV.lst []from rfl]at e;simp[j7,exs,ex,ev,evs,evA,bv,aP,e]
def C3(cal)(R)(g:aF R)(h)(a b x):ev cal (.blt .sum [(.comp .seq [.bor 0] [3] (.cmp .isIn (.bor 1) (.bor 0)) (.bin .shr (.bin .pow (ci 2) (ci 60)) (.blt .len [.bor 0])))]) [sv (ofR R),a,b,sv (.int h),x]=some (.int (aI R h)):=by
 rw[F5 (ns:=(R.filter λs=>decide (h∈s)).map wgt) ?_,sI];rw[ev,show evs cal [.bor 0] [sv (ofR R),a,b,sv (.int h),x]=some [ofR R]from by simp[evs,ev],bind_some,vV,vS,bind_some,if_pos (by rw[p0];have:=g.2.2;omega),ce (p:=λs=>decide (h∈s)) (h:=λs=>.int (wgt s)),J3]
 .rfl
 .intro s _;simp[ev,cb,bN]
 .intro s hs _;exact IH _ s (aJ (g.1 s hs)) _
noncomputable def nT(f:Int->Int)(p:Option Int×Int)(h:Int):Option Int×Int:=if p.2<f h then(some h,f h)else p
theorem pF(cal)(R)(g:aF R):∀(hs:List Int) p x y,∃z J,ay (λv l=>exs cal dW (put l 3 (.val v))) (hs.map .int) [sv (ofR R),sv (cE p.1),sv (.int p.2),x,y]=.next [sv (ofR R),sv (cE (hs.foldl (nT (aI R)) p).1),sv (.int (hs.foldl (nT (aI R)) p).2),z,J]
 | [],p,x,y=>⟨x,y,rfl⟩
 |h::hs,p,x,y=>by
  have e:=C3 cal R g h (sv (cE p.1)) (sv (.int p.2)) y;rw[JY,ay];have st:exs cal dW (put [sv (ofR R),sv (cE p.1),sv (.int p.2),x,y] 3 (.val (.int h)))=.next [sv (ofR R),sv (cE (nT (aI R) p h).1),sv (.int (nT (aI R) p h).2),sv (.int h),sv (.int (aI R h))]:=by
   simp only[cz,cD,dW];refine cq e ?_;simp only[cz,cD,nT];by_cases q:p.2<aI R h
   .simp[exs,ex,ev,evB,q,cE]
   .simp[exs,ex,ev,evB,q]
  rw[st];exact pF cal R g hs _ _ _
noncomputable def AS(R:LL):Option Int:=((ab R).foldl (nT (aI R)) (none,0)).1
def Ga(n:Nat)(R:LL)(g:aF R):aa defs (n+2) 43 [.val (ofR R)]=some (cE (AS R)):=by
 obtain⟨x,y,e⟩:=pF (aa defs (n+1)) R g (ab R) (none,0) none none;rw[ac (d:=pB) rfl rfl];have z:∀W:Rho,ev (aa defs (n+1)) (.call 40 [.bor 0]) (sv (ofR R)::W)=some (ofL (ab R)):=λW=>ae (vs:=[.val (ofR R)]) (by simp[evA]) (l9 n R g.1)
 show bj (exs (aa defs (n+1)) [.set 1 _,.set 2 _,.for1 3 .seq [(.call 40 [.bor 0])] dW,.ret _] [sv (ofR R),none,none,none,none])=_;refine a_ (jv _ _ _) (a_ (jv _ _ _) (jy (l:=[sv (ofR R),sv (cE (AS R)),sv (.int ((ab R).foldl (nT (aI R)) (none,0)).2),x,y]) ?_ (g_ (v:=cE (AS R)) ?_)))
 .simp only[cz,cD];rw[eJ (xs:=(ab R).map .int) (by rw[evs,z];rfl)];show(MM.R.back _ _ (ay _ _ [sv (ofR R),sv (cE none),sv (.int 0),none,none]))=_;rw[e]
  rfl
 .cases AS R<;>simp[ev,cE]
def AT(n:Nat)(R:LL)(g:aF R)(p:Int):∃r:Option Int,aa defs (n+3) 48 [.val (ofR R),.val (.int p)]=some (cE r):=by
 have e:=Ga n R g;rw[ac (d:=dY) rfl rfl];by_cases z:p % 8=0
 .exact⟨none,by simp[dY,exs,ex,ev,evB,z,cE]⟩
 .by_cases h1:p % 8=1
  .exact⟨some (p / 8 % 60),by simp[dY,exs,ex,ev,evB,h1,cE]⟩
  .exact⟨AS R,by simp[dY,exs,ex,ev,evB,evA,z,h1,e]⟩
def g7 (h:k="bare" \/ k="whole" \/ k="weight"):pC (.tup [.str k]):=by
 rcases h with rfl|rfl|rfl
 .exact .inl rfl
 .exact .inr (.inl rfl)
 .exact .inr (.inr (.inl rfl))
def AU(n)(R)(g:aF R)(t h)(p):∃v,pC v/\aa defs (n+3) 50 [.val (ofR R),.val (.str (ai t)),.val (.str (ai h)),.val (.int p)]=some v:=by
 obtain⟨P,h1,h2,e⟩:=AR n R g;rw[ac (d:=lv) rfl rfl];cases h with
 |false =>
  have k:∀b,isIn (ofS []) (R.map ofS)=some b->∀W,ev (aa defs (n+2)) (.idx (.lst [(.tup [(cs "weight")]),(.tup [(cs "whole")])]) (.blt .intOf [(.cmp .isIn (.tup []) (.bor 0))])) (sv (ofR R)::W)=some (.tup [.str ((if b=true then "whole" else "weight":String):PySem.Str)]):=λb z W=>(dG rfl (aQ (CU z rfl rfl))).trans (by cases b<;>rfl)
  exact⟨_,g7 (k:=if decide ([]∈R)=true then "whole" else "weight") (by cases decide ([]∈R)<;>simp),dy rfl (k _ (nq [] R) _)⟩
 |true =>
  by_cases J:R=[]
  .subst J;exact⟨_,g7 (.inl rfl),rfl⟩
  .have U:((R.length:Int)==0)=false:=by
    simp_all
   have c:∀W,ev (aa defs (n+2)) (.cmp .eq (.blt .len [.bor 0]) (ci 0)) (sv (ofR R)::W)=some (.bl false):=λW=>qK (xs:=R.map ofS) (by rw[p0];exact U) rfl
   have d:∀W,ev (aa defs (n+2)) (.and (.cmp .eq (.bor 1) (cs "weaver")) (.cmp .eq (.bin .mod (.bor 3) (ci 2)) (ci 0))) (sv (ofR R)::sv (.str (ai t))::sv (.str (ai true))::sv (.int p)::W)=some (.bl (!t&&(p % 2==0))):=λW=>dw (by cases t<;>rfl) λ_=>cT rfl (by decide)
   cases q:(!t&&(p % 2==0))with
   |true =>
    rw[q]at d;exact⟨.tup [.str "pairs",ofR P],.inr (.inr (.inr ⟨P,h1,h2,rfl⟩)),aW rfl (aW (c _) (dy (d _) (fH (br rfl (br (ae rfl e) rfl)))))⟩
   |false =>
    rw[q]at d;exact⟨_,g7 (.inr (.inr rfl)),aW rfl (aW (c _) (aW (d _) rfl))⟩
theorem nU(cal:Cal)(a0 a2 a3 a6:Option MV)(base Y z U:Int)(hb:0<=base)(b3:base<=48)(ho:0<=Y)(hm:0<z)(hs:Y+z<=12)(hk:fo (.lst [.int 0,.int 4,.int 8,.int 0]) (.int U)=some (.int Y)):∀(xs:List PV) (left:Int) (J:List Int) (k ao:Option MV),J.Nodup->(∀x∈J,base<=x/\x<=base+11)->J.length+xs.length<=100 ->
  ∃(aO:Int) (Z:List Int) (k' a1:Option MV),ay (λx l=>exs cal bE (put l 9 (.val x))) xs [a0,sv (.int base),a2,a3,sv (.int left),sv (.int U),a6,sv (.int z),some (.own (J.map .int)),k,ao]=.next [a0,sv (.int base),a2,a3,sv (.int aO),sv (.int U),a6,sv (.int z),some (.own (Z.map .int)),k',a1]/\Z.Nodup/\(∀x∈Z,base<=x/\x<=base+11)/\Z.length<=J.length+xs.length
 | [],left,J,k,ao,h1,h2,_=>⟨left,J,k,ao,rfl,h1,h2,pb _⟩
 |x::xs,left,J,k,ao,h1,h2,h3=>by
  rw[length_cons]at h3;have m0:0<=left % z:=Lf _ (by omega);have m1:left % z<z:=Lc _ hm;have cd:J.length<10000:=by omega
  have ar:z<1073741824:=by omega
  rw[ay];have e:exs cal bE (put [a0,sv (.int base),a2,a3,sv (.int left),sv (.int U),a6,sv (.int z),some (.own (J.map .int)),k,ao] 9 (.val x))=.next [a0,sv (.int base),a2,a3,sv (.int (left / z)),sv (.int U),a6,sv (.int z),some (.own ((if base+Y+left % z∈J then J else J++[base+Y+left % z]).map .int)),sv x,sv (.int (base+Y+left % z))]:=by
   by_cases q:base+Y+left % z∈J
   .simp[bE,exs,ex,ev,evs,evB,hk,hm,ar,bN,q]
   .simp[bE,exs,ex,ev,evs,evB,hk,hm,ar,bN,q,cd]
  rw[e];obtain⟨l',Z,k',o',f1,f2,f3,f4⟩:=nU cal a0 a2 a3 a6 base Y z U hb b3 ho hm hs hk xs (left / z) (if base+Y+left % z∈J then J else J++[base+Y+left % z]) (sv x) (sv (.int (base+Y+left % z))) (by
   split
   .exact h1
   .rename_i q;exact LH.mpr ⟨h1,by simp,λa ha b hb e=>by rw[J8.mp hb]at e;exact q (e▸ha)⟩) (by
   split
   .exact h2
   .intro y hy;rcases Ki.mp hy with hy|hy
    .exact h2 y hy
    .rw[J8.mp hy];omega) (by
   split
   .omega
   .rw[J0,length_singleton];omega)
  refine⟨l',Z,k',o',f1,f2,f3,?_⟩;rw[length_cons];split at f4
  .omega
  .rw[J0,length_singleton]at f4;omega
def sO(h:(evs cal src W).bind (bc k)=some xs)(e:ay (λx l=>exs cal body (put l i (.val x))) xs (bv src W)=.next l)(q:exs cal ms (aP src W l)=r):exs cal (.for1 i k src body::ms) W=r:=by simp_all [aq,eJ]
def AV(n:Nat)(c base z U:Int)(h1:0<=base)(h2:base<=48)(h3:3<=z)(h4:z<=4)(h5:0<=U)(h6:U<=2):∃s,(b_ s/\s.length<=4)/\(∀h∈s,base<=h/\h<=base+11)/\aa defs (n+2) 45 [.val (.int c),.val (.int base),.val (.int z),.val (.int U)]=some (ofS s):=by
 rw[ac (d:=fF) rfl rfl];have em:=qE n c 1181783497276652981;generalize iI c 1181783497276652981=l at em;have hp:0<z:=by omega
 have a6:z<1073741824:=by omega
 obtain⟨J,hs⟩:∃x,x=l % z:=⟨_,rfl⟩;obtain⟨size,hz⟩:∃x,x=U+l / z % 3:=⟨_,rfl⟩;have q0:0<=J:=by rw[hs];exact Lf _ (by omega)
 have q1:J<4:=by have:=Lc l hp;omega
 have s0:0<=size:=by omega
 have s1:size<=4:=by omega
 obtain⟨Y,ao,a1,a2,a3,a4,a5⟩:∃Y ao:Int,0<Y/\0<=ao/\ao+Y<=12/\fo (.lst [.int 4,.int 4,.int 4,.int 12]) (.int J)=some (.int Y)/\fo (.lst [.int 0,.int 4,.int 8,.int 0]) (.int J)=some (.int ao):=by
  obtain rfl|rfl|rfl|rfl:J=0\/J=1\/J=2\/J=3:=by omega
  .exact⟨4,0,by decide,by decide,by decide,rfl,rfl⟩
  .exact⟨4,4,by decide,by decide,by decide,rfl,rfl⟩
  .exact⟨4,8,by decide,by decide,by decide,rfl,rfl⟩
  .exact⟨12,0,by decide,by decide,by decide,rfl,rfl⟩
 obtain⟨l',Z,k',o',e,g1,g2,g3⟩:=nU (aa defs (n+1)) (sv (.int c)) (sv (.int z)) (sv (.int U)) (sv (.int size)) base ao Y J h1 h2 a2 a1 a3 a5 ((range size.toNat).map λ(k:Nat)=>PV.int (k:Int)) (l / z / 3) [] none none Li (λ_ h=>by cases h) (by simp;omega);have g3:Z.length<=4:=by rw[p0,MW,length_nil]at g3;omega
 have ar:∀h∈sortI Z,base<=h/\h<=base+11:=λh hh=>g2 h (pw.mp hh)
 refine⟨sortI Z,⟨⟨sr g1,λh hh=>⟨L8 h1 (ar h hh).1,L8 (ar h hh).2 (by omega)⟩⟩,by rw[sortI_len];exact g3⟩,ar,?_⟩;show bj (exs (aa defs (n+1)) (_::_::_::_::_::_::_::_::[_]) [sv (.int c),sv (.int base),sv (.int z),sv (.int U),none,none,none,none,none,none,none])=_;refine a_ (v:=.int l) (ae (vs:=[.val (.int c),.val (.int 1181783497276652981)]) (by simp[evA,ev]) em) (a_ (v:=.int J) (by simp[ev,hp,hs]) (a_ (v:=.int (l / z)) (by simp[ev,hp,a6]) (a_ (v:=.int size) (by simp[ev,hz]) (a_ (v:=.int (l / z / 3)) (by simp[ev]) (a_ (v:=.int Y) (by rw[dG (y:=.int J) rfl rfl];exact a4) ?_)))));simp only[cz,cD];refine jy (dg (xs:=[]) (by simp[ev,evs])) ?_;simp only[cz,cD];refine Kn bj (sO (r:=.ret (ofS (sortI Z))) (xs:=(range size.toNat).map λ(k:Nat)=>PV.int (k:Int)) ?_ e ?_)
 .rw[show evs (aa defs (n+1)) [.bor 6] [sv (.int c),sv (.int base),sv (.int z),sv (.int U),sv (.int (l / z / 3)),sv (.int J),sv (.int size),sv (.int Y),some (.own []),none,none]=some [.int size]from by simp[evs,ev],bind_some,nv s0 (by omega)]
 .rw[aq,cZ (v:=ofS (sortI Z))]
  .rfl
  .refine(aQ (v:=ofL (sortI Z)) ?_).trans rfl;rw[aQ (v:=ofL Z) rfl,gP,jY,bind_some,pq (by omega)]
def C4(n:Nat)(c base z J:Int)(h1:0<=base)(h2:base<=48)(U:3<=z)(Y:z<=4)(Z:0<=J)(h6:J<=2):∃s,(b_ s/\s.length<=4)/\aa defs (n+2) 45 [.val (.int c),.val (.int base),.val (.int z),.val (.int J)]=some (ofS s):=
 let ⟨s,q,_,e⟩:=AV n c base z J h1 h2 U Y Z h6;⟨s,q,e⟩
noncomputable abbrev pG(G:LL):PV:=.lst (G.map ofS)
def C5(cal)(z a1 J U)(s)(G)(hG:G.length<=60)(Y:∀t∈G,t.length<=60):ev cal (.blt .any [(.comp .seq [.bor 5] [2] (.cst (.bl true)) (.blt .any [(.comp .seq [.bor 0] [1] (.cst (.bl true)) (.cmp .isIn (.bor 0) (.bor 1)))]))]) [z,a1,sv (ofS s),J,U,sv (pG G)]=some (.bl ((G.map λt=>(t.map λx=>decide (x∈s)).any id).any id)):=by
 have e:∀(xs:List Bool),aC .any [.lst (xs.map .bl)]=some (.bl (xs.any id)):=λxs=>by rw[qC,dE];rfl
 rw[aQ (v:=.lst ((G.map λt=>(t.map λx=>decide (x∈s)).any id).map .bl)),e];rw[J3];refine cn (vs:=[pG G]) (xs:=G) (g:=ofS) rfl rfl (by omega) λt Z=>?_
 rw[aQ (v:=.lst ((t.map λx=>decide (x∈s)).map .bl)),e]
 .rfl
 rw[J3];refine cn (vs:=[ofS t]) (xs:=t) (g:=.int) rfl rfl (by have:=Y t Z;omega) λx _=>?_
 simp[ev,cb,bN]
theorem iM(cal)(Z a1)(s):∀(D:List (LL)) (z:LL) (J:List (LL)) (y:Option MV),(∀t∈D.flatten,t.length<=60)->z.length+D.flatten.length<=60->J.length+D.length<=60 ->
  ∃(U:LL) (Y:List (LL)) (y':Option MV),ay (λx l=>exs cal dP (put l 5 (.val x))) (D.map pG) [Z,a1,sv (ofS s),sv (pG z),some (.own (J.map pG)),y]=.next [Z,a1,sv (ofS s),sv (pG U),some (.own (Y.map pG)),y']/\(U++Y.flatten).Perm (z++J.flatten++D.flatten)/\Y.length<=J.length+D.length
 | [],z,J,y,_,_,_=>⟨z,J,y,rfl,by simp,pb _⟩
 |G::D,z,J,y,h1,h2,h3=>by
  rw[flatten_cons]at h1 h2;rw[J0]at h2;rw[length_cons]at h3;rw[JY,ay];have et:=C5 cal Z a1 (sv (pG z)) (some (.own (J.map pG))) s G (by omega) λt ht=>h1 t (ML _ ht)
  generalize ((G.map λt=>(t.map λx=>decide (x∈s)).any id).any id)=b at et;have ar:∀t∈D.flatten,t.length<=60:=λt ht=>h1 t (KD _ ht)
  cases b with
  |true =>
   have e:exs cal dP (put [Z,a1,sv (ofS s),sv (pG z),some (.own (J.map pG)),y] 5 (.val (pG G)))=.next [Z,a1,sv (ofS s),sv (pG (z++G)),some (.own (J.map pG)),sv (pG G)]:=by
    refine cU ?_;simp only[cz,cD];rw[bx et,if_pos rfl];refine cU (ju ?_);rw[cJ rfl rfl,l8,if_pos (by rw[p0,p0];omega),<- K8]
   rw[e];obtain⟨n',f',y',q1,q2,q3⟩:=iM cal Z a1 s D (z++G) J (sv (pG G)) ar (by rw[J0];omega) (by omega);refine⟨n',f',y',q1,q2.trans ?_,by rw[length_cons];omega⟩;rw[flatten_cons,<- KZ];refine Perm.append_right _ ?_;rw[KZ,KZ];exact Perm.append_left _ Mb
  |false =>
   have e:exs cal dP (put [Z,a1,sv (ofS s),sv (pG z),some (.own (J.map pG)),y] 5 (.val (pG G)))=.next [Z,a1,sv (ofS s),sv (pG z),some (.own ((J++[G]).map pG)),sv (pG G)]:=by
    refine cU ?_;simp only[cz,cD];rw[bx et,if_neg (by decide)];have bA:J.length<10000:=by omega
    simp[exs,ex,ev,bA]
   rw[e];obtain⟨n',f',y',q1,q2,q3⟩:=iM cal Z a1 s D z (J++[G]) (sv (pG G)) ar (by omega) (by rw[J0,length_singleton];omega);rw[J0,length_singleton]at q3;refine⟨n',f',y',q1,q2.trans ?_,by rw[length_cons];omega⟩;simp
theorem lz(cal)(U):∀R A (P:List (LL)) Z x3 x4 Y,P.flatten.Perm A->P.length<=A.length->A.length+R.length<=50->(∀t∈A++R,t.length<=60) ->
  ∃(P':List (LL)) (y2 y3 y4 y5:Option MV),ay (λx l=>exs cal dQ (put l 2 (.val x))) (R.map ofS) [U,sv (.lst (P.map pG)),Z,x3,x4,Y]=.next [U,sv (.lst (P'.map pG)),y2,y3,y4,y5]/\P'.flatten.Perm (A++R)/\P'.length<=(A++R).length
 | [],A,P,Z,x3,x4,Y,p,hl,_,_=>⟨P,Z,x3,x4,Y,rfl,by simpa using p,by simpa using hl⟩
 |s::R,A,P,Z,x3,x4,Y,p,hl,h1,h2=>by
  rw[length_cons]at h1;rw[JY,ay];refine ax λZq kq=>?_
  have hP:=p.length_eq;obtain⟨z,J,y,e1,e2,e3⟩:=iM cal U (sv (.lst (P.map pG))) s P [] [] Y (λt ht=>h2 t (ML _ (p.mem_iff.mp ht))) (by rw[length_nil,hP];omega) (by rw[length_nil];omega);simp only[nil_append,flatten_nil]at e2;have hn:=e2.length_eq;rw[J0]at hn;rw[length_nil,LF]at e3;have e:exs cal dQ (put [U,sv (.lst (P.map pG)),Z,x3,x4,Y] 2 (.val (ofS s)))=.next [U,sv (.lst ((J++[z++[s]]).map pG)),sv (ofS s),sv (pG z),some (.own (J.map pG)),y]:=by
   refine cq (v:=pG []) (by simp[ev,evs]) (d9 (dg (xs:=[]) (by simp[ev,evs])) (sO (xs:=P.map pG) (by simp[evs,ev]) e1 (cU (ju ?_))));have q:ev cal (.bin .add (.bor 3) (.lst [.var 2])) [U,sv (.lst (P.map pG)),sv (ofS s),sv (pG z),some (.own (J.map pG)),y]=some (pG (z++[s])):=by
    rw[cJ (x:=pG z) (y:=.lst [ofS s]) rfl (by simp[ev,evs]),l8,if_pos (by simp;omega)];simp
   show ev cal _ [U,sv (.lst (P.map pG)),sv (ofS s),sv (pG z),some (.own (J.map pG)),y]=_;rw[cJ (x:=.lst (J.map pG)) (y:=.lst [pG (z++[s])]) rfl (by rw[ev,evs,q];simp[evs]),l8,if_pos (by simp;omega)];simp
  refine kq ?_;rw[e];obtain⟨P',y2,y3,y4,y5,f1,f2,f3⟩:=lz cal U R (A++[s]) (J++[z++[s]]) (sv (ofS s)) (sv (pG z)) (some (.own (J.map pG))) y (by
   rw[flatten_append,flatten_singleton,<- KZ];exact Perm.append_right _ ((Mb.trans e2).trans p)) (by simp;omega) (by simp;omega) (by simpa using h2)
  exact⟨P',y2,y3,y4,y5,f1,by simpa using f2,by simpa using f3⟩
def SmR(R:LL):Prop:=aF R/\R.length<=8/\R.flatten.length<=60
def nV{R:LL}(g:SmR R)(r):SmR (bhd h R r):=by
 refine⟨fb g.1 r,uw ?_ g.2.1,uw (iK h R r) g.2.2⟩;cases r<;>first|exact pb _|(cases h<;>first|exact Md _ _|(show(sortT _).length<=_;rw[sortT_len,p0];exact pb _))
def AW(n:Nat)(R:LL)(g:SmR R):∃D:List (LL),aa defs (n+1) 49 [.val (ofR R)]=some (.lst (D.map ofR))/\D.length<=8/\D.flatten.length<=8/\D.flatten.flatten.length<=60/\(∀Q∈D,SmR Q)/\∀Q∈D,∀t∈Q,t∈R:=by
 obtain⟨P,y2,y3,y4,y5,e1,Y,e3⟩:=lz (aa defs n) (sv (ofR R)) R [] [] none none none none (by simp) (pb _) (by have:=g.2.1;simp;omega) (λt J=>aJ (g.1.1 t (by simpa using J)));rw[nil_append]at Y e3;have U:(P.map sortT).flatten.Perm R:=by
  refine Perm.trans ?_ Y;clear e1 Y e3
  induction P with
  |nil=>exact .nil
  |cons G P ih=>simp only[JY,flatten_cons];exact(sortT_perm G).append ih
 have hf:=U.flatten.length_eq;have Z:∀Q∈P.map sortT,Q.Sublist (P.map sortT).flatten:=λQ z=>MF z
 have hb:∀Q∈P.map sortT,SmR Q:=λQ z=>by
  have l1:=(Z Q z).length_le;have l2:=(MF (Ml (f:=flatten) z)).length_le;rw[<- flatten_flatten]at l2;rw[U.length_eq]at l1;rw[hf]at l2;have:=g.2.1;have:=g.2.2;refine⟨⟨λt J=>g.1.1 t (U.mem_iff.mp ((Z Q z).subset J)),?_,by omega⟩,by omega,by omega⟩;obtain⟨G,_,rfl⟩:=mem_map.mp z;exact sortT_rises G
 refine⟨P.map sortT,?_,by rw[p0];have:=g.2.1;omega,by rw[U.length_eq];exact g.2.1,by rw[hf];exact g.2.2,hb,λQ z t J=>U.mem_iff.mp ((Z Q z).subset J)⟩;rw[ac (d:=lu) rfl rfl];show bj (exs (aa defs n) [.set 1 _,.for1 2 .seq [.bor 0] dQ,.ret _] [sv (ofR R),none,none,none,none,none])=_;refine a_ (v:=.lst []) (by simp[ev,evs]) (Kn bj (sO (r:=.ret (.lst ((P.map sortT).map ofR))) (xs:=R.map ofS) (by simp[evs,ev]) e1 ?_));rw[aq,cZ (v:=.lst ((P.map sortT).map ofR))]
 .rfl
 rw[J3];refine cn (vs:=[.lst (P.map pG)]) (xs:=P) (g:=pG) rfl rfl (by have:=g.2.1;omega) λG hG=>?_
 have hl:G.length<64:=by
  have:=(hb (sortT G) (Ml hG)).2.1;rw[sortT_len]at this;omega
 refine(aQ (v:=.lst ((sortT G).map ofS)) ?_).trans rfl;rw[aQ (v:=pG G) rfl,gP,jY,bind_some,gi hl]
def C6(n:Nat)(R:LL)(g:SmR R):∃D:List (LL),aa defs (n+1) 49 [.val (ofR R)]=some (.lst (D.map ofR))/\D.length<=8/\D.flatten.length<=8/\D.flatten.flatten.length<=60/\∀Q∈D,SmR Q:=
 let ⟨D,e,h1,h2,z,J,_⟩:=AW n R g;⟨D,e,h1,h2,z,J⟩
def DE:∀(a b:List Int),a.Nodup->a ⊆ b->a.length<=b.length:=λa=>by
 induction a with
 |nil=>intro b _ _;exact Kd _
 |cons x a ih =>
  intro b Y hs;obtain⟨Z,n2⟩:=Kt.mp Y;have z:=hs (.head _);have:=ih (b.erase x) n2 λy U=>by
   have J:y≠x:=λe=>Z (e▸U)
   exact(mem_erase_of_ne J).mpr (hs (.tail _ U))
  rw[length_erase_of_mem z]at this;have:=length_pos_of_mem z;rw[length_cons];omega
def pH{l:List Int}(h:l.Pairwise (· < ·)):l.Nodup:=h.imp λh e=>by omega
def wj{R:LL} :(∃s∈bhd t R (some h),k∈s)->(∃s∈R,k∈s)/\k≠h:=by
 rintro ⟨s,hs,z⟩;cases t with
 |true =>
  obtain⟨h1,h2⟩:=Kg.mp (show s∈R.filter _ from hs);exact⟨⟨s,h1,z⟩,λe=>by subst e;simp[z]at h2⟩
 |false =>
  obtain⟨t,J,rfl⟩:=mem_map.mp (dF.mp (show s∈sortT _ from hs));obtain⟨h1,h2⟩:=Kg.mp z;exact⟨⟨t,J,h1⟩,by simpa using h2⟩
def bi{R:LL}(U:h∈ab R):(ab (bhd t R (some h))).length+1<=(ab R).length:=by
 have:=DE (h::ab (bhd t R _)) _ (Kt.mpr ⟨λz=>(wj (am.mp z)).2 rfl,pH (gZ _)⟩) λy J=>by
  rcases wh.mp J with rfl|J
  .exact U
  .exact am.mpr (wj (am.mp J)).1
 simpa using this
theorem WP.le{d:Nat}{v:PV}(h:WP d v):∀{e:Nat},d<=e->WP e v:=by
 induction h with
 |leaf h=>exact λ_=>.leaf h
 |one k r _ ih=>intro e z;obtain⟨e,rfl,hx⟩:=up1 z;exact .one k r (ih hx)
 |cases rows Y _ ih=>intro e z;obtain⟨e,rfl,hx⟩:=up1 z;exact .cases rows Y λr J=>ih r J hx
 |parts rows a b c d _ ih=>intro e z;obtain⟨e,rfl,hx⟩:=up1 z;exact .parts rows a b c d λr J=>ih r J hx
 |fewer A a b _ ih=>intro e z;obtain⟨e,rfl,hx⟩:=up1 z;exact .fewer A a b (ih hx)
 |either A B a b c d _ _ ih U=>intro e z;obtain⟨e,rfl,hx⟩:=up1 z;exact .either A B a b c d (ih hx) (U hx)
def qM(k:Nat)(R:LL)(t w:Bool)(v:PV):Prop:=
 (w=t/\∃h s,v=.tup [.str (if t=true then "bite" else "knot"),.int h,s]/\WP k s)\/(w=false/\[]∈R/\v=.tup [.str "whole"])\/(w=true/\R=[]/\v=.tup [.str "bare"])\/(w=(!t)/\WP (k+1) v)
theorem qM.wp{R:LL}(h:qM k R t w v):WP (k+1) v:=by
 rcases h with⟨_,a,s,rfl,h⟩|⟨_,_,rfl⟩|⟨_,_,rfl⟩|⟨_,h⟩
 .exact .one t (some a) h
 .exact .leaf (g7 (.inr (.inl rfl)))
 .exact .leaf (g7 (.inl rfl))
 .exact h
def AX(cal:Cal)(k:Nat):Prop:=∀R t,SmR R->(ab R).length<=k->∃w v,qM k R t w v/\cal 44 [.val (ofR R),.val (.str (ai t))]=some (.tup [.str (ai w),v])
theorem nW(cal)(hT:AX cal k)(R)(g:SmR R)(hw:¬ []∈R)(hb:R≠[])(hk:(ab R).length<=k+1)(t)(eK:∀h,cal 38 [.val (ofR R),.val (.int h)]=some (ofR (aN h R)))(eB:∀h,cal 39 [.val (ofR R),.val (.int h)]=some (ofR (bb h R))):∀(hs:List Int) (J:List (Int×Option Int×PV)) x y,(∀h∈hs,h∈ab R)->J.length+hs.length<=100->(∀r∈J,WP k r.2.2) ->
  (∃h s,WP (k+1) s/\ay (λv l=>exs cal cR (put l 3 (.val v))) (hs.map .int) [sv (ofR R),sv (.str (ai t)),some (.own (J.map bU)),x,y]=.ret (.tup [.str (ai t),.tup [.str (if t=true then "bite" else "knot"),.int h,s]])) \/
  ∃(U:List (Int×Option Int×PV)) (x' y':Option MV),ay (λv l=>exs cal cR (put l 3 (.val v))) (hs.map .int) [sv (ofR R),sv (.str (ai t)),some (.own (J.map bU)),x,y]=.next [sv (ofR R),sv (.str (ai t)),some (.own (U.map bU)),x',y']/\U.length<=100/\∀r∈U,WP k r.2.2
 | [],J,x,y,_,Y,Z=>.inr ⟨J,x,y,rfl,by simpa using Y,Z⟩
 |h::hs,J,x,y,hm,Y,Z=>by
  rw[length_cons]at Y;have hh:=hm h (.head _);obtain⟨w,v,ok,e⟩:=hT (bhd t R (some h)) (!t) (nV g _) (by have:=bi (t:=t) hh;omega);rw[JY,ay];have e1:ex cal (.ite (.cmp .eq (.bor 1) (cs "weaver")) [.set 4 (.call 44 [(.call 38 [.bor 0,.bor 3]),(cs "moth")])] [.set 4 (.call 44 [(.call 39 [.bor 0,.bor 3]),(cs "weaver")])]) [sv (ofR R),sv (.str (ai t)),some (.own (J.map bU)),sv (.int h),y]=.next [sv (ofR R),sv (.str (ai t)),some (.own (J.map bU)),sv (.int h),sv (.tup [.str (ai w),v])]:=by
   cases t
   .rw[bx (p:=true) rfl];exact cU (ju (ae (g5 (ae rfl (eK h)) rfl) e))
   .rw[bx (p:=false) rfl];exact cU (ju (ae (g5 (ae rfl (eB h)) rfl) e))
  by_cases q:w=t
  .subst q;refine .inl ⟨h,v,ok.wp,?_⟩;rw[show exs cal cR (put [sv (ofR R),sv (.str (ai w)),some (.own (J.map bU)),x,y] 3 (.val (.int h)))=.ret (.tup [.str (ai w),.tup [.str (if w=true then "bite" else "knot"),.int h,v]])from d9 e1 (by cases w<;>exact AF rfl rfl)]
  .obtain rfl:w=(!t):=by cases w<;>cases t<;>simp_all
   obtain⟨a,s,rfl,ao⟩:∃(a:Int) (s:PV),v=.tup [.str (if (!t)=true then "bite" else "knot"),.int a,s]/\WP k s:=by
    rcases ok with⟨_,z⟩|⟨a,b,_⟩|⟨a,b,_⟩|⟨a,_⟩
    .exact z
    .cases t with
     |false=>cases a
     |true=>exact absurd (Kg.mp b).1 hw
    .cases t with
     |true=>cases a
     |false =>
      have:=Kn List.length b;rw[show(bhd false R (some h)).length=R.length from by show(sortT _).length=_;rw[sortT_len,p0]]at this;exact absurd (J6.mp this) hb
    .cases t<;>cases a
   have ar:(J.map bU).length<10000:=by rw[p0];omega
   have e2:exs cal cR (put [sv (ofR R),sv (.str (ai t)),some (.own (J.map bU)),x,y] 3 (.val (.int h)))=.next [sv (ofR R),sv (.str (ai t)),some (.own ((J++[(h,some a,s)]).map bU)),sv (.int h),sv (.tup [.str (ai (!t)),.tup [.str (if (!t)=true then "bite" else "knot"),.int a,s]])]:=d9 e1 (by
    rw[K8];cases t<;>exact xF rfl (cU (DC (v:=bU (h,some a,s)) rfl rfl ar)))
   rw[e2];exact nW cal hT R g hw hb hk t eK eB hs (J++[(h,some a,s)]) _ _ (λy hy=>hm y (.tail _ hy)) (by rw[J0,length_singleton];omega) λr aO=>by
    rcases Ki.mp aO with z|z
    .exact Z r z
    .rw[J8.mp z];exact ao
theorem wl(n):∀k,AX (aa defs (n+k+2)) k
 |k,R,t,g,U=>by
  by_cases hw:[]∈R
  .refine⟨false,_,.inr (.inl ⟨rfl,hw,rfl⟩),?_⟩;rw[ac (d:=dX) rfl rfl];exact dy (CU ((nq [] R).trans (by rw[J9 hw])) rfl rfl) rfl
  .have hi:=(nq [] R).trans (by rw[Kr hw]);by_cases Y:R=[]
   .refine⟨true,_,.inr (.inr (.inl ⟨rfl,Y,rfl⟩)),?_⟩;rw[ac (d:=dX) rfl rfl];subst Y
    rfl
   .match k,U with
    |0,U =>
     obtain⟨s,hs⟩:=exists_mem_of_ne_nil R Y;obtain⟨x,hx⟩:=exists_mem_of_ne_nil s λz=>hw (z▸hs)
     have:=am.mpr ⟨s,hs,hx⟩
     simp_all
    |k+1,U =>
     have J:((R.length:Int)==0)=false:=by
      cases R<;>grind
     have ao:=aJ (bG g.1.1);rcases nW (aa defs (n+k+2)) (wl n k) R g hw Y U t (λh=>i_ (n+k+1) R h g.1) (λh=>kh (n+k+1) R h (by have:=g.2.1;omega)) (ab R) [] none none (λh hh=>hh) (by simp;omega) (λr Z=>by cases Z)with⟨h,s,hs,e⟩|⟨rows,x,y,e,h1,h2⟩
     .refine⟨t,_,.inl ⟨rfl,h,s,rfl,hs⟩,?_⟩;rw[ac (d:=dX) rfl rfl];refine aW (CU hi rfl rfl) (aW (qK (xs:=R.map ofS) (by rw[p0,J]) rfl) (jy (dg (xs:=[]) rfl) ?_));exact Kn bj (F6 (xs:=(ab R).map .int) (F7 (ae rfl (l9 (n+(k+1)) R g.1.1))) e)
     .refine⟨!t,.tup [.str "cases",.tup (rows.map bU)],.inr (.inr (.inr ⟨rfl,.cases rows (by omega) λr Z=>(h2 r Z).le (by omega)⟩)),?_⟩;rw[ac (d:=dX) rfl rfl];refine aW (CU hi rfl rfl) (aW (qK (xs:=R.map ofS) (by rw[p0,J]) rfl) (jy (dg (xs:=[]) rfl) ?_));exact Kn bj (sO (r:=.ret (.tup [.str (ai !t),.tup [.str "cases",.tup (rows.map bU)]])) (xs:=(ab R).map .int) (F7 (ae rfl (l9 (n+(k+1)) R g.1.1))) e (by cases t<;>exact nK rfl))
def Gb(h1:ev cal e W=some w)(h2:evX cal x W=some (y,l))(z:cal g [.val w,.val y]=some r):evX cal (.fn2 g e x) W=some (r,l):=by simp_all [evX]
def Gc(z:(W[i]?).join=some (.own ys))(h:evX cal x W=some (v,l))(ho:(l[i]?).join=some (.own xs))(J:xs.length<10000)(k:exs cal ms (put l i (.own (xs++[v])))=r):exs cal (.appX i x::ms) W=r:=by
 rw[aq,ex,z]
 simp_all
structure nX(cal:Cal):Prop where
 next:AQ cal
 hol:∀R,SmR R->cal 40 [.val (ofR R)]=some (ofL (ab R))
 deed:∀R h r,SmR R->cal 47 [.val (ofR R),.val (.str (ai h)),.val (cE r)]=some (ofR (bhd h R r))
 reply:∀R p,SmR R->∃r,cal 48 [.val (ofR R),.val (.int p)]=some (cE r)
 split:∀R,SmR R->∃D:List (LL),cal 49 [.val (ofR R)]=some (.lst (D.map ofR))/\D.length<=8/\D.flatten.length<=8/\D.flatten.flatten.length<=60/\∀Q∈D,SmR Q
 tried:AX cal 4
 plain:∀R t h p,SmR R->∃v,pC v/\cal 50 [.val (ofR R),.val (.str (ai t)),.val (.str (ai h)),.val (.int p)]=some v
def nY(n):nX (aa defs (n+6)):=⟨F_ (n+4),λR g=>l9 (n+5) R g.1.1,λR h r g=>C1 (n+4) R g.1 h r,λR p g=>AT (n+3) R g.1 p,λR g=>C6 (n+5) R g,wl n 4,λR t h p g=>AU (n+3) R g.1 t h p⟩
def iN(cal:Cal)(j:Nat):Prop:=∀ns R (t h:Bool),SmR R->∃v z,cal (54+2000) [.mutD (.p ns),.val (ofR R),.val (.str (ai t)),.val (.str (ai h)),.val (.int j)]=some (.tup [v,.dI (.p z)])/\WP (7+j) v
theorem lA(cal)(C:nX cal)(G:iN cal 0)(R)(g:SmR R)(h):∀(hs ns:List Int) (J:List (Int×Option Int×PV)) (Y Z x7:Option MV),J.length+hs.length<=100->(∀r∈J,WP 7 r.2.2) ->
  ∃(ar:List Int) (U:List (Int×Option Int×PV)) (y5 y6 y7:Option MV),ay (λx l=>exs cal fO (put l 5 (.val x))) (hs.map .int) [some (.mutD (.p ns)),sv (ofR R),sv (.str (ai h)),some (.own (J.map bU)),sv (.str (ai !h)),Y,Z,x7]=.next [some (.mutD (.p ar)),sv (ofR R),sv (.str (ai h)),some (.own (U.map bU)),sv (.str (ai !h)),y5,y6,y7]/\U.length<=100/\∀r∈U,WP 7 r.2.2
 | [],ns,J,Y,Z,x7,hl,hr=>⟨ns,J,Y,Z,x7,rfl,by simpa using hl,hr⟩
 |a::hs,ns,J,Y,Z,x7,hl,hr=>by
  refine ax λZq kq=>?_
  rw[length_cons]at hl;obtain⟨y,n1,_,e1⟩:=C.next ns;have g1:=nV (h:=!h) g (some a);obtain⟨r,e2⟩:=C.reply (bhd (!h) R (some a)) y g1;obtain⟨v,n2,e3,hv⟩:=G n1 (bhd h (bhd (!h) R (some a)) r) (!h) h (nV g1 r);have a2:(J.map bU).length<10000:=by rw[p0];omega
  have e:exs cal fO (put [some (.mutD (.p ns)),sv (ofR R),sv (.str (ai h)),some (.own (J.map bU)),sv (.str (ai !h)),Y,Z,x7] 5 (.val (.int a)))=.next [some (.mutD (.p n2)),sv (ofR R),sv (.str (ai h)),some (.own (J.map bU++[bU (a,r,v)])),sv (.str (ai !h)),sv (.int a),sv (ofR (bhd (!h) R (some a))),sv (cE r)]:=
   cq (ae rfl (C.deed R (!h) (some a) g)) (jA (Gb rfl (xc1 e1) e2) (Gc rfl (k8 (cG rfl (cG rfl (iW (xc5 (g5 (ae rfl (C.deed _ h r g1)) rfl) rfl rfl rfl e3))))) rfl a2 rfl))
  refine kq ?_;rw[JY,ay,e];have:=lA cal C G R g h hs n2 (J++[(a,r,v)]) (sv (.int a)) (sv (ofR (bhd (!h) R (some a)))) (sv (cE r)) (by rw[J0,length_singleton];omega) λq hq=>by
   rcases Ki.mp hq with z|z
   .exact hr q z
   .rw[J8.mp z];exact hv
  rw[K8]at this;exact this
def AY(n)(C:nX (aa defs n))(G:iN (aa defs n) 0)(ns)(R)(g:SmR R)(h):∃v J,aa defs (n+1) (51+2000) [.mutD (.p ns),.val (ofR R),.val (.str (ai h))]=some (.tup [v,.dI (.p J)])/\WP 8 v:=by
 obtain⟨J,z,U,Y,Z,e,h1,h2⟩:=lA (aa defs n) C G R g h (ab R) ns [] none none none (by have:=aJ (bG g.1.1);simp;omega) (λr hr=>by cases hr);refine⟨.tup [.str "cases",.tup (z.map bU)],J,?_,.cases z (by omega) h2⟩;rw[gj (d:=iH) (by decide) rfl rfl];have k:exs (aa defs n) iH.body [some (.mutD (.p ns)),sv (ofR R),sv (.str (ai h)),none,none,none,none,none]=.retM (.tup [.str "cases",.tup (z.map bU)]) [some (.mutD (.p J)),sv (ofR R),sv (.str (ai h)),some (.own (z.map bU)),sv (.str (ai !h)),U,Y,Z]:=d9 (dg (xs:=[]) rfl) (cq (v:=.str _) (by cases h<;>rfl) (sO (F7 (ae rfl (C.hol R g))) e (nS rfl)));exact Kn _ k
def x_tupOf(h:evX cal x W=some (.lst xs,l)):evX cal (.tupOf x) W=some (.tup xs,l):=by simp_all [evX]
def x_compS(h:(evs cal [src] W).bind (bc .seq)=some xs)(z:xs.length<=10000)(h2:dk cal js k e f mask es xs W=some (ws,l)):evX cal (.compS src js k e f mask es) W=some (.lst ws,l):=by
 obtain⟨vs,J,U⟩:=gf.mp h;rw[evX,J,bind_some,U,bind_some,if_pos z,h2];rfl
theorem DF (cal) (G:iN cal j) (a1 a2 J U Y):∀D ns,(∀Q∈D,SmR Q)->∃(z:List (LL×PV)) (ao:List Int),dk cal [0,4] .pair (.var 0) 54 [true,false,false,false,false] [.bor 1,.bor 0,(cs "weaver"),(cs "moth"),.bor 2] (D.map ofR) [some (.mutD (.p ns)),a1,a2,J,sv (.int j),U,Y]=some (z.map bX,[some (.mutD (.p ao)),a1,a2,J,sv (.int j),U,Y])/\z.map (·.1)=D/\∀r∈z,WP (7+j) r.2
 | [],ns,_=>⟨[],ns,rfl,rfl,λr Z=>by cases Z⟩
 |Q::D,ns,hD=>by
  refine ax λZq kq=>?_
  obtain⟨v,n1,e,hv⟩:=G ns Q false true (hD Q (.head _));obtain⟨z,n2,e2,h1,h2⟩:=DF cal G a1 a2 J U Y D n1 λq hq=>hD q (.tail _ hq)
  refine kq ?_;refine⟨(Q,v)::z,n2,?_,by rw[JY,h1],λr Z=>?_⟩
  .rw[JY,dk,show evM cal [true,false,false,false,false] [.bor 1,.bor 0,(cs "weaver"),(cs "moth"),.bor 2] (kG [0,4] [some (.mutD (.p ns)),a1,a2,J,sv (.int j),U,Y] (ofR Q))=some [.mutD (.p ns),.val (ofR Q),.val (.str (ai false)),.val (.str (ai true)),.val (.int j)]from rfl,show ev cal (.var 0) (kG [0,4] [some (.mutD (.p ns)),a1,a2,J,sv (.int j),U,Y] (ofR Q))=some (ofR Q)from rfl,bind_some,bind_some,e];show(Option.bind (some (.tup [ofR Q,v])) λr=>(Option.bind (some [some (.mutD (.p n1)),a1,a2,J,sv (.int j),U,Y]) λl=>(dk cal _ _ _ _ _ _ _ l).map λp=>(r::p.1,p.2)))=_;rw[bind_some,bind_some,e2]
   rfl
  .rcases wh.mp Z with rfl|Z
   .exact hv
   .exact h2 r Z
def uK(C:nX cal){R:LL}(g:SmR R)(z:ev cal a W=some (.bl p))(U:ev cal (.bor 1) W=some (ofR R))(J:evA cal [.bor 1] W=some [.val (ofR R)]):∃b,ev cal (.and a (.cmp .lt (.blt .len [(.call 40 [.bor 1])]) (ci 5))) W=some (.bl b)/\(b=true->(ab R).length<=4):=by
 refine⟨p&&decide ((((ab R).map PV.int).length:Int)<5),dw z λ_=>(gY (aQ (ae J (C.hol R g))) (jv _ _ _)).trans rfl,λh=>?_⟩;have:=KP (oe.mp h).2;rw[p0]at this;omega
def qN(cal:Cal)(f j:Nat):Prop:=∀ns R (t:Bool) (p:Int),0<=p->SmR R->∃v z,cal (f+2000) [.mutD (.p ns),.val (ofR R),.val (.str (ai t)),.val (.int p),.val (.int j)]=some (.tup [v,.dI (.p z)])/\WP (8+j) v
def xK(n j)(C:nX (aa defs n))(G:iN (aa defs n) j)(K:∀ns R h,SmR R->∃v z,aa defs n (51+2000) [.mutD (.p ns),.val (ofR R),.val (.str (ai h))]=some (.tup [v,.dI (.p z)])/\WP 8 v):qN (aa defs (n+1)) 52 j:=λns R t p hp g=>by
 suffices h:∃v z x1 x2 x3 x4 W,exs (aa defs n) fP.body [some (.mutD (.p ns)),sv (ofR R),sv (.str (ai t)),sv (.int p),sv (.int j),none,none]=.retM v (some (.mutD (.p z))::x1::x2::x3::x4::W)/\WP (8+j) v by
  refine ax λZq kq=>?_
  obtain⟨v,z,x1,x2,x3,x4,W,e,hv⟩:=h;refine kq ?_;exact⟨v,z,by rw[gj (d:=fP) (by decide) rfl rfl];exact Kn (sk _) e,hv⟩
 cases t with
 |true =>
  obtain⟨r,U⟩:=C.reply R p g;obtain⟨v,Z,e2,hv⟩:=G ns (bhd true R r) false true (nV g r);exact⟨_,_,_,_,_,_,_,iL rfl (cq (ae rfl U) (fS (k8 (cG rfl (cG rfl (iW (xc5 (g5 (ae rfl (C.deed R true r g)) rfl) rfl rfl rfl e2))))))),(WP.one true r hv).le (by omega)⟩
 |false =>
  obtain⟨b,hb,_⟩:=uK (cal:=aa defs n) C g (a:=.cmp .eq (.bin .mod (.bor 3) (ci 2)) (ci 0)) (W:=[some (.mutD (.p ns)),sv (ofR R),sv (.str (ai false)),sv (.int p),sv (.int j),none,none]) (cT rfl (by decide)) rfl rfl;cases b with
  |true =>
   obtain⟨v,Z,U,hv⟩:=K ns R true g;exact⟨_,_,_,_,_,_,_,ie rfl (iL hb (fS (xc3 rfl rfl U))),hv.le (by omega)⟩
  |false =>
   obtain⟨D,U,h1,h2,h3,h4⟩:=C.split R g;obtain⟨J,Z,e2,Y,h6⟩:=DF (aa defs n) G (sv (ofR R)) (sv (.str (ai false))) (sv (.int p)) none (sv (.lst (D.map ofR))) D ns h4;have hl:J.length=D.length:=by rw[<- Y,p0]
   refine⟨.tup [.str "parts",.tup (J.map bX)],Z,_,_,_,_,_,ie rfl (ie hb (cq (ae rfl U) (fS (k8 (cG rfl (iW (x_tupOf (x_compS (xs:=D.map ofR) rfl (by rw[p0];omega) e2)))))))),(WP.parts J (by omega) (by rw[Y];omega) (by rw[Y];omega) (λr hr=>?_) h6).le (by omega)⟩;have:=h4 r.1 (Y▸Ml hr);exact⟨this.1,uw this.2.2 (by decide)⟩
def AZ{A R:LL}(h:A.Sublist R):A.flatten.length<=R.flatten.length:=by
 induction h with
 |slnil=>exact pb _
 |cons a _ ih=>rw[flatten_cons,J0];omega
 |cons_cons a _ ih=>rw[flatten_cons,J0,flatten_cons,J0];omega
def Ge{A R:LL}(g:SmR R)(h:A.Sublist R):SmR A:=by
 have J:=h.length_le;have U:=AZ h;have:=g.2.1;have:=g.2.2;exact⟨⟨λt z=>g.1.1 t (h.subset z),g.1.2.1.sublist h,by omega⟩,by omega,by omega⟩
def C7(cal)(J a2 U)(W)(R)(g:SmR R)(p):∃A,SmR A/\ev cal (.blt .tupleOf [(.comp .rng [(.blt .len [.bor 1])] [1,3] (.cmp .gt (.bin .mod (.bin .shr (.bor 2) (.bin .add (.bor 0) (ci 8))) (ci 4)) (ci 0)) (.idx (.bor 1) (.bor 0)))]) (J::sv (ofR R)::a2::sv (.int p)::U::W)=some (ofR A):=by
 let q:Nat->Bool:=λk=>decide (0<p / 2 ^ (k+8) % 4)
 refine⟨((range R.length).filter q).map λk=>R.getD k [],Ge g ?_,?_⟩
 .have h1:((range R.length).map λk=>R.getD k [])=R:=by
   refine ext_getElem (by simp) λi h1 h2=>?_
   simp_all
  have:=(filter_sublist (p:=q) (l:=range R.length)).map λk=>R.getD k []
  rw[h1]at this;exact this
 .have hR:=g.2.1;have Y:ev cal (.blt .len [.bor 1]) (J::sv (ofR R)::a2::sv (.int p)::U::W)=some (.int ((R.map ofS).length:Int)):=rfl;rw[p0]at Y;refine(aQ (v:=.lst ((((range R.length).filter q).map λk=>R.getD k []).map ofS)) ?_).trans rfl;rw[ev,evs,Y,bind_some,evs,map_some,bind_some,nv (by omega) (by omega),bind_some,if_pos (by simp;omega),Int.toNat_natCast,ce (p:=q) (h:=λk=>ofS (R.getD k [])),J3]
  .rfl
  .intro k _;have z:((k:Int)+8).toNat=k+8:=by omega
   have Z:(0:Int)<=(k:Int)+8:=by omega
   have s1:eC .shr (.int p) (.int ((k:Int)+8))=some (.int (p / 2 ^ (k+8))):=by
    show(if (0:Int)<=(k:Int)+8 then some (PV.int (p / 2 ^ ((k:Int)+8).toNat))else none)=_;rw[if_pos Z,z]
   exact uC ((gY ((cJ ((cJ (y:=.int ((k:Int)+8)) rfl rfl).trans s1) rfl).trans rfl) rfl).trans rfl)
  .intro k z _;have z:k<R.length:=by simpa using z
   simp[ev,cb,ofR,eZ,z]
def wm{D:List (LL)}{i:Int}(z:0<=i)(h1:i<D.length):∃Q∈D,fo (.lst (D.map ofR)) (.int i)=some (ofR Q):=by
 have h2:i.toNat<D.length:=by omega
 refine⟨D[i.toNat],Na _,?_⟩;rw[vU,eZ z (by rw[p0];exact h1)];simp[h2]
def sP(n j)(C:nX (aa defs n))(G:iN (aa defs n) j)(K:∀ns R h,SmR R->∃v z,aa defs n (51+2000) [.mutD (.p ns),.val (ofR R),.val (.str (ai h))]=some (.tup [v,.dI (.p z)])/\WP 8 v):qN (aa defs (n+1)) 53 j:=λns R t p hp g=>by
 suffices h:∃v z x1 x2 x3 x4 W,exs (aa defs n) d8.body [some (.mutD (.p ns)),sv (ofR R),sv (.str (ai t)),sv (.int p),sv (.int j),none,none,none,none,none,none]=.retM v (some (.mutD (.p z))::x1::x2::x3::x4::W)/\WP (8+j) v by
  refine ax λZq kq=>?_
  obtain⟨v,z,x1,x2,x3,x4,W,e,hv⟩:=h;refine kq ?_;exact⟨v,z,by rw[gj (d:=d8) (by decide) rfl rfl];exact Kn (sk _) e,hv⟩
 have U:ev (aa defs n) (.cmp .eq (.bin .mod (.bor 3) (ci 3)) (ci 0)) [some (.mutD (.p ns)),sv (ofR R),sv (.str (ai t)),sv (.int p),sv (.int j),none,none,none,none,none,none]=some (.bl (p % 3==0)):=cT rfl (by decide);by_cases q0:(p % 3==0)=true
 .rw[q0]at U;obtain⟨A,gA,J⟩:=C7 (aa defs n) (some (.mutD (.p ns))) (sv (.str (ai t))) (sv (.int j)) [none,none,none,none,none,none] R g p;obtain⟨v,n1,Z,hv⟩:=G ns A t false gA;exact⟨_,_,_,_,_,_,_,iL U (cq J (fS (k8 (cG rfl (cG rfl (iW (xc5 rfl rfl rfl rfl Z))))))),(WP.fewer A gA.1 (uw gA.2.2 (by decide)) hv).le (by omega)⟩
 .rw[K9]at q0;rw[q0]at U;cases t with
  |false =>
   obtain⟨r,J⟩:=C.reply R (p / 3) g;obtain⟨v,n1,Z,hv⟩:=G ns (bhd false R r) true false (nV g r);exact⟨_,_,_,_,_,_,_,ie U (iL rfl (cq (ae rfl J) (fS (k8 (cG rfl (cG rfl (iW (xc5 (g5 (ae rfl (C.deed R false r g)) rfl) rfl rfl rfl Z)))))))),(WP.one false r hv).le (by omega)⟩
  |true =>
   obtain⟨b,hb,_⟩:=uK (cal:=aa defs n) C g (a:=.cmp .eq (.bin .mod (.bor 3) (ci 3)) (ci 1)) (W:=[some (.mutD (.p ns)),sv (ofR R),sv (.str (ai true)),sv (.int p),sv (.int j),none,none,none,none,none,none]) (cT rfl (by decide)) rfl rfl;cases b with
   |true =>
    obtain⟨v,n1,J,hv⟩:=K ns R false g;exact⟨_,_,_,_,_,_,_,ie U (ie rfl (iL hb (fS (xc3 rfl rfl J)))),hv.le (by omega)⟩
   |false =>
    obtain⟨D,J,h1,h2,h3,Y⟩:=C.split R g;have c2:ev (aa defs n) (.cmp .lt (.blt .len [.bor 7]) (ci 2)) [some (.mutD (.p ns)),sv (ofR R),sv (.str (ai true)),sv (.int p),sv (.int j),none,none,sv (.lst (D.map ofR)),none,none,none]=some (.bl (decide (((D.map ofR).length:Int)<2))):=rfl;rw[p0]at c2;by_cases q2:(D.length:Int)<2
    .rw[J9 q2]at c2;exact⟨_,_,_,_,_,_,_,ie U (ie rfl (ie hb (cq (ae rfl J) (iL c2 (nS rfl))))),.leaf (g7 (.inr (.inr rfl)))⟩
    .refine ax λZq kq=>?_
     rw[Kr q2]at c2;have hd:(0:Int)<D.length:=by omega
     obtain⟨Q1,m1,i1⟩:=wm (D:=D) (i:=p / 3 % D.length) (Lf _ (by omega)) (Lc _ hd);obtain⟨Q2,m2,i2⟩:=wm (D:=D) (i:=(p / 3+1) % D.length) (Lf _ (by omega)) (Lc _ hd);obtain⟨v1,n1,Z,bA⟩:=G ns Q1 false false (Y Q1 m1);obtain⟨v2,n2,e3,bB⟩:=G n1 Q2 false false (Y Q2 m2);have md:∀x,eC .mod (.int x) (.int ((D.map ofR).length:Int))=some (.int (x % D.length)):=λx=>by
      rw[p0,qB,if_pos hd]
     refine kq ?_;exact⟨_,_,_,_,_,_,_,ie U (ie rfl (ie hb (cq (ae rfl J) (ie c2 (cq ((dG rfl ((cJ rfl rfl).trans (md _))).trans i1) (cq ((dG rfl ((cJ rfl rfl).trans (md _))).trans i2) (jA (xc5 rfl rfl rfl rfl Z) (fS (k8 (cG rfl (cG rfl (cG rfl (cG rfl (iW (xc5 rfl rfl rfl rfl e3))))))))))))))),(WP.either Q1 Q2 (Y Q1 m1).1 (Y Q2 m2).1 (uw (Y Q1 m1).2.2 (by decide)) (uw (Y Q2 m2).2.2 (by decide)) bA bB).le (by omega)⟩
def sQ(n j)(C:nX (aa defs n))(M:∀i,j=i+1->qN (aa defs n) 52 i/\qN (aa defs n) 53 i):iN (aa defs (n+1)) j:=λns R t h g=>by
 suffices z:∃v J U Y Z x4 W,exs (aa defs n) fG.body [some (.mutD (.p ns)),sv (ofR R),sv (.str (ai t)),sv (.str (ai h)),sv (.int j),none,none]=.retM v (some (.mutD (.p J))::U::Y::Z::x4::W)/\WP (7+j) v by
  obtain⟨v,J,U,Y,Z,x4,W,e,hv⟩:=z;exact⟨v,J,by rw[gj (d:=fG) (by decide) rfl rfl];exact Kn (sk _) e,hv⟩
 obtain⟨p,n1,hp,e0⟩:=C.next ns;have bQ:∀x6,∃v J U Y Z x4 W,exs (aa defs n) (fG.body.drop 2) [some (.mutD (.p n1)),sv (ofR R),sv (.str (ai t)),sv (.str (ai h)),sv (.int j),sv (.int p),x6]=.retM v (some (.mutD (.p J))::U::Y::Z::x4::W)/\WP (7+j) v:=λx6=>by
  have c1:ev (aa defs n) (.or (.cmp .eq (.bor 4) (ci 0)) (.cmp .eq (.bin .mod (.bin .fdiv (.bor 5) (ci 2)) (ci 8)) (ci 0))) [some (.mutD (.p n1)),sv (ofR R),sv (.str (ai t)),sv (.str (ai h)),sv (.int j),sv (.int p),x6]=some (.bl (((j:Int)==0)||(p / 2 % 8==0))):=AG rfl λ_=>cT rfl (by decide)
  by_cases q1:(((j:Int)==0)||(p / 2 % 8==0))=true
  .rw[q1]at c1;obtain⟨v,hv,e1⟩:=C.plain R t h (p / 16) g;exact⟨_,_,_,_,_,_,_,iL c1 (nS (ae rfl e1)),.leaf hv⟩
  .rw[K9]at q1;rw[q1]at c1;obtain⟨i,rfl⟩:∃i,j=i+1:=⟨j-1,by
    have:=(Bool.or_eq_false_iff.mp q1).1;have:(j:Int)≠0:=by simpa using this
    omega⟩
   have hd:=Kn (λx=>some (PV.int x)) (show((i+1:Nat):Int)-1=i by omega);have a1:(0:Int)<=p / 16:=Int.ediv_nonneg hp (by decide);cases h with
   |true =>
    obtain⟨v,n2,e1,hv⟩:=(M i rfl).1 n1 R t (p / 16) a1 g;exact⟨_,_,_,_,_,_,_,ie c1 (iL rfl (fS (xc5 rfl rfl rfl (qG (λi z=>by cases z) hd) e1))),hv.le (by omega)⟩
   |false =>
    obtain⟨v,n2,e1,hv⟩:=(M i rfl).2 n1 R t (p / 16) a1 g;exact⟨_,_,_,_,_,_,_,ie c1 (ie rfl (fS (xc5 rfl rfl rfl (qG (λi z=>by cases z) hd) e1))),hv.le (by omega)⟩
 obtain⟨b,hb,hf⟩:=uK (cal:=aa defs n) C g (a:=.cmp .eq (.bin .mod (.bor 5) (ci 2)) (ci 0)) (W:=[some (.mutD (.p n1)),sv (ofR R),sv (.str (ai t)),sv (.str (ai h)),sv (.int j),sv (.int p),none]) (cT rfl (by decide)) rfl rfl;cases b with
 |false =>
  obtain⟨v,J,U,Y,Z,x4,W,e,hv⟩:=bQ none;exact⟨v,J,U,Y,Z,x4,W,jA (xc1 e0) (ie hb e),hv⟩
 |true =>
  obtain⟨w,v,ok,e1⟩:=C.tried R t g (hf rfl);by_cases q:w=h
  .subst q;refine⟨_,_,_,_,_,_,_,jA (xc1 e0) (iL hb (cq (ae rfl e1) (iL (by cases w<;>rfl) (nS rfl)))),ok.wp.le (by omega)⟩
  .obtain⟨v',J,U,Y,Z,x4,W,e,hv⟩:=bQ (sv (.tup [.str (ai w),v]));exact⟨v',J,U,Y,Z,x4,W,jA (xc1 e0) (d9 (l:=[some (.mutD (.p n1)),sv (ofR R),sv (.str (ai t)),sv (.str (ai h)),sv (.int j),sv (.int p),sv (.tup [.str (ai w),v])]) (by refine(bx hb).trans ?_;exact cq (ae rfl e1) (xF (by cases w<;>cases h<;>first|rfl|exact absurd rfl q) rfl)) e),hv⟩
theorem l_:∀j n,iN (aa defs (n+3*j+8)) j
 |0,n=>sQ (n+7) 0 (nY (n+1)) λi h=>by cases h
 |j+1,n=>by
  have k:∀ns R h,SmR R->∃v z,aa defs (n+3*j+9) (51+2000) [.mutD (.p ns),.val (ofR R),.val (.str (ai h))]=some (.tup [v,.dI (.p z)])/\WP 8 v:=λns R h g=>AY (n+3*j+8) (nY (n+3*j+2)) (l_ 0 (n+3*j)) ns R g h
  exact sQ (n+3*j+10) (j+1) (nY (n+3*j+4)) λi h=>by
   cases h;have G:iN (aa defs (n+3*j+9)) j:=by have:=l_ j (n+1);rwa[show n+1+3*j+8=n+3*j+9 by omega]at this
   exact⟨xK _ j (nY _) G k,sP _ j (nY _) G k⟩
def fI(R)(h):0<=aI R h:=by
 unfold aI
 induction R with
 |nil=>simp
 |cons s R ih =>
  rw[JY,sum_cons];have:0<=(if h∈s then wgt s else 0):=by
   split
   .exact Int.le_of_lt (Int.pow_pos (by decide))
   .exact Mi _
  omega
def sR:∀{a b:List Int},a.Perm b->a.sum=b.sum:=by
 intro a b p
 induction p with
 |nil=>rfl
 |cons x _ ih=>rw[sum_cons,sum_cons,ih]
 |swap x y l=>simp[sum_cons];omega
 |trans _ _ h1 h2=>rw[h1,h2]
def qO(s):0<wgt s:=Int.pow_pos (by decide)
def qP(hs:h∉s):drp h s=s:=
 Lb.mpr λx hx=>by
  have:¬ x=h:=λe=>hs (e▸hx)
  simp[this]
theorem wn :∀{s},s.Nodup->h∈s->(drp h s).length+1=s.length
 |x::s,J,U=>by
  obtain⟨h1,h2⟩:=Kt.mp J;by_cases e:x=h
  .subst e;unfold drp;rw[KJ (by simp)];have:=qP h1;unfold drp at this;rw[this,length_cons]
  .unfold drp;rw[K0 (by simpa using e),length_cons,length_cons];have:=wn h2 ((wh.mp U).resolve_left λz=>e z.symm);unfold drp at this;omega
def wo(g:b_ s)(z:h∈s):wgt (drp h s)=wgt s+wgt s:=by
 have h1:=wn (iz g.1) z;have h2:=aJ g;unfold wgt;rw[show 60-(drp h s).length=(60-s.length)+1 by omega,Int.pow_succ];omega
def iO{R:LL}(g:∀s∈R,b_ s)(h):((aN h R).map wgt).sum=(R.map wgt).sum+aI R h:=by
 unfold aN aI;rw[sR ((sortT_perm _).map wgt),J3]
 induction R with
 |nil=>rfl
 |cons s R ih =>
  rw[JY,sum_cons,JY,sum_cons,JY,sum_cons,ih λt J=>g t (.tail _ J)];have:wgt (drp h s)=wgt s+if h∈s then wgt s else 0:=by
   by_cases z:h∈s
   .rw[if_pos z,wo (g s (.head _)) z]
   .rw[if_neg z,qP z,Int.add_zero]
  show wgt (drp h s)+_=_;omega
def lB(R)(h):((bb h R).map wgt).sum+aI R h=(R.map wgt).sum:=by
 unfold bb aI
 induction R with
 |nil=>rfl
 |cons s R ih =>
  rw[JY,sum_cons,JY,sum_cons]
  grind
def xL(R)(h k):aI (bb h R) k<=aI R k:=by
 unfold bb aI
 induction R with
 |nil=>exact Mi _
 |cons s R ih =>
  rw[JY,sum_cons];have z:0<=(if k∈s then wgt s else 0):=by
   have:=qO s;split<;>omega
  by_cases J:h∈s
  .grind
  .simp_all
def oH(R:LL):0<=(R.map wgt).sum:=by
 induction R with
 |nil=>exact Mi _
 |cons s R ih =>
  rw[JY,sum_cons];have:=qO s;omega
def uL{R:LL}(h:s∈R):wgt s<=(R.map wgt).sum:=by
 induction R with
 |nil=>cases h
 |cons t R ih =>
  rw[JY,sum_cons];have:=qO t;have:=oH R
  grind
def nZ{R:LL}(h:(R.map wgt).sum<1152921504606846976):[]∉R:=λz=>by
 have:=uL z;have e:wgt []=1152921504606846976:=rfl;omega
def n0{R:LL}{h k:Int}:(∃s∈aN h R,k∈s)->(∃s∈R,k∈s)/\k≠h:=by
 rintro ⟨s,hs,z⟩;obtain⟨t,J,rfl⟩:=mem_map.mp (dF.mp hs);obtain⟨h1,h2⟩:=Kg.mp z;exact⟨⟨t,J,h1⟩,by simpa using h2⟩
def xM(R:LL)(a b:Int):gu R a b=gu R b a:=by
 unfold gu;refine Kn (λl:LL=>(l.length:Int)) (filter_congr λs _=>Bool.and_comm _ _)
def A0{R:LL}{M:Int}(h:lK R M){a b:Int}(z:a≠b):gu R a b<=M:=by
 by_cases q:a<b
 .exact h.2.2 a b q
 .rw[xM];exact h.2.2 b a (by omega)
def wq{R J:LL}{M U:Int}(h:lK R M)(h':lK J U)(hc:∀a b,a<b->gu J a b<=gu R a b):U<=M:=by
 rcases h'.2.1 with e|⟨a,b,z,_,e⟩
 .have:=h.1;omega
 .have:=hc a b z;have:=h.2.2 a b z;omega
def pI(R:LL)(h a b:Int):gu (aN h R) a b<=gu R a b:=by
 unfold gu aN;rw[((sortT_perm _).filter _).length_eq,List.filter_map,p0];have:∀R:LL,(R.filter ((λs=>decide (a∈s)&&decide (b∈s))∘drp h)).length<=(R.filter λs=>decide (a∈s)&&decide (b∈s)).length:=λR=>by
  induction R with
  |nil=>exact pb _
  |cons s R ih =>
   by_cases q:((λs=>decide (a∈s)&&decide (b∈s))∘drp h) s=true
   .have z:(decide (a∈s)&&decide (b∈s))=true:=by
     have:(decide (a∈drp h s)&&decide (b∈drp h s))=true:=q;rw[mu,KL,KL]at this ⊢;exact⟨(Kg.mp this.1).1,(Kg.mp this.2).1⟩
    rw[K0 q,K0 (p:=λs=>decide (a∈s)&&decide (b∈s)) z,length_cons,length_cons];omega
   .rw[KJ q];by_cases z:(decide (a∈s)&&decide (b∈s))=true
    .rw[K0 (p:=λs=>decide (a∈s)&&decide (b∈s)) z,length_cons];omega
    .rw[KJ (p:=λs=>decide (a∈s)&&decide (b∈s)) z];exact ih
 have:=this R;omega
def xN(R:LL)(x a b:Int):gu (bb x R) a b<=gu R a b:=by
 unfold gu bb;have:=(Sublist.filter (λs=>decide (a∈s)&&decide (b∈s)) (filter_sublist (l:=R) (p:=λz=>!decide (x∈z)))).length_le;omega
noncomputable def wu(R:LL)(x h:Int):Int:=(R.map λs=>if x∈s/\h∈s then wgt s else 0).sum
def xO{R:LL}(g:∀s∈R,b_ s){x h:Int}(hx:x≠h):aI (aN h R) x=aI R x+wu R x h:=by
 unfold aN aI wu;rw[sR ((sortT_perm _).map _),J3]
 induction R with
 |nil=>rfl
 |cons s R ih =>
  rw[JY,sum_cons,JY,sum_cons,JY,sum_cons,ih λt Y=>g t (.tail _ Y)];have e:(if x∈drp h s then wgt (drp h s)else 0)=(if x∈s then wgt s else 0)+if x∈s/\h∈s then wgt s else 0:=by
   have U:x∈drp h s ↔ x∈s:=by
    unfold drp;rw[Kg];simp[hx]
   by_cases q:x∈s
   .rw[if_pos (U.mpr q),if_pos q];by_cases J:h∈s
    .rw[if_pos ⟨q,J⟩,wo (g s (.head _)) J]
    .rw[if_neg λz=>J z.2,qP J,Int.add_zero]
   .rw[if_neg λz=>q (U.mp z),if_neg q,if_neg λz=>q z.1,Int.add_zero]
  show(if x∈drp h s then wgt (drp h s)else 0)+_=_;omega
def C8{s:List Int}{x h:Int}(hx:x∈s)(z:h∈s)(J:x≠h):wgt s<=288230376151711744:=by
 have Z:2<=s.length:=by
  match s,hx,z with
  | [y],hx,z =>
   have U:=J8.mp hx;have Y:=J8.mp z;exact absurd (U.trans Y.symm) J
  | _::_::_,_,_=>simp
 unfold wgt;have e:(288230376151711744:Int)=2 ^ 58:=by decide
 rw[e];have:(2:Nat) ^ (60-s.length)<=2 ^ 58:=Nat.pow_le_pow_right (by decide) (by omega);have h2:((2 ^ (60-s.length):Nat):Int)<=((2 ^ 58:Nat):Int):=by omega
 rw[Int.natCast_pow,Int.natCast_pow]at h2;exact h2
def A1(R:LL){x h:Int}(z:x≠h):wu R x h<=288230376151711744*gu R x h:=by
 unfold wu gu
 induction R with
 |nil=>simp
 |cons s R ih =>
  rw[JY,sum_cons];by_cases q:x∈s/\h∈s
  .rw[if_pos q,K0 (by simpa using q),length_cons];have:=C8 q.1 q.2 z;omega
  .rw[if_neg q,KJ (by simpa using q)];omega
def pJ{R J:LL}{k:Nat}(xs:List Int)(hx:xs.Nodup)(h1:∀x∈xs,∃s∈R,x∈s)(h2:∀y,(∃s∈J,y∈s)->(∃s∈R,y∈s)/\y∉xs)(hk:xs.length=k):(ab J).length+k<=(ab R).length:=by
 have p:(ab J++xs).Nodup:=LH.mpr ⟨iz (gZ J),hx,λa ha b hb e=>by subst e;exact(h2 a (am.mp ha)).2 hb⟩;have sub:ab J++xs ⊆ ab R:=λy z=>by
  rcases Ki.mp z with z|z
  .exact am.mpr (h2 y (am.mp z)).1
  .exact am.mpr (h1 y z)
 have gen:∀(a b:List Int),a.Nodup->a ⊆ b->a.length<=b.length:=λa=>by
  induction a with
  |nil=>intro b _ _;exact Kd _
  |cons x a ih =>
   intro b hn hs;obtain⟨n1,n2⟩:=Kt.mp hn;have U:x∈b:=hs (.head _);have:=ih (b.erase x) n2 λy z=>by
    have Y:y≠x:=λe=>n1 (e▸z)
    exact(mem_erase_of_ne Y).mpr (hs (.tail _ z))
   rw[length_erase_of_mem U]at this;have Z:=length_pos_of_mem U;rw[length_cons];omega
 have:=gen _ _ p sub;rw[J0,hk]at this;exact this
def sS{a b c d:Int}(h1:a<=b)(h2:c<=d)(z:0<=c)(J:0<=b):a*c<=b*d:=Int.mul_le_mul h1 h2 z J
def uM{R:LL}{h J:Int}(g:aF R)(H:kg R)(z:lK (aN h R) J):kg (aN h R):=by
 obtain⟨M,U,hw⟩:=H;refine⟨J,z,?_⟩;rw[iO g.1 h];have Z:=fI R h;have m1:=wq U z λa b _=>pI R h a b
 have m0:=U.1;have m2:=z.1;have hh:(ab (aN h R)).length+0<=(ab R).length:=pJ [] Li (λx hx=>by cases hx) (λy Y=>⟨(n0 Y).1,by simp⟩) rfl;have q1:1152921504606846976*J*(((ab (aN h R)).length:Int) / 2)<=1152921504606846976*M*(((ab R).length:Int) / 2):=sS (by omega) (by omega) (by omega) (by omega);omega
def uN{R:LL}{h x M' M2:Int}(g:aF R)(H:kg R)(hh:∃s∈R,h∈s)(U:∀y,aI R y<=aI R h)(aO:lK (aN h R) M')(Y:lK (bb x (aN h R)) M2):kg (bb x (aN h R)):=by
 by_cases hx:∃s∈aN h R,x∈s
 .obtain⟨a0,J⟩:=n0 hx;obtain⟨M,hM,hw⟩:=H;refine⟨M2,Y,?_⟩;have w1:=lB (aN h R) x;have w2:=iO g.1 h;have w3:=xO g.1 J;have w4:=A1 R J;have w5:=A0 hM J;have w6:=U x;have m1:=wq hM Y λa b _=>L8 (xN _ x a b) (pI R h a b)
  have m0:=hM.1;have m2:=Y.1;have hl:(ab (bb x (aN h R))).length+2<=(ab R).length:=pJ [h,x] (by simp;exact λe=>J e.symm) (λy hy=>by
    simp only[wh,Lk,Mc]at hy;rcases hy with rfl|rfl
    .exact hh
    .exact a0) (λy hy=>by
    obtain⟨s,hs,Z⟩:=hy;obtain⟨a2,ao⟩:=Kg.mp hs;obtain⟨r1,r2⟩:=n0 ⟨s,a2,Z⟩;refine⟨r1,?_⟩;simp only[wh,Lk,Mc,not_or];refine⟨r2,λe=>?_⟩;subst e;simp at ao;exact ao Z) rfl
  have q1:1152921504606846976*M2*(((ab (bb x (aN h R))).length:Int) / 2)<=1152921504606846976*M*(((ab R).length:Int) / 2-1):=sS (by omega) (by omega) (by omega) (by omega);rw[Int.mul_sub,Int.mul_one]at q1;omega
 .have e:bb x (aN h R)=aN h R:=Lb.mpr λs hs=>by
   have:x∉s:=λz=>hx ⟨s,hs,z⟩
   simpa using this
  rw[e];exact uM g H aO
def GAt(v:PV)(R:LL)(t h:Bool)(N:Nat)(b:Bool):Prop:=aa defs N 28 [.val v,.val (ofR R),.val (.str (ai t)),.val (.str (ai h))]=some (.bl b)
def IJ{v:PV}(hv:pC v)(R:LL)(g:aF R)(z:R.flatten.length<=4000)(t h:Bool):∃b,∀n,GAt v R t h (n+6) b:=by
 rcases hv with rfl|rfl|rfl|⟨P,h1,h2,rfl⟩
 .exact⟨_,λn=>AI (n+3) R t h⟩
 .exact⟨_,λn=>v_ (n+3) R t h⟩
 .obtain⟨M,J,_⟩:=fR 0 R g;exact⟨_,λn=>sJ n R g z J t h⟩
 .exact⟨_,λn=>wc (n+1) R P h1 h2 g t h⟩
def uO{d:Nat}{v:PV}(p:WP d v):∀(R:LL),aF R->R.flatten.length<=4000->∀t h:Bool,∃b:Bool,∀N,3*d+8<=N->GAt v R t h N b:=by
 induction p with
 | @leaf d v hv =>
  intro R g U t h;obtain⟨b,a⟩:=IJ hv R g U t h;refine⟨b,λN J=>?_⟩;obtain⟨n,rfl⟩:=upN 6 J;exact a n
 | @one d v k r hv ih =>
  intro R g U t h;obtain⟨b,a⟩:=ih (bhd k R r) (fb g r) (uw (iK k R r) U) (!k) k;refine⟨(h==k)&&(t==k)&&b,λN J=>?_⟩;obtain⟨n,rfl⟩:=upN 6 J;exact AJ g k r t h (a (n+3) (by omega))
 | @cases d rows hl hr ih =>
  intro R g U t h;by_cases e:t=h
  .subst e;refine⟨false,λN J=>?_⟩;obtain⟨n,rfl⟩:=upN 3 J;exact nQ n _ _ t
  .obtain rfl:t=!h:=by cases t<;>cases h<;>simp_all
   obtain⟨b,hb⟩:=AO λr Y=>ih r Y (bh2 h R r.1 r.2.1) (nO g _ _) (uw (nR h R _ _) U) (!h) h
   refine⟨(if h=true then !decide ([]∈R)else !decide (ab R=[]))&&(decide (rows.map (·.1)=ab R)&&rows.all b),λN J=>?_⟩;obtain⟨n,rfl⟩:=upN 7 J;exact wf g U h hl λr Y=>hb r Y (n+4) (by omega)
 | @parts d rows hl hs a0 hg hr ih =>
  intro R g U t h;have key:∀r:LL×PV,∃b:Bool,r∈rows->∀N,3*d+8<=N->GAt r.2 r.1 false true N b:=λr=>by
   by_cases Y:r∈rows
   .obtain⟨b,a⟩:=ih r Y r.1 (hg r Y).1 (hg r Y).2 false true;exact⟨b,λ_=>a⟩
   .exact⟨false,λz=>absurd z Y⟩
  obtain⟨b,hb⟩:=Mw key;refine⟨h&&!t&&(k7 (rows.map (·.1)) R&&rows.all b),λN J=>?_⟩;obtain⟨n,rfl⟩:=upN 7 J;exact wg g U hl hs a0 hg t h λr Y=>hb r Y (n+4) (by omega)
 | @fewer d v A Z fA hv ih =>
  intro R g U t h;obtain⟨b,a⟩:=ih A Z fA t false;refine⟨!h&&below A R&&b,λN J=>?_⟩;obtain⟨n,rfl⟩:=upN 6 J;exact we Z g t h (a (n+4) (by omega))
 | @either d v w A B Z gB fA fB hv hw ih a2 =>
  intro R g U t h;obtain⟨x,a⟩:=ih A Z fA false false;obtain⟨y,c⟩:=a2 B gB fB false false;refine⟨!h&&t&&(decide (ab A++ab B).Nodup&&below A R&&below B R&&(x&&y)),λN J=>?_⟩;obtain⟨n,rfl⟩:=upN 7 J;exact sM Z gB g fA fB t h (a (n+4) (by omega)) (c (n+4) (by omega))
noncomputable def win:Nat->LL->Bool->Bool
 |0,R,t=>if []∈R then false else if R=[]then true else !t
 |n+1,R,t=>if []∈R then false else if R=[]then true else if (ab R).any (λh=>win n (bhd t R (some h)) (!t)==t)then t else !t
theorem n4:∀(n m:Nat) (R:LL) (t:Bool),(ab R).length<=n->n<=m->win n R t=win m R t
 |0,0,_,_,_,_=>rfl
 |0,m+1,R,t,h,_=>by
  rw[win,win,J6.mp (MG.mp h)]
  rfl
 |n+1,0,_,_,_,h=>by omega
 |n+1,m+1,R,t,h,hm=>by
  rw[win,win];have:∀h∈ab R,(win n (bhd t R (some h)) (!t)==t)=(win m (bhd t R (some h)) (!t)==t):=λx hx=>by
   rw[n4 n m _ _ (by have:=bi (t:=t) hx;omega) (by omega)]
  have e:((ab R).any λh=>win n (bhd t R (some h)) (!t)==t)=(ab R).any λh=>win m (bhd t R (some h)) (!t)==t:=by
   rw[Kv,Ka,Ka];exact⟨λ⟨x,h1,h2⟩=>⟨x,h1,by rw[<- this x h1];exact h2⟩,λ⟨x,h1,h2⟩=>⟨x,h1,by rw[this x h1];exact h2⟩⟩
  rw[e]
noncomputable def won(R:LL)(t:Bool):Bool:=win (ab R).length R t
def n5(R:LL)(t:Bool):won R t=if []∈R then false else if R=[]then true else if (ab R).any (λh=>won (bhd t R (some h)) (!t)==t)then t else !t:=by
 rw[won,n4 _ ((ab R).length+1) R t (pb _) (by omega),win];have e:((ab R).any λh=>win (ab R).length (bhd t R (some h)) (!t)==t)=(ab R).any λh=>won (bhd t R (some h)) (!t)==t:=by
  have:∀h∈ab R,(win (ab R).length (bhd t R (some h)) (!t)==t)=(won (bhd t R (some h)) (!t)==t):=λx hx=>by
   rw[won,n4 _ (ab R).length _ _ (pb _) (by have:=bi (t:=t) hx;omega)]
  rw[Kv,Ka,Ka];exact⟨λ⟨x,h1,h2⟩=>⟨x,h1,by rw[<- this x h1];exact h2⟩,λ⟨x,h1,h2⟩=>⟨x,h1,by rw[this x h1];exact h2⟩⟩
 rw[e]
def pK{R:LL}{t:Bool}(h1:[]∉R)(h2:R≠[]):won R t=if (ab R).any (λh=>won (bhd t R (some h)) (!t)==t)then t else !t:=by
 rw[n5,if_neg h1,if_neg h2]
def gx{R:LL}(h:ab R=[])(h1:[]∉R):R=[]:=by
 cases R with
 |nil=>rfl
 |cons s R =>
  cases s with
  |nil=>exact absurd (.head _) h1
  |cons x s =>
   have:x∈ab ((x::s)::R):=am.mpr ⟨_,.head _,.head _⟩;rw[h]at this;cases this
def Dom(R z:LL):Prop:=∀s∈R,∃s'∈z,∀x∈s',x∈s
def Dom.trans{A B C:LL}(a:Dom A B)(b:Dom B C):Dom A C:=λs hs=>by
 obtain⟨u,z,h1⟩:=a s hs;obtain⟨v,hv,h2⟩:=b u z;exact⟨v,hv,λx hx=>h1 x (h2 x hx)⟩
def cv{h:Int}{R:LL}{u:List Int}:u∈aN h R ↔ ∃s∈R,drp h s=u:=by
 unfold aN;rw[dF,mem_map]
def dz :x∈drp h s ↔ x∈s/\x≠h:=by
 unfold drp
 simp_all
def cW{h:Int}{R:LL}{u:List Int}:u∈bb h R ↔ u∈R/\h∉u:=by
 unfold bb;rw[Kg];simp
def A2{h:Int}{R z:LL}(d:Dom R z):Dom (aN h R) (aN h z):=λs hs=>by
 obtain⟨u,J,rfl⟩:=cv.mp hs;obtain⟨v,hv,h1⟩:=d u J;exact⟨drp h v,cv.mpr ⟨v,hv,rfl⟩,λx hx=>dz.mpr ⟨h1 x (dz.mp hx).1,(dz.mp hx).2⟩⟩
def pL{h:Int}{R z:LL}(d:Dom R z)(J:h∉ab z):Dom (aN h R) z:=λs hs=>by
 obtain⟨u,U,rfl⟩:=cv.mp hs;obtain⟨v,hv,h1⟩:=d u U;exact⟨v,hv,λx hx=>dz.mpr ⟨h1 x hx,λe=>J (am.mpr ⟨v,hv,e▸hx⟩)⟩⟩
def sT(h:Int)(R:LL):Dom R (aN h R):=λs hs=>⟨drp h s,cv.mpr ⟨s,hs,rfl⟩,λ_ hx=>(dz.mp hx).1⟩
def A3{h:Int}{R J:LL}(d:Dom R J):Dom (bb h R) (bb h J):=λs hs=>by
 obtain⟨h1,h2⟩:=cW.mp hs;obtain⟨v,hv,U⟩:=d s h1;exact⟨v,cW.mpr ⟨hv,λz=>h2 (U _ z)⟩,U⟩
def pM{h:Int}{R J:LL}(d:Dom R J)(Y:h∉ab R):Dom R (bb h J):=λs hs=>by
 obtain⟨v,hv,U⟩:=d s hs;exact⟨v,cW.mpr ⟨hv,λz=>Y (am.mpr ⟨s,hs,U _ z⟩)⟩,U⟩
def bg(t:Bool):won [] t=true:=by
 rw[n5,if_neg (by simp),if_pos rfl]
def aY{R:LL}(h:[]∈R)(t:Bool):won R t=false:=by rw[n5,if_pos h]
def jb{R:LL}(h1:[]∉R)(h2:R≠[]):won R false=false ↔ ∃h∈ab R,won (aN h R) true=false:=by
 rw[pK h1 h2];constructor
 .intro e;split at e
  .rename_i z;obtain⟨h,J,q⟩:=Ka.mp z;exact⟨h,J,eq_of_beq q⟩
  .cases e
 .rintro ⟨h,J,e⟩;have q:(won (bhd false R (some h)) (!false)==false)=true:=JZ.mpr e;rw[if_pos (Ka.mpr ⟨h,J,q⟩)]
def hV{R:LL}(h1:[]∉R)(h2:R≠[]):won R true=false ↔ ∀h∈ab R,won (bb h R) false=false:=by
 rw[pK h1 h2];constructor
 .intro e h U;split at e
  .cases e
  .rename_i z;cases q:won (bb h R) false with
   |false=>rfl
   |true =>
    have J:(won (bhd true R (some h)) (!true)==true)=true:=JZ.mpr q;exact absurd (Ka.mpr ⟨h,U,J⟩) z
 .intro e;rw[if_neg λz=>?_]
  .rfl
  .obtain⟨h,U,q⟩:=Ka.mp z;have J:won (bb h R) false=true:=eq_of_beq q;rw[e h U]at J;cases J
def sU{R:LL}(d:Dom R []):R=[]:=by
 cases R with
 |nil=>rfl
 |cons s R =>
  obtain⟨_,h,_⟩:=d s (.head _);cases h
def xP{R z:LL}(d:Dom R z)(h:[]∈R):[]∈z:=by
 obtain⟨v,hv,h1⟩:=d [] h;cases v with
 |nil=>exact hv
 |cons x v=>cases h1 x (.head _)
def n6{R:LL}(h1:[]∉R)(h2:R≠[]):∃h,h∈ab R:=by
 cases e:ab R with
 |nil=>exact absurd (gx e h1) h2
 |cons h l=>exact⟨h,.head _⟩
def mono:∀n:Nat,(∀R J t,(ab J).length<=n->Dom R J->won R t=false->won J t=false)/\∀R,(ab R).length<=n->won R true=false->won R false=false:=λn=>by
 induction n with
 |zero =>
  have fin:∀J,(ab J).length<=0->[]∉J->J=[]:=λJ h h1=>gx (J6.mp (MG.mp h)) h1
  refine⟨λR J t h d w=>?_,λR h w=>?_⟩
  .by_cases h1:[]∈J
   .exact aY h1 t
   .have:=fin J h h1;subst this;rw[sU d,bg]at w;cases w
  .by_cases h1:[]∈R
   .exact aY h1 _
   .rw[fin R h h1,bg]at w;cases w
 |succ n ih =>
  obtain⟨Y,iB⟩:=ih;refine⟨λR J t h d w=>?_,λR h w=>?_⟩
  .by_cases h1:[]∈J
   .exact aY h1 t
   .by_cases h2:J=[]
    .subst h2;rw[sU d,bg]at w;cases w
    .have r1:[]∉R:=λz=>h1 (xP d z)
     have r2:R≠[]:=λz=>by rw[z,bg]at w;cases w
     cases t with
     |false =>
      obtain⟨x,hx,w1⟩:=(jb r1 r2).mp w;refine(jb h1 h2).mpr ?_;by_cases U:x∈ab J
      .exact⟨x,U,Y _ _ _ (by have:=bi (t:=false) U;exact Kp (uw this h)) (A2 d) w1⟩
      .obtain⟨y,Z⟩:=n6 h1 h2;exact⟨y,Z,Y _ _ _ (by have:=bi (t:=false) Z;exact Kp (uw this h)) ((pL d U).trans (sT y J)) w1⟩
     |true =>
      have w1:=(hV r1 r2).mp w;refine(hV h1 h2).mpr λx hx=>?_
      have hl:(ab (bb x J)).length<=n:=by have:=bi (t:=true) hx;exact Kp (uw this h)
      by_cases U:x∈ab R
      .exact Y _ _ _ hl (A3 d) (w1 x U)
      .exact iB _ hl (Y _ _ _ hl (pM d U) w)
  .by_cases h1:[]∈R
   .exact aY h1 _
   .by_cases h2:R=[]
    .rw[h2,bg]at w;cases w
    .obtain⟨y,Z⟩:=n6 h1 h2;exact(jb h1 h2).mpr ⟨y,Z,Y _ _ _ (by have:=bi (t:=false) Z;exact Kp (uw this h)) (sT y R) w⟩
def dA{R z:LL}(d:Dom R z){t:Bool}(w:won R t=false):won z t=false:=(mono _).1 R z t (pb _) d w
def gz{R:LL}(w:won R true=false):won R false=false:=(mono _).2 R (pb _) w
def pN{R:LL}(h1:[]∉R)(h2:R≠[]):∃h∈ab R,∀y,aI R y<=aI R h:=by
 have gen:∀l:List Int,l≠[]->∃h∈l,∀y∈l,aI R y<=aI R h:=λl=>by
  induction l with
  |nil=>intro z;exact absurd rfl z
  |cons x l ih =>
   intro _;by_cases e:l=[]
   .subst e;exact⟨x,.head _,λy J=>by rw[J8.mp J];exact Mi _⟩
   .obtain⟨h,Y,U⟩:=ih e;by_cases q:aI R h<=aI R x
    .exact⟨x,.head _,λy J=>(wh.mp J).elim (λz=>by rw[z];exact Mi _) λz=>L8 (U y z) q⟩
    .exact⟨h,.tail _ Y,λy J=>(wh.mp J).elim (λz=>by rw[z];omega) (U y)⟩
 obtain⟨x,hx⟩:=n6 h1 h2;obtain⟨h,Y,U⟩:=gen (ab R) (λz=>by rw[z]at hx;cases hx);refine⟨h,Y,λy=>?_⟩;by_cases q:y∈ab R
 .exact U y q
 .have:aI R y=0:=by
   unfold aI;have:∀s∈R,y∉s:=λs hs z=>q (am.mpr ⟨s,hs,z⟩)
   clear U Y hx h1 h2 q gen
   induction R with
   |nil=>rfl
   |cons s R ih =>
    rw[JY,sum_cons,if_neg (this s (.head _)),ih λt Z=>this t (.tail _ Z)]
    rfl
  rw[this];exact fI R h
def pO:∀(n:Nat) (R:LL),aF R->(ab R).length<=n ->
  ((R.map wgt).sum<1152921504606846976->won R true=true)/\((∀k,(R.map wgt).sum+aI R k<1152921504606846976)->won R false=true):=λn=>by
 induction n with
 |zero =>
  intro R g z;have hz:ab R=[]:=J6.mp (MG.mp z);have key:∀t,(R.map wgt).sum<1152921504606846976->won R t=true:=λt h=>by rw[gx hz (nZ h),bg]
  exact⟨key true,λh=>key false (by have:=h 0;have:=fI R 0;omega)⟩
 |succ n ih =>
  intro R g z;refine⟨λh=>?_,λh=>?_⟩
  .have h1:=nZ h;by_cases h2:R=[]
   .rw[h2,bg]
   .obtain⟨x,hx,J⟩:=pN h1 h2;have w:=(ih (bb x R) (eP g) (by have:=bi (t:=true) hx;exact Kp (uw this z))).2 λk=>by
     have:=lB R x;have:=xL R x k;have:=J k;omega
    cases e:won R true with
    |true=>rfl
    |false =>
     rw[(hV h1 h2).mp e x hx]at w;cases w
  .have U:(R.map wgt).sum<1152921504606846976:=by have:=h 0;have:=fI R 0;omega
   have h1:=nZ U;by_cases h2:R=[]
   .rw[h2,bg]
   .cases e:won R false with
    |true=>rfl
    |false =>
     obtain⟨x,hx,w⟩:=(jb h1 h2).mp e;have:=(ih (aN x R) (kZ g) (by have:=bi (t:=false) hx;exact Kp (uw this z))).1 (by rw[iO g.1];exact h x);rw[this]at w;cases w
def C9{R:LL}{M:Int}(h:Top R M)(k:Int):aI R k<=M:=by
 by_cases q:∃s∈R,k∈s
 .exact h.2.2 k q
 .have:aI R k=0:=by
   unfold aI;have:∀s∈R,k∉s:=λs hs z=>q ⟨s,hs,z⟩
   clear q h
   induction R with
   |nil=>rfl
   |cons s R ih =>
    rw[JY,sum_cons,if_neg (this s (.head _)),ih λt J=>this t (.tail _ J)]
    rfl
  rw[this];exact h.1
def A4{R:LL}(g:aF R){M:Int}(z:Top R M){t:Bool}(h:(if t=true then decide ((R.map wgt).sum<1152921504606846976)else decide ((R.map wgt).sum+M<1152921504606846976))=true):won R t=true:=by
 cases t with
 |true=>exact(pO _ R g (pb _)).1 (by simpa using h)
 |false =>
  have h':(R.map wgt).sum+M<1152921504606846976:=by simpa using h
  exact(pO _ R g (pb _)).2 λk=>by have:=C9 z k;omega
def jB{R:LL}(h:kg R):R≠[]:=λz=>by
 subst z;obtain⟨M,_,h⟩:=h;rw[show ab []=[]from rfl]at h;simp at h
def lC:∀(n:Nat) (R:LL),aF R->(ab R).length<=n->kg R->won R false=false:=λn=>by
 induction n with
 |zero =>
  intro R g J H;by_cases h1:[]∈R
  .exact aY h1 _
  .exact absurd (gx (J6.mp (MG.mp J)) h1) (jB H)
 |succ n ih =>
  intro R g J H;by_cases h1:[]∈R
  .exact aY h1 _
  .have h2:=jB H;obtain⟨h,hx,hb⟩:=pN h1 h2;have U:=kZ (h:=h) g;have hl:(ab (aN h R)).length<=n:=by have:=bi (t:=false) hx;exact Kp (uw this J)
   refine(jb h1 h2).mpr ⟨h,hx,?_⟩;by_cases k1:[]∈aN h R
   .exact aY k1 _
   .have k2:aN h R≠[]:=λz=>by
     have:(aN h R).length=R.length:=by unfold aN;rw[sortT_len,p0]
     rw[z]at this;exact h2 (J6.mp this.symm)
    refine(hV k1 k2).mpr λx Y=>?_
    obtain⟨M',_,Z⟩:=fQ 0 (aN h R) U;obtain⟨M2,_,ao⟩:=fQ 0 (bb x (aN h R)) (eP U);exact ih _ (eP U) (by have:=bi (t:=true) Y;have:(ab (bb x (aN h R))).length+1<=(ab (aN h R)).length:=this;omega) (uN g H (am.mp hx) hb Z ao)
def uP{R:LL}(g:aF R){t:Bool}(h:(if t=true then decide ([]∈R)||(hv R&&(ab R).all λh=>hv (bb h R))else hv R)=true):won R t=false:=by
 cases t with
 |false=>exact lC _ R g (pb _) (qJ.mp (by simpa using h))
 |true =>
  by_cases h1:[]∈R
  .exact aY h1 _
  .have h':hv R=true/\∀x∈ab R,hv (bb x R)=true:=by simpa[h1]using h
   refine(hV h1 (jB (qJ.mp h'.1))).mpr λx hx=>lC _ _ (eP g) (pb _) (qJ.mp (h'.2 x hx))
structure Holds(P:List (Int×Int))(R:LL):Prop where
 apart:∀p∈P,∀q∈P,(p.1=q.1\/p.1=q.2\/p.2=q.1\/p.2=q.2)->p=q
 two:∀p∈P,p.1≠p.2
 has:∀s∈R,∃p∈P,p.1∈s/\p.2∈s
def xQ(P:List (Int×Int)):∀(n:Nat) (R:LL),(ab R).length<=n->Holds P R->won R false=true:=λn=>by
 have ne:∀{R:LL},Holds P R->[]∉R:=λ{R} H z=>by obtain⟨p,_,h,_⟩:=H.has [] z;cases h
 induction n with
 |zero =>
  intro R hh H;rw[gx (J6.mp (MG.mp hh)) (ne H),bg]
 |succ n ih =>
  intro R hh H;have h1:=ne H;by_cases h2:R=[]
  .rw[h2,bg]
  cases e:won R false with
  |true=>rfl
  |false =>
   obtain⟨x,hx,w⟩:=(jb h1 h2).mp e;have hl:(ab (aN x R)).length<=n:=by have:=bi (t:=false) hx;exact Kp (uw this hh)
   have key:∀Z,(ab Z).length<=n->Holds P Z->won Z true=true:=λZ a3 H'=>by
    cases e':won Z true with
    |true=>rfl
    |false =>
     have:=ih Z a3 H';rw[gz e']at this;cases this
   by_cases q:∃p∈P,p.1=x\/p.2=x
   .obtain⟨p,hp,a5⟩:=q;have Y:∀m,(p.1=x/\p.2=m)\/(p.2=x/\p.1=m)->False:=λm hm=>by
     have H':Holds P (bb m (aN x R)):=⟨H.apart,H.two,λs hs=>by
      obtain⟨h3,h4⟩:=cW.mp hs;obtain⟨u,hu,rfl⟩:=cv.mp h3;obtain⟨r,U,r1,r2⟩:=H.has u hu;have a6:m≠x:=λz=>by
       have:=H.two p hp;rcases hm with⟨a,b⟩|⟨a,b⟩
       .exact this (by rw[a,b,z])
       .exact this (by rw[a,b,z])
      have a0:r≠p:=λz=>by
       subst z;refine h4 (dz.mpr ⟨?_,a6⟩);rcases hm with⟨_,b⟩|⟨_,b⟩
       .rw[<- b];exact r2
       .rw[<- b];exact r1
      have n1:r.1≠x:=λz=>a0 (H.apart r U p hp (by rcases hm with⟨a,_⟩|⟨a,_⟩<;>simp[z,a]))
      have n2:r.2≠x:=λz=>a0 (H.apart r U p hp (by rcases hm with⟨a,_⟩|⟨a,_⟩<;>simp[z,a]))
      exact⟨r,U,dz.mpr ⟨r1,n1⟩,dz.mpr ⟨r2,n2⟩⟩⟩
     by_cases J:m∈ab (aN x R)
     .have w2:=ih (bb m (aN x R)) (by have:=bi (t:=true) J;have:(ab (bb m (aN x R))).length+1<=(ab (aN x R)).length:=this;omega) H';have k2:aN x R≠[]:=λz=>by rw[z]at J;cases J
      by_cases k3:[]∈aN x R
      .obtain⟨u,hu,e0⟩:=cv.mp k3;obtain⟨r,U,r1,r2⟩:=H.has u hu;have e1:∀y∈u,y=x:=λy hy=>by
        cases Nx (y=x)with
        |inl z=>exact z
        |inr z=>have:y∈drp x u:=dz.mpr ⟨hy,z⟩;rw[e0]at this;cases this
       exact H.two r U ((e1 _ r1).trans (e1 _ r2).symm)
      .rw[(hV k3 k2).mp w m J]at w2;cases w2
     .have same:bb m (aN x R)=aN x R:=by
       unfold bb;exact Lb.mpr λs hs=>by
        have:m∉s:=λz=>J (am.mpr ⟨s,hs,z⟩)
        simpa using this
      rw[same]at H';rw[key _ hl H']at w;cases w
    rcases a5 with a|a
    .exact(Y p.2 (.inl ⟨a,rfl⟩)).elim
    .exact(Y p.1 (.inr ⟨a,rfl⟩)).elim
   .have H':Holds P (aN x R):=⟨H.apart,H.two,λs hs=>by
     obtain⟨u,hu,rfl⟩:=cv.mp hs;obtain⟨r,U,r1,r2⟩:=H.has u hu;exact⟨r,U,dz.mpr ⟨r1,λz=>q ⟨r,U,.inl z⟩⟩,dz.mpr ⟨r2,λz=>q ⟨r,U,.inr z⟩⟩⟩⟩
    rw[key _ hl H']at w;cases w
def xR{P:List (Int×Int)}{R:LL}(H:Holds P R)(t:Bool):won R t=true:=by
 have:=xQ P _ R (pb _) H;cases t with
 |false=>exact this
 |true =>
  cases e:won R true with
  |true=>rfl
  |false=>rw[gz e]at this;cases this
abbrev Far(G z:LL):Prop:=∀s∈G,∀t∈z,∀h∈s,h∉t
theorem Far.symm{G z:LL}(f:Far G z):Far z G:=λs hs t J h h1 h2=>f t J s hs h h2 h1
def Gg{G:LL}{D:List (LL)}(h:G∈D):Dom G D.flatten:=λs hs=>⟨s,K7.mpr ⟨G,h,hs⟩,λ_ h=>h⟩
def pP{A B:List (LL)}{G:LL}(h:(A++G::B).Pairwise Far):∀z∈A++B,Far G z:=λz h'=>by
 rw[pairwise_append]at h;rcases Ki.mp h' with h'|h'
 .exact(h.2.2 z h' G (.head _)).symm
 .exact(K2.mp h.2.1).1 z h'
def wv{A B:List (LL)}{G J:LL}(h:(A++G::B).Pairwise Far)(hs:∀s∈J,∀x∈s,∃u∈G,x∈u):(A++J::B).Pairwise Far:=by
 have f:=pP h;rw[pairwise_append]at h ⊢;have key:∀P∈A++B,Far J P:=λP z s U t Z x h1 h2=>by
  obtain⟨u,hu,hx⟩:=hs s U x h1;exact f P z u hu t Z x hx h2
 refine⟨h.1,K2.mpr ⟨λP z=>key P (Ki.mpr (.inr z)),(K2.mp h.2.1).2⟩,λP z Q Y=>?_⟩;rcases wh.mp Y with rfl|Y
 .exact(key P (Ki.mpr (.inl z))).symm
 .exact h.2.2 P z Q (.tail _ Y)
def cw{A B:List (LL)}{G:LL}{s:List Int}:s∈(A++G::B).flatten ↔ s∈G\/∃P∈A++B,s∈P:=by
 rw[K7];constructor
 .rintro ⟨P,z,hs⟩;rcases Ki.mp z with h|h
  .exact .inr ⟨P,Ki.mpr (.inl h),hs⟩
  .rcases wh.mp h with rfl|h
   .exact .inl hs
   .exact .inr ⟨P,Ki.mpr (.inr h),hs⟩
 .rintro (h|⟨P,z,hs⟩)
  .exact⟨G,Ki.mpr (.inr (.head _)),h⟩
  .rcases Ki.mp z with h|h
   .exact⟨P,Ki.mpr (.inl h),hs⟩
   .exact⟨P,Ki.mpr (.inr (.tail _ h)),hs⟩
def qQ{A B:List (LL)}{G:LL}(y:Int):Dom (bb y (A++G::B).flatten) (A++bb y G::B).flatten:=λs hs=>by
 obtain⟨h1,h2⟩:=cW.mp hs;refine⟨s,cw.mpr ?_,λ_ h=>h⟩;rcases cw.mp h1 with h|h
 .exact .inl (cW.mpr ⟨h,h2⟩)
 .exact .inr h
def n8{G:LL}(h1:[]∉G)(h2:G≠[])(w:won G true=true):∃y∈ab G,won (bb y G) false=true:=by
 cases Nx (∀h∈ab G,won (bb h G) false=false)with
 |inl q=>rw[(hV h1 h2).mpr q]at w;cases w
 |inr q =>
  obtain⟨y,q⟩:=Classical.not_forall.mp q;obtain⟨z,q⟩:=Classical.not_forall.mp q;exact⟨y,z,by cases e:won (bb y G) false with|true=>rfl|false=>exact absurd e q⟩
def uQ{A B:List (LL)}{G Y:LL}{x:Int}(hx:x∈ab G)(hG:∀s∈Y,∀z∈s,z≠x/\∃u∈G,z∈u)(hf:∀P∈A++B,Far G P):(ab (A++Y::B).flatten).length+1<=(ab (A++G::B).flatten).length:=by
 obtain⟨u0,J,U⟩:=am.mp hx;have:=DE (x::ab (A++Y::B).flatten) (ab (A++G::B).flatten) (Kt.mpr ⟨λz=>?_,pH (gZ _)⟩) λy Z=>?_
 .simpa using this
 .obtain⟨s,hs,hz⟩:=am.mp z;rcases cw.mp hs with h|⟨P,hP,h⟩
  .exact(hG s h x hz).1 rfl
  .exact hf P hP u0 J s h x U hz
 .rcases wh.mp Z with rfl|Z
  .exact am.mpr ⟨u0,cw.mpr (.inl J),U⟩
  .obtain⟨s,hs,hz⟩:=am.mp Z;rcases cw.mp hs with h|h
   .obtain⟨_,u,hu,ao⟩:=hG s h y hz;exact am.mpr ⟨u,cw.mpr (.inl hu),ao⟩
   .exact am.mpr ⟨s,cw.mpr (.inr h),hz⟩
def jC:∀(n:Nat) (D:List (LL)),D.Pairwise Far->(ab D.flatten).length<=n->(∀G∈D,won G false=true)->won D.flatten false=true:=λn=>by
 have ne:∀{D:List (LL)},(∀G∈D,won G false=true)->[]∉D.flatten:=λ{D} h z=>by
  obtain⟨G,Z,h0⟩:=K7.mp z;have:=h G Z;rw[aY h0]at this;cases this
 induction n with
 |zero =>
  intro D _ hh h;rw[gx (J6.mp (MG.mp hh)) (ne h),bg]
 |succ n ih =>
  intro D hf hh h;have h1:=ne h;by_cases h2:D.flatten=[]
  .rw[h2,bg]
  cases e:won D.flatten false with
  |true=>rfl
  |false =>
   obtain⟨x,hx,w⟩:=(jb h1 h2).mp e;obtain⟨u0,a0,ao⟩:=am.mp hx;obtain⟨G,Z,Y⟩:=K7.mp a0;have ar:x∈ab G:=am.mpr ⟨u0,Y,ao⟩;have g1:[]∉G:=λz=>h1 (K7.mpr ⟨G,Z,z⟩)
   have g2:G≠[]:=λz=>by rw[z]at Y;cases Y
   have wk:won (aN x G) true=true:=by
    cases e2:won (aN x G) true with
    |true=>rfl
    |false =>
     have:=h G Z;rw[(jb g1 g2).mpr ⟨x,ar,e2⟩]at this;cases this
   have k1:[]∉aN x G:=λz=>by rw[aY z]at wk;cases wk
   have k2:aN x G≠[]:=λz=>by
    have:(aN x G).length=G.length:=by unfold aN;rw[sortT_len,p0]
    rw[z]at this;exact g2 (J6.mp this.symm)
   obtain⟨y,hy,wy⟩:=n8 k1 k2 wk;obtain⟨A,B,rfl⟩:=append_of_mem Z;have aO:=pP hf;have sub:∀s∈bb y (aN x G),∀z∈s,z≠x/\∃u∈G,z∈u:=λs hs z hz=>by
    obtain⟨h3,_⟩:=cW.mp hs;obtain⟨u,J,rfl⟩:=cv.mp h3;exact⟨(dz.mp hz).2,u,J,(dz.mp hz).1⟩
   have w2:=ih (A++bb y (aN x G)::B) (wv hf λs hs z hz=>(sub s hs z hz).2) (by have:=uQ (A:=A) (B:=B) ar sub aO;omega) λP U=>by
    rcases Ki.mp U with U|U
    .exact h P (Ki.mpr (.inl U))
    .rcases wh.mp U with rfl|U
     .exact wy
     .exact h P (Ki.mpr (.inr (.tail _ U)))
   have out:∀P∈A++B,∀u∈P,x∉u:=λP U u J z=>aO P U u0 Y u J x ao z
   have nk:[]∉aN x (A++G::B).flatten:=λz=>by
    obtain⟨u,J,e0⟩:=cv.mp z;rcases cw.mp J with J|⟨P,U,J⟩
    .exact k1 (cv.mpr ⟨u,J,e0⟩)
    .have e1:drp x u=u:=by
      unfold drp;exact Lb.mpr λz hz=>by
       have:z≠x:=λe=>out P U u J (e▸hz)
       simpa using this
     rw[e1]at e0;exact h1 (cw.mpr (.inr ⟨P,U,e0▸J⟩))
   have nn:aN x (A++G::B).flatten≠[]:=λz=>by
    have:(aN x (A++G::B).flatten).length=(A++G::B).flatten.length:=by unfold aN;rw[sortT_len,p0]
    rw[z]at this;exact h2 (J6.mp this.symm)
   have a4:y∈ab (aN x (A++G::B).flatten):=by
    obtain⟨s,hs,a5⟩:=am.mp hy;obtain⟨u,J,rfl⟩:=cv.mp hs;exact am.mpr ⟨_,cv.mpr ⟨u,cw.mpr (.inl J),rfl⟩,a5⟩
   have d:Dom (bb y (aN x (A++G::B).flatten)) (A++bb y (aN x G)::B).flatten:=λs hs=>by
    obtain⟨h3,h4⟩:=cW.mp hs;obtain⟨u,J,rfl⟩:=cv.mp h3;rcases cw.mp J with J|⟨P,U,J⟩
    .exact⟨_,cw.mpr (.inl (cW.mpr ⟨cv.mpr ⟨u,J,rfl⟩,h4⟩)),λ_ h=>h⟩
    .refine⟨u,cw.mpr (.inr ⟨P,U,J⟩),λz hz=>dz.mpr ⟨hz,λe=>out P U u J (e▸hz)⟩⟩
   rw[dA d ((hV nk nn).mp w y a4)]at w2;cases w2
noncomputable def uR(D:List (LL))(t:Bool):Bool:=
 if t=true then !((D.any λG=>!won G true)||decide (1<(D.filter λG=>!won G false).length))else !(D.any λG=>!won G false)
def xS{D:List (LL)}(hf:D.Pairwise Far)(t:Bool):won D.flatten t=uR D t:=by
 have one:∀t G,G∈D->won G t=false->won D.flatten t=false:=λt G J w=>dA (Gg J) w
 have all1:D.any (λG=>!won G false)=false->won D.flatten false=true:=λh=>jC _ D hf (pb _) λG J=>by
  have:=Nl.mp h G J;simpa using this
 unfold uR;cases t with
 |false =>
  rw[if_neg (by decide)];cases h:D.any λG=>!won G false with
  |false=>exact all1 h
  |true =>
   obtain⟨G,J,w⟩:=Ka.mp h;exact one false G J (by simpa using w)
 |true =>
  rw[if_pos rfl];cases h:D.any λG=>!won G true with
  |true =>
   obtain⟨G,J,w⟩:=Ka.mp h;exact one true G J (by simpa using w)
  |false =>
   rw[Bool.false_or];by_cases c:1<(D.filter λG=>!won G false).length
   .rw[J9 c]
    match e:D.filter λG=>!won G false with
    | []=>rw[e]at c;simp at c
    | [_]=>rw[e]at c;simp at c
    |Z::G2::L =>
     have sub:=(filter_sublist (l:=D) (p:=λG=>!won G false));rw[e]at sub;have a2:Far Z G2:=(K2.mp (hf.sublist sub)).1 G2 (.head _);have m1:Z∈D.filter λG=>!won G false:=by rw[e];exact .head _
     have m2:G2∈D.filter λG=>!won G false:=by rw[e];exact .tail _ (.head _)
     obtain⟨i1,w1⟩:=Kg.mp m1;obtain⟨i2,w2⟩:=Kg.mp m2;have w1:won Z false=false:=by simpa using w1
     have w2:won G2 false=false:=by simpa using w2
     by_cases h1:[]∈D.flatten
     .exact aY h1 _
     .have h2:D.flatten≠[]:=λz=>by
       have:=one false Z i1 w1;rw[z,bg]at this;cases this
      refine(hV h1 h2).mpr λx hx=>?_
      have keep:∀G∈D,won G false=false->(∀s∈G,x∉s)->won (bb x D.flatten) false=false:=λG J w hn=>dA (λs hs=>⟨s,cW.mpr ⟨K7.mpr ⟨G,J,hs⟩,hn s hs⟩,λ_ h=>h⟩) w
      cases Nx (∃s∈Z,x∈s)with
      |inl q =>
       obtain⟨s,hs,a3⟩:=q;exact keep G2 i2 w2 λt ht z=>a2 s hs t ht x a3 z
      |inr q=>exact keep Z i1 w1 λs hs z=>q ⟨s,hs,z⟩
   .rw[Kr c];cases h0:D.any λG=>!won G false with
    |false =>
     have:=all1 h0;cases e:won D.flatten true with
     |true=>rfl
     |false=>rw[gz e]at this;cases this
    |true =>
     obtain⟨G,J,w⟩:=Ka.mp h0;have w:won G false=false:=by simpa using w
     have wt:won G true=true:=by simpa using Nl.mp h G J
     have g1:[]∉G:=λz=>by rw[aY z]at wt;cases wt
     have g2:G≠[]:=λz=>by rw[z,bg]at w;cases w
     obtain⟨y,hy,wy⟩:=n8 g1 g2 wt;obtain⟨A,B,rfl⟩:=append_of_mem J;rw[filter_append,K0 (by simpa using w),J0,length_cons]at c;have cA:A.filter (λG=>!won G false)=[]:=J6.mp (by omega);have cB:B.filter (λG=>!won G false)=[]:=J6.mp (by omega);have w2:=jC _ (A++bb y G::B) (wv hf λs hs z hz=>⟨s,(cW.mp hs).1,hz⟩) (pb _) λP U=>by
      rcases Ki.mp U with U|U
      .have:=LZ.mp cA P U;simpa using this
      .rcases wh.mp U with rfl|U
       .exact wy
       .have:=LZ.mp cB P U;simpa using this
     have Y:y∈ab (A++G::B).flatten:=by
      obtain⟨s,hs,a5⟩:=am.mp hy;exact am.mpr ⟨s,cw.mpr (.inl hs),a5⟩
     have r2:(A++G::B).flatten≠[]:=λz=>by rw[z]at Y;cases Y
     cases e:won (A++G::B).flatten true with
     |true=>rfl
     |false =>
      by_cases r1:[]∈(A++G::B).flatten
      .obtain⟨P,U,h0⟩:=K7.mp r1;have:=Nl.mp h P U;rw[aY h0]at this;simp at this
      .rw[dA (qQ y) ((hV r1 r2).mp e y Y)]at w2;cases w2
def pQ{R:LL}(k:Bool)(r:Option Int)(h:won (bhd k R r) (!k)=k):won R k=k:=by
 have self:Dom R R:=λs hs=>⟨s,hs,λ_ z=>z⟩
 cases k with
 |false =>
  cases r with
  |none=>exact gz h
  |some x =>
   have h:won (aN x R) true=false:=h;by_cases h1:[]∈R
   .exact aY h1 false
   by_cases h2:R=[]
   .subst h2;rw[show aN x []=[]from rfl,bg]at h;cases h
   by_cases hx:x∈ab R
   .exact(jb h1 h2).mpr ⟨x,hx,h⟩
   .exact gz (dA (pL self hx) h)
 |true =>
  refine Nm _▸λc=>?_
  have J:=gz c;cases r with
  |none=>rw[show won R false=true from h]at J;cases J
  |some x =>
   have h:won (bb x R) false=true:=h;by_cases h1:[]∈R
   .rw[aY (cW.mpr ⟨h1,by simp⟩)]at h;cases h
   by_cases h2:R=[]
   .subst h2;rw[bg]at c;cases c
   by_cases hx:x∈ab R
   .rw[(hV h1 h2).mp c x hx]at h;cases h
   .rw[dA (pM self hx) J]at h;cases h
def tru{x:Option PV}(h:x=some (.bl a))(h':x=some (.bl b)):a=b:=by simp_all
def iX{A R:LL}(h:below A R=true):Dom A R:=λs hs=>by
 obtain⟨t,z,q⟩:=AK h s hs;exact⟨t,z,j8.mp q⟩
theorem uS:∀{D:List (LL)},(D.map ab).flatten.Nodup->D.Pairwise Far
 | [],_=>.nil
 |G::D,h=>by
  rw[JY,flatten_cons]at h;obtain⟨_,h2,z⟩:=LH.mp h;refine .cons (λZ J s hs t U x hx Y=>z x (am.mpr ⟨s,hs,hx⟩) x (K7.mpr ⟨_,Ml J,am.mpr ⟨t,U,Y⟩⟩) rfl) (uS h2)
theorem two_of{P:LL}(h:OkP P)(n:P.flatten.Nodup){R:LL}(k:∀s∈R,∃t∈P,sub t s=true):Holds (P.map λt=>(t.headD 0,t.getD 1 0)) R:=by
 have one:∀{P:LL},P.flatten.Nodup->∀t∈P,∀u∈P,∀x,x∈t->x∈u->t=u:=λ{P}=>by
  induction P with
  |nil=>intro _ t z;cases z
  |cons a P ih =>
   intro n t z u J x hx U;obtain⟨_,n2,Z⟩:=LH.mp (flatten_cons▸n);rcases wh.mp z with e|z
   .rcases wh.mp J with e'|J
    .rw[e,e']
    .exact absurd rfl (Z x (e▸hx) x (K7.mpr ⟨u,J,U⟩))
   .rcases wh.mp J with e|J
    .exact absurd rfl (Z x (e▸U) x (K7.mpr ⟨t,z,hx⟩))
    .exact ih n2 t z u J x hx U
 refine⟨λp Y q hq e=>?_,λp Y=>?_,λs hs=>?_⟩
 .obtain⟨t,z,rfl⟩:=mem_map.mp Y;obtain⟨u,J,rfl⟩:=mem_map.mp hq;obtain⟨a,b,rfl,_⟩:=h t z;obtain⟨c,d,rfl,_⟩:=h u J;have e:a=c\/a=d\/b=c\/b=d:=e;have:[a,b]=[c,d]:=by
   rcases e with rfl|rfl|rfl|rfl
   .exact one n _ z _ J a (by simp) (by simp)
   .exact one n _ z _ J a (by simp) (by simp)
   .exact one n _ z _ J b (by simp) (by simp)
   .exact one n _ z _ J b (by simp) (by simp)
  rw[this]
 .obtain⟨t,z,rfl⟩:=mem_map.mp Y;obtain⟨a,b,rfl,_⟩:=h t z;have:=(MF z).nodup n;simpa using this
 .obtain⟨t,z,q⟩:=k s hs;have q:=j8.mp q;obtain⟨a,b,rfl,_⟩:=h t z;exact⟨(a,b),mem_map.mpr ⟨_,z,rfl⟩,q a (by simp),q b (by simp)⟩
def A5{d:Nat}{v:PV}(p:WP d v):∀(R:LL),aF R->R.flatten.length<=4000->∀t h:Bool,GAt v R t h (3*d+8) true->won R t=h:=by
 induction p with
 | @leaf d v hv =>
  intro R g U t h G;rcases hv with rfl|rfl|rfl|⟨P,h1,h2,rfl⟩
  .have e:=tru (AI (3*d+5) R t h) G;simp only[mu,Kh]at e;obtain⟨rfl,rfl⟩:=e;exact bg t
  .have e:=tru (v_ (3*d+5) R t h) G;simp only[mu,Kh,J4]at e;obtain⟨rfl,e⟩:=e;exact aY e t
  .obtain⟨M,hM,_⟩:=fR 0 R g;have e:=tru (sJ (3*d+2) R g U hM t h) G;cases h with
   |true=>exact A4 g hM e
   |false=>exact uP g e
  .have e:=tru (wc (3*d+3) R P h1 h2 g t h) G;simp only[v3,mu,Kh,LD,Ka]at e;obtain⟨⟨rfl,_⟩,n,e⟩:=e;exact xR (two_of h1 n e) t
 | @one d v k r hv ih =>
  intro R g U t h G;have aO:=uw (iK k R r) U;obtain⟨b,a⟩:=uO hv (bhd k R r) (fb g r) aO (!k) k;have e:=tru (AJ (n:=3*d+5) g k r t h (a _ (by omega))) G;simp only[mu,JZ]at e;obtain⟨⟨rfl,rfl⟩,rfl⟩:=e;exact pQ t r (ih _ (fb g r) aO _ _ (a _ (pb _)))
 | @cases d rows hl hr ih =>
  intro R g U t h G;obtain rfl:t=!h:=by
   refine Classical.byContradiction λz=>?_
   obtain rfl:t=h:=by cases t<;>cases h<;>simp_all
   cases tru (nQ (3*(d+1)+5) _ _ t) G
  obtain⟨b,Y⟩:=AO λr J=>uO (hr r J) (bh2 h R r.1 r.2.1) (nO g _ _) (uw (nR h R _ _) U) (!h) h
  have e:=tru (wf (n:=3*d+4) g U h hl λr J=>Y r J _ (by omega)) G;simp only[mu,Kh]at e;obtain⟨e1,e2,e3⟩:=e;have key:∀x∈ab R,won (bhd (!h) R (some x)) h=h:=λx hx=>by
   rw[<- e2]at hx;obtain⟨r,J,rfl⟩:=mem_map.mp hx;exact pQ h r.2.1 (ih r J _ (nO g _ _) (uw (nR h R _ _) U) (!h) h ((Y r J _ (pb _)).trans (by rw[LD.mp e3 r J])))
  cases h with
  |true =>
   have e1:[]∉R:=by simpa using e1
   by_cases h2:R=[]
   .subst h2;exact bg _
   refine Nm _▸λc=>?_
   obtain⟨x,hx,q⟩:=(jb e1 h2).mp c;rw[show won (aN x R) true=true from key x hx]at q;cases q
  |false =>
   have e1:ab R≠[]:=by simpa using e1
   by_cases h1:[]∈R
   .exact aY h1 _
   exact(hV h1 λz=>e1 (by rw[z];rfl)).mpr key
 | @parts d rows hl hs a4 hg hr ih =>
  intro R g U t h G;obtain⟨b,Y⟩:=AO λr J=>uO (hr r J) r.1 (hg r J).1 (hg r J).2 false true
  have e:=tru (wg (n:=3*d+4) g U hl hs a4 hg t h λr J=>Y r J _ (by omega)) G;simp only[k7,mu,Kh,J4]at e;obtain⟨⟨rfl,rfl⟩,⟨⟨_,n⟩,_,lo⟩,e3⟩:=e;have w:=jC _ (rows.map (·.1)) (uS n) (pb _) λG hG=>by
   obtain⟨r,J,rfl⟩:=mem_map.mp hG;exact ih r J r.1 (hg r J).1 (hg r J).2 false true ((Y r J _ (pb _)).trans (by rw[LD.mp e3 r J]))
  refine Nm _▸λc=>?_
  have dm:Dom R (rows.map (·.1)).flatten:=λs hs=>by
   obtain⟨u,hu,q⟩:=iX lo s hs;exact⟨u,dF.mp hu,q⟩
  rw[dA dm c]at w;cases w
 | @fewer d v A Z fA hv ih =>
  intro R g U t h G;obtain⟨b,a⟩:=uO hv A Z fA t false;have e:=tru (we (n:=3*d+5) Z g t h (a _ (by omega))) G;simp only[mu,J4]at e;obtain⟨⟨rfl,Y⟩,rfl⟩:=e;exact dA (iX Y) (ih A Z fA t false (a _ (pb _)))
 | @either d v w A B Z gB fA fB hv hw ih b0 =>
  intro R g U t h G;obtain⟨x,a⟩:=uO hv A Z fA false false;obtain⟨y,c⟩:=uO hw B gB fB false false;have e:=tru (sM (n:=3*d+4) Z gB g fA fB t h (a _ (by omega)) (c _ (by omega))) G;simp only[mu,J4,Kh]at e;obtain⟨⟨rfl,rfl⟩,⟨⟨n,bA⟩,bB⟩,rfl,rfl⟩:=e;have wA:=ih A Z fA false false (a _ (pb _));have wB:=b0 B gB fB false false (c _ (pb _));have q:=xS (D:=[A,B]) (uS (by simpa using n)) true;refine dA (R:=[A,B].flatten) (λs hs=>?_) (q.trans ?_)
  .rcases Ki.mp (show s∈A++B by simpa using hs)with z|z
   .exact iX bA s z
   .exact iX bB s z
  .simp[uR,wA,wB]
def C_(ho:(W[i]?).join=some (.own xs))(z:ev cal k W=some (.int j))(J:0<=j)(h1:j<xs.length)(U:xs.length<=10000):ex cal (.popAt i k) W=.next (put W i (.own (xs.eraseIdx j.toNat))):=by
 rw[ex,z,gQ,ho];exact if_pos ⟨J,h1,U⟩
def n9(ho:(W[i]?).join=some (.own xs))(hv:ev cal e W=some y)(z:ev cal k W=some (.int j))(J:0<=j)(h1:j<xs.length):ex cal (.setIdx i k e) W=.next (put W i (.own (xs.set j.toNat y))):=by
 rw[ex,hv,gQ,z,gQ,ho];simp[eZ J h1]
def n_{α:Type}{A R:List (List α)}(h:A.Sublist R):A.flatten.Sublist R.flatten:=by
 induction h with
 |slnil=>exact .slnil
 |cons a _ ih=>exact ih.trans (sublist_append_right _ _)
 |cons_cons a _ ih=>exact Sublist.append_left ih _
noncomputable def spS:List MS:=[.ite (.cmp .eq (.bin .mod (.bor 1) (ci 3)) (ci 0))
    [.popAt 3 (.bor 4)]
    [.ite (.and (.cmp .eq (.bin .mod (.bor 1) (ci 3)) (ci 1)) (.cmp .eq (.bor 2) (cs "cases")))
     [.setIdx 3 (.bor 4) (.tup [(.idx (.idx (.bor 3) (.bor 4)) (ci 0)),(.bin .mod (.bin .fdiv (.bor 1) (ci 64)) (ci 60)),(.idx (.idx (.bor 3) (.bor 4)) (ci 2))])]
     [.set 5 (.bin .sub (.blt .len [(.idx (.bor 3) (.bor 4))]) (ci 1)),
     .setIdx 3 (.bor 4) (.bin .add (.slice (.idx (.bor 3) (.bor 4)) (.cst .non) (.bor 5)) (.tup [(.call 55 [(.idx (.idx (.bor 3) (.bor 4)) (.bor 5)),(.bin .fdiv (.bor 1) (ci 64))])]))]],
   .ret (.tup [.var 2,(.blt .tupleOf [.bor 3])])]
def Da(cal:Cal)(v:PV)(z:Int)(b:Bool)(xs:List PV)(hl:xs.length<=10000)(i:Int)(Y:0<=i)(h1:i<xs.length)(a:List PV)(p Z:PV)(hx:xs[i.toNat]?=some (.tup (a++[p])))(J:a=[a.headD .non]\/a=[a.headD .non,a.getD 1 .non]/\b=true)(hb:b=true->a.length=2)(e:cal 55 [.val p,.val (.int (z / 64))]=some Z) :
  ∃ys,exs cal spS [sv v,sv (.int z),sv (.str (if b=true then "cases" else "parts")),some (.own xs),sv (.int i),none]=.ret (.tup [.str (if b=true then "cases" else "parts"),.tup ys])/\(ys=xs.eraseIdx i.toNat\/ys=xs.set i.toNat (.tup (a++[Z]))\/b=true/\ys=xs.set i.toNat (.tup [a.headD .non,.int (z / 64 % 60),p])):=by
 have hi:∀x5:Option MV,ev cal (.idx (.bor 3) (.bor 4)) [sv v,sv (.int z),sv (.str (if b=true then "cases" else "parts")),some (.own xs),sv (.int i),x5]=some (.tup (a++[p])):=λx5=>(dG rfl rfl).trans (by rw[vU,eZ Y h1];exact hx)
 have U:ev cal (.cmp .eq (.bin .mod (.bor 1) (ci 3)) (ci 0)) [sv v,sv (.int z),sv (.str (if b=true then "cases" else "parts")),some (.own xs),sv (.int i),none]=some (.bl (z % 3==0)):=cT rfl (by decide);have c1:ev cal (.and (.cmp .eq (.bin .mod (.bor 1) (ci 3)) (ci 1)) (.cmp .eq (.bor 2) (cs "cases"))) [sv v,sv (.int z),sv (.str (if b=true then "cases" else "parts")),some (.own xs),sv (.int i),none]=some (.bl (z % 3==1&&b)):=dw (cT rfl (by decide)) λ_=>by cases b<;>rfl
 by_cases q0:(z % 3==0)=true
 .rw[q0]at U;exact⟨_,d9 ((bx U).trans (cU (C_ rfl rfl Y h1 hl))) (nK rfl),.inl rfl⟩
 .rw[K9]at q0;rw[q0]at U;by_cases q1:(z % 3==1&&b)=true
  .rw[q1]at c1;obtain rfl:=(oe.mp q1).2;rcases J with J|⟨J,_⟩
   .have:=hb rfl;rw[J]at this;cases this
   .generalize a.headD .non=u at J ⊢;generalize a.getD 1 .non=u2 at J;subst J;exact⟨_,d9 ((bx U).trans (cU ((bx c1).trans (cU (n9 rfl (fH (br ((dG (hi _) rfl).trans rfl) (br rfl (br ((dG (hi _) rfl).trans rfl) rfl)))) rfl Y h1))))) (nK rfl),.inr (.inr ⟨rfl,rfl⟩)⟩
  .rw[K9]at q1;rw[q1]at c1;refine⟨xs.set i.toNat (.tup (a++[Z])),?_,.inr (.inl rfl)⟩;rcases J with J|⟨J,_⟩
   .generalize a.headD .non=u at J;subst J;exact d9 ((bx U).trans (cU ((bx c1).trans (cq (v:=.int 1) ((cJ (aQ (hi _)) rfl).trans rfl) (cU (n9 rfl ((cJ (x:=.tup [u]) (y:=.tup [Z]) (v8 (hi _) rfl rfl rfl) (fH (br (ae (AD ((dG (hi _) rfl).trans rfl) rfl) e) rfl))).trans rfl) rfl Y h1)))))) (nK rfl)
   .generalize a.headD .non=u at J;generalize a.getD 1 .non=u2 at J;subst J;exact d9 ((bx U).trans (cU ((bx c1).trans (cq (v:=.int 2) ((cJ (aQ (hi _)) rfl).trans rfl) (cU (n9 rfl ((cJ (x:=.tup [u,u2]) (y:=.tup [Z]) (v8 (hi _) rfl rfl rfl) (fH (br (ae (AD ((dG (hi _) rfl).trans rfl) rfl) e) rfl))).trans rfl) rfl Y h1)))))) (nK rfl)
def qR (cal) (v) (z) (W):∃J,pC J/\ev cal (.idx (.lst [(.tup [(cs "weight")]),(.tup [(cs "whole")]),(.tup [(cs "bare")]),(.tup [(cs "pairs"),(.tup [])])]) (.bin .mod (.bor 1) (ci 4))) (sv v::sv (.int z)::W)=some J:=by
 have U:=Lf z (b:=4) (by decide);have h1:=Lc z (b:=4) (by decide);have e:ev cal (.idx (.lst [(.tup [(cs "weight")]),(.tup [(cs "whole")]),(.tup [(cs "bare")]),(.tup [(cs "pairs"),(.tup [])])]) (.bin .mod (.bor 1) (ci 4))) (sv v::sv (.int z)::W)=fo (.lst [.tup [.str "weight"],.tup [.str "whole"],.tup [.str "bare"],.tup [.str "pairs",.tup []]]) (.int (z % 4)):=dG rfl rfl;rw[e];generalize z % 4=x at U h1;obtain rfl|rfl|rfl|rfl:x=0\/x=1\/x=2\/x=3:=by omega
 .exact⟨_,g7 (.inr (.inr rfl)),rfl⟩
 .exact⟨_,g7 (.inr (.inl rfl)),rfl⟩
 .exact⟨_,g7 (.inl rfl),rfl⟩
 .exact⟨_,.inr (.inr (.inr ⟨[],(λt Y=>by cases Y),by decide,rfl⟩)),rfl⟩
def A6 (N:Nat) (b:Bool) (xs:List PV) (h0:xs≠[]) (hl:xs.length<=10000) (z:Int):∃i:Nat,i<xs.length/\∀(a:List PV) (p J:PV),xs[i]?=some (.tup (a++[p]))->(a=[a.headD .non]\/a=[a.headD .non,a.getD 1 .non]/\b=true)->(b=true->a.length=2)->aa defs N 55 [.val p,.val (.int (z / 64))]=some J->∃ys,aa defs (N+1) 55 [.val (.tup [.str (if b=true then "cases" else "parts"),.tup xs]),.val (.int z)]=some (.tup [.str (if b=true then "cases" else "parts"),.tup ys])/\(ys=xs.eraseIdx i\/ys=xs.set i (.tup (a++[J]))\/b=true/\ys=xs.set i (.tup [a.headD .non,.int (z / 64 % 60),p])):=by
 have U:(0:Int)<xs.length:=by have:=length_pos_iff.mpr h0;omega
 have Y:=Lf (z / 3) (b:=(xs.length:Int)) (by omega);have Z:=Lc (z / 3) U;generalize hi:z / 3 % (xs.length:Int)=i at Y Z;refine⟨i.toNat,by omega,λa p J hx ha hb e=>?_⟩;obtain⟨ys,e2,h2⟩:=Da (aa defs N) (.tup [.str (if b=true then "cases" else "parts"),.tup xs]) z b xs hl i Y Z a p J hx ha hb e;refine⟨ys,?_,h2⟩;rw[ac (d:=bn) rfl rfl];have c4:∀W:Rho,ev (aa defs N) (.and (.or (.cmp .eq (.bor 2) (cs "cases")) (.cmp .eq (.bor 2) (cs "parts"))) (.cmp .gt (.blt .len [(ix 0 1)]) (ci 0))) (sv (.tup [.str (if b=true then "cases" else "parts"),.tup xs])::sv (.int z)::sv (.str (if b=true then "cases" else "parts"))::W)=some (.bl true):=λW=>dw (p:=true) (q:=true) (by cases b<;>rfl) λ_=>(gY (aQ (v:=.tup xs) rfl) rfl).trans (by rw[Ae,J9 U];rfl)
 have md:eC .mod (.int (z / 3)) (.int (xs.length:Int))=some (.int i):=by rw[qB,if_pos U,hi]
 cases b<;>exact a_ rfl (aW rfl (aW rfl (aW rfl (AE (c4 _) (d9 (dg (xs:=xs) rfl) (cq ((cJ rfl rfl).trans md) e2))))))
def sV{d:Nat}{v:PV}(w:WP d v):∀(n:Nat) (U:Int),∃v',WP d v'/\aa defs (n+d+1) 55 [.val v,.val (.int U)]=some v':=by
 induction w with
 | @leaf d v hv =>
  intro n U;rw[ac (d:=bn) rfl rfl];rcases hv with rfl|rfl|rfl|⟨P,_,_,rfl⟩
  all_goals
   obtain⟨v',h1,e⟩:=qR (aa defs (n+d)) _ U _;exact⟨v',.leaf h1,a_ rfl (aW rfl (aW rfl (aW rfl (aW rfl (g_ e)))))⟩
 | @one d v k r hv ih =>
  intro n U;obtain⟨v',h1,e⟩:=ih n (U / 3);have c0:∀W:Rho,ev (aa defs (n+(d+1))) (.cmp .eq (.bin .mod (.bor 1) (ci 3)) (ci 0)) (sv (.tup [.str (if k=true then "bite" else "knot"),cE r,v])::sv (.int U)::W)=some (.bl (U % 3==0)):=λW=>cT rfl (by decide)
  by_cases q:(U % 3==0)=true
  .rw[q]at c0;refine⟨_,.one k (some (U / 3 % 60)) hv,?_⟩;rw[ac (d:=bn) rfl rfl];cases k<;>exact a_ rfl (AE rfl (AF (c0 _) rfl))
  .rw[K9]at q;rw[q]at c0;refine⟨_,.one k r h1,?_⟩;rw[ac (d:=bn) rfl rfl];cases k<;>exact a_ rfl (AE rfl (xF (c0 _) (nK (fH (br rfl (br rfl (br (ae rfl e) rfl)))))))
 | @fewer d v A gA fA hv ih =>
  intro n U;obtain⟨v',h1,e⟩:=ih n (U / 3);refine⟨_,.fewer A gA fA h1,?_⟩;rw[ac (d:=bn) rfl rfl];exact a_ rfl (aW rfl (dy rfl (fH (br rfl (br rfl (br (ae rfl e) rfl))))))
 | @either d v w A B gA gB fA fB hv hw ih _ =>
  intro n U;obtain⟨v',h1,e⟩:=ih n (U / 3);have c0:∀W:Rho,ev (aa defs (n+(d+1))) (.cmp .eq (.bin .mod (.bor 1) (ci 3)) (ci 0)) (sv (.tup [.str "either",ofR A,v,ofR B,w])::sv (.int U)::W)=some (.bl (U % 3==0)):=λW=>cT rfl (by decide)
  by_cases q:(U % 3==0)=true
  .rw[q]at c0;refine⟨_,.either A A gA gA fA fA hv hv,?_⟩;rw[ac (d:=bn) rfl rfl];exact a_ rfl (aW rfl (aW rfl (AE rfl (AF (c0 _) rfl))))
  .rw[K9]at q;rw[q]at c0;refine⟨_,.either A B gA gB fA fB h1 hw,?_⟩;rw[ac (d:=bn) rfl rfl];exact a_ rfl (aW rfl (aW rfl (AE rfl (xF (c0 _) (nK (fH (br rfl (br rfl (br (ae rfl e) (br rfl (br rfl rfl)))))))))))
 | @cases d J hl hr ih =>
  intro n U;by_cases h0:J=[]
  .subst h0;obtain⟨v',h1,e⟩:=qR (aa defs (n+(d+1))) (.tup [.str "cases",.tup []]) U [sv (.str "cases"),none,none,none];exact⟨v',.leaf h1,by rw[ac (d:=bn) rfl rfl];exact a_ rfl (aW rfl (aW rfl (aW rfl (aW rfl (g_ e)))))⟩
  .obtain⟨i,hk,key⟩:=A6 (n+(d+1)) true (J.map bU) (by simpa using h0) (by rw[p0];exact hl) U;rw[p0]at hk;rcases Z:J[i]with⟨r,a,p⟩
   have Y:(r,a,p)∈J:=Z▸Na hk;obtain⟨p',h1,e⟩:=ih _ Y n (U / 64);obtain⟨ys,key,h2⟩:=key [.int r,cE a] p p' (by rw[Kc,J1 hk,Z];rfl) (.inr ⟨rfl,rfl⟩) (λ_=>rfl) e;rcases h2 with rfl|rfl|⟨_,rfl⟩
   .rw[k5]at key;exact⟨_,.cases _ (uw (length_eraseIdx_le _ _) hl) λq hq=>hr q (Mk hq),key⟩
   .rw[show(J.map bU).set i (.tup ([.int r,cE a]++[p']))=(J.set i (r,a,p')).map bU from by rw[map_set];rfl]at key;exact⟨_,.cases (J.set i (r,a,p')) (by rw[Ly];exact hl) λq hq=>(Me hq).elim (hr q) λz=>(by rw[z];exact h1),key⟩
   .rw[show(J.map bU).set i (.tup [([.int r,cE a]:List PV).headD .non,.int (U / 64 % 60),p])=(J.set i (r,some (U / 64 % 60),p)).map bU from by rw[map_set];rfl]at key;exact⟨_,.cases (J.set i (r,some (U / 64 % 60),p)) (by rw[Ly];exact hl) λq hq=>(Me hq).elim (hr q) λz=>(by rw[z];exact hr (r,a,p) Y),key⟩
 | @parts d J hl hs bA hg hr ih =>
  intro n U;by_cases h0:J=[]
  .subst h0;obtain⟨v',h1,e⟩:=qR (aa defs (n+(d+1))) (.tup [.str "parts",.tup []]) U [sv (.str "parts"),none,none,none];exact⟨v',.leaf h1,by rw[ac (d:=bn) rfl rfl];exact a_ rfl (aW rfl (aW rfl (aW rfl (aW rfl (g_ e)))))⟩
  .obtain⟨i,hk,key⟩:=A6 (n+(d+1)) false (J.map bX) (by simpa using h0) (by rw[p0];omega) U;rw[p0]at hk;rcases Z:J[i]with⟨A,p⟩
   have Y:(A,p)∈J:=Z▸Na hk;obtain⟨p',h1,e⟩:=ih _ Y n (U / 64);obtain⟨ys,key,h2⟩:=key [ofR A] p p' (by rw[Kc,J1 hk,Z];rfl) (.inl rfl) (λz=>by cases z) e;rcases h2 with rfl|rfl|⟨z,_⟩
   .rw[k5]at key;have su:=(eraseIdx_sublist J i).map (·.1);exact⟨_,.parts _ (uw (length_eraseIdx_le _ _) hl) (uw (n_ su).length_le hs) (uw (n_ (n_ su)).length_le bA) (λq hq=>hg q (Mk hq)) λq hq=>hr q (Mk hq),key⟩
   .rw[show(J.map bX).set i (.tup ([ofR A]++[p']))=(J.set i (A,p')).map bX from by rw[map_set];rfl]at key;have em:(J.set i (A,p')).map (·.1)=J.map (·.1):=by
     rw[map_set,show A=(J.map (·.1))[i]'(by rw[p0];exact hk)from by rw[getElem_map,Z],set_getElem_self]
    exact⟨_,.parts (J.set i (A,p')) (by rw[Ly];exact hl) (by rw[em];exact hs) (by rw[em];exact bA) (λq hq=>(Me hq).elim (hg q) λz=>(by rw[z];exact hg (A,p) Y)) λq hq=>(Me hq).elim (hr q) λz=>(by rw[z];exact h1),key⟩
   .cases z
theorem ww :∀{R:LL},(∀t∈R,t.length<=m)->R.flatten.length<=R.length*m
 | [],_=>by simp
 |t::R,h=>by
  have h1:=h t (.head _);have h2:=ww (R:=R) λt z=>h t (.tail _ z)
  rw[flatten_cons,J0,length_cons,Nat.succ_mul];omega
def A7{cal:Cal}{i:Nat}{e:ME}{W:Rho}{ns:List Int}(h:ev cal e W=some (.lst (ns.map .int))):ex cal (.setQ i e) W=.next (put W i (.ownD (.p ns))):=by
 rw[ex,h];simp only[bI]
def wz(cal:Cal)(ns:List Int)(Z:ns.length<=63)(i:Int)(h0:0<=i)(hi:i<=20)(e:ME)(W:Rho)(Y:ev cal e (some (.brw (ns.map .int))::W)=some (.int i)):∃L:List Int,ev cal (.comp .rng [e,(.blt .len [.bor 0]),(ci 2)] [0] (.cst (.bl true)) (.idx (.bor 1) (.bor 0))) (some (.brw (ns.map .int))::W)=some (.lst (L.map .int)):=by
 have z:ev cal (.blt .len [.bor 0]) (some (.brw (ns.map .int))::W)=some (.int ((ns.map PV.int).length:Int)):=rfl;rw[p0]at z;refine⟨(range ((ns.length-i+1) / 2).toNat).map λ(k:Nat)=>ns.getD (i+k*2).toNat 0,?_⟩;rw[J3];refine cn (vs:=[.int i,.int ns.length,.int 2]) (g:=λ(k:Nat)=>PV.int (i+k*2)) (br Y (br z rfl)) (if_pos (by omega)) (by rw[MW];omega) λk J=>?_
 have J:=MK.mp J;have U:(i+(k:Int)*2).toNat<ns.length:=by omega
 show fo (.lst (ns.map PV.int)) (.int (i+k*2))=_;rw[vU,eZ (by omega) (by rw[p0];omega),bind_some,Kc,J1 U];simp[U]
noncomputable abbrev f34(Y Z a3 a4 a5:Option MV)(w:Int)(R:LL)(L1 L2:List Int)(t:Bool)(v1 v2:PV)(z J U:Option MV):Rho:=[Y,sv (.int w),Z,a3,a4,a5,sv (ofR R),some (.ownD (.p L1)),some (.ownD (.p L2)),sv (.str (ai t)),sv v1,sv v2,z,J,U]
def A8{R:LL}(g:SmR R)(t:Bool)(w:Int)(L1 L2:List Int)(a0 a2 a3 a4 a5 x9 b3 b4 Y J U:Option MV):∃b5 cd Z v2 ck cl cr,exs (aa defs 79) vZ (put [a0,sv (.int w),a2,a3,a4,a5,sv (ofR R),some (.ownD (.p L1)),some (.ownD (.p L2)),x9,b3,b4,Y,J,U] 9 (.val (.str (ai t))))=.next (f34 a0 a2 a3 a4 a5 w R b5 cd t Z v2 ck cl cr):=by
 have hf:R.flatten.length<=4000:=uw g.2.2 (by decide);obtain⟨Z,n1,e1,w1⟩:=l_ 3 62 L1 R t true g;obtain⟨v2,n2,e2,w2⟩:=l_ 3 62 L2 R t false g;obtain⟨u1,cu,f1⟩:=sV w1 68 (w / 4);obtain⟨u2,cB,f2⟩:=sV w2 68 (w / 8);have f1:aa defs 79 55 [.val Z,.val (.int (w / 4))]=some u1:=f1;have f2:aa defs 79 55 [.val v2,.val (.int (w / 8))]=some u2:=f2;have say:∀{v:PV} (h:Bool),WP 10 v->∃b,GAt v R t h 79 b/\(b=true->won R t=h):=λ{v} h wp=>by
  obtain⟨b,G⟩:=uO wp R g.1 hf t h;exact⟨b,G 79 (by decide),λz=>by subst z;exact A5 wp R g.1 hf t h (G 38 (by decide))⟩
 have s1:∀{v:PV}{b c:Bool},GAt v R t true 79 b->∀J U,exs (aa defs 79) vX (put (f34 a0 a2 a3 a4 a5 w R n1 n2 t Z v2 (sv (.bl c)) J U) 13 (.val v))=.next (f34 a0 a2 a3 a4 a5 w R n1 n2 t Z v2 (sv (.bl (c||b))) (sv v) (sv (.bl b))):=λ{v b c} G _ _=>cq (ae rfl G) (xF (nJ (p:=true) rfl) (cq (AG (p:=c) (q:=b) rfl λ_=>rfl) rfl))
 have s2:∀{v:PV}{b c:Bool},GAt v R t false 79 b->(b&&c)=false->∀J U,exs (aa defs 79) vY (put (f34 a0 a2 a3 a4 a5 w R n1 n2 t Z v2 (sv (.bl c)) J U) 13 (.val v))=.next (f34 a0 a2 a3 a4 a5 w R n1 n2 t Z v2 (sv (.bl c)) (sv v) (sv (.bl b))):=λ{v b c} G z _ _=>cq (ae rfl G) (xF (AG (p:=false) (q:=false) (nJ (p:=true) rfl) λ_=>(dw (p:=b) (q:=c) rfl λ_=>rfl).trans (by rw[z])) rfl)
 obtain⟨b1,g1,k1⟩:=say true w1;obtain⟨b2,g2,k2⟩:=say true cu;obtain⟨c1,g3,k3⟩:=say false w2;obtain⟨c2,g4,k4⟩:=say false cB;have never:∀c:Bool,(c=true->won R t=false)->(c&&(false||b1||b2))=false:=λc hc=>by
  cases c with
  |false=>rfl
  |true =>
   have:=hc rfl;cases b1 with
   |true=>rw[k1 rfl]at this;cases this
   |false =>
    cases b2 with
    |true=>rw[k2 rfl]at this;cases this
    |false=>rfl
 have l1:∀Y J U,ev (aa defs 79) (.lst [.var 10,(.call 55 [.bor 10,(.bin .fdiv (.bor 1) (ci 4))])]) (f34 a0 a2 a3 a4 a5 w R n1 n2 t Z v2 Y J U)=some (.lst [Z,u1]):=λ_ _ _=>by
  rw[ev,br rfl (br (ae rfl f1) rfl)];rfl
 have l2:∀Y J U,ev (aa defs 79) (.lst [.var 11,(.call 55 [.bor 11,(.bin .fdiv (.bor 1) (ci 8))])]) (f34 a0 a2 a3 a4 a5 w R n1 n2 t Z v2 Y J U)=some (.lst [v2,u2]):=λ_ _ _=>by
  rw[ev,br rfl (br (ae rfl f2) rfl)];rfl
 exact⟨n1,n2,Z,v2,_,_,_,jA (xcO rfl rfl rfl rfl rfl e1) (jA (xcO rfl rfl rfl rfl rfl e2) (cq (v:=.bl false) rfl (d9 (jz (l1 _ _ _) (uF (s1 g1 _ _) (s1 g2 _ _))) (cU (jz (l2 _ _ _) (uF (s2 g3 (never c1 k3) _ _) (s2 g4 (never c2 k4) _ _)))))))⟩
def A9(ns:List Int)(hl:ns.length<=63):aa defs 80 56 [.brw (ns.map .int)]=some (.bl true):=by
 rw[ac (d:=v0) rfl rfl];have w0:0<=iI (cellOf ns 0) 1865811235122147685:=gX _ _;have b0:0<=iI (cellOf ns 1) 1442695040888963407:=gX _ _;have e1:=AL 77 ns 0 1865811235122147685 (by decide);have e2:=AL 77 ns 1 1442695040888963407 (by decide);generalize iI (cellOf ns 0) 1865811235122147685=z at w0 e1;generalize iI (cellOf ns 1) 1442695040888963407=J at b0 e2;obtain⟨room,r0,r1,e3⟩:∃room:Int,0<=room/\room<=8/\∀W:Rho,ev (aa defs 79) (.idx (.lst [(ci 3),(ci 8)]) (.bin .mod (.bor 1) (ci 2))) (some (.brw (ns.map .int))::sv (.int z)::W)=some (.int room):=by
  have e:∀W:Rho,ev (aa defs 79) (.idx (.lst [(ci 3),(ci 8)]) (.bin .mod (.bor 1) (ci 2))) (some (.brw (ns.map .int))::sv (.int z)::W)=fo (.lst [.int 3,.int 8]) (.int (z % 2)):=λW=>dG rfl ((cJ rfl rfl).trans rfl)
  obtain q|q:z % 2=0\/z % 2=1:=by omega
  .exact⟨3,by decide,by decide,λW=>(e W).trans (by rw[q];rfl)⟩
  .exact⟨8,by decide,by decide,λW=>(e W).trans (by rw[q];rfl)⟩
 have hc:=As ns (a:=2) (b:=2+room) (by decide) (by omega);have e4:∀W:Rho,ev (aa defs 79) (.slice (.bor 0) (ci 2) (.bin .add (ci 2) (.bor 3))) (some (.brw (ns.map .int))::sv (.int z)::sv (.int J)::sv (.int room)::W)=some (ofL (xz ns (some 2) (some (2+room)))):=λW=>by
  show some (PV.lst (cut (ns.map .int) (some 2) (some (2+room))))=_;rw[Ar]
 generalize xz ns (some 2) (some (2+room))=cells at hc e4;have b2:cells.length<=8:=by omega
 have m1:=Lf J (b:=49) (by decide);have m2:=Lc J (b:=49) (by decide);have key:∀c:Int,∃s,(b_ s/\s.length<=4)/\aa defs 79 45 [.val (.int c),.val (.int (J % 49)),.val (.int (3+J / 49 % 2)),.val (.int (J / 98 % 3))]=some (ofS s):=λc=>C4 77 c _ _ _ m1 (by omega) (by omega) (by omega) (by omega) (by omega)
 obtain⟨f,hf⟩:=Mw key;have gS:∀t∈sortT (cells.map f),b_ t/\t.length<=4:=λt U=>by
  obtain⟨c,_,rfl⟩:=mem_map.mp (dF.mp U);exact(hf c).1
 have hL:(sortT (cells.map f)).length=cells.length:=by rw[sortT_len,p0]
 have g:SmR (sortT (cells.map f)):=by
  have:=ww (R:=sortT (cells.map f)) (m:=4) λt U=>(gS t U).2
  exact⟨⟨λt U=>(gS t U).1,sortT_rises _,by omega⟩,by omega,by omega⟩
 have e5:∀W:Rho,ev (aa defs 79) (.comp .seq [.bor 4] [2] (.cst (.bl true)) (.call 45 [.bor 0,(.bin .mod (.bor 1) (ci 49)),(.bin .add (ci 3) (.bin .mod (.bin .fdiv (.bor 1) (ci 49)) (ci 2))),(.bin .mod (.bin .fdiv (.bor 1) (ci 98)) (ci 3))])) (some (.brw (ns.map .int))::sv (.int z)::sv (.int J)::sv (.int room)::sv (ofL cells)::W)=some (.lst ((cells.map f).map ofS)):=λW=>by
  rw[J3];exact cn (vs:=[ofL cells]) (g:=PV.int) (h:=ofS∘f) rfl rfl (by omega) λc _=>ae rfl (hf c).2
 have Y:∀W:Rho,ev (aa defs 79) (.blt .tupleOf [(.blt .sorted [.bor 5])]) (some (.brw (ns.map .int))::sv (.int z)::sv (.int J)::sv (.int room)::sv (ofL cells)::sv (.lst ((cells.map f).map ofS))::W)=some (ofR (sortT (cells.map f))):=λW=>by
  refine(aQ (v:=.lst ((sortT (cells.map f)).map ofS)) ?_).trans rfl;rw[aQ (v:=.lst ((cells.map f).map ofS)) rfl,gP,jY,bind_some,gi (by rw[p0];omega)]
 generalize sortT (cells.map f)=R at g Y;generalize (cells.map f).map ofS=S at e5 Y;obtain⟨L1,q1⟩:=wz (aa defs 79) ns hl (2+room) (by omega) (by omega) (.bin .add (ci 2) (.bor 3)) [sv (.int z),sv (.int J),sv (.int room),sv (ofL cells),sv (.lst S),sv (ofR R),none,none,none,none,none,none,none,none] rfl;obtain⟨L2,q2⟩:=wz (aa defs 79) ns hl (3+room) (by omega) (by omega) (.bin .add (ci 3) (.bor 3)) [sv (.int z),sv (.int J),sv (.int room),sv (ofL cells),sv (.lst S),sv (ofR R),some (.ownD (.p L1)),none,none,none,none,none,none,none] rfl;obtain⟨M1,M2,v1,v2,Z,ao,ar,e8⟩:=A8 g false z L1 L2 (some (.brw (ns.map .int))) (sv (.int J)) (sv (.int room)) (sv (ofL cells)) (sv (.lst S)) none none none none none none;obtain⟨N1,N2,u1,u2,cr,cu,cA,e9⟩:=A8 g true z M1 M2 (some (.brw (ns.map .int))) (sv (.int J)) (sv (.int room)) (sv (ofL cells)) (sv (.lst S)) (sv (.str (ai false))) (sv v1) (sv v2) Z ao ar;refine a_ (e1 _) (a_ ?_ (a_ (e3 _) (a_ (e4 _) (a_ (e5 _) (a_ (Y _) (jy (A7 q1) (jy (A7 q2) (jy (jz (xs:=[.str "weaver",.str "moth"]) rfl (uF e8 e9)) (g_ rfl)))))))));exact e2 _
noncomputable def top(i:Nat):Stmt:=PySem.Challenge.pw_mothloom_k34_whole_never_both.main.body.getD i (.Pass ⟨0,0,0,0⟩)
def Gh {l:PySem.W.OpenLaw}{w:World}{K:NF}{h:Heap}{mg:Str->Option Value}{fa:Addr} (X:K.In h) (G:h.Ns mainGlobals mg) (U:mg "law"=some (.ref fa))
  (hs:uA K top defs [1,2,3,4,5,6,7,8,10,11,12,14,15,16,17,19,20,22,23,26,27,28,29,30,31,32,33,34,36,37,38,39,40,41,42,43,45,46,47,48,49,50,51,52,53,54,55,56,57,58,59,60,61,62,63,64,65] tab.ds) (hL:HD K "law" (top 65) v0 λfd=>∀(s:Shared) (v:Value),BindsTo s fd ⟨[v],[]⟩ [("script",v)])
  (zs:∀x∈jT,PySem.W.nsIn K mainGlobals x=some none)
  {z:Value} (g0:PySem.W.nsIn K mainGlobals "UNIT"=some (some z)) (r0:aD (toV (.int 1152921504606846976)) z)
 :∃fd:FuncData,(∀(s:Shared) (v:Value),BindsTo s fd ⟨[v],[]⟩ [("script",v)])/\∀base:Heap,K.In base->base.Ns mainGlobals mg->jc l.prog w K mg base CX0 80 fa fd ["script"] (spM K (aa defs 80) 56):=by
 obtain⟨_,Y,J,Z⟩:=Ad (T:=tab) X G hL (by kernel_rfl);cases U.symm.trans J.named;have pr:FI tab K mg defs:=by
  refine⟨rfl,FH X G hs (by kernel_rfl),λx hx=>PySem.W.mg_none_of X G (zs x hx),λp hp=>?_⟩
  .simp only[tab,wh,Lk,Mc]at hp;rcases hp with rfl
   .exact⟨_,PySem.W.mg_of X G g0,r0⟩
 exact⟨Y,Z,λbase _ _=>Ik (by decide) pr 80 56 v0 rfl _ _ _ J⟩
def JR{l:PySem.W.OpenLaw}{q:Program}{J:List Str}{XP:(Str->Option Value)->Heap->Prop}{Y:World->Heap->Prop}{d:DefRec}{K:Params->NF}(hn:l.most=some 63)(U:d.params.defaults=[])
  (hY:∀(w:World) (h:Heap),Y w h->(K w.params).In h)
  (F:∀(w:World) (mg:Str->Option Value) (Z:Addr) (h:Heap),(K w.params).In h->h.Ns mainGlobals mg->mg d.name=some (.ref Z) ->
   ∃fd:FuncData,(∀(s:Shared) (u:Value),BindsTo s fd ⟨[u],[]⟩ [("script",u)])/\∀base:Heap,(K w.params).In base->base.Ns mainGlobals mg->jc l.prog w (K w.params) mg base CX0 80 Z fd ["script"] (spM (K w.params) (aa defs 80) 56)) :
  PySem.W.WalkO q J XP Y l.row.toRowW d [] (λf vs=>PySem.call f vs):=
 L2.BI (n:=63) (k:=80) (x:="script") (CX:=λ_=>CX0) (sp:=λw=>spM (K w.params) (aa defs 80) 56) hn (by decide) U ⟨rfl,by decide,by decide⟩ hY F (λ_ _ a ns hl _ hS=>FJ (A9 ns hl) hS) λ_ _ _ _ _ z=>z
end My
open PySem PySem.W PyProof.Rows List Option
set_option maxRecDepth 100000 in
set_option maxHeartbeats 0 in
theorem PySem.Challenge.cw_mothloom_k34_whole_never_both_holds : PySem.Challenge.rw_mothloom_k34_whole_never_both.Holds := by
 w_on;o_law;k_head;(case hw=>w_witness2)
 k_fill
 refine My.JR (l:=PySem.Challenge.rw_mothloom_k34_whole_never_both) rfl rfl (λw h Y=>PySem.W.kIn_of Y) ?F
 case F =>
  intro w mg fa h KX G hmg
  refine' My.Gh KX G hmg ?hs ?hL ?zs ?gq0 ?rq0
  (case hs =>
   repeat' first|exact MM.uA.nil|apply MM.uA.cons
   all_goals (conv=>arg 2;whnf)
   all_goals first
    | (refine' ⟨rfl,_,_,?ka,.mk' (d0:=.none) ?kl ?kc ?kk,MM.bn1 λ_=>rfl,trivial⟩;(case ka=>k_is);(case kl=>k_is);(case kc=>k_is);(case kk=>k_is))
    | (refine' ⟨rfl,_,_,?ka,.mk' (d0:=.none) ?kl ?kc ?kk,MM.bn2 λ_ _=>rfl,trivial⟩;(case ka=>k_is);(case kl=>k_is);(case kc=>k_is);(case kk=>k_is))
    | (refine' ⟨rfl,_,_,?ka,.mk' (d0:=.none) ?kl ?kc ?kk,MM.bn3 λ_ _ _=>rfl,trivial⟩;(case ka=>k_is);(case kl=>k_is);(case kc=>k_is);(case kk=>k_is))
    | (refine' ⟨rfl,_,_,?ka,.mk' (d0:=.none) ?kl ?kc ?kk,MM.bn4 λ_ _ _ _=>rfl,trivial⟩;(case ka=>k_is);(case kl=>k_is);(case kc=>k_is);(case kk=>k_is))
    | (refine' ⟨rfl,_,_,?ka,.mk' (d0:=.none) ?kl ?kc ?kk,MM.bn5 λ_ _ _ _ _=>rfl,trivial⟩;(case ka=>k_is);(case kl=>k_is);(case kc=>k_is);(case kk=>k_is))
    | (refine' ⟨rfl,_,_,?ka,.mkd ?kl ?kc ?kk,?kb,trivial⟩;(case ka=>k_is);(case kl=>k_is);(case kc=>k_is);(case kk=>k_is);(case kb=>refine' MM.uv rfl ?kx ?ky;(case kx=>k_is);(case ky=>exact λus hl=>match us,hl with|[_,_],_=>⟨_,rfl,rfl⟩))))
  (case hL=>refine' ⟨rfl,_,_,?ka,.mk' (d0:=.none) ?kl ?kc ?kk,MM.bn1 λ_=>rfl,λs v=>.of_eq rfl⟩;(case ka=>k_is);(case kl=>k_is);(case kc=>k_is);(case kk=>k_is))
  (case zs=>intro x hx;simp only[MM.jT,wh,Lk,Mc]at hx;rcases hx with rfl|rfl|rfl|rfl|rfl|rfl|rfl|rfl|rfl|rfl|rfl|rfl|rfl|rfl|rfl|rfl|rfl<;>k_is)
  (case gq0=>k_is);(case rq0=>exact⟨_,rfl⟩)
