import PyProof.Rows.All
import Wide.All
import OpenK.AllK
import Wide.FinOn
import Lean
import PyProof.EqAt
import PyProof.EqKinds
import PyProof.TupleCall
import PySem.Challenge.RW_mothloom_k36_answers_told
set_option Elab.async false
set_option linter.all false
set_option maxRecDepth 100000
set_option genSizeOf false
set_option backward.eqns.nonrecursive false
set_option bootstrap.genMatcherCode false
def ez:=@PySem.wpAny_bind
def gf:=@Option.bind_eq_some_iff
def gx:=@PySem.wpAny_pure
def gQ:=@Bool.and_eq_true_iff
def g4:=@PySem.Heap.get?_push_of_some
def mu:=@Bool.and_eq_true
def oe:=@Bool.false_ne_true
def pb:=@Nat.le_refl
def pd:=@List.length_map
def pe:=@Option.map_eq_some_iff
def ro:=@List.size_toArray
def r4:=@PySem.Heap.lt_size
def tf:=@Option.some.injEq
def tr:=@List.length_append
def uw:=@PySem.Heap.get?_push_size
def wh:=@Nat.le_trans
def JV:=@Nat.ne_of_lt
def JW:=@List.map_cons
def JX:=@Nat.lt_of_lt_of_le
def JY:=@List.mem_cons
def JZ:=@List.getElem?_eq_some_iff
def J0:=@beq_iff_eq
def J1:=@decide_eq_true
def J2:=@List.map_map
def J3:=@Option.some.inj
def J4:=@List.getElem?_eq_getElem
def J5:=@decide_eq_false
def J6:=@Bool.not_eq_true'
def J7:=@Bool.false_eq_true
def J8:=@PySem.wpAny_loadPart'
def J9:=@List.getElem?_map
def Ka:=@List.map_append
def Kb:=@PySem.wpAny_setState_of
def Kc:=@PySem.Heap.size_push
def Kd:=@Nat.zero_le
def Ke:=@List.mem_singleton
def Kf:=@congrArg
def Kg:=@PySem.wpAny_ite_split
def Kh:=@List.getElem?_set_ne
def Ki:=@PySem.wpAny_call_entry
def Kj:=@Array.getElem?_toList
def Kk:=@PySem.Heap.SameBut.update
def Kl:=@Nat.lt_succ_of_lt
def Km:=@Nat.lt_of_le_of_lt
def Kn:=@List.append_assoc
def Ko:=@PySem.wpAny_mono
def Kp:=@PySem.sizeLine_eq
def Kq:=@Nat.lt_irrefl
def Kr:=@PySem.wpAny_holding
def Ks:=@PySem.wpAny_newObj_type
def Kt:=@PyProof.Rows.slot_tuple_getitem
def Ku:=@PySem.wpAny_callSpecial?_slot
def Kv:=@Bool.eq_iff_iff
def Kw:=@List.mem_append_right
def Kx:=@beq_eq_false_iff_ne
def Ky:=@List.nodup_cons
def Kz:=@of_decide_eq_true
def KA:=@PySem.Heap.get?_update_self
def KC:=@List.getD_eq_getElem?_getD
def KD:=@List.mem_cons_of_mem
def KG:=@PyProof.Rows.callWith_type1
def KH:=@Nat.add_right_comm
def KI:=@List.length_eq_zero_iff
def KJ:=@List.mem_filter
def KL:=@decide_eq_true_eq
def KN:=@Nat.le_antisymm
def KP:=@Nat.not_lt
def KQ:=@List.perm_ext_iff_of_nodup
def KR:=@Nat.ne_of_gt
def KS:=@if_false
def KU:=@Nat.add_sub_cancel
def KW:=@PySem.wpAny_isInstance
def KY:=@decide_eq_true_iff
def KZ:=@List.mem_cons_self
def K0:=@List.getElem?_append_left
def K1:=@PySem.wpAny_truthy_bool
def K2:=@Nat.le_of_lt_succ
def K3:=@PyProof.Rows.KeyOrd.kle_refl
def K4:=@PySem.Heap.get?_update_other
def K5:=@beq_self_eq_true
def K6:=@List.map_congr_left
def K7:=@Int.emod_lt_of_pos
def K8:=@Array.getElem?_eq_getElem
def K9:=@Nat.le_of_lt
def La:=@List.append_nil
def Lb:=@Int.emod_nonneg
def Lc:=@List.getElem?_set_self
def Ld:=@PySem.fits_of_scanBound
def Le:=@Nat.exists_eq_add_of_lt
def Lf:=@List.any_eq_true
def Lg:=@Array.getElem?_eq_none
def Lh:=@Nat.le_succ
def Li:=@PySem.wpAny_Call_Name_kw
def Lj:=@Nat.le_of_eq
def Lk:=@List.nodup_nil
def Ll:=@Array.getD_eq_getD_getElem?
def Lm:=@Nat.lt_of_le_of_ne
def Ln:=@PySem.wpAny_setField_rec
def Lo:=@List.getElem?_append_right
def Lp:=@PySem.Heap.SameBut.refl
def Lq:=@PySem.wpAny_storeSet_of
def Lr:=@PySem.wpAny_setEpoch_of
def Ls:=@List.find?_cons_of_neg
def Lu:=@List.mem_append
def Lv:=@PySem.wpAny_rule
def Lw:=@List.not_mem_nil
def Lx:=@List.isEmpty_iff
def Ly:=@Nat.zero_add
def Lz:=@Nat.lt_succ_self
def LA:=@List.length_filter_le
def LB:=@Classical.axiomOfChoice
def LC:=@List.pairwise_cons
def LD:=@PySem.tupleKind_room_in1
def LF:=@Nat.le_add_left
def LG:=@Array.size_extract
def LH:=@Nat.min_eq_left
def LI:=@List.filter_cons_of_neg
def LJ:=@PySem.F.slot_dict_valueiterator_next
def LK:=@PySem.richCompare_meets_room
def LM:=@PySem.Calls.callWith_builtin
def LN:=@PySem.wpAny_pyIter_list
def LO:=@Nat.le_of_succ_le
def LP:=@PyProof.Rows.KeyOrd.kle_of_klt
def LQ:=@bne_self_eq_false
def LR:=@List.length_eq_one_iff
def LS:=@Ne.symm
def LU:=@PySem.codeAny_mono
def LV:=@PySem.wpAny_typeOf
def LW:=@Nat.lt_trans
def LX:=@PySem.builtinLookup_eq_fast
def LY:=@List.length_eraseIdx_of_lt
def LZ:=@PyProof.Rows.KeyOrd.kle_trans
def L0:=@Nat.le_sub_one_of_lt
def L1:=@List.all_eq_true
def L3:=@List.perm_append_comm
def L4:=@Array.perm_iff_toList_perm
def L5:=@Bool.not_true
def L6:=@List.filterMap_cons_some
def L7:=@PySem.wpAny_passesOwn
def L8:=@List.mem_of_getElem?
def L9:=@PySem.W.KasT.kasWp_bind
def Ma:=@List.cons.injEq
def Mb:=@List.mem_range
def Mc:=@PySem.wpAny_pyIter_tuple
def Md:=@PySem.Calls.spliced_cons
def Me:=@List.getElem?_replicate
def Mf:=@PySem.AutoSeq1.sub_tuple_tuple
def Mg:=@or_false
def Mh:=@List.eq_nil_of_length_eq_zero
def Mi:=@Nat.sub_le
def Mj:=@Array.size_map
def Mk:=@List.filter_eq_self
def Ml:=@Nat.lt_trichotomy
def Mm:=@PySem.wpAny_collect_seq
def Mn:=@List.find?_cons_of_pos
def Mo:=@Nat.lt_of_succ_lt_succ
def Mp:=@LawfulMonad.bind_assoc
def Mq:=@PySem.plainId_quiet
def Mr:=@PySem.wpAny_attempt
def Ms:=@List.find?_eq_none
def Mt:=@Nat.le_add_right
def Mu:=@Bool.not_eq_true
def Mv:=@List.mem_append_left
def Mw:=@PySem.call_meets
def Mx:=@PySem.wpAny_specialOf
def Mz:=@List.ext_getElem?
def MA:=@List.all_map
def MB:=@PySem.codeAny_builtin
def MC:=@PySem.Around.under_plainId
def MF:=@PySem.typeLookup_type
def MG:=@PySem.wpAny_updateSeq
def MH:=@List.nodup_append
def MI:=@List.drop_eq_getElem_cons
def MJ:=@List.length_set
def MK:=@Nat.add_sub_cancel'
def ML:=@PySem.wpAny_setEntries_of
def MN:=@List.filterMap_cons_none
def MO:=@List.mem_map_of_mem
def MP:=@Bool.false_and
def MQ:=@PySem.isSubtype_type
def MR:=@PySem.wpAny_fieldsOf
def MT:=@Option.map_map
def MU:=@List.flatten_append
def MW:=@PySem.wpAny_of_eq
def MX:=@Nat.lt_or_eq_of_le
def MY:=@PySem.wpAny_forIn_array'
def MZ:=@Int.fdiv_eq_ediv_of_nonneg
def M0:=@Array.getElem?_append_left
def M1:=@Bool.true_and
def M3:=@PySem.Value.isInt_shape
def M4:=@PySem.Calls.spliced_nil
def M5:=@List.take_of_length_le
def M6:=@PySem.wpAny_pyIter_slot
def M7:=@List.filter_eq_nil_iff
def M8:=@PySem.intKind_is
def M9:=@PySem.concat_meets
def Na:=@PySem.noFill_tuple_add
def Nb:=@Nat.lt_asymm
def Nc:=@map_eq_pure_bind
def Nd:=@Nat.min_self
def Nf:=@PySem.wpAny_askSetting
def Ng:=@List.getElem?_eq_none
def Nh:=@List.length_range
def Ni:=@decide_eq_decide
def Nj:=@Bool.or_eq_true
def Nk:=@List.length_take
def Nl:=@List.mem_reverse
def Nm:=@Nat.sub_lt
def Nn:=@Nat.mod_lt
abbrev Np:=PySem.W.Frag
def aE{P:Prop}(h:∀Q:Prop,(P->Q)->Q):P:=h P id
namespace L2
open PySem PySem.Spec PyProof.Rows List Option
noncomputable abbrev Key:=Sum Int Str
noncomputable def lz:Key->Value->Bool
 | .inl k,v=>Value.isInt k v
 | .inr x,v=>Value.isStrOf x v
noncomputable def I_(w:World):Key->Int
 | .inl k=>hashInt k
 | .inr x=>hashStr w x
def bS:∀{k}{v},lz k v=true->(∃i t,k=Sum.inl i/\v=Value.int i t)\/(∃x t,k=Sum.inr x/\v=Value.str x t)
 | .inl i,v,h=>by
  obtain⟨t,e⟩:=M3 (k:=i) (v:=v) h;exact .inl ⟨i,t,rfl,e⟩
 | .inr x,v,h=>by
  obtain⟨t,e⟩:=Value.isStrOf_shape (x:=x) (v:=v) h;exact .inr ⟨x,t,rfl,e⟩
def wz(i)(t):lz (.inl i) (.int i t)=true:=by simp[lz,Value.isInt]
def wA(x)(t):lz (.inr x) (.str x t)=true:=by simp[lz,Value.isStrOf]
def DC(a b):decide ((Sum.inl a:Key)=Sum.inl b)=(a==b):=by
 by_cases e:a=b
 .subst e;simp
 .simp_all
def DE(a b):decide ((Sum.inr a:Key)=Sum.inr b)=decide (a=b):=by simp
def DF(a)(b):decide ((Sum.inl a:Key)=Sum.inr b)=false:=rfl
def DG(a)(b):decide ((Sum.inr a:Key)=Sum.inl b)=false:=rfl
noncomputable def bE(prog)(w):PySem.KeyKind prog w Key where
 is:=lz
 hash:=I_ w
 inj:=λv a b U J=>by
  rcases bS U with⟨i,t,rfl,rfl⟩|⟨x,t,rfl,rfl⟩
  .rcases bS J with⟨j,u,rfl,e⟩|⟨y,u,rfl,e⟩
   .injection e with z _;rw[z]
   .exact nomatch e
  .rcases bS J with⟨j,u,rfl,e⟩|⟨y,u,rfl,e⟩
   .exact nomatch e
   .injection e with z _;rw[z]
 byValue:=λk v h=>by
  rcases bS h with⟨i,t,rfl,rfl⟩|⟨x,t,rfl,rfl⟩<;>rfl
 pyHash:=λhv h=>by
  rcases bS hv with⟨i,t,rfl,rfl⟩|⟨x,t,rfl,rfl⟩
  .exact wpAny_pyHash_int h
  .exact wpAny_pyHash_str h
 eqBool:=λY hv h=>by
  rcases bS Y with⟨i,t,rfl,rfl⟩|⟨x,t,rfl,rfl⟩
  .rcases bS hv with⟨j,u,rfl,rfl⟩|⟨y,u,rfl,rfl⟩
   .rw[DC]at h;exact wpAny_eqBool_int h
   .rw[DF]at h;exact SeqAt.EqAt.int_str i t y u _ _ _ _ h
  .rcases bS hv with⟨j,u,rfl,rfl⟩|⟨y,u,rfl,rfl⟩
   .rw[DG]at h;exact SeqAt.EqAt.str_int x t j u _ _ _ _ h
   .rw[DE]at h;exact wpAny_eqBool_str h
 «strs»:=λk x t v h=>by
  rcases bS h with⟨i,u,rfl,e⟩|⟨y,u,rfl,e⟩
  .exact nomatch e
  .injection e with z _
   subst z;cases v<;>rfl
def tN(prog:Program)(w:World)(k:Key)(v:Value):(bE prog w).is k v=lz k v:=rfl
def ri(prog)(w)(i)(t):(bE prog w).is (.inl i) (.int i t)=true:=wz i t
def rj(prog)(w)(x)(t):(bE prog w).is (.inr x) (.str x t)=true:=wA x t
inductive V where
 | non|bl (b:Bool)|int (i:Int)|str (x:Str)|byt (b:Array UInt8)|flt (b:UInt64)|ref (a:Addr)|ty (n:String)
 deriving DecidableEq
def aI:V->Value->Prop
 | .non,u=>u=Value.none
 | .bl b,u=>u=Value.bool b
 | .int i,u=>∃t,u=Value.int i t
 | .str x,u=>∃t,u=Value.str x t
 | .byt b,u=>∃t,u=Value.bytes b t
 | .flt b,u=>∃t,u=Value.float b t
 | .ref a,u=>u=Value.ref a
 | .ty n,u=>u=Value.type n
abbrev aL:List V->List Value->Prop:=Paired aI
theorem aL.length(r:aL xs us):xs.length=us.length:=Paired.length r
theorem aL.get:∀{xs}{us}{i:Nat}{x},aL xs us->xs[i]?=some x->∃u,us[i]?=some u/\aI x u
 | _,_,_,_,.nil,e=>by simp at e
 | _,_,0,_,.cons r _,e=>by simp at e;subst e;exact⟨_,rfl,r⟩
 | _,_,i+1,x,.cons _ t,e=>by
  obtain⟨u,h1,h2⟩:=aL.get (i:=i) (x:=x) t (by simpa using e);exact⟨u,by simpa using h1,h2⟩
theorem aL.append:∀{xs ys}{us z},aL xs us->aL ys z->aL (xs++ys) (us++z)
 | _,_,_,_,.nil,s=>s
 | _,_,_,_,.cons r t,s=>.cons r (aL.append t s)
theorem aL.take:∀{xs}{us} n,aL xs us->aL (xs.take n) (us.take n)
 | _,_,0,_=>.nil
 | _,_,_+1,.nil=>.nil
 | _,_,n+1,.cons r t=>.cons r (aL.take n t)
theorem aL.drop:∀{xs}{us} n,aL xs us->aL (xs.drop n) (us.drop n)
 | _,_,0,r=>r
 | _,_,_+1,.nil=>.nil
 | _,_,n+1,.cons _ t=>aL.drop n t
def lW:Option V->Option Value->Prop
 |some v,some u=>aI v u
 |none,none=>True
 | _,_=>False
def KV :List (g×V)->List (g×Value)->Prop:=Paired λp q=>p.1=q.1/\aI p.2 q.2
noncomputable def kV:Key->V
 | .inl i=>.int i
 | .inr x=>.str x
inductive HO where
 | lst (xs:List V)
 | tup (xs:List V)
 | dK (kvs:List (Key×V))|dT (kvs:List (List Key×V))
 | set (S:Int->Bool) (n:Nat)
 | ins (C dx:Addr) (fs:List (Str×V))
 | own (x:Addr)
 | xd (fs:List (Str×V))
 | met (f x:Addr)
 | rng (lo hi:Int)
 | frz (o:Obj) (u:HO)
 | tbl (ps:Array Value)
 | ext (φ:Heap->Prop)
noncomputable abbrev Hp:=Addr->Option HO
noncomputable def upd(H:Hp)(a:Addr)(o:HO):Hp:=λb=>if b=a then some o else H b
def aB :upd H a o a=some o:=by unfold upd;rw[if_pos rfl]
def bc(h:b≠a):upd H a o b=H b:=by unfold upd;rw[if_neg h]
def GF{H:Hp}{a b:Addr}{o u:HO}(h:H a=some o)(h':H b=some u)(d:o≠u):a≠b:=by
 intro e;subst e;rw[h]at h';exact d (J3 h')
def cJ{H:Hp}{a b:Addr}{o:HO}(h:H a=some o)(h':H b=none):a≠b:=by
 intro e;subst e;rw[h]at h';cases h'
section
variable(P:Program)(w:World)
def bJ(H:Hp)(h:Heap)(a:Addr):HO->Prop
 | .lst xs=>xs.length<=sizeLine/\∃its n,aL xs its/\h.get? a=some { cls:=.type "list",data:=.seq its.toArray n }
 | .tup xs=>xs.length<=sizeLine/\∃its,aL xs its/\IsTup h a its.toArray
 | .dK kvs=>kvs.length<=sizeLine/\(a==sysModules)=false/\∃vs,KV kvs vs/\h.DictOf (bE P w) a vs
 | .dT kvs=>kvs.length<=sizeLine/\(a==sysModules)=false/\∃xs,
   Paired (λp q=>p.1=q.1/\H q.2.1=some (.tup (p.1.map kV))/\aI p.2 q.2.2) kvs xs /\
   ∃o es ep,h.get? a=some o/\o.ExactDict/\o.data=.dict es ep/\es.toList=xs.map (entryOfKey (tupleKind (bE P w)))/\(xs.map (·.1)).Nodup
 | .set S n=>h.SetOf (intKind P w) a S n
 | .ins C dx fs=>H dx=some (.own a)/\fs.length<=1000/\dx≠a/\h.get? a=some (PySem.W.instObj C dx) /\
   ∃mA,h.Ns1 dx mA/\(∀f,lW (fs.lookup f) (mA f))/\PySem.Within mA (fs.map (·.1))
 | .own _=>∃o,h.get? a=some o
 | .xd fs=>∃mA,h.Ns1 a mA/\∀f,lW (fs.lookup f) (mA f)
 | .rng lo hi=>∃t u v,h.get? a=some { cls:=.type "range",data:=.fields #[.int lo t,.int hi u,.int 1 v] }
 | .frz o u=>h.get? a=some o/\bJ H h a u
 | .tbl ps=>h.get? a=some { cls:=.none,data:=.fields ps }
 | .met f x=>h.get? a=some (PySem.W.methodObj (.ref f) (.ref x))
 | .ext z=>z h/\(∃o,h.get? a=some o)/\∀h1 h2,z h1->(∀o,h1.get? a=some o->h2.get? a=some o)->z h2
def HOk(H:Hp)(h:Heap):Prop:=∀a o,H a=some o->bJ P w H h a o
end
section
variable{P:Program}{w:World}{H H':Hp}{h h':Heap}{a:Addr}{o:HO}
theorem bJ.lt(x:bJ P w H h a o):a<h.objs.size:=by
 cases o with
 |own y=>obtain⟨_,e⟩:=x;exact r4 e
 |xd fs=>obtain⟨_,⟨_,_,_,e,_⟩,_⟩:=x;exact r4 e
 |ext z=>obtain⟨_,⟨_,e⟩,_⟩:=x;exact r4 e
 |lst xs=>obtain⟨_,_,_,_,e⟩:=x;exact r4 e
 |tup xs=>obtain⟨_,_,_,p⟩:=x;exact p.lt
 |set S n=>obtain⟨o,_,_,_,e,_⟩:=x;exact r4 e
 |frz J u=>obtain⟨e,_⟩:=x;exact r4 e
 |rng lo hi=>obtain⟨_,_,_,e⟩:=x;exact r4 e
 |ins C dx fs=>obtain⟨_,_,_,e,_⟩:=x;exact r4 e
 |dK kvs|dT kvs=>obtain⟨_,_,_,_,o,_,_,e,_⟩:=x;exact r4 e
 | _=>exact r4 (show h.get? a=some _ from x)
theorem Paired.mapP :∀{l₁}{l₂},Paired F l₁ l₂->(∀a b,F a b->G a b)->Paired G l₁ l₂
 | _,_,.nil,_=>.nil
 | _,_,.cons r t,f=>.cons (f _ _ r) (Paired.mapP t f)
def bJ.stay(x:bJ P w H h a o)(k:∀b u,(b=a\/H b=some (.own a))->h.get? b=some u->h'.get? b=some u)
  (ho:∀b,H b=some (.own a)->H' b=some (.own a)) (Y:∀b xs,H b=some (.tup xs)->H' b=some (.tup xs)):bJ P w H' h' a o:=by
 induction o with
 |lst xs=>obtain⟨z,its,n,r,e⟩:=x;exact⟨z,its,n,r,k _ _ (.inl rfl) e⟩
 |tup xs=>obtain⟨z,its,r,J,e,c⟩:=x;exact⟨z,its,r,J,k _ _ (.inl rfl) e,c⟩
 |dK kvs=>obtain⟨z,y,vs,r,J,es,ep,e,c⟩:=x;exact⟨z,y,vs,r,J,es,ep,k _ _ (.inl rfl) e,c⟩
 |dT kvs =>
  obtain⟨z,y,xs,r,J,es,ep,e,c⟩:=x;exact⟨z,y,xs,Paired.mapP r λp q z=>⟨z.1,Y _ _ z.2.1,z.2.2⟩,J,es,ep,k _ _ (.inl rfl) e,c⟩
 |set S n=>obtain⟨J,es,ep,t,e,c⟩:=x;exact⟨J,es,ep,t,k _ _ (.inl rfl) e,c⟩
 |ins C dx fs =>
  obtain⟨d,z,ne,e,mA,⟨U,es,ep,Z,c⟩,r⟩:=x;exact⟨ho _ d,z,ne,k _ _ (.inl rfl) e,mA,⟨U,es,ep,k _ _ (.inr d) Z,c⟩,r⟩
 |own y=>obtain⟨J,e⟩:=x;exact⟨J,k _ _ (.inl rfl) e⟩
 |xd fs=>obtain⟨mA,⟨U,es,ep,e,c⟩,r⟩:=x;exact⟨mA,⟨U,es,ep,k _ _ (.inl rfl) e,c⟩,r⟩
 |rng lo hi=>obtain⟨t,u,v,e⟩:=x;exact⟨t,u,v,k _ _ (.inl rfl) e⟩
 |frz J u ih=>obtain⟨e,q⟩:=x;exact⟨k _ _ (.inl rfl) e,ih q⟩
 |tbl ps =>
  have e:=x;exact k a _ (.inl rfl) e
 |met f y =>
  have e:=x;exact k a _ (.inl rfl) e
 |ext φ=>obtain⟨p,⟨o,e⟩,st⟩:=x;exact⟨st _ _ p λo q=>k _ _ (.inl rfl) q,⟨o,k _ _ (.inl rfl) e⟩,st⟩
theorem HOk.lt(x:HOk P w H h)(e:H a=some o):a<h.objs.size:=(x a o e).lt
def HOk.fresh(x:HOk P w H h)(e:h.objs.size<=a):H a=none:=by
 cases q:H a<;>first|rfl|exact absurd (JX (x.lt q) e) (Kq _)
theorem HOk.kept(x:HOk P w H h)(k:∀b u,h.get? b=some u->h'.get? b=some u):HOk P w H h':=λa o e =>
 (x a o e).stay (λb u _ q=>k b u q) (λ_ q=>q) λ_ _ q=>q
theorem HOk.laid(x:HOk P w H h)(k:∀b u,h.get? b=some u->h'.get? b=some u)(U:h.objs.size<=a)(new:bJ P w (upd H a o) h' a o):HOk P w (upd H a o) h':=λb u e=>by
 have z:=x.fresh U;by_cases J:b=a
 .subst J;rw[aB]at e;cases e;exact new
 .rw[bc J]at e;exact(x b u e).stay (λc v _ q=>k c v q) (λc q=>by rw[bc (cJ q z)];exact q) λc xs q=>by rw[bc (cJ q z)];exact q
end
def Rd(H:Hp)(a:Addr)(u:HO):Prop:=H a=some u\/∃o,H a=some (.frz o u)
theorem Rd.ok(r:Rd H a u)(x:HOk P w H h):bJ P w H h a u:=by
 rcases r with r|⟨o,r⟩
 .exact x a u r
 .obtain⟨_,q⟩:=x a _ r;exact q
def Mut:Option HO->Prop
 |some (.lst _)=>True
 |some (.dK _)=>True
 |some (.dT _)=>True
 |some (.set _ _)=>True
 |some (.ins _ _ _)=>True
 |some (.ext _)=>True
 | _=>False
section
variable{P:Program}{w:World}{H:Hp}{h h':Heap}{x e:Addr}{o':HO}
def HOk.write(ok:HOk P w H h)(Z:Mut (H x))(he:e=x\/H e=some (.own x))(k:∀b u,b≠e->h.get? b=some u->h'.get? b=some u)(ao:∃u,h'.get? e=some u)
  (new:bJ P w (upd H x o') h' x o'):HOk P w (upd H x o') h':=λb u q=>by
 have U:∀c y,H c=some (.own y)->c≠x:=λc y r z=>by subst z;rw[r]at Z;exact Z
 have Y:∀c xs,H c=some (.tup xs)->c≠x:=λc xs r z=>by subst z;rw[r]at Z;exact Z
 by_cases hb:b=x
 .subst hb;rw[aB]at q;cases q;exact new
 .rw[bc hb]at q;by_cases J:b=e
  .have q':H b=some (.own x):=by
    rcases he with z|z
    .exact absurd (J.trans z) hb
    .rw[J];exact z
   rw[q]at q';cases q'
   obtain⟨v,hv⟩:=ao;exact⟨v,by rw[J];exact hv⟩
  .refine(ok b u q).stay (λc v hc r=>k c v ?_ r) (λc r=>by rw[bc (U c b r)];exact r) λc xs r=>by rw[bc (Y c xs r)];exact r
   rcases hc with rfl|hc
   .exact J
   .rintro rfl
    simp_all
end
structure Un(fs ex:List Addr)(H H':Hp)(h h':Heap):Prop where
 keep:∀b o,h.get? b=some o->H b=none->b∉fs->b∉ex->h'.get? b=some o
 slot:∀b o,h.get? b=some o->H b=none->b∈fs->b∉ex->∃sl,h'.get? b=some { o with slots:=sl }
 free:∀b o,h.get? b=some o->H b=none->b∉ex->H' b=none
 there:∀b o,h.get? b=some o->b∉ex->∃o',h'.get? b=some o'
 tups:∀b xs,H b=some (.tup xs)->H' b=some (.tup xs)
 frzs:∀b o u,H b=some (.frz o u)->H' b=some (.frz o u)
 tbls:∀b ps,H b=some (.tbl ps)->∃more,H' b=some (.tbl (ps++more))
section
variable{fs fs' ex ex':List Addr}{H H1 H2:Hp}{h h1 h2 h':Heap}{a x e:Addr}{o:HO}
theorem Un.any(u:Un fs ex H H1 h h1)(q:h.get? b=some z)(n:H b=none)(hx:b∉ex):∃U,h1.get? b=some { z with slots:=U }:=by
 by_cases J:b∈fs
 .exact u.slot b z q n J hx
 .exact⟨z.slots,u.keep b z q n J hx⟩
def Un.kept(k:∀b u,h.get? b=some u->h'.get? b=some u):Un fs ex H H h h':=
 ⟨λb z q _ _ _=>k b z q,λb z q _ _ _=>⟨z.slots,k b z q⟩,λ_ _ _ n _=>n,λb z q _=>⟨z,k b z q⟩,λ_ _ q=>q,λ_ _ _ q=>q,λ_ ps q=>⟨#[],by rw[q];simp⟩⟩
def Un.refl:Un fs ex H H h h:=Un.kept λ_ _ q=>q
def Un.laid(k:∀b u,h.get? b=some u->h'.get? b=some u)(J:h.objs.size<=a)(z:H a=none):Un fs ex H (upd H a o) h h' where
 keep:=λb u q _ _ _=>k b u q
 slot:=λb u q _ _ _=>⟨u.slots,k b u q⟩
 free:=λb u q n _=>by rw[bc (JV (JX (r4 q) J))];exact n
 there:=λb u q _=>⟨u,k b u q⟩
 tups:=λb xs q=>by rw[bc (cJ q z)];exact q
 frzs:=λb u xs q=>by rw[bc (cJ q z)];exact q
 tbls:=λb ps q=>⟨#[],by rw[bc (cJ q z),q];simp⟩
def Un.write(U:Mut (H x))(he:e=x\/H e=some (.own x))(k:∀b u,b≠e->h.get? b=some u->h'.get? b=some u)(Y:∃u,h'.get? e=some u):Un fs ex H (upd H x o) h h':=by
 have hx:∀b,H b=none->b≠x:=λb n z=>by subst z;rw[n]at U;exact U
 have hb:∀b,H b=none->b≠e:=λb n z=>by
  simp_all
 have Z:∀b u,H b=some u->¬ Mut (some u)->b≠x:=λb u q nm z=>by subst z;rw[q]at U;exact nm U
 refine⟨λb u q n _ _=>k b u (hb b n) q,λb u q n _ _=>⟨u.slots,k b u (hb b n) q⟩,λb u q n _=>by rw[bc (hx b n)];exact n,λb u q _=>?_,
  λb xs q=>by rw[bc (Z b _ q λz=>z)];exact q,λb u xs q=>by rw[bc (Z b _ q λz=>z)];exact q,λb ps q=>⟨#[],by rw[bc (Z b _ q λz=>z),q];simp⟩⟩
 by_cases J:b=e
 .subst J;exact Y
 .exact⟨u,k b u J q⟩
end
noncomputable def trk(h:Heap)(H:Hp):List Addr:=(range h.objs.size).filter λa=>(H a).isSome
noncomputable def p6(h:Heap)(H:Hp):Heap:=PySem.W.hideAll h (trk h H)
def wB(h)(H):(p6 h H).objs.size=h.objs.size:=PySem.W.hideAll_size _ _
def xN{H:Hp}{b:Addr}{o:Obj}(e:h.get? b=some o)(n:H b=none):(p6 h H).get? b=some o:=
 PySem.W.hideAll_get _ e λhm=>by
  have q:=(KJ.mp hm).2;rw[n]at q;simp at q
def Bc(e:(p6 h H).get? b=some o):h.get? b=some o/\H b=none:=by
 have J:=PySem.W.of_hideAll _ e;refine⟨J,?_⟩;cases q:H b with
 |none=>rfl
 |some x =>
  have U:b∈trk h H:=KJ.mpr ⟨Mb.mpr (r4 J),by simp[q]⟩;have z:(p6 h H).get? b=none:=PySem.W.hideAll_none _ U;rw[z]at e;cases e
noncomputable def Bd(g h:Heap)(L:Addr):List (Addr×Obj):=(range h.objs.size).filterMap λa=>if a=L\/(g.get? a).isSome=true then none else(h.get? a).map λo=>(a,o)
noncomputable def bT(g h:Heap)(L d:Addr):List (Addr×Obj):=(Bd g h L).filter λp=>decide (p.1≠d)
structure Mod(K:Np)(mg:Str->Option Value)(base:Heap):Prop where
 kin:K.In base
 glob:base.Ns mainGlobals mg
 blt:∃mb,base.Ns builtinsNs mb/\∀x:Str,x ≠ "__name__"->mb x=bootBuiltins x
 nolimit:base.NoLimit
structure Cx where
 prog:Program
 w:World
 K:Np
 mg:Str->Option Value
 base:Heap
 A:Around
 N:List Str
 s₀:Shared
 H₀:Hp
 env:Env
 outer:List Env
 stack:List Env
 ex:List Addr
 fn:Str->Bool
 calm:Bool
 pn:List (Addr×Obj)
 xe:Value->Shared->Prop
noncomputable def frs(l:List Env):List Addr:=l.filterMap (·.frame)
noncomputable abbrev Cx.fs(X:Cx):List Addr:=frs X.outer
def Vis(sc:Scope)(x:Str):Prop:=sc.names.lookup x=some .local\/sc.names.lookup x=some .cell\/sc.names.lookup x=some .free
def Loc(sc:Scope)(x:Str):Prop:=sc.names.lookup x=some .local\/sc.names.lookup x=some .cell
def Ja(env:Env)(h:Heap)(m:Str->Option Value)(x:Str)(u:Value):Prop:=
 (env.kindOf x=some .local/\m x=some u)\/((env.kindOf x=some .cell\/env.kindOf x=some .free)/\∃c,env.cells.lookup x=some c/\h.IsCell c (some u))
structure Cx.Ok(X:Cx):Prop where
 mod:Mod X.K X.mg X.base
 kind:X.env.scope.kind=.function
 glob:X.env.globals=mainGlobals
 blt:X.env.builtins=builtinsNs
 above:X.s₀.heap.objs.size<=X.env.locals
 inj:∀x y c,X.env.cells.lookup x=some c->X.env.cells.lookup y=some c->x=y
 has:∀x,(X.env.kindOf x=some .cell\/X.env.kindOf x=some .free)->∃c,X.env.cells.lookup x=some c
 cab:∀x c,X.fn x=true->X.env.cells.lookup x=some c->X.s₀.heap.objs.size<=c
 hd:X.calm=true->X.A.handled=none
 frames:X.A.frames=some X.stack
 stk:X.stack=X.outer\/(X.stack=X.env::X.outer/\X.env.frame=some X.env.locals)
 exf:∀b∈X.ex,b≠X.env.locals/\∀x c,X.env.cells.lookup x=some c->c≠b
 bs:∀b o,X.base.get? b=some o->X.s₀.heap.get? b=some o/\X.H₀ b=none
 bsz:X.base.objs.size<=X.s₀.heap.objs.size
 noex:∀b o,X.base.get? b=some o->b∉X.ex
 exfs:∀b∈X.ex,b∉X.fs
 funs:X.s₀.heap.FunFrames X.base X.outer
 frf:∀b∈X.fs,X.H₀ b=none
structure Inv(X:Cx)(pins:List (Addr×Obj))(σ:List (Option V))(H:Hp)(s:Shared):Prop where
 ok:X.Ok
 os:s.os=X.s₀.os
 bare:AllBare s.gens
 base:Un X.fs X.ex X.H₀ H X.s₀.heap s.heap
 loc:∃m,s.heap.Ns X.env.locals m/\∀(i:Nat) (x:Str) (v:V),X.N[i]?=some x->σ[i]?=some (some v)->Vis X.env.scope x->∃u,aI v u/\Ja X.env s.heap m x u
 cell:∀x c,X.env.cells.lookup x=some c->∃v,s.heap.IsCell c v
 free:H X.env.locals=none
 freeC:∀x c,X.env.cells.lookup x=some c->H c=none
 pin:∀p∈X.pn++pins,s.heap.get? p.1=some p.2/\H p.1=none/\p.1≠X.env.locals/\p.1∉X.fs/\∀v,p.2.data≠.cell v
 hok:HOk X.prog X.w H s.heap
 len:σ.length=X.N.length
section
variable{X:Cx}{pins:List (Addr×Obj)}{σ:List (Option V)}{H H':Hp}{s:Shared}{h':Heap}
theorem Cx.Ok.nofr(ok:X.Ok)(e:X.base.get? b=some o):b∉X.fs:=λz=>by
 have:=(ok.funs.mem z).1;rw[e]at this;cases this
theorem Inv.bs(I:Inv X pins σ H s):∀b o,X.base.get? b=some o->s.heap.get? b=some o/\H b=none:=λb o e =>
 ⟨I.base.keep b o (I.ok.bs b o e).1 (I.ok.bs b o e).2 (I.ok.nofr e) (I.ok.noex b o e),I.base.free b o (I.ok.bs b o e).1 (I.ok.bs b o e).2 (I.ok.noex b o e)⟩
theorem Inv.bk(I:Inv X pins σ H s):∀b o,X.base.get? b=some o->s.heap.get? b=some o:=λb o e=>(I.bs b o e).1
theorem Inv.mod(I:Inv X pins σ H s):Mod X.K X.mg X.base:=I.ok.mod
theorem Inv.kIn(I:Inv X pins σ H s):X.K.In s.heap:=I.ok.mod.kin.keeps I.bk
theorem Inv.lt(I:Inv X pins σ H s):X.env.locals<s.heap.objs.size:=let ⟨_,z,_⟩:=I.loc;z.lt
theorem Inv.sz(I:Inv X pins σ H s):X.s₀.heap.objs.size<=s.heap.objs.size:=wh I.ok.above (K9 I.lt)
theorem Inv.nofs(I:Inv X pins σ H s)(h:s.heap.objs.size<=a):a∉X.fs:=λz=>by
 obtain⟨_,o,ho,_⟩:=I.ok.funs.mem z;exact absurd (JX (r4 ho) (wh I.sz h)) (Kq _)
theorem Inv.cne(I:Inv X pins σ H s):∀x c,X.env.cells.lookup x=some c->c≠X.env.locals:=λx c e z=>by
 obtain⟨v,o,ho,hd⟩:=I.cell x c e;obtain⟨m,⟨o',es,ep,J,U,_⟩,_⟩:=I.loc
 simp_all
theorem Inv.funs(I:Inv X pins σ H s):s.heap.FunFrames X.base X.outer:=by
 have all:∀l,(∀b∈frs l,b∈X.fs)->X.s₀.heap.FunFrames X.base l->s.heap.FunFrames X.base l:=by
  intro l
  induction l with
  |nil=>intro _ _;trivial
  |cons env r ih =>
   intro hs Y;obtain⟨Z,⟨L,o,J,hn,ho,hd⟩,hr⟩:=Y;have hL:=hs L (by unfold frs;rw[filterMap_cons,J];exact KZ);obtain⟨sl,e⟩:=I.base.slot L o ho (I.ok.frf L hL) hL λz=>I.ok.exfs L z hL
   exact⟨Z,⟨L,_,J,hn,e,hd⟩,ih (λb U=>hs b (by unfold frs;rw[filterMap_cons,J];exact KD _ U)) hr⟩
 exact all X.outer (λ_ U=>U) I.ok.funs
theorem Inv.stack(I:Inv X pins σ H s):s.heap.FunFrames X.base X.stack:=by
 rcases I.ok.stk with e|⟨e,z⟩
 .rw[e];exact I.funs
 .rw[e];obtain⟨m,J,_⟩:=I.loc;refine .cons (by rw[I.ok.kind];decide) z J ?_ I.funs;exact Heap.get?_none_of_le (wh I.ok.bsz I.ok.above)
def Inv.stkSub(I:Inv X pins σ H s):∀b∈frs X.stack,b∈X.env.locals::X.fs:=λb z=>by
 rcases I.ok.stk with e|⟨e,J⟩
 .rw[e]at z;exact KD _ z
 .rw[e]at z;unfold frs at z;rw[filterMap_cons,J]at z;exact z
def Inv.stkFree(I:Inv X pins σ H s):∀b∈frs X.stack,H b=none:=λb J=>by
 rcases JY.mp (I.stkSub b J)with e|J
 .rw[e];exact I.free
 .obtain⟨_,o,ho,_⟩:=I.ok.funs.mem J;exact I.base.free b o ho (I.ok.frf b J) λz=>I.ok.exfs b z J
theorem Inv.step{ch:List Addr}(I:Inv X pins σ H s)
  (J:∀b∈ch,(b∈X.ex\/X.s₀.heap.objs.size<=b)/\b≠X.env.locals/\(∀x c,X.env.cells.lookup x=some c->c≠b)/\∀p∈X.pn++pins,p.1≠b)
  (keep:∀b o,b≠X.env.locals->b∉X.fs->b∉ch->s.heap.get? b=some o->H b=none->h'.get? b=some o)
  (slot:∀b o,b≠X.env.locals->b∈X.fs->b∉ch->s.heap.get? b=some o->H b=none->∃sl,h'.get? b=some { o with slots:=sl }) (free:∀b o,b∉ch->s.heap.get? b=some o->H b=none->H' b=none)
  (there:∀b o,b∉ch->s.heap.get? b=some o->∃o',h'.get? b=some o')
  (tups:∀b xs,H b=some (.tup xs)->H' b=some (.tup xs)) (frzs:∀b o u,H b=some (.frz o u)->H' b=some (.frz o u)) (tbls:∀b ps,H b=some (.tbl ps)->∃a0,H' b=some (.tbl (ps++a0)))
  (ns:∀m,s.heap.Ns X.env.locals m->h'.Ns X.env.locals m) (hok:HOk X.prog X.w H' h') (hg:AllBare g') :
  Inv X pins σ H' { s with heap:=h',gens:=g',drawn:=d',toks:=t' }:=by
 have a1:∀b o,X.s₀.heap.get? b=some o->b≠X.env.locals:=λb o e=>JV (JX (r4 e) I.ok.above)
 have Z:∀b o,X.s₀.heap.get? b=some o->b∉X.ex->b∉ch:=λb o e hx hb=>by
  rcases(J b hb).1 with z|z
  .exact hx z
  .exact absurd (JX (r4 e) z) (Kq _)
 have U:∀x c,X.env.cells.lookup x=some c->∀v,s.heap.IsCell c v->h'.IsCell c v:=λx c e v ⟨o,ho,hd⟩=>by
  have Y:c∉ch:=λz=>(J c z).2.2.1 x c e rfl
  by_cases hc:c∈X.fs
  .obtain⟨sl,q⟩:=slot c o (I.cne x c e) hc Y ho (I.freeC x c e);exact⟨_,q,hd⟩
  .exact⟨o,keep c o (I.cne x c e) hc Y ho (I.freeC x c e),hd⟩
 refine⟨I.ok,I.os,hg,⟨λb o e n hb hx=>?_,λb o e n hb hx=>?_,λb o e n hx=>?_,λb o e hx=>?_,λb xs e=>tups b xs (I.base.tups b xs e),λb o xs e=>frzs b o xs (I.base.frzs b o xs e),λb ps e=>?_⟩,?_,λx c e=>?_,?_,λx c e=>?_,λp hp=>?_,hok,I.len⟩
 .exact keep b o (a1 b o e) hb (Z b o e hx) (I.base.keep b o e n hb hx) (I.base.free b o e n hx)
 .obtain⟨sl,e1⟩:=I.base.slot b o e n hb hx;obtain⟨a4,e2⟩:=slot b _ (a1 b o e) hb (Z b o e hx) e1 (I.base.free b o e n hx);exact⟨a4,e2⟩
 .obtain⟨o',e1⟩:=I.base.there b o e hx;exact free b o' (Z b o e hx) e1 (I.base.free b o e n hx)
 .obtain⟨o',e1⟩:=I.base.there b o e hx;exact there b o' (Z b o e hx) e1
 .obtain⟨m1,e1⟩:=I.base.tbls b ps e;obtain⟨m2,e2⟩:=tbls b _ e1;exact⟨m1++m2,by rw[e2,Array.append_assoc]⟩
 .obtain⟨m,hn,hl⟩:=I.loc;refine⟨m,ns m hn,λi x v e1 e2 e3=>?_⟩;obtain⟨u,r,l⟩:=hl i x v e1 e2 e3;refine⟨u,r,?_⟩;rcases l with l|⟨k,c,e,z⟩
  .exact .inl l
  .exact .inr ⟨k,c,e,U x c e _ z⟩
 .obtain⟨v,z⟩:=I.cell x c e;exact⟨v,U x c e v z⟩
 .obtain⟨m,⟨o,_,_,ho,_⟩,_⟩:=I.loc;exact free _ o (λz=>(J _ z).2.1 rfl) ho I.free
 .obtain⟨v,o,ho,hd⟩:=I.cell x c e;exact free c o (λz=>(J c z).2.2.1 x c e rfl) ho (I.freeC x c e)
 .obtain⟨e,n,ne,nf,d⟩:=I.pin p hp;have Y:p.1∉ch:=λz=>(J p.1 z).2.2.2 p hp rfl
  exact⟨keep p.1 p.2 ne nf Y e n,free p.1 p.2 Y e n,ne,nf,d⟩
theorem Inv.un(I:Inv X pins σ H s)(u:Un X.fs [] H H' s.heap h')(hok:HOk X.prog X.w H' h'):Inv X pins σ H' { s with heap:=h',toks:=t' }:=by
 obtain⟨m,⟨o,es,ep,ho,r⟩,_⟩:=id I.loc;obtain⟨sl,hL⟩:=u.any ho I.free (by simp);exact I.step (ch:=[]) (λ_ z=>nomatch z) (λb o _ U _ e n=>u.keep b o e n U (by simp)) (λb o _ U _ e n=>u.slot b o e n U (by simp)) (λb o _ e n=>u.free b o e n (by simp)) (λb o _ e=>u.there b o e (by simp)) u.tups u.frzs u.tbls (λm' hm=>by
  obtain⟨o',Y,Z,J,r'⟩:=hm;rw[ho]at J;cases J
  exact⟨_,Y,Z,hL,r'⟩) hok I.bare
theorem Inv.call(I:Inv X pins σ H s)(u:Un (frs X.stack) ch H H' s.heap h')(hok:HOk X.prog X.w H' h')(hg:AllBare g')
  (J:∀b∈ch,(b∈X.ex\/X.s₀.heap.objs.size<=b)/\b≠X.env.locals/\(∀x c,X.env.cells.lookup x=some c->c≠b)/\∀p∈X.pn++pins,p.1≠b) :
  Inv X pins σ H' { s with heap:=h',gens:=g',drawn:=d',toks:=t' }:=by
 obtain⟨m,⟨o,es,ep,ho,r⟩,_⟩:=id I.loc;obtain⟨sl,hL⟩:=u.any ho I.free λz=>(J _ z).2.1 rfl
 exact I.step J (λb o hL hb hc e n=>u.keep b o e n (λz=>(JY.mp (I.stkSub b z)).elim hL hb) hc) (λb o _ _ hc e n=>u.any e n hc) (λb o hc e n=>u.free b o e n hc) (λb o hc e=>u.there b o e hc) u.tups u.frzs u.tbls (λm' hm=>by
  obtain⟨o',Y,Z,U,r'⟩:=hm;rw[ho]at U;cases U
  exact⟨_,Y,Z,hL,r'⟩) hok hg
def Inv.turned(I:Inv X pins σ H s)(k:∀b o,b≠it->s.heap.get? b=some o->h'.get? b=some o)(U:H it=none)(hL:it≠X.env.locals)
  (h1:it∈X.ex\/X.s₀.heap.objs.size<=it) (h2:∀x c,X.env.cells.lookup x=some c->c≠it) (Y:∀p∈X.pn++pins,p.1≠it):Inv X pins σ H { s with heap:=h',toks:=t' }:=by
 have J:∀b u,H b=some u->b≠it:=λb u e z=>by rw[z,U]at e;cases e
 refine I.step (ch:=[it]) (λb Z=>?_) (λb o _ _ hc e _=>k b o (λz=>hc (by simp[z])) e) (λb o _ _ hc e _=>⟨o.slots,k b o (λz=>hc (by simp[z])) e⟩) (λ_ _ _ _ n=>n)
  (λb o hc e=>⟨o,k b o (λz=>hc (by simp[z])) e⟩) (λ_ _ e=>e) (λ_ _ _ e=>e) (λb ps e=>⟨#[],by rw[e];simp⟩) (λm hm=>?_) (λb u e=>?_) I.bare
 .have e:b=it:=by simpa using Z
  subst e;exact⟨h1,hL,h2,Y⟩
 .obtain⟨o,es,ep,ho,r⟩:=hm;exact⟨o,es,ep,k _ o (LS hL) ho,r⟩
 .refine(I.hok b u e).stay (λc v hc q=>k c v ?_ q) (λ_ q=>q) λ_ _ q=>q
  rcases hc with z|z
  .rw[z];exact J b u e
  .exact J c _ z
theorem Inv.tok(I:Inv X pins σ H s)(t):Inv X pins σ H { s with toks:=t }:=I.un (h':=s.heap) (t':=t) Un.refl I.hok
theorem Inv.kept(I:Inv X pins σ H s)(k:∀b u,s.heap.get? b=some u->h'.get? b=some u):Inv X pins σ H { s with heap:=h',toks:=t' }:=I.un (Un.kept k) (I.hok.kept k)
theorem Inv.laid(I:Inv X pins σ H s)(k:∀b u,s.heap.get? b=some u->h'.get? b=some u)(z:s.heap.objs.size<=a)(new:bJ X.prog X.w (upd H a o) h' a o) :
  Inv X pins σ (upd H a o) { s with heap:=h',toks:=t' }:=I.un (Un.laid k z (I.hok.fresh z)) (I.hok.laid k z new)
theorem Inv.write(I:Inv X pins σ H s)(J:Mut (H x))(U:e=x\/H e=some (.own x))(k:∀b u,b≠e->s.heap.get? b=some u->h'.get? b=some u)(z:∃u,h'.get? e=some u)
  (new:bJ X.prog X.w (upd H x o) h' x o):Inv X pins σ (upd H x o) { s with heap:=h',toks:=t' }:=I.un (Un.write J U k z) (I.hok.write J U k z new)
def Inv.pins_of(I:Inv X pins σ H s)(h:∀p∈J,s.heap.get? p.1=some p.2/\H p.1=none/\p.1≠X.env.locals/\p.1∉X.fs/\∀v,p.2.data≠.cell v):Inv X J σ H s:=
 ⟨I.ok,I.os,I.bare,I.base,I.loc,I.cell,I.free,I.freeC,λp U=>(Lu.mp U).elim (λz=>I.pin p (Mv _ z)) (h p),I.hok,I.len⟩
def rl{N:List Str}(z:N.Nodup){i j:Nat}(a:N[i]?=some x)(b:N[j]?=some x):i=j:=by
 obtain⟨h1,J⟩:=JZ.mp a;obtain⟨h2,U⟩:=JZ.mp b;exact(getElem_inj z).mp (J.trans U.symm)
def oZ{i:Nat}{x:Str}{v:V}{u:Value}{Q:Unit->Shared->Prop}(I:Inv X pins σ H s)(hN:X.N.Nodup)(hi:X.N[i]?=some x)(hx:Loc X.env.scope x)(r:aI v u)
  (h:∀s',Inv X pins (σ.set i (some v)) H s'->(∃a,Heap.SameBut a s.heap s'.heap/\(a=X.env.locals\/X.env.cells.lookup x=some a))->Q () s') (hf:X.fn x=true\/X.env.scope.names.lookup x=some .local:=by first|exact .inl rfl|exact .inr rfl|assumption):wpAny M A (storeName X.env x u) Q E s:=by
 obtain⟨m,hn,hl⟩:=id I.loc;have a3:(X.env.scope.kind==.class||(X.env.scope.kind==.module&&X.env.locals != X.env.globals))=false:=by rw[I.ok.kind];rfl
 have ao:i<σ.length:=by rw[I.len];exact(JZ.mp hi).1
 have cne:=I.cne;have J:∀{a}{h'},(∃o,s.heap.get? a=some o/\H a=none)->Heap.SameBut a s.heap h'->HOk X.prog X.w H h':=λ{a h'} ha hs b ob e=>by
  obtain⟨_,_,Y⟩:=ha;refine(I.hok b ob e).stay (λc w' hc q=>(hs.2 c ?_).trans q) (λ_ q=>q) λ_ _ q=>q
  rintro rfl;rcases hc with rfl|hc
  .rw[Y]at e;cases e
  .rw[Y]at hc;cases hc
 rcases hx with hk|hk
 .refine wpAny_storeName_local hk hn (λh' b0 hs=>?_) a3;obtain⟨oL,_,_,b1,_⟩:=id hn;refine h _ ⟨I.ok,I.os,I.bare,⟨λb o e n hb hx=>?_,λb o e n hb hx=>?_,I.base.free,λb o e hx=>?_,I.base.tups,I.base.frzs,I.base.tbls⟩,⟨_,b0,λj y v' U Z e3=>?_⟩,λy c e=>?_,I.free,I.freeC,λp hp=>?_,J ⟨oL,b1,I.free⟩ hs,by simpa using I.len⟩ ⟨_,hs,.inl rfl⟩
  .exact(hs.2 b (JV (JX (r4 e) I.ok.above))).trans (I.base.keep b o e n hb hx)
  .obtain⟨sl,U⟩:=I.base.slot b o e n hb hx;exact⟨sl,(hs.2 b (JV (JX (r4 e) I.ok.above))).trans U⟩
  .obtain⟨o',U⟩:=I.base.there b o e hx;exact⟨o',(hs.2 b (JV (JX (r4 e) I.ok.above))).trans U⟩
  .by_cases hj:j=i
   .subst hj;rw[hi]at U;cases U
    rw[Lc ao]at Z;cases Z;exact⟨u,r,.inl ⟨hk,by simp⟩⟩
   .rw[Kh (LS hj)]at Z;obtain⟨u',r',q⟩:=hl j y v' U Z e3;refine⟨u',r',?_⟩;rcases q with⟨k,e⟩|⟨k,c,e,z⟩
    .refine .inl ⟨k,?_⟩;have:y≠x:=λe=>hj (rl hN U (e▸hi))
     simp[this,e]
    .exact .inr ⟨k,c,e,z.sameBut hs (cne y c e)⟩
  .obtain⟨w',z⟩:=I.cell y c e;exact⟨w',z.sameBut hs (cne y c e)⟩
  .obtain⟨e,n,ne,nf,d⟩:=I.pin p hp;exact⟨(hs.2 p.1 ne).trans e,n,ne,nf,d⟩
 .have a2:X.fn x=true:=by
   rcases hf with z|z
   .exact z
   .rw[z]at hk;cases hk
  obtain⟨c,hc⟩:=I.ok.has x (.inl hk);obtain⟨w',z⟩:=I.cell x c hc;refine wpAny_storeName_cell I.ok.kind hk hc z (λh' a4 hs=>?_);obtain⟨oc,a5,a6⟩:=id z;refine h { s with heap:=h' } ⟨I.ok,I.os,I.bare,⟨λb o e n hb hx=>?_,λb o e n hb hx=>?_,I.base.free,λb o e hx=>?_,I.base.tups,I.base.frzs,I.base.tbls⟩,⟨m,hn.sameBut hs (LS (cne x c hc)),λj y v' U Z e3=>?_⟩,λy c' e=>?_,I.free,I.freeC,λp hp=>?_,J ⟨oc,a5,I.freeC x c hc⟩ hs,by simpa using I.len⟩ ⟨c,hs,.inr hc⟩
  .exact(hs.2 b (JV (JX (r4 e) (I.ok.cab x c a2 hc)))).trans (I.base.keep b o e n hb hx)
  .obtain⟨sl,U⟩:=I.base.slot b o e n hb hx;exact⟨sl,(hs.2 b (JV (JX (r4 e) (I.ok.cab x c a2 hc)))).trans U⟩
  .obtain⟨o',U⟩:=I.base.there b o e hx;exact⟨o',(hs.2 b (JV (JX (r4 e) (I.ok.cab x c a2 hc)))).trans U⟩
  .by_cases hj:j=i
   .subst hj;rw[hi]at U;cases U
    rw[Lc ao]at Z;cases Z;exact⟨u,r,.inr ⟨.inl hk,c,hc,a4⟩⟩
   .rw[Kh (LS hj)]at Z;obtain⟨u',r',q⟩:=hl j y v' U Z e3;refine⟨u',r',?_⟩;rcases q with q|⟨k,c',e,z'⟩
    .exact .inl q
    .refine .inr ⟨k,c',e,z'.sameBut hs ?_⟩;rintro rfl;exact hj (rl hN U (I.ok.inj _ _ _ e hc▸hi))
  .by_cases a7:c'=c
   .subst a7;exact⟨_,a4⟩
   .obtain⟨w2,z2⟩:=I.cell y c' e;exact⟨w2,z2.sameBut hs a7⟩
  .obtain⟨e,n,ne,nf,d⟩:=I.pin p hp;refine⟨(hs.2 p.1 ?_).trans e,n,ne,nf,d⟩;intro q;rw[q,a5]at e;have q':=J3 e;exact d w' (by rw[<- q'];exact a6)
def rm{i:Nat}{x:Str}{v:V}{u:Value}{Q:Unit->Shared->Prop}(I:Inv X pins σ H s)(z:X.N.Nodup)(hi:X.N[i]?=some x)(hx:Loc X.env.scope x)(r:aI v u)
  (h:∀s',Inv X pins (σ.set i (some v)) H s'->Q () s') (J:X.fn x=true\/X.env.scope.names.lookup x=some .local:=by first|exact .inl rfl|exact .inr rfl|assumption):wpAny M A (storeName X.env x u) Q E s:=
 oZ I z hi hx r (λs' U _=>h s' U) J
def Inv.call'(I:Inv X pins σ H s)(ho:s'.os=s.os)(u:Un (frs X.stack) ch H H' s.heap s'.heap)(hok:HOk X.prog X.w H' s'.heap)(J:AllBare s'.gens)
  (z:∀b∈ch,(b∈X.ex\/X.s₀.heap.objs.size<=b)/\b≠X.env.locals/\(∀x c,X.env.cells.lookup x=some c->c≠b)/\∀p∈X.pn++pins,p.1≠b):Inv X pins σ H' s':=by
 obtain⟨h',g',d',t',o'⟩:=s';have e:=ho;subst e;exact I.call u hok J z
end
noncomputable abbrev XK:=Value->Option Addr->Hp->Prop
noncomputable abbrev St:=List (Option V)
noncomputable abbrev VK:=V->Hp->Prop
noncomputable abbrev TE:=St->Hp->VK->Prop
noncomputable abbrev TT:=St->Hp->(Bool->Hp->Prop)->Prop
noncomputable abbrev TA:=St->Hp->(List V->Hp->Prop)->Prop
structure DH where
 nx:St->Hp->Prop
 rt:VK
 bk:St->Hp->Prop:=λ_ _=>False
 ct:St->Hp->Prop:=λ_ _=>False
noncomputable abbrev TS:=DH->St->Hp->Prop
def EP(X:Cx)(pins:List (Addr×Obj))(σ:St)(Q:VK)(u:Value)(s':Shared):Prop:=∃v H',Inv X pins σ H' s'/\aI v u/\Q v H'
def TP(X:Cx)(pins:List (Addr×Obj))(σ:St)(Q:Bool->Hp->Prop)(b:Bool)(s':Shared):Prop:=∃H',Inv X pins σ H' s'/\Q b H'
def AP(X:Cx)(pins:List (Addr×Obj))(σ:St)(Q:List V->Hp->Prop)(us:List Value)(s':Shared):Prop:=∃vs H',Inv X pins σ H' s'/\aL vs us/\Q vs H'
def SP(X:Cx)(pins:List (Addr×Obj))(D:DH)(f:Flow)(s':Shared):Prop:=
 match f with
 | .next=>∃F H',Inv X pins F H' s'/\D.nx F H'
 | .brk=>∃F H',Inv X pins F H' s'/\D.bk F H'
 | .cont=>∃F H',Inv X pins F H' s'/\D.ct F H'
 | .ret u=>∃v F H',Inv X pins F H' s'/\aI v u/\D.rt v H'
def PE(X:Cx)(e:Expr)(t:TE):Prop:=
 ∀pins s (σ:St) H Q,Inv X pins σ H s->t σ H Q->wpAny (model X.prog X.w) X.A (eval e X.env) (EP X pins σ Q) X.xe s
def PT(X:Cx)(e:Expr)(t:TT):Prop:=
 ∀pins s (σ:St) H Q,Inv X pins σ H s->t σ H Q->wpAny (model X.prog X.w) X.A (isTrue e X.env (eval e X.env)) (TP X pins σ Q) X.xe s
def PW(X:Cx)(e:Expr)(t:TT):Prop:=
 ∀whole pins s (σ:St) H Q,Inv X pins σ H s->t σ H Q->wpAny (model X.prog X.w) X.A (isTrue e X.env whole) (TP X pins σ Q) X.xe s
theorem PW.pt(h:PW X e t):PT X e t:=h _
def PA(X:Cx)(es:List Expr)(t:TA):Prop:=
 ∀pos pins s (σ:St) H Q,Inv X pins σ H s->t σ H Q->wpAny (model X.prog X.w) X.A (spliced (backTo pos (starEach es X.env))) (AP X pins σ Q) X.xe s
def PS(X:Cx)(st:Stmt)(t:TS):Prop:=
 ∀pins s (σ:St) H D,Inv X pins σ H s->t D σ H->wpAny (model X.prog X.w) X.A (exec st X.env) (SP X pins D) X.xe s
def PSs(X:Cx)(st:List Stmt)(t:TS):Prop:=
 ∀pins s (σ:St) H D,Inv X pins σ H s->t D σ H->wpAny (model X.prog X.w) X.A (execs st X.env) (SP X pins D) X.xe s
def thn(h:wpAny M A t Q E s)(z:∀a s,Q a s->J a s):wpAny M A t J E s:=Ko h z λ_ _ x=>x
section
variable{X:Cx}
def bin(Y:PE X a ta)(Z:PE X b tb){σ:St}{R:V->V->Hp->Prop}(I:Inv X pins σ H s)(h:ta σ H λx H1=>tb σ H1 λy H2=>R x y H2)
  {f:Value->Value->Sem α}
  (hf:∀v u U x y H2,Inv X pins σ H2 U->aI x v->aI y u->R x y H2->wpAny (model X.prog X.w) X.A (f v u) Q X.xe U) :
  wpAny (model X.prog X.w) X.A (eval a X.env) (λv z=>wpAny (model X.prog X.w) X.A (eval b X.env) (λu J=>wpAny (model X.prog X.w) X.A (f v u) Q X.xe J) X.xe z) X.xe s:=by
 refine thn (Y pins s σ H _ I h) λv s1 ⟨x,H1,I1,r1,q1⟩=>?_
 refine thn (Z pins s1 σ H1 _ I1 q1) λu U ⟨y,H2,I2,r2,q2⟩=>?_
 exact hf v u U x y H2 I2 r1 r2 q2
noncomputable def GG(i:Nat):TE:=λσ H Q=>∃v,σ[i]?=some (some v)/\Q v H
noncomputable def tC(v:V):TE:=λ_ H Q=>Q v H
def DI (Y:X.N[i]?=some x) (hv:Vis X.env.scope x) (hd:(x==("__debug__":Str))=false:=by decide) (U:(x==("__classdict__":Str))=false:=by decide):PE X (.Name x pos) (GG i):=by
 intro pins s σ H Q I h;obtain⟨v,e,h⟩:=h;obtain⟨m,Z,hl⟩:=I.loc;obtain⟨u,r,l⟩:=hl i x v Y e hv;have fin:EP X pins σ Q u s:=⟨v,H,I,r,h⟩;rcases l with⟨J,hm⟩|⟨J,c,hc,z⟩
 .exact wpAny_Name (wpAny_loadName_local I.ok.kind J Z hm fin) hd
 .rcases J with J|J
  .exact wpAny_Name (wpAny_loadName_cell I.ok.kind J hc z fin) hd
  .exact wpAny_Name (wpAny_loadName_free I.ok.kind J hc z fin U) hd
def DJ{i j pos}:PE X (.Constant (.int i) j pos) (tC (.int i)):=λ_ _ _ H _ I h=>wpAny_Constant_int ⟨.int i,H,I.tok _,⟨_,rfl⟩,h⟩
def GH{b j pos}:PE X (.Constant (.bool b) j pos) (tC (.bl b)):=λ_ _ _ H _ I h=>Constant_bool ⟨.bl b,H,I,rfl,h⟩
def DK{j pos}:PE X (.Constant .none j pos) (tC .non):=λ_ _ _ H _ I h=>Constant_none ⟨.non,H,I,rfl,h⟩
def tO{x j pos}:PE X (.Constant (.str x) j pos) (tC (.str x)):=λ_ _ _ H _ I h=>Calls.Constant_str ⟨.str x,H,I.tok _,⟨_,rfl⟩,h⟩
def Gl(X:Cx)(x:Str):Prop:=X.env.kindOf x=some .globalImplicit
def p7{pins:List (Addr×Obj)}{s:Shared}{σ:St}{H:Hp}{x:Str}{u:Value}{pos:Pos}{Q:Value->Shared->Prop}(I:Inv X pins σ H s)(z:Gl X x)(J:X.mg x=some u)(h:Q u s)
  (hd:(x==("__debug__":Str))=false:=by decide):wpAny (model X.prog X.w) X.A (eval (.Name x pos) X.env) Q E s:=
 Calls.Name_function_global I.ok.kind z (Calls.loadGlobal_global (by rw[I.ok.glob];exact I.mod.glob.keeps I.bk) J h) hd
def iH{E:Value->Shared->Prop}{pins:List (Addr×Obj)}{s:Shared}{σ:St}{H:Hp}{x:Str}{u:Value}{pos:Pos}{Q:Value->Shared->Prop}(I:Inv X pins σ H s)(z:Gl X x)(J:X.mg x=none)(hv:bootBuiltins x=some u)(h:Q u s)
  (U:x ≠ "__name__":=by decide) (hd:(x==("__debug__":Str))=false:=by decide):wpAny (model X.prog X.w) X.A (eval (.Name x pos) X.env) Q E s:=by
 obtain⟨Y,h1,h2⟩:=I.mod.blt;exact Calls.Name_function_global I.ok.kind z (Calls.loadGlobal_builtin (by rw[I.ok.glob];exact I.mod.glob.keeps I.bk) J (by rw[I.ok.blt];exact h1.keeps I.bk) ((h2 x U).trans hv) h) hd
def Be (z:Gl X x) (J:X.mg x=some u) (r:aI v u) (hd:(x==("__debug__":Str))=false:=by decide):PE X (.Name x pos) (tC v):=
 λ_ _ _ H _ I h=>p7 I z J ⟨v,H,I,r,h⟩ hd
def Bf (z:Gl X x) (J:X.mg x=none) (hv:bootBuiltins x=some u) (r:aI v u) (U:x ≠ "__name__":=by decide) (hd:(x==("__debug__":Str))=false:=by decide):PE X (.Name x pos) (tC v):=
 λ_ _ _ H _ I h=>iH I z J hv ⟨v,H,I,r,h⟩ U hd
variable{a b:Expr}{ta tb:TE}{pos:Pos}
def PC(X:Cx)(op:CmpOp)(a b:Expr)(t:TE):Prop:=
 ∀pins s (σ:St) H Q,Inv X pins σ H s->t σ H Q ->
  wpAny (model X.prog X.w) X.A (eval a X.env) (λv z=>wpAny (model X.prog X.w) X.A (eval b X.env) (λu J=>wpAny (model X.prog X.w) X.A (compareOp op v u) (EP X pins σ Q) X.xe J) X.xe z) X.xe s
noncomputable def tB(t:TE):TT:=λσ H Q=>t σ H λx H1=>∃c,x=.bl c/\Q c H1
def xO(h:PC X op a b t)(h1:behindInMarks op b=false:=by first|exact z _ (by decide) (by decide)|rfl):PE X (.Compare a [op] [b] pos) t:=λpins s σ H Q I hw=>wpAny_Compare1 (h pins s σ H Q I hw) h1
def xP(h:PC X op a b t)(h1:behindInMarks op b=false:=by first|exact z _ (by decide) (by decide)|rfl):PT X (.Compare a [op] [b] pos) (tB t):=by
 intro pins s σ H Q I hw;refine wpAny_isTrue_Compare1 (thn (h pins s σ H _ I hw) λv Z h1=>thn h1 λu s2 h2=>thn h2 λc s3 ⟨x,H1,J,U,Y⟩=>?_) h1;obtain⟨d,rfl,q⟩:=Y;cases U;exact K1 ⟨H1,J,q⟩
def DL(h:PE X e t)(z:∀whole,isTrue e X.env whole=(do let v <- whole;standAt e.pos;holding [v] (truthy v)):=by intro _;rfl):PT X e (tB t):=by
 intro pins s σ H Q I hw;refine isTrue_plain (thn (h pins s σ H _ I hw) λv Z ⟨x,H1,J,U,Y⟩=>?_) (z _);obtain⟨d,rfl,q⟩:=Y;cases U;exact K1 ⟨H1,J,q⟩
variable{tA tB':TT}{bT:List Expr}
noncomputable def Jb(t u:TT):TT:=λσ H Q=>t σ H λc H1=>if c=true then u σ H1 Q else Q false H1
noncomputable def tOr(t u:TT):TT:=λσ H Q=>t σ H λc H1=>if c=true then Q true H1 else u σ H1 Q
noncomputable def Jc(t:TT):TT:=λσ H Q=>t σ H λc H1=>Q (!c) H1
def Bg(z:PT X a tA):PW X (.BoolOp .And [a] pos) tA:=by
 intro J pins s σ H Q I h;refine isTrue_and (thn (z pins s σ H Q I h) λc U e=>?_);cases c<;>first|exact isTrue_and_nil e|exact e
def DM(z:PT X a tA):PW X (.BoolOp .Or [a] pos) tA:=by
 intro J pins s σ H Q I h;refine isTrue_or (thn (z pins s σ H Q I h) λc U e=>?_);cases c<;>first|exact isTrue_or_nil e|exact e
def DN(U:PT X a tA)(Y:PW X (.BoolOp .And (b::bT) pos) tB'):PW X (.BoolOp .And (a::b::bT) pos) (Jb tA tB'):=by
 intro Z pins s σ H Q I h;refine isTrue_and (thn (U pins s σ H _ I h) λc s1 ⟨H1,z,J⟩=>?_);cases c<;>first|exact Y Z pins s1 σ H1 Q z J|exact⟨H1,z,J⟩
def GI(U:PT X a tA)(Y:PW X (.BoolOp .Or (b::bT) pos) tB'):PW X (.BoolOp .Or (a::b::bT) pos) (tOr tA tB'):=by
 intro Z pins s σ H Q I h;refine isTrue_or (thn (U pins s σ H _ I h) λc s1 ⟨H1,z,J⟩=>?_);cases c<;>first|exact⟨H1,z,J⟩|exact Y Z pins s1 σ H1 Q z J
def DO(z:PT X a tA):PT X (.UnaryOp .Not a pos) (Jc tA):=by
 intro pins s σ H Q I h;exact isTrue_not (z pins s σ H (λc H1=>Q _ H1) I h)
noncomputable def GJ(ta tb:TE):TE:=λσ H Q=>ta σ H λx H1=>∃c,x=.bl c/\if c=true then tb σ H1 Q else Q (.bl false) H1
noncomputable def Jd(ta tb:TE):TE:=λσ H Q=>ta σ H λx H1=>∃c,x=.bl c/\if c=true then Q (.bl true) H1 else tb σ H1 Q
noncomputable def GK(ta:TE):TE:=λσ H Q=>ta σ H λx H1=>∃c,x=.bl c/\Q (.bl (!c)) H1
def xQ{op}(h:PE X a t):PE X (.BoolOp op [a] pos) t:=λpins s σ H Q I hw=>BoolOp_one (h pins s σ H Q I hw)
def DP(U:PE X a ta)(Y:PE X (.BoolOp .And (b::bT) pos) tb):PE X (.BoolOp .And (a::b::bT) pos) (GJ ta tb):=by
 intro pins s σ H Q I h;refine BoolOp_and (thn (U pins s σ H _ I h) λv Z ⟨x,H1,J,r1,z⟩=>?_);obtain⟨c,rfl,z⟩:=z;cases r1;refine K1 ?_;cases c<;>first|exact Y pins Z σ H1 Q J z|exact⟨.bl false,H1,J,rfl,z⟩
def GL(U:PE X a ta)(Y:PE X (.BoolOp .Or (b::bT) pos) tb):PE X (.BoolOp .Or (a::b::bT) pos) (Jd ta tb):=by
 intro pins s σ H Q I h;refine BoolOp_or (thn (U pins s σ H _ I h) λv Z ⟨x,H1,J,r1,z⟩=>?_);obtain⟨c,rfl,z⟩:=z;cases r1;refine K1 ?_;cases c<;>first|exact Y pins Z σ H1 Q J z|exact⟨.bl true,H1,J,rfl,z⟩
def DQ(J:PE X a ta):PE X (.UnaryOp .Not a pos) (GK ta):=by
 intro pins s σ H Q I h;refine UnaryOp_ (thn (J pins s σ H _ I h) λv Z ⟨x,H1,U,Y,z⟩=>?_);obtain⟨c,rfl,z⟩:=z;cases Y;exact not_of (K1 ⟨.bl _,H1,U,rfl,z⟩)
noncomputable def tIf(t:TT)(ta tb:TE):TE:=λσ H Q=>t σ H λc H1=>if c=true then ta σ H1 Q else tb σ H1 Q
def xR(hc:PT X c tA)(Y:PE X a ta)(Z:PE X b tb):PE X (.IfExp c a b pos) (tIf tA ta tb):=by
 intro pins s σ H Q I h;refine wpAny_IfExp (thn (hc pins s σ H _ I h) λd z ⟨H1,J,U⟩=>?_);cases d<;>first|exact Y pins z σ H1 Q J U|exact Z pins z σ H1 Q J U
end
def SqL(K:Np)(H:Hp)(a:Addr)(xs:List V):Prop:=
 Rd H a (.lst xs) \/
  ∃o its n,K.lookup a=some o/\o.cls=.type "list"/\o.dict=none/\o.data=.seq its n/\its.size<=sizeLine/\aL xs its.toList
def SqT(K:Np)(H:Hp)(a:Addr)(xs:List V):Prop:=
 Rd H a (.tup xs) \/
  ∃o its n,K.lookup a=some o/\o.cls=.type "tuple"/\o.data=.seq its n/\its.size<=sizeLine/\aL xs its.toList
noncomputable def Je:Value->Option V
 | .none=>some .non
 | .bool b=>some (.bl b)
 | .int i _=>some (.int i)
 | .str x _=>some (.str x)
 | .bytes b _=>some (.byt b)
 | .float b _=>some (.flt b)
 | .ref a=>some (.ref a)
 | .type n=>some (.ty n)
 | _=>none
theorem aI.abs(r:aI x u):Je u=some x:=by
 cases x<;>first|(cases r;rfl)|(obtain⟨t,rfl⟩:=r;rfl)
theorem aI.inj(r:aI x u)(q:aI y u):x=y:=J3 (r.abs.symm.trans q.abs)
theorem aL.inj:∀{xs ys}{us},aL xs us->aL ys us->xs=ys
 | _,_,_,.nil,.nil=>rfl
 | _,_,_,.cons r t,.cons z t'=>by rw[r.inj z,aL.inj t t']
section
variable{X:Cx}{pins:List (Addr×Obj)}{σ:St}{H:Hp}{s:Shared}{a:Addr}{xs ys:List V}
theorem SqL.of{K:Np}(h:H a=some (.lst xs)):SqL K H a xs:=.inl (.inl h)
theorem SqT.of{K:Np}(h:H a=some (.tup xs)):SqT K H a xs:=.inl (.inl h)
theorem Inv.list(I:Inv X pins σ H s)(h:SqL X.K H a xs):∃its,aL xs its/\PlainL s.heap a its.toArray/\xs.length<=sizeLine:=by
 rcases h with h|⟨o,its,n,J,hc,hd,hs,hz,r⟩
 .obtain⟨z,its,n,r,e⟩:=h.ok I.hok;exact⟨its,r,⟨_,n,e,rfl,rfl,rfl⟩,z⟩
 .refine⟨its.toList,r,⟨o,n,I.kIn a o J,hc,hd,by simpa using hs⟩,?_⟩;have e:=r.length
  simp_all
def Inv.tuple(I:Inv X pins σ H s)(h:SqT X.K H a xs):∃its,aL xs its/\IsTup s.heap a its.toArray/\xs.length<=sizeLine:=by
 rcases h with h|⟨o,its,n,J,hc,hs,hz,r⟩
 .obtain⟨z,its,r,p⟩:=h.ok I.hok;exact⟨its,r,p,z⟩
 .refine⟨its.toList,r,⟨o,I.kIn a o J,hc,n,by simpa using hs⟩,?_⟩;have e:=r.length
  simp_all
def Inv.list_inj(I:Inv X pins σ H s)(h:SqL X.K H a xs)(h':SqL X.K H a ys):xs=ys:=by
 obtain⟨its,r,⟨o,n,e,_,_,d⟩,_⟩:=I.list h;obtain⟨its',J,⟨o',Y,z,_,_,d'⟩,_⟩:=I.list h';rw[e]at z;cases z
 rw[d]at d';injection d' with U _
 have:its=its':=by simpa using Kf Array.toList U
 subst this;exact r.inj J
def Inv.tuple_inj(I:Inv X pins σ H s)(h:SqT X.K H a xs)(h':SqT X.K H a ys):xs=ys:=by
 obtain⟨its,r,⟨o,e,_,n,d⟩,_⟩:=I.tuple h;obtain⟨its',J,⟨o',z,_,Y,d'⟩,_⟩:=I.tuple h';rw[e]at z;cases z
 rw[d]at d';injection d' with U _
 have:its=its':=by simpa using Kf Array.toList U
 subst this;exact r.inj J
end
noncomputable abbrev Cx.wish(X:Cx)(E:Value->Shared->Prop):Cx:={ X with xe:=E }
noncomputable abbrev Cx.nox(X:Cx):Cx:=X.wish λ_ _=>False
theorem Cx.Ok.wish{X:Cx}(ok:X.Ok)(E:Value->Shared->Prop):(X.wish E).Ok:=
 ⟨ok.mod,ok.kind,ok.glob,ok.blt,ok.above,ok.inj,ok.has,ok.cab,ok.hd,ok.frames,ok.stk,ok.exf,ok.bs,ok.bsz,ok.noex,ok.exfs,ok.funs,ok.frf⟩
theorem Cx.Ok.unwish{X:Cx}{E:Value->Shared->Prop}(ok:(X.wish E).Ok):X.Ok:=
 ⟨ok.mod,ok.kind,ok.glob,ok.blt,ok.above,ok.inj,ok.has,ok.cab,ok.hd,ok.frames,ok.stk,ok.exf,ok.bs,ok.bsz,ok.noex,ok.exfs,ok.funs,ok.frf⟩
section
variable{X:Cx}{pins:List (Addr×Obj)}{σ:St}{H:Hp}{s:Shared}{E:Value->Shared->Prop}
theorem Inv.wish(I:Inv X pins σ H s)(E):Inv (X.wish E) pins σ H s:=⟨I.ok.wish E,I.os,I.bare,I.base,I.loc,I.cell,I.free,I.freeC,I.pin,I.hok,I.len⟩
theorem Inv.unwish(I:Inv (X.wish E) pins σ H s):Inv X pins σ H s:=⟨I.ok.unwish,I.os,I.bare,I.base,I.loc,I.cell,I.free,I.freeC,I.pin,I.hok,I.len⟩
theorem SP.unwish(h:SP (X.wish E) pins D f s'):SP X pins D f s':=by
 cases f<;>first|(obtain⟨F,H',I,q⟩:=h;exact⟨F,H',I.unwish,q⟩)|(obtain⟨v,F,H',I,r,q⟩:=h;exact⟨v,F,H',I.unwish,r,q⟩)
theorem PSs.nox{st:List Stmt}(h:PSs X.nox st t):PSs X st t:=λpins s σ H D I hw =>
 Ko (h pins s σ H D (I.wish _) hw) (λ_ _ q=>q.unwish) λ_ _ z=>False.elim z
end
section
variable{X:Cx}{st:Stmt}{bT:List Stmt}{t u:TS}{e:Expr}{te:TE}{pos:Pos}
noncomputable def GM:TS:=λD σ H=>D.nx σ H
noncomputable def Jf(t u:TS):TS:=λD σ H=>t { D with nx:=u D } σ H
def Bh:PSs X [] GM:=λ_ _ σ H _ I h=>wpAny_execs_nil ⟨σ,H,I,h⟩
def xS(h1:PS X st t)(h2:PSs X bT u):PSs X (st::bT) (Jf t u):=by
 intro pins s σ H D I h;refine wpAny_execs_cons (thn (h1 pins s σ H { D with nx:=u D } I h) λf z q=>?_);cases f with
 |next =>
  obtain⟨F,H',J,q⟩:=q;exact h2 pins z F H' D J q
 | _=>exact q
def Inv.quiet(I:Inv X pins σ H s):interactive X.env=false:=by simp[interactive,I.ok.kind]
noncomputable def GN(te:TE):TS:=λD σ H=>te σ H λ_ H1=>D.nx σ H1
def p8(z:PE X e te)(hs:swapsWith e none pos.line X.env=pure false:=by rfl):PS X (.Expr e pos) (GN te):=by
 intro pins s σ H D I h;exact wpAny_Expr_any (thn (z pins s σ H _ I h) λv Y ⟨x,H1,J,Z,U⟩=>⟨σ,H1,J,U⟩) I.quiet hs
noncomputable def Jg(te:TE):TS:=λD σ H=>te σ H D.rt
def p9(z:PE X e te):PS X (.Return (some e) pos) (Jg te):=by
 intro pins s σ H D I h;exact wpAny_Return_some (thn (z pins s σ H _ I h) λv Z ⟨x,H1,J,U,Y⟩=>⟨x,σ,H1,J,U,Y⟩)
noncomputable def Jh(c:TT)(t u:TS):TS:=λD σ H=>c σ H λb H1=>if b=true then t D σ H1 else u D σ H1
def GO(hc:PT X c tc)(Y:PSs X a t)(Z:PSs X b u):PS X (.If c a b pos) (Jh tc t u):=by
 intro pins s σ H D I h;refine wpAny_If (thn (hc pins s σ H _ I h) λd z ⟨H1,J,U⟩=>?_);cases d<;>first|exact Y pins z σ H1 D J U|exact Z pins z σ H1 D J U
noncomputable def DR:TS:=λ_ _ _=>False
def xT:PS X st DR:=λ_ _ _ _ _ _ h=>h.elim
end
noncomputable abbrev TG:=V->St->Hp->(St->Hp->Prop)->Prop
noncomputable abbrev TGs:=List V->St->Hp->(St->Hp->Prop)->Prop
def PG(X:Cx)(target:Expr)(t:TG):Prop:=
 ∀pins s (σ:St) H v u Q,Inv X pins σ H s->aI v u->t v σ H Q ->
  wpAny (model X.prog X.w) X.A (assign target X.env u) (λ_ s'=>∃F H',Inv X pins F H' s'/\Q F H') X.xe s
def PGs(X:Cx)(z:List Expr)(t:TGs):Prop:=
 ∀pins s (σ:St) H vs us Q,Inv X pins σ H s->aL vs us->t vs σ H Q ->
  wpAny (model X.prog X.w) X.A (assignInOrder ((assignEach z X.env).map (·.2)) us) (λ_ s'=>∃F H',Inv X pins F H' s'/\Q F H') X.xe s
noncomputable abbrev JU:=V->V->V->Hp->(Hp->Prop)->Prop
section
variable{X:Cx}{pos:Pos}
noncomputable def ji(i:Nat):TG:=λv σ H Q=>Q (σ.set i (some v)) H
def l6(z:X.N.Nodup)(hi:X.N[i]?=some x)(hx:Loc X.env.scope x)(J:X.fn x=true\/X.env.scope.names.lookup x=some .local:=by first|exact .inl rfl|exact .inr rfl|assumption):PG X (.Name x pos) (ji i):=by
 intro pins s σ H v u Q I r h;exact wpAny_assign_Name (rm I z hi hx r (λs' U=>⟨_,H,U,h⟩) J)
noncomputable def GP:TGs:=λvs σ H Q=>vs=[]/\Q σ H
noncomputable def C5(t:TG)(u:TGs):TGs:=λvs σ H Q=>∃v r,vs=v::r/\t v σ H λF H'=>u r F H' Q
def Bi:PGs X [] GP:=by
 intro pins s σ H vs us Q I r h;obtain⟨e,h⟩:=h;subst e;cases r;exact assignInOrder_nil ⟨σ,H,I,h⟩
def xU(h1:PG X e t)(h2:PGs X es u)
  (hs:(assignEach (e::es) X.env).map (·.2)=assign e X.env::(assignEach es X.env).map (·.2):=by rfl):PGs X (e::es) (C5 t u):=by
 intro pins s σ H vs us Q I r h;obtain⟨v,vr,J,h⟩:=h;subst J;cases r with
 |cons r U =>
  rw[hs];refine assignInOrder_cons (thn (h1 pins s σ H _ _ _ I r h) λ_ Y ⟨z,H1,Z,q1⟩=>?_);exact h2 pins Y z H1 _ _ Q Z U q1
noncomputable def GQ(K:Np)(n:Nat)(t:TGs):TG:=λv σ H Q=>∃a xs,v=.ref a/\SqT K H a xs/\xs.length=n/\t xs σ H Q
def DS{k:Nat}(hc:X.calm=true)(h:PGs X es t)
  (U:(assignEach es X.env).length=n:=by rfl) (z:(assignEach es X.env).findIdx? (·.1)=none:=by rfl):PG X (.Tuple es k pos) (GQ X.K n t):=by
 intro pins s σ H v u Q I r hw;refine aE λZq Y=>?_
 obtain⟨a,xs,Z,hq,hl,hw⟩:=hw;subst Z;cases r;obtain⟨its,J,ht,hz⟩:=I.tuple hq;refine Y ?_;refine assign_Tuple_tuple (I.ok.hd hc) ht (by simp[U,<- hl,J.length]) z λh' hx=>?_
 have I1:=I.kept (t':=s.toks) λb o e=>hx b o (JV (r4 e)) e
 exact h pins _ σ H xs _ Q I1 (by simpa using J) hw
noncomputable def xV(te:TE)(g:TG):TS:=λD σ H=>te σ H λx H1=>g x σ H1 D.nx
def jB(z:X.N.Nodup)(hi:X.N[i]?=some x)(hx:Loc X.env.scope x)(J:PE X e te)(hs:swapsWith e (some (.Name x pos')) pos.line X.env=pure false:=by rfl)(U:X.fn x=true\/X.env.scope.names.lookup x=some .local:=by first|exact .inl rfl|exact .inr rfl|assumption) :
  PS X (.Assign [.Name x pos'] e pos) (xV te (ji i)):=by
 intro pins s σ H D I h;refine wpAny_Assign_Name (thn (J pins s σ H _ I h) λv s1 ⟨y,H1,Y,Z,q1⟩=>?_) hs;exact rm Y z hi hx Z (λs2 I2=>⟨_,H1,I2,q1⟩) U
end
structure It where
 go:Nat->Hp->Prop
 yld:Nat->Hp->V->Hp->Prop
 stop:Nat->Hp->Prop
def kL(X:Cx)(pins:List (Addr×Obj))(H:Hp)(b:Addr):Prop:=
 H b=none/\b≠X.env.locals/\b∉X.fs/\(b∈X.ex\/X.s₀.heap.objs.size<=b)/\(∀x c,X.env.cells.lookup x=some c->c≠b)/\∀p∈X.pn++pins,p.1≠b
theorem Inv.fpOk{σ:St}{H H':Hp}{s:Shared}{b:Addr}(I:Inv X pins σ H s)(J:s.heap.objs.size<=b)(U:H' b=none):kL X pins H' b:=by
 refine⟨U,KR (JX I.lt J),I.nofs J,.inr (wh I.sz J),λx c e z=>?_,λp Y z=>?_⟩
 .obtain⟨v,q⟩:=I.cell x c e;exact absurd (JX q.lt (by rw[z];exact J)) (Kq _)
 .exact absurd (JX (r4 (I.pin p Y).1) (by rw[z];exact J)) (Kq _)
structure tP(P:Program)(w:World)(K:Np)(tg:Expr)(J:It)(fp:List Addr)(it:Addr)(tn:Nat->Heap->Prop):Prop where
 mem:it∈fp
 obj:∀i h,tn i h->∀b∈fp,∃o,h.get? b=some o/\∀v,o.data≠.cell v
 keep:∀i h h',tn i h->(∀b∈fp,∀o,h.get? b=some o->h'.get? b=some o)->tn i h'
 item:∀(X:Cx),X.prog=P->X.w=w->X.K=K->X.calm=true->∀(i:Nat) (pins:List (Addr×Obj)) (s:Shared) (σ:St) (H:Hp) (E:Value->Shared->Prop),Inv X pins σ H s->(∀b∈fp,kL X pins H b)->tn i s.heap->J.go i H ->
  wpAny (model P w) X.A (pyNext (.ref it)) (λr s1=>∃u,r=some u /\
   wpAny (model P w) X.A (letOwnedTupleGo tg (.ref it) u) (λ_ s2=>∃x H',Inv X pins σ H' s2/\aI x u/\J.yld i H x H'/\tn (i+1) s2.heap/\∀b∈fp,H' b=none) E s1) E s
 done:∀(X:Cx),X.prog=P->X.w=w->X.K=K->X.calm=true->∀(i:Nat) (pins:List (Addr×Obj)) (s:Shared) (σ:St) (H:Hp) (E:Value->Shared->Prop),Inv X pins σ H s->(∀b∈fp,kL X pins H b)->tn i s.heap->J.stop i H ->
  wpAny (model P w) X.A (pyNext (.ref it)) (λr s1=>r=none/\Inv X pins σ H s1) E s
 self:∀(A:Around) (i:Nat) (s:Shared) (Q:Value->Shared->Prop) (E:Value->Shared->Prop),tn i s.heap->Q (.ref it) s->wpAny (model P w) A (pyIter (.ref it)) Q E s
noncomputable abbrev TI:=St->Hp->(It->Hp->Prop)->Prop
def PIE(X:Cx)(pins:List (Addr×Obj))(σ:St)(tg:Expr)(R:It->Hp->Prop)(z:Value)(U:Shared):Prop:=
 ∃it fp Y J H',z=.ref it/\Inv X pins σ H' U/\tP X.prog X.w X.K tg J fp it Y/\Y 0 U.heap/\(∀b∈fp,kL X pins H' b)/\R J H'
def PI(X:Cx)(tg iter:Expr)(wi:TI):Prop:=
 ∀pins s (σ:St) H R,Inv X pins σ H s->wi σ H R ->
  wpAny (model X.prog X.w) X.A (eval iter X.env) (λv z=>wpAny (model X.prog X.w) X.A (pyIter v) (PIE X pins σ tg R) X.xe z) X.xe s
def xW{s:Shared}{tg:Expr}{it:Addr}{u:Value}{o:Obj}{n:String}{vs:Array Value}{Q:Unit->Shared->Prop}(ho:s.heap.get? it=some o)(hc:o.cls=.type n)(hd:o.data=.fields vs)
    (hn:["enumerate","zip","dict_itemiterator","dict_reverseitemiterator","odict_iterator","itertools.zip_longest","itertools.pairwise"].contains n=false) (hQ:Q () s):wpAny M A (letOwnedTupleGo tg (.ref it) u) Q E s:=by
  unfold letOwnedTupleGo;cases tg<;>first
    | exact gx hQ
    | (cases u<;>first
        | exact gx hQ
        | (refine ez (wpAny_load ho ?_)
           rw[hc,hd];show wpAny M A (if (["enumerate","zip","dict_itemiterator","dict_reverseitemiterator","odict_iterator","itertools.zip_longest","itertools.pairwise"].contains n&&vs[0]?==some (rawInt _))=true then _ else _) Q E s;rw[if_neg (by intro h;rw[hn,MP]at h;cases h)];exact gx hQ))
noncomputable def Itl(K:Np)(a:Addr):It:=
 ⟨λi H=>∃xs x,SqL K H a xs/\xs[i]?=some x,λi H x H'=>H'=H/\∀xs,SqL K H a xs->xs[i]?=some x,λi H=>∃xs,SqL K H a xs/\xs.length<=i⟩
noncomputable def Itt(K:Np)(a:Addr):It:=
 ⟨λi H=>∃xs x,SqT K H a xs/\xs[i]?=some x,λi H x H'=>H'=H/\∀xs,SqT K H a xs->xs[i]?=some x,λi H=>∃xs,SqT K H a xs/\xs.length<=i⟩
noncomputable def Itr(lo:Int)(n:Nat):It:=⟨λi _=>i<n,λi H x H'=>H'=H/\x=.int (lo+i),λi _=>n<=i⟩
def wC{K:Np}(a it):tP P w K tg (Itl K a) [it] it (λi h=>h.IsListIter it a i) where
 mem:=by simp
 obj:=λi h st b z=>by
  obtain⟨o,e,c,d⟩:=st
  simp_all
 keep:=λi h h' st k=>st.at λo e=>k it (by simp) o e
 item:=by
  intro X Z hw hK hc i pins s σ H E I U st hg;refine aE λZq kq=>?_
  subst Z hw hK;obtain⟨xs,x,Y,hx⟩:=hg;obtain⟨its,rv,p,hz⟩:=I.list Y;obtain⟨u,hu,ru⟩:=rv.get hx;obtain⟨f0,f1,f2,f3,f4,f5⟩:=U it (by simp);refine kq ?_;refine wpAny_pyNext_list_item st p.isList (by simpa using hu) λh' J sb=>?_
  have I1:=I.turned (t':=s.toks) (λb o z e=>(sb.2 b z).trans e) f0 f1 f3 f4 f5;obtain⟨o,e,c,d⟩:=id J;exact⟨u,rfl,xW e c d (by decide) ⟨x,H,I1,ru,⟨rfl,λys hy=>by rw[I.list_inj hy Y];exact hx⟩,J,λb z=>(U b z).1⟩⟩
 done:=by
  intro X Z hw hK hc i pins s σ H E I U st hg;refine aE λZq kq=>?_
  subst Z hw hK;obtain⟨xs,Y,hx⟩:=hg;obtain⟨its,rv,p,hz⟩:=I.list Y;obtain⟨f0,f1,f2,f3,f4,f5⟩:=U it (by simp);have hl:=rv.length;refine kq ?_;exact wpAny_pyNext_list_end (I.ok.hd hc) st p.isList (by simp;omega) λh' eb=>⟨rfl,I.turned (λb o z e=>eb b o z e) f0 f1 f3 f4 f5⟩
 self:=λ_ _ _ _ _ st h=>wpAny_pyIter_listiter st h
def tQ{K:Np}(a it):tP P w K tg (Itt K a) [it] it (λi h=>h.IsTupleIter it a i) where
 mem:=by simp
 obj:=λi h st b z=>by
  obtain⟨o,e,c,d⟩:=st
  simp_all
 keep:=λi h h' st k=>st.at λo e=>k it (by simp) o e
 item:=by
  intro X Z hw hK hc i pins s σ H E I U st hg;refine aE λZq kq=>?_
  subst Z hw hK;obtain⟨xs,x,Y,hx⟩:=hg;obtain⟨its,rv,p,hz⟩:=I.tuple Y;obtain⟨u,hu,ru⟩:=rv.get hx;obtain⟨f0,f1,f2,f3,f4,f5⟩:=U it (by simp);refine kq ?_;refine wpAny_pyNext_tuple_item st (show s.heap.IsTuple a its.toArray from p) (by simpa using hu) λh' J sb=>?_
  have I1:=I.turned (t':=s.toks) (λb o z e=>(sb.2 b z).trans e) f0 f1 f3 f4 f5;obtain⟨o,e,c,d⟩:=id J;exact⟨u,rfl,xW e c d (by decide) ⟨x,H,I1,ru,⟨rfl,λys hy=>by rw[I.tuple_inj hy Y];exact hx⟩,J,λb z=>(U b z).1⟩⟩
 done:=by
  intro X Z hw hK hc i pins s σ H E I U st hg;refine aE λZq kq=>?_
  subst Z hw hK;obtain⟨xs,Y,hx⟩:=hg;obtain⟨its,rv,p,hz⟩:=I.tuple Y;obtain⟨f0,f1,f2,f3,f4,f5⟩:=U it (by simp);have hl:=rv.length;refine kq ?_;exact wpAny_pyNext_tuple_end (I.ok.hd hc) st (show s.heap.IsTuple a its.toArray from p) (by simp;omega) λh' eb=>⟨rfl,I.turned (λb o z e=>eb b o z e) f0 f1 f3 f4 f5⟩
 self:=λ_ _ _ _ _ st h=>wpAny_pyIter_tupleiter st h
def tR{K:Np}(it)(lo)(n):tP P w K tg (Itr lo n) [it] it (λi h=>IsRangeIter h it (lo+(i:Nat)*1) ((n:Int)-(i:Nat)) 1) where
 mem:=by simp
 obj:=λi h st b z=>by
  simp_all
 keep:=λi h h' st k=>k it (by simp) _ st
 item:=by
  intro X hP hw hK hc i pins s σ H E I U st Y;subst hP hw hK;obtain⟨Z,f1,f2,f3,f4,f5⟩:=U it (by simp);have W:=Walks.range (prog:=X.prog) (w:=X.w) (I.ok.hd hc) it lo 1 n;refine W.item i s _ _ Y st λv h' tk hv J kk=>?_
  obtain⟨t,rfl⟩:=hv;have I1:Inv X pins σ H { s with heap:=h',toks:=tk }:=I.turned (λb o z e=>kk b o (by simpa using z) e) Z f1 f3 f4 f5;refine⟨_,rfl,xW J rfl rfl (by decide) ⟨.int _,H,I1,⟨t,?_⟩,⟨rfl,rfl⟩,J,λb z=>(U b z).1⟩⟩;rw[Int.mul_one]
 done:=by
  intro X hP hw hK hc i pins s σ H E I U st Y;obtain⟨Z,f1,f2,f3,f4,f5⟩:=U it (by simp);exact wpAny_pyNext_range_end (I.ok.hd hc) st (by have:n<=i:=Y;omega) λh' eb=>⟨rfl,I.turned (λb o z e=>eb b o z e) Z f1 f3 f4 f5⟩
 self:=λ_ _ _ _ _ st h=>wpAny_pyIter_rangeiter st h
section
variable{X:Cx}{tg:Expr}
noncomputable def GR(K:Np)(tl:TE):TI:=λσ H R=>tl σ H λx H1=>∃a,x=.ref a/\(∃xs,SqL K H1 a xs)/\R (Itl K a) H1
noncomputable def Ji(K:Np)(tl:TE):TI:=λσ H R=>tl σ H λx H1=>∃a,x=.ref a/\(∃xs,SqT K H1 a xs)/\R (Itt K a) H1
def va(U:PE X l tl):PI X tg l (GR X.K tl):=by
 intro pins s σ H R I h;refine thn (U pins s σ H _ I h) λv J ⟨x,H1,z,Y,Z⟩=>?_
 obtain⟨a,e,⟨xs,hq⟩,q⟩:=Z;subst e;cases Y;obtain⟨its,rv,p,hz⟩:=z.list hq;refine LN p.isList ?_;refine⟨J.heap.objs.size,[J.heap.objs.size],_,_,H1,rfl,z.kept λb o e=>g4 _ e,wC a _,⟨_,uw _ rfl,rfl,rfl⟩,λb hb=>?_,q⟩;have e:b=J.heap.objs.size:=by simpa using hb
 subst e;exact z.fpOk (pb _) (z.hok.fresh (pb _))
def xX(U:PE X l tl):PI X tg l (Ji X.K tl):=by
 intro pins s σ H R I h;refine thn (U pins s σ H _ I h) λv z ⟨x,H1,J,Y,Z⟩=>?_
 obtain⟨a,e,⟨xs,hq⟩,q⟩:=Z;subst e;cases Y;obtain⟨its,rv,p,hz⟩:=J.tuple hq;refine Mc (show z.heap.IsTuple a its.toArray from p) ?_;refine⟨z.heap.objs.size,[z.heap.objs.size],_,_,H1,rfl,J.kept λb o e=>g4 _ e,tQ a _,⟨_,uw _ rfl,rfl,rfl⟩,λb hb=>?_,q⟩;have e:b=z.heap.objs.size:=by simpa using hb
 subst e;exact J.fpOk (pb _) (J.hok.fresh (pb _))
def rn{σ:St}{H:Hp}{s:Shared}{R:It->Hp->Prop}{E:Value->Shared->Prop}{lo hi:Int}{t u v:Tok}{tk:Nat}(I:Inv X pins σ H s)(h1:-(2 ^ 62)<=lo)(h2:lo<2 ^ 62)(J:-(2 ^ 62)<=hi)(U:hi<2 ^ 62)
  (q:R (Itr lo (hi-lo).toNat) H):wpAny (model X.prog X.w) X.A (pyIter (.ref s.heap.objs.size)) (PIE X pins σ tg R) E { s with heap:=s.heap.push { cls:=.type "range",data:=.fields #[.int lo t,.int hi u,.int 1 v] },toks:=tk }:=by
 refine wpAny_pyIter_range (IsRange.new ..) (small_one h1 h2 J U) ?_;have z:Inv X pins σ H { s with heap:=s.heap.push { cls:=.type "range",data:=.fields #[.int lo t,.int hi u,.int 1 v] },toks:=tk }:=I.kept λb o e=>g4 _ e
 refine⟨(s.heap.push { cls:=.type "range",data:=.fields #[.int lo t,.int hi u,.int 1 v] }).objs.size,[(s.heap.push { cls:=.type "range",data:=.fields #[.int lo t,.int hi u,.int 1 v] }).objs.size],_,_,H,rfl,
  z.kept (t':=tk) λb o e=>g4 _ e,tR _ lo (hi-lo).toNat,?_,λb Y=>?_,q⟩
 .have Z:lo+((0:Nat):Int)*1=lo:=by simp
  have e2:(((hi-lo).toNat:Nat):Int)-((0:Nat):Int)=Builtin.Range.rangeSize lo hi 1:=by rw[rangeSize_one];split<;>omega
  show IsRangeIter _ _ (lo+((0:Nat):Int)*1) ((((hi-lo).toNat:Nat):Int)-((0:Nat):Int)) 1;rw[Z,e2];exact uw _ rfl
 .have e:b=(s.heap.push { cls:=.type "range",data:=.fields #[.int lo t,.int hi u,.int 1 v] }).objs.size:=by simpa using Y
  subst e;exact z.fpOk (pb _) (z.hok.fresh (pb _))
noncomputable def GS(ta:TA):TI:=λσ H R=>ta σ H λvs H1=>∃j,vs=[.int j]/\-(2 ^ 62)<=j/\j<2 ^ 62/\R (Itr 0 j.toNat) H1
noncomputable def GT(ta:TA):TI:=λσ H R=>ta σ H λvs H1=>∃i j,vs=[.int i,.int j]/\(-(2 ^ 62)<=i/\i<2 ^ 62/\-(2 ^ 62)<=j/\j<2 ^ 62)/\R (Itr i (j-i).toNat) H1
def o3 (J:Gl X "range") (U:X.mg "range"=none) (Y:PA X [a] ta) (hs:starEach [a] X.env=[(false,eval a X.env)]:=by rfl):PI X tg (.Call (.Name "range" p) [a] [] pos) (GS ta):=by
 intro pins s σ H R I h;refine Call_ (iH I J U boot_range (KG (thn (Y pos pins s σ H _ I h) λus s1 ⟨vs,H1,Z,r1,z⟩=>?_) hs rfl));obtain⟨j,e,z,q2,q⟩:=z;subst e;cases r1 with
 |cons r rr =>
  cases rr;obtain⟨t,rfl⟩:=r;exact call_range_1 (rn Z (by omega) (by omega) z q2 (by simpa using q))
def wD (Y:Gl X "range") (Z:X.mg "range"=none) (ha:PA X [a,b] ta) (hs:starEach [a,b] X.env=[(false,eval a X.env),(false,eval b X.env)]:=by rfl) (z:starEach [b] X.env=[(false,eval b X.env)]:=by rfl) :
  PI X tg (.Call (.Name "range" p) [a,b] [] pos) (GT ta):=by
 intro pins s σ H R I h;refine Call_ (iH I Y Z boot_range (KG (thn (ha pos pins s σ H _ I h) λus s1 ⟨vs,H1,I1,r1,J⟩=>?_) (by rw[hs,z]) (by rw[z];rfl)));obtain⟨i,j,e,⟨J,q2,q3,q4⟩,q⟩:=J;subst e;cases r1 with
 |cons r U =>
  cases U with
  |cons r' U =>
   cases U;obtain⟨t,rfl⟩:=r;obtain⟨t',rfl⟩:=r';exact call_range_2 (rn I1 J q2 q3 q4 q)
noncomputable def DT(wi:TI)(g:TG)(tb:TS):TS:=λD σ H=>wi σ H λJ H1=>∃W:Nat->Nat->St->Hp->Prop,(∃m,W 0 m σ H1)/\∀i m σ H,W i m σ H ->
 (J.stop i H/\D.nx σ H)\/(J.go i H/\∃N,(∀F H',N F H'->∃U,U<m/\W (i+1) U F H')/\∀x H',J.yld i H x H'->g x σ H' λz H2=>tb { D with nx:=N,ct:=N,bk:=D.nx } z H2)
noncomputable def mE(fp:List Addr)(h:Heap):List (Addr×Obj):=fp.filterMap λb=>(h.get? b).map λo=>(b,o)
def g_(z:b∈fp)(e:h.get? b=some o):(b,o)∈mE fp h:=mem_filterMap.mpr ⟨b,z,by rw[e];rfl⟩
def wE(z:p∈mE fp h):p.1∈fp/\h.get? p.1=some p.2:=by
 obtain⟨b,J,e⟩:=mem_filterMap.mp z;cases q:h.get? b with
 |none=>rw[q]at e;cases e
 |some o =>
  rw[q]at e;have U:=J3 e;subst U;exact⟨J,q⟩
def Inv.pinned(I:Inv X pins σ H s)(U:∀b∈fp,kL X pins H b)(ho:∀b∈fp,∃o,s.heap.get? b=some o/\∀v,o.data≠.cell v):Inv X (pins++mE fp s.heap) σ H s:=
 I.pins_of λp Y=>(Lu.mp Y).elim (λz=>I.pin p (Kw _ z)) λz=>by
  obtain⟨J,e⟩:=wE z;obtain⟨Z,f1,f2,_⟩:=U p.1 J;obtain⟨o,e',d⟩:=ho p.1 J
  simp_all
def Inv.unpinned(I:Inv X (pins++J) σ H s):Inv X pins σ H s:=I.pins_of λp z=>I.pin p (Kw _ (Mv _ z))
def tU{iter:Expr}(hp:PassesOwn (model X.prog X.w) X.A X.env X.xe)(hc:X.calm=true)(hi:PI X tg iter wi)(hg:PG X tg g)(U:PSs X body tb)(hs:∀x,foldedSetIterable iter X.env x=pure x:=by intro _;rfl):PS X (.For tg iter body [] pos) (DT wi g tb):=by
 intro pins s σ H D I h;refine wpAny_For (thn (hi pins s σ H _ I h) λv s1 h1=>thn h1 λcr s2 h2=>?_) hs;refine aE λZq kq=>?_
 obtain⟨it,fp,tn,J,H2,e,I2,T,a6,f2,W,⟨m0,w0⟩,turn⟩:=h2;subst e;have Y:∀{H'},(∀b∈fp,H' b=none)->∀b∈fp,kL X pins H' b:=λhn b U=>⟨hn b U,(f2 b U).2⟩
 refine kq ?_;refine codeAny_forLoop_any (λn s'=>∃i F H',Inv X pins F H' s'/\tn i s'.heap/\(∀b∈fp,H' b=none)/\W i n F H') ?_ m0 ⟨0,σ,H2,I2,a6,λb U=>(f2 b U).1,w0⟩;rintro n s3 ⟨i,Z,H3,I3,a3,a4,w3⟩;rcases turn i n Z H3 w3 with⟨stop,qn⟩|⟨go,N,hN,step⟩
 .refine L7 hp (thn (T.done X rfl rfl rfl hc i pins s3 Z H3 X.xe I3 (Y a4) a3 stop) λr s4 ⟨hr,I4⟩=>?_);subst hr;exact wpAny_execs_nil ⟨Z,H3,I4,qn⟩
 .refine L7 hp (thn (T.item X rfl rfl rfl hc i pins s3 Z H3 X.xe I3 (Y a4) a3 go) λr s4 ⟨u,hr,h4⟩=>?_);subst hr;refine L7 hp (thn h4 λ_ s5 ⟨x,H5,I5,r5,y5,a0,a8⟩=>?_);have a9:=I5.pinned (Y a8) (T.obj _ _ a0);refine L7 hp (thn (hg _ s5 Z H5 x u _ a9 r5 (step x H5 y5)) λ_ s6 ⟨ba,H6,I6,q6⟩=>?_);refine L7 hp (thn (U _ s6 ba H6 _ I6 q6) λf s7 q7=>?_);have again:∀{z}{H7},Inv X (pins++mE fp s5.heap) z H7 s7->N z H7->∃m,m<n/\∃i F H',Inv X pins F H' s7/\tn i s7.heap/\(∀b∈fp,H' b=none)/\W i m F H':=λ{z H7} I7 n7=>by
   obtain⟨m',hm,w7⟩:=hN z H7 n7;refine⟨m',hm,i+1,z,H7,I7.unpinned,T.keep _ _ _ a0 λb U o e=>(I7.pin (b,o) (Kw _ (Kw _ (g_ U e)))).1,λb U=>?_,w7⟩;obtain⟨o,e,d⟩:=T.obj _ _ a0 b U;exact(I7.pin (b,o) (Kw _ (Kw _ (g_ U e)))).2.1
  cases f<;>first|(obtain⟨z,H7,I7,n7⟩:=q7;exact again I7 n7)|(obtain⟨z,H7,I7,q7⟩:=q7;exact⟨z,H7,I7.unpinned,q7⟩)|(obtain⟨x7,z,H7,I7,r7,q7⟩:=q7;exact⟨x7,z,H7,I7.unpinned,r7,q7⟩)
end
noncomputable abbrev R2:=V->V->Hp->VK->Prop
def OpR(X:Cx)(f:Value->Value->Sem Value)(r:R2):Prop:=
 ∀pins s (σ:St) H x y v u Q,Inv X pins σ H s->aI x v->aI y u->r x y H Q ->
  wpAny (model X.prog X.w) X.A (f v u) (EP X pins σ Q) X.xe s
def bU(X:Cx)(f:Value)(r:List V->Hp->VK->Prop):Prop:=
 ∀pins s (σ:St) H xs us Q,Inv X pins σ H s->aL xs us->r xs H Q ->
  wpAny (model X.prog X.w) X.A (call f us) (EP X pins σ Q) X.xe s
noncomputable def tOp(r:R2)(ta tb:TE):TE:=λσ H Q=>ta σ H λx H1=>tb σ H1 λy H2=>r x y H2 Q
noncomputable def rI(C:Int->Int->Prop)(g:Int->Int->V):R2:=λx y H Q=>∃i j,x=.int i/\y=.int j/\C i j/\Q (g i j) H
noncomputable def rI0(g:Int->Int->V):R2:=λx y H Q=>∃i j,x=.int i/\y=.int j/\Q (g i j) H
section
variable{X:Cx}{a b c:Expr}{ta tb tc:TE}{pos:Pos}
def DU(Y:PE X a ta)(Z:PE X b tb){R:V->V->Hp->Prop}(I:Inv X pins σ H s)
  (h:ta σ H λx H1=>tb σ H1 λy H2=>R x y H2) {f:Value->Value->Sem Value}
  (hf:∀v u U x y H2,Inv X pins σ H2 U->aI x v->aI y u->R x y H2->wpAny (model X.prog X.w) X.A (f v u) Q X.xe U) :
  wpAny (model X.prog X.w) X.A (eval a X.env) (λv z=>wpAny (model X.prog X.w) X.A (eval b X.env) (λu J=>wpAny (model X.prog X.w) X.A (f v u) Q X.xe J) X.xe z) X.xe s:=by
 refine thn (Y pins s σ H _ I h) λv s1 ⟨x,H1,I1,r1,q1⟩=>?_
 refine thn (Z pins s1 σ H1 _ I1 q1) λu U ⟨y,H2,I2,r2,q2⟩=>?_
 exact hf v u U x y H2 I2 r1 r2 q2
def vb(ho:OpR X (binaryOp op) r)(z:PE X a ta)(J:PE X b tb):PE X (.BinOp a op b pos) (tOp r ta tb):=by
 intro pins s σ H Q I h;exact wpAny_BinOp (DU z J I h λv u U x y H2 Y Z ry q=>ho pins U σ H2 x y v u Q Y Z ry q)
def opI{C:Int->Int->Prop}{g:Int->Int->Int}
  (rule:∀i j t u s Q E,C i j->Q (.int (g i j) s.toks) { s with toks:=s.toks+1 }->wpAny (model X.prog X.w) X.A (f (.int i t) (.int j u)) Q E s) :
  OpR X f (rI C λi j=>.int (g i j)):=by
 intro pins s σ H x y v u Q I z J h;obtain⟨i,j,rfl,rfl,hc,q⟩:=h;obtain⟨t,rfl⟩:=z;obtain⟨t',rfl⟩:=J;exact rule i j t t' s _ _ hc ⟨.int (g i j),H,I.tok _,⟨_,rfl⟩,q⟩
def GU{g:Int->Int->Int}
  (rule:∀i j t u s Q E,Q (.int (g i j) s.toks) { s with toks:=s.toks+1 }->wpAny (model X.prog X.w) X.A (f (.int i t) (.int j u)) Q E s) :
  OpR X f (rI0 λi j=>.int (g i j)):=by
 intro pins s σ H x y v u Q I z J h;obtain⟨i,j,rfl,rfl,q⟩:=h;obtain⟨t,rfl⟩:=z;obtain⟨t',rfl⟩:=J;exact rule i j t t' s _ _ ⟨.int _,H,I.tok _,⟨_,rfl⟩,q⟩
def Bj{g:Int->Int->Bool}
  (rule:∀i j t u s Q E,Q (.bool (g i j)) s->wpAny (model X.prog X.w) X.A (f (.int i t) (.int j u)) Q E s) :
  OpR X f (rI0 λi j=>.bl (g i j)):=by
 intro pins s σ H x y v u Q I z J h;obtain⟨i,j,rfl,rfl,q⟩:=h;obtain⟨t,rfl⟩:=z;obtain⟨t',rfl⟩:=J;exact rule i j t t' s _ _ ⟨.bl _,H,I,rfl,q⟩
def Jj(i j:Int):Prop:=0<j/\j<1073741824
def Jk(i j:Int):Prop:=0<=j/\j<=1000000/\i.natAbs<2 ^ 64
def DV(i j:Int):Prop:=(-(2 ^ 64)<i/\i<2 ^ 64)\/(-(2 ^ 64)<j/\j<2 ^ 64)
theorem DV.ok(h:DV i j):IntMulOk i j:=by
 rcases h with⟨h1,h2⟩|⟨h1,h2⟩
 .exact .of_left (intBits_le_64 h1 h2)
 .exact .of_right (intBits_le_64 h1 h2)
def tV(k):(0:Int)<=2 ^ k:=
  Int.natCast_nonneg _
def DW:OpR X (binaryOp .Add) (rI0 λi j=>.int (i+j)):=GU λ_ _ _ _ _ _ _ q=>add_int q
def DX:OpR X (binaryOp .Sub) (rI0 λi j=>.int (i-j)):=GU λ_ _ _ _ _ _ _ q=>sub_int q
def DY:OpR X (binaryOp .Mult) (rI DV λi j=>.int (i*j)):=opI λ_ _ _ _ _ _ _ hc q=>mul_int q hc.ok
def Bk:OpR X (binaryOp .FloorDiv) (rI Jj λi j=>.int (i / j)):=opI λi j _ _ _ _ _ hc q=>by
 have h1:=hc.1;have h2:=hc.2;exact floordiv_int (by omega) (by rw[MZ i (by omega)];exact q) (.inl (PyProof.noPylong_small (by omega)))
def DZ:OpR X (binaryOp .Mod) (rI (λ_ j=>0<j) λi j=>.int (i % j)):=opI λi j _ _ _ _ _ hc q=>by
 exact mod_int' (by omega) (by rw[Int.fmod_eq_emod_of_nonneg i (by omega)];exact q)
def D0:OpR X (binaryOp .Pow) (rI Jk λi j=>.int (i ^ j.toNat)):=opI λ_ _ _ _ _ _ _ hc q=>pow_int_small hc.1 hc.2.1 hc.2.2 q
def D1:OpR X (binaryOp .RShift) (rI (λ_ j=>0<=j) λi j=>.int (i / 2 ^ j.toNat)):=opI λi j _ _ _ _ _ hc q =>
 rshift_int hc (by rw[MZ i (tV _)];exact q)
end
noncomputable def scal:V->V->Bool
 | .non,.non=>true|.non,.int _=>true|.int _,.non=>true|.non,.bl _=>true|.bl _,.non=>true|.non,.str _=>true|.str _,.non=>true
 | .int _,.int _=>true|.bl _,.bl _=>true|.str _,.str _=>true|.byt _,.byt _=>true
 | .int _,.str _=>true|.str _,.int _=>true|.bl _,.str _=>true|.str _,.bl _=>true
 | _,_=>false
noncomputable def rNe:R2:=λx y H Q=>scal x y=true/\Q (.bl (!decide (x=y))) H
def vc :decide (V.int i=V.int j)=(i==j):=by
 rw[Kv];simp
def xY :decide (V.bl i=V.bl j)=(i==j):=by
 rw[Kv];simp
def vd :decide (V.str i=V.str j)=(i==j):=by
 rw[Kv];simp
def Bl :decide (V.byt i=V.byt j)=(i.toList==j.toList):=by
 rw[Kv];cases i;cases j;simp
section
variable{X:Cx}{a b c:Expr}{ta tb tc:TE}{pos:Pos}
def cf{σ:St}{H:Hp}{s:Shared}{Q:VK}{k z:Bool}(I:Inv X pins σ H s)(q:Q (.bl k) H)(e:k=z):EP X pins σ Q (.bool z) s:=by
 subst e;exact⟨.bl k,H,I,rfl,q⟩
def GV:OpR X (compareOp .NotEq) rNe:=by
 intro pins s σ H x y v u Q I J z h;obtain⟨hs,q⟩:=h;cases x with
 |non =>
  cases J;cases y with
  |non=>cases z;exact PySem.EqNone.ne_none_none (cf I q (by simp))
  |bl j=>cases z;exact PySem.EqNone.ne_none_bool (cf I q (by simp))
  |int j=>obtain⟨t',rfl⟩:=z;exact PySem.EqNone.ne_none_int (cf I q (by simp))
  |str j=>obtain⟨t',rfl⟩:=z;exact PySem.EqNone.ne_none_str (cf I q (by simp))
  | _=>exact absurd (show false=true from hs) oe
 |bl i =>
  cases J;cases y with
  |non=>cases z;exact PySem.EqNone.ne_bool_none (cf I q (by simp))
  |bl j=>cases z;exact ne_bool (cf I q (Kf not xY))
  |str j=>obtain⟨t',rfl⟩:=z;exact PySem.EqMixed.ne_bool_str (cf I q (by simp))
  | _=>exact absurd (show false=true from hs) oe
 |int i =>
  obtain⟨t,rfl⟩:=J;cases y with
  |non=>cases z;exact PySem.EqNone.ne_int_none (cf I q (by simp))
  |int j=>obtain⟨t',rfl⟩:=z;exact ne_int (cf I q (Kf not vc))
  |str j=>obtain⟨t',rfl⟩:=z;exact PySem.EqMixed.ne_int_str (cf I q (by simp))
  | _=>exact absurd (show false=true from hs) oe
 |str i =>
  obtain⟨t,rfl⟩:=J;cases y with
  |non=>cases z;exact PySem.EqNone.ne_str_none (cf I q (by simp))
  |bl j=>cases z;exact PySem.EqMixed.ne_str_bool (cf I q (by simp))
  |int j=>obtain⟨t',rfl⟩:=z;exact PySem.EqMixed.ne_str_int (cf I q (by simp))
  |str j=>obtain⟨t',rfl⟩:=z;exact ne_str (cf I q (Kf not vd))
  | _=>exact absurd (show false=true from hs) oe
 |byt i =>
  obtain⟨t,rfl⟩:=J;cases y with
  |byt j=>obtain⟨t',rfl⟩:=z;exact PySem.W.ne_bytes (cf I q (Kf not Bl))
  | _=>exact absurd (show false=true from hs) oe
 | _=>cases y<;>exact absurd (show false=true from hs) oe
def GW:OpR X (compareOp .Lt) (rI0 λi j=>.bl (decide (i<j))):=Bj λ_ _ _ _ _ _ _ q=>lt_int q
def GX:OpR X (compareOp .LtE) (rI0 λi j=>.bl (decide (i<=j))):=Bj λ_ _ _ _ _ _ _ q=>le_int q
def GY:OpR X (compareOp .Gt) (rI0 λi j=>.bl (decide (j<i))):=Bj λ_ _ _ _ _ _ _ q=>gt_int q
def GZ:OpR X (compareOp .GtE) (rI0 λi j=>.bl (decide (j<=i))):=Bj λ_ _ _ _ _ _ _ q=>ge_int q
def D3:OpR X (compareOp .Is) (λx y H Q=>y=.non/\Q (.bl (decide (x=.non))) H):=by
 intro pins s σ H x y v u Q I z J h;obtain⟨rfl,q⟩:=h;cases J;refine is_none_gen (cf I q ?_);cases x<;>first
  | (cases z;rfl)
  | (obtain⟨t,rfl⟩:=z;rfl)
def Bm:OpR X (compareOp .IsNot) (λx y H Q=>y=.non/\Q (.bl (!decide (x=.non))) H):=by
 intro pins s σ H x y v u Q I z J h;obtain⟨rfl,q⟩:=h;cases J;refine isnot_none_gen (cf I q ?_);cases x<;>first
  | (cases z;rfl)
  | (obtain⟨t,rfl⟩:=z;rfl)
def Bn(ho:OpR X (compareOp op) r)(z:PE X a ta)(J:PE X b tb)(U:behindInMarks op b=false):PE X (.Compare a [op] [b] pos) (tOp r ta tb):=by
 intro pins s σ H Q I h;exact wpAny_Compare1 (DU z J I h λv u Y x y H2 Z rx ry q=>ho pins Y σ H2 x y v u Q Z rx ry q) U
noncomputable def G0(t:TE):TT:=λσ H Q=>t σ H λx H'=>∃k,x=.bl k/\Q k H'
def Bo(ho:OpR X (compareOp op) r)(J:PE X a ta)(U:PE X b tb)(Y:behindInMarks op b=false):PT X (.Compare a [op] [b] pos) (G0 (tOp r ta tb)):=by
 intro pins s σ H Q I h;refine wpAny_isTrue_Compare1 (thn (J pins s σ H _ I h) λv Z ⟨x,H1,I1,r1,q1⟩=>thn (U pins Z σ H1 _ I1 q1) λu s2 ⟨y,H2,I2,r2,q2⟩ =>
  thn (ho pins s2 σ H2 x y v u _ I2 r1 r2 q2) λc s3 ⟨z,H3,I3,r3,k,e,q3⟩=>?_) Y
 subst e;cases r3;exact K1 ⟨H3,I3,q3⟩
def mF:(sizeLine:Nat)<2 ^ 63:=by simp_all [Kp]
def tY:OpR X (binaryOp .Add) (λx y H Q=>∃i j,x=.str i/\y=.str j/\i.length+j.length<=sizeLine/\Q (.str (i++j)) H):=by
 intro pins s σ H x y v u Q I z J h;obtain⟨i,j,rfl,rfl,hz,q⟩:=h;obtain⟨t,rfl⟩:=z;obtain⟨t',rfl⟩:=J;exact add_str (λt' tk=>⟨.str _,H,I.tok _,⟨_,rfl⟩,q⟩) hz
def d8(r:aL [x] us):∃u,us=[u]/\aI x u:=by
 cases r with
 |cons z J=>cases J;exact⟨_,rfl,z⟩
def G1(r:aL [x,y] us):∃u z,us=[u,z]/\aI x u/\aI y z:=by
 cases r with
 |cons J U =>
  cases U with
  |cons Y Z=>cases Z;exact⟨_,_,rfl,J,Y⟩
def o4:bU X (.type "int") (λxs H Q=>(∃i,xs=[.int i]/\Q (.int i) H)\/∃k,xs=[.bl k]/\Q (.int (if k then 1 else 0)) H):=by
 intro pins s σ H xs us Q I r h;rcases h with⟨i,rfl,q⟩|⟨k,rfl,q⟩
 .obtain⟨u,rfl,t,rfl⟩:=d8 r;exact call_int_int ⟨.int i,H,I,⟨_,rfl⟩,q⟩
 .obtain⟨u,rfl,z⟩:=d8 r;cases z;exact call_int_bool ⟨.int _,H,I.tok _,⟨_,rfl⟩,q⟩
end
section
variable{prog:Program}{w:World}{A:Around}{E:Value->Shared->Prop}{s:Shared}{K:Np}{x dx C f:Addr}{mA:Str->Option Value}{name:Str}{v:Value}
end
def lW.some_of(r:lW (some v) o):∃u,o=some u/\aI v u:=by
 cases o with
 |none=>exact(show False from r).elim
 |some u=>exact⟨u,rfl,r⟩
section
variable{P:Program}{w:World}{H H':Hp}{h h':Heap}{a C dx:Addr}{fs fs':List (Str×V)}
end
section
variable{X:Cx}{pins:List (Addr×Obj)}{σ:St}{H:Hp}{s:Shared}{a C dx:Addr}{fs:List (Str×V)}{f:Str}{v:V}{A:Around}{E:Value->Shared->Prop}
end
section
variable{X:Cx}{o e value:Expr}{f:Str}{pos pos' tpos:Pos}{ta tv:TE}
end
section
variable{X:Cx}{pins:List (Addr×Obj)}{σ:St}{H:Hp}{s:Shared}{A:Around}{E:Value->Shared->Prop}{Q:Value->Shared->Prop}{c:Value}{b:Bool}
end
structure kM(k:Nat)(A:Around):Prop where
 hd:A.handled=none
 dp:A.depth+3*k+5<recursionLimit
 un:A.units+16*k+200<cLine
theorem kM.deeper(r:kM (k+1) A)(env):kM k (A.deeper env):=
 ⟨r.hd,by have:=r.dp;show A.depth+1+3*k+5<_;omega,by have:=r.un;show A.units+3+16*k+200<_;omega⟩
theorem kM.depth(r:kM k A):A.depth<recursionLimit:=by have:=r.dp;omega
noncomputable def G2:TA:=λ_ H Q=>Q [] H
noncomputable def G3(ta:TE)(z:TA):TA:=λσ H Q=>ta σ H λx H1=>z σ H1 λxs H2=>Q (x::xs) H2
section
variable{X:Cx}{e:Expr}{es:List Expr}{te:TE}{t:TA}{pos:Pos}
def bF:PA X [] G2:=λ_ _ _ _ H Q I h=>M4 ⟨[],H,I,.nil,h⟩
def aN(z:PE X e te)(J:PA X es t)(hs:starEach (e::es) X.env=(false,eval e X.env)::starEach es X.env:=by rfl):PA X (e::es) (G3 te t):=by
 intro pos pins s σ H Q I h;rw[hs];show wpAny _ _ (spliced ((false,eval e X.env)::backTo pos _)) _ _ s;refine Md (thn (z pins s σ H _ I h) λu U ⟨x,H1,Y,Z,q1⟩=>?_);exact thn (J pos pins U σ H1 _ Y q1) λus s2 ⟨xs,H2,I2,r2,q2⟩=>⟨x::xs,H2,I2,.cons Z r2,q2⟩
noncomputable def Jl(t:TA):TE:=λσ H Q=>t σ H λxs H1=>xs.length<=sizeLine/\∀p,H1 p=none->Q (.ref p) (upd H1 p (.tup xs))
noncomputable def Jm(t:TA):TE:=λσ H Q=>t σ H λxs H1=>xs.length<=sizeLine/\∀p,H1 p=none->Q (.ref p) (upd H1 p (.lst xs))
def tZ{Y}(h:PA X es t):PE X (.Tuple es Y pos) (Jl t):=by
 intro pins s σ H Q I Z;refine wpAny_Tuple_spliced (thn (h pos pins s σ H _ I Z) λus J ⟨xs,H1,U,r,z,q⟩=>⟨by rw[<- r.length];exact z,?_⟩);have hf:=U.hok.fresh (pb _);refine⟨.ref J.heap.objs.size,upd H1 J.heap.objs.size _,U.laid (λb u e=>g4 _ e) (pb _) ?_,rfl,q _ hf⟩;exact⟨z,us,r,⟨_,uw _ rfl,rfl,_,rfl⟩⟩
def t4(h:PA X es t):PE X (.List es pos) (Jm t):=by
 intro pins s σ H Q I Y;refine wpAny_List_spliced (thn (h pos pins s σ H _ I Y) λus J ⟨xs,H1,U,r,z,q⟩=>⟨by rw[<- r.length];exact z,?_⟩);have Z:=U.hok.fresh (pb _);refine⟨.ref J.heap.objs.size,upd H1 J.heap.objs.size _,U.laid (λb u e=>g4 _ e) (pb _) ?_,rfl,q _ Z⟩;exact⟨z,us,0,r,uw _ rfl⟩
end
noncomputable abbrev Sp:=List V->Hp->VK->XK->Prop
noncomputable abbrev CXT:=List Env->Hp->Shared->XK->Value->Shared->Prop
structure Bp(P:Program)(w:World)(K:Np)(mg:Str->Option Value)(base:Heap)(A:Around)(outer:List Env)(s:Shared)(H:Hp):Prop where
 frames:A.frames=some outer
 mod:Mod K mg base
 bs:∀b o,base.get? b=some o->s.heap.get? b=some o/\H b=none
 bsz:base.objs.size<=s.heap.objs.size
 funs:s.heap.FunFrames base outer
 frf:∀b∈frs outer,H b=none
 hok:HOk P w H s.heap
 bare:AllBare s.gens
def CE(outer:List Env)(P:Program)(w:World)(H:Hp)(s:Shared)(Q:VK)(u:Value)(s':Shared):Prop:=
 ∃v H',s'.os=s.os/\AllBare s'.gens/\Un (frs outer) [] H H' s.heap s'.heap/\HOk P w H' s'.heap/\aI v u/\Q v H'
def CR(CX:CXT)(outer:List Env)(P:Program)(w:World)(H:Hp)(s:Shared)(Q:VK)(E:XK)(r:Result)(s':Shared):Prop:=
 match r with
 | .ok (.ret u)=>CE outer P w H s Q u s'
 | .ok _=>False
 | .error e=>CX outer H s E e s'
structure jC(P:Program)(w:World)(K:Np)(mg:Str->Option Value)(base:Heap)(CX:CXT)(k:Nat)(f:Addr)(fd:FuncData)(ps:List Str)(sp:Sp):Prop where
 len:∀vs H Q E,sp vs H Q E->vs.length=ps.length
 run:∀(A:Around) (outer:List Env) (s:Shared) (H:Hp) (args:Args) (us:List Value) (vs:List V) (Q:VK) (E:XK),kM k A->Bp P w K mg base A outer s H->BindsTo s fd args (ps.zip us)->aL vs us->sp vs H Q E ->
  codeAny (model P w) A (.call (.ref f) args) (CR CX outer P w H s Q E) s
section
variable{X:Cx}{pins:List (Addr×Obj)}{σ:St}{H:Hp}{s s':Shared}
theorem Inv.env0(I:Inv X pins σ H s):Bp X.prog X.w X.K X.mg X.base X.A X.stack s H:=
 ⟨I.ok.frames,I.ok.mod,I.bs,wh I.ok.bsz I.sz,I.stack,I.stkFree,I.hok,I.bare⟩
def Inv.after(I:Inv X pins σ H s)(h:CE X.stack X.prog X.w H s Q u s'):EP X pins σ Q u s':=by
 obtain⟨v,H',os,bare,un,hok,r,q⟩:=h;obtain⟨U,g,d,t,J⟩:=s';obtain rfl:J=s.os:=os;exact⟨v,H',I.call un hok bare (λb z=>absurd z (by simp)),r,q⟩
end
noncomputable def xZ(sp:Sp)(dvs:List V)(E:XK)(t:TA):TE:=λσ H Q=>t σ H λvs H1=>sp (vs++dvs) H1 Q E
def dh(K:Np)(fd:FuncData)(ps:List Str)(ds:List Value):Prop:=
 ∀s us,K.In s.heap->(us++ds).length=ps.length->BindsTo s fd ⟨us,[]⟩ (ps.zip (us++ds))
theorem dh.all{K:Np}(h:∀us,us.length=ps.length->bindArgs fd ⟨us,[]⟩=pure (ps.zip us)):dh K fd ps []:=λs us _ z=>by
 rw[La]at z ⊢;exact .of_eq (h us z)
def p_(CX:CXT)(X:Cx)(E:XK):Prop:=∀pins (σ:St) H s e s',Inv X pins σ H s->CX X.stack H s E e s'->X.xe e s'
section
variable{X:Cx}{CX:CXT}{k:Nat}{f C:Addr}{fd:FuncData}{ps:List Str}{sp:Sp}{dvs:List V}{ds:List Value}{E:XK}{x m:Str}{p pos apos:Pos}{e o:Expr}{es:List Expr}{ta:TE}{t:TA}
def x0(F:jC X.prog X.w X.K X.mg X.base CX k f fd ps sp)(U:kM k X.A)(Y:dh X.K fd ps ds)(hd:aL dvs ds)(hx:p_ CX X E)
  (I:Inv X pins σ H s) (r:aL vs us) (h:sp (vs++dvs) H Q E):wpAny (model X.prog X.w) X.A (call (.ref f) us) (EP X pins σ Q) X.xe s:=by
 have J:=r.append hd;have Z:(us++ds).length=ps.length:=by rw[<- J.length];exact F.len _ _ _ _ h
 refine wpAny_call (LU (F.run X.A X.stack s H ⟨us,[]⟩ (us++ds) (vs++dvs) Q E U I.env0 (Y s us I.kIn Z) J h) λr s' z=>?_);cases r with
 |error e=>exact hx pins σ H s e s' I z
 |ok fl =>
  cases fl with
  |ret u=>exact I.after z
  |next=>exact False.elim z
  |brk=>exact False.elim z
  |cont=>exact False.elim z
def l7(F:jC X.prog X.w X.K X.mg X.base CX k f fd ps sp)(Y:kM k X.A)(Z:Gl X x)(hm:X.mg x=some (.ref f))(hk:PySem.W.keepIn X.K (.ref f)=true)(hb:dh X.K fd ps ds)(hd:aL dvs ds)(hx:p_ CX X E)
  (ha:PA X (e::es) t) (z:(x==("__debug__":Str))=false:=by decide) (he:starEach (e::es) X.env=(false,eval e X.env)::starEach es X.env:=by rfl) (J:(backTo pos (starEach es X.env)).any (·.1)=false:=by rfl) :
  PE X (.Call (.Name x p) (e::es) [] pos) (xZ sp dvs E t):=by
 intro pins s σ H Q I h;refine Li (p7 I Z hm ?_ z);refine PySem.W.callWith_K I.ok.mod.kin hk (thn (ha pos pins s σ H _ I h) λus s1 ⟨vs,H1,U,r,q⟩=>⟨U.kIn,?_⟩) he J;exact x0 F Y hb hd hx U r q
def x9(F:jC X.prog X.w X.K X.mg X.base CX k f fd ps sp)(J:kM k X.A)(U:Gl X x)(Y:X.mg x=some (.ref f))(Z:PySem.W.keepIn X.K (.ref f)=true)(hb:dh X.K fd ps ds)(hd:aL dvs ds)(hx:p_ CX X E)
  (z:(x==("__debug__":Str))=false:=by decide):PE X (.Call (.Name x p) [] [] pos) (xZ sp dvs E G2):=by
 intro pins s σ H Q I h;refine Li (p7 I U Y ?_ z);exact PySem.W.callWith_K0 I.kIn Z (x0 (us:=[]) F J hb hd hx I .nil h)
end
section
variable{X:Cx}{CX:CXT}{k:Nat}{f C:Addr}{fd:FuncData}{ps ks:List Str}{sp:Sp}{E:XK}{x m:Str}{p pos apos kpos:Pos}{e o:Expr}{es:List Expr}{kws:List Keyword}{te ta:TE}{t tk:TA}{nm:Option Str}
variable{g:List Value->List Value->List Value}{gV:List V->List V->List V}
end
structure qa(N P:List Str)(sc:Scope):Prop where
 kind:sc.kind=.function
 co:sc.isCoroutine=false
 gen:sc.isGenerator=false
 nd:N.Nodup
 pre:N.take P.length=P
 par:∀x∈P,sc.names.lookup x=some .local\/sc.names.lookup x=some .cell
 nofree:∀y∈sc.names,y.2≠.free
theorem o5{kindOf:Str->Option NameKind} :∀{binds}{m},(∀v,(x,v)∉binds)->bindL kindOf binds m x=m x
 | [],_,_=>rfl
 | (n,v)::r,m,h=>by
  unfold bindL;rw[o5 λw hw=>h w (KD _ hw)];split
  .have:x≠n:=by rintro rfl;exact h v KZ
   simp[this]
  .rfl
theorem o6{kindOf:Str->Option NameKind} :∀{binds}{m},(∀v,(x,v)∉binds)->bindC kindOf binds m x=m x
 | [],_,_=>rfl
 | (n,v)::r,m,h=>by
  unfold bindC;rw[o6 λw hw=>h w (KD _ hw)];split
  .rfl
  .have:x≠n:=by rintro rfl;exact h v KZ
   simp[this]
theorem o7{kindOf:Str->Option NameKind}{x:Str}{v:Value}:∀{P:List Str}{vs}{i:Nat}{m},P.Nodup->P[i]?=some x->vs[i]?=some v->kindOf x=some .local ->
  bindL kindOf (P.zip vs) m x=some v
 | [],_,_,_,_,h,_,_=>by simp at h
 | _::_,[],_,_,_,_,h,_=>by simp at h
 |p::P,w::vs,0,m,nd,h1,h2,z=>by
  simp at h1 h2;subst h1;subst h2
  show bindL kindOf ((p,w)::P.zip vs) m p=_;unfold bindL;rw[o5 λv hv=>(Ky.mp nd).1 (of_mem_zip hv).1,if_pos z];simp
 |p::P,w::vs,i+1,m,nd,h1,h2,z=>by
  show bindL kindOf ((p,w)::P.zip vs) m x=_;exact o7 (i:=i) (Ky.mp nd).2 (by simpa using h1) (by simpa using h2) z
theorem o8{kindOf:Str->Option NameKind}{x:Str}{v:Value}:∀{P:List Str}{vs}{i:Nat}{m},P.Nodup->P[i]?=some x->vs[i]?=some v->kindOf x≠some .local ->
  bindC kindOf (P.zip vs) m x=some v
 | [],_,_,_,_,h,_,_=>by simp at h
 | _::_,[],_,_,_,_,h,_=>by simp at h
 |p::P,w::vs,0,m,nd,h1,h2,z=>by
  simp at h1 h2;subst h1;subst h2
  show bindC kindOf ((p,w)::P.zip vs) m p=_;unfold bindC;rw[o6 λv hv=>(Ky.mp nd).1 (of_mem_zip hv).1,if_neg z];simp
 |p::P,w::vs,i+1,m,nd,h1,h2,z=>by
  show bindC kindOf ((p,w)::P.zip vs) m x=_;exact o8 (i:=i) (Ky.mp nd).2 (by simpa using h1) (by simpa using h2) z
noncomputable def eJ(N:List Str)(vs:List V):St:=vs.map some++replicate (N.length-vs.length) none
noncomputable def rq(CX:CXT)(P:Program)(w:World)(K:Np)(mg:Str->Option Value)(base:Heap)(N:List Str)(qual:Str)(scope:Scope)(f:Addr)(J:Value)(A:Around)(outer:List Env)(s:Shared)(H:Hp)(E:XK):Cx where
 prog:=P
 w:=w
 K:=K
 mg:=mg
 base:=base
 A:=A.deeper (envOfC qual scope s.heap.objs.size f J)
 N:=N
 s₀:=s
 H₀:=H
 env:=envOfC qual scope s.heap.objs.size f J
 outer:=outer
 stack:=envOfC qual scope s.heap.objs.size f J::outer
 ex:=[]
 calm:=true
 fn:=λ_=>true
 pn:=[]
 xe:=λe s'=>wpAny (model P w) (A.deeper (envOfC qual scope s.heap.objs.size f J)) (leaving (envOfC qual scope s.heap.objs.size f J) e) (λ_ z=>CX outer H s E e z) (λU z=>CX outer H s E U z) s'
def rA{sc:Scope}(h:sc.names.lookup x=some .cell):∃c,(cellsFrom n sc.names []).lookup x=some c:=by
 have q:=PySem.W.cellsFrom_some sc.names n [] (.inl h);exact isSome_iff_exists.mp q
def wF{K:Np} 
  (S:qa N ps scope) (hd:A.handled=none) (J:Bp P w K mg base A outer s H) (hl:vs.length=ps.length) (r:aL vs us)
  (x:InCallC s s.heap.objs.size (bindL (envOfC qual scope s.heap.objs.size f cd).kindOf (ps.zip us) λ_=>none) (cellsFrom (s.heap.objs.size+1) scope.names []) (bindC (envOfC qual scope s.heap.objs.size f cd).kindOf (ps.zip us) λ_=>none) s1) :
  Inv (rq CX P w K mg base N qual scope f cd A outer s H E) [] (eJ N vs) H s1:=by
 have a1:ps.length<=N.length:=by have:=Kf List.length S.pre;rw[Nk]at this;omega
 obtain⟨h1,tk,rfl,hk⟩:=x.done;have U:∀b,b∉(rq CX P w K mg base N qual scope f cd A outer s H E).ex:=λb z=>absurd (show b∈([]:List Addr)from z) (by simp)
 refine⟨⟨J.mod,S.kind,rfl,rfl,pb _,λy z c h1 h2=>?_,λy Y=>?_,λy c _ h=>?_,λ_=>hd,Around.frames_deeper J.frames,.inr ⟨rfl,rfl⟩,λb z=>absurd z (U b),J.bs,J.bsz,λb _ _=>U b,λb z=>absurd z (U b),J.funs,J.frf⟩,
  rfl,J.bare,Un.kept hk,⟨_,x.toInCall.ns,λi y v h1 h2 h3=>?_⟩,λy c h=>⟨_,x.cell y c h⟩,J.hok.fresh (pb _),λy c h=>?_,λp Z=>absurd (show p∈([]:List (Addr×Obj))from Z) (by simp),J.hok.kept hk,?_⟩
 .exact name_of_addr x.apart (PySem.mem_of_lookup h1) (PySem.mem_of_lookup h2)
 .have Y:=Y;rcases Y with Y|Y
  .exact rA Y
  .exact absurd rfl (S.nofree _ (PySem.mem_of_lookup Y))
 .exact K9 (x.above y c (PySem.mem_of_lookup h))
 .have hi:i<vs.length:=by
   unfold eJ at h2;by_cases hi:i<vs.length
   .exact hi
   .rw[Lo (by simpa using hi)]at h2;rw[Me]at h2;split at h2<;>cases h2
  have ha:vs[i]?=some v:=by
   unfold eJ at h2;rw[K0 (by simpa using hi),J9]at h2;cases e:vs[i]?<;>simp_all
  obtain⟨u,hu,rv⟩:=r.get ha;have Z:ps[i]?=some y:=by
   rw[<- S.pre,getElem?_take_of_lt (by omega)];exact h1
  have ao:ps.Nodup:=by rw[<- S.pre];exact S.nd.sublist (take_sublist _ _)
  refine⟨u,rv,?_⟩;rcases S.par y (L8 Z)with k|k
  .exact .inl ⟨k,o7 ao Z hu k⟩
  .obtain⟨c,e⟩:=rA (n:=s.heap.objs.size+1) k;refine .inr ⟨.inl k,c,e,?_⟩;have q:=x.cell y c e;rw[o8 ao Z hu (by show scope.names.lookup y≠_;rw[k];decide)]at q;exact q
 .exact J.hok.fresh (K9 (x.above y c (PySem.mem_of_lookup h)))
 .unfold eJ;show _=N.length;rw[tr,pd,length_replicate];omega
def x_{K:Np}{dV kV Z pm z ct oc:Value} 
  (lk:K.lookup f=some ⟨oc,od,.func (PySem.W.fnOf name qual params body scope dV kV Z pm an z ct),a8⟩) (a0:PySem.W.codeIn K z qual=true) (S:qa N ps scope)
  (len:∀vs H Q E,sp vs H Q E->vs.length=ps.length)
  (U:∀A outer s H vs Q E,kM k (A.deeper (envOfC qual scope s.heap.objs.size f z))->sp vs H Q E ->
   ∃t,PSs (rq CX P w K mg base N qual scope f z A outer s H E) body t/\t { nx:=λ_ H'=>Q .non H',rt:=Q } (eJ N vs) H) :
  jC P w K mg base CX (k+1) f (PySem.W.fnOf name qual params body scope dV kV Z pm an z ct) ps sp:=by
 refine⟨len,λA outer s H args us vs Q E hr e0 hb r aO=>?_⟩;have hl:=len _ _ _ _ aO;have KX:=e0.mod.kin.keeps λb o e=>(e0.bs b o e).1
 have a2:=e0.mod.nolimit.keeps λb o e=>(e0.bs b o e).1
 have Y:∀y∈ps.zip us,scope.names.lookup y.1=some .local\/(scope.names.lookup y.1=some .cell/\((cellsFrom (s.heap.objs.size+1) scope.names []).lookup y.1).isSome=true):=λ⟨n,v⟩ hy=>by
  rcases S.par n (of_mem_zip hy).1 with q|q
  .exact .inl q
  .exact .inr ⟨q,PySem.W.cellsFrom_some _ _ _ (.inl q)⟩
 refine codeAny_call_function hr.depth (KX _ _ lk) rfl S.co S.gen rfl (PySem.W.codeRec_of KX a0) (hb _ _ _ _ ?_);refine wpAny_newFunctionEnv_cells S.kind Y λenv he s1 x=>?_
 subst he;refine⟨a2.keeps x.toInCall.keep,codeAny_func ?_⟩;obtain⟨t,ht,hq⟩:=U A outer s H vs Q E (hr.deeper _) aO;have I:Inv (rq CX P w K mg base N qual scope f z A outer s H E) [] _ H s1:=wF S hr.hd e0 hl r x;refine Ko (ht [] s1 _ H _ I hq) (λfl s' hs=>?_) λe s' hs=>hs
 have fin:∀{F}{H'}{v}{u},Inv (rq CX P w K mg base N qual scope f z A outer s H E) [] F H' s'->aI v u->Q v H'->CE outer P w H s Q u s':=
  λ{F H' v u} J rv q=>⟨v,H',J.os,J.bare,J.base,J.hok,rv,q⟩
 cases fl with
 |next =>
  obtain⟨F,H',J,q⟩:=hs;exact fin (v:=V.non) J rfl q
 |ret u =>
  obtain⟨v,F,H',J,rv,q⟩:=hs;exact fin J rv q
 | _ =>
  obtain⟨_,_,_,q⟩:=hs;exact False.elim q
section
variable{X:Cx}{x:Str}{p pos:Pos}{e:Expr}{es:List Expr}{t:TA}{id T:String}{r:List V->Hp->VK->Prop}
noncomputable def tCB(r:List V->Hp->VK->Prop)(t:TA):TE:=λσ H Q=>t σ H λvs H1=>r vs H1 Q
def eZ (hc:bU X (.builtin id) r) (U:Gl X x) (Y:X.mg x=none) (hv:bootBuiltins x=some (.builtin id)) (Z:PA X (e::es) t) (hn:x ≠ "__name__":=by decide) (z:(x==("__debug__":Str))=false:=by decide)
  (he:starEach (e::es) X.env=(false,eval e X.env)::starEach es X.env:=by rfl) (J:(backTo pos (starEach es X.env)).any (·.1)=false:=by rfl):PE X (.Call (.Name x p) (e::es) [] pos) (tCB r t):=by
 intro pins s σ H Q I h;refine Li (iH I U Y hv ?_ hn z);exact PyProof.Rows.callWith_builtin1 (thn (Z pos pins s σ H _ I h) λus s1 ⟨vs,H1,I1,r1,q1⟩=>hc pins s1 σ H1 vs us Q I1 r1 q1) he J
def di (hc:bU X (.type T) r) (U:Gl X x) (Y:X.mg x=none) (hv:bootBuiltins x=some (.type T)) (Z:PA X (e::es) t) (hn:x ≠ "__name__":=by decide) (z:(x==("__debug__":Str))=false:=by decide)
  (he:starEach (e::es) X.env=(false,eval e X.env)::starEach es X.env:=by rfl) (J:(backTo pos (starEach es X.env)).any (·.1)=false:=by rfl):PE X (.Call (.Name x p) (e::es) [] pos) (tCB r t):=by
 intro pins s σ H Q I h;refine Li (iH I U Y hv ?_ hn z);exact KG (thn (Z pos pins s σ H _ I h) λus s1 ⟨vs,H1,I1,r1,q1⟩=>hc pins s1 σ H1 vs us Q I1 r1 q1) he J
end
end L2
namespace HT
open PySem PyProof.Rows List Option
noncomputable def lexLt:List Int->List Int->Bool
 | [],[]=>false
 | [],_::_=>true
 | _::_,[]=>false
 |x::xs,y::ys=>if x=y then lexLt xs ys else decide (x<y)
def lexLt_cons(x y)(xs ys):lexLt (x::xs) (y::ys)=if x=y then lexLt xs ys else decide (x<y):=rfl
def oG:lexLt [] []=false:=rfl
def mG(y)(ys):lexLt [] (y::ys)=true:=rfl
def mH(x)(xs):lexLt (x::xs) []=false:=rfl
def ya(A)(s)(a)(t)(c)(u):∃e,SeqAt.EqAt A s (.int a t) (.int c u) e/\(e=true ↔ a=c):=
 ⟨(a==c),SeqAt.EqAt.int_int a t c u,by simp⟩
def yb(A)(s)(a)(t)(c)(u)(prog)(w)(E)(Q)(h:Q (.bool (decide (a<c))) s) :
  wpAny (model prog w) A (richCompare .Lt (.int a t) (.int c u)) Q E s:=
 (PyProof.Rows.lt_int h:wpAny (model prog w) A (compareOp .Lt (.int a t) (.int c u)) Q E s)
section
open PySem.SeqAt List Option
open PySem.AutoSeq1 (wpAny_loadPart')
open PySem.MeetsSeq PySem.MeetsSeq2 PySem.MeetsSeq3 List Option
def tuple_lt_ints(l b)(items z)(n n2)(dd a7)(sl a8)(ns ms)(hi:IntsAre items.toList ns)(hj:IntsAre z.toList ms) :
  Meets (Builtin.«tuple.__lt__» ⟨[.ref l,.ref b],[]⟩)
   (λ_ R s=>s.heap.get? l=some { cls:=.type "tuple",dict:=dd,data:=.seq items n,slots:=sl }/\s.heap.get? b=some { cls:=.type "tuple",dict:=a7,data:=.seq z n2,slots:=a8 } /\
    R (.ok (.ret (.bool (lexLt ns ms)))) s):=
 .of_wp λprog w A R s h=>by
  obtain⟨hp,g,d,tk,os⟩:=s;obtain⟨hl,hb,h⟩:=h
  have f2:=Mf;have z1:items.size=ns.length:=by rw[<- hi.length];simp
  have z2:z.size=ms.length:=by rw[<- hj.length];simp
  wp_walk using wpAny_loadPart' hl,wpAny_loadPart' hb,wpAny_forIn_list _ (λbT b s'=>b.1=none/\s'=⟨hp,g,d,tk,os⟩/\∃vs ws U Y,bT=vs.zip ws /\
   IntsAre vs U/\IntsAre ws Y/\U.length+z.size=Y.length+items.size/\R (.ok (.ret (.bool (lexLt U Y)))) ⟨hp,g,d,tk,os⟩) _
  case turn =>
   rintro ⟨y,x⟩ bT b s' ⟨a0,rfl,vs,ws,U,Y,hz,a1,Z,J,hR⟩;cases a1 with
   |nil=>rw[zip_nil_left]at hz;cases hz
   |cons a t a3 =>
    cases Z with
    |nil=>rw[zip_nil_right]at hz;cases hz
    |cons c u a4 =>
     rw[zip_cons_cons]at hz;injection hz with a9 a2
     injection a9 with hy hx
     subst hy hx;rw[lexLt_cons]at hR;simp only[length_cons]at J;obtain⟨e,he,aO⟩:=ya A.in1 ⟨hp,g,d,tk,os⟩ a t c u;refine ez (he prog w _ _ ?_);cases e with
     |true =>
      rw[if_pos (aO.mp rfl)]at hR
      wp_walk
      exact⟨rfl,rfl,_,_,_,_,a2,a3,a4,by omega,hR⟩
     |false =>
      rw[if_neg (λq=>absurd (aO.mpr q) oe)]at hR;have ba:=yb A.in1 ⟨hp,g,d,tk,os⟩ a t c u prog w
      wp_walk using ba
      exact⟨_,rfl,by simpa using hR⟩
  case fin =>
   rintro ⟨b1,b2⟩ s' ⟨a0,rfl,vs,ws,U,Y,hz,a1,Z,J,hR⟩;simp only at a0;subst a0;have hv:lexLt U Y=decide (items.size<z.size):=by
    cases a1 with
    |nil =>
     cases Z with
     |nil =>
      simp only[length_nil]at J;rw[oG];exact(J5 (by omega)).symm
     |cons c u hw =>
      simp only[length_nil,length_cons]at J;rw[mG];exact(J1 (by omega)).symm
    |cons a t hv =>
     cases Z with
     |nil =>
      simp only[length_nil,length_cons]at J;rw[mH];exact(J5 (by omega)).symm
     |cons c u hw =>
      rw[zip_cons_cons]at hz;cases hz
   rw[hv]at hR
   wp_walk
   exact⟨_,rfl,by simpa[Builtin.Tuple.tupleCompareSizes]using hR⟩
  case h =>
   exact⟨rfl,rfl,items.toList,z.toList,ns,ms,rfl,hi,hj,by omega,h⟩
end
section
variable{prog:Program}{w:World}{A:Around}{E:Value->Shared->Prop}{s:Shared}
def lt_tupInts{items z:Array Value}{ns ms:List Int}{Q:Value->Shared->Prop}(hl:IsTup s.heap l items)(hb:IsTup s.heap b z)(hi:IntsAre items.toList ns)(hj:IntsAre z.toList ms)
  (hu:A.units<cLine) (h:Q (.bool (lexLt ns ms)) s):wpAny (model prog w) A (compareOp .Lt (.ref l) (.ref b)) Q E s:=by
 refine aE λZq kq=>?_
 obtain⟨⟨cls,dd,data,sl⟩,ho,hc,n,hd⟩:=id hl;obtain⟨⟨aO,Z,data2,ao⟩,J,U,n2,Y⟩:=id hb;simp only at hc hd U Y;subst hc hd U Y;refine kq ?_;exact LK (op:=.Lt) ⟨_,ho,rfl⟩ ⟨_,J,rfl⟩ PySem.F.slot_tuple_lt PySem.F.entry_tuple_lt (PySem.F.args_tuple_lt_2 _ _) (tuple_lt_ints l b items z n n2 dd Z sl ao ns ms hi hj)
  ⟨ho,J,show Value.bool _≠Value.notImplemented/\Q _ s from⟨(λx=>nomatch x),h⟩⟩ hu
def cat_tup(ht:IsTup s.heap t vs.toArray)(hb:IsTup s.heap b ws.toArray)(hv:vs≠[])
  (h1:ws=[]->Q (.ref t) s) (h2:ws≠[]->Q (.ref s.heap.objs.size) { s with heap:=s.heap.push { cls:=.type "tuple",data:=.seq (vs++ws).toArray } })
  (ao:vs.length+ws.length<=sizeLine):wpAny (model prog w) A (binaryOp .Add (.ref t) (.ref b)) Q E s:=by
 refine aE λZq kq=>?_
 obtain⟨⟨cls,dd,data,sl⟩,ho,hc,n,hd⟩:=id ht;obtain⟨⟨a0,J,data2,U⟩,z,Y,n2,Z⟩:=id hb;simp only at hc hd Y Z;subst hc hd Y Z;have e:vs.toArray++ws.toArray=(vs++ws).toArray:=by simp
 refine kq ?_;by_cases hw:ws=[]
 .exact M9 ⟨_,ho,rfl⟩ ⟨_,z,rfl⟩ Na seq_tuple_add PySem.F.slot_tuple_add PySem.F.entry_tuple_add (PySem.F.args_tuple_add_2 _ _)
   (tuple_addW1 t b vs.toArray ws.toArray n n2 dd J sl U (by simpa using hv) (by simp[hw])) ⟨ho,z,h1 hw⟩
 .refine M9 ⟨_,ho,rfl⟩ ⟨_,z,rfl⟩ Na seq_tuple_add PySem.F.slot_tuple_add PySem.F.entry_tuple_add (PySem.F.args_tuple_add_2 _ _)
   (tuple_addW2 t b vs.toArray ws.toArray n n2 dd J sl U (by simpa using hv) (by simpa using hw) (by rw[ro,ro];exact ao)) ⟨ho,z,?_⟩
  rw[e];exact h2 hw
noncomputable def sIx(n d:Nat):Option Int->Nat
 |none=>d
 |some v=>if v<0 then(v+(n:Int)).toNat else min v.toNat n
def D4(n d)(hd:d<=n)(o):sIx n d o<=n:=by
 cases o with
 |none=>exact hd
 |some v =>
  show(if v<0 then(v+_).toNat else min v.toNat n)<=n
  grind
def ve(v)(n d:Nat):(if v<0 then max (v+(n:Int)) 0 else min v (n:Int))=((sIx n d (some v):Nat):Int):=by
 show(if v<0 then max _ 0 else min v _)=(((if v<0 then(v+_).toNat else min v.toNat n):Nat):Int)
 grind
def t5(lo hi)(n:Nat):Builtin.Slice.sliceAdjust lo hi 1 (n:Int)=(((sIx n 0 lo:Nat):Int),((sIx n n hi:Nat):Int)):=by
 refine Prod.ext ?_ ?_
 .cases lo with
  |none=>rfl
  |some v=>exact ve v n 0
 .cases hi with
  |none=>rfl
  |some v=>exact ve v n n
def t6(i j:Nat):Builtin.Slice.slicePlaces (i:Int) (j:Int) 1=j-i:=by
 unfold Builtin.Slice.slicePlaces
 grind
def mI(p:IsPart v o)(h:Q o s):wpAny (model prog w) A (Builtin.Slice.slicePartIndex v) Q E s:=by
 cases p<;>first|exact slicePart_none h|exact slicePart_int h
def gp{lo hi:Option Int}{n:Nat}{Q:Int×Int×Nat->Shared->Prop}(hs:s.heap.IsSliceOf Z U Y .none)(pl:IsPart U lo)(pu:IsPart Y hi)
  (h:Q (((sIx n 0 lo:Nat):Int),1,sIx n n hi-sIx n 0 lo) s):wpAny (model prog w) A (Builtin.Slice.sliceApplied (.ref Z) (pure (n:Int))) Q E s:=by
 obtain⟨os,z,a0,J⟩:=id hs;refine ez (ez (wpAny_field z J (x:=U) rfl (ez (wpAny_field z J (x:=Y) rfl (ez (wpAny_field z J (x:=.none) rfl (gx ?_)))))));refine ez (slicePart_none ?_);refine ez (mI pl (ez (mI pu (ez (gx ?_)))));show wpAny _ _ (match Builtin.Slice.sliceAdjust lo hi 1 _ with|(lo,hi)=>pure (lo,_,Builtin.Slice.slicePlaces lo hi 1)) _ _ s;rw[t5 lo hi n];show wpAny _ _ (pure (((sIx n 0 lo:Nat):Int),_,Builtin.Slice.slicePlaces _ _ 1)) _ _ s;rw[t6];exact gx h
def yc(xs:Array Value)(i k:Nat):((range k).filterMap λ(m:Nat)=>xs[((i:Int)+(m:Int)*1).toNat]?).toArray=((xs.toList.drop i).take k).toArray:=by
 have e:(λ(m:Nat)=>xs[((i:Int)+(m:Int)*1).toNat]?)=λm=>xs[i+m]?:=by
  funext m
  have:((i:Int)+(m:Int)*1).toNat=i+m:=by omega
  rw[this]
 rw[e];have:=pick_run xs i k;rw[filterMap_map]at this;have z:((λx=>xs[x]?)∘λx=>i+x)=λm=>xs[i+m]?:=rfl
 rw[z]at this;rw[this]
def getItem_tuple_cut{items:Array Value}{vl vu:Value}{lo hi:Option Int}{Q:Value->Shared->Prop}(J:IsTup s.heap t items)(hs:s.heap.IsSliceOf sl vl vu .none)(pl:IsPart vl lo)(pu:IsPart vu hi)
  (hw:¬ (sIx items.size 0 lo=0/\sIx items.size items.size hi=items.size))
  (h:Q (.ref s.heap.objs.size) { s with heap:=s.heap.push { cls:=.type "tuple",data:=.seq ((items.toList.drop (sIx items.size 0 lo)).take (sIx items.size items.size hi-sIx items.size 0 lo)).toArray } })
  (a4:items.size<=sizeLine):wpAny (model prog w) A (getItem (.ref t) (.ref sl)) Q E s:=by
 have z:sizeOk (.seq ((items.toList.drop (sIx items.size 0 lo)).take (sIx items.size items.size hi-sIx items.size 0 lo)).toArray):=by
  show((items.toList.drop (sIx items.size 0 lo)).take (sIx items.size items.size hi-sIx items.size 0 lo)).toArray.size<=sizeLine;rw[ro,Nk,length_drop,Array.length_toList];omega
 have hj:sIx items.size items.size hi<=items.size:=D4 _ _ (pb _) hi;obtain⟨os,U,Y,a5⟩:=id hs;have Z:s.TypeIs (.ref sl) "slice":=⟨os,U,Y⟩;unfold getItem
 try with_reducible refine Kr ?_
 first|refine ez (gx ?_)|skip
 refine ez (wpAny_sequenceKey J.typeIs (by decide) ?_);refine ez (Ku (name:=Str.ofString "__getitem__") J.typeIs Kt
  (Ki Kt J.typeIs entry_tuple_getitem ?_ (args_tuple_getitem _ _)))
 show wpAny _ _ (Builtin.Tuple.tupleItemsOf (.ref t) >>= _) _ _ s;refine ez (tupleItemsOf_ J ?_);refine ez (LV Z ?_);rw[if_pos (by decide)];refine ez (gp hs pl pu ?_);have ao:¬ ((((sIx items.size 0 lo:Nat):Int)==0&&(1:Int)==1&&(sIx items.size items.size hi-sIx items.size 0 lo)==items.size)=true):=by
  simp_all
 show wpAny _ _ (if (((sIx items.size 0 lo:Nat):Int)==0&&_==1&&_==items.size)=true then _ else _) _ _ s;rw[if_neg ao,yc]
 first
  | exact ez (Ks (gx ⟨_,rfl,gx h⟩) z)
  | exact ez (Ks (ez (gx _)) z)
  | exact ez (ez (Ks (gx _) z))
  | exact ez (ez (Ks _ z))
end
end HT
namespace L2
open PySem PySem.Spec PyProof.Rows List Option
noncomputable abbrev TO:=St->Hp->(Option Int->Hp->Prop)->Prop
def PO(X:Cx)(e:Option Expr)(t:TO):Prop:=
 ∀pins s (σ:St) H Q,Inv X pins σ H s->t σ H Q ->
  wpAny (model X.prog X.w) X.A (evalPart e X.env) (λu s'=>∃o H',Inv X pins σ H' s'/\IsPart u o/\Q o H') X.xe s
noncomputable def Bq:TO:=λ_ H Q=>Q none H
noncomputable def G4(t:TE):TO:=λσ H Q=>t σ H λx H1=>∃i,x=.int i/\Q (some i) H1
def c8 :∀{us},aL (ns.map V.int) us->IntsAre us ns:=by
 induction ns with
 |nil=>intro us r;rw[map_nil]at r;cases r;exact .nil
 |cons n ns ih =>
  intro us r;cases r with
  |cons z J =>
   obtain⟨t,e⟩:=z;subst e;exact .cons n t (ih J)
section
variable{X:Cx}{e:Expr}{te:TE}{lo hi:Option Expr}{tl th:TO}{pos p2:Pos}
def Br:PO X none Bq:=by
 intro pins s σ H Q I h;exact gx ⟨none,H,I,.none,h⟩
def Bs(h:PE X e te):PO X (some e) (G4 te):=by
 intro pins s σ H Q I hw;refine thn (h pins s σ H _ I hw) λu Y ⟨x,H1,z,J,U⟩=>?_
 obtain⟨i,rfl,q⟩:=U;obtain⟨t,rfl⟩:=J;exact⟨some i,H1,z,.int i t,q⟩
def SlR(X:Cx)(r:V->Option Int->Option Int->Hp->VK->Prop):Prop:=
 ∀pins s (σ:St) H x v z J lo hi U Q,Inv X pins σ H s->aI x v->s.heap.IsSliceOf U z J .none->IsPart z lo->IsPart J hi->r x lo hi H Q ->
  ∃T id,typeLookup (.type T) "__getitem__"=pure (some (.builtin id))/\s.TypeIs v T/\wpAny (model X.prog X.w) X.A (getItem v (.ref U)) (EP X pins σ Q) X.xe s
noncomputable def tSl(r:V->Option Int->Option Int->Hp->VK->Prop)(te:TE)(tl th:TO):TE:=λσ H Q=>te σ H λx H1=>tl σ H1 λl H2=>th σ H2 λu z=>r x l u z Q
def yd(Z:SlR X r)(he:PE X e te)(hl:PO X lo tl)(hu:PO X hi th):PE X (.Subscript e (.Slice lo hi none p2) pos) (tSl r te tl th):=by
 intro pins s σ H Q I h;refine Subscript_ (thn (he pins s σ H _ I h) λv s1 ⟨x,H1,I1,r1,q1⟩=>?_);refine wpAny_Slice (thn (hl pins s1 σ H1 _ I1 q1) λJ s2 ⟨l,H2,I2,pl,q2⟩=>thn (hu pins s2 σ H2 _ I2 q2) λU z ⟨u,Y,I3,pu,q3⟩=>?_);refine gx ?_;have I4:Inv X pins σ Y { z with heap:=z.heap.push { cls:=.type "slice",data:=.fields #[J,U,.none] } }:=I3.kept λb ob q=>g4 _ q
 obtain⟨T,id,hT,ht,hg⟩:=Z pins { z with heap:=z.heap.push { cls:=.type "slice",data:=.fields #[J,U,.none] } } σ Y x v J U l u z.heap.objs.size Q I4 r1 (Heap.IsSliceOf.new ..) pl pu q3;exact tail_any ht hT hg (by with_unfolding_all rfl)
noncomputable def wG(xs:List V)(lo hi:Option Int):List V:=(xs.drop (HT.sIx xs.length 0 lo)).take (HT.sIx xs.length xs.length hi-HT.sIx xs.length 0 lo)
def lA(xs)(lo hi):(wG xs lo hi).length<=xs.length:=by
 unfold wG;rw[Nk,length_drop];omega
def Jn(K:Np):V->Option Int->Option Int->Hp->VK->Prop:=λx lo hi H Q=>∃a xs,x=.ref a/\SqT K H a xs /\
 ¬ (HT.sIx xs.length 0 lo=0/\HT.sIx xs.length xs.length hi=xs.length)/\∀p,H p=none->Q (.ref p) (upd H p (.tup (wG xs lo hi)))
def D5:SlR X (Jn X.K):=by
 intro pins s σ H x v vl vu lo hi sl Q I U hs Y Z h;obtain⟨a,xs,rfl,hx,hw,q⟩:=h;cases U;obtain⟨its,r,J,hz⟩:=I.tuple hx;have z:its.toArray.size=xs.length:=by rw[ro];exact r.length.symm
 refine⟨"tuple",_,Kt.lookup,J.typeIs,?_⟩;refine HT.getItem_tuple_cut J hs Y Z (by rw[z];exact hw) ?_ (by rw[z];exact hz);rw[z];refine⟨.ref s.heap.objs.size,_,I.laid (o:=.tup _) (λb ob q=>g4 _ q) (pb _) ?_,rfl,q _ (I.hok.fresh (pb _))⟩;exact⟨wh (lA xs lo hi) hz,_,(r.drop _).take _,IsTup.new _ _⟩
noncomputable def G5(K:Np):R2:=λx y H Q=>∃a b xs ys,x=.ref a/\y=.ref b/\SqT K H a xs/\SqT K H b ys/\xs≠[]/\xs.length+ys.length<=sizeLine /\
 (ys=[]->Q (.ref a) H)/\(ys≠[]->∀p,H p=none->Q (.ref p) (upd H p (.tup (xs++ys))))
def aL.nil_iff(r:aL xs us):us=[] ↔ xs=[]:=by
 cases r<;>simp_all
def Bt:OpR X (binaryOp .Add) (G5 X.K):=by
 intro pins s σ H x y v u Q I Z ry h;refine aE λZq kq=>?_
 obtain⟨a,b,xs,ys,rfl,rfl,ha,hb,hx,hz,q1,q2⟩:=h;cases Z;cases ry;obtain⟨its,U,p1,_⟩:=I.tuple ha;obtain⟨Y,J,p2,_⟩:=I.tuple hb;refine kq ?_;refine HT.cat_tup p1 p2 (λz=>hx (U.nil_iff.mp z)) (λz=>⟨.ref a,H,I,rfl,q1 (J.nil_iff.mp z)⟩) (λz=>?_) (by rw[<- U.length,<- J.length];exact hz);refine⟨.ref s.heap.objs.size,_,I.laid (o:=.tup _) (λb ob q=>g4 _ q) (pb _) ?_,rfl,q2 (λw=>z (J.nil_iff.mpr w)) _ (I.hok.fresh (pb _))⟩;exact⟨by rw[tr];exact hz,_,U.append J,IsTup.new _ _⟩
end
noncomputable def ixN(n:Nat)(i:Int):Option Nat:=if 0<=i then(if i<n then some i.toNat else none)else if -(n:Int)<=i then some (i+n).toNat else none
noncomputable def atI{α:Type}(xs:List α)(i:Int):Option α:=(ixN xs.length i).bind λj=>xs[j]?
def Bu(h:ixN n i=some j):seqIndex? i n=some j/\j<n/\-(n:Int)<=i/\i<n:=by
 unfold ixN at h;by_cases z:0<=i
 .rw[if_pos z]at h;by_cases h1:i<n
  .rw[if_pos h1]at h;have e:=J3 h;exact⟨by rw[seqIndex_of z h1,e],by omega,by omega,h1⟩
  .simp_all
 .rw[if_neg z]at h;by_cases h1:-(n:Int)<=i
  .rw[if_pos h1]at h;have e:=J3 h;exact⟨by rw[seqIndex_neg (by omega) h1,e],by omega,h1,by omega⟩
  .simp_all
def qb(h:atI xs i=some v):∃j,seqIndex? i xs.length=some j/\xs[j]?=some v/\j<xs.length/\-(xs.length:Int)<=i/\i<xs.length:=by
 unfold atI at h;cases e:ixN xs.length i with
 |none=>rw[e]at h;cases h
 |some j =>
  rw[e]at h;obtain⟨h1,h2,z,J⟩:=Bu e;exact⟨j,h1,h,h2,z,J⟩
def vf(b:Expr):Prop:=∀o i,subscripted b false o i=operate [o,i] (getItem o i)
def IxR(X:Cx)(r:R2):Prop:=
 ∀value slice pins s (σ:St) H x y v u Q,Inv X pins σ H s->aI x v->aI y u->r x y H Q ->
  subscripted slice false v u=operate [v,u] (getItem v u)->wpAny (model X.prog X.w) X.A (subscriptTail value slice v u) (EP X pins σ Q) X.xe s
def MtR(X:Cx)(id:String)(r:V->List V->Hp->VK->Prop):Prop:=
 ∀pins s (σ:St) H x xs v us Q,Inv X pins σ H s->aI x v->aL xs us->r x xs H Q ->
  wpAny (model X.prog X.w) X.A (call (.builtin id) (v::us)) (EP X pins σ Q) X.xe s
section
variable{X:Cx}{a b:Expr}{ta tb:TE}{pos:Pos}
theorem IxR.or(h:IxR X r)(h':IxR X U):IxR X (λx y H Q=>r x y H Q\/U x y H Q):=by
 intro value slice pins s σ H x y v u Q I z J q hs;rcases q with q|q
 .exact h value slice pins s σ H x y v u Q I z J q hs
 .exact h' value slice pins s σ H x y v u Q I z J q hs
def G6(z:IxR X r)(J:PE X a ta)(U:PE X b tb)(hs:vf b):PE X (.Subscript a b pos) (tOp r ta tb):=by
 intro pins s σ H Q I h;exact Subscript_ (DU J U I h λv u Y x y H2 Z rx ry q=>z a b pins Y σ H2 x y v u Q Z rx ry q (hs _ _))
noncomputable def G7(K:Np):R2:=λx y H Q=>∃p xs i v,x=.ref p/\y=.int i/\SqL K H p xs/\atI xs i=some v/\Q v H
noncomputable def G8(K:Np):R2:=λx y H Q=>∃p xs i v,x=.ref p/\y=.int i/\SqT K H p xs/\atI xs i=some v/\Q v H
noncomputable def G9:R2:=λx y H Q=>∃z i c,x=.str z/\y=.int i/\z.length<=sizeLine/\atI z.cps.toList i=some c/\Q (.str ⟨#[c]⟩) H
def Bv:IxR X (G7 X.K):=by
 intro value slice pins s σ H x y v u Q I rx ry h hs;refine aE λZq kq=>?_
 obtain⟨p,xs,i,z,rfl,rfl,hq,he,q⟩:=h;cases rx;obtain⟨t,rfl⟩:=ry;obtain⟨its,r,J,hz⟩:=I.list hq;obtain⟨j,h1,h2,h3,h4,h5⟩:=qb he;obtain⟨w,Z,U⟩:=r.get h2;have hl:=r.length;have hn:=mF;have fin:EP X pins σ Q w s:=⟨z,H,I,U,q⟩;refine kq ?_;by_cases h0:0<=i
 .have Y:i.toNat=j:=by
   rw[seqIndex_of h0 h5]at h1;exact J3 h1
  exact item_listR J.isList h0 (by omega) (by rw[Y];simpa using Z) fin hs
 .have Y:(i+(its.toArray.size:Int)).toNat=j:=by
   rw[seqIndex_neg (by omega) h4]at h1;rw[ro,<- hl];exact J3 h1
  exact subscriptTail_builtinR J.isList.typeIs slot_list_getitem.lookup
   (wpAny_getItem_list_neg J.isList (by omega) (by rw[ro]<;>omega) (by omega) (by rw[Y];simpa using Z) ⟨rfl,fin⟩) hs
def D6:IxR X (G8 X.K):=by
 intro value slice pins s σ H x y v u Q I Y Z h hs;refine aE λZq kq=>?_
 obtain⟨p,xs,i,z,rfl,rfl,hq,he,q⟩:=h;cases Y;obtain⟨t,rfl⟩:=Z;obtain⟨its,r,U,hz⟩:=I.tuple hq;obtain⟨j,h1,h2,h3,h4,h5⟩:=qb he;obtain⟨w,ew,J⟩:=r.get h2;have hl:=r.length;have hn:=mF;have fin:EP X pins σ Q w s:=⟨z,H,I,J,q⟩;refine kq ?_;exact subscriptTail_builtinR U.typeIs slot_tuple_getitem.lookup
  (getItem_tuple U (by omega) (by omega) (by rw[ro,<- hl];exact h1) (by simpa using ew) ⟨rfl,fin⟩) hs
def D7:IxR X G9:=by
 intro value slice pins s σ H x y v u Q I J U h hs;refine aE λZq Y=>?_
 obtain⟨z,i,c,rfl,rfl,hz,Z,q⟩:=h;obtain⟨t,rfl⟩:=J;obtain⟨t',rfl⟩:=U;obtain⟨j,h1,h2,h3,h4,h5⟩:=qb Z;have hl:z.cps.toList.length=z.length:=by simp[Str.length]
 rw[hl]at h1 h4 h5;have hn:=mF;refine Y ?_;exact tail_any (typeIs_str s z t) slot_str_getitem.lookup (getItem_str (by
  have e1:decide (i < -(2 ^ 63:Int))=false:=J5 (by omega);have e2:decide (i>=2 ^ 63)=false:=J5 (by omega);rw[e1,e2,Bool.or_false]) (by rw[h1];simpa using h2) ⟨.str ⟨#[c]⟩,H,I.tok _,⟨_,rfl⟩,q⟩) hs
noncomputable def rIx(K:Np):R2:=λx y H Q=>G7 K x y H Q\/G8 K x y H Q\/G9 x y H Q
def ye:IxR X (rIx X.K):=Bv.or (D6.or D7)
def qc(lo hi)(n):(sliceBounds lo hi none n).1=((HT.sIx n 0 lo:Nat):Int)/\(sliceBounds lo hi none n).2.1=((HT.sIx n n hi:Nat):Int)/\(sliceBounds lo hi none n).2.2=1:=by
 refine⟨?_,?_,rfl⟩
 .cases lo with
  |none=>simp[sliceBounds,HT.sIx]
  |some i =>
   simp[sliceBounds,HT.sIx,getD_none,show(1:Int) > 0 by decide,if_true];by_cases h:i<0
   .simp[h,if_true]<;>omega
   .simp[h,KS]<;>omega
 .cases hi with
  |none=>simp[sliceBounds,HT.sIx]
  |some i =>
   simp[sliceBounds,HT.sIx,getD_none,show(1:Int) > 0 by decide,if_true];by_cases h:i<0
   .simp[h,if_true]<;>omega
   .simp[h,KS]<;>omega
def oH(its:List Value)(lo hi):slicePick its.toArray lo hi none=((its.drop (HT.sIx its.length 0 lo)).take (HT.sIx its.length its.length hi-HT.sIx its.length 0 lo)).toArray:=by
 obtain⟨h1,h2,z⟩:=qc lo hi its.toArray.size;unfold slicePick;rw[h1,h2,z];simp only[sliceRange_one,pick_run]<;>rfl
def Jo(K:Np):V->Option Int->Option Int->Hp->VK->Prop:=λx lo hi H Q=>∃a xs,x=.ref a/\SqL K H a xs/\∀p,H p=none->Q (.ref p) (upd H p (.lst (wG xs lo hi)))
def Bw:SlR X (Jo X.K):=by
 intro pins s σ H x v vl vu lo hi sl Q I U hs Y Z h;obtain⟨a,xs,rfl,hx,q⟩:=h;cases U;obtain⟨its,r,J,hz⟩:=I.list hx;have z:=r.length;refine⟨"list",_,slot_list_getitem.lookup,J.isList.typeIs,?_⟩;refine wpAny_getItem_list_slice J.isList hs Y Z .none (by simp) ?_ (by rw[ro]<;>omega);rw[oH,<- z];refine⟨.ref s.heap.objs.size,_,I.laid (o:=.lst _) (λb ob q=>g4 _ q) (pb _) ?_,rfl,q _ (I.hok.fresh (pb _))⟩;exact⟨wh (lA xs lo hi) hz,_,0,(r.drop _).take _,uw _ rfl⟩
noncomputable def iI:V->Bool
 | .non=>true
 | .bl _=>true
 | .int _=>true
 | .str _=>true
 | _=>false
noncomputable def eqV:V->V->Bool
 | .non,.non=>true
 | .bl a,.bl b=>a==b
 | .bl a,.int b=>(if a then 1 else 0)==b
 | .int a,.bl b=>a==(if b then 1 else 0)
 | .int a,.int b=>a==b
 | .str a,.str b=>a==b
 | _,_=>false
def yf(J:aI y u)(z:aI x v)(Y:iI y=true)(U:iI x=true):SeqAt.EqAt A s u v (eqV y x):=by
 cases y with
 |non =>
  cases J;cases x with
  |non=>cases z;exact SeqAt.EqAt.same _
  |bl b=>cases z;exact SeqAt.EqAt.none_bool b
  |int b=>obtain⟨t,rfl⟩:=z;exact SeqAt.EqAt.none_int b t
  |str b=>obtain⟨t,rfl⟩:=z;exact SeqAt.EqAt.none_str b t
  | _=>exact absurd (show false=true from U) oe
 |bl a =>
  cases J;cases x with
  |non=>cases z;exact SeqAt.EqAt.bool_none a
  |bl b=>cases z;exact SeqAt.EqAt.bool_bool a b
  |int b=>obtain⟨t,rfl⟩:=z;exact SeqAt.EqAt.bool_int a b t
  |str b=>obtain⟨t,rfl⟩:=z;exact SeqAt.EqAt.bool_str a b t
  | _=>exact absurd (show false=true from U) oe
 |int a =>
  obtain⟨t',rfl⟩:=J;cases x with
  |non=>cases z;exact SeqAt.EqAt.int_none a t'
  |bl b=>cases z;exact SeqAt.EqAt.int_bool a t' b
  |int b=>obtain⟨t,rfl⟩:=z;exact SeqAt.EqAt.int_int a t' b t
  |str b=>obtain⟨t,rfl⟩:=z;exact SeqAt.EqAt.int_str a t' b t
  | _=>exact absurd (show false=true from U) oe
 |str a =>
  obtain⟨t',rfl⟩:=J;cases x with
  |non=>cases z;exact SeqAt.EqAt.str_none a t'
  |bl b=>cases z;exact SeqAt.EqAt.str_bool a t' b
  |int b=>obtain⟨t,rfl⟩:=z;exact SeqAt.EqAt.str_int a t' b t
  |str b=>obtain⟨t,rfl⟩:=z;exact SeqAt.EqAt.str_str a t' b t
  | _=>exact absurd (show false=true from U) oe
 | _=>exact absurd (show false=true from Y) oe
def hV:bU X (.builtin "len") (λxs H Q=>∃p ys,xs=[.ref p]/\(SqL X.K H p ys\/SqT X.K H p ys)/\Q (.int ys.length) H):=by
 intro pins s σ H xs us Q I r h;obtain⟨p,ys,rfl,J,q⟩:=h;obtain⟨u,rfl,Z⟩:=d8 r;cases Z;have hn:=mF;rcases J with J|J
 .obtain⟨its,U,Y,hz⟩:=I.list J;have z:=U.length;exact Calls.call_len_list Y.isList (by simp[ro]<;>omega) ⟨.int ys.length,H,I.tok _,⟨s.toks+1,by rw[ro,z]⟩,q⟩
 .obtain⟨its,U,Y,hz⟩:=I.tuple J;have z:=U.length;exact len_tuple Y (by simp[ro]<;>omega) ⟨.int ys.length,H,I.tok _,⟨s.toks+1,by rw[ro,z]⟩,q⟩
def qd:bU X (.type "list") (λxs H Q=>∃p ys,xs=[.ref p]/\(SqL X.K H p ys\/SqT X.K H p ys)/\∀l,H l=none->Q (.ref l) (upd H l (.lst ys))):=by
 intro pins s σ H xs us Q I r h;obtain⟨p,ys,rfl,U,q⟩:=h;obtain⟨u,rfl,rx⟩:=d8 r;cases rx;have fin:∀its,aL ys its->ys.length<=sizeLine->∀h' z,(∀b o',s.heap.get? b=some o'->h'.get? b=some o') ->
   h'.get? s.heap.objs.size=some { cls:=.type "list",dict:=none,data:=.seq its.toArray z,slots:=#[] }->EP X pins σ Q (.ref s.heap.objs.size) { s with heap:=h' }:=λits J hz h' z kp e =>
  ⟨.ref s.heap.objs.size,_,I.laid (t':=s.toks) kp (pb _) (show bJ X.prog X.w _ h' _ (.lst ys)from⟨hz,its,z,J,e⟩),rfl,q _ (I.hok.fresh (pb _))⟩
 rcases U with U|U
 .obtain⟨its,J,Z,hz⟩:=I.list U;have Y:=J.length;obtain⟨o,ho,hc,n,hd⟩:=Z.isList;exact call_list_seq p (.inl rfl) ho hc hd (λh' z kp e=>fin its J hz h' z kp e) (by simp only[ro]<;>omega)
 .obtain⟨its,J,Z,hz⟩:=I.tuple U;have Y:=J.length;obtain⟨o,ho,hc,n,hd⟩:=Z;exact call_list_seq p (.inr rfl) ho hc hd (λh' z kp e=>fin its J hz h' z kp e) (by simp only[ro]<;>omega)
def jk:bU X (.type "tuple") (λxs H Q=>∃p ys,xs=[.ref p]/\((SqL X.K H p ys/\∀l,H l=none->Q (.ref l) (upd H l (.tup ys)))\/(SqT X.K H p ys/\Q (.ref p) H))):=by
 intro pins s σ H xs us Q I r h;obtain⟨p,ys,rfl,h⟩:=h;obtain⟨u,rfl,rx⟩:=d8 r;cases rx;rcases h with⟨z,q⟩|⟨z,q⟩
 .obtain⟨its,J,U,hz⟩:=I.list z;have Y:=J.length;refine call_tuple_list U.isList (λh' kp=>?_) (by simp[ro]<;>omega);have Z:=I.kept (t':=s.toks) kp;have I2:Inv X pins σ (upd H h'.objs.size (.tup ys)) { s with heap:=h'.push { cls:=.type "tuple",data:=.seq its.toArray } }:=
   Z.laid (λb o e=>g4 _ e) (pb _) (show bJ X.prog X.w _ _ _ _ from⟨hz,its,J,IsTup.new _ _⟩)
  exact⟨.ref h'.objs.size,_,I2,rfl,q _ (Z.hok.fresh (pb _))⟩
 .obtain⟨its,J,U,hz⟩:=I.tuple z;exact call_tuple_same U ⟨.ref p,H,I,rfl,q⟩
def tyV(K:Np)(T:String)(x:V)(H:Hp):Prop:=match x with
 | .str _=>T="str"
 | .int _=>T="int"
 | .ref p=>(T="list"/\∃xs,SqL K H p xs)\/(T="tuple"/\∃o,K.lookup p=some o/\o.cls=.type "tuple"/\o.dict=none) \/
   (T="dict"/\((∃kvs,H p=some (.dK kvs))\/∃kvs,H p=some (.dT kvs)))\/(T="set"/\∃S n,H p=some (.set S n))
 | _=>False
def yg(I:Inv X pins σ H s)(r:aI x v)(ty:tyV X.K T x H) :
  s.TypeIs v T/\∀a,v=.ref a->∃Y,s.heap.get? a=some Y/\Y.dict=none:=by
 cases x with
 |str z =>
  obtain⟨t,rfl⟩:=r;cases (show T="str" from ty);exact⟨typeIs_str s z t,λ_ e=>nomatch e⟩
 |int i =>
  obtain⟨t,rfl⟩:=r;cases (show T="int" from ty);exact⟨typeIs_int s i t,λ_ e=>nomatch e⟩
 |ref p =>
  cases r;rcases ty with⟨rfl,xs,hq⟩|⟨rfl,o,J,hc,hd⟩|⟨rfl,J⟩|⟨rfl,S,n,J⟩
  .obtain⟨its,_,Z,_⟩:=I.list hq;refine⟨Z.isList.typeIs,λa e=>?_⟩;cases e;obtain⟨o,n,e,c,hd,_⟩:=Z;exact⟨o,e,hd⟩
  .refine⟨⟨o,I.kIn p o J,hc⟩,λa e=>?_⟩;cases e;exact⟨o,I.kIn _ o J,hd⟩
  .have z:∃o,s.heap.get? p=some o/\o.ExactDict:=by
    rcases J with⟨kvs,J⟩|⟨kvs,J⟩
    .obtain⟨_,_,_,_,o,_,_,e,ex,_⟩:=I.hok p _ J;exact⟨o,e,ex⟩
    .obtain⟨_,_,_,_,o,_,_,e,ex,_⟩:=I.hok p _ J;exact⟨o,e,ex⟩
   obtain⟨o,e,ex⟩:=z;refine⟨⟨o,e,ex.1⟩,λa U=>?_⟩;cases U;exact⟨o,e,ex.2.1⟩
  .obtain⟨o,_,_,_,e,ex,_⟩:=I.hok p _ J;refine⟨⟨o,e,ex.1⟩,λa U=>?_⟩;cases U;exact⟨o,e,ex.2.1⟩
 | _=>exact False.elim ty
noncomputable def Jp(K:Np)(T:String)(r:V->List V->Hp->VK->Prop)(to:TE):TE:=λσ H Q=>to σ H λx H1=>tyV K T x H1/\r x [] H1 Q
noncomputable def tBM(K:Np)(T:String)(r:V->List V->Hp->VK->Prop)(to:TE)(t:TA):TE:=λσ H Q=>to σ H λx H1=>tyV K T x H1/\t σ H1 λxs H2=>r x xs H2 Q
variable{o e:Expr}{es:List Expr}{to:TE}{t:TA}{name:Str}{apos cpos:Pos}{T id:String}{r:V->List V->Hp->VK->Prop}
def D8 (pa:PlainAttrs T) (slot:Slot T name id) (U:typeOf (.builtin id)=pure (.type "method_descriptor")) (hm:MtR X id r) (ho:PE X o to)
  (z:attributeBase o name X.env (eval o X.env)=eval o X.env:=by rfl) (J:(apos.endLine==cpos.line)=true:=by rfl):PE X (.Call (.Attribute o name apos) [] [] cpos) (Jp X.K T r to):=by
 intro pins s σ H Q I h;refine wpAny_Call_method0_late z J (thn (ho pins s σ H _ I h) λv s1 ⟨x,H1,Y,Z,ty,q1⟩=>?_);obtain⟨h1,h2⟩:=yg Y Z ty;exact⟨T,id,pa,slot,U,h1,h2,LM rfl (PySem.evalArgs_none (hm pins s1 σ H1 x [] v [] Q Y Z .nil q1))⟩
def vg (pa:PlainAttrs T) (slot:Slot T name id) (Z:typeOf (.builtin id)=pure (.type "method_descriptor")) (hm:MtR X id r) (ho:PE X o to) (ha:PA X (e::es) t)
  (J:attributeBase o name X.env (eval o X.env)=eval o X.env:=by rfl)
  (Y:((backTo cpos (starEach (e::es) X.env)).all (λx=>!x.1)&&(backToKw cpos (keywordEach [] X.env)).all (λx=>x.1.isSome)
  &&decide ((e::es).length+([]:List Keyword).length+(if ([]:List Keyword).isEmpty then 0 else 1)<30))=true:=by rfl)
  (U:(apos.endLine==cpos.line)=true:=by rfl) (hs:starEach (e::es) X.env=(false,eval e X.env)::starEach es X.env:=by rfl) (z:(backTo cpos (starEach es X.env)).any (·.1)=false:=by rfl) :
  PE X (.Call (.Attribute o name apos) (e::es) [] cpos) (tBM X.K T r to t):=by
 intro pins s σ H Q I h;refine wpAny_Call_method_late J Y U rfl (thn (ho pins s σ H _ I h) λv s1 ⟨x,H1,I1,r1,ty,q1⟩=>?_);obtain⟨h1,h2⟩:=yg I1 r1 ty;refine⟨T,id,pa,slot,Z,h1,h2,?_⟩;have hA:=ha cpos pins s1 σ H1 _ I1 q1;rw[hs]at hA ⊢;refine LM (by show(false||(backTo cpos _).any _)=false;rw[z]<;>rfl) (Calls.evalArgs_plain ?_);exact thn hA λus s2 ⟨vs,H2,I2,r2,q2⟩=>hm pins s2 σ H2 x vs v us Q I2 r1 r2 q2
end
def MtM(X:Cx)(id:String)(r:V->List V->Hp->VK->Prop):Prop:=
 ∀pins s (σ:St) H x xs v us Q,Inv X pins σ H s->aI x v->aL xs us->r x xs H Q ->
  wpAny (model X.prog X.w) X.A (call (.builtin id) (v::us)) (EP X pins σ Q) X.xe s
theorem aL.one:∀{x}{us},aL [x] us->∃u,us=[u]/\aI x u
 | _,_,.cons r .nil=>⟨_,rfl,r⟩
def aL.zero:∀{us},aL [] us->us=[]
 | _,.nil=>rfl
theorem aL.dropLast(h:aL xs us):aL xs.dropLast us.dropLast:=by
 induction h with
 |nil=>exact .nil
 |cons r t ih =>
  cases t<;>first|exact .nil|exact .cons r ih
theorem aL.reverse(h:aL xs us):aL xs.reverse us.reverse:=by
 induction h with
 |nil=>exact .nil
 |cons r t ih=>rw[reverse_cons,reverse_cons];exact aL.append ih (.cons r .nil)
section
variable{X:Cx}{pins:List (Addr×Obj)}{σ:St}{H:Hp}{s:Shared}{l b:Addr}{xs ys zs:List V}
theorem Inv.lset{its its':List Value}{n:Nat}{f:Array Value->Array Value}{t':Nat}(I:Inv X pins σ H s)(z:H l=some (.lst xs))
  (e:s.heap.get? l=some { cls:=.type "list",data:=.seq its.toArray n }) (J:f its.toArray=its'.toArray) (hv:aL ys its') (hz:ys.length<=sizeLine) :
  Inv X pins σ (upd H l (.lst ys)) { s with heap:=s.heap.update l (Obj.mapSeq f),toks:=t' }:=by
 have q:=PySem.IsL.update e f;rw[J]at q;refine I.write (by rw[z];exact trivial) (.inl rfl) (λZ u U Y=>(K4 s.heap _ (LS U)).trans Y) ⟨_,q⟩ ?_;exact⟨hz,its',_,hv,q⟩
theorem Inv.lnew(I:Inv X pins σ H s)(hv:aL ys its)(hz:ys.length<=sizeLine) :
  Inv X pins σ (upd H s.heap.objs.size (.lst ys)) { s with heap:=s.heap.push { cls:=.type "list",data:=.seq its.toArray },toks:=t' }:=
 I.laid (λ_ _ q=>g4 _ q) (pb _) ⟨hz,its,0,hv,uw _ rfl⟩
theorem Inv.fresh(I:Inv X pins σ H s):H s.heap.objs.size=none:=I.hok.fresh (pb _)
theorem Inv.lstM (I:Inv X pins σ H s) (J:H l=some (.lst xs)):xs.length<=sizeLine/\∃its n,aL xs its/\xs.length=its.length/\s.heap.get? l=some { cls:=.type "list",data:=.seq its.toArray n }:=by
 obtain⟨z,its,n,r,e⟩:=I.hok l _ J;exact⟨z,its,n,r,r.length,e⟩
def rB(h:n<=sizeLine):Builtin.List.listTooLong n=false:=by simp_all [Builtin.List.listTooLong]
end
section
variable{X:Cx}
def Bx:V->List V->Hp->VK->Prop:=λx vs H Q=>∃l xs y,x=.ref l/\vs=[y]/\H l=some (.lst xs)/\xs.length<sizeLine/\Q .non (upd H l (.lst (xs++[y])))
def kN:MtM X "list.append" Bx:=by
 intro pins s σ H x vs v us Q I U Y h;refine aE λZq Z=>?_
 obtain⟨l,xs,y,rfl,rfl,J,hz,q⟩:=h;cases U;obtain⟨u,rfl,ru⟩:=Y.one;obtain⟨z,its,n,r,hl,e⟩:=I.lstM J;refine Z ?_;refine Mw F.slot_list_append ⟨_,e,rfl⟩ F.entry_list_append (F.args_list_append_2 _ _) (PySem.list_append l its.toArray n u (by rw[ro];omega)) ⟨e,?_⟩;refine⟨.non,_,I.lset J e (by simp) (r.append (.cons ru .nil)) ?_,rfl,q⟩
 grind
def Jq:V->List V->Hp->VK->Prop:=λx vs H Q=>∃l xs y,x=.ref l/\vs=[]/\H l=some (.lst xs)/\xs[xs.length-1]?=some y/\Q y (upd H l (.lst xs.dropLast))
def D9:MtM X "list.pop" Jq:=by
 intro pins s σ H x vs v us Q I Z rv h;refine aE λZq kq=>?_
 obtain⟨l,xs,y,rfl,rfl,Y,hy,q⟩:=h;cases Z;have J:=rv.zero;subst J;obtain⟨z,its,n,r,hl,e⟩:=I.lstM Y;obtain⟨u,hu,ru⟩:=r.get hy;have U:its.toArray[its.toArray.size-1]?=some u:=by
  simp_all
 refine kq ?_;refine Mw F.slot_list_pop ⟨_,e,rfl⟩ F.entry_list_pop (F.args_list_pop_1 _) (MeetsSeq.list_pop_last l its.toArray n u U (by rw[ro];omega)) ⟨e,?_⟩;refine⟨y,_,I.lset Y e ?_ r.dropLast ?_,ru,q⟩
 .simp_all
 .rw[length_dropLast];omega
end
section
variable{prog:Program}{w:World}{A:Around}{E:Value->Shared->Prop}{s:Shared}
end
section
variable{X:Cx}
end
end L2
namespace Att
open PySem PySem.W PySem.Calls PyProof.Rows List Option
def lX :∀ns vs,WellAll P h vs (ns.map WData.int)->IntsAre vs ns:=by
 intro ns
 induction ns with
 |nil =>
  intro vs w;cases w;exact .nil
 |cons n ns ih =>
  intro vs w;cases w with
  |cons a b =>
   cases a;exact .cons _ _ (ih _ b)
def wH{l:OpenLaw}(hn:l.most=some n) 
  (z:l.row.toRowW.claim.pre args=true) (Z:WellAll P h vals args) :
  ∃a vs ns,vals=[Value.ref a]/\args=[WData.list (ns.map WData.int)]/\h.get? a=some { cls:=.type "list",data:=.seq vs.toArray }/\IntsAre vs ns/\ns.length<=n:=by
 have ao:WShape.hasAll [] args [.list .int]=true:=(pre_splitW z).1;have hc:l.pre.holds [] { args:=args }=true:=(pre_splitW z).2;obtain⟨d,r,rfl,h1,h2⟩:=hasAllW_cons ao;obtain rfl:=hasAllW_nil h2;obtain⟨xs,rfl,h3⟩:=hasW_list h1;obtain⟨ns,rfl⟩:=items_int h3;have J:ns.length<=n:=by
  have Y:(WTm.not (.lt (.lit (.int (n:Int))) (.len (.arg 0)))).holds [] { args:=[.list (ns.map .int)] }=true:=by
   have Y:=(holds_andW hc).1;rw[hn]at Y;exact Y
  have h5:=condW_of Y (w_not (w_lt w_lit (w_len_list (w_arg rfl))))
  simp_all
 cases Z with
 |cons w1 w2 =>
  cases w2;cases w1 with
  |list ho U=>exact⟨_,_,ns,rfl,rfl,ho,lX ns _ U,J⟩
def wI(l:OpenLaw)(args):l.row.toRowW.claim.post args (.bool true) args=true:=
 postW_of (r:=l.row.toRowW) (X:=(true==true))
  (show WShape.has [] (.bool true) .bool=true by first|rfl|decide|simp[WShape.arms])
  (show(WTm.eq .res (.lit (.bool true))).value [] { args:=args,res:=some (.bool true),after:=args }=some (.bool (true==true))from w_eq_bool (w_res rfl) w_lit) rfl
def attach_call{l:OpenLaw}{n:Nat}{q:Program}{J:List Str}{XP:(Str->Option Value)->Heap->Prop}{YP:World->Heap->Prop}{d:DefRec}
  (hn:l.most=some n) (a3:d.params.defaults=[])
  (call:∀w s₀ z mg mb fa o pm cd U a vs ns,
   Ground q J [] XP w s₀ mg mb z.heap->YP w z.heap ->
   z.heap.get? fa=some o->o.data=.func (docDef d.name d.params d.body d.scope pm cd U)->z.heap.CodeRec cd d.name->mg d.name=some (.ref fa) ->
   z.heap.get? a=some { cls:=.type "list",data:=.seq vs.toArray }->IntsAre vs ns->ns.length<=n->z.gens=#[] ->
   codeAny (model l.prog w) callerA (.call (.ref fa) ⟨[.ref a],[]⟩) (λr s'=>r=.ok (.ret (.bool true))/\OldK z.heap s'.heap/\s'.os=z.os/\AllBare s'.gens) z) :
  WalkO q J XP YP l.row.toRowW d [] (λf vs=>PySem.call f vs):=by
 intro w s₀ z mg mb G Y fa o pm cd U dV kV ho hd a5 hD a6 hg args vals as aO b0 b4 a7 b5;obtain rfl:dV=.none:=Dflts.none hD a3;obtain rfl:kV=.none:=Dflts.noKw hD;obtain⟨a,vs,ns,rfl,rfl,a0,Z,a1⟩:=wH hn aO a7;refine enter_call (LU (call w s₀ z mg mb fa o pm cd U a vs ns G Y ho (fd_plain hd) a5 a6 a0 Z a1 hg) λr s' hq=>?_);obtain⟨rfl,h2,h3,h4⟩:=hq;exact⟨.inl ⟨.bool true,.bool true,[],rfl,λ_=>rfl,.bool true,wI l _,λ_=>⟨Pairwise.nil,λ_ hm=>(nomatch hm)⟩⟩,h2,h3,h4⟩
section
variable{prog:Program}{w:World}{A:Around}{E:Value->Shared->Prop}{s:Shared}{K:Frag}
end
end Att
namespace L2
open PySem PySem.Spec PyProof.Rows List Option
theorem kO:∀{vs}{ns},IntsAre vs ns->aL (ns.map V.int) vs
 | _,_,.nil=>.nil
 | _,_,.cons n t h=>.cons ⟨t,rfl⟩ (kO h)
def D_(H:Hp):Prop:=∀b,H b=none\/∃o xs,H b=some (.frz o (.lst xs))
def yh{K:Np} 
  (KX:K.In J.heap) (aO:J.heap.Ns mainGlobals mg) (U:J.heap.Ns builtinsNs mb) (a6:∀x:Str,x ≠ "__name__"->mb x=bootBuiltins x) (a0:J.heap.NoLimit) (hg:J.gens=#[])
  (ha:J.heap.get? a=some { cls:=.type "list",data:=.seq vs.toArray }) (hi:IntsAre vs ns) (hl:ns.length<=sizeLine) (hr:kM k callerA)
  (F:∀base,K.In base->base.Ns mainGlobals mg->jC P w K mg base CX k fa fd [x] sp) (ao:∀s u,BindsTo s fd ⟨[u],[]⟩ [(x,u)])
  (a7:∀H,D_ H->SqL K H a (ns.map V.int)->sp [.ref a] H (λv _=>v=.bl true) λ_ _ _=>False)
  (a8:∀H e s',CX [] H J (λ_ _ _=>False) e s'->False) :
  codeAny (model P w) callerA (.call (.ref fa) ⟨[.ref a],[]⟩) (λr s'=>r=.ok (.ret (.bool true))/\OldK J.heap s'.heap/\s'.os=J.os/\AllBare s'.gens) J:=by
 have rv:=kO hi;have a1:=hi.length;have Z:∀H,D_ H->SqL K H a (ns.map V.int)->HOk P w H J.heap->(∀b,H b≠none->b=a)->(H a≠none->K.lookup a=none) ->
   codeAny (model P w) callerA (.call (.ref fa) ⟨[.ref a],[]⟩) (λr s'=>r=.ok (.ret (.bool true))/\OldK J.heap s'.heap/\s'.os=J.os/\AllBare s'.gens) J:=by
  intro H hO hS hok hA hK;have base_of:∀{b}{o},J.heap.get? b=some o->H b=none->(p6 J.heap H).get? b=some o:=λe n=>xN e n
  have a9:∀{b}{o}{es}{ep},J.heap.get? b=some o->o.data=.dict es ep->H b=none:=λ{b o es ep} e d=>by
   cases q:H b with
   |none=>rfl
   |some u =>
    have e':=hA b (by rw[q];simp);subst e';rw[ha]at e;cases e
    have d':=d;cases d'
  have Y:∀{b}{m},J.heap.Ns b m->(p6 J.heap H).Ns b m:=λ{b m} ⟨o,es,ep,e,d,r⟩=>⟨o,es,ep,base_of e (a9 e d),d,r⟩
  have a2:K.In (p6 J.heap H):=λb o e=>base_of (KX b o e) (by
   cases q:H b with
   |none=>rfl
   |some u =>
    have e':=hA b (by rw[q];simp);subst e';rw[hK (by rw[q];simp)]at e;cases e)
  have hM:Mod K mg (p6 J.heap H):=⟨a2,Y aO,⟨mb,Y U,a6⟩,let ⟨mc,h1,h2⟩:=a0;⟨mc,Y h1,h2⟩⟩;have e0:Bp P w K mg (p6 J.heap H) callerA [] J H:=⟨rfl,hM,λb o e=>Bc e,Lj (wB _ _),trivial,λb U=>absurd (show b∈([]:List Addr)from U) (by simp),hok,.of_eq hg⟩;refine LU ((F _ a2 (Y aO)).run callerA [] J H ⟨[.ref a],[]⟩ [.ref a] [.ref a] _ _ hr e0 (ao J (.ref a)) (.cons rfl .nil) (a7 H hO hS)) λr s' h=>?_
  cases r with
  |error e=>exact(a8 H e s' h).elim
  |ok fl =>
   cases fl with
   |ret u =>
    obtain⟨v,H',os,bare,un,a3,r',q⟩:=h;have q':=q;subst q';obtain rfl:u=Value.bool true:=r';refine⟨rfl,OldK.of_keep λb o e=>?_,os,bare⟩;cases q:H b with
    |none=>exact un.keep b o e q (by intro z;exact absurd (show b∈([]:List Addr)from z) (by simp)) (by simp)
    |some u =>
     rcases hO b with z|⟨ob,xs,z⟩
     .rw[q]at z;cases z
     .have z2:=un.frzs b ob _ z;obtain⟨e1,_⟩:=hok b _ z;obtain⟨e2,_⟩:=a3 b _ z2;rw[e]at e1;cases e1
      exact e2
   | _=>exact False.elim h
 cases hk:K.lookup a with
 |some o =>
  have e:=KX a o hk;rw[ha]at e;cases e;refine Z (λ_=>none) (λ_=>.inl rfl) (.inr ⟨_,vs.toArray,_,hk,rfl,rfl,rfl,by rw[ro,a1];exact hl,by simpa using rv⟩) (λb u z=>by have z':=z;cases z') (λb z=>absurd rfl z) λz=>absurd rfl z
 |none =>
  refine Z (λb=>if b=a then some (.frz { cls:=.type "list",data:=.seq vs.toArray } (.lst (ns.map V.int)))else none) (λb=>?_) (.inl (.inr ⟨{ cls:=.type "list",data:=.seq vs.toArray },if_pos rfl⟩)) (λb u z=>?_) (λb z=>?_) λ_=>hk
  .by_cases U:b=a
   .exact .inr ⟨_,_,if_pos U⟩
   .exact .inl (if_neg U)
  .by_cases U:b=a
   .have z':=(if_pos U).symm.trans z;cases z';subst U;exact⟨ha,by rw[pd];exact hl,vs,_,rv,ha⟩
   .have z':=(if_neg U).symm.trans z;cases z'
  .by_cases U:b=a
   .exact U
   .exact absurd (if_neg U) z
def By{l:PySem.W.OpenLaw}{n k:Nat}{q:Program}{J:List Str}{XP:(Str->Option Value)->Heap->Prop}{YP:World->Heap->Prop}{d:DefRec}{K:Params->Np}{CX:World->CXT}{sp:World->Sp}{x:Str}
  (hn:l.most=some n) (a0:n<=sizeLine) (a1:d.params.defaults=[]) (hr:kM k callerA)
  (hY:∀w h,YP w h->(K w.params).In h)
  (F:∀w mg fa h,(K w.params).In h->h.Ns mainGlobals mg->mg d.name=some (.ref fa) ->
   ∃fd,(∀s u,BindsTo s fd ⟨[u],[]⟩ [(x,u)]) /\
    ∀base,(K w.params).In base->base.Ns mainGlobals mg->jC l.prog w (K w.params) mg base (CX w) k fa fd [x] (sp w))
  (a2:∀w H a (ns:List Int),ns.length<=n->D_ H->SqL (K w.params) H a (ns.map V.int)->sp w [.ref a] H (λv _=>v=.bl true) λ_ _ _=>False)
  (a3:∀w H s e s',CX w [] H s (λ_ _ _=>False) e s'->False) :
  PySem.W.WalkO q J XP YP l.row.toRowW d [] (λf vs=>PySem.call f vs):=by
 refine Att.attach_call hn a1 λw s₀ Z mg mb fa o pm cd b0 a vs ns G Y ho hd b1 a4 ao U z hg=>?_
 have KX:=hY w _ Y;obtain⟨fd,hb,hF⟩:=F w mg fa _ KX G.T.g a4;exact yh KX G.T.g G.T.b G.T.builtins G.T.nolimit hg ao U (wh z a0) hr hF hb (λH hO hS=>a2 w H a ns z hO hS) λH e s'=>a3 w H Z e s'
noncomputable def jV(s:Stmt):Arguments:=match s with
 | .FunctionDef _ a _ _ _ _ _ _ _ _=>a
 | _=>{ posonlyargs:=[],args:=[],vararg:=none,kwonlyargs:=[],kw_defaults:=[],kwarg:=none,defaults:=[] }
noncomputable def dU(s:Stmt):List Stmt:=match s with
 | .FunctionDef _ _ b _ _ _ _ _ _ _=>b
 | _=>[]
noncomputable def bu(s:Stmt):Scope:=match s with
 | .FunctionDef _ _ _ _ _ _ sc _ _ _=>sc
 | _=>{ kind:=.function,names:=[],isGenerator:=false,isCoroutine:=false }
noncomputable abbrev CX0:CXT:=λ_ _ _ _ _ _=>False
noncomputable abbrev E0:XK:=λ_ _ _=>False
def rC :p_ CX0 X E0:=λ_ _ _ _ _ _ _ h=>h.elim
section
variable{P:Program}{w:World}{K:Np}{mg:Str->Option Value}{base:Heap}
end
section
variable{X:Cx}
end
def ai(H H':Hp):Prop:=∀b o,H b=some o->H' b=some o
def ai.refl(H):ai H H:=λ_ _ h=>h
def ai.trans(a:ai H H1)(b:ai H1 H2):ai H H2:=λc o h=>b c o (a c o h)
def ai.free(e:ai H H')(h:H' l=Option.none):H l=Option.none:=by
 cases q:H l with
 |none=>rfl
 |some o =>
  rw[e l o q]at h;cases h
theorem ai.seq{K:Np}(e:ai H H')(h:SqL K H a xs):SqL K H' a xs:=by
 rcases h with(h|⟨o,h⟩)|h
 .exact .inl (.inl (e _ _ h))
 .exact .inl (.inr ⟨o,e _ _ h⟩)
 .exact .inr h
section
variable{g:Type} [DecidableEq g]
noncomputable def jg(kvs:List (g×V))(k:g):Option V:=(kvs.find? λz=>decide (z.1=k)).map (·.2)
noncomputable def gq(kvs:List (g×V))(k:g)(v:V):List (g×V):=
 if (kvs.any λz=>decide (z.1=k))=true then kvs.map (λz=>if z.1=k then(z.1,v)else z)else kvs++[(k,v)]
noncomputable def JR(kvs:List (g×V))(k:g):List (g×V):=kvs.filter λz=>decide (z.1≠k)
def mJ{k:g}(e:p.1=k):jg (p::r) k=some p.2:=by simp_all [jg]
def mK{k:g}(e:¬ p.1=k):jg (p::r) k=jg r k:=by simp_all [jg]
theorem rD(k):∀kvs:List (g×V),(kvs.any λz=>decide (z.1=k))=(jg kvs k).isSome
 | []=>rfl
 |p::r=>by
  rw[any_cons];by_cases e:p.1=k
  .simp[mJ e,J1 e]
  .rw[mK e,J5 e,Bool.false_or];exact rD k r
def iJ(kvs)(k:g)(v):(gq kvs k v).length<=kvs.length+1:=by grind [gq,length_map,length_append,length_cons,length_nil]
def lW.isSome_eq(r:lW o u):o.isSome=u.isSome:=by
 cases o<;>first|(cases u<;>first|rfl|exact(show False from r).elim)|(cases u<;>first|exact(show False from r).elim|rfl)
theorem lW.getD(r:lW o u)(rd:aI d d'):aI (o.getD d) (u.getD d'):=by
 cases o<;>first|(cases u<;>first|exact rd|exact(show False from r).elim)|(cases u<;>first|exact(show False from r).elim|exact r)
theorem KV.val(r:KV kvs vs)(k:g):lW (jg kvs k) (valueAt vs k):=by
 induction r with
 |nil=>exact True.intro
 | @cons p q ps J h t ih =>
  obtain⟨h1,h2⟩:=h;by_cases e:p.1=k
  .have U:=h1.symm.trans e;have b:valueAt (q::J) k=some q.2:=by simp[valueAt,find?_cons,U]
   rw[mJ e,b];exact h2
  .have U:¬ q.1=k:=λz=>e (h1.trans z)
   have b:valueAt (q::J) k=valueAt J k:=by simp[valueAt,find?_cons,U]
   rw[mK e,b];exact ih
theorem KV.any(r:KV kvs vs)(k:g):(kvs.any λz=>decide (z.1=k))=vs.any λz=>decide (z.1=k):=by
 induction r with
 |nil=>rfl
 |cons h t ih=>rw[any_cons,any_cons,ih,h.1]
def KV.repl(r:KV kvs vs)(k:g)(U:aI y u) :
  KV (kvs.map λJ=>if J.1=k then(J.1,y)else J) (vs.map λJ=>if J.1=k then(J.1,u)else J):=by
 induction r with
 |nil=>exact .nil
 | @cons p q ps Y h t ih =>
  rw[JW,JW];refine .cons ?_ ih;obtain⟨h1,h2⟩:=h;by_cases e:p.1=k
  .rw[if_pos e,if_pos (h1.symm.trans e)];exact⟨h1,U⟩
  .rw[if_neg e,if_neg (λz=>e (h1.trans z))];exact⟨h1,h2⟩
theorem KV.put(r:KV kvs vs)(k:g)(z:aI y u):KV (gq kvs k y) (stored vs k u):=by
 unfold gq stored;rw[r.any k];by_cases e:(vs.any λJ=>decide (J.1=k))=true
 .rw[if_pos e,if_pos e];exact r.repl k z
 .rw[if_neg e,if_neg e];exact Paired.snoc r ⟨rfl,z⟩
def KV.keys{vs:List (g×Value)}(r:KV kvs vs):kvs.map (·.1)=vs.map (·.1):=by
 induction r with
 |nil=>rfl
 |cons h t ih=>rw[JW,JW,ih,h.1]
theorem KV.length(r:KV kvs vs):kvs.length=vs.length:=Paired.length r
end
def mL(r:aI (kV k) u):(bE P w).is k u=true:=by
 cases k with
 |inl i=>obtain⟨t,e⟩:=(show ∃t,u=Value.int i t from r);subst e;exact ri P w i t
 |inr x=>obtain⟨t,e⟩:=(show ∃t,u=Value.str x t from r);subst e;exact rj P w x t
theorem o9 :∀{ks}{us},aL (ks.map kV) us->ItemsAre (bE P w) ks us
 | [],_,r=>by rw[map_nil]at r;cases r;exact .nil
 |k::ks,_,r=>by
  cases r with
  |cons h t=>exact .cons (mL h) (o9 t)
abbrev KT(H:Hp):List (List Key×V)->List (List Key×Addr×Value)->Prop:=Paired λp q=>p.1=q.1/\H q.2.1=some (.tup (p.1.map kV))/\aI p.2 q.2.2
theorem KT.val(r:KT H kvs xs)(k):lW (jg kvs k) ((atKey xs k).map (·.2)):=by
 induction r with
 |nil=>exact True.intro
 | @cons p q ps J h t ih =>
  obtain⟨h1,_,h2⟩:=h;by_cases e:p.1=k
  .have U:=h1.symm.trans e;have b:atKey (q::J) k=some q.2:=by simp[atKey,find?_cons,U]
   rw[mJ e,b];exact h2
  .have U:¬ q.1=k:=λz=>e (h1.trans z)
   have b:atKey (q::J) k=atKey J k:=by simp[atKey,find?_cons,U]
   rw[mK e,b];exact ih
def KT.repl(r:KT H kvs xs)(k)(U:aI y u) :
  KT H (kvs.map λJ=>if J.1=k then(J.1,y)else J) (xs.map (putAt k u)):=by
 induction r with
 |nil=>exact .nil
 | @cons p q ps Z h t ih =>
  rw[JW,JW];refine .cons ?_ ih;obtain⟨h1,h2,Y⟩:=h;unfold putAt;by_cases e:p.1=k
  .rw[if_pos e,if_pos (h1.symm.trans e)];exact⟨h1,h2,U⟩
  .rw[if_neg e,if_neg (λz=>e (h1.trans z))];exact⟨h1,h2,Y⟩
theorem KT.put(r:KT H kvs xs)(k)(J:H b=some (.tup (k.map kV)))(z:aI y u) :
  KT H (gq kvs k y) (storedH xs k b u):=by
 have e:(kvs.any λU=>decide (U.1=k))=(atKey xs k).isSome:=by
  rw[rD,(r.val k).isSome_eq,isSome_map]
 unfold gq storedH;rw[e];by_cases q:(atKey xs k).isSome=true
 .rw[if_pos q,if_pos q];exact r.repl k z
 .rw[if_neg q,if_neg q];exact Paired.snoc r ⟨rfl,J,z⟩
def KT.keeps(r:KT H kvs xs)(J:∀b ys,H b=some (.tup ys)->H' b=some (.tup ys)):KT H' kvs xs:=
 Paired.mapP r λ_ _ z=>⟨z.1,J _ _ z.2.1,z.2.2⟩
section
variable{P:Program}{w:World}{H:Hp}{h:Heap}{a:Addr}
def C6(ok:HOk P w H h)(e:Rd H a u):bJ P w H h a u:=e.ok ok
def jl(ok:HOk P w H h)(e:Rd H a (.dK kvs)):kvs.length<=sizeLine/\(a==sysModules)=false/\∃vs,KV kvs vs/\h.DictOf (bE P w) a vs:=
 show bJ P w H h a (.dK kvs)from C6 ok e
def C7(ok:HOk P w H h)(e:H a=some (.dK kvs)):kvs.length<=sizeLine/\(a==sysModules)=false/\∃vs,KV kvs vs/\h.DictOf (bE P w) a vs:=jl ok (.inl e)
def kP(ok:HOk P w H h)(e:H a=some (.tup (ks.map kV))):(tupleKind (bE P w)).is h ks a:=by
 obtain⟨_,its,r,o,h1,h2,n,z⟩:=(show bJ P w H h a _ from ok a _ e);exact⟨o,its.toArray,n,h1,h2,z,by simpa using o9 r⟩
def lB(ok:HOk P w H h)(e:Rd H a (.dT kvs)):kvs.length<=sizeLine/\(a==sysModules)=false /\
  ∃xs,KT H kvs xs/\h.DictOfH (tupleKind (bE P w)) a xs:=by
 refine aE λZq U=>?_
 obtain⟨z,y,xs,r,o,es,ep,h1,h2,Y,Z,h5⟩:=(show bJ P w H h a _ from C6 ok e);refine U ?_;refine⟨z,y,xs,r,o,es,ep,h1,h2,Y,Z,λx hx=>?_,h5⟩;have all:∀{l}{m},KT H l m->∀x∈m,(tupleKind (bE P w)).is h x.1 x.2.1:=by
  intro l m q
  induction q with
  |nil=>intro x hx;exact nomatch hx
  | @cons p q ps qs J t ih =>
   intro x hx;rcases JY.mp hx with e|hx
   .subst e;exact kP ok (by rw[<- J.1];exact J.2.1)
   .exact ih x hx
 exact all r x hx
def G_(ok:HOk P w H h)(e:H a=some (.dT kvs)):kvs.length<=sizeLine/\(a==sysModules)=false /\
  ∃xs,KT H kvs xs/\h.DictOfH (tupleKind (bE P w)) a xs:=lB ok (.inl e)
end
def mM(H:Hp)(a:Addr)(y:V)(r:Option V):Prop:=
 (∃kvs k,Rd H a (.dK kvs)/\y=kV k/\r=jg kvs k)\/∃kvs k b,Rd H a (.dT kvs)/\y=.ref b/\H b=some (.tup (k.map kV))/\r=jg kvs k
def mN(H:Hp)(a:Addr)(y v:V)(H':Hp):Prop:=
 (∃kvs k,H a=some (.dK kvs)/\y=kV k/\kvs.length<sizeLine/\H'=upd H a (.dK (gq kvs k v))) \/
 ∃kvs k b,H a=some (.dT kvs)/\y=.ref b/\H b=some (.tup (k.map kV))/\kvs.length<sizeLine/\H'=upd H a (.dT (gq kvs k v))
theorem mN.k{k:Key}{v:V}(e:H a=some (.dK kvs))(z:kvs.length<sizeLine):mN H a (kV k) v (upd H a (.dK (gq kvs k v))):=.inl ⟨kvs,k,e,rfl,z,rfl⟩
theorem mN.t{k:List Key}{v:V}(e:H a=some (.dT kvs))(z:H b=some (.tup (k.map kV)))(J:kvs.length<sizeLine) :
  mN H a (.ref b) v (upd H a (.dT (gq kvs k v))):=.inr ⟨kvs,k,b,e,rfl,z,J,rfl⟩
section
variable{X:Cx}{pins:List (Addr×Obj)}{σ:St}{H:Hp}{s:Shared}{a:Addr}{y v:V}{u r:Value}{o:Option V}{A:Around}{E:Value->Shared->Prop}
theorem Inv.big(I:Inv X pins σ H s):sysModules<s.heap.objs.size:=by
 have h:=(I.mod.glob.keeps I.bk).lt;exact LW (by decide) h
def wJ(hu:A.units+1<cLine)(I:Inv X pins σ H s)(g:mM H a y (some v))(ry:aI y u)(h:∀Y s',Inv X pins σ H s'->aI v Y->Q Y s') :
  wpAny (model X.prog X.w) A (getItem (.ref a) u) Q E s:=by
 rcases g with⟨kvs,k,e,Z,l⟩|⟨kvs,k,b,e,Z,eb,l⟩
 .subst Z;obtain⟨z,hd,vs,J,dd⟩:=jl I.hok e;obtain⟨Y,hw,U⟩:=lW.some_of (by rw[l];exact J.val k);exact wpAny_getItem_of (mL ry) dd.mapOf hw (h Y _ (I.tok _) U)
 .subst Z;cases (show u=Value.ref b from ry);obtain⟨z,hd,xs,J,dd⟩:=lB I.hok e;obtain⟨Y,hw,U⟩:=lW.some_of (o:=(atKey xs k).map _) (by rw[l];exact J.val k);obtain⟨p,hp,ao⟩:=pe.mp hw;refine wpAny_getItem_heap (LD hu) (kP I.hok eb) dd hp ?_;rw[ao];exact h Y _ (I.tok _) U
def Jr(Z:A.units+1<cLine)(I:Inv X pins σ H s)(g:mM H a y o)(Y:aI y u)(h:∀s',Inv X pins σ H s'->Q (.bool o.isSome) s') :
  wpAny (model X.prog X.w) A (compareOp .In u (.ref a)) Q E s:=by
 rcases g with⟨kvs,k,e,U,l⟩|⟨kvs,k,b,e,U,eb,l⟩
 .subst U;obtain⟨z,hd,vs,J,dd⟩:=jl I.hok e;refine wpAny_in_of (mL Y) hd dd.mapOf ?_;rw[<- (J.val k).isSome_eq,<- l];exact h _ (I.tok _)
 .subst U;cases (show u=Value.ref b from Y);obtain⟨z,hd,xs,J,dd⟩:=lB I.hok e;refine wpAny_in_heap (LD Z) (kP I.hok eb) hd dd ?_;have q:=(J.val k).isSome_eq;rw[isSome_map]at q;rw[<- q,<- l];exact h _ (I.tok _)
def Bz(Z:A.units+1<cLine)(I:Inv X pins σ H s)(g:mM H a y o)(Y:aI y u)(h:∀s',Inv X pins σ H s'->Q (.bool (!o.isSome)) s') :
  wpAny (model X.prog X.w) A (compareOp .NotIn u (.ref a)) Q E s:=by
 rcases g with⟨kvs,k,e,U,l⟩|⟨kvs,k,b,e,U,eb,l⟩
 .subst U;obtain⟨z,hd,vs,J,dd⟩:=jl I.hok e;refine wpAny_notIn_of (mL Y) hd dd.mapOf ?_;rw[<- (J.val k).isSome_eq,<- l];exact h _ (I.tok _)
 .subst U;cases (show u=Value.ref b from Y);obtain⟨z,hd,xs,J,dd⟩:=lB I.hok e;refine wpAny_notIn_heap (LD Z) (kP I.hok eb) hd dd ?_;have q:=(J.val k).isSome_eq;rw[isSome_map]at q;rw[<- q,<- l];exact h _ (I.tok _)
def qe(I:Inv X pins σ H s)(U:Mut (H a))(hs:Heap.SameBut a s.heap h')(Y:∃q,h'.get? a=some q)(new:bJ X.prog X.w (upd H a J) h' a J) :
  Inv X pins σ (upd H a J) { s with heap:=h',toks:=t' }:=
 I.write (x:=a) (e:=a) U (.inl rfl) (λb q Z z=>(hs.2 b Z).trans z) Y new
def yi(z:kvs.length<=sizeLine)(hd:(a==sysModules)=false)(J:KV kvs vs)(dd:h'.DictOf (bE P w) a vs) :
  bJ P w H' h' a (.dK kvs):=⟨z,hd,vs,J,dd⟩
def wK(hu:A.units+1<cLine)(I:Inv X pins σ H s)(g:mN H a y v H')(ry:aI y u)(rv:aI v r)(h:∀s',Inv X pins σ H' s'->Q () s') :
  wpAny (model X.prog X.w) A (setItem (.ref a) u r) Q E s:=by
 rcases g with⟨kvs,k,e,Z,l,eH⟩|⟨kvs,k,b,e,Z,eb,l,eH⟩
 .subst Z eH;obtain⟨z,hd,vs,J,dd⟩:=C7 I.hok e;have hz:vs.length<=sizeLine:=by rw[<- J.length];exact z
  have hl:(gq kvs k v).length<=sizeLine:=by have:=iJ kvs k v;omega
  refine wpAny_setItem_pairs (mL ry) dd λh' U hs=>h _ ?_
  have he:∃q,h'.get? a=some q:=let ⟨q,_,_,Y,_⟩:=U;⟨q,Y⟩
  exact qe I (by rw[e];exact True.intro) hs he (yi hl hd (J.put k rv) U)
 .subst Z eH;cases (show u=Value.ref b from ry);obtain⟨z,hd,xs,J,dd⟩:=G_ I.hok e;have hz:xs.length<=sizeLine:=by rw[<- Paired.length J];exact z
  have hl:(gq kvs k v).length<=sizeLine:=by have:=iJ kvs k v;omega
  refine wpAny_setItem_heap (LD hu) (kP I.hok eb) dd λh' U hs=>h _ ?_
  refine aE λZq kq=>?_
  obtain⟨q,es,ep,Y,h2,h3,h4,_,h5⟩:=U;refine kq ?_;refine qe I (by rw[e];exact True.intro) hs ⟨q,Y⟩ ⟨hl,hd,_,(J.put k eb rv).keeps λc ys ec=>?_,q,es,ep,Y,h2,h3,h4,h5⟩;rw[bc (GF ec e (λz=>nomatch z))];exact ec
end
section
variable{X:Cx}{pins:List (Addr×Obj)}{σ:St}{H:Hp}{s:Shared}{a:Addr}{kvs:List (Key×V)}{k:Key}{u:Value}{A:Around}{E:Value->Shared->Prop}
end
def Ha(i:Expr):Prop:=∀z J,subscripted i false z J=operate [z,J] (getItem z J)
def BA{T id:String} 
  (hl:typeLookup (.type T) "__getitem__"=pure (some (.builtin id))) (hs:Ha slice)
  (h:wpAny (model prog w) A (eval value env) (λo U=>wpAny (model prog w) A (eval slice env) (λi z=>z.TypeIs o T/\wpAny (model prog w) A (getItem o i) Q E z) E U) E s) :
  wpAny (model prog w) A (eval (.Subscript value slice pos) env) Q E s:=by
 refine Subscript_ (Ko h (λo U Z=>Ko Z (λi z J=>?_) λ_ _ x=>x) λ_ _ x=>x);obtain⟨hT,J⟩:=J;refine ez ?_;refine ez (Mx hT hl ?_);have fin:wpAny (model prog w) A (subscripted slice false o i) (λr Y=>wpAny (model prog w) A (letTemporaryGo value o r >>= λ_=>pure r) Q E Y) E z:=by
  rw[hs o i];exact wpAny_operating (Ko J (λr Y ao=>ez (wpAny_letTemporaryGo (gx ao))) λ_ _ x=>x)
 first
  | exact gx (ez fin)
  | exact ez (gx _)
  | exact ez fin
def rE (I:Inv X pins σ H s) (g:mM H a y o):s.TypeIs (.ref a) "dict":=by
 rcases g with⟨kvs,k,e,_,_⟩|⟨kvs,k,b,e,_,_,_⟩
 .obtain⟨_,_,vs,_,dd⟩:=jl I.hok e;exact dd.typeIs
 .obtain⟨_,_,xs,_,dd⟩:=lB I.hok e;exact dd.typeIs
noncomputable def Hb(td ty:TE):TE:=λσ H Q=>td σ H λx H1=>ty σ H1 λy H2=>∃a v,x=.ref a/\mM H2 a y (some v)/\Q v H2
noncomputable def Js(ty td:TE):TE:=λσ H Q=>ty σ H λy H1=>td σ H1 λx H2=>∃a o,x=.ref a/\mM H2 a y o/\Q (.bl o.isSome) H2
noncomputable def BB(ty td:TE):TE:=λσ H Q=>ty σ H λy H1=>td σ H1 λx H2=>∃a o,x=.ref a/\mM H2 a y o/\Q (.bl (!o.isSome)) H2
noncomputable def Hc(td ty tv:TE):TS:=λD σ H=>tv σ H λv H1=>td σ H1 λx H2=>ty σ H2 λy J=>∃a z,x=.ref a/\mN J a y v z/\D.nx σ z
section
variable{X:Cx}{o i e value:Expr}{pos pos' tpos:Pos}{td ty tv:TE}
def vh(U:X.A.units+1<cLine)(ho:PE X o td)(hi:PE X i ty)(hs:Ha i):PE X (.Subscript o i pos) (Hb td ty):=by
 intro pins s σ H Q I h;refine BA PySem.F.slot_dict_getitem.lookup hs (thn (ho pins s σ H _ I h) λu Y ⟨x,H1,Z,rx,q1⟩=>thn (hi pins Y σ H1 _ Z q1) λiv s2 ⟨y,H2,J,ry,a,v,ex,g,q2⟩=>?_);subst ex;obtain rfl:u=Value.ref a:=rx;exact⟨rE J g,wJ U J g ry λw' s3 I3 z=>⟨v,H2,I3,z,q2⟩⟩
def yj(z:X.A.units+1<cLine)(hi:PE X i ty)(ho:PE X o td):PC X .In i o (Js ty td):=by
 intro pins s σ H Q I h;refine thn (hi pins s σ H _ I h) λiv J ⟨y,H1,U,Y,Z⟩=>thn (ho pins J σ H1 _ U Z) λu s2 ⟨x,H2,I2,rx,a,ov,ex,g,q2⟩=>?_
 subst ex;obtain rfl:u=Value.ref a:=rx;exact Jr z I2 g Y λs3 I3=>⟨.bl ov.isSome,H2,I3,rfl,q2⟩
def o_(z:X.A.units+1<cLine)(hi:PE X i ty)(ho:PE X o td):PC X .NotIn i o (BB ty td):=by
 intro pins s σ H Q I h;refine thn (hi pins s σ H _ I h) λiv J ⟨y,H1,U,Y,Z⟩=>thn (ho pins J σ H1 _ U Z) λu s2 ⟨x,H2,I2,rx,a,ov,ex,g,q2⟩=>?_
 subst ex;obtain rfl:u=Value.ref a:=rx;exact Bz z I2 g Y λs3 I3=>⟨.bl _,H2,I3,rfl,q2⟩
def BC(z:X.A.units+1<cLine)(ho:PE X o td)(hi:PE X i ty)(hv:PE X value tv)(hs:swapsWith value (some (.Subscript o i pos')) pos.line X.env=pure false) :
  PS X (.Assign [.Subscript o i pos'] value pos) (Hc td ty tv):=by
 intro pins s σ H D I h;refine wpAny_Assign_Subscript (thn (hv pins s σ H _ I h) λr J ⟨v,H1,U,Y,Z⟩=>thn (ho pins J σ H1 _ U Z) λu s2 ⟨x,H2,I2,rx,q2⟩=>thn (hi pins s2 σ H2 _ I2 q2) λiv s3 ⟨y,H3,I3,ry,a,H4,ex,g,q3⟩=>?_) hs;subst ex;obtain rfl:u=Value.ref a:=rx;exact wK z I3 g ry Y λs4 I4=>⟨σ,H4,I4,q3⟩
end
def rF (h:Heap) (z:sysModules<h.objs.size):bJ P w H (h.push { cls:=.type "dict",data:=.dict #[] }) h.objs.size (.dK []):=
 ⟨Kd _,Kx.mpr (LS (JV z)),[],.nil,Heap.DictOf.new h⟩
def yk (h:Heap) (z:sysModules<h.objs.size):bJ P w H (h.push { cls:=.type "dict",data:=.dict #[] }) h.objs.size (.dT []):=
 ⟨Kd _,Kx.mpr (LS (JV z)),[],.nil,_,#[],0,uw _ rfl,⟨rfl,rfl,rfl⟩,rfl,rfl,Lk⟩
noncomputable def Ea:TE:=λ_ H Q=>∀p,H p=none->Q (.ref p) (upd H p (.dK []))
noncomputable def Eb:TE:=λ_ H Q=>∀p,H p=none->Q (.ref p) (upd H p (.dT []))
section
variable{X:Cx}{pos:Pos}
def yl:PE X (.Dict [] [] pos) Ea:=λpins s σ H Q I h =>
 wpAny_Dict_empty ⟨.ref s.heap.objs.size,_,I.laid (a:=s.heap.objs.size) (o:=.dK []) (t':=s.toks) (λ_ _ q=>g4 _ q) (pb _) (rF s.heap I.big),rfl,h _ (I.hok.fresh (pb _))⟩
def ym:PE X (.Dict [] [] pos) Eb:=λpins s σ H Q I h =>
 wpAny_Dict_empty ⟨.ref s.heap.objs.size,_,I.laid (a:=s.heap.objs.size) (o:=.dT []) (t':=s.toks) (λ_ _ q=>g4 _ q) (pb _) (yk s.heap I.big),rfl,h _ (I.hok.fresh (pb _))⟩
end
def qf:List (TE×TE)->St->Hp->(List (V×V)->Hp->Prop)->Prop
 | [],_,H,Q=>Q [] H
 | (tk,tv)::r,σ,H,Q=>tk σ H λx H1=>tv σ H1 λy H2=>qf r σ H2 λps z=>Q ((x,y)::ps) z
abbrev VV:List (V×V)->List (Value×Value)->Prop:=Paired λp q=>aI p.1 q.1/\aI p.2 q.2
def PPs(X:Cx)(pos:Pos)(keys:List (Option Expr))(z:List Expr)(J:List (TE×TE)):Prop:=
 ∀pins s (σ:St) H Q,Inv X pins σ H s->qf J σ H Q ->
  wpAny (model X.prog X.w) X.A (evalPairs (pairTrees keys z X.env pos)) (λvs s'=>∃ps H',Inv X pins σ H' s'/\VV ps vs/\Q ps H') X.xe s
def BD :PPs X pos [] [] []:=λpins s σ H Q I h=>pairTrees_nil_walk ⟨[],H,I,.nil,h⟩
def yn(U:PE X k tk)(hv:PE X v tv)(Y:PPs X pos ks vs z) :
  PPs X pos (some k::ks) (v::vs) ((tk,tv)::z):=λpins s σ H Q I h =>
 pairTrees_cons_walk (thn (U pins s σ H _ I h) λu Z ⟨x,H1,I1,rx,q1⟩=>thn (hv pins Z σ H1 _ I1 q1) λw2 s2 ⟨y,H2,I2,ry,q2⟩ =>
  thn (Y pins s2 σ H2 _ I2 q2) λws s3 ⟨ps,H3,I3,J,q3⟩=>⟨(x,y)::ps,H3,I3,.cons ⟨rx,ry⟩ J,q3⟩)
noncomputable def iK(kvs z:List (Key×V)):List (Key×V):=z.foldl (λacc J=>gq acc J.1 J.2) kvs
def KV.merge:∀{z}{J}{kvs}{vs},KV z J->KV kvs vs->KV (iK kvs z) (merged vs J):=by
 intro z J kvs vs r
 induction r generalizing kvs vs with
 |nil=>intro q;exact q
 | @cons p q ps Y h t ih =>
  intro U;have e:KV (gq kvs p.1 p.2) (stored vs q.1 q.2):=by
   have:=U.put p.1 h.2;rw[<- h.1];exact this
  exact ih e
theorem jm:∀z kvs,(iK kvs z).length<=kvs.length+z.length
 | [],kvs=>by show kvs.length<=kvs.length+0;omega
 |p::r,kvs=>by
  have h1:=jm r (gq kvs p.1 p.2);have h2:=iJ kvs p.1 p.2;show(iK (gq kvs p.1 p.2) r).length<=_
  grind
theorem mO :∀{kvs}{J},VV (kvs.map λU=>(kV U.1,U.2)) J->∃z,Carries (bE P w) J z/\KV kvs z
 | [],_,r=>by rw[map_nil]at r;cases r;exact⟨[],True.intro,.nil⟩
 |p::kvs,_,r=>by
  cases r with
  | @cons a b as bs h t =>
   obtain⟨z,c,q⟩:=mO (P:=P) (w:=w) t;obtain⟨Z,Y⟩:=b;exact⟨(p.1,Y)::z,⟨mL h.1,rfl,c⟩,.cons ⟨rfl,h.2⟩ q⟩
noncomputable def Hd(z:List (TE×TE)):TE:=λσ H Q=>∀p,H p=none->qf z σ (upd H p (.dK [])) λps H2=>H2 p=some (.dK [])/\∃kvs,ps=kvs.map (λJ=>(kV J.1,J.2))/\kvs.length<=15/\Q (.ref p) (upd H2 p (.dK (iK [] kvs)))
def BE(h:PPs X pos keys values Y)(J:keys.all (·.isSome)=true)(hl:keys.length=values.length)(h0:keys≠[])
  (Z:keys.length<=15):PE X (.Dict keys values pos) (Hd Y):=by
 intro pins s σ H Q I q;have hn:=I.hok.fresh (pb s.heap.objs.size);have I1:=I.laid (t':=s.toks) (λ_ _ q=>g4 _ q) (pb _) (rF s.heap I.big);refine wpAny_Dict_walk (knd:=bE X.prog X.w) J hl h0 Z (thn (h pins _ σ _ _ I1 (q _ hn)) λws s2 ⟨ps,H2,I2,ao,e,kvs,ep,lk,q2⟩=>?_);refine aE λZq kq=>?_
 subst ep;obtain⟨rs,c,rk⟩:=mO ao;obtain⟨z,hd,a8,r0,dd⟩:=C7 I2.hok e;cases r0;refine kq ?_;refine⟨rs,c,dd,λh' U hs=>⟨.ref s.heap.objs.size,_,?_,rfl,q2⟩⟩;have hz:(iK [] kvs).length<=sizeLine:=by
  have h1:=jm kvs [];rw[length_nil]at h1;rw[Kp];omega
 have he:∃q,h'.get? s.heap.objs.size=some q:=let ⟨q,_,_,hq,_⟩:=U;⟨q,hq⟩
 exact qe I2 (by rw[e];exact True.intro) hs he (yi hz hd (rk.merge .nil) U)
structure M2(X:Cx)(o:Expr)(m:Str)(apos:Pos)(e f:Expr)(cpos:Pos):Prop where
 base:attributeBase o m X.env (eval o X.env)=eval o X.env
 few:((backTo cpos (starEach [e,f] X.env)).all (λx=>!x.1)&&(backToKw cpos (keywordEach [] X.env)).all (λx=>x.1.isSome)
 &&decide (([e,f]:List Expr).length+([]:List Keyword).length+(if ([]:List Keyword).isEmpty then 0 else 1)<30))=true
 line:(apos.endLine==cpos.line)=true
 trees:backTo cpos (starEach [e,f] X.env)=[(false,eval e X.env),(false,eval f X.env)]
def IsD(H:Hp)(a:Addr):Prop:=(∃kvs,Rd H a (.dK kvs))\/∃kvs,Rd H a (.dT kvs)
def t7(I:Inv X pins σ H s)(d:IsD H a) :
  s.TypeIs (.ref a) "dict"/\(∀b,Value.ref a=.ref b->∃z,s.heap.get? b=some z/\z.dict=none)/\(a==sysModules)=false:=by
 rcases d with⟨kvs,e⟩|⟨kvs,e⟩
 .obtain⟨_,hd,vs,_,dd⟩:=jl I.hok e;refine⟨dd.typeIs,λb q=>?_,hd⟩;cases q;obtain⟨z,_,_,h1,h2,_⟩:=dd;exact⟨z,h1,h2.2.1⟩
 .obtain⟨_,hd,xs,_,dd⟩:=lB I.hok e;refine⟨dd.typeIs,λb q=>?_,hd⟩;cases q;obtain⟨z,_,_,h1,h2,_⟩:=dd;exact⟨z,h1,h2.2.1⟩
section
variable{X:Cx}{pins:List (Addr×Obj)}{σ:St}{H:Hp}{s:Shared}{a:Addr}{y d:V}{u r:Value}{o:Option V}{A:Around}{E:Value->Shared->Prop}
def Ec(hu:A.units+1<cLine)(I:Inv X pins σ H s)(g:mM H a y o)(Y:aI y u)(rd:aI d r)(h:∀Z s',Inv X pins σ H s'->aI (o.getD d) Z->Q Z s') :
  wpAny (model X.prog X.w) A (call (.builtin "dict.get") [.ref a,u,r]) Q E s:=by
 rcases g with⟨kvs,k,e,U,l⟩|⟨kvs,k,b,e,U,eb,l⟩
 .subst U;obtain⟨z,hd,vs,J,dd⟩:=jl I.hok e;refine call_meetsIn PySem.F.slot_dict_get dd.typeIs PySem.F.entry_dict_get (PySem.F.args_dict_get_3 _ _ _) (meets_dict_get_default _ a (mL Y) hd r) ⟨_,dd.mapOf,h _ _ (I.tok _) ?_⟩;rw[l];exact(J.val k).getD rd
 .subst U;cases (show u=Value.ref b from Y);obtain⟨z,hd,xs,J,dd⟩:=lB I.hok e;refine call_meetsIn PySem.F.slot_dict_get dd.typeIs PySem.F.entry_dict_get (PySem.F.args_dict_get_3 _ _ _) (meetsH_dict_get_default (tupleKind _) a b hd r) ⟨LD hu,k,xs,kP I.hok eb,dd,h _ _ (I.tok _) ?_⟩;rw[l];exact(J.val k).getD rd
end
noncomputable def Ed(td ty tx:TE):TE:=λσ H Q=>td σ H λx H1=>∃a,x=.ref a/\IsD H1 a/\ty σ H1 λy H2=>tx σ H2 λz J=>∃o,mM J a y o/\Q (o.getD z) J
section
variable{X:Cx}{o e f:Expr}{apos cpos:Pos}{td ty tx:TE}
def yo (Y:X.A.units+1<cLine) (ho:PE X o td) (Z:PE X e ty) (hf:PE X f tx) (m:M2 X o "get" apos e f cpos):PE X (.Call (.Attribute o "get" apos) [e,f] [] cpos) (Ed td ty tx):=by
 intro pins s σ H Q I h;refine wpAny_Call_method m.base m.few m.line PySem.F.plainAttrs_dict PySem.F.slot_dict_get PySem.F.type_dict_get (thn (ho pins s σ H _ I h) λu s1 ⟨x,H1,U,rx,a,ex,d,q1⟩=>?_);subst ex;obtain rfl:u=Value.ref a:=rx;obtain⟨t1,t2,_⟩:=t7 U d;refine⟨t1,t2,?_⟩;rw[m.trees];refine LM rfl (Calls.evalArgs_plain (Md (thn (Z pins s1 σ H1 _ U q1) λiv s2 ⟨y,H2,I2,ry,q2⟩ =>
  Md (thn (hf pins s2 σ H2 _ I2 q2) λfv s3 ⟨z,H3,I3,rz,ov,g,q3⟩=>M4 ?_))))
 exact Ec Y I3 g ry rz λw' s4 I4 J=>⟨_,H3,I4,J,q3⟩
end
section
variable{X:Cx}{pins:List (Addr×Obj)}{σ:St}{H:Hp}{s:Shared}{a:Addr}{kvs:List (Key×V)}{A:Around}{E:Value->Shared->Prop}
end
section
variable{X:Cx}{pins:List (Addr×Obj)}{σ:St}{H:Hp}{s:Shared}{a:Addr}{y:V}{u:Value}{A:Around}{E:Value->Shared->Prop}
end
end L2
namespace L2.Srt
open PySem PySem.W PyProof.Rows List Option
section
variable{O:KeyOrd}{key:Nat->O.α}{N:Nat}{cmp:Nat->Nat->(Bool->Shared->Prop)->Shared->Prop}{s:Shared}
noncomputable def kk(key:Nat->O.α)(p:Array Nat)(i:Nat):O.α:=key (p.getD i 0)
def fD(key:Nat->O.α)(p:Array Nat)(k:Nat):Prop:=∀i j,i<=j->j<k->O.kle (kk key p i) (kk key p j)
def rG(key:Nat->O.α)(p:Array Nat)(k:Nat):Prop:=∀i j,i<=j->j<k->O.kle (kk key p j) (kk key p i)
def PB(N:Nat)(p:Array Nat):Prop:=p.Perm (range N).toArray
theorem PB.size(h:PB N p):p.size=N:=by have:=h.size_eq;simpa using this
theorem PB.lt(h:PB N p)(hi:i<N):p.getD i 0<N:=by
 have hs:i<p.size:=by rw[h.size];exact hi
 have z:p[i]∈(range N):=by
  have e:=(L4.mp h).mem_iff (a:=p[i])
  simp_all
 simp_all
theorem PB.rev(h:PB N p)(i j):PB N (kas_rev p i j):=(mirror_perm _ _ _ _).trans h
theorem PB.bub(h:PB N p)(i j):PB N (bubble p i j):=(bubble_perm _ _ _).trans h
def iL(h:p[i]?=q[j]?):kk key p i=kk key q j:=by
 unfold kk;rw[Ll,Ll,h]
def wL(hs:src<p.size)(hd:d<=src)(k) :
  kk key (bubble p src d) k=if k=src-d then kk key p src else if src-d<k/\k<=src then kk key p (k-1)else kk key p k:=by
 have e:=getElem?_bubble hs d hd k;by_cases h1:k=src-d
 .rw[if_pos h1]at e ⊢;exact iL e
 .rw[if_neg h1]at e ⊢;by_cases h2:src-d<k/\k<=src
  .rw[if_pos h2]at e ⊢;exact iL e
  .rw[if_neg h2]at e ⊢;exact iL e
def t8(z:j<=p.size)(k) :
  kk key (kas_rev p i j) k=if i<=k/\k<j then kk key p (i+j-1-k)else kk key p k:=by
 have e:=getElem?_mirror_all (i:=i) z k;by_cases h1:i<=k/\k<j
 .rw[if_pos h1]at e ⊢;exact iL e
 .rw[if_neg h1]at e ⊢;exact iL e
def dv(z:j<=p.size)(J:∀k,i<=k->k<j->kk key p k=kk key p (j-1))(k) :
  kk key (kas_rev p i j) k=kk key p k:=by
 rw[t8 z]
 grind
variable(hc:∀a b C,a<N->b<N->C (O.blt (key a) (key b)) s->cmp a b C s)
include hc
def rH{Q:α->Shared->Prop}(z:PB N p)(hi:i<N)(J:j<N)
  (h:(k (O.blt (kk key p i) (kk key p j))).kasWp cmp Q s):(KasT.ask (p.getD i 0) (p.getD j 0) k).kasWp cmp Q s:=
 hc _ _ _ (z.lt hi) (z.lt J) h
theorem yq{p:Array Nat}{z:Nat}{Q:Nat->Shared->Prop}(hp:PB N p)(hn:z<=N):∀(f n:Nat),n+f=z->1<=n->fD key p n ->
  (∀m,n<=m->m<=z->fD key p m->(m=z\/O.klt (kk key p m) (kk key p (m-1)))->Q m s)->(kas_asc p f n).kasWp cmp Q s
 |0,n,e,h1,hs,h=>h n (pb _) (Lj e) hs (.inl e)
 |f+1,n,e,h1,hs,h=>by
  show(KasT.ask (p.getD n 0) (p.getD (n-1) 0) λc=>if c=true then .ret n else kas_asc p f (n+1)).kasWp cmp Q s;have nN:n<N:=by omega
  refine rH hc hp nN (Km (Mi n 1) nN) ?_;cases J:O.blt (kk key p n) (kk key p (n-1))with
  |true =>
   rw[if_pos rfl];exact h n (pb _) (wh (Mt n (f+1)) (Lj e)) hs (.inr J)
  |false =>
   rw[if_neg (by simp)];refine yq hp hn f (n+1) ((KH n 1 f).trans e) (LF 1 n) (λi j U hj=>?_) λm a b c d=>h m (LO a) b c d
   by_cases Y:j<n
   .exact hs i j U Y
   .have ao:j=n:=KN (K2 hj) (KP.mp Y);subst ao;by_cases Z:i=j
    .subst Z;exact K3 _
    .exact LZ (hs i (j-1) (L0 (Lm U Z)) (Nm h1 Nat.one_pos)) J
def vi{p:Array Nat}{n z:Nat}{Q:Nat×Array Nat->Shared->Prop}(U:PB N p)(hn:z<=N)(h1:1<=n)(J:n<=z)(hs:rG key p n)
  (h:∀m Y,PB N Y->1<=m->m<=z->fD key Y m->Q (m,Y) s):(kas_tail3 n z p).kasWp cmp Q s:=by
 unfold kas_tail3;rw[L9];have hz:n<=p.size:=by rw[U.size];exact wh J hn
 refine yq hc (U.rev 0 n) hn (z-n) n (MK J) h1 (λi j Z hj=>?_) λm a b c _=>h m _ (U.rev 0 n) (wh h1 a) b c
 rw[t8 hz,t8 hz,if_pos ⟨Kd _,Km Z hj⟩,if_pos ⟨Kd _,hj⟩];exact hs _ _ (by omega) (by omega)
theorem qg{J:Nat}{Q:Array Nat×Nat×Nat->Shared->Prop}(hn:J<=N):∀(f:Nat) (p:Array Nat) (n q:Nat),n+f=J->PB N p->rG key p n->q+1<=n ->
  (∀i,n-(q+1)<=i->i<n->kk key p i=kk key p (n-1)) ->
  (∀z m q',n<=m->m<=J->PB N z->rG key z m->q'+1<=m->(∀i,m-(q'+1)<=i->i<m->kk key z i=kk key z (m-1))->Q (z,m,q') s) ->
  (kas_desc f p n q).kasWp cmp Q s
 |0,p,n,q,e,hp,hs,hq,he,h=>h p n q (pb _) (by omega) hp hs hq he
 |f+1,p,n,q,e,hp,hs,hq,he,h=>by
  show(KasT.ask (p.getD n 0) (p.getD (n-1) 0) λc =>
   if c=true then(if q > 0 then kas_desc f (kas_rev p (n-(q+1)) n) (n+1) 0 else kas_desc f p (n+1) 0)
   else .ask (p.getD (n-1) 0) (p.getD n 0) λd=>if d=true then .ret (p,n,q)else kas_desc f p (n+1) (q+1)).kasWp cmp Q s
  have nN:n<N:=by omega
  have hz:n<=p.size:=by rw[hp.size];exact K9 nN
  refine rH hc hp nN (Km (Mi n 1) nN) ?_;cases U:O.blt (kk key p n) (kk key p (n-1))with
  |true =>
   rw[if_pos rfl];have Y:∀z:Array Nat,(∀k,kk key z k=kk key p k)->rG key z (n+1):=by
    intro z hk i j Z hj;rw[hk,hk];by_cases ao:j<n
    .exact hs i j Z ao
    .have a5:j=n:=KN (K2 hj) (KP.mp ao);subst a5;by_cases aO:i=j
     .subst aO;exact K3 _
     .exact LZ (LP U) (hs i (j-1) (L0 (Lm Z aO)) (Nm (JX (Nat.succ_pos q) hq) Nat.one_pos))
   by_cases a3:q > 0
   .rw[if_pos a3];exact qg hn f _ (n+1) 0 ((KH n 1 f).trans e) (hp.rev _ _) (Y _ (dv hz he)) (LF 1 n) (λi a b=>by congr 1;omega)
     λz m q' a=>h z m q' (LO a)
   .rw[if_neg a3];exact qg hn f p (n+1) 0 ((KH n 1 f).trans e) hp (Y _ λ_=>rfl) (LF 1 n) (λi a b=>by congr 1;omega) λz m q' a=>h z m q' (LO a)
  |false =>
   rw[if_neg (by simp)];refine rH hc hp (Km (Mi n 1) nN) nN ?_;cases a0:O.blt (kk key p (n-1)) (kk key p n)with
   |true =>
    rw[if_pos rfl];exact h p n q (pb _) (by omega) hp hs hq he
   |false =>
    rw[if_neg (by simp)];have a4:kk key p n=kk key p (n-1):=KeyOrd.kle_antisymm a0 U;refine qg hn f p (n+1) (q+1) ((KH n 1 f).trans e) hp (λi j Z hj=>?_) (Nat.succ_le_succ hq) (λi a b=>?_) λz m q' a=>h z m q' (LO a)
    .by_cases ao:j<n
     .exact hs i j Z ao
     .have a5:j=n:=KN (K2 hj) (KP.mp ao);subst a5;by_cases aO:i=j
      .subst aO;exact K3 _
      .rw[a4];exact hs i (j-1) (L0 (Lm Z aO)) (Nm (JX (Nat.succ_pos q) hq) Nat.one_pos)
    .rw[KU];by_cases ba:i=n
     .subst ba;rfl
     .rw[a4];exact he i (by omega) (by omega)
def mP{n z:Nat}{Q:Nat×Array Nat->Shared->Prop}(hp:PB N p)(hn:z<=N)(a3:n+1<=z)(hs:rG key p (n+1))
  (h:∀m Y,PB N Y->1<=m->m<=z->fD key Y m->Q (m,Y) s):(kas_descPart n z p).kasWp cmp Q s:=by
 unfold kas_descPart;rw[L9];refine qg hc hn (z-_) p _ 0 (by omega) hp hs (by omega) (λi a b=>by congr 1;omega) λY m q' a5 Z U ao hq he=>?_
 dsimp only;have hz:m<=Y.size:=by rw[U.size];omega
 by_cases J:q' > 0
 .rw[if_pos J];refine vi hc (U.rev _ _) hn (by omega) Z (λi j a0 hj=>?_) h;rw[dv hz he,dv hz he];exact ao i j a0 hj
 .rw[if_neg J];exact vi hc U hn (by omega) Z ao h
def BF{p:Array Nat}{z:Nat}{Q:Nat×Array Nat->Shared->Prop}(hp:PB N p)(hn:z<=N)(h1:1<=z)
  (h:∀m p',PB N p'->1<=m->m<=z->fD key p' m->Q (m,p') s):(kas_count z p).kasWp cmp Q s:=by
 unfold kas_count;rw[L9];refine yq hc hp hn (z-1) 1 (by omega) (pb _) (λi j U hj=>by have:i=j:=KN U (wh (K2 hj) (Kd i));subst this;exact K3 _) λn Y a3 Z b2=>?_
 by_cases ao:n=z
 .rw[if_pos (by simpa using ao)];exact h n p hp Y a3 Z
 .rw[if_neg (by simpa using ao)];have nr:n<z:=Lm a3 ao;have nN:=JX nr hn;have a7:O.klt (kk key p n) (kk key p (n-1)):=b2.resolve_left ao;by_cases a4:n > 1
  .rw[if_pos a4];refine rH hc hp (Km (Kd n) nN) (Km (Mi n 1) nN) ?_;cases a5:O.blt (kk key p 0) (kk key p (n-1))with
   |true =>
    rw[if_pos rfl];exact h n p hp Y a3 Z
   |false =>
    rw[if_neg (by simp)];have a8:n<=p.size:=by rw[hp.size];exact K9 nN
    have J:∀k,0<=k->k<n->kk key p k=kk key p (n-1):=by
     intro k _ hk;have a1:=Z 0 k (Kd k) hk;have a2:=Z k (n-1) (L0 hk) (Nm Y Nat.one_pos);exact KeyOrd.kle_antisymm a2 (LZ a5 a1)
    refine mP hc (hp.rev _ _) hn nr (λi j U hj=>?_) h;rw[dv a8 J,dv a8 J];by_cases a6:j<n
    .rw[J i (Kd _) (Km U a6),J j (Kd _) a6];exact K3 _
    .have b5:j=n:=KN (K2 hj) (KP.mp a6);subst b5;by_cases aO:i=j
     .subst aO;exact K3 _
     .rw[J i (Kd _) (Lm U aO)];exact LP a7
  .rw[if_neg a4];have a9:n=1:=KN (KP.mp a4) Y;subst a9;refine mP hc hp hn nr (λi j U hj=>?_) h;by_cases aO:i=j
   .subst aO;exact K3 _
   .have cd:i=0:=by omega
    have ck:j=1:=by omega
    subst cd;subst ck
    exact LP a7
theorem qh{p:Array Nat}{k:Nat}{Q:Nat->Shared->Prop}(hp:PB N p)(hk:k<N)(hs:fD key p k):∀(f l r:Nat),r<=l+f->l<=r->r<=k ->
  (∀i,i<l->O.kle (kk key p i) (kk key p k))->(∀i,r<=i->i<k->O.klt (kk key p k) (kk key p i)) ->
  (∀l,l<=k->(∀i,i<l->O.kle (kk key p i) (kk key p k))->(∀i,l<=i->i<k->O.klt (kk key p k) (kk key p i))->Q l s)->(kas_place p k f l r).kasWp cmp Q s
 |0,l,r,hf,Z,z,U,Y,h=>by
  have:l=r:=KN Z hf;subst this;exact h l z U Y
 |f+1,l,r,hf,Z,z,U,Y,h=>by
  show(if l>=r then KasT.ret l else .ask (p.getD k 0) (p.getD ((l+r) / 2) 0) λc=>if c=true then kas_place p k f l ((l+r) / 2)else kas_place p k f ((l+r) / 2+1) r).kasWp cmp Q s;by_cases ao:l>=r
  .rw[if_pos ao];have:l=r:=KN Z ao;subst this;exact h l z U Y
  .rw[if_neg ao];obtain⟨m,em,m1,m2⟩:∃m,(l+r) / 2=m/\l<=m/\m<r:=⟨_,rfl,by omega,by omega⟩;rw[em];have mk:=JX m2 z;refine rH hc hp hk (LW mk hk) ?_;cases J:O.blt (kk key p k) (kk key p m)with
   |true =>
    rw[if_pos rfl];exact qh hp hk hs f l m (by omega) m1 (K9 mk) U (λi a b=>KeyOrd.klt_of_klt_of_kle J (hs _ _ a b)) h
   |false =>
    rw[if_neg (by simp)];exact qh hp hk hs f (m+1) r (by omega) m2 z (λi a=>LZ (hs i m (K2 a) mk) (show O.kle _ _ from J)) Y h
theorem C8{Q:Array Nat->Shared->Prop}:∀(f:Nat) (p:Array Nat) (k:Nat),k+f=N->PB N p->fD key p k->(∀p',PB N p'->fD key p' N->Q p' s)->(kas_bin f p k).kasWp cmp Q s
 |0,p,k,e,Z,hs,h=>by
  have:k=N:=by omega
  subst this;exact h p Z hs
 |f+1,p,k,e,Z,hs,h=>by
  show((kas_place p k k 0 k).bind λl=>kas_bin f (bubble p k (k-l)) (k+1)).kasWp cmp Q s;rw[L9];refine qh hc Z (by omega) hs k 0 k (LF k 0) (Kd k) (pb k) (λi a=>absurd a (Nat.not_lt_zero i)) (λi a b=>absurd b (KP.mpr a)) λl hl a0 a1=>?_
  refine C8 f _ (k+1) (by omega) (Z.bub _ _) (λi j J hj=>?_) h;have a2:k<p.size:=by rw[Z.size];omega
  have val:∀i,i<k+1->(i<l/\kk key (bubble p k (k-l)) i=kk key p i)\/(i=l/\kk key (bubble p k (k-l)) i=kk key p k)\/∃U,i=U+1/\l<=U/\U<k/\kk key (bubble p k (k-l)) i=kk key p U:=λi hi=>by
   rw[wL a2 (Mi k l),Nat.sub_sub_self hl];rcases Ml i l with q|q|q
   .exact .inl ⟨q,by rw[if_neg (JV q),if_neg λz=>Nb q z.1]⟩
   .exact .inr (.inl ⟨q,by rw[if_pos q]⟩)
   .obtain⟨c,rfl⟩:=Le q;exact .inr (.inr ⟨l+c,rfl,Mt _ _,Mo hi,by rw[if_neg (KR q),if_pos ⟨q,K2 hi⟩];rfl⟩)
  rcases val i (Km J hj)with⟨a,e1⟩|⟨a,e1⟩|⟨U,a,b,c,e1⟩<;>rcases val j hj with⟨Y,e2⟩|⟨Y,e2⟩|⟨j',Y,b',c',e2⟩<;>rw[e1,e2]
  .exact hs i j J (JX Y hl)
  .exact a0 i a
  .exact hs i j' (wh (K9 a) b') c'
  .exact absurd Y (KP.mpr (a▸J))
  .exact K3 _
  .exact LP (a1 j' b' c')
  .exact absurd (Km (a▸J:U+1<=j) Y) (KP.mpr (Nat.le_succ_of_le b))
  .exact absurd (Y▸a▸J:U+1<=l) (Nat.not_le.mpr (Nat.lt_succ_of_le b))
  .exact hs U j' (Nat.le_of_succ_le_succ (Y▸a▸J:U+1<=j'+1)) c'
def Ee(h1:1<=N)(h:∀p,PB N p->fD key p N->Q p s):(kas_sort N).kasWp cmp Q s:=by
 unfold kas_sort;rw[L9];refine BF hc (Array.Perm.refl _) (pb _) h1 λm Y z Z ao J=>?_
 by_cases U:m<N
 .rw[if_pos U,show max m 1=m by omega];exact C8 hc _ _ _ (by omega) z J h
 .rw[if_neg U];have:m=N:=by omega
  subst this;exact h Y z J
end
end L2.Srt
namespace L2.Srt
open PySem PyProof.Rows List Option
theorem mQ:∀a,HT.lexLt a a=false
 | []=>rfl
 |x::r=>by rw[HT.lexLt_cons,if_pos rfl];exact mQ r
theorem kQ:∀a b c,HT.lexLt a b=true->HT.lexLt b c=true->HT.lexLt a c=true
 | [],[],_,h,_=>by cases h
 | [],_::_,[],_,h=>by cases h
 | [],_::_,_::_,_,_=>rfl
 | _::_,[],_,h,_=>by cases h
 | _::_,_::_,[],_,h=>by cases h
 |x::a,y::b,z::c,h1,h2=>by
  rw[HT.lexLt_cons]at h1 h2 ⊢;by_cases J:x=y
  .rw[if_pos J]at h1;by_cases U:y=z
   .rw[if_pos U]at h2;rw[if_pos (J.trans U)];exact kQ a b c h1 h2
   .simp_all
  .grind
theorem kR:∀a b,HT.lexLt a b=false->HT.lexLt b a=false->a=b
 | [],[],_,_=>rfl
 | [],_::_,h,_=>by cases h
 | _::_,[],_,h=>by cases h
 |x::a,y::b,h1,h2=>by
  rw[HT.lexLt_cons]at h1 h2;by_cases e:x=y
  .rw[if_pos e]at h1;rw[if_pos e.symm]at h2;rw[e,kR a b h1 h2]
  .grind
def BG(a b c)(h:HT.lexLt a c=true):HT.lexLt a b=true\/HT.lexLt b c=true:=by
 cases h1:HT.lexLt a b with
 |true=>exact .inl rfl
 |false =>
  cases h2:HT.lexLt b a<;>first|exact .inr (kQ b a c h2 h)|(rw[kR a b h1 h2]at h;exact .inr h)
noncomputable def e_:KeyOrd:=⟨List Int,HT.lexLt,mQ,kQ,BG,kR⟩
noncomputable def dw:KeyOrd:=⟨Int,λa b=>decide (a<b),λa=>J5 (by omega),λa b c h1 h2=>J1 (by have:=Kz h1;have:=Kz h2;omega),
 λa b c h=>by
  have:=Kz h;by_cases q:a<b
  .exact .inl (J1 q)
  .exact .inr (J1 (by omega)),
 λa b h1 h2=>by have:=of_decide_eq_false h1;have:=of_decide_eq_false h2;omega⟩
section
variable(O:KeyOrd)
noncomputable def lY(x:O.α):List O.α->List O.α
 | []=>[x]
 |y::r=>if O.blt y x then y::lY x r else x::y::r
noncomputable def iw:List O.α->List O.α
 | []=>[]
 |x::r=>lY O x (iw r)
theorem kS(x):∀l,(lY O x l).Perm (x::l)
 | []=>.refl _
 |y::r=>by
  show(if O.blt y x then y::lY O x r else x::y::r).Perm _;split
  .exact(Perm.cons y (kS x r)).trans (.swap x y r)
  .exact .refl _
theorem fb:∀l,(iw O l).Perm l
 | []=>.refl _
 |x::r=>(kS O x _).trans (.cons x (fb r))
theorem mR(x):∀l,l.Pairwise O.kle->(lY O x l).Pairwise O.kle
 | [],_=>pairwise_singleton _ _
 |y::r,h=>by
  show(if O.blt y x then y::lY O x r else x::y::r).Pairwise O.kle;obtain⟨h1,h2⟩:=LC.mp h;by_cases q:O.blt y x=true
  .rw[if_pos q];refine LC.mpr ⟨λz hz=>?_,mR x r h2⟩;rcases JY.mp ((kS O x r).mem_iff.mp hz)with e|e
   .rw[e];exact LP q
   .exact h1 z e
  .rw[if_neg q];have J:=Bool.eq_false_iff.mpr q;refine LC.mpr ⟨λz hz=>?_,h⟩;rcases JY.mp hz with e|e
   .rw[e];exact J
   .exact LZ J (h1 z e)
theorem d9:∀l,(iw O l).Pairwise O.kle
 | []=>Pairwise.nil
 |x::r=>mR O x _ (d9 r)
theorem jW:∀{a b:List O.α},a.Perm b->a.Pairwise O.kle->b.Pairwise O.kle->a=b
 | [],b,p,_,_=>p.nil_eq
 |x::a,[],p,_,_=>by have:=p.length_eq;simp at this
 |x::a,y::b,p,J,U=>by
  obtain⟨Y,Z⟩:=LC.mp J;obtain⟨b1,b2⟩:=LC.mp U;have e:x=y:=by
   have hx:=p.mem_iff.mp (.head _);have hy:=p.mem_iff.mpr (.head _);rcases JY.mp hx with q|q
   .exact q
   .rcases JY.mp hy with z|z
    .exact z.symm
    .exact KeyOrd.kle_antisymm (Y y z) (b1 x q)
  subst e;rw[jW (p.cons_inv) Z b2]
def jX(p:a.Perm l)(h:a.Pairwise O.kle):a=iw O l:=jW O (p.trans (fb O l).symm) h (d9 O l)
def oI(p:a.Perm b):iw O a=iw O b:=jX O ((fb O a).trans p) (d9 O a)
def yr{a:List O.α}(h:a.Pairwise O.kle):iw O a=a:=(jX O (.refl a) h).symm
end
def i8{α:Type}(xs)(d:α):(range xs.length).map (λi=>xs.getD i d)=xs:=by
 apply Mz;intro i;rw[J9];by_cases q:i<xs.length
 .simp_all
 .simp_all
def Ef(J:PB xs.length p)(Y:fD (λi=>xs.getD i d) p xs.length):p.toList.map (λi=>xs.getD i d)=iw O xs:=by
 refine jX O ?_ ?_
 .have h:=(L4.mp J).map λi=>xs.getD i d
  have e:=i8 xs d;rw[e]at h;exact h
 .rw[pairwise_iff_getElem];intro i j hi U z;rw[pd,Array.length_toList]at hi U;have hz:=J.size;have q:=Y i j (K9 z) (by omega);simp only[getElem_map];have Z:p.getD i 0=p[i]:=by simp[hi]
  have ej:p.getD j 0=p[j]:=by simp[U]
  unfold kk at q;rw[Z,ej]at q;exact q
end L2.Srt
namespace L2.Srt
open PySem PySem.W PySem.Calls PyProof.Rows List Option
section
variable{prog:Program}{w:World}{A:Around}{E:Value->Shared->Prop}{s:Shared}
def KOk(g:SortKind):Prop:=g=tuples' true\/g=general'\/g=oneType'
def qi {KO:SortKind->Prop}{O:KeyOrd}{key:Nat->O.α}{a:Addr}{vs:List Value}{n:Nat}{R:PySem.Fin->Shared->Prop} (ho:s.heap.get? a=some (seqObj "list" vs.toArray n)) (a0:vs.length<64)
  (hk:2<=vs.length->∀s' Q,(∀b o,b≠a->s.heap.get? b=some o->s'.heap.get? b=some o)->(∀g,KO g->Q g s')->wpAny (model prog w) A (keyKind' vs.toArray) Q (λ_ _=>False) s')
  (hc:∀g,KO g->∀s' i j C,(∀b o,b≠a->s.heap.get? b=some o->s'.heap.get? b=some o)->i<vs.length->j<vs.length->C (O.blt (key i) (key j)) s' ->
   wpAny (model prog w) A (keyLt' g (vs.getD i Value.none) (vs.getD j Value.none)) C (λ_ _=>False) s')
  (h:∀p,PB vs.length p->fD key p vs.length->R (.done (.ret .none)) { s with heap:=sortedHeap s.heap a vs (p.toList.map λi=>vs.getD i Value.none).toArray }) :
  wpAny (model prog w) A (Builtin.«list.sort» ⟨[.ref a],[]⟩) R E s:=by
 rw[list_sort_plain];have ha:=r4 ho;refine ez (listItems_at ho rfl ?_);refine ez (listUpdate_at ho rfl ?_ (by rw[ro,Kp];omega) (Kd _));obtain⟨e1,Z⟩:∃e1,(s.heap.update a (Obj.mapSeq λ_=>(#[]:Array Value))).get? a=some (seqObj "list" #[] e1):=⟨_,get?_update_seq ho λ_=>#[]⟩;refine ez (seqEpoch_at Z rfl ?_);refine ez (wpAny_newTuple ?_ (by show vs.length<=_;rw[Kp];omega));refine ez (wpAny_newList ?_ (Kd _));refine Kr ?_;have J:(((s.heap.update a (Obj.mapSeq λ_=>(#[]:Array Value))).push (seqObj "tuple" vs.toArray 0)).push (seqObj "list" #[] 0)).get? a=some (seqObj "list" #[] e1):=g4 _ (g4 _ Z);have kp:∀b o,b≠a->s.heap.get? b=some o->(((s.heap.update a (Obj.mapSeq λ_=>(#[]:Array Value))).push (seqObj "tuple" vs.toArray 0)).push (seqObj "list" #[] 0)).get? b=some o:=λb o hb e =>
  g4 _ (g4 _ ((K4 _ _ (LS hb)).trans e))
 show wpAny (model prog w) A _ R E { s with heap:=((s.heap.update a (Obj.mapSeq λ_=>(#[]:Array Value))).push (seqObj "tuple" vs.toArray 0)).push (seqObj "list" #[] 0) };dsimp only;have b3:vs.toArray.size=vs.length:=by simp
 by_cases h2:vs.toArray.size<2
 .rw[if_pos h2,if_pos h2];refine ez (gx ?_);rw[StateT.run_pure];refine ez (gx ?_);dsimp only;refine ez (seqEpoch_at J rfl ?_);refine ez (listUpdate_at J rfl ?_ (Kd _) (by rw[Mj];show(pairsOf vs).size<=_;rw[pairsOf_size,Kp];omega));simp only[LQ,J7,KS];have e:((arrOf (SortSt.mk' general' (vs.toArray.zip vs.toArray) #[] 7 none)).map (·.2))=((range vs.length).toArray.toList.map λi=>vs.getD i Value.none).toArray:=by
   have e2:(arrOf (SortSt.mk' general' (vs.toArray.zip vs.toArray) #[] 7 none))=vs.toArray.zip vs.toArray:=rfl;rw[e2];apply Array.toList_inj.mp;rw[i8];simp[map_snd_zip]
  refine gx ?_;have q:=h (range vs.length).toArray (Array.Perm.refl _) (λi j b5 hj=>by
   have:i=j:=by omega
   subst this;exact K3 _)
  rw[<- e]at q;exact q
 .rw[if_neg h2,if_neg h2];have ao:2<=vs.length:=by omega
  refine ez (Ko (hk ao _ (λg s0=>KO g/\s0={ s with heap:=((s.heap.update a (Obj.mapSeq λ_=>(#[]:Array Value))).push (seqObj "tuple" vs.toArray 0)).push (seqObj "list" #[] 0) }) kp λg z=>⟨z,rfl⟩) (λg s0 z=>?_) λ_ _ x=>x.elim);obtain⟨z,rfl⟩:=z;refine ez (Ko (kat_run (Q:=λU s'=>∃p,p.size=vs.length/\arrOf U=p.map (kas_item (vs.toArray.zip vs.toArray))/\failedOf U=none/\PB vs.length p/\fD key p vs.length/\s'={ s with heap:=((s.heap.update a (Obj.mapSeq λ_=>(#[]:Array Value))).push (seqObj "tuple" vs.toArray 0)).push (seqObj "list" #[] 0) })
   (G:=λp s'=>PB vs.length p/\fD key p vs.length/\s'={ s with heap:=((s.heap.update a (Obj.mapSeq λ_=>(#[]:Array Value))).push (seqObj "tuple" vs.toArray 0)).push (seqObj "list" #[] 0) })
   rfl ao a0 (λp' U s' a1 a2 a3 a4=>⟨p',a1,a2,a3,a4⟩)
   (Ee (key:=key) (λi j C hi hj q=>hc g z _ i j C kp hi hj q) (by omega) λp hp hr=>⟨hp,hr,rfl⟩)) ?_ λ_ _ e=>e)
  rintro ⟨⟨⟩,U⟩ s' ⟨p,hp,a7,hf,a8,a9,rfl⟩;dsimp only;have Y:=kat_snds rfl a7;refine ez (seqEpoch_at J rfl ?_);refine ez (listUpdate_at J rfl ?_ (Kd _) (by rw[Y];refine wh (Lj ?_) (show vs.length<=_ by rw[Kp];omega);simp[hp]));rw[hf,Y];simp only[LQ,J7,KS];exact gx (h p a8 a9)
theorem lC :∀{vs z}{ns ms} i,IntsAre vs ns->IntsAre z ms->fin=decide (ns.length<ms.length)->C (HT.lexLt ns ms) s->KatLex prog w A true fin C (vs.zip z) i s
 | _,_,_,_,i,.nil,.nil,hf,h=>by
  refine kat_nil ?_;rw[hf];exact h
 | _,_,_,_,i,.nil,.cons c u hw,hf,h=>by
  refine kat_nil ?_;rw[hf,J1 (by simp)];exact h
 | _,_,_,_,i,.cons a t hv,.nil,hf,h=>by
  refine kat_nil ?_;rw[hf,J5 (by simp)];exact h
 | _,_,_,_,i,.cons (ns:=ns) a t hv,.cons (ns:=ms) c u hw,hf,h=>by
  rw[HT.lexLt_cons]at h;refine kat_cons (wpAny_eqBool_int ?_);by_cases e:a=c
  .rw[if_pos e]at h;have q:(a==c)=true:=by rw[e];exact K5 c
   rw[q];refine kat_yes (lC _ hv hw ?_ h);rw[hf];simp
  .rw[if_neg e]at h;have q:=Kx.mpr e;rw[q];refine kat_no ?_;cases i with
   |zero=>exact oneLt_int h
   |succ i=>exact kat_one _ _ (lt_int h)
def BH(hk:KOk g){a b:Addr}{its z:Array Value}{ns ms:List Int}{C:Bool->Shared->Prop}(ha:IsTup s.heap a its)(hb:IsTup s.heap b z)(hi:IntsAre its.toList ns)(Z:IntsAre z.toList ms)
  (hu:A.units<cLine) (h:C (HT.lexLt ns ms) s):wpAny (model prog w) A (keyLt' g (.ref a) (.ref b)) C E s:=by
 rcases hk with rfl|rfl|rfl
 .obtain⟨o,ho,_,n,hd⟩:=id ha;obtain⟨o2,U,_,n2,J⟩:=id hb;refine kat_lt ho hd U J (lC 0 hi Z ?_ h);have z1:its.size=ns.length:=by rw[<- hi.length];simp
  have z2:z.size=ms.length:=by rw[<- Z.length];simp
  rw[z1,z2]
 .show wpAny _ _ (oneLt' false _ _) _ _ _;exact kat_one _ _ (HT.lt_tupInts ha hb hi Z hu h)
 .rw[keyLt'_oneType,oneLt'_eq];refine ez (wpAny_cRoomFor hu ?_);refine aE λZq kq=>?_
  obtain⟨⟨cls,dd,data,sl⟩,ho,hc,n,hd⟩:=id ha;obtain⟨⟨a4,a0,data2,a1⟩,U,Y,n2,J⟩:=id hb;simp only at hc hd Y J;subst hc hd Y J;refine kq ?_;refine ez (wpAny_callSpecialIfBound?_slot ⟨_,ho,rfl⟩ PySem.F.slot_tuple_lt (Mw PySem.F.slot_tuple_lt ⟨_,ho,rfl⟩ PySem.F.entry_tuple_lt (PySem.F.args_tuple_lt_2 _ _) (HT.tuple_lt_ints a b its z n n2 dd a0 sl a1 ns ms hi Z) ⟨ho,U,?_⟩));exact K1 h
theorem lD:∀(vs:List Value) {Q},(∀v∈vs,∃a its ns,v=.ref a/\IsTup s.heap a its/\IntsAre its.toList ns) ->
  (∀fs,fs.length=vs.length->(∀f∈fs,∀v,f=some v->∃n t,v=Value.int n t)->Q fs s)->wpAny (model prog w) A (vs.mapM firstOfTuple') Q E s
 | [],Q,_,h=>by rw[mapM_nil];exact gx (h [] rfl (by simp))
 |v::vs,Q,hv,h=>by
  obtain⟨a,its,ns,rfl,⟨o,ho,hc,n,hd⟩,hi⟩:=hv v (.head _);rw[mapM_cons];refine ez ?_;refine ez (Looks.here (show Looks (model prog w) s.heap (typeOf (.ref a)) o.cls from(Looks.ld ho).andThen .now) ?_);rw[hc,if_neg (by first|decide|simp)];refine ez (listItems_at ho hd (gx ?_));refine ez (lD vs (Q:=λbs s'=>wpAny (model prog w) A (pure (its[0]?::bs)) Q E s') (λu U=>hv u (.tail _ U)) λfs Y Z=>?_);refine gx (h _ (by simp[Y]) λf hm u e=>?_);rcases JY.mp hm with z|z
  .rw[z]at e;have J:u∈its.toList:=by
    rw[<- Kj]at e;exact L8 e
   exact hi.all u J
  .exact Z f z u e
def wM{vs:List Value}{Q:SortKind->Shared->Prop}(h2:2<=vs.length)(hv:∀v∈vs,∃a its ns,v=.ref a/\IsTup s.heap a its/\IntsAre its.toList ns)(h:∀g,KOk g->Q g s) :
  wpAny (model prog w) A (keyKind' vs.toArray) Q E s:=by
 rw[kat_kind_eq,mapM_toArray,Nc];refine ez (ez (lD vs hv λfs hl hf=>gx ?_));by_cases z:(fs.toArray.all λx=>x.isSome)=true
 .rw[if_pos z];refine ez (Lv ?_);have aO:(fs.toArray.filterMap id)=(fs.filterMap id).toArray:=by simp
  rw[aO,oneTypeOnly'_eq,mapM_toArray,Nc];have U:∀v∈fs.filterMap id,∃n t,v=Value.int n t:=λv Y=>by
   obtain⟨f,a0,e⟩:=mem_filterMap.mp Y;exact hf f a0 v e
  have a1:0<(fs.filterMap id).length:=by
   match fs,hl,z with
   | [],hl,_=>simp at hl;omega
   |f::r,_,z =>
    have:f.isSome=true:=by simp at z;exact z.1
    obtain⟨u,rfl⟩:=isSome_iff_exists.mp this;simp
  refine ez (ez (ez (kas_mapM (r:=Value.type "int") _ (λv Y Q' hq=>?_) (gx ?_))))
  .obtain⟨n,t,rfl⟩:=U v Y;exact gx hq
  .have h0:(map (λ_=>Value.type "int") (fs.filterMap id)).toArray[0]?=some (Value.type "int"):=by
    simp[a1]
   rw[h0];have J:((map (λ_=>Value.type "int") (fs.filterMap id)).toArray.all λx=>x==Value.type "int")=true:=by
    simp only[all_toArray,MA,L1];intro _ _
    rfl
   simp only[J,if_true];exact gx (gx (h _ (.inl rfl)))
 .rw[if_neg z];by_cases Z:((fs.toArray[0]?).bind id).isSome=true
  .rw[if_pos Z];exact gx (h _ (.inr (.inl rfl)))
  .rw[if_neg Z];rw[oneTypeOnly'_eq,mapM_toArray,Nc];refine ez (ez (ez (kas_mapM (r:=Value.type "tuple") _ (λv Y Q' hq=>?_) (gx ?_))))
   .obtain⟨a,its,ns,rfl,⟨o,ho,hc,n,hd⟩,hi⟩:=hv v Y;have q:Looks (model prog w) s.heap (typeOf (.ref a)) o.cls:=(Looks.ld ho).andThen .now;rw[hc]at q;exact q.here hq
   .have h0:(map (λ_=>Value.type "tuple") vs).toArray[0]?=some (Value.type "tuple"):=by
     have:0<vs.length:=by omega
     simp[this]
    rw[h0];have J:((map (λ_=>Value.type "tuple") vs).toArray.all λx=>x==Value.type "tuple")=true:=by
     simp only[all_toArray,MA,L1];intro _ _
     rfl
    simp only[J,if_true];exact gx (gx (h _ (.inr (.inr rfl))))
end
end L2.Srt
namespace L2.St
open PySem PyProof.Rows List Option
section
variable{P:Program}{w:World}{A:Around}{E:Value->Shared->Prop}{s:Shared}
def l8{items:Array Value}(hi:IntsAre items.toList ns):∀i (v:Value),items[i]?=some v->∃t,v=.int (ns.getD i 0) t:=
 λi v e=>IntsAre.int_at hi i v (by rw[Kj];exact e)
def kT{v:Value}{vs:Array Value}{it:Addr}{Q:Option Value->Shared->Prop}(z:A.handled=none){R:Value->Shared->Prop}
  (J:∀e s',(∀b o,s.heap.get? b=some o->s'.heap.get? b=some o)->(∃h',s'={ s with heap:=h' })->s'.TypeIs e "StopIteration"->R e s') {U:PySem.Fin->Shared->Prop} :
  wpAny (model P w) A (newExc (.type "StopIteration") [] >>= λe=>(raiseNew e:Sem PySem.Fin)) U R s:=by
 refine wpAny_bind ?_;simp only[newExc,newTuple];refine wpAny_bind (wpAny_newObj_type ?_ (by size_fits));refine wpAny_bind (m:=firstArgMember _ _) (wpAny_of_eq (a:=Value.none) (by first|rfl|(simp only[firstArgMember];rfl)) ?_);refine wpAny_newObj_type ?_ (by size_fits);simp only[raiseNew];refine wpAny_bind (wpAny_handled ?_);rw[z];refine wpAny_bind (wpAny_pure (wpAny_throw ?_));exact J _ _ (λb o e=>Heap.get?_push_of_some _ (Heap.get?_push_of_some _ e)) ⟨_,rfl⟩ ⟨_,Heap.get?_push_size _ rfl,rfl⟩
def oJ(h:ItemsOf (λi v=>∃t,v=Value.int (order.getD i 0) t) acc order.length):IntsAre acc.toList order:=by
 obtain⟨hz,hv⟩:=h;have J:acc.toList.length=order.length:=by simpa using hz
 have z:∀j v,acc.toList[j]?=some v->∃t,v=Value.int _ t:=λj v e=>hv j v (by rw[<- Kj];exact e)
 clear hv hz;generalize acc.toList=vs at J z
 induction vs generalizing order with
 |nil =>
  have:=KI.mp J.symm;rw[this];exact .nil
 |cons v r ih =>
  match order,J,z with
  | [],J,_=>simp at J
  |k::ks,J,z =>
   obtain⟨t,e⟩:=z 0 v rfl;have U:=e;rw[U];exact .cons k t (ih (by simpa using J) λj u q=>z (j+1) u (by simpa using q))
end
end L2.St
namespace L2.St
open PySem List Option
def lZ(xs:Array Nat):Prop:=∀i j,i<j->j<xs.size->xs.getD i 0<xs.getD j 0
def yt{xs:Array Nat}(h:i<xs.size)(d e):xs.getD i d=xs.getD i e:=by simp[Array.getD,h]
theorem mS{xs:Array Nat}{j:Nat}(Z:lZ xs):∀(J lo hi:Nat),hi<=lo+J->lo<=hi->hi<=xs.size->(∀i,i<lo->xs.getD i 0<j)->(∀i,hi<=i->i<xs.size->j<=xs.getD i 0) ->
  (SetTable.below.go xs j J lo hi<=xs.size/\(∀i,i<SetTable.below.go xs j J lo hi->xs.getD i 0<j)/\∀i,SetTable.below.go xs j J lo hi<=i->i<xs.size->j<=xs.getD i 0)
 |0,lo,hi,hf,h1,h2,a,b=>by
  have e:SetTable.below.go xs j 0 lo hi=lo:=rfl;rw[e];have:lo=hi:=KN h1 hf;subst this;exact⟨h2,a,b⟩
 |J+1,lo,hi,hf,h1,h2,a,b=>by
  have e:SetTable.below.go xs j (J+1) lo hi=if lo<hi then(if xs.getD ((lo+hi) / 2) j<j then SetTable.below.go xs j J ((lo+hi) / 2+1) hi else SetTable.below.go xs j J lo ((lo+hi) / 2))else lo:=rfl
  rw[e];by_cases hl:lo<hi
  .rw[if_pos hl];obtain⟨m,em,m1,m2⟩:∃m,(lo+hi) / 2=m/\lo<=m/\m<hi:=⟨_,rfl,by omega,by omega⟩;rw[em];have hm:m<xs.size:=JX m2 h2;rw[yt hm j 0];by_cases Y:xs.getD m 0<j
   .rw[if_pos Y];refine mS Z J _ hi (by omega) m2 h2 (λi U=>?_) b;rcases MX (K2 U)with z|z
    .exact LW (Z i m z hm) Y
    .rw[z];exact Y
   .rw[if_neg Y];refine mS Z J lo _ (by omega) m1 (K9 hm) a λi U hz=>?_
    rcases MX U with z|z
    .exact wh (KP.mp Y) (K9 (Z m i z hz))
    .rw[<- z];exact KP.mp Y
  .rw[if_neg hl];have:lo=hi:=KN h1 (KP.mp hl);subst this;exact⟨h2,a,b⟩
def jD{xs:Array Nat}(z:lZ xs)(j:Nat):SetTable.below xs j<=xs.size/\(∀i,i<SetTable.below xs j->xs.getD i 0<j)/\∀i,SetTable.below xs j<=i->i<xs.size->j<=xs.getD i 0:=
 mS z xs.size 0 xs.size (LF _ _) (Kd _) (pb _) (λi h=>absurd h (Nat.not_lt_zero i)) λi h1 h2=>absurd h2 (KP.mpr h1)
def oK(xs)(p)(x:α)(z:p<=xs.size):(SetTable.insertAt xs p x).size=xs.size+1:=by grind [SetTable.insertAt]
def jY{α:Type}(xs:Array α)(p:Nat)(x:α)(z:p<=xs.size)(i:Nat):(SetTable.insertAt xs p x)[i]?=if i<p then xs[i]? else if i=p then some x else xs[i-1]?:=by
 unfold SetTable.insertAt;have hz:((xs.extract 0 p).push x).size=p+1:=by rw[Array.size_push,LG,LH z,Nat.sub_zero]
 rcases Ml i p with h1|h1|h1
 .rw[if_pos h1,M0 (by rw[hz];exact Kl h1)];rw[Array.getElem?_push,if_neg (by rw[LG,LH z];exact JV h1),Array.getElem?_extract,if_pos (by rw[LH z];exact h1),Ly]
 .subst h1;rw[if_neg (Kq _),if_pos rfl,M0 (by rw[hz];exact Lz _)];rw[Array.getElem?_push,if_pos (by rw[LG,LH z];rfl)]
 .obtain⟨k,rfl⟩:=Le h1;rw[if_neg (Nb h1),if_neg (KR h1),Array.getElem?_append_right (by rw[hz];exact h1),hz,Array.getElem?_extract,KH,Nat.add_sub_cancel_left,Nd,KH,KU];by_cases J:k<xs.size-p
  .rw[if_pos J]
  .rw[if_neg J,Lg (Nat.sub_le_iff_le_add'.mp (KP.mp J))]
def dW{xs:Array Nat} :xs.getD i 0=(xs[i]?).getD 0:=Ll
def rJ{xs:Array Nat}(Y:lZ xs){j:Nat}(hn:xs[SetTable.below xs j]?≠some j):lZ (SetTable.insertAt xs (SetTable.below xs j) j):=by
 obtain⟨Z,ha,hb⟩:=jD Y j;generalize SetTable.below xs j=p at *
 have ao:∀i,p<=i->i<xs.size->j<xs.getD i 0:=λi h1 h2=>by
  rcases MX h1 with z|z
  .exact Km (hb p (pb _) (LW z h2)) (Y p i z h2)
  .subst z;have e:xs[p]?=some (xs.getD p 0):=by rw[K8 h2];simp[Array.getD,h2]
   exact Lm (hb p h1 h2) λz=>hn (by rw[e,<- z])
 intro i k J hk;rw[oK _ _ _ Z]at hk;rw[dW,dW,jY _ _ _ Z,jY _ _ _ Z];rcases Ml k p with h1|h1|h1
 .rw[if_pos h1,if_pos (LW J h1),<- dW,<- dW];exact Y i k J (JX h1 Z)
 .subst h1;rw[if_neg (Kq k),if_pos rfl,if_pos J,<- dW];exact ha i J
 .obtain⟨c,rfl⟩:=Le h1;have hc:=Mo hk;rw[if_neg (Nb h1),if_neg (KR h1),KU];rcases Ml i p with U|U|U
  .rw[if_pos U,<- dW,<- dW];exact Y i (p+c) (JX U (Mt p c)) hc
  .rw[if_neg (U▸Kq p),if_pos U,<- dW];exact ao (p+c) (Mt p c) hc
  .obtain⟨b,rfl⟩:=Le U;rw[if_neg (Nb U),if_neg (KR U),KU,<- dW,<- dW];exact Y (p+b) (p+c) (Mo J) hc
def t9(n):lZ (Array.range n):=λi j h1 h2=>by
 rw[Array.size_range]at h2;simp[Array.getD,h2,LW h1 h2];exact h1
def yu:lZ #[]:=λi j _ h=>by simp at h
structure Gd(L:Bool)(t:SetTable):Prop where
 led:t.led=L
 dum:t.dummies=#[]
 rise:lZ t.place
theorem Gd.fresh(L):Gd L (.fresh 0 0 L):=⟨rfl,rfl,yu⟩
theorem Gd.standIn(h:Gd L t)(n):Gd L (t.standIn n):=⟨h.led,rfl,t9 n⟩
theorem Gd.orStandIn(h:Gd L t)(n):Gd L (t.orStandIn n):=by
 unfold SetTable.orStandIn;split
 .exact h
 .exact h.standIn n
def Gd.unplain(h:Gd L t):Gd L { t with plain:=false }:=⟨h.led,h.dum,h.rise⟩
def qj{t:SetTable}(hd:t.dummies=#[])(j):t.slot j≠.dummy:=by
 unfold SetTable.slot SetTable.has;rw[hd];dsimp only;split
 .simp
 .simp
def t_{t:SetTable}(h:t.slot j=.empty):t.place[SetTable.below t.place j]?≠some j:=by
 intro e;unfold SetTable.slot at h
 simp_all
theorem rK(hd:t.dummies=#[]) :∀z p,p.dummy=none->∀j d,SetTable.probe.go t J h z p=some (.empty j d)->d=none/\t.slot j=.empty
 |0,p,U,j,d,e=>by
  have:SetTable.probe.go t J h 0 p=none:=rfl;rw[this]at e;cases e
 |z+1,p,U,j,d,e=>by
  have step:SetTable.probe.go t J h (z+1) p=(match t.slot p.j with
   | .empty=>some (.empty p.j p.dummy)
   | .dummy=>SetTable.probe.go t J h z (t.advance { p with dummy:=some p.j })
   | .live i=>if J i==h then some (.candidate p.j i (t.advance p))else SetTable.probe.go t J h z (t.advance p)):=rfl
  rw[step]at e;have Y:(t.advance p).dummy=none:=by unfold SetTable.advance;split<;>simp[U]
  cases hs:t.slot p.j with
  |empty =>
   rw[hs]at e;dsimp only at e;cases e;exact⟨U,hs⟩
  |dummy=>exact absurd hs (qj hd _)
  |live i =>
   rw[hs]at e;dsimp only at e;split at e
   .cases e
   .exact rK hd z _ Y j d e
def wN{t:SetTable}(hd:t.dummies=#[])(e:t.freeSlot h=some (j,b)):t.slot j=.empty:=by
 unfold SetTable.freeSlot at e;split at e
 .rename_i z d J;obtain⟨rfl,hs⟩:=rK hd _ _ rfl z d J
  simp_all
 .cases e
theorem Gd.put(h:Gd L t)(hs:t.slot j=.empty):Gd L (t.put j).1:=by
 refine⟨h.led,?_,rJ h.rise (t_ hs)⟩;show(if SetTable.has t.dummies j then _ else t.dummies)=#[];rw[if_neg (by unfold SetTable.has;rw[h.dum];simp)];exact h.dum
theorem Gd.layNew(g:Gd L t)(es)(h)(x):Gd L (layNew t es h x).2.1:=by
 unfold PySem.layNew;cases e:t.freeSlot h with
 |none=>exact g.standIn _
 |some q =>
  exact(g.put (wN g.dum e)).orStandIn _
def yw(f:Nat->Option Nat)(n):lZ ((((range n).filterMap λj=>(f j).map λi=>(j,i)).map λq:Nat×Nat=>q.1).toArray):=by
 have e:((range n).filterMap λj=>(f j).map λi=>(j,i)).map (λq:Nat×Nat=>q.1)=(range n).filter λj=>(f j).isSome:=by
  generalize range n=l
  induction l with
  |nil=>rfl
  |cons a l ih =>
   cases h:f a<;>simp[filterMap_cons,filter_cons,h,ih]
 rw[e];have Y:((range n).filter λj=>(f j).isSome).Pairwise (· < ·):=Pairwise.filter _ pairwise_lt_range;intro i j J Z;have z:j<((range n).filter λj=>(f j).isSome).length:=by simpa using Z
 have U:i<((range n).filter λj=>(f j).isSome).length:=LW J z;have:=pairwise_iff_getElem.mp Y i j U z J;simpa[Array.getD,z,U]using this
theorem Gd.relaid(g:Gd L t)(e:t.relaid hs n=some (t',o)):Gd L t':=by
 unfold SetTable.relaid SetTable.laid at e;cases h:SetTable.layClean (SetTable.sizeAbove n-1) hs with
 |none=>rw[h]at e;cases e
 |some ow =>
  rw[h]at e;cases e;exact⟨g.led,rfl,yw (λj=>ow.getD j none) _⟩
theorem Gd.relayAll(g:Gd L t)(es)(n):Gd L (relayAll t es n).2.1:=by
 unfold PySem.relayAll;cases e:t.relaid (es.map _) n with
 |none=>exact g.standIn _
 |some q =>
  dsimp only;split
  .exact g.relaid e
  .exact g.standIn _
end L2.St
namespace L2.St
open PySem PyProof.Rows List Option
noncomputable def byT (w:World):Bool:=w.params.followText "set-order"
structure Arr(P:Program)(w:World)(ks:List Int)(es:Array (Int×Value))(t:SetTable):Prop where
 el:ElemsOf (intKind P w) es.toList
 pm:(es.toList.map λe=>numOf e.2).Perm ks
 nd:ks.Nodup
 bd:es.size<scanBound
 fi:t.fits es.size=true
 gd:Gd (!byT w) t
def cy(P:Program)(w:World)(h:Heap)(a:Addr)(ks:List Int):Prop:=
 ∃o es ep t,h.get? a=some o/\o.ExactSet/\o.data=.set es ep t/\ElemsOf (intKind P w) es.toList/\(es.toList.map λe=>numOf e.2).Perm ks/\ks.Nodup/\es.size<scanBound/\t.fits es.size=true/\Gd (!byT w) t
section
variable{P:Program}{w:World}{h h':Heap}{a:Addr}{ks ks':List Int}{o:Obj}{es:Array (Int×Value)}{ep:Nat}{t:SetTable}
theorem cy.arr(g:cy P w h a ks):∃o es ep t,(h.get? a=some o/\o.ExactSet/\o.data=.set es ep t)/\Arr P w ks es t:=by
 refine aE λZq J=>?_
 obtain⟨o,es,ep,t,ho,z,hd,U,Y,Z,c4,c5,c6⟩:=g;refine J ?_;exact⟨o,es,ep,t,⟨ho,z,hd⟩,⟨U,Y,Z,c4,c5,c6⟩⟩
theorem Arr.set(r:Arr P w ks es t)(ho:h.get? a=some o)(z:o.ExactSet)(hd:o.data=.set es ep t):cy P w h a ks:=
 ⟨o,es,ep,t,ho,z,hd,r.el,r.pm,r.nd,r.bd,r.fi,r.gd⟩
theorem Arr.len(r:Arr P w ks es t):es.size=ks.length:=by simpa using r.pm.length_eq
theorem Arr.bare(r:Arr P w ks es t)(b):Arr P w ks es (if b=true then t else { t with plain:=false }):=by
 cases b
 .exact⟨r.el,r.pm,r.nd,r.bd,SetTable.fits_plain_off r.fi,r.gd.unplain⟩
 .exact r
theorem Arr.lay(r:Arr P w ks es t)(tk)(J:k∉ks)(U:ks.length+1<scanBound):Arr P w (k::ks) (layNew t es (hashInt k) (.int k tk)).1 (layNew t es (hashInt k) (.int k tk)).2.1:=by
 have p:(layNew t es (hashInt k) (.int k tk)).1.toList.Perm (es.toList++[(hashInt k,.int k tk)]):=by simpa using layNew_perm t es _ _
 have z:=p.length_eq;have l:=r.len;constructor
 .exact ElemsOf.perm (r.el.push (M8 _ _ _ _) rfl) p
 .have q:((es.toList++[(hashInt k,Value.int k tk)]).map λe=>numOf e.2).Perm (k::ks):=by
   rw[Ka];exact L3.trans (r.pm.cons k)
  exact(p.map _).trans q
 .exact Ky.mpr ⟨J,r.nd⟩
 .simp at z;omega
 .exact layNew_fits _ _ _ _
 .exact r.gd.layNew _ _ _
def Arr.relay(r:Arr P w ks es t)(n):Arr P w ks (relayAll t es n).1 (relayAll t es n).2.1:=by
 have p:=relayAll_perm t es n;have z:=p.length_eq;have b:=r.bd;exact⟨r.el.perm p,(p.map _).trans r.pm,r.nd,by simp at z;omega,relayAll_fits t es n,r.gd.relayAll es n⟩
theorem cy.at(g:cy P w h a ks)(k:∀o,h.get? a=some o->h'.get? a=some o):cy P w h' a ks:=by
 obtain⟨o,es,ep,t,⟨ho,z,hd⟩,r⟩:=g.arr;exact r.set (k o ho) z hd
end
def gr(h:ElemsOf (intKind P w) es):∀e∈es,∃t,e.2=.int (numOf e.2) t:=λe z=>by
 obtain⟨⟨k,J,_⟩,_⟩:=h e z;obtain⟨t,q⟩:=M3 (show Value.isInt k e.2=true from J);exact⟨t,by rw[q];rfl⟩
def jE(h:ElemsOf (intKind P w) es)(J:e∈es)(k):(intKind P w).is k e.2=true ↔ numOf e.2=k:=by
 obtain⟨t,q⟩:=gr h e J;constructor
 .intro z;obtain⟨t',U⟩:=M3 (show Value.isInt k e.2=true from z);rw[U];rfl
 .intro z;rw[q,z];exact M8 _ _ _ _
section
variable{P:Program}{w:World}{A:Around}{E:Value->Shared->Prop}{s:Shared}
def Now(P:Program)(w:World)(a:Addr)(s:Shared)(ks:List Int)(s':Shared):Prop:=
 ∃h',s'={ s with heap:=h' }/\Heap.SameBut a s.heap h'/\cy P w h' a ks
theorem Now.stay(g:cy P w s.heap a ks):Now P w a s ks s:=⟨s.heap,rfl,Lp a s.heap,g⟩
def vj{h:Heap}(ho:h.get? a=some o)(J:o.ExactSet)(hd:o.data=.set es ep t)
  (r:Arr P w ks z t'):cy P w (h.update a (Obj.putSet z t')) a ks:=by
 refine r.set (o:={ o with data:=.set z (ep+1) t' }) (ep:=ep+1) ?_ J rfl;have e:=putSet_of z t' hd;rw[<- e];exact KA _ ho (by rw[e];rfl)
theorem Now.put{s':Shared}(n:Now P w a s ks s'){es:Array (Int×Value)}{t:SetTable}(r:Arr P w ks' es t){Q:Unit->Shared->Prop}(h:∀z,Now P w a s ks' z->Q () z) :
  wpAny (model P w) A (storeSet a es t) Q E s':=by
 refine aE λZ U=>?_
 obtain⟨h',rfl,Y,g⟩:=n;obtain⟨o,_,_,_,⟨ho,J,hd⟩,_⟩:=g.arr;refine U ?_;exact Lq ho hd (h _ ⟨_,rfl,Y.trans (Kk h' a _),vj ho J hd r⟩) (Ld r.bd)
def He{Q:Unit->Shared->Prop}(z:m=pure ()\/∃n,m=rule n)(h:Q () s'):wpAny (model P w) A m Q E s':=by
 rcases z with rfl|⟨n,rfl⟩
 .exact gx h
 .exact Lv h
def Hf(k)(tk)(c)(h:∀b,wpAny (model P w) A (f b) Q E s') :
  wpAny (model P w) A (if c=true then hashByValue 8 (.int k tk) >>= f else(pure true:Sem Bool) >>= f) Q E s':=by
 cases c
 .exact ez (gx (h true))
 .rw[if_pos rfl,hashByValue_scannable 8 (show(Value.int k tk).scannable=true from rfl)];exact ez (gx (h _))
def pf{Q:Bool->Shared->Prop}(hS:cy P w s.heap a ks)(J:ks.length+1<scanBound)
  (h:∀h' b,Heap.SameBut a s.heap h'->cy P w h' a (if k∈ks then ks else k::ks)->Q b { s with heap:=h' }) :
  wpAny (model P w) A (setAddHashed a (.int k tk) (hashInt k)) Q E s:=by
 have fin:∀b s',Now P w a s (if k∈ks then ks else k::ks) s'->Q b s':=by
  rintro b _ ⟨h',rfl,sb,g⟩;exact h h' b sb g
 have now:=Now.stay hS;obtain⟨o,es,ep,t,⟨ho,a6,hd⟩,r⟩:=hS.arr;have here:k∈ks ↔ ((es.toList.findIdx? λe=>(intKind P w).is k e.2).isSome=true):=by
  rw[findIdx?_isSome,Lf,<- r.pm.mem_iff,mem_map];exact⟨λ⟨e,Y,q⟩=>⟨e,Y,(jE r.el Y k).mpr q⟩,λ⟨e,Y,q⟩=>⟨e,Y,(jE r.el Y k).mp q⟩⟩
 unfold setAddHashed setAddHashedIn;refine Kr (ez (Kb ho hd r.fi ?_));dsimp only;rw[byScan_of (x:=.int k tk) rfl r.bd r.el,if_pos rfl];refine ez ?_;unfold setAddByScan;refine ez (Lv (ez (wpAny_setScan_of (knd:=intKind P w) (M8 _ _ _ _) ho hd r.fi r.el ?_)));rcases Z:es.toList.findIdx? λe=>(intKind P w).is k e.2 with _|j
 .rw[Z];have hk:k∉ks:=λz=>by rw[here,Z]at z;exact Bool.noConfusion z
  rw[if_neg hk]at fin;have r1:=r.lay tk hk J;rcases hl:layNew t es (hashInt k) (.int k tk)with⟨U,t1,dm,gv⟩
  rw[hl]at r1;dsimp only at r1 ⊢;refine ez (He ?_ ?_)
  .cases gv
   .exact .inl rfl
   .exact .inr ⟨_,rfl⟩
  refine Hf k tk _ λb=>?_
  have r2:=r1.bare b;generalize (if b=true then t1 else _)=t2 at r2 ⊢;refine ez (now.put r2 λs2 n2=>?_);refine Kg (λ_=>?_) (λ_=>gx (gx (fin _ _ n2)));have r3:=r2.relay (SetTable.grown U.size);rcases hm:relayAll t2 U (SetTable.grown U.size)with⟨b1,t3,a2⟩
  rw[hm]at r3;dsimp only at r3 ⊢;refine ez (He ?_ ?_)
  .cases a2
   .exact .inl rfl
   .exact .inr ⟨_,rfl⟩
  exact ez (n2.put r3 λs3 n3=>gx (gx (fin _ _ n3)))
 .rw[Z];have hk:=here.mpr (by rw[Z];rfl);rw[if_pos hk]at fin;exact gx (gx (fin _ _ now))
end
noncomputable def dd:List Int->List Int
 | []=>[]
 |k::r=>if k∈dd r then dd r else k::dd r
theorem fX :∀{l},k∈dd l ↔ k∈l
 | []=>Iff.rfl
 |x::r=>by
  show k∈(if x∈dd r then dd r else x::dd r) ↔ _;have ih:=@fX k r;by_cases h:x∈dd r
  .rw[if_pos h,ih,JY];exact⟨.inr,λz=>z.elim (λe=>by rw[e];exact fX.mp h) id⟩
  .simp_all
theorem dd_nodup:∀l,(dd l).Nodup
 | []=>Lk
 |x::r=>by
  show(if x∈dd r then dd r else x::dd r).Nodup;by_cases h:x∈dd r
  .rw[if_pos h];exact dd_nodup r
  .rw[if_neg h];exact Ky.mpr ⟨h,dd_nodup r⟩
theorem yx:∀l,(dd l).length<=l.length
 | []=>pb _
 |x::r=>by
  show(if x∈dd r then dd r else x::dd r).length<=_;have:=yx r
  grind
def But(z:List Addr)(s s':Shared):Prop:=
 ∃h' tk,s'={ s with heap:=h',toks:=tk }/\∀b o,b∉z->s.heap.get? b=some o->h'.get? b=some o
theorem But.on(x:But Y s s')(y:But vs s' J)(hs:∀b∈Y,b∈vs):But vs s J:=by
 obtain⟨h1,t1,rfl,Z⟩:=x;obtain⟨h2,t2,rfl,k2⟩:=y;exact⟨h2,t2,rfl,λb o U e=>k2 b o U (Z b o (λz=>U (hs b z)) e)⟩
section
variable{P:Program}{w:World}{A:Around}{R:Result->Shared->Prop}{I S:Addr}{fp wr:List Addr}{n:Nat}{Pv:Nat->Value->Prop}{St:Nat->Heap->Prop}
noncomputable abbrev upd (S I:Addr):Code:=.builtin "set.update.loop" ⟨[.ref S,.ref I],[]⟩
def rL (h:wpAny (model P w) A.in1 (pyNext (.ref I)) (λv s'=>match v with
   |none=>R (.ok (.ret .none)) s'
   |some x=>wpAny (model P w) A.in1 (setAdd S x) (λ_ z=>codeAny (model P w) A (upd S I) R z) (λe z=>R (.error e) z) s') (λe s'=>R (.error e) s') s) :
  codeAny (model P w) A (upd S I) R s:=by
 have J:=PyProof.Rows.F.plain_set_update_loop;apply MB PyProof.Rows.F.entry_set_update_loop;rw[MC J];apply ez (m:=pyNext _);refine Ko h (λv s' hv=>?_) λ_ _ x=>x
 cases v with
 |none=>exact gx hv
 |some x =>
  refine ez (Kr (Ko hv (λ_ z hc=>?_) λ_ _ x=>x));exact gx ⟨Mq J _,hc⟩
def add_int(g:cy P w s.heap S ks)(room:ks.length+1<scanBound) 
  (h:∀b s',But [S] s s'->cy P w s'.heap S (if k∈ks then ks else k::ks)->(∀b,b≠S->s'.heap.get? b=s.heap.get? b)->Q b s'):wpAny (model P w) B (setAdd S (.int k t)) Q E s:=by
 refine Kr (ez ((intKind P w).pyHash (M8 _ _ _ _) ?_));refine pf g room λh' b z g'=>h b _ ⟨h',_,rfl,λc o hc e=>?_⟩ g' λc hc=>?_
 .rw[z.2 c (by simpa using hc)];exact e
 .exact z.2 c hc
theorem vk(W:Walks P w A.in1 I fp wr n Pv St)(Y:S∉fp)(xs:List Int)(hn:xs.length=n)(hv:∀i v,Pv i v->∃t,v=.int (xs.getD i 0) t)(hb:n+1<scanBound) :
  ∀m i s,i+m=n->St i s.heap->cy P w s.heap S (dd (xs.take i).reverse)->(∀s',But (S::wr) s s'->cy P w s'.heap S (dd xs.reverse)->R (.ok (.ret .none)) s') ->
   codeAny (model P w) A (upd S I) R s
 |0,i,s,e,st,g,h=>by
  have hi:i=n:=e;subst hi;refine rL (W.done s _ _ st λh' tk kp=>h _ ⟨h',tk,rfl,λb o J=>kp b o λz=>J (.tail _ z)⟩ ?_);rw[M5 (by omega)]at g;exact g.at λo=>kp S o λz=>Y (W.sub S z)
 |m+1,i,s,e,st,g,h=>by
  have hi:i<n:=by omega
  refine rL (W.item i s _ _ hi st λv h1 U pv Z kp=>?_);obtain⟨t,rfl⟩:=hv i v pv;have b1:But wr s { s with heap:=h1,toks:=U }:=⟨h1,U,rfl,kp⟩;have l:(dd (xs.take i).reverse).length+1<scanBound:=by
   have:=yx (xs.take i).reverse;simp at this;omega
  refine add_int (g.at λo=>kp S o λz=>Y (W.sub S z)) l λ_ s2 b2 g2 ao=>?_
  refine vk W Y xs hn hv hb m _ s2 (by omega) (W.frame _ h1 _ Z λb J o e'=>?_) ?_ λs3 b3 g3=>h s3 ?_ g3
  .rw[ao b λz=>Y (z▸J)];exact e'
  .have:xs.take (i+1)=xs.take i++[xs.getD i 0]:=by
    simp_all
   rw[this,reverse_append];exact g2
  .exact(b1.on (b2.on b3 (by simp)) λb z=>.tail _ z)
end
section
variable{P:Program}{w:World}{A:Around}{E:Value->Shared->Prop}{s:Shared}
def dj(h:Q (byT w) s):wpAny (model P w) A setsByText Q E s:=
  ez (Nf (gx h))
noncomputable abbrev bw (w:World):Obj:={ cls:=.type "set",dict:=none,data:=.set #[] 0 (.fresh 0 0 (!byT w)) }
noncomputable abbrev bp(w:World)(s:Shared):Shared:={ s with heap:=s.heap.push (bw w) }
def qk (h:Q (.ref s.heap.objs.size) (bp w s)):wpAny (model P w) A (newSet (.type "set")) Q E s:=by
 refine ez (dj ?_);exact ez (wpAny_alloc (gx h))
def rM(h:Heap):cy P w (h.push (bw w)) h.objs.size []:=
 Arr.set (es:=#[]) (ep:=0) ⟨λe z=>by simp at z,by simp,Lk,by decide,rfl,Gd.fresh _⟩ (uw _ rfl) ⟨rfl,rfl,rfl⟩ rfl
def BI (x) {Q:Value->Shared->Prop} (h:Q (.ref s.heap.objs.size) (bp w s)):codeAny (model P w) A (.call (.builtin "set.__new__") ⟨[.type "set",x],[]⟩) (wants Q E) s:=by
 refine codeAny_call_builtin PySem.F.plain_set_new PySem.F.entry_set_new (MW (PySem.F.newCall_set_1 x) ?_);have cls:∀{R}{F},R (.type "set",[x]) s->wpAny (model P w) A.in1 (Builtin.Frozenset.newClass "set" ⟨[.type "set",x],[]⟩) R F s:=by
  intro R F J;have z:=sub_set_self
  wp_walk
  exact J
 exact ez (cls (ez (qk (gx h))))
def yy(x){Q:Value->Shared->Prop}
  (hU:∀B,B.handled=A.handled->wpAny (model P w) B (Builtin.Frozenset.updateFrom "set.__init__" s.heap.objs.size x) (λ_ s'=>Q (.ref s.heap.objs.size) s') E (bp w s)) :
  wpAny (model P w) A (call (.type "set") [x]) Q E s:=by
 have Y:(bp w s).heap.get? s.heap.objs.size=some (bw w):=uw _ rfl;have init:codeAny (model P w) A.in1 (.call (.builtin "set.__init__") ⟨[.ref s.heap.objs.size,x],[]⟩) (wants (λr s'=>r=.none/\Q (.ref s.heap.objs.size) s') E) (bp w s):=by
  refine codeAny_call_builtin PySem.F.called_set.init.plain PySem.F.entry_set_init (check_set_init_1 ⟨_,Y,rfl⟩ ?_);have hu:=hU A.in1.in1 (by simp);generalize hw:bp w s=s1 at Y hu ⊢;generalize s.heap.objs.size=S at Y hu ⊢;obtain⟨hp,g,d,tk,os⟩:=s1;unfold Builtin.«set.__init__» noKeywords;generalize Builtin.Frozenset.updateFrom=U at hu ⊢
  wp_walk
  exact Ko hu (λ_ s' hq=>gx ⟨rfl,hq⟩) λ_ _ z=>z
 have Z:=PySem.F.called_set;refine wpAny_call (codeAny_of_tree (gx ⟨Code.quiet_builtin _ (by decide +kernel),MB PySem.F.entry_type_call ?_⟩));rw[Around.under_plain (weight_type_call_type "set" [x] []) rfl];have f1:=Z.notType;have f2:=Z.canCreate;have f3:=Z.made;have f4:=Z.sub
 have f5:=PySem.F.typeCall_set_1 x;obtain⟨c,tl,f6⟩:=Z.mro
 repeat (any_goals (first|assumption|wp_step))
 refine LU (BI x (E:=E) (Q:=λv s'=>v=.ref s.heap.objs.size/\s'=bp w s) ⟨rfl,rfl⟩) λr s1 J=>?_
 match r,J with
 | .error e,J=>exact J
 | .ok (.ret v),J =>
  obtain⟨rfl,rfl⟩:=J;have f7:Shared.TypeIs (bp w s) (.ref s.heap.objs.size) "set":=⟨_,Y,rfl⟩;have f8:=Z.init.lookup;have f9:=Z.init.bind (.ref s.heap.objs.size)
  repeat (any_goals (first|assumption|wp_step))
  refine LU init λr s2 J=>?_
  match r,J with
  | .error e,J=>exact J
  | .ok (.ret v),J =>
   obtain⟨rfl,hq⟩:=J;show wpAny _ A.in1 (pure (some Value.none)) _ _ _;exact gx (gx hq)
def mT {o:Obj} (x:s.heap.get? l=some o) (hc:o.cls=.type z) (hd:(Value.type z==.type "dict")=false)
  (U:isSubtype (.type z) (.type "set")=pure false) (Y:isSubtype (.type z) (.type "frozenset")=pure false)
  {ns:List Int}{Pv:Nat->Value->Prop}{St:Nat->Heap->Prop} (hv:∀i v,Pv i v->∃t,v=.int (ns.getD i 0) t) (J:ns.length+1<scanBound) {Z:Obj}
  (W:∀B,B.handled=A.handled->Walks P w B ((bp w s).heap.objs.size) [(bp w s).heap.objs.size,l] [(bp w s).heap.objs.size] ns.length Pv St)
  (it:∀B E' R,R (.ref (bp w s).heap.objs.size) { s with heap:=(bp w s).heap.push Z }->wpAny (model P w) B (pyIter (.ref l)) R E' (bp w s))
  (st:St 0 ((bp w s).heap.push Z)) {Q:Value->Shared->Prop}
  (h:∀h' tk,cy P w h' s.heap.objs.size (dd ns.reverse)->(∀b o,s.heap.get? b=some o->h'.get? b=some o)->Q (.ref s.heap.objs.size) { s with heap:=h',toks:=tk }) :
  wpAny (model P w) A (call (.type "set") [.ref l]) Q E s:=by
 have z1:(bp w s).heap.objs.size=s.heap.objs.size+1:=Kc ..;have ao:∀b,b<s.heap.objs.size->b∉[s.heap.objs.size,(bp w s).heap.objs.size]:=λb J=>by
  rw[z1];simp only[JY,Lw,Mg,not_or];exact⟨JV J,JV (Kl J)⟩
 have kept:∀b o,s.heap.get? b=some o->((bp w s).heap.push Z).get? b=some o:=λb o e=>g4 _ (g4 _ e)
 refine yy _ λB hB=>?_
 have hT:(bp w s).TypeIs (.ref l) z:=⟨o,g4 _ x,hc⟩;unfold Builtin.Frozenset.updateFrom Builtin.Frozenset.isAnySet;refine ez (ez (KW hT U ?_));show wpAny _ _ (isInstance (.ref l) (.type "frozenset")) _ _ _;refine KW hT Y ?_;rw[if_neg oe];refine ez (LV hT ?_);rw[hd,if_neg oe];refine ez (it _ _ _ (ez (wpAny_runValue ?_)));have hS:s.heap.objs.size∉[(bp w s).heap.objs.size,l]:=by
  have:=r4 x;rw[z1];simp only[JY,Lw,Mg,not_or];exact⟨JV (Lz _),KR this⟩
 refine vk (W _ (by simpa using hB)) hS ns rfl hv J ns.length 0 _ (by omega) st ((rM s.heap).at λo e=>g4 _ e) ?_;rintro s' ⟨h',tk,rfl,kp⟩ g;exact gx (h h' tk g λb o e=>kp b o (ao b (r4 e)) (kept b o e))
def yz 
  (U:A.handled=none) (Y:s.heap.IsList l items) (hi:IntsAre items.toList ns) (Z:items.size+1<scanBound)
  (h:∀h' tk,cy P w h' s.heap.objs.size (dd ns.reverse)->(∀b o,s.heap.get? b=some o->h'.get? b=some o)->Q (.ref s.heap.objs.size) { s with heap:=h',toks:=tk }) :
  wpAny (model P w) A (call (.type "set") [.ref l]) Q E s:=by
 have z:items.size=ns.length:=by simpa using IntsAre.length hi
 obtain⟨o,ho,hc,hr⟩:=Y;have J:(bp w s).heap.IsList l items:=⟨o,g4 _ ho,hc,hr⟩;refine mT ho hc (by decide) PySem.F.sub_list_set PySem.F.sub_list_frozenset (l8 hi) (z▸Z) (λB hB=>z▸Walks.list (hB.trans U) _ l ?_ items)
  (λB E' R=>LN J) ⟨⟨_,uw _ rfl,rfl,rfl⟩,J.push _⟩ h
 exact JV (Nat.lt_of_lt_of_eq (Kl (r4 ho)) (Kc ..).symm)
def wO 
  (U:A.handled=none) (Y:s.heap.IsTuple l items) (hi:IntsAre items.toList ns) (Z:items.size+1<scanBound)
  (h:∀h' tk,cy P w h' s.heap.objs.size (dd ns.reverse)->(∀b o,s.heap.get? b=some o->h'.get? b=some o)->Q (.ref s.heap.objs.size) { s with heap:=h',toks:=tk }) :
  wpAny (model P w) A (call (.type "set") [.ref l]) Q E s:=by
 have z:items.size=ns.length:=by simpa using IntsAre.length hi
 obtain⟨o,ho,hc,hr⟩:=Y;have J:(bp w s).heap.IsTuple l items:=⟨o,g4 _ ho,hc,hr⟩;refine mT ho hc (by decide) PySem.F.sub_tuple_set PySem.F.sub_tuple_frozenset (l8 hi) (z▸Z) (λB hB=>z▸Walks.tuple (hB.trans U) _ l ?_ items)
  (λB E' R=>Mc J) ⟨⟨_,uw _ rfl,rfl,rfl⟩,J.push _⟩ h
 exact JV (Nat.lt_of_lt_of_eq (Kl (r4 ho)) (Kc ..).symm)
end
set_option maxRecDepth 100000 in
def mU:entryFor table "set.__iter__"=some Builtin.«frozenset.__iter__»:=
 entryFor_alias (id':="frozenset.__iter__") (by kernel_rfl) rfl (by decide +kernel) (by kernel_rfl)
set_option maxRecDepth 100000 in
def pg:Manifest.owners.lookup (String.ofList ['r','o','t','a','r','e','t','i','_','t','e','s'].reverse)=some Manifest.sig_set_iterator:=by kernel_rfl
set_option maxRecDepth 100000 in
def aX:Slot "set_iterator" "__next__" "set_iterator.__next__":=
 .of (owner:="set_iterator") (n:="__next__") (by rw[MF,LX];kernel_rfl) (by decide +kernel) (by decide +kernel) (by decide +kernel)
  (by first|exact .inl (by decide +kernel)|exact .inr (by decide +kernel)) (by rw[MQ];kernel_rfl)
set_option maxRecDepth 100000 in
def dy:entryFor table "set_iterator.__next__"=some Builtin.«set_iterator.__next__»:=entryFor_of_tree (by kernel_rfl)
set_option maxRecDepth 100000 in
def dX (a):argsOk "set_iterator.__next__" ⟨[a],[]⟩:=by
 unfold argsOk;rw[signature?_of (n:=['_','_','t','x','e','n','_','_']) (by kernel_rfl) pg];kernel_rfl
set_option maxRecDepth 100000 in
def jn:Slot "set_iterator" "__iter__" "set_iterator.__iter__":=
 .of (owner:="set_iterator") (n:="__iter__") (by rw[MF,LX];kernel_rfl) (by decide +kernel) (by decide +kernel) (by decide +kernel)
  (by first|exact .inl (by decide +kernel)|exact .inr (by decide +kernel)) (by rw[MQ];kernel_rfl)
set_option maxRecDepth 100000 in
def mV:entryFor table "set_iterator.__iter__"=some Builtin.«dict_keyiterator.__iter__»:=
 entryFor_alias (id':="dict_keyiterator.__iter__") (by kernel_rfl) rfl (by decide +kernel) (by kernel_rfl)
set_option maxRecDepth 100000 in
def oM (a):argsOk "set_iterator.__iter__" ⟨[a],[]⟩:=by
 unfold argsOk;rw[signature?_of (n:=['_','_','r','e','t','i','_','_']) (by kernel_rfl) pg];kernel_rfl
def yA {s:Shared}{I:Addr}{Q:Value->Shared->Prop} (z:s.TypeIs (.ref I) "set_iterator") (h:Q (.ref I) s):wpAny (model P w) A (pyIter (.ref I)) Q E s:=by
 refine M6 z jn (Ki jn z mV ?_ (oM _));exact gx ⟨_,rfl,"set_iterator",_,z,aX.lookup,h⟩
theorem hW{α:Type}:∀{l}{i}{x:α},l[i]?=some x->(x::l.eraseIdx i).Perm l
 | [],i,x,h=>by simp at h
 |a::l,0,x,h=>by
  simp_all
 |a::l,i+1,x,h=>by
  have h':l[i]?=some x:=by simpa using h
  exact(Perm.swap a x _).trans (.cons a (hW h'))
theorem vm(next):∀z k left (out:Array α),z=left.length->(pickOrder.go next z k left out).toList.Perm (out.toList++left)
 |0,k,left,out,h=>by
  have:=KI.mp h.symm;subst this;rw[La];exact .refl _
 |z+1,k,left,out,h=>by
  have J:next k % left.length<left.length:=Nn _ (by omega);obtain⟨x,hx⟩:∃x,left[next k % left.length]?=some x:=⟨_,J4 J⟩;have e:pickOrder.go next (z+1) k left out=pickOrder.go next z (k+1) (left.eraseIdx (next k % left.length)) (out.push x):=by
   show(match left[next k % left.length]? with
    |some x=>pickOrder.go next z _ _ _
    |none=>out)=_
   rw[hx]
  rw[e];refine(vm next z _ _ _ (by rw[LY J];omega)).trans ?_;rw[Array.toList_push,Kn];exact Perm.append_left _ (hW hx)
def ph(next)(xs:Array α):(pickOrder next xs).toList.Perm xs.toList:=by
 have:=vm next xs.size 0 xs.toList #[] (by simp);simpa[pickOrder]using this
section
variable{M:Model}{A:Around}{E:Value->Shared->Prop}{s:Shared}
def ua{n:Nat}{Q:Nat->Shared->Prop}(z:n≠0)(h:∀i d',i<n->Q i { s with drawn:=d' }):wpAny M A (choose src n) Q E s:=λ_ _ _ =>
 ⟨z,h _ _ (Nn _ (Nat.pos_of_ne_zero z))⟩
theorem jF :∀n xs s {Q:List α->Shared->Prop},n=xs.length->(∀ys d',ys.Perm xs->Q ys { s with drawn:=d' })->wpAny M A (drawOrder n xs) Q E s
 |0,xs,s,Q,h,q=>by
  have:=KI.mp h.symm;subst this;exact gx (q [] s.drawn (.refl _))
 |n+1,[],s,Q,h,q=>by simp at h
 |n+1,x::r,s,Q,h,q=>by
  refine ez (ua (by simp) λi d' hi=>?_);obtain⟨y,J⟩:∃y,(x::r)[i]?=some y:=⟨_,J4 hi⟩;rw[J];refine ez (jF n _ _ (by rw[LY hi];simp at h ⊢;omega) λys z U=>gx ?_);exact q (y::ys) z ((Perm.cons y U).trans (hW J))
end
def SIt(h:Heap)(I S:Addr)(o:Obj)(f:Value)(i n ep:Nat):Prop:=
 h.get? I=some { cls:=.type "set_iterator",dict:=none,data:=.fields #[f,.int i 0,.ref S,.int n 0,.int ep 0],slots:=#[] }/\h.get? S=some o
theorem SIt.type {s:Shared} (h:SIt s.heap I S o f i n ep):s.TypeIs (.ref I) "set_iterator":=⟨_,h.1,rfl⟩
section
variable{P:Program}{w:World}{A:Around}{E:Value->Shared->Prop}{s:Shared}
def fc(ho:s.heap.get? S=some o)(hd:o.data=.set es ep t)(z:t.fits es.size=true)(h:Q es s) :
  wpAny (model P w) A (setEntries S) Q E s:=ML ho hd z h
def pi{ep slot i:Nat}{t:SetTable}{Q:Option (Value×Nat)->Shared->Prop}(ho:s.heap.get? S=some o)(hd:o.data=.set es ep t)(z:t.fits es.size=true)(J:byT w=true)
  (h:Q (((pickOrder (w.params.setOrder S ep) es)[i]?).map λe=>(e.2,slot)) s):wpAny (model P w) A (setNext S slot i ep) Q E s:=by
 unfold setNext;refine ez (Kb ho hd z ?_);dsimp only;refine ez (dj ?_);rw[if_pos J];simp only[LQ,J7,KS];refine ez ?_;unfold setWalk;refine ez (Kb ho hd z ?_);dsimp only;refine ez (dj ?_);rw[if_pos J];refine ez (Nf (gx ?_));exact gx h
def mW{t:SetTable}{Q:Option (Value×Nat)->Shared->Prop}(ho:s.heap.get? S=some o)(hd:o.data=.set es ep t)(Y:t.fits es.size=true)(Z:byT w=false)
  (J:(!t.plain&&decide (es.size > 1))=false) (z:t.led=true)
  (h:Q (match es[SetTable.below t.place slot]?,t.place[SetTable.below t.place slot]? with|some (_,x),some j=>some (x,j+1)|_,_=>none) s):wpAny (model P w) A (setNext S slot i ep) Q E s:=by
 unfold setNext;refine ez (Kb ho hd Y ?_);dsimp only;refine ez (dj ?_);rw[if_neg (by rw[Z];simp)];refine Kg (λU=>absurd (show(!t.plain&&decide (es.size > 1))=true from U) (by rw[J];simp)) (λ_=>?_);refine ez ?_;show wpAny _ _ (if (!t.led&&!es.isEmpty)=true then _ else _) _ _ s;rw[if_neg (by rw[z];simp)];exact gx (gx h)
def yB(z:lZ xs)(hi:i<xs.size):SetTable.below xs (xs.getD i 0+1)=i+1:=by
 obtain⟨h1,h2,J⟩:=jD z _;have a:i<SetTable.below xs (xs.getD i 0+1):=by
  by_cases q:SetTable.below xs (xs.getD i 0+1)<=i
  .have:=J i q hi;omega
  .omega
 have b:SetTable.below xs (xs.getD i 0+1)<=i+1:=by
  by_cases q:i+1<SetTable.below xs (xs.getD i 0+1)
  .have:=h2 _ q;have:=z i (i+1) (by omega) (by omega);omega
  .omega
 omega
def ub(xs)(z:lZ xs):SetTable.below xs 0=0:=by
 obtain⟨h1,h2,J⟩:=jD z 0;by_cases q:0<SetTable.below xs 0
 .have:=h2 0 q;omega
 .omega
end
section
variable{P:Program}{w:World}{A:Around}{E:Value->Shared->Prop}{s:Shared}{I S:Addr}{o:Obj}{es:Array (Int×Value)}{t:SetTable}{i n ep:Nat}
def oN{slot nx:Nat}{x:Value}{Q:Option Value->Shared->Prop}(z:SIt s.heap I S o (.int slot 0) i n ep)(hd:o.data=.set es ep t)(hf:t.fits es.size=true)(hn:es.size=n)(Y:S≠I)
  (Z:∀A' s' Q' E',s'.heap.get? S=some o->Q' (some (x,nx)) s'->wpAny (model P w) A' (setNext S slot i ep) Q' E' s')
  (hQ:∀h',SIt h' I S o (.int nx 0) (i+1) n ep->Heap.SameBut I s.heap h'->Q (some x) { s with heap:=h' }):wpAny (model P w) A (pyNext (.ref I)) Q E s:=by
 unfold pyNext;refine ez (Mr (Ku (name:=Str.ofString "__next__") z.type aX (Ki aX z.type dy ?_ (dX _))));unfold Builtin.«set_iterator.__next__»;refine ez (m:=slotArgs "__next__" 0 _) (gx ?_);refine ez (MR z.1 rfl ?_);dsimp only;refine ez (fc z.2 hd hf ?_);rw[if_neg (by simp[hn])]
 try dsimp only
 simp only[Int.toNat_natCast];refine ez (Z _ _ _ _ z.2 ?_);dsimp only;refine ez (Ln z.1 (by simp) λh1 e1 J=>?_);refine ez (Ln e1 (by simp) λh2 e2 U=>?_);refine gx ⟨x,rfl,gx (hQ h2 ⟨?_,?_⟩ (J.trans U))⟩
 .simpa[rawInt]using e2
 .exact((J.trans U).2 S Y).trans z.2
def oO{slot:Nat}{Q:Option Value->Shared->Prop}(Y:A.handled=none)(z:SIt s.heap I S o (.int slot 0) i n ep)(hd:o.data=.set es ep t)(hf:t.fits es.size=true)(hn:es.size=n)
  (J:∀A' s' Z E',s'.heap.get? S=some o->Z none s'->wpAny (model P w) A' (setNext S slot i ep) Z E' s')
  (hQ:∀h',(∀b o,b≠I->s.heap.get? b=some o->h'.get? b=some o)->Q none { s with heap:=h' }):wpAny (model P w) A (pyNext (.ref I)) Q E s:=by
 unfold pyNext;refine ez (Mr (Ku (name:=Str.ofString "__next__") z.type aX (Ki aX z.type dy ?_ (dX _))));unfold Builtin.«set_iterator.__next__»;refine ez (m:=slotArgs "__next__" 0 _) (gx ?_);refine ez (MR z.1 rfl ?_);dsimp only;refine ez (fc z.2 hd hf ?_);rw[if_neg (by simp[hn])]
 try dsimp only
 simp[Int.toNat_natCast];refine ez (J _ _ _ _ z.2 ?_);dsimp only;refine ez (Ln z.1 (by simp) λh1 e1 U=>?_);refine kT (v:=.none) (vs:=#[]) (it:=0) (Q:=λ_ _=>True) (by first|exact Y|simpa using Y) λe s' kp ⟨h',eq⟩ hT=>?_
 subst eq;refine ez (KW hT isSubtype_stop ?_);exact gx (hQ h' λb o hb q=>kp b o ((U.2 b hb).trans q))
def mX{pn place:Nat}{pt:Tok}{hx:Int}{x:Value}{Q:Option Value->Shared->Prop}(z:SIt s.heap I S o (.ref Tp) i n ep)(hd:o.data=.set es ep t)(hf:t.fits es.size=true)(hn:es.size=n)(U:S≠I)
  (Y:s.heap.get? Tp=some ot) (Z:ot.data=.seq ps pn) (hp:ps[i]?=some (.int place pt)) (ao:es[place]?=some (hx,x))
  (hQ:∀h',SIt h' I S o (.ref Tp) (i+1) n ep->Heap.SameBut I s.heap h'->Q (some x) { s with heap:=h' }):wpAny (model P w) A (pyNext (.ref I)) Q E s:=by
 unfold pyNext;refine ez (Mr (Ku (name:=Str.ofString "__next__") z.type aX (Ki aX z.type dy ?_ (dX _))));unfold Builtin.«set_iterator.__next__»;refine ez (m:=slotArgs "__next__" 0 _) (gx ?_);refine ez (MR z.1 rfl ?_);dsimp only;refine ez (fc z.2 hd hf ?_);rw[if_neg (by simp[hn])]
 try dsimp only
 refine ez (wpAny_seqItems Y Z ?_);dsimp only;simp only[Int.toNat_natCast,hp];refine ez ?_;unfold setNextDrawn;refine ez (Kb z.2 hd hf ?_);dsimp only;simp only[LQ,J7,KS,Int.toNat_natCast,ao];refine gx ?_;refine ez (Ln z.1 (by simp) λh1 e1 J=>?_);refine gx ⟨x,rfl,gx (hQ h1 ⟨?_,?_⟩ J)⟩
 .simpa[rawInt]using e1
 .exact(J.2 S U).trans z.2
def mY(hh:A.handled=none)(z:SIt s.heap I S o (.ref Tp) i n ep)(hd:o.data=.set es ep t)(hf:t.fits es.size=true)(hn:es.size=n)
  (J:s.heap.get? Tp=some ot) (U:ot.data=.seq ps pn) (hp:ps[i]?=none)
  (hQ:∀h',(∀b o,b≠I->s.heap.get? b=some o->h'.get? b=some o)->Q none { s with heap:=h' }):wpAny (model P w) A (pyNext (.ref I)) Q E s:=by
 refine ez (Mr (Ku z.type aX (Ki aX z.type dy ?_ (dX _))));refine ez (gx ?_);refine ez (MR z.1 rfl ?_);dsimp only;refine ez (fc z.2 hd hf ?_);rw[if_neg (by simp[hn])]
 try dsimp only
 refine ez (wpAny_seqItems J U ?_);simp[Int.toNat_natCast,hp];refine ez (Ln z.1 (by simp) λh1 e1 Y=>?_);refine ez (Ln e1 (by simp) λh2 e2 Z=>?_);refine kT (v:=.none) (vs:=#[]) (it:=0) (Q:=λ_ _=>True) (by first|exact hh|simpa using hh) λe s' kp ⟨h',eq⟩ hT=>?_
 subst eq;refine ez (KW hT isSubtype_stop ?_);exact gx (hQ h' λb o hb q=>kp b o (((Y.trans Z).2 b hb).trans q))
end
def yC(xs:List Value):(range xs.length).map (λi=>xs.getD i .none)=xs:=by
 apply Mz;intro i;rw[J9];by_cases q:i<xs.length
 .simp[getElem?_range,q]
 .simp[getElem?_range,q]
structure mZ(P:Program)(w:World)(I:Addr)(fp:List Addr)(order:List Value)(St:Nat->Heap->Prop):Prop where
 mem:I∈fp
 ty:∀i h,St i h->∃o,h.get? I=some o/\o.cls=.type "set_iterator"
 frame:∀i h h',St i h->(∀b∈fp,∀o,h.get? b=some o->h'.get? b=some o)->St i h'
 item:∀(A:Around) i (s:Shared) (Q:Option Value->Shared->Prop) (E:Value->Shared->Prop),i<order.length->St i s.heap ->
  (∀h',St (i+1) h'->(∀b o,b≠I->s.heap.get? b=some o->h'.get? b=some o)->Q (some (order.getD i .none)) { s with heap:=h' })->wpAny (model P w) A (pyNext (.ref I)) Q E s
 done:∀(A:Around) (s:Shared) (Q:Option Value->Shared->Prop) (E:Value->Shared->Prop),A.handled=none->St order.length s.heap ->
  (∀h',(∀b o,b≠I->s.heap.get? b=some o->h'.get? b=some o)->Q none { s with heap:=h' })->wpAny (model P w) A (pyNext (.ref I)) Q E s
def mZ.walks{P:Program}{w:World}{I:Addr}{fp:List Addr}{J:List Value}{St:Nat->Heap->Prop}(W:mZ P w I fp J St){A:Around}(hh:A.handled=none) :
  Walks P w A I fp [I] J.length (λi v=>v=J.getD i .none) St where
 sub:=λb U=>by rw[Ke.mp U];exact W.mem
 frame:=W.frame
 item:=λi s Q E hi st Y=>W.item A i s Q E hi st λh' Z kp=>Y _ h' s.toks rfl Z λb o U e=>kp b o (λz=>U (by rw[z];exact Ke.mpr rfl)) e
 done:=λs Q E st Y=>W.done A s Q E hh st λh' kp=>Y h' s.toks λb o U e=>kp b o (λz=>U (by rw[z];exact Ke.mpr rfl)) e
 self:=λi s Q E st h=>by
  obtain⟨o,e,c⟩:=W.ty i _ st;exact yA ⟨o,e,c⟩ h
section
variable{P:Program}{w:World}{A:Around}{E:Value->Shared->Prop}{s:Shared}
def jZ{l:List (Int×Value)}{i:Nat}{e:Int×Value}(h:l[i]?=some e):(l.map λe=>e.2).getD i .none=e.2:=by
 rw[KC,J9,h];rfl
set_option maxRecDepth 100000 in
def yD{S:Addr}{o:Obj}{es:Array (Int×Value)}{ep:Nat}{t:SetTable}{Q:Value->Shared->Prop}(ho:s.heap.get? S=some o)(cC:o.ExactSet)(hd:o.data=.set es ep t)(Z:es.size<scanBound)(hf:t.fits es.size=true)(hl:t.led=!byT w)(ck:lZ t.place)
  (hQ:∀(I:Addr) (h':Heap) (d':Drawn) (fp:List Addr) (J:List Value) (St:Nat->Heap->Prop),J.Perm (es.toList.map λe=>e.2)->(∀b o,s.heap.get? b=some o->h'.get? b=some o)->s.heap.objs.size<=I->(∀b∈fp,b=S\/s.heap.objs.size<=b)->(∀b∈fp,b<h'.objs.size) ->
   mZ P w I fp J St->St 0 h'->Q (.ref I) { s with heap:=h',drawn:=d' }):wpAny (model P w) A (pyIter (.ref S)) Q E s:=by
 have hT:s.TypeIs (.ref S) "set":=⟨o,ho,cC.1⟩;have a0:S<s.heap.objs.size:=r4 ho;have cL:t.place.size=es.size:=by simp[SetTable.fits]at hf;exact hf.1
 refine M6 hT PySem.F.slot_set_iter (Ki PySem.F.slot_set_iter hT mU ?_ (PySem.F.args_set_iter_1 _));unfold Builtin.«frozenset.__iter__»;refine ez (m:=Builtin.Frozenset.slot0 "__iter__" _) (gx ?_);refine ez (m:=Builtin.Frozenset.sizeOf S) (ez (fc ho hd hf (gx ?_)));refine ez (m:=setDrawn S) ?_;unfold setDrawn;refine ez (Kb ho hd hf ?_);dsimp only;refine ez (dj (gx ?_));have Y:∀(J:List (Int×Value)) (fs:Nat->Nat),J.Perm es.toList->fs 0=0 ->
   (∀(A':Around) i (s':Shared) (Q':Option (Value×Nat)->Shared->Prop) (E':Value->Shared->Prop) e,J[i]?=some e->s'.heap.get? S=some o->Q' (some (e.2,fs (i+1))) s'->wpAny (model P w) A' (setNext S (fs i) i ep) Q' E' s') ->
   (∀(A':Around) (s':Shared) (Q':Option (Value×Nat)->Shared->Prop) (E':Value->Shared->Prop),s'.heap.get? S=some o->Q' none s'->wpAny (model P w) A' (setNext S (fs J.length) J.length ep) Q' E' s') ->
   Q (.ref s.heap.objs.size) { s with heap:=s.heap.push { cls:=.type "set_iterator",data:=.fields #[.int 0 0,.int 0 0,.ref S,.int (es.size:Nat) 0,.int (ep:Nat) 0] } }:=by
  intro J fs hp h0 b0 cl;have hol:J.length=es.size:=by have:=hp.length_eq;simpa using this
  refine hQ s.heap.objs.size _ s.drawn [s.heap.objs.size,S] (J.map λe=>e.2) (λi h=>SIt h s.heap.objs.size S o (.int (fs i) 0) i es.size ep) (hp.map _) (λb o e=>g4 _ e) (pb _) (λb Z=>?_) (λb Z=>?_) ?_ ?_
  .rcases JY.mp Z with e|e
   .exact .inr (Lj e.symm)
   .exact .inl (Ke.mp e)
  .rw[Kc];rcases JY.mp Z with e|e
   .rw[e];exact Lz _
   .rw[Ke.mp e];exact Kl a0
  .refine⟨.head _,λi h st=>⟨_,st.1,rfl⟩,λi h h' st k=>⟨k _ (.head _) _ st.1,k _ (.tail _ (.head _)) _ st.2⟩,λA' i s' Q' E' hi st hq=>?_,λA' s' Q' E' hh st hq=>?_⟩
   .rw[pd]at hi;obtain⟨e,he⟩:∃e,J[i]?=some e:=⟨_,J4 hi⟩;rw[jZ he]at hq;refine oN (slot:=fs i) (nx:=fs (i+1)) (x:=e.2) st hd hf rfl (JV a0) (λb1 b2 b3 b4 a4 q=>b0 b1 i b2 b3 b4 e he a4 q) λh' b5 sb=>?_
    exact hq h' b5 λb o Z q=>(sb.2 b Z).trans q
   .rw[pd]at st;exact oO (slot:=fs J.length) hh st hd hf rfl (λb1 b2 b3 b4 a4 q=>cl b1 b2 b3 b4 a4 q) hq
  .refine⟨?_,g4 _ ho⟩;rw[h0];exact uw _ rfl
 cases a5:byT w with
 |true =>
  simp only[L5,MP,J7,KS];refine ez (gx ?_);refine ez (Lr ho hd hf ?_);refine ez (Ks (gx ⟨_,rfl,"set_iterator",_,⟨_,uw _ rfl,rfl⟩,aX.lookup,?_⟩));have q:=Y (pickOrder (w.params.setOrder S ep) es).toList (λ_=>0) (ph _ _) rfl
   (λA' i s' Q' E' e he aO q=>pi aO hd hf a5 (by rw[<- Kj,he];exact q))
   (λA' s' Q' E' aO q=>pi aO hd hf a5 (by rw[Lg (by simp)];exact q))
  simpa[rawInt]using q
 |false =>
  cases a8:(!t.plain&&decide (es.size > 1))with
  |false =>
   refine Kg (λcd=>absurd (show(!false&&(!t.plain&&decide (es.size > 1)))=true from cd) (by rw[a8];simp)) (λ_=>?_);refine ez (gx ?_);refine ez (Lr ho hd hf ?_);refine ez (Ks (gx ⟨_,rfl,"set_iterator",_,⟨_,uw _ rfl,rfl⟩,aX.lookup,?_⟩));have ba:t.led=true:=by rw[hl,a5];rfl
   have cr:∀i,i<=t.place.size->SetTable.below t.place (match i with|0=>0|j+1=>t.place.getD j 0+1)=i:=λi hi=>by
    cases i with
    |zero=>exact ub _ ck
    |succ j=>exact yB ck (by omega)
   have q:=Y es.toList (λi=>match i with|0=>0|j+1=>t.place.getD j 0+1) (.refl _) rfl
    (λA' i s' Q' E' e he aO q=>mW aO hd hf a5 a8 ba (by
     have hi:i<es.size:=by have:=(JZ.mp he).1;simpa using this
     rw[cr i (by omega)];rw[<- Kj,he,K8 (by omega:i<t.place.size)];have e2:t.place.getD i 0=t.place[i]:=by simp[Array.getD,(by omega:i<t.place.size)]
     dsimp only at q ⊢;rw[e2]at q;exact q))
    (λA' s' Q' E' aO q=>mW aO hd hf a5 a8 ba (by
     rw[cr _ (by simp[cL]),Lg (by simp)];exact q))
   simpa[rawInt]using q
  |true =>
   refine Kg (λ_=>?_) (λcd=>absurd (show(!false&&(!t.plain&&decide (es.size > 1)))=true by rw[a8];rfl) cd);refine ez (jF _ _ _ (by simp) λz d' U=>?_);refine ez (wpAny_newTuple ?_ (by simp;have:=U.length_eq;simp at this;rw[this,Kp];unfold scanBound at Z;omega));refine ez (Lr (g4 _ ho) hd hf ?_);refine ez (Ks (gx ⟨_,rfl,"set_iterator",_,⟨_,uw _ rfl,rfl⟩,aX.lookup,?_⟩));have df:z.length=es.size:=by have:=U.length_eq;simpa using this
   have cS:∀p∈z,p<es.size:=λp hp=>by have:=U.mem_iff.mp hp;simpa using this
   have c0:((s.heap.push { cls:=.type "tuple",data:=.seq (map (λ(i:Nat)=>rawInt i) z).toArray }).push { cls:=.type "set_iterator",data:=.fields #[.ref s.heap.objs.size,.int 0 0,.ref S,.int (es.size:Nat) 0,.int (ep:Nat) 0] }).get? s.heap.objs.size=some { cls:=.type "tuple",data:=.seq (map (λ(i:Nat)=>rawInt i) z).toArray }:=
    g4 _ (uw _ rfl)
   have q:=hQ (s.heap.push { cls:=.type "tuple",data:=.seq (map (λ(i:Nat)=>rawInt i) z).toArray }).objs.size
    ((s.heap.push { cls:=.type "tuple",data:=.seq (map (λ(i:Nat)=>rawInt i) z).toArray }).push { cls:=.type "set_iterator",data:=.fields #[.ref s.heap.objs.size,.int 0 0,.ref S,.int (es.size:Nat) 0,.int (ep:Nat) 0] }) d'
    [(s.heap.push { cls:=.type "tuple",data:=.seq (map (λ(i:Nat)=>rawInt i) z).toArray }).objs.size,S,s.heap.objs.size]
    (z.map λp=>(es.toList.map λe=>e.2).getD p .none)
    (λi h=>SIt h (s.heap.push { cls:=.type "tuple",data:=.seq (map (λ(i:Nat)=>rawInt i) z).toArray }).objs.size S o (.ref s.heap.objs.size) i es.size ep/\h.get? s.heap.objs.size=some { cls:=.type "tuple",data:=.seq (map (λ(i:Nat)=>rawInt i) z).toArray })
    ?p1 (λb o e=>g4 _ (g4 _ e)) (by rw[Kc];exact Lh _) ?p2 ?p3 ?p4 ⟨⟨uw _ rfl,g4 _ (g4 _ ho)⟩,c0⟩
   .simpa[rawInt]using q
   case p1 =>
    have e1:(es.toList.map λe=>e.2).length=es.size:=by simp
    have h1:=U.map λp=>(es.toList.map λe=>e.2).getD p .none
    rw[<- e1,yC]at h1;exact h1
   case p2 =>
    intro b Z;simp only[JY,Lw,Mg]at Z;rcases Z with e|e|e
    .exact .inr (by rw[e,Kc];exact Lh _)
    .exact .inl e
    .exact .inr (Lj e.symm)
   case p3 =>
    intro b Z;rw[Kc];simp only[JY,Lw,Mg]at Z;rcases Z with e|e|e
    .rw[e];exact Lz _
    .rw[e,Kc];exact Kl (Kl a0)
    .rw[e,Kc];exact Kl (Lz _)
   case p4 =>
    refine⟨.head _,λi h st=>⟨_,st.1.1,rfl⟩,λi h h' st k=>⟨⟨k _ (.head _) _ st.1.1,k _ (.tail _ (.head _)) _ st.1.2⟩,k _ (.tail _ (.tail _ (.head _))) _ st.2⟩,λA' i s' Q' E' hi st hq=>?_,λA' s' Q' E' hh st hq=>?_⟩
    .rw[pd]at hi;obtain⟨p,hp⟩:∃p,z[i]?=some p:=⟨_,J4 hi⟩;have c1:p<es.size:=cS p (L8 hp);obtain⟨e,he⟩:∃e,es.toList[p]?=some e:=⟨_,J4 (by simpa using c1)⟩;have e3:(z.map λp=>(es.toList.map λe=>e.2).getD p .none).getD i .none=e.2:=by
      rw[KC,J9,hp];exact jZ he
     rw[e3]at hq;refine mX (place:=p) (pt:=0) (hx:=e.1) (x:=e.2) st.1 hd hf rfl (by rw[Kc];exact JV (Kl a0)) st.2 rfl (by simp[hp,rawInt]) (by rw[<- Kj,he]) λh' b5 sb=>?_
     exact hq h' ⟨b5,(sb.2 _ (by rw[Kc];exact JV (Lz _))).trans st.2⟩ λb o Z q=>(sb.2 b Z).trans q
    .rw[pd]at st;exact mY hh st.1 hd hf rfl st.2 rfl (by simp) hq
def yE (U:s.TypeIs (.ref r) "set") (h:Q false s):wpAny (model P w) A (Builtin.List.listLengthHint (.ref r)) Q E s:=by
 unfold Builtin.List.listLengthHint;refine ez (Mx U PySem.F.slot_set_len.lookup ?_);generalize J:("set.__len__":String)=Y
 wp_delta
 rw[show splitId Y=some ("set","__len__")from by subst J;decide +kernel];subst J;refine ez (KW (T:="set") (b:=true) U (by rw[MQ];kernel_rfl) ?_);refine Kg (λz=>absurd z (by decide)) (λ_=>?_);refine Kg (λ_=>?_) (λz=>absurd (by decide +kernel) z);refine ez (LV U ?_);exact gx h
end
def oP{z:List Value}{J:Array Value}(h:ItemsOf (λi v=>v=z.getD i .none) J z.length):J.toList=z:=by
 obtain⟨hz,hv⟩:=h;refine Mz λi=>?_
 by_cases q:i<z.length
 .have U:i<J.size:=by omega
  have:=hv i J[i] (K8 U);rw[Kj,K8 U,this,KC,J4 q]
  rfl
 .rw[Kj,Lg (by omega),Ng (by omega)]
section
variable{P:Program}{w:World}{A:Around}{E:Value->Shared->Prop}{s:Shared}
set_option maxRecDepth 100000 in
def rN{S:Addr}{o:Obj}{es:Array (Int×Value)}{ep:Nat}{t:SetTable}{R:List Value->Shared->Prop}(hh:A.handled=none)(ho:s.heap.get? S=some o)(a5:o.ExactSet)(hd:o.data=.set es ep t)(hb:es.size<scanBound)(hf:t.fits es.size=true)(hl:t.led=!byT w)(b4:lZ t.place)
  (h:∀(h':Heap) (tk:Nat) (d':Drawn) (a6:List Value),(∀b o,s.heap.get? b=some o->h'.get? b=some o)->a6.Perm (es.toList.map λe=>e.2)->R a6 { s with heap:=h',toks:=tk,drawn:=d' }) :
  wpAny (model P w) A (collect (.ref S)) R E s:=by
 have Y:S<s.heap.objs.size:=r4 ho;unfold collect;refine ez (wpAny_runValue (MB entry_proto_collect' ?_));rw[MC PySem.F.plain_proto_collect _];show wpAny _ A.in1 (newList [] >>= λl=>again (.builtin "list.__iadd__" ⟨[l,.ref S],[]⟩)) _ _ s;refine ez (Ks ?_);refine gx ⟨Mq PySem.F.plain_list_iadd _,MB entry_list_iadd' ?_⟩;rw[MC PySem.F.plain_list_iadd _];have b5:(s.heap.push { cls:=.type "list",data:=.seq ([]:List Value).toArray }).get? s.heap.objs.size=some { cls:=.type "list",data:=.seq #[] }:=uw _ rfl;show wpAny _ A.in1 (Builtin.List.listExtendWith (.ref s.heap.objs.size) (.ref S) (.ref s.heap.objs.size)) _ _ _;have a7:(s.heap.push { cls:=.type "list",data:=.seq ([]:List Value).toArray }).get? S=some o:=g4 _ ho;have hT:Shared.TypeIs { s with heap:=s.heap.push { cls:=.type "list",data:=.seq ([]:List Value).toArray } } (.ref S) "set":=⟨o,a7,a5.1⟩;unfold Builtin.List.listExtendWith;refine ez (LV (T:="set") hT ?_);have q1:Builtin.List.listSameRef (.ref s.heap.objs.size) (.ref S)=false:=by simp[Builtin.List.listSameRef,KR Y]
 have q2:(Value.type "set" == Value.type "list")=false:=by decide
 have q3:(Value.type "set" == Value.type "tuple")=false:=by decide
 simp only[q1,q2,q3,Bool.or_false,J7,KS];refine ez (yD a7 a5 hd hb hf hl b4 λI h1 d1 fp U St Z kp hI cd dm W st=>?_);have a8:(s.heap.push { cls:=.type "list",data:=.seq ([]:List Value).toArray }).objs.size=s.heap.objs.size+1:=Kc ..;have a9:s.heap.objs.size∉fp:=λhm=>by
  rcases cd _ hm with e|e
  .exact Kq _ (by rw[<- e]at Y;exact Y)
  .dsimp only at e;rw[a8]at e;exact Nat.not_succ_le_self _ e
 have hol:U.length<=sizeLine:=by
  have:=Z.length_eq;rw[this,pd,Array.length_toList];exact Ld hb
 have ck:Shared.TypeIs { s with heap:=h1,drawn:=d1 } (.ref S) "set":=by
  obtain⟨o,e,c⟩:=hT;exact⟨o,kp S o e,c⟩
 refine ez (Kr (yE ck ?_));have WS:=(W.walks (A:=A.in1) (by first|exact hh|simpa using hh)).toS;have fin:∀(h2:Heap) (c1:Nat),St 0 h2->(∀b o,b≠s.heap.objs.size->h1.get? b=some o->h2.get? b=some o)->h2.get? s.heap.objs.size=some { cls:=.type "list",dict:=none,data:=.seq #[] c1,slots:=#[] } ->
   codeAny (model P w) A (.builtin "list.extend.loop" ⟨[.ref s.heap.objs.size,.ref I,.ref s.heap.objs.size],[]⟩)
    (λr s'=>∃(h':Heap) (tk:Nat) (J:Array Value) (c':Nat),r=.ok (.ret (.ref s.heap.objs.size))/\s'={ s with heap:=h',toks:=tk,drawn:=d1 }/\(∀b o,s.heap.get? b=some o->h'.get? b=some o) /\
     h'.get? s.heap.objs.size=some { cls:=.type "list",dict:=none,data:=.seq J c',slots:=#[] }/\J.toList=U) { s with heap:=h2,drawn:=d1 }:=by
  intro h2 c1 cr k2 ao;refine codeAny_extend_loopS WS hol s.heap.objs.size a9 _ U.length 0 _ #[] c1 rfl (Kd _) cr ao (ItemsOf.nil _) λs' J c' hm a0 ba=>?_
  refine⟨s'.heap,s'.toks,J,c',rfl,(by
   obtain⟨h',g',cu,dt,cC⟩:=s';have eg:g'=s.gens:=hm.gens;have ed:cu=d1:=hm.drawn;have eo:cC=s.os:=hm.os;subst eg;subst ed;subst eo;rfl),λb o e=>?_,a0,oP ba⟩
  have b0:b≠s.heap.objs.size:=JV (r4 e);refine hm.heap b o (λb1=>?_) (k2 b o b0 (kp b o (g4 _ e)));rcases JY.mp b1 with z|z
  .exact b0 z
  .have cL:b=I:=Ke.mp z;rw[cL]at e;have b2:(s.heap.push { cls:=.type "list",data:=.seq ([]:List Value).toArray }).objs.size<=I:=hI;rw[a8]at b2;exact absurd (JX (r4 e) (LO b2)) (Kq _)
 have done:∀(r:Result) (s':Shared),(∃(h':Heap) (tk:Nat) (J:Array Value) (c':Nat),r=.ok (.ret (.ref s.heap.objs.size))/\s'={ s with heap:=h',toks:=tk,drawn:=d1 }/\(∀b o,s.heap.get? b=some o->h'.get? b=some o) /\
     h'.get? s.heap.objs.size=some { cls:=.type "list",dict:=none,data:=.seq J c',slots:=#[] }/\J.toList=U) ->
   wants (λv s'=>wpAny (model P w) A (match v with
    |Value.ref a=>do
     match (<- load a).data with
      |Data.seq xs _=>pure xs.toList
      | _=>unsupported "internal:collect"
    | _=>unsupported "internal:collect") R E s') E r s':=by
  rintro r s' ⟨h',tk,J,c',rfl,rfl,k',a0,hi⟩;show wpAny _ A (load s.heap.objs.size >>= _) _ _ _;refine ez (wpAny_load a0 ?_);exact gx (h h' tk d1 J.toList k' (by rw[hi];exact Z))
 have a1:h1.get? s.heap.objs.size=some { cls:=.type "list",dict:=none,data:=.seq #[] 0,slots:=#[] }:=kp _ _ b5;refine Kg (λ_=>?_) (λ_=>gx ⟨Mq PySem.F.plain_extend_loop _,LU (fin h1 0 st (λ_ _ _ e=>e) a1) done⟩);refine ez (Lv ?_);refine ez ?_;show wpAny _ _ (updateSeq s.heap.objs.size (·.push .none) >>= λ_=>updateSeq s.heap.objs.size (·.pop)) _ _ _;refine ez (MG a1 rfl ?_);have ao:=KA (Obj.mapSeq (·.push Value.none)) a1 rfl;refine MG (hz:=by seq_fits) ao rfl ?_;have cP:=KA (Obj.mapSeq (·.pop)) ao rfl;refine gx ⟨Mq PySem.F.plain_extend_loop _,LU (fin _ _ ?_ (λb o hb e=>?_) cP) done⟩
 .refine W.frame 0 _ _ st λb hb o e=>?_
  have b3:b≠s.heap.objs.size:=λz=>a9 (z▸hb)
  exact(K4 _ _ (LS b3)).trans ((K4 _ _ (LS b3)).trans e)
 .exact(K4 _ _ (LS hb)).trans ((K4 _ _ (LS hb)).trans e)
end
def rO{P:Program}{w:World}{A:Around}{E:Value->Shared->Prop}{s:Shared}{S:Addr}{ks:List Int}{R:List Value->Shared->Prop}(hh:A.handled=none)(g:cy P w s.heap S ks)
  (h:∀(h':Heap) (tk:Nat) (d':Drawn) (z:List Value) (J:List Int),(∀b o,s.heap.get? b=some o->h'.get? b=some o)->J.Perm ks->IntsAre z J->R z { s with heap:=h',toks:=tk,drawn:=d' }) :
  wpAny (model P w) A (collect (.ref S)) R E s:=by
 obtain⟨o,es,ep,t,ho,Y,hd,Z,ao,a1,hb,hf,U⟩:=g;refine rN hh ho Y hd hb hf U.led U.rise λh' tk d' z kp hp=>h h' tk d' z (z.map numOf) kp ((hp.map numOf).trans (by rw[J2];exact ao)) ?_
 have key:∀l:List Value,(∀v∈l,∃t,v=.int (numOf v) t)->IntsAre l (l.map numOf):=λl=>by
  induction l with
  |nil=>exact λ_=>.nil
  |cons v l ih =>
   intro hv;obtain⟨t,e⟩:=hv v (.head _);have:=IntsAre.cons (numOf v) t (ih λu hu=>hv u (.tail _ hu));rw[<- e]at this;exact this
 refine key z λv hv=>?_
 obtain⟨e,he,rfl⟩:=mem_map.mp (hp.mem_iff.mp hv);exact gr Z e he
end L2.St
namespace L2
open PySem PySem.Spec PyProof.Rows List Option
noncomputable def l0(scope osc:Scope):Scope:=
 { scope with names:=scope.names.map λ(n,k)=>if (k==.free&&osc.kind==.function&&osc.names.lookup n==some .cell)then(n,.cell)else(n,k) }
noncomputable def oQ(osc:Scope)(n:Str)(k:NameKind):NameKind:=if (k==.free&&osc.kind==.function&&osc.names.lookup n==some .cell)then .cell else k
def jG(scope osc):(l0 scope osc).names=scope.names.map λq=>(q.1,oQ osc q.1 q.2):=by
 refine K6 λq _=>?_
 obtain⟨n,k⟩:=q;show(if _=true then _ else _)=(n,oQ osc n k);unfold oQ;split<;>rfl
theorem fE{α z:Type}(g:Str->α->z)(y):∀names:List (Str×α),(names.map λq=>(q.1,g q.1 q.2)).lookup y=(names.lookup y).map (g y)
 | []=>rfl
 | (n,k)::r=>by
  cases hx:y==n with
  |true =>
   simp[lookup_cons,hx,map_some];rw[eq_of_beq hx]
  |false =>
   simp[lookup_cons,hx];exact fE g y r
def wP(osc)(n):oQ osc n .free=.cell\/oQ osc n .free=.free:=by
 unfold oQ;split
 .exact .inl rfl
 .exact .inr rfl
def wQ(z:k≠.cell)(h:oQ osc n k=.cell\/oQ osc n k=.free):k=.free:=by
 unfold oQ at h;by_cases hc:(k==NameKind.free&&osc.kind==.function&&osc.names.lookup n==some .cell)=true
 .simp_all
 .simp_all
theorem jH{α:Type}{k:α}:∀{l:List (Str×α)},l.lookup y=some k->(y,k)∈l
 | [],h=>by simp at h
 | (n,z)::r,h=>by
  cases hx:y==n with
  |true =>
   simp only[lookup_cons,hx]at h;rw[eq_of_beq hx,J3 h];exact .head _
  |false =>
   simp[lookup_cons,hx]at h;exact .tail _ (jH h)
def wR(h:scope.names.lookup y=some .free):(l0 scope osc).names.lookup y=some .cell\/(l0 scope osc).names.lookup y=some .free:=by
 rw[jG,fE,h,map_some];rcases wP osc y with e|e
 .exact .inl (by rw[e])
 .exact .inr (by rw[e])
def wS(U:∀z∈scope.names,z.2=.cell->z.1=x)(h:(l0 scope osc).names.lookup y=some .cell\/(l0 scope osc).names.lookup y=some .free):(y,NameKind.free)∈scope.names\/(y=x/\scope.names.lookup x=some .cell):=by
 rw[jG,fE]at h;cases e:scope.names.lookup y with
 |none=>rw[e]at h;rcases h with h|h<;>cases h
 |some k =>
  rw[e,map_some]at h;have J:=jH e;by_cases hc:k=.cell
  .subst hc;have q:=U _ J rfl;exact .inr ⟨q,by rw[<- q];exact e⟩
  .have Y:=wQ hc (h.elim (λz=>.inl (J3 z)) λz=>.inr (J3 z));rw[Y]at J;exact .inl J
def wT(h:scope.names.lookup y=some .cell):(l0 scope osc).names.lookup y=some .cell:=by
 rw[jG,fE,h,map_some];unfold oQ;split
 .rfl
 .rfl
noncomputable def fY(env:Env):List (Str×NameKind)->List (Str×Addr)->List (Str×Addr)
 | [],acc=>acc
 | (n,k)::r,acc=>if k==.free then fY env r ((n,(env.cells.lookup n).getD 0)::acc)else fY env r acc
theorem kU :∀names z,(∀y∈names,y.2=.free->∃c,env.cells.lookup y.1=some c) ->
  (forIn names z λx r=>(match x with|(name,kind)=>if (kind==NameKind.free)=true then do let c <- cellOf env name;pure (ForInStep.yield ((name,c)::r))else pure (ForInStep.yield r)):Sem (List (Str×Addr)))=pure (fY env names z)
 | [],z,_=>rfl
 | (n,k)::r,z,h=>by
  rw[forIn_cons];have U:∀y∈r,y.2=.free->∃c,env.cells.lookup y.1=some c:=λy Y=>h y (.tail _ Y)
  by_cases J:(k==NameKind.free)=true
  .obtain⟨c,hc⟩:=h (n,k) (.head _) (eq_of_beq J);dsimp only;rw[if_pos J];have Z:cellOf env n=pure c:=by unfold cellOf;rw[hc]
   rw[Z];simp only[pure_bind];rw[kU r _ U];show _=pure (if _=true then _ else _);rw[if_pos J,hc]
   all_goals rfl
  .dsimp only;rw[if_neg J];simp only[pure_bind];rw[kU r _ U];show _=pure (if _=true then _ else _);rw[if_neg J]
def m3(h:∀y∈scope.names,y.2=.free->∃c,env.cells.lookup y.1=some c):closureFor scope env=pure (fY env scope.names []):=by
 unfold closureFor;have:=kU scope.names [] h
 first
  | exact this
  | (rw[bind_pure];exact this)
  | simpa using this
theorem m4 :∀names J,(∀z∈names,z.2=.free->∃c,env.cells.lookup z.1=some c)->(∀c,J.lookup y=some c->env.cells.lookup y=some c) ->
  (fY env names J).lookup y=some c->env.cells.lookup y=some c
 | [],J,_,U,e=>U c e
 | (n,k)::r,J,h,U,e=>by
  have hr:∀y∈r,y.2=.free->∃c,env.cells.lookup y.1=some c:=λy hy=>h y (.tail _ hy)
  have Y:(if (k==NameKind.free)=true then fY env r ((n,(env.cells.lookup n).getD 0)::J)else fY env r J).lookup y=some c:=e;by_cases Z:(k==NameKind.free)=true
  .rw[if_pos Z]at Y;refine m4 r _ hr (λc' q=>?_) Y;cases hx:y==n with
   |true =>
    obtain⟨c0,a1⟩:=h (n,k) (.head _) (eq_of_beq Z)
    simp_all
   |false =>
    simp[lookup_cons,hx]at q;exact U c' q
  .rw[if_neg Z]at Y;exact m4 r _ hr U Y
theorem j3 :∀names J,((y,NameKind.free)∈names\/∃c,J.lookup y=some c)->∃c,(fY env names J).lookup y=some c
 | [],J,h=>by
  rcases h with h|h
  .simp at h
  .exact h
 | (n,k)::r,J,h=>by
  show ∃c,(if (k==NameKind.free)=true then fY env r ((n,(env.cells.lookup n).getD 0)::J)else fY env r J).lookup y=some c;by_cases U:(k==NameKind.free)=true
  .rw[if_pos U];refine j3 r _ ?_;cases hx:y==n with
   |true=>exact .inr ⟨(env.cells.lookup n).getD 0,by simp[lookup_cons,hx]⟩
   |false =>
    rcases h with h|⟨c,h⟩
    .simp_all
    .exact .inr ⟨c,by simp[lookup_cons,hx];exact h⟩
  .rw[if_neg U];refine j3 r _ ?_;rcases h with h|h
   .rcases JY.mp h with z|z
    .have:=(Prod.mk.inj z).2
     simp_all
    .exact .inl z
   .exact .inr h
structure kW(osc:Scope)(N:List Str)(scope:Scope)(x:Str)(fvs:List Str)(js:List Nat):Prop where
 cells:∀y∈scope.names,y.2=.cell->y.1=x
 once:scope.names.lookup x=some .local/\(scope.names.filter λy=>y.2==.cell)=[]\/scope.names.lookup x=some .cell/\(scope.names.filter λy=>y.2==.cell)=[(x,.cell)]
 xf:∀y∈scope.names,y.2=.free->y.1≠x
 kind:scope.kind=.function
 names:∀y∈scope.names,y.2=.local->scope.names.lookup y.1=some .local
 nd:(x::fvs).Nodup
 out:∀y∈scope.names,y.2=.free->osc.names.lookup y.1=some .cell\/osc.names.lookup y.1=some .free
 slots:(js.map λj=>N[j]?)=fvs.map some
 free:∀y∈fvs,scope.names.lookup y=some .free
structure vn(osc:Scope)(N:List Str)(scope:Scope)(x:Str)(ys fvs:List Str)(js:List Nat):Prop where
 cells:∀y∈scope.names,y.2=.cell->y.1=x
 once:scope.names.lookup x=some .local/\(scope.names.filter λy=>y.2==.cell)=[]\/scope.names.lookup x=some .cell/\(scope.names.filter λy=>y.2==.cell)=[(x,.cell)]
 xf:∀y∈scope.names,y.2=.free->y.1≠x
 kind:scope.kind=.function
 names:∀y∈scope.names,y.2=.local->scope.names.lookup y.1=some .local
 nd:(x::(ys++fvs)).Nodup
 out:∀y∈scope.names,y.2=.free->osc.names.lookup y.1=some .cell\/osc.names.lookup y.1=some .free
 slots:(js.map λj=>N[j]?)=fvs.map some
 free:∀y∈fvs,scope.names.lookup y=some .free
theorem kW.g(h:kW osc N scope x fvs js):vn osc N scope x [] fvs js:=⟨h.cells,h.once,h.xf,h.kind,h.names,h.nd,h.out,h.slots,h.free⟩
noncomputable def kX(scope:Scope)(x:Str)(C:Addr):List (Str×Addr):=if scope.names.lookup x=some .cell then [(x,C+1)]else []
noncomputable def Cx.blk(X:Cx)(x:Str)(fvs:List Str)(scope:Scope)(z:Shared)(J:Hp)(C:Addr)(fp:List Addr):Cx:=
 { X with N:=x::fvs,s₀:=z,H₀:=J,env:=compEnvC scope (kX scope x C++fY X.env scope.names []) C X.env,outer:=X.stack,ex:=fp,fn:=λy=>decide (y=x/\scope.names.lookup x=some .cell),pn:=[],xe:=λ_ _=>False }
theorem m5 :∀{names:List (Str×NameKind)}{z}{s}{Q},(names.filter λy=>y.2==.cell)=[]->Q z s ->
  wpAny M A (forIn names z λx r=>(match x with|(name,kind)=>if (kind==NameKind.cell)=true then do let c <- alloc { cls:=.type "cell",data:=.cell none };pure (ForInStep.yield ((name,c)::r))else pure (ForInStep.yield r)):Sem (List (Str×Addr))) Q E s
 | [],_,_,_,_,h=>gx h
 | (n,k)::r,z,s,Q,hf,h=>by
  rw[forIn_cons];have J:(k==NameKind.cell)=false:=by
   simp_all
  rw[LI (by rw[J];decide)]at hf;dsimp only;rw[if_neg (by rw[J];decide)];exact ez (gx (m5 hf h))
theorem pj{x:Str}:∀{names:List (Str×NameKind)}{z}{s}{Q},(names.filter λy=>y.2==.cell)=[(x,.cell)] ->
  Q ((x,s.heap.objs.size)::z) { s with heap:=s.heap.push { cls:=.type "cell",data:=.cell none } } ->
  wpAny M A (forIn names z λx r=>(match x with|(name,kind)=>if (kind==NameKind.cell)=true then do let c <- alloc { cls:=.type "cell",data:=.cell none };pure (ForInStep.yield ((name,c)::r))else pure (ForInStep.yield r)):Sem (List (Str×Addr))) Q E s
 | [],_,_,_,hf,_=>by cases hf
 | (n,k)::r,z,s,Q,hf,h=>by
  rw[forIn_cons];dsimp only;cases J:(k==NameKind.cell)with
  |false =>
   rw[LI (by rw[J];decide)]at hf;exact ez (gx (pj hf h))
  |true =>
   rw[filter_cons_of_pos (by exact J)]at hf;obtain⟨U,Y⟩:=List.cons.inj hf;cases U;exact ez (ez (wpAny_alloc (gx (m5 Y h))))
def uc{scope:Scope}{x:Str}{globals:Addr}{Z:List (Str×Addr)}{qual:Str}{env:Env}{s:Shared}{Q:Env->Shared->Prop}(hk:scope.kind=.function)
  (ho:scope.names.lookup x=some .local/\(scope.names.filter λy=>y.2==.cell)=[]\/scope.names.lookup x=some .cell/\(scope.names.filter λy=>y.2==.cell)=[(x,.cell)])
  (h:∀h' m,h'.Ns s.heap.objs.size m->(∀b u,s.heap.get? b=some u->h'.get? b=some u)->(scope.names.lookup x=some .cell->h'.IsCell (s.heap.objs.size+1) none)->Q (newEnv scope s.heap.objs.size globals (kX scope x s.heap.objs.size++Z) qual none .none (some env) builtinsNs) { s with heap:=h' }) :
  wpAny M A (newFunctionEnv scope globals Z [] qual none .none (some env)) Q E s:=by
 rcases ho with⟨h1,h2⟩|⟨h1,h2⟩
 .refine wpAny_newFunctionEnv (λy J z=>?_) (by intro y J;simp at J) (λh' U Y=>?_) hk
  .have:y∈scope.names.filter λy=>y.2==.cell:=KJ.mpr ⟨J,by rw[z];rfl⟩
   rw[h2]at this;cases this
  .have q:=h h' _ U (λb u e=>Y.extBut b u (JV (r4 e)) (g4 _ e)) λz=>by rw[h1]at z;cases z
   unfold kX at q
   simp_all
 .unfold newFunctionEnv;refine ez (wpAny_alloc (ez (pj h2 ?_)));have hn:=Heap.Ns.new s.heap (.type "dict");have hs:(s.heap.push { cls:=.type "dict",data:=.dict #[] }).objs.size=s.heap.objs.size+1:=Kc _ _;have q:=h ((s.heap.push { cls:=.type "dict",data:=.dict #[] }).push { cls:=.type "cell",data:=.cell none }) _ (hn.keeps λb o e=>g4 _ e) (λb u e=>g4 _ (g4 _ e)) λ_=>⟨_,by rw[<- hs];exact uw _ rfl,rfl⟩
  unfold kX at q;rw[if_pos h1]at q;rw[<- hs]at q;exact ez (gx (gx q))
noncomputable def fw(js:List Nat)(σ:St):St:=none::js.map λj=>(σ[j]?).join
noncomputable def wU(n:Nat)(js:List Nat)(σ:St):St:=none::(replicate n none++js.map λj=>(σ[j]?).join)
def PF(X:Cx)(ifs:List Expr)(t:TT):Prop:=
 ∀pins s (σ:St) H Q,Inv X pins σ H s->t σ H Q ->
  wpAny (model X.prog X.w) X.A (forIn ifs true λc r=>if r=true then do let ok <- isTrue c X.env (eval c X.env);pure (ForInStep.yield ok)else pure (ForInStep.yield r)) (TP X pins σ Q) X.xe s
noncomputable def Jt:TT:=λ_ H Q=>Q true H
def Eg :PF X [] Jt:=λ_ _ _ H _ I h=>wpAny_tests_nil ⟨H,I,h⟩
def Eh(h:PT X c t):PF X [c] t:=λpins s σ H Q I q=>wpAny_tests_one (h pins s σ H Q I q)
section
variable{prog:Program}{w:World}{A:Around}{R:Result->Shared->Prop}{s:Shared}
def wV{elt target iter:Expr}{ifs:List Expr}{scope:Scope}{pos:Pos}{it U:Value}{env:Env}(J:Nat->Shared->Prop)
  (turn:∀n s,J n s->wpAny (model prog w) A (pyNext it) (λr Z=>match r with
   |none=>R (.ok .next) Z
   |some v=>wpAny (model prog w) A (letOwnedTupleGo target it v) (λ_ s2=>wpAny (model prog w) A (assign target env v) (λ_ s3 =>
     wpAny (model prog w) A (forIn ifs true λc r=>if r=true then do let ok <- isTrue c env (eval c env);pure (ForInStep.yield ok)else pure (ForInStep.yield r)) (λok s4 =>
      if ok=true then wpAny (model prog w) A (eval elt env) (λx s5 =>
       wpAny (model prog w) A (call (.builtin "list.append") [U,x]) (λ_ s6=>∃m,m<n/\J m s6) (λ_ _=>False) s5) (λ_ _=>False) s4
      else ∃m,m<n/\J m s4) (λ_ _=>False) s3) (λ_ _=>False) s2) (λ_ _=>False) Z) (λ_ _=>False) s)
  (n) (h:J n s):codeAny (model prog w) A (.compLoop (.ListComp elt [⟨target,iter,ifs,0⟩] scope pos) 0 it U env) R s:=by
 have Y:∀{α}{t}{Q:α->Shared->Prop}{E}{s},wpAny (model prog w) A t Q (λ_ _=>False) s->wpAny (model prog w) A t Q E s:=λq=>Ko q (λ_ _ z=>z) λ_ _ z=>z.elim
 refine codeAny_loop rfl J (λn s hJ=>?_) n h;show wpAny _ A ((compTurn (.ListComp elt [⟨target,iter,ifs,0⟩] scope pos) 0 it U env).onRaise (λx=>do noteFrame x env;theTreesLotGoes x)) _ _ s;refine wpAny_noted ?_;rw[compTurn_list];refine ez (wpAny_standAt (ez (Ko (Y (turn n s hJ)) (λr Z h1=>?_) λ_ _ z=>z)));cases r with
 |none=>exact gx h1
 |some v =>
  refine ez (Ko (Y h1) (λ_ s2 h2=>?_) λ_ _ z=>z);refine ez (Ko (Y h2) (λ_ s3 h3=>ez (Ko (Y h3) (λok s4 h4=>?_) λ_ _ z=>z)) λ_ _ z=>z);cases ok<;>first|exact gx ⟨rfl,h4⟩|exact ez (ez (Ko (Y h4) (λx s5 h5=>ez (Ko (Y h5) (λ_ s6 h6=>gx (gx ⟨rfl,h6⟩)) λ_ _ z=>z)) λ_ _ z=>z))
end
def rP(J:It)(U:St)(H1:Hp)(tt:TT)(te:TE)(D:Addr)(Q:VK):Prop:=
 ∃W:Nat->Nat->St->Hp->Prop,(∃m,W 0 m U (upd H1 D (.lst [])))/\∀i m F H',W i m F H' ->
  (J.stop i H'/\Q (.ref D) H')\/(J.go i H'/\∃N:St->Hp->Prop,(∀z H2,N z H2->∃Y,Y<m/\W (i+1) Y z H2)/\∀x H2,J.yld i H' x H2 ->
   tt (F.set 0 (some x)) H2 λb Z=>if b=true then te (F.set 0 (some x)) Z λy H4=>∃ys,H4 D=some (.lst ys)/\ys.length<sizeLine/\N (F.set 0 (some x)) (upd H4 D (.lst (ys++[y])))else N (F.set 0 (some x)) Z)
def yF(J:It)(g:TG)(Y:St)(H1:Hp)(tt:TT)(te:TE)(D:Addr)(Q:VK):Prop:=
 ∃W:Nat->Nat->St->Hp->Prop,(∃m,W 0 m Y (upd H1 D (.lst [])))/\∀i m F H',W i m F H' ->
  (J.stop i H'/\Q (.ref D) H')\/(J.go i H'/\∃N:St->Hp->Prop,(∀U H2,N U H2->∃Z,Z<m/\W (i+1) Z U H2)/\∀x H2,J.yld i H' x H2 ->
   g x F H2 λz H3=>tt z H3 λb H4=>if b=true then te z H4 λy H5=>∃ys,H5 D=some (.lst ys)/\ys.length<sizeLine/\N z (upd H5 D (.lst (ys++[y])))else N z H4)
theorem rP.g(h:rP J z H1 tt te D Q):yF J (ji 0) z H1 tt te D Q:=h
noncomputable def yG(wi:TI)(js:List Nat)(tt:TT)(te:TE):TE:=λσ H Q=>wi σ H λJ H1=>∀D,H1 D=none->rP J (fw js σ) H1 tt te D Q
section
variable{X:Cx}{elt iter:Expr}{x:Str}{px:Pos}{ifs:List Expr}{scope:Scope}{pos:Pos}{fvs:List Str}{js:List Nat}{wi:TI}{tt:TT}{te:TE}
def ud{ys:List Str}(Z:vn X.env.scope X.N scope x ys fvs js)(hc:X.calm=true)(hg:∀a0 a3 C fp,PG (X.blk x (ys++fvs) scope a0 a3 C fp) tg g)
  (ht:∀a0 a3 C fp,PF (X.blk x (ys++fvs) scope a0 a3 C fp) ifs tt) (he:∀a0 a3 C fp,PE (X.blk x (ys++fvs) scope a0 a3 C fp) elt te)
  {pins:List (Addr×Obj)}{σ:St}{H2:Hp}{U:Shared}{Q:VK}{it:Addr}{fp:List Addr}{tn:Nat->Heap->Prop}{J:It}{RR:Value->Addr->Result->Shared->Prop}
  (I2:Inv X pins σ H2 U) (T:tP X.prog X.w X.K tg J fp it tn) (dt:tn 0 U.heap) (f2:∀b∈fp,kL X pins H2 b)
  (hh:∀D,H2 D=none->yF J g (wU ys.length js σ) H2 tt te D Q)
  (fin:∀D C H' s',Inv X pins σ H' s'->(∃m,s'.heap.Ns C m)->H' C=none->C≠X.env.locals->X.s₀.heap.objs.size<=C->(∀y c,X.env.cells.lookup y=some c->c≠C)->(∀p∈X.pn++pins,p.1≠C)->Q (.ref D) H' ->
   RR (.ref D) C (.ok .next) s') {E:Value->Shared->Prop} :
  wpAny (model X.prog X.w) X.A (newList []) (λacc s3=>wpAny (model X.prog X.w) X.A (newFunctionEnv scope X.env.globals (fY X.env scope.names []) [] X.env.qual none .none (some X.env)) (λcr s4 =>
   codeAny (model X.prog X.w) X.A (.compStart (.ListComp elt [⟨tg,iter,ifs,0⟩] scope pos) 0 (.ref it) acc { cr with scope:=relabel scope X.env }) (RR acc cr.locals) s4) E s3) E U:=by
 have fr:∀y∈scope.names,y.2=.free->∃c,X.env.cells.lookup y.1=some c:=λy hy hk=>I2.ok.has y.1 (Z.out y hy hk)
 have sub:∀y c,(fY X.env scope.names []).lookup y=some c->X.env.cells.lookup y=some c:=λy c e=>m4 scope.names [] fr (λ_ q=>by simp at q) e
 refine Ks (uc (x:=x) Z.kind Z.once λh1 m1 a6 a7 a8=>?_);dsimp only at a6 a7 a8 ⊢;have Y:Inv X pins σ (upd H2 U.heap.objs.size (.lst [])) { U with heap:=U.heap.push { cls:=.type "list",data:=.seq ([]:List Value).toArray },toks:=U.toks }:=I2.lnew (ys:=[]) (its:=[]) .nil (Kd _);generalize hG:U.heap.push { cls:=.type "list",dict:=none,data:=.seq ([]:List Value).toArray }=G at a6 a7 a8 Y ⊢;have hC:G.objs.size=U.heap.objs.size+1:=by rw[<- hG,Kc]
 obtain⟨W,⟨m0,w0⟩,turn⟩:=hh U.heap.objs.size I2.fresh;have up:=a7;have aO:∀{y}{c},(kX scope x G.objs.size++fY X.env scope.names []).lookup y=some c->(y=x/\scope.names.lookup x=some .cell/\c=G.objs.size+1)\/(fY X.env scope.names []).lookup y=some c:=λ{y c} e=>by
  unfold kX at e;by_cases q:scope.names.lookup x=some .cell
  .rw[if_pos q]at e;by_cases z:(y==x)=true
   .rw[cons_append,lookup_cons,z]at e;exact .inl ⟨eq_of_beq z,q,(J3 e).symm⟩
   .rw[cons_append,lookup_cons,(Mu _).mp z]at e;exact .inr e
  .rw[if_neg q]at e;exact .inr e
 have gy:∀{H'}{s'},Inv X pins σ H' s'->True:=λ_=>trivial
 have nC:=Y.hok.fresh (pb _);have cL:=KR Y.lt;have cS:=Y.sz;have cC:∀y c,X.env.cells.lookup y=some c->c≠G.objs.size:=λy c e z=>by
  obtain⟨v,q⟩:=Y.cell y c e;exact absurd (show c<G.objs.size from q.lt) (by rw[z];exact Kq _)
 have cP:∀p∈X.pn++pins,p.1≠G.objs.size:=λp hp z=>absurd (show p.1<G.objs.size from r4 (Y.pin p hp).1) (by rw[z];exact Kq _)
 have c1:∀b∈fp,b<U.heap.objs.size:=λb hb=>by
  obtain⟨o,e,_⟩:=T.obj 0 _ dt b hb;exact r4 e
 have ok:(X.blk x (ys++fvs) scope { U with heap:=G,toks:=U.toks } (upd H2 U.heap.objs.size (.lst [])) G.objs.size fp).Ok:=by
  have hb:∀b∈fp,b∉frs X.stack:=λb hb z=>(JY.mp (I2.stkSub b z)).elim (f2 b hb).2.1 (f2 b hb).2.2.1
  exact {
   mod:=Y.ok.mod
   kind:=by show(relabel scope X.env).kind=_;exact Z.kind
   glob:=Y.ok.glob
   blt:=Y.ok.blt
   above:=pb _
   inj:=λy z c e1 e2=>by
    have lt:∀{y},(fY X.env scope.names []).lookup y=some c->c<G.objs.size:=λ{y} e=>by
     obtain⟨v,q⟩:=Y.cell y c (sub y c e);exact q.lt
    rcases aO e1 with⟨a1,_,a2⟩|a1
    .rcases aO e2 with⟨b1,_,_⟩|b1
     .rw[a1,b1]
     .exact absurd (lt b1) (by rw[a2];exact KP.mpr (Lh _))
    .rcases aO e2 with⟨_,_,b2⟩|b1
     .exact absurd (lt a1) (by rw[b2];exact KP.mpr (Lh _))
     .exact Y.ok.inj y z c (sub y c a1) (sub z c b1)
   has:=λy hy=>by
    show ∃c,(kX scope x G.objs.size++fY X.env scope.names []).lookup y=some c;unfold kX;rcases wS Z.cells hy with hm|⟨e,q⟩
    .obtain⟨c,ec⟩:=j3 (env:=X.env) scope.names [] (.inl hm);by_cases q:scope.names.lookup x=some .cell
     .have z:=Kx.mpr (Z.xf _ hm rfl);exact⟨c,by rw[if_pos q,cons_append,lookup_cons,z];exact ec⟩
     .exact⟨c,by rw[if_neg q];exact ec⟩
    .subst e;exact⟨G.objs.size+1,by rw[if_pos q,cons_append,lookup_cons,K5]⟩
   cab:=λy c h e=>by
    obtain⟨h1,h2⟩:=Kz h;have e':(kX scope x G.objs.size++fY X.env scope.names []).lookup y=some c:=e;unfold kX at e';rw[if_pos h2,h1,cons_append,lookup_cons,K5]at e';rw[<- J3 e'];exact Lh _
   hd:=Y.ok.hd
   frames:=Y.ok.frames
   stk:=.inl rfl
   exf:=λb a9=>⟨JV (show b<G.objs.size from JX (c1 b a9) (by rw[hC];exact Lh _)),λy c e=>by
    rcases aO e with⟨_,_,a⟩|a
    .rw[a,hC];exact KR (JX (c1 b a9) (wh (Lh _) (Lh _)))
    .exact(f2 b a9).2.2.2.2.1 y c (sub y c a)⟩
   bs:=Y.bs
   bsz:=wh Y.ok.bsz Y.sz
   noex:=λb o e a9=>by
    have q:=(f2 b a9).2.2.2.1;rcases q with q|q
    .exact Y.ok.noex b o e q
    .exact absurd (JX (r4 e) (wh Y.ok.bsz q)) (Kq _)
   exfs:=hb
   funs:=Y.stack
   frf:=Y.stkFree }
 have ea:(wU ys.length js σ).length=(x::(ys++fvs)).length:=by
  have e:=Kf List.length Z.slots;simp only[pd]at e;simp[wU,e]
 have I4:Inv (X.blk x (ys++fvs) scope { U with heap:=G,toks:=U.toks } (upd H2 U.heap.objs.size (.lst [])) G.objs.size fp) [] (wU ys.length js σ) (upd H2 U.heap.objs.size (.lst [])) { U with heap:=h1,toks:=U.toks }:=by
  refine⟨ok,rfl,Y.bare,Un.kept up,⟨_,a6,λi y v e1 e2 e3=>?_⟩,λy c e=>?_,nC,λy c e=>(aO e).elim (λ⟨_,_,a⟩=>by rw[a];exact Y.hok.fresh (Lh _)) λa=>Y.freeC y c (sub y c a),λp hp=>by simp[Cx.blk]at hp,Y.hok.kept up,ea⟩
  .cases i with
   |zero=>simp[wU]at e2
   |succ i0 =>
    have c2:(ys++fvs)[i0]?=some y:=e1;have ba:(replicate ys.length none++js.map λj=>(σ[j]?).join)[i0]?=some (some v):=by simpa[wU]using e2
    by_cases b5:i0<ys.length
    .rw[K0 (by simpa using b5),Me,if_pos b5]at ba;cases ba
    rw[Lo (by simpa using Nat.le_of_not_lt b5),length_replicate]at ba;rw[Lo (Nat.le_of_not_lt b5)]at c2;generalize i0-ys.length=i at c2 ba;have eb:=c2;have hm:=L8 eb;have ed:=Z.free y hm;have c3:=jH ed;have b0:=ba;rw[J9]at b0;cases ej:js[i]? with
    |none=>rw[ej]at b0;cases b0
    |some j =>
     rw[ej]at b0;have cd:(σ[j]?).join=some v:=J3 b0;have e4:σ[j]?=some (some v):=by
      cases q:σ[j]? with
      |none=>rw[q]at cd;cases cd
      |some z=>rw[q]at cd;exact Kf some cd
     have e5:X.N[j]?=some y:=by
      have q:=Kf (λl=>l[i]?) Z.slots;simp only[J9,ej,eb,map_some]at q;exact J3 q
     obtain⟨m,hn,hl⟩:=Y.loc;have cu:=Z.out (y,.free) c3 rfl;obtain⟨u,ru,lk⟩:=hl j y v e5 e4 (.inr cu);refine⟨u,ru,.inr ⟨?_,?_⟩⟩
     .show(relabel scope X.env).names.lookup y=_\/(relabel scope X.env).names.lookup y=_;exact wR (osc:=X.env.scope) ed
     .obtain⟨c,ec⟩:=j3 (env:=X.env) scope.names [] (.inl c3);have nx:=Kx.mpr (Z.xf _ c3 rfl);refine⟨c,?_,?_⟩
      .show(kX scope x G.objs.size++fY X.env scope.names []).lookup y=some c;unfold kX;split
       .rw[cons_append,lookup_cons,nx];exact ec
       .exact ec
      rcases lk with⟨z,_⟩|⟨_,c',eK,q⟩
      .have z':X.env.scope.names.lookup y=some .local:=z;rcases cu with w|w
       .rw[show X.env.scope.names.lookup y=some .cell from w]at z';cases z'
       .rw[show X.env.scope.names.lookup y=some .free from w]at z';cases z'
      .have:=sub y c ec;rw[eK]at this;cases this;obtain⟨o,ho,hd⟩:=q;exact⟨o,up _ _ ho,hd⟩
  .rcases aO e with⟨_,q,a⟩|a
   .exact⟨none,by rw[a];exact a8 q⟩
   .obtain⟨v,o,ho,hd⟩:=Y.cell y c (sub y c a);exact⟨v,o,up _ _ ho,hd⟩
 have ee:=T.keep 0 _ _ dt λb hb o e=>up b o (by rw[<- hG];exact g4 _ e)
 have eL:∀b∈fp,(upd H2 U.heap.objs.size (.lst [])) b=none:=λb hb=>by
  rw[bc (JV (c1 b hb))];exact(f2 b hb).1
 have b3:∀{H'},(∀b∈fp,H' b=none)->∀b∈fp,kL (X.blk x (ys++fvs) scope { U with heap:=G,toks:=U.toks } (upd H2 U.heap.objs.size (.lst [])) G.objs.size fp) [] H' b:=λhn b hb =>
  ⟨hn b hb,(ok.exf b hb).1,ok.exfs b hb,.inl hb,(ok.exf b hb).2,λp hp=>by simp[Cx.blk]at hp⟩
 have eP:∀b∈fp,(b∈X.ex\/X.s₀.heap.objs.size<=b)/\b≠X.env.locals/\(∀x c,X.env.cells.lookup x=some c->c≠b)/\∀p∈X.pn++pins,p.1≠b:=λb hb =>
  let ⟨_,q1,_,q2,q3,q4⟩:=f2 b hb;⟨q2,q1,q3,q4⟩
 have c0:∀s5,s5={ U with heap:=h1,toks:=U.toks } ->
   codeAny (model X.prog X.w) X.A (.compLoop (.ListComp elt [⟨tg,iter,ifs,0⟩] scope pos) 0 (.ref it) (.ref U.heap.objs.size) (compEnvC scope (kX scope x G.objs.size++fY X.env scope.names []) G.objs.size X.env)) (RR (.ref U.heap.objs.size) G.objs.size) s5:=by
  rintro s5 rfl;refine wV (λn s'=>∃i F H',Inv (X.blk x (ys++fvs) scope { U with heap:=G,toks:=U.toks } (upd H2 U.heap.objs.size (.lst [])) G.objs.size fp) [] F H' s'/\tn i s'.heap/\(∀b∈fp,H' b=none)/\W i n F H') ?_ m0 ⟨0,_,_,I4,ee,eL,w0⟩;rintro n s6 ⟨i,ck,H6,I6,ef,eg,w6⟩;rcases turn i n ck H6 w6 with⟨stop,qn⟩|⟨go,N,hN,step⟩
  .refine thn (T.done (X.blk x (ys++fvs) scope { U with heap:=G,toks:=U.toks } (upd H2 U.heap.objs.size (.lst [])) G.objs.size fp) rfl rfl rfl hc i [] s6 ck H6 _ I6 (b3 eg) ef stop) λr s7 ⟨hr,I7⟩=>?_
   subst hr;have I8:=Y.call' (ch:=fp) I7.os I7.base I7.hok I7.bare eP;obtain⟨m,hn,_⟩:=I7.loc;exact fin _ _ H6 s7 I8 ⟨m,hn⟩ I7.free cL cS cC cP qn
  .refine thn (T.item (X.blk x (ys++fvs) scope { U with heap:=G,toks:=U.toks } (upd H2 U.heap.objs.size (.lst [])) G.objs.size fp) rfl rfl rfl hc i [] s6 ck H6 _ I6 (b3 eg) ef go) λr s7 ⟨u,hr,h7⟩=>?_
   subst hr;refine thn h7 λ_ s8 ⟨x8,H8,I8,r8,y8,c4,e7⟩=>?_
   have e8:=I8.pinned (b3 e7) (T.obj _ _ c4);refine thn (hg _ _ _ _ _ s8 ck H8 x8 u _ e8 r8 (step x8 H8 y8)) λ_ s9 ⟨c5,H9,I9,q9⟩=>?_
   refine thn (ht _ _ _ _ _ s9 _ H9 _ I9 q9) λe9 fa ⟨fe,eh,cl⟩=>?_
   have again:∀{a5}{a4},Inv (X.blk x (ys++fvs) scope { U with heap:=G,toks:=U.toks } (upd H2 U.heap.objs.size (.lst [])) G.objs.size fp) ([]++mE fp s8.heap) c5 a4 a5->N c5 a4 ->
     ∃m,m<n/\∃i F H',Inv (X.blk x (ys++fvs) scope { U with heap:=G,toks:=U.toks } (upd H2 U.heap.objs.size (.lst [])) G.objs.size fp) [] F H' a5/\tn i a5.heap/\(∀b∈fp,H' b=none)/\W i m F H':=λ{a5 a4} b4 c6=>by
    obtain⟨m',hm,fl⟩:=hN _ a4 c6;refine⟨m',hm,i+1,_,a4,b4.unpinned,T.keep _ _ _ c4 λb hb o e=>(b4.pin (b,o) (Kw _ (Kw _ (g_ hb e)))).1,λb hb=>?_,fl⟩;obtain⟨o,e,d⟩:=T.obj _ _ c4 b hb;exact(b4.pin (b,o) (Kw _ (Kw _ (g_ hb e)))).2.1
   cases e9 with
   |false =>
    rw[if_neg (by simp)]at cl ⊢;exact again eh cl
   |true =>
    rw[if_pos rfl]at cl ⊢;refine thn (he _ _ _ _ _ fa _ fe _ eh cl) λy a5 ⟨yv,a4,b4,ry,ys,ft,hl,c6⟩=>?_
    refine thn (kN _ a5 _ a4 (.ref U.heap.objs.size) [yv] (.ref U.heap.objs.size) [y] (λ_ ei=>N c5 ei) b4 rfl (.cons ry .nil) ⟨_,ys,yv,rfl,rfl,ft,hl,c6⟩) λ_ hK ⟨_,ei,fv,_,fx⟩=>again fv fx
 exact codeAny_compStart_list (c0 _ rfl) (T.self _ 0 _ _ _ ee (c0 _ rfl))
def pk(Y:kW X.env.scope X.N scope x fvs js)(hc:X.calm=true)
  (ht:∀z U C fp,PF (X.blk x fvs scope z U C fp) ifs tt) (he:∀z U C fp,PE (X.blk x fvs scope z U C fp) elt te)
  {pins:List (Addr×Obj)}{σ:St}{H2:Hp}{s2:Shared}{Q:VK}{it:Addr}{fp:List Addr}{tn:Nat->Heap->Prop}{J:It}{RR:Value->Addr->Result->Shared->Prop}
  (I2:Inv X pins σ H2 s2) (T:tP X.prog X.w X.K (.Name x px) J fp it tn) (aO:tn 0 s2.heap) (f2:∀b∈fp,kL X pins H2 b)
  (hh:∀D,H2 D=none->rP J (fw js σ) H2 tt te D Q)
  (fin:∀(D C:Addr) (H':Hp) (s':Shared),Inv X pins σ H' s'->(∃m,s'.heap.Ns C m)->H' C=none->C≠X.env.locals->X.s₀.heap.objs.size<=C->(∀y c,X.env.cells.lookup y=some c->c≠C)->(∀p∈X.pn++pins,p.1≠C)->Q (.ref D) H' ->
   RR (.ref D) C (.ok .next) s') {E:Value->Shared->Prop} :
  wpAny (model X.prog X.w) X.A (newList []) (λacc s3=>wpAny (model X.prog X.w) X.A (newFunctionEnv scope X.env.globals (fY X.env scope.names []) [] X.env.qual none .none (some X.env)) (λZ s4 =>
   codeAny (model X.prog X.w) X.A (.compStart (.ListComp elt [⟨.Name x px,iter,ifs,0⟩] scope pos) 0 (.ref it) acc { Z with scope:=relabel scope X.env }) (RR acc Z.locals) s4) E s3) E s2:=
 ud (ys:=[]) Y.g hc (λz U C fp=>l6 (X:=X.blk x fvs scope z U C fp) (i:=0) (x:=x) (pos:=px) Y.nd rfl (Y.once.elim (λq=>.inl (lookup_relabel_local q.1)) λq=>.inr (wT q.1)) (Y.once.elim (λq=>.inr (lookup_relabel_local q.1)) λq=>.inl (J1 ⟨rfl,q.1⟩))) ht he I2 T aO f2 (λD hD=>(hh D hD).g) fin
def vo(Y:kW X.env.scope X.N scope x fvs js)(hc:X.calm=true)(hi:PI X (.Name x px) iter wi)
  (ht:∀z U C fp,PF (X.blk x fvs scope z U C fp) ifs tt) (he:∀z U C fp,PE (X.blk x fvs scope z U C fp) elt te)
  (hs:∀v,foldedSetIterable iter X.env v=pure v:=by intro _;rfl):PE X (.ListComp elt [⟨.Name x px,iter,ifs,0⟩] scope pos) (yG wi js tt te):=by
 intro pins s σ H Q I h;have fr:∀y∈scope.names,y.2=.free->∃c,X.env.cells.lookup y.1=some c:=λy hy hk=>I.ok.has y.1 (Y.out y hy hk)
 rw[eval_ListComp];refine wpAny_comprehension_free rfl hs (m3 fr) Y.kind Y.names (thn (hi pins s σ H _ I h) λv s1 h1=>thn h1 λa4 s2 h2=>?_);refine aE λZq kq=>?_
 obtain⟨it,fp,tn,J,H2,e,I2,T,Z,f2,hh⟩:=h2;subst e;refine kq ?_;refine pk (RR:=λacc C=>compPost _ X.A X.xe none _ acc C) Y hc ht he I2 T Z f2 hh λD C H' s' I' hn nC cL cS cC cP q=>?_
 obtain⟨m,hn⟩:=hn;refine⟨m,hn,λh' sb=>⟨.ref D,H',?_,rfl,q⟩⟩;exact I'.turned (λb o hb e=>(sb.2 b hb).trans e) nC cL (.inr cS) cC cP
def ue{py ao:Pos}(hN:X.N.Nodup)(a0:X.N[i]?=some y)(hy:Loc X.env.scope y)(Z:kW X.env.scope X.N scope x fvs js)(hc:X.calm=true)(hi:PI X (.Name x px) iter wi)
  (ht:∀U Y C fp,PF (X.blk x fvs scope U Y C fp) ifs tt) (he:∀U Y C fp,PE (X.blk x fvs scope U Y C fp) elt te)
  (a2:swapsWith (.ListComp elt [⟨.Name x px,iter,ifs,0⟩] scope pos) (some (.Name y py)) ao.line X.env=pure true:=by rfl)
  (hs:∀v,foldedSetIterable iter X.env v=pure v:=by intro _;rfl) (hf:X.fn y=true\/X.env.scope.names.lookup y=some .local:=by first|exact .inl rfl|exact .inr rfl|assumption) :
  PS X (.Assign [.Name y py] (.ListComp elt [⟨.Name x px,iter,ifs,0⟩] scope pos) ao) (xV (yG wi js tt te) (ji i)):=by
 intro pins s σ H D I h;have fr:∀y∈scope.names,y.2=.free->∃c,X.env.cells.lookup y.1=some c:=λy hy hk=>I.ok.has y.1 (Z.out y hy hk)
 rw[exec_Assign_Name_used _ _ _ _ a2];refine ez (wpAny_standAt (ez ?_));show wpAny _ X.A (do let _ <- comprehension (.ListComp elt [⟨.Name x px,iter,ifs,0⟩] scope pos) scope X.env _ (newList []) false (eval iter X.env) (some (assign (.Name y py) X.env))) _ _ s;refine ez (thn (wpAny_comprehension_free (use:=some (assign (.Name y py) X.env)) (Q:=λ_ s'=>SP X pins D .next s') rfl hs (m3 fr) Z.kind Z.names (thn (hi pins s σ H _ I h) λv s1 h1=>thn h1 λcd s2 h2=>?_)) λ_ s' q=>?_)
 .refine aE λZq kq=>?_
  obtain⟨it,fp,tn,J,H2,e,I2,T,a3,f2,hh⟩:=h2;subst e;refine kq ?_;refine pk (RR:=λacc C=>compPost (model X.prog X.w) X.A X.xe (some (assign (.Name y py) X.env)) (λ_ s'=>SP X pins D .next s') acc C) (Q:=λv H'=>ji i v σ H' D.nx) Z hc ht he I2 T a3 f2 hh λD' C H' s' I' hn nC cL cS cC cP q=>?_
  obtain⟨m,hn⟩:=hn;show wpAny _ _ (assign (.Name y py) X.env (.ref D')) _ _ s';refine wpAny_assign_Name (oZ I' hN a0 hy (v:=.ref D') rfl (λa5 a6 ⟨a,sb,ha⟩=>?_) hf);have ne:C≠a:=by
   rcases ha with z|z
   .rw[z];exact cL
   .exact λw=>cC y a z w.symm
  refine⟨m,hn.sameBut sb ne,λh' a7=>?_⟩;exact⟨_,H',a6.turned (t':=a5.toks) (λb o hb e=>(a7.2 b hb).trans e) nC cL (.inr cS) cC cP,q⟩
 .exact gx (gx q)
end
abbrev uf(K:Np)(H:Hp):List V->List (List Int)->Prop:=Paired λx z=>∃a,x=V.ref a/\SqT K H a (z.map V.int)
theorem uf.len{K:Np}(h:uf K H xs z):xs.length=z.length:=Paired.length h
def aC(h:H p=none)(o):ai H (upd H p o):=λb u q=>by rw[bc (cJ q h)];exact q
def ai.seqT{K:Np}(e:ai H H')(h:SqT K H a xs):SqT K H' a xs:=by
 rcases h with(h|⟨o,h⟩)|h
 .exact .inl (.inl (e _ _ h))
 .exact .inl (.inr ⟨o,e _ _ h⟩)
 .exact .inr h
section
variable{X:Cx}{pins:List (Addr×Obj)}{σ:St}{H:Hp}{s:Shared}
def Inv.laidD(I:Inv X pins σ H s)(k:∀b u,s.heap.get? b=some u->h'.get? b=some u)(J:s.heap.objs.size<=a)(new:bJ X.prog X.w (upd H a o) h' a o) :
  Inv X pins σ (upd H a o) { s with heap:=h',toks:=t',drawn:=d' }:=
 I.call (g':=s.gens) (d':=d') (t':=t') (ch:=[]) (Un.laid k J (I.hok.fresh J)) (I.hok.laid k J new) I.bare λ_ z=>nomatch z
def Inv.tupInts(I:Inv X pins σ H s)(h:SqT X.K H a (ns.map V.int)):∃its,IsTup s.heap a its.toArray/\IntsAre its ns:=by
 obtain⟨its,r,p,_⟩:=I.tuple h;exact⟨its,p,c8 r⟩
theorem Inv.tupsAt(I:Inv X pins σ H s):∀{xs}{us}{z},uf X.K H xs z->aL xs us->Paired (λu J=>∃a its,u=Value.ref a/\IsTup s.heap a its/\IntsAre its.toList J) us z
 | _,_,_,.nil,.nil=>.nil
 | _,_,_,.cons ⟨a,U,Y⟩ t,.cons r q=>by
  obtain⟨its,p,hi⟩:=I.tupInts Y;rw[U]at r;exact .cons ⟨a,its.toArray,r,p,by simpa using hi⟩ (I.tupsAt t q)
end
noncomputable def jo(P:Program)(w:World)(a:Addr)(ks:List Int):HO:=.ext λh=>St.cy P w h a ks
def rQ(g:St.cy P w h a ks):bJ P w H h a (jo P w a ks):=by
 obtain⟨o,es,ep,t,ho,r⟩:=id g;exact⟨g,⟨o,ho⟩,λh1 h2 z k=>z.at k⟩
theorem Inv.set(I:Inv X pins σ H s)(h:H a=some (jo X.prog X.w a ks)):St.cy X.prog X.w s.heap a ks:=
 (show bJ X.prog X.w H s.heap a (jo X.prog X.w a ks)from I.hok a _ h).1
section
variable{X:Cx}
def yH (hc:X.calm=true):bU X (.type "set") (λxs H Q=>∃(p:Addr) (ns:List Int),xs=[.ref p]/\(SqL X.K H p (ns.map V.int)\/SqT X.K H p (ns.map V.int))/\ns.length<=4000/\∀l:Addr,H l=none->Q (.ref l) (upd H l (jo X.prog X.w l (St.dd ns.reverse)))):=by
 intro pins s σ H xs us Q I r h;obtain⟨p,ns,rfl,z,hz,q⟩:=h;obtain⟨u,rfl,Z⟩:=d8 r;cases Z;have Y:=I.ok.hd hc;rcases z with z|z
 .obtain⟨its,J,U,_⟩:=I.list z;have hi:=c8 J;have hl:=hi.length;refine St.yz Y U.isList (ns:=ns) (by simpa using hi) (by simp;unfold scanBound;omega) λh' tk g kp=>?_
  exact⟨.ref s.heap.objs.size,_,I.laidD (d':=s.drawn) kp (pb _) (rQ g),rfl,q _ (I.hok.fresh (pb _))⟩
 .obtain⟨its,J,U,_⟩:=I.tuple z;have hi:=c8 J;have hl:=hi.length;refine St.wO Y (show s.heap.IsTuple p its.toArray from U) (ns:=ns) (by simpa using hi) (by simp;unfold scanBound;omega) λh' tk g kp=>?_
  exact⟨.ref s.heap.objs.size,_,I.laidD (d':=s.drawn) kp (pb _) (rQ g),rfl,q _ (I.hok.fresh (pb _))⟩
end
namespace Srt
noncomputable def sortI(l:List Int):List Int:=iw dw l
noncomputable def sortT(l:List (List Int)):List (List Int):=iw e_ l
def leT(a b:List Int):Prop:=HT.lexLt b a=false
def sortI_perm(l):(sortI l).Perm l:=fb dw l
def sortT_perm(l):(sortT l).Perm l:=fb e_ l
def sortI_len(l):(sortI l).length=l.length:=(sortI_perm l).length_eq
def sortT_len(l):(sortT l).length=l.length:=(sortT_perm l).length_eq
def sortT_rises(l):(sortT l).Pairwise leT:=d9 e_ l
def sortI_of_perm(p:a.Perm b):sortI a=sortI b:=oI dw p
def vq{a b:Int}:dw.kle a b ↔ a<=b:=by
 show decide _=false ↔ a<=b
 simp_all
def sortI_rises(l):(sortI l).Pairwise (· <= ·):=(d9 dw l).imp λh=>vq.mp h
def sortI_id{l:List Int}(h:l.Pairwise (· <= ·)):sortI l=l:=yr dw (h.imp λq=>vq.mpr q)
section
variable{P:Program}{w:World}{A:Around}{E:Value->Shared->Prop}{s:Shared}
def rR(z:ns.Perm ks)(hs:ns.Pairwise (· <= ·)):ns=sortI ks:=by
 refine jX dw z (hs.imp λ{a b} h=>?_);show decide _=false
 simp_all
def iM(a3:ks.length<64)
  (Y:∀Q',(∀h' tk d' J z,(∀b o,s.heap.get? b=some o->h'.get? b=some o)->z.Perm ks->IntsAre J z->Q' J { s with heap:=h',toks:=tk,drawn:=d' }) ->
   wpAny (model P w) A.in1 (collect x) Q' E s)
  (h:∀(h1 h':Heap) tk d' out c,(∀b o,s.heap.get? b=some o->h1.get? b=some o)->(∀b o,h1.get? b=some o->h'.get? b=some o)->h'.get? h1.objs.size=some { cls:=.type "list",data:=.seq out.toArray c } ->
   IntsAre out (sortI ks)->Q (.ref h1.objs.size) { s with heap:=h',toks:=tk,drawn:=d' }) :
  wpAny (model P w) A (call (.builtin "sorted") [x]) Q E s:=by
 refine Calls.call_function_entry kind_sorted plain_sorted entry_sorted (args_sorted1 _) ?_;unfold Builtin.«sorted»;refine ez (gx ?_);refine ez (Y _ λh1 tk d1 J z kp hp hi=>?_);have a5:=hi.length;have a6:=hp.length_eq;refine ez (wpAny_newList ?_ (by rw[Kp];omega));have U:(h1.push (seqObj "list" J.toArray 0)).get? h1.objs.size=some _:=uw _ rfl;refine ez (Kr (Ki slot_list_sort ⟨_,U,rfl⟩ entry_list_sort (list_sort_tree U hi (by omega) λout a7 Z ao aO=>⟨_,rfl,?_⟩) (args_list_sort _)));obtain⟨c,hc⟩:=sortedHeap_at (out:=out) U;refine gx ⟨_,rfl,h h1 _ tk d1 out.toList c kp (λb o e=>?_) ?_ ?_⟩
 .have hb:=r4 e;rw[sortedHeap_old (JV hb) (by rw[Kc];exact Kl hb)];exact g4 _ e
 .simp_all
 .rw[<- rR (ao.trans hp) aO];exact Z
def m6{vs:List Value}{z:List (List Int)}{Q:Value->Shared->Prop}(a1:vs.length<64)(hu:A.units+2<cLine)
  (hv:Paired (λu ts=>∃a its,u=Value.ref a/\IsTup s.heap a its/\IntsAre its.toList ts) vs z)
  (ao:∀Q',(∀h',(∀b o,s.heap.get? b=some o->h'.get? b=some o)->Q' vs { s with heap:=h' })->wpAny (model P w) A.in1 (collect x) Q' E s)
  (h:∀(h1 h':Heap) (p:Array Nat) (c:Nat),(∀b o,s.heap.get? b=some o->h1.get? b=some o)->(∀b o,h1.get? b=some o->h'.get? b=some o)->h'.get? h1.objs.size=some { cls:=.type "list",data:=.seq (p.toList.map λi=>vs.getD i Value.none).toArray c } ->
   PB vs.length p->p.toList.map (λi=>z.getD i [])=sortT z->Q (.ref h1.objs.size) { s with heap:=h' }) :
  wpAny (model P w) A (call (.builtin "sorted") [x]) Q E s:=by
 have J:vs.length=z.length:=Paired.length hv;refine Calls.call_function_entry kind_sorted plain_sorted entry_sorted (args_sorted1 _) ?_;unfold Builtin.«sorted»;refine ez (m:=checkCount "sorted" 1 1 _) (gx ?_);refine ez (ao _ λh1 kp=>?_);refine ez (wpAny_newList ?_ (by rw[Kp];omega));have U:(h1.push (seqObj "list" vs.toArray 0)).get? h1.objs.size=some (seqObj "list" vs.toArray 0):=uw _ rfl;have Y:∀(s':Shared),(∀b o,b≠h1.objs.size->(h1.push (seqObj "list" vs.toArray 0)).get? b=some o->s'.heap.get? b=some o)->∀i,i<vs.length->∃a its,vs.getD i Value.none=.ref a/\IsTup s'.heap a its/\IntsAre its.toList (z.getD i []):=λs' k i hi=>by
  have gen:∀{us:List Value}{Z:List (List Int)},Paired (λu ts=>∃a its,u=Value.ref a/\IsTup s.heap a its/\IntsAre its.toList ts) us Z->∀i,i<us.length->∃a its,us.getD i Value.none=.ref a/\IsTup s.heap a its/\IntsAre its.toList (Z.getD i []):=by
   intro us Z hp
   induction hp with
   |nil=>intro i hi;simp at hi
   |cons q _ ih =>
    intro i hi;cases i with
    |zero=>obtain⟨a,its,e,r⟩:=q;exact⟨a,its,by simpa using e,by simpa using r⟩
    |succ i=>obtain⟨a,its,e,r⟩:=ih i (by simpa using hi);exact⟨a,its,by simpa using e,by simpa using r⟩
  obtain⟨a,its,e,⟨o,ho,r⟩,a4⟩:=gen hv i hi;have aO:=kp a o ho;exact⟨a,its,e,⟨o,k a o (JV (r4 aO)) (g4 _ aO),r⟩,a4⟩
 refine ez (Kr (Ki slot_list_sort ⟨_,U,rfl⟩ entry_list_sort (qi (O:=e_) (key:=λi=>z.getD i []) U a1 (λh2 s' Q' k q=>wM h2 (λv hm=>?_) q) (λg a5 s' i j C k hi hj q=>?_) λp hp hr=>⟨_,rfl,?_⟩) (args_list_sort _)))
 .obtain⟨i,hi,e⟩:=getElem_of_mem hm;obtain⟨a,its,e',r1,r2⟩:=Y s' k i hi;exact⟨a,its,_,by rw[<- e',<- e];simp[hi],r1,r2⟩
 .obtain⟨a,its,e,r1,r2⟩:=Y s' k i hi;obtain⟨a',its',e',a9,ba⟩:=Y s' k j hj;rw[e,e'];exact BH a5 r1 a9 r2 ba (show A.units+1+1<cLine from hu) q
 .obtain⟨c,hc⟩:=sortedHeap_at (out:=(p.toList.map λi=>vs.getD i Value.none).toArray) (vs:=vs) U;have b0:PB z.length p:=by rw[<- J];exact hp
  have b1:fD (O:=e_) (λi=>z.getD i []) p z.length:=by rw[<- J];exact hr
  refine gx ⟨_,rfl,h h1 _ p c kp (λb o e=>?_) hc hp (Ef (O:=e_) (d:=([]:List Int)) (xs:=z) b0 b1)⟩;have hb:b<h1.objs.size:=r4 e;rw[sortedHeap_old (JV hb) (by rw[Kc];exact Kl hb)];exact g4 _ e
end
end Srt
section
variable{X:Cx}
def Inv.keptD(I:Inv X pins σ H s)(k:∀b u,s.heap.get? b=some u->h'.get? b=some u):Inv X pins σ H { s with heap:=h',toks:=t',drawn:=d' }:=
 I.call (g':=s.gens) (d':=d') (t':=t') (ch:=[]) (Un.kept k) (I.hok.kept k) I.bare λ_ z=>nomatch z
def po:∀{vs}{ns},IntsAre vs ns->aL (ns.map V.int) vs:=kO
def Ei(X:Cx):List V->Hp->VK->Prop:=λxs H Q=>∃p ks,xs=[.ref p]/\(SqL X.K H p (ks.map V.int)\/SqT X.K H p (ks.map V.int)\/H p=some (jo X.prog X.w p ks))/\ks.length<64/\∀l,H l=none->Q (.ref l) (upd H l (.lst ((Srt.sortI ks).map V.int)))
def j4 (hc:X.calm=true):bU X (.builtin "sorted") (Ei X):=by
 intro pins s σ H xs us Q I r h;obtain⟨p,ks,rfl,z,ao,q⟩:=h;obtain⟨u,rfl,rx⟩:=d8 r;cases rx;have hh:=I.ok.hd hc;refine Srt.iM (ks:=ks) ao (λQ' J=>?_) λh1 h' tk d' out c k1 k2 e hi=>?_
 .rcases z with z|z|z
  .obtain⟨its,Z,pl,hz⟩:=I.list z;obtain⟨o,ho,U,n,hd⟩:=pl.isList;refine Mm p (.inl rfl) ho U hd (λh' kp=>?_) (by have:=Z.length;simp[ro]<;>omega);exact J h' s.toks s.drawn _ ks kp (.refl _) (by simpa using c8 Z)
  .obtain⟨its,Z,pl,hz⟩:=I.tuple z;obtain⟨o,ho,U,n,hd⟩:=pl;refine Mm p (.inr rfl) ho U hd (λh' kp=>?_) (by have:=Z.length;simp[ro]<;>omega);exact J h' s.toks s.drawn _ ks kp (.refl _) (by simpa using c8 Z)
  .exact St.rO (by first|exact hh|simpa using hh) (I.set z) λh' tk d' a0 Y kp hp hi=>J h' tk d' a0 Y kp hp hi
 .have I1:Inv X pins σ H { s with heap:=h1,toks:=tk,drawn:=d' }:=I.keptD k1;have I2:Inv X pins σ (upd H h1.objs.size (.lst ((Srt.sortI ks).map V.int))) { s with heap:=h',toks:=tk,drawn:=d' }:=
   I1.laid k2 (pb _) (show bJ X.prog X.w _ h' _ _ from⟨by rw[pd,Srt.sortI_len,Kp];omega,out,c,po hi,e⟩)
  exact⟨.ref h1.objs.size,_,I2,rfl,q _ (I1.hok.fresh (pb _))⟩
def Ej(X:Cx):List V->Hp->VK->Prop:=λxs H Q=>∃(p:Addr) (vs:List V) (z:List (List Int)),xs=[.ref p]/\(SqL X.K H p vs\/SqT X.K H p vs)/\uf X.K H vs z/\z.length<64 /\
 ∀l (pm:List Nat),H l=none->(∀i∈pm,i<vs.length)->pm.map (λi=>z.getD i [])=Srt.sortT z->Q (.ref l) (upd H l (.lst (pm.map λi=>vs.getD i .non)))
theorem pp(h:aL vs us):∀(l:List Nat),(∀i∈l,i<vs.length)->aL (l.map λi=>vs.getD i .non) (l.map λi=>us.getD i Value.none)
 | [],_=>.nil
 |i::l,z=>by
  have hi:=z i (.head _);obtain⟨u,U,Y⟩:=h.get (i:=i) (x:=vs[i]) (J4 hi);refine .cons ?_ (pp h l λj J=>z j (.tail _ J))
  simp_all
def ql (hu:X.A.units+64<cLine):bU X (.builtin "sorted") (Ej X):=by
 intro pins s σ H xs us Q I r h;obtain⟨p,vs,a4,rfl,Y,ht,a5,q⟩:=h;obtain⟨u,rfl,rx⟩:=d8 r;cases rx;have key:∀its,aL vs its->vs.length<=sizeLine->(∀Q',(∀h',(∀b o,s.heap.get? b=some o->h'.get? b=some o)->Q' its { s with heap:=h' })->wpAny (model X.prog X.w) X.A.in1 (collect _) Q' X.xe s) ->
   wpAny _ X.A (call _ [.ref p]) (EP X pins σ Q) X.xe s:=λits z hz Z=>by
  have hl:=z.length;have a7:=ht.len;refine Srt.m6 (by omega) (by omega) (I.tupsAt ht z) Z λh1 h' pm c k1 k2 e hp ho=>?_
  have ao:∀i∈pm.toList,i<vs.length:=λi hi=>by
   have:=(L4.mp hp).mem_iff.mp hi
   simp_all
  have I1:=I.kept (t':=s.toks) k1;have I2:Inv X pins σ (upd H h1.objs.size (.lst _)) { s with heap:=h' }:=
   I1.laid k2 (pb _) (show bJ X.prog X.w _ h' _ _ from⟨by have:=hp.size;rw[pd,Array.length_toList,Kp];omega,_,c,pp z _ ao,e⟩)
  exact⟨.ref h1.objs.size,_,I2,rfl,q _ pm.toList (I1.hok.fresh (pb _)) ao ho⟩
 rcases Y with Y|Y
 .obtain⟨its,z,pl,hz⟩:=I.list Y;obtain⟨o,ho,J,n,hd⟩:=pl.isList;refine key its z hz λQ' U=>Mm p (.inl rfl) ho J hd (λh' kp=>?_) (by have:=z.length;simp[ro]<;>omega)
  have:=U h' kp;simpa using this
 .obtain⟨its,z,pl,hz⟩:=I.tuple Y;obtain⟨o,ho,J,n,hd⟩:=pl;refine key its z hz λQ' U=>Mm p (.inr rfl) ho J hd (λh' kp=>?_) (by have:=z.length;simp[ro]<;>omega)
  have:=U h' kp;simpa using this
end
end L2
namespace L2.St
open PySem PyProof.Rows List Option
structure b_(P:Program)(w:World)(h:Heap)(a:Addr)(ks:List Int)(o:Obj)(es:Array (Int×Value))(ep:Nat)(t:SetTable):Prop where
 ho:h.get? a=some o
 ex:o.ExactSet
 hd:o.data=.set es ep t
 el:ElemsOf (intKind P w) es.toList
 pm:(es.toList.map λe=>numOf e.2).Perm ks
 nd:ks.Nodup
 bd:es.size<scanBound
 fi:t.fits es.size=true
theorem cy.w{w:World}(g:cy P w h a ks):∃o es ep t,b_ P w h a ks o es ep t/\Gd (!byT w) t:=by
 refine aE λZq U=>?_
 obtain⟨o,es,ep,t,ho,z,hd,J,Y,Z,hb,hf,hg⟩:=g;refine U ?_;exact⟨o,es,ep,t,⟨ho,z,hd,J,Y,Z,hb,hf⟩,hg⟩
theorem b_.len(g:b_ P w h a ks o es ep t):es.size=ks.length:=by
 have:=g.pm.length_eq;simpa using this
theorem b_.at(g:b_ P w h a ks o es ep t)(k:∀o,h.get? a=some o->h'.get? a=some o):b_ P w h' a ks o es ep t:=
 ⟨k o g.ho,g.ex,g.hd,g.el,g.pm,g.nd,g.bd,g.fi⟩
section
variable{P:Program}{w:World}{A:Around}{E:Value->Shared->Prop}{s:Shared}
variable{a:Addr}{ks:List Int}{o:Obj}{es:Array (Int×Value)}{ep:Nat}{t:SetTable}
def yI(g:b_ P w s.heap a ks o es ep t)(J:t.led=!byT w){Q:Array (Int×Value)->Shared->Prop}(h:∀z d',z.toList.Perm es.toList->Q z { s with drawn:=d' }):wpAny (model P w) A (setWalk a) Q E s:=by
 unfold setWalk;refine ez (Kb g.ho g.hd g.fi ?_);dsimp only;refine ez (dj ?_);cases U:byT w with
 |true =>
  rw[if_pos rfl];refine ez (Nf (gx ?_));exact h _ s.drawn (ph _ _)
 |false =>
  rw[if_neg (by simp)];refine Kg (λ_=>?_) (λ_=>?_)
  .refine ez (jF es.size es.toList s (by simp) λys d' Y=>?_);exact gx (h _ d' (by simpa using Y))
  .refine ez ?_;rw[U]at J;show wpAny _ _ (if (!t.led&&decide _)=true then _ else _) _ _ s;rw[if_neg (by rw[J];simp)];exact gx (gx (h es s.drawn (.refl _)))
def vt:∀z,(∀b∈z,∃ks o es ep t,b_ P w s.heap b ks o es ep t)->∀{Q},Q true s->wpAny (model P w) A (setsQuiet z) Q E s:=by
 intro z hs Q hq;unfold setsQuiet;refine ez (wpAny_forIn_list _ (λbT b s'=>(∀c∈bT,c∈z)/\b.1=none/\s'=s) _ ?_ ?_ z _ ⟨λc hc=>hc,rfl,rfl⟩)
 .rintro c bT b s' ⟨hc,hb,rfl⟩;obtain⟨ks,o,es,ep,t,g⟩:=hs c (hc c (.head _));refine ez (ML g.ho g.hd g.fi ?_);refine ez (MY _ (λbT b J=>(∀e∈bT,e∈es.toList)/\b.1=none/\J=s') _ ?_ ?_ es _ ⟨λe Y=>Y,rfl,rfl⟩)
  .rintro e Z b' J ⟨Y,U,rfl⟩;obtain⟨t',q⟩:=gr g.el e (Y e (.head _));obtain⟨hx,x⟩:=e;dsimp only at q ⊢;rw[q];exact gx ⟨λe' ao=>Y e' (.tail _ ao),rfl,rfl⟩
  .rintro b' J ⟨_,U,rfl⟩;dsimp only;rw[U];exact gx ⟨λc' aO=>hc c' (.tail _ aO),rfl,rfl⟩
 .rintro b s' ⟨_,hb,rfl⟩;dsimp only;rw[hb];exact gx hq
def yJ(g:b_ P w s.heap a ks o es ep t)(U:t.led=!byT w){others:List Addr}(hs:∀b∈others,∃ks o es ep t,b_ P w s.heap b ks o es ep t){Q:Array (Int×Value)->Shared->Prop}
  (h:∀z d',z.toList.Perm es.toList->Q z { s with drawn:=d' }):wpAny (model P w) A (setWalkUnseen a others none) Q E s:=by
 refine ez (Kb g.ho g.hd g.fi ?_);dsimp only;refine ez (dj ?_);refine Kg (λ_=>?_) (λ_=>?_)
 .exact yI g U h
 .refine ez (vt _ (λb J=>?_) ?_)
  .rcases JY.mp J with rfl|J
   .exact⟨_,_,_,_,_,g⟩
   .exact hs b J
  .simp only[L5,J7];refine ez (Lv ?_);exact gx (h es s.drawn (.refl _))
def yK(g:b_ P w s.heap a ks o es ep t)(hl:t.led=!byT w){others:List Addr}(hs:∀b∈others,∃ks o es ep t,b_ P w s.heap b ks o es ep t){f:Addr}(Y:cy P w s.heap f []){Q:Array (Int×Value)->Shared->Prop}
  (h:∀J d' h',J.toList.Perm es.toList->Heap.SameBut f s.heap h'->cy P w h' f []->Q J { s with drawn:=d',heap:=h' }):wpAny (model P w) A (setWalkUnseen a others (some f)) Q E s:=by
 unfold setWalkUnseen;refine ez (Kb g.ho g.hd g.fi ?_);dsimp only;refine ez (dj ?_);refine Kg (λ_=>?_) (λ_=>?_)
 .exact yI g hl λJ d' hp=>h J d' s.heap hp (Lp f s.heap) Y
 .refine ez (vt (a::others) (λb Z=>?_) ?_)
  .rcases JY.mp Z with rfl|Z
   .exact⟨_,_,_,_,_,g⟩
   .exact hs b Z
  .simp only[L5,J7,KS];refine ez (Lv ?_);obtain⟨of,ef,a3,U,z,gd⟩:=Y.w;refine ez (Kb z.ho z.hd z.fi ?_);dsimp only;refine Kg (λ_=>?_) (λ_=>?_)
   .have ao:({ U with led:=U.led&&t.led,plain:=U.plain&&t.plain }:SetTable).fits ef.size=true:=z.fi;have aO:Gd (!byT w) ({ U with led:=U.led&&t.led,plain:=U.plain&&t.plain }:SetTable):=⟨by show(U.led&&t.led)=_;rw[gd.led,hl];simp,gd.dum,gd.rise⟩;refine ez (Lq z.ho z.hd ?_ (Ld z.bd));have g2:=vj (P:=P) (w:=w) z.ho z.ex z.hd ⟨z.el,z.pm,z.nd,z.bd,ao,aO⟩;exact gx (h es s.drawn _ (.refl _) (Kk _ f _) g2)
   .exact gx (h es s.drawn s.heap (.refl _) (Lp f s.heap) Y)
def yL(g:b_ P w s.heap a ks o es ep t){k:Int}{tk:Tok}{Q:Option Nat->Shared->Prop}(h:Q (es.toList.findIdx? λe=>(intKind P w).is k e.2) s):wpAny (model P w) A (setFind a (.int k tk) (hashInt k)) Q E s:=by
 have z:(intKind P w).is k (.int k tk)=true:=M8 _ _ _ _;have J:(Value.int k tk).scannable=true:=rfl;unfold setFind setFindIn;refine ez (Kb g.ho g.hd g.fi ?_);dsimp only;rw[byScan_of J g.bd g.el];simp only[↓reduceIte];refine ez (Lv ?_);refine ez (wpAny_setScan_of (knd:=intKind P w) z g.ho g.hd g.fi g.el ?_);cases U:findIdx? (λe=>(intKind P w).is k e.2) es.toList with
 |some j =>
  rw[U]at h;dsimp only;rw[Ly];exact gx h
 |none =>
  rw[U]at h;exact gx h
theorem b_.mem(g:b_ P w s.heap a ks o es ep t) :k∈ks ↔ ∃e∈es.toList,(intKind P w).is k e.2=true:=by
 rw[<- g.pm.mem_iff,mem_map];constructor
 .rintro ⟨e,z,q⟩;exact⟨e,z,(jE g.el z k).mpr q⟩
 .rintro ⟨e,z,q⟩;exact⟨e,z,(jE g.el z k).mp q⟩
def rS(g:b_ P w s.heap a ks o es ep t)(k):(es.toList.findIdx? λe=>(intKind P w).is k e.2).isSome=decide (k∈ks):=by
 rw[Kv,KY,g.mem,findIdx?_isSome,Lf]
end
section
variable{P:Program}{w:World}{A:Around}{E:Value->Shared->Prop}{s:Shared}
def b_.type (g:b_ P w s.heap a ks o es ep t):s.TypeIs (.ref a) "set":=⟨o,g.ho,g.ex.1⟩
def j5 (z:s.TypeIs (.ref a) "set") {Q:Bool->Shared->Prop} (h:Q true s):wpAny (model P w) A (Builtin.Frozenset.isAnySet (.ref a)) Q E s:=by
 refine ez (KW z F.sub_set_set ?_);exact gx h
def rT (z:s.TypeIs (.ref a) "set") {Q:Value->Shared->Prop} (h:Q (.type "set") s):wpAny (model P w) A (Builtin.Frozenset.baseOf a) Q E s:=by
 refine ez (KW z F.sub_set_set ?_);exact gx h
def gu(g:b_ P w s.heap a ks o es ep t){Q:Nat->Shared->Prop}(h:Q ks.length s):wpAny (model P w) A (Builtin.Frozenset.sizeOf a) Q E s:=by
 refine ez (ML g.ho g.hd g.fi ?_);rw[<- g.len]at h;exact gx h
def Ek{id:String}{a:Addr}{ks:List Int}{o:Obj}{es:Array (Int×Value)}{ep:Nat}{t:SetTable}(g:b_ P w s.heap a ks o es ep t){α:Type}{x:α}{R:α->Shared->Prop}(h:R x s):wpAny (model P w) A (Builtin.Frozenset.unchanged id a ep >>= λ_=>pure x) R E s:=by
 unfold Builtin.Frozenset.unchanged;refine ez (ez (Lr g.ho g.hd g.fi ?_));simp only[LQ,J7,KS];exact gx (gx h)
def El{id:String}{a b:Addr}{ks js:List Int}{Q:Value->Shared->Prop}(ga:cy P w s.heap a ks)(gb:cy P w s.heap b js)(b5:¬ ks.length / 4 > js.length)
  (h:∀h' d' J,(∀c o,s.heap.get? c=some o->h'.get? c=some o)->J.Perm (ks.filter λk=>!decide (k∈js))->cy P w h' s.heap.objs.size J->Q (.ref s.heap.objs.size) { s with heap:=h',drawn:=d' }) :
  wpAny (model P w) A (Builtin.Frozenset.difference id a (.ref b)) Q E s:=by
 obtain⟨oa,ea,c5,ta,Z,cd⟩:=ga.w;obtain⟨ob,eb,c6,tb,wb,df⟩:=gb.w;unfold Builtin.Frozenset.difference;refine ez (j5 wb.type ?_);simp only[L5,J7,KS,MP,if_true,Builtin.Frozenset.addrOf,pure_bind];refine ez (gu wb ?_);refine ez (gu Z ?_);rw[if_neg b5];refine ez (rT Z.type ?_);refine ez (qk ?_);have keep:∀c o,s.heap.get? c=some o->(s.heap.push (bw w)).get? c=some o:=λc o e=>g4 _ e
 have ao:=Z.at (keep a);have ck:=wb.at (keep b);have gn:cy P w (s.heap.push (bw w)) s.heap.objs.size []:=rM _;have ha:=JV (r4 Z.ho);have hb:=JV (r4 wb.ho);refine ez (gx ?_);refine ez (Lr (s:={ s with heap:=s.heap.push (bw w) }) ao.ho ao.hd ao.fi ?_);refine ez (Kr ?_);refine ez (yK (s:={ s with heap:=s.heap.push (bw w) }) ao cd.led (others:=[b,s.heap.objs.size]) (λc hc=>?_) gn λaO d0 h0 hp cr g0=>?_)
 .rcases JY.mp hc with rfl|hc
  .exact⟨_,_,_,_,_,ck⟩
  .rw[Ke.mp hc];obtain⟨_,_,_,_,q,_⟩:=gn.w;exact⟨_,_,_,_,_,q⟩
 have a2:=Z.el.perm hp;have hK:=(hp.map _).trans Z.pm;have a7:=hK.nodup_iff.mpr Z.nd;refine ez (MY _ (λbT _ s'=>∃dn h' d' J,dn++bT=aO.toList/\s'={ s with heap:=h',drawn:=d' }/\Heap.SameBut s.heap.objs.size (s.heap.push (bw w)) h'/\cy P w h' s.heap.objs.size J/\J.Perm ((dn.map λe:Int×Value=>numOf e.2).filter λk=>!decide (k∈js))) _ ?_ ?_ aO _ ⟨[],h0,d0,[],rfl,rfl,cr,g0,by simp⟩)
 .rintro ⟨hx,x⟩ bT u s' ⟨dn,h',d',J,e1,rfl,sb,gl,pl⟩;have U:(hx,x)∈aO.toList:=by rw[<- e1];simp
  obtain⟨t',q⟩:=gr a2 _ U;obtain⟨⟨k0,cu,a0⟩,_⟩:=a2 _ U;have a4:=(jE a2 U k0).mp cu;dsimp only at q a4 a0;generalize numOf x=k at q a4;subst q a4;have a0:=a0;subst a0;have Y:∀c o,c≠s.heap.objs.size->s.heap.get? c=some o->h'.get? c=some o:=λc o hc e=>(sb.2 c hc).trans (keep c o e)
  have ba:=Z.at λo e=>Y a o ha e
  have b0:=wb.at λo e=>Y b o hb e
  dsimp only;have b1:numOf (Value.int k t')=k:=rfl;have cC:k∉J:=λz=>by
   have:=pl.mem_iff.mp z;have:=(KJ.mp this).1;rw[<- e1,Ka,JW]at a7;exact(MH.mp a7).2.2 k this k (by rw[b1];exact .head _) rfl
  refine ez (Kr ?_);refine ez (yL (s:={ s with heap:=h',drawn:=d' }) b0 ?_);rw[rS (s:={ s with heap:=h',drawn:=d' }) b0 k];by_cases hj:k∈js
  .simp only[hj,decide_true,L5,J7,KS];refine gx (Ek (s:={ s with heap:=h',drawn:=d' }) ba ⟨dn++[(hashInt k,Value.int k t')],h',d',J,by rw[Kn];exact e1,rfl,sb,gl,?_⟩)
   simp_all
  .simp only[hj,decide_false,Bool.not_false,if_true];have a5:J.length+1<scanBound:=by
    have h1:=pl.length_eq;have h2:=LA (λk=>!decide (k∈js)) (dn.map λe:Int×Value=>numOf e.2);rw[pd]at h2;have h3:aO.toList.length<scanBound:=by rw[hp.length_eq,Array.length_toList];exact Z.bd
    rw[<- e1,tr,length_cons]at h3;omega
   refine ez (pf (s:={ s with heap:=h',drawn:=d' }) gl a5 λb2 b' b3 g2=>?_);rw[if_neg cC]at g2;have cP:=ba.at λo e=>(b3.2 a ha).trans e
   refine gx (Ek (s:={ s with heap:=b2,drawn:=d' }) cP ⟨dn++[(hashInt k,Value.int k t')],b2,d',k::J,by rw[Kn];exact e1,rfl,sb.trans b3,g2,?_⟩);rw[Ka,filter_append];have:filter (λk=>!decide (k∈js)) (map (λe:Int×Value=>numOf e.2) [(hashInt k,Value.int k t')])=[k]:=by simp[b1,hj]
   rw[this];exact(Perm.cons k pl).trans (L3 (l₁:=[k]))
 .rintro u s' ⟨dn,h',d',J,e1,rfl,sb,gl,pl⟩;rw[La]at e1;subst e1;refine gx (gx (h h' d' J (λc o e=>?_) (pl.trans (hK.filter _)) gl));exact(sb.2 c (JV (r4 e))).trans (keep c o e)
end
noncomputable def itL(m:Nat):Nat->Nat->Nat
 |0,i=>i
 |t+1,i=>itL m t ((i*5+1) % (m+1))
theorem l9(m):∀a b i,itL m (a+b) i=itL m b (itL m a i)
 |0,b,i=>by rw[Ly];rfl
 |a+1,b,i=>by rw[KH];exact l9 m a b _
noncomputable def gw(m:Nat):Bool:=itL m (m+1) 0==0&&(range (m+1)).all λj=>(range (m+1)).any λt=>itL m t 0==j
theorem vv(h:itL m (m+1) 0=0):∀q r,itL m (q*(m+1)+r) 0=itL m r 0
 |0,r=>by simp
 |q+1,r=>by
  have e:(q+1)*(m+1)+r=(m+1)+(q*(m+1)+r):=by rw[Nat.succ_mul];omega
  rw[e,l9,h,vv h q r]
def cov{m:Nat}(h:gw m=true){i j:Nat}(hi:i<=m)(Y:j<=m):∃t,t<=m/\itL m t i=j:=by
 unfold gw at h;rw[mu,J0,L1]at h;obtain⟨Z,h1⟩:=h;have z:∀x,x<=m->∃t,t<=m/\itL m t 0=x:=λx hx=>by
  have:=h1 x (Mb.mpr (by omega));rw[Lf]at this;obtain⟨t,ht,e⟩:=this;exact⟨t,by have:=Mb.mp ht;omega,by simpa using e⟩
 obtain⟨a,ha,J⟩:=z i hi;obtain⟨b,hb,U⟩:=z j Y;rcases Nat.lt_or_ge b a with c|c
 .obtain⟨k,rfl⟩:=Le c;refine⟨m-k,Mi m k,?_⟩;rw[<- J,<- l9,show b+k+1+(m-k)=1*(m+1)+b by omega,vv Z,U]
 .refine⟨b-a,wh (Mi b a) hb,?_⟩;rw[<- J,<- l9,MK c,U]
def C9:gw 7=true:=rfl
def Em:gw 15=true:=rfl
def Eo:gw 31=true:=rfl
def Ep:gw 63=true:=by decide +kernel
def BJ:gw 127=true:=by decide +kernel
def BK:gw 255=true:=by decide +kernel
noncomputable def lp(m:Nat):Nat->Nat×Nat->Nat×Nat
 |0,p=>p
 |t+1,p=>lp m t (SetTable.leap m p.1 p.2)
theorem yM(m):∀a b p,lp m (a+b) p=lp m b (lp m a p)
 |0,b,p=>by rw[Ly];rfl
 |a+1,b,p=>by rw[KH];exact yM m a b _
theorem vz(m):∀t i,lp m t (i,0)=(itL m t i,0)
 |0,_=>rfl
 |t+1,i=>by
  show lp m t (SetTable.leap m i 0)=_;have:SetTable.leap m i 0=((i*5+1) % (m+1),0):=by simp[SetTable.leap]
  rw[this,vz m t]
  rfl
theorem C_(m):∀t p,p.1<=m->(lp m t p).1<=m
 |0,_,h=>h
 |t+1,p,_=>C_ m t _ (by
  show(p.1*5+1+p.2 / 32) % (m+1)<=m;have:=Nn (p.1*5+1+p.2 / 32) (show 0<m+1 by omega);omega)
theorem vA(m):∀t p,(lp m t p).2=p.2 / 32 ^ t
 |0,p=>by simp[lp]
 |t+1,p=>by
  show(lp m t (SetTable.leap m p.1 p.2)).2=_;rw[vA m t];show p.2 / 32 / 32 ^ t=_;rw[Nat.div_div_eq_div_mul,Nat.pow_succ,Nat.mul_comm]
theorem pq :∀z i p,SetTable.layClean.free m ow z i p=none->∀t,t<z->(ow.getD (lp m t (i,p)).1 (some 0)).isNone=false
 |0,_,_,_,t,h=>absurd h (by omega)
 |z+1,i,p,e,t,h=>by
  rw[SetTable.layClean.free]at e;split at e
  .cases e
  .rename_i q;cases t with
   |zero =>
    have:=Ms.mp q 0 (Mb.mpr (by unfold SetTable.runEnd;split<;>omega));exact(Mu _).mp this
   |succ t=>exact pq z _ _ e t (by omega)
theorem pw :∀z i p k,SetTable.layClean.free m ow z i p=some k->(ow.getD k (some 0)).isNone=true
 |0,_,_,_,e=>by cases e
 |z+1,i,p,k,e=>by
  rw[SetTable.layClean.free]at e;split at e
  .rename_i q;cases e;exact find?_some (p:=λk=>(ow.getD (i+k) (some 0)).isNone) q
  .exact pw z _ _ k e
def BL(U:gw m=true)(Y:j<=m)(Z:(ow.getD j (some 0)).isNone=true)(hi:i<=m)(hp:p<2 ^ 64):∃k,SetTable.layClean.free m ow (SetTable.turns m) i p=some k/\(ow.getD k (some 0)).isNone=true:=by
 cases e:SetTable.layClean.free m ow (SetTable.turns m) i p with
 |some k=>exact⟨k,rfl,pw _ _ _ _ e⟩
 |none =>
  exfalso;have q:=pq _ _ _ e;obtain⟨t,ht,et⟩:=cov U (C_ m 13 (i,p) hi) Y;have z:(lp m 13 (i,p)).2=0:=by
   rw[vA];exact Nat.div_eq_of_lt (JX hp (by decide))
  have J:lp m 13 (i,p)=((lp m 13 (i,p)).1,0):=by rw[<- z]
  have:=q (13+t) (by unfold SetTable.turns;omega);rw[yM,J,vz,et]at this;rw[Z]at this;cases this
noncomputable def vals(m:Nat)(ow:Array (Option Nat)):List Nat:=(range (m+1)).filterMap λj=>ow.getD j none
theorem yN{j k:Nat}(h1:g j=none)(h2:g' j=some k)(U:∀x,x≠j->g' x=g x):∀l:List Nat,l.Nodup->j∈l->(l.filterMap g').Perm (k::l.filterMap g)
 | [],_,h=>by cases h
 |x::l,Y,h=>by
  obtain⟨Z,n2⟩:=Ky.mp Y;by_cases e:x=j
  .subst e;rw[MN h1,L6 h2];have:∀J:List Nat,x∉J->J.filterMap g'=J.filterMap g:=by
    intro J
    induction J with
    |nil=>intro _;rfl
    |cons y J ih =>
     intro hx;have hy:y≠x:=λz=>hx (z ▸ .head _)
     rw[filterMap_cons,filterMap_cons,U y hy,ih λz=>hx (.tail _ z)]
   rw[this l Z]
  .have hm:=(JY.mp h).resolve_left λz=>e z.symm
   have ih:=yN h1 h2 U l n2 hm;cases q:g x with
   |none =>
    rw[MN q,MN ((U x e).trans q)];exact ih
   |some v =>
    rw[L6 q,L6 ((U x e).trans q)];exact(Perm.cons v ih).trans (Perm.swap k v _)
theorem yO{g:Nat->Option Nat}:∀l:List Nat,(∀x∈l,g x≠none)->(l.filterMap g).length=l.length
 | [],_=>rfl
 |x::l,h=>by
  cases q:g x with
  |none=>exact absurd q (h x (.head _))
  |some v =>
   rw[L6 q,length_cons,length_cons,yO l λy z=>h y (.tail _ z)]
def yP(hs:ow.size=m+1)(h:(vals m ow).length<=m):∃j,j<=m/\(ow.getD j (some 0)).isNone=true:=by
 cases Classical.em (∃j,j<=m/\ow.getD j none=none)with
 |inl q =>
  obtain⟨j,U,e⟩:=q;refine⟨j,U,?_⟩;have J:j<ow.size:=by omega
  simp[Array.getD,J]at e ⊢;exact e
 |inr q =>
  have:=yO (g:=λj=>ow.getD j none) (range (m+1)) λx hx z=>q ⟨x,by have:=Mb.mp hx;omega,z⟩
  unfold vals at h;rw[this,Nh]at h;omega
noncomputable abbrev Er(m:Nat):Option (Array (Option Nat)×Nat)->Int->Option (Array (Option Nat)×Nat):=λacc h=>do
  let (owner,k) <- acc
  let j <- SetTable.layClean.free m owner (SetTable.turns m) (SetTable.bits h % (m+1)) (SetTable.bits h)
  pure (owner.setIfInBounds j (some k),k+1)
def BM(h):SetTable.bits h<2 ^ 64:=by grind [SetTable.bits]
theorem yQ(hg:gw m=true):∀(hs:List Int) ow k,ow.size=m+1->(vals m ow).Perm (range k)->k+hs.length<=m ->
  ∃J,hs.foldl (Er m) (some (ow,k))=some (J,k+hs.length)/\J.size=m+1/\(vals m J).Perm (range (k+hs.length))
 | [],ow,k,h1,h2,_=>⟨ow,rfl,h1,h2⟩
 |h::hs,ow,k,h1,h2,h3=>by
  refine aE λZq kq=>?_
  rw[length_cons]at h3;have hl:=h2.length_eq;rw[Nh]at hl;obtain⟨j0,Y,Z⟩:=yP h1 (by omega);obtain⟨j,ej,hj⟩:=BL hg (ow:=ow) (i:=SetTable.bits h % (m+1)) (p:=SetTable.bits h) Y Z (by have:=Nn (SetTable.bits h) (show 0<m+1 by omega);omega) (BM h);have U:j<ow.size:=by
   refine Decidable.byContradiction λz=>?_
   simp[Array.getD,z]at hj
  have e1:Er m (some (ow,k)) h=some (ow.setIfInBounds j (some k),k+1):=by
   show(Option.bind (SetTable.layClean.free m ow (SetTable.turns m) (SetTable.bits h % (m+1)) (SetTable.bits h)) _)=_;rw[ej]
   rfl
  have hv:(vals m (ow.setIfInBounds j (some k))).Perm (range (k+1)):=by
   refine(yN (g:=λj=>ow.getD j none) (j:=j) (k:=k) ?_ ?_ ?_ (range (m+1)) nodup_range (Mb.mpr (by omega))).trans ?_
   .simp[Array.getD,U]at hj ⊢;exact hj
   .simp[Array.getD,U]
   .intro x hx;simp only[Ll,Array.getElem?_setIfInBounds];rw[if_neg λz=>hx z.symm]
   .rw[range_succ (n:=k)];exact(Perm.cons k h2).trans (L3 (l₁:=[k]))
  obtain⟨J,q1,q2,q3⟩:=yQ hg hs (ow.setIfInBounds j (some k)) (k+1) (by rw[Array.size_setIfInBounds];exact h1) hv (by omega);refine kq ?_;refine⟨J,?_,q2,?_⟩
  .rw[foldl_cons,e1,q1,length_cons]
   congr 2;omega
  .rw[length_cons]
   grind
def vB(Y:gw m=true){led plain:Bool}(h:hs.size<=m):∃t z,SetTable.laid m f mv led plain hs=some (t,z)/\z.toList.Perm (range hs.size)/\t.place.size=hs.size/\t.mask=m/\t.dummies=#[]:=by
 have Z:(vals m (Array.replicate (m+1) none)).Perm (range 0):=by
  have:vals m (Array.replicate (m+1) none)=[]:=by
   unfold vals
   simp_all
  rw[this];simp
 obtain⟨ow,U,e2,J⟩:=yQ Y hs.toList (Array.replicate (m+1) none) 0 (by simp) Z (by simpa using h);rw[Ly,Array.length_toList]at U J;have ec:SetTable.layClean m hs=some ow:=by
  unfold SetTable.layClean;rw[<- Array.foldl_toList];show Option.map _ (hs.toList.foldl (Er m) _)=_;rw[U]
  rfl
 have el:((range (m+1)).filterMap λj=>(ow.getD j none).map (j,·)).map (·.2)=vals m ow:=by
  unfold vals;rw[map_filterMap]
  congr 1
  funext j
  cases ow.getD j none<;>rfl
 refine⟨_,_,by unfold SetTable.laid;rw[ec];rfl,?_,?_,rfl,rfl⟩
 .show(map _ _).Perm _;rw[el];exact J
 .show(map _ _).toArray.size=_;rw[ro,pd];have:=Kf List.length el;rw[pd]at this;rw[this,J.length_eq,Nh]
def Hg:∀n,n<241->(SetTable.sizeAbove n=8\/SetTable.sizeAbove n=16\/SetTable.sizeAbove n=32\/SetTable.sizeAbove n=64\/SetTable.sizeAbove n=128\/SetTable.sizeAbove n=256)/\n<SetTable.sizeAbove n:=by decide +kernel
def vC(h:n<241):gw (SetTable.sizeAbove n-1)=true/\n<=SetTable.sizeAbove n-1/\SetTable.sizeAbove n<=256:=by
 obtain⟨h1,h2⟩:=Hg n h;refine⟨?_,by omega,by omega⟩;rcases h1 with e|e|e|e|e|e<;>rw[e]
 .exact C9
 .exact Em
 .exact Eo
 .exact Ep
 .exact BJ
 .exact BK
def m7{es:Array (Int×Value)}{z:Array Nat}(h:z.toList.Perm (range es.size)):(z.filterMap (es[·]?)).toList.Perm es.toList:=by
 rw[Array.toList_filterMap];refine(h.filterMap _).trans ?_;have:=PySem.List.filterMap_getElem?_range_length es.toList
 simp_all
section
variable{P:Program}{w:World}{A:Around}{E:Value->Shared->Prop}{s:Shared}
variable{a:Addr}{ks:List Int}{o:Obj}{es:Array (Int×Value)}{ep:Nat}{t:SetTable}
def l_(g:b_ P w h a ks o es ep t)(J:ElemsOf (intKind P w) z.toList)(U:(z.toList.map λe=>numOf e.2).Perm ks')(Y:ks'.Nodup)(Z:z.size<scanBound)(hf:t'.fits z.size=true) :
  b_ P w (h.update a (Obj.putSet z t')) a ks' { o with data:=.set z (ep+1) t' } z (ep+1) t':=by
 have hq:(h.update a (Obj.putSet z t')).get? a=some { o with data:=.set z (ep+1) t' }:=by
  have:=KA (Obj.putSet z t') g.ho (by rw[putSet_of z t' g.hd];rfl);rw[putSet_of z t' g.hd]at this;exact this
 exact⟨hq,g.ex,rfl,J,U,Y,Z,hf⟩
def BN:(256:Nat)<=sizeLine:=by simp_all [Kp]
def vD(g:b_ P w s.heap a ks o es ep t){z:Nat}(hw:z<241)(hn:es.size<=z){Q:Unit->Shared->Prop}
  (h:∀h' o' ao aO t',Heap.SameBut a s.heap h'->b_ P w h' a ks o' ao aO t'->t'.dummies=#[]->t'.mask=SetTable.sizeAbove z-1->Q () { s with heap:=h' }):wpAny (model P w) A (setRelay a z) Q E s:=by
 obtain⟨hg,a7,hz⟩:=vC hw;unfold setRelay;refine ez (Kb g.ho g.hd g.fi ?_);dsimp only;rw[if_neg (by have:=BN;omega)];obtain⟨t',J,e1,e2,e3,e4,e5⟩:=vB hg (f:=t.finger) (mv:=t.movedTo (SetTable.sizeAbove z-1)) (led:=t.led) (plain:=t.plain) (hs:=es.map (·.1)) (by rw[Mj];omega);have a1:t.relaid (es.map (·.1)) z=some (t',J):=e1;rw[Mj]at e2 e3;have hp:=m7 e2;have Y:(J.filterMap (es[·]?)).size=es.size:=by rw[<- Array.length_toList,hp.length_eq,Array.length_toList]
 rw[a1];refine ez (MW (a:=(J.filterMap (es[·]?),t')) ?_ ?_)
 .show(if ((J.filterMap (es[·]?)).size != es.size)=true then _ else _)=_
  simp_all
 .dsimp only;have Z:(J.filterMap (es[·]?)).size<scanBound:=by rw[Y];exact g.bd
  have a3:t'.fits (J.filterMap (es[·]?)).size=true:=by
   have U:t'.fill=es.size:=by unfold SetTable.fill;rw[e5,e3];simp
   simp only[SetTable.fits,U,mu,J0,KL];exact⟨by rw[e3,Y],by omega⟩
  refine Lq g.ho g.hd ?_ (Ld Z);exact h _ _ _ _ _ (Kk _ a _) (l_ g (g.el.perm hp) ((hp.map _).trans g.pm) g.nd Z a3) e5 e4
def Es(g:b_ P w s.heap a [] o es ep t)(hd:t.dummies=#[])(Z:t.mask=7){n:Nat}(hn:n<=60){Q:Unit->Shared->Prop}
  (h:∀h' o' J U t',Heap.SameBut a s.heap h'->b_ P w h' a [] o' J U t'->t'.dummies=#[]->gw t'.mask=true->n<=t'.mask->Q () { s with heap:=h' }):wpAny (model P w) A (setRoomFor a n) Q E s:=by
 have hz:es.size=0:=g.len;have Y:t.place.size=0:=by
  have:=g.fi;simp only[SetTable.fits,mu,J0]at this;omega
 have z:t.fill=0:=by unfold SetTable.fill;rw[hd,Y];rfl
 unfold setRoomFor;refine ez (Kb g.ho g.hd g.fi ?_);have er:t.roomFor n=if (0+n)*5>=7*3 then some ((0+n)*2)else none:=by
  unfold SetTable.roomFor;rw[z,Y,Z]
 dsimp only;rw[er];by_cases c:(0+n)*5>=7*3
 .rw[if_pos c];dsimp only;have hw:(0+n)*2<241:=by omega
  refine vD g hw (by omega) λh' o' J U t' sb g' h1 h2=>?_
  obtain⟨q1,q2,_⟩:=vC hw
  grind
 .rw[if_neg c];exact gx (h s.heap o es ep t (Lp a s.heap) g hd (by rw[Z];exact C9) (by omega))
def Et(g:b_ P w s.heap a ks o es ep t)(h0:0<ks.length)(hn:ks.length<=60){Q:Value->Shared->Prop}
  (h:∀h' o' U Z t',(∀c o,s.heap.get? c=some o->h'.get? c=some o)->b_ P w h' s.heap.objs.size ks o' U Z t'->Q (.ref s.heap.objs.size) { s with heap:=h' }):wpAny (model P w) A (Builtin.Frozenset.copyOf a) Q E s:=by
 have keep:∀c o,s.heap.get? c=some o->(s.heap.push (bw w)).get? c=some o:=λc o e=>g4 _ e
 have ha:=JV (r4 g.ho);unfold Builtin.Frozenset.copyOf;refine ez (rT g.type ?_);refine ez (qk ?_);simp only[Builtin.Frozenset.addrOf,pure_bind];have g1:b_ P w (s.heap.push (bw w)) s.heap.objs.size [] (bw w) #[] 0 (.fresh 0 0 (!byT w)):=⟨uw _ rfl,⟨rfl,rfl,rfl⟩,rfl,λe he=>by simp at he,by simp,Lk,by decide,by rfl⟩;have a2:(s.heap.objs.size==a)=false:=by simpa using λz=>ha z.symm
 have ga:=g.at (keep a);have a4:es.isEmpty=false:=by
  have:=g.len;rw[Array.isEmpty_eq_false_iff];intro z
  simp_all
 unfold setMerge;rw[a2];simp only[J7,KS,Mp];refine ez (Kb (s:={ s with heap:=s.heap.push (bw w) }) ga.ho ga.hd ga.fi ?_);simp only[a4,J7,KS,Mp];refine ez (Es (s:={ s with heap:=s.heap.push (bw w) }) g1 rfl rfl (n:=es.size) (by have:=g.len;omega) λh' o' U Z t' sb g' hd hm b4=>?_);have fin:∀h' o' U Z t',Heap.SameBut s.heap.objs.size (s.heap.push (bw w)) h'->b_ P w h' s.heap.objs.size ks o' U Z t'->Q (.ref s.heap.objs.size) { s with heap:=h' }:=λh' o' U Z t' sb g' =>
  h h' o' U Z t' (λc o e=>(sb.2 c (JV (r4 e))).trans (keep c o e)) g'
 refine ez (Kb (s:={ s with heap:=h' }) g'.ho g'.hd g'.fi ?_);have hz:U.size=0:=g'.len;have a5:t'.place.size=0:=by
  have:=g'.fi;simp only[SetTable.fits,mu,J0]at this;omega
 have Y:t'.fill=0:=by unfold SetTable.fill;rw[hd,a5];rfl
 have ao:t'.road t=if (t'.mask==t.mask&&t.dummies.isEmpty)=true then .slotForSlot else .clean:=by
  unfold SetTable.road;rw[Y]
  rfl
 dsimp only;rw[ao];by_cases c:(t'.mask==t.mask&&t.dummies.isEmpty)=true
 .rw[if_pos c];dsimp only;refine ez (Lq (s:={ s with heap:=h' }) g'.ho g'.hd ?_ (Ld g.bd));refine gx (fin _ _ _ _ _ (sb.trans (Kk _ _ _)) (l_ g' g.el g.pm g.nd g.bd ?_));exact g.fi
 .rw[if_neg c];dsimp only;refine aE λZq kq=>?_
  obtain⟨t2,J,e1,e2,e3,e4,e5⟩:=vB hm (f:=t'.finger) (mv:=t'.moves) (led:=t'.led&&t.led) (plain:=t'.plain&&t.plain) (hs:=es.map (·.1)) (by rw[Mj];have:=g.len;omega);rw[Mj]at e2 e3;have hp:=m7 e2;have aO:(J.filterMap (es[·]?)).size=es.size:=by rw[<- Array.length_toList,hp.length_eq,Array.length_toList]
  have a0:(J.filterMap (es[·]?)).size<scanBound:=by rw[aO];exact g.bd
  refine kq ?_;rw[e1];simp only[Mp];refine ez (MW (a:=(J.filterMap (es[·]?),t2)) ?_ ?_)
  .show(if ((J.filterMap (es[·]?)).size != es.size)=true then _ else _)=_;rw[if_neg (by rw[aO];simp)]
  .dsimp only;have a8:t2.fits (J.filterMap (es[·]?)).size=true:=by
    have Y:t2.fill=es.size:=by unfold SetTable.fill;rw[e5,e3];simp
    simp only[SetTable.fits,Y,mu,J0,KL]
    simp_all
   refine ez (Lq (s:={ s with heap:=h' }) g'.ho g'.hd ?_ (Ld a0));exact gx (fin _ _ _ _ _ (sb.trans (Kk _ _ _)) (l_ g' (g.el.perm hp) ((hp.map _).trans g.pm) g.nd a0 a8))
def eO(xs:Array α)(i):(SetTable.eraseAt xs i).toList=xs.toList.eraseIdx i:=by
 unfold SetTable.eraseAt;rw[Array.toList_append,Array.toList_extract,Array.toList_extract,eraseIdx_eq_take_drop_succ,extract_eq_take_drop,extract_eq_take_drop];simp;exact M5 (by simp)
def wW(g:b_ P w s.heap a ks o es ep t){k:Int}{tk:Tok}{Q:Bool->Shared->Prop}
  (h:∀b h' o' a2 a3 t',Heap.SameBut a s.heap h'->b_ P w h' a (ks.filter λx=>!decide (x=k)) o' a2 a3 t'->Q b { s with heap:=h' }):wpAny (model P w) A (setDiscardHashed a (.int k tk) (hashInt k)) Q E s:=by
 unfold setDiscardHashed;refine ez (yL g ?_);cases hr:findIdx? (λe=>(intKind P w).is k e.2) es.toList with
 |none =>
  have hk:k∉ks:=λz=>by
   have:=rS (s:=s) g k;rw[hr]at this;simp[z]at this
  have e:ks.filter (λx=>!decide (x=k))=ks:=Mk.mpr λx hx=>by
   have:x≠k:=λz=>hk (z▸hx)
   simpa using this
  have e2:s={ s with heap:=s.heap }:=by cases s;rfl
  rw[e]at h;have:=h false s.heap o es ep t (Lp a s.heap) g;exact gx this
 |some i =>
  obtain⟨hi,a4,_⟩:=findIdx?_eq_some_iff_getElem.mp hr;dsimp only;refine ez (Kb g.ho g.hd g.fi ?_);dsimp only;have U:numOf (es.toList[i]).2=k:=(jE g.el (getElem_mem hi) k).mp a4;have a5:=hW (J4 hi);have Y:(SetTable.eraseAt es i).size=es.size-1:=by
   rw[<- Array.length_toList,eO,LY hi,Array.length_toList]
  have ba:i<es.size:=by simpa using hi
  have Z:(SetTable.eraseAt es i).size<scanBound:=by rw[Y];have:=g.bd;omega
  have J:=g.fi;simp only[SetTable.fits,mu,J0,KL]at J;have ao:i<t.place.size:=by omega
  have a6:(t.drop i).fits (SetTable.eraseAt es i).size=true:=by
   have ed:t.drop i={ t with place:=SetTable.eraseAt t.place i,dummies:=SetTable.insertAt t.dummies (SetTable.below t.dummies (t.place[i])) (t.place[i]) }:=by
    unfold SetTable.drop;rw[K8 ao]
   rw[ed];have h1:(SetTable.eraseAt t.place i).size=t.place.size-1:=by
    rw[<- Array.length_toList,eO,LY (by simpa using ao),Array.length_toList]
   have h2:(SetTable.insertAt t.dummies (SetTable.below t.dummies (t.place[i])) (t.place[i])).size<=t.dummies.size+1:=by
    unfold SetTable.insertAt;generalize SetTable.below t.dummies (t.place[i])=p;rw[Array.size_append,Array.size_push,LG,LG,Nd,Nat.sub_zero];rcases Nat.le_total p t.dummies.size with q|q
    .rw[LH q,KH,MK q];exact pb _
    .rw[Nat.min_eq_right q,Nat.sub_eq_zero_of_le q];exact pb _
   have h3:(⟨t.mask,SetTable.eraseAt t.place i,SetTable.insertAt t.dummies (SetTable.below t.dummies (t.place[i])) (t.place[i]),t.finger,t.led,t.moves,t.plain⟩:SetTable).fill<=t.mask:=by
    show(SetTable.eraseAt t.place i).size+(SetTable.insertAt t.dummies (SetTable.below t.dummies (t.place[i])) (t.place[i])).size<=t.mask;have:t.place.size+t.dummies.size<=t.mask:=J.2;omega
   simp only[SetTable.fits,mu,J0,KL];exact⟨by rw[h1,Y,J.1],h3⟩
  have aO:ElemsOf (intKind P w) (SetTable.eraseAt es i).toList:=λe he=>g.el e (by rw[eO]at he;exact mem_of_mem_eraseIdx he)
  have a0:((SetTable.eraseAt es i).toList.map λe=>numOf e.2).Perm (ks.filter λx=>!decide (x=k)):=by
   rw[eO];have h1:(k::(es.toList.eraseIdx i).map λe=>numOf e.2).Perm ks:=by
    have:=(a5.map λe=>numOf e.2).trans g.pm;rwa[JW,U]at this
   have h2:=h1.nodup_iff.mpr g.nd;obtain⟨n1,_⟩:=Ky.mp h2;have h3:=h1.filter λx=>!decide (x=k)
   rw[LI (by simp)]at h3;refine Perm.trans (Perm.of_eq ?_) h3;refine(Mk.mpr λx hx=>?_).symm;have:x≠k:=λz=>n1 (z▸hx)
   simpa using this
  refine ez (Lq g.ho g.hd ?_ (Ld Z));refine ez (wpAny_point ?_);exact gx (h true _ _ _ _ _ (Kk _ _ _) (l_ g aO a0 (g.nd.filter _) Z a6))
def Hh{id:String}{r b:Addr}{js:List Int}{ob:Obj}{eb:Array (Int×Value)}{ba:Nat}{tb:SetTable}(g:b_ P w s.heap r ks o es ep t)(Y:b_ P w s.heap b js ob eb ba tb)(hl:tb.led=!byT w)(a2:b≠r)(b0:¬ js.length / 8 > ks.length)(hn:ks.length<=60){Q:Unit->Shared->Prop}
  (h:∀h' d' o' z J t' ls,Heap.SameBut r s.heap h'->b_ P w h' r ls o' z J t'->ls=(ks.filter λk=>!decide (k∈js))->Q () { s with heap:=h',drawn:=d' }):wpAny (model P w) A (Builtin.Frozenset.differenceUpdate id r (.ref b)) Q E s:=by
 unfold Builtin.Frozenset.differenceUpdate;have b1:(Value.ref b==Value.ref r)=false:=by
  simpa using a2
 rw[b1];simp only[J7,KS];refine ez (j5 Y.type ?_);simp only[if_true,Builtin.Frozenset.addrOf,pure_bind];refine ez (gu Y ?_);refine ez (gu g ?_);rw[if_neg b0];refine ez (Lr Y.ho Y.hd Y.fi ?_);refine ez (Kr ?_);refine ez (yJ Y hl (others:=[r]) (λc hc=>?_) λZ d0 hp=>?_)
 .rw[Ke.mp hc];exact⟨_,_,_,_,_,g⟩
 have a3:=Y.el.perm hp;have hK:=(hp.map _).trans Y.pm;refine ez (MY _ (λbT _ s'=>∃dn h' d' o' z J t',dn++bT=Z.toList/\s'={ s with heap:=h',drawn:=d' }/\Heap.SameBut r s.heap h'/\b_ P w h' r (ks.filter λk=>!decide (k∈dn.map λe:Int×Value=>numOf e.2)) o' z J t') _ ?_ ?_ Z _ ⟨[],s.heap,d0,o,es,ep,t,rfl,rfl,Lp r s.heap,by
  have:ks.filter (λk=>!decide (k∈([]:List (Int×Value)).map λe=>numOf e.2))=ks:=Mk.mpr λx _=>by simp
  rw[this];exact g⟩)
 .rintro ⟨hx,x⟩ bT u s' ⟨dn,h',d',o',z,J,t',e1,rfl,sb,gl⟩;have U:(hx,x)∈Z.toList:=by rw[<- e1];simp
  obtain⟨a4,q⟩:=gr a3 _ U;obtain⟨⟨k0,b2,aO⟩,_⟩:=a3 _ U;have a5:=(jE a3 U k0).mp b2;dsimp only at q a5 aO;generalize numOf x=k at q a5;subst q a5;have aO:=aO;subst aO;dsimp only;refine ez (Kr (wW (s:={ s with heap:=h',drawn:=d' }) gl λb' h2 o2 a6 a7 t2 a0 g2=>?_));have cd:=Y.at λo e=>(a0.2 b a2).trans ((sb.2 b a2).trans e)
  refine Ek (s:={ s with heap:=h2,drawn:=d' }) cd ⟨dn++[(hashInt k,Value.int k a4)],h2,d',o2,a6,a7,t2,by rw[Kn];exact e1,rfl,sb.trans a0,?_⟩;have:(ks.filter λx=>!decide (x∈(dn++[(hashInt k,Value.int k a4)]).map λe:Int×Value=>numOf e.2))=(ks.filter λk=>!decide (k∈dn.map λe:Int×Value=>numOf e.2)).filter λx=>!decide (x=k):=by
   rw[List.filter_filter]
   congr 1
   funext x
   have ck:numOf (Value.int k a4)=k:=rfl;rw[Ka,JW,map_nil,ck];by_cases h1:x=k<;>by_cases h2:x∈dn.map (λe:Int×Value=>numOf e.2)<;>simp[h1,h2]
  rw[this];exact g2
 .rintro u s' ⟨dn,h',d',o',z,J,t',e1,rfl,sb,gl⟩;rw[La]at e1;subst e1;have e3:(ks.filter λk=>!decide (k∈Z.toList.map λe:Int×Value=>numOf e.2))=ks.filter λk=>!decide (k∈js):=by
   congr 1
   funext k
   congr 1
   rw[Ni];exact hK.mem_iff
  rw[e3]at gl;refine gx ?_;unfold setTidy;refine ez (Kb (s:={ s with heap:=h',drawn:=d' }) gl.ho gl.hd gl.fi ?_);dsimp only;refine Kg (λ_=>?_) (λ_=>?_)
  .have c3:z.size<=60:=by
    rw[gl.len];exact wh (LA _ _) hn
   have cl:SetTable.grown z.size=z.size*4:=by unfold SetTable.grown;rw[if_neg (by omega)]
   rw[cl];exact vD (s:={ s with heap:=h',drawn:=d' }) gl (by omega) (by omega) λh2 o2 a6 a7 t2 a0 g2 _ _=>h h2 d' o2 a6 a7 t2 _ (sb.trans a0) g2 rfl
  .exact gx (h h' d' o' z J t' _ sb gl rfl)
def Eu{id:String}{b:Addr}{js:List Int}{Q:Value->Shared->Prop}(ga:cy P w s.heap a ks)(gb:cy P w s.heap b js)(U:ks.length / 4 > js.length)(hn:ks.length<=60)
  (h:∀h' d' z o' Y Z t',(∀c o,s.heap.get? c=some o->h'.get? c=some o)->z.length=(ks.filter λk=>!decide (k∈js)).length->b_ P w h' s.heap.objs.size z o' Y Z t'->Q (.ref s.heap.objs.size) { s with heap:=h',drawn:=d' }) :
  wpAny (model P w) A (Builtin.Frozenset.difference id a (.ref b)) Q E s:=by
 obtain⟨oa,ea,a8,ta,wa,a9⟩:=ga.w;obtain⟨ob,eb,ba,tb,J,ao⟩:=gb.w;have hb:=JV (r4 J.ho);unfold Builtin.Frozenset.difference;refine ez (j5 J.type ?_);simp[J7,MP,Builtin.Frozenset.addrOf,pure_bind];refine ez (gu J ?_);refine ez (gu wa ?_);rw[if_pos U];refine ez (Lv ?_);refine ez (Et wa (by omega) hn λh1 o1 b1 b2 t1 k1 g1=>?_);refine ez (gx ?_);have aO:=J.at (k1 b);refine ez (Kr (Hh (s:={ s with heap:=h1 }) g1 aO ao.led hb (by omega) hn λh2 d2 o2 a0 a1 t2 z a2 g2 e2=>?_));exact gx (h h2 d2 z o2 a0 a1 t2 (λc o e=>(a2.2 c (JV (r4 e))).trans (k1 c o e)) (by rw[e2]) g2)
def yR{id:String}{b:Addr}{js:List Int}{Q:Value->Shared->Prop}(Y:cy P w s.heap a ks)(Z:cy P w s.heap b js)(hn:ks.length<=60)
  (h:∀h' d' U o' z J t',(∀c o,s.heap.get? c=some o->h'.get? c=some o)->U.length=(ks.filter λk=>!decide (k∈js)).length->b_ P w h' s.heap.objs.size U o' z J t'->Q (.ref s.heap.objs.size) { s with heap:=h',drawn:=d' }) :
  wpAny (model P w) A (Builtin.Frozenset.difference id a (.ref b)) Q E s:=by
 by_cases c:ks.length / 4 > js.length
 .exact Eu Y Z c hn h
 .refine El Y Z c λh' d' U k p g=>?_
  obtain⟨o',z,J,t',g',_⟩:=g.w;exact h h' d' U o' z J t' k p.length_eq g'
end
def oR:entryFor table "set.__sub__"=some Builtin.«frozenset.__sub__»:=
 entryFor_alias (id':="frozenset.__sub__") (by kernel_rfl) (by first|rfl|decide +kernel|(unfold String.splitOn;simp +decide [String.splitOnAux])) (by decide +kernel) (by kernel_rfl)
section
variable{P:Program}{w:World}{A:Around}{E:Value->Shared->Prop}{s:Shared}
def yS{ks js:List Int}{Q:Value->Shared->Prop}(Z:cy P w s.heap a ks)(gb:cy P w s.heap b js)(hn:ks.length<=60)
  (h:∀h' d' U o' z J t',(∀c o,s.heap.get? c=some o->h'.get? c=some o)->U.length=(ks.filter λk=>!decide (k∈js)).length->b_ P w h' s.heap.objs.size U o' z J t'->Q (.ref s.heap.objs.size) { s with heap:=h',drawn:=d' }) :
  wpAny (model P w) A (binaryOp .Sub (.ref a) (.ref b)) Q E s:=by
 obtain⟨oa,ea,a1,ta,Y,a2⟩:=Z.w;obtain⟨ob,eb,a3,tb,wb,a4⟩:=gb.w;refine wpAny_binaryOp_same Y.type wb.type F.fills_set_sub F.slot_set_sub ?_;refine Ki F.slot_set_sub Y.type oR ?_ (F.args_set_sub_2 _ _);show wpAny _ _ (do
  let (self,other) <- Builtin.Frozenset.slot1 "__sub__" ⟨[.ref a,.ref b],[]⟩
  let (l,r):=if false then(other,self)else(self,other)
  if !(<- Builtin.Frozenset.isAnySet l <&&> Builtin.Frozenset.isAnySet r)then rule s!"frozenset.{"__sub__"}.declined";return <- ret .notImplemented
  ret (<- Builtin.Frozenset.difference s!"frozenset.{"__sub__"}" _ r)) _ _ s
 refine ez (MW (a:=_) rfl ?_);refine ez (ez (j5 Y.type ?_));refine j5 wb.type ?_;refine ez (yR Z gb hn λh' d' U o' z J t' k hl g=>?_);exact gx ⟨_,rfl,by simp,h h' d' U o' z J t' k hl g⟩
end
end L2.St
namespace L2
open PySem PySem.Spec PyProof.Rows List Option
noncomputable def ug(P:Program)(w:World)(a:Addr)(n:Nat):HO:=.ext λh=>∃ks o es ep t,St.b_ P w h a ks o es ep t/\ks.length=n
def wX(g:St.b_ P w h a ks o es ep t)(e:ks.length=n):bJ P w H h a (ug P w a n):=
 ⟨⟨ks,o,es,ep,t,g,e⟩,⟨o,g.ho⟩,λh1 h2 ⟨ks,o,es,ep,t,g,e⟩ k=>⟨ks,o,es,ep,t,g.at k,e⟩⟩
section
variable{X:Cx}
def wY:OpR X (binaryOp .Sub) (λx y H Q=>∃a b ks js,x=.ref a/\y=.ref b/\H a=some (jo X.prog X.w a ks)/\H b=some (jo X.prog X.w b js)/\ks.length<=60/\∀p,H p=none->Q (.ref p) (upd H p (ug X.prog X.w p (ks.filter λk=>!decide (k∈js)).length))):=by
 intro pins s σ H x y v u Q I z J h;obtain⟨a,b,ks,js,rfl,rfl,U,Y,Z,q⟩:=h;cases z;cases J;refine St.yS (I.set U) (I.set Y) Z λh' d' ls o' ao aO t' kp hl g=>?_
 exact⟨.ref s.heap.objs.size,_,I.laidD kp (pb _) (wX g hl),rfl,q _ (I.hok.fresh (pb _))⟩
def rU:bU X (.builtin "len") (λxs H Q=>∃a n,xs=[.ref a]/\H a=some (ug X.prog X.w a n)/\Q (.int n) H):=by
 intro pins s σ H xs us Q I r h;refine aE λZq z=>?_
 obtain⟨a,n,rfl,e,q⟩:=h;obtain⟨u,rfl,J⟩:=d8 r;cases J;obtain⟨ks,o,es,ep,t,g,U⟩:=(show bJ X.prog X.w H s.heap a _ from I.hok a _ e).1;have Y:=g.len;have hb:=g.bd;have Z:scanBound=4096:=rfl;refine z ?_;refine call_len_set g.ho g.ex g.hd g.fi (by omega) ⟨.int n,H,I.tok _,⟨s.toks+1,?_⟩,q⟩;rw[Y,U]
def qm:bU X (.builtin "len") (λxs H Q=>∃a ks,xs=[.ref a]/\H a=some (jo X.prog X.w a ks)/\Q (.int ks.length) H):=by
 intro pins s σ H xs us Q I r h;obtain⟨a,ks,rfl,e,q⟩:=h;obtain⟨u,rfl,z⟩:=d8 r;cases z;obtain⟨o,es,ep,t,g,_⟩:=(I.set e).w;have U:=g.bd;have J:scanBound=4096:=rfl;refine call_len_set g.ho g.ex g.hd g.fi (by omega) ⟨.int ks.length,H,I.tok _,⟨s.toks+1,?_⟩,q⟩;rw[g.len]
end
end L2
namespace L2.En
open PySem PyProof.Rows List Option
open AutoSeq1 (wpAny_loadPart')
section
variable{P:Program}{w:World}{A:Around}{E:Value->Shared->Prop}{s:Shared}
def uh(J:s.heap.IsTupleIter it t i)
  (h:wpAny (model P w) A.in1 (Builtin.«tuple_iterator.__next__» ⟨[.ref it],[]⟩) (λfin s'=>∃v,fin=.done (.ret v)/\Q v s') E s):wpAny (model P w) A (Builtin.SmallTypes.nextOf (.ref it)) Q E s:=by
 refine ez (Ku J.typeIs F.slot_tuple_iterator_next ?_);refine Ki F.slot_tuple_iterator_next J.typeIs F.entry_tuple_iterator_next ?_ (F.args_tuple_iterator_next_1 _);refine Ko h (λfin s' hv=>?_) λ_ _ z=>z
 obtain⟨v,rfl,q⟩:=hv;exact⟨v,rfl,gx q⟩
def Hi (z:A.handled=none) (h:∀h' e,(∀b o,s.heap.get? b=some o->h'.get? b=some o)->(∃o,h'.get? e=some o/\o.cls=.type "StopIteration")->E (.ref e) { s with heap:=h' }) :
  wpAny (model P w) A (Builtin.SmallTypes.stopIteration:Sem α) Q E s:=by
 wp_walk
 exact wpAny_raiseNew_none z (h _ _ (λb o q=>g4 _ (g4 _ q)) ⟨_,uw _ rfl,rfl⟩)
def pz(U:A.handled=none)(z:s.heap.IsTupleIter it t i)(Y:s.heap.IsTuple t items)
  (Z:∀x h',items[i]?=some x->h'.IsTupleIter it t (i+1)->Heap.SameBut it s.heap h'->Q x { s with heap:=h' })
  (hE:∀h' e,items[i]?=none->Heap.ExtBut it s.heap h'->(∃o,h'.get? e=some o/\o.cls=.type "StopIteration")->E (.ref e) { s with heap:=h' }):wpAny (model P w) A (Builtin.SmallTypes.nextOf (.ref it)) Q E s:=by
 refine uh z ?_;refine aE λZq kq=>?_
 obtain⟨⟨c1,d1,t1,l1⟩,h1,e1,e2⟩:=z;obtain⟨⟨c2,d2,t2,l2⟩,h2,e3,n2,e4⟩:=Y;cases e1;cases e2;cases e3;cases e4;obtain⟨J,g,d,tk,os⟩:=s;refine kq ?_
 wp_walk using wpAny_loadPart' h1,wpAny_loadPart' h2
 have self:∀k v,(J.update it (Obj.mapFields (·.setIfInBounds k v))).get? it=some { cls:=.type "tuple_iterator",dict:=d1,data:=.fields _,slots:=l1 }:=λk v=>KA _ h1 rfl
 rw[Int.toNat_natCast];cases hx:items[i]? with
 |some x =>
  refine ez (wpAny_setField h1 rfl (by simp) (gx ⟨x,rfl,Z x _ hx ⟨_,self 1 _,rfl,?_⟩ (Kk ..)⟩));simp[rawInt]
 |none =>
  refine ez (Lv (ez (wpAny_setField h1 rfl (by simp) (Hi (by simpa using U) λh' e k st=>?_))));exact hE h' e hx (λb o hb q=>k b o ((Kk J it _).extBut b o hb q)) st
def draws(U:A.handled=none)(it t)(z:t≠it)(items):Draws P w A it [it,t] items.size (λi v=>items[i]?=some v) (λi h=>h.IsTupleIter it t i/\h.IsTuple t items) where
 live:=λ_ _ ⟨⟨o,ho,_⟩,_⟩=>⟨o,ho⟩
 frame:=λi h h' ⟨⟨o,ho,r⟩,⟨Y,J,r2⟩⟩ k=>⟨⟨o,k it (.head _) o ho,r⟩,⟨Y,k t (.tail _ (.head _)) Y J,r2⟩⟩
 item:=λi s Q E hi ⟨h1,h2⟩ hQ=>pz U h1 h2 (λx h' hx h3 Z=>hQ x h' s.toks hx ⟨h3,h2.extBut Z.extBut z⟩ Z) λh' e hx _ _=>absurd hx (by simp;omega)
 done:=λs Q E ⟨h1,h2⟩ hE=>pz U h1 h2 (λx h' hx _ _=>absurd hx (by simp)) λh' e _ eb st=>hE h' e eb st
def yT{Q:Bool->Shared->Prop}(h:∀c,Q c s):wpAny (model P w) A (pure b) Q E s:=gx (h b)
def BO(l)(items)(n)(z)(J) :
  Meets (Builtin.«enumerate.__new__» ⟨[.type "enumerate",.ref l],[]⟩) (λ_ R s=>s.heap.get? l=some { cls:=.type "tuple",dict:=z,data:=.seq items n,slots:=J } /\
   R (.ok (.ret (.ref (s.heap.push { cls:=.type "tuple_iterator",data:=.fields #[.ref l,.int 0 0] }).objs.size)))
    { s with heap:=(s.heap.push { cls:=.type "tuple_iterator",data:=.fields #[.ref l,.int 0 0] }).push { cls:=.type "enumerate",data:=.fields #[.none,.bool false,.ref s.heap.objs.size,rawInt 0,.none,.none] } }):=by
 refine .of_wp λP w A R s h=>?_
 have tl:Heap.IsTuple _ l items:=⟨_,h.1,rfl,n,rfl⟩;have U:=sub_enumerate
 wp_walk using wpAny_loadPart' h.1
 apply wpAny_stack_any;intro st;refine yT λc=>?_
 cases c
 .wp_walk using wpAny_pyIter_tuple tl
  exact⟨_,rfl,h.2⟩
 .wp_walk using wpAny_pyIter_tuple tl
  exact⟨_,rfl,h.2⟩
def call_tup(Z:s.heap.IsTuple l items)
  (h:∀h',IsEnum h' (s.heap.objs.size+1) s.heap.objs.size 0 .none->h'.IsTupleIter s.heap.objs.size l 0->h'.objs.size=s.heap.objs.size+2 ->
   (∀b o,s.heap.get? b=some o->h'.get? b=some o)->Q (.ref (s.heap.objs.size+1)) { s with heap:=h' }):wpAny (model P w) A (call (.type "enumerate") [.ref l]) Q E s:=by
 obtain⟨⟨c,J,dt,sl⟩,hl,hc,n,hd⟩:=Z;cases hc;cases hd;have made:=BO l items n J sl;refine callType_new F.called_enumerate (by decide) (F.typeCall_enumerate_1 _) (F.newCall_enumerate_1 _) (λv=>F.args_object_init_2 v _) F.entry_enumerate_new made ⟨hl,?_⟩;generalize hi:({ cls:=.type "tuple_iterator",data:=.fields #[.ref l,.int 0 0] }:Obj)=io;generalize ho:({ cls:=.type "enumerate",data:=.fields #[.none,.bool false,.ref s.heap.objs.size,rawInt 0,.none,.none] }:Obj)=U;have z:(s.heap.push io).objs.size=s.heap.objs.size+1:=Kc ..;have Y:((s.heap.push io).push U).get? (s.heap.objs.size+1)=some U:=by
  rw[<- z];exact uw _ (by rw[<- ho];rfl)
 have g2:((s.heap.push io).push U).get? s.heap.objs.size=some io:=g4 _ (uw _ (by rw[<- hi];rfl));rw[z];refine⟨⟨_,Y,by rw[<- ho]⟩,h _ (by rw[<- ho]at Y;rw[<- ho];exact Y) ⟨_,g2,by rw[<- hi],by rw[<- hi];rfl⟩ (by rw[Kc,z]) λb o q=>g4 _ (g4 _ q)⟩
end
end L2.En
namespace L2.Dv
open PySem PyProof.Rows List Option
open AutoSeq1 (wpAny_loadPart')
section
variable{P:Program}{w:World}{A:Around}{E:Value->Shared->Prop}{s:Shared}
def Ents(h:Heap)(d:Addr)(es:Array DictEntry)(ep:Nat):Prop:=∃o,h.get? d=some o/\o.ExactDict/\o.data=.dict es ep
theorem Ents.at(x:Ents h d es ep)(k:∀o,h.get? d=some o->h'.get? d=some o):Ents h' d es ep:=by
 obtain⟨o,ho,r⟩:=x;exact⟨o,k o ho,r⟩
theorem Ents.type (x:Ents s.heap d es ep):s.TypeIs (.ref d) "dict":=by
 obtain⟨o,ho,r,_⟩:=x;exact⟨o,ho,r.1⟩
def values_of(hd:(d==sysModules)=false)(x:Ents s.heap d es ep)
  (h:Q (.ref s.heap.objs.size) { s with heap:=s.heap.push { cls:=.type "dict_values",data:=.fields #[.ref d] } }):wpAny (model P w) A (call (.builtin "dict.values") [.ref d]) Q E s:=by
 refine Ki F.slot_dict_values x.type F.entry_dict_values ?_ (F.args_dict_values_1 _);refine aE λY z=>?_
 obtain⟨⟨Z,d1,t1,l1⟩,h1,hx,J⟩:=x;have U:=hx.1;cases U;cases J;refine z ?_
 wp_walk using wpAny_loadPart' h1
 exact⟨_,rfl,h⟩
def BP(hv:s.heap.IsValuesView v d)(x:Ents s.heap d es ep)
  (h:Q (.ref s.heap.objs.size) { s with heap:=s.heap.push { cls:=.type "dict_valueiterator",data:=.fields #[.ref d,.int 0 0,.int es.size 0,.int ep 0] } }):wpAny (model P w) A (pyIter (.ref v)) Q E s:=by
 refine M6 hv.typeIs F.slot_dict_values_iter (Ki F.slot_dict_values_iter hv.typeIs F.entry_dict_values_iter ?_ (F.args_dict_values_iter_1 _));refine aE λZq z=>?_
 obtain⟨⟨c1,d1,t1,l1⟩,h1,hx,J⟩:=x;have U:=hx.1;cases U;cases J;obtain⟨⟨c3,d3,t3,l3⟩,Y,Z,e4⟩:=hv;cases Z;cases e4;refine z ?_
 wp_walk using wpAny_loadPart' h1,wpAny_loadPart' Y
 exact⟨_,rfl,_,_,⟨_,uw _ rfl,rfl⟩,LJ.lookup,h⟩
def vE{ep:Nat}{Q:Option Value->Shared->Prop}(Z:A.handled=none)(hv:s.heap.IsValIter it d i es.size ep)(x:Ents s.heap d es ep)
  (h1:∀e h',es[i]?=some e->h'.IsValIter it d (i+1) es.size ep->Heap.SameBut it s.heap h'->Q (some e.val) { s with heap:=h' })
  (h2:∀h',es[i]?=none->Heap.ExtBut it s.heap h'->Q none { s with heap:=h' }):wpAny (model P w) A (pyNext (.ref it)) Q E s:=by
 have ty:=hv.typeIs;obtain⟨⟨c1,d1,t1,l1⟩,g1,hx,e2⟩:=x;have e1:=hx.1;cases e1;cases e2;obtain⟨⟨c3,d3,t3,l3⟩,J,e3,e4⟩:=hv;cases e3;cases e4;obtain⟨U,g,dr,tk,os⟩:=s;unfold pyNext;refine ez (Mr (Ku (name:=Str.ofString "__next__") ty LJ (Ki LJ ty F.entry_dict_valueiterator_next ?_ (F.args_dict_valueiterator_next_1 _))));unfold Builtin.«dict_valueiterator.__next__»
 wp_walk using wpAny_loadPart' g1,wpAny_loadPart' J
 rw[if_neg (by omega),Int.toNat_natCast];have self:∀k v,(U.update it (Obj.mapFields (·.setIfInBounds k v))).get? it=some { cls:=.type "dict_valueiterator",dict:=d3,data:=.fields ((#[.ref d,.int (i:Int) 0,.int (es.size:Int) 0,.int (ep:Int) 0]:Array Value).setIfInBounds k v),slots:=l3 }:=λk v=>KA _ J rfl
 cases hx:es[i]? with
 |some e =>
  have Y:=self 1 (rawInt ((i:Int)+1))
  wp_walk using wpAny_loadPart' J,wpAny_loadPart' Y
  exact⟨_,rfl,gx (h1 e _ hx ⟨_,Y,rfl,rfl⟩ (Kk ..))⟩
 |none =>
  refine ez (Ko (Q:=λn s'=>n=0/\s'=⟨U,g,dr,tk,os⟩) (E:=λ_ _=>False) ?_ (λn s' q=>?_) λ_ _ z=>z.elim)
  .wp_walk using wpAny_loadPart' J
   exact⟨by decide +kernel,rfl⟩
  obtain⟨rfl,rfl⟩:=q;refine ez (wpAny_setField J rfl (by simp) ?_);refine St.kT (v:=.none) (vs:=#[]) (it:=0) (Q:=λ_ _=>True) (by simpa using Z) λe s' kp ⟨h',eq⟩ hT=>?_
  subst eq;refine ez (KW (T:="StopIteration") (b:=true) hT isSubtype_stop ?_);exact gx (h2 h' hx λb o hb q=>kp b o ((Kk U it _).extBut b o hb q))
def src :PySem.W.KdlSrc P w "dict_values" r d es.size (λi v=>∃e,es[i]?=some e/\v=e.val) (λh=>h.IsValuesView r d/\Ents h d es ep) where
 type:=λ_ q=>q.1.typeIs
 there:=λ_ ⟨⟨o,ho,_⟩,⟨o',Z,_⟩⟩=>⟨r4 ho,r4 Z⟩
 keep:=λ_ _ ⟨⟨o,ho,z⟩,x⟩ k=>⟨⟨o,k r (.inl rfl) o ho,z⟩,x.at λo e=>k d (.inr rfl) o e⟩
 notList:=by decide
 notTuple:=by decide
 hint:=λ_ _ _ _ q z=>PySem.W.kdl_hint_values q.1.typeIs z
 iter:=λA s hh ⟨q,x⟩=>by
  have lt:d<s.heap.objs.size:=by obtain⟨o,ho,_⟩:=x;exact r4 ho
  have ne:=JV lt;refine⟨{ cls:=.type "dict_valueiterator",data:=.fields #[.ref d,.int 0 0,.int es.size 0,.int ep 0] },λi h=>h.IsValIter s.heap.objs.size d i es.size ep/\Ents h d es ep,λE Q z=>BP q x z,?_,⟨_,uw _ rfl,rfl,rfl⟩,x.at λo e=>g4 _ e⟩;refine⟨λb J=>by simp at J;simp[J],λi h h' ⟨⟨o,ho,z⟩,y⟩ k=>⟨⟨o,k _ (by simp) o ho,z⟩,y.at λo e=>k d (by simp) o e⟩,λi s' Q E hi ⟨y,z⟩ U=>?_,λs' Q E ⟨y,z⟩ U=>?_,λi s' Q E ⟨y,z⟩ U=>?_⟩
  .refine vE hh y z (λe h' Y y' sb=>?_) λh' Y _=>absurd Y (by simp;omega)
   exact U _ h' s'.toks ⟨e,Y,rfl⟩ ⟨y',z.at λo q=>sb.extBut d o ne q⟩ λb o J q=>sb.extBut b o (λw=>J (by simp[w])) q
  .refine vE hh y z (λe h' Y _ _=>absurd Y (by simp)) λh' _ eb=>?_
   exact U h' s'.toks λb o J q=>eb b o (λw=>J (by simp[w])) q
  .exact wpAny_pyIter_valiter y U
end
end L2.Dv
namespace HT
open PySem PyProof.Rows List Option
section
variable{prog:Program}{w:World}{A:Around}{E:Value->Shared->Prop}{s:Shared}
def getItem_tuple_whole{items:Array Value}{Z vu:Value}{lo hi:Option Int}{Q:Value->Shared->Prop}(z:IsTup s.heap t items)(hs:s.heap.IsSliceOf sl Z vu .none)(pl:IsPart Z lo)(pu:IsPart vu hi)
  (h0:sIx items.size 0 lo=0) (h1:sIx items.size items.size hi=items.size) (h:Q (.ref t) s):wpAny (model prog w) A (getItem (.ref t) (.ref sl)) Q E s:=by
 have J:s.TypeIs (.ref sl) "slice":=by obtain⟨os,U,Y,_⟩:=hs;exact⟨os,U,Y⟩
 unfold getItem
 try with_reducible refine Kr ?_
 first|refine ez (gx ?_)|skip
 refine ez (wpAny_sequenceKey z.typeIs (by decide) ?_);refine ez (Ku (name:=Str.ofString "__getitem__") z.typeIs Kt
  (Ki Kt z.typeIs entry_tuple_getitem ?_ (args_tuple_getitem _ _)))
 show wpAny _ _ (Builtin.Tuple.tupleItemsOf _ >>= _) _ _ s;refine ez (tupleItemsOf_ z ?_);refine ez (LV J ?_);rw[if_pos (by decide)];refine ez (gp hs pl pu ?_);show wpAny _ _ (if (((sIx items.size 0 lo:Nat):Int)==0&&_==1&&_==items.size)=true then _ else _) _ _ s;rw[h0,h1,if_pos (by simp)];unfold Builtin.Tuple.tupleIsExact;refine ez (ez (LV z.typeIs (gx ?_)));rw[if_pos (by decide)];refine ez (Lv ?_);exact gx ⟨_,rfl,gx h⟩
end
end HT
namespace L2
open PySem PySem.Spec PyProof.Rows List Option
section
variable{X:Cx}
def BQ:SlR X (λx lo hi H Q=>∃a xs,x=.ref a/\SqT X.K H a xs/\HT.sIx xs.length 0 lo=0/\HT.sIx xs.length xs.length hi=xs.length/\Q (.ref a) H):=by
 intro pins s σ H x v vl vu lo hi sl Q I U hs Y Z h;refine aE λZq kq=>?_
 obtain⟨a,xs,rfl,hx,h0,h1,q⟩:=h;cases U;obtain⟨its,r,J,hz⟩:=I.tuple hx;have z:its.toArray.size=xs.length:=by rw[ro];exact r.length.symm
 refine kq ?_;refine⟨"tuple",_,Kt.lookup,J.typeIs,?_⟩;exact HT.getItem_tuple_whole J hs Y Z (by rw[z];exact h0) (by rw[z];exact h1) ⟨.ref a,H,I,rfl,q⟩
end
end L2
namespace L2.Rv
open PySem PyProof.Rows List Option
section
variable{P:Program}{w:World}{A:Around}{E:Value->Shared->Prop}{s:Shared}
def Ev:typeLookup (.type "list_reverseiterator") "__len__"=pure none:=by rw[MF,LX];kernel_rfl
def yU:typeLookup (.type "list_reverseiterator") "__length_hint__"=pure (some (.builtin "list_reverseiterator.__length_hint__")):=by rw[MF,LX];kernel_rfl
def yV (U:s.TypeIs (.ref it) "list_reverseiterator") (h:Q false s):wpAny (model P w) A (Builtin.List.listLengthHint (.ref it)) Q E s:=by
 unfold Builtin.List.listLengthHint;refine ez (Mx U Ev ?_);refine Kg (λz=>absurd z (by decide)) (λ_=>?_);refine Kg (λz=>absurd z (by decide)) (λ_=>?_);refine ez (Mx U yU ?_);generalize J:("list_reverseiterator.__length_hint__":String)=Y
 wp_delta
 rw[show splitId Y=some ("list_reverseiterator","__length_hint__")from by subst J;decide +kernel];subst J;refine ez (KW (T:="list_reverseiterator") (b:=true) U (by rw[MQ];kernel_rfl) ?_);refine Kg (λz=>absurd z (by decide)) (λ_=>?_);refine Kg (λ_=>?_) (λz=>absurd (by decide +kernel) z);refine Kg (λz=>absurd z (by decide +kernel)) (λ_=>?_);exact gx h
def Drawn(items:Array Value)(i:Nat)(v:Value):Prop:=items[items.size-1-i]?=some v
def ui{it l S:Addr}{items:Array Value}(hh:A.handled=none)(ao:l≠it)(U:s.heap.IsRevIter it l ((items.size:Int)-1))(hl:s.heap.IsList l items)(hn:items.size<=sizeLine)(Y:S≠it)(aO:S≠l)(res)
  (hS:s.heap.get? S=some { cls:=.type "list",data:=.seq #[] })
  (hR:∀h' tk J c,(∀b o,b≠S->b≠it->s.heap.get? b=some o->h'.get? b=some o)->h'.get? S=some { cls:=.type "list",dict:=none,data:=.seq J c,slots:=#[] }->ItemsOf (Drawn items) J items.size->R (.ok (.ret res)) { s with heap:=h',toks:=tk }) :
  wpAny (model P w) A.in1 (Builtin.List.listExtendWith (.ref S) (.ref it) res)
   (λfin s'=>match fin with|.done f=>R (.ok f) s'|.again c'=>c'.quiet=true/\codeAny (model P w) A c' R s') (λe s'=>R (.error e) s') s:=by
 have hT:=U.typeIs;have W:=Walks.listRev (prog:=P) (w:=w) (A:=A.in1) (by simpa using hh) it l ao items;have a0:S∉[it,l]:=by simp[Y,aO]
 unfold Builtin.List.listExtendWith;refine ez (LV hT ?_);have h1:Builtin.List.listSameRef (.ref S) (.ref it)=false:=by simp[Builtin.List.listSameRef,Y]
 rw[if_neg (by rw[h1];decide)];refine ez (wpAny_pyIter_revIter U ?_);refine ez (Kr (yV hT ?_));refine Kg (λa1=>absurd a1 (by decide)) (λ_=>?_);refine gx ⟨Mq PySem.F.plain_extend_loop _,?_⟩;refine codeAny_extend_loopS W.toS hn S a0 res items.size 0 s #[] 0 rfl (Kd _) ⟨Kd _,by simpa using U,hl⟩ hS (ItemsOf.nil _) λs' J c hm a2 Z=>?_
 rw[Moved.eq_with hm];refine hR s'.heap s'.toks J c (λb o hb b0 e=>hm.heap b o (λz=>?_) e) a2 Z
 simp_all
end
end L2.Rv
namespace L2
open PySem PySem.Spec PyProof.Rows List Option
section
variable{X:Cx}
def uj{its:List Value}(h:ItemsOf (Rv.Drawn its.toArray) acc its.toArray.size):acc.toList=its.reverse:=by
 have hs:acc.size=its.length:=by rw[h.1,ro]
 refine Mz λi=>?_
 rw[Kj];by_cases hi:i<its.length
 .cases e:acc[i]? with
  |none=>rw[Array.getElem?_eq_none_iff]at e;omega
  |some v =>
   have:=h.2 i v e;unfold Rv.Drawn at this;rw[ro,getElem?_toArray]at this;rw[getElem?_reverse hi,<- this]
 .simp_all
end
end L2
namespace L2.Rg
open PySem PyProof.Rows List Option
section
variable{P:Program}{w:World}{A:Around}{E:Value->Shared->Prop}{s:Shared}
end
end L2.Rg
namespace L2
open PySem PySem.Spec PyProof.Rows List Option
section
variable{X:Cx}
end
end L2
namespace L2.Rv
open PySem PyProof.Rows List Option
open AutoSeq1 (wpAny_loadPart')
section
variable{P:Program}{w:World}{A:Around}{E:Value->Shared->Prop}{s:Shared}
def list_rev{it l:Addr}{items:Array Value}(hh:A.handled=none)(U:l≠it)(J:s.heap.IsRevIter it l ((items.size:Int)-1))(hl:s.heap.IsList l items)(hn:items.size<=sizeLine)
  (h:∀h' tk z c,(∀b o,b≠it->s.heap.get? b=some o->h'.get? b=some o)->h'.get? s.heap.objs.size=some { cls:=.type "list",dict:=none,data:=.seq z c,slots:=#[] }->ItemsOf (Drawn items) z items.size->Q (.ref s.heap.objs.size) { s with heap:=h',toks:=tk }) :
  wpAny (model P w) A (call (.type "list") [.ref it]) Q E s:=by
 have li:it<s.heap.objs.size:=by obtain⟨o,ho,_⟩:=J;exact r4 ho
 have ll:l<s.heap.objs.size:=by obtain⟨o,ho,_⟩:=hl;exact r4 ho
 refine callType_codes F.called_list (F.typeCall_list_1 _) F.entry_list_init (code_list_new (.ref it) (Q₁:=λobj s1=>obj=.ref s.heap.objs.size/\s1={ s with heap:=s.heap.push { cls:=.type "list",data:=.seq #[] } }) ⟨rfl,rfl⟩) λobj s1 h1=>?_
 obtain⟨rfl,rfl⟩:=h1;have Y:(s.heap.push { cls:=.type "list",data:=.seq #[] }).get? s.heap.objs.size=some { cls:=.type "list",data:=.seq #[] }:=uw _ rfl;refine⟨⟨_,Y,rfl⟩,F.args_list_init_2 _ _,?_⟩;unfold Builtin.«list.__init__»;generalize hX:Builtin.List.listExtendWith=X
 wp_walk using wpAny_loadPart' Y
 subst hX;have g1:((s.heap.push { cls:=.type "list",data:=.seq #[] }).update s.heap.objs.size (Obj.mapSeq λ_=>#[])).get? s.heap.objs.size=some { cls:=.type "list",data:=.seq #[] }:=KA _ Y rfl;have kp:∀b o,b≠s.heap.objs.size->s.heap.get? b=some o->((s.heap.push { cls:=.type "list",data:=.seq #[] }).update s.heap.objs.size (Obj.mapSeq λ_=>#[])).get? b=some o:=λb o Z e=>(Kk ..).extBut b o Z (g4 _ e)
 refine ui (A:=A.in1) (by simpa using hh) U (J.at λo e=>kp _ o (JV li) e) (hl.at λo e=>kp _ o (JV ll) e) hn (KR li) (KR ll) .none g1 λh' tk z c k e i=>?_
 exact⟨rfl,h h' tk z c (λb o Z q=>k b o (JV (r4 q)) Z (kp b o (JV (r4 q)) q)) e i⟩
end
end L2.Rv
namespace L2
open PySem PySem.Spec PyProof.Rows List Option
section
variable{X:Cx}
def ul (hc:X.calm=true) (hg:Gl X "list") (hm:X.mg "list"=none) (hv:bootBuiltins "list"=some (.type "list")) (a1:Gl X "reversed") (a2:X.mg "reversed"=none) (hl:PE X l tl) (hs:starEach [l] X.env=[(false,eval l X.env)]:=by rfl) :
  PE X (.Call (.Name "list" p) [.Call (.Name "reversed" p2) [l] [] pos2] [] pos) (λσ H Q=>tl σ H λx H1=>∃a xs,x=.ref a/\SqL X.K H1 a xs/\∀q,H1 q=none->Q (.ref q) (upd H1 q (.lst xs.reverse))):=by
 intro pins s σ H Q I h;refine Li (iH I hg hm hv ?_);refine KG (Md ?_) rfl rfl;refine Li (iH I a1 a2 PyProof.Rows.boot_reversed ?_);refine KG (thn (aN hl bF hs pos2 pins s σ H (λvs H1=>match vs with|[x]=>∃a xs,x=.ref a/\SqL X.K H1 a xs/\∀q,H1 q=none->Q (.ref q) (upd H1 q (.lst xs.reverse))|_=>False) I h) λus J ⟨vs,H1,I1,r1,q1⟩=>?_) hs rfl;cases r1 with
 |nil=>exact q1.elim
 |cons r rr =>
  cases rr with
  |cons _ _=>exact q1.elim
  |nil =>
   refine aE λZq kq=>?_
   obtain⟨a,xs,e,hq,q⟩:=q1;subst e;cases r;obtain⟨its,rv,pl,hz⟩:=I1.list hq;have la:a<J.heap.objs.size:=by obtain⟨o,ho,_⟩:=pl.isList;exact r4 ho
   have a0:its.toArray.size=xs.length:=by rw[ro];exact rv.length.symm
   refine kq ?_;refine call_reversed_list pl.isList (M4 ?_);generalize Z:revObj a ((its.toArray.size:Int)-1)=U;have a5:(J.heap.push U).get? J.heap.objs.size=some U:=uw _ (by rw[<- Z];rfl);have I2:Inv X pins σ H1 { J with heap:=J.heap.push U }:=I1.kept (t':=J.toks) λb o e=>g4 _ e
   have hn:=I1.hok.fresh (pb _);obtain⟨_,f1,_,f3,f4,f5⟩:=I1.fpOk (pb _) hn;refine Rv.list_rev (s:={ J with heap:=J.heap.push U }) (it:=J.heap.objs.size) (l:=a) (items:=its.toArray) (I1.ok.hd hc) (JV la) ⟨_,a5,by rw[<- Z];rfl,by rw[<- Z];rfl⟩ (pl.isList.at λo e=>g4 _ e) (by rw[a0];exact hz) λh' tk Y c k e it=>?_
   have z:(J.heap.push U).objs.size=J.heap.objs.size+1:=Kc ..;have ne:(J.heap.push U).objs.size≠J.heap.objs.size:=by omega
   have g2:((J.heap.push U).push { cls:=.type "list",data:=.seq Y c }).get? (J.heap.push U).objs.size=some { cls:=.type "list",data:=.seq Y c }:=uw _ rfl;have I3:Inv X pins σ (upd H1 (J.heap.push U).objs.size (.lst xs.reverse)) { J with heap:=(J.heap.push U).push { cls:=.type "list",data:=.seq Y c },toks:=J.toks }:=I2.laid (λb o e=>g4 _ e) (pb _) ⟨by rw[length_reverse];exact hz,Y.toList,c,by rw[uj it];exact rv.reverse,by rw[Array.toArray_toList];exact g2⟩;have a6:H1 (J.heap.push U).objs.size=none:=I1.hok.fresh (by omega);have I4:=I3.turned (t':=tk) (it:=J.heap.objs.size) (h':=h') (λb o hb e1=>by
    by_cases eb:b=(J.heap.push U).objs.size
    .subst eb;have e1:=e1;rw[g2]at e1;cases e1;exact e
    .refine k b o hb ?_;have e1:=e1;show(J.heap.push U).get? b=some o;rw[<- Heap.get?_push_ne _ _ _ eb];exact e1) (by rw[bc ne.symm];exact hn) f1 f3 f4 f5
   exact⟨.ref (J.heap.push U).objs.size,_,I4,rfl,q _ a6⟩
end
end L2
namespace MM
open PySem List Option
inductive Sc where
 | non|bl (b:Bool)|int (i:Int)|str (x:Str)
 deriving Inhabited,DecidableEq
inductive DD where
 | k (kvs:List (Int×Sc))|t (kvs:List (List Int×Sc))
 | p (ns:List Int)
 deriving Inhabited
inductive PV where
 | non|bl (b:Bool)|int (i:Int)|str (x:Str)|tup (xs:List PV)|lst (xs:List PV)|dI (d:DD)
 deriving Inhabited
noncomputable def Sc.pv:Sc->PV
 | .non=>.non
 | .bl b=>.bl b
 | .int i=>.int i
 | .str x=>.str x
noncomputable def sc?:PV->Option Sc
 | .non=>some .non
 | .bl b=>some (.bl b)
 | .int i=>some (.int i)
 | .str x=>some (.str x)
 | _=>none
noncomputable def bO{α:Type} [DecidableEq α] (kvs:List (α×Sc)) (k:α):Option Sc:=(kvs.find? λp=>decide (p.1=k)).map (·.2)
noncomputable def cV{α:Type} [DecidableEq α] (kvs:List (α×Sc)) (k:α) (v:Sc):List (α×Sc):=
 if (kvs.any λp=>decide (p.1=k))=true then kvs.map (λp=>if p.1=k then(p.1,v)else p)else kvs++[(k,v)]
noncomputable def eqL(f:PV->PV->Option Bool):List PV->List PV->Option Bool
 | [],[]=>some true
 |x::xs,y::ys=>(f x y).bind λp=>(eqL f xs ys).map λq=>p&&q
 | _,_=>some false
noncomputable def eqF:Nat->PV->PV->Option Bool
 | _,.non,.non=>some true
 | _,.bl a,.bl b=>some (a==b)
 | _,.bl a,.int b=>some ((if a then 1 else 0)==b)
 | _,.int a,.bl b=>some (a==(if b then 1 else 0))
 | _,.int a,.int b=>some (a==b)
 | _,.str a,.str b=>some (a==b)
 |0,.tup _,.tup _=>none
 |0,.lst _,.lst _=>none
 | _,.dI _,_=>none
 | _,_,.dI _=>none
 |n+1,.tup a,.tup b=>eqL (eqF n) a b
 |n+1,.lst a,.lst b=>if a.length=b.length then eqL (eqF n) a b else some false
 | _,_,_=>some false
noncomputable def rV:PV->PV->Bool
 | .tup _,.tup _=>true
 | .lst _,.lst _=>true
 | .tup _,_=>false
 | _,.tup _=>false
 | .lst _,_=>false
 | _,.lst _=>false
 | .bl _,.int _=>false
 | .int _,.bl _=>false
 | .dI _,_=>false
 | _,.dI _=>false
 | _,_=>true
noncomputable def inL(f:PV->Option Bool):List PV->Option Bool
 | []=>some false
 |y::ys=>(f y).bind λp=>(inL f ys).map λq=>p||q
inductive MV where
 | val (v:PV)|own (xs:List PV)|brw (xs:List PV)|ownD (d:DD)|brwD (d:DD)
 | mutD (d:DD)
 deriving Inhabited
noncomputable abbrev Rho:=List (Option MV)
inductive Op2 where
 | add|sub|mul|fdiv|mod|pow|shr
inductive Cp where
 | eq|ne|lt|le|gt|ge|isN|notN|isIn|notIn
inductive Blt where
 | len|tupleOf|listOf|sorted|any|all|sum|max1|min1|max2|min2|intOf|boolOf|isInt|isBool|isStr|isList|isTuple
 | sortedSet|lenSet|lenSetSub|sortedKeys|valuesOf|tupleRev
 deriving DecidableEq
inductive Sk where
 | seq|rng|enm|rev
set_option genInjectivity false in
inductive ME where
 | var (i:Nat)
 | bor (i:Nat)
 | cst (v:PV)
 | glob (x:Str) (v:PV)
 | bin (op:Op2) (a b:ME)
 | neg (a:ME)
 | not (a:ME)
 | and (a b:ME)
 | or (a b:ME)
 | ite (c a b:ME)
 | cmp (op:Cp) (a b:ME)
 | chain (op op':Cp) (a b c:ME)
 | tup (es:List ME)
 | lst (es:List ME)
 | idx (a i:ME)
 | slice (a lo hi:ME)
 | blt (b:Blt) (es:List ME)
 | call (f:Nat) (es:List ME)
 | callD (f:Nat) (es:List ME) (d:List Sc)
 | comp (k:Sk) (src:List ME) (js:List Nat) (cond elt:ME)
 | dget (a k d:ME)
 | dat (a k:ME)
 | dIn (neg:Bool) (k a:ME)
 | lenP (i:Nat)
 | disp (kvs:List (Str×Str)) (e:ME)
 | indexOf (i:Nat) (e:ME)
 deriving Inhabited
noncomputable def bf:List PV->Option (List Int)
 | []=>some []
 | .int i::r=>(bf r).map (i::·)
 | _=>none
noncomputable def gz:List PV->Option (List (List Int))
 | []=>some []
 | .tup xs::r=>(bf xs).bind λx=>(gz r).map (x::·)
 | _=>none
noncomputable def cU:List PV->Option (List Bool)
 | []=>some []
 | .bl i::r=>(cU r).map (i::·)
 | _=>none
noncomputable def pA(kvs:List (Str×Str)):List (L2.Key×L2.V):=kvs.map λp=>(Sum.inr p.1,L2.V.str p.2)
noncomputable def BR(kvs:List (Str×Str)):PV->Option PV
 | .str x=>(L2.jg (L2.iK [] (pA kvs)) (Sum.inr x)).bind λv=>match v with|.str y=>some (.str y)|_=>none
 | _=>none
noncomputable def wZ:PV->PV->Option (Option Sc)
 | .dI (.k kvs),.int i=>some (bO kvs i)
 | .dI (.t kvs),.tup xs=>(bf xs).map (bO kvs)
 | _,_=>none
noncomputable def qo:DD->PV->Sc->Option DD
 | .k kvs,.int i,s=>if kvs.length<10000 then some (.k (cV kvs i s))else none
 | .t kvs,.tup xs,s=>(bf xs).bind λk=>if kvs.length<10000 then some (.t (cV kvs k s))else none
 | _,_,_=>none
noncomputable def dSc:DD->List Sc
 | .k kvs=>kvs.map (·.2)
 | .t kvs=>kvs.map (·.2)
 | .p _=>[]
noncomputable def j6(d:DD):List PV:=(dSc d).map Sc.pv
noncomputable def lexLt:List Int->List Int->Bool
 | [],[]=>false
 | [],_::_=>true
 | _::_,[]=>false
 |x::xs,y::ys=>if x=y then lexLt xs ys else decide (x<y)
noncomputable def yW(x:Int):List Int->List Int
 | []=>[x]
 |y::r=>if y<x then y::yW x r else x::y::r
noncomputable def sortI:List Int->List Int
 | []=>[]
 |x::r=>yW x (sortI r)
noncomputable def yX(x:List Int):List (List Int)->List (List Int)
 | []=>[x]
 |y::r=>if lexLt y x=true then y::yX x r else x::y::r
noncomputable def sortT:List (List Int)->List (List Int)
 | []=>[]
 |x::r=>yX x (sortT r)
noncomputable def dd:List Int->List Int
 | []=>[]
 |x::r=>if x∈dd r then dd r else x::dd r
noncomputable def j7{α:Type}(f:Int->Int->Option α):PV->PV->Option α
 | .int i,.int j=>f i j
 | _,_=>none
noncomputable def Da:PV->PV->Option PV
 | .int i,.int j=>some (.int (i+j))
 | .lst a,.lst b=>if a.length+b.length<=10000 then some (.lst (a++b))else none
 | .tup a,.tup b=>if a.length+b.length<=10000 then some (.tup (a++b))else none
 | .str a,.str b=>if a.length+b.length<=1000000 then some (.str (a++b))else none
 | _,_=>none
noncomputable def ff(op:Op2):PV->PV->Option PV:=match op with
 | .add=>Da
 | .sub=>j7 λi j=>some (.int (i-j))
 | .mul=>j7 λi j=>if (-(2 ^ 64)<i/\i<2 ^ 64)\/(-(2 ^ 64)<j/\j<2 ^ 64)then some (.int (i*j))else none
 | .fdiv=>j7 λi j=>if 0<j/\j<1073741824 then some (.int (i / j))else none
 | .mod=>j7 λi j=>if 0<j then some (.int (i % j))else none
 | .pow=>j7 λi j=>if 0<=j/\j<=1000000/\i.natAbs<2 ^ 64 then some (.int (i ^ j.toNat))else none
 | .shr=>j7 λi j=>if 0<=j then some (.int (i / 2 ^ j.toNat))else none
noncomputable def jp:PV->Bool
 | .non=>true
 | _=>false
noncomputable def isIn(x:PV)(xs:List PV):Option Bool:=inL (λy=>eqF 100 y x) xs
noncomputable def Hj(a b:PV):Option Bool:=match b with
 | .non=>some (jp a)
 | .bl q=>(match a with|.bl p=>some (p==q)|_=>none)
 | _=>none
noncomputable def bg:PV->Option (List PV)
 | .tup xs=>some xs
 | .lst xs=>some xs
 | _=>none
noncomputable def iD:PV->Option (List PV)
 | .lst xs=>some xs
 | _=>none
noncomputable def cD(op:Cp):PV->PV->Option Bool:=match op with
 | .eq=>eqF 100
 | .ne=>λa b=>if rV a b=true then(eqF 100 a b).map λp=>!p else none
 | .lt=>j7 λi j=>some (decide (i<j))
 | .le=>j7 λi j=>some (decide (i<=j))
 | .gt=>j7 λi j=>some (decide (j<i))
 | .ge=>j7 λi j=>some (decide (j<=i))
 | .isN=>Hj
 | .notN=>λa b=>(Hj a b).map λp=>!p
 | .isIn=>λa b=>(bg b).bind (isIn a)
 | .notIn=>λa b=>((bg b).bind (isIn a)).map λp=>!p
noncomputable def place(n:Nat)(i:Int):Option Nat:=
 if 0<=i then(if i<n then some i.toNat else none)else if -(n:Int)<=i then some (i+n).toNat else none
noncomputable def fF:PV->PV->Option PV
 | .tup xs,.int i=>(place xs.length i).bind λj=>xs[j]?
 | .lst xs,.int i=>(place xs.length i).bind λj=>xs[j]?
 | _,_=>none
noncomputable def gC(n d:Nat):Option Int->Nat
 |none=>d
 |some i=>if i<0 then(i+n).toNat else min i.toNat n
noncomputable def cut(xs:List PV)(lo hi:Option Int):List PV:=(xs.drop (gC xs.length 0 lo)).take (gC xs.length xs.length hi-gC xs.length 0 lo)
noncomputable def j8:PV->Option Int->Option Int->Option PV
 | .lst xs,lo,hi=>some (.lst (cut xs lo hi))
 | .tup xs,lo,hi=>some (.tup (cut xs lo hi))
 | _,_,_=>none
noncomputable def bnd:ME->PV->Option (Option Int)
 | .cst .non,_=>some none
 | _,.int i=>some (some i)
 | _,_=>none
noncomputable def yY:List Int->Option Int
 | []=>none
 |x::r=>some (r.foldl (λa b=>if a<b then b else a) x)
noncomputable def iN(xs:List PV):Option PV:=
 if xs.length<64 then
  match bf xs with
  |some ns=>some (.lst ((sortI ns).map .int))
  |none=>(gz xs).map λz=>.lst ((sortT z).map λt=>.tup (t.map .int))
 else none
noncomputable def isT(b:Blt):PV->Bool
 | .int _=>b==.isInt
 | .bl _=>b==.isInt||b==.isBool
 | .str _=>b==.isStr
 | .lst _=>b==.isList
 | .tup _=>b==.isTuple
 | .non=>false
 | .dI _=>false
noncomputable def isD:PV->Bool
 | .dI _=>true
 | _=>false
noncomputable def cg(vs:List PV)(f:PV->Option PV):Option PV:=match vs with
 | [a]=>f a
 | _=>none
noncomputable def m8(vs:List PV)(f:PV->PV->Option PV):Option PV:=match vs with
 | [a,b]=>f a b
 | _=>none
noncomputable def jh(b:Blt)(vs:List PV):Option PV:=cg vs λa=>if isD a=true then none else some (.bl (isT b a))
noncomputable def Hk:PV->Option PV
 | .tup xs=>some (.int xs.length)
 | .lst xs=>some (.int xs.length)
 | .dI (.k kvs)=>some (.int kvs.length)
 | _=>none
noncomputable def aD(b:Blt)(vs:List PV):Option PV:=match b with
 | .len=>cg vs Hk
 | .tupleOf=>cg vs λa=>(bg a).map .tup
 | .listOf=>cg vs λa=>(bg a).map .lst
 | .sorted=>cg vs λa=>(bg a).bind iN
 | .any=>cg vs λa=>(iD a).bind λxs=>(cU xs).map λbs=>.bl (bs.any id)
 | .all=>cg vs λa=>(iD a).bind λxs=>(cU xs).map λbs=>.bl (bs.all id)
 | .sum=>cg vs λa=>(iD a).bind λxs=>(bf xs).map λns=>.int ns.sum
 | .max1=>cg vs λa=>(iD a).bind λxs=>(bf xs).bind λns=>(yY ns).map .int
 | .min1=>none
 | .max2=>m8 vs (j7 λi j=>some (.int (if j > i then j else i)))
 | .min2=>m8 vs (j7 λi j=>some (.int (if j<i then j else i)))
 | .intOf=>cg vs λa=>match a with|.int i=>some (.int i)|.bl b=>some (.int (if b then 1 else 0))|_=>none
 | .boolOf=>cg vs λa=>match a with|.bl b=>some (.bl b)|_=>none
 | .isInt=>jh .isInt vs
 | .isBool=>jh .isBool vs
 | .isStr=>jh .isStr vs
 | .isList=>jh .isList vs
 | .isTuple=>jh .isTuple vs
 | .sortedSet=>cg vs λa=>(bg a).bind λxs=>(bf xs).bind λns=>if ns.length<=4000/\(dd ns).length<64 then some (.lst ((sortI (dd ns)).map .int))else none
 | .lenSet=>cg vs λa=>(bg a).bind λxs=>(bf xs).bind λns=>if ns.length<=4000 then some (.int (dd ns).length)else none
 | .lenSetSub=>m8 vs λa b=>(bg a).bind λxs=>(bf xs).bind λns=>(bg b).bind λys=>(bf ys).bind λms =>
   if ns.length<=4000/\ms.length<=4000/\(dd ns).length<=60 then some (.int ((dd ns).filter λn=>!decide (n∈ms)).length)else none
 | .sortedKeys=>cg vs λa=>match a with|.dI (.k kvs)=>if kvs.length<64 then some (.lst ((sortI (kvs.map (·.1))).map .int))else none|_=>none
 | .tupleRev=>cg vs λa=>(iD a).map λxs=>.tup xs.reverse
 | .valuesOf=>cg vs λa=>match a with|.dI d=>if (j6 d).length<=10000 then some (.lst (j6 d))else none|_=>none
noncomputable def bB(n:Nat):List PV->List PV
 | []=>[]
 |x::r=>.tup [.int (n:Nat),x]::bB (n+1) r
noncomputable def bm:Sk->List PV->Option (List PV)
 | .seq,[a]=>bg a
 | .rng,[.int j]=>if -(2 ^ 62)<=j/\j<2 ^ 62 then some ((range j.toNat).map λ(k:Nat)=>.int ((0:Int)+k))else none
 | .rng,[.int i,.int j]=>if -(2 ^ 62)<=i/\i<2 ^ 62/\-(2 ^ 62)<=j/\j<2 ^ 62 then some ((range (j-i).toNat).map λ(k:Nat)=>.int (i+k))else none
 | .enm,[a]=>(bg a).map (bB 0)
 | .rev,[.lst xs]=>some xs.reverse
 | _,_=>none
noncomputable def fZ(c:PV->Option Bool)(f:PV->Option PV):List PV->Option (List PV)
 | []=>some []
 |x::r=>(c x).bind λb=>if b=true then(f x).bind λy=>(fZ c f r).map (y::·)else fZ c f r
noncomputable def bi:PV->Option Bool
 | .bl b=>some b
 | _=>none
noncomputable def Ew:Option MV->PV->Option PV
 |some (.val (.lst xs)),.int k=>(bf xs).bind λns=>if k∈ns/\ns.length<=10000 then some (.int (ns.idxOf k:Nat))else none
 | _,_=>none
noncomputable abbrev Cal:=Nat->List MV->Option PV
noncomputable def vF:Option MV->Option PV
 |some (.val v)=>some v
 | _=>none
noncomputable def rW:DD->Bool
 | .p _=>false
 | _=>true
noncomputable def bC:Option MV->Option PV
 |some (.val v)=>some v
 |some (.own xs)=>some (.lst xs)
 |some (.brw xs)=>some (.lst xs)
 |some (.ownD kvs)=>if rW kvs=true then some (.dI kvs)else none
 |some (.brwD kvs)=>if rW kvs=true then some (.dI kvs)else none
 |some (.mutD kvs)=>if rW kvs=true then some (.dI kvs)else none
 |none=>none
noncomputable def gE:Option MV->Option MV
 |some (.val v)=>some (.val v)
 |some (.own xs)=>some (.brw xs)
 |some (.brw xs)=>some (.brw xs)
 |some (.ownD xs)=>some (.brwD xs)
 |some (.brwD xs)=>some (.brwD xs)
 |some (.mutD xs)=>some (.brwD xs)
 |none=>none
noncomputable def fG:Option MV->Option MV
 |some (.own xs)=>some (.brw xs)
 |some (.ownD xs)=>some (.brwD xs)
 |some (.mutD xs)=>some (.brwD xs)
 |o=>o
noncomputable def cj(js:List Nat)(W:Rho)(x:PV):Rho:=some (.val x)::js.map λj=>fG (W[j]?).join
noncomputable def um:Option MV->Option PV
 |some (.ownD (.p ns))=>some (.int ns.length)
 |some (.mutD (.p ns))=>some (.int ns.length)
 | _=>none
mutual
noncomputable def ev(cal:Cal):ME->Rho->Option PV
 | .var i,W=>vF (W[i]?).join
 | .bor i,W=>bC (W[i]?).join
 | .cst v,_=>some v
 | .glob _ v,_=>some v
 | .bin op a b,W=>(ev cal a W).bind λx=>(ev cal b W).bind λy=>ff op x y
 | .neg a,W=>(ev cal a W).bind λx=>match x with|.int i=>some (.int (-i))|_=>none
 | .not a,W=>((ev cal a W).bind bi).map λb=>.bl (!b)
 | .and a b,W=>((ev cal a W).bind bi).bind λc=>if c=true then(ev cal b W).bind λy=>(bi y).map .bl else some (.bl false)
 | .or a b,W=>((ev cal a W).bind bi).bind λc=>if c=true then some (.bl true)else(ev cal b W).bind λy=>(bi y).map .bl
 | .ite c a b,W=>((ev cal c W).bind bi).bind λk=>if k=true then ev cal a W else ev cal b W
 | .cmp op a b,W=>(ev cal a W).bind λx=>(ev cal b W).bind λy=>(cD op x y).map .bl
 | .chain op J a b c,W=>(ev cal a W).bind λx=>(ev cal b W).bind λy=>(cD op x y).bind λk=>if k=true then(ev cal c W).bind λz=>(cD J y z).map .bl else some (.bl false)
 | .tup es,W=>(evs cal es W).bind λvs=>if vs.length<=10000 then some (.tup vs)else none
 | .lst es,W=>(evs cal es W).bind λvs=>if vs.length<=10000 then some (.lst vs)else none
 | .idx a i,W=>(ev cal a W).bind λx=>(ev cal i W).bind λy=>fF x y
 | .slice a lo hi,W=>(ev cal a W).bind λx=>((ev cal lo W).bind λl=>bnd lo l).bind λl=>((ev cal hi W).bind λh=>bnd hi h).bind λh=>j8 x l h
 | .blt b es,W=>(evs cal es W).bind λvs=>aD b vs
 | .call f es,W=>(evA cal es W).bind λvs=>cal f vs
 | .callD f es d,W=>(evA cal es W).bind λvs=>cal f (vs++d.map λx=>.val x.pv)
 | .comp k src js cond elt,W=>(evs cal src W).bind λvs=>(bm k vs).bind λxs =>
   if xs.length<=10000 then(fZ (λx=>(ev cal cond (cj js W x)).bind bi) (λx=>ev cal elt (cj js W x)) xs).map .lst else none
 | .dget a k d,W=>(ev cal a W).bind λx=>(ev cal k W).bind λy=>(ev cal d W).bind λz=>(wZ x y).bind λo=>(sc? z).map λs=>(o.getD s).pv
 | .dat a k,W=>(ev cal a W).bind λx=>(ev cal k W).bind λy=>(wZ x y).bind λo=>o.map Sc.pv
 | .dIn neg k a,W=>(ev cal k W).bind λy=>(ev cal a W).bind λx=>(wZ x y).map λo=>.bl (if neg=true then !o.isSome else o.isSome)
 | .lenP i,W=>um (W[i]?).join
 | .disp kvs e,W=>(ev cal e W).bind (BR kvs)
 | .indexOf i e,W=>(ev cal e W).bind (Ew (W[i]?).join)
noncomputable def evs(cal:Cal):List ME->Rho->Option (List PV)
 | [],_=>some []
 |e::es,W=>(ev cal e W).bind λv=>(evs cal es W).map (v::·)
noncomputable def evA(cal:Cal):List ME->Rho->Option (List MV)
 | [],_=>some []
 | .bor i::es,W=>(gE (W[i]?).join).bind λv=>(evA cal es W).map (v::·)
 |e::es,W=>(ev cal e W).bind λv=>(evA cal es W).map (MV.val v::·)
end
noncomputable def evB(cal:Cal)(e:ME)(W:Rho):Option Bool:=(ev cal e W).bind bi
noncomputable def gH:Option MV->Option DD
 |some (.ownD d)=>some d
 |some (.mutD d)=>some d
 | _=>none
noncomputable def evM(cal:Cal):List Bool->List ME->Rho->Option (List MV)
 | [],[],_=>some []
 |true::bs,.bor i::es,W=>(gH (W[i]?).join).bind λd=>(evM cal bs es W).map (MV.mutD d::·)
 |false::bs,e::es,W=>(evA cal [e] W).bind λa=>match a with|[.val v]=>(evM cal bs es W).map (MV.val v::·)|_=>none
 | _,_,_=>none
noncomputable def fz(W:Rho)(i:Nat)(d:DD):Rho:=match (W[i]?).join with
 |some (.ownD _)=>W.set i (some (.ownD d))
 | _=>W.set i (some (.mutD d))
noncomputable def j9:List Bool->List ME->List PV->Rho->Option Rho
 | [],[],[],W=>some W
 |true::bs,.bor i::es,.dI d::ds,W=>j9 bs es ds (fz W i d)
 |false::bs,_::es,ds,W=>j9 bs es ds W
 | _,_,_,_=>none
noncomputable def rX(cal:Cal)(f:Nat)(mask:List Bool)(es:List ME)(W:Rho):Option (PV×Rho):=
 match (evM cal mask es W).bind λvs=>cal (f+2000) vs with
 |some (.tup (v::ds))=>(j9 mask es ds W).map λl=>(v,l)
 | _=>none
inductive SK where
 | one|cat|pair
noncomputable def Db:SK->PV->PV->Option PV
 | .one,_,v=>some v
 | .cat,w,v=>ff .add w v
 | .pair,w,v=>some (.tup [w,v])
noncomputable def BS:Option MV->Option MV
 |some (.val v)=>some (.val v)
 |some (.brw xs)=>some (.brw xs)
 |some (.ownD d)=>some (.mutD d)
 |some (.mutD d)=>some (.mutD d)
 |some (.brwD d)=>some (.brwD d)
 | _=>none
noncomputable def kY(js:List Nat)(W:Rho)(x:PV):Rho:=some (.val x)::js.map λj=>BS (W[j]?).join
noncomputable def Ex(js:List Nat):ME->ME
 | .bor i=>.bor (if i=0 then 0 else js.getD (i-1) 0)
 |e=>e
noncomputable def dz(cal:Cal)(js:List Nat)(k:SK)(e:ME)(f:Nat)(mask:List Bool)(es:List ME):List PV->Rho->Option (List PV×Rho)
 | [],W=>some ([],W)
 |x::xs,W=>(ev cal e (kY js W x)).bind λw=>match (evM cal mask es (kY js W x)).bind λvs=>cal (f+2000) vs with
  |some (.tup (v::ds))=>(Db k w v).bind λr=>(j9 mask (es.map (Ex js)) ds W).bind λl=>(dz cal js k e f mask es xs l).map λp=>(r::p.1,p.2)
  | _=>none
inductive XE where
 | pure (e:ME)
 | call (f:Nat) (mask:List Bool) (es:List ME)
 | pop (i:Nat)
 | bin (op:Op2) (a:XE) (b:ME)
 | fn (g:Nat) (a:XE) (es:List ME)
 | tup (xs:List XE)
 | tupOf (a:XE)
 | lst (xs:List XE)
 | fn2 (g:Nat) (e:ME) (a:XE)
 | compS (src:ME) (js:List Nat) (k:SK) (e:ME) (f:Nat) (mask:List Bool) (es:List ME)
 deriving Inhabited
noncomputable def BT(i:Nat)(W:Rho):Option (PV×Rho):=match gH (W[i]?).join with
 |some (.p ns)=>(ns.getLast?).map λn=>(.int n,fz W i (.p ns.dropLast))
 | _=>none
mutual
noncomputable def evX(cal:Cal):XE->Rho->Option (PV×Rho)
 | .pure e,W=>(ev cal e W).map λv=>(v,W)
 | .call f mask es,W=>rX cal f mask es W
 | .pop i,W=>BT i W
 | .bin op a b,W=>(evX cal a W).bind λp=>(ev cal b p.2).bind λy=>(ff op p.1 y).map λr=>(r,p.2)
 | .fn g a es,W=>(evX cal a W).bind λp=>(evA cal es p.2).bind λvs=>(cal g (.val p.1::vs)).map λr=>(r,p.2)
 | .tup xs,W=>(evXs cal xs W).bind λp=>if p.1.length<=10000 then some (.tup p.1,p.2)else none
 | .lst xs,W=>(evXs cal xs W).bind λp=>if p.1.length<=10000 then some (.lst p.1,p.2)else none
 | .fn2 g e a,W=>(ev cal e W).bind λw=>(evX cal a W).bind λp=>(cal g [.val w,.val p.1]).map λr=>(r,p.2)
 | .tupOf a,W=>(evX cal a W).bind λp=>(aD .tupleOf [p.1]).map λr=>(r,p.2)
 | .compS src js k e f mask es,W=>(evs cal [src] W).bind λvs=>(bm .seq vs).bind λxs=>if xs.length<=10000 then(dz cal js k e f mask es xs W).map λp=>(.lst p.1,p.2)else none
noncomputable def evXs(cal:Cal):List XE->Rho->Option (List PV×Rho)
 | [],W=>some ([],W)
 |x::xs,W=>(evX cal x W).bind λp=>(evXs cal xs p.2).map λq=>(p.1::q.1,q.2)
end
set_option genInjectivity false in
inductive MS where
 | set (i:Nat) (e:ME)
 | setOwn (i:Nat) (e:ME)
 | freeze (i:Nat)
 | append (i:Nat) (e:ME)
 | extend (i:Nat) (e:ME)
 | setIdx (i:Nat) (k v:ME)
 | unpack (is:List Nat) (e:ME)
 | expr (e:ME)
 | ite (c:ME) (a b:List MS)
 | for1 (i:Nat) (k:Sk) (src:List ME) (body:List MS)
 | forT (is:List Nat) (k:Sk) (src:List ME) (body:List MS)
 | while (n:Nat) (c:ME) (body:List MS)
 | ret (e:ME)
 | retOwn (i:Nat)
 | retN
 | brk
 | cont
 | pass
 | never
 | newD (m:Bool) (i:Nat)
 | retM (e:ME)
 | retF (e:ME)
 | setCall (i f:Nat) (es:List ME)
 | clear (i:Nat)
 | setP (i:Nat) (e:ME)
 | setX (i:Nat) (x:XE)
 | appX (i:Nat) (x:XE)
 | ownX (i:Nat) (xs:List XE)
 | retXE (x:XE)
 | forX (i:Nat) (x:XE) (body:List MS)
 | dput (i:Nat) (k v:ME)
 deriving Inhabited
inductive R where
 | next (W:Rho)|brk (W:Rho)|cont (W:Rho)|ret (v:PV)|bad
 | retF (xs:List PV)
 | retM (v:PV) (W:Rho)
 deriving Inhabited
noncomputable def R.andThen:R->(Rho->R)->R
 | .next W,k=>k W
 |r,_=>r
noncomputable def put(W:Rho)(i:Nat)(v:MV):Rho:=W.set i (some v)
noncomputable def eM(o:Option PV)(k:PV->R):R:=match o with
 |some v=>k v
 |none=>.bad
noncomputable def yZ(o:Option Bool)(k:Bool->R):R:=match o with
 |some v=>k v
 |none=>.bad
noncomputable def m_:List Nat->List PV->Rho->Option Rho
 | [],[],W=>some W
 |i::is,v::vs,W=>m_ is vs (put W i (.val v))
 | _,_,_=>none
noncomputable def cE(is:List Nat):PV->Rho->Option Rho
 | .tup vs,W=>m_ is vs W
 | _,_=>none
noncomputable def bZ(o:Option Rho)(f:Rho->R):R:=match o with
 |some W=>f W
 |none=>.bad
noncomputable def aq(body:PV->Rho->R):List PV->Rho->R
 | [],W=>.next W
 |x::r,W=>match body x W with
  | .next l=>aq body r l
  | .cont l=>aq body r l
  | .brk l=>.next l
  | .ret v=>.ret v
  | .bad=>.bad
  | .retF xs=>.retF xs
  | .retM v l=>.retM v l
noncomputable def qp(c:Rho->Option Bool)(body:Rho->R):Nat->Rho->R
 |0,_=>.bad
 |n+1,W=>match c W with
  |none=>.bad
  |some false=>.next W
  |some true=>match body W with
   | .next l=>qp c body n l
   | .cont l=>qp c body n l
   | .brk l=>.next l
   | .ret v=>.ret v
   | .bad=>.bad
   | .retF xs=>.retF xs
   | .retM v l=>.retM v l
noncomputable def br(src:List ME)(W:Rho):Rho:=match src with
 | [.bor i]=>(match (W[i]?).join with|some (.own xs)=>put W i (.brw xs)|_=>W)
 | _=>W
noncomputable def aQ(src:List ME)(z W:Rho):Rho:=match src with
 | [.bor i]=>(match (z[i]?).join,(W[i]?).join with|some (.own _),some (.brw xs)=>put W i (.own xs)|_,_=>W)
 | _=>W
noncomputable def R.back(src:List ME)(z:Rho):R->R
 | .next W=>.next (aQ src z W)
 | .brk W=>.brk (aQ src z W)
 | .cont W=>.cont (aQ src z W)
 | .retM v W=>.retM v (aQ src z W)
 |r=>r
mutual
noncomputable def ex(cal:Cal):MS->Rho->R
 | .set i e,W=>eM (ev cal e W) λv=>.next (put W i (.val v))
 | .setOwn i e,W=>eM (ev cal e W) λv=>match v with|.lst xs=>.next (put W i (.own xs))|_=>.bad
 | .freeze i,W=>match (W[i]?).join with|some (.own xs)=>.next (put W i (.val (.lst xs)))|some _=>.next W|none=>.bad
 | .append i e,W=>eM (ev cal e W) λv=>match (W[i]?).join with
  |some (.own xs)=>if xs.length<10000 then .next (put W i (.own (xs++[v])))else .bad
  | _=>.bad
 | .extend i e,W=>eM (ev cal e W) λv=>match (W[i]?).join,bg v with
  |some (.own xs),some ys=>if xs.length+ys.length<=10000 then .next (put W i (.own (xs++ys)))else .bad
  | _,_=>.bad
 | .setIdx i k v,W=>eM (ev cal v W) λv=>eM (ev cal k W) λk=>match (W[i]?).join,k with
  |some (.own xs),.int k=>(match place xs.length k with|some j=>.next (put W i (.own (xs.set j v)))|none=>.bad)
  | _,_=>.bad
 | .unpack is e,W=>eM (ev cal e W) λv=>bZ (cE is v W) .next
 | .expr e,W=>eM (ev cal e W) λ_=>.next W
 | .ite c a b,W=>yZ (evB cal c W) λk=>if k=true then exs cal a W else exs cal b W
 | .for1 i k src body,W=>match (evs cal src W).bind (bm k)with
  |some xs=>(aq (λx l=>exs cal body (put l i (.val x))) xs (br src W)).back src W
  |none=>.bad
 | .forT is k src body,W=>match (evs cal src W).bind (bm k)with
  |some xs=>(aq (λx l=>bZ (cE is x l) λz=>exs cal body z) xs (br src W)).back src W
  |none=>.bad
 | .while n c body,W=>qp (evB cal c) (λl=>exs cal body l) n W
 | .ret e,W=>eM (ev cal e W) .ret
 | .retOwn i,W=>match (W[i]?).join with|some (.own xs)=>.ret (.lst xs)|some (.ownD kvs)=>if rW kvs=true then .ret (.dI kvs)else .bad|some (.val v)=>.ret v|_=>.bad
 | .newD m i,W=>.next (put W i (.ownD (if m=true then .t []else .k [])))
 | .dput i k v,W=>eM (ev cal v W) λv=>eM (ev cal k W) λk=>match (W[i]?).join,sc? v with
  |some (.ownD d),some s=>match qo d k s with|some d'=>.next (put W i (.ownD d'))|none=>.bad
  |some (.mutD d),some s=>match qo d k s with|some d'=>.next (put W i (.mutD d'))|none=>.bad
  | _,_=>.bad
 | .retM e,W=>eM (ev cal e W) λv=>.retM v W
 | .retF e,W=>eM (ev cal e W) λv=>match v with|.lst xs=>.retF xs|_=>.bad
 | .setCall i f es,W=>eM ((evA cal es W).bind λvs=>cal (f+1000) vs) λv=>match v with|.lst xs=>.next (put W i (.own xs))|_=>.bad
 | .clear i,W=>match (W[i]?).join with|some (.own _)=>.next (put W i (.own []))|_=>.bad
 | .setP i e,W=>match ev cal e W with
  |some (.lst xs)=>(match bf xs with
   |some ns=>.next (put W i (.ownD (.p ns.reverse)))
   |none=>.bad)
  | _=>.bad
 | .setX i x,W=>match evX cal x W with
  |some (v,l)=>.next (put l i (.val v))
  |none=>.bad
 | .ownX i xs,W=>match evXs cal xs W with
  |some (vs,l)=>if vs.length<=10000 then .next (put l i (.own vs))else .bad
  |none=>.bad
 | .appX i x,W=>match (W[i]?).join with
  |some (.own _)=>(match evX cal x W with
   |some (v,l)=>(match (l[i]?).join with
    |some (.own xs)=>if xs.length<10000 then .next (put l i (.own (xs++[v])))else .bad
    | _=>.bad)
   |none=>.bad)
  | _=>.bad
 | .retXE x,W=>match evX cal x W with
  |some (v,l)=>.retM v l
  |none=>.bad
 | .forX i x body,W=>match evX cal x W with
  |some (v,l)=>(match bm .rng [v]with
   |some xs=>aq (λy z=>exs cal body (put z i (.val y))) xs l
   |none=>.bad)
  |none=>.bad
 | .retN,_=>.ret .non
 | .brk,W=>.brk W
 | .cont,W=>.cont W
 | .pass,W=>.next W
 | .never,_=>.bad
noncomputable def exs(cal:Cal):List MS->Rho->R
 | [],W=>.next W
 |s::ss,W=>(ex cal s W).andThen λl=>exs cal ss l
end
structure MD where
 name:Str
 params:List Str
 names:List Str
 body:List MS
 deriving Inhabited
noncomputable def eC:List MV->Rho->Option (List PV)
 | [],_=>some []
 | .mutD _::as,some (.mutD d)::W=>(eC as W).map (.dI d::·)
 | .val _::as,_::W=>eC as W
 | _,_=>none
noncomputable def aa(ds:List MD):Nat->Cal
 |0,_,_=>none
 |n+1,f,args=>match ds[f]? with
  |none=>if 2000<=f then(
   match ds[f-2000]? with
   |none=>none
   |some d=>if args.length=d.params.length then
     (match exs (aa ds n) d.body (args.map some++replicate (d.names.length-args.length) none)with
     | .retM v W=>(eC args W).map λds=>.tup (v::ds)
     | _=>none)else none)else
   (match ds[f-1000]? with
   |none=>none
   |some d=>if args.length=d.params.length then
     (match exs (aa ds n) d.body (args.map some++replicate (d.names.length-args.length) none)with
     | .retF xs=>some (.lst xs)
     | _=>none)else none)
  |some d=>if args.length=d.params.length then
    (match exs (aa ds n) d.body (args.map some++replicate (d.names.length-args.length) none)with
    | .next _=>some .non
    | .ret v=>some v
    | .retF xs=>some (.lst xs)
    | _=>none)else none
end MM
namespace MM
open PySem PySem.Spec PyProof.Rows L2 List Option
noncomputable abbrev St:=L2.St
noncomputable def ay(H:Hp)(O:List Addr):Hp:=λb=>if b∈O then none else H b
def eQ(h:b∈O):ay H O b=none:=if_pos h
def bh(h:b∉O):ay H O b=H b:=if_neg h
theorem ai.rd(s:ai H H')(h:Rd H a u):Rd H' a u:=h.elim (λe=>.inl (s a _ e)) λ⟨o,e⟩=>.inr ⟨o,s a _ e⟩
def bG(H)(O):ai (ay H O) H:=λb u e=>by
 unfold ay at e
 simp_all
def bR(s:ai H H')(h:∀b∈U,b∈O\/H b=none):ai (ay H O) (ay H' U):=λb u e=>by
 have J:b∉O:=λz=>by rw[eQ z]at e;cases e
 rw[bh J]at e;rw[bh]
 .exact s b u e
 .intro z;rcases h b z with q|q
  .exact J q
  .rw[q]at e;cases e
def am(s:ai H H'):ai (ay H O) (ay H' O):=bR s λ_ h=>.inl h
noncomputable def Sc.v:Sc->V
 | .non=>.non
 | .bl b=>.bl b
 | .int i=>.int i
 | .str x=>.str x
noncomputable def gI(kvs:List (Int×Sc)):List (Key×V):=kvs.map λp=>(Sum.inl p.1,p.2.v)
noncomputable def jI(kvs:List (List Int×Sc)):List (List Key×V):=kvs.map λp=>(p.1.map Sum.inl,p.2.v)
noncomputable def iO:DD->HO
 | .k kvs=>.dK (gI kvs)
 | .t kvs=>.dT (jI kvs)
 | .p ns=>.lst (ns.map V.int)
def RdD(F:Hp)(a:Addr)(d:DD):Prop:=Rd F a (iO d)/\rW d=true
theorem RdD.rd(h:RdD F a d):Rd F a (iO d):=h.1
theorem ai.rdD(s:ai H H')(h:RdD H a d):RdD H' a d:=⟨ai.rd s h.1,h.2⟩
mutual
noncomputable def Rep(K:Np)(F:Hp):PV->V->Prop
 | .non,u=>u=.non
 | .bl b,u=>u=.bl b
 | .int i,u=>u=.int i
 | .str x,u=>u=.str x
 | .tup xs,u=>∃a us,u=.ref a/\F a=some (.tup us)/\Reps K F xs us
 | .lst xs,u=>∃a us,u=.ref a/\SqL K F a us/\Reps K F xs us
 | .dI kvs,u=>∃a,u=.ref a/\RdD F a kvs
noncomputable def Reps(K:Np)(F:Hp):List PV->List V->Prop
 | [],us=>us=[]
 |x::xs,us=>∃u r,us=u::r/\Rep K F x u/\Reps K F xs r
end
section
variable{K:Np}{F F':Hp}
mutual
theorem Rep.mono(s:ai F F'):∀(x:PV) {u:V},Rep K F x u->Rep K F' x u
 | .non,_,h=>by simpa only[Rep]using h
 | .bl _,_,h=>by simpa only[Rep]using h
 | .int _,_,h=>by simpa only[Rep]using h
 | .str _,_,h=>by simpa only[Rep]using h
 | .tup xs,_,h=>by
  rw[Rep]at h ⊢;obtain⟨a,us,e,q,r⟩:=h;exact⟨a,us,e,s a _ q,Reps.mono s xs r⟩
 | .lst xs,_,h=>by
  rw[Rep]at h ⊢;obtain⟨a,us,e,q,r⟩:=h;exact⟨a,us,e,s.seq q,Reps.mono s xs r⟩
 | .dI kvs,_,h=>by
  rw[Rep]at h ⊢;obtain⟨a,e,q⟩:=h;exact⟨a,e,ai.rdD s q⟩
theorem Reps.mono(s:ai F F'):∀(xs:List PV) {us:List V},Reps K F xs us->Reps K F' xs us
 | [],_,h=>by simpa only[Reps]using h
 |x::xs,_,h=>by
  rw[Reps]at h ⊢;obtain⟨u,r,e,q,t⟩:=h;exact⟨u,r,e,Rep.mono s x q,Reps.mono s xs t⟩
end
theorem Reps.nil:Reps K F [] []:=rfl
theorem Reps.cons{u:V}{us:List V}(h:Rep K F x u)(t:Reps K F xs us):Reps K F (x::xs) (u::us):=by
 rw[Reps];exact⟨u,us,rfl,h,t⟩
theorem Reps.length:∀{xs}{us},Reps K F xs us->xs.length=us.length
 | [],_,h=>by rw[Reps]at h;subst h;rfl
 |x::xs,_,h=>by
  obtain⟨u,r,e,_,t⟩:=h;subst e;simp[Reps.length t]
theorem Reps.get:∀{xs}{us}{i:Nat}{x},Reps K F xs us->xs[i]?=some x->∃u,us[i]?=some u/\Rep K F x u
 | [],_,_,_,_,e=>by simp at e
 |x::xs,_,i,y,h,e=>by
  obtain⟨u,r,rfl,q,t⟩:=h;cases i with
  |zero=>simp at e;subst e;exact⟨u,by simp,q⟩
  |succ i=>obtain⟨w,h1,h2⟩:=Reps.get (i:=i) t (by simpa using e);exact⟨w,by simpa using h1,h2⟩
theorem Reps.get':∀{xs}{us}{i:Nat}{u},Reps K F xs us->us[i]?=some u->∃x,xs[i]?=some x/\Rep K F x u
 | [],_,i,_,h,e=>by rw[Reps]at h;subst h;simp at e
 |x::xs,_,i,y,h,e=>by
  obtain⟨u,r,rfl,q,t⟩:=h;cases i with
  |zero=>simp at e;subst e;exact⟨x,by simp,q⟩
  |succ i=>obtain⟨w,h1,h2⟩:=Reps.get' (i:=i) t (by simpa using e);exact⟨w,by simpa using h1,h2⟩
theorem Reps.append:∀{xs ys}{us z},Reps K F xs us->Reps K F ys z->Reps K F (xs++ys) (us++z)
 | [],_,_,_,h,g=>by rw[Reps]at h;subst h;exact g
 |x::xs,_,_,_,h,g=>by
  obtain⟨u,r,rfl,q,t⟩:=h;exact .cons q (Reps.append t g)
theorem Reps.snoc(h:Reps K F xs us)(g:Rep K F x u):Reps K F (xs++[x]) (us++[u]):=h.append (.cons g .nil)
theorem Reps.take:∀{xs}{us} n,Reps K F xs us->Reps K F (xs.take n) (us.take n)
 | _,_,0,_=>by simpa using Reps.nil
 | [],_,n+1,h=>by rw[Reps]at h;subst h;simpa using Reps.nil
 |x::xs,_,n+1,h=>by
  obtain⟨u,r,rfl,q,t⟩:=h;exact .cons q (Reps.take n t)
theorem Reps.drop:∀{xs}{us} n,Reps K F xs us->Reps K F (xs.drop n) (us.drop n)
 | _,_,0,h=>h
 | [],_,n+1,h=>by rw[Reps]at h;subst h;simpa using Reps.nil
 |x::xs,_,n+1,h=>by
  obtain⟨u,r,rfl,q,t⟩:=h;exact Reps.drop n t
theorem Reps.ints:∀{ns:List Int}{us},Reps K F (ns.map .int) us->us=ns.map V.int
 | [],_,h=>by simpa[Reps]using h
 |n::ns,_,h=>by
  obtain⟨u,r,rfl,q,t⟩:=h;rw[q,Reps.ints t];rfl
theorem Reps.of_ints:∀(ns:List Int),Reps K F (ns.map .int) (ns.map V.int)
 | []=>.nil
 |n::ns=>.cons (by rw[Rep]) (Reps.of_ints ns)
theorem dA:∀{xs}{ns},bf xs=some ns->xs=ns.map .int
 | [],_,h=>by simp[bf]at h;subst h;rfl
 | .int i::r,ns,h=>by
  simp[bf]at h;obtain⟨ms,h1,rfl⟩:=h;rw[dA h1];rfl
 | .non::_,_,h=>by simp[bf]at h
 | .bl _::_,_,h=>by simp[bf]at h
 | .str _::_,_,h=>by simp[bf]at h
 | .tup _::_,_,h=>by simp[bf]at h
 | .lst _::_,_,h=>by simp[bf]at h
 | .dI _::_,_,h=>by simp[bf]at h
theorem rY:∀{xs}{ns},gz xs=some ns->xs=ns.map λt=>.tup (t.map .int)
 | [],_,h=>by simp[gz]at h;subst h;rfl
 | .tup i::r,ns,h=>by
  simp[gz,gf]at h;obtain⟨t,z,ms,h1,rfl⟩:=h;rw[rY h1,dA z];rfl
 | .non::_,_,h=>by simp[gz]at h
 | .bl _::_,_,h=>by simp[gz]at h
 | .str _::_,_,h=>by simp[gz]at h
 | .int _::_,_,h=>by simp[gz]at h
 | .lst _::_,_,h=>by simp[gz]at h
 | .dI _::_,_,h=>by simp[gz]at h
theorem kZ:∀{xs}{ns},cU xs=some ns->xs=ns.map .bl
 | [],_,h=>by simp[cU]at h;subst h;rfl
 | .bl i::r,ns,h=>by
  simp[cU]at h;obtain⟨ms,h1,rfl⟩:=h;rw[kZ h1];rfl
 | .non::_,_,h=>by simp[cU]at h
 | .int _::_,_,h=>by simp[cU]at h
 | .str _::_,_,h=>by simp[cU]at h
 | .tup _::_,_,h=>by simp[cU]at h
 | .lst _::_,_,h=>by simp[cU]at h
 | .dI _::_,_,h=>by simp[cU]at h
end
def eE{K:Np}{H:Hp}{a:Addr}{us:List V}(h:H a=some (.tup us)):SqT K H a us:=SqT.of h
def bH(K:Np)(H:Hp)(O:List Addr)(v:PV)(u:V):Prop:=
 Rep K (ay H O) v u\/(∃xs a us,v=.lst xs/\u=.ref a/\SqL K H a us/\Reps K (ay H O) xs us)\/∃kvs a,v=.dI kvs/\u=.ref a/\RdD H a kvs
section
variable{K:Np}{H H':Hp}{O:List Addr}
theorem bH.of(h:Rep K (ay H O) v u):bH K H O v u:=.inl h
theorem bH.mono(s:ai H H')(h:bH K H O v u):bH K H' O v u:=by
 rcases h with h|⟨xs,a,us,z,J,q,r⟩|⟨kvs,a,z,J,q⟩
 .exact .inl (Rep.mono (am s) _ h)
 .exact .inr (.inl ⟨xs,a,us,z,J,s.seq q,Reps.mono (am s) _ r⟩)
 .exact .inr (.inr ⟨kvs,a,z,J,ai.rdD s q⟩)
theorem bH.lst(h:bH K H O (.lst xs) u):∃a us,u=.ref a/\SqL K H a us/\Reps K (ay H O) xs us:=by
 rcases h with h|⟨ys,a,us,z,J,q,r⟩|⟨kvs,a,z,J,q⟩
 .rw[Rep]at h;obtain⟨a,us,e,q,r⟩:=h;exact⟨a,us,e,(bG H O).seq q,r⟩
 .cases z;exact⟨a,us,J,q,r⟩
 .cases z
def bH.tupH(h:bH K H O (.tup xs) u):∃a us,u=.ref a/\H a=some (.tup us)/\Reps K (ay H O) xs us:=by
 rcases h with h|⟨ys,a,us,z,J,q,r⟩|⟨kvs,a,z,J,q⟩
 .rw[Rep]at h;obtain⟨a,us,e,q,r⟩:=h;exact⟨a,us,e,bG H O a _ q,r⟩
 .cases z
 .cases z
theorem bH.tup(h:bH K H O (.tup xs) u):∃a us,u=.ref a/\SqT K H a us/\Reps K (ay H O) xs us:=by
 obtain⟨a,us,e,q,r⟩:=h.tupH;exact⟨a,us,e,SqT.of q,r⟩
def bH.tupR(h:bH K H O (.tup xs) u):Rep K (ay H O) (.tup xs) u:=by
 rcases h with h|⟨ys,a,us,z,J,q,r⟩|⟨kvs,a,z,J,q⟩
 .exact h
 .cases z
 .cases z
theorem bH.dI(h:bH K H O (.dI kvs) u):∃a,u=.ref a/\RdD H a kvs:=by
 rcases h with h|⟨ys,a,us,z,J,q,r⟩|⟨kvs,a,z,J,q⟩
 .rw[Rep]at h;obtain⟨a,e,q⟩:=h;exact⟨a,e,ai.rdD (bG H O) q⟩
 .cases z
 .simp_all
theorem bH.int(h:bH K H O (.int i) u):u=.int i:=by
 rcases h with h|⟨ys,a,us,z,J,q,r⟩|⟨kvs,a,z,J,q⟩
 .rw[Rep]at h;exact h
 .cases z
 .cases z
theorem bH.bl(h:bH K H O (.bl i) u):u=.bl i:=by
 rcases h with h|⟨ys,a,us,z,J,q,r⟩|⟨kvs,a,z,J,q⟩
 .rw[Rep]at h;exact h
 .cases z
 .cases z
theorem bH.str(h:bH K H O (.str i) u):u=.str i:=by
 rcases h with h|⟨ys,a,us,z,J,q,r⟩|⟨kvs,a,z,J,q⟩
 .rw[Rep]at h;exact h
 .cases z
 .cases z
theorem bH.non(h:bH K H O .non u):u=.non:=by
 rcases h with h|⟨ys,a,us,z,J,q,r⟩|⟨kvs,a,z,J,q⟩
 .rw[Rep]at h;exact h
 .cases z
 .cases z
theorem bH.seq(h:bH K H O v u)(e:bg v=some xs):∃a us,u=.ref a/\(SqL K H a us\/SqT K H a us)/\Reps K (ay H O) xs us:=by
 cases v<;>first|(simp[bg]at e;subst e;obtain⟨a,us,e,q,r⟩:=h.lst;exact⟨a,us,e,.inl q,r⟩)|(simp[bg]at e;subst e;obtain⟨a,us,e,q,r⟩:=h.tup;exact⟨a,us,e,.inr q,r⟩)|simp[bg]at e
def bH.whole(h:bH K H O v u):Rep K H v u:=by
 rcases h with h|⟨xs,a,us,rfl,z,q,r⟩|⟨kvs,a,rfl,z,q⟩
 .exact Rep.mono (bG H O) _ h
 .rw[Rep];exact⟨a,us,z,q,Reps.mono (bG H O) _ r⟩
 .rw[Rep];exact⟨a,z,q⟩
end
abbrev DAt(_:Np)(H:Hp)(_:List Addr)(a:Addr)(d:DD):Prop:=H a=some (iO d)
theorem DAt.here{K:Np}(h:DAt K H O a d):∃o,H a=some o:=⟨_,h⟩
theorem DAt.put1{K:Np}(_:qo d y s=some d')(h:DAt K H O a d):H a=some (iO d):=h
theorem DAt.put2{K:Np}{H:Hp}{O:List Addr}{a:Addr}{d d':DD}{y:PV}{s:Sc}(_:qo d y s=some d')(h:H a=some (iO d')):DAt K H O a d':=h
theorem DAt.np{K:Np}(h:DAt K H O a d)(_:rW d=true):H a=some (iO d):=h
theorem DAt.move{K:Np}{H H':Hp}{O z:List Addr}{a:Addr}{d:DD}(h:DAt K H O a d)(e:∀o,H a=some o->H' a=some o)(_:ai (ay H O) (ay H' z)):DAt K H' z a d:=e _ h
def fg(K:Np)(B:Hp)(O:List Addr)(H:Hp):MV->V->Prop
 | .val v,u=>Rep K (ay H O) v u
 | .own xs,u=>∃a us,u=.ref a/\H a=some (.lst us)/\Reps K (ay H O) xs us/\a∈O/\B a=none
 | .brw xs,u=>∃a us,u=.ref a/\SqL K B a us/\Reps K (ay H O) xs us
 | .ownD kvs,u=>∃a,u=.ref a/\DAt K H O a kvs/\a∈O/\B a=none
 | .mutD kvs,u=>∃a,u=.ref a/\DAt K H O a kvs/\a∈O/\B a=none
 | .brwD kvs,u=>∃a,u=.ref a/\Rd B a (iO kvs)
noncomputable def iP:MV->Bool
 | .own _=>true
 | .ownD _=>true
 | .mutD _=>true
 | _=>false
structure aF(K:Np)(B:Hp)(E O:List Addr)(H:Hp)(W:Rho)(σ:St):Prop where
 keep:ai B H
 here:∀a∈O,H a≠none
 sub:∀a∈E,a∈O
 old:∀a∈E,B a≠none
 len:W.length=σ.length
 slot:∀(i:Nat) (m:MV),W[i]?=some (some m)->∃u,σ[i]?=some (some u)/\fg K B O H m u
 apart:∀(i j:Nat) (m m':MV) (a:Addr),i≠j->W[i]?=some (some m)->W[j]?=some (some m')->iP m=true->iP m'=true->σ[i]?=some (some (.ref a))->σ[j]?≠some (some (.ref a))
section
variable{K:Np}{B H H':Hp}{E O:List Addr}{W:Rho}{σ:St}
theorem fg.mono(s:ai H H')(h:fg K B O H m u):fg K B O H' m u:=by
 cases m with
 |val v=>exact Rep.mono (am s) _ h
 |own xs=>obtain⟨a,us,e,q,r,h1,h2⟩:=h;exact⟨a,us,e,s _ _ q,Reps.mono (am s) _ r,h1,h2⟩
 |brw xs=>obtain⟨a,us,e,q,r⟩:=h;exact⟨a,us,e,q,Reps.mono (am s) _ r⟩
 |brwD kvs=>exact h
 | _=>obtain⟨a,e,q,h1,h2⟩:=h;exact⟨a,e,q.move (s _) (am s),h1,h2⟩
theorem aF.mono(s:ai H H')(h:aF K B E O H W σ):aF K B E O H' W σ where
 keep:=h.keep.trans s
 here:=λa z e=>h.here a z (s.free e)
 sub:=h.sub
 old:=h.old
 len:=h.len
 slot:=λi m e=>let ⟨u,J,q⟩:=h.slot i m e;⟨u,J,q.mono s⟩
 apart:=h.apart
theorem fg.bor(z:ai B H)(h:fg K B O H m u)(e:bC (some m)=some v):bH K H O v u:=by
 cases m with
 |val w=>simp[bC]at e;subst e;exact .inl h
 |own xs=>simp[bC]at e;subst e;obtain⟨a,us,e,q,r,_⟩:=h;exact .inr (.inl ⟨xs,a,us,rfl,e,SqL.of q,r⟩)
 |brw xs=>simp[bC]at e;subst e;obtain⟨a,us,e,q,r⟩:=h;exact .inr (.inl ⟨xs,a,us,rfl,e,z.seq q,r⟩)
 |ownD kvs|mutD kvs=>simp[bC]at e;obtain⟨np,rfl⟩:=e;obtain⟨a,e,q,_⟩:=h;exact .inr (.inr ⟨kvs,a,rfl,e,.inl (q.np np),np⟩)
 |brwD kvs=>simp[bC]at e;obtain⟨np,rfl⟩:=e;obtain⟨a,e,q⟩:=h;exact .inr (.inr ⟨kvs,a,rfl,e,ai.rd z q,np⟩)
end
def aG{α:Type}{o:Option (Option α)}{x:α}(h:o.join=some x):o=some (some x):=by
 cases o<;>simp_all
def vG(h:bC (some (.ownD d))=some v):v=.dI d:=by simp_all [bC]
def vH(h:bC (some (.brwD d))=some v):v=.dI d:=by simp_all [bC]
def vI(h:bC (some (.mutD d))=some v):v=.dI d:=by simp_all [bC]
structure Tab where
 fs:List Str
 gs:List (Str×PV)
 ds:List (List Sc)
noncomputable def Ey(sc:Scope)(x:Str):Bool:=sc.names.lookup x==some .local||sc.names.lookup x==some .cell||sc.names.lookup x==some .free
noncomputable def fC(sc:Scope)(x:Str):Bool:=sc.names.lookup x==some .local||sc.names.lookup x==some .cell
noncomputable def glB(sc:Scope)(x:Str):Bool:=sc.names.lookup x==some .globalImplicit
noncomputable def av (x:Str):Bool:=!(x==("__debug__":Str))&&!(x==("__classdict__":Str))&&!(x==("__name__":Str))
noncomputable def aV(N:List Str)(sc:Scope)(i:Nat)(x:Str):Bool:=N[i]?==some x&&Ey sc x&&av x
noncomputable def onQ{α:Type}:Option α->(α->Bool)->Bool
 |some a,f=>f a
 |none,_=>false
def ak(h:onQ o f=true):∃a,o=some a/\f a=true:=by
 cases o with
 |none=>cases h
 |some a=>exact⟨a,rfl,h⟩
def bK{α z:Type}{o:Option α}{f:α->Option z}{b:z}(h:o.bind f=some b):∃a,o=some a/\f a=some b:=gf.mp h
noncomputable def okQ{α:Type}(b:Bool)(x:α):Option α:=if b=true then some x else none
def jJ(h:okQ b x=some y):b=true/\x=y:=by
 cases b with
 |false=>cases h
 |true=>cases h;exact⟨rfl,rfl⟩
noncomputable def jK{α:Type}:List α->Option α
 | [x]=>some x
 | _=>none
def cN(h:jK l=some x):l=[x]:=by
 rcases l with _|⟨a,_|⟨b,l⟩⟩<;>cases h
 rfl
noncomputable def y0{α:Type}:List α->Option (α×α)
 | [x,y]=>some (x,y)
 | _=>none
def mf(h:y0 l=some q):l=[q.1,q.2]:=by
 rcases l with _|⟨a,_|⟨b,_|⟨c,l⟩⟩⟩<;>cases h
 rfl
noncomputable def nmP:Expr->Option (Str×Pos)
 | .Name x p=>some (x,p)
 | _=>none
def dO(h:nmP e=some q):e=.Name q.1 q.2:=by
 cases e<;>cases h
 rfl
noncomputable def caP:Expr->Option (Expr×List Expr×List Keyword×Pos)
 | .Call f as ks p=>some (f,as,ks,p)
 | _=>none
def y9(h:caP e=some q):e=.Call q.1 q.2.1 q.2.2.1 q.2.2.2:=by
 cases e<;>cases h
 rfl
noncomputable def atP:Expr->Option (Expr×Str×Pos)
 | .Attribute o m p=>some (o,m,p)
 | _=>none
def Ez(h:atP e=some q):e=.Attribute q.1 q.2.1 q.2.2:=by
 cases e<;>cases h
 rfl
noncomputable def biP:Expr->Option (Expr×Operator×Expr×Pos)
 | .BinOp l o r p=>some (l,o,r,p)
 | _=>none
def qr(h:biP e=some q):e=.BinOp q.1 q.2.1 q.2.2.1 q.2.2.2:=by
 cases e<;>cases h
 rfl
noncomputable def suP:Expr->Option (Expr×Expr×Pos)
 | .Subscript v s p=>some (v,s,p)
 | _=>none
def nc(h:suP e=some q):e=.Subscript q.1 q.2.1 q.2.2:=by
 cases e<;>cases h
 rfl
noncomputable def lcP:Expr->Option (Expr×List Comprehension×Scope×Pos)
 | .ListComp e g s p=>some (e,g,s,p)
 | _=>none
def uo(h:lcP e=some q):e=.ListComp q.1 q.2.1 q.2.2.1 q.2.2.2:=by
 cases e<;>cases h
 rfl
noncomputable def coP:Expr->Option (Expr×List CmpOp×List Expr×Pos)
 | .Compare l o r p=>some (l,o,r,p)
 | _=>none
def EA(h:coP e=some q):e=.Compare q.1 q.2.1 q.2.2.1 q.2.2.2:=by
 cases e<;>cases h
 rfl
noncomputable def ctP:Expr->Option (Const×Nat×Pos)
 | .Constant c j p=>some (c,j,p)
 | _=>none
def y_(h:ctP e=some q):e=.Constant q.1 q.2.1 q.2.2:=by
 cases e<;>cases h
 rfl
noncomputable def tuP:Expr->Option (List Expr×Nat×Pos)
 | .Tuple xs j p=>some (xs,j,p)
 | _=>none
def uq(h:tuP e=some q):e=.Tuple q.1 q.2.1 q.2.2:=by
 cases e<;>cases h
 rfl
noncomputable def liP:Expr->Option (List Expr×Pos)
 | .List xs p=>some (xs,p)
 | _=>none
def qt(h:liP e=some q):e=.List q.1 q.2:=by
 cases e<;>cases h
 rfl
noncomputable def unP:Expr->Option (UnaryOp×Expr×Pos)
 | .UnaryOp o e p=>some (o,e,p)
 | _=>none
def EB(h:unP e=some q):e=.UnaryOp q.1 q.2.1 q.2.2:=by
 cases e<;>cases h
 rfl
noncomputable def boP:Expr->Option (BoolOp×List Expr×Pos)
 | .BoolOp o vs p=>some (o,vs,p)
 | _=>none
def za(h:boP e=some q):e=.BoolOp q.1 q.2.1 q.2.2:=by
 cases e<;>cases h
 rfl
noncomputable def ifP:Expr->Option (Expr×Expr×Expr×Pos)
 | .IfExp t x y p=>some (t,x,y,p)
 | _=>none
def EC(h:ifP e=some q):e=.IfExp q.1 q.2.1 q.2.2.1 q.2.2.2:=by
 cases e<;>cases h
 rfl
noncomputable def slP:Expr->Option (Option Expr×Option Expr×Option Expr×Pos)
 | .Slice l u s p=>some (l,u,s,p)
 | _=>none
def ED(h:slP e=some q):e=.Slice q.1 q.2.1 q.2.2.1 q.2.2.2:=by
 cases e<;>cases h
 rfl
noncomputable def asP:Stmt->Option (List Expr×Expr×Pos)
 | .Assign z v p=>some (z,v,p)
 | _=>none
def zb(h:asP s=some q):s=.Assign q.1 q.2.1 q.2.2:=by
 cases s<;>cases h
 rfl
noncomputable def rZ(e:Expr):Option (Str×List Expr):=(caP e).bind λc=>(nmP c.1).bind λx=>okQ c.2.2.1.isEmpty (x.1,c.2.1)
def fH(h:rZ e=some q):∃p cp,e=.Call (.Name q.1 p) q.2 [] cp:=by
 obtain⟨c,h1,h⟩:=bK h;obtain⟨x,h2,h⟩:=bK h;obtain⟨z,rfl⟩:=jJ h;exact⟨_,_,by rw[y9 h1,dO h2,Lx.mp z]⟩
noncomputable def r6(e:Expr):Option (Str×Expr):=(rZ e).bind λc=>(jK c.2).bind λa=>some (c.1,a)
def hZ(h:r6 e=some q):∃p cp,e=.Call (.Name q.1 p) [q.2] [] cp:=by
 obtain⟨c,h1,h⟩:=bK h;obtain⟨a,h2,h⟩:=bK h;cases h;obtain⟨p,cp,rfl⟩:=fH h1;exact⟨p,cp,by rw[cN h2]⟩
noncomputable def maP(e:Expr):Option (Expr×Str×Pos×List Expr×Pos):=(caP e).bind λc=>(atP c.1).bind λa=>okQ c.2.2.1.isEmpty (a.1,a.2.1,a.2.2,c.2.1,c.2.2.2)
def qu(h:maP e=some q):e=.Call (.Attribute q.1 q.2.1 q.2.2.1) q.2.2.2.1 [] q.2.2.2.2:=by
 obtain⟨c,h1,h⟩:=bK h;obtain⟨x,h2,h⟩:=bK h;obtain⟨z,rfl⟩:=jJ h;rw[y9 h1,Ez h2,Lx.mp z]
noncomputable def maN(e:Expr):Option (Str×Str×Pos×List Expr×Pos):=(maP e).bind λa=>(nmP a.1).bind λx=>some (x.1,a.2.1,a.2.2.1,a.2.2.2.1,a.2.2.2.2)
def zc(h:maN e=some q):∃p,e=.Call (.Attribute (.Name q.1 p) q.2.1 q.2.2.1) q.2.2.2.1 [] q.2.2.2.2:=by
 obtain⟨c,h1,h⟩:=bK h;obtain⟨x,h2,h⟩:=bK h;cases h;exact⟨x.2,by rw[qu h1,dO h2]⟩
noncomputable def EE(e:Expr):Option (Expr×CmpOp×Expr):=(coP e).bind λc=>(jK c.2.1).bind λo=>(jK c.2.2.1).bind λr=>some (c.1,o,r)
def vJ(h:EE e=some q):∃pos,e=.Compare q.1 [q.2.1] [q.2.2] pos:=by
 obtain⟨c,h1,h⟩:=bK h;obtain⟨x,h2,h⟩:=bK h;obtain⟨y,z,h⟩:=bK h;cases h;exact⟨c.2.2.2,by rw[EA h1,cN h2,cN z]⟩
noncomputable def Hl(e:Expr):Option (Expr×Option Expr×Option Expr):=(suP e).bind λc=>(slP c.2.1).bind λs=>okQ s.2.2.1.isNone (c.1,s.1,s.2.1)
def BU(h:Hl e=some q):∃p pos,e=.Subscript q.1 (.Slice q.2.1 q.2.2 none p) pos:=by
 obtain⟨c,h1,h⟩:=bK h;obtain⟨x,h2,h⟩:=bK h;obtain⟨z,rfl⟩:=jJ h;exact⟨_,_,by rw[nc h1,ED h2,isNone_iff_eq_none.mp z]⟩
noncomputable def lcX(e:Expr):Option (Expr×Scope×(Str×Pos)×Expr×List Expr):=(lcP e).bind λc=>(jK c.2.1).bind λg=>(nmP g.target).bind λx=>okQ (g.is_async==0) (c.1,c.2.2.1,x,g.iter,g.ifs)
def zd(h:lcX e=some q):∃pos,e=.ListComp q.1 [⟨.Name q.2.2.1.1 q.2.2.1.2,q.2.2.2.1,q.2.2.2.2,0⟩] q.2.1 pos:=by
 obtain⟨c,h1,h⟩:=bK h;obtain⟨⟨tg,it,is,as⟩,h2,h⟩:=bK h;obtain⟨x,z,h⟩:=bK h;obtain⟨J,rfl⟩:=jJ h;exact⟨c.2.2.2,by rw[uo h1,cN h2,dO (e:=tg) z,show as=0 from eq_of_beq J]⟩
noncomputable def diP:Expr->Option (List (Option Expr)×List Expr×Pos)
 | .Dict ks vs p=>some (ks,vs,p)
 | _=>none
def ze(h:diP e=some q):e=.Dict q.1 q.2.1 q.2.2:=by
 cases e<;>cases h
 rfl
noncomputable def exP:Stmt->Option (Expr×Pos)
 | .Expr e p=>some (e,p)
 | _=>none
def EF(h:exP s=some q):s=.Expr q.1 q.2:=by
 cases s<;>cases h
 rfl
noncomputable def reP:Stmt->Option (Option Expr×Pos)
 | .Return v p=>some (v,p)
 | _=>none
def EG(h:reP s=some q):s=.Return q.1 q.2:=by
 cases s<;>cases h
 rfl
noncomputable def Hm:Const->Option Str
 | .str x=>some x
 | _=>none
def BV(h:Hm c=some x):c=.str x:=by
 cases c<;>cases h
 rfl
noncomputable def EH(e:Expr):Option Str:=(ctP e).bind λc=>Hm c.1
def vK(h:EH e=some x):∃j p,e=.Constant (.str x) j p:=by
 obtain⟨c,h1,h⟩:=bK h;exact⟨c.2.1,c.2.2,by rw[y_ h1,BV h]⟩
noncomputable def hdQ{α:Type}:List α->Option (α×List α)
 |x::l=>some (x,l)
 | _=>none
def EI(h:hdQ l=some q):l=q.1::q.2:=by
 cases l<;>cases h
 rfl
noncomputable def aM:ME->Bool
 | .bor _=>true
 | _=>false
noncomputable def ur:Op2->Operator
 | .add=>.Add|.sub=>.Sub|.mul=>.Mult|.fdiv=>.FloorDiv|.mod=>.Mod|.pow=>.Pow|.shr=>.RShift
noncomputable def zf:Cp->CmpOp
 | .eq=>.Eq|.ne=>.NotEq|.lt=>.Lt|.le=>.LtE|.gt=>.Gt|.ge=>.GtE|.isN=>.Is|.notN=>.IsNot|.isIn=>.In|.notIn=>.NotIn
noncomputable def ut:PV->Const->Bool
 | .non,.none=>true
 | .bl a,.bool b=>a==b
 | .int a,.int b=>a==b
 | .str a,.str b=>a==b
 | _,_=>false
noncomputable def Dc:PV->PV->Bool
 | .non,.non=>true
 | .bl a,.bl b=>a==b
 | .int a,.int b=>a==b
 | .str a,.str b=>a==b
 | _,_=>false
noncomputable def Dd(gs:List (Str×PV))(x:Str)(v:PV):Bool:=gs.any λp=>p.1==x&&Dc p.2 v
noncomputable def ag:Expr->Bool
 | .Starred ..=>false
 | _=>true
noncomputable def fh:Expr->Bool
 | .Set ..=>false
 | _=>true
noncomputable def ca:Expr->Bool
 | .Slice ..=>false
 | _=>true
noncomputable def bV:Expr->Bool
 | .ListComp ..=>false
 | .SetComp ..=>false
 | .DictComp ..=>false
 | _=>true
noncomputable def k4:Expr->Bool
 | .UnaryOp .Not _ _=>false
 | .BoolOp ..=>false
 | .IfExp ..=>false
 | .Compare ..=>false
 | _=>true
noncomputable def r9:Blt->String
 | .len=>"len" | .tupleOf=>"tuple" | .listOf=>"list" | .sorted=>"sorted" | .any=>"any" | .all=>"all" | .sum=>"sum" | .max1=>"max" | .min1=>"min" | .max2=>"max" | .min2=>"min"
 | .intOf=>"int" | .boolOf=>"bool" | .isInt=>"isinstance" | .isBool=>"isinstance" | .isStr=>"isinstance" | .isList=>"isinstance" | .isTuple=>"isinstance" | .sortedKeys=>"sorted" | .valuesOf=>"list" | .sortedSet=>"sorted" | .lenSet=>"len" | .lenSetSub=>"len" | .tupleRev=>"tuple"
noncomputable def dB:Blt->Option String
 | .isInt=>some "int" | .isBool=>some "bool" | .isStr=>some "str" | .isList=>some "list" | .isTuple=>some "tuple"
 | _=>none
noncomputable def k5:Blt->Option Nat
 | .len|.tupleOf|.listOf|.sorted|.any|.all|.sum|.intOf|.boolOf|.max1|.sortedKeys=>some 1
 | .max2|.min2=>some 2
 | _=>none
noncomputable def fI(osc:Scope)(N:List Str)(scope:Scope)(x:Str)(fvs:List Str)(js:List Nat):Bool:=
 decide (∀y∈scope.names,y.2=.cell->y.1=x)&&decide (scope.names.lookup x=some .local/\(scope.names.filter λy=>y.2==.cell)=[]\/scope.names.lookup x=some .cell/\(scope.names.filter λy=>y.2==.cell)=[(x,.cell)])
 &&decide (∀y∈scope.names,y.2=.free->y.1≠x)&&scope.kind==.function&&decide (∀y∈scope.names,y.2=.local->scope.names.lookup y.1=some .local)
 &&decide ((x::fvs).Nodup)&&decide (∀y∈scope.names,y.2=.free->osc.names.lookup y.1=some .cell\/osc.names.lookup y.1=some .free)&&decide ((js.map λj=>N[j]?)=fvs.map some)
 &&decide (∀y∈fvs,scope.names.lookup y=some .free)
noncomputable def dN(N:List Str)(js:List Nat):List Str:=js.map λj=>(N[j]?).getD Str.empty
noncomputable def ng(sc:Scope)(tup:Bool)(f:List Expr->Bool):Sk->Expr->Bool
 | .seq,it=>fh it&&f [it]
 | .rng,it=>onQ (rZ it) λc=>c.1==("range":Str)&&glB sc c.1&&f c.2&&(c.2.length==1||c.2.length==2)
 | .rev,_=>false
 | .enm,it=>onQ (r6 it) λc=>tup&&c.1==("enumerate":Str)&&glB sc c.1&&f [c.2]&&ag c.2
noncomputable def r_(sc:Scope)(f:List Expr->Bool)(n:Nat)(c:String)(args:List Expr):Bool:=onQ (y0 args) λa=>onQ (nmP a.2) λt=>t.1==(c:Str)&&glB sc t.1&&f [a.1]&&n==1
noncomputable def uu(sc:Scope)(f:List Expr->Bool)(n:Nat)(g:Str)(args:List Expr):Bool:=onQ (jK args) λa=>onQ (r6 a) λc=>c.1==g&&glB sc c.1&&f [c.2]&&n==1
noncomputable def pB:Expr->Bool
 | .Name _ _=>true
 | .Call _ (_::_) _ _=>true
 | _=>false
noncomputable def mh(sc:Scope)(f:List Expr->Bool)(n:Nat)(b:Blt)(args:List Expr):Bool:=match b with
 | .sortedSet=>uu sc f n "set" args
 | .lenSet=>uu sc f n "set" args
 | .lenSetSub=>onQ (jK args) λa=>onQ (biP a) λb=>onQ (r6 b.1) λc=>onQ (r6 b.2.2.1) λd=>b.2.1==.Sub&&c.1==("set":Str)&&glB sc c.1&&d.1==("set":Str)&&glB sc d.1&&f [c.2,d.2]&&n==2
 | .tupleRev=>false
 | .valuesOf=>onQ (jK args) λa=>onQ (maP a) λc=>c.2.2.2.1.isEmpty&&c.2.1==("values":Str)&&pB c.1&&c.2.2.1.endLine==c.2.2.2.2.line&&f [c.1]&&n==1
 | .max2=>false
 | .min2=>false
 | .boolOf=>false
 | .isStr=>false
 | .isList=>false
 |b=>match dB b with
  |some c=>r_ sc f n c args
  |none=>k5 b==some n&&f args
noncomputable def jL:ME->Bool
 | .cst .non=>true
 | _=>false
noncomputable def qv(f:Expr->Bool)(non:Bool):Option Expr->Bool
 |none=>non
 |some l=>f l&&!non
noncomputable def sa(f:Expr->Bool)(m:ME):List Expr->Bool
 | []=>(match m with|.cst (.bl true)=>true|_=>false)
 | [c]=>f c
 | _=>false
noncomputable def Hn(f:Expr->Bool)(op:BoolOp)(pos:Pos)(y:Expr):List Expr->Bool
 | []=>f y
 |z::r=>f (.BoolOp op (y::z::r) pos)
noncomputable def EJ(g f:Expr->Bool)(op:BoolOp)(pos:Pos):List Expr->Bool
 |x::y::r=>g x&&Hn f op pos y r
 | _=>false
def vL(h:EJ g f op pos vs=true):(∃x y,vs=[x,y]/\g x=true/\f y=true)\/∃x y z r,vs=x::y::z::r/\g x=true/\f (.BoolOp op (y::z::r) pos)=true:=by
 rcases vs with _|⟨x,_|⟨y,_|⟨z,r⟩⟩⟩
 .cases h
 .cases h
 .exact .inl ⟨x,y,rfl,gQ.mp h⟩
 .exact .inr ⟨x,y,z,r,rfl,gQ.mp h⟩
noncomputable def ixQ(e:Expr):Option (Str×Str×Expr×Pos×Pos):=(maP e).bind λa=>(nmP a.1).bind λc=>(jK a.2.2.2.1).bind λv=>some (c.1,a.2.1,v,a.2.2.1,a.2.2.2.2)
def EK{e:Expr}{q:Str×Str×Expr×Pos×Pos}(h:ixQ e=some q):∃p,e=.Call (.Attribute (.Name q.1 p) q.2.1 q.2.2.2.1) [q.2.2.1] [] q.2.2.2.2:=by
 obtain⟨a,h1,h⟩:=bK h;obtain⟨c,h2,h⟩:=bK h;obtain⟨v,z,h⟩:=bK h;cases h;exact⟨c.2,by rw[qu h1,dO h2,cN z]⟩
noncomputable def zg(e:Expr):Option (List (Option Expr)×List Expr×Expr):=(suP e).bind λc=>(diP c.1).bind λd=>some (d.1,d.2.1,c.2.1)
def zh(h:zg e=some q):∃p pos,e=.Subscript (.Dict q.1 q.2.1 p) q.2.2 pos:=by
 obtain⟨c,h1,h⟩:=bK h;obtain⟨d,h2,h⟩:=bK h;cases h;exact⟨d.2.2,c.2.2,by rw[nc h1,ze h2]⟩
noncomputable def sd:List (Str×Str)->List (Option Expr)->List Expr->Bool
 | [],[],[]=>true
 |p::r,k::ks,v::vs=>k.bind EH==some p.1&&EH v==some p.2&&sd r ks vs
 | _,_,_=>false
noncomputable def De(e:Expr):Option (Str×Str):=(r6 e).bind λc=>(nmP c.2).bind λy=>some (c.1,y.1)
def BW(h:De e=some q):∃p p2 pos,e=.Call (.Name q.1 p) [.Name q.2 p2] [] pos:=by
 obtain⟨c,h1,h⟩:=bK h;obtain⟨y,h2,h⟩:=bK h;cases h;obtain⟨p,pos,rfl⟩:=hZ h1;exact⟨p,y.2,pos,by rw[dO h2]⟩
mutual
noncomputable def chk(T:Tab):ME->List Str->Scope->Expr->Bool
 | .var i,N,sc,J=>onQ (nmP J) λx=>aV N sc i x.1
 | .bor i,N,sc,J=>onQ (nmP J) λx=>aV N sc i x.1
 | .cst v,_,_,J=>onQ (ctP J) λc=>ut v c.1
 | .glob x v,_,sc,J=>onQ (nmP J) λy=>x==y.1&&glB sc x&&Dd T.gs x v&&av x
 | .bin op a b,N,sc,J=>onQ (biP J) λq=>q.2.1==ur op&&chk T a N sc q.1&&chk T b N sc q.2.2.1
 | .neg _,_,_,_=>false
 | .not a,N,sc,J=>onQ (unP J) λq=>q.1==.Not&&chk T a N sc q.2.1
 | .and a b,N,sc,J=>onQ (boP J) λq=>q.1==.And&&EJ (λe=>chk T a N sc e) (λe=>chk T b N sc e) .And q.2.2 q.2.1
 | .or a b,N,sc,J=>onQ (boP J) λq=>q.1==.Or&&EJ (λe=>chk T a N sc e) (λe=>chk T b N sc e) .Or q.2.2 q.2.1
 | .ite c a b,N,sc,J=>onQ (ifP J) λq=>chk T c N sc q.1&&chk T a N sc q.2.1&&chk T b N sc q.2.2.1&&!aM a&&!aM b
 | .cmp op a b,N,sc,J=>onQ (EE J) λq=>q.2.1==zf op&&chk T a N sc q.1&&chk T b N sc q.2.2&&!behindInMarks q.2.1 q.2.2
 | .chain _ _ _ _ _,_,_,_=>false
 | .tup es,N,sc,J=>onQ (tuP J) λq=>chks T es N sc q.1&&es.all (λe=>!aM e)
 | .lst es,N,sc,J=>onQ (liP J) λq=>chks T es N sc q.1&&es.all (λe=>!aM e)
 | .idx a i,N,sc,J=>onQ (suP J) λq=>chk T a N sc q.1&&chk T i N sc q.2.1&&ca q.2.1
 | .slice a lo hi,N,sc,J=>onQ (Hl J) λq=>chk T a N sc q.1&&qv (λe=>chk T lo N sc e) (jL lo) q.2.1&&qv (λe=>chk T hi N sc e) (jL hi) q.2.2
 | .blt b es,N,sc,J=>onQ (rZ J) λq=>q.1==(r9 b:Str)&&glB sc q.1&&mh sc (λxs=>chks T es N sc xs) es.length b q.2
 | .call f es,N,sc,J=>onQ (rZ J) λq=>T.fs[f]?==some q.1&&glB sc q.1&&av q.1&&chks T es N sc q.2
 | .callD _ _ _,_,_,_=>false
 | .comp k src js cond elt,N,sc,J=>onQ (lcX J) λq=>fI sc N q.2.1 q.2.2.1.1 (dN N js) js&&ng sc false (λxs=>chks T src N sc xs) k q.2.2.2.1&&sa (λc=>chk T cond (q.2.2.1.1::dN N js) (l0 q.2.1 sc) c) cond q.2.2.2.2&&chk T elt (q.2.2.1.1::dN N js) (l0 q.2.1 sc) q.1&&!aM elt
 | .dget a k d,N,sc,J=>onQ (maP J) λc=>onQ (y0 c.2.2.2.1) λz=>c.2.1==("get":Str)&&pB c.1&&c.2.2.1.endLine==c.2.2.2.2.line&&chk T a N sc c.1&&chk T k N sc z.1&&chk T d N sc z.2&&ag z.1&&ag z.2
 | .dat a k,N,sc,J=>onQ (suP J) λq=>chk T a N sc q.1&&chk T k N sc q.2.1&&ca q.2.1
 | .dIn neg k a,N,sc,J=>onQ (EE J) λq=>q.2.1==(if neg=true then CmpOp.NotIn else CmpOp.In)&&chk T k N sc q.1&&chk T a N sc q.2.2&&!behindInMarks q.2.1 q.2.2
 | .indexOf i e,N,sc,J=>onQ (ixQ J) λq=>aV N sc i q.1&&q.2.1==("index":Str)&&chk T e N sc q.2.2.1&&ag q.2.2.1&&q.2.2.2.1.endLine==q.2.2.2.2.line
 | .disp kvs e,N,sc,J=>onQ (zg J) λq=>sd kvs q.1 q.2.1&&chk T e N sc q.2.2&&ca q.2.2&&decide (kvs.length<=15)&&!kvs.isEmpty
 | .lenP i,N,sc,J=>onQ (De J) λq=>q.1==("len":Str)&&glB sc q.1&&aV N sc i q.2
noncomputable def chks(T:Tab):List ME->List Str->Scope->List Expr->Bool
 | [],_,_,[]=>true
 |m::ms,N,sc,e::es=>chk T m N sc e&&ag e&&chks T ms N sc es
 | _,_,_,_=>false
end
def j_(h:chk T (.bor i) N sc e=true):∃x p,e=.Name x p/\aV N sc i x=true:=by
 replace h:=ak h
 obtain⟨x,h1,h⟩:=h;exact⟨x.1,x.2,dO h1,h⟩
def cb(h:chks T (m::ms) N sc (e::es)=true):(chk T m N sc e=true/\ag e=true)/\chks T ms N sc es=true:=by
 obtain⟨a,b⟩:=gQ.mp h;exact⟨gQ.mp a,b⟩
def k7{cond elt:ME}(h:chk T (.comp z src js cond elt) N sc J=true):∃e x px it ifs scope pos,J=.ListComp e [⟨.Name x px,it,ifs,0⟩] scope pos /\
  (fI sc N scope x (dN N js) js&&ng sc false (λxs=>chks T src N sc xs) z it&&sa (λc=>chk T cond (x::dN N js) (l0 scope sc) c) cond ifs&&chk T elt (x::dN N js) (l0 scope sc) e&&!aM elt)=true:=by
 replace h:=ak h
 obtain⟨q,w,h⟩:=h;obtain⟨pos,rfl⟩:=zd w;exact⟨_,_,_,_,_,_,_,rfl,h⟩
def nh(h:aM m=true):∃i,m=.bor i:=by
 cases m<;>first|(cases h;done)|exact⟨_,rfl⟩
noncomputable def iQ:ME->Bool
 | .lst _=>true
 | .comp ..=>true
 | .blt .listOf _=>true
 | .blt .sorted _=>true
 | .blt .sortedSet _=>true
 | .blt .sortedKeys _=>true
 | .blt .valuesOf _=>true
 | _=>false
noncomputable def Dg(sc:Scope)(t:Str)(tpos:Pos)(e:Expr):Bool:=onQ (lcP e) λq=>sc.names.lookup t==some .local&&tpos.line==q.2.2.2.line&&!(q.2.2.1.names.any λ(n,k)=>n==t&&(k==.local||k==.cell))
noncomputable def pC(sc:Scope)(t:Str)(tpos:Pos)(v:Expr)(e:ME):Bool:=Dg sc t tpos v
noncomputable def dY(N:List Str)(sc:Scope):List Nat->List Expr->Bool
 | [],[]=>true
 |i::is,.Name x _::es=>N[i]?==some x&&fC sc x&&av x&&dY N sc is es
 | _,_=>false
def qw(N)(sc)(i)(is)(x)(p)(es):dY N sc (i::is) (.Name x p::es)=(N[i]?==some x&&fC sc x&&av x&&dY N sc is es):=rfl
noncomputable def jM:List Bool->List ME->Bool
 | [],[]=>true
 |true::bs,e::es=>aM e&&jM bs es
 |false::bs,_::es=>jM bs es
 | _,_=>false
noncomputable def fj:List Bool->List ME->List Nat
 |true::bs,.bor i::es=>i::fj bs es
 | _::bs,_::es=>fj bs es
 | _,_=>[]
noncomputable def fJ(T:Tab)(f:Nat)(mask:List Bool)(es:List ME)(N:List Str)(sc:Scope)(x:Expr):Bool:=onQ (rZ x) λc=>T.fs[f]?==some c.1&&glB sc c.1&&av c.1&&chks T es N sc c.2&&jM mask es&&decide (fj mask es).Nodup&&!c.2.isEmpty
def ni(h:fJ T f mask es N sc e=true):∃g p args cp,e=.Call (.Name g p) args [] cp/\(T.fs[f]?==some g&&glB sc g&&av g&&chks T es N sc args&&jM mask es&&decide (fj mask es).Nodup&&!args.isEmpty)=true:=by
 replace h:=ak h
 obtain⟨c,w,h⟩:=h;obtain⟨p,cp,rfl⟩:=fH w;exact⟨c.1,p,c.2,cp,rfl,h⟩
noncomputable def Ho(e:Expr):Option (Expr×Expr):=(biP e).bind λc=>okQ (c.2.1==.Add) (c.1,c.2.2.1)
def BX(h:Ho e=some q):∃pos,e=.BinOp q.1 .Add q.2 pos:=by
 obtain⟨c,h1,h⟩:=bK h;obtain⟨h2,rfl⟩:=jJ h;exact⟨c.2.2.2,by rw[qr h1,eq_of_beq h2]⟩
noncomputable def Hq(e:Expr):Option (Expr×Expr):=(tuP e).bind λc=>y0 c.1
def BY(h:Hq e=some q):∃j pos,e=.Tuple [q.1,q.2] j pos:=by
 obtain⟨c,h1,h⟩:=bK h;exact⟨c.2.1,c.2.2,by rw[uq h1,mf h]⟩
noncomputable def uv:ME->Bool
 | .cst .non=>true
 | _=>false
noncomputable def zi(T:Tab)(k:SK)(e:ME)(f:Nat)(mask:List Bool)(es:List ME)(N:List Str)(sc:Scope)(x:Expr):Bool:=match k with
 | .one=>uv e&&fJ T f mask es N sc x
 | .cat=>match Ho x with|some q=>chk T e N sc q.1&&!aM e&&fJ T f mask es N sc q.2|none=>false
 | .pair=>match Hq x with|some q=>chk T e N sc q.1&&!aM e&&ag q.1&&fJ T f mask es N sc q.2|none=>false
noncomputable def zj(e:Expr):Option (Expr×Scope×Str×Expr):=(lcX e).bind λc=>okQ c.2.2.2.2.isEmpty (c.1,c.2.1,c.2.2.1.1,c.2.2.2.1)
def zk(h:zj e=some q):∃z pos,e=.ListComp q.1 [⟨.Name q.2.2.1 z,q.2.2.2,[],0⟩] q.2.1 pos:=by
 obtain⟨c,h1,h⟩:=bK h;obtain⟨h2,rfl⟩:=jJ h;obtain⟨pos,rfl⟩:=zd h1;exact⟨_,pos,by rw[Lx.mp h2]⟩
noncomputable def EL(e:Expr):Option (Str×Str×Expr):=(r6 e).bind λc=>(r6 c.2).bind λd=>some (c.1,d.1,d.2)
def BZ(h:EL e=some q):∃p p2 pos2 pos,e=.Call (.Name q.1 p) [.Call (.Name q.2.1 p2) [q.2.2] [] pos2] [] pos:=by
 obtain⟨c,h1,h⟩:=bK h;obtain⟨d,h2,h⟩:=bK h;cases h;obtain⟨p,pos,rfl⟩:=hZ h1;obtain⟨p2,pos2,e⟩:=hZ h2;exact⟨p,p2,pos2,pos,by rw[e]⟩
noncomputable def EM(e:Expr):Option (Str×Str×Pos×Pos):=(maN e).bind λa=>okQ a.2.2.2.1.isEmpty (a.1,a.2.1,a.2.2.1,a.2.2.2.2)
def B0(h:EM e=some q):∃p,e=.Call (.Attribute (.Name q.1 p) q.2.1 q.2.2.1) [] [] q.2.2.2:=by
 obtain⟨x,h1,h⟩:=bK h;obtain⟨h2,rfl⟩:=jJ h;obtain⟨p,rfl⟩:=zc h1;exact⟨p,by rw[Lx.mp h2]⟩
noncomputable def EN(e:Expr):Option (Expr×Operator×Expr):=(biP e).bind λc=>some (c.1,c.2.1,c.2.2.1)
def B1(h:EN e=some q):∃pos,e=.BinOp q.1 q.2.1 q.2.2 pos:=by
 obtain⟨c,h1,h⟩:=bK h;cases h;exact⟨c.2.2.2,qr h1⟩
noncomputable def fnQ(e:Expr):Option (Str×Expr×List Expr):=(rZ e).bind λc=>(hdQ c.2).bind λa=>some (c.1,a.1,a.2)
def uA(h:fnQ e=some q):∃p pos,e=.Call (.Name q.1 p) (q.2.1::q.2.2) [] pos:=by
 obtain⟨c,h1,h⟩:=bK h;obtain⟨a,h2,h⟩:=bK h;cases h;obtain⟨p,pos,rfl⟩:=fH h1;exact⟨p,pos,by rw[EI h2]⟩
noncomputable def EO(e:Expr):Option (List Expr):=(tuP e).bind λc=>some c.1
def B2(h:EO e=some q):∃j pos,e=.Tuple q j pos:=by
 obtain⟨c,h1,h⟩:=bK h;cases h;exact⟨c.2.1,c.2.2,uq h1⟩
noncomputable def EQ(e:Expr):Option (List Expr):=(liP e).bind λc=>some c.1
def B3(h:EQ e=some q):∃pos,e=.List q pos:=by
 obtain⟨c,h1,h⟩:=bK h;cases h;exact⟨c.2,qt h1⟩
noncomputable def ER(e:Expr):Option (Str×Expr×Expr):=(rZ e).bind λc=>(y0 c.2).bind λa=>some (c.1,a.1,a.2)
def B4(h:ER e=some q):∃p pos,e=.Call (.Name q.1 p) [q.2.1,q.2.2] [] pos:=by
 obtain⟨c,h1,h⟩:=bK h;obtain⟨a,h2,h⟩:=bK h;cases h;obtain⟨p,pos,rfl⟩:=fH h1;exact⟨p,pos,by rw[mf h2]⟩
mutual
noncomputable def dk(T:Tab):XE->List Str->Scope->Expr->Bool
 | .pure e,N,sc,x=>chk T e N sc x&&!aM e&&bV x
 | .call f mask es,N,sc,x=>fJ T f mask es N sc x
 | .pop i,N,sc,x=>onQ (EM x) λq=>aV N sc i q.1&&q.2.1==("pop":Str)&&q.2.2.1.endLine==q.2.2.2.line
 | .bin op a b,N,sc,x=>onQ (EN x) λq=>q.2.1==ur op&&dk T a N sc q.1&&chk T b N sc q.2.2
 | .fn g a es,N,sc,x=>onQ (fnQ x) λq=>T.fs[g]?==some q.1&&glB sc q.1&&av q.1&&dk T a N sc q.2.1&&ag q.2.1&&chks T es N sc q.2.2
 | .tup xs,N,sc,x=>onQ (EO x) λq=>chkXEs T xs N sc q
 | .lst xs,N,sc,x=>onQ (EQ x) λq=>chkXEs T xs N sc q
 | .fn2 g e a,N,sc,x=>onQ (ER x) λq=>T.fs[g]?==some q.1&&glB sc q.1&&av q.1&&chk T e N sc q.2.1&&!aM e&&ag q.2.1&&dk T a N sc q.2.2&&ag q.2.2
 | .tupOf a,N,sc,x=>onQ (fnQ x) λq=>q.1==("tuple":Str)&&glB sc q.1&&q.2.2.isEmpty&&dk T a N sc q.2.1&&ag q.2.1
 | .compS src js k e f mask es,N,sc,x=>onQ (zj x) λc=>fI sc N c.2.1 c.2.2.1 (dN N js) js&&ng sc false (λxs=>chks T [src] N sc xs) .seq c.2.2.2&&!aM src&&zi T k e f mask es (c.2.2.1::dN N js) (l0 c.2.1 sc) c.1&&decide js.Nodup
noncomputable def chkXEs(T:Tab):List XE->List Str->Scope->List Expr->Bool
 | [],_,_,[]=>true
 |x::xs,N,sc,e::es=>dk T x N sc e&&ag e&&chkXEs T xs N sc es
 | _,_,_,_=>false
end
noncomputable def oS(s:Stmt):Option (Str×Pos×Expr):=(asP s).bind λc=>(jK c.1).bind λu=>(nmP u).bind λx=>some (x.1,x.2,c.2.1)
def i9(h:oS s=some q):∃pos,s=.Assign [.Name q.1 q.2.1] q.2.2 pos:=by
 obtain⟨c,h1,h⟩:=bK h;obtain⟨u,h2,h⟩:=bK h;obtain⟨x,z,h⟩:=bK h;cases h;exact⟨c.2.2,by rw[zb h1,cN h2,dO z]⟩
noncomputable def zl(s:Stmt):Option (Str×Str×Pos×List Expr×Pos):=(exP s).bind λa=>maN a.1
def qx(h:zl s=some q):∃p pos,s=.Expr (.Call (.Attribute (.Name q.1 p) q.2.1 q.2.2.1) q.2.2.2.1 [] q.2.2.2.2) pos:=by
 obtain⟨x,h1,h⟩:=bK h;obtain⟨p,e⟩:=zc h;exact⟨p,x.2,by rw[EF h1,e]⟩
noncomputable def Hr(s:Stmt):Option (Str×Expr×Expr):=(asP s).bind λc=>(jK c.1).bind λu=>(suP u).bind λw=>(nmP w.1).bind λx=>some (x.1,w.2.1,c.2.1)
def B5(h:Hr s=some q):∃p sp pos,s=.Assign [.Subscript (.Name q.1 p) q.2.1 sp] q.2.2 pos:=by
 refine aE λY z=>?_
 obtain⟨c,h1,h⟩:=bK h;obtain⟨u,h2,h⟩:=bK h;obtain⟨w,J,h⟩:=bK h;obtain⟨x,U,h⟩:=bK h;cases h;refine z ?_;exact⟨x.2,w.2.2,c.2.2,by rw[zb h1,cN h2,nc J,dO U]⟩
noncomputable def w5(s:Stmt):Option (Expr):=(reP s).bind λc=>c.1
def mi(h:w5 s=some v):∃pos,s=.Return (some v) pos:=by
 obtain⟨c,h1,h⟩:=bK h;exact⟨c.2,by rw[EG h1,h]⟩
noncomputable def Dh(e:Expr):Option (Str):=(nmP e).bind λx=>some x.1
def zm(h:Dh e=some x):∃p,e=.Name x p:=by
 obtain⟨x,h1,h⟩:=bK h;cases h;exact⟨x.2,dO h1⟩
noncomputable def Di(e:Expr):Bool:=onQ (diP e) λd=>d.1.isEmpty&&d.2.1.isEmpty
def zn(h:Di e=true):∃p,e=.Dict [] [] p:=by
 replace h:=ak h
 obtain⟨d,h1,h⟩:=h;obtain⟨h2,z⟩:=gQ.mp h;exact⟨d.2.2,by rw[ze h1,Lx.mp h2,Lx.mp z]⟩
mutual
noncomputable def gJ(T:Tab)(N:List Str)(sc:Scope):MS->Stmt->Bool
 | .set i e,s0=>onQ (oS s0) λq=>N[i]?==some q.1&&fC sc q.1&&av q.1&&chk T e N sc q.2.2&&!aM e&&(bV q.2.2||pC sc q.1 q.2.1 q.2.2 e)
 | .setOwn i e,s0=>onQ (oS s0) λq=>N[i]?==some q.1&&fC sc q.1&&av q.1&&chk T e N sc q.2.2&&iQ e&&(bV q.2.2||pC sc q.1 q.2.1 q.2.2 e)
 | .append i e,s0=>onQ (zl s0) λq=>onQ (jK q.2.2.2.1) λv=>aV N sc i q.1&&q.2.1==("append":Str)&&chk T e N sc v&&!aM e&&ag v&&q.2.2.1.endLine==q.2.2.2.2.line
 | .extend i e,s0=>onQ (zl s0) λq=>onQ (jK q.2.2.2.1) λv=>aV N sc i q.1&&q.2.1==("extend":Str)&&chk T e N sc v&&ag v&&q.2.2.1.endLine==q.2.2.2.2.line
 | .setIdx _ _ _,_=>false
 | .unpack _ _,_=>false
 | .ite c a b,s0=>(match s0 with|.If t x y _=>chk T c N sc t&&chkSs T N sc a x&&chkSs T N sc b y|_=>false)
 | .for1 i k src body,s0=>(match s0 with|.For (.Name x _) it b [] _=>N[i]?==some x&&fC sc x&&av x&&ng sc false (λxs=>chks T src N sc xs) k it&&chkSs T N sc body b|_=>false)
 | .forT is k src body,s0=>(match s0 with|.For (.Tuple z _ _) it b [] _=>dY N sc is z&&ng sc true (λxs=>chks T src N sc xs) k it&&chkSs T N sc body b|_=>false)
 | .ret e,s0=>onQ (w5 s0) λv=>chk T e N sc v&&!aM e
 | .retOwn i,s0=>onQ (w5 s0) λv=>onQ (Dh v) λx=>aV N sc i x
 | .retM e,s0=>onQ (w5 s0) λv=>chk T e N sc v&&!aM e
 | .setP i e,s0=>onQ (oS s0) λq=>N[i]?==some q.1&&fC sc q.1&&av q.1&&onQ (EL q.2.2) λr=>r.1==("list":Str)&&r.2.1==("reversed":Str)&&glB sc r.1&&glB sc r.2.1&&chk T e N sc r.2.2&&ag r.2.2
 | .setX i x,s0=>onQ (oS s0) λq=>N[i]?==some q.1&&fC sc q.1&&av q.1&&dk T x N sc q.2.2&&bV q.2.2
 | .ownX i xs,s0=>onQ (oS s0) λq=>onQ (liP q.2.2) λr=>N[i]?==some q.1&&fC sc q.1&&chkXEs T xs N sc r.1
 | .appX i x,s0=>onQ (zl s0) λq=>onQ (jK q.2.2.2.1) λv=>aV N sc i q.1&&q.2.1==("append":Str)&&dk T x N sc v&&ag v&&q.2.2.1.endLine==q.2.2.2.2.line
 | .retXE x,s0=>onQ (w5 s0) λv=>dk T x N sc v
 | .forX i x body,s0=>(match s0 with|.For (.Name y _) it b [] _=>N[i]?==some y&&fC sc y&&av y&&onQ (fnQ it) (λq=>q.1==("range":Str)&&glB sc q.1&&q.2.2.isEmpty&&dk T x N sc q.2.1&&ag q.2.1)&&chkSs T N sc body b|_=>false)
 | .never,_=>true
 | .newD _ i,s0=>onQ (oS s0) λq=>Di q.2.2&&(N[i]?==some q.1&&fC sc q.1&&av q.1)
 | .dput i k e,s0=>onQ (Hr s0) λq=>aV N sc i q.1&&chk T k N sc q.2.1&&ca q.2.1&&chk T e N sc q.2.2&&!aM e&&bV q.2.2
 | _,_=>false
noncomputable def chkSs(T:Tab)(N:List Str)(sc:Scope):List MS->List Stmt->Bool
 | [],[]=>true
 | .freeze _::_,_=>false
 |m::ms,s::ss=>gJ T N sc m s&&chkSs T N sc ms ss
 | _,_=>false
end
def B6 (T) (N) (sc) (i) (x) (body) (s0):gJ T N sc (.forX i x body) s0=(match s0 with|.For (.Name y _) it b [] _=>N[i]?==some y&&fC sc y&&av y&&onQ (fnQ it) (λq=>q.1==("range":Str)&&glB sc q.1&&q.2.2.isEmpty&&dk T x N sc q.2.1&&ag q.2.1)&&chkSs T N sc body b|_=>false):=rfl
def B7(T)(N)(sc)(i)(k)(src)(body)(s0):gJ T N sc (.for1 i k src body) s0=(match s0 with|.For (.Name x _) it b [] _=>N[i]?==some x&&fC sc x&&av x&&ng sc false (λxs=>chks T src N sc xs) k it&&chkSs T N sc body b|_=>false):=rfl
def B8(T)(N)(sc)(is)(k)(src)(body)(s0):gJ T N sc (.forT is k src body) s0=(match s0 with|.For (.Tuple z _ _) it b [] _=>dY N sc is z&&ng sc true (λxs=>chks T src N sc xs) k it&&chkSs T N sc body b|_=>false):=rfl
theorem nj(z:∀x b,f x x=some b->b=true):∀xs {b},eqL f xs xs=some b->b=true
 | [],b,h=>by simp[eqL]at h;exact h
 |x::xs,b,h=>by
  simp only[eqL,gf,pe]at h;obtain⟨p,h1,q,h2,rfl⟩:=h;rw[z x p h1,nj z xs h2];rfl
theorem kd:∀(n:Nat) (x:PV) {b:Bool},eqF n x x=some b->b=true
 |n,.non,b,h=>by cases n<;>cases h<;>rfl
 |n,.bl x,b,h=>by cases n<;>cases h<;>exact K5 x
 |n,.int x,b,h=>by cases n<;>cases h<;>exact K5 x
 |n,.str x,b,h=>by cases n<;>cases h<;>exact K5 x
 |0,.tup _,b,h=>by cases h
 |0,.lst _,b,h=>by cases h
 |n+1,.tup xs,b,h=>nj (λx b=>kd n x) xs h
 |n+1,.lst xs,b,h=>nj (λx b=>kd n x) xs ((if_pos rfl).symm.trans h)
 |n,.dI _,b,h=>by cases n<;>cases h
def f_{n:Nat}{x y:PV}{b:Bool}(h:eqF n x y=some b):isD x=false/\isD y=false:=by
 cases x<;>cases y<;>first|exact⟨rfl,rfl⟩|(cases n<;>cases h)
noncomputable def ES:PV->Bool
 | .tup _=>true
 | .lst _=>true
 | _=>false
def fK{n:Nat}{x y:PV}{b:Bool}(h:eqF n x y=some b)(e:ES x=!ES y):b=false:=by
 cases x<;>cases y<;>first|(cases e;done)|(cases n<;>cases h<;>rfl)
theorem ke :∀xs ys {b},eqL f xs ys=some b ->
  (∀(j:Nat) x y,xs[j]?=some x->ys[j]?=some y->∃c,f x y=some c) /\
   b=((range (min xs.length ys.length)).all (λj=>(f (xs.getD j .non) (ys.getD j .non)).getD false)&&xs.length==ys.length)
 | [],[],b,h=>by simp[eqL]at h;subst h;simp
 | [],y::ys,b,h=>by simp[eqL]at h;subst h;simp
 |x::xs,[],b,h=>by simp[eqL]at h;subst h;simp
 |x::xs,y::ys,b,h=>by
  simp only[eqL,gf,pe]at h;obtain⟨p,h1,q,h2,rfl⟩:=h;obtain⟨z,J⟩:=ke xs ys h2;refine⟨λj Z y' U Y=>?_,?_⟩
  .cases j with
   |zero=>simp at U Y;subst U Y;exact⟨p,h1⟩
   |succ j=>exact z j Z y' (by simpa using U) (by simpa using Y)
  .rw[J];have hm:min (x::xs).length (y::ys).length=min xs.length ys.length+1:=by simp only[length_cons];omega
   rw[hm,range_succ_eq_map,all_cons,MA];have hl:((x::xs).length==(y::ys).length)=(xs.length==ys.length):=by
    simp_all
   rw[hl,Bool.and_assoc];simp only[getD_cons_zero,h1,getD_some,Function.comp_def,getD_cons_succ]
theorem vM :∀xs {b},inL f xs=some b->(∀x∈xs,∃c,f x=some c)/\b=xs.any λx=>(f x).getD false
 | [],b,h=>by simp[inL]at h;subst h;simp
 |x::xs,b,h=>by
  simp only[inL,gf,pe]at h;obtain⟨p,h1,q,h2,rfl⟩:=h;obtain⟨z,U⟩:=vM xs h2;refine⟨λy J=>?_,?_⟩
  .rcases JY.mp J with rfl|J
   .exact⟨p,h1⟩
   .exact z y J
  .simp_all
section
variable{X:Cx}{pins:List (Addr×Obj)}{σ:St}{H:Hp}{s:Shared}
def se(I:Inv X pins σ H s)(h1:SqL X.K H a xs)(h2:SqT X.K H a ys):False:=by
 obtain⟨its,_,p,_⟩:=I.list h1;obtain⟨z,_,q,_⟩:=I.tuple h2;exact SeqAt.ne_of_list_tuple p.isList (show s.heap.IsTuple a z.toArray from q) rfl
def qy(h:RdD H a d):IsD H a:=by
 cases d<;>first|exact .inl ⟨_,h.rd⟩|exact .inr ⟨_,h.rd⟩|exact absurd h.2 oe
def mj(I:Inv X pins σ H s)(h1:SqL X.K H a xs\/SqT X.K H a xs)(h2:RdD H a d):False:=by
 obtain⟨o,ho,hc⟩:=(t7 I (qy h2)).1;rcases h1 with h1|h1
 .obtain⟨its,_,p,_⟩:=I.list h1;obtain⟨o',z,J,_⟩:=p.isList;rw[ho]at z;cases z;rw[hc]at J;exact absurd J (by decide)
 .obtain⟨its,_,⟨o',z,J,_⟩,_⟩:=I.tuple h1;rw[ho]at z;cases z;rw[hc]at J;exact absurd J (by decide)
def Sc.v_inj:∀{a b:Sc},a.v=b.v->a=b:=by
 intro a b h;cases a<;>cases b<;>simp[Sc.v]at h ⊢<;>exact h
theorem sf:∀{a b},gI a=gI b->a=b
 | [],[],_=>rfl
 | [],_::_,h=>by cases h
 | _::_,[],h=>by cases h
 | (k,v)::a,(J,U)::b,h=>by
  simp[gI,JW,Prod.mk.injEq]at h;obtain⟨⟨h1,h2⟩,z⟩:=h;rw[h1,Sc.v_inj h2,sf z]
theorem ml:∀{a b:List Int},(a.map Sum.inl:List Key)=b.map Sum.inl->a=b
 | [],[],_=>rfl
 | [],_::_,h=>by cases h
 | _::_,[],h=>by cases h
 |x::a,y::b,h=>by
  simp[Ma]at h;rw[h.1,ml h.2]
theorem sg:∀{a b},jI a=jI b->a=b
 | [],[],_=>rfl
 | [],_::_,h=>by cases h
 | _::_,[],h=>by cases h
 | (k,v)::a,(J,U)::b,h=>by
  simp[jI,JW]at h;obtain⟨⟨h1,h2⟩,z⟩:=h;rw[ml h1,Sc.v_inj h2,sg z]
theorem nk:∀{a b:List Int},a.map V.int=b.map V.int->a=b
 | [],[],_=>rfl
 | [],_::_,h=>by cases h
 | _::_,[],h=>by cases h
 |x::a,y::b,h=>by
  simp only[JW,Ma]at h;rw[V.int.inj h.1,nk h.2]
def sh(h:iO a=iO b):a=b:=by
 cases a<;>cases b<;>first
  | (cases h;done)
  | (rw[sf (HO.dK.inj h)];done)
  | (rw[sg (HO.dT.inj h)];done)
  | rw[nk (HO.lst.inj h)]
def ET(h:RdD H a x)(g:RdD H a y):x=y:=by
 have h:=h.rd;have g:=g.rd;have ne:∀x o u,iO x≠.frz o u:=λx o u e=>by cases x<;>cases e
 rcases h with h|⟨o,h⟩<;>rcases g with g|⟨o',g⟩
 .rw[h]at g;exact sh (J3 g)
 .rw[h]at g;exact absurd (J3 g) (ne x _ _)
 .simp_all
 .rw[h]at g;exact sh (HO.frz.inj (J3 g)).2
mutual
theorem mn(I:Inv X pins σ H s):∀(x y:PV) {u:V},Rep X.K H x u->Rep X.K H y u->x=y
 | .non,y,u,h,g=>by rw[Rep]at h;subst h;cases y<;>simp[Rep]at g ⊢
 | .bl b,y,u,h,g=>by rw[Rep]at h;subst h;cases y<;>simp[Rep]at g ⊢;exact g
 | .int b,y,u,h,g=>by rw[Rep]at h;subst h;cases y<;>simp[Rep]at g ⊢;exact g
 | .str b,y,u,h,g=>by rw[Rep]at h;subst h;cases y<;>simp[Rep]at g ⊢;exact g
 | .tup xs,y,u,h,g=>by
  rw[Rep]at h;obtain⟨a,us,rfl,q,r⟩:=h;cases y with
  |tup ys =>
   rw[Rep]at g;obtain⟨b,vs,e,z,J⟩:=g;cases e;have:=I.tuple_inj (eE q) (eE z);subst this;rw[reps_inj I xs ys r J]
  |lst ys =>
   rw[Rep]at g;obtain⟨b,vs,e,z,J⟩:=g;cases e;exact(se I z (eE q)).elim
  |dI kvs =>
   rw[Rep]at g;obtain⟨b,e,z⟩:=g;cases e;exact(mj I (.inr (eE q)) z).elim
  | _=>simp[Rep]at g
 | .lst xs,y,u,h,g=>by
  rw[Rep]at h;obtain⟨a,us,rfl,q,r⟩:=h;cases y with
  |lst ys =>
   rw[Rep]at g;obtain⟨b,vs,e,z,J⟩:=g;cases e;have:=I.list_inj q z;subst this;rw[reps_inj I xs ys r J]
  |tup ys =>
   rw[Rep]at g;obtain⟨b,vs,e,z,J⟩:=g;cases e;exact(se I q (eE z)).elim
  |dI kvs =>
   rw[Rep]at g;obtain⟨b,e,z⟩:=g;cases e;exact(mj I (.inl q) z).elim
  | _=>simp[Rep]at g
 | .dI kvs,y,u,h,g=>by
  rw[Rep]at h;obtain⟨a,rfl,q⟩:=h;cases y with
  |dI ks =>
   rw[Rep]at g;obtain⟨b,e,z⟩:=g;cases e;rw[ET q z]
  |tup ys =>
   rw[Rep]at g;obtain⟨b,vs,e,z,J⟩:=g;cases e;exact(mj I (.inr (eE z)) q).elim
  |lst ys =>
   rw[Rep]at g;obtain⟨b,vs,e,z,J⟩:=g;cases e;exact(mj I (.inl z) q).elim
  | _=>simp[Rep]at g
theorem reps_inj(I:Inv X pins σ H s):∀(xs ys:List PV) {us:List V},Reps X.K H xs us->Reps X.K H ys us->xs=ys
 | [],ys,us,h,g=>by
  rw[Reps]at h;subst h
  cases ys with
  |nil=>rfl
  |cons y ys=>rw[Reps]at g;obtain⟨_,_,e,_⟩:=g;cases e
 |x::xs,ys,us,h,g=>by
  rw[Reps]at h;obtain⟨u,r,rfl,q,t⟩:=h;cases ys with
  |nil=>rw[Reps]at g;cases g
  |cons y ys =>
   rw[Reps]at g;obtain⟨J,U,e,z,t'⟩:=g;cases e;rw[mn I x y q z,reps_inj I xs ys t t']
end
def Rep.tupAt(I:Inv X pins σ H s)(h:Rep X.K H (.tup xs) u)(r:aI u v) :
  ∃a us its,u=.ref a/\v=.ref a/\Reps X.K H xs us/\aL us its/\s.heap.IsTuple a its.toArray/\xs.length=its.length:=by
 obtain⟨a,us,rfl,q,t⟩:=h;obtain⟨its,z,p,_⟩:=I.tuple (eE q);exact⟨a,us,its,rfl,r,t,z,p,t.length.trans z.length⟩
def Rep.lstAt(I:Inv X pins σ H s)(h:Rep X.K H (.lst xs) u)(r:aI u v) :
  ∃a us its,u=.ref a/\v=.ref a/\Reps X.K H xs us/\aL us its/\s.heap.IsList a its.toArray/\xs.length=its.length:=by
 obtain⟨a,us,rfl,q,t⟩:=h;obtain⟨its,z,p,_⟩:=I.list q;exact⟨a,us,its,rfl,r,t,z,p.isList,t.length.trans z.length⟩
def kf{A:Around}(ih:∀x y {Y Z}{J U}{b}{A},A.units+n<cLine->eqF n x y=some b->Rep X.K H x Y->Rep X.K H y Z->aI Y J->aI Z U->SeqAt.EqAt A s J U b)
  (hu:A.units+(n+1)<cLine) (rx:Reps X.K H xs us) (ry:Reps X.K H ys ws) (J:aL us its) (U:aL ws z)
  (hs:∀(j:Nat) x y,xs[j]?=some x->ys[j]?=some y->∃c,eqF n x y=some c) :
  ∀j (h1:j<its.toArray.size) (h2:j<z.toArray.size),SeqAt.EqAt A.in1 s its.toArray[j] z.toArray[j] ((eqF n (xs.getD j .non) (ys.getD j .non)).getD false):=λj h1 h2=>by
 refine aE λZq kq=>?_
 have l1:=rx.length.trans J.length;have l2:=ry.length.trans U.length;simp[ro]at h1 h2;have e1:xs[j]?=some xs[j]:=J4 (by omega);have e2:ys[j]?=some ys[j]:=J4 (by omega);obtain⟨Y,q1,p1⟩:=rx.get e1;obtain⟨Z,q2,p2⟩:=ry.get e2;obtain⟨wx,q3,p3⟩:=J.get q1;obtain⟨wy,q4,p4⟩:=U.get q2;obtain⟨c,hc⟩:=hs j _ _ e1 e2;have d1:xs.getD j .non=xs[j]:=by simp[List.getD,e1]
 have d2:ys.getD j .non=ys[j]:=by simp[List.getD,e2]
 have g1:its.toArray[j]=wx:=by
  simp_all
 have g2:z.toArray[j]=wy:=by
  simp_all
 refine kq ?_;rw[d1,d2,hc,g1,g2];exact ih _ _ (show A.units+1+n<cLine by omega) hc p1 p2 p3 p4
def B9{A:Around}{n:Nat}(I:Inv X pins σ H s)(ih:∀(x y:PV) {z J:V}{U Y:Value}{b:Bool}{A:Around},A.units+n<cLine->eqF n x y=some b->Rep X.K H x z->Rep X.K H y J->aI z U->aI J Y->SeqAt.EqAt A s U Y b)
  (hu:A.units+(n+1)<cLine):(∀{xs ys:List PV}{z J:V}{U Y:Value}{b:Bool},eqF (n+1) (.tup xs) (.tup ys)=some b->Rep X.K H (.tup xs) z->Rep X.K H (.tup ys) J->aI z U->aI J Y->SeqAt.RcAt A s U Y b) /\
   (∀{xs ys:List PV}{z J:V}{U Y:Value}{b:Bool},eqF (n+1) (.lst xs) (.lst ys)=some b->Rep X.K H (.lst xs) z->Rep X.K H (.lst ys) J->aI z U->aI J Y->SeqAt.RcAt A s U Y b):=by
 refine⟨λ{xs ys z J U Y b} h rx ry r1 r2=>?_,λ{xs ys z J U Y b} h rx ry r1 r2=>?_⟩
 .obtain⟨a,us,its,rfl,rfl,t1,w1,p1,l1⟩:=rx.tupAt I r1;obtain⟨c,ws,Z,rfl,rfl,t2,w2,p2,l2⟩:=ry.tupAt I r2;have h:eqL (eqF n) xs ys=some b:=h;obtain⟨hs,hb⟩:=ke xs ys h;have q:=SeqAt.RcAt.tuples (A:=A) p1 p2 (by omega) (kf ih hu t1 t2 w1 w2 hs);rw[hb];simpa[l1,l2]using q
 .obtain⟨a,us,its,rfl,rfl,t1,w1,p1,l1⟩:=rx.lstAt I r1;obtain⟨c,ws,Z,rfl,rfl,t2,w2,p2,l2⟩:=ry.lstAt I r2;have h:(if xs.length=ys.length then eqL (eqF n) xs ys else some false)=some b:=h;by_cases hl:xs.length=ys.length
  .rw[if_pos hl]at h;obtain⟨hs,hb⟩:=ke xs ys h;have q:=SeqAt.RcAt.lists (A:=A) p1 p2 (by simp only[ro];omega) (by omega) (kf ih hu t1 t2 w1 w2 hs);rw[hb,hl,Nd];simpa[<- l1,hl]using q
  .rw[if_neg hl]at h;cases h;exact SeqAt.RcAt.lists_lengths (A:=A) p1 p2 (by simp only[ro,bne_iff_ne];omega) (by omega)
def cW(hd:isD x=false)(h:Rep X.K H x u):(∃xs,x=.tup xs)\/(∃xs,x=.lst xs)\/iI u=true:=by
 cases x with
 |dI _=>cases hd
 |tup xs=>exact .inl ⟨xs,rfl⟩
 |lst xs=>exact .inr (.inl ⟨xs,rfl⟩)
 | _=>rw[Rep]at h;subst h;exact .inr (.inr rfl)
def h_(z:A.units<cLine)(f:iI u=true)(r:aI u v)(p:s.heap.IsTuple a its) :
  SeqAt.EqAt A s v (.ref a) false/\SeqAt.EqAt A s (.ref a) v false/\SeqAt.RcAt A s v (.ref a) false/\SeqAt.RcAt A s (.ref a) v false:=by
 cases u with
 |non=>cases r;exact⟨.none_tuple p z,.tuple_none p z,.none_tuple p z,.tuple_none p z⟩
 |bl b=>cases r;exact⟨.bool_tuple b p z,.tuple_bool b p z,.bool_tuple b p z,.tuple_bool b p z⟩
 |int b=>obtain⟨t,rfl⟩:=r;exact⟨.int_tuple b t p z,.tuple_int b t p z,.int_tuple b t p z,.tuple_int b t p z⟩
 |str b=>obtain⟨t,rfl⟩:=r;exact⟨.str_tuple b t p z,.tuple_str b t p z,.str_tuple b t p z,.tuple_str b t p z⟩
 | _=>exact absurd (show false=true from f) oe
def i_(z:A.units<cLine)(f:iI u=true)(r:aI u v)(p:s.heap.IsList a its) :
  SeqAt.EqAt A s v (.ref a) false/\SeqAt.EqAt A s (.ref a) v false/\SeqAt.RcAt A s v (.ref a) false/\SeqAt.RcAt A s (.ref a) v false:=by
 cases u with
 |non=>cases r;exact⟨.none_list p z,.list_none p z,.none_list p z,.list_none p z⟩
 |bl b=>cases r;exact⟨.bool_list b p z,.list_bool b p z,.bool_list b p z,.list_bool b p z⟩
 |int b=>obtain⟨t,rfl⟩:=r;exact⟨.int_list b t p z,.list_int b t p z,.int_list b t p z,.list_int b t p z⟩
 |str b=>obtain⟨t,rfl⟩:=r;exact⟨.str_list b t p z,.list_str b t p z,.str_list b t p z,.list_str b t p z⟩
 | _=>exact absurd (show false=true from f) oe
def zo(J:aI y u)(z:aI x v)(Y:iI y=true)(U:iI x=true):SeqAt.RcAt A s u v (eqV y x):=by
 cases y with
 |non =>
  cases J;cases x with
  |non=>cases z;exact SeqAt.RcAt.none_none
  |bl b=>cases z;exact SeqAt.RcAt.none_bool b
  |int b=>obtain⟨t,rfl⟩:=z;exact SeqAt.RcAt.none_int b t
  |str b=>obtain⟨t,rfl⟩:=z;exact SeqAt.RcAt.none_str b t
  | _=>exact absurd (show false=true from U) oe
 |bl a =>
  cases J;cases x with
  |non=>cases z;exact SeqAt.RcAt.bool_none a
  |bl b=>cases z;exact SeqAt.RcAt.bool_bool a b
  |int b=>obtain⟨t,rfl⟩:=z;exact SeqAt.RcAt.bool_int a b t
  |str b=>obtain⟨t,rfl⟩:=z;exact SeqAt.RcAt.bool_str a b t
  | _=>exact absurd (show false=true from U) oe
 |int a =>
  obtain⟨t',rfl⟩:=J;cases x with
  |non=>cases z;exact SeqAt.RcAt.int_none a t'
  |bl b=>cases z;exact SeqAt.RcAt.int_bool a t' b
  |int b=>obtain⟨t,rfl⟩:=z;exact SeqAt.RcAt.int_int a t' b t
  |str b=>obtain⟨t,rfl⟩:=z;exact SeqAt.RcAt.int_str a t' b t
  | _=>exact absurd (show false=true from U) oe
 |str a =>
  obtain⟨t',rfl⟩:=J;cases x with
  |non=>cases z;exact SeqAt.RcAt.str_none a t'
  |bl b=>cases z;exact SeqAt.RcAt.str_bool a t' b
  |int b=>obtain⟨t,rfl⟩:=z;exact SeqAt.RcAt.str_int a t' b t
  |str b=>obtain⟨t,rfl⟩:=z;exact SeqAt.RcAt.str_str a t' b t
  | _=>exact absurd (show false=true from U) oe
 | _=>exact absurd (show false=true from Y) oe
def nl{n:Nat}{x y:PV}{u v:V}{b:Bool}(z:Rep X.K H x u)(J:Rep X.K H y v)(U:iI u=true)(Y:iI v=true)(h:eqF n x y=some b):b=eqV u v:=by
 cases x<;>cases y<;>simp only[Rep]at z J
 all_goals first
  | (obtain⟨_,_,rfl,_⟩:=z;exact absurd (show false=true from U) oe)
  | (obtain⟨_,_,rfl,_⟩:=J;exact absurd (show false=true from Y) oe)
  | (obtain⟨_,rfl,_⟩:=z;exact absurd (show false=true from U) oe)
  | (obtain⟨_,rfl,_⟩:=J;exact absurd (show false=true from Y) oe)
  | (subst z J;cases n<;>cases h<;>rfl)
def fL{y:PV}{v:V}(r:Rep X.K H y v)(f:iI v=true):ES y=false:=by
 cases y with
 |tup _=>obtain⟨_,_,rfl,_⟩:=r;cases f
 |lst _=>obtain⟨_,_,rfl,_⟩:=r;cases f
 | _=>rfl
def qz(I:Inv X pins σ H s):∀(n:Nat) (x y:PV) {ux uy:V}{vx vy:Value}{b:Bool}{A:Around},A.units+n<cLine->eqF n x y=some b->Rep X.K H x ux->Rep X.K H y uy->aI ux vx->aI uy vy ->
  SeqAt.EqAt A s vx vy b/\SeqAt.RcAt A s vx vy b:=by
 intro n
 induction n with
 |zero =>
  intro x y ux uy vx vy b A hu h rx U r1 Y;have z:A.units<cLine:=by omega
  rcases cW (f_ h).1 rx with⟨xs,rfl⟩|⟨xs,rfl⟩|fx
  .obtain⟨a,us,its,rfl,rfl,t1,w1,p1,l1⟩:=rx.tupAt I r1;rcases cW (f_ h).2 U with⟨ys,rfl⟩|⟨ys,rfl⟩|Z
   .cases h
   .obtain⟨c,ws,J,rfl,rfl,t2,w2,p2,l2⟩:=U.lstAt I Y;cases h;exact⟨.tuple_list p1 p2 z,.tuple_list p1 p2 z⟩
   .obtain⟨z1,z2,z3,z4⟩:=h_ z Z Y p1;have:b=false:=fK h (by rw[fL U Z];rfl);subst this;exact⟨z2,z4⟩
  .obtain⟨a,us,its,rfl,rfl,t1,w1,p1,l1⟩:=rx.lstAt I r1;rcases cW (f_ h).2 U with⟨ys,rfl⟩|⟨ys,rfl⟩|Z
   .obtain⟨c,ws,J,rfl,rfl,t2,w2,p2,l2⟩:=U.tupAt I Y;cases h;exact⟨.list_tuple p1 p2 z,.list_tuple p1 p2 z⟩
   .cases h
   .obtain⟨z1,z2,z3,z4⟩:=i_ z Z Y p1;have:b=false:=fK h (by rw[fL U Z];rfl);subst this;exact⟨z2,z4⟩
  .rcases cW (f_ h).2 U with⟨ys,rfl⟩|⟨ys,rfl⟩|Z
   .obtain⟨c,ws,J,rfl,rfl,t2,w2,p2,l2⟩:=U.tupAt I Y;obtain⟨z1,z2,z3,z4⟩:=h_ z fx r1 p2;have:b=false:=fK h (by rw[fL rx fx];rfl);subst this;exact⟨z1,z3⟩
   .obtain⟨c,ws,J,rfl,rfl,t2,w2,p2,l2⟩:=U.lstAt I Y;obtain⟨z1,z2,z3,z4⟩:=i_ z fx r1 p2;have:b=false:=fK h (by rw[fL rx fx];rfl);subst this;exact⟨z1,z3⟩
   .rw[nl rx U fx Z h];exact⟨yf r1 Y fx Z,zo r1 Y fx Z⟩
 |succ n ih =>
  intro x y ux uy vx vy b A hu h rx U r1 Y;have z:A.units<cLine:=by omega
  obtain⟨kt,kl⟩:=B9 I (λx y {_ _ _ _ _ _} a1 a2 a3 a4 a5 a6=>(ih x y a1 a2 a3 a4 a5 a6).1) hu;rcases cW (f_ h).1 rx with⟨xs,rfl⟩|⟨xs,rfl⟩|fx
  .obtain⟨a,us,its,e1,a7,t1,w1,p1,l1⟩:=rx.tupAt I r1;rcases cW (f_ h).2 U with⟨ys,rfl⟩|⟨ys,rfl⟩|Z
   .have q:=kt h rx U r1 Y;obtain⟨c,ws,J,e2,a8,t2,w2,p2,l2⟩:=U.tupAt I Y;subst e1 a7 e2 a8;refine⟨?_,q⟩;by_cases b2:a=c
    .subst b2;have e:=mn I _ _ rx U;rw[e]at h;rw[kd _ _ h];exact .same _
    .exact .of_refs b2 q
   .obtain⟨c,ws,J,e2,a8,t2,w2,p2,l2⟩:=U.lstAt I Y;subst e1 a7 e2 a8;cases h;exact⟨.tuple_list p1 p2 z,.tuple_list p1 p2 z⟩
   .subst e1 a7;obtain⟨z1,z2,z3,z4⟩:=h_ z Z Y p1;have:b=false:=fK h (by rw[fL U Z];rfl);subst this;exact⟨z2,z4⟩
  .obtain⟨a,us,its,e1,a7,t1,w1,p1,l1⟩:=rx.lstAt I r1;rcases cW (f_ h).2 U with⟨ys,rfl⟩|⟨ys,rfl⟩|Z
   .obtain⟨c,ws,J,e2,a8,t2,w2,p2,l2⟩:=U.tupAt I Y;subst e1 a7 e2 a8;cases h;exact⟨.list_tuple p1 p2 z,.list_tuple p1 p2 z⟩
   .have q:=kl h rx U r1 Y;obtain⟨c,ws,J,e2,a8,t2,w2,p2,l2⟩:=U.lstAt I Y;subst e1 a7 e2 a8;refine⟨?_,q⟩;by_cases b2:a=c
    .subst b2;have e:=mn I _ _ rx U;rw[e]at h;rw[kd _ _ h];exact .same _
    .exact .of_refs b2 q
   .subst e1 a7;obtain⟨z1,z2,z3,z4⟩:=i_ z Z Y p1;have:b=false:=fK h (by rw[fL U Z];rfl);subst this;exact⟨z2,z4⟩
  .rcases cW (f_ h).2 U with⟨ys,rfl⟩|⟨ys,rfl⟩|Z
   .obtain⟨c,ws,J,rfl,rfl,t2,w2,p2,l2⟩:=U.tupAt I Y;obtain⟨z1,z2,z3,z4⟩:=h_ z fx r1 p2;have:b=false:=fK h (by rw[fL rx fx];rfl);subst this;exact⟨z1,z3⟩
   .obtain⟨c,ws,J,rfl,rfl,t2,w2,p2,l2⟩:=U.lstAt I Y;obtain⟨z1,z2,z3,z4⟩:=i_ z fx r1 p2;have:b=false:=fK h (by rw[fL rx fx];rfl);subst this;exact⟨z1,z3⟩
   .rw[nl rx U fx Z h];exact⟨yf r1 Y fx Z,zo r1 Y fx Z⟩
end
section
variable{X:Cx}
def EU(hu:X.A.units+101<cLine):OpR X (compareOp .Eq) (λz J H Q=>∃x y b,Rep X.K H x z/\Rep X.K H y J/\eqF 100 x y=some b/\Q (.bl b) H):=by
 intro pins s σ H z J v u Q I U Y h;obtain⟨x,y,b,Z,r2,e,q⟩:=h;exact(qz I 100 x y (by omega) e Z r2 U Y).2 _ _ _ _ ⟨.bl b,H,I,rfl,q⟩
def EV(hu:X.A.units+101<cLine):OpR X (compareOp .NotEq) (λux uy H Q=>∃x y b,Rep X.K H x ux/\Rep X.K H y uy/\rV x y=true/\eqF 100 x y=some b/\Q (.bl (!b)) H):=by
 intro pins s σ H ux uy v u Q I rx ry h;obtain⟨x,y,b,Y,r2,ok,e,q⟩:=h;rcases cW (f_ e).1 Y with⟨xs,rfl⟩|⟨xs,rfl⟩|fx
 .cases y with
  |tup ys =>
   refine aE λZq kq=>?_
   obtain⟨a,us,its,rfl,rfl,t1,w1,p1,l1⟩:=Y.tupAt I rx;obtain⟨c,ws,U,rfl,rfl,t2,w2,p2,l2⟩:=r2.tupAt I ry;have e:eqL (eqF 99) xs ys=some b:=e;obtain⟨hs,hb⟩:=ke xs ys e;obtain⟨⟨cls,dd,data,sl⟩,ho,hc,n,hd⟩:=id p1;obtain⟨⟨b1,aO,data2,a0⟩,J,Z,n2,ao⟩:=id p2;simp only at hc hd Z ao;subst hc hd Z ao;refine kq ?_;refine LK (op:=.NotEq) ⟨_,ho,rfl⟩ ⟨_,J,rfl⟩ PySem.F.slot_tuple_ne PySem.F.entry_tuple_ne (PySem.F.args_tuple_ne_2 _ _) (SeqAt.tuple_neAt a c its.toArray U.toArray n n2 dd aO sl a0 _)
    ⟨ho,J,kf (n:=99) (λx y {_ _ _ _ _ _} a1 a2 a3 a4 a5 a6=>(qz I 99 x y a1 a2 a3 a4 a5 a6).1) (by omega) t1 t2 w1 w2 hs,?_⟩ (by omega)
   refine⟨(λx=>nomatch x),⟨.bl (!b),H,I,?_,q⟩⟩;rw[hb];simp[l1,l2,L2.aI]
  | _=>cases ok
 .cases y with
  |lst ys =>
   refine aE λZq kq=>?_
   obtain⟨a,us,its,rfl,rfl,t1,w1,p1,l1⟩:=Y.lstAt I rx;obtain⟨c,ws,U,rfl,rfl,t2,w2,p2,l2⟩:=r2.lstAt I ry;have e:(if xs.length=ys.length then eqL (eqF 99) xs ys else some false)=some b:=e;obtain⟨⟨cls,dd,data,sl⟩,ho,hc,n,hd⟩:=id p1;obtain⟨⟨b1,aO,data2,a0⟩,J,Z,n2,ao⟩:=id p2;simp only at hc hd Z ao;subst hc hd Z ao;refine kq ?_;by_cases hl:xs.length=ys.length
   .rw[if_pos hl]at e;obtain⟨hs,hb⟩:=ke xs ys e;refine LK (op:=.NotEq) ⟨_,ho,rfl⟩ ⟨_,J,rfl⟩ PySem.F.slot_list_ne PySem.F.entry_list_ne (PySem.F.args_list_ne_2 _ _) (SeqAt.list_neAt a c its.toArray U.toArray n n2 dd aO sl a0 (by simp only[ro];omega) _)
     ⟨ho,J,kf (n:=99) (λx y {_ _ _ _ _ _} a1 a2 a3 a4 a5 a6=>(qz I 99 x y a1 a2 a3 a4 a5 a6).1) (by omega) t1 t2 w1 w2 hs,?_⟩ (by omega)
    refine⟨(λx=>nomatch x),⟨.bl (!b),H,I,?_,q⟩⟩;rw[hb,hl,Nd];simp[<- l1,hl,L2.aI]
   .rw[if_neg hl]at e;cases e;refine LK (op:=.NotEq) ⟨_,ho,rfl⟩ ⟨_,J,rfl⟩ PySem.F.slot_list_ne PySem.F.entry_list_ne (PySem.F.args_list_ne_2 _ _) (SeqAt.list_ne_lengthsAt a c its.toArray U.toArray n n2 dd aO sl a0 (by simp only[ro,bne_iff_ne];omega)) ⟨ho,J,?_⟩ (by omega);exact⟨(λx=>nomatch x),⟨.bl true,H,I,rfl,q⟩⟩
  | _=>cases ok
 .have fy:iI uy=true:=by
   rcases cW (f_ e).2 r2 with⟨ys,rfl⟩|⟨ys,rfl⟩|fy
   .cases x<;>cases ok
    obtain⟨_,_,rfl,_⟩:∃a us,ux=V.ref a/\_:=by rw[Rep]at Y;exact Y
    exact absurd (show false=true from fx) oe
   .cases x<;>cases ok
    obtain⟨_,_,rfl,_⟩:∃a us,ux=V.ref a/\_:=by rw[Rep]at Y;exact Y
    exact absurd (show false=true from fx) oe
   .exact fy
  have hb:=nl Y r2 fx fy e;subst hb;refine GV pins s σ H ux uy v u Q I rx ry ?_;have key:scal ux uy=true/\decide (ux=uy)=eqV ux uy:=by
   cases x<;>cases y<;>simp only[Rep]at Y r2<;>first
    | (obtain⟨_,_,rfl,_⟩:=Y;exact absurd (show false=true from fx) oe)
    | (obtain⟨_,_,rfl,_⟩:=r2;exact absurd (show false=true from fy) oe)
    | (obtain⟨_,rfl,_⟩:=Y;exact absurd (show false=true from fx) oe)
    | (obtain⟨_,rfl,_⟩:=r2;exact absurd (show false=true from fy) oe)
    | (subst Y r2;first|(cases ok;done)|exact⟨rfl,by first|exact vc|exact xY|exact vd|exact J1 rfl|exact J5 (λz=>by cases z)⟩)
  exact⟨key.1,by rw[key.2];exact q⟩
def kg(I:Inv X pins σ H s)(hu:X.A.units+101<cLine)(rx:Rep X.K H x ux)(r1:aI ux vx)(t:Reps X.K H xs us)(w:aL us its)(h:isIn x xs=some b) :
  ∃e,(∀y,y∈its.toArray->SeqAt.EqAt X.A.in1 s y vx (e y))/\its.toArray.any e=b:=by
 obtain⟨h1,h2⟩:=vM xs h
 classical
 have J:∀z u y,aI u y->Rep X.K H z u->∀p:(∃z u,aI u y/\Rep X.K H z u),p.choose=z:=λz u y r q p=>by
  obtain⟨u',r',q'⟩:=p.choose_spec;have e:=r.inj r';subst e;exact mn I _ _ q' q
 refine⟨λy=>if p:∃z u,aI u y/\Rep X.K H z u then(eqF 100 p.choose x).getD false else false,?_,?_⟩
 .intro y hy;refine aE λZq kq=>?_
  obtain⟨j,hj,e⟩:=getElem_of_mem (by simpa using hy:y∈its);have ej:its[j]?=some y:=by rw[J4 hj,e]
  have l1:=w.length;obtain⟨U,e1⟩:∃U,us[j]?=some U:=⟨_,J4 (by omega)⟩;obtain⟨wy,e2,Y⟩:=w.get e1;rw[ej]at e2;cases e2;obtain⟨z,e3,Z⟩:=t.get' e1;obtain⟨c,hc⟩:=h1 z (L8 e3);have q:=(qz I 100 z x (A:=X.A.in1) (show X.A.units+1+100<cLine by omega) hc Z rx Y r1).1;have p:∃z u,aI u y/\Rep X.K H z u:=⟨z,U,Y,Z⟩;have e4:=J z U y Y Z p;refine kq ?_
  simp_all
 .rw[h2];simp only[any_toArray];clear h h1 h2
  induction xs generalizing us its with
  |nil =>
   rw[Reps]at t;subst t;cases w
   rfl
  |cons z zs ih =>
   rw[Reps]at t;obtain⟨u,r,rfl,q,t⟩:=t;cases w with
   |cons rv w =>
    rename_i y ys;have p:∃z u,aI u y/\Rep X.K H z u:=⟨z,u,rv,q⟩;have e4:=J z u y rv q p;rw[any_cons,any_cons,ih t w];simp only[p,dite_true,e4]
def EW(U:X.A.units+101<cLine):OpR X (compareOp .In) (λY Z H Q=>∃x xs a us b,Rep X.K H x Y/\Z=.ref a/\(SqL X.K H a us\/SqT X.K H a us)/\Reps X.K H xs us/\isIn x xs=some b/\Q (.bl b) H):=by
 intro pins s σ H Y Z v u Q I rx ry h;obtain⟨x,xs,a,us,b,r1,rfl,z,r2,e,q⟩:=h;cases ry;rcases z with z|z
 .obtain⟨its,r,J,hz⟩:=I.list z;obtain⟨f,h1,h2⟩:=kg I U r1 rx r2 r e;refine SeqAt.in_listAt f J.isList h1 ?_;rw[h2];exact⟨.bl b,H,I,rfl,q⟩
 .obtain⟨its,r,J,hz⟩:=I.tuple z;obtain⟨f,h1,h2⟩:=kg I U r1 rx r2 r e;refine SeqAt.in_tupleAt f J h1 ?_;rw[h2];exact⟨.bl b,H,I,rfl,q⟩
def w8(U:X.A.units+101<cLine):OpR X (compareOp .NotIn) (λY Z H Q=>∃x xs a us b,Rep X.K H x Y/\Z=.ref a/\(SqL X.K H a us\/SqT X.K H a us)/\Reps X.K H xs us/\isIn x xs=some b/\Q (.bl (!b)) H):=by
 intro pins s σ H Y Z v u Q I rx ry h;obtain⟨x,xs,a,us,b,r1,rfl,z,r2,e,q⟩:=h;cases ry;rcases z with z|z
 .obtain⟨its,r,J,hz⟩:=I.list z;obtain⟨f,h1,h2⟩:=kg I U r1 rx r2 r e;refine SeqAt.notIn_listAt f J.isList h1 ?_;rw[h2];exact⟨.bl _,H,I,rfl,q⟩
 .obtain⟨its,r,J,hz⟩:=I.tuple z;obtain⟨f,h1,h2⟩:=kg I U r1 rx r2 r e;refine SeqAt.notIn_tupleAt f J h1 ?_;rw[h2];exact⟨.bl _,H,I,rfl,q⟩
end
end MM
namespace L2
open PySem PySem.Spec PyProof.Rows List Option
theorem PE.imp(h:PE X e t)(i:∀σ H Q,t' σ H Q->t σ H Q):PE X e t':=λpins s σ H Q I q=>h pins s σ H Q I (i σ H Q q)
theorem PT.imp(h:PT X e t)(i:∀σ H Q,t' σ H Q->t σ H Q):PT X e t':=λpins s σ H Q I q=>h pins s σ H Q I (i σ H Q q)
theorem PA.imp(h:PA X e t)(i:∀σ H Q,t' σ H Q->t σ H Q):PA X e t':=λpos pins s σ H Q I q=>h pos pins s σ H Q I (i σ H Q q)
theorem PS.imp(h:PS X e t)(i:∀D σ H,t' D σ H->t D σ H):PS X e t':=λpins s σ H D I q=>h pins s σ H D I (i D σ H q)
theorem PSs.imp(h:PSs X e t)(i:∀D σ H,t' D σ H->t D σ H):PSs X e t':=λpins s σ H D I q=>h pins s σ H D I (i D σ H q)
theorem PI.imp(h:PI X tg e t)(i:∀σ H R,t' σ H R->t σ H R):PI X tg e t':=λpins s σ H R I q=>h pins s σ H R I (i σ H R q)
end L2
namespace MM
open PySem PySem.Spec PyProof.Rows L2 List Option
noncomputable def jq(H:Hp)(ms:List Addr):Hp:=λb=>if b∈ms then none else H b
def lE(K:Np)(O:List Addr)(H:Hp):MV->V->Prop
 | .val v,u=>Rep K (ay H O) v u
 | .brw xs,u=>∃a us,u=.ref a/\SqL K H a us/\Reps K (ay H O) xs us
 | .own _,_=>False
 | .ownD _,_=>False
 | .mutD _,_=>False
 | .brwD kvs,u=>∃a,u=.ref a/\Rd H a (iO kvs)
noncomputable def spM(K:Np)(cal:Cal)(f:Nat):Sp:=λvs H Q _ =>
 ∃O args r,(∀a∈O,H a≠none)/\Paired (lE K O H) args vs/\cal f args=some r/\∀u H',ai H H'->Rep K (ay H' O) r u->Q u H'
noncomputable def spF(K:Np)(cal:Cal)(f:Nat):Sp:=λvs H Q _ =>
 ∃O args xs,(∀a∈O,H a≠none)/\Paired (lE K O H) args vs/\cal (f+1000) args=some (.lst xs)/\∀p us H',ai H H'->H p=none->H' p=some (.lst us)->Reps K (ay H' (p::O)) xs us->Q (.ref p) H'
def EX(K:Np)(O:List Addr)(H:Hp):MV->V->Prop
 | .val v,u=>Rep K (ay H O) v u
 | .mutD d,u=>∃a,u=.ref a/\DAt K H O a d/\a∈O
 | _,_=>False
inductive cF(K:Np)(O:List Addr)(H':Hp):List MV->List V->List PV->List Addr->Prop where
 | nil:cF K O H' [] [] [] []
 | mutd {d d':DD}{a:Addr}{as:List MV}{vs:List V}{ds:List PV}{ms:List Addr} (h:DAt K H' O a d') (hn:a∉ms) (t:cF K O H' as vs ds ms):cF K O H' (.mutD d::as) (.ref a::vs) (.dI d'::ds) (a::ms)
 | other {m:MV}{v:V}{as:List MV}{vs:List V}{ds:List PV}{ms:List Addr} (h:∀d,m≠.mutD d) (t:cF K O H' as vs ds ms):cF K O H' (m::as) (v::vs) ds ms
noncomputable def spD(K:Np)(cal:Cal)(f:Nat):Sp:=λvs H Q _ =>
 ∃O args v ds z ms,(∀a∈O,H a≠none)/\Paired (EX K O H) args vs/\cF K O H args vs z ms/\cal (f+2000) args=some (.tup (v::ds)) /\
  ∀u H',(∀b o,b∉ms->H b=some o->H' b=some o)->cF K O H' args vs ds ms->Rep K (ay H' O) v u->Q u H'
noncomputable def kh:List String:=["len","tuple","list","sorted","any","all","sum","max","min","int","bool","str","isinstance","set","range","enumerate","reversed"
 ]
noncomputable def toV:PV->V
 | .non=>.non
 | .bl b=>.bl b
 | .int i=>.int i
 | .str x=>.str x
 | _=>.non
structure Gf(X:Cx)(T:Tab)(k:Nat)(cal:Cal):Prop where
 calm:X.calm=true
 room:kM k X.A
 fns:∀(f:Nat) (x:Str),T.fs[f]?=some x->∃(fa:Addr) (fd:FuncData) (ps:List Str),X.mg x=some (.ref fa)/\PySem.W.keepIn X.K (.ref fa)=true/\dh X.K fd ps []/\jC X.prog X.w X.K X.mg X.base CX0 k fa fd ps (spM X.K cal f)/\∀l,T.ds[f]?=some l->∃vs,dh X.K fd ps vs/\aL (l.map Sc.v) vs
 blt:∀x∈kh,X.mg (x:Str)=none
 gs:∀p∈T.gs,∃u,X.mg p.1=some u/\aI (toV p.2) u
 fnsF:∀(f:Nat) (x:Str),T.fs[f]?=some x->∃(fa:Addr) (fd:FuncData) (ps:List Str),X.mg x=some (.ref fa)/\PySem.W.keepIn X.K (.ref fa)=true/\dh X.K fd ps []/\jC X.prog X.w X.K X.mg X.base CX0 k fa fd ps (spF X.K cal f)
 fnsD:∀(f:Nat) (x:Str),T.fs[f]?=some x->∃(fa:Addr) (fd:FuncData) (ps:List Str),X.mg x=some (.ref fa)/\PySem.W.keepIn X.K (.ref fa)=true/\dh X.K fd ps []/\jC X.prog X.w X.K X.mg X.base CX0 k fa fd ps (spD X.K cal f)
theorem Gf.units(g:Gf X T k cal):X.A.units+200<cLine:=by have:=g.room.un;omega
def Got(K:Np)(H:Hp)(O:List Addr)(z:ME)(v:PV)(u:V):Prop:=bH K H O v u/\(aM z=false->Rep K (ay H O) v u)
noncomputable def tE(K:Np)(cal:Cal)(z:ME):TE:=λσ H Q=>∃B E O W v,aF K B E O H W σ/\ev cal z W=some v/\∀u H',ai H H'->Got K H' O z v u->Q u H'
noncomputable def tT(K:Np)(cal:Cal)(z:ME):TT:=λσ H Q=>∃B E O W b,aF K B E O H W σ/\evB cal z W=some b/\∀H',ai H H'->Q b H'
def Ju(K:Np)(H:Hp)(O:List Addr)(ms:List ME)(vs:List PV)(us:List V):Prop:=Paired (bH K H O) vs us/\((ms.all λm=>!aM m)=true->Reps K (ay H O) vs us)
noncomputable def tEs(K:Np)(cal:Cal)(ms:List ME):TA:=λσ H Q=>∃B E O W vs,aF K B E O H W σ/\evs cal ms W=some vs/\∀us H',ai H H'->Ju K H' O ms vs us->Q us H'
noncomputable def tAs(K:Np)(cal:Cal)(ms:List ME):TA:=λσ H Q=>∃B E O W vs,aF K B E O H W σ/\evA cal ms W=some vs/\∀us H',ai H H'->Paired (lE K O H') vs us->Q us H'
section
variable{K:Np}{H H':Hp}{O:List Addr}
theorem Got.of(h:Rep K (ay H O) v u):Got K H O z v u:=⟨.inl h,λ_=>h⟩
theorem Got.scal(h:∀F,Rep K F v u):Got K H O z v u:=.of (h _)
theorem Got.mono(s:ai H H')(h:Got K H O z v u):Got K H' O z v u:=⟨h.1.mono s,λe=>Rep.mono (am s) _ (h.2 e)⟩
def eF(F)(b):Rep K F (.bl b) (.bl b):=rfl
def b7(F)(b):Rep K F (.int b) (.int b):=rfl
def mq(F)(b):Rep K F (.str b) (.str b):=rfl
def qA(F):Rep K F .non .non:=rfl
def gK(U:∀a∈O,H1 a≠none)(J:H1 p=none)(h:Reps K (ay H1 O) xs us):Rep K (ay (upd H1 p (.tup us)) O) (.tup xs) (.ref p):=by
 refine⟨p,us,rfl,?_,Reps.mono (am (aC J _)) _ h⟩;rw[bh (λz=>U p z J)];exact aB
def nq(U:∀a∈O,H1 a≠none)(J:H1 p=none)(h:Reps K (ay H1 O) xs us):Rep K (ay (upd H1 p (.lst us)) O) (.lst xs) (.ref p):=by
 refine⟨p,us,rfl,SqL.of ?_,Reps.mono (am (aC J _)) _ h⟩;rw[bh (λz=>U p z J)];exact aB
def bx(s:ai H H')(h:∀a∈O,H a≠none):∀a∈O,H' a≠none:=λa z e=>h a z (s.free e)
def cO(h:n<=10000):n<=sizeLine:=wh h (by decide)
end
section
variable{X:Cx}{T:Tab}{k:Nat}{cal:Cal}
def Hs(h:Ey sc x=true):Vis sc x:=by
 unfold Ey at h;simp[J0]at h;rcases h with(h|h)|h
 .exact .inl h
 .exact .inr (.inl h)
 .exact .inr (.inr h)
def iR(h:fC sc x=true):Loc sc x:=by
 unfold fC at h;simp[J0]at h;exact h
def ib (h:av x=true):(x==("__debug__":Str))=false/\(x==("__classdict__":Str))=false/\x ≠ "__name__":=by simp_all [av]
def dC(h:glB X.env.scope x=true):Gl X x:=by
 unfold glB at h;simp at h;exact h
def b8(h:aV X.N X.env.scope i x=true):PE X (.Name x pos) (GG i):=by
 unfold aV at h;simp[mu,J0]at h;obtain⟨⟨h1,h2⟩,z⟩:=h;obtain⟨p1,p2,_⟩:=ib z;exact DI h1 (Hs h2) p1 p2
def aY{K:Np}(st:aF K B E O H W σ){i:Nat}(e:(W[i]?).join=some m):∃u,σ[i]?=some (some u)/\fg K B O H m u:=st.slot i m (aG e)
def Dj(h:aV X.N X.env.scope i x=true):PE X (.Name x pos) (tE X.K cal (.var i)):=by
 refine(b8 h).imp λσ H Q U=>?_
 obtain⟨B,E,O,W,v,st,z,q⟩:=U;rw[ev]at z;cases J:(W[i]?).join with
 |none=>rw[J]at z;cases z
 |some m =>
  rw[J]at z;cases m with
  |val w =>
   simp[vF]at z;subst z;obtain⟨u,Y,r⟩:=aY st J;exact⟨u,Y,q u H (ai.refl H) (.of r)⟩
  | _=>cases z
def Dk(h:aV X.N X.env.scope i x=true):PE X (.Name x pos) (tE X.K cal (.bor i)):=by
 refine(b8 h).imp λσ H Q Y=>?_
 obtain⟨B,E,O,W,v,st,J,q⟩:=Y;rw[ev]at J;cases U:(W[i]?).join with
 |none=>rw[U]at J;cases J
 |some m =>
  rw[U]at J;obtain⟨u,Z,r⟩:=aY st U;exact⟨u,Z,q u H (ai.refl H) ⟨r.bor st.keep J,λz=>by cases z⟩⟩
def Dl(h:ut v c=true):PE X (.Constant c j pos) (tE X.K cal (.cst v)):=by
 have key:∀u,_->PE X (.Constant c j pos) _->PE X _ (tE X.K cal (.cst v)):=λu r p=>p.imp λσ H Q z=>by
  obtain⟨B,E,O,W,w,st,J,q⟩:=z;cases J;exact q u H (ai.refl H) (.scal r)
 cases v<;>cases c<;>simp[ut,J7,J0]at h
 .exact key .non (λF=>qA F) DK
 .subst h;exact key _ (λF=>eF F _) GH
 .subst h;exact key _ (λF=>b7 F _) DJ
 .subst h;exact key _ (λF=>mq F _) tO
def zp(g:Gf X T k cal)(h:(x==y&&glB X.env.scope x&&Dd T.gs x v&&av x)=true):PE X (.Name y pos) (tE X.K cal (.glob x v)):=by
 simp[mu,J0]at h;obtain⟨⟨⟨rfl,Y⟩,hs⟩,Z⟩:=h;obtain⟨p,U,J⟩:=Lf.mp hs;simp[mu,J0]at J;obtain⟨rfl,hv⟩:=J;obtain⟨u,e1,r⟩:=g.gs p U;have e:p.2=v/\∀F,Rep X.K F v (toV v):=by
  revert hv;generalize p.2=z;intro hv;cases z<;>cases v<;>simp[Dc,J7,J0]at hv
  .exact⟨rfl,λF=>qA F⟩
  .subst hv;exact⟨rfl,λF=>eF F _⟩
  .subst hv;exact⟨rfl,λF=>b7 F _⟩
  .subst hv;exact⟨rfl,λF=>mq F _⟩
 rw[e.1]at r;refine(Be (dC Y) e1 r (ib Z).1).imp λσ H Q hq=>?_
 obtain⟨B,E,O,W,w,st,he,q⟩:=hq;cases he;exact q _ H (ai.refl H) (.scal e.2)
end
section
variable{X:Cx}
noncomputable def R2M(K:Np)(f:PV->PV->Option PV):R2:=λz J H Q =>
 ∃O x y v,(∀a∈O,H a≠none)/\bH K H O x z/\bH K H O y J/\f x y=some v/\∀u H',ai H H'->Rep K (ay H' O) v u->Q u H'
def k8{g:Int->Int->Int}(h:OpR X (binaryOp op) (rI C λi j=>.int (g i j)))
  (z:∀x y v,f x y=some v->∃i j,x=.int i/\y=.int j/\C i j/\v=.int (g i j)):OpR X (binaryOp op) (R2M X.K f):=by
 intro pins s σ H ux uy v u Q I J U Y;refine aE λZq Z=>?_
 obtain⟨O,x,y,w,hO,r1,r2,e,q⟩:=Y;obtain⟨i,j,rfl,rfl,c,rfl⟩:=z x y w e;have e1:=r1.int;have e2:=r2.int;subst e1 e2;refine Z ?_;exact h pins s σ H _ _ v u Q I J U ⟨i,j,rfl,rfl,c,q _ H (ai.refl H) (b7 _ _)⟩
def B_:OpR X (binaryOp .Add) (λx y H Q=>∃l b xs zs,x=.ref l/\y=.ref b/\SqL X.K H l xs/\SqL X.K H b zs/\xs.length+zs.length<=sizeLine/\∀p,H p=none->Q (.ref p) (upd H p (.lst (xs++zs)))):=by
 intro pins s σ H x y v u Q I rx ry h;refine aE λZq kq=>?_
 obtain⟨l,b,xs,zs,rfl,rfl,hH,hB,hz,q⟩:=h;cases rx;cases ry;obtain⟨its,r,pl,_⟩:=I.list hH;obtain⟨z,r2,Z,_⟩:=I.list hB;have l1:=r.length;have l2:=r2.length;obtain⟨⟨cls,dd,data,sl⟩,ho,hc,n,hd⟩:=pl.isList;obtain⟨⟨a1,ao,data2,aO⟩,J,U,n2,Y⟩:=Z.isList;simp only at hc hd U Y;subst hc hd U Y;have e:its.toArray++z.toArray=(its++z).toArray:=by simp
 refine kq ?_;refine M9 ⟨_,ho,rfl⟩ ⟨_,J,rfl⟩ noFill_list_add seq_list_add PySem.F.slot_list_add PySem.F.entry_list_add (PySem.F.args_list_add_2 _ _) (list_addW l b its.toArray z.toArray n n2 dd ao sl aO (by rw[ro,ro];omega)) ⟨ho,J,?_⟩;rw[e];exact⟨.ref _,_,I.lnew (r.append r2) (by rw[tr];omega),rfl,q _ I.fresh⟩
def Ca:OpR X (binaryOp .Add) (λx y H Q=>∃a b ys,x=.ref a/\y=.ref b/\SqT X.K H a []/\SqT X.K H b ys/\Q (.ref b) H):=by
 intro pins s σ H x y v u Q I rx ry h;refine aE λZq kq=>?_
 obtain⟨a,b,ys,rfl,rfl,ha,hb,q⟩:=h;cases rx;cases ry;obtain⟨its,r1,⟨⟨c1,d1,t1,l1⟩,ho,hc,n,hd⟩,_⟩:=I.tuple ha;obtain⟨U,r2,⟨⟨c2,d2,t2,l2⟩,Y,Z,n2,ao⟩,_⟩:=I.tuple hb;cases hc;cases hd;cases Z;cases ao;have z:=r1.nil_iff.mpr rfl;have J:=tuple_addW0 a b its.toArray U.toArray n n2 d1 d2 l1 l2 (by simp[z]);refine kq ?_;exact M9 ⟨_,ho,rfl⟩ ⟨_,Y,rfl⟩ Na seq_tuple_add PySem.F.slot_tuple_add PySem.F.entry_tuple_add (PySem.F.args_tuple_add_2 _ _) J ⟨ho,Y,.ref b,H,I,rfl,q⟩
def eY(h:j7 f x y=some v):∃i j,x=.int i/\y=.int j/\f i j=some v:=by
 cases x<;>try (cases h;done)
 cases y<;>try (cases h;done)
 exact⟨_,_,rfl,rfl,h⟩
def kj{C:Int->Int->Prop} [∀i j,Decidable (C i j)] {g:Int->Int->Int}{x y v:PV} (h:j7 (λi j=>if C i j then some (.int (g i j))else none) x y=some v):∃i j,x=.int i/\y=.int j/\C i j/\v=.int (g i j):=by
 obtain⟨i,j,z,J,U⟩:=eY h
 simp_all
def uB(op):OpR X (binaryOp (ur op)) (R2M X.K (ff op)):=by
 cases op with
 |sub=>exact k8 (C:=λ_ _=>True) (g:=λi j=>i-j) (λpins s σ H x y v u Q I J U h=>DX pins s σ H x y v u Q I J U (by obtain⟨i,j,Y,Z,_,q⟩:=h;exact⟨i,j,Y,Z,q⟩)) (λx y v h=>by
   obtain⟨i,j,Y,Z,e3⟩:=eY h;exact⟨i,j,Y,Z,trivial,(J3 e3).symm⟩)
 |mul=>exact k8 DY λx y v h=>by have q:=kj h;exact q
 |fdiv=>exact k8 Bk λx y v h=>by have q:=kj h;exact q
 |mod=>exact k8 DZ λx y v h=>by have q:=kj h;exact q
 |pow=>exact k8 D0 λx y v h=>by have q:=kj h;exact q
 |shr=>exact k8 D1 λx y v h=>by have q:=kj h;exact q
 |add =>
  intro pins s σ H ux uy v u Q I J U hq;obtain⟨O,x,y,w,hO,r1,r2,e,q⟩:=hq;cases x<;>try (cases e;done)
  all_goals (cases y<;>simp only[ff,Da]at e<;>try (cases e;done))
  .cases e;have Y:=r1.int;have Z:=r2.int;subst Y Z;exact DW pins s σ H _ _ v u Q I J U ⟨_,_,rfl,rfl,q _ H (ai.refl H) (b7 _ _)⟩
  .split at e
   .rename_i c;cases e;have Y:=r1.str;have Z:=r2.str;subst Y Z;exact tY pins s σ H _ _ v u Q I J U ⟨_,_,rfl,rfl,wh c (by decide),q _ H (ai.refl H) (mq _ _)⟩
   .cases e
  .split at e
   .rename_i c;cases e;obtain⟨a,us,rfl,s1,t1⟩:=r1.tup;obtain⟨b,ws,rfl,s2,t2⟩:=r2.tup;have l1:=t1.length;have l2:=t2.length;have w1:=r1.tupR;have w2:=r2.tupR;by_cases z0:us=[]
    .subst z0;have z1:=Mh l1;subst z1;exact Ca pins s σ H _ _ v u Q I J U ⟨a,b,ws,rfl,rfl,s1,s2,q _ H (ai.refl H) w2⟩
    refine Bt pins s σ H _ _ v u Q I J U ⟨a,b,us,ws,rfl,rfl,s1,s2,z0,cO (by omega),λz=>?_,λz p hp=>?_⟩
    .rw[z,length_nil]at l2;have z1:=Mh l2;subst z1;rw[La]at q;exact q _ H (ai.refl H) w1
    .exact q _ _ (aC hp _) (gK hO hp (t1.append t2))
   .cases e
  .split at e
   .rename_i c;cases e;obtain⟨a,us,rfl,s1,t1⟩:=r1.lst;obtain⟨b,ws,rfl,s2,t2⟩:=r2.lst;have l1:=t1.length;have l2:=t2.length;exact B_ pins s σ H _ _ v u Q I J U ⟨a,b,us,ws,rfl,rfl,s1,s2,cO (by omega),λp hp=>q _ _ (aC hp _) (nq hO hp (t1.append t2))⟩
   .cases e
noncomputable def R2C(K:Np)(f:PV->PV->Option Bool):R2:=λz J H Q =>
 ∃O x y b,bH K H O x z/\bH K H O y J/\f x y=some b/\Q (.bl b) H
def mr{g:Int->Int->Bool}(h:OpR X (compareOp op) (rI0 λi j=>.bl (g i j)))
  (z:∀x y v,f x y=some v->∃i j,x=.int i/\y=.int j/\v=g i j):OpR X (compareOp op) (R2C X.K f):=by
 intro pins s σ H ux uy v u Q I J U Y;refine aE λZq Z=>?_
 obtain⟨O,x,y,w,r1,r2,e,q⟩:=Y;obtain⟨i,j,rfl,rfl,rfl⟩:=z x y w e;have e1:=r1.int;have e2:=r2.int;subst e1 e2;refine Z ?_;exact h pins s σ H _ _ v u Q I J U ⟨i,j,rfl,rfl,q⟩
def EY:OpR X (compareOp .Is) (λx y H Q=>∃p q,x=.bl p/\y=.bl q/\Q (.bl (p==q)) H):=by
 rintro pins s σ H x y v u Q I z J ⟨p,q,rfl,rfl,U⟩;cases z;cases J;exact gx (cf I U (by cases p<;>cases q<;>rfl))
def w9:OpR X (compareOp .IsNot) (λx y H Q=>∃p q,x=.bl p/\y=.bl q/\Q (.bl (!(p==q))) H):=by
 rintro pins s σ H x y v u Q I z J ⟨p,q,rfl,rfl,U⟩;cases z;cases J;exact gx (cf I U (by cases p<;>cases q<;>rfl))
def vN{K:Np}(r:bH K H O x u):decide (u=.non)=jp x:=by
 cases x with
 |non=>rw[r.non];rfl
 |bl b=>rw[r.bl];rfl
 |int b=>rw[r.int];rfl
 |str b=>rw[r.str];rfl
 |tup xs=>obtain⟨a,us,rfl,_⟩:=r.tup;rfl
 |lst xs=>obtain⟨a,us,rfl,_⟩:=r.lst;rfl
 |dI kvs=>obtain⟨a,rfl,_⟩:=r.dI;rfl
def zq(hu:X.A.units+200<cLine)(op):OpR X (compareOp (zf op)) (R2C X.K (cD op)):=by
 cases op with
 |lt=>exact mr GW λx y v h=>by obtain⟨i,j,J,z,e3⟩:=eY h;exact⟨i,j,J,z,(J3 e3).symm⟩
 |le=>exact mr GX λx y v h=>by obtain⟨i,j,J,z,e3⟩:=eY h;exact⟨i,j,J,z,(J3 e3).symm⟩
 |gt=>exact mr GY λx y v h=>by obtain⟨i,j,J,z,e3⟩:=eY h;exact⟨i,j,J,z,(J3 e3).symm⟩
 |ge=>exact mr GZ λx y v h=>by obtain⟨i,j,J,z,e3⟩:=eY h;exact⟨i,j,J,z,(J3 e3).symm⟩
 |eq =>
  intro pins s σ H ux uy v u Q I U Y hq;obtain⟨O,x,y,w,Z,r2,e,q⟩:=hq;exact EU (by omega) pins s σ H ux uy v u Q I U Y ⟨x,y,w,Z.whole,r2.whole,e,q⟩
 |ne =>
  intro pins s σ H ux uy v u Q I U Y hq;obtain⟨O,x,y,w,Z,r2,e,q⟩:=hq;simp only[cD]at e;split at e
  .rename_i c;simp only[pe]at e;obtain⟨b,e,rfl⟩:=e;exact EV (by omega) pins s σ H ux uy v u Q I U Y ⟨x,y,b,Z.whole,r2.whole,c,e,q⟩
  .cases e
 |isN =>
  intro pins s σ H ux uy v u Q I U Y hq;obtain⟨O,x,y,w,Z,r2,e,q⟩:=hq;cases y<;>try (cases e;done)
  .have z:=r2.non;subst z;refine D3 pins s σ H ux _ v u Q I U Y ⟨rfl,?_⟩;have e:=e;rw[vN Z,J3 e];exact q
  .cases x<;>try (cases e;done)
   have J:=Z.bl;have z:=r2.bl;subst J z;exact EY pins s σ H _ _ v u Q I U Y ⟨_,_,rfl,rfl,by rw[J3 e];exact q⟩
 |notN =>
  intro pins s σ H ux uy v u Q I U Y hq;obtain⟨O,x,y,w,Z,r2,e,q⟩:=hq;cases y<;>try (cases e;done)
  .have z:=r2.non;subst z;refine Bm pins s σ H ux _ v u Q I U Y ⟨rfl,?_⟩;have e:some (!jp x)=some w:=e;rw[vN Z,J3 e];exact q
  .cases x<;>try (cases e;done)
   have J:=Z.bl;have z:=r2.bl;subst J z;cases e;exact w9 pins s σ H _ _ v u Q I U Y ⟨_,_,rfl,rfl,q⟩
 |isIn =>
  intro pins s σ H ux uy v u Q I U Y hq;obtain⟨O,x,y,w,Z,r2,e,q⟩:=hq;simp only[cD,gf]at e;obtain⟨xs,J,z⟩:=e;obtain⟨a,us,rfl,s2,t2⟩:=r2.seq J;exact EW (by omega) pins s σ H ux _ v u Q I U Y ⟨x,_,a,us,w,Z.whole,rfl,s2,Reps.mono (bG H O) _ t2,z,q⟩
 |notIn =>
  intro pins s σ H ux uy v u Q I U Y hq;obtain⟨O,x,y,w,Z,r2,e,q⟩:=hq;simp only[cD,gf,pe]at e;obtain⟨b,⟨xs,J,z⟩,rfl⟩:=e;obtain⟨a,us,rfl,s2,t2⟩:=r2.seq J;exact w8 (by omega) pins s σ H ux _ v u Q I U Y ⟨x,_,a,us,b,Z.whole,rfl,s2,Reps.mono (bG H O) _ t2,z,q⟩
def si(n)(i):place n i=ixN n i:=rfl
def EZ:IxR X (R2M X.K fF):=by
 intro value slice pins s σ H ux uy v u Q I rx ry hq z;obtain⟨O,x,y,w,hO,r1,r2,e,q⟩:=hq;cases x<;>cases y<;>simp[fF]at e<;>try (cases e;done)
 .simp[gf]at e;obtain⟨j,Z,e2⟩:=e;obtain⟨a,us,rfl,s1,U⟩:=r1.tup;have e3:=r2.int;subst e3;obtain⟨Y,e4,J⟩:=U.get e2;refine ye value slice pins s σ H _ _ v u Q I rx ry (.inr (.inl ⟨a,us,_,Y,rfl,rfl,s1,?_,q Y H (ai.refl H) J⟩)) z;unfold atI;rw[<- U.length,<- si,Z];exact e4
 .simp[gf]at e;obtain⟨j,Z,e2⟩:=e;obtain⟨a,us,rfl,s1,U⟩:=r1.lst;have e3:=r2.int;subst e3;obtain⟨Y,e4,J⟩:=U.get e2;refine ye value slice pins s σ H _ _ v u Q I rx ry (.inl ⟨a,us,_,Y,rfl,rfl,s1,?_,q Y H (ai.refl H) J⟩) z;unfold atI;rw[<- U.length,<- si,Z];exact e4
def uC(h:ca b=true):vf b:=by
 intro o i;cases b<;>first|rfl|(simp[ca]at h)
def sj{K:Np}(h:Reps K F xs us)(lo hi):Reps K F (cut xs lo hi) (wG us lo hi):=by
 have z:=h.length;have e:∀n d o,gC n d o=HT.sIx n d o:=λn d o=>by cases o<;>rfl
 unfold cut wG;rw[e,e,z];exact(h.drop _).take _
def E1:SlR X (λx lo hi H Q=>∃O v w,(∀a∈O,H a≠none)/\bH X.K H O v x/\j8 v lo hi=some w/\∀u H',ai H H'->Rep X.K (ay H' O) w u->Q u H'):=by
 intro pins s σ H x v Z vu lo hi sl Q I rx hs pl pu hq;obtain⟨O,pv,w,hO,r1,e,q⟩:=hq;cases pv<;>simp only[j8]at e<;>try (cases e;done)
 .rename_i xs;cases e;obtain⟨a,us,rfl,Y,z⟩:=r1.tup;have e:∀n d o,gC n d o=HT.sIx n d o:=λn d o=>by cases o<;>rfl
  by_cases J:HT.sIx us.length 0 lo=0/\HT.sIx us.length us.length hi=us.length
  .refine BQ pins s σ H _ v Z vu lo hi sl Q I rx hs pl pu ⟨a,us,rfl,Y,J.1,J.2,q _ _ (ai.refl H) ?_⟩;have:cut xs lo hi=xs:=by
    unfold cut;rw[e,e,z.length,J.1,J.2,drop_zero,<- z.length,Nat.sub_zero,take_length]
   rw[this];exact r1.tupR
  .exact D5 pins s σ H _ v Z vu lo hi sl Q I rx hs pl pu ⟨a,us,rfl,Y,J,λp U=>q _ _ (aC U _) (gK hO U (sj z lo hi))⟩
 .cases e;obtain⟨a,us,rfl,Y,z⟩:=r1.lst;exact Bw pins s σ H _ v Z vu lo hi sl Q I rx hs pl pu ⟨a,us,rfl,Y,λp U=>q _ _ (aC U _) (nq hO U (sj z lo hi))⟩
end
theorem vO(x):∀l,yW x l=Srt.lY Srt.dw x l
 | []=>rfl
 |y::r=>by
  show(if y<x then y::yW x r else x::y::r)=(if Srt.dw.blt y x=true then y::Srt.lY Srt.dw x r else x::y::r);rw[vO x r];by_cases h:y<x
  .have e:Srt.dw.blt y x=true:=J1 h;rw[if_pos h,if_pos e]
  .have e:Srt.dw.blt y x=false:=J5 h;rw[if_neg h,if_neg (by rw[e];exact oe)]
theorem dD:∀l,sortI l=Srt.sortI l
 | []=>rfl
 |x::r=>by
  show yW x (sortI r)=Srt.lY Srt.dw x (Srt.iw Srt.dw r);rw[dD r,vO];rfl
theorem nt:∀a b,lexLt a b=HT.lexLt a b
 | [],[]=>rfl
 | [],_::_=>rfl
 | _::_,[]=>rfl
 |x::xs,y::ys=>by
  rw[lexLt,HT.lexLt_cons,nt xs ys]
theorem vP(x):∀l,yX x l=Srt.lY Srt.e_ x l
 | []=>rfl
 |y::r=>by
  show(if lexLt y x=true then y::yX x r else x::y::r)=(if Srt.e_.blt y x=true then y::Srt.lY Srt.e_ x r else x::y::r);rw[vP x r,nt]
  rfl
theorem km:∀l,sortT l=Srt.sortT l
 | []=>rfl
 |x::r=>by
  show yX x (sortT r)=Srt.lY Srt.e_ x (Srt.iw Srt.e_ r);rw[km r,vP];rfl
theorem pD:∀l,dd l=St.dd l
 | []=>rfl
 |x::r=>by
  unfold dd St.dd;rw[pD r]
def Cb(ns):Srt.sortI (St.dd ns.reverse)=sortI (dd ns):=by
 rw[dD,pD];refine Srt.sortI_of_perm ?_;refine(KQ (St.dd_nodup _) (St.dd_nodup _)).mpr λa=>?_
 rw[St.fX,St.fX,Nl]
def uD(ns):(St.dd ns.reverse).length=(dd ns).length:=by
 rw[pD];refine Perm.length_eq ((KQ (St.dd_nodup _) (St.dd_nodup _)).mpr λa=>?_);rw[St.fX,St.fX,Nl]
section
variable{X:Cx}{T:Tab}{k:Nat}{cal:Cal}
def RBM(K:Np)(f:List PV->Option PV):List V->Hp->VK->Prop:=λus H Q =>
 ∃O vs v,(∀a∈O,H a≠none)/\Paired (bH K H O) vs us/\f vs=some v/\∀u H',ai H H'->Rep K (ay H' O) v u->Q u H'
def p1{K:Np}(h:Paired (bH K H O) [x] us):∃u,us=[u]/\bH K H O x u:=by
 cases h with
 |cons r t=>cases t;exact⟨_,rfl,r⟩
def p2{K:Np}(h:Paired (bH K H O) [x,y] us):∃u w,us=[u,w]/\bH K H O x u/\bH K H O y w:=by
 cases h with
 |cons r t=>cases t with
  |cons z t'=>cases t';exact⟨_,_,rfl,r,z⟩
def c9(h:aD f vs=some v)(z:k5 f=some 1\/(dB f).isSome=true\/f=.sortedSet\/f=.lenSet\/f=.valuesOf):∃x,vs=[x]:=by
 cases vs with
 |nil=>cases f<;>simp[aD,cg,m8,jh]at h
 |cons x r=>cases r<;>first|exact⟨x,rfl⟩|(cases f<;>simp[aD,cg,jh,k5,dB]at h z)
def Ht:bU X (.builtin "len") (RBM X.K (aD .len)):=by
 intro pins s σ H xs us Q I r h;obtain⟨O,vs,v,hO,rs,e,q⟩:=h;obtain⟨x,rfl⟩:=c9 e (.inl rfl);obtain⟨u,rfl,U⟩:=p1 rs;cases x<;>simp[aD,cg]at e<;>try (cases e;done)
 .cases e;obtain⟨a,J,rfl,Y,Z⟩:=U.tup;exact hV pins s σ H _ us Q I r ⟨a,J,rfl,.inr Y,by rw[<- Z.length];exact q _ H (ai.refl H) (b7 _ _)⟩
 .cases e;obtain⟨a,J,rfl,Y,Z⟩:=U.lst;exact hV pins s σ H _ us Q I r ⟨a,J,rfl,.inl Y,by rw[<- Z.length];exact q _ H (ai.refl H) (b7 _ _)⟩
 .rename_i d;cases d with
  |k kvs =>
   cases e;obtain⟨a,rfl,ha⟩:=U.dI;obtain⟨u,rfl,ru⟩:=d8 r;cases ru;obtain⟨hz,hs,J,ao,dd⟩:=jl I.hok (show Rd H a (.dK _)from ha.rd);have z:J.length=kvs.length:=by rw[<- ao.length];unfold gI;rw[pd]
   have hz:kvs.length<=sizeLine:=by unfold gI at hz;rw[pd]at hz;exact hz
   have hn:=mF;exact call_len_dict hs dd (by rw[z];omega) ⟨.int kvs.length,H,I.tok _,⟨s.toks+1,by rw[z]⟩,q _ H (ai.refl H) (b7 _ _)⟩
  | _=>cases e
def vQ:bU X (.type "tuple") (RBM X.K (aD .tupleOf)):=by
 intro pins s σ H xs us Q I r h;refine aE λZq kq=>?_
 obtain⟨O,vs,v,hO,rs,e,q⟩:=h;obtain⟨x,rfl⟩:=c9 e (.inl rfl);obtain⟨u,rfl,z⟩:=p1 rs;simp[aD,cg,iD,pe]at e;obtain⟨ys,e,rfl⟩:=e;refine kq ?_;cases x<;>simp[bg]at e
 .subst e;obtain⟨a,J,rfl,U,Y⟩:=z.tup;refine jk pins s σ H _ us Q I r ⟨a,J,rfl,.inr ⟨U,q _ H (ai.refl H) ?_⟩⟩;exact z.tupR
 .subst e;obtain⟨a,J,rfl,U,Y⟩:=z.lst;exact jk pins s σ H _ us Q I r ⟨a,J,rfl,.inl ⟨U,λl Z=>q _ _ (aC Z _) (gK hO Z Y)⟩⟩
def RBF(K:Np)(f:List PV->Option PV):List V->Hp->VK->Prop:=λus H Q =>
 ∃O vs xs,(∀a∈O,H a≠none)/\Paired (bH K H O) vs us/\f vs=some (.lst xs)/\∀l z,H l=none->Reps K (ay H O) xs z->Q (.ref l) (upd H l (.lst z))
def E2:bU X (.type "list") (RBF X.K (aD .listOf)):=by
 intro pins s σ H xs us Q I r h;refine aE λZq J=>?_
 obtain⟨O,vs,v,hO,U,e,q⟩:=h;obtain⟨x,rfl⟩:=c9 e (.inl rfl);obtain⟨u,rfl,Y⟩:=p1 U;simp[aD,cg,iD,pe,PV.lst.injEq,exists_eq_right]at e;obtain⟨a,z,rfl,Z,t1⟩:=Y.seq e;refine J ?_;exact qd pins s σ H _ us Q I r ⟨a,z,rfl,Z,λl hl=>q l z hl t1⟩
theorem pE{K:Np} :∀{J}{us},Reps K F (J.map λt=>.tup (t.map .int)) us->uf K F us J
 | [],_,h=>by rw[map_nil,Reps]at h;subst h;exact .nil
 |t::J,_,h=>by
  obtain⟨u,r,rfl,q,z⟩:=h;obtain⟨a,vs,e,U,Y⟩:=q;rw[Y.ints]at U;exact .cons ⟨a,e,eE U⟩ (pE z)
theorem pF{K:Np}(s:ai F F'):∀{us}{z},uf K F us z->uf K F' us z
 | _,_,.nil=>.nil
 | _,_,.cons ⟨a,J,U⟩ t=>.cons ⟨a,J,s.seqT U⟩ (pF s t)
theorem pH{K:Np}(h:Reps K F xs us):∀(l:List Nat),(∀i∈l,i<us.length)->Reps K F (l.map λi=>xs.getD i .non) (l.map λi=>us.getD i .non)
 | [],_=>.nil
 |i::l,z=>by
  have hi:=z i (.head _);have hx:i<xs.length:=by rw[h.length];exact hi
  obtain⟨u,U,Y⟩:=h.get (J4 hx);refine .cons ?_ (pH h l λj J=>z j (.tail _ J))
  simp_all
def zr (g:Gf X T k cal):bU X (.builtin "sorted") (RBF X.K (aD .sorted)):=by
 intro pins s σ H xs us Q I r h;refine aE λZq kq=>?_
 obtain⟨O,vs,v,hO,rs,e,q⟩:=h;obtain⟨x,rfl⟩:=c9 e (.inl rfl);obtain⟨u,rfl,rx⟩:=p1 rs;simp only[aD,cg,m8,iD,jh,gf]at e;obtain⟨ys,e,J⟩:=e;obtain⟨a,ws,rfl,s1,U⟩:=rx.seq e;unfold iN at J;refine kq ?_;split at J
 .rename_i z;split at J
  .rename_i ns hn;cases J;have:=dA hn;subst this;have Z:=U.ints;subst Z;rw[pd]at z;refine j4 g.calm pins s σ H _ us Q I r ⟨a,ns,rfl,s1.imp id .inl,z,λl hl=>?_⟩;rw[<- dD];exact q l _ hl (.of_ints _)
  .simp only[pe,PV.lst.injEq]at J;obtain⟨Y,Z,rfl⟩:=J;have:=rY Z;subst this;rw[pd]at z;refine ql (by have:=g.units;omega) pins s σ H _ us Q I r ⟨a,ws,Y,rfl,s1,pF (bG H O) (pE U),z,λl pm hl hp e=>q l _ hl ?_⟩;have q2:=pH U pm hp;have e4:(pm.map λi=>(Y.map λt=>PV.tup (t.map .int)).getD i .non)=(sortT Y).map λt=>.tup (t.map .int):=by
    rw[km,<- e,J2];refine K6 λi hi=>?_
    have aO:i<Y.length:=by have:=hp i hi;rw[<- U.length,pd]at this;exact this
    simp[aO]
   rw[e4]at q2;exact q2
 .cases J
def Hu:bU X (.type "int") (RBM X.K (aD .intOf)):=by
 intro pins s σ H xs us Q I r h;refine aE λY J=>?_
 obtain⟨O,vs,v,Z,U,e,q⟩:=h;obtain⟨x,rfl⟩:=c9 e (.inl rfl);obtain⟨u,rfl,z⟩:=p1 U;refine J ?_;cases x<;>simp[aD,cg,iD]at e<;>try (cases e;done)
 .cases e;have:=z.bl;subst this;exact o4 pins s σ H _ us Q I r (.inr ⟨_,rfl,q _ H (ai.refl H) (b7 _ _)⟩)
 .cases e;have:=z.int;subst this;exact o4 pins s σ H _ us Q I r (.inl ⟨_,rfl,q _ H (ai.refl H) (b7 _ _)⟩)
def mw(h:iD x=some ys):x=.lst ys:=by
 cases x<;>cases h
 rfl
def E3 (J:dB b=some c):bU X (.builtin "isinstance") (λus H Q=>∃O v u,us=[u,.ty c]/\isD v=false/\bH X.K H O v u/\Q (.bl (isT b v)) H):=by
 intro pins s σ H xs us Q I r h;obtain⟨O,v,x,rfl,nd,U,q⟩:=h;obtain⟨u,t,rfl,Y,rc⟩:=G1 r;have Z:=rc;subst Z;have fin:∀z tk,z=isT b v->EP X pins σ Q (.bool z) { s with toks:=tk }:=λz tk e=>⟨.bl z,H,I.tok tk,rfl,by rw[e];exact q⟩
 cases v with
 |dI _=>cases nd
 |non =>
  have e:=U.non;subst e;cases (show u=Value.none from Y);cases b<;>simp only[dB,tf,reduceCtorEq]at J<;>subst J <;>
   exact PySem.W.kia_one PySem.W.kitx_none I.kIn True.intro (b:=false) (by first|rfl|kernel_rfl|decide) (λz=>nomatch z) λtk=>fin _ tk rfl
 |bl y =>
  have e:=U.bl;subst e;cases (show u=Value.bool y from Y);cases b<;>simp only[dB,tf,reduceCtorEq]at J<;>subst J<;>first
   |exact PySem.W.kia_one PySem.W.kitx_bool I.kIn True.intro (b:=true) (by first|rfl|kernel_rfl|decide) (λz=>nomatch z) λtk=>fin _ tk rfl
   |exact PySem.W.kia_one PySem.W.kitx_bool I.kIn True.intro (b:=false) (by first|rfl|kernel_rfl|decide) (λz=>nomatch z) λtk=>fin _ tk rfl
 |int y =>
  have e:=U.int;subst e;obtain⟨t,z⟩:=(show ∃t,u=Value.int y t from Y);cases z;cases b<;>simp only[dB,tf,reduceCtorEq]at J<;>subst J<;>first
   |exact PySem.W.kia_one PySem.W.kitx_int I.kIn True.intro (b:=true) (by first|rfl|kernel_rfl|decide) (λz=>nomatch z) λtk=>fin _ tk rfl
   |exact PySem.W.kia_one PySem.W.kitx_int I.kIn True.intro (b:=false) (by first|rfl|kernel_rfl|decide) (λz=>nomatch z) λtk=>fin _ tk rfl
 |str y =>
  have e:=U.str;subst e;obtain⟨t,z⟩:=(show ∃t,u=Value.str y t from Y);cases z;cases b<;>simp only[dB,tf,reduceCtorEq]at J<;>subst J<;>first
   |exact PySem.W.kia_one PySem.W.kitx_str I.kIn True.intro (b:=true) (by first|rfl|kernel_rfl|decide) (λz=>nomatch z) λtk=>fin _ tk rfl
   |exact PySem.W.kia_one PySem.W.kitx_str I.kIn True.intro (b:=false) (by first|rfl|kernel_rfl|decide) (λz=>nomatch z) λtk=>fin _ tk rfl
 |lst ys =>
  obtain⟨a,us,rfl,s1,t1⟩:=U.lst;cases (show u=Value.ref a from Y);obtain⟨its,_,p,_⟩:=I.list s1;obtain⟨o,h1,h2,_⟩:=p.isList;cases b<;>simp only[dB,tf,reduceCtorEq]at J<;>subst J<;>first
   |exact PySem.W.kia_one PySem.W.kitx_list I.kIn ⟨o,h1,h2⟩ (b:=true) (by first|rfl|kernel_rfl|decide) (λz=>nomatch z) λtk=>fin _ tk rfl
   |exact PySem.W.kia_one PySem.W.kitx_list I.kIn ⟨o,h1,h2⟩ (b:=false) (by first|rfl|kernel_rfl|decide) (λz=>nomatch z) λtk=>fin _ tk rfl
 |tup ys =>
  obtain⟨a,us,rfl,s1,t1⟩:=U.tup;cases (show u=Value.ref a from Y);obtain⟨its,_,p,_⟩:=I.tuple s1;obtain⟨o,h1,h2,_⟩:=p;cases b<;>simp only[dB,tf,reduceCtorEq]at J<;>subst J<;>first
   |exact PySem.W.kia_one PySem.W.kitx_tuple I.kIn ⟨o,h1,h2⟩ (b:=true) (by first|rfl|kernel_rfl|decide) (λz=>nomatch z) λtk=>fin _ tk rfl
   |exact PySem.W.kia_one PySem.W.kitx_tuple I.kIn ⟨o,h1,h2⟩ (b:=false) (by first|rfl|kernel_rfl|decide) (λz=>nomatch z) λtk=>fin _ tk rfl
theorem jN{K:Np} :∀{bs:List Bool}{us}{its},Reps K F (bs.map .bl) us->aL us its->its=bs.map Value.bool
 | [],_,_,h,w=>by rw[map_nil,Reps]at h;subst h;cases w;rfl
 |b::bs,_,_,h,w=>by
  obtain⟨u,r,rfl,q,t⟩:=h;subst q;cases w with
  |cons z J =>
   cases z;rw[jN t J];rfl
def w_(bs:List Bool):(range bs.length).all (λi=>bs.getD i false)=bs.all id:=by
 conv=>rhs;rw[<- Srt.i8 bs false]
 rw[MA]
 rfl
def xa(bs:List Bool):(range bs.length).any (λi=>bs.getD i false)=bs.any id:=by
 conv=>rhs;rw[<- Srt.i8 bs false]
 rw[List.any_map]
 rfl
def lF(bs:List Bool):TruthOf P w A (λi v=>(bs.map Value.bool).toArray[i]?=some v) (λi=>bs.getD i false):=by
 intro i v s Q E h q;simp only[getElem?_toArray,J9,pe]at h;obtain⟨b,e,rfl⟩:=h;have:bs.getD i false=b:=by rw[KC,e];rfl
 have z:Q (bs.getD i false) s:=q;rw[this]at z;exact K1 z
def Hv (hc:X.calm=true):bU X (.builtin "any") (RBM X.K (aD .any)):=by
 intro pins s σ H xs us Q I r h;refine aE λZq U=>?_
 obtain⟨O,vs,v,hO,Y,e,q⟩:=h;obtain⟨x,rfl⟩:=c9 e (.inl rfl);obtain⟨u,rfl,Z⟩:=p1 Y;simp[aD,cg,gf,pe]at e;obtain⟨ys,e0,bs,e,rfl⟩:=e;obtain rfl:=mw e0;have:=kZ e;subst this;obtain⟨a,ws,rfl,s1,t1⟩:=Z.lst;obtain⟨u,rfl,ru⟩:=d8 r;cases ru;obtain⟨its,r',z,hz⟩:=I.list s1;have:=jN t1 r';subst this;have J:a<s.heap.objs.size:=by obtain⟨o,ho,_⟩:=z.isList;exact r4 ho
 refine U ?_;refine call_any_walk (LN z.isList ?_);refine⟨s.heap.objs.size,_,_,_,_,_,λi=>bs.getD i false,rfl,Walks.list (by first|exact I.ok.hd hc|simpa using I.ok.hd hc) s.heap.objs.size a (JV J) (bs.map Value.bool).toArray,⟨⟨_,uw _ rfl,rfl,rfl⟩,z.isList.push _⟩,lF bs,λh' tk hk=>?_⟩;have e2:(range (bs.map Value.bool).toArray.size).any (λi=>bs.getD i false)=bs.any id:=by
  rw[ro,pd];exact xa bs
 rw[e2];refine⟨.bl _,H,?_,rfl,q _ H (ai.refl H) (eF _ _)⟩;refine I.kept λb o e=>hk b o ?_ (g4 _ e)
 intro hm;have hb:=r4 e
 simp_all
def Hw (hc:X.calm=true):bU X (.builtin "all") (RBM X.K (aD .all)):=by
 intro pins s σ H xs us Q I r h;refine aE λZq U=>?_
 obtain⟨O,vs,v,hO,Y,e,q⟩:=h;obtain⟨x,rfl⟩:=c9 e (.inl rfl);obtain⟨u,rfl,Z⟩:=p1 Y;simp only[aD,cg,gf,pe]at e;obtain⟨ys,e0,bs,e,rfl⟩:=e;obtain rfl:=mw e0;have:=kZ e;subst this;obtain⟨a,ws,rfl,s1,t1⟩:=Z.lst;obtain⟨u,rfl,ru⟩:=d8 r;cases ru;obtain⟨its,r',z,hz⟩:=I.list s1;have:=jN t1 r';subst this;have J:a<s.heap.objs.size:=by obtain⟨o,ho,_⟩:=z.isList;exact r4 ho
 refine U ?_;refine call_all_walk (LN z.isList ?_);refine⟨s.heap.objs.size,_,_,_,_,_,λi=>bs.getD i false,rfl,Walks.list (by first|exact I.ok.hd hc|simpa using I.ok.hd hc) s.heap.objs.size a (JV J) (bs.map Value.bool).toArray,⟨⟨_,uw _ rfl,rfl,rfl⟩,z.isList.push _⟩,lF bs,λh' tk hk=>?_⟩;have e2:(range (bs.map Value.bool).toArray.size).all (λi=>bs.getD i false)=bs.all id:=by
  rw[ro,pd];exact w_ bs
 rw[e2];refine⟨.bl _,H,?_,rfl,q _ H (ai.refl H) (eF _ _)⟩;refine I.kept (t':=tk) λb o e=>hk b o ?_ (g4 _ e)
 intro hm;have hb:=r4 e
 simp_all
theorem lG(ns:List Int):∀k,k<=ns.length->preSum (λi=>ns.getD i 0) k=(ns.take k).sum
 |0,_=>by simp[preSum]
 |k+1,h=>by
  have e:ns.take (k+1)=ns.take k++[ns.getD k 0]:=by
   rw[take_succ,KC,J4 (by omega)]
   rfl
  rw[preSum,lG ns k (by omega),e,sum_append];simp
def Hx (hc:X.calm=true):bU X (.builtin "sum") (RBM X.K (aD .sum)):=by
 intro pins s σ H xs us Q I r h;obtain⟨O,vs,v,hO,rs,e,q⟩:=h;obtain⟨x,rfl⟩:=c9 e (.inl rfl)
 .refine aE λZq kq=>?_
  simp only[aD,cg,gf,pe]at e;obtain⟨ys,e9,ns,e0,rfl⟩:=e;obtain rfl:=mw e9;have:=dA e0;subst this;obtain⟨u,rfl,rx⟩:=p1 rs;obtain⟨a,ws,rfl,s1,t1⟩:=rx.lst;have:=t1.ints;subst this;obtain⟨u,rfl,ru⟩:=d8 r;cases ru;obtain⟨its,r',Y,hz⟩:=I.list s1;have ia:=c8 r';have hl:=r'.length;rw[pd]at hl;have J:a<s.heap.objs.size:=by obtain⟨o,ho,_⟩:=Y.isList;exact r4 ho
  have hh:X.A.in1.handled=none:=by simpa using I.ok.hd hc
  refine kq ?_;refine call_sum_walkAnyS (LN Y.isList ⟨s.heap.objs.size,_,_,_,_,_,_,λi=>ns.getD i 0,rfl,(Walks.list hh s.heap.objs.size a (JV J) its.toArray).toS,⟨⟨_,uw _ rfl,rfl,rfl⟩,Y.isList.push _⟩,λb hb=>?_,λi v hv=>St.l8 (items:=its.toArray) (by simpa using ia) i v hv,λs' t' U=>?_⟩)
  .simp only[JY,Lw,Mg]at hb;rw[Kc];rcases hb with rfl|rfl
   .simp_all
   .exact Kl J
  .obtain⟨h',g',d',tk,Z⟩:=s';have e1:g'=s.gens:=U.gens;have e2:d'=s.drawn:=U.drawn;have e3:Z=s.os:=U.os;subst e1 e2 e3;rw[ro,<- hl,lG ns ns.length (pb _),take_length];refine⟨.int ns.sum,H,I.kept (t':=tk) λb o eb=>U.heap b o (λz=>?_) (g4 _ eb),⟨_,rfl⟩,q _ H (ai.refl H) (b7 _ _)⟩;rw[Ke.mp z]at eb;exact absurd (r4 eb) (Kq _)
def pI:∀{ns}{m},yY ns=some m->m∈ns/\∀x∈ns,x<=m
 |n::ns,m,h=>by
  have gen:∀l (a:Int),(l.foldl (λa b=>if a<b then b else a) a∈a::l)/\a<=l.foldl (λa b=>if a<b then b else a) a/\∀x∈l,x<=l.foldl (λa b=>if a<b then b else a) a:=by
   intro l
   induction l with
   |nil=>intro a;exact⟨.head _,Int.le_refl _,λx hx=>by cases hx⟩
   |cons b l ih =>
    intro a;obtain⟨h1,h2,z⟩:=ih (if a<b then b else a);rw[foldl_cons];refine⟨?_,?_,λx hx=>?_⟩
    .rcases JY.mp h1 with e|e
     .rw[e];split
      .exact .tail _ (.head _)
      .exact .head _
     .exact .tail _ (.tail _ e)
    .exact Int.le_trans (by split<;>omega) h2
    .rcases JY.mp hx with rfl|hx
     .exact Int.le_trans (by split<;>omega) h2
     .exact z x hx
  obtain⟨h1,h2,z⟩:=gen ns n;cases h;exact⟨h1,λx hx=>by
   rcases JY.mp hx with rfl|hx
   .exact h2
   .exact z x hx⟩
def E4 (hc:X.calm=true):bU X (.builtin "max") (RBM X.K (aD .max1)):=by
 intro pins s σ H xs us Q I r h;refine aE λZq kq=>?_
 obtain⟨O,vs,v,hO,rs,e,q⟩:=h;obtain⟨x,rfl⟩:=c9 e (.inl rfl);simp only[aD,cg,gf,pe]at e;obtain⟨ys,e9,ns,e0,m,em,rfl⟩:=e;obtain rfl:=mw e9;have:=dA e0;subst this;obtain⟨u,rfl,rx⟩:=p1 rs;obtain⟨a,ws,rfl,s1,t1⟩:=rx.lst;have:=t1.ints;subst this;obtain⟨u,rfl,ru⟩:=d8 r;cases ru;obtain⟨its,Z,pl,hz⟩:=I.list s1;have ia:=c8 Z;have hl:=Z.length;rw[pd]at hl;obtain⟨J,b4⟩:=pI em;have aO:=length_pos_iff.mpr (ne_nil_of_mem J);obtain⟨zs,U⟩:=ia.allInts.items;have b5:zs.size=ns.length:=by
  have:=Kf Array.size U;simp[intItems]at this;omega
 have num:∀i,i<ns.length->numAt zs i=ns.getD i 0:=λi hi=>by
  have h1:(intItems zs)[i]?=some (.int (zs[i]'(by omega)).1 (zs[i]'(by omega)).2):=by simp[intItems,show i<zs.size by omega]
  obtain⟨t,e1⟩:=intItems_at h1;obtain⟨t',e2⟩:=St.l8 (items:=its.toArray) (by simpa using ia) i _ (by rw[U];exact h1)
  simp_all
 have z:s.heap.IsList a (intItems zs):=by rw[<- U];exact pl.isList
 refine kq ?_;refine max_intList (I.ok.hd hc) z (by omega) λv h' tk hv hk=>?_
 obtain⟨t,rfl⟩:=intItems_at hv;obtain⟨b1,b2⟩:=argBest_gt (numAt zs) (zs.size-1);generalize argBest (λi j=>decide (numAt zs i > numAt zs j)) (zs.size-1)=k at b1 b2;have Y:k<ns.length:=by omega
 have e1:numAt zs k=m:=by
  refine Int.le_antisymm ?_ ?_
  .rw[num k Y]
   simp_all
  .obtain⟨j,hj,rfl⟩:=getElem_of_mem J;have:=b2 j (by omega);rw[num j hj,KC,J4 hj]at this;exact this
 rw[e1];exact⟨.int m,H,I.kept (t':=tk) hk,⟨_,rfl⟩,q _ H (ai.refl H) (b7 _ _)⟩
def vR (hc:X.calm=true):bU X (.type "set") (λus H Q=>∃O v u ns,us=[u]/\bH X.K H O v u/\((bg v).bind bf)=some ns/\ns.length<=4000/\∀l,H l=none->Q (.ref l) (upd H l (jo X.prog X.w l (St.dd ns.reverse)))):=by
 intro pins s σ H xs us Q I r h;obtain⟨O,v,u,ns,rfl,J,e,z,q⟩:=h;simp only[gf]at e;obtain⟨ys,U,Y⟩:=e;obtain⟨a,ws,rfl,Z,t1⟩:=J.seq U;have:=dA Y;subst this;have e3:=t1.ints;subst e3;exact yH hc pins s σ H _ us Q I r ⟨a,ns,rfl,Z,z,λl hl=>q l hl⟩
def sk (hc:X.calm=true):bU X (.builtin "sorted") (λus H Q=>∃l ks,us=[.ref l]/\H l=some (jo X.prog X.w l ks)/\ks.length<64/\∀p,H p=none->Q (.ref p) (upd H p (.lst ((Srt.sortI ks).map V.int)))):=by
 intro pins s σ H xs us Q I r h;obtain⟨l,ks,rfl,e,z,q⟩:=h;exact j4 hc pins s σ H _ us Q I r ⟨l,ks,rfl,.inr (.inr e),z,q⟩
end
end MM
namespace L2
open PySem PySem.Spec PyProof.Rows List Option
def Inv.turned2(I:Inv X pins σ H s)(he:s.heap.get? e=some J)(hf:J.isFreed=false)(Z:∃o,h'.get? e=some o)
  (k:∀b o,b≠e->b≠it->s.heap.get? b=some o->h'.get? b=some o) (fe:kL X pins H e) (fi:kL X pins H it):Inv X pins σ H { s with heap:=h',toks:=t' }:=by
 obtain⟨o',ao⟩:=Z;obtain⟨a0,a1,a2,a3,a4,a5⟩:=fe;obtain⟨b0,b1,b2,b3,b4,b5⟩:=fi;have aO:(h'.update e λ_=>J).get? e=some J:=KA _ ao hf;have U:∀b,b≠e->(h'.update e λ_=>J).get? b=h'.get? b:=λb Y=>(Kk h' e _).2 b Y
 have I1:Inv X pins σ H { s with heap:=h'.update e λ_=>J,toks:=t' }:=I.turned (it:=it) (λb o Y q=>by
  by_cases z:b=e
  .subst z;rw[aO,<- he];exact q
  .rw[U b z];exact k b o z Y q) b0 b1 b3 b4 b5
 exact Inv.turned (s:={ s with heap:=h'.update e λ_=>J,toks:=t' }) (it:=e) I1 (λb o Y q=>by
  have q:=q;rw[U b Y]at q;exact q) a0 a1 a3 a4 a5
noncomputable def Ite(q:Hp->List V->Prop):It:=
 ⟨λi H=>∃xs,q H xs/\i<xs.length,λi H x H'=>∃p,x=.ref p/\H p=none/\∃u,H'=upd H p (.tup [.int i,u])/\∀xs,q H xs->xs[i]?=some u,λi H=>∃xs,q H xs/\i=xs.length⟩
structure Src(P:Program)(w:World)(K:Np)(a it:Addr)(q:Hp->List V->Prop)(r:Nat->Heap->Prop):Prop where
 ne:a≠it
 keep:∀i h h',r i h->(∀o,h.get? it=some o->h'.get? it=some o)->r i h'
 live:∀i h,r i h->∃o,h.get? it=some o/\∀v,o.data≠.cell v
 one:∀(X:Cx),X.K=K->∀(pins:List (Addr×Obj)) (s:Shared) (σ:St) (H:Hp) (xs ys:List V),Inv X pins σ H s->q H xs->q H ys->xs=ys
 row:∀(X:Cx),X.prog=P->X.w=w->X.K=K->∀(pins:List (Addr×Obj)) (s:Shared) (σ:St) (H:Hp) (xs:List V),Inv X pins σ H s->q H xs->∃(its:List Value),aL xs its/\∀(A:Around),A.handled=none ->
  ∃St:Nat->Heap->Prop,Draws P w A it [it,a] its.length (λi v=>its[i]?=some v) St/\(∀i,r i s.heap->St i s.heap)/\∀i h,St i h->r i h
def zt{K:Np}(S:Src P w K a it q r)(ao:e≠it)(a9:e≠a) :
  tP P w K (.Tuple ts j tp) (Ite q) [e,it] e (λi h=>(∃old,IsEnum h e it (i:Nat) old)/\r i h) where
 mem:=.head _
 obj:=λi h st b J=>by
  obtain⟨⟨old,U⟩,Y⟩:=st;rcases JY.mp J with rfl|J
  .exact⟨_,U,λv z=>by cases z⟩
  .have z:b=it:=by simpa using J
   subst z;exact S.live i h Y
 keep:=λi h h' ⟨⟨old,U⟩,Y⟩ k=>⟨⟨old,k e (.head _) _ U⟩,S.keep i h h' Y (k it (.tail _ (.head _)))⟩
 item:=by
  intro X hP hw hK hc i pins s σ H E I hf st hg;obtain⟨⟨old,U⟩,Y⟩:=st;obtain⟨xs,hq,hi⟩:=hg;obtain⟨its,rv,dr⟩:=S.row X hP hw hK pins s σ H xs I hq;have hh:=I.ok.hd hc;obtain⟨St,D,Z,aO⟩:=dr X.A.in1 (by simpa using hh);have hl:=rv.length;have fe:=hf e (.head _);have fi:=hf it (.tail _ (.head _));refine wpAny_pyNext_enum_itemD D U (Z i Y) (by omega) ao (by simp only[JY,Lw,Mg,not_or];exact⟨ao,a9⟩) λx h' tk px eo b3 tup sz kp=>?_
  refine⟨_,rfl,wpAny_letOwnedTupleGo_enum eo λh2 a0 a1=>?_⟩;have hx:=hi;obtain⟨u,hu,ru⟩:=rv.get (J4 hx);have ex:x=u:=by
   have:=px.symm.trans hu;simpa using this
  subst ex;have fresh:=I.hok.fresh (pb _);have ne:∀b o,s.heap.get? b=some o->b≠s.heap.objs.size:=λb o q z=>Kq _ (by have:=r4 q;rw[z]at this;exact this)
  have en:=ne _ _ U;obtain⟨oi,b4,_⟩:=S.live i _ Y;have a2:=ne _ _ b4;have I1:Inv X pins σ (upd H s.heap.objs.size (.tup [.int i,xs[i]])) { s with heap:=s.heap.push { cls:=.type "tuple",data:=.seq #[.int i tk,x] } }:=
   I.laid (t':=s.toks) (λb o q=>g4 _ q) (pb _) ⟨by show 2<=sizeLine;decide,_,.cons ⟨_,rfl⟩ (.cons ru .nil),IsTup.new _ _⟩
  have up:∀b,b≠s.heap.objs.size->kL X pins H b->kL X pins (upd H s.heap.objs.size (.tup [.int i,xs[i]])) b:=λb J ⟨z,r⟩=>⟨by rw[bc J];exact z,r⟩
  have I2:=I1.turned2 (h':=h2) (t':=tk+1) (e:=e) (it:=it) (g4 _ U) rfl ⟨_,a0⟩ (λb o a3 b5 q=>?_) (up e en fe) (up it a2 fi)
  .refine⟨.ref s.heap.objs.size,_,I2,rfl,⟨_,rfl,fresh,_,rfl,λys hy=>?_⟩,⟨⟨_,by simpa using a0⟩,?_⟩,λb J=>?_⟩
   .rw[S.one X hK pins s σ H ys xs I hy hq];exact J4 hx
   .refine aO _ _ (D.frame _ _ _ b3 λb J o q=>?_);rw[a1.2 b λz=>?_]
    .exact q
    .simp_all
   .rcases JY.mp J with rfl|J
    .exact(up b en fe).1
    .have z:b=it:=by simpa using J
     subst z;exact(up b a2 fi).1
  .rw[a1.2 b a3];rcases Heap.get?_push_cases q with⟨rfl,rfl⟩|q
   .exact tup
   .exact kp b o a3 b5 q
 done:=by
  intro X hP hw hK hc i pins s σ H E I hf st hg;obtain⟨⟨old,U⟩,Y⟩:=st;obtain⟨xs,hq,hi⟩:=hg;obtain⟨its,rv,dr⟩:=S.row X hP hw hK pins s σ H xs I hq;have hh:=I.ok.hd hc;obtain⟨St,D,Z,aO⟩:=dr X.A.in1 (by simpa using hh);have hl:=rv.length;obtain⟨f0,f1,f2,f3,f4,f5⟩:=hf it (.tail _ (.head _));have e:i=its.length:=by omega
  subst e;exact wpAny_pyNext_enum_endD D U (Z _ Y) λh' eb=>⟨rfl,I.turned (t':=s.toks) (λb o J q=>eb b o J q) f0 f1 f3 f4 f5⟩
 self:=λ_ i s Q E ⟨⟨old,U⟩,_⟩ h=>wpAny_pyIter_enum U h
def zu{K:Np}(ne:a≠it):Src P w K a it (λH xs=>SqL K H a xs) (λi h=>h.IsListIter it a i) where
 ne:=ne
 keep:=λi h h' ⟨o,ho,r⟩ k=>⟨o,k o ho,r⟩
 live:=λi h ⟨o,ho,_,hd⟩=>⟨o,ho,λv z=>by rw[hd]at z;cases z⟩
 one:=λX J pins s σ H xs ys I h h'=>by subst J;exact I.list_inj h h'
 row:=λX U hw J pins s σ H xs I h=>by
  subst U hw J;obtain⟨its,Y,p,_⟩:=I.list h;refine⟨its,Y,λA Z=>⟨λi h=>h.IsListIter it a i/\h.IsList a its.toArray,?_,λi st=>⟨st,p.isList⟩,λi h' st=>st.1⟩⟩;simpa using Draws.list (prog:=X.prog) (w:=X.w) Z it a ne its.toArray
def Cc{K:Np}(ne:a≠it):Src P w K a it (λH xs=>SqT K H a xs) (λi h=>h.IsTupleIter it a i) where
 ne:=ne
 keep:=λi h h' ⟨o,ho,r⟩ k=>⟨o,k o ho,r⟩
 live:=λi h ⟨o,ho,_,hd⟩=>⟨o,ho,λv z=>by rw[hd]at z;cases z⟩
 one:=λX J pins s σ H xs ys I h h'=>by subst J;exact I.tuple_inj h h'
 row:=λX U hw J pins s σ H xs I h=>by
  subst U hw J;obtain⟨its,Y,p,_⟩:=I.tuple h;refine⟨its,Y,λA Z=>⟨λi h=>h.IsTupleIter it a i/\h.IsTuple a its.toArray,?_,λi st=>⟨st,(show s.heap.IsTuple a its.toArray from p)⟩,λi h' st=>st.1⟩⟩;simpa using En.draws (P:=X.prog) (w:=X.w) Z it a ne its.toArray
noncomputable def Jv(K:Np)(tl:TE):TI:=λσ H R=>tl σ H λx H1=>∃a,x=.ref a/\(((∃xs,SqL K H1 a xs)/\R (Ite λH xs=>SqL K H a xs) H1)\/((∃xs,SqT K H1 a xs)/\R (Ite λH xs=>SqT K H a xs) H1))
def sm{σ:St}{H:Hp}{s:Shared}{E:Value->Shared->Prop}{h':Heap}{U:List Expr}{j:Nat}{Y:Pos}{a:Addr}{q:Hp->List V->Prop}{r:Nat->Heap->Prop}{R:It->Hp->Prop}(I:Inv X pins σ H s)(Z:a<s.heap.objs.size)
  (S:Src X.prog X.w X.K a s.heap.objs.size q r) (J:IsEnum h' (s.heap.objs.size+1) s.heap.objs.size 0 .none) (hr:r 0 h') (k:∀b o,s.heap.get? b=some o->h'.get? b=some o) (hR:R (Ite q) H) :
  wpAny (model X.prog X.w) X.A (pyIter (.ref (s.heap.objs.size+1))) (PIE X pins σ (.Tuple U j Y) R) E { s with heap:=h' }:=by
 have I1:=I.kept (t':=s.toks) k;refine wpAny_pyIter_enum (s:={ s with heap:=h' }) J ⟨s.heap.objs.size+1,[s.heap.objs.size+1,s.heap.objs.size],_,_,H,rfl,I1,zt S (Nat.succ_ne_self _) (KR (Kl Z)),⟨⟨_,J⟩,hr⟩,λb z=>?_,hR⟩;have z:s.heap.objs.size<=b:=by
  simp only[JY,Lw,Mg]at z;rcases z with rfl|rfl
  .exact Lh _
  .exact pb _
 exact I.fpOk z (I.hok.fresh z)
def zv (hg:Gl X "enumerate") (hm:X.mg "enumerate"=none) (hl:PE X l tl) (hs:starEach [l] X.env=[(false,eval l X.env)]:=by rfl) :
  PI X (.Tuple ts j tp) (.Call (.Name "enumerate" p) [l] [] pos) (Jv X.K tl):=by
 intro pins s σ H R I h;refine Call_ (iH I hg hm PyProof.Rows.boot_enumerate (KG (thn (aN hl bF hs pos pins s σ H (λvs H1=>match vs with
  | [x]=>∃a,x=.ref a/\(((∃xs,SqL X.K H1 a xs)/\R (Ite λH xs=>SqL X.K H a xs) H1)\/((∃xs,SqT X.K H1 a xs)/\R (Ite λH xs=>SqT X.K H a xs) H1))
  | _=>False) I h) λus s1 ⟨vs,H1,J,r1,U⟩=>?_) hs rfl))
 cases r1 with
 |nil=>exact U.elim
 |cons r rr =>
  cases rr with
  |cons _ _=>exact U.elim
  |nil =>
   obtain⟨a,e,q⟩:=U;subst e;cases r;rcases q with⟨⟨xs,Y⟩,q⟩|⟨⟨xs,Y⟩,q⟩
   .obtain⟨its,_,pl,_⟩:=J.list Y;have z:=let ⟨o,ho,_⟩:=pl.isList;r4 ho
    exact call_enumerate_list pl.isList λh' Z it _ k=>sm J z (zu (JV z)) Z it k q
   .obtain⟨its,_,pt,_⟩:=J.tuple Y;have z:=let ⟨o,ho,_⟩:=pt;r4 ho
    exact En.call_tup pt λh' Z it _ k=>sm J z (Cc (JV z)) Z it k q
end L2
namespace MM
open PySem PySem.Spec PyProof.Rows L2 List Option
structure nu(K:Np)(J:It)(xs:List PV)(V G:Hp):Prop where
 stop:∀H',ai G H'->J.stop xs.length H'
 go:∀(i:Nat) x H',ai G H'->xs[i]?=some x->J.go i H'
 yld:∀(i:Nat) x H' u H2,ai G H'->xs[i]?=some x->J.yld i H' u H2->ai H' H2/\∀O',(∀a∈O',H' a≠none)->ai V (ay H2 O')->Rep K (ay H2 O') x u
def nu.weak{K:Np}{V G z:Hp}(h:nu K J xs V G)(s:ai G z):nu K J xs V z:=
 ⟨λH' s'=>h.stop H' (s.trans s'),λi x H' s'=>h.go i x H' (s.trans s'),λi x H' u H2 s'=>h.yld i x H' u H2 (s.trans s')⟩
noncomputable def be(ms:List ME)(W:Rho)(σ:St):List Addr:=match ms with
 | [.bor i]=>(match (W[i]?).join,(σ[i]?).join with|some (.own _),some (.ref a)=>[a]|_,_=>[])
 | _=>[]
noncomputable def bj(B:Hp)(O:List Addr)(H:Hp)(L:List Addr):Hp:=λb=>if b∈O then(if b∈L then H b else B b)else H b
section
variable{K:Np}{B H:Hp}{O L:List Addr}
def nv(s:ai B H):ai (bj B O H L) H:=λb u e=>by
 unfold bj at e;split at e
 .split at e
  .exact e
  .exact s b u e
 .exact e
def d_(s:ai B H):ai B (bj B O H L):=λb u e=>by
 unfold bj;split
 .split
  .exact s b u e
  .exact e
 .exact s b u e
def cm:ai (ay H O) (bj B O H L):=λb u e=>by
 have J:b∉O:=λz=>by rw[eQ z]at e;cases e
 unfold bj;rw[if_neg J];rw[bh J]at e;exact e
end
def mx{K:Np}{V G:Hp}(h:SqL K G a us)(r:Reps K V xs us):nu K (Itl K a) xs V G where
 stop:=λH' s=>⟨us,s.seq h,Lj r.length.symm⟩
 go:=λi x H' s e=>by
  obtain⟨u,z,_⟩:=r.get e;exact⟨us,u,s.seq h,z⟩
 yld:=λi x H' u H2 s e y=>by
  obtain⟨rfl,y⟩:=y;obtain⟨w,z,q⟩:=r.get e;have J:=y us (s.seq h);rw[z]at J;cases J;exact⟨ai.refl _,λU _ sv=>Rep.mono sv _ q⟩
def zw{K:Np}{V G:Hp}(h:SqT K G a us)(r:Reps K V xs us):nu K (Itt K a) xs V G where
 stop:=λH' s=>⟨us,s.seqT h,Lj r.length.symm⟩
 go:=λi x H' s e=>by
  obtain⟨u,z,_⟩:=r.get e;exact⟨us,u,s.seqT h,z⟩
 yld:=λi x H' u H2 s e y=>by
  obtain⟨rfl,y⟩:=y;obtain⟨w,z,q⟩:=r.get e;have J:=y us (s.seqT h);rw[z]at J;cases J;exact⟨ai.refl _,λU _ sv=>Rep.mono sv _ q⟩
def nw{K:Np}{V G:Hp}{lo:Int} :nu K (Itr lo n) ((range n).map λ(k:Nat)=>.int (lo+k)) V G where
 stop:=λH' s=>by simp[Itr]
 go:=λi x H' s e=>by
  have:=(JZ.mp e).1;simpa[Itr]using this
 yld:=λi x H' u H2 s e y=>by
  obtain⟨rfl,rfl⟩:=y;refine⟨ai.refl _,λz _ sv=>?_⟩;have hi:i<n:=by have:=(JZ.mp e).1;simpa using this
  rw[J9,getElem?_range hi]at e;cases e;rw[Rep]
def E5{K:Np}(J:∀a∈O,H a≠none)(U:H p=none)(h:Reps K (ay (upd H p (.tup us)) O) xs us):Rep K (ay (upd H p (.tup us)) O) (.tup xs) (.ref p):=by
 refine⟨p,us,rfl,?_,h⟩;rw[bh λz=>J p z U];exact aB ..
theorem vS:∀xs (k i:Nat),(bB k xs)[i]?=(xs[i]?).map λx=>.tup [.int ((k+i:Nat):Int),x]
 | [],k,i=>by simp[bB]
 |x::xs,k,0=>by simp[bB]
 |x::xs,k,i+1=>by
  rw[bB,getElem?_cons_succ,getElem?_cons_succ,vS xs (k+1) i,show k+1+i=k+(i+1)by omega]
theorem ny:∀xs k,(bB k xs).length=xs.length
 | [],_=>rfl
 |x::xs,k=>by rw[bB,length_cons,length_cons,ny xs]
def k9{K:Np}{V G:Hp}{q:Hp->List L2.V->Prop}{xs:List PV}{us:List L2.V}(h:∀H',ai G H'->q H' us)(r:Reps K V xs us):nu K (Ite q) (bB 0 xs) V G where
 stop:=λH' s=>⟨us,h H' s,by rw[ny];exact r.length⟩
 go:=λi x H' s e=>by
  refine⟨us,h H' s,?_⟩;have:=(JZ.mp e).1;rw[ny]at this;rw[<- r.length];exact this
 yld:=λi x H' u H2 s e y=>by
  refine aE λZq Y=>?_
  obtain⟨p,rfl,J,v,rfl,y⟩:=y;rw[vS]at e;obtain⟨z,Z,rfl⟩:=pe.mp e;obtain⟨w,e2,rz⟩:=r.get Z;have U:=y us (h H' s);rw[e2]at U;cases U;refine Y ?_;refine⟨aC J _,λO' hO sv=>?_⟩;rw[Ly];refine E5 hO J (.cons (b7 _ _) (.cons (Rep.mono sv _ rz) .nil))
noncomputable def tW(K:Np)(cal:Cal)(k:Sk)(ms:List ME):TI:=λσ H R =>
 ∃B E O W vs xs,aF K B E O H W σ/\evs cal ms W=some vs/\bm k vs=some xs/\∀J H1,ai H H1->nu K J xs (ay H1 O) (bj B O H1 (be ms W σ))->R J H1
section
variable{X:Cx}{cal:Cal}{tg:Expr}
theorem PI.or(h:PI X tg e t)(g:PI X tg e u):PI X tg e (λσ H R=>t σ H R\/u σ H R):=λpins s σ H R I q=>q.elim (h pins s σ H R I) (g pins s σ H R I)
theorem qB:∀{ms}{W}{vs},evs cal ms W=some vs->vs.length=ms.length
 | [],_,_,h=>by simp[evs]at h;subst h;rfl
 |m::ms,_,_,h=>by
  simp[evs,gf]at h;obtain⟨v,_,w,z,rfl⟩:=h;simp[qB z]
def sn(h:evs cal [m] W=some vs):∃v,vs=[v]/\ev cal m W=some v:=by
 simp[evs,gf]at h;obtain⟨v,e,w,z,rfl⟩:=h
 simp_all
def qC{K:Np}(h:Rep K F v u)(e:bg v=some xs):∃a us,u=.ref a/\Reps K F xs us/\((v=.lst xs/\SqL K F a us)\/(v=.tup xs/\SqT K F a us)):=by
 cases v<;>first|(simp[bg]at e;subst e;rw[Rep]at h;obtain⟨a,us,e,q,r⟩:=h;exact⟨a,us,e,r,.inl ⟨rfl,q⟩⟩)|(simp[bg]at e;subst e;rw[Rep]at h;obtain⟨a,us,e,q,r⟩:=h;exact⟨a,us,e,r,.inr ⟨rfl,eE q⟩⟩)|simp[bg]at e
def Hy(U:aM m=false)(h:PE X e (tE X.K cal m)):PI X tg e (tW X.K cal .seq [m]):=by
 refine(PI.or (va h) (xX h)).imp λσ H R q=>?_
 obtain⟨B,E,O,W,vs,xs,st,e1,e2,q⟩:=q;obtain⟨v,rfl,Z⟩:=sn e1;have z:bg v=some xs:=e2;have hl:be [m] W σ=[]:=by cases m<;>first|rfl|cases U
 rw[hl]at q;cases v with
 |lst ys =>
  simp[bg]at z;subst z
  refine .inl ⟨B,E,O,W,_,st,Z,λu H' s g=>?_⟩;have r:=g.2 U;rw[Rep]at r;obtain⟨a,us,rfl,J,Y⟩:=r;exact⟨a,rfl,⟨us,(bG H' O).seq J⟩,q _ _ s (mx (cm.seq J) Y)⟩
 |tup ys =>
  simp[bg]at z;subst z
  refine .inr ⟨B,E,O,W,_,st,Z,λu H' s g=>?_⟩;have r:=g.2 U;obtain⟨a,us,rfl,J,Y⟩:=r;exact⟨a,rfl,⟨us,(bG H' O).seqT (eE J)⟩,q _ _ s (zw (cm.seqT (eE J)) Y)⟩
 | _=>simp[bg]at z
def Hz(h:aV X.N X.env.scope i x=true):PI X tg (.Name x pos) (tW X.K cal .seq [.bor i]):=by
 refine(PI.or (va (b8 h)) (xX (b8 h))).imp λσ H R q=>?_
 refine aE λZq kq=>?_
 obtain⟨B,E,O,W,vs,xs,st,e1,e2,q⟩:=q;obtain⟨v,rfl,J⟩:=sn e1;have U:bg v=some xs:=e2;rw[ev]at J;refine kq ?_;cases hj:(W[i]?).join with
 |none=>rw[hj]at J;cases J
 |some m =>
  rw[hj]at J;obtain⟨u,eu,so⟩:=aY st hj;cases m with
  |val w =>
   simp only[bC,tf]at J;subst J;have a1:=so;obtain⟨a,us,rfl,Z,z⟩:=qC a1 U;rcases z with⟨rfl,Y⟩|⟨rfl,Y⟩
   .exact .inl ⟨_,eu,a,rfl,⟨us,(bG H O).seq Y⟩,q _ _ (ai.refl H) (mx (cm.seq Y) Z)⟩
   .exact .inr ⟨_,eu,a,rfl,⟨us,(bG H O).seqT Y⟩,q _ _ (ai.refl H) (zw (cm.seqT Y) Z)⟩
  |own ys =>
   simp only[bC,tf]at J;subst J;simp[bg]at U;subst U
   obtain⟨a,us,rfl,ha,Z,hO,_⟩:=so;refine .inl ⟨_,eu,a,rfl,⟨us,SqL.of ha⟩,q _ _ (ai.refl H) (mx (SqL.of ?_) Z)⟩;have hl:be [.bor i] W σ=[a]:=by simp[be,hj,eu]
   unfold bj
   simp_all
  |brw ys =>
   simp only[bC,tf]at J;subst J;simp[bg]at U;subst U
   obtain⟨a,us,rfl,Y,Z⟩:=so;exact .inl ⟨_,eu,a,rfl,⟨us,st.keep.seq Y⟩,q _ _ (ai.refl H) (mx ((d_ st.keep).seq Y) Z)⟩
  |ownD ys =>
   have J:=vG J;subst J;simp[bg]at U
  |mutD ys =>
   have J:=vI J;subst J;simp[bg]at U
  |brwD ys =>
   have J:=vH J;subst J;simp[bg]at U
def HA (g:Gf X T k cal) (hf:f=("enumerate":Str)) (hg:glB X.env.scope f=true) (hs:ag e=true) (hb:aM m=false) (h:PE X e (tE X.K cal m)):PI X (.Tuple ts j tp) (.Call (.Name f p) [e] [] pos) (tW X.K cal .enm [m]):=by
 subst hf;have J:starEach [e] X.env=[(false,eval e X.env)]:=by cases e<;>first|rfl|(simp[ag]at hs)
 refine(zv (dC hg) (g.blt "enumerate" (by decide)) h J).imp λσ H R q=>?_
 obtain⟨B,E,O,W,vs,xs,st,e1,Z,q⟩:=q;obtain⟨v,rfl,e3⟩:=sn e1;simp[bm,pe]at Z;obtain⟨ys,e4,rfl⟩:=Z;refine⟨B,E,O,W,_,st,e3,λu H' s g=>?_⟩;obtain⟨a,us,rfl,rs,z⟩:=qC (g.2 hb) e4;rcases z with⟨_,U⟩|⟨_,U⟩
 .exact⟨a,rfl,.inl ⟨⟨us,(bG H' O).seq U⟩,q _ _ s (k9 (λH2 Y=>Y.seq (cm.seq U)) rs)⟩⟩
 .exact⟨a,rfl,.inr ⟨⟨us,(bG H' O).seqT U⟩,q _ _ s (k9 (λH2 Y=>Y.seqT (cm.seqT U)) rs)⟩⟩
def E6 (g:Gf X T k cal) (hf:f=("enumerate":Str)) (hg:glB X.env.scope f=true) (h:aV X.N X.env.scope i x=true):PI X (.Tuple ts j tp) (.Call (.Name f p) [.Name x px] [] pos) (tW X.K cal .enm [.bor i]):=by
 subst hf;refine(zv (dC hg) (g.blt "enumerate" (by decide)) (b8 h) rfl).imp λσ H R q=>?_
 obtain⟨B,E,O,W,vs,xs,st,e1,e2,q⟩:=q;obtain⟨v,rfl,J⟩:=sn e1;simp only[bm,pe]at e2;obtain⟨zs,U,rfl⟩:=e2;rw[ev]at J;cases hj:(W[i]?).join with
 |none=>rw[hj]at J;cases J
 |some m =>
  rw[hj]at J;obtain⟨u,eu,so⟩:=aY st hj;cases m with
  |val w =>
   simp only[bC,tf]at J;subst J;have a2:=so;obtain⟨a,us,rfl,rs,z⟩:=qC a2 U;rcases z with⟨rfl,Y⟩|⟨rfl,Y⟩
   .exact⟨_,eu,a,rfl,.inl ⟨⟨us,(bG H O).seq Y⟩,q _ _ (ai.refl H) (k9 (λH2 Z=>Z.seq (cm.seq Y)) rs)⟩⟩
   .exact⟨_,eu,a,rfl,.inr ⟨⟨us,(bG H O).seqT Y⟩,q _ _ (ai.refl H) (k9 (λH2 Z=>Z.seqT (cm.seqT Y)) rs)⟩⟩
  |own ys =>
   simp only[bC,tf]at J;subst J;simp[bg]at U;subst U
   obtain⟨a,us,rfl,ha,rs,hO,_⟩:=so;have hl:be [.bor i] W σ=[a]:=by simp[be,hj,eu]
   have hG:bj B O H (be [.bor i] W σ) a=some (.lst us):=by
    unfold bj
    simp_all
   exact⟨_,eu,a,rfl,.inl ⟨⟨us,SqL.of ha⟩,q _ _ (ai.refl H) (k9 (λH2 Z=>Z.seq (SqL.of hG)) rs)⟩⟩
  |brw ys =>
   simp only[bC,tf]at J;subst J;simp[bg]at U;subst U
   obtain⟨a,us,rfl,Y,rs⟩:=so;exact⟨_,eu,a,rfl,.inl ⟨⟨us,st.keep.seq Y⟩,q _ _ (ai.refl H) (k9 (λH2 Z=>Z.seq ((d_ st.keep).seq Y)) rs)⟩⟩
  |ownD ys =>
   have J:=vG J;subst J;simp[bg]at U
  |mutD ys =>
   have J:=vI J;subst J;simp[bg]at U
  |brwD ys =>
   have J:=vH J;subst J;simp[bg]at U
abbrev Jw(as:List Expr):Prop:=as.length=1\/as.length=2
def Cd {T:Tab}{k:Nat}{ms:List ME}{args:List Expr}{f:Str}{p pos:Pos} (g:Gf X T k cal) (hf:f=("range":Str)) (hg:glB X.env.scope f=true) (ha:PA X args (tEs X.K cal ms)) (hn:Jw args) (hs:args.all ag=true) (hm:ms.length=args.length) :
  PI X tg (.Call (.Name f p) args [] pos) (tW X.K cal .rng ms):=by
 subst hf;have J:∀e,ag e=true->∀es env,starEach (e::es) env=(false,eval e env)::starEach es env:=λe he es env=>by
  cases e<;>first|rfl|(simp[ag]at he)
 match args,hn with
 | [a],_ =>
  simp only[all_cons,all_nil,Bool.and_true]at hs;refine(o3 (dC hg) (g.blt "range" (by decide)) ha (by rw[J a hs];rfl)).imp λσ H R q=>?_
  obtain⟨B,E,O,W,vs,xs,st,U,z,q⟩:=q;refine⟨B,E,O,W,vs,st,U,λus H' s gs=>?_⟩
  match vs,z,gs with
  | [.int j],z,gs =>
   simp only[bm]at z;split at z
   .rename_i c;cases z;obtain⟨u,rfl,Y⟩:=p1 gs.1;have Z:=Y.int;subst Z;exact⟨j,rfl,c.1,c.2,q _ _ s nw⟩
   .cases z
  | [.int j,.int j'],z,gs =>
   have:=qB U;simp at this hm;omega
 | [a,b],_ =>
  simp only[all_cons,all_nil,Bool.and_true,mu]at hs;refine(wD (dC hg) (g.blt "range" (by decide)) ha (by rw[J a hs.1,J b hs.2];rfl) (by rw[J b hs.2];rfl)).imp λσ H R q=>?_
  obtain⟨B,E,O,W,vs,xs,st,U,z,q⟩:=q;refine⟨B,E,O,W,vs,st,U,λus H' s gs=>?_⟩
  match vs,z,gs with
  | [.int i,.int j],z,gs =>
   simp only[bm]at z;split at z
   .rename_i c;cases z;obtain⟨u,u',rfl,Y,ao⟩:=p2 gs.1;have Z:=Y.int;have e4:=ao.int;subst Z e4;exact⟨i,j,rfl,c,q _ _ s nw⟩
   .cases z
  | [.int j],z,gs =>
   have:=qB U;simp at this hm;omega
end
noncomputable def tF(K:Np)(cal:Cal)(z:ME):TE:=λσ H Q=>∃B E O W xs,aF K B E O H W σ/\ev cal z W=some (.lst xs) /\
 ∀p us H',ai H H'->H p=none->H' p=some (.lst us)->Reps K (ay H' (p::O)) xs us->Q (.ref p) H'
def ic :ai (ay H (p::O)) (ay H O):=bR (ai.refl H) λb z=>.inl (KD _ z)
def iS(h:p∈O):ay (upd H p o) O=ay H O:=by
 funext b
 unfold ay;split
 .rfl
 .rename_i J;exact bc λz=>J (by rw[z];exact h)
def vT{K:Np}{H H':Hp}{O:List Addr}{J:ME}{xs:List PV}{p:Addr}{us:List V}(U:∀a∈O,H a≠none)(Y:H p=none)(e:H' p=some (.lst us))(r:Reps K (ay H' (p::O)) xs us):Got K H' O J (.lst xs) (.ref p):=by
 refine .of ?_;refine⟨p,us,rfl,SqL.of ?_,Reps.mono ic _ r⟩;rw[bh λz=>U p z Y];exact e
section
variable{X:Cx}{T:Tab}{k:Nat}{cal:Cal}
def dP(U:∀W v,ev cal z W=some v->∃xs,v=.lst xs)(h:PE X e (tF X.K cal z)):PE X e (tE X.K cal z):=by
 refine h.imp λσ H Q q=>?_
 obtain⟨B,E,O,W,v,st,J,q⟩:=q;obtain⟨xs,rfl⟩:=U W v J;exact⟨B,E,O,W,xs,st,J,λp us H' s Y Z r=>q _ _ s (vT st.here Y Z r)⟩
theorem Gf.blk(g:Gf X T k cal)(x)(fvs)(scope)(z)(J)(C)(fp):Gf (X.blk x fvs scope z J C fp) T k cal:={ g with }
def k_(h:fI osc N scope x fvs js=true):kW osc N scope x fvs js:=by
 unfold fI at h;simp only[mu,J0,KL]at h;obtain⟨⟨⟨⟨⟨⟨⟨⟨h1,h2⟩,z⟩,J⟩,U⟩,Y⟩,Z⟩,h8⟩,h9⟩:=h;exact⟨h1,h2,z,J,U,Y,Z,h8,h9⟩
def E7{K:Np}{σ F:St}(st:aF K B E O H W σ)(U:ai H H1)(s2:ai H1 H2)(hD:H1 D=none)(a1:H2 D≠none)
  (a2:∀z,F.set 0 z=(fw js σ).set 0 z) (hl:0<F.length) (hx:Rep K (ay H2 (D::O)) x ux):aF K H1 [] (D::O) H2 (cj js W x) (F.set 0 (some ux)):=by
 have hv:ai (ay H O) (ay H2 (D::O)):=bR (U.trans s2) λb hb=>by
  rcases JY.mp hb with rfl|hb
  .exact .inr (U.free hD)
  .exact .inl hb
 rw[a2];have Y:∀(i:Nat) m,iP m=true->(cj js W x)[i]?≠some (some m):=λi m hm e=>by
  unfold cj at e;cases i with
  |zero =>
   simp at e;subst e;cases hm
  |succ i =>
   simp only[getElem?_cons_succ,J9,pe]at e;obtain⟨j,_,e⟩:=e;cases Z:(W[j]?).join with
   |none=>rw[Z]at e;cases e
   |some mm =>
    rw[Z]at e;cases mm<;>first|(simp[fG]at e;done)|(simp only[fG,tf]at e;subst e;cases hm)
 refine⟨s2,λa J=>?_,λa J=>by simp at J,λa J=>by simp at J,?_,λi m e=>?_,λi j m m' a _ e _ hm=>absurd e (Y i m hm)
  ⟩
 .rcases JY.mp J with rfl|J
  .exact a1
  .exact λe=>st.here a J ((U.trans s2).free e)
 .simp[cj,fw]
 .cases i with
  |zero =>
   simp only[cj,getElem?_cons_zero,tf]at e;subst e;exact⟨ux,by simp[fw],hx⟩
  |succ i =>
   simp only[cj,getElem?_cons_succ,J9,pe]at e;obtain⟨j,ej,e⟩:=e;cases Z:(W[j]?).join with
   |none=>rw[Z]at e;cases e
   |some mm =>
    rw[Z]at e;obtain⟨u,eu,so⟩:=aY st Z;have a5:((fw js σ).set 0 (some ux))[i+1]?=some (some u):=by
     simp[fw,ej,eu]
    refine⟨u,a5,?_⟩;cases mm with
    |val w =>
     simp only[fG,tf]at e;subst e;exact Rep.mono hv _ so
    |own ys =>
     simp only[fG,tf]at e;subst e;obtain⟨a,us,rfl,J,rs,hO,_⟩:=so;exact⟨a,us,rfl,SqL.of (U _ _ J),Reps.mono hv _ rs⟩
    |brw ys =>
     simp only[fG,tf]at e;subst e;obtain⟨a,us,rfl,sq,rs⟩:=so;exact⟨a,us,rfl,(st.keep.trans U).seq sq,Reps.mono hv _ rs⟩
    |brwD kvs =>
     simp only[fG,tf]at e;subst e;obtain⟨a,rfl,J⟩:=so;exact⟨a,rfl,ai.rd (st.keep.trans U) J⟩
    | _ =>
     simp only[fG,tf]at e;subst e;obtain⟨a,rfl,J,_⟩:=so;exact⟨a,rfl,.inl (U _ _ J)⟩
def uE{cond elt:ME}(g:Gf X T k cal)(U:fI X.env.scope X.N scope x (dN X.N js) js=true)
  (hw:PI X (.Name x px) it (tW X.K cal Z ms)) (Y:fh it=true)
  (hc:∀z J C fp,PF (X.blk x (dN X.N js) scope z J C fp) ifs (tT X.K cal cond)) (he:∀z J C fp,PE (X.blk x (dN X.N js) scope z J C fp) e (tE X.K cal elt)) (hb:aM elt=false) :
  PE X (.ListComp e [⟨.Name x px,it,ifs,0⟩] scope pos) (tF X.K cal (.comp Z ms js cond elt)):=by
 refine(vo (k_ U) g.calm hw hc he (by intro v;cases it<;>first|rfl|(simp[fh]at Y))).imp λσ H Q q=>?_
 exact comp_go hb q
where
 comp_go {k':Sk}{ms:List ME}{js:List Nat}{cond elt:ME}{K:Np}{σ:St}{H:Hp}{Q:VK} (hb:aM elt=false) (q:tF K cal (.comp k' ms js cond elt) σ H Q):yG (tW K cal k' ms) js (tT K cal cond) (tE K cal elt) σ H Q:=by
  refine aE λZq kq=>?_
  obtain⟨B,E,O,W,ws,st,e1,q⟩:=q;rw[ev]at e1;simp only[gf]at e1;obtain⟨vs,e1,xs,e2,e3⟩:=e1;refine kq ?_;split at e3
  .rename_i hlen;simp only[pe,PV.lst.injEq,exists_eq_right]at e3;refine⟨B,E,O,W,vs,xs,st,e1,e2,λJ H1 s1 it D hD=>?_⟩;have hDO:D∉O:=λz=>bx s1 st.here D z hD
   have it1:=it.weak (nv (st.keep.trans s1));refine⟨λi m F H'=>m=xs.length-i/\i<=xs.length/\ai H1 H'/\(∀z,F.set 0 z=(fw js σ).set 0 z)/\0<F.length/\∃done bT ys,fZ (λx=>(ev cal cond (cj js W x)).bind bi) (λx=>ev cal elt (cj js W x)) (xs.drop i)=some bT/\ws=done++bT/\done.length<=i/\H' D=some (.lst ys)/\Reps K (ay H' (D::O)) done ys,⟨xs.length,by simp,Kd _,aC hD _,λ_=>rfl,by simp[fw],[],ws,[],by simpa using e3,rfl,pb _,aB,.nil⟩,?_⟩;rintro i m F H' ⟨rfl,hi,s2,hσ,hl,done,bT,ys,eg,ew,hdl,hDy,rs⟩;by_cases hlt:i<xs.length
   .right;have ex:=J4 hlt;refine⟨it1.go i _ H' s2 ex,λσ2 H2=>∃m',m'<xs.length-i/\(m'=xs.length-(i+1)/\i+1<=xs.length/\ai H1 H2/\(∀z,σ2.set 0 z=(fw js σ).set 0 z)/\0<σ2.length/\∃done bT ys,fZ (λx=>(ev cal cond (cj js W x)).bind bi) (λx=>ev cal elt (cj js W x)) (xs.drop (i+1))=some bT/\ws=done++bT/\done.length<=i+1/\H2 D=some (.lst ys)/\Reps K (ay H2 (D::O)) done ys),λσ2 H2 z=>z,λux H2 y=>?_⟩;obtain⟨s3,hr⟩:=it1.yld i _ H' ux H2 s2 ex y;have sv:ai (ay H1 O) (ay H2 (D::O)):=bR (s2.trans s3) λb hb=>by
     rcases JY.mp hb with rfl|hb
     .exact .inr hD
     .exact .inl hb
    have hx:=hr (D::O) (λa ha=>by
     rcases JY.mp ha with rfl|ha
     .rw[hDy];simp
     .exact λz=>bx s1 st.here a ha (s2.free z)) sv
    have hD2:=s3 _ _ hDy;have stb:=E7 (js:=js) (W:=W) st s1 (s2.trans s3) hD (by rw[hD2];simp) hσ hl hx;rw[MI hlt,fZ]at eg;simp only[gf]at eg;obtain⟨b,eb,eg⟩:=eg;refine⟨H1,[],D::O,_,b,stb,by simpa[evB,gf]using eb,λH3 s4=>?_⟩;have hσ2:∀z,(F.set 0 (some ux)).set 0 z=(fw js σ).set 0 z:=λz=>by rw[set_set];exact hσ z
    have hl2:0<(F.set 0 (some ux)).length:=by rw[MJ];exact hl
    cases b with
    |false =>
     rw[if_neg (by simp)]at eg;dsimp only;rw[if_neg (by simp)];refine⟨_,by omega,rfl,hlt,(s2.trans s3).trans s4,hσ2,hl2,done,bT,ys,eg,ew,by omega,s4 _ _ hD2,Reps.mono ?_ _ rs⟩;exact(am s3).trans (am s4)
    |true =>
     rw[if_pos rfl]at eg;dsimp only;rw[if_pos rfl];refine aE λZq kq=>?_
     simp only[gf,pe]at eg;obtain⟨y',ey,rest',eg,rfl⟩:=eg;refine kq ?_;refine⟨H1,[],D::O,_,y',stb.mono s4,ey,λuy H4 s5 gy=>?_⟩;have hD4:=s5 _ _ (s4 _ _ hD2);have ry:=gy.2 hb;have rs4:=Reps.mono (((am s3).trans (am s4)).trans (am s5)) _ rs;have hyl:ys.length<=10000:=by rw[<- rs.length];omega
     refine⟨ys,hD4,Km hyl (by decide),_,by omega,rfl,hlt,?_,hσ2,hl2,done++[y'],rest',ys++[uy],eg,by simp[ew],by simp;omega,aB,?_⟩
     .intro b u eb;rw[bc (cJ eb hD)];exact s5 _ _ (s4 _ _ ((s2.trans s3) _ _ eb))
     .rw[iS (KZ)];exact rs4.snoc ry
   .left;have ei:i=xs.length:=by omega
    subst ei;rw[drop_length,fZ]at eg;cases eg;rw[La]at ew;subst ew;exact⟨it1.stop H' s2,q D ys H' (s1.trans s2) (s1.free hD) hDy rs⟩
  .cases e3
def aW(z:ag e=true)(es)(env):starEach (e::es) env=(false,eval e env)::starEach es env:=by
 cases e<;>first|rfl|(simp[ag]at z)
theorem bY :∀{es},es.all ag=true->(backTo pos (starEach es env)).any (·.1)=false
 | [],_=>rfl
 |e::es,h=>by
  simp only[all_cons,mu]at h;rw[aW h.1];show(false||(backTo pos (starEach es env)).any (·.1))=false;rw[bY h.2];rfl
theorem bI:∀{ms}{N}{sc}{es},chks T ms N sc es=true->es.all ag=true/\ms.length=es.length
 | [],_,_,[],_=>⟨rfl,rfl⟩
 | [],_,_,_::_,h=>by simp[chks]at h
 | _::_,_,_,[],h=>by simp[chks]at h
 |m::ms,N,sc,e::es,h=>by
  simp[chks]at h;obtain⟨h1,h2⟩:=bI h.2;exact⟨by simp[h.1.2,h1],by simp[h2]⟩
def bv(h:PE X e (tE X.K cal Y))(J:k4 e=true):PT X e (tT X.K cal Y):=by
 refine(DL h (by intro w;cases e<;>first|rfl|(simp[k4]at J;done)|(rename_i op _ _;cases op<;>first|rfl|(simp[k4]at J)))).imp λσ H Q q=>?_
 obtain⟨B,E,O,W,b,st,z,q⟩:=q;simp[evB,gf]at z;obtain⟨v,z,U⟩:=z;refine⟨B,E,O,W,v,st,z,λu H' s g=>?_⟩;cases v<;>simp[bi]at U
 subst U;exact⟨_,g.1.bl,q H' s⟩
def zx(h:PE X e (tE X.K cal m))(hs:PA X es (tEs X.K cal ms))(hn:ag e=true):PA X (e::es) (tEs X.K cal (m::ms)):=by
 refine(aN h hs (aW hn es _)).imp λσ H Q q=>?_
 obtain⟨B,E,O,W,vs,st,z,q⟩:=q;simp[evs,gf,pe]at z;obtain⟨v,z,ws,e2,rfl⟩:=z;refine⟨B,E,O,W,v,st,z,λu H1 Y Z=>⟨B,E,O,W,ws,st.mono Y,e2,λus H2 J g2=>q _ H2 (Y.trans J) ⟨.cons (Z.1.mono J) g2.1,λU=>?_⟩⟩⟩;simp only[all_cons,mu,J6]at U;exact .cons ((Z.mono J).2 U.1) (g2.2 U.2)
def Ce:PA X [] (tEs X.K cal []):=by
 refine bF.imp λσ H Q q=>?_
 obtain⟨B,E,O,W,vs,st,z,q⟩:=q;simp only[evs,tf]at z;subst z;exact q [] H (ai.refl H) ⟨.nil,λ_=>.nil⟩
def zy:PA X [] (tAs X.K cal []):=by
 refine bF.imp λσ H Q q=>?_
 obtain⟨B,E,O,W,vs,st,z,q⟩:=q;simp only[evA,tf]at z;subst z;exact q [] H (ai.refl H) .nil
def zz{K:Np}(s:ai H H')(h:lE K O H m u):lE K O H' m u:=by
 cases m<;>first|exact Rep.mono (am s) _ h|exact h|(obtain⟨a,us,e,q,r⟩:=h;exact⟨a,us,e,s.seq q,Reps.mono (am s) _ r⟩)|(obtain⟨a,e,q⟩:=h;exact⟨a,e,ai.rd s q⟩)
def xb(J:aM m=false)(h:PE X e (tE X.K cal m))(hs:PA X es (tAs X.K cal ms))(Z:ag e=true):PA X (e::es) (tAs X.K cal (m::ms)):=by
 refine(aN h hs (aW Z es _)).imp λσ H Q q=>?_
 obtain⟨B,E,O,W,vs,st,e1,q⟩:=q;have z:(ev cal m W).bind (λv=>(evA cal ms W).map (MV.val v::·))=some vs:=by
  rw[<- e1];cases m<;>first|(cases J;done)|(simp;done)|rfl
 simp[gf]at z;obtain⟨v,e9,ws,e2,rfl⟩:=z;exact⟨B,E,O,W,v,st,e9,λu H1 U g1=>⟨B,E,O,W,ws,st.mono U,e2,λus H2 Y g2=>q _ H2 (U.trans Y) (.cons ((g1.mono Y).2 J) g2)⟩⟩
def zA(h:aV X.N X.env.scope i x=true)(hs:PA X es (tAs X.K cal ms)):PA X (.Name x pos::es) (tAs X.K cal (.bor i::ms)):=by
 refine(aN (b8 h) hs rfl).imp λσ H Q q=>?_
 obtain⟨B,E,O,W,vs,st,z,q⟩:=q;rw[evA]at z;simp[gf,pe]at z;obtain⟨m',z,ws,e2,rfl⟩:=z;cases Y:(W[i]?).join with
 |none=>rw[Y]at z;cases z
 |some m =>
  rw[Y]at z;obtain⟨u,eu,J⟩:=aY st Y;have ao:lE X.K O H m' u:=by
   cases m with
   |val w=>simp[gE,tf]at z;subst z;exact J
   |own ys=>simp[gE,tf]at z;subst z;obtain⟨a,us,rfl,U,Z,_⟩:=J;exact⟨a,us,rfl,SqL.of U,Z⟩
   |brw ys=>simp[gE,tf]at z;subst z;obtain⟨a,us,rfl,sq,Z⟩:=J;exact⟨a,us,rfl,st.keep.seq sq,Z⟩
   |brwD kvs=>simp[gE,tf]at z;subst z;obtain⟨a,rfl,U⟩:=J;exact⟨a,rfl,ai.rd st.keep U⟩
   | _=>simp[gE,tf]at z;subst z;obtain⟨a,rfl,U,_⟩:=J;exact⟨a,rfl,.inl U⟩
  exact⟨u,eu,⟨B,E,O,W,ws,st,e2,λus H2 s2 g2=>q _ H2 s2 (.cons (zz s2 ao) g2)⟩⟩
def HB(Y:PE X l (tE X.K cal a))(Z:PE X r (tE X.K cal b)):PE X (.BinOp l (ur op) r pos) (tE X.K cal (.bin op a b)):=by
 refine(vb (uB op) Y Z).imp λσ H Q q=>?_
 obtain⟨B,E,O,W,v,st,z,q⟩:=q;rw[ev]at z;simp[gf]at z;obtain⟨x,z,y,e2,e3⟩:=z;exact⟨B,E,O,W,x,st,z,λux H1 J g1=>⟨B,E,O,W,y,st.mono J,e2,λuy H2 U g2=>⟨O,x,y,v,bx (J.trans U) st.here,g1.1.mono U,g2.1,e3,λu H3 s3 r=>q u H3 ((J.trans U).trans s3) (.of r)⟩⟩⟩
def HC(U:PE X e (tE X.K cal a)):PE X (.UnaryOp .Not e pos) (tE X.K cal (.not a)):=by
 refine(DQ U).imp λσ H Q q=>?_
 obtain⟨B,E,O,W,v,st,z,q⟩:=q;rw[ev]at z;simp only[gf,pe]at z;obtain⟨b,⟨x,z,J⟩,rfl⟩:=z;cases x<;>simp[bi,tf,reduceCtorEq]at J
 subst J;exact⟨B,E,O,W,_,st,z,λux H1 Y Z=>⟨_,Z.1.bl,q _ H1 Y (.of (eF _ _))⟩⟩
def HE(U:PT X e (tT X.K cal a)):PT X (.UnaryOp .Not e pos) (tT X.K cal (.not a)):=by
 refine(DO U).imp λσ H Q q=>?_
 obtain⟨B,E,O,W,b,st,z,q⟩:=q;simp only[evB,ev,gf,pe]at z;obtain⟨v,⟨c,⟨x,z,Y⟩,rfl⟩,J⟩:=z;simp only[bi,tf]at J;subst J;exact⟨B,E,O,W,c,st,by simp[evB,z,Y],λH' s=>q H' s⟩
def Dm(ha:PE X x (tE X.K cal a))(hb:PE X (.BoolOp .And (y::r) pos) (tE X.K cal b)):PE X (.BoolOp .And (x::y::r) pos) (tE X.K cal (.and a b)):=by
 refine(DP ha hb).imp λσ H Q q=>?_
 obtain⟨B,E,O,W,v,st,U,q⟩:=q;rw[ev]at U;simp only[gf]at U;obtain⟨c,⟨z,U,Z⟩,J⟩:=U;cases z<;>simp[bi,tf,reduceCtorEq]at Z
 subst Z;refine⟨B,E,O,W,_,st,U,λux H1 Y g1=>⟨_,g1.1.bl,?_⟩⟩;split at J
 .rename_i h;rw[if_pos h];simp only[gf,pe]at J;obtain⟨z',J,c',e4,rfl⟩:=J;cases z'<;>simp[bi,tf,reduceCtorEq]at e4
  subst e4;exact⟨B,E,O,W,_,st.mono Y,J,λu H2 s2 g2=>q u H2 (Y.trans s2) (by rw[g2.1.bl];exact .of (eF _ _))⟩
 .rename_i h;rw[if_neg h];cases J;exact q _ H1 Y (.of (eF _ _))
def HF(ha:PE X x (tE X.K cal a))(hb:PE X (.BoolOp .Or (y::r) pos) (tE X.K cal b)):PE X (.BoolOp .Or (x::y::r) pos) (tE X.K cal (.or a b)):=by
 refine(GL ha hb).imp λσ H Q q=>?_
 obtain⟨B,E,O,W,v,st,U,q⟩:=q;rw[ev]at U;simp only[gf]at U;obtain⟨c,⟨z,U,Z⟩,J⟩:=U;cases z<;>simp[bi,tf,reduceCtorEq]at Z
 subst Z;refine⟨B,E,O,W,_,st,U,λux H1 Y g1=>⟨_,g1.1.bl,?_⟩⟩;split at J
 .rename_i h;rw[if_pos h];cases J;exact q _ H1 Y (.of (eF _ _))
 .rename_i h;rw[if_neg h];simp only[gf,pe]at J;obtain⟨z',J,c',e4,rfl⟩:=J;cases z'<;>simp[bi,tf,reduceCtorEq]at e4
  subst e4;exact⟨B,E,O,W,_,st.mono Y,J,λu H2 s2 g2=>q u H2 (Y.trans s2) (by rw[g2.1.bl];exact .of (eF _ _))⟩
def Dn(h:PT X (.BoolOp op vs pos) t):PW X (.BoolOp op vs pos) t:=λw pins s σ H Q I q=>by
 have:=h pins s σ H Q I q;exact this
def Do(ha:PT X x (tT X.K cal a))(hb:PW X (.BoolOp .And (y::r) pos) (tT X.K cal b)):PT X (.BoolOp .And (x::y::r) pos) (tT X.K cal (.and a b)):=by
 refine(DN ha hb).pt.imp λσ H Q q=>?_
 obtain⟨B,E,O,W,v,st,U,q⟩:=q;simp only[evB,ev,gf]at U;obtain⟨w,⟨c,⟨z,U,e2⟩,J⟩,Y⟩:=U;refine⟨B,E,O,W,c,st,by simp[evB,U,e2],λH1 Z=>?_⟩;split at J
 .rename_i h;rw[if_pos h];simp only[gf,pe]at J;obtain⟨z',J,c',e5,rfl⟩:=J;simp only[bi,tf]at Y;subst Y;exact⟨B,E,O,W,_,st.mono Z,by simp[evB,J,e5],λH2 s2=>q H2 (Z.trans s2)⟩
 .rename_i h;rw[if_neg h];cases J;cases Y;exact q H1 Z
def HG(ha:PT X x (tT X.K cal a))(hb:PW X (.BoolOp .Or (y::r) pos) (tT X.K cal b)):PT X (.BoolOp .Or (x::y::r) pos) (tT X.K cal (.or a b)):=by
 refine(GI ha hb).pt.imp λσ H Q q=>?_
 obtain⟨B,E,O,W,v,st,U,q⟩:=q;simp only[evB,ev,gf]at U;obtain⟨w,⟨c,⟨z,U,e2⟩,J⟩,Y⟩:=U;refine⟨B,E,O,W,c,st,by simp[evB,U,e2],λH1 Z=>?_⟩;split at J
 .rename_i h;rw[if_pos h];cases J;cases Y;exact q H1 Z
 .rename_i h;rw[if_neg h];simp only[gf,pe]at J;obtain⟨z',J,c',e5,rfl⟩:=J;simp[bi,tf]at Y;subst Y;exact⟨B,E,O,W,_,st.mono Z,by simp[evB,J,e5],λH2 s2=>q H2 (Z.trans s2)⟩
def HH(hc:PT X t (tT X.K cal c))(ha:PE X x (tE X.K cal a))(hb:PE X y (tE X.K cal b))(na:aM a=false)(nb:aM b=false):PE X (.IfExp t x y pos) (tE X.K cal (.ite c a b)):=by
 refine(xR hc ha hb).imp λσ H Q q=>?_
 obtain⟨B,E,O,W,v,st,z,q⟩:=q;rw[ev]at z;simp only[gf]at z;obtain⟨k',z,U⟩:=z;refine⟨B,E,O,W,k',st,by simpa[evB,gf]using z,λH1 J=>?_⟩;split at U
 .rename_i h;rw[if_pos h];exact⟨B,E,O,W,v,st.mono J,U,λu H2 Y Z=>q u H2 (J.trans Y) (.of (Z.2 na))⟩
 .rename_i h;rw[if_neg h];exact⟨B,E,O,W,v,st.mono J,U,λu H2 Y Z=>q u H2 (J.trans Y) (.of (Z.2 nb))⟩
def HI(hc:PT X t (tT X.K cal c))(ha:PT X x (tT X.K cal a))(hb:PT X y (tT X.K cal b)):PT X (.IfExp t x y pos) (tT X.K cal (.ite c a b)):=by
 intro pins s σ H Q I q;refine aE λZq kq=>?_
 obtain⟨B,E,O,W,v,st,z,q⟩:=q;simp only[evB,ev,gf]at z;obtain⟨w,⟨Z,z,U⟩,e4⟩:=z;refine kq ?_;refine isTrue_IfExp (thn (hc pins s σ H (λb H1=>b=Z/\ai H H1) I ⟨B,E,O,W,Z,st,by simpa[evB,gf]using z,λH1 J=>⟨rfl,J⟩⟩) λb J ⟨H1,I1,eb,hs⟩=>?_);subst eb;split at U
 .rename_i h;subst h;exact ha pins J σ H1 Q I1 ⟨B,E,O,W,v,st.mono hs,by simp[evB,U,e4],λH2 Y=>q H2 (hs.trans Y)⟩
 .rename_i h;have:b=false:=by cases b<;>simp at h ⊢
  subst this;exact hb pins J σ H1 Q I1 ⟨B,E,O,W,v,st.mono hs,by simp[evB,U,e4],λH2 Y=>q H2 (hs.trans Y)⟩
def HJ(g:Gf X T k cal)(ha:PE X l (tE X.K cal a))(hb:PE X r (tE X.K cal b))(hm:behindInMarks (zf op) r=false):PE X (.Compare l [zf op] [r] pos) (tE X.K cal (.cmp op a b))/\PT X (.Compare l [zf op] [r] pos) (tT X.K cal (.cmp op a b)):=by
 refine⟨(Bn (zq g.units op) ha hb hm).imp λσ H Q q=>?_,(Bo (zq g.units op) ha hb hm).imp λσ H Q q=>?_⟩
 .obtain⟨B,E,O,W,v,st,z,q⟩:=q;rw[ev]at z;simp only[gf,pe]at z;obtain⟨x,z,y,Y,c,Z,rfl⟩:=z;exact⟨B,E,O,W,x,st,z,λux H1 J g1=>⟨B,E,O,W,y,st.mono J,Y,λuy H2 U g2=>⟨O,x,y,c,g1.1.mono U,g2.1,Z,q _ H2 (J.trans U) (.of (eF _ _))⟩⟩⟩
 .obtain⟨B,E,O,W,v,st,z,q⟩:=q;simp only[evB,ev,gf,pe]at z;obtain⟨w,⟨x,z,y,Y,c,Z,rfl⟩,e4⟩:=z;simp[bi,tf]at e4;subst e4;exact⟨B,E,O,W,x,st,z,λux H1 J g1=>⟨B,E,O,W,y,st.mono J,Y,λuy H2 U g2=>⟨O,x,y,c,g1.1.mono U,g2.1,Z,_,rfl,q H2 (J.trans U)⟩⟩⟩
def HK(h:PA X es (tEs X.K cal ms))(U:(ms.all λm=>!aM m)=true):PE X (.Tuple es j pos) (tE X.K cal (.tup ms)):=by
 refine(tZ h).imp λσ H Q q=>?_
 obtain⟨B,E,O,W,v,st,z,q⟩:=q;rw[ev]at z;simp only[gf]at z;obtain⟨vs,z,J⟩:=z;split at J
 .rename_i hl;cases J;refine⟨B,E,O,W,vs,st,z,λus H1 Y Z=>⟨?_,λp hp=>?_⟩⟩
  .rw[<- (Z.2 U).length];exact cO hl
  .exact q _ _ (Y.trans (aC hp _)) (.of (gK (bx Y st.here) hp (Z.2 U)))
 .cases J
def Dp(h:PA X es (tEs X.K cal ms))(z:(ms.all λm=>!aM m)=true):PE X (.List es pos) (tF X.K cal (.lst ms)):=by
 refine(t4 h).imp λσ H Q q=>?_
 obtain⟨B,E,O,W,xs,st,J,q⟩:=q;rw[ev]at J;simp only[gf]at J;obtain⟨vs,J,U⟩:=J;split at U
 .rename_i hl;cases U;refine⟨B,E,O,W,xs,st,J,λus H1 Z g1=>⟨?_,λp Y=>?_⟩⟩
  .rw[<- (g1.2 z).length];exact cO hl
  .refine q p us _ (Z.trans (aC Y _)) (Z.free Y) aB ?_;rw[iS (KZ)];refine Reps.mono (bR (ai.refl H1) λb z=>?_) _ (g1.2 z);rcases JY.mp z with rfl|z
   .exact .inr Y
   .exact .inl z
 .cases U
def HL(Y:PE X v (tE X.K cal a))(hi:PE X s (tE X.K cal i))(hs:ca s=true):PE X (.Subscript v s pos) (tE X.K cal (.idx a i)):=by
 refine(G6 EZ Y hi (uC hs)).imp λσ H Q q=>?_
 obtain⟨B,E,O,W,v,st,z,q⟩:=q;rw[ev]at z;simp[gf]at z;obtain⟨x,z,y,Z,e3⟩:=z;exact⟨B,E,O,W,x,st,z,λux H1 J g1=>⟨B,E,O,W,y,st.mono J,Z,λuy H2 U g2=>⟨O,x,y,v,bx (J.trans U) st.here,g1.1.mono U,g2.1,e3,λu H3 s3 r=>q u H3 ((J.trans U).trans s3) (.of r)⟩⟩⟩
noncomputable def tB1(K:Np)(cal:Cal)(z:ME):TO:=λσ H Q=>∃B E O W o,aF K B E O H W σ/\((ev cal z W).bind λv=>bnd z v)=some o/\∀H',ai H H'->Q o H'
def E8(h:jL m=true):PO X none (tB1 X.K cal m):=by
 have e:m=.cst .non:=by
  unfold jL at h;split at h
  .rfl
  .cases h
 subst e;intro pins s σ H Q I q;refine aE λU J=>?_
 obtain⟨B,E,O,W,o,st,z,q⟩:=q;simp[ev,bind_some,bnd]at z;subst z;refine J ?_;exact Br pins s σ H Q I (q H (ai.refl H))
def E9(h:PE X l (tE X.K cal m))(U:jL m=false):PO X (some l) (tB1 X.K cal m):=by
 intro pins s σ H Q I q;refine aE λZ Y=>?_
 obtain⟨B,E,O,W,o,st,z,q⟩:=q;simp[gf]at z;obtain⟨v,z,J⟩:=z;obtain⟨i,rfl,rfl⟩:∃i,v=.int i/\o=some i:=by
  unfold bnd at J;split at J
  .simp[jL]at U
  .simp_all
  .cases J
 refine Y ?_;exact Bs h pins s σ H Q I ⟨B,E,O,W,_,st,z,λu H' s' g=>⟨i,g.1.int,q H' s'⟩⟩
def Cf{a lo hi:ME}{p2 pos:Pos}(ha:PE X v (tE X.K cal a))(hl:PO X l (tB1 X.K cal lo))(hu:PO X u (tB1 X.K cal hi)):PE X (.Subscript v (.Slice l u none p2) pos) (tE X.K cal (.slice a lo hi)):=by
 refine(yd E1 ha hl hu).imp λσ H Q q=>?_
 refine aE λZq kq=>?_
 obtain⟨B,E,O,W,w,st,z,q⟩:=q;rw[ev,gf]at z;obtain⟨x,z,J⟩:=z;rw[gf]at J;obtain⟨ao,J,U⟩:=J;rw[gf]at U;obtain⟨aO,U,e4⟩:=U;refine kq ?_;exact⟨B,E,O,W,x,st,z,λux H1 Y g1=>⟨B,E,O,W,ao,st.mono Y,J,λH2 Z=>⟨B,E,O,W,aO,(st.mono Y).mono Z,U,λH3 s3 =>
  ⟨O,x,w,bx ((Y.trans Z).trans s3) st.here,g1.1.mono (Z.trans s3),e4,λu H4 s4 r=>q u H4 (((Y.trans Z).trans s3).trans s4) (.of r)⟩⟩⟩⟩
def sr {id:String} (hc:bU X (.builtin id) (RBM X.K (aD f))) (U:glB X.env.scope x=true) (Y:X.mg x=none) (hv:bootBuiltins x=some (.builtin id)) (Z:x ≠ "__name__") (hd:(x==("__debug__":Str))=false)
  (ha:PA X (e::es) (tEs X.K cal ms)) (hs:(e::es).all ag=true):PE X (.Call (.Name x p) (e::es) [] pos) (tE X.K cal (.blt f ms)):=by
 simp only[all_cons,mu]at hs;refine(eZ hc (dC U) Y hv ha Z hd (aW hs.1 es _) (bY hs.2)).imp λσ H Q q=>?_
 obtain⟨B,E,O,W,v,st,z,q⟩:=q;rw[ev,gf]at z;obtain⟨vs,z,e2⟩:=z;exact⟨B,E,O,W,vs,st,z,λus H1 J g1=>⟨O,vs,v,bx J st.here,g1.1,e2,λu H2 s2 r=>q u H2 (J.trans s2) (.of r)⟩⟩
def zB {id:String} (hc:bU X (.type id) (RBM X.K (aD f))) (U:glB X.env.scope x=true) (Y:X.mg x=none) (hv:bootBuiltins x=some (.type id)) (Z:x ≠ "__name__") (hd:(x==("__debug__":Str))=false)
  (ha:PA X (e::es) (tEs X.K cal ms)) (hs:(e::es).all ag=true):PE X (.Call (.Name x p) (e::es) [] pos) (tE X.K cal (.blt f ms)):=by
 simp only[all_cons,mu]at hs;refine(di hc (dC U) Y hv ha Z hd (aW hs.1 es _) (bY hs.2)).imp λσ H Q q=>?_
 obtain⟨B,E,O,W,v,st,z,q⟩:=q;rw[ev,gf]at z;obtain⟨vs,z,e2⟩:=z;exact⟨B,E,O,W,vs,st,z,λus H1 J g1=>⟨O,vs,v,bx J st.here,g1.1,e2,λu H2 s2 r=>q u H2 (J.trans s2) (.of r)⟩⟩
def pJ{K:Np}(q:tF K cal (.blt f ms) σ H Q):tCB (RBF K (aD f)) (tEs K cal ms) σ H Q:=by
 obtain⟨B,E,O,W,xs,st,z,q⟩:=q;rw[ev,gf]at z;obtain⟨vs,z,Z⟩:=z;refine⟨B,E,O,W,vs,st,z,λus H1 J g1=>⟨O,vs,xs,bx J st.here,g1.1,Z,λl ws U r=>q l ws _ (J.trans (aC U _)) (J.free U) aB ?_⟩⟩;rw[iS (KZ)];refine Reps.mono (bR (ai.refl H1) λb Y=>?_) _ r;rcases JY.mp Y with rfl|Y
 .exact .inr U
 .exact .inl Y
def zC {id:String} (hc:bU X (.builtin id) (RBF X.K (aD f))) (z:glB X.env.scope x=true) (J:X.mg x=none) (hv:bootBuiltins x=some (.builtin id)) (U:x ≠ "__name__") (hd:(x==("__debug__":Str))=false)
  (Y:PA X (e::es) (tEs X.K cal ms)) (hs:(e::es).all ag=true):PE X (.Call (.Name x p) (e::es) [] pos) (tF X.K cal (.blt f ms)):=by
 simp only[all_cons,mu]at hs;exact(eZ hc (dC z) J hv Y U hd (aW hs.1 es _) (bY hs.2)).imp λσ H Q q=>pJ q
def Cg {id:String} (hc:bU X (.type id) (RBF X.K (aD f))) (z:glB X.env.scope x=true) (J:X.mg x=none) (hv:bootBuiltins x=some (.type id)) (U:x ≠ "__name__") (hd:(x==("__debug__":Str))=false)
  (Y:PA X (e::es) (tEs X.K cal ms)) (hs:(e::es).all ag=true):PE X (.Call (.Name x p) (e::es) [] pos) (tF X.K cal (.blt f ms)):=by
 simp only[all_cons,mu]at hs;exact(di hc (dC z) J hv Y U hd (aW hs.1 es _) (bY hs.2)).imp λσ H Q q=>pJ q
def E_(g:Gf X T k cal)(hf:T.fs[f]?=some x)(J:glB X.env.scope x=true)(U:av x=true)(ha:PA X es (tAs X.K cal ms))(hs:es.all ag=true)(hl:ms.length=es.length):PE X (.Call (.Name x p) es [] pos) (tE X.K cal (.call f ms)):=by
 obtain⟨fa,fd,ps,h1,h2,Y,F,_⟩:=g.fns f x hf;have key:∀σ H Q,tE X.K cal (.call f ms) σ H Q->xZ (spM X.K cal f) [] E0 (tAs X.K cal ms) σ H Q:=λσ H Q q=>by
  obtain⟨B,E,O,W,v,st,z,q⟩:=q;rw[ev,gf]at z;obtain⟨vs,z,e2⟩:=z;refine⟨B,E,O,W,vs,st,z,λus H1 Z g1=>⟨O,vs,v,bx Z st.here,?_,e2,λu H2 s2 r=>q u H2 (Z.trans s2) (.of r)⟩⟩
  simp_all
 cases es with
 |nil =>
  refine(x9 F g.room (dC J) h1 h2 Y .nil rC (ib U).1).imp λσ H Q q=>?_
  obtain⟨B,E,O,W,vs,st,z,q⟩:=key σ H Q q;cases ms with
  |nil =>
   simp only[evA,tf]at z;subst z;exact q [] H (ai.refl H) .nil
  |cons m ms=>simp at hl
 |cons e es =>
  simp only[all_cons,mu]at hs;exact(l7 F g.room (dC J) h1 h2 Y .nil rC ha (ib U).1 (aW hs.1 es _) (bY hs.2)).imp key
end
section
variable{K:Np}{H:Hp}{O:List Addr}
def zD(kvs)(i):jg (gI kvs) (Sum.inl i:Key)=(bO kvs i).map Sc.v:=by
 unfold jg gI bO;rw[find?_map,MT,MT];have e:((λz:Key×V=>decide (z.1=(Sum.inl i:Key)))∘λp:Int×Sc=>((Sum.inl p.1:Key),p.2.v))=λp:Int×Sc=>decide (p.1=i):=by
  funext p
  simp
 rw[e]
 rfl
def zE(kvs)(k):jg (jI kvs) (k.map Sum.inl)=(bO kvs k).map Sc.v:=by
 unfold jg jI bO;rw[find?_map,MT,MT];have e:((λz:List Key×V=>decide (z.1=k.map Sum.inl))∘λp:List Int×Sc=>((p.1.map Sum.inl:List Key),p.2.v))=λp:List Int×Sc=>decide (p.1=k):=by
  funext p
  exact Ni.mpr ⟨ml,λe=>Kf _ e⟩
 rw[e]
 rfl
def Ch(ns:List Int):(ns.map Sum.inl:List Key).map kV=ns.map V.int:=by
 rw[J2]
 rfl
def vU(e:bf xs=some ns)(r:bH K H O (.tup xs) u):∃b,u=.ref b/\H b=some (.tup ((ns.map Sum.inl:List Key).map kV)):=by
 have z:=dA e;subst z;obtain⟨b,us,rfl,h,t⟩:=r.tupH;have J:=t.ints;subst J;exact⟨b,rfl,by rw[Ch];exact h⟩
def qD(e:wZ (.dI d) y=some o)(U:RdD H a d)(r:bH K H O y u):mM H a u (o.map Sc.v):=by
 cases d with
 |k kvs =>
  cases y<;>try (cases e;done)
  rename_i i;have z:=r.int;subst z;have J:=J3 e;rw[<- J,<- zD];exact .inl ⟨_,Sum.inl i,U.rd,rfl,rfl⟩
 |p ns=>cases y<;>cases e
 |t kvs =>
  cases y<;>try (cases e;done)
  rename_i xs;have e:(bf xs).map _=some o:=e;rw[pe]at e;obtain⟨ns,z,J⟩:=e;obtain⟨b,rfl,Y⟩:=vU z r;rw[<- J,<- zE];exact .inr ⟨_,_,b,U.rd,rfl,Y,rfl⟩
def zF(kvs)(k)(s):gq (gI kvs) (Sum.inl k:Key) s.v=gI (cV kvs k s):=by
 have z:((gI kvs).any λJ=>decide (J.1=(Sum.inl k:Key)))=kvs.any λp=>decide (p.1=k):=by
  unfold gI;rw[List.any_map]
  congr 1
  funext p
  simp
 unfold gq cV;rw[z];split
 .unfold gI;rw[J2,J2];refine K6 λp _=>?_
  by_cases h:p.1=k<;>simp[h]
 .unfold gI;rw[Ka]
  rfl
def zG(kvs)(k)(s):gq (jI kvs) (k.map Sum.inl:List Key) s.v=jI (cV kvs k s):=by
 have J:∀q,_ ↔ q=k:=λq=>⟨ml,λe=>by rw[e]⟩
 have U:((jI kvs).any λY=>decide (Y.1=(k.map Sum.inl:List Key)))=kvs.any λp=>decide (p.1=k):=by
  unfold jI;rw[List.any_map]
  congr 1
  funext p
  simp_all
 unfold gq cV;rw[U];split
 .unfold jI;rw[J2,J2];refine K6 λp _=>?_
  by_cases h:p.1=k
  .have h2:=(J p.1).mpr h;simp[h]
  .have h2:¬ _=k.map Sum.inl:=λz=>h ((J p.1).mp z)
   simp[h,h2]
 .unfold jI;rw[Ka]
  rfl
def vV{y:PV}{s:Sc}{a:Addr}{u:V}(e:qo d y s=some d')(U:H a=some (iO d))(r:bH K H O y u):mN H a u s.v (upd H a (iO d')):=by
 cases d with
 |p ns=>cases y<;>cases e
 |k kvs =>
  cases y<;>try (cases e;done)
  rename_i i;have J:=r.int;subst J;have z:(if kvs.length<10000 then some (DD.k (cV kvs i s))else none)=some d':=e;split at z
  .rename_i Y;cases z;show mN H a (.int i) s.v (upd H a (.dK (gI (cV kvs i s))));rw[<- zF];exact mN.k (k:=Sum.inl i) U (by unfold gI;rw[pd,Kp];omega)
  .cases z
 |t kvs =>
  cases y<;>try (cases e;done)
  rename_i xs;have e:((bf xs).bind λk=>if kvs.length<10000 then some (DD.t (cV kvs k s))else none)=some d':=e;rw[gf]at e;obtain⟨ns,J,z⟩:=e;obtain⟨b,rfl,Z⟩:=vU J r;split at z
  .rename_i Y;cases z;show mN H a (.ref b) s.v (upd H a (.dT (jI (cV kvs ns s))));rw[<- zG];exact mN.t U Z (by unfold jI;rw[pd,Kp];omega)
  .cases z
end
section
variable{X:Cx}{pins:List (Addr×Obj)}{σ:St}{H:Hp}{s:Shared}
def vW(I:Inv X pins σ H s)(h:RdD H a d):(a==sysModules)=false/\∃es ep,Dv.Ents s.heap a es ep/\aL ((dSc d).map Sc.v) (es.toList.map (·.val)):=by
 cases d with
 |k kvs =>
  obtain⟨_,hs,vs,r,o,es,ep,ho,hx,hd,_,z,_⟩:=jl I.hok h.rd;refine⟨hs,es,ep,⟨o,ho,hx,hd⟩,?_⟩;have gen:∀kvs vs l,KV (gI kvs) vs->Pairs (bE X.prog X.w) l vs->aL ((kvs.map (·.2)).map Sc.v) (l.map (·.val)):=by
   intro kvs
   induction kvs with
   |nil =>
    intro vs l r p;cases r;cases p;exact .nil
   |cons q kvs ih =>
    intro vs l r p;cases r with
    |cons J U =>
     cases p with
     |cons p1 p2 p3=>exact .cons (by have h:=J.2;rw[<- p2]at h;exact h) (ih _ _ U p3)
  exact gen kvs vs es.toList r z
 |p ns=>exact absurd h.2 oe
 |t kvs =>
  obtain⟨_,hs,xs,r,o,es,ep,ho,hx,hd,z,_⟩:=lB I.hok h.rd;refine⟨hs,es,ep,⟨o,ho,hx,hd⟩,?_⟩;rw[z,J2];have gen:∀kvs xs,KT H (jI kvs) xs->aL ((kvs.map (·.2)).map Sc.v) (xs.map (·.2.2)):=by
   intro kvs
   induction kvs with
   |nil =>
    intro xs r;cases r;exact .nil
   |cons q kvs ih =>
    intro xs r;cases r with
    |cons J U=>exact .cons J.2.2 (ih _ U)
  exact gen kvs xs r
noncomputable def HM(p a:Addr):HO:=.ext λh=>h.IsValuesView p a
def uF{es:Array DictEntry}(h:ItemsOf (λi v=>∃e,es[i]?=some e/\v=e.val) acc es.size):acc.toList=es.toList.map (·.val):=by
 refine Mz λi=>?_
 rw[J9,Kj,Kj];cases e:acc[i]? with
 |none =>
  have:acc.size<=i:=by simpa using e
  rw[Lg (by rw[<- h.1];exact this)]
  rfl
 |some v =>
  obtain⟨q,z,rfl⟩:=h.2 i v e;rw[z]
  rfl
end
section
variable{X:Cx}{T:Tab}{k:Nat}{cal:Cal}
def Ci (J:attributeBase o "values" X.env (eval o X.env)=eval o X.env) (U:(ap.endLine==cp.line)=true) (ho:PE X o td) :
  PE X (.Call (.Attribute o "values" ap) [] [] cp) (λσ H Q=>td σ H λx H1=>∃a d,x=.ref a/\RdD H1 a d/\∀p,H1 p=none->Q (.ref p) (upd H1 p (HM p a))):=by
 intro pins s σ H Q I h;refine wpAny_Call_method J rfl U PySem.F.plainAttrs_dict PySem.F.slot_dict_values PySem.F.type_dict_values (thn (ho pins s σ H _ I h) λu Y ⟨x,H1,z,Z,a,d,ex,hd,q1⟩=>?_);subst ex;obtain rfl:u=Value.ref a:=Z;obtain⟨t1,t2,_⟩:=t7 z (qy hd);refine⟨t1,t2,?_⟩;refine LM rfl (PyProof.Rows.evalArgs_empty ?_);obtain⟨hs,es,ep,x,_⟩:=vW z hd;refine Dv.values_of hs x ⟨.ref Y.heap.objs.size,_,z.laid (λb o e=>g4 _ e) (pb _) ?_,rfl,q1 _ (z.hok.fresh (pb _))⟩;exact⟨⟨_,uw _ rfl,rfl,rfl⟩,⟨_,uw _ rfl⟩,λh1 h2 ⟨o,ho,r⟩ k=>⟨o,k o ho,r⟩⟩
def uG (hc:X.calm=true):bU X (.type "list") (λus H Q=>∃p a d,us=[.ref p]/\H p=some (HM p a)/\RdD H a d/\(dSc d).length<=10000/\∀l,H l=none->Q (.ref l) (upd H l (.lst ((dSc d).map Sc.v)))):=by
 intro pins s σ H xs us Q I r h;refine aE λZq U=>?_
 obtain⟨p,a,d,rfl,Y,Z,hl,q⟩:=h;obtain⟨u,rfl,ru⟩:=d8 r;cases ru;obtain⟨_,es,ep,x,vs⟩:=vW I Z;have hv:=(show bJ X.prog X.w H s.heap p _ from I.hok p _ Y).1;have z:es.size=(dSc d).length:=by have:=vs.length;simp at this;omega
 refine U ?_;refine PySem.W.kdl_call (Dv.src) (I.ok.hd hc) ⟨hv,x⟩ (by rw[z,Kp];omega) λh' tk J c kp e it=>?_
 refine⟨.ref s.heap.objs.size,_,I.laid kp (pb _) (o:=.lst _) ⟨by rw[pd,Kp];omega,J.toList,c,?_,by rw[Array.toArray_toList];exact e⟩,rfl,q _ (I.hok.fresh (pb _))⟩;rw[uF it];exact vs
def Cj{P:Program}{w:World}{n:Int}{v:Value}(h:(bE P w).is (Sum.inl n) v=true):∃t,v=.int n t:=by
 rw[tN]at h;cases v<;>simp[lz,Value.isInt]at h
 subst h;exact⟨_,rfl⟩
def qE (hc:X.calm=true):bU X (.builtin "sorted") (RBF X.K (aD .sortedKeys)):=by
 intro pins s σ H xs us Q I r h;obtain⟨O,vs,ys,hO,rs,e,q⟩:=h;obtain⟨x,rfl⟩:=c9 e (.inl rfl);obtain⟨u,rfl,rx⟩:=p1 rs;have hd:∃kvs,x=.dI (.k kvs)/\kvs.length<64/\ys=(sortI (kvs.map (·.1))).map .int:=by
  simp only[aD,cg]at e;split at e
  .split at e
   .rename_i kvs hl;cases e;exact⟨kvs,rfl,hl,rfl⟩
   .cases e
  .cases e
 obtain⟨kvs,rfl,Z,rfl⟩:=hd;obtain⟨a,rfl,ha⟩:=rx.dI;obtain⟨u,rfl,ru⟩:=d8 r;cases ru;obtain⟨hz,hs,Y,U,dd⟩:=jl I.hok (show Rd H a (.dK (gI kvs))from ha.rd);obtain⟨ep,ao⟩:=dd.dictAt;have z:Y.length=kvs.length:=by rw[<- U.length];unfold gI;rw[pd]
 have J:Y.map (·.1)=kvs.map λp=>(Sum.inl p.1:Key):=by
  rw[<- U.keys];unfold gI;rw[J2]
  rfl
 refine Srt.iM (ks:=kvs.map (·.1)) (by rw[pd];exact Z) (λQ' aO=>?_) λh1 h' tk d' out c k1 k2 e hi=>?_
 .refine PySem.W.kdu_collect (PySem.W.kdl_dict (knd:=bE X.prog X.w) (kvs:=Y) (ep:=ep) hs) (by simpa using I.ok.hd hc) ao (by rw[z,Kp];omega) λh' tk a9 kp it=>?_
  refine aO h' tk s.drawn _ (kvs.map (·.1)) kp (.refl _) (St.oJ ⟨by rw[it.1,z,pd],λj v ej=>?_⟩);obtain⟨kk,xx,e1,e2⟩:=it.2 j v ej;have e3:(Y.map (·.1))[j]?=some kk:=by rw[J9,e1];rfl
  rw[J,J9,pe]at e3;obtain⟨p,e4,rfl⟩:=e3;rw[KC,J9,e4];exact Cj e2
 .have I1:Inv X pins σ H { s with heap:=h1,toks:=tk,drawn:=d' }:=I.keptD k1;have I2:Inv X pins σ (upd H h1.objs.size (.lst ((Srt.sortI (kvs.map (·.1))).map V.int))) { s with heap:=h',toks:=tk,drawn:=d' }:=
   I1.laid (t':=tk) k2 (pb _) (show bJ X.prog X.w _ h' _ (.lst _)from⟨by rw[pd,Srt.sortI_len,pd,Kp];omega,out,c,po hi,e⟩)
  refine⟨.ref h1.objs.size,_,I2,rfl,q _ _ (I1.hok.fresh (pb _)) ?_⟩;rw[dD];exact .of_ints _
end
def qF:bootBuiltins "len"=some (.builtin "len"):=by decide +kernel
def nz:bootBuiltins "tuple"=some (.type "tuple"):=by decide +kernel
def qG:bootBuiltins "list"=some (.type "list"):=by decide +kernel
def lb:bootBuiltins "sorted"=some (.builtin "sorted"):=by decide +kernel
def Fa:bootBuiltins "any"=some (.builtin "any"):=by decide +kernel
def Fb:bootBuiltins "all"=some (.builtin "all"):=by decide +kernel
def Fc:bootBuiltins "max"=some (.builtin "max"):=by decide +kernel
def zH:bootBuiltins "int"=some (.type "int"):=by decide +kernel
def Ck:bootBuiltins "bool"=some (.type "bool"):=by decide +kernel
def qH:bootBuiltins "set"=some (.type "set"):=by decide +kernel
def oT:bootBuiltins "isinstance"=some (.builtin "isinstance"):=by decide +kernel
section
variable{X:Cx}{T:Tab}{k:Nat}{cal:Cal}
def Fd {p p2 pos:Pos} (g:Gf X T k cal) (U:dB f=some c) (hg:glB X.env.scope "isinstance"=true) (ht:t=(c:Str)) (Y:glB X.env.scope t=true)
  (Z:bootBuiltins c=some (.type c)) (ao:X.mg c=none) (hn:(c:Str) ≠ "__name__") (hd:((c:Str)==("__debug__":Str))=false) (h:PE X e (tE X.K cal m)) (hs:ag e=true):PE X (.Call (.Name "isinstance" p) [e,.Name t p2] [] pos) (tE X.K cal (.blt f [m])):=by
 subst ht;refine(eZ (E3 U) (dC hg) (g.blt "isinstance" (by decide)) oT (aN h (aN (Bf (v:=.ty c) (dC Y) ao Z rfl hn hd) bF rfl) (aW hs _ _)) (by decide) (by decide) (aW hs _ _) rfl).imp λσ H Q q=>?_
 obtain⟨B,E,O,W,v,st,z,q⟩:=q;rw[ev,gf]at z;obtain⟨vs,z,J⟩:=z;obtain⟨w,rfl,e3⟩:=sn z;have e5:isD w=false/\v=.bl (isT f w):=by
  cases hd:isD w with
  |true=>cases f<;>simp[dB,reduceCtorEq]at U<;>(simp only[aD,cg,iD,jh,hd]at J;cases J)
  |false=>cases f<;>simp[dB,reduceCtorEq]at U<;>(simp[aD,cg,iD,jh,hd,J7,KS,tf]at J;exact⟨rfl,J.symm⟩)
 obtain⟨e5,rfl⟩:=e5;refine⟨B,E,O,W,w,st,e3,λu H1 s1 g1=>⟨O,w,u,rfl,e5,g1.1,q _ H1 s1 (.of (eF _ _))⟩⟩
def su {p p2 pos pos2:Pos} (g:Gf X T k cal) (hx:x=("sorted":Str)) (hy:y=("set":Str)) (hg:glB X.env.scope x=true) (U:glB X.env.scope y=true) (h:PE X e (tE X.K cal m)) (hs:ag e=true):PE X (.Call (.Name x p) [.Call (.Name y p2) [e] [] pos2] [] pos) (tF X.K cal (.blt .sortedSet [m])):=by
 subst hx hy;refine(eZ (sk g.calm) (dC hg) (g.blt "sorted" (by decide)) lb (aN (di (vR g.calm) (dC U) (g.blt "set" (by decide)) qH (aN h bF (aW hs _ _)) (by decide) (by decide) (aW hs _ _) rfl) bF rfl) (by decide) (by decide) rfl rfl).imp λσ H Q q=>?_
 refine aE λZq kq=>?_
 obtain⟨B,E,O,W,xs,st,J,q⟩:=q;rw[ev,gf]at J;obtain⟨vs,J,Z⟩:=J;obtain⟨w,rfl,e3⟩:=sn J;simp only[aD,cg,m8,iD,jh,gf]at Z;obtain⟨ys,e4,ns,e5,Y⟩:=Z;refine kq ?_;split at Y
 .rename_i hc;cases Y;refine⟨B,E,O,W,w,st,e3,λu H1 s1 g1=>⟨O,w,u,ns,rfl,g1.1,by simp[e4,e5],hc.1,λl hl=>⟨l,_,rfl,aB,?_,λp' z=>?_⟩⟩⟩
  .rw[uD];exact hc.2
  .rw[Cb];refine q p' _ _ ((s1.trans (aC hl _)).trans (aC z _)) (s1.free ((aC hl _).free z)) aB (.of_ints _)
 .cases Y
def zI {p p2 pos pos2:Pos} (g:Gf X T k cal) (hx:x=("len":Str)) (Z:y=("set":Str)) (hg:glB X.env.scope x=true) (J:glB X.env.scope y=true) (h:PE X e (tE X.K cal m)) (hs:ag e=true):PE X (.Call (.Name x p) [.Call (.Name y p2) [e] [] pos2] [] pos) (tE X.K cal (.blt .lenSet [m])):=by
 subst hx Z;refine(eZ qm (dC hg) (g.blt "len" (by decide)) qF (aN (di (vR g.calm) (dC J) (g.blt "set" (by decide)) qH (aN h bF (aW hs _ _)) (by decide) (by decide) (aW hs _ _) rfl) bF rfl) (by decide) (by decide) rfl rfl).imp λσ H Q q=>?_
 refine aE λZq kq=>?_
 obtain⟨B,E,O,W,v,st,z,q⟩:=q;rw[ev,gf]at z;obtain⟨vs,z,Y⟩:=z;obtain⟨w,rfl,e3⟩:=sn z;simp only[aD,cg,m8,iD,jh,gf]at Y;obtain⟨ys,e4,ns,e5,U⟩:=Y;refine kq ?_;split at U
 .rename_i hc;cases U;refine⟨B,E,O,W,w,st,e3,λu H1 s1 g1=>⟨O,w,u,ns,rfl,g1.1,by simp[e4,e5],hc,λl hl=>⟨l,_,rfl,aB,?_⟩⟩⟩;rw[uD];exact q _ _ (s1.trans (aC hl _)) (.of (b7 _ _))
 .cases U
def sw {p p2 p3 q2 q3 q4 pos:Pos} (g:Gf X T k cal) (hx:x=("len":Str)) (hy:y=("set":Str)) (hz:z=("set":Str)) (hg:glB X.env.scope x=true) (ao:glB X.env.scope y=true) (aO:glB X.env.scope z=true) (ha:PE X a (tE X.K cal m1)) (hb:PE X b (tE X.K cal m2)) (J:ag a=true) (U:ag b=true) :
  PE X (.Call (.Name x p) [.BinOp (.Call (.Name y p2) [a] [] q2) .Sub (.Call (.Name z p3) [b] [] q3) q4] [] pos) (tE X.K cal (.blt .lenSetSub [m1,m2])):=by
 subst hx hy hz;refine(eZ rU (dC hg) (g.blt "len" (by decide)) qF (aN (vb wY (di (vR g.calm) (dC ao) (g.blt "set" (by decide)) qH (aN ha bF (aW J _ _)) (by decide) (by decide) (aW J _ _) rfl) (di (vR g.calm) (dC aO) (g.blt "set" (by decide)) qH (aN hb bF (aW U _ _)) (by decide) (by decide) (aW U _ _) rfl)) bF rfl) (by decide) (by decide) rfl rfl).imp λσ H Q q=>?_
 refine aE λZq kq=>?_
 obtain⟨B,E,O,W,v,st,Y,q⟩:=q;rw[ev,gf]at Y;obtain⟨vs,Y,e2⟩:=Y;simp only[evs,gf,pe]at Y;obtain⟨v1,e3,w1,⟨v2,e4,w2,e5,rfl⟩,rfl⟩:=Y;cases e5;simp only[aD,cg,m8,iD,jh,gf]at e2;obtain⟨xs,f1,ns,f2,ys,f3,ms,f4,f5⟩:=e2;refine kq ?_;split at f5
 .rename_i hc;cases f5;refine⟨B,E,O,W,v1,st,e3,λu H1 s1 g1=>⟨O,v1,u,ns,rfl,g1.1,by simp[f1,f2],hc.1,λl hl=>?_⟩⟩;refine⟨B,E,O,W,v2,st.mono (s1.trans (aC hl _)),e4,λu2 H2 s2 g2=>⟨O,v2,u2,ms,rfl,g2.1,by simp[f3,f4],hc.2.1,λl2 Z=>?_⟩⟩;refine⟨l,l2,_,_,rfl,rfl,(aC Z _) l _ (s2 l _ aB),aB,by rw[uD];exact hc.2.2,λp' a1=>⟨p',_,rfl,aB,?_⟩⟩;have e6:((St.dd ns.reverse).filter λk=>!decide (k∈St.dd ms.reverse)).length=((dd ns).filter λn=>!decide (n∈ms)).length:=by
   rw[pD];have e7:(λk=>!decide (k∈St.dd ms.reverse))=λn=>!decide (n∈ms):=by
    funext k
    congr 1
    rw[Ni,St.fX,Nl]
   rw[e7];refine Perm.length_eq (Perm.filter _ ((KQ (St.dd_nodup _) (St.dd_nodup _)).mpr λa=>?_));rw[St.fX,St.fX,Nl]
  rw[e6];exact q _ _ ((s1.trans (aC hl _)).trans (s2.trans ((aC Z _).trans (aC a1 _)))) (.of (b7 _ _))
 .cases f5
theorem sx :∀{kvs}{ks}{vs},sd kvs ks vs=true->PPs X kpos ks vs (kvs.map λp=>(tC (.str p.1),tC (.str p.2)))/\ks.all (·.isSome)=true/\ks.length=vs.length/\ks.length=kvs.length
 | [],[],[],_=>⟨BD,rfl,rfl,rfl⟩
 |p::r,k::ks,v::vs,h=>by
  obtain⟨a,z⟩:=gQ.mp h;obtain⟨h1,h2⟩:=gQ.mp a;obtain⟨J,U,Y,Z⟩:=sx (kpos:=kpos) z;cases k with
  |none=>cases h1
  |some k =>
   obtain⟨j,kp,rfl⟩:=vK (eq_of_beq h1);obtain⟨j2,vp,rfl⟩:=vK (eq_of_beq h2);exact⟨yn tO tO J,by rw[all_cons,U];rfl,by rw[length_cons,length_cons,Y],by rw[length_cons,length_cons,Z]⟩
 | [],_::_,_,h=>by cases h
 | [],[],_::_,h=>by cases h
 | _::_,[],_,h=>by cases h
 | _::_,_::_,[],h=>by cases h
theorem nA{σ:St}:∀{kvs:List (Str×Str)}{H}{Q},Q (kvs.map λp=>(V.str p.1,V.str p.2)) H->qf (kvs.map λp=>(tC (.str p.1),tC (.str p.2))) σ H Q
 | [],_,_,h=>h
 |p::r,H,Q,h=>nA (kvs:=r) (Q:=λps z=>Q ((V.str p.1,V.str p.2)::ps) z) h
def Fe(g:Gf X T k cal)(hd:sd kvs ks vs=true)(hl:kvs.length<=15)(h0:kvs.isEmpty=false)(hk:PE X i (tE X.K cal m))(hs:ca i=true):PE X (.Subscript (.Dict ks vs dp) i pos) (tE X.K cal (.disp kvs m)):=by
 have hu:X.A.units+1<cLine:=by have:=g.units;omega
 obtain⟨q1,q2,q3,q4⟩:=sx (X:=X) (kpos:=dp) hd;have hn:ks≠[]:=λz=>by
  grind
 refine(vh hu (BE q1 q2 q3 hn (by omega)) hk (by cases i<;>first|(intro _ _;rfl)|(simp[ca]at hs))).imp λσ H Q q=>?_
 obtain⟨B,E,O,W,v,st,J,q⟩:=q;rw[ev,gf]at J;obtain⟨w,J,Y⟩:=J;cases w with
 |str x =>
  have U:(jg (iK [] (pA kvs)) (Sum.inr x)).bind (λv=>match v with|.str y=>some (PV.str y)|_=>none)=some v:=Y;rw[gf]at U;obtain⟨u,U,Z⟩:=U;cases u with
  |str y =>
   cases Z;intro p hp;refine nA ⟨aB,pA kvs,by unfold pA;rw[J2];rfl,by unfold pA;rw[pd];exact hl,?_⟩;have s1:ai H (upd (upd H p (.dK [])) p (.dK (iK [] (pA kvs)))):=λb o e=>by
    have hb:b≠p:=λz=>by rw[z,hp]at e;cases e
    rw[bc hb,bc hb];exact e
   refine⟨B,E,O,W,_,st.mono s1,J,λuy H2 s2 g2=>?_⟩;have ey:=g2.1.str;subst ey;exact⟨p,V.str y,rfl,.inl ⟨_,Sum.inr x,.inl (s2 _ _ aB),rfl,U.symm⟩,q _ H2 (s1.trans s2) (.of (mq _ _))⟩
  | _=>cases Z
 | _=>cases Y
theorem sy:∀{ns:List Int}{its:List Value},aL (ns.map V.int) its->PyProof.Rows.IntsAre its ns
 | [],_,h=>by cases h;exact .nil
 |n::ns,_,h=>by
  cases h with
  |cons r t =>
   obtain⟨t',rfl⟩:=r;exact .cons n t' (sy t)
def Ff(K:Np):V->List V->Hp->VK->Prop:=λx vs H Q=>∃l k,∃ns:List Int,x=.ref l/\vs=[.int k]/\SqL K H l (ns.map V.int)/\k∈ns/\ns.length<=10000/\Q (.int (ns.idxOf k:Nat)) H
def zJ:MtM X "list.index" (Ff X.K):=by
 intro pins s σ H x vs v us Q I Z rv h;obtain⟨l,k,ns,rfl,rfl,sq,hk,hz,q⟩:=h;cases Z;obtain⟨t,rfl⟩:∃t,us=[.int k t]:=by
  cases rv with
  |cons r1 r2 =>
   cases r2;obtain⟨t,rfl⟩:=r1;exact⟨t,rfl⟩
 obtain⟨its,r,p,_⟩:=I.list sq;obtain⟨⟨cls,dd,data,sl⟩,ho,hc,n,hd⟩:=p.isList;simp only at hc hd;subst hc hd;have hi:=sy r;have U:=hi.length;have Y:ns.idxOf k<ns.length:=idxOf_lt_length_iff.mpr hk;refine Mw PySem.F.slot_list_index ⟨_,ho,rfl⟩ PySem.F.entry_list_index (PySem.F.args_list_index_2 _ _) (PySem.SeqAt.list_indexAt l its.toArray n dd sl (.int k t) (PyProof.Rows.isInt k) (ns.idxOf k) (by rw[ro];omega) (by omega) ?_ ?_) ⟨ho,λy hy=>(PyProof.Rows.eq_isInt k t hi y (by simpa using hy)).at _ _,⟨.int (ns.idxOf k:Nat),H,I.tok _,⟨_,rfl⟩,q⟩⟩
 .show PyProof.Rows.isInt k its[ns.idxOf k]=true;rw[PyProof.Rows.isInt_at k hi _ (by omega) Y];simpa using getElem_idxOf Y
 .intro j z J;show PyProof.Rows.isInt k its[j]=false;rw[PyProof.Rows.isInt_at k hi j (by simpa using z) (by omega)];exact PyProof.Rows.ne_of_lt_idxOf J _
def Cl {i:Nat}{m:ME}{x:Str}{e:Expr}{p ap cp:Pos} (h:PE X e (tE X.K cal m)) (hn:aV X.N X.env.scope i x=true) (hs:ag e=true) (hl:(ap.endLine==cp.line)=true):PE X (.Call (.Attribute (.Name x p) "index" ap) [e] [] cp) (tE X.K cal (.indexOf i m)):=by
 refine(vg PySem.F.plainAttrs_list PySem.F.slot_list_index PySem.F.type_list_index zJ (b8 hn) (aN h bF (aW hs _ _)) rfl (by rw[aW hs];rfl) hl (aW hs _ _) rfl).imp λσ H Q q=>?_
 obtain⟨B,E,O,W,v,st,J,q⟩:=q;rw[ev,gf]at J;obtain⟨w,J,z⟩:=J;cases Y:(W[i]?).join with
 |none=>rw[Y]at z;cases z
 |some mv =>
  rw[Y]at z;cases mv with
  |val y =>
   cases y with
   |lst xs =>
    cases w with
    |int k =>
     have z:((bf xs).bind λns=>if k∈ns/\ns.length<=10000 then some (PV.int (ns.idxOf k:Nat))else none)=some v:=z;rw[gf]at z;obtain⟨ns,e3,Z⟩:=z;split at Z
     .rename_i hz;cases Z;have e5:=dA e3;subst e5;obtain⟨u,eu,U⟩:=aY st Y;have U:Rep X.K (ay H O) (.lst (ns.map .int)) u:=U;rw[Rep]at U;obtain⟨a,us,rfl,sq,rs⟩:=U;have e6:=rs.ints;subst e6;exact⟨_,eu,.inl ⟨rfl,_,(bG H O).seq sq⟩,B,E,O,W,_,st,J,λu1 H1 s1 g1=>⟨a,k,ns,rfl,by rw[g1.1.int],s1.seq ((bG H O).seq sq),hz.1,hz.2,q _ H1 s1 (.of (by rw[Rep]))⟩⟩
     .cases Z
    | _=>cases z
   | _=>cases z
  | _=>cases z
def Fg (g:Gf X T k cal) (hg:glB X.env.scope ("len":Str)=true) (hn:aV X.N X.env.scope i y=true):PE X (.Call (.Name ("len":Str) p) [.Name y yp] [] pos) (tE X.K cal (.lenP i)):=by
 refine(eZ hV (dC hg) (g.blt "len" (by decide)) qF (aN (b8 hn) bF rfl) (by decide) (by decide) rfl rfl).imp λσ H Q q=>?_
 refine aE λZq kq=>?_
 obtain⟨B,E,O,W,v,st,z,q⟩:=q;rw[ev]at z;have fin:∀ns a,H a=some (iO (.p ns))->v=.int ns.length->σ[i]?=some (some (.ref a))->∃u,σ[i]?=some (some u)/\∃a J,[u]=[V.ref a]/\(SqL X.K H a J\/SqT X.K H a J)/\Q (.int J.length) H:=λns a U hv Y=>by
  refine⟨_,Y,a,ns.map V.int,rfl,.inl (SqL.of U),?_⟩;rw[pd];subst hv;exact q _ H (ai.refl H) (.of (b7 _ _))
 refine kq ?_;cases Z:(W[i]?).join with
 |none=>rw[Z]at z;cases z
 |some m =>
  rw[Z]at z;obtain⟨u,Y,so⟩:=aY st Z;cases m with
  |ownD d|mutD d =>
   cases d with
   |p ns =>
    cases z;obtain⟨a,rfl,U,_⟩:=so;exact fin ns a U rfl Y
   | _=>cases z
  | _=>cases z
def sA{cond elt:ME}:∀W v,ev cal (.comp z src js cond elt) W=some v->∃xs,v=.lst xs:=λW v hv=>by
 rw[ev,gf]at hv;obtain⟨vs,_,hv⟩:=hv;rw[gf]at hv;obtain⟨xs,_,hv⟩:=hv;split at hv
 .simp at hv;obtain⟨ys,_,rfl⟩:=hv;exact⟨_,rfl⟩
 .cases hv
def dZ(z:f=.listOf\/f=.sorted\/f=.sortedSet\/f=.sortedKeys\/f=.valuesOf) :∀W v,ev cal (.blt f ms) W=some v->∃xs,v=.lst xs:=λW v hv=>by
 rw[ev,gf]at hv;obtain⟨vs,_,hv⟩:=hv;rcases z with rfl|rfl|rfl|rfl|rfl
 .obtain⟨x,rfl⟩:=c9 hv (.inl rfl);simp only[aD,cg,m8,iD,jh,pe]at hv;obtain⟨ys,_,rfl⟩:=hv;exact⟨_,rfl⟩
 .obtain⟨x,rfl⟩:=c9 hv (.inl rfl);simp only[aD,cg,m8,iD,jh,gf]at hv;obtain⟨ys,_,hv⟩:=hv;unfold iN at hv;split at hv
  .split at hv
   .cases hv;exact⟨_,rfl⟩
   .simp only[pe]at hv;obtain⟨J,_,rfl⟩:=hv;exact⟨_,rfl⟩
  .cases hv
 .obtain⟨x,rfl⟩:=c9 hv (.inr (.inr (.inl rfl)));simp only[aD,cg,m8,iD,jh,gf]at hv;obtain⟨ys,_,ns,_,hv⟩:=hv;split at hv
  .cases hv;exact⟨_,rfl⟩
  .cases hv
 .obtain⟨x,rfl⟩:=c9 hv (.inl rfl);simp only[aD,cg]at hv;split at hv
  .split at hv
   .cases hv;exact⟨_,rfl⟩
   .cases hv
  .cases hv
 .obtain⟨x,rfl⟩:=c9 hv (.inr (.inr (.inr (.inr rfl))));simp only[aD,cg]at hv;split at hv
  .grind
  .cases hv
def qI{cond:ME}(h:sa f cond ifs=true)(hc:∀c,f c=true->PT X c (tT X.K cal cond)):PF X ifs (tT X.K cal cond):=by
 match ifs,h with
 | [],h =>
  have e:cond=.cst (.bl true):=by
   simp[sa]at h;split at h
   .rfl
   .cases h
  subst e;intro pins s σ H Q I q;refine aE λU J=>?_
  obtain⟨B,E,O,W,b,st,z,q⟩:=q;simp only[evB,ev,bind_some,bi,tf]at z;subst z;refine J ?_;exact Eg pins s σ H Q I (q H (ai.refl H))
 | [c],h=>exact Eh (hc c h)
def lc(ao:tup=true->∃ts j tp,tg=.Tuple ts j tp)(g:Gf X T k cal)(h:ng X.env.scope tup (λxs=>chks T src X.N X.env.scope xs) k' it=true)(hs:∀xs,chks T src X.N X.env.scope xs=true->PA X xs (tEs X.K cal src)/\xs.all ag=true/\src.length=xs.length)
  (h1:∀m x,src=[m]->chks T src X.N X.env.scope [x]=true->PE X x (tE X.K cal m)):PI X tg it (tW X.K cal k' src)/\fh it=true:=by
 cases k' with
 |seq =>
  replace h:=gQ.mp h
  obtain⟨z,h⟩:=h;refine⟨?_,z⟩;obtain⟨_,_,J⟩:=hs _ h;obtain⟨m,rfl⟩:=LR.mp J;cases U:aM m with
  |false=>exact Hy U (h1 m it rfl h)
  |true =>
   have q1:=(cb h).1.1;obtain⟨i,rfl⟩:=nh U;obtain⟨x,p,rfl,q⟩:=j_ q1;exact Hz q
 |rng =>
  replace h:=ak h
  obtain⟨c,e1,h⟩:=h;obtain⟨p,pos,rfl⟩:=fH e1;simp only[mu,J0,Nj]at h;obtain⟨⟨⟨hx,Z⟩,Y⟩,z⟩:=h;obtain⟨q,a1,J⟩:=hs _ Y;exact⟨Cd g hx Z q z a1 J,rfl⟩
 |enm =>
  replace h:=ak h
  obtain⟨⟨x,a⟩,e1,h⟩:=h;obtain⟨p,pos,rfl⟩:=hZ e1;simp only[mu,J0]at h;obtain⟨⟨⟨⟨ht,hx⟩,Z⟩,Y⟩,z⟩:=h;obtain⟨ts,j,tp,rfl⟩:=ao ht;obtain⟨_,_,J⟩:=hs _ Y;refine⟨?_,rfl⟩;obtain⟨m,rfl⟩:=LR.mp J;cases U:aM m with
  |false=>exact HA g hx Z z U (h1 m a rfl Y)
  |true =>
   have q1:=(cb Y).1.1;obtain⟨i,rfl⟩:=nh U;obtain⟨y,p,rfl,q⟩:=j_ q1;exact E6 g hx Z q
 |rev=>cases h
def uH(K)(F)(s:Sc):Rep K F s.pv s.v:=by cases s<;>simp[Sc.pv,Sc.v,Rep]
def uI{K:Np}(e:sc? x=some s)(r:bH K H O x u):u=s.v:=by
 cases x<;>simp[sc?,tf,reduceCtorEq]at e<;>subst e
 .exact r.non
 .exact r.bl
 .exact r.int
 .exact r.str
def base_of(z:pB o=true):attributeBase o n X.env (eval o X.env)=eval o X.env:=by
 cases o<;>first|rfl|(simp at z;done)|skip
 rename_i fn args kws pos;cases args with
 |nil=>simp[pB]at z
 |cons _ _=>cases fn<;>rfl
theorem vX(K)(F):∀ss:List Sc,Reps K F (ss.map Sc.pv) (ss.map Sc.v)
 | []=>rfl
 |s::ss=>⟨_,_,rfl,uH K F s,vX K F ss⟩
def zK (g:Gf X T k cal) (hx:x=("list":Str)) (hg:glB X.env.scope x=true) (h:PE X o (tE X.K cal m)) (hb:attributeBase o "values" X.env (eval o X.env)=eval o X.env) (J:(ap.endLine==cp.line)=true) :
  PE X (.Call (.Name x p) [.Call (.Attribute o "values" ap) [] [] cp] [] pos) (tF X.K cal (.blt .valuesOf [m])):=by
 subst hx;refine(di (uG g.calm) (dC hg) (g.blt "list" (by decide)) qG (aN (Ci hb J h) bF rfl) (by decide) (by decide) rfl rfl).imp λσ H Q q=>?_
 refine aE λZq kq=>?_
 obtain⟨B,E,O,W,xs,st,Y,q⟩:=q;rw[ev,gf]at Y;obtain⟨vs,Y,U⟩:=Y;obtain⟨w,rfl,e3⟩:=sn Y;have hd:∃d,w=.dI d/\(j6 d).length<=10000/\xs=j6 d:=by
  simp[aD,cg]at U;split at U
  .split at U
   .rename_i d J
    simp_all
   .cases U
  .cases U
 obtain⟨d,rfl,hz,rfl⟩:=hd;have Z:(dSc d).length<=10000:=by unfold j6 at hz;rw[pd]at hz;exact hz
 refine kq ?_;refine⟨B,E,O,W,_,st,e3,λu H1 s1 g1=>?_⟩;obtain⟨a,rfl,ha⟩:=g1.1.dI;refine⟨a,d,rfl,ha,λp' z=>⟨p',a,d,rfl,aB,ai.rdD (aC z _) ha,Z,λl J=>?_⟩⟩;refine q l _ _ ((s1.trans (aC z _)).trans (aC J _)) (s1.free ((aC z _).free J)) aB ?_;exact vX _ _ _
def Cm{α:Type}:∀{es:List α},es.length=2->∃m z,es=[m,z]
 | [_,_],_=>⟨_,_,rfl⟩
def Fh {sc:Scope}{f:List Expr->Bool}{n:Nat}{args:List Expr} (J:mh sc f n .lenSetSub args=true):∃U y z Y p2 Z p3 q3 q4,args=[.BinOp (.Call (.Name U p2) [y] [] Z) .Sub (.Call (.Name z p3) [Y] [] q3) q4]/\U="set"/\glB sc U=true/\z="set"/\glB sc z=true/\f [y,Y]=true/\n=2:=by
 refine aE λZq kq=>?_
 obtain⟨a,e1,J⟩:=ak J;obtain⟨⟨l,o,r,q4⟩,e2,J⟩:=ak J;obtain⟨⟨U,y⟩,e3,J⟩:=ak J;obtain⟨⟨z,Y⟩,e4,J⟩:=ak J;simp only[mu,J0]at J;obtain⟨⟨⟨⟨⟨⟨a0,a1⟩,a2⟩,a3⟩,a4⟩,a5⟩,a6⟩:=J;obtain⟨p2,Z,e3⟩:=hZ e3;obtain⟨p3,q3,e4⟩:=hZ e4;refine kq ?_;exact⟨U,y,z,Y,p2,Z,p3,q3,q4,by rw[cN e1,qr e2,e3,e4,a0],a1,a2,a3,a4,a5,a6⟩
def Cn {sc:Scope}{f:List Expr->Bool}{n:Nat}{args:List Expr} (z:mh sc f n .valuesOf args=true):∃y ap cp,args=[.Call (.Attribute y "values" ap) [] [] cp]/\pB y=true/\ap.endLine=cp.line/\f [y]=true/\n=1:=by
 refine aE λZq J=>?_
 obtain⟨a,U,z⟩:=ak z;obtain⟨⟨y,mm,ap,as,cp⟩,Y,z⟩:=ak z;simp only[mu,J0,Lx]at z;obtain⟨⟨⟨⟨⟨Z,a1⟩,h3⟩,h4⟩,h5⟩,h6⟩:=z;refine J ?_;exact⟨y,ap,cp,by rw[cN U,qu Y,Z,a1],h3,h4,h5,h6⟩
def sB{b:Blt}{es:List ME}{x:Str}{args:List Expr}{p pos:Pos}(g:Gf X T k cal)(hx:x=(r9 b:Str))(Z:glB X.env.scope x=true)(J:mh X.env.scope (λxs=>chks T es X.N X.env.scope xs) es.length b args=true)
  (hs:∀xs,chks T es X.N X.env.scope xs=true->PA X xs (tEs X.K cal es)/\xs.all ag=true/\es.length=xs.length)
  (h1:∀m x,es=[m]->chks T es X.N X.env.scope [x]=true->PE X x (tE X.K cal m))
  (b5:∀m m' x x',es=[m,m']->chks T es X.N X.env.scope [x,x']=true->PE X x (tE X.K cal m)/\PE X x' (tE X.K cal m')) :
  (iQ (.blt b es)=true->PE X (.Call (.Name x p) args [] pos) (tF X.K cal (.blt b es)))/\PE X (.Call (.Name x p) args [] pos) (tE X.K cal (.blt b es)):=by
 subst hx;have inst:∀{b:Blt}{args:List Expr} (c:String),glB X.env.scope (r9 b)=true->dB b=some c->r9 b="isinstance"->bootBuiltins c=some (.type c)->X.mg c=none->(c:Str) ≠ "__name__"->((c:Str)==("__debug__":Str))=false->r_ X.env.scope (λxs=>chks T es X.N X.env.scope xs) es.length c args=true ->
   PE X (.Call (.Name (r9 b) p) args [] pos) (tE X.K cal (.blt b es)):=λ{b args} c Z hc hb cd hm hn hd J=>by
  replace J:=ak J
  obtain⟨⟨y,t0⟩,e1,J⟩:=J
  replace J:=ak J
  obtain⟨⟨t,p2⟩,e2,J⟩:=J;obtain rfl:=mf e1;obtain rfl:=dO (e:=t0) e2;simp only[mu,J0]at J;obtain⟨⟨⟨h2,h3⟩,h4⟩,h5⟩:=J;obtain⟨m,rfl⟩:=LR.mp h5;rw[hb]at Z ⊢;exact Fd g hc Z h2 h3 cd hm hn hd (h1 m y rfl h4) (cb h4).1.2
 have c1:∀{nm:Str},uu X.env.scope (λxs=>chks T es X.N X.env.scope xs) es.length nm args=true->∃m y gg p2 pos2,es=[m]/\args=[.Call (.Name gg p2) [y] [] pos2]/\gg=nm/\glB X.env.scope gg=true/\PE X y (tE X.K cal m)/\ag y=true:=λ{nm} J=>by
  replace J:=ak J
  obtain⟨a,e1,J⟩:=J
  replace J:=ak J
  obtain⟨⟨gg,y⟩,e2,J⟩:=J;obtain⟨p2,pos2,rfl⟩:=hZ e2;simp only[mu,J0]at J;obtain⟨⟨⟨h2,h3⟩,h4⟩,h5⟩:=J;obtain⟨m,rfl⟩:=LR.mp h5;exact⟨m,y,gg,p2,pos2,rfl,cN e1,h2,h3,h1 m y rfl h4,(cb h4).1.2⟩
 have plain:∀{args:List Expr} (n:Nat),0<n->(some n==some es.length&&chks T es X.N X.env.scope args)=true->∃e r,args=e::r/\PA X (e::r) (tEs X.K cal es)/\(e::r).all ag=true:=λ{args} n cP J=>by
  simp only[mu,J0,tf]at J;obtain⟨Y,U,q3⟩:=hs _ J.2;cases args with
  |nil=>rw[<- J.1]at q3;simp at q3;omega
  |cons e r=>exact⟨e,r,rfl,Y,U⟩
 cases b with
 |len =>
  obtain⟨e,r,er,Y,U⟩:=plain 1 (by decide) J;rw[er];exact⟨λz=>(by cases z),sr Ht Z (g.blt "len" (by decide)) qF (by decide) (by decide) Y U⟩
 |tupleOf =>
  obtain⟨e,r,er,Y,U⟩:=plain 1 (by decide) J;rw[er];exact⟨λz=>(by cases z),zB vQ Z (g.blt "tuple" (by decide)) nz (by decide) (by decide) Y U⟩
 |listOf =>
  obtain⟨e,r,er,Y,U⟩:=plain 1 (by decide) J;rw[er];have q:=Cg (p:=p) (pos:=pos) E2 Z (g.blt "list" (by decide)) qG (by decide) (by decide) Y U;exact⟨λ_=>q,dP (dZ (.inl rfl)) q⟩
 |sorted =>
  obtain⟨e,r,er,Y,U⟩:=plain 1 (by decide) J;rw[er];have q:=zC (p:=p) (pos:=pos) (zr g) Z (g.blt "sorted" (by decide)) lb (by decide) (by decide) Y U;exact⟨λ_=>q,dP (dZ (.inr (.inl rfl))) q⟩
 |any =>
  obtain⟨e,r,er,Y,U⟩:=plain 1 (by decide) J;rw[er];exact⟨λz=>(by cases z),sr (Hv g.calm) Z (g.blt "any" (by decide)) Fa (by decide) (by decide) Y U⟩
 |all =>
  obtain⟨e,r,er,Y,U⟩:=plain 1 (by decide) J;rw[er];exact⟨λz=>(by cases z),sr (Hw g.calm) Z (g.blt "all" (by decide)) Fb (by decide) (by decide) Y U⟩
 |intOf =>
  obtain⟨e,r,er,Y,U⟩:=plain 1 (by decide) J;rw[er];exact⟨λz=>(by cases z),zB Hu Z (g.blt "int" (by decide)) zH (by decide) (by decide) Y U⟩
 |boolOf=>exact absurd J oe
 |max2=>exact absurd J oe
 |min2=>exact absurd J oe
 |isInt=>exact⟨λz=>(by cases z),inst "int" Z rfl rfl zH (g.blt "int" (by decide)) (by decide) (by decide) J⟩
 |isBool=>exact⟨λz=>(by cases z),inst "bool" Z rfl rfl Ck (g.blt "bool" (by decide)) (by decide) (by decide) J⟩
 |isStr=>exact absurd J oe
 |isList=>exact absurd J oe
 |isTuple=>exact⟨λz=>(by cases z),inst "tuple" Z rfl rfl nz (g.blt "tuple" (by decide)) (by decide) (by decide) J⟩
 |sortedSet =>
  obtain⟨m,y,gg,p2,pos2,ee,ea,h2,h3,hp,ba⟩:=c1 J;rw[ee,ea];have q:=su (p:=p) (p2:=p2) (pos:=pos) (pos2:=pos2) g rfl h2 Z h3 hp ba;exact⟨λ_=>q,dP (dZ (.inr (.inr (.inl rfl)))) q⟩
 |sum =>
  obtain⟨e,r,er,Y,U⟩:=plain 1 (by decide) J;rw[er];exact⟨λz=>(by cases z),sr (Hx g.calm) Z (g.blt "sum" (by decide)) PyProof.Rows.boot_sum (by decide) (by decide) Y U⟩
 |max1 =>
  obtain⟨e,r,er,Y,U⟩:=plain 1 (by decide) J;rw[er];exact⟨λz=>(by cases z),sr (E4 g.calm) Z (g.blt "max" (by decide)) Fc (by decide) (by decide) Y U⟩
 |sortedKeys =>
  obtain⟨e,r,er,Y,U⟩:=plain 1 (by decide) J;rw[er];have q:=zC (p:=p) (pos:=pos) (qE g.calm) Z (g.blt "sorted" (by decide)) lb (by decide) (by decide) Y U;exact⟨λ_=>q,dP (dZ (.inr (.inr (.inr (.inl rfl))))) q⟩
 |valuesOf =>
  obtain⟨y,ap,cp,ea,h3,h4,h5,h6⟩:=Cn J;obtain⟨m,ee⟩:=LR.mp h6;have hy:=h1 m y ee h5;rw[ee,ea];have q:=zK (p:=p) (ap:=ap) (cp:=cp) (pos:=pos) g rfl Z hy (base_of h3) (by rw[h4];simp);exact⟨λ_=>q,dP (dZ (.inr (.inr (.inr (.inr rfl))))) q⟩
 |min1=>cases J
 |tupleRev=>cases J
 |lenSet =>
  obtain⟨m,y,gg,p2,pos2,ee,ea,h2,h3,hp,ba⟩:=c1 J;rw[ee,ea];exact⟨λz=>(by cases z),zI g rfl h2 Z h3 hp ba⟩
 |lenSetSub =>
  obtain⟨gg,y,c6,y',p2,U,p3,q3,q4,ea,a1,a2,a3,a4,a5,a6⟩:=Fh J;obtain⟨m,m',ee⟩:=Cm a6;obtain⟨b1,b2⟩:=b5 m m' y y' ee a5;rw[ee]at a5 ⊢;rw[ea];exact⟨λz=>(by cases z),sw g rfl a1 a3 Z a2 a4 b1 b2 (cb a5).1.2 (cb (cb a5).2).1.2⟩
def HN(g:Gf X T k cal)(hk:PE X l (tE X.K cal mk))(Y:PE X r (tE X.K cal J))(hm:behindInMarks (if neg=true then CmpOp.NotIn else CmpOp.In) r=false) :
  PE X (.Compare l [if neg=true then CmpOp.NotIn else CmpOp.In] [r] pos) (tE X.K cal (.dIn neg mk J))/\PT X (.Compare l [if neg=true then CmpOp.NotIn else CmpOp.In] [r] pos) (tT X.K cal (.dIn neg mk J)):=by
 have hu:X.A.units+1<cLine:=by have:=g.units;omega
 have go:∀{σ}{H}{Q:Bool->Hp->Prop},(∃B E O W b,aF X.K B E O H W σ/\ev cal (.dIn neg mk J) W=some (.bl b)/\∀H',ai H H'->Q b H') ->
   tE X.K cal mk σ H λy H1=>tE X.K cal J σ H1 λx H2=>∃a o,x=.ref a/\mM H2 a y o/\Q (if neg=true then !o.isSome else o.isSome) H2:=λ{σ H Q} q=>by
  refine aE λZq Z=>?_
  obtain⟨B,E,O,W,b,st,z,q⟩:=q;rw[ev]at z;simp only[gf]at z;obtain⟨y,z,x,e2,U⟩:=z;refine Z ?_;refine⟨B,E,O,W,y,st,z,λuy H1 s1 g1=>⟨B,E,O,W,x,st.mono s1,e2,λux H2 s2 g2=>?_⟩⟩;rw[pe]at U;obtain⟨o,U,e4⟩:=U;cases x<;>try (cases U;done)
  obtain⟨a,rfl,Y⟩:=g2.1.dI;refine⟨a,_,rfl,qD U Y (g1.1.mono s2),?_⟩;rw[isSome_map,PV.bl.inj e4];exact q H2 (s1.trans s2)
 have ao:∀{σ}{H}{Q},tE X.K cal (.dIn neg mk J) σ H Q->∃B E O W b,aF X.K B E O H W σ/\ev cal (.dIn neg mk J) W=some (.bl b)/\∀H',ai H H'->Q (.bl b) H':=λ{σ H Q} q=>by
  refine aE λZq Z=>?_
  obtain⟨B,E,O,W,v,st,z,q⟩:=q;have hb:∃b,v=.bl b:=by
   rw[ev]at z;simp only[gf]at z;obtain⟨y,_,x,_,U⟩:=z;rw[pe]at U;obtain⟨o,_,e4⟩:=U;exact⟨_,e4.symm⟩
  obtain⟨b,rfl⟩:=hb;refine Z ?_;exact⟨B,E,O,W,b,st,z,λH' s=>q _ H' s (.of (eF _ _))⟩
 have aO:∀{σ}{H}{Q},tT X.K cal (.dIn neg mk J) σ H Q->∃B E O W b,aF X.K B E O H W σ/\ev cal (.dIn neg mk J) W=some (.bl b)/\∀H',ai H H'->Q b H':=λ{σ H Q} q=>by
  refine aE λZq Z=>?_
  obtain⟨B,E,O,W,b,st,z,q⟩:=q;unfold evB at z;simp only[gf]at z;obtain⟨v,z,e2⟩:=z;refine Z ?_;cases v<;>simp only[bi,reduceCtorEq,tf]at e2
  subst e2;exact⟨B,E,O,W,_,st,z,q⟩
 cases neg with
 |false =>
  refine⟨(xO (yj hu hk Y) hm).imp λσ H Q q=>?_,(xP (yj hu hk Y) hm).imp λσ H Q q=>?_⟩
  .exact go (Q:=λb H'=>Q (.bl b) H') (ao q)
  .exact go (Q:=λb H'=>∃c,V.bl b=.bl c/\Q c H') (by
    obtain⟨B,E,O,W,b,st,z,q⟩:=aO q;exact⟨B,E,O,W,b,st,z,λH' s=>⟨b,rfl,q H' s⟩⟩)
 |true =>
  refine⟨(xO (o_ hu hk Y) hm).imp λσ H Q q=>?_,(xP (o_ hu hk Y) hm).imp λσ H Q q=>?_⟩
  .exact go (Q:=λb H'=>Q (.bl b) H') (ao q)
  .exact go (Q:=λb H'=>∃c,V.bl b=.bl c/\Q c H') (by
    obtain⟨B,E,O,W,b,st,z,q⟩:=aO q;exact⟨B,E,O,W,b,st,z,λH' s=>⟨b,rfl,q H' s⟩⟩)
def Fi{ma mk md:ME}{o e f:Expr}{ap cp:Pos}(g:Gf X T k cal)(ha:PE X o (tE X.K cal ma))(hk:PE X e (tE X.K cal mk))(hd:PE X f (tE X.K cal md))(hb:pB o=true)(hl:(ap.endLine==cp.line)=true)(h1:ag e=true)(h2:ag f=true) :
  PE X (.Call (.Attribute o "get" ap) [e,f] [] cp) (tE X.K cal (.dget ma mk md)):=by
 have hu:X.A.units+1<cLine:=by have:=g.units;omega
 have J:starEach [e,f] X.env=[(false,eval e X.env),(false,eval f X.env)]:=by rw[aW h1,aW h2];rfl
 have m:M2 X o "get" ap e f cp:=by
  refine⟨base_of hb,?_,hl,?_⟩
  .rw[J];rfl
  .rw[J];rfl
 refine(yo hu ha hk hd m).imp λσ H Q q=>?_
 refine aE λZq kq=>?_
 obtain⟨B,E,O,W,v,st,U,q⟩:=q;rw[ev]at U;simp only[gf,pe]at U;obtain⟨x,U,y,e2,z,e3,Y,e4,sz,e5,e6⟩:=U;refine kq ?_;cases x<;>try (cases e4;done)
 refine⟨B,E,O,W,_,st,U,λux H1 Z g1=>?_⟩;obtain⟨a,rfl,hH⟩:=g1.1.dI;refine⟨a,rfl,qy hH,B,E,O,W,_,st.mono Z,e2,λuy H2 s2 g2=>⟨B,E,O,W,z,st.mono (Z.trans s2),e3,λuz H3 s3 g3=>?_⟩⟩;refine⟨_,qD e4 (ai.rdD s3 (ai.rdD s2 hH)) (g2.1.mono s3),?_⟩;rw[uI e5 g3.1];have e7:(Y.map Sc.v).getD sz.v=(Y.getD sz).v:=by cases Y<;>rfl
 rw[e7];refine q _ H3 (Z.trans (s2.trans s3)) ?_;rw[<- e6];exact .of (uH _ _ _)
def HP(g:Gf X T k cal)(Z:PE X o (tE X.K cal ma))(hk:PE X i (tE X.K cal mk))(hs:ca i=true):PE X (.Subscript o i pos) (tE X.K cal (.dat ma mk)):=by
 have hu:X.A.units+1<cLine:=by have:=g.units;omega
 refine(vh hu Z hk (by cases i<;>first|(intro _ _;rfl)|(simp[ca]at hs))).imp λσ H Q q=>?_
 refine aE λZq kq=>?_
 obtain⟨B,E,O,W,v,st,z,q⟩:=q;rw[ev]at z;simp[gf,pe]at z;obtain⟨x,z,y,e2,oo,J,sz,rfl,e6⟩:=z;refine kq ?_;cases x<;>try (cases J;done)
 refine⟨B,E,O,W,_,st,z,λux H1 U g1=>?_⟩;obtain⟨a,rfl,hH⟩:=g1.1.dI;refine⟨B,E,O,W,_,st.mono U,e2,λuy H2 Y g2=>?_⟩;refine⟨a,_,rfl,qD J (ai.rdD Y hH) g2.1,q _ H2 (U.trans Y) ?_⟩;rw[<- e6];exact .of (uH _ _ _)
end
mutual
theorem aw{T:Tab}{k:Nat}{cal:Cal}:∀(me:ME) {X:Cx}{e:Expr},Gf X T k cal->chk T me X.N X.env.scope e=true->PE X e (tE X.K cal me)/\PT X e (tT X.K cal me)
 | .var i,X,e,g,h=>by
  replace h:=ak h
  obtain⟨x,w,h⟩:=h;obtain rfl:=dO w;exact⟨Dj h,bv (Dj h) rfl⟩
 | .bor i,X,e,g,h=>by
  replace h:=ak h
  obtain⟨x,w,h⟩:=h;obtain rfl:=dO w;exact⟨Dk h,bv (Dk h) rfl⟩
 | .cst v,X,e,g,h=>by
  replace h:=ak h
  obtain⟨x,w,h⟩:=h;obtain rfl:=y_ w;exact⟨Dl h,bv (Dl h) rfl⟩
 | .glob x v,X,e,g,h=>by
  replace h:=ak h
  obtain⟨y,w,h⟩:=h;obtain rfl:=dO w;exact⟨zp g h,bv (zp g h) rfl⟩
 | .bin op a b,X,e,g,h=>by
  replace h:=ak h
  obtain⟨⟨l,o,r,pos⟩,w,h⟩:=h;obtain rfl:=qr w;simp only[mu,J0]at h;obtain⟨⟨rfl,h1⟩,h2⟩:=h;have p:=HB (op:=op) (pos:=pos) (aw a g h1).1 (aw b g h2).1;exact⟨p,bv p rfl⟩
 | .neg _,X,e,g,h=>absurd (show false=true from h) oe
 | .not a,X,e,g,h=>by
  replace h:=ak h
  obtain⟨⟨o,x,pos⟩,w,h⟩:=h;obtain rfl:=EB w
  replace h:=gQ.mp h
  obtain⟨h2,h⟩:=h;obtain rfl:=eq_of_beq h2;exact⟨HC (aw a g h).1,HE (aw a g h).2⟩
 | .and a b,X,e,g,h=>by
  replace h:=ak h
  obtain⟨⟨o,vs,pos⟩,w,h⟩:=h;obtain rfl:=za w
  replace h:=gQ.mp h
  obtain⟨h2,h⟩:=h;obtain rfl:=eq_of_beq h2;rcases vL h with⟨x,y,rfl,h1,h2⟩|⟨x,y,z,r,rfl,h1,h2⟩
  .exact⟨Dm (aw a g h1).1 (xQ (aw b g h2).1),Do (aw a g h1).2 (Bg (aw b g h2).2)⟩
  .exact⟨Dm (aw a g h1).1 (aw b g h2).1,Do (aw a g h1).2 (Dn (aw b g h2).2)⟩
 | .or a b,X,e,g,h=>by
  replace h:=ak h
  obtain⟨⟨o,vs,pos⟩,w,h⟩:=h;obtain rfl:=za w
  replace h:=gQ.mp h
  obtain⟨h2,h⟩:=h;obtain rfl:=eq_of_beq h2;rcases vL h with⟨x,y,rfl,h1,h2⟩|⟨x,y,z,r,rfl,h1,h2⟩
  .exact⟨HF (aw a g h1).1 (xQ (aw b g h2).1),HG (aw a g h1).2 (DM (aw b g h2).2)⟩
  .exact⟨HF (aw a g h1).1 (aw b g h2).1,HG (aw a g h1).2 (Dn (aw b g h2).2)⟩
 | .ite c a b,X,e,g,h=>by
  replace h:=ak h
  obtain⟨q,w,h⟩:=h;obtain rfl:=EC w;simp only[mu,J6]at h;obtain⟨⟨⟨⟨h1,h2⟩,J⟩,U⟩,h5⟩:=h;exact⟨HH (aw c g h1).2 (aw a g h2).1 (aw b g J).1 U h5,HI (aw c g h1).2 (aw a g h2).2 (aw b g J).2⟩
 | .cmp op a b,X,e,g,h=>by
  replace h:=ak h
  obtain⟨⟨l,o,r⟩,w,h⟩:=h;obtain⟨pos,rfl⟩:=vJ w;simp only[mu,J0,J6]at h;obtain⟨⟨⟨rfl,h1⟩,h2⟩,J⟩:=h;exact HJ g (aw a g h1).1 (aw b g h2).1 J
 | .chain _ _ _ _ _,X,e,g,h=>absurd (show false=true from h) oe
 | .tup es,X,e,g,h=>by
  replace h:=ak h
  obtain⟨q,w,h⟩:=h;obtain rfl:=uq w;obtain⟨h1,h2⟩:=gQ.mp h;have p:=HK (j:=q.2.1) (pos:=q.2.2) (sounds es g h1) h2;exact⟨p,bv p rfl⟩
 | .lst es,X,e,g,h=>by
  replace h:=ak h
  obtain⟨q,w,h⟩:=h;obtain rfl:=qt w
  replace h:=gQ.mp h
  have p:=λ(pos:Pos)=>dP (λW v hv=>by
   rw[ev,gf]at hv;obtain⟨vs,_,hv⟩:=hv;split at hv
   .cases hv;exact⟨_,rfl⟩
   .cases hv) (Dp (pos:=pos) (sounds es g h.1) h.2)
  exact⟨p _,bv (p _) rfl⟩
 | .idx a i,X,e,g,h=>by
  replace h:=ak h
  obtain⟨q,w,h⟩:=h;obtain rfl:=nc w;simp only[mu]at h;have p:=HL (pos:=q.2.2) (aw a g h.1.1).1 (aw i g h.1.2).1 h.2;exact⟨p,bv p rfl⟩
 | .slice a lo hi,X,e,g,h=>by
  replace h:=ak h
  obtain⟨⟨v,l,u⟩,w,h⟩:=h;obtain⟨p2,pos,rfl⟩:=BU w;simp only[mu]at h;obtain⟨⟨h1,h2⟩,J⟩:=h;have bd:∀{b:ME}{o:Option Expr},(∀e,chk T b X.N X.env.scope e=true->PE X e (tE X.K cal b))->qv (λe=>chk T b X.N X.env.scope e) (jL b) o=true->PO X o (tB1 X.K cal b):=λ{b o} hb h2=>by
   cases o with
   |none=>exact E8 h2
   |some l =>
    simp only[qv,mu,J6]at h2;exact E9 (hb l h2.1) h2.2
  have p:=Cf (p2:=p2) (pos:=pos) (aw a g h1).1 (bd (λe he=>(aw lo g he).1) h2) (bd (λe he=>(aw hi g he).1) J);exact⟨p,bv p rfl⟩
 | .blt b es,X,e,g,h=>by
  replace h:=ak h
  obtain⟨⟨x,args⟩,w,h⟩:=h;obtain⟨p,pos,rfl⟩:=fH w;simp only[mu,J0]at h;obtain⟨⟨hx,hg⟩,ha⟩:=h;have q:=(sB (p:=p) (pos:=pos) g hx hg ha (λxs Y=>⟨sounds es g Y,bI Y⟩) (λm x hm hx=>match es,hm with|[m'],rfl=>(aw m' g (cb hx).1.1).1) (λa b x x' hm hx=>match es,hm with|[m1,m2],rfl=>⟨(aw m1 g (cb hx).1.1).1,(aw m2 g (cb (cb hx).2).1.1).1⟩)).2;exact⟨q,bv q rfl⟩
 | .call f es,X,e,g,h=>by
  replace h:=ak h
  obtain⟨⟨x,args⟩,w,h⟩:=h;obtain⟨p,pos,rfl⟩:=fH w;simp only[mu,J0]at h;obtain⟨⟨⟨h1,h2⟩,J⟩,U⟩:=h;obtain⟨hs,hl⟩:=bI U;have q:=E_ (p:=p) (pos:=pos) g h1 h2 J (soundA es g U) hs hl;exact⟨q,bv q rfl⟩
 | .callD _ _ _,X,e,g,h=>absurd (show false=true from h) oe
 | .disp kvs m,X,e,g,h=>by
  obtain⟨q,e1,h⟩:=ak (show onQ (zg e) (λq=>sd kvs q.1 q.2.1&&chk T m X.N X.env.scope q.2.2&&ca q.2.2&&decide (kvs.length<=15)&&!kvs.isEmpty)=true from h);obtain⟨ks,vs,a⟩:=q;obtain⟨p,pos,rfl⟩:=zh e1;obtain⟨a0,h5⟩:=gQ.mp h;obtain⟨a1,U⟩:=gQ.mp a0;obtain⟨a2,J⟩:=gQ.mp a1;obtain⟨h1,h2⟩:=gQ.mp a2;have q:PE X (.Subscript (.Dict ks vs p) a pos) (tE X.K cal (.disp kvs m)):=Fe g h1 (Kz U) (by simpa using h5) (aw m g h2).1 J;exact⟨q,bv q rfl⟩
 | .indexOf i m,X,e,g,h=>by
  obtain⟨q,e1,h⟩:=ak (show onQ (ixQ e) (λq=>aV X.N X.env.scope i q.1&&q.2.1==("index":Str)&&chk T m X.N X.env.scope q.2.2.1&&ag q.2.2.1&&q.2.2.2.1.endLine==q.2.2.2.2.line)=true from h);obtain⟨y,md,a,ap,cp⟩:=q;obtain⟨p,rfl⟩:=EK e1;obtain⟨a1,h5⟩:=gQ.mp h;obtain⟨a2,U⟩:=gQ.mp a1;obtain⟨a3,J⟩:=gQ.mp a2;obtain⟨h1,h2⟩:=gQ.mp a3;obtain rfl:md=("index":Str):=eq_of_beq h2;have q:PE X (.Call (.Attribute (.Name y p) "index" ap) [a] [] cp) (tE X.K cal (.indexOf i m)):=Cl (aw m g J).1 h1 U h5;exact⟨q,bv q rfl⟩
 | .lenP i,X,e,g,h=>by
  replace h:=ak h
  obtain⟨⟨x,y⟩,w,h⟩:=h;obtain⟨p,yp,pos,rfl⟩:=BW w;simp only[mu,J0]at h;obtain⟨⟨rfl,h2⟩,J⟩:=h;have q:PE X (.Call (.Name ("len":Str) p) [.Name y yp] [] pos) (tE X.K cal (.lenP i)):=Fg g h2 J;exact⟨q,bv q rfl⟩
 | .dIn neg mk ma,X,e,g,h=>by
  replace h:=ak h
  obtain⟨⟨l,o,r⟩,w,h⟩:=h;obtain⟨pos,rfl⟩:=vJ w;simp only[mu,J0,J6]at h;obtain⟨⟨⟨rfl,h1⟩,h2⟩,J⟩:=h;exact HN g (aw mk g h1).1 (aw ma g h2).1 J
 | .dat ma mk,X,e,g,h=>by
  replace h:=ak h
  obtain⟨q,w,h⟩:=h;obtain rfl:=nc w;simp only[mu]at h;have p:=HP (pos:=q.2.2) g (aw ma g h.1.1).1 (aw mk g h.1.2).1 h.2;exact⟨p,bv p rfl⟩
 | .dget ma mk md,X,e,g,h=>by
  replace h:=ak h
  obtain⟨⟨o,m,ap,args,cp⟩,w,h⟩:=h;obtain rfl:=qu w
  replace h:=ak h
  obtain⟨⟨x,y⟩,w,h⟩:=h;obtain rfl:=mf w;simp only[mu,J0]at h;obtain⟨⟨⟨⟨⟨⟨⟨rfl,h1⟩,h2⟩,J⟩,U⟩,h5⟩,h6⟩,h7⟩:=h;have p:=Fi (ap:=ap) (cp:=cp) g (aw ma g J).1 (aw mk g U).1 (aw md g h5).1 h1 (by rw[h2];simp) h6 h7;exact⟨p,bv p rfl⟩
 | .comp k' src js cond elt,X,e,g,h=>by
  replace h:=k7 h
  obtain⟨e,x,px,it,ifs,scope,pos,rfl,h⟩:=h;simp only[mu,J6]at h;obtain⟨⟨⟨⟨h1,h2⟩,J⟩,U⟩,h5⟩:=h;have hw:=lc (tg:=.Name x px) (λz=>by cases z) g h2 (λxs Y=>⟨sounds src g Y,bI Y⟩) (λm x hm hx=>match src,hm with|[m'],rfl=>(aw m' g (cb hx).1.1).1);have q:=dP sA (uE (pos:=pos) g h1 hw.1 hw.2 (λZ ao C fp=>qI J λc hc=>(aw cond (g.blk x (dN X.N js) scope Z ao C fp) hc).2) (λZ ao C fp=>(aw elt (g.blk x (dN X.N js) scope Z ao C fp) U).1) h5);exact⟨q,bv q rfl⟩
theorem sounds{T:Tab}{k:Nat}{cal:Cal}:∀(ms:List ME) {X:Cx}{es:List Expr},Gf X T k cal->chks T ms X.N X.env.scope es=true->PA X es (tEs X.K cal ms)
 | [],X,es,g,h=>by
  cases es with
  |nil=>exact Ce
  |cons _ _=>cases h
 |m::ms,X,es,g,h=>by
  cases es with
  |nil=>cases h
  |cons e es =>
   replace h:=cb h
   exact zx (aw m g h.1.1).1 (sounds ms g h.2) h.1.2
theorem soundA{T:Tab}{k:Nat}{cal:Cal}:∀(ms:List ME) {X:Cx}{es:List Expr},Gf X T k cal->chks T ms X.N X.env.scope es=true->PA X es (tAs X.K cal ms)
 | [],X,es,g,h=>by
  cases es with
  |nil=>exact zy
  |cons _ _=>cases h
 |m::ms,X,es,g,h=>by
  cases es with
  |nil=>cases h
  |cons e es =>
   replace h:=cb h
   have hs:=soundA ms g h.2;cases z:aM m with
   |false=>exact xb z (aw m g h.1.1).1 hs h.1.2
   |true =>
    obtain⟨i,rfl⟩:=nh z;obtain⟨x,p,rfl,h1⟩:=j_ h.1.1;exact zA h1 hs
end
def Fj(g:Gf X T k cal)(h:chk T me X.N X.env.scope e=true)(hf:iQ me=true):PE X e (tF X.K cal me):=by
 cases me with
 |lst es =>
  replace h:=ak h
  obtain⟨q,w,h⟩:=h;obtain rfl:=qt w
  replace h:=gQ.mp h
  exact Dp (sounds es g h.1) h.2
 |blt b es =>
  replace h:=ak h
  obtain⟨⟨x,args⟩,w,h⟩:=h;obtain⟨p,pos,rfl⟩:=fH w;simp[mu,J0]at h;obtain⟨⟨hx,hg⟩,ha⟩:=h;exact(sB (p:=p) (pos:=pos) g hx hg ha (λxs J=>⟨sounds es g J,bI J⟩) (λm x Z hx=>match es,Z with|[m'],rfl=>(aw m' g (cb hx).1.1).1) (λa b x x' Z hx=>match es,Z with|[m1,m2],rfl=>⟨(aw m1 g (cb hx).1.1).1,(aw m2 g (cb (cb hx).2).1.1).1⟩)).1 hf
 |comp k' src js cond elt =>
  replace h:=k7 h
  obtain⟨e,x,px,it,ifs,scope,pos,rfl,h⟩:=h;simp only[mu,J6]at h;obtain⟨⟨⟨⟨h1,h2⟩,h3⟩,h4⟩,h5⟩:=h;have hw:=lc (tg:=.Name x px) (λz=>by cases z) g h2 (λxs J=>⟨sounds src g J,bI J⟩) (λm x Z hx=>match src,Z with|[m'],rfl=>(aw m' g (cb hx).1.1).1);exact uE g h1 hw.1 hw.2 (λU Y C fp=>qI h3 λc hc=>(aw cond (g.blk x _ scope U Y C fp) hc).2) (λU Y C fp=>(aw elt (g.blk x _ scope U Y C fp) h4).1) h5
 | _=>cases hf
noncomputable def HR:MV->Bool
 | .brw _=>true
 | .brwD _=>true
 | _=>false
def vY(h1:iP m=true)(h2:HR m=true):False:=by cases m<;>first|(cases h2;done)|(cases h1;done)
structure bq(B:Hp)(O O':List Addr)(W l:Rho)(σ F:St):Prop where
 stay:∀a,B a≠none->a∈O->a∈O'
 new:∀a∈O',a∈O\/B a=none
 brw:∀(i:Nat) (m:MV),HR m=true->l[i]?=some (some m)->W[i]?=some (some m)/\F[i]?=σ[i]?
 len:l.length=W.length
 mutK:∀(i:Nat) (d':DD),l[i]?=some (some (.mutD d'))->(∃d,W[i]?=some (some (.mutD d)))/\F[i]?=σ[i]?
def bq.refl :bq B O O W W σ σ:=⟨λ_ _ h=>h,λ_ h=>.inl h,λ_ _ _ h=>⟨h,rfl⟩,rfl,λ_ d' h=>⟨⟨d',h⟩,rfl⟩⟩
theorem bq.trans(a:bq B O O1 W z σ J)(b:bq B O1 O2 z U J Y):bq B O O2 W U σ Y where
 stay:=λx h1 h2=>b.stay x h1 (a.stay x h1 h2)
 new:=λx h=>(b.new x h).elim (a.new x) .inr
 brw:=λi xs hm h=>by
  obtain⟨h1,Z⟩:=b.brw i xs hm h;obtain⟨h2,e2⟩:=a.brw i xs hm h1;exact⟨h2,Z.trans e2⟩
 len:=b.len.trans a.len
 mutK:=λi d' h=>by
  obtain⟨⟨d1,h1⟩,Z⟩:=b.mutK i d' h;obtain⟨h2,e2⟩:=a.mutK i d1 h1;exact⟨h2,Z.trans e2⟩
def gL(K:Np)(B:Hp)(E O:List Addr)(W:Rho)(σ:St)(D:DH):R->Prop
 | .next l=>∀F H' z,aF K B E z H' l F->bq B O z W l σ F->D.nx F H'
 | .brk l=>∀F H' z,aF K B E z H' l F->bq B O z W l σ F->D.bk F H'
 | .cont l=>∀F H' z,aF K B E z H' l F->bq B O z W l σ F->D.ct F H'
 | .ret v=>∀u H',ai B H'->Rep K (ay H' E) v u->D.rt u H'
 | .retM v l=>∀u F H' z,aF K B E z H' l F->bq B O z W l σ F->Rep K (ay H' z) v u->D.rt u H'
 | .retF xs=>∀p us H',ai B H'->B p=none->H' p=some (.lst us)->Reps K (ay H' (p::E)) xs us->D.rt (.ref p) H'
 | .bad=>False
theorem gL.trans{K:Np}(h:gL K B E O W σ D r)(k:bq B O Y W l σ F):gL K B E Y l F D r:=by
 cases r<;>first|exact λz H2 J st U=>h z H2 J st (k.trans U)|exact h|exact λu z H2 J st U=>h u z H2 J st (k.trans U)
noncomputable def tS(K:Np)(cal:Cal)(m:MS):TS:=λD σ H=>∃B E O W,aF K B E O H W σ/\gL K B E O W σ D (ex cal m W)
noncomputable def tSs(K:Np)(cal:Cal)(ms:List MS):TS:=λD σ H=>∃B E O W,aF K B E O H W σ/\gL K B E O W σ D (exs cal ms W)
section
variable{K:Np}{B H H':Hp}{E O:List Addr}{W:Rho}{σ:St}
def aj(h:i<W.length):(put W i m)[i]?=some (some m):=by unfold put;exact Lc h
def ah(h:i≠j):(put W i m)[j]?=W[j]?:=by unfold put;exact Kh h
def put_len :(put W i m).length=W.length:=by unfold put;exact MJ
def aF.store(st:aF K B E O H W σ)(hi:i<σ.length)(r:Rep K (ay H O) v u):aF K B E O H (put W i (.val v)) (σ.set i (some u))/\bq B O O W (put W i (.val v)) σ (σ.set i (some u)):=by
 have J:i<W.length:=by rw[st.len];exact hi
 refine⟨⟨st.keep,st.here,st.sub,st.old,by rw[put_len,MJ];exact st.len,λj m e=>?_,λa b xs ys ad ao Y Z o1 o2 e3 e4=>?_
  ⟩,⟨λ_ _ h=>h,λ_ h=>.inl h,λj xs aO e=>?_,put_len
  ,λj d' e=>?_
  ⟩⟩
 .by_cases U:i=j
  .subst U;rw[aj J]at e;cases e;exact⟨u,Lc hi,r⟩
  .rw[ah U]at e;obtain⟨w,Y,q⟩:=st.slot j m e;exact⟨w,by rw[Kh U];exact Y,q⟩
 .have h1:i≠a:=λz=>by subst z;rw[aj J]at Y;cases Y;cases o1
  have h2:i≠b:=λz=>by subst z;rw[aj J]at Z;cases Z;cases o2
  rw[ah h1]at Y;rw[ah h2]at Z;rw[Kh h1]at e3;rw[Kh h2]at e4;exact st.apart a b xs ys ad ao Y Z o1 o2 e3 e4
 .have U:i≠j:=λz=>by subst z;rw[aj J]at e;cases e;cases aO
  rw[ah U]at e;exact⟨e,Kh U⟩
 .have U:i≠j:=λz=>by subst z;rw[aj J]at e;cases e
  rw[ah U]at e;exact⟨⟨d',e⟩,Kh U⟩
def aF.storeM(st:aF K B E O H W σ)(hi:i<σ.length)(s:ai H H')(hp:H p=none)(e:H' p≠none)(hm:iP mm=true)
  (a8:∀d,mm≠.mutD d)
  (r:B p=none->fg K B (p::O) H' mm (.ref p))
  :
  aF K B E (p::O) H' (put W i mm) (σ.set i (some (.ref p)))/\bq B O (p::O) W (put W i mm) σ (σ.set i (some (.ref p))):=by
 have a1:i<W.length:=by rw[st.len];exact hi
 have a4:=st.keep.free hp;have ao:ai (ay H O) (ay H' (p::O)):=bR s λb Z=>by
  rcases JY.mp Z with rfl|Z
  .exact .inr hp
  .exact .inl Z
 refine⟨⟨st.keep.trans s,λa J=>?_,λa J=>KD _ (st.sub a J),st.old,by rw[put_len,MJ];exact st.len,λj m U=>?_,λa b xs ys ad a5 e1 Y o1 o2 e3 e4=>?_
  ⟩,⟨λ_ _ h=>KD _ h,λa J=>?_,λj xs a9 U=>?_,put_len
  ,λj d' U=>?_
  ⟩⟩
 .rcases JY.mp J with rfl|J
  .exact e
  .exact λz=>st.here a J (s.free z)
 .by_cases hj:i=j
  .subst hj;rw[aj a1]at U;cases U;exact⟨_,Lc hi,r a4⟩
  .rw[ah hj]at U;obtain⟨w,e1,q⟩:=st.slot j m U;refine⟨w,by rw[Kh hj];exact e1,?_⟩;cases m with
   |val v=>exact Rep.mono ao _ q
   |own ys=>obtain⟨a,ws,Y,h1,h2,h3,h4⟩:=q;exact⟨a,ws,Y,s _ _ h1,Reps.mono ao _ h2,KD _ h3,h4⟩
   |brw ys=>obtain⟨a,ws,Y,h1,h2⟩:=q;exact⟨a,ws,Y,h1,Reps.mono ao _ h2⟩
   |brwD ys=>exact q
   | _=>obtain⟨a,Y,h1,h3,h4⟩:=q;exact⟨a,Y,h1.move (s _) ao,KD _ h3,h4⟩
 .have other:∀(j:Nat) zs ad,W[j]?=some (some zs)->iP zs=true->σ[j]?=some (some (.ref ad))->ad≠p:=λj zs ad h1 ho h2 z=>by
   obtain⟨w,e1,q⟩:=st.slot j _ h1;rw[h2]at e1;cases e1;cases zs with
   |own zs =>
    obtain⟨a,ws,Y,h1,_⟩:=q;cases Y;rw[z,hp]at h1;cases h1
   |ownD zs|mutD zs =>
    obtain⟨a,Y,h1,_⟩:=q;cases Y;obtain⟨o,h1⟩:=h1.here;rw[z,hp]at h1;cases h1
   | _=>cases ho
  by_cases J:i=a
  .subst J;have Z:=a5;rw[Lc hi]at e3;rw[ah Z]at Y;rw[Kh Z]at e4;cases e3;exact other b ys _ Y o2 e4 rfl
  .by_cases Z:i=b
   .subst Z;rw[Lc hi]at e4;rw[ah J]at e1;rw[Kh J]at e3;cases e4;exact other a xs _ e1 o1 e3 rfl
   .rw[ah J]at e1;rw[ah Z]at Y;rw[Kh J]at e3;rw[Kh Z]at e4;exact st.apart a b _ _ ad a5 e1 Y o1 o2 e3 e4
 .rcases JY.mp J with rfl|J
  .exact .inr a4
  .exact .inl J
 .have hj:i≠j:=λz=>by subst z;rw[aj a1]at U;cases U;exact vY hm a9
  rw[ah hj]at U;exact⟨U,Kh hj⟩
 .have hj:i≠j:=λz=>by subst z;rw[aj a1]at U;cases U;exact a8 d' rfl
  rw[ah hj]at U;exact⟨⟨d',U⟩,Kh hj⟩
def aF.storeOwn(st:aF K B E O H W σ)(hi:i<σ.length)(s:ai H H')(J:H p=none)(e:H' p=some (.lst us))(r:Reps K (ay H' (p::O)) xs us) :
  aF K B E (p::O) H' (put W i (.own xs)) (σ.set i (some (.ref p)))/\bq B O (p::O) W (put W i (.own xs)) σ (σ.set i (some (.ref p))):=
 st.storeM hi s J (by rw[e];simp) rfl (λ_ z=>by cases z) λU=>⟨p,us,rfl,e,r,KZ,U⟩
def aF.changeM(st:aF K B E O H W σ)(e:W[i]?=some (some m0))(o0:iP m0=true)(o1:iP m1=true)
  (om:∀d',m1=.mutD d'->∃d,m0=.mutD d)
  (es:σ[i]?=some (some (.ref a))) (h3:a∈O) (h4:B a=none) (r:ay (upd H a ob) O=ay H O->fg K B O (upd H a ob) m1 (.ref a))
  :
  aF K B E O (upd H a ob) (put W i m1) σ/\bq B O O W (put W i m1) σ σ:=by
 have ao:=(JZ.mp e).1;have Y:ay (upd H a ob) O=ay H O:=iS h3;have other:∀j zs ad,i≠j->W[j]?=some (some zs)->iP zs=true->σ[j]?=some (some (.ref ad))->ad≠a:=λj zs ad U Z o2 q2 z=>by
  subst z;exact st.apart i j m0 zs ad U e Z o0 o2 es q2
 refine⟨⟨λb u eb=>?_,λb hb=>?_,st.sub,st.old,by rw[put_len];exact st.len,λj m J=>?_,λc d ps qs ad a5 e1 e2 p1 p2 e3 e4=>?_
  ⟩,⟨λ_ _ h=>h,λ_ h=>.inl h,λj zs a8 J=>?_,put_len
  ,λj d' J=>?_
  ⟩⟩
 .rw[bc (cJ eb h4)];exact st.keep b u eb
 .unfold upd;split
  .simp
  .exact st.here b hb
 .by_cases U:i=j
  .subst U;rw[aj ao]at J;cases J;exact⟨_,es,r Y⟩
  .rw[ah U]at J;obtain⟨w,ew,q⟩:=st.slot j m J;refine⟨w,ew,?_⟩;cases m with
   |val v=>show Rep K (ay (upd H a ob) O) v w;rw[Y];exact q
   |own zs =>
    obtain⟨ad,ws,rfl,Z,q2,q3,q4⟩:=q;refine⟨ad,ws,rfl,?_,by rw[Y];exact q2,q3,q4⟩;rw[bc (other j (.own zs) ad U J rfl ew)];exact Z
   |ownD zs =>
    obtain⟨ad,rfl,Z,q3,q4⟩:=q;refine⟨ad,rfl,Z.move (λo eo=>?_) (by rw[Y];exact ai.refl _),q3,q4⟩;rw[bc (other j (.ownD zs) ad U J rfl ew)];exact eo
   |mutD zs =>
    obtain⟨ad,rfl,Z,q3,q4⟩:=q;refine⟨ad,rfl,Z.move (λo eo=>?_) (by rw[Y];exact ai.refl _),q3,q4⟩;rw[bc (other j (.mutD zs) ad U J rfl ew)];exact eo
   |brwD zs=>exact q
   |brw zs=>obtain⟨ad,ws,rfl,Z,q2⟩:=q;exact⟨ad,ws,rfl,Z,by rw[Y];exact q2⟩
 .have h1:∀j zs,(put W i m1)[j]?=some (some zs)->iP zs=true->∃zs,W[j]?=some (some zs)/\iP zs=true:=λj zs q oz=>by
   by_cases U:i=j
   .subst U;exact⟨m0,e,o0⟩
   .rw[ah U]at q;exact⟨zs,q,oz⟩
  obtain⟨Z,e1,p1⟩:=h1 c ps e1 p1;obtain⟨q2,e2,p2⟩:=h1 d qs e2 p2;exact st.apart c d Z q2 ad a5 e1 e2 p1 p2 e3 e4
 .have U:i≠j:=λz=>by subst z;rw[aj ao]at J;cases J;exact vY o1 a8
  rw[ah U]at J;exact⟨J,rfl⟩
 .by_cases U:i=j
  .subst U;rw[aj ao]at J;cases J;obtain⟨d,rfl⟩:=om d' rfl;exact⟨⟨d,e⟩,rfl⟩
  .rw[ah U]at J;exact⟨⟨d',J⟩,rfl⟩
def aF.change(st:aF K B E O H W σ)(e:W[i]?=some (some (.own xs)))(es:σ[i]?=some (some (.ref a)))(r:Reps K (ay H O) ys us) :
  aF K B E O (upd H a (.lst us)) (put W i (.own ys)) σ/\bq B O O W (put W i (.own ys)) σ σ:=by
 refine aE λZq kq=>?_
 obtain⟨w,U,a',aO,e2,h1,h2,Y,Z⟩:=st.slot i _ e;rw[es]at U;cases U;cases e2;refine kq ?_;exact st.changeM e rfl rfl (λ_ z=>by cases z) es Y Z λJ=>⟨a,us,rfl,aB,by rw[J];exact r,Y,Z⟩
def aF.changeD(st:aF K B E O H W σ)(e:W[i]?=some (some (.ownD xs)))(es:σ[i]?=some (some (.ref a)))(hd:ay (upd H a U) O=ay H O->DAt K (upd H a U) O a ys) :
  aF K B E O (upd H a U) (put W i (.ownD ys)) σ/\bq B O O W (put W i (.ownD ys)) σ σ:=by
 refine aE λZq kq=>?_
 obtain⟨w,Y,a',e2,h1,Z,h4⟩:=st.slot i _ e;rw[es]at Y;cases Y;cases e2;refine kq ?_;exact st.changeM e rfl rfl (λ_ z=>by cases z) es Z h4 λJ=>⟨a,rfl,hd J,Z,h4⟩
def aF.changeU(st:aF K B E O H W σ)(e:W[i]?=some (some (.mutD xs)))(es:σ[i]?=some (some (.ref a)))(hd:ay (upd H a J) O=ay H O->DAt K (upd H a J) O a ys) :
  aF K B E O (upd H a J) (put W i (.mutD ys)) σ/\bq B O O W (put W i (.mutD ys)) σ σ:=by
 refine aE λZq kq=>?_
 obtain⟨w,U,a',e2,h1,Y,Z⟩:=st.slot i _ e;rw[es]at U;cases U;cases e2;refine kq ?_;exact st.changeM e rfl rfl (λ_ _=>⟨_,rfl⟩) es Y Z λz=>⟨a,rfl,hd z,Y,Z⟩
end
section
open AutoSeq1 (wpAny_loadPart')
open MeetsSeq MeetsSeq2 MeetsSeq3 SeqRoads2 AutoSeq1
def qJ(l)(items)(n)(b)(z)(n2)(J)(U)(aO:¬(!items.isEmpty&&Builtin.List.listTooLong (items.size+z.size))=true)(Y:items.size<=sizeLine)(a0:items.size+z.size<=sizeLine+1) :
  Meets (Builtin.«list.extend» ⟨[.ref l,.ref b],[]⟩) (λ_ R s=>s.heap.get? l=some { cls:=.type "list",dict:=none,data:=.seq items n,slots:=#[] }/\s.heap.get? b=some { cls:=.type "tuple",dict:=J,data:=.seq z n2,slots:=U }/\R (.ok (.ret Value.none)) { s with heap:=s.heap.update l (Obj.mapSeq λx=>x++z),toks:=s.toks }):=
 .of_wp λprog w A R s h=>by
  obtain⟨hp,g,d,tk,os⟩:=s;obtain⟨Z,hb,h⟩:=h;have f1:=AutoSeq1.idx_int;have f2:=Mf;have f3:=AutoSeq1.sub_list_list;have f4:=AutoSeq1.sub_tuple_list;have f5:=AutoSeq1.sub_list_tuple;
  wp_walk using (wpAny_updateSeq Z rfl (hz:=Y)),wpAny_loadPart' Z,wpAny_loadPart' hb;exact⟨_,rfl,h⟩
def qK(l)(items)(n)(b)(z)(n2)(J)(U)(aO:¬(!items.isEmpty&&Builtin.List.listTooLong (items.size+z.size))=true)(Y:items.size<=sizeLine)(a0:items.size+z.size<=sizeLine+1) :
  Meets (Builtin.«list.extend» ⟨[.ref l,.ref b],[]⟩) (λ_ R s=>s.heap.get? l=some { cls:=.type "list",dict:=none,data:=.seq items n,slots:=#[] }/\s.heap.get? b=some { cls:=.type "list",dict:=J,data:=.seq z n2,slots:=U }/\R (.ok (.ret Value.none)) { s with heap:=s.heap.update l (Obj.mapSeq λx=>x++z),toks:=s.toks }):=
 .of_wp λprog w A R s h=>by
  obtain⟨hp,g,d,tk,os⟩:=s;obtain⟨Z,hb,h⟩:=h;have f1:=AutoSeq1.idx_int;have f2:=Mf;have f3:=AutoSeq1.sub_list_list;have f4:=AutoSeq1.sub_tuple_list;have f5:=AutoSeq1.sub_list_tuple;
  wp_walk using (wpAny_updateSeq Z rfl (hz:=Y)),wpAny_loadPart' Z,wpAny_loadPart' hb;exact⟨_,rfl,h⟩
end
section
variable{X:Cx}{T:Tab}{k:Nat}{cal:Cal}
def uJ:MtM X "list.extend" (λx vs H Q=>∃l b xs zs,x=.ref l/\vs=[.ref b]/\H l=some (.lst xs)/\(SqL X.K H b zs\/SqT X.K H b zs)/\xs.length+zs.length<=sizeLine/\Q .non (upd H l (.lst (xs++zs)))):=by
 intro pins s σ H x vs v us Q I rx rv h;refine aE λZq kq=>?_
 obtain⟨l,b,xs,zs,rfl,rfl,hH,hB,hz,q⟩:=h;cases rx;obtain⟨u,rfl,ru⟩:=rv.one;cases ru;obtain⟨z,its,n,r,hl,e⟩:=I.lstM hH;have fin:∀J,aL zs J->EP X pins σ Q .none { s with heap:=s.heap.update l (Obj.mapSeq λx=>x++J.toArray),toks:=s.toks }:=λJ Y =>
  ⟨.non,_,I.lset (its':=its++J) hH e (by simp) (r.append Y) (by rw[tr];omega),rfl,q⟩
 refine kq ?_;rcases hB with hB|hB
 .obtain⟨J,Y,pl,z2⟩:=I.list hB;have a0:=Y.length;have Z:its.toArray.size+J.toArray.size<=sizeLine:=by rw[ro,ro];omega
  have U:¬ (!its.toArray.isEmpty&&Builtin.List.listTooLong (its.toArray.size+J.toArray.size))=true:=by
   rw[rB Z,Bool.and_false];exact oe
  obtain⟨⟨cls,dd,data,sl⟩,ho,hc,n2,hd⟩:=pl.isList;simp only at hc hd;subst hc hd;exact Mw PySem.F.slot_list_extend ⟨_,e,rfl⟩ PySem.F.entry_list_extend (PySem.F.args_list_extend_2 _ _) (qK l its.toArray n b J.toArray n2 dd sl U (by rw[ro];omega) (by omega)) ⟨e,ho,fin J Y⟩
 .obtain⟨J,Y,pl,z2⟩:=I.tuple hB;have a0:=Y.length;have Z:its.toArray.size+J.toArray.size<=sizeLine:=by rw[ro,ro];omega
  have U:¬ (!its.toArray.isEmpty&&Builtin.List.listTooLong (its.toArray.size+J.toArray.size))=true:=by
   rw[rB Z,Bool.and_false];exact oe
  obtain⟨⟨cls,dd,data,sl⟩,ho,hc,n2,hd⟩:=pl;simp only at hc hd;subst hc hd;exact Mw PySem.F.slot_list_extend ⟨_,e,rfl⟩ PySem.F.entry_list_extend (PySem.F.args_list_extend_2 _ _) (qJ l its.toArray n b J.toArray n2 dd sl U (by rw[ro];omega) (by omega)) ⟨e,ho,fin J Y⟩
structure Df(X:Cx):Prop where
 nd:X.N.Nodup
 fn:∀x,X.fn x=true
 own:PassesOwn (model X.prog X.w) X.A X.env X.xe
 blk:(X.env.blockKind==.function)=true
def c_(h:bV v=true)(t)(n)(env):swapsWith v t n env=pure false:=by
 cases v<;>first|rfl|(simp[bV]at h)
def xc(d:Df X)(h:Dg X.env.scope x px v=true):swapsWith v (some (.Name x px)) n X.env=pure true:=by
 obtain⟨⟨e,gs,s,p⟩,w,h⟩:=ak h;obtain rfl:=uo w;show pure _=pure true;rw[d.blk,M1];exact Kf pure h
def PS.imp'(h:PS X e t)(i:∀D σ H,σ.length=X.N.length->t' D σ H->t D σ H):PS X e t':=λpins s σ H D I q=>h pins s σ H D I (i D σ H I.len q)
def ltN{N:List Str}{σ:St}(h:N[i]?=some x)(z:σ.length=N.length):i<σ.length:=by rw[z];exact(JZ.mp h).1
def dl{K:Np}(h:gL K B E O W σ D (eM o f)):∃v,o=some v/\gL K B E O W σ D (f v):=by
 cases o with
 |none=>exact(show False from h).elim
 |some v=>exact⟨v,rfl,h⟩
def xg{K:Np}(h:gL K B E O W σ D (yZ o f)):∃v,o=some v/\gL K B E O W σ D (f v):=by
 cases o with
 |none=>exact(show False from h).elim
 |some v=>exact⟨v,rfl,h⟩
def zL{K:Np}(hi:i<σ.length)(U:aM J=false)(q:tS K cal (.set i J) D σ H):xV (tE K cal J) (ji i) D σ H:=by
 obtain⟨B,E,O,W,st,q⟩:=q;obtain⟨w,e,q⟩:=dl q;refine⟨B,E,O,W,w,st,e,λu H' s g=>?_⟩;obtain⟨z,Y⟩:=(st.mono s).store hi (g.2 U);exact q _ H' O z Y
def HS(d:Df X)(hi:X.N[i]?=some x)(hx:Loc X.env.scope x)(h:PE X v (tE X.K cal z))(J:aM z=false)(hc:bV v=true):PS X (.Assign [.Name x px] v pos) (tS X.K cal (.set i z)):=
 PS.imp' (jB d.nd hi hx h (c_ hc _ _ _) (.inl (d.fn x))) λD σ H U q=>zL (ltN hi U) J q
def zM{K:Np}(hi:i<σ.length)(q:tS K cal (.setOwn i J) D σ H):xV (tF K cal J) (ji i) D σ H:=by
 obtain⟨B,E,O,W,st,q⟩:=q;obtain⟨w,e,q⟩:=dl q;cases w with
 |lst xs =>
  refine⟨B,E,O,W,xs,st,e,λp us H' s U Y r=>?_⟩;obtain⟨z,Z⟩:=st.storeOwn hi s U Y r;exact q _ H' _ z Z
 | _=>exact(show False from q).elim
def HU(d:Df X)(hi:X.N[i]?=some x)(hx:Loc X.env.scope x)(h:PE X v (tF X.K cal z))(hc:bV v=true):PS X (.Assign [.Name x px] v pos) (tS X.K cal (.setOwn i z)):=
 PS.imp' (jB d.nd hi hx h (c_ hc _ _ _) (.inl (d.fn x))) λD σ H J q=>zM (ltN hi J) q
def zN(h:PE X v (tE X.K cal Y))(hn:aV X.N X.env.scope i x=true)(hb:aM Y=false)(hs:ag v=true)(z:(apos.endLine==cpos.line)=true) :
  PS X (.Expr (.Call (.Attribute (.Name x p) "append" apos) [v] [] cpos) pos) (tS X.K cal (.append i Y)):=by
 refine(p8 (vg PySem.F.plainAttrs_list PySem.F.slot_list_append PySem.F.type_list_append kN (b8 hn) (aN h bF (aW hs _ _)) rfl (by rw[aW hs];rfl) z (aW hs _ _) rfl) rfl).imp λD σ H q=>?_
 obtain⟨B,E,O,W,st,q⟩:=q;obtain⟨w,e,q⟩:=dl q;cases J:(W[i]?).join with
 |none=>rw[J]at q;exact(show False from q).elim
 |some m =>
  rw[J]at q;cases m with
  |own xs =>
   dsimp only at q;split at q
   .rename_i hl;obtain⟨u,Z,a,us,rfl,ha,rs,hO,hB⟩:=aY st J;refine⟨_,Z,.inl ⟨rfl,us,SqL.of ha⟩,B,E,O,W,w,st,e,λu H1 s g=>⟨a,us,u,rfl,rfl,s _ _ ha,?_,?_⟩⟩
    .rw[<- rs.length];exact JX hl (by decide)
    .obtain⟨U,k'⟩:=(st.mono s).change (aG J) Z ((Reps.mono (am s) _ rs).snoc (g.2 hb));exact q _ _ _ U k'
   .exact(show False from q).elim
  | _=>exact(show False from q).elim
def zO(h:PE X v (tE X.K cal me))(hn:aV X.N X.env.scope i x=true)(hs:ag v=true)(z:(apos.endLine==cpos.line)=true) :
  PS X (.Expr (.Call (.Attribute (.Name x p) "extend" apos) [v] [] cpos) pos) (tS X.K cal (.extend i me)):=by
 refine(p8 (vg PySem.F.plainAttrs_list PySem.F.slot_list_extend PySem.F.type_list_extend uJ (b8 hn) (aN h bF (aW hs _ _)) rfl (by rw[aW hs];rfl) z (aW hs _ _) rfl) rfl).imp λD σ H q=>?_
 refine aE λZq Y=>?_
 obtain⟨B,E,O,W,st,q⟩:=q;rw[ex]at q;obtain⟨w,e,q⟩:=dl q;refine Y ?_;cases U:(W[i]?).join with
 |none=>rw[U]at q;exact(show False from q).elim
 |some m =>
  rw[U]at q;cases m with
  |own xs =>
   cases hw:bg w with
   |none=>rw[hw]at q;exact(show False from q).elim
   |some ys =>
    rw[hw]at q;dsimp only at q;split at q
    .refine aE λZq Y=>?_
     rename_i hl;obtain⟨u,eu,a,us,rfl,ha,rs,hO,hB⟩:=aY st U;refine Y ?_;refine⟨_,eu,.inl ⟨rfl,us,SqL.of ha⟩,B,E,O,W,w,st,e,λu H1 s g=>?_⟩;obtain⟨b,ws,rfl,sq,J⟩:=g.1.seq hw;refine⟨a,b,us,ws,rfl,rfl,s _ _ ha,sq,?_,?_⟩
     .rw[<- rs.length,<- J.length];exact cO hl
     .obtain⟨Z,k'⟩:=(st.mono s).change (aG U) eu ((Reps.mono (am s) _ rs).append J);exact q _ _ _ Z k'
    .exact(show False from q).elim
  | _=>exact(show False from q).elim
def Fk(d:Df X)(hi:X.N[i]?=some x)(hx:Loc X.env.scope x):PS X (.Assign [.Name x px] (.Dict [] [] dp) pos) (tS X.K cal (.newD m i)):=by
 cases m with
 |false =>
  refine PS.imp' (jB d.nd hi hx yl (c_ rfl _ _ _) (.inl (d.fn x))) λD σ H Y q=>?_
  obtain⟨B,E,O,W,st,q⟩:=q;intro p U;obtain⟨J,Z⟩:=st.storeM (mm:=.ownD _) (ltN hi Y) (aC U _) U (by rw[aB];simp) rfl (λ_ z=>by cases z) λhB=>⟨p,rfl,aB,KZ,hB⟩
  exact q _ _ _ J Z
 |true =>
  refine PS.imp' (jB d.nd hi hx ym (c_ rfl _ _ _) (.inl (d.fn x))) λD σ H Y q=>?_
  obtain⟨B,E,O,W,st,q⟩:=q;intro p U;obtain⟨J,Z⟩:=st.storeM (mm:=.ownD _) (ltN hi Y) (aC U _) U (by rw[aB];simp) rfl (λ_ z=>by cases z) λhB=>⟨p,rfl,aB,KZ,hB⟩
  exact q _ _ _ J Z
def Fl(g0:Gf X T k cal)(hk:PE X s (tE X.K cal mk))(h:PE X v (tE X.K cal me))(hn:aV X.N X.env.scope i x=true)(hc:bV v=true) :
  PS X (.Assign [.Subscript (.Name x p) s a2] v pos) (tS X.K cal (.dput i mk me)):=by
 have hu:X.A.units+1<cLine:=by have:=g0.units;omega
 refine(BC hu (b8 hn) hk h (by cases v<;>first|rfl|(simp[bV]at hc))).imp λD σ H q=>?_
 obtain⟨B,E,O,W,st,q⟩:=q;rw[ex]at q;obtain⟨w,e,q⟩:=dl q;obtain⟨kv,ek,q⟩:=dl q;cases U:(W[i]?).join with
 |none=>rw[U]at q;exact(show False from q).elim
 |some m =>
  rw[U]at q;cases m with
  |ownD d =>
   cases hz:sc? w with
   |none=>rw[hz]at q;exact(show False from q).elim
   |some sz =>
    rw[hz]at q;dsimp only at q;cases hd:qo d kv sz with
    |none=>rw[hd]at q;exact(show False from q).elim
    |some d' =>
     rw[hd]at q;obtain⟨u,Y,a,rfl,ha,hO,hB⟩:=aY st U;refine⟨B,E,O,W,w,st,e,λu H1 z g1=>⟨_,Y,B,E,O,W,_,st.mono z,ek,λuk H2 Z g2=>?_⟩⟩;refine⟨a,_,rfl,by rw[uI hz g1.1];exact vV hd (Z _ _ (z _ _ (ha.put1 hd))) g2.1,?_⟩;obtain⟨J,k'⟩:=((st.mono z).mono Z).changeD (ys:=d') (aG U) Y λ_=>.put2 hd aB
     exact q _ _ _ J k'
  |mutD d =>
   cases hz:sc? w with
   |none=>rw[hz]at q;exact(show False from q).elim
   |some sz =>
    rw[hz]at q;dsimp only at q;cases hd:qo d kv sz with
    |none=>rw[hd]at q;exact(show False from q).elim
    |some d' =>
     rw[hd]at q;obtain⟨u,Y,a,rfl,ha,hO,hB⟩:=aY st U;refine⟨B,E,O,W,w,st,e,λu H1 z g1=>⟨_,Y,B,E,O,W,_,st.mono z,ek,λuk H2 Z g2=>?_⟩⟩;refine⟨a,_,rfl,by rw[uI hz g1.1];exact vV hd (Z _ _ (z _ _ (ha.put1 hd))) g2.1,?_⟩;obtain⟨J,k'⟩:=((st.mono z).mono Z).changeU (ys:=d') (aG U) Y λ_=>.put2 hd aB
     exact q _ _ _ J k'
  | _=>exact(show False from q).elim
def HV(h:PE X v (tE X.K cal J))(z:aM J=false):PS X (.Return (some v) pos) (tS X.K cal (.ret J)):=by
 refine(p9 h).imp λD σ H q=>?_
 obtain⟨B,E,O,W,st,q⟩:=q;obtain⟨w,e,q⟩:=dl q;exact⟨B,E,O,W,w,st,e,λu H' s g=>q u H' (st.keep.trans s) (Rep.mono (bR (ai.refl H') λb z=>.inl (st.sub b z)) _ (g.2 z))⟩
def Fm(h:PE X v (tE X.K cal z))(J:aM z=false):PS X (.Return (some v) pos) (tS X.K cal (.retM z)):=by
 refine(p9 h).imp λD σ H q=>?_
 obtain⟨B,E,O,W,st,q⟩:=q;obtain⟨w,e,q⟩:=dl q;exact⟨B,E,O,W,w,st,e,λu H' s g=>q u σ H' O (st.mono s) .refl (g.2 J)⟩
def zP(hn:aV X.N X.env.scope i x=true):PS X (.Return (some (.Name x p)) pos) (tS X.K cal (.retOwn i)):=by
 refine(p9 (b8 hn)).imp λD σ H q=>?_
 obtain⟨B,E,O,W,st,q⟩:=q;rw[ex]at q;have J:=bR (ai.refl H) λb hb=>.inl (st.sub b hb)
 cases U:(W[i]?).join with
 |none=>rw[U]at q;exact(show False from q).elim
 |some m =>
  rw[U]at q;cases m with
  |val v =>
   obtain⟨u,Y,so⟩:=aY st U;exact⟨_,Y,q _ H st.keep (Rep.mono J _ so)⟩
  |own xs =>
   obtain⟨u,Y,a,us,rfl,Z,rs,hO,hB⟩:=aY st U;refine⟨_,Y,q _ H st.keep ?_⟩;rw[Rep];refine⟨a,us,rfl,SqL.of ?_,Reps.mono J _ rs⟩;rw[bh λz=>st.old a z hB];exact Z
  |ownD kvs =>
   dsimp only at q;split at q
   .rename_i np;obtain⟨u,Y,a,rfl,Z,hO,hB⟩:=aY st U;refine⟨_,Y,q _ H st.keep ?_⟩;rw[Rep];refine⟨a,rfl,.inl ?_,np⟩;rw[bh λz=>st.old a z hB];exact Z.np np
   .exact(show False from q).elim
  | _=>exact(show False from q).elim
def Jx(hc:PT X t (tT X.K cal c))(z:PSs X x (tSs X.K cal a))(J:PSs X y (tSs X.K cal b)):PS X (.If t x y pos) (tS X.K cal (.ite c a b)):=by
 refine(GO hc z J).imp λD σ H q=>?_
 obtain⟨B,E,O,W,st,q⟩:=q;obtain⟨w,e,q⟩:=xg q;refine⟨B,E,O,W,w,st,e,λH' s=>?_⟩;cases w<;>first|(rw[if_pos rfl]at q ⊢;exact⟨B,E,O,W,st.mono s,q⟩)|(rw[if_neg (by simp)]at q ⊢;exact⟨B,E,O,W,st.mono s,q⟩)
def Fn{st:Stmt}(h1:PS X st (tS X.K cal m))(h2:PSs X ss (tSs X.K cal ms)):PSs X (st::ss) (tSs X.K cal (m::ms)):=by
 refine(xS h1 h2).imp λD σ H q=>?_
 obtain⟨B,E,O,W,st,q⟩:=q;refine⟨B,E,O,W,st,?_⟩;rw[exs]at q;cases e:ex cal m W with
 |next l=>rw[e]at q;exact λF H' J z k=>⟨B,E,J,l,z,gL.trans q k⟩
 | _=>rw[e]at q;exact q
def HW:PSs X [] (tSs X.K cal []):=by
 refine Bh.imp λD σ H q=>?_
 obtain⟨B,E,O,W,st,q⟩:=q;exact q σ H O st .refl
end
inductive cG(σ:St)(W:Rho):List Bool->List ME->List MV->List V->List Addr->List Nat->Prop where
 | nil:cG σ W [] [] [] [] [] []
 | mutd {i:Nat}{d:DD}{a:Addr}{bs:List Bool}{es:List ME}{as:List MV}{vs:List V}{ms:List Addr}{is:List Nat} (hd:gH (W[i]?).join=some d) (hσ:σ[i]?=some (some (.ref a))) (hi:i∉is) (ha:a∉ms) (t:cG σ W bs es as vs ms is):cG σ W (true::bs) (.bor i::es) (.mutD d::as) (.ref a::vs) (a::ms) (i::is)
 | other {e:ME}{m:MV}{v:V}{bs:List Bool}{es:List ME}{as:List MV}{vs:List V}{ms:List Addr}{is:List Nat} (hm:∀d,m≠.mutD d) (t:cG σ W bs es as vs ms is):cG σ W (false::bs) (e::es) (m::as) (v::vs) ms is
def fk(h:gH o=some d):o=some (.ownD d)\/o=some (.mutD d):=by
 match o,h with
 |some (.ownD _),rfl=>exact .inl rfl
 |some (.mutD _),rfl=>exact .inr rfl
section
variable{σ:St}{W:Rho}{bs:List Bool}{es:List ME}{as:List MV}{vs:List V}{ms:List Addr}{is:List Nat}
def cG.addr(h:cG σ W bs es as vs ms is):∀a∈ms,∃j∈is,σ[j]?=some (some (.ref a))/\∃d,gH (W[j]?).join=some d:=by
 induction h with
 |nil=>intro a U;cases U
 |mutd hd z hi U t ih =>
  intro b J;rcases JY.mp J with rfl|J
  .exact⟨_,.head _,z,_,hd⟩
  .obtain⟨j,h1,h2⟩:=ih b J;exact⟨j,.tail _ h1,h2⟩
 |other hm t ih=>exact ih
theorem cG.put(h:cG σ W bs es as vs ms is)(hi:i∉is):cG σ (fz W i d) bs es as vs ms is:=by
 induction h with
 |nil=>exact .nil
 |mutd hd J U Z t ih =>
  rename_i j _ _ _ _ _ _ _ is;refine .mutd ?_ J U Z (ih λz=>hi (.tail _ z));have Y:i≠j:=λz=>hi (z ▸ .head _)
  have:(fz W i d)[j]?=W[j]?:=by
   unfold fz;split<;>exact Kh Y
  rw[this];exact hd
 |other hm t ih=>exact .other hm (ih hi)
theorem cG.at{K:Np}(st:aF K B E O H W σ)(h:cG σ W bs es as vs ms is):∃ds,cF K O H as vs ds ms:=by
 induction h with
 |nil=>exact⟨[],.nil⟩
 |mutd hd z hi Y t ih =>
  obtain⟨ds,q⟩:=ih;rename_i i d a bs es as vs ms is;refine⟨.dI d::ds,.mutd ?_ Y q⟩;rcases fk hd with e|e
  .obtain⟨u,J,Z,U,h1,_⟩:=st.slot _ _ (aG e);rw[z]at J;cases J;cases U;exact h1
  .obtain⟨u,J,Z,U,h1,_⟩:=st.slot _ _ (aG e);rw[z]at J;cases J;cases U;exact h1
 |other hm t ih =>
  obtain⟨ds,q⟩:=ih;exact⟨ds,.other hm q⟩
theorem cG.inO{K:Np}(st:aF K B E O H W σ)(h:cG σ W bs es as vs ms is):∀a∈ms,a∈O:=λa U=>by
 obtain⟨j,_,J,d,Y⟩:=h.addr a U;rcases fk Y with e|e
 .obtain⟨u,z,Z,rfl,_,h2,_⟩:=aY st e;rw[J]at z;cases z;exact h2
 .obtain⟨u,z,Z,rfl,_,h2,_⟩:=aY st e;rw[J]at z;cases z;exact h2
theorem nB{K:Np} :∀{bs}{es}{as}{vs}{ms}{is}{W l}{H}{ds},cG σ W bs es as vs ms is->aF K B E O H W σ->(∀b,b∉ms->H b=H' b)->cF K O H' as vs ds ms->j9 bs es ds W=some l->aF K B E O H' l σ/\bq B O O W l σ σ
 | _,_,_,_,_,_,W,l,H,ds,.nil,st,U,hm,e=>by
  cases hm;rw[j9]at e;cases e;have hh:=funext λb=>U b λz=>nomatch z
  subst hh;exact⟨st,.refl⟩
 | _,_,_,_,_,_,W,l,H,ds,.other hn t,st,U,hm,e=>by
  cases hm with
  |mutd=>exact absurd rfl (hn _)
  |other _ hm =>
   rw[j9]at e;exact nB t st U hm e
 | _,_,_,_,_,_,W,l,H,ds,.mutd (i:=i) (a:=a) hd J hi ha t,st,U,hm,e=>by
  cases hm with
  |other h0=>exact absurd rfl (h0 _)
  |mutd h1 h2 hm =>
   rename_i d' ds;rw[j9]at e;obtain⟨o,ho⟩:=h1.here;have inO:=t.inO st;have aO:=(cG.mutd hd J hi ha t).inO st a (.head _);have dd:DAt K (upd H a o) O a d':=h1.move (λu eu=>by rw[ho]at eu;cases eu;exact aB) λb u Z=>by
    have Y:b∉O:=λz=>by rw[eQ z]at Z;cases Z
    rw[bh Y]at Z ⊢;have ne:b≠a:=λz=>Y (by rw[z];exact aO)
    rw[bc ne,U b λw=>(JY.mp w).elim ne λz=>Y (inO b z)];exact Z
   have key:aF K B E O (upd H a o) (fz W i d') σ/\bq B O O W (fz W i d') σ σ:=by
    rcases fk hd with q|q
    .have e1:fz W i d'=put W i (.ownD d'):=by unfold fz;rw[q];rfl
     rw[e1];exact st.changeD (aG q) J λ_=>dd
    .have e1:fz W i d'=put W i (.mutD d'):=by unfold fz;rw[q];rfl
     rw[e1];exact st.changeU (aG q) J λ_=>dd
   obtain⟨a0,k1⟩:=key;obtain⟨a1,k2⟩:=nB (t.put hi) a0 (λb Y=>by
    by_cases z:b=a
    .simp_all
    .rw[bc z];exact U b λw=>(JY.mp w).elim z Y) hm e
   exact⟨a1,k1.trans k2⟩
def vZ{K:Np}(U:cG σ W bs es as vs ms is)(st:aF K B E O H W σ)(Y:∀b o,b∉ms->H b=some o->H' b=some o)(Z:cF K O H' as vs ds ms)(e:j9 bs es ds W=some l):aF K B E O H' l σ/\bq B O O W l σ σ:=
 nB U (st.mono (H':=λb=>if b∈ms then H b else H' b) λb o J=>by
  by_cases z:b∈ms
  .exact(if_pos z).trans J
  .exact(if_neg z).trans (Y b o z J)) (λb hb=>if_neg hb) Z e
end
noncomputable def tAM(K:Np)(cal:Cal)(mask:List Bool)(ms:List ME):TA:=λσ H Q=>∃B E O W vs,aF K B E O H W σ/\evM cal mask ms W=some vs/\∀us H' as,ai H H'->Paired (EX K O H') vs us->cG σ W mask ms vs us as (fj mask ms)->Q us H'
section
variable{X:Cx}{T:Tab}{k:Nat}{cal:Cal}
def xh:PA X [] (tAM X.K cal [] []):=by
 refine bF.imp λσ H Q q=>?_
 obtain⟨B,E,O,W,vs,st,z,q⟩:=q;cases z;exact q [] H [] (ai.refl H) .nil .nil
def zQ(h:aV X.N X.env.scope i x=true)(hi:i∉fj bs ms)(hs:PA X es (tAM X.K cal bs ms)):PA X (.Name x pos::es) (tAM X.K cal (true::bs) (.bor i::ms)):=by
 refine(aN (b8 h) hs rfl).imp λσ H Q q=>?_
 refine aE λZq kq=>?_
 obtain⟨B,E,O,W,vs,st,U,q⟩:=q;rw[evM]at U;simp[gf,pe]at U;obtain⟨d,U,ws,e2,rfl⟩:=U;obtain⟨m,hj,om,so⟩:∃m,(W[i]?).join=some m/\iP m=true/\∃a,σ[i]?=some (some (.ref a))/\DAt X.K H O a d/\a∈O:=by
  rcases fk U with e|e
  .obtain⟨u,J,a,rfl,h1,h2,_⟩:=aY st e;exact⟨_,e,rfl,a,J,h1,h2⟩
  .obtain⟨u,J,a,rfl,h1,h2,_⟩:=aY st e;exact⟨_,e,rfl,a,J,h1,h2⟩
 obtain⟨a,J,h1,h2⟩:=so;refine kq ?_;refine⟨_,J,B,E,O,W,ws,st,e2,λus H2 as Z g2 ma=>q _ H2 _ Z (.cons ⟨a,rfl,h1.move (Z _) (am Z),h2⟩ g2) (.mutd U J hi (λz=>?_) ma)⟩;obtain⟨j,ao,ej,d2,aO⟩:=ma.addr a z;have Y:i≠j:=λw=>hi (w▸ao)
 rcases fk aO with e|e
 .exact st.apart i j m _ a Y (aG hj) (aG e) om rfl J ej
 .exact st.apart i j m _ a Y (aG hj) (aG e) om rfl J ej
def uK(Y:aM m=false)(h:PE X e (tE X.K cal m))(hs:PA X es (tAM X.K cal bs ms))(hn:ag e=true):PA X (e::es) (tAM X.K cal (false::bs) (m::ms)):=by
 refine(aN h hs (aW hn es _)).imp λσ H Q q=>?_
 obtain⟨B,E,O,W,vs,st,J,q⟩:=q;rw[evM,gf]at J;obtain⟨a,e0,J⟩:=J;have U:(ev cal m W).bind (λv=>some [MV.val v])=some a:=by
  rw[<- e0];cases m<;>first|(cases Y;done)|(simp only[evA];rfl)
 rw[gf]at U;obtain⟨v,e9,e8⟩:=U;cases e8;rw[pe]at J;obtain⟨ws,e2,rfl⟩:=J;exact⟨B,E,O,W,v,st,e9,λu H1 Z g1=>⟨B,E,O,W,ws,st.mono Z,e2,λus H2 as s2 g2 ma=>q _ H2 as (Z.trans s2) (.cons (show Rep X.K _ v u from(g1.mono s2).2 Y) g2) (.other (λ_ z=>by cases z) ma)⟩⟩
def xi(h:aV X.N X.env.scope i x=true)(hs:PA X es (tAM X.K cal bs ms)):PA X (.Name x pos::es) (tAM X.K cal (false::bs) (.bor i::ms)):=by
 refine(aN (b8 h) hs rfl).imp λσ H Q q=>?_
 obtain⟨B,E,O,W,vs,st,J,q⟩:=q;rw[evM,gf]at J;obtain⟨a,U,J⟩:=J;rw[evA,evA]at U;cases Y:(W[i]?).join with
 |none=>rw[Y]at U;cases U
 |some m =>
  rw[Y]at U;obtain⟨u,eu,so⟩:=aY st Y;cases m with
  |val w =>
   cases U;dsimp only at J;rw[pe]at J;obtain⟨ws,e2,rfl⟩:=J;exact⟨u,eu,⟨B,E,O,W,ws,st,e2,λus H2 as Z g2 ma=>q (u::us) H2 as Z (.cons (show Rep X.K (ay H2 O) w u from Rep.mono (am Z) _ so) g2) (.other (λ_ z=>by cases z) ma)⟩⟩
  | _=>cases U;cases J
theorem qL(g:Gf X T k cal):∀bs ms es,chks T ms X.N X.env.scope es=true->jM bs ms=true->(fj bs ms).Nodup->PA X es (tAM X.K cal bs ms)
 | [],[],es,h,_,_=>by
  cases es<;>first|exact xh|simp[chks]at h
 | [],_::_,_,_,h2,_=>by cases h2
 |true::_,[],_,_,h2,_=>by cases h2
 |false::_,[],_,_,h2,_=>by cases h2
 |b::bs,m::ms,es,h,h2,U=>by
  cases es with
  |nil=>simp[chks]at h
  |cons e es =>
   simp[chks,mu]at h;cases b with
   |true =>
    have z:(aM m&&jM bs ms)=true:=h2;rw[mu]at z;have J:=z.1;obtain⟨i,rfl⟩:=nh J;obtain⟨x,p,rfl,h1⟩:=j_ h.1.1;obtain⟨Y,Z⟩:=Ky.mp (show(_::fj bs ms).Nodup from U);exact zQ h1 Y (qL g bs ms es h.2 z.2 Z)
   |false =>
    have hs:=qL g bs ms es h.2 (show jM bs ms=true from h2) (show(fj bs ms).Nodup from U);cases J:aM m with
    |false=>exact uK J (aw m g h.1.1).1 hs h.1.2
    |true =>
     obtain⟨i,rfl⟩:=nh J;obtain⟨x,p,rfl,h1⟩:=j_ h.1.1;exact xi h1 hs
end
def xj(h:rX cal f mask ms W=some (v,l)):∃ds,((evM cal mask ms W).bind λvs=>cal (f+2000) vs)=some (.tup (v::ds))/\j9 mask ms ds W=some l:=by
 unfold rX at h;split at h
 .rename_i v ds e
  simp_all
 .cases h
section
variable{X:Cx}{T:Tab}{k:Nat}{cal:Cal}
noncomputable def tMr(K:Np)(cal:Cal)(f:Nat)(mask:List Bool)(ms:List ME):TE:=λσ H Q=>∃B E O W vs v ds,aF K B E O H W σ/\evM cal mask ms W=some vs/\cal (f+2000) vs=some (.tup (v::ds)) /\
 ∀u us as H1 H',ai H H1->cG σ W mask ms vs us as (fj mask ms)->(∀b o,b∉as->H1 b=some o->H' b=some o)->cF K O H' vs us ds as->Rep K (ay H' O) v u->Q u H'
def v0(g:Gf X T k cal)(Z:T.fs[f]?=some x)(hg:glB X.env.scope x=true)(hn:av x=true)(ha:PA X (e::es) (tAM X.K cal mask ms))(hs:(e::es).all ag=true):PE X (.Call (.Name x p) (e::es) [] pos) (tMr X.K cal f mask ms):=by
 obtain⟨fa,fd,ps,h1,h2,h3,F⟩:=g.fnsD f x Z;simp only[all_cons,mu]at hs;refine(l7 F g.room (dC hg) h1 h2 h3 .nil rC ha (ib hn).1 (aW hs.1 es _) (bY hs.2)).imp λσ H Q q=>?_
 obtain⟨B,E,O,W,vs,v,ds,st,e1,e3,q⟩:=q;refine⟨B,E,O,W,vs,st,e1,λus H1 as J g1 Y=>?_⟩;show spD X.K cal f (us++[]) H1 Q E0;rw[La];obtain⟨z,U⟩:=Y.at (st.mono J);exact⟨O,vs,v,ds,z,as,bx J st.here,g1,U,e3,λu H' hk hm ru=>q u us as H1 H' J Y hk hm ru⟩
end
def cF.mono{K:Np}(h:cF K O H args vs ds ms)(s:∀a∈ms,∀o,H a=some o->H' a=some o)(v:ai (ay H O) (ay H' z)):cF K z H' args vs ds ms:=by
 induction h with
 |nil=>exact .nil
 |mutd h J t ih=>exact .mutd (h.move (s _ (.head _)) v) J (ih λa U=>s a (.tail _ U))
 |other h t ih=>exact .other h (ih s)
def cF.here{K:Np}(h:cF K O H args vs ds ms):∀a∈ms,H a≠none:=by
 induction h with
 |nil=>intro a z;cases z
 |mutd h J t ih =>
  simp_all
 |other h t ih=>exact ih
theorem cG.own{K:Np}(st:aF K B E O H W σ)(h:cG σ W bs es as vs ms is):∀a∈ms,a∈O/\B a=none/\∃o,H a=some o:=λa Y=>by
 obtain⟨j,_,U,d,Z⟩:=h.addr a Y;rcases fk Z with e|e
 .obtain⟨u,z,a',rfl,h1,h2,J⟩:=aY st e;rw[U]at z;cases z;exact⟨h2,J,h1.here⟩
 .obtain⟨u,z,a',rfl,h1,h2,J⟩:=aY st e;rw[U]at z;cases z;exact⟨h2,J,h1.here⟩
def ja{O as:List Addr}(h:∀a∈as,a∈O)(U:∀b o,b∉as->H1 b=some o->H' b=some o):ai (ay H1 O) (ay H' O):=λb o e=>by
 have J:b∉O:=λz=>by rw[eQ z]at e;cases e
 rw[bh J]at e ⊢;exact U b o (λz=>J (h b z)) e
section
variable{X:Cx}{T:Tab}{k:Nat}{cal:Cal}
noncomputable def tSr(K:Np)(cal:Cal)(j:SK)(e:ME)(f:Nat)(mask:List Bool)(ms:List ME):TE:=λσ H Q=>∃B E O W w vs v ds r,aF K B E O H W σ/\ev cal e W=some w/\evM cal mask ms W=some vs/\cal (f+2000) vs=some (.tup (v::ds))/\Db j w v=some r /\
 ∀u us as H1 H',ai H H1->cG σ W mask ms vs us as (fj mask ms)->(∀b o,b∉as->H1 b=some o->H' b=some o)->cF K O H' vs us ds as->Rep K (ay H' O) r u->Q u H'
def pK{K:Np}(st:aF K B E O H W σ)(J:ai H H1)(U:∀b o,b∉as->H1 b=some o->H' b=some o)(Y:cF K O H' args vs ds as):∀a∈O,H' a≠none:=λa Z=>by
 by_cases z:a∈as
 .exact Y.here a z
 .cases e:H1 a with
  |none=>exact absurd (J.free e) (st.here a Z)
  |some o=>rw[U a o z e];simp
def HX(h:PE X c (tMr X.K cal f mask ms)):PE X c (tSr X.K cal .one (.cst .non) f mask ms):=by
 refine h.imp λσ H Q q=>?_
 obtain⟨B,E,O,W,w,vs,v,ds,r,st,Y,z,J,U,q⟩:=q;cases U;exact⟨B,E,O,W,vs,v,ds,st,z,J,q⟩
def Fo(J:aM e=false)(ha:PE X l (tE X.K cal e))(h:PE X c (tMr X.K cal f mask ms)):PE X (.BinOp l .Add c pos) (tSr X.K cal .cat e f mask ms):=by
 refine(vb (uB .add) ha h).imp λσ H Q q=>?_
 refine aE λZq kq=>?_
 obtain⟨B,E,O,W,w,vs,v,ds,r,st,e1,e2,e3,e4,q⟩:=q;refine kq ?_;refine⟨B,E,O,W,w,st,e1,λux H1 z g1=>⟨B,E,O,W,vs,v,ds,st.mono z,e2,e3,λuy us as H2 H' U ma Y hm ry=>?_⟩⟩;have own:=ma.own (st.mono z);have rx:=Rep.mono ((am U).trans (ja (λa h=>(own a h).1) Y)) _ (g1.2 J);exact⟨O,w,v,r,pK (st.mono z) U Y hm,.inl rx,.inl ry,e4,λu H3 Z ru=>q u us as H2 H3 (z.trans U) ma (λb o J eb=>Z b o (Y b o J eb)) (hm.mono (λa _ o e=>Z a o e) (am Z)) ru⟩
def Co(J:aM e=false)(hl:ag l=true)(hc:ag c=true)(ha:PE X l (tE X.K cal e))(h:PE X c (tMr X.K cal f mask ms)):PE X (.Tuple [l,c] j pos) (tSr X.K cal .pair e f mask ms):=by
 refine(tZ (aN ha (aN h bF (aW hc _ _)) (aW hl _ _))).imp λσ H Q q=>?_
 refine aE λZq kq=>?_
 obtain⟨B,E,O,W,w,vs,v,ds,r,st,e1,e2,e3,e4,q⟩:=q;cases e4;refine kq ?_;refine⟨B,E,O,W,w,st,e1,λux H1 z g1=>⟨B,E,O,W,vs,v,ds,st.mono z,e2,e3,λuy us as H2 H' U ma Y hm ry=>⟨cO (show 2<=10000 by decide),λp hp=>?_⟩⟩⟩;have own:=ma.own (st.mono z);have rx:=Rep.mono ((am U).trans (ja (λa h=>(own a h).1) Y)) _ (g1.2 J);have Z:ai H' (upd H' p (.tup [ux,uy])):=aC hp _;exact q _ us as H2 _ (z.trans U) ma (λb o J eb=>Z b o (Y b o J eb)) (hm.mono (λa _ o e=>Z a o e) (am Z)) (gK (pK (st.mono z) U Y hm) hp (.cons rx (.cons ry .nil)))
def Fp(g:Gf X T k cal)(h:zi T j e f mask ms X.N X.env.scope v=true):PE X v (tSr X.K cal j e f mask ms):=by
 have call:∀c,fJ T f mask ms X.N X.env.scope c=true->PE X c (tMr X.K cal f mask ms)/\ag c=true:=λc hc=>by
  obtain⟨y,p,args,cp,rfl,z⟩:=ni hc;simp only[mu,J0,KL,J6]at z;obtain⟨⟨⟨⟨⟨⟨U,Y⟩,Z⟩,J⟩,q5⟩,q6⟩,q7⟩:=z;cases args with
  |nil=>cases q7
  |cons a args=>exact⟨v0 g U Y Z (qL g mask ms (a::args) J q5 q6) (bI J).1,rfl⟩
 cases j with
 |one =>
  have h:(uv e&&fJ T f mask ms X.N X.env.scope v)=true:=h;rw[mu]at h;have e0:e=.cst .non:=by
   have h1:=h.1;unfold uv at h1;split at h1
   .rfl
   .cases h1
  subst e0;exact HX (call v h.2).1
 |cat =>
  unfold zi at h;dsimp only at h;split at h
  .rename_i q z;obtain⟨pos,rfl⟩:=BX z;simp only[mu,J6]at h;exact Fo h.1.2 (aw e g h.1.1).1 (call _ h.2).1
  .cases h
 |pair =>
  unfold zi at h;dsimp only at h;split at h
  .rename_i q z;obtain⟨i,pos,rfl⟩:=BY z;simp only[mu,J6]at h;exact Co h.1.1.2 h.1.2 (call _ h.2).2 (aw e g h.1.1.1).1 (call _ h.2).1
  .cases h
noncomputable def dq(H:Hp)(D:Addr):Hp:=λb=>if b=D then none else H b
def kn(H)(D):ai (dq H D) H:=λb o e=>by
 unfold dq at e
 simp_all
def nD(h:b≠D):dq H D b=H b:=if_neg h
def uL(s:ai H H'):ai (dq H D) (dq H' D):=λb o e=>by
 unfold dq at e ⊢;split at e
 .cases e
 .rename_i z;rw[if_neg z];exact s b o e
def jb :dq (upd H D o) D=dq H D:=by
 funext b
 unfold dq;split
 .rfl
 .rename_i z;exact bc z
def nE(h:H D=none):dq H D=H:=by
 funext b
 unfold dq
 simp_all
def xk(Z:js.Nodup)(ao:∀i J u,js[i]?=some J->aO[i+1]?=some (some u)->σ[J]?=some (some u))(h:cG aO (kY js W x) bs es as vs ms is) :
  ∃U,cG σ W bs (es.map (Ex js)) as vs ms U/\∀J∈U,∃i,i+1∈is/\js[i]?=some J:=by
 induction h with
 |nil=>exact⟨[],.nil,λJ h=>by cases h⟩
 |mutd hd hs hi ha t ih =>
  rename_i i d a bs es as vs ms is;obtain⟨U,m',h'⟩:=ih;cases i with
  |zero=>cases hd
  |succ i =>
   unfold kY at hd;rw[getElem?_cons_succ,J9]at hd;cases Y:js[i]? with
   |none=>rw[Y]at hd;cases hd
   |some J =>
    rw[Y]at hd;have e1:gH (W[J]?).join=some d:=by
     have hd:gH (BS (W[J]?).join)=some d:=hd;cases hj:(W[J]?).join with
     |none=>rw[hj]at hd;cases hd
     |some m=>rw[hj]at hd;cases m<;>first|(cases hd;done)|exact hd
    have e2:js.getD i 0=J:=by rw[KC,Y];rfl
    refine⟨J::U,?_,λj2 h2=>?_⟩
    .rw[JW,show Ex js (.bor (i+1))=.bor J from by show ME.bor (if i+1=0 then 0 else js.getD (i+1-1) 0)=.bor J;rw[if_neg (by omega),KU,e2]];refine .mutd e1 (ao i J _ Y hs) (λz=>?_) ha m';obtain⟨i2,h3,h4⟩:=h' J z;have hl:=(JZ.mp Y).1;have:=(getElem?_inj hl Z).mp (Y.trans h4.symm);exact hi (this▸h3)
    .rcases JY.mp h2 with rfl|h2
     .exact⟨i,.head _,Y⟩
     .obtain⟨i2,h3,h4⟩:=h' j2 h2;exact⟨i2,.tail _ h3,h4⟩
 |other hm t ih =>
  obtain⟨U,m',h'⟩:=ih;exact⟨U,.other hm m',h'⟩
def Cq{K:Np}{σ F:St}(a5:js.Nodup)(st:aF K B E O H W σ)(s:ai H H2)(hG:ai G H2)(hB:ai B G)(hO:∀a∈O,B a=none->G a=none)(hD:H D=none)(a6:H2 D≠none)
  (a7:∀z,F.set 0 z=(fw js σ).set 0 z) (hx:Rep K (ay H2 (D::O)) x ux):aF K G [] (D::O) H2 (kY js W x) (F.set 0 (some ux)):=by
 have hv:ai (ay H O) (ay H2 (D::O)):=bR s λb hb=>by
  rcases JY.mp hb with rfl|hb
  .exact .inr hD
  .exact .inl hb
 rw[a7];have get:∀i m,(kY js W x)[i+1]?=some (some m)->∃jj U u,js[i]?=some jj/\(W[jj]?).join=some U/\BS (some U)=some m/\σ[jj]?=some (some u)/\fg K B O H U u/\((fw js σ).set 0 (some ux))[i+1]?=some (some u):=λi m e=>by
  simp only[kY,getElem?_cons_succ,J9,pe]at e;obtain⟨j,ej,e⟩:=e;cases hj:(W[j]?).join with
  |none=>rw[hj]at e;cases e
  |some mm =>
   rw[hj]at e;obtain⟨u,eu,Z⟩:=aY st hj;exact⟨j,mm,u,ej,hj,e,eu,Z,by simp[fw,ej,eu]⟩
 refine⟨hG,λa J=>?_,λa J=>by simp at J,λa J=>by simp at J,by simp[kY,fw],λi m e=>?_,λi i2 m m' a b2 e e' om aO es a0=>?_⟩
 .rcases JY.mp J with rfl|J
  .exact a6
  .exact λe=>st.here a J (s.free e)
 .cases i with
  |zero =>
   simp only[kY,getElem?_cons_zero,tf]at e;subst e;exact⟨ux,by simp[fw],hx⟩
  |succ i =>
   obtain⟨jj,U,u,ej,hj,e,eu,Z,b3⟩:=get i m e;refine⟨u,b3,?_⟩;cases U with
   |val w =>
    cases e;exact Rep.mono hv _ Z
   |own ys=>cases e
   |brw ys =>
    cases e;obtain⟨a,us,rfl,sq,rs⟩:=Z;exact⟨a,us,rfl,hB.seq sq,Reps.mono hv _ rs⟩
   |brwD kvs =>
    cases e;obtain⟨a,rfl,J⟩:=Z;exact⟨a,rfl,ai.rd hB J⟩
   | _ =>
    cases e;obtain⟨a,rfl,J,h1,h2⟩:=Z;exact⟨a,rfl,J.move (s _) hv,KD _ h1,hO a h1 h2⟩
 .have zero:∀m,(kY js W x)[0]?=some (some m)->iP m=true->False:=λm e o=>by
   simp only[kY,getElem?_cons_zero,tf]at e;subst e;cases o
  have Y:∀U m,BS (some U)=some m->iP m=true->iP U=true:=λU m e o=>by
   cases U<;>first|rfl|(cases e;cases o;done)|(cases e;done)
  cases i with
  |zero=>exact zero m e om
  |succ i =>
   cases i2 with
   |zero=>exact zero m' e' aO
   |succ i2 =>
    obtain⟨j1,n1,u1,a1,b4,c1,b5,_,a2⟩:=get i m e;obtain⟨j2,n2,u2,cd,ck,c2,cl,_,a3⟩:=get i2 m' e';rw[a2]at es;rw[a3]at a0;cases es;cases a0;refine st.apart j1 j2 n1 n2 a (λz=>b2 ?_) (aG b4) (aG ck) (Y _ _ c1 om) (Y _ _ c2 aO) b5 cl;subst z;have hl:=(JZ.mp a1).1;rw[(getElem?_inj hl a5).mp (a1.trans cd.symm)]
def sC{K:Np}{B H H1:Hp}{E O:List Addr}{W l:Rho}{σ:St}{J:It}{xs ws:List PV}{D:Addr}{Q:VK}(b3:js.Nodup)(st:aF K B E O H W σ)(s1:ai H H1)(a4:nu K J xs (ay H1 O) (bj B O H1 []))(dt:xs.length<=10000)
  (e3:dz cal js j e f mask ms xs W=some (ws,l)) (hD:H1 D=none) (q:∀H',ai (ay H O) (ay H' O)->aF K B E O H' l σ->bq B O O W l σ σ->Rep K (ay H' O) (.lst ws) (.ref D)->Q (.ref D) H'):rP J (fw js σ) H1 (tT K cal (.cst (.bl true))) (tSr K cal j e f mask ms) D Q:=by
 have a5:D∉O:=λz=>bx s1 st.here D z hD
 have a0:=st.keep.trans s1;have gB:ai B (bj B O H1 []):=d_ a0;have gO:∀a∈O,B a=none->bj B O H1 [] a=none:=λa ha Z=>by
  unfold bj;rw[if_pos ha,if_neg (λz=>nomatch z)];exact Z
 have gD:bj B O H1 [] D=none:=by
  unfold bj;rw[if_neg a5];exact hD
 refine⟨λi m F H'=>m=xs.length-i/\i<=xs.length/\(∀z,F.set 0 z=(fw js σ).set 0 z)/\0<F.length/\∃Y done bT ys,aF K B E O (dq H' D) Y σ/\bq B O O W Y σ σ/\ai (bj B O H1 []) (dq H' D)/\dz cal js j e f mask ms (xs.drop i) Y=some (bT,l)/\ws=done++bT/\done.length<=i/\H' D=some (.lst ys)/\Reps K (ay H' (D::O)) done ys,⟨xs.length,by simp,Kd _,λ_=>rfl,by simp[fw],W,[],ws,[],?_,.refl,?_,by simpa using e3,rfl,pb _,aB,.nil⟩,?_⟩
 .rw[jb,nE hD];exact st.mono s1
 .rw[jb,nE hD];exact nv a0
 rintro i m F H' ⟨rfl,hi,a6,hl,Y,done,bT,ys,a1,ki,sG,eg,ew,ey,a7,rs⟩;have ao:=sG.trans (kn H' D);by_cases a8:i<xs.length
 .right;have ex:=J4 a8;refine⟨a4.go i _ H' ao ex,λa9 H2=>∃m',m'<xs.length-i/\(m'=xs.length-(i+1)/\i+1<=xs.length/\(∀z,a9.set 0 z=(fw js σ).set 0 z)/\0<a9.length/\∃Y done bT ys,aF K B E O (dq H2 D) Y σ/\bq B O O W Y σ σ/\ai (bj B O H1 []) (dq H2 D)/\dz cal js j e f mask ms (xs.drop (i+1)) Y=some (bT,l)/\ws=done++bT/\done.length<=i+1/\H2 D=some (.lst ys)/\Reps K (ay H2 (D::O)) done ys),λa9 H2 z=>z,λux H2 y=>?_⟩;obtain⟨s3,hr⟩:=a4.yld i _ H' ux H2 ao ex y;have sv:ai (ay H1 O) (ay H2 (D::O)):=λb o U=>by
   have Z:b∉O:=λz=>by rw[eQ z]at U;cases U
   rw[bh Z]at U;have ba:b≠D:=λz=>by rw[z,hD]at U;cases U
   rw[bh λz=>(JY.mp z).elim ba Z];refine s3 b o (ao b o ?_);unfold bj;rw[if_neg Z];exact U
  have hx:=hr (D::O) (λa ha=>by
   rcases JY.mp ha with rfl|ha
   .rw[a7];simp
   .exact λz=>a1.here a ha ((kn H' D).free z)) sv
  have b5:=s3 _ _ a7;have c1:=(kn H' D).trans s3;have b0:=Cq (F:=F) b3 a1 c1 (ao.trans s3) gB gO (if_pos rfl) (by rw[b5];simp) a6 hx;rw[MI a8,dz]at eg;simp only[gf]at eg;obtain⟨w,e1,eg⟩:=eg;refine⟨_,[],D::O,_,true,b0,by simp[evB,ev,bi],λH3 s4=>?_⟩;dsimp only;rw[if_pos rfl];split at eg
  .refine aE λZq kq=>?_
   rename_i v ds ec;simp only[gf,pe]at eg ec;obtain⟨r,e4,c2,e5,⟨c3,eL⟩,e6,e7⟩:=eg;obtain⟨vs,e2,ec⟩:=ec;cases e7;refine kq ?_;refine⟨_,[],D::O,_,w,vs,v,ds,r,b0.mono s4,e1,e2,ec,e4,λu us as H4 H5 s5 ma hk hm ru=>?_⟩;have own:=ma.own (b0.mono s4);obtain⟨fa,mo,_⟩:=xk (σ:=σ) (W:=Y) (js:=js) b3 (λi jj u ej eu=>by
    rw[a6]at eu;have:(σ[jj]?).join=some u:=by simpa[fw,ej]using eu
    exact aG this) ma
   have aO:∀a∈as,a∈O:=λa ha=>(mo.own a1 a ha).1
   have ck:D∉as:=λz=>a5 (aO D z)
   have c6:=hk D _ ck (s5 _ _ (s4 _ _ b5));have cl:∀z,(F.set 0 (some ux)).set 0 z=(fw js σ).set 0 z:=λz=>by rw[set_set];exact a6 z
   have df:0<(F.set 0 (some ux)).length:=by rw[MJ];exact hl
   have vw:ai (ay H' (D::O)) (ay H5 (D::O)):=((am s3).trans ((am s4).trans (am s5))).trans (ja (λa h=>KD _ (aO a h)) hk);have dm:ys.length<=10000:=by rw[<- rs.length];omega
   have cr:∀b o,b∉as->dq H4 D b=some o->dq H5 D b=some o:=λb o Z U=>by
    have ba:b≠D:=λz=>by rw[z]at U;unfold dq at U;rw[if_pos rfl]at U;cases U
    rw[nD ba]at U ⊢;exact hk b o Z U
   have cu:ai (dq H' D) (dq H4 D):=uL ((s3.trans s4).trans s5);obtain⟨dn,k6⟩:=vZ mo (a1.mono cu) cr (hm.mono (λa ha o eo=>by
    have dr:a≠D:=λz=>by rw[z]at ha;exact ck ha
    rw[nD dr];exact eo) λb o U=>by
    have Z:b∉D::O:=λz=>by rw[eQ z]at U;cases U
    rw[bh Z]at U;rw[bh λz=>Z (.tail _ z),nD (show b≠D from λz=>Z (by rw[z];exact .head _))];exact U) e5
   refine⟨ys,c6,Km dm (by decide),_,by omega,rfl,a8,cl,df,c2,done++[r],c3,ys++[u],?_,ki.trans k6,?_,e6,by rw[ew];simp,by simp;omega,aB,?_⟩
   .rw[jb];exact dn
   .rw[jb];intro b o U;refine cr b o (λz=>?_) (cu b o (sG b o U));have:=(own b z).2.1;rw[this]at U;cases U
   .rw[iS (KZ)];exact(Reps.mono vw _ rs).snoc ru
  .cases eg
 .left;have ei:i=xs.length:=by omega
  subst ei;rw[drop_length,dz]at eg;cases eg;rw[La]at ew;subst ew;refine⟨a4.stop H' ao,q H' (λb o U=>?_) (a1.mono (kn H' D)) ki ?_⟩
  .have Z:b∉O:=λz=>by rw[eQ z]at U;cases U
   rw[bh Z]at U ⊢;refine ao b o ?_;unfold bj;rw[if_neg Z];exact s1 b o U
  rw[Rep];refine⟨D,ys,rfl,SqL.of ?_,Reps.mono ic _ rs⟩;rw[bh a5];exact a7
noncomputable def tX(K:Np)(cal:Cal)(x:XE):TE:=λσ H Q=>∃B E O W v l,aF K B E O H W σ/\evX cal x W=some (v,l) /\
 ∀u H',ai (ay H O) (ay H' O)->aF K B E O H' l σ->bq B O O W l σ σ->Rep K (ay H' O) v u->Q u H'
noncomputable def tXs(K:Np)(cal:Cal)(xs:List XE):TA:=λσ H Q=>∃B E O W vs l,aF K B E O H W σ/\evXs cal xs W=some (vs,l) /\
 ∀us H',ai (ay H O) (ay H' O)->aF K B E O H' l σ->bq B O O W l σ σ->Reps K (ay H' O) vs us->Q us H'
def Fq(J:aM m=false)(h:PE X e (tE X.K cal m)):PE X e (tX X.K cal (.pure m)):=by
 refine h.imp λσ H Q q=>?_
 obtain⟨B,E,O,W,v,l,st,z,q⟩:=q;rw[evX,pe]at z;obtain⟨w,z,U⟩:=z;cases U;exact⟨B,E,O,W,v,st,z,λu H' s g=>q u H' (am s) (st.mono s) .refl (g.2 J)⟩
def Fr(h:PE X e (tMr X.K cal f mask ms)):PE X e (tX X.K cal (.call f mask ms)):=by
 refine h.imp λσ H Q q=>?_
 obtain⟨B,E,O,W,v,l,st,e0,q⟩:=q;obtain⟨ds,z,e2⟩:=xj (show rX cal f mask ms W=some _ from e0);rw[gf]at z;obtain⟨vs,z,e3⟩:=z;refine⟨B,E,O,W,vs,v,ds,st,z,e3,λu us as H1 H' J Y Z hm ru=>?_⟩;obtain⟨U,k'⟩:=vZ Y (st.mono J) Z hm e2;have own:=Y.own (st.mono J);exact q u H' ((am J).trans (ja (λa h=>(own a h).1) Z)) U k' ru
def zR:∀{ns:List Int}{n},ns.getLast?=some n->(ns.map V.int).getLast?=some (V.int n):=by
 intro ns n h
 simp_all
def HY (hn:aV X.N X.env.scope i x=true) (U:(apos.endLine==cpos.line)=true):PE X (.Call (.Attribute (.Name x p) "pop" apos) [] [] cpos) (tX X.K cal (.pop i)):=by
 refine(D8 PySem.F.plainAttrs_list PySem.F.slot_list_pop PySem.F.type_list_pop D9 (b8 hn) rfl U).imp λσ H Q q=>?_
 obtain⟨B,E,O,W,v,l,st,J,q⟩:=q;have J:BT i W=some (v,l):=J;unfold BT at J;cases hd:gH (W[i]?).join with
 |none=>rw[hd]at J;cases J
 |some d =>
  rw[hd]at J;cases d with
  |p ns =>
   rw[pe]at J;obtain⟨n,el,Z⟩:=J;cases Z;obtain⟨a,Y,ha,hO,key⟩:∃a,σ[i]?=some (some (.ref a))/\H a=some (iO (.p ns))/\a∈O/\(aF X.K B E O (upd H a (iO (.p ns.dropLast))) (fz W i (.p ns.dropLast)) σ/\bq B O O W (fz W i (.p ns.dropLast)) σ σ):=by
    rcases fk hd with e|e
    .obtain⟨u,Y,a,rfl,h1,h2,h3⟩:=aY st e;refine⟨a,Y,h1,h2,?_⟩;have Z:fz W i (.p ns.dropLast)=put W i (.ownD (.p ns.dropLast)):=by unfold fz;rw[e];rfl
     rw[Z];exact st.changeD (aG e) Y λ_=>aB
    .obtain⟨u,Y,a,rfl,h1,h2,h3⟩:=aY st e;refine⟨a,Y,h1,h2,?_⟩;have Z:fz W i (.p ns.dropLast)=put W i (.mutD (.p ns.dropLast)):=by unfold fz;rw[e];rfl
     rw[Z];exact st.changeU (aG e) Y λ_=>aB
   have ao:ai (ay H O) (ay (upd H a (iO (.p ns.dropLast))) O):=λb o e=>by
    have hb:b∉O:=λz=>by rw[eQ z]at e;cases e
    rw[bh hb]at e ⊢;rw[bc (show b≠a from λz=>hb (z▸hO))];exact e
   have fin:=q (.int n) _ ao key.1 key.2 (b7 _ _);have aO:(ns.map V.int)[(ns.map V.int).length-1]?=some (V.int n):=by
    rw[<- getLast?_eq_getElem?];exact zR el
   refine⟨_,Y,.inl ⟨rfl,ns.map V.int,SqL.of ha⟩,a,ns.map V.int,.int n,rfl,rfl,ha,aO,?_⟩;have e9:(ns.map V.int).dropLast=ns.dropLast.map V.int:=map_dropLast.symm;rw[e9];exact fin
  | _=>cases J
def HZ(ha:PE X l (tX X.K cal a))(hb:PE X r (tE X.K cal b)):PE X (.BinOp l (ur op) r pos) (tX X.K cal (.bin op a b)):=by
 refine(vb (uB op) ha hb).imp λσ H Q q=>?_
 refine aE λZq kq=>?_
 obtain⟨B,E,O,W,v,ρ',st,J,q⟩:=q;rw[evX]at J;simp only[gf,pe]at J;obtain⟨⟨x,U⟩,J,y,e2,r,e3,e4⟩:=J;cases e4;refine kq ?_;exact⟨B,E,O,W,x,U,st,J,λux H1 v1 z k1 rx=>⟨B,E,O,U,y,z,e2,λuy H2 Y g2=>⟨O,x,y,v,bx Y z.here,.inl (Rep.mono (am Y) _ rx),g2.1,e3,λu H3 Z ru=>q u H3 (v1.trans (am (Y.trans Z))) (z.mono (Y.trans Z)) k1 ru⟩⟩⟩
def Jy(g:Gf X T k cal)(hf:T.fs[f]?=some x)(hg:glB X.env.scope x=true)(hn:av x=true)(ha:PE X e (tX X.K cal a))(has:PA X es (tAs X.K cal ms))(J:ag e=true)(hs:es.all ag=true):PE X (.Call (.Name x p) (e::es) [] pos) (tX X.K cal (.fn f a ms)):=by
 obtain⟨fa,fd,ps,h1,h2,h3,F,_⟩:=g.fns f x hf;refine(l7 F g.room (dC hg) h1 h2 h3 .nil rC (aN ha has (aW J es _)) (ib hn).1 (aW J es _) (bY hs)).imp λσ H Q q=>?_
 refine aE λZq kq=>?_
 obtain⟨B,E,O,W,v,l,st,U,q⟩:=q;rw[evX]at U;simp only[gf,pe]at U;obtain⟨⟨w,Y⟩,U,vs,e2,r,e3,e4⟩:=U;cases e4;refine kq ?_;refine⟨B,E,O,W,w,Y,st,U,λux H1 v1 z k1 rx=>⟨B,E,O,Y,vs,z,e2,λus H2 Z g2=>⟨O,.val w::vs,v,bx Z z.here,?_,e3,λu H3 s3 ru=>q u H3 (v1.trans (am (Z.trans s3))) (z.mono (Z.trans s3)) k1 ru⟩⟩⟩;rw[La];exact .cons (show Rep X.K (ay H2 O) w ux from Rep.mono (am Z) _ rx) g2
def H0:PA X [] (tXs X.K cal []):=by
 refine bF.imp λσ H Q q=>?_
 obtain⟨B,E,O,W,vs,l,st,z,q⟩:=q;cases z;exact q [] H (ai.refl _) st .refl .nil
def Fs(h:PE X e (tX X.K cal x))(hs:PA X es (tXs X.K cal xs))(hn:ag e=true):PA X (e::es) (tXs X.K cal (x::xs)):=by
 refine(aN h hs (aW hn es _)).imp λσ H Q q=>?_
 refine aE λZq kq=>?_
 obtain⟨B,E,O,W,vs,l,st,z,q⟩:=q;rw[evXs]at z;simp only[gf,pe]at z;obtain⟨⟨v,J⟩,z,⟨ws,a1⟩,e2,e3⟩:=z;cases e3;refine kq ?_;exact⟨B,E,O,W,v,J,st,z,λu H1 v1 U k1 ru=>⟨B,E,O,J,ws,_,U,e2,λus H2 Z Y k2 rs=>q _ H2 (v1.trans Z) Y (k1.trans k2) (.cons (Rep.mono Z _ ru) rs)⟩⟩
def H_(h:PA X es (tXs X.K cal xs)):PE X (.Tuple es j pos) (tX X.K cal (.tup xs)):=by
 refine(tZ h).imp λσ H Q q=>?_
 obtain⟨B,E,O,W,v,l,st,J,q⟩:=q;rw[evX,gf]at J;obtain⟨⟨vs,aO⟩,J,U⟩:=J;dsimp only at U;split at U
 .rename_i hl;cases U;refine⟨B,E,O,W,vs,_,st,J,λus H1 v1 z k1 Y=>⟨?_,λp Z=>?_⟩⟩
  .rw[<- Y.length];exact cO hl
  .have s2:ai H1 (upd H1 p (.tup us)):=aC Z _;exact q _ _ (v1.trans (am s2)) (z.mono s2) k1 (gK z.here Z Y)
 .cases U
def x_tupOf (g:Gf X T k cal) (Z:glB X.env.scope ("tuple":Str)=true) (ha:PE X e (tX X.K cal a)) (hs:ag e=true):PE X (.Call (.Name ("tuple":Str) p) [e] [] pos) (tX X.K cal (.tupOf a)):=by
 refine(di vQ (dC Z) (g.blt "tuple" (by decide)) nz (aN ha bF (aW hs _ _)) (by decide) (by decide) (aW hs [] _) (bY rfl)).imp λσ H Q q=>?_
 refine aE λZq kq=>?_
 obtain⟨B,E,O,W,v,l,st,z,q⟩:=q;rw[evX]at z;simp only[gf,pe]at z;obtain⟨⟨w,U⟩,z,r,e2,e3⟩:=z;cases e3;refine kq ?_;exact⟨B,E,O,W,w,U,st,z,λu H1 v1 J k1 ru=>⟨O,[w],_,J.here,.cons (.inl ru) .nil,e2,λu2 H2 Y r2=>q u2 H2 (v1.trans (am Y)) (J.mono Y) k1 r2⟩⟩
def Ia(h:PA X es (tXs X.K cal xs)):PE X (.List es pos) (tX X.K cal (.lst xs)):=by
 refine(t4 h).imp λσ H Q q=>?_
 obtain⟨B,E,O,W,v,l,st,J,q⟩:=q;rw[evX,gf]at J;obtain⟨⟨vs,aO⟩,J,U⟩:=J;dsimp only at U;split at U
 .rename_i hl;cases U;refine⟨B,E,O,W,vs,_,st,J,λus H1 v1 z k1 Y=>⟨?_,λp Z=>?_⟩⟩
  .rw[<- Y.length];exact cO hl
  .have s2:ai H1 (upd H1 p (.lst us)):=aC Z _;exact q _ _ (v1.trans (am s2)) (z.mono s2) k1 (nq z.here Z Y)
 .cases U
def Ib(g:Gf X T k cal)(hf:T.fs[f]?=some x)(hg:glB X.env.scope x=true)(hn:av x=true)(hm:PE X l (tE X.K cal m))(hb:aM m=false)(ha:PE X r (tX X.K cal a))(z:ag l=true)(J:ag r=true):PE X (.Call (.Name x p) [l,r] [] pos) (tX X.K cal (.fn2 f m a)):=by
 obtain⟨fa,fd,ps,h1,h2,h3,F,_⟩:=g.fns f x hf;refine(l7 F g.room (dC hg) h1 h2 h3 .nil rC (aN hm (aN ha bF (aW J _ _)) (aW z _ _)) (ib hn).1 (aW z [r] _) (bY (by rw[all_cons,J];rfl))).imp λσ H Q q=>?_
 refine aE λZq kq=>?_
 obtain⟨B,E,O,W,v,ρ',st,U,q⟩:=q;rw[evX]at U;simp only[gf,pe]at U;obtain⟨w,U,⟨Z,a9⟩,e2,r,e3,e4⟩:=U;cases e4;refine kq ?_;refine⟨B,E,O,W,w,st,U,λux H1 s1 g1=>⟨B,E,O,W,Z,_,st.mono s1,e2,λuy H2 v2 Y k2 ry=>⟨O,[.val w,.val Z],v,Y.here,?_,e3,λu H3 s3 ru=>q u H3 ((am s1).trans (v2.trans (am s3))) (Y.mono s3) k2 ru⟩⟩⟩;rw[La];exact .cons (show Rep X.K _ w ux from Rep.mono v2 _ (g1.2 hb)) (.cons (show Rep X.K _ Z uy from ry) .nil)
def x_compS(g:Gf X T k cal)
  (a0:fI X.env.scope X.N scope y (dN X.N js) js=true) (hw:PI X (.Name y py) it (tW X.K cal .seq [src])) (a1:fh it=true) (hb:aM src=false) (a2:js.Nodup) (he:∀z U C fp,PE (X.blk y (dN X.N js) scope z U C fp) el (tSr X.K cal j e f mask ms)) :
  PE X (.ListComp el [⟨.Name y py,it,[],0⟩] scope cpos) (tX X.K cal (.compS src js j e f mask ms)):=by
 refine(vo (tt:=tT X.K cal (.cst (.bl true))) (k_ a0) g.calm hw (λz U C fp=>qI (show sa (λ_=>false) (.cst _) []=true from rfl) λc hc=>nomatch hc) he (by intro v;cases it<;>first|rfl|(simp[fh]at a1))).imp λσ H Q q=>?_
 obtain⟨B,E,O,W,v,l,st,Y,q⟩:=q;rw[evX]at Y;simp only[gf]at Y;obtain⟨vs,e2,xs,e3,Y⟩:=Y;split at Y
 .rename_i Z;rw[pe]at Y;obtain⟨⟨ws,a8⟩,e1,e4⟩:=Y;cases e4;have ao:be [src] W σ=[]:=by
   cases src<;>first|rfl|(cases hb;done)
  refine⟨B,E,O,W,vs,xs,st,e2,e3,λJ H1 s1 aO D' hD=>?_⟩;rw[ao]at aO;exact sC a2 st s1 aO Z e1 hD λH' v' a3 k' ru=>q _ H' v' a3 k' ru
 .cases Y
noncomputable def tWX(K:Np)(cal:Cal)(y:XE):TI:=λσ H R =>
 ∃B E O W v l xs,aF K B E O H W σ/\evX cal y W=some (v,l)/\bm .rng [v]=some xs/\∀J H1,ai (ay H O) (ay H1 O)->aF K B E O H1 l σ->bq B O O W l σ σ->nu K J xs (ay H1 O) (bj B O H1 (be [.cst v] l σ))->R J H1
def zS (g:Gf X T k cal) (Y:glB X.env.scope ("range":Str)=true) (h:PE X e (tX X.K cal y)) (hs:ag e=true):PI X tg (.Call (.Name ("range":Str) p) [e] [] pos) (tWX X.K cal y):=by
 refine(o3 (dC Y) (g.blt "range" (by decide)) (aN h bF (aW hs _ _)) (aW hs _ _)).imp λσ H R q=>?_
 obtain⟨B,E,O,W,v,l,xs,st,Z,z,q⟩:=q;refine⟨B,E,O,W,v,l,st,Z,λu H1 v1 J k1 U=>?_⟩;cases v with
 |int j =>
  simp only[bm]at z;split at z
  .rename_i c;cases z;rw[Rep]at U;subst U;exact⟨j,rfl,c.1,c.2,q _ _ v1 J k1 nw⟩
  .cases z
 | _=>simp[bm]at z
mutual
theorem eR(g:Gf X T k cal):∀(x:XE) (e:Expr),dk T x X.N X.env.scope e=true->PE X e (tX X.K cal x)
 | .pure m,e,h=>by
  have h:(chk T m X.N X.env.scope e&&!aM m&&bV e)=true:=h;simp only[mu,J6]at h;exact Fq h.1.2 (aw m g h.1.1).1
 | .call f mask ms,e,h=>by
  obtain⟨y,p,args,cp,rfl,hq⟩:=ni (show fJ T f mask ms X.N X.env.scope e=true from h);simp only[mu,J0,KL,J6]at hq;obtain⟨⟨⟨⟨⟨⟨q1,q2⟩,q3⟩,q4⟩,q5⟩,q6⟩,q7⟩:=hq;cases args with
  |nil=>cases q7
  |cons a args=>exact Fr (v0 g q1 q2 q3 (qL g mask ms (a::args) q4 q5 q6) (bI q4).1)
 | .pop i,e,h=>by
  obtain⟨q,J,h⟩:=ak (show onQ (EM e) (λq=>aV X.N X.env.scope i q.1&&q.2.1==("pop":Str)&&q.2.2.1.endLine==q.2.2.2.line)=true from h);obtain⟨y,m,ap,cp⟩:=q;obtain⟨p,rfl⟩:=B0 J;obtain⟨U,Y⟩:=gQ.mp h;obtain⟨h1,h2⟩:=gQ.mp U;obtain rfl:m=("pop":Str):=eq_of_beq h2;exact HY h1 Y
 | .bin op a b,e,h=>by
  obtain⟨q,J,h⟩:=ak (show onQ (EN e) (λq=>q.2.1==ur op&&dk T a X.N X.env.scope q.1&&chk T b X.N X.env.scope q.2.2)=true from h);obtain⟨l,o,r⟩:=q;obtain⟨pos,rfl⟩:=B1 J;obtain⟨U,Y⟩:=gQ.mp h;obtain⟨h1,h2⟩:=gQ.mp U;obtain rfl:o=ur op:=eq_of_beq h1;exact HZ (eR g a l h2) (aw b g Y).1
 | .fn f a ms,e,h=>by
  obtain⟨q,J,h⟩:=ak (show onQ (fnQ e) (λq=>T.fs[f]?==some q.1&&glB X.env.scope q.1&&av q.1&&dk T a X.N X.env.scope q.2.1&&ag q.2.1&&chks T ms X.N X.env.scope q.2.2)=true from h);obtain⟨y,l,r⟩:=q;obtain⟨p,pos,rfl⟩:=uA J;obtain⟨U,h6⟩:=gQ.mp h;obtain⟨a2,Z⟩:=gQ.mp U;obtain⟨a3,h4⟩:=gQ.mp a2;obtain⟨a4,Y⟩:=gQ.mp a3;obtain⟨h1,h2⟩:=gQ.mp a4;exact Jy g (eq_of_beq h1) h2 Y (eR g a l h4) (soundA ms g h6) Z (bI h6).1
 | .tup xs,e,h=>by
  obtain⟨q,J,h⟩:=ak (show onQ (EO e) (λq=>chkXEs T xs X.N X.env.scope q)=true from h);obtain⟨j,pos,rfl⟩:=B2 J;exact H_ (soundXEs g xs q h)
 | .lst xs,e,h=>by
  obtain⟨q,J,h⟩:=ak (show onQ (EQ e) (λq=>chkXEs T xs X.N X.env.scope q)=true from h);obtain⟨pos,rfl⟩:=B3 J;exact Ia (soundXEs g xs q h)
 | .fn2 f m a,e,h=>by
  obtain⟨q,J,h⟩:=ak (show onQ (ER e) (λq=>T.fs[f]?==some q.1&&glB X.env.scope q.1&&av q.1&&chk T m X.N X.env.scope q.2.1&&!aM m&&ag q.2.1&&dk T a X.N X.env.scope q.2.2&&ag q.2.2)=true from h);obtain⟨y,l,r⟩:=q;obtain⟨p,pos,rfl⟩:=B4 J;obtain⟨U,h8⟩:=gQ.mp h;obtain⟨a2,h7⟩:=gQ.mp U;obtain⟨a3,h6⟩:=gQ.mp a2;obtain⟨a4,Z⟩:=gQ.mp a3;obtain⟨a5,h4⟩:=gQ.mp a4;obtain⟨a6,Y⟩:=gQ.mp a5;obtain⟨h1,h2⟩:=gQ.mp a6;exact Ib g (eq_of_beq h1) h2 Y (aw m g h4).1 (by simpa using Z) (eR g a r h7) h6 h8
 | .tupOf a,e,h=>by
  obtain⟨q,J,h⟩:=ak (show onQ (fnQ e) (λq=>q.1==("tuple":Str)&&glB X.env.scope q.1&&q.2.2.isEmpty&&dk T a X.N X.env.scope q.2.1&&ag q.2.1)=true from h);obtain⟨y,l,r⟩:=q;obtain⟨p,pos,rfl⟩:=uA J;obtain⟨U,Z⟩:=gQ.mp h;obtain⟨a2,h4⟩:=gQ.mp U;obtain⟨a3,Y⟩:=gQ.mp a2;obtain⟨h1,h2⟩:=gQ.mp a3;obtain rfl:y=("tuple":Str):=eq_of_beq h1;obtain rfl:r=[]:=Lx.mp Y;exact x_tupOf g h2 (eR g a l h4) Z
 | .compS src js j m f mask ms,e,h=>by
  obtain⟨c,e2,h2⟩:=ak (show onQ (zj e) (λc=>fI X.env.scope X.N c.2.1 c.2.2.1 (dN X.N js) js&&ng X.env.scope false (λxs=>chks T [src] X.N X.env.scope xs) .seq c.2.2.2&&!aM src&&zi T j m f mask ms (c.2.2.1::dN X.N js) (l0 c.2.1 X.env.scope) c.1&&decide js.Nodup)=true from h);obtain⟨py,cpos,rfl⟩:=zk e2;obtain⟨el,scope,y,it⟩:=c;simp only[mu,J6,KL]at h2;obtain⟨⟨⟨⟨Z,h6⟩,h7⟩,h8⟩,h9⟩:=h2;have hw:=lc (tg:=.Name y py) (λz=>by cases z) g h6 (λxs a8=>⟨sounds [src] g a8,bI a8⟩) (λm x hm hx=>by cases hm;exact(aw src g (by simp only[chks,mu]at hx;exact hx.1.1)).1);exact x_compS g Z hw.1 hw.2 h7 h9 λa9 ba C fp=>Fp (g.blk y (dN X.N js) scope a9 ba C fp) h8
theorem soundXEs(g:Gf X T k cal):∀(xs:List XE) (es:List Expr),chkXEs T xs X.N X.env.scope es=true->PA X es (tXs X.K cal xs)
 | [],es,h=>by
  cases es with
  |nil=>exact H0
  |cons _ _=>cases h
 |x::xs,es,h=>by
  cases es with
  |nil=>cases h
  |cons e es =>
   have h:(dk T x X.N X.env.scope e&&ag e&&chkXEs T xs X.N X.env.scope es)=true:=h;simp only[mu]at h;exact Fs (eR g x e h.1.1) (soundXEs g xs es h.2) h.1.2
end
def Ft(d:Df X)(hi:X.N[i]?=some x)(hx:Loc X.env.scope x)(h:PE X v (tX X.K cal y))(hc:bV v=true):PS X (.Assign [.Name x px] v pos) (tS X.K cal (.setX i y)):=
 PS.imp' (jB d.nd hi hx h (c_ hc _ _ _) (.inl (d.fn x))) λD σ H U q=>by
  obtain⟨B,E,O,W,st,q⟩:=q;rw[ex]at q;cases e:evX cal y W with
  |none=>rw[e]at q;exact(show False from q).elim
  |some cr =>
   obtain⟨s,l⟩:=cr;rw[e]at q;refine⟨B,E,O,W,s,l,st,e,λu H' _ z Y Z=>?_⟩;obtain⟨J,k2⟩:=z.store (ltN hi U) Z;exact q _ H' O J (Y.trans k2)
def Fu{i:Nat}{xs:List XE}{x:Str}{es:List Expr}{px p pos:Pos}(d:Df X)(hi:X.N[i]?=some x)(hx:Loc X.env.scope x)(h:PA X es (tXs X.K cal xs)):PS X (.Assign [.Name x px] (.List es p) pos) (tS X.K cal (.ownX i xs)):=
 PS.imp' (jB d.nd hi hx (t4 h) (c_ rfl _ _ _) (.inl (d.fn x))) λD σ H hl q=>by
  obtain⟨B,E,O,W,st,q⟩:=q;rw[ex]at q;cases e:evXs cal xs W with
  |none=>rw[e]at q;exact(show False from q).elim
  |some cr =>
   obtain⟨vs,l⟩:=cr;rw[e]at q;dsimp only at q;split at q
   .rename_i z;refine⟨B,E,O,W,vs,l,st,e,λus H1 _ U k1 rs=>⟨by rw[<- rs.length];exact cO z,λa J=>?_⟩⟩;obtain⟨Y,k2⟩:=U.storeOwn (ltN hi hl) (aC J (.lst us)) J aB (Reps.mono (bR (aC J _) λb Z=>by
     rcases JY.mp Z with rfl|Z
     .exact .inr J
     .exact .inl Z) _ rs)
    exact q _ _ _ Y (k1.trans k2)
   .exact(show False from q).elim
def Cr(h:PE X v (tX X.K cal y)):PS X (.Return (some v) pos) (tS X.K cal (.retXE y)):=by
 refine(p9 h).imp λD σ H q=>?_
 obtain⟨B,E,O,W,st,q⟩:=q;rw[ex]at q;cases e:evX cal y W with
 |none=>rw[e]at q;exact(show False from q).elim
 |some cr =>
  obtain⟨s,l⟩:=cr;rw[e]at q;exact⟨B,E,O,W,s,l,st,e,λu H' _ z J U=>q u σ H' O z J U⟩
def Fv(h:PE X v (tX X.K cal y))(hn:aV X.N X.env.scope i x=true)(hs:ag v=true)(J:(apos.endLine==cpos.line)=true) :
  PS X (.Expr (.Call (.Attribute (.Name x p) "append" apos) [v] [] cpos) pos) (tS X.K cal (.appX i y)):=by
 refine(p8 (vg PySem.F.plainAttrs_list PySem.F.slot_list_append PySem.F.type_list_append kN (b8 hn) (aN h bF (aW hs _ _)) rfl (by rw[aW hs];rfl) J (aW hs _ _) rfl) rfl).imp λD σ H q=>?_
 obtain⟨B,E,O,W,st,q⟩:=q;rw[ex]at q;cases hj:(W[i]?).join with
 |none=>rw[hj]at q;exact(show False from q).elim
 |some m =>
  rw[hj]at q;cases m with
  |own aO =>
   dsimp only at q;obtain⟨a4,eu,a,U,rfl,ha,_,hO,_⟩:=aY st hj;cases e:evX cal y W with
   |none=>rw[e]at q;exact(show False from q).elim
   |some cr =>
    obtain⟨w,l⟩:=cr;rw[e]at q;dsimp only at q;cases z:(l[i]?).join with
    |none=>rw[z]at q;exact(show False from q).elim
    |some m' =>
     rw[z]at q;cases m' with
     |own xs =>
      dsimp only at q;split at q
      .rename_i hl;refine⟨_,eu,.inl ⟨rfl,U,SqL.of ha⟩,B,E,O,W,w,l,st,e,λu H1 v1 Y k1 ru=>?_⟩;refine aE λZq kq=>?_
       obtain⟨u1,Z,a1,us,e5,a2,rs,_,_⟩:=aY Y z;rw[eu]at Z;cases Z;cases e5;refine kq ?_;refine⟨a,us,u,rfl,rfl,a2,?_,?_⟩
       .rw[<- rs.length];exact JX hl (by decide)
       .obtain⟨a3,k2⟩:=Y.change (us:=us++[u]) (ys:=xs++[w]) (aG z) eu (rs.snoc ru);exact q _ _ _ a3 (k1.trans k2)
      .exact(show False from q).elim
     | _=>exact(show False from q).elim
  | _=>exact(show False from q).elim
def aF.storeP{K:Np}(st:aF K B E O H W σ)(hi:i<σ.length)(s:ai H H')(U:H p=none)(J:H' p=some (.lst us))(r:Reps K (ay H' (p::O)) (ns.map .int) us):aF K B E (p::O) H' (put W i (.ownD (.p ns))) (σ.set i (some (.ref p)))/\bq B O (p::O) W (put W i (.ownD (.p ns))) σ (σ.set i (some (.ref p))):=by
 have Y:=r.ints;subst Y;exact st.storeM hi s U (by rw[J];simp) rfl (λ_ z=>by cases z) λZ=>⟨p,rfl,J,KZ,Z⟩
def Fw {px p p2 pos2 cp pos:Pos} (g:Gf X T k cal) (d:Df X) (hi:X.N[i]?=some x) (hx:Loc X.env.scope x) (h1:glB X.env.scope ("list":Str)=true) (h2:glB X.env.scope ("reversed":Str)=true) (h:PE X e (tE X.K cal Z)) (hs:ag e=true):PS X (.Assign [.Name x px] (.Call (.Name ("list":Str) p) [.Call (.Name ("reversed":Str) p2) [e] [] pos2] [] cp) pos) (tS X.K cal (.setP i Z)):=by
 refine PS.imp' (jB d.nd hi hx (ul g.calm (dC h1) (g.blt "list" (by decide)) qG (dC h2) (g.blt "reversed" (by decide)) h (aW hs _ _)) (c_ (v:=.Call _ _ _ _) rfl _ _ _) (.inl (d.fn x))) λD σ H hl q=>?_
 obtain⟨B,E,O,W,st,q⟩:=q;rw[ex]at q;cases J:ev cal Z W with
 |none=>rw[J]at q;exact(show False from q).elim
 |some w =>
  rw[J]at q;cases w with
  |lst xs =>
   dsimp only at q;cases U:bf xs with
   |none=>rw[U]at q;exact(show False from q).elim
   |some ns =>
    rw[U]at q;have e3:=dA U;subst e3;refine⟨B,E,O,W,_,st,J,λu H1 s1 g1=>?_⟩;obtain⟨a,us,rfl,sq,rs⟩:=g1.1.lst;have e4:=rs.ints;subst e4;refine⟨a,_,rfl,sq,λl z=>?_⟩;rw[show(ns.map V.int).reverse=ns.reverse.map V.int from map_reverse.symm];obtain⟨Y,k'⟩:=st.storeP (ns:=ns.reverse) (ltN hi hl) (s1.trans (aC z (.lst (ns.reverse.map V.int)))) (s1.free z) aB (Reps.of_ints _);exact q _ _ _ Y k'
  | _=>exact(show False from q).elim
end
section
variable{K:Np}{B H:Hp}{E O:List Addr}{W:Rho}{σ:St}
def Ic(J:aF K (bj B O H1 L) E U H' l F)(k:bq (bj B O H1 L) O U W l σ F):ai (ay H1 O) (ay H' U):=λb u e=>by
 have Z:b∉O:=λz=>by rw[eQ z]at e;cases e
 have Y:bj B O H1 L b=some u:=cm b u e;rw[bh]
 .exact J.keep b u Y
 .intro z;rcases k.new b z with q|q
  .exact Z q
  .rw[Y]at q;cases q
def Cs{ms:List ME}(st:aF K B E O H W σ):aF K (bj B O H (be ms W σ)) E O H (br ms W) σ/\(br ms W).length=W.length:=by
 have base:∀L:List Addr,(∀a∈L,∀(j:Nat) (ys:MV),(br ms W)[j]?=some (some ys)->iP ys=true->σ[j]?≠some (some (.ref a)))->(∀(j:Nat) (m:MV),(br ms W)[j]?=some (some m)->(∃ys,m=.brw ys/\W[j]?=some (some (.own ys))/\∃a,σ[j]?=some (some (.ref a))/\a∈L)\/W[j]?=some (some m))->(br ms W).length=W.length ->
   aF K (bj B O H L) E O H (br ms W) σ:=λL h1 h2 h3=>by
  have gl:=nv (O:=O) (L:=L) st.keep;have lg:=d_ (O:=O) (L:=L) st.keep;refine⟨gl,st.here,st.sub,λa ha z=>st.old a ha (lg.free z),h3.trans st.len,λj m e=>?_,λc d ps qs ad a9 e1 e2 p1 p2 e3 e4=>?_
   ⟩
  .rcases h2 j m e with⟨ys,rfl,e2,a,ea,J⟩|e2
   .obtain⟨u,Z,a',us,rfl,Y,q2,q3,q4⟩:=st.slot j _ e2;rw[ea]at Z;cases Z;refine⟨_,ea,a,us,rfl,SqL.of ?_,q2⟩;unfold bj;rw[if_pos q3,if_pos J];exact Y
   .obtain⟨u,Z,q⟩:=st.slot j m e2;refine⟨u,Z,?_⟩;cases m with
    |val v=>exact q
    |own ys =>
     obtain⟨a,us,rfl,Y,q2,q3,q4⟩:=q;refine⟨a,us,rfl,Y,q2,q3,?_⟩;unfold bj;rw[if_pos q3,if_neg λJ=>h1 a J j (.own ys) e rfl Z];exact q4
    |ownD ys =>
     obtain⟨a,rfl,Y,q3,q4⟩:=q;refine⟨a,rfl,Y,q3,?_⟩;unfold bj;rw[if_pos q3,if_neg λJ=>h1 a J j (.ownD ys) e rfl Z];exact q4
    |mutD ys =>
     obtain⟨a,rfl,Y,q3,q4⟩:=q;refine⟨a,rfl,Y,q3,?_⟩;unfold bj;rw[if_pos q3,if_neg λJ=>h1 a J j (.mutD ys) e rfl Z];exact q4
    |brwD ys=>obtain⟨a,rfl,Y⟩:=q;exact⟨a,rfl,ai.rd lg Y⟩
    |brw ys=>obtain⟨a,us,rfl,Y,q2⟩:=q;exact⟨a,us,rfl,lg.seq Y,q2⟩
  .rcases h2 c _ e1 with⟨_,rfl,_⟩|e1
   .cases p1
   .rcases h2 d _ e2 with⟨_,rfl,_⟩|e2
    .cases p2
    .exact st.apart c d ps qs ad a9 e1 e2 p1 p2 e3 e4
 have plain:br ms W=W->be ms W σ=[]->aF K (bj B O H (be ms W σ)) E O H (br ms W) σ/\(br ms W).length=W.length:=λe1 e2=>by
  rw[e2];exact⟨base [] (λa ha=>by simp at ha) (λj m e=>.inr (by rw[e1]at e;exact e)) (by rw[e1]),by rw[e1]⟩
 match ms with
 | []=>exact plain rfl rfl
 | [.bor i] =>
  cases U:(W[i]?).join with
  |none=>exact plain (by simp[br,U]) (by simp[be,U])
  |some m =>
   cases m with
   |val _=>exact plain (by simp[br,U]) (by simp[be,U])
   |brw _=>exact plain (by simp[br,U]) (by simp[be,U])
   |ownD _=>exact plain (by simp[br,U]) (by simp[be,U])
   |mutD _=>exact plain (by simp[br,U]) (by simp[be,U])
   |brwD _=>exact plain (by simp[br,U]) (by simp[be,U])
   |own xs =>
    have el:br [.bor i] W=put W i (.brw xs):=by simp[br,U]
    have e0:=aG U;obtain⟨u,Z,a,us,rfl,Y,q2,q3,q4⟩:=st.slot i _ e0;have eL:be [.bor i] W σ=[a]:=by simp[be,U,Z]
    have a3:i<W.length:=(JZ.mp e0).1;rw[eL];refine⟨base [a] (λb hb j ys e oy z=>?_) (λj m e=>?_) (by rw[el,put_len]),by rw[el,put_len]⟩
    .have:b=a:=by simpa using hb
     subst this;rw[el]at e;have a4:i≠j:=λz=>by subst z;rw[aj a3]at e;cases e;cases oy
     rw[ah a4]at e;exact st.apart i j (.own xs) ys b a4 e0 e rfl oy Z z
    .rw[el]at e;by_cases a5:i=j
     .subst a5;rw[aj a3]at e;cases e;exact .inl ⟨xs,rfl,e0,a,Z,by simp⟩
     .rw[ah a5]at e;exact .inr e
 | .var _::_=>exact plain rfl rfl
 | .cst _::_=>exact plain rfl rfl
 | .glob _ _::_=>exact plain rfl rfl
 | .bin _ _ _::_=>exact plain rfl rfl
 | .neg _::_=>exact plain rfl rfl
 | .not _::_=>exact plain rfl rfl
 | .and _ _::_=>exact plain rfl rfl
 | .or _ _::_=>exact plain rfl rfl
 | .ite _ _ _::_=>exact plain rfl rfl
 | .cmp _ _ _::_=>exact plain rfl rfl
 | .chain _ _ _ _ _::_=>exact plain rfl rfl
 | .tup _::_=>exact plain rfl rfl
 | .lst _::_=>exact plain rfl rfl
 | .idx _ _::_=>exact plain rfl rfl
 | .slice _ _ _::_=>exact plain rfl rfl
 | .blt _ _::_=>exact plain rfl rfl
 | .call _ _::_=>exact plain rfl rfl
 | .callD _ _ _::_=>exact plain rfl rfl
 | .comp _ _ _ _ _::_=>exact plain rfl rfl
 | .dget _ _ _::_=>exact plain rfl rfl
 | .dat _ _::_=>exact plain rfl rfl
 | .dIn _ _ _::_=>exact plain rfl rfl
 | .lenP _::_=>exact plain rfl rfl
 | .disp _ _::_=>exact plain rfl rfl
 | .indexOf _ _::_=>exact plain rfl rfl
 | .bor _::_::_=>exact plain rfl rfl
def ko(h:(br ms W)[j]?=some (some (.brw ys))):W[j]?=some (some (.brw ys))\/(ms=[.bor j]/\W[j]?=some (some (.own ys))):=by
 unfold br at h;split at h
 .rename_i i;split at h
  .rename_i xs U;have Y:=aG U;have J:=(JZ.mp Y).1;by_cases z:i=j
   .subst z;rw[aj J]at h
    simp_all
   .rw[ah z]at h;exact .inl h
  .exact .inl h
 .exact .inl h
def lf{j:Nat}(h:(br ms W)[j]?=some (some (.brwD ys))):W[j]?=some (some (.brwD ys)):=by
 unfold br at h;split at h
 .rename_i i;split at h
  .rename_i xs U;have Y:=aG U;have J:=(JZ.mp Y).1;by_cases z:i=j
   .subst z;rw[aj J]at h;cases h
   .rw[ah z]at h;exact h
  .exact h
 .exact h
def xl{j:Nat}(h:(br ms W)[j]?=some (some (.mutD ys))):W[j]?=some (some (.mutD ys)):=by
 unfold br at h;split at h
 .rename_i i;split at h
  .rename_i xs U;have Y:=aG U;have J:=(JZ.mp Y).1;by_cases z:i=j
   .subst z;rw[aj J]at h;cases h
   .rw[ah z]at h;exact h
  .exact h
 .exact h
def nF :(br ms W).length=W.length:=by
 unfold br;split
 .split
  .exact put_len
  .rfl
 .rfl
def qM(st:aF K B E O H1 W σ)(J:aF K (bj B O H1 (be ms W σ)) E O' H' l F)(k:bq (bj B O H1 (be ms W σ)) O O' (br ms W) l σ F) :
  aF K B E O' H' (aQ ms W l) F/\bq B O O' W (aQ ms W l) σ F:=by
 have lg:=d_ (O:=O) (L:=be ms W σ) st.keep;have a8:=Ic J k;have stay:∀a,B a≠none->a∈O->a∈O':=λa h1 h2=>k.stay a (λz=>h1 (lg.free z)) h2
 have new:∀a∈O',a∈O\/B a=none:=λa h=>(k.new a h).imp id lg.free
 have mutK:∀(j:Nat) d',l[j]?=some (some (.mutD d'))->(∃d,W[j]?=some (some (.mutD d)))/\F[j]?=σ[j]?:=λj d' e=>by
  obtain⟨⟨d,e1⟩,U⟩:=k.mutK j d' e;exact⟨⟨d,xl e1⟩,U⟩
 have slot:∀j m,l[j]?=some (some m)->(∀ys,m=.brw ys->¬ (ms=[.bor j]/\W[j]?=some (some (.own ys))))->∃u,F[j]?=some (some u)/\fg K B O' H' m u:=λj m e hn=>by
  obtain⟨u,eu,q⟩:=J.slot j m e;refine⟨u,eu,?_⟩;cases m with
  |val v=>exact q
  |own ys=>obtain⟨a,us,rfl,q1,q2,q3,q4⟩:=q;exact⟨a,us,rfl,q1,q2,q3,lg.free q4⟩
  |brw ys =>
   obtain⟨e1,U⟩:=k.brw j (.brw ys) rfl e;rcases ko e1 with Z|Z
   .obtain⟨w,ew,a,us,rfl,q1,q2⟩:=st.slot j _ Z;rw[eu,ew]at U;cases U;exact⟨a,us,rfl,q1,Reps.mono a8 _ q2⟩
   .exact absurd Z (hn ys rfl)
  |brwD ys =>
   obtain⟨e1,U⟩:=k.brw j (.brwD ys) rfl e;obtain⟨w,ew,a,rfl,q1⟩:=st.slot j _ (lf e1);rw[eu,ew]at U;cases U;exact⟨a,rfl,q1⟩
  | _=>obtain⟨a,rfl,q1,q3,q4⟩:=q;exact⟨a,rfl,q1,q3,lg.free q4⟩
 by_cases hA:∃i a0 xs,ms=[.bor i]/\(W[i]?).join=some (.own a0)/\(l[i]?).join=some (.brw xs)
 .obtain⟨i,a0,xs,rfl,h0,h1⟩:=hA;have eb:aQ [.bor i] W l=put l i (.own xs):=by simp[aQ,h0,h1]
  rw[eb];have e0:=aG h0;have e1:=aG h1;have a3:=(JZ.mp e1).1;obtain⟨el,es⟩:=k.brw i (.brw xs) rfl e1;have exs:xs=a0:=by
   rcases ko el with Z|⟨_,Z⟩
   .rw[e0]at Z;cases Z
   .rw[e0]at Z;cases Z;rfl
  subst exs;obtain⟨w,ew,a,us,rfl,q1,q2,q3,q4⟩:=st.slot i _ e0;have eL:be [.bor i] W σ=[a]:=by simp[be,h0,ew]
  have ga:bj B O H1 (be [.bor i] W σ) a=some (.lst us):=by
   unfold bj;rw[eL,if_pos q3,if_pos (by simp)];exact q1
  have other:∀(j:Nat) ys ad,l[j]?=some (some ys)->iP ys=true->F[j]?=some (some (.ref ad))->ad≠a:=λj ys ad h1 oy h2 z=>by
   obtain⟨u,eu,qq⟩:=J.slot j _ h1;rw[h2]at eu;cases eu;cases ys with
   |own ys =>
    obtain⟨b,_,U,_,_,_,q⟩:=qq;cases U;rw[z,ga]at q;cases q
   |ownD ys|mutD ys =>
    obtain⟨b,U,_,_,q⟩:=qq;cases U;rw[z,ga]at q;cases q
   | _=>cases oy
  refine⟨⟨lg.trans J.keep,J.here,J.sub,st.old,by rw[put_len];exact J.len,λj m e=>?_,λc d ps qs ad b1 e1 U p1 p2 Z e4=>?_
   ⟩,⟨stay,new,λj ys aO e=>?_,by rw[put_len];exact k.len.trans nF
   ,λj d' e=>?_
   ⟩⟩
  .by_cases Y:i=j
   .subst Y;rw[aj a3]at e;cases e;refine⟨_,by rw[es];exact ew,a,us,rfl,J.keep _ _ ga,Reps.mono a8 _ q2,k.stay a (by rw[ga];simp) q3,q4⟩
   .rw[ah Y]at e;exact slot j m e λys _ ⟨z,_⟩=>Y (by cases z;rfl)
  .by_cases hc:i=c
   .subst hc;rw[es,ew]at Z;cases Z;rw[ah b1]at U;exact other d qs _ U p2 e4 rfl
   .rw[ah hc]at e1;by_cases hd:i=d
    .subst hd;rw[es,ew]at e4;cases e4;exact other c ps _ e1 p1 Z rfl
    .rw[ah hd]at U;exact J.apart c d ps qs ad b1 e1 U p1 p2 Z e4
  .by_cases Y:i=j
   .subst Y;rw[aj a3]at e;cases e;cases aO
   .rw[ah Y]at e;obtain⟨e1,U⟩:=k.brw j ys aO e;cases ys with
    |brw ys =>
     rcases ko e1 with Z|⟨z,_⟩
     .exact⟨Z,U⟩
     .cases z;exact absurd rfl Y
    |brwD ys=>exact⟨lf e1,U⟩
    | _=>cases aO
  .by_cases Y:i=j
   .subst Y;rw[aj a3]at e;cases e
   .rw[ah Y]at e;exact mutK j d' e
 .have eb:aQ ms W l=l:=by
   unfold aQ;split
   .rename_i i;split
    .rename_i a0 xs h0 h1;exact absurd ⟨i,a0,xs,rfl,h0,h1⟩ hA
    .rfl
   .rfl
  rw[eb];have no:∀j ys,l[j]?=some (some (.brw ys))->¬ (ms=[.bor j]/\W[j]?=some (some (.own ys))):=λj ys e ⟨h1,h2⟩=>hA ⟨j,ys,ys,h1,by rw[h2];rfl,by rw[e];rfl⟩
  refine⟨⟨lg.trans J.keep,J.here,J.sub,st.old,J.len,λj m e=>slot j m e λys z=>no j ys (by rw[e,z]),J.apart
   ⟩,⟨stay,new,λj ys aO e=>?_,k.len.trans nF
   ,λj d' e=>mutK j d' e
   ⟩⟩
  obtain⟨e1,U⟩:=k.brw j ys aO e;cases ys with
  |brw ys =>
   rcases ko e1 with Z|Z
   .exact⟨Z,U⟩
   .exact absurd Z (no j ys e)
  |brwD ys=>exact⟨lf e1,U⟩
  | _=>cases aO
end
section
variable{X:Cx}{T:Tab}{k:Nat}{cal:Cal}
def Ct(K:Np)(n:Nat)(g:TG)(tk:PV->Rho->Option Rho):Prop:=
 ∀B E O H W l σ x u (Q:St->Hp->Prop),σ.length=n->aF K B E O H W σ->Rep K (ay H O) x u->tk x W=some l ->
  (∀F,aF K B E O H l F->bq B O O W l σ F->Q F H)->g u σ H Q
def sD{K:Np}(hn:σ.length=n)(hg:Ct K n g tk)(Y:aF K B E O H1 W σ)(it:nu K J xs (ay H1 O) (bj B O H1 (be ms W σ)))
  (q:gL K B E O W σ D ((aq (λx l=>bZ (tk x l) λU=>exs cal body U) xs (br ms W)).back ms W)):DT (λ_ _ R=>R J H1) g (tSs K cal body) D σ H1:=by
 obtain⟨b1,_⟩:=Cs (ms:=ms) Y;refine⟨λi m F H'=>m=xs.length-i/\i<=xs.length/\∃l O',aF K (bj B O H1 (be ms W σ)) E O' H' l F/\bq (bj B O H1 (be ms W σ)) O O' (br ms W) l σ F /\
  aq (λx l=>bZ (tk x l) λU=>exs cal body U) (xs.drop i) l=aq (λx l=>bZ (tk x l) λU=>exs cal body U) xs (br ms W),⟨xs.length,by simp,Kd _,br ms W,O,b1,.refl,by simp⟩,?_⟩
 rintro i m F H' ⟨rfl,hi,l,O',Z,k',eq⟩;by_cases a6:i<xs.length
 .right;have ex:=J4 a6;refine⟨it.go i _ H' Z.keep ex,λa2 H2=>∃m',m'<xs.length-i/\(m'=xs.length-(i+1)/\i+1<=xs.length/\∃l O',aF K (bj B O H1 (be ms W σ)) E O' H2 l a2/\bq (bj B O H1 (be ms W σ)) O O' (br ms W) l σ a2 /\
   aq (λx l=>bZ (tk x l) λU=>exs cal body U) (xs.drop (i+1)) l=aq (λx l=>bZ (tk x l) λU=>exs cal body U) xs (br ms W)),λa2 H2 z=>z,λu H2 y=>?_⟩
  obtain⟨s2,hr⟩:=it.yld i _ H' u H2 Z.keep ex y;have b2:=Ic Z k';have hx:=hr O' Z.here (b2.trans (am s2));rw[MI a6,aq]at eq;cases et:tk xs[i] l with
  |none =>
   rw[et]at eq;rw[<- eq]at q;exact(show False from q).elim
  |some ao =>
   rw[et,show bZ (some ao) (λU=>exs cal body U)=exs cal body ao from rfl]at eq;have a8:F.length=n:=by rw[<- Z.len,k'.len,nF,Y.len];exact hn
   refine hg _ E O' H2 l ao F _ u _ a8 (Z.mono s2) hx et λa2 b4 k2=>?_
   refine⟨_,E,O',ao,b4,?_⟩;have kk:=k'.trans k2;cases er:exs cal body ao with
   |next a3|cont a3 =>
    rw[er]at eq;exact λa4 H3 O3 aO k3=>⟨_,by omega,rfl,a6,a3,O3,aO,kk.trans k3,eq⟩
   |brk a3 =>
    rw[er]at eq;rw[<- eq]at q;exact λa4 H3 O3 aO k3=>by
     obtain⟨a0,kb⟩:=qM Y aO (kk.trans k3);exact q a4 H3 O3 a0 kb
   |ret v =>
    rw[er]at eq;rw[<- eq]at q;exact λw H3 s3 r=>q w H3 ((d_ Y.keep).trans s3) r
   |retM v a3 =>
    rw[er]at eq;rw[<- eq]at q;exact λu a4 H3 O3 aO k3 ru=>by
     obtain⟨a0,kb⟩:=qM Y aO (kk.trans k3);exact q u a4 H3 O3 a0 kb ru
   |retF ys =>
    rw[er]at eq;rw[<- eq]at q;exact λp us H3 s3 hp he r=>q p us H3 ((d_ Y.keep).trans s3) ((d_ Y.keep).free hp) he r
   |bad =>
    rw[er]at eq;rw[<- eq]at q;exact(show False from q).elim
 .left;have ei:i=xs.length:=by omega
  subst ei;rw[drop_length,aq]at eq;rw[<- eq]at q;obtain⟨a0,kb⟩:=qM Y Z k';exact⟨it.stop H' Z.keep,q F H' O' a0 kb⟩
def zT{K:Np}(U:σ.length=n)(Y:Ct K n g tk)(st:aF K B E O H W σ)(Z:evs cal ms W=some vs)(e2:bm k' vs=some xs)
  (q:gL K B E O W σ D ((aq (λx l=>bZ (tk x l) λz=>exs cal body z) xs (br ms W)).back ms W)):DT (tW K cal k' ms) g (tSs K cal body) D σ H:=by
 exact⟨B,E,O,W,vs,xs,st,Z,e2,λJ H1 s1 it=>sD U Y (st.mono s1) it q⟩
def v3{K:Np}(hi:i<n):Ct K n (ji i) (λx W=>some (put W i (.val x))):=by
 intro B E O H W l σ x u Q U st r e q;cases e;obtain⟨z,J⟩:=st.store (i:=i) (by omega) r;exact q _ z J
def Fx(g:Gf X T k cal)(d:Df X)(hi:X.N[i]?=some x)(hx:Loc X.env.scope x)(hw:PI X (.Name x px) it (tW X.K cal J src))(z:fh it=true)(U:PSs X b (tSs X.K cal body)) :
  PS X (.For (.Name x px) it b [] pos) (tS X.K cal (.for1 i J src body)):=by
 refine PS.imp' (tU d.own g.calm hw (l6 d.nd hi hx (.inl (d.fn x))) U (by intro v;cases it<;>first|rfl|(simp[fh]at z))) λD σ H Y q=>?_
 obtain⟨B,E,O,W,st,q⟩:=q;rw[ex]at q;cases e:(evs cal src W).bind (bm J)with
 |none=>rw[e]at q;exact(show False from q).elim
 |some xs =>
  rw[e]at q;simp only[gf]at e;obtain⟨vs,Z,e2⟩:=e;exact zT (tk:=λx W=>some (put W i (.val x))) rfl (v3 (ltN hi Y)) st Z e2 q
def Fy (g:Gf X T k cal) (d:Df X) (hi:X.N[i]?=some x) (hx:Loc X.env.scope x) (Z:glB X.env.scope ("range":Str)=true) (h:PE X e (tX X.K cal y)) (hs:ag e=true) (hb:PSs X b (tSs X.K cal body)) :
  PS X (.For (.Name x px) (.Call (.Name ("range":Str) p) [e] [] rp) b [] pos) (tS X.K cal (.forX i y body)):=by
 refine PS.imp' (tU d.own g.calm (zS g Z h hs) (l6 d.nd hi hx (.inl (d.fn x))) hb (by intro v;rfl)) λD σ H hl q=>?_
 obtain⟨B,E,O,W,st,q⟩:=q;rw[ex]at q;cases z:evX cal y W with
 |none=>rw[z]at q;exact(show False from q).elim
 |some pr =>
  obtain⟨v,l⟩:=pr;rw[z]at q;dsimp only at q;cases U:bm .rng [v]with
  |none=>rw[U]at q;exact(show False from q).elim
  |some xs =>
   rw[U]at q;refine⟨B,E,O,W,v,l,xs,st,z,U,λJ H1 _ Y k1 it=>?_⟩;refine sD (ms:=[.cst v]) (tk:=λx W=>some (put W i (.val x))) rfl (v3 (ltN hi hl)) Y it ?_;have q2:=gL.trans q k1;have back:∀r:R,r.back [.cst v] l=r:=λr=>by cases r<;>rfl
   rw[back];exact q2
end
noncomputable def qN:List Nat->TGs
 | []=>GP
 |i::is=>C5 (ji i) (qN is)
section
variable{X:Cx}{T:Tab}{k:Nat}{cal:Cal}
theorem nG:∀{is}{z},dY X.N X.env.scope is z=true->(assignEach z X.env).length=is.length/\(assignEach z X.env).findIdx? (·.1)=none
 | [],[],_=>⟨rfl,rfl⟩
 | [],_::_,h=>by cases h
 | _::_,[],h=>by cases h
 |i::is,e::z,h=>by
  cases e<;>first|(cases h;done)|skip
  simp only[qw,mu]at h;rename_i x p;obtain⟨h1,h2⟩:=nG h.2;refine⟨?_,?_⟩
  .show((false,assign (.Name x p) X.env)::assignEach z X.env).length=_;simp[h1]
  .show((false,assign (.Name x p) X.env)::assignEach z X.env).findIdx? (·.1)=none;rw[findIdx?_cons];simp[h2]
theorem pL(d:Df X):∀{is}{z},dY X.N X.env.scope is z=true->PGs X z (qN is)
 | [],[],_=>Bi
 | [],_::_,h=>by cases h
 | _::_,[],h=>by cases h
 |i::is,e::z,h=>by
  cases e<;>first|(cases h;done)|skip
  simp[qw,mu]at h;rename_i x p;exact xU (l6 d.nd h.1.1.1 (iR h.1.1.2) (.inl (d.fn x))) (pL d h.2) rfl
theorem sE:∀{is}{J},dY X.N X.env.scope is J=true->∀i∈is,i<X.N.length
 | [],[],_=>λi hi=>by simp at hi
 | [],_::_,h=>by cases h
 | _::_,[],h=>by cases h
 |i::is,e::J,h=>λj z=>by
  cases e<;>first|(cases h;done)|skip
  simp[qw,mu]at h;rcases JY.mp z with rfl|z
  .exact(JZ.mp h.1.1.1).1
  .exact sE h.2 j z
theorem v4{K:Np}:∀{is}{vs}{us}{B}{E O}{H}{W l}{σ}{Q:St->Hp->Prop},(∀i∈is,i<σ.length)->aF K B E O H W σ->Reps K (ay H O) vs us->m_ is vs W=some l ->
  (∀F,aF K B E O H l F->bq B O O W l σ F->Q F H)->qN is us σ H Q
 | [],[],us,_,_,_,_,_,_,_,_,_,st,r,e,q=>by
  subst r;cases e;exact⟨rfl,q _ st .refl⟩
 | [],_::_,_,_,_,_,_,_,_,_,_,_,_,_,e,_=>by simp[m_]at e
 | _::_,[],_,_,_,_,_,_,_,_,_,_,_,_,e,_=>by simp[m_]at e
 |i::is,v::vs,us,B,E,O,H,W,l,σ,Q,hi,st,r,e,q=>by
  obtain⟨u,U,rfl,Y,Z⟩:=r;obtain⟨z,k1⟩:=st.store (i:=i) (hi i (.head _)) Y;refine⟨u,U,rfl,?_⟩;exact v4 (λj hj=>by rw[MJ];exact hi j (.tail _ hj)) z Z e λF J k'=>q F J (k1.trans k')
def Fz{K:Np}(hi:∀i∈is,i<n):Ct K n (GQ K is.length (qN is)) (cE is):=by
 intro B E O H W l σ x u Q J st r e q;cases x with
 |tup vs =>
  obtain⟨a,us,rfl,U,z⟩:=r;have Y:∀{is}{vs}{W l},m_ is vs W=some l->vs.length=is.length:=by
   intro is
   induction is with
   |nil=>intro vs W l h;cases vs<;>simp[m_]at h ⊢
   |cons i is ih=>intro vs W l h;cases vs<;>simp[m_]at h ⊢;exact ih h
  exact⟨a,us,rfl,(bG H O).seqT (eE U),by rw[<- z.length];exact Y e,v4 (λi h=>by rw[J];exact hi i h) st z e q⟩
 | _=>cases e
def FA(g:Gf X T k cal)(d:Df X)(hi:dY X.N X.env.scope is J=true)(hw:PI X (.Tuple J j Y) it (tW X.K cal U src))(z:fh it=true)(Z:PSs X b (tSs X.K cal body)) :
  PS X (.For (.Tuple J j Y) it b [] pos) (tS X.K cal (.forT is U src body)):=by
 obtain⟨h1,h2⟩:=nG hi;refine PS.imp' (tU d.own g.calm hw (DS g.calm (pL d hi) h1 h2) Z (by intro v;cases it<;>first|rfl|(simp[fh]at z))) λD σ H hl q=>?_
 obtain⟨B,E,O,W,st,q⟩:=q;rw[ex]at q;cases e:(evs cal src W).bind (bm U)with
 |none=>rw[e]at q;exact(show False from q).elim
 |some xs =>
  rw[e]at q;simp only[gf]at e;obtain⟨vs,e1,e2⟩:=e;exact zT (tk:=cE is) hl (Fz (sE hi)) st e1 e2 q
def v5(g:Gf X T k cal)(d:Df X)(hi:X.N[i]?=some x)(hx:Loc X.env.scope x)(hc:chk T Z X.N X.env.scope v=true)(hs:pC X.env.scope x px v Z=true):∃t,PS X (.Assign [.Name x px] v pos) (xV t (ji i))/\(∀σ H Q,tF X.K cal Z σ H Q->t σ H Q)/\iQ Z=true:=by
 unfold pC at hs;have hl:=ak hs;obtain⟨c,w,_⟩:=hl;obtain rfl:=uo w;cases Z with
 |comp k' src js cond elt =>
  obtain⟨e,y,py,it,ifs,scope,cpos,e0,h⟩:=k7 hc;rw[e0]at hs ⊢;simp only[mu,J6]at h;obtain⟨⟨⟨⟨h1,h2⟩,h3⟩,h4⟩,h5⟩:=h;have hw:=lc (tg:=.Name y py) (λz=>by cases z) g h2 (λxs Y=>⟨sounds src g Y,bI Y⟩) (λm x hm hx=>match src,hm with|[m'],rfl=>(aw m' g (cb hx).1.1).1);exact⟨_,ue d.nd hi hx (k_ h1) g.calm hw.1 (λJ U C fp=>qI h3 λc hc=>(aw cond (g.blk y _ scope J U C fp) hc).2) (λJ U C fp=>(aw elt (g.blk y _ scope J U C fp) h4).1) (xc d hs) (by have:=hw.2;intro v;cases it<;>first|rfl|(simp[fh]at this)) (.inl (d.fn x)),
   λσ H Q q=>uE.comp_go h5 q,rfl⟩
 | _=>cases (show false=true from hc)
def Ie(U:iQ J=true){K:Np}(q:tE K cal J σ H Q):tF K cal J σ H Q:=by
 obtain⟨B,E,O,W,v,st,z,q⟩:=q;have hv:∃xs,v=.lst xs:=by
  cases J with
  |lst es =>
   rw[ev,gf]at z;obtain⟨vs,_,hv⟩:=z;split at hv
   .cases hv;exact⟨_,rfl⟩
   .cases hv
  |comp _ _ _ _ _=>exact sA W v z
  |blt b es=>cases b<;>first|exact dZ (.inl rfl) W v z|exact dZ (.inr (.inl rfl)) W v z|exact dZ (.inr (.inr (.inl rfl))) W v z|exact dZ (.inr (.inr (.inr (.inl rfl)))) W v z|exact dZ (.inr (.inr (.inr (.inr rfl)))) W v z|(simp[iQ]at U)
  | _=>simp[iQ]at U
 obtain⟨xs,rfl⟩:=hv;exact⟨B,E,O,W,xs,st,z,λp us H' s Y Z r=>q _ _ s (vT st.here Y Z r)⟩
end
section
variable{T:Tab}{N:List Str}{sc:Scope}
def Cu(h:gJ T N sc (.set i e) s=true):∃x px v pos,s=.Assign [.Name x px] v pos/\(N[i]?==some x&&fC sc x&&av x&&chk T e N sc v&&!aM e&&(bV v||pC sc x px v e))=true:=by
 obtain⟨q,z,h1⟩:=ak h;obtain⟨pos,rfl⟩:=i9 z;exact⟨_,_,_,_,rfl,h1⟩
def Cv(h:gJ T N sc (.setOwn i e) s=true):∃x px v pos,s=.Assign [.Name x px] v pos/\(N[i]?==some x&&fC sc x&&av x&&chk T e N sc v&&iQ e&&(bV v||pC sc x px v e))=true:=by
 obtain⟨q,z,h1⟩:=ak h;obtain⟨pos,rfl⟩:=i9 z;exact⟨_,_,_,_,rfl,h1⟩
def uM (h:gJ T N sc (.append i e) s=true):∃x p m ap v cp pos,s=.Expr (.Call (.Attribute (.Name x p) m ap) [v] [] cp) pos/\(aV N sc i x&&m==("append":Str)&&chk T e N sc v&&!aM e&&ag v&&ap.endLine==cp.line)=true:=by
 obtain⟨q,z,h1⟩:=ak h;obtain⟨v,J,h2⟩:=ak h1;obtain⟨p,pos,rfl⟩:=qx z;rw[cN J];exact⟨_,_,_,_,_,_,_,rfl,h2⟩
def uN (h:gJ T N sc (.extend i e) s=true):∃x p m ap v cp pos,s=.Expr (.Call (.Attribute (.Name x p) m ap) [v] [] cp) pos/\(aV N sc i x&&m==("extend":Str)&&chk T e N sc v&&ag v&&ap.endLine==cp.line)=true:=by
 obtain⟨q,z,h1⟩:=ak h;obtain⟨v,J,h2⟩:=ak h1;obtain⟨p,pos,rfl⟩:=qx z;rw[cN J];exact⟨_,_,_,_,_,_,_,rfl,h2⟩
def zU(h:gJ T N sc (.dput i k e) s=true):∃x p s' sp v pos,s=.Assign [.Subscript (.Name x p) s' sp] v pos/\(aV N sc i x&&chk T k N sc s'&&ca s'&&chk T e N sc v&&!aM e&&bV v)=true:=by
 obtain⟨q,z,h1⟩:=ak h;obtain⟨p,sp,pos,rfl⟩:=B5 z;exact⟨_,_,_,_,_,_,rfl,h1⟩
def zV(h:gJ T N sc (.newD m i) s=true):∃x p dp pos,s=.Assign [.Name x p] (.Dict [] [] dp) pos/\(N[i]?==some x&&fC sc x&&av x)=true:=by
 obtain⟨q,z,h1⟩:=ak h;rw[mu]at h1;obtain⟨pos,rfl⟩:=i9 z;obtain⟨p,J⟩:=zn h1.1;rw[J];exact⟨_,_,_,_,rfl,h1.2⟩
def Cw(h:gJ T N sc (.ite c a b) s=true):∃t x y pos,s=.If t x y pos/\(chk T c N sc t&&chkSs T N sc a x&&chkSs T N sc b y)=true:=by
 cases s with
 |If t x y pos=>exact⟨t,x,y,pos,rfl,h⟩
 | _=>cases (show false=true from h)
def zW (h:gJ T N sc (.forX i y body) s=true):∃x px it b pos,s=.For (.Name x px) it b [] pos/\(N[i]?==some x&&fC sc x&&av x&&onQ (fnQ it) (λq=>q.1==("range":Str)&&glB sc q.1&&q.2.2.isEmpty&&dk T y N sc q.2.1&&ag q.2.1)&&chkSs T N sc body b)=true:=by
 rw[B6]at h;split at h
 .exact⟨_,_,_,_,_,rfl,h⟩
 .cases h
def zX(h:gJ T N sc (.for1 i k src body) s=true):∃x px it b pos,s=.For (.Name x px) it b [] pos/\(N[i]?==some x&&fC sc x&&av x&&ng sc false (λxs=>chks T src N sc xs) k it&&chkSs T N sc body b)=true:=by
 simp[B7]at h;split at h<;>first|(cases h;done)|(rename_i z;cases z;exact⟨_,_,_,_,_,rfl,h⟩)|(injections;done)|(injections;subst_vars;exact⟨_,_,_,_,_,rfl,h⟩)
def zY(h:gJ T N sc (.forT is k src body) s=true):∃J j U it b pos,s=.For (.Tuple J j U) it b [] pos/\(dY N sc is J&&ng sc true (λxs=>chks T src N sc xs) k it&&chkSs T N sc body b)=true:=by
 simp[B8]at h;split at h<;>first|(cases h;done)|(rename_i z;cases z;exact⟨_,_,_,_,_,_,rfl,h⟩)|(injections;done)|(injections;subst_vars;exact⟨_,_,_,_,_,_,rfl,h⟩)
def zZ(h:gJ T N sc (.retM e) s=true):∃v pos,s=.Return (some v) pos/\(chk T e N sc v&&!aM e)=true:=by
 obtain⟨v,z,h1⟩:=ak h;obtain⟨pos,rfl⟩:=mi z;exact⟨_,_,rfl,h1⟩
def Cy(h:gJ T N sc (.ret e) s=true):∃v pos,s=.Return (some v) pos/\(chk T e N sc v&&!aM e)=true:=by
 obtain⟨v,z,h1⟩:=ak h;obtain⟨pos,rfl⟩:=mi z;exact⟨_,_,rfl,h1⟩
def uO(h:gJ T N sc (.retOwn i) s=true):∃x p pos,s=.Return (some (.Name x p)) pos/\(aV N sc i x)=true:=by
 obtain⟨v,z,h1⟩:=ak h;obtain⟨x,J,h2⟩:=ak h1;obtain⟨pos,rfl⟩:=mi z;obtain⟨p,rfl⟩:=zm J;exact⟨_,_,_,rfl,h2⟩
end
def xm(g:Gf X T k cal)(d:Df X)(h:gJ T X.N X.env.scope (.set i e) s=true):PS X s (tS X.K cal (.set i e)):=by
 obtain⟨x,px,v,pos,rfl,hc⟩:=Cu h;simp only[mu,Nj,J0,J6]at hc;obtain⟨⟨⟨⟨⟨h1,h2⟩,h3⟩,J⟩,U⟩,z⟩:=hc;rcases z with z|z
 .exact HS d h1 (iR h2) (aw e g J).1 U z
 .obtain⟨t,p,Y,Z⟩:=v5 (pos:=pos) g d h1 (iR h2) J z;exact PS.imp' p λD σ H hl q=>Y _ _ _ (Ie Z (zL (ltN h1 hl) U q))
noncomputable def FB:MS->Bool
 | .freeze _=>true
 | _=>false
mutual
theorem FC{T:Tab}{k:Nat}{cal:Cal}{X:Cx}(g:Gf X T k cal)(d:Df X):∀(m:MS) (s:Stmt),gJ T X.N X.env.scope m s=true->PS X s (tS X.K cal m)
 | .set i e,s,h=>xm g d h
 | .setOwn i e,s,h=>by
  obtain⟨x,px,v,pos,rfl,hc⟩:=Cv h;simp only[mu,Nj,J0]at hc;obtain⟨⟨⟨⟨⟨h1,h2⟩,h3⟩,J⟩,U⟩,h6⟩:=hc;rcases h6 with h6|h6
  .exact HU d h1 (iR h2) (Fj g J U) h6
  .obtain⟨t,p,hp,hf⟩:=v5 (pos:=pos) g d h1 (iR h2) J h6;exact PS.imp' p λD σ H hl q=>hp _ _ _ (zM (ltN h1 hl) q)
 | .append i e,s,h=>by
  obtain⟨x,p,m,ap,v,cp,pos,rfl,hc⟩:=uM h;simp only[mu,J0,J6]at hc;obtain⟨⟨⟨⟨⟨h1,rfl⟩,h3⟩,J⟩,U⟩,h6⟩:=hc;exact zN (aw e g h3).1 h1 J U (J0.mpr h6)
 | .extend i e,s,h=>by
  obtain⟨x,p,m,ap,v,cp,pos,rfl,hc⟩:=uN h;simp only[mu,J0]at hc;obtain⟨⟨⟨⟨h1,rfl⟩,h3⟩,U⟩,h6⟩:=hc;exact zO (aw e g h3).1 h1 U (J0.mpr h6)
 | .setIdx _ _ _,s,h=>absurd (show false=true from h) oe
 | .unpack _ _,s,h=>absurd (show false=true from h) oe
 | .expr _,s,h=>absurd (show false=true from h) oe
 | .ite c a b,s,h=>by
  obtain⟨t,x,y,pos,rfl,hc⟩:=Cw h;simp only[mu]at hc;exact Jx (aw c g hc.1.1).2 (soundSs g d a x hc.1.2) (soundSs g d b y hc.2)
 | .for1 i k' src body,s,h=>by
  obtain⟨x,px,it,b,pos,rfl,hc⟩:=zX h;simp only[mu,J0]at hc;obtain⟨⟨⟨⟨h1,h2⟩,h3⟩,J⟩,U⟩:=hc;have hw:=lc (tg:=.Name x px) (λz=>by cases z) g J (λxs Y=>⟨sounds src g Y,bI Y⟩) (λm x hm hx=>match src,hm with|[m'],rfl=>(aw m' g (by simp only[chks,mu]at hx;exact hx.1.1)).1);exact Fx g d h1 (iR h2) hw.1 hw.2 (soundSs g d body b U)
 | .forT is k' src body,s,h=>by
  obtain⟨ts,j,tp,it,b,pos,rfl,hc⟩:=zY h;simp only[mu]at hc;obtain⟨⟨h1,J⟩,U⟩:=hc;have hw:=lc (tg:=.Tuple ts j tp) (λ_=>⟨_,_,_,rfl⟩) g J (λxs Y=>⟨sounds src g Y,bI Y⟩) (λm x hm hx=>match src,hm with|[m'],rfl=>(aw m' g (by simp only[chks,mu]at hx;exact hx.1.1)).1);exact FA g d h1 hw.1 hw.2 (soundSs g d body b U)
 | .while _ _ _,s,h=>absurd (show false=true from h) oe
 | .ret e,s,h=>by
  obtain⟨v,pos,rfl,hc⟩:=Cy h;simp only[mu,J6]at hc;exact HV (aw e g hc.1).1 hc.2
 | .setP i e,s,h=>by
  obtain⟨q,Z,hc⟩:=ak (show onQ (oS s) (λq=>X.N[i]?==some q.1&&fC X.env.scope q.1&&av q.1&&onQ (EL q.2.2) λr=>r.1==("list":Str)&&r.2.1==("reversed":Str)&&glB X.env.scope r.1&&glB X.env.scope r.2.1&&chk T e X.N X.env.scope r.2.2&&ag r.2.2)=true from h);obtain⟨x,px,v⟩:=q;obtain⟨pos,rfl⟩:=i9 Z;obtain⟨a1,J⟩:=gQ.mp hc;obtain⟨a2,h3⟩:=gQ.mp a1;obtain⟨h1,h2⟩:=gQ.mp a2;obtain⟨r,e2,hr⟩:=ak J;obtain⟨f,f2,w⟩:=r;obtain⟨p,p2,pos2,cp,rfl⟩:=BZ e2;obtain⟨b1,c6⟩:=gQ.mp hr;obtain⟨b2,c5⟩:=gQ.mp b1;obtain⟨b3,c4⟩:=gQ.mp b2;obtain⟨b4,c3⟩:=gQ.mp b3;obtain⟨c1,c2⟩:=gQ.mp b4;obtain rfl:f=("list":Str):=eq_of_beq c1;obtain rfl:f2=("reversed":Str):=eq_of_beq c2;exact Fw g d (eq_of_beq h1) (iR h2) c3 c4 (aw e g c5).1 c6
 | .setX i y,s,h=>by
  obtain⟨q,Z,hc⟩:=ak (show onQ (oS s) (λq=>X.N[i]?==some q.1&&fC X.env.scope q.1&&av q.1&&dk T y X.N X.env.scope q.2.2&&bV q.2.2)=true from h);obtain⟨pos,rfl⟩:=i9 Z;obtain⟨a2,U⟩:=gQ.mp hc;obtain⟨a3,J⟩:=gQ.mp a2;obtain⟨a4,h3⟩:=gQ.mp a3;obtain⟨h1,h2⟩:=gQ.mp a4;exact Ft d (eq_of_beq h1) (iR h2) (eR g y _ J) U
 | .ownX i xs,s,h=>by
  obtain⟨q,Z,hc⟩:=ak (show onQ (oS s) (λq=>onQ (liP q.2.2) λr=>X.N[i]?==some q.1&&fC X.env.scope q.1&&chkXEs T xs X.N X.env.scope r.1)=true from h);obtain⟨pos,rfl⟩:=i9 Z;obtain⟨r,e2,hc⟩:=ak hc;obtain⟨a3,J⟩:=gQ.mp hc;obtain⟨h1,h2⟩:=gQ.mp a3;rw[qt e2];exact Fu d (eq_of_beq h1) (iR h2) (soundXEs g xs _ J)
 | .appX i y,s,h=>by
  obtain⟨q,Z,hc⟩:=ak (show onQ (zl s) (λq=>onQ (jK q.2.2.2.1) λv=>aV X.N X.env.scope i q.1&&q.2.1==("append":Str)&&dk T y X.N X.env.scope v&&ag v&&q.2.2.1.endLine==q.2.2.2.2.line)=true from h);obtain⟨v,e2,hc⟩:=ak hc;obtain⟨x,m,ap,as,cp⟩:=q;obtain⟨p,pos,rfl⟩:=qx Z;have e3:as=[v]:=cN e2;subst e3;obtain⟨a2,U⟩:=gQ.mp hc;obtain⟨a3,J⟩:=gQ.mp a2;obtain⟨a4,h3⟩:=gQ.mp a3;obtain⟨h1,h2⟩:=gQ.mp a4;obtain rfl:m=("append":Str):=eq_of_beq h2;exact Fv (eR g y _ h3) h1 J U
 | .retXE y,s,h=>by
  obtain⟨v,Z,hc⟩:=ak (show onQ (w5 s) (λv=>dk T y X.N X.env.scope v)=true from h);obtain⟨pos,rfl⟩:=mi Z;exact Cr (eR g y _ hc)
 | .forX i y body,s,h=>by
  obtain⟨x,px,it,b,pos,rfl,h⟩:=zW h;obtain⟨a1,U⟩:=gQ.mp h;obtain⟨a2,J⟩:=gQ.mp a1;obtain⟨a3,h3⟩:=gQ.mp a2;obtain⟨h1,h2⟩:=gQ.mp a3;obtain⟨q,Z,hc⟩:=ak J;obtain⟨f,e,es⟩:=q;obtain⟨p,rp,rfl⟩:=uA Z;obtain⟨b1,c5⟩:=gQ.mp hc;obtain⟨b2,c4⟩:=gQ.mp b1;obtain⟨b3,c3⟩:=gQ.mp b2;obtain⟨c1,c2⟩:=gQ.mp b3;obtain rfl:f=("range":Str):=eq_of_beq c1;have e3:es=[]:=Lx.mp c3;subst e3;exact Fy g d (eq_of_beq h1) (iR h2) c2 (eR g y _ c4) c5 (soundSs g d body b U)
 | .retM e,s,h=>by
  obtain⟨v,pos,rfl,hc⟩:=zZ h;simp only[mu,J6]at hc;exact Fm (aw e g hc.1).1 hc.2
 | .retF _,s,h=>absurd (show false=true from h) oe
 | .setCall _ _ _,s,h=>absurd (show false=true from h) oe
 | .clear _,s,h=>absurd (show false=true from h) oe
 | .retOwn i,s,h=>by
  obtain⟨x,p,pos,rfl,hc⟩:=uO h;exact zP hc
 | .retN,s,h=>absurd (show false=true from h) oe
 | .brk,s,h=>absurd (show false=true from h) oe
 | .cont,s,h=>absurd (show false=true from h) oe
 | .pass,s,h=>absurd (show false=true from h) oe
 | .never,s,h=>by
  refine xT.imp λD σ H q=>?_
  obtain⟨B,E,O,W,st,q⟩:=q;rw[ex]at q;exact q
 | .newD m i,s,h=>by
  obtain⟨x,p,dp,pos,rfl,hc⟩:=zV h;simp only[mu,J0]at hc;exact Fk d hc.1.1 (iR hc.1.2)
 | .dput i mk me,s,h=>by
  obtain⟨x,p,s',sp,v,pos,rfl,hc⟩:=zU h;simp only[mu]at hc;exact Fl g (aw mk g hc.1.1.1.1.2).1 (aw me g hc.1.1.2).1 hc.1.1.1.1.1 hc.2
 | .freeze _,s,h=>absurd (show false=true from h) oe
theorem soundSs{T:Tab}{k:Nat}{cal:Cal}{X:Cx}(g:Gf X T k cal)(d:Df X):∀(ms:List MS) (ss:List Stmt),chkSs T X.N X.env.scope ms ss=true->PSs X ss (tSs X.K cal ms)
 | [],ss,h=>by
  cases ss with
  |nil=>exact HW
  |cons _ _=>cases h
 |m::ms,ss,h=>by
  cases hm:FB m with
  |true =>
   cases m<;>simp[FB]at hm
   cases h
  |false =>
   cases ss with
   |nil=>cases m<;>first|(cases h;done)|cases hm
   |cons s ss =>
    have h:(gJ T X.N X.env.scope m s&&chkSs T X.N X.env.scope ms ss)=true:=by cases m<;>first|exact h|(simp[FB]at hm)
    simp only[mu]at h;exact Fn (FC g d m s h.1) (soundSs g d ms ss h.2)
end
structure FnD(K:Np)(x y:Str)(st:Stmt)(fa:Addr)(fd:FuncData):Prop where
 it:∃(c0 d0 k0 o0 m0:Value) (a0:Option Addr) (c1 t1:Value) (a1:Option Addr) (sl:Array (Option Value)),
  K.lookup fa=some ⟨c0,a1,.func fd,sl⟩/\PySem.W.codeIn K c1 y=true/\fd=PySem.W.fnOf x y (jV st) (dU st) (bu st) d0 k0 o0 m0 a0 c1 t1
 kp:PySem.W.keepIn K (.ref fa)=true
theorem FnD.mk'{K:Np}{st:Stmt} 
  (l:K.lookup z=some ⟨Z,a1,.func (PySem.W.fnOf x y (jV st) (dU st) (bu st) d0 U o0 m0 Y J t1),sl⟩) (c:PySem.W.codeIn K J y=true) (k:PySem.W.keepIn K (.ref z)=true) :
  FnD K x y st z (PySem.W.fnOf x y (jV st) (dU st) (bu st) d0 U o0 m0 Y J t1):=⟨⟨_,_,_,_,_,_,_,_,_,_,l,c,rfl⟩,k⟩
theorem FnD.mkd{K:Np}{st:Stmt} 
  (l:K.lookup z=some ⟨Z,a1,.func (PySem.W.fnOf x y (jV st) (dU st) (bu st) (.ref T) U o0 m0 Y J t1),sl⟩) (c:PySem.W.codeIn K J y=true) (k:PySem.W.keepIn K (.ref z)=true) :
  FnD K x y st z (PySem.W.fnOf x y (jV st) (dU st) (bu st) (.ref T) U o0 m0 Y J t1):=.mk' l c k
structure sH(T:Tab)(K:Np)(mg:Str->Option Value)(st:Stmt)(d:MD)(fa:Addr)(fd:FuncData):Prop where
 fn:FnD K d.name d.name st fa fd
 binds:dh K fd d.params []
 named:mg d.name=some (.ref fa)
 scope:qa d.names d.params (bu st)
 body:chkSs T d.names (bu st) d.body (dU st)=true
def da{α:Type}{n:Nat}:∀{us:List α},us.length=n+1->∃a t,us=a::t/\t.length=n
 | _::_,h=>⟨_,_,rfl,Nat.succ.inj h⟩
def bn1{K:Np}{fd:FuncData}{z:Str}(h:∀a,bindArgs fd ⟨[a],[]⟩=pure [(z,a)]):dh K fd [z] []:=.all λus J=>by
 obtain⟨a,U,rfl,h1⟩:=da J;obtain rfl:=KI.mp h1;exact h a
def bn2{K:Np}{fd:FuncData}{z J:Str}(h:∀a b,bindArgs fd ⟨[a,b],[]⟩=pure [(z,a),(J,b)]):dh K fd [z,J] []:=.all λus U=>by
 obtain⟨a,Y,rfl,h1⟩:=da U;obtain⟨b,Z,rfl,h2⟩:=da h1;obtain rfl:=KI.mp h2;exact h a b
def bn3{K:Np}{fd:FuncData}{z J U:Str}(h:∀a b c,bindArgs fd ⟨[a,b,c],[]⟩=pure [(z,a),(J,b),(U,c)]):dh K fd [z,J,U] []:=.all λus Y=>by
 obtain⟨a,u1,rfl,h1⟩:=da Y;obtain⟨b,u2,rfl,h2⟩:=da h1;obtain⟨c,u3,rfl,Z⟩:=da h2;obtain rfl:=KI.mp Z;exact h a b c
def bn4{K:Np}{fd:FuncData}{z J U Y:Str}(h:∀a b c d,bindArgs fd ⟨[a,b,c,d],[]⟩=pure [(z,a),(J,b),(U,c),(Y,d)]):dh K fd [z,J,U,Y] []:=.all λus Z=>by
 obtain⟨a,u1,rfl,h1⟩:=da Z;obtain⟨b,u2,rfl,h2⟩:=da h1;obtain⟨c,u3,rfl,h3⟩:=da h2;obtain⟨d,u4,rfl,h4⟩:=da h3;obtain rfl:=KI.mp h4;exact h a b c d
def bn5{K:Np}{fd:FuncData}{z J U Y Z:Str}(h:∀a b c d e,bindArgs fd ⟨[a,b,c,d,e],[]⟩=pure [(z,a),(J,b),(U,c),(Y,d),(Z,e)]):dh K fd [z,J,U,Y,Z] []:=.all λus h0=>by
 obtain⟨a,u1,rfl,h1⟩:=da h0;obtain⟨b,u2,rfl,h2⟩:=da h1;obtain⟨c,u3,rfl,h3⟩:=da h2;obtain⟨d,u4,rfl,h4⟩:=da h3;obtain⟨e,u5,rfl,h5⟩:=da h4;obtain rfl:=KI.mp h5;exact h a b c d e
def uP{K:Np}(hd:fd.defaults=.ref T)(l:K.lookup T=some ⟨c,o,.seq vs n,J⟩)
  (h:∀us,us.length=ps.length->∃k,bindArgs fd ⟨us,[]⟩=seqItems? fd.defaults >>= k/\k (some vs)=pure (ps.zip us)):dh K fd ps []:=λs us X z=>by
 rw[La]at z ⊢;obtain⟨k,h1,h2⟩:=h us z;exact .of_defaults hd (X _ _ l) rfl h1 h2
def HD(K:Np)(x:Str)(st:Stmt)(d:MD)(q:FuncData->Prop:=λ_=>True):Prop:=d.name=x/\∃z fd,PySem.W.nsIn K mainGlobals x=some (some (.ref z))/\FnD K x x st z fd/\dh K fd d.params []/\q fd
noncomputable def okD(T:Tab)(st:Stmt)(d:MD):Bool:=
 decide ((bu st).kind=.function/\(bu st).isCoroutine=false/\(bu st).isGenerator=false/\d.names.Nodup/\d.names.take d.params.length=d.params/\(∀x∈d.params,(bu st).names.lookup x=some .local\/(bu st).names.lookup x=some .cell)/\∀y∈(bu st).names,y.2≠.free)
 &&chkSs T d.names (bu st) d.body (dU st)
def z5{K:Np}{st:Stmt}(X:K.In h)(G:h.Ns mainGlobals mg)(hd:HD K x st d q)(J:okD T st d=true):∃U fd,sH T K mg st d U fd/\q fd:=by
 refine aE λZq Y=>?_
 obtain⟨e,_,_,n,f,b,z⟩:=hd;obtain⟨Z,c2⟩:=gQ.mp J;obtain⟨s1,s2,s3,s4,s5,s6,s7⟩:=Kz Z;subst e;refine Y ?_;exact⟨_,_,⟨f,b,PySem.W.mg_of X G n,⟨s1,s2,s3,s4,s5,s6,s7⟩,c2⟩,z⟩
def xn(T:Tab)(K:Np)(mg:Str->Option Value):List MD->List (List Sc)->Prop
 | [],[]=>True
 |d::ds,l::ls=>(∃st z fd,sH T K mg st d z fd/\∃vs,dh K fd d.params vs/\aL (l.map Sc.v) vs)/\xn T K mg ds ls
 | _,_=>False
theorem xn.get{K:Np} :∀{ds}{J}{f:Nat}{d},xn T K mg ds J->ds[f]?=some d->∃l st z fd,J[f]?=some l/\sH T K mg st d z fd/\∃vs,dh K fd d.params vs/\aL (l.map Sc.v) vs
 | [],_,f,d,_,e=>by simp at e
 | _::_,[],f,d,h,e=>h.elim
 |d0::ds,l::J,0,d,h,e=>by
  cases e;obtain⟨⟨st,z,fd,r⟩,_⟩:=h;exact⟨l,st,z,fd,rfl,r⟩
 |d0::ds,l::J,f+1,d,h,e=>by
  obtain⟨k,st,z,fd,q,r⟩:=xn.get h.2 (show ds[f]?=some d from by simpa using e);exact⟨k,st,z,fd,by simpa using q,r⟩
def HQ(K:Np)(d:MD)(fd:FuncData):List Sc->Prop
 | []=>True
 |l=>∃vs,dh K fd d.params vs/\aL (l.map Sc.v) vs
inductive uQ(K:Np)(tp:Nat->Stmt):List MD->List Nat->List (List Sc)->Prop
 | nil:uQ K tp [] [] []
 |cons {d:MD}{ds:List MD}{i:Nat}{is:List Nat}{l:List Sc}{ls:List (List Sc)}:HD K d.name (tp i) d (λfd=>HQ K d fd l)->uQ K tp ds is ls->uQ K tp (d::ds) (i::is) (l::ls)
noncomputable def Ig(T:Tab)(z:Nat->Stmt):List MD->List Nat->Bool
 |d::ds,i::is=>okD T (z i) d&&Ig T z ds is
 | _,_=>true
def FD{T:Tab}{K:Np}{mg:Str->Option Value}{h:Heap}{J:Nat->Stmt}{ds:List MD}{is:List Nat}{z:List (List Sc)}(X:K.In h)(G:h.Ns mainGlobals mg)(a:uQ K J ds is z)(U:Ig T J ds is=true):xn T K mg ds z:=by
 induction a with
 |nil=>trivial
 | @cons d ds i is l z hd _ ih =>
  obtain⟨Y,Z⟩:=gQ.mp U;obtain⟨fa,fd,D,q⟩:=z5 X G hd Y;refine⟨⟨_,fa,fd,D,?_⟩,ih Z⟩;cases l with
  |nil=>exact⟨_,D.binds,.nil⟩
  |cons _ _=>exact q
structure FE(T:Tab)(K:Np)(mg:Str->Option Value)(ds:List MD)
 :Prop where
 tab:T.fs=ds.map (·.name)
 defs:xn T K mg ds T.ds
 blt:∀x∈kh,mg (x:Str)=none
 gs:∀p∈T.gs,∃u,mg p.1=some u/\aI (toV p.2) u
def nH(hd:ds[f]?=some d)(h:aa ds (n+1) f args=some r):args.length=d.params.length /\
  ((∃W,exs (aa ds n) d.body (args.map some++replicate (d.names.length-args.length) none)=.next W/\r=.non)\/exs (aa ds n) d.body (args.map some++replicate (d.names.length-args.length) none)=.ret r \/
   ∃xs,exs (aa ds n) d.body (args.map some++replicate (d.names.length-args.length) none)=.retF xs/\r=.lst xs):=by
 rw[aa,hd]at h;dsimp only at h;by_cases z:args.length=d.params.length
 .rw[if_pos z]at h;refine⟨z,?_⟩;cases he:exs _ d.body _<;>simp_all
 .simp_all
def lH(U:f<1000)(J:ds[f+1000]?=none)(hd:ds[f]?=some d)(h:aa ds (n+1) (f+1000) args=some r):args.length=d.params.length /\
  ∃xs,exs (aa ds n) d.body (args.map some++replicate (d.names.length-args.length) none)=.retF xs/\r=.lst xs:=by
 rw[aa,J]at h;dsimp only at h;rw[if_neg (by omega),KU,hd]at h;dsimp only at h;by_cases z:args.length=d.params.length
 .rw[if_pos z]at h;refine⟨z,?_⟩;cases he:exs (aa ds n) d.body (args.map some++replicate _ none)<;>simp_all
 .simp_all
def pM(Z:f<1000)(J:ds[f+2000]?=none)(hd:ds[f]?=some d)(h:aa ds (n+1) (f+2000) args=some r):args.length=d.params.length /\
  ∃v W ms,exs (aa ds n) d.body (args.map some++replicate (d.names.length-args.length) none)=.retM v W/\eC args W=some ms/\r=.tup (v::ms):=by
 rw[aa,J]at h;dsimp only at h;rw[if_pos (by omega)]at h;rw[KU,hd]at h;dsimp only at h;by_cases z:args.length=d.params.length
 .rw[if_pos z]at h;refine⟨z,?_⟩;cases he:exs (aa ds n) d.body (args.map some++replicate (d.names.length-args.length) none)with
  |retM v W =>
   rw[he]at h;dsimp only at h;rw[pe]at h;obtain⟨ms,U,Y⟩:=h;exact⟨v,W,ms,rfl,U,Y.symm⟩
  | _=>rw[he]at h;cases h
 .simp_all
def lh{K:Np}(h:cF K O H args vs ds ms):∀(i:Nat) d a,args[i]?=some (.mutD d)->vs[i]?=some (.ref a)->a∈ms:=by
 induction h with
 |nil=>intro i d a e;simp at e
 |mutd h U t ih =>
  intro i d a z J;cases i with
  |zero=>simp at J;subst J;exact .head _
  |succ i=>exact .tail _ (ih i d a (by simpa using z) (by simpa using J))
 |other hm t ih =>
  intro i d a z J;cases i with
  |zero=>simp at z;exact absurd z (hm d)
  |succ i=>exact ih i d a (by simpa using z) (by simpa using J)
def sI{K:Np}(h:cF K O H args vs ds ms):∀(i j:Nat) d d' a,i≠j->args[i]?=some (.mutD d)->args[j]?=some (.mutD d')->vs[i]?=some (.ref a)->vs[j]?≠some (.ref a):=by
 induction h with
 |nil=>intro i j d d' a _ e;simp at e
 |mutd h hn t ih =>
  intro i j d d' a Z z J U Y;cases i with
  |zero =>
   cases j with
   |zero=>exact Z rfl
   |succ j =>
    simp at U;subst U;exact hn (lh t j d' _ (by simpa using J) (by simpa using Y))
  |succ i =>
   cases j with
   |zero =>
    simp at Y;subst Y;exact hn (lh t i d _ (by simpa using z) (by simpa using U))
   |succ j=>exact ih i j d d' a (by omega) (by simpa using z) (by simpa using J) (by simpa using U) (by simpa using Y)
 |other hm t ih =>
  intro i j d d' a Z z J U Y;cases i with
  |zero=>simp at z;exact hm d z
  |succ i =>
   cases j with
   |zero=>simp at J;exact hm d' J
   |succ j=>exact ih i j d d' a (by omega) (by simpa using z) (by simpa using J) (by simpa using U) (by simpa using Y)
def uR{K:Np}(h:cF K O H args vs ds ms):∀{W}{z},eC args W=some z->∀a∈ms,∃(i:Nat) (d:DD),vs[i]?=some (.ref a)/\W[i]?=some (some (.mutD d)):=by
 induction h with
 |nil=>intro W z _ a U;cases U
 |mutd h hn t ih =>
  intro W z e b J
  match W,e with
  |some (.mutD d')::W,e =>
   rw[eC,pe]at e;obtain⟨Y,Z,rfl⟩:=e;rcases JY.mp J with rfl|J
   .exact⟨0,d',rfl,rfl⟩
   .obtain⟨i,d,h1,h2⟩:=ih Z b J;exact⟨i+1,d,by simpa using h1,by simpa using h2⟩
 |other hm t ih =>
  intro W z e b J;rename_i m v as vs ds ms
  match m,W,e,hm with
  | .val _,r::W,e,hm =>
   obtain⟨i,d,h1,h2⟩:=ih e b J;exact⟨i+1,d,by simpa using h1,by simpa using h2⟩
  | .mutD d,_,_,hm=>exact absurd rfl (hm d)
def xo{K:Np}(h:cF K O H args vs ds ms):∀{W}{z},eC args W=some z->(∀(i:Nat) d d' a,args[i]?=some (.mutD d)->W[i]?=some (some (.mutD d'))->vs[i]?=some (.ref a)->DAt K H' O' a d')->cF K O' H' args vs z ms:=by
 induction h with
 |nil=>intro W z e _;rw[eC]at e;cases e;exact .nil
 |mutd h hn t ih =>
  intro W z e J
  match W,e with
  |some (.mutD d')::W,e =>
   rw[eC,pe]at e;obtain⟨a1,e0,rfl⟩:=e;exact .mutd (J 0 _ d' _ rfl rfl rfl) hn (ih e0 λi d U a Y Z e3=>J (i+1) d U a (by simpa using Y) (by simpa using Z) (by simpa using e3))
 |other hm t ih =>
  intro W z e J;rename_i m v as vs ds ms
  match m,W,e,hm with
  | .val _,r::W,e,hm =>
   exact .other hm (ih e λi d U a Y Z e3=>J (i+1) d U a (by simpa using Y) (by simpa using Z) (by simpa using e3))
  | .mutD d,_,_,hm=>exact absurd rfl (hm d)
theorem jO :∀{xs}{ys}{i:Nat}{x},Paired F xs ys->xs[i]?=some x->∃y,ys[i]?=some y/\F x y
 | _,_,_,_,.nil,e=>by simp at e
 | _,_,0,_,.cons r _,e=>by simp at e;subst e;exact⟨_,rfl,r⟩
 | _,_,i+1,x,.cons _ t,e=>by
  obtain⟨u,h1,h2⟩:=jO (i:=i) (x:=x) t (by simpa using e);exact⟨u,by simpa using h1,h2⟩
def sJ{K:Np}(U:∀a∈O,H a≠none)(h:Paired (lE K O H) args vs):aF K H O O H (args.map some++replicate (N.length-args.length) none) (eJ N vs):=by
 have Y:=Paired.length h;have get:∀i m,(args.map some++replicate (N.length-args.length) none)[i]?=some (some m)->∃u,(eJ N vs)[i]?=some (some u)/\lE K O H m u:=λi m e=>by
  by_cases hi:i<args.length
  .rw[K0 (by simpa using hi),J9]at e;cases J:args[i]? with
   |none=>rw[J]at e;cases e
   |some m' =>
    rw[J]at e;cases e;obtain⟨u,z,q⟩:=jO h J;refine⟨u,?_,q⟩;unfold L2.eJ;rw[K0 (by rw[pd,<- Y];exact hi),J9,z]
    rfl
  .rw[Lo (by simpa using hi),Me]at e;split at e<;>cases e
 refine⟨ai.refl H,U,λa Z=>Z,U,by unfold L2.eJ;simp[Y],λi m e=>?_,λi j xs ys a _ e _ ox _=>?_
  ⟩
 .obtain⟨u,z,q⟩:=get i m e;refine⟨u,z,?_⟩;cases m<;>first|exact q|exact q.elim
 .obtain⟨u,z,q⟩:=get i _ e;cases xs<;>first|exact q.elim|cases ox
def lj(h:Paired F args vs):∀(i:Nat) m,(args.map some++replicate (N.length-args.length) none)[i]?=some (some m)->args[i]?=some m/\∃u,vs[i]?=some u/\(eJ N vs)[i]?=some (some u)/\F m u:=λi m e=>by
 have U:=Paired.length h;by_cases hi:i<args.length
 .rw[K0 (by simpa using hi),J9]at e;cases z:args[i]? with
  |none=>rw[z]at e;cases e
  |some Y =>
   rw[z]at e;cases e;obtain⟨u,J,q⟩:=jO h z;refine⟨rfl,u,J,?_,q⟩;unfold L2.eJ;rw[K0 (by rw[pd,<- U];exact hi),J9,J]
   rfl
 .rw[Lo (by simpa using hi),Me]at e;split at e<;>cases e
def xp{K:Np}(hO:∀a∈O,H a≠none)(h:Paired (EX K O H) args vs)(hm:cF K O H args vs ds ms):aF K (jq H ms) (O.filter λb=>decide (b∉ms)) O H (args.map some++replicate (N.length-args.length) none) (eJ N vs):=by
 have hl:=Paired.length h;have le:ai (jq H ms) H:=λb u e=>by
  unfold jq at e;split at e
  .cases e
  .exact e
 refine⟨le,hO,λa z=>(KJ.mp z).1,λa z=>?_,by unfold L2.eJ;simp[hl],λi m e=>?_,λi j x y a J e1 e2 ox oy s1 s2=>?_
  ⟩
 .obtain⟨h1,h2⟩:=KJ.mp z;unfold jq;rw[if_neg (Kz h2)];exact hO a h1
 .obtain⟨U,u,Y,Z,q⟩:=lj h i m e;refine⟨u,Z,?_⟩;cases m with
  |val v=>exact q
  |mutD d =>
   obtain⟨a,rfl,h1,h2⟩:=q;refine⟨a,rfl,h1,h2,?_⟩;unfold jq;rw[if_pos (lh hm i d a U Y)]
  | _=>exact q.elim
 .obtain⟨U,u,ao,Z,q⟩:=lj h i x e1;obtain⟨eb,w,aO,ew,q'⟩:=lj h j y e2;rw[Z]at s1;cases s1;rw[ew]at s2;cases s2;cases x with
  |val _=>cases ox
  |mutD d =>
   cases y with
   |val _=>cases oy
   |mutD d'=>exact sI hm i j d d' a J U eb ao aO
   | _=>exact q'.elim
  | _=>exact q.elim
section
variable{T:Tab}{P:Program}{w:World}{K:Np}{mg:Str->Option Value}{base:Heap}{ds:List MD}
structure Ih(T:Tab)(P:Program)(w:World)(K:Np)(mg:Str->Option Value)(base:Heap)(ds:List MD)(n g:Nat)(fa:Addr)(fd:FuncData)(ps:List Str):Prop where
 m:jC P w K mg base CX0 n fa fd ps (spM K (aa ds n) g)
 f:jC P w K mg base CX0 n fa fd ps (spF K (aa ds n) g)
 d:jC P w K mg base CX0 n fa fd ps (spD K (aa ds n) g)
theorem my(ao:ds.length<=1000)
  (pr:FE T K mg ds)
 :∀n f d,ds[f]?=some d->∀st fa fd,sH T K mg st d fa fd->Ih T P w K mg base ds n f fa fd d.params
 |0,f,d,hd,st,fa,fd,D=>{
   m:=⟨λvs H Q E h=>(by obtain⟨O,args,r,_,_,e,_⟩:=h;exact absurd e (by simp[aa])),λA outer s H args us vs Q E _ _ _ _ h=>(by obtain⟨O,args,r,_,_,e,_⟩:=h;exact absurd e (by simp[aa]))⟩
   f:=⟨λvs H Q E h=>(by obtain⟨O,args,r,_,_,e,_⟩:=h;exact absurd e (by simp[aa])),λA outer s H args us vs Q E _ _ _ _ h=>(by obtain⟨O,args,r,_,_,e,_⟩:=h;exact absurd e (by simp[aa]))⟩
   d:=⟨λvs H Q E h=>(by obtain⟨O,args,v,ds,Y,ms,_,_,_,e,_⟩:=h;exact absurd e (by simp[aa])),λA outer s H args us vs Q E _ _ _ _ h=>(by obtain⟨O,args,v,ds,Y,ms,_,_,_,e,_⟩:=h;exact absurd e (by simp[aa]))⟩
   }
 |n+1,f,d,hd,st,fa,fd,D=>by
  refine aE λZq kq=>?_
  obtain⟨c0,d0,k0,o0,m0,a0,a9,t1,a1,sl,lk,hc,rfl⟩:=D.fn.it;have hf:=JX (JZ.mp hd).1 ao;have hn:ds[f+1000]?=none:=Ng (by omega);have b4:ds[f+2000]?=none:=Ng (by omega);have gg:∀{CX}{A}{outer}{s}{H}{E},_->Gf (rq CX P w K mg base d.names d.name (bu st) fa a9 A outer s H E).nox T n (aa ds n):=λ{CX A outer s H E} hr=>{
   calm:=rfl
   room:=hr
   fns:=λf' x hx=>by
    rw[pr.tab,J9]at hx;cases hd2:ds[f']? with
    |none=>rw[hd2]at hx;cases hx
    |some d2 =>
     rw[hd2]at hx;cases hx;obtain⟨l2,a3,J,U,el,D2,bd⟩:=pr.defs.get hd2;exact⟨J,U,d2.params,D2.named,D2.fn.kp,D2.binds,(my ao pr n f' d2 hd2 a3 J U D2).m,λl hl=>by rw[el]at hl;cases hl;exact bd⟩
   blt:=pr.blt
   gs:=pr.gs
   fnsF:=λf' x hx=>by
    rw[pr.tab,J9]at hx;cases hd2:ds[f']? with
    |none=>rw[hd2]at hx;cases hx
    |some d2 =>
     rw[hd2]at hx;cases hx;obtain⟨l2,a3,J,U,el,D2,bd⟩:=pr.defs.get hd2;exact⟨J,U,d2.params,D2.named,D2.fn.kp,D2.binds,(my ao pr n f' d2 hd2 a3 J U D2).f⟩
   fnsD:=λf' x hx=>by
    rw[pr.tab,J9]at hx;cases hd2:ds[f']? with
    |none=>rw[hd2]at hx;cases hx
    |some d2 =>
     rw[hd2]at hx;cases hx;obtain⟨l2,a3,J,U,el,D2,bd⟩:=pr.defs.get hd2;exact⟨J,U,d2.params,D2.named,D2.fn.kp,D2.binds,(my ao pr n f' d2 hd2 a3 J U D2).d⟩
   }
  have df:∀{CX}{A}{outer}{s}{H}{E},Df (rq CX P w K mg base d.names d.name (bu st) fa a9 A outer s H E).nox:=λ{CX A outer s H E}=>⟨D.scope.nd,λ_=>rfl,PassesOwn.never,by
    have hk:(rq CX P w K mg base d.names d.name (bu st) fa a9 A outer s H E).nox.env.scope.kind=.function:=D.scope.kind;unfold Env.blockKind;rw[hk]
    rfl
    ⟩
  refine kq ?_;refine {
   m:=?_
   f:=?_
   d:=?_
   }
  .refine x_ lk hc D.scope (λvs H Q E h=>?_) (λA outer s H vs Q E hr h=>?_)
   .obtain⟨O,args,r,_,hp,e,_⟩:=h;rw[<- (nH hd e).1];exact(Paired.length hp).symm
   .obtain⟨O,args,r,hO,hp,e,q⟩:=h;obtain⟨hl,c2⟩:=nH hd e;refine⟨_,(soundSs (gg hr) df d.body (dU st) D.body).nox,H,O,O,_,sJ hO hp,?_⟩;rcases c2 with⟨W,he,rfl⟩|he|⟨xs,he,rfl⟩
    .rw[he];exact λF H' O' Z _=>q _ H' Z.keep (qA _)
    .rw[he];exact λu H' s' r'=>q u H' s' r'
    .rw[he];refine λp us H' s' b2 b3 r'=>q _ H' s' ?_
     rw[Rep];refine⟨p,us,rfl,SqL.of ?_,Reps.mono ic _ r'⟩;rw[bh λz=>hO p z b2];exact b3
  .refine x_ lk hc D.scope (λvs H Q E h=>?_) (λA outer s H vs Q E hr h=>?_)
   .obtain⟨O,args,r,_,hp,e,_⟩:=h;rw[<- (lH hf hn hd e).1];exact(Paired.length hp).symm
   .obtain⟨O,args,xs,hO,hp,e,q⟩:=h;obtain⟨hl,ys,he,ey⟩:=lH hf hn hd e;cases ey;refine⟨_,(soundSs (gg hr) df d.body (dU st) D.body).nox,H,O,O,_,sJ hO hp,?_⟩;rw[he];exact λp us H' s' b2 b3 r'=>q p us H' s' b2 b3 r'
  .refine x_ lk hc D.scope (λvs H Q E h=>?_) (λA outer s H vs Q E hr h=>?_)
   .obtain⟨O,args,v,es,Y,ms,_,hp,_,e,_⟩:=h;rw[<- (pM hf b4 hd e).1];exact(Paired.length hp).symm
   .refine aE λZq kq=>?_
    obtain⟨O,args,v,es,Y,ms,hO,hp,hm,e,q⟩:=h;obtain⟨hl,v',W,d3,he,ck,ey⟩:=pM hf b4 hd e;cases ey;refine kq ?_;refine⟨_,(soundSs (gg hr) df d.body (dU st) D.body).nox,jq H ms,_,O,_,xp hO hp hm,?_⟩;rw[he];have key:∀{F}{H'}{O'},aF K (jq H ms) (O.filter λb=>decide (b∉ms)) O' H' W F->bq (jq H ms) O O' (args.map some++replicate (d.names.length-args.length) none) W (eJ d.names vs) F->∀(i:Nat) d' a,W[i]?=some (some (.mutD d'))->vs[i]?=some (.ref a)->DAt K H' O' a d'/\a∈O':=λ{F H' O'} Z k' i d' a e2 e3=>by
     obtain⟨_,c5⟩:=k'.mutK i d' e2;obtain⟨u,eu,a',rfl,h1,h2,_⟩:=Z.slot i _ e2;have ei:(eJ d.names vs)[i]?=some (some (.ref a)):=by
      have hi:=(JZ.mp e3).1;unfold L2.eJ;rw[K0 (by simpa using hi),J9,e3]
      rfl
     rw[c5,ei]at eu;cases eu;exact⟨h1,h2⟩
    refine λu F H' O' Z k' ru=>?_
    have vw:=bR (ai.refl H') λb hb=>.inl (by
     by_cases z:b∈ms
     .obtain⟨i,d',h1,h2⟩:=uR hm ck b z;exact(key Z k' i d' b h2 h1).2
     .refine k'.stay b ?_ hb;unfold jq;rw[if_neg z];exact hO b hb)
    refine q u H' (λb o hb eb=>Z.keep b o ?_) (xo hm ck λi d1 d' a e1 e2 e3=>(key Z k' i d' a e2 e3).1.move (λ_ z=>z) vw) (Rep.mono vw _ ru);unfold jq;rw[if_neg hb];exact eb
def Ii(z:ds.length<=1000)
  (U:FE T K mg ds)
  (n f) (d) (hd:ds[f]?=some d) (st) (J) (fd) (D:sH T K mg st d J fd):jC P w K mg base CX0 n J fd d.params (spM K (aa ds n) f):=(my z U n f d hd st J fd D).m
end
def FF{K:Np}{ns:List Int}(h:aa ds n li [.brw (ns.map .int)]=some (.bl true))(J:SqL K H a (ns.map V.int)):spM K (aa ds n) li [.ref a] H (λv _=>v=.bl true) λ_ _ _=>False:=
 ⟨[],[.brw (ns.map .int)],.bl true,λ_ z=>by simp at z,.cons ⟨a,_,rfl,J,.of_ints ns⟩ .nil,h,λu H' _ r=>by rw[Rep]at r;exact r⟩
end MM
namespace MM
open PySem List Option
noncomputable abbrev ofS(z:List Int):PV:=.tup (z.map .int)
noncomputable abbrev ofR(R:List (List Int)):PV:=.tup (R.map ofS)
noncomputable abbrev ofL(ns:List Int):PV:=.lst (ns.map .int)
theorem bt:∀ns,bf (ns.map .int)=some ns
 | []=>rfl
 |n::ns=>by simp[bf,bt ns]
theorem pN:∀R,gz (R.map ofS)=some R
 | []=>rfl
 |t::R=>by simp[gz,bt,pN R]
theorem dQ:∀ns,cU (ns.map .bl)=some ns
 | []=>rfl
 |n::ns=>by simp[cU,dQ ns]
def pO(h:ns.length<64):iN (ns.map .int)=some (ofL (sortI ns)):=by
 unfold iN;rw[if_pos (by simpa using h),bt]
def dR{R:List (List Int)}(h:R.length<64):iN (R.map ofS)=some (.lst ((sortT R).map ofS)):=by
 unfold iN;rw[if_pos (by simpa using h)];cases R with
 |nil=>rfl
 |cons t R =>
  have:bf ((t::R).map ofS)=none:=rfl;rw[this];simp only[pN,map_some]
theorem cn{α:Type}{g:α->PV}{c:PV->Option Bool}{f:PV->Option PV}{p:α->Bool}{h:α->PV}:∀{xs:List α},(∀x∈xs,c (g x)=some (p x))->(∀x∈xs,p x=true->f (g x)=some (h x))->fZ c f (xs.map g)=some ((xs.filter p).map h)
 | [],_,_=>rfl
 |x::xs,hc,hf=>by
  rw[JW,fZ,hc x (.head _),bind_some];have ih:=cn (xs:=xs) (λy z=>hc y (.tail _ z)) (λy z=>hf y (.tail _ z));cases J:p x<;>simp_all
def ie{α:Type}{g:α->PV}{c:PV->Option Bool}{f:PV->Option PV}{h:α->PV}{xs:List α}(hc:∀x∈xs,c (g x)=some true)(z:∀x∈xs,f (g x)=some (h x)):fZ c f (xs.map g)=some (xs.map h):=by
 rw[cn hc (λx hx _=>z x hx),Mk.mpr λ_ _=>rfl]
def FG(a b)(z:List Int):((b==a)||decide (a∈z))=decide (a=b\/a∈z):=by grind
def FH(a b)(z:List (List Int)):(decide (b=a)||decide (a∈z))=decide (a=b\/a∈z):=by grind
@[simp] theorem jc(n)(i j):eqF n (.int i) (.int j)=some (i==j):=by cases n<;>rfl
theorem aU(h:Int):∀z:List Int,isIn (.int h) (z.map .int)=some (decide (h∈z))
 | []=>rfl
 |t::z=>by
  have ih:=aU h z;unfold isIn at ih ⊢;rw[JW,inL,ih];simp only[jc,bind_some,map_some,JY,FG]
theorem nI(n:Nat):∀a b:List Int,eqL (eqF n) (a.map .int) (b.map .int)=some (decide (a=b))
 | [],[]=>rfl
 | [],_::_=>rfl
 | _::_,[]=>rfl
 |x::a,y::b=>by
  rw[JW,JW,eqL,nI n a b];simp only[jc,bind_some,map_some,Ma]
  congr 1
  rw[Kv];simp
def Dq(n:Nat)(a b:List Int):eqF (n+1) (ofS a) (ofS b)=some (decide (a=b)):=nI n a b
def Ij(n:Nat)(a b:List Int):eqF (n+1) (ofL a) (ofL b)=some (decide (a=b)):=by
 show(if (a.map PV.int).length=(b.map PV.int).length then eqL (eqF n) (a.map .int) (b.map .int)else some false)=_;rw[nI];split
 .rfl
 .rename_i h
  congr 1
  exact(J5 λe=>h (by rw[e])).symm
theorem Dr(n:Nat):∀a b:List (List Int),eqL (eqF (n+1)) (a.map ofS) (b.map ofS)=some (decide (a=b))
 | [],[]=>rfl
 | [],_::_=>rfl
 | _::_,[]=>rfl
 |x::a,y::b=>by
  rw[JW,JW,eqL,Dr n a b,Dq];simp only[bind_some,map_some,Ma]
  congr 1
  rw[Kv];simp
def Ik(n:Nat)(a b:List (List Int)):eqF (n+2) (ofR a) (ofR b)=some (decide (a=b)):=Dr n a b
theorem nJ(h):∀z:List (List Int),isIn (ofS h) (z.map ofS)=some (decide (h∈z))
 | []=>rfl
 |t::z=>by
  have ih:=nJ h z;unfold isIn at ih ⊢;rw[JW,inL,ih,Dq 99];simp only[bind_some,map_some,JY,FH]
noncomputable def aS:R->Option PV
 | .next _=>some .non
 | .ret v=>some v
 | .retF xs=>some (.lst xs)
 | _=>none
def ac(hd:ds[f]?=some d)(z:args.length=d.params.length):aa ds (n+1) f args=aS (exs (aa ds n) d.body (args.map some++replicate (d.names.length-args.length) none)):=by
 rw[aa,hd];simp[z]
 rfl
noncomputable def sK(args:List MV):R->Option PV
 | .retM v W=>(eC args W).map λds=>.tup (v::ds)
 | _=>none
def gN(z:ds[f+2000]?=none)(hd:ds[f]?=some d)(J:args.length=d.params.length)
 :aa ds (n+1) (f+2000) args=sK args (exs (aa ds n) d.body (args.map some++replicate (d.names.length-args.length) none)):=by
 rw[aa,z];rw[KU,hd];simp[J]
 rfl
@[simp] theorem Gm(v)(W)(k):(R.retM v W).andThen k=.retM v W:=rfl
@[simp] theorem FI(v):gE (some (.mutD v))=some (.brwD v):=rfl
@[simp] theorem FJ(v):fG (some (.mutD v))=some (.brwD v):=rfl
@[simp] theorem Gn(xs)(k):(R.retF xs).andThen k=.retF xs:=rfl
@[simp] theorem Go(v):bC (some (.val v))=some v:=rfl
@[simp] theorem Gp(v):bC (some (.own v))=some (.lst v):=rfl
@[simp] theorem Gq(v):bC (some (.brw v))=some (.lst v):=rfl
@[simp] theorem FK(v):bC (some (.ownD (.k v)))=some (.dI (.k v)):=rfl
@[simp] theorem FL(v):bC (some (.ownD (.t v)))=some (.dI (.t v)):=rfl
@[simp] theorem FM(v):bC (some (.brwD (.k v)))=some (.dI (.k v)):=rfl
@[simp] theorem Jz(v):rW (.k v)=true:=rfl
@[simp] theorem JA(v):rW (.t v)=true:=rfl
@[simp] theorem FN(v):bC (some (.brwD (.t v)))=some (.dI (.t v)):=rfl
@[simp] theorem FO(v):gE (some (.ownD v))=some (.brwD v):=rfl
@[simp] theorem FP(v):gE (some (.brwD v))=some (.brwD v):=rfl
@[simp] theorem FQ(v):fG (some (.ownD v))=some (.brwD v):=rfl
@[simp] theorem FR(v):fG (some (.brwD v))=some (.brwD v):=rfl
@[simp] theorem JB(i):sc? (.int i)=some (.int i):=rfl
@[simp] theorem JS(i):sc? (.bl i)=some (.bl i):=rfl
@[simp] theorem JC:sc? .non=some .non:=rfl
@[simp] theorem JD(i):(Sc.int i).pv=.int i:=rfl
@[simp] theorem JT(i):(Sc.bl i).pv=.bl i:=rfl
@[simp] theorem Gr(v):vF (some (.val v))=some v:=rfl
@[simp] theorem Gs(v):gE (some (.val v))=some (.val v):=rfl
@[simp] theorem Gu(v):gE (some (.own v))=some (.brw v):=rfl
@[simp] theorem Gv(v):gE (some (.brw v))=some (.brw v):=rfl
@[simp] theorem Gw(v):fG (some (.val v))=some (.val v):=rfl
@[simp] theorem Gx(v):fG (some (.own v))=some (.brw v):=rfl
@[simp] theorem Gy(v):fG (some (.brw v))=some (.brw v):=rfl
@[simp] theorem Gz(b):bi (.bl b)=some b:=rfl
@[simp] theorem II(i j):ff .add (.int i) (.int j)=some (.int (i+j)):=rfl
@[simp] theorem IJ(i j):ff .sub (.int i) (.int j)=some (.int (i-j)):=rfl
@[simp] theorem IK(i j):ff .mul (.int i) (.int j)=if (-(2 ^ 64)<i/\i<2 ^ 64)\/(-(2 ^ 64)<j/\j<2 ^ 64)then some (.int (i*j))else none:=rfl
@[simp] theorem Il(i j):ff .fdiv (.int i) (.int j)=if 0<j/\j<1073741824 then some (.int (i / j))else none:=rfl
@[simp] theorem Cz(i j):ff .mod (.int i) (.int j)=if 0<j then some (.int (i % j))else none:=rfl
@[simp] theorem mz(x y):ff .add (.lst x) (.lst y)=if x.length+y.length<=10000 then some (.lst (x++y))else none:=rfl
@[simp] theorem JE(i j):cD .lt (.int i) (.int j)=some (decide (i<j)):=rfl
@[simp] theorem JF(i j):cD .le (.int i) (.int j)=some (decide (i<=j)):=rfl
@[simp] theorem FS(i j):cD .gt (.int i) (.int j)=some (decide (j<i)):=rfl
@[simp] theorem JG(i j):cD .ge (.int i) (.int j)=some (decide (j<=i)):=rfl
@[simp] theorem z6(x y):cD .eq x y=eqF 100 x y:=rfl
@[simp] theorem z7(x y):cD .ne x y=if rV x y=true then(eqF 100 x y).map (λp=>!p)else none:=rfl
@[simp] theorem IL(x):cD .isN x .non=some (jp x):=rfl
@[simp] theorem Im(x):cD .notN x .non=some (!jp x):=rfl
@[simp] theorem CA(x)(xs):cD .isIn x (.tup xs)=isIn x xs:=rfl
@[simp] theorem IM(x)(xs):cD .isIn x (.lst xs)=isIn x xs:=rfl
@[simp] theorem Io(x)(xs):cD .notIn x (.tup xs)=(isIn x xs).map λp=>!p:=rfl
@[simp] theorem Ip(x)(xs):cD .notIn x (.lst xs)=(isIn x xs).map λp=>!p:=rfl
@[simp] theorem JH(n)(i j):eqF n (.bl i) (.bl j)=some (i==j):=by cases n<;>rfl
@[simp] theorem IN(n)(i j):eqF n (.str i) (.str j)=some (i==j):=by cases n<;>rfl
@[simp] theorem IP(x y):rV (.tup x) (.tup y)=true:=rfl
@[simp] theorem IQ(x y):rV (.lst x) (.lst y)=true:=rfl
@[simp] theorem IR(x y):rV (.int x) (.int y)=true:=rfl
@[simp] theorem v6(x):bg (.tup x)=some x:=rfl
@[simp] theorem fM(x):bg (.lst x)=some x:=rfl
@[simp] theorem Iq(x):aD .len [.tup x]=some (.int x.length):=rfl
@[simp] theorem Ir(x):aD .len [.lst x]=some (.int x.length):=rfl
@[simp] theorem Iu(x):aD .len [.dI (.k x)]=some (.int x.length):=rfl
@[simp] theorem IS(x):aD .tupleOf [x]=(bg x).map .tup:=rfl
@[simp] theorem Iv(x):aD .listOf [x]=(bg x).map .lst:=rfl
@[simp] theorem dS(x):aD .sorted [x]=(bg x).bind iN:=rfl
@[simp] theorem qO(x):aD .any [.lst x]=(cU x).map λbs=>.bl (bs.any id):=rfl
@[simp] theorem v7(x):aD .all [.lst x]=(cU x).map λbs=>.bl (bs.all id):=rfl
@[simp] theorem Iw(i):aD .intOf [.int i]=some (.int i):=rfl
@[simp] theorem Ix(b):aD .intOf [.bl b]=some (.int (if b then 1 else 0)):=rfl
@[simp] theorem IT(i):isD (.int i)=false:=rfl
@[simp] theorem JI(i):isD (.bl i)=false:=rfl
@[simp] theorem IU(i):isD (.str i)=false:=rfl
@[simp] theorem IV(i):isD (.tup i)=false:=rfl
@[simp] theorem IW(i):isD (.lst i)=false:=rfl
@[simp] theorem IX:isD .non=false:=rfl
@[simp] theorem GA(x):aD .isInt [x]=if isD x=true then none else some (.bl (isT .isInt x)):=rfl
@[simp] theorem A1(i):isT .isInt (.int i)=true:=rfl
@[simp] theorem CB(i):isT .isInt (.bl i)=true:=rfl
@[simp] theorem A2(i):isT .isInt (.str i)=false:=rfl
@[simp] theorem A3(i):isT .isInt (.lst i)=false:=rfl
@[simp] theorem A4(i):isT .isInt (.tup i)=false:=rfl
@[simp] theorem A5:isT .isInt .non=false:=rfl
@[simp] theorem FT(x):aD .isBool [x]=if isD x=true then none else some (.bl (isT .isBool x)):=rfl
@[simp] theorem z8(i):isT .isBool (.int i)=false:=rfl
@[simp] theorem A6(i):isT .isBool (.bl i)=true:=rfl
@[simp] theorem z9(i):isT .isBool (.str i)=false:=rfl
@[simp] theorem z_(i):isT .isBool (.lst i)=false:=rfl
@[simp] theorem Aa(i):isT .isBool (.tup i)=false:=rfl
@[simp] theorem Ab:isT .isBool .non=false:=rfl
@[simp] theorem GB(x):aD .isStr [x]=if isD x=true then none else some (.bl (isT .isStr x)):=rfl
@[simp] theorem A7(i):isT .isStr (.int i)=false:=rfl
@[simp] theorem CC(i):isT .isStr (.bl i)=false:=rfl
@[simp] theorem A8(i):isT .isStr (.str i)=true:=rfl
@[simp] theorem A9(i):isT .isStr (.lst i)=false:=rfl
@[simp] theorem A_(i):isT .isStr (.tup i)=false:=rfl
@[simp] theorem Ba:isT .isStr .non=false:=rfl
@[simp] theorem FU(x):aD .isList [x]=if isD x=true then none else some (.bl (isT .isList x)):=rfl
@[simp] theorem Ac(i):isT .isList (.int i)=false:=rfl
@[simp] theorem Bb(i):isT .isList (.bl i)=false:=rfl
@[simp] theorem Ad(i):isT .isList (.str i)=false:=rfl
@[simp] theorem Ae(i):isT .isList (.lst i)=true:=rfl
@[simp] theorem Af(i):isT .isList (.tup i)=false:=rfl
@[simp] theorem Ag:isT .isList .non=false:=rfl
@[simp] theorem Ds(x):aD .isTuple [x]=if isD x=true then none else some (.bl (isT .isTuple x)):=rfl
@[simp] theorem xI(i):isT .isTuple (.int i)=false:=rfl
@[simp] theorem Ah(i):isT .isTuple (.bl i)=false:=rfl
@[simp] theorem xJ(i):isT .isTuple (.str i)=false:=rfl
@[simp] theorem xK(i):isT .isTuple (.lst i)=false:=rfl
@[simp] theorem xL(i):isT .isTuple (.tup i)=true:=rfl
@[simp] theorem xM:isT .isTuple .non=false:=rfl
@[simp] theorem sL(xs):aD .max1 [.lst xs]=(bf xs).bind λns=>(yY ns).map .int:=rfl
@[simp] theorem nK(d):aD .valuesOf [.dI d]=if (j6 d).length<=10000 then some (.lst (j6 d))else none:=rfl
@[simp] theorem Ai(kvs):aD .sortedKeys [.dI (.k kvs)]=if kvs.length<64 then some (ofL (sortI (kvs.map (·.1))))else none:=rfl
@[simp] theorem JJ(kvs)(i):wZ (.dI (.k kvs)) (.int i)=some (bO kvs i):=rfl
@[simp] theorem JK(kvs)(ns):wZ (.dI (.t kvs)) (.tup (ns.map .int))=some (bO kvs ns):=by
 show(bf _).map _=_;rw[bt]
 rfl
@[simp] theorem JL(kvs)(i)(s):qo (.k kvs) (.int i) s=if kvs.length<10000 then some (.k (cV kvs i s))else none:=rfl
@[simp] theorem JM(kvs)(ns)(s):qo (.t kvs) (.tup (ns.map .int)) s=if kvs.length<10000 then some (.t (cV kvs ns s))else none:=by
 show((bf _).bind λk=>if kvs.length<10000 then some _ else none)=_;rw[bt]
 rfl
@[simp] theorem IY(p q):cD .isN (.bl p) (.bl q)=some (p==q):=rfl
@[simp] theorem Iy(p q):cD .notN (.bl p) (.bl q)=some (!(p==q)):=rfl
@[simp] theorem CD(xs):aD .tupleRev [.lst xs]=some (.tup xs.reverse):=rfl
@[simp] theorem oU(x:PV):aD .sortedSet [x]=(bg x).bind λxs=>(bf xs).bind λns=>if ns.length<=4000/\(dd ns).length<64 then some (.lst ((sortI (dd ns)).map .int))else none:=rfl
@[simp] theorem Aj(x)(i):fF (.lst x) (.int i)=(place x.length i).bind λj=>x[j]?:=rfl
@[simp] theorem Dt(x)(i):fF (.tup x) (.int i)=(place x.length i).bind λj=>x[j]?:=rfl
@[simp] theorem IZ(x)(lo hi):j8 (.lst x) lo hi=some (.lst (cut x lo hi)):=rfl
@[simp] theorem I0(i j):bnd (.cst (.int i)) (.int j)=some (some j):=rfl
@[simp] theorem v8(x):bm .seq [x]=bg x:=rfl
def CF(j):bm .rng [.int j]=if -(2 ^ 62)<=j/\j<2 ^ 62 then some ((range j.toNat).map λk=>.int ((0:Int)+k))else none:=rfl
@[simp] theorem aR(W)(k):(R.next W).andThen k=k W:=rfl
@[simp] theorem Iz(v)(k):(R.ret v).andThen k=.ret v:=rfl
@[simp] theorem IA(k):R.bad.andThen k=.bad:=rfl
@[simp] theorem IB(W)(k):(R.brk W).andThen k=.brk W:=rfl
@[simp] theorem GC(W)(k):(R.cont W).andThen k=.cont W:=rfl
@[simp] theorem uS(v)(k):eM (some v) k=k v:=rfl
@[simp] theorem nL(v)(k):yZ (some v) k=k v:=rfl
@[simp] theorem FV(v)(k):bZ (some v) k=k v:=rfl
@[simp] theorem GD(v):aS (.ret v)=some v:=rfl
@[simp] theorem FW(W):aS (.next W)=some .non:=rfl
@[simp] theorem cK(a)(l)(m):put (a::l) 0 m=some m::l:=rfl
@[simp] theorem cz(a)(l)(n)(m):put (a::l) (n+1) m=a::put l n m:=rfl
@[simp] theorem du(src)(z W):(R.next W).back src z=.next (aQ src z W):=rfl
@[simp] theorem IC(src)(z)(v):(R.ret v).back src z=.ret v:=rfl
@[simp] theorem GE(body)(W):aq body [] W=.next W:=rfl
def nM(z:0<=j)(h1:j<4611686018427387904):bm .rng [.int j]=some ((range j.toNat).map λk=>.int (k:Int)):=by
 rw[CF,if_pos ⟨by omega,by omega⟩]
 congr 1
 simp_all
def fm{n:Nat}{i:Int}(z:0<=i)(h:i<n):place n i=some i.toNat:=by unfold place;rw[if_pos z,if_pos h]
def leT(a b:List Int):Prop:=lexLt b a=false
theorem sortI_perm(l):(sortI l).Perm l:=by rw[dD];exact L2.Srt.sortI_perm l
theorem sortT_perm(l):(sortT l).Perm l:=by rw[km];exact L2.Srt.sortT_perm l
def sortI_len(l):(sortI l).length=l.length:=(sortI_perm l).length_eq
def sortT_len(l):(sortT l).length=l.length:=(sortT_perm l).length_eq
def jd :x∈sortI l ↔ x∈l:=(sortI_perm l).mem_iff
def je :x∈sortT l ↔ x∈l:=(sortT_perm l).mem_iff
theorem sortI_rises(l):(sortI l).Pairwise (· <= ·):=by rw[dD];exact L2.Srt.sortI_rises l
theorem sortT_rises(l):(sortT l).Pairwise leT:=by
 rw[km];exact(L2.Srt.sortT_rises l).imp λh=>by unfold leT;rw[nt];exact h
theorem sortI_id{l:List Int}(h:l.Pairwise (· <= ·)):sortI l=l:=by rw[dD];exact L2.Srt.sortI_id h
theorem sortI_of_perm(p:a.Perm b):sortI a=sortI b:=by rw[dD,dD];exact L2.Srt.sortI_of_perm p
def nO(h:l.Nodup):(sortI l).Pairwise (· < ·):=by
 have h1:=sortI_rises l;have h2:=(sortI_perm l).nodup_iff.mpr h;exact(h1.and h2).imp λ⟨a,b⟩=>by omega
def iT :k∈dd l ↔ k∈l:=by rw[pD];exact L2.St.fX
theorem dd_nodup(l):(dd l).Nodup:=by rw[pD];exact L2.St.dd_nodup l
theorem Du:∀{l},l.Nodup->dd l=l
 | [],_=>rfl
 |x::r,h=>by
  rw[dd,Du (Ky.mp h).2,if_neg (Ky.mp h).1]
def fo{l:List Int}(h:l.Pairwise (· < ·)):l.Nodup:=h.imp λ{a b} q=>by omega
def ce(z:List Int):Prop:=z.Pairwise (· < ·)/\∀h∈z,0<=h/\h<=59
def az(R:List (List Int)):Prop:=(∀z∈R,ce z)/\R.Pairwise leT/\R.length<=60
theorem nP:∀(n:Nat) (l:List Int),l.Nodup->(∀x∈l,0<=x/\x<(n:Int))->l.length<=n
 |0,l,_,h=>by
  cases l with
  |nil=>simp
  |cons x r=>have:=h x (.head _);omega
 |n+1,l,J,h=>by
  have h1:=nP n (l.filter λx=>decide (x≠(n:Int))) (J.filter _) (λx hx=>by
   obtain⟨h2,U⟩:=KJ.mp hx;have h4:=Kz U;have:=h x h2;omega)
  have h2:∀l:List Int,l.Nodup->l.length<=(l.filter λx=>decide (x≠(n:Int))).length+1:=by
   intro l
   induction l with
   |nil=>intro _;simp
   |cons x r ih =>
    intro J;by_cases e:x=(n:Int)
    .have Y:r.filter (λx=>decide (x≠(n:Int)))=r:=Mk.mpr λy Z=>J1 λz=>(Ky.mp J).1 (by rw[e,<- z];exact Z)
     rw[LI (by simp[e]),Y];simp
    .simp_all
  have:=h2 l J;omega
def aJ(h:ce z):z.length<=60:=nP 60 z (fo h.1) λx hx=>by have:=h.2 x hx;omega
noncomputable def qP(ns:List Int)(lo hi:Option Int):List Int:=(ns.drop (gC ns.length 0 lo)).take (gC ns.length ns.length hi-gC ns.length 0 lo)
@[simp] theorem sM(ns)(lo hi):cut (ns.map .int) lo hi=(qP ns lo hi).map .int:=by
 unfold cut qP
 simp_all
def Ak(ns:List Int){a b:Int}(z:0<=a)(J:0<=b):(qP ns (some a) (some b)).length<=(b-a).toNat:=by
 unfold qP;rw[Nk,length_drop];have U:gC ns.length ns.length (some b)=min b.toNat ns.length:=by show(if b<0 then _ else _)=_;rw[if_neg (Int.not_lt.mpr J)]
 have Y:gC ns.length 0 (some a)=min a.toNat ns.length:=by show(if a<0 then _ else _)=_;rw[if_neg (Int.not_lt.mpr z)]
 rw[U,Y];obtain⟨A,rfl⟩:=Int.eq_ofNat_of_zero_le z;obtain⟨B,rfl⟩:=Int.eq_ofNat_of_zero_le J;rw[Int.toNat_sub,Int.toNat_natCast,Int.toNat_natCast];refine wh (Nat.min_le_left _ _) ?_;rcases Nat.le_total A ns.length with h|h
 .rw[LH h];exact Nat.sub_le_sub_right (Nat.min_le_left _ _) A
 .rw[Nat.min_eq_right h,Nat.sub_eq_zero_of_le (Nat.min_le_right _ _)];exact Kd _
end MM
structure PySem.W.Fast:Prop where (tw13145860074328962507 tw17173333191562534848 tw9158220370693929733 tw12153555224695278868 tw194597741665312205 tw16878490414611162473 tw13110108516323211640 tw8235537371629571978 tw12773570221373537995 tw16465952435091140194 tw7853071455171965087 tw17769647529235237967 tw8377716928224463277 tw1833643371132371061 tw15107482319423782551 tw9933288659610683947 tw11480499282728309491 tw1415516203126806128 tw11909603517521412356 tw3187732175149036129 tw12959910309934020327 tw6753560946048559552 tw5440256605054389957 tw11022235016343461699 tw15475507984282422902 tw6485959649233787197 tw18328114337724261074 tw3765640077633996074 tw15545431241864174686 tw6978097343377290504 tw13913791482346473582 tw17861093084038014289 tw10761410834322987180 tw8328990481548514476 tw374676063460061228 tw15845387406397257649 tw10033586780172935756 tw947188118514479786 tw10415059497677617762 tw1011958129102495363 tw1633206543166065798 tw10468327301659876287 tw14162253792936782365 tw5465743394320129890 tw8501446486904246155 tw921939704154941897 tw5614063432104308786 tw18420960807221977656 tw11410894935222192481 tw12757855521877665402 tw17446713761612177709 tw16947738183141165856 tw7555485827214811384 tw12406885943938496408 tw1829332240973525444 tw11925003953739265638 tw4837669811323604386 tw8922941257878937077 tw5702805455819509629 tw5501704193783917208 tw10672974998298407197 tw10265486519731578951 tw14444521359083118325 tw15794904078691663721 tw16541361145952682720 tw9003077316196572037 tw2565574901733031592 tw11610821472549436408 tw14010002076678602476 tw16957122661007650993 tw2859986366214625725 tw9591125731703880780 tw10106396273251762950 tw6350008785601471175 tw15837325546275872326 tw16151500012583091489 tw16971332263829304146 tw17809354352911769904 tw10835031349601620925 tw6691292036104192531 tw3370557113722682294 tw11569793782494866757 tw16506156135717500327 tw15757096582325482093 tw470051661301656779 tw16825059117325860701 tw4234167231877195800 tw51247182762865046 tw12618917195529712754 tw13194348548923445018 tw1690236765539270069 tw8751932586757295814 tw6101803030845430089 tw16200413417243182181 tw13915284326198130593 tw11153240086523344869 tw6132745434616238773 tw784085602889475812 tw1050733923463678326 tw13699168652341642630 tw5780561145709692440 tw12280647577345431108 tw17800534350553808039 tw13134265078545654840 tw12279301235476654005 tw14393693636081231695 tw13327841568260079136 tw8237952439441724870 tw7776253293146481841 tw17357546008817428451 tw1160241359141359643 tw5470480859072911685 tw7803674262110446248 tw16695028557496247787 tw15051056315773610590 tw11906162560569154953 tw2058368623543233474 tw13642960897535622532 tw6784205940798082819 tw16988806242893829953 tw4778209270714507265 tw16784524142848311915 tw16414302610716029214 tw17098023138549676203 tw11524567250141637521 tw12297005595616770074 tw7266252213945347974 tw10391343675751978448 tw10428487068848835563 tw7739411548190651194 tw4026818553199654422 tw9542258879912053439 tw17008846291893317153 tw2404311629306098094 tw8774890494413809537 tw10737359479234378589 tw6604022898729169201 tw6976523969040021091 tw3162179364833139424 tw8140587859845668285 tw17587773790704840636 tw15054542754486082459 tw3064623846059578726 tw13762753911353868729 tw1194010904083653169 tw6154404745187471120 tw19454050727886711 tw6212985962974983550 tw1645041536890384042 tw12435448622273438797 tw1892930015201163926 tw17948014782381593557 tw13007264192736391382 tw5977795296692269299 tw15310309065821860752 tw3374647295318000365 tw1809669487536511018 tw10353535813675242203 tw10665422803633669951 tw10770221725076415975 tw10736243395757460965 tw5293080263035141845 tw13177762847147498336 tw16903687740097726709 tw10657483775316481866 tw2565271819228509616 tw17430804279290188888 tw8520954146760434899 tw7352155826403377438 tw17129374166183757645 tw13149298829454510422 tw1463355203731269897 tw17600270897963767302 tw13841667422786586011 tw13366270500120391001 tw3752220983611985599 tw11471551178106624014 tw12159953980375798835 tw6153390913468775580 tw12312930872838678777 tw5325803507407680039 tw2264730811680632815 tw3022596901095588887 tw10797245676271837950 tw14792492315925190772 tw10933575542064435633 tw16639303598069760461 tw286123216621699601 tw15979481629076172875 tw11117457118892706171 tw7446884917270441419 tw15890546334499716008 tw7523731811230904653 tw3077118040200448861 tw3817314074484331956 tw11833012437212115919 tw18209492978983307321 tw17921253088292801017 tw3753717499771304913 tw7236670855532690054 tw5134100230964208397 tw10663255476817918530 tw16139442067106389818 tw5813223528099859391 tw6250396809851852863 tw11982966427233797179 tw1265088316123167673 tw13383338399864694851 tw13387922336960780133 tw1849302878758097709 tw536206392621301795 tw5175092096464359995 tw12444292027174838761 tw5958405189485574674 tw7499380677069546157 tw666912683662734137 tw5912365274475392160 tw10532124178668854288 tw10869756756143446119 tw7662802191712044145 tw12332447572627305773 tw4751514584913954380 tw13552979843593227638 tw11611507758878707886 tw10616112616335307033 tw18245375726843416811 tw9681170114140374188 tw17461746470457621543 tw14813758989912552270 tw1211280612097168684 tw17916085255181076719 tw3433115473995141537 tw10187907605432440749 tw3982595604228454174 tw11632755972297996190 tw10478895697151317920 tw11125111492225805313 tw7672319733244301390 tw7461919447575106311 tw9585476863927565638 tw2842246777675004831 tw4529234425596608823 tw11343296964983267326 tw8093661501887702432 tw11607160449046028616 tw17400867350609699689 tw14668151516375972176 tw2722368753829036312 tw13780385364467567528 tw11817517660973146303 tw11272858430301337667 tw16777284925111071974 tw10054678123723050164 tw380027385061891596 tw5182578906044307445 tw6360860591064223588 tw9768020093742443628 tw15304763671587299396 tw5209415918310581787 tw3898738788241491373 tw9273992897835735186 tw8432619874072137798 tw13059711689757232525 tw12640782736800621560 tw1418119087378761381 tw12841003511880955069 tw13006299628081765095 tw9147886569998227105 tw2381911102954745590 tw2659041929484615664 tw15534382263870505591 tw5397280778105036344 tw6521571550250661321 tw6023279055639603030 tw9243005725988859326 tw10175189950924687947 tw5650402551365895916 tw10390148353606008602 tw8984454697036088876 tw8061861451988151652 tw12698754298051125821 tw7844844657556263843 tw1152874018980689543 tw10972430376915071770 tw10953513313934693755 tw10253568342938250452 tw3635220259267787800 tw15478856653092567851 tw9610562172402221618 tw16571355628206123486 tw9317293909666636038 tw11219965553384850058 tw3498018266620192896 tw6271961587957849597 tw16948995938818712941 tw12010942785693215611 tw14211843782751566623 tw6695620441294219678 tw8165117056498939553 tw11377263496333498688 tw2524919164025157721 tw14898988268698591320 tw14460029084312950982 tw2811446419194236102 tw12831624074729750424 tw10764336195956523575 tw13473754749466312568 tw10817527276035746596 tw5057945445225658484 tw1968834739257787113 tw6584182372815145121 tw9279437940874404971 tw11166934332512612761 tw15846276052880468188 tw11697774842805107237 tw14247996549155326520 tw13320332182060719232 tw16452836481765484048 tw9498662413611688215 tw13727413065966703154 tw8749795387395548316 tw1525973938532855209 tw4906206075282907553 tw11954452400316660110 tw16509755670258427347 tw4555268860684413563 tw2818650902803230132 tw1036423219524187455 tw15873332716727427008 tw16119827906221462633 tw5531851189593115905 tw2686107331096909467 tw6881693194578059241 tw8370002547013937559 tw18218936719685688953 tw17423346558820794979 tw4978660515492424042 tw2556147920808981345 tw13042435599134072169 tw1590402012309259087 tw1951809224569607819 tw7218818945042769941 tw2981176243684373513 tw15349174084405327706 tw11334933069083221808 tw4505513141974276647 tw4772568135687529967 tw17640108230678300051 tw15440394328607455961 tw11710604570162932840 tw7198279187191474545 tw13885851074802986429 tw11968053712959314457 tw17389896881770497218 tw14219330680736076590 tw1322941929986253997 tw6650579054337666533 tw13264456339638957967 tw11800292299233248924 tw10685478444161867394 tw16972301629522475257 tw12037512623153384948 tw7281121642741488589 tw7033354501372732799 tw6807341793692369150 tw15793279408378245317 tw17130287794692401411 tw13699700499230010264 tw10514569511697808928 tw12559089604635170152 tw8703330755037357570 tw2381754221891297575 tw14575914689148444313 tw5700958065484915312 tw12412128327510676236 tw11123969111469057579 tw17333215522234025554 tw7680818140296467098 tw13996708507589434831 tw3923653369243673049 tw3662443899714639635 tw349102120929443408 tw11408337615229284614 tw3500914628248398856 tw15985971839623708684 tw14689733455874366472 tw5536999256051725472 tw7259385299903258122 tw9967943537282863612 tw5518082917577187823 tw18335694680049323335 tw14515143089899269171 tw8280296785808555962 tw8855037610104871224 tw2602491170598464797 tw9536600222911244441 tw11585800894403402893 tw7387429763044127316 tw12791553652722924275 tw4350386572143980565 tw1472182499738421582 tw17879297075376327544 tw12522218292095903466 tw424109486795415317 tw17696078582274109099 tw14754927670749166088 tw5633349983166376429 tw7310816508603018931 tw15724603349451812396 tw17021276711530534375 tw4558140288699007367:True)
namespace My
open PySem L2 MM List Option
noncomputable abbrev ix(a:Nat)(b:Int):ME:=.idx (.bor a) (.cst (.int b))
noncomputable abbrev sv(x:PV):Option MV:=some (.val x)
abbrev LL:=List (List Int)
noncomputable abbrev ci(x:Int):ME:=.cst (.int x)
noncomputable abbrev cs(x:Str):ME:=.cst (.str x)
noncomputable def bL:List MS:=[.extend 1 (.bor 2)]
noncomputable def ig:MD:=⟨"members_of",["rows"],["rows","members","row"],
  [.setOwn 1 (.lst []),
  .for1 2 .seq [.bor 0] bL,
  .retOwn 1]⟩
noncomputable def lI:MD:=⟨"each_once",["members"],["members"],
  [.ret (.cmp .eq (.blt .lenSet [.bor 0]) (.blt .len [.bor 0]))]⟩
noncomputable def iy:MD:=⟨"strip_without",["strip","hole"],["strip","hole"],
  [.ret (.blt .tupleOf [(.comp .seq [.bor 0] [1] (.cmp .ne (.bor 0) (.bor 1)) (.var 0))])]⟩
noncomputable def lm:MD:=⟨"knotted",["rest","hole"],["rest","hole"],
  [.ret (.blt .tupleOf [(.blt .sorted [(.comp .seq [.bor 0] [1] (.cst (.bl true)) (.call 2 [.bor 0,.bor 1]))])])]⟩
noncomputable def sN:MD:=⟨"bitten",["rest","hole"],["rest","hole"],
  [.ret (.blt .tupleOf [(.comp .seq [.bor 0] [1] (.cmp .notIn (.bor 1) (.bor 0)) (.var 0))])]⟩
noncomputable def nQ:MD:=⟨"holes_of",["rest"],["rest"],
  [.ret (.blt .sortedSet [(.call 0 [.bor 0])])]⟩
noncomputable def nR:MD:=⟨"is_whole",["rest"],["rest"],
  [.ret (.cmp .isIn (.tup []) (.bor 0))]⟩
noncomputable def ln:MD:=⟨"is_bare",["rest"],["rest"],
  [.ret (.cmp .eq (.blt .len [.bor 0]) (ci 0))]⟩
noncomputable def ku:MD:=⟨"other_hand",["hand"],["hand"],
  [.ret (.ite (.cmp .eq (.bor 0) (cs "weaver")) (cs "moth") (cs "weaver"))]⟩
noncomputable def nS:MD:=⟨"behind",["rest","hand","reply"],["rest","hand","reply"],
  [.ite (.cmp .isN (.bor 2) (.cst .non))
   [.ret (.var 0)]
   [],
  .ret (.ite (.cmp .eq (.bor 1) (cs "weaver")) (.call 3 [.bor 0,.bor 2]) (.call 4 [.bor 0,.bor 2]))]⟩
noncomputable def jr:MD:=⟨"behind_both",["rest","hand","hole","reply"],["rest","hand","hole","reply"],
  [.ret (.call 9 [(.call 9 [.bor 0,(.call 8 [.bor 1]),.bor 2]),.bor 1,.bor 3])]⟩
noncomputable def lq:MD:=⟨"has_all",["strip","other"],["strip","other"],
  [.ret (.cmp .eq (.blt .lenSetSub [.bor 1,.bor 0]) (ci 0))]⟩
noncomputable def bA:List MS:=[.ite (.call 11 [.bor 0,.bor 3])
   [.ret (.var 2)]
   []]
noncomputable def d4:MD:=⟨"least_place",["strip","rest"],["strip","rest","place","other"],
  [.forT [2,3] .enm [.bor 1] bA,
  .ret (.cst .non)]⟩
noncomputable def pP:MD:=⟨"footing",["rest","other"],["rest","other"],
  [.ret (.comp .seq [.bor 0] [1] (.cst (.bl true)) (.call 12 [.bor 0,.bor 1]))]⟩
noncomputable def nT:MD:=⟨"is_below",["rest","other"],["rest","other"],
  [.ret (.cmp .notIn (.cst .non) (.call 13 [.bor 0,.bor 1]))]⟩
noncomputable def kw:MD:=⟨"has_a_pair",["strip","pairs"],["strip","pairs"],
  [.ret (.blt .any [(.comp .seq [.bor 1] [0] (.cst (.bl true)) (.call 11 [.bor 1,.bor 0]))])]⟩
noncomputable def kz:MD:=⟨"pairs_hold",["pairs","rest"],["pairs","rest"],
  [.ite (.not (.call 1 [(.call 0 [.bor 0])]))
   [.ret (.cst (.bl false))]
   [],
  .ret (.blt .all [(.comp .seq [.bor 1] [0] (.cst (.bl true)) (.call 15 [.bor 0,.bor 1]))])]⟩
noncomputable def iU:List MS:=[.ite (.cmp .eq (ix 2 0) (.bor 1))
   [.ret (ix 2 1)]
   [],
  .ite (.cmp .eq (ix 2 1) (.bor 1))
   [.ret (ix 2 0)]
   []]
noncomputable def Al:MD:=⟨"mate",["pairs","hole"],["pairs","hole","pair"],
  [.for1 2 .seq [.bor 0] iU,
  .ret (.cst .non)]⟩
noncomputable def nU:MD:=⟨"together",["rests"],["rests"],
  [.ret (.blt .tupleOf [(.blt .sorted [(.call 0 [.bor 0])])])]⟩
noncomputable def lJ:MD:=⟨"are_apart",["rests"],["rests"],
  [.ret (.call 1 [(.call 0 [(.comp .seq [.bor 0] [] (.cst (.bl true)) (.call 5 [.bor 0]))])])]⟩
noncomputable def iV:MD:=⟨"strip_weight",["strip"],["strip"],
  [.ret (.bin .shr (.glob "UNIT" (.int 1152921504606846976)) (.blt .len [.bor 0]))]⟩
noncomputable def Am:MD:=⟨"weight",["rest"],["rest"],
  [.ret (.blt .sum [(.comp .seq [.bor 0] [] (.cst (.bl true)) (.call 20 [.bor 0]))])]⟩
noncomputable def pQ:List MS:=[.dput 1 (.bor 3) (.bin .add (.dget (.bor 1) (.bor 3) (ci 0)) (.call 20 [.bor 2]))]
noncomputable def pR:List MS:=[.for1 3 .seq [.bor 2] pQ]
noncomputable def v9:MD:=⟨"pulls",["rest"],["rest","pull_of","strip","hole"],
  [.newD false 1,
  .for1 2 .seq [.bor 0] pR,
  .retOwn 1]⟩
noncomputable def cQ:List MS:=[.ite (.or (.cmp .isN (.bor 2) (.cst .non)) (.cmp .gt (.dat (.bor 1) (.bor 3)) (.dat (.bor 1) (.bor 2))))
   [.set 2 (.var 3)]
   []]
noncomputable def nV:MD:=⟨"heaviest",["rest"],["rest","pull_of","best","hole"],
  [.set 1 (.call 22 [.bor 0]),
  .set 2 (.cst .non),
  .for1 3 .seq [(.blt .sortedKeys [.bor 1])] cQ,
  .ret (.var 2)]⟩
noncomputable def iz:MD:=⟨"greatest_pull",["rest"],["rest"],
  [.ret (.blt .max1 [(.bin .add (.lst [(ci 0)]) (.blt .valuesOf [(.call 22 [.bor 0])]))])]⟩
noncomputable def iW:List MS:=[.extend 1 (.comp .seq [(.slice (.bor 0) (.bin .add (.bor 2) (ci 1)) (.cst .non))] [3] (.cst (.bl true)) (.tup [.var 1,.var 0]))]
noncomputable def pS:MD:=⟨"twos_of",["strip"],["strip","twos","place","low"],
  [.setOwn 1 (.lst []),
  .forT [2,3] .enm [.bor 0] iW,
  .retOwn 1]⟩
noncomputable def iA:List MS:=[.dput 1 (.bor 3) (.bin .add (.dget (.bor 1) (.bor 3) (ci 0)) (ci 1))]
noncomputable def iB:List MS:=[.for1 3 .seq [(.call 25 [.bor 2])] iA]
noncomputable def jt:MD:=⟨"most_shared",["rest"],["rest","count_of","strip","two"],
  [.newD true 1,
  .for1 2 .seq [.bor 0] iB,
  .ret (.blt .max1 [(.bin .add (.lst [(ci 0)]) (.blt .valuesOf [.bor 1]))])]⟩
noncomputable def gc:MD:=⟨"moth_weighs",["rest","turn"],["rest","turn"],
  [.ite (.cmp .eq (.bor 1) (cs "moth"))
   [.ret (.cmp .lt (.call 21 [.bor 0]) (.glob "UNIT" (.int 1152921504606846976)))]
   [],
  .ret (.cmp .lt (.bin .add (.call 21 [.bor 0]) (.call 24 [.bor 0])) (.glob "UNIT" (.int 1152921504606846976)))]⟩
noncomputable def nW:MD:=⟨"is_heavy",["rest"],["rest"],
  [.ret (.cmp .gt (.bin .mul (ci 4) (.call 21 [.bor 0])) (.bin .mul (.bin .mul (.glob "UNIT" (.int 1152921504606846976)) (.call 26 [.bor 0])) (.bin .fdiv (.blt .len [(.call 5 [.bor 0])]) (ci 2))))]⟩
noncomputable def cZ:MD:=⟨"weaver_weighs",["rest","turn"],["rest","turn"],
  [.ite (.cmp .eq (.bor 1) (cs "weaver"))
   [.ret (.call 28 [.bor 0])]
   [],
  .ite (.call 6 [.bor 0])
   [.ret (.cst (.bl true))]
   [],
  .ret (.and (.call 28 [.bor 0]) (.blt .all [(.comp .seq [(.call 5 [.bor 0])] [0] (.cst (.bl true)) (.call 28 [(.call 4 [.bor 1,.bor 0])]))]))]⟩
noncomputable def mB:MD:=⟨"first",["paper","rest","hand"],["paper","rest","hand","word","reply"],
  [.set 3 (ix 0 0),
  .ite (.cmp .eq (.bor 3) (cs "fewer"))
   [.ret (.call 30 [(ix 0 2),(ix 0 1),.bor 2])]
   [],
  .ite (.cmp .eq (.bor 3) (cs "weight"))
   [.set 4 (.call 23 [.bor 1]),
   .ret (.tup [.var 4,(.call 9 [.bor 1,.bor 2,.bor 4]),.var 0])]
   [],
  .ite (.or (.cmp .eq (.bor 3) (cs "bite")) (.cmp .eq (.bor 3) (cs "knot")))
   [.ret (.tup [(ix 0 1),(.call 9 [.bor 1,.bor 2,(ix 0 1)]),(ix 0 2)])]
   [],
  .ret (.tup [.cst .non,.var 1,.var 0])]⟩
noncomputable def iX:MD:=⟨"answer",["paper","rest","hand","hole"],["paper","rest","hand","hole","word","reply"],
  [.set 4 (ix 0 0),
  .ite (.cmp .eq (.bor 4) (cs "weight"))
   [.set 5 (.call 23 [(.call 9 [.bor 1,(.call 8 [.bor 2]),.bor 3])]),
   .ret (.tup [.var 5,(.call 10 [.bor 1,.bor 2,.bor 3,.bor 5]),.var 0])]
   [],
  .ite (.cmp .eq (.bor 4) (cs "pairs"))
   [.set 5 (.call 17 [(ix 0 1),.bor 3]),
   .ret (.tup [.var 5,(.call 10 [.bor 1,.bor 2,.bor 3,.bor 5]),.var 0])]
   [],
  .ite (.cmp .eq (.bor 4) (cs "cases"))
   [.ret (.call 33 [.bor 0,.bor 1,.bor 2,.bor 3])]
   [],
  .ite (.cmp .eq (.bor 4) (cs "parts"))
   [.ret (.call 34 [(ix 0 1),.bor 2,.bor 3])]
   [],
  .ite (.cmp .eq (.bor 4) (cs "fewer"))
   [.ret (.call 31 [(ix 0 2),(ix 0 1),.bor 2,.bor 3])]
   [],
  .ite (.cmp .eq (.bor 4) (cs "either"))
   [.ret (.call 35 [.bor 0,.bor 2,.bor 3])]
   [],
  .ret (.tup [.cst .non,.var 1,.var 0])]⟩
noncomputable def eT:List MS:=[.ite (.cmp .eq (ix 2 0) (.bor 1))
   [.ret (.var 2)]
   []]
noncomputable def nX:MD:=⟨"row_with",["rows","hole"],["rows","hole","row"],
  [.for1 2 .seq [.bor 0] eT,
  .ret (.cst .non)]⟩
noncomputable def dE:MD:=⟨"answer_by_cases",["paper","rest","hand","hole"],["paper","rest","hand","hole","row"],
  [.set 4 (.call 32 [(ix 0 1),.bor 3]),
  .ite (.and (.cmp .isN (.bor 4) (.cst .non)) (.cmp .eq (.bor 2) (cs "moth")))
   [.ret (.tup [.cst .non,.var 1,.var 0])]
   [],
  .ite (.cmp .isN (.bor 4) (.cst .non))
   [.set 4 (.idx (ix 0 1) (ci 0))]
   [],
  .ret (.tup [(ix 4 1),(.call 10 [.bor 1,.bor 2,(ix 4 0),(ix 4 1)]),(ix 4 2)])]⟩
noncomputable def b9:List MS:=[.ite (.cmp .isIn (.bor 2) (.call 5 [.bor 5]))
   [.set 7 (.call 31 [.bor 6,.bor 5,.bor 1,.bor 2]),
   .set 3 (ix 7 0),
   .append 4 (.tup [(ix 7 1),(ix 7 2)])]
   [.append 4 (.tup [.var 5,.var 6])]]
noncomputable def fN:MD:=⟨"answer_by_parts",["rows","hand","hole"],["rows","hand","hole","reply","kept","rest","paper","told"],
  [.set 3 (.cst .non),
  .setOwn 4 (.lst []),
  .forT [5,6] .seq [.bor 0] b9,
  .ret (.tup [.var 3,(.call 18 [(.comp .seq [.bor 4] [] (.cst (.bl true)) (ix 0 0))]),(.tup [(cs "parts"),(.blt .tupleOf [.bor 4])])])]⟩
noncomputable def fq:MD:=⟨"answer_by_either",["paper","hand","hole"],["paper","hand","hole"],
  [.ite (.cmp .isIn (.bor 2) (.call 5 [(ix 0 1)]))
   [.ret (.call 30 [(ix 0 4),(ix 0 3),.bor 1])]
   [],
  .ret (.call 30 [(ix 0 2),(ix 0 1),.bor 1])]⟩
noncomputable def FX:MD:=⟨"good",["paper","rest","turn","hand"],["paper","rest","turn","hand"],
  [.ite (.cmp .eq (.bor 3) (cs "moth"))
   [.ret (.call 37 [.bor 0,.bor 1,.bor 2])]
   [],
  .ret (.call 38 [.bor 0,.bor 1,.bor 2])]⟩
noncomputable def c7:MD:=⟨"good_for_moth",["paper","rest","turn"],["paper","rest","turn","word"],
  [.set 3 (ix 0 0),
  .ite (.cmp .eq (.bor 3) (cs "bare"))
   [.ret (.call 7 [.bor 1])]
   [],
  .ite (.cmp .eq (.bor 3) (cs "weight"))
   [.ret (.call 27 [.bor 1,.bor 2])]
   [],
  .ite (.cmp .eq (.bor 2) (cs "moth"))
   [.ret (.and (.cmp .eq (.bor 3) (cs "bite")) (.call 39 [.bor 0,.bor 1,(cs "moth")]))]
   [],
  .ite (.cmp .eq (.bor 3) (cs "pairs"))
   [.ret (.call 16 [(ix 0 1),.bor 1])]
   [],
  .ite (.cmp .eq (.bor 3) (cs "cases"))
   [.ret (.and (.not (.call 6 [.bor 1])) (.call 40 [(ix 0 1),.bor 1,(cs "moth")]))]
   [],
  .ite (.cmp .eq (.bor 3) (cs "parts"))
   [.ret (.and (.call 41 [(ix 0 1),.bor 1]) (.call 42 [(ix 0 1)]))]
   [],
  .ret (.cst (.bl false))]⟩
noncomputable def bW:MD:=⟨"good_for_weaver",["paper","rest","turn"],["paper","rest","turn","word"],
  [.set 3 (ix 0 0),
  .ite (.cmp .eq (.bor 3) (cs "whole"))
   [.ret (.call 6 [.bor 1])]
   [],
  .ite (.cmp .eq (.bor 3) (cs "weight"))
   [.ret (.call 29 [.bor 1,.bor 2])]
   [],
  .ite (.cmp .eq (.bor 3) (cs "fewer"))
   [.ret (.and (.call 14 [(ix 0 1),.bor 1]) (.call 36 [(ix 0 2),(ix 0 1),.bor 2,(cs "weaver")]))]
   [],
  .ite (.cmp .eq (.bor 2) (cs "weaver"))
   [.ret (.and (.cmp .eq (.bor 3) (cs "knot")) (.call 39 [.bor 0,.bor 1,(cs "weaver")]))]
   [],
  .ite (.cmp .eq (.bor 3) (cs "cases"))
   [.ret (.and (.cmp .gt (.blt .len [(.call 5 [.bor 1])]) (ci 0)) (.call 40 [(ix 0 1),.bor 1,(cs "weaver")]))]
   [],
  .ite (.cmp .eq (.bor 3) (cs "either"))
   [.ret (.call 43 [.bor 0,.bor 1])]
   [],
  .ret (.cst (.bl false))]⟩
noncomputable def nY:MD:=⟨"move_is_good",["paper","rest","hand"],["paper","rest","hand"],
  [.ret (.call 36 [(ix 0 2),(.call 9 [.bor 1,.bor 2,(ix 0 1)]),(.call 8 [.bor 2]),.bor 2])]⟩
noncomputable def aP:List MS:=[.ite (.not (.call 36 [.bor 5,(.call 10 [.bor 1,.bor 2,.bor 3,.bor 4]),(.call 8 [.bor 2]),.bor 2]))
   [.ret (.cst (.bl false))]
   []]
noncomputable def gP:MD:=⟨"cases_are_good",["rows","rest","hand"],["rows","rest","hand","hole","reply","paper"],
  [.ite (.cmp .ne (.comp .seq [.bor 0] [] (.cst (.bl true)) (ix 0 0)) (.call 5 [.bor 1]))
   [.ret (.cst (.bl false))]
   [],
  .forT [3,4,5] .seq [.bor 0] aP,
  .ret (.cst (.bl true))]⟩
noncomputable def fO:MD:=⟨"parts_stand_for",["rows","rest"],["rows","rest","rests","strips"],
  [.set 2 (.comp .seq [.bor 0] [] (.cst (.bl true)) (ix 0 0)),
  .set 3 (.call 18 [.bor 2]),
  .ite (.or (.cmp .gt (.blt .len [.bor 3]) (.blt .len [.bor 1])) (.not (.call 19 [.bor 2])))
   [.ret (.cst (.bl false))]
   [],
  .ret (.and (.call 11 [(.call 5 [.bor 1]),(.call 5 [.bor 3])]) (.call 14 [.bor 1,.bor 3]))]⟩
noncomputable def bM:List MS:=[.ite (.not (.call 36 [.bor 2,.bor 1,(cs "weaver"),(cs "moth")]))
   [.ret (.cst (.bl false))]
   []]
noncomputable def lr:MD:=⟨"parts_are_good",["rows"],["rows","rest","paper"],
  [.forT [1,2] .seq [.bor 0] bM,
  .ret (.cst (.bl true))]⟩
noncomputable def gR:MD:=⟨"either_is_good",["paper","rest"],["paper","rest","one","two"],
  [.set 2 (ix 0 1),
  .set 3 (ix 0 3),
  .ite (.or (.not (.call 19 [(.lst [.var 2,.var 3])])) (.or (.not (.call 14 [.bor 2,.bor 1])) (.not (.call 14 [.bor 3,.bor 1]))))
   [.ret (.cst (.bl false))]
   [],
  .ret (.and (.call 36 [(ix 0 2),.bor 2,(cs "weaver"),(cs "weaver")]) (.call 36 [(ix 0 4),.bor 3,(cs "weaver"),(cs "weaver")]))]⟩
noncomputable def nZ:MD:=⟨"_law_cell",["script","k"],["script","k"],
  [.ite (.cmp .lt (.bor 1) (.blt .len [.bor 0]))
   [.ret (.idx (.bor 0) (.bor 1))]
   [],
  .ret (ci 0)]⟩
noncomputable def lK:MD:=⟨"_law_mixed",["cell","by"],["cell","by"],
  [.ret (.bin .mod (.bin .mul (.bin .mod (.bor 0) (ci 2305843009213693951)) (.bor 1)) (ci 2305843009213693951))]⟩
noncomputable def gh:MD:=⟨"_law_knotted",["rest","hole"],["rest","hole"],
  [.ret (.blt .tupleOf [(.blt .sorted [(.comp .seq [.bor 0] [1] (.cst (.bl true)) (.blt .tupleOf [(.comp .seq [.bor 0] [1] (.cmp .ne (.bor 0) (.bor 1)) (.var 0))]))])])]⟩
noncomputable def kA:MD:=⟨"_law_bitten",["rest","hole"],["rest","hole"],
  [.ret (.blt .tupleOf [(.comp .seq [.bor 0] [1] (.cmp .notIn (.bor 1) (.bor 0)) (.var 0))])]⟩
noncomputable def cX:List MS:=[.ite (.cmp .notIn (.bor 3) (.bor 1))
   [.append 1 (.var 3)]
   []]
noncomputable def d5:List MS:=[.for1 3 .seq [.bor 2] cX]
noncomputable def lL:MD:=⟨"_law_holes",["rest"],["rest","found","strip","hole"],
  [.setOwn 1 (.lst []),
  .for1 2 .seq [.bor 0] d5,
  .ret (.blt .sorted [.bor 1])]⟩
noncomputable def dF:List MS:=[.ite (.cmp .notIn (.bor 2) (.bor 1))
   [.ret (.cst (.bl false))]
   []]
noncomputable def eU:MD:=⟨"_law_within",["some","others"],["some","others","hole"],
  [.for1 2 .seq [.bor 0] dF,
  .ret (.cst (.bl true))]⟩
noncomputable def fu:List MS:=[.ite (.not (.blt .any [(.comp .seq [.bor 1] [3] (.cst (.bl true)) (.call 49 [.bor 0,.bor 1]))]))
   [.set 4 (.comp .seq [.bor 3] [2] (.cmp .notIn (.bor 0) (.bor 1)) (.var 0)),
   .ite (.cmp .gt (.blt .len [.bor 4]) (ci 1))
    [.append 1 (.tup [(ix 4 0),(ix 4 1)]),
    .set 2 (.bin .add (.bor 2) (.slice (.bor 4) (.cst .non) (ci 2)))]
    []]
   []]
noncomputable def kB:MD:=⟨"_law_greedy",["rest"],["rest","pairs","used","strip","fresh"],
  [.setOwn 1 (.lst []),
  .set 2 (.lst []),
  .for1 3 .seq [.bor 0] fu,
  .ret (.blt .tupleOf [.bor 1])]⟩
noncomputable def fP:List MS:=[.set 4 (.blt .sum [(.comp .seq [.bor 0] [3] (.cmp .isIn (.bor 1) (.bor 0)) (.bin .shr (.bin .pow (ci 2) (ci 60)) (.blt .len [.bor 0])))]),
  .ite (.cmp .gt (.bor 4) (.bor 2))
   [.set 2 (.var 4),
   .set 1 (.var 3)]
   []]
noncomputable def pT:MD:=⟨"_law_top",["rest"],["rest","best","most","hole","pulled"],
  [.set 1 (.cst .non),
  .set 2 (ci 0),
  .for1 3 .seq [(.call 48 [.bor 0])] fP,
  .ret (.var 1)]⟩
noncomputable def cY:List MS:=[.ite (.cmp .eq (.bor 1) (cs "weaver"))
   [.set 4 (.call 52 [(.call 46 [.bor 0,.bor 3]),(cs "moth")])]
   [.set 4 (.call 52 [(.call 47 [.bor 0,.bor 3]),(cs "weaver")])],
  .ite (.cmp .eq (ix 4 0) (.bor 1))
   [.ret (.tup [.var 1,(.tup [(.disp [("weaver","knot"),("moth","bite")] (.bor 1)),.var 3,(ix 4 1)])])]
   [],
  .append 2 (.tup [.var 3,(.idx (ix 4 1) (ci 1)),(.idx (ix 4 1) (ci 2))])]
noncomputable def eA:MD:=⟨"_law_tried",["rest","turn"],["rest","turn","rows","hole","found"],
  [.ite (.cmp .isIn (.tup []) (.bor 0))
   [.ret (.tup [(cs "weaver"),(.tup [(cs "whole")])])]
   [],
  .ite (.cmp .eq (.blt .len [.bor 0]) (ci 0))
   [.ret (.tup [(cs "moth"),(.tup [(cs "bare")])])]
   [],
  .setOwn 2 (.lst []),
  .for1 3 .seq [(.call 48 [.bor 0])] cY,
  .ret (.tup [(.disp [("weaver","moth"),("moth","weaver")] (.bor 1)),(.tup [(cs "cases"),(.blt .tupleOf [.bor 2])])])]⟩
noncomputable def bD:List MS:=[.set 10 (.bin .add (.bin .add (.bor 1) (.idx (.lst [(ci 0),(ci 4),(ci 8),(ci 0)]) (.bor 5))) (.bin .mod (.bor 4) (.bor 7))),
  .ite (.cmp .notIn (.bor 10) (.bor 8))
   [.append 8 (.var 10)]
   [],
  .set 4 (.bin .fdiv (.bor 4) (.bor 7))]
noncomputable def fQ:MD:=⟨"_law_block_strip",["cell","base","blocks","least"],["cell","base","blocks","least","left","block","size","many","strip","k","hole"],
  [.set 4 (.call 45 [.bor 0,(ci 1181783497276652981)]),
  .set 5 (.bin .mod (.bor 4) (.bor 2)),
  .set 4 (.bin .fdiv (.bor 4) (.bor 2)),
  .set 6 (.bin .add (.bor 3) (.bin .mod (.bor 4) (ci 3))),
  .set 4 (.bin .fdiv (.bor 4) (ci 3)),
  .set 7 (.idx (.lst [(ci 4),(ci 4),(ci 4),(ci 12)]) (.bor 5)),
  .setOwn 8 (.lst []),
  .for1 9 .rng [.bor 6] bD,
  .ret (.blt .tupleOf [(.blt .sorted [.bor 8])])]⟩
noncomputable def ii:MD:=⟨"_law_next",["tape"],["tape"],
  [.ite (.cmp .gt (.lenP 0) (ci 0))
   [.retXE (.fn 45 (.pop 0) [(ci 2049848353892358983)])]
   [],
  .retM (ci 0)]⟩
noncomputable def uT:MD:=⟨"_law_deed",["rest","hand","reply"],["rest","hand","reply"],
  [.ite (.cmp .isN (.bor 2) (.cst .non))
   [.ret (.var 0)]
   [],
  .ite (.cmp .eq (.bor 1) (cs "moth"))
   [.ret (.call 47 [.bor 0,.bor 2])]
   [],
  .ret (.call 46 [.bor 0,.bor 2])]⟩
noncomputable def fR:MD:=⟨"_law_reply",["rest","pick"],["rest","pick"],
  [.ite (.cmp .eq (.bin .mod (.bor 1) (ci 8)) (ci 0))
   [.ret (.cst .non)]
   [],
  .ite (.cmp .eq (.bin .mod (.bor 1) (ci 8)) (ci 1))
   [.ret (.bin .mod (.bin .fdiv (.bor 1) (ci 8)) (ci 60))]
   [],
  .ret (.call 51 [.bor 0])]⟩
noncomputable def d6:List MS:=[.ite (.blt .any [(.comp .seq [.bor 5] [2] (.cst (.bl true)) (.blt .any [(.comp .seq [.bor 0] [1] (.cst (.bl true)) (.cmp .isIn (.bor 0) (.bor 1)))]))])
   [.set 3 (.bin .add (.bor 3) (.bor 5))]
   [.append 4 (.var 5)]]
noncomputable def d7:List MS:=[.set 3 (.lst []),
  .setOwn 4 (.lst []),
  .for1 5 .seq [.bor 1] d6,
  .set 1 (.bin .add (.bor 4) (.lst [(.bin .add (.bor 3) (.lst [.var 2]))]))]
noncomputable def lM:MD:=⟨"_law_split",["rest"],["rest","parts","strip","near","far","part"],
  [.set 1 (.lst []),
  .for1 2 .seq [.bor 0] d7,
  .ret (.comp .seq [.bor 1] [] (.cst (.bl true)) (.blt .tupleOf [(.blt .sorted [.bor 0])]))]⟩
noncomputable def lN:MD:=⟨"_law_plain",["rest","turn","hand","pick"],["rest","turn","hand","pick"],
  [.ite (.cmp .eq (.bor 2) (cs "weaver"))
   [.ret (.idx (.lst [(.tup [(cs "weight")]),(.tup [(cs "whole")])]) (.blt .intOf [(.cmp .isIn (.tup []) (.bor 0))]))]
   [],
  .ite (.cmp .eq (.blt .len [.bor 0]) (ci 0))
   [.ret (.tup [(cs "bare")])]
   [],
  .ite (.and (.cmp .eq (.bor 1) (cs "weaver")) (.cmp .eq (.bin .mod (.bor 3) (ci 2)) (ci 0)))
   [.ret (.tup [(cs "pairs"),(.call 50 [.bor 0])])]
   [],
  .ret (.tup [(cs "weight")])]⟩
noncomputable def gi:List MS:=[.set 6 (.call 55 [.bor 1,.bor 4,.bor 5]),
  .setX 7 (.fn2 56 (.var 6) (.call 54 [true] [.bor 0])),
  .appX 3 (.tup [(.pure (.var 5)),(.pure (.var 7)),(.call 62 [true,false,false,false,false] [.bor 0,(.call 55 [.bor 6,.bor 2,.bor 7]),.bor 4,.bor 2,(ci 0)])])]
noncomputable def lO:MD:=⟨"_law_cases",["tape","rest","hand"],["tape","rest","hand","rows","other","hole","behind_v","reply"],
  [.setOwn 3 (.lst []),
  .set 4 (.disp [("weaver","moth"),("moth","weaver")] (.bor 2)),
  .for1 5 .seq [(.call 48 [.bor 1])] gi,
  .retM (.tup [(cs "cases"),(.blt .tupleOf [.bor 3])])]⟩
noncomputable def gj:MD:=⟨"_law_of_moth",["tape","rest","turn","pick","deep"],["tape","rest","turn","pick","deep","reply","parts"],
  [.ite (.cmp .eq (.bor 2) (cs "moth"))
   [.set 5 (.call 56 [.bor 1,.bor 3]),
   .retXE (.tup [(.pure (cs "bite")),(.pure (.var 5)),(.call 62 [true,false,false,false,false] [.bor 0,(.call 55 [.bor 1,(cs "moth"),.bor 5]),(cs "weaver"),(cs "moth"),.bor 4])])]
   [],
  .ite (.and (.cmp .eq (.bin .mod (.bor 3) (ci 2)) (ci 0)) (.cmp .lt (.blt .len [(.call 48 [.bor 1])]) (ci 5)))
   [.retXE (.call 59 [true,false,false] [.bor 0,.bor 1,(cs "moth")])]
   [],
  .set 6 (.call 57 [.bor 1]),
  .retXE (.tup [(.pure (cs "parts")),(.tupOf (.compS (.var 6) [0,4] .pair (.var 0) 62 [true,false,false,false,false] [.bor 1,.bor 0,(cs "weaver"),(cs "moth"),.bor 2]))])]⟩
noncomputable def eG:MD:=⟨"_law_of_weaver",["tape","rest","turn","pick","deep"],["tape","rest","turn","pick","deep","some","reply","parts","one","two","left"],
  [.ite (.cmp .eq (.bin .mod (.bor 3) (ci 3)) (ci 0))
   [.set 5 (.blt .tupleOf [(.comp .rng [(.blt .len [.bor 1])] [1,3] (.cmp .gt (.bin .mod (.bin .shr (.bor 2) (.bin .add (.bor 0) (ci 8))) (ci 4)) (ci 0)) (.idx (.bor 1) (.bor 0)))]),
   .retXE (.tup [(.pure (cs "fewer")),(.pure (.var 5)),(.call 62 [true,false,false,false,false] [.bor 0,.bor 5,.bor 2,(cs "weaver"),.bor 4])])]
   [],
  .ite (.cmp .eq (.bor 2) (cs "weaver"))
   [.set 6 (.call 56 [.bor 1,(.bin .fdiv (.bor 3) (ci 3))]),
   .retXE (.tup [(.pure (cs "knot")),(.pure (.var 6)),(.call 62 [true,false,false,false,false] [.bor 0,(.call 55 [.bor 1,(cs "weaver"),.bor 6]),(cs "moth"),(cs "weaver"),.bor 4])])]
   [],
  .ite (.and (.cmp .eq (.bin .mod (.bor 3) (ci 3)) (ci 1)) (.cmp .lt (.blt .len [(.call 48 [.bor 1])]) (ci 5)))
   [.retXE (.call 59 [true,false,false] [.bor 0,.bor 1,(cs "weaver")])]
   [],
  .set 7 (.call 57 [.bor 1]),
  .ite (.cmp .lt (.blt .len [.bor 7]) (ci 2))
   [.retM (.tup [(cs "weight")])]
   [],
  .set 8 (.idx (.bor 7) (.bin .mod (.bin .fdiv (.bor 3) (ci 3)) (.blt .len [.bor 7]))),
  .set 9 (.idx (.bor 7) (.bin .mod (.bin .add (.bin .fdiv (.bor 3) (ci 3)) (ci 1)) (.blt .len [.bor 7]))),
  .setX 10 (.call 62 [true,false,false,false,false] [.bor 0,.bor 8,(cs "weaver"),(cs "weaver"),.bor 4]),
  .retXE (.tup [(.pure (cs "either")),(.pure (.var 8)),(.pure (.var 10)),(.pure (.var 9)),(.call 62 [true,false,false,false,false] [.bor 0,.bor 9,(cs "weaver"),(cs "weaver"),.bor 4])])]⟩
noncomputable def fT:MD:=⟨"_law_paper",["tape","rest","turn","hand","deep"],["tape","rest","turn","hand","deep","pick","found"],
  [.setX 5 (.call 54 [true] [.bor 0]),
  .ite (.and (.cmp .eq (.bin .mod (.bor 5) (ci 2)) (ci 0)) (.cmp .lt (.blt .len [(.call 48 [.bor 1])]) (ci 5)))
   [.set 6 (.call 52 [.bor 1,.bor 2]),
   .ite (.cmp .eq (ix 6 0) (.bor 3))
    [.retM (ix 6 1)]
    []]
   [],
  .ite (.or (.cmp .eq (.bor 4) (ci 0)) (.cmp .eq (.bin .mod (.bin .fdiv (.bor 5) (ci 2)) (ci 8)) (ci 0)))
   [.retM (.call 58 [.bor 1,.bor 2,.bor 3,(.bin .fdiv (.bor 5) (ci 16))])]
   [],
  .ite (.cmp .eq (.bor 3) (cs "moth"))
   [.retXE (.call 60 [true,false,false,false,false] [.bor 0,.bor 1,.bor 2,(.bin .fdiv (.bor 5) (ci 16)),(.bin .sub (.bor 4) (ci 1))])]
   [],
  .retXE (.call 61 [true,false,false,false,false] [.bor 0,.bor 1,.bor 2,(.bin .fdiv (.bor 5) (ci 16)),(.bin .sub (.bor 4) (ci 1))])]⟩
noncomputable def dG:List MS:=[.ite (.cmp .lt (.blt .len [(.call 48 [.bor 13])]) (ci 5))
   [.set 14 (.call 52 [.bor 13,.bor 1]),
   .ite (.and (.cmp .eq (ix 14 0) (.bor 2)) (.cmp .eq (.bor 2) (cs "weaver")))
    [.append 10 (.tup [.var 8,(.tup [(cs "fewer"),.var 13,(ix 14 1)])])]
    [],
   .ite (.cmp .eq (ix 14 0) (.bor 2))
    [.append 10 (.tup [.var 13,(ix 14 1)])]
    [],
   .ite (.cmp .eq (.idx (.call 52 [.bor 13,(cs "weaver")]) (ci 0)) (cs "moth"))
    [.append 11 (.tup [.var 13,(.idx (.call 52 [.bor 13,(cs "weaver")]) (ci 1))]),
    .set 12 (.bin .add (.bor 12) (.blt .listOf [.bor 13]))]
    []]
   []]
noncomputable def dH:MD:=⟨"_law_stands",["script","turn","hand"],["script","turn","hand","way","by","room","cells","strips","rest","tape","found","rows","held","part","known","parts","longer"],
  [.set 3 (.call 45 [(.call 44 [.bor 0,(ci 0)]),(ci 1865811235122147685)]),
  .set 4 (.call 45 [(.call 44 [.bor 0,(ci 1)]),(ci 1442695040888963407)]),
  .set 5 (.idx (.lst [(ci 3),(ci 8)]) (.bin .mod (.bor 3) (ci 2))),
  .set 6 (.slice (.bor 0) (ci 2) (.bin .add (ci 2) (.bor 5))),
  .set 7 (.comp .seq [.bor 6] [4] (.cst (.bl true)) (.call 53 [.bor 0,(.bin .mod (.bor 1) (ci 49)),(.bin .add (ci 3) (.bin .mod (.bin .fdiv (.bor 1) (ci 49)) (ci 2))),(.bin .mod (.bin .fdiv (.bor 1) (ci 98)) (ci 3))])),
  .set 8 (.blt .tupleOf [(.blt .sorted [.bor 7])]),
  .setP 9 (.slice (.bor 0) (.bin .add (ci 2) (.bor 5)) (.cst .non)),
  .ownX 10 [(.tup [(.pure (.var 8)),(.call 62 [true,false,false,false,false] [.bor 9,.bor 8,.bor 1,.bor 2,(ci 3)])])],
  .setOwn 11 (.lst []),
  .set 12 (.lst []),
  .for1 13 .seq [(.call 57 [.bor 8])] dG,
  .set 15 (.tup [(cs "parts"),(.blt .tupleOf [.bor 11])]),
  .ite (.and (.cmp .eq (.bor 2) (cs "moth")) (.cmp .eq (.bor 1) (cs "moth")))
   [.set 15 (.tup [(cs "bite"),.cst .non,.var 15])]
   [],
  .ite (.cmp .eq (.bor 2) (cs "moth"))
   [.append 10 (.tup [(.blt .tupleOf [(.blt .sorted [.bor 12])]),.var 15])]
   [],
  .ite (.and (.cmp .eq (.bor 2) (cs "moth")) (.cmp .gt (.blt .len [.bor 12]) (ci 0)))
   [.set 16 (.blt .tupleOf [(.blt .sortedSet [(.bin .add (.blt .listOf [(ix 12 0)]) (.lst [(.bin .mod (.bor 4) (ci 60))]))])]),
   .append 10 (.tup [(.blt .tupleOf [(.blt .sorted [(.bin .add (.bor 12) (.lst [.var 16]))])]),.var 15])]
   [],
  .retOwn 10]⟩
noncomputable def fU:MD:=⟨"_law_first",["paper","rest","hand"],["paper","rest","hand","reply"],
  [.ite (.or (.cmp .eq (ix 0 0) (cs "bite")) (.cmp .eq (ix 0 0) (cs "knot")))
   [.ret (.tup [(ix 0 1),(.call 55 [.bor 1,.bor 2,(ix 0 1)]),(ix 0 2)])]
   [],
  .ite (.cmp .eq (ix 0 0) (cs "weight"))
   [.set 3 (.call 51 [.bor 1]),
   .ret (.tup [.var 3,(.call 55 [.bor 1,.bor 2,.bor 3]),.var 0])]
   [],
  .ite (.cmp .eq (ix 0 0) (cs "fewer"))
   [.ret (.call 64 [(ix 0 2),(ix 0 1),.bor 2])]
   [],
  .ret (.tup [.cst .non,.var 1,.var 0])]⟩
noncomputable def eV:List MS:=[.ite (.cmp .isIn (.bor 1) (.bor 2))
   [.ret (.bin .sub (.bin .add (ix 2 0) (ix 2 1)) (.bor 1))]
   []]
noncomputable def n0:MD:=⟨"_law_mate",["pairs","hole"],["pairs","hole","pair"],
  [.for1 2 .seq [.bor 0] eV,
  .ret (.cst .non)]⟩
noncomputable def cR:List MS:=[.set 6 (.var 5),
  .ite (.cmp .isIn (.bor 1) (.call 48 [(ix 5 0)]))
   [.set 7 (.call 68 [(ix 5 1),(ix 5 0),(cs "moth"),.bor 1]),
   .set 3 (ix 7 0),
   .set 6 (.tup [(ix 7 1),(ix 7 2)])]
   [],
  .append 2 (.var 6),
  .set 4 (.bin .add (.bor 4) (.blt .listOf [(ix 6 0)]))]
noncomputable def iY:MD:=⟨"_law_of_parts",["rows","hole"],["rows","hole","turned","reply","strips","row","kept","found"],
  [.setOwn 2 (.lst []),
  .set 3 (.cst .non),
  .set 4 (.lst []),
  .for1 5 .seq [.bor 0] cR,
  .ret (.tup [.var 3,(.blt .tupleOf [(.blt .sorted [.bor 4])]),(.tup [(cs "parts"),(.blt .tupleOf [.bor 2])])])]⟩
noncomputable def iZ:MD:=⟨"_law_of_cases",["rows","rest","hand","hole"],["rows","rest","hand","hole","other","known","row"],
  [.set 4 (.disp [("weaver","moth"),("moth","weaver")] (.bor 2)),
  .set 5 (.comp .seq [.bor 0] [] (.cst (.bl true)) (ix 0 0)),
  .ite (.and (.cmp .notIn (.bor 3) (.bor 5)) (.cmp .eq (.bor 2) (cs "moth")))
   [.ret (.tup [.cst .non,.var 1,(.tup [(cs "cases"),.var 0])])]
   [],
  .set 6 (ix 0 0),
  .ite (.cmp .isIn (.bor 3) (.bor 5))
   [.set 6 (.idx (.bor 0) (.indexOf 5 (.bor 3)))]
   [],
  .ret (.tup [(ix 6 1),(.call 55 [(.call 55 [.bor 1,.bor 4,(ix 6 0)]),.bor 2,(ix 6 1)]),(ix 6 2)])]⟩
noncomputable def eW:MD:=⟨"_law_answer",["paper","rest","hand","hole"],["paper","rest","hand","hole","word","behind_v","reply"],
  [.set 4 (ix 0 0),
  .ite (.or (.cmp .eq (.bor 4) (cs "bare")) (.cmp .eq (.bor 4) (cs "whole")))
   [.ret (.tup [.cst .non,.var 1,.var 0])]
   [],
  .ite (.cmp .eq (.bor 4) (cs "parts"))
   [.ret (.call 66 [(ix 0 1),.bor 3])]
   [],
  .ite (.cmp .eq (.bor 4) (cs "cases"))
   [.ret (.call 67 [(ix 0 1),.bor 1,.bor 2,.bor 3])]
   [],
  .ite (.cmp .eq (.bor 4) (cs "fewer"))
   [.ret (.call 68 [(ix 0 2),(ix 0 1),.bor 2,.bor 3])]
   [],
  .ite (.cmp .eq (.bor 4) (cs "either"))
   [.ite (.cmp .isIn (.bor 3) (.call 48 [(ix 0 1)]))
    [.ret (.call 64 [(ix 0 4),(ix 0 3),.bor 2])]
    [],
   .ret (.call 64 [(ix 0 2),(ix 0 1),.bor 2])]
   [],
  .set 5 (.call 55 [.bor 1,(.disp [("weaver","moth"),("moth","weaver")] (.bor 2)),.bor 3]),
  .set 6 (.call 51 [.bor 5]),
  .ite (.cmp .eq (.bor 4) (cs "pairs"))
   [.set 6 (.call 65 [(ix 0 1),.bor 3])]
   [],
  .ret (.tup [.var 6,(.call 55 [.bor 5,.bor 2,.bor 6]),.var 0])]⟩
noncomputable def qQ:List MS:=[.set 6 (.call 31 [(ix 4 1),(ix 4 0),.bor 1,.bor 5]),
  .ite (.or (.not (.blt .isTuple [.bor 6])) (.cmp .ne (.bor 6) (.call 68 [(ix 4 1),(ix 4 0),.bor 1,.bor 5])))
   [.ret (.cst (.bl false))]
   [],
  .ite (.blt .isBool [(ix 6 0)])
   [.ret (.cst (.bl false))]
   []]
noncomputable def qR:List MS:=[.ite (.call 36 [(ix 4 1),(ix 4 0),.bor 2,.bor 1])
   [.for1 5 .seq [(.bin .add (.call 48 [(ix 4 0)]) (.lst [.var 3]))] qQ]
   []]
noncomputable def v_:MD:=⟨"law",["script"],["script","hand","other","more","stand","hole","found"],
  [.set 1 (.idx (.lst [(cs "moth"),(cs "weaver")]) (.bin .mod (.call 45 [(.call 44 [.bor 0,(ci 0)]),(ci 2049848353892358983)]) (ci 2))),
  .set 2 (.disp [("weaver","moth"),("moth","weaver")] (.bor 1)),
  .set 3 (.bin .mod (.call 45 [(.call 44 [.bor 0,(ci 1)]),(ci 2049848353892358983)]) (ci 60)),
  .for1 4 .seq [(.call 63 [.bor 0,.bor 2,.bor 1])] qR,
  .ret (.cst (.bl true))]⟩
noncomputable def defs:List MD:=[ig,lI,iy,lm,sN,nQ,nR,ln,ku,nS,jr,lq,d4,pP,nT,kw,kz,Al,nU,lJ,iV,Am,v9,nV,iz,pS,jt,gc,nW,cZ,mB,iX,nX,dE,fN,fq,FX,c7,bW,nY,gP,fO,lr,gR,nZ,lK,gh,kA,lL,eU,kB,pT,eA,fQ,ii,uT,fR,lM,lN,lO,gj,eG,fT,dH,fU,n0,iY,iZ,eW,v_]
noncomputable def tab:Tab:=⟨defs.map (·.name),[("UNIT",(.int 1152921504606846976))],[[],[],[],[],[],[],[],[],[],[],[],[],[],[],[],[],[],[],[],[],[],[],[],[],[],[],[],[],[],[],[],[],[],[],[],[],[],[],[],[],[],[],[],[],[],[],[],[],[],[],[],[],[],[],[],[],[],[],[],[],[],[],[],[],[],[],[],[],[],[]]⟩
noncomputable def cellOf(ns:List Int)(k:Int):Int:=ns.getD k.toNat 0
def FY(n)(m)(ns)(k)(z:bC (some m)=some (ofL ns))(J:0<=k):aa defs (n+1) 44 [m,.val (.int k)]=some (.int (cellOf ns k)):=by
 rw[ac rfl rfl];unfold cellOf;simp[nZ,exs,ex,ev,evs,evB,z];by_cases h:k<(ns.length:Int)
 .have h2:k.toNat<ns.length:=by omega
  simp[h,fm J h,h2]
 .have h2:ns.length<=k.toNat:=by omega
  simp[h,h2]
noncomputable def gU(c b:Int):Int:=c % 2305843009213693951*b % 2305843009213693951
def ij(c b):0<=gU c b:=Lb _ (by decide)
def qS(n)(c b):aa defs (n+1) 45 [.val (.int c),.val (.int b)]=some (.int (gU c b)):=by
 rw[ac rfl rfl];have z:(-18446744073709551616<c % 2305843009213693951/\c % 2305843009213693951<18446744073709551616\/-18446744073709551616<b/\b<18446744073709551616):=.inl ⟨by omega,by omega⟩;simp[lK,exs,ex,ev,z,gU]
theorem n4{α:Type}{g:α->PV}{body:PV->Rho->R}{I:Rho->Prop}{p:α->Bool}{r:α->PV}:∀{xs:List α}{W},I W ->
  (∀x∈xs,∀W,I W->(p x=true->body (g x) W=.ret (r x))/\(p x=false->∃l,I l/\body (g x) W=.next l)) ->
  (∀x,xs.find? p=some x->aq body (xs.map g) W=.ret (r x))/\(xs.find? p=none->∃l,I l/\aq body (xs.map g) W=.next l)
 | [],W,J,_=>⟨λx h=>(by cases h),λ_=>⟨W,J,rfl⟩⟩
 |x::xs,W,J,h=>by
  obtain⟨h1,h2⟩:=h x (.head _) W J;rw[JW,aq];cases z:p x with
  |true =>
   rw[h1 z,Mn z];exact⟨λy e=>(by cases e;rfl),λe=>(by cases e)⟩
  |false =>
   obtain⟨l,U,e⟩:=h2 z;rw[e,Ls (by simp[z])];exact n4 (xs:=xs) U λy Y=>h y (.tail _ Y)
def dJ(h:(evs cal src W).bind (bm k)=some xs):ex cal (.for1 i k src body) W=(aq (λx l=>exs cal body (put l i (.val x))) xs (br src W)).back src W:=by
 rw[ex,h]
def mC(h:(evs cal src W).bind (bm k)=some xs):ex cal (.forT is k src body) W=(aq (λx l=>bZ (cE is x l) λz=>exs cal body z) xs (br src W)).back src W:=by
 rw[ex,h]
def ar(cal)(m)(ms)(W):exs cal (m::ms) W=(ex cal m W).andThen λl=>exs cal ms l:=rfl
def aH(h:ev cal e W=some v):ev cal (.blt b [e]) W=aD b [v]:=by
 rw[ev,evs,h,bind_some,evs,map_some,bind_some]
def ik(h:ev cal e W=some v):ex cal (.set i e) W=.next (put W i (.val v)):=by
 rw[ex,h];rfl
def db(h:ev cal a W=some (.bl p))(h':p=true->ev cal b W=some (.bl q)):ev cal (.and a b) W=some (.bl (p&&q)):=by
 rw[ev,h];cases p<;>first|rfl|simp[h' rfl]
def dc(h:ev cal e W=some v):ex cal (.ret e) W=.ret v:=by
 rw[ex,h];rfl
def ab(h:evA cal es W=some vs)(h':cal f vs=some v):ev cal (.call f es) W=some v:=by
 rw[ev,h,bind_some,h']
def cT(h:ev cal e W=some (.lst xs)):ex cal (.setOwn i e) W=.next (put W i (.own xs)):=by
 rw[ex,h];rfl
def cq{α:Type}{xs:List α}{g h:α->PV}(h1:evs cal src W=some vs)(h2:bm k vs=some (xs.map g))(z:xs.length<=10000)
  (J:∀x∈xs,ev cal elt (cj js W (g x))=some (h x)):ev cal (.comp k src js (.cst (.bl true)) elt) W=some (.lst (xs.map h)):=by
 rw[ev,h1,bind_some,h2,bind_some,if_pos (by simpa using z),ie (h:=h) (λx _=>by simp[ev]) J]
 rfl
def de(cal)(v)(W):ev cal (.cst v) W=some v:=rfl
def cv(h:ev cal a W=some x)(h':ev cal b W=some y):ev cal (.bin op a b) W=ff op x y:=by
 rw[ev,h,bind_some,h',bind_some]
def bP(h:ev cal a W=some x)(h':ev cal b W=some y):ev cal (.cmp op a b) W=(cD op x y).map .bl:=by
 rw[ev,h,bind_some,h',bind_some]
def gX(h:ev cal a W=some (.int x))(z:0<k):ev cal (.cmp .eq (.bin .mod a (ci k)) (ci j)) W=some (.bl (x % k==j)):=by
 rw[bP (cv h (de _ _ _) |>.trans (by rw[Cz,if_pos z])) (de _ _ _),z6,jc]
 rfl
def uU(h:ev cal a W=some (.bl b)):evB cal a W=some b:=by simp_all [evB]
def qT(z:∀i,e≠.bor i)(h:ev cal e W=some v):evA cal [e] W=some [.val v]:=by simp_all [evA]
def sO(z:∀i,e≠.bor i)(h:ev cal e W=some v)(h':cal f [.val v]=some r):ev cal (.call f [e]) W=some r:=ab (qT z h) h'
def dg(h:ev cal a W=some x)(h':ev cal i W=some y):ev cal (.idx a i) W=fF x y:=by
 rw[ev,h,bind_some,h',bind_some]
def uV(h:body x W=.next z):aq body (x::xs) W=aq body xs z:=by rw[aq,h]
noncomputable def sub(a b:List Int):Bool:=a.all λx=>decide (x∈b)
def qU :sub a b=true ↔ ∀x∈a,x∈b:=by simp[sub]
def lu(n)(m U)(a b)(J:(bC (some m)).bind bg=some (a.map .int))(z:(bC (some U)).bind bg=some (b.map .int))(Z:a.length<=4000)(hb:b.length<=4000)(hd:(dd b).length<=60):aa defs (n+1) 11 [m,U]=some (.bl (sub b a)):=by
 rw[ac (d:=lq) rfl rfl];have h:((((dd b).filter λx=>!decide (x∈a)).length:Int)==0)=sub b a:=by
  rw[Kv,J0,qU];constructor
  .intro h x hx;have h2:(dd b).filter (λx=>!decide (x∈a))=[]:=Mh (by omega);have:=M7.mp h2 x (iT.mpr hx);simpa using this
  .intro h;have h2:(dd b).filter (λx=>!decide (x∈a))=[]:=M7.mpr λx hx=>by simpa using h x (iT.mp hx)
   rw[h2];rfl
 cases h1:bC (some m)with
 |none=>rw[h1]at J;cases J
 |some v =>
  cases h2:bC (some U)with
  |none=>rw[h2]at z;cases z
  |some Y =>
   rw[h1]at J;rw[h2]at z;have J:bg v=some (a.map .int):=J;have z:bg Y=some (b.map .int):=z;have e:aD .lenSetSub [Y,v]=some (.int ((dd b).filter λx=>!decide (x∈a)).length):=by
    show((bg Y).bind λxs=>(bf xs).bind λns=>(bg v).bind λys=>(bf ys).bind λms=>if ns.length<=4000/\ms.length<=4000/\(dd ns).length<=60 then some (PV.int ((dd ns).filter λn=>!decide (n∈ms)).length)else none)=_;rw[z,J];simp[bt,Z,hb,hd]
   simp[lq,exs,ex,ev,evs,h1,h2,e,h]
theorem kC(cal)(a):∀(R:LL) g (z:∀t,bg (g t)=some (t.map .int)) acc s,acc.length+R.flatten.length<=10000 ->
  ∃s',aq (λx l=>exs cal bL (put l 2 (.val x))) (R.map g) [some a,some (.own (acc.map .int)),s]=.next [some a,some (.own ((acc++R.flatten).map .int)),s']
 | [],g,z,acc,s,_=>⟨s,by simp⟩
 |t::R,g,z,acc,s,h=>by
  rw[JW,aq];rw[flatten_cons,tr]at h;have h2:acc.length+t.length<=10000:=by omega
  have e:exs cal bL (put [some a,some (.own (acc.map .int)),s] 2 (.val (g t)))=.next [some a,some (.own ((acc++t).map .int)),sv (g t)]:=by
   simp[bL,exs,ex,ev,z,h2]
  rw[e];obtain⟨s',J⟩:=kC cal a R g z (acc++t) (sv _) (by rw[tr];omega);exact⟨s',by rw[flatten_cons,<- Kn];exact J⟩
def lv(n)(m)(ho:∀xs,m≠.own xs)(R:LL)(g)(U:∀t,bg (g t)=some (t.map .int))(z:(bC (some m)).bind bg=some (R.map g))(Y:R.flatten.length<=10000):aa defs (n+1) 0 [m]=some (ofL R.flatten):=by
 rw[ac rfl rfl];obtain⟨s',e⟩:=kC (aa defs n) m R g U [] none (by simpa using Y);simp only[map_nil]at e;cases J:bC _ with
 |none=>rw[J]at z;cases z
 |some v =>
  rw[J]at z;have z:bg v=some _:=z;cases m<;>first|exact absurd rfl (ho _)|simp[ig,exs,ex,ev,evs,br,J,z,e,aQ,-map_flatten]
theorem gY:∀l,(dd l).length<=l.length
 | []=>pb _
 |x::r=>by
  have:=gY r;rw[dd]
  grind
theorem kD:∀l,(dd l).length=l.length ↔ l.Nodup
 | []=>by simp[dd]
 |x::r=>by
  have h:=gY r;have ih:=kD r;rw[dd,Ky,<- ih];by_cases q:x∈dd r
  .rw[if_pos q,length_cons];exact⟨λz=>by omega,λz=>absurd (iT.mp q) z.1⟩
  .rw[if_neg q,length_cons,length_cons];exact⟨λz=>⟨λw=>q (iT.mpr w),by omega⟩,λz=>by omega⟩
def An(n)(l)(z:l.length<=4000):aa defs (n+1) 1 [.val (ofL l)]=some (.bl (decide l.Nodup)):=by
 rw[ac rfl rfl];have e:aD .lenSet [ofL l]=some (.int (dd l).length):=by
  show((bg (ofL l)).bind λxs=>(bf xs).bind λns=>if ns.length<=4000 then some (PV.int (dd ns).length)else none)=_;rw[fM,bind_some,bt,bind_some,if_pos z]
 have h:(((dd l).length:Int)==(l.length:Int))=decide l.Nodup:=by
  rw[Kv,J0,KY,<- kD];omega
 simp[lI,exs,ex,ev,evs,e,h]
def OkP(R:LL):Prop:=∀t∈R,∃x y,t=[x,y]/\(0<=x/\x<=59)/\0<=y/\y<=59
def CG(h:t.length<=2):(dd t).length<=60:=wh (gY t) (by omega)
def qV{R:LL}(h:OkP R):∀t∈R,t.length=2:=λt z=>by obtain⟨x,y,rfl,_⟩:=h t z;rfl
theorem Dw:∀{R},OkP R->R.flatten.length=2*R.length
 | [],_=>rfl
 |t::R,h=>by
  rw[flatten_cons,tr,qV h t (.head _),Dw λu z=>h u (.tail _ z),length_cons];omega
def uW(n)(s)(v)(R)(hv:bg v=some (R.map ofS))(z:OkP R)(Y:R.length<=60)(hs:s.length<=4000):aa defs (n+2) 15 [.val (ofS s),.val v]=some (.bl (R.any λt=>sub t s)):=by
 rw[ac (d:=kw) rfl rfl];have U:ev (aa defs (n+1)) (.comp .seq [.bor 1] [0] (.cst (.bl true)) (.call 11 [.bor 1,.bor 0])) [sv (ofS s),sv v]=some (.lst (R.map λt=>.bl (sub t s))):=by
  refine cq (g:=ofS) (vs:=[v]) (by simp[evs,ev]) hv (by omega) λt J=>?_
  refine ab (vs:=[.val (ofS s),.val (ofS t)]) (by simp[evA,cj]) (lu n _ _ s t rfl rfl hs (by have:=qV z t J;omega) (CG (by have:=qV z t J;omega)))
 show aS (exs _ [.ret _] _)=_;rw[ar,dc (v:=.bl (R.any λt=>sub t s))]
 .rfl
 .show ev (aa defs (n+1)) (.blt .any [_]) [sv (ofS s),sv v]=_;rw[aH U,qO,show(R.map λt=>PV.bl (sub t s))=(R.map λt=>sub t s).map PV.bl from by rw[J2];rfl,dQ];simp
noncomputable def Ao(R A:LL):Bool:=decide R.flatten.Nodup&&A.all λs=>R.any λt=>sub t s
def qW(n)(v)(R A)(hv:bg v=some (R.map ofS))(J:OkP R)(Y:R.length<=60)(Z:∀t∈A,ce t)(hA:A.length<=60):aa defs (n+3) 16 [.val v,.val (ofR A)]=some (.bl (Ao R A)):=by
 rw[ac (d:=kz) rfl rfl];have hf:=Dw J;have em:=lv (n+1) (.val v) (λ_ z=>by cases z) R ofS (λ_=>rfl) (by simpa using hv) (by omega);simp only[Nat.add_assoc,Nat.reduceAdd]at em;have U:=An (n+1) R.flatten (by omega);simp only[Nat.add_assoc,Nat.reduceAdd]at U;show aS (exs (aa defs (n+2)) (_::[_]) [sv v,sv (ofR A)])=_;have e1:ev (aa defs (n+2)) (.call 1 [(.call 0 [.bor 0])]) [sv v,sv (ofR A)]=some (.bl (decide R.flatten.Nodup)):=
  ab (vs:=[.val (ofL R.flatten)]) (by
   have a1:ev (aa defs (n+2)) (.call 0 [.bor 0]) [sv v,sv (ofR A)]=some (ofL R.flatten):=ab (vs:=[.val v]) (by simp[evA]) em;simp only[evA,a1]
   rfl) U
 have ec:ev (aa defs (n+2)) (.comp .seq [.bor 1] [0] (.cst (.bl true)) (.call 15 [.bor 0,.bor 1])) [sv v,sv (ofR A)]=some (.lst (A.map λs=>.bl (R.any λt=>sub t s))):=by
  refine cq (g:=ofS) (vs:=[ofR A]) (by simp[evs,ev]) rfl (by omega) λs hs=>?_
  exact ab (vs:=[.val (ofS s),.val v]) (by simp[evA,cj]) (uW n s v R hv J Y (by have:=aJ (Z s hs);omega))
 have e2:ev (aa defs (n+2)) (.blt .all [(.comp .seq [.bor 1] [0] (.cst (.bl true)) (.call 15 [.bor 0,.bor 1]))]) [sv v,sv (ofR A)]=some (.bl (A.all λs=>R.any λt=>sub t s)):=by
  rw[aH ec,v7,show(A.map λs=>PV.bl (R.any λt=>sub t s))=(A.map λs=>R.any λt=>sub t s).map PV.bl from by rw[J2];rfl,dQ];simp
 rw[ar];have e3:ex (aa defs (n+2)) (.ite (.not (.call 1 [(.call 0 [.bor 0])])) [.ret (.cst (.bl false))] []) [sv v,sv (ofR A)]=if R.flatten.Nodup then .next [sv v,sv (ofR A)]else .ret (.bl false):=by
  rw[ex,evB,ev,e1];by_cases q:R.flatten.Nodup
  .simp[q,exs]
  .simp[q,exs,ex,ev]
 rw[e3];unfold Ao;by_cases q:R.flatten.Nodup
 .rw[if_pos q,aR,ar,dc e2,J1 q,M1]
  rfl
 .simp_all
def sP (v:PV):Prop:=v=.tup [.str "bare"]\/v=.tup [.str "whole"]\/v=.tup [.str "weight"]\/∃P,OkP P/\P.length<=60/\v=.tup [.str "pairs",ofR P]
def Ap(n)(a b):aa defs (n+1) 49 [.val (ofS a),.val (ofS b)]=some (.bl (sub a b)):=by
 rw[ac (d:=eU) rfl rfl];have key:=n4 (g:=PV.int) (xs:=a) (body:=λx l=>exs (aa defs n) dF (put l 2 (.val x))) (I:=λW=>∃kk,W=[sv (ofS a),sv (ofS b),kk]) (p:=λx=>!decide (x∈b)) (r:=λ_=>.bl false)
  (W:=[sv (ofS a),sv (ofS b),none]) ⟨_,rfl⟩ (by
   rintro x hx W ⟨kk,rfl⟩;constructor
   .intro h;simp at h;simp[dF,exs,ex,ev,evs,evB,aU,h]
   .intro h;simp at h;exact⟨[sv (ofS a),sv (ofS b),sv (.int x)],⟨_,rfl⟩,by simp[dF,exs,ex,ev,evs,evB,aU,h]⟩)
 cases hf:a.find? (λx=>!decide (x∈b))with
 |some x =>
  have e:=key.1 x hf;have hx:=find?_some hf;have z:=mem_of_find?_eq_some hf;have:sub a b=false:=by
   cases hs:sub a b<;>first|rfl|simp[qU.mp hs x z]at hx
  simp[eU,exs,ex,ev,evs,br,e,this]
 |none =>
  obtain⟨l,⟨kk,rfl⟩,e⟩:=key.2 hf;have:=qU.mpr λx hx=>by
   have:=Ms.mp hf x hx;simpa using this
  simp[eU,exs,ex,ev,evs,br,e,this,aQ]
noncomputable def wgt(s:List Int):Int:=2 ^ (60-s.length)
def sS:∀n,n<=60->(1152921504606846976:Int) / 2 ^ n=2 ^ (60-n):=by decide +kernel
def wc(n)(s)(z:s.length<=60):aa defs (n+1) 20 [.val (ofS s)]=some (.int (wgt s)):=by
 rw[ac rfl rfl];have e:ff .shr (.int 1152921504606846976) (.int (s.length:Int))=some (.int (wgt s)):=by
  show(if 0<=(s.length:Int)then some (PV.int _)else none)=_;rw[if_pos (by omega),Int.toNat_natCast,sS _ z]
  rfl
 simp[iV,exs,ex,ev,evs,e]
def il  [DecidableEq α] (d:List (α×Sc)) (f:α->Int):Prop:=(∀k,bO d k=none->f k=0)/\∀k s,bO d k=some s->s=.int (f k)
def gZ{α:Type}(d:List (α×Sc))(P:α->Prop):Prop:=(d.map (·.1)).Nodup/\∀k,k∈d.map (·.1) ↔ P k
section
variable{α:Type} [DecidableEq α]
def Aq{k:α}:bO d k=none ↔ k∉d.map (·.1):=by
 unfold bO;rw[map_eq_none_iff,Ms];constructor
 .intro h z;obtain⟨p,J,rfl⟩:=mem_map.mp z;exact h p J (J1 rfl)
 .intro h p J e;exact h (mem_map.mpr ⟨p,J,Kz e⟩)
def Ar(d)(k:α)(v):(cV d k v).map (·.1)=if k∈d.map (·.1)then d.map (·.1)else d.map (·.1)++[k]:=by
 have e:(d.any λp=>decide (p.1=k))=decide (k∈d.map (·.1)):=by
  rw[Kv,Lf,KY,mem_map]
  simp_all
 unfold cV;rw[e];by_cases h:k∈d.map (·.1)
 .rw[if_pos (J1 h),if_pos h,J2];refine K6 λp _=>?_
  show(if p.1=k then(p.1,v)else p).1=p.1;split<;>rfl
 .rw[if_neg (by simpa using h),if_neg h,Ka]
  rfl
def wd(d)(k j:α)(v):bO (cV d k v) j=if j=k then some v else bO d j:=by
 have gen:∀d,(d.any λp=>decide (p.1=k))=true->bO (d.map λp=>if p.1=k then(p.1,v)else p) j=if j=k then some v else bO d j:=by
  intro d
  induction d with
  |nil=>intro h;cases h
  |cons p d ih =>
   intro h;by_cases U:p.1=k
   .by_cases J:j=k
    .subst J;simp[bO,U]
    .rw[if_neg J];have:¬ p.1=j:=λz=>J (by rw[<- z,U])
     unfold bO;rw[JW,if_pos U,Ls (by simpa using this),Ls (by simpa using this)];by_cases Y:(d.any λp=>decide (p.1=k))=true
     .have:=ih Y;rw[if_neg J]at this;exact this
     .have e:(d.map λp=>if p.1=k then(p.1,v)else p)=d:=by
       conv=>rhs;rw[<- List.map_id d]
       refine K6 λq Z=>?_
       rw[if_neg λz=>Y (Lf.mpr ⟨q,Z,J1 z⟩)]
       rfl
      rw[e]
   .have Y:(d.any λp=>decide (p.1=k))=true:=by simpa[U]using h
    have ih:=ih Y;unfold bO at ih ⊢;rw[JW,if_neg U];by_cases J:p.1=j
    .have:¬ j=k:=λz=>U (J.trans z)
     rw[Mn (by simpa using J),Mn (by simpa using J),if_neg this]
    .rw[Ls (by simpa using J),Ls (by simpa using J)];exact ih
 unfold cV;by_cases h:(d.any λp=>decide (p.1=k))=true
 .rw[if_pos h];exact gen d h
 .rw[if_neg h];have no:∀p∈d,¬ p.1=k:=λp U z=>h (Lf.mpr ⟨p,U,J1 z⟩)
  unfold bO;rw[find?_append];by_cases J:j=k
  .subst J;have:d.find? (λp=>decide (p.1=j))=none:=Ms.mpr λp U=>by simpa using no p U
   rw[this,if_pos rfl];simp
  .rw[if_neg J];have:¬ k=j:=λz=>J z.symm
   cases d.find? (λp=>decide (p.1=j))<;>first|rfl|simp[this]
def put_len(d)(k:α)(v):(cV d k v).length<=d.length+1:=by
 unfold cV;split
 .simp_all
 .simp_all
def sT(h:il d f)(k:α):((bO d k).getD (.int 0)).pv=.int (f k):=by
 cases e:bO d k with
 |none=>rw[h.1 k e];rfl
 |some s=>rw[h.2 k s e];rfl
def As(h:il d f)(k:α)(w):il (cV d k (.int (f k+w))) (λj=>if j=k then f j+w else f j):=by
 refine⟨λj e=>?_,λj s e=>?_⟩
 .rw[wd]at e;by_cases z:j=k
  .simp_all
  .rw[if_neg z]at e;dsimp only;rw[if_neg z];exact h.1 j e
 .rw[wd]at e;by_cases z:j=k
  .simp_all
  .rw[if_neg z]at e;dsimp only;rw[if_neg z];exact h.2 j s e
def sU:il ([]:List (α×Sc)) λ_=>0:=⟨λ_ _=>rfl,λk s z=>by cases z⟩
def sV:gZ ([]:List (α×Sc)) λ_=>False:=⟨Lk,λk=>by simp⟩
def At(h:gZ d P)(k:α)(v):gZ (cV d k v) (λj=>P j\/j=k):=by
 unfold gZ;rw[Ar];by_cases J:k∈d.map (·.1)
 .rw[if_pos J];refine⟨h.1,λj=>?_⟩;rw[h.2 j];refine⟨.inl,λz=>z.elim id λe=>?_⟩;rw[e];exact(h.2 k).mp J
 .rw[if_neg J];refine⟨MH.mpr ⟨h.1,by simp,λa U b Y=>by rw[Ke.mp Y];exact λe=>J (e▸U)⟩,λj=>?_⟩;rw[Lu,Ke,h.2 j]
theorem FZ{body:PV->Rho->R}{I:List (α×Sc)->Rho->Prop}{w:Int}:∀{xs:List α},(∀x∈xs,∀d W (f:α->Int),I d W->il d f->d.length<9500->∃l,I (cV d x (.int (f x+w))) l/\body (g x) W=.next l) ->
  xs.Nodup->∀{d}{W}{f}{P},I d W->il d f->gZ d P->d.length+xs.length<=9000 ->
  ∃d' l,aq body (xs.map g) W=.next l/\I d' l/\il d' (λj=>f j+if j∈xs then w else 0)/\gZ d' (λk=>P k\/k∈xs)/\d'.length<=d.length+xs.length
 | [],_,_,d,W,f,P,J,hd,U,_=>⟨d,W,rfl,J,by simpa using hd,by simpa using U,by simp⟩
 |x::xs,hb,Y,d,W,f,P,J,hd,U,hl=>by
  rw[length_cons]at hl;obtain⟨hx,Y⟩:=Ky.mp Y;obtain⟨a2,Z,e1⟩:=hb x (.head _) d W f J hd (by omega);have a4:=put_len d x (.int (f x+w));obtain⟨d',l,e2,ao,aO,z,a6⟩:=FZ (xs:=xs) (λy hy=>hb y (.tail _ hy)) Y Z (As hd x w) (At U x _) (by omega);rw[JW,aq,e1];refine⟨d',l,e2,ao,?_,?_,by rw[length_cons];omega⟩
  .have ef:(λj=>(if j=x then f j+w else f j)+if j∈xs then w else 0)=λj=>f j+if j∈x::xs then w else 0:=by
    funext j
    by_cases hj:j=x
    .simp_all
    .simp[hj]
   rw[<- ef];exact aO
  .refine⟨z.1,λk=>?_⟩;rw[z.2 k];simp only[JY,_root_.or_assoc]
theorem ID{J:Type}{ge:J->PV}{m:J->List α}{w:J->Int}{body:PV->Rho->R}{I:List (α×Sc)->Rho->Prop}{top:Nat}:∀{R:List J},(∀s∈R,∀d W (f:α->Int) (P:α->Prop),I d W->il d f->gZ d P->d.length<=8000 ->
   ∃d' l,body (ge s) W=.next l/\I d' l/\il d' (λj=>f j+if j∈m s then w s else 0)/\gZ d' (λk=>P k\/k∈m s)/\d'.length<=d.length+top) ->
  ∀{d}{W}{f}{P},I d W->il d f->gZ d P->d.length+top*R.length<=8000 ->
  ∃d' l,aq body (R.map ge) W=.next l/\I d' l/\il d' (λj=>f j+(R.map λs=>if j∈m s then w s else 0).sum)/\gZ d' (λk=>P k\/∃s∈R,k∈m s)/\d'.length<=d.length+top*R.length
 | [],_,d,W,f,P,U,hd,Y,_=>⟨d,W,rfl,U,by simpa using hd,by simpa using Y,by simp⟩
 |s::R,hb,d,W,f,P,U,hd,Y,hl=>by
  refine aE λZq kq=>?_
  rw[length_cons,Nat.mul_succ]at hl;obtain⟨d1,a4,e1,Z,ao,aO,a6⟩:=hb s (.head _) d W f P U hd Y (by omega);obtain⟨d',l,e2,a0,a8,z,a9⟩:=ID (R:=R) (λy hy=>hb y (.tail _ hy)) Z ao aO (by omega);refine kq ?_;rw[JW,aq,e1];refine⟨d',l,e2,a0,?_,⟨z.1,λk=>?_⟩,by rw[length_cons,Nat.mul_succ];omega⟩
  .grind
  .rw[z.2 k];simp only[JY,exists_eq_or_imp,_root_.or_assoc]
end
noncomputable def a_(R:LL)(h:Int):Int:=(R.map λs=>if h∈s then wgt s else 0).sum
def lP(n)(R)(g:az R):∃d,aa defs (n+2) 22 [.val (ofR R)]=some (.dI (.k d))/\il d (a_ R)/\gZ d (λk=>∃s∈R,k∈s)/\d.length<=3600:=by
 have hl:=g.2.2;obtain⟨d,l,e,⟨x,y,rfl⟩,hd,hp,U⟩:=ID (R:=R) (ge:=ofS) (m:=id) (w:=wgt) (top:=60) (body:=λv l=>exs (aa defs (n+1)) pR (put l 2 (.val v))) (I:=λd W=>∃x y,W=[sv (ofR R),some (.ownD (.k d)),x,y]) (d:=[]) (W:=[sv (ofR R),some (.ownD (.k [])),none,none]) (f:=λ_=>0) (P:=λ_=>False)
  (by
   rintro s hs d W f P ⟨x,y,rfl⟩ hd hp hl;have gs:=g.1 s hs;have Y:=aJ gs;have ew:=wc n s Y;obtain⟨d',l,e,⟨y',rfl⟩,r⟩:=FZ (xs:=s) (g:=.int) (w:=wgt s) (body:=λv l=>exs (aa defs (n+1)) pQ (put l 3 (.val v))) (I:=λd W=>∃y,W=[sv (ofR R),some (.ownD (.k d)),sv (ofS s),y]) (d:=d) (W:=[sv (ofR R),some (.ownD (.k d)),sv (ofS s),y])
    (by
     rintro z _ d W f ⟨y,rfl⟩ hd hl;have eg:ev (aa defs (n+1)) (.dget (.bor 1) (.bor 3) (ci 0)) [sv (ofR R),some (.ownD (.k d)),sv (ofS s),sv (.int z)]=some (.int (f z)):=by
      rw[<- sT hd z];simp[ev]
     have es:ev (aa defs (n+1)) (.bin .add (.dget (.bor 1) (.bor 3) (ci 0)) (.call 20 [.bor 2])) [sv (ofR R),some (.ownD (.k d)),sv (ofS s),sv (.int z)]=some (.int (f z+wgt s)):=by
      rw[ev,eg,ab (vs:=[.val (ofS s)]) (by simp[evA]) ew]
      rfl
     have Z:d.length<10000:=by omega
     refine⟨_,⟨sv (.int z),rfl⟩,?_⟩;show exs (aa defs (n+1)) [_] [sv (ofR R),some (.ownD (.k d)),sv (ofS s),sv (.int z)]=_;rw[ar,ex,es];simp[ev,Z,exs])
    (fo gs.1) ⟨y,rfl⟩ hd hp (by omega)
   refine⟨d',_,?_,⟨sv (ofS s),y',rfl⟩,r.1,r.2.1,by have:=r.2.2;omega⟩;have J:(evs (aa defs (n+1)) [.bor 2] [sv (ofR R),some (.ownD (.k d)),sv (ofS s),y]).bind (bm .seq)=some (s.map .int):=by simp[evs,ev]
   show exs (aa defs (n+1)) [_] [sv (ofR R),some (.ownD (.k d)),sv (ofS s),y]=_;rw[ar,dJ J,show br [.bor 2] [sv (ofR R),some (.ownD (.k d)),sv (ofS s),y]=[sv (ofR R),some (.ownD (.k d)),sv (ofS s),y]from rfl,e,du,aR];simp[exs,aQ])
  ⟨none,none,rfl⟩ sU sV (by simp;omega)
 refine⟨d,?_,?_,?_,by simp at U;omega⟩
 .rw[ac (d:=v9) rfl rfl];have J:(evs (aa defs (n+1)) [.bor 0] [sv (ofR R),some (.ownD (.k [])),none,none]).bind (bm .seq)=some (R.map ofS):=by simp[evs,ev]
  show aS (exs (aa defs (n+1)) (_::_::[_]) [sv (ofR R),none,none,none])=_;simp only[ar];rw[show ex (aa defs (n+1)) (.newD false 1) [sv (ofR R),none,none,none]=.next [sv (ofR R),some (.ownD (.k [])),none,none]from by rw[ex];rfl,aR,dJ J,show br [.bor 0] [sv (ofR R),some (.ownD (.k [])),none,none]=[sv (ofR R),some (.ownD (.k [])),none,none]from rfl,e,du,aR];simp[exs,ex,aQ]
 .have ef:(λj=>(0:Int)+(R.map λs=>if j∈id s then wgt s else 0).sum)=a_ R:=by funext j;rw[Int.zero_add];rfl
  rw[<- ef];exact hd
 .simp_all
def CH(n)(R)(g:az R):∃d,aa defs (n+2) 22 [.val (ofR R)]=some (.dI (.k d))/\il d (a_ R)/\gZ d (λk=>∃s∈R,k∈s):=by
 obtain⟨d,h1,h2,z,_⟩:=lP n R g;exact⟨d,h1,h2,z⟩
def Au  [DecidableEq α] {P:α->Prop} (hd:il d f) (J:gZ d P):∃M ns,(d.map (·.2)).map Sc.pv=ns.map .int/\ns.length=d.length/\yY (0::ns)=some M/\0<=M/\(M=0\/∃k,P k/\f k=M)/\∀k,P k->f k<=M:=by
 have U:∀p∈d,p.2=.int (f p.1):=λp z=>by
  have e:bO d p.1=some p.2:=by
   unfold bO;have gen:∀(l:List (α×Sc)),(l.map (·.1)).Nodup->p∈l->l.find? (λq=>decide (q.1=p.1))=some p:=by
    intro l
    induction l with
    |nil=>intro _ h;cases h
    |cons q l ih =>
     intro Y h;rw[JW,Ky]at Y;rcases JY.mp h with rfl|h
     .exact Mn (J1 rfl)
     .rw[Ls (by
       simp only[KY];intro e;exact Y.1 (mem_map.mpr ⟨p,h,e.symm⟩))]
      exact ih Y.2 h
   rw[gen d J.1 z]
   rfl
  exact hd.2 p.1 p.2 e
 have Z:yY (0::d.map λp=>f p.1)=some ((d.map λp=>f p.1).foldl (λa b=>if a<b then b else a) 0):=rfl;obtain⟨h1,h2⟩:=pI Z;refine⟨_,d.map λp=>f p.1,?_,by simp,Z,h2 0 (.head _),?_,λk hk=>?_⟩
 .rw[J2,J2];refine K6 λp z=>?_
  show(p.2).pv=_;rw[U p z]
  rfl
 .rcases JY.mp h1 with h|h
  .exact .inl h
  .obtain⟨p,z,e⟩:=mem_map.mp h;exact .inr ⟨p.1,(J.2 p.1).mp (mem_map.mpr ⟨p,z,rfl⟩),e⟩
 .obtain⟨p,z,rfl⟩:=mem_map.mp ((J.2 k).mpr hk);exact h2 _ (.tail _ (mem_map.mpr ⟨p,z,rfl⟩))
def Top(R:LL)(M:Int):Prop:=0<=M/\(M=0\/∃k,(∃s∈R,k∈s)/\a_ R k=M)/\∀k,(∃s∈R,k∈s)->a_ R k<=M
def uX(n)(R)(g:az R):∃M,aa defs (n+3) 24 [.val (ofR R)]=some (.int M)/\Top R M:=by
 obtain⟨d,e,hd,U,Y⟩:=lP n R g;obtain⟨M,ns,Z,ao,e2,h0,h1,h2⟩:=Au hd U;refine⟨M,?_,h0,h1,h2⟩;rw[ac (d:=iz) rfl rfl];have z:ev (aa defs (n+2)) (.blt .valuesOf [(.call 22 [.bor 0])]) [sv (ofR R)]=some (.lst (ns.map .int)):=by
  rw[aH (ab (vs:=[.val (ofR R)]) (by simp[evA]) e),nK,if_pos (by unfold j6 dSc;rw[pd,pd];omega)];show some (PV.lst ((d.map (·.2)).map Sc.pv))=_;rw[Z]
 have J:ev (aa defs (n+2)) (.bin .add (.lst [(ci 0)]) (.blt .valuesOf [(.call 22 [.bor 0])])) [sv (ofR R)]=some (.lst ((0::ns).map .int)):=by
  rw[ev,z];simp[ev,evs];omega
 show aS (exs (aa defs _) [_] [sv _])=_;rw[ar,dc]
 .rfl
 .rw[aH J,sL,bt,bind_some,e2]
  rfl
def Av{R:LL}(h:Top R M)(h':Top R N):M=N:=by
 have key:∀{M N},Top R M->Top R N->M<=N:=λ{M N} h h'=>by
  rcases h.2.1 with e|⟨k,z,e⟩
  .rw[e];exact h'.1
  .rw[<- e];exact h'.2.2 k z
 grind
def sW(n)(R)(g:∀t∈R,ce t)(z:R.length<=10000):aa defs (n+2) 21 [.val (ofR R)]=some (.int (R.map wgt).sum):=by
 have J:ev (aa defs (n+1)) (.comp .seq [.bor 0] [] (.cst (.bl true)) (.call 20 [.bor 0])) [sv (ofR R)]=some (.lst ((R.map wgt).map .int)):=by
  refine(cq (h:=λs=>.int _) (vs:=[ofR R]) (by simp[evs,ev]) rfl z λs hs=>?_).trans (by rw[J2];rfl);exact ab (vs:=[.val _]) (by simp[evA,cj]) (wc n s (aJ (g s hs)))
 show aS (exs (aa defs _) [_] [sv _])=_;rw[ar,dc]
 .rfl
 .rw[aH J];show((bf _).map λns=>PV.int ns.sum)=_;rw[bt]
  rfl
noncomputable def iE:List Int->LL
 | []=>[]
 |x::s=>s.map (λy=>[x,y])++iE s
theorem n5:∀s,(iE s).length<=s.length*s.length
 | []=>pb _
 |x::s=>by
  have:=n5 s;rw[iE,tr,pd,length_cons,Nat.mul_succ,Nat.succ_mul];omega
theorem g5 :∀{s},s.Pairwise (· < ·)->(t∈iE s ↔ ∃a b,t=[a,b]/\a<b/\a∈s/\b∈s)
 | [],_=>⟨λh=>(by cases h),λ⟨_,_,_,_,h,_⟩=>by cases h⟩
 |x::s,hs=>by
  obtain⟨h1,h2⟩:=LC.mp hs;rw[iE,Lu,g5 h2,mem_map];constructor
  .rintro (⟨y,z,rfl⟩|⟨a,b,e,q,J,U⟩)
   .exact⟨x,y,rfl,h1 y z,.head _,.tail _ z⟩
   .exact⟨a,b,e,q,.tail _ J,.tail _ U⟩
  .rintro ⟨a,b,e,q,J,U⟩
   grind
theorem n6:∀{s},s.Pairwise (· < ·)->(iE s).Nodup
 | [],_=>Lk
 |x::s,hs=>by
  obtain⟨h1,h2⟩:=LC.mp hs;refine MH.mpr ⟨?_,n6 h2,λt z u J e=>?_⟩
  .unfold Nodup;rw[pairwise_map];exact h2.imp λ{a b} q e=>by cases e;omega
  .obtain⟨y,U,rfl⟩:=mem_map.mp z;obtain⟨a,b,rfl,q,Y,Z⟩:=(g5 h2).mp J
   grind
theorem pU(cal)(s):∀r p A J U,s=p++r->A.length+(iE r).length<=10000->s.length<=4000 ->
  ∃Y Z,aq (λx l=>bZ (cE [2,3] x l) λz=>exs cal iW z) (bB p.length (r.map .int)) [sv (ofS s),some (.own (A.map ofS)),J,U]=.next [sv (ofS s),some (.own ((A++iE r).map ofS)),Y,Z]
 | [],p,A,J,U,_,_,_=>⟨J,U,by simp[bB,iE]⟩
 |x::r,p,A,J,U,hs,hl,h3=>by
  rw[iE,tr,pd]at hl;have hp:p.length<s.length:=by rw[hs,tr,length_cons];omega
  have a4:s.length=p.length+(r.length+1):=by rw[hs,tr,length_cons]
  have ec:gC s.length 0 (some ((p.length:Int)+1))=p.length+1:=by
   show(if (p.length:Int)+1<0 then((p.length:Int)+1+(s.length:Int)).toNat else min ((p.length:Int)+1).toNat s.length)=_
   grind
  have ao:j8 (ofS s) (some ((p.length:Int)+1)) none=some (ofS r):=by
   show some (PV.tup (cut (s.map .int) (some ((p.length:Int)+1)) none))=_;have e1:cut (s.map PV.int) (some ((p.length:Int)+1)) none=r.map .int:=by
    unfold cut;rw[pd,ec,show gC s.length s.length none=s.length from rfl,hs,Ka,JW,drop_append,drop_eq_nil_of_le (by rw[pd];omega),nil_append,pd,show p.length+1-p.length=1 by omega,drop_one,tail_cons,M5 (by rw[pd,tr,length_cons];omega)]
   rw[e1]
  have aO:ev cal (.comp .seq [(.slice (.bor 0) (.bin .add (.bor 2) (ci 1)) (.cst .non))] [3] (.cst (.bl true)) (.tup [.var 1,.var 0])) [sv (ofS s),some (.own (A.map ofS)),sv (.int (p.length:Int)),sv (.int x)]=some (.lst ((r.map λy=>[x,y]).map ofS)):=by
   refine(cq (g:=.int) (h:=λy=>ofS [x,y]) (vs:=[ofS r]) ?_ rfl (by omega) λy _=>?_).trans (by rw[J2];rfl)
   .simp[evs,ev,bnd,ao]
   .simp[ev,evs,cj]
  have e:bZ (cE [2,3] (.tup [.int (p.length:Nat),.int x]) [sv (ofS s),some (.own (A.map ofS)),J,U]) (λz=>exs cal iW z)=.next [sv (ofS s),some (.own ((A++r.map λy=>[x,y]).map ofS)),sv (.int (p.length:Int)),sv (.int x)]:=by
   show exs cal [_] [sv (ofS s),some (.own (A.map ofS)),sv (.int (p.length:Int)),sv (.int x)]=_;have a0:A.length+r.length<=10000:=by omega
   rw[ar,ex,aO,uS];simp[exs,a0]
  rw[JW,bB,aq,e];obtain⟨Y,Z,e2⟩:=pU cal s r (p++[x]) (A++r.map λy=>[x,y]) (sv (.int (p.length:Int))) (sv (.int x)) (by rw[hs,Kn];rfl) (by rw[tr,pd];omega) h3;rw[tr,length_singleton]at e2;refine⟨Y,Z,?_⟩;rw[iE,<- Kn];exact e2
def xq(n)(s)(J:s.length<=60):aa defs (n+1) 25 [.val (ofS s)]=some (.lst ((iE s).map ofS)):=by
 have h1:=n5 s;have h2:=Nat.mul_le_mul J J;obtain⟨U,Y,e⟩:=pU (aa defs n) s s [] [] none none rfl (by simp;omega) (by omega);rw[ac (d:=pS) rfl rfl];have z:(evs (aa defs n) [.bor 0] [sv (ofS s),some (.own []),none,none]).bind (bm .enm)=some (bB 0 (s.map .int)):=by simp[evs,ev,bm]
 show aS (exs _ (_::_::[_]) [sv _,none,none,none])=_;simp[ar];rw[cT (xs:=[]) (by simp[ev,evs]),aR];simp[cK,cz];rw[mC z,show br [.bor 0] [sv _,some _,none,none]=[sv _,some _,none,none]from rfl];rw[length_nil,map_nil,nil_append]at e;rw[e,du,aR];simp[ex,aQ]
section
variable{α:Type} [DecidableEq α]
theorem Dx{U:Type}{ge:U->PV}{m:U->List α}{w:U->Int}{body:PV->Rho->R}{I:List (α×Sc)->Rho->Prop}{B:Nat}{Q:α->Prop}(Z:∀d P,gZ d P->(∀k,P k->Q k)->d.length<=B):∀{R:List U},(∀s∈R,∀d W (f:α->Int) (P:α->Prop),I d W->il d f->gZ d P->d.length<=B ->
   ∃d' l,body (ge s) W=.next l/\I d' l/\il d' (λj=>f j+if j∈m s then w s else 0)/\gZ d' (λk=>P k\/k∈m s))->(∀s∈R,∀k∈m s,Q k) ->
  ∀{d}{W}{f}{P},I d W->il d f->gZ d P->(∀k,P k->Q k) ->
  ∃d' l,aq body (R.map ge) W=.next l/\I d' l/\il d' (λj=>f j+(R.map λs=>if j∈m s then w s else 0).sum)/\gZ d' (λk=>P k\/∃s∈R,k∈m s)/\d'.length<=B
 | [],_,_,d,W,f,P,hI,hd,z,Y=>⟨d,W,rfl,hI,by simpa using hd,by simpa using z,Z d P z Y⟩
 |s::R,hb,hm,d,W,f,P,hI,hd,z,Y=>by
  obtain⟨d1,a6,e1,aO,a0,a1⟩:=hb s (.head _) d W f P hI hd z (Z d P z Y);obtain⟨d',l,e2,a2,a9,J,a3⟩:=Dx Z (R:=R) (λy hy=>hb y (.tail _ hy)) (λy hy=>hm y (.tail _ hy)) aO a0 a1 (λk hk=>hk.elim (Y k) (hm s (.head _) k));rw[JW,aq,e1];refine⟨d',l,e2,a2,?_,⟨J.1,λk=>?_⟩,a3⟩
  .grind
  .rw[J.2 k];simp only[JY,exists_eq_or_imp,_root_.or_assoc]
end
def Aw(t:List Int):Prop:=∃a b,t=[a,b]/\0<=a/\a<=59/\0<=b/\b<=59
def Ax(d)(P)(J:gZ d P)(U:∀k,P k->Aw k):d.length<=3600:=by
 have h1:∀t∈d.map _,Aw t:=λt z=>U t ((J.2 t).mp z)
 have h2:((d.map (·.1)).map λt=>t.getD 0 0*60+t.getD 1 0).Nodup:=by
  unfold Nodup;rw[pairwise_map];refine J.1.imp_of_mem λ{t u} z Y q e=>?_
  obtain⟨a,b,rfl,_⟩:=h1 t z;obtain⟨x,y,rfl,_⟩:=h1 u Y;have e:a*60+b=x*60+y:=e;have e1:a=x:=by omega
  simp_all
 have Z:=nP 3600 _ h2 λx hx=>by
  obtain⟨t,z,rfl⟩:=mem_map.mp hx;obtain⟨a,b,rfl,_⟩:=h1 t z;show 0<=a*60+b/\a*60+b<_;omega
 simpa using Z
noncomputable def xr(R:LL)(a b:Int):Int:=((R.filter λs=>decide (a∈s)&&decide (b∈s)).length:Int)
def Ay{R:LL}(U:∀s∈R,s.Pairwise (· < ·))(J:a<b):(R.map λs=>if [a,b]∈iE s then(1:Int)else 0).sum=xr R a b:=by
 unfold xr
 induction R with
 |nil=>rfl
 |cons s R ih =>
  rw[JW,sum_cons,ih λt Z=>U t (.tail _ Z)];have Y:=g5 (t:=[a,b]) (U s (.head _));by_cases q:a∈s/\b∈s
  .rw[if_pos (Y.mpr ⟨a,b,rfl,J,q.1,q.2⟩),filter_cons_of_pos (by simpa using q),length_cons];omega
  .rw[if_neg λz=>q (by obtain⟨x,y,e,_,hx,hy⟩:=Y.mp z;cases e;exact⟨hx,hy⟩),LI (by simpa using q)];omega
def xt(R:LL)(M:Int):Prop:=0<=M/\(M=0\/∃a b,a<b/\(∃s∈R,a∈s/\b∈s)/\xr R a b=M)/\∀a b,a<b->xr R a b<=M
def xu{R:LL}(h:¬ ∃s∈R,a∈s/\b∈s):xr R a b=0:=by
 unfold xr;rw[M7.mpr]
 .rfl
 .intro s hs q;exact h ⟨s,hs,by simpa using q⟩
def oV(n)(R)(g:az R):∃M,aa defs (n+2) 26 [.val (ofR R)]=some (.int M)/\xt R M:=by
 obtain⟨d,l,e,⟨x,y,rfl⟩,hd,hp,a5⟩:=Dx (R:=R) (ge:=ofS) (m:=iE) (w:=λ_=>1) (Q:=Aw) (B:=3600) Ax (body:=λv l=>exs (aa defs (n+1)) iB (put l 2 (.val v))) (I:=λd W=>∃x y,W=[sv (ofR R),some (.ownD (.t d)),x,y]) (d:=[]) (W:=[sv (ofR R),some (.ownD (.t [])),none,none]) (f:=λ_=>0) (P:=λ_=>False)
  (by
   rintro s hs d W f P ⟨x,y,rfl⟩ hd hp hl;have gs:=g.1 s hs;have Y:=aJ gs;have et:=xq n s Y;have a8:=n5 s;have a9:=Nat.mul_le_mul Y Y;obtain⟨d',l,e,⟨y',rfl⟩,r⟩:=FZ (xs:=iE s) (g:=ofS) (w:=1) (body:=λv l=>exs (aa defs (n+1)) iA (put l 3 (.val v))) (I:=λd W=>∃y,W=[sv (ofR R),some (.ownD (.t d)),sv (ofS s),y]) (d:=d) (W:=[sv (ofR R),some (.ownD (.t d)),sv (ofS s),y])
    (by
     rintro z _ d W f ⟨y,rfl⟩ hd hl;have eg:ev (aa defs (n+1)) (.dget (.bor 1) (.bor 3) (ci 0)) [sv (ofR R),some (.ownD (.t d)),sv (ofS s),sv (ofS z)]=some (.int (f z)):=by
      rw[<- sT hd z];simp[ev]
     have es:ev (aa defs (n+1)) (.bin .add (.dget (.bor 1) (.bor 3) (ci 0)) (ci 1)) [sv (ofR R),some (.ownD (.t d)),sv (ofS s),sv (ofS z)]=some (.int (f z+1)):=by
      rw[ev,eg];simp[ev]
     have a1:d.length<10000:=by omega
     refine⟨_,⟨sv (ofS z),rfl⟩,?_⟩;show exs (aa defs (n+1)) [_] [sv (ofR R),some (.ownD (.t d)),sv (ofS s),sv (ofS z)]=_;rw[ar,ex,es];simp[ev,a1,exs])
    (n6 gs.1) ⟨y,rfl⟩ hd hp (by omega)
   refine⟨d',_,?_,⟨sv (ofS s),y',rfl⟩,r.1,r.2.1⟩;have J:(evs (aa defs (n+1)) [.call 25 [.bor 2]] [sv (ofR R),some (.ownD (.t d)),sv (ofS s),y]).bind (bm .seq)=some ((iE s).map ofS):=by
    rw[evs,ab (vs:=[.val (ofS s)]) (by simp[evA]) et];simp[evs]
   show exs (aa defs (n+1)) [_] [sv (ofR R),some (.ownD (.t d)),sv (ofS s),y]=_;rw[ar,dJ J,show ∀W,br [.call 25 [.bor 2]] W=W from λ_=>rfl,e,du,aR];simp[exs,aQ])
  (λs hs k Z=>by
   obtain⟨a,b,rfl,_,ha,hb⟩:=(g5 (g.1 s hs).1).mp Z;have:=(g.1 s hs).2 a ha;have:=(g.1 s hs).2 b hb;exact⟨a,b,rfl,by omega,by omega,by omega,by omega⟩)
  ⟨none,none,rfl⟩ sU sV (λk z=>z.elim)
 obtain⟨M,ns,e1,b2,e2,h0,h1,h2⟩:=Au hd hp;refine⟨M,?_,h0,?_,?_⟩
 .rw[ac (d:=jt) rfl rfl];have J:(evs (aa defs (n+1)) [.bor 0] [sv (ofR R),some (.ownD (.t [])),none,none]).bind (bm .seq)=some (R.map ofS):=by simp[evs,ev]
  have a2:ev (aa defs (n+1)) (.blt .valuesOf [.bor 1]) [sv (ofR R),some (.ownD (.t d)),x,y]=some (.lst (ns.map .int)):=by
   rw[aH (v:=.dI (.t d)) (by simp[ev]),nK,if_pos (by unfold j6 dSc;rw[pd,pd];omega)];show some (PV.lst ((d.map (·.2)).map Sc.pv))=_;rw[e1]
  have a3:ev (aa defs (n+1)) (.bin .add (.lst [(ci 0)]) (.blt .valuesOf [.bor 1])) [sv (ofR R),some (.ownD (.t d)),x,y]=some (.lst ((0::ns).map .int)):=by
   rw[ev,a2];simp[ev,evs];omega
  show aS (exs (aa defs (n+1)) (_::_::[_]) [sv (ofR R),none,none,none])=_;simp only[ar];rw[show ex (aa defs (n+1)) (.newD true 1) [sv (ofR R),none,none,none]=.next [sv (ofR R),some (.ownD (.t [])),none,none]from by rw[ex];rfl,aR,dJ J,show br [.bor 0] [sv (ofR R),some (.ownD (.t [])),none,none]=[sv (ofR R),some (.ownD (.t [])),none,none]from rfl,e,du,aR];rw[show ∀W,aQ [.bor 0] [sv (ofR R),some (.ownD (.t [])),none,none] W=W from λ_=>rfl,dc (v:=.int M)]
  .rfl
  .rw[aH a3,sL,bt,bind_some,e2]
   rfl
 .refine h1.imp id λ⟨k,Z,ek⟩=>?_
  obtain⟨s,hs,Z⟩:=Z.resolve_left id;obtain⟨a,b,rfl,U,ha,hb⟩:=(g5 (g.1 s hs).1).mp Z;refine⟨a,b,U,⟨s,hs,ha,hb⟩,?_⟩;rw[<- Ay (λs hs=>(g.1 s hs).1) U,<- ek];rw[Int.zero_add];exact Kf List.sum (K6 λs _=>by by_cases q:[a,b]∈iE s<;>simp[q])
 .intro a b U;by_cases q:∃s∈R,a∈s/\b∈s
  .obtain⟨s,hs,ha,hb⟩:=q;have:=h2 [a,b] (.inr ⟨s,hs,(g5 (g.1 s hs).1).mpr ⟨a,b,rfl,U,ha,hb⟩⟩);rw[<- Ay (λs hs=>(g.1 s hs).1) U];refine Int.le_trans (Int.le_of_eq ?_) this;rw[Int.zero_add];exact Kf List.sum (K6 λs _=>by by_cases q:[a,b]∈iE s<;>simp[q])
  .rw[xu q];exact h0
noncomputable def iF(z:List Int)(h:Int):List Int:=if h∈z then z else z++[h]
noncomputable def kE(R:LL):List Int:=R.foldl (λacc z=>z.foldl iF acc) []
noncomputable def ae(R:LL):List Int:=sortI (kE R)
def we(J:acc.Nodup):(iF acc h).Nodup/\∀x,x∈iF acc h ↔ x∈acc\/x=h:=by
 unfold iF;by_cases q:h∈acc
 .simp_all
 .rw[if_neg q];refine⟨MH.mpr ⟨J,by simp,λx hx y U=>by rw[Ke.mp U];exact λz=>q (z▸hx)⟩,λx=>?_⟩
  simp_all
theorem n8:∀(J z:List Int),z.Nodup->(J.foldl iF z).Nodup/\∀x,x∈J.foldl iF z ↔ x∈z\/x∈J
 | [],z,U=>⟨U,λx=>by simp⟩
 |t::J,z,U=>by
  obtain⟨h1,h2⟩:=we (h:=t) U;obtain⟨Y,Z⟩:=n8 J (iF z t) h1;refine⟨Y,λx=>?_⟩;rw[foldl_cons,Z,h2,JY,_root_.or_assoc]
theorem g6:∀(R:LL) z,z.Nodup->(R.foldl (λz J=>J.foldl iF z) z).Nodup/\∀x,x∈R.foldl (λz J=>J.foldl iF z) z ↔ x∈z\/∃J∈R,x∈J
 | [],z,U=>⟨U,λx=>by simp⟩
 |t::J,z,U=>by
  obtain⟨h1,h2⟩:=n8 t z U;obtain⟨Y,Z⟩:=g6 J (t.foldl iF z) h1;refine⟨Y,λx=>?_⟩;rw[foldl_cons,Z,h2];simp[_root_.or_assoc]
def cM{R:LL} :x∈ae R ↔ ∃z∈R,x∈z:=by
 unfold ae;rw[jd];have:=(g6 R [] Lk).2 x;unfold kE;rw[this];simp
def im(R):(ae R).Pairwise (· < ·):=nO (g6 R [] Lk).1
def bb{R:LL}(g:∀z∈R,ce z):ce (ae R):=⟨im R,λh J=>by
 obtain⟨z,h1,h2⟩:=cM.mp J;exact(g z h1).2 h h2⟩
def xv{R:LL}(g:∀z∈R,ce z):(kE R).length<=60:=by
 have:=aJ (bb g);unfold ae at this;rw[sortI_len]at this;exact this
def CI{R:LL}{z:List Int}(J:z.Nodup)(h:∀x∈z,0<=x/\x<=59):z.length<=60:=nP 60 z J λx hx=>by have:=h x hx;omega
def kF(R):sortI (dd R.flatten)=ae R:=by
 refine sortI_of_perm ((KQ (dd_nodup _) (g6 R [] Lk).1).mpr λx=>?_);rw[iT,(g6 R [] Lk).2 x,mem_flatten];simp
def cw(n)(R)(g:∀J∈R,ce J)(U:R.flatten.length<=4000):aa defs (n+2) 5 [.val (ofR R)]=some (ofL (ae R)):=by
 rw[ac rfl rfl];have e:=lv n (.val (ofR R)) (λ_ z=>by cases z) R ofS (λ_=>rfl) rfl (by omega);have hd:(dd R.flatten).length<64:=by
  have:=aJ (bb g);rw[<- kF,sortI_len]at this;omega
 simp[nQ,exs,ex,ev,evs,evA,e,-map_flatten,bt,-length_flatten,U,hd,kF]
noncomputable def i3(h:Int)(R:LL):LL:=R.filter λz=>!decide (h∈z)
def pV{R:LL}(g:az R):az (i3 h R):=⟨λz J=>g.1 z (KJ.mp J).1,g.2.1.filter _,wh (LA _ _) g.2.2⟩
def sX(n)(R)(h)(J:R.length<=10000):aa defs (n+1) 4 [.val (ofR R),.val (.int h)]=some (ofR (i3 h R)):=by
 rw[ac rfl rfl];simp[sN,exs,ex,ev,evs,J];rw[cn (p:=λz=>!decide (h∈z)) (h:=ofS)]
 .simp[i3]
 .intro z _;simp[cj,aU]
 .intro z _ _;simp[cj]
def pW(h)(R):(i3 h R).flatten.length<=R.flatten.length:=by
 unfold i3
 induction R with
 |nil=>exact pb _
 |cons s R ih =>
  by_cases q:h∈s
  .grind
  .simp_all
def jP(n)(R):aa defs (n+1) 6 [.val (ofR R)]=some (.bl (decide ([]∈R))):=by
 rw[ac rfl rfl];have z:isIn (.tup []) _=some _:=nJ [] R;simp[nR,exs,ex,ev,evs,z]
def Az(R:LL):Prop:=∃M,xt R M/\1152921504606846976*M*(((ae R).length:Int) / 2)<4*(R.map wgt).sum
noncomputable def hv(R:LL):Bool:=@decide (Az R) (Classical.propDecidable _)
def F0{R:LL}:hv R=true ↔ Az R:=@KY (Az R) (Classical.propDecidable _)
def xw{R:LL}(h:xt R M)(h':xt R N):M=N:=by
 have gen:∀{M N},xt R M->xt R N->M<=N:=λ{M N} h h'=>by
  rcases h.2.1 with e|⟨a,b,z,_,e⟩
  .have:=h'.1;omega
  .have:=h'.2.2 a b z;omega
 exact Int.le_antisymm (gen h h') (gen h' h)
def n9(n)(R)(g:az R)(Z:R.flatten.length<=4000):aa defs (n+3) 28 [.val (ofR R)]=some (.bl (hv R)):=by
 obtain⟨M,em,J⟩:=oV n R g;have U:=sW n R g.1 (by have:=g.2.2;omega);have Y:=cw n R g.1 Z;have z:=aJ (bb g.1);have hb:hv R=decide (1152921504606846976*M*(((ae R).length:Int) / 2)<4*(R.map wgt).sum):=by
  rw[Kv,F0,KY];exact⟨λ⟨N,hN,h⟩=>by rw[xw J hN];exact h,λh=>⟨M,J,h⟩⟩
 rw[hb,ac (d:=nW) rfl rfl];generalize (R.map wgt).sum=w at U;generalize ae R=ks at Y z;have b1:(-18446744073709551616<(4:Int)/\(4:Int)<18446744073709551616\/-18446744073709551616<w/\w<18446744073709551616):=.inl ⟨by decide,by decide⟩;have b2:(-18446744073709551616<(1152921504606846976:Int)/\(1152921504606846976:Int)<18446744073709551616\/-18446744073709551616<M/\M<18446744073709551616):=.inl ⟨by decide,by decide⟩;have b3:(-18446744073709551616<1152921504606846976*M/\1152921504606846976*M<18446744073709551616\/-18446744073709551616<(ks.length:Int) / 2/\(ks.length:Int) / 2<18446744073709551616):=.inr ⟨by omega,by omega⟩;have e1:ev (aa defs (n+2)) (.bin .mul (ci 4) (.call 21 [.bor 0])) [sv (ofR R)]=some (.int (4*w)):=by
  rw[ev,ab (vs:=[.val (ofR R)]) (by simp[evA]) U];simp[ev,b1]
 have e2:ev (aa defs (n+2)) (.bin .mul (.bin .mul (.glob "UNIT" (.int 1152921504606846976)) (.call 26 [.bor 0])) (.bin .fdiv (.blt .len [(.call 5 [.bor 0])]) (ci 2))) [sv (ofR R)]=some (.int (1152921504606846976*M*((ks.length:Int) / 2))):=by
  have e3:ev (aa defs (n+2)) (.bin .mul (.glob "UNIT" (.int 1152921504606846976)) (.call 26 [.bor 0])) [sv (ofR R)]=some (.int (1152921504606846976*M)):=by
   rw[ev,ab (vs:=[.val (ofR R)]) (by simp[evA]) em];simp[ev,b2]
  have e4:ev (aa defs (n+2)) (.bin .fdiv (.blt .len [(.call 5 [.bor 0])]) (ci 2)) [sv (ofR R)]=some (.int ((ks.length:Int) / 2)):=by
   rw[ev,aH (ab (vs:=[.val (ofR R)]) (by simp[evA]) Y)];simp[ev]
  rw[ev,e3,e4]
  simp_all
 show aS (exs (aa defs (n+2)) [_] [sv (ofR R)])=_;rw[ar,dc (v:=.bl (decide (1152921504606846976*M*((ks.length:Int) / 2)<4*w)))]
 .rfl
 .rw[ev,e1,e2]
  rfl
def l4 (n) (R) (g:az R) (J:R.flatten.length<=4000):aa defs (n+4) 29 [.val (ofR R),.val (.str "weaver")]=some (.bl (hv R)) /\
  aa defs (n+4) 29 [.val (ofR R),.val (.str "moth")]=some (.bl (decide ([]∈R)||(hv R&&(ae R).all λh=>hv (i3 h R)))):=by
 have U:=n9 n R g J;have z:=jP (n+2) R;have Y:=cw (n+1) R g.1 J;have Z:=aJ (bb g.1);constructor
 .rw[ac (d:=cZ) rfl rfl];have h:((("weaver":Str)==("weaver":Str)))=true:=by decide
  simp[cZ,exs,ex,ev,evA,evB,h,U]
 .rw[ac (d:=cZ) rfl rfl];have h:((("moth":Str)==("weaver":Str)))=false:=by decide
  have ec:ev (aa defs (n+3)) (.comp .seq [(.call 5 [.bor 0])] [0] (.cst (.bl true)) (.call 28 [(.call 4 [.bor 1,.bor 0])])) [sv (ofR R),sv (.str "moth")]=some (.lst (((ae R).map λh=>hv (i3 h R)).map .bl)):=by
   refine(cq (g:=.int) (h:=λh=>.bl (hv (i3 h R))) (vs:=[ofL (ae R)]) ?_ rfl (by omega) λh _=>?_).trans (by rw[J2];rfl)
   .rw[evs,ab (vs:=[.val (ofR R)]) (by simp[evA]) Y];simp[evs]
   .have eb:ev (aa defs (n+3)) (.call 4 [.bor 1,.bor 0]) (cj [0] [sv (ofR R),sv (.str "moth")] (.int h))=some (ofR (i3 h R)):=ab (vs:=[.val (ofR R),.val (.int h)]) (by simp[evA,cj]) (sX (n+2) R h (by have:=g.2.2;omega));exact ab (vs:=[.val (ofR (i3 h R))]) (by simp only[evA,eb];simp) (n9 n (i3 h R) (pV g) (wh (pW h R) J))
  have ea:ev (aa defs (n+3)) (.and (.call 28 [.bor 0]) (.blt .all [(.comp .seq [(.call 5 [.bor 0])] [0] (.cst (.bl true)) (.call 28 [(.call 4 [.bor 1,.bor 0])]))])) [sv (ofR R),sv (.str "moth")]=some (.bl (hv R&&(ae R).all λh=>hv (i3 h R))):=by
   refine db (ab (vs:=[.val (ofR R)]) (by simp[evA]) U) λ_=>?_
   rw[aH ec,v7,dQ,map_some,MA]
   rfl
  show aS (exs (aa defs (n+3)) (_::_::[_]) [sv (ofR R),sv (.str "moth")])=_;simp only[ar];rw[show ex (aa defs (n+3)) (.ite (.cmp .eq (.bor 1) (cs "weaver")) [.ret (.call 28 [.bor 0])] []) [sv (ofR R),sv (.str "moth")]=.next [sv (ofR R),sv (.str "moth")]from by simp[ex,exs,ev,evB,h],aR];by_cases q:[]∈R
  .rw[J1 q]at z ⊢;simp[ex,exs,ev,evA,evB,z]
  .rw[J5 q]at z ⊢;rw[show ex (aa defs (n+3)) (.ite (.call 6 [.bor 0]) [.ret (.cst (.bl true))] []) [sv (ofR R),sv (.str "moth")]=.next [sv (ofR R),sv (.str "moth")]from by simp[ex,exs,ev,evA,evB,z],aR,dc ea]
   rfl
def ju (n) (R) (g:az R):∃M,Top R M/\aa defs (n+4) 27 [.val (ofR R),.val (.str "weaver")]=some (.bl (decide ((R.map wgt).sum+M<1152921504606846976)))/\aa defs (n+4) 27 [.val (ofR R),.val (.str "moth")]=some (.bl (decide ((R.map wgt).sum<1152921504606846976))):=by
 obtain⟨M,em,J⟩:=uX n R g;have z:=sW (n+1) R g.1 (by have:=g.2.2;omega);refine⟨M,J,?_,?_⟩
 .rw[ac rfl rfl];have h:((("weaver":Str)==("moth":Str)))=false:=by decide
  simp[gc,exs,ex,ev,evA,evB,h,z,em]
 .rw[ac rfl rfl];simp[gc,exs,ex,ev,evA,evB,z]
theorem lQ(cal)(a s):∀(U J:List Int) kk,J.Nodup->(∀x∈J,0<=x/\x<=59)->(∀x∈U,0<=x/\x<=59) ->
  ∃Y,aq (λx l=>exs cal cX (put l 3 (.val x))) (U.map .int) [some a,some (.own (J.map .int)),some s,kk]=.next [some a,some (.own ((U.foldl iF J).map .int)),some s,Y]
 | [],J,kk,_,_,_=>⟨kk,rfl⟩
 |t::U,J,kk,h1,h2,Z=>by
  rw[JW,aq];have hl:J.length<10000:=by have:=CI (R:=[]) h1 h2;omega
  have e:exs cal cX (put [some a,some (.own (J.map .int)),some s,kk] 3 (.val (.int t)))=.next [some a,some (.own ((iF J t).map .int)),some s,sv (.int t)]:=by
   by_cases q:t∈J
   .simp[cX,exs,ex,ev,evB,aU,iF,q]
   .simp[cX,exs,ex,ev,evB,aU,iF,q,hl]
  rw[e];obtain⟨q1,q2⟩:=we (h:=t) h1;exact lQ cal a s U (iF J t) _ q1 (λx hx=>((q2 x).mp hx).elim (h2 x) λz=>z▸Z t (.head _)) λx hx=>Z x (.tail _ hx)
theorem n_(cal)(a):∀(R:LL) (J:List Int) (s kk:Option MV),J.Nodup->(∀x∈J,0<=x/\x<=59)->(∀U∈R,∀x∈U,0<=x/\x<=59) ->
  ∃s' Y,aq (λx l=>exs cal d5 (put l 2 (.val x))) (R.map ofS) [some a,some (.own (J.map .int)),s,kk]=.next [some a,some (.own ((R.foldl (λJ U=>U.foldl iF J) J).map .int)),s',Y]
 | [],J,s,kk,_,_,_=>⟨s,kk,rfl⟩
 |t::R,J,s,kk,h1,h2,Z=>by
  rw[JW,aq];obtain⟨k',e2⟩:=lQ cal a (.val (ofS t)) t J kk h1 h2 (Z t (.head _));have e:exs cal d5 (put [some a,some (.own (J.map .int)),s,kk] 2 (.val (ofS t)))=.next [some a,some (.own ((t.foldl iF J).map .int)),sv (ofS t),k']:=by
   simp[d5,exs,ex,ev,evs,br,e2,aQ]
  rw[e];obtain⟨q1,q2⟩:=n8 t J h1;exact n_ cal a R _ _ _ q1 (λx hx=>((q2 x).mp hx).elim (h2 x) λz=>Z t (.head _) x z) λU ao=>Z U (.tail _ ao)
def ip(n)(R)(g:∀z∈R,ce z):aa defs (n+1) 48 [.val (ofR R)]=some (ofL (ae R)):=by
 rw[ac rfl rfl];obtain⟨s',Z,e⟩:=n_ (aa defs n) (.val (ofR R)) R [] none none Lk (λx h=>by cases h) λz J=>(g z J).2
 have U:(kE R).length<64:=by have:=xv g;omega
 simp[map_nil]at e;have Y:R.foldl (λacc z=>z.foldl iF acc) []=kE R:=rfl;rw[Y]at e;simp[lL,exs,ex,ev,evs,br,e,aQ,pO U,ae]
def kG(n)(R)(h)(J:R.length<=10000):aa defs (n+1) 47 [.val (ofR R),.val (.int h)]=some (ofR (i3 h R)):=by
 rw[ac rfl rfl];simp[kA,exs,ex,ev,evs,J];rw[cn (p:=λz=>!decide (h∈z)) (h:=ofS)]
 .simp[i3]
 .intro z _;simp[cj,aU]
 .intro z _ _;simp[cj]
def IE(cal)(W):ev cal (.bin .pow (ci 2) (ci 60)) W=some (.int 1152921504606846976):=rfl
def IF(cal)(s)(z:s.length<=60)(r):ev cal (.bin .shr (.bin .pow (ci 2) (ci 60)) (.blt .len [.bor 0])) (sv (ofS s)::r)=some (.int (wgt s)):=by
 rw[cv (IE _ _) (y:=.int (s.length:Int)) (by simp[ev,evs])];show(if 0<=(s.length:Int)then some _ else none)=_;rw[if_pos (by omega),Int.toNat_natCast,sS _ z]
 rfl
def F2{ns:List Int}(h:ev cal e W=some (.lst (ns.map .int))):ev cal (.blt .sum [e]) W=some (.int ns.sum):=by
 rw[aH h];show((bf _).map λns=>PV.int ns.sum)=_;rw[bt]
 rfl
def sY(R)(h):((R.filter λs=>decide (h∈s)).map wgt).sum=a_ R h:=by
 unfold a_
 induction R with
 |nil=>rfl
 |cons s R ih =>
  by_cases q:h∈s
  .simp_all
  .simp_all
noncomputable def af (b:Bool):PySem.Str:=if b=true then "moth" else "weaver"
def wf(a b):((PySem.Str.ofString a)==(PySem.Str.ofString b))=(a==b):=by
 rw[Kv,J0,J0];refine⟨λh=>?_,λh=>by rw[h]⟩;rw[PySem.Str.ofString_eq_byList]at h;unfold PySem.Str.ofStringByList at h;have h1:(a.toList.map Char.toNat).toArray=(b.toList.map Char.toNat).toArray:=by injection h
 have h2:a.toList.map Char.toNat=b.toList.map Char.toNat:=by simpa using h1
 have key:∀xs ys:List Char,xs.map Char.toNat=ys.map Char.toNat->xs=ys:=by
  intro xs
  induction xs with
  |nil=>intro ys h;cases ys with|nil=>rfl|cons=>simp at h
  |cons x xs ih=>intro ys h;cases ys with
   |nil=>simp at h
   |cons y ys =>
    simp only[JW,Ma]at h;rw[ih ys h.2,Char.toNat_inj.mp h.1]
 exact String.toList_inj.mp (key _ _ h2)
def ax(h:ev cal e W=some v)(k:aS (exs cal ms (put W i (.val v)))=X):aS (exs cal (.set i e::ms) W)=X:=by simp_all [ar,ik]
def cx(h:ex cal m W=.next l)(k:aS (exs cal ms l)=X):aS (exs cal (m::ms) W)=X:=by simp_all [ar]
def cH(h:ev cal e W=some v):aS (exs cal (.ret e::ms) W)=some v:=by
 rw[ar,dc h];rfl
def bn(h:ev cal e W=some v)(k:exs cal ms (put W i (.val v))=r):exs cal (.set i e::ms) W=r:=by
 rw[ar,ik h,aR,k]
def dL(h:ex cal m W=.next l)(k:exs cal ms l=r):exs cal (m::ms) W=r:=by simp_all [ar]
def b6(h:ex cal m W=.next l):exs cal [m] W=.next l:=by
 rw[ar,h,aR,exs]
def aK(h:ev cal c W=some (.bl p)):ex cal (.ite c a b) W=if p=true then exs cal a W else exs cal b W:=by
 rw[ex,uU h,nL]
def au(h:ev cal c W=some (.bl false))(k:aS (exs cal ms W)=X):aS (exs cal (.ite c a []::ms) W)=X:=by simp_all [aK,exs]
def bz(h:ev cal c W=some (.bl true))(k:ev cal e W=some v):aS (exs cal (.ite c [.ret e] b::ms) W)=some v:=by
 rw[ar,aK h,if_pos rfl,ar,dc k];rfl
def eI(h:ev cal (.call f as) W=some v)(k:evA cal es W=some vs):evA cal (.call f as::es) W=some (.val v::vs):=by simp_all [evA]
def bX(h:ev cal (.idx a i) W=some v)(k:evA cal es W=some vs):evA cal (.idx a i::es) W=some (.val v::vs):=by simp_all [evA]
def kH(h:gE (W[i]?).join=some m)(k:evA cal es W=some vs):evA cal (.bor i::es) W=some (m::vs):=by simp_all [evA]
def pX(h:ev cal a W=some (.bl p)):ev cal (.not a) W=some (.bl (!p)):=by
 rw[ev,h];rfl
def JN(h:ev cal c W=some (.bl p))(k:ev cal e W=some v)(z:p=false->aS (exs cal ms W)=some w):aS (exs cal (.ite c [.ret e] []::ms) W)=some (if p=true then v else w):=by
 cases p<;>first|exact bz h k|exact au h (z rfl)
def xy(h:ev cal c W=some (.bl true))(k:exs cal a W=.ret v):aS (exs cal (.ite c a b::ms) W)=some v:=by
 rw[ar,aK h,if_pos rfl,k];rfl
def oW(h:ev cal c W=some (.bl false))(k:exs cal ms W=r):exs cal (.ite c a []::ms) W=r:=by simp_all [aK,exs]
def jv(h:ev cal e W=some v):exs cal (.ret e::ms) W=.ret v:=by
 rw[ar,dc h];rfl
def pY(h:ev cal c W=some (.bl true))(k:ev cal e W=some v):exs cal (.ite c [.ret e] b::ms) W=.ret v:=by
 rw[ar,aK h,if_pos rfl,ar,dc k];rfl
def CJ(h:ev cal a W=some (.bl p))(h':p=false->ev cal b W=some (.bl q)):ev cal (.or a b) W=some (.bl (p||q)):=by
 rw[ev,h];cases p<;>first|rfl|simp[h' rfl]
def AA(h:isIn x xs=some p)(z:ev cal a W=some x)(J:ev cal b W=some (.tup xs)):ev cal (.cmp .isIn a b) W=some (.bl p):=by
 rw[bP z J,CA,h];rfl
def jw(ho:(W[i]?).join=some (.own xs))(h:ev cal e W=some v)(z:xs.length<10000):ex cal (.append i e) W=.next (put W i (.own (xs++[v]))):=by
 rw[ex,ho,h];simp[z]
def qX(h:((xs.length:Int)==0)=p)(z:ev cal a W=some (.tup xs)):ev cal (.cmp .eq (.blt .len [a]) (ci 0)) W=some (.bl p):=by
 rw[bP (aH z) (de _ _ _),<- h];rfl
def qY(h:(evs cal src W).bind (bm k)=some xs)(e:aq (λx l=>exs cal body (put l i (.val x))) xs (br src W)=.ret v):exs cal (.for1 i k src body::ms) W=.ret v:=by
 rw[ar,dJ h,e];rfl
def xz(h:ev cal e W=some (.lst xs)):(evs cal [e] W).bind (bm .seq)=some xs:=by simp_all [evs]
def aA(h:ev cal e W=some v)(k:evs cal es W=some vs):evs cal (e::es) W=some (v::vs):=by simp_all [evs]
def bN(h:evs cal es W=some vs)(z:vs.length<=10000:=by simp):ev cal (.tup es) W=some (.tup vs):=by
 rw[ev,h,bind_some,if_pos z]
def xA(n)(R):aa defs (n+1) 7 [.val (ofR R)]=some (.bl (decide (R=[]))):=by
 rw[ac rfl rfl];cases R with
 |nil=>simp[ln,exs,ex,ev,evs]
 |cons t R =>
  have:¬ ((R.length:Int)+1=0):=by omega
  simp[ln,exs,ex,ev,evs,this]
noncomputable def aZ:Option Int->PV
 |none=>.non
 |some i=>.int i
def wg(x h:Int):(x==h)=decide (x=h):=rfl
noncomputable def drp(h:Int)(z:List Int):List Int:=z.filter λx=>!decide (x=h)
noncomputable def oX(h:Int)(R:LL):LL:=sortT (R.map (drp h))
def AB(g:ce z):ce (drp h z):=⟨g.1.filter _,λx hx=>g.2 x (KJ.mp hx).1⟩
def xB{R:LL}(g:az R):az (oX h R):=by
 refine⟨λU z=>?_,sortT_rises _,by unfold oX;rw[sortT_len,pd];exact g.2.2⟩;obtain⟨t,J,rfl⟩:=mem_map.mp (je.mp z);exact AB (g.1 t J)
def l5(n)(z)(h)(J:z.length<=10000):aa defs (n+1) 2 [.val (ofS z),.val (.int h)]=some (ofS (drp h z)):=by
 rw[ac rfl rfl];simp[iy,exs,ex,ev,evs,J];rw[cn (p:=λx=>!decide (x=h)) (h:=PV.int)]
 .simp[drp]
 .intro x _;simp[cj,wg]
 .intro x _ _;simp[cj]
def xC(n)(R)(h)(g:az R):aa defs (n+2) 3 [.val (ofR R),.val (.int h)]=some (ofR (oX h R)):=by
 rw[ac (d:=lm) rfl rfl];have J:R.length<=10000:=by have:=g.2.2;omega
 simp[lm,exs,ex,ev,evs,J];rw[ie (h:=λU=>ofS (drp h U))]
 .have e:(R.map λc=>ofS (drp h c))=(R.map (drp h)).map ofS:=by rw[J2];rfl
  have z:(R.map (drp h)).length<64:=by rw[pd];have:=g.2.2;omega
  rw[e];simp[-List.map_map,dR z,oX]
 .intro c _;simp[ev]
 .intro c hc;have J:=aJ (g.1 c hc);simp[ev,evA,cj,l5 n c h (by omega)]
def xD(h)(R):(oX h R).flatten.length<=R.flatten.length:=by
 have p:(oX h R).flatten.length=(R.map _).flatten.length:=((sortT_perm (R.map _)).flatten).length_eq;rw[p]
 induction R with
 |nil=>exact pb _
 |cons s R ih =>
  rw[JW,flatten_cons,flatten_cons,tr,tr];have:(drp h s).length<=s.length:=LA _ _;have:=ih (by exact((sortT_perm (R.map _)).flatten).length_eq);omega
noncomputable def bhd(h:Bool)(R:LL):Option Int->LL
 |none=>R
 |some k=>if h=true then i3 k R else oX k R
def cA{R:LL}(g:az R)(r):az (bhd h R r):=by
 cases r<;>first|exact g|cases h with|true=>exact pV g|false=>exact xB g
def mD(n)(h):aa defs (n+1) 8 [.val (.str (af h))]=some (.str (af (!h))):=by
 rw[ac rfl rfl];cases h<;>simp[ku,exs,ex,ev,wf,af]
def g7(n)(R)(g:az R)(h)(r):aa defs (n+3) 9 [.val (ofR R),.val (.str (af h)),.val (aZ r)]=some (ofR (bhd h R r)):=by
 rw[ac rfl rfl];cases r with
 |none=>simp[nS,exs,ex,ev,evB,aZ,bhd,jp]
 |some k =>
  have z:=xC n R k g;have J:=λn=>sX n R k (by have:=g.2.2;omega)
  cases h<;>simp[nS,exs,ex,ev,evB,evA,aZ,bhd,wf,af,jp,z,J]
def i4(h)(R)(r):(bhd h R r).flatten.length<=R.flatten.length:=by
 cases r with
 |none=>exact pb _
 |some k=>cases h with|true=>exact pW k R|false=>exact xD k R
def gM {R:PV} (h:aa defs n 37 [.val v,.val R,.val (.str t)]=some r):aa defs (n+1) 36 [.val v,.val R,.val (.str t),.val (.str "moth")]=some r:=
  bz rfl (ab rfl h)
def gW {R:PV} (h:aa defs n 38 [.val v,.val R,.val (.str t)]=some r):aa defs (n+1) 36 [.val v,.val R,.val (.str t),.val (.str "weaver")]=some r:=
  au rfl (cH (ab rfl h))
def F3 (n) (R) (t h):aa defs (n+3) 36 [.val (.tup [.str "bare"]),.val (ofR R),.val (.str (af t)),.val (.str (af h))]=some (.bl (h&&decide (R=[]))):=by
 cases h
 .refine gW ?_;cases t<;>rfl
 .refine gM ?_;rw[ac rfl rfl];exact ax rfl (bz rfl (ab rfl (xA n R)))
def CK (n) (R) (t h):aa defs (n+3) 36 [.val (.tup [.str "whole"]),.val (ofR R),.val (.str (af t)),.val (.str (af h))]=some (.bl (!h&&decide ([]∈R))):=by
 cases h
 .refine gW ?_;exact ax rfl (bz rfl (ab rfl (jP n R)))
 .refine gM ?_;cases t<;>rfl
noncomputable def F4(R:LL)(M:Int)(t h:Bool):Bool:=
 if h=true then(if t=true then decide ((R.map wgt).sum<1152921504606846976)else decide ((R.map wgt).sum+M<1152921504606846976))
 else(if t=true then decide ([]∈R)||(hv R&&(ae R).all λh=>hv (i3 h R))else hv R)
def AC (n) (R) (g:az R) (U:R.flatten.length<=4000) (Y:Top R M) (t h):aa defs (n+6) 36 [.val (.tup [.str "weight"]),.val (ofR R),.val (.str (af t)),.val (.str (af h))]=some (.bl (F4 R M t h)):=by
 cases h
 .obtain⟨z,J⟩:=l4 n R g U;refine gW ?_;rw[ac rfl rfl];refine ax rfl (au rfl (bz rfl (ab rfl ?_)));cases t
  .exact z
  .exact J
 .obtain⟨N,Z,z,J⟩:=ju n R g;rw[Av Z Y]at z;refine gM ?_;refine ax rfl (au rfl (bz rfl (ab rfl ?_)));cases t
  .exact z
  .exact J
def CL (n) (R P) (z:OkP P) (J:P.length<=60) (g:az R) (t h):aa defs (n+5) 36 [.val (.tup [.str "pairs",ofR P]),.val (ofR R),.val (.str (af t)),.val (.str (af h))]=some (.bl (h&&!t&&Ao P R)):=by
 cases h
 .refine gW ?_;cases t<;>rfl
 .refine gM ?_;rw[ac rfl rfl];cases t
  .exact ax rfl (au rfl (au rfl (au rfl (bz rfl (ab rfl (qW n _ P R rfl z J g.1 g.2.2))))))
  .rfl
def AD{R:LL}(g:az R)(k)(r)(t h)(J:aa defs (n+3) 36 [.val p,.val (ofR (bhd k R r)),.val (.str (af (!k))),.val (.str (af k))]=some (.bl b)) :
  aa defs (n+6) 36 [.val (.tup [.str (if k=true then "bite" else "knot"),aZ r,p]),.val (ofR R),.val (.str (af t)),.val (.str (af h))]=some (.bl ((h==k)&&(t==k)&&b)):=by
 have z:aa defs (n+4) 39 [.val (.tup [.str (if k=true then "bite" else "knot"),aZ r,p]),.val (ofR R),.val (.str (af k))]=some (.bl b):=by
  rw[ac rfl rfl];exact cH (ab (bX rfl (eI (ab rfl (g7 n R g k r)) (eI (ab rfl (mD _ k)) rfl))) J)
 cases h
 .refine gW ?_;rw[ac rfl rfl];cases k<;>cases t<;>first|rfl|exact ax rfl (au rfl (au rfl (au rfl (bz rfl (db rfl λ_=>ab rfl z)))))
 .refine gM ?_;cases k<;>cases t<;>first|rfl|exact ax rfl (au rfl (au rfl (bz rfl (db rfl λ_=>ab rfl z))))
def wj(n)(Rs:List (LL))(J:∀R∈Rs,(∀t∈R,ce t)/\R.flatten.length<=4000)(hl:Rs.length<=16):aa defs (n+3) 19 [.val (.lst (Rs.map ofR))]=some (.bl (decide (Rs.map ae).flatten.Nodup)):=by
 rw[ac (d:=lJ) rfl rfl];have Y:∀Rs:List (LL),(∀R∈Rs,(∀t∈R,ce t)/\R.flatten.length<=4000)->(Rs.map ae).flatten.length<=60*Rs.length:=λRs=>by
  induction Rs with
  |nil=>intro _;simp
  |cons R Rs ih =>
   intro J;have h1:=aJ (bb (J R (.head _)).1);have h2:=ih λR U=>J R (.tail _ U)
   rw[JW,flatten_cons,tr,length_cons];omega
 have hF:=Y Rs J;have Z:ev (aa defs (n+2)) (.comp .seq [.bor 0] [] (.cst (.bl true)) (.call 5 [.bor 0])) [sv (.lst (Rs.map ofR))]=some (.lst ((Rs.map ae).map ofL)):=by
  refine(cq (g:=ofR) (h:=λR=>ofL (ae R)) (vs:=[.lst (Rs.map ofR)]) (by simp[evs,ev]) rfl (by omega) λR U=>?_).trans (by rw[J2];rfl);exact ab (vs:=[.val (ofR R)]) (by simp[evA,cj]) (cw n R (J R U).1 (J R U).2)
 have e1:=lv (n+1) (.val (.lst ((Rs.map ae).map ofL))) (λ_ z=>by cases z) (Rs.map ae) ofL (λ_=>rfl) rfl (by omega);have e2:=An (n+1) (Rs.map ae).flatten (by omega);show aS (exs (aa defs (n+2)) [.ret _] [sv (.lst (Rs.map ofR))])=_;rw[ar,dc (sO (λ_ z=>by cases z) (sO (λ_ z=>by cases z) Z e1) e2)]
 rfl
def CM(h:ce t):(dd t).length<=60:=by rw[Du (fo h.1)];exact aJ h
noncomputable def uY:Option Nat->PV
 |none=>.non
 |some i=>.int i
noncomputable def uZ(s:List Int)(R:LL):Option Nat:=R.findIdx? λt=>sub t s
theorem og(n)(s)(a b)(hs:s.length<=4000)(Y:a=sv (ofS s)):∀R k x y,(∀t∈R,ce t) ->
  (∀i,uZ s R=some i->aq (λx l=>bZ (cE [2,3] x l) λz=>exs (aa defs (n+1)) bA z) (bB k (R.map ofS)) [a,b,x,y]=.ret (.int ((k+i:Nat):Int))) /\
  (uZ s R=none->∃Z y',aq (λx l=>bZ (cE [2,3] x l) λz=>exs (aa defs (n+1)) bA z) (bB k (R.map ofS)) [a,b,x,y]=.next [a,b,Z,y'])
 | [],k,x,y,_=>⟨λi h=>(by cases h),λ_=>⟨x,y,rfl⟩⟩
 |t::R,k,x,y,h=>by
  subst Y;have e:=lu n (.val (ofS s)) (.val (ofS t)) s t rfl rfl hs (by have:=aJ (h t (.head _));omega) (CM (h t (.head _)));rw[JW,bB,aq];unfold uZ;rw[findIdx?_cons];cases U:sub t s with
  |true =>
   rw[U]at e;have J:(bZ (cE [2,3] (.tup [.int (k:Nat),ofS t]) [sv (ofS s),b,x,y]) λz=>exs (aa defs (n+1)) bA z)=.ret (.int (k:Nat)):=by
    simp[cE,m_,bA,exs,ex,ev,evs,evB,evA,e]
   rw[J];exact⟨λi hi=>(by simp at hi;subst hi;rfl),λhi=>(by simp at hi)⟩
  |false =>
   rw[U]at e;have J:(bZ (cE [2,3] (.tup [.int (k:Nat),ofS t]) [sv (ofS s),b,x,y]) λz=>exs (aa defs (n+1)) bA z)=.next [sv (ofS s),b,sv (.int (k:Nat)),sv (ofS t)]:=by
    simp[cE,m_,bA,exs,ex,ev,evs,evB,evA,e]
   rw[J];obtain⟨h1,h2⟩:=og n s (sv (ofS s)) b hs rfl R (k+1) (sv (.int (k:Nat))) (sv (ofS t)) λu hu=>h u (.tail _ hu)
   constructor
   .intro i hi;simp only[J7,KS,pe]at hi;obtain⟨j,hj,rfl⟩:=hi;rw[show k+(j+1)=k+1+j by omega];exact h1 j hj
   .intro hi;simp only[J7,KS,map_eq_none_iff]at hi;exact h2 hi
def CN(n)(s)(R)(hs:s.length<=4000)(g:∀t∈R,ce t):aa defs (n+2) 12 [.val (ofS s),.val (ofR R)]=some (uY (uZ s R)):=by
 rw[ac (d:=d4) rfl rfl];obtain⟨h1,h2⟩:=og n s (sv (ofS s)) (sv (ofR R)) hs rfl R 0 none none g;cases hf:uZ s R with
 |some i =>
  have e:=h1 i hf;rw[Ly]at e;simp[d4,exs,ex,ev,evs,bm,br,e,uY]
 |none =>
  obtain⟨z,J,e⟩:=h2 hf;simp[d4,exs,ex,ev,evs,bm,br,e,uY,aQ]
noncomputable def F5(A B:LL):List (Option Nat):=A.map λs=>uZ s B
def xE(n)(A B)(z:az A)(J:az B):aa defs (n+3) 13 [.val (ofR A),.val (ofR B)]=some (.lst ((F5 A B).map uY)):=by
 rw[ac rfl rfl];have U:A.length<=10000:=by have:=z.2.2;omega
 simp[pP,exs,ex,ev,evs,U];rw[ie (h:=λs=>uY (uZ s B))]
 .simp[F5]
 .intro c _;simp
 .intro c hc;simp[evA,cj,CN n c B (by have:=aJ (z.1 c hc);omega) J.1]
theorem sZ:∀F:List (Option Nat),isIn .non (F.map uY)=some (decide (none∈F))
 | []=>rfl
 |o::F=>by
  have ih:=sZ F;unfold isIn at ih ⊢;rw[JW,inL,ih];cases o<;>simp[uY,show ∀v,eqF 100 (.int v) .non=some false from λ_=>rfl,show eqF 100 PV.non .non=some true from rfl]
noncomputable def below(A B:LL):Bool:=decide (none∉F5 A B)
def iq(n)(A B)(z:az A)(J:az B):aa defs (n+4) 14 [.val (ofR A),.val (ofR B)]=some (.bl (below A B)):=by
 rw[ac rfl rfl];simp[nT,exs,ex,ev,evA,xE n A B z J,sZ,below]
def wk {A R:LL} (z:az A) (g:az R) (t h) (J:aa defs (n+4) 36 [.val p,.val (ofR A),.val (.str (af t)),.val (.str "weaver")]=some (.bl x)) :
  aa defs (n+6) 36 [.val (.tup [.str "fewer",ofR A,p]),.val (ofR R),.val (.str (af t)),.val (.str (af h))]=some (.bl (!h&&below A R&&x)):=by
 cases h
 .refine gW ?_;rw[ac rfl rfl];exact ax rfl (au rfl (au rfl (bz rfl (db (ab rfl (iq n A R z g)) λ_=>ab rfl J))))
 .refine gM ?_;cases t<;>rfl
def s_{A B R:LL}(U:az A)(Y:az B)(g:az R)(fA:A.flatten.length<=4000)(fB:B.flatten.length<=4000)(t h)
  (hp:aa defs (n+4) 36 [.val p,.val (ofR A),.val (.str "weaver"),.val (.str "weaver")]=some (.bl x)) (hq:aa defs (n+4) 36 [.val q,.val (ofR B),.val (.str "weaver"),.val (.str "weaver")]=some (.bl y)) :
  aa defs (n+7) 36 [.val (.tup [.str "either",ofR A,p,ofR B,q]),.val (ofR R),.val (.str (af t)),.val (.str (af h))]=some (.bl (!h&&t&&(decide (ae A++ae B).Nodup&&below A R&&below B R&&(x&&y)))):=by
 cases h with
 |true =>
  refine gM ?_;rw[ac (d:=c7) rfl rfl];cases t<;>rfl
 |false =>
  refine gW ?_;cases t with
  |false =>
   rw[ac (d:=bW) rfl rfl]
   rfl
  |true =>
   have J:=wj (n+1) [A,B] (λR z=>by
    rcases JY.mp z with rfl|z
    .exact⟨U.1,fA⟩
    .rcases JY.mp z with rfl|z
     .exact⟨Y.1,fB⟩
     .cases z) (by simp)
   simp only[JW,map_nil,flatten_cons,flatten_nil,La]at J;have Z:=iq n A R U g;have e2:=iq n B R Y g;have e3:aa defs (n+5) 43 [.val (.tup [.str "either",ofR A,p,ofR B,q]),.val (ofR R)]=some (.bl (decide (ae A++ae B).Nodup&&below A R&&below B R&&(x&&y))):=by
    rw[ac (d:=gR) rfl rfl];generalize decide (ae A++ae B).Nodup=b0 at J ⊢;generalize below A R=b1 at Z ⊢;generalize below B R=b2 at e2 ⊢;refine(ax rfl (ax rfl (JN (CJ (pX (ab rfl J)) λ_=>CJ (pX (ab rfl Z)) λ_=>pX (ab rfl e2)) rfl λ_=>cH (db (ab rfl hp) λ_=>ab rfl hq)))).trans ?_
    grind
   rw[ac (d:=bW) rfl rfl];exact ax rfl (au rfl (au rfl (au rfl (au rfl (au rfl (bz rfl (ab rfl e3)))))))
noncomputable def aT(r:Int×Option Int×PV):PV:=.tup [.int r.1,aZ r.2.1,r.2.2]
noncomputable def bh2(h:Bool)(R:LL)(a:Int)(r:Option Int):LL:=bhd h (bhd (!h) R (some a)) r
def ti{R:LL}(g:az R)(a)(r):az (bh2 h R a r):=cA (cA g _) _
def kI(n)(R)(g:az R)(h)(a)(r):aa defs (n+4) 10 [.val (ofR R),.val (.str (af h)),.val (.int a),.val (aZ r)]=some (ofR (bh2 h R a r)):=by
 rw[ac (d:=jr) rfl rfl];exact cH (ab (eI (ab (kH rfl (eI (ab rfl (mD (n+2) h)) rfl)) (g7 n R g (!h) (some a))) rfl) (g7 n _ (cA g _) h r))
theorem oh(n)(R)(g:az R)(h)(U)(b):∀(z:List (Int×Option Int×PV)),(∀r∈z,aa defs (n+4) 36 [.val r.2.2,.val (ofR (bh2 h R r.1 r.2.1)),.val (.str (af (!h))),.val (.str (af h))]=some (.bl (b r)))->∀Y Z x5,
  (z.all b=true/\∃y3 y4 y5,aq (λx l=>bZ (cE [3,4,5] x l) λJ=>exs (aa defs (n+4)) aP J) (z.map aT) [U,sv (ofR R),sv (.str (af h)),Y,Z,x5]=.next [U,sv (ofR R),sv (.str (af h)),y3,y4,y5]) \/
  (z.all b=false/\aq (λx l=>bZ (cE [3,4,5] x l) λJ=>exs (aa defs (n+4)) aP J) (z.map aT) [U,sv (ofR R),sv (.str (af h)),Y,Z,x5]=.ret (.bl false))
 | [],_,Y,Z,x5=>.inl ⟨rfl,Y,Z,x5,rfl⟩
 |r::z,hr,Y,Z,x5=>by
  have e1:=hr r (.head _);have e2:=kI n R g h r.1 r.2.1;have e3:=mD (n+3) h;have turn:∀k,(bZ (cE [3,4,5] (aT r) [U,sv (ofR R),sv (.str (af h)),Y,Z,x5]) k)=k [U,sv (ofR R),sv (.str (af h)),sv (.int r.1),sv (aZ r.2.1),sv r.2.2]:=λk=>rfl
  rw[JW,all_cons];cases hb:b r with
  |false =>
   rw[hb]at e1;refine .inr ⟨rfl,?_⟩;rw[aq,turn,show exs (aa defs (n+4)) aP [U,sv (ofR R),sv (.str (af h)),sv (.int r.1),sv (aZ r.2.1),sv r.2.2]=.ret (.bl false)from by simp[aP,exs,ex,ev,evB,evA,e1,e2,e3]]
  |true =>
   rw[hb]at e1;have eb:exs (aa defs (n+4)) aP [U,sv (ofR R),sv (.str (af h)),sv (.int r.1),sv (aZ r.2.1),sv r.2.2]=.next [U,sv (ofR R),sv (.str (af h)),sv (.int r.1),sv (aZ r.2.1),sv r.2.2]:=by simp[aP,exs,ex,ev,evB,evA,e1,e2,e3]
   have st:=uV (body:=λx l=>bZ (cE [3,4,5] x l) λJ=>exs (aa defs (n+4)) aP J) (x:=aT r) (xs:=z.map aT) ((turn _).trans eb);rw[st,M1];exact oh n R g h U b z (λr a1=>hr r (.tail _ a1)) _ _ _
def JO(a b):cD .ne (ofL a) (ofL b)=some (!decide (a=b)):=by
 rw[z7,if_pos (show rV _ _=true from rfl),Ij]
 rfl
def CO(n)(R)(g:az R)(U:R.flatten.length<=4000)(h)(b)(z:List (Int×Option Int×PV))(Y:z.length<=10000)(Z:∀r∈z,aa defs (n+4) 36 [.val r.2.2,.val (ofR (bh2 h R r.1 r.2.1)),.val (.str (af (!h))),.val (.str (af h))]=some (.bl (b r))) :
  aa defs (n+5) 40 [.val (.tup (z.map aT)),.val (ofR R),.val (.str (af h))]=some (.bl (decide (z.map (·.1)=ae R)&&z.all b)):=by
 rw[ac (d:=gP) rfl rfl];have c1:∀W,ev (aa defs (n+4)) (.comp .seq [.bor 0] [] (.cst (.bl true)) (ix 0 0)) (sv (.tup (z.map aT))::W)=some (ofL (z.map (·.1))):=λW=>by
  refine(cq (g:=aT) (h:=λr=>.int r.1) (vs:=[.tup (z.map aT)]) (by simp[evs,ev]) rfl Y λr _=>?_).trans (by unfold ofL;rw[J2];rfl);simp[ev,place,cj,aT]
 have e1:ev (aa defs (n+4)) (.cmp .ne (.comp .seq [.bor 0] [] (.cst (.bl true)) (ix 0 0)) (.call 5 [.bor 1])) [sv (.tup (z.map aT)),sv (ofR R),sv (.str (af h)),none,none,none]=some (.bl (!decide (z.map (·.1)=ae R))):=by
  rw[bP (c1 _) (ab (vs:=[.val (ofR R)]) (by simp[evA]) (cw (n+2) R g.1 U)),JO]
  rfl
 show aS (exs (aa defs (n+4)) [.ite _ [.ret _] [],.forT [3,4,5] .seq [.bor 0] aP,.ret _] [sv (.tup (z.map aT)),sv (ofR R),sv (.str (af h)),none,none,none])=_;rw[ar,ex,uU e1,nL];cases decide (z.map (·.1)=ae R)with
 |false=>rfl
 |true =>
  rw[L5,if_neg (by decide),exs,aR,ar,mC (xs:=z.map aT) (by simp[evs,ev]),M1];show aS ((MM.R.back _ _ (aq _ _ [sv (.tup (z.map aT)),sv (ofR R),sv (.str (af h)),none,none,none])).andThen _)=_;rcases oh n R g h (sv (.tup (z.map aT))) b z Z none none none with⟨J,y3,y4,y5,e⟩|⟨J,e⟩
  .rw[e,J,du,aR,ar,dc (de _ _ _)]
   rfl
  .rw[e,J]
   rfl
def wl{R:LL}(g:az R)(Z:R.flatten.length<=4000)(h){J:List (Int×Option Int×PV)}(hl:J.length<=10000)(hr:∀r∈J,aa defs (n+4) 36 [.val r.2.2,.val (ofR (bh2 h R r.1 r.2.1)),.val (.str (af (!h))),.val (.str (af h))]=some (.bl (b r))) :
  aa defs (n+7) 36 [.val (.tup [.str "cases",.tup (J.map aT)]),.val (ofR R),.val (.str (af (!h))),.val (.str (af h))]=some (.bl ((if h=true then !decide ([]∈R)else !decide (ae R=[]))&&(decide (J.map (·.1)=ae R)&&J.all b))):=by
 have U:=CO n R g Z h b J hl hr;generalize J.all b=y at U ⊢;generalize decide (J.map (·.1)=ae R)=z at U ⊢;generalize J.map aT=V at U ⊢;cases h with
 |true =>
  refine gM ?_;rw[ac (d:=c7) rfl rfl];have Y:=jP (n+4) R;exact ax rfl (au rfl (au rfl (au rfl (au rfl (bz rfl (db (pX (ab rfl Y)) λ_=>ab rfl U))))))
 |false =>
  refine gW ?_;rw[ac (d:=bW) rfl rfl];have Y:=cw (n+3) R g.1 Z;have hz:decide ((0:Int)<((ae R).map PV.int).length)=!decide (ae R=[]):=by
   cases ae R<;>simp
  refine(ax rfl (au rfl (au rfl (au rfl (au rfl (bz rfl (db ((bP (aH (ab rfl Y)) rfl).trans rfl) λ_=>ab rfl U))))))).trans ?_;rw[hz]
  rfl
def oj (n) (R V) (h):aa defs (n+3) 36 [.val (.tup [.str "cases",V]),.val R,.val (.str (af h)),.val (.str (af h))]=some (.bl false):=by
 cases h
 .refine gW ?_
  rfl
 .refine gM ?_
  rfl
def qZ(n)(ns)(k b)(z:0<=k)(r):ev (aa defs (n+2)) (.call 45 [(.call 44 [.bor 0,(ci k)]),(ci b)]) (some (.brw (ns.map .int))::r)=some (.int (gU (cellOf ns k) b)):=by
 have J:ev (aa defs (n+2)) (.call 44 [.bor 0,(ci k)]) (some (.brw (ns.map .int))::r)=some (.int _):=ab (vs:=[.brw _,.val _]) (by simp[evA,ev]) (FY _ (.brw _) ns k rfl z);exact ab (vs:=[.val (.int _),.val _]) (by simp only[evA];rw[J];simp[ev]) (qS _ _ b)
def tj(h)(R)(a)(r):(bh2 h R a r).flatten.length<=R.flatten.length:=wh (i4 _ _ _) (i4 _ _ _)
def jx(n)(R)(h)(g:az R):aa defs (n+1) 46 [.val (ofR R),.val (.int h)]=some (ofR (oX h R)):=by
 rw[ac (d:=gh) rfl rfl];have U:R.length<=10000:=by have:=g.2.2;omega
 simp[gh,exs,ex,ev,evs,U];rw[ie (h:=λY=>ofS (drp h Y))]
 .have e:(R.map λc=>ofS (drp h c))=(R.map (drp h)).map ofS:=by rw[J2];rfl
  have z:(R.map (drp h)).length<64:=by rw[pd];have:=g.2.2;omega
  rw[e];simp[-List.map_map,dR z,oX]
 .intro c _;simp[ev]
 .intro c hc;have U:=aJ (g.1 c hc);have J:c.length<=10000:=by omega
  simp[ev,evs,evA,cj,J];rw[cn (p:=λx=>!decide (x=h)) (h:=PV.int)]
  .simp[drp]
  .intro x _;simp[ev,cj,wg]
  .intro x _ _;simp[ev,cj]
def eX(n)(R)(g:az R)(h)(r):aa defs (n+2) 55 [.val (ofR R),.val (.str (af h)),.val (aZ r)]=some (ofR (bhd h R r)):=by
 rw[ac rfl rfl];cases r with
 |none=>rfl
 |some i =>
  cases h
  .exact au rfl (au rfl (cH (ab rfl (jx n R i g))))
  .exact au rfl (bz rfl (ab rfl (kG n R i (by have:=g.2.2;omega))))
theorem jy{α:Type}(f)(g)(cal)(a):∀(W:List α) z s,(∀w∈W,bg (f w)=some (g w))->z.length+(W.map g).flatten.length<=10000 ->
  ∃s',aq (λx l=>exs cal bL (put l 2 (.val x))) (W.map f) [some a,some (.own z),s]=.next [some a,some (.own (z++(W.map g).flatten)),s']
 | [],z,s,_,_=>⟨s,by simp⟩
 |w::W,z,s,J,h=>by
  rw[JW,JW,aq];rw[JW,flatten_cons,tr]at h;have h2:z.length+(g w).length<=10000:=by omega
  have e:exs cal bL (put [some a,some (.own z),s] 2 (.val (f w)))=.next [some a,some (.own (z++g w)),sv (f w)]:=by
   simp[bL,exs,ex,ev,J w (.head _),h2]
  rw[e];obtain⟨s',U⟩:=jy f g cal a W (z++g w) (sv _) (λw hw=>J w (.tail _ hw)) (by rw[tr];omega);exact⟨s',by rw[flatten_cons,<- Kn];exact U⟩
def u0{α:Type}(f)(g)(n)(v)(W:List α)(hv:bg v=some (W.map f))(z:∀w∈W,bg (f w)=some (g w))(J:(W.map g).flatten.length<=10000):aa defs (n+1) 0 [.val v]=some (.lst (W.map g).flatten):=by
 rw[ac (d:=ig) rfl rfl];obtain⟨s',e⟩:=jy f g (aa defs n) (.val v) W [] none z (by simpa using J);rw[nil_append]at e;show aS (exs (aa defs n) (_::_::[_]) [sv v,none,none])=_;simp only[ar];rw[cT (xs:=[]) (by simp[ev,evs]),aR];simp only[cK,cz];rw[dJ (xs:=W.map f) (by simp[evs,ev,hv]),show br [.bor 0] [sv v,some (.own []),none]=[sv v,some (.own []),none]from rfl,e,du,aR]
 rfl
def F6(h:ev cal a W=some (.bl p))(h':ev cal b W=some (.bl q)):ev cal (.or a b) W=some (.bl (p||q)):=by
 rw[ev,h];cases p<;>first|rfl|simp[h']
noncomputable def al(r:LL×PV):PV:=.tup [ofR r.1,r.2]
def tm(n)(D:List (LL))(J:D.flatten.length<64):aa defs (n+2) 18 [.val (.lst (D.map ofR))]=some (ofR (sortT D.flatten)):=by
 rw[ac (d:=nU) rfl rfl];have z:(D.map λG=>G.map ofS).flatten=D.flatten.map ofS:=by rw[map_flatten]
 have em:=u0 ofR (λG=>G.map ofS) n (.lst (D.map ofR)) D rfl (λ_ _=>rfl) (by rw[z,pd];omega);rw[z]at em;refine cH (W:=[sv (.lst (D.map ofR))]) ((aH (v:=.lst ((sortT D.flatten).map ofS)) ?_).trans rfl);rw[aH (ab (vs:=[.val (.lst (D.map ofR))]) (by simp[evA]) em),dS,fM,bind_some,dR J]
def jQ(h:∀t∈F,ce t)(z:F.length<=60):az (sortT F):=⟨λt J=>h t (je.mp J),sortT_rises F,by rw[sortT_len];exact z⟩
def jR(F):(sortT F).flatten.length=F.flatten.length:=(sortT_perm F).flatten.length_eq
noncomputable def lw(D:List (LL))(R:LL):Bool:=!decide (R.length<D.flatten.length)&&decide (D.map ae).flatten.Nodup&&(sub (ae D.flatten) (ae R)&&below R (sortT D.flatten))
def tq(F):ae (sortT F)=ae F:=by
 rw[<- kF,<- kF];exact sortI_of_perm ((KQ (dd_nodup _) (dd_nodup _)).mpr λx=>by rw[iT,iT];exact(sortT_perm F).flatten.mem_iff)
def CP(n)(z:List (LL×PV))(R)(g:az R)(hf:R.flatten.length<=4000)(hl:z.length<=16)(hs:(z.map (·.1)).flatten.length<=60)(Y:(z.map (·.1)).flatten.flatten.length<=4000)(Z:∀r∈z,az r.1/\r.1.flatten.length<=4000) :
  aa defs (n+5) 41 [.val (.tup (z.map al)),.val (ofR R)]=some (.bl (lw (z.map (·.1)) R)):=by
 rw[ac (d:=fO) rfl rfl];have J:∀t∈(z.map (·.1)).flatten,ce t:=λt ht=>by
  obtain⟨G,J,ht⟩:=mem_flatten.mp ht;obtain⟨r,U,rfl⟩:=mem_map.mp J;exact(Z r U).1.1 t ht
 have e1:=tm (n+2) (z.map (·.1)) (by omega);have e2:=wj (n+1) (z.map (·.1)) (λG J=>by
  obtain⟨r,U,rfl⟩:=mem_map.mp J;exact⟨(Z r U).1.1,(Z r U).2⟩) (by rw[pd];exact hl)
 have gT:=jQ J hs;have e3:=cw (n+2) R g.1 hf;have e4:=cw (n+2) (sortT (z.map (·.1)).flatten) gT.1 (by rw[jR];exact Y);have e5:=iq n R (sortT (z.map (·.1)).flatten) g gT;rw[tq]at e4;have l1:=aJ (bb g.1);have l2:=aJ (bb J);have e6:=lu (n+3) (.val (ofL (ae R))) (.val (ofL (ae (z.map (·.1)).flatten))) (ae R) (ae (z.map (·.1)).flatten) rfl rfl (by omega) (by omega) (wh (gY _) l2);have c0:ev (aa defs (n+4)) (.comp .seq [.bor 0] [] (.cst (.bl true)) (ix 0 0)) [sv (.tup (z.map al)),sv (ofR R),none,none]=some (.lst ((z.map (·.1)).map ofR)):=by
  rw[J2];exact cq (vs:=[.tup (z.map al)]) (xs:=z) (g:=al) (by simp[evs,ev]) (by simp[bm]) (by omega) λr _=>by simp[ev,al,place,cj]
 refine ax (W:=[sv (.tup (z.map al)),sv (ofR R),none,none]) c0 ?_;simp only[cK,cz];generalize z.map (·.1)=D at *
 refine ax (v:=ofR (sortT D.flatten)) (ab (vs:=[.val (.lst (D.map ofR))]) (by simp[evA]) e1) ?_;simp only[cK,cz];have c1:ev (aa defs (n+4)) (.or (.cmp .gt (.blt .len [.bor 3]) (.blt .len [.bor 1])) (.not (.call 19 [.bor 2]))) [sv (.tup (z.map al)),sv (ofR R),sv (.lst (D.map ofR)),sv (ofR (sortT D.flatten))]=some (.bl (decide (R.length<D.flatten.length)||!decide (D.map ae).flatten.Nodup)):=by
  have q1:ev (aa defs (n+4)) (.cmp .gt (.blt .len [.bor 3]) (.blt .len [.bor 1])) [sv (.tup (z.map al)),sv (ofR R),sv (.lst (D.map ofR)),sv (ofR (sortT D.flatten))]=some (.bl (decide (R.length<D.flatten.length))):=by
   simp[ev,evs,ofR,sortT_len,-length_flatten]
  have q2:ev (aa defs (n+4)) (.not (.call 19 [.bor 2])) [sv (.tup (z.map al)),sv (ofR R),sv (.lst (D.map ofR)),sv (ofR (sortT D.flatten))]=some (.bl (!decide (D.map ae).flatten.Nodup)):=by
   rw[ev,ab (vs:=[.val (.lst (D.map ofR))]) (by simp[evA]) e2]
   rfl
  exact F6 q1 q2
 have c2:ev (aa defs (n+4)) (.and (.call 11 [(.call 5 [.bor 1]),(.call 5 [.bor 3])]) (.call 14 [.bor 1,.bor 3])) [sv (.tup (z.map al)),sv (ofR R),sv (.lst (D.map ofR)),sv (ofR (sortT D.flatten))]=some (.bl (sub (ae D.flatten) (ae R)&&below R (sortT D.flatten))):=by
  refine db (ab (vs:=[.val (ofL (ae R)),.val (ofL (ae D.flatten))]) ?_ e6) λ_=>ab (vs:=[.val (ofR R),.val (ofR (sortT D.flatten))]) (by simp[evA]) e5
  simp[evA,ev,e3,e4]
 show aS (exs (aa defs (n+4)) (.ite _ [.ret (.cst (.bl false))] []::[.ret _]) _)=_;rw[ar,aK c1];unfold lw;cases h1:decide (R.length<D.flatten.length)with
 |true=>simp[exs,ex,ev]
 |false =>
  cases h2:decide (D.map ae).flatten.Nodup with
  |false=>simp[exs,ex,ev]
  |true =>
   rw[if_neg (by decide),exs,aR,cH c2]
   rfl
theorem lR (n) (Y) (b):∀(J:List (LL×PV)),(∀r∈J,aa defs n 36 [.val r.2,.val (ofR r.1),.val (.str "weaver"),.val (.str "moth")]=some (.bl (b r)))->∀Z x2,
  (J.all b=true->∃y1 y2,aq (λx l=>bZ (cE [1,2] x l) λU=>exs (aa defs n) bM U) (J.map al) [Y,Z,x2]=.next [Y,y1,y2]) /\
  (J.all b=false->aq (λx l=>bZ (cE [1,2] x l) λU=>exs (aa defs n) bM U) (J.map al) [Y,Z,x2]=.ret (.bl false))
 | [],_,Z,x2=>⟨λ_=>⟨Z,x2,rfl⟩,λz=>by cases z⟩
 |r::J,hr,Z,x2=>by
  have e0:=hr r (.head _);have e3:(bZ (cE [1,2] (al r) [Y,Z,x2]) λU=>exs (aa defs n) bM U)=if b r=true then .next [Y,sv (ofR r.1),sv r.2]else .ret (.bl false):=by
   cases hb:b r<;>rw[hb]at e0<;>simp[bM,al,cE,m_,bZ,exs,ex,ev,evs,evB,evA,e0]
  rw[JW,aq,e3,all_cons];obtain⟨i1,i2⟩:=lR n Y b J (λq hq=>hr q (.tail _ hq)) (sv (ofR r.1)) (sv r.2);cases hb:b r<;>first|exact⟨λz=>(by cases z),λ_=>rfl⟩|exact⟨λz=>i1 z,λz=>i2 z⟩
def AE (n) (b) (z:List (LL×PV)) (U:∀r∈z,aa defs n 36 [.val r.2,.val (ofR r.1),.val (.str "weaver"),.val (.str "moth")]=some (.bl (b r))) :
  aa defs (n+1) 42 [.val (.tup (z.map al))]=some (.bl (z.all b)):=by
 rw[ac rfl rfl];obtain⟨Y,Z⟩:=lR n (sv (.tup _)) b z U none none;show aS (exs _ [.forT _ _ _ _,.ret _] [sv (.tup _),none,none])=_;rw[ar,mC (xs:=z.map al) (by simp[evs,ev])];rw[show br [ME.bor 0] [some (MV.val (.tup _)),none,none]=[sv (.tup _),none,none]from rfl];cases J:z.all b with
 |false =>
  rw[Z J]
  rfl
 |true =>
  obtain⟨y1,y2,e⟩:=Y J;rw[e];simp[aQ,exs,ex,ev]
def wm {J:List (LL×PV)}{R:LL} (g:az R) (hf:R.flatten.length<=4000) (hl:J.length<=16) (hs:(J.map (·.1)).flatten.length<=60) (U:(J.map (·.1)).flatten.flatten.length<=4000) (hg:∀r∈J,az r.1/\r.1.flatten.length<=4000) (t h) (hr:∀r∈J,aa defs (n+4) 36 [.val r.2,.val (ofR r.1),.val (.str "weaver"),.val (.str "moth")]=some (.bl (b r))) :
  aa defs (n+7) 36 [.val (.tup [.str "parts",.tup (J.map al)]),.val (ofR R),.val (.str (af t)),.val (.str (af h))]=some (.bl (h&&!t&&(lw (J.map (·.1)) R&&J.all b))):=by
 have Y:=CP n J R g hf hl hs U hg;have Z:=AE (n+4) b J hr;generalize J.all b=y at Z ⊢;generalize lw (J.map (·.1)) R=z at Y ⊢;generalize J.map al=V at Y Z ⊢;cases h with
 |true =>
  refine gM ?_;rw[ac (d:=c7) rfl rfl];cases t
  .exact ax rfl (au rfl (au rfl (au rfl (au rfl (au rfl (bz rfl (db (p:=z) (q:=y) (ab rfl Y) λ_=>ab rfl Z)))))))
  .rfl
 |false =>
  refine gW ?_;rw[ac (d:=bW) rfl rfl];cases t<;>rfl
def kJ(r:Option Int):Prop:=∀x,r=some x->0<=x/\x<=59
inductive WP:Nat->PV->Prop where
 | leaf {d:Nat}{v:PV} (h:sP v):WP d v
 | one {d:Nat}{v:PV} (k:Bool) (r:Option Int) (hr:kJ r) (h:WP d v):WP (d+1) (.tup [.str (if k=true then "bite" else "knot"),aZ r,v])
 | cases {d:Nat} (rows:List (Int×Option Int×PV)) (hl:rows.length<=10000) (hq:∀r∈rows,kJ r.2.1) (h:∀r∈rows,WP d r.2.2):WP (d+1) (.tup [.str "cases",.tup (rows.map aT)])
 | parts {d:Nat} (rows:List (LL×PV)) (hl:rows.length<=16) (hs:(rows.map (·.1)).flatten.length<=60) (hff:(rows.map (·.1)).flatten.flatten.length<=4000) (hg:∀r∈rows,az r.1/\r.1.flatten.length<=4000) (h:∀r∈rows,WP d r.2):WP (d+1) (.tup [.str "parts",.tup (rows.map al)])
 | fewer {d:Nat}{v:PV} (A:LL) (gA:az A) (fA:A.flatten.length<=4000) (h:WP d v):WP (d+1) (.tup [.str "fewer",ofR A,v])
 | either {d:Nat}{v w:PV} (A B:LL) (gA:az A) (gB:az B) (fA:A.flatten.length<=4000) (fB:B.flatten.length<=4000) (h:WP d v) (h':WP d w):WP (d+1) (.tup [.str "either",ofR A,v,ofR B,w])
def AF{α z:Type} [Inhabited z] {P:α->z->Prop}{l:List α} (h:∀r∈l,∃b,P r b):∃f:α->z,∀r∈l,P r (f r):=by
 obtain⟨f,J⟩:=LB (r:=λr b=>r∈l->P r b) λr=>by
  by_cases U:r∈l
  .simp_all
  .simp_all
 exact⟨f,J⟩
def up1 :∀{e},d+1<=e->∃x,e=x+1/\d<=x
 |x+1,h=>⟨x,rfl,Nat.le_of_succ_le_succ h⟩
def upN(k:Nat)(h:m+c<=N)(z:k<=c:=by decide):∃n,N=n+k:=⟨N-k,(Nat.sub_add_cancel (wh z (wh (LF c m) h))).symm⟩
def xc1{v:PV}{r:Rho}(h:cal (f+2000) [.mutD (.p ns)]=some (.tup [v,.dI (.p z)])):evX cal (.call f [true] [.bor 0]) (some (.mutD (.p ns))::r)=some (v,some (.mutD (.p z))::r):=by simp_all [evX,rX,evM,gH,j9,fz]
def xc3(Z:evA cal [e] (some (.mutD (.p ns))::r)=some [.val w])(J:evA cal [U] (some (.mutD (.p ns))::r)=some [.val Y])(h:cal (f+2000) [.mutD (.p ns),.val w,.val Y]=some (.tup [v,.dI (.p z)])):evX cal (.call f [true,false,false] [.bor 0,e,U]) (some (.mutD (.p ns))::r)=some (v,some (.mutD (.p z))::r):=by simp_all [evX,rX,evM,gH,j9,fz]
def ol(h:ev cal e W=some v):exs cal (.retM e::ms) W=.retM v W:=by
 rw[ar,ex,h];rfl
def gk(h:evX cal x W=some (v,l)):exs cal (.retXE x::ms) W=.retM v l:=by
 rw[ar,ex,h];rfl
def iG(h:ev cal c W=some (.bl false))(k:exs cal ms W=r):exs cal (.ite c a []::ms) W=r:=by simp_all [aK,exs]
def i5(h:ev cal c W=some (.bl true))(k:exs cal a W=.retM v l):exs cal (.ite c a b::ms) W=.retM v l:=by
 rw[ar,aK h,if_pos rfl,k];rfl
def oq(h:evX cal x W=some (v,l))(k:exs cal ms (put l i (.val v))=r):exs cal (.setX i x::ms) W=r:=by
 rw[ar,ex,h];exact k
def AG(cal:Cal):Prop:=∀ns,∃x z,0<=x/\cal (54+2000) [.mutD (.p ns)]=some (.tup [.int x,.dI (.p z)])
def F7(n):AG (aa defs (n+2)):=λns=>by
 rw[gN (d:=ii) (by decide) rfl rfl];by_cases z:ns=[]
 .subst z;refine⟨0,[],Int.le_refl _,?_⟩;have e:exs (aa defs (n+1)) ii.body [some (.mutD (.p []))]=.retM (.int 0) [some (.mutD (.p []))]:=iG (by simp[ev,um]) (ol (by simp[ev]));show sK _ (exs _ _ [some (.mutD (.p []))])=_;rw[e];simp[sK,eC]
 .obtain⟨l,x,rfl⟩:∃l x,ns=l++[x]:=⟨ns.dropLast,ns.getLast z,(dropLast_concat_getLast z).symm⟩;refine⟨gU x 2049848353892358983,l,ij _ _,?_⟩;have em:=qS n x 2049848353892358983;have e:exs (aa defs (n+1)) ii.body [some (.mutD (.p (l++[x])))]=.retM (.int (gU x 2049848353892358983)) [some (.mutD (.p l))]:=i5 (by simp[ev,um]) (gk (by simp[evX,BT,gH,fz,evA,ev,em]));show sK _ (exs _ _ [some (.mutD (.p (l++[x])))])=_;rw[e];simp[sK,eC]
def cI(h:ev cal e W=some v)(k:evXs cal xs W=some (vs,l)):evXs cal (.pure e::xs) W=some (v::vs,l):=by simp_all [evXs,evX]
def fV(h:evX cal x W=some (v,l)):evXs cal [x] W=some ([v],l):=by simp_all [evXs]
def jS(h:evXs cal xs W=some (vs,l))(z:vs.length<=10000:=by simp):evX cal (.tup xs) W=some (.tup vs,l):=by simp_all [evX]
def xc5(h1:evA cal [J] (some (.mutD (.p ns))::r)=some [.val U])(h2:evA cal [Y] (some (.mutD (.p ns))::r)=some [.val Z])(h3:evA cal [e3] (some (.mutD (.p ns))::r)=some [.val w3])(h4:evA cal [e4] (some (.mutD (.p ns))::r)=some [.val w4])(h:cal (f+2000) [.mutD (.p ns),.val U,.val Z,.val w3,.val w4]=some (.tup [v,.dI (.p z)])):evX cal (.call f [true,false,false,false,false] [.bor 0,J,Y,e3,e4]) (some (.mutD (.p ns))::r)=some (v,some (.mutD (.p z))::r):=by simp_all [evX,rX,evM,gH,j9,fz]
def xcO(hi:(W[i]?).join=some (.ownD (.p ns)))(h1:evA cal [J] W=some [.val U])(h2:evA cal [Y] W=some [.val Z])(h3:evA cal [e3] W=some [.val w3])(h4:evA cal [e4] W=some [.val w4])(h:cal (f+2000) [.mutD (.p ns),.val U,.val Z,.val w3,.val w4]=some (.tup [v,.dI (.p z)])):evX cal (.call f [true,false,false,false,false] [.bor i,J,Y,e3,e4]) W=some (v,W.set i (some (.ownD (.p z)))):=by simp_all [evX,rX,evM,gH,j9,fz]
def F9{ns:List Int}(h:ev cal e W=some (.lst (ns.map .int))):ex cal (.setP i e) W=.next (put W i (.ownD (.p ns.reverse))):=by
 rw[ex,h];simp[bt]
theorem lS(n)(a):∀(S P:LL) U x y,OkP P->(∀t∈S,ce t)->P.length+S.length<=60->U.length<=2*P.length ->
  ∃P' U' x' y',OkP P'/\P'.length<=P.length+S.length/\aq (λv l=>exs (aa defs (n+1)) fu (put l 3 (.val v))) (S.map ofS) [a,some (.own (P.map ofS)),sv (ofL U),x,y]=.next [a,some (.own (P'.map ofS)),sv (ofL U'),x',y']
 | [],P,U,x,y,Y,_,hl,_=>⟨P,U,x,y,Y,by simp,rfl⟩
 |s::S,P,U,x,y,Y,hS,hl,hU=>by
  simp only[length_cons]at hl;have gs:=hS s (.head _);have ea:ev (aa defs (n+1)) (.blt .any [(.comp .seq [.bor 1] [3] (.cst (.bl true)) (.call 49 [.bor 0,.bor 1]))]) [a,some (.own (P.map ofS)),sv (ofL U),sv (ofS s),y]=some (.bl (P.any λt=>sub t s)):=by
   rw[aH (v:=.lst ((P.map λt=>sub t s).map .bl)),qO,dQ]
   .simp
   .refine(cq (g:=ofS) (h:=λt=>.bl (sub t s)) (vs:=[.lst (P.map ofS)]) (by simp[evs,ev]) rfl (by omega) λt ht=>?_).trans (by rw[J2];rfl);exact ab (vs:=[.val (ofS t),.val (ofS s)]) (by simp[evA,cj]) (Ap n t s)
  obtain⟨F,hF⟩:∃F,F=s.filter λh=>!decide (h∈U):=⟨_,rfl⟩
  have hm:∀h∈F,0<=h/\h<=59:=λh hh=>gs.2 h (by rw[hF]at hh;exact(KJ.mp hh).1)
  have J:ev (aa defs (n+1)) (.comp .seq [.bor 3] [2] (.cmp .notIn (.bor 0) (.bor 1)) (.var 0)) [a,some (.own (P.map ofS)),sv (ofL U),sv (ofS s),y]=some (ofL F):=by
   rw[ev,show evs (aa defs (n+1)) [.bor 3] [a,some (.own (P.map ofS)),sv (ofL U),sv (ofS s),y]=some [ofS s]from by simp[evs,ev],bind_some,v8,v6,bind_some,if_pos (by rw[pd];have:=aJ gs;omega),cn (p:=λh=>!decide (h∈U)) (h:=PV.int),hF]
   .rfl
   .intro h _;simp[ev,cj,aU]
   .intro h _ _;simp[ev,cj]
  rw[JW,aq];have st:∃Z U1 y1,OkP Z/\Z.length<=P.length+1/\U1.length<=2*Z.length/\exs (aa defs (n+1)) fu (put [a,some (.own (P.map ofS)),sv (ofL U),x,y] 3 (.val (ofS s)))=.next [a,some (.own (Z.map ofS)),sv (ofL U1),sv (ofS s),y1]:=by
   have c:=pX ea;cases hq:P.any λt=>sub t s with
   |true =>
    rw[hq]at c;exact⟨P,U,y,Y,by omega,hU,b6 ((aK c).trans rfl)⟩
   |false =>
    rw[hq]at c
    match F,hm,J with
    | [],_,J=>exact⟨P,U,sv (ofL []),Y,by omega,hU,b6 ((aK c).trans (bn J rfl))⟩
    | [z],_,J=>exact⟨P,U,sv (ofL [z]),Y,by omega,hU,b6 ((aK c).trans (bn J rfl))⟩
    |z::w::r,hm,J =>
     refine⟨P++[[z,w]],U++[z,w],sv (ofL (z::w::r)),λt ht=>?_,by simp,by simp;omega,?_⟩
     .rcases Lu.mp ht with h|h
      .exact Y t h
      .exact⟨z,w,by simpa using h,hm z (.head _),hm w (.tail _ (.head _))⟩
     .have hn:(((z::w::r).map PV.int).length:Int)=(r.length:Int)+1+1:=by simp
      have aO:∀k v,0<=k->k<=1->((z::w::r).map PV.int)[k.toNat]?=some v->fF (ofL (z::w::r)) (.int k)=some v:=λk v h0 h1 e=>by
       rw[Aj,fm h0 (by omega)];exact e
      have cu:cut ((z::w::r).map .int) none (some 2)=[.int z,.int w]:=by
       have h4:min 2 (r.length+1+1)=2:=by omega
       simp[cut,gC,h4]
      rw[Ka,show ofL (U++[z,w])=.lst (U.map .int++[.int z,.int w])from Kf PV.lst Ka];exact b6 ((aK c).trans (bn J (b6 ((aK (p:=true) ((bP (x:=.int ((((z::w::r).map PV.int).length:Nat):Int)) (y:=.int 1) rfl rfl).trans (by rw[FS,hn,J1 (by omega)];rfl))).trans (dL (jw rfl (bN (aA ((dg rfl rfl).trans (aO 0 (.int z) (by decide) (by decide) rfl)) (aA ((dg rfl rfl).trans (aO 1 (.int w) (by decide) (by decide) rfl)) rfl))) (by rw[pd];omega)) (b6 (ik ((cv rfl (show _=some (PV.lst (cut ((z::w::r).map .int) none (some 2)))from rfl)).trans (by rw[cu,mz,if_pos (by rw[pd];simp;omega)])))))))))
  obtain⟨Z,U1,y1,q1,q2,q3,e⟩:=st;rw[e];obtain⟨P',U',x',y',r1,r2,r3⟩:=lS n a S Z U1 (sv (ofS s)) y1 q1 (λt ht=>hS t (.tail _ ht)) (by omega) q3;exact⟨P',U',x',y',r1,by rw[length_cons];omega,r3⟩
def AH(n)(R)(g:az R):∃P,OkP P/\P.length<=60/\aa defs (n+2) 50 [.val (ofR R)]=some (ofR P):=by
 obtain⟨P,U,x,y,h1,h2,e⟩:=lS n (sv (ofR R)) R [] [] none none (λ_ h=>by cases h) g.1 (by have:=g.2.2;simpa using this) (by simp);refine⟨P,h1,by have:=g.2.2;simp at h2;omega,?_⟩;rw[ac rfl rfl];simp[map_nil]at e;rw[show ofL []=PV.lst []from rfl]at e;simp[kB,exs,ex,ev,evs,evA,br,aQ,e]
def CQ(cal)(R)(g:az R)(h)(a b x):ev cal (.blt .sum [(.comp .seq [.bor 0] [3] (.cmp .isIn (.bor 1) (.bor 0)) (.bin .shr (.bin .pow (ci 2) (ci 60)) (.blt .len [.bor 0])))]) [sv (ofR R),a,b,sv (.int h),x]=some (.int (a_ R h)):=by
 rw[F2 ?_,sY];rw[ev,show evs cal [.bor 0] [sv _,a,b,sv _,x]=some [ofR R]from by simp[evs,ev],bind_some,v8,v6,bind_some,if_pos (by rw[pd];have:=g.2.2;omega),cn (h:=λs=>.int _),J2]
 .rfl
 .intro s _;simp[ev,cj,aU]
 .intro s hs _;exact IF _ s (aJ (g.1 s hs)) _
noncomputable def iC(f:Int->Int)(p:Option Int×Int)(h:Int):Option Int×Int:=if p.2<f h then(some h,f h)else p
theorem pZ(cal)(R)(g:az R):∀(hs:List Int) p x y,∃z J,aq (λv l=>exs cal fP (put l 3 (.val v))) (hs.map .int) [sv (ofR R),sv (aZ p.1),sv (.int p.2),x,y]=.next [sv (ofR R),sv (aZ (hs.foldl (iC (a_ R)) p).1),sv (.int (hs.foldl (iC (a_ R)) p).2),z,J]
 | [],p,x,y=>⟨x,y,rfl⟩
 |h::hs,p,x,y=>by
  have e:=CQ cal R g h (sv (aZ p.1)) (sv (.int p.2)) y;rw[JW,aq];have st:exs cal fP (put [sv (ofR R),sv (aZ p.1),sv (.int p.2),x,y] 3 (.val (.int h)))=.next [sv (ofR R),sv (aZ (iC (a_ R) p h).1),sv (.int (iC (a_ R) p h).2),sv (.int h),sv (.int (a_ R h))]:=by
   refine bn e ?_;simp[cK,cz,iC];by_cases q:p.2<a_ R h
   .simp[exs,ex,ev,evB,q,aZ]
   .simp[exs,ex,ev,evB,q]
  rw[st];exact pZ cal R g hs _ _ _
noncomputable def g8(R:LL):Option Int:=((ae R).foldl (iC (a_ R)) (none,0)).1
def q8(n)(R)(g:az R):aa defs (n+2) 51 [.val (ofR R)]=some (aZ (g8 R)):=by
 obtain⟨x,y,e⟩:=pZ (aa defs (n+1)) R g (ae R) (none,0) none none;rw[ac (d:=pT) rfl rfl];have z:∀W,ev (aa defs (n+1)) (.call 48 [.bor 0]) (sv (ofR R)::W)=some (ofL (ae R)):=λW=>ab (vs:=[.val (ofR R)]) (by simp[evA]) (ip n R g.1)
 show aS (exs (aa defs (n+1)) [.set 1 _,.set 2 _,.for1 3 .seq [(.call 48 [.bor 0])] fP,.ret _] [sv (ofR R),none,none,none,none])=_;refine ax (de _ _ _) (ax (de _ _ _) (cx (l:=[sv (ofR R),sv (aZ (g8 R)),sv (.int ((ae R).foldl (iC (a_ R)) (none,0)).2),x,y]) ?_ (cH (v:=aZ _) ?_)))
 .simp[cz];rw[dJ (by rw[evs,z];rfl)];show(MM.R.back _ _ (aq _ _ [sv _,sv (aZ none),sv _,none,none]))=_;rw[e]
  rfl
 .cases g8 R<;>simp[ev]
theorem p0 :∀(hs:List Int) p,(hs.foldl (iC f) p).1=some x->x∈hs\/p.1=some x
 | [],_,e=>.inr e
 |h::hs,p,e=>by
  rcases p0 hs (iC f p h) e with z|z
  .exact .inl (.tail _ z)
  .unfold iC at z;split at z
   .simp_all
   .exact .inr z
def AI{R:LL}(e:g8 R=some x):x∈ae R:=(p0 _ _ e).resolve_right λz=>by cases z
def AJ(n)(R)(g:az R)(p):∃r,kJ r/\aa defs (n+3) 56 [.val (ofR R),.val (.int p)]=some (aZ r):=by
 have e:=q8 n R g;rw[ac rfl rfl];by_cases z:p % 8=0
 .exact⟨none,(λx e=>by cases e),by simp[fR,exs,ex,ev,evB,z,aZ]⟩
 .by_cases h1:p % 8=1
  .exact⟨some (p / 8 % 60),(λx e=>by cases e;have:=Lb (p / 8) (b:=60) (by decide);have:=K7 (p / 8) (b:=60) (by decide);omega),by simp[fR,exs,ex,ev,evB,h1,aZ]⟩
  .exact⟨g8 R,(λx e=>(bb g.1).2 x (AI e)),by simp[fR,exs,ex,ev,evB,evA,z,h1,e]⟩
def lx (h:k="bare" \/ k="whole" \/ k="weight"):sP (.tup [.str k]):=by
 rcases h with rfl|rfl|rfl
 .exact .inl rfl
 .exact .inr (.inl rfl)
 .exact .inr (.inr (.inl rfl))
def AK(n)(R)(g:az R)(t h)(p):∃v,sP v/\aa defs (n+3) 58 [.val (ofR R),.val (.str (af t)),.val (.str (af h)),.val (.int p)]=some v:=by
 obtain⟨P,h1,h2,e⟩:=AH n R g;rw[ac (d:=lN) rfl rfl];cases h with
 |false =>
  have k:∀b,isIn (ofS []) (R.map ofS)=some b->∀W,ev (aa defs (n+2)) (.idx (.lst [(.tup [(cs "weight")]),(.tup [(cs "whole")])]) (.blt .intOf [(.cmp .isIn (.tup []) (.bor 0))])) (sv (ofR R)::W)=some (.tup [.str ((if b=true then "whole" else "weight":String):PySem.Str)]):=λb z W=>(dg rfl (aH (AA z rfl rfl))).trans (by cases b<;>rfl)
  exact⟨_,lx (k:=if decide ([]∈R)=true then "whole" else "weight") (by cases decide ([]∈R)<;>simp),bz rfl (k _ (nJ [] R) _)⟩
 |true =>
  by_cases J:R=[]
  .subst J;exact⟨_,lx (.inl rfl),rfl⟩
  .have U:((R.length:Int)==0)=false:=by
    simp_all
   have c:∀W,ev (aa defs (n+2)) (.cmp .eq (.blt .len [.bor 0]) (ci 0)) (sv (ofR R)::W)=some (.bl false):=λW=>qX (xs:=R.map ofS) (by rw[pd];exact U) rfl
   have d:∀W,ev (aa defs (n+2)) (.and (.cmp .eq (.bor 1) (cs "weaver")) (.cmp .eq (.bin .mod (.bor 3) (ci 2)) (ci 0))) (sv (ofR R)::sv (.str (af t))::sv (.str (af true))::sv (.int p)::W)=some (.bl (!t&&(p % 2==0))):=λW=>db (by cases t<;>rfl) λ_=>gX rfl (by decide)
   cases q:(!t&&(p % 2==0))with
   |true =>
    rw[q]at d;exact⟨.tup [.str "pairs",ofR P],.inr (.inr (.inr ⟨P,h1,h2,rfl⟩)),au rfl (au (c _) (bz (d _) (bN (aA rfl (aA (ab rfl e) rfl)))))⟩
   |false =>
    rw[q]at d;exact⟨_,lx (.inr (.inr rfl)),au rfl (au (c _) (au (d _) rfl))⟩
theorem ou(cal)(a0 a2 a3 a6)(base off many block)(hb:0<=base)(a9:base<=48)(ho:0<=off)(hm:0<many)(hs:off+many<=12)(hk:fF (.lst [.int 0,.int 4,.int 8,.int 0]) (.int block)=some (.int off)):∀xs left (z:List Int) k U,z.Nodup->(∀x∈z,0<=x/\x<=59)->z.length+xs.length<=100 ->
  ∃(Z:Int) (J:List Int) (k' ao:Option MV),aq (λx l=>exs cal bD (put l 9 (.val x))) xs [a0,sv (.int base),a2,a3,sv (.int left),sv (.int block),a6,sv (.int many),some (.own (z.map .int)),k,U]=.next [a0,sv (.int base),a2,a3,sv (.int Z),sv (.int block),a6,sv (.int many),some (.own (J.map .int)),k',ao]/\J.Nodup/\(∀x∈J,0<=x/\x<=59)/\J.length<=z.length+xs.length
 | [],left,z,k,U,h1,h2,_=>⟨left,z,k,U,rfl,h1,h2,pb _⟩
 |x::xs,left,z,k,U,h1,h2,h3=>by
  rw[length_cons]at h3;have m0:0<=left % many:=Lb _ (by omega);have m1:left % many<many:=K7 _ hm;have b1:z.length<10000:=by omega
  have Y:many<1073741824:=by omega
  rw[aq];have e:exs cal bD (put [a0,sv (.int base),a2,a3,sv (.int left),sv (.int block),a6,sv (.int many),some (.own (z.map .int)),k,U] 9 (.val x))=.next [a0,sv (.int base),a2,a3,sv (.int (left / many)),sv (.int block),a6,sv (.int many),some (.own ((if base+off+left % many∈z then z else z++[base+off+left % many]).map .int)),sv x,sv (.int (base+off+left % many))]:=by
   by_cases q:base+off+left % many∈z
   .simp[bD,exs,ex,ev,evs,evB,hk,hm,Y,aU,q]
   .simp[bD,exs,ex,ev,evs,evB,hk,hm,Y,aU,q,b1]
  rw[e];obtain⟨l',J,k',o',f1,f2,f3,f4⟩:=ou cal a0 a2 a3 a6 base off many block hb a9 ho hm hs hk xs (left / many) (if base+off+left % many∈z then z else z++[base+off+left % many]) (sv x) (sv (.int (base+off+left % many))) (by
   split
   .exact h1
   .rename_i q;exact MH.mpr ⟨h1,by simp,λa ha b hb e=>by rw[Ke.mp hb]at e;exact q (e▸ha)⟩) (by
   split
   .exact h2
   .intro y hy;rcases Lu.mp hy with hy|hy
    .exact h2 y hy
    .rw[Ke.mp hy];omega) (by
   split
   .omega
   .rw[tr,length_singleton];omega)
  refine⟨l',J,k',o',f1,f2,f3,?_⟩
  grind
def jz(h:(evs cal src W).bind (bm k)=some xs)(e:aq (λx l=>exs cal body (put l i (.val x))) xs (br src W)=.next l)(q:exs cal ms (aQ src W l)=r):exs cal (.for1 i k src body::ms) W=r:=by simp_all [ar,dJ]
def CS(n)(c base blocks least)(h1:0<=base)(h2:base<=48)(h3:3<=blocks)(h4:blocks<=4)(h5:0<=least)(h6:least<=2):∃s,(ce s/\s.length<=4)/\aa defs (n+2) 53 [.val (.int c),.val (.int base),.val (.int blocks),.val (.int least)]=some (ofS s):=by
 rw[ac (d:=fQ) rfl rfl];have em:=qS n c 1181783497276652981;generalize gU c 1181783497276652981=l at em;have Z:0<blocks:=by omega
 have ao:blocks<1073741824:=by omega
 obtain⟨z,hs⟩:∃x,x=l % blocks:=⟨_,rfl⟩;obtain⟨size,hz⟩:∃x,x=least+l / blocks % 3:=⟨_,rfl⟩;have q0:0<=z:=by rw[hs];exact Lb _ (by omega)
 have q1:z<4:=by have:=K7 l Z;omega
 have s0:0<=size:=by omega
 have s1:size<=4:=by omega
 obtain⟨J,Y,a1,a2,a3,a4,a5⟩:∃J Y,0<J/\0<=Y/\Y+J<=12/\fF (.lst [.int 4,.int 4,.int 4,.int 12]) (.int z)=some (.int J)/\fF (.lst [.int 0,.int 4,.int 8,.int 0]) (.int z)=some (.int Y):=by
  obtain rfl|rfl|rfl|rfl:z=0\/z=1\/z=2\/z=3:=by omega
  .exact⟨4,0,by decide,by decide,by decide,rfl,rfl⟩
  .exact⟨4,4,by decide,by decide,by decide,rfl,rfl⟩
  .exact⟨4,8,by decide,by decide,by decide,rfl,rfl⟩
  .exact⟨12,0,by decide,by decide,by decide,rfl,rfl⟩
 obtain⟨l',U,k',o',e,g1,g2,g3⟩:=ou (aa defs (n+1)) (sv (.int c)) (sv (.int blocks)) (sv (.int least)) (sv (.int size)) base Y J z h1 h2 a2 a1 a3 a5 ((range size.toNat).map λ(k:Nat)=>PV.int (k:Int)) (l / blocks / 3) [] none none Lk (λ_ h=>by cases h) (by simp;omega);have g3:U.length<=4:=by rw[pd,Nh,length_nil]at g3;omega
 refine⟨sortI U,⟨⟨nO g1,λh hh=>g2 h (jd.mp hh)⟩,by rw[sortI_len];exact g3⟩,?_⟩;show aS (exs (aa defs (n+1)) (_::_::_::_::_::_::_::_::[_]) [sv (.int c),sv (.int base),sv (.int blocks),sv (.int least),none,none,none,none,none,none,none])=_;refine ax (v:=.int l) (ab (vs:=[.val (.int c),.val (.int 1181783497276652981)]) (by simp[evA,ev]) em) (ax (v:=.int z) (by simp[ev,Z,hs]) (ax (v:=.int (l / blocks)) (by simp[ev,Z,ao]) (ax (v:=.int size) (by simp[ev,hz]) (ax (v:=.int (l / blocks / 3)) (by simp[ev]) (ax (v:=.int J) (by rw[dg (y:=.int z) rfl rfl];exact a4) ?_)))));simp only[cK,cz];refine cx (cT (xs:=[]) (by simp[ev,evs])) ?_;simp only[cK,cz];refine Kf aS (jz (r:=.ret (ofS (sortI U))) (xs:=(range size.toNat).map λ(k:Nat)=>PV.int (k:Int)) ?_ e ?_)
 .rw[show evs (aa defs (n+1)) [.bor 6] [sv (.int c),sv (.int base),sv (.int blocks),sv (.int least),sv (.int (l / blocks / 3)),sv (.int z),sv (.int size),sv (.int J),some (.own []),none,none]=some [.int size]from by simp[evs,ev],bind_some,nM s0 (by omega)]
 .rw[ar,dc (v:=ofS (sortI U))]
  .rfl
  .refine(aH (v:=ofL (sortI U)) ?_).trans rfl;rw[aH (v:=ofL U) rfl,dS,fM,bind_some,pO (by omega)]
noncomputable abbrev pG(G:LL):PV:=.lst (G.map ofS)
def CT(cal)(z a1 J U)(s)(G)(hG:G.length<=60)(Y:∀t∈G,t.length<=60):ev cal (.blt .any [(.comp .seq [.bor 5] [2] (.cst (.bl true)) (.blt .any [(.comp .seq [.bor 0] [1] (.cst (.bl true)) (.cmp .isIn (.bor 0) (.bor 1)))]))]) [z,a1,sv (ofS s),J,U,sv (pG G)]=some (.bl ((G.map λt=>(t.map λx=>decide (x∈s)).any id).any id)):=by
 have e:∀(xs:List Bool),aD .any [.lst (xs.map .bl)]=some (.bl _):=λxs=>by rw[qO,dQ];rfl
 rw[aH (v:=.lst _),e];rw[J2];refine cq rfl rfl (by omega) λt Z=>?_
 rw[aH (v:=.lst _),e]
 .rfl
 rw[J2];refine cq rfl rfl (by have:=Y t Z;omega) λx _=>?_
 simp[ev,cj,aU]
theorem i6(cal)(Z a1)(s):∀(D:List (LL)) (z:LL) (J:List (LL)) (y:Option MV),(∀t∈D.flatten,t.length<=60)->z.length+D.flatten.length<=60->J.length+D.length<=60 ->
  ∃(U:LL) (Y:List (LL)) (y':Option MV),aq (λx l=>exs cal d6 (put l 5 (.val x))) (D.map pG) [Z,a1,sv (ofS s),sv (pG z),some (.own (J.map pG)),y]=.next [Z,a1,sv (ofS s),sv (pG U),some (.own (Y.map pG)),y']/\(U++Y.flatten).Perm (z++J.flatten++D.flatten)/\Y.length<=J.length+D.length
 | [],z,J,y,_,_,_=>⟨z,J,y,rfl,by simp,pb _⟩
 |G::D,z,J,y,h1,h2,h3=>by
  rw[flatten_cons]at h1 h2;rw[tr]at h2;rw[length_cons]at h3;rw[JW,aq];have et:=CT cal Z a1 (sv (pG z)) (some (.own (J.map pG))) s G (by omega) λt ht=>h1 t (Mv _ ht)
  generalize ((G.map λt=>(t.map λx=>decide (x∈s)).any id).any id)=b at et;have aO:∀t∈D.flatten,t.length<=60:=λt ht=>h1 t (Kw _ ht)
  cases b with
  |true =>
   have e:exs cal d6 (put [Z,a1,sv (ofS s),sv (pG z),some (.own (J.map pG)),y] 5 (.val (pG G)))=.next [Z,a1,sv (ofS s),sv (pG (z++G)),some (.own (J.map pG)),sv (pG G)]:=by
    refine b6 ?_;simp only[cK,cz];rw[aK et,if_pos rfl];refine b6 (ik ?_);rw[cv rfl rfl,mz,if_pos (by rw[pd,pd];omega),<- Ka]
   rw[e];obtain⟨n',f',y',q1,q2,q3⟩:=i6 cal Z a1 s D (z++G) J (sv (pG G)) aO (by rw[tr];omega) (by omega);refine⟨n',f',y',q1,q2.trans ?_,by rw[length_cons];omega⟩;rw[flatten_cons,<- Kn];refine Perm.append_right _ ?_;rw[Kn,Kn];exact Perm.append_left _ L3
  |false =>
   have e:exs cal d6 (put [Z,a1,sv (ofS s),sv (pG z),some (.own (J.map pG)),y] 5 (.val (pG G)))=.next [Z,a1,sv (ofS s),sv (pG z),some (.own ((J++[G]).map pG)),sv (pG G)]:=by
    refine b6 ?_;simp only[cK,cz];rw[aK et,if_neg (by decide)];have a8:J.length<10000:=by omega
    simp[exs,ex,ev,a8]
   rw[e];obtain⟨n',f',y',q1,q2,q3⟩:=i6 cal Z a1 s D z (J++[G]) (sv (pG G)) aO (by omega) (by rw[tr,length_singleton];omega);rw[tr,length_singleton]at q3;refine⟨n',f',y',q1,q2.trans ?_,by rw[length_cons];omega⟩;simp
theorem lT(cal)(U):∀R A (P:List (LL)) Z x3 x4 Y,P.flatten.Perm A->P.length<=A.length->A.length+R.length<=50->(∀t∈A++R,t.length<=60) ->
  ∃(P':List (LL)) (y2 y3 y4 y5:Option MV),aq (λx l=>exs cal d7 (put l 2 (.val x))) (R.map ofS) [U,sv (.lst (P.map pG)),Z,x3,x4,Y]=.next [U,sv (.lst (P'.map pG)),y2,y3,y4,y5]/\P'.flatten.Perm (A++R)/\P'.length<=(A++R).length
 | [],A,P,Z,x3,x4,Y,p,hl,_,_=>⟨P,Z,x3,x4,Y,rfl,by simpa using p,by simpa using hl⟩
 |s::R,A,P,Z,x3,x4,Y,p,hl,h1,h2=>by
  rw[length_cons]at h1;rw[JW,aq];refine aE λZq kq=>?_
  have hP:=p.length_eq;obtain⟨z,J,y,e1,e2,e3⟩:=i6 cal U (sv (.lst (P.map pG))) s P [] [] Y (λt ht=>h2 t (Mv _ (p.mem_iff.mp ht))) (by rw[length_nil,hP];omega) (by rw[length_nil];omega);simp only[nil_append,flatten_nil]at e2;have hn:=e2.length_eq;rw[tr]at hn;rw[length_nil,Ly]at e3;have e:exs cal d7 (put [U,sv (.lst (P.map pG)),Z,x3,x4,Y] 2 (.val (ofS s)))=.next [U,sv (.lst ((J++[z++[s]]).map pG)),sv (ofS s),sv (pG z),some (.own (J.map pG)),y]:=by
   refine bn (v:=pG []) (by simp[ev,evs]) (dL (cT (xs:=[]) (by simp[ev,evs])) (jz (xs:=P.map pG) (by simp[evs,ev]) e1 (b6 (ik ?_))));have q:ev cal (.bin .add (.bor 3) (.lst [.var 2])) [U,sv (.lst (P.map pG)),sv (ofS s),sv (pG z),some (.own (J.map pG)),y]=some (pG (z++[s])):=by
    rw[cv (x:=pG z) (y:=.lst [ofS s]) rfl (by simp[ev,evs]),mz,if_pos (by simp;omega)];simp
   show ev cal _ [U,sv (.lst (P.map pG)),sv (ofS s),sv (pG z),some (.own (J.map pG)),y]=_;rw[cv (x:=.lst (J.map pG)) (y:=.lst [pG (z++[s])]) rfl (by rw[ev,evs,q];simp[evs]),mz,if_pos (by simp;omega)];simp
  refine kq ?_;rw[e];obtain⟨P',y2,y3,y4,y5,f1,f2,f3⟩:=lT cal U R (A++[s]) (J++[z++[s]]) (sv (ofS s)) (sv (pG z)) (some (.own (J.map pG))) y (by
   rw[MU,flatten_singleton,<- Kn];exact Perm.append_right _ ((L3.trans e2).trans p)) (by simp;omega) (by simp;omega) (by simpa using h2)
  exact⟨P',y2,y3,y4,y5,f1,by simpa using f2,by simpa using f3⟩
def SmR(R:LL):Prop:=az R/\R.length<=8/\R.flatten.length<=60
def oA{R:LL}(g:SmR R)(r):SmR (bhd h R r):=by
 refine⟨cA g.1 r,wh ?_ g.2.1,wh (i4 h R r) g.2.2⟩;cases r<;>first|exact pb _|(cases h<;>first|exact LA _ _|(show(sortT _).length<=_;rw[sortT_len,pd];exact pb _))
def CU(n)(R)(g:SmR R):∃D:List (LL),aa defs (n+1) 57 [.val (ofR R)]=some (.lst (D.map ofR))/\D.length<=8/\D.flatten.length<=8/\D.flatten.flatten.length<=60/\∀Q∈D,SmR Q:=by
 obtain⟨P,y2,y3,y4,y5,Z,U,e3⟩:=lT (aa defs n) (sv (ofR R)) R [] [] none none none none (by simp) (pb _) (by have:=g.2.1;simp;omega) (λt Y=>aJ (g.1.1 t (by simpa using Y)));rw[nil_append]at U e3;have J:(P.map sortT).flatten.Perm R:=by
  refine Perm.trans ?_ U;clear Z U e3
  induction P with
  |nil=>exact .nil
  |cons G P ih=>simp only[JW,flatten_cons];exact(sortT_perm G).append ih
 have hf:=J.flatten.length_eq;have hm:∀Q∈P.map sortT,Q.Sublist (P.map sortT).flatten:=λQ z=>sublist_flatten_of_mem z
 have hb:∀Q∈P.map sortT,SmR Q:=λQ z=>by
  have l1:=(hm Q z).length_le;have l2:=(sublist_flatten_of_mem (MO (f:=flatten) z)).length_le;rw[<- flatten_flatten]at l2;rw[J.length_eq]at l1;rw[hf]at l2;have:=g.2.1;have:=g.2.2;refine⟨⟨λt Y=>g.1.1 t (J.mem_iff.mp ((hm Q z).subset Y)),?_,by omega⟩,by omega,by omega⟩;obtain⟨G,_,rfl⟩:=mem_map.mp z;exact sortT_rises G
 refine⟨P.map sortT,?_,by rw[pd];have:=g.2.1;omega,by rw[J.length_eq];exact g.2.1,by rw[hf];exact g.2.2,hb⟩;rw[ac (d:=lM) rfl rfl];show aS (exs (aa defs n) [.set 1 _,.for1 2 .seq [.bor 0] d7,.ret _] [sv (ofR R),none,none,none,none,none])=_;refine ax (v:=.lst []) (by simp[ev,evs]) (Kf aS (jz (r:=.ret (.lst ((P.map sortT).map ofR))) (xs:=R.map ofS) (by simp[evs,ev]) Z ?_));rw[ar,dc (v:=.lst ((P.map sortT).map ofR))]
 .rfl
 rw[J2];refine cq (vs:=[.lst (P.map pG)]) (xs:=P) (g:=pG) rfl rfl (by have:=g.2.1;omega) λG hG=>?_
 have hl:G.length<64:=by
  have:=(hb (sortT G) (MO hG)).2.1;rw[sortT_len]at this;omega
 refine(aH (v:=.lst ((sortT G).map ofS)) ?_).trans rfl;rw[aH (v:=pG G) rfl,dS,fM,bind_some,dR hl]
def IG:∀(a b:List Int),a.Nodup->a ⊆ b->a.length<=b.length:=λa=>by
 induction a with
 |nil=>intro b _ _;exact Kd _
 |cons x a ih =>
  intro b U hs;obtain⟨Y,Z⟩:=Ky.mp U;have ao:=hs (.head _);have:=ih (b.erase x) Z λy J=>by
   have z:y≠x:=λe=>Y (e▸J)
   exact(mem_erase_of_ne z).mpr (hs (.tail _ J))
  grind
def xF{l:List Int}(h:l.Pairwise (· < ·)):l.Nodup:=h.imp λh e=>by omega
def wn{R:LL} :(∃s∈bhd t R (some h),k∈s)->(∃s∈R,k∈s)/\k≠h:=by
 rintro ⟨s,hs,z⟩;cases t with
 |true =>
  obtain⟨h1,h2⟩:=KJ.mp (show s∈R.filter _ from hs);exact⟨⟨s,h1,z⟩,λe=>by subst e;simp[z]at h2⟩
 |false =>
  obtain⟨t,J,rfl⟩:=mem_map.mp (je.mp (show s∈sortT _ from hs));obtain⟨h1,h2⟩:=KJ.mp z;exact⟨⟨t,J,h1⟩,by simpa using h2⟩
def u6{R:LL}(U:h∈ae R):(ae (bhd t R (some h))).length+1<=(ae R).length:=by
 have:=IG (h::ae (bhd t R _)) _ (Ky.mpr ⟨λz=>(wn (cM.mp z)).2 rfl,xF (im _)⟩) λy J=>by
  rcases JY.mp J with rfl|J
  .exact U
  .exact cM.mpr (wn (cM.mp J)).1
 simpa using this
def tu(h:0<=a/\a<=59):kJ (some a):=λx e=>by cases e;exact h
theorem WP.le(h:WP d v):∀{e},d<=e->WP e v:=by
 induction h with
 |leaf h=>exact λ_=>.leaf h
 |one k r Y _ ih=>intro e z;obtain⟨e,rfl,hx⟩:=up1 z;exact .one k r Y (ih hx)
 |cases rows Z hq _ ih=>intro e z;obtain⟨e,rfl,hx⟩:=up1 z;exact .cases rows Z hq λr J=>ih r J hx
 |parts rows a b c d _ ih=>intro e z;obtain⟨e,rfl,hx⟩:=up1 z;exact .parts rows a b c d λr J=>ih r J hx
 |fewer A a b _ ih=>intro e z;obtain⟨e,rfl,hx⟩:=up1 z;exact .fewer A a b (ih hx)
 |either A B a b c d _ _ ih U=>intro e z;obtain⟨e,rfl,hx⟩:=up1 z;exact .either A B a b c d (ih hx) (U hx)
def q_(k:Nat)(R:LL)(t w:Bool)(v:PV):Prop:=
 (w=t/\∃h s,(0<=h/\h<=59)/\v=.tup [.str (if t=true then "bite" else "knot"),.int h,s]/\WP k s)\/(w=false/\[]∈R/\v=.tup [.str "whole"])\/(w=true/\R=[]/\v=.tup [.str "bare"])\/(w=(!t)/\WP (k+1) v)
theorem q_.wp{R:LL}(h:q_ k R t w v):WP (k+1) v:=by
 rcases h with⟨_,a,s,z,rfl,h⟩|⟨_,_,rfl⟩|⟨_,_,rfl⟩|⟨_,h⟩
 .exact .one t _ (tu z) h
 .exact .leaf (lx (.inr (.inl rfl)))
 .exact .leaf (lx (.inl rfl))
 .exact h
def AL(cal:Cal)(k:Nat):Prop:=∀R t,SmR R->(ae R).length<=k->∃w v,q_ k R t w v/\cal 52 [.val (ofR R),.val (.str (af t))]=some (.tup [.str (af w),v])
theorem oB(cal)(hT:AL cal k)(R)(g:SmR R)(hw:¬ []∈R)(hb:R≠[])(hk:(ae R).length<=k+1)(t)(eK:∀h,cal 46 [.val (ofR R),.val (.int h)]=some (ofR (oX h R)))(eB:∀h,cal 47 [.val (ofR R),.val (.int h)]=some (ofR (i3 h R))):∀(hs:List Int) (J:List (Int×Option Int×PV)) x y,(∀h∈hs,h∈ae R)->J.length+hs.length<=100->(∀r∈J,WP k r.2.2/\kJ r.2.1) ->
  (∃h s,(0<=h/\h<=59)/\WP (k+1) s/\aq (λv l=>exs cal cY (put l 3 (.val v))) (hs.map .int) [sv (ofR R),sv (.str (af t)),some (.own (J.map aT)),x,y]=.ret (.tup [.str (af t),.tup [.str (if t=true then "bite" else "knot"),.int h,s]])) \/
  ∃(U:List (Int×Option Int×PV)) (x' y':Option MV),aq (λv l=>exs cal cY (put l 3 (.val v))) (hs.map .int) [sv (ofR R),sv (.str (af t)),some (.own (J.map aT)),x,y]=.next [sv (ofR R),sv (.str (af t)),some (.own (U.map aT)),x',y']/\U.length<=100/\∀r∈U,WP k r.2.2/\kJ r.2.1
 | [],J,x,y,_,Y,Z=>.inr ⟨J,x,y,rfl,by simpa using Y,Z⟩
 |h::hs,J,x,y,hm,Y,Z=>by
  rw[length_cons]at Y;have hh:=hm h (.head _);obtain⟨w,v,ok,e⟩:=hT (bhd t R (some h)) (!t) (oA g _) (by have:=u6 (t:=t) hh;omega);rw[JW,aq];have e1:ex cal (.ite (.cmp .eq (.bor 1) (cs "weaver")) [.set 4 (.call 52 [(.call 46 [.bor 0,.bor 3]),(cs "moth")])] [.set 4 (.call 52 [(.call 47 [.bor 0,.bor 3]),(cs "weaver")])]) [sv (ofR R),sv (.str (af t)),some (.own (J.map aT)),sv (.int h),y]=.next [sv (ofR R),sv (.str (af t)),some (.own (J.map aT)),sv (.int h),sv (.tup [.str (af w),v])]:=by
   cases t
   .rw[aK (p:=true) rfl];exact b6 (ik (ab (eI (ab rfl (eK h)) rfl) e))
   .rw[aK (p:=false) rfl];exact b6 (ik (ab (eI (ab rfl (eB h)) rfl) e))
  by_cases q:w=t
  .subst q;refine .inl ⟨h,v,(bb g.1.1).2 h hh,ok.wp,?_⟩;rw[show exs cal cY (put [sv (ofR R),sv (.str (af w)),some (.own (J.map aT)),x,y] 3 (.val (.int h)))=.ret (.tup [.str (af w),.tup [.str (if w=true then "bite" else "knot"),.int h,v]])from dL e1 (by cases w<;>exact pY rfl rfl)]
  .obtain rfl:w=(!t):=by cases w<;>cases t<;>simp_all
   obtain⟨a,s,ha,rfl,ao⟩:∃a s,(0<=a/\a<=59)/\v=.tup [.str (if (!t)=true then "bite" else "knot"),.int a,s]/\WP k s:=by
    rcases ok with⟨_,z⟩|⟨a,b,_⟩|⟨a,b,_⟩|⟨a,_⟩
    .exact z
    .cases t with
     |false=>cases a
     |true=>exact absurd (KJ.mp b).1 hw
    .cases t with
     |true=>cases a
     |false =>
      have:=Kf List.length b;rw[show(bhd false R (some h)).length=R.length from by show(sortT _).length=_;rw[sortT_len,pd]]at this;exact absurd (KI.mp this) hb
    .cases t<;>cases a
   have aO:(J.map aT).length<10000:=by rw[pd];omega
   have e2:exs cal cY (put [sv (ofR R),sv (.str (af t)),some (.own (J.map aT)),x,y] 3 (.val (.int h)))=.next [sv (ofR R),sv (.str (af t)),some (.own ((J++[(h,some a,s)]).map aT)),sv (.int h),sv (.tup [.str (af (!t)),.tup [.str (if (!t)=true then "bite" else "knot"),.int a,s]])]:=dL e1 (by
    rw[Ka];cases t<;>exact oW rfl (b6 (jw (v:=aT (h,some a,s)) rfl rfl aO)))
   rw[e2];exact oB cal hT R g hw hb hk t eK eB hs (J++[(h,some a,s)]) _ _ (λy hy=>hm y (.tail _ hy)) (by rw[tr,length_singleton];omega) λr a0=>by
    rcases Lu.mp a0 with z|z
    .exact Z r z
    .rw[Ke.mp z];exact⟨ao,tu ha⟩
theorem wo(n):∀k,AL (aa defs (n+k+2)) k
 |k,R,t,g,Y=>by
  by_cases hw:[]∈R
  .refine⟨false,_,.inr (.inl ⟨rfl,hw,rfl⟩),?_⟩;rw[ac (d:=eA) rfl rfl];exact bz (AA ((nJ [] R).trans (by rw[J1 hw])) rfl rfl) rfl
  .have hi:=(nJ [] R).trans (by rw[J5 hw]);by_cases Z:R=[]
   .refine⟨true,_,.inr (.inr (.inl ⟨rfl,Z,rfl⟩)),?_⟩;rw[ac (d:=eA) rfl rfl];subst Z
    rfl
   .match k,Y with
    |0,Y =>
     obtain⟨s,hs⟩:=exists_mem_of_ne_nil R Z;obtain⟨x,hx⟩:=exists_mem_of_ne_nil s λz=>hw (z▸hs)
     have:=cM.mpr ⟨s,hs,hx⟩
     simp_all
    |k+1,Y =>
     have J:((R.length:Int)==0)=false:=by
      simp_all
     have ao:=aJ (bb g.1.1);rcases oB (aa defs (n+k+2)) (wo n k) R g hw Z Y t (λh=>jx (n+k+1) R h g.1) (λh=>kG (n+k+1) R h (by have:=g.2.1;omega)) (ae R) [] none none (λh hh=>hh) (by simp;omega) (λr U=>by cases U)with⟨h,s,ha,hs,e⟩|⟨rows,x,y,e,h1,h2⟩
     .refine⟨t,_,.inl ⟨rfl,h,s,ha,rfl,hs⟩,?_⟩;rw[ac (d:=eA) rfl rfl];refine au (AA hi rfl rfl) (au (qX (xs:=R.map ofS) (by rw[pd,J]) rfl) (cx (cT (xs:=[]) rfl) ?_));exact Kf aS (qY (xs:=(ae R).map .int) (xz (ab rfl (ip (n+(k+1)) R g.1.1))) e)
     .refine⟨!t,.tup [.str "cases",.tup (rows.map aT)],.inr (.inr (.inr ⟨rfl,.cases rows (by omega) (λr U=>(h2 r U).2) λr U=>(h2 r U).1.le (by omega)⟩)),?_⟩;rw[ac (d:=eA) rfl rfl];refine au (AA hi rfl rfl) (au (qX (xs:=R.map ofS) (by rw[pd,J]) rfl) (cx (cT (xs:=[]) rfl) ?_));exact Kf aS (jz (r:=.ret (.tup [.str (af !t),.tup [.str "cases",.tup (rows.map aT)]])) (xs:=(ae R).map .int) (xz (ab rfl (ip (n+(k+1)) R g.1.1))) e (by cases t<;>exact jv rfl))
def F_(h1:ev cal e W=some w)(h2:evX cal x W=some (y,l))(z:cal g [.val w,.val y]=some r):evX cal (.fn2 g e x) W=some (r,l):=by simp_all [evX]
def Ga(z:(W[i]?).join=some (.own ys))(h:evX cal x W=some (v,l))(ho:(l[i]?).join=some (.own xs))(J:xs.length<10000)(k:exs cal ms (put l i (.own (xs++[v])))=r):exs cal (.appX i x::ms) W=r:=by
 rw[ar,ex,z]
 simp_all
structure kK(cal:Cal):Prop where
 next:AG cal
 hol:∀R,SmR R->cal 48 [.val (ofR R)]=some (ofL (ae R))
 deed:∀R h r,SmR R->cal 55 [.val (ofR R),.val (.str (af h)),.val (aZ r)]=some (ofR (bhd h R r))
 reply:∀R p,SmR R->∃r,kJ r/\cal 56 [.val (ofR R),.val (.int p)]=some (aZ r)
 split:∀R,SmR R->∃D:List (LL),cal 57 [.val (ofR R)]=some (.lst (D.map ofR))/\D.length<=8/\D.flatten.length<=8/\D.flatten.flatten.length<=60/\∀Q∈D,SmR Q
 tried:AL cal 4
 plain:∀R t h p,SmR R->∃v,sP v/\cal 58 [.val (ofR R),.val (.str (af t)),.val (.str (af h)),.val (.int p)]=some v
def ly(n):kK (aa defs (n+6)):=⟨F7 (n+4),λR g=>ip (n+5) R g.1.1,λR h r g=>eX (n+4) R g.1 h r,λR p g=>AJ (n+3) R g.1 p,λR g=>CU (n+5) R g,wo n 4,λR t h p g=>AK (n+3) R g.1 t h p⟩
def i7(cal:Cal)(j:Nat):Prop:=∀ns R (t h:Bool),SmR R->∃v z,cal (62+2000) [.mutD (.p ns),.val (ofR R),.val (.str (af t)),.val (.str (af h)),.val (.int j)]=some (.tup [v,.dI (.p z)])/\WP (7+j) v
theorem lU(cal)(C:kK cal)(G:i7 cal 0)(R)(g:SmR R)(h):∀(hs ns:List Int) (J:List (Int×Option Int×PV)) Y Z x7,J.length+hs.length<=100->(∀r∈J,WP 7 r.2.2/\kJ r.2.1) ->
  ∃(aO:List Int) (U:List (Int×Option Int×PV)) (y5 y6 y7:Option MV),aq (λx l=>exs cal gi (put l 5 (.val x))) (hs.map .int) [some (.mutD (.p ns)),sv (ofR R),sv (.str (af h)),some (.own (J.map aT)),sv (.str (af !h)),Y,Z,x7]=.next [some (.mutD (.p aO)),sv (ofR R),sv (.str (af h)),some (.own (U.map aT)),sv (.str (af !h)),y5,y6,y7]/\U.length<=100/\∀r∈U,WP 7 r.2.2/\kJ r.2.1
 | [],ns,J,Y,Z,x7,hl,hr=>⟨ns,J,Y,Z,x7,rfl,by simpa using hl,hr⟩
 |a::hs,ns,J,Y,Z,x7,hl,hr=>by
  rw[length_cons]at hl;obtain⟨y,n1,_,e1⟩:=C.next ns;have g1:=oA (h:=!h) g (some a);obtain⟨r,rk,e2⟩:=C.reply (bhd (!h) R (some a)) y g1;obtain⟨v,n2,e3,hv⟩:=G n1 (bhd h (bhd (!h) R (some a)) r) (!h) h (oA g1 r);have a3:(J.map aT).length<10000:=by rw[pd];omega
  have e:exs cal gi (put [some (.mutD (.p ns)),sv (ofR R),sv (.str (af h)),some (.own (J.map aT)),sv (.str (af !h)),Y,Z,x7] 5 (.val (.int a)))=.next [some (.mutD (.p n2)),sv (ofR R),sv (.str (af h)),some (.own (J.map aT++[aT (a,r,v)])),sv (.str (af !h)),sv (.int a),sv (ofR (bhd (!h) R (some a))),sv (aZ r)]:=
   bn (ab rfl (C.deed R (!h) (some a) g)) (oq (F_ rfl (xc1 e1) e2) (Ga rfl (jS (cI rfl (cI rfl (fV (xc5 (eI (ab rfl (C.deed _ h r g1)) rfl) rfl rfl rfl e3))))) rfl a3 rfl))
  rw[JW,aq,e];have:=lU cal C G R g h hs n2 (J++[(a,r,v)]) (sv (.int a)) (sv (ofR (bhd (!h) R (some a)))) (sv (aZ r)) (by rw[tr,length_singleton];omega) λq hq=>by
   rcases Lu.mp hq with z|z
   .exact hr q z
   .rw[Ke.mp z];exact⟨hv,rk⟩
  rw[Ka]at this;exact this
def AM(n)(C:kK (aa defs n))(G:i7 (aa defs n) 0)(ns)(R)(g:SmR R)(h):∃v z,aa defs (n+1) (59+2000) [.mutD (.p ns),.val (ofR R),.val (.str (af h))]=some (.tup [v,.dI (.p z)])/\WP 8 v:=by
 obtain⟨z,J,Y,Z,y7,e,h1,h2⟩:=lU _ C G R g h (ae R) ns [] none none none (by have:=aJ (bb g.1.1);simp;omega) (λr U=>by cases U);refine⟨.tup [.str "cases",.tup _],z,?_,.cases J (by omega) (λr U=>(h2 r U).2) λr U=>(h2 r U).1⟩;rw[gN (by decide) rfl rfl];have k:exs _ lO.body [some (.mutD _),sv _,sv (.str _),none,none,none,none,none]=.retM (.tup [.str "cases",.tup _]) [some (.mutD _),sv _,sv (.str _),some (.own _),sv (.str _),Y,Z,y7]:=dL (cT rfl) (bn (v:=.str _) (by cases h<;>rfl) (jz (xz (ab rfl (C.hol R g))) e (ol rfl)));exact Kf _ k
def x_tupOf(h:evX cal x W=some (.lst xs,l)):evX cal (.tupOf x) W=some (.tup xs,l):=by simp_all [evX]
def x_compS(h:(evs cal [src] W).bind (bm .seq)=some xs)(z:xs.length<=10000)(h2:dz cal js k e f mask es xs W=some (ws,l)):evX cal (.compS src js k e f mask es) W=some (.lst ws,l):=by
 obtain⟨vs,J,U⟩:=gf.mp h;rw[evX,J,bind_some,U,bind_some,if_pos z,h2];rfl
theorem Dy (cal) (G:i7 cal j) (a1 a2 J U Y):∀D ns,(∀Q∈D,SmR Q)->∃(z:List (LL×PV)) (ao:List Int),dz cal [0,4] .pair (.var 0) 62 [true,false,false,false,false] [.bor 1,.bor 0,(cs "weaver"),(cs "moth"),.bor 2] (D.map ofR) [some (.mutD (.p ns)),a1,a2,J,sv (.int j),U,Y]=some (z.map al,[some (.mutD (.p ao)),a1,a2,J,sv (.int j),U,Y])/\z.map (·.1)=D/\∀r∈z,WP (7+j) r.2
 | [],ns,_=>⟨[],ns,rfl,rfl,λr Z=>by cases Z⟩
 |Q::D,ns,hD=>by
  obtain⟨v,n1,e,hv⟩:=G ns Q false true (hD Q (.head _));obtain⟨z,n2,e2,h1,h2⟩:=Dy cal G a1 a2 J U Y D n1 λq hq=>hD q (.tail _ hq)
  refine⟨(Q,v)::z,n2,?_,by rw[JW,h1],λr Z=>?_⟩
  .rw[JW,dz,show evM cal [true,false,false,false,false] [.bor 1,.bor 0,(cs "weaver"),(cs "moth"),.bor 2] (kY [0,4] [some (.mutD (.p ns)),a1,a2,J,sv (.int j),U,Y] (ofR Q))=some [.mutD (.p ns),.val (ofR Q),.val (.str (af false)),.val (.str (af true)),.val (.int j)]from rfl,show ev cal (.var 0) (kY [0,4] [some (.mutD (.p ns)),a1,a2,J,sv (.int j),U,Y] (ofR Q))=some (ofR Q)from rfl,bind_some,bind_some,e];show(Option.bind (some (.tup [ofR Q,v])) λr=>(Option.bind (some [some (.mutD (.p n1)),a1,a2,J,sv (.int j),U,Y]) λl=>(dz cal _ _ _ _ _ _ _ l).map λp=>(r::p.1,p.2)))=_;rw[bind_some,bind_some,e2]
   rfl
  .rcases JY.mp Z with rfl|Z
   .exact hv
   .exact h2 r Z
def u7(C:kK cal){R:LL}(g:SmR R)(z:ev cal a W=some (.bl p))(U:ev cal (.bor 1) W=some (ofR R))(J:evA cal [.bor 1] W=some [.val (ofR R)]):∃b,ev cal (.and a (.cmp .lt (.blt .len [(.call 48 [.bor 1])]) (ci 5))) W=some (.bl b)/\(b=true->(ae R).length<=4):=by
 refine⟨p&&decide _,db z λ_=>(bP (aH (ab J (C.hol R g))) (de _ _ _)).trans rfl,λh=>?_⟩;have:=Kz (gQ.mp h).2;rw[pd]at this;omega
def ra(cal:Cal)(f j:Nat):Prop:=∀ns R (t:Bool) (p:Int),0<=p->SmR R->∃v z,cal (f+2000) [.mutD (.p ns),.val (ofR R),.val (.str (af t)),.val (.int p),.val (.int j)]=some (.tup [v,.dI (.p z)])/\WP (8+j) v
def xG(n j)(C:kK (aa defs n))(G:i7 (aa defs n) j)(K:∀ns R h,SmR R->∃v z,aa defs n (59+2000) [.mutD (.p ns),.val (ofR R),.val (.str (af h))]=some (.tup [v,.dI (.p z)])/\WP 8 v):ra (aa defs (n+1)) 60 j:=λns R t p hp g=>by
 suffices h:∃v z x1 x2 x3 x4 W,exs (aa defs n) gj.body [some (.mutD (.p ns)),sv (ofR R),sv (.str (af t)),sv (.int p),sv (.int j),none,none]=.retM v (some (.mutD (.p z))::x1::x2::x3::x4::W)/\WP (8+j) v by
  obtain⟨v,z,x1,x2,x3,x4,W,e,hv⟩:=h;exact⟨v,z,by rw[gN (d:=gj) (by decide) rfl rfl];exact Kf (sK _) e,hv⟩
 cases t with
 |true =>
  obtain⟨r,rk,U⟩:=C.reply R p g;obtain⟨v,Z,e2,hv⟩:=G ns (bhd true R r) false true (oA g r);exact⟨_,_,_,_,_,_,_,i5 rfl (bn (ab rfl U) (gk (jS (cI rfl (cI rfl (fV (xc5 (eI (ab rfl (C.deed R true r g)) rfl) rfl rfl rfl e2))))))),(WP.one true r rk hv).le (by omega)⟩
 |false =>
  obtain⟨b,hb,_⟩:=u7 (cal:=aa defs n) C g (a:=.cmp .eq (.bin .mod (.bor 3) (ci 2)) (ci 0)) (W:=[some (.mutD (.p ns)),sv (ofR R),sv (.str (af false)),sv (.int p),sv (.int j),none,none]) (gX rfl (by decide)) rfl rfl;cases b with
  |true =>
   obtain⟨v,Z,U,hv⟩:=K ns R true g;exact⟨_,_,_,_,_,_,_,iG rfl (i5 hb (gk (xc3 rfl rfl U))),hv.le (by omega)⟩
  |false =>
   obtain⟨D,U,h1,h2,h3,h4⟩:=C.split R g;obtain⟨J,Z,e2,Y,h6⟩:=Dy (aa defs n) G (sv (ofR R)) (sv (.str (af false))) (sv (.int p)) none (sv (.lst (D.map ofR))) D ns h4;have hl:J.length=D.length:=by rw[<- Y,pd]
   refine⟨.tup [.str "parts",.tup (J.map al)],Z,_,_,_,_,_,iG rfl (iG hb (bn (ab rfl U) (gk (jS (cI rfl (fV (x_tupOf (x_compS rfl (by rw[pd];omega) e2)))))))),(WP.parts J (by omega) (by rw[Y];omega) (by rw[Y];omega) (λr hr=>?_) h6).le (by omega)⟩;have:=h4 r.1 (Y▸MO hr);exact⟨this.1,wh this.2.2 (by decide)⟩
def AN{A R:LL}(h:A.Sublist R):A.flatten.length<=R.flatten.length:=by
 induction h with
 |slnil=>exact pb _
 |cons a _ ih=>rw[flatten_cons,tr];omega
 |cons_cons a _ ih=>rw[flatten_cons,tr,flatten_cons,tr];omega
def Gb{A R:LL}(g:SmR R)(h:A.Sublist R):SmR A:=by
 have J:=h.length_le;have U:=AN h;have:=g.2.1;have:=g.2.2;exact⟨⟨λt z=>g.1.1 t (h.subset z),g.1.2.1.sublist h,by omega⟩,by omega,by omega⟩
def CV(cal)(J a2 U)(W)(R)(g:SmR R)(p):∃A,SmR A/\ev cal (.blt .tupleOf [(.comp .rng [(.blt .len [.bor 1])] [1,3] (.cmp .gt (.bin .mod (.bin .shr (.bor 2) (.bin .add (.bor 0) (ci 8))) (ci 4)) (ci 0)) (.idx (.bor 1) (.bor 0)))]) (J::sv (ofR R)::a2::sv (.int p)::U::W)=some (ofR A):=by
 let q:Nat->Bool:=λk=>decide (0<p / 2 ^ (k+8) % 4)
 refine⟨((range R.length).filter q).map λk=>R.getD k [],Gb g ?_,?_⟩
 .have h1:((range R.length).map λk=>R.getD k [])=R:=by
   refine ext_getElem (by simp) λi h1 h2=>?_
   simp_all
  have:=(filter_sublist (p:=q) (l:=range R.length)).map λk=>R.getD k []
  rw[h1]at this;exact this
 .have hR:=g.2.1;have Y:ev cal (.blt .len [.bor 1]) (J::sv (ofR R)::a2::sv (.int p)::U::W)=some (.int ((R.map ofS).length:Int)):=rfl;rw[pd]at Y;refine(aH (v:=.lst ((((range R.length).filter q).map λk=>R.getD k []).map ofS)) ?_).trans rfl;rw[ev,evs,Y,bind_some,evs,map_some,bind_some,nM (by omega) (by omega),bind_some,if_pos (by simp;omega),Int.toNat_natCast,cn (p:=q) (h:=λk=>ofS (R.getD k [])),J2]
  .rfl
  .intro k _;have z:((k:Int)+8).toNat=k+8:=by omega
   have Z:(0:Int)<=(k:Int)+8:=by omega
   have s1:ff .shr (.int p) (.int ((k:Int)+8))=some (.int (p / 2 ^ (k+8))):=by
    show(if (0:Int)<=(k:Int)+8 then some (PV.int (p / 2 ^ ((k:Int)+8).toNat))else none)=_;rw[if_pos Z,z]
   exact uU ((bP ((cv ((cv (y:=.int ((k:Int)+8)) rfl rfl).trans s1) rfl).trans rfl) rfl).trans rfl)
  .intro k z _;have z:k<R.length:=by simpa using z
   simp[ev,cj,ofR,fm,z]
def wq{D:List (LL)}{i:Int}(z:0<=i)(h1:i<D.length):∃Q∈D,fF (.lst (D.map ofR)) (.int i)=some (ofR Q):=by
 have h2:i.toNat<D.length:=by omega
 refine⟨D[i.toNat],getElem_mem _,?_⟩;rw[Aj,fm z (by rw[pd];exact h1)];simp[h2]
theorem tw(n j)(C:kK (aa defs n))(G:i7 (aa defs n) j)(K:∀ns R h,SmR R->∃v z,aa defs n (59+2000) [.mutD (.p ns),.val (ofR R),.val (.str (af h))]=some (.tup [v,.dI (.p z)])/\WP 8 v):ra (aa defs (n+1)) 61 j:=λns R t p hp g=>by
 suffices h:∃v z x1 x2 x3 x4 W,exs (aa defs n) eG.body [some (.mutD (.p ns)),sv (ofR R),sv (.str (af t)),sv (.int p),sv (.int j),none,none,none,none,none,none]=.retM v (some (.mutD (.p z))::x1::x2::x3::x4::W)/\WP (8+j) v by
  obtain⟨v,z,x1,x2,x3,x4,W,e,hv⟩:=h;exact⟨v,z,by rw[gN (d:=eG) (by decide) rfl rfl];exact Kf (sK _) e,hv⟩
 have U:ev (aa defs n) (.cmp .eq (.bin .mod (.bor 3) (ci 3)) (ci 0)) [some (.mutD (.p ns)),sv (ofR R),sv (.str (af t)),sv (.int p),sv (.int j),none,none,none,none,none,none]=some (.bl (p % 3==0)):=gX rfl (by decide);by_cases q0:(p % 3==0)=true
 .rw[q0]at U;obtain⟨A,gA,J⟩:=CV (aa defs n) (some (.mutD (.p ns))) (sv (.str (af t))) (sv (.int j)) [none,none,none,none,none,none] R g p;obtain⟨v,n1,Z,hv⟩:=G ns A t false gA;exact⟨_,_,_,_,_,_,_,i5 U (bn J (gk (jS (cI rfl (cI rfl (fV (xc5 rfl rfl rfl rfl Z))))))),(WP.fewer A gA.1 (wh gA.2.2 (by decide)) hv).le (by omega)⟩
 .rw[Mu]at q0;rw[q0]at U;cases t with
  |false =>
   obtain⟨r,rk,J⟩:=C.reply R (p / 3) g;obtain⟨v,n1,Z,hv⟩:=G ns (bhd false R r) true false (oA g r);exact⟨_,_,_,_,_,_,_,iG U (i5 rfl (bn (ab rfl J) (gk (jS (cI rfl (cI rfl (fV (xc5 (eI (ab rfl (C.deed R false r g)) rfl) rfl rfl rfl Z)))))))),(WP.one false r rk hv).le (by omega)⟩
  |true =>
   obtain⟨b,hb,_⟩:=u7 (cal:=aa defs n) C g (a:=.cmp .eq (.bin .mod (.bor 3) (ci 3)) (ci 1)) (W:=[some (.mutD (.p ns)),sv (ofR R),sv (.str (af true)),sv (.int p),sv (.int j),none,none,none,none,none,none]) (gX rfl (by decide)) rfl rfl;cases b with
   |true =>
    obtain⟨v,n1,J,hv⟩:=K ns R false g;exact⟨_,_,_,_,_,_,_,iG U (iG rfl (i5 hb (gk (xc3 rfl rfl J)))),hv.le (by omega)⟩
   |false =>
    obtain⟨D,J,h1,h2,h3,Y⟩:=C.split R g;have c2:ev (aa defs n) (.cmp .lt (.blt .len [.bor 7]) (ci 2)) [some (.mutD (.p ns)),sv (ofR R),sv (.str (af true)),sv (.int p),sv (.int j),none,none,sv (.lst (D.map ofR)),none,none,none]=some (.bl (decide (((D.map ofR).length:Int)<2))):=rfl;rw[pd]at c2;by_cases q2:(D.length:Int)<2
    .rw[J1 q2]at c2;exact⟨_,_,_,_,_,_,_,iG U (iG rfl (iG hb (bn (ab rfl J) (i5 c2 (ol rfl))))),.leaf (lx (.inr (.inr rfl)))⟩
    .rw[J5 q2]at c2;have hd:(0:Int)<D.length:=by omega
     obtain⟨Q1,m1,i1⟩:=wq (D:=D) (i:=p / 3 % D.length) (Lb _ (by omega)) (K7 _ hd);obtain⟨Q2,m2,i2⟩:=wq (D:=D) (i:=(p / 3+1) % D.length) (Lb _ (by omega)) (K7 _ hd);obtain⟨v1,n1,Z,a7⟩:=G ns Q1 false false (Y Q1 m1);obtain⟨v2,n2,e3,a8⟩:=G n1 Q2 false false (Y Q2 m2);have md:∀x,ff .mod (.int x) (.int ((D.map ofR).length:Int))=some (.int (x % D.length)):=λx=>by
      simp_all
     exact⟨_,_,_,_,_,_,_,iG U (iG rfl (iG hb (bn (ab rfl J) (iG c2 (bn ((dg rfl ((cv rfl rfl).trans (md _))).trans i1) (bn ((dg rfl ((cv rfl rfl).trans (md _))).trans i2) (oq (xc5 rfl rfl rfl rfl Z) (gk (jS (cI rfl (cI rfl (cI rfl (cI rfl (fV (xc5 rfl rfl rfl rfl e3))))))))))))))),(WP.either Q1 Q2 (Y Q1 m1).1 (Y Q2 m2).1 (wh (Y Q1 m1).2.2 (by decide)) (wh (Y Q2 m2).2.2 (by decide)) a7 a8).le (by omega)⟩
def tz(n j)(C:kK (aa defs n))(M:∀i,j=i+1->ra (aa defs n) 60 i/\ra (aa defs n) 61 i):i7 (aa defs (n+1)) j:=λns R t h g=>by
 suffices z:∃v J U Y Z x4 W,exs (aa defs n) fT.body [some (.mutD (.p ns)),sv (ofR R),sv (.str (af t)),sv (.str (af h)),sv (.int j),none,none]=.retM v (some (.mutD (.p J))::U::Y::Z::x4::W)/\WP (7+j) v by
  obtain⟨v,J,U,Y,Z,x4,W,e,hv⟩:=z;exact⟨v,J,by rw[gN (d:=fT) (by decide) rfl rfl];exact Kf (sK _) e,hv⟩
 obtain⟨p,n1,hp,e0⟩:=C.next ns;have bT:∀x6,∃v J U Y Z x4 W,exs (aa defs n) (fT.body.drop 2) [some (.mutD (.p n1)),sv (ofR R),sv (.str (af t)),sv (.str (af h)),sv (.int j),sv (.int p),x6]=.retM v (some (.mutD (.p J))::U::Y::Z::x4::W)/\WP (7+j) v:=λx6=>by
  have c1:ev (aa defs n) (.or (.cmp .eq (.bor 4) (ci 0)) (.cmp .eq (.bin .mod (.bin .fdiv (.bor 5) (ci 2)) (ci 8)) (ci 0))) [some (.mutD (.p n1)),sv (ofR R),sv (.str (af t)),sv (.str (af h)),sv (.int j),sv (.int p),x6]=some (.bl (((j:Int)==0)||(p / 2 % 8==0))):=CJ rfl λ_=>gX rfl (by decide)
  by_cases q1:(((j:Int)==0)||(p / 2 % 8==0))=true
  .rw[q1]at c1;obtain⟨v,hv,e1⟩:=C.plain R t h (p / 16) g;exact⟨_,_,_,_,_,_,_,i5 c1 (ol (ab rfl e1)),.leaf hv⟩
  .rw[Mu]at q1;rw[q1]at c1;obtain⟨i,rfl⟩:∃i,j=i+1:=⟨j-1,by
    have:=(Bool.or_eq_false_iff.mp q1).1;have:(j:Int)≠0:=by simpa using this
    omega⟩
   have hd:=Kf (λx=>some (PV.int x)) (show((i+1:Nat):Int)-1=i by omega);have a2:(0:Int)<=p / 16:=Int.ediv_nonneg hp (by decide);cases h with
   |true =>
    obtain⟨v,n2,e1,hv⟩:=(M i rfl).1 n1 R t (p / 16) a2 g;exact⟨_,_,_,_,_,_,_,iG c1 (i5 rfl (gk (xc5 rfl rfl rfl (qT (λi z=>by cases z) hd) e1))),hv.le (by omega)⟩
   |false =>
    obtain⟨v,n2,e1,hv⟩:=(M i rfl).2 n1 R t (p / 16) a2 g;exact⟨_,_,_,_,_,_,_,iG c1 (iG rfl (gk (xc5 rfl rfl rfl (qT (λi z=>by cases z) hd) e1))),hv.le (by omega)⟩
 obtain⟨b,hb,hf⟩:=u7 (cal:=aa defs n) C g (a:=.cmp .eq (.bin .mod (.bor 5) (ci 2)) (ci 0)) (W:=[some (.mutD (.p n1)),sv (ofR R),sv (.str (af t)),sv (.str (af h)),sv (.int j),sv (.int p),none]) (gX rfl (by decide)) rfl rfl;cases b with
 |false =>
  obtain⟨v,J,U,Y,Z,x4,W,e,hv⟩:=bT none;exact⟨v,J,U,Y,Z,x4,W,oq (xc1 e0) (iG hb e),hv⟩
 |true =>
  obtain⟨w,v,ok,e1⟩:=C.tried R t g (hf rfl);by_cases q:w=h
  .subst q;refine⟨_,_,_,_,_,_,_,oq (xc1 e0) (i5 hb (bn (ab rfl e1) (i5 (by cases w<;>rfl) (ol rfl)))),ok.wp.le (by omega)⟩
  .obtain⟨v',J,U,Y,Z,x4,W,e,hv⟩:=bT (sv (.tup [.str (af w),v]));exact⟨v',J,U,Y,Z,x4,W,oq (xc1 e0) (dL (l:=[some (.mutD (.p n1)),sv (ofR R),sv (.str (af t)),sv (.str (af h)),sv (.int j),sv (.int p),sv (.tup [.str (af w),v])]) (by refine(aK hb).trans ?_;exact bn (ab rfl e1) (oW (by cases w<;>cases h<;>first|rfl|exact absurd rfl q) rfl)) e),hv⟩
theorem rb:∀j n,i7 (aa defs (n+3*j+8)) j
 |0,n=>tz (n+7) 0 (ly (n+1)) λi h=>by cases h
 |j+1,n=>by
  have k:∀ns R h,SmR R->∃v z,aa defs (n+3*j+9) (59+2000) [.mutD (.p ns),.val (ofR R),.val (.str (af h))]=some (.tup [v,.dI (.p z)])/\WP 8 v:=λns R h g=>AM (n+3*j+8) (ly (n+3*j+2)) (rb 0 (n+3*j)) ns R g h
  exact tz (n+3*j+10) (j+1) (ly (n+3*j+4)) λi h=>by
   cases h;have G:i7 (aa defs (n+3*j+9)) j:=by have:=rb j (n+1);rwa[show n+1+3*j+8=n+3*j+9 by omega]at this
   exact⟨xG _ j (ly _) G k,tw _ j (ly _) G k⟩
def tD(R)(h):0<=a_ R h:=by
 unfold a_
 induction R with
 |nil=>simp
 |cons s R ih =>
  rw[JW,sum_cons];have:0<=(if h∈s then wgt s else 0):=by
   split
   .exact Int.le_of_lt (Int.pow_pos (by decide))
   .exact Int.le_refl _
  omega
def oC{R:LL} :0<a_ R h ↔ ∃s∈R,h∈s:=by
 unfold a_
 induction R with
 |nil=>simp
 |cons s R ih =>
  rw[JW,sum_cons];have z:0<=(R.map λs=>if h∈s then wgt s else 0).sum:=tD R h;have wp:0<wgt s:=Int.pow_pos (by decide);by_cases hs:h∈s
  .rw[if_pos hs];exact⟨λ_=>⟨s,.head _,hs⟩,λ_=>by omega⟩
  .simp_all
noncomputable def re:Option Int->PV
 |none=>.non
 |some i=>.int i
noncomputable def cc(f:Int->Int)(b:Option Int)(h:Int):Option Int:=match b with
 |none=>some h
 |some c=>if f c<f h then some h else some c
noncomputable def dM(f:Int->Int):List Int:=((range 60).map λ(k:Nat)=>(k:Int)).filter λh=>decide (0<f h)
def g9(f):(dM f).Pairwise (· < ·):=by
 refine Pairwise.filter _ (pairwise_map.mpr (pairwise_lt_range.imp λ{a b} q=>by omega))
def tG{R:LL}(g:∀s∈R,ce s)(h:gZ d (λk=>∃s∈R,k∈s)):sortI (d.map (·.1))=dM (a_ R):=by
 have p:(d.map (·.1)).Perm (dM (a_ R)):=by
  refine(KQ h.1 (fo (g9 _))).mpr λk=>?_
  rw[h.2 k];unfold dM;rw[KJ,KY,oC];refine⟨λq=>⟨?_,q⟩,λq=>q.2⟩;obtain⟨s,hs,z⟩:=q;have:=(g s hs).2 k z;exact mem_map.mpr ⟨k.toNat,Mb.mpr (by omega),by omega⟩
 rw[sortI_of_perm p,sortI_id ((g9 _).imp λ{a b} q=>by omega)]
theorem jA(cal)(a)(d)(f)(hd:il d f):∀(xs:List Int) b y,(∀x∈xs,bO d x≠none)->(∀c,b=some c->bO d c≠none) ->
  ∃y',aq (λx l=>exs cal cQ (put l 3 (.val x))) (xs.map .int) [a,sv (.dI (.k d)),sv (re b),y]=.next [a,sv (.dI (.k d)),sv (re (xs.foldl (cc f) b)),y']
 | [],b,y,_,_=>⟨y,rfl⟩
 |x::xs,b,y,hx,hb=>by
  have U:∀z,bO d z≠none->bO d z=some (.int (f z)):=λz q=>by
   cases e:bO d z with
   |none=>exact absurd e q
   |some s=>rw[hd.2 z s e]
  have Y:=U x (hx x (.head _));rw[JW,aq];have e:exs cal cQ (put [a,sv (.dI (.k d)),sv (re b),y] 3 (.val (.int x)))=.next [a,sv (.dI (.k d)),sv (re (cc f b x)),sv (.int x)]:=by
   cases b with
   |none=>simp[cQ,exs,ex,ev,evB,re,cc,jp]
   |some c =>
    have Z:=U c (hb c rfl);by_cases q:f c<f x
    .simp[cQ,exs,ex,ev,evB,re,cc,jp,Y,Z,q]
    .simp[cQ,exs,ex,ev,evB,re,cc,jp,Y,Z,q]
  rw[e];refine jA cal a d f hd xs (cc f b x) _ (λz hz=>hx z (.tail _ hz)) λc hc=>?_
  cases b with
  |none=>cases hc;exact hx x (.head _)
  |some J =>
   have hc:(if f J<f x then some x else some J)=some c:=hc;by_cases q:f J<f x
   .simp_all
   .simp_all
def u8(n)(R)(g:az R):aa defs (n+3) 23 [.val (ofR R)]=some (re ((dM (a_ R)).foldl (cc (a_ R)) none)):=by
 obtain⟨d,e,hd,Z⟩:=CH n R g;have J:=tG g.1 Z;have hl:d.length<64:=by
  have:d.length=(dM (a_ R)).length:=by rw[<- J,sortI_len,pd]
  rw[this];have aO:(dM (a_ R)).length<=60:=nP 60 _ (fo (g9 _)) λx hx=>by
   unfold dM at hx;obtain⟨k,J,rfl⟩:=mem_map.mp (KJ.mp hx).1
   grind
  omega
 rw[ac (d:=nV) rfl rfl];have U:∀x∈dM (a_ R),bO d x≠none:=λx hx z=>by
  rw[<- J,jd]at hx;exact Aq.mp z hx
 obtain⟨y,Y⟩:=jA (aa defs (n+2)) (sv (ofR R)) d (a_ R) hd (dM (a_ R)) none none U (λc z=>by cases z);rw[show re none=.non from rfl]at Y;have hs:(evs (aa defs (n+2)) [.blt .sortedKeys [.bor 1]] [sv (ofR R),sv (.dI (.k d)),sv .non,none]).bind (bm .seq)=some ((dM (a_ R)).map .int):=by
  simp[evs,ev,hl,J]
 show aS (exs (aa defs (n+2)) (_::_::_::[_]) [sv (ofR R),none,none,none])=_;simp only[ar];rw[ik (ab (vs:=[.val (ofR R)]) (by simp[evA]) e),aR];simp only[cK,cz];rw[ik (v:=.non) (by simp[ev]),aR];simp only[cK,cz];rw[dJ hs,show ∀W,br [.blt .sortedKeys [.bor 1]] W=W from λ_=>rfl,Y,du,aR];simp[exs,ex,ev,aQ]
def rf{R:LL}(g:∀s∈R,ce s):dM (a_ R)=ae R:=by
 have p:(ae R).Perm (dM (a_ R)):=by
  refine(KQ (fo (im R)) (fo (g9 _))).mpr λk=>?_
  unfold dM;rw[cM,KJ,KY,oC];refine⟨λq=>⟨?_,q⟩,λq=>q.2⟩;obtain⟨s,hs,z⟩:=q;have:=(g s hs).2 k z;exact mem_map.mpr ⟨k.toNat,Mb.mpr (by omega),by omega⟩
 rw[<- sortI_id ((g9 _).imp λ{a b} q=>by omega),<- sortI_of_perm p,sortI_id ((im R).imp λ{a b} q=>by omega)]
theorem oD(f):∀(hs:List Int) r,(∀h∈hs,0<f h)->(hs.foldl (iC f) (r,r.elim 0 f)).1=hs.foldl (cc f) r
 | [],_,_=>rfl
 |h::hs,r,z=>by
  rw[foldl_cons,foldl_cons,<- oD f hs (cc f r h) λx hx=>z x (.tail _ hx)];have:iC f (r,r.elim 0 f) h=(cc f r h,(cc f r h).elim 0 f):=by
   cases r with
   |none=>exact if_pos (z h (.head _))
   |some c =>
    show(if f c<f h then _ else _)=(if f c<f h then some h else some c,(if f c<f h then some h else some c).elim 0 f);split<;>rfl
  rw[this]
def wt(n)(R)(g:az R):aa defs (n+3) 23 [.val (ofR R)]=some (aZ (g8 R)):=by
 rw[u8 n R g,rf g.1];have:g8 R=(ae R).foldl (cc _) none:=oD _ _ none λh z=>oC.mpr (cM.mp z)
 rw[this];cases (ae R).foldl (cc _) none<;>rfl
def GAt(v:PV)(R:LL)(t h:Bool)(N:Nat)(b:Bool):Prop:=aa defs N 36 [.val v,.val (ofR R),.val (.str (af t)),.val (.str (af h))]=some (.bl b)
def IH(hv:sP v)(R)(g:az R)(z:R.flatten.length<=4000)(t h):∃b,∀n,GAt v R t h (n+6) b:=by
 rcases hv with rfl|rfl|rfl|⟨P,h1,h2,rfl⟩
 .exact⟨_,λn=>F3 _ R t h⟩
 .exact⟨_,λn=>CK _ R t h⟩
 .obtain⟨M,J,_⟩:=ju 0 R g;exact⟨_,λn=>AC n R g z J t h⟩
 .exact⟨_,λn=>CL _ R P h1 h2 g t h⟩
def u9(p:WP d v):∀R,az R->R.flatten.length<=4000->∀t h,∃b,∀N,3*d+8<=N->GAt v R t h N b:=by
 induction p with
 | @leaf d v hv =>
  intro R g Y t h;obtain⟨b,a⟩:=IH hv R g Y t h;refine⟨b,λN J=>?_⟩;obtain⟨n,rfl⟩:=upN 6 J;exact a n
 | @one d v k r hk hv ih =>
  intro R g Y t h;obtain⟨b,a⟩:=ih (bhd k R r) (cA g r) (wh (i4 k R r) Y) (!k) k;refine⟨(h==k)&&(t==k)&&b,λN J=>?_⟩;obtain⟨n,rfl⟩:=upN 6 J;exact AD g k r t h (a (n+3) (by omega))
 | @cases d rows hl hq hr ih =>
  intro R g Y t h;by_cases e:t=h
  .subst e;refine⟨false,λN J=>?_⟩;obtain⟨n,rfl⟩:=upN 3 J;exact oj n _ _ t
  .obtain rfl:t=!h:=by cases t<;>cases h<;>simp_all
   obtain⟨b,hb⟩:=AF λr U=>ih r U (bh2 h R r.1 r.2.1) (ti g _ _) (wh (tj h R _ _) Y) (!h) h
   refine⟨(if h=true then !decide ([]∈R)else !decide (ae R=[]))&&(decide (rows.map (·.1)=ae R)&&rows.all b),λN J=>?_⟩;obtain⟨n,rfl⟩:=upN 7 J;exact wl g Y h hl λr U=>hb r U (n+4) (by omega)
 | @parts d rows hl hs a2 hg hr ih =>
  intro R g Y t h;have key:∀r,∃b,r∈rows->∀N,3*d+8<=N->GAt r.2 r.1 false true N b:=λr=>by
   by_cases U:r∈rows
   .obtain⟨b,a⟩:=ih r U r.1 (hg r U).1 (wh (hg r U).2 (by decide)) false true;exact⟨b,λ_=>a⟩
   .exact⟨false,λz=>absurd z U⟩
  obtain⟨b,hb⟩:=LB key;refine⟨h&&!t&&(lw (rows.map (·.1)) R&&rows.all b),λN J=>?_⟩;obtain⟨n,rfl⟩:=upN 7 J;exact wm g Y hl hs (wh a2 (by decide)) (λr U=>⟨(hg r U).1,wh (hg r U).2 (by decide)⟩) t h λr U=>hb r U (n+4) (by omega)
 | @fewer d v A Z fA hv ih =>
  intro R g Y t h;obtain⟨b,a⟩:=ih A Z fA t false;refine⟨!h&&below A R&&b,λN J=>?_⟩;obtain⟨n,rfl⟩:=upN 6 J;exact wk Z g t h (a (n+4) (by omega))
 | @either d v w A B Z gB fA fB hv hw ih a3 =>
  intro R g Y t h;obtain⟨x,a⟩:=ih A Z fA false false;obtain⟨y,c⟩:=a3 B gB fB false false;refine⟨!h&&t&&(decide (ae A++ae B).Nodup&&below A R&&below B R&&(x&&y)),λN J=>?_⟩;obtain⟨n,rfl⟩:=upN 7 J;exact s_ Z gB g fA fB t h (a (n+4) (by omega)) (c (n+4) (by omega))
def FAt(v:PV)(R:LL)(h:Bool)(N:Nat)(r:Option Int)(z:LL)(J:PV):Prop:=aa defs N 30 [.val v,.val (ofR R),.val (.str (af h))]=some (.tup [aZ r,ofR z,J])/\aa defs N 64 [.val v,.val (ofR R),.val (.str (af h))]=some (.tup [aZ r,ofR z,J])
def Gc (n) (R) (h):FAt (.tup [.str "bare"]) R h (n+1) none R (.tup [.str "bare"]):=by
 constructor
 .rw[ac rfl rfl];exact ax rfl (au rfl (au rfl (au rfl (cH rfl))))
 .rw[ac rfl rfl];exact au rfl (au rfl (au rfl (cH rfl)))
def CW (n) (R) (h):FAt (.tup [.str "whole"]) R h (n+1) none R (.tup [.str "whole"]):=by
 constructor
 .rw[ac rfl rfl];exact ax rfl (au rfl (au rfl (au rfl (cH rfl))))
 .rw[ac rfl rfl];exact au rfl (au rfl (au rfl (cH rfl)))
def AO (n) (R) (g:az R) (h):FAt (.tup [.str "weight"]) R h (n+4) (g8 R) (bhd h R (g8 R)) (.tup [.str "weight"]):=by
 have z:=wt n R g;have J:=q8 (n+1) R g;generalize g8 R=r at z J ⊢;have U:=g7 n R g h r;have Y:=eX (n+1) R g h r;constructor
 .rw[ac rfl rfl];cases r<;>exact ax rfl (au rfl (xy rfl (bn (ab rfl z) (jv (bN (aA rfl (aA (ab rfl U) (aA rfl rfl))))))))
 .rw[ac rfl rfl];cases r<;>exact au rfl (xy rfl (bn (ab rfl J) (jv (bN (aA rfl (aA (ab rfl Y) (aA rfl rfl)))))))
def CY {A R z:LL} (e:FAt v A h N r z J):FAt (.tup [.str "fewer",ofR A,v]) R h (N+1) r z J:=by
 constructor
 .rw[ac rfl rfl];exact ax rfl (bz rfl (ab rfl e.1))
 .rw[ac rfl rfl];exact au rfl (au rfl (bz rfl (ab rfl e.2)))
def tru{x:Option PV}(h:x=some (.bl a))(h':x=some (.bl b)):a=b:=by simp_all
theorem wu :∀{R:LL},(∀t∈R,t.length<=m)->R.flatten.length<=R.length*m
 | [],_=>by simp
 |t::R,h=>by
  have h1:=h t (.head _);have h2:=wu (R:=R) λt z=>h t (.tail _ z)
  rw[flatten_cons,tr,length_cons,Nat.succ_mul];omega
def StP(x:LL×PV):Prop:=az x.1/\x.1.flatten.length<=4000/\WP 10 x.2
def ir{α:Type}{P:α->Prop}{xs:List α}{x:α}(h:∀y∈xs,P y)(hx:P x):∀y∈xs++[x],P y:=λy J=>by
 rcases Lu.mp J with z|z
 .exact h y z
 .rw[Ke.mp z];exact hx
noncomputable abbrev fS(R:LL)(t h:Bool)(a0 a3 a4 a5 a6 a7 a9 z J:Option MV)(fs Z:List (LL×PV))(U Y:Option MV):Rho:=[a0,sv (.str (af t)),sv (.str (af h)),a3,a4,a5,a6,a7,sv (ofR R),a9,some (.own (fs.map al)),some (.own (Z.map al)),sv (.lst ((Z.map (·.1)).flatten.map ofS)),U,Y,z,J]
def tH(cal)(C:kK cal)(R)(g:SmR R)(t h)(a0 a3 a4 a5 a6 a7 a9 U Y)(Q)(Z:SmR Q)(fs J)(cl cr)(hf:fs.length<=100)(ok:∀x∈fs,StP x)(a1:∀x∈J,SmR x.1/\WP 5 x.2)(hr:J.length<=100)(hh:(J.map (·.1)).flatten.length<=100) :
  ∃fs' ao cu,exs cal dG (put (fS R t h a0 a3 a4 a5 a6 a7 a9 U Y fs J cl cr) 13 (.val (ofR Q)))=.next (fS R t h a0 a3 a4 a5 a6 a7 a9 U Y fs' ao (sv (ofR Q)) cu)/\fs'.length<=fs.length+2/\(∀x∈fs',StP x)/\(∀x∈ao,SmR x.1/\WP 5 x.2)/\(ao=J\/∃v,ao=J++[(Q,v)]):=by
 have hc:∀W,evA cal [.bor 13] W=some [.val (ofR Q)]->ev cal (.cmp .lt (.blt .len [(.call 48 [.bor 13])]) (ci 5)) W=some (.bl (decide ((((ae Q).map PV.int).length:Int)<5))):=λW hA=>(bP (aH (ab hA (C.hol Q Z))) (de _ _ _)).trans rfl
 by_cases q:(((ae Q).map PV.int).length:Int)<5
 .rw[J1 q]at hc;rw[pd]at q;obtain⟨w,v,cL,e1⟩:=C.tried Q t Z (by omega);obtain⟨w2,v2,cS,e2⟩:=C.tried Q false Z (by omega);have p1:=cL.wp;have p2:=cS.wp;have sR:StP (R,.tup [.str "fewer",ofR Q,v]):=⟨g.1,wh g.2.2 (by decide),(WP.fewer Q Z.1 (wh Z.2.2 (by decide)) p1).le (by decide)⟩;have sQ:StP (Q,v):=⟨Z.1,wh Z.2.2 (by decide),p1.le (by decide)⟩;have a2:∀xs:List (LL×PV),xs.length<=101->(xs.map al).length<10000:=λxs hx=>by rw[pd];omega
  have s2:∃f1,f1.length<=fs.length+1/\(∀x∈f1,StP x)/\ex cal (.ite (.and (.cmp .eq (ix 14 0) (.bor 2)) (.cmp .eq (.bor 2) (cs "weaver"))) [.append 10 (.tup [.var 8,(.tup [(cs "fewer"),.var 13,(ix 14 1)])])] []) (fS R t h a0 a3 a4 a5 a6 a7 a9 U Y fs J (sv (ofR Q)) (sv (.tup [.str (af w),v])))=.next (fS R t h a0 a3 a4 a5 a6 a7 a9 U Y f1 J (sv (ofR Q)) (sv (.tup [.str (af w),v]))):=by
   by_cases z:w=false/\h=false
   .obtain⟨rfl,rfl⟩:=z;refine⟨fs++[(R,.tup [.str "fewer",ofR Q,v])],by rw[tr,length_singleton];omega,ir ok sR,(aK (p:=true) rfl).trans ?_⟩;unfold fS;rw[Ka];exact b6 (jw rfl rfl (a2 fs (by omega)))
   .exact⟨fs,by omega,ok,(aK (p:=false) (by cases w<;>cases h<;>first|rfl|exact absurd ⟨rfl,rfl⟩ z)).trans rfl⟩
  obtain⟨f1,l1,k1,s2⟩:=s2;have s3:∃f2,f2.length<=fs.length+2/\(∀x∈f2,StP x)/\ex cal (.ite (.cmp .eq (ix 14 0) (.bor 2)) [.append 10 (.tup [.var 13,(ix 14 1)])] []) (fS R t h a0 a3 a4 a5 a6 a7 a9 U Y f1 J (sv (ofR Q)) (sv (.tup [.str (af w),v])))=.next (fS R t h a0 a3 a4 a5 a6 a7 a9 U Y f2 J (sv (ofR Q)) (sv (.tup [.str (af w),v]))):=by
   by_cases z:w=h
   .subst z;refine⟨f1++[(Q,v)],by rw[tr,length_singleton];omega,ir k1 sQ,(aK (p:=true) (by cases w<;>rfl)).trans ?_⟩;unfold fS;rw[Ka];exact b6 (jw rfl rfl (a2 f1 (by omega)))
   .exact⟨f1,by omega,k1,(aK (p:=false) (by cases w<;>cases h<;>first|rfl|exact absurd rfl z)).trans rfl⟩
  obtain⟨f2,l2,k2,s3⟩:=s3;have ci:∀W,evA cal [.bor 13,cs "weaver"] W=some [.val (ofR Q),.val (.str (af false))]->∀i,ev cal (.idx (.call 52 [.bor 13,(cs "weaver")]) (ci i)) W=fF (.tup [.str (af w2),v2]) (.int i):=λW hA i=>dg (ab hA e2) rfl
  cases w2 with
  |false =>
   refine⟨f2,J,_,b6 ((aK (hc _ rfl)).trans (bn (ab rfl e1) (dL s2 (dL s3 (b6 ((aK (p:=false) ((bP ((ci _ rfl 0).trans rfl) rfl).trans rfl)).trans rfl)))))),l2,k2,a1,.inl rfl⟩
  |true =>
   refine⟨f2,J++[(Q,v2)],sv (.tup [.str (af w),v]),b6 ((aK (hc _ rfl)).trans (bn (ab rfl e1) (dL s2 (dL s3 (b6 ((aK (p:=true) ((bP ((ci _ rfl 0).trans rfl) rfl).trans rfl)).trans ?_)))))),l2,k2,ir a1 ⟨Z,p2⟩,.inr ⟨v2,rfl⟩⟩;unfold fS;rw[Ka,Ka,MU,Ka];refine dL (jw rfl (bN (aA rfl (aA ((ci _ rfl 1).trans rfl) rfl))) (a2 J (by omega))) (bn ((cv rfl rfl).trans ?_) rfl);show(if _ then _ else _)=_;rw[if_pos (by have:=Z.2.1;simp only[pd];omega)];simp
 .rw[J5 q]at hc;exact⟨fs,J,_,b6 ((aK (hc _ rfl)).trans rfl),by omega,ok,a1,.inl rfl⟩
def Ge(h:evXs cal xs W=some (vs,l))(z:vs.length<=10000):ex cal (.ownX i xs) W=.next (put l i (.own vs)):=by
 rw[ex,h];exact if_pos z
theorem lV(cal)(C:kK cal)(R)(g:SmR R)(t h)(a0 a3 a4 a5 a6 a7 a9 Y Z):∀D fs U z J,(∀Q∈D,SmR Q)->fs.length+2*D.length<=100->(∀x∈fs,StP x)->(∀x∈U,SmR x.1/\WP 5 x.2)->U.length+D.length<=50->(U.map (·.1)).flatten.length+D.flatten.length<=50 ->
  ∃fs' ao b5 aO,aq (λx l=>exs cal dG (put l 13 (.val x))) (D.map ofR) (fS R t h a0 a3 a4 a5 a6 a7 a9 Y Z fs U z J)=.next (fS R t h a0 a3 a4 a5 a6 a7 a9 Y Z fs' ao b5 aO)/\fs'.length<=100/\(∀x∈fs',StP x)/\(∀x∈ao,SmR x.1/\WP 5 x.2)/\(ao.map (·.1)).Sublist (U.map (·.1)++D)
 | [],fs,U,z,J,_,hf,ok,a1,_,_=>⟨fs,U,z,J,rfl,by simpa using hf,ok,a1,by simp⟩
 |Q::D,fs,U,z,J,hD,hf,ok,a1,hr,hh=>by
  rw[length_cons]at hf hr;rw[flatten_cons,tr]at hh;obtain⟨f1,r1,aO,e,l1,k1,kr,q⟩:=tH cal C R g t h a0 a3 a4 a5 a6 a7 a9 Y Z Q (hD Q (.head _)) fs U z J (by omega) ok a1 (by omega) (by omega);have b:r1.length+D.length<=50/\(r1.map (·.1)).flatten.length+D.flatten.length<=50/\(r1.map (·.1)++D).Sublist (U.map (·.1)++Q::D):=by
   rcases q with rfl|⟨v,rfl⟩
   .exact⟨by omega,by omega,(Sublist.refl _).append (sublist_cons_self Q D)⟩
   .refine⟨by rw[tr,length_singleton];omega,?_,?_⟩
    .rw[Ka,MU,tr];simp;simp at hh;omega
    .rw[Ka,Kn];exact Sublist.refl _
  obtain⟨f2,r2,cd,ck,e2,l2,k2,cl,sl⟩:=lV cal C R g t h a0 a3 a4 a5 a6 a7 a9 Y Z D f1 r1 (sv (ofR Q)) aO (λq hq=>hD q (.tail _ hq)) (by omega) k1 kr b.1 b.2.1;refine⟨f2,r2,cd,ck,?_,l2,k2,cl,sl.trans b.2.2⟩;rw[JW,aq,e];exact e2
def oE{α:Type}{A B:List (List α)}(h:A.Sublist B):A.flatten.Sublist B.flatten:=by
 induction h with
 |slnil=>exact .slnil
 |cons a _ ih=>exact ih.trans (sublist_append_right _ _)
 |cons_cons a _ ih=>exact(Sublist.refl a).append ih
noncomputable abbrev f9(ns:List Int)(t h:Bool)(z J room:Int)(cells:List Int)(S:List PV)(R:LL)(p:List Int)(r:Rho):Rho:=some (.brw (ns.map .int))::sv (.str (af t))::sv (.str (af h))::sv (.int z)::sv (.int J)::sv (.int room)::sv (ofL cells)::sv (.lst S)::sv (ofR R)::some (.ownD (.p p))::r
def AQ(ns:List Int)(hl:ns.length<=63)(t h):∃xs:List (LL×PV),aa defs 79 63 [.brw (ns.map .int),.val (.str (af t)),.val (.str (af h))]=some (.lst (xs.map al))/\xs.length<=102/\∀x∈xs,StP x:=by
 have w0:0<=gU (cellOf ns 0) 1865811235122147685:=ij _ _;have b0:0<=gU (cellOf ns 1) 1442695040888963407:=ij _ _;have e1:=qZ 76 ns 0 1865811235122147685 (by decide);have e2:=qZ 76 ns 1 1442695040888963407 (by decide);generalize gU (cellOf ns 0) 1865811235122147685=U at w0 e1;generalize gU (cellOf ns 1) 1442695040888963407=J at b0 e2;obtain⟨room,r0,r1,e3⟩:∃room,0<=room/\room<=8/\∀a0 a1 a2 W,ev (aa defs 78) (.idx (.lst [(ci 3),(ci 8)]) (.bin .mod (.bor 3) (ci 2))) (a0::a1::a2::sv (.int U)::W)=some (.int room):=by
  have e:∀a0 a1 a2 W,ev (aa defs 78) (.idx (.lst [(ci 3),(ci 8)]) (.bin .mod (.bor 3) (ci 2))) (a0::a1::a2::sv (.int U)::W)=fF (.lst [.int 3,.int 8]) (.int (U % 2)):=λ_ _ _ W=>dg rfl ((cv rfl rfl).trans rfl)
  obtain q|q:U % 2=0\/U % 2=1:=by omega
  .exact⟨3,by decide,by decide,λ_ _ _ W=>(e _ _ _ W).trans (by rw[q];rfl)⟩
  .exact⟨8,by decide,by decide,λ_ _ _ W=>(e _ _ _ W).trans (by rw[q];rfl)⟩
 have hc:=Ak ns (a:=2) (b:=2+room) (by decide) (by omega);have e4:∀a1 a2 a3 a4 W,ev (aa defs 78) (.slice (.bor 0) (ci 2) (.bin .add (ci 2) (.bor 5))) (some (.brw (ns.map .int))::a1::a2::a3::a4::sv (.int room)::W)=some (ofL (qP ns (some 2) (some (2+room)))):=λ_ _ _ _ W=>by
  show some (PV.lst (cut (ns.map .int) (some 2) (some (2+room))))=_;rw[sM]
 generalize qP ns (some 2) (some (2+room))=cells at hc e4;have e8:cells.length<=8:=by omega
 have m1:=Lb J (b:=49) (by decide);have m2:=K7 J (b:=49) (by decide);have key:∀c,∃s,(ce s/\s.length<=4)/\aa defs 78 53 [.val (.int c),.val (.int (J % 49)),.val (.int (3+J / 49 % 2)),.val (.int (J / 98 % 3))]=some (ofS s):=λc=>CS 76 c _ _ _ m1 (by omega) (by omega) (by omega) (by omega) (by omega)
 obtain⟨f,hf⟩:=LB key;have gS:∀t∈sortT (cells.map f),ce t/\t.length<=4:=λt ht=>by
  obtain⟨c,_,rfl⟩:=mem_map.mp (je.mp ht);exact(hf c).1
 have hL:(sortT (cells.map f)).length=cells.length:=by rw[sortT_len,pd]
 have g:SmR (sortT (cells.map f)):=by
  have:=wu (R:=sortT (cells.map f)) (m:=4) λt ht=>(gS t ht).2
  exact⟨⟨λt ht=>(gS t ht).1,sortT_rises _,by omega⟩,by omega,by omega⟩
 have e5:∀a0 a1 a2 a3 a5 W,ev (aa defs 78) (.comp .seq [.bor 6] [4] (.cst (.bl true)) (.call 53 [.bor 0,(.bin .mod (.bor 1) (ci 49)),(.bin .add (ci 3) (.bin .mod (.bin .fdiv (.bor 1) (ci 49)) (ci 2))),(.bin .mod (.bin .fdiv (.bor 1) (ci 98)) (ci 3))])) (a0::a1::a2::a3::sv (.int J)::a5::sv (ofL cells)::W)=some (.lst ((cells.map f).map ofS)):=λ_ _ _ _ _ W=>by
  rw[J2];exact cq (vs:=[ofL cells]) (g:=PV.int) (h:=ofS∘f) rfl rfl (by omega) λc _=>ab rfl (hf c).2
 have e6:∀a0 a1 a2 a3 a4 a5 a6 W,ev (aa defs 78) (.blt .tupleOf [(.blt .sorted [.bor 7])]) (a0::a1::a2::a3::a4::a5::a6::sv (.lst ((cells.map f).map ofS))::W)=some (ofR (sortT (cells.map f))):=λ_ _ _ _ _ _ _ W=>by
  refine(aH (v:=.lst ((sortT (cells.map f)).map ofS)) ?_).trans rfl;rw[aH (v:=.lst ((cells.map f).map ofS)) rfl,dS,fM,bind_some,dR (by rw[pd];omega)]
 generalize sortT (cells.map f)=R at g e6;generalize (cells.map f).map ofS=S at e5 e6;obtain⟨v,n1,dr,hv⟩:=rb 3 61 (qP ns (some (2+room)) none).reverse R t h g;have e7:∀a1 a2 a3 a4 W,ev (aa defs 78) (.slice (.bor 0) (.bin .add (ci 2) (.bor 5)) (.cst .non)) (some (.brw (ns.map .int))::a1::a2::a3::a4::sv (.int room)::W)=some (.lst ((qP ns (some (2+room)) none).map .int)):=λ_ _ _ _ W=>by
  rw[<- sM];rfl
 have C:=ly 72;obtain⟨D,eD,d1,d2,d3,gD⟩:=C.split R g;obtain⟨fs,rs,b2,b3,eL,l1,k1,kr,sl⟩:=lV (aa defs 78) C R g t h (some (.brw (ns.map .int))) (sv (.int U)) (sv (.int J)) (sv (.int room)) (sv (ofL cells)) (sv (.lst S)) (some (.ownD (.p n1))) none none D [(R,v)] [] none none gD (by simp;omega) (λx hx=>by rw[Ke.mp hx];exact⟨g.1,wh g.2.2 (by decide),hv⟩) (λx hx=>by cases hx) (by simp;omega) (by simp;simp at d2;omega);rw[map_nil,nil_append]at sl;have hF:=(oE sl).length_le;have dV:=(oE (oE sl)).length_le;have fx:rs.length<=8:=by have:=sl.length_le;rw[pd]at this;omega
 have hP:WP 6 (.tup [.str "parts",.tup (rs.map al)]):=.parts rs (by omega) (by omega) (by omega) (λr hr=>⟨(kr r hr).1.1,wh (kr r hr).1.2.2 (by decide)⟩) λr hr=>(kr r hr).2
 have gF:∀s∈(rs.map (·.1)).flatten,ce s:=λs hs=>by
  obtain⟨G,hG,hs⟩:=mem_flatten.mp hs;obtain⟨r,hr,rfl⟩:=mem_map.mp hG;exact(kr r hr).1.1.1 s hs
 have eb:∃Z,WP 7 Z/\∀a0 a3 a4 a5 a6 a7 a8 a9 cL cP ao cS c0 c1,ex (aa defs 78) (.ite (.and (.cmp .eq (.bor 2) (cs "moth")) (.cmp .eq (.bor 1) (cs "moth"))) [.set 15 (.tup [(cs "bite"),.cst .non,.var 15])] []) [a0,sv (.str (af t)),sv (.str (af h)),a3,a4,a5,a6,a7,a8,a9,cL,cP,ao,cS,c0,sv (.tup [.str "parts",.tup (rs.map al)]),c1]=.next [a0,sv (.str (af t)),sv (.str (af h)),a3,a4,a5,a6,a7,a8,a9,cL,cP,ao,cS,c0,sv Z,c1]:=by
  by_cases z:h=true/\t=true
  .obtain⟨rfl,rfl⟩:=z;exact⟨_,.one true none (λx e=>by cases e) hP,λ_ _ _ _ _ _ _ _ _ _ _ _ _ _=>(aK (p:=true) rfl).trans (bn rfl rfl)⟩
  .exact⟨_,hP.le (by decide),λ_ _ _ _ _ _ _ _ _ _ _ _ _ _=>(aK (p:=false) (by cases h<;>cases t<;>first|rfl|exact absurd ⟨rfl,rfl⟩ z)).trans rfl⟩
 obtain⟨Z,c2,eP⟩:=eb;generalize ec:(rs.map (·.1)).flatten=F at hF dV gF;have F8:F.length<=8:=by omega
 have fA:F.flatten.length<=60:=by omega
 have so:∀G W e,G.length<64->ev (aa defs 78) e W=some (.lst (G.map ofS))->ev (aa defs 78) (.blt .tupleOf [(.blt .sorted [e])]) W=some (ofR (sortT G)):=λG W e hG he=>by
  refine(aH (v:=.lst ((sortT G).map ofS)) ?_).trans rfl;rw[aH he,dS,fM,bind_some,dR hG]
 have c3:∀xs:List (LL×PV),xs.length<=101->(xs.map al).length<10000:=λxs hx=>by rw[pd];omega
 have sF:StP (sortT F,Z):=⟨jQ gF (by omega),by rw[jR];omega,c2.le (by decide)⟩;have cl:∀{X},aS (exs (aa defs 78) [.ite (.cmp .eq (.bor 2) (cs "moth")) [.append 10 (.tup [(.blt .tupleOf [(.blt .sorted [.bor 12])]),.var 15])] [],.ite (.and (.cmp .eq (.bor 2) (cs "moth")) (.cmp .gt (.blt .len [.bor 12]) (ci 0))) [.set 16 (.blt .tupleOf [(.blt .sortedSet [(.bin .add (.blt .listOf [(ix 12 0)]) (.lst [(.bin .mod (.bor 4) (ci 60))]))])]),.append 10 (.tup [(.blt .tupleOf [(.blt .sorted [(.bin .add (.bor 12) (.lst [.var 16]))])]),.var 15])] [],.retOwn 10] (f9 ns t h U J room cells S R n1 [some (.own (fs.map al)),some (.own (rs.map al)),sv (.lst (F.map ofS)),b2,b3,sv Z,none]))=X->aa defs 79 63 [.brw (ns.map .int),.val (.str (af t)),.val (.str (af h))]=X:=λ{X} hX=>by
  rw[ac (d:=dH) rfl rfl];rw[<- ec]at hX;have q1:∀{Y},aS (exs (aa defs 78) (dH.body.drop 11) (fS R t h (some (.brw (ns.map .int))) (sv (.int U)) (sv (.int J)) (sv (.int room)) (sv (ofL cells)) (sv (.lst S)) (some (.ownD (.p n1))) none none fs rs b2 b3))=Y->aS (exs (aa defs 78) (dH.body.drop 10) (fS R t h (some (.brw (ns.map .int))) (sv (.int U)) (sv (.int J)) (sv (.int room)) (sv (ofL cells)) (sv (.lst S)) (some (.ownD (.p n1))) none none [(R,v)] [] none none))=Y:=λ{Y} hY=>by
   refine cx (m:=.for1 13 .seq [(.call 57 [.bor 8])] dG) ?_ hY;rw[dJ (xs:=D.map ofR) (xz (ab rfl eD))];show MM.R.back _ _ (aq _ _ (fS R t h (some (.brw (ns.map .int))) (sv (.int U)) (sv (.int J)) (sv (.int room)) (sv (ofL cells)) (sv (.lst S)) (some (.ownD (.p n1))) none none [(R,v)] [] none none))=_;rw[eL]
   rfl
  have q2:aS (exs (aa defs 78) (dH.body.drop 11) (fS R t h (some (.brw (ns.map .int))) (sv (.int U)) (sv (.int J)) (sv (.int room)) (sv (ofL cells)) (sv (.lst S)) (some (.ownD (.p n1))) none none fs rs b2 b3))=X:=ax (v:=.tup [.str "parts",.tup (rs.map al)]) rfl (cx (eP _ _ _ _ _ _ _ _ _ _ _ _ _ _) hX);have q3:=q1 q2;have c4:evXs (aa defs 78) [(.tup [(.pure (.var 8)),(.call 62 [true,false,false,false,false] [.bor 9,.bor 8,.bor 1,.bor 2,(ci 3)])])] (f9 ns t h U J room cells S R (qP ns (some (2+room)) none).reverse [none,none,none,none,none,none,none])=some ([al (R,v)],(f9 ns t h U J room cells S R n1 [none,none,none,none,none,none,none])):=fV (jS (cI rfl (fV (xcO rfl rfl rfl rfl rfl dr))));refine ax (e1 _) (ax (e2 _) (ax (e3 _ _ _ _) (ax (e4 _ _ _ _ _) (ax (e5 _ _ _ _ _ _) (ax (e6 _ _ _ _ _ _ _ _) (cx (F9 (e7 _ _ _ _ _)) (cx (Ge c4 (Nat.le_of_ble_eq_true rfl)) ?_)))))));exact cx (m:=.setOwn 11 (.lst [])) rfl (ax (v:=.lst []) rfl q3)
 cases h with
 |false=>exact⟨fs,cl (au rfl (au rfl rfl)),by omega,k1⟩
 |true =>
  have s1:∀ao,exs (aa defs 78) [.append 10 (.tup [(.blt .tupleOf [(.blt .sorted [.bor 12])]),.var 15])] (f9 ns t true U J room cells S R n1 [some (.own (fs.map al)),some (.own (rs.map al)),sv (.lst (F.map ofS)),b2,b3,sv Z,ao])=.next (f9 ns t true U J room cells S R n1 [some (.own ((fs++[(sortT F,Z)]).map al)),some (.own (rs.map al)),sv (.lst (F.map ofS)),b2,b3,sv Z,ao]):=λao=>by
   rw[Ka];exact b6 (jw rfl (bN (aA (so F _ _ (by omega) rfl) (aA rfl rfl))) (c3 fs (by omega)))
  cases F with
  |nil =>
   exact⟨fs++[(sortT [],Z)],cl (cx ((aK (p:=true) rfl).trans (s1 none)) (au rfl rfl)),by rw[tr,length_singleton];omega,ir k1 sF⟩
  |cons s F =>
   have gs:=gF s (.head _);have m0:=Lb J (b:=60) (by decide);have m9:=K7 J (b:=60) (by decide);have eH:=aJ gs;have ed:(dd (s++[J % 60])).length<=(s++[J % 60]).length:=gY _;rw[tr,length_singleton]at ed;have gl:ce (sortI (dd (s++[J % 60]))):=⟨nO (dd_nodup _),λx hx=>by
    rcases Lu.mp (iT.mp (jd.mp hx))with z|z
    .exact gs.2 x z
    .rw[Ke.mp z];omega⟩
   have ll:(sortI (dd (s++[J % 60]))).length<=61:=by rw[sortI_len];omega
   have el:∀W,ev (aa defs 78) (.bor 12) W=some (.lst ((s::F).map ofS))->ev (aa defs 78) (.bor 4) W=some (.int J)->ev (aa defs 78) (.blt .tupleOf [(.blt .sortedSet [(.bin .add (.blt .listOf [(ix 12 0)]) (.lst [(.bin .mod (.bor 4) (ci 60))]))])]) W=some (ofS (sortI (dd (s++[J % 60])))):=λW ee h4=>by
    have i0:ev (aa defs 78) (ix 12 0) W=some (ofS s):=by
     rw[dg ee (de _ _ _),Aj,fm (by decide) (by rw[pd,length_cons];omega)]
     rfl
    have i1:ev (aa defs 78) (.lst [(.bin .mod (.bor 4) (ci 60))]) W=some (.lst [.int (J % 60)]):=by
     rw[ev,aA ((cv h4 (de _ _ _)).trans rfl) rfl]
     rfl
    have i2:ev (aa defs 78) (.bin .add (.blt .listOf [(ix 12 0)]) (.lst [(.bin .mod (.bor 4) (ci 60))])) W=some (.lst ((s++[J % 60]).map .int)):=by
     rw[cv ((aH i0).trans rfl) i1,Ka];exact if_pos (by rw[pd,length_singleton];omega)
    refine(aH (v:=.lst ((sortI (dd (s++[J % 60]))).map .int)) ?_).trans rfl;rw[aH i2,oU,fM,bind_some,bt,bind_some,if_pos ⟨by rw[tr,length_singleton];omega,by omega⟩]
   have ef:∀W,ev (aa defs 78) (.bor 12) W=some (.lst ((s::F).map ofS))->ev (aa defs 78) (.cmp .gt (.blt .len [.bor 12]) (ci 0)) W=some (.bl true):=λW h=>by
    rw[bP (aH h) (de _ _ _)];show some (PV.bl (decide ((0:Int)<(((s::F).map ofS).length:Nat))))=_;rw[J1 (by rw[pd,length_cons];omega)]
   have ad:∀W,ev (aa defs 78) (.bor 12) W=some (.lst ((s::F).map ofS))->ev (aa defs 78) (.var 16) W=some (ofS (sortI (dd (s++[J % 60]))))->ev (aa defs 78) (.bin .add (.bor 12) (.lst [.var 16])) W=some (.lst (((s::F)++[sortI (dd (s++[J % 60]))]).map ofS)):=λW h h'=>by
    rw[cv h (y:=.lst [ofS (sortI (dd (s++[J % 60])))]) (by rw[ev,aA h' rfl];rfl),Ka];exact if_pos (by rw[pd,length_singleton];omega)
   have gG:=ir gF gl;have sG:StP (sortT ((s::F)++[sortI (dd (s++[J % 60]))]),Z):=⟨jQ gG (by rw[tr,length_singleton];omega),by rw[jR,MU,tr,flatten_singleton];omega,c2.le (by decide)⟩;refine⟨(fs++[(sortT (s::F),Z)])++[(sortT ((s::F)++[sortI (dd (s++[J % 60]))]),Z)],cl (cx ((aK (p:=true) rfl).trans (s1 none)) (cx ((aK (p:=true) (db (p:=true) (q:=true) rfl λ_=>ef _ rfl)).trans (bn (el _ rfl rfl) (b6 (jw rfl (bN (aA (so ((s::F)++[sortI (dd (s++[J % 60]))]) _ _ (by rw[tr,length_singleton];omega) ?_) (aA rfl rfl))) (c3 (fs++[(sortT (s::F),Z)]) (by rw[tr,length_singleton];omega)))))) ?_)),by simp only[tr,length_singleton];omega,ir (ir k1 sF) sG⟩
   .exact ad _ rfl rfl
   .rw[Ka (l₂:=[(sortT ((s::F)++[sortI (dd (s++[J % 60]))]),Z)])]
    rfl
noncomputable def bQ(R:LL)(h:Int):Option Int:=(R.find? λt=>decide (h∈t)).map λt=>t.getD 0 0+t.getD 1 0-h
def Gg(n:Nat)(v:PV)(R:LL)(h:Int)(hv:bg v=some (R.map ofS))(Y:OkP R):aa defs (n+1) 17 [.val v,.val (.int h)]=some (aZ (bQ R h)):=by
 rw[ac (d:=Al) rfl rfl]
 suffices hh:∀(P:LL),OkP P->∀J y,∃y',aq (λz l=>exs (aa defs n) iU (put l 2 (.val z))) (P.map ofS) [J,sv (.int h),y]=match bQ P h with|some z=>.ret (.int z)|none=>.next [J,sv (.int h),y']by
  obtain⟨y,e⟩:=hh R Y (sv v) none;have sc:(evs (aa defs n) [.bor 0] [sv v,sv (.int h),none]).bind (bm .seq)=some (R.map ofS):=hv;cases hm:bQ R h with
  |some z=>rw[hm]at e;exact Kf aS (qY (xs:=R.map ofS) sc e)
  |none=>rw[hm]at e;exact Kf aS (jz (xs:=R.map ofS) sc e (jv rfl))
 intro P
 induction P with
 |nil=>exact λ_ J y=>⟨y,rfl⟩
 |cons t P ih =>
  intro Y J y;obtain⟨a,b,rfl,_⟩:=Y t (.head _);obtain⟨y',e⟩:=ih (λu hu=>Y u (.tail _ hu)) J (sv (ofS [a,b]));refine⟨y',?_⟩;rw[JW,aq];have m1:∀q:Bool,decide (h∈[a,b])=q->bQ ([a,b]::P) h=if q=true then some (a+b-h)else bQ P h:=λq hq=>by
   unfold bQ;rw[find?_cons,hq];cases q<;>rfl
  have U:ev (aa defs n) (.cmp .eq (ix 2 0) (.bor 1)) [J,sv (.int h),sv (ofS [a,b])]=some (.bl (a==h)):=(bP (x:=.int a) (y:=.int h) rfl rfl).trans rfl;have Z:ev (aa defs n) (.cmp .eq (ix 2 1) (.bor 1)) [J,sv (.int h),sv (ofS [a,b])]=some (.bl (b==h)):=(bP (x:=.int b) (y:=.int h) rfl rfl).trans rfl;by_cases ea:a=h
  .rw[J0.mpr ea]at U;rw[show exs (aa defs n) iU (put [J,sv (.int h),y] 2 (.val (ofS [a,b])))=.ret (.int b)from pY U rfl,m1 true (J1 (by rw[ea];exact .head _)),if_pos rfl,show a+b-h=b by omega]
  .rw[Kx.mpr ea]at U;by_cases eb:b=h
   .rw[J0.mpr eb]at Z;rw[show exs (aa defs n) iU (put [J,sv (.int h),y] 2 (.val (ofS [a,b])))=.ret (.int a)from oW U (pY Z rfl),m1 true (J1 (by rw[eb];exact .tail _ (.head _))),if_pos rfl,show a+b-h=a by omega]
   .rw[Kx.mpr eb]at Z;rw[show exs (aa defs n) iU (put [J,sv (.int h),y] 2 (.val (ofS [a,b])))=.next [J,sv (.int h),sv (ofS [a,b])]from oW U (oW Z rfl),m1 false (J5 λz=>by
     rcases JY.mp z with z|z
     .exact ea z.symm
     .exact eb (Ke.mp z).symm),if_neg (by decide)]
    exact e
def AAt(v:PV)(R:LL)(h:Bool)(N:Nat)(x:Int)(r:Option Int)(z:LL)(J:PV):Prop:=aa defs N 31 [.val v,.val (ofR R),.val (.str (af h)),.val (.int x)]=some (.tup [aZ r,ofR z,J])
def Gh (n) (R) (h) (x):AAt (.tup [.str "bare"]) R h (n+1) x none R (.tup [.str "bare"]):=rfl
def AR (n) (R) (g:az R) (h) (x):AAt (.tup [.str "weight"]) R h (n+5) x (g8 (bhd (!h) R (some x))) (bh2 h R x (g8 (bhd (!h) R (some x)))) (.tup [.str "weight"]):=by
 unfold AAt;have z:=wt (n+1) (bhd (!h) R (some x)) (cA g _);have J:=g7 (n+1) R g (!h) (some x);have U:=mD (n+3) h;generalize g8 (bhd _ R _)=r at z ⊢;have Y:=kI n R g h x r;cases r<;>exact ax rfl (xy rfl (bn (ab (eI (ab (kH rfl (eI (ab rfl U) rfl)) J) rfl) z) (jv (bN (aA rfl (aA (ab rfl Y) (aA rfl rfl)))))))
def CZ (n) (R P) (g:az R) (J:OkP P) (h) (x):AAt (.tup [.str "pairs",ofR P]) R h (n+5) x (bQ P x) (bh2 h R x (bQ P x)) (.tup [.str "pairs",ofR P]):=by
 unfold AAt;rw[ac rfl rfl];have z:=Gg (n+3) (ofR P) P x rfl J;generalize bQ P x=r at z ⊢;have U:=kI n R g h x r;cases r<;>exact ax rfl (au rfl (xy rfl (bn (ab (bX rfl rfl) z) (jv (bN (aA rfl (aA (ab rfl U) (aA rfl rfl))))))))
theorem tI(cal)(J)(x):∀(z:List (Int×Option Int×PV)) y,∃U,aq (λv l=>exs cal eT (put l 2 (.val v))) (z.map aT) [J,sv (.int x),y]=match z.find? λr=>decide (r.1=x)with
  |some r=>.ret (aT r)
  |none=>.next [J,sv (.int x),U]
 | [],y=>⟨y,rfl⟩
 |r::z,y=>by
  obtain⟨U,e⟩:=tI cal J x z (sv (aT r));refine⟨U,?_⟩;rw[JW,aq];have c:ev cal (.cmp .eq (ix 2 0) (.bor 1)) [J,sv (.int x),sv (aT r)]=some (.bl (r.1==x)):=(bP (x:=.int r.1) (y:=.int x) rfl rfl).trans (by rw[z6,jc];rfl);rw[find?_cons];by_cases q:r.1=x
  .rw[J0.mpr q]at c;rw[show exs cal eT (put [J,sv (.int x),y] 2 (.val (aT r)))=.ret (aT r)from pY c rfl,J1 q]
  .rw[Kx.mpr q]at c;rw[show exs cal eT (put [J,sv (.int x),y] 2 (.val (aT r)))=.next [J,sv (.int x),sv (aT r)]from oW c rfl,J5 q];exact e
def Dz(n)(z:List (Int×Option Int×PV))(x):aa defs (n+1) 32 [.val (.tup (z.map aT)),.val (.int x)]=some (((z.find? λr=>decide (r.1=x)).map aT).getD .non):=by
 rw[ac (d:=nX) rfl rfl];obtain⟨y,e⟩:=tI (aa defs n) (sv (.tup (z.map aT))) x z none;cases hf:z.find? λr=>decide (r.1=x)with
 |some r =>
  rw[hf]at e;exact Kf aS (qY (xs:=z.map aT) rfl e)
 |none =>
  rw[hf]at e;exact Kf aS (jz (xs:=z.map aT) rfl e (jv rfl))
def wv (n) (R) (g:az R) (z:List (Int×Option Int×PV)) (x):AAt (.tup [.str "cases",.tup (z.map aT)]) R true (n+6) x (((z.find? λr=>decide (r.1=x)).map λr=>r.2.1).getD none) (((z.find? λr=>decide (r.1=x)).map λr=>bh2 true R r.1 r.2.1).getD R) (((z.find? λr=>decide (r.1=x)).map λr=>r.2.2).getD (.tup [.str "cases",.tup (z.map aT)])):=by
 unfold AAt;rw[ac (d:=iX) rfl rfl];refine ax rfl (au rfl (au rfl (bz rfl (ab rfl ?_))));rw[ac (d:=dE) rfl rfl];have J:=Dz (n+3) z x;cases hf:z.find? λr=>decide (r.1=x)with
 |none =>
  rw[hf]at J;exact ax (ab (bX rfl rfl) J) (bz rfl rfl)
 |some r =>
  rw[hf]at J;have U:=kI n R g true r.1 r.2.1;have J:aa defs (n+4) 32 [.val (.tup (z.map aT)),.val (.int x)]=some (.tup [.int r.1,aZ r.2.1,r.2.2]):=J;show _=some (PV.tup [aZ r.2.1,ofR (bh2 true R r.1 r.2.1),r.2.2]);generalize r.2.1=a at J U ⊢;cases a<;>exact ax (ab (bX rfl rfl) J) (au rfl (au rfl (cH (bN (aA rfl (aA (ab (kH rfl (kH rfl (bX rfl (bX rfl rfl)))) U) (aA rfl rfl)))))))
theorem jT(n)(Y)(x)(f:LL×PV->Option Int×LL×PV):∀(J:List (LL×PV)) Z ks x5 x6 x7,(∀r∈J,az r.1/\r.1.flatten.length<=4000)->(∀r∈J,x∈ae r.1->AAt r.2 r.1 true (n+2) x (f r).1 (f r).2.1 (f r).2.2)->ks.length+J.length<=100 ->
  ∃y5 y6 y7,aq (λz l=>bZ (cE [5,6] z l) λU=>exs (aa defs (n+2)) b9 U) (J.map al) [Y,sv (.str "moth"),sv (.int x),sv (aZ Z),some (.own (ks.map al)),x5,x6,x7]=.next [Y,sv (.str "moth"),sv (.int x),sv (aZ (J.foldl (λa r=>if x∈ae r.1 then(f r).1 else a) Z)),some (.own ((ks++J.map λr=>if x∈ae r.1 then(f r).2 else r).map al)),y5,y6,y7]
 | [],Z,ks,x5,x6,x7,_,_,_=>⟨x5,x6,x7,by simp[aq]⟩
 |r::J,Z,ks,x5,x6,x7,hg,hf,hl=>by
  rw[length_cons]at hl;have eh:ev (aa defs (n+2)) (.cmp .isIn (.bor 2) (.call 5 [.bor 5])) [Y,sv (.str "moth"),sv (.int x),sv (aZ Z),some (.own (ks.map al)),sv (ofR r.1),sv r.2,x7]=some (.bl (decide (x∈ae r.1))):=by
   rw[bP (x:=.int x) rfl (ab rfl (cw n r.1 (hg r (.head _)).1.1 (hg r (.head _)).2))];show Option.map PV.bl (isIn _ _)=_;rw[aU]
   rfl
  have a6:(ks.map al).length<10000:=by rw[pd];omega
  rw[JW,aq,foldl_cons];by_cases q:x∈ae r.1
  .rw[J1 q]at eh;have ea:=hf r (.head _) q;have st:(bZ (cE [5,6] (al r) [Y,sv (.str "moth"),sv (.int x),sv (aZ Z),some (.own (ks.map al)),x5,x6,x7]) λU=>exs (aa defs (n+2)) b9 U)=.next [Y,sv (.str "moth"),sv (.int x),sv (aZ (f r).1),some (.own ((ks++[(f r).2]).map al)),sv (ofR r.1),sv r.2,sv (.tup [aZ (f r).1,ofR (f r).2.1,(f r).2.2])]:=by
    rw[Ka];exact b6 ((aK eh).trans (bn (ab rfl ea) (bn rfl (b6 (jw rfl rfl a6)))))
   rw[st,if_pos q];obtain⟨y5,y6,y7,e⟩:=jT n Y x f J (f r).1 (ks++[(f r).2]) (sv (ofR r.1)) (sv r.2) (sv (.tup [aZ (f r).1,ofR (f r).2.1,(f r).2.2])) (λy hy=>hg y (.tail _ hy)) (λy hy=>hf y (.tail _ hy)) (by rw[tr,length_singleton];omega);refine⟨y5,y6,y7,e.trans ?_⟩
   simp_all
  .rw[J5 q]at eh;have st:(bZ (cE [5,6] (al r) [Y,sv (.str "moth"),sv (.int x),sv (aZ Z),some (.own (ks.map al)),x5,x6,x7]) λU=>exs (aa defs (n+2)) b9 U)=.next [Y,sv (.str "moth"),sv (.int x),sv (aZ Z),some (.own ((ks++[r]).map al)),sv (ofR r.1),sv r.2,x7]:=by
    rw[Ka];exact b6 ((aK eh).trans (b6 (jw rfl rfl a6)))
   rw[st,if_neg q];obtain⟨y5,y6,y7,e⟩:=jT n Y x f J Z (ks++[r]) (sv (ofR r.1)) (sv r.2) x7 (λy hy=>hg y (.tail _ hy)) (λy hy=>hf y (.tail _ hy)) (by rw[tr,length_singleton];omega);refine⟨y5,y6,y7,e.trans ?_⟩
   simp_all
def Gi(h:ev cal (.comp k s js c e) W=some v)(q:evA cal es W=some vs):evA cal (.comp k s js c e::es) W=some (.val v::vs):=by simp_all [evA]
noncomputable def bo(x:Int)(f:LL×PV->Option Int×LL×PV)(z:List (LL×PV)):List (LL×PV):=z.map λr=>if x∈ae r.1 then(f r).2 else r
noncomputable def jf(x:Int)(f:LL×PV->Option Int×LL×PV)(z:List (LL×PV)):Option Int:=z.foldl (λa r=>if x∈ae r.1 then(f r).1 else a) none
def C0(n)(R)(x)(f)(z)(hl:z.length<=16)(hg:∀r∈z,az r.1/\r.1.flatten.length<=4000)(hf:∀r∈z,x∈ae r.1->AAt r.2 r.1 true (n+2) x (f r).1 (f r).2.1 (f r).2.2)(hs:((bo x f z).map (·.1)).flatten.length<=60) :
  AAt (.tup [.str "parts",.tup (z.map al)]) R true (n+4) x (jf x f z) (sortT ((bo x f z).map (·.1)).flatten) (.tup [.str "parts",.tup ((bo x f z).map al)]):=by
 unfold AAt;rw[ac (d:=iX) rfl rfl];refine ax rfl (au rfl (au rfl (au rfl (bz rfl (ab (bX rfl rfl) ?_)))));rw[ac (d:=fN) rfl rfl];obtain⟨J,U,Y,e⟩:=jT n (sv (.tup (z.map al))) x f z none [] none none none hg hf (by simp;omega);rw[nil_append]at e;have hk:(bo x f z).length=z.length:=pd _;have et:=tm n ((bo x f z).map (·.1)) (by omega);have c0:∀Z,ev (aa defs (n+2)) (.comp .seq [.bor 4] [] (.cst (.bl true)) (ix 0 0)) [sv (.tup (z.map al)),sv (.str "moth"),sv (.int x),Z,some (.own ((bo x f z).map al)),J,U,Y]=some (.lst (((bo x f z).map (·.1)).map ofR)):=λZ=>by
  rw[J2];exact cq (vs:=[.lst ((bo x f z).map al)]) (xs:=bo x f z) (g:=al) rfl rfl (by omega) λr _=>rfl
 refine ax (v:=.non) rfl (cx (cT (xs:=[]) rfl) (cx (l:=[sv (.tup (z.map al)),sv (.str "moth"),sv (.int x),sv (aZ (jf x f z)),some (.own ((bo x f z).map al)),J,U,Y]) ?_ (cH (bN (aA ?_ (aA (ab (Gi (c0 _) rfl) et) (aA rfl rfl)))))))
 .rw[mC rfl];show MM.R.back _ _ (aq _ _ [sv (.tup _),sv (.str "moth"),sv _,sv (aZ none),some (.own ([].map al)),none,none,none])=_;rw[e]
  rfl
 .cases jf x f z<;>rfl
def AS {z:List (Int×Option Int×PV)} (Z:z.length<=10000) (hr:∀r∈z,WP d r.2.2) {R:LL} (g:az R) (U:R.flatten.length<=4000) {t:Bool} (G:GAt (.tup [.str "cases",.tup (z.map aT)]) R t false (3*(d+1)+8) true):t=true/\ae R≠[]/\z.map (·.1)=ae R/\∀r∈z,∀N,3*d+8<=N->GAt r.2.2 (bh2 false R r.1 r.2.1) true false N true:=by
 cases t with
 |false=>cases tru (oj (3*(d+1)+5) _ _ false) G
 |true =>
  obtain⟨b,Y⟩:=AF λr J=>u9 (hr r J) (bh2 false R r.1 r.2.1) (ti g _ _) (wh (tj false R _ _) U) true false
  have e:=tru (wl (n:=3*d+4) g U false Z λr J=>Y r J _ (by omega)) G;have e:(!decide (ae R=[])&&(decide (z.map (·.1)=ae R)&&z.all b))=true:=e;simp only[mu,J6,KL,decide_eq_false_iff_not]at e;obtain⟨e1,e2,e3⟩:=e;exact⟨rfl,e1,e2,λr J N hN=>(Y r J N hN).trans (by rw[L1.mp e3 r J])⟩
def F1(v:PV)(R:LL)(N:Nat)(r:Option Int)(z:LL)(J:PV):Prop:=aa defs N 30 [.val v,.val (ofR R),.val (.str (af false))]=some (.tup [aZ r,ofR z,J])
def C1 (n) (R) (h) (x):AAt (.tup [.str "whole"]) R h (n+1) x none R (.tup [.str "whole"]):=rfl
def C2 {A R z:LL} (e:AAt v A h N x r z J):AAt (.tup [.str "fewer",ofR A,v]) R h (N+1) x r z J:=by
 unfold AAt;rw[ac rfl rfl];exact ax rfl (au rfl (au rfl (au rfl (au rfl (bz rfl (ab rfl e))))))
def tJ {A B R z:LL} (U:az A) (Y:A.flatten.length<=4000) (e:if x∈ae A then F1 w B (n+2) r z J else F1 v A (n+2) r z J):AAt (.tup [.str "either",ofR A,v,ofR B,w]) R false (n+4) x r z J:=by
 unfold AAt;rw[ac (d:=iX) rfl rfl];refine ax rfl (au rfl (au rfl (au rfl (au rfl (au rfl (bz rfl (ab rfl ?_)))))));rw[ac (d:=fq) rfl rfl];have c:ev (aa defs (n+2)) (.cmp .isIn (.bor 2) (.call 5 [(ix 0 1)])) [sv (.tup [.str "either",ofR A,v,ofR B,w]),sv (.str (af false)),sv (.int x)]=some (.bl (decide (x∈ae A))):=by
  rw[bP (x:=.int x) rfl (ab (bX rfl rfl) (cw n A U.1 Y))];show Option.map PV.bl (isIn _ _)=_;rw[aU]
  rfl
 by_cases q:x∈ae A
 .rw[J1 q]at c;rw[if_pos q]at e;exact bz c (ab rfl e)
 .rw[J5 q]at c;rw[if_neg q]at e;exact au c (cH (ab rfl e))
def tK (n) (R) (g:az R) {z:List (Int×Option Int×PV)} (Y:z.find? (λr=>decide (r.1=x))=some q\/z.find? (λr=>decide (r.1=x))=none/\z.head?=some q):AAt (.tup [.str "cases",.tup (z.map aT)]) R false (n+6) x q.2.1 (bh2 false R q.1 q.2.1) q.2.2:=by
 unfold AAt;rw[ac (d:=iX) rfl rfl];refine ax rfl (au rfl (au rfl (bz rfl (ab rfl ?_))));rw[ac (d:=dE) rfl rfl];have U:=Dz (n+3) z x;have e2:=kI n R g false q.1 q.2.1;have J:∀{W},W=[sv (.tup [.str "cases",.tup (z.map aT)]),sv (ofR R),sv (.str (af false)),sv (.int x),sv (aT q)]->aS (exs (aa defs (n+4)) [.ret (.tup [(ix 4 1),(.call 10 [.bor 1,.bor 2,(ix 4 0),(ix 4 1)]),(ix 4 2)])] W)=some (PV.tup [aZ q.2.1,ofR (bh2 false R q.1 q.2.1),q.2.2]):=λ{W} h=>by
  subst h;exact cH (bN (aA rfl (aA (ab (kH rfl (kH rfl (bX rfl (bX rfl rfl)))) e2) (aA rfl rfl))))
 rcases Y with Y|⟨hn,Z⟩
 .rw[Y]at U;exact ax (ab (bX rfl rfl) U) (au rfl (au rfl (J rfl)))
 .rw[hn]at U;cases z with
  |nil=>cases Z
  |cons r z =>
   cases Z;refine ax (ab (bX rfl rfl) U) (au rfl (cx ((aK (p:=true) rfl).trans (bn (v:=aT q) ((dg (x:=.tup ((q::z).map aT)) rfl rfl).trans ?_) rfl)) (J rfl)));rw[Dt,fm (by decide) (by rw[pd,length_cons];omega)]
   rfl
theorem tL :∀{xs},(∀x∈xs,eqF n x x=some true)->eqL (eqF n) xs xs=some true
 | [],_=>rfl
 |x::xs,h=>by
  rw[eqL,h x (.head _),tL λy z=>h y (.tail _ z)]
  rfl
def cB(h:∀x∈xs,eqF n x x=some true):eqF (n+1) (.tup xs) (.tup xs)=some true:=tL h
def gm(n)(k):eqF n (.str k) (.str k)=some true:=by simp
def fW(n)(R):eqF (n+2) (ofR R) (ofR R)=some true:=by rw[Ik,J1 rfl]
def u_(n)(r):eqF n (aZ r) (aZ r)=some true:=by
 cases r with
 |none=>cases n<;>rfl
 |some x=>rw[show aZ _=.int x from rfl,jc,K5]
def jU{P:PV->Prop}{a:PV}(h:P a):∀x∈[a],P x:=λx hx=>by rw[Ke.mp hx];exact h
def iu{P:PV->Prop}{a:PV}{l:List PV}(h:P a)(k:∀x∈l,P x):∀x∈a::l,P x:=by simp_all
def eN(p:WP d v):∀n,3*d+4<=n->eqF n v v=some true:=by
 induction p with
 | @leaf d v hv =>
  intro n z;obtain⟨n,rfl⟩:∃m,n=m+3:=⟨n-3,by omega⟩;rcases hv with rfl|rfl|rfl|⟨P,_,_,rfl⟩
  .exact cB (jU (gm _ _))
  .exact cB (jU (gm _ _))
  .exact cB (jU (gm _ _))
  .exact cB (iu (gm _ _) (jU (fW n P)))
 | @one d v k r hk hv ih =>
  intro n z;obtain⟨n,rfl⟩:∃m,n=m+1:=⟨n-1,by omega⟩;exact cB (iu (gm _ _) (iu (u_ _ _) (jU (ih n (by omega)))))
 | @cases d rows Y hq Z ih =>
  intro n z;obtain⟨n,rfl⟩:∃m,n=m+3:=⟨n-3,by omega⟩;refine cB (iu (gm _ _) (jU (cB λx hx=>?_)));obtain⟨r,J,rfl⟩:=mem_map.mp hx;exact cB (iu (by rw[jc,K5]) (iu (u_ _ _) (jU (ih r J n (by omega)))))
 | @parts d rows Y hs ao hg Z ih =>
  intro n z;obtain⟨n,rfl⟩:∃m,n=m+5:=⟨n-5,by omega⟩;refine cB (iu (gm _ _) (jU (cB λx hx=>?_)));obtain⟨r,J,rfl⟩:=mem_map.mp hx;exact cB (iu (fW n r.1) (jU (ih r J (n+2) (by omega))))
 | @fewer d v A gA fA hv ih =>
  intro n z;obtain⟨n,rfl⟩:∃m,n=m+3:=⟨n-3,by omega⟩;exact cB (iu (gm _ _) (iu (fW n A) (jU (ih (n+2) (by omega)))))
 | @either d v w A B gA gB fA fB hv hw ih U =>
  intro n z;obtain⟨n,rfl⟩:∃m,n=m+3:=⟨n-3,by omega⟩;exact cB (iu (gm _ _) (iu (fW n A) (iu (ih (n+2) (by omega)) (iu (fW n B) (jU (U (n+2) (by omega)))))))
def LAt(v:PV)(R:LL)(h:Bool)(N:Nat)(x:Int)(r:Option Int)(z:LL)(J:PV):Prop:=aa defs N 68 [.val v,.val (ofR R),.val (.str (af h)),.val (.int x)]=some (.tup [aZ r,ofR z,J])
def C3 (n) (R) (h) (x):LAt (.tup [.str "bare"]) R h (n+1) x none R (.tup [.str "bare"]):=rfl
def AT (n) (R) (h) (x):LAt (.tup [.str "whole"]) R h (n+1) x none R (.tup [.str "whole"]):=rfl
def xH (n) (R) (g:az R) (h) (x):LAt (.tup [.str "weight"]) R h (n+3) x (g8 (bhd (!h) R (some x))) (bh2 h R x (g8 (bhd (!h) R (some x)))) (.tup [.str "weight"]):=by
 have J:=eX n R g (!h) (some x);have z:=q8 n (bhd (!h) R (some x)) (cA g _);generalize g8 (bhd _ R _)=r at z ⊢;have U:=eX n (bhd (!h) R (some x)) (cA g _) h r;unfold LAt;rw[ac rfl rfl];cases h<;>cases r<;>exact ax rfl (au rfl (au rfl (au rfl (au rfl (au rfl (ax (ab rfl J) (ax (ab rfl z) (au rfl (cH (bN (aA rfl (aA (ab rfl U) (aA rfl rfl)))))))))))))
def C4(n)(P)(x)(U:OkP P):aa defs (n+1) 65 [.val (ofR P),.val (.int x)]=some (aZ (bQ P x)):=by
 rw[ac (d:=n0) rfl rfl]
 suffices h:∀P,OkP P->∀J y,∃Y,aq (λv l=>exs (aa defs n) eV (put l 2 (.val v))) (P.map ofS) [J,sv (.int x),y]=match bQ P x with|some z=>.ret (.int z)|none=>.next [J,sv (.int x),Y]by
  obtain⟨y,e⟩:=h P U (sv (ofR P)) none;cases hm:bQ P x<;>first|(rw[hm]at e;exact Kf aS (qY (xs:=P.map ofS) rfl e))|(rw[hm]at e;exact Kf aS (jz (xs:=P.map ofS) rfl e (jv rfl)))
 intro P
 induction P with
 |nil=>exact λ_ J y=>⟨y,rfl⟩
 |cons t P ih =>
  intro U J y;obtain⟨a,b,rfl,_⟩:=U t (.head _);obtain⟨Y,e⟩:=ih (λu Z=>U u (.tail _ Z)) J (sv (ofS [a,b]));refine⟨Y,?_⟩;rw[JW,aq];have c:ev (aa defs n) (.cmp .isIn (.bor 1) (.bor 2)) [J,sv (.int x),sv (ofS [a,b])]=some (.bl (decide (x∈[a,b]))):=AA (aU x [a,b]) rfl rfl;by_cases q:x∈[a,b]
  .rw[J1 q]at c;rw[show exs (aa defs n) eV (put [J,sv (.int x),y] 2 (.val (ofS [a,b])))=.ret (.int (a+b-x))from pY c rfl,show bQ ([a,b]::P) x=some (a+b-x)from by unfold bQ;rw[find?_cons,J1 q];rfl]
  .rw[J5 q]at c;rw[show exs (aa defs n) eV (put [J,sv (.int x),y] 2 (.val _))=.next [J,sv _,sv _]from oW c rfl,show bQ _ x=bQ P x from by unfold bQ;rw[find?_cons,J5 q]];exact e
def AU (n) (R P) (g:az R) (J:OkP P) (h) (x):LAt (.tup [.str "pairs",ofR P]) R h (n+3) x (bQ P x) (bh2 h R x (bQ P x)) (.tup [.str "pairs",ofR P]):=by
 have U:=eX n R g (!h) (some x);have Y:=q8 n (bhd (!h) R (some x)) (cA g _);have z:=C4 (n+1) P x J;generalize bQ P x=r at z ⊢;have Z:=eX n (bhd (!h) R (some x)) (cA g _) h r;unfold LAt;rw[ac rfl rfl];cases h<;>cases r<;>exact ax rfl (au rfl (au rfl (au rfl (au rfl (au rfl (ax (ab rfl U) (ax (ab rfl Y) (cx ((aK (p:=true) rfl).trans (bn (ab (bX rfl rfl) z) rfl)) (cH (bN (aA rfl (aA (ab rfl Z) (aA rfl rfl)))))))))))))
theorem AV(x):∀{z:List (Int×Option Int×PV)}{q},z.find? (λr=>decide (r.1=x))=some q->z[(z.map (·.1)).idxOf x]?=some q/\x∈z.map (·.1)
 |r::z,q,h=>by
  rw[find?_cons]at h;by_cases e:r.1=x
  .simp_all
  .rw[J5 e]at h;obtain⟨h1,h2⟩:=AV x h;rw[JW,idxOf_cons,Kx.mpr e];exact⟨h1,.tail _ h2⟩
def AW{J:List (Int×Option Int×PV)}(h:J.find? (λr=>decide (r.1=x))=none):x∉J.map (·.1):=λz=>by
 obtain⟨r,U,rfl⟩:=mem_map.mp z;have:=Ms.mp h r U;simp at this
def oF(cal)(z:List (Int×Option Int×PV))(J:z.length<=10000)(W):ev cal (.comp .seq [.bor 0] [] (.cst (.bl true)) (ix 0 0)) (sv (.tup (z.map aT))::W)=some (ofL (z.map (·.1))):=by
 unfold ofL;rw[J2];exact cq (vs:=[.tup (z.map aT)]) (g:=aT) rfl rfl J λr _=>rfl
def oY (n) (R) {z:List (Int×Option Int×PV)} (J:z.length<=10000) (h:z.find? (λr=>decide (r.1=x))=none):LAt (.tup [.str "cases",.tup (z.map aT)]) R true (n+2) x none R (.tup [.str "cases",.tup (z.map aT)]):=by
 unfold LAt;rw[ac rfl rfl];refine ax rfl (au rfl (au rfl (bz rfl (ab (bX rfl rfl) ?_))));have c:∀U Y Z a4 a6,ev (aa defs n) (.cmp .notIn (.bor 3) (.bor 5)) [U,Y,Z,sv _,a4,sv (ofL (z.map _)),a6]=some _:=λ_ _ _ _ _=>by
  show Option.map PV.bl (Option.map (λb=>!b) (isIn _ _))=_;rw[aU,J5 (AW h)]
  rfl
 exact ax (v:=.str _) rfl (ax (oF _ z J _) (bz (db (c _ _ _ _ _) λ_=>rfl) rfl))
def tM (n) (R) (g:az R) {J:List (Int×Option Int×PV)} (hl:J.length<=10000) (h) (hq:J.find? (λr=>decide (r.1=x))=some q\/h=false/\J.find? (λr=>decide (r.1=x))=none/\J.head?=some q):LAt (.tup [.str "cases",.tup (J.map aT)]) R h (n+4) x q.2.1 (bh2 h R q.1 q.2.1) q.2.2:=by
 unfold LAt;rw[ac (d:=eW) rfl rfl];refine ax rfl (au rfl (au rfl (bz rfl (ab (bX rfl rfl) ?_))));rw[ac (d:=iZ) rfl rfl];have e1:=eX n R g (!h) (some q.1);have e2:=eX n (bhd (!h) R (some q.1)) (cA g _) h q.2.1;have ne:J≠[]:=λz=>by
  subst z;rcases hq with z|⟨_,_,z⟩<;>cases z
 have i0:∀(k:Nat) {r},J[k]?=some r->fF (.tup (J.map aT)) (.int k)=some (aT r):=λk r hr=>by
  have hk:=(JZ.mp hr).1;rw[Dt,fm (by omega) (by rw[pd];omega),bind_some,Int.toNat_natCast,J9,hr]
  rfl
 have o1:∀W,ev (aa defs (n+2)) (.disp [("weaver","moth"),("moth","weaver")] (.bor 2)) (sv (.tup (J.map aT))::sv (ofR R)::sv (.str (af h))::W)=some (.str (af (!h))):=λW=>by cases h<;>rfl
 have Y:∀a0 a1 a2 a4 a6,ev (aa defs (n+2)) (.cmp .notIn (.bor 3) (.bor 5)) [a0,a1,a2,sv (.int x),a4,sv (ofL (J.map (·.1))),a6]=some (.bl (!decide (x∈J.map (·.1)))):=λ_ _ _ _ _=>by
  rw[bP (x:=.int x) (y:=ofL (J.map (·.1))) rfl rfl];show Option.map PV.bl (Option.map (λb=>!b) (isIn _ _))=_;rw[aU]
  rfl
 have U:∀a0 a1 a2 a4 a6,ev (aa defs (n+2)) (.cmp .isIn (.bor 3) (.bor 5)) [a0,a1,a2,sv (.int x),a4,sv (ofL (J.map (·.1))),a6]=some (.bl (decide (x∈J.map (·.1)))):=λ_ _ _ _ _=>by
  rw[bP (x:=.int x) (y:=ofL (J.map (·.1))) rfl rfl];show Option.map PV.bl (isIn _ _)=_;rw[aU]
  rfl
 have Z:∀a5,aS (exs (aa defs (n+2)) [.ret (.tup [(ix 6 1),(.call 55 [(.call 55 [.bor 1,.bor 4,(ix 6 0)]),.bor 2,(ix 6 1)]),(ix 6 2)])] [sv (.tup (J.map aT)),sv (ofR R),sv (.str (af h)),sv (.int x),sv (.str (af (!h))),a5,sv (aT q)])=some (.tup [aZ q.2.1,ofR (bh2 h R q.1 q.2.1),q.2.2]):=λ_=>cH (bN (aA rfl (aA (ab (eI (ab (kH rfl (kH rfl (bX rfl rfl))) e1) (kH rfl (bX rfl rfl))) e2) (aA rfl rfl))))
 obtain⟨r0,h0⟩:∃r0,J[0]?=some r0:=by
  cases J with
  |nil=>exact absurd rfl ne
  |cons r _=>exact⟨r,rfl⟩
 have g0:=i0 0 h0;rcases hq with hq|⟨rfl,hq,hh⟩
 .obtain⟨h1,h2⟩:=AV x hq;have kin:=hl;have ix:∀a0 a1 a2 a4 a6,ev (aa defs (n+2)) (.indexOf 5 (.bor 3)) [a0,a1,a2,sv (.int x),a4,sv (ofL (J.map (·.1))),a6]=some (.int ((J.map (·.1)).idxOf x:Nat)):=λ_ _ _ _ _=>by
   show((bf ((J.map (·.1)).map PV.int)).bind λns=>if x∈ns/\ns.length<=10000 then some (PV.int (ns.idxOf x:Nat))else none)=_;rw[bt,bind_some,if_pos ⟨h2,by rw[pd];omega⟩]
  rw[J1 h2]at Y U;exact ax (o1 _) (ax (oF _ J hl _) (au (db (p:=false) (q:=false) (Y _ _ _ _ _) λz=>by cases z) (ax ((dg (x:=.tup (J.map aT)) rfl (de _ _ _)).trans g0) (cx ((aK (U _ _ _ _ _)).trans (bn ((dg (x:=.tup (J.map aT)) rfl (ix _ _ _ _ _)).trans (i0 _ h1)) rfl)) (Z _)))))
 .have h2:=AW hq;rw[J5 h2]at Y U;have:r0=q:=by
   cases J<;>simp_all
  subst this;exact ax (o1 _) (ax (oF _ J hl _) (au (db (p:=true) (q:=false) (Y _ _ _ _ _) λ_=>rfl) (ax ((dg (x:=.tup (J.map aT)) rfl (de _ _ _)).trans g0) (au (U _ _ _ _ _) (Z _)))))
def AX {A R z:LL} (e:LAt v A h N x r z J):LAt (.tup [.str "fewer",ofR A,v]) R h (N+1) x r z J:=by
 unfold LAt;rw[ac rfl rfl];exact ax rfl (au rfl (au rfl (au rfl (bz rfl (ab rfl e)))))
def p5 {A B R z:LL} (U:az A) (e:if x∈ae A then FAt w B false (n+2) r z J else FAt v A false (n+2) r z J):LAt (.tup [.str "either",ofR A,v,ofR B,w]) R false (n+3) x r z J:=by
 unfold LAt;rw[ac (d:=eW) rfl rfl];have c:∀Y Z a6,ev (aa defs (n+2)) (.cmp .isIn (.bor 3) (.call 48 [(ix 0 1)])) [sv (.tup [.str "either",ofR A,v,ofR B,w]),sv (ofR R),sv (.str (af false)),sv (.int x),Y,Z,a6]=some (.bl (decide _)):=λ_ _ _=>by
  rw[bP rfl (ab (bX rfl rfl) (ip _ A U.1))];show Option.map PV.bl (isIn _ _)=_;rw[aU]
  rfl
 by_cases q:x∈ae A
 .rw[J1 q]at c;rw[if_pos q]at e;exact ax rfl (au rfl (au rfl (au rfl (au rfl (xy rfl (pY (c _ _ _) (ab rfl e.2)))))))
 .rw[J5 q]at c;rw[if_neg q]at e;exact ax rfl (au rfl (au rfl (au rfl (au rfl (xy rfl (oW (c _ _ _) (jv (ab rfl e.2))))))))
def ww(h)(R)(r):(bhd h R r).length<=R.length:=by
 cases r with
 |none=>exact pb _
 |some k =>
  cases h<;>first|exact LA _ _|(exact Lj (by show(sortT _).length=_;rw[sortT_len,pd]))
def rg(h)(R)(x)(r):(bh2 h R x r).length<=R.length:=wh (ww _ _ _) (ww _ _ _)
noncomputable abbrev f36(z:Option MV)(x:Int)(ks:List (LL×PV))(J:Option Int)(ss:LL)(U Y Z:Option MV):Rho:=[z,sv (.int x),some (.own (ks.map al)),sv (aZ J),sv (.lst (ss.map ofS)),U,Y,Z]
theorem rh(n)(U)(x)(f):∀J Y ks ss x5 x6 Z,(∀r∈J,az r.1)->(∀r∈J,x∈ae r.1->LAt r.2 r.1 true (n+1) x (f r).1 (f r).2.1 (f r).2.2)->ks.length+J.length<=100->ss.length+((bo x f J).map (·.1)).flatten.length<=60 ->
  ∃y5 y6 y7,aq (λz l=>exs (aa defs (n+1)) cR (put l 5 (.val z))) (J.map al) (f36 U x ks Y ss x5 x6 Z)=.next (f36 U x (ks++bo x f J) (J.foldl (λa r=>if x∈ae r.1 then(f r).1 else a) Y) (ss++((bo x f J).map (·.1)).flatten) y5 y6 y7)
 | [],Y,ks,ss,x5,x6,Z,_,_,_,_=>⟨x5,x6,Z,by simp[aq,bo]⟩
 |r::J,Y,ks,ss,x5,x6,Z,hg,hf,hl,hs=>by
  rw[length_cons]at hl;have kc:bo x f (r::J)=(if x∈ae r.1 then(f r).2 else r)::bo x f J:=rfl;rw[kc,JW,flatten_cons,tr]at hs;have eh:∀a6 a7,ev (aa defs (n+1)) (.cmp .isIn (.bor 1) (.call 48 [(ix 5 0)])) (f36 U x ks Y ss (sv (al r)) a6 a7)=some (.bl (decide (x∈ae r.1))):=λ_ _=>by
   rw[bP (x:=.int x) rfl (ab (bX rfl rfl) (ip n r.1 (hg r (.head _)).1))];show Option.map PV.bl (isIn _ _)=_;rw[aU]
   rfl
  have ba:(ks.map al).length<10000:=by rw[pd];omega
  have ad:∀k q a7,k.1.length<=60->exs (aa defs (n+1)) [.append 2 (.var 6),.set 4 (.bin .add (.bor 4) (.blt .listOf [(ix 6 0)]))] (f36 U x ks q ss (sv (al r)) (sv (al k)) a7)=.next (f36 U x (ks++[k]) q (ss++k.1) (sv (al r)) (sv (al k)) a7):=λk q a7 hk=>by
   unfold f36;rw[Ka,Ka];refine dL (jw (v:=al k) rfl rfl ba) (bn (v:=.lst (ss.map ofS++k.1.map ofS)) ?_ rfl);rw[cv (x:=.lst (ss.map ofS)) (y:=.lst (k.1.map ofS)) rfl rfl];exact if_pos (by rw[pd,pd];omega)
  rw[JW,aq,foldl_cons,kc,JW,flatten_cons];by_cases q:x∈ae r.1
  .rw[if_pos q]at hs ⊢;rw[if_pos q];rw[J1 q]at eh;have ea:=hf r (.head _) q;have st:exs (aa defs (n+1)) cR (put (f36 U x ks Y ss x5 x6 Z) 5 (.val (al r)))=.next (f36 U x (ks++[(f r).2]) (f r).1 (ss++(f r).2.1) (sv (al r)) (sv (al (f r).2)) (sv (.tup [aZ (f r).1,ofR (f r).2.1,(f r).2.2]))):=bn (v:=al r) rfl (dL ((aK (eh _ _)).trans (bn (ab (bX rfl (bX rfl rfl)) ea) (bn (v:=aZ (f r).1) rfl (bn (v:=al (f r).2) rfl rfl)))) (ad (f r).2 (f r).1 _ (by omega)));rw[st];obtain⟨y5,y6,y7,e⟩:=rh n U x f J (f r).1 (ks++[(f r).2]) (ss++(f r).2.1) (sv (al r)) (sv (al (f r).2)) (sv (.tup [aZ (f r).1,ofR (f r).2.1,(f r).2.2])) (λy hy=>hg y (.tail _ hy)) (λy hy=>hf y (.tail _ hy)) (by rw[tr,length_singleton];omega) (by rw[tr];omega);exact⟨y5,y6,y7,e.trans (by rw[Kn,Kn];rfl)⟩
  .rw[if_neg q]at hs ⊢;rw[if_neg q];rw[J5 q]at eh;have st:exs (aa defs (n+1)) cR (put (f36 U x ks Y ss x5 x6 Z) 5 (.val (al r)))=.next (f36 U x (ks++[r]) Y (ss++r.1) (sv (al r)) (sv (al r)) Z):=bn (v:=al r) rfl (dL ((aK (eh _ _)).trans rfl) (ad r Y _ (by omega)));rw[st];obtain⟨y5,y6,y7,e⟩:=rh n U x f J Y (ks++[r]) (ss++r.1) (sv (al r)) (sv (al r)) Z (λy hy=>hg y (.tail _ hy)) (λy hy=>hf y (.tail _ hy)) (by rw[tr,length_singleton];omega) (by rw[tr];omega);exact⟨y5,y6,y7,e.trans (by rw[Kn,Kn];rfl)⟩
def AY(n)(R)(x)(f)(z)(hl:z.length<=16)(J:∀r∈z,az r.1)(U:∀r∈z,x∈ae r.1->LAt r.2 r.1 true (n+1) x (f r).1 (f r).2.1 (f r).2.2)(hs:((bo x f z).map (·.1)).flatten.length<=60) :
  LAt (.tup [.str "parts",.tup (z.map al)]) R true (n+3) x (jf x f z) (sortT ((bo x f z).map (·.1)).flatten) (.tup [.str "parts",.tup ((bo x f z).map al)]):=by
 unfold LAt;rw[ac (d:=eW) rfl rfl];refine ax rfl (au rfl (bz rfl (ab (bX rfl rfl) ?_)));rw[ac (d:=iY) rfl rfl];obtain⟨y5,y6,y7,e⟩:=rh n (sv (.tup (z.map al))) x f z none [] [] none none none J U (by simp;omega) (by simpa using hs);rw[nil_append,nil_append]at e;have Y:∀W,ev (aa defs (n+1)) (.bor 4) W=some (.lst (((bo x f z).map (·.1)).flatten.map ofS))->ev (aa defs _) (.blt .tupleOf [(.blt .sorted [.bor 4])]) W=some (ofR (sortT ((bo x f z).map _).flatten)):=λW Z=>by
  refine(aH (v:=.lst ((sortT ((bo x f z).map _).flatten).map ofS)) ?_).trans rfl;rw[aH Z,dS,fM,bind_some,dR (by omega)]
 refine cx (cT rfl) (ax rfl (ax rfl ?_));refine Kf aS (jz rfl e (jv (bN (aA ?_ (aA (Y _ rfl) (aA rfl rfl))))));show vF (sv (aZ (jf x f z)))=_
 simp_all
def DA(p:WP d v):∀R,az R->∃r Z U,(∀N,d+4<=N->FAt v R false N r Z U)/\∀n,3*d+4<=n->eqF n U U=some true:=by
 have J:∀R w a N,1<=N->(w="pairs" \/ w="cases" \/ w="parts")->FAt (.tup [.str w,a]) R false N none R (.tup [.str w,a]):=λR w a N z hw=>by
  obtain⟨n,rfl⟩:∃n,N=n+1:=⟨N-1,by omega⟩;constructor
  .rw[ac (d:=mB) rfl rfl];rcases hw with rfl|rfl|rfl<;>exact ax rfl (au rfl (au rfl (au rfl (cH rfl))))
  .rw[ac (d:=fU) rfl rfl];rcases hw with rfl|rfl|rfl<;>exact au rfl (au rfl (au rfl (cH rfl)))
 have Y:∀R a b c d N,1<=N->FAt (.tup [.str "either",a,b,c,d]) R false N none R (.tup [.str "either",a,b,c,d]):=λR a b c d N z=>by
  obtain⟨n,rfl⟩:∃n,N=n+1:=⟨N-1,by omega⟩;constructor
  .rw[ac (d:=mB) rfl rfl];exact ax rfl (au rfl (au rfl (au rfl (cH rfl))))
  .rw[ac (d:=fU) rfl rfl];exact au rfl (au rfl (au rfl (cH rfl)))
 induction p with
 | @leaf d v hv =>
  intro R g;have w:WP d v:=.leaf hv;rcases hv with rfl|rfl|rfl|⟨P,h1,h2,rfl⟩
  .refine⟨none,R,_,λN z=>?_,eN w⟩;obtain⟨n,rfl⟩:=upN 1 z;exact Gc n R false
  .refine⟨none,R,_,λN z=>?_,eN w⟩;obtain⟨n,rfl⟩:=upN 1 z;exact CW n R false
  .refine⟨g8 R,bhd false R (g8 R),_,λN z=>?_,eN w⟩;obtain⟨n,rfl⟩:=upN 4 z;exact AO n R g false
  .exact⟨none,R,_,λN z=>J R _ _ N (by omega) (.inl rfl),eN w⟩
 | @one d v k r hk hv ih =>
  intro R g;refine⟨r,bhd false R r,v,λN z=>?_,λn hn=>eN hv n (by omega)⟩;obtain⟨n,rfl⟩:=upN 4 z;have e3:=g7 n R g false r;have e4:=eX (n+1) R g false r;constructor
  .rw[ac (d:=mB) rfl rfl];cases k<;>cases r<;>exact ax rfl (au rfl (au rfl (bz rfl (bN (aA rfl (aA (ab rfl e3) (aA rfl rfl)))))))
  .rw[ac (d:=fU) rfl rfl];cases k<;>cases r<;>exact bz rfl (bN (aA rfl (aA (ab rfl e4) (aA rfl rfl))))
 | @cases d rows hl hq hr ih=>exact λR g=>⟨none,R,_,λN z=>J R _ _ N (by omega) (.inr (.inl rfl)),eN (.cases rows hl hq hr)⟩
 | @parts d rows hl hs a0 hg hr ih=>exact λR g=>⟨none,R,_,λN z=>J R _ _ N (by omega) (.inr (.inr rfl)),eN (.parts rows hl hs a0 hg hr)⟩
 | @fewer d v A gA fA hv ih =>
  intro R g;obtain⟨r,Z,U,e,q⟩:=ih A gA;refine⟨r,Z,U,λN z=>?_,λn hn=>q n (by omega)⟩;obtain⟨n,rfl⟩:=upN 1 z;exact CY (e n (by omega))
 | @either d v w A B gA gB fA fB hv hw ih ba=>exact λR g=>⟨none,R,_,λN z=>Y R _ _ _ _ N (by omega),eN (.either A B gA gB fA fB hv hw)⟩
def JP(p:WP d v):∀R,az R->R.flatten.length<=4000->∀h,GAt v R (!h) h (3*d+8) true->∀x,
  ∃r R' Z,(∀N,3*d+8<=N->AAt v R h N x r R' Z/\LAt v R h N x r R' Z)/\(h=true->R'.length<=R.length)/\∀n,3*d+4<=n->eqF n Z Z=some true:=by
 induction p with
 | @leaf d v hv =>
  intro R g hf h G x;have w:WP d v:=.leaf hv;rcases hv with rfl|rfl|rfl|⟨P,h1,h2,rfl⟩
  .refine⟨none,R,_,λN U=>?_,λ_=>pb _,eN w⟩;obtain⟨n,rfl⟩:=upN 1 U;exact⟨Gh n R h x,C3 n R h x⟩
  .refine⟨none,R,_,λN U=>?_,λ_=>pb _,eN w⟩;obtain⟨n,rfl⟩:=upN 1 U;exact⟨C1 n R h x,AT n R h x⟩
  .refine⟨g8 (bhd (!h) R (some x)),bh2 h R x (g8 (bhd (!h) R (some x))),_,λN U=>?_,λ_=>rg h R x _,eN w⟩;obtain⟨n,rfl⟩:=upN 5 U;exact⟨AR n R g h x,xH (n+2) R g h x⟩
  .refine⟨bQ P x,bh2 h R x (bQ P x),_,λN U=>?_,λ_=>rg h R x _,eN w⟩;obtain⟨n,rfl⟩:=upN 5 U;exact⟨CZ n R P g h1 h x,AU (n+2) R P g h1 h x⟩
 | @one d v k r hk hv ih =>
  intro R g hf h G x;obtain⟨b,a⟩:=u9 hv (bhd k R r) (cA g r) (wh (i4 k R r) hf) (!k) k;have e:=tru (AD (n:=3*d+5) g k r (!h) h (a _ (by omega))) G;cases h<;>cases k<;>cases e
 | @cases d rows hl hq hr ih =>
  intro R g hf h G x;have w:WP (d+1) (.tup [.str "cases",.tup (rows.map aT)]):=.cases rows hl hq hr;cases hx:rows.find? λr=>decide (r.1=x)with
  |some q =>
   have J:=mem_of_find?_eq_some hx;refine⟨q.2.1,bh2 h R q.1 q.2.1,q.2.2,λN U=>?_,λ_=>rg h R _ _,λn hn=>eN (hr q J) n (by omega)⟩;obtain⟨n,rfl⟩:=upN 6 U;refine⟨?_,tM (n+2) R g hl h (.inl hx)⟩;cases h with
   |true =>
    have:=wv n R g rows x;rw[hx]at this;exact this
   |false=>exact tK n R g (.inl hx)
  |none =>
   cases h with
   |true =>
    refine⟨none,R,_,λN U=>?_,λ_=>pb _,eN w⟩;obtain⟨n,rfl⟩:=upN 6 U;have:=wv n R g rows x;rw[hx]at this;exact⟨this,oY (n+4) R hl hx⟩
   |false =>
    obtain⟨_,e1,e2,_⟩:=AS hl hr g hf G;cases hd:rows.head? with
    |none=>exact absurd (by rw[<- e2,head?_eq_none_iff.mp hd];rfl) e1
    |some q =>
     have J:=mem_of_head? hd;refine⟨q.2.1,bh2 false R q.1 q.2.1,q.2.2,λN U=>?_,(λz=>by cases z),λn hn=>eN (hr q J) n (by omega)⟩;obtain⟨n,rfl⟩:=upN 6 U;exact⟨tK n R g (.inr ⟨hx,hd⟩),tM (n+2) R g hl false (.inr ⟨rfl,hx,hd⟩)⟩
 | @parts d rows hl hs b1 hg hr ih =>
  intro R g hf h G x;obtain⟨b,hb⟩:=AF λr J=>u9 (hr r J) r.1 (hg r J).1 (hg r J).2 false true
  have e:=tru (wm (n:=3*d+4) g hf hl hs b1 hg (!h) h λr J=>hb r J _ (by omega)) G;simp only[lw,mu,J6,decide_eq_false_iff_not]at e;obtain⟨⟨rfl,_⟩,⟨⟨n1,_⟩,_⟩,ba⟩:=e;have kx:∀r,∃q:Option Int×LL×PV,r∈rows->(∀N,3*d+8<=N->AAt r.2 r.1 true N x q.1 q.2.1 q.2.2/\LAt r.2 r.1 true N x q.1 q.2.1 q.2.2)/\q.2.1.length<=r.1.length/\∀n,3*d+4<=n->eqF n q.2.2 q.2.2=some true:=λr=>by
   by_cases J:r∈rows
   .obtain⟨a,A,w,h1,h2,h3⟩:=ih r J r.1 (hg r J).1 (hg r J).2 true ((hb r J _ (pb _)).trans (by rw[L1.mp ba r J])) x;exact⟨(a,A,w),λ_=>⟨h1,h2 rfl,h3⟩⟩
   .exact⟨(none,[],.non),λz=>absurd z J⟩
  obtain⟨f,hF⟩:=LB kx;have sl:∀rs,(∀r∈rs,r∈rows)->((bo x f rs).map (·.1)).flatten.length<=(rs.map (·.1)).flatten.length:=λrs=>by
   induction rs with
   |nil=>exact λ_=>pb _
   |cons r rs b2 =>
    intro J;have i1:=b2 λq hq=>J q (.tail _ hq)
    have i2:=(hF r (J r (.head _))).2.1;rw[show bo x f (r::rs)=(if x∈ae r.1 then(f r).2 else r)::bo x f rs from rfl,JW,flatten_cons,tr,JW,flatten_cons,tr];by_cases q:x∈ae r.1
    .rw[if_pos q];omega
    .rw[if_neg q];omega
  have l1:=sl rows λ_ z=>z
  refine⟨jf x f rows,sortT ((bo x f rows).map (·.1)).flatten,.tup [.str "parts",.tup ((bo x f rows).map al)],λN U=>?_,λ_=>?_,λn hn=>?_⟩
  rotate_left
  .rw[sortT_len];omega
  .obtain⟨n,rfl⟩:∃m,n=m+5:=⟨n-5,by omega⟩;refine cB (iu (gm _ _) (jU (cB (xs:=(bo x f rows).map al) λy hy=>?_)));obtain⟨k,J,rfl⟩:=mem_map.mp hy;obtain⟨r,a7,rfl⟩:=mem_map.mp J;by_cases q:x∈ae r.1
   .rw[if_pos q];exact cB (iu (fW n (f r).2.1) (jU ((hF r a7).2.2 (n+2) (by omega))))
   .rw[if_neg q];exact cB (iu (fW n r.1) (jU (eN (hr r a7) (n+2) (by omega))))
  .obtain⟨n,rfl⟩:=upN 4 U;exact⟨C0 n R x f rows hl hg (λr J _=>((hF r J).1 _ (by omega)).1) (by omega),AY (n+1) R x f rows hl (λr J=>(hg r J).1) (λr J _=>((hF r J).1 _ (by omega)).2) (by omega)⟩
 | @fewer d v A Y fA hv ih =>
  intro R g hf h G x;obtain⟨b,a⟩:=u9 hv A Y fA (!h) false;have e:=tru (wk (n:=3*d+5) Y g (!h) h (a _ (by omega))) G;simp only[mu,J6]at e;obtain⟨⟨rfl,_⟩,rfl⟩:=e;obtain⟨r,R',Z,e1,_,e3⟩:=ih A Y fA false (a _ (pb _)) x;refine⟨r,R',Z,λN U=>?_,(λz=>by cases z),λn hn=>e3 n (by omega)⟩;obtain⟨n,rfl⟩:=upN 1 U;exact⟨C2 (e1 n (by omega)).1,AX (e1 n (by omega)).2⟩
 | @either d v w A B Y gB fA fB hv hw ih cC =>
  intro R g hf h G x;obtain⟨p,a⟩:=u9 hv A Y fA false false;obtain⟨q,c⟩:=u9 hw B gB fB false false;have e:=tru (s_ (n:=3*d+4) Y gB g fA fB (!h) h (a _ (by omega)) (c _ (by omega))) G;simp only[mu,J6]at e;obtain⟨⟨rfl,_⟩,_⟩:=e;by_cases hx:x∈ae A
  .obtain⟨r,R',Z,e1,e3⟩:=DA hw B gB;refine⟨r,R',Z,λN U=>?_,(λz=>by cases z),λn hn=>e3 n (by omega)⟩;obtain⟨n,rfl⟩:=upN 4 U;exact⟨tJ Y fA (by rw[if_pos hx];exact(e1 _ (by omega)).1),p5 (n:=n+1) Y (by rw[if_pos hx];exact e1 _ (by omega))⟩
  .obtain⟨r,R',Z,e1,e3⟩:=DA hv A Y;refine⟨r,R',Z,λN U=>?_,(λz=>by cases z),λn hn=>e3 n (by omega)⟩;obtain⟨n,rfl⟩:=upN 4 U;exact⟨tJ Y fA (by rw[if_neg hx];exact(e1 _ (by omega)).1),p5 (n:=n+1) Y (by rw[if_neg hx];exact e1 _ (by omega))⟩
theorem DB{x:LL×PV}(ok:StP x)(h:Bool)(G:GAt x.2 x.1 (!h) h 38 true)(J U:Option MV):∀(hs:List Int) (Y Z:Option MV),∃y5 y6,aq (λv l=>exs (aa defs 79) qQ (put l 5 (.val v))) (hs.map .int) [J,sv (.str (af h)),sv (.str (af !h)),U,sv (al x),Y,Z]=.next [J,sv (.str (af h)),sv (.str (af !h)),U,sv (al x),y5,y6]
 | [],Y,Z=>⟨Y,Z,rfl⟩
 |k::hs,Y,Z=>by
  obtain⟨r,z,v',A,_,eq⟩:=JP ok.2.2 x.1 ok.1 ok.2.1 h G k;have A:=A 79 (by decide);have ne:cD .ne (.tup [aZ r,ofR z,v']) (.tup [aZ r,ofR z,v'])=some false:=by
   rw[z7,if_pos (show rV (.tup [aZ r,ofR z,v']) (.tup [aZ r,ofR z,v'])=true from rfl),cB (n:=99) (iu (u_ _ _) (iu (fW 97 z) (jU (eq 99 (by decide)))))]
   rfl
  have st:exs (aa defs 79) qQ (put [J,sv (.str (af h)),sv (.str (af !h)),U,sv (al x),Y,Z] 5 (.val (.int k)))=.next [J,sv (.str (af h)),sv (.str (af !h)),U,sv (al x),sv (.int k),sv (.tup [aZ r,ofR z,v'])]:=bn (ab (bX rfl (bX rfl rfl)) A.1) (oW (CJ (p:=false) (q:=false) (pX (p:=true) rfl) λ_=>(bP rfl (ab (bX rfl (bX rfl rfl)) A.2)).trans (by rw[ne];rfl)) (oW (by cases r<;>rfl) rfl));rw[JW,aq,st];exact DB ok h G J U hs _ _
def Gj(ok:StP x)(h)(m)(z x4 Y Z):∃J U,exs (aa defs 79) qR (put [z,sv (.str (af h)),sv (.str (af !h)),sv (.int m),x4,Y,Z] 4 (.val (al x)))=.next [z,sv (.str (af h)),sv (.str (af !h)),sv (.int m),sv (al x),J,U]:=by
 obtain⟨b,G⟩:=u9 ok.2.2 x.1 ok.1 ok.2.1 (!h) h;have c:∀J U,ev (aa defs 79) (.call 36 [(ix 4 1),(ix 4 0),.bor 2,.bor 1]) [z,sv (.str (af h)),sv (.str (af !h)),sv (.int m),sv (al x),J,U]=some (.bl b):=λ_ _=>ab (bX rfl (bX rfl rfl)) (G 79 (by decide))
 cases b with
 |false=>exact⟨_,_,b6 ((aK (c _ _)).trans rfl)⟩
 |true =>
  obtain⟨J,U,e⟩:=DB ok h (G 38 (by decide)) z (sv (.int m)) (ae x.1++[m]) Y Z;have eh:=ip 78 x.1 ok.1.1;have hl:=aJ (bb ok.1.1);have es:ev (aa defs 79) (.bin .add (.call 48 [(ix 4 0)]) (.lst [.var 3])) [z,sv (.str (af h)),sv (.str (af !h)),sv (.int m),sv (al x),Y,Z]=some (.lst ((ae x.1++[m]).map .int)):=by
   rw[cv (ab (bX rfl rfl) eh) rfl,Ka];exact if_pos (by rw[pd,length_singleton];omega)
  exact⟨J,U,b6 ((aK (c _ _)).trans (jz (xz es) e rfl))⟩
theorem AZ(h)(m)(Y):∀(xs:List (LL×PV)) z J U,(∀x∈xs,StP x)->∃W,aq (λx l=>exs (aa defs 79) qR (put l 4 (.val x))) (xs.map al) [Y,sv (.str (af h)),sv (.str (af !h)),sv (.int m),z,J,U]=.next W
 | [],z,J,U,_=>⟨_,rfl⟩
 |x::xs,z,J,U,ok=>by
  obtain⟨y5,y6,e⟩:=Gj (ok x (.head _)) h m Y z J U;rw[JW,aq,e];exact AZ h m Y xs _ _ _ λy Z=>ok y (.tail _ Z)
def A0(ns:List Int)(Y:ns.length<=63):aa defs 80 69 [.brw (ns.map .int)]=some (.bl true):=by
 rw[ac (d:=v_) rfl rfl];have J:=qZ 77 ns 0 2049848353892358983 (by decide);have U:=qZ 77 ns 1 2049848353892358983 (by decide);generalize gU (cellOf ns 0) 2049848353892358983=p at J;generalize gU (cellOf ns 1) 2049848353892358983=m at U;obtain⟨h,Z⟩:∃h:Bool,∀W:Rho,ev (aa defs 79) (.idx (.lst [(cs "moth"),(cs "weaver")]) (.bin .mod (.call 45 [(.call 44 [.bor 0,(ci 0)]),(ci 2049848353892358983)]) (ci 2))) (some (.brw (ns.map .int))::W)=some (.str (af h)):=by
  have em:∀W:Rho,ev (aa defs 79) (.bin .mod (.call 45 [(.call 44 [.bor 0,(ci 0)]),(ci 2049848353892358983)]) (ci 2)) (some (.brw (ns.map .int))::W)=some (.int (p % 2)):=λW=>(cv (J W) (de _ _ _)).trans rfl
  rcases Int.emod_two_eq p with z|z
  .rw[z]at em;exact⟨true,λW=>(dg (x:=.lst [.str "moth",.str "weaver"]) rfl (em W)).trans rfl⟩
  .rw[z]at em;exact⟨false,λW=>(dg (x:=.lst [.str "moth",.str "weaver"]) rfl (em W)).trans rfl⟩
 obtain⟨xs,eS,_,ok⟩:=AQ ns Y (!h) h;obtain⟨W,eL⟩:=AZ h (m % 60) (some (.brw (ns.map .int))) xs none none none ok;have o1:∀a2 a3 a4 a5 a6,ev (aa defs 79) (.disp [("weaver","moth"),("moth","weaver")] (.bor 1)) [some (.brw (ns.map .int)),sv (.str (af h)),a2,a3,a4,a5,a6]=some (.str (af !h)):=λ_ _ _ _ _=>by cases h<;>rfl
 refine ax (Z _) (ax (o1 _ _ _ _ _) (ax ((cv (U _) (de _ _ _)).trans rfl) (cx (l:=W) ((dJ (xs:=xs.map al) (xz (ab rfl eS))).trans ?_) (cH rfl))));show MM.R.back _ _ (aq _ _ [some (.brw (ns.map .int)),sv (.str (af h)),sv (.str (af !h)),sv (.int (m % 60)),none,none,none])=_;rw[eL]
 rfl
noncomputable def top(i:Nat):Stmt:=PySem.Challenge.pw_mothloom_k36_answers_told.main.body.getD i (.Pass ⟨0,0,0,0⟩)
def Gk {l:PySem.W.OpenLaw} (X:K.In h) (G:h.Ns mainGlobals mg) (J:mg "law"=some (.ref fa))
  (hs:uQ K top defs [1,2,3,4,5,6,7,8,10,11,12,14,15,16,17,19,20,21,23,24,27,28,29,30,31,32,33,34,35,36,38,39,40,41,42,43,45,46,47,48,49,50,51,52,54,55,56,57,58,59,60,61,62,63,64,65,66,67,68,69,70,71,72,73,75,76,77,78,79,80] tab.ds) (hL:HD K "law" (top 80) v_ λfd=>∀s v,BindsTo s fd ⟨[v],[]⟩ [("script",v)])
  (zs:∀x∈kh,PySem.W.nsIn K mainGlobals x=some none)
  (g0:PySem.W.nsIn K mainGlobals "UNIT"=some (some U)) (r0:aI (toV (.int 1152921504606846976)) U)
 :∃fd,(∀s v,BindsTo s fd ⟨[v],[]⟩ [("script",v)])/\∀base,K.In base->base.Ns mainGlobals mg->jC l.prog w K mg base CX0 80 fa fd ["script"] (spM K (aa defs 80) 69):=by
 obtain⟨_,Y,z,Z⟩:=z5 (T:=tab) X G hL (by kernel_rfl);cases J.symm.trans z.named;have pr:FE tab K mg defs:=by
  refine⟨rfl,FD X G hs (by kernel_rfl),λx hx=>PySem.W.mg_none_of X G (zs x hx),λp hp=>?_⟩
  .simp only[tab,JY,Lw,Mg]at hp;rcases hp with rfl
   .exact⟨_,PySem.W.mg_of X G g0,r0⟩
 exact⟨Y,Z,λbase _ _=>Ii (by decide) pr 80 69 v_ rfl _ _ _ z⟩
def JQ{l:PySem.W.OpenLaw}{q:Program}{J:List Str}{XP:(Str->Option Value)->Heap->Prop}{Y:World->Heap->Prop}{d:DefRec}{K:Params->Np}(hn:l.most=some 63)(U:d.params.defaults=[])
  (hY:∀w h,Y w h->(K w.params).In h)
  (F:∀w mg Z h,(K w.params).In h->h.Ns mainGlobals mg->mg d.name=some (.ref Z) ->
   ∃fd,(∀s u,BindsTo s fd ⟨[u],[]⟩ [("script",u)])/\∀base,(K w.params).In base->base.Ns mainGlobals mg->jC l.prog w (K w.params) mg base CX0 80 Z fd ["script"] (spM (K w.params) (aa defs 80) 69)) :
  PySem.W.WalkO q J XP Y l.row.toRowW d [] (λf vs=>PySem.call f vs):=
 L2.By (n:=63) (k:=80) (x:="script") (CX:=λ_=>CX0) (sp:=λw=>spM (K w.params) (aa defs 80) 69) hn (by decide) U ⟨rfl,by decide,by decide⟩ hY F (λ_ _ a ns hl _ hS=>FF (A0 ns hl) hS) λ_ _ _ _ _ z=>z
end My
open PySem PySem.W PyProof.Rows List Option
set_option maxRecDepth 100000 in
set_option maxHeartbeats 0 in
theorem PySem.Challenge.cw_mothloom_k36_answers_told_holds : PySem.Challenge.rw_mothloom_k36_answers_told.Holds := by
 w_on;o_law;k_head;(case hw=>w_witness2)
 k_fill
 refine My.JQ (l:=PySem.Challenge.rw_mothloom_k36_answers_told) rfl rfl (λw h Y=>PySem.W.kIn_of Y) ?F
 case F =>
  intro w mg fa h KX G hmg
  refine' My.Gk KX G hmg ?hs ?hL ?zs ?gq0 ?rq0
  (case hs =>
   repeat' first|exact MM.uQ.nil|apply MM.uQ.cons
   all_goals (conv=>arg 2;whnf)
   all_goals first
    | (refine' ⟨rfl,_,_,?ka,.mk' (d0:=.none) ?kl ?kc ?kk,MM.bn1 λ_=>rfl,trivial⟩;(case ka=>k_is);(case kl=>k_is);(case kc=>k_is);(case kk=>k_is))
    | (refine' ⟨rfl,_,_,?ka,.mk' (d0:=.none) ?kl ?kc ?kk,MM.bn2 λ_ _=>rfl,trivial⟩;(case ka=>k_is);(case kl=>k_is);(case kc=>k_is);(case kk=>k_is))
    | (refine' ⟨rfl,_,_,?ka,.mk' (d0:=.none) ?kl ?kc ?kk,MM.bn3 λ_ _ _=>rfl,trivial⟩;(case ka=>k_is);(case kl=>k_is);(case kc=>k_is);(case kk=>k_is))
    | (refine' ⟨rfl,_,_,?ka,.mk' (d0:=.none) ?kl ?kc ?kk,MM.bn4 λ_ _ _ _=>rfl,trivial⟩;(case ka=>k_is);(case kl=>k_is);(case kc=>k_is);(case kk=>k_is))
    | (refine' ⟨rfl,_,_,?ka,.mk' (d0:=.none) ?kl ?kc ?kk,MM.bn5 λ_ _ _ _ _=>rfl,trivial⟩;(case ka=>k_is);(case kl=>k_is);(case kc=>k_is);(case kk=>k_is))
    | (refine' ⟨rfl,_,_,?ka,.mkd ?kl ?kc ?kk,?kb,trivial⟩;(case ka=>k_is);(case kl=>k_is);(case kc=>k_is);(case kk=>k_is);(case kb=>refine' MM.uP rfl ?kx ?ky;(case kx=>k_is);(case ky=>exact λus hl=>match us,hl with|[_,_],_=>⟨_,rfl,rfl⟩))))
  (case hL=>refine' ⟨rfl,_,_,?ka,.mk' (d0:=.none) ?kl ?kc ?kk,MM.bn1 λ_=>rfl,λs v=>.of_eq rfl⟩;(case ka=>k_is);(case kl=>k_is);(case kc=>k_is);(case kk=>k_is))
  (case zs=>intro x hx;simp only[MM.kh,JY,Lw,Mg]at hx;rcases hx with rfl|rfl|rfl|rfl|rfl|rfl|rfl|rfl|rfl|rfl|rfl|rfl|rfl|rfl|rfl|rfl|rfl<;>k_is)
  (case gq0=>k_is);(case rq0=>exact⟨_,rfl⟩)
