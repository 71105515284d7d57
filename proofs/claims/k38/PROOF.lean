import PyProof.Rows.All
import Wide.All
import OpenK.AllK
import Wide.FinOn
import Lean
import PyProof.EqAt
import PyProof.EqKinds
import PyProof.TupleCall
import PySem.Challenge.RW_mothloom_k38_answers_of_the_weaver_keep
set_option Elab.async false
set_option linter.all false
set_option maxRecDepth 100000
set_option genSizeOf false
set_option backward.eqns.nonrecursive false
set_option bootstrap.genMatcherCode false
noncomputable section
def ez:=@PySem.wpAny_bind
def ft:=@Option.bind_eq_some_iff
def gf:=@PySem.wpAny_pure
def gk:=@PySem.Heap.get?_push_of_some
def gx:=@Bool.and_eq_true_iff
def gQ:=@Bool.and_eq_true
def g4:=@Nat.le_refl
def mu:=@Bool.false_ne_true
def mx:=@List.length_map
def oe:=@Option.map_eq_some_iff
def pb:=@List.size_toArray
def pd:=@PySem.Heap.lt_size
def pe:=@Nat.le_trans
def p0:=@Option.some.injEq
def r4:=@PySem.Heap.get?_push_size
def tf:=@List.length_append
def tr:=@Nat.ne_of_lt
def uw:=@List.map_cons
def wh:=@List.mem_cons
def Kt:=@Nat.lt_of_lt_of_le
def Ku:=@List.getElem?_eq_some_iff
def Kv:=@beq_iff_eq
def Kw:=@Option.some.inj
def Kx:=@List.map_map
def Ky:=@decide_eq_true
def Kz:=@List.getElem?_eq_getElem
def KA:=@Bool.false_eq_true
def KC:=@PySem.wpAny_loadPart'
def KD:=@Bool.not_eq_true'
def KG:=@List.mem_filter
def KH:=@PySem.wpAny_setState_of
def KI:=@Nat.zero_le
def KJ:=@List.getElem?_map
def KL:=@List.mem_singleton
def KN:=@congrArg
def KP:=@decide_eq_false
def KQ:=@PySem.wpAny_ite_split
def KR:=@PySem.Heap.size_push
def KS:=@List.map_append
def KU:=@List.getElem?_set_ne
def KW:=@PySem.wpAny_call_entry
def KY:=@PySem.Heap.SameBut.update
def KZ:=@Nat.lt_succ_of_lt
def K0:=@Nat.lt_of_le_of_lt
def K1:=@decide_eq_true_iff
def K2:=@of_decide_eq_true
def K3:=@PySem.wpAny_mono
def K4:=@PySem.sizeLine_eq
def K5:=@Nat.lt_irrefl
def K6:=@PySem.wpAny_holding
def K7:=@List.nodup_cons
def K8:=@PySem.Heap.get?_update_self
def K9:=@Array.getElem?_toList
def La:=@PySem.wpAny_newObj_type
def Lb:=@PyProof.Rows.slot_tuple_getitem
def Lc:=@PySem.wpAny_callSpecial?_slot
def Ld:=@List.mem_append_right
def Le:=@decide_eq_true_eq
def Lf:=@List.append_assoc
def Lg:=@List.mem_cons_of_mem
def Lh:=@Bool.eq_iff_iff
def Li:=@PyProof.Rows.callWith_type1
def Lj:=@Nat.add_right_comm
def Lk:=@List.length_eq_zero_iff
def Ll:=@List.filter_cons_of_neg
def Lm:=@List.all_eq_true
def Ln:=@PySem.Heap.get?_update_other
def Lo:=@Nat.le_antisymm
def Lp:=@Nat.not_lt
def Lq:=@List.perm_ext_iff_of_nodup
def Lr:=@Nat.ne_of_gt
def Ls:=@if_false
def Lu:=@Nat.add_sub_cancel
def Lv:=@List.any_eq_true
def Lw:=@PySem.wpAny_isInstance
def Lx:=@Int.emod_lt_of_pos
def Ly:=@List.mem_cons_self
def Lz:=@List.getElem?_append_left
def LA:=@PySem.wpAny_truthy_bool
def LB:=@Nat.le_of_lt_succ
def LC:=@PyProof.Rows.KeyOrd.kle_refl
def LD:=@Int.emod_nonneg
def LF:=@List.getD_eq_getElem?_getD
def LG:=@List.map_congr_left
def LH:=@List.filter_cons_of_pos
def LI:=@Nat.le_of_lt
def LJ:=@List.append_nil
def LK:=@List.getElem?_set_self
def LM:=@PySem.fits_of_scanBound
def LN:=@List.nodup_nil
def LO:=@Nat.exists_eq_add_of_lt
def LP:=@beq_eq_false_iff_ne
def LQ:=@beq_self_eq_true
def LR:=@List.filter_eq_self
def LS:=@List.mem_append
def LU:=@List.not_mem_nil
def LV:=@Nat.le_succ
def LW:=@PySem.wpAny_Call_Name_kw
def LX:=@Array.getD_eq_getD_getElem?
def LY:=@Nat.lt_of_le_of_ne
def LZ:=@PySem.wpAny_setField_rec
def L0:=@List.getElem?_append_right
def L1:=@List.mem_of_getElem?
def L3:=@PySem.Heap.SameBut.refl
def L4:=@PySem.wpAny_storeSet_of
def L5:=@PySem.wpAny_setEpoch_of
def L6:=@List.find?_cons_of_neg
def L7:=@PySem.wpAny_rule
def L8:=@List.isEmpty_iff
def L9:=@Nat.zero_add
def Ma:=@Nat.lt_succ_self
def Mb:=@Ne.symm
def Mc:=@List.pairwise_cons
def Md:=@PySem.tupleKind_room_in1
def Me:=@Nat.le_add_left
def Mf:=@Array.size_extract
def Mg:=@Nat.min_eq_left
def Mh:=@PySem.F.slot_dict_valueiterator_next
def Mi:=@PySem.richCompare_meets_room
def Mj:=@PySem.Calls.callWith_builtin
def Mk:=@Array.getElem?_eq_none
def Ml:=@PySem.wpAny_pyIter_list
def Mm:=@Nat.le_of_succ_le
def Mn:=@PyProof.Rows.KeyOrd.kle_of_klt
def Mo:=@bne_self_eq_false
def Mp:=@List.length_eq_one_iff
def Mq:=@PySem.codeAny_mono
def Mr:=@PySem.wpAny_typeOf
def Ms:=@Nat.le_of_eq
def Mt:=@Nat.lt_trans
def Mu:=@PySem.builtinLookup_eq_fast
def Mv:=@List.length_eraseIdx_of_lt
def Mw:=@List.nodup_append
def Mx:=@List.mem_range
def Mz:=@PyProof.Rows.KeyOrd.kle_trans
def MA:=@Nat.le_sub_one_of_lt
def MB:=@List.perm_append_comm
def MC:=@or_false
def MF:=@List.length_filter_le
def MG:=@Array.perm_iff_toList_perm
def MH:=@Bool.not_true
def MI:=@List.find?_eq_none
def MJ:=@List.filterMap_cons_some
def MK:=@List.mem_map_of_mem
def ML:=@PySem.wpAny_passesOwn
def MN:=@PySem.W.KasT.kasWp_bind
def MO:=@Array.getElem?_eq_getElem
def MP:=@PySem.wpAny_pyIter_tuple
def MQ:=@PySem.Calls.spliced_cons
def MR:=@List.getElem?_replicate
def MT:=@PySem.AutoSeq1.sub_tuple_tuple
def MU:=@List.eq_nil_of_length_eq_zero
def MW:=@List.length_set
def MX:=@Nat.sub_le
def MY:=@Array.size_map
def MZ:=@Classical.axiomOfChoice
def M0:=@Nat.lt_trichotomy
def M1:=@PySem.wpAny_collect_seq
def M3:=@List.find?_cons_of_pos
def M4:=@Nat.lt_of_succ_lt_succ
def M5:=@LawfulMonad.bind_assoc
def M6:=@PySem.plainId_quiet
def M7:=@PySem.wpAny_attempt
def M8:=@Nat.le_add_right
def M9:=@Bool.not_eq_true
def Na:=@List.mem_append_left
def Nb:=@PySem.wpAny_specialOf
def Nc:=@List.all_map
def Nd:=@PySem.codeAny_builtin
def Nf:=@PySem.Around.under_plainId
def Ng:=@PySem.typeLookup_type
def Nh:=@PySem.wpAny_updateSeq
def Ni:=@List.cons.injEq
def Nj:=@List.drop_eq_getElem_cons
def Nk:=@List.mem_of_find?_eq_some
def Nl:=@List.exists_mem_of_ne_nil
def Nm:=@Nat.add_sub_cancel'
def Nn:=@PySem.wpAny_setEntries_of
def Np:=@List.filterMap_cons_none
def Nq:=@Bool.false_and
def Nr:=@PySem.isSubtype_type
def Nt:=@PySem.wpAny_fieldsOf
def Nu:=@Option.map_map
def Nv:=@List.flatten_append
def Nw:=@PySem.wpAny_of_eq
def Nx:=@Nat.lt_or_eq_of_le
def Ny:=@PySem.wpAny_forIn_array'
def Nz:=@Int.fdiv_eq_ediv_of_nonneg
def NA:=@Array.getElem?_append_left
def NB:=@Bool.true_and
def NC:=@PySem.Value.isInt_shape
def ND:=@PySem.Calls.spliced_nil
def NF:=@List.take_of_length_le
def NG:=@PySem.wpAny_pyIter_slot
def NH:=@List.filter_eq_nil_iff
def NI:=@PySem.call_meets
def NJ:=@PySem.intKind_is
def NK:=@PySem.concat_meets
def NL:=@PySem.noFill_tuple_add
def NM:=@Nat.lt_asymm
def NN:=@List.ext_getElem?
def NO:=@map_eq_pure_bind
def NP:=@Nat.min_self
def NQ:=@PySem.wpAny_askSetting
def NR:=@List.length_range
def NS:=@decide_eq_decide
def NT:=@Int.le_trans
def NU:=@Bool.or_eq_true
def NV:=@List.length_take
def NW:=@List.mem_reverse
def NX:=@Int.le_refl
def NY:=@Nat.sub_lt
def NZ:=@Nat.mod_lt
abbrev N0:=PySem.W.Frag
def aB{P:Prop}(h:∀Q:Prop,(P->Q)->Q):P:=h P id
namespace L2
open PySem PySem.Spec PyProof.Rows List Option
noncomputable abbrev Key:=Sum Int Str
noncomputable def lW:Key->Value->Bool
 | .inl k,v=>Value.isInt k v
 | .inr x,v=>Value.isStrOf x v
noncomputable def JI(w:World):Key->Int
 | .inl k=>hashInt k
 | .inr x=>hashStr w x
def bV:∀{k}{v},lW k v=true->(∃i t,k=Sum.inl i/\v=Value.int i t)\/(∃x t,k=Sum.inr x/\v=Value.str x t)
 | .inl i,v,h=>by
  obtain⟨t,e⟩:=NC (k:=i) (v:=v) h;exact .inl ⟨i,t,rfl,e⟩
 | .inr x,v,h=>by
  obtain⟨t,e⟩:=Value.isStrOf_shape (x:=x) (v:=v) h;exact .inr ⟨x,t,rfl,e⟩
def xq(i)(t):lW (.inl i) (.int i t)=true:=by simp[lW,Value.isInt]
def xr(x)(t):lW (.inr x) (.str x t)=true:=by simp[lW,Value.isStrOf]
def Ed(a b):decide ((Sum.inl a:Key)=Sum.inl b)=(a==b):=by
 by_cases e:a=b
 .subst e;simp
 .simp_all
def Ee(a b):decide ((Sum.inr a:Key)=Sum.inr b)=decide (a=b):=by simp
def Ef(a)(b):decide ((Sum.inl a:Key)=Sum.inr b)=false:=rfl
def Eg(a)(b):decide ((Sum.inr a:Key)=Sum.inl b)=false:=rfl
noncomputable def bI(prog)(w):PySem.KeyKind prog w Key where
 is:=lW
 hash:=JI w
 inj:=λv a b U J=>by
  rcases bV U with⟨i,t,rfl,rfl⟩|⟨x,t,rfl,rfl⟩
  .rcases bV J with⟨j,u,rfl,e⟩|⟨y,u,rfl,e⟩
   .injection e with z _;rw[z]
   .exact nomatch e
  .rcases bV J with⟨j,u,rfl,e⟩|⟨y,u,rfl,e⟩
   .exact nomatch e
   .injection e with z _;rw[z]
 byValue:=λk v h=>by
  rcases bV h with⟨i,t,rfl,rfl⟩|⟨x,t,rfl,rfl⟩<;>rfl
 pyHash:=λhv h=>by
  rcases bV hv with⟨i,t,rfl,rfl⟩|⟨x,t,rfl,rfl⟩
  .exact wpAny_pyHash_int h
  .exact wpAny_pyHash_str h
 eqBool:=λY hv h=>by
  rcases bV Y with⟨i,t,rfl,rfl⟩|⟨x,t,rfl,rfl⟩
  .rcases bV hv with⟨j,u,rfl,rfl⟩|⟨y,u,rfl,rfl⟩
   .rw[Ed]at h;exact wpAny_eqBool_int h
   .rw[Ef]at h;exact SeqAt.EqAt.int_str i t y u _ _ _ _ h
  .rcases bV hv with⟨j,u,rfl,rfl⟩|⟨y,u,rfl,rfl⟩
   .rw[Eg]at h;exact SeqAt.EqAt.str_int x t j u _ _ _ _ h
   .rw[Ee]at h;exact wpAny_eqBool_str h
 «strs»:=λk x t v h=>by
  rcases bV h with⟨i,u,rfl,e⟩|⟨y,u,rfl,e⟩
  .exact nomatch e
  .injection e with z _
   subst z;cases v<;>rfl
def uC(prog:Program)(w:World)(k:Key)(v:Value):(bI prog w).is k v=lW k v:=rfl
def sg(prog)(w)(i)(t):(bI prog w).is (.inl i) (.int i t)=true:=xq i t
def sh(prog)(w)(x)(t):(bI prog w).is (.inr x) (.str x t)=true:=xr x t
inductive V where
 | non|bl (b:Bool)|int (i:Int)|str (x:Str)|byt (b:Array UInt8)|flt (b:UInt64)|ref (a:Addr)|ty (n:String)
 deriving DecidableEq
def aF:V->Value->Prop
 | .non,u=>u=Value.none
 | .bl b,u=>u=Value.bool b
 | .int i,u=>∃t,u=Value.int i t
 | .str x,u=>∃t,u=Value.str x t
 | .byt b,u=>∃t,u=Value.bytes b t
 | .flt b,u=>∃t,u=Value.float b t
 | .ref a,u=>u=Value.ref a
 | .ty n,u=>u=Value.type n
abbrev aI:List V->List Value->Prop:=Paired aF
theorem aI.length(r:aI xs us):xs.length=us.length:=Paired.length r
theorem aI.get:∀{xs}{us}{i:Nat}{x},aI xs us->xs[i]?=some x->∃u,us[i]?=some u/\aF x u
 | _,_,_,_,.nil,e=>by simp at e
 | _,_,0,_,.cons r _,e=>by simp at e;subst e;exact⟨_,rfl,r⟩
 | _,_,i+1,x,.cons _ t,e=>by
  obtain⟨u,h1,h2⟩:=aI.get (i:=i) (x:=x) t (by simpa using e);exact⟨u,by simpa using h1,h2⟩
theorem aI.append:∀{xs ys}{us z},aI xs us->aI ys z->aI (xs++ys) (us++z)
 | _,_,_,_,.nil,s=>s
 | _,_,_,_,.cons r t,s=>.cons r (aI.append t s)
theorem aI.take:∀{xs}{us} n,aI xs us->aI (xs.take n) (us.take n)
 | _,_,0,_=>.nil
 | _,_,_+1,.nil=>.nil
 | _,_,n+1,.cons r t=>.cons r (aI.take n t)
theorem aI.drop:∀{xs}{us} n,aI xs us->aI (xs.drop n) (us.drop n)
 | _,_,0,r=>r
 | _,_,_+1,.nil=>.nil
 | _,_,n+1,.cons _ t=>aI.drop n t
def mF:Option V->Option Value->Prop
 |some v,some u=>aF v u
 |none,none=>True
 | _,_=>False
def KV :List (g×V)->List (g×Value)->Prop:=Paired λp q=>p.1=q.1/\aF p.2 q.2
noncomputable def kV:Key->V
 | .inl i=>.int i
 | .inr x=>.str x
inductive HO where
 | lst (xs:List V)
 | tup (xs:List V)
 | dK (kvs:List (Key×V))|dT (kvs:List (List Key×V))
 | set (S:Int->Bool) (n:Nat)
 | ins (C dx:Addr) (fs:List (Str×V))
 | own (x:Addr)
 | xd (fs:List (Str×V))
 | met (f x:Addr)
 | rng (lo hi:Int)
 | frz (o:Obj) (u:HO)
 | tbl (ps:Array Value)
 | ext (φ:Heap->Prop)
noncomputable abbrev Hp:=Addr->Option HO
noncomputable def upd(H:Hp)(a:Addr)(o:HO):Hp:=λb=>if b=a then some o else H b
def ax :upd H a o a=some o:=by unfold upd;rw[if_pos rfl]
def bb(h:b≠a):upd H a o b=H b:=by unfold upd;rw[if_neg h]
def G9{H:Hp}{a b:Addr}{o u:HO}(h:H a=some o)(h':H b=some u)(d:o≠u):a≠b:=by
 intro e;subst e;rw[h]at h';exact d (Kw h')
def cI{H:Hp}{a b:Addr}{o:HO}(h:H a=some o)(h':H b=none):a≠b:=by
 intro e;subst e;rw[h]at h';cases h'
section
variable(P:Program)(w:World)
def bM(H:Hp)(h:Heap)(a:Addr):HO->Prop
 | .lst xs=>xs.length<=sizeLine/\∃its n,aI xs its/\h.get? a=some { cls:=.type "list",data:=.seq its.toArray n }
 | .tup xs=>xs.length<=sizeLine/\∃its,aI xs its/\IsTup h a its.toArray
 | .dK kvs=>kvs.length<=sizeLine/\(a==sysModules)=false/\∃vs,KV kvs vs/\h.DictOf (bI P w) a vs
 | .dT kvs=>kvs.length<=sizeLine/\(a==sysModules)=false/\∃xs,
   Paired (λp q=>p.1=q.1/\H q.2.1=some (.tup (p.1.map kV))/\aF p.2 q.2.2) kvs xs /\
   ∃o es ep,h.get? a=some o/\o.ExactDict/\o.data=.dict es ep/\es.toList=xs.map (entryOfKey (tupleKind (bI P w)))/\(xs.map (·.1)).Nodup
 | .set S n=>h.SetOf (intKind P w) a S n
 | .ins C dx fs=>H dx=some (.own a)/\fs.length<=1000/\dx≠a/\h.get? a=some (PySem.W.instObj C dx) /\
   ∃mA,h.Ns1 dx mA/\(∀f,mF (fs.lookup f) (mA f))/\PySem.Within mA (fs.map (·.1))
 | .own _=>∃o,h.get? a=some o
 | .xd fs=>∃mA,h.Ns1 a mA/\∀f,mF (fs.lookup f) (mA f)
 | .rng lo hi=>∃t u v,h.get? a=some { cls:=.type "range",data:=.fields #[.int lo t,.int hi u,.int 1 v] }
 | .frz o u=>h.get? a=some o/\bM H h a u
 | .tbl ps=>h.get? a=some { cls:=.none,data:=.fields ps }
 | .met f x=>h.get? a=some (PySem.W.methodObj (.ref f) (.ref x))
 | .ext z=>z h/\(∃o,h.get? a=some o)/\∀h1 h2,z h1->(∀o,h1.get? a=some o->h2.get? a=some o)->z h2
def HOk(H:Hp)(h:Heap):Prop:=∀a o,H a=some o->bM P w H h a o
end
section
variable{P:Program}{w:World}{H H':Hp}{h h':Heap}{a:Addr}{o:HO}
theorem bM.lt(x:bM P w H h a o):a<h.objs.size:=by
 cases o with
 |own y=>obtain⟨_,e⟩:=x;exact pd e
 |xd fs=>obtain⟨_,⟨_,_,_,e,_⟩,_⟩:=x;exact pd e
 |ext z=>obtain⟨_,⟨_,e⟩,_⟩:=x;exact pd e
 |lst xs=>obtain⟨_,_,_,_,e⟩:=x;exact pd e
 |tup xs=>obtain⟨_,_,_,p⟩:=x;exact p.lt
 |set S n=>obtain⟨o,_,_,_,e,_⟩:=x;exact pd e
 |frz J u=>obtain⟨e,_⟩:=x;exact pd e
 |rng lo hi=>obtain⟨_,_,_,e⟩:=x;exact pd e
 |ins C dx fs=>obtain⟨_,_,_,e,_⟩:=x;exact pd e
 |dK kvs|dT kvs=>obtain⟨_,_,_,_,o,_,_,e,_⟩:=x;exact pd e
 | _=>exact pd (show h.get? a=some _ from x)
theorem Paired.mapP :∀{l₁}{l₂},Paired F l₁ l₂->(∀a b,F a b->G a b)->Paired G l₁ l₂
 | _,_,.nil,_=>.nil
 | _,_,.cons r t,f=>.cons (f _ _ r) (Paired.mapP t f)
def bM.stay(x:bM P w H h a o)(k:∀b u,(b=a\/H b=some (.own a))->h.get? b=some u->h'.get? b=some u)
  (ho:∀b,H b=some (.own a)->H' b=some (.own a)) (Y:∀b xs,H b=some (.tup xs)->H' b=some (.tup xs)):bM P w H' h' a o:=by
 induction o with
 |lst xs=>obtain⟨z,its,n,r,e⟩:=x;exact⟨z,its,n,r,k _ _ (.inl rfl) e⟩
 |tup xs=>obtain⟨z,its,r,J,e,c⟩:=x;exact⟨z,its,r,J,k _ _ (.inl rfl) e,c⟩
 |dK kvs=>obtain⟨z,y,vs,r,J,es,ep,e,c⟩:=x;exact⟨z,y,vs,r,J,es,ep,k _ _ (.inl rfl) e,c⟩
 |dT kvs =>
  obtain⟨z,y,xs,r,J,es,ep,e,c⟩:=x;exact⟨z,y,xs,Paired.mapP r λp q z=>⟨z.1,Y _ _ z.2.1,z.2.2⟩,J,es,ep,k _ _ (.inl rfl) e,c⟩
 |set S n=>obtain⟨J,es,ep,t,e,c⟩:=x;exact⟨J,es,ep,t,k _ _ (.inl rfl) e,c⟩
 |ins C dx fs =>
  obtain⟨d,z,ne,e,mA,⟨U,es,ep,Z,c⟩,r⟩:=x;exact⟨ho _ d,z,ne,k _ _ (.inl rfl) e,mA,⟨U,es,ep,k _ _ (.inr d) Z,c⟩,r⟩
 |own y=>obtain⟨J,e⟩:=x;exact⟨J,k _ _ (.inl rfl) e⟩
 |xd fs=>obtain⟨mA,⟨U,es,ep,e,c⟩,r⟩:=x;exact⟨mA,⟨U,es,ep,k _ _ (.inl rfl) e,c⟩,r⟩
 |rng lo hi=>obtain⟨t,u,v,e⟩:=x;exact⟨t,u,v,k _ _ (.inl rfl) e⟩
 |frz J u ih=>obtain⟨e,q⟩:=x;exact⟨k _ _ (.inl rfl) e,ih q⟩
 |tbl ps =>
  have e:=x;exact k a _ (.inl rfl) e
 |met f y =>
  have e:=x;exact k a _ (.inl rfl) e
 |ext φ=>obtain⟨p,⟨o,e⟩,st⟩:=x;exact⟨st _ _ p λo q=>k _ _ (.inl rfl) q,⟨o,k _ _ (.inl rfl) e⟩,st⟩
theorem HOk.lt(x:HOk P w H h)(e:H a=some o):a<h.objs.size:=(x a o e).lt
def HOk.fresh(x:HOk P w H h)(e:h.objs.size<=a):H a=none:=by
 cases q:H a<;>first|rfl|exact absurd (Kt (x.lt q) e) (K5 _)
theorem HOk.kept(x:HOk P w H h)(k:∀b u,h.get? b=some u->h'.get? b=some u):HOk P w H h':=λa o e =>
 (x a o e).stay (λb u _ q=>k b u q) (λ_ q=>q) λ_ _ q=>q
theorem HOk.laid(x:HOk P w H h)(k:∀b u,h.get? b=some u->h'.get? b=some u)(U:h.objs.size<=a)(new:bM P w (upd H a o) h' a o):HOk P w (upd H a o) h':=λb u e=>by
 have z:=x.fresh U;by_cases J:b=a
 .subst J;rw[ax]at e;cases e;exact new
 .rw[bb J]at e;exact(x b u e).stay (λc v _ q=>k c v q) (λc q=>by rw[bb (cI q z)];exact q) λc xs q=>by rw[bb (cI q z)];exact q
end
def Rd(H:Hp)(a:Addr)(u:HO):Prop:=H a=some u\/∃o,H a=some (.frz o u)
theorem Rd.ok(r:Rd H a u)(x:HOk P w H h):bM P w H h a u:=by
 rcases r with r|⟨o,r⟩
 .exact x a u r
 .obtain⟨_,q⟩:=x a _ r;exact q
def Mut:Option HO->Prop
 |some (.lst _)=>True
 |some (.dK _)=>True
 |some (.dT _)=>True
 |some (.set _ _)=>True
 |some (.ins _ _ _)=>True
 |some (.ext _)=>True
 | _=>False
section
variable{P:Program}{w:World}{H:Hp}{h h':Heap}{x e:Addr}{o':HO}
def HOk.write(ok:HOk P w H h)(Z:Mut (H x))(he:e=x\/H e=some (.own x))(k:∀b u,b≠e->h.get? b=some u->h'.get? b=some u)(ao:∃u,h'.get? e=some u)
  (new:bM P w (upd H x o') h' x o'):HOk P w (upd H x o') h':=λb u q=>by
 have U:∀c y,H c=some (.own y)->c≠x:=λc y r z=>by subst z;rw[r]at Z;exact Z
 have Y:∀c xs,H c=some (.tup xs)->c≠x:=λc xs r z=>by subst z;rw[r]at Z;exact Z
 by_cases hb:b=x
 .subst hb;rw[ax]at q;cases q;exact new
 .rw[bb hb]at q;by_cases J:b=e
  .have q':H b=some (.own x):=by
    rcases he with z|z
    .exact absurd (J.trans z) hb
    .rw[J];exact z
   rw[q]at q';cases q'
   obtain⟨v,hv⟩:=ao;exact⟨v,by rw[J];exact hv⟩
  .refine(ok b u q).stay (λc v hc r=>k c v ?_ r) (λc r=>by rw[bb (U c b r)];exact r) λc xs r=>by rw[bb (Y c xs r)];exact r
   rcases hc with rfl|hc
   .exact J
   .rintro rfl
    simp_all
end
structure Un(fs ex:List Addr)(H H':Hp)(h h':Heap):Prop where
 keep:∀b o,h.get? b=some o->H b=none->b∉fs->b∉ex->h'.get? b=some o
 slot:∀b o,h.get? b=some o->H b=none->b∈fs->b∉ex->∃sl,h'.get? b=some { o with slots:=sl }
 free:∀b o,h.get? b=some o->H b=none->b∉ex->H' b=none
 there:∀b o,h.get? b=some o->b∉ex->∃o',h'.get? b=some o'
 tups:∀b xs,H b=some (.tup xs)->H' b=some (.tup xs)
 frzs:∀b o u,H b=some (.frz o u)->H' b=some (.frz o u)
 tbls:∀b ps,H b=some (.tbl ps)->∃more,H' b=some (.tbl (ps++more))
section
variable{fs fs' ex ex':List Addr}{H H1 H2:Hp}{h h1 h2 h':Heap}{a x e:Addr}{o:HO}
theorem Un.any(u:Un fs ex H H1 h h1)(q:h.get? b=some z)(n:H b=none)(hx:b∉ex):∃U,h1.get? b=some { z with slots:=U }:=by
 by_cases J:b∈fs
 .exact u.slot b z q n J hx
 .exact⟨z.slots,u.keep b z q n J hx⟩
def Un.kept(k:∀b u,h.get? b=some u->h'.get? b=some u):Un fs ex H H h h':=
 ⟨λb z q _ _ _=>k b z q,λb z q _ _ _=>⟨z.slots,k b z q⟩,λ_ _ _ n _=>n,λb z q _=>⟨z,k b z q⟩,λ_ _ q=>q,λ_ _ _ q=>q,λ_ ps q=>⟨#[],by rw[q];simp⟩⟩
def Un.refl:Un fs ex H H h h:=Un.kept λ_ _ q=>q
def Un.laid(k:∀b u,h.get? b=some u->h'.get? b=some u)(J:h.objs.size<=a)(z:H a=none):Un fs ex H (upd H a o) h h' where
 keep:=λb u q _ _ _=>k b u q
 slot:=λb u q _ _ _=>⟨u.slots,k b u q⟩
 free:=λb u q n _=>by rw[bb (tr (Kt (pd q) J))];exact n
 there:=λb u q _=>⟨u,k b u q⟩
 tups:=λb xs q=>by rw[bb (cI q z)];exact q
 frzs:=λb u xs q=>by rw[bb (cI q z)];exact q
 tbls:=λb ps q=>⟨#[],by rw[bb (cI q z),q];simp⟩
def Un.write(U:Mut (H x))(he:e=x\/H e=some (.own x))(k:∀b u,b≠e->h.get? b=some u->h'.get? b=some u)(Y:∃u,h'.get? e=some u):Un fs ex H (upd H x o) h h':=by
 have hx:∀b,H b=none->b≠x:=λb n z=>by subst z;rw[n]at U;exact U
 have hb:∀b,H b=none->b≠e:=λb n z=>by
  simp_all
 have Z:∀b u,H b=some u->¬ Mut (some u)->b≠x:=λb u q nm z=>by subst z;rw[q]at U;exact nm U
 refine⟨λb u q n _ _=>k b u (hb b n) q,λb u q n _ _=>⟨u.slots,k b u (hb b n) q⟩,λb u q n _=>by rw[bb (hx b n)];exact n,λb u q _=>?_,
  λb xs q=>by rw[bb (Z b _ q λz=>z)];exact q,λb u xs q=>by rw[bb (Z b _ q λz=>z)];exact q,λb ps q=>⟨#[],by rw[bb (Z b _ q λz=>z),q];simp⟩⟩
 by_cases J:b=e
 .subst J;exact Y
 .exact⟨u,k b u J q⟩
end
noncomputable def trk(h:Heap)(H:Hp):List Addr:=(range h.objs.size).filter λa=>(H a).isSome
noncomputable def qE(h:Heap)(H:Hp):Heap:=PySem.W.hideAll h (trk h H)
def xt(h)(H):(qE h H).objs.size=h.objs.size:=PySem.W.hideAll_size _ _
def yL{H:Hp}{b:Addr}{o:Obj}(e:h.get? b=some o)(n:H b=none):(qE h H).get? b=some o:=
 PySem.W.hideAll_get _ e λhm=>by
  have q:=(KG.mp hm).2;rw[n]at q;simp at q
def BV(e:(qE h H).get? b=some o):h.get? b=some o/\H b=none:=by
 have J:=PySem.W.of_hideAll _ e;refine⟨J,?_⟩;cases q:H b with
 |none=>rfl
 |some x =>
  have U:b∈trk h H:=KG.mpr ⟨Mx.mpr (pd J),by simp[q]⟩;have z:(qE h H).get? b=none:=PySem.W.hideAll_none _ U;rw[z]at e;cases e
noncomputable def BW(g h:Heap)(L:Addr):List (Addr×Obj):=(range h.objs.size).filterMap λa=>if a=L\/(g.get? a).isSome=true then none else(h.get? a).map λo=>(a,o)
def bW(g h:Heap)(L d:Addr):List (Addr×Obj):=(BW g h L).filter λp=>decide (p.1≠d)
structure Mod(K:N0)(mg:Str->Option Value)(base:Heap):Prop where
 kin:K.In base
 glob:base.Ns mainGlobals mg
 blt:∃mb,base.Ns builtinsNs mb/\∀x:Str,x ≠ "__name__"->mb x=bootBuiltins x
 nolimit:base.NoLimit
structure Cx where
 prog:Program
 w:World
 K:N0
 mg:Str->Option Value
 base:Heap
 A:Around
 N:List Str
 s₀:Shared
 H₀:Hp
 env:Env
 outer:List Env
 stack:List Env
 ex:List Addr
 fn:Str->Bool
 calm:Bool
 pn:List (Addr×Obj)
 xe:Value->Shared->Prop
noncomputable def frs(l:List Env):List Addr:=l.filterMap (·.frame)
abbrev Cx.fs(X:Cx):List Addr:=frs X.outer
def Vis(sc:Scope)(x:Str):Prop:=sc.names.lookup x=some .local\/sc.names.lookup x=some .cell\/sc.names.lookup x=some .free
def Loc(sc:Scope)(x:Str):Prop:=sc.names.lookup x=some .local\/sc.names.lookup x=some .cell
def JJ(env:Env)(h:Heap)(m:Str->Option Value)(x:Str)(u:Value):Prop:=
 (env.kindOf x=some .local/\m x=some u)\/((env.kindOf x=some .cell\/env.kindOf x=some .free)/\∃c,env.cells.lookup x=some c/\h.IsCell c (some u))
structure Cx.Ok(X:Cx):Prop where
 mod:Mod X.K X.mg X.base
 kind:X.env.scope.kind=.function
 glob:X.env.globals=mainGlobals
 blt:X.env.builtins=builtinsNs
 above:X.s₀.heap.objs.size<=X.env.locals
 inj:∀x y c,X.env.cells.lookup x=some c->X.env.cells.lookup y=some c->x=y
 has:∀x,(X.env.kindOf x=some .cell\/X.env.kindOf x=some .free)->∃c,X.env.cells.lookup x=some c
 cab:∀x c,X.fn x=true->X.env.cells.lookup x=some c->X.s₀.heap.objs.size<=c
 hd:X.calm=true->X.A.handled=none
 frames:X.A.frames=some X.stack
 stk:X.stack=X.outer\/(X.stack=X.env::X.outer/\X.env.frame=some X.env.locals)
 exf:∀b∈X.ex,b≠X.env.locals/\∀x c,X.env.cells.lookup x=some c->c≠b
 bs:∀b o,X.base.get? b=some o->X.s₀.heap.get? b=some o/\X.H₀ b=none
 bsz:X.base.objs.size<=X.s₀.heap.objs.size
 noex:∀b o,X.base.get? b=some o->b∉X.ex
 exfs:∀b∈X.ex,b∉X.fs
 funs:X.s₀.heap.FunFrames X.base X.outer
 frf:∀b∈X.fs,X.H₀ b=none
structure Inv(X:Cx)(pins:List (Addr×Obj))(σ:List (Option V))(H:Hp)(s:Shared):Prop where
 ok:X.Ok
 os:s.os=X.s₀.os
 bare:AllBare s.gens
 base:Un X.fs X.ex X.H₀ H X.s₀.heap s.heap
 loc:∃m,s.heap.Ns X.env.locals m/\∀(i:Nat) (x:Str) (v:V),X.N[i]?=some x->σ[i]?=some (some v)->Vis X.env.scope x->∃u,aF v u/\JJ X.env s.heap m x u
 cell:∀x c,X.env.cells.lookup x=some c->∃v,s.heap.IsCell c v
 free:H X.env.locals=none
 freeC:∀x c,X.env.cells.lookup x=some c->H c=none
 pin:∀p∈X.pn++pins,s.heap.get? p.1=some p.2/\H p.1=none/\p.1≠X.env.locals/\p.1∉X.fs/\∀v,p.2.data≠.cell v
 hok:HOk X.prog X.w H s.heap
 len:σ.length=X.N.length
section
variable{X:Cx}{pins:List (Addr×Obj)}{σ:List (Option V)}{H H':Hp}{s:Shared}{h':Heap}
theorem Cx.Ok.nofr(ok:X.Ok)(e:X.base.get? b=some o):b∉X.fs:=λz=>by
 have:=(ok.funs.mem z).1;rw[e]at this;cases this
theorem Inv.bs(I:Inv X pins σ H s):∀b o,X.base.get? b=some o->s.heap.get? b=some o/\H b=none:=λb o e =>
 ⟨I.base.keep b o (I.ok.bs b o e).1 (I.ok.bs b o e).2 (I.ok.nofr e) (I.ok.noex b o e),I.base.free b o (I.ok.bs b o e).1 (I.ok.bs b o e).2 (I.ok.noex b o e)⟩
theorem Inv.bk(I:Inv X pins σ H s):∀b o,X.base.get? b=some o->s.heap.get? b=some o:=λb o e=>(I.bs b o e).1
theorem Inv.mod(I:Inv X pins σ H s):Mod X.K X.mg X.base:=I.ok.mod
theorem Inv.kIn(I:Inv X pins σ H s):X.K.In s.heap:=I.ok.mod.kin.keeps I.bk
theorem Inv.lt(I:Inv X pins σ H s):X.env.locals<s.heap.objs.size:=let ⟨_,z,_⟩:=I.loc;z.lt
theorem Inv.sz(I:Inv X pins σ H s):X.s₀.heap.objs.size<=s.heap.objs.size:=pe I.ok.above (LI I.lt)
theorem Inv.nofs(I:Inv X pins σ H s)(h:s.heap.objs.size<=a):a∉X.fs:=λz=>by
 obtain⟨_,o,ho,_⟩:=I.ok.funs.mem z;exact absurd (Kt (pd ho) (pe I.sz h)) (K5 _)
theorem Inv.cne(I:Inv X pins σ H s):∀x c,X.env.cells.lookup x=some c->c≠X.env.locals:=λx c e z=>by
 obtain⟨v,o,ho,hd⟩:=I.cell x c e;obtain⟨m,⟨o',es,ep,J,U,_⟩,_⟩:=I.loc
 simp_all
theorem Inv.funs(I:Inv X pins σ H s):s.heap.FunFrames X.base X.outer:=by
 have all:∀l,(∀b∈frs l,b∈X.fs)->X.s₀.heap.FunFrames X.base l->s.heap.FunFrames X.base l:=by
  intro l
  induction l with
  |nil=>intro _ _;trivial
  |cons env r ih =>
   intro hs Y;obtain⟨Z,⟨L,o,J,hn,ho,hd⟩,hr⟩:=Y;have hL:=hs L (by unfold frs;rw[filterMap_cons,J];exact Ly);obtain⟨sl,e⟩:=I.base.slot L o ho (I.ok.frf L hL) hL λz=>I.ok.exfs L z hL
   exact⟨Z,⟨L,_,J,hn,e,hd⟩,ih (λb U=>hs b (by unfold frs;rw[filterMap_cons,J];exact Lg _ U)) hr⟩
 exact all X.outer (λ_ U=>U) I.ok.funs
theorem Inv.stack(I:Inv X pins σ H s):s.heap.FunFrames X.base X.stack:=by
 rcases I.ok.stk with e|⟨e,z⟩
 .rw[e];exact I.funs
 .rw[e];obtain⟨m,J,_⟩:=I.loc;refine .cons (by rw[I.ok.kind];decide) z J ?_ I.funs;exact Heap.get?_none_of_le (pe I.ok.bsz I.ok.above)
def Inv.stkSub(I:Inv X pins σ H s):∀b∈frs X.stack,b∈X.env.locals::X.fs:=λb z=>by
 rcases I.ok.stk with e|⟨e,J⟩
 .rw[e]at z;exact Lg _ z
 .rw[e]at z;unfold frs at z;rw[filterMap_cons,J]at z;exact z
def Inv.stkFree(I:Inv X pins σ H s):∀b∈frs X.stack,H b=none:=λb J=>by
 rcases wh.mp (I.stkSub b J)with e|J
 .rw[e];exact I.free
 .obtain⟨_,o,ho,_⟩:=I.ok.funs.mem J;exact I.base.free b o ho (I.ok.frf b J) λz=>I.ok.exfs b z J
theorem Inv.step{ch:List Addr}(I:Inv X pins σ H s)
  (J:∀b∈ch,(b∈X.ex\/X.s₀.heap.objs.size<=b)/\b≠X.env.locals/\(∀x c,X.env.cells.lookup x=some c->c≠b)/\∀p∈X.pn++pins,p.1≠b)
  (keep:∀b o,b≠X.env.locals->b∉X.fs->b∉ch->s.heap.get? b=some o->H b=none->h'.get? b=some o)
  (slot:∀b o,b≠X.env.locals->b∈X.fs->b∉ch->s.heap.get? b=some o->H b=none->∃sl,h'.get? b=some { o with slots:=sl }) (free:∀b o,b∉ch->s.heap.get? b=some o->H b=none->H' b=none)
  (there:∀b o,b∉ch->s.heap.get? b=some o->∃o',h'.get? b=some o')
  (tups:∀b xs,H b=some (.tup xs)->H' b=some (.tup xs)) (frzs:∀b o u,H b=some (.frz o u)->H' b=some (.frz o u)) (tbls:∀b ps,H b=some (.tbl ps)->∃a0,H' b=some (.tbl (ps++a0)))
  (ns:∀m,s.heap.Ns X.env.locals m->h'.Ns X.env.locals m) (hok:HOk X.prog X.w H' h') (hg:AllBare g') :
  Inv X pins σ H' { s with heap:=h',gens:=g',drawn:=d',toks:=t' }:=by
 have a1:∀b o,X.s₀.heap.get? b=some o->b≠X.env.locals:=λb o e=>tr (Kt (pd e) I.ok.above)
 have Z:∀b o,X.s₀.heap.get? b=some o->b∉X.ex->b∉ch:=λb o e hx hb=>by
  rcases(J b hb).1 with z|z
  .exact hx z
  .exact absurd (Kt (pd e) z) (K5 _)
 have U:∀x c,X.env.cells.lookup x=some c->∀v,s.heap.IsCell c v->h'.IsCell c v:=λx c e v ⟨o,ho,hd⟩=>by
  have Y:c∉ch:=λz=>(J c z).2.2.1 x c e rfl
  by_cases hc:c∈X.fs
  .obtain⟨sl,q⟩:=slot c o (I.cne x c e) hc Y ho (I.freeC x c e);exact⟨_,q,hd⟩
  .exact⟨o,keep c o (I.cne x c e) hc Y ho (I.freeC x c e),hd⟩
 refine⟨I.ok,I.os,hg,⟨λb o e n hb hx=>?_,λb o e n hb hx=>?_,λb o e n hx=>?_,λb o e hx=>?_,λb xs e=>tups b xs (I.base.tups b xs e),λb o xs e=>frzs b o xs (I.base.frzs b o xs e),λb ps e=>?_⟩,?_,λx c e=>?_,?_,λx c e=>?_,λp hp=>?_,hok,I.len⟩
 .exact keep b o (a1 b o e) hb (Z b o e hx) (I.base.keep b o e n hb hx) (I.base.free b o e n hx)
 .obtain⟨sl,e1⟩:=I.base.slot b o e n hb hx;obtain⟨a4,e2⟩:=slot b _ (a1 b o e) hb (Z b o e hx) e1 (I.base.free b o e n hx);exact⟨a4,e2⟩
 .obtain⟨o',e1⟩:=I.base.there b o e hx;exact free b o' (Z b o e hx) e1 (I.base.free b o e n hx)
 .obtain⟨o',e1⟩:=I.base.there b o e hx;exact there b o' (Z b o e hx) e1
 .obtain⟨m1,e1⟩:=I.base.tbls b ps e;obtain⟨m2,e2⟩:=tbls b _ e1;exact⟨m1++m2,by rw[e2,Array.append_assoc]⟩
 .obtain⟨m,hn,hl⟩:=I.loc;refine⟨m,ns m hn,λi x v e1 e2 e3=>?_⟩;obtain⟨u,r,l⟩:=hl i x v e1 e2 e3;refine⟨u,r,?_⟩;rcases l with l|⟨k,c,e,z⟩
  .exact .inl l
  .exact .inr ⟨k,c,e,U x c e _ z⟩
 .obtain⟨v,z⟩:=I.cell x c e;exact⟨v,U x c e v z⟩
 .obtain⟨m,⟨o,_,_,ho,_⟩,_⟩:=I.loc;exact free _ o (λz=>(J _ z).2.1 rfl) ho I.free
 .obtain⟨v,o,ho,hd⟩:=I.cell x c e;exact free c o (λz=>(J c z).2.2.1 x c e rfl) ho (I.freeC x c e)
 .obtain⟨e,n,ne,nf,d⟩:=I.pin p hp;have Y:p.1∉ch:=λz=>(J p.1 z).2.2.2 p hp rfl
  exact⟨keep p.1 p.2 ne nf Y e n,free p.1 p.2 Y e n,ne,nf,d⟩
theorem Inv.un(I:Inv X pins σ H s)(u:Un X.fs [] H H' s.heap h')(hok:HOk X.prog X.w H' h'):Inv X pins σ H' { s with heap:=h',toks:=t' }:=by
 obtain⟨m,⟨o,es,ep,ho,r⟩,_⟩:=id I.loc;obtain⟨sl,hL⟩:=u.any ho I.free (by simp);exact I.step (ch:=[]) (λ_ z=>nomatch z) (λb o _ U _ e n=>u.keep b o e n U (by simp)) (λb o _ U _ e n=>u.slot b o e n U (by simp)) (λb o _ e n=>u.free b o e n (by simp)) (λb o _ e=>u.there b o e (by simp)) u.tups u.frzs u.tbls (λm' hm=>by
  obtain⟨o',Y,Z,J,r'⟩:=hm;rw[ho]at J;cases J
  exact⟨_,Y,Z,hL,r'⟩) hok I.bare
theorem Inv.call(I:Inv X pins σ H s)(u:Un (frs X.stack) ch H H' s.heap h')(hok:HOk X.prog X.w H' h')(hg:AllBare g')
  (J:∀b∈ch,(b∈X.ex\/X.s₀.heap.objs.size<=b)/\b≠X.env.locals/\(∀x c,X.env.cells.lookup x=some c->c≠b)/\∀p∈X.pn++pins,p.1≠b) :
  Inv X pins σ H' { s with heap:=h',gens:=g',drawn:=d',toks:=t' }:=by
 obtain⟨m,⟨o,es,ep,ho,r⟩,_⟩:=id I.loc;obtain⟨sl,hL⟩:=u.any ho I.free λz=>(J _ z).2.1 rfl
 exact I.step J (λb o hL hb hc e n=>u.keep b o e n (λz=>(wh.mp (I.stkSub b z)).elim hL hb) hc) (λb o _ _ hc e n=>u.any e n hc) (λb o hc e n=>u.free b o e n hc) (λb o hc e=>u.there b o e hc) u.tups u.frzs u.tbls (λm' hm=>by
  obtain⟨o',Y,Z,U,r'⟩:=hm;rw[ho]at U;cases U
  exact⟨_,Y,Z,hL,r'⟩) hok hg
def Inv.turned(I:Inv X pins σ H s)(k:∀b o,b≠it->s.heap.get? b=some o->h'.get? b=some o)(U:H it=none)(hL:it≠X.env.locals)
  (h1:it∈X.ex\/X.s₀.heap.objs.size<=it) (h2:∀x c,X.env.cells.lookup x=some c->c≠it) (Y:∀p∈X.pn++pins,p.1≠it):Inv X pins σ H { s with heap:=h',toks:=t' }:=by
 have J:∀b u,H b=some u->b≠it:=λb u e z=>by rw[z,U]at e;cases e
 refine I.step (ch:=[it]) (λb Z=>?_) (λb o _ _ hc e _=>k b o (λz=>hc (by simp[z])) e) (λb o _ _ hc e _=>⟨o.slots,k b o (λz=>hc (by simp[z])) e⟩) (λ_ _ _ _ n=>n)
  (λb o hc e=>⟨o,k b o (λz=>hc (by simp[z])) e⟩) (λ_ _ e=>e) (λ_ _ _ e=>e) (λb ps e=>⟨#[],by rw[e];simp⟩) (λm hm=>?_) (λb u e=>?_) I.bare
 .have e:b=it:=by simpa using Z
  subst e;exact⟨h1,hL,h2,Y⟩
 .obtain⟨o,es,ep,ho,r⟩:=hm;exact⟨o,es,ep,k _ o (Mb hL) ho,r⟩
 .refine(I.hok b u e).stay (λc v hc q=>k c v ?_ q) (λ_ q=>q) λ_ _ q=>q
  rcases hc with z|z
  .rw[z];exact J b u e
  .exact J c _ z
theorem Inv.tok(I:Inv X pins σ H s)(t):Inv X pins σ H { s with toks:=t }:=I.un (h':=s.heap) (t':=t) Un.refl I.hok
theorem Inv.kept(I:Inv X pins σ H s)(k:∀b u,s.heap.get? b=some u->h'.get? b=some u):Inv X pins σ H { s with heap:=h',toks:=t' }:=I.un (Un.kept k) (I.hok.kept k)
theorem Inv.laid(I:Inv X pins σ H s)(k:∀b u,s.heap.get? b=some u->h'.get? b=some u)(z:s.heap.objs.size<=a)(new:bM X.prog X.w (upd H a o) h' a o) :
  Inv X pins σ (upd H a o) { s with heap:=h',toks:=t' }:=I.un (Un.laid k z (I.hok.fresh z)) (I.hok.laid k z new)
theorem Inv.write(I:Inv X pins σ H s)(J:Mut (H x))(U:e=x\/H e=some (.own x))(k:∀b u,b≠e->s.heap.get? b=some u->h'.get? b=some u)(z:∃u,h'.get? e=some u)
  (new:bM X.prog X.w (upd H x o) h' x o):Inv X pins σ (upd H x o) { s with heap:=h',toks:=t' }:=I.un (Un.write J U k z) (I.hok.write J U k z new)
def Inv.pins_of(I:Inv X pins σ H s)(h:∀p∈J,s.heap.get? p.1=some p.2/\H p.1=none/\p.1≠X.env.locals/\p.1∉X.fs/\∀v,p.2.data≠.cell v):Inv X J σ H s:=
 ⟨I.ok,I.os,I.bare,I.base,I.loc,I.cell,I.free,I.freeC,λp U=>(LS.mp U).elim (λz=>I.pin p (Na _ z)) (h p),I.hok,I.len⟩
def si{N:List Str}(z:N.Nodup){i j:Nat}(a:N[i]?=some x)(b:N[j]?=some x):i=j:=by
 obtain⟨h1,J⟩:=Ku.mp a;obtain⟨h2,U⟩:=Ku.mp b;exact(getElem_inj z).mp (J.trans U.symm)
def pJ{i:Nat}{x:Str}{v:V}{u:Value}{Q:Unit->Shared->Prop}(I:Inv X pins σ H s)(hN:X.N.Nodup)(hi:X.N[i]?=some x)(hx:Loc X.env.scope x)(r:aF v u)
  (h:∀s',Inv X pins (σ.set i (some v)) H s'->(∃a,Heap.SameBut a s.heap s'.heap/\(a=X.env.locals\/X.env.cells.lookup x=some a))->Q () s') (hf:X.fn x=true\/X.env.scope.names.lookup x=some .local:=by first|exact .inl rfl|exact .inr rfl|assumption):wpAny M A (storeName X.env x u) Q E s:=by
 obtain⟨m,hn,hl⟩:=id I.loc;have a3:(X.env.scope.kind==.class||(X.env.scope.kind==.module&&X.env.locals != X.env.globals))=false:=by rw[I.ok.kind];rfl
 have ao:i<σ.length:=by rw[I.len];exact(Ku.mp hi).1
 have cne:=I.cne;have J:∀{a}{h'},(∃o,s.heap.get? a=some o/\H a=none)->Heap.SameBut a s.heap h'->HOk X.prog X.w H h':=λ{a h'} ha hs b ob e=>by
  obtain⟨_,_,Y⟩:=ha;refine(I.hok b ob e).stay (λc w' hc q=>(hs.2 c ?_).trans q) (λ_ q=>q) λ_ _ q=>q
  rintro rfl;rcases hc with rfl|hc
  .rw[Y]at e;cases e
  .rw[Y]at hc;cases hc
 rcases hx with hk|hk
 .refine wpAny_storeName_local hk hn (λh' bB hs=>?_) a3;obtain⟨oL,_,_,b0,_⟩:=id hn;refine h _ ⟨I.ok,I.os,I.bare,⟨λb o e n hb hx=>?_,λb o e n hb hx=>?_,I.base.free,λb o e hx=>?_,I.base.tups,I.base.frzs,I.base.tbls⟩,⟨_,bB,λj y v' U Z e3=>?_⟩,λy c e=>?_,I.free,I.freeC,λp hp=>?_,J ⟨oL,b0,I.free⟩ hs,by simpa using I.len⟩ ⟨_,hs,.inl rfl⟩
  .exact(hs.2 b (tr (Kt (pd e) I.ok.above))).trans (I.base.keep b o e n hb hx)
  .obtain⟨sl,U⟩:=I.base.slot b o e n hb hx;exact⟨sl,(hs.2 b (tr (Kt (pd e) I.ok.above))).trans U⟩
  .obtain⟨o',U⟩:=I.base.there b o e hx;exact⟨o',(hs.2 b (tr (Kt (pd e) I.ok.above))).trans U⟩
  .by_cases hj:j=i
   .subst hj;rw[hi]at U;cases U
    rw[LK ao]at Z;cases Z;exact⟨u,r,.inl ⟨hk,by simp⟩⟩
   .rw[KU (Mb hj)]at Z;obtain⟨u',r',q⟩:=hl j y v' U Z e3;refine⟨u',r',?_⟩;rcases q with⟨k,e⟩|⟨k,c,e,z⟩
    .refine .inl ⟨k,?_⟩;have:y≠x:=λe=>hj (si hN U (e▸hi))
     simp[this,e]
    .exact .inr ⟨k,c,e,z.sameBut hs (cne y c e)⟩
  .obtain⟨w',z⟩:=I.cell y c e;exact⟨w',z.sameBut hs (cne y c e)⟩
  .obtain⟨e,n,ne,nf,d⟩:=I.pin p hp;exact⟨(hs.2 p.1 ne).trans e,n,ne,nf,d⟩
 .have a2:X.fn x=true:=by
   rcases hf with z|z
   .exact z
   .rw[z]at hk;cases hk
  obtain⟨c,hc⟩:=I.ok.has x (.inl hk);obtain⟨w',z⟩:=I.cell x c hc;refine wpAny_storeName_cell I.ok.kind hk hc z (λh' a4 hs=>?_);obtain⟨oc,a5,a6⟩:=id z;refine h { s with heap:=h' } ⟨I.ok,I.os,I.bare,⟨λb o e n hb hx=>?_,λb o e n hb hx=>?_,I.base.free,λb o e hx=>?_,I.base.tups,I.base.frzs,I.base.tbls⟩,⟨m,hn.sameBut hs (Mb (cne x c hc)),λj y v' U Z e3=>?_⟩,λy c' e=>?_,I.free,I.freeC,λp hp=>?_,J ⟨oc,a5,I.freeC x c hc⟩ hs,by simpa using I.len⟩ ⟨c,hs,.inr hc⟩
  .exact(hs.2 b (tr (Kt (pd e) (I.ok.cab x c a2 hc)))).trans (I.base.keep b o e n hb hx)
  .obtain⟨sl,U⟩:=I.base.slot b o e n hb hx;exact⟨sl,(hs.2 b (tr (Kt (pd e) (I.ok.cab x c a2 hc)))).trans U⟩
  .obtain⟨o',U⟩:=I.base.there b o e hx;exact⟨o',(hs.2 b (tr (Kt (pd e) (I.ok.cab x c a2 hc)))).trans U⟩
  .by_cases hj:j=i
   .subst hj;rw[hi]at U;cases U
    rw[LK ao]at Z;cases Z;exact⟨u,r,.inr ⟨.inl hk,c,hc,a4⟩⟩
   .rw[KU (Mb hj)]at Z;obtain⟨u',r',q⟩:=hl j y v' U Z e3;refine⟨u',r',?_⟩;rcases q with q|⟨k,c',e,z'⟩
    .exact .inl q
    .refine .inr ⟨k,c',e,z'.sameBut hs ?_⟩;rintro rfl;exact hj (si hN U (I.ok.inj _ _ _ e hc▸hi))
  .by_cases a7:c'=c
   .subst a7;exact⟨_,a4⟩
   .obtain⟨w2,z2⟩:=I.cell y c' e;exact⟨w2,z2.sameBut hs a7⟩
  .obtain⟨e,n,ne,nf,d⟩:=I.pin p hp;refine⟨(hs.2 p.1 ?_).trans e,n,ne,nf,d⟩;intro q;rw[q,a5]at e;have q':=Kw e;exact d w' (by rw[<- q'];exact a6)
def sj{i:Nat}{x:Str}{v:V}{u:Value}{Q:Unit->Shared->Prop}(I:Inv X pins σ H s)(z:X.N.Nodup)(hi:X.N[i]?=some x)(hx:Loc X.env.scope x)(r:aF v u)
  (h:∀s',Inv X pins (σ.set i (some v)) H s'->Q () s') (J:X.fn x=true\/X.env.scope.names.lookup x=some .local:=by first|exact .inl rfl|exact .inr rfl|assumption):wpAny M A (storeName X.env x u) Q E s:=
 pJ I z hi hx r (λs' U _=>h s' U) J
def Inv.call'(I:Inv X pins σ H s)(ho:s'.os=s.os)(u:Un (frs X.stack) ch H H' s.heap s'.heap)(hok:HOk X.prog X.w H' s'.heap)(J:AllBare s'.gens)
  (z:∀b∈ch,(b∈X.ex\/X.s₀.heap.objs.size<=b)/\b≠X.env.locals/\(∀x c,X.env.cells.lookup x=some c->c≠b)/\∀p∈X.pn++pins,p.1≠b):Inv X pins σ H' s':=by
 obtain⟨h',g',d',t',o'⟩:=s';have e:=ho;subst e;exact I.call u hok J z
end
noncomputable abbrev XK:=Value->Option Addr->Hp->Prop
noncomputable abbrev St:=List (Option V)
noncomputable abbrev VK:=V->Hp->Prop
noncomputable abbrev TE:=St->Hp->VK->Prop
noncomputable abbrev TT:=St->Hp->(Bool->Hp->Prop)->Prop
noncomputable abbrev TA:=St->Hp->(List V->Hp->Prop)->Prop
structure Eh where
 nx:St->Hp->Prop
 rt:VK
 bk:St->Hp->Prop:=λ_ _=>False
 ct:St->Hp->Prop:=λ_ _=>False
noncomputable abbrev TS:=Eh->St->Hp->Prop
def EP(X:Cx)(pins:List (Addr×Obj))(σ:St)(Q:VK)(u:Value)(s':Shared):Prop:=∃v H',Inv X pins σ H' s'/\aF v u/\Q v H'
def TP(X:Cx)(pins:List (Addr×Obj))(σ:St)(Q:Bool->Hp->Prop)(b:Bool)(s':Shared):Prop:=∃H',Inv X pins σ H' s'/\Q b H'
def AP(X:Cx)(pins:List (Addr×Obj))(σ:St)(Q:List V->Hp->Prop)(us:List Value)(s':Shared):Prop:=∃vs H',Inv X pins σ H' s'/\aI vs us/\Q vs H'
def SP(X:Cx)(pins:List (Addr×Obj))(D:Eh)(f:Flow)(s':Shared):Prop:=
 match f with
 | .next=>∃F H',Inv X pins F H' s'/\D.nx F H'
 | .brk=>∃F H',Inv X pins F H' s'/\D.bk F H'
 | .cont=>∃F H',Inv X pins F H' s'/\D.ct F H'
 | .ret u=>∃v F H',Inv X pins F H' s'/\aF v u/\D.rt v H'
def PE(X:Cx)(e:Expr)(t:TE):Prop:=
 ∀pins s (σ:St) H Q,Inv X pins σ H s->t σ H Q->wpAny (model X.prog X.w) X.A (eval e X.env) (EP X pins σ Q) X.xe s
def PT(X:Cx)(e:Expr)(t:TT):Prop:=
 ∀pins s (σ:St) H Q,Inv X pins σ H s->t σ H Q->wpAny (model X.prog X.w) X.A (isTrue e X.env (eval e X.env)) (TP X pins σ Q) X.xe s
def PW(X:Cx)(e:Expr)(t:TT):Prop:=
 ∀whole pins s (σ:St) H Q,Inv X pins σ H s->t σ H Q->wpAny (model X.prog X.w) X.A (isTrue e X.env whole) (TP X pins σ Q) X.xe s
theorem PW.pt(h:PW X e t):PT X e t:=h _
def PA(X:Cx)(es:List Expr)(t:TA):Prop:=
 ∀pos pins s (σ:St) H Q,Inv X pins σ H s->t σ H Q->wpAny (model X.prog X.w) X.A (spliced (backTo pos (starEach es X.env))) (AP X pins σ Q) X.xe s
def PS(X:Cx)(st:Stmt)(t:TS):Prop:=
 ∀pins s (σ:St) H D,Inv X pins σ H s->t D σ H->wpAny (model X.prog X.w) X.A (exec st X.env) (SP X pins D) X.xe s
def PSs(X:Cx)(st:List Stmt)(t:TS):Prop:=
 ∀pins s (σ:St) H D,Inv X pins σ H s->t D σ H->wpAny (model X.prog X.w) X.A (execs st X.env) (SP X pins D) X.xe s
def thn(h:wpAny M A t Q E s)(z:∀a s,Q a s->J a s):wpAny M A t J E s:=K3 h z λ_ _ x=>x
section
variable{X:Cx}
def bin(Y:PE X a ta)(Z:PE X b tb){σ:St}{R:V->V->Hp->Prop}(I:Inv X pins σ H s)(h:ta σ H λx H1=>tb σ H1 λy H2=>R x y H2)
  {f:Value->Value->Sem α}
  (hf:∀v u U x y H2,Inv X pins σ H2 U->aF x v->aF y u->R x y H2->wpAny (model X.prog X.w) X.A (f v u) Q X.xe U) :
  wpAny (model X.prog X.w) X.A (eval a X.env) (λv z=>wpAny (model X.prog X.w) X.A (eval b X.env) (λu J=>wpAny (model X.prog X.w) X.A (f v u) Q X.xe J) X.xe z) X.xe s:=by
 refine thn (Y pins s σ H _ I h) λv s1 ⟨x,H1,I1,r1,q1⟩=>?_
 refine thn (Z pins s1 σ H1 _ I1 q1) λu U ⟨y,H2,I2,r2,q2⟩=>?_
 exact hf v u U x y H2 I2 r1 r2 q2
noncomputable def G_(i:Nat):TE:=λσ H Q=>∃v,σ[i]?=some (some v)/\Q v H
noncomputable def tC(v:V):TE:=λ_ H Q=>Q v H
def Ei (Y:X.N[i]?=some x) (hv:Vis X.env.scope x) (hd:(x==("__debug__":Str))=false:=by decide) (U:(x==("__classdict__":Str))=false:=by decide):PE X (.Name x pos) (G_ i):=by
 intro pins s σ H Q I h;obtain⟨v,e,h⟩:=h;obtain⟨m,Z,hl⟩:=I.loc;obtain⟨u,r,l⟩:=hl i x v Y e hv;have fin:EP X pins σ Q u s:=⟨v,H,I,r,h⟩;rcases l with⟨J,hm⟩|⟨J,c,hc,z⟩
 .exact wpAny_Name (wpAny_loadName_local I.ok.kind J Z hm fin) hd
 .rcases J with J|J
  .exact wpAny_Name (wpAny_loadName_cell I.ok.kind J hc z fin) hd
  .exact wpAny_Name (wpAny_loadName_free I.ok.kind J hc z fin U) hd
def Ej{i j pos}:PE X (.Constant (.int i) j pos) (tC (.int i)):=λ_ _ _ H _ I h=>wpAny_Constant_int ⟨.int i,H,I.tok _,⟨_,rfl⟩,h⟩
def Ha{b j pos}:PE X (.Constant (.bool b) j pos) (tC (.bl b)):=λ_ _ _ H _ I h=>Constant_bool ⟨.bl b,H,I,rfl,h⟩
def Ek{j pos}:PE X (.Constant .none j pos) (tC .non):=λ_ _ _ H _ I h=>Constant_none ⟨.non,H,I,rfl,h⟩
def uD{x j pos}:PE X (.Constant (.str x) j pos) (tC (.str x)):=λ_ _ _ H _ I h=>Calls.Constant_str ⟨.str x,H,I.tok _,⟨_,rfl⟩,h⟩
def Gl(X:Cx)(x:Str):Prop:=X.env.kindOf x=some .globalImplicit
def qF{pins:List (Addr×Obj)}{s:Shared}{σ:St}{H:Hp}{x:Str}{u:Value}{pos:Pos}{Q:Value->Shared->Prop}(I:Inv X pins σ H s)(z:Gl X x)(J:X.mg x=some u)(h:Q u s)
  (hd:(x==("__debug__":Str))=false:=by decide):wpAny (model X.prog X.w) X.A (eval (.Name x pos) X.env) Q E s:=
 Calls.Name_function_global I.ok.kind z (Calls.loadGlobal_global (by rw[I.ok.glob];exact I.mod.glob.keeps I.bk) J h) hd
def iV{E:Value->Shared->Prop}{pins:List (Addr×Obj)}{s:Shared}{σ:St}{H:Hp}{x:Str}{u:Value}{pos:Pos}{Q:Value->Shared->Prop}(I:Inv X pins σ H s)(z:Gl X x)(J:X.mg x=none)(hv:bootBuiltins x=some u)(h:Q u s)
  (U:x ≠ "__name__":=by decide) (hd:(x==("__debug__":Str))=false:=by decide):wpAny (model X.prog X.w) X.A (eval (.Name x pos) X.env) Q E s:=by
 obtain⟨Y,h1,h2⟩:=I.mod.blt;exact Calls.Name_function_global I.ok.kind z (Calls.loadGlobal_builtin (by rw[I.ok.glob];exact I.mod.glob.keeps I.bk) J (by rw[I.ok.blt];exact h1.keeps I.bk) ((h2 x U).trans hv) h) hd
def BX (z:Gl X x) (J:X.mg x=some u) (r:aF v u) (hd:(x==("__debug__":Str))=false:=by decide):PE X (.Name x pos) (tC v):=
 λ_ _ _ H _ I h=>qF I z J ⟨v,H,I,r,h⟩ hd
def BY (z:Gl X x) (J:X.mg x=none) (hv:bootBuiltins x=some u) (r:aF v u) (U:x ≠ "__name__":=by decide) (hd:(x==("__debug__":Str))=false:=by decide):PE X (.Name x pos) (tC v):=
 λ_ _ _ H _ I h=>iV I z J hv ⟨v,H,I,r,h⟩ U hd
variable{a b:Expr}{ta tb:TE}{pos:Pos}
def PC(X:Cx)(op:CmpOp)(a b:Expr)(t:TE):Prop:=
 ∀pins s (σ:St) H Q,Inv X pins σ H s->t σ H Q ->
  wpAny (model X.prog X.w) X.A (eval a X.env) (λv z=>wpAny (model X.prog X.w) X.A (eval b X.env) (λu J=>wpAny (model X.prog X.w) X.A (compareOp op v u) (EP X pins σ Q) X.xe J) X.xe z) X.xe s
noncomputable def tB(t:TE):TT:=λσ H Q=>t σ H λx H1=>∃c,x=.bl c/\Q c H1
def yM(h:PC X op a b t)(h1:behindInMarks op b=false:=by first|exact z _ (by decide) (by decide)|rfl):PE X (.Compare a [op] [b] pos) t:=λpins s σ H Q I hw=>wpAny_Compare1 (h pins s σ H Q I hw) h1
def yN(h:PC X op a b t)(h1:behindInMarks op b=false:=by first|exact z _ (by decide) (by decide)|rfl):PT X (.Compare a [op] [b] pos) (tB t):=by
 intro pins s σ H Q I hw;refine wpAny_isTrue_Compare1 (thn (h pins s σ H _ I hw) λv Z h1=>thn h1 λu s2 h2=>thn h2 λc s3 ⟨x,H1,J,U,Y⟩=>?_) h1;obtain⟨d,rfl,q⟩:=Y;cases U;exact LA ⟨H1,J,q⟩
def El(h:PE X e t)(z:∀whole,isTrue e X.env whole=(do let v <- whole;standAt e.pos;holding [v] (truthy v)):=by intro _;rfl):PT X e (tB t):=by
 intro pins s σ H Q I hw;refine isTrue_plain (thn (h pins s σ H _ I hw) λv Z ⟨x,H1,J,U,Y⟩=>?_) (z _);obtain⟨d,rfl,q⟩:=Y;cases U;exact LA ⟨H1,J,q⟩
variable{tA tB':TT}{bW:List Expr}
noncomputable def JK(t u:TT):TT:=λσ H Q=>t σ H λc H1=>if c=true then u σ H1 Q else Q false H1
noncomputable def tOr(t u:TT):TT:=λσ H Q=>t σ H λc H1=>if c=true then Q true H1 else u σ H1 Q
noncomputable def JL(t:TT):TT:=λσ H Q=>t σ H λc H1=>Q (!c) H1
def BZ(z:PT X a tA):PW X (.BoolOp .And [a] pos) tA:=by
 intro J pins s σ H Q I h;refine isTrue_and (thn (z pins s σ H Q I h) λc U e=>?_);cases c<;>first|exact isTrue_and_nil e|exact e
def Em(z:PT X a tA):PW X (.BoolOp .Or [a] pos) tA:=by
 intro J pins s σ H Q I h;refine isTrue_or (thn (z pins s σ H Q I h) λc U e=>?_);cases c<;>first|exact isTrue_or_nil e|exact e
def Eo(U:PT X a tA)(Y:PW X (.BoolOp .And (b::bW) pos) tB'):PW X (.BoolOp .And (a::b::bW) pos) (JK tA tB'):=by
 intro Z pins s σ H Q I h;refine isTrue_and (thn (U pins s σ H _ I h) λc s1 ⟨H1,z,J⟩=>?_);cases c<;>first|exact Y Z pins s1 σ H1 Q z J|exact⟨H1,z,J⟩
def Hb(U:PT X a tA)(Y:PW X (.BoolOp .Or (b::bW) pos) tB'):PW X (.BoolOp .Or (a::b::bW) pos) (tOr tA tB'):=by
 intro Z pins s σ H Q I h;refine isTrue_or (thn (U pins s σ H _ I h) λc s1 ⟨H1,z,J⟩=>?_);cases c<;>first|exact⟨H1,z,J⟩|exact Y Z pins s1 σ H1 Q z J
def Ep(z:PT X a tA):PT X (.UnaryOp .Not a pos) (JL tA):=by
 intro pins s σ H Q I h;exact isTrue_not (z pins s σ H (λc H1=>Q _ H1) I h)
noncomputable def Hc(ta tb:TE):TE:=λσ H Q=>ta σ H λx H1=>∃c,x=.bl c/\if c=true then tb σ H1 Q else Q (.bl false) H1
noncomputable def JM(ta tb:TE):TE:=λσ H Q=>ta σ H λx H1=>∃c,x=.bl c/\if c=true then Q (.bl true) H1 else tb σ H1 Q
noncomputable def Hd(ta:TE):TE:=λσ H Q=>ta σ H λx H1=>∃c,x=.bl c/\Q (.bl (!c)) H1
def yO{op}(h:PE X a t):PE X (.BoolOp op [a] pos) t:=λpins s σ H Q I hw=>BoolOp_one (h pins s σ H Q I hw)
def Er(U:PE X a ta)(Y:PE X (.BoolOp .And (b::bW) pos) tb):PE X (.BoolOp .And (a::b::bW) pos) (Hc ta tb):=by
 intro pins s σ H Q I h;refine BoolOp_and (thn (U pins s σ H _ I h) λv Z ⟨x,H1,J,r1,z⟩=>?_);obtain⟨c,rfl,z⟩:=z;cases r1;refine LA ?_;cases c<;>first|exact Y pins Z σ H1 Q J z|exact⟨.bl false,H1,J,rfl,z⟩
def He(U:PE X a ta)(Y:PE X (.BoolOp .Or (b::bW) pos) tb):PE X (.BoolOp .Or (a::b::bW) pos) (JM ta tb):=by
 intro pins s σ H Q I h;refine BoolOp_or (thn (U pins s σ H _ I h) λv Z ⟨x,H1,J,r1,z⟩=>?_);obtain⟨c,rfl,z⟩:=z;cases r1;refine LA ?_;cases c<;>first|exact Y pins Z σ H1 Q J z|exact⟨.bl true,H1,J,rfl,z⟩
def Es(J:PE X a ta):PE X (.UnaryOp .Not a pos) (Hd ta):=by
 intro pins s σ H Q I h;refine UnaryOp_ (thn (J pins s σ H _ I h) λv Z ⟨x,H1,U,Y,z⟩=>?_);obtain⟨c,rfl,z⟩:=z;cases Y;exact not_of (LA ⟨.bl _,H1,U,rfl,z⟩)
noncomputable def tIf(t:TT)(ta tb:TE):TE:=λσ H Q=>t σ H λc H1=>if c=true then ta σ H1 Q else tb σ H1 Q
def yP(hc:PT X c tA)(Y:PE X a ta)(Z:PE X b tb):PE X (.IfExp c a b pos) (tIf tA ta tb):=by
 intro pins s σ H Q I h;refine wpAny_IfExp (thn (hc pins s σ H _ I h) λd z ⟨H1,J,U⟩=>?_);cases d<;>first|exact Y pins z σ H1 Q J U|exact Z pins z σ H1 Q J U
end
def SqL(K:N0)(H:Hp)(a:Addr)(xs:List V):Prop:=
 Rd H a (.lst xs) \/
  ∃o its n,K.lookup a=some o/\o.cls=.type "list"/\o.dict=none/\o.data=.seq its n/\its.size<=sizeLine/\aI xs its.toList
def SqT(K:N0)(H:Hp)(a:Addr)(xs:List V):Prop:=
 Rd H a (.tup xs) \/
  ∃o its n,K.lookup a=some o/\o.cls=.type "tuple"/\o.data=.seq its n/\its.size<=sizeLine/\aI xs its.toList
noncomputable def JN:Value->Option V
 | .none=>some .non
 | .bool b=>some (.bl b)
 | .int i _=>some (.int i)
 | .str x _=>some (.str x)
 | .bytes b _=>some (.byt b)
 | .float b _=>some (.flt b)
 | .ref a=>some (.ref a)
 | .type n=>some (.ty n)
 | _=>none
theorem aF.abs(r:aF x u):JN u=some x:=by
 cases x<;>first|(cases r;rfl)|(obtain⟨t,rfl⟩:=r;rfl)
theorem aF.inj(r:aF x u)(q:aF y u):x=y:=Kw (r.abs.symm.trans q.abs)
theorem aI.inj:∀{xs ys}{us},aI xs us->aI ys us->xs=ys
 | _,_,_,.nil,.nil=>rfl
 | _,_,_,.cons r t,.cons z t'=>by rw[r.inj z,aI.inj t t']
section
variable{X:Cx}{pins:List (Addr×Obj)}{σ:St}{H:Hp}{s:Shared}{a:Addr}{xs ys:List V}
theorem SqL.of{K:N0}(h:H a=some (.lst xs)):SqL K H a xs:=.inl (.inl h)
theorem SqT.of{K:N0}(h:H a=some (.tup xs)):SqT K H a xs:=.inl (.inl h)
theorem Inv.list(I:Inv X pins σ H s)(h:SqL X.K H a xs):∃its,aI xs its/\PlainL s.heap a its.toArray/\xs.length<=sizeLine:=by
 rcases h with h|⟨o,its,n,J,hc,hd,hs,hz,r⟩
 .obtain⟨z,its,n,r,e⟩:=h.ok I.hok;exact⟨its,r,⟨_,n,e,rfl,rfl,rfl⟩,z⟩
 .refine⟨its.toList,r,⟨o,n,I.kIn a o J,hc,hd,by simpa using hs⟩,?_⟩;have e:=r.length
  simp_all
def Inv.tuple(I:Inv X pins σ H s)(h:SqT X.K H a xs):∃its,aI xs its/\IsTup s.heap a its.toArray/\xs.length<=sizeLine:=by
 rcases h with h|⟨o,its,n,J,hc,hs,hz,r⟩
 .obtain⟨z,its,r,p⟩:=h.ok I.hok;exact⟨its,r,p,z⟩
 .refine⟨its.toList,r,⟨o,I.kIn a o J,hc,n,by simpa using hs⟩,?_⟩;have e:=r.length
  simp_all
def Inv.list_inj(I:Inv X pins σ H s)(h:SqL X.K H a xs)(h':SqL X.K H a ys):xs=ys:=by
 obtain⟨its,r,⟨o,n,e,_,_,d⟩,_⟩:=I.list h;obtain⟨its',J,⟨o',Y,z,_,_,d'⟩,_⟩:=I.list h';rw[e]at z;cases z
 rw[d]at d';injection d' with U _
 have:its=its':=by simpa using KN Array.toList U
 subst this;exact r.inj J
def Inv.tuple_inj(I:Inv X pins σ H s)(h:SqT X.K H a xs)(h':SqT X.K H a ys):xs=ys:=by
 obtain⟨its,r,⟨o,e,_,n,d⟩,_⟩:=I.tuple h;obtain⟨its',J,⟨o',z,_,Y,d'⟩,_⟩:=I.tuple h';rw[e]at z;cases z
 rw[d]at d';injection d' with U _
 have:its=its':=by simpa using KN Array.toList U
 subst this;exact r.inj J
end
noncomputable abbrev Cx.wish(X:Cx)(E:Value->Shared->Prop):Cx:={ X with xe:=E }
noncomputable abbrev Cx.nox(X:Cx):Cx:=X.wish λ_ _=>False
theorem Cx.Ok.wish{X:Cx}(ok:X.Ok)(E:Value->Shared->Prop):(X.wish E).Ok:=
 ⟨ok.mod,ok.kind,ok.glob,ok.blt,ok.above,ok.inj,ok.has,ok.cab,ok.hd,ok.frames,ok.stk,ok.exf,ok.bs,ok.bsz,ok.noex,ok.exfs,ok.funs,ok.frf⟩
theorem Cx.Ok.unwish{X:Cx}{E:Value->Shared->Prop}(ok:(X.wish E).Ok):X.Ok:=
 ⟨ok.mod,ok.kind,ok.glob,ok.blt,ok.above,ok.inj,ok.has,ok.cab,ok.hd,ok.frames,ok.stk,ok.exf,ok.bs,ok.bsz,ok.noex,ok.exfs,ok.funs,ok.frf⟩
section
variable{X:Cx}{pins:List (Addr×Obj)}{σ:St}{H:Hp}{s:Shared}{E:Value->Shared->Prop}
theorem Inv.wish(I:Inv X pins σ H s)(E):Inv (X.wish E) pins σ H s:=⟨I.ok.wish E,I.os,I.bare,I.base,I.loc,I.cell,I.free,I.freeC,I.pin,I.hok,I.len⟩
theorem Inv.unwish(I:Inv (X.wish E) pins σ H s):Inv X pins σ H s:=⟨I.ok.unwish,I.os,I.bare,I.base,I.loc,I.cell,I.free,I.freeC,I.pin,I.hok,I.len⟩
theorem SP.unwish(h:SP (X.wish E) pins D f s'):SP X pins D f s':=by
 cases f<;>first|(obtain⟨F,H',I,q⟩:=h;exact⟨F,H',I.unwish,q⟩)|(obtain⟨v,F,H',I,r,q⟩:=h;exact⟨v,F,H',I.unwish,r,q⟩)
theorem PSs.nox{st:List Stmt}(h:PSs X.nox st t):PSs X st t:=λpins s σ H D I hw =>
 K3 (h pins s σ H D (I.wish _) hw) (λ_ _ q=>q.unwish) λ_ _ z=>False.elim z
end
section
variable{X:Cx}{st:Stmt}{bW:List Stmt}{t u:TS}{e:Expr}{te:TE}{pos:Pos}
noncomputable def Hf:TS:=λD σ H=>D.nx σ H
noncomputable def JO(t u:TS):TS:=λD σ H=>t { D with nx:=u D } σ H
def B0:PSs X [] Hf:=λ_ _ σ H _ I h=>wpAny_execs_nil ⟨σ,H,I,h⟩
def yQ(h1:PS X st t)(h2:PSs X bW u):PSs X (st::bW) (JO t u):=by
 intro pins s σ H D I h;refine wpAny_execs_cons (thn (h1 pins s σ H { D with nx:=u D } I h) λf z q=>?_);cases f with
 |next =>
  obtain⟨F,H',J,q⟩:=q;exact h2 pins z F H' D J q
 | _=>exact q
def Inv.quiet(I:Inv X pins σ H s):interactive X.env=false:=by simp[interactive,I.ok.kind]
noncomputable def Hg(te:TE):TS:=λD σ H=>te σ H λ_ H1=>D.nx σ H1
def qG(z:PE X e te)(hs:swapsWith e none pos.line X.env=pure false:=by rfl):PS X (.Expr e pos) (Hg te):=by
 intro pins s σ H D I h;exact wpAny_Expr_any (thn (z pins s σ H _ I h) λv Y ⟨x,H1,J,Z,U⟩=>⟨σ,H1,J,U⟩) I.quiet hs
noncomputable def JP(te:TE):TS:=λD σ H=>te σ H D.rt
def qH(z:PE X e te):PS X (.Return (some e) pos) (JP te):=by
 intro pins s σ H D I h;exact wpAny_Return_some (thn (z pins s σ H _ I h) λv Z ⟨x,H1,J,U,Y⟩=>⟨x,σ,H1,J,U,Y⟩)
noncomputable def JQ(c:TT)(t u:TS):TS:=λD σ H=>c σ H λb H1=>if b=true then t D σ H1 else u D σ H1
def Hh(hc:PT X c tc)(Y:PSs X a t)(Z:PSs X b u):PS X (.If c a b pos) (JQ tc t u):=by
 intro pins s σ H D I h;refine wpAny_If (thn (hc pins s σ H _ I h) λd z ⟨H1,J,U⟩=>?_);cases d<;>first|exact Y pins z σ H1 D J U|exact Z pins z σ H1 D J U
noncomputable def Et:TS:=λ_ _ _=>False
def yR:PS X st Et:=λ_ _ _ _ _ _ h=>h.elim
end
noncomputable abbrev TG:=V->St->Hp->(St->Hp->Prop)->Prop
noncomputable abbrev TGs:=List V->St->Hp->(St->Hp->Prop)->Prop
def PG(X:Cx)(target:Expr)(t:TG):Prop:=
 ∀pins s (σ:St) H v u Q,Inv X pins σ H s->aF v u->t v σ H Q ->
  wpAny (model X.prog X.w) X.A (assign target X.env u) (λ_ s'=>∃F H',Inv X pins F H' s'/\Q F H') X.xe s
def PGs(X:Cx)(z:List Expr)(t:TGs):Prop:=
 ∀pins s (σ:St) H vs us Q,Inv X pins σ H s->aI vs us->t vs σ H Q ->
  wpAny (model X.prog X.w) X.A (assignInOrder ((assignEach z X.env).map (·.2)) us) (λ_ s'=>∃F H',Inv X pins F H' s'/\Q F H') X.xe s
noncomputable abbrev JR:=V->V->V->Hp->(Hp->Prop)->Prop
section
variable{X:Cx}{pos:Pos}
noncomputable def jD(i:Nat):TG:=λv σ H Q=>Q (σ.set i (some v)) H
def mN(z:X.N.Nodup)(hi:X.N[i]?=some x)(hx:Loc X.env.scope x)(J:X.fn x=true\/X.env.scope.names.lookup x=some .local:=by first|exact .inl rfl|exact .inr rfl|assumption):PG X (.Name x pos) (jD i):=by
 intro pins s σ H v u Q I r h;exact wpAny_assign_Name (sj I z hi hx r (λs' U=>⟨_,H,U,h⟩) J)
noncomputable def Hi:TGs:=λvs σ H Q=>vs=[]/\Q σ H
noncomputable def DJ(t:TG)(u:TGs):TGs:=λvs σ H Q=>∃v r,vs=v::r/\t v σ H λF H'=>u r F H' Q
def B1:PGs X [] Hi:=by
 intro pins s σ H vs us Q I r h;obtain⟨e,h⟩:=h;subst e;cases r;exact assignInOrder_nil ⟨σ,H,I,h⟩
def yS(h1:PG X e t)(h2:PGs X es u)
  (hs:(assignEach (e::es) X.env).map (·.2)=assign e X.env::(assignEach es X.env).map (·.2):=by rfl):PGs X (e::es) (DJ t u):=by
 intro pins s σ H vs us Q I r h;obtain⟨v,vr,J,h⟩:=h;subst J;cases r with
 |cons r U =>
  rw[hs];refine assignInOrder_cons (thn (h1 pins s σ H _ _ _ I r h) λ_ Y ⟨z,H1,Z,q1⟩=>?_);exact h2 pins Y z H1 _ _ Q Z U q1
noncomputable def Hj(K:N0)(n:Nat)(t:TGs):TG:=λv σ H Q=>∃a xs,v=.ref a/\SqT K H a xs/\xs.length=n/\t xs σ H Q
def Eu{k:Nat}(hc:X.calm=true)(h:PGs X es t)
  (U:(assignEach es X.env).length=n:=by rfl) (z:(assignEach es X.env).findIdx? (·.1)=none:=by rfl):PG X (.Tuple es k pos) (Hj X.K n t):=by
 intro pins s σ H v u Q I r hw;refine aB λZq Y=>?_
 obtain⟨a,xs,Z,hq,hl,hw⟩:=hw;subst Z;cases r;obtain⟨its,J,ht,hz⟩:=I.tuple hq;refine Y ?_;refine assign_Tuple_tuple (I.ok.hd hc) ht (by simp[U,<- hl,J.length]) z λh' hx=>?_
 have I1:=I.kept (t':=s.toks) λb o e=>hx b o (tr (pd e)) e
 exact h pins _ σ H xs _ Q I1 (by simpa using J) hw
noncomputable def yT(te:TE)(g:TG):TS:=λD σ H=>te σ H λx H1=>g x σ H1 D.nx
def jR(z:X.N.Nodup)(hi:X.N[i]?=some x)(hx:Loc X.env.scope x)(J:PE X e te)(hs:swapsWith e (some (.Name x pos')) pos.line X.env=pure false:=by rfl)(U:X.fn x=true\/X.env.scope.names.lookup x=some .local:=by first|exact .inl rfl|exact .inr rfl|assumption) :
  PS X (.Assign [.Name x pos'] e pos) (yT te (jD i)):=by
 intro pins s σ H D I h;refine wpAny_Assign_Name (thn (J pins s σ H _ I h) λv s1 ⟨y,H1,Y,Z,q1⟩=>?_) hs;exact sj Y z hi hx Z (λs2 I2=>⟨_,H1,I2,q1⟩) U
end
structure It where
 go:Nat->Hp->Prop
 yld:Nat->Hp->V->Hp->Prop
 stop:Nat->Hp->Prop
def lc(X:Cx)(pins:List (Addr×Obj))(H:Hp)(b:Addr):Prop:=
 H b=none/\b≠X.env.locals/\b∉X.fs/\(b∈X.ex\/X.s₀.heap.objs.size<=b)/\(∀x c,X.env.cells.lookup x=some c->c≠b)/\∀p∈X.pn++pins,p.1≠b
theorem Inv.fpOk{σ:St}{H H':Hp}{s:Shared}{b:Addr}(I:Inv X pins σ H s)(J:s.heap.objs.size<=b)(U:H' b=none):lc X pins H' b:=by
 refine⟨U,Lr (Kt I.lt J),I.nofs J,.inr (pe I.sz J),λx c e z=>?_,λp Y z=>?_⟩
 .obtain⟨v,q⟩:=I.cell x c e;exact absurd (Kt q.lt (by rw[z];exact J)) (K5 _)
 .exact absurd (Kt (pd (I.pin p Y).1) (by rw[z];exact J)) (K5 _)
structure uE(P:Program)(w:World)(K:N0)(tg:Expr)(J:It)(fp:List Addr)(it:Addr)(tn:Nat->Heap->Prop):Prop where
 mem:it∈fp
 obj:∀i h,tn i h->∀b∈fp,∃o,h.get? b=some o/\∀v,o.data≠.cell v
 keep:∀i h h',tn i h->(∀b∈fp,∀o,h.get? b=some o->h'.get? b=some o)->tn i h'
 item:∀(X:Cx),X.prog=P->X.w=w->X.K=K->X.calm=true->∀(i:Nat) (pins:List (Addr×Obj)) (s:Shared) (σ:St) (H:Hp) (E:Value->Shared->Prop),Inv X pins σ H s->(∀b∈fp,lc X pins H b)->tn i s.heap->J.go i H ->
  wpAny (model P w) X.A (pyNext (.ref it)) (λr s1=>∃u,r=some u /\
   wpAny (model P w) X.A (letOwnedTupleGo tg (.ref it) u) (λ_ s2=>∃x H',Inv X pins σ H' s2/\aF x u/\J.yld i H x H'/\tn (i+1) s2.heap/\∀b∈fp,H' b=none) E s1) E s
 done:∀(X:Cx),X.prog=P->X.w=w->X.K=K->X.calm=true->∀(i:Nat) (pins:List (Addr×Obj)) (s:Shared) (σ:St) (H:Hp) (E:Value->Shared->Prop),Inv X pins σ H s->(∀b∈fp,lc X pins H b)->tn i s.heap->J.stop i H ->
  wpAny (model P w) X.A (pyNext (.ref it)) (λr s1=>r=none/\Inv X pins σ H s1) E s
 self:∀(A:Around) (i:Nat) (s:Shared) (Q:Value->Shared->Prop) (E:Value->Shared->Prop),tn i s.heap->Q (.ref it) s->wpAny (model P w) A (pyIter (.ref it)) Q E s
noncomputable abbrev TI:=St->Hp->(It->Hp->Prop)->Prop
def PIE(X:Cx)(pins:List (Addr×Obj))(σ:St)(tg:Expr)(R:It->Hp->Prop)(z:Value)(U:Shared):Prop:=
 ∃it fp Y J H',z=.ref it/\Inv X pins σ H' U/\uE X.prog X.w X.K tg J fp it Y/\Y 0 U.heap/\(∀b∈fp,lc X pins H' b)/\R J H'
def PI(X:Cx)(tg iter:Expr)(wi:TI):Prop:=
 ∀pins s (σ:St) H R,Inv X pins σ H s->wi σ H R ->
  wpAny (model X.prog X.w) X.A (eval iter X.env) (λv z=>wpAny (model X.prog X.w) X.A (pyIter v) (PIE X pins σ tg R) X.xe z) X.xe s
def yU{s:Shared}{tg:Expr}{it:Addr}{u:Value}{o:Obj}{n:String}{vs:Array Value}{Q:Unit->Shared->Prop}(ho:s.heap.get? it=some o)(hc:o.cls=.type n)(hd:o.data=.fields vs)
    (hn:["enumerate","zip","dict_itemiterator","dict_reverseitemiterator","odict_iterator","itertools.zip_longest","itertools.pairwise"].contains n=false) (hQ:Q () s):wpAny M A (letOwnedTupleGo tg (.ref it) u) Q E s:=by
  unfold letOwnedTupleGo;cases tg<;>first
    | exact gf hQ
    | (cases u<;>first
        | exact gf hQ
        | (refine ez (wpAny_load ho ?_)
           rw[hc,hd];show wpAny M A (if (["enumerate","zip","dict_itemiterator","dict_reverseitemiterator","odict_iterator","itertools.zip_longest","itertools.pairwise"].contains n&&vs[0]?==some (rawInt _))=true then _ else _) Q E s;rw[if_neg (by intro h;rw[hn,Nq]at h;cases h)];exact gf hQ))
noncomputable def Itl(K:N0)(a:Addr):It:=
 ⟨λi H=>∃xs x,SqL K H a xs/\xs[i]?=some x,λi H x H'=>H'=H/\∀xs,SqL K H a xs->xs[i]?=some x,λi H=>∃xs,SqL K H a xs/\xs.length<=i⟩
noncomputable def Itt(K:N0)(a:Addr):It:=
 ⟨λi H=>∃xs x,SqT K H a xs/\xs[i]?=some x,λi H x H'=>H'=H/\∀xs,SqT K H a xs->xs[i]?=some x,λi H=>∃xs,SqT K H a xs/\xs.length<=i⟩
noncomputable def Itr(lo:Int)(n:Nat):It:=⟨λi _=>i<n,λi H x H'=>H'=H/\x=.int (lo+i),λi _=>n<=i⟩
def xu{K:N0}(a it):uE P w K tg (Itl K a) [it] it (λi h=>h.IsListIter it a i) where
 mem:=by simp
 obj:=λi h st b z=>by
  obtain⟨o,e,c,d⟩:=st
  simp_all
 keep:=λi h h' st k=>st.at λo e=>k it (by simp) o e
 item:=by
  intro X Z hw hK hc i pins s σ H E I U st hg;refine aB λZq kq=>?_
  subst Z hw hK;obtain⟨xs,x,Y,hx⟩:=hg;obtain⟨its,rv,p,hz⟩:=I.list Y;obtain⟨u,hu,ru⟩:=rv.get hx;obtain⟨f0,f1,f2,f3,f4,f5⟩:=U it (by simp);refine kq ?_;refine wpAny_pyNext_list_item st p.isList (by simpa using hu) λh' J sb=>?_
  have I1:=I.turned (t':=s.toks) (λb o z e=>(sb.2 b z).trans e) f0 f1 f3 f4 f5;obtain⟨o,e,c,d⟩:=id J;exact⟨u,rfl,yU e c d (by decide) ⟨x,H,I1,ru,⟨rfl,λys hy=>by rw[I.list_inj hy Y];exact hx⟩,J,λb z=>(U b z).1⟩⟩
 done:=by
  intro X Z hw hK hc i pins s σ H E I U st hg;refine aB λZq kq=>?_
  subst Z hw hK;obtain⟨xs,Y,hx⟩:=hg;obtain⟨its,rv,p,hz⟩:=I.list Y;obtain⟨f0,f1,f2,f3,f4,f5⟩:=U it (by simp);have hl:=rv.length;refine kq ?_;exact wpAny_pyNext_list_end (I.ok.hd hc) st p.isList (by simp;omega) λh' eb=>⟨rfl,I.turned (λb o z e=>eb b o z e) f0 f1 f3 f4 f5⟩
 self:=λ_ _ _ _ _ st h=>wpAny_pyIter_listiter st h
def uF{K:N0}(a it):uE P w K tg (Itt K a) [it] it (λi h=>h.IsTupleIter it a i) where
 mem:=by simp
 obj:=λi h st b z=>by
  obtain⟨o,e,c,d⟩:=st
  simp_all
 keep:=λi h h' st k=>st.at λo e=>k it (by simp) o e
 item:=by
  intro X Z hw hK hc i pins s σ H E I U st hg;refine aB λZq kq=>?_
  subst Z hw hK;obtain⟨xs,x,Y,hx⟩:=hg;obtain⟨its,rv,p,hz⟩:=I.tuple Y;obtain⟨u,hu,ru⟩:=rv.get hx;obtain⟨f0,f1,f2,f3,f4,f5⟩:=U it (by simp);refine kq ?_;refine wpAny_pyNext_tuple_item st (show s.heap.IsTuple a its.toArray from p) (by simpa using hu) λh' J sb=>?_
  have I1:=I.turned (t':=s.toks) (λb o z e=>(sb.2 b z).trans e) f0 f1 f3 f4 f5;obtain⟨o,e,c,d⟩:=id J;exact⟨u,rfl,yU e c d (by decide) ⟨x,H,I1,ru,⟨rfl,λys hy=>by rw[I.tuple_inj hy Y];exact hx⟩,J,λb z=>(U b z).1⟩⟩
 done:=by
  intro X Z hw hK hc i pins s σ H E I U st hg;refine aB λZq kq=>?_
  subst Z hw hK;obtain⟨xs,Y,hx⟩:=hg;obtain⟨its,rv,p,hz⟩:=I.tuple Y;obtain⟨f0,f1,f2,f3,f4,f5⟩:=U it (by simp);have hl:=rv.length;refine kq ?_;exact wpAny_pyNext_tuple_end (I.ok.hd hc) st (show s.heap.IsTuple a its.toArray from p) (by simp;omega) λh' eb=>⟨rfl,I.turned (λb o z e=>eb b o z e) f0 f1 f3 f4 f5⟩
 self:=λ_ _ _ _ _ st h=>wpAny_pyIter_tupleiter st h
def uG{K:N0}(it)(lo)(n):uE P w K tg (Itr lo n) [it] it (λi h=>IsRangeIter h it (lo+(i:Nat)*1) ((n:Int)-(i:Nat)) 1) where
 mem:=by simp
 obj:=λi h st b z=>by
  simp_all
 keep:=λi h h' st k=>k it (by simp) _ st
 item:=by
  intro X hP hw hK hc i pins s σ H E I U st Y;subst hP hw hK;obtain⟨Z,f1,f2,f3,f4,f5⟩:=U it (by simp);have W:=Walks.range (prog:=X.prog) (w:=X.w) (I.ok.hd hc) it lo 1 n;refine W.item i s _ _ Y st λv h' tk hv J kk=>?_
  obtain⟨t,rfl⟩:=hv;have I1:Inv X pins σ H { s with heap:=h',toks:=tk }:=I.turned (λb o z e=>kk b o (by simpa using z) e) Z f1 f3 f4 f5;refine⟨_,rfl,yU J rfl rfl (by decide) ⟨.int _,H,I1,⟨t,?_⟩,⟨rfl,rfl⟩,J,λb z=>(U b z).1⟩⟩;rw[Int.mul_one]
 done:=by
  intro X hP hw hK hc i pins s σ H E I U st Y;obtain⟨Z,f1,f2,f3,f4,f5⟩:=U it (by simp);exact wpAny_pyNext_range_end (I.ok.hd hc) st (by have:n<=i:=Y;omega) λh' eb=>⟨rfl,I.turned (λb o z e=>eb b o z e) Z f1 f3 f4 f5⟩
 self:=λ_ _ _ _ _ st h=>wpAny_pyIter_rangeiter st h
section
variable{X:Cx}{tg:Expr}
noncomputable def Hk(K:N0)(tl:TE):TI:=λσ H R=>tl σ H λx H1=>∃a,x=.ref a/\(∃xs,SqL K H1 a xs)/\R (Itl K a) H1
noncomputable def JT(K:N0)(tl:TE):TI:=λσ H R=>tl σ H λx H1=>∃a,x=.ref a/\(∃xs,SqT K H1 a xs)/\R (Itt K a) H1
def vW(U:PE X l tl):PI X tg l (Hk X.K tl):=by
 intro pins s σ H R I h;refine thn (U pins s σ H _ I h) λv J ⟨x,H1,z,Y,Z⟩=>?_
 obtain⟨a,e,⟨xs,hq⟩,q⟩:=Z;subst e;cases Y;obtain⟨its,rv,p,hz⟩:=z.list hq;refine Ml p.isList ?_;refine⟨J.heap.objs.size,[J.heap.objs.size],_,_,H1,rfl,z.kept λb o e=>gk _ e,xu a _,⟨_,r4 _ rfl,rfl,rfl⟩,λb hb=>?_,q⟩;have e:b=J.heap.objs.size:=by simpa using hb
 subst e;exact z.fpOk (g4 _) (z.hok.fresh (g4 _))
def yV(U:PE X l tl):PI X tg l (JT X.K tl):=by
 intro pins s σ H R I h;refine thn (U pins s σ H _ I h) λv z ⟨x,H1,J,Y,Z⟩=>?_
 obtain⟨a,e,⟨xs,hq⟩,q⟩:=Z;subst e;cases Y;obtain⟨its,rv,p,hz⟩:=J.tuple hq;refine MP (show z.heap.IsTuple a its.toArray from p) ?_;refine⟨z.heap.objs.size,[z.heap.objs.size],_,_,H1,rfl,J.kept λb o e=>gk _ e,uF a _,⟨_,r4 _ rfl,rfl,rfl⟩,λb hb=>?_,q⟩;have e:b=z.heap.objs.size:=by simpa using hb
 subst e;exact J.fpOk (g4 _) (J.hok.fresh (g4 _))
def sk{σ:St}{H:Hp}{s:Shared}{R:It->Hp->Prop}{E:Value->Shared->Prop}{lo hi:Int}{t u v:Tok}{tk:Nat}(I:Inv X pins σ H s)(h1:-(2 ^ 62)<=lo)(h2:lo<2 ^ 62)(J:-(2 ^ 62)<=hi)(U:hi<2 ^ 62)
  (q:R (Itr lo (hi-lo).toNat) H):wpAny (model X.prog X.w) X.A (pyIter (.ref s.heap.objs.size)) (PIE X pins σ tg R) E { s with heap:=s.heap.push { cls:=.type "range",data:=.fields #[.int lo t,.int hi u,.int 1 v] },toks:=tk }:=by
 refine wpAny_pyIter_range (IsRange.new ..) (small_one h1 h2 J U) ?_;have z:Inv X pins σ H { s with heap:=s.heap.push { cls:=.type "range",data:=.fields #[.int lo t,.int hi u,.int 1 v] },toks:=tk }:=I.kept λb o e=>gk _ e
 refine⟨(s.heap.push { cls:=.type "range",data:=.fields #[.int lo t,.int hi u,.int 1 v] }).objs.size,[(s.heap.push { cls:=.type "range",data:=.fields #[.int lo t,.int hi u,.int 1 v] }).objs.size],_,_,H,rfl,
  z.kept (t':=tk) λb o e=>gk _ e,uG _ lo (hi-lo).toNat,?_,λb Y=>?_,q⟩
 .have Z:lo+((0:Nat):Int)*1=lo:=by simp
  have e2:(((hi-lo).toNat:Nat):Int)-((0:Nat):Int)=Builtin.Range.rangeSize lo hi 1:=by rw[rangeSize_one];split<;>omega
  show IsRangeIter _ _ (lo+((0:Nat):Int)*1) ((((hi-lo).toNat:Nat):Int)-((0:Nat):Int)) 1;rw[Z,e2];exact r4 _ rfl
 .have e:b=(s.heap.push { cls:=.type "range",data:=.fields #[.int lo t,.int hi u,.int 1 v] }).objs.size:=by simpa using Y
  subst e;exact z.fpOk (g4 _) (z.hok.fresh (g4 _))
noncomputable def Hl(ta:TA):TI:=λσ H R=>ta σ H λvs H1=>∃j,vs=[.int j]/\-(2 ^ 62)<=j/\j<2 ^ 62/\R (Itr 0 j.toNat) H1
noncomputable def Hm(ta:TA):TI:=λσ H R=>ta σ H λvs H1=>∃i j,vs=[.int i,.int j]/\(-(2 ^ 62)<=i/\i<2 ^ 62/\-(2 ^ 62)<=j/\j<2 ^ 62)/\R (Itr i (j-i).toNat) H1
def pK (J:Gl X "range") (U:X.mg "range"=none) (Y:PA X [a] ta) (hs:starEach [a] X.env=[(false,eval a X.env)]:=by rfl):PI X tg (.Call (.Name "range" p) [a] [] pos) (Hl ta):=by
 intro pins s σ H R I h;refine Call_ (iV I J U boot_range (Li (thn (Y pos pins s σ H _ I h) λus s1 ⟨vs,H1,Z,r1,z⟩=>?_) hs rfl));obtain⟨j,e,z,q2,q⟩:=z;subst e;cases r1 with
 |cons r rr =>
  cases rr;obtain⟨t,rfl⟩:=r;exact call_range_1 (sk Z (by omega) (by omega) z q2 (by simpa using q))
def xv (Y:Gl X "range") (Z:X.mg "range"=none) (ha:PA X [a,b] ta) (hs:starEach [a,b] X.env=[(false,eval a X.env),(false,eval b X.env)]:=by rfl) (z:starEach [b] X.env=[(false,eval b X.env)]:=by rfl) :
  PI X tg (.Call (.Name "range" p) [a,b] [] pos) (Hm ta):=by
 intro pins s σ H R I h;refine Call_ (iV I Y Z boot_range (Li (thn (ha pos pins s σ H _ I h) λus s1 ⟨vs,H1,I1,r1,J⟩=>?_) (by rw[hs,z]) (by rw[z];rfl)));obtain⟨i,j,e,⟨J,q2,q3,q4⟩,q⟩:=J;subst e;cases r1 with
 |cons r U =>
  cases U with
  |cons r' U =>
   cases U;obtain⟨t,rfl⟩:=r;obtain⟨t',rfl⟩:=r';exact call_range_2 (sk I1 J q2 q3 q4 q)
noncomputable def Ev(wi:TI)(g:TG)(tb:TS):TS:=λD σ H=>wi σ H λJ H1=>∃W:Nat->Nat->St->Hp->Prop,(∃m,W 0 m σ H1)/\∀i m σ H,W i m σ H ->
 (J.stop i H/\D.nx σ H)\/(J.go i H/\∃N,(∀F H',N F H'->∃U,U<m/\W (i+1) U F H')/\∀x H',J.yld i H x H'->g x σ H' λz H2=>tb { D with nx:=N,ct:=N,bk:=D.nx } z H2)
noncomputable def nj(fp:List Addr)(h:Heap):List (Addr×Obj):=fp.filterMap λb=>(h.get? b).map λo=>(b,o)
def iq(z:b∈fp)(e:h.get? b=some o):(b,o)∈nj fp h:=mem_filterMap.mpr ⟨b,z,by rw[e];rfl⟩
def xw(z:p∈nj fp h):p.1∈fp/\h.get? p.1=some p.2:=by
 obtain⟨b,J,e⟩:=mem_filterMap.mp z;cases q:h.get? b with
 |none=>rw[q]at e;cases e
 |some o =>
  rw[q]at e;have U:=Kw e;subst U;exact⟨J,q⟩
def Inv.pinned(I:Inv X pins σ H s)(U:∀b∈fp,lc X pins H b)(ho:∀b∈fp,∃o,s.heap.get? b=some o/\∀v,o.data≠.cell v):Inv X (pins++nj fp s.heap) σ H s:=
 I.pins_of λp Y=>(LS.mp Y).elim (λz=>I.pin p (Ld _ z)) λz=>by
  obtain⟨J,e⟩:=xw z;obtain⟨Z,f1,f2,_⟩:=U p.1 J;obtain⟨o,e',d⟩:=ho p.1 J
  simp_all
def Inv.unpinned(I:Inv X (pins++J) σ H s):Inv X pins σ H s:=I.pins_of λp z=>I.pin p (Ld _ (Na _ z))
def uH{iter:Expr}(hp:PassesOwn (model X.prog X.w) X.A X.env X.xe)(hc:X.calm=true)(hi:PI X tg iter wi)(hg:PG X tg g)(U:PSs X body tb)(hs:∀x,foldedSetIterable iter X.env x=pure x:=by intro _;rfl):PS X (.For tg iter body [] pos) (Ev wi g tb):=by
 intro pins s σ H D I h;refine wpAny_For (thn (hi pins s σ H _ I h) λv s1 h1=>thn h1 λcl s2 h2=>?_) hs;refine aB λZq kq=>?_
 obtain⟨it,fp,tn,J,H2,e,I2,T,a6,f2,W,⟨m0,w0⟩,turn⟩:=h2;subst e;have Y:∀{H'},(∀b∈fp,H' b=none)->∀b∈fp,lc X pins H' b:=λhn b U=>⟨hn b U,(f2 b U).2⟩
 refine kq ?_;refine codeAny_forLoop_any (λn s'=>∃i F H',Inv X pins F H' s'/\tn i s'.heap/\(∀b∈fp,H' b=none)/\W i n F H') ?_ m0 ⟨0,σ,H2,I2,a6,λb U=>(f2 b U).1,w0⟩;rintro n s3 ⟨i,Z,H3,I3,a3,a4,w3⟩;rcases turn i n Z H3 w3 with⟨stop,qn⟩|⟨go,N,hN,step⟩
 .refine ML hp (thn (T.done X rfl rfl rfl hc i pins s3 Z H3 X.xe I3 (Y a4) a3 stop) λr s4 ⟨hr,I4⟩=>?_);subst hr;exact wpAny_execs_nil ⟨Z,H3,I4,qn⟩
 .refine ML hp (thn (T.item X rfl rfl rfl hc i pins s3 Z H3 X.xe I3 (Y a4) a3 go) λr s4 ⟨u,hr,h4⟩=>?_);subst hr;refine ML hp (thn h4 λ_ s5 ⟨x,H5,I5,r5,y5,a0,a8⟩=>?_);have a9:=I5.pinned (Y a8) (T.obj _ _ a0);refine ML hp (thn (hg _ s5 Z H5 x u _ a9 r5 (step x H5 y5)) λ_ s6 ⟨bA,H6,I6,q6⟩=>?_);refine ML hp (thn (U _ s6 bA H6 _ I6 q6) λf s7 q7=>?_);have again:∀{z}{H7},Inv X (pins++nj fp s5.heap) z H7 s7->N z H7->∃m,m<n/\∃i F H',Inv X pins F H' s7/\tn i s7.heap/\(∀b∈fp,H' b=none)/\W i m F H':=λ{z H7} I7 n7=>by
   obtain⟨m',hm,w7⟩:=hN z H7 n7;refine⟨m',hm,i+1,z,H7,I7.unpinned,T.keep _ _ _ a0 λb U o e=>(I7.pin (b,o) (Ld _ (Ld _ (iq U e)))).1,λb U=>?_,w7⟩;obtain⟨o,e,d⟩:=T.obj _ _ a0 b U;exact(I7.pin (b,o) (Ld _ (Ld _ (iq U e)))).2.1
  cases f<;>first|(obtain⟨z,H7,I7,n7⟩:=q7;exact again I7 n7)|(obtain⟨z,H7,I7,q7⟩:=q7;exact⟨z,H7,I7.unpinned,q7⟩)|(obtain⟨x7,z,H7,I7,r7,q7⟩:=q7;exact⟨x7,z,H7,I7.unpinned,r7,q7⟩)
end
noncomputable abbrev R2:=V->V->Hp->VK->Prop
def OpR(X:Cx)(f:Value->Value->Sem Value)(r:R2):Prop:=
 ∀pins s (σ:St) H x y v u Q,Inv X pins σ H s->aF x v->aF y u->r x y H Q ->
  wpAny (model X.prog X.w) X.A (f v u) (EP X pins σ Q) X.xe s
def bC(X:Cx)(f:Value)(r:List V->Hp->VK->Prop):Prop:=
 ∀pins s (σ:St) H xs us Q,Inv X pins σ H s->aI xs us->r xs H Q ->
  wpAny (model X.prog X.w) X.A (call f us) (EP X pins σ Q) X.xe s
noncomputable def tOp(r:R2)(ta tb:TE):TE:=λσ H Q=>ta σ H λx H1=>tb σ H1 λy H2=>r x y H2 Q
noncomputable def rI(C:Int->Int->Prop)(g:Int->Int->V):R2:=λx y H Q=>∃i j,x=.int i/\y=.int j/\C i j/\Q (g i j) H
noncomputable def rI0(g:Int->Int->V):R2:=λx y H Q=>∃i j,x=.int i/\y=.int j/\Q (g i j) H
section
variable{X:Cx}{a b c:Expr}{ta tb tc:TE}{pos:Pos}
def Ew(Y:PE X a ta)(Z:PE X b tb){R:V->V->Hp->Prop}(I:Inv X pins σ H s)
  (h:ta σ H λx H1=>tb σ H1 λy H2=>R x y H2) {f:Value->Value->Sem Value}
  (hf:∀v u U x y H2,Inv X pins σ H2 U->aF x v->aF y u->R x y H2->wpAny (model X.prog X.w) X.A (f v u) Q X.xe U) :
  wpAny (model X.prog X.w) X.A (eval a X.env) (λv z=>wpAny (model X.prog X.w) X.A (eval b X.env) (λu J=>wpAny (model X.prog X.w) X.A (f v u) Q X.xe J) X.xe z) X.xe s:=by
 refine thn (Y pins s σ H _ I h) λv s1 ⟨x,H1,I1,r1,q1⟩=>?_
 refine thn (Z pins s1 σ H1 _ I1 q1) λu U ⟨y,H2,I2,r2,q2⟩=>?_
 exact hf v u U x y H2 I2 r1 r2 q2
def vX(ho:OpR X (binaryOp op) r)(z:PE X a ta)(J:PE X b tb):PE X (.BinOp a op b pos) (tOp r ta tb):=by
 intro pins s σ H Q I h;exact wpAny_BinOp (Ew z J I h λv u U x y H2 Y Z ry q=>ho pins U σ H2 x y v u Q Y Z ry q)
def opI{C:Int->Int->Prop}{g:Int->Int->Int}
  (rule:∀i j t u s Q E,C i j->Q (.int (g i j) s.toks) { s with toks:=s.toks+1 }->wpAny (model X.prog X.w) X.A (f (.int i t) (.int j u)) Q E s) :
  OpR X f (rI C λi j=>.int (g i j)):=by
 intro pins s σ H x y v u Q I z J h;obtain⟨i,j,rfl,rfl,hc,q⟩:=h;obtain⟨t,rfl⟩:=z;obtain⟨t',rfl⟩:=J;exact rule i j t t' s _ _ hc ⟨.int (g i j),H,I.tok _,⟨_,rfl⟩,q⟩
def Hn{g:Int->Int->Int}
  (rule:∀i j t u s Q E,Q (.int (g i j) s.toks) { s with toks:=s.toks+1 }->wpAny (model X.prog X.w) X.A (f (.int i t) (.int j u)) Q E s) :
  OpR X f (rI0 λi j=>.int (g i j)):=by
 intro pins s σ H x y v u Q I z J h;obtain⟨i,j,rfl,rfl,q⟩:=h;obtain⟨t,rfl⟩:=z;obtain⟨t',rfl⟩:=J;exact rule i j t t' s _ _ ⟨.int _,H,I.tok _,⟨_,rfl⟩,q⟩
def B2{g:Int->Int->Bool}
  (rule:∀i j t u s Q E,Q (.bool (g i j)) s->wpAny (model X.prog X.w) X.A (f (.int i t) (.int j u)) Q E s) :
  OpR X f (rI0 λi j=>.bl (g i j)):=by
 intro pins s σ H x y v u Q I z J h;obtain⟨i,j,rfl,rfl,q⟩:=h;obtain⟨t,rfl⟩:=z;obtain⟨t',rfl⟩:=J;exact rule i j t t' s _ _ ⟨.bl _,H,I,rfl,q⟩
def JU(i j:Int):Prop:=0<j/\j<1073741824
def JV(i j:Int):Prop:=0<=j/\j<=1000000/\i.natAbs<2 ^ 64
def Ex(i j:Int):Prop:=(-(2 ^ 64)<i/\i<2 ^ 64)\/(-(2 ^ 64)<j/\j<2 ^ 64)
theorem Ex.ok(h:Ex i j):IntMulOk i j:=by
 rcases h with⟨h1,h2⟩|⟨h1,h2⟩
 .exact .of_left (intBits_le_64 h1 h2)
 .exact .of_right (intBits_le_64 h1 h2)
def uI(k):(0:Int)<=2 ^ k:=
  Int.natCast_nonneg _
def Ey:OpR X (binaryOp .Add) (rI0 λi j=>.int (i+j)):=Hn λ_ _ _ _ _ _ _ q=>add_int q
def Ez:OpR X (binaryOp .Sub) (rI0 λi j=>.int (i-j)):=Hn λ_ _ _ _ _ _ _ q=>sub_int q
def EA:OpR X (binaryOp .Mult) (rI Ex λi j=>.int (i*j)):=opI λ_ _ _ _ _ _ _ hc q=>mul_int q hc.ok
def B3:OpR X (binaryOp .FloorDiv) (rI JU λi j=>.int (i / j)):=opI λi j _ _ _ _ _ hc q=>by
 have h1:=hc.1;have h2:=hc.2;exact floordiv_int (by omega) (by rw[Nz i (by omega)];exact q) (.inl (PyProof.noPylong_small (by omega)))
def EB:OpR X (binaryOp .Mod) (rI (λ_ j=>0<j) λi j=>.int (i % j)):=opI λi j _ _ _ _ _ hc q=>by
 exact mod_int' (by omega) (by rw[Int.fmod_eq_emod_of_nonneg i (by omega)];exact q)
def EC:OpR X (binaryOp .Pow) (rI JV λi j=>.int (i ^ j.toNat)):=opI λ_ _ _ _ _ _ _ hc q=>pow_int_small hc.1 hc.2.1 hc.2.2 q
def ED:OpR X (binaryOp .RShift) (rI (λ_ j=>0<=j) λi j=>.int (i / 2 ^ j.toNat)):=opI λi j _ _ _ _ _ hc q =>
 rshift_int hc (by rw[Nz i (uI _)];exact q)
end
noncomputable def scal:V->V->Bool
 | .non,.non=>true|.non,.int _=>true|.int _,.non=>true|.non,.bl _=>true|.bl _,.non=>true|.non,.str _=>true|.str _,.non=>true
 | .int _,.int _=>true|.bl _,.bl _=>true|.str _,.str _=>true|.byt _,.byt _=>true
 | .int _,.str _=>true|.str _,.int _=>true|.bl _,.str _=>true|.str _,.bl _=>true
 | _,_=>false
noncomputable def rNe:R2:=λx y H Q=>scal x y=true/\Q (.bl (!decide (x=y))) H
def vY :decide (V.int i=V.int j)=(i==j):=by
 rw[Lh];simp
def yW :decide (V.bl i=V.bl j)=(i==j):=by
 rw[Lh];simp
def vZ :decide (V.str i=V.str j)=(i==j):=by
 rw[Lh];simp
def B4 :decide (V.byt i=V.byt j)=(i.toList==j.toList):=by
 rw[Lh];cases i;cases j;simp
section
variable{X:Cx}{a b c:Expr}{ta tb tc:TE}{pos:Pos}
def cv{σ:St}{H:Hp}{s:Shared}{Q:VK}{k z:Bool}(I:Inv X pins σ H s)(q:Q (.bl k) H)(e:k=z):EP X pins σ Q (.bool z) s:=by
 subst e;exact⟨.bl k,H,I,rfl,q⟩
def Ho:OpR X (compareOp .NotEq) rNe:=by
 intro pins s σ H x y v u Q I J z h;obtain⟨hs,q⟩:=h;cases x with
 |non =>
  cases J;cases y with
  |non=>cases z;exact PySem.EqNone.ne_none_none (cv I q (by simp))
  |bl j=>cases z;exact PySem.EqNone.ne_none_bool (cv I q (by simp))
  |int j=>obtain⟨t',rfl⟩:=z;exact PySem.EqNone.ne_none_int (cv I q (by simp))
  |str j=>obtain⟨t',rfl⟩:=z;exact PySem.EqNone.ne_none_str (cv I q (by simp))
  | _=>exact absurd (show false=true from hs) mu
 |bl i =>
  cases J;cases y with
  |non=>cases z;exact PySem.EqNone.ne_bool_none (cv I q (by simp))
  |bl j=>cases z;exact ne_bool (cv I q (KN not yW))
  |str j=>obtain⟨t',rfl⟩:=z;exact PySem.EqMixed.ne_bool_str (cv I q (by simp))
  | _=>exact absurd (show false=true from hs) mu
 |int i =>
  obtain⟨t,rfl⟩:=J;cases y with
  |non=>cases z;exact PySem.EqNone.ne_int_none (cv I q (by simp))
  |int j=>obtain⟨t',rfl⟩:=z;exact ne_int (cv I q (KN not vY))
  |str j=>obtain⟨t',rfl⟩:=z;exact PySem.EqMixed.ne_int_str (cv I q (by simp))
  | _=>exact absurd (show false=true from hs) mu
 |str i =>
  obtain⟨t,rfl⟩:=J;cases y with
  |non=>cases z;exact PySem.EqNone.ne_str_none (cv I q (by simp))
  |bl j=>cases z;exact PySem.EqMixed.ne_str_bool (cv I q (by simp))
  |int j=>obtain⟨t',rfl⟩:=z;exact PySem.EqMixed.ne_str_int (cv I q (by simp))
  |str j=>obtain⟨t',rfl⟩:=z;exact ne_str (cv I q (KN not vZ))
  | _=>exact absurd (show false=true from hs) mu
 |byt i =>
  obtain⟨t,rfl⟩:=J;cases y with
  |byt j=>obtain⟨t',rfl⟩:=z;exact PySem.W.ne_bytes (cv I q (KN not B4))
  | _=>exact absurd (show false=true from hs) mu
 | _=>cases y<;>exact absurd (show false=true from hs) mu
def Hq:OpR X (compareOp .Lt) (rI0 λi j=>.bl (decide (i<j))):=B2 λ_ _ _ _ _ _ _ q=>lt_int q
def Hr:OpR X (compareOp .LtE) (rI0 λi j=>.bl (decide (i<=j))):=B2 λ_ _ _ _ _ _ _ q=>le_int q
def Hs:OpR X (compareOp .Gt) (rI0 λi j=>.bl (decide (j<i))):=B2 λ_ _ _ _ _ _ _ q=>gt_int q
def Ht:OpR X (compareOp .GtE) (rI0 λi j=>.bl (decide (j<=i))):=B2 λ_ _ _ _ _ _ _ q=>ge_int q
def EE:OpR X (compareOp .Is) (λx y H Q=>y=.non/\Q (.bl (decide (x=.non))) H):=by
 intro pins s σ H x y v u Q I z J h;obtain⟨rfl,q⟩:=h;cases J;refine is_none_gen (cv I q ?_);cases x<;>first
  | (cases z;rfl)
  | (obtain⟨t,rfl⟩:=z;rfl)
def B5:OpR X (compareOp .IsNot) (λx y H Q=>y=.non/\Q (.bl (!decide (x=.non))) H):=by
 intro pins s σ H x y v u Q I z J h;obtain⟨rfl,q⟩:=h;cases J;refine isnot_none_gen (cv I q ?_);cases x<;>first
  | (cases z;rfl)
  | (obtain⟨t,rfl⟩:=z;rfl)
def B6(ho:OpR X (compareOp op) r)(z:PE X a ta)(J:PE X b tb)(U:behindInMarks op b=false):PE X (.Compare a [op] [b] pos) (tOp r ta tb):=by
 intro pins s σ H Q I h;exact wpAny_Compare1 (Ew z J I h λv u Y x y H2 Z rx ry q=>ho pins Y σ H2 x y v u Q Z rx ry q) U
noncomputable def Hu(t:TE):TT:=λσ H Q=>t σ H λx H'=>∃k,x=.bl k/\Q k H'
def B7(ho:OpR X (compareOp op) r)(J:PE X a ta)(U:PE X b tb)(Y:behindInMarks op b=false):PT X (.Compare a [op] [b] pos) (Hu (tOp r ta tb)):=by
 intro pins s σ H Q I h;refine wpAny_isTrue_Compare1 (thn (J pins s σ H _ I h) λv Z ⟨x,H1,I1,r1,q1⟩=>thn (U pins Z σ H1 _ I1 q1) λu s2 ⟨y,H2,I2,r2,q2⟩ =>
  thn (ho pins s2 σ H2 x y v u _ I2 r1 r2 q2) λc s3 ⟨z,H3,I3,r3,k,e,q3⟩=>?_) Y
 subst e;cases r3;exact LA ⟨H3,I3,q3⟩
def lf:(sizeLine:Nat)<2 ^ 63:=by simp_all [K4]
def uJ:OpR X (binaryOp .Add) (λx y H Q=>∃i j,x=.str i/\y=.str j/\i.length+j.length<=sizeLine/\Q (.str (i++j)) H):=by
 intro pins s σ H x y v u Q I z J h;obtain⟨i,j,rfl,rfl,hz,q⟩:=h;obtain⟨t,rfl⟩:=z;obtain⟨t',rfl⟩:=J;exact add_str (λt' tk=>⟨.str _,H,I.tok _,⟨_,rfl⟩,q⟩) hz
def d9(r:aI [x] us):∃u,us=[u]/\aF x u:=by
 cases r with
 |cons z J=>cases J;exact⟨_,rfl,z⟩
def yX(r:aI [x,y] us):∃u z,us=[u,z]/\aF x u/\aF y z:=by
 cases r with
 |cons J U =>
  cases U with
  |cons Y Z=>cases Z;exact⟨_,_,rfl,J,Y⟩
def xy (hc:X.calm=true):bC X (.builtin "max") (λxs H Q=>∃i j,xs=[.int i,.int j]/\Q (.int (if j > i then j else i)) H):=by
 intro pins s σ H xs us Q I r h;obtain⟨i,j,rfl,q⟩:=h;obtain⟨u,J,rfl,⟨t,rfl⟩,⟨t',rfl⟩⟩:=yX r;refine max_two_ints (I.ok.hd hc) λh' tk k=>⟨_,H,I.kept k,?_,q⟩
 by_cases z:j > i
 .rw[if_pos z,if_pos z];exact⟨_,rfl⟩
 .rw[if_neg z,if_neg z];exact⟨_,rfl⟩
def xz (hc:X.calm=true):bC X (.builtin "min") (λxs H Q=>∃i j,xs=[.int i,.int j]/\Q (.int (if j<i then j else i)) H):=by
 intro pins s σ H xs us Q I r h;obtain⟨i,j,rfl,q⟩:=h;obtain⟨u,J,rfl,⟨t,rfl⟩,⟨t',rfl⟩⟩:=yX r;refine min_two_ints (I.ok.hd hc) λh' tk k=>⟨_,H,I.kept k,?_,q⟩
 by_cases z:j<i
 .rw[if_pos z,if_pos z];exact⟨_,rfl⟩
 .rw[if_neg z,if_neg z];exact⟨_,rfl⟩
def pL:bC X (.type "int") (λxs H Q=>(∃i,xs=[.int i]/\Q (.int i) H)\/∃k,xs=[.bl k]/\Q (.int (if k then 1 else 0)) H):=by
 intro pins s σ H xs us Q I r h;rcases h with⟨i,rfl,q⟩|⟨k,rfl,q⟩
 .obtain⟨u,rfl,t,rfl⟩:=d9 r;exact call_int_int ⟨.int i,H,I,⟨_,rfl⟩,q⟩
 .obtain⟨u,rfl,z⟩:=d9 r;cases z;exact call_int_bool ⟨.int _,H,I.tok _,⟨_,rfl⟩,q⟩
end
section
variable{prog:Program}{w:World}{A:Around}{E:Value->Shared->Prop}{s:Shared}{K:N0}{x dx C f:Addr}{mA:Str->Option Value}{name:Str}{v:Value}
end
def mF.some_of(r:mF (some v) o):∃u,o=some u/\aF v u:=by
 cases o with
 |none=>exact(show False from r).elim
 |some u=>exact⟨u,rfl,r⟩
section
variable{P:Program}{w:World}{H H':Hp}{h h':Heap}{a C dx:Addr}{fs fs':List (Str×V)}
end
section
variable{X:Cx}{pins:List (Addr×Obj)}{σ:St}{H:Hp}{s:Shared}{a C dx:Addr}{fs:List (Str×V)}{f:Str}{v:V}{A:Around}{E:Value->Shared->Prop}
end
section
variable{X:Cx}{o e value:Expr}{f:Str}{pos pos' tpos:Pos}{ta tv:TE}
end
section
variable{X:Cx}{pins:List (Addr×Obj)}{σ:St}{H:Hp}{s:Shared}{A:Around}{E:Value->Shared->Prop}{Q:Value->Shared->Prop}{c:Value}{b:Bool}
end
structure lh(k:Nat)(A:Around):Prop where
 hd:A.handled=none
 dp:A.depth+3*k+5<recursionLimit
 un:A.units+16*k+200<cLine
theorem lh.deeper(r:lh (k+1) A)(env):lh k (A.deeper env):=
 ⟨r.hd,by have:=r.dp;show A.depth+1+3*k+5<_;omega,by have:=r.un;show A.units+3+16*k+200<_;omega⟩
theorem lh.depth(r:lh k A):A.depth<recursionLimit:=by have:=r.dp;omega
noncomputable def Hv:TA:=λ_ H Q=>Q [] H
noncomputable def Hw(ta:TE)(z:TA):TA:=λσ H Q=>ta σ H λx H1=>z σ H1 λxs H2=>Q (x::xs) H2
section
variable{X:Cx}{e:Expr}{es:List Expr}{te:TE}{t:TA}{pos:Pos}
def bN:PA X [] Hv:=λ_ _ _ _ H Q I h=>ND ⟨[],H,I,.nil,h⟩
def aR(z:PE X e te)(J:PA X es t)(hs:starEach (e::es) X.env=(false,eval e X.env)::starEach es X.env:=by rfl):PA X (e::es) (Hw te t):=by
 intro pos pins s σ H Q I h;rw[hs];show wpAny _ _ (spliced ((false,eval e X.env)::backTo pos _)) _ _ s;refine MQ (thn (z pins s σ H _ I h) λu U ⟨x,H1,Y,Z,q1⟩=>?_);exact thn (J pos pins U σ H1 _ Y q1) λus s2 ⟨xs,H2,I2,r2,q2⟩=>⟨x::xs,H2,I2,.cons Z r2,q2⟩
noncomputable def JW(t:TA):TE:=λσ H Q=>t σ H λxs H1=>xs.length<=sizeLine/\∀p,H1 p=none->Q (.ref p) (upd H1 p (.tup xs))
noncomputable def JX(t:TA):TE:=λσ H Q=>t σ H λxs H1=>xs.length<=sizeLine/\∀p,H1 p=none->Q (.ref p) (upd H1 p (.lst xs))
def uK{Y}(h:PA X es t):PE X (.Tuple es Y pos) (JW t):=by
 intro pins s σ H Q I Z;refine wpAny_Tuple_spliced (thn (h pos pins s σ H _ I Z) λus J ⟨xs,H1,U,r,z,q⟩=>⟨by rw[<- r.length];exact z,?_⟩);have hf:=U.hok.fresh (g4 _);refine⟨.ref J.heap.objs.size,upd H1 J.heap.objs.size _,U.laid (λb u e=>gk _ e) (g4 _) ?_,rfl,q _ hf⟩;exact⟨z,us,r,⟨_,r4 _ rfl,rfl,_,rfl⟩⟩
def uL(h:PA X es t):PE X (.List es pos) (JX t):=by
 intro pins s σ H Q I Y;refine wpAny_List_spliced (thn (h pos pins s σ H _ I Y) λus J ⟨xs,H1,U,r,z,q⟩=>⟨by rw[<- r.length];exact z,?_⟩);have Z:=U.hok.fresh (g4 _);refine⟨.ref J.heap.objs.size,upd H1 J.heap.objs.size _,U.laid (λb u e=>gk _ e) (g4 _) ?_,rfl,q _ Z⟩;exact⟨z,us,0,r,r4 _ rfl⟩
end
noncomputable abbrev Sp:=List V->Hp->VK->XK->Prop
noncomputable abbrev CXT:=List Env->Hp->Shared->XK->Value->Shared->Prop
structure B8(P:Program)(w:World)(K:N0)(mg:Str->Option Value)(base:Heap)(A:Around)(outer:List Env)(s:Shared)(H:Hp):Prop where
 frames:A.frames=some outer
 mod:Mod K mg base
 bs:∀b o,base.get? b=some o->s.heap.get? b=some o/\H b=none
 bsz:base.objs.size<=s.heap.objs.size
 funs:s.heap.FunFrames base outer
 frf:∀b∈frs outer,H b=none
 hok:HOk P w H s.heap
 bare:AllBare s.gens
def CE(outer:List Env)(P:Program)(w:World)(H:Hp)(s:Shared)(Q:VK)(u:Value)(s':Shared):Prop:=
 ∃v H',s'.os=s.os/\AllBare s'.gens/\Un (frs outer) [] H H' s.heap s'.heap/\HOk P w H' s'.heap/\aF v u/\Q v H'
def CR(CX:CXT)(outer:List Env)(P:Program)(w:World)(H:Hp)(s:Shared)(Q:VK)(E:XK)(r:Result)(s':Shared):Prop:=
 match r with
 | .ok (.ret u)=>CE outer P w H s Q u s'
 | .ok _=>False
 | .error e=>CX outer H s E e s'
structure jS(P:Program)(w:World)(K:N0)(mg:Str->Option Value)(base:Heap)(CX:CXT)(k:Nat)(f:Addr)(fd:FuncData)(ps:List Str)(sp:Sp):Prop where
 len:∀vs H Q E,sp vs H Q E->vs.length=ps.length
 run:∀(A:Around) (outer:List Env) (s:Shared) (H:Hp) (args:Args) (us:List Value) (vs:List V) (Q:VK) (E:XK),lh k A->B8 P w K mg base A outer s H->BindsTo s fd args (ps.zip us)->aI vs us->sp vs H Q E ->
  codeAny (model P w) A (.call (.ref f) args) (CR CX outer P w H s Q E) s
section
variable{X:Cx}{pins:List (Addr×Obj)}{σ:St}{H:Hp}{s s':Shared}
theorem Inv.env0(I:Inv X pins σ H s):B8 X.prog X.w X.K X.mg X.base X.A X.stack s H:=
 ⟨I.ok.frames,I.ok.mod,I.bs,pe I.ok.bsz I.sz,I.stack,I.stkFree,I.hok,I.bare⟩
def Inv.after(I:Inv X pins σ H s)(h:CE X.stack X.prog X.w H s Q u s'):EP X pins σ Q u s':=by
 obtain⟨v,H',os,bare,un,hok,r,q⟩:=h;obtain⟨U,g,d,t,J⟩:=s';obtain rfl:J=s.os:=os;exact⟨v,H',I.call un hok bare (λb z=>absurd z (by simp)),r,q⟩
end
noncomputable def yY(sp:Sp)(dvs:List V)(E:XK)(t:TA):TE:=λσ H Q=>t σ H λvs H1=>sp (vs++dvs) H1 Q E
def di(K:N0)(fd:FuncData)(ps:List Str)(ds:List Value):Prop:=
 ∀s us,K.In s.heap->(us++ds).length=ps.length->BindsTo s fd ⟨us,[]⟩ (ps.zip (us++ds))
theorem di.all{K:N0}(h:∀us,us.length=ps.length->bindArgs fd ⟨us,[]⟩=pure (ps.zip us)):di K fd ps []:=λs us _ z=>by
 rw[LJ]at z ⊢;exact .of_eq (h us z)
def qI(CX:CXT)(X:Cx)(E:XK):Prop:=∀pins (σ:St) H s e s',Inv X pins σ H s->CX X.stack H s E e s'->X.xe e s'
section
variable{X:Cx}{CX:CXT}{k:Nat}{f C:Addr}{fd:FuncData}{ps:List Str}{sp:Sp}{dvs:List V}{ds:List Value}{E:XK}{x m:Str}{p pos apos:Pos}{e o:Expr}{es:List Expr}{ta:TE}{t:TA}
def yZ(F:jS X.prog X.w X.K X.mg X.base CX k f fd ps sp)(U:lh k X.A)(Y:di X.K fd ps ds)(hd:aI dvs ds)(hx:qI CX X E)
  (I:Inv X pins σ H s) (r:aI vs us) (h:sp (vs++dvs) H Q E):wpAny (model X.prog X.w) X.A (call (.ref f) us) (EP X pins σ Q) X.xe s:=by
 have J:=r.append hd;have Z:(us++ds).length=ps.length:=by rw[<- J.length];exact F.len _ _ _ _ h
 refine wpAny_call (Mq (F.run X.A X.stack s H ⟨us,[]⟩ (us++ds) (vs++dvs) Q E U I.env0 (Y s us I.kIn Z) J h) λr s' z=>?_);cases r with
 |error e=>exact hx pins σ H s e s' I z
 |ok fl =>
  cases fl with
  |ret u=>exact I.after z
  |next=>exact False.elim z
  |brk=>exact False.elim z
  |cont=>exact False.elim z
def mO(F:jS X.prog X.w X.K X.mg X.base CX k f fd ps sp)(Y:lh k X.A)(Z:Gl X x)(hm:X.mg x=some (.ref f))(hk:PySem.W.keepIn X.K (.ref f)=true)(hb:di X.K fd ps ds)(hd:aI dvs ds)(hx:qI CX X E)
  (ha:PA X (e::es) t) (z:(x==("__debug__":Str))=false:=by decide) (he:starEach (e::es) X.env=(false,eval e X.env)::starEach es X.env:=by rfl) (J:(backTo pos (starEach es X.env)).any (·.1)=false:=by rfl) :
  PE X (.Call (.Name x p) (e::es) [] pos) (yY sp dvs E t):=by
 intro pins s σ H Q I h;refine LW (qF I Z hm ?_ z);refine PySem.W.callWith_K I.ok.mod.kin hk (thn (ha pos pins s σ H _ I h) λus s1 ⟨vs,H1,U,r,q⟩=>⟨U.kIn,?_⟩) he J;exact yZ F Y hb hd hx U r q
def y0(F:jS X.prog X.w X.K X.mg X.base CX k f fd ps sp)(J:lh k X.A)(U:Gl X x)(Y:X.mg x=some (.ref f))(Z:PySem.W.keepIn X.K (.ref f)=true)(hb:di X.K fd ps ds)(hd:aI dvs ds)(hx:qI CX X E)
  (z:(x==("__debug__":Str))=false:=by decide):PE X (.Call (.Name x p) [] [] pos) (yY sp dvs E Hv):=by
 intro pins s σ H Q I h;refine LW (qF I U Y ?_ z);exact PySem.W.callWith_K0 I.kIn Z (yZ (us:=[]) F J hb hd hx I .nil h)
end
section
variable{X:Cx}{CX:CXT}{k:Nat}{f C:Addr}{fd:FuncData}{ps ks:List Str}{sp:Sp}{E:XK}{x m:Str}{p pos apos kpos:Pos}{e o:Expr}{es:List Expr}{kws:List Keyword}{te ta:TE}{t tk:TA}{nm:Option Str}
variable{g:List Value->List Value->List Value}{gV:List V->List V->List V}
end
structure qJ(N P:List Str)(sc:Scope):Prop where
 kind:sc.kind=.function
 co:sc.isCoroutine=false
 gen:sc.isGenerator=false
 nd:N.Nodup
 pre:N.take P.length=P
 par:∀x∈P,sc.names.lookup x=some .local\/sc.names.lookup x=some .cell
 nofree:∀y∈sc.names,y.2≠.free
theorem pM{kindOf:Str->Option NameKind} :∀{binds}{m},(∀v,(x,v)∉binds)->bindL kindOf binds m x=m x
 | [],_,_=>rfl
 | (n,v)::r,m,h=>by
  unfold bindL;rw[pM λw hw=>h w (Lg _ hw)];split
  .have:x≠n:=by rintro rfl;exact h v Ly
   simp[this]
  .rfl
theorem pN{kindOf:Str->Option NameKind} :∀{binds}{m},(∀v,(x,v)∉binds)->bindC kindOf binds m x=m x
 | [],_,_=>rfl
 | (n,v)::r,m,h=>by
  unfold bindC;rw[pN λw hw=>h w (Lg _ hw)];split
  .rfl
  .have:x≠n:=by rintro rfl;exact h v Ly
   simp[this]
theorem pO{kindOf:Str->Option NameKind}{x:Str}{v:Value}:∀{P:List Str}{vs}{i:Nat}{m},P.Nodup->P[i]?=some x->vs[i]?=some v->kindOf x=some .local ->
  bindL kindOf (P.zip vs) m x=some v
 | [],_,_,_,_,h,_,_=>by simp at h
 | _::_,[],_,_,_,_,h,_=>by simp at h
 |p::P,w::vs,0,m,nd,h1,h2,z=>by
  simp at h1 h2;subst h1;subst h2
  show bindL kindOf ((p,w)::P.zip vs) m p=_;unfold bindL;rw[pM λv hv=>(K7.mp nd).1 (of_mem_zip hv).1,if_pos z];simp
 |p::P,w::vs,i+1,m,nd,h1,h2,z=>by
  show bindL kindOf ((p,w)::P.zip vs) m x=_;exact pO (i:=i) (K7.mp nd).2 (by simpa using h1) (by simpa using h2) z
theorem pP{kindOf:Str->Option NameKind}{x:Str}{v:Value}:∀{P:List Str}{vs}{i:Nat}{m},P.Nodup->P[i]?=some x->vs[i]?=some v->kindOf x≠some .local ->
  bindC kindOf (P.zip vs) m x=some v
 | [],_,_,_,_,h,_,_=>by simp at h
 | _::_,[],_,_,_,_,h,_=>by simp at h
 |p::P,w::vs,0,m,nd,h1,h2,z=>by
  simp at h1 h2;subst h1;subst h2
  show bindC kindOf ((p,w)::P.zip vs) m p=_;unfold bindC;rw[pN λv hv=>(K7.mp nd).1 (of_mem_zip hv).1,if_neg z];simp
 |p::P,w::vs,i+1,m,nd,h1,h2,z=>by
  show bindC kindOf ((p,w)::P.zip vs) m x=_;exact pP (i:=i) (K7.mp nd).2 (by simpa using h1) (by simpa using h2) z
noncomputable def eV(N:List Str)(vs:List V):St:=vs.map some++replicate (N.length-vs.length) none
noncomputable def sm(CX:CXT)(P:Program)(w:World)(K:N0)(mg:Str->Option Value)(base:Heap)(N:List Str)(qual:Str)(scope:Scope)(f:Addr)(J:Value)(A:Around)(outer:List Env)(s:Shared)(H:Hp)(E:XK):Cx where
 prog:=P
 w:=w
 K:=K
 mg:=mg
 base:=base
 A:=A.deeper (envOfC qual scope s.heap.objs.size f J)
 N:=N
 s₀:=s
 H₀:=H
 env:=envOfC qual scope s.heap.objs.size f J
 outer:=outer
 stack:=envOfC qual scope s.heap.objs.size f J::outer
 ex:=[]
 calm:=true
 fn:=λ_=>true
 pn:=[]
 xe:=λe s'=>wpAny (model P w) (A.deeper (envOfC qual scope s.heap.objs.size f J)) (leaving (envOfC qual scope s.heap.objs.size f J) e) (λ_ z=>CX outer H s E e z) (λU z=>CX outer H s E U z) s'
def sn{sc:Scope}(h:sc.names.lookup x=some .cell):∃c,(cellsFrom n sc.names []).lookup x=some c:=by
 have q:=PySem.W.cellsFrom_some sc.names n [] (.inl h);exact isSome_iff_exists.mp q
def xA{K:N0} 
  (S:qJ N ps scope) (hd:A.handled=none) (J:B8 P w K mg base A outer s H) (hl:vs.length=ps.length) (r:aI vs us)
  (x:InCallC s s.heap.objs.size (bindL (envOfC qual scope s.heap.objs.size f cd).kindOf (ps.zip us) λ_=>none) (cellsFrom (s.heap.objs.size+1) scope.names []) (bindC (envOfC qual scope s.heap.objs.size f cd).kindOf (ps.zip us) λ_=>none) s1) :
  Inv (sm CX P w K mg base N qual scope f cd A outer s H E) [] (eV N vs) H s1:=by
 have a1:ps.length<=N.length:=by have:=KN List.length S.pre;rw[NV]at this;omega
 obtain⟨h1,tk,rfl,hk⟩:=x.done;have U:∀b,b∉(sm CX P w K mg base N qual scope f cd A outer s H E).ex:=λb z=>absurd (show b∈([]:List Addr)from z) (by simp)
 refine⟨⟨J.mod,S.kind,rfl,rfl,g4 _,λy z c h1 h2=>?_,λy Y=>?_,λy c _ h=>?_,λ_=>hd,Around.frames_deeper J.frames,.inr ⟨rfl,rfl⟩,λb z=>absurd z (U b),J.bs,J.bsz,λb _ _=>U b,λb z=>absurd z (U b),J.funs,J.frf⟩,
  rfl,J.bare,Un.kept hk,⟨_,x.toInCall.ns,λi y v h1 h2 h3=>?_⟩,λy c h=>⟨_,x.cell y c h⟩,J.hok.fresh (g4 _),λy c h=>?_,λp Z=>absurd (show p∈([]:List (Addr×Obj))from Z) (by simp),J.hok.kept hk,?_⟩
 .exact name_of_addr x.apart (PySem.mem_of_lookup h1) (PySem.mem_of_lookup h2)
 .have Y:=Y;rcases Y with Y|Y
  .exact sn Y
  .exact absurd rfl (S.nofree _ (PySem.mem_of_lookup Y))
 .exact LI (x.above y c (PySem.mem_of_lookup h))
 .have hi:i<vs.length:=by
   unfold eV at h2;by_cases hi:i<vs.length
   .exact hi
   .rw[L0 (by simpa using hi)]at h2;rw[MR]at h2;split at h2<;>cases h2
  have ha:vs[i]?=some v:=by
   unfold eV at h2;rw[Lz (by simpa using hi),KJ]at h2;cases e:vs[i]?<;>simp_all
  obtain⟨u,hu,rv⟩:=r.get ha;have Z:ps[i]?=some y:=by
   rw[<- S.pre,getElem?_take_of_lt (by omega)];exact h1
  have ao:ps.Nodup:=by rw[<- S.pre];exact S.nd.sublist (take_sublist _ _)
  refine⟨u,rv,?_⟩;rcases S.par y (L1 Z)with k|k
  .exact .inl ⟨k,pO ao Z hu k⟩
  .obtain⟨c,e⟩:=sn (n:=s.heap.objs.size+1) k;refine .inr ⟨.inl k,c,e,?_⟩;have q:=x.cell y c e;rw[pP ao Z hu (by show scope.names.lookup y≠_;rw[k];decide)]at q;exact q
 .exact J.hok.fresh (LI (x.above y c (PySem.mem_of_lookup h)))
 .unfold eV;show _=N.length;rw[tf,mx,length_replicate];omega
def y9{K:N0}{dV kV Z pm z ct oc:Value} 
  (lk:K.lookup f=some ⟨oc,od,.func (PySem.W.fnOf name qual params body scope dV kV Z pm an z ct),a8⟩) (a0:PySem.W.codeIn K z qual=true) (S:qJ N ps scope)
  (len:∀vs H Q E,sp vs H Q E->vs.length=ps.length)
  (U:∀A outer s H vs Q E,lh k (A.deeper (envOfC qual scope s.heap.objs.size f z))->sp vs H Q E ->
   ∃t,PSs (sm CX P w K mg base N qual scope f z A outer s H E) body t/\t { nx:=λ_ H'=>Q .non H',rt:=Q } (eV N vs) H) :
  jS P w K mg base CX (k+1) f (PySem.W.fnOf name qual params body scope dV kV Z pm an z ct) ps sp:=by
 refine⟨len,λA outer s H args us vs Q E hr e0 hb r aO=>?_⟩;have hl:=len _ _ _ _ aO;have KX:=e0.mod.kin.keeps λb o e=>(e0.bs b o e).1
 have a2:=e0.mod.nolimit.keeps λb o e=>(e0.bs b o e).1
 have Y:∀y∈ps.zip us,scope.names.lookup y.1=some .local\/(scope.names.lookup y.1=some .cell/\((cellsFrom (s.heap.objs.size+1) scope.names []).lookup y.1).isSome=true):=λ⟨n,v⟩ hy=>by
  rcases S.par n (of_mem_zip hy).1 with q|q
  .exact .inl q
  .exact .inr ⟨q,PySem.W.cellsFrom_some _ _ _ (.inl q)⟩
 refine codeAny_call_function hr.depth (KX _ _ lk) rfl S.co S.gen rfl (PySem.W.codeRec_of KX a0) (hb _ _ _ _ ?_);refine wpAny_newFunctionEnv_cells S.kind Y λenv he s1 x=>?_
 subst he;refine⟨a2.keeps x.toInCall.keep,codeAny_func ?_⟩;obtain⟨t,ht,hq⟩:=U A outer s H vs Q E (hr.deeper _) aO;have I:Inv (sm CX P w K mg base N qual scope f z A outer s H E) [] _ H s1:=xA S hr.hd e0 hl r x;refine K3 (ht [] s1 _ H _ I hq) (λfl s' hs=>?_) λe s' hs=>hs
 have fin:∀{F}{H'}{v}{u},Inv (sm CX P w K mg base N qual scope f z A outer s H E) [] F H' s'->aF v u->Q v H'->CE outer P w H s Q u s':=
  λ{F H' v u} J rv q=>⟨v,H',J.os,J.bare,J.base,J.hok,rv,q⟩
 cases fl with
 |next =>
  obtain⟨F,H',J,q⟩:=hs;exact fin (v:=V.non) J rfl q
 |ret u =>
  obtain⟨v,F,H',J,rv,q⟩:=hs;exact fin J rv q
 | _ =>
  obtain⟨_,_,_,q⟩:=hs;exact False.elim q
section
variable{X:Cx}{x:Str}{p pos:Pos}{e:Expr}{es:List Expr}{t:TA}{id T:String}{r:List V->Hp->VK->Prop}
noncomputable def tCB(r:List V->Hp->VK->Prop)(t:TA):TE:=λσ H Q=>t σ H λvs H1=>r vs H1 Q
def fm (hc:bC X (.builtin id) r) (U:Gl X x) (Y:X.mg x=none) (hv:bootBuiltins x=some (.builtin id)) (Z:PA X (e::es) t) (hn:x ≠ "__name__":=by decide) (z:(x==("__debug__":Str))=false:=by decide)
  (he:starEach (e::es) X.env=(false,eval e X.env)::starEach es X.env:=by rfl) (J:(backTo pos (starEach es X.env)).any (·.1)=false:=by rfl):PE X (.Call (.Name x p) (e::es) [] pos) (tCB r t):=by
 intro pins s σ H Q I h;refine LW (iV I U Y hv ?_ hn z);exact PyProof.Rows.callWith_builtin1 (thn (Z pos pins s σ H _ I h) λus s1 ⟨vs,H1,I1,r1,q1⟩=>hc pins s1 σ H1 vs us Q I1 r1 q1) he J
def dj (hc:bC X (.type T) r) (U:Gl X x) (Y:X.mg x=none) (hv:bootBuiltins x=some (.type T)) (Z:PA X (e::es) t) (hn:x ≠ "__name__":=by decide) (z:(x==("__debug__":Str))=false:=by decide)
  (he:starEach (e::es) X.env=(false,eval e X.env)::starEach es X.env:=by rfl) (J:(backTo pos (starEach es X.env)).any (·.1)=false:=by rfl):PE X (.Call (.Name x p) (e::es) [] pos) (tCB r t):=by
 intro pins s σ H Q I h;refine LW (iV I U Y hv ?_ hn z);exact Li (thn (Z pos pins s σ H _ I h) λus s1 ⟨vs,H1,I1,r1,q1⟩=>hc pins s1 σ H1 vs us Q I1 r1 q1) he J
end
end L2
namespace HT
open PySem PyProof.Rows List Option
noncomputable def lexLt:List Int->List Int->Bool
 | [],[]=>false
 | [],_::_=>true
 | _::_,[]=>false
 |x::xs,y::ys=>if x=y then lexLt xs ys else decide (x<y)
def lexLt_cons(x y)(xs ys):lexLt (x::xs) (y::ys)=if x=y then lexLt xs ys else decide (x<y):=rfl
def po:lexLt [] []=false:=rfl
def nk(y)(ys):lexLt [] (y::ys)=true:=rfl
def nl(x)(xs):lexLt (x::xs) []=false:=rfl
def y_(A)(s)(a)(t)(c)(u):∃e,SeqAt.EqAt A s (.int a t) (.int c u) e/\(e=true ↔ a=c):=
 ⟨(a==c),SeqAt.EqAt.int_int a t c u,by simp⟩
def za(A)(s)(a)(t)(c)(u)(prog)(w)(E)(Q)(h:Q (.bool (decide (a<c))) s) :
  wpAny (model prog w) A (richCompare .Lt (.int a t) (.int c u)) Q E s:=
 (PyProof.Rows.lt_int h:wpAny (model prog w) A (compareOp .Lt (.int a t) (.int c u)) Q E s)
section
open PySem.SeqAt List Option
open PySem.AutoSeq1 (wpAny_loadPart')
open PySem.MeetsSeq PySem.MeetsSeq2 PySem.MeetsSeq3 List Option
def tuple_lt_ints(l b)(items z)(n n2)(dd a7)(sl a8)(ns ms)(hi:IntsAre items.toList ns)(hj:IntsAre z.toList ms) :
  Meets (Builtin.«tuple.__lt__» ⟨[.ref l,.ref b],[]⟩)
   (λ_ R s=>s.heap.get? l=some { cls:=.type "tuple",dict:=dd,data:=.seq items n,slots:=sl }/\s.heap.get? b=some { cls:=.type "tuple",dict:=a7,data:=.seq z n2,slots:=a8 } /\
    R (.ok (.ret (.bool (lexLt ns ms)))) s):=
 .of_wp λprog w A R s h=>by
  obtain⟨hp,g,d,tk,os⟩:=s;obtain⟨hl,hb,h⟩:=h
  have f2:=MT;have z1:items.size=ns.length:=by rw[<- hi.length];simp
  have z2:z.size=ms.length:=by rw[<- hj.length];simp
  wp_walk using wpAny_loadPart' hl,wpAny_loadPart' hb,wpAny_forIn_list _ (λbW b s'=>b.1=none/\s'=⟨hp,g,d,tk,os⟩/\∃vs ws U Y,bW=vs.zip ws /\
   IntsAre vs U/\IntsAre ws Y/\U.length+z.size=Y.length+items.size/\R (.ok (.ret (.bool (lexLt U Y)))) ⟨hp,g,d,tk,os⟩) _
  case turn =>
   rintro ⟨y,x⟩ bW b s' ⟨a0,rfl,vs,ws,U,Y,hz,a1,Z,J,hR⟩;cases a1 with
   |nil=>rw[zip_nil_left]at hz;cases hz
   |cons a t a3 =>
    cases Z with
    |nil=>rw[zip_nil_right]at hz;cases hz
    |cons c u a4 =>
     rw[zip_cons_cons]at hz;injection hz with a9 a2
     injection a9 with hy hx
     subst hy hx;rw[lexLt_cons]at hR;simp only[length_cons]at J;obtain⟨e,he,aO⟩:=y_ A.in1 ⟨hp,g,d,tk,os⟩ a t c u;refine ez (he prog w _ _ ?_);cases e with
     |true =>
      rw[if_pos (aO.mp rfl)]at hR
      wp_walk
      exact⟨rfl,rfl,_,_,_,_,a2,a3,a4,by omega,hR⟩
     |false =>
      rw[if_neg (λq=>absurd (aO.mpr q) mu)]at hR;have bA:=za A.in1 ⟨hp,g,d,tk,os⟩ a t c u prog w
      wp_walk using bA
      exact⟨_,rfl,by simpa using hR⟩
  case fin =>
   rintro ⟨b1,b2⟩ s' ⟨a0,rfl,vs,ws,U,Y,hz,a1,Z,J,hR⟩;simp only at a0;subst a0;have hv:lexLt U Y=decide (items.size<z.size):=by
    cases a1 with
    |nil =>
     cases Z with
     |nil =>
      simp only[length_nil]at J;rw[po];exact(KP (by omega)).symm
     |cons c u hw =>
      simp only[length_nil,length_cons]at J;rw[nk];exact(Ky (by omega)).symm
    |cons a t hv =>
     cases Z with
     |nil =>
      simp only[length_nil,length_cons]at J;rw[nl];exact(KP (by omega)).symm
     |cons c u hw =>
      rw[zip_cons_cons]at hz;cases hz
   rw[hv]at hR
   wp_walk
   exact⟨_,rfl,by simpa[Builtin.Tuple.tupleCompareSizes]using hR⟩
  case h =>
   exact⟨rfl,rfl,items.toList,z.toList,ns,ms,rfl,hi,hj,by omega,h⟩
end
section
variable{prog:Program}{w:World}{A:Around}{E:Value->Shared->Prop}{s:Shared}
def lt_tupInts{items z:Array Value}{ns ms:List Int}{Q:Value->Shared->Prop}(hl:IsTup s.heap l items)(hb:IsTup s.heap b z)(hi:IntsAre items.toList ns)(hj:IntsAre z.toList ms)
  (hu:A.units<cLine) (h:Q (.bool (lexLt ns ms)) s):wpAny (model prog w) A (compareOp .Lt (.ref l) (.ref b)) Q E s:=by
 refine aB λZq kq=>?_
 obtain⟨⟨cls,dd,data,sl⟩,ho,hc,n,hd⟩:=id hl;obtain⟨⟨aO,Z,data2,ao⟩,J,U,n2,Y⟩:=id hb;simp only at hc hd U Y;subst hc hd U Y;refine kq ?_;exact Mi (op:=.Lt) ⟨_,ho,rfl⟩ ⟨_,J,rfl⟩ PySem.F.slot_tuple_lt PySem.F.entry_tuple_lt (PySem.F.args_tuple_lt_2 _ _) (tuple_lt_ints l b items z n n2 dd Z sl ao ns ms hi hj)
  ⟨ho,J,show Value.bool _≠Value.notImplemented/\Q _ s from⟨(λx=>nomatch x),h⟩⟩ hu
def cat_tup(ht:IsTup s.heap t vs.toArray)(hb:IsTup s.heap b ws.toArray)(hv:vs≠[])
  (h1:ws=[]->Q (.ref t) s) (h2:ws≠[]->Q (.ref s.heap.objs.size) { s with heap:=s.heap.push { cls:=.type "tuple",data:=.seq (vs++ws).toArray } })
  (ao:vs.length+ws.length<=sizeLine):wpAny (model prog w) A (binaryOp .Add (.ref t) (.ref b)) Q E s:=by
 refine aB λZq kq=>?_
 obtain⟨⟨cls,dd,data,sl⟩,ho,hc,n,hd⟩:=id ht;obtain⟨⟨a0,J,data2,U⟩,z,Y,n2,Z⟩:=id hb;simp only at hc hd Y Z;subst hc hd Y Z;have e:vs.toArray++ws.toArray=(vs++ws).toArray:=by simp
 refine kq ?_;by_cases hw:ws=[]
 .exact NK ⟨_,ho,rfl⟩ ⟨_,z,rfl⟩ NL seq_tuple_add PySem.F.slot_tuple_add PySem.F.entry_tuple_add (PySem.F.args_tuple_add_2 _ _)
   (tuple_addW1 t b vs.toArray ws.toArray n n2 dd J sl U (by simpa using hv) (by simp[hw])) ⟨ho,z,h1 hw⟩
 .refine NK ⟨_,ho,rfl⟩ ⟨_,z,rfl⟩ NL seq_tuple_add PySem.F.slot_tuple_add PySem.F.entry_tuple_add (PySem.F.args_tuple_add_2 _ _)
   (tuple_addW2 t b vs.toArray ws.toArray n n2 dd J sl U (by simpa using hv) (by simpa using hw) (by rw[pb,pb];exact ao)) ⟨ho,z,?_⟩
  rw[e];exact h2 hw
noncomputable def sIx(n d:Nat):Option Int->Nat
 |none=>d
 |some v=>if v<0 then(v+(n:Int)).toNat else min v.toNat n
def EF(n d)(hd:d<=n)(o):sIx n d o<=n:=by
 cases o with
 |none=>exact hd
 |some v =>
  show(if v<0 then(v+_).toNat else min v.toNat n)<=n
  grind
def v0(v)(n d:Nat):(if v<0 then max (v+(n:Int)) 0 else min v (n:Int))=((sIx n d (some v):Nat):Int):=by
 show(if v<0 then max _ 0 else min v _)=(((if v<0 then(v+_).toNat else min v.toNat n):Nat):Int)
 grind
def uM(lo hi)(n:Nat):Builtin.Slice.sliceAdjust lo hi 1 (n:Int)=(((sIx n 0 lo:Nat):Int),((sIx n n hi:Nat):Int)):=by
 refine Prod.ext ?_ ?_
 .cases lo with
  |none=>rfl
  |some v=>exact v0 v n 0
 .cases hi with
  |none=>rfl
  |some v=>exact v0 v n n
def uN(i j:Nat):Builtin.Slice.slicePlaces (i:Int) (j:Int) 1=j-i:=by
 unfold Builtin.Slice.slicePlaces
 grind
def nq(p:IsPart v o)(h:Q o s):wpAny (model prog w) A (Builtin.Slice.slicePartIndex v) Q E s:=by
 cases p<;>first|exact slicePart_none h|exact slicePart_int h
def gP{lo hi:Option Int}{n:Nat}{Q:Int×Int×Nat->Shared->Prop}(hs:s.heap.IsSliceOf Z U Y .none)(pl:IsPart U lo)(pu:IsPart Y hi)
  (h:Q (((sIx n 0 lo:Nat):Int),1,sIx n n hi-sIx n 0 lo) s):wpAny (model prog w) A (Builtin.Slice.sliceApplied (.ref Z) (pure (n:Int))) Q E s:=by
 obtain⟨os,z,a0,J⟩:=id hs;refine ez (ez (wpAny_field z J (x:=U) rfl (ez (wpAny_field z J (x:=Y) rfl (ez (wpAny_field z J (x:=.none) rfl (gf ?_)))))));refine ez (slicePart_none ?_);refine ez (nq pl (ez (nq pu (ez (gf ?_)))));show wpAny _ _ (match Builtin.Slice.sliceAdjust lo hi 1 _ with|(lo,hi)=>pure (lo,_,Builtin.Slice.slicePlaces lo hi 1)) _ _ s;rw[uM lo hi n];show wpAny _ _ (pure (((sIx n 0 lo:Nat):Int),_,Builtin.Slice.slicePlaces _ _ 1)) _ _ s;rw[uN];exact gf h
def zb(xs:Array Value)(i k:Nat):((range k).filterMap λ(m:Nat)=>xs[((i:Int)+(m:Int)*1).toNat]?).toArray=((xs.toList.drop i).take k).toArray:=by
 have e:(λ(m:Nat)=>xs[((i:Int)+(m:Int)*1).toNat]?)=λm=>xs[i+m]?:=by
  funext m
  have:((i:Int)+(m:Int)*1).toNat=i+m:=by omega
  rw[this]
 rw[e];have:=pick_run xs i k;rw[filterMap_map]at this;have z:((λx=>xs[x]?)∘λx=>i+x)=λm=>xs[i+m]?:=rfl
 rw[z]at this;rw[this]
def getItem_tuple_cut{items:Array Value}{vl vu:Value}{lo hi:Option Int}{Q:Value->Shared->Prop}(J:IsTup s.heap t items)(hs:s.heap.IsSliceOf sl vl vu .none)(pl:IsPart vl lo)(pu:IsPart vu hi)
  (hw:¬ (sIx items.size 0 lo=0/\sIx items.size items.size hi=items.size))
  (h:Q (.ref s.heap.objs.size) { s with heap:=s.heap.push { cls:=.type "tuple",data:=.seq ((items.toList.drop (sIx items.size 0 lo)).take (sIx items.size items.size hi-sIx items.size 0 lo)).toArray } })
  (a4:items.size<=sizeLine):wpAny (model prog w) A (getItem (.ref t) (.ref sl)) Q E s:=by
 have z:sizeOk (.seq ((items.toList.drop (sIx items.size 0 lo)).take (sIx items.size items.size hi-sIx items.size 0 lo)).toArray):=by
  show((items.toList.drop (sIx items.size 0 lo)).take (sIx items.size items.size hi-sIx items.size 0 lo)).toArray.size<=sizeLine;rw[pb,NV,length_drop,Array.length_toList];omega
 have hj:sIx items.size items.size hi<=items.size:=EF _ _ (g4 _) hi;obtain⟨os,U,Y,a5⟩:=id hs;have Z:s.TypeIs (.ref sl) "slice":=⟨os,U,Y⟩;unfold getItem
 try with_reducible refine K6 ?_
 first|refine ez (gf ?_)|skip
 refine ez (wpAny_sequenceKey J.typeIs (by decide) ?_);refine ez (Lc (name:=Str.ofString "__getitem__") J.typeIs Lb
  (KW Lb J.typeIs entry_tuple_getitem ?_ (args_tuple_getitem _ _)))
 show wpAny _ _ (Builtin.Tuple.tupleItemsOf (.ref t) >>= _) _ _ s;refine ez (tupleItemsOf_ J ?_);refine ez (Mr Z ?_);rw[if_pos (by decide)];refine ez (gP hs pl pu ?_);have ao:¬ ((((sIx items.size 0 lo:Nat):Int)==0&&(1:Int)==1&&(sIx items.size items.size hi-sIx items.size 0 lo)==items.size)=true):=by
  simp_all
 show wpAny _ _ (if (((sIx items.size 0 lo:Nat):Int)==0&&_==1&&_==items.size)=true then _ else _) _ _ s;rw[if_neg ao,zb]
 first
  | exact ez (La (gf ⟨_,rfl,gf h⟩) z)
  | exact ez (La (ez (gf _)) z)
  | exact ez (ez (La (gf _) z))
  | exact ez (ez (La _ z))
end
end HT
namespace L2
open PySem PySem.Spec PyProof.Rows List Option
noncomputable abbrev TO:=St->Hp->(Option Int->Hp->Prop)->Prop
def PO(X:Cx)(e:Option Expr)(t:TO):Prop:=
 ∀pins s (σ:St) H Q,Inv X pins σ H s->t σ H Q ->
  wpAny (model X.prog X.w) X.A (evalPart e X.env) (λu s'=>∃o H',Inv X pins σ H' s'/\IsPart u o/\Q o H') X.xe s
noncomputable def B9:TO:=λ_ H Q=>Q none H
noncomputable def Hx(t:TE):TO:=λσ H Q=>t σ H λx H1=>∃i,x=.int i/\Q (some i) H1
def da :∀{us},aI (ns.map V.int) us->IntsAre us ns:=by
 induction ns with
 |nil=>intro us r;rw[map_nil]at r;cases r;exact .nil
 |cons n ns ih =>
  intro us r;cases r with
  |cons z J =>
   obtain⟨t,e⟩:=z;subst e;exact .cons n t (ih J)
section
variable{X:Cx}{e:Expr}{te:TE}{lo hi:Option Expr}{tl th:TO}{pos p2:Pos}
def B_:PO X none B9:=by
 intro pins s σ H Q I h;exact gf ⟨none,H,I,.none,h⟩
def Ca(h:PE X e te):PO X (some e) (Hx te):=by
 intro pins s σ H Q I hw;refine thn (h pins s σ H _ I hw) λu Y ⟨x,H1,z,J,U⟩=>?_
 obtain⟨i,rfl,q⟩:=U;obtain⟨t,rfl⟩:=J;exact⟨some i,H1,z,.int i t,q⟩
def SlR(X:Cx)(r:V->Option Int->Option Int->Hp->VK->Prop):Prop:=
 ∀pins s (σ:St) H x v z J lo hi U Q,Inv X pins σ H s->aF x v->s.heap.IsSliceOf U z J .none->IsPart z lo->IsPart J hi->r x lo hi H Q ->
  ∃T id,typeLookup (.type T) "__getitem__"=pure (some (.builtin id))/\s.TypeIs v T/\wpAny (model X.prog X.w) X.A (getItem v (.ref U)) (EP X pins σ Q) X.xe s
noncomputable def tSl(r:V->Option Int->Option Int->Hp->VK->Prop)(te:TE)(tl th:TO):TE:=λσ H Q=>te σ H λx H1=>tl σ H1 λl H2=>th σ H2 λu z=>r x l u z Q
def zc(Z:SlR X r)(he:PE X e te)(hl:PO X lo tl)(hu:PO X hi th):PE X (.Subscript e (.Slice lo hi none p2) pos) (tSl r te tl th):=by
 intro pins s σ H Q I h;refine Subscript_ (thn (he pins s σ H _ I h) λv s1 ⟨x,H1,I1,r1,q1⟩=>?_);refine wpAny_Slice (thn (hl pins s1 σ H1 _ I1 q1) λJ s2 ⟨l,H2,I2,pl,q2⟩=>thn (hu pins s2 σ H2 _ I2 q2) λU z ⟨u,Y,I3,pu,q3⟩=>?_);refine gf ?_;have I4:Inv X pins σ Y { z with heap:=z.heap.push { cls:=.type "slice",data:=.fields #[J,U,.none] } }:=I3.kept λb ob q=>gk _ q
 obtain⟨T,id,hT,ht,hg⟩:=Z pins { z with heap:=z.heap.push { cls:=.type "slice",data:=.fields #[J,U,.none] } } σ Y x v J U l u z.heap.objs.size Q I4 r1 (Heap.IsSliceOf.new ..) pl pu q3;exact tail_any ht hT hg (by with_unfolding_all rfl)
def xB(xs:List V)(lo hi:Option Int):List V:=(xs.drop (HT.sIx xs.length 0 lo)).take (HT.sIx xs.length xs.length hi-HT.sIx xs.length 0 lo)
def lX(xs)(lo hi):(xB xs lo hi).length<=xs.length:=by
 unfold xB;rw[NV,length_drop];omega
def JY(K:N0):V->Option Int->Option Int->Hp->VK->Prop:=λx lo hi H Q=>∃a xs,x=.ref a/\SqT K H a xs /\
 ¬ (HT.sIx xs.length 0 lo=0/\HT.sIx xs.length xs.length hi=xs.length)/\∀p,H p=none->Q (.ref p) (upd H p (.tup (xB xs lo hi)))
def EG:SlR X (JY X.K):=by
 intro pins s σ H x v vl vu lo hi sl Q I U hs Y Z h;obtain⟨a,xs,rfl,hx,hw,q⟩:=h;cases U;obtain⟨its,r,J,hz⟩:=I.tuple hx;have z:its.toArray.size=xs.length:=by rw[pb];exact r.length.symm
 refine⟨"tuple",_,Lb.lookup,J.typeIs,?_⟩;refine HT.getItem_tuple_cut J hs Y Z (by rw[z];exact hw) ?_ (by rw[z];exact hz);rw[z];refine⟨.ref s.heap.objs.size,_,I.laid (o:=.tup _) (λb ob q=>gk _ q) (g4 _) ?_,rfl,q _ (I.hok.fresh (g4 _))⟩;exact⟨pe (lX xs lo hi) hz,_,(r.drop _).take _,IsTup.new _ _⟩
noncomputable def Hy(K:N0):R2:=λx y H Q=>∃a b xs ys,x=.ref a/\y=.ref b/\SqT K H a xs/\SqT K H b ys/\xs≠[]/\xs.length+ys.length<=sizeLine /\
 (ys=[]->Q (.ref a) H)/\(ys≠[]->∀p,H p=none->Q (.ref p) (upd H p (.tup (xs++ys))))
def aI.nil_iff(r:aI xs us):us=[] ↔ xs=[]:=by
 cases r<;>simp_all
def Cb:OpR X (binaryOp .Add) (Hy X.K):=by
 intro pins s σ H x y v u Q I Z ry h;refine aB λZq kq=>?_
 obtain⟨a,b,xs,ys,rfl,rfl,ha,hb,hx,hz,q1,q2⟩:=h;cases Z;cases ry;obtain⟨its,U,p1,_⟩:=I.tuple ha;obtain⟨Y,J,p2,_⟩:=I.tuple hb;refine kq ?_;refine HT.cat_tup p1 p2 (λz=>hx (U.nil_iff.mp z)) (λz=>⟨.ref a,H,I,rfl,q1 (J.nil_iff.mp z)⟩) (λz=>?_) (by rw[<- U.length,<- J.length];exact hz);refine⟨.ref s.heap.objs.size,_,I.laid (o:=.tup _) (λb ob q=>gk _ q) (g4 _) ?_,rfl,q2 (λw=>z (J.nil_iff.mpr w)) _ (I.hok.fresh (g4 _))⟩;exact⟨by rw[tf];exact hz,_,U.append J,IsTup.new _ _⟩
end
noncomputable def ixN(n:Nat)(i:Int):Option Nat:=if 0<=i then(if i<n then some i.toNat else none)else if -(n:Int)<=i then some (i+n).toNat else none
def atI{α:Type}(xs:List α)(i:Int):Option α:=(ixN xs.length i).bind λj=>xs[j]?
def v3(h:ixN n i=some j):seqIndex? i n=some j/\j<n/\-(n:Int)<=i/\i<n:=by
 unfold ixN at h;by_cases z:0<=i
 .rw[if_pos z]at h;by_cases h1:i<n
  .rw[if_pos h1]at h;have e:=Kw h;exact⟨by rw[seqIndex_of z h1,e],by omega,by omega,h1⟩
  .simp_all
 .rw[if_neg z]at h;by_cases h1:-(n:Int)<=i
  .rw[if_pos h1]at h;have e:=Kw h;exact⟨by rw[seqIndex_neg (by omega) h1,e],by omega,h1,by omega⟩
  .simp_all
def qK(h:atI xs i=some v):∃j,seqIndex? i xs.length=some j/\xs[j]?=some v/\j<xs.length/\-(xs.length:Int)<=i/\i<xs.length:=by
 unfold atI at h;cases e:ixN xs.length i with
 |none=>rw[e]at h;cases h
 |some j =>
  rw[e]at h;obtain⟨h1,h2,z,J⟩:=v3 e;exact⟨j,h1,h,h2,z,J⟩
def v4(b:Expr):Prop:=∀o i,subscripted b false o i=operate [o,i] (getItem o i)
def IxR(X:Cx)(r:R2):Prop:=
 ∀value slice pins s (σ:St) H x y v u Q,Inv X pins σ H s->aF x v->aF y u->r x y H Q ->
  subscripted slice false v u=operate [v,u] (getItem v u)->wpAny (model X.prog X.w) X.A (subscriptTail value slice v u) (EP X pins σ Q) X.xe s
def MtR(X:Cx)(id:String)(r:V->List V->Hp->VK->Prop):Prop:=
 ∀pins s (σ:St) H x xs v us Q,Inv X pins σ H s->aF x v->aI xs us->r x xs H Q ->
  wpAny (model X.prog X.w) X.A (call (.builtin id) (v::us)) (EP X pins σ Q) X.xe s
section
variable{X:Cx}{a b:Expr}{ta tb:TE}{pos:Pos}
theorem IxR.or(h:IxR X r)(h':IxR X U):IxR X (λx y H Q=>r x y H Q\/U x y H Q):=by
 intro value slice pins s σ H x y v u Q I z J q hs;rcases q with q|q
 .exact h value slice pins s σ H x y v u Q I z J q hs
 .exact h' value slice pins s σ H x y v u Q I z J q hs
def Hz(z:IxR X r)(J:PE X a ta)(U:PE X b tb)(hs:v4 b):PE X (.Subscript a b pos) (tOp r ta tb):=by
 intro pins s σ H Q I h;exact Subscript_ (Ew J U I h λv u Y x y H2 Z rx ry q=>z a b pins Y σ H2 x y v u Q Z rx ry q (hs _ _))
noncomputable def HA(K:N0):R2:=λx y H Q=>∃p xs i v,x=.ref p/\y=.int i/\SqL K H p xs/\atI xs i=some v/\Q v H
noncomputable def HB(K:N0):R2:=λx y H Q=>∃p xs i v,x=.ref p/\y=.int i/\SqT K H p xs/\atI xs i=some v/\Q v H
noncomputable def HC:R2:=λx y H Q=>∃z i c,x=.str z/\y=.int i/\z.length<=sizeLine/\atI z.cps.toList i=some c/\Q (.str ⟨#[c]⟩) H
def Cc:IxR X (HA X.K):=by
 intro value slice pins s σ H x y v u Q I rx ry h hs;refine aB λZq kq=>?_
 obtain⟨p,xs,i,z,rfl,rfl,hq,he,q⟩:=h;cases rx;obtain⟨t,rfl⟩:=ry;obtain⟨its,r,J,hz⟩:=I.list hq;obtain⟨j,h1,h2,h3,h4,h5⟩:=qK he;obtain⟨w,Z,U⟩:=r.get h2;have hl:=r.length;have hn:=lf;have fin:EP X pins σ Q w s:=⟨z,H,I,U,q⟩;refine kq ?_;by_cases h0:0<=i
 .have Y:i.toNat=j:=by
   rw[seqIndex_of h0 h5]at h1;exact Kw h1
  exact item_listR J.isList h0 (by omega) (by rw[Y];simpa using Z) fin hs
 .have Y:(i+(its.toArray.size:Int)).toNat=j:=by
   rw[seqIndex_neg (by omega) h4]at h1;rw[pb,<- hl];exact Kw h1
  exact subscriptTail_builtinR J.isList.typeIs slot_list_getitem.lookup
   (wpAny_getItem_list_neg J.isList (by omega) (by rw[pb]<;>omega) (by omega) (by rw[Y];simpa using Z) ⟨rfl,fin⟩) hs
def EH:IxR X (HB X.K):=by
 intro value slice pins s σ H x y v u Q I Y Z h hs;refine aB λZq kq=>?_
 obtain⟨p,xs,i,z,rfl,rfl,hq,he,q⟩:=h;cases Y;obtain⟨t,rfl⟩:=Z;obtain⟨its,r,U,hz⟩:=I.tuple hq;obtain⟨j,h1,h2,h3,h4,h5⟩:=qK he;obtain⟨w,ew,J⟩:=r.get h2;have hl:=r.length;have hn:=lf;have fin:EP X pins σ Q w s:=⟨z,H,I,J,q⟩;refine kq ?_;exact subscriptTail_builtinR U.typeIs slot_tuple_getitem.lookup
  (getItem_tuple U (by omega) (by omega) (by rw[pb,<- hl];exact h1) (by simpa using ew) ⟨rfl,fin⟩) hs
def EI:IxR X HC:=by
 intro value slice pins s σ H x y v u Q I J U h hs;refine aB λZq Y=>?_
 obtain⟨z,i,c,rfl,rfl,hz,Z,q⟩:=h;obtain⟨t,rfl⟩:=J;obtain⟨t',rfl⟩:=U;obtain⟨j,h1,h2,h3,h4,h5⟩:=qK Z;have hl:z.cps.toList.length=z.length:=by simp[Str.length]
 rw[hl]at h1 h4 h5;have hn:=lf;refine Y ?_;exact tail_any (typeIs_str s z t) slot_str_getitem.lookup (getItem_str (by
  have e1:decide (i < -(2 ^ 63:Int))=false:=KP (by omega);have e2:decide (i>=2 ^ 63)=false:=KP (by omega);rw[e1,e2,Bool.or_false]) (by rw[h1];simpa using h2) ⟨.str ⟨#[c]⟩,H,I.tok _,⟨_,rfl⟩,q⟩) hs
noncomputable def rIx(K:N0):R2:=λx y H Q=>HA K x y H Q\/HB K x y H Q\/HC x y H Q
def zd:IxR X (rIx X.K):=Cc.or (EH.or EI)
def qL(lo hi)(n):(sliceBounds lo hi none n).1=((HT.sIx n 0 lo:Nat):Int)/\(sliceBounds lo hi none n).2.1=((HT.sIx n n hi:Nat):Int)/\(sliceBounds lo hi none n).2.2=1:=by
 refine⟨?_,?_,rfl⟩
 .cases lo with
  |none=>simp[sliceBounds,HT.sIx]
  |some i =>
   simp[sliceBounds,HT.sIx,getD_none,show(1:Int) > 0 by decide,if_true];by_cases h:i<0
   .simp[h,if_true]<;>omega
   .simp[h,Ls]<;>omega
 .cases hi with
  |none=>simp[sliceBounds,HT.sIx]
  |some i =>
   simp[sliceBounds,HT.sIx,getD_none,show(1:Int) > 0 by decide,if_true];by_cases h:i<0
   .simp[h,if_true]<;>omega
   .simp[h,Ls]<;>omega
def pp(its:List Value)(lo hi):slicePick its.toArray lo hi none=((its.drop (HT.sIx its.length 0 lo)).take (HT.sIx its.length its.length hi-HT.sIx its.length 0 lo)).toArray:=by
 obtain⟨h1,h2,z⟩:=qL lo hi its.toArray.size;unfold slicePick;rw[h1,h2,z];simp only[sliceRange_one,pick_run]<;>rfl
def JZ(K:N0):V->Option Int->Option Int->Hp->VK->Prop:=λx lo hi H Q=>∃a xs,x=.ref a/\SqL K H a xs/\∀p,H p=none->Q (.ref p) (upd H p (.lst (xB xs lo hi)))
def Cd:SlR X (JZ X.K):=by
 intro pins s σ H x v vl vu lo hi sl Q I U hs Y Z h;obtain⟨a,xs,rfl,hx,q⟩:=h;cases U;obtain⟨its,r,J,hz⟩:=I.list hx;have z:=r.length;refine⟨"list",_,slot_list_getitem.lookup,J.isList.typeIs,?_⟩;refine wpAny_getItem_list_slice J.isList hs Y Z .none (by simp) ?_ (by rw[pb]<;>omega);rw[pp,<- z];refine⟨.ref s.heap.objs.size,_,I.laid (o:=.lst _) (λb ob q=>gk _ q) (g4 _) ?_,rfl,q _ (I.hok.fresh (g4 _))⟩;exact⟨pe (lX xs lo hi) hz,_,0,(r.drop _).take _,r4 _ rfl⟩
noncomputable def iW:V->Bool
 | .non=>true
 | .bl _=>true
 | .int _=>true
 | .str _=>true
 | _=>false
noncomputable def eqV:V->V->Bool
 | .non,.non=>true
 | .bl a,.bl b=>a==b
 | .bl a,.int b=>(if a then 1 else 0)==b
 | .int a,.bl b=>a==(if b then 1 else 0)
 | .int a,.int b=>a==b
 | .str a,.str b=>a==b
 | _,_=>false
def ze(J:aF y u)(z:aF x v)(Y:iW y=true)(U:iW x=true):SeqAt.EqAt A s u v (eqV y x):=by
 cases y with
 |non =>
  cases J;cases x with
  |non=>cases z;exact SeqAt.EqAt.same _
  |bl b=>cases z;exact SeqAt.EqAt.none_bool b
  |int b=>obtain⟨t,rfl⟩:=z;exact SeqAt.EqAt.none_int b t
  |str b=>obtain⟨t,rfl⟩:=z;exact SeqAt.EqAt.none_str b t
  | _=>exact absurd (show false=true from U) mu
 |bl a =>
  cases J;cases x with
  |non=>cases z;exact SeqAt.EqAt.bool_none a
  |bl b=>cases z;exact SeqAt.EqAt.bool_bool a b
  |int b=>obtain⟨t,rfl⟩:=z;exact SeqAt.EqAt.bool_int a b t
  |str b=>obtain⟨t,rfl⟩:=z;exact SeqAt.EqAt.bool_str a b t
  | _=>exact absurd (show false=true from U) mu
 |int a =>
  obtain⟨t',rfl⟩:=J;cases x with
  |non=>cases z;exact SeqAt.EqAt.int_none a t'
  |bl b=>cases z;exact SeqAt.EqAt.int_bool a t' b
  |int b=>obtain⟨t,rfl⟩:=z;exact SeqAt.EqAt.int_int a t' b t
  |str b=>obtain⟨t,rfl⟩:=z;exact SeqAt.EqAt.int_str a t' b t
  | _=>exact absurd (show false=true from U) mu
 |str a =>
  obtain⟨t',rfl⟩:=J;cases x with
  |non=>cases z;exact SeqAt.EqAt.str_none a t'
  |bl b=>cases z;exact SeqAt.EqAt.str_bool a t' b
  |int b=>obtain⟨t,rfl⟩:=z;exact SeqAt.EqAt.str_int a t' b t
  |str b=>obtain⟨t,rfl⟩:=z;exact SeqAt.EqAt.str_str a t' b t
  | _=>exact absurd (show false=true from U) mu
 | _=>exact absurd (show false=true from Y) mu
def ir:bC X (.builtin "len") (λxs H Q=>∃p ys,xs=[.ref p]/\(SqL X.K H p ys\/SqT X.K H p ys)/\Q (.int ys.length) H):=by
 intro pins s σ H xs us Q I r h;obtain⟨p,ys,rfl,J,q⟩:=h;obtain⟨u,rfl,Z⟩:=d9 r;cases Z;have hn:=lf;rcases J with J|J
 .obtain⟨its,U,Y,hz⟩:=I.list J;have z:=U.length;exact Calls.call_len_list Y.isList (by simp[pb]<;>omega) ⟨.int ys.length,H,I.tok _,⟨s.toks+1,by rw[pb,z]⟩,q⟩
 .obtain⟨its,U,Y,hz⟩:=I.tuple J;have z:=U.length;exact len_tuple Y (by simp[pb]<;>omega) ⟨.int ys.length,H,I.tok _,⟨s.toks+1,by rw[pb,z]⟩,q⟩
def qM:bC X (.type "list") (λxs H Q=>∃p ys,xs=[.ref p]/\(SqL X.K H p ys\/SqT X.K H p ys)/\∀l,H l=none->Q (.ref l) (upd H l (.lst ys))):=by
 intro pins s σ H xs us Q I r h;obtain⟨p,ys,rfl,U,q⟩:=h;obtain⟨u,rfl,rx⟩:=d9 r;cases rx;have fin:∀its,aI ys its->ys.length<=sizeLine->∀h' z,(∀b o',s.heap.get? b=some o'->h'.get? b=some o') ->
   h'.get? s.heap.objs.size=some { cls:=.type "list",dict:=none,data:=.seq its.toArray z,slots:=#[] }->EP X pins σ Q (.ref s.heap.objs.size) { s with heap:=h' }:=λits J hz h' z kp e =>
  ⟨.ref s.heap.objs.size,_,I.laid (t':=s.toks) kp (g4 _) (show bM X.prog X.w _ h' _ (.lst ys)from⟨hz,its,z,J,e⟩),rfl,q _ (I.hok.fresh (g4 _))⟩
 rcases U with U|U
 .obtain⟨its,J,Z,hz⟩:=I.list U;have Y:=J.length;obtain⟨o,ho,hc,n,hd⟩:=Z.isList;exact call_list_seq p (.inl rfl) ho hc hd (λh' z kp e=>fin its J hz h' z kp e) (by simp only[pb]<;>omega)
 .obtain⟨its,J,Z,hz⟩:=I.tuple U;have Y:=J.length;obtain⟨o,ho,hc,n,hd⟩:=Z;exact call_list_seq p (.inr rfl) ho hc hd (λh' z kp e=>fin its J hz h' z kp e) (by simp only[pb]<;>omega)
def jE:bC X (.type "tuple") (λxs H Q=>∃p ys,xs=[.ref p]/\((SqL X.K H p ys/\∀l,H l=none->Q (.ref l) (upd H l (.tup ys)))\/(SqT X.K H p ys/\Q (.ref p) H))):=by
 intro pins s σ H xs us Q I r h;obtain⟨p,ys,rfl,h⟩:=h;obtain⟨u,rfl,rx⟩:=d9 r;cases rx;rcases h with⟨z,q⟩|⟨z,q⟩
 .obtain⟨its,J,U,hz⟩:=I.list z;have Y:=J.length;refine call_tuple_list U.isList (λh' kp=>?_) (by simp[pb]<;>omega);have Z:=I.kept (t':=s.toks) kp;have I2:Inv X pins σ (upd H h'.objs.size (.tup ys)) { s with heap:=h'.push { cls:=.type "tuple",data:=.seq its.toArray } }:=
   Z.laid (λb o e=>gk _ e) (g4 _) (show bM X.prog X.w _ _ _ _ from⟨hz,its,J,IsTup.new _ _⟩)
  exact⟨.ref h'.objs.size,_,I2,rfl,q _ (Z.hok.fresh (g4 _))⟩
 .obtain⟨its,J,U,hz⟩:=I.tuple z;exact call_tuple_same U ⟨.ref p,H,I,rfl,q⟩
def tyV(K:N0)(T:String)(x:V)(H:Hp):Prop:=match x with
 | .str _=>T="str"
 | .int _=>T="int"
 | .ref p=>(T="list"/\∃xs,SqL K H p xs)\/(T="tuple"/\∃o,K.lookup p=some o/\o.cls=.type "tuple"/\o.dict=none) \/
   (T="dict"/\((∃kvs,H p=some (.dK kvs))\/∃kvs,H p=some (.dT kvs)))\/(T="set"/\∃S n,H p=some (.set S n))
 | _=>False
def zf(I:Inv X pins σ H s)(r:aF x v)(ty:tyV X.K T x H) :
  s.TypeIs v T/\∀a,v=.ref a->∃Y,s.heap.get? a=some Y/\Y.dict=none:=by
 cases x with
 |str z =>
  obtain⟨t,rfl⟩:=r;cases (show T="str" from ty);exact⟨typeIs_str s z t,λ_ e=>nomatch e⟩
 |int i =>
  obtain⟨t,rfl⟩:=r;cases (show T="int" from ty);exact⟨typeIs_int s i t,λ_ e=>nomatch e⟩
 |ref p =>
  cases r;rcases ty with⟨rfl,xs,hq⟩|⟨rfl,o,J,hc,hd⟩|⟨rfl,J⟩|⟨rfl,S,n,J⟩
  .obtain⟨its,_,Z,_⟩:=I.list hq;refine⟨Z.isList.typeIs,λa e=>?_⟩;cases e;obtain⟨o,n,e,c,hd,_⟩:=Z;exact⟨o,e,hd⟩
  .refine⟨⟨o,I.kIn p o J,hc⟩,λa e=>?_⟩;cases e;exact⟨o,I.kIn _ o J,hd⟩
  .have z:∃o,s.heap.get? p=some o/\o.ExactDict:=by
    rcases J with⟨kvs,J⟩|⟨kvs,J⟩
    .obtain⟨_,_,_,_,o,_,_,e,ex,_⟩:=I.hok p _ J;exact⟨o,e,ex⟩
    .obtain⟨_,_,_,_,o,_,_,e,ex,_⟩:=I.hok p _ J;exact⟨o,e,ex⟩
   obtain⟨o,e,ex⟩:=z;refine⟨⟨o,e,ex.1⟩,λa U=>?_⟩;cases U;exact⟨o,e,ex.2.1⟩
  .obtain⟨o,_,_,_,e,ex,_⟩:=I.hok p _ J;refine⟨⟨o,e,ex.1⟩,λa U=>?_⟩;cases U;exact⟨o,e,ex.2.1⟩
 | _=>exact False.elim ty
noncomputable def J0(K:N0)(T:String)(r:V->List V->Hp->VK->Prop)(to:TE):TE:=λσ H Q=>to σ H λx H1=>tyV K T x H1/\r x [] H1 Q
noncomputable def tBM(K:N0)(T:String)(r:V->List V->Hp->VK->Prop)(to:TE)(t:TA):TE:=λσ H Q=>to σ H λx H1=>tyV K T x H1/\t σ H1 λxs H2=>r x xs H2 Q
variable{o e:Expr}{es:List Expr}{to:TE}{t:TA}{name:Str}{apos cpos:Pos}{T id:String}{r:V->List V->Hp->VK->Prop}
def EJ (pa:PlainAttrs T) (slot:Slot T name id) (U:typeOf (.builtin id)=pure (.type "method_descriptor")) (hm:MtR X id r) (ho:PE X o to)
  (z:attributeBase o name X.env (eval o X.env)=eval o X.env:=by rfl) (J:(apos.endLine==cpos.line)=true:=by rfl):PE X (.Call (.Attribute o name apos) [] [] cpos) (J0 X.K T r to):=by
 intro pins s σ H Q I h;refine wpAny_Call_method0_late z J (thn (ho pins s σ H _ I h) λv s1 ⟨x,H1,Y,Z,ty,q1⟩=>?_);obtain⟨h1,h2⟩:=zf Y Z ty;exact⟨T,id,pa,slot,U,h1,h2,Mj rfl (PySem.evalArgs_none (hm pins s1 σ H1 x [] v [] Q Y Z .nil q1))⟩
def zg (pa:PlainAttrs T) (slot:Slot T name id) (Z:typeOf (.builtin id)=pure (.type "method_descriptor")) (hm:MtR X id r) (ho:PE X o to) (ha:PA X (e::es) t)
  (J:attributeBase o name X.env (eval o X.env)=eval o X.env:=by rfl)
  (Y:((backTo cpos (starEach (e::es) X.env)).all (λx=>!x.1)&&(backToKw cpos (keywordEach [] X.env)).all (λx=>x.1.isSome)
  &&decide ((e::es).length+([]:List Keyword).length+(if ([]:List Keyword).isEmpty then 0 else 1)<30))=true:=by rfl)
  (U:(apos.endLine==cpos.line)=true:=by rfl) (hs:starEach (e::es) X.env=(false,eval e X.env)::starEach es X.env:=by rfl) (z:(backTo cpos (starEach es X.env)).any (·.1)=false:=by rfl) :
  PE X (.Call (.Attribute o name apos) (e::es) [] cpos) (tBM X.K T r to t):=by
 intro pins s σ H Q I h;refine wpAny_Call_method_late J Y U rfl (thn (ho pins s σ H _ I h) λv s1 ⟨x,H1,I1,r1,ty,q1⟩=>?_);obtain⟨h1,h2⟩:=zf I1 r1 ty;refine⟨T,id,pa,slot,Z,h1,h2,?_⟩;have hA:=ha cpos pins s1 σ H1 _ I1 q1;rw[hs]at hA ⊢;refine Mj (by show(false||(backTo cpos _).any _)=false;rw[z]<;>rfl) (Calls.evalArgs_plain ?_);exact thn hA λus s2 ⟨vs,H2,I2,r2,q2⟩=>hm pins s2 σ H2 x vs v us Q I2 r1 r2 q2
end
def MtM(X:Cx)(id:String)(r:V->List V->Hp->VK->Prop):Prop:=
 ∀pins s (σ:St) H x xs v us Q,Inv X pins σ H s->aF x v->aI xs us->r x xs H Q ->
  wpAny (model X.prog X.w) X.A (call (.builtin id) (v::us)) (EP X pins σ Q) X.xe s
theorem aI.one:∀{x}{us},aI [x] us->∃u,us=[u]/\aF x u
 | _,_,.cons r .nil=>⟨_,rfl,r⟩
def aI.zero:∀{us},aI [] us->us=[]
 | _,.nil=>rfl
theorem aI.dropLast(h:aI xs us):aI xs.dropLast us.dropLast:=by
 induction h with
 |nil=>exact .nil
 |cons r t ih =>
  cases t<;>first|exact .nil|exact .cons r ih
theorem aI.reverse(h:aI xs us):aI xs.reverse us.reverse:=by
 induction h with
 |nil=>exact .nil
 |cons r t ih=>rw[reverse_cons,reverse_cons];exact aI.append ih (.cons r .nil)
section
variable{X:Cx}{pins:List (Addr×Obj)}{σ:St}{H:Hp}{s:Shared}{l b:Addr}{xs ys zs:List V}
theorem Inv.lset{its its':List Value}{n:Nat}{f:Array Value->Array Value}{t':Nat}(I:Inv X pins σ H s)(z:H l=some (.lst xs))
  (e:s.heap.get? l=some { cls:=.type "list",data:=.seq its.toArray n }) (J:f its.toArray=its'.toArray) (hv:aI ys its') (hz:ys.length<=sizeLine) :
  Inv X pins σ (upd H l (.lst ys)) { s with heap:=s.heap.update l (Obj.mapSeq f),toks:=t' }:=by
 have q:=PySem.IsL.update e f;rw[J]at q;refine I.write (by rw[z];exact trivial) (.inl rfl) (λZ u U Y=>(Ln s.heap _ (Mb U)).trans Y) ⟨_,q⟩ ?_;exact⟨hz,its',_,hv,q⟩
theorem Inv.lnew(I:Inv X pins σ H s)(hv:aI ys its)(hz:ys.length<=sizeLine) :
  Inv X pins σ (upd H s.heap.objs.size (.lst ys)) { s with heap:=s.heap.push { cls:=.type "list",data:=.seq its.toArray },toks:=t' }:=
 I.laid (λ_ _ q=>gk _ q) (g4 _) ⟨hz,its,0,hv,r4 _ rfl⟩
theorem Inv.fresh(I:Inv X pins σ H s):H s.heap.objs.size=none:=I.hok.fresh (g4 _)
theorem Inv.lstM (I:Inv X pins σ H s) (J:H l=some (.lst xs)):xs.length<=sizeLine/\∃its n,aI xs its/\xs.length=its.length/\s.heap.get? l=some { cls:=.type "list",data:=.seq its.toArray n }:=by
 obtain⟨z,its,n,r,e⟩:=I.hok l _ J;exact⟨z,its,n,r,r.length,e⟩
def sr(h:n<=sizeLine):Builtin.List.listTooLong n=false:=by simp_all [Builtin.List.listTooLong]
end
section
variable{X:Cx}
def Ce:V->List V->Hp->VK->Prop:=λx vs H Q=>∃l xs y,x=.ref l/\vs=[y]/\H l=some (.lst xs)/\xs.length<sizeLine/\Q .non (upd H l (.lst (xs++[y])))
def lj:MtM X "list.append" Ce:=by
 intro pins s σ H x vs v us Q I U Y h;refine aB λZq Z=>?_
 obtain⟨l,xs,y,rfl,rfl,J,hz,q⟩:=h;cases U;obtain⟨u,rfl,ru⟩:=Y.one;obtain⟨z,its,n,r,hl,e⟩:=I.lstM J;refine Z ?_;refine NI F.slot_list_append ⟨_,e,rfl⟩ F.entry_list_append (F.args_list_append_2 _ _) (PySem.list_append l its.toArray n u (by rw[pb];omega)) ⟨e,?_⟩;refine⟨.non,_,I.lset J e (by simp) (r.append (.cons ru .nil)) ?_,rfl,q⟩
 grind
def J1:V->List V->Hp->VK->Prop:=λx vs H Q=>∃l xs y,x=.ref l/\vs=[]/\H l=some (.lst xs)/\xs[xs.length-1]?=some y/\Q y (upd H l (.lst xs.dropLast))
def EK:MtM X "list.pop" J1:=by
 intro pins s σ H x vs v us Q I Z rv h;refine aB λZq kq=>?_
 obtain⟨l,xs,y,rfl,rfl,Y,hy,q⟩:=h;cases Z;have J:=rv.zero;subst J;obtain⟨z,its,n,r,hl,e⟩:=I.lstM Y;obtain⟨u,hu,ru⟩:=r.get hy;have U:its.toArray[its.toArray.size-1]?=some u:=by
  simp_all
 refine kq ?_;refine NI F.slot_list_pop ⟨_,e,rfl⟩ F.entry_list_pop (F.args_list_pop_1 _) (MeetsSeq.list_pop_last l its.toArray n u U (by rw[pb];omega)) ⟨e,?_⟩;refine⟨y,_,I.lset Y e ?_ r.dropLast ?_,ru,q⟩
 .simp_all
 .rw[length_dropLast];omega
end
section
variable{prog:Program}{w:World}{A:Around}{E:Value->Shared->Prop}{s:Shared}
end
section
variable{X:Cx}
end
end L2
namespace Att
open PySem PySem.W PySem.Calls PyProof.Rows List Option
def mG :∀ns vs,WellAll P h vs (ns.map WData.int)->IntsAre vs ns:=by
 intro ns
 induction ns with
 |nil =>
  intro vs w;cases w;exact .nil
 |cons n ns ih =>
  intro vs w;cases w with
  |cons a b =>
   cases a;exact .cons _ _ (ih _ b)
def xC{l:OpenLaw}(hn:l.most=some n) 
  (z:l.row.toRowW.claim.pre args=true) (Z:WellAll P h vals args) :
  ∃a vs ns,vals=[Value.ref a]/\args=[WData.list (ns.map WData.int)]/\h.get? a=some { cls:=.type "list",data:=.seq vs.toArray }/\IntsAre vs ns/\ns.length<=n:=by
 have ao:WShape.hasAll [] args [.list .int]=true:=(pre_splitW z).1;have hc:l.pre.holds [] { args:=args }=true:=(pre_splitW z).2;obtain⟨d,r,rfl,h1,h2⟩:=hasAllW_cons ao;obtain rfl:=hasAllW_nil h2;obtain⟨xs,rfl,h3⟩:=hasW_list h1;obtain⟨ns,rfl⟩:=items_int h3;have J:ns.length<=n:=by
  have Y:(WTm.not (.lt (.lit (.int (n:Int))) (.len (.arg 0)))).holds [] { args:=[.list (ns.map .int)] }=true:=by
   have Y:=(holds_andW hc).1;rw[hn]at Y;exact Y
  have h5:=condW_of Y (w_not (w_lt w_lit (w_len_list (w_arg rfl))))
  simp_all
 cases Z with
 |cons w1 w2 =>
  cases w2;cases w1 with
  |list ho U=>exact⟨_,_,ns,rfl,rfl,ho,mG ns _ U,J⟩
def xD(l:OpenLaw)(args):l.row.toRowW.claim.post args (.bool true) args=true:=
 postW_of (r:=l.row.toRowW) (X:=(true==true))
  (show WShape.has [] (.bool true) .bool=true by first|rfl|decide|simp[WShape.arms])
  (show(WTm.eq .res (.lit (.bool true))).value [] { args:=args,res:=some (.bool true),after:=args }=some (.bool (true==true))from w_eq_bool (w_res rfl) w_lit) rfl
def attach_call{l:OpenLaw}{n:Nat}{q:Program}{J:List Str}{XP:(Str->Option Value)->Heap->Prop}{YP:World->Heap->Prop}{d:DefRec}
  (hn:l.most=some n) (a3:d.params.defaults=[])
  (call:∀w s₀ z mg mb fa o pm cd U a vs ns,
   Ground q J [] XP w s₀ mg mb z.heap->YP w z.heap ->
   z.heap.get? fa=some o->o.data=.func (docDef d.name d.params d.body d.scope pm cd U)->z.heap.CodeRec cd d.name->mg d.name=some (.ref fa) ->
   z.heap.get? a=some { cls:=.type "list",data:=.seq vs.toArray }->IntsAre vs ns->ns.length<=n->z.gens=#[] ->
   codeAny (model l.prog w) callerA (.call (.ref fa) ⟨[.ref a],[]⟩) (λr s'=>r=.ok (.ret (.bool true))/\OldK z.heap s'.heap/\s'.os=z.os/\AllBare s'.gens) z) :
  WalkO q J XP YP l.row.toRowW d [] (λf vs=>PySem.call f vs):=by
 intro w s₀ z mg mb G Y fa o pm cd U dV kV ho hd a5 hD a6 hg args vals as aO bB b3 a7 b4;obtain rfl:dV=.none:=Dflts.none hD a3;obtain rfl:kV=.none:=Dflts.noKw hD;obtain⟨a,vs,ns,rfl,rfl,a0,Z,a1⟩:=xC hn aO a7;refine enter_call (Mq (call w s₀ z mg mb fa o pm cd U a vs ns G Y ho (fd_plain hd) a5 a6 a0 Z a1 hg) λr s' hq=>?_);obtain⟨rfl,h2,h3,h4⟩:=hq;exact⟨.inl ⟨.bool true,.bool true,[],rfl,λ_=>rfl,.bool true,xD l _,λ_=>⟨Pairwise.nil,λ_ hm=>(nomatch hm)⟩⟩,h2,h3,h4⟩
section
variable{prog:Program}{w:World}{A:Around}{E:Value->Shared->Prop}{s:Shared}{K:Frag}
end
end Att
namespace L2
open PySem PySem.Spec PyProof.Rows List Option
theorem lm:∀{vs}{ns},IntsAre vs ns->aI (ns.map V.int) vs
 | _,_,.nil=>.nil
 | _,_,.cons n t h=>.cons ⟨t,rfl⟩ (lm h)
def EL(H:Hp):Prop:=∀b,H b=none\/∃o xs,H b=some (.frz o (.lst xs))
def zh{K:N0} 
  (KX:K.In J.heap) (aO:J.heap.Ns mainGlobals mg) (U:J.heap.Ns builtinsNs mb) (a6:∀x:Str,x ≠ "__name__"->mb x=bootBuiltins x) (a0:J.heap.NoLimit) (hg:J.gens=#[])
  (ha:J.heap.get? a=some { cls:=.type "list",data:=.seq vs.toArray }) (hi:IntsAre vs ns) (hl:ns.length<=sizeLine) (hr:lh k callerA)
  (F:∀base,K.In base->base.Ns mainGlobals mg->jS P w K mg base CX k fa fd [x] sp) (ao:∀s u,BindsTo s fd ⟨[u],[]⟩ [(x,u)])
  (a7:∀H,EL H->SqL K H a (ns.map V.int)->sp [.ref a] H (λv _=>v=.bl true) λ_ _ _=>False)
  (a8:∀H e s',CX [] H J (λ_ _ _=>False) e s'->False) :
  codeAny (model P w) callerA (.call (.ref fa) ⟨[.ref a],[]⟩) (λr s'=>r=.ok (.ret (.bool true))/\OldK J.heap s'.heap/\s'.os=J.os/\AllBare s'.gens) J:=by
 have rv:=lm hi;have a1:=hi.length;have Z:∀H,EL H->SqL K H a (ns.map V.int)->HOk P w H J.heap->(∀b,H b≠none->b=a)->(H a≠none->K.lookup a=none) ->
   codeAny (model P w) callerA (.call (.ref fa) ⟨[.ref a],[]⟩) (λr s'=>r=.ok (.ret (.bool true))/\OldK J.heap s'.heap/\s'.os=J.os/\AllBare s'.gens) J:=by
  intro H hO hS hok hA hK;have base_of:∀{b}{o},J.heap.get? b=some o->H b=none->(qE J.heap H).get? b=some o:=λe n=>yL e n
  have a9:∀{b}{o}{es}{ep},J.heap.get? b=some o->o.data=.dict es ep->H b=none:=λ{b o es ep} e d=>by
   cases q:H b with
   |none=>rfl
   |some u =>
    have e':=hA b (by rw[q];simp);subst e';rw[ha]at e;cases e
    have d':=d;cases d'
  have Y:∀{b}{m},J.heap.Ns b m->(qE J.heap H).Ns b m:=λ{b m} ⟨o,es,ep,e,d,r⟩=>⟨o,es,ep,base_of e (a9 e d),d,r⟩
  have a2:K.In (qE J.heap H):=λb o e=>base_of (KX b o e) (by
   cases q:H b with
   |none=>rfl
   |some u =>
    have e':=hA b (by rw[q];simp);subst e';rw[hK (by rw[q];simp)]at e;cases e)
  have hM:Mod K mg (qE J.heap H):=⟨a2,Y aO,⟨mb,Y U,a6⟩,let ⟨mc,h1,h2⟩:=a0;⟨mc,Y h1,h2⟩⟩;have e0:B8 P w K mg (qE J.heap H) callerA [] J H:=⟨rfl,hM,λb o e=>BV e,Ms (xt _ _),trivial,λb U=>absurd (show b∈([]:List Addr)from U) (by simp),hok,.of_eq hg⟩;refine Mq ((F _ a2 (Y aO)).run callerA [] J H ⟨[.ref a],[]⟩ [.ref a] [.ref a] _ _ hr e0 (ao J (.ref a)) (.cons rfl .nil) (a7 H hO hS)) λr s' h=>?_
  cases r with
  |error e=>exact(a8 H e s' h).elim
  |ok fl =>
   cases fl with
   |ret u =>
    obtain⟨v,H',os,bare,un,a3,r',q⟩:=h;have q':=q;subst q';obtain rfl:u=Value.bool true:=r';refine⟨rfl,OldK.of_keep λb o e=>?_,os,bare⟩;cases q:H b with
    |none=>exact un.keep b o e q (by intro z;exact absurd (show b∈([]:List Addr)from z) (by simp)) (by simp)
    |some u =>
     rcases hO b with z|⟨ob,xs,z⟩
     .rw[q]at z;cases z
     .have z2:=un.frzs b ob _ z;obtain⟨e1,_⟩:=hok b _ z;obtain⟨e2,_⟩:=a3 b _ z2;rw[e]at e1;cases e1
      exact e2
   | _=>exact False.elim h
 cases hk:K.lookup a with
 |some o =>
  have e:=KX a o hk;rw[ha]at e;cases e;refine Z (λ_=>none) (λ_=>.inl rfl) (.inr ⟨_,vs.toArray,_,hk,rfl,rfl,rfl,by rw[pb,a1];exact hl,by simpa using rv⟩) (λb u z=>by have z':=z;cases z') (λb z=>absurd rfl z) λz=>absurd rfl z
 |none =>
  refine Z (λb=>if b=a then some (.frz { cls:=.type "list",data:=.seq vs.toArray } (.lst (ns.map V.int)))else none) (λb=>?_) (.inl (.inr ⟨{ cls:=.type "list",data:=.seq vs.toArray },if_pos rfl⟩)) (λb u z=>?_) (λb z=>?_) λ_=>hk
  .by_cases U:b=a
   .exact .inr ⟨_,_,if_pos U⟩
   .exact .inl (if_neg U)
  .by_cases U:b=a
   .have z':=(if_pos U).symm.trans z;cases z';subst U;exact⟨ha,by rw[mx];exact hl,vs,_,rv,ha⟩
   .have z':=(if_neg U).symm.trans z;cases z'
  .by_cases U:b=a
   .exact U
   .exact absurd (if_neg U) z
def Cf{l:PySem.W.OpenLaw}{n k:Nat}{q:Program}{J:List Str}{XP:(Str->Option Value)->Heap->Prop}{YP:World->Heap->Prop}{d:DefRec}{K:Params->N0}{CX:World->CXT}{sp:World->Sp}{x:Str}
  (hn:l.most=some n) (a0:n<=sizeLine) (a1:d.params.defaults=[]) (hr:lh k callerA)
  (hY:∀w h,YP w h->(K w.params).In h)
  (F:∀w mg fa h,(K w.params).In h->h.Ns mainGlobals mg->mg d.name=some (.ref fa) ->
   ∃fd,(∀s u,BindsTo s fd ⟨[u],[]⟩ [(x,u)]) /\
    ∀base,(K w.params).In base->base.Ns mainGlobals mg->jS l.prog w (K w.params) mg base (CX w) k fa fd [x] (sp w))
  (a2:∀w H a (ns:List Int),ns.length<=n->EL H->SqL (K w.params) H a (ns.map V.int)->sp w [.ref a] H (λv _=>v=.bl true) λ_ _ _=>False)
  (a3:∀w H s e s',CX w [] H s (λ_ _ _=>False) e s'->False) :
  PySem.W.WalkO q J XP YP l.row.toRowW d [] (λf vs=>PySem.call f vs):=by
 refine Att.attach_call hn a1 λw s₀ Z mg mb fa o pm cd bB a vs ns G Y ho hd b0 a4 ao U z hg=>?_
 have KX:=hY w _ Y;obtain⟨fd,hb,hF⟩:=F w mg fa _ KX G.T.g a4;exact zh KX G.T.g G.T.b G.T.builtins G.T.nolimit hg ao U (pe z a0) hr hF hb (λH hO hS=>a2 w H a ns z hO hS) λH e s'=>a3 w H Z e s'
noncomputable def kn(s:Stmt):Arguments:=match s with
 | .FunctionDef _ a _ _ _ _ _ _ _ _=>a
 | _=>{ posonlyargs:=[],args:=[],vararg:=none,kwonlyargs:=[],kw_defaults:=[],kwarg:=none,defaults:=[] }
noncomputable def dS(s:Stmt):List Stmt:=match s with
 | .FunctionDef _ _ b _ _ _ _ _ _ _=>b
 | _=>[]
noncomputable def br(s:Stmt):Scope:=match s with
 | .FunctionDef _ _ _ _ _ _ sc _ _ _=>sc
 | _=>{ kind:=.function,names:=[],isGenerator:=false,isCoroutine:=false }
noncomputable abbrev CX0:CXT:=λ_ _ _ _ _ _=>False
noncomputable abbrev E0:XK:=λ_ _ _=>False
def su :qI CX0 X E0:=λ_ _ _ _ _ _ _ h=>h.elim
section
variable{P:Program}{w:World}{K:N0}{mg:Str->Option Value}{base:Heap}
end
section
variable{X:Cx}
end
def ai(H H':Hp):Prop:=∀b o,H b=some o->H' b=some o
def ai.refl(H):ai H H:=λ_ _ h=>h
def ai.trans(a:ai H H1)(b:ai H1 H2):ai H H2:=λc o h=>b c o (a c o h)
def ai.free(e:ai H H')(h:H' l=Option.none):H l=Option.none:=by
 cases q:H l with
 |none=>rfl
 |some o =>
  rw[e l o q]at h;cases h
theorem ai.seq{K:N0}(e:ai H H')(h:SqL K H a xs):SqL K H' a xs:=by
 rcases h with(h|⟨o,h⟩)|h
 .exact .inl (.inl (e _ _ h))
 .exact .inl (.inr ⟨o,e _ _ h⟩)
 .exact .inr h
section
variable{g:Type} [DecidableEq g]
noncomputable def jz(kvs:List (g×V))(k:g):Option V:=(kvs.find? λz=>decide (z.1=k)).map (·.2)
noncomputable def gR(kvs:List (g×V))(k:g)(v:V):List (g×V):=
 if (kvs.any λz=>decide (z.1=k))=true then kvs.map (λz=>if z.1=k then(z.1,v)else z)else kvs++[(k,v)]
noncomputable def Kq(kvs:List (g×V))(k:g):List (g×V):=kvs.filter λz=>decide (z.1≠k)
def nt{k:g}(e:p.1=k):jz (p::r) k=some p.2:=by simp_all [jz]
def nu{k:g}(e:¬ p.1=k):jz (p::r) k=jz r k:=by simp_all [jz]
theorem sw(k):∀kvs:List (g×V),(kvs.any λz=>decide (z.1=k))=(jz kvs k).isSome
 | []=>rfl
 |p::r=>by
  rw[any_cons];by_cases e:p.1=k
  .simp[nt e,Ky e]
  .rw[nu e,KP e,Bool.false_or];exact sw k r
def iX(kvs)(k:g)(v):(gR kvs k v).length<=kvs.length+1:=by grind [gR,length_map,length_append,length_cons,length_nil]
def mF.isSome_eq(r:mF o u):o.isSome=u.isSome:=by
 cases o<;>first|(cases u<;>first|rfl|exact(show False from r).elim)|(cases u<;>first|exact(show False from r).elim|rfl)
theorem mF.getD(r:mF o u)(rd:aF d d'):aF (o.getD d) (u.getD d'):=by
 cases o<;>first|(cases u<;>first|exact rd|exact(show False from r).elim)|(cases u<;>first|exact(show False from r).elim|exact r)
theorem KV.val(r:KV kvs vs)(k:g):mF (jz kvs k) (valueAt vs k):=by
 induction r with
 |nil=>exact True.intro
 | @cons p q ps J h t ih =>
  obtain⟨h1,h2⟩:=h;by_cases e:p.1=k
  .have U:=h1.symm.trans e;have b:valueAt (q::J) k=some q.2:=by simp[valueAt,find?_cons,U]
   rw[nt e,b];exact h2
  .have U:¬ q.1=k:=λz=>e (h1.trans z)
   have b:valueAt (q::J) k=valueAt J k:=by simp[valueAt,find?_cons,U]
   rw[nu e,b];exact ih
theorem KV.any(r:KV kvs vs)(k:g):(kvs.any λz=>decide (z.1=k))=vs.any λz=>decide (z.1=k):=by
 induction r with
 |nil=>rfl
 |cons h t ih=>rw[any_cons,any_cons,ih,h.1]
def KV.repl(r:KV kvs vs)(k:g)(U:aF y u) :
  KV (kvs.map λJ=>if J.1=k then(J.1,y)else J) (vs.map λJ=>if J.1=k then(J.1,u)else J):=by
 induction r with
 |nil=>exact .nil
 | @cons p q ps Y h t ih =>
  rw[uw,uw];refine .cons ?_ ih;obtain⟨h1,h2⟩:=h;by_cases e:p.1=k
  .rw[if_pos e,if_pos (h1.symm.trans e)];exact⟨h1,U⟩
  .rw[if_neg e,if_neg (λz=>e (h1.trans z))];exact⟨h1,h2⟩
theorem KV.put(r:KV kvs vs)(k:g)(z:aF y u):KV (gR kvs k y) (stored vs k u):=by
 unfold gR stored;rw[r.any k];by_cases e:(vs.any λJ=>decide (J.1=k))=true
 .rw[if_pos e,if_pos e];exact r.repl k z
 .rw[if_neg e,if_neg e];exact Paired.snoc r ⟨rfl,z⟩
def KV.keys{vs:List (g×Value)}(r:KV kvs vs):kvs.map (·.1)=vs.map (·.1):=by
 induction r with
 |nil=>rfl
 |cons h t ih=>rw[uw,uw,ih,h.1]
theorem KV.length(r:KV kvs vs):kvs.length=vs.length:=Paired.length r
end
def nv(r:aF (kV k) u):(bI P w).is k u=true:=by
 cases k with
 |inl i=>obtain⟨t,e⟩:=(show ∃t,u=Value.int i t from r);subst e;exact sg P w i t
 |inr x=>obtain⟨t,e⟩:=(show ∃t,u=Value.str x t from r);subst e;exact sh P w x t
theorem pQ :∀{ks}{us},aI (ks.map kV) us->ItemsAre (bI P w) ks us
 | [],_,r=>by rw[map_nil]at r;cases r;exact .nil
 |k::ks,_,r=>by
  cases r with
  |cons h t=>exact .cons (nv h) (pQ t)
abbrev KT(H:Hp):List (List Key×V)->List (List Key×Addr×Value)->Prop:=Paired λp q=>p.1=q.1/\H q.2.1=some (.tup (p.1.map kV))/\aF p.2 q.2.2
theorem KT.val(r:KT H kvs xs)(k):mF (jz kvs k) ((atKey xs k).map (·.2)):=by
 induction r with
 |nil=>exact True.intro
 | @cons p q ps J h t ih =>
  obtain⟨h1,_,h2⟩:=h;by_cases e:p.1=k
  .have U:=h1.symm.trans e;have b:atKey (q::J) k=some q.2:=by simp[atKey,find?_cons,U]
   rw[nt e,b];exact h2
  .have U:¬ q.1=k:=λz=>e (h1.trans z)
   have b:atKey (q::J) k=atKey J k:=by simp[atKey,find?_cons,U]
   rw[nu e,b];exact ih
def KT.repl(r:KT H kvs xs)(k)(U:aF y u) :
  KT H (kvs.map λJ=>if J.1=k then(J.1,y)else J) (xs.map (putAt k u)):=by
 induction r with
 |nil=>exact .nil
 | @cons p q ps Z h t ih =>
  rw[uw,uw];refine .cons ?_ ih;obtain⟨h1,h2,Y⟩:=h;unfold putAt;by_cases e:p.1=k
  .rw[if_pos e,if_pos (h1.symm.trans e)];exact⟨h1,h2,U⟩
  .rw[if_neg e,if_neg (λz=>e (h1.trans z))];exact⟨h1,h2,Y⟩
theorem KT.put(r:KT H kvs xs)(k)(J:H b=some (.tup (k.map kV)))(z:aF y u) :
  KT H (gR kvs k y) (storedH xs k b u):=by
 have e:(kvs.any λU=>decide (U.1=k))=(atKey xs k).isSome:=by
  rw[sw,(r.val k).isSome_eq,isSome_map]
 unfold gR storedH;rw[e];by_cases q:(atKey xs k).isSome=true
 .rw[if_pos q,if_pos q];exact r.repl k z
 .rw[if_neg q,if_neg q];exact Paired.snoc r ⟨rfl,J,z⟩
def KT.keeps(r:KT H kvs xs)(J:∀b ys,H b=some (.tup ys)->H' b=some (.tup ys)):KT H' kvs xs:=
 Paired.mapP r λ_ _ z=>⟨z.1,J _ _ z.2.1,z.2.2⟩
section
variable{P:Program}{w:World}{H:Hp}{h:Heap}{a:Addr}
def DK(ok:HOk P w H h)(e:Rd H a u):bM P w H h a u:=e.ok ok
def jF(ok:HOk P w H h)(e:Rd H a (.dK kvs)):kvs.length<=sizeLine/\(a==sysModules)=false/\∃vs,KV kvs vs/\h.DictOf (bI P w) a vs:=
 show bM P w H h a (.dK kvs)from DK ok e
def DL(ok:HOk P w H h)(e:H a=some (.dK kvs)):kvs.length<=sizeLine/\(a==sysModules)=false/\∃vs,KV kvs vs/\h.DictOf (bI P w) a vs:=jF ok (.inl e)
def ln(ok:HOk P w H h)(e:H a=some (.tup (ks.map kV))):(tupleKind (bI P w)).is h ks a:=by
 obtain⟨_,its,r,o,h1,h2,n,z⟩:=(show bM P w H h a _ from ok a _ e);exact⟨o,its.toArray,n,h1,h2,z,by simpa using pQ r⟩
def lY(ok:HOk P w H h)(e:Rd H a (.dT kvs)):kvs.length<=sizeLine/\(a==sysModules)=false /\
  ∃xs,KT H kvs xs/\h.DictOfH (tupleKind (bI P w)) a xs:=by
 refine aB λZq U=>?_
 obtain⟨z,y,xs,r,o,es,ep,h1,h2,Y,Z,h5⟩:=(show bM P w H h a _ from DK ok e);refine U ?_;refine⟨z,y,xs,r,o,es,ep,h1,h2,Y,Z,λx hx=>?_,h5⟩;have all:∀{l}{m},KT H l m->∀x∈m,(tupleKind (bI P w)).is h x.1 x.2.1:=by
  intro l m q
  induction q with
  |nil=>intro x hx;exact nomatch hx
  | @cons p q ps qs J t ih =>
   intro x hx;rcases wh.mp hx with e|hx
   .subst e;exact ln ok (by rw[<- J.1];exact J.2.1)
   .exact ih x hx
 exact all r x hx
def HF(ok:HOk P w H h)(e:H a=some (.dT kvs)):kvs.length<=sizeLine/\(a==sysModules)=false /\
  ∃xs,KT H kvs xs/\h.DictOfH (tupleKind (bI P w)) a xs:=lY ok (.inl e)
end
def nw(H:Hp)(a:Addr)(y:V)(r:Option V):Prop:=
 (∃kvs k,Rd H a (.dK kvs)/\y=kV k/\r=jz kvs k)\/∃kvs k b,Rd H a (.dT kvs)/\y=.ref b/\H b=some (.tup (k.map kV))/\r=jz kvs k
def ny(H:Hp)(a:Addr)(y v:V)(H':Hp):Prop:=
 (∃kvs k,H a=some (.dK kvs)/\y=kV k/\kvs.length<sizeLine/\H'=upd H a (.dK (gR kvs k v))) \/
 ∃kvs k b,H a=some (.dT kvs)/\y=.ref b/\H b=some (.tup (k.map kV))/\kvs.length<sizeLine/\H'=upd H a (.dT (gR kvs k v))
theorem ny.k{k:Key}{v:V}(e:H a=some (.dK kvs))(z:kvs.length<sizeLine):ny H a (kV k) v (upd H a (.dK (gR kvs k v))):=.inl ⟨kvs,k,e,rfl,z,rfl⟩
theorem ny.t{k:List Key}{v:V}(e:H a=some (.dT kvs))(z:H b=some (.tup (k.map kV)))(J:kvs.length<sizeLine) :
  ny H a (.ref b) v (upd H a (.dT (gR kvs k v))):=.inr ⟨kvs,k,b,e,rfl,z,J,rfl⟩
section
variable{X:Cx}{pins:List (Addr×Obj)}{σ:St}{H:Hp}{s:Shared}{a:Addr}{y v:V}{u r:Value}{o:Option V}{A:Around}{E:Value->Shared->Prop}
theorem Inv.big(I:Inv X pins σ H s):sysModules<s.heap.objs.size:=by
 have h:=(I.mod.glob.keeps I.bk).lt;exact Mt (by decide) h
def xE(hu:A.units+1<cLine)(I:Inv X pins σ H s)(g:nw H a y (some v))(ry:aF y u)(h:∀Y s',Inv X pins σ H s'->aF v Y->Q Y s') :
  wpAny (model X.prog X.w) A (getItem (.ref a) u) Q E s:=by
 rcases g with⟨kvs,k,e,Z,l⟩|⟨kvs,k,b,e,Z,eb,l⟩
 .subst Z;obtain⟨z,hd,vs,J,dd⟩:=jF I.hok e;obtain⟨Y,hw,U⟩:=mF.some_of (by rw[l];exact J.val k);exact wpAny_getItem_of (nv ry) dd.mapOf hw (h Y _ (I.tok _) U)
 .subst Z;cases (show u=Value.ref b from ry);obtain⟨z,hd,xs,J,dd⟩:=lY I.hok e;obtain⟨Y,hw,U⟩:=mF.some_of (o:=(atKey xs k).map _) (by rw[l];exact J.val k);obtain⟨p,hp,ao⟩:=oe.mp hw;refine wpAny_getItem_heap (Md hu) (ln I.hok eb) dd hp ?_;rw[ao];exact h Y _ (I.tok _) U
def J2(Z:A.units+1<cLine)(I:Inv X pins σ H s)(g:nw H a y o)(Y:aF y u)(h:∀s',Inv X pins σ H s'->Q (.bool o.isSome) s') :
  wpAny (model X.prog X.w) A (compareOp .In u (.ref a)) Q E s:=by
 rcases g with⟨kvs,k,e,U,l⟩|⟨kvs,k,b,e,U,eb,l⟩
 .subst U;obtain⟨z,hd,vs,J,dd⟩:=jF I.hok e;refine wpAny_in_of (nv Y) hd dd.mapOf ?_;rw[<- (J.val k).isSome_eq,<- l];exact h _ (I.tok _)
 .subst U;cases (show u=Value.ref b from Y);obtain⟨z,hd,xs,J,dd⟩:=lY I.hok e;refine wpAny_in_heap (Md Z) (ln I.hok eb) hd dd ?_;have q:=(J.val k).isSome_eq;rw[isSome_map]at q;rw[<- q,<- l];exact h _ (I.tok _)
def Cg(Z:A.units+1<cLine)(I:Inv X pins σ H s)(g:nw H a y o)(Y:aF y u)(h:∀s',Inv X pins σ H s'->Q (.bool (!o.isSome)) s') :
  wpAny (model X.prog X.w) A (compareOp .NotIn u (.ref a)) Q E s:=by
 rcases g with⟨kvs,k,e,U,l⟩|⟨kvs,k,b,e,U,eb,l⟩
 .subst U;obtain⟨z,hd,vs,J,dd⟩:=jF I.hok e;refine wpAny_notIn_of (nv Y) hd dd.mapOf ?_;rw[<- (J.val k).isSome_eq,<- l];exact h _ (I.tok _)
 .subst U;cases (show u=Value.ref b from Y);obtain⟨z,hd,xs,J,dd⟩:=lY I.hok e;refine wpAny_notIn_heap (Md Z) (ln I.hok eb) hd dd ?_;have q:=(J.val k).isSome_eq;rw[isSome_map]at q;rw[<- q,<- l];exact h _ (I.tok _)
def qN(I:Inv X pins σ H s)(U:Mut (H a))(hs:Heap.SameBut a s.heap h')(Y:∃q,h'.get? a=some q)(new:bM X.prog X.w (upd H a J) h' a J) :
  Inv X pins σ (upd H a J) { s with heap:=h',toks:=t' }:=
 I.write (x:=a) (e:=a) U (.inl rfl) (λb q Z z=>(hs.2 b Z).trans z) Y new
def zi(z:kvs.length<=sizeLine)(hd:(a==sysModules)=false)(J:KV kvs vs)(dd:h'.DictOf (bI P w) a vs) :
  bM P w H' h' a (.dK kvs):=⟨z,hd,vs,J,dd⟩
def xF(hu:A.units+1<cLine)(I:Inv X pins σ H s)(g:ny H a y v H')(ry:aF y u)(rv:aF v r)(h:∀s',Inv X pins σ H' s'->Q () s') :
  wpAny (model X.prog X.w) A (setItem (.ref a) u r) Q E s:=by
 rcases g with⟨kvs,k,e,Z,l,eH⟩|⟨kvs,k,b,e,Z,eb,l,eH⟩
 .subst Z eH;obtain⟨z,hd,vs,J,dd⟩:=DL I.hok e;have hz:vs.length<=sizeLine:=by rw[<- J.length];exact z
  have hl:(gR kvs k v).length<=sizeLine:=by have:=iX kvs k v;omega
  refine wpAny_setItem_pairs (nv ry) dd λh' U hs=>h _ ?_
  have he:∃q,h'.get? a=some q:=let ⟨q,_,_,Y,_⟩:=U;⟨q,Y⟩
  exact qN I (by rw[e];exact True.intro) hs he (zi hl hd (J.put k rv) U)
 .subst Z eH;cases (show u=Value.ref b from ry);obtain⟨z,hd,xs,J,dd⟩:=HF I.hok e;have hz:xs.length<=sizeLine:=by rw[<- Paired.length J];exact z
  have hl:(gR kvs k v).length<=sizeLine:=by have:=iX kvs k v;omega
  refine wpAny_setItem_heap (Md hu) (ln I.hok eb) dd λh' U hs=>h _ ?_
  refine aB λZq kq=>?_
  obtain⟨q,es,ep,Y,h2,h3,h4,_,h5⟩:=U;refine kq ?_;refine qN I (by rw[e];exact True.intro) hs ⟨q,Y⟩ ⟨hl,hd,_,(J.put k eb rv).keeps λc ys ec=>?_,q,es,ep,Y,h2,h3,h4,h5⟩;rw[bb (G9 ec e (λz=>nomatch z))];exact ec
end
section
variable{X:Cx}{pins:List (Addr×Obj)}{σ:St}{H:Hp}{s:Shared}{a:Addr}{kvs:List (Key×V)}{k:Key}{u:Value}{A:Around}{E:Value->Shared->Prop}
end
def HG(i:Expr):Prop:=∀z J,subscripted i false z J=operate [z,J] (getItem z J)
def Ch{T id:String} 
  (hl:typeLookup (.type T) "__getitem__"=pure (some (.builtin id))) (hs:HG slice)
  (h:wpAny (model prog w) A (eval value env) (λo U=>wpAny (model prog w) A (eval slice env) (λi z=>z.TypeIs o T/\wpAny (model prog w) A (getItem o i) Q E z) E U) E s) :
  wpAny (model prog w) A (eval (.Subscript value slice pos) env) Q E s:=by
 refine Subscript_ (K3 h (λo U Z=>K3 Z (λi z J=>?_) λ_ _ x=>x) λ_ _ x=>x);obtain⟨hT,J⟩:=J;refine ez ?_;refine ez (Nb hT hl ?_);have fin:wpAny (model prog w) A (subscripted slice false o i) (λr Y=>wpAny (model prog w) A (letTemporaryGo value o r >>= λ_=>pure r) Q E Y) E z:=by
  rw[hs o i];exact wpAny_operating (K3 J (λr Y ao=>ez (wpAny_letTemporaryGo (gf ao))) λ_ _ x=>x)
 first
  | exact gf (ez fin)
  | exact ez (gf _)
  | exact ez fin
def sx (I:Inv X pins σ H s) (g:nw H a y o):s.TypeIs (.ref a) "dict":=by
 rcases g with⟨kvs,k,e,_,_⟩|⟨kvs,k,b,e,_,_,_⟩
 .obtain⟨_,_,vs,_,dd⟩:=jF I.hok e;exact dd.typeIs
 .obtain⟨_,_,xs,_,dd⟩:=lY I.hok e;exact dd.typeIs
noncomputable def HH(td ty:TE):TE:=λσ H Q=>td σ H λx H1=>ty σ H1 λy H2=>∃a v,x=.ref a/\nw H2 a y (some v)/\Q v H2
noncomputable def J3(ty td:TE):TE:=λσ H Q=>ty σ H λy H1=>td σ H1 λx H2=>∃a o,x=.ref a/\nw H2 a y o/\Q (.bl o.isSome) H2
noncomputable def Ci(ty td:TE):TE:=λσ H Q=>ty σ H λy H1=>td σ H1 λx H2=>∃a o,x=.ref a/\nw H2 a y o/\Q (.bl (!o.isSome)) H2
noncomputable def HI(td ty tv:TE):TS:=λD σ H=>tv σ H λv H1=>td σ H1 λx H2=>ty σ H2 λy J=>∃a z,x=.ref a/\ny J a y v z/\D.nx σ z
section
variable{X:Cx}{o i e value:Expr}{pos pos' tpos:Pos}{td ty tv:TE}
def v5(U:X.A.units+1<cLine)(ho:PE X o td)(hi:PE X i ty)(hs:HG i):PE X (.Subscript o i pos) (HH td ty):=by
 intro pins s σ H Q I h;refine Ch PySem.F.slot_dict_getitem.lookup hs (thn (ho pins s σ H _ I h) λu Y ⟨x,H1,Z,rx,q1⟩=>thn (hi pins Y σ H1 _ Z q1) λiv s2 ⟨y,H2,J,ry,a,v,ex,g,q2⟩=>?_);subst ex;obtain rfl:u=Value.ref a:=rx;exact⟨sx J g,xE U J g ry λw' s3 I3 z=>⟨v,H2,I3,z,q2⟩⟩
def zj(z:X.A.units+1<cLine)(hi:PE X i ty)(ho:PE X o td):PC X .In i o (J3 ty td):=by
 intro pins s σ H Q I h;refine thn (hi pins s σ H _ I h) λiv J ⟨y,H1,U,Y,Z⟩=>thn (ho pins J σ H1 _ U Z) λu s2 ⟨x,H2,I2,rx,a,ov,ex,g,q2⟩=>?_
 subst ex;obtain rfl:u=Value.ref a:=rx;exact J2 z I2 g Y λs3 I3=>⟨.bl ov.isSome,H2,I3,rfl,q2⟩
def pR(z:X.A.units+1<cLine)(hi:PE X i ty)(ho:PE X o td):PC X .NotIn i o (Ci ty td):=by
 intro pins s σ H Q I h;refine thn (hi pins s σ H _ I h) λiv J ⟨y,H1,U,Y,Z⟩=>thn (ho pins J σ H1 _ U Z) λu s2 ⟨x,H2,I2,rx,a,ov,ex,g,q2⟩=>?_
 subst ex;obtain rfl:u=Value.ref a:=rx;exact Cg z I2 g Y λs3 I3=>⟨.bl _,H2,I3,rfl,q2⟩
def Cj(z:X.A.units+1<cLine)(ho:PE X o td)(hi:PE X i ty)(hv:PE X value tv)(hs:swapsWith value (some (.Subscript o i pos')) pos.line X.env=pure false) :
  PS X (.Assign [.Subscript o i pos'] value pos) (HI td ty tv):=by
 intro pins s σ H D I h;refine wpAny_Assign_Subscript (thn (hv pins s σ H _ I h) λr J ⟨v,H1,U,Y,Z⟩=>thn (ho pins J σ H1 _ U Z) λu s2 ⟨x,H2,I2,rx,q2⟩=>thn (hi pins s2 σ H2 _ I2 q2) λiv s3 ⟨y,H3,I3,ry,a,H4,ex,g,q3⟩=>?_) hs;subst ex;obtain rfl:u=Value.ref a:=rx;exact xF z I3 g ry Y λs4 I4=>⟨σ,H4,I4,q3⟩
end
def sy (h:Heap) (z:sysModules<h.objs.size):bM P w H (h.push { cls:=.type "dict",data:=.dict #[] }) h.objs.size (.dK []):=
 ⟨KI _,LP.mpr (Mb (tr z)),[],.nil,Heap.DictOf.new h⟩
def zk (h:Heap) (z:sysModules<h.objs.size):bM P w H (h.push { cls:=.type "dict",data:=.dict #[] }) h.objs.size (.dT []):=
 ⟨KI _,LP.mpr (Mb (tr z)),[],.nil,_,#[],0,r4 _ rfl,⟨rfl,rfl,rfl⟩,rfl,rfl,LN⟩
noncomputable def EM:TE:=λ_ H Q=>∀p,H p=none->Q (.ref p) (upd H p (.dK []))
noncomputable def EN:TE:=λ_ H Q=>∀p,H p=none->Q (.ref p) (upd H p (.dT []))
section
variable{X:Cx}{pos:Pos}
def zl:PE X (.Dict [] [] pos) EM:=λpins s σ H Q I h =>
 wpAny_Dict_empty ⟨.ref s.heap.objs.size,_,I.laid (a:=s.heap.objs.size) (o:=.dK []) (t':=s.toks) (λ_ _ q=>gk _ q) (g4 _) (sy s.heap I.big),rfl,h _ (I.hok.fresh (g4 _))⟩
def zm:PE X (.Dict [] [] pos) EN:=λpins s σ H Q I h =>
 wpAny_Dict_empty ⟨.ref s.heap.objs.size,_,I.laid (a:=s.heap.objs.size) (o:=.dT []) (t':=s.toks) (λ_ _ q=>gk _ q) (g4 _) (zk s.heap I.big),rfl,h _ (I.hok.fresh (g4 _))⟩
end
def qO:List (TE×TE)->St->Hp->(List (V×V)->Hp->Prop)->Prop
 | [],_,H,Q=>Q [] H
 | (tk,tv)::r,σ,H,Q=>tk σ H λx H1=>tv σ H1 λy H2=>qO r σ H2 λps z=>Q ((x,y)::ps) z
abbrev VV:List (V×V)->List (Value×Value)->Prop:=Paired λp q=>aF p.1 q.1/\aF p.2 q.2
def PPs(X:Cx)(pos:Pos)(keys:List (Option Expr))(z:List Expr)(J:List (TE×TE)):Prop:=
 ∀pins s (σ:St) H Q,Inv X pins σ H s->qO J σ H Q ->
  wpAny (model X.prog X.w) X.A (evalPairs (pairTrees keys z X.env pos)) (λvs s'=>∃ps H',Inv X pins σ H' s'/\VV ps vs/\Q ps H') X.xe s
def Ck :PPs X pos [] [] []:=λpins s σ H Q I h=>pairTrees_nil_walk ⟨[],H,I,.nil,h⟩
def zn(U:PE X k tk)(hv:PE X v tv)(Y:PPs X pos ks vs z) :
  PPs X pos (some k::ks) (v::vs) ((tk,tv)::z):=λpins s σ H Q I h =>
 pairTrees_cons_walk (thn (U pins s σ H _ I h) λu Z ⟨x,H1,I1,rx,q1⟩=>thn (hv pins Z σ H1 _ I1 q1) λw2 s2 ⟨y,H2,I2,ry,q2⟩ =>
  thn (Y pins s2 σ H2 _ I2 q2) λws s3 ⟨ps,H3,I3,J,q3⟩=>⟨(x,y)::ps,H3,I3,.cons ⟨rx,ry⟩ J,q3⟩)
def iY(kvs z:List (Key×V)):List (Key×V):=z.foldl (λacc J=>gR acc J.1 J.2) kvs
def KV.merge:∀{z}{J}{kvs}{vs},KV z J->KV kvs vs->KV (iY kvs z) (merged vs J):=by
 intro z J kvs vs r
 induction r generalizing kvs vs with
 |nil=>intro q;exact q
 | @cons p q ps Y h t ih =>
  intro U;have e:KV (gR kvs p.1 p.2) (stored vs q.1 q.2):=by
   have:=U.put p.1 h.2;rw[<- h.1];exact this
  exact ih e
theorem jG:∀z kvs,(iY kvs z).length<=kvs.length+z.length
 | [],kvs=>by show kvs.length<=kvs.length+0;omega
 |p::r,kvs=>by
  have h1:=jG r (gR kvs p.1 p.2);have h2:=iX kvs p.1 p.2;show(iY (gR kvs p.1 p.2) r).length<=_
  grind
theorem nz :∀{kvs}{J},VV (kvs.map λU=>(kV U.1,U.2)) J->∃z,Carries (bI P w) J z/\KV kvs z
 | [],_,r=>by rw[map_nil]at r;cases r;exact⟨[],True.intro,.nil⟩
 |p::kvs,_,r=>by
  cases r with
  | @cons a b as bs h t =>
   obtain⟨z,c,q⟩:=nz (P:=P) (w:=w) t;obtain⟨Z,Y⟩:=b;exact⟨(p.1,Y)::z,⟨nv h.1,rfl,c⟩,.cons ⟨rfl,h.2⟩ q⟩
noncomputable def HJ(z:List (TE×TE)):TE:=λσ H Q=>∀p,H p=none->qO z σ (upd H p (.dK [])) λps H2=>H2 p=some (.dK [])/\∃kvs,ps=kvs.map (λJ=>(kV J.1,J.2))/\kvs.length<=15/\Q (.ref p) (upd H2 p (.dK (iY [] kvs)))
def Cl(h:PPs X pos keys values Y)(J:keys.all (·.isSome)=true)(hl:keys.length=values.length)(h0:keys≠[])
  (Z:keys.length<=15):PE X (.Dict keys values pos) (HJ Y):=by
 intro pins s σ H Q I q;have hn:=I.hok.fresh (g4 s.heap.objs.size);have I1:=I.laid (t':=s.toks) (λ_ _ q=>gk _ q) (g4 _) (sy s.heap I.big);refine wpAny_Dict_walk (knd:=bI X.prog X.w) J hl h0 Z (thn (h pins _ σ _ _ I1 (q _ hn)) λws s2 ⟨ps,H2,I2,ao,e,kvs,ep,lk,q2⟩=>?_);refine aB λZq kq=>?_
 subst ep;obtain⟨rs,c,rk⟩:=nz ao;obtain⟨z,hd,a8,r0,dd⟩:=DL I2.hok e;cases r0;refine kq ?_;refine⟨rs,c,dd,λh' U hs=>⟨.ref s.heap.objs.size,_,?_,rfl,q2⟩⟩;have hz:(iY [] kvs).length<=sizeLine:=by
  have h1:=jG kvs [];rw[length_nil]at h1;rw[K4];omega
 have he:∃q,h'.get? s.heap.objs.size=some q:=let ⟨q,_,_,hq,_⟩:=U;⟨q,hq⟩
 exact qN I2 (by rw[e];exact True.intro) hs he (zi hz hd (rk.merge .nil) U)
structure M2(X:Cx)(o:Expr)(m:Str)(apos:Pos)(e f:Expr)(cpos:Pos):Prop where
 base:attributeBase o m X.env (eval o X.env)=eval o X.env
 few:((backTo cpos (starEach [e,f] X.env)).all (λx=>!x.1)&&(backToKw cpos (keywordEach [] X.env)).all (λx=>x.1.isSome)
 &&decide (([e,f]:List Expr).length+([]:List Keyword).length+(if ([]:List Keyword).isEmpty then 0 else 1)<30))=true
 line:(apos.endLine==cpos.line)=true
 trees:backTo cpos (starEach [e,f] X.env)=[(false,eval e X.env),(false,eval f X.env)]
def IsD(H:Hp)(a:Addr):Prop:=(∃kvs,Rd H a (.dK kvs))\/∃kvs,Rd H a (.dT kvs)
def uP(I:Inv X pins σ H s)(d:IsD H a) :
  s.TypeIs (.ref a) "dict"/\(∀b,Value.ref a=.ref b->∃z,s.heap.get? b=some z/\z.dict=none)/\(a==sysModules)=false:=by
 rcases d with⟨kvs,e⟩|⟨kvs,e⟩
 .obtain⟨_,hd,vs,_,dd⟩:=jF I.hok e;refine⟨dd.typeIs,λb q=>?_,hd⟩;cases q;obtain⟨z,_,_,h1,h2,_⟩:=dd;exact⟨z,h1,h2.2.1⟩
 .obtain⟨_,hd,xs,_,dd⟩:=lY I.hok e;refine⟨dd.typeIs,λb q=>?_,hd⟩;cases q;obtain⟨z,_,_,h1,h2,_⟩:=dd;exact⟨z,h1,h2.2.1⟩
section
variable{X:Cx}{pins:List (Addr×Obj)}{σ:St}{H:Hp}{s:Shared}{a:Addr}{y d:V}{u r:Value}{o:Option V}{A:Around}{E:Value->Shared->Prop}
def EO(hu:A.units+1<cLine)(I:Inv X pins σ H s)(g:nw H a y o)(Y:aF y u)(rd:aF d r)(h:∀Z s',Inv X pins σ H s'->aF (o.getD d) Z->Q Z s') :
  wpAny (model X.prog X.w) A (call (.builtin "dict.get") [.ref a,u,r]) Q E s:=by
 rcases g with⟨kvs,k,e,U,l⟩|⟨kvs,k,b,e,U,eb,l⟩
 .subst U;obtain⟨z,hd,vs,J,dd⟩:=jF I.hok e;refine call_meetsIn PySem.F.slot_dict_get dd.typeIs PySem.F.entry_dict_get (PySem.F.args_dict_get_3 _ _ _) (meets_dict_get_default _ a (nv Y) hd r) ⟨_,dd.mapOf,h _ _ (I.tok _) ?_⟩;rw[l];exact(J.val k).getD rd
 .subst U;cases (show u=Value.ref b from Y);obtain⟨z,hd,xs,J,dd⟩:=lY I.hok e;refine call_meetsIn PySem.F.slot_dict_get dd.typeIs PySem.F.entry_dict_get (PySem.F.args_dict_get_3 _ _ _) (meetsH_dict_get_default (tupleKind _) a b hd r) ⟨Md hu,k,xs,ln I.hok eb,dd,h _ _ (I.tok _) ?_⟩;rw[l];exact(J.val k).getD rd
end
noncomputable def EQ(td ty tx:TE):TE:=λσ H Q=>td σ H λx H1=>∃a,x=.ref a/\IsD H1 a/\ty σ H1 λy H2=>tx σ H2 λz J=>∃o,nw J a y o/\Q (o.getD z) J
section
variable{X:Cx}{o e f:Expr}{apos cpos:Pos}{td ty tx:TE}
def zo (Y:X.A.units+1<cLine) (ho:PE X o td) (Z:PE X e ty) (hf:PE X f tx) (m:M2 X o "get" apos e f cpos):PE X (.Call (.Attribute o "get" apos) [e,f] [] cpos) (EQ td ty tx):=by
 intro pins s σ H Q I h;refine wpAny_Call_method m.base m.few m.line PySem.F.plainAttrs_dict PySem.F.slot_dict_get PySem.F.type_dict_get (thn (ho pins s σ H _ I h) λu s1 ⟨x,H1,U,rx,a,ex,d,q1⟩=>?_);subst ex;obtain rfl:u=Value.ref a:=rx;obtain⟨t1,t2,_⟩:=uP U d;refine⟨t1,t2,?_⟩;rw[m.trees];refine Mj rfl (Calls.evalArgs_plain (MQ (thn (Z pins s1 σ H1 _ U q1) λiv s2 ⟨y,H2,I2,ry,q2⟩ =>
  MQ (thn (hf pins s2 σ H2 _ I2 q2) λfv s3 ⟨z,H3,I3,rz,ov,g,q3⟩=>ND ?_))))
 exact EO Y I3 g ry rz λw' s4 I4 J=>⟨_,H3,I4,J,q3⟩
end
section
variable{X:Cx}{pins:List (Addr×Obj)}{σ:St}{H:Hp}{s:Shared}{a:Addr}{kvs:List (Key×V)}{A:Around}{E:Value->Shared->Prop}
end
section
variable{X:Cx}{pins:List (Addr×Obj)}{σ:St}{H:Hp}{s:Shared}{a:Addr}{y:V}{u:Value}{A:Around}{E:Value->Shared->Prop}
end
end L2
namespace L2.Srt
open PySem PySem.W PyProof.Rows List Option
section
variable{O:KeyOrd}{key:Nat->O.α}{N:Nat}{cmp:Nat->Nat->(Bool->Shared->Prop)->Shared->Prop}{s:Shared}
noncomputable def kk(key:Nat->O.α)(p:Array Nat)(i:Nat):O.α:=key (p.getD i 0)
def fU(key:Nat->O.α)(p:Array Nat)(k:Nat):Prop:=∀i j,i<=j->j<k->O.kle (kk key p i) (kk key p j)
def sA(key:Nat->O.α)(p:Array Nat)(k:Nat):Prop:=∀i j,i<=j->j<k->O.kle (kk key p j) (kk key p i)
def PB(N:Nat)(p:Array Nat):Prop:=p.Perm (range N).toArray
theorem PB.size(h:PB N p):p.size=N:=by have:=h.size_eq;simpa using this
theorem PB.lt(h:PB N p)(hi:i<N):p.getD i 0<N:=by
 have hs:i<p.size:=by rw[h.size];exact hi
 have z:p[i]∈(range N):=by
  have e:=(MG.mp h).mem_iff (a:=p[i])
  simp_all
 simp_all
theorem PB.rev(h:PB N p)(i j):PB N (kas_rev p i j):=(mirror_perm _ _ _ _).trans h
theorem PB.bub(h:PB N p)(i j):PB N (bubble p i j):=(bubble_perm _ _ _).trans h
def iZ(h:p[i]?=q[j]?):kk key p i=kk key q j:=by
 unfold kk;rw[LX,LX,h]
def xG(hs:src<p.size)(hd:d<=src)(k) :
  kk key (bubble p src d) k=if k=src-d then kk key p src else if src-d<k/\k<=src then kk key p (k-1)else kk key p k:=by
 have e:=getElem?_bubble hs d hd k;by_cases h1:k=src-d
 .rw[if_pos h1]at e ⊢;exact iZ e
 .rw[if_neg h1]at e ⊢;by_cases h2:src-d<k/\k<=src
  .rw[if_pos h2]at e ⊢;exact iZ e
  .rw[if_neg h2]at e ⊢;exact iZ e
def uQ(z:j<=p.size)(k) :
  kk key (kas_rev p i j) k=if i<=k/\k<j then kk key p (i+j-1-k)else kk key p k:=by
 have e:=getElem?_mirror_all (i:=i) z k;by_cases h1:i<=k/\k<j
 .rw[if_pos h1]at e ⊢;exact iZ e
 .rw[if_neg h1]at e ⊢;exact iZ e
def dz(z:j<=p.size)(J:∀k,i<=k->k<j->kk key p k=kk key p (j-1))(k) :
  kk key (kas_rev p i j) k=kk key p k:=by
 rw[uQ z]
 grind
variable(hc:∀a b C,a<N->b<N->C (O.blt (key a) (key b)) s->cmp a b C s)
include hc
def sB{Q:α->Shared->Prop}(z:PB N p)(hi:i<N)(J:j<N)
  (h:(k (O.blt (kk key p i) (kk key p j))).kasWp cmp Q s):(KasT.ask (p.getD i 0) (p.getD j 0) k).kasWp cmp Q s:=
 hc _ _ _ (z.lt hi) (z.lt J) h
theorem zp{p:Array Nat}{z:Nat}{Q:Nat->Shared->Prop}(hp:PB N p)(hn:z<=N):∀(f n:Nat),n+f=z->1<=n->fU key p n ->
  (∀m,n<=m->m<=z->fU key p m->(m=z\/O.klt (kk key p m) (kk key p (m-1)))->Q m s)->(kas_asc p f n).kasWp cmp Q s
 |0,n,e,h1,hs,h=>h n (g4 _) (Ms e) hs (.inl e)
 |f+1,n,e,h1,hs,h=>by
  show(KasT.ask (p.getD n 0) (p.getD (n-1) 0) λc=>if c=true then .ret n else kas_asc p f (n+1)).kasWp cmp Q s;have nN:n<N:=by omega
  refine sB hc hp nN (K0 (MX n 1) nN) ?_;cases J:O.blt (kk key p n) (kk key p (n-1))with
  |true =>
   rw[if_pos rfl];exact h n (g4 _) (pe (M8 n (f+1)) (Ms e)) hs (.inr J)
  |false =>
   rw[if_neg (by simp)];refine zp hp hn f (n+1) ((Lj n 1 f).trans e) (Me 1 n) (λi j U hj=>?_) λm a b c d=>h m (Mm a) b c d
   by_cases Y:j<n
   .exact hs i j U Y
   .have ao:j=n:=Lo (LB hj) (Lp.mp Y);subst ao;by_cases Z:i=j
    .subst Z;exact LC _
    .exact Mz (hs i (j-1) (MA (LY U Z)) (NY h1 Nat.one_pos)) J
def v6{p:Array Nat}{n z:Nat}{Q:Nat×Array Nat->Shared->Prop}(U:PB N p)(hn:z<=N)(h1:1<=n)(J:n<=z)(hs:sA key p n)
  (h:∀m Y,PB N Y->1<=m->m<=z->fU key Y m->Q (m,Y) s):(kas_tail3 n z p).kasWp cmp Q s:=by
 unfold kas_tail3;rw[MN];have hz:n<=p.size:=by rw[U.size];exact pe J hn
 refine zp hc (U.rev 0 n) hn (z-n) n (Nm J) h1 (λi j Z hj=>?_) λm a b c _=>h m _ (U.rev 0 n) (pe h1 a) b c
 rw[uQ hz,uQ hz,if_pos ⟨KI _,K0 Z hj⟩,if_pos ⟨KI _,hj⟩];exact hs _ _ (by omega) (by omega)
theorem qP{J:Nat}{Q:Array Nat×Nat×Nat->Shared->Prop}(hn:J<=N):∀(f:Nat) (p:Array Nat) (n q:Nat),n+f=J->PB N p->sA key p n->q+1<=n ->
  (∀i,n-(q+1)<=i->i<n->kk key p i=kk key p (n-1)) ->
  (∀z m q',n<=m->m<=J->PB N z->sA key z m->q'+1<=m->(∀i,m-(q'+1)<=i->i<m->kk key z i=kk key z (m-1))->Q (z,m,q') s) ->
  (kas_desc f p n q).kasWp cmp Q s
 |0,p,n,q,e,hp,hs,hq,he,h=>h p n q (g4 _) (by omega) hp hs hq he
 |f+1,p,n,q,e,hp,hs,hq,he,h=>by
  show(KasT.ask (p.getD n 0) (p.getD (n-1) 0) λc =>
   if c=true then(if q > 0 then kas_desc f (kas_rev p (n-(q+1)) n) (n+1) 0 else kas_desc f p (n+1) 0)
   else .ask (p.getD (n-1) 0) (p.getD n 0) λd=>if d=true then .ret (p,n,q)else kas_desc f p (n+1) (q+1)).kasWp cmp Q s
  have nN:n<N:=by omega
  have hz:n<=p.size:=by rw[hp.size];exact LI nN
  refine sB hc hp nN (K0 (MX n 1) nN) ?_;cases U:O.blt (kk key p n) (kk key p (n-1))with
  |true =>
   rw[if_pos rfl];have Y:∀z:Array Nat,(∀k,kk key z k=kk key p k)->sA key z (n+1):=by
    intro z hk i j Z hj;rw[hk,hk];by_cases ao:j<n
    .exact hs i j Z ao
    .have a5:j=n:=Lo (LB hj) (Lp.mp ao);subst a5;by_cases aO:i=j
     .subst aO;exact LC _
     .exact Mz (Mn U) (hs i (j-1) (MA (LY Z aO)) (NY (Kt (Nat.succ_pos q) hq) Nat.one_pos))
   by_cases a3:q > 0
   .rw[if_pos a3];exact qP hn f _ (n+1) 0 ((Lj n 1 f).trans e) (hp.rev _ _) (Y _ (dz hz he)) (Me 1 n) (λi a b=>by congr 1;omega)
     λz m q' a=>h z m q' (Mm a)
   .rw[if_neg a3];exact qP hn f p (n+1) 0 ((Lj n 1 f).trans e) hp (Y _ λ_=>rfl) (Me 1 n) (λi a b=>by congr 1;omega) λz m q' a=>h z m q' (Mm a)
  |false =>
   rw[if_neg (by simp)];refine sB hc hp (K0 (MX n 1) nN) nN ?_;cases a0:O.blt (kk key p (n-1)) (kk key p n)with
   |true =>
    rw[if_pos rfl];exact h p n q (g4 _) (by omega) hp hs hq he
   |false =>
    rw[if_neg (by simp)];have a4:kk key p n=kk key p (n-1):=KeyOrd.kle_antisymm a0 U;refine qP hn f p (n+1) (q+1) ((Lj n 1 f).trans e) hp (λi j Z hj=>?_) (Nat.succ_le_succ hq) (λi a b=>?_) λz m q' a=>h z m q' (Mm a)
    .by_cases ao:j<n
     .exact hs i j Z ao
     .have a5:j=n:=Lo (LB hj) (Lp.mp ao);subst a5;by_cases aO:i=j
      .subst aO;exact LC _
      .rw[a4];exact hs i (j-1) (MA (LY Z aO)) (NY (Kt (Nat.succ_pos q) hq) Nat.one_pos)
    .rw[Lu];by_cases bA:i=n
     .subst bA;rfl
     .rw[a4];exact he i (by omega) (by omega)
def nA{n z:Nat}{Q:Nat×Array Nat->Shared->Prop}(hp:PB N p)(hn:z<=N)(a3:n+1<=z)(hs:sA key p (n+1))
  (h:∀m Y,PB N Y->1<=m->m<=z->fU key Y m->Q (m,Y) s):(kas_descPart n z p).kasWp cmp Q s:=by
 unfold kas_descPart;rw[MN];refine qP hc hn (z-_) p _ 0 (by omega) hp hs (by omega) (λi a b=>by congr 1;omega) λY m q' a5 Z U ao hq he=>?_
 dsimp only;have hz:m<=Y.size:=by rw[U.size];omega
 by_cases J:q' > 0
 .rw[if_pos J];refine v6 hc (U.rev _ _) hn (by omega) Z (λi j a0 hj=>?_) h;rw[dz hz he,dz hz he];exact ao i j a0 hj
 .rw[if_neg J];exact v6 hc U hn (by omega) Z ao h
def Cm{p:Array Nat}{z:Nat}{Q:Nat×Array Nat->Shared->Prop}(hp:PB N p)(hn:z<=N)(h1:1<=z)
  (h:∀m p',PB N p'->1<=m->m<=z->fU key p' m->Q (m,p') s):(kas_count z p).kasWp cmp Q s:=by
 unfold kas_count;rw[MN];refine zp hc hp hn (z-1) 1 (by omega) (g4 _) (λi j U hj=>by have:i=j:=Lo U (pe (LB hj) (KI i));subst this;exact LC _) λn Y a3 Z b1=>?_
 by_cases ao:n=z
 .rw[if_pos (by simpa using ao)];exact h n p hp Y a3 Z
 .rw[if_neg (by simpa using ao)];have nr:n<z:=LY a3 ao;have nN:=Kt nr hn;have a7:O.klt (kk key p n) (kk key p (n-1)):=b1.resolve_left ao;by_cases a4:n > 1
  .rw[if_pos a4];refine sB hc hp (K0 (KI n) nN) (K0 (MX n 1) nN) ?_;cases a5:O.blt (kk key p 0) (kk key p (n-1))with
   |true =>
    rw[if_pos rfl];exact h n p hp Y a3 Z
   |false =>
    rw[if_neg (by simp)];have a8:n<=p.size:=by rw[hp.size];exact LI nN
    have J:∀k,0<=k->k<n->kk key p k=kk key p (n-1):=by
     intro k _ hk;have a1:=Z 0 k (KI k) hk;have a2:=Z k (n-1) (MA hk) (NY Y Nat.one_pos);exact KeyOrd.kle_antisymm a2 (Mz a5 a1)
    refine nA hc (hp.rev _ _) hn nr (λi j U hj=>?_) h;rw[dz a8 J,dz a8 J];by_cases a6:j<n
    .rw[J i (KI _) (K0 U a6),J j (KI _) a6];exact LC _
    .have b4:j=n:=Lo (LB hj) (Lp.mp a6);subst b4;by_cases aO:i=j
     .subst aO;exact LC _
     .rw[J i (KI _) (LY U aO)];exact Mn a7
  .rw[if_neg a4];have a9:n=1:=Lo (Lp.mp a4) Y;subst a9;refine nA hc hp hn nr (λi j U hj=>?_) h;by_cases aO:i=j
   .subst aO;exact LC _
   .have b5:i=0:=by omega
    have cd:j=1:=by omega
    subst b5;subst cd
    exact Mn a7
theorem qQ{p:Array Nat}{k:Nat}{Q:Nat->Shared->Prop}(hp:PB N p)(hk:k<N)(hs:fU key p k):∀(f l r:Nat),r<=l+f->l<=r->r<=k ->
  (∀i,i<l->O.kle (kk key p i) (kk key p k))->(∀i,r<=i->i<k->O.klt (kk key p k) (kk key p i)) ->
  (∀l,l<=k->(∀i,i<l->O.kle (kk key p i) (kk key p k))->(∀i,l<=i->i<k->O.klt (kk key p k) (kk key p i))->Q l s)->(kas_place p k f l r).kasWp cmp Q s
 |0,l,r,hf,Z,z,U,Y,h=>by
  have:l=r:=Lo Z hf;subst this;exact h l z U Y
 |f+1,l,r,hf,Z,z,U,Y,h=>by
  show(if l>=r then KasT.ret l else .ask (p.getD k 0) (p.getD ((l+r) / 2) 0) λc=>if c=true then kas_place p k f l ((l+r) / 2)else kas_place p k f ((l+r) / 2+1) r).kasWp cmp Q s;by_cases ao:l>=r
  .rw[if_pos ao];have:l=r:=Lo Z ao;subst this;exact h l z U Y
  .rw[if_neg ao];obtain⟨m,em,m1,m2⟩:∃m,(l+r) / 2=m/\l<=m/\m<r:=⟨_,rfl,by omega,by omega⟩;rw[em];have mk:=Kt m2 z;refine sB hc hp hk (Mt mk hk) ?_;cases J:O.blt (kk key p k) (kk key p m)with
   |true =>
    rw[if_pos rfl];exact qQ hp hk hs f l m (by omega) m1 (LI mk) U (λi a b=>KeyOrd.klt_of_klt_of_kle J (hs _ _ a b)) h
   |false =>
    rw[if_neg (by simp)];exact qQ hp hk hs f (m+1) r (by omega) m2 z (λi a=>Mz (hs i m (LB a) mk) (show O.kle _ _ from J)) Y h
theorem DM{Q:Array Nat->Shared->Prop}:∀(f:Nat) (p:Array Nat) (k:Nat),k+f=N->PB N p->fU key p k->(∀p',PB N p'->fU key p' N->Q p' s)->(kas_bin f p k).kasWp cmp Q s
 |0,p,k,e,Z,hs,h=>by
  have:k=N:=by omega
  subst this;exact h p Z hs
 |f+1,p,k,e,Z,hs,h=>by
  show((kas_place p k k 0 k).bind λl=>kas_bin f (bubble p k (k-l)) (k+1)).kasWp cmp Q s;rw[MN];refine qQ hc Z (by omega) hs k 0 k (Me k 0) (KI k) (g4 k) (λi a=>absurd a (Nat.not_lt_zero i)) (λi a b=>absurd b (Lp.mpr a)) λl hl a0 a1=>?_
  refine DM f _ (k+1) (by omega) (Z.bub _ _) (λi j J hj=>?_) h;have a2:k<p.size:=by rw[Z.size];omega
  have val:∀i,i<k+1->(i<l/\kk key (bubble p k (k-l)) i=kk key p i)\/(i=l/\kk key (bubble p k (k-l)) i=kk key p k)\/∃U,i=U+1/\l<=U/\U<k/\kk key (bubble p k (k-l)) i=kk key p U:=λi hi=>by
   rw[xG a2 (MX k l),Nat.sub_sub_self hl];rcases M0 i l with q|q|q
   .exact .inl ⟨q,by rw[if_neg (tr q),if_neg λz=>NM q z.1]⟩
   .exact .inr (.inl ⟨q,by rw[if_pos q]⟩)
   .obtain⟨c,rfl⟩:=LO q;exact .inr (.inr ⟨l+c,rfl,M8 _ _,M4 hi,by rw[if_neg (Lr q),if_pos ⟨q,LB hi⟩];rfl⟩)
  rcases val i (K0 J hj)with⟨a,e1⟩|⟨a,e1⟩|⟨U,a,b,c,e1⟩<;>rcases val j hj with⟨Y,e2⟩|⟨Y,e2⟩|⟨j',Y,b',c',e2⟩<;>rw[e1,e2]
  .exact hs i j J (Kt Y hl)
  .exact a0 i a
  .exact hs i j' (pe (LI a) b') c'
  .exact absurd Y (Lp.mpr (a▸J))
  .exact LC _
  .exact Mn (a1 j' b' c')
  .exact absurd (K0 (a▸J:U+1<=j) Y) (Lp.mpr (Nat.le_succ_of_le b))
  .exact absurd (Y▸a▸J:U+1<=l) (Nat.not_le.mpr (Nat.lt_succ_of_le b))
  .exact hs U j' (Nat.le_of_succ_le_succ (Y▸a▸J:U+1<=j'+1)) c'
def ER(h1:1<=N)(h:∀p,PB N p->fU key p N->Q p s):(kas_sort N).kasWp cmp Q s:=by
 unfold kas_sort;rw[MN];refine Cm hc (Array.Perm.refl _) (g4 _) h1 λm Y z Z ao J=>?_
 by_cases U:m<N
 .rw[if_pos U,show max m 1=m by omega];exact DM hc _ _ _ (by omega) z J h
 .rw[if_neg U];have:m=N:=by omega
  subst this;exact h Y z J
end
end L2.Srt
namespace L2.Srt
open PySem PyProof.Rows List Option
theorem nB:∀a,HT.lexLt a a=false
 | []=>rfl
 |x::r=>by rw[HT.lexLt_cons,if_pos rfl];exact nB r
theorem lq:∀a b c,HT.lexLt a b=true->HT.lexLt b c=true->HT.lexLt a c=true
 | [],[],_,h,_=>by cases h
 | [],_::_,[],_,h=>by cases h
 | [],_::_,_::_,_,_=>rfl
 | _::_,[],_,h,_=>by cases h
 | _::_,_::_,[],_,h=>by cases h
 |x::a,y::b,z::c,h1,h2=>by
  rw[HT.lexLt_cons]at h1 h2 ⊢;by_cases J:x=y
  .rw[if_pos J]at h1;by_cases U:y=z
   .rw[if_pos U]at h2;rw[if_pos (J.trans U)];exact lq a b c h1 h2
   .simp_all
  .grind
theorem lr:∀a b,HT.lexLt a b=false->HT.lexLt b a=false->a=b
 | [],[],_,_=>rfl
 | [],_::_,h,_=>by cases h
 | _::_,[],_,h=>by cases h
 |x::a,y::b,h1,h2=>by
  rw[HT.lexLt_cons]at h1 h2;by_cases e:x=y
  .rw[if_pos e]at h1;rw[if_pos e.symm]at h2;rw[e,lr a b h1 h2]
  .grind
def Cn(a b c)(h:HT.lexLt a c=true):HT.lexLt a b=true\/HT.lexLt b c=true:=by
 cases h1:HT.lexLt a b with
 |true=>exact .inl rfl
 |false =>
  cases h2:HT.lexLt b a<;>first|exact .inr (lq b a c h2 h)|(rw[lr a b h1 h2]at h;exact .inr h)
noncomputable def fo:KeyOrd:=⟨List Int,HT.lexLt,nB,lq,Cn,lr⟩
noncomputable def dA:KeyOrd:=⟨Int,λa b=>decide (a<b),λa=>KP (by omega),λa b c h1 h2=>Ky (by have:=K2 h1;have:=K2 h2;omega),
 λa b c h=>by
  have:=K2 h;by_cases q:a<b
  .exact .inl (Ky q)
  .exact .inr (Ky (by omega)),
 λa b h1 h2=>by have:=of_decide_eq_false h1;have:=of_decide_eq_false h2;omega⟩
section
variable(O:KeyOrd)
noncomputable def mH(x:O.α):List O.α->List O.α
 | []=>[x]
 |y::r=>if O.blt y x then y::mH x r else x::y::r
def iM:List O.α->List O.α
 | []=>[]
 |x::r=>mH O x (iM r)
theorem lu(x):∀l,(mH O x l).Perm (x::l)
 | []=>.refl _
 |y::r=>by
  show(if O.blt y x then y::mH O x r else x::y::r).Perm _;split
  .exact(Perm.cons y (lu x r)).trans (.swap x y r)
  .exact .refl _
theorem fq:∀l,(iM O l).Perm l
 | []=>.refl _
 |x::r=>(lu O x _).trans (.cons x (fq r))
theorem nD(x):∀l,l.Pairwise O.kle->(mH O x l).Pairwise O.kle
 | [],_=>pairwise_singleton _ _
 |y::r,h=>by
  show(if O.blt y x then y::mH O x r else x::y::r).Pairwise O.kle;obtain⟨h1,h2⟩:=Mc.mp h;by_cases q:O.blt y x=true
  .rw[if_pos q];refine Mc.mpr ⟨λz hz=>?_,nD x r h2⟩;rcases wh.mp ((lu O x r).mem_iff.mp hz)with e|e
   .rw[e];exact Mn q
   .exact h1 z e
  .rw[if_neg q];have J:=Bool.eq_false_iff.mpr q;refine Mc.mpr ⟨λz hz=>?_,h⟩;rcases wh.mp hz with e|e
   .rw[e];exact J
   .exact Mz J (h1 z e)
theorem d_:∀l,(iM O l).Pairwise O.kle
 | []=>Pairwise.nil
 |x::r=>nD O x _ (d_ r)
theorem ko:∀{a b:List O.α},a.Perm b->a.Pairwise O.kle->b.Pairwise O.kle->a=b
 | [],b,p,_,_=>p.nil_eq
 |x::a,[],p,_,_=>by have:=p.length_eq;simp at this
 |x::a,y::b,p,J,U=>by
  obtain⟨Y,Z⟩:=Mc.mp J;obtain⟨b1,b2⟩:=Mc.mp U;have e:x=y:=by
   have hx:=p.mem_iff.mp (.head _);have hy:=p.mem_iff.mpr (.head _);rcases wh.mp hx with q|q
   .exact q
   .rcases wh.mp hy with z|z
    .exact z.symm
    .exact KeyOrd.kle_antisymm (Y y z) (b1 x q)
  subst e;rw[ko (p.cons_inv) Z b2]
def ku(p:a.Perm l)(h:a.Pairwise O.kle):a=iM O l:=ko O (p.trans (fq O l).symm) h (d_ O l)
def pq(p:a.Perm b):iM O a=iM O b:=ku O ((fq O a).trans p) (d_ O a)
def zq{a:List O.α}(h:a.Pairwise O.kle):iM O a=a:=(ku O (.refl a) h).symm
end
def jq{α:Type}(xs)(d:α):(range xs.length).map (λi=>xs.getD i d)=xs:=by
 apply NN;intro i;rw[KJ];by_cases q:i<xs.length
 .simp_all
 .simp_all
def ES(J:PB xs.length p)(Y:fU (λi=>xs.getD i d) p xs.length):p.toList.map (λi=>xs.getD i d)=iM O xs:=by
 refine ku O ?_ ?_
 .have h:=(MG.mp J).map λi=>xs.getD i d
  have e:=jq xs d;rw[e]at h;exact h
 .rw[pairwise_iff_getElem];intro i j hi U z;rw[mx,Array.length_toList]at hi U;have hz:=J.size;have q:=Y i j (LI z) (by omega);simp only[getElem_map];have Z:p.getD i 0=p[i]:=by simp[hi]
  have ej:p.getD j 0=p[j]:=by simp[U]
  unfold kk at q;rw[Z,ej]at q;exact q
end L2.Srt
namespace L2.Srt
open PySem PySem.W PySem.Calls PyProof.Rows List Option
section
variable{prog:Program}{w:World}{A:Around}{E:Value->Shared->Prop}{s:Shared}
def KOk(g:SortKind):Prop:=g=tuples' true\/g=general'\/g=oneType'
def qR {KO:SortKind->Prop}{O:KeyOrd}{key:Nat->O.α}{a:Addr}{vs:List Value}{n:Nat}{R:PySem.Fin->Shared->Prop} (ho:s.heap.get? a=some (seqObj "list" vs.toArray n)) (a0:vs.length<64)
  (hk:2<=vs.length->∀s' Q,(∀b o,b≠a->s.heap.get? b=some o->s'.heap.get? b=some o)->(∀g,KO g->Q g s')->wpAny (model prog w) A (keyKind' vs.toArray) Q (λ_ _=>False) s')
  (hc:∀g,KO g->∀s' i j C,(∀b o,b≠a->s.heap.get? b=some o->s'.heap.get? b=some o)->i<vs.length->j<vs.length->C (O.blt (key i) (key j)) s' ->
   wpAny (model prog w) A (keyLt' g (vs.getD i Value.none) (vs.getD j Value.none)) C (λ_ _=>False) s')
  (h:∀p,PB vs.length p->fU key p vs.length->R (.done (.ret .none)) { s with heap:=sortedHeap s.heap a vs (p.toList.map λi=>vs.getD i Value.none).toArray }) :
  wpAny (model prog w) A (Builtin.«list.sort» ⟨[.ref a],[]⟩) R E s:=by
 rw[list_sort_plain];have ha:=pd ho;refine ez (listItems_at ho rfl ?_);refine ez (listUpdate_at ho rfl ?_ (by rw[pb,K4];omega) (KI _));obtain⟨e1,Z⟩:∃e1,(s.heap.update a (Obj.mapSeq λ_=>(#[]:Array Value))).get? a=some (seqObj "list" #[] e1):=⟨_,get?_update_seq ho λ_=>#[]⟩;refine ez (seqEpoch_at Z rfl ?_);refine ez (wpAny_newTuple ?_ (by show vs.length<=_;rw[K4];omega));refine ez (wpAny_newList ?_ (KI _));refine K6 ?_;have J:(((s.heap.update a (Obj.mapSeq λ_=>(#[]:Array Value))).push (seqObj "tuple" vs.toArray 0)).push (seqObj "list" #[] 0)).get? a=some (seqObj "list" #[] e1):=gk _ (gk _ Z);have kp:∀b o,b≠a->s.heap.get? b=some o->(((s.heap.update a (Obj.mapSeq λ_=>(#[]:Array Value))).push (seqObj "tuple" vs.toArray 0)).push (seqObj "list" #[] 0)).get? b=some o:=λb o hb e =>
  gk _ (gk _ ((Ln _ _ (Mb hb)).trans e))
 show wpAny (model prog w) A _ R E { s with heap:=((s.heap.update a (Obj.mapSeq λ_=>(#[]:Array Value))).push (seqObj "tuple" vs.toArray 0)).push (seqObj "list" #[] 0) };dsimp only;have b2:vs.toArray.size=vs.length:=by simp
 by_cases h2:vs.toArray.size<2
 .rw[if_pos h2,if_pos h2];refine ez (gf ?_);rw[StateT.run_pure];refine ez (gf ?_);dsimp only;refine ez (seqEpoch_at J rfl ?_);refine ez (listUpdate_at J rfl ?_ (KI _) (by rw[MY];show(pairsOf vs).size<=_;rw[pairsOf_size,K4];omega));simp only[Mo,KA,Ls];have e:((arrOf (SortSt.mk' general' (vs.toArray.zip vs.toArray) #[] 7 none)).map (·.2))=((range vs.length).toArray.toList.map λi=>vs.getD i Value.none).toArray:=by
   have e2:(arrOf (SortSt.mk' general' (vs.toArray.zip vs.toArray) #[] 7 none))=vs.toArray.zip vs.toArray:=rfl;rw[e2];apply Array.toList_inj.mp;rw[jq];simp[map_snd_zip]
  refine gf ?_;have q:=h (range vs.length).toArray (Array.Perm.refl _) (λi j b4 hj=>by
   have:i=j:=by omega
   subst this;exact LC _)
  rw[<- e]at q;exact q
 .rw[if_neg h2,if_neg h2];have ao:2<=vs.length:=by omega
  refine ez (K3 (hk ao _ (λg s0=>KO g/\s0={ s with heap:=((s.heap.update a (Obj.mapSeq λ_=>(#[]:Array Value))).push (seqObj "tuple" vs.toArray 0)).push (seqObj "list" #[] 0) }) kp λg z=>⟨z,rfl⟩) (λg s0 z=>?_) λ_ _ x=>x.elim);obtain⟨z,rfl⟩:=z;refine ez (K3 (kat_run (Q:=λU s'=>∃p,p.size=vs.length/\arrOf U=p.map (kas_item (vs.toArray.zip vs.toArray))/\failedOf U=none/\PB vs.length p/\fU key p vs.length/\s'={ s with heap:=((s.heap.update a (Obj.mapSeq λ_=>(#[]:Array Value))).push (seqObj "tuple" vs.toArray 0)).push (seqObj "list" #[] 0) })
   (G:=λp s'=>PB vs.length p/\fU key p vs.length/\s'={ s with heap:=((s.heap.update a (Obj.mapSeq λ_=>(#[]:Array Value))).push (seqObj "tuple" vs.toArray 0)).push (seqObj "list" #[] 0) })
   rfl ao a0 (λp' U s' a1 a2 a3 a4=>⟨p',a1,a2,a3,a4⟩)
   (ER (key:=key) (λi j C hi hj q=>hc g z _ i j C kp hi hj q) (by omega) λp hp hr=>⟨hp,hr,rfl⟩)) ?_ λ_ _ e=>e)
  rintro ⟨⟨⟩,U⟩ s' ⟨p,hp,a7,hf,a8,a9,rfl⟩;dsimp only;have Y:=kat_snds rfl a7;refine ez (seqEpoch_at J rfl ?_);refine ez (listUpdate_at J rfl ?_ (KI _) (by rw[Y];refine pe (Ms ?_) (show vs.length<=_ by rw[K4];omega);simp[hp]));rw[hf,Y];simp only[Mo,KA,Ls];exact gf (h p a8 a9)
theorem lZ :∀{vs z}{ns ms} i,IntsAre vs ns->IntsAre z ms->fin=decide (ns.length<ms.length)->C (HT.lexLt ns ms) s->KatLex prog w A true fin C (vs.zip z) i s
 | _,_,_,_,i,.nil,.nil,hf,h=>by
  refine kat_nil ?_;rw[hf];exact h
 | _,_,_,_,i,.nil,.cons c u hw,hf,h=>by
  refine kat_nil ?_;rw[hf,Ky (by simp)];exact h
 | _,_,_,_,i,.cons a t hv,.nil,hf,h=>by
  refine kat_nil ?_;rw[hf,KP (by simp)];exact h
 | _,_,_,_,i,.cons (ns:=ns) a t hv,.cons (ns:=ms) c u hw,hf,h=>by
  rw[HT.lexLt_cons]at h;refine kat_cons (wpAny_eqBool_int ?_);by_cases e:a=c
  .rw[if_pos e]at h;have q:(a==c)=true:=by rw[e];exact LQ c
   rw[q];refine kat_yes (lZ _ hv hw ?_ h);rw[hf];simp
  .rw[if_neg e]at h;have q:=LP.mpr e;rw[q];refine kat_no ?_;cases i with
   |zero=>exact oneLt_int h
   |succ i=>exact kat_one _ _ (lt_int h)
def Co(hk:KOk g){a b:Addr}{its z:Array Value}{ns ms:List Int}{C:Bool->Shared->Prop}(ha:IsTup s.heap a its)(hb:IsTup s.heap b z)(hi:IntsAre its.toList ns)(Z:IntsAre z.toList ms)
  (hu:A.units<cLine) (h:C (HT.lexLt ns ms) s):wpAny (model prog w) A (keyLt' g (.ref a) (.ref b)) C E s:=by
 rcases hk with rfl|rfl|rfl
 .obtain⟨o,ho,_,n,hd⟩:=id ha;obtain⟨o2,U,_,n2,J⟩:=id hb;refine kat_lt ho hd U J (lZ 0 hi Z ?_ h);have z1:its.size=ns.length:=by rw[<- hi.length];simp
  have z2:z.size=ms.length:=by rw[<- Z.length];simp
  rw[z1,z2]
 .show wpAny _ _ (oneLt' false _ _) _ _ _;exact kat_one _ _ (HT.lt_tupInts ha hb hi Z hu h)
 .rw[keyLt'_oneType,oneLt'_eq];refine ez (wpAny_cRoomFor hu ?_);refine aB λZq kq=>?_
  obtain⟨⟨cls,dd,data,sl⟩,ho,hc,n,hd⟩:=id ha;obtain⟨⟨a4,a0,data2,a1⟩,U,Y,n2,J⟩:=id hb;simp only at hc hd Y J;subst hc hd Y J;refine kq ?_;refine ez (wpAny_callSpecialIfBound?_slot ⟨_,ho,rfl⟩ PySem.F.slot_tuple_lt (NI PySem.F.slot_tuple_lt ⟨_,ho,rfl⟩ PySem.F.entry_tuple_lt (PySem.F.args_tuple_lt_2 _ _) (HT.tuple_lt_ints a b its z n n2 dd a0 sl a1 ns ms hi Z) ⟨ho,U,?_⟩));exact LA h
theorem l4:∀(vs:List Value) {Q},(∀v∈vs,∃a its ns,v=.ref a/\IsTup s.heap a its/\IntsAre its.toList ns) ->
  (∀fs,fs.length=vs.length->(∀f∈fs,∀v,f=some v->∃n t,v=Value.int n t)->Q fs s)->wpAny (model prog w) A (vs.mapM firstOfTuple') Q E s
 | [],Q,_,h=>by rw[mapM_nil];exact gf (h [] rfl (by simp))
 |v::vs,Q,hv,h=>by
  obtain⟨a,its,ns,rfl,⟨o,ho,hc,n,hd⟩,hi⟩:=hv v (.head _);rw[mapM_cons];refine ez ?_;refine ez (Looks.here (show Looks (model prog w) s.heap (typeOf (.ref a)) o.cls from(Looks.ld ho).andThen .now) ?_);rw[hc,if_neg (by first|decide|simp)];refine ez (listItems_at ho hd (gf ?_));refine ez (l4 vs (Q:=λbs s'=>wpAny (model prog w) A (pure (its[0]?::bs)) Q E s') (λu U=>hv u (.tail _ U)) λfs Y Z=>?_);refine gf (h _ (by simp[Y]) λf hm u e=>?_);rcases wh.mp hm with z|z
  .rw[z]at e;have J:u∈its.toList:=by
    rw[<- K9]at e;exact L1 e
   exact hi.all u J
  .exact Z f z u e
def xH{vs:List Value}{Q:SortKind->Shared->Prop}(h2:2<=vs.length)(hv:∀v∈vs,∃a its ns,v=.ref a/\IsTup s.heap a its/\IntsAre its.toList ns)(h:∀g,KOk g->Q g s) :
  wpAny (model prog w) A (keyKind' vs.toArray) Q E s:=by
 rw[kat_kind_eq,mapM_toArray,NO];refine ez (ez (l4 vs hv λfs hl hf=>gf ?_));by_cases z:(fs.toArray.all λx=>x.isSome)=true
 .rw[if_pos z];refine ez (L7 ?_);have aO:(fs.toArray.filterMap id)=(fs.filterMap id).toArray:=by simp
  rw[aO,oneTypeOnly'_eq,mapM_toArray,NO];have U:∀v∈fs.filterMap id,∃n t,v=Value.int n t:=λv Y=>by
   obtain⟨f,a0,e⟩:=mem_filterMap.mp Y;exact hf f a0 v e
  have a1:0<(fs.filterMap id).length:=by
   match fs,hl,z with
   | [],hl,_=>simp at hl;omega
   |f::r,_,z =>
    have:f.isSome=true:=by simp at z;exact z.1
    obtain⟨u,rfl⟩:=isSome_iff_exists.mp this;simp
  refine ez (ez (ez (kas_mapM (r:=Value.type "int") _ (λv Y Q' hq=>?_) (gf ?_))))
  .obtain⟨n,t,rfl⟩:=U v Y;exact gf hq
  .have h0:(map (λ_=>Value.type "int") (fs.filterMap id)).toArray[0]?=some (Value.type "int"):=by
    simp[a1]
   rw[h0];have J:((map (λ_=>Value.type "int") (fs.filterMap id)).toArray.all λx=>x==Value.type "int")=true:=by
    simp only[all_toArray,Nc,Lm];intro _ _
    rfl
   simp only[J,if_true];exact gf (gf (h _ (.inl rfl)))
 .rw[if_neg z];by_cases Z:((fs.toArray[0]?).bind id).isSome=true
  .rw[if_pos Z];exact gf (h _ (.inr (.inl rfl)))
  .rw[if_neg Z];rw[oneTypeOnly'_eq,mapM_toArray,NO];refine ez (ez (ez (kas_mapM (r:=Value.type "tuple") _ (λv Y Q' hq=>?_) (gf ?_))))
   .obtain⟨a,its,ns,rfl,⟨o,ho,hc,n,hd⟩,hi⟩:=hv v Y;have q:Looks (model prog w) s.heap (typeOf (.ref a)) o.cls:=(Looks.ld ho).andThen .now;rw[hc]at q;exact q.here hq
   .have h0:(map (λ_=>Value.type "tuple") vs).toArray[0]?=some (Value.type "tuple"):=by
     have:0<vs.length:=by omega
     simp[this]
    rw[h0];have J:((map (λ_=>Value.type "tuple") vs).toArray.all λx=>x==Value.type "tuple")=true:=by
     simp only[all_toArray,Nc,Lm];intro _ _
     rfl
    simp only[J,if_true];exact gf (gf (h _ (.inr (.inr rfl))))
end
end L2.Srt
namespace L2.St
open PySem PyProof.Rows List Option
section
variable{P:Program}{w:World}{A:Around}{E:Value->Shared->Prop}{s:Shared}
def mP{items:Array Value}(hi:IntsAre items.toList ns):∀i (v:Value),items[i]?=some v->∃t,v=.int (ns.getD i 0) t:=
 λi v e=>IntsAre.int_at hi i v (by rw[K9];exact e)
def lv{v:Value}{vs:Array Value}{it:Addr}{Q:Option Value->Shared->Prop}(z:A.handled=none){R:Value->Shared->Prop}
  (J:∀e s',(∀b o,s.heap.get? b=some o->s'.heap.get? b=some o)->(∃h',s'={ s with heap:=h' })->s'.TypeIs e "StopIteration"->R e s') {U:PySem.Fin->Shared->Prop} :
  wpAny (model P w) A (newExc (.type "StopIteration") [] >>= λe=>(raiseNew e:Sem PySem.Fin)) U R s:=by
 refine wpAny_bind ?_;simp only[newExc,newTuple];refine wpAny_bind (wpAny_newObj_type ?_ (by size_fits));refine wpAny_bind (m:=firstArgMember _ _) (wpAny_of_eq (a:=Value.none) (by first|rfl|(simp only[firstArgMember];rfl)) ?_);refine wpAny_newObj_type ?_ (by size_fits);simp only[raiseNew];refine wpAny_bind (wpAny_handled ?_);rw[z];refine wpAny_bind (wpAny_pure (wpAny_throw ?_));exact J _ _ (λb o e=>Heap.get?_push_of_some _ (Heap.get?_push_of_some _ e)) ⟨_,rfl⟩ ⟨_,Heap.get?_push_size _ rfl,rfl⟩
def jH(h:ItemsOf (λi v=>∃t,v=Value.int (order.getD i 0) t) acc order.length):IntsAre acc.toList order:=by
 obtain⟨hz,hv⟩:=h;have J:acc.toList.length=order.length:=by simpa using hz
 have z:∀j v,acc.toList[j]?=some v->∃t,v=Value.int _ t:=λj v e=>hv j v (by rw[<- K9];exact e)
 clear hv hz;generalize acc.toList=vs at J z
 induction vs generalizing order with
 |nil =>
  have:=Lk.mp J.symm;rw[this];exact .nil
 |cons v r ih =>
  match order,J,z with
  | [],J,_=>simp at J
  |k::ks,J,z =>
   obtain⟨t,e⟩:=z 0 v rfl;have U:=e;rw[U];exact .cons k t (ih (by simpa using J) λj u q=>z (j+1) u (by simpa using q))
end
end L2.St
namespace L2.St
open PySem List Option
def pw(xs:Array Nat):Prop:=∀i j,i<j->j<xs.size->xs.getD i 0<xs.getD j 0
def zr{xs:Array Nat}(h:i<xs.size)(d e):xs.getD i d=xs.getD i e:=by simp[Array.getD,h]
theorem nF{xs:Array Nat}{j:Nat}(Z:pw xs):∀(J lo hi:Nat),hi<=lo+J->lo<=hi->hi<=xs.size->(∀i,i<lo->xs.getD i 0<j)->(∀i,hi<=i->i<xs.size->j<=xs.getD i 0) ->
  (SetTable.below.go xs j J lo hi<=xs.size/\(∀i,i<SetTable.below.go xs j J lo hi->xs.getD i 0<j)/\∀i,SetTable.below.go xs j J lo hi<=i->i<xs.size->j<=xs.getD i 0)
 |0,lo,hi,hf,h1,h2,a,b=>by
  have e:SetTable.below.go xs j 0 lo hi=lo:=rfl;rw[e];have:lo=hi:=Lo h1 hf;subst this;exact⟨h2,a,b⟩
 |J+1,lo,hi,hf,h1,h2,a,b=>by
  have e:SetTable.below.go xs j (J+1) lo hi=if lo<hi then(if xs.getD ((lo+hi) / 2) j<j then SetTable.below.go xs j J ((lo+hi) / 2+1) hi else SetTable.below.go xs j J lo ((lo+hi) / 2))else lo:=rfl
  rw[e];by_cases hl:lo<hi
  .rw[if_pos hl];obtain⟨m,em,m1,m2⟩:∃m,(lo+hi) / 2=m/\lo<=m/\m<hi:=⟨_,rfl,by omega,by omega⟩;rw[em];have hm:m<xs.size:=Kt m2 h2;rw[zr hm j 0];by_cases Y:xs.getD m 0<j
   .rw[if_pos Y];refine nF Z J _ hi (by omega) m2 h2 (λi U=>?_) b;rcases Nx (LB U)with z|z
    .exact Mt (Z i m z hm) Y
    .rw[z];exact Y
   .rw[if_neg Y];refine nF Z J lo _ (by omega) m1 (LI hm) a λi U hz=>?_
    rcases Nx U with z|z
    .exact pe (Lp.mp Y) (LI (Z m i z hz))
    .rw[<- z];exact Lp.mp Y
  .rw[if_neg hl];have:lo=hi:=Lo h1 (Lp.mp hl);subst this;exact⟨h2,a,b⟩
def jT{xs:Array Nat}(z:pw xs)(j:Nat):SetTable.below xs j<=xs.size/\(∀i,i<SetTable.below xs j->xs.getD i 0<j)/\∀i,SetTable.below xs j<=i->i<xs.size->j<=xs.getD i 0:=
 nF z xs.size 0 xs.size (Me _ _) (KI _) (g4 _) (λi h=>absurd h (Nat.not_lt_zero i)) λi h1 h2=>absurd h2 (Lp.mpr h1)
def pz(xs)(p)(x:α)(z:p<=xs.size):(SetTable.insertAt xs p x).size=xs.size+1:=by grind [SetTable.insertAt]
def kw{α:Type}(xs:Array α)(p:Nat)(x:α)(z:p<=xs.size)(i:Nat):(SetTable.insertAt xs p x)[i]?=if i<p then xs[i]? else if i=p then some x else xs[i-1]?:=by
 unfold SetTable.insertAt;have hz:((xs.extract 0 p).push x).size=p+1:=by rw[Array.size_push,Mf,Mg z,Nat.sub_zero]
 rcases M0 i p with h1|h1|h1
 .rw[if_pos h1,NA (by rw[hz];exact KZ h1)];rw[Array.getElem?_push,if_neg (by rw[Mf,Mg z];exact tr h1),Array.getElem?_extract,if_pos (by rw[Mg z];exact h1),L9]
 .subst h1;rw[if_neg (K5 _),if_pos rfl,NA (by rw[hz];exact Ma _)];rw[Array.getElem?_push,if_pos (by rw[Mf,Mg z];rfl)]
 .obtain⟨k,rfl⟩:=LO h1;rw[if_neg (NM h1),if_neg (Lr h1),Array.getElem?_append_right (by rw[hz];exact h1),hz,Array.getElem?_extract,Lj,Nat.add_sub_cancel_left,NP,Lj,Lu];by_cases J:k<xs.size-p
  .rw[if_pos J]
  .rw[if_neg J,Mk (Nat.sub_le_iff_le_add'.mp (Lp.mp J))]
def dU{xs:Array Nat} :xs.getD i 0=(xs[i]?).getD 0:=LX
def sC{xs:Array Nat}(Y:pw xs){j:Nat}(hn:xs[SetTable.below xs j]?≠some j):pw (SetTable.insertAt xs (SetTable.below xs j) j):=by
 obtain⟨Z,ha,hb⟩:=jT Y j;generalize SetTable.below xs j=p at *
 have ao:∀i,p<=i->i<xs.size->j<xs.getD i 0:=λi h1 h2=>by
  rcases Nx h1 with z|z
  .exact K0 (hb p (g4 _) (Mt z h2)) (Y p i z h2)
  .subst z;have e:xs[p]?=some (xs.getD p 0):=by rw[MO h2];simp[Array.getD,h2]
   exact LY (hb p h1 h2) λz=>hn (by rw[e,<- z])
 intro i k J hk;rw[pz _ _ _ Z]at hk;rw[dU,dU,kw _ _ _ Z,kw _ _ _ Z];rcases M0 k p with h1|h1|h1
 .rw[if_pos h1,if_pos (Mt J h1),<- dU,<- dU];exact Y i k J (Kt h1 Z)
 .subst h1;rw[if_neg (K5 k),if_pos rfl,if_pos J,<- dU];exact ha i J
 .obtain⟨c,rfl⟩:=LO h1;have hc:=M4 hk;rw[if_neg (NM h1),if_neg (Lr h1),Lu];rcases M0 i p with U|U|U
  .rw[if_pos U,<- dU,<- dU];exact Y i (p+c) (Kt U (M8 p c)) hc
  .rw[if_neg (U▸K5 p),if_pos U,<- dU];exact ao (p+c) (M8 p c) hc
  .obtain⟨b,rfl⟩:=LO U;rw[if_neg (NM U),if_neg (Lr U),Lu,<- dU,<- dU];exact Y (p+b) (p+c) (M4 J) hc
def uR(n):pw (Array.range n):=λi j h1 h2=>by
 rw[Array.size_range]at h2;simp[Array.getD,h2,Mt h1 h2];exact h1
def zt:pw #[]:=λi j _ h=>by simp at h
structure Gd(L:Bool)(t:SetTable):Prop where
 led:t.led=L
 dum:t.dummies=#[]
 rise:pw t.place
theorem Gd.fresh(L):Gd L (.fresh 0 0 L):=⟨rfl,rfl,zt⟩
theorem Gd.standIn(h:Gd L t)(n):Gd L (t.standIn n):=⟨h.led,rfl,uR n⟩
theorem Gd.orStandIn(h:Gd L t)(n):Gd L (t.orStandIn n):=by
 unfold SetTable.orStandIn;split
 .exact h
 .exact h.standIn n
def Gd.unplain(h:Gd L t):Gd L { t with plain:=false }:=⟨h.led,h.dum,h.rise⟩
def qS{t:SetTable}(hd:t.dummies=#[])(j):t.slot j≠.dummy:=by
 unfold SetTable.slot SetTable.has;rw[hd];dsimp only;split
 .simp
 .simp
def uS{t:SetTable}(h:t.slot j=.empty):t.place[SetTable.below t.place j]?≠some j:=by
 intro e;unfold SetTable.slot at h
 simp_all
theorem sD(hd:t.dummies=#[]) :∀z p,p.dummy=none->∀j d,SetTable.probe.go t J h z p=some (.empty j d)->d=none/\t.slot j=.empty
 |0,p,U,j,d,e=>by
  have:SetTable.probe.go t J h 0 p=none:=rfl;rw[this]at e;cases e
 |z+1,p,U,j,d,e=>by
  have step:SetTable.probe.go t J h (z+1) p=(match t.slot p.j with
   | .empty=>some (.empty p.j p.dummy)
   | .dummy=>SetTable.probe.go t J h z (t.advance { p with dummy:=some p.j })
   | .live i=>if J i==h then some (.candidate p.j i (t.advance p))else SetTable.probe.go t J h z (t.advance p)):=rfl
  rw[step]at e;have Y:(t.advance p).dummy=none:=by unfold SetTable.advance;split<;>simp[U]
  cases hs:t.slot p.j with
  |empty =>
   rw[hs]at e;dsimp only at e;cases e;exact⟨U,hs⟩
  |dummy=>exact absurd hs (qS hd _)
  |live i =>
   rw[hs]at e;dsimp only at e;split at e
   .cases e
   .exact sD hd z _ Y j d e
def xI{t:SetTable}(hd:t.dummies=#[])(e:t.freeSlot h=some (j,b)):t.slot j=.empty:=by
 unfold SetTable.freeSlot at e;split at e
 .rename_i z d J;obtain⟨rfl,hs⟩:=sD hd _ _ rfl z d J
  simp_all
 .cases e
theorem Gd.put(h:Gd L t)(hs:t.slot j=.empty):Gd L (t.put j).1:=by
 refine⟨h.led,?_,sC h.rise (uS hs)⟩;show(if SetTable.has t.dummies j then _ else t.dummies)=#[];rw[if_neg (by unfold SetTable.has;rw[h.dum];simp)];exact h.dum
theorem Gd.layNew(g:Gd L t)(es)(h)(x):Gd L (layNew t es h x).2.1:=by
 unfold PySem.layNew;cases e:t.freeSlot h with
 |none=>exact g.standIn _
 |some q =>
  exact(g.put (xI g.dum e)).orStandIn _
def zu(f:Nat->Option Nat)(n):pw ((((range n).filterMap λj=>(f j).map λi=>(j,i)).map λq:Nat×Nat=>q.1).toArray):=by
 have e:((range n).filterMap λj=>(f j).map λi=>(j,i)).map (λq:Nat×Nat=>q.1)=(range n).filter λj=>(f j).isSome:=by
  generalize range n=l
  induction l with
  |nil=>rfl
  |cons a l ih =>
   cases h:f a<;>simp[filterMap_cons,filter_cons,h,ih]
 rw[e];have Y:((range n).filter λj=>(f j).isSome).Pairwise (· < ·):=Pairwise.filter _ pairwise_lt_range;intro i j J Z;have z:j<((range n).filter λj=>(f j).isSome).length:=by simpa using Z
 have U:i<((range n).filter λj=>(f j).isSome).length:=Mt J z;have:=pairwise_iff_getElem.mp Y i j U z J;simpa[Array.getD,z,U]using this
theorem Gd.relaid(g:Gd L t)(e:t.relaid hs n=some (t',o)):Gd L t':=by
 unfold SetTable.relaid SetTable.laid at e;cases h:SetTable.layClean (SetTable.sizeAbove n-1) hs with
 |none=>rw[h]at e;cases e
 |some ow =>
  rw[h]at e;cases e;exact⟨g.led,rfl,zu (λj=>ow.getD j none) _⟩
theorem Gd.relayAll(g:Gd L t)(es)(n):Gd L (relayAll t es n).2.1:=by
 unfold PySem.relayAll;cases e:t.relaid (es.map _) n with
 |none=>exact g.standIn _
 |some q =>
  dsimp only;split
  .exact g.relaid e
  .exact g.standIn _
end L2.St
namespace L2.St
open PySem PyProof.Rows List Option
noncomputable def byT (w:World):Bool:=w.params.followText "set-order"
structure Arr(P:Program)(w:World)(ks:List Int)(es:Array (Int×Value))(t:SetTable):Prop where
 el:ElemsOf (intKind P w) es.toList
 pm:(es.toList.map λe=>numOf e.2).Perm ks
 nd:ks.Nodup
 bd:es.size<scanBound
 fi:t.fits es.size=true
 gd:Gd (!byT w) t
def cm(P:Program)(w:World)(h:Heap)(a:Addr)(ks:List Int):Prop:=
 ∃o es ep t,h.get? a=some o/\o.ExactSet/\o.data=.set es ep t/\ElemsOf (intKind P w) es.toList/\(es.toList.map λe=>numOf e.2).Perm ks/\ks.Nodup/\es.size<scanBound/\t.fits es.size=true/\Gd (!byT w) t
section
variable{P:Program}{w:World}{h h':Heap}{a:Addr}{ks ks':List Int}{o:Obj}{es:Array (Int×Value)}{ep:Nat}{t:SetTable}
theorem cm.arr(g:cm P w h a ks):∃o es ep t,(h.get? a=some o/\o.ExactSet/\o.data=.set es ep t)/\Arr P w ks es t:=by
 refine aB λZq J=>?_
 obtain⟨o,es,ep,t,ho,z,hd,U,Y,Z,c4,c5,c6⟩:=g;refine J ?_;exact⟨o,es,ep,t,⟨ho,z,hd⟩,⟨U,Y,Z,c4,c5,c6⟩⟩
theorem Arr.set(r:Arr P w ks es t)(ho:h.get? a=some o)(z:o.ExactSet)(hd:o.data=.set es ep t):cm P w h a ks:=
 ⟨o,es,ep,t,ho,z,hd,r.el,r.pm,r.nd,r.bd,r.fi,r.gd⟩
theorem Arr.len(r:Arr P w ks es t):es.size=ks.length:=by simpa using r.pm.length_eq
theorem Arr.bare(r:Arr P w ks es t)(b):Arr P w ks es (if b=true then t else { t with plain:=false }):=by
 cases b
 .exact⟨r.el,r.pm,r.nd,r.bd,SetTable.fits_plain_off r.fi,r.gd.unplain⟩
 .exact r
theorem Arr.lay(r:Arr P w ks es t)(tk)(J:k∉ks)(U:ks.length+1<scanBound):Arr P w (k::ks) (layNew t es (hashInt k) (.int k tk)).1 (layNew t es (hashInt k) (.int k tk)).2.1:=by
 have p:(layNew t es (hashInt k) (.int k tk)).1.toList.Perm (es.toList++[(hashInt k,.int k tk)]):=by simpa using layNew_perm t es _ _
 have z:=p.length_eq;have l:=r.len;constructor
 .exact ElemsOf.perm (r.el.push (NJ _ _ _ _) rfl) p
 .have q:((es.toList++[(hashInt k,Value.int k tk)]).map λe=>numOf e.2).Perm (k::ks):=by
   rw[KS];exact MB.trans (r.pm.cons k)
  exact(p.map _).trans q
 .exact K7.mpr ⟨J,r.nd⟩
 .simp at z;omega
 .exact layNew_fits _ _ _ _
 .exact r.gd.layNew _ _ _
def Arr.relay(r:Arr P w ks es t)(n):Arr P w ks (relayAll t es n).1 (relayAll t es n).2.1:=by
 have p:=relayAll_perm t es n;have z:=p.length_eq;have b:=r.bd;exact⟨r.el.perm p,(p.map _).trans r.pm,r.nd,by simp at z;omega,relayAll_fits t es n,r.gd.relayAll es n⟩
theorem cm.at(g:cm P w h a ks)(k:∀o,h.get? a=some o->h'.get? a=some o):cm P w h' a ks:=by
 obtain⟨o,es,ep,t,⟨ho,z,hd⟩,r⟩:=g.arr;exact r.set (k o ho) z hd
end
def fh(h:ElemsOf (intKind P w) es):∀e∈es,∃t,e.2=.int (numOf e.2) t:=λe z=>by
 obtain⟨⟨k,J,_⟩,_⟩:=h e z;obtain⟨t,q⟩:=NC (show Value.isInt k e.2=true from J);exact⟨t,by rw[q];rfl⟩
def jU(h:ElemsOf (intKind P w) es)(J:e∈es)(k):(intKind P w).is k e.2=true ↔ numOf e.2=k:=by
 obtain⟨t,q⟩:=fh h e J;constructor
 .intro z;obtain⟨t',U⟩:=NC (show Value.isInt k e.2=true from z);rw[U];rfl
 .intro z;rw[q,z];exact NJ _ _ _ _
section
variable{P:Program}{w:World}{A:Around}{E:Value->Shared->Prop}{s:Shared}
def Now(P:Program)(w:World)(a:Addr)(s:Shared)(ks:List Int)(s':Shared):Prop:=
 ∃h',s'={ s with heap:=h' }/\Heap.SameBut a s.heap h'/\cm P w h' a ks
theorem Now.stay(g:cm P w s.heap a ks):Now P w a s ks s:=⟨s.heap,rfl,L3 a s.heap,g⟩
def v7{h:Heap}(ho:h.get? a=some o)(J:o.ExactSet)(hd:o.data=.set es ep t)
  (r:Arr P w ks z t'):cm P w (h.update a (Obj.putSet z t')) a ks:=by
 refine r.set (o:={ o with data:=.set z (ep+1) t' }) (ep:=ep+1) ?_ J rfl;have e:=putSet_of z t' hd;rw[<- e];exact K8 _ ho (by rw[e];rfl)
theorem Now.put{s':Shared}(n:Now P w a s ks s'){es:Array (Int×Value)}{t:SetTable}(r:Arr P w ks' es t){Q:Unit->Shared->Prop}(h:∀z,Now P w a s ks' z->Q () z) :
  wpAny (model P w) A (storeSet a es t) Q E s':=by
 refine aB λZ U=>?_
 obtain⟨h',rfl,Y,g⟩:=n;obtain⟨o,_,_,_,⟨ho,J,hd⟩,_⟩:=g.arr;refine U ?_;exact L4 ho hd (h _ ⟨_,rfl,Y.trans (KY h' a _),v7 ho J hd r⟩) (LM r.bd)
def HK{Q:Unit->Shared->Prop}(z:m=pure ()\/∃n,m=rule n)(h:Q () s'):wpAny (model P w) A m Q E s':=by
 rcases z with rfl|⟨n,rfl⟩
 .exact gf h
 .exact L7 h
def HL(k)(tk)(c)(h:∀b,wpAny (model P w) A (f b) Q E s') :
  wpAny (model P w) A (if c=true then hashByValue 8 (.int k tk) >>= f else(pure true:Sem Bool) >>= f) Q E s':=by
 cases c
 .exact ez (gf (h true))
 .rw[if_pos rfl,hashByValue_scannable 8 (show(Value.int k tk).scannable=true from rfl)];exact ez (gf (h _))
def pS{Q:Bool->Shared->Prop}(hS:cm P w s.heap a ks)(J:ks.length+1<scanBound)
  (h:∀h' b,Heap.SameBut a s.heap h'->cm P w h' a (if k∈ks then ks else k::ks)->Q b { s with heap:=h' }) :
  wpAny (model P w) A (setAddHashed a (.int k tk) (hashInt k)) Q E s:=by
 have fin:∀b s',Now P w a s (if k∈ks then ks else k::ks) s'->Q b s':=by
  rintro b _ ⟨h',rfl,sb,g⟩;exact h h' b sb g
 have now:=Now.stay hS;obtain⟨o,es,ep,t,⟨ho,a6,hd⟩,r⟩:=hS.arr;have here:k∈ks ↔ ((es.toList.findIdx? λe=>(intKind P w).is k e.2).isSome=true):=by
  rw[findIdx?_isSome,Lv,<- r.pm.mem_iff,mem_map];exact⟨λ⟨e,Y,q⟩=>⟨e,Y,(jU r.el Y k).mpr q⟩,λ⟨e,Y,q⟩=>⟨e,Y,(jU r.el Y k).mp q⟩⟩
 unfold setAddHashed setAddHashedIn;refine K6 (ez (KH ho hd r.fi ?_));dsimp only;rw[byScan_of (x:=.int k tk) rfl r.bd r.el,if_pos rfl];refine ez ?_;unfold setAddByScan;refine ez (L7 (ez (wpAny_setScan_of (knd:=intKind P w) (NJ _ _ _ _) ho hd r.fi r.el ?_)));rcases Z:es.toList.findIdx? λe=>(intKind P w).is k e.2 with _|j
 .rw[Z];have hk:k∉ks:=λz=>by rw[here,Z]at z;exact Bool.noConfusion z
  rw[if_neg hk]at fin;have r1:=r.lay tk hk J;rcases hl:layNew t es (hashInt k) (.int k tk)with⟨U,t1,dm,gv⟩
  rw[hl]at r1;dsimp only at r1 ⊢;refine ez (HK ?_ ?_)
  .cases gv
   .exact .inl rfl
   .exact .inr ⟨_,rfl⟩
  refine HL k tk _ λb=>?_
  have r2:=r1.bare b;generalize (if b=true then t1 else _)=t2 at r2 ⊢;refine ez (now.put r2 λs2 n2=>?_);refine KQ (λ_=>?_) (λ_=>gf (gf (fin _ _ n2)));have r3:=r2.relay (SetTable.grown U.size);rcases hm:relayAll t2 U (SetTable.grown U.size)with⟨b0,t3,a2⟩
  rw[hm]at r3;dsimp only at r3 ⊢;refine ez (HK ?_ ?_)
  .cases a2
   .exact .inl rfl
   .exact .inr ⟨_,rfl⟩
  exact ez (n2.put r3 λs3 n3=>gf (gf (fin _ _ n3)))
 .rw[Z];have hk:=here.mpr (by rw[Z];rfl);rw[if_pos hk]at fin;exact gf (gf (fin _ _ now))
end
noncomputable def dd:List Int->List Int
 | []=>[]
 |k::r=>if k∈dd r then dd r else k::dd r
theorem gw :∀{l},k∈dd l ↔ k∈l
 | []=>Iff.rfl
 |x::r=>by
  show k∈(if x∈dd r then dd r else x::dd r) ↔ _;have ih:=@gw k r;by_cases h:x∈dd r
  .rw[if_pos h,ih,wh];exact⟨.inr,λz=>z.elim (λe=>by rw[e];exact gw.mp h) id⟩
  .simp_all
theorem dd_nodup:∀l,(dd l).Nodup
 | []=>LN
 |x::r=>by
  show(if x∈dd r then dd r else x::dd r).Nodup;by_cases h:x∈dd r
  .rw[if_pos h];exact dd_nodup r
  .rw[if_neg h];exact K7.mpr ⟨h,dd_nodup r⟩
theorem zv:∀l,(dd l).length<=l.length
 | []=>g4 _
 |x::r=>by
  show(if x∈dd r then dd r else x::dd r).length<=_;have:=zv r
  grind
def Cq(xs:List Int):(range xs.length).map (λi=>xs.getD i 0)=xs:=by
 apply NN;intro i;by_cases q:i<xs.length
 .simp_all
 .simp_all
def But(z:List Addr)(s s':Shared):Prop:=
 ∃h' tk,s'={ s with heap:=h',toks:=tk }/\∀b o,b∉z->s.heap.get? b=some o->h'.get? b=some o
theorem But.on(x:But Y s s')(y:But vs s' J)(hs:∀b∈Y,b∈vs):But vs s J:=by
 obtain⟨h1,t1,rfl,Z⟩:=x;obtain⟨h2,t2,rfl,k2⟩:=y;exact⟨h2,t2,rfl,λb o U e=>k2 b o U (Z b o (λz=>U (hs b z)) e)⟩
section
variable{P:Program}{w:World}{A:Around}{R:Result->Shared->Prop}{I S:Addr}{fp wr:List Addr}{n:Nat}{Pv:Nat->Value->Prop}{St:Nat->Heap->Prop}
noncomputable abbrev upd (S I:Addr):Code:=.builtin "set.update.loop" ⟨[.ref S,.ref I],[]⟩
def sE (h:wpAny (model P w) A.in1 (pyNext (.ref I)) (λv s'=>match v with
   |none=>R (.ok (.ret .none)) s'
   |some x=>wpAny (model P w) A.in1 (setAdd S x) (λ_ z=>codeAny (model P w) A (upd S I) R z) (λe z=>R (.error e) z) s') (λe s'=>R (.error e) s') s) :
  codeAny (model P w) A (upd S I) R s:=by
 have J:=PyProof.Rows.F.plain_set_update_loop;apply Nd PyProof.Rows.F.entry_set_update_loop;rw[Nf J];apply ez (m:=pyNext _);refine K3 h (λv s' hv=>?_) λ_ _ x=>x
 cases v with
 |none=>exact gf hv
 |some x =>
  refine ez (K6 (K3 hv (λ_ z hc=>?_) λ_ _ x=>x));exact gf ⟨M6 J _,hc⟩
def add_int(g:cm P w s.heap S ks)(room:ks.length+1<scanBound) 
  (h:∀b s',But [S] s s'->cm P w s'.heap S (if k∈ks then ks else k::ks)->(∀b,b≠S->s'.heap.get? b=s.heap.get? b)->Q b s'):wpAny (model P w) B (setAdd S (.int k t)) Q E s:=by
 refine K6 (ez ((intKind P w).pyHash (NJ _ _ _ _) ?_));refine pS g room λh' b z g'=>h b _ ⟨h',_,rfl,λc o hc e=>?_⟩ g' λc hc=>?_
 .rw[z.2 c (by simpa using hc)];exact e
 .exact z.2 c hc
theorem v8(W:Walks P w A.in1 I fp wr n Pv St)(Y:S∉fp)(xs:List Int)(hn:xs.length=n)(hv:∀i v,Pv i v->∃t,v=.int (xs.getD i 0) t)(hb:n+1<scanBound) :
  ∀m i s,i+m=n->St i s.heap->cm P w s.heap S (dd (xs.take i).reverse)->(∀s',But (S::wr) s s'->cm P w s'.heap S (dd xs.reverse)->R (.ok (.ret .none)) s') ->
   codeAny (model P w) A (upd S I) R s
 |0,i,s,e,st,g,h=>by
  have hi:i=n:=e;subst hi;refine sE (W.done s _ _ st λh' tk kp=>h _ ⟨h',tk,rfl,λb o J=>kp b o λz=>J (.tail _ z)⟩ ?_);rw[NF (by omega)]at g;exact g.at λo=>kp S o λz=>Y (W.sub S z)
 |m+1,i,s,e,st,g,h=>by
  have hi:i<n:=by omega
  refine sE (W.item i s _ _ hi st λv h1 U pv Z kp=>?_);obtain⟨t,rfl⟩:=hv i v pv;have b1:But wr s { s with heap:=h1,toks:=U }:=⟨h1,U,rfl,kp⟩;have l:(dd (xs.take i).reverse).length+1<scanBound:=by
   have:=zv (xs.take i).reverse;simp at this;omega
  refine add_int (g.at λo=>kp S o λz=>Y (W.sub S z)) l λ_ s2 b2 g2 ao=>?_
  refine v8 W Y xs hn hv hb m _ s2 (by omega) (W.frame _ h1 _ Z λb J o e'=>?_) ?_ λs3 b3 g3=>h s3 ?_ g3
  .rw[ao b λz=>Y (z▸J)];exact e'
  .have:xs.take (i+1)=xs.take i++[xs.getD i 0]:=by
    simp_all
   rw[this,reverse_append];exact g2
  .exact(b1.on (b2.on b3 (by simp)) λb z=>.tail _ z)
end
section
variable{P:Program}{w:World}{A:Around}{E:Value->Shared->Prop}{s:Shared}
def dk(h:Q (byT w) s):wpAny (model P w) A setsByText Q E s:=
  ez (NQ (gf h))
noncomputable abbrev bv (w:World):Obj:={ cls:=.type "set",dict:=none,data:=.set #[] 0 (.fresh 0 0 (!byT w)) }
noncomputable abbrev bn(w:World)(s:Shared):Shared:={ s with heap:=s.heap.push (bv w) }
def qT (h:Q (.ref s.heap.objs.size) (bn w s)):wpAny (model P w) A (newSet (.type "set")) Q E s:=by
 refine ez (dk ?_);exact ez (wpAny_alloc (gf h))
def sH(h:Heap):cm P w (h.push (bv w)) h.objs.size []:=
 Arr.set (es:=#[]) (ep:=0) ⟨λe z=>by simp at z,by simp,LN,by decide,rfl,Gd.fresh _⟩ (r4 _ rfl) ⟨rfl,rfl,rfl⟩ rfl
def Cr (x) {Q:Value->Shared->Prop} (h:Q (.ref s.heap.objs.size) (bn w s)):codeAny (model P w) A (.call (.builtin "set.__new__") ⟨[.type "set",x],[]⟩) (wants Q E) s:=by
 refine codeAny_call_builtin PySem.F.plain_set_new PySem.F.entry_set_new (Nw (PySem.F.newCall_set_1 x) ?_);have cls:∀{R}{F},R (.type "set",[x]) s->wpAny (model P w) A.in1 (Builtin.Frozenset.newClass "set" ⟨[.type "set",x],[]⟩) R F s:=by
  intro R F J;have z:=sub_set_self
  wp_walk
  exact J
 exact ez (cls (ez (qT (gf h))))
def zw(x){Q:Value->Shared->Prop}
  (hU:∀B,B.handled=A.handled->wpAny (model P w) B (Builtin.Frozenset.updateFrom "set.__init__" s.heap.objs.size x) (λ_ s'=>Q (.ref s.heap.objs.size) s') E (bn w s)) :
  wpAny (model P w) A (call (.type "set") [x]) Q E s:=by
 have Y:(bn w s).heap.get? s.heap.objs.size=some (bv w):=r4 _ rfl;have init:codeAny (model P w) A.in1 (.call (.builtin "set.__init__") ⟨[.ref s.heap.objs.size,x],[]⟩) (wants (λr s'=>r=.none/\Q (.ref s.heap.objs.size) s') E) (bn w s):=by
  refine codeAny_call_builtin PySem.F.called_set.init.plain PySem.F.entry_set_init (check_set_init_1 ⟨_,Y,rfl⟩ ?_);have hu:=hU A.in1.in1 (by simp);generalize hw:bn w s=s1 at Y hu ⊢;generalize s.heap.objs.size=S at Y hu ⊢;obtain⟨hp,g,d,tk,os⟩:=s1;unfold Builtin.«set.__init__» noKeywords;generalize Builtin.Frozenset.updateFrom=U at hu ⊢
  wp_walk
  exact K3 hu (λ_ s' hq=>gf ⟨rfl,hq⟩) λ_ _ z=>z
 have Z:=PySem.F.called_set;refine wpAny_call (codeAny_of_tree (gf ⟨Code.quiet_builtin _ (by decide +kernel),Nd PySem.F.entry_type_call ?_⟩));rw[Around.under_plain (weight_type_call_type "set" [x] []) rfl];have f1:=Z.notType;have f2:=Z.canCreate;have f3:=Z.made;have f4:=Z.sub
 have f5:=PySem.F.typeCall_set_1 x;obtain⟨c,tl,f6⟩:=Z.mro
 repeat (any_goals (first|assumption|wp_step))
 refine Mq (Cr x (E:=E) (Q:=λv s'=>v=.ref s.heap.objs.size/\s'=bn w s) ⟨rfl,rfl⟩) λr s1 J=>?_
 match r,J with
 | .error e,J=>exact J
 | .ok (.ret v),J =>
  obtain⟨rfl,rfl⟩:=J;have f7:Shared.TypeIs (bn w s) (.ref s.heap.objs.size) "set":=⟨_,Y,rfl⟩;have f8:=Z.init.lookup;have f9:=Z.init.bind (.ref s.heap.objs.size)
  repeat (any_goals (first|assumption|wp_step))
  refine Mq init λr s2 J=>?_
  match r,J with
  | .error e,J=>exact J
  | .ok (.ret v),J =>
   obtain⟨rfl,hq⟩:=J;show wpAny _ A.in1 (pure (some Value.none)) _ _ _;exact gf (gf hq)
def nG {o:Obj} (x:s.heap.get? l=some o) (hc:o.cls=.type z) (hd:(Value.type z==.type "dict")=false)
  (U:isSubtype (.type z) (.type "set")=pure false) (Y:isSubtype (.type z) (.type "frozenset")=pure false)
  {ns:List Int}{Pv:Nat->Value->Prop}{St:Nat->Heap->Prop} (hv:∀i v,Pv i v->∃t,v=.int (ns.getD i 0) t) (J:ns.length+1<scanBound) {Z:Obj}
  (W:∀B,B.handled=A.handled->Walks P w B ((bn w s).heap.objs.size) [(bn w s).heap.objs.size,l] [(bn w s).heap.objs.size] ns.length Pv St)
  (it:∀B E' R,R (.ref (bn w s).heap.objs.size) { s with heap:=(bn w s).heap.push Z }->wpAny (model P w) B (pyIter (.ref l)) R E' (bn w s))
  (st:St 0 ((bn w s).heap.push Z)) {Q:Value->Shared->Prop}
  (h:∀h' tk,cm P w h' s.heap.objs.size (dd ns.reverse)->(∀b o,s.heap.get? b=some o->h'.get? b=some o)->Q (.ref s.heap.objs.size) { s with heap:=h',toks:=tk }) :
  wpAny (model P w) A (call (.type "set") [.ref l]) Q E s:=by
 have z1:(bn w s).heap.objs.size=s.heap.objs.size+1:=KR ..;have ao:∀b,b<s.heap.objs.size->b∉[s.heap.objs.size,(bn w s).heap.objs.size]:=λb J=>by
  rw[z1];simp only[wh,LU,MC,not_or];exact⟨tr J,tr (KZ J)⟩
 have kept:∀b o,s.heap.get? b=some o->((bn w s).heap.push Z).get? b=some o:=λb o e=>gk _ (gk _ e)
 refine zw _ λB hB=>?_
 have hT:(bn w s).TypeIs (.ref l) z:=⟨o,gk _ x,hc⟩;unfold Builtin.Frozenset.updateFrom Builtin.Frozenset.isAnySet;refine ez (ez (Lw hT U ?_));show wpAny _ _ (isInstance (.ref l) (.type "frozenset")) _ _ _;refine Lw hT Y ?_;rw[if_neg mu];refine ez (Mr hT ?_);rw[hd,if_neg mu];refine ez (it _ _ _ (ez (wpAny_runValue ?_)));have hS:s.heap.objs.size∉[(bn w s).heap.objs.size,l]:=by
  have:=pd x;rw[z1];simp only[wh,LU,MC,not_or];exact⟨tr (Ma _),Lr this⟩
 refine v8 (W _ (by simpa using hB)) hS ns rfl hv J ns.length 0 _ (by omega) st ((sH s.heap).at λo e=>gk _ e) ?_;rintro s' ⟨h',tk,rfl,kp⟩ g;exact gf (h h' tk g λb o e=>kp b o (ao b (pd e)) (kept b o e))
def set_list 
  (U:A.handled=none) (Y:s.heap.IsList l items) (hi:IntsAre items.toList ns) (Z:items.size+1<scanBound)
  (h:∀h' tk,cm P w h' s.heap.objs.size (dd ns.reverse)->(∀b o,s.heap.get? b=some o->h'.get? b=some o)->Q (.ref s.heap.objs.size) { s with heap:=h',toks:=tk }) :
  wpAny (model P w) A (call (.type "set") [.ref l]) Q E s:=by
 have z:items.size=ns.length:=by simpa using IntsAre.length hi
 obtain⟨o,ho,hc,hr⟩:=Y;have J:(bn w s).heap.IsList l items:=⟨o,gk _ ho,hc,hr⟩;refine nG ho hc (by decide) PySem.F.sub_list_set PySem.F.sub_list_frozenset (mP hi) (z▸Z) (λB hB=>z▸Walks.list (hB.trans U) _ l ?_ items)
  (λB E' R=>Ml J) ⟨⟨_,r4 _ rfl,rfl,rfl⟩,J.push _⟩ h
 exact tr (Nat.lt_of_lt_of_eq (KZ (pd ho)) (KR ..).symm)
def xJ 
  (U:A.handled=none) (Y:s.heap.IsTuple l items) (hi:IntsAre items.toList ns) (Z:items.size+1<scanBound)
  (h:∀h' tk,cm P w h' s.heap.objs.size (dd ns.reverse)->(∀b o,s.heap.get? b=some o->h'.get? b=some o)->Q (.ref s.heap.objs.size) { s with heap:=h',toks:=tk }) :
  wpAny (model P w) A (call (.type "set") [.ref l]) Q E s:=by
 have z:items.size=ns.length:=by simpa using IntsAre.length hi
 obtain⟨o,ho,hc,hr⟩:=Y;have J:(bn w s).heap.IsTuple l items:=⟨o,gk _ ho,hc,hr⟩;refine nG ho hc (by decide) PySem.F.sub_tuple_set PySem.F.sub_tuple_frozenset (mP hi) (z▸Z) (λB hB=>z▸Walks.tuple (hB.trans U) _ l ?_ items)
  (λB E' R=>MP J) ⟨⟨_,r4 _ rfl,rfl,rfl⟩,J.push _⟩ h
 exact tr (Nat.lt_of_lt_of_eq (KZ (pd ho)) (KR ..).symm)
end
set_option maxRecDepth 100000 in
def nH:entryFor table "set.__iter__"=some Builtin.«frozenset.__iter__»:=
 entryFor_alias (id':="frozenset.__iter__") (by kernel_rfl) rfl (by decide +kernel) (by kernel_rfl)
set_option maxRecDepth 100000 in
def pT:Manifest.owners.lookup (String.ofList ['r','o','t','a','r','e','t','i','_','t','e','s'].reverse)=some Manifest.sig_set_iterator:=by kernel_rfl
set_option maxRecDepth 100000 in
def aW:Slot "set_iterator" "__next__" "set_iterator.__next__":=
 .of (owner:="set_iterator") (n:="__next__") (by rw[Ng,Mu];kernel_rfl) (by decide +kernel) (by decide +kernel) (by decide +kernel)
  (by first|exact .inl (by decide +kernel)|exact .inr (by decide +kernel)) (by rw[Nr];kernel_rfl)
set_option maxRecDepth 100000 in
def dB:entryFor table "set_iterator.__next__"=some Builtin.«set_iterator.__next__»:=entryFor_of_tree (by kernel_rfl)
set_option maxRecDepth 100000 in
def dW (a):argsOk "set_iterator.__next__" ⟨[a],[]⟩:=by
 unfold argsOk;rw[signature?_of (n:=['_','_','t','x','e','n','_','_']) (by kernel_rfl) pT];kernel_rfl
set_option maxRecDepth 100000 in
def jI:Slot "set_iterator" "__iter__" "set_iterator.__iter__":=
 .of (owner:="set_iterator") (n:="__iter__") (by rw[Ng,Mu];kernel_rfl) (by decide +kernel) (by decide +kernel) (by decide +kernel)
  (by first|exact .inl (by decide +kernel)|exact .inr (by decide +kernel)) (by rw[Nr];kernel_rfl)
set_option maxRecDepth 100000 in
def nI:entryFor table "set_iterator.__iter__"=some Builtin.«dict_keyiterator.__iter__»:=
 entryFor_alias (id':="dict_keyiterator.__iter__") (by kernel_rfl) rfl (by decide +kernel) (by kernel_rfl)
set_option maxRecDepth 100000 in
def pA (a):argsOk "set_iterator.__iter__" ⟨[a],[]⟩:=by
 unfold argsOk;rw[signature?_of (n:=['_','_','r','e','t','i','_','_']) (by kernel_rfl) pT];kernel_rfl
def zx {s:Shared}{I:Addr}{Q:Value->Shared->Prop} (z:s.TypeIs (.ref I) "set_iterator") (h:Q (.ref I) s):wpAny (model P w) A (pyIter (.ref I)) Q E s:=by
 refine NG z jI (KW jI z nI ?_ (pA _));exact gf ⟨_,rfl,"set_iterator",_,z,aW.lookup,h⟩
theorem iu{α:Type}:∀{l}{i}{x:α},l[i]?=some x->(x::l.eraseIdx i).Perm l
 | [],i,x,h=>by simp at h
 |a::l,0,x,h=>by
  simp_all
 |a::l,i+1,x,h=>by
  have h':l[i]?=some x:=by simpa using h
  exact(Perm.swap a x _).trans (.cons a (iu h'))
theorem v9(next):∀z k left (out:Array α),z=left.length->(pickOrder.go next z k left out).toList.Perm (out.toList++left)
 |0,k,left,out,h=>by
  have:=Lk.mp h.symm;subst this;rw[LJ];exact .refl _
 |z+1,k,left,out,h=>by
  have J:next k % left.length<left.length:=NZ _ (by omega);obtain⟨x,hx⟩:∃x,left[next k % left.length]?=some x:=⟨_,Kz J⟩;have e:pickOrder.go next (z+1) k left out=pickOrder.go next z (k+1) (left.eraseIdx (next k % left.length)) (out.push x):=by
   show(match left[next k % left.length]? with
    |some x=>pickOrder.go next z _ _ _
    |none=>out)=_
   rw[hx]
  rw[e];refine(v9 next z _ _ _ (by rw[Mv J];omega)).trans ?_;rw[Array.toList_push,Lf];exact Perm.append_left _ (iu hx)
def pU(next)(xs:Array α):(pickOrder next xs).toList.Perm xs.toList:=by
 have:=v9 next xs.size 0 xs.toList #[] (by simp);simpa[pickOrder]using this
section
variable{M:Model}{A:Around}{E:Value->Shared->Prop}{s:Shared}
def uT{n:Nat}{Q:Nat->Shared->Prop}(z:n≠0)(h:∀i d',i<n->Q i { s with drawn:=d' }):wpAny M A (choose src n) Q E s:=λ_ _ _ =>
 ⟨z,h _ _ (NZ _ (Nat.pos_of_ne_zero z))⟩
theorem jV :∀n xs s {Q:List α->Shared->Prop},n=xs.length->(∀ys d',ys.Perm xs->Q ys { s with drawn:=d' })->wpAny M A (drawOrder n xs) Q E s
 |0,xs,s,Q,h,q=>by
  have:=Lk.mp h.symm;subst this;exact gf (q [] s.drawn (.refl _))
 |n+1,[],s,Q,h,q=>by simp at h
 |n+1,x::r,s,Q,h,q=>by
  refine ez (uT (by simp) λi d' hi=>?_);obtain⟨y,J⟩:∃y,(x::r)[i]?=some y:=⟨_,Kz hi⟩;rw[J];refine ez (jV n _ _ (by rw[Mv hi];simp at h ⊢;omega) λys z U=>gf ?_);exact q (y::ys) z ((Perm.cons y U).trans (iu J))
end
def SIt(h:Heap)(I S:Addr)(o:Obj)(f:Value)(i n ep:Nat):Prop:=
 h.get? I=some { cls:=.type "set_iterator",dict:=none,data:=.fields #[f,.int i 0,.ref S,.int n 0,.int ep 0],slots:=#[] }/\h.get? S=some o
theorem SIt.type {s:Shared} (h:SIt s.heap I S o f i n ep):s.TypeIs (.ref I) "set_iterator":=⟨_,h.1,rfl⟩
section
variable{P:Program}{w:World}{A:Around}{E:Value->Shared->Prop}{s:Shared}
def fu(ho:s.heap.get? S=some o)(hd:o.data=.set es ep t)(z:t.fits es.size=true)(h:Q es s) :
  wpAny (model P w) A (setEntries S) Q E s:=Nn ho hd z h
def pV{ep slot i:Nat}{t:SetTable}{Q:Option (Value×Nat)->Shared->Prop}(ho:s.heap.get? S=some o)(hd:o.data=.set es ep t)(z:t.fits es.size=true)(J:byT w=true)
  (h:Q (((pickOrder (w.params.setOrder S ep) es)[i]?).map λe=>(e.2,slot)) s):wpAny (model P w) A (setNext S slot i ep) Q E s:=by
 unfold setNext;refine ez (KH ho hd z ?_);dsimp only;refine ez (dk ?_);rw[if_pos J];simp only[Mo,KA,Ls];refine ez ?_;unfold setWalk;refine ez (KH ho hd z ?_);dsimp only;refine ez (dk ?_);rw[if_pos J];refine ez (NQ (gf ?_));exact gf h
def nJ{t:SetTable}{Q:Option (Value×Nat)->Shared->Prop}(ho:s.heap.get? S=some o)(hd:o.data=.set es ep t)(Y:t.fits es.size=true)(Z:byT w=false)
  (J:(!t.plain&&decide (es.size > 1))=false) (z:t.led=true)
  (h:Q (match es[SetTable.below t.place slot]?,t.place[SetTable.below t.place slot]? with|some (_,x),some j=>some (x,j+1)|_,_=>none) s):wpAny (model P w) A (setNext S slot i ep) Q E s:=by
 unfold setNext;refine ez (KH ho hd Y ?_);dsimp only;refine ez (dk ?_);rw[if_neg (by rw[Z];simp)];refine KQ (λU=>absurd (show(!t.plain&&decide (es.size > 1))=true from U) (by rw[J];simp)) (λ_=>?_);refine ez ?_;show wpAny _ _ (if (!t.led&&!es.isEmpty)=true then _ else _) _ _ s;rw[if_neg (by rw[z];simp)];exact gf (gf h)
def zy(z:pw xs)(hi:i<xs.size):SetTable.below xs (xs.getD i 0+1)=i+1:=by
 obtain⟨h1,h2,J⟩:=jT z _;have a:i<SetTable.below xs (xs.getD i 0+1):=by
  by_cases q:SetTable.below xs (xs.getD i 0+1)<=i
  .have:=J i q hi;omega
  .omega
 have b:SetTable.below xs (xs.getD i 0+1)<=i+1:=by
  by_cases q:i+1<SetTable.below xs (xs.getD i 0+1)
  .have:=h2 _ q;have:=z i (i+1) (by omega) (by omega);omega
  .omega
 omega
def uU(xs)(z:pw xs):SetTable.below xs 0=0:=by
 obtain⟨h1,h2,J⟩:=jT z 0;by_cases q:0<SetTable.below xs 0
 .have:=h2 0 q;omega
 .omega
end
section
variable{P:Program}{w:World}{A:Around}{E:Value->Shared->Prop}{s:Shared}{I S:Addr}{o:Obj}{es:Array (Int×Value)}{t:SetTable}{i n ep:Nat}
def pB{slot nx:Nat}{x:Value}{Q:Option Value->Shared->Prop}(z:SIt s.heap I S o (.int slot 0) i n ep)(hd:o.data=.set es ep t)(hf:t.fits es.size=true)(hn:es.size=n)(Y:S≠I)
  (Z:∀A' s' Q' E',s'.heap.get? S=some o->Q' (some (x,nx)) s'->wpAny (model P w) A' (setNext S slot i ep) Q' E' s')
  (hQ:∀h',SIt h' I S o (.int nx 0) (i+1) n ep->Heap.SameBut I s.heap h'->Q (some x) { s with heap:=h' }):wpAny (model P w) A (pyNext (.ref I)) Q E s:=by
 unfold pyNext;refine ez (M7 (Lc (name:=Str.ofString "__next__") z.type aW (KW aW z.type dB ?_ (dW _))));unfold Builtin.«set_iterator.__next__»;refine ez (m:=slotArgs "__next__" 0 _) (gf ?_);refine ez (Nt z.1 rfl ?_);dsimp only;refine ez (fu z.2 hd hf ?_);rw[if_neg (by simp[hn])]
 try dsimp only
 simp only[Int.toNat_natCast];refine ez (Z _ _ _ _ z.2 ?_);dsimp only;refine ez (LZ z.1 (by simp) λh1 e1 J=>?_);refine ez (LZ e1 (by simp) λh2 e2 U=>?_);refine gf ⟨x,rfl,gf (hQ h2 ⟨?_,?_⟩ (J.trans U))⟩
 .simpa[rawInt]using e2
 .exact((J.trans U).2 S Y).trans z.2
def pC{slot:Nat}{Q:Option Value->Shared->Prop}(Y:A.handled=none)(z:SIt s.heap I S o (.int slot 0) i n ep)(hd:o.data=.set es ep t)(hf:t.fits es.size=true)(hn:es.size=n)
  (J:∀A' s' Z E',s'.heap.get? S=some o->Z none s'->wpAny (model P w) A' (setNext S slot i ep) Z E' s')
  (hQ:∀h',(∀b o,b≠I->s.heap.get? b=some o->h'.get? b=some o)->Q none { s with heap:=h' }):wpAny (model P w) A (pyNext (.ref I)) Q E s:=by
 unfold pyNext;refine ez (M7 (Lc (name:=Str.ofString "__next__") z.type aW (KW aW z.type dB ?_ (dW _))));unfold Builtin.«set_iterator.__next__»;refine ez (m:=slotArgs "__next__" 0 _) (gf ?_);refine ez (Nt z.1 rfl ?_);dsimp only;refine ez (fu z.2 hd hf ?_);rw[if_neg (by simp[hn])]
 try dsimp only
 simp[Int.toNat_natCast];refine ez (J _ _ _ _ z.2 ?_);dsimp only;refine ez (LZ z.1 (by simp) λh1 e1 U=>?_);refine lv (v:=.none) (vs:=#[]) (it:=0) (Q:=λ_ _=>True) (by first|exact Y|simpa using Y) λe s' kp ⟨h',eq⟩ hT=>?_
 subst eq;refine ez (Lw hT isSubtype_stop ?_);exact gf (hQ h' λb o hb q=>kp b o ((U.2 b hb).trans q))
def nK{pn place:Nat}{pt:Tok}{hx:Int}{x:Value}{Q:Option Value->Shared->Prop}(z:SIt s.heap I S o (.ref Tp) i n ep)(hd:o.data=.set es ep t)(hf:t.fits es.size=true)(hn:es.size=n)(U:S≠I)
  (Y:s.heap.get? Tp=some ot) (Z:ot.data=.seq ps pn) (hp:ps[i]?=some (.int place pt)) (ao:es[place]?=some (hx,x))
  (hQ:∀h',SIt h' I S o (.ref Tp) (i+1) n ep->Heap.SameBut I s.heap h'->Q (some x) { s with heap:=h' }):wpAny (model P w) A (pyNext (.ref I)) Q E s:=by
 unfold pyNext;refine ez (M7 (Lc (name:=Str.ofString "__next__") z.type aW (KW aW z.type dB ?_ (dW _))));unfold Builtin.«set_iterator.__next__»;refine ez (m:=slotArgs "__next__" 0 _) (gf ?_);refine ez (Nt z.1 rfl ?_);dsimp only;refine ez (fu z.2 hd hf ?_);rw[if_neg (by simp[hn])]
 try dsimp only
 refine ez (wpAny_seqItems Y Z ?_);dsimp only;simp only[Int.toNat_natCast,hp];refine ez ?_;unfold setNextDrawn;refine ez (KH z.2 hd hf ?_);dsimp only;simp only[Mo,KA,Ls,Int.toNat_natCast,ao];refine gf ?_;refine ez (LZ z.1 (by simp) λh1 e1 J=>?_);refine gf ⟨x,rfl,gf (hQ h1 ⟨?_,?_⟩ J)⟩
 .simpa[rawInt]using e1
 .exact(J.2 S U).trans z.2
def nL(hh:A.handled=none)(z:SIt s.heap I S o (.ref Tp) i n ep)(hd:o.data=.set es ep t)(hf:t.fits es.size=true)(hn:es.size=n)
  (J:s.heap.get? Tp=some ot) (U:ot.data=.seq ps pn) (hp:ps[i]?=none)
  (hQ:∀h',(∀b o,b≠I->s.heap.get? b=some o->h'.get? b=some o)->Q none { s with heap:=h' }):wpAny (model P w) A (pyNext (.ref I)) Q E s:=by
 refine ez (M7 (Lc z.type aW (KW aW z.type dB ?_ (dW _))));refine ez (gf ?_);refine ez (Nt z.1 rfl ?_);dsimp only;refine ez (fu z.2 hd hf ?_);rw[if_neg (by simp[hn])]
 try dsimp only
 refine ez (wpAny_seqItems J U ?_);simp[Int.toNat_natCast,hp];refine ez (LZ z.1 (by simp) λh1 e1 Y=>?_);refine ez (LZ e1 (by simp) λh2 e2 Z=>?_);refine lv (v:=.none) (vs:=#[]) (it:=0) (Q:=λ_ _=>True) (by first|exact hh|simpa using hh) λe s' kp ⟨h',eq⟩ hT=>?_
 subst eq;refine ez (Lw hT isSubtype_stop ?_);exact gf (hQ h' λb o hb q=>kp b o (((Y.trans Z).2 b hb).trans q))
end
structure qU(P:Program)(w:World)(I:Addr)(fp:List Addr)(order:List Int)(St:Nat->Heap->Prop):Prop where
 mem:I∈fp
 ty:∀i h,St i h->∃o,h.get? I=some o/\o.cls=.type "set_iterator"
 frame:∀i h h',St i h->(∀b∈fp,∀o,h.get? b=some o->h'.get? b=some o)->St i h'
 item:∀(A:Around) i (s:Shared) (Q:Option Value->Shared->Prop) (E:Value->Shared->Prop),i<order.length->St i s.heap ->
  (∀t h',St (i+1) h'->(∀b o,b≠I->s.heap.get? b=some o->h'.get? b=some o)->Q (some (.int (order.getD i 0) t)) { s with heap:=h' })->wpAny (model P w) A (pyNext (.ref I)) Q E s
 done:∀(A:Around) (s:Shared) (Q:Option Value->Shared->Prop) (E:Value->Shared->Prop),A.handled=none->St order.length s.heap ->
  (∀h',(∀b o,b≠I->s.heap.get? b=some o->h'.get? b=some o)->Q none { s with heap:=h' })->wpAny (model P w) A (pyNext (.ref I)) Q E s
def qU.walks{St:Nat->Heap->Prop}(W:qU P w I fp order St)(Z:A.handled=none) :
  Walks P w A I fp [I] order.length (λi v=>∃t,v=.int (order.getD i 0) t) St where
 sub:=λb J=>by rw[KL.mp J];exact W.mem
 frame:=W.frame
 item:=λi s Q E hi st U=>W.item A i s Q E hi st λt h' Y kp=>U _ h' s.toks ⟨t,rfl⟩ Y λb o J e=>kp b o (λz=>J (by rw[z];exact KL.mpr rfl)) e
 done:=λs Q E st U=>W.done A s Q E Z st λh' kp=>U h' s.toks λb o J e=>kp b o (λz=>J (by rw[z];exact KL.mpr rfl)) e
 self:=λi s Q E st h=>by
  obtain⟨o,e,c⟩:=W.ty i _ st;exact zx ⟨o,e,c⟩ h
section
variable{P:Program}{w:World}{A:Around}{E:Value->Shared->Prop}{s:Shared}
def kz{l:List (Int×Value)}(h:l[i]?=some e):(l.map λe=>numOf e.2).getD i 0=numOf e.2:=by simp_all
set_option maxRecDepth 100000 in
def zz(g:cm P w s.heap S ks)
  (hQ:∀(I:Addr) h' d' fp J St,J.Perm ks->(∀b o,s.heap.get? b=some o->h'.get? b=some o)->s.heap.objs.size<=I->(∀b∈fp,b=S\/s.heap.objs.size<=b)->(∀b∈fp,b<h'.objs.size) ->
   qU P w I fp J St->St 0 h'->Q (.ref I) { s with heap:=h',drawn:=d' }):wpAny (model P w) A (pyIter (.ref S)) Q E s:=by
 obtain⟨o,es,ep,t,ho,cL,hd,cl,bB,c6,hb,Z,b0⟩:=g;have hT:s.TypeIs (.ref S) "set":=⟨o,ho,cL.1⟩;have aO:=pd ho;have cP:t.place.size=es.size:=by simp[SetTable.fits]at Z;exact Z.1
 have c5:es.size=ks.length:=by have:=bB.length_eq;simpa using this
 refine NG hT PySem.F.slot_set_iter (KW PySem.F.slot_set_iter hT nH ?_ (PySem.F.args_set_iter_1 _));unfold Builtin.«frozenset.__iter__»;refine ez (m:=Builtin.Frozenset.slot0 "__iter__" _) (gf ?_);refine ez (m:=Builtin.Frozenset.sizeOf S) (ez (fu ho hd Z (gf ?_)));refine ez (m:=setDrawn S) ?_;unfold setDrawn;refine ez (KH ho hd Z ?_);dsimp only;refine ez (dk (gf ?_));have Y:∀(J:List (Int×Value)) (fs:Nat->Nat),J.Perm es.toList->fs 0=0 ->
   (∀A' i (s':Shared) (Q':Option (Value×Nat)->Shared->Prop) (E':Value->Shared->Prop) e,J[i]?=some e->s'.heap.get? S=some o->Q' (some (e.2,fs (i+1))) s'->wpAny (model P w) A' (setNext S (fs i) i ep) Q' E' s') ->
   (∀A' s' Q' E',s'.heap.get? S=some o->Q' none s'->wpAny (model P w) A' (setNext S (fs J.length) J.length ep) Q' E' s') ->
   Q (.ref s.heap.objs.size) { s with heap:=s.heap.push { cls:=.type "set_iterator",data:=.fields #[.int 0 0,.int 0 0,.ref S,.int (es.size:Nat) 0,.int (ep:Nat) 0] } }:=by
  intro J fs hp h0 b1 cr;have hol:J.length=es.size:=by have:=hp.length_eq;simpa using this
  refine hQ s.heap.objs.size _ s.drawn [s.heap.objs.size,S] (J.map λe=>numOf e.2) (λi h=>SIt h s.heap.objs.size S o (.int (fs i) 0) i es.size ep) ((hp.map _).trans bB) (λb o e=>gk _ e) (g4 _) (λb hb=>?_) (λb hb=>?_) ?_ ?_
  .rcases wh.mp hb with e|e
   .exact .inr (Ms e.symm)
   .exact .inl (KL.mp e)
  .rw[KR];rcases wh.mp hb with e|e
   .rw[e];exact Ma _
   .rw[KL.mp e];exact KZ aO
  .refine⟨.head _,λi h st=>⟨_,st.1,rfl⟩,λi h h' st k=>⟨k _ (.head _) _ st.1,k _ (.tail _ (.head _)) _ st.2⟩,λA' i s' Q' E' hi st hq=>?_,λA' s' Q' E' hh st hq=>?_⟩
   .rw[mx]at hi;obtain⟨e,he⟩:∃e,J[i]?=some e:=⟨_,Kz hi⟩;have hm:=hp.mem_iff.mp (L1 he);obtain⟨tk,hv⟩:=fh cl e hm;rw[kz he]at hq;refine pB (slot:=fs i) (nx:=fs (i+1)) (x:=e.2) st hd Z rfl (tr aO) (λb2 b3 b4 b5 a5 q=>b1 b2 i b3 b4 b5 e he a5 q) λh' cd sb=>?_
    rw[hv];exact hq tk h' cd λb o hb q=>(sb.2 b hb).trans q
   .rw[mx]at st;exact pC (slot:=fs J.length) hh st hd Z rfl (λb2 b3 b4 b5 a5 q=>cr b2 b3 b4 b5 a5 q) hq
  .refine⟨?_,gk _ ho⟩;rw[h0];exact r4 _ rfl
 cases a6:byT w with
 |true =>
  simp only[MH,Nq,KA,Ls];refine ez (gf ?_);refine ez (L5 ho hd Z ?_);refine ez (La (gf ⟨_,rfl,"set_iterator",_,⟨_,r4 _ rfl,rfl⟩,aW.lookup,?_⟩));have q:=Y (pickOrder (w.params.setOrder S ep) es).toList (λ_=>0) (pU _ _) rfl
   (λA' i s' Q' E' e he ao q=>pV ao hd Z a6 (by rw[<- K9,he];exact q))
   (λA' s' Q' E' ao q=>pV ao hd Z a6 (by rw[Mk (by simp)];exact q))
  simpa[rawInt]using q
 |false =>
  cases a9:(!t.plain&&decide (es.size > 1))with
  |false =>
   refine KQ (λck=>absurd (show(!false&&(!t.plain&&decide (es.size > 1)))=true from ck) (by rw[a9];simp)) (λ_=>?_);refine ez (gf ?_);refine ez (L5 ho hd Z ?_);refine ez (La (gf ⟨_,rfl,"set_iterator",_,⟨_,r4 _ rfl,rfl⟩,aW.lookup,?_⟩));have bA:t.led=true:=by rw[b0.led,a6];rfl
   have cu:∀i,i<=t.place.size->SetTable.below t.place (match i with|0=>0|j+1=>t.place.getD j 0+1)=i:=λi hi=>by
    cases i<;>first|exact uU _ b0.rise|exact zy b0.rise (by omega)
   have q:=Y es.toList (λi=>match i with|0=>0|j+1=>t.place.getD j 0+1) (.refl _) rfl
    (λA' i s' Q' E' e he ao q=>nJ ao hd Z a6 a9 bA (by
     have hi:i<es.size:=by have:=(Ku.mp he).1;simpa using this
     rw[cu i (by omega)];rw[<- K9,he,MO (by omega:i<t.place.size)];have e2:t.place.getD i 0=t.place[i]:=by simp[Array.getD,(by omega:i<t.place.size)]
     dsimp only at q ⊢;rw[e2]at q;exact q))
    (λA' s' Q' E' ao q=>nJ ao hd Z a6 a9 bA (by
     rw[cu _ (by simp[cP]),Mk (by simp)];exact q))
   simpa[rawInt]using q
  |true =>
   refine KQ (λ_=>?_) (λck=>absurd (show(!false&&(!t.plain&&decide (es.size > 1)))=true by rw[a9];rfl) ck);refine ez (jV _ _ _ (by simp) λz d' U=>?_);refine ez (wpAny_newTuple ?_ (by simp;have:=U.length_eq;simp at this;rw[this,K4];unfold scanBound at hb;omega));refine ez (L5 (gk _ ho) hd Z ?_);refine ez (La (gf ⟨_,rfl,"set_iterator",_,⟨_,r4 _ rfl,rfl⟩,aW.lookup,?_⟩));have dr:z.length=es.size:=by have:=U.length_eq;simpa using this
   have c0:∀p∈z,p<es.size:=λp hp=>by have:=U.mem_iff.mp hp;simpa using this
   have c1:((s.heap.push { cls:=.type "tuple",data:=.seq (map (λ(i:Nat)=>rawInt i) z).toArray }).push { cls:=.type "set_iterator",data:=.fields #[.ref s.heap.objs.size,.int 0 0,.ref S,.int (es.size:Nat) 0,.int (ep:Nat) 0] }).get? s.heap.objs.size=some { cls:=.type "tuple",data:=.seq (map (λ(i:Nat)=>rawInt i) z).toArray }:=
    gk _ (r4 _ rfl)
   have q:=hQ (s.heap.push { cls:=.type "tuple",data:=.seq (map (λ(i:Nat)=>rawInt i) z).toArray }).objs.size
    ((s.heap.push { cls:=.type "tuple",data:=.seq (map (λ(i:Nat)=>rawInt i) z).toArray }).push { cls:=.type "set_iterator",data:=.fields #[.ref s.heap.objs.size,.int 0 0,.ref S,.int (es.size:Nat) 0,.int (ep:Nat) 0] }) d'
    [(s.heap.push { cls:=.type "tuple",data:=.seq (map (λ(i:Nat)=>rawInt i) z).toArray }).objs.size,S,s.heap.objs.size]
    (z.map λp=>(es.toList.map λe=>numOf e.2).getD p 0)
    (λi h=>SIt h (s.heap.push { cls:=.type "tuple",data:=.seq (map (λ(i:Nat)=>rawInt i) z).toArray }).objs.size S o (.ref s.heap.objs.size) i es.size ep/\h.get? s.heap.objs.size=some { cls:=.type "tuple",data:=.seq (map (λ(i:Nat)=>rawInt i) z).toArray })
    ?p1 (λb o e=>gk _ (gk _ e)) (by rw[KR];exact LV _) ?p2 ?p3 ?p4 ⟨⟨r4 _ rfl,gk _ (gk _ ho)⟩,c1⟩
   .simpa[rawInt]using q
   case p1 =>
    have e1:(es.toList.map λe=>numOf e.2).length=es.size:=by simp
    have h1:=U.map λp=>(es.toList.map λe=>numOf e.2).getD p 0
    rw[<- e1,Cq]at h1;exact h1.trans bB
   case p2 =>
    simp_all
   case p3 =>
    intro b hb;rw[KR];simp only[wh,LU,MC]at hb;rcases hb with e|e|e
    .rw[e];exact Ma _
    .rw[e,KR];exact KZ (KZ aO)
    .rw[e,KR];exact KZ (Ma _)
   case p4 =>
    refine⟨.head _,λi h st=>⟨_,st.1.1,rfl⟩,λi h h' st k=>⟨⟨k _ (.head _) _ st.1.1,k _ (.tail _ (.head _)) _ st.1.2⟩,k _ (.tail _ (.tail _ (.head _))) _ st.2⟩,λA' i s' Q' E' hi st hq=>?_,λA' s' Q' E' hh st hq=>?_⟩
    .rw[mx]at hi;obtain⟨p,hp⟩:∃p,z[i]?=some p:=⟨_,Kz hi⟩;have c2:=c0 p (L1 hp);obtain⟨e,he⟩:∃e,es.toList[p]?=some e:=⟨_,Kz (by simpa using c2)⟩;obtain⟨tk,hv⟩:=fh cl e (L1 he);have e3:(z.map λp=>(es.toList.map λe=>numOf e.2).getD p 0).getD i 0=numOf e.2:=by
      rw[LF,KJ,hp];exact kz he
     rw[e3]at hq;refine nK (place:=p) (pt:=0) (hx:=e.1) (x:=e.2) st.1 hd Z rfl (by rw[KR];exact tr (KZ aO)) st.2 rfl (by simp[hp,rawInt]) (by rw[<- K9,he]) λh' cd sb=>?_
     rw[hv];exact hq tk h' ⟨cd,(sb.2 _ (by rw[KR];exact tr (Ma _))).trans st.2⟩ λb o hb q=>(sb.2 b hb).trans q
    .rw[mx]at st;exact nL hh st.1 hd Z rfl st.2 rfl (by simp) hq
def zA (U:s.TypeIs (.ref r) "set") (h:Q false s):wpAny (model P w) A (Builtin.List.listLengthHint (.ref r)) Q E s:=by
 unfold Builtin.List.listLengthHint;refine ez (Nb U PySem.F.slot_set_len.lookup ?_);generalize J:("set.__len__":String)=Y
 wp_delta
 rw[show splitId Y=some ("set","__len__")from by subst J;decide +kernel];subst J;refine ez (Lw (T:="set") (b:=true) U (by rw[Nr];kernel_rfl) ?_);refine KQ (λz=>absurd z (by decide)) (λ_=>?_);refine KQ (λ_=>?_) (λz=>absurd (by decide +kernel) z);refine ez (Mr U ?_);exact gf h
set_option maxRecDepth 100000 in
def sI(hh:A.handled=none)(g:cm P w s.heap S ks)
  (h:∀h' tk d' a4 J,(∀b o,s.heap.get? b=some o->h'.get? b=some o)->J.Perm ks->IntsAre a4 J->R a4 { s with heap:=h',toks:=tk,drawn:=d' }) :
  wpAny (model P w) A (collect (.ref S)) R E s:=by
 have b2:ks.length<scanBound:=by
  obtain⟨o,es,ep,t,ho,a5,hd,cS,hp,hn,hb,_⟩:=g;have:=hp.length_eq
  simp_all
 have Y:S<s.heap.objs.size:=by
  obtain⟨o,es,ep,t,ho,_⟩:=g;exact pd ho
 unfold collect;refine ez (wpAny_runValue (Nd entry_proto_collect' ?_));rw[Nf PySem.F.plain_proto_collect _];show wpAny _ A.in1 (newList [] >>= λl=>again (.builtin "list.__iadd__" ⟨[l,.ref S],[]⟩)) _ _ s;refine ez (La ?_);refine gf ⟨M6 PySem.F.plain_list_iadd _,Nd entry_list_iadd' ?_⟩;rw[Nf PySem.F.plain_list_iadd _];have b3:(s.heap.push { cls:=.type "list",data:=.seq ([]:List Value).toArray }).get? s.heap.objs.size=some { cls:=.type "list",data:=.seq #[] }:=r4 _ rfl;show wpAny _ A.in1 (Builtin.List.listExtendWith (.ref s.heap.objs.size) (.ref S) (.ref s.heap.objs.size)) _ _ _;have g1:cm P w (s.heap.push { cls:=.type "list",data:=.seq ([]:List Value).toArray }) S ks:=g.at λo e=>gk _ e
 have hT:Shared.TypeIs { s with heap:=s.heap.push { cls:=.type "list",data:=.seq ([]:List Value).toArray } } (.ref S) "set":=by
  obtain⟨o,es,ep,t,ho,a5,_⟩:=g1;exact⟨o,ho,a5.1⟩
 unfold Builtin.List.listExtendWith;refine ez (Mr (T:="set") hT ?_);have q1:Builtin.List.listSameRef (.ref s.heap.objs.size) (.ref S)=false:=by simp[Builtin.List.listSameRef,Lr Y]
 have q2:(Value.type "set" == Value.type "list")=false:=by decide
 have q3:(Value.type "set" == Value.type "tuple")=false:=by decide
 simp only[q1,q2,q3,Bool.or_false,KA,Ls];refine ez (zz g1 λI h1 d1 fp J St Z kp hI b4 c6 W st=>?_);have a7:(s.heap.push { cls:=.type "list",data:=.seq ([]:List Value).toArray }).objs.size=s.heap.objs.size+1:=KR ..;have a8:s.heap.objs.size∉fp:=λhm=>by
  rcases b4 _ hm with e|e
  .exact K5 _ (by rw[<- e]at Y;exact Y)
  .dsimp only at e;rw[a7]at e;exact Nat.not_succ_le_self _ e
 have hol:J.length<=sizeLine:=by
  have:=Z.length_eq;rw[this];exact LM b2
 have b5:Shared.TypeIs { s with heap:=h1,drawn:=d1 } (.ref S) "set":=by
  obtain⟨o,e,c⟩:=hT;exact⟨o,kp S o e,c⟩
 refine ez (K6 (zA b5 ?_));have WS:=(W.walks (A:=A.in1) (by first|exact hh|simpa using hh)).toS;have fin:∀h2 c1,St 0 h2->(∀b o,b≠s.heap.objs.size->h1.get? b=some o->h2.get? b=some o)->h2.get? s.heap.objs.size=some { cls:=.type "list",dict:=none,data:=.seq #[] c1,slots:=#[] } ->
   codeAny (model P w) A (.builtin "list.extend.loop" ⟨[.ref s.heap.objs.size,.ref I,.ref s.heap.objs.size],[]⟩)
    (λr s'=>∃h' tk U c',r=.ok (.ret (.ref s.heap.objs.size))/\s'={ s with heap:=h',toks:=tk,drawn:=d1 }/\(∀b o,s.heap.get? b=some o->h'.get? b=some o) /\
     h'.get? s.heap.objs.size=some { cls:=.type "list",dict:=none,data:=.seq U c',slots:=#[] }/\IntsAre U.toList J) { s with heap:=h2,drawn:=d1 }:=by
  intro h2 c1 ck k2 ao;refine codeAny_extend_loopS WS hol s.heap.objs.size a8 _ J.length 0 _ #[] c1 rfl (KI _) ck ao (ItemsOf.nil _) λs' U c' hm aO a9=>?_
  refine⟨s'.heap,s'.toks,U,c',rfl,(by
   obtain⟨h',g',cl,dn,dr⟩:=s';have eg:g'=s.gens:=hm.gens;have ed:cl=d1:=hm.drawn;have eo:=hm.os;subst eg;subst ed;subst eo;rfl),λb o e=>?_,aO,jH a9⟩
  have bA:=tr (pd e);refine hm.heap b o (λbB=>?_) (k2 b o bA (kp b o (gk _ e)));rcases wh.mp bB with z|z
  .exact bA z
  .have cr:=KL.mp z;rw[cr]at e;have b0:=hI;rw[a7]at b0;exact absurd (Kt (pd e) (Mm b0)) (K5 _)
 have done:∀r s',(∃h' tk U c',r=.ok (.ret (.ref s.heap.objs.size))/\s'={ s with heap:=h',toks:=tk,drawn:=d1 }/\(∀b o,s.heap.get? b=some o->h'.get? b=some o) /\
     h'.get? s.heap.objs.size=some { cls:=.type "list",dict:=none,data:=.seq U c',slots:=#[] }/\IntsAre U.toList J) ->
   wants (λv s'=>wpAny (model P w) A (match v with
    |Value.ref a=>do
     match (<- load a).data with
      |Data.seq xs _=>pure xs.toList
      | _=>unsupported "internal:collect"
    | _=>unsupported "internal:collect") R E s') E r s':=by
  rintro r s' ⟨h',tk,U,c',rfl,rfl,k',aO,hi⟩;show wpAny _ A (load s.heap.objs.size >>= _) _ _ _;refine ez (wpAny_load aO ?_);exact gf (h h' tk d1 U.toList J k' Z hi)
 have a0:=kp _ _ b3;refine KQ (λ_=>?_) (λ_=>gf ⟨M6 PySem.F.plain_extend_loop _,Mq (fin h1 0 st (λ_ _ _ e=>e) a0) done⟩);refine ez (L7 ?_);refine ez ?_;show wpAny _ _ (updateSeq s.heap.objs.size (·.push .none) >>= λ_=>updateSeq s.heap.objs.size (·.pop)) _ _ _;refine ez (Nh a0 rfl ?_);have ao:=K8 (Obj.mapSeq (·.push Value.none)) a0 rfl;refine Nh (hz:=by seq_fits) ao rfl ?_;have cu:=K8 (Obj.mapSeq (·.pop)) ao rfl;refine gf ⟨M6 PySem.F.plain_extend_loop _,Mq (fin _ _ ?_ (λb o hb e=>?_) cu) done⟩
 .refine W.frame 0 _ _ st λb hb o e=>?_
  have b1:b≠s.heap.objs.size:=λz=>a8 (z▸hb)
  exact(Ln _ _ (Mb b1)).trans ((Ln _ _ (Mb b1)).trans e)
 .exact(Ln _ _ (Mb hb)).trans ((Ln _ _ (Mb hb)).trans e)
end
end L2.St
namespace L2
open PySem PySem.Spec PyProof.Rows List Option
noncomputable def mI(scope osc:Scope):Scope:=
 { scope with names:=scope.names.map λ(n,k)=>if (k==.free&&osc.kind==.function&&osc.names.lookup n==some .cell)then(n,.cell)else(n,k) }
noncomputable def pD(osc:Scope)(n:Str)(k:NameKind):NameKind:=if (k==.free&&osc.kind==.function&&osc.names.lookup n==some .cell)then .cell else k
def jW(scope osc):(mI scope osc).names=scope.names.map λq=>(q.1,pD osc q.1 q.2):=by
 refine LG λq _=>?_
 obtain⟨n,k⟩:=q;show(if _=true then _ else _)=(n,pD osc n k);unfold pD;split<;>rfl
theorem fV{α z:Type}(g:Str->α->z)(y):∀names:List (Str×α),(names.map λq=>(q.1,g q.1 q.2)).lookup y=(names.lookup y).map (g y)
 | []=>rfl
 | (n,k)::r=>by
  cases hx:y==n with
  |true =>
   simp[lookup_cons,hx,map_some];rw[eq_of_beq hx]
  |false =>
   simp[lookup_cons,hx];exact fV g y r
def xK(osc)(n):pD osc n .free=.cell\/pD osc n .free=.free:=by
 unfold pD;split
 .exact .inl rfl
 .exact .inr rfl
def xL(z:k≠.cell)(h:pD osc n k=.cell\/pD osc n k=.free):k=.free:=by
 unfold pD at h;by_cases hc:(k==NameKind.free&&osc.kind==.function&&osc.names.lookup n==some .cell)=true
 .simp_all
 .simp_all
theorem jX{α:Type}{k:α}:∀{l:List (Str×α)},l.lookup y=some k->(y,k)∈l
 | [],h=>by simp at h
 | (n,z)::r,h=>by
  cases hx:y==n with
  |true =>
   simp only[lookup_cons,hx]at h;rw[eq_of_beq hx,Kw h];exact .head _
  |false =>
   simp[lookup_cons,hx]at h;exact .tail _ (jX h)
def xM(h:scope.names.lookup y=some .free):(mI scope osc).names.lookup y=some .cell\/(mI scope osc).names.lookup y=some .free:=by
 rw[jW,fV,h,map_some];rcases xK osc y with e|e
 .exact .inl (by rw[e])
 .exact .inr (by rw[e])
def xN(U:∀z∈scope.names,z.2=.cell->z.1=x)(h:(mI scope osc).names.lookup y=some .cell\/(mI scope osc).names.lookup y=some .free):(y,NameKind.free)∈scope.names\/(y=x/\scope.names.lookup x=some .cell):=by
 rw[jW,fV]at h;cases e:scope.names.lookup y with
 |none=>rw[e]at h;rcases h with h|h<;>cases h
 |some k =>
  rw[e,map_some]at h;have J:=jX e;by_cases hc:k=.cell
  .subst hc;have q:=U _ J rfl;exact .inr ⟨q,by rw[<- q];exact e⟩
  .have Y:=xL hc (h.elim (λz=>.inl (Kw z)) λz=>.inr (Kw z));rw[Y]at J;exact .inl J
def xO(h:scope.names.lookup y=some .cell):(mI scope osc).names.lookup y=some .cell:=by
 rw[jW,fV,h,map_some];unfold pD;split
 .rfl
 .rfl
noncomputable def gz(env:Env):List (Str×NameKind)->List (Str×Addr)->List (Str×Addr)
 | [],acc=>acc
 | (n,k)::r,acc=>if k==.free then gz env r ((n,(env.cells.lookup n).getD 0)::acc)else gz env r acc
theorem lw :∀names z,(∀y∈names,y.2=.free->∃c,env.cells.lookup y.1=some c) ->
  (forIn names z λx r=>(match x with|(name,kind)=>if (kind==NameKind.free)=true then do let c <- cellOf env name;pure (ForInStep.yield ((name,c)::r))else pure (ForInStep.yield r)):Sem (List (Str×Addr)))=pure (gz env names z)
 | [],z,_=>rfl
 | (n,k)::r,z,h=>by
  rw[forIn_cons];have U:∀y∈r,y.2=.free->∃c,env.cells.lookup y.1=some c:=λy Y=>h y (.tail _ Y)
  by_cases J:(k==NameKind.free)=true
  .obtain⟨c,hc⟩:=h (n,k) (.head _) (eq_of_beq J);dsimp only;rw[if_pos J];have Z:cellOf env n=pure c:=by unfold cellOf;rw[hc]
   rw[Z];simp only[pure_bind];rw[lw r _ U];show _=pure (if _=true then _ else _);rw[if_pos J,hc]
   all_goals rfl
  .dsimp only;rw[if_neg J];simp only[pure_bind];rw[lw r _ U];show _=pure (if _=true then _ else _);rw[if_neg J]
def nM(h:∀y∈scope.names,y.2=.free->∃c,env.cells.lookup y.1=some c):closureFor scope env=pure (gz env scope.names []):=by
 unfold closureFor;have:=lw scope.names [] h
 first
  | exact this
  | (rw[bind_pure];exact this)
  | simpa using this
theorem nO :∀names J,(∀z∈names,z.2=.free->∃c,env.cells.lookup z.1=some c)->(∀c,J.lookup y=some c->env.cells.lookup y=some c) ->
  (gz env names J).lookup y=some c->env.cells.lookup y=some c
 | [],J,_,U,e=>U c e
 | (n,k)::r,J,h,U,e=>by
  have hr:∀y∈r,y.2=.free->∃c,env.cells.lookup y.1=some c:=λy hy=>h y (.tail _ hy)
  have Y:(if (k==NameKind.free)=true then gz env r ((n,(env.cells.lookup n).getD 0)::J)else gz env r J).lookup y=some c:=e;by_cases Z:(k==NameKind.free)=true
  .rw[if_pos Z]at Y;refine nO r _ hr (λc' q=>?_) Y;cases hx:y==n with
   |true =>
    obtain⟨c0,a1⟩:=h (n,k) (.head _) (eq_of_beq Z)
    simp_all
   |false =>
    simp[lookup_cons,hx]at q;exact U c' q
  .rw[if_neg Z]at Y;exact nO r _ hr U Y
theorem kA :∀names J,((y,NameKind.free)∈names\/∃c,J.lookup y=some c)->∃c,(gz env names J).lookup y=some c
 | [],J,h=>by
  rcases h with h|h
  .simp at h
  .exact h
 | (n,k)::r,J,h=>by
  show ∃c,(if (k==NameKind.free)=true then gz env r ((n,(env.cells.lookup n).getD 0)::J)else gz env r J).lookup y=some c;by_cases U:(k==NameKind.free)=true
  .rw[if_pos U];refine kA r _ ?_;cases hx:y==n with
   |true=>exact .inr ⟨(env.cells.lookup n).getD 0,by simp[lookup_cons,hx]⟩
   |false =>
    rcases h with h|⟨c,h⟩
    .simp_all
    .exact .inr ⟨c,by simp[lookup_cons,hx];exact h⟩
  .rw[if_neg U];refine kA r _ ?_;rcases h with h|h
   .rcases wh.mp h with z|z
    .have:=(Prod.mk.inj z).2
     simp_all
    .exact .inl z
   .exact .inr h
structure lx(osc:Scope)(N:List Str)(scope:Scope)(x:Str)(fvs:List Str)(js:List Nat):Prop where
 cells:∀y∈scope.names,y.2=.cell->y.1=x
 once:scope.names.lookup x=some .local/\(scope.names.filter λy=>y.2==.cell)=[]\/scope.names.lookup x=some .cell/\(scope.names.filter λy=>y.2==.cell)=[(x,.cell)]
 xf:∀y∈scope.names,y.2=.free->y.1≠x
 kind:scope.kind=.function
 names:∀y∈scope.names,y.2=.local->scope.names.lookup y.1=some .local
 nd:(x::fvs).Nodup
 out:∀y∈scope.names,y.2=.free->osc.names.lookup y.1=some .cell\/osc.names.lookup y.1=some .free
 slots:(js.map λj=>N[j]?)=fvs.map some
 free:∀y∈fvs,scope.names.lookup y=some .free
structure v_(osc:Scope)(N:List Str)(scope:Scope)(x:Str)(ys fvs:List Str)(js:List Nat):Prop where
 cells:∀y∈scope.names,y.2=.cell->y.1=x
 once:scope.names.lookup x=some .local/\(scope.names.filter λy=>y.2==.cell)=[]\/scope.names.lookup x=some .cell/\(scope.names.filter λy=>y.2==.cell)=[(x,.cell)]
 xf:∀y∈scope.names,y.2=.free->y.1≠x
 kind:scope.kind=.function
 names:∀y∈scope.names,y.2=.local->scope.names.lookup y.1=some .local
 nd:(x::(ys++fvs)).Nodup
 out:∀y∈scope.names,y.2=.free->osc.names.lookup y.1=some .cell\/osc.names.lookup y.1=some .free
 slots:(js.map λj=>N[j]?)=fvs.map some
 free:∀y∈fvs,scope.names.lookup y=some .free
theorem lx.g(h:lx osc N scope x fvs js):v_ osc N scope x [] fvs js:=⟨h.cells,h.once,h.xf,h.kind,h.names,h.nd,h.out,h.slots,h.free⟩
noncomputable def ly(scope:Scope)(x:Str)(C:Addr):List (Str×Addr):=if scope.names.lookup x=some .cell then [(x,C+1)]else []
noncomputable def Cx.blk(X:Cx)(x:Str)(fvs:List Str)(scope:Scope)(z:Shared)(J:Hp)(C:Addr)(fp:List Addr):Cx:=
 { X with N:=x::fvs,s₀:=z,H₀:=J,env:=compEnvC scope (ly scope x C++gz X.env scope.names []) C X.env,outer:=X.stack,ex:=fp,fn:=λy=>decide (y=x/\scope.names.lookup x=some .cell),pn:=[],xe:=λ_ _=>False }
theorem nP :∀{names:List (Str×NameKind)}{z}{s}{Q},(names.filter λy=>y.2==.cell)=[]->Q z s ->
  wpAny M A (forIn names z λx r=>(match x with|(name,kind)=>if (kind==NameKind.cell)=true then do let c <- alloc { cls:=.type "cell",data:=.cell none };pure (ForInStep.yield ((name,c)::r))else pure (ForInStep.yield r)):Sem (List (Str×Addr))) Q E s
 | [],_,_,_,_,h=>gf h
 | (n,k)::r,z,s,Q,hf,h=>by
  rw[forIn_cons];have J:(k==NameKind.cell)=false:=by
   simp_all
  rw[Ll (by rw[J];decide)]at hf;dsimp only;rw[if_neg (by rw[J];decide)];exact ez (gf (nP hf h))
theorem pW{x:Str}:∀{names:List (Str×NameKind)}{z}{s}{Q},(names.filter λy=>y.2==.cell)=[(x,.cell)] ->
  Q ((x,s.heap.objs.size)::z) { s with heap:=s.heap.push { cls:=.type "cell",data:=.cell none } } ->
  wpAny M A (forIn names z λx r=>(match x with|(name,kind)=>if (kind==NameKind.cell)=true then do let c <- alloc { cls:=.type "cell",data:=.cell none };pure (ForInStep.yield ((name,c)::r))else pure (ForInStep.yield r)):Sem (List (Str×Addr))) Q E s
 | [],_,_,_,hf,_=>by cases hf
 | (n,k)::r,z,s,Q,hf,h=>by
  rw[forIn_cons];dsimp only;cases J:(k==NameKind.cell)with
  |false =>
   rw[Ll (by rw[J];decide)]at hf;exact ez (gf (pW hf h))
  |true =>
   rw[LH (by exact J)]at hf;obtain⟨U,Y⟩:=List.cons.inj hf;cases U;exact ez (ez (wpAny_alloc (gf (nP Y h))))
def uV{scope:Scope}{x:Str}{globals:Addr}{Z:List (Str×Addr)}{qual:Str}{env:Env}{s:Shared}{Q:Env->Shared->Prop}(hk:scope.kind=.function)
  (ho:scope.names.lookup x=some .local/\(scope.names.filter λy=>y.2==.cell)=[]\/scope.names.lookup x=some .cell/\(scope.names.filter λy=>y.2==.cell)=[(x,.cell)])
  (h:∀h' m,h'.Ns s.heap.objs.size m->(∀b u,s.heap.get? b=some u->h'.get? b=some u)->(scope.names.lookup x=some .cell->h'.IsCell (s.heap.objs.size+1) none)->Q (newEnv scope s.heap.objs.size globals (ly scope x s.heap.objs.size++Z) qual none .none (some env) builtinsNs) { s with heap:=h' }) :
  wpAny M A (newFunctionEnv scope globals Z [] qual none .none (some env)) Q E s:=by
 rcases ho with⟨h1,h2⟩|⟨h1,h2⟩
 .refine wpAny_newFunctionEnv (λy J z=>?_) (by intro y J;simp at J) (λh' U Y=>?_) hk
  .have:y∈scope.names.filter λy=>y.2==.cell:=KG.mpr ⟨J,by rw[z];rfl⟩
   rw[h2]at this;cases this
  .have q:=h h' _ U (λb u e=>Y.extBut b u (tr (pd e)) (gk _ e)) λz=>by rw[h1]at z;cases z
   unfold ly at q
   simp_all
 .unfold newFunctionEnv;refine ez (wpAny_alloc (ez (pW h2 ?_)));have hn:=Heap.Ns.new s.heap (.type "dict");have hs:(s.heap.push { cls:=.type "dict",data:=.dict #[] }).objs.size=s.heap.objs.size+1:=KR _ _;have q:=h ((s.heap.push { cls:=.type "dict",data:=.dict #[] }).push { cls:=.type "cell",data:=.cell none }) _ (hn.keeps λb o e=>gk _ e) (λb u e=>gk _ (gk _ e)) λ_=>⟨_,by rw[<- hs];exact r4 _ rfl,rfl⟩
  unfold ly at q;rw[if_pos h1]at q;rw[<- hs]at q;exact ez (gf (gf q))
noncomputable def fQ(js:List Nat)(σ:St):St:=none::js.map λj=>(σ[j]?).join
noncomputable def xP(n:Nat)(js:List Nat)(σ:St):St:=none::(replicate n none++js.map λj=>(σ[j]?).join)
def PF(X:Cx)(ifs:List Expr)(t:TT):Prop:=
 ∀pins s (σ:St) H Q,Inv X pins σ H s->t σ H Q ->
  wpAny (model X.prog X.w) X.A (forIn ifs true λc r=>if r=true then do let ok <- isTrue c X.env (eval c X.env);pure (ForInStep.yield ok)else pure (ForInStep.yield r)) (TP X pins σ Q) X.xe s
noncomputable def J4:TT:=λ_ H Q=>Q true H
def ET :PF X [] J4:=λ_ _ _ H _ I h=>wpAny_tests_nil ⟨H,I,h⟩
def EU(h:PT X c t):PF X [c] t:=λpins s σ H Q I q=>wpAny_tests_one (h pins s σ H Q I q)
section
variable{prog:Program}{w:World}{A:Around}{R:Result->Shared->Prop}{s:Shared}
def xQ{elt target iter:Expr}{ifs:List Expr}{scope:Scope}{pos:Pos}{it U:Value}{env:Env}(J:Nat->Shared->Prop)
  (turn:∀n s,J n s->wpAny (model prog w) A (pyNext it) (λr Z=>match r with
   |none=>R (.ok .next) Z
   |some v=>wpAny (model prog w) A (letOwnedTupleGo target it v) (λ_ s2=>wpAny (model prog w) A (assign target env v) (λ_ s3 =>
     wpAny (model prog w) A (forIn ifs true λc r=>if r=true then do let ok <- isTrue c env (eval c env);pure (ForInStep.yield ok)else pure (ForInStep.yield r)) (λok s4 =>
      if ok=true then wpAny (model prog w) A (eval elt env) (λx s5 =>
       wpAny (model prog w) A (call (.builtin "list.append") [U,x]) (λ_ s6=>∃m,m<n/\J m s6) (λ_ _=>False) s5) (λ_ _=>False) s4
      else ∃m,m<n/\J m s4) (λ_ _=>False) s3) (λ_ _=>False) s2) (λ_ _=>False) Z) (λ_ _=>False) s)
  (n) (h:J n s):codeAny (model prog w) A (.compLoop (.ListComp elt [⟨target,iter,ifs,0⟩] scope pos) 0 it U env) R s:=by
 have Y:∀{α}{t}{Q:α->Shared->Prop}{E}{s},wpAny (model prog w) A t Q (λ_ _=>False) s->wpAny (model prog w) A t Q E s:=λq=>K3 q (λ_ _ z=>z) λ_ _ z=>z.elim
 refine codeAny_loop rfl J (λn s hJ=>?_) n h;show wpAny _ A ((compTurn (.ListComp elt [⟨target,iter,ifs,0⟩] scope pos) 0 it U env).onRaise (λx=>do noteFrame x env;theTreesLotGoes x)) _ _ s;refine wpAny_noted ?_;rw[compTurn_list];refine ez (wpAny_standAt (ez (K3 (Y (turn n s hJ)) (λr Z h1=>?_) λ_ _ z=>z)));cases r with
 |none=>exact gf h1
 |some v =>
  refine ez (K3 (Y h1) (λ_ s2 h2=>?_) λ_ _ z=>z);refine ez (K3 (Y h2) (λ_ s3 h3=>ez (K3 (Y h3) (λok s4 h4=>?_) λ_ _ z=>z)) λ_ _ z=>z);cases ok<;>first|exact gf ⟨rfl,h4⟩|exact ez (ez (K3 (Y h4) (λx s5 h5=>ez (K3 (Y h5) (λ_ s6 h6=>gf (gf ⟨rfl,h6⟩)) λ_ _ z=>z)) λ_ _ z=>z))
end
def sJ(J:It)(U:St)(H1:Hp)(tt:TT)(te:TE)(D:Addr)(Q:VK):Prop:=
 ∃W:Nat->Nat->St->Hp->Prop,(∃m,W 0 m U (upd H1 D (.lst [])))/\∀i m F H',W i m F H' ->
  (J.stop i H'/\Q (.ref D) H')\/(J.go i H'/\∃N:St->Hp->Prop,(∀z H2,N z H2->∃Y,Y<m/\W (i+1) Y z H2)/\∀x H2,J.yld i H' x H2 ->
   tt (F.set 0 (some x)) H2 λb Z=>if b=true then te (F.set 0 (some x)) Z λy H4=>∃ys,H4 D=some (.lst ys)/\ys.length<sizeLine/\N (F.set 0 (some x)) (upd H4 D (.lst (ys++[y])))else N (F.set 0 (some x)) Z)
def zB(J:It)(g:TG)(Y:St)(H1:Hp)(tt:TT)(te:TE)(D:Addr)(Q:VK):Prop:=
 ∃W:Nat->Nat->St->Hp->Prop,(∃m,W 0 m Y (upd H1 D (.lst [])))/\∀i m F H',W i m F H' ->
  (J.stop i H'/\Q (.ref D) H')\/(J.go i H'/\∃N:St->Hp->Prop,(∀U H2,N U H2->∃Z,Z<m/\W (i+1) Z U H2)/\∀x H2,J.yld i H' x H2 ->
   g x F H2 λz H3=>tt z H3 λb H4=>if b=true then te z H4 λy H5=>∃ys,H5 D=some (.lst ys)/\ys.length<sizeLine/\N z (upd H5 D (.lst (ys++[y])))else N z H4)
theorem sJ.g(h:sJ J z H1 tt te D Q):zB J (jD 0) z H1 tt te D Q:=h
noncomputable def zC(wi:TI)(js:List Nat)(tt:TT)(te:TE):TE:=λσ H Q=>wi σ H λJ H1=>∀D,H1 D=none->sJ J (fQ js σ) H1 tt te D Q
section
variable{X:Cx}{elt iter:Expr}{x:Str}{px:Pos}{ifs:List Expr}{scope:Scope}{pos:Pos}{fvs:List Str}{js:List Nat}{wi:TI}{tt:TT}{te:TE}
def uW{ys:List Str}(Z:v_ X.env.scope X.N scope x ys fvs js)(hc:X.calm=true)(hg:∀a0 a3 C fp,PG (X.blk x (ys++fvs) scope a0 a3 C fp) tg g)
  (ht:∀a0 a3 C fp,PF (X.blk x (ys++fvs) scope a0 a3 C fp) ifs tt) (he:∀a0 a3 C fp,PE (X.blk x (ys++fvs) scope a0 a3 C fp) elt te)
  {pins:List (Addr×Obj)}{σ:St}{H2:Hp}{U:Shared}{Q:VK}{it:Addr}{fp:List Addr}{tn:Nat->Heap->Prop}{J:It}{RR:Value->Addr->Result->Shared->Prop}
  (I2:Inv X pins σ H2 U) (T:uE X.prog X.w X.K tg J fp it tn) (dr:tn 0 U.heap) (f2:∀b∈fp,lc X pins H2 b)
  (hh:∀D,H2 D=none->zB J g (xP ys.length js σ) H2 tt te D Q)
  (fin:∀D C H' s',Inv X pins σ H' s'->(∃m,s'.heap.Ns C m)->H' C=none->C≠X.env.locals->X.s₀.heap.objs.size<=C->(∀y c,X.env.cells.lookup y=some c->c≠C)->(∀p∈X.pn++pins,p.1≠C)->Q (.ref D) H' ->
   RR (.ref D) C (.ok .next) s') {E:Value->Shared->Prop} :
  wpAny (model X.prog X.w) X.A (newList []) (λacc s3=>wpAny (model X.prog X.w) X.A (newFunctionEnv scope X.env.globals (gz X.env scope.names []) [] X.env.qual none .none (some X.env)) (λcl s4 =>
   codeAny (model X.prog X.w) X.A (.compStart (.ListComp elt [⟨tg,iter,ifs,0⟩] scope pos) 0 (.ref it) acc { cl with scope:=relabel scope X.env }) (RR acc cl.locals) s4) E s3) E U:=by
 have fr:∀y∈scope.names,y.2=.free->∃c,X.env.cells.lookup y.1=some c:=λy hy hk=>I2.ok.has y.1 (Z.out y hy hk)
 have sub:∀y c,(gz X.env scope.names []).lookup y=some c->X.env.cells.lookup y=some c:=λy c e=>nO scope.names [] fr (λ_ q=>by simp at q) e
 refine La (uV (x:=x) Z.kind Z.once λh1 m1 a6 a7 a8=>?_);dsimp only at a6 a7 a8 ⊢;have Y:Inv X pins σ (upd H2 U.heap.objs.size (.lst [])) { U with heap:=U.heap.push { cls:=.type "list",data:=.seq ([]:List Value).toArray },toks:=U.toks }:=I2.lnew (ys:=[]) (its:=[]) .nil (KI _);generalize hG:U.heap.push { cls:=.type "list",dict:=none,data:=.seq ([]:List Value).toArray }=G at a6 a7 a8 Y ⊢;have hC:G.objs.size=U.heap.objs.size+1:=by rw[<- hG,KR]
 obtain⟨W,⟨m0,w0⟩,turn⟩:=hh U.heap.objs.size I2.fresh;have up:=a7;have aO:∀{y}{c},(ly scope x G.objs.size++gz X.env scope.names []).lookup y=some c->(y=x/\scope.names.lookup x=some .cell/\c=G.objs.size+1)\/(gz X.env scope.names []).lookup y=some c:=λ{y c} e=>by
  unfold ly at e;by_cases q:scope.names.lookup x=some .cell
  .rw[if_pos q]at e;by_cases z:(y==x)=true
   .rw[cons_append,lookup_cons,z]at e;exact .inl ⟨eq_of_beq z,q,(Kw e).symm⟩
   .rw[cons_append,lookup_cons,(M9 _).mp z]at e;exact .inr e
  .rw[if_neg q]at e;exact .inr e
 have gl:∀{H'}{s'},Inv X pins σ H' s'->True:=λ_=>trivial
 have nC:=Y.hok.fresh (g4 _);have cL:=Lr Y.lt;have cS:=Y.sz;have cC:∀y c,X.env.cells.lookup y=some c->c≠G.objs.size:=λy c e z=>by
  obtain⟨v,q⟩:=Y.cell y c e;exact absurd (show c<G.objs.size from q.lt) (by rw[z];exact K5 _)
 have cP:∀p∈X.pn++pins,p.1≠G.objs.size:=λp hp z=>absurd (show p.1<G.objs.size from pd (Y.pin p hp).1) (by rw[z];exact K5 _)
 have c0:∀b∈fp,b<U.heap.objs.size:=λb hb=>by
  obtain⟨o,e,_⟩:=T.obj 0 _ dr b hb;exact pd e
 have ok:(X.blk x (ys++fvs) scope { U with heap:=G,toks:=U.toks } (upd H2 U.heap.objs.size (.lst [])) G.objs.size fp).Ok:=by
  have hb:∀b∈fp,b∉frs X.stack:=λb hb z=>(wh.mp (I2.stkSub b z)).elim (f2 b hb).2.1 (f2 b hb).2.2.1
  exact {
   mod:=Y.ok.mod
   kind:=by show(relabel scope X.env).kind=_;exact Z.kind
   glob:=Y.ok.glob
   blt:=Y.ok.blt
   above:=g4 _
   inj:=λy z c e1 e2=>by
    have lt:∀{y},(gz X.env scope.names []).lookup y=some c->c<G.objs.size:=λ{y} e=>by
     obtain⟨v,q⟩:=Y.cell y c (sub y c e);exact q.lt
    rcases aO e1 with⟨a1,_,a2⟩|a1
    .rcases aO e2 with⟨b1,_,_⟩|b1
     .rw[a1,b1]
     .exact absurd (lt b1) (by rw[a2];exact Lp.mpr (LV _))
    .rcases aO e2 with⟨_,_,b2⟩|b1
     .exact absurd (lt a1) (by rw[b2];exact Lp.mpr (LV _))
     .exact Y.ok.inj y z c (sub y c a1) (sub z c b1)
   has:=λy hy=>by
    show ∃c,(ly scope x G.objs.size++gz X.env scope.names []).lookup y=some c;unfold ly;rcases xN Z.cells hy with hm|⟨e,q⟩
    .obtain⟨c,ec⟩:=kA (env:=X.env) scope.names [] (.inl hm);by_cases q:scope.names.lookup x=some .cell
     .have z:=LP.mpr (Z.xf _ hm rfl);exact⟨c,by rw[if_pos q,cons_append,lookup_cons,z];exact ec⟩
     .exact⟨c,by rw[if_neg q];exact ec⟩
    .subst e;exact⟨G.objs.size+1,by rw[if_pos q,cons_append,lookup_cons,LQ]⟩
   cab:=λy c h e=>by
    obtain⟨h1,h2⟩:=K2 h;have e':(ly scope x G.objs.size++gz X.env scope.names []).lookup y=some c:=e;unfold ly at e';rw[if_pos h2,h1,cons_append,lookup_cons,LQ]at e';rw[<- Kw e'];exact LV _
   hd:=Y.ok.hd
   frames:=Y.ok.frames
   stk:=.inl rfl
   exf:=λb a9=>⟨tr (show b<G.objs.size from Kt (c0 b a9) (by rw[hC];exact LV _)),λy c e=>by
    rcases aO e with⟨_,_,a⟩|a
    .rw[a,hC];exact Lr (Kt (c0 b a9) (pe (LV _) (LV _)))
    .exact(f2 b a9).2.2.2.2.1 y c (sub y c a)⟩
   bs:=Y.bs
   bsz:=pe Y.ok.bsz Y.sz
   noex:=λb o e a9=>by
    have q:=(f2 b a9).2.2.2.1;rcases q with q|q
    .exact Y.ok.noex b o e q
    .exact absurd (Kt (pd e) (pe Y.ok.bsz q)) (K5 _)
   exfs:=hb
   funs:=Y.stack
   frf:=Y.stkFree }
 have d3:(xP ys.length js σ).length=(x::(ys++fvs)).length:=by
  have e:=KN List.length Z.slots;simp only[mx]at e;simp[xP,e]
 have I4:Inv (X.blk x (ys++fvs) scope { U with heap:=G,toks:=U.toks } (upd H2 U.heap.objs.size (.lst [])) G.objs.size fp) [] (xP ys.length js σ) (upd H2 U.heap.objs.size (.lst [])) { U with heap:=h1,toks:=U.toks }:=by
  refine⟨ok,rfl,Y.bare,Un.kept up,⟨_,a6,λi y v e1 e2 e3=>?_⟩,λy c e=>?_,nC,λy c e=>(aO e).elim (λ⟨_,_,a⟩=>by rw[a];exact Y.hok.fresh (LV _)) λa=>Y.freeC y c (sub y c a),λp hp=>by simp[Cx.blk]at hp,Y.hok.kept up,d3⟩
  .cases i with
   |zero=>simp[xP]at e2
   |succ i0 =>
    have c1:(ys++fvs)[i0]?=some y:=e1;have bA:(replicate ys.length none++js.map λj=>(σ[j]?).join)[i0]?=some (some v):=by simpa[xP]using e2
    by_cases b4:i0<ys.length
    .rw[Lz (by simpa using b4),MR,if_pos b4]at bA;cases bA
    rw[L0 (by simpa using Nat.le_of_not_lt b4),length_replicate]at bA;rw[L0 (Nat.le_of_not_lt b4)]at c1;generalize i0-ys.length=i at c1 bA;have ea:=c1;have hm:=L1 ea;have eb:=Z.free y hm;have c2:=jX eb;have bB:=bA;rw[KJ]at bB;cases ej:js[i]? with
    |none=>rw[ej]at bB;cases bB
    |some j =>
     rw[ej]at bB;have b5:(σ[j]?).join=some v:=Kw bB;have e4:σ[j]?=some (some v):=by
      cases q:σ[j]? with
      |none=>rw[q]at b5;cases b5
      |some z=>rw[q]at b5;exact KN some b5
     have e5:X.N[j]?=some y:=by
      have q:=KN (λl=>l[i]?) Z.slots;simp only[KJ,ej,ea,map_some]at q;exact Kw q
     obtain⟨m,hn,hl⟩:=Y.loc;have cr:=Z.out (y,.free) c2 rfl;obtain⟨u,ru,lk⟩:=hl j y v e5 e4 (.inr cr);refine⟨u,ru,.inr ⟨?_,?_⟩⟩
     .show(relabel scope X.env).names.lookup y=_\/(relabel scope X.env).names.lookup y=_;exact xM (osc:=X.env.scope) eb
     .obtain⟨c,ec⟩:=kA (env:=X.env) scope.names [] (.inl c2);have nx:=LP.mpr (Z.xf _ c2 rfl);refine⟨c,?_,?_⟩
      .show(ly scope x G.objs.size++gz X.env scope.names []).lookup y=some c;unfold ly;split
       .rw[cons_append,lookup_cons,nx];exact ec
       .exact ec
      rcases lk with⟨z,_⟩|⟨_,c',eH,q⟩
      .have z':X.env.scope.names.lookup y=some .local:=z;rcases cr with w|w
       .rw[show X.env.scope.names.lookup y=some .cell from w]at z';cases z'
       .rw[show X.env.scope.names.lookup y=some .free from w]at z';cases z'
      .have:=sub y c ec;rw[eH]at this;cases this;obtain⟨o,ho,hd⟩:=q;exact⟨o,up _ _ ho,hd⟩
  .rcases aO e with⟨_,q,a⟩|a
   .exact⟨none,by rw[a];exact a8 q⟩
   .obtain⟨v,o,ho,hd⟩:=Y.cell y c (sub y c a);exact⟨v,o,up _ _ ho,hd⟩
 have ed:=T.keep 0 _ _ dr λb hb o e=>up b o (by rw[<- hG];exact gk _ e)
 have eK:∀b∈fp,(upd H2 U.heap.objs.size (.lst [])) b=none:=λb hb=>by
  rw[bb (tr (c0 b hb))];exact(f2 b hb).1
 have b0:∀{H'},(∀b∈fp,H' b=none)->∀b∈fp,lc (X.blk x (ys++fvs) scope { U with heap:=G,toks:=U.toks } (upd H2 U.heap.objs.size (.lst [])) G.objs.size fp) [] H' b:=λhn b hb =>
  ⟨hn b hb,(ok.exf b hb).1,ok.exfs b hb,.inl hb,(ok.exf b hb).2,λp hp=>by simp[Cx.blk]at hp⟩
 have eL:∀b∈fp,(b∈X.ex\/X.s₀.heap.objs.size<=b)/\b≠X.env.locals/\(∀x c,X.env.cells.lookup x=some c->c≠b)/\∀p∈X.pn++pins,p.1≠b:=λb hb =>
  let ⟨_,q1,_,q2,q3,q4⟩:=f2 b hb;⟨q2,q1,q3,q4⟩
 have cu:∀s5,s5={ U with heap:=h1,toks:=U.toks } ->
   codeAny (model X.prog X.w) X.A (.compLoop (.ListComp elt [⟨tg,iter,ifs,0⟩] scope pos) 0 (.ref it) (.ref U.heap.objs.size) (compEnvC scope (ly scope x G.objs.size++gz X.env scope.names []) G.objs.size X.env)) (RR (.ref U.heap.objs.size) G.objs.size) s5:=by
  rintro s5 rfl;refine xQ (λn s'=>∃i F H',Inv (X.blk x (ys++fvs) scope { U with heap:=G,toks:=U.toks } (upd H2 U.heap.objs.size (.lst [])) G.objs.size fp) [] F H' s'/\tn i s'.heap/\(∀b∈fp,H' b=none)/\W i n F H') ?_ m0 ⟨0,_,_,I4,ed,eK,w0⟩;rintro n s6 ⟨i,cd,H6,I6,ee,ef,w6⟩;rcases turn i n cd H6 w6 with⟨stop,qn⟩|⟨go,N,hN,step⟩
  .refine thn (T.done (X.blk x (ys++fvs) scope { U with heap:=G,toks:=U.toks } (upd H2 U.heap.objs.size (.lst [])) G.objs.size fp) rfl rfl rfl hc i [] s6 cd H6 _ I6 (b0 ef) ee stop) λr s7 ⟨hr,I7⟩=>?_
   subst hr;have I8:=Y.call' (ch:=fp) I7.os I7.base I7.hok I7.bare eL;obtain⟨m,hn,_⟩:=I7.loc;exact fin _ _ H6 s7 I8 ⟨m,hn⟩ I7.free cL cS cC cP qn
  .refine thn (T.item (X.blk x (ys++fvs) scope { U with heap:=G,toks:=U.toks } (upd H2 U.heap.objs.size (.lst [])) G.objs.size fp) rfl rfl rfl hc i [] s6 cd H6 _ I6 (b0 ef) ee go) λr s7 ⟨u,hr,h7⟩=>?_
   subst hr;refine thn h7 λ_ s8 ⟨x8,H8,I8,r8,y8,c3,eZ⟩=>?_
   have e0:=I8.pinned (b0 eZ) (T.obj _ _ c3);refine thn (hg _ _ _ _ _ s8 cd H8 x8 u _ e0 r8 (step x8 H8 y8)) λ_ s9 ⟨c4,H9,I9,q9⟩=>?_
   refine thn (ht _ _ _ _ _ s9 _ H9 _ I9 q9) λe6 e7 ⟨e8,eg,ck⟩=>?_
   have again:∀{a5}{a4},Inv (X.blk x (ys++fvs) scope { U with heap:=G,toks:=U.toks } (upd H2 U.heap.objs.size (.lst [])) G.objs.size fp) ([]++nj fp s8.heap) c4 a4 a5->N c4 a4 ->
     ∃m,m<n/\∃i F H',Inv (X.blk x (ys++fvs) scope { U with heap:=G,toks:=U.toks } (upd H2 U.heap.objs.size (.lst [])) G.objs.size fp) [] F H' a5/\tn i a5.heap/\(∀b∈fp,H' b=none)/\W i m F H':=λ{a5 a4} b3 c5=>by
    obtain⟨m',hm,e9⟩:=hN _ a4 c5;refine⟨m',hm,i+1,_,a4,b3.unpinned,T.keep _ _ _ c3 λb hb o e=>(b3.pin (b,o) (Ld _ (Ld _ (iq hb e)))).1,λb hb=>?_,e9⟩;obtain⟨o,e,d⟩:=T.obj _ _ c3 b hb;exact(b3.pin (b,o) (Ld _ (Ld _ (iq hb e)))).2.1
   cases e6 with
   |false =>
    rw[if_neg (by simp)]at ck ⊢;exact again eg ck
   |true =>
    rw[if_pos rfl]at ck ⊢;refine thn (he _ _ _ _ _ e7 _ e8 _ eg ck) λy a5 ⟨yv,a4,b3,ry,ys,fa,hl,c5⟩=>?_
    refine thn (lj _ a5 _ a4 (.ref U.heap.objs.size) [yv] (.ref U.heap.objs.size) [y] (λ_ eh=>N c4 eh) b3 rfl (.cons ry .nil) ⟨_,ys,yv,rfl,rfl,fa,hl,c5⟩) λ_ hF ⟨_,eh,fe,_,fl⟩=>again fe fl
 exact codeAny_compStart_list (cu _ rfl) (T.self _ 0 _ _ _ ed (cu _ rfl))
def pX(Y:lx X.env.scope X.N scope x fvs js)(hc:X.calm=true)
  (ht:∀z U C fp,PF (X.blk x fvs scope z U C fp) ifs tt) (he:∀z U C fp,PE (X.blk x fvs scope z U C fp) elt te)
  {pins:List (Addr×Obj)}{σ:St}{H2:Hp}{s2:Shared}{Q:VK}{it:Addr}{fp:List Addr}{tn:Nat->Heap->Prop}{J:It}{RR:Value->Addr->Result->Shared->Prop}
  (I2:Inv X pins σ H2 s2) (T:uE X.prog X.w X.K (.Name x px) J fp it tn) (aO:tn 0 s2.heap) (f2:∀b∈fp,lc X pins H2 b)
  (hh:∀D,H2 D=none->sJ J (fQ js σ) H2 tt te D Q)
  (fin:∀(D C:Addr) (H':Hp) (s':Shared),Inv X pins σ H' s'->(∃m,s'.heap.Ns C m)->H' C=none->C≠X.env.locals->X.s₀.heap.objs.size<=C->(∀y c,X.env.cells.lookup y=some c->c≠C)->(∀p∈X.pn++pins,p.1≠C)->Q (.ref D) H' ->
   RR (.ref D) C (.ok .next) s') {E:Value->Shared->Prop} :
  wpAny (model X.prog X.w) X.A (newList []) (λacc s3=>wpAny (model X.prog X.w) X.A (newFunctionEnv scope X.env.globals (gz X.env scope.names []) [] X.env.qual none .none (some X.env)) (λZ s4 =>
   codeAny (model X.prog X.w) X.A (.compStart (.ListComp elt [⟨.Name x px,iter,ifs,0⟩] scope pos) 0 (.ref it) acc { Z with scope:=relabel scope X.env }) (RR acc Z.locals) s4) E s3) E s2:=
 uW (ys:=[]) Y.g hc (λz U C fp=>mN (X:=X.blk x fvs scope z U C fp) (i:=0) (x:=x) (pos:=px) Y.nd rfl (Y.once.elim (λq=>.inl (lookup_relabel_local q.1)) λq=>.inr (xO q.1)) (Y.once.elim (λq=>.inr (lookup_relabel_local q.1)) λq=>.inl (Ky ⟨rfl,q.1⟩))) ht he I2 T aO f2 (λD hD=>(hh D hD).g) fin
def wc(Y:lx X.env.scope X.N scope x fvs js)(hc:X.calm=true)(hi:PI X (.Name x px) iter wi)
  (ht:∀z U C fp,PF (X.blk x fvs scope z U C fp) ifs tt) (he:∀z U C fp,PE (X.blk x fvs scope z U C fp) elt te)
  (hs:∀v,foldedSetIterable iter X.env v=pure v:=by intro _;rfl):PE X (.ListComp elt [⟨.Name x px,iter,ifs,0⟩] scope pos) (zC wi js tt te):=by
 intro pins s σ H Q I h;have fr:∀y∈scope.names,y.2=.free->∃c,X.env.cells.lookup y.1=some c:=λy hy hk=>I.ok.has y.1 (Y.out y hy hk)
 rw[eval_ListComp];refine wpAny_comprehension_free rfl hs (nM fr) Y.kind Y.names (thn (hi pins s σ H _ I h) λv s1 h1=>thn h1 λa4 s2 h2=>?_);refine aB λZq kq=>?_
 obtain⟨it,fp,tn,J,H2,e,I2,T,Z,f2,hh⟩:=h2;subst e;refine kq ?_;refine pX (RR:=λacc C=>compPost _ X.A X.xe none _ acc C) Y hc ht he I2 T Z f2 hh λD C H' s' I' hn nC cL cS cC cP q=>?_
 obtain⟨m,hn⟩:=hn;refine⟨m,hn,λh' sb=>⟨.ref D,H',?_,rfl,q⟩⟩;exact I'.turned (λb o hb e=>(sb.2 b hb).trans e) nC cL (.inr cS) cC cP
def uX{py ao:Pos}(hN:X.N.Nodup)(a0:X.N[i]?=some y)(hy:Loc X.env.scope y)(Z:lx X.env.scope X.N scope x fvs js)(hc:X.calm=true)(hi:PI X (.Name x px) iter wi)
  (ht:∀U Y C fp,PF (X.blk x fvs scope U Y C fp) ifs tt) (he:∀U Y C fp,PE (X.blk x fvs scope U Y C fp) elt te)
  (a2:swapsWith (.ListComp elt [⟨.Name x px,iter,ifs,0⟩] scope pos) (some (.Name y py)) ao.line X.env=pure true:=by rfl)
  (hs:∀v,foldedSetIterable iter X.env v=pure v:=by intro _;rfl) (hf:X.fn y=true\/X.env.scope.names.lookup y=some .local:=by first|exact .inl rfl|exact .inr rfl|assumption) :
  PS X (.Assign [.Name y py] (.ListComp elt [⟨.Name x px,iter,ifs,0⟩] scope pos) ao) (yT (zC wi js tt te) (jD i)):=by
 intro pins s σ H D I h;have fr:∀y∈scope.names,y.2=.free->∃c,X.env.cells.lookup y.1=some c:=λy hy hk=>I.ok.has y.1 (Z.out y hy hk)
 rw[exec_Assign_Name_used _ _ _ _ a2];refine ez (wpAny_standAt (ez ?_));show wpAny _ X.A (do let _ <- comprehension (.ListComp elt [⟨.Name x px,iter,ifs,0⟩] scope pos) scope X.env _ (newList []) false (eval iter X.env) (some (assign (.Name y py) X.env))) _ _ s;refine ez (thn (wpAny_comprehension_free (use:=some (assign (.Name y py) X.env)) (Q:=λ_ s'=>SP X pins D .next s') rfl hs (nM fr) Z.kind Z.names (thn (hi pins s σ H _ I h) λv s1 h1=>thn h1 λb5 s2 h2=>?_)) λ_ s' q=>?_)
 .refine aB λZq kq=>?_
  obtain⟨it,fp,tn,J,H2,e,I2,T,a3,f2,hh⟩:=h2;subst e;refine kq ?_;refine pX (RR:=λacc C=>compPost (model X.prog X.w) X.A X.xe (some (assign (.Name y py) X.env)) (λ_ s'=>SP X pins D .next s') acc C) (Q:=λv H'=>jD i v σ H' D.nx) Z hc ht he I2 T a3 f2 hh λD' C H' s' I' hn nC cL cS cC cP q=>?_
  obtain⟨m,hn⟩:=hn;show wpAny _ _ (assign (.Name y py) X.env (.ref D')) _ _ s';refine wpAny_assign_Name (pJ I' hN a0 hy (v:=.ref D') rfl (λa5 a6 ⟨a,sb,ha⟩=>?_) hf);have ne:C≠a:=by
   rcases ha with z|z
   .rw[z];exact cL
   .exact λw=>cC y a z w.symm
  refine⟨m,hn.sameBut sb ne,λh' a7=>?_⟩;exact⟨_,H',a6.turned (t':=a5.toks) (λb o hb e=>(a7.2 b hb).trans e) nC cL (.inr cS) cC cP,q⟩
 .exact gf (gf q)
end
abbrev uY(K:N0)(H:Hp):List V->List (List Int)->Prop:=Paired λx z=>∃a,x=V.ref a/\SqT K H a (z.map V.int)
theorem uY.len{K:N0}(h:uY K H xs z):xs.length=z.length:=Paired.length h
def ay(h:H p=none)(o):ai H (upd H p o):=λb u q=>by rw[bb (cI q h)];exact q
def ai.seqT{K:N0}(e:ai H H')(h:SqT K H a xs):SqT K H' a xs:=by
 rcases h with(h|⟨o,h⟩)|h
 .exact .inl (.inl (e _ _ h))
 .exact .inl (.inr ⟨o,e _ _ h⟩)
 .exact .inr h
section
variable{X:Cx}{pins:List (Addr×Obj)}{σ:St}{H:Hp}{s:Shared}
def Inv.laidD(I:Inv X pins σ H s)(k:∀b u,s.heap.get? b=some u->h'.get? b=some u)(J:s.heap.objs.size<=a)(new:bM X.prog X.w (upd H a o) h' a o) :
  Inv X pins σ (upd H a o) { s with heap:=h',toks:=t',drawn:=d' }:=
 I.call (g':=s.gens) (d':=d') (t':=t') (ch:=[]) (Un.laid k J (I.hok.fresh J)) (I.hok.laid k J new) I.bare λ_ z=>nomatch z
def Inv.tupInts(I:Inv X pins σ H s)(h:SqT X.K H a (ns.map V.int)):∃its,IsTup s.heap a its.toArray/\IntsAre its ns:=by
 obtain⟨its,r,p,_⟩:=I.tuple h;exact⟨its,p,da r⟩
theorem Inv.tupsAt(I:Inv X pins σ H s):∀{xs}{us}{z},uY X.K H xs z->aI xs us->Paired (λu J=>∃a its,u=Value.ref a/\IsTup s.heap a its/\IntsAre its.toList J) us z
 | _,_,_,.nil,.nil=>.nil
 | _,_,_,.cons ⟨a,U,Y⟩ t,.cons r q=>by
  obtain⟨its,p,hi⟩:=I.tupInts Y;rw[U]at r;exact .cons ⟨a,its.toArray,r,p,by simpa using hi⟩ (I.tupsAt t q)
end
noncomputable def jJ(P:Program)(w:World)(a:Addr)(ks:List Int):HO:=.ext λh=>St.cm P w h a ks
def sK(g:St.cm P w h a ks):bM P w H h a (jJ P w a ks):=by
 obtain⟨o,es,ep,t,ho,r⟩:=id g;exact⟨g,⟨o,ho⟩,λh1 h2 z k=>z.at k⟩
theorem Inv.set(I:Inv X pins σ H s)(h:H a=some (jJ X.prog X.w a ks)):St.cm X.prog X.w s.heap a ks:=
 (show bM X.prog X.w H s.heap a (jJ X.prog X.w a ks)from I.hok a _ h).1
section
variable{X:Cx}
def zD (hc:X.calm=true):bC X (.type "set") (λxs H Q=>∃(p:Addr) (ns:List Int),xs=[.ref p]/\(SqL X.K H p (ns.map V.int)\/SqT X.K H p (ns.map V.int))/\ns.length<=1000/\∀l,H l=none->Q (.ref l) (upd H l (jJ X.prog X.w l (St.dd ns.reverse)))):=by
 intro pins s σ H xs us Q I r h;obtain⟨p,ns,rfl,z,hz,q⟩:=h;obtain⟨u,rfl,Z⟩:=d9 r;cases Z;have Y:=I.ok.hd hc;rcases z with z|z
 .obtain⟨its,J,U,_⟩:=I.list z;have hi:=da J;have hl:=hi.length;refine St.set_list Y U.isList (ns:=ns) (by simpa using hi) (by simp;unfold scanBound;omega) λh' tk g kp=>?_
  exact⟨.ref s.heap.objs.size,_,I.laidD (d':=s.drawn) kp (g4 _) (sK g),rfl,q _ (I.hok.fresh (g4 _))⟩
 .obtain⟨its,J,U,_⟩:=I.tuple z;have hi:=da J;have hl:=hi.length;refine St.xJ Y (show s.heap.IsTuple p its.toArray from U) (ns:=ns) (by simpa using hi) (by simp;unfold scanBound;omega) λh' tk g kp=>?_
  exact⟨.ref s.heap.objs.size,_,I.laidD (d':=s.drawn) kp (g4 _) (sK g),rfl,q _ (I.hok.fresh (g4 _))⟩
end
namespace Srt
def sortI(l:List Int):List Int:=iM dA l
def sortT(l:List (List Int)):List (List Int):=iM fo l
def leT(a b:List Int):Prop:=HT.lexLt b a=false
def sortI_perm(l):(sortI l).Perm l:=fq dA l
def sortT_perm(l):(sortT l).Perm l:=fq fo l
def sortI_len(l):(sortI l).length=l.length:=(sortI_perm l).length_eq
def sortT_len(l):(sortT l).length=l.length:=(sortT_perm l).length_eq
def sortT_rises(l):(sortT l).Pairwise leT:=d_ fo l
def sortI_of_perm(p:a.Perm b):sortI a=sortI b:=pq dA p
def wd{a b:Int}:dA.kle a b ↔ a<=b:=by
 show decide _=false ↔ a<=b
 simp_all
def sortI_rises(l):(sortI l).Pairwise (· <= ·):=(d_ dA l).imp λh=>wd.mp h
def sortI_id{l:List Int}(h:l.Pairwise (· <= ·)):sortI l=l:=zq dA (h.imp λq=>wd.mpr q)
section
variable{P:Program}{w:World}{A:Around}{E:Value->Shared->Prop}{s:Shared}
def sL(z:ns.Perm ks)(hs:ns.Pairwise (· <= ·)):ns=sortI ks:=by
 refine ku dA z (hs.imp λ{a b} h=>?_);show decide _=false
 simp_all
def i3(a3:ks.length<64)
  (Y:∀Q',(∀h' tk d' J z,(∀b o,s.heap.get? b=some o->h'.get? b=some o)->z.Perm ks->IntsAre J z->Q' J { s with heap:=h',toks:=tk,drawn:=d' }) ->
   wpAny (model P w) A.in1 (collect x) Q' E s)
  (h:∀(h1 h':Heap) tk d' out c,(∀b o,s.heap.get? b=some o->h1.get? b=some o)->(∀b o,h1.get? b=some o->h'.get? b=some o)->h'.get? h1.objs.size=some { cls:=.type "list",data:=.seq out.toArray c } ->
   IntsAre out (sortI ks)->Q (.ref h1.objs.size) { s with heap:=h',toks:=tk,drawn:=d' }) :
  wpAny (model P w) A (call (.builtin "sorted") [x]) Q E s:=by
 refine Calls.call_function_entry kind_sorted plain_sorted entry_sorted (args_sorted1 _) ?_;unfold Builtin.«sorted»;refine ez (gf ?_);refine ez (Y _ λh1 tk d1 J z kp hp hi=>?_);have a5:=hi.length;have a6:=hp.length_eq;refine ez (wpAny_newList ?_ (by rw[K4];omega));have U:(h1.push (seqObj "list" J.toArray 0)).get? h1.objs.size=some _:=r4 _ rfl;refine ez (K6 (KW slot_list_sort ⟨_,U,rfl⟩ entry_list_sort (list_sort_tree U hi (by omega) λout a7 Z ao aO=>⟨_,rfl,?_⟩) (args_list_sort _)));obtain⟨c,hc⟩:=sortedHeap_at (out:=out) U;refine gf ⟨_,rfl,h h1 _ tk d1 out.toList c kp (λb o e=>?_) ?_ ?_⟩
 .have hb:=pd e;rw[sortedHeap_old (tr hb) (by rw[KR];exact KZ hb)];exact gk _ e
 .simp_all
 .rw[<- sL (ao.trans hp) aO];exact Z
def nQ{vs:List Value}{z:List (List Int)}{Q:Value->Shared->Prop}(a1:vs.length<64)(hu:A.units+2<cLine)
  (hv:Paired (λu ts=>∃a its,u=Value.ref a/\IsTup s.heap a its/\IntsAre its.toList ts) vs z)
  (ao:∀Q',(∀h',(∀b o,s.heap.get? b=some o->h'.get? b=some o)->Q' vs { s with heap:=h' })->wpAny (model P w) A.in1 (collect x) Q' E s)
  (h:∀(h1 h':Heap) (p:Array Nat) (c:Nat),(∀b o,s.heap.get? b=some o->h1.get? b=some o)->(∀b o,h1.get? b=some o->h'.get? b=some o)->h'.get? h1.objs.size=some { cls:=.type "list",data:=.seq (p.toList.map λi=>vs.getD i Value.none).toArray c } ->
   PB vs.length p->p.toList.map (λi=>z.getD i [])=sortT z->Q (.ref h1.objs.size) { s with heap:=h' }) :
  wpAny (model P w) A (call (.builtin "sorted") [x]) Q E s:=by
 have J:vs.length=z.length:=Paired.length hv;refine Calls.call_function_entry kind_sorted plain_sorted entry_sorted (args_sorted1 _) ?_;unfold Builtin.«sorted»;refine ez (m:=checkCount "sorted" 1 1 _) (gf ?_);refine ez (ao _ λh1 kp=>?_);refine ez (wpAny_newList ?_ (by rw[K4];omega));have U:(h1.push (seqObj "list" vs.toArray 0)).get? h1.objs.size=some (seqObj "list" vs.toArray 0):=r4 _ rfl;have Y:∀(s':Shared),(∀b o,b≠h1.objs.size->(h1.push (seqObj "list" vs.toArray 0)).get? b=some o->s'.heap.get? b=some o)->∀i,i<vs.length->∃a its,vs.getD i Value.none=.ref a/\IsTup s'.heap a its/\IntsAre its.toList (z.getD i []):=λs' k i hi=>by
  have gen:∀{us:List Value}{Z:List (List Int)},Paired (λu ts=>∃a its,u=Value.ref a/\IsTup s.heap a its/\IntsAre its.toList ts) us Z->∀i,i<us.length->∃a its,us.getD i Value.none=.ref a/\IsTup s.heap a its/\IntsAre its.toList (Z.getD i []):=by
   intro us Z hp
   induction hp with
   |nil=>intro i hi;simp at hi
   |cons q _ ih =>
    intro i hi;cases i with
    |zero=>obtain⟨a,its,e,r⟩:=q;exact⟨a,its,by simpa using e,by simpa using r⟩
    |succ i=>obtain⟨a,its,e,r⟩:=ih i (by simpa using hi);exact⟨a,its,by simpa using e,by simpa using r⟩
  obtain⟨a,its,e,⟨o,ho,r⟩,a4⟩:=gen hv i hi;have aO:=kp a o ho;exact⟨a,its,e,⟨o,k a o (tr (pd aO)) (gk _ aO),r⟩,a4⟩
 refine ez (K6 (KW slot_list_sort ⟨_,U,rfl⟩ entry_list_sort (qR (O:=fo) (key:=λi=>z.getD i []) U a1 (λh2 s' Q' k q=>xH h2 (λv hm=>?_) q) (λg a5 s' i j C k hi hj q=>?_) λp hp hr=>⟨_,rfl,?_⟩) (args_list_sort _)))
 .obtain⟨i,hi,e⟩:=getElem_of_mem hm;obtain⟨a,its,e',r1,r2⟩:=Y s' k i hi;exact⟨a,its,_,by rw[<- e',<- e];simp[hi],r1,r2⟩
 .obtain⟨a,its,e,r1,r2⟩:=Y s' k i hi;obtain⟨a',its',e',a9,bA⟩:=Y s' k j hj;rw[e,e'];exact Co a5 r1 a9 r2 bA (show A.units+1+1<cLine from hu) q
 .obtain⟨c,hc⟩:=sortedHeap_at (out:=(p.toList.map λi=>vs.getD i Value.none).toArray) (vs:=vs) U;have bB:PB z.length p:=by rw[<- J];exact hp
  have b0:fU (O:=fo) (λi=>z.getD i []) p z.length:=by rw[<- J];exact hr
  refine gf ⟨_,rfl,h h1 _ p c kp (λb o e=>?_) hc hp (ES (O:=fo) (d:=([]:List Int)) (xs:=z) bB b0)⟩;have hb:b<h1.objs.size:=pd e;rw[sortedHeap_old (tr hb) (by rw[KR];exact KZ hb)];exact gk _ e
end
end Srt
section
variable{X:Cx}
def Inv.keptD(I:Inv X pins σ H s)(k:∀b u,s.heap.get? b=some u->h'.get? b=some u):Inv X pins σ H { s with heap:=h',toks:=t',drawn:=d' }:=
 I.call (g':=s.gens) (d':=d') (t':=t') (ch:=[]) (Un.kept k) (I.hok.kept k) I.bare λ_ z=>nomatch z
def pY:∀{vs}{ns},IntsAre vs ns->aI (ns.map V.int) vs:=lm
def EV(X:Cx):List V->Hp->VK->Prop:=λxs H Q=>∃p ks,xs=[.ref p]/\(SqL X.K H p (ks.map V.int)\/SqT X.K H p (ks.map V.int)\/H p=some (jJ X.prog X.w p ks))/\ks.length<64/\∀l,H l=none->Q (.ref l) (upd H l (.lst ((Srt.sortI ks).map V.int)))
def kB (hc:X.calm=true):bC X (.builtin "sorted") (EV X):=by
 intro pins s σ H xs us Q I r h;obtain⟨p,ks,rfl,z,ao,q⟩:=h;obtain⟨u,rfl,rx⟩:=d9 r;cases rx;have hh:=I.ok.hd hc;refine Srt.i3 (ks:=ks) ao (λQ' J=>?_) λh1 h' tk d' out c k1 k2 e hi=>?_
 .rcases z with z|z|z
  .obtain⟨its,Z,pl,hz⟩:=I.list z;obtain⟨o,ho,U,n,hd⟩:=pl.isList;refine M1 p (.inl rfl) ho U hd (λh' kp=>?_) (by have:=Z.length;simp[pb]<;>omega);exact J h' s.toks s.drawn _ ks kp (.refl _) (by simpa using da Z)
  .obtain⟨its,Z,pl,hz⟩:=I.tuple z;obtain⟨o,ho,U,n,hd⟩:=pl;refine M1 p (.inr rfl) ho U hd (λh' kp=>?_) (by have:=Z.length;simp[pb]<;>omega);exact J h' s.toks s.drawn _ ks kp (.refl _) (by simpa using da Z)
  .exact St.sI (by first|exact hh|simpa using hh) (I.set z) λh' tk d' a0 Y kp hp hi=>J h' tk d' a0 Y kp hp hi
 .have I1:Inv X pins σ H { s with heap:=h1,toks:=tk,drawn:=d' }:=I.keptD k1;have I2:Inv X pins σ (upd H h1.objs.size (.lst ((Srt.sortI ks).map V.int))) { s with heap:=h',toks:=tk,drawn:=d' }:=
   I1.laid k2 (g4 _) (show bM X.prog X.w _ h' _ _ from⟨by rw[mx,Srt.sortI_len,K4];omega,out,c,pY hi,e⟩)
  exact⟨.ref h1.objs.size,_,I2,rfl,q _ (I1.hok.fresh (g4 _))⟩
def EW(X:Cx):List V->Hp->VK->Prop:=λxs H Q=>∃(p:Addr) (vs:List V) (z:List (List Int)),xs=[.ref p]/\(SqL X.K H p vs\/SqT X.K H p vs)/\uY X.K H vs z/\z.length<64 /\
 ∀l (pm:List Nat),H l=none->(∀i∈pm,i<vs.length)->pm.map (λi=>z.getD i [])=Srt.sortT z->Q (.ref l) (upd H l (.lst (pm.map λi=>vs.getD i .non)))
theorem pZ(h:aI vs us):∀(l:List Nat),(∀i∈l,i<vs.length)->aI (l.map λi=>vs.getD i .non) (l.map λi=>us.getD i Value.none)
 | [],_=>.nil
 |i::l,z=>by
  have hi:=z i (.head _);obtain⟨u,U,Y⟩:=h.get (i:=i) (x:=vs[i]) (Kz hi);refine .cons ?_ (pZ h l λj J=>z j (.tail _ J))
  simp_all
def qV (hu:X.A.units+64<cLine):bC X (.builtin "sorted") (EW X):=by
 intro pins s σ H xs us Q I r h;obtain⟨p,vs,a4,rfl,Y,ht,a5,q⟩:=h;obtain⟨u,rfl,rx⟩:=d9 r;cases rx;have key:∀its,aI vs its->vs.length<=sizeLine->(∀Q',(∀h',(∀b o,s.heap.get? b=some o->h'.get? b=some o)->Q' its { s with heap:=h' })->wpAny (model X.prog X.w) X.A.in1 (collect _) Q' X.xe s) ->
   wpAny _ X.A (call _ [.ref p]) (EP X pins σ Q) X.xe s:=λits z hz Z=>by
  have hl:=z.length;have a7:=ht.len;refine Srt.nQ (by omega) (by omega) (I.tupsAt ht z) Z λh1 h' pm c k1 k2 e hp ho=>?_
  have ao:∀i∈pm.toList,i<vs.length:=λi hi=>by
   have:=(MG.mp hp).mem_iff.mp hi
   simp_all
  have I1:=I.kept (t':=s.toks) k1;have I2:Inv X pins σ (upd H h1.objs.size (.lst _)) { s with heap:=h' }:=
   I1.laid k2 (g4 _) (show bM X.prog X.w _ h' _ _ from⟨by have:=hp.size;rw[mx,Array.length_toList,K4];omega,_,c,pZ z _ ao,e⟩)
  exact⟨.ref h1.objs.size,_,I2,rfl,q _ pm.toList (I1.hok.fresh (g4 _)) ao ho⟩
 rcases Y with Y|Y
 .obtain⟨its,z,pl,hz⟩:=I.list Y;obtain⟨o,ho,J,n,hd⟩:=pl.isList;refine key its z hz λQ' U=>M1 p (.inl rfl) ho J hd (λh' kp=>?_) (by have:=z.length;simp[pb]<;>omega)
  have:=U h' kp;simpa using this
 .obtain⟨its,z,pl,hz⟩:=I.tuple Y;obtain⟨o,ho,J,n,hd⟩:=pl;refine key its z hz λQ' U=>M1 p (.inr rfl) ho J hd (λh' kp=>?_) (by have:=z.length;simp[pb]<;>omega)
  have:=U h' kp;simpa using this
end
end L2
namespace L2.St
open PySem PyProof.Rows List Option
structure b9(P:Program)(w:World)(h:Heap)(a:Addr)(ks:List Int)(o:Obj)(es:Array (Int×Value))(ep:Nat)(t:SetTable):Prop where
 ho:h.get? a=some o
 ex:o.ExactSet
 hd:o.data=.set es ep t
 el:ElemsOf (intKind P w) es.toList
 pm:(es.toList.map λe=>numOf e.2).Perm ks
 nd:ks.Nodup
 bd:es.size<scanBound
 fi:t.fits es.size=true
theorem cm.w{w:World}(g:cm P w h a ks):∃o es ep t,b9 P w h a ks o es ep t/\Gd (!byT w) t:=by
 refine aB λZq U=>?_
 obtain⟨o,es,ep,t,ho,z,hd,J,Y,Z,hb,hf,hg⟩:=g;refine U ?_;exact⟨o,es,ep,t,⟨ho,z,hd,J,Y,Z,hb,hf⟩,hg⟩
theorem b9.len(g:b9 P w h a ks o es ep t):es.size=ks.length:=by
 have:=g.pm.length_eq;simpa using this
theorem b9.at(g:b9 P w h a ks o es ep t)(k:∀o,h.get? a=some o->h'.get? a=some o):b9 P w h' a ks o es ep t:=
 ⟨k o g.ho,g.ex,g.hd,g.el,g.pm,g.nd,g.bd,g.fi⟩
section
variable{P:Program}{w:World}{A:Around}{E:Value->Shared->Prop}{s:Shared}
variable{a:Addr}{ks:List Int}{o:Obj}{es:Array (Int×Value)}{ep:Nat}{t:SetTable}
def zE(g:b9 P w s.heap a ks o es ep t)(J:t.led=!byT w){Q:Array (Int×Value)->Shared->Prop}(h:∀z d',z.toList.Perm es.toList->Q z { s with drawn:=d' }):wpAny (model P w) A (setWalk a) Q E s:=by
 unfold setWalk;refine ez (KH g.ho g.hd g.fi ?_);dsimp only;refine ez (dk ?_);cases U:byT w with
 |true =>
  rw[if_pos rfl];refine ez (NQ (gf ?_));exact h _ s.drawn (pU _ _)
 |false =>
  rw[if_neg (by simp)];refine KQ (λ_=>?_) (λ_=>?_)
  .refine ez (jV es.size es.toList s (by simp) λys d' Y=>?_);exact gf (h _ d' (by simpa using Y))
  .refine ez ?_;rw[U]at J;show wpAny _ _ (if (!t.led&&decide _)=true then _ else _) _ _ s;rw[if_neg (by rw[J];simp)];exact gf (gf (h es s.drawn (.refl _)))
def we:∀z,(∀b∈z,∃ks o es ep t,b9 P w s.heap b ks o es ep t)->∀{Q},Q true s->wpAny (model P w) A (setsQuiet z) Q E s:=by
 intro z hs Q hq;unfold setsQuiet;refine ez (wpAny_forIn_list _ (λbW b s'=>(∀c∈bW,c∈z)/\b.1=none/\s'=s) _ ?_ ?_ z _ ⟨λc hc=>hc,rfl,rfl⟩)
 .rintro c bW b s' ⟨hc,hb,rfl⟩;obtain⟨ks,o,es,ep,t,g⟩:=hs c (hc c (.head _));refine ez (Nn g.ho g.hd g.fi ?_);refine ez (Ny _ (λbW b J=>(∀e∈bW,e∈es.toList)/\b.1=none/\J=s') _ ?_ ?_ es _ ⟨λe Y=>Y,rfl,rfl⟩)
  .rintro e Z b' J ⟨Y,U,rfl⟩;obtain⟨t',q⟩:=fh g.el e (Y e (.head _));obtain⟨hx,x⟩:=e;dsimp only at q ⊢;rw[q];exact gf ⟨λe' ao=>Y e' (.tail _ ao),rfl,rfl⟩
  .rintro b' J ⟨_,U,rfl⟩;dsimp only;rw[U];exact gf ⟨λc' aO=>hc c' (.tail _ aO),rfl,rfl⟩
 .rintro b s' ⟨_,hb,rfl⟩;dsimp only;rw[hb];exact gf hq
def zF(g:b9 P w s.heap a ks o es ep t)(U:t.led=!byT w){others:List Addr}(hs:∀b∈others,∃ks o es ep t,b9 P w s.heap b ks o es ep t){Q:Array (Int×Value)->Shared->Prop}
  (h:∀z d',z.toList.Perm es.toList->Q z { s with drawn:=d' }):wpAny (model P w) A (setWalkUnseen a others none) Q E s:=by
 refine ez (KH g.ho g.hd g.fi ?_);dsimp only;refine ez (dk ?_);refine KQ (λ_=>?_) (λ_=>?_)
 .exact zE g U h
 .refine ez (we _ (λb J=>?_) ?_)
  .rcases wh.mp J with rfl|J
   .exact⟨_,_,_,_,_,g⟩
   .exact hs b J
  .simp only[MH,KA];refine ez (L7 ?_);exact gf (h es s.drawn (.refl _))
def zG(g:b9 P w s.heap a ks o es ep t)(hl:t.led=!byT w){others:List Addr}(hs:∀b∈others,∃ks o es ep t,b9 P w s.heap b ks o es ep t){f:Addr}(Y:cm P w s.heap f []){Q:Array (Int×Value)->Shared->Prop}
  (h:∀J d' h',J.toList.Perm es.toList->Heap.SameBut f s.heap h'->cm P w h' f []->Q J { s with drawn:=d',heap:=h' }):wpAny (model P w) A (setWalkUnseen a others (some f)) Q E s:=by
 unfold setWalkUnseen;refine ez (KH g.ho g.hd g.fi ?_);dsimp only;refine ez (dk ?_);refine KQ (λ_=>?_) (λ_=>?_)
 .exact zE g hl λJ d' hp=>h J d' s.heap hp (L3 f s.heap) Y
 .refine ez (we (a::others) (λb Z=>?_) ?_)
  .rcases wh.mp Z with rfl|Z
   .exact⟨_,_,_,_,_,g⟩
   .exact hs b Z
  .simp only[MH,KA,Ls];refine ez (L7 ?_);obtain⟨of,ef,a3,U,z,gd⟩:=Y.w;refine ez (KH z.ho z.hd z.fi ?_);dsimp only;refine KQ (λ_=>?_) (λ_=>?_)
   .have ao:({ U with led:=U.led&&t.led,plain:=U.plain&&t.plain }:SetTable).fits ef.size=true:=z.fi;have aO:Gd (!byT w) ({ U with led:=U.led&&t.led,plain:=U.plain&&t.plain }:SetTable):=⟨by show(U.led&&t.led)=_;rw[gd.led,hl];simp,gd.dum,gd.rise⟩;refine ez (L4 z.ho z.hd ?_ (LM z.bd));have g2:=v7 (P:=P) (w:=w) z.ho z.ex z.hd ⟨z.el,z.pm,z.nd,z.bd,ao,aO⟩;exact gf (h es s.drawn _ (.refl _) (KY _ f _) g2)
   .exact gf (h es s.drawn s.heap (.refl _) (L3 f s.heap) Y)
def zH(g:b9 P w s.heap a ks o es ep t){k:Int}{tk:Tok}{Q:Option Nat->Shared->Prop}(h:Q (es.toList.findIdx? λe=>(intKind P w).is k e.2) s):wpAny (model P w) A (setFind a (.int k tk) (hashInt k)) Q E s:=by
 have z:(intKind P w).is k (.int k tk)=true:=NJ _ _ _ _;have J:(Value.int k tk).scannable=true:=rfl;unfold setFind setFindIn;refine ez (KH g.ho g.hd g.fi ?_);dsimp only;rw[byScan_of J g.bd g.el];simp only[↓reduceIte];refine ez (L7 ?_);refine ez (wpAny_setScan_of (knd:=intKind P w) z g.ho g.hd g.fi g.el ?_);cases U:findIdx? (λe=>(intKind P w).is k e.2) es.toList with
 |some j =>
  rw[U]at h;dsimp only;rw[L9];exact gf h
 |none =>
  rw[U]at h;exact gf h
theorem b9.mem(g:b9 P w s.heap a ks o es ep t) :k∈ks ↔ ∃e∈es.toList,(intKind P w).is k e.2=true:=by
 rw[<- g.pm.mem_iff,mem_map];constructor
 .rintro ⟨e,z,q⟩;exact⟨e,z,(jU g.el z k).mpr q⟩
 .rintro ⟨e,z,q⟩;exact⟨e,z,(jU g.el z k).mp q⟩
def sM(g:b9 P w s.heap a ks o es ep t)(k):(es.toList.findIdx? λe=>(intKind P w).is k e.2).isSome=decide (k∈ks):=by
 rw[Lh,K1,g.mem,findIdx?_isSome,Lv]
end
section
variable{P:Program}{w:World}{A:Around}{E:Value->Shared->Prop}{s:Shared}
def b9.type (g:b9 P w s.heap a ks o es ep t):s.TypeIs (.ref a) "set":=⟨o,g.ho,g.ex.1⟩
def kC (z:s.TypeIs (.ref a) "set") {Q:Bool->Shared->Prop} (h:Q true s):wpAny (model P w) A (Builtin.Frozenset.isAnySet (.ref a)) Q E s:=by
 refine ez (Lw z F.sub_set_set ?_);exact gf h
def sN (z:s.TypeIs (.ref a) "set") {Q:Value->Shared->Prop} (h:Q (.type "set") s):wpAny (model P w) A (Builtin.Frozenset.baseOf a) Q E s:=by
 refine ez (Lw z F.sub_set_set ?_);exact gf h
def gU(g:b9 P w s.heap a ks o es ep t){Q:Nat->Shared->Prop}(h:Q ks.length s):wpAny (model P w) A (Builtin.Frozenset.sizeOf a) Q E s:=by
 refine ez (Nn g.ho g.hd g.fi ?_);rw[<- g.len]at h;exact gf h
def EX{id:String}{a:Addr}{ks:List Int}{o:Obj}{es:Array (Int×Value)}{ep:Nat}{t:SetTable}(g:b9 P w s.heap a ks o es ep t){α:Type}{x:α}{R:α->Shared->Prop}(h:R x s):wpAny (model P w) A (Builtin.Frozenset.unchanged id a ep >>= λ_=>pure x) R E s:=by
 unfold Builtin.Frozenset.unchanged;refine ez (ez (L5 g.ho g.hd g.fi ?_));simp only[Mo,KA,Ls];exact gf (gf h)
def EY{id:String}{a b:Addr}{ks js:List Int}{Q:Value->Shared->Prop}(ga:cm P w s.heap a ks)(gb:cm P w s.heap b js)(b4:¬ ks.length / 4 > js.length)
  (h:∀h' d' J,(∀c o,s.heap.get? c=some o->h'.get? c=some o)->J.Perm (ks.filter λk=>!decide (k∈js))->cm P w h' s.heap.objs.size J->Q (.ref s.heap.objs.size) { s with heap:=h',drawn:=d' }) :
  wpAny (model P w) A (Builtin.Frozenset.difference id a (.ref b)) Q E s:=by
 obtain⟨oa,ea,c4,ta,Z,b5⟩:=ga.w;obtain⟨ob,eb,c5,tb,wb,c6⟩:=gb.w;unfold Builtin.Frozenset.difference;refine ez (kC wb.type ?_);simp only[MH,KA,Ls,Nq,if_true,Builtin.Frozenset.addrOf,pure_bind];refine ez (gU wb ?_);refine ez (gU Z ?_);rw[if_neg b4];refine ez (sN Z.type ?_);refine ez (qT ?_);have keep:∀c o,s.heap.get? c=some o->(s.heap.push (bv w)).get? c=some o:=λc o e=>gk _ e
 have ao:=Z.at (keep a);have cd:=wb.at (keep b);have gn:cm P w (s.heap.push (bv w)) s.heap.objs.size []:=sH _;have ha:=tr (pd Z.ho);have hb:=tr (pd wb.ho);refine ez (gf ?_);refine ez (L5 (s:={ s with heap:=s.heap.push (bv w) }) ao.ho ao.hd ao.fi ?_);refine ez (K6 ?_);refine ez (zG (s:={ s with heap:=s.heap.push (bv w) }) ao b5.led (others:=[b,s.heap.objs.size]) (λc hc=>?_) gn λaO d0 h0 hp cl g0=>?_)
 .rcases wh.mp hc with rfl|hc
  .exact⟨_,_,_,_,_,cd⟩
  .rw[KL.mp hc];obtain⟨_,_,_,_,q,_⟩:=gn.w;exact⟨_,_,_,_,_,q⟩
 have a2:=Z.el.perm hp;have hK:=(hp.map _).trans Z.pm;have a7:=hK.nodup_iff.mpr Z.nd;refine ez (Ny _ (λbW _ s'=>∃dn h' d' J,dn++bW=aO.toList/\s'={ s with heap:=h',drawn:=d' }/\Heap.SameBut s.heap.objs.size (s.heap.push (bv w)) h'/\cm P w h' s.heap.objs.size J/\J.Perm ((dn.map λe:Int×Value=>numOf e.2).filter λk=>!decide (k∈js))) _ ?_ ?_ aO _ ⟨[],h0,d0,[],rfl,rfl,cl,g0,by simp⟩)
 .rintro ⟨hx,x⟩ bW u s' ⟨dn,h',d',J,e1,rfl,sb,gl,pl⟩;have U:(hx,x)∈aO.toList:=by rw[<- e1];simp
  obtain⟨t',q⟩:=fh a2 _ U;obtain⟨⟨k0,cr,a0⟩,_⟩:=a2 _ U;have a4:=(jU a2 U k0).mp cr;dsimp only at q a4 a0;generalize numOf x=k at q a4;subst q a4;have a0:=a0;subst a0;have Y:∀c o,c≠s.heap.objs.size->s.heap.get? c=some o->h'.get? c=some o:=λc o hc e=>(sb.2 c hc).trans (keep c o e)
  have bA:=Z.at λo e=>Y a o ha e
  have bB:=wb.at λo e=>Y b o hb e
  dsimp only;have b0:numOf (Value.int k t')=k:=rfl;have cu:k∉J:=λz=>by
   have:=pl.mem_iff.mp z;have:=(KG.mp this).1;rw[<- e1,KS,uw]at a7;exact(Mw.mp a7).2.2 k this k (by rw[b0];exact .head _) rfl
  refine ez (K6 ?_);refine ez (zH (s:={ s with heap:=h',drawn:=d' }) bB ?_);rw[sM (s:={ s with heap:=h',drawn:=d' }) bB k];by_cases hj:k∈js
  .simp only[hj,decide_true,MH,KA,Ls];refine gf (EX (s:={ s with heap:=h',drawn:=d' }) bA ⟨dn++[(hashInt k,Value.int k t')],h',d',J,by rw[Lf];exact e1,rfl,sb,gl,?_⟩)
   simp_all
  .simp only[hj,decide_false,Bool.not_false,if_true];have a5:J.length+1<scanBound:=by
    have h1:=pl.length_eq;have h2:=MF (λk=>!decide (k∈js)) (dn.map λe:Int×Value=>numOf e.2);rw[mx]at h2;have h3:aO.toList.length<scanBound:=by rw[hp.length_eq,Array.length_toList];exact Z.bd
    rw[<- e1,tf,length_cons]at h3;omega
   refine ez (pS (s:={ s with heap:=h',drawn:=d' }) gl a5 λb1 b' b2 g2=>?_);rw[if_neg cu]at g2;have cL:=bA.at λo e=>(b2.2 a ha).trans e
   refine gf (EX (s:={ s with heap:=b1,drawn:=d' }) cL ⟨dn++[(hashInt k,Value.int k t')],b1,d',k::J,by rw[Lf];exact e1,rfl,sb.trans b2,g2,?_⟩);rw[KS,filter_append];have:filter (λk=>!decide (k∈js)) (map (λe:Int×Value=>numOf e.2) [(hashInt k,Value.int k t')])=[k]:=by simp[b0,hj]
   rw[this];exact(Perm.cons k pl).trans (MB (l₁:=[k]))
 .rintro u s' ⟨dn,h',d',J,e1,rfl,sb,gl,pl⟩;rw[LJ]at e1;subst e1;refine gf (gf (h h' d' J (λc o e=>?_) (pl.trans (hK.filter _)) gl));exact(sb.2 c (tr (pd e))).trans (keep c o e)
end
noncomputable def itL(m:Nat):Nat->Nat->Nat
 |0,i=>i
 |t+1,i=>itL m t ((i*5+1) % (m+1))
theorem mQ(m):∀a b i,itL m (a+b) i=itL m b (itL m a i)
 |0,b,i=>by rw[L9];rfl
 |a+1,b,i=>by rw[Lj];exact mQ m a b _
def gX(m:Nat):Bool:=itL m (m+1) 0==0&&(range (m+1)).all λj=>(range (m+1)).any λt=>itL m t 0==j
theorem wf(h:itL m (m+1) 0=0):∀q r,itL m (q*(m+1)+r) 0=itL m r 0
 |0,r=>by simp
 |q+1,r=>by
  have e:(q+1)*(m+1)+r=(m+1)+(q*(m+1)+r):=by rw[Nat.succ_mul];omega
  rw[e,mQ,h,wf h q r]
def cov{m:Nat}(h:gX m=true){i j:Nat}(hi:i<=m)(Y:j<=m):∃t,t<=m/\itL m t i=j:=by
 unfold gX at h;rw[gQ,Kv,Lm]at h;obtain⟨Z,h1⟩:=h;have z:∀x,x<=m->∃t,t<=m/\itL m t 0=x:=λx hx=>by
  have:=h1 x (Mx.mpr (by omega));rw[Lv]at this;obtain⟨t,ht,e⟩:=this;exact⟨t,by have:=Mx.mp ht;omega,by simpa using e⟩
 obtain⟨a,ha,J⟩:=z i hi;obtain⟨b,hb,U⟩:=z j Y;rcases Nat.lt_or_ge b a with c|c
 .obtain⟨k,rfl⟩:=LO c;refine⟨m-k,MX m k,?_⟩;rw[<- J,<- mQ,show b+k+1+(m-k)=1*(m+1)+b by omega,wf Z,U]
 .refine⟨b-a,pe (MX b a) hb,?_⟩;rw[<- J,<- mQ,Nm c,U]
def DN:gX 7=true:=rfl
def EZ:gX 15=true:=rfl
def E1:gX 31=true:=rfl
def E2:gX 63=true:=by decide +kernel
def Cs:gX 127=true:=by decide +kernel
def Ct:gX 255=true:=by decide +kernel
noncomputable def lp(m:Nat):Nat->Nat×Nat->Nat×Nat
 |0,p=>p
 |t+1,p=>lp m t (SetTable.leap m p.1 p.2)
theorem zI(m):∀a b p,lp m (a+b) p=lp m b (lp m a p)
 |0,b,p=>by rw[L9];rfl
 |a+1,b,p=>by rw[Lj];exact zI m a b _
theorem wg(m):∀t i,lp m t (i,0)=(itL m t i,0)
 |0,_=>rfl
 |t+1,i=>by
  show lp m t (SetTable.leap m i 0)=_;have:SetTable.leap m i 0=((i*5+1) % (m+1),0):=by simp[SetTable.leap]
  rw[this,wg m t]
  rfl
theorem DO(m):∀t p,p.1<=m->(lp m t p).1<=m
 |0,_,h=>h
 |t+1,p,_=>DO m t _ (by
  show(p.1*5+1+p.2 / 32) % (m+1)<=m;have:=NZ (p.1*5+1+p.2 / 32) (show 0<m+1 by omega);omega)
theorem wj(m):∀t p,(lp m t p).2=p.2 / 32 ^ t
 |0,p=>by simp[lp]
 |t+1,p=>by
  show(lp m t (SetTable.leap m p.1 p.2)).2=_;rw[wj m t];show p.2 / 32 / 32 ^ t=_;rw[Nat.div_div_eq_div_mul,Nat.pow_succ,Nat.mul_comm]
theorem p5 :∀z i p,SetTable.layClean.free m ow z i p=none->∀t,t<z->(ow.getD (lp m t (i,p)).1 (some 0)).isNone=false
 |0,_,_,_,t,h=>absurd h (by omega)
 |z+1,i,p,e,t,h=>by
  rw[SetTable.layClean.free]at e;split at e
  .cases e
  .rename_i q;cases t with
   |zero =>
    have:=MI.mp q 0 (Mx.mpr (by unfold SetTable.runEnd;split<;>omega));exact(M9 _).mp this
   |succ t=>exact p5 z _ _ e t (by omega)
theorem p6 :∀z i p k,SetTable.layClean.free m ow z i p=some k->(ow.getD k (some 0)).isNone=true
 |0,_,_,_,e=>by cases e
 |z+1,i,p,k,e=>by
  rw[SetTable.layClean.free]at e;split at e
  .rename_i q;cases e;exact find?_some (p:=λk=>(ow.getD (i+k) (some 0)).isNone) q
  .exact p6 z _ _ k e
def Cu(U:gX m=true)(Y:j<=m)(Z:(ow.getD j (some 0)).isNone=true)(hi:i<=m)(hp:p<2 ^ 64):∃k,SetTable.layClean.free m ow (SetTable.turns m) i p=some k/\(ow.getD k (some 0)).isNone=true:=by
 cases e:SetTable.layClean.free m ow (SetTable.turns m) i p with
 |some k=>exact⟨k,rfl,p6 _ _ _ _ e⟩
 |none =>
  exfalso;have q:=p5 _ _ _ e;obtain⟨t,ht,et⟩:=cov U (DO m 13 (i,p) hi) Y;have z:(lp m 13 (i,p)).2=0:=by
   rw[wj];exact Nat.div_eq_of_lt (Kt hp (by decide))
  have J:lp m 13 (i,p)=((lp m 13 (i,p)).1,0):=by rw[<- z]
  have:=q (13+t) (by unfold SetTable.turns;omega);rw[zI,J,wg,et]at this;rw[Z]at this;cases this
noncomputable def vals(m:Nat)(ow:Array (Option Nat)):List Nat:=(range (m+1)).filterMap λj=>ow.getD j none
theorem zJ{j k:Nat}(h1:g j=none)(h2:g' j=some k)(U:∀x,x≠j->g' x=g x):∀l:List Nat,l.Nodup->j∈l->(l.filterMap g').Perm (k::l.filterMap g)
 | [],_,h=>by cases h
 |x::l,Y,h=>by
  obtain⟨Z,n2⟩:=K7.mp Y;by_cases e:x=j
  .subst e;rw[Np h1,MJ h2];have:∀J:List Nat,x∉J->J.filterMap g'=J.filterMap g:=by
    intro J
    induction J with
    |nil=>intro _;rfl
    |cons y J ih =>
     intro hx;have hy:y≠x:=λz=>hx (z ▸ .head _)
     rw[filterMap_cons,filterMap_cons,U y hy,ih λz=>hx (.tail _ z)]
   rw[this l Z]
  .have hm:=(wh.mp h).resolve_left λz=>e z.symm
   have ih:=zJ h1 h2 U l n2 hm;cases q:g x with
   |none =>
    rw[Np q,Np ((U x e).trans q)];exact ih
   |some v =>
    rw[MJ q,MJ ((U x e).trans q)];exact(Perm.cons v ih).trans (Perm.swap k v _)
theorem zK{g:Nat->Option Nat}:∀l:List Nat,(∀x∈l,g x≠none)->(l.filterMap g).length=l.length
 | [],_=>rfl
 |x::l,h=>by
  cases q:g x with
  |none=>exact absurd q (h x (.head _))
  |some v =>
   rw[MJ q,length_cons,length_cons,zK l λy z=>h y (.tail _ z)]
def zL(hs:ow.size=m+1)(h:(vals m ow).length<=m):∃j,j<=m/\(ow.getD j (some 0)).isNone=true:=by
 cases Classical.em (∃j,j<=m/\ow.getD j none=none)with
 |inl q =>
  obtain⟨j,U,e⟩:=q;refine⟨j,U,?_⟩;have J:j<ow.size:=by omega
  simp[Array.getD,J]at e ⊢;exact e
 |inr q =>
  have:=zK (g:=λj=>ow.getD j none) (range (m+1)) λx hx z=>q ⟨x,by have:=Mx.mp hx;omega,z⟩
  unfold vals at h;rw[this,NR]at h;omega
noncomputable abbrev E3(m:Nat):Option (Array (Option Nat)×Nat)->Int->Option (Array (Option Nat)×Nat):=λacc h=>do
  let (owner,k) <- acc
  let j <- SetTable.layClean.free m owner (SetTable.turns m) (SetTable.bits h % (m+1)) (SetTable.bits h)
  pure (owner.setIfInBounds j (some k),k+1)
def Cv(h):SetTable.bits h<2 ^ 64:=by grind [SetTable.bits]
theorem zM(hg:gX m=true):∀(hs:List Int) ow k,ow.size=m+1->(vals m ow).Perm (range k)->k+hs.length<=m ->
  ∃J,hs.foldl (E3 m) (some (ow,k))=some (J,k+hs.length)/\J.size=m+1/\(vals m J).Perm (range (k+hs.length))
 | [],ow,k,h1,h2,_=>⟨ow,rfl,h1,h2⟩
 |h::hs,ow,k,h1,h2,h3=>by
  refine aB λZq kq=>?_
  rw[length_cons]at h3;have hl:=h2.length_eq;rw[NR]at hl;obtain⟨j0,Y,Z⟩:=zL h1 (by omega);obtain⟨j,ej,hj⟩:=Cu hg (ow:=ow) (i:=SetTable.bits h % (m+1)) (p:=SetTable.bits h) Y Z (by have:=NZ (SetTable.bits h) (show 0<m+1 by omega);omega) (Cv h);have U:j<ow.size:=by
   refine Decidable.byContradiction λz=>?_
   simp[Array.getD,z]at hj
  have e1:E3 m (some (ow,k)) h=some (ow.setIfInBounds j (some k),k+1):=by
   show(Option.bind (SetTable.layClean.free m ow (SetTable.turns m) (SetTable.bits h % (m+1)) (SetTable.bits h)) _)=_;rw[ej]
   rfl
  have hv:(vals m (ow.setIfInBounds j (some k))).Perm (range (k+1)):=by
   refine(zJ (g:=λj=>ow.getD j none) (j:=j) (k:=k) ?_ ?_ ?_ (range (m+1)) nodup_range (Mx.mpr (by omega))).trans ?_
   .simp[Array.getD,U]at hj ⊢;exact hj
   .simp[Array.getD,U]
   .intro x hx;simp only[LX,Array.getElem?_setIfInBounds];rw[if_neg λz=>hx z.symm]
   .rw[range_succ (n:=k)];exact(Perm.cons k h2).trans (MB (l₁:=[k]))
  obtain⟨J,q1,q2,q3⟩:=zM hg hs (ow.setIfInBounds j (some k)) (k+1) (by rw[Array.size_setIfInBounds];exact h1) hv (by omega);refine kq ?_;refine⟨J,?_,q2,?_⟩
  .rw[foldl_cons,e1,q1,length_cons]
   congr 2;omega
  .rw[length_cons]
   grind
def wk(Y:gX m=true){led plain:Bool}(h:hs.size<=m):∃t z,SetTable.laid m f mv led plain hs=some (t,z)/\z.toList.Perm (range hs.size)/\t.place.size=hs.size/\t.mask=m/\t.dummies=#[]:=by
 have Z:(vals m (Array.replicate (m+1) none)).Perm (range 0):=by
  have:vals m (Array.replicate (m+1) none)=[]:=by
   unfold vals
   simp_all
  rw[this];simp
 obtain⟨ow,U,e2,J⟩:=zM Y hs.toList (Array.replicate (m+1) none) 0 (by simp) Z (by simpa using h);rw[L9,Array.length_toList]at U J;have ec:SetTable.layClean m hs=some ow:=by
  unfold SetTable.layClean;rw[<- Array.foldl_toList];show Option.map _ (hs.toList.foldl (E3 m) _)=_;rw[U]
  rfl
 have el:((range (m+1)).filterMap λj=>(ow.getD j none).map (j,·)).map (·.2)=vals m ow:=by
  unfold vals;rw[map_filterMap]
  congr 1
  funext j
  cases ow.getD j none<;>rfl
 refine⟨_,_,by unfold SetTable.laid;rw[ec];rfl,?_,?_,rfl,rfl⟩
 .show(map _ _).Perm _;rw[el];exact J
 .show(map _ _).toArray.size=_;rw[pb,mx];have:=KN List.length el;rw[mx]at this;rw[this,J.length_eq,NR]
def HM:∀n,n<241->(SetTable.sizeAbove n=8\/SetTable.sizeAbove n=16\/SetTable.sizeAbove n=32\/SetTable.sizeAbove n=64\/SetTable.sizeAbove n=128\/SetTable.sizeAbove n=256)/\n<SetTable.sizeAbove n:=by decide +kernel
def wl(h:n<241):gX (SetTable.sizeAbove n-1)=true/\n<=SetTable.sizeAbove n-1/\SetTable.sizeAbove n<=256:=by
 obtain⟨h1,h2⟩:=HM n h;refine⟨?_,by omega,by omega⟩;rcases h1 with e|e|e|e|e|e<;>rw[e]
 .exact DN
 .exact EZ
 .exact E1
 .exact E2
 .exact Cs
 .exact Ct
def nR{es:Array (Int×Value)}{z:Array Nat}(h:z.toList.Perm (range es.size)):(z.filterMap (es[·]?)).toList.Perm es.toList:=by
 rw[Array.toList_filterMap];refine(h.filterMap _).trans ?_;have:=PySem.List.filterMap_getElem?_range_length es.toList
 simp_all
section
variable{P:Program}{w:World}{A:Around}{E:Value->Shared->Prop}{s:Shared}
variable{a:Addr}{ks:List Int}{o:Obj}{es:Array (Int×Value)}{ep:Nat}{t:SetTable}
def mR(g:b9 P w h a ks o es ep t)(J:ElemsOf (intKind P w) z.toList)(U:(z.toList.map λe=>numOf e.2).Perm ks')(Y:ks'.Nodup)(Z:z.size<scanBound)(hf:t'.fits z.size=true) :
  b9 P w (h.update a (Obj.putSet z t')) a ks' { o with data:=.set z (ep+1) t' } z (ep+1) t':=by
 have hq:(h.update a (Obj.putSet z t')).get? a=some { o with data:=.set z (ep+1) t' }:=by
  have:=K8 (Obj.putSet z t') g.ho (by rw[putSet_of z t' g.hd];rfl);rw[putSet_of z t' g.hd]at this;exact this
 exact⟨hq,g.ex,rfl,J,U,Y,Z,hf⟩
def Cw:(256:Nat)<=sizeLine:=by simp_all [K4]
def wm(g:b9 P w s.heap a ks o es ep t){z:Nat}(hw:z<241)(hn:es.size<=z){Q:Unit->Shared->Prop}
  (h:∀h' o' ao aO t',Heap.SameBut a s.heap h'->b9 P w h' a ks o' ao aO t'->t'.dummies=#[]->t'.mask=SetTable.sizeAbove z-1->Q () { s with heap:=h' }):wpAny (model P w) A (setRelay a z) Q E s:=by
 obtain⟨hg,a7,hz⟩:=wl hw;unfold setRelay;refine ez (KH g.ho g.hd g.fi ?_);dsimp only;rw[if_neg (by have:=Cw;omega)];obtain⟨t',J,e1,e2,e3,e4,e5⟩:=wk hg (f:=t.finger) (mv:=t.movedTo (SetTable.sizeAbove z-1)) (led:=t.led) (plain:=t.plain) (hs:=es.map (·.1)) (by rw[MY];omega);have a1:t.relaid (es.map (·.1)) z=some (t',J):=e1;rw[MY]at e2 e3;have hp:=nR e2;have Y:(J.filterMap (es[·]?)).size=es.size:=by rw[<- Array.length_toList,hp.length_eq,Array.length_toList]
 rw[a1];refine ez (Nw (a:=(J.filterMap (es[·]?),t')) ?_ ?_)
 .show(if ((J.filterMap (es[·]?)).size != es.size)=true then _ else _)=_
  simp_all
 .dsimp only;have Z:(J.filterMap (es[·]?)).size<scanBound:=by rw[Y];exact g.bd
  have a3:t'.fits (J.filterMap (es[·]?)).size=true:=by
   have U:t'.fill=es.size:=by unfold SetTable.fill;rw[e5,e3];simp
   simp only[SetTable.fits,U,gQ,Kv,Le];exact⟨by rw[e3,Y],by omega⟩
  refine L4 g.ho g.hd ?_ (LM Z);exact h _ _ _ _ _ (KY _ a _) (mR g (g.el.perm hp) ((hp.map _).trans g.pm) g.nd Z a3) e5 e4
def E4(g:b9 P w s.heap a [] o es ep t)(hd:t.dummies=#[])(Z:t.mask=7){n:Nat}(hn:n<=60){Q:Unit->Shared->Prop}
  (h:∀h' o' J U t',Heap.SameBut a s.heap h'->b9 P w h' a [] o' J U t'->t'.dummies=#[]->gX t'.mask=true->n<=t'.mask->Q () { s with heap:=h' }):wpAny (model P w) A (setRoomFor a n) Q E s:=by
 have hz:es.size=0:=g.len;have Y:t.place.size=0:=by
  have:=g.fi;simp only[SetTable.fits,gQ,Kv]at this;omega
 have z:t.fill=0:=by unfold SetTable.fill;rw[hd,Y];rfl
 unfold setRoomFor;refine ez (KH g.ho g.hd g.fi ?_);have er:t.roomFor n=if (0+n)*5>=7*3 then some ((0+n)*2)else none:=by
  unfold SetTable.roomFor;rw[z,Y,Z]
 dsimp only;rw[er];by_cases c:(0+n)*5>=7*3
 .rw[if_pos c];dsimp only;have hw:(0+n)*2<241:=by omega
  refine wm g hw (by omega) λh' o' J U t' sb g' h1 h2=>?_
  obtain⟨q1,q2,_⟩:=wl hw
  grind
 .rw[if_neg c];exact gf (h s.heap o es ep t (L3 a s.heap) g hd (by rw[Z];exact DN) (by omega))
def E5(g:b9 P w s.heap a ks o es ep t)(h0:0<ks.length)(hn:ks.length<=60){Q:Value->Shared->Prop}
  (h:∀h' o' U Z t',(∀c o,s.heap.get? c=some o->h'.get? c=some o)->b9 P w h' s.heap.objs.size ks o' U Z t'->Q (.ref s.heap.objs.size) { s with heap:=h' }):wpAny (model P w) A (Builtin.Frozenset.copyOf a) Q E s:=by
 have keep:∀c o,s.heap.get? c=some o->(s.heap.push (bv w)).get? c=some o:=λc o e=>gk _ e
 have ha:=tr (pd g.ho);unfold Builtin.Frozenset.copyOf;refine ez (sN g.type ?_);refine ez (qT ?_);simp only[Builtin.Frozenset.addrOf,pure_bind];have g1:b9 P w (s.heap.push (bv w)) s.heap.objs.size [] (bv w) #[] 0 (.fresh 0 0 (!byT w)):=⟨r4 _ rfl,⟨rfl,rfl,rfl⟩,rfl,λe he=>by simp at he,by simp,LN,by decide,by rfl⟩;have a2:(s.heap.objs.size==a)=false:=by simpa using λz=>ha z.symm
 have ga:=g.at (keep a);have a4:es.isEmpty=false:=by
  have:=g.len;rw[Array.isEmpty_eq_false_iff];intro z
  simp_all
 unfold setMerge;rw[a2];simp only[KA,Ls,M5];refine ez (KH (s:={ s with heap:=s.heap.push (bv w) }) ga.ho ga.hd ga.fi ?_);simp only[a4,KA,Ls,M5];refine ez (E4 (s:={ s with heap:=s.heap.push (bv w) }) g1 rfl rfl (n:=es.size) (by have:=g.len;omega) λh' o' U Z t' sb g' hd hm b3=>?_);have fin:∀h' o' U Z t',Heap.SameBut s.heap.objs.size (s.heap.push (bv w)) h'->b9 P w h' s.heap.objs.size ks o' U Z t'->Q (.ref s.heap.objs.size) { s with heap:=h' }:=λh' o' U Z t' sb g' =>
  h h' o' U Z t' (λc o e=>(sb.2 c (tr (pd e))).trans (keep c o e)) g'
 refine ez (KH (s:={ s with heap:=h' }) g'.ho g'.hd g'.fi ?_);have hz:U.size=0:=g'.len;have a5:t'.place.size=0:=by
  have:=g'.fi;simp only[SetTable.fits,gQ,Kv]at this;omega
 have Y:t'.fill=0:=by unfold SetTable.fill;rw[hd,a5];rfl
 have ao:t'.road t=if (t'.mask==t.mask&&t.dummies.isEmpty)=true then .slotForSlot else .clean:=by
  unfold SetTable.road;rw[Y]
  rfl
 dsimp only;rw[ao];by_cases c:(t'.mask==t.mask&&t.dummies.isEmpty)=true
 .rw[if_pos c];dsimp only;refine ez (L4 (s:={ s with heap:=h' }) g'.ho g'.hd ?_ (LM g.bd));refine gf (fin _ _ _ _ _ (sb.trans (KY _ _ _)) (mR g' g.el g.pm g.nd g.bd ?_));exact g.fi
 .rw[if_neg c];dsimp only;refine aB λZq kq=>?_
  obtain⟨t2,J,e1,e2,e3,e4,e5⟩:=wk hm (f:=t'.finger) (mv:=t'.moves) (led:=t'.led&&t.led) (plain:=t'.plain&&t.plain) (hs:=es.map (·.1)) (by rw[MY];have:=g.len;omega);rw[MY]at e2 e3;have hp:=nR e2;have aO:(J.filterMap (es[·]?)).size=es.size:=by rw[<- Array.length_toList,hp.length_eq,Array.length_toList]
  have a0:(J.filterMap (es[·]?)).size<scanBound:=by rw[aO];exact g.bd
  refine kq ?_;rw[e1];simp only[M5];refine ez (Nw (a:=(J.filterMap (es[·]?),t2)) ?_ ?_)
  .show(if ((J.filterMap (es[·]?)).size != es.size)=true then _ else _)=_;rw[if_neg (by rw[aO];simp)]
  .dsimp only;have a8:t2.fits (J.filterMap (es[·]?)).size=true:=by
    have Y:t2.fill=es.size:=by unfold SetTable.fill;rw[e5,e3];simp
    simp only[SetTable.fits,Y,gQ,Kv,Le]
    simp_all
   refine ez (L4 (s:={ s with heap:=h' }) g'.ho g'.hd ?_ (LM a0));exact gf (fin _ _ _ _ _ (sb.trans (KY _ _ _)) (mR g' (g.el.perm hp) ((hp.map _).trans g.pm) g.nd a0 a8))
def eY(xs:Array α)(i):(SetTable.eraseAt xs i).toList=xs.toList.eraseIdx i:=by
 unfold SetTable.eraseAt;rw[Array.toList_append,Array.toList_extract,Array.toList_extract,eraseIdx_eq_take_drop_succ,extract_eq_take_drop,extract_eq_take_drop];simp;exact NF (by simp)
def xR(g:b9 P w s.heap a ks o es ep t){k:Int}{tk:Tok}{Q:Bool->Shared->Prop}
  (h:∀b h' o' a2 a3 t',Heap.SameBut a s.heap h'->b9 P w h' a (ks.filter λx=>!decide (x=k)) o' a2 a3 t'->Q b { s with heap:=h' }):wpAny (model P w) A (setDiscardHashed a (.int k tk) (hashInt k)) Q E s:=by
 unfold setDiscardHashed;refine ez (zH g ?_);cases hr:findIdx? (λe=>(intKind P w).is k e.2) es.toList with
 |none =>
  have hk:k∉ks:=λz=>by
   have:=sM (s:=s) g k;rw[hr]at this;simp[z]at this
  have e:ks.filter (λx=>!decide (x=k))=ks:=LR.mpr λx hx=>by
   have:x≠k:=λz=>hk (z▸hx)
   simpa using this
  have e2:s={ s with heap:=s.heap }:=by cases s;rfl
  rw[e]at h;have:=h false s.heap o es ep t (L3 a s.heap) g;exact gf this
 |some i =>
  obtain⟨hi,a4,_⟩:=findIdx?_eq_some_iff_getElem.mp hr;dsimp only;refine ez (KH g.ho g.hd g.fi ?_);dsimp only;have U:numOf (es.toList[i]).2=k:=(jU g.el (getElem_mem hi) k).mp a4;have a5:=iu (Kz hi);have Y:(SetTable.eraseAt es i).size=es.size-1:=by
   rw[<- Array.length_toList,eY,Mv hi,Array.length_toList]
  have bA:i<es.size:=by simpa using hi
  have Z:(SetTable.eraseAt es i).size<scanBound:=by rw[Y];have:=g.bd;omega
  have J:=g.fi;simp only[SetTable.fits,gQ,Kv,Le]at J;have ao:i<t.place.size:=by omega
  have a6:(t.drop i).fits (SetTable.eraseAt es i).size=true:=by
   have ed:t.drop i={ t with place:=SetTable.eraseAt t.place i,dummies:=SetTable.insertAt t.dummies (SetTable.below t.dummies (t.place[i])) (t.place[i]) }:=by
    unfold SetTable.drop;rw[MO ao]
   rw[ed];have h1:(SetTable.eraseAt t.place i).size=t.place.size-1:=by
    rw[<- Array.length_toList,eY,Mv (by simpa using ao),Array.length_toList]
   have h2:(SetTable.insertAt t.dummies (SetTable.below t.dummies (t.place[i])) (t.place[i])).size<=t.dummies.size+1:=by
    unfold SetTable.insertAt;generalize SetTable.below t.dummies (t.place[i])=p;rw[Array.size_append,Array.size_push,Mf,Mf,NP,Nat.sub_zero];rcases Nat.le_total p t.dummies.size with q|q
    .rw[Mg q,Lj,Nm q];exact g4 _
    .rw[Nat.min_eq_right q,Nat.sub_eq_zero_of_le q];exact g4 _
   have h3:(⟨t.mask,SetTable.eraseAt t.place i,SetTable.insertAt t.dummies (SetTable.below t.dummies (t.place[i])) (t.place[i]),t.finger,t.led,t.moves,t.plain⟩:SetTable).fill<=t.mask:=by
    show(SetTable.eraseAt t.place i).size+(SetTable.insertAt t.dummies (SetTable.below t.dummies (t.place[i])) (t.place[i])).size<=t.mask;have:t.place.size+t.dummies.size<=t.mask:=J.2;omega
   simp only[SetTable.fits,gQ,Kv,Le];exact⟨by rw[h1,Y,J.1],h3⟩
  have aO:ElemsOf (intKind P w) (SetTable.eraseAt es i).toList:=λe he=>g.el e (by rw[eY]at he;exact mem_of_mem_eraseIdx he)
  have a0:((SetTable.eraseAt es i).toList.map λe=>numOf e.2).Perm (ks.filter λx=>!decide (x=k)):=by
   rw[eY];have h1:(k::(es.toList.eraseIdx i).map λe=>numOf e.2).Perm ks:=by
    have:=(a5.map λe=>numOf e.2).trans g.pm;rwa[uw,U]at this
   have h2:=h1.nodup_iff.mpr g.nd;obtain⟨n1,_⟩:=K7.mp h2;have h3:=h1.filter λx=>!decide (x=k)
   rw[Ll (by simp)]at h3;refine Perm.trans (Perm.of_eq ?_) h3;refine(LR.mpr λx hx=>?_).symm;have:x≠k:=λz=>n1 (z▸hx)
   simpa using this
  refine ez (L4 g.ho g.hd ?_ (LM Z));refine ez (wpAny_point ?_);exact gf (h true _ _ _ _ _ (KY _ _ _) (mR g aO a0 (g.nd.filter _) Z a6))
def HN{id:String}{r b:Addr}{js:List Int}{ob:Obj}{eb:Array (Int×Value)}{bA:Nat}{tb:SetTable}(g:b9 P w s.heap r ks o es ep t)(Y:b9 P w s.heap b js ob eb bA tb)(hl:tb.led=!byT w)(a2:b≠r)(bB:¬ js.length / 8 > ks.length)(hn:ks.length<=60){Q:Unit->Shared->Prop}
  (h:∀h' d' o' z J t' ls,Heap.SameBut r s.heap h'->b9 P w h' r ls o' z J t'->ls=(ks.filter λk=>!decide (k∈js))->Q () { s with heap:=h',drawn:=d' }):wpAny (model P w) A (Builtin.Frozenset.differenceUpdate id r (.ref b)) Q E s:=by
 unfold Builtin.Frozenset.differenceUpdate;have b0:(Value.ref b==Value.ref r)=false:=by
  simpa using a2
 rw[b0];simp only[KA,Ls];refine ez (kC Y.type ?_);simp only[if_true,Builtin.Frozenset.addrOf,pure_bind];refine ez (gU Y ?_);refine ez (gU g ?_);rw[if_neg bB];refine ez (L5 Y.ho Y.hd Y.fi ?_);refine ez (K6 ?_);refine ez (zF Y hl (others:=[r]) (λc hc=>?_) λZ d0 hp=>?_)
 .rw[KL.mp hc];exact⟨_,_,_,_,_,g⟩
 have a3:=Y.el.perm hp;have hK:=(hp.map _).trans Y.pm;refine ez (Ny _ (λbW _ s'=>∃dn h' d' o' z J t',dn++bW=Z.toList/\s'={ s with heap:=h',drawn:=d' }/\Heap.SameBut r s.heap h'/\b9 P w h' r (ks.filter λk=>!decide (k∈dn.map λe:Int×Value=>numOf e.2)) o' z J t') _ ?_ ?_ Z _ ⟨[],s.heap,d0,o,es,ep,t,rfl,rfl,L3 r s.heap,by
  have:ks.filter (λk=>!decide (k∈([]:List (Int×Value)).map λe=>numOf e.2))=ks:=LR.mpr λx _=>by simp
  rw[this];exact g⟩)
 .rintro ⟨hx,x⟩ bW u s' ⟨dn,h',d',o',z,J,t',e1,rfl,sb,gl⟩;have U:(hx,x)∈Z.toList:=by rw[<- e1];simp
  obtain⟨a4,q⟩:=fh a3 _ U;obtain⟨⟨k0,b1,aO⟩,_⟩:=a3 _ U;have a5:=(jU a3 U k0).mp b1;dsimp only at q a5 aO;generalize numOf x=k at q a5;subst q a5;have aO:=aO;subst aO;dsimp only;refine ez (K6 (xR (s:={ s with heap:=h',drawn:=d' }) gl λb' h2 o2 a6 a7 t2 a0 g2=>?_));have b5:=Y.at λo e=>(a0.2 b a2).trans ((sb.2 b a2).trans e)
  refine EX (s:={ s with heap:=h2,drawn:=d' }) b5 ⟨dn++[(hashInt k,Value.int k a4)],h2,d',o2,a6,a7,t2,by rw[Lf];exact e1,rfl,sb.trans a0,?_⟩;have:(ks.filter λx=>!decide (x∈(dn++[(hashInt k,Value.int k a4)]).map λe:Int×Value=>numOf e.2))=(ks.filter λk=>!decide (k∈dn.map λe:Int×Value=>numOf e.2)).filter λx=>!decide (x=k):=by
   rw[List.filter_filter]
   congr 1
   funext x
   have cd:numOf (Value.int k a4)=k:=rfl;rw[KS,uw,map_nil,cd];by_cases h1:x=k<;>by_cases h2:x∈dn.map (λe:Int×Value=>numOf e.2)<;>simp[h1,h2]
  rw[this];exact g2
 .rintro u s' ⟨dn,h',d',o',z,J,t',e1,rfl,sb,gl⟩;rw[LJ]at e1;subst e1;have e3:(ks.filter λk=>!decide (k∈Z.toList.map λe:Int×Value=>numOf e.2))=ks.filter λk=>!decide (k∈js):=by
   congr 1
   funext k
   congr 1
   rw[NS];exact hK.mem_iff
  rw[e3]at gl;refine gf ?_;unfold setTidy;refine ez (KH (s:={ s with heap:=h',drawn:=d' }) gl.ho gl.hd gl.fi ?_);dsimp only;refine KQ (λ_=>?_) (λ_=>?_)
  .have c2:z.size<=60:=by
    rw[gl.len];exact pe (MF _ _) hn
   have ck:SetTable.grown z.size=z.size*4:=by unfold SetTable.grown;rw[if_neg (by omega)]
   rw[ck];exact wm (s:={ s with heap:=h',drawn:=d' }) gl (by omega) (by omega) λh2 o2 a6 a7 t2 a0 g2 _ _=>h h2 d' o2 a6 a7 t2 _ (sb.trans a0) g2 rfl
  .exact gf (h h' d' o' z J t' _ sb gl rfl)
def E6{id:String}{b:Addr}{js:List Int}{Q:Value->Shared->Prop}(ga:cm P w s.heap a ks)(gb:cm P w s.heap b js)(U:ks.length / 4 > js.length)(hn:ks.length<=60)
  (h:∀h' d' z o' Y Z t',(∀c o,s.heap.get? c=some o->h'.get? c=some o)->z.length=(ks.filter λk=>!decide (k∈js)).length->b9 P w h' s.heap.objs.size z o' Y Z t'->Q (.ref s.heap.objs.size) { s with heap:=h',drawn:=d' }) :
  wpAny (model P w) A (Builtin.Frozenset.difference id a (.ref b)) Q E s:=by
 obtain⟨oa,ea,a8,ta,wa,a9⟩:=ga.w;obtain⟨ob,eb,bA,tb,J,ao⟩:=gb.w;have hb:=tr (pd J.ho);unfold Builtin.Frozenset.difference;refine ez (kC J.type ?_);simp[KA,Nq,Builtin.Frozenset.addrOf,pure_bind];refine ez (gU J ?_);refine ez (gU wa ?_);rw[if_pos U];refine ez (L7 ?_);refine ez (E5 wa (by omega) hn λh1 o1 b0 b1 t1 k1 g1=>?_);refine ez (gf ?_);have aO:=J.at (k1 b);refine ez (K6 (HN (s:={ s with heap:=h1 }) g1 aO ao.led hb (by omega) hn λh2 d2 o2 a0 a1 t2 z a2 g2 e2=>?_));exact gf (h h2 d2 z o2 a0 a1 t2 (λc o e=>(a2.2 c (tr (pd e))).trans (k1 c o e)) (by rw[e2]) g2)
def zN{id:String}{b:Addr}{js:List Int}{Q:Value->Shared->Prop}(Y:cm P w s.heap a ks)(Z:cm P w s.heap b js)(hn:ks.length<=60)
  (h:∀h' d' U o' z J t',(∀c o,s.heap.get? c=some o->h'.get? c=some o)->U.length=(ks.filter λk=>!decide (k∈js)).length->b9 P w h' s.heap.objs.size U o' z J t'->Q (.ref s.heap.objs.size) { s with heap:=h',drawn:=d' }) :
  wpAny (model P w) A (Builtin.Frozenset.difference id a (.ref b)) Q E s:=by
 by_cases c:ks.length / 4 > js.length
 .exact E6 Y Z c hn h
 .refine EY Y Z c λh' d' U k p g=>?_
  obtain⟨o',z,J,t',g',_⟩:=g.w;exact h h' d' U o' z J t' k p.length_eq g'
end
def pE:entryFor table "set.__sub__"=some Builtin.«frozenset.__sub__»:=
 entryFor_alias (id':="frozenset.__sub__") (by kernel_rfl) (by first|rfl|decide +kernel|(unfold String.splitOn;simp +decide [String.splitOnAux])) (by decide +kernel) (by kernel_rfl)
section
variable{P:Program}{w:World}{A:Around}{E:Value->Shared->Prop}{s:Shared}
def zO{ks js:List Int}{Q:Value->Shared->Prop}(Z:cm P w s.heap a ks)(gb:cm P w s.heap b js)(hn:ks.length<=60)
  (h:∀h' d' U o' z J t',(∀c o,s.heap.get? c=some o->h'.get? c=some o)->U.length=(ks.filter λk=>!decide (k∈js)).length->b9 P w h' s.heap.objs.size U o' z J t'->Q (.ref s.heap.objs.size) { s with heap:=h',drawn:=d' }) :
  wpAny (model P w) A (binaryOp .Sub (.ref a) (.ref b)) Q E s:=by
 obtain⟨oa,ea,a1,ta,Y,a2⟩:=Z.w;obtain⟨ob,eb,a3,tb,wb,a4⟩:=gb.w;refine wpAny_binaryOp_same Y.type wb.type F.fills_set_sub F.slot_set_sub ?_;refine KW F.slot_set_sub Y.type pE ?_ (F.args_set_sub_2 _ _);show wpAny _ _ (do
  let (self,other) <- Builtin.Frozenset.slot1 "__sub__" ⟨[.ref a,.ref b],[]⟩
  let (l,r):=if false then(other,self)else(self,other)
  if !(<- Builtin.Frozenset.isAnySet l <&&> Builtin.Frozenset.isAnySet r)then rule s!"frozenset.{"__sub__"}.declined";return <- ret .notImplemented
  ret (<- Builtin.Frozenset.difference s!"frozenset.{"__sub__"}" _ r)) _ _ s
 refine ez (Nw (a:=_) rfl ?_);refine ez (ez (kC Y.type ?_));refine kC wb.type ?_;refine ez (zN Z gb hn λh' d' U o' z J t' k hl g=>?_);exact gf ⟨_,rfl,by simp,h h' d' U o' z J t' k hl g⟩
end
end L2.St
namespace L2
open PySem PySem.Spec PyProof.Rows List Option
noncomputable def uZ(P:Program)(w:World)(a:Addr)(n:Nat):HO:=.ext λh=>∃ks o es ep t,St.b9 P w h a ks o es ep t/\ks.length=n
def xS(g:St.b9 P w h a ks o es ep t)(e:ks.length=n):bM P w H h a (uZ P w a n):=
 ⟨⟨ks,o,es,ep,t,g,e⟩,⟨o,g.ho⟩,λh1 h2 ⟨ks,o,es,ep,t,g,e⟩ k=>⟨ks,o,es,ep,t,g.at k,e⟩⟩
section
variable{X:Cx}
def xT:OpR X (binaryOp .Sub) (λx y H Q=>∃a b ks js,x=.ref a/\y=.ref b/\H a=some (jJ X.prog X.w a ks)/\H b=some (jJ X.prog X.w b js)/\ks.length<=60/\∀p,H p=none->Q (.ref p) (upd H p (uZ X.prog X.w p (ks.filter λk=>!decide (k∈js)).length))):=by
 intro pins s σ H x y v u Q I z J h;obtain⟨a,b,ks,js,rfl,rfl,U,Y,Z,q⟩:=h;cases z;cases J;refine St.zO (I.set U) (I.set Y) Z λh' d' ls o' ao aO t' kp hl g=>?_
 exact⟨.ref s.heap.objs.size,_,I.laidD kp (g4 _) (xS g hl),rfl,q _ (I.hok.fresh (g4 _))⟩
def sO:bC X (.builtin "len") (λxs H Q=>∃a n,xs=[.ref a]/\H a=some (uZ X.prog X.w a n)/\Q (.int n) H):=by
 intro pins s σ H xs us Q I r h;refine aB λZq z=>?_
 obtain⟨a,n,rfl,e,q⟩:=h;obtain⟨u,rfl,J⟩:=d9 r;cases J;obtain⟨ks,o,es,ep,t,g,U⟩:=(show bM X.prog X.w H s.heap a _ from I.hok a _ e).1;have Y:=g.len;have hb:=g.bd;have Z:scanBound=4096:=rfl;refine z ?_;refine call_len_set g.ho g.ex g.hd g.fi (by omega) ⟨.int n,H,I.tok _,⟨s.toks+1,?_⟩,q⟩;rw[Y,U]
def qW:bC X (.builtin "len") (λxs H Q=>∃a ks,xs=[.ref a]/\H a=some (jJ X.prog X.w a ks)/\Q (.int ks.length) H):=by
 intro pins s σ H xs us Q I r h;obtain⟨a,ks,rfl,e,q⟩:=h;obtain⟨u,rfl,z⟩:=d9 r;cases z;obtain⟨o,es,ep,t,g,_⟩:=(I.set e).w;have U:=g.bd;have J:scanBound=4096:=rfl;refine call_len_set g.ho g.ex g.hd g.fi (by omega) ⟨.int ks.length,H,I.tok _,⟨s.toks+1,?_⟩,q⟩;rw[g.len]
end
end L2
namespace L2.En
open PySem PyProof.Rows List Option
open AutoSeq1 (wpAny_loadPart')
section
variable{P:Program}{w:World}{A:Around}{E:Value->Shared->Prop}{s:Shared}
def u0(J:s.heap.IsTupleIter it t i)
  (h:wpAny (model P w) A.in1 (Builtin.«tuple_iterator.__next__» ⟨[.ref it],[]⟩) (λfin s'=>∃v,fin=.done (.ret v)/\Q v s') E s):wpAny (model P w) A (Builtin.SmallTypes.nextOf (.ref it)) Q E s:=by
 refine ez (Lc J.typeIs F.slot_tuple_iterator_next ?_);refine KW F.slot_tuple_iterator_next J.typeIs F.entry_tuple_iterator_next ?_ (F.args_tuple_iterator_next_1 _);refine K3 h (λfin s' hv=>?_) λ_ _ z=>z
 obtain⟨v,rfl,q⟩:=hv;exact⟨v,rfl,gf q⟩
def HP (z:A.handled=none) (h:∀h' e,(∀b o,s.heap.get? b=some o->h'.get? b=some o)->(∃o,h'.get? e=some o/\o.cls=.type "StopIteration")->E (.ref e) { s with heap:=h' }) :
  wpAny (model P w) A (Builtin.SmallTypes.stopIteration:Sem α) Q E s:=by
 wp_walk
 exact wpAny_raiseNew_none z (h _ _ (λb o q=>gk _ (gk _ q)) ⟨_,r4 _ rfl,rfl⟩)
def p7(U:A.handled=none)(z:s.heap.IsTupleIter it t i)(Y:s.heap.IsTuple t items)
  (Z:∀x h',items[i]?=some x->h'.IsTupleIter it t (i+1)->Heap.SameBut it s.heap h'->Q x { s with heap:=h' })
  (hE:∀h' e,items[i]?=none->Heap.ExtBut it s.heap h'->(∃o,h'.get? e=some o/\o.cls=.type "StopIteration")->E (.ref e) { s with heap:=h' }):wpAny (model P w) A (Builtin.SmallTypes.nextOf (.ref it)) Q E s:=by
 refine u0 z ?_;refine aB λZq kq=>?_
 obtain⟨⟨c1,d1,t1,l1⟩,h1,e1,e2⟩:=z;obtain⟨⟨c2,d2,t2,l2⟩,h2,e3,n2,e4⟩:=Y;cases e1;cases e2;cases e3;cases e4;obtain⟨J,g,d,tk,os⟩:=s;refine kq ?_
 wp_walk using wpAny_loadPart' h1,wpAny_loadPart' h2
 have self:∀k v,(J.update it (Obj.mapFields (·.setIfInBounds k v))).get? it=some { cls:=.type "tuple_iterator",dict:=d1,data:=.fields _,slots:=l1 }:=λk v=>K8 _ h1 rfl
 rw[Int.toNat_natCast];cases hx:items[i]? with
 |some x =>
  refine ez (wpAny_setField h1 rfl (by simp) (gf ⟨x,rfl,Z x _ hx ⟨_,self 1 _,rfl,?_⟩ (KY ..)⟩));simp[rawInt]
 |none =>
  refine ez (L7 (ez (wpAny_setField h1 rfl (by simp) (HP (by simpa using U) λh' e k st=>?_))));exact hE h' e hx (λb o hb q=>k b o ((KY J it _).extBut b o hb q)) st
def draws(U:A.handled=none)(it t)(z:t≠it)(items):Draws P w A it [it,t] items.size (λi v=>items[i]?=some v) (λi h=>h.IsTupleIter it t i/\h.IsTuple t items) where
 live:=λ_ _ ⟨⟨o,ho,_⟩,_⟩=>⟨o,ho⟩
 frame:=λi h h' ⟨⟨o,ho,r⟩,⟨Y,J,r2⟩⟩ k=>⟨⟨o,k it (.head _) o ho,r⟩,⟨Y,k t (.tail _ (.head _)) Y J,r2⟩⟩
 item:=λi s Q E hi ⟨h1,h2⟩ hQ=>p7 U h1 h2 (λx h' hx h3 Z=>hQ x h' s.toks hx ⟨h3,h2.extBut Z.extBut z⟩ Z) λh' e hx _ _=>absurd hx (by simp;omega)
 done:=λs Q E ⟨h1,h2⟩ hE=>p7 U h1 h2 (λx h' hx _ _=>absurd hx (by simp)) λh' e _ eb st=>hE h' e eb st
def zP{Q:Bool->Shared->Prop}(h:∀c,Q c s):wpAny (model P w) A (pure b) Q E s:=gf (h b)
def Cy(l)(items)(n)(z)(J) :
  Meets (Builtin.«enumerate.__new__» ⟨[.type "enumerate",.ref l],[]⟩) (λ_ R s=>s.heap.get? l=some { cls:=.type "tuple",dict:=z,data:=.seq items n,slots:=J } /\
   R (.ok (.ret (.ref (s.heap.push { cls:=.type "tuple_iterator",data:=.fields #[.ref l,.int 0 0] }).objs.size)))
    { s with heap:=(s.heap.push { cls:=.type "tuple_iterator",data:=.fields #[.ref l,.int 0 0] }).push { cls:=.type "enumerate",data:=.fields #[.none,.bool false,.ref s.heap.objs.size,rawInt 0,.none,.none] } }):=by
 refine .of_wp λP w A R s h=>?_
 have tl:Heap.IsTuple _ l items:=⟨_,h.1,rfl,n,rfl⟩;have U:=sub_enumerate
 wp_walk using wpAny_loadPart' h.1
 apply wpAny_stack_any;intro st;refine zP λc=>?_
 cases c
 .wp_walk using wpAny_pyIter_tuple tl
  exact⟨_,rfl,h.2⟩
 .wp_walk using wpAny_pyIter_tuple tl
  exact⟨_,rfl,h.2⟩
def call_tup(Z:s.heap.IsTuple l items)
  (h:∀h',IsEnum h' (s.heap.objs.size+1) s.heap.objs.size 0 .none->h'.IsTupleIter s.heap.objs.size l 0->h'.objs.size=s.heap.objs.size+2 ->
   (∀b o,s.heap.get? b=some o->h'.get? b=some o)->Q (.ref (s.heap.objs.size+1)) { s with heap:=h' }):wpAny (model P w) A (call (.type "enumerate") [.ref l]) Q E s:=by
 obtain⟨⟨c,J,dt,sl⟩,hl,hc,n,hd⟩:=Z;cases hc;cases hd;have made:=Cy l items n J sl;refine callType_new F.called_enumerate (by decide) (F.typeCall_enumerate_1 _) (F.newCall_enumerate_1 _) (λv=>F.args_object_init_2 v _) F.entry_enumerate_new made ⟨hl,?_⟩;generalize hi:({ cls:=.type "tuple_iterator",data:=.fields #[.ref l,.int 0 0] }:Obj)=io;generalize ho:({ cls:=.type "enumerate",data:=.fields #[.none,.bool false,.ref s.heap.objs.size,rawInt 0,.none,.none] }:Obj)=U;have z:(s.heap.push io).objs.size=s.heap.objs.size+1:=KR ..;have Y:((s.heap.push io).push U).get? (s.heap.objs.size+1)=some U:=by
  rw[<- z];exact r4 _ (by rw[<- ho];rfl)
 have g2:((s.heap.push io).push U).get? s.heap.objs.size=some io:=gk _ (r4 _ (by rw[<- hi];rfl));rw[z];refine⟨⟨_,Y,by rw[<- ho]⟩,h _ (by rw[<- ho]at Y;rw[<- ho];exact Y) ⟨_,g2,by rw[<- hi],by rw[<- hi];rfl⟩ (by rw[KR,z]) λb o q=>gk _ (gk _ q)⟩
end
end L2.En
namespace L2.Dv
open PySem PyProof.Rows List Option
open AutoSeq1 (wpAny_loadPart')
section
variable{P:Program}{w:World}{A:Around}{E:Value->Shared->Prop}{s:Shared}
def Ents(h:Heap)(d:Addr)(es:Array DictEntry)(ep:Nat):Prop:=∃o,h.get? d=some o/\o.ExactDict/\o.data=.dict es ep
theorem Ents.at(x:Ents h d es ep)(k:∀o,h.get? d=some o->h'.get? d=some o):Ents h' d es ep:=by
 obtain⟨o,ho,r⟩:=x;exact⟨o,k o ho,r⟩
theorem Ents.type (x:Ents s.heap d es ep):s.TypeIs (.ref d) "dict":=by
 obtain⟨o,ho,r,_⟩:=x;exact⟨o,ho,r.1⟩
def values_of(hd:(d==sysModules)=false)(x:Ents s.heap d es ep)
  (h:Q (.ref s.heap.objs.size) { s with heap:=s.heap.push { cls:=.type "dict_values",data:=.fields #[.ref d] } }):wpAny (model P w) A (call (.builtin "dict.values") [.ref d]) Q E s:=by
 refine KW F.slot_dict_values x.type F.entry_dict_values ?_ (F.args_dict_values_1 _);refine aB λY z=>?_
 obtain⟨⟨Z,d1,t1,l1⟩,h1,hx,J⟩:=x;have U:=hx.1;cases U;cases J;refine z ?_
 wp_walk using wpAny_loadPart' h1
 exact⟨_,rfl,h⟩
def Cz(hv:s.heap.IsValuesView v d)(x:Ents s.heap d es ep)
  (h:Q (.ref s.heap.objs.size) { s with heap:=s.heap.push { cls:=.type "dict_valueiterator",data:=.fields #[.ref d,.int 0 0,.int es.size 0,.int ep 0] } }):wpAny (model P w) A (pyIter (.ref v)) Q E s:=by
 refine NG hv.typeIs F.slot_dict_values_iter (KW F.slot_dict_values_iter hv.typeIs F.entry_dict_values_iter ?_ (F.args_dict_values_iter_1 _));refine aB λZq z=>?_
 obtain⟨⟨c1,d1,t1,l1⟩,h1,hx,J⟩:=x;have U:=hx.1;cases U;cases J;obtain⟨⟨c3,d3,t3,l3⟩,Y,Z,e4⟩:=hv;cases Z;cases e4;refine z ?_
 wp_walk using wpAny_loadPart' h1,wpAny_loadPart' Y
 exact⟨_,rfl,_,_,⟨_,r4 _ rfl,rfl⟩,Mh.lookup,h⟩
def wn{ep:Nat}{Q:Option Value->Shared->Prop}(Z:A.handled=none)(hv:s.heap.IsValIter it d i es.size ep)(x:Ents s.heap d es ep)
  (h1:∀e h',es[i]?=some e->h'.IsValIter it d (i+1) es.size ep->Heap.SameBut it s.heap h'->Q (some e.val) { s with heap:=h' })
  (h2:∀h',es[i]?=none->Heap.ExtBut it s.heap h'->Q none { s with heap:=h' }):wpAny (model P w) A (pyNext (.ref it)) Q E s:=by
 have ty:=hv.typeIs;obtain⟨⟨c1,d1,t1,l1⟩,g1,hx,e2⟩:=x;have e1:=hx.1;cases e1;cases e2;obtain⟨⟨c3,d3,t3,l3⟩,J,e3,e4⟩:=hv;cases e3;cases e4;obtain⟨U,g,dr,tk,os⟩:=s;unfold pyNext;refine ez (M7 (Lc (name:=Str.ofString "__next__") ty Mh (KW Mh ty F.entry_dict_valueiterator_next ?_ (F.args_dict_valueiterator_next_1 _))));unfold Builtin.«dict_valueiterator.__next__»
 wp_walk using wpAny_loadPart' g1,wpAny_loadPart' J
 rw[if_neg (by omega),Int.toNat_natCast];have self:∀k v,(U.update it (Obj.mapFields (·.setIfInBounds k v))).get? it=some { cls:=.type "dict_valueiterator",dict:=d3,data:=.fields ((#[.ref d,.int (i:Int) 0,.int (es.size:Int) 0,.int (ep:Int) 0]:Array Value).setIfInBounds k v),slots:=l3 }:=λk v=>K8 _ J rfl
 cases hx:es[i]? with
 |some e =>
  have Y:=self 1 (rawInt ((i:Int)+1))
  wp_walk using wpAny_loadPart' J,wpAny_loadPart' Y
  exact⟨_,rfl,gf (h1 e _ hx ⟨_,Y,rfl,rfl⟩ (KY ..))⟩
 |none =>
  refine ez (K3 (Q:=λn s'=>n=0/\s'=⟨U,g,dr,tk,os⟩) (E:=λ_ _=>False) ?_ (λn s' q=>?_) λ_ _ z=>z.elim)
  .wp_walk using wpAny_loadPart' J
   exact⟨by decide +kernel,rfl⟩
  obtain⟨rfl,rfl⟩:=q;refine ez (wpAny_setField J rfl (by simp) ?_);refine St.lv (v:=.none) (vs:=#[]) (it:=0) (Q:=λ_ _=>True) (by simpa using Z) λe s' kp ⟨h',eq⟩ hT=>?_
  subst eq;refine ez (Lw (T:="StopIteration") (b:=true) hT isSubtype_stop ?_);exact gf (h2 h' hx λb o hb q=>kp b o ((KY U it _).extBut b o hb q))
def src :PySem.W.KdlSrc P w "dict_values" r d es.size (λi v=>∃e,es[i]?=some e/\v=e.val) (λh=>h.IsValuesView r d/\Ents h d es ep) where
 type:=λ_ q=>q.1.typeIs
 there:=λ_ ⟨⟨o,ho,_⟩,⟨o',Z,_⟩⟩=>⟨pd ho,pd Z⟩
 keep:=λ_ _ ⟨⟨o,ho,z⟩,x⟩ k=>⟨⟨o,k r (.inl rfl) o ho,z⟩,x.at λo e=>k d (.inr rfl) o e⟩
 notList:=by decide
 notTuple:=by decide
 hint:=λ_ _ _ _ q z=>PySem.W.kdl_hint_values q.1.typeIs z
 iter:=λA s hh ⟨q,x⟩=>by
  have lt:d<s.heap.objs.size:=by obtain⟨o,ho,_⟩:=x;exact pd ho
  have ne:=tr lt;refine⟨{ cls:=.type "dict_valueiterator",data:=.fields #[.ref d,.int 0 0,.int es.size 0,.int ep 0] },λi h=>h.IsValIter s.heap.objs.size d i es.size ep/\Ents h d es ep,λE Q z=>Cz q x z,?_,⟨_,r4 _ rfl,rfl,rfl⟩,x.at λo e=>gk _ e⟩;refine⟨λb J=>by simp at J;simp[J],λi h h' ⟨⟨o,ho,z⟩,y⟩ k=>⟨⟨o,k _ (by simp) o ho,z⟩,y.at λo e=>k d (by simp) o e⟩,λi s' Q E hi ⟨y,z⟩ U=>?_,λs' Q E ⟨y,z⟩ U=>?_,λi s' Q E ⟨y,z⟩ U=>?_⟩
  .refine wn hh y z (λe h' Y y' sb=>?_) λh' Y _=>absurd Y (by simp;omega)
   exact U _ h' s'.toks ⟨e,Y,rfl⟩ ⟨y',z.at λo q=>sb.extBut d o ne q⟩ λb o J q=>sb.extBut b o (λw=>J (by simp[w])) q
  .refine wn hh y z (λe h' Y _ _=>absurd Y (by simp)) λh' _ eb=>?_
   exact U h' s'.toks λb o J q=>eb b o (λw=>J (by simp[w])) q
  .exact wpAny_pyIter_valiter y U
end
end L2.Dv
namespace HT
open PySem PyProof.Rows List Option
section
variable{prog:Program}{w:World}{A:Around}{E:Value->Shared->Prop}{s:Shared}
def getItem_tuple_whole{items:Array Value}{Z vu:Value}{lo hi:Option Int}{Q:Value->Shared->Prop}(z:IsTup s.heap t items)(hs:s.heap.IsSliceOf sl Z vu .none)(pl:IsPart Z lo)(pu:IsPart vu hi)
  (h0:sIx items.size 0 lo=0) (h1:sIx items.size items.size hi=items.size) (h:Q (.ref t) s):wpAny (model prog w) A (getItem (.ref t) (.ref sl)) Q E s:=by
 have J:s.TypeIs (.ref sl) "slice":=by obtain⟨os,U,Y,_⟩:=hs;exact⟨os,U,Y⟩
 unfold getItem
 try with_reducible refine K6 ?_
 first|refine ez (gf ?_)|skip
 refine ez (wpAny_sequenceKey z.typeIs (by decide) ?_);refine ez (Lc (name:=Str.ofString "__getitem__") z.typeIs Lb
  (KW Lb z.typeIs entry_tuple_getitem ?_ (args_tuple_getitem _ _)))
 show wpAny _ _ (Builtin.Tuple.tupleItemsOf _ >>= _) _ _ s;refine ez (tupleItemsOf_ z ?_);refine ez (Mr J ?_);rw[if_pos (by decide)];refine ez (gP hs pl pu ?_);show wpAny _ _ (if (((sIx items.size 0 lo:Nat):Int)==0&&_==1&&_==items.size)=true then _ else _) _ _ s;rw[h0,h1,if_pos (by simp)];unfold Builtin.Tuple.tupleIsExact;refine ez (ez (Mr z.typeIs (gf ?_)));rw[if_pos (by decide)];refine ez (L7 ?_);exact gf ⟨_,rfl,gf h⟩
end
end HT
namespace L2
open PySem PySem.Spec PyProof.Rows List Option
section
variable{X:Cx}
def CA:SlR X (λx lo hi H Q=>∃a xs,x=.ref a/\SqT X.K H a xs/\HT.sIx xs.length 0 lo=0/\HT.sIx xs.length xs.length hi=xs.length/\Q (.ref a) H):=by
 intro pins s σ H x v vl vu lo hi sl Q I U hs Y Z h;refine aB λZq kq=>?_
 obtain⟨a,xs,rfl,hx,h0,h1,q⟩:=h;cases U;obtain⟨its,r,J,hz⟩:=I.tuple hx;have z:its.toArray.size=xs.length:=by rw[pb];exact r.length.symm
 refine kq ?_;refine⟨"tuple",_,Lb.lookup,J.typeIs,?_⟩;exact HT.getItem_tuple_whole J hs Y Z (by rw[z];exact h0) (by rw[z];exact h1) ⟨.ref a,H,I,rfl,q⟩
end
end L2
namespace L2.Rv
open PySem PyProof.Rows List Option
section
variable{P:Program}{w:World}{A:Around}{E:Value->Shared->Prop}{s:Shared}
def E7:typeLookup (.type "list_reverseiterator") "__len__"=pure none:=by rw[Ng,Mu];kernel_rfl
def zQ:typeLookup (.type "list_reverseiterator") "__length_hint__"=pure (some (.builtin "list_reverseiterator.__length_hint__")):=by rw[Ng,Mu];kernel_rfl
def zR (U:s.TypeIs (.ref it) "list_reverseiterator") (h:Q false s):wpAny (model P w) A (Builtin.List.listLengthHint (.ref it)) Q E s:=by
 unfold Builtin.List.listLengthHint;refine ez (Nb U E7 ?_);refine KQ (λz=>absurd z (by decide)) (λ_=>?_);refine KQ (λz=>absurd z (by decide)) (λ_=>?_);refine ez (Nb U zQ ?_);generalize J:("list_reverseiterator.__length_hint__":String)=Y
 wp_delta
 rw[show splitId Y=some ("list_reverseiterator","__length_hint__")from by subst J;decide +kernel];subst J;refine ez (Lw (T:="list_reverseiterator") (b:=true) U (by rw[Nr];kernel_rfl) ?_);refine KQ (λz=>absurd z (by decide)) (λ_=>?_);refine KQ (λ_=>?_) (λz=>absurd (by decide +kernel) z);refine KQ (λz=>absurd z (by decide +kernel)) (λ_=>?_);exact gf h
def Drawn(items:Array Value)(i:Nat)(v:Value):Prop:=items[items.size-1-i]?=some v
def u6{it l S:Addr}{items:Array Value}(hh:A.handled=none)(ao:l≠it)(U:s.heap.IsRevIter it l ((items.size:Int)-1))(hl:s.heap.IsList l items)(hn:items.size<=sizeLine)(Y:S≠it)(aO:S≠l)(res)
  (hS:s.heap.get? S=some { cls:=.type "list",data:=.seq #[] })
  (hR:∀h' tk J c,(∀b o,b≠S->b≠it->s.heap.get? b=some o->h'.get? b=some o)->h'.get? S=some { cls:=.type "list",dict:=none,data:=.seq J c,slots:=#[] }->ItemsOf (Drawn items) J items.size->R (.ok (.ret res)) { s with heap:=h',toks:=tk }) :
  wpAny (model P w) A.in1 (Builtin.List.listExtendWith (.ref S) (.ref it) res)
   (λfin s'=>match fin with|.done f=>R (.ok f) s'|.again c'=>c'.quiet=true/\codeAny (model P w) A c' R s') (λe s'=>R (.error e) s') s:=by
 have hT:=U.typeIs;have W:=Walks.listRev (prog:=P) (w:=w) (A:=A.in1) (by simpa using hh) it l ao items;have a0:S∉[it,l]:=by simp[Y,aO]
 unfold Builtin.List.listExtendWith;refine ez (Mr hT ?_);have h1:Builtin.List.listSameRef (.ref S) (.ref it)=false:=by simp[Builtin.List.listSameRef,Y]
 rw[if_neg (by rw[h1];decide)];refine ez (wpAny_pyIter_revIter U ?_);refine ez (K6 (zR hT ?_));refine KQ (λa1=>absurd a1 (by decide)) (λ_=>?_);refine gf ⟨M6 PySem.F.plain_extend_loop _,?_⟩;refine codeAny_extend_loopS W.toS hn S a0 res items.size 0 s #[] 0 rfl (KI _) ⟨KI _,by simpa using U,hl⟩ hS (ItemsOf.nil _) λs' J c hm a2 Z=>?_
 rw[Moved.eq_with hm];refine hR s'.heap s'.toks J c (λb o hb bB e=>hm.heap b o (λz=>?_) e) a2 Z
 simp_all
end
end L2.Rv
namespace L2
open PySem PySem.Spec PyProof.Rows List Option
section
variable{X:Cx}
def u7{its:List Value}(h:ItemsOf (Rv.Drawn its.toArray) acc its.toArray.size):acc.toList=its.reverse:=by
 have hs:acc.size=its.length:=by rw[h.1,pb]
 refine NN λi=>?_
 rw[K9];by_cases hi:i<its.length
 .cases e:acc[i]? with
  |none=>rw[Array.getElem?_eq_none_iff]at e;omega
  |some v =>
   have:=h.2 i v e;unfold Rv.Drawn at this;rw[pb,getElem?_toArray]at this;rw[getElem?_reverse hi,<- this]
 .simp_all
end
end L2
namespace L2.Rg
open PySem PyProof.Rows List Option
section
variable{P:Program}{w:World}{A:Around}{E:Value->Shared->Prop}{s:Shared}
end
end L2.Rg
namespace L2
open PySem PySem.Spec PyProof.Rows List Option
section
variable{X:Cx}
end
end L2
namespace L2.Rv
open PySem PyProof.Rows List Option
open AutoSeq1 (wpAny_loadPart')
section
variable{P:Program}{w:World}{A:Around}{E:Value->Shared->Prop}{s:Shared}
def list_rev{it l:Addr}{items:Array Value}(hh:A.handled=none)(U:l≠it)(J:s.heap.IsRevIter it l ((items.size:Int)-1))(hl:s.heap.IsList l items)(hn:items.size<=sizeLine)
  (h:∀h' tk z c,(∀b o,b≠it->s.heap.get? b=some o->h'.get? b=some o)->h'.get? s.heap.objs.size=some { cls:=.type "list",dict:=none,data:=.seq z c,slots:=#[] }->ItemsOf (Drawn items) z items.size->Q (.ref s.heap.objs.size) { s with heap:=h',toks:=tk }) :
  wpAny (model P w) A (call (.type "list") [.ref it]) Q E s:=by
 have li:it<s.heap.objs.size:=by obtain⟨o,ho,_⟩:=J;exact pd ho
 have ll:l<s.heap.objs.size:=by obtain⟨o,ho,_⟩:=hl;exact pd ho
 refine callType_codes F.called_list (F.typeCall_list_1 _) F.entry_list_init (code_list_new (.ref it) (Q₁:=λobj s1=>obj=.ref s.heap.objs.size/\s1={ s with heap:=s.heap.push { cls:=.type "list",data:=.seq #[] } }) ⟨rfl,rfl⟩) λobj s1 h1=>?_
 obtain⟨rfl,rfl⟩:=h1;have Y:(s.heap.push { cls:=.type "list",data:=.seq #[] }).get? s.heap.objs.size=some { cls:=.type "list",data:=.seq #[] }:=r4 _ rfl;refine⟨⟨_,Y,rfl⟩,F.args_list_init_2 _ _,?_⟩;unfold Builtin.«list.__init__»;generalize hX:Builtin.List.listExtendWith=X
 wp_walk using wpAny_loadPart' Y
 subst hX;have g1:((s.heap.push { cls:=.type "list",data:=.seq #[] }).update s.heap.objs.size (Obj.mapSeq λ_=>#[])).get? s.heap.objs.size=some { cls:=.type "list",data:=.seq #[] }:=K8 _ Y rfl;have kp:∀b o,b≠s.heap.objs.size->s.heap.get? b=some o->((s.heap.push { cls:=.type "list",data:=.seq #[] }).update s.heap.objs.size (Obj.mapSeq λ_=>#[])).get? b=some o:=λb o Z e=>(KY ..).extBut b o Z (gk _ e)
 refine u6 (A:=A.in1) (by simpa using hh) U (J.at λo e=>kp _ o (tr li) e) (hl.at λo e=>kp _ o (tr ll) e) hn (Lr li) (Lr ll) .none g1 λh' tk z c k e i=>?_
 exact⟨rfl,h h' tk z c (λb o Z q=>k b o (tr (pd q)) Z (kp b o (tr (pd q)) q)) e i⟩
end
end L2.Rv
namespace L2
open PySem PySem.Spec PyProof.Rows List Option
section
variable{X:Cx}
def u8 (hc:X.calm=true) (hg:Gl X "list") (hm:X.mg "list"=none) (hv:bootBuiltins "list"=some (.type "list")) (a1:Gl X "reversed") (a2:X.mg "reversed"=none) (hl:PE X l tl) (hs:starEach [l] X.env=[(false,eval l X.env)]:=by rfl) :
  PE X (.Call (.Name "list" p) [.Call (.Name "reversed" p2) [l] [] pos2] [] pos) (λσ H Q=>tl σ H λx H1=>∃a xs,x=.ref a/\SqL X.K H1 a xs/\∀q,H1 q=none->Q (.ref q) (upd H1 q (.lst xs.reverse))):=by
 intro pins s σ H Q I h;refine LW (iV I hg hm hv ?_);refine Li (MQ ?_) rfl rfl;refine LW (iV I a1 a2 PyProof.Rows.boot_reversed ?_);refine Li (thn (aR hl bN hs pos2 pins s σ H (λvs H1=>match vs with|[x]=>∃a xs,x=.ref a/\SqL X.K H1 a xs/\∀q,H1 q=none->Q (.ref q) (upd H1 q (.lst xs.reverse))|_=>False) I h) λus J ⟨vs,H1,I1,r1,q1⟩=>?_) hs rfl;cases r1 with
 |nil=>exact q1.elim
 |cons r rr =>
  cases rr with
  |cons _ _=>exact q1.elim
  |nil =>
   refine aB λZq kq=>?_
   obtain⟨a,xs,e,hq,q⟩:=q1;subst e;cases r;obtain⟨its,rv,pl,hz⟩:=I1.list hq;have la:a<J.heap.objs.size:=by obtain⟨o,ho,_⟩:=pl.isList;exact pd ho
   have a0:its.toArray.size=xs.length:=by rw[pb];exact rv.length.symm
   refine kq ?_;refine call_reversed_list pl.isList (ND ?_);generalize Z:revObj a ((its.toArray.size:Int)-1)=U;have a5:(J.heap.push U).get? J.heap.objs.size=some U:=r4 _ (by rw[<- Z];rfl);have I2:Inv X pins σ H1 { J with heap:=J.heap.push U }:=I1.kept (t':=J.toks) λb o e=>gk _ e
   have hn:=I1.hok.fresh (g4 _);obtain⟨_,f1,_,f3,f4,f5⟩:=I1.fpOk (g4 _) hn;refine Rv.list_rev (s:={ J with heap:=J.heap.push U }) (it:=J.heap.objs.size) (l:=a) (items:=its.toArray) (I1.ok.hd hc) (tr la) ⟨_,a5,by rw[<- Z];rfl,by rw[<- Z];rfl⟩ (pl.isList.at λo e=>gk _ e) (by rw[a0];exact hz) λh' tk Y c k e it=>?_
   have z:(J.heap.push U).objs.size=J.heap.objs.size+1:=KR ..;have ne:(J.heap.push U).objs.size≠J.heap.objs.size:=by omega
   have g2:((J.heap.push U).push { cls:=.type "list",data:=.seq Y c }).get? (J.heap.push U).objs.size=some { cls:=.type "list",data:=.seq Y c }:=r4 _ rfl;have I3:Inv X pins σ (upd H1 (J.heap.push U).objs.size (.lst xs.reverse)) { J with heap:=(J.heap.push U).push { cls:=.type "list",data:=.seq Y c },toks:=J.toks }:=I2.laid (λb o e=>gk _ e) (g4 _) ⟨by rw[length_reverse];exact hz,Y.toList,c,by rw[u7 it];exact rv.reverse,by rw[Array.toArray_toList];exact g2⟩;have a6:H1 (J.heap.push U).objs.size=none:=I1.hok.fresh (by omega);have I4:=I3.turned (t':=tk) (it:=J.heap.objs.size) (h':=h') (λb o hb e1=>by
    by_cases eb:b=(J.heap.push U).objs.size
    .subst eb;have e1:=e1;rw[g2]at e1;cases e1;exact e
    .refine k b o hb ?_;have e1:=e1;show(J.heap.push U).get? b=some o;rw[<- Heap.get?_push_ne _ _ _ eb];exact e1) (by rw[bb ne.symm];exact hn) f1 f3 f4 f5
   exact⟨.ref (J.heap.push U).objs.size,_,I4,rfl,q _ a6⟩
end
end L2
namespace MM
open PySem List Option
inductive Sc where
 | non|bl (b:Bool)|int (i:Int)|str (x:Str)
 deriving Inhabited,DecidableEq
inductive DD where
 | k (kvs:List (Int×Sc))|t (kvs:List (List Int×Sc))
 | p (ns:List Int)
 deriving Inhabited
inductive PV where
 | non|bl (b:Bool)|int (i:Int)|str (x:Str)|tup (xs:List PV)|lst (xs:List PV)|dI (d:DD)
 deriving Inhabited
noncomputable def Sc.pv:Sc->PV
 | .non=>.non
 | .bl b=>.bl b
 | .int i=>.int i
 | .str x=>.str x
noncomputable def sc?:PV->Option Sc
 | .non=>some .non
 | .bl b=>some (.bl b)
 | .int i=>some (.int i)
 | .str x=>some (.str x)
 | _=>none
noncomputable def bS{α:Type} [DecidableEq α] (kvs:List (α×Sc)) (k:α):Option Sc:=(kvs.find? λp=>decide (p.1=k)).map (·.2)
noncomputable def cW{α:Type} [DecidableEq α] (kvs:List (α×Sc)) (k:α) (v:Sc):List (α×Sc):=
 if (kvs.any λp=>decide (p.1=k))=true then kvs.map (λp=>if p.1=k then(p.1,v)else p)else kvs++[(k,v)]
noncomputable def eqL(f:PV->PV->Option Bool):List PV->List PV->Option Bool
 | [],[]=>some true
 |x::xs,y::ys=>(f x y).bind λp=>(eqL f xs ys).map λq=>p&&q
 | _,_=>some false
def eqF:Nat->PV->PV->Option Bool
 | _,.non,.non=>some true
 | _,.bl a,.bl b=>some (a==b)
 | _,.bl a,.int b=>some ((if a then 1 else 0)==b)
 | _,.int a,.bl b=>some (a==(if b then 1 else 0))
 | _,.int a,.int b=>some (a==b)
 | _,.str a,.str b=>some (a==b)
 |0,.tup _,.tup _=>none
 |0,.lst _,.lst _=>none
 | _,.dI _,_=>none
 | _,_,.dI _=>none
 |n+1,.tup a,.tup b=>eqL (eqF n) a b
 |n+1,.lst a,.lst b=>if a.length=b.length then eqL (eqF n) a b else some false
 | _,_,_=>some false
noncomputable def sP:PV->PV->Bool
 | .tup _,.tup _=>true
 | .lst _,.lst _=>true
 | .tup _,_=>false
 | _,.tup _=>false
 | .lst _,_=>false
 | _,.lst _=>false
 | .bl _,.int _=>false
 | .int _,.bl _=>false
 | .dI _,_=>false
 | _,.dI _=>false
 | _,_=>true
noncomputable def inL(f:PV->Option Bool):List PV->Option Bool
 | []=>some false
 |y::ys=>(f y).bind λp=>(inL f ys).map λq=>p||q
inductive MV where
 | val (v:PV)|own (xs:List PV)|brw (xs:List PV)|ownD (d:DD)|brwD (d:DD)
 | mutD (d:DD)
 deriving Inhabited
noncomputable abbrev Rho:=List (Option MV)
inductive Op2 where
 | add|sub|mul|fdiv|mod|pow|shr
 deriving DecidableEq
inductive Cp where
 | eq|ne|lt|le|gt|ge|isN|notN|isIn|notIn
 deriving DecidableEq
inductive Blt where
 | len|tupleOf|listOf|sorted|any|all|sum|max1|min1|max2|min2|intOf|boolOf|isInt|isBool|isStr|isList|isTuple
 | sortedSet|lenSet|lenSetSub|sortedKeys|valuesOf|tupleRev
 deriving DecidableEq
inductive Sk where
 | seq|rng|enm|rev
 deriving DecidableEq
set_option genInjectivity false in
inductive ME where
 | var (i:Nat)
 | bor (i:Nat)
 | cst (v:PV)
 | glob (x:Str) (v:PV)
 | bin (op:Op2) (a b:ME)
 | neg (a:ME)
 | not (a:ME)
 | and (a b:ME)
 | or (a b:ME)
 | ite (c a b:ME)
 | cmp (op:Cp) (a b:ME)
 | chain (op op':Cp) (a b c:ME)
 | tup (es:List ME)
 | lst (es:List ME)
 | idx (a i:ME)
 | slice (a lo hi:ME)
 | blt (b:Blt) (es:List ME)
 | call (f:Nat) (es:List ME)
 | callD (f:Nat) (es:List ME) (d:List Sc)
 | comp (k:Sk) (src:List ME) (js:List Nat) (cond elt:ME)
 | dget (a k d:ME)
 | dat (a k:ME)
 | dIn (neg:Bool) (k a:ME)
 | lenP (i:Nat)
 | disp (kvs:List (Str×Str)) (e:ME)
 deriving Inhabited
noncomputable def bj:List PV->Option (List Int)
 | []=>some []
 | .int i::r=>(bj r).map (i::·)
 | _=>none
def gY:List PV->Option (List (List Int))
 | []=>some []
 | .tup xs::r=>(bj xs).bind λx=>(gY r).map (x::·)
 | _=>none
noncomputable def cT:List PV->Option (List Bool)
 | []=>some []
 | .bl i::r=>(cT r).map (i::·)
 | _=>none
noncomputable def p8(kvs:List (Str×Str)):List (L2.Key×L2.V):=kvs.map λp=>(Sum.inr p.1,L2.V.str p.2)
def CB(kvs:List (Str×Str)):PV->Option PV
 | .str x=>(L2.jz (L2.iY [] (p8 kvs)) (Sum.inr x)).bind λv=>match v with|.str y=>some (.str y)|_=>none
 | _=>none
def xU:PV->PV->Option (Option Sc)
 | .dI (.k kvs),.int i=>some (bS kvs i)
 | .dI (.t kvs),.tup xs=>(bj xs).map (bS kvs)
 | _,_=>none
def qX:DD->PV->Sc->Option DD
 | .k kvs,.int i,s=>if kvs.length<10000 then some (.k (cW kvs i s))else none
 | .t kvs,.tup xs,s=>(bj xs).bind λk=>if kvs.length<10000 then some (.t (cW kvs k s))else none
 | _,_,_=>none
noncomputable def dSc:DD->List Sc
 | .k kvs=>kvs.map (·.2)
 | .t kvs=>kvs.map (·.2)
 | .p _=>[]
def kD(d:DD):List PV:=(dSc d).map Sc.pv
noncomputable def lexLt:List Int->List Int->Bool
 | [],[]=>false
 | [],_::_=>true
 | _::_,[]=>false
 |x::xs,y::ys=>if x=y then lexLt xs ys else decide (x<y)
noncomputable def zS(x:Int):List Int->List Int
 | []=>[x]
 |y::r=>if y<x then y::zS x r else x::y::r
def sortI:List Int->List Int
 | []=>[]
 |x::r=>zS x (sortI r)
def zT(x:List Int):List (List Int)->List (List Int)
 | []=>[x]
 |y::r=>if lexLt y x=true then y::zT x r else x::y::r
def sortT:List (List Int)->List (List Int)
 | []=>[]
 |x::r=>zT x (sortT r)
noncomputable def dd:List Int->List Int
 | []=>[]
 |x::r=>if x∈dd r then dd r else x::dd r
noncomputable def kE{α:Type}(f:Int->Int->Option α):PV->PV->Option α
 | .int i,.int j=>f i j
 | _,_=>none
noncomputable def DP:PV->PV->Option PV
 | .int i,.int j=>some (.int (i+j))
 | .lst a,.lst b=>if a.length+b.length<=10000 then some (.lst (a++b))else none
 | .tup a,.tup b=>if a.length+b.length<=10000 then some (.tup (a++b))else none
 | .str a,.str b=>if a.length+b.length<=1000000 then some (.str (a++b))else none
 | _,_=>none
def fw(op:Op2):PV->PV->Option PV:=match op with
 | .add=>DP
 | .sub=>kE λi j=>some (.int (i-j))
 | .mul=>kE λi j=>if (-(2 ^ 64)<i/\i<2 ^ 64)\/(-(2 ^ 64)<j/\j<2 ^ 64)then some (.int (i*j))else none
 | .fdiv=>kE λi j=>if 0<j/\j<1073741824 then some (.int (i / j))else none
 | .mod=>kE λi j=>if 0<j then some (.int (i % j))else none
 | .pow=>kE λi j=>if 0<=j/\j<=1000000/\i.natAbs<2 ^ 64 then some (.int (i ^ j.toNat))else none
 | .shr=>kE λi j=>if 0<=j then some (.int (i / 2 ^ j.toNat))else none
noncomputable def jK:PV->Bool
 | .non=>true
 | _=>false
def isIn(x:PV)(xs:List PV):Option Bool:=inL (λy=>eqF 100 y x) xs
def HR(a b:PV):Option Bool:=match b with
 | .non=>some (jK a)
 | .bl q=>(match a with|.bl p=>some (p==q)|_=>none)
 | _=>none
noncomputable def bc:PV->Option (List PV)
 | .tup xs=>some xs
 | .lst xs=>some xs
 | _=>none
noncomputable def iR:PV->Option (List PV)
 | .lst xs=>some xs
 | _=>none
def cJ(op:Cp):PV->PV->Option Bool:=match op with
 | .eq=>eqF 100
 | .ne=>λa b=>if sP a b=true then(eqF 100 a b).map λp=>!p else none
 | .lt=>kE λi j=>some (decide (i<j))
 | .le=>kE λi j=>some (decide (i<=j))
 | .gt=>kE λi j=>some (decide (j<i))
 | .ge=>kE λi j=>some (decide (j<=i))
 | .isN=>HR
 | .notN=>λa b=>(HR a b).map λp=>!p
 | .isIn=>λa b=>(bc b).bind (isIn a)
 | .notIn=>λa b=>((bc b).bind (isIn a)).map λp=>!p
noncomputable def place(n:Nat)(i:Int):Option Nat:=
 if 0<=i then(if i<n then some i.toNat else none)else if -(n:Int)<=i then some (i+n).toNat else none
def gZ:PV->PV->Option PV
 | .tup xs,.int i=>(place xs.length i).bind λj=>xs[j]?
 | .lst xs,.int i=>(place xs.length i).bind λj=>xs[j]?
 | _,_=>none
noncomputable def g5(n d:Nat):Option Int->Nat
 |none=>d
 |some i=>if i<0 then(i+n).toNat else min i.toNat n
def cut(xs:List PV)(lo hi:Option Int):List PV:=(xs.drop (g5 xs.length 0 lo)).take (g5 xs.length xs.length hi-g5 xs.length 0 lo)
def kF:PV->Option Int->Option Int->Option PV
 | .lst xs,lo,hi=>some (.lst (cut xs lo hi))
 | .tup xs,lo,hi=>some (.tup (cut xs lo hi))
 | _,_,_=>none
noncomputable def bnd:ME->PV->Option (Option Int)
 | .cst .non,_=>some none
 | _,.int i=>some (some i)
 | _,_=>none
noncomputable def u9:List Int->Option Int
 | []=>none
 |x::r=>some (r.foldl (λa b=>if a<b then b else a) x)
def i4(xs:List PV):Option PV:=
 if xs.length<64 then
  match bj xs with
  |some ns=>some (.lst ((sortI ns).map .int))
  |none=>(gY xs).map λz=>.lst ((sortT z).map λt=>.tup (t.map .int))
 else none
noncomputable def isT(b:Blt):PV->Bool
 | .int _=>b==.isInt
 | .bl _=>b==.isInt||b==.isBool
 | .str _=>b==.isStr
 | .lst _=>b==.isList
 | .tup _=>b==.isTuple
 | .non=>false
 | .dI _=>false
noncomputable def isD:PV->Bool
 | .dI _=>true
 | _=>false
noncomputable def cw(vs:List PV)(f:PV->Option PV):Option PV:=match vs with
 | [a]=>f a
 | _=>none
noncomputable def mJ(vs:List PV)(f:PV->PV->Option PV):Option PV:=match vs with
 | [a,b]=>f a b
 | _=>none
def jA(b:Blt)(vs:List PV):Option PV:=cw vs λa=>if isD a=true then none else some (.bl (isT b a))
noncomputable def HS:PV->Option PV
 | .tup xs=>some (.int xs.length)
 | .lst xs=>some (.int xs.length)
 | .dI (.k kvs)=>some (.int kvs.length)
 | _=>none
def az(b:Blt)(vs:List PV):Option PV:=match b with
 | .len=>cw vs HS
 | .tupleOf=>cw vs λa=>(bc a).map .tup
 | .listOf=>cw vs λa=>(bc a).map .lst
 | .sorted=>cw vs λa=>(bc a).bind i4
 | .any=>cw vs λa=>(iR a).bind λxs=>(cT xs).map λbs=>.bl (bs.any id)
 | .all=>cw vs λa=>(iR a).bind λxs=>(cT xs).map λbs=>.bl (bs.all id)
 | .sum=>cw vs λa=>(iR a).bind λxs=>(bj xs).map λns=>.int ns.sum
 | .max1=>cw vs λa=>(iR a).bind λxs=>(bj xs).bind λns=>(u9 ns).map .int
 | .min1=>none
 | .max2=>mJ vs (kE λi j=>some (.int (if j > i then j else i)))
 | .min2=>mJ vs (kE λi j=>some (.int (if j<i then j else i)))
 | .intOf=>cw vs λa=>match a with|.int i=>some (.int i)|.bl b=>some (.int (if b then 1 else 0))|_=>none
 | .boolOf=>cw vs λa=>match a with|.bl b=>some (.bl b)|_=>none
 | .isInt=>jA .isInt vs
 | .isBool=>jA .isBool vs
 | .isStr=>jA .isStr vs
 | .isList=>jA .isList vs
 | .isTuple=>jA .isTuple vs
 | .sortedSet=>cw vs λa=>(bc a).bind λxs=>(bj xs).bind λns=>if ns.length<=1000/\(dd ns).length<64 then some (.lst ((sortI (dd ns)).map .int))else none
 | .lenSet=>cw vs λa=>(bc a).bind λxs=>(bj xs).bind λns=>if ns.length<=1000 then some (.int (dd ns).length)else none
 | .lenSetSub=>mJ vs λa b=>(bc a).bind λxs=>(bj xs).bind λns=>(bc b).bind λys=>(bj ys).bind λms =>
   if ns.length<=1000/\ms.length<=1000/\(dd ns).length<=60 then some (.int ((dd ns).filter λn=>!decide (n∈ms)).length)else none
 | .sortedKeys=>cw vs λa=>match a with|.dI (.k kvs)=>if kvs.length<64 then some (.lst ((sortI (kvs.map (·.1))).map .int))else none|_=>none
 | .tupleRev=>cw vs λa=>(iR a).map λxs=>.tup xs.reverse
 | .valuesOf=>cw vs λa=>match a with|.dI d=>if (kD d).length<=10000 then some (.lst (kD d))else none|_=>none
noncomputable def bD(n:Nat):List PV->List PV
 | []=>[]
 |x::r=>.tup [.int (n:Nat),x]::bD (n+1) r
def bg:Sk->List PV->Option (List PV)
 | .seq,[a]=>bc a
 | .rng,[.int j]=>if -(2 ^ 62)<=j/\j<2 ^ 62 then some ((range j.toNat).map λ(k:Nat)=>.int ((0:Int)+k))else none
 | .rng,[.int i,.int j]=>if -(2 ^ 62)<=i/\i<2 ^ 62/\-(2 ^ 62)<=j/\j<2 ^ 62 then some ((range (j-i).toNat).map λ(k:Nat)=>.int (i+k))else none
 | .enm,[a]=>(bc a).map (bD 0)
 | .rev,[.lst xs]=>some xs.reverse
 | _,_=>none
noncomputable def gC(c:PV->Option Bool)(f:PV->Option PV):List PV->Option (List PV)
 | []=>some []
 |x::r=>(c x).bind λb=>if b=true then(f x).bind λy=>(gC c f r).map (y::·)else gC c f r
noncomputable def bf:PV->Option Bool
 | .bl b=>some b
 | _=>none
noncomputable abbrev Cal:=Nat->List MV->Option PV
noncomputable def zU:Option MV->Option PV
 |some (.val v)=>some v
 | _=>none
noncomputable def sS:DD->Bool
 | .p _=>false
 | _=>true
def bE:Option MV->Option PV
 |some (.val v)=>some v
 |some (.own xs)=>some (.lst xs)
 |some (.brw xs)=>some (.lst xs)
 |some (.ownD kvs)=>if sS kvs=true then some (.dI kvs)else none
 |some (.brwD kvs)=>if sS kvs=true then some (.dI kvs)else none
 |some (.mutD kvs)=>if sS kvs=true then some (.dI kvs)else none
 |none=>none
noncomputable def g6:Option MV->Option MV
 |some (.val v)=>some (.val v)
 |some (.own xs)=>some (.brw xs)
 |some (.brw xs)=>some (.brw xs)
 |some (.ownD xs)=>some (.brwD xs)
 |some (.brwD xs)=>some (.brwD xs)
 |some (.mutD xs)=>some (.brwD xs)
 |none=>none
noncomputable def fW:Option MV->Option MV
 |some (.own xs)=>some (.brw xs)
 |some (.ownD xs)=>some (.brwD xs)
 |some (.mutD xs)=>some (.brwD xs)
 |o=>o
def cn(js:List Nat)(W:Rho)(x:PV):Rho:=some (.val x)::js.map λj=>fW (W[j]?).join
noncomputable def u_:Option MV->Option PV
 |some (.ownD (.p ns))=>some (.int ns.length)
 |some (.mutD (.p ns))=>some (.int ns.length)
 | _=>none
mutual
noncomputable def ev(cal:Cal):ME->Rho->Option PV
 | .var i,W=>zU (W[i]?).join
 | .bor i,W=>bE (W[i]?).join
 | .cst v,_=>some v
 | .glob _ v,_=>some v
 | .bin op a b,W=>(ev cal a W).bind λx=>(ev cal b W).bind λy=>fw op x y
 | .neg a,W=>(ev cal a W).bind λx=>match x with|.int i=>some (.int (-i))|_=>none
 | .not a,W=>((ev cal a W).bind bf).map λb=>.bl (!b)
 | .and a b,W=>((ev cal a W).bind bf).bind λc=>if c=true then(ev cal b W).bind λy=>(bf y).map .bl else some (.bl false)
 | .or a b,W=>((ev cal a W).bind bf).bind λc=>if c=true then some (.bl true)else(ev cal b W).bind λy=>(bf y).map .bl
 | .ite c a b,W=>((ev cal c W).bind bf).bind λk=>if k=true then ev cal a W else ev cal b W
 | .cmp op a b,W=>(ev cal a W).bind λx=>(ev cal b W).bind λy=>(cJ op x y).map .bl
 | .chain op J a b c,W=>(ev cal a W).bind λx=>(ev cal b W).bind λy=>(cJ op x y).bind λk=>if k=true then(ev cal c W).bind λz=>(cJ J y z).map .bl else some (.bl false)
 | .tup es,W=>(evs cal es W).bind λvs=>if vs.length<=10000 then some (.tup vs)else none
 | .lst es,W=>(evs cal es W).bind λvs=>if vs.length<=10000 then some (.lst vs)else none
 | .idx a i,W=>(ev cal a W).bind λx=>(ev cal i W).bind λy=>gZ x y
 | .slice a lo hi,W=>(ev cal a W).bind λx=>((ev cal lo W).bind λl=>bnd lo l).bind λl=>((ev cal hi W).bind λh=>bnd hi h).bind λh=>kF x l h
 | .blt b es,W=>(evs cal es W).bind λvs=>az b vs
 | .call f es,W=>(evA cal es W).bind λvs=>cal f vs
 | .callD f es d,W=>(evA cal es W).bind λvs=>cal f (vs++d.map λx=>.val x.pv)
 | .comp k src js cond elt,W=>(evs cal src W).bind λvs=>(bg k vs).bind λxs =>
   if xs.length<=10000 then(gC (λx=>(ev cal cond (cn js W x)).bind bf) (λx=>ev cal elt (cn js W x)) xs).map .lst else none
 | .dget a k d,W=>(ev cal a W).bind λx=>(ev cal k W).bind λy=>(ev cal d W).bind λz=>(xU x y).bind λo=>(sc? z).map λs=>(o.getD s).pv
 | .dat a k,W=>(ev cal a W).bind λx=>(ev cal k W).bind λy=>(xU x y).bind λo=>o.map Sc.pv
 | .dIn neg k a,W=>(ev cal k W).bind λy=>(ev cal a W).bind λx=>(xU x y).map λo=>.bl (if neg=true then !o.isSome else o.isSome)
 | .lenP i,W=>u_ (W[i]?).join
 | .disp kvs e,W=>(ev cal e W).bind (CB kvs)
noncomputable def evs(cal:Cal):List ME->Rho->Option (List PV)
 | [],_=>some []
 |e::es,W=>(ev cal e W).bind λv=>(evs cal es W).map (v::·)
noncomputable def evA(cal:Cal):List ME->Rho->Option (List MV)
 | [],_=>some []
 | .bor i::es,W=>(g6 (W[i]?).join).bind λv=>(evA cal es W).map (v::·)
 |e::es,W=>(ev cal e W).bind λv=>(evA cal es W).map (MV.val v::·)
end
def evB(cal:Cal)(e:ME)(W:Rho):Option Bool:=(ev cal e W).bind bf
noncomputable def g7:Option MV->Option DD
 |some (.ownD d)=>some d
 |some (.mutD d)=>some d
 | _=>none
def evM(cal:Cal):List Bool->List ME->Rho->Option (List MV)
 | [],[],_=>some []
 |true::bs,.bor i::es,W=>(g7 (W[i]?).join).bind λd=>(evM cal bs es W).map (MV.mutD d::·)
 |false::bs,e::es,W=>(evA cal [e] W).bind λa=>match a with|[.val v]=>(evM cal bs es W).map (MV.val v::·)|_=>none
 | _,_,_=>none
noncomputable def fR(W:Rho)(i:Nat)(d:DD):Rho:=match (W[i]?).join with
 |some (.ownD _)=>W.set i (some (.ownD d))
 | _=>W.set i (some (.mutD d))
def kG:List Bool->List ME->List PV->Rho->Option Rho
 | [],[],[],W=>some W
 |true::bs,.bor i::es,.dI d::ds,W=>kG bs es ds (fR W i d)
 |false::bs,_::es,ds,W=>kG bs es ds W
 | _,_,_,_=>none
def sT(cal:Cal)(f:Nat)(mask:List Bool)(es:List ME)(W:Rho):Option (PV×Rho):=
 match (evM cal mask es W).bind λvs=>cal (f+2000) vs with
 |some (.tup (v::ds))=>(kG mask es ds W).map λl=>(v,l)
 | _=>none
inductive SK where
 | one|cat|pair
 deriving DecidableEq
def DQ:SK->PV->PV->Option PV
 | .one,_,v=>some v
 | .cat,w,v=>fw .add w v
 | .pair,w,v=>some (.tup [w,v])
noncomputable def CC:Option MV->Option MV
 |some (.val v)=>some (.val v)
 |some (.brw xs)=>some (.brw xs)
 |some (.ownD d)=>some (.mutD d)
 |some (.mutD d)=>some (.mutD d)
 |some (.brwD d)=>some (.brwD d)
 | _=>none
def lz(js:List Nat)(W:Rho)(x:PV):Rho:=some (.val x)::js.map λj=>CC (W[j]?).join
noncomputable def E8(js:List Nat):ME->ME
 | .bor i=>.bor (if i=0 then 0 else js.getD (i-1) 0)
 |e=>e
def dC(cal:Cal)(js:List Nat)(k:SK)(e:ME)(f:Nat)(mask:List Bool)(es:List ME):List PV->Rho->Option (List PV×Rho)
 | [],W=>some ([],W)
 |x::xs,W=>(ev cal e (lz js W x)).bind λw=>match (evM cal mask es (lz js W x)).bind λvs=>cal (f+2000) vs with
  |some (.tup (v::ds))=>(DQ k w v).bind λr=>(kG mask (es.map (E8 js)) ds W).bind λl=>(dC cal js k e f mask es xs l).map λp=>(r::p.1,p.2)
  | _=>none
inductive XE where
 | pure (e:ME)
 | call (f:Nat) (mask:List Bool) (es:List ME)
 | pop (i:Nat)
 | bin (op:Op2) (a:XE) (b:ME)
 | fn (g:Nat) (a:XE) (es:List ME)
 | tup (xs:List XE)
 | tupOf (a:XE)
 | lst (xs:List XE)
 | fn2 (g:Nat) (e:ME) (a:XE)
 | compS (src:ME) (js:List Nat) (k:SK) (e:ME) (f:Nat) (mask:List Bool) (es:List ME)
 deriving Inhabited
def CD(i:Nat)(W:Rho):Option (PV×Rho):=match g7 (W[i]?).join with
 |some (.p ns)=>(ns.getLast?).map λn=>(.int n,fR W i (.p ns.dropLast))
 | _=>none
mutual
noncomputable def evX(cal:Cal):XE->Rho->Option (PV×Rho)
 | .pure e,W=>(ev cal e W).map λv=>(v,W)
 | .call f mask es,W=>sT cal f mask es W
 | .pop i,W=>CD i W
 | .bin op a b,W=>(evX cal a W).bind λp=>(ev cal b p.2).bind λy=>(fw op p.1 y).map λr=>(r,p.2)
 | .fn g a es,W=>(evX cal a W).bind λp=>(evA cal es p.2).bind λvs=>(cal g (.val p.1::vs)).map λr=>(r,p.2)
 | .tup xs,W=>(evXs cal xs W).bind λp=>if p.1.length<=10000 then some (.tup p.1,p.2)else none
 | .lst xs,W=>(evXs cal xs W).bind λp=>if p.1.length<=10000 then some (.lst p.1,p.2)else none
 | .fn2 g e a,W=>(ev cal e W).bind λw=>(evX cal a W).bind λp=>(cal g [.val w,.val p.1]).map λr=>(r,p.2)
 | .tupOf a,W=>(evX cal a W).bind λp=>(az .tupleOf [p.1]).map λr=>(r,p.2)
 | .compS src js k e f mask es,W=>(evs cal [src] W).bind λvs=>(bg .seq vs).bind λxs=>if xs.length<=10000 then(dC cal js k e f mask es xs W).map λp=>(.lst p.1,p.2)else none
noncomputable def evXs(cal:Cal):List XE->Rho->Option (List PV×Rho)
 | [],W=>some ([],W)
 |x::xs,W=>(evX cal x W).bind λp=>(evXs cal xs p.2).map λq=>(p.1::q.1,q.2)
end
set_option genInjectivity false in
inductive MS where
 | set (i:Nat) (e:ME)
 | setOwn (i:Nat) (e:ME)
 | freeze (i:Nat)
 | append (i:Nat) (e:ME)
 | extend (i:Nat) (e:ME)
 | setIdx (i:Nat) (k v:ME)
 | unpack (is:List Nat) (e:ME)
 | expr (e:ME)
 | ite (c:ME) (a b:List MS)
 | for1 (i:Nat) (k:Sk) (src:List ME) (body:List MS)
 | forT (is:List Nat) (k:Sk) (src:List ME) (body:List MS)
 | while (n:Nat) (c:ME) (body:List MS)
 | ret (e:ME)
 | retOwn (i:Nat)
 | retN
 | brk
 | cont
 | pass
 | never
 | newD (m:Bool) (i:Nat)
 | retM (e:ME)
 | retF (e:ME)
 | setCall (i f:Nat) (es:List ME)
 | clear (i:Nat)
 | setP (i:Nat) (e:ME)
 | setX (i:Nat) (x:XE)
 | appX (i:Nat) (x:XE)
 | ownX (i:Nat) (xs:List XE)
 | retXE (x:XE)
 | forX (i:Nat) (x:XE) (body:List MS)
 | dput (i:Nat) (k v:ME)
 deriving Inhabited
inductive R where
 | next (W:Rho)|brk (W:Rho)|cont (W:Rho)|ret (v:PV)|bad
 | retF (xs:List PV)
 | retM (v:PV) (W:Rho)
 deriving Inhabited
noncomputable def R.andThen:R->(Rho->R)->R
 | .next W,k=>k W
 |r,_=>r
noncomputable def put(W:Rho)(i:Nat)(v:MV):Rho:=W.set i (some v)
noncomputable def eW(o:Option PV)(k:PV->R):R:=match o with
 |some v=>k v
 |none=>.bad
noncomputable def zV(o:Option Bool)(k:Bool->R):R:=match o with
 |some v=>k v
 |none=>.bad
def nS:List Nat->List PV->Rho->Option Rho
 | [],[],W=>some W
 |i::is,v::vs,W=>nS is vs (put W i (.val v))
 | _,_,_=>none
def cX(is:List Nat):PV->Rho->Option Rho
 | .tup vs,W=>nS is vs W
 | _,_=>none
noncomputable def cD(o:Option Rho)(f:Rho->R):R:=match o with
 |some W=>f W
 |none=>.bad
noncomputable def aq(body:PV->Rho->R):List PV->Rho->R
 | [],W=>.next W
 |x::r,W=>match body x W with
  | .next l=>aq body r l
  | .cont l=>aq body r l
  | .brk l=>.next l
  | .ret v=>.ret v
  | .bad=>.bad
  | .retF xs=>.retF xs
  | .retM v l=>.retM v l
noncomputable def qY(c:Rho->Option Bool)(body:Rho->R):Nat->Rho->R
 |0,_=>.bad
 |n+1,W=>match c W with
  |none=>.bad
  |some false=>.next W
  |some true=>match body W with
   | .next l=>qY c body n l
   | .cont l=>qY c body n l
   | .brk l=>.next l
   | .ret v=>.ret v
   | .bad=>.bad
   | .retF xs=>.retF xs
   | .retM v l=>.retM v l
def bu(src:List ME)(W:Rho):Rho:=match src with
 | [.bor i]=>(match (W[i]?).join with|some (.own xs)=>put W i (.brw xs)|_=>W)
 | _=>W
def aM(src:List ME)(z W:Rho):Rho:=match src with
 | [.bor i]=>(match (z[i]?).join,(W[i]?).join with|some (.own _),some (.brw xs)=>put W i (.own xs)|_,_=>W)
 | _=>W
def R.back(src:List ME)(z:Rho):R->R
 | .next W=>.next (aM src z W)
 | .brk W=>.brk (aM src z W)
 | .cont W=>.cont (aM src z W)
 | .retM v W=>.retM v (aM src z W)
 |r=>r
mutual
noncomputable def ex(cal:Cal):MS->Rho->R
 | .set i e,W=>eW (ev cal e W) λv=>.next (put W i (.val v))
 | .setOwn i e,W=>eW (ev cal e W) λv=>match v with|.lst xs=>.next (put W i (.own xs))|_=>.bad
 | .freeze i,W=>match (W[i]?).join with|some (.own xs)=>.next (put W i (.val (.lst xs)))|some _=>.next W|none=>.bad
 | .append i e,W=>eW (ev cal e W) λv=>match (W[i]?).join with
  |some (.own xs)=>if xs.length<10000 then .next (put W i (.own (xs++[v])))else .bad
  | _=>.bad
 | .extend i e,W=>eW (ev cal e W) λv=>match (W[i]?).join,bc v with
  |some (.own xs),some ys=>if xs.length+ys.length<=10000 then .next (put W i (.own (xs++ys)))else .bad
  | _,_=>.bad
 | .setIdx i k v,W=>eW (ev cal v W) λv=>eW (ev cal k W) λk=>match (W[i]?).join,k with
  |some (.own xs),.int k=>(match place xs.length k with|some j=>.next (put W i (.own (xs.set j v)))|none=>.bad)
  | _,_=>.bad
 | .unpack is e,W=>eW (ev cal e W) λv=>cD (cX is v W) .next
 | .expr e,W=>eW (ev cal e W) λ_=>.next W
 | .ite c a b,W=>zV (evB cal c W) λk=>if k=true then exs cal a W else exs cal b W
 | .for1 i k src body,W=>match (evs cal src W).bind (bg k)with
  |some xs=>(aq (λx l=>exs cal body (put l i (.val x))) xs (bu src W)).back src W
  |none=>.bad
 | .forT is k src body,W=>match (evs cal src W).bind (bg k)with
  |some xs=>(aq (λx l=>cD (cX is x l) λz=>exs cal body z) xs (bu src W)).back src W
  |none=>.bad
 | .while n c body,W=>qY (evB cal c) (λl=>exs cal body l) n W
 | .ret e,W=>eW (ev cal e W) .ret
 | .retOwn i,W=>match (W[i]?).join with|some (.own xs)=>.ret (.lst xs)|some (.ownD kvs)=>if sS kvs=true then .ret (.dI kvs)else .bad|some (.val v)=>.ret v|_=>.bad
 | .newD m i,W=>.next (put W i (.ownD (if m=true then .t []else .k [])))
 | .dput i k v,W=>eW (ev cal v W) λv=>eW (ev cal k W) λk=>match (W[i]?).join,sc? v with
  |some (.ownD d),some s=>match qX d k s with|some d'=>.next (put W i (.ownD d'))|none=>.bad
  |some (.mutD d),some s=>match qX d k s with|some d'=>.next (put W i (.mutD d'))|none=>.bad
  | _,_=>.bad
 | .retM e,W=>eW (ev cal e W) λv=>.retM v W
 | .retF e,W=>eW (ev cal e W) λv=>match v with|.lst xs=>.retF xs|_=>.bad
 | .setCall i f es,W=>eW ((evA cal es W).bind λvs=>cal (f+1000) vs) λv=>match v with|.lst xs=>.next (put W i (.own xs))|_=>.bad
 | .clear i,W=>match (W[i]?).join with|some (.own _)=>.next (put W i (.own []))|_=>.bad
 | .setP i e,W=>match ev cal e W with
  |some (.lst xs)=>(match bj xs with
   |some ns=>.next (put W i (.ownD (.p ns.reverse)))
   |none=>.bad)
  | _=>.bad
 | .setX i x,W=>match evX cal x W with
  |some (v,l)=>.next (put l i (.val v))
  |none=>.bad
 | .ownX i xs,W=>match evXs cal xs W with
  |some (vs,l)=>if vs.length<=10000 then .next (put l i (.own vs))else .bad
  |none=>.bad
 | .appX i x,W=>match (W[i]?).join with
  |some (.own _)=>(match evX cal x W with
   |some (v,l)=>(match (l[i]?).join with
    |some (.own xs)=>if xs.length<10000 then .next (put l i (.own (xs++[v])))else .bad
    | _=>.bad)
   |none=>.bad)
  | _=>.bad
 | .retXE x,W=>match evX cal x W with
  |some (v,l)=>.retM v l
  |none=>.bad
 | .forX i x body,W=>match evX cal x W with
  |some (v,l)=>(match bg .rng [v]with
   |some xs=>aq (λy z=>exs cal body (put z i (.val y))) xs l
   |none=>.bad)
  |none=>.bad
 | .retN,_=>.ret .non
 | .brk,W=>.brk W
 | .cont,W=>.cont W
 | .pass,W=>.next W
 | .never,_=>.bad
noncomputable def exs(cal:Cal):List MS->Rho->R
 | [],W=>.next W
 |s::ss,W=>(ex cal s W).andThen λl=>exs cal ss l
end
structure MD where
 name:Str
 params:List Str
 names:List Str
 body:List MS
 deriving Inhabited
noncomputable def eN:List MV->Rho->Option (List PV)
 | [],_=>some []
 | .mutD _::as,some (.mutD d)::W=>(eN as W).map (.dI d::·)
 | .val _::as,_::W=>eN as W
 | _,_=>none
def aa(ds:List MD):Nat->Cal
 |0,_,_=>none
 |n+1,f,args=>match ds[f]? with
  |none=>if 2000<=f then(
   match ds[f-2000]? with
   |none=>none
   |some d=>if args.length=d.params.length then
     (match exs (aa ds n) d.body (args.map some++replicate (d.names.length-args.length) none)with
     | .retM v W=>(eN args W).map λds=>.tup (v::ds)
     | _=>none)else none)else
   (match ds[f-1000]? with
   |none=>none
   |some d=>if args.length=d.params.length then
     (match exs (aa ds n) d.body (args.map some++replicate (d.names.length-args.length) none)with
     | .retF xs=>some (.lst xs)
     | _=>none)else none)
  |some d=>if args.length=d.params.length then
    (match exs (aa ds n) d.body (args.map some++replicate (d.names.length-args.length) none)with
    | .next _=>some .non
    | .ret v=>some v
    | .retF xs=>some (.lst xs)
    | _=>none)else none
end MM
namespace MM
open PySem PySem.Spec PyProof.Rows L2 List Option
noncomputable abbrev St:=L2.St
noncomputable def aw(H:Hp)(O:List Addr):Hp:=λb=>if b∈O then none else H b
def e_(h:b∈O):aw H O b=none:=if_pos h
def be(h:b∉O):aw H O b=H b:=if_neg h
theorem ai.rd(s:ai H H')(h:Rd H a u):Rd H' a u:=h.elim (λe=>.inl (s a _ e)) λ⟨o,e⟩=>.inr ⟨o,s a _ e⟩
def bX(H)(O):ai (aw H O) H:=λb u e=>by
 unfold aw at e
 simp_all
def bU(s:ai H H')(h:∀b∈U,b∈O\/H b=none):ai (aw H O) (aw H' U):=λb u e=>by
 have J:b∉O:=λz=>by rw[e_ z]at e;cases e
 rw[be J]at e;rw[be]
 .exact s b u e
 .intro z;rcases h b z with q|q
  .exact J q
  .rw[q]at e;cases e
def am(s:ai H H'):ai (aw H O) (aw H' O):=bU s λ_ h=>.inl h
noncomputable def Sc.v:Sc->V
 | .non=>.non
 | .bl b=>.bl b
 | .int i=>.int i
 | .str x=>.str x
noncomputable def g8(kvs:List (Int×Sc)):List (Key×V):=kvs.map λp=>(Sum.inl p.1,p.2.v)
noncomputable def jY(kvs:List (List Int×Sc)):List (List Key×V):=kvs.map λp=>(p.1.map Sum.inl,p.2.v)
noncomputable def i5:DD->HO
 | .k kvs=>.dK (g8 kvs)
 | .t kvs=>.dT (jY kvs)
 | .p ns=>.lst (ns.map V.int)
def RdD(F:Hp)(a:Addr)(d:DD):Prop:=Rd F a (i5 d)/\sS d=true
theorem RdD.rd(h:RdD F a d):Rd F a (i5 d):=h.1
theorem ai.rdD(s:ai H H')(h:RdD H a d):RdD H' a d:=⟨ai.rd s h.1,h.2⟩
mutual
noncomputable def Rep(K:N0)(F:Hp):PV->V->Prop
 | .non,u=>u=.non
 | .bl b,u=>u=.bl b
 | .int i,u=>u=.int i
 | .str x,u=>u=.str x
 | .tup xs,u=>∃a us,u=.ref a/\F a=some (.tup us)/\Reps K F xs us
 | .lst xs,u=>∃a us,u=.ref a/\SqL K F a us/\Reps K F xs us
 | .dI kvs,u=>∃a,u=.ref a/\RdD F a kvs
noncomputable def Reps(K:N0)(F:Hp):List PV->List V->Prop
 | [],us=>us=[]
 |x::xs,us=>∃u r,us=u::r/\Rep K F x u/\Reps K F xs r
end
section
variable{K:N0}{F F':Hp}
mutual
theorem Rep.mono(s:ai F F'):∀(x:PV) {u:V},Rep K F x u->Rep K F' x u
 | .non,_,h=>by simpa only[Rep]using h
 | .bl _,_,h=>by simpa only[Rep]using h
 | .int _,_,h=>by simpa only[Rep]using h
 | .str _,_,h=>by simpa only[Rep]using h
 | .tup xs,_,h=>by
  rw[Rep]at h ⊢;obtain⟨a,us,e,q,r⟩:=h;exact⟨a,us,e,s a _ q,Reps.mono s xs r⟩
 | .lst xs,_,h=>by
  rw[Rep]at h ⊢;obtain⟨a,us,e,q,r⟩:=h;exact⟨a,us,e,s.seq q,Reps.mono s xs r⟩
 | .dI kvs,_,h=>by
  rw[Rep]at h ⊢;obtain⟨a,e,q⟩:=h;exact⟨a,e,ai.rdD s q⟩
theorem Reps.mono(s:ai F F'):∀(xs:List PV) {us:List V},Reps K F xs us->Reps K F' xs us
 | [],_,h=>by simpa only[Reps]using h
 |x::xs,_,h=>by
  rw[Reps]at h ⊢;obtain⟨u,r,e,q,t⟩:=h;exact⟨u,r,e,Rep.mono s x q,Reps.mono s xs t⟩
end
theorem Reps.nil:Reps K F [] []:=rfl
theorem Reps.cons{u:V}{us:List V}(h:Rep K F x u)(t:Reps K F xs us):Reps K F (x::xs) (u::us):=by
 rw[Reps];exact⟨u,us,rfl,h,t⟩
theorem Reps.length:∀{xs}{us},Reps K F xs us->xs.length=us.length
 | [],_,h=>by rw[Reps]at h;subst h;rfl
 |x::xs,_,h=>by
  obtain⟨u,r,e,_,t⟩:=h;subst e;simp[Reps.length t]
theorem Reps.get:∀{xs}{us}{i:Nat}{x},Reps K F xs us->xs[i]?=some x->∃u,us[i]?=some u/\Rep K F x u
 | [],_,_,_,_,e=>by simp at e
 |x::xs,_,i,y,h,e=>by
  obtain⟨u,r,rfl,q,t⟩:=h;cases i with
  |zero=>simp at e;subst e;exact⟨u,by simp,q⟩
  |succ i=>obtain⟨w,h1,h2⟩:=Reps.get (i:=i) t (by simpa using e);exact⟨w,by simpa using h1,h2⟩
theorem Reps.get':∀{xs}{us}{i:Nat}{u},Reps K F xs us->us[i]?=some u->∃x,xs[i]?=some x/\Rep K F x u
 | [],_,i,_,h,e=>by rw[Reps]at h;subst h;simp at e
 |x::xs,_,i,y,h,e=>by
  obtain⟨u,r,rfl,q,t⟩:=h;cases i with
  |zero=>simp at e;subst e;exact⟨x,by simp,q⟩
  |succ i=>obtain⟨w,h1,h2⟩:=Reps.get' (i:=i) t (by simpa using e);exact⟨w,by simpa using h1,h2⟩
theorem Reps.append:∀{xs ys}{us z},Reps K F xs us->Reps K F ys z->Reps K F (xs++ys) (us++z)
 | [],_,_,_,h,g=>by rw[Reps]at h;subst h;exact g
 |x::xs,_,_,_,h,g=>by
  obtain⟨u,r,rfl,q,t⟩:=h;exact .cons q (Reps.append t g)
theorem Reps.snoc(h:Reps K F xs us)(g:Rep K F x u):Reps K F (xs++[x]) (us++[u]):=h.append (.cons g .nil)
theorem Reps.take:∀{xs}{us} n,Reps K F xs us->Reps K F (xs.take n) (us.take n)
 | _,_,0,_=>by simpa using Reps.nil
 | [],_,n+1,h=>by rw[Reps]at h;subst h;simpa using Reps.nil
 |x::xs,_,n+1,h=>by
  obtain⟨u,r,rfl,q,t⟩:=h;exact .cons q (Reps.take n t)
theorem Reps.drop:∀{xs}{us} n,Reps K F xs us->Reps K F (xs.drop n) (us.drop n)
 | _,_,0,h=>h
 | [],_,n+1,h=>by rw[Reps]at h;subst h;simpa using Reps.nil
 |x::xs,_,n+1,h=>by
  obtain⟨u,r,rfl,q,t⟩:=h;exact Reps.drop n t
theorem Reps.ints:∀{ns:List Int}{us},Reps K F (ns.map .int) us->us=ns.map V.int
 | [],_,h=>by simpa[Reps]using h
 |n::ns,_,h=>by
  obtain⟨u,r,rfl,q,t⟩:=h;rw[q,Reps.ints t];rfl
theorem Reps.of_ints:∀(ns:List Int),Reps K F (ns.map .int) (ns.map V.int)
 | []=>.nil
 |n::ns=>.cons (by rw[Rep]) (Reps.of_ints ns)
theorem eA:∀{xs}{ns},bj xs=some ns->xs=ns.map .int
 | [],_,h=>by simp[bj]at h;subst h;rfl
 | .int i::r,ns,h=>by
  simp[bj]at h;obtain⟨ms,h1,rfl⟩:=h;rw[eA h1];rfl
 | .non::_,_,h=>by simp[bj]at h
 | .bl _::_,_,h=>by simp[bj]at h
 | .str _::_,_,h=>by simp[bj]at h
 | .tup _::_,_,h=>by simp[bj]at h
 | .lst _::_,_,h=>by simp[bj]at h
 | .dI _::_,_,h=>by simp[bj]at h
theorem sU:∀{xs}{ns},gY xs=some ns->xs=ns.map λt=>.tup (t.map .int)
 | [],_,h=>by simp[gY]at h;subst h;rfl
 | .tup i::r,ns,h=>by
  simp[gY,ft]at h;obtain⟨t,z,ms,h1,rfl⟩:=h;rw[sU h1,eA z];rfl
 | .non::_,_,h=>by simp[gY]at h
 | .bl _::_,_,h=>by simp[gY]at h
 | .str _::_,_,h=>by simp[gY]at h
 | .int _::_,_,h=>by simp[gY]at h
 | .lst _::_,_,h=>by simp[gY]at h
 | .dI _::_,_,h=>by simp[gY]at h
theorem lA:∀{xs}{ns},cT xs=some ns->xs=ns.map .bl
 | [],_,h=>by simp[cT]at h;subst h;rfl
 | .bl i::r,ns,h=>by
  simp[cT]at h;obtain⟨ms,h1,rfl⟩:=h;rw[lA h1];rfl
 | .non::_,_,h=>by simp[cT]at h
 | .int _::_,_,h=>by simp[cT]at h
 | .str _::_,_,h=>by simp[cT]at h
 | .tup _::_,_,h=>by simp[cT]at h
 | .lst _::_,_,h=>by simp[cT]at h
 | .dI _::_,_,h=>by simp[cT]at h
end
def eO{K:N0}{H:Hp}{a:Addr}{us:List V}(h:H a=some (.tup us)):SqT K H a us:=SqT.of h
def bJ(K:N0)(H:Hp)(O:List Addr)(v:PV)(u:V):Prop:=
 Rep K (aw H O) v u\/(∃xs a us,v=.lst xs/\u=.ref a/\SqL K H a us/\Reps K (aw H O) xs us)\/∃kvs a,v=.dI kvs/\u=.ref a/\RdD H a kvs
section
variable{K:N0}{H H':Hp}{O:List Addr}
theorem bJ.of(h:Rep K (aw H O) v u):bJ K H O v u:=.inl h
theorem bJ.mono(s:ai H H')(h:bJ K H O v u):bJ K H' O v u:=by
 rcases h with h|⟨xs,a,us,z,J,q,r⟩|⟨kvs,a,z,J,q⟩
 .exact .inl (Rep.mono (am s) _ h)
 .exact .inr (.inl ⟨xs,a,us,z,J,s.seq q,Reps.mono (am s) _ r⟩)
 .exact .inr (.inr ⟨kvs,a,z,J,ai.rdD s q⟩)
theorem bJ.lst(h:bJ K H O (.lst xs) u):∃a us,u=.ref a/\SqL K H a us/\Reps K (aw H O) xs us:=by
 rcases h with h|⟨ys,a,us,z,J,q,r⟩|⟨kvs,a,z,J,q⟩
 .rw[Rep]at h;obtain⟨a,us,e,q,r⟩:=h;exact⟨a,us,e,(bX H O).seq q,r⟩
 .cases z;exact⟨a,us,J,q,r⟩
 .cases z
def bJ.tupH(h:bJ K H O (.tup xs) u):∃a us,u=.ref a/\H a=some (.tup us)/\Reps K (aw H O) xs us:=by
 rcases h with h|⟨ys,a,us,z,J,q,r⟩|⟨kvs,a,z,J,q⟩
 .rw[Rep]at h;obtain⟨a,us,e,q,r⟩:=h;exact⟨a,us,e,bX H O a _ q,r⟩
 .cases z
 .cases z
theorem bJ.tup(h:bJ K H O (.tup xs) u):∃a us,u=.ref a/\SqT K H a us/\Reps K (aw H O) xs us:=by
 obtain⟨a,us,e,q,r⟩:=h.tupH;exact⟨a,us,e,SqT.of q,r⟩
def bJ.tupR(h:bJ K H O (.tup xs) u):Rep K (aw H O) (.tup xs) u:=by
 rcases h with h|⟨ys,a,us,z,J,q,r⟩|⟨kvs,a,z,J,q⟩
 .exact h
 .cases z
 .cases z
theorem bJ.dI(h:bJ K H O (.dI kvs) u):∃a,u=.ref a/\RdD H a kvs:=by
 rcases h with h|⟨ys,a,us,z,J,q,r⟩|⟨kvs,a,z,J,q⟩
 .rw[Rep]at h;obtain⟨a,e,q⟩:=h;exact⟨a,e,ai.rdD (bX H O) q⟩
 .cases z
 .simp_all
theorem bJ.int(h:bJ K H O (.int i) u):u=.int i:=by
 rcases h with h|⟨ys,a,us,z,J,q,r⟩|⟨kvs,a,z,J,q⟩
 .rw[Rep]at h;exact h
 .cases z
 .cases z
theorem bJ.bl(h:bJ K H O (.bl i) u):u=.bl i:=by
 rcases h with h|⟨ys,a,us,z,J,q,r⟩|⟨kvs,a,z,J,q⟩
 .rw[Rep]at h;exact h
 .cases z
 .cases z
theorem bJ.str(h:bJ K H O (.str i) u):u=.str i:=by
 rcases h with h|⟨ys,a,us,z,J,q,r⟩|⟨kvs,a,z,J,q⟩
 .rw[Rep]at h;exact h
 .cases z
 .cases z
theorem bJ.non(h:bJ K H O .non u):u=.non:=by
 rcases h with h|⟨ys,a,us,z,J,q,r⟩|⟨kvs,a,z,J,q⟩
 .rw[Rep]at h;exact h
 .cases z
 .cases z
theorem bJ.seq(h:bJ K H O v u)(e:bc v=some xs):∃a us,u=.ref a/\(SqL K H a us\/SqT K H a us)/\Reps K (aw H O) xs us:=by
 cases v<;>first|(simp[bc]at e;subst e;obtain⟨a,us,e,q,r⟩:=h.lst;exact⟨a,us,e,.inl q,r⟩)|(simp[bc]at e;subst e;obtain⟨a,us,e,q,r⟩:=h.tup;exact⟨a,us,e,.inr q,r⟩)|simp[bc]at e
def bJ.whole(h:bJ K H O v u):Rep K H v u:=by
 rcases h with h|⟨xs,a,us,rfl,z,q,r⟩|⟨kvs,a,rfl,z,q⟩
 .exact Rep.mono (bX H O) _ h
 .rw[Rep];exact⟨a,us,z,q,Reps.mono (bX H O) _ r⟩
 .rw[Rep];exact⟨a,z,q⟩
end
abbrev DAt(_:N0)(H:Hp)(_:List Addr)(a:Addr)(d:DD):Prop:=H a=some (i5 d)
theorem DAt.here{K:N0}(h:DAt K H O a d):∃o,H a=some o:=⟨_,h⟩
theorem DAt.put1{K:N0}(_:qX d y s=some d')(h:DAt K H O a d):H a=some (i5 d):=h
theorem DAt.put2{K:N0}{H:Hp}{O:List Addr}{a:Addr}{d d':DD}{y:PV}{s:Sc}(_:qX d y s=some d')(h:H a=some (i5 d')):DAt K H O a d':=h
theorem DAt.np{K:N0}(h:DAt K H O a d)(_:sS d=true):H a=some (i5 d):=h
theorem DAt.move{K:N0}{H H':Hp}{O z:List Addr}{a:Addr}{d:DD}(h:DAt K H O a d)(e:∀o,H a=some o->H' a=some o)(_:ai (aw H O) (aw H' z)):DAt K H' z a d:=e _ h
def fz(K:N0)(B:Hp)(O:List Addr)(H:Hp):MV->V->Prop
 | .val v,u=>Rep K (aw H O) v u
 | .own xs,u=>∃a us,u=.ref a/\H a=some (.lst us)/\Reps K (aw H O) xs us/\a∈O/\B a=none
 | .brw xs,u=>∃a us,u=.ref a/\SqL K B a us/\Reps K (aw H O) xs us
 | .ownD kvs,u=>∃a,u=.ref a/\DAt K H O a kvs/\a∈O/\B a=none
 | .mutD kvs,u=>∃a,u=.ref a/\DAt K H O a kvs/\a∈O/\B a=none
 | .brwD kvs,u=>∃a,u=.ref a/\Rd B a (i5 kvs)
noncomputable def i6:MV->Bool
 | .own _=>true
 | .ownD _=>true
 | .mutD _=>true
 | _=>false
structure aG(K:N0)(B:Hp)(E O:List Addr)(H:Hp)(W:Rho)(σ:St):Prop where
 keep:ai B H
 here:∀a∈O,H a≠none
 sub:∀a∈E,a∈O
 old:∀a∈E,B a≠none
 len:W.length=σ.length
 slot:∀(i:Nat) (m:MV),W[i]?=some (some m)->∃u,σ[i]?=some (some u)/\fz K B O H m u
 apart:∀(i j:Nat) (m m':MV) (a:Addr),i≠j->W[i]?=some (some m)->W[j]?=some (some m')->i6 m=true->i6 m'=true->σ[i]?=some (some (.ref a))->σ[j]?≠some (some (.ref a))
section
variable{K:N0}{B H H':Hp}{E O:List Addr}{W:Rho}{σ:St}
theorem fz.mono(s:ai H H')(h:fz K B O H m u):fz K B O H' m u:=by
 cases m with
 |val v=>exact Rep.mono (am s) _ h
 |own xs=>obtain⟨a,us,e,q,r,h1,h2⟩:=h;exact⟨a,us,e,s _ _ q,Reps.mono (am s) _ r,h1,h2⟩
 |brw xs=>obtain⟨a,us,e,q,r⟩:=h;exact⟨a,us,e,q,Reps.mono (am s) _ r⟩
 |brwD kvs=>exact h
 | _=>obtain⟨a,e,q,h1,h2⟩:=h;exact⟨a,e,q.move (s _) (am s),h1,h2⟩
theorem aG.mono(s:ai H H')(h:aG K B E O H W σ):aG K B E O H' W σ where
 keep:=h.keep.trans s
 here:=λa z e=>h.here a z (s.free e)
 sub:=h.sub
 old:=h.old
 len:=h.len
 slot:=λi m e=>let ⟨u,J,q⟩:=h.slot i m e;⟨u,J,q.mono s⟩
 apart:=h.apart
theorem fz.bor(z:ai B H)(h:fz K B O H m u)(e:bE (some m)=some v):bJ K H O v u:=by
 cases m with
 |val w=>simp[bE]at e;subst e;exact .inl h
 |own xs=>simp[bE]at e;subst e;obtain⟨a,us,e,q,r,_⟩:=h;exact .inr (.inl ⟨xs,a,us,rfl,e,SqL.of q,r⟩)
 |brw xs=>simp[bE]at e;subst e;obtain⟨a,us,e,q,r⟩:=h;exact .inr (.inl ⟨xs,a,us,rfl,e,z.seq q,r⟩)
 |ownD kvs|mutD kvs=>simp[bE]at e;obtain⟨np,rfl⟩:=e;obtain⟨a,e,q,_⟩:=h;exact .inr (.inr ⟨kvs,a,rfl,e,.inl (q.np np),np⟩)
 |brwD kvs=>simp[bE]at e;obtain⟨np,rfl⟩:=e;obtain⟨a,e,q⟩:=h;exact .inr (.inr ⟨kvs,a,rfl,e,ai.rd z q,np⟩)
end
def aH{α:Type}{o:Option (Option α)}{x:α}(h:o.join=some x):o=some (some x):=by
 cases o<;>simp_all
def wo(h:bE (some (.ownD d))=some v):v=.dI d:=by simp_all [bE]
def wq(h:bE (some (.brwD d))=some v):v=.dI d:=by simp_all [bE]
def wt(h:bE (some (.mutD d))=some v):v=.dI d:=by simp_all [bE]
structure Tab where
 fs:List Str
 gs:List (Str×PV)
 ds:List (List Sc)
noncomputable def E9(sc:Scope)(x:Str):Bool:=sc.names.lookup x==some .local||sc.names.lookup x==some .cell||sc.names.lookup x==some .free
noncomputable def fT(sc:Scope)(x:Str):Bool:=sc.names.lookup x==some .local||sc.names.lookup x==some .cell
noncomputable def glB(sc:Scope)(x:Str):Bool:=sc.names.lookup x==some .globalImplicit
noncomputable def ar (x:Str):Bool:=!(x==("__debug__":Str))&&!(x==("__classdict__":Str))&&!(x==("__name__":Str))
def ba(N:List Str)(sc:Scope)(i:Nat)(x:Str):Bool:=N[i]?==some x&&E9 sc x&&ar x
noncomputable def onQ{α:Type}:Option α->(α->Bool)->Bool
 |some a,f=>f a
 |none,_=>false
def ak(h:onQ o f=true):∃a,o=some a/\f a=true:=by
 cases o with
 |none=>cases h
 |some a=>exact⟨a,rfl,h⟩
def bY{α z:Type}{o:Option α}{f:α->Option z}{b:z}(h:o.bind f=some b):∃a,o=some a/\f a=some b:=ft.mp h
noncomputable def okQ{α:Type}(b:Bool)(x:α):Option α:=if b=true then some x else none
def jZ(h:okQ b x=some y):b=true/\x=y:=by
 cases b with
 |false=>cases h
 |true=>cases h;exact⟨rfl,rfl⟩
noncomputable def kH{α:Type}:List α->Option α
 | [x]=>some x
 | _=>none
def c9(h:kH l=some x):l=[x]:=by
 rcases l with _|⟨a,_|⟨b,l⟩⟩<;>cases h
 rfl
noncomputable def zW{α:Type}:List α->Option (α×α)
 | [x,y]=>some (x,y)
 | _=>none
def mS(h:zW l=some q):l=[q.1,q.2]:=by
 rcases l with _|⟨a,_|⟨b,_|⟨c,l⟩⟩⟩<;>cases h
 rfl
noncomputable def nmP:Expr->Option (Str×Pos)
 | .Name x p=>some (x,p)
 | _=>none
def eQ(h:nmP e=some q):e=.Name q.1 q.2:=by
 cases e<;>cases h
 rfl
noncomputable def caP:Expr->Option (Expr×List Expr×List Keyword×Pos)
 | .Call f as ks p=>some (f,as,ks,p)
 | _=>none
def zX(h:caP e=some q):e=.Call q.1 q.2.1 q.2.2.1 q.2.2.2:=by
 cases e<;>cases h
 rfl
noncomputable def atP:Expr->Option (Expr×Str×Pos)
 | .Attribute o m p=>some (o,m,p)
 | _=>none
def E_(h:atP e=some q):e=.Attribute q.1 q.2.1 q.2.2:=by
 cases e<;>cases h
 rfl
noncomputable def biP:Expr->Option (Expr×Operator×Expr×Pos)
 | .BinOp l o r p=>some (l,o,r,p)
 | _=>none
def qZ(h:biP e=some q):e=.BinOp q.1 q.2.1 q.2.2.1 q.2.2.2:=by
 cases e<;>cases h
 rfl
noncomputable def suP:Expr->Option (Expr×Expr×Pos)
 | .Subscript v s p=>some (v,s,p)
 | _=>none
def nT(h:suP e=some q):e=.Subscript q.1 q.2.1 q.2.2:=by
 cases e<;>cases h
 rfl
noncomputable def lcP:Expr->Option (Expr×List Comprehension×Scope×Pos)
 | .ListComp e g s p=>some (e,g,s,p)
 | _=>none
def va(h:lcP e=some q):e=.ListComp q.1 q.2.1 q.2.2.1 q.2.2.2:=by
 cases e<;>cases h
 rfl
noncomputable def coP:Expr->Option (Expr×List CmpOp×List Expr×Pos)
 | .Compare l o r p=>some (l,o,r,p)
 | _=>none
def Fa(h:coP e=some q):e=.Compare q.1 q.2.1 q.2.2.1 q.2.2.2:=by
 cases e<;>cases h
 rfl
noncomputable def ctP:Expr->Option (Const×Nat×Pos)
 | .Constant c j p=>some (c,j,p)
 | _=>none
def zY(h:ctP e=some q):e=.Constant q.1 q.2.1 q.2.2:=by
 cases e<;>cases h
 rfl
noncomputable def tuP:Expr->Option (List Expr×Nat×Pos)
 | .Tuple xs j p=>some (xs,j,p)
 | _=>none
def vb(h:tuP e=some q):e=.Tuple q.1 q.2.1 q.2.2:=by
 cases e<;>cases h
 rfl
noncomputable def liP:Expr->Option (List Expr×Pos)
 | .List xs p=>some (xs,p)
 | _=>none
def q8(h:liP e=some q):e=.List q.1 q.2:=by
 cases e<;>cases h
 rfl
noncomputable def unP:Expr->Option (UnaryOp×Expr×Pos)
 | .UnaryOp o e p=>some (o,e,p)
 | _=>none
def Fb(h:unP e=some q):e=.UnaryOp q.1 q.2.1 q.2.2:=by
 cases e<;>cases h
 rfl
noncomputable def boP:Expr->Option (BoolOp×List Expr×Pos)
 | .BoolOp o vs p=>some (o,vs,p)
 | _=>none
def zZ(h:boP e=some q):e=.BoolOp q.1 q.2.1 q.2.2:=by
 cases e<;>cases h
 rfl
noncomputable def ifP:Expr->Option (Expr×Expr×Expr×Pos)
 | .IfExp t x y p=>some (t,x,y,p)
 | _=>none
def Fc(h:ifP e=some q):e=.IfExp q.1 q.2.1 q.2.2.1 q.2.2.2:=by
 cases e<;>cases h
 rfl
noncomputable def slP:Expr->Option (Option Expr×Option Expr×Option Expr×Pos)
 | .Slice l u s p=>some (l,u,s,p)
 | _=>none
def Fd(h:slP e=some q):e=.Slice q.1 q.2.1 q.2.2.1 q.2.2.2:=by
 cases e<;>cases h
 rfl
noncomputable def asP:Stmt->Option (List Expr×Expr×Pos)
 | .Assign z v p=>some (z,v,p)
 | _=>none
def z5(h:asP s=some q):s=.Assign q.1 q.2.1 q.2.2:=by
 cases s<;>cases h
 rfl
def sV(e:Expr):Option (Str×List Expr):=(caP e).bind λc=>(nmP c.1).bind λx=>okQ c.2.2.1.isEmpty (x.1,c.2.1)
def fX(h:sV e=some q):∃p cp,e=.Call (.Name q.1 p) q.2 [] cp:=by
 obtain⟨c,h1,h⟩:=bY h;obtain⟨x,h2,h⟩:=bY h;obtain⟨z,rfl⟩:=jZ h;exact⟨_,_,by rw[zX h1,eQ h2,L8.mp z]⟩
def sW(e:Expr):Option (Str×Expr):=(sV e).bind λc=>(kH c.2).bind λa=>some (c.1,a)
def iw(h:sW e=some q):∃p cp,e=.Call (.Name q.1 p) [q.2] [] cp:=by
 obtain⟨c,h1,h⟩:=bY h;obtain⟨a,h2,h⟩:=bY h;cases h;obtain⟨p,cp,rfl⟩:=fX h1;exact⟨p,cp,by rw[c9 h2]⟩
def maP(e:Expr):Option (Expr×Str×Pos×List Expr×Pos):=(caP e).bind λc=>(atP c.1).bind λa=>okQ c.2.2.1.isEmpty (a.1,a.2.1,a.2.2,c.2.1,c.2.2.2)
def vc(h:maP e=some q):e=.Call (.Attribute q.1 q.2.1 q.2.2.1) q.2.2.2.1 [] q.2.2.2.2:=by
 obtain⟨c,h1,h⟩:=bY h;obtain⟨x,h2,h⟩:=bY h;obtain⟨z,rfl⟩:=jZ h;rw[zX h1,E_ h2,L8.mp z]
def maN(e:Expr):Option (Str×Str×Pos×List Expr×Pos):=(maP e).bind λa=>(nmP a.1).bind λx=>some (x.1,a.2.1,a.2.2.1,a.2.2.2.1,a.2.2.2.2)
def z6(h:maN e=some q):∃p,e=.Call (.Attribute (.Name q.1 p) q.2.1 q.2.2.1) q.2.2.2.1 [] q.2.2.2.2:=by
 obtain⟨c,h1,h⟩:=bY h;obtain⟨x,h2,h⟩:=bY h;cases h;exact⟨x.2,by rw[vc h1,eQ h2]⟩
def Fe(e:Expr):Option (Expr×CmpOp×Expr):=(coP e).bind λc=>(kH c.2.1).bind λo=>(kH c.2.2.1).bind λr=>some (c.1,o,r)
def wu(h:Fe e=some q):∃pos,e=.Compare q.1 [q.2.1] [q.2.2] pos:=by
 obtain⟨c,h1,h⟩:=bY h;obtain⟨x,h2,h⟩:=bY h;obtain⟨y,z,h⟩:=bY h;cases h;exact⟨c.2.2.2,by rw[Fa h1,c9 h2,c9 z]⟩
def HU(e:Expr):Option (Expr×Option Expr×Option Expr):=(suP e).bind λc=>(slP c.2.1).bind λs=>okQ s.2.2.1.isNone (c.1,s.1,s.2.1)
def CF(h:HU e=some q):∃p pos,e=.Subscript q.1 (.Slice q.2.1 q.2.2 none p) pos:=by
 obtain⟨c,h1,h⟩:=bY h;obtain⟨x,h2,h⟩:=bY h;obtain⟨z,rfl⟩:=jZ h;exact⟨_,_,by rw[nT h1,Fd h2,isNone_iff_eq_none.mp z]⟩
def lcX(e:Expr):Option (Expr×Scope×(Str×Pos)×Expr×List Expr):=(lcP e).bind λc=>(kH c.2.1).bind λg=>(nmP g.target).bind λx=>okQ (g.is_async==0) (c.1,c.2.2.1,x,g.iter,g.ifs)
def z7(h:lcX e=some q):∃pos,e=.ListComp q.1 [⟨.Name q.2.2.1.1 q.2.2.1.2,q.2.2.2.1,q.2.2.2.2,0⟩] q.2.1 pos:=by
 obtain⟨c,h1,h⟩:=bY h;obtain⟨⟨tg,it,is,as⟩,h2,h⟩:=bY h;obtain⟨x,z,h⟩:=bY h;obtain⟨J,rfl⟩:=jZ h;exact⟨c.2.2.2,by rw[va h1,c9 h2,eQ (e:=tg) z,show as=0 from eq_of_beq J]⟩
noncomputable def diP:Expr->Option (List (Option Expr)×List Expr×Pos)
 | .Dict ks vs p=>some (ks,vs,p)
 | _=>none
def z8(h:diP e=some q):e=.Dict q.1 q.2.1 q.2.2:=by
 cases e<;>cases h
 rfl
noncomputable def exP:Stmt->Option (Expr×Pos)
 | .Expr e p=>some (e,p)
 | _=>none
def Ff(h:exP s=some q):s=.Expr q.1 q.2:=by
 cases s<;>cases h
 rfl
noncomputable def reP:Stmt->Option (Option Expr×Pos)
 | .Return v p=>some (v,p)
 | _=>none
def Fg(h:reP s=some q):s=.Return q.1 q.2:=by
 cases s<;>cases h
 rfl
noncomputable def HV:Const->Option Str
 | .str x=>some x
 | _=>none
def CG(h:HV c=some x):c=.str x:=by
 cases c<;>cases h
 rfl
def Fh(e:Expr):Option Str:=(ctP e).bind λc=>HV c.1
def wv(h:Fh e=some x):∃j p,e=.Constant (.str x) j p:=by
 obtain⟨c,h1,h⟩:=bY h;exact⟨c.2.1,c.2.2,by rw[zY h1,CG h]⟩
noncomputable def hdQ{α:Type}:List α->Option (α×List α)
 |x::l=>some (x,l)
 | _=>none
def Fi(h:hdQ l=some q):l=q.1::q.2:=by
 cases l<;>cases h
 rfl
noncomputable def aN:ME->Bool
 | .bor _=>true
 | _=>false
noncomputable def vd:Op2->Operator
 | .add=>.Add|.sub=>.Sub|.mul=>.Mult|.fdiv=>.FloorDiv|.mod=>.Mod|.pow=>.Pow|.shr=>.RShift
noncomputable def z9:Cp->CmpOp
 | .eq=>.Eq|.ne=>.NotEq|.lt=>.Lt|.le=>.LtE|.gt=>.Gt|.ge=>.GtE|.isN=>.Is|.notN=>.IsNot|.isIn=>.In|.notIn=>.NotIn
noncomputable def ve:PV->Const->Bool
 | .non,.none=>true
 | .bl a,.bool b=>a==b
 | .int a,.int b=>a==b
 | .str a,.str b=>a==b
 | _,_=>false
noncomputable def DR:PV->PV->Bool
 | .non,.non=>true
 | .bl a,.bl b=>a==b
 | .int a,.int b=>a==b
 | .str a,.str b=>a==b
 | _,_=>false
def DS(gs:List (Str×PV))(x:Str)(v:PV):Bool:=gs.any λp=>p.1==x&&DR p.2 v
noncomputable def ah:Expr->Bool
 | .Starred ..=>false
 | _=>true
noncomputable def fC:Expr->Bool
 | .Set ..=>false
 | _=>true
noncomputable def b_:Expr->Bool
 | .Slice ..=>false
 | _=>true
noncomputable def bZ:Expr->Bool
 | .ListComp ..=>false
 | .SetComp ..=>false
 | .DictComp ..=>false
 | _=>true
noncomputable def lB:Expr->Bool
 | .UnaryOp .Not _ _=>false
 | .BoolOp ..=>false
 | .IfExp ..=>false
 | .Compare ..=>false
 | _=>true
noncomputable def sX:Blt->String
 | .len=>"len" | .tupleOf=>"tuple" | .listOf=>"list" | .sorted=>"sorted" | .any=>"any" | .all=>"all" | .sum=>"sum" | .max1=>"max" | .min1=>"min" | .max2=>"max" | .min2=>"min"
 | .intOf=>"int" | .boolOf=>"bool" | .isInt=>"isinstance" | .isBool=>"isinstance" | .isStr=>"isinstance" | .isList=>"isinstance" | .isTuple=>"isinstance" | .sortedKeys=>"sorted" | .valuesOf=>"list" | .sortedSet=>"sorted" | .lenSet=>"len" | .lenSetSub=>"len" | .tupleRev=>"tuple"
noncomputable def dD:Blt->Option String
 | .isInt=>some "int" | .isBool=>some "bool" | .isStr=>some "str" | .isList=>some "list" | .isTuple=>some "tuple"
 | _=>none
noncomputable def lC:Blt->Option Nat
 | .len|.tupleOf|.listOf|.sorted|.any|.all|.sum|.intOf|.boolOf|.max1|.sortedKeys=>some 1
 | .max2|.min2=>some 2
 | _=>none
noncomputable def fY(osc:Scope)(N:List Str)(scope:Scope)(x:Str)(fvs:List Str)(js:List Nat):Bool:=
 decide (∀y∈scope.names,y.2=.cell->y.1=x)&&decide (scope.names.lookup x=some .local/\(scope.names.filter λy=>y.2==.cell)=[]\/scope.names.lookup x=some .cell/\(scope.names.filter λy=>y.2==.cell)=[(x,.cell)])
 &&decide (∀y∈scope.names,y.2=.free->y.1≠x)&&scope.kind==.function&&decide (∀y∈scope.names,y.2=.local->scope.names.lookup y.1=some .local)
 &&decide ((x::fvs).Nodup)&&decide (∀y∈scope.names,y.2=.free->osc.names.lookup y.1=some .cell\/osc.names.lookup y.1=some .free)&&decide ((js.map λj=>N[j]?)=fvs.map some)
 &&decide (∀y∈fvs,scope.names.lookup y=some .free)
noncomputable def dO(N:List Str)(js:List Nat):List Str:=js.map λj=>(N[j]?).getD Str.empty
def nU(sc:Scope)(tup:Bool)(f:List Expr->Bool):Sk->Expr->Bool
 | .seq,it=>fC it&&f [it]
 | .rng,it=>onQ (sV it) λc=>c.1==("range":Str)&&glB sc c.1&&f c.2&&(c.2.length==1||c.2.length==2)
 | .rev,_=>false
 | .enm,it=>onQ (sW it) λc=>tup&&c.1==("enumerate":Str)&&glB sc c.1&&f [c.2]&&ah c.2
def sY(sc:Scope)(f:List Expr->Bool)(n:Nat)(c:String)(args:List Expr):Bool:=onQ (zW args) λa=>onQ (nmP a.2) λt=>t.1==(c:Str)&&glB sc t.1&&f [a.1]&&n==1
def vf(sc:Scope)(f:List Expr->Bool)(n:Nat)(g:Str)(args:List Expr):Bool:=onQ (kH args) λa=>onQ (sW a) λc=>c.1==g&&glB sc c.1&&f [c.2]&&n==1
noncomputable def p9:Expr->Bool
 | .Name _ _=>true
 | .Call _ (_::_) _ _=>true
 | _=>false
def mT(sc:Scope)(f:List Expr->Bool)(n:Nat)(b:Blt)(args:List Expr):Bool:=match b with
 | .sortedSet=>vf sc f n "set" args
 | .lenSet=>vf sc f n "set" args
 | .lenSetSub=>onQ (kH args) λa=>onQ (biP a) λb=>onQ (sW b.1) λc=>onQ (sW b.2.2.1) λd=>b.2.1==.Sub&&c.1==("set":Str)&&glB sc c.1&&d.1==("set":Str)&&glB sc d.1&&f [c.2,d.2]&&n==2
 | .tupleRev=>false
 | .valuesOf=>onQ (kH args) λa=>onQ (maP a) λc=>c.2.2.2.1.isEmpty&&c.2.1==("values":Str)&&p9 c.1&&c.2.2.1.endLine==c.2.2.2.2.line&&f [c.1]&&n==1
 | .boolOf=>false
 | .isStr=>false
 | .isList=>false
 |b=>match dD b with
  |some c=>sY sc f n c args
  |none=>lC b==some n&&f args
noncomputable def j3:ME->Bool
 | .cst .non=>true
 | _=>false
noncomputable def q_(f:Expr->Bool)(non:Bool):Option Expr->Bool
 |none=>non
 |some l=>f l&&!non
noncomputable def sZ(f:Expr->Bool)(m:ME):List Expr->Bool
 | []=>(match m with|.cst (.bl true)=>true|_=>false)
 | [c]=>f c
 | _=>false
noncomputable def HW(f:Expr->Bool)(op:BoolOp)(pos:Pos)(y:Expr):List Expr->Bool
 | []=>f y
 |z::r=>f (.BoolOp op (y::z::r) pos)
def Fj(g f:Expr->Bool)(op:BoolOp)(pos:Pos):List Expr->Bool
 |x::y::r=>g x&&HW f op pos y r
 | _=>false
def ww(h:Fj g f op pos vs=true):(∃x y,vs=[x,y]/\g x=true/\f y=true)\/∃x y z r,vs=x::y::z::r/\g x=true/\f (.BoolOp op (y::z::r) pos)=true:=by
 rcases vs with _|⟨x,_|⟨y,_|⟨z,r⟩⟩⟩
 .cases h
 .cases h
 .exact .inl ⟨x,y,rfl,gx.mp h⟩
 .exact .inr ⟨x,y,z,r,rfl,gx.mp h⟩
def z_(e:Expr):Option (List (Option Expr)×List Expr×Expr):=(suP e).bind λc=>(diP c.1).bind λd=>some (d.1,d.2.1,c.2.1)
def Aa(h:z_ e=some q):∃p pos,e=.Subscript (.Dict q.1 q.2.1 p) q.2.2 pos:=by
 obtain⟨c,h1,h⟩:=bY h;obtain⟨d,h2,h⟩:=bY h;cases h;exact⟨d.2.2,c.2.2,by rw[nT h1,z8 h2]⟩
def s_:List (Str×Str)->List (Option Expr)->List Expr->Bool
 | [],[],[]=>true
 |p::r,k::ks,v::vs=>k.bind Fh==some p.1&&Fh v==some p.2&&s_ r ks vs
 | _,_,_=>false
def DT(e:Expr):Option (Str×Str):=(sW e).bind λc=>(nmP c.2).bind λy=>some (c.1,y.1)
def CH(h:DT e=some q):∃p p2 pos,e=.Call (.Name q.1 p) [.Name q.2 p2] [] pos:=by
 obtain⟨c,h1,h⟩:=bY h;obtain⟨y,h2,h⟩:=bY h;cases h;obtain⟨p,pos,rfl⟩:=iw h1;exact⟨p,y.2,pos,by rw[eQ h2]⟩
mutual
noncomputable def chk(T:Tab):ME->List Str->Scope->Expr->Bool
 | .var i,N,sc,J=>onQ (nmP J) λx=>ba N sc i x.1
 | .bor i,N,sc,J=>onQ (nmP J) λx=>ba N sc i x.1
 | .cst v,_,_,J=>onQ (ctP J) λc=>ve v c.1
 | .glob x v,_,sc,J=>onQ (nmP J) λy=>x==y.1&&glB sc x&&DS T.gs x v&&ar x
 | .bin op a b,N,sc,J=>onQ (biP J) λq=>q.2.1==vd op&&chk T a N sc q.1&&chk T b N sc q.2.2.1
 | .neg _,_,_,_=>false
 | .not a,N,sc,J=>onQ (unP J) λq=>q.1==.Not&&chk T a N sc q.2.1
 | .and a b,N,sc,J=>onQ (boP J) λq=>q.1==.And&&Fj (λe=>chk T a N sc e) (λe=>chk T b N sc e) .And q.2.2 q.2.1
 | .or a b,N,sc,J=>onQ (boP J) λq=>q.1==.Or&&Fj (λe=>chk T a N sc e) (λe=>chk T b N sc e) .Or q.2.2 q.2.1
 | .ite c a b,N,sc,J=>onQ (ifP J) λq=>chk T c N sc q.1&&chk T a N sc q.2.1&&chk T b N sc q.2.2.1&&!aN a&&!aN b
 | .cmp op a b,N,sc,J=>onQ (Fe J) λq=>q.2.1==z9 op&&chk T a N sc q.1&&chk T b N sc q.2.2&&!behindInMarks q.2.1 q.2.2
 | .chain _ _ _ _ _,_,_,_=>false
 | .tup es,N,sc,J=>onQ (tuP J) λq=>chks T es N sc q.1&&es.all (λe=>!aN e)
 | .lst es,N,sc,J=>onQ (liP J) λq=>chks T es N sc q.1&&es.all (λe=>!aN e)
 | .idx a i,N,sc,J=>onQ (suP J) λq=>chk T a N sc q.1&&chk T i N sc q.2.1&&b_ q.2.1
 | .slice a lo hi,N,sc,J=>onQ (HU J) λq=>chk T a N sc q.1&&q_ (λe=>chk T lo N sc e) (j3 lo) q.2.1&&q_ (λe=>chk T hi N sc e) (j3 hi) q.2.2
 | .blt b es,N,sc,J=>onQ (sV J) λq=>q.1==(sX b:Str)&&glB sc q.1&&mT sc (λxs=>chks T es N sc xs) es.length b q.2
 | .call f es,N,sc,J=>onQ (sV J) λq=>T.fs[f]?==some q.1&&glB sc q.1&&ar q.1&&chks T es N sc q.2
 | .callD _ _ _,_,_,_=>false
 | .comp k src js cond elt,N,sc,J=>onQ (lcX J) λq=>fY sc N q.2.1 q.2.2.1.1 (dO N js) js&&nU sc false (λxs=>chks T src N sc xs) k q.2.2.2.1&&sZ (λc=>chk T cond (q.2.2.1.1::dO N js) (mI q.2.1 sc) c) cond q.2.2.2.2&&chk T elt (q.2.2.1.1::dO N js) (mI q.2.1 sc) q.1&&!aN elt
 | .dget a k d,N,sc,J=>onQ (maP J) λc=>onQ (zW c.2.2.2.1) λz=>c.2.1==("get":Str)&&p9 c.1&&c.2.2.1.endLine==c.2.2.2.2.line&&chk T a N sc c.1&&chk T k N sc z.1&&chk T d N sc z.2&&ah z.1&&ah z.2
 | .dat a k,N,sc,J=>onQ (suP J) λq=>chk T a N sc q.1&&chk T k N sc q.2.1&&b_ q.2.1
 | .dIn neg k a,N,sc,J=>onQ (Fe J) λq=>q.2.1==(if neg=true then CmpOp.NotIn else CmpOp.In)&&chk T k N sc q.1&&chk T a N sc q.2.2&&!behindInMarks q.2.1 q.2.2
 | .disp kvs e,N,sc,J=>onQ (z_ J) λq=>s_ kvs q.1 q.2.1&&chk T e N sc q.2.2&&b_ q.2.2&&decide (kvs.length<=15)&&!kvs.isEmpty
 | .lenP i,N,sc,J=>onQ (DT J) λq=>q.1==("len":Str)&&glB sc q.1&&ba N sc i q.2
noncomputable def chks(T:Tab):List ME->List Str->Scope->List Expr->Bool
 | [],_,_,[]=>true
 |m::ms,N,sc,e::es=>chk T m N sc e&&ah e&&chks T ms N sc es
 | _,_,_,_=>false
end
def kI(h:chk T (.bor i) N sc e=true):∃x p,e=.Name x p/\ba N sc i x=true:=by
 replace h:=ak h
 obtain⟨x,h1,h⟩:=h;exact⟨x.1,x.2,eQ h1,h⟩
def ca(h:chks T (m::ms) N sc (e::es)=true):(chk T m N sc e=true/\ah e=true)/\chks T ms N sc es=true:=by
 obtain⟨a,b⟩:=gx.mp h;exact⟨gx.mp a,b⟩
def lD{cond elt:ME}(h:chk T (.comp z src js cond elt) N sc J=true):∃e x px it ifs scope pos,J=.ListComp e [⟨.Name x px,it,ifs,0⟩] scope pos /\
  (fY sc N scope x (dO N js) js&&nU sc false (λxs=>chks T src N sc xs) z it&&sZ (λc=>chk T cond (x::dO N js) (mI scope sc) c) cond ifs&&chk T elt (x::dO N js) (mI scope sc) e&&!aN elt)=true:=by
 replace h:=ak h
 obtain⟨q,w,h⟩:=h;obtain⟨pos,rfl⟩:=z7 w;exact⟨_,_,_,_,_,_,_,rfl,h⟩
def nV(h:aN m=true):∃i,m=.bor i:=by
 cases m<;>first|(cases h;done)|exact⟨_,rfl⟩
noncomputable def i7:ME->Bool
 | .lst _=>true
 | .comp ..=>true
 | .blt .listOf _=>true
 | .blt .sorted _=>true
 | .blt .sortedSet _=>true
 | .blt .sortedKeys _=>true
 | .blt .valuesOf _=>true
 | _=>false
def DU(sc:Scope)(t:Str)(tpos:Pos)(e:Expr):Bool:=onQ (lcP e) λq=>sc.names.lookup t==some .local&&tpos.line==q.2.2.2.line&&!(q.2.2.1.names.any λ(n,k)=>n==t&&(k==.local||k==.cell))
def p_(sc:Scope)(t:Str)(tpos:Pos)(v:Expr)(e:ME):Bool:=DU sc t tpos v
def dX(N:List Str)(sc:Scope):List Nat->List Expr->Bool
 | [],[]=>true
 |i::is,.Name x _::es=>N[i]?==some x&&fT sc x&&ar x&&dX N sc is es
 | _,_=>false
def ra(N)(sc)(i)(is)(x)(p)(es):dX N sc (i::is) (.Name x p::es)=(N[i]?==some x&&fT sc x&&ar x&&dX N sc is es):=rfl
def j4:List Bool->List ME->Bool
 | [],[]=>true
 |true::bs,e::es=>aN e&&j4 bs es
 |false::bs,_::es=>j4 bs es
 | _,_=>false
noncomputable def fD:List Bool->List ME->List Nat
 |true::bs,.bor i::es=>i::fD bs es
 | _::bs,_::es=>fD bs es
 | _,_=>[]
def fZ(T:Tab)(f:Nat)(mask:List Bool)(es:List ME)(N:List Str)(sc:Scope)(x:Expr):Bool:=onQ (sV x) λc=>T.fs[f]?==some c.1&&glB sc c.1&&ar c.1&&chks T es N sc c.2&&j4 mask es&&decide (fD mask es).Nodup&&!c.2.isEmpty
def nW(h:fZ T f mask es N sc e=true):∃g p args cp,e=.Call (.Name g p) args [] cp/\(T.fs[f]?==some g&&glB sc g&&ar g&&chks T es N sc args&&j4 mask es&&decide (fD mask es).Nodup&&!args.isEmpty)=true:=by
 replace h:=ak h
 obtain⟨c,w,h⟩:=h;obtain⟨p,cp,rfl⟩:=fX w;exact⟨c.1,p,c.2,cp,rfl,h⟩
def HX(e:Expr):Option (Expr×Expr):=(biP e).bind λc=>okQ (c.2.1==.Add) (c.1,c.2.2.1)
def CI(h:HX e=some q):∃pos,e=.BinOp q.1 .Add q.2 pos:=by
 obtain⟨c,h1,h⟩:=bY h;obtain⟨h2,rfl⟩:=jZ h;exact⟨c.2.2.2,by rw[qZ h1,eq_of_beq h2]⟩
def HY(e:Expr):Option (Expr×Expr):=(tuP e).bind λc=>zW c.1
def CJ(h:HY e=some q):∃j pos,e=.Tuple [q.1,q.2] j pos:=by
 obtain⟨c,h1,h⟩:=bY h;exact⟨c.2.1,c.2.2,by rw[vb h1,mS h]⟩
noncomputable def vg:ME->Bool
 | .cst .non=>true
 | _=>false
def Ab(T:Tab)(k:SK)(e:ME)(f:Nat)(mask:List Bool)(es:List ME)(N:List Str)(sc:Scope)(x:Expr):Bool:=match k with
 | .one=>vg e&&fZ T f mask es N sc x
 | .cat=>match HX x with|some q=>chk T e N sc q.1&&!aN e&&fZ T f mask es N sc q.2|none=>false
 | .pair=>match HY x with|some q=>chk T e N sc q.1&&!aN e&&ah q.1&&fZ T f mask es N sc q.2|none=>false
def Ac(e:Expr):Option (Expr×Scope×Str×Expr):=(lcX e).bind λc=>okQ c.2.2.2.2.isEmpty (c.1,c.2.1,c.2.2.1.1,c.2.2.2.1)
def Ad(h:Ac e=some q):∃z pos,e=.ListComp q.1 [⟨.Name q.2.2.1 z,q.2.2.2,[],0⟩] q.2.1 pos:=by
 obtain⟨c,h1,h⟩:=bY h;obtain⟨h2,rfl⟩:=jZ h;obtain⟨pos,rfl⟩:=z7 h1;exact⟨_,pos,by rw[L8.mp h2]⟩
def Fk(e:Expr):Option (Str×Str×Expr):=(sW e).bind λc=>(sW c.2).bind λd=>some (c.1,d.1,d.2)
def CK(h:Fk e=some q):∃p p2 pos2 pos,e=.Call (.Name q.1 p) [.Call (.Name q.2.1 p2) [q.2.2] [] pos2] [] pos:=by
 obtain⟨c,h1,h⟩:=bY h;obtain⟨d,h2,h⟩:=bY h;cases h;obtain⟨p,pos,rfl⟩:=iw h1;obtain⟨p2,pos2,e⟩:=iw h2;exact⟨p,p2,pos2,pos,by rw[e]⟩
def Fl(e:Expr):Option (Str×Str×Pos×Pos):=(maN e).bind λa=>okQ a.2.2.2.1.isEmpty (a.1,a.2.1,a.2.2.1,a.2.2.2.2)
def CL(h:Fl e=some q):∃p,e=.Call (.Attribute (.Name q.1 p) q.2.1 q.2.2.1) [] [] q.2.2.2:=by
 obtain⟨x,h1,h⟩:=bY h;obtain⟨h2,rfl⟩:=jZ h;obtain⟨p,rfl⟩:=z6 h1;exact⟨p,by rw[L8.mp h2]⟩
def Fm(e:Expr):Option (Expr×Operator×Expr):=(biP e).bind λc=>some (c.1,c.2.1,c.2.2.1)
def CM(h:Fm e=some q):∃pos,e=.BinOp q.1 q.2.1 q.2.2 pos:=by
 obtain⟨c,h1,h⟩:=bY h;cases h;exact⟨c.2.2.2,qZ h1⟩
def fnQ(e:Expr):Option (Str×Expr×List Expr):=(sV e).bind λc=>(hdQ c.2).bind λa=>some (c.1,a.1,a.2)
def vh(h:fnQ e=some q):∃p pos,e=.Call (.Name q.1 p) (q.2.1::q.2.2) [] pos:=by
 obtain⟨c,h1,h⟩:=bY h;obtain⟨a,h2,h⟩:=bY h;cases h;obtain⟨p,pos,rfl⟩:=fX h1;exact⟨p,pos,by rw[Fi h2]⟩
def Fn(e:Expr):Option (List Expr):=(tuP e).bind λc=>some c.1
def CN(h:Fn e=some q):∃j pos,e=.Tuple q j pos:=by
 obtain⟨c,h1,h⟩:=bY h;cases h;exact⟨c.2.1,c.2.2,vb h1⟩
def Fo(e:Expr):Option (List Expr):=(liP e).bind λc=>some c.1
def CO(h:Fo e=some q):∃pos,e=.List q pos:=by
 obtain⟨c,h1,h⟩:=bY h;cases h;exact⟨c.2,q8 h1⟩
def Fp(e:Expr):Option (Str×Expr×Expr):=(sV e).bind λc=>(zW c.2).bind λa=>some (c.1,a.1,a.2)
def CP(h:Fp e=some q):∃p pos,e=.Call (.Name q.1 p) [q.2.1,q.2.2] [] pos:=by
 obtain⟨c,h1,h⟩:=bY h;obtain⟨a,h2,h⟩:=bY h;cases h;obtain⟨p,pos,rfl⟩:=fX h1;exact⟨p,pos,by rw[mS h2]⟩
mutual
noncomputable def dl(T:Tab):XE->List Str->Scope->Expr->Bool
 | .pure e,N,sc,x=>chk T e N sc x&&!aN e&&bZ x
 | .call f mask es,N,sc,x=>fZ T f mask es N sc x
 | .pop i,N,sc,x=>onQ (Fl x) λq=>ba N sc i q.1&&q.2.1==("pop":Str)&&q.2.2.1.endLine==q.2.2.2.line
 | .bin op a b,N,sc,x=>onQ (Fm x) λq=>q.2.1==vd op&&dl T a N sc q.1&&chk T b N sc q.2.2
 | .fn g a es,N,sc,x=>onQ (fnQ x) λq=>T.fs[g]?==some q.1&&glB sc q.1&&ar q.1&&dl T a N sc q.2.1&&ah q.2.1&&chks T es N sc q.2.2
 | .tup xs,N,sc,x=>onQ (Fn x) λq=>chkXEs T xs N sc q
 | .lst xs,N,sc,x=>onQ (Fo x) λq=>chkXEs T xs N sc q
 | .fn2 g e a,N,sc,x=>onQ (Fp x) λq=>T.fs[g]?==some q.1&&glB sc q.1&&ar q.1&&chk T e N sc q.2.1&&!aN e&&ah q.2.1&&dl T a N sc q.2.2&&ah q.2.2
 | .tupOf a,N,sc,x=>onQ (fnQ x) λq=>q.1==("tuple":Str)&&glB sc q.1&&q.2.2.isEmpty&&dl T a N sc q.2.1&&ah q.2.1
 | .compS src js k e f mask es,N,sc,x=>onQ (Ac x) λc=>fY sc N c.2.1 c.2.2.1 (dO N js) js&&nU sc false (λxs=>chks T [src] N sc xs) .seq c.2.2.2&&!aN src&&Ab T k e f mask es (c.2.2.1::dO N js) (mI c.2.1 sc) c.1&&decide js.Nodup
noncomputable def chkXEs(T:Tab):List XE->List Str->Scope->List Expr->Bool
 | [],_,_,[]=>true
 |x::xs,N,sc,e::es=>dl T x N sc e&&ah e&&chkXEs T xs N sc es
 | _,_,_,_=>false
end
def pF(s:Stmt):Option (Str×Pos×Expr):=(asP s).bind λc=>(kH c.1).bind λu=>(nmP u).bind λx=>some (x.1,x.2,c.2.1)
def jr(h:pF s=some q):∃pos,s=.Assign [.Name q.1 q.2.1] q.2.2 pos:=by
 obtain⟨c,h1,h⟩:=bY h;obtain⟨u,h2,h⟩:=bY h;obtain⟨x,z,h⟩:=bY h;cases h;exact⟨c.2.2,by rw[z5 h1,c9 h2,eQ z]⟩
def Ae(s:Stmt):Option (Str×Str×Pos×List Expr×Pos):=(exP s).bind λa=>maN a.1
def rb(h:Ae s=some q):∃p pos,s=.Expr (.Call (.Attribute (.Name q.1 p) q.2.1 q.2.2.1) q.2.2.2.1 [] q.2.2.2.2) pos:=by
 obtain⟨x,h1,h⟩:=bY h;obtain⟨p,e⟩:=z6 h;exact⟨p,x.2,by rw[Ff h1,e]⟩
def HZ(s:Stmt):Option (Str×Expr×Expr):=(asP s).bind λc=>(kH c.1).bind λu=>(suP u).bind λw=>(nmP w.1).bind λx=>some (x.1,w.2.1,c.2.1)
def CQ(h:HZ s=some q):∃p sp pos,s=.Assign [.Subscript (.Name q.1 p) q.2.1 sp] q.2.2 pos:=by
 refine aB λY z=>?_
 obtain⟨c,h1,h⟩:=bY h;obtain⟨u,h2,h⟩:=bY h;obtain⟨w,J,h⟩:=bY h;obtain⟨x,U,h⟩:=bY h;cases h;refine z ?_;exact⟨x.2,w.2.2,c.2.2,by rw[z5 h1,c9 h2,nT J,eQ U]⟩
def xV(s:Stmt):Option (Expr):=(reP s).bind λc=>c.1
def mU(h:xV s=some v):∃pos,s=.Return (some v) pos:=by
 obtain⟨c,h1,h⟩:=bY h;exact⟨c.2,by rw[Fg h1,h]⟩
def DV(e:Expr):Option (Str):=(nmP e).bind λx=>some x.1
def Af(h:DV e=some x):∃p,e=.Name x p:=by
 obtain⟨x,h1,h⟩:=bY h;cases h;exact⟨x.2,eQ h1⟩
def DW(e:Expr):Bool:=onQ (diP e) λd=>d.1.isEmpty&&d.2.1.isEmpty
def Ag(h:DW e=true):∃p,e=.Dict [] [] p:=by
 replace h:=ak h
 obtain⟨d,h1,h⟩:=h;obtain⟨h2,z⟩:=gx.mp h;exact⟨d.2.2,by rw[z8 h1,L8.mp h2,L8.mp z]⟩
mutual
noncomputable def g9(T:Tab)(N:List Str)(sc:Scope):MS->Stmt->Bool
 | .set i e,s0=>onQ (pF s0) λq=>N[i]?==some q.1&&fT sc q.1&&ar q.1&&chk T e N sc q.2.2&&!aN e&&(bZ q.2.2||p_ sc q.1 q.2.1 q.2.2 e)
 | .setOwn i e,s0=>onQ (pF s0) λq=>N[i]?==some q.1&&fT sc q.1&&ar q.1&&chk T e N sc q.2.2&&i7 e&&(bZ q.2.2||p_ sc q.1 q.2.1 q.2.2 e)
 | .append i e,s0=>onQ (Ae s0) λq=>onQ (kH q.2.2.2.1) λv=>ba N sc i q.1&&q.2.1==("append":Str)&&chk T e N sc v&&!aN e&&ah v&&q.2.2.1.endLine==q.2.2.2.2.line
 | .extend i e,s0=>onQ (Ae s0) λq=>onQ (kH q.2.2.2.1) λv=>ba N sc i q.1&&q.2.1==("extend":Str)&&chk T e N sc v&&ah v&&q.2.2.1.endLine==q.2.2.2.2.line
 | .setIdx _ _ _,_=>false
 | .unpack _ _,_=>false
 | .ite c a b,s0=>(match s0 with|.If t x y _=>chk T c N sc t&&chkSs T N sc a x&&chkSs T N sc b y|_=>false)
 | .for1 i k src body,s0=>(match s0 with|.For (.Name x _) it b [] _=>N[i]?==some x&&fT sc x&&ar x&&nU sc false (λxs=>chks T src N sc xs) k it&&chkSs T N sc body b|_=>false)
 | .forT is k src body,s0=>(match s0 with|.For (.Tuple z _ _) it b [] _=>dX N sc is z&&nU sc true (λxs=>chks T src N sc xs) k it&&chkSs T N sc body b|_=>false)
 | .ret e,s0=>onQ (xV s0) λv=>chk T e N sc v&&!aN e
 | .retOwn i,s0=>onQ (xV s0) λv=>onQ (DV v) λx=>ba N sc i x
 | .retM e,s0=>onQ (xV s0) λv=>chk T e N sc v&&!aN e
 | .setP i e,s0=>onQ (pF s0) λq=>N[i]?==some q.1&&fT sc q.1&&ar q.1&&onQ (Fk q.2.2) λr=>r.1==("list":Str)&&r.2.1==("reversed":Str)&&glB sc r.1&&glB sc r.2.1&&chk T e N sc r.2.2&&ah r.2.2
 | .setX i x,s0=>onQ (pF s0) λq=>N[i]?==some q.1&&fT sc q.1&&ar q.1&&dl T x N sc q.2.2&&bZ q.2.2
 | .ownX i xs,s0=>onQ (pF s0) λq=>onQ (liP q.2.2) λr=>N[i]?==some q.1&&fT sc q.1&&chkXEs T xs N sc r.1
 | .appX i x,s0=>onQ (Ae s0) λq=>onQ (kH q.2.2.2.1) λv=>ba N sc i q.1&&q.2.1==("append":Str)&&dl T x N sc v&&ah v&&q.2.2.1.endLine==q.2.2.2.2.line
 | .retXE x,s0=>onQ (xV s0) λv=>dl T x N sc v
 | .forX i x body,s0=>(match s0 with|.For (.Name y _) it b [] _=>N[i]?==some y&&fT sc y&&ar y&&onQ (fnQ it) (λq=>q.1==("range":Str)&&glB sc q.1&&q.2.2.isEmpty&&dl T x N sc q.2.1&&ah q.2.1)&&chkSs T N sc body b|_=>false)
 | .never,_=>true
 | .newD _ i,s0=>onQ (pF s0) λq=>DW q.2.2&&(N[i]?==some q.1&&fT sc q.1&&ar q.1)
 | .dput i k e,s0=>onQ (HZ s0) λq=>ba N sc i q.1&&chk T k N sc q.2.1&&b_ q.2.1&&chk T e N sc q.2.2&&!aN e&&bZ q.2.2
 | _,_=>false
noncomputable def chkSs(T:Tab)(N:List Str)(sc:Scope):List MS->List Stmt->Bool
 | [],[]=>true
 | .freeze _::_,_=>false
 |m::ms,s::ss=>g9 T N sc m s&&chkSs T N sc ms ss
 | _,_=>false
end
def CS (T) (N) (sc) (i) (x) (body) (s0):g9 T N sc (.forX i x body) s0=(match s0 with|.For (.Name y _) it b [] _=>N[i]?==some y&&fT sc y&&ar y&&onQ (fnQ it) (λq=>q.1==("range":Str)&&glB sc q.1&&q.2.2.isEmpty&&dl T x N sc q.2.1&&ah q.2.1)&&chkSs T N sc body b|_=>false):=rfl
def CT(T)(N)(sc)(i)(k)(src)(body)(s0):g9 T N sc (.for1 i k src body) s0=(match s0 with|.For (.Name x _) it b [] _=>N[i]?==some x&&fT sc x&&ar x&&nU sc false (λxs=>chks T src N sc xs) k it&&chkSs T N sc body b|_=>false):=rfl
def CU(T)(N)(sc)(is)(k)(src)(body)(s0):g9 T N sc (.forT is k src body) s0=(match s0 with|.For (.Tuple z _ _) it b [] _=>dX N sc is z&&nU sc true (λxs=>chks T src N sc xs) k it&&chkSs T N sc body b|_=>false):=rfl
theorem nX(z:∀x b,f x x=some b->b=true):∀xs {b},eqL f xs xs=some b->b=true
 | [],b,h=>by simp[eqL]at h;exact h
 |x::xs,b,h=>by
  simp only[eqL,ft,oe]at h;obtain⟨p,h1,q,h2,rfl⟩:=h;rw[z x p h1,nX z xs h2];rfl
theorem kJ:∀(n:Nat) (x:PV) {b:Bool},eqF n x x=some b->b=true
 |n,.non,b,h=>by cases n<;>cases h<;>rfl
 |n,.bl x,b,h=>by cases n<;>cases h<;>exact LQ x
 |n,.int x,b,h=>by cases n<;>cases h<;>exact LQ x
 |n,.str x,b,h=>by cases n<;>cases h<;>exact LQ x
 |0,.tup _,b,h=>by cases h
 |0,.lst _,b,h=>by cases h
 |n+1,.tup xs,b,h=>nX (λx b=>kJ n x) xs h
 |n+1,.lst xs,b,h=>nX (λx b=>kJ n x) xs ((if_pos rfl).symm.trans h)
 |n,.dI _,b,h=>by cases n<;>cases h
def gE{n:Nat}{x y:PV}{b:Bool}(h:eqF n x y=some b):isD x=false/\isD y=false:=by
 cases x<;>cases y<;>first|exact⟨rfl,rfl⟩|(cases n<;>cases h)
noncomputable def Fq:PV->Bool
 | .tup _=>true
 | .lst _=>true
 | _=>false
def f_{n:Nat}{x y:PV}{b:Bool}(h:eqF n x y=some b)(e:Fq x=!Fq y):b=false:=by
 cases x<;>cases y<;>first|(cases e;done)|(cases n<;>cases h<;>rfl)
theorem kK :∀xs ys {b},eqL f xs ys=some b ->
  (∀(j:Nat) x y,xs[j]?=some x->ys[j]?=some y->∃c,f x y=some c) /\
   b=((range (min xs.length ys.length)).all (λj=>(f (xs.getD j .non) (ys.getD j .non)).getD false)&&xs.length==ys.length)
 | [],[],b,h=>by simp[eqL]at h;subst h;simp
 | [],y::ys,b,h=>by simp[eqL]at h;subst h;simp
 |x::xs,[],b,h=>by simp[eqL]at h;subst h;simp
 |x::xs,y::ys,b,h=>by
  simp only[eqL,ft,oe]at h;obtain⟨p,h1,q,h2,rfl⟩:=h;obtain⟨z,J⟩:=kK xs ys h2;refine⟨λj Z y' U Y=>?_,?_⟩
  .cases j with
   |zero=>simp at U Y;subst U Y;exact⟨p,h1⟩
   |succ j=>exact z j Z y' (by simpa using U) (by simpa using Y)
  .rw[J];have hm:min (x::xs).length (y::ys).length=min xs.length ys.length+1:=by simp only[length_cons];omega
   rw[hm,range_succ_eq_map,all_cons,Nc];have hl:((x::xs).length==(y::ys).length)=(xs.length==ys.length):=by
    simp_all
   rw[hl,Bool.and_assoc];simp only[getD_cons_zero,h1,getD_some,Function.comp_def,getD_cons_succ]
theorem wz :∀xs {b},inL f xs=some b->(∀x∈xs,∃c,f x=some c)/\b=xs.any λx=>(f x).getD false
 | [],b,h=>by simp[inL]at h;subst h;simp
 |x::xs,b,h=>by
  simp only[inL,ft,oe]at h;obtain⟨p,h1,q,h2,rfl⟩:=h;obtain⟨z,U⟩:=wz xs h2;refine⟨λy J=>?_,?_⟩
  .rcases wh.mp J with rfl|J
   .exact⟨p,h1⟩
   .exact z y J
  .simp_all
section
variable{X:Cx}{pins:List (Addr×Obj)}{σ:St}{H:Hp}{s:Shared}
def ti(I:Inv X pins σ H s)(h1:SqL X.K H a xs)(h2:SqT X.K H a ys):False:=by
 obtain⟨its,_,p,_⟩:=I.list h1;obtain⟨z,_,q,_⟩:=I.tuple h2;exact SeqAt.ne_of_list_tuple p.isList (show s.heap.IsTuple a z.toArray from q) rfl
def re(h:RdD H a d):IsD H a:=by
 cases d<;>first|exact .inl ⟨_,h.rd⟩|exact .inr ⟨_,h.rd⟩|exact absurd h.2 mu
def mV(I:Inv X pins σ H s)(h1:SqL X.K H a xs\/SqT X.K H a xs)(h2:RdD H a d):False:=by
 obtain⟨o,ho,hc⟩:=(uP I (re h2)).1;rcases h1 with h1|h1
 .obtain⟨its,_,p,_⟩:=I.list h1;obtain⟨o',z,J,_⟩:=p.isList;rw[ho]at z;cases z;rw[hc]at J;exact absurd J (by decide)
 .obtain⟨its,_,⟨o',z,J,_⟩,_⟩:=I.tuple h1;rw[ho]at z;cases z;rw[hc]at J;exact absurd J (by decide)
def Sc.v_inj:∀{a b:Sc},a.v=b.v->a=b:=by
 intro a b h;cases a<;>cases b<;>simp[Sc.v]at h ⊢<;>exact h
theorem tj:∀{a b},g8 a=g8 b->a=b
 | [],[],_=>rfl
 | [],_::_,h=>by cases h
 | _::_,[],h=>by cases h
 | (k,v)::a,(J,U)::b,h=>by
  simp[g8,uw,Prod.mk.injEq]at h;obtain⟨⟨h1,h2⟩,z⟩:=h;rw[h1,Sc.v_inj h2,tj z]
theorem mW:∀{a b:List Int},(a.map Sum.inl:List Key)=b.map Sum.inl->a=b
 | [],[],_=>rfl
 | [],_::_,h=>by cases h
 | _::_,[],h=>by cases h
 |x::a,y::b,h=>by
  simp[Ni]at h;rw[h.1,mW h.2]
theorem tm:∀{a b},jY a=jY b->a=b
 | [],[],_=>rfl
 | [],_::_,h=>by cases h
 | _::_,[],h=>by cases h
 | (k,v)::a,(J,U)::b,h=>by
  simp[jY,uw]at h;obtain⟨⟨h1,h2⟩,z⟩:=h;rw[mW h1,Sc.v_inj h2,tm z]
theorem nY:∀{a b:List Int},a.map V.int=b.map V.int->a=b
 | [],[],_=>rfl
 | [],_::_,h=>by cases h
 | _::_,[],h=>by cases h
 |x::a,y::b,h=>by
  simp only[uw,Ni]at h;rw[V.int.inj h.1,nY h.2]
def tq(h:i5 a=i5 b):a=b:=by
 cases a<;>cases b<;>first
  | (cases h;done)
  | (rw[tj (HO.dK.inj h)];done)
  | (rw[tm (HO.dT.inj h)];done)
  | rw[nY (HO.lst.inj h)]
def Fr(h:RdD H a x)(g:RdD H a y):x=y:=by
 have h:=h.rd;have g:=g.rd;have ne:∀x o u,i5 x≠.frz o u:=λx o u e=>by cases x<;>cases e
 rcases h with h|⟨o,h⟩<;>rcases g with g|⟨o',g⟩
 .rw[h]at g;exact tq (Kw g)
 .rw[h]at g;exact absurd (Kw g) (ne x _ _)
 .simp_all
 .rw[h]at g;exact tq (HO.frz.inj (Kw g)).2
mutual
theorem mX(I:Inv X pins σ H s):∀(x y:PV) {u:V},Rep X.K H x u->Rep X.K H y u->x=y
 | .non,y,u,h,g=>by rw[Rep]at h;subst h;cases y<;>simp[Rep]at g ⊢
 | .bl b,y,u,h,g=>by rw[Rep]at h;subst h;cases y<;>simp[Rep]at g ⊢;exact g
 | .int b,y,u,h,g=>by rw[Rep]at h;subst h;cases y<;>simp[Rep]at g ⊢;exact g
 | .str b,y,u,h,g=>by rw[Rep]at h;subst h;cases y<;>simp[Rep]at g ⊢;exact g
 | .tup xs,y,u,h,g=>by
  rw[Rep]at h;obtain⟨a,us,rfl,q,r⟩:=h;cases y with
  |tup ys =>
   rw[Rep]at g;obtain⟨b,vs,e,z,J⟩:=g;cases e;have:=I.tuple_inj (eO q) (eO z);subst this;rw[reps_inj I xs ys r J]
  |lst ys =>
   rw[Rep]at g;obtain⟨b,vs,e,z,J⟩:=g;cases e;exact(ti I z (eO q)).elim
  |dI kvs =>
   rw[Rep]at g;obtain⟨b,e,z⟩:=g;cases e;exact(mV I (.inr (eO q)) z).elim
  | _=>simp[Rep]at g
 | .lst xs,y,u,h,g=>by
  rw[Rep]at h;obtain⟨a,us,rfl,q,r⟩:=h;cases y with
  |lst ys =>
   rw[Rep]at g;obtain⟨b,vs,e,z,J⟩:=g;cases e;have:=I.list_inj q z;subst this;rw[reps_inj I xs ys r J]
  |tup ys =>
   rw[Rep]at g;obtain⟨b,vs,e,z,J⟩:=g;cases e;exact(ti I q (eO z)).elim
  |dI kvs =>
   rw[Rep]at g;obtain⟨b,e,z⟩:=g;cases e;exact(mV I (.inl q) z).elim
  | _=>simp[Rep]at g
 | .dI kvs,y,u,h,g=>by
  rw[Rep]at h;obtain⟨a,rfl,q⟩:=h;cases y with
  |dI ks =>
   rw[Rep]at g;obtain⟨b,e,z⟩:=g;cases e;rw[Fr q z]
  |tup ys =>
   rw[Rep]at g;obtain⟨b,vs,e,z,J⟩:=g;cases e;exact(mV I (.inr (eO z)) q).elim
  |lst ys =>
   rw[Rep]at g;obtain⟨b,vs,e,z,J⟩:=g;cases e;exact(mV I (.inl z) q).elim
  | _=>simp[Rep]at g
theorem reps_inj(I:Inv X pins σ H s):∀(xs ys:List PV) {us:List V},Reps X.K H xs us->Reps X.K H ys us->xs=ys
 | [],ys,us,h,g=>by
  rw[Reps]at h;subst h
  cases ys with
  |nil=>rfl
  |cons y ys=>rw[Reps]at g;obtain⟨_,_,e,_⟩:=g;cases e
 |x::xs,ys,us,h,g=>by
  rw[Reps]at h;obtain⟨u,r,rfl,q,t⟩:=h;cases ys with
  |nil=>rw[Reps]at g;cases g
  |cons y ys =>
   rw[Reps]at g;obtain⟨J,U,e,z,t'⟩:=g;cases e;rw[mX I x y q z,reps_inj I xs ys t t']
end
def Rep.tupAt(I:Inv X pins σ H s)(h:Rep X.K H (.tup xs) u)(r:aF u v) :
  ∃a us its,u=.ref a/\v=.ref a/\Reps X.K H xs us/\aI us its/\s.heap.IsTuple a its.toArray/\xs.length=its.length:=by
 obtain⟨a,us,rfl,q,t⟩:=h;obtain⟨its,z,p,_⟩:=I.tuple (eO q);exact⟨a,us,its,rfl,r,t,z,p,t.length.trans z.length⟩
def Rep.lstAt(I:Inv X pins σ H s)(h:Rep X.K H (.lst xs) u)(r:aF u v) :
  ∃a us its,u=.ref a/\v=.ref a/\Reps X.K H xs us/\aI us its/\s.heap.IsList a its.toArray/\xs.length=its.length:=by
 obtain⟨a,us,rfl,q,t⟩:=h;obtain⟨its,z,p,_⟩:=I.list q;exact⟨a,us,its,rfl,r,t,z,p.isList,t.length.trans z.length⟩
def kL{A:Around}(ih:∀x y {Y Z}{J U}{b}{A},A.units+n<cLine->eqF n x y=some b->Rep X.K H x Y->Rep X.K H y Z->aF Y J->aF Z U->SeqAt.EqAt A s J U b)
  (hu:A.units+(n+1)<cLine) (rx:Reps X.K H xs us) (ry:Reps X.K H ys ws) (J:aI us its) (U:aI ws z)
  (hs:∀(j:Nat) x y,xs[j]?=some x->ys[j]?=some y->∃c,eqF n x y=some c) :
  ∀j (h1:j<its.toArray.size) (h2:j<z.toArray.size),SeqAt.EqAt A.in1 s its.toArray[j] z.toArray[j] ((eqF n (xs.getD j .non) (ys.getD j .non)).getD false):=λj h1 h2=>by
 refine aB λZq kq=>?_
 have l1:=rx.length.trans J.length;have l2:=ry.length.trans U.length;simp[pb]at h1 h2;have e1:xs[j]?=some xs[j]:=Kz (by omega);have e2:ys[j]?=some ys[j]:=Kz (by omega);obtain⟨Y,q1,p1⟩:=rx.get e1;obtain⟨Z,q2,p2⟩:=ry.get e2;obtain⟨wx,q3,p3⟩:=J.get q1;obtain⟨wy,q4,p4⟩:=U.get q2;obtain⟨c,hc⟩:=hs j _ _ e1 e2;have d1:xs.getD j .non=xs[j]:=by simp[List.getD,e1]
 have d2:ys.getD j .non=ys[j]:=by simp[List.getD,e2]
 have g1:its.toArray[j]=wx:=by
  simp_all
 have g2:z.toArray[j]=wy:=by
  simp_all
 refine kq ?_;rw[d1,d2,hc,g1,g2];exact ih _ _ (show A.units+1+n<cLine by omega) hc p1 p2 p3 p4
def CV{A:Around}{n:Nat}(I:Inv X pins σ H s)(ih:∀(x y:PV) {z J:V}{U Y:Value}{b:Bool}{A:Around},A.units+n<cLine->eqF n x y=some b->Rep X.K H x z->Rep X.K H y J->aF z U->aF J Y->SeqAt.EqAt A s U Y b)
  (hu:A.units+(n+1)<cLine):(∀{xs ys:List PV}{z J:V}{U Y:Value}{b:Bool},eqF (n+1) (.tup xs) (.tup ys)=some b->Rep X.K H (.tup xs) z->Rep X.K H (.tup ys) J->aF z U->aF J Y->SeqAt.RcAt A s U Y b) /\
   (∀{xs ys:List PV}{z J:V}{U Y:Value}{b:Bool},eqF (n+1) (.lst xs) (.lst ys)=some b->Rep X.K H (.lst xs) z->Rep X.K H (.lst ys) J->aF z U->aF J Y->SeqAt.RcAt A s U Y b):=by
 refine⟨λ{xs ys z J U Y b} h rx ry r1 r2=>?_,λ{xs ys z J U Y b} h rx ry r1 r2=>?_⟩
 .obtain⟨a,us,its,rfl,rfl,t1,w1,p1,l1⟩:=rx.tupAt I r1;obtain⟨c,ws,Z,rfl,rfl,t2,w2,p2,l2⟩:=ry.tupAt I r2;have h:eqL (eqF n) xs ys=some b:=h;obtain⟨hs,hb⟩:=kK xs ys h;have q:=SeqAt.RcAt.tuples (A:=A) p1 p2 (by omega) (kL ih hu t1 t2 w1 w2 hs);rw[hb];simpa[l1,l2]using q
 .obtain⟨a,us,its,rfl,rfl,t1,w1,p1,l1⟩:=rx.lstAt I r1;obtain⟨c,ws,Z,rfl,rfl,t2,w2,p2,l2⟩:=ry.lstAt I r2;have h:(if xs.length=ys.length then eqL (eqF n) xs ys else some false)=some b:=h;by_cases hl:xs.length=ys.length
  .rw[if_pos hl]at h;obtain⟨hs,hb⟩:=kK xs ys h;have q:=SeqAt.RcAt.lists (A:=A) p1 p2 (by simp only[pb];omega) (by omega) (kL ih hu t1 t2 w1 w2 hs);rw[hb,hl,NP];simpa[<- l1,hl]using q
  .rw[if_neg hl]at h;cases h;exact SeqAt.RcAt.lists_lengths (A:=A) p1 p2 (by simp only[pb,bne_iff_ne];omega) (by omega)
def cY(hd:isD x=false)(h:Rep X.K H x u):(∃xs,x=.tup xs)\/(∃xs,x=.lst xs)\/iW u=true:=by
 cases x with
 |dI _=>cases hd
 |tup xs=>exact .inl ⟨xs,rfl⟩
 |lst xs=>exact .inr (.inl ⟨xs,rfl⟩)
 | _=>rw[Rep]at h;subst h;exact .inr (.inr rfl)
def iy(z:A.units<cLine)(f:iW u=true)(r:aF u v)(p:s.heap.IsTuple a its) :
  SeqAt.EqAt A s v (.ref a) false/\SeqAt.EqAt A s (.ref a) v false/\SeqAt.RcAt A s v (.ref a) false/\SeqAt.RcAt A s (.ref a) v false:=by
 cases u with
 |non=>cases r;exact⟨.none_tuple p z,.tuple_none p z,.none_tuple p z,.tuple_none p z⟩
 |bl b=>cases r;exact⟨.bool_tuple b p z,.tuple_bool b p z,.bool_tuple b p z,.tuple_bool b p z⟩
 |int b=>obtain⟨t,rfl⟩:=r;exact⟨.int_tuple b t p z,.tuple_int b t p z,.int_tuple b t p z,.tuple_int b t p z⟩
 |str b=>obtain⟨t,rfl⟩:=r;exact⟨.str_tuple b t p z,.tuple_str b t p z,.str_tuple b t p z,.tuple_str b t p z⟩
 | _=>exact absurd (show false=true from f) mu
def jt(z:A.units<cLine)(f:iW u=true)(r:aF u v)(p:s.heap.IsList a its) :
  SeqAt.EqAt A s v (.ref a) false/\SeqAt.EqAt A s (.ref a) v false/\SeqAt.RcAt A s v (.ref a) false/\SeqAt.RcAt A s (.ref a) v false:=by
 cases u with
 |non=>cases r;exact⟨.none_list p z,.list_none p z,.none_list p z,.list_none p z⟩
 |bl b=>cases r;exact⟨.bool_list b p z,.list_bool b p z,.bool_list b p z,.list_bool b p z⟩
 |int b=>obtain⟨t,rfl⟩:=r;exact⟨.int_list b t p z,.list_int b t p z,.int_list b t p z,.list_int b t p z⟩
 |str b=>obtain⟨t,rfl⟩:=r;exact⟨.str_list b t p z,.list_str b t p z,.str_list b t p z,.list_str b t p z⟩
 | _=>exact absurd (show false=true from f) mu
def Ah(J:aF y u)(z:aF x v)(Y:iW y=true)(U:iW x=true):SeqAt.RcAt A s u v (eqV y x):=by
 cases y with
 |non =>
  cases J;cases x with
  |non=>cases z;exact SeqAt.RcAt.none_none
  |bl b=>cases z;exact SeqAt.RcAt.none_bool b
  |int b=>obtain⟨t,rfl⟩:=z;exact SeqAt.RcAt.none_int b t
  |str b=>obtain⟨t,rfl⟩:=z;exact SeqAt.RcAt.none_str b t
  | _=>exact absurd (show false=true from U) mu
 |bl a =>
  cases J;cases x with
  |non=>cases z;exact SeqAt.RcAt.bool_none a
  |bl b=>cases z;exact SeqAt.RcAt.bool_bool a b
  |int b=>obtain⟨t,rfl⟩:=z;exact SeqAt.RcAt.bool_int a b t
  |str b=>obtain⟨t,rfl⟩:=z;exact SeqAt.RcAt.bool_str a b t
  | _=>exact absurd (show false=true from U) mu
 |int a =>
  obtain⟨t',rfl⟩:=J;cases x with
  |non=>cases z;exact SeqAt.RcAt.int_none a t'
  |bl b=>cases z;exact SeqAt.RcAt.int_bool a t' b
  |int b=>obtain⟨t,rfl⟩:=z;exact SeqAt.RcAt.int_int a t' b t
  |str b=>obtain⟨t,rfl⟩:=z;exact SeqAt.RcAt.int_str a t' b t
  | _=>exact absurd (show false=true from U) mu
 |str a =>
  obtain⟨t',rfl⟩:=J;cases x with
  |non=>cases z;exact SeqAt.RcAt.str_none a t'
  |bl b=>cases z;exact SeqAt.RcAt.str_bool a t' b
  |int b=>obtain⟨t,rfl⟩:=z;exact SeqAt.RcAt.str_int a t' b t
  |str b=>obtain⟨t,rfl⟩:=z;exact SeqAt.RcAt.str_str a t' b t
  | _=>exact absurd (show false=true from U) mu
 | _=>exact absurd (show false=true from Y) mu
def nZ{n:Nat}{x y:PV}{u v:V}{b:Bool}(z:Rep X.K H x u)(J:Rep X.K H y v)(U:iW u=true)(Y:iW v=true)(h:eqF n x y=some b):b=eqV u v:=by
 cases x<;>cases y<;>simp only[Rep]at z J
 all_goals first
  | (obtain⟨_,_,rfl,_⟩:=z;exact absurd (show false=true from U) mu)
  | (obtain⟨_,_,rfl,_⟩:=J;exact absurd (show false=true from Y) mu)
  | (obtain⟨_,rfl,_⟩:=z;exact absurd (show false=true from U) mu)
  | (obtain⟨_,rfl,_⟩:=J;exact absurd (show false=true from Y) mu)
  | (subst z J;cases n<;>cases h<;>rfl)
def gc{y:PV}{v:V}(r:Rep X.K H y v)(f:iW v=true):Fq y=false:=by
 cases y with
 |tup _=>obtain⟨_,_,rfl,_⟩:=r;cases f
 |lst _=>obtain⟨_,_,rfl,_⟩:=r;cases f
 | _=>rfl
def rf(I:Inv X pins σ H s):∀(n:Nat) (x y:PV) {ux uy:V}{vx vy:Value}{b:Bool}{A:Around},A.units+n<cLine->eqF n x y=some b->Rep X.K H x ux->Rep X.K H y uy->aF ux vx->aF uy vy ->
  SeqAt.EqAt A s vx vy b/\SeqAt.RcAt A s vx vy b:=by
 intro n
 induction n with
 |zero =>
  intro x y ux uy vx vy b A hu h rx U r1 Y;have z:A.units<cLine:=by omega
  rcases cY (gE h).1 rx with⟨xs,rfl⟩|⟨xs,rfl⟩|fx
  .obtain⟨a,us,its,rfl,rfl,t1,w1,p1,l1⟩:=rx.tupAt I r1;rcases cY (gE h).2 U with⟨ys,rfl⟩|⟨ys,rfl⟩|Z
   .cases h
   .obtain⟨c,ws,J,rfl,rfl,t2,w2,p2,l2⟩:=U.lstAt I Y;cases h;exact⟨.tuple_list p1 p2 z,.tuple_list p1 p2 z⟩
   .obtain⟨z1,z2,z3,z4⟩:=iy z Z Y p1;have:b=false:=f_ h (by rw[gc U Z];rfl);subst this;exact⟨z2,z4⟩
  .obtain⟨a,us,its,rfl,rfl,t1,w1,p1,l1⟩:=rx.lstAt I r1;rcases cY (gE h).2 U with⟨ys,rfl⟩|⟨ys,rfl⟩|Z
   .obtain⟨c,ws,J,rfl,rfl,t2,w2,p2,l2⟩:=U.tupAt I Y;cases h;exact⟨.list_tuple p1 p2 z,.list_tuple p1 p2 z⟩
   .cases h
   .obtain⟨z1,z2,z3,z4⟩:=jt z Z Y p1;have:b=false:=f_ h (by rw[gc U Z];rfl);subst this;exact⟨z2,z4⟩
  .rcases cY (gE h).2 U with⟨ys,rfl⟩|⟨ys,rfl⟩|Z
   .obtain⟨c,ws,J,rfl,rfl,t2,w2,p2,l2⟩:=U.tupAt I Y;obtain⟨z1,z2,z3,z4⟩:=iy z fx r1 p2;have:b=false:=f_ h (by rw[gc rx fx];rfl);subst this;exact⟨z1,z3⟩
   .obtain⟨c,ws,J,rfl,rfl,t2,w2,p2,l2⟩:=U.lstAt I Y;obtain⟨z1,z2,z3,z4⟩:=jt z fx r1 p2;have:b=false:=f_ h (by rw[gc rx fx];rfl);subst this;exact⟨z1,z3⟩
   .rw[nZ rx U fx Z h];exact⟨ze r1 Y fx Z,Ah r1 Y fx Z⟩
 |succ n ih =>
  intro x y ux uy vx vy b A hu h rx U r1 Y;have z:A.units<cLine:=by omega
  obtain⟨kt,kl⟩:=CV I (λx y {_ _ _ _ _ _} a1 a2 a3 a4 a5 a6=>(ih x y a1 a2 a3 a4 a5 a6).1) hu;rcases cY (gE h).1 rx with⟨xs,rfl⟩|⟨xs,rfl⟩|fx
  .obtain⟨a,us,its,e1,a7,t1,w1,p1,l1⟩:=rx.tupAt I r1;rcases cY (gE h).2 U with⟨ys,rfl⟩|⟨ys,rfl⟩|Z
   .have q:=kt h rx U r1 Y;obtain⟨c,ws,J,e2,a8,t2,w2,p2,l2⟩:=U.tupAt I Y;subst e1 a7 e2 a8;refine⟨?_,q⟩;by_cases b1:a=c
    .subst b1;have e:=mX I _ _ rx U;rw[e]at h;rw[kJ _ _ h];exact .same _
    .exact .of_refs b1 q
   .obtain⟨c,ws,J,e2,a8,t2,w2,p2,l2⟩:=U.lstAt I Y;subst e1 a7 e2 a8;cases h;exact⟨.tuple_list p1 p2 z,.tuple_list p1 p2 z⟩
   .subst e1 a7;obtain⟨z1,z2,z3,z4⟩:=iy z Z Y p1;have:b=false:=f_ h (by rw[gc U Z];rfl);subst this;exact⟨z2,z4⟩
  .obtain⟨a,us,its,e1,a7,t1,w1,p1,l1⟩:=rx.lstAt I r1;rcases cY (gE h).2 U with⟨ys,rfl⟩|⟨ys,rfl⟩|Z
   .obtain⟨c,ws,J,e2,a8,t2,w2,p2,l2⟩:=U.tupAt I Y;subst e1 a7 e2 a8;cases h;exact⟨.list_tuple p1 p2 z,.list_tuple p1 p2 z⟩
   .have q:=kl h rx U r1 Y;obtain⟨c,ws,J,e2,a8,t2,w2,p2,l2⟩:=U.lstAt I Y;subst e1 a7 e2 a8;refine⟨?_,q⟩;by_cases b1:a=c
    .subst b1;have e:=mX I _ _ rx U;rw[e]at h;rw[kJ _ _ h];exact .same _
    .exact .of_refs b1 q
   .subst e1 a7;obtain⟨z1,z2,z3,z4⟩:=jt z Z Y p1;have:b=false:=f_ h (by rw[gc U Z];rfl);subst this;exact⟨z2,z4⟩
  .rcases cY (gE h).2 U with⟨ys,rfl⟩|⟨ys,rfl⟩|Z
   .obtain⟨c,ws,J,rfl,rfl,t2,w2,p2,l2⟩:=U.tupAt I Y;obtain⟨z1,z2,z3,z4⟩:=iy z fx r1 p2;have:b=false:=f_ h (by rw[gc rx fx];rfl);subst this;exact⟨z1,z3⟩
   .obtain⟨c,ws,J,rfl,rfl,t2,w2,p2,l2⟩:=U.lstAt I Y;obtain⟨z1,z2,z3,z4⟩:=jt z fx r1 p2;have:b=false:=f_ h (by rw[gc rx fx];rfl);subst this;exact⟨z1,z3⟩
   .rw[nZ rx U fx Z h];exact⟨ze r1 Y fx Z,Ah r1 Y fx Z⟩
end
section
variable{X:Cx}
def Fs(hu:X.A.units+101<cLine):OpR X (compareOp .Eq) (λz J H Q=>∃x y b,Rep X.K H x z/\Rep X.K H y J/\eqF 100 x y=some b/\Q (.bl b) H):=by
 intro pins s σ H z J v u Q I U Y h;obtain⟨x,y,b,Z,r2,e,q⟩:=h;exact(rf I 100 x y (by omega) e Z r2 U Y).2 _ _ _ _ ⟨.bl b,H,I,rfl,q⟩
def Ft(hu:X.A.units+101<cLine):OpR X (compareOp .NotEq) (λux uy H Q=>∃x y b,Rep X.K H x ux/\Rep X.K H y uy/\sP x y=true/\eqF 100 x y=some b/\Q (.bl (!b)) H):=by
 intro pins s σ H ux uy v u Q I rx ry h;obtain⟨x,y,b,Y,r2,ok,e,q⟩:=h;rcases cY (gE e).1 Y with⟨xs,rfl⟩|⟨xs,rfl⟩|fx
 .cases y with
  |tup ys =>
   refine aB λZq kq=>?_
   obtain⟨a,us,its,rfl,rfl,t1,w1,p1,l1⟩:=Y.tupAt I rx;obtain⟨c,ws,U,rfl,rfl,t2,w2,p2,l2⟩:=r2.tupAt I ry;have e:eqL (eqF 99) xs ys=some b:=e;obtain⟨hs,hb⟩:=kK xs ys e;obtain⟨⟨cls,dd,data,sl⟩,ho,hc,n,hd⟩:=id p1;obtain⟨⟨b0,aO,data2,a0⟩,J,Z,n2,ao⟩:=id p2;simp only at hc hd Z ao;subst hc hd Z ao;refine kq ?_;refine Mi (op:=.NotEq) ⟨_,ho,rfl⟩ ⟨_,J,rfl⟩ PySem.F.slot_tuple_ne PySem.F.entry_tuple_ne (PySem.F.args_tuple_ne_2 _ _) (SeqAt.tuple_neAt a c its.toArray U.toArray n n2 dd aO sl a0 _)
    ⟨ho,J,kL (n:=99) (λx y {_ _ _ _ _ _} a1 a2 a3 a4 a5 a6=>(rf I 99 x y a1 a2 a3 a4 a5 a6).1) (by omega) t1 t2 w1 w2 hs,?_⟩ (by omega)
   refine⟨(λx=>nomatch x),⟨.bl (!b),H,I,?_,q⟩⟩;rw[hb];simp[l1,l2,L2.aF]
  | _=>cases ok
 .cases y with
  |lst ys =>
   refine aB λZq kq=>?_
   obtain⟨a,us,its,rfl,rfl,t1,w1,p1,l1⟩:=Y.lstAt I rx;obtain⟨c,ws,U,rfl,rfl,t2,w2,p2,l2⟩:=r2.lstAt I ry;have e:(if xs.length=ys.length then eqL (eqF 99) xs ys else some false)=some b:=e;obtain⟨⟨cls,dd,data,sl⟩,ho,hc,n,hd⟩:=id p1;obtain⟨⟨b0,aO,data2,a0⟩,J,Z,n2,ao⟩:=id p2;simp only at hc hd Z ao;subst hc hd Z ao;refine kq ?_;by_cases hl:xs.length=ys.length
   .rw[if_pos hl]at e;obtain⟨hs,hb⟩:=kK xs ys e;refine Mi (op:=.NotEq) ⟨_,ho,rfl⟩ ⟨_,J,rfl⟩ PySem.F.slot_list_ne PySem.F.entry_list_ne (PySem.F.args_list_ne_2 _ _) (SeqAt.list_neAt a c its.toArray U.toArray n n2 dd aO sl a0 (by simp only[pb];omega) _)
     ⟨ho,J,kL (n:=99) (λx y {_ _ _ _ _ _} a1 a2 a3 a4 a5 a6=>(rf I 99 x y a1 a2 a3 a4 a5 a6).1) (by omega) t1 t2 w1 w2 hs,?_⟩ (by omega)
    refine⟨(λx=>nomatch x),⟨.bl (!b),H,I,?_,q⟩⟩;rw[hb,hl,NP];simp[<- l1,hl,L2.aF]
   .rw[if_neg hl]at e;cases e;refine Mi (op:=.NotEq) ⟨_,ho,rfl⟩ ⟨_,J,rfl⟩ PySem.F.slot_list_ne PySem.F.entry_list_ne (PySem.F.args_list_ne_2 _ _) (SeqAt.list_ne_lengthsAt a c its.toArray U.toArray n n2 dd aO sl a0 (by simp only[pb,bne_iff_ne];omega)) ⟨ho,J,?_⟩ (by omega);exact⟨(λx=>nomatch x),⟨.bl true,H,I,rfl,q⟩⟩
  | _=>cases ok
 .have fy:iW uy=true:=by
   rcases cY (gE e).2 r2 with⟨ys,rfl⟩|⟨ys,rfl⟩|fy
   .cases x<;>cases ok
    obtain⟨_,_,rfl,_⟩:∃a us,ux=V.ref a/\_:=by rw[Rep]at Y;exact Y
    exact absurd (show false=true from fx) mu
   .cases x<;>cases ok
    obtain⟨_,_,rfl,_⟩:∃a us,ux=V.ref a/\_:=by rw[Rep]at Y;exact Y
    exact absurd (show false=true from fx) mu
   .exact fy
  have hb:=nZ Y r2 fx fy e;subst hb;refine Ho pins s σ H ux uy v u Q I rx ry ?_;have key:scal ux uy=true/\decide (ux=uy)=eqV ux uy:=by
   cases x<;>cases y<;>simp only[Rep]at Y r2<;>first
    | (obtain⟨_,_,rfl,_⟩:=Y;exact absurd (show false=true from fx) mu)
    | (obtain⟨_,_,rfl,_⟩:=r2;exact absurd (show false=true from fy) mu)
    | (obtain⟨_,rfl,_⟩:=Y;exact absurd (show false=true from fx) mu)
    | (obtain⟨_,rfl,_⟩:=r2;exact absurd (show false=true from fy) mu)
    | (subst Y r2;first|(cases ok;done)|exact⟨rfl,by first|exact vY|exact yW|exact vZ|exact Ky rfl|exact KP (λz=>by cases z)⟩)
  exact⟨key.1,by rw[key.2];exact q⟩
def kM(I:Inv X pins σ H s)(hu:X.A.units+101<cLine)(rx:Rep X.K H x ux)(r1:aF ux vx)(t:Reps X.K H xs us)(w:aI us its)(h:isIn x xs=some b) :
  ∃e,(∀y,y∈its.toArray->SeqAt.EqAt X.A.in1 s y vx (e y))/\its.toArray.any e=b:=by
 obtain⟨h1,h2⟩:=wz xs h
 classical
 have J:∀z u y,aF u y->Rep X.K H z u->∀p:(∃z u,aF u y/\Rep X.K H z u),p.choose=z:=λz u y r q p=>by
  obtain⟨u',r',q'⟩:=p.choose_spec;have e:=r.inj r';subst e;exact mX I _ _ q' q
 refine⟨λy=>if p:∃z u,aF u y/\Rep X.K H z u then(eqF 100 p.choose x).getD false else false,?_,?_⟩
 .intro y hy;refine aB λZq kq=>?_
  obtain⟨j,hj,e⟩:=getElem_of_mem (by simpa using hy:y∈its);have ej:its[j]?=some y:=by rw[Kz hj,e]
  have l1:=w.length;obtain⟨U,e1⟩:∃U,us[j]?=some U:=⟨_,Kz (by omega)⟩;obtain⟨wy,e2,Y⟩:=w.get e1;rw[ej]at e2;cases e2;obtain⟨z,e3,Z⟩:=t.get' e1;obtain⟨c,hc⟩:=h1 z (L1 e3);have q:=(rf I 100 z x (A:=X.A.in1) (show X.A.units+1+100<cLine by omega) hc Z rx Y r1).1;have p:∃z u,aF u y/\Rep X.K H z u:=⟨z,U,Y,Z⟩;have e4:=J z U y Y Z p;refine kq ?_
  simp_all
 .rw[h2];simp only[any_toArray];clear h h1 h2
  induction xs generalizing us its with
  |nil =>
   rw[Reps]at t;subst t;cases w
   rfl
  |cons z zs ih =>
   rw[Reps]at t;obtain⟨u,r,rfl,q,t⟩:=t;cases w with
   |cons rv w =>
    rename_i y ys;have p:∃z u,aF u y/\Rep X.K H z u:=⟨z,u,rv,q⟩;have e4:=J z u y rv q p;rw[any_cons,any_cons,ih t w];simp only[p,dite_true,e4]
def Fu(U:X.A.units+101<cLine):OpR X (compareOp .In) (λY Z H Q=>∃x xs a us b,Rep X.K H x Y/\Z=.ref a/\(SqL X.K H a us\/SqT X.K H a us)/\Reps X.K H xs us/\isIn x xs=some b/\Q (.bl b) H):=by
 intro pins s σ H Y Z v u Q I rx ry h;obtain⟨x,xs,a,us,b,r1,rfl,z,r2,e,q⟩:=h;cases ry;rcases z with z|z
 .obtain⟨its,r,J,hz⟩:=I.list z;obtain⟨f,h1,h2⟩:=kM I U r1 rx r2 r e;refine SeqAt.in_listAt f J.isList h1 ?_;rw[h2];exact⟨.bl b,H,I,rfl,q⟩
 .obtain⟨its,r,J,hz⟩:=I.tuple z;obtain⟨f,h1,h2⟩:=kM I U r1 rx r2 r e;refine SeqAt.in_tupleAt f J h1 ?_;rw[h2];exact⟨.bl b,H,I,rfl,q⟩
def xW(U:X.A.units+101<cLine):OpR X (compareOp .NotIn) (λY Z H Q=>∃x xs a us b,Rep X.K H x Y/\Z=.ref a/\(SqL X.K H a us\/SqT X.K H a us)/\Reps X.K H xs us/\isIn x xs=some b/\Q (.bl (!b)) H):=by
 intro pins s σ H Y Z v u Q I rx ry h;obtain⟨x,xs,a,us,b,r1,rfl,z,r2,e,q⟩:=h;cases ry;rcases z with z|z
 .obtain⟨its,r,J,hz⟩:=I.list z;obtain⟨f,h1,h2⟩:=kM I U r1 rx r2 r e;refine SeqAt.notIn_listAt f J.isList h1 ?_;rw[h2];exact⟨.bl _,H,I,rfl,q⟩
 .obtain⟨its,r,J,hz⟩:=I.tuple z;obtain⟨f,h1,h2⟩:=kM I U r1 rx r2 r e;refine SeqAt.notIn_tupleAt f J h1 ?_;rw[h2];exact⟨.bl _,H,I,rfl,q⟩
end
end MM
namespace L2
open PySem PySem.Spec PyProof.Rows List Option
theorem PE.imp(h:PE X e t)(i:∀σ H Q,t' σ H Q->t σ H Q):PE X e t':=λpins s σ H Q I q=>h pins s σ H Q I (i σ H Q q)
theorem PT.imp(h:PT X e t)(i:∀σ H Q,t' σ H Q->t σ H Q):PT X e t':=λpins s σ H Q I q=>h pins s σ H Q I (i σ H Q q)
theorem PA.imp(h:PA X e t)(i:∀σ H Q,t' σ H Q->t σ H Q):PA X e t':=λpos pins s σ H Q I q=>h pos pins s σ H Q I (i σ H Q q)
theorem PS.imp(h:PS X e t)(i:∀D σ H,t' D σ H->t D σ H):PS X e t':=λpins s σ H D I q=>h pins s σ H D I (i D σ H q)
theorem PSs.imp(h:PSs X e t)(i:∀D σ H,t' D σ H->t D σ H):PSs X e t':=λpins s σ H D I q=>h pins s σ H D I (i D σ H q)
theorem PI.imp(h:PI X tg e t)(i:∀σ H R,t' σ H R->t σ H R):PI X tg e t':=λpins s σ H R I q=>h pins s σ H R I (i σ H R q)
end L2
namespace MM
open PySem PySem.Spec PyProof.Rows L2 List Option
noncomputable def jL(H:Hp)(ms:List Addr):Hp:=λb=>if b∈ms then none else H b
def l5(K:N0)(O:List Addr)(H:Hp):MV->V->Prop
 | .val v,u=>Rep K (aw H O) v u
 | .brw xs,u=>∃a us,u=.ref a/\SqL K H a us/\Reps K (aw H O) xs us
 | .own _,_=>False
 | .ownD _,_=>False
 | .mutD _,_=>False
 | .brwD kvs,u=>∃a,u=.ref a/\Rd H a (i5 kvs)
noncomputable def spM(K:N0)(cal:Cal)(f:Nat):Sp:=λvs H Q _ =>
 ∃O args r,(∀a∈O,H a≠none)/\Paired (l5 K O H) args vs/\cal f args=some r/\∀u H',ai H H'->Rep K (aw H' O) r u->Q u H'
noncomputable def spF(K:N0)(cal:Cal)(f:Nat):Sp:=λvs H Q _ =>
 ∃O args xs,(∀a∈O,H a≠none)/\Paired (l5 K O H) args vs/\cal (f+1000) args=some (.lst xs)/\∀p us H',ai H H'->H p=none->H' p=some (.lst us)->Reps K (aw H' (p::O)) xs us->Q (.ref p) H'
def Fv(K:N0)(O:List Addr)(H:Hp):MV->V->Prop
 | .val v,u=>Rep K (aw H O) v u
 | .mutD d,u=>∃a,u=.ref a/\DAt K H O a d/\a∈O
 | _,_=>False
inductive cF(K:N0)(O:List Addr)(H':Hp):List MV->List V->List PV->List Addr->Prop where
 | nil:cF K O H' [] [] [] []
 | mutd {d d':DD}{a:Addr}{as:List MV}{vs:List V}{ds:List PV}{ms:List Addr} (h:DAt K H' O a d') (hn:a∉ms) (t:cF K O H' as vs ds ms):cF K O H' (.mutD d::as) (.ref a::vs) (.dI d'::ds) (a::ms)
 | other {m:MV}{v:V}{as:List MV}{vs:List V}{ds:List PV}{ms:List Addr} (h:∀d,m≠.mutD d) (t:cF K O H' as vs ds ms):cF K O H' (m::as) (v::vs) ds ms
noncomputable def spD(K:N0)(cal:Cal)(f:Nat):Sp:=λvs H Q _ =>
 ∃O args v ds z ms,(∀a∈O,H a≠none)/\Paired (Fv K O H) args vs/\cF K O H args vs z ms/\cal (f+2000) args=some (.tup (v::ds)) /\
  ∀u H',(∀b o,b∉ms->H b=some o->H' b=some o)->cF K O H' args vs ds ms->Rep K (aw H' O) v u->Q u H'
noncomputable def kN:List String:=["len","tuple","list","sorted","any","all","sum","max","min","int","bool","str","isinstance","set","range","enumerate","reversed"
 ]
noncomputable def toV:PV->V
 | .non=>.non
 | .bl b=>.bl b
 | .int i=>.int i
 | .str x=>.str x
 | _=>.non
structure Gf(X:Cx)(T:Tab)(k:Nat)(cal:Cal):Prop where
 calm:X.calm=true
 room:lh k X.A
 fns:∀(f:Nat) (x:Str),T.fs[f]?=some x->∃(fa:Addr) (fd:FuncData) (ps:List Str),X.mg x=some (.ref fa)/\PySem.W.keepIn X.K (.ref fa)=true/\di X.K fd ps []/\jS X.prog X.w X.K X.mg X.base CX0 k fa fd ps (spM X.K cal f)/\∀l,T.ds[f]?=some l->∃vs,di X.K fd ps vs/\aI (l.map Sc.v) vs
 blt:∀x∈kN,X.mg (x:Str)=none
 gs:∀p∈T.gs,∃u,X.mg p.1=some u/\aF (toV p.2) u
 fnsF:∀(f:Nat) (x:Str),T.fs[f]?=some x->∃(fa:Addr) (fd:FuncData) (ps:List Str),X.mg x=some (.ref fa)/\PySem.W.keepIn X.K (.ref fa)=true/\di X.K fd ps []/\jS X.prog X.w X.K X.mg X.base CX0 k fa fd ps (spF X.K cal f)
 fnsD:∀(f:Nat) (x:Str),T.fs[f]?=some x->∃(fa:Addr) (fd:FuncData) (ps:List Str),X.mg x=some (.ref fa)/\PySem.W.keepIn X.K (.ref fa)=true/\di X.K fd ps []/\jS X.prog X.w X.K X.mg X.base CX0 k fa fd ps (spD X.K cal f)
theorem Gf.units(g:Gf X T k cal):X.A.units+200<cLine:=by have:=g.room.un;omega
def Got(K:N0)(H:Hp)(O:List Addr)(z:ME)(v:PV)(u:V):Prop:=bJ K H O v u/\(aN z=false->Rep K (aw H O) v u)
noncomputable def tE(K:N0)(cal:Cal)(z:ME):TE:=λσ H Q=>∃B E O W v,aG K B E O H W σ/\ev cal z W=some v/\∀u H',ai H H'->Got K H' O z v u->Q u H'
noncomputable def tT(K:N0)(cal:Cal)(z:ME):TT:=λσ H Q=>∃B E O W b,aG K B E O H W σ/\evB cal z W=some b/\∀H',ai H H'->Q b H'
def J5(K:N0)(H:Hp)(O:List Addr)(ms:List ME)(vs:List PV)(us:List V):Prop:=Paired (bJ K H O) vs us/\((ms.all λm=>!aN m)=true->Reps K (aw H O) vs us)
noncomputable def tEs(K:N0)(cal:Cal)(ms:List ME):TA:=λσ H Q=>∃B E O W vs,aG K B E O H W σ/\evs cal ms W=some vs/\∀us H',ai H H'->J5 K H' O ms vs us->Q us H'
noncomputable def tAs(K:N0)(cal:Cal)(ms:List ME):TA:=λσ H Q=>∃B E O W vs,aG K B E O H W σ/\evA cal ms W=some vs/\∀us H',ai H H'->Paired (l5 K O H') vs us->Q us H'
section
variable{K:N0}{H H':Hp}{O:List Addr}
theorem Got.of(h:Rep K (aw H O) v u):Got K H O z v u:=⟨.inl h,λ_=>h⟩
theorem Got.scal(h:∀F,Rep K F v u):Got K H O z v u:=.of (h _)
theorem Got.mono(s:ai H H')(h:Got K H O z v u):Got K H' O z v u:=⟨h.1.mono s,λe=>Rep.mono (am s) _ (h.2 e)⟩
def eR(F)(b):Rep K F (.bl b) (.bl b):=rfl
def bR(F)(b):Rep K F (.int b) (.int b):=rfl
def mY(F)(b):Rep K F (.str b) (.str b):=rfl
def rg(F):Rep K F .non .non:=rfl
def g_(U:∀a∈O,H1 a≠none)(J:H1 p=none)(h:Reps K (aw H1 O) xs us):Rep K (aw (upd H1 p (.tup us)) O) (.tup xs) (.ref p):=by
 refine⟨p,us,rfl,?_,Reps.mono (am (ay J _)) _ h⟩;rw[be (λz=>U p z J)];exact ax
def n4(U:∀a∈O,H1 a≠none)(J:H1 p=none)(h:Reps K (aw H1 O) xs us):Rep K (aw (upd H1 p (.lst us)) O) (.lst xs) (.ref p):=by
 refine⟨p,us,rfl,SqL.of ?_,Reps.mono (am (ay J _)) _ h⟩;rw[be (λz=>U p z J)];exact ax
def bw(s:ai H H')(h:∀a∈O,H a≠none):∀a∈O,H' a≠none:=λa z e=>h a z (s.free e)
def cM(h:n<=10000):n<=sizeLine:=pe h (by decide)
end
section
variable{X:Cx}{T:Tab}{k:Nat}{cal:Cal}
def H0(h:E9 sc x=true):Vis sc x:=by
 unfold E9 at h;simp[Kv]at h;rcases h with(h|h)|h
 .exact .inl h
 .exact .inr (.inl h)
 .exact .inr (.inr h)
def i8(h:fT sc x=true):Loc sc x:=by
 unfold fT at h;simp[Kv]at h;exact h
def iz (h:ar x=true):(x==("__debug__":Str))=false/\(x==("__classdict__":Str))=false/\x ≠ "__name__":=by simp_all [ar]
def dE(h:glB X.env.scope x=true):Gl X x:=by
 unfold glB at h;simp at h;exact h
def cx(h:ba X.N X.env.scope i x=true):PE X (.Name x pos) (G_ i):=by
 unfold ba at h;simp[gQ,Kv]at h;obtain⟨⟨h1,h2⟩,z⟩:=h;obtain⟨p1,p2,_⟩:=iz z;exact Ei h1 (H0 h2) p1 p2
def aZ{K:N0}(st:aG K B E O H W σ){i:Nat}(e:(W[i]?).join=some m):∃u,σ[i]?=some (some u)/\fz K B O H m u:=st.slot i m (aH e)
def DX(h:ba X.N X.env.scope i x=true):PE X (.Name x pos) (tE X.K cal (.var i)):=by
 refine(cx h).imp λσ H Q U=>?_
 obtain⟨B,E,O,W,v,st,z,q⟩:=U;rw[ev]at z;cases J:(W[i]?).join with
 |none=>rw[J]at z;cases z
 |some m =>
  rw[J]at z;cases m with
  |val w =>
   simp[zU]at z;subst z;obtain⟨u,Y,r⟩:=aZ st J;exact⟨u,Y,q u H (ai.refl H) (.of r)⟩
  | _=>cases z
def DY(h:ba X.N X.env.scope i x=true):PE X (.Name x pos) (tE X.K cal (.bor i)):=by
 refine(cx h).imp λσ H Q Y=>?_
 obtain⟨B,E,O,W,v,st,J,q⟩:=Y;rw[ev]at J;cases U:(W[i]?).join with
 |none=>rw[U]at J;cases J
 |some m =>
  rw[U]at J;obtain⟨u,Z,r⟩:=aZ st U;exact⟨u,Z,q u H (ai.refl H) ⟨r.bor st.keep J,λz=>by cases z⟩⟩
def DZ(h:ve v c=true):PE X (.Constant c j pos) (tE X.K cal (.cst v)):=by
 have key:∀u,_->PE X (.Constant c j pos) _->PE X _ (tE X.K cal (.cst v)):=λu r p=>p.imp λσ H Q z=>by
  obtain⟨B,E,O,W,w,st,J,q⟩:=z;cases J;exact q u H (ai.refl H) (.scal r)
 cases v<;>cases c<;>simp[ve,KA,Kv]at h
 .exact key .non (λF=>rg F) Ek
 .subst h;exact key _ (λF=>eR F _) Ha
 .subst h;exact key _ (λF=>bR F _) Ej
 .subst h;exact key _ (λF=>mY F _) uD
def Ai(g:Gf X T k cal)(h:(x==y&&glB X.env.scope x&&DS T.gs x v&&ar x)=true):PE X (.Name y pos) (tE X.K cal (.glob x v)):=by
 simp[gQ,Kv]at h;obtain⟨⟨⟨rfl,Y⟩,hs⟩,Z⟩:=h;obtain⟨p,U,J⟩:=Lv.mp hs;simp[gQ,Kv]at J;obtain⟨rfl,hv⟩:=J;obtain⟨u,e1,r⟩:=g.gs p U;have e:p.2=v/\∀F,Rep X.K F v (toV v):=by
  revert hv;generalize p.2=z;intro hv;cases z<;>cases v<;>simp[DR,KA,Kv]at hv
  .exact⟨rfl,λF=>rg F⟩
  .subst hv;exact⟨rfl,λF=>eR F _⟩
  .subst hv;exact⟨rfl,λF=>bR F _⟩
  .subst hv;exact⟨rfl,λF=>mY F _⟩
 rw[e.1]at r;refine(BX (dE Y) e1 r (iz Z).1).imp λσ H Q hq=>?_
 obtain⟨B,E,O,W,w,st,he,q⟩:=hq;cases he;exact q _ H (ai.refl H) (.scal e.2)
end
section
variable{X:Cx}
noncomputable def R2M(K:N0)(f:PV->PV->Option PV):R2:=λz J H Q =>
 ∃O x y v,(∀a∈O,H a≠none)/\bJ K H O x z/\bJ K H O y J/\f x y=some v/\∀u H',ai H H'->Rep K (aw H' O) v u->Q u H'
def lE{g:Int->Int->Int}(h:OpR X (binaryOp op) (rI C λi j=>.int (g i j)))
  (z:∀x y v,f x y=some v->∃i j,x=.int i/\y=.int j/\C i j/\v=.int (g i j)):OpR X (binaryOp op) (R2M X.K f):=by
 intro pins s σ H ux uy v u Q I J U Y;refine aB λZq Z=>?_
 obtain⟨O,x,y,w,hO,r1,r2,e,q⟩:=Y;obtain⟨i,j,rfl,rfl,c,rfl⟩:=z x y w e;have e1:=r1.int;have e2:=r2.int;subst e1 e2;refine Z ?_;exact h pins s σ H _ _ v u Q I J U ⟨i,j,rfl,rfl,c,q _ H (ai.refl H) (bR _ _)⟩
def CW:OpR X (binaryOp .Add) (λx y H Q=>∃l b xs zs,x=.ref l/\y=.ref b/\SqL X.K H l xs/\SqL X.K H b zs/\xs.length+zs.length<=sizeLine/\∀p,H p=none->Q (.ref p) (upd H p (.lst (xs++zs)))):=by
 intro pins s σ H x y v u Q I rx ry h;refine aB λZq kq=>?_
 obtain⟨l,b,xs,zs,rfl,rfl,hH,hB,hz,q⟩:=h;cases rx;cases ry;obtain⟨its,r,pl,_⟩:=I.list hH;obtain⟨z,r2,Z,_⟩:=I.list hB;have l1:=r.length;have l2:=r2.length;obtain⟨⟨cls,dd,data,sl⟩,ho,hc,n,hd⟩:=pl.isList;obtain⟨⟨a1,ao,data2,aO⟩,J,U,n2,Y⟩:=Z.isList;simp only at hc hd U Y;subst hc hd U Y;have e:its.toArray++z.toArray=(its++z).toArray:=by simp
 refine kq ?_;refine NK ⟨_,ho,rfl⟩ ⟨_,J,rfl⟩ noFill_list_add seq_list_add PySem.F.slot_list_add PySem.F.entry_list_add (PySem.F.args_list_add_2 _ _) (list_addW l b its.toArray z.toArray n n2 dd ao sl aO (by rw[pb,pb];omega)) ⟨ho,J,?_⟩;rw[e];exact⟨.ref _,_,I.lnew (r.append r2) (by rw[tf];omega),rfl,q _ I.fresh⟩
def CY:OpR X (binaryOp .Add) (λx y H Q=>∃a b ys,x=.ref a/\y=.ref b/\SqT X.K H a []/\SqT X.K H b ys/\Q (.ref b) H):=by
 intro pins s σ H x y v u Q I rx ry h;refine aB λZq kq=>?_
 obtain⟨a,b,ys,rfl,rfl,ha,hb,q⟩:=h;cases rx;cases ry;obtain⟨its,r1,⟨⟨c1,d1,t1,l1⟩,ho,hc,n,hd⟩,_⟩:=I.tuple ha;obtain⟨U,r2,⟨⟨c2,d2,t2,l2⟩,Y,Z,n2,ao⟩,_⟩:=I.tuple hb;cases hc;cases hd;cases Z;cases ao;have z:=r1.nil_iff.mpr rfl;have J:=tuple_addW0 a b its.toArray U.toArray n n2 d1 d2 l1 l2 (by simp[z]);refine kq ?_;exact NK ⟨_,ho,rfl⟩ ⟨_,Y,rfl⟩ NL seq_tuple_add PySem.F.slot_tuple_add PySem.F.entry_tuple_add (PySem.F.args_tuple_add_2 _ _) J ⟨ho,Y,.ref b,H,I,rfl,q⟩
def dq(h:kE f x y=some v):∃i j,x=.int i/\y=.int j/\f i j=some v:=by
 cases x<;>try (cases h;done)
 cases y<;>try (cases h;done)
 exact⟨_,_,rfl,rfl,h⟩
def kO{C:Int->Int->Prop} [∀i j,Decidable (C i j)] {g:Int->Int->Int}{x y v:PV} (h:kE (λi j=>if C i j then some (.int (g i j))else none) x y=some v):∃i j,x=.int i/\y=.int j/\C i j/\v=.int (g i j):=by
 obtain⟨i,j,z,J,U⟩:=dq h
 simp_all
def vi(op):OpR X (binaryOp (vd op)) (R2M X.K (fw op)):=by
 cases op with
 |sub=>exact lE (C:=λ_ _=>True) (g:=λi j=>i-j) (λpins s σ H x y v u Q I J U h=>Ez pins s σ H x y v u Q I J U (by obtain⟨i,j,Y,Z,_,q⟩:=h;exact⟨i,j,Y,Z,q⟩)) (λx y v h=>by
   obtain⟨i,j,Y,Z,e3⟩:=dq h;exact⟨i,j,Y,Z,trivial,(Kw e3).symm⟩)
 |mul=>exact lE EA λx y v h=>by have q:=kO h;exact q
 |fdiv=>exact lE B3 λx y v h=>by have q:=kO h;exact q
 |mod=>exact lE EB λx y v h=>by have q:=kO h;exact q
 |pow=>exact lE EC λx y v h=>by have q:=kO h;exact q
 |shr=>exact lE ED λx y v h=>by have q:=kO h;exact q
 |add =>
  intro pins s σ H ux uy v u Q I J U hq;obtain⟨O,x,y,w,hO,r1,r2,e,q⟩:=hq;cases x<;>try (cases e;done)
  all_goals (cases y<;>simp only[fw,DP]at e<;>try (cases e;done))
  .cases e;have Y:=r1.int;have Z:=r2.int;subst Y Z;exact Ey pins s σ H _ _ v u Q I J U ⟨_,_,rfl,rfl,q _ H (ai.refl H) (bR _ _)⟩
  .split at e
   .rename_i c;cases e;have Y:=r1.str;have Z:=r2.str;subst Y Z;exact uJ pins s σ H _ _ v u Q I J U ⟨_,_,rfl,rfl,pe c (by decide),q _ H (ai.refl H) (mY _ _)⟩
   .cases e
  .split at e
   .rename_i c;cases e;obtain⟨a,us,rfl,s1,t1⟩:=r1.tup;obtain⟨b,ws,rfl,s2,t2⟩:=r2.tup;have l1:=t1.length;have l2:=t2.length;have w1:=r1.tupR;have w2:=r2.tupR;by_cases z0:us=[]
    .subst z0;have z1:=MU l1;subst z1;exact CY pins s σ H _ _ v u Q I J U ⟨a,b,ws,rfl,rfl,s1,s2,q _ H (ai.refl H) w2⟩
    refine Cb pins s σ H _ _ v u Q I J U ⟨a,b,us,ws,rfl,rfl,s1,s2,z0,cM (by omega),λz=>?_,λz p hp=>?_⟩
    .rw[z,length_nil]at l2;have z1:=MU l2;subst z1;rw[LJ]at q;exact q _ H (ai.refl H) w1
    .exact q _ _ (ay hp _) (g_ hO hp (t1.append t2))
   .cases e
  .split at e
   .rename_i c;cases e;obtain⟨a,us,rfl,s1,t1⟩:=r1.lst;obtain⟨b,ws,rfl,s2,t2⟩:=r2.lst;have l1:=t1.length;have l2:=t2.length;exact CW pins s σ H _ _ v u Q I J U ⟨a,b,us,ws,rfl,rfl,s1,s2,cM (by omega),λp hp=>q _ _ (ay hp _) (n4 hO hp (t1.append t2))⟩
   .cases e
noncomputable def R2C(K:N0)(f:PV->PV->Option Bool):R2:=λz J H Q =>
 ∃O x y b,bJ K H O x z/\bJ K H O y J/\f x y=some b/\Q (.bl b) H
def mZ{g:Int->Int->Bool}(h:OpR X (compareOp op) (rI0 λi j=>.bl (g i j)))
  (z:∀x y v,f x y=some v->∃i j,x=.int i/\y=.int j/\v=g i j):OpR X (compareOp op) (R2C X.K f):=by
 intro pins s σ H ux uy v u Q I J U Y;refine aB λZq Z=>?_
 obtain⟨O,x,y,w,r1,r2,e,q⟩:=Y;obtain⟨i,j,rfl,rfl,rfl⟩:=z x y w e;have e1:=r1.int;have e2:=r2.int;subst e1 e2;refine Z ?_;exact h pins s σ H _ _ v u Q I J U ⟨i,j,rfl,rfl,q⟩
def Fw:OpR X (compareOp .Is) (λx y H Q=>∃p q,x=.bl p/\y=.bl q/\Q (.bl (p==q)) H):=by
 rintro pins s σ H x y v u Q I z J ⟨p,q,rfl,rfl,U⟩;cases z;cases J;exact gf (cv I U (by cases p<;>cases q<;>rfl))
def xX:OpR X (compareOp .IsNot) (λx y H Q=>∃p q,x=.bl p/\y=.bl q/\Q (.bl (!(p==q))) H):=by
 rintro pins s σ H x y v u Q I z J ⟨p,q,rfl,rfl,U⟩;cases z;cases J;exact gf (cv I U (by cases p<;>cases q<;>rfl))
def wA{K:N0}(r:bJ K H O x u):decide (u=.non)=jK x:=by
 cases x with
 |non=>rw[r.non];rfl
 |bl b=>rw[r.bl];rfl
 |int b=>rw[r.int];rfl
 |str b=>rw[r.str];rfl
 |tup xs=>obtain⟨a,us,rfl,_⟩:=r.tup;rfl
 |lst xs=>obtain⟨a,us,rfl,_⟩:=r.lst;rfl
 |dI kvs=>obtain⟨a,rfl,_⟩:=r.dI;rfl
def Aj(hu:X.A.units+200<cLine)(op):OpR X (compareOp (z9 op)) (R2C X.K (cJ op)):=by
 cases op with
 |lt=>exact mZ Hq λx y v h=>by obtain⟨i,j,J,z,e3⟩:=dq h;exact⟨i,j,J,z,(Kw e3).symm⟩
 |le=>exact mZ Hr λx y v h=>by obtain⟨i,j,J,z,e3⟩:=dq h;exact⟨i,j,J,z,(Kw e3).symm⟩
 |gt=>exact mZ Hs λx y v h=>by obtain⟨i,j,J,z,e3⟩:=dq h;exact⟨i,j,J,z,(Kw e3).symm⟩
 |ge=>exact mZ Ht λx y v h=>by obtain⟨i,j,J,z,e3⟩:=dq h;exact⟨i,j,J,z,(Kw e3).symm⟩
 |eq =>
  intro pins s σ H ux uy v u Q I U Y hq;obtain⟨O,x,y,w,Z,r2,e,q⟩:=hq;exact Fs (by omega) pins s σ H ux uy v u Q I U Y ⟨x,y,w,Z.whole,r2.whole,e,q⟩
 |ne =>
  intro pins s σ H ux uy v u Q I U Y hq;obtain⟨O,x,y,w,Z,r2,e,q⟩:=hq;simp only[cJ]at e;split at e
  .rename_i c;simp only[oe]at e;obtain⟨b,e,rfl⟩:=e;exact Ft (by omega) pins s σ H ux uy v u Q I U Y ⟨x,y,b,Z.whole,r2.whole,c,e,q⟩
  .cases e
 |isN =>
  intro pins s σ H ux uy v u Q I U Y hq;obtain⟨O,x,y,w,Z,r2,e,q⟩:=hq;cases y<;>try (cases e;done)
  .have z:=r2.non;subst z;refine EE pins s σ H ux _ v u Q I U Y ⟨rfl,?_⟩;have e:=e;rw[wA Z,Kw e];exact q
  .cases x<;>try (cases e;done)
   have J:=Z.bl;have z:=r2.bl;subst J z;exact Fw pins s σ H _ _ v u Q I U Y ⟨_,_,rfl,rfl,by rw[Kw e];exact q⟩
 |notN =>
  intro pins s σ H ux uy v u Q I U Y hq;obtain⟨O,x,y,w,Z,r2,e,q⟩:=hq;cases y<;>try (cases e;done)
  .have z:=r2.non;subst z;refine B5 pins s σ H ux _ v u Q I U Y ⟨rfl,?_⟩;have e:some (!jK x)=some w:=e;rw[wA Z,Kw e];exact q
  .cases x<;>try (cases e;done)
   have J:=Z.bl;have z:=r2.bl;subst J z;cases e;exact xX pins s σ H _ _ v u Q I U Y ⟨_,_,rfl,rfl,q⟩
 |isIn =>
  intro pins s σ H ux uy v u Q I U Y hq;obtain⟨O,x,y,w,Z,r2,e,q⟩:=hq;simp only[cJ,ft]at e;obtain⟨xs,J,z⟩:=e;obtain⟨a,us,rfl,s2,t2⟩:=r2.seq J;exact Fu (by omega) pins s σ H ux _ v u Q I U Y ⟨x,_,a,us,w,Z.whole,rfl,s2,Reps.mono (bX H O) _ t2,z,q⟩
 |notIn =>
  intro pins s σ H ux uy v u Q I U Y hq;obtain⟨O,x,y,w,Z,r2,e,q⟩:=hq;simp only[cJ,ft,oe]at e;obtain⟨b,⟨xs,J,z⟩,rfl⟩:=e;obtain⟨a,us,rfl,s2,t2⟩:=r2.seq J;exact xW (by omega) pins s σ H ux _ v u Q I U Y ⟨x,_,a,us,b,Z.whole,rfl,s2,Reps.mono (bX H O) _ t2,z,q⟩
def tu(n)(i):place n i=ixN n i:=rfl
def Fx:IxR X (R2M X.K gZ):=by
 intro value slice pins s σ H ux uy v u Q I rx ry hq z;obtain⟨O,x,y,w,hO,r1,r2,e,q⟩:=hq;cases x<;>cases y<;>simp[gZ]at e<;>try (cases e;done)
 .simp[ft]at e;obtain⟨j,Z,e2⟩:=e;obtain⟨a,us,rfl,s1,U⟩:=r1.tup;have e3:=r2.int;subst e3;obtain⟨Y,e4,J⟩:=U.get e2;refine zd value slice pins s σ H _ _ v u Q I rx ry (.inr (.inl ⟨a,us,_,Y,rfl,rfl,s1,?_,q Y H (ai.refl H) J⟩)) z;unfold atI;rw[<- U.length,<- tu,Z];exact e4
 .simp[ft]at e;obtain⟨j,Z,e2⟩:=e;obtain⟨a,us,rfl,s1,U⟩:=r1.lst;have e3:=r2.int;subst e3;obtain⟨Y,e4,J⟩:=U.get e2;refine zd value slice pins s σ H _ _ v u Q I rx ry (.inl ⟨a,us,_,Y,rfl,rfl,s1,?_,q Y H (ai.refl H) J⟩) z;unfold atI;rw[<- U.length,<- tu,Z];exact e4
def vj(h:b_ b=true):v4 b:=by
 intro o i;cases b<;>first|rfl|(simp[b_]at h)
theorem tw{K:N0}(h:Reps K F xs us)(lo hi):Reps K F (cut xs lo hi) (xB us lo hi):=by
 have z:=h.length;have e:∀n d o,g5 n d o=HT.sIx n d o:=λn d o=>by cases o<;>rfl
 unfold cut xB;rw[e,e,z];exact(h.drop _).take _
def Fy:SlR X (λx lo hi H Q=>∃O v w,(∀a∈O,H a≠none)/\bJ X.K H O v x/\kF v lo hi=some w/\∀u H',ai H H'->Rep X.K (aw H' O) w u->Q u H'):=by
 intro pins s σ H x v Z vu lo hi sl Q I rx hs pl pu hq;obtain⟨O,pv,w,hO,r1,e,q⟩:=hq;cases pv<;>simp only[kF]at e<;>try (cases e;done)
 .rename_i xs;cases e;obtain⟨a,us,rfl,Y,z⟩:=r1.tup;have e:∀n d o,g5 n d o=HT.sIx n d o:=λn d o=>by cases o<;>rfl
  by_cases J:HT.sIx us.length 0 lo=0/\HT.sIx us.length us.length hi=us.length
  .refine CA pins s σ H _ v Z vu lo hi sl Q I rx hs pl pu ⟨a,us,rfl,Y,J.1,J.2,q _ _ (ai.refl H) ?_⟩;have:cut xs lo hi=xs:=by
    unfold cut;rw[e,e,z.length,J.1,J.2,drop_zero,<- z.length,Nat.sub_zero,take_length]
   rw[this];exact r1.tupR
  .exact EG pins s σ H _ v Z vu lo hi sl Q I rx hs pl pu ⟨a,us,rfl,Y,J,λp U=>q _ _ (ay U _) (g_ hO U (tw z lo hi))⟩
 .cases e;obtain⟨a,us,rfl,Y,z⟩:=r1.lst;exact Cd pins s σ H _ v Z vu lo hi sl Q I rx hs pl pu ⟨a,us,rfl,Y,λp U=>q _ _ (ay U _) (n4 hO U (tw z lo hi))⟩
end
theorem wB(x):∀l,zS x l=Srt.mH Srt.dA x l
 | []=>rfl
 |y::r=>by
  show(if y<x then y::zS x r else x::y::r)=(if Srt.dA.blt y x=true then y::Srt.mH Srt.dA x r else x::y::r);rw[wB x r];by_cases h:y<x
  .have e:Srt.dA.blt y x=true:=Ky h;rw[if_pos h,if_pos e]
  .have e:Srt.dA.blt y x=false:=KP h;rw[if_neg h,if_neg (by rw[e];exact mu)]
theorem dF:∀l,sortI l=Srt.sortI l
 | []=>rfl
 |x::r=>by
  show zS x (sortI r)=Srt.mH Srt.dA x (Srt.iM Srt.dA r);rw[dF r,wB];rfl
theorem n5:∀a b,lexLt a b=HT.lexLt a b
 | [],[]=>rfl
 | [],_::_=>rfl
 | _::_,[]=>rfl
 |x::xs,y::ys=>by
  rw[lexLt,HT.lexLt_cons,n5 xs ys]
theorem wC(x):∀l,zT x l=Srt.mH Srt.fo x l
 | []=>rfl
 |y::r=>by
  show(if lexLt y x=true then y::zT x r else x::y::r)=(if Srt.fo.blt y x=true then y::Srt.mH Srt.fo x r else x::y::r);rw[wC x r,n5]
  rfl
theorem kP:∀l,sortT l=Srt.sortT l
 | []=>rfl
 |x::r=>by
  show zT x (sortT r)=Srt.mH Srt.fo x (Srt.iM Srt.fo r);rw[kP r,wC];rfl
theorem qa:∀l,dd l=St.dd l
 | []=>rfl
 |x::r=>by
  unfold dd St.dd;rw[qa r]
def CZ(ns):Srt.sortI (St.dd ns.reverse)=sortI (dd ns):=by
 rw[dF,qa];refine Srt.sortI_of_perm ?_;refine(Lq (St.dd_nodup _) (St.dd_nodup _)).mpr λa=>?_
 rw[St.gw,St.gw,NW]
def vk(ns):(St.dd ns.reverse).length=(dd ns).length:=by
 rw[qa];refine Perm.length_eq ((Lq (St.dd_nodup _) (St.dd_nodup _)).mpr λa=>?_);rw[St.gw,St.gw,NW]
section
variable{X:Cx}{T:Tab}{k:Nat}{cal:Cal}
def RBM(K:N0)(f:List PV->Option PV):List V->Hp->VK->Prop:=λus H Q =>
 ∃O vs v,(∀a∈O,H a≠none)/\Paired (bJ K H O) vs us/\f vs=some v/\∀u H',ai H H'->Rep K (aw H' O) v u->Q u H'
def p1{K:N0}(h:Paired (bJ K H O) [x] us):∃u,us=[u]/\bJ K H O x u:=by
 cases h with
 |cons r t=>cases t;exact⟨_,rfl,r⟩
def p2{K:N0}(h:Paired (bJ K H O) [x,y] us):∃u w,us=[u,w]/\bJ K H O x u/\bJ K H O y w:=by
 cases h with
 |cons r t=>cases t with
  |cons z t'=>cases t';exact⟨_,_,rfl,r,z⟩
def db(h:az f vs=some v)(z:lC f=some 1\/(dD f).isSome=true\/f=.sortedSet\/f=.lenSet\/f=.valuesOf):∃x,vs=[x]:=by
 cases vs with
 |nil=>cases f<;>simp[az,cw,mJ,jA]at h
 |cons x r=>cases r<;>first|exact⟨x,rfl⟩|(cases f<;>simp[az,cw,jA,lC,dD]at h z)
def H_:bC X (.builtin "len") (RBM X.K (az .len)):=by
 intro pins s σ H xs us Q I r h;obtain⟨O,vs,v,hO,rs,e,q⟩:=h;obtain⟨x,rfl⟩:=db e (.inl rfl);obtain⟨u,rfl,U⟩:=p1 rs;cases x<;>simp[az,cw]at e<;>try (cases e;done)
 .cases e;obtain⟨a,J,rfl,Y,Z⟩:=U.tup;exact ir pins s σ H _ us Q I r ⟨a,J,rfl,.inr Y,by rw[<- Z.length];exact q _ H (ai.refl H) (bR _ _)⟩
 .cases e;obtain⟨a,J,rfl,Y,Z⟩:=U.lst;exact ir pins s σ H _ us Q I r ⟨a,J,rfl,.inl Y,by rw[<- Z.length];exact q _ H (ai.refl H) (bR _ _)⟩
 .rename_i d;cases d with
  |k kvs =>
   cases e;obtain⟨a,rfl,ha⟩:=U.dI;obtain⟨u,rfl,ru⟩:=d9 r;cases ru;obtain⟨hz,hs,J,ao,dd⟩:=jF I.hok (show Rd H a (.dK _)from ha.rd);have z:J.length=kvs.length:=by rw[<- ao.length];unfold g8;rw[mx]
   have hz:kvs.length<=sizeLine:=by unfold g8 at hz;rw[mx]at hz;exact hz
   have hn:=lf;exact call_len_dict hs dd (by rw[z];omega) ⟨.int kvs.length,H,I.tok _,⟨s.toks+1,by rw[z]⟩,q _ H (ai.refl H) (bR _ _)⟩
  | _=>cases e
def wD:bC X (.type "tuple") (RBM X.K (az .tupleOf)):=by
 intro pins s σ H xs us Q I r h;refine aB λZq kq=>?_
 obtain⟨O,vs,v,hO,rs,e,q⟩:=h;obtain⟨x,rfl⟩:=db e (.inl rfl);obtain⟨u,rfl,z⟩:=p1 rs;simp[az,cw,iR,oe]at e;obtain⟨ys,e,rfl⟩:=e;refine kq ?_;cases x<;>simp[bc]at e
 .subst e;obtain⟨a,J,rfl,U,Y⟩:=z.tup;refine jE pins s σ H _ us Q I r ⟨a,J,rfl,.inr ⟨U,q _ H (ai.refl H) ?_⟩⟩;exact z.tupR
 .subst e;obtain⟨a,J,rfl,U,Y⟩:=z.lst;exact jE pins s σ H _ us Q I r ⟨a,J,rfl,.inl ⟨U,λl Z=>q _ _ (ay Z _) (g_ hO Z Y)⟩⟩
def RBF(K:N0)(f:List PV->Option PV):List V->Hp->VK->Prop:=λus H Q =>
 ∃O vs xs,(∀a∈O,H a≠none)/\Paired (bJ K H O) vs us/\f vs=some (.lst xs)/\∀l z,H l=none->Reps K (aw H O) xs z->Q (.ref l) (upd H l (.lst z))
def Fz:bC X (.type "list") (RBF X.K (az .listOf)):=by
 intro pins s σ H xs us Q I r h;refine aB λZq J=>?_
 obtain⟨O,vs,v,hO,U,e,q⟩:=h;obtain⟨x,rfl⟩:=db e (.inl rfl);obtain⟨u,rfl,Y⟩:=p1 U;simp[az,cw,iR,oe,PV.lst.injEq,exists_eq_right]at e;obtain⟨a,z,rfl,Z,t1⟩:=Y.seq e;refine J ?_;exact qM pins s σ H _ us Q I r ⟨a,z,rfl,Z,λl hl=>q l z hl t1⟩
theorem qb{K:N0} :∀{J}{us},Reps K F (J.map λt=>.tup (t.map .int)) us->uY K F us J
 | [],_,h=>by rw[map_nil,Reps]at h;subst h;exact .nil
 |t::J,_,h=>by
  obtain⟨u,r,rfl,q,z⟩:=h;obtain⟨a,vs,e,U,Y⟩:=q;rw[Y.ints]at U;exact .cons ⟨a,e,eO U⟩ (qb z)
theorem qc{K:N0}(s:ai F F'):∀{us}{z},uY K F us z->uY K F' us z
 | _,_,.nil=>.nil
 | _,_,.cons ⟨a,J,U⟩ t=>.cons ⟨a,J,s.seqT U⟩ (qc s t)
theorem qd{K:N0}(h:Reps K F xs us):∀(l:List Nat),(∀i∈l,i<us.length)->Reps K F (l.map λi=>xs.getD i .non) (l.map λi=>us.getD i .non)
 | [],_=>.nil
 |i::l,z=>by
  have hi:=z i (.head _);have hx:i<xs.length:=by rw[h.length];exact hi
  obtain⟨u,U,Y⟩:=h.get (Kz hx);refine .cons ?_ (qd h l λj J=>z j (.tail _ J))
  simp_all
def Ak (g:Gf X T k cal):bC X (.builtin "sorted") (RBF X.K (az .sorted)):=by
 intro pins s σ H xs us Q I r h;refine aB λZq kq=>?_
 obtain⟨O,vs,v,hO,rs,e,q⟩:=h;obtain⟨x,rfl⟩:=db e (.inl rfl);obtain⟨u,rfl,rx⟩:=p1 rs;simp only[az,cw,mJ,iR,jA,ft]at e;obtain⟨ys,e,J⟩:=e;obtain⟨a,ws,rfl,s1,U⟩:=rx.seq e;unfold i4 at J;refine kq ?_;split at J
 .rename_i z;split at J
  .rename_i ns hn;cases J;have:=eA hn;subst this;have Z:=U.ints;subst Z;rw[mx]at z;refine kB g.calm pins s σ H _ us Q I r ⟨a,ns,rfl,s1.imp id .inl,z,λl hl=>?_⟩;rw[<- dF];exact q l _ hl (.of_ints _)
  .simp only[oe,PV.lst.injEq]at J;obtain⟨Y,Z,rfl⟩:=J;have:=sU Z;subst this;rw[mx]at z;refine qV (by have:=g.units;omega) pins s σ H _ us Q I r ⟨a,ws,Y,rfl,s1,qc (bX H O) (qb U),z,λl pm hl hp e=>q l _ hl ?_⟩;have q2:=qd U pm hp;have e4:(pm.map λi=>(Y.map λt=>PV.tup (t.map .int)).getD i .non)=(sortT Y).map λt=>.tup (t.map .int):=by
    rw[kP,<- e,Kx];refine LG λi hi=>?_
    have aO:i<Y.length:=by have:=hp i hi;rw[<- U.length,mx]at this;exact this
    simp[aO]
   rw[e4]at q2;exact q2
 .cases J
def Ia:bC X (.type "int") (RBM X.K (az .intOf)):=by
 intro pins s σ H xs us Q I r h;refine aB λY J=>?_
 obtain⟨O,vs,v,Z,U,e,q⟩:=h;obtain⟨x,rfl⟩:=db e (.inl rfl);obtain⟨u,rfl,z⟩:=p1 U;refine J ?_;cases x<;>simp[az,cw,iR]at e<;>try (cases e;done)
 .cases e;have:=z.bl;subst this;exact pL pins s σ H _ us Q I r (.inr ⟨_,rfl,q _ H (ai.refl H) (bR _ _)⟩)
 .cases e;have:=z.int;subst this;exact pL pins s σ H _ us Q I r (.inl ⟨_,rfl,q _ H (ai.refl H) (bR _ _)⟩)
def Al{f:PV->PV->Option PV}{vs:List PV}{v:PV}(h:mJ vs f=some v):∃x y,vs=[x,y]/\f x y=some v:=by
 match vs,h with
 | [x,y],h=>exact⟨x,y,rfl,h⟩
def FA (hc:X.calm=true):bC X (.builtin "max") (RBM X.K (az .max2)):=by
 intro pins s σ H xs us Q I r h;obtain⟨O,vs,v,hO,z,e,q⟩:=h;obtain⟨x,y,rfl,e⟩:=Al e;obtain⟨i,j,rfl,rfl,e⟩:=dq e;cases e;obtain⟨u,w',rfl,J,U⟩:=p2 z;have Y:=J.int;have Z:=U.int;subst Y Z;exact xy hc pins s σ H _ us Q I r ⟨_,_,rfl,q _ H (ai.refl H) (bR _ _)⟩
def FB (hc:X.calm=true):bC X (.builtin "min") (RBM X.K (az .min2)):=by
 intro pins s σ H xs us Q I r h;obtain⟨O,vs,v,hO,z,e,q⟩:=h;obtain⟨x,y,rfl,e⟩:=Al e;obtain⟨i,j,rfl,rfl,e⟩:=dq e;cases e;obtain⟨u,w',rfl,J,U⟩:=p2 z;have Y:=J.int;have Z:=U.int;subst Y Z;exact xz hc pins s σ H _ us Q I r ⟨_,_,rfl,q _ H (ai.refl H) (bR _ _)⟩
def m3(h:iR x=some ys):x=.lst ys:=by
 cases x<;>cases h
 rfl
def FC (J:dD b=some c):bC X (.builtin "isinstance") (λus H Q=>∃O v u,us=[u,.ty c]/\isD v=false/\bJ X.K H O v u/\Q (.bl (isT b v)) H):=by
 intro pins s σ H xs us Q I r h;obtain⟨O,v,x,rfl,nd,U,q⟩:=h;obtain⟨u,t,rfl,Y,rc⟩:=yX r;have Z:=rc;subst Z;have fin:∀z tk,z=isT b v->EP X pins σ Q (.bool z) { s with toks:=tk }:=λz tk e=>⟨.bl z,H,I.tok tk,rfl,by rw[e];exact q⟩
 cases v with
 |dI _=>cases nd
 |non =>
  have e:=U.non;subst e;cases (show u=Value.none from Y);cases b<;>simp only[dD,p0,reduceCtorEq]at J<;>subst J <;>
   exact PySem.W.kia_one PySem.W.kitx_none I.kIn True.intro (b:=false) (by first|rfl|kernel_rfl|decide) (λz=>nomatch z) λtk=>fin _ tk rfl
 |bl y =>
  have e:=U.bl;subst e;cases (show u=Value.bool y from Y);cases b<;>simp only[dD,p0,reduceCtorEq]at J<;>subst J<;>first
   |exact PySem.W.kia_one PySem.W.kitx_bool I.kIn True.intro (b:=true) (by first|rfl|kernel_rfl|decide) (λz=>nomatch z) λtk=>fin _ tk rfl
   |exact PySem.W.kia_one PySem.W.kitx_bool I.kIn True.intro (b:=false) (by first|rfl|kernel_rfl|decide) (λz=>nomatch z) λtk=>fin _ tk rfl
 |int y =>
  have e:=U.int;subst e;obtain⟨t,z⟩:=(show ∃t,u=Value.int y t from Y);cases z;cases b<;>simp only[dD,p0,reduceCtorEq]at J<;>subst J<;>first
   |exact PySem.W.kia_one PySem.W.kitx_int I.kIn True.intro (b:=true) (by first|rfl|kernel_rfl|decide) (λz=>nomatch z) λtk=>fin _ tk rfl
   |exact PySem.W.kia_one PySem.W.kitx_int I.kIn True.intro (b:=false) (by first|rfl|kernel_rfl|decide) (λz=>nomatch z) λtk=>fin _ tk rfl
 |str y =>
  have e:=U.str;subst e;obtain⟨t,z⟩:=(show ∃t,u=Value.str y t from Y);cases z;cases b<;>simp only[dD,p0,reduceCtorEq]at J<;>subst J<;>first
   |exact PySem.W.kia_one PySem.W.kitx_str I.kIn True.intro (b:=true) (by first|rfl|kernel_rfl|decide) (λz=>nomatch z) λtk=>fin _ tk rfl
   |exact PySem.W.kia_one PySem.W.kitx_str I.kIn True.intro (b:=false) (by first|rfl|kernel_rfl|decide) (λz=>nomatch z) λtk=>fin _ tk rfl
 |lst ys =>
  obtain⟨a,us,rfl,s1,t1⟩:=U.lst;cases (show u=Value.ref a from Y);obtain⟨its,_,p,_⟩:=I.list s1;obtain⟨o,h1,h2,_⟩:=p.isList;cases b<;>simp only[dD,p0,reduceCtorEq]at J<;>subst J<;>first
   |exact PySem.W.kia_one PySem.W.kitx_list I.kIn ⟨o,h1,h2⟩ (b:=true) (by first|rfl|kernel_rfl|decide) (λz=>nomatch z) λtk=>fin _ tk rfl
   |exact PySem.W.kia_one PySem.W.kitx_list I.kIn ⟨o,h1,h2⟩ (b:=false) (by first|rfl|kernel_rfl|decide) (λz=>nomatch z) λtk=>fin _ tk rfl
 |tup ys =>
  obtain⟨a,us,rfl,s1,t1⟩:=U.tup;cases (show u=Value.ref a from Y);obtain⟨its,_,p,_⟩:=I.tuple s1;obtain⟨o,h1,h2,_⟩:=p;cases b<;>simp only[dD,p0,reduceCtorEq]at J<;>subst J<;>first
   |exact PySem.W.kia_one PySem.W.kitx_tuple I.kIn ⟨o,h1,h2⟩ (b:=true) (by first|rfl|kernel_rfl|decide) (λz=>nomatch z) λtk=>fin _ tk rfl
   |exact PySem.W.kia_one PySem.W.kitx_tuple I.kIn ⟨o,h1,h2⟩ (b:=false) (by first|rfl|kernel_rfl|decide) (λz=>nomatch z) λtk=>fin _ tk rfl
theorem j5{K:N0} :∀{bs:List Bool}{us}{its},Reps K F (bs.map .bl) us->aI us its->its=bs.map Value.bool
 | [],_,_,h,w=>by rw[map_nil,Reps]at h;subst h;cases w;rfl
 |b::bs,_,_,h,w=>by
  obtain⟨u,r,rfl,q,t⟩:=h;subst q;cases w with
  |cons z J =>
   cases z;rw[j5 t J];rfl
def xY(bs:List Bool):(range bs.length).all (λi=>bs.getD i false)=bs.all id:=by
 conv=>rhs;rw[<- Srt.jq bs false]
 rw[Nc]
 rfl
def xZ(bs:List Bool):(range bs.length).any (λi=>bs.getD i false)=bs.any id:=by
 conv=>rhs;rw[<- Srt.jq bs false]
 rw[List.any_map]
 rfl
def l6(bs:List Bool):TruthOf P w A (λi v=>(bs.map Value.bool).toArray[i]?=some v) (λi=>bs.getD i false):=by
 intro i v s Q E h q;simp only[getElem?_toArray,KJ,oe]at h;obtain⟨b,e,rfl⟩:=h;have:bs.getD i false=b:=by rw[LF,e];rfl
 have z:Q (bs.getD i false) s:=q;rw[this]at z;exact LA z
def Ib (hc:X.calm=true):bC X (.builtin "any") (RBM X.K (az .any)):=by
 intro pins s σ H xs us Q I r h;refine aB λZq U=>?_
 obtain⟨O,vs,v,hO,Y,e,q⟩:=h;obtain⟨x,rfl⟩:=db e (.inl rfl);obtain⟨u,rfl,Z⟩:=p1 Y;simp[az,cw,ft,oe]at e;obtain⟨ys,e0,bs,e,rfl⟩:=e;obtain rfl:=m3 e0;have:=lA e;subst this;obtain⟨a,ws,rfl,s1,t1⟩:=Z.lst;obtain⟨u,rfl,ru⟩:=d9 r;cases ru;obtain⟨its,r',z,hz⟩:=I.list s1;have:=j5 t1 r';subst this;have J:a<s.heap.objs.size:=by obtain⟨o,ho,_⟩:=z.isList;exact pd ho
 refine U ?_;refine call_any_walk (Ml z.isList ?_);refine⟨s.heap.objs.size,_,_,_,_,_,λi=>bs.getD i false,rfl,Walks.list (by first|exact I.ok.hd hc|simpa using I.ok.hd hc) s.heap.objs.size a (tr J) (bs.map Value.bool).toArray,⟨⟨_,r4 _ rfl,rfl,rfl⟩,z.isList.push _⟩,l6 bs,λh' tk hk=>?_⟩;have e2:(range (bs.map Value.bool).toArray.size).any (λi=>bs.getD i false)=bs.any id:=by
  rw[pb,mx];exact xZ bs
 rw[e2];refine⟨.bl _,H,?_,rfl,q _ H (ai.refl H) (eR _ _)⟩;refine I.kept λb o e=>hk b o ?_ (gk _ e)
 intro hm;have hb:=pd e
 simp_all
def Ic (hc:X.calm=true):bC X (.builtin "all") (RBM X.K (az .all)):=by
 intro pins s σ H xs us Q I r h;refine aB λZq U=>?_
 obtain⟨O,vs,v,hO,Y,e,q⟩:=h;obtain⟨x,rfl⟩:=db e (.inl rfl);obtain⟨u,rfl,Z⟩:=p1 Y;simp only[az,cw,ft,oe]at e;obtain⟨ys,e0,bs,e,rfl⟩:=e;obtain rfl:=m3 e0;have:=lA e;subst this;obtain⟨a,ws,rfl,s1,t1⟩:=Z.lst;obtain⟨u,rfl,ru⟩:=d9 r;cases ru;obtain⟨its,r',z,hz⟩:=I.list s1;have:=j5 t1 r';subst this;have J:a<s.heap.objs.size:=by obtain⟨o,ho,_⟩:=z.isList;exact pd ho
 refine U ?_;refine call_all_walk (Ml z.isList ?_);refine⟨s.heap.objs.size,_,_,_,_,_,λi=>bs.getD i false,rfl,Walks.list (by first|exact I.ok.hd hc|simpa using I.ok.hd hc) s.heap.objs.size a (tr J) (bs.map Value.bool).toArray,⟨⟨_,r4 _ rfl,rfl,rfl⟩,z.isList.push _⟩,l6 bs,λh' tk hk=>?_⟩;have e2:(range (bs.map Value.bool).toArray.size).all (λi=>bs.getD i false)=bs.all id:=by
  rw[pb,mx];exact xY bs
 rw[e2];refine⟨.bl _,H,?_,rfl,q _ H (ai.refl H) (eR _ _)⟩;refine I.kept (t':=tk) λb o e=>hk b o ?_ (gk _ e)
 intro hm;have hb:=pd e
 simp_all
theorem l7(ns:List Int):∀k,k<=ns.length->preSum (λi=>ns.getD i 0) k=(ns.take k).sum
 |0,_=>by simp[preSum]
 |k+1,h=>by
  have e:ns.take (k+1)=ns.take k++[ns.getD k 0]:=by
   rw[take_succ,LF,Kz (by omega)]
   rfl
  rw[preSum,l7 ns k (by omega),e,sum_append];simp
def Ie (hc:X.calm=true):bC X (.builtin "sum") (RBM X.K (az .sum)):=by
 intro pins s σ H xs us Q I r h;obtain⟨O,vs,v,hO,rs,e,q⟩:=h;obtain⟨x,rfl⟩:=db e (.inl rfl)
 .refine aB λZq kq=>?_
  simp only[az,cw,ft,oe]at e;obtain⟨ys,e9,ns,e0,rfl⟩:=e;obtain rfl:=m3 e9;have:=eA e0;subst this;obtain⟨u,rfl,rx⟩:=p1 rs;obtain⟨a,ws,rfl,s1,t1⟩:=rx.lst;have:=t1.ints;subst this;obtain⟨u,rfl,ru⟩:=d9 r;cases ru;obtain⟨its,r',Y,hz⟩:=I.list s1;have ia:=da r';have hl:=r'.length;rw[mx]at hl;have J:a<s.heap.objs.size:=by obtain⟨o,ho,_⟩:=Y.isList;exact pd ho
  have hh:X.A.in1.handled=none:=by simpa using I.ok.hd hc
  refine kq ?_;refine call_sum_walkAnyS (Ml Y.isList ⟨s.heap.objs.size,_,_,_,_,_,_,λi=>ns.getD i 0,rfl,(Walks.list hh s.heap.objs.size a (tr J) its.toArray).toS,⟨⟨_,r4 _ rfl,rfl,rfl⟩,Y.isList.push _⟩,λb hb=>?_,λi v hv=>St.mP (items:=its.toArray) (by simpa using ia) i v hv,λs' t' U=>?_⟩)
  .simp only[wh,LU,MC]at hb;rw[KR];rcases hb with rfl|rfl
   .simp_all
   .exact KZ J
  .obtain⟨h',g',d',tk,Z⟩:=s';have e1:g'=s.gens:=U.gens;have e2:d'=s.drawn:=U.drawn;have e3:Z=s.os:=U.os;subst e1 e2 e3;rw[pb,<- hl,l7 ns ns.length (g4 _),take_length];refine⟨.int ns.sum,H,I.kept (t':=tk) λb o eb=>U.heap b o (λz=>?_) (gk _ eb),⟨_,rfl⟩,q _ H (ai.refl H) (bR _ _)⟩;rw[KL.mp z]at eb;exact absurd (pd eb) (K5 _)
def lF:∀{ns}{m},u9 ns=some m->m∈ns/\∀x∈ns,x<=m
 |n::ns,m,h=>by
  have gen:∀l (a:Int),(l.foldl (λa b=>if a<b then b else a) a∈a::l)/\a<=l.foldl (λa b=>if a<b then b else a) a/\∀x∈l,x<=l.foldl (λa b=>if a<b then b else a) a:=by
   intro l
   induction l with
   |nil=>intro a;exact⟨.head _,NX _,λx hx=>by cases hx⟩
   |cons b l ih =>
    intro a;obtain⟨h1,h2,z⟩:=ih (if a<b then b else a);rw[foldl_cons];refine⟨?_,?_,λx hx=>?_⟩
    .rcases wh.mp h1 with e|e
     .rw[e];split
      .exact .tail _ (.head _)
      .exact .head _
     .exact .tail _ (.tail _ e)
    .exact NT (by split<;>omega) h2
    .rcases wh.mp hx with rfl|hx
     .exact NT (by split<;>omega) h2
     .exact z x hx
  obtain⟨h1,h2,z⟩:=gen ns n;cases h;exact⟨h1,λx hx=>by
   rcases wh.mp hx with rfl|hx
   .exact h2
   .exact z x hx⟩
def FD (hc:X.calm=true):bC X (.builtin "max") (RBM X.K (az .max1)):=by
 intro pins s σ H xs us Q I r h;refine aB λZq kq=>?_
 obtain⟨O,vs,v,hO,rs,e,q⟩:=h;obtain⟨x,rfl⟩:=db e (.inl rfl);simp only[az,cw,ft,oe]at e;obtain⟨ys,e9,ns,e0,m,em,rfl⟩:=e;obtain rfl:=m3 e9;have:=eA e0;subst this;obtain⟨u,rfl,rx⟩:=p1 rs;obtain⟨a,ws,rfl,s1,t1⟩:=rx.lst;have:=t1.ints;subst this;obtain⟨u,rfl,ru⟩:=d9 r;cases ru;obtain⟨its,Z,pl,hz⟩:=I.list s1;have ia:=da Z;have hl:=Z.length;rw[mx]at hl;obtain⟨J,b3⟩:=lF em;have aO:=length_pos_iff.mpr (ne_nil_of_mem J);obtain⟨zs,U⟩:=ia.allInts.items;have b4:zs.size=ns.length:=by
  have:=KN Array.size U;simp[intItems]at this;omega
 have num:∀i,i<ns.length->numAt zs i=ns.getD i 0:=λi hi=>by
  have h1:(intItems zs)[i]?=some (.int (zs[i]'(by omega)).1 (zs[i]'(by omega)).2):=by simp[intItems,show i<zs.size by omega]
  obtain⟨t,e1⟩:=intItems_at h1;obtain⟨t',e2⟩:=St.mP (items:=its.toArray) (by simpa using ia) i _ (by rw[U];exact h1)
  simp_all
 have z:s.heap.IsList a (intItems zs):=by rw[<- U];exact pl.isList
 refine kq ?_;refine max_intList (I.ok.hd hc) z (by omega) λv h' tk hv hk=>?_
 obtain⟨t,rfl⟩:=intItems_at hv;obtain⟨b1,b2⟩:=argBest_gt (numAt zs) (zs.size-1);generalize argBest (λi j=>decide (numAt zs i > numAt zs j)) (zs.size-1)=k at b1 b2;have Y:k<ns.length:=by omega
 have e1:numAt zs k=m:=by
  refine Int.le_antisymm ?_ ?_
  .rw[num k Y]
   simp_all
  .obtain⟨j,hj,rfl⟩:=getElem_of_mem J;have:=b2 j (by omega);rw[num j hj,LF,Kz hj]at this;exact this
 rw[e1];exact⟨.int m,H,I.kept (t':=tk) hk,⟨_,rfl⟩,q _ H (ai.refl H) (bR _ _)⟩
def wE (hc:X.calm=true):bC X (.type "set") (λus H Q=>∃O v u ns,us=[u]/\bJ X.K H O v u/\((bc v).bind bj)=some ns/\ns.length<=1000/\∀l,H l=none->Q (.ref l) (upd H l (jJ X.prog X.w l (St.dd ns.reverse)))):=by
 intro pins s σ H xs us Q I r h;refine aB λZq J=>?_
 obtain⟨O,v,u,ns,rfl,U,e,z,q⟩:=h;simp[ft]at e;obtain⟨ys,Y,Z⟩:=e;obtain⟨a,ws,rfl,s1,t1⟩:=U.seq Y;have:=eA Z;subst this;have e3:=t1.ints;subst e3;refine J ?_;exact zD hc pins s σ H _ us Q I r ⟨a,ns,rfl,s1,z,λl hl=>q l hl⟩
def tz (hc:X.calm=true):bC X (.builtin "sorted") (λus H Q=>∃l ks,us=[.ref l]/\H l=some (jJ X.prog X.w l ks)/\ks.length<64/\∀p,H p=none->Q (.ref p) (upd H p (.lst ((Srt.sortI ks).map V.int)))):=by
 intro pins s σ H xs us Q I r h;obtain⟨l,ks,rfl,e,z,q⟩:=h;exact kB hc pins s σ H _ us Q I r ⟨l,ks,rfl,.inr (.inr e),z,q⟩
end
end MM
namespace L2
open PySem PySem.Spec PyProof.Rows List Option
def Inv.turned2(I:Inv X pins σ H s)(he:s.heap.get? e=some J)(hf:J.isFreed=false)(Z:∃o,h'.get? e=some o)
  (k:∀b o,b≠e->b≠it->s.heap.get? b=some o->h'.get? b=some o) (fe:lc X pins H e) (fi:lc X pins H it):Inv X pins σ H { s with heap:=h',toks:=t' }:=by
 obtain⟨o',ao⟩:=Z;obtain⟨a0,a1,a2,a3,a4,a5⟩:=fe;obtain⟨b0,b1,b2,b3,b4,b5⟩:=fi;have aO:(h'.update e λ_=>J).get? e=some J:=K8 _ ao hf;have U:∀b,b≠e->(h'.update e λ_=>J).get? b=h'.get? b:=λb Y=>(KY h' e _).2 b Y
 have I1:Inv X pins σ H { s with heap:=h'.update e λ_=>J,toks:=t' }:=I.turned (it:=it) (λb o Y q=>by
  by_cases z:b=e
  .subst z;rw[aO,<- he];exact q
  .rw[U b z];exact k b o z Y q) b0 b1 b3 b4 b5
 exact Inv.turned (s:={ s with heap:=h'.update e λ_=>J,toks:=t' }) (it:=e) I1 (λb o Y q=>by
  have q:=q;rw[U b Y]at q;exact q) a0 a1 a3 a4 a5
noncomputable def Ite(q:Hp->List V->Prop):It:=
 ⟨λi H=>∃xs,q H xs/\i<xs.length,λi H x H'=>∃p,x=.ref p/\H p=none/\∃u,H'=upd H p (.tup [.int i,u])/\∀xs,q H xs->xs[i]?=some u,λi H=>∃xs,q H xs/\i=xs.length⟩
structure Src(P:Program)(w:World)(K:N0)(a it:Addr)(q:Hp->List V->Prop)(r:Nat->Heap->Prop):Prop where
 ne:a≠it
 keep:∀i h h',r i h->(∀o,h.get? it=some o->h'.get? it=some o)->r i h'
 live:∀i h,r i h->∃o,h.get? it=some o/\∀v,o.data≠.cell v
 one:∀(X:Cx),X.K=K->∀(pins:List (Addr×Obj)) (s:Shared) (σ:St) (H:Hp) (xs ys:List V),Inv X pins σ H s->q H xs->q H ys->xs=ys
 row:∀(X:Cx),X.prog=P->X.w=w->X.K=K->∀(pins:List (Addr×Obj)) (s:Shared) (σ:St) (H:Hp) (xs:List V),Inv X pins σ H s->q H xs->∃(its:List Value),aI xs its/\∀(A:Around),A.handled=none ->
  ∃St:Nat->Heap->Prop,Draws P w A it [it,a] its.length (λi v=>its[i]?=some v) St/\(∀i,r i s.heap->St i s.heap)/\∀i h,St i h->r i h
def Am{K:N0}(S:Src P w K a it q r)(ao:e≠it)(a9:e≠a) :
  uE P w K (.Tuple ts j tp) (Ite q) [e,it] e (λi h=>(∃old,IsEnum h e it (i:Nat) old)/\r i h) where
 mem:=.head _
 obj:=λi h st b J=>by
  obtain⟨⟨old,U⟩,Y⟩:=st;rcases wh.mp J with rfl|J
  .exact⟨_,U,λv z=>by cases z⟩
  .have z:b=it:=by simpa using J
   subst z;exact S.live i h Y
 keep:=λi h h' ⟨⟨old,U⟩,Y⟩ k=>⟨⟨old,k e (.head _) _ U⟩,S.keep i h h' Y (k it (.tail _ (.head _)))⟩
 item:=by
  intro X hP hw hK hc i pins s σ H E I hf st hg;obtain⟨⟨old,U⟩,Y⟩:=st;obtain⟨xs,hq,hi⟩:=hg;obtain⟨its,rv,dr⟩:=S.row X hP hw hK pins s σ H xs I hq;have hh:=I.ok.hd hc;obtain⟨St,D,Z,aO⟩:=dr X.A.in1 (by simpa using hh);have hl:=rv.length;have fe:=hf e (.head _);have fi:=hf it (.tail _ (.head _));refine wpAny_pyNext_enum_itemD D U (Z i Y) (by omega) ao (by simp only[wh,LU,MC,not_or];exact⟨ao,a9⟩) λx h' tk px eo b2 tup sz kp=>?_
  refine⟨_,rfl,wpAny_letOwnedTupleGo_enum eo λh2 a0 a1=>?_⟩;have hx:=hi;obtain⟨u,hu,ru⟩:=rv.get (Kz hx);have ex:x=u:=by
   have:=px.symm.trans hu;simpa using this
  subst ex;have fresh:=I.hok.fresh (g4 _);have ne:∀b o,s.heap.get? b=some o->b≠s.heap.objs.size:=λb o q z=>K5 _ (by have:=pd q;rw[z]at this;exact this)
  have en:=ne _ _ U;obtain⟨oi,b3,_⟩:=S.live i _ Y;have a2:=ne _ _ b3;have I1:Inv X pins σ (upd H s.heap.objs.size (.tup [.int i,xs[i]])) { s with heap:=s.heap.push { cls:=.type "tuple",data:=.seq #[.int i tk,x] } }:=
   I.laid (t':=s.toks) (λb o q=>gk _ q) (g4 _) ⟨by show 2<=sizeLine;decide,_,.cons ⟨_,rfl⟩ (.cons ru .nil),IsTup.new _ _⟩
  have up:∀b,b≠s.heap.objs.size->lc X pins H b->lc X pins (upd H s.heap.objs.size (.tup [.int i,xs[i]])) b:=λb J ⟨z,r⟩=>⟨by rw[bb J];exact z,r⟩
  have I2:=I1.turned2 (h':=h2) (t':=tk+1) (e:=e) (it:=it) (gk _ U) rfl ⟨_,a0⟩ (λb o a3 b4 q=>?_) (up e en fe) (up it a2 fi)
  .refine⟨.ref s.heap.objs.size,_,I2,rfl,⟨_,rfl,fresh,_,rfl,λys hy=>?_⟩,⟨⟨_,by simpa using a0⟩,?_⟩,λb J=>?_⟩
   .rw[S.one X hK pins s σ H ys xs I hy hq];exact Kz hx
   .refine aO _ _ (D.frame _ _ _ b2 λb J o q=>?_);rw[a1.2 b λz=>?_]
    .exact q
    .simp_all
   .rcases wh.mp J with rfl|J
    .exact(up b en fe).1
    .have z:b=it:=by simpa using J
     subst z;exact(up b a2 fi).1
  .rw[a1.2 b a3];rcases Heap.get?_push_cases q with⟨rfl,rfl⟩|q
   .exact tup
   .exact kp b o a3 b4 q
 done:=by
  intro X hP hw hK hc i pins s σ H E I hf st hg;obtain⟨⟨old,U⟩,Y⟩:=st;obtain⟨xs,hq,hi⟩:=hg;obtain⟨its,rv,dr⟩:=S.row X hP hw hK pins s σ H xs I hq;have hh:=I.ok.hd hc;obtain⟨St,D,Z,aO⟩:=dr X.A.in1 (by simpa using hh);have hl:=rv.length;obtain⟨f0,f1,f2,f3,f4,f5⟩:=hf it (.tail _ (.head _));have e:i=its.length:=by omega
  subst e;exact wpAny_pyNext_enum_endD D U (Z _ Y) λh' eb=>⟨rfl,I.turned (t':=s.toks) (λb o J q=>eb b o J q) f0 f1 f3 f4 f5⟩
 self:=λ_ i s Q E ⟨⟨old,U⟩,_⟩ h=>wpAny_pyIter_enum U h
def An{K:N0}(ne:a≠it):Src P w K a it (λH xs=>SqL K H a xs) (λi h=>h.IsListIter it a i) where
 ne:=ne
 keep:=λi h h' ⟨o,ho,r⟩ k=>⟨o,k o ho,r⟩
 live:=λi h ⟨o,ho,_,hd⟩=>⟨o,ho,λv z=>by rw[hd]at z;cases z⟩
 one:=λX J pins s σ H xs ys I h h'=>by subst J;exact I.list_inj h h'
 row:=λX U hw J pins s σ H xs I h=>by
  subst U hw J;obtain⟨its,Y,p,_⟩:=I.list h;refine⟨its,Y,λA Z=>⟨λi h=>h.IsListIter it a i/\h.IsList a its.toArray,?_,λi st=>⟨st,p.isList⟩,λi h' st=>st.1⟩⟩;simpa using Draws.list (prog:=X.prog) (w:=X.w) Z it a ne its.toArray
def C0{K:N0}(ne:a≠it):Src P w K a it (λH xs=>SqT K H a xs) (λi h=>h.IsTupleIter it a i) where
 ne:=ne
 keep:=λi h h' ⟨o,ho,r⟩ k=>⟨o,k o ho,r⟩
 live:=λi h ⟨o,ho,_,hd⟩=>⟨o,ho,λv z=>by rw[hd]at z;cases z⟩
 one:=λX J pins s σ H xs ys I h h'=>by subst J;exact I.tuple_inj h h'
 row:=λX U hw J pins s σ H xs I h=>by
  subst U hw J;obtain⟨its,Y,p,_⟩:=I.tuple h;refine⟨its,Y,λA Z=>⟨λi h=>h.IsTupleIter it a i/\h.IsTuple a its.toArray,?_,λi st=>⟨st,(show s.heap.IsTuple a its.toArray from p)⟩,λi h' st=>st.1⟩⟩;simpa using En.draws (P:=X.prog) (w:=X.w) Z it a ne its.toArray
noncomputable def J6(K:N0)(tl:TE):TI:=λσ H R=>tl σ H λx H1=>∃a,x=.ref a/\(((∃xs,SqL K H1 a xs)/\R (Ite λH xs=>SqL K H a xs) H1)\/((∃xs,SqT K H1 a xs)/\R (Ite λH xs=>SqT K H a xs) H1))
def tD{σ:St}{H:Hp}{s:Shared}{E:Value->Shared->Prop}{h':Heap}{U:List Expr}{j:Nat}{Y:Pos}{a:Addr}{q:Hp->List V->Prop}{r:Nat->Heap->Prop}{R:It->Hp->Prop}(I:Inv X pins σ H s)(Z:a<s.heap.objs.size)
  (S:Src X.prog X.w X.K a s.heap.objs.size q r) (J:IsEnum h' (s.heap.objs.size+1) s.heap.objs.size 0 .none) (hr:r 0 h') (k:∀b o,s.heap.get? b=some o->h'.get? b=some o) (hR:R (Ite q) H) :
  wpAny (model X.prog X.w) X.A (pyIter (.ref (s.heap.objs.size+1))) (PIE X pins σ (.Tuple U j Y) R) E { s with heap:=h' }:=by
 have I1:=I.kept (t':=s.toks) k;refine wpAny_pyIter_enum (s:={ s with heap:=h' }) J ⟨s.heap.objs.size+1,[s.heap.objs.size+1,s.heap.objs.size],_,_,H,rfl,I1,Am S (Nat.succ_ne_self _) (Lr (KZ Z)),⟨⟨_,J⟩,hr⟩,λb z=>?_,hR⟩;have z:s.heap.objs.size<=b:=by
  simp only[wh,LU,MC]at z;rcases z with rfl|rfl
  .exact LV _
  .exact g4 _
 exact I.fpOk z (I.hok.fresh z)
def Ao (hg:Gl X "enumerate") (hm:X.mg "enumerate"=none) (hl:PE X l tl) (hs:starEach [l] X.env=[(false,eval l X.env)]:=by rfl) :
  PI X (.Tuple ts j tp) (.Call (.Name "enumerate" p) [l] [] pos) (J6 X.K tl):=by
 intro pins s σ H R I h;refine Call_ (iV I hg hm PyProof.Rows.boot_enumerate (Li (thn (aR hl bN hs pos pins s σ H (λvs H1=>match vs with
  | [x]=>∃a,x=.ref a/\(((∃xs,SqL X.K H1 a xs)/\R (Ite λH xs=>SqL X.K H a xs) H1)\/((∃xs,SqT X.K H1 a xs)/\R (Ite λH xs=>SqT X.K H a xs) H1))
  | _=>False) I h) λus s1 ⟨vs,H1,J,r1,U⟩=>?_) hs rfl))
 cases r1 with
 |nil=>exact U.elim
 |cons r rr =>
  cases rr with
  |cons _ _=>exact U.elim
  |nil =>
   obtain⟨a,e,q⟩:=U;subst e;cases r;rcases q with⟨⟨xs,Y⟩,q⟩|⟨⟨xs,Y⟩,q⟩
   .obtain⟨its,_,pl,_⟩:=J.list Y;have z:=let ⟨o,ho,_⟩:=pl.isList;pd ho
    exact call_enumerate_list pl.isList λh' Z it _ k=>tD J z (An (tr z)) Z it k q
   .obtain⟨its,_,pt,_⟩:=J.tuple Y;have z:=let ⟨o,ho,_⟩:=pt;pd ho
    exact En.call_tup pt λh' Z it _ k=>tD J z (C0 (tr z)) Z it k q
end L2
namespace MM
open PySem PySem.Spec PyProof.Rows L2 List Option
structure n6(K:N0)(J:It)(xs:List PV)(V G:Hp):Prop where
 stop:∀H',ai G H'->J.stop xs.length H'
 go:∀(i:Nat) x H',ai G H'->xs[i]?=some x->J.go i H'
 yld:∀(i:Nat) x H' u H2,ai G H'->xs[i]?=some x->J.yld i H' u H2->ai H' H2/\∀O',(∀a∈O',H' a≠none)->ai V (aw H2 O')->Rep K (aw H2 O') x u
def n6.weak{K:N0}{V G z:Hp}(h:n6 K J xs V G)(s:ai G z):n6 K J xs V z:=
 ⟨λH' s'=>h.stop H' (s.trans s'),λi x H' s'=>h.go i x H' (s.trans s'),λi x H' u H2 s'=>h.yld i x H' u H2 (s.trans s')⟩
noncomputable def bp(ms:List ME)(W:Rho)(σ:St):List Addr:=match ms with
 | [.bor i]=>(match (W[i]?).join,(σ[i]?).join with|some (.own _),some (.ref a)=>[a]|_,_=>[])
 | _=>[]
noncomputable def bh(B:Hp)(O:List Addr)(H:Hp)(L:List Addr):Hp:=λb=>if b∈O then(if b∈L then H b else B b)else H b
section
variable{K:N0}{B H:Hp}{O L:List Addr}
def n8(s:ai B H):ai (bh B O H L) H:=λb u e=>by
 unfold bh at e;split at e
 .split at e
  .exact e
  .exact s b u e
 .exact e
def eC(s:ai B H):ai B (bh B O H L):=λb u e=>by
 unfold bh;split
 .split
  .exact s b u e
  .exact e
 .exact s b u e
def cy:ai (aw H O) (bh B O H L):=λb u e=>by
 have J:b∉O:=λz=>by rw[e_ z]at e;cases e
 unfold bh;rw[if_neg J];rw[be J]at e;exact e
end
def m4{K:N0}{V G:Hp}(h:SqL K G a us)(r:Reps K V xs us):n6 K (Itl K a) xs V G where
 stop:=λH' s=>⟨us,s.seq h,Ms r.length.symm⟩
 go:=λi x H' s e=>by
  obtain⟨u,z,_⟩:=r.get e;exact⟨us,u,s.seq h,z⟩
 yld:=λi x H' u H2 s e y=>by
  obtain⟨rfl,y⟩:=y;obtain⟨w,z,q⟩:=r.get e;have J:=y us (s.seq h);rw[z]at J;cases J;exact⟨ai.refl _,λU _ sv=>Rep.mono sv _ q⟩
def Ap{K:N0}{V G:Hp}(h:SqT K G a us)(r:Reps K V xs us):n6 K (Itt K a) xs V G where
 stop:=λH' s=>⟨us,s.seqT h,Ms r.length.symm⟩
 go:=λi x H' s e=>by
  obtain⟨u,z,_⟩:=r.get e;exact⟨us,u,s.seqT h,z⟩
 yld:=λi x H' u H2 s e y=>by
  obtain⟨rfl,y⟩:=y;obtain⟨w,z,q⟩:=r.get e;have J:=y us (s.seqT h);rw[z]at J;cases J;exact⟨ai.refl _,λU _ sv=>Rep.mono sv _ q⟩
def n9{K:N0}{V G:Hp}{lo:Int} :n6 K (Itr lo n) ((range n).map λ(k:Nat)=>.int (lo+k)) V G where
 stop:=λH' s=>by simp[Itr]
 go:=λi x H' s e=>by
  have:=(Ku.mp e).1;simpa[Itr]using this
 yld:=λi x H' u H2 s e y=>by
  obtain⟨rfl,rfl⟩:=y;refine⟨ai.refl _,λz _ sv=>?_⟩;have hi:i<n:=by have:=(Ku.mp e).1;simpa using this
  rw[KJ,getElem?_range hi]at e;cases e;rw[Rep]
def FE{K:N0}(J:∀a∈O,H a≠none)(U:H p=none)(h:Reps K (aw (upd H p (.tup us)) O) xs us):Rep K (aw (upd H p (.tup us)) O) (.tup xs) (.ref p):=by
 refine⟨p,us,rfl,?_,h⟩;rw[be λz=>J p z U];exact ax ..
theorem wF:∀xs (k i:Nat),(bD k xs)[i]?=(xs[i]?).map λx=>.tup [.int ((k+i:Nat):Int),x]
 | [],k,i=>by simp[bD]
 |x::xs,k,0=>by simp[bD]
 |x::xs,k,i+1=>by
  rw[bD,getElem?_cons_succ,getElem?_cons_succ,wF xs (k+1) i,show k+1+i=k+(i+1)by omega]
theorem n_:∀xs k,(bD k xs).length=xs.length
 | [],_=>rfl
 |x::xs,k=>by rw[bD,length_cons,length_cons,n_ xs]
def lG{K:N0}{V G:Hp}{q:Hp->List L2.V->Prop}{xs:List PV}{us:List L2.V}(h:∀H',ai G H'->q H' us)(r:Reps K V xs us):n6 K (Ite q) (bD 0 xs) V G where
 stop:=λH' s=>⟨us,h H' s,by rw[n_];exact r.length⟩
 go:=λi x H' s e=>by
  refine⟨us,h H' s,?_⟩;have:=(Ku.mp e).1;rw[n_]at this;rw[<- r.length];exact this
 yld:=λi x H' u H2 s e y=>by
  refine aB λZq Y=>?_
  obtain⟨p,rfl,J,v,rfl,y⟩:=y;rw[wF]at e;obtain⟨z,Z,rfl⟩:=oe.mp e;obtain⟨w,e2,rz⟩:=r.get Z;have U:=y us (h H' s);rw[e2]at U;cases U;refine Y ?_;refine⟨ay J _,λO' hO sv=>?_⟩;rw[L9];refine FE hO J (.cons (bR _ _) (.cons (Rep.mono sv _ rz) .nil))
noncomputable def tW(K:N0)(cal:Cal)(k:Sk)(ms:List ME):TI:=λσ H R =>
 ∃B E O W vs xs,aG K B E O H W σ/\evs cal ms W=some vs/\bg k vs=some xs/\∀J H1,ai H H1->n6 K J xs (aw H1 O) (bh B O H1 (bp ms W σ))->R J H1
section
variable{X:Cx}{cal:Cal}{tg:Expr}
theorem PI.or(h:PI X tg e t)(g:PI X tg e u):PI X tg e (λσ H R=>t σ H R\/u σ H R):=λpins s σ H R I q=>q.elim (h pins s σ H R I) (g pins s σ H R I)
theorem rh:∀{ms}{W}{vs},evs cal ms W=some vs->vs.length=ms.length
 | [],_,_,h=>by simp[evs]at h;subst h;rfl
 |m::ms,_,_,h=>by
  simp[evs,ft]at h;obtain⟨v,_,w,z,rfl⟩:=h;simp[rh z]
def tG(h:evs cal [m] W=some vs):∃v,vs=[v]/\ev cal m W=some v:=by
 simp[evs,ft]at h;obtain⟨v,e,w,z,rfl⟩:=h
 simp_all
def rj{K:N0}(h:Rep K F v u)(e:bc v=some xs):∃a us,u=.ref a/\Reps K F xs us/\((v=.lst xs/\SqL K F a us)\/(v=.tup xs/\SqT K F a us)):=by
 cases v<;>first|(simp[bc]at e;subst e;rw[Rep]at h;obtain⟨a,us,e,q,r⟩:=h;exact⟨a,us,e,r,.inl ⟨rfl,q⟩⟩)|(simp[bc]at e;subst e;rw[Rep]at h;obtain⟨a,us,e,q,r⟩:=h;exact⟨a,us,e,r,.inr ⟨rfl,eO q⟩⟩)|simp[bc]at e
def Ig(U:aN m=false)(h:PE X e (tE X.K cal m)):PI X tg e (tW X.K cal .seq [m]):=by
 refine(PI.or (vW h) (yV h)).imp λσ H R q=>?_
 obtain⟨B,E,O,W,vs,xs,st,e1,e2,q⟩:=q;obtain⟨v,rfl,Z⟩:=tG e1;have z:bc v=some xs:=e2;have hl:bp [m] W σ=[]:=by cases m<;>first|rfl|cases U
 rw[hl]at q;cases v with
 |lst ys =>
  simp[bc]at z;subst z
  refine .inl ⟨B,E,O,W,_,st,Z,λu H' s g=>?_⟩;have r:=g.2 U;rw[Rep]at r;obtain⟨a,us,rfl,J,Y⟩:=r;exact⟨a,rfl,⟨us,(bX H' O).seq J⟩,q _ _ s (m4 (cy.seq J) Y)⟩
 |tup ys =>
  simp[bc]at z;subst z
  refine .inr ⟨B,E,O,W,_,st,Z,λu H' s g=>?_⟩;have r:=g.2 U;obtain⟨a,us,rfl,J,Y⟩:=r;exact⟨a,rfl,⟨us,(bX H' O).seqT (eO J)⟩,q _ _ s (Ap (cy.seqT (eO J)) Y)⟩
 | _=>simp[bc]at z
def Ih(h:ba X.N X.env.scope i x=true):PI X tg (.Name x pos) (tW X.K cal .seq [.bor i]):=by
 refine(PI.or (vW (cx h)) (yV (cx h))).imp λσ H R q=>?_
 refine aB λZq kq=>?_
 obtain⟨B,E,O,W,vs,xs,st,e1,e2,q⟩:=q;obtain⟨v,rfl,J⟩:=tG e1;have U:bc v=some xs:=e2;rw[ev]at J;refine kq ?_;cases hj:(W[i]?).join with
 |none=>rw[hj]at J;cases J
 |some m =>
  rw[hj]at J;obtain⟨u,eu,so⟩:=aZ st hj;cases m with
  |val w =>
   simp only[bE,p0]at J;subst J;have a1:=so;obtain⟨a,us,rfl,Z,z⟩:=rj a1 U;rcases z with⟨rfl,Y⟩|⟨rfl,Y⟩
   .exact .inl ⟨_,eu,a,rfl,⟨us,(bX H O).seq Y⟩,q _ _ (ai.refl H) (m4 (cy.seq Y) Z)⟩
   .exact .inr ⟨_,eu,a,rfl,⟨us,(bX H O).seqT Y⟩,q _ _ (ai.refl H) (Ap (cy.seqT Y) Z)⟩
  |own ys =>
   simp only[bE,p0]at J;subst J;simp[bc]at U;subst U
   obtain⟨a,us,rfl,ha,Z,hO,_⟩:=so;refine .inl ⟨_,eu,a,rfl,⟨us,SqL.of ha⟩,q _ _ (ai.refl H) (m4 (SqL.of ?_) Z)⟩;have hl:bp [.bor i] W σ=[a]:=by simp[bp,hj,eu]
   unfold bh
   simp_all
  |brw ys =>
   simp only[bE,p0]at J;subst J;simp[bc]at U;subst U
   obtain⟨a,us,rfl,Y,Z⟩:=so;exact .inl ⟨_,eu,a,rfl,⟨us,st.keep.seq Y⟩,q _ _ (ai.refl H) (m4 ((eC st.keep).seq Y) Z)⟩
  |ownD ys =>
   have J:=wo J;subst J;simp[bc]at U
  |mutD ys =>
   have J:=wt J;subst J;simp[bc]at U
  |brwD ys =>
   have J:=wq J;subst J;simp[bc]at U
def Ii (g:Gf X T k cal) (hf:f=("enumerate":Str)) (hg:glB X.env.scope f=true) (hs:ah e=true) (hb:aN m=false) (h:PE X e (tE X.K cal m)):PI X (.Tuple ts j tp) (.Call (.Name f p) [e] [] pos) (tW X.K cal .enm [m]):=by
 subst hf;have J:starEach [e] X.env=[(false,eval e X.env)]:=by cases e<;>first|rfl|(simp[ah]at hs)
 refine(Ao (dE hg) (g.blt "enumerate" (by decide)) h J).imp λσ H R q=>?_
 obtain⟨B,E,O,W,vs,xs,st,e1,Z,q⟩:=q;obtain⟨v,rfl,e3⟩:=tG e1;simp[bg,oe]at Z;obtain⟨ys,e4,rfl⟩:=Z;refine⟨B,E,O,W,_,st,e3,λu H' s g=>?_⟩;obtain⟨a,us,rfl,rs,z⟩:=rj (g.2 hb) e4;rcases z with⟨_,U⟩|⟨_,U⟩
 .exact⟨a,rfl,.inl ⟨⟨us,(bX H' O).seq U⟩,q _ _ s (lG (λH2 Y=>Y.seq (cy.seq U)) rs)⟩⟩
 .exact⟨a,rfl,.inr ⟨⟨us,(bX H' O).seqT U⟩,q _ _ s (lG (λH2 Y=>Y.seqT (cy.seqT U)) rs)⟩⟩
def FF (g:Gf X T k cal) (hf:f=("enumerate":Str)) (hg:glB X.env.scope f=true) (h:ba X.N X.env.scope i x=true):PI X (.Tuple ts j tp) (.Call (.Name f p) [.Name x px] [] pos) (tW X.K cal .enm [.bor i]):=by
 subst hf;refine(Ao (dE hg) (g.blt "enumerate" (by decide)) (cx h) rfl).imp λσ H R q=>?_
 obtain⟨B,E,O,W,vs,xs,st,e1,e2,q⟩:=q;obtain⟨v,rfl,J⟩:=tG e1;simp only[bg,oe]at e2;obtain⟨zs,U,rfl⟩:=e2;rw[ev]at J;cases hj:(W[i]?).join with
 |none=>rw[hj]at J;cases J
 |some m =>
  rw[hj]at J;obtain⟨u,eu,so⟩:=aZ st hj;cases m with
  |val w =>
   simp only[bE,p0]at J;subst J;have a2:=so;obtain⟨a,us,rfl,rs,z⟩:=rj a2 U;rcases z with⟨rfl,Y⟩|⟨rfl,Y⟩
   .exact⟨_,eu,a,rfl,.inl ⟨⟨us,(bX H O).seq Y⟩,q _ _ (ai.refl H) (lG (λH2 Z=>Z.seq (cy.seq Y)) rs)⟩⟩
   .exact⟨_,eu,a,rfl,.inr ⟨⟨us,(bX H O).seqT Y⟩,q _ _ (ai.refl H) (lG (λH2 Z=>Z.seqT (cy.seqT Y)) rs)⟩⟩
  |own ys =>
   simp only[bE,p0]at J;subst J;simp[bc]at U;subst U
   obtain⟨a,us,rfl,ha,rs,hO,_⟩:=so;have hl:bp [.bor i] W σ=[a]:=by simp[bp,hj,eu]
   have hG:bh B O H (bp [.bor i] W σ) a=some (.lst us):=by
    unfold bh
    simp_all
   exact⟨_,eu,a,rfl,.inl ⟨⟨us,SqL.of ha⟩,q _ _ (ai.refl H) (lG (λH2 Z=>Z.seq (SqL.of hG)) rs)⟩⟩
  |brw ys =>
   simp only[bE,p0]at J;subst J;simp[bc]at U;subst U
   obtain⟨a,us,rfl,Y,rs⟩:=so;exact⟨_,eu,a,rfl,.inl ⟨⟨us,st.keep.seq Y⟩,q _ _ (ai.refl H) (lG (λH2 Z=>Z.seq ((eC st.keep).seq Y)) rs)⟩⟩
  |ownD ys =>
   have J:=wo J;subst J;simp[bc]at U
  |mutD ys =>
   have J:=wt J;subst J;simp[bc]at U
  |brwD ys =>
   have J:=wq J;subst J;simp[bc]at U
def C1 (g:Gf X T k cal) (hf:f=("range":Str)) (hg:glB X.env.scope f=true) (ha:PA X args (tEs X.K cal ms)) (hn:args.length=1\/args.length=2) (hs:args.all ah=true) (hm:ms.length=args.length) :
  PI X tg (.Call (.Name f p) args [] pos) (tW X.K cal .rng ms):=by
 subst hf;have J:∀e,ah e=true->∀es env,starEach (e::es) env=(false,eval e env)::starEach es env:=λe he es env=>by
  cases e<;>first|rfl|(simp[ah]at he)
 match args,hn with
 | [a],_ =>
  simp only[all_cons,all_nil,Bool.and_true]at hs;refine(pK (dE hg) (g.blt "range" (by decide)) ha (by rw[J a hs];rfl)).imp λσ H R q=>?_
  obtain⟨B,E,O,W,vs,xs,st,U,z,q⟩:=q;refine⟨B,E,O,W,vs,st,U,λus H' s gs=>?_⟩
  match vs,z,gs with
  | [.int j],z,gs =>
   simp only[bg]at z;split at z
   .rename_i c;cases z;obtain⟨u,rfl,Y⟩:=p1 gs.1;have Z:=Y.int;subst Z;exact⟨j,rfl,c.1,c.2,q _ _ s n9⟩
   .cases z
  | [.int j,.int j'],z,gs =>
   have:=rh U
   simp_all
 | [a,b],_ =>
  simp only[all_cons,all_nil,Bool.and_true,gQ]at hs;refine(xv (dE hg) (g.blt "range" (by decide)) ha (by rw[J a hs.1,J b hs.2];rfl) (by rw[J b hs.2];rfl)).imp λσ H R q=>?_
  obtain⟨B,E,O,W,vs,xs,st,U,z,q⟩:=q;refine⟨B,E,O,W,vs,st,U,λus H' s gs=>?_⟩
  match vs,z,gs with
  | [.int i,.int j],z,gs =>
   simp only[bg]at z;split at z
   .rename_i c;cases z;obtain⟨u,u',rfl,Y,ao⟩:=p2 gs.1;have Z:=Y.int;have e4:=ao.int;subst Z e4;exact⟨i,j,rfl,c,q _ _ s n9⟩
   .cases z
  | [.int j],z,gs =>
   have:=rh U
   simp_all
end
noncomputable def tF(K:N0)(cal:Cal)(z:ME):TE:=λσ H Q=>∃B E O W xs,aG K B E O H W σ/\ev cal z W=some (.lst xs) /\
 ∀p us H',ai H H'->H p=none->H' p=some (.lst us)->Reps K (aw H' (p::O)) xs us->Q (.ref p) H'
def iA :ai (aw H (p::O)) (aw H O):=bU (ai.refl H) λb z=>.inl (Lg _ z)
def i9(h:p∈O):aw (upd H p o) O=aw H O:=by
 funext b
 unfold aw;split
 .rfl
 .rename_i J;exact bb λz=>J (by rw[z];exact h)
def wG{K:N0}{H H':Hp}{O:List Addr}{J:ME}{xs:List PV}{p:Addr}{us:List V}(U:∀a∈O,H a≠none)(Y:H p=none)(e:H' p=some (.lst us))(r:Reps K (aw H' (p::O)) xs us):Got K H' O J (.lst xs) (.ref p):=by
 refine .of ?_;refine⟨p,us,rfl,SqL.of ?_,Reps.mono iA _ r⟩;rw[be λz=>U p z Y];exact e
section
variable{X:Cx}{T:Tab}{k:Nat}{cal:Cal}
def dP(U:∀W v,ev cal z W=some v->∃xs,v=.lst xs)(h:PE X e (tF X.K cal z)):PE X e (tE X.K cal z):=by
 refine h.imp λσ H Q q=>?_
 obtain⟨B,E,O,W,v,st,J,q⟩:=q;obtain⟨xs,rfl⟩:=U W v J;exact⟨B,E,O,W,xs,st,J,λp us H' s Y Z r=>q _ _ s (wG st.here Y Z r)⟩
theorem Gf.blk(g:Gf X T k cal)(x)(fvs)(scope)(z)(J)(C)(fp):Gf (X.blk x fvs scope z J C fp) T k cal:={ g with }
def lH(h:fY osc N scope x fvs js=true):lx osc N scope x fvs js:=by
 unfold fY at h;simp only[gQ,Kv,Le]at h;obtain⟨⟨⟨⟨⟨⟨⟨⟨h1,h2⟩,z⟩,J⟩,U⟩,Y⟩,Z⟩,h8⟩,h9⟩:=h;exact⟨h1,h2,z,J,U,Y,Z,h8,h9⟩
def FG{K:N0}{σ F:St}(st:aG K B E O H W σ)(U:ai H H1)(s2:ai H1 H2)(hD:H1 D=none)(a1:H2 D≠none)
  (a2:∀z,F.set 0 z=(fQ js σ).set 0 z) (hl:0<F.length) (hx:Rep K (aw H2 (D::O)) x ux):aG K H1 [] (D::O) H2 (cn js W x) (F.set 0 (some ux)):=by
 have hv:ai (aw H O) (aw H2 (D::O)):=bU (U.trans s2) λb hb=>by
  rcases wh.mp hb with rfl|hb
  .exact .inr (U.free hD)
  .exact .inl hb
 rw[a2];have Y:∀(i:Nat) m,i6 m=true->(cn js W x)[i]?≠some (some m):=λi m hm e=>by
  unfold cn at e;cases i with
  |zero =>
   simp at e;subst e;cases hm
  |succ i =>
   simp only[getElem?_cons_succ,KJ,oe]at e;obtain⟨j,_,e⟩:=e;cases Z:(W[j]?).join with
   |none=>rw[Z]at e;cases e
   |some mm =>
    rw[Z]at e;cases mm<;>first|(simp[fW]at e;done)|(simp only[fW,p0]at e;subst e;cases hm)
 refine⟨s2,λa J=>?_,λa J=>by simp at J,λa J=>by simp at J,?_,λi m e=>?_,λi j m m' a _ e _ hm=>absurd e (Y i m hm)
  ⟩
 .rcases wh.mp J with rfl|J
  .exact a1
  .exact λe=>st.here a J ((U.trans s2).free e)
 .simp[cn,fQ]
 .cases i with
  |zero =>
   simp only[cn,getElem?_cons_zero,p0]at e;subst e;exact⟨ux,by simp[fQ],hx⟩
  |succ i =>
   simp only[cn,getElem?_cons_succ,KJ,oe]at e;obtain⟨j,ej,e⟩:=e;cases Z:(W[j]?).join with
   |none=>rw[Z]at e;cases e
   |some mm =>
    rw[Z]at e;obtain⟨u,eu,so⟩:=aZ st Z;have a5:((fQ js σ).set 0 (some ux))[i+1]?=some (some u):=by
     simp[fQ,ej,eu]
    refine⟨u,a5,?_⟩;cases mm with
    |val w =>
     simp only[fW,p0]at e;subst e;exact Rep.mono hv _ so
    |own ys =>
     simp only[fW,p0]at e;subst e;obtain⟨a,us,rfl,J,rs,hO,_⟩:=so;exact⟨a,us,rfl,SqL.of (U _ _ J),Reps.mono hv _ rs⟩
    |brw ys =>
     simp only[fW,p0]at e;subst e;obtain⟨a,us,rfl,sq,rs⟩:=so;exact⟨a,us,rfl,(st.keep.trans U).seq sq,Reps.mono hv _ rs⟩
    |brwD kvs =>
     simp only[fW,p0]at e;subst e;obtain⟨a,rfl,J⟩:=so;exact⟨a,rfl,ai.rd (st.keep.trans U) J⟩
    | _ =>
     simp only[fW,p0]at e;subst e;obtain⟨a,rfl,J,_⟩:=so;exact⟨a,rfl,.inl (U _ _ J)⟩
def vm{cond elt:ME}(g:Gf X T k cal)(U:fY X.env.scope X.N scope x (dO X.N js) js=true)
  (hw:PI X (.Name x px) it (tW X.K cal Z ms)) (Y:fC it=true)
  (hc:∀z J C fp,PF (X.blk x (dO X.N js) scope z J C fp) ifs (tT X.K cal cond)) (he:∀z J C fp,PE (X.blk x (dO X.N js) scope z J C fp) e (tE X.K cal elt)) (hb:aN elt=false) :
  PE X (.ListComp e [⟨.Name x px,it,ifs,0⟩] scope pos) (tF X.K cal (.comp Z ms js cond elt)):=by
 refine(wc (lH U) g.calm hw hc he (by intro v;cases it<;>first|rfl|(simp[fC]at Y))).imp λσ H Q q=>?_
 exact comp_go hb q
where
 comp_go {k':Sk}{ms:List ME}{js:List Nat}{cond elt:ME}{K:N0}{σ:St}{H:Hp}{Q:VK} (hb:aN elt=false) (q:tF K cal (.comp k' ms js cond elt) σ H Q):zC (tW K cal k' ms) js (tT K cal cond) (tE K cal elt) σ H Q:=by
  refine aB λZq kq=>?_
  obtain⟨B,E,O,W,ws,st,e1,q⟩:=q;rw[ev]at e1;simp only[ft]at e1;obtain⟨vs,e1,xs,e2,e3⟩:=e1;refine kq ?_;split at e3
  .rename_i hlen;simp only[oe,PV.lst.injEq,exists_eq_right]at e3;refine⟨B,E,O,W,vs,xs,st,e1,e2,λJ H1 s1 it D hD=>?_⟩;have hDO:D∉O:=λz=>bw s1 st.here D z hD
   have it1:=it.weak (n8 (st.keep.trans s1));refine⟨λi m F H'=>m=xs.length-i/\i<=xs.length/\ai H1 H'/\(∀z,F.set 0 z=(fQ js σ).set 0 z)/\0<F.length/\∃done bW ys,gC (λx=>(ev cal cond (cn js W x)).bind bf) (λx=>ev cal elt (cn js W x)) (xs.drop i)=some bW/\ws=done++bW/\done.length<=i/\H' D=some (.lst ys)/\Reps K (aw H' (D::O)) done ys,⟨xs.length,by simp,KI _,ay hD _,λ_=>rfl,by simp[fQ],[],ws,[],by simpa using e3,rfl,g4 _,ax,.nil⟩,?_⟩;rintro i m F H' ⟨rfl,hi,s2,hσ,hl,done,bW,ys,eg,ew,hdl,hDy,rs⟩;by_cases hlt:i<xs.length
   .right;have ex:=Kz hlt;refine⟨it1.go i _ H' s2 ex,λσ2 H2=>∃m',m'<xs.length-i/\(m'=xs.length-(i+1)/\i+1<=xs.length/\ai H1 H2/\(∀z,σ2.set 0 z=(fQ js σ).set 0 z)/\0<σ2.length/\∃done bW ys,gC (λx=>(ev cal cond (cn js W x)).bind bf) (λx=>ev cal elt (cn js W x)) (xs.drop (i+1))=some bW/\ws=done++bW/\done.length<=i+1/\H2 D=some (.lst ys)/\Reps K (aw H2 (D::O)) done ys),λσ2 H2 z=>z,λux H2 y=>?_⟩;obtain⟨s3,hr⟩:=it1.yld i _ H' ux H2 s2 ex y;have sv:ai (aw H1 O) (aw H2 (D::O)):=bU (s2.trans s3) λb hb=>by
     rcases wh.mp hb with rfl|hb
     .exact .inr hD
     .exact .inl hb
    have hx:=hr (D::O) (λa ha=>by
     rcases wh.mp ha with rfl|ha
     .rw[hDy];simp
     .exact λz=>bw s1 st.here a ha (s2.free z)) sv
    have hD2:=s3 _ _ hDy;have stb:=FG (js:=js) (W:=W) st s1 (s2.trans s3) hD (by rw[hD2];simp) hσ hl hx;rw[Nj hlt,gC]at eg;simp only[ft]at eg;obtain⟨b,eb,eg⟩:=eg;refine⟨H1,[],D::O,_,b,stb,by simpa[evB,ft]using eb,λH3 s4=>?_⟩;have hσ2:∀z,(F.set 0 (some ux)).set 0 z=(fQ js σ).set 0 z:=λz=>by rw[set_set];exact hσ z
    have hl2:0<(F.set 0 (some ux)).length:=by rw[MW];exact hl
    cases b with
    |false =>
     rw[if_neg (by simp)]at eg;dsimp only;rw[if_neg (by simp)];refine⟨_,by omega,rfl,hlt,(s2.trans s3).trans s4,hσ2,hl2,done,bW,ys,eg,ew,by omega,s4 _ _ hD2,Reps.mono ?_ _ rs⟩;exact(am s3).trans (am s4)
    |true =>
     rw[if_pos rfl]at eg;dsimp only;rw[if_pos rfl];refine aB λZq kq=>?_
     simp only[ft,oe]at eg;obtain⟨y',ey,rest',eg,rfl⟩:=eg;refine kq ?_;refine⟨H1,[],D::O,_,y',stb.mono s4,ey,λuy H4 s5 gy=>?_⟩;have hD4:=s5 _ _ (s4 _ _ hD2);have ry:=gy.2 hb;have rs4:=Reps.mono (((am s3).trans (am s4)).trans (am s5)) _ rs;have hyl:ys.length<=10000:=by rw[<- rs.length];omega
     refine⟨ys,hD4,K0 hyl (by decide),_,by omega,rfl,hlt,?_,hσ2,hl2,done++[y'],rest',ys++[uy],eg,by simp[ew],by simp;omega,ax,?_⟩
     .intro b u eb;rw[bb (cI eb hD)];exact s5 _ _ (s4 _ _ ((s2.trans s3) _ _ eb))
     .rw[i9 (Ly)];exact rs4.snoc ry
   .left;have ei:i=xs.length:=by omega
    subst ei;rw[drop_length,gC]at eg;cases eg;rw[LJ]at ew;subst ew;exact⟨it1.stop H' s2,q D ys H' (s1.trans s2) (s1.free hD) hDy rs⟩
  .cases e3
def a_(z:ah e=true)(es)(env):starEach (e::es) env=(false,eval e env)::starEach es env:=by
 cases e<;>first|rfl|(simp[ah]at z)
theorem b6 :∀{es},es.all ah=true->(backTo pos (starEach es env)).any (·.1)=false
 | [],_=>rfl
 |e::es,h=>by
  simp only[all_cons,gQ]at h;rw[a_ h.1];show(false||(backTo pos (starEach es env)).any (·.1))=false;rw[b6 h.2];rfl
theorem bK:∀{ms}{N}{sc}{es},chks T ms N sc es=true->es.all ah=true/\ms.length=es.length
 | [],_,_,[],_=>⟨rfl,rfl⟩
 | [],_,_,_::_,h=>by simp[chks]at h
 | _::_,_,_,[],h=>by simp[chks]at h
 |m::ms,N,sc,e::es,h=>by
  simp[chks]at h;obtain⟨h1,h2⟩:=bK h.2;exact⟨by simp[h.1.2,h1],by simp[h2]⟩
def bF(h:PE X e (tE X.K cal Y))(J:lB e=true):PT X e (tT X.K cal Y):=by
 refine(El h (by intro w;cases e<;>first|rfl|(simp[lB]at J;done)|(rename_i op _ _;cases op<;>first|rfl|(simp[lB]at J)))).imp λσ H Q q=>?_
 obtain⟨B,E,O,W,b,st,z,q⟩:=q;simp[evB,ft]at z;obtain⟨v,z,U⟩:=z;refine⟨B,E,O,W,v,st,z,λu H' s g=>?_⟩;cases v<;>simp[bf]at U
 subst U;exact⟨_,g.1.bl,q H' s⟩
def Aq(h:PE X e (tE X.K cal m))(hs:PA X es (tEs X.K cal ms))(hn:ah e=true):PA X (e::es) (tEs X.K cal (m::ms)):=by
 refine(aR h hs (a_ hn es _)).imp λσ H Q q=>?_
 obtain⟨B,E,O,W,vs,st,z,q⟩:=q;simp[evs,ft,oe]at z;obtain⟨v,z,ws,e2,rfl⟩:=z;refine⟨B,E,O,W,v,st,z,λu H1 Y Z=>⟨B,E,O,W,ws,st.mono Y,e2,λus H2 J g2=>q _ H2 (Y.trans J) ⟨.cons (Z.1.mono J) g2.1,λU=>?_⟩⟩⟩;simp only[all_cons,gQ,KD]at U;exact .cons ((Z.mono J).2 U.1) (g2.2 U.2)
def C2:PA X [] (tEs X.K cal []):=by
 refine bN.imp λσ H Q q=>?_
 obtain⟨B,E,O,W,vs,st,z,q⟩:=q;simp only[evs,p0]at z;subst z;exact q [] H (ai.refl H) ⟨.nil,λ_=>.nil⟩
def Ar:PA X [] (tAs X.K cal []):=by
 refine bN.imp λσ H Q q=>?_
 obtain⟨B,E,O,W,vs,st,z,q⟩:=q;simp only[evA,p0]at z;subst z;exact q [] H (ai.refl H) .nil
def As{K:N0}(s:ai H H')(h:l5 K O H m u):l5 K O H' m u:=by
 cases m<;>first|exact Rep.mono (am s) _ h|exact h|(obtain⟨a,us,e,q,r⟩:=h;exact⟨a,us,e,s.seq q,Reps.mono (am s) _ r⟩)|(obtain⟨a,e,q⟩:=h;exact⟨a,e,ai.rd s q⟩)
def x0(J:aN m=false)(h:PE X e (tE X.K cal m))(hs:PA X es (tAs X.K cal ms))(Z:ah e=true):PA X (e::es) (tAs X.K cal (m::ms)):=by
 refine(aR h hs (a_ Z es _)).imp λσ H Q q=>?_
 obtain⟨B,E,O,W,vs,st,e1,q⟩:=q;have z:(ev cal m W).bind (λv=>(evA cal ms W).map (MV.val v::·))=some vs:=by
  rw[<- e1];cases m<;>first|(cases J;done)|(simp;done)|rfl
 simp[ft]at z;obtain⟨v,e9,ws,e2,rfl⟩:=z;exact⟨B,E,O,W,v,st,e9,λu H1 U g1=>⟨B,E,O,W,ws,st.mono U,e2,λus H2 Y g2=>q _ H2 (U.trans Y) (.cons ((g1.mono Y).2 J) g2)⟩⟩
def At(h:ba X.N X.env.scope i x=true)(hs:PA X es (tAs X.K cal ms)):PA X (.Name x pos::es) (tAs X.K cal (.bor i::ms)):=by
 refine(aR (cx h) hs rfl).imp λσ H Q q=>?_
 obtain⟨B,E,O,W,vs,st,z,q⟩:=q;rw[evA]at z;simp[ft,oe]at z;obtain⟨m',z,ws,e2,rfl⟩:=z;cases Y:(W[i]?).join with
 |none=>rw[Y]at z;cases z
 |some m =>
  rw[Y]at z;obtain⟨u,eu,J⟩:=aZ st Y;have ao:l5 X.K O H m' u:=by
   cases m with
   |val w=>simp[g6,p0]at z;subst z;exact J
   |own ys=>simp[g6,p0]at z;subst z;obtain⟨a,us,rfl,U,Z,_⟩:=J;exact⟨a,us,rfl,SqL.of U,Z⟩
   |brw ys=>simp[g6,p0]at z;subst z;obtain⟨a,us,rfl,sq,Z⟩:=J;exact⟨a,us,rfl,st.keep.seq sq,Z⟩
   |brwD kvs=>simp[g6,p0]at z;subst z;obtain⟨a,rfl,U⟩:=J;exact⟨a,rfl,ai.rd st.keep U⟩
   | _=>simp[g6,p0]at z;subst z;obtain⟨a,rfl,U,_⟩:=J;exact⟨a,rfl,.inl U⟩
  exact⟨u,eu,⟨B,E,O,W,ws,st,e2,λus H2 s2 g2=>q _ H2 s2 (.cons (As s2 ao) g2)⟩⟩
def Ij(Y:PE X l (tE X.K cal a))(Z:PE X r (tE X.K cal b)):PE X (.BinOp l (vd op) r pos) (tE X.K cal (.bin op a b)):=by
 refine(vX (vi op) Y Z).imp λσ H Q q=>?_
 obtain⟨B,E,O,W,v,st,z,q⟩:=q;rw[ev]at z;simp[ft]at z;obtain⟨x,z,y,e2,e3⟩:=z;exact⟨B,E,O,W,x,st,z,λux H1 J g1=>⟨B,E,O,W,y,st.mono J,e2,λuy H2 U g2=>⟨O,x,y,v,bw (J.trans U) st.here,g1.1.mono U,g2.1,e3,λu H3 s3 r=>q u H3 ((J.trans U).trans s3) (.of r)⟩⟩⟩
def Ik(U:PE X e (tE X.K cal a)):PE X (.UnaryOp .Not e pos) (tE X.K cal (.not a)):=by
 refine(Es U).imp λσ H Q q=>?_
 obtain⟨B,E,O,W,v,st,z,q⟩:=q;rw[ev]at z;simp only[ft,oe]at z;obtain⟨b,⟨x,z,J⟩,rfl⟩:=z;cases x<;>simp[bf,p0,reduceCtorEq]at J
 subst J;exact⟨B,E,O,W,_,st,z,λux H1 Y Z=>⟨_,Z.1.bl,q _ H1 Y (.of (eR _ _))⟩⟩
def Il(U:PT X e (tT X.K cal a)):PT X (.UnaryOp .Not e pos) (tT X.K cal (.not a)):=by
 refine(Ep U).imp λσ H Q q=>?_
 obtain⟨B,E,O,W,b,st,z,q⟩:=q;simp only[evB,ev,ft,oe]at z;obtain⟨v,⟨c,⟨x,z,Y⟩,rfl⟩,J⟩:=z;simp only[bf,p0]at J;subst J;exact⟨B,E,O,W,c,st,by simp[evB,z,Y],λH' s=>q H' s⟩
def D0(ha:PE X x (tE X.K cal a))(hb:PE X (.BoolOp .And (y::r) pos) (tE X.K cal b)):PE X (.BoolOp .And (x::y::r) pos) (tE X.K cal (.and a b)):=by
 refine(Er ha hb).imp λσ H Q q=>?_
 obtain⟨B,E,O,W,v,st,U,q⟩:=q;rw[ev]at U;simp only[ft]at U;obtain⟨c,⟨z,U,Z⟩,J⟩:=U;cases z<;>simp[bf,p0,reduceCtorEq]at Z
 subst Z;refine⟨B,E,O,W,_,st,U,λux H1 Y g1=>⟨_,g1.1.bl,?_⟩⟩;split at J
 .rename_i h;rw[if_pos h];simp only[ft,oe]at J;obtain⟨z',J,c',e4,rfl⟩:=J;cases z'<;>simp[bf,p0,reduceCtorEq]at e4
  subst e4;exact⟨B,E,O,W,_,st.mono Y,J,λu H2 s2 g2=>q u H2 (Y.trans s2) (by rw[g2.1.bl];exact .of (eR _ _))⟩
 .rename_i h;rw[if_neg h];cases J;exact q _ H1 Y (.of (eR _ _))
def Im(ha:PE X x (tE X.K cal a))(hb:PE X (.BoolOp .Or (y::r) pos) (tE X.K cal b)):PE X (.BoolOp .Or (x::y::r) pos) (tE X.K cal (.or a b)):=by
 refine(He ha hb).imp λσ H Q q=>?_
 obtain⟨B,E,O,W,v,st,U,q⟩:=q;rw[ev]at U;simp only[ft]at U;obtain⟨c,⟨z,U,Z⟩,J⟩:=U;cases z<;>simp[bf,p0,reduceCtorEq]at Z
 subst Z;refine⟨B,E,O,W,_,st,U,λux H1 Y g1=>⟨_,g1.1.bl,?_⟩⟩;split at J
 .rename_i h;rw[if_pos h];cases J;exact q _ H1 Y (.of (eR _ _))
 .rename_i h;rw[if_neg h];simp only[ft,oe]at J;obtain⟨z',J,c',e4,rfl⟩:=J;cases z'<;>simp[bf,p0,reduceCtorEq]at e4
  subst e4;exact⟨B,E,O,W,_,st.mono Y,J,λu H2 s2 g2=>q u H2 (Y.trans s2) (by rw[g2.1.bl];exact .of (eR _ _))⟩
def D1(h:PT X (.BoolOp op vs pos) t):PW X (.BoolOp op vs pos) t:=λw pins s σ H Q I q=>by
 have:=h pins s σ H Q I q;exact this
def D3(ha:PT X x (tT X.K cal a))(hb:PW X (.BoolOp .And (y::r) pos) (tT X.K cal b)):PT X (.BoolOp .And (x::y::r) pos) (tT X.K cal (.and a b)):=by
 refine(Eo ha hb).pt.imp λσ H Q q=>?_
 obtain⟨B,E,O,W,v,st,U,q⟩:=q;simp only[evB,ev,ft]at U;obtain⟨w,⟨c,⟨z,U,e2⟩,J⟩,Y⟩:=U;refine⟨B,E,O,W,c,st,by simp[evB,U,e2],λH1 Z=>?_⟩;split at J
 .rename_i h;rw[if_pos h];simp only[ft,oe]at J;obtain⟨z',J,c',e5,rfl⟩:=J;simp only[bf,p0]at Y;subst Y;exact⟨B,E,O,W,_,st.mono Z,by simp[evB,J,e5],λH2 s2=>q H2 (Z.trans s2)⟩
 .rename_i h;rw[if_neg h];cases J;cases Y;exact q H1 Z
def Io(ha:PT X x (tT X.K cal a))(hb:PW X (.BoolOp .Or (y::r) pos) (tT X.K cal b)):PT X (.BoolOp .Or (x::y::r) pos) (tT X.K cal (.or a b)):=by
 refine(Hb ha hb).pt.imp λσ H Q q=>?_
 obtain⟨B,E,O,W,v,st,U,q⟩:=q;simp only[evB,ev,ft]at U;obtain⟨w,⟨c,⟨z,U,e2⟩,J⟩,Y⟩:=U;refine⟨B,E,O,W,c,st,by simp[evB,U,e2],λH1 Z=>?_⟩;split at J
 .rename_i h;rw[if_pos h];cases J;cases Y;exact q H1 Z
 .rename_i h;rw[if_neg h];simp only[ft,oe]at J;obtain⟨z',J,c',e5,rfl⟩:=J;simp[bf,p0]at Y;subst Y;exact⟨B,E,O,W,_,st.mono Z,by simp[evB,J,e5],λH2 s2=>q H2 (Z.trans s2)⟩
def Ip(hc:PT X t (tT X.K cal c))(ha:PE X x (tE X.K cal a))(hb:PE X y (tE X.K cal b))(na:aN a=false)(nb:aN b=false):PE X (.IfExp t x y pos) (tE X.K cal (.ite c a b)):=by
 refine(yP hc ha hb).imp λσ H Q q=>?_
 obtain⟨B,E,O,W,v,st,z,q⟩:=q;rw[ev]at z;simp only[ft]at z;obtain⟨k',z,U⟩:=z;refine⟨B,E,O,W,k',st,by simpa[evB,ft]using z,λH1 J=>?_⟩;split at U
 .rename_i h;rw[if_pos h];exact⟨B,E,O,W,v,st.mono J,U,λu H2 Y Z=>q u H2 (J.trans Y) (.of (Z.2 na))⟩
 .rename_i h;rw[if_neg h];exact⟨B,E,O,W,v,st.mono J,U,λu H2 Y Z=>q u H2 (J.trans Y) (.of (Z.2 nb))⟩
def Iq(hc:PT X t (tT X.K cal c))(ha:PT X x (tT X.K cal a))(hb:PT X y (tT X.K cal b)):PT X (.IfExp t x y pos) (tT X.K cal (.ite c a b)):=by
 intro pins s σ H Q I q;refine aB λZq kq=>?_
 obtain⟨B,E,O,W,v,st,z,q⟩:=q;simp only[evB,ev,ft]at z;obtain⟨w,⟨Z,z,U⟩,e4⟩:=z;refine kq ?_;refine isTrue_IfExp (thn (hc pins s σ H (λb H1=>b=Z/\ai H H1) I ⟨B,E,O,W,Z,st,by simpa[evB,ft]using z,λH1 J=>⟨rfl,J⟩⟩) λb J ⟨H1,I1,eb,hs⟩=>?_);subst eb;split at U
 .rename_i h;subst h;exact ha pins J σ H1 Q I1 ⟨B,E,O,W,v,st.mono hs,by simp[evB,U,e4],λH2 Y=>q H2 (hs.trans Y)⟩
 .rename_i h;have:b=false:=by cases b<;>simp at h ⊢
  subst this;exact hb pins J σ H1 Q I1 ⟨B,E,O,W,v,st.mono hs,by simp[evB,U,e4],λH2 Y=>q H2 (hs.trans Y)⟩
def Ir(g:Gf X T k cal)(ha:PE X l (tE X.K cal a))(hb:PE X r (tE X.K cal b))(hm:behindInMarks (z9 op) r=false):PE X (.Compare l [z9 op] [r] pos) (tE X.K cal (.cmp op a b))/\PT X (.Compare l [z9 op] [r] pos) (tT X.K cal (.cmp op a b)):=by
 refine⟨(B6 (Aj g.units op) ha hb hm).imp λσ H Q q=>?_,(B7 (Aj g.units op) ha hb hm).imp λσ H Q q=>?_⟩
 .obtain⟨B,E,O,W,v,st,z,q⟩:=q;rw[ev]at z;simp only[ft,oe]at z;obtain⟨x,z,y,Y,c,Z,rfl⟩:=z;exact⟨B,E,O,W,x,st,z,λux H1 J g1=>⟨B,E,O,W,y,st.mono J,Y,λuy H2 U g2=>⟨O,x,y,c,g1.1.mono U,g2.1,Z,q _ H2 (J.trans U) (.of (eR _ _))⟩⟩⟩
 .obtain⟨B,E,O,W,v,st,z,q⟩:=q;simp only[evB,ev,ft,oe]at z;obtain⟨w,⟨x,z,y,Y,c,Z,rfl⟩,e4⟩:=z;simp[bf,p0]at e4;subst e4;exact⟨B,E,O,W,x,st,z,λux H1 J g1=>⟨B,E,O,W,y,st.mono J,Y,λuy H2 U g2=>⟨O,x,y,c,g1.1.mono U,g2.1,Z,_,rfl,q H2 (J.trans U)⟩⟩⟩
def Iu(h:PA X es (tEs X.K cal ms))(U:(ms.all λm=>!aN m)=true):PE X (.Tuple es j pos) (tE X.K cal (.tup ms)):=by
 refine(uK h).imp λσ H Q q=>?_
 obtain⟨B,E,O,W,v,st,z,q⟩:=q;rw[ev]at z;simp only[ft]at z;obtain⟨vs,z,J⟩:=z;split at J
 .rename_i hl;cases J;refine⟨B,E,O,W,vs,st,z,λus H1 Y Z=>⟨?_,λp hp=>?_⟩⟩
  .rw[<- (Z.2 U).length];exact cM hl
  .exact q _ _ (Y.trans (ay hp _)) (.of (g_ (bw Y st.here) hp (Z.2 U)))
 .cases J
def D4(h:PA X es (tEs X.K cal ms))(z:(ms.all λm=>!aN m)=true):PE X (.List es pos) (tF X.K cal (.lst ms)):=by
 refine(uL h).imp λσ H Q q=>?_
 obtain⟨B,E,O,W,xs,st,J,q⟩:=q;rw[ev]at J;simp only[ft]at J;obtain⟨vs,J,U⟩:=J;split at U
 .rename_i hl;cases U;refine⟨B,E,O,W,xs,st,J,λus H1 Z g1=>⟨?_,λp Y=>?_⟩⟩
  .rw[<- (g1.2 z).length];exact cM hl
  .refine q p us _ (Z.trans (ay Y _)) (Z.free Y) ax ?_;rw[i9 (Ly)];refine Reps.mono (bU (ai.refl H1) λb z=>?_) _ (g1.2 z);rcases wh.mp z with rfl|z
   .exact .inr Y
   .exact .inl z
 .cases U
def Iv(Y:PE X v (tE X.K cal a))(hi:PE X s (tE X.K cal i))(hs:b_ s=true):PE X (.Subscript v s pos) (tE X.K cal (.idx a i)):=by
 refine(Hz Fx Y hi (vj hs)).imp λσ H Q q=>?_
 obtain⟨B,E,O,W,v,st,z,q⟩:=q;rw[ev]at z;simp[ft]at z;obtain⟨x,z,y,Z,e3⟩:=z;exact⟨B,E,O,W,x,st,z,λux H1 J g1=>⟨B,E,O,W,y,st.mono J,Z,λuy H2 U g2=>⟨O,x,y,v,bw (J.trans U) st.here,g1.1.mono U,g2.1,e3,λu H3 s3 r=>q u H3 ((J.trans U).trans s3) (.of r)⟩⟩⟩
noncomputable def tB1(K:N0)(cal:Cal)(z:ME):TO:=λσ H Q=>∃B E O W o,aG K B E O H W σ/\((ev cal z W).bind λv=>bnd z v)=some o/\∀H',ai H H'->Q o H'
def FH(h:j3 m=true):PO X none (tB1 X.K cal m):=by
 have e:m=.cst .non:=by
  unfold j3 at h;split at h
  .rfl
  .cases h
 subst e;intro pins s σ H Q I q;refine aB λU J=>?_
 obtain⟨B,E,O,W,o,st,z,q⟩:=q;simp[ev,bind_some,bnd]at z;subst z;refine J ?_;exact B_ pins s σ H Q I (q H (ai.refl H))
def FI(h:PE X l (tE X.K cal m))(U:j3 m=false):PO X (some l) (tB1 X.K cal m):=by
 intro pins s σ H Q I q;refine aB λZ Y=>?_
 obtain⟨B,E,O,W,o,st,z,q⟩:=q;simp[ft]at z;obtain⟨v,z,J⟩:=z;obtain⟨i,rfl,rfl⟩:∃i,v=.int i/\o=some i:=by
  unfold bnd at J;split at J
  .simp[j3]at U
  .simp_all
  .cases J
 refine Y ?_;exact Ca h pins s σ H Q I ⟨B,E,O,W,_,st,z,λu H' s' g=>⟨i,g.1.int,q H' s'⟩⟩
def C3{a lo hi:ME}{p2 pos:Pos}(ha:PE X v (tE X.K cal a))(hl:PO X l (tB1 X.K cal lo))(hu:PO X u (tB1 X.K cal hi)):PE X (.Subscript v (.Slice l u none p2) pos) (tE X.K cal (.slice a lo hi)):=by
 refine(zc Fy ha hl hu).imp λσ H Q q=>?_
 refine aB λZq kq=>?_
 obtain⟨B,E,O,W,w,st,z,q⟩:=q;rw[ev,ft]at z;obtain⟨x,z,J⟩:=z;rw[ft]at J;obtain⟨ao,J,U⟩:=J;rw[ft]at U;obtain⟨aO,U,e4⟩:=U;refine kq ?_;exact⟨B,E,O,W,x,st,z,λux H1 Y g1=>⟨B,E,O,W,ao,st.mono Y,J,λH2 Z=>⟨B,E,O,W,aO,(st.mono Y).mono Z,U,λH3 s3 =>
  ⟨O,x,w,bw ((Y.trans Z).trans s3) st.here,g1.1.mono (Z.trans s3),e4,λu H4 s4 r=>q u H4 (((Y.trans Z).trans s3).trans s4) (.of r)⟩⟩⟩⟩
def og {id:String} (hc:bC X (.builtin id) (RBM X.K (az f))) (U:glB X.env.scope x=true) (Y:X.mg x=none) (hv:bootBuiltins x=some (.builtin id)) (Z:x ≠ "__name__") (hd:(x==("__debug__":Str))=false)
  (ha:PA X (e::es) (tEs X.K cal ms)) (hs:(e::es).all ah=true):PE X (.Call (.Name x p) (e::es) [] pos) (tE X.K cal (.blt f ms)):=by
 simp only[all_cons,gQ]at hs;refine(fm hc (dE U) Y hv ha Z hd (a_ hs.1 es _) (b6 hs.2)).imp λσ H Q q=>?_
 obtain⟨B,E,O,W,v,st,z,q⟩:=q;rw[ev,ft]at z;obtain⟨vs,z,e2⟩:=z;exact⟨B,E,O,W,vs,st,z,λus H1 J g1=>⟨O,vs,v,bw J st.here,g1.1,e2,λu H2 s2 r=>q u H2 (J.trans s2) (.of r)⟩⟩
def Au {id:String} (hc:bC X (.type id) (RBM X.K (az f))) (U:glB X.env.scope x=true) (Y:X.mg x=none) (hv:bootBuiltins x=some (.type id)) (Z:x ≠ "__name__") (hd:(x==("__debug__":Str))=false)
  (ha:PA X (e::es) (tEs X.K cal ms)) (hs:(e::es).all ah=true):PE X (.Call (.Name x p) (e::es) [] pos) (tE X.K cal (.blt f ms)):=by
 simp only[all_cons,gQ]at hs;refine(dj hc (dE U) Y hv ha Z hd (a_ hs.1 es _) (b6 hs.2)).imp λσ H Q q=>?_
 obtain⟨B,E,O,W,v,st,z,q⟩:=q;rw[ev,ft]at z;obtain⟨vs,z,e2⟩:=z;exact⟨B,E,O,W,vs,st,z,λus H1 J g1=>⟨O,vs,v,bw J st.here,g1.1,e2,λu H2 s2 r=>q u H2 (J.trans s2) (.of r)⟩⟩
def qe{K:N0}(q:tF K cal (.blt f ms) σ H Q):tCB (RBF K (az f)) (tEs K cal ms) σ H Q:=by
 obtain⟨B,E,O,W,xs,st,z,q⟩:=q;rw[ev,ft]at z;obtain⟨vs,z,Z⟩:=z;refine⟨B,E,O,W,vs,st,z,λus H1 J g1=>⟨O,vs,xs,bw J st.here,g1.1,Z,λl ws U r=>q l ws _ (J.trans (ay U _)) (J.free U) ax ?_⟩⟩;rw[i9 (Ly)];refine Reps.mono (bU (ai.refl H1) λb Y=>?_) _ r;rcases wh.mp Y with rfl|Y
 .exact .inr U
 .exact .inl Y
def Av {id:String} (hc:bC X (.builtin id) (RBF X.K (az f))) (z:glB X.env.scope x=true) (J:X.mg x=none) (hv:bootBuiltins x=some (.builtin id)) (U:x ≠ "__name__") (hd:(x==("__debug__":Str))=false)
  (Y:PA X (e::es) (tEs X.K cal ms)) (hs:(e::es).all ah=true):PE X (.Call (.Name x p) (e::es) [] pos) (tF X.K cal (.blt f ms)):=by
 simp only[all_cons,gQ]at hs;exact(fm hc (dE z) J hv Y U hd (a_ hs.1 es _) (b6 hs.2)).imp λσ H Q q=>qe q
def C4 {id:String} (hc:bC X (.type id) (RBF X.K (az f))) (z:glB X.env.scope x=true) (J:X.mg x=none) (hv:bootBuiltins x=some (.type id)) (U:x ≠ "__name__") (hd:(x==("__debug__":Str))=false)
  (Y:PA X (e::es) (tEs X.K cal ms)) (hs:(e::es).all ah=true):PE X (.Call (.Name x p) (e::es) [] pos) (tF X.K cal (.blt f ms)):=by
 simp only[all_cons,gQ]at hs;exact(dj hc (dE z) J hv Y U hd (a_ hs.1 es _) (b6 hs.2)).imp λσ H Q q=>qe q
def FJ(g:Gf X T k cal)(hf:T.fs[f]?=some x)(J:glB X.env.scope x=true)(U:ar x=true)(ha:PA X es (tAs X.K cal ms))(hs:es.all ah=true)(hl:ms.length=es.length):PE X (.Call (.Name x p) es [] pos) (tE X.K cal (.call f ms)):=by
 obtain⟨fa,fd,ps,h1,h2,Y,F,_⟩:=g.fns f x hf;have key:∀σ H Q,tE X.K cal (.call f ms) σ H Q->yY (spM X.K cal f) [] E0 (tAs X.K cal ms) σ H Q:=λσ H Q q=>by
  obtain⟨B,E,O,W,v,st,z,q⟩:=q;rw[ev,ft]at z;obtain⟨vs,z,e2⟩:=z;refine⟨B,E,O,W,vs,st,z,λus H1 Z g1=>⟨O,vs,v,bw Z st.here,?_,e2,λu H2 s2 r=>q u H2 (Z.trans s2) (.of r)⟩⟩
  simp_all
 cases es with
 |nil =>
  refine(y0 F g.room (dE J) h1 h2 Y .nil su (iz U).1).imp λσ H Q q=>?_
  obtain⟨B,E,O,W,vs,st,z,q⟩:=key σ H Q q;cases ms with
  |nil =>
   simp only[evA,p0]at z;subst z;exact q [] H (ai.refl H) .nil
  |cons m ms=>simp at hl
 |cons e es =>
  simp only[all_cons,gQ]at hs;exact(mO F g.room (dE J) h1 h2 Y .nil su ha (iz U).1 (a_ hs.1 es _) (b6 hs.2)).imp key
end
section
variable{K:N0}{H:Hp}{O:List Addr}
def Aw(kvs)(i):jz (g8 kvs) (Sum.inl i:Key)=(bS kvs i).map Sc.v:=by
 unfold jz g8 bS;rw[find?_map,Nu,Nu];have e:((λz:Key×V=>decide (z.1=(Sum.inl i:Key)))∘λp:Int×Sc=>((Sum.inl p.1:Key),p.2.v))=λp:Int×Sc=>decide (p.1=i):=by
  funext p
  simp
 rw[e]
 rfl
def Ax(kvs)(k):jz (jY kvs) (k.map Sum.inl)=(bS kvs k).map Sc.v:=by
 unfold jz jY bS;rw[find?_map,Nu,Nu];have e:((λz:List Key×V=>decide (z.1=k.map Sum.inl))∘λp:List Int×Sc=>((p.1.map Sum.inl:List Key),p.2.v))=λp:List Int×Sc=>decide (p.1=k):=by
  funext p
  exact NS.mpr ⟨mW,λe=>KN _ e⟩
 rw[e]
 rfl
def C5(ns:List Int):(ns.map Sum.inl:List Key).map kV=ns.map V.int:=by
 rw[Kx]
 rfl
def wH(e:bj xs=some ns)(r:bJ K H O (.tup xs) u):∃b,u=.ref b/\H b=some (.tup ((ns.map Sum.inl:List Key).map kV)):=by
 have z:=eA e;subst z;obtain⟨b,us,rfl,h,t⟩:=r.tupH;have J:=t.ints;subst J;exact⟨b,rfl,by rw[C5];exact h⟩
def rl(e:xU (.dI d) y=some o)(U:RdD H a d)(r:bJ K H O y u):nw H a u (o.map Sc.v):=by
 cases d with
 |k kvs =>
  cases y<;>try (cases e;done)
  rename_i i;have z:=r.int;subst z;have J:=Kw e;rw[<- J,<- Aw];exact .inl ⟨_,Sum.inl i,U.rd,rfl,rfl⟩
 |p ns=>cases y<;>cases e
 |t kvs =>
  cases y<;>try (cases e;done)
  rename_i xs;have e:(bj xs).map _=some o:=e;rw[oe]at e;obtain⟨ns,z,J⟩:=e;obtain⟨b,rfl,Y⟩:=wH z r;rw[<- J,<- Ax];exact .inr ⟨_,_,b,U.rd,rfl,Y,rfl⟩
def Ay(kvs)(k)(s):gR (g8 kvs) (Sum.inl k:Key) s.v=g8 (cW kvs k s):=by
 have z:((g8 kvs).any λJ=>decide (J.1=(Sum.inl k:Key)))=kvs.any λp=>decide (p.1=k):=by
  unfold g8;rw[List.any_map]
  congr 1
  funext p
  simp
 unfold gR cW;rw[z];split
 .unfold g8;rw[Kx,Kx];refine LG λp _=>?_
  by_cases h:p.1=k<;>simp[h]
 .unfold g8;rw[KS]
  rfl
def Az(kvs)(k)(s):gR (jY kvs) (k.map Sum.inl:List Key) s.v=jY (cW kvs k s):=by
 have J:∀q,_ ↔ q=k:=λq=>⟨mW,λe=>by rw[e]⟩
 have U:((jY kvs).any λY=>decide (Y.1=(k.map Sum.inl:List Key)))=kvs.any λp=>decide (p.1=k):=by
  unfold jY;rw[List.any_map]
  congr 1
  funext p
  simp_all
 unfold gR cW;rw[U];split
 .unfold jY;rw[Kx,Kx];refine LG λp _=>?_
  by_cases h:p.1=k
  .have h2:=(J p.1).mpr h;simp[h]
  .have h2:¬ _=k.map Sum.inl:=λz=>h ((J p.1).mp z)
   simp[h,h2]
 .unfold jY;rw[KS]
  rfl
def wI{y:PV}{s:Sc}{a:Addr}{u:V}(e:qX d y s=some d')(U:H a=some (i5 d))(r:bJ K H O y u):ny H a u s.v (upd H a (i5 d')):=by
 cases d with
 |p ns=>cases y<;>cases e
 |k kvs =>
  cases y<;>try (cases e;done)
  rename_i i;have J:=r.int;subst J;have z:(if kvs.length<10000 then some (DD.k (cW kvs i s))else none)=some d':=e;split at z
  .rename_i Y;cases z;show ny H a (.int i) s.v (upd H a (.dK (g8 (cW kvs i s))));rw[<- Ay];exact ny.k (k:=Sum.inl i) U (by unfold g8;rw[mx,K4];omega)
  .cases z
 |t kvs =>
  cases y<;>try (cases e;done)
  rename_i xs;have e:((bj xs).bind λk=>if kvs.length<10000 then some (DD.t (cW kvs k s))else none)=some d':=e;rw[ft]at e;obtain⟨ns,J,z⟩:=e;obtain⟨b,rfl,Z⟩:=wH J r;split at z
  .rename_i Y;cases z;show ny H a (.ref b) s.v (upd H a (.dT (jY (cW kvs ns s))));rw[<- Az];exact ny.t U Z (by unfold jY;rw[mx,K4];omega)
  .cases z
end
section
variable{X:Cx}{pins:List (Addr×Obj)}{σ:St}{H:Hp}{s:Shared}
def wJ(I:Inv X pins σ H s)(h:RdD H a d):(a==sysModules)=false/\∃es ep,Dv.Ents s.heap a es ep/\aI ((dSc d).map Sc.v) (es.toList.map (·.val)):=by
 cases d with
 |k kvs =>
  obtain⟨_,hs,vs,r,o,es,ep,ho,hx,hd,_,z,_⟩:=jF I.hok h.rd;refine⟨hs,es,ep,⟨o,ho,hx,hd⟩,?_⟩;have gen:∀kvs vs l,KV (g8 kvs) vs->Pairs (bI X.prog X.w) l vs->aI ((kvs.map (·.2)).map Sc.v) (l.map (·.val)):=by
   intro kvs
   induction kvs with
   |nil =>
    intro vs l r p;cases r;cases p;exact .nil
   |cons q kvs ih =>
    intro vs l r p;cases r with
    |cons J U =>
     cases p with
     |cons p1 p2 p3=>exact .cons (by have h:=J.2;rw[<- p2]at h;exact h) (ih _ _ U p3)
  exact gen kvs vs es.toList r z
 |p ns=>exact absurd h.2 mu
 |t kvs =>
  obtain⟨_,hs,xs,r,o,es,ep,ho,hx,hd,z,_⟩:=lY I.hok h.rd;refine⟨hs,es,ep,⟨o,ho,hx,hd⟩,?_⟩;rw[z,Kx];have gen:∀kvs xs,KT H (jY kvs) xs->aI ((kvs.map (·.2)).map Sc.v) (xs.map (·.2.2)):=by
   intro kvs
   induction kvs with
   |nil =>
    intro xs r;cases r;exact .nil
   |cons q kvs ih =>
    intro xs r;cases r with
    |cons J U=>exact .cons J.2.2 (ih _ U)
  exact gen kvs xs r
noncomputable def Iw(p a:Addr):HO:=.ext λh=>h.IsValuesView p a
def vn{es:Array DictEntry}(h:ItemsOf (λi v=>∃e,es[i]?=some e/\v=e.val) acc es.size):acc.toList=es.toList.map (·.val):=by
 refine NN λi=>?_
 rw[KJ,K9,K9];cases e:acc[i]? with
 |none =>
  have:acc.size<=i:=by simpa using e
  rw[Mk (by rw[<- h.1];exact this)]
  rfl
 |some v =>
  obtain⟨q,z,rfl⟩:=h.2 i v e;rw[z]
  rfl
end
section
variable{X:Cx}{T:Tab}{k:Nat}{cal:Cal}
def C6 (J:attributeBase o "values" X.env (eval o X.env)=eval o X.env) (U:(ap.endLine==cp.line)=true) (ho:PE X o td) :
  PE X (.Call (.Attribute o "values" ap) [] [] cp) (λσ H Q=>td σ H λx H1=>∃a d,x=.ref a/\RdD H1 a d/\∀p,H1 p=none->Q (.ref p) (upd H1 p (Iw p a))):=by
 intro pins s σ H Q I h;refine wpAny_Call_method J rfl U PySem.F.plainAttrs_dict PySem.F.slot_dict_values PySem.F.type_dict_values (thn (ho pins s σ H _ I h) λu Y ⟨x,H1,z,Z,a,d,ex,hd,q1⟩=>?_);subst ex;obtain rfl:u=Value.ref a:=Z;obtain⟨t1,t2,_⟩:=uP z (re hd);refine⟨t1,t2,?_⟩;refine Mj rfl (PyProof.Rows.evalArgs_empty ?_);obtain⟨hs,es,ep,x,_⟩:=wJ z hd;refine Dv.values_of hs x ⟨.ref Y.heap.objs.size,_,z.laid (λb o e=>gk _ e) (g4 _) ?_,rfl,q1 _ (z.hok.fresh (g4 _))⟩;exact⟨⟨_,r4 _ rfl,rfl,rfl⟩,⟨_,r4 _ rfl⟩,λh1 h2 ⟨o,ho,r⟩ k=>⟨o,k o ho,r⟩⟩
def vo (hc:X.calm=true):bC X (.type "list") (λus H Q=>∃p a d,us=[.ref p]/\H p=some (Iw p a)/\RdD H a d/\(dSc d).length<=10000/\∀l,H l=none->Q (.ref l) (upd H l (.lst ((dSc d).map Sc.v)))):=by
 intro pins s σ H xs us Q I r h;refine aB λZq U=>?_
 obtain⟨p,a,d,rfl,Y,Z,hl,q⟩:=h;obtain⟨u,rfl,ru⟩:=d9 r;cases ru;obtain⟨_,es,ep,x,vs⟩:=wJ I Z;have hv:=(show bM X.prog X.w H s.heap p _ from I.hok p _ Y).1;have z:es.size=(dSc d).length:=by have:=vs.length;simp at this;omega
 refine U ?_;refine PySem.W.kdl_call (Dv.src) (I.ok.hd hc) ⟨hv,x⟩ (by rw[z,K4];omega) λh' tk J c kp e it=>?_
 refine⟨.ref s.heap.objs.size,_,I.laid kp (g4 _) (o:=.lst _) ⟨by rw[mx,K4];omega,J.toList,c,?_,by rw[Array.toArray_toList];exact e⟩,rfl,q _ (I.hok.fresh (g4 _))⟩;rw[vn it];exact vs
def C7{P:Program}{w:World}{n:Int}{v:Value}(h:(bI P w).is (Sum.inl n) v=true):∃t,v=.int n t:=by
 rw[uC]at h;cases v<;>simp[lW,Value.isInt]at h
 subst h;exact⟨_,rfl⟩
def rm (hc:X.calm=true):bC X (.builtin "sorted") (RBF X.K (az .sortedKeys)):=by
 intro pins s σ H xs us Q I r h;obtain⟨O,vs,ys,hO,rs,e,q⟩:=h;obtain⟨x,rfl⟩:=db e (.inl rfl);obtain⟨u,rfl,rx⟩:=p1 rs;have hd:∃kvs,x=.dI (.k kvs)/\kvs.length<64/\ys=(sortI (kvs.map (·.1))).map .int:=by
  simp only[az,cw]at e;split at e
  .split at e
   .rename_i kvs hl;cases e;exact⟨kvs,rfl,hl,rfl⟩
   .cases e
  .cases e
 obtain⟨kvs,rfl,Z,rfl⟩:=hd;obtain⟨a,rfl,ha⟩:=rx.dI;obtain⟨u,rfl,ru⟩:=d9 r;cases ru;obtain⟨hz,hs,Y,U,dd⟩:=jF I.hok (show Rd H a (.dK (g8 kvs))from ha.rd);obtain⟨ep,ao⟩:=dd.dictAt;have z:Y.length=kvs.length:=by rw[<- U.length];unfold g8;rw[mx]
 have J:Y.map (·.1)=kvs.map λp=>(Sum.inl p.1:Key):=by
  rw[<- U.keys];unfold g8;rw[Kx]
  rfl
 refine Srt.i3 (ks:=kvs.map (·.1)) (by rw[mx];exact Z) (λQ' aO=>?_) λh1 h' tk d' out c k1 k2 e hi=>?_
 .refine PySem.W.kdu_collect (PySem.W.kdl_dict (knd:=bI X.prog X.w) (kvs:=Y) (ep:=ep) hs) (by simpa using I.ok.hd hc) ao (by rw[z,K4];omega) λh' tk a9 kp it=>?_
  refine aO h' tk s.drawn _ (kvs.map (·.1)) kp (.refl _) (St.jH ⟨by rw[it.1,z,mx],λj v ej=>?_⟩);obtain⟨kk,xx,e1,e2⟩:=it.2 j v ej;have e3:(Y.map (·.1))[j]?=some kk:=by rw[KJ,e1];rfl
  rw[J,KJ,oe]at e3;obtain⟨p,e4,rfl⟩:=e3;rw[LF,KJ,e4];exact C7 e2
 .have I1:Inv X pins σ H { s with heap:=h1,toks:=tk,drawn:=d' }:=I.keptD k1;have I2:Inv X pins σ (upd H h1.objs.size (.lst ((Srt.sortI (kvs.map (·.1))).map V.int))) { s with heap:=h',toks:=tk,drawn:=d' }:=
   I1.laid (t':=tk) k2 (g4 _) (show bM X.prog X.w _ h' _ (.lst _)from⟨by rw[mx,Srt.sortI_len,mx,K4];omega,out,c,pY hi,e⟩)
  refine⟨.ref h1.objs.size,_,I2,rfl,q _ _ (I1.hok.fresh (g4 _)) ?_⟩;rw[dF];exact .of_ints _
end
def rq:bootBuiltins "len"=some (.builtin "len"):=by decide +kernel
def oh:bootBuiltins "tuple"=some (.type "tuple"):=by decide +kernel
def rA:bootBuiltins "list"=some (.type "list"):=by decide +kernel
def lI:bootBuiltins "sorted"=some (.builtin "sorted"):=by decide +kernel
def FK:bootBuiltins "any"=some (.builtin "any"):=by decide +kernel
def FL:bootBuiltins "all"=some (.builtin "all"):=by decide +kernel
def AA:bootBuiltins "max"=some (.builtin "max"):=by decide +kernel
def FM:bootBuiltins "min"=some (.builtin "min"):=by decide +kernel
def AB:bootBuiltins "int"=some (.type "int"):=by decide +kernel
def C8:bootBuiltins "bool"=some (.type "bool"):=by decide +kernel
def rB:bootBuiltins "set"=some (.type "set"):=by decide +kernel
def pH:bootBuiltins "isinstance"=some (.builtin "isinstance"):=by decide +kernel
section
variable{X:Cx}{T:Tab}{k:Nat}{cal:Cal}
def FN {p p2 pos:Pos} (g:Gf X T k cal) (U:dD f=some c) (hg:glB X.env.scope "isinstance"=true) (ht:t=(c:Str)) (Y:glB X.env.scope t=true)
  (Z:bootBuiltins c=some (.type c)) (ao:X.mg c=none) (hn:(c:Str) ≠ "__name__") (hd:((c:Str)==("__debug__":Str))=false) (h:PE X e (tE X.K cal m)) (hs:ah e=true):PE X (.Call (.Name "isinstance" p) [e,.Name t p2] [] pos) (tE X.K cal (.blt f [m])):=by
 subst ht;refine(fm (FC U) (dE hg) (g.blt "isinstance" (by decide)) pH (aR h (aR (BY (v:=.ty c) (dE Y) ao Z rfl hn hd) bN rfl) (a_ hs _ _)) (by decide) (by decide) (a_ hs _ _) rfl).imp λσ H Q q=>?_
 obtain⟨B,E,O,W,v,st,z,q⟩:=q;rw[ev,ft]at z;obtain⟨vs,z,J⟩:=z;obtain⟨w,rfl,e3⟩:=tG z;have e5:isD w=false/\v=.bl (isT f w):=by
  cases hd:isD w with
  |true=>cases f<;>simp[dD,reduceCtorEq]at U<;>(simp only[az,cw,iR,jA,hd]at J;cases J)
  |false=>cases f<;>simp[dD,reduceCtorEq]at U<;>(simp[az,cw,iR,jA,hd,KA,Ls,p0]at J;exact⟨rfl,J.symm⟩)
 obtain⟨e5,rfl⟩:=e5;refine⟨B,E,O,W,w,st,e3,λu H1 s1 g1=>⟨O,w,u,rfl,e5,g1.1,q _ H1 s1 (.of (eR _ _))⟩⟩
def tH {p p2 pos pos2:Pos} (g:Gf X T k cal) (hx:x=("sorted":Str)) (hy:y=("set":Str)) (hg:glB X.env.scope x=true) (U:glB X.env.scope y=true) (h:PE X e (tE X.K cal m)) (hs:ah e=true):PE X (.Call (.Name x p) [.Call (.Name y p2) [e] [] pos2] [] pos) (tF X.K cal (.blt .sortedSet [m])):=by
 subst hx hy;refine(fm (tz g.calm) (dE hg) (g.blt "sorted" (by decide)) lI (aR (dj (wE g.calm) (dE U) (g.blt "set" (by decide)) rB (aR h bN (a_ hs _ _)) (by decide) (by decide) (a_ hs _ _) rfl) bN rfl) (by decide) (by decide) rfl rfl).imp λσ H Q q=>?_
 refine aB λZq kq=>?_
 obtain⟨B,E,O,W,xs,st,J,q⟩:=q;rw[ev,ft]at J;obtain⟨vs,J,Z⟩:=J;obtain⟨w,rfl,e3⟩:=tG J;simp only[az,cw,mJ,iR,jA,ft]at Z;obtain⟨ys,e4,ns,e5,Y⟩:=Z;refine kq ?_;split at Y
 .rename_i hc;cases Y;refine⟨B,E,O,W,w,st,e3,λu H1 s1 g1=>⟨O,w,u,ns,rfl,g1.1,by simp[e4,e5],hc.1,λl hl=>⟨l,_,rfl,ax,?_,λp' z=>?_⟩⟩⟩
  .rw[vk];exact hc.2
  .rw[CZ];refine q p' _ _ ((s1.trans (ay hl _)).trans (ay z _)) (s1.free ((ay hl _).free z)) ax (.of_ints _)
 .cases Y
def AC {p p2 pos pos2:Pos} (g:Gf X T k cal) (hx:x=("len":Str)) (Z:y=("set":Str)) (hg:glB X.env.scope x=true) (J:glB X.env.scope y=true) (h:PE X e (tE X.K cal m)) (hs:ah e=true):PE X (.Call (.Name x p) [.Call (.Name y p2) [e] [] pos2] [] pos) (tE X.K cal (.blt .lenSet [m])):=by
 subst hx Z;refine(fm qW (dE hg) (g.blt "len" (by decide)) rq (aR (dj (wE g.calm) (dE J) (g.blt "set" (by decide)) rB (aR h bN (a_ hs _ _)) (by decide) (by decide) (a_ hs _ _) rfl) bN rfl) (by decide) (by decide) rfl rfl).imp λσ H Q q=>?_
 refine aB λZq kq=>?_
 obtain⟨B,E,O,W,v,st,z,q⟩:=q;rw[ev,ft]at z;obtain⟨vs,z,Y⟩:=z;obtain⟨w,rfl,e3⟩:=tG z;simp only[az,cw,mJ,iR,jA,ft]at Y;obtain⟨ys,e4,ns,e5,U⟩:=Y;refine kq ?_;split at U
 .rename_i hc;cases U;refine⟨B,E,O,W,w,st,e3,λu H1 s1 g1=>⟨O,w,u,ns,rfl,g1.1,by simp[e4,e5],hc,λl hl=>⟨l,_,rfl,ax,?_⟩⟩⟩;rw[vk];exact q _ _ (s1.trans (ay hl _)) (.of (bR _ _))
 .cases U
def tI {p p2 p3 q2 q3 q4 pos:Pos} (g:Gf X T k cal) (hx:x=("len":Str)) (hy:y=("set":Str)) (hz:z=("set":Str)) (hg:glB X.env.scope x=true) (ao:glB X.env.scope y=true) (aO:glB X.env.scope z=true) (ha:PE X a (tE X.K cal m1)) (hb:PE X b (tE X.K cal m2)) (J:ah a=true) (U:ah b=true) :
  PE X (.Call (.Name x p) [.BinOp (.Call (.Name y p2) [a] [] q2) .Sub (.Call (.Name z p3) [b] [] q3) q4] [] pos) (tE X.K cal (.blt .lenSetSub [m1,m2])):=by
 subst hx hy hz;refine(fm sO (dE hg) (g.blt "len" (by decide)) rq (aR (vX xT (dj (wE g.calm) (dE ao) (g.blt "set" (by decide)) rB (aR ha bN (a_ J _ _)) (by decide) (by decide) (a_ J _ _) rfl) (dj (wE g.calm) (dE aO) (g.blt "set" (by decide)) rB (aR hb bN (a_ U _ _)) (by decide) (by decide) (a_ U _ _) rfl)) bN rfl) (by decide) (by decide) rfl rfl).imp λσ H Q q=>?_
 refine aB λZq kq=>?_
 obtain⟨B,E,O,W,v,st,Y,q⟩:=q;rw[ev,ft]at Y;obtain⟨vs,Y,e2⟩:=Y;simp only[evs,ft,oe]at Y;obtain⟨v1,e3,w1,⟨v2,e4,w2,e5,rfl⟩,rfl⟩:=Y;cases e5;simp only[az,cw,mJ,iR,jA,ft]at e2;obtain⟨xs,f1,ns,f2,ys,f3,ms,f4,f5⟩:=e2;refine kq ?_;split at f5
 .rename_i hc;cases f5;refine⟨B,E,O,W,v1,st,e3,λu H1 s1 g1=>⟨O,v1,u,ns,rfl,g1.1,by simp[f1,f2],hc.1,λl hl=>?_⟩⟩;refine⟨B,E,O,W,v2,st.mono (s1.trans (ay hl _)),e4,λu2 H2 s2 g2=>⟨O,v2,u2,ms,rfl,g2.1,by simp[f3,f4],hc.2.1,λl2 Z=>?_⟩⟩;refine⟨l,l2,_,_,rfl,rfl,(ay Z _) l _ (s2 l _ ax),ax,by rw[vk];exact hc.2.2,λp' a1=>⟨p',_,rfl,ax,?_⟩⟩;have e6:((St.dd ns.reverse).filter λk=>!decide (k∈St.dd ms.reverse)).length=((dd ns).filter λn=>!decide (n∈ms)).length:=by
   rw[qa];have e7:(λk=>!decide (k∈St.dd ms.reverse))=λn=>!decide (n∈ms):=by
    funext k
    congr 1
    rw[NS,St.gw,NW]
   rw[e7];refine Perm.length_eq (Perm.filter _ ((Lq (St.dd_nodup _) (St.dd_nodup _)).mpr λa=>?_));rw[St.gw,St.gw,NW]
  rw[e6];exact q _ _ ((s1.trans (ay hl _)).trans (s2.trans ((ay Z _).trans (ay a1 _)))) (.of (bR _ _))
 .cases f5
theorem tJ :∀{kvs}{ks}{vs},s_ kvs ks vs=true->PPs X kpos ks vs (kvs.map λp=>(tC (.str p.1),tC (.str p.2)))/\ks.all (·.isSome)=true/\ks.length=vs.length/\ks.length=kvs.length
 | [],[],[],_=>⟨Ck,rfl,rfl,rfl⟩
 |p::r,k::ks,v::vs,h=>by
  obtain⟨a,z⟩:=gx.mp h;obtain⟨h1,h2⟩:=gx.mp a;obtain⟨J,U,Y,Z⟩:=tJ (kpos:=kpos) z;cases k with
  |none=>cases h1
  |some k =>
   obtain⟨j,kp,rfl⟩:=wv (eq_of_beq h1);obtain⟨j2,vp,rfl⟩:=wv (eq_of_beq h2);exact⟨zn uD uD J,by rw[all_cons,U];rfl,by rw[length_cons,length_cons,Y],by rw[length_cons,length_cons,Z]⟩
 | [],_::_,_,h=>by cases h
 | [],[],_::_,h=>by cases h
 | _::_,[],_,h=>by cases h
 | _::_,_::_,[],h=>by cases h
theorem oj{σ:St}:∀{kvs:List (Str×Str)}{H}{Q},Q (kvs.map λp=>(V.str p.1,V.str p.2)) H->qO (kvs.map λp=>(tC (.str p.1),tC (.str p.2))) σ H Q
 | [],_,_,h=>h
 |p::r,H,Q,h=>oj (kvs:=r) (Q:=λps z=>Q ((V.str p.1,V.str p.2)::ps) z) h
def FO(g:Gf X T k cal)(hd:s_ kvs ks vs=true)(hl:kvs.length<=15)(h0:kvs.isEmpty=false)(hk:PE X i (tE X.K cal m))(hs:b_ i=true):PE X (.Subscript (.Dict ks vs dp) i pos) (tE X.K cal (.disp kvs m)):=by
 have hu:X.A.units+1<cLine:=by have:=g.units;omega
 obtain⟨q1,q2,q3,q4⟩:=tJ (X:=X) (kpos:=dp) hd;have hn:ks≠[]:=λz=>by
  grind
 refine(v5 hu (Cl q1 q2 q3 hn (by omega)) hk (by cases i<;>first|(intro _ _;rfl)|(simp[b_]at hs))).imp λσ H Q q=>?_
 obtain⟨B,E,O,W,v,st,J,q⟩:=q;rw[ev,ft]at J;obtain⟨w,J,Y⟩:=J;cases w with
 |str x =>
  have U:(jz (iY [] (p8 kvs)) (Sum.inr x)).bind (λv=>match v with|.str y=>some (PV.str y)|_=>none)=some v:=Y;rw[ft]at U;obtain⟨u,U,Z⟩:=U;cases u with
  |str y =>
   cases Z;intro p hp;refine oj ⟨ax,p8 kvs,by unfold p8;rw[Kx];rfl,by unfold p8;rw[mx];exact hl,?_⟩;have s1:ai H (upd (upd H p (.dK [])) p (.dK (iY [] (p8 kvs)))):=λb o e=>by
    have hb:b≠p:=λz=>by rw[z,hp]at e;cases e
    rw[bb hb,bb hb];exact e
   refine⟨B,E,O,W,_,st.mono s1,J,λuy H2 s2 g2=>?_⟩;have ey:=g2.1.str;subst ey;exact⟨p,V.str y,rfl,.inl ⟨_,Sum.inr x,.inl (s2 _ _ ax),rfl,U.symm⟩,q _ H2 (s1.trans s2) (.of (mY _ _))⟩
  | _=>cases Z
 | _=>cases Y
def FP (g:Gf X T k cal) (hg:glB X.env.scope ("len":Str)=true) (hn:ba X.N X.env.scope i y=true):PE X (.Call (.Name ("len":Str) p) [.Name y yp] [] pos) (tE X.K cal (.lenP i)):=by
 refine(fm ir (dE hg) (g.blt "len" (by decide)) rq (aR (cx hn) bN rfl) (by decide) (by decide) rfl rfl).imp λσ H Q q=>?_
 refine aB λZq kq=>?_
 obtain⟨B,E,O,W,v,st,z,q⟩:=q;rw[ev]at z;have fin:∀ns a,H a=some (i5 (.p ns))->v=.int ns.length->σ[i]?=some (some (.ref a))->∃u,σ[i]?=some (some u)/\∃a J,[u]=[V.ref a]/\(SqL X.K H a J\/SqT X.K H a J)/\Q (.int J.length) H:=λns a U hv Y=>by
  refine⟨_,Y,a,ns.map V.int,rfl,.inl (SqL.of U),?_⟩;rw[mx];subst hv;exact q _ H (ai.refl H) (.of (bR _ _))
 refine kq ?_;cases Z:(W[i]?).join with
 |none=>rw[Z]at z;cases z
 |some m =>
  rw[Z]at z;obtain⟨u,Y,so⟩:=aZ st Z;cases m with
  |ownD d|mutD d =>
   cases d with
   |p ns =>
    cases z;obtain⟨a,rfl,U,_⟩:=so;exact fin ns a U rfl Y
   | _=>cases z
  | _=>cases z
def tK{cond elt:ME}:∀W v,ev cal (.comp z src js cond elt) W=some v->∃xs,v=.lst xs:=λW v hv=>by
 rw[ev,ft]at hv;obtain⟨vs,_,hv⟩:=hv;rw[ft]at hv;obtain⟨xs,_,hv⟩:=hv;split at hv
 .simp at hv;obtain⟨ys,_,rfl⟩:=hv;exact⟨_,rfl⟩
 .cases hv
def dY(z:f=.listOf\/f=.sorted\/f=.sortedSet\/f=.sortedKeys\/f=.valuesOf) :∀W v,ev cal (.blt f ms) W=some v->∃xs,v=.lst xs:=λW v hv=>by
 rw[ev,ft]at hv;obtain⟨vs,_,hv⟩:=hv;rcases z with rfl|rfl|rfl|rfl|rfl
 .obtain⟨x,rfl⟩:=db hv (.inl rfl);simp only[az,cw,mJ,iR,jA,oe]at hv;obtain⟨ys,_,rfl⟩:=hv;exact⟨_,rfl⟩
 .obtain⟨x,rfl⟩:=db hv (.inl rfl);simp only[az,cw,mJ,iR,jA,ft]at hv;obtain⟨ys,_,hv⟩:=hv;unfold i4 at hv;split at hv
  .split at hv
   .cases hv;exact⟨_,rfl⟩
   .simp only[oe]at hv;obtain⟨J,_,rfl⟩:=hv;exact⟨_,rfl⟩
  .cases hv
 .obtain⟨x,rfl⟩:=db hv (.inr (.inr (.inl rfl)));simp only[az,cw,mJ,iR,jA,ft]at hv;obtain⟨ys,_,ns,_,hv⟩:=hv;split at hv
  .cases hv;exact⟨_,rfl⟩
  .cases hv
 .obtain⟨x,rfl⟩:=db hv (.inl rfl);simp only[az,cw]at hv;split at hv
  .split at hv
   .cases hv;exact⟨_,rfl⟩
   .cases hv
  .cases hv
 .obtain⟨x,rfl⟩:=db hv (.inr (.inr (.inr (.inr rfl))));simp only[az,cw]at hv;split at hv
  .grind
  .cases hv
def rC{cond:ME}(h:sZ f cond ifs=true)(hc:∀c,f c=true->PT X c (tT X.K cal cond)):PF X ifs (tT X.K cal cond):=by
 match ifs,h with
 | [],h =>
  have e:cond=.cst (.bl true):=by
   simp[sZ]at h;split at h
   .rfl
   .cases h
  subst e;intro pins s σ H Q I q;refine aB λU J=>?_
  obtain⟨B,E,O,W,b,st,z,q⟩:=q;simp only[evB,ev,bind_some,bf,p0]at z;subst z;refine J ?_;exact ET pins s σ H Q I (q H (ai.refl H))
 | [c],h=>exact EU (hc c h)
def lJ(ao:tup=true->∃ts j tp,tg=.Tuple ts j tp)(g:Gf X T k cal)(h:nU X.env.scope tup (λxs=>chks T src X.N X.env.scope xs) k' it=true)(hs:∀xs,chks T src X.N X.env.scope xs=true->PA X xs (tEs X.K cal src)/\xs.all ah=true/\src.length=xs.length)
  (h1:∀m x,src=[m]->chks T src X.N X.env.scope [x]=true->PE X x (tE X.K cal m)):PI X tg it (tW X.K cal k' src)/\fC it=true:=by
 cases k' with
 |seq =>
  replace h:=gx.mp h
  obtain⟨z,h⟩:=h;refine⟨?_,z⟩;obtain⟨_,_,J⟩:=hs _ h;obtain⟨m,rfl⟩:=Mp.mp J;cases U:aN m with
  |false=>exact Ig U (h1 m it rfl h)
  |true =>
   have q1:=(ca h).1.1;obtain⟨i,rfl⟩:=nV U;obtain⟨x,p,rfl,q⟩:=kI q1;exact Ih q
 |rng =>
  replace h:=ak h
  obtain⟨c,e1,h⟩:=h;obtain⟨p,pos,rfl⟩:=fX e1;simp only[gQ,Kv,NU]at h;obtain⟨⟨⟨hx,Z⟩,Y⟩,z⟩:=h;obtain⟨q,a1,J⟩:=hs _ Y;exact⟨C1 g hx Z q z a1 J,rfl⟩
 |enm =>
  replace h:=ak h
  obtain⟨⟨x,a⟩,e1,h⟩:=h;obtain⟨p,pos,rfl⟩:=iw e1;simp only[gQ,Kv]at h;obtain⟨⟨⟨⟨ht,hx⟩,Z⟩,Y⟩,z⟩:=h;obtain⟨ts,j,tp,rfl⟩:=ao ht;obtain⟨_,_,J⟩:=hs _ Y;refine⟨?_,rfl⟩;obtain⟨m,rfl⟩:=Mp.mp J;cases U:aN m with
  |false=>exact Ii g hx Z z U (h1 m a rfl Y)
  |true =>
   have q1:=(ca Y).1.1;obtain⟨i,rfl⟩:=nV U;obtain⟨y,p,rfl,q⟩:=kI q1;exact FF g hx Z q
 |rev=>cases h
def vq(K)(F)(s:Sc):Rep K F s.pv s.v:=by cases s<;>simp[Sc.pv,Sc.v,Rep]
def vt{K:N0}(e:sc? x=some s)(r:bJ K H O x u):u=s.v:=by
 cases x<;>simp[sc?,p0,reduceCtorEq]at e<;>subst e
 .exact r.non
 .exact r.bl
 .exact r.int
 .exact r.str
def base_of(z:p9 o=true):attributeBase o n X.env (eval o X.env)=eval o X.env:=by
 cases o<;>first|rfl|(simp at z;done)|skip
 rename_i fn args kws pos;cases args with
 |nil=>simp[p9]at z
 |cons _ _=>cases fn<;>rfl
theorem wK(K)(F):∀ss:List Sc,Reps K F (ss.map Sc.pv) (ss.map Sc.v)
 | []=>rfl
 |s::ss=>⟨_,_,rfl,vq K F s,wK K F ss⟩
def AD (g:Gf X T k cal) (hx:x=("list":Str)) (hg:glB X.env.scope x=true) (h:PE X o (tE X.K cal m)) (hb:attributeBase o "values" X.env (eval o X.env)=eval o X.env) (J:(ap.endLine==cp.line)=true) :
  PE X (.Call (.Name x p) [.Call (.Attribute o "values" ap) [] [] cp] [] pos) (tF X.K cal (.blt .valuesOf [m])):=by
 subst hx;refine(dj (vo g.calm) (dE hg) (g.blt "list" (by decide)) rA (aR (C6 hb J h) bN rfl) (by decide) (by decide) rfl rfl).imp λσ H Q q=>?_
 refine aB λZq kq=>?_
 obtain⟨B,E,O,W,xs,st,Y,q⟩:=q;rw[ev,ft]at Y;obtain⟨vs,Y,U⟩:=Y;obtain⟨w,rfl,e3⟩:=tG Y;have hd:∃d,w=.dI d/\(kD d).length<=10000/\xs=kD d:=by
  simp[az,cw]at U;split at U
  .split at U
   .rename_i d J
    simp_all
   .cases U
  .cases U
 obtain⟨d,rfl,hz,rfl⟩:=hd;have Z:(dSc d).length<=10000:=by unfold kD at hz;rw[mx]at hz;exact hz
 refine kq ?_;refine⟨B,E,O,W,_,st,e3,λu H1 s1 g1=>?_⟩;obtain⟨a,rfl,ha⟩:=g1.1.dI;refine⟨a,d,rfl,ha,λp' z=>⟨p',a,d,rfl,ax,ai.rdD (ay z _) ha,Z,λl J=>?_⟩⟩;refine q l _ _ ((s1.trans (ay z _)).trans (ay J _)) (s1.free ((ay z _).free J)) ax ?_;exact wK _ _ _
def C9{α:Type}:∀{es:List α},es.length=2->∃m z,es=[m,z]
 | [_,_],_=>⟨_,_,rfl⟩
def FQ {sc:Scope}{f:List Expr->Bool}{n:Nat}{args:List Expr} (J:mT sc f n .lenSetSub args=true):∃U y z Y p2 Z p3 q3 q4,args=[.BinOp (.Call (.Name U p2) [y] [] Z) .Sub (.Call (.Name z p3) [Y] [] q3) q4]/\U="set"/\glB sc U=true/\z="set"/\glB sc z=true/\f [y,Y]=true/\n=2:=by
 refine aB λZq kq=>?_
 obtain⟨a,e1,J⟩:=ak J;obtain⟨⟨l,o,r,q4⟩,e2,J⟩:=ak J;obtain⟨⟨U,y⟩,e3,J⟩:=ak J;obtain⟨⟨z,Y⟩,e4,J⟩:=ak J;simp only[gQ,Kv]at J;obtain⟨⟨⟨⟨⟨⟨a0,a1⟩,a2⟩,a3⟩,a4⟩,a5⟩,a6⟩:=J;obtain⟨p2,Z,e3⟩:=iw e3;obtain⟨p3,q3,e4⟩:=iw e4;refine kq ?_;exact⟨U,y,z,Y,p2,Z,p3,q3,q4,by rw[c9 e1,qZ e2,e3,e4,a0],a1,a2,a3,a4,a5,a6⟩
def C_ {sc:Scope}{f:List Expr->Bool}{n:Nat}{args:List Expr} (z:mT sc f n .valuesOf args=true):∃y ap cp,args=[.Call (.Attribute y "values" ap) [] [] cp]/\p9 y=true/\ap.endLine=cp.line/\f [y]=true/\n=1:=by
 refine aB λZq J=>?_
 obtain⟨a,U,z⟩:=ak z;obtain⟨⟨y,mm,ap,as,cp⟩,Y,z⟩:=ak z;simp only[gQ,Kv,L8]at z;obtain⟨⟨⟨⟨⟨Z,a1⟩,h3⟩,h4⟩,h5⟩,h6⟩:=z;refine J ?_;exact⟨y,ap,cp,by rw[c9 U,vc Y,Z,a1],h3,h4,h5,h6⟩
def tL{b:Blt}{es:List ME}{x:Str}{args:List Expr}{p pos:Pos}(g:Gf X T k cal)(hx:x=(sX b:Str))(hg:glB X.env.scope x=true)(J:mT X.env.scope (λxs=>chks T es X.N X.env.scope xs) es.length b args=true)
  (hs:∀xs,chks T es X.N X.env.scope xs=true->PA X xs (tEs X.K cal es)/\xs.all ah=true/\es.length=xs.length)
  (h1:∀m x,es=[m]->chks T es X.N X.env.scope [x]=true->PE X x (tE X.K cal m))
  (b4:∀m m' x x',es=[m,m']->chks T es X.N X.env.scope [x,x']=true->PE X x (tE X.K cal m)/\PE X x' (tE X.K cal m')) :
  (i7 (.blt b es)=true->PE X (.Call (.Name x p) args [] pos) (tF X.K cal (.blt b es)))/\PE X (.Call (.Name x p) args [] pos) (tE X.K cal (.blt b es)):=by
 subst hx;have inst:∀{b:Blt}{args:List Expr} (c:String),glB X.env.scope (sX b)=true->dD b=some c->sX b="isinstance"->bootBuiltins c=some (.type c)->X.mg c=none->(c:Str) ≠ "__name__"->((c:Str)==("__debug__":Str))=false->sY X.env.scope (λxs=>chks T es X.N X.env.scope xs) es.length c args=true ->
   PE X (.Call (.Name (sX b) p) args [] pos) (tE X.K cal (.blt b es)):=λ{b args} c hg hc hb b5 hm hn hd J=>by
  replace J:=ak J
  obtain⟨⟨y,t0⟩,e1,J⟩:=J
  replace J:=ak J
  obtain⟨⟨t,p2⟩,e2,J⟩:=J;obtain rfl:=mS e1;obtain rfl:=eQ (e:=t0) e2;simp only[gQ,Kv]at J;obtain⟨⟨⟨h2,h3⟩,h4⟩,h5⟩:=J;obtain⟨m,rfl⟩:=Mp.mp h5;rw[hb]at hg ⊢;exact FN g hc hg h2 h3 b5 hm hn hd (h1 m y rfl h4) (ca h4).1.2
 have c1:∀{nm:Str},vf X.env.scope (λxs=>chks T es X.N X.env.scope xs) es.length nm args=true->∃m y gg p2 pos2,es=[m]/\args=[.Call (.Name gg p2) [y] [] pos2]/\gg=nm/\glB X.env.scope gg=true/\PE X y (tE X.K cal m)/\ah y=true:=λ{nm} J=>by
  replace J:=ak J
  obtain⟨a,e1,J⟩:=J
  replace J:=ak J
  obtain⟨⟨gg,y⟩,e2,J⟩:=J;obtain⟨p2,pos2,rfl⟩:=iw e2;simp only[gQ,Kv]at J;obtain⟨⟨⟨h2,h3⟩,h4⟩,h5⟩:=J;obtain⟨m,rfl⟩:=Mp.mp h5;exact⟨m,y,gg,p2,pos2,rfl,c9 e1,h2,h3,h1 m y rfl h4,(ca h4).1.2⟩
 have plain:∀{args:List Expr} (n:Nat),0<n->(some n==some es.length&&chks T es X.N X.env.scope args)=true->∃e r,args=e::r/\PA X (e::r) (tEs X.K cal es)/\(e::r).all ah=true:=λ{args} n cL J=>by
  simp only[gQ,Kv,p0]at J;obtain⟨Y,U,q3⟩:=hs _ J.2;cases args with
  |nil=>rw[<- J.1]at q3;simp at q3;omega
  |cons e r=>exact⟨e,r,rfl,Y,U⟩
 cases b with
 |len =>
  obtain⟨e,r,Z,Y,U⟩:=plain 1 (by decide) J;rw[Z];exact⟨λz=>(by cases z),og H_ hg (g.blt "len" (by decide)) rq (by decide) (by decide) Y U⟩
 |tupleOf =>
  obtain⟨e,r,Z,Y,U⟩:=plain 1 (by decide) J;rw[Z];exact⟨λz=>(by cases z),Au wD hg (g.blt "tuple" (by decide)) oh (by decide) (by decide) Y U⟩
 |listOf =>
  obtain⟨e,r,Z,Y,U⟩:=plain 1 (by decide) J;rw[Z];have q:=C4 (p:=p) (pos:=pos) Fz hg (g.blt "list" (by decide)) rA (by decide) (by decide) Y U;exact⟨λ_=>q,dP (dY (.inl rfl)) q⟩
 |sorted =>
  obtain⟨e,r,Z,Y,U⟩:=plain 1 (by decide) J;rw[Z];have q:=Av (p:=p) (pos:=pos) (Ak g) hg (g.blt "sorted" (by decide)) lI (by decide) (by decide) Y U;exact⟨λ_=>q,dP (dY (.inr (.inl rfl))) q⟩
 |any =>
  obtain⟨e,r,Z,Y,U⟩:=plain 1 (by decide) J;rw[Z];exact⟨λz=>(by cases z),og (Ib g.calm) hg (g.blt "any" (by decide)) FK (by decide) (by decide) Y U⟩
 |all =>
  obtain⟨e,r,Z,Y,U⟩:=plain 1 (by decide) J;rw[Z];exact⟨λz=>(by cases z),og (Ic g.calm) hg (g.blt "all" (by decide)) FL (by decide) (by decide) Y U⟩
 |intOf =>
  obtain⟨e,r,Z,Y,U⟩:=plain 1 (by decide) J;rw[Z];exact⟨λz=>(by cases z),Au Ia hg (g.blt "int" (by decide)) AB (by decide) (by decide) Y U⟩
 |boolOf=>exact absurd J mu
 |max2 =>
  obtain⟨e,r,Z,Y,U⟩:=plain 2 (by decide) J;rw[Z];exact⟨λz=>(by cases z),og (FA g.calm) hg (g.blt "max" (by decide)) AA (by decide) (by decide) Y U⟩
 |min2 =>
  obtain⟨e,r,Z,Y,U⟩:=plain 2 (by decide) J;rw[Z];exact⟨λz=>(by cases z),og (FB g.calm) hg (g.blt "min" (by decide)) FM (by decide) (by decide) Y U⟩
 |isInt=>exact⟨λz=>(by cases z),inst "int" hg rfl rfl AB (g.blt "int" (by decide)) (by decide) (by decide) J⟩
 |isBool=>exact⟨λz=>(by cases z),inst "bool" hg rfl rfl C8 (g.blt "bool" (by decide)) (by decide) (by decide) J⟩
 |isStr=>exact absurd J mu
 |isList=>exact absurd J mu
 |isTuple=>exact⟨λz=>(by cases z),inst "tuple" hg rfl rfl oh (g.blt "tuple" (by decide)) (by decide) (by decide) J⟩
 |sortedSet =>
  obtain⟨m,y,gg,p2,pos2,ee,ea,h2,h3,hp,bA⟩:=c1 J;rw[ee,ea];have q:=tH (p:=p) (p2:=p2) (pos:=pos) (pos2:=pos2) g rfl h2 hg h3 hp bA;exact⟨λ_=>q,dP (dY (.inr (.inr (.inl rfl)))) q⟩
 |sum =>
  obtain⟨e,r,Z,Y,U⟩:=plain 1 (by decide) J;rw[Z];exact⟨λz=>(by cases z),og (Ie g.calm) hg (g.blt "sum" (by decide)) PyProof.Rows.boot_sum (by decide) (by decide) Y U⟩
 |max1 =>
  obtain⟨e,r,Z,Y,U⟩:=plain 1 (by decide) J;rw[Z];exact⟨λz=>(by cases z),og (FD g.calm) hg (g.blt "max" (by decide)) AA (by decide) (by decide) Y U⟩
 |sortedKeys =>
  obtain⟨e,r,Z,Y,U⟩:=plain 1 (by decide) J;rw[Z];have q:=Av (p:=p) (pos:=pos) (rm g.calm) hg (g.blt "sorted" (by decide)) lI (by decide) (by decide) Y U;exact⟨λ_=>q,dP (dY (.inr (.inr (.inr (.inl rfl))))) q⟩
 |valuesOf =>
  obtain⟨y,ap,cp,ea,h3,h4,h5,h6⟩:=C_ J;obtain⟨m,ee⟩:=Mp.mp h6;have hy:=h1 m y ee h5;rw[ee,ea];have q:=AD (p:=p) (ap:=ap) (cp:=cp) (pos:=pos) g rfl hg hy (base_of h3) (by rw[h4];simp);exact⟨λ_=>q,dP (dY (.inr (.inr (.inr (.inr rfl))))) q⟩
 |min1=>cases J
 |tupleRev=>cases J
 |lenSet =>
  obtain⟨m,y,gg,p2,pos2,ee,ea,h2,h3,hp,bA⟩:=c1 J;rw[ee,ea];exact⟨λz=>(by cases z),AC g rfl h2 hg h3 hp bA⟩
 |lenSetSub =>
  obtain⟨gg,y,c5,y',p2,U,p3,q3,q4,ea,a1,a2,a3,a4,a5,a6⟩:=FQ J;obtain⟨m,m',ee⟩:=C9 a6;obtain⟨b1,b2⟩:=b4 m m' y y' ee a5;rw[ee]at a5 ⊢;rw[ea];exact⟨λz=>(by cases z),tI g rfl a1 a3 hg a2 a4 b1 b2 (ca a5).1.2 (ca (ca a5).2).1.2⟩
def Ix(g:Gf X T k cal)(hk:PE X l (tE X.K cal mk))(Y:PE X r (tE X.K cal J))(hm:behindInMarks (if neg=true then CmpOp.NotIn else CmpOp.In) r=false) :
  PE X (.Compare l [if neg=true then CmpOp.NotIn else CmpOp.In] [r] pos) (tE X.K cal (.dIn neg mk J))/\PT X (.Compare l [if neg=true then CmpOp.NotIn else CmpOp.In] [r] pos) (tT X.K cal (.dIn neg mk J)):=by
 have hu:X.A.units+1<cLine:=by have:=g.units;omega
 have go:∀{σ}{H}{Q:Bool->Hp->Prop},(∃B E O W b,aG X.K B E O H W σ/\ev cal (.dIn neg mk J) W=some (.bl b)/\∀H',ai H H'->Q b H') ->
   tE X.K cal mk σ H λy H1=>tE X.K cal J σ H1 λx H2=>∃a o,x=.ref a/\nw H2 a y o/\Q (if neg=true then !o.isSome else o.isSome) H2:=λ{σ H Q} q=>by
  refine aB λZq Z=>?_
  obtain⟨B,E,O,W,b,st,z,q⟩:=q;rw[ev]at z;simp only[ft]at z;obtain⟨y,z,x,e2,U⟩:=z;refine Z ?_;refine⟨B,E,O,W,y,st,z,λuy H1 s1 g1=>⟨B,E,O,W,x,st.mono s1,e2,λux H2 s2 g2=>?_⟩⟩;rw[oe]at U;obtain⟨o,U,e4⟩:=U;cases x<;>try (cases U;done)
  obtain⟨a,rfl,Y⟩:=g2.1.dI;refine⟨a,_,rfl,rl U Y (g1.1.mono s2),?_⟩;rw[isSome_map,PV.bl.inj e4];exact q H2 (s1.trans s2)
 have ao:∀{σ}{H}{Q},tE X.K cal (.dIn neg mk J) σ H Q->∃B E O W b,aG X.K B E O H W σ/\ev cal (.dIn neg mk J) W=some (.bl b)/\∀H',ai H H'->Q (.bl b) H':=λ{σ H Q} q=>by
  refine aB λZq Z=>?_
  obtain⟨B,E,O,W,v,st,z,q⟩:=q;have hb:∃b,v=.bl b:=by
   rw[ev]at z;simp only[ft]at z;obtain⟨y,_,x,_,U⟩:=z;rw[oe]at U;obtain⟨o,_,e4⟩:=U;exact⟨_,e4.symm⟩
  obtain⟨b,rfl⟩:=hb;refine Z ?_;exact⟨B,E,O,W,b,st,z,λH' s=>q _ H' s (.of (eR _ _))⟩
 have aO:∀{σ}{H}{Q},tT X.K cal (.dIn neg mk J) σ H Q->∃B E O W b,aG X.K B E O H W σ/\ev cal (.dIn neg mk J) W=some (.bl b)/\∀H',ai H H'->Q b H':=λ{σ H Q} q=>by
  refine aB λZq Z=>?_
  obtain⟨B,E,O,W,b,st,z,q⟩:=q;unfold evB at z;simp only[ft]at z;obtain⟨v,z,e2⟩:=z;refine Z ?_;cases v<;>simp only[bf,reduceCtorEq,p0]at e2
  subst e2;exact⟨B,E,O,W,_,st,z,q⟩
 cases neg with
 |false =>
  refine⟨(yM (zj hu hk Y) hm).imp λσ H Q q=>?_,(yN (zj hu hk Y) hm).imp λσ H Q q=>?_⟩
  .exact go (Q:=λb H'=>Q (.bl b) H') (ao q)
  .exact go (Q:=λb H'=>∃c,V.bl b=.bl c/\Q c H') (by
    obtain⟨B,E,O,W,b,st,z,q⟩:=aO q;exact⟨B,E,O,W,b,st,z,λH' s=>⟨b,rfl,q H' s⟩⟩)
 |true =>
  refine⟨(yM (pR hu hk Y) hm).imp λσ H Q q=>?_,(yN (pR hu hk Y) hm).imp λσ H Q q=>?_⟩
  .exact go (Q:=λb H'=>Q (.bl b) H') (ao q)
  .exact go (Q:=λb H'=>∃c,V.bl b=.bl c/\Q c H') (by
    obtain⟨B,E,O,W,b,st,z,q⟩:=aO q;exact⟨B,E,O,W,b,st,z,λH' s=>⟨b,rfl,q H' s⟩⟩)
def FR{ma mk md:ME}{o e f:Expr}{ap cp:Pos}(g:Gf X T k cal)(ha:PE X o (tE X.K cal ma))(hk:PE X e (tE X.K cal mk))(hd:PE X f (tE X.K cal md))(hb:p9 o=true)(hl:(ap.endLine==cp.line)=true)(h1:ah e=true)(h2:ah f=true) :
  PE X (.Call (.Attribute o "get" ap) [e,f] [] cp) (tE X.K cal (.dget ma mk md)):=by
 have hu:X.A.units+1<cLine:=by have:=g.units;omega
 have J:starEach [e,f] X.env=[(false,eval e X.env),(false,eval f X.env)]:=by rw[a_ h1,a_ h2];rfl
 have m:M2 X o "get" ap e f cp:=by
  refine⟨base_of hb,?_,hl,?_⟩
  .rw[J];rfl
  .rw[J];rfl
 refine(zo hu ha hk hd m).imp λσ H Q q=>?_
 refine aB λZq kq=>?_
 obtain⟨B,E,O,W,v,st,U,q⟩:=q;rw[ev]at U;simp only[ft,oe]at U;obtain⟨x,U,y,e2,z,e3,Y,e4,sz,e5,e6⟩:=U;refine kq ?_;cases x<;>try (cases e4;done)
 refine⟨B,E,O,W,_,st,U,λux H1 Z g1=>?_⟩;obtain⟨a,rfl,hH⟩:=g1.1.dI;refine⟨a,rfl,re hH,B,E,O,W,_,st.mono Z,e2,λuy H2 s2 g2=>⟨B,E,O,W,z,st.mono (Z.trans s2),e3,λuz H3 s3 g3=>?_⟩⟩;refine⟨_,rl e4 (ai.rdD s3 (ai.rdD s2 hH)) (g2.1.mono s3),?_⟩;rw[vt e5 g3.1];have e7:(Y.map Sc.v).getD sz.v=(Y.getD sz).v:=by cases Y<;>rfl
 rw[e7];refine q _ H3 (Z.trans (s2.trans s3)) ?_;rw[<- e6];exact .of (vq _ _ _)
def Iy(g:Gf X T k cal)(Z:PE X o (tE X.K cal ma))(hk:PE X i (tE X.K cal mk))(hs:b_ i=true):PE X (.Subscript o i pos) (tE X.K cal (.dat ma mk)):=by
 have hu:X.A.units+1<cLine:=by have:=g.units;omega
 refine(v5 hu Z hk (by cases i<;>first|(intro _ _;rfl)|(simp[b_]at hs))).imp λσ H Q q=>?_
 refine aB λZq kq=>?_
 obtain⟨B,E,O,W,v,st,z,q⟩:=q;rw[ev]at z;simp[ft,oe]at z;obtain⟨x,z,y,e2,oo,J,sz,rfl,e6⟩:=z;refine kq ?_;cases x<;>try (cases J;done)
 refine⟨B,E,O,W,_,st,z,λux H1 U g1=>?_⟩;obtain⟨a,rfl,hH⟩:=g1.1.dI;refine⟨B,E,O,W,_,st.mono U,e2,λuy H2 Y g2=>?_⟩;refine⟨a,_,rfl,rl J (ai.rdD Y hH) g2.1,q _ H2 (U.trans Y) ?_⟩;rw[<- e6];exact .of (vq _ _ _)
end
mutual
theorem av{T:Tab}{k:Nat}{cal:Cal}:∀(me:ME) {X:Cx}{e:Expr},Gf X T k cal->chk T me X.N X.env.scope e=true->PE X e (tE X.K cal me)/\PT X e (tT X.K cal me)
 | .var i,X,e,g,h=>by
  replace h:=ak h
  obtain⟨x,w,h⟩:=h;obtain rfl:=eQ w;exact⟨DX h,bF (DX h) rfl⟩
 | .bor i,X,e,g,h=>by
  replace h:=ak h
  obtain⟨x,w,h⟩:=h;obtain rfl:=eQ w;exact⟨DY h,bF (DY h) rfl⟩
 | .cst v,X,e,g,h=>by
  replace h:=ak h
  obtain⟨x,w,h⟩:=h;obtain rfl:=zY w;exact⟨DZ h,bF (DZ h) rfl⟩
 | .glob x v,X,e,g,h=>by
  replace h:=ak h
  obtain⟨y,w,h⟩:=h;obtain rfl:=eQ w;exact⟨Ai g h,bF (Ai g h) rfl⟩
 | .bin op a b,X,e,g,h=>by
  replace h:=ak h
  obtain⟨⟨l,o,r,pos⟩,w,h⟩:=h;obtain rfl:=qZ w;simp only[gQ,Kv]at h;obtain⟨⟨rfl,h1⟩,h2⟩:=h;have p:=Ij (op:=op) (pos:=pos) (av a g h1).1 (av b g h2).1;exact⟨p,bF p rfl⟩
 | .neg _,X,e,g,h=>absurd (show false=true from h) mu
 | .not a,X,e,g,h=>by
  replace h:=ak h
  obtain⟨⟨o,x,pos⟩,w,h⟩:=h;obtain rfl:=Fb w
  replace h:=gx.mp h
  obtain⟨h2,h⟩:=h;obtain rfl:=eq_of_beq h2;exact⟨Ik (av a g h).1,Il (av a g h).2⟩
 | .and a b,X,e,g,h=>by
  replace h:=ak h
  obtain⟨⟨o,vs,pos⟩,w,h⟩:=h;obtain rfl:=zZ w
  replace h:=gx.mp h
  obtain⟨h2,h⟩:=h;obtain rfl:=eq_of_beq h2;rcases ww h with⟨x,y,rfl,h1,h2⟩|⟨x,y,z,r,rfl,h1,h2⟩
  .exact⟨D0 (av a g h1).1 (yO (av b g h2).1),D3 (av a g h1).2 (BZ (av b g h2).2)⟩
  .exact⟨D0 (av a g h1).1 (av b g h2).1,D3 (av a g h1).2 (D1 (av b g h2).2)⟩
 | .or a b,X,e,g,h=>by
  replace h:=ak h
  obtain⟨⟨o,vs,pos⟩,w,h⟩:=h;obtain rfl:=zZ w
  replace h:=gx.mp h
  obtain⟨h2,h⟩:=h;obtain rfl:=eq_of_beq h2;rcases ww h with⟨x,y,rfl,h1,h2⟩|⟨x,y,z,r,rfl,h1,h2⟩
  .exact⟨Im (av a g h1).1 (yO (av b g h2).1),Io (av a g h1).2 (Em (av b g h2).2)⟩
  .exact⟨Im (av a g h1).1 (av b g h2).1,Io (av a g h1).2 (D1 (av b g h2).2)⟩
 | .ite c a b,X,e,g,h=>by
  replace h:=ak h
  obtain⟨q,w,h⟩:=h;obtain rfl:=Fc w;simp only[gQ,KD]at h;obtain⟨⟨⟨⟨h1,h2⟩,J⟩,h4⟩,h5⟩:=h;exact⟨Ip (av c g h1).2 (av a g h2).1 (av b g J).1 h4 h5,Iq (av c g h1).2 (av a g h2).2 (av b g J).2⟩
 | .cmp op a b,X,e,g,h=>by
  replace h:=ak h
  obtain⟨⟨l,o,r⟩,w,h⟩:=h;obtain⟨pos,rfl⟩:=wu w;simp only[gQ,Kv,KD]at h;obtain⟨⟨⟨rfl,h1⟩,h2⟩,J⟩:=h;exact Ir g (av a g h1).1 (av b g h2).1 J
 | .chain _ _ _ _ _,X,e,g,h=>absurd (show false=true from h) mu
 | .tup es,X,e,g,h=>by
  replace h:=ak h
  obtain⟨q,w,h⟩:=h;obtain rfl:=vb w;obtain⟨h1,h2⟩:=gx.mp h;have p:=Iu (j:=q.2.1) (pos:=q.2.2) (sounds es g h1) h2;exact⟨p,bF p rfl⟩
 | .lst es,X,e,g,h=>by
  replace h:=ak h
  obtain⟨q,w,h⟩:=h;obtain rfl:=q8 w
  replace h:=gx.mp h
  have p:=λ(pos:Pos)=>dP (λW v hv=>by
   rw[ev,ft]at hv;obtain⟨vs,_,hv⟩:=hv;split at hv
   .cases hv;exact⟨_,rfl⟩
   .cases hv) (D4 (pos:=pos) (sounds es g h.1) h.2)
  exact⟨p _,bF (p _) rfl⟩
 | .idx a i,X,e,g,h=>by
  replace h:=ak h
  obtain⟨q,w,h⟩:=h;obtain rfl:=nT w;simp only[gQ]at h;have p:=Iv (pos:=q.2.2) (av a g h.1.1).1 (av i g h.1.2).1 h.2;exact⟨p,bF p rfl⟩
 | .slice a lo hi,X,e,g,h=>by
  replace h:=ak h
  obtain⟨⟨v,l,u⟩,w,h⟩:=h;obtain⟨p2,pos,rfl⟩:=CF w;simp only[gQ]at h;obtain⟨⟨h1,h2⟩,J⟩:=h;have bd:∀{b:ME}{o:Option Expr},(∀e,chk T b X.N X.env.scope e=true->PE X e (tE X.K cal b))->q_ (λe=>chk T b X.N X.env.scope e) (j3 b) o=true->PO X o (tB1 X.K cal b):=λ{b o} hb h2=>by
   cases o with
   |none=>exact FH h2
   |some l =>
    simp only[q_,gQ,KD]at h2;exact FI (hb l h2.1) h2.2
  have p:=C3 (p2:=p2) (pos:=pos) (av a g h1).1 (bd (λe he=>(av lo g he).1) h2) (bd (λe he=>(av hi g he).1) J);exact⟨p,bF p rfl⟩
 | .blt b es,X,e,g,h=>by
  replace h:=ak h
  obtain⟨⟨x,args⟩,w,h⟩:=h;obtain⟨p,pos,rfl⟩:=fX w;simp only[gQ,Kv]at h;obtain⟨⟨hx,hg⟩,ha⟩:=h;have q:=(tL (p:=p) (pos:=pos) g hx hg ha (λxs U=>⟨sounds es g U,bK U⟩) (λm x hm hx=>match es,hm with|[m'],rfl=>(av m' g (ca hx).1.1).1) (λa b x x' hm hx=>match es,hm with|[m1,m2],rfl=>⟨(av m1 g (ca hx).1.1).1,(av m2 g (ca (ca hx).2).1.1).1⟩)).2;exact⟨q,bF q rfl⟩
 | .call f es,X,e,g,h=>by
  replace h:=ak h
  obtain⟨⟨x,args⟩,w,h⟩:=h;obtain⟨p,pos,rfl⟩:=fX w;simp only[gQ,Kv]at h;obtain⟨⟨⟨h1,h2⟩,J⟩,h4⟩:=h;obtain⟨hs,hl⟩:=bK h4;have q:=FJ (p:=p) (pos:=pos) g h1 h2 J (soundA es g h4) hs hl;exact⟨q,bF q rfl⟩
 | .callD _ _ _,X,e,g,h=>absurd (show false=true from h) mu
 | .disp kvs m,X,e,g,h=>by
  obtain⟨q,e1,h⟩:=ak (show onQ (z_ e) (λq=>s_ kvs q.1 q.2.1&&chk T m X.N X.env.scope q.2.2&&b_ q.2.2&&decide (kvs.length<=15)&&!kvs.isEmpty)=true from h);obtain⟨ks,vs,a⟩:=q;obtain⟨p,pos,rfl⟩:=Aa e1;obtain⟨a0,h5⟩:=gx.mp h;obtain⟨a1,h4⟩:=gx.mp a0;obtain⟨a2,J⟩:=gx.mp a1;obtain⟨h1,h2⟩:=gx.mp a2;have q:PE X (.Subscript (.Dict ks vs p) a pos) (tE X.K cal (.disp kvs m)):=FO g h1 (K2 h4) (by simpa using h5) (av m g h2).1 J;exact⟨q,bF q rfl⟩
 | .lenP i,X,e,g,h=>by
  replace h:=ak h
  obtain⟨⟨x,y⟩,w,h⟩:=h;obtain⟨p,yp,pos,rfl⟩:=CH w;simp only[gQ,Kv]at h;obtain⟨⟨rfl,h2⟩,J⟩:=h;have q:PE X (.Call (.Name ("len":Str) p) [.Name y yp] [] pos) (tE X.K cal (.lenP i)):=FP g h2 J;exact⟨q,bF q rfl⟩
 | .dIn neg mk ma,X,e,g,h=>by
  replace h:=ak h
  obtain⟨⟨l,o,r⟩,w,h⟩:=h;obtain⟨pos,rfl⟩:=wu w;simp only[gQ,Kv,KD]at h;obtain⟨⟨⟨rfl,h1⟩,h2⟩,J⟩:=h;exact Ix g (av mk g h1).1 (av ma g h2).1 J
 | .dat ma mk,X,e,g,h=>by
  replace h:=ak h
  obtain⟨q,w,h⟩:=h;obtain rfl:=nT w;simp only[gQ]at h;have p:=Iy (pos:=q.2.2) g (av ma g h.1.1).1 (av mk g h.1.2).1 h.2;exact⟨p,bF p rfl⟩
 | .dget ma mk md,X,e,g,h=>by
  replace h:=ak h
  obtain⟨⟨o,m,ap,args,cp⟩,w,h⟩:=h;obtain rfl:=vc w
  replace h:=ak h
  obtain⟨⟨x,y⟩,w,h⟩:=h;obtain rfl:=mS w;simp only[gQ,Kv]at h;obtain⟨⟨⟨⟨⟨⟨⟨rfl,h1⟩,h2⟩,J⟩,h4⟩,h5⟩,h6⟩,h7⟩:=h;have p:=FR (ap:=ap) (cp:=cp) g (av ma g J).1 (av mk g h4).1 (av md g h5).1 h1 (by rw[h2];simp) h6 h7;exact⟨p,bF p rfl⟩
 | .comp k' src js cond elt,X,e,g,h=>by
  replace h:=lD h
  obtain⟨e,x,px,it,ifs,scope,pos,rfl,h⟩:=h;simp only[gQ,KD]at h;obtain⟨⟨⟨⟨h1,h2⟩,J⟩,h4⟩,h5⟩:=h;have hw:=lJ (tg:=.Name x px) (λz=>by cases z) g h2 (λxs U=>⟨sounds src g U,bK U⟩) (λm x hm hx=>match src,hm with|[m'],rfl=>(av m' g (ca hx).1.1).1);have q:=dP tK (vm (pos:=pos) g h1 hw.1 hw.2 (λY Z C fp=>rC J λc hc=>(av cond (g.blk x (dO X.N js) scope Y Z C fp) hc).2) (λY Z C fp=>(av elt (g.blk x (dO X.N js) scope Y Z C fp) h4).1) h5);exact⟨q,bF q rfl⟩
theorem sounds{T:Tab}{k:Nat}{cal:Cal}:∀(ms:List ME) {X:Cx}{es:List Expr},Gf X T k cal->chks T ms X.N X.env.scope es=true->PA X es (tEs X.K cal ms)
 | [],X,es,g,h=>by
  cases es with
  |nil=>exact C2
  |cons _ _=>cases h
 |m::ms,X,es,g,h=>by
  cases es with
  |nil=>cases h
  |cons e es =>
   replace h:=ca h
   exact Aq (av m g h.1.1).1 (sounds ms g h.2) h.1.2
theorem soundA{T:Tab}{k:Nat}{cal:Cal}:∀(ms:List ME) {X:Cx}{es:List Expr},Gf X T k cal->chks T ms X.N X.env.scope es=true->PA X es (tAs X.K cal ms)
 | [],X,es,g,h=>by
  cases es with
  |nil=>exact Ar
  |cons _ _=>cases h
 |m::ms,X,es,g,h=>by
  cases es with
  |nil=>cases h
  |cons e es =>
   replace h:=ca h
   have hs:=soundA ms g h.2;cases z:aN m with
   |false=>exact x0 z (av m g h.1.1).1 hs h.1.2
   |true =>
    obtain⟨i,rfl⟩:=nV z;obtain⟨x,p,rfl,h1⟩:=kI h.1.1;exact At h1 hs
end
def FS(g:Gf X T k cal)(h:chk T me X.N X.env.scope e=true)(hf:i7 me=true):PE X e (tF X.K cal me):=by
 cases me with
 |lst es =>
  replace h:=ak h
  obtain⟨q,w,h⟩:=h;obtain rfl:=q8 w
  replace h:=gx.mp h
  exact D4 (sounds es g h.1) h.2
 |blt b es =>
  replace h:=ak h
  obtain⟨⟨x,args⟩,w,h⟩:=h;obtain⟨p,pos,rfl⟩:=fX w;simp[gQ,Kv]at h;obtain⟨⟨hx,hg⟩,ha⟩:=h;exact(tL (p:=p) (pos:=pos) g hx hg ha (λxs J=>⟨sounds es g J,bK J⟩) (λm x Z hx=>match es,Z with|[m'],rfl=>(av m' g (ca hx).1.1).1) (λa b x x' Z hx=>match es,Z with|[m1,m2],rfl=>⟨(av m1 g (ca hx).1.1).1,(av m2 g (ca (ca hx).2).1.1).1⟩)).1 hf
 |comp k' src js cond elt =>
  replace h:=lD h
  obtain⟨e,x,px,it,ifs,scope,pos,rfl,h⟩:=h;simp only[gQ,KD]at h;obtain⟨⟨⟨⟨h1,h2⟩,h3⟩,h4⟩,h5⟩:=h;have hw:=lJ (tg:=.Name x px) (λz=>by cases z) g h2 (λxs J=>⟨sounds src g J,bK J⟩) (λm x Z hx=>match src,Z with|[m'],rfl=>(av m' g (ca hx).1.1).1);exact vm g h1 hw.1 hw.2 (λU Y C fp=>rC h3 λc hc=>(av cond (g.blk x _ scope U Y C fp) hc).2) (λU Y C fp=>(av elt (g.blk x _ scope U Y C fp) h4).1) h5
 | _=>cases hf
noncomputable def Iz:MV->Bool
 | .brw _=>true
 | .brwD _=>true
 | _=>false
def wL(h1:i6 m=true)(h2:Iz m=true):False:=by cases m<;>first|(cases h2;done)|(cases h1;done)
structure bo(B:Hp)(O O':List Addr)(W l:Rho)(σ F:St):Prop where
 stay:∀a,B a≠none->a∈O->a∈O'
 new:∀a∈O',a∈O\/B a=none
 brw:∀(i:Nat) (m:MV),Iz m=true->l[i]?=some (some m)->W[i]?=some (some m)/\F[i]?=σ[i]?
 len:l.length=W.length
 mutK:∀(i:Nat) (d':DD),l[i]?=some (some (.mutD d'))->(∃d,W[i]?=some (some (.mutD d)))/\F[i]?=σ[i]?
def bo.refl :bo B O O W W σ σ:=⟨λ_ _ h=>h,λ_ h=>.inl h,λ_ _ _ h=>⟨h,rfl⟩,rfl,λ_ d' h=>⟨⟨d',h⟩,rfl⟩⟩
theorem bo.trans(a:bo B O O1 W z σ J)(b:bo B O1 O2 z U J Y):bo B O O2 W U σ Y where
 stay:=λx h1 h2=>b.stay x h1 (a.stay x h1 h2)
 new:=λx h=>(b.new x h).elim (a.new x) .inr
 brw:=λi xs hm h=>by
  obtain⟨h1,Z⟩:=b.brw i xs hm h;obtain⟨h2,e2⟩:=a.brw i xs hm h1;exact⟨h2,Z.trans e2⟩
 len:=b.len.trans a.len
 mutK:=λi d' h=>by
  obtain⟨⟨d1,h1⟩,Z⟩:=b.mutK i d' h;obtain⟨h2,e2⟩:=a.mutK i d1 h1;exact⟨h2,Z.trans e2⟩
def hV(K:N0)(B:Hp)(E O:List Addr)(W:Rho)(σ:St)(D:Eh):R->Prop
 | .next l=>∀F H' z,aG K B E z H' l F->bo B O z W l σ F->D.nx F H'
 | .brk l=>∀F H' z,aG K B E z H' l F->bo B O z W l σ F->D.bk F H'
 | .cont l=>∀F H' z,aG K B E z H' l F->bo B O z W l σ F->D.ct F H'
 | .ret v=>∀u H',ai B H'->Rep K (aw H' E) v u->D.rt u H'
 | .retM v l=>∀u F H' z,aG K B E z H' l F->bo B O z W l σ F->Rep K (aw H' z) v u->D.rt u H'
 | .retF xs=>∀p us H',ai B H'->B p=none->H' p=some (.lst us)->Reps K (aw H' (p::E)) xs us->D.rt (.ref p) H'
 | .bad=>False
theorem hV.trans{K:N0}(h:hV K B E O W σ D r)(k:bo B O Y W l σ F):hV K B E Y l F D r:=by
 cases r<;>first|exact λz H2 J st U=>h z H2 J st (k.trans U)|exact h|exact λu z H2 J st U=>h u z H2 J st (k.trans U)
noncomputable def tS(K:N0)(cal:Cal)(m:MS):TS:=λD σ H=>∃B E O W,aG K B E O H W σ/\hV K B E O W σ D (ex cal m W)
noncomputable def tSs(K:N0)(cal:Cal)(ms:List MS):TS:=λD σ H=>∃B E O W,aG K B E O H W σ/\hV K B E O W σ D (exs cal ms W)
section
variable{K:N0}{B H H':Hp}{E O:List Addr}{W:Rho}{σ:St}
def aj(h:i<W.length):(put W i m)[i]?=some (some m):=by unfold put;exact LK h
def ag(h:i≠j):(put W i m)[j]?=W[j]?:=by unfold put;exact KU h
def put_len :(put W i m).length=W.length:=by unfold put;exact MW
def aG.store(st:aG K B E O H W σ)(hi:i<σ.length)(r:Rep K (aw H O) v u):aG K B E O H (put W i (.val v)) (σ.set i (some u))/\bo B O O W (put W i (.val v)) σ (σ.set i (some u)):=by
 have J:i<W.length:=by rw[st.len];exact hi
 refine⟨⟨st.keep,st.here,st.sub,st.old,by rw[put_len,MW];exact st.len,λj m e=>?_,λa b xs ys ad ao Y Z o1 o2 e3 e4=>?_
  ⟩,⟨λ_ _ h=>h,λ_ h=>.inl h,λj xs aO e=>?_,put_len
  ,λj d' e=>?_
  ⟩⟩
 .by_cases U:i=j
  .subst U;rw[aj J]at e;cases e;exact⟨u,LK hi,r⟩
  .rw[ag U]at e;obtain⟨w,Y,q⟩:=st.slot j m e;exact⟨w,by rw[KU U];exact Y,q⟩
 .have h1:i≠a:=λz=>by subst z;rw[aj J]at Y;cases Y;cases o1
  have h2:i≠b:=λz=>by subst z;rw[aj J]at Z;cases Z;cases o2
  rw[ag h1]at Y;rw[ag h2]at Z;rw[KU h1]at e3;rw[KU h2]at e4;exact st.apart a b xs ys ad ao Y Z o1 o2 e3 e4
 .have U:i≠j:=λz=>by subst z;rw[aj J]at e;cases e;cases aO
  rw[ag U]at e;exact⟨e,KU U⟩
 .have U:i≠j:=λz=>by subst z;rw[aj J]at e;cases e
  rw[ag U]at e;exact⟨⟨d',e⟩,KU U⟩
def aG.storeM(st:aG K B E O H W σ)(hi:i<σ.length)(s:ai H H')(hp:H p=none)(e:H' p≠none)(hm:i6 mm=true)
  (a8:∀d,mm≠.mutD d)
  (r:B p=none->fz K B (p::O) H' mm (.ref p))
  :
  aG K B E (p::O) H' (put W i mm) (σ.set i (some (.ref p)))/\bo B O (p::O) W (put W i mm) σ (σ.set i (some (.ref p))):=by
 have a1:i<W.length:=by rw[st.len];exact hi
 have a4:=st.keep.free hp;have ao:ai (aw H O) (aw H' (p::O)):=bU s λb Z=>by
  rcases wh.mp Z with rfl|Z
  .exact .inr hp
  .exact .inl Z
 refine⟨⟨st.keep.trans s,λa J=>?_,λa J=>Lg _ (st.sub a J),st.old,by rw[put_len,MW];exact st.len,λj m U=>?_,λa b xs ys ad a5 e1 Y o1 o2 e3 e4=>?_
  ⟩,⟨λ_ _ h=>Lg _ h,λa J=>?_,λj xs a9 U=>?_,put_len
  ,λj d' U=>?_
  ⟩⟩
 .rcases wh.mp J with rfl|J
  .exact e
  .exact λz=>st.here a J (s.free z)
 .by_cases hj:i=j
  .subst hj;rw[aj a1]at U;cases U;exact⟨_,LK hi,r a4⟩
  .rw[ag hj]at U;obtain⟨w,e1,q⟩:=st.slot j m U;refine⟨w,by rw[KU hj];exact e1,?_⟩;cases m with
   |val v=>exact Rep.mono ao _ q
   |own ys=>obtain⟨a,ws,Y,h1,h2,h3,h4⟩:=q;exact⟨a,ws,Y,s _ _ h1,Reps.mono ao _ h2,Lg _ h3,h4⟩
   |brw ys=>obtain⟨a,ws,Y,h1,h2⟩:=q;exact⟨a,ws,Y,h1,Reps.mono ao _ h2⟩
   |brwD ys=>exact q
   | _=>obtain⟨a,Y,h1,h3,h4⟩:=q;exact⟨a,Y,h1.move (s _) ao,Lg _ h3,h4⟩
 .have other:∀(j:Nat) zs ad,W[j]?=some (some zs)->i6 zs=true->σ[j]?=some (some (.ref ad))->ad≠p:=λj zs ad h1 ho h2 z=>by
   obtain⟨w,e1,q⟩:=st.slot j _ h1;rw[h2]at e1;cases e1;cases zs with
   |own zs =>
    obtain⟨a,ws,Y,h1,_⟩:=q;cases Y;rw[z,hp]at h1;cases h1
   |ownD zs|mutD zs =>
    obtain⟨a,Y,h1,_⟩:=q;cases Y;obtain⟨o,h1⟩:=h1.here;rw[z,hp]at h1;cases h1
   | _=>cases ho
  by_cases J:i=a
  .subst J;have Z:=a5;rw[LK hi]at e3;rw[ag Z]at Y;rw[KU Z]at e4;cases e3;exact other b ys _ Y o2 e4 rfl
  .by_cases Z:i=b
   .subst Z;rw[LK hi]at e4;rw[ag J]at e1;rw[KU J]at e3;cases e4;exact other a xs _ e1 o1 e3 rfl
   .rw[ag J]at e1;rw[ag Z]at Y;rw[KU J]at e3;rw[KU Z]at e4;exact st.apart a b _ _ ad a5 e1 Y o1 o2 e3 e4
 .rcases wh.mp J with rfl|J
  .exact .inr a4
  .exact .inl J
 .have hj:i≠j:=λz=>by subst z;rw[aj a1]at U;cases U;exact wL hm a9
  rw[ag hj]at U;exact⟨U,KU hj⟩
 .have hj:i≠j:=λz=>by subst z;rw[aj a1]at U;cases U;exact a8 d' rfl
  rw[ag hj]at U;exact⟨⟨d',U⟩,KU hj⟩
def aG.storeOwn(st:aG K B E O H W σ)(hi:i<σ.length)(s:ai H H')(J:H p=none)(e:H' p=some (.lst us))(r:Reps K (aw H' (p::O)) xs us) :
  aG K B E (p::O) H' (put W i (.own xs)) (σ.set i (some (.ref p)))/\bo B O (p::O) W (put W i (.own xs)) σ (σ.set i (some (.ref p))):=
 st.storeM hi s J (by rw[e];simp) rfl (λ_ z=>by cases z) λU=>⟨p,us,rfl,e,r,Ly,U⟩
def aG.changeM(st:aG K B E O H W σ)(e:W[i]?=some (some m0))(o0:i6 m0=true)(o1:i6 m1=true)
  (om:∀d',m1=.mutD d'->∃d,m0=.mutD d)
  (es:σ[i]?=some (some (.ref a))) (h3:a∈O) (h4:B a=none) (r:aw (upd H a ob) O=aw H O->fz K B O (upd H a ob) m1 (.ref a))
  :
  aG K B E O (upd H a ob) (put W i m1) σ/\bo B O O W (put W i m1) σ σ:=by
 have ao:=(Ku.mp e).1;have Y:aw (upd H a ob) O=aw H O:=i9 h3;have other:∀j zs ad,i≠j->W[j]?=some (some zs)->i6 zs=true->σ[j]?=some (some (.ref ad))->ad≠a:=λj zs ad U Z o2 q2 z=>by
  subst z;exact st.apart i j m0 zs ad U e Z o0 o2 es q2
 refine⟨⟨λb u eb=>?_,λb hb=>?_,st.sub,st.old,by rw[put_len];exact st.len,λj m J=>?_,λc d ps qs ad a5 e1 e2 p1 p2 e3 e4=>?_
  ⟩,⟨λ_ _ h=>h,λ_ h=>.inl h,λj zs a8 J=>?_,put_len
  ,λj d' J=>?_
  ⟩⟩
 .rw[bb (cI eb h4)];exact st.keep b u eb
 .unfold upd;split
  .simp
  .exact st.here b hb
 .by_cases U:i=j
  .subst U;rw[aj ao]at J;cases J;exact⟨_,es,r Y⟩
  .rw[ag U]at J;obtain⟨w,ew,q⟩:=st.slot j m J;refine⟨w,ew,?_⟩;cases m with
   |val v=>show Rep K (aw (upd H a ob) O) v w;rw[Y];exact q
   |own zs =>
    obtain⟨ad,ws,rfl,Z,q2,q3,q4⟩:=q;refine⟨ad,ws,rfl,?_,by rw[Y];exact q2,q3,q4⟩;rw[bb (other j (.own zs) ad U J rfl ew)];exact Z
   |ownD zs =>
    obtain⟨ad,rfl,Z,q3,q4⟩:=q;refine⟨ad,rfl,Z.move (λo eo=>?_) (by rw[Y];exact ai.refl _),q3,q4⟩;rw[bb (other j (.ownD zs) ad U J rfl ew)];exact eo
   |mutD zs =>
    obtain⟨ad,rfl,Z,q3,q4⟩:=q;refine⟨ad,rfl,Z.move (λo eo=>?_) (by rw[Y];exact ai.refl _),q3,q4⟩;rw[bb (other j (.mutD zs) ad U J rfl ew)];exact eo
   |brwD zs=>exact q
   |brw zs=>obtain⟨ad,ws,rfl,Z,q2⟩:=q;exact⟨ad,ws,rfl,Z,by rw[Y];exact q2⟩
 .have h1:∀j zs,(put W i m1)[j]?=some (some zs)->i6 zs=true->∃zs,W[j]?=some (some zs)/\i6 zs=true:=λj zs q oz=>by
   by_cases U:i=j
   .subst U;exact⟨m0,e,o0⟩
   .rw[ag U]at q;exact⟨zs,q,oz⟩
  obtain⟨Z,e1,p1⟩:=h1 c ps e1 p1;obtain⟨q2,e2,p2⟩:=h1 d qs e2 p2;exact st.apart c d Z q2 ad a5 e1 e2 p1 p2 e3 e4
 .have U:i≠j:=λz=>by subst z;rw[aj ao]at J;cases J;exact wL o1 a8
  rw[ag U]at J;exact⟨J,rfl⟩
 .by_cases U:i=j
  .subst U;rw[aj ao]at J;cases J;obtain⟨d,rfl⟩:=om d' rfl;exact⟨⟨d,e⟩,rfl⟩
  .rw[ag U]at J;exact⟨⟨d',J⟩,rfl⟩
def aG.change(st:aG K B E O H W σ)(e:W[i]?=some (some (.own xs)))(es:σ[i]?=some (some (.ref a)))(r:Reps K (aw H O) ys us) :
  aG K B E O (upd H a (.lst us)) (put W i (.own ys)) σ/\bo B O O W (put W i (.own ys)) σ σ:=by
 refine aB λZq kq=>?_
 obtain⟨w,U,a',aO,e2,h1,h2,Y,Z⟩:=st.slot i _ e;rw[es]at U;cases U;cases e2;refine kq ?_;exact st.changeM e rfl rfl (λ_ z=>by cases z) es Y Z λJ=>⟨a,us,rfl,ax,by rw[J];exact r,Y,Z⟩
def aG.changeD(st:aG K B E O H W σ)(e:W[i]?=some (some (.ownD xs)))(es:σ[i]?=some (some (.ref a)))(hd:aw (upd H a U) O=aw H O->DAt K (upd H a U) O a ys) :
  aG K B E O (upd H a U) (put W i (.ownD ys)) σ/\bo B O O W (put W i (.ownD ys)) σ σ:=by
 refine aB λZq kq=>?_
 obtain⟨w,Y,a',e2,h1,Z,h4⟩:=st.slot i _ e;rw[es]at Y;cases Y;cases e2;refine kq ?_;exact st.changeM e rfl rfl (λ_ z=>by cases z) es Z h4 λJ=>⟨a,rfl,hd J,Z,h4⟩
def aG.changeU(st:aG K B E O H W σ)(e:W[i]?=some (some (.mutD xs)))(es:σ[i]?=some (some (.ref a)))(hd:aw (upd H a J) O=aw H O->DAt K (upd H a J) O a ys) :
  aG K B E O (upd H a J) (put W i (.mutD ys)) σ/\bo B O O W (put W i (.mutD ys)) σ σ:=by
 refine aB λZq kq=>?_
 obtain⟨w,U,a',e2,h1,Y,Z⟩:=st.slot i _ e;rw[es]at U;cases U;cases e2;refine kq ?_;exact st.changeM e rfl rfl (λ_ _=>⟨_,rfl⟩) es Y Z λz=>⟨a,rfl,hd z,Y,Z⟩
end
section
open AutoSeq1 (wpAny_loadPart')
open MeetsSeq MeetsSeq2 MeetsSeq3 SeqRoads2 AutoSeq1
def rD(l)(items)(n)(b)(z)(n2)(J)(U)(aO:¬(!items.isEmpty&&Builtin.List.listTooLong (items.size+z.size))=true)(Y:items.size<=sizeLine)(a0:items.size+z.size<=sizeLine+1) :
  Meets (Builtin.«list.extend» ⟨[.ref l,.ref b],[]⟩) (λ_ R s=>s.heap.get? l=some { cls:=.type "list",dict:=none,data:=.seq items n,slots:=#[] }/\s.heap.get? b=some { cls:=.type "tuple",dict:=J,data:=.seq z n2,slots:=U }/\R (.ok (.ret Value.none)) { s with heap:=s.heap.update l (Obj.mapSeq λx=>x++z),toks:=s.toks }):=
 .of_wp λprog w A R s h=>by
  obtain⟨hp,g,d,tk,os⟩:=s;obtain⟨Z,hb,h⟩:=h;have f1:=AutoSeq1.idx_int;have f2:=MT;have f3:=AutoSeq1.sub_list_list;have f4:=AutoSeq1.sub_tuple_list;have f5:=AutoSeq1.sub_list_tuple;
  wp_walk using (wpAny_updateSeq Z rfl (hz:=Y)),wpAny_loadPart' Z,wpAny_loadPart' hb;exact⟨_,rfl,h⟩
def rE(l)(items)(n)(b)(z)(n2)(J)(U)(aO:¬(!items.isEmpty&&Builtin.List.listTooLong (items.size+z.size))=true)(Y:items.size<=sizeLine)(a0:items.size+z.size<=sizeLine+1) :
  Meets (Builtin.«list.extend» ⟨[.ref l,.ref b],[]⟩) (λ_ R s=>s.heap.get? l=some { cls:=.type "list",dict:=none,data:=.seq items n,slots:=#[] }/\s.heap.get? b=some { cls:=.type "list",dict:=J,data:=.seq z n2,slots:=U }/\R (.ok (.ret Value.none)) { s with heap:=s.heap.update l (Obj.mapSeq λx=>x++z),toks:=s.toks }):=
 .of_wp λprog w A R s h=>by
  obtain⟨hp,g,d,tk,os⟩:=s;obtain⟨Z,hb,h⟩:=h;have f1:=AutoSeq1.idx_int;have f2:=MT;have f3:=AutoSeq1.sub_list_list;have f4:=AutoSeq1.sub_tuple_list;have f5:=AutoSeq1.sub_list_tuple;
  wp_walk using (wpAny_updateSeq Z rfl (hz:=Y)),wpAny_loadPart' Z,wpAny_loadPart' hb;exact⟨_,rfl,h⟩
end
section
variable{X:Cx}{T:Tab}{k:Nat}{cal:Cal}
def vv:MtM X "list.extend" (λx vs H Q=>∃l b xs zs,x=.ref l/\vs=[.ref b]/\H l=some (.lst xs)/\(SqL X.K H b zs\/SqT X.K H b zs)/\xs.length+zs.length<=sizeLine/\Q .non (upd H l (.lst (xs++zs)))):=by
 intro pins s σ H x vs v us Q I rx rv h;refine aB λZq kq=>?_
 obtain⟨l,b,xs,zs,rfl,rfl,hH,hB,hz,q⟩:=h;cases rx;obtain⟨u,rfl,ru⟩:=rv.one;cases ru;obtain⟨z,its,n,r,hl,e⟩:=I.lstM hH;have fin:∀J,aI zs J->EP X pins σ Q .none { s with heap:=s.heap.update l (Obj.mapSeq λx=>x++J.toArray),toks:=s.toks }:=λJ Y =>
  ⟨.non,_,I.lset (its':=its++J) hH e (by simp) (r.append Y) (by rw[tf];omega),rfl,q⟩
 refine kq ?_;rcases hB with hB|hB
 .obtain⟨J,Y,pl,z2⟩:=I.list hB;have a0:=Y.length;have Z:its.toArray.size+J.toArray.size<=sizeLine:=by rw[pb,pb];omega
  have U:¬ (!its.toArray.isEmpty&&Builtin.List.listTooLong (its.toArray.size+J.toArray.size))=true:=by
   rw[sr Z,Bool.and_false];exact mu
  obtain⟨⟨cls,dd,data,sl⟩,ho,hc,n2,hd⟩:=pl.isList;simp only at hc hd;subst hc hd;exact NI PySem.F.slot_list_extend ⟨_,e,rfl⟩ PySem.F.entry_list_extend (PySem.F.args_list_extend_2 _ _) (rE l its.toArray n b J.toArray n2 dd sl U (by rw[pb];omega) (by omega)) ⟨e,ho,fin J Y⟩
 .obtain⟨J,Y,pl,z2⟩:=I.tuple hB;have a0:=Y.length;have Z:its.toArray.size+J.toArray.size<=sizeLine:=by rw[pb,pb];omega
  have U:¬ (!its.toArray.isEmpty&&Builtin.List.listTooLong (its.toArray.size+J.toArray.size))=true:=by
   rw[sr Z,Bool.and_false];exact mu
  obtain⟨⟨cls,dd,data,sl⟩,ho,hc,n2,hd⟩:=pl;simp only at hc hd;subst hc hd;exact NI PySem.F.slot_list_extend ⟨_,e,rfl⟩ PySem.F.entry_list_extend (PySem.F.args_list_extend_2 _ _) (rD l its.toArray n b J.toArray n2 dd sl U (by rw[pb];omega) (by omega)) ⟨e,ho,fin J Y⟩
structure Df(X:Cx):Prop where
 nd:X.N.Nodup
 fn:∀x,X.fn x=true
 own:PassesOwn (model X.prog X.w) X.A X.env X.xe
 blk:(X.env.blockKind==.function)=true
def dc(h:bZ v=true)(t)(n)(env):swapsWith v t n env=pure false:=by
 cases v<;>first|rfl|(simp[bZ]at h)
def x9(d:Df X)(h:DU X.env.scope x px v=true):swapsWith v (some (.Name x px)) n X.env=pure true:=by
 obtain⟨⟨e,gs,s,p⟩,w,h⟩:=ak h;obtain rfl:=va w;show pure _=pure true;rw[d.blk,NB];exact KN pure h
def PS.imp'(h:PS X e t)(i:∀D σ H,σ.length=X.N.length->t' D σ H->t D σ H):PS X e t':=λpins s σ H D I q=>h pins s σ H D I (i D σ H I.len q)
def ltN{N:List Str}{σ:St}(h:N[i]?=some x)(z:σ.length=N.length):i<σ.length:=by rw[z];exact(Ku.mp h).1
def du{K:N0}(h:hV K B E O W σ D (eW o f)):∃v,o=some v/\hV K B E O W σ D (f v):=by
 cases o with
 |none=>exact(show False from h).elim
 |some v=>exact⟨v,rfl,h⟩
def x_{K:N0}(h:hV K B E O W σ D (zV o f)):∃v,o=some v/\hV K B E O W σ D (f v):=by
 cases o with
 |none=>exact(show False from h).elim
 |some v=>exact⟨v,rfl,h⟩
def AE{K:N0}(hi:i<σ.length)(U:aN J=false)(q:tS K cal (.set i J) D σ H):yT (tE K cal J) (jD i) D σ H:=by
 obtain⟨B,E,O,W,st,q⟩:=q;obtain⟨w,e,q⟩:=du q;refine⟨B,E,O,W,w,st,e,λu H' s g=>?_⟩;obtain⟨z,Y⟩:=(st.mono s).store hi (g.2 U);exact q _ H' O z Y
def IA(d:Df X)(hi:X.N[i]?=some x)(hx:Loc X.env.scope x)(h:PE X v (tE X.K cal z))(J:aN z=false)(hc:bZ v=true):PS X (.Assign [.Name x px] v pos) (tS X.K cal (.set i z)):=
 PS.imp' (jR d.nd hi hx h (dc hc _ _ _) (.inl (d.fn x))) λD σ H U q=>AE (ltN hi U) J q
def AF{K:N0}(hi:i<σ.length)(q:tS K cal (.setOwn i J) D σ H):yT (tF K cal J) (jD i) D σ H:=by
 obtain⟨B,E,O,W,st,q⟩:=q;obtain⟨w,e,q⟩:=du q;cases w with
 |lst xs =>
  refine⟨B,E,O,W,xs,st,e,λp us H' s U Y r=>?_⟩;obtain⟨z,Z⟩:=st.storeOwn hi s U Y r;exact q _ H' _ z Z
 | _=>exact(show False from q).elim
def IB(d:Df X)(hi:X.N[i]?=some x)(hx:Loc X.env.scope x)(h:PE X v (tF X.K cal z))(hc:bZ v=true):PS X (.Assign [.Name x px] v pos) (tS X.K cal (.setOwn i z)):=
 PS.imp' (jR d.nd hi hx h (dc hc _ _ _) (.inl (d.fn x))) λD σ H J q=>AF (ltN hi J) q
def AG(h:PE X v (tE X.K cal Y))(hn:ba X.N X.env.scope i x=true)(hb:aN Y=false)(hs:ah v=true)(z:(apos.endLine==cpos.line)=true) :
  PS X (.Expr (.Call (.Attribute (.Name x p) "append" apos) [v] [] cpos) pos) (tS X.K cal (.append i Y)):=by
 refine(qG (zg PySem.F.plainAttrs_list PySem.F.slot_list_append PySem.F.type_list_append lj (cx hn) (aR h bN (a_ hs _ _)) rfl (by rw[a_ hs];rfl) z (a_ hs _ _) rfl) rfl).imp λD σ H q=>?_
 obtain⟨B,E,O,W,st,q⟩:=q;obtain⟨w,e,q⟩:=du q;cases J:(W[i]?).join with
 |none=>rw[J]at q;exact(show False from q).elim
 |some m =>
  rw[J]at q;cases m with
  |own xs =>
   dsimp only at q;split at q
   .rename_i hl;obtain⟨u,Z,a,us,rfl,ha,rs,hO,hB⟩:=aZ st J;refine⟨_,Z,.inl ⟨rfl,us,SqL.of ha⟩,B,E,O,W,w,st,e,λu H1 s g=>⟨a,us,u,rfl,rfl,s _ _ ha,?_,?_⟩⟩
    .rw[<- rs.length];exact Kt hl (by decide)
    .obtain⟨U,k'⟩:=(st.mono s).change (aH J) Z ((Reps.mono (am s) _ rs).snoc (g.2 hb));exact q _ _ _ U k'
   .exact(show False from q).elim
  | _=>exact(show False from q).elim
def AH(h:PE X v (tE X.K cal me))(hn:ba X.N X.env.scope i x=true)(hs:ah v=true)(z:(apos.endLine==cpos.line)=true) :
  PS X (.Expr (.Call (.Attribute (.Name x p) "extend" apos) [v] [] cpos) pos) (tS X.K cal (.extend i me)):=by
 refine(qG (zg PySem.F.plainAttrs_list PySem.F.slot_list_extend PySem.F.type_list_extend vv (cx hn) (aR h bN (a_ hs _ _)) rfl (by rw[a_ hs];rfl) z (a_ hs _ _) rfl) rfl).imp λD σ H q=>?_
 refine aB λZq Y=>?_
 obtain⟨B,E,O,W,st,q⟩:=q;rw[ex]at q;obtain⟨w,e,q⟩:=du q;refine Y ?_;cases U:(W[i]?).join with
 |none=>rw[U]at q;exact(show False from q).elim
 |some m =>
  rw[U]at q;cases m with
  |own xs =>
   cases hw:bc w with
   |none=>rw[hw]at q;exact(show False from q).elim
   |some ys =>
    rw[hw]at q;dsimp only at q;split at q
    .refine aB λZq Y=>?_
     rename_i hl;obtain⟨u,eu,a,us,rfl,ha,rs,hO,hB⟩:=aZ st U;refine Y ?_;refine⟨_,eu,.inl ⟨rfl,us,SqL.of ha⟩,B,E,O,W,w,st,e,λu H1 s g=>?_⟩;obtain⟨b,ws,rfl,sq,J⟩:=g.1.seq hw;refine⟨a,b,us,ws,rfl,rfl,s _ _ ha,sq,?_,?_⟩
     .rw[<- rs.length,<- J.length];exact cM hl
     .obtain⟨Z,k'⟩:=(st.mono s).change (aH U) eu ((Reps.mono (am s) _ rs).append J);exact q _ _ _ Z k'
    .exact(show False from q).elim
  | _=>exact(show False from q).elim
def FT(d:Df X)(hi:X.N[i]?=some x)(hx:Loc X.env.scope x):PS X (.Assign [.Name x px] (.Dict [] [] dp) pos) (tS X.K cal (.newD m i)):=by
 cases m with
 |false =>
  refine PS.imp' (jR d.nd hi hx zl (dc rfl _ _ _) (.inl (d.fn x))) λD σ H Y q=>?_
  obtain⟨B,E,O,W,st,q⟩:=q;intro p U;obtain⟨J,Z⟩:=st.storeM (mm:=.ownD _) (ltN hi Y) (ay U _) U (by rw[ax];simp) rfl (λ_ z=>by cases z) λhB=>⟨p,rfl,ax,Ly,hB⟩
  exact q _ _ _ J Z
 |true =>
  refine PS.imp' (jR d.nd hi hx zm (dc rfl _ _ _) (.inl (d.fn x))) λD σ H Y q=>?_
  obtain⟨B,E,O,W,st,q⟩:=q;intro p U;obtain⟨J,Z⟩:=st.storeM (mm:=.ownD _) (ltN hi Y) (ay U _) U (by rw[ax];simp) rfl (λ_ z=>by cases z) λhB=>⟨p,rfl,ax,Ly,hB⟩
  exact q _ _ _ J Z
def FU(g0:Gf X T k cal)(hk:PE X s (tE X.K cal mk))(h:PE X v (tE X.K cal me))(hn:ba X.N X.env.scope i x=true)(hc:bZ v=true) :
  PS X (.Assign [.Subscript (.Name x p) s a2] v pos) (tS X.K cal (.dput i mk me)):=by
 have hu:X.A.units+1<cLine:=by have:=g0.units;omega
 refine(Cj hu (cx hn) hk h (by cases v<;>first|rfl|(simp[bZ]at hc))).imp λD σ H q=>?_
 obtain⟨B,E,O,W,st,q⟩:=q;rw[ex]at q;obtain⟨w,e,q⟩:=du q;obtain⟨kv,ek,q⟩:=du q;cases U:(W[i]?).join with
 |none=>rw[U]at q;exact(show False from q).elim
 |some m =>
  rw[U]at q;cases m with
  |ownD d =>
   cases hz:sc? w with
   |none=>rw[hz]at q;exact(show False from q).elim
   |some sz =>
    rw[hz]at q;dsimp only at q;cases hd:qX d kv sz with
    |none=>rw[hd]at q;exact(show False from q).elim
    |some d' =>
     rw[hd]at q;obtain⟨u,Y,a,rfl,ha,hO,hB⟩:=aZ st U;refine⟨B,E,O,W,w,st,e,λu H1 z g1=>⟨_,Y,B,E,O,W,_,st.mono z,ek,λuk H2 Z g2=>?_⟩⟩;refine⟨a,_,rfl,by rw[vt hz g1.1];exact wI hd (Z _ _ (z _ _ (ha.put1 hd))) g2.1,?_⟩;obtain⟨J,k'⟩:=((st.mono z).mono Z).changeD (ys:=d') (aH U) Y λ_=>.put2 hd ax
     exact q _ _ _ J k'
  |mutD d =>
   cases hz:sc? w with
   |none=>rw[hz]at q;exact(show False from q).elim
   |some sz =>
    rw[hz]at q;dsimp only at q;cases hd:qX d kv sz with
    |none=>rw[hd]at q;exact(show False from q).elim
    |some d' =>
     rw[hd]at q;obtain⟨u,Y,a,rfl,ha,hO,hB⟩:=aZ st U;refine⟨B,E,O,W,w,st,e,λu H1 z g1=>⟨_,Y,B,E,O,W,_,st.mono z,ek,λuk H2 Z g2=>?_⟩⟩;refine⟨a,_,rfl,by rw[vt hz g1.1];exact wI hd (Z _ _ (z _ _ (ha.put1 hd))) g2.1,?_⟩;obtain⟨J,k'⟩:=((st.mono z).mono Z).changeU (ys:=d') (aH U) Y λ_=>.put2 hd ax
     exact q _ _ _ J k'
  | _=>exact(show False from q).elim
def IC(h:PE X v (tE X.K cal J))(z:aN J=false):PS X (.Return (some v) pos) (tS X.K cal (.ret J)):=by
 refine(qH h).imp λD σ H q=>?_
 obtain⟨B,E,O,W,st,q⟩:=q;obtain⟨w,e,q⟩:=du q;exact⟨B,E,O,W,w,st,e,λu H' s g=>q u H' (st.keep.trans s) (Rep.mono (bU (ai.refl H') λb z=>.inl (st.sub b z)) _ (g.2 z))⟩
def FV(h:PE X v (tE X.K cal z))(J:aN z=false):PS X (.Return (some v) pos) (tS X.K cal (.retM z)):=by
 refine(qH h).imp λD σ H q=>?_
 obtain⟨B,E,O,W,st,q⟩:=q;obtain⟨w,e,q⟩:=du q;exact⟨B,E,O,W,w,st,e,λu H' s g=>q u σ H' O (st.mono s) .refl (g.2 J)⟩
def AI(hn:ba X.N X.env.scope i x=true):PS X (.Return (some (.Name x p)) pos) (tS X.K cal (.retOwn i)):=by
 refine(qH (cx hn)).imp λD σ H q=>?_
 obtain⟨B,E,O,W,st,q⟩:=q;rw[ex]at q;have J:=bU (ai.refl H) λb hb=>.inl (st.sub b hb)
 cases U:(W[i]?).join with
 |none=>rw[U]at q;exact(show False from q).elim
 |some m =>
  rw[U]at q;cases m with
  |val v =>
   obtain⟨u,Y,so⟩:=aZ st U;exact⟨_,Y,q _ H st.keep (Rep.mono J _ so)⟩
  |own xs =>
   obtain⟨u,Y,a,us,rfl,Z,rs,hO,hB⟩:=aZ st U;refine⟨_,Y,q _ H st.keep ?_⟩;rw[Rep];refine⟨a,us,rfl,SqL.of ?_,Reps.mono J _ rs⟩;rw[be λz=>st.old a z hB];exact Z
  |ownD kvs =>
   dsimp only at q;split at q
   .rename_i np;obtain⟨u,Y,a,rfl,Z,hO,hB⟩:=aZ st U;refine⟨_,Y,q _ H st.keep ?_⟩;rw[Rep];refine⟨a,rfl,.inl ?_,np⟩;rw[be λz=>st.old a z hB];exact Z.np np
   .exact(show False from q).elim
  | _=>exact(show False from q).elim
def J7(hc:PT X t (tT X.K cal c))(z:PSs X x (tSs X.K cal a))(J:PSs X y (tSs X.K cal b)):PS X (.If t x y pos) (tS X.K cal (.ite c a b)):=by
 refine(Hh hc z J).imp λD σ H q=>?_
 obtain⟨B,E,O,W,st,q⟩:=q;obtain⟨w,e,q⟩:=x_ q;refine⟨B,E,O,W,w,st,e,λH' s=>?_⟩;cases w<;>first|(rw[if_pos rfl]at q ⊢;exact⟨B,E,O,W,st.mono s,q⟩)|(rw[if_neg (by simp)]at q ⊢;exact⟨B,E,O,W,st.mono s,q⟩)
def FW{st:Stmt}(h1:PS X st (tS X.K cal m))(h2:PSs X ss (tSs X.K cal ms)):PSs X (st::ss) (tSs X.K cal (m::ms)):=by
 refine(yQ h1 h2).imp λD σ H q=>?_
 obtain⟨B,E,O,W,st,q⟩:=q;refine⟨B,E,O,W,st,?_⟩;rw[exs]at q;cases e:ex cal m W with
 |next l=>rw[e]at q;exact λF H' J z k=>⟨B,E,J,l,z,hV.trans q k⟩
 | _=>rw[e]at q;exact q
def ID:PSs X [] (tSs X.K cal []):=by
 refine B0.imp λD σ H q=>?_
 obtain⟨B,E,O,W,st,q⟩:=q;exact q σ H O st .refl
end
inductive cG(σ:St)(W:Rho):List Bool->List ME->List MV->List V->List Addr->List Nat->Prop where
 | nil:cG σ W [] [] [] [] [] []
 | mutd {i:Nat}{d:DD}{a:Addr}{bs:List Bool}{es:List ME}{as:List MV}{vs:List V}{ms:List Addr}{is:List Nat} (hd:g7 (W[i]?).join=some d) (hσ:σ[i]?=some (some (.ref a))) (hi:i∉is) (ha:a∉ms) (t:cG σ W bs es as vs ms is):cG σ W (true::bs) (.bor i::es) (.mutD d::as) (.ref a::vs) (a::ms) (i::is)
 | other {e:ME}{m:MV}{v:V}{bs:List Bool}{es:List ME}{as:List MV}{vs:List V}{ms:List Addr}{is:List Nat} (hm:∀d,m≠.mutD d) (t:cG σ W bs es as vs ms is):cG σ W (false::bs) (e::es) (m::as) (v::vs) ms is
def fE(h:g7 o=some d):o=some (.ownD d)\/o=some (.mutD d):=by
 match o,h with
 |some (.ownD _),rfl=>exact .inl rfl
 |some (.mutD _),rfl=>exact .inr rfl
section
variable{σ:St}{W:Rho}{bs:List Bool}{es:List ME}{as:List MV}{vs:List V}{ms:List Addr}{is:List Nat}
def cG.addr(h:cG σ W bs es as vs ms is):∀a∈ms,∃j∈is,σ[j]?=some (some (.ref a))/\∃d,g7 (W[j]?).join=some d:=by
 induction h with
 |nil=>intro a U;cases U
 |mutd hd z hi U t ih =>
  intro b J;rcases wh.mp J with rfl|J
  .exact⟨_,.head _,z,_,hd⟩
  .obtain⟨j,h1,h2⟩:=ih b J;exact⟨j,.tail _ h1,h2⟩
 |other hm t ih=>exact ih
theorem cG.put(h:cG σ W bs es as vs ms is)(hi:i∉is):cG σ (fR W i d) bs es as vs ms is:=by
 induction h with
 |nil=>exact .nil
 |mutd hd J U Z t ih =>
  rename_i j _ _ _ _ _ _ _ is;refine .mutd ?_ J U Z (ih λz=>hi (.tail _ z));have Y:i≠j:=λz=>hi (z ▸ .head _)
  have:(fR W i d)[j]?=W[j]?:=by
   unfold fR;split<;>exact KU Y
  rw[this];exact hd
 |other hm t ih=>exact .other hm (ih hi)
theorem cG.at{K:N0}(st:aG K B E O H W σ)(h:cG σ W bs es as vs ms is):∃ds,cF K O H as vs ds ms:=by
 induction h with
 |nil=>exact⟨[],.nil⟩
 |mutd hd z hi Y t ih =>
  obtain⟨ds,q⟩:=ih;rename_i i d a bs es as vs ms is;refine⟨.dI d::ds,.mutd ?_ Y q⟩;rcases fE hd with e|e
  .obtain⟨u,J,Z,U,h1,_⟩:=st.slot _ _ (aH e);rw[z]at J;cases J;cases U;exact h1
  .obtain⟨u,J,Z,U,h1,_⟩:=st.slot _ _ (aH e);rw[z]at J;cases J;cases U;exact h1
 |other hm t ih =>
  obtain⟨ds,q⟩:=ih;exact⟨ds,.other hm q⟩
theorem cG.inO{K:N0}(st:aG K B E O H W σ)(h:cG σ W bs es as vs ms is):∀a∈ms,a∈O:=λa U=>by
 obtain⟨j,_,J,d,Y⟩:=h.addr a U;rcases fE Y with e|e
 .obtain⟨u,z,Z,rfl,_,h2,_⟩:=aZ st e;rw[J]at z;cases z;exact h2
 .obtain⟨u,z,Z,rfl,_,h2,_⟩:=aZ st e;rw[J]at z;cases z;exact h2
theorem ol{K:N0} :∀{bs}{es}{as}{vs}{ms}{is}{W l}{H}{ds},cG σ W bs es as vs ms is->aG K B E O H W σ->(∀b,b∉ms->H b=H' b)->cF K O H' as vs ds ms->kG bs es ds W=some l->aG K B E O H' l σ/\bo B O O W l σ σ
 | _,_,_,_,_,_,W,l,H,ds,.nil,st,U,hm,e=>by
  cases hm;rw[kG]at e;cases e;have hh:=funext λb=>U b λz=>nomatch z
  subst hh;exact⟨st,.refl⟩
 | _,_,_,_,_,_,W,l,H,ds,.other hn t,st,U,hm,e=>by
  cases hm with
  |mutd=>exact absurd rfl (hn _)
  |other _ hm =>
   rw[kG]at e;exact ol t st U hm e
 | _,_,_,_,_,_,W,l,H,ds,.mutd (i:=i) (a:=a) hd J hi ha t,st,U,hm,e=>by
  cases hm with
  |other h0=>exact absurd rfl (h0 _)
  |mutd h1 h2 hm =>
   rename_i d' ds;rw[kG]at e;obtain⟨o,ho⟩:=h1.here;have inO:=t.inO st;have aO:=(cG.mutd hd J hi ha t).inO st a (.head _);have dd:DAt K (upd H a o) O a d':=h1.move (λu eu=>by rw[ho]at eu;cases eu;exact ax) λb u Z=>by
    have Y:b∉O:=λz=>by rw[e_ z]at Z;cases Z
    rw[be Y]at Z ⊢;have ne:b≠a:=λz=>Y (by rw[z];exact aO)
    rw[bb ne,U b λw=>(wh.mp w).elim ne λz=>Y (inO b z)];exact Z
   have key:aG K B E O (upd H a o) (fR W i d') σ/\bo B O O W (fR W i d') σ σ:=by
    rcases fE hd with q|q
    .have e1:fR W i d'=put W i (.ownD d'):=by unfold fR;rw[q];rfl
     rw[e1];exact st.changeD (aH q) J λ_=>dd
    .have e1:fR W i d'=put W i (.mutD d'):=by unfold fR;rw[q];rfl
     rw[e1];exact st.changeU (aH q) J λ_=>dd
   obtain⟨a0,k1⟩:=key;obtain⟨a1,k2⟩:=ol (t.put hi) a0 (λb Y=>by
    by_cases z:b=a
    .simp_all
    .rw[bb z];exact U b λw=>(wh.mp w).elim z Y) hm e
   exact⟨a1,k1.trans k2⟩
def wM{K:N0}(U:cG σ W bs es as vs ms is)(st:aG K B E O H W σ)(Y:∀b o,b∉ms->H b=some o->H' b=some o)(Z:cF K O H' as vs ds ms)(e:kG bs es ds W=some l):aG K B E O H' l σ/\bo B O O W l σ σ:=
 ol U (st.mono (H':=λb=>if b∈ms then H b else H' b) λb o J=>by
  by_cases z:b∈ms
  .exact(if_pos z).trans J
  .exact(if_neg z).trans (Y b o z J)) (λb hb=>if_neg hb) Z e
end
noncomputable def tAM(K:N0)(cal:Cal)(mask:List Bool)(ms:List ME):TA:=λσ H Q=>∃B E O W vs,aG K B E O H W σ/\evM cal mask ms W=some vs/\∀us H' as,ai H H'->Paired (Fv K O H') vs us->cG σ W mask ms vs us as (fD mask ms)->Q us H'
section
variable{X:Cx}{T:Tab}{k:Nat}{cal:Cal}
def ya:PA X [] (tAM X.K cal [] []):=by
 refine bN.imp λσ H Q q=>?_
 obtain⟨B,E,O,W,vs,st,z,q⟩:=q;cases z;exact q [] H [] (ai.refl H) .nil .nil
def AJ(h:ba X.N X.env.scope i x=true)(hi:i∉fD bs ms)(hs:PA X es (tAM X.K cal bs ms)):PA X (.Name x pos::es) (tAM X.K cal (true::bs) (.bor i::ms)):=by
 refine(aR (cx h) hs rfl).imp λσ H Q q=>?_
 refine aB λZq kq=>?_
 obtain⟨B,E,O,W,vs,st,U,q⟩:=q;rw[evM]at U;simp[ft,oe]at U;obtain⟨d,U,ws,e2,rfl⟩:=U;obtain⟨m,hj,om,so⟩:∃m,(W[i]?).join=some m/\i6 m=true/\∃a,σ[i]?=some (some (.ref a))/\DAt X.K H O a d/\a∈O:=by
  rcases fE U with e|e
  .obtain⟨u,J,a,rfl,h1,h2,_⟩:=aZ st e;exact⟨_,e,rfl,a,J,h1,h2⟩
  .obtain⟨u,J,a,rfl,h1,h2,_⟩:=aZ st e;exact⟨_,e,rfl,a,J,h1,h2⟩
 obtain⟨a,J,h1,h2⟩:=so;refine kq ?_;refine⟨_,J,B,E,O,W,ws,st,e2,λus H2 as Z g2 ma=>q _ H2 _ Z (.cons ⟨a,rfl,h1.move (Z _) (am Z),h2⟩ g2) (.mutd U J hi (λz=>?_) ma)⟩;obtain⟨j,ao,ej,d2,aO⟩:=ma.addr a z;have Y:i≠j:=λw=>hi (w▸ao)
 rcases fE aO with e|e
 .exact st.apart i j m _ a Y (aH hj) (aH e) om rfl J ej
 .exact st.apart i j m _ a Y (aH hj) (aH e) om rfl J ej
def vz(Y:aN m=false)(h:PE X e (tE X.K cal m))(hs:PA X es (tAM X.K cal bs ms))(hn:ah e=true):PA X (e::es) (tAM X.K cal (false::bs) (m::ms)):=by
 refine(aR h hs (a_ hn es _)).imp λσ H Q q=>?_
 obtain⟨B,E,O,W,vs,st,J,q⟩:=q;rw[evM,ft]at J;obtain⟨a,e0,J⟩:=J;have U:(ev cal m W).bind (λv=>some [MV.val v])=some a:=by
  rw[<- e0];cases m<;>first|(cases Y;done)|(simp only[evA];rfl)
 rw[ft]at U;obtain⟨v,e9,e8⟩:=U;cases e8;rw[oe]at J;obtain⟨ws,e2,rfl⟩:=J;exact⟨B,E,O,W,v,st,e9,λu H1 Z g1=>⟨B,E,O,W,ws,st.mono Z,e2,λus H2 as s2 g2 ma=>q _ H2 as (Z.trans s2) (.cons (show Rep X.K _ v u from(g1.mono s2).2 Y) g2) (.other (λ_ z=>by cases z) ma)⟩⟩
def yb(h:ba X.N X.env.scope i x=true)(hs:PA X es (tAM X.K cal bs ms)):PA X (.Name x pos::es) (tAM X.K cal (false::bs) (.bor i::ms)):=by
 refine(aR (cx h) hs rfl).imp λσ H Q q=>?_
 obtain⟨B,E,O,W,vs,st,J,q⟩:=q;rw[evM,ft]at J;obtain⟨a,U,J⟩:=J;rw[evA,evA]at U;cases Y:(W[i]?).join with
 |none=>rw[Y]at U;cases U
 |some m =>
  rw[Y]at U;obtain⟨u,eu,so⟩:=aZ st Y;cases m with
  |val w =>
   cases U;dsimp only at J;rw[oe]at J;obtain⟨ws,e2,rfl⟩:=J;exact⟨u,eu,⟨B,E,O,W,ws,st,e2,λus H2 as Z g2 ma=>q (u::us) H2 as Z (.cons (show Rep X.K (aw H2 O) w u from Rep.mono (am Z) _ so) g2) (.other (λ_ z=>by cases z) ma)⟩⟩
  | _=>cases U;cases J
theorem rF(g:Gf X T k cal):∀bs ms es,chks T ms X.N X.env.scope es=true->j4 bs ms=true->(fD bs ms).Nodup->PA X es (tAM X.K cal bs ms)
 | [],[],es,h,_,_=>by
  cases es<;>first|exact ya|simp[chks]at h
 | [],_::_,_,_,h2,_=>by cases h2
 |true::_,[],_,_,h2,_=>by cases h2
 |false::_,[],_,_,h2,_=>by cases h2
 |b::bs,m::ms,es,h,h2,U=>by
  cases es with
  |nil=>simp[chks]at h
  |cons e es =>
   simp[chks,gQ]at h;cases b with
   |true =>
    have z:(aN m&&j4 bs ms)=true:=h2;rw[gQ]at z;have J:=z.1;obtain⟨i,rfl⟩:=nV J;obtain⟨x,p,rfl,h1⟩:=kI h.1.1;obtain⟨Y,Z⟩:=K7.mp (show(_::fD bs ms).Nodup from U);exact AJ h1 Y (rF g bs ms es h.2 z.2 Z)
   |false =>
    have hs:=rF g bs ms es h.2 (show j4 bs ms=true from h2) (show(fD bs ms).Nodup from U);cases J:aN m with
    |false=>exact vz J (av m g h.1.1).1 hs h.1.2
    |true =>
     obtain⟨i,rfl⟩:=nV J;obtain⟨x,p,rfl,h1⟩:=kI h.1.1;exact yb h1 hs
end
def yc(h:sT cal f mask ms W=some (v,l)):∃ds,((evM cal mask ms W).bind λvs=>cal (f+2000) vs)=some (.tup (v::ds))/\kG mask ms ds W=some l:=by
 unfold sT at h;split at h
 .rename_i v ds e
  simp_all
 .cases h
section
variable{X:Cx}{T:Tab}{k:Nat}{cal:Cal}
noncomputable def tMr(K:N0)(cal:Cal)(f:Nat)(mask:List Bool)(ms:List ME):TE:=λσ H Q=>∃B E O W vs v ds,aG K B E O H W σ/\evM cal mask ms W=some vs/\cal (f+2000) vs=some (.tup (v::ds)) /\
 ∀u us as H1 H',ai H H1->cG σ W mask ms vs us as (fD mask ms)->(∀b o,b∉as->H1 b=some o->H' b=some o)->cF K O H' vs us ds as->Rep K (aw H' O) v u->Q u H'
def wN(g:Gf X T k cal)(Z:T.fs[f]?=some x)(hg:glB X.env.scope x=true)(hn:ar x=true)(ha:PA X (e::es) (tAM X.K cal mask ms))(hs:(e::es).all ah=true):PE X (.Call (.Name x p) (e::es) [] pos) (tMr X.K cal f mask ms):=by
 obtain⟨fa,fd,ps,h1,h2,h3,F⟩:=g.fnsD f x Z;simp only[all_cons,gQ]at hs;refine(mO F g.room (dE hg) h1 h2 h3 .nil su ha (iz hn).1 (a_ hs.1 es _) (b6 hs.2)).imp λσ H Q q=>?_
 obtain⟨B,E,O,W,vs,v,ds,st,e1,e3,q⟩:=q;refine⟨B,E,O,W,vs,st,e1,λus H1 as J g1 Y=>?_⟩;show spD X.K cal f (us++[]) H1 Q E0;rw[LJ];obtain⟨z,U⟩:=Y.at (st.mono J);exact⟨O,vs,v,ds,z,as,bw J st.here,g1,U,e3,λu H' hk hm ru=>q u us as H1 H' J Y hk hm ru⟩
end
def cF.mono{K:N0}(h:cF K O H args vs ds ms)(s:∀a∈ms,∀o,H a=some o->H' a=some o)(v:ai (aw H O) (aw H' z)):cF K z H' args vs ds ms:=by
 induction h with
 |nil=>exact .nil
 |mutd h J t ih=>exact .mutd (h.move (s _ (.head _)) v) J (ih λa U=>s a (.tail _ U))
 |other h t ih=>exact .other h (ih s)
def cF.here{K:N0}(h:cF K O H args vs ds ms):∀a∈ms,H a≠none:=by
 induction h with
 |nil=>intro a z;cases z
 |mutd h J t ih =>
  simp_all
 |other h t ih=>exact ih
theorem cG.own{K:N0}(st:aG K B E O H W σ)(h:cG σ W bs es as vs ms is):∀a∈ms,a∈O/\B a=none/\∃o,H a=some o:=λa Y=>by
 obtain⟨j,_,U,d,Z⟩:=h.addr a Y;rcases fE Z with e|e
 .obtain⟨u,z,a',rfl,h1,h2,J⟩:=aZ st e;rw[U]at z;cases z;exact⟨h2,J,h1.here⟩
 .obtain⟨u,z,a',rfl,h1,h2,J⟩:=aZ st e;rw[U]at z;cases z;exact⟨h2,J,h1.here⟩
def ju{O as:List Addr}(h:∀a∈as,a∈O)(U:∀b o,b∉as->H1 b=some o->H' b=some o):ai (aw H1 O) (aw H' O):=λb o e=>by
 have J:b∉O:=λz=>by rw[e_ z]at e;cases e
 rw[be J]at e ⊢;exact U b o (λz=>J (h b z)) e
section
variable{X:Cx}{T:Tab}{k:Nat}{cal:Cal}
noncomputable def tSr(K:N0)(cal:Cal)(j:SK)(e:ME)(f:Nat)(mask:List Bool)(ms:List ME):TE:=λσ H Q=>∃B E O W w vs v ds r,aG K B E O H W σ/\ev cal e W=some w/\evM cal mask ms W=some vs/\cal (f+2000) vs=some (.tup (v::ds))/\DQ j w v=some r /\
 ∀u us as H1 H',ai H H1->cG σ W mask ms vs us as (fD mask ms)->(∀b o,b∉as->H1 b=some o->H' b=some o)->cF K O H' vs us ds as->Rep K (aw H' O) r u->Q u H'
def qf{K:N0}(st:aG K B E O H W σ)(J:ai H H1)(U:∀b o,b∉as->H1 b=some o->H' b=some o)(Y:cF K O H' args vs ds as):∀a∈O,H' a≠none:=λa Z=>by
 by_cases z:a∈as
 .exact Y.here a z
 .cases e:H1 a with
  |none=>exact absurd (J.free e) (st.here a Z)
  |some o=>rw[U a o z e];simp
def IE(h:PE X c (tMr X.K cal f mask ms)):PE X c (tSr X.K cal .one (.cst .non) f mask ms):=by
 refine h.imp λσ H Q q=>?_
 obtain⟨B,E,O,W,w,vs,v,ds,r,st,Y,z,J,U,q⟩:=q;cases U;exact⟨B,E,O,W,vs,v,ds,st,z,J,q⟩
def FX(J:aN e=false)(ha:PE X l (tE X.K cal e))(h:PE X c (tMr X.K cal f mask ms)):PE X (.BinOp l .Add c pos) (tSr X.K cal .cat e f mask ms):=by
 refine(vX (vi .add) ha h).imp λσ H Q q=>?_
 refine aB λZq kq=>?_
 obtain⟨B,E,O,W,w,vs,v,ds,r,st,e1,e2,e3,e4,q⟩:=q;refine kq ?_;refine⟨B,E,O,W,w,st,e1,λux H1 z g1=>⟨B,E,O,W,vs,v,ds,st.mono z,e2,e3,λuy us as H2 H' U ma Y hm ry=>?_⟩⟩;have own:=ma.own (st.mono z);have rx:=Rep.mono ((am U).trans (ju (λa h=>(own a h).1) Y)) _ (g1.2 J);exact⟨O,w,v,r,qf (st.mono z) U Y hm,.inl rx,.inl ry,e4,λu H3 Z ru=>q u us as H2 H3 (z.trans U) ma (λb o J eb=>Z b o (Y b o J eb)) (hm.mono (λa _ o e=>Z a o e) (am Z)) ru⟩
def Da(J:aN e=false)(hl:ah l=true)(hc:ah c=true)(ha:PE X l (tE X.K cal e))(h:PE X c (tMr X.K cal f mask ms)):PE X (.Tuple [l,c] j pos) (tSr X.K cal .pair e f mask ms):=by
 refine(uK (aR ha (aR h bN (a_ hc _ _)) (a_ hl _ _))).imp λσ H Q q=>?_
 refine aB λZq kq=>?_
 obtain⟨B,E,O,W,w,vs,v,ds,r,st,e1,e2,e3,e4,q⟩:=q;cases e4;refine kq ?_;refine⟨B,E,O,W,w,st,e1,λux H1 z g1=>⟨B,E,O,W,vs,v,ds,st.mono z,e2,e3,λuy us as H2 H' U ma Y hm ry=>⟨cM (show 2<=10000 by decide),λp hp=>?_⟩⟩⟩;have own:=ma.own (st.mono z);have rx:=Rep.mono ((am U).trans (ju (λa h=>(own a h).1) Y)) _ (g1.2 J);have Z:ai H' (upd H' p (.tup [ux,uy])):=ay hp _;exact q _ us as H2 _ (z.trans U) ma (λb o J eb=>Z b o (Y b o J eb)) (hm.mono (λa _ o e=>Z a o e) (am Z)) (g_ (qf (st.mono z) U Y hm) hp (.cons rx (.cons ry .nil)))
def FY(g:Gf X T k cal)(h:Ab T j e f mask ms X.N X.env.scope v=true):PE X v (tSr X.K cal j e f mask ms):=by
 have call:∀c,fZ T f mask ms X.N X.env.scope c=true->PE X c (tMr X.K cal f mask ms)/\ah c=true:=λc hc=>by
  obtain⟨y,p,args,cp,rfl,z⟩:=nW hc;simp only[gQ,Kv,Le,KD]at z;obtain⟨⟨⟨⟨⟨⟨U,Y⟩,Z⟩,J⟩,q5⟩,q6⟩,q7⟩:=z;cases args with
  |nil=>cases q7
  |cons a args=>exact⟨wN g U Y Z (rF g mask ms (a::args) J q5 q6) (bK J).1,rfl⟩
 cases j with
 |one =>
  have h:(vg e&&fZ T f mask ms X.N X.env.scope v)=true:=h;rw[gQ]at h;have e0:e=.cst .non:=by
   have h1:=h.1;unfold vg at h1;split at h1
   .rfl
   .cases h1
  subst e0;exact IE (call v h.2).1
 |cat =>
  unfold Ab at h;dsimp only at h;split at h
  .rename_i q z;obtain⟨pos,rfl⟩:=CI z;simp only[gQ,KD]at h;exact FX h.1.2 (av e g h.1.1).1 (call _ h.2).1
  .cases h
 |pair =>
  unfold Ab at h;dsimp only at h;split at h
  .rename_i q z;obtain⟨i,pos,rfl⟩:=CJ z;simp only[gQ,KD]at h;exact Da h.1.1.2 h.1.2 (call _ h.2).2 (av e g h.1.1.1).1 (call _ h.2).1
  .cases h
noncomputable def dv(H:Hp)(D:Addr):Hp:=λb=>if b=D then none else H b
def kQ(H)(D):ai (dv H D) H:=λb o e=>by
 unfold dv at e
 simp_all
def oq(h:b≠D):dv H D b=H b:=if_neg h
def vA(s:ai H H'):ai (dv H D) (dv H' D):=λb o e=>by
 unfold dv at e ⊢;split at e
 .cases e
 .rename_i z;rw[if_neg z];exact s b o e
def jv :dv (upd H D o) D=dv H D:=by
 funext b
 unfold dv;split
 .rfl
 .rename_i z;exact bb z
def ou(h:H D=none):dv H D=H:=by
 funext b
 unfold dv
 simp_all
def yd(Z:js.Nodup)(ao:∀i J u,js[i]?=some J->aO[i+1]?=some (some u)->σ[J]?=some (some u))(h:cG aO (lz js W x) bs es as vs ms is) :
  ∃U,cG σ W bs (es.map (E8 js)) as vs ms U/\∀J∈U,∃i,i+1∈is/\js[i]?=some J:=by
 induction h with
 |nil=>exact⟨[],.nil,λJ h=>by cases h⟩
 |mutd hd hs hi ha t ih =>
  rename_i i d a bs es as vs ms is;obtain⟨U,m',h'⟩:=ih;cases i with
  |zero=>cases hd
  |succ i =>
   unfold lz at hd;rw[getElem?_cons_succ,KJ]at hd;cases Y:js[i]? with
   |none=>rw[Y]at hd;cases hd
   |some J =>
    rw[Y]at hd;have e1:g7 (W[J]?).join=some d:=by
     have hd:g7 (CC (W[J]?).join)=some d:=hd;cases hj:(W[J]?).join with
     |none=>rw[hj]at hd;cases hd
     |some m=>rw[hj]at hd;cases m<;>first|(cases hd;done)|exact hd
    have e2:js.getD i 0=J:=by rw[LF,Y];rfl
    refine⟨J::U,?_,λj2 h2=>?_⟩
    .rw[uw,show E8 js (.bor (i+1))=.bor J from by show ME.bor (if i+1=0 then 0 else js.getD (i+1-1) 0)=.bor J;rw[if_neg (by omega),Lu,e2]];refine .mutd e1 (ao i J _ Y hs) (λz=>?_) ha m';obtain⟨i2,h3,h4⟩:=h' J z;have hl:=(Ku.mp Y).1;have:=(getElem?_inj hl Z).mp (Y.trans h4.symm);exact hi (this▸h3)
    .rcases wh.mp h2 with rfl|h2
     .exact⟨i,.head _,Y⟩
     .obtain⟨i2,h3,h4⟩:=h' j2 h2;exact⟨i2,.tail _ h3,h4⟩
 |other hm t ih =>
  obtain⟨U,m',h'⟩:=ih;exact⟨U,.other hm m',h'⟩
def Db{K:N0}{σ F:St}(a5:js.Nodup)(st:aG K B E O H W σ)(s:ai H H2)(hG:ai G H2)(hB:ai B G)(hO:∀a∈O,B a=none->G a=none)(hD:H D=none)(a6:H2 D≠none)
  (a7:∀z,F.set 0 z=(fQ js σ).set 0 z) (hx:Rep K (aw H2 (D::O)) x ux):aG K G [] (D::O) H2 (lz js W x) (F.set 0 (some ux)):=by
 have hv:ai (aw H O) (aw H2 (D::O)):=bU s λb hb=>by
  rcases wh.mp hb with rfl|hb
  .exact .inr hD
  .exact .inl hb
 rw[a7];have get:∀i m,(lz js W x)[i+1]?=some (some m)->∃jj U u,js[i]?=some jj/\(W[jj]?).join=some U/\CC (some U)=some m/\σ[jj]?=some (some u)/\fz K B O H U u/\((fQ js σ).set 0 (some ux))[i+1]?=some (some u):=λi m e=>by
  simp only[lz,getElem?_cons_succ,KJ,oe]at e;obtain⟨j,ej,e⟩:=e;cases hj:(W[j]?).join with
  |none=>rw[hj]at e;cases e
  |some mm =>
   rw[hj]at e;obtain⟨u,eu,Z⟩:=aZ st hj;exact⟨j,mm,u,ej,hj,e,eu,Z,by simp[fQ,ej,eu]⟩
 refine⟨hG,λa J=>?_,λa J=>by simp at J,λa J=>by simp at J,by simp[lz,fQ],λi m e=>?_,λi i2 m m' a b1 e e' om aO es a0=>?_⟩
 .rcases wh.mp J with rfl|J
  .exact a6
  .exact λe=>st.here a J (s.free e)
 .cases i with
  |zero =>
   simp only[lz,getElem?_cons_zero,p0]at e;subst e;exact⟨ux,by simp[fQ],hx⟩
  |succ i =>
   obtain⟨jj,U,u,ej,hj,e,eu,Z,b2⟩:=get i m e;refine⟨u,b2,?_⟩;cases U with
   |val w =>
    cases e;exact Rep.mono hv _ Z
   |own ys=>cases e
   |brw ys =>
    cases e;obtain⟨a,us,rfl,sq,rs⟩:=Z;exact⟨a,us,rfl,hB.seq sq,Reps.mono hv _ rs⟩
   |brwD kvs =>
    cases e;obtain⟨a,rfl,J⟩:=Z;exact⟨a,rfl,ai.rd hB J⟩
   | _ =>
    cases e;obtain⟨a,rfl,J,h1,h2⟩:=Z;exact⟨a,rfl,J.move (s _) hv,Lg _ h1,hO a h1 h2⟩
 .have zero:∀m,(lz js W x)[0]?=some (some m)->i6 m=true->False:=λm e o=>by
   simp only[lz,getElem?_cons_zero,p0]at e;subst e;cases o
  have Y:∀U m,CC (some U)=some m->i6 m=true->i6 U=true:=λU m e o=>by
   cases U<;>first|rfl|(cases e;cases o;done)|(cases e;done)
  cases i with
  |zero=>exact zero m e om
  |succ i =>
   cases i2 with
   |zero=>exact zero m' e' aO
   |succ i2 =>
    obtain⟨j1,n1,u1,a1,b3,c1,b4,_,a2⟩:=get i m e;obtain⟨j2,n2,u2,b5,cd,c2,ck,_,a3⟩:=get i2 m' e';rw[a2]at es;rw[a3]at a0;cases es;cases a0;refine st.apart j1 j2 n1 n2 a (λz=>b1 ?_) (aH b3) (aH cd) (Y _ _ c1 om) (Y _ _ c2 aO) b4 ck;subst z;have hl:=(Ku.mp a1).1;rw[(getElem?_inj hl a5).mp (a1.trans b5.symm)]
def tM{K:N0}{B H H1:Hp}{E O:List Addr}{W l:Rho}{σ:St}{J:It}{xs ws:List PV}{D:Addr}{Q:VK}(b2:js.Nodup)(st:aG K B E O H W σ)(s1:ai H H1)(a4:n6 K J xs (aw H1 O) (bh B O H1 []))(dr:xs.length<=10000)
  (e3:dC cal js j e f mask ms xs W=some (ws,l)) (hD:H1 D=none) (q:∀H',ai (aw H O) (aw H' O)->aG K B E O H' l σ->bo B O O W l σ σ->Rep K (aw H' O) (.lst ws) (.ref D)->Q (.ref D) H'):sJ J (fQ js σ) H1 (tT K cal (.cst (.bl true))) (tSr K cal j e f mask ms) D Q:=by
 have a5:D∉O:=λz=>bw s1 st.here D z hD
 have a0:=st.keep.trans s1;have gB:ai B (bh B O H1 []):=eC a0;have gO:∀a∈O,B a=none->bh B O H1 [] a=none:=λa ha Z=>by
  unfold bh;rw[if_pos ha,if_neg (λz=>nomatch z)];exact Z
 have gD:bh B O H1 [] D=none:=by
  unfold bh;rw[if_neg a5];exact hD
 refine⟨λi m F H'=>m=xs.length-i/\i<=xs.length/\(∀z,F.set 0 z=(fQ js σ).set 0 z)/\0<F.length/\∃Y done bW ys,aG K B E O (dv H' D) Y σ/\bo B O O W Y σ σ/\ai (bh B O H1 []) (dv H' D)/\dC cal js j e f mask ms (xs.drop i) Y=some (bW,l)/\ws=done++bW/\done.length<=i/\H' D=some (.lst ys)/\Reps K (aw H' (D::O)) done ys,⟨xs.length,by simp,KI _,λ_=>rfl,by simp[fQ],W,[],ws,[],?_,.refl,?_,by simpa using e3,rfl,g4 _,ax,.nil⟩,?_⟩
 .rw[jv,ou hD];exact st.mono s1
 .rw[jv,ou hD];exact n8 a0
 rintro i m F H' ⟨rfl,hi,a6,hl,Y,done,bW,ys,a1,ki,sG,eg,ew,et,a7,rs⟩;have ao:=sG.trans (kQ H' D);by_cases a8:i<xs.length
 .right;have ex:=Kz a8;refine⟨a4.go i _ H' ao ex,λa9 H2=>∃m',m'<xs.length-i/\(m'=xs.length-(i+1)/\i+1<=xs.length/\(∀z,a9.set 0 z=(fQ js σ).set 0 z)/\0<a9.length/\∃Y done bW ys,aG K B E O (dv H2 D) Y σ/\bo B O O W Y σ σ/\ai (bh B O H1 []) (dv H2 D)/\dC cal js j e f mask ms (xs.drop (i+1)) Y=some (bW,l)/\ws=done++bW/\done.length<=i+1/\H2 D=some (.lst ys)/\Reps K (aw H2 (D::O)) done ys),λa9 H2 z=>z,λux H2 y=>?_⟩;obtain⟨s3,hr⟩:=a4.yld i _ H' ux H2 ao ex y;have sv:ai (aw H1 O) (aw H2 (D::O)):=λb o U=>by
   have Z:b∉O:=λz=>by rw[e_ z]at U;cases U
   rw[be Z]at U;have bA:b≠D:=λz=>by rw[z,hD]at U;cases U
   rw[be λz=>(wh.mp z).elim bA Z];refine s3 b o (ao b o ?_);unfold bh;rw[if_neg Z];exact U
  have hx:=hr (D::O) (λa ha=>by
   rcases wh.mp ha with rfl|ha
   .rw[a7];simp
   .exact λz=>a1.here a ha ((kQ H' D).free z)) sv
  have b4:=s3 _ _ a7;have c0:=(kQ H' D).trans s3;have bB:=Db (F:=F) b2 a1 c0 (ao.trans s3) gB gO (if_pos rfl) (by rw[b4];simp) a6 hx;rw[Nj a8,dC]at eg;simp only[ft]at eg;obtain⟨w,e1,eg⟩:=eg;refine⟨_,[],D::O,_,true,bB,by simp[evB,ev,bf],λH3 s4=>?_⟩;dsimp only;rw[if_pos rfl];split at eg
  .refine aB λZq kq=>?_
   rename_i v ds ec;simp only[ft,oe]at eg ec;obtain⟨r,e4,c1,e5,⟨c2,eK⟩,e6,e7⟩:=eg;obtain⟨vs,e2,ec⟩:=ec;cases e7;refine kq ?_;refine⟨_,[],D::O,_,w,vs,v,ds,r,bB.mono s4,e1,e2,ec,e4,λu us as H4 H5 s5 ma hk hm ru=>?_⟩;have own:=ma.own (bB.mono s4);obtain⟨e0,mo,_⟩:=yd (σ:=σ) (W:=Y) (js:=js) b2 (λi jj u ej eu=>by
    rw[a6]at eu;have:(σ[jj]?).join=some u:=by simpa[fQ,ej]using eu
    exact aH this) ma
   have aO:∀a∈as,a∈O:=λa ha=>(mo.own a1 a ha).1
   have cd:D∉as:=λz=>a5 (aO D z)
   have c5:=hk D _ cd (s5 _ _ (s4 _ _ b4));have ck:∀z,(F.set 0 (some ux)).set 0 z=(fQ js σ).set 0 z:=λz=>by rw[set_set];exact a6 z
   have c6:0<(F.set 0 (some ux)).length:=by rw[MW];exact hl
   have vw:ai (aw H' (D::O)) (aw H5 (D::O)):=((am s3).trans ((am s4).trans (am s5))).trans (ju (λa h=>Lg _ (aO a h)) hk);have df:ys.length<=10000:=by rw[<- rs.length];omega
   have cl:∀b o,b∉as->dv H4 D b=some o->dv H5 D b=some o:=λb o Z U=>by
    have bA:b≠D:=λz=>by rw[z]at U;unfold dv at U;rw[if_pos rfl]at U;cases U
    rw[oq bA]at U ⊢;exact hk b o Z U
   have cr:ai (dv H' D) (dv H4 D):=vA ((s3.trans s4).trans s5);obtain⟨dm,k6⟩:=wM mo (a1.mono cr) cl (hm.mono (λa ha o eo=>by
    have dn:a≠D:=λz=>by rw[z]at ha;exact cd ha
    rw[oq dn];exact eo) λb o U=>by
    have Z:b∉D::O:=λz=>by rw[e_ z]at U;cases U
    rw[be Z]at U;rw[be λz=>Z (.tail _ z),oq (show b≠D from λz=>Z (by rw[z];exact .head _))];exact U) e5
   refine⟨ys,c5,K0 df (by decide),_,by omega,rfl,a8,ck,c6,c1,done++[r],c2,ys++[u],?_,ki.trans k6,?_,e6,by rw[ew];simp,by simp;omega,ax,?_⟩
   .rw[jv];exact dm
   .rw[jv];intro b o U;refine cl b o (λz=>?_) (cr b o (sG b o U));have:=(own b z).2.1;rw[this]at U;cases U
   .rw[i9 (Ly)];exact(Reps.mono vw _ rs).snoc ru
  .cases eg
 .left;have ei:i=xs.length:=by omega
  subst ei;rw[drop_length,dC]at eg;cases eg;rw[LJ]at ew;subst ew;refine⟨a4.stop H' ao,q H' (λb o U=>?_) (a1.mono (kQ H' D)) ki ?_⟩
  .have Z:b∉O:=λz=>by rw[e_ z]at U;cases U
   rw[be Z]at U ⊢;refine ao b o ?_;unfold bh;rw[if_neg Z];exact s1 b o U
  rw[Rep];refine⟨D,ys,rfl,SqL.of ?_,Reps.mono iA _ rs⟩;rw[be a5];exact a7
noncomputable def tX(K:N0)(cal:Cal)(x:XE):TE:=λσ H Q=>∃B E O W v l,aG K B E O H W σ/\evX cal x W=some (v,l) /\
 ∀u H',ai (aw H O) (aw H' O)->aG K B E O H' l σ->bo B O O W l σ σ->Rep K (aw H' O) v u->Q u H'
noncomputable def tXs(K:N0)(cal:Cal)(xs:List XE):TA:=λσ H Q=>∃B E O W vs l,aG K B E O H W σ/\evXs cal xs W=some (vs,l) /\
 ∀us H',ai (aw H O) (aw H' O)->aG K B E O H' l σ->bo B O O W l σ σ->Reps K (aw H' O) vs us->Q us H'
def FZ(J:aN m=false)(h:PE X e (tE X.K cal m)):PE X e (tX X.K cal (.pure m)):=by
 refine h.imp λσ H Q q=>?_
 obtain⟨B,E,O,W,v,l,st,z,q⟩:=q;rw[evX,oe]at z;obtain⟨w,z,U⟩:=z;cases U;exact⟨B,E,O,W,v,st,z,λu H' s g=>q u H' (am s) (st.mono s) .refl (g.2 J)⟩
def F0(h:PE X e (tMr X.K cal f mask ms)):PE X e (tX X.K cal (.call f mask ms)):=by
 refine h.imp λσ H Q q=>?_
 obtain⟨B,E,O,W,v,l,st,e0,q⟩:=q;obtain⟨ds,z,e2⟩:=yc (show sT cal f mask ms W=some _ from e0);rw[ft]at z;obtain⟨vs,z,e3⟩:=z;refine⟨B,E,O,W,vs,v,ds,st,z,e3,λu us as H1 H' J Y Z hm ru=>?_⟩;obtain⟨U,k'⟩:=wM Y (st.mono J) Z hm e2;have own:=Y.own (st.mono J);exact q u H' ((am J).trans (ju (λa h=>(own a h).1) Z)) U k' ru
def AK:∀{ns:List Int}{n},ns.getLast?=some n->(ns.map V.int).getLast?=some (V.int n):=by
 intro ns n h
 simp_all
def IF (hn:ba X.N X.env.scope i x=true) (U:(apos.endLine==cpos.line)=true):PE X (.Call (.Attribute (.Name x p) "pop" apos) [] [] cpos) (tX X.K cal (.pop i)):=by
 refine(EJ PySem.F.plainAttrs_list PySem.F.slot_list_pop PySem.F.type_list_pop EK (cx hn) rfl U).imp λσ H Q q=>?_
 obtain⟨B,E,O,W,v,l,st,J,q⟩:=q;have J:CD i W=some (v,l):=J;unfold CD at J;cases hd:g7 (W[i]?).join with
 |none=>rw[hd]at J;cases J
 |some d =>
  rw[hd]at J;cases d with
  |p ns =>
   rw[oe]at J;obtain⟨n,el,Z⟩:=J;cases Z;obtain⟨a,Y,ha,hO,key⟩:∃a,σ[i]?=some (some (.ref a))/\H a=some (i5 (.p ns))/\a∈O/\(aG X.K B E O (upd H a (i5 (.p ns.dropLast))) (fR W i (.p ns.dropLast)) σ/\bo B O O W (fR W i (.p ns.dropLast)) σ σ):=by
    rcases fE hd with e|e
    .obtain⟨u,Y,a,rfl,h1,h2,h3⟩:=aZ st e;refine⟨a,Y,h1,h2,?_⟩;have Z:fR W i (.p ns.dropLast)=put W i (.ownD (.p ns.dropLast)):=by unfold fR;rw[e];rfl
     rw[Z];exact st.changeD (aH e) Y λ_=>ax
    .obtain⟨u,Y,a,rfl,h1,h2,h3⟩:=aZ st e;refine⟨a,Y,h1,h2,?_⟩;have Z:fR W i (.p ns.dropLast)=put W i (.mutD (.p ns.dropLast)):=by unfold fR;rw[e];rfl
     rw[Z];exact st.changeU (aH e) Y λ_=>ax
   have ao:ai (aw H O) (aw (upd H a (i5 (.p ns.dropLast))) O):=λb o e=>by
    have hb:b∉O:=λz=>by rw[e_ z]at e;cases e
    rw[be hb]at e ⊢;rw[bb (show b≠a from λz=>hb (z▸hO))];exact e
   have fin:=q (.int n) _ ao key.1 key.2 (bR _ _);have aO:(ns.map V.int)[(ns.map V.int).length-1]?=some (V.int n):=by
    rw[<- getLast?_eq_getElem?];exact AK el
   refine⟨_,Y,.inl ⟨rfl,ns.map V.int,SqL.of ha⟩,a,ns.map V.int,.int n,rfl,rfl,ha,aO,?_⟩;have e9:(ns.map V.int).dropLast=ns.dropLast.map V.int:=map_dropLast.symm;rw[e9];exact fin
  | _=>cases J
def IG(ha:PE X l (tX X.K cal a))(hb:PE X r (tE X.K cal b)):PE X (.BinOp l (vd op) r pos) (tX X.K cal (.bin op a b)):=by
 refine(vX (vi op) ha hb).imp λσ H Q q=>?_
 refine aB λZq kq=>?_
 obtain⟨B,E,O,W,v,ρ',st,J,q⟩:=q;rw[evX]at J;simp only[ft,oe]at J;obtain⟨⟨x,U⟩,J,y,e2,r,e3,e4⟩:=J;cases e4;refine kq ?_;exact⟨B,E,O,W,x,U,st,J,λux H1 v1 z k1 rx=>⟨B,E,O,U,y,z,e2,λuy H2 Y g2=>⟨O,x,y,v,bw Y z.here,.inl (Rep.mono (am Y) _ rx),g2.1,e3,λu H3 Z ru=>q u H3 (v1.trans (am (Y.trans Z))) (z.mono (Y.trans Z)) k1 ru⟩⟩⟩
def J8(g:Gf X T k cal)(hf:T.fs[f]?=some x)(hg:glB X.env.scope x=true)(hn:ar x=true)(ha:PE X e (tX X.K cal a))(has:PA X es (tAs X.K cal ms))(J:ah e=true)(hs:es.all ah=true):PE X (.Call (.Name x p) (e::es) [] pos) (tX X.K cal (.fn f a ms)):=by
 obtain⟨fa,fd,ps,h1,h2,h3,F,_⟩:=g.fns f x hf;refine(mO F g.room (dE hg) h1 h2 h3 .nil su (aR ha has (a_ J es _)) (iz hn).1 (a_ J es _) (b6 hs)).imp λσ H Q q=>?_
 refine aB λZq kq=>?_
 obtain⟨B,E,O,W,v,l,st,U,q⟩:=q;rw[evX]at U;simp only[ft,oe]at U;obtain⟨⟨w,Y⟩,U,vs,e2,r,e3,e4⟩:=U;cases e4;refine kq ?_;refine⟨B,E,O,W,w,Y,st,U,λux H1 v1 z k1 rx=>⟨B,E,O,Y,vs,z,e2,λus H2 Z g2=>⟨O,.val w::vs,v,bw Z z.here,?_,e3,λu H3 s3 ru=>q u H3 (v1.trans (am (Z.trans s3))) (z.mono (Z.trans s3)) k1 ru⟩⟩⟩;rw[LJ];exact .cons (show Rep X.K (aw H2 O) w ux from Rep.mono (am Z) _ rx) g2
def IH:PA X [] (tXs X.K cal []):=by
 refine bN.imp λσ H Q q=>?_
 obtain⟨B,E,O,W,vs,l,st,z,q⟩:=q;cases z;exact q [] H (ai.refl _) st .refl .nil
def F2(h:PE X e (tX X.K cal x))(hs:PA X es (tXs X.K cal xs))(hn:ah e=true):PA X (e::es) (tXs X.K cal (x::xs)):=by
 refine(aR h hs (a_ hn es _)).imp λσ H Q q=>?_
 refine aB λZq kq=>?_
 obtain⟨B,E,O,W,vs,l,st,z,q⟩:=q;rw[evXs]at z;simp only[ft,oe]at z;obtain⟨⟨v,J⟩,z,⟨ws,a1⟩,e2,e3⟩:=z;cases e3;refine kq ?_;exact⟨B,E,O,W,v,J,st,z,λu H1 v1 U k1 ru=>⟨B,E,O,J,ws,_,U,e2,λus H2 Z Y k2 rs=>q _ H2 (v1.trans Z) Y (k1.trans k2) (.cons (Rep.mono Z _ ru) rs)⟩⟩
def II(h:PA X es (tXs X.K cal xs)):PE X (.Tuple es j pos) (tX X.K cal (.tup xs)):=by
 refine(uK h).imp λσ H Q q=>?_
 obtain⟨B,E,O,W,v,l,st,J,q⟩:=q;rw[evX,ft]at J;obtain⟨⟨vs,aO⟩,J,U⟩:=J;dsimp only at U;split at U
 .rename_i hl;cases U;refine⟨B,E,O,W,vs,_,st,J,λus H1 v1 z k1 Y=>⟨?_,λp Z=>?_⟩⟩
  .rw[<- Y.length];exact cM hl
  .have s2:ai H1 (upd H1 p (.tup us)):=ay Z _;exact q _ _ (v1.trans (am s2)) (z.mono s2) k1 (g_ z.here Z Y)
 .cases U
def x_tupOf (g:Gf X T k cal) (Z:glB X.env.scope ("tuple":Str)=true) (ha:PE X e (tX X.K cal a)) (hs:ah e=true):PE X (.Call (.Name ("tuple":Str) p) [e] [] pos) (tX X.K cal (.tupOf a)):=by
 refine(dj wD (dE Z) (g.blt "tuple" (by decide)) oh (aR ha bN (a_ hs _ _)) (by decide) (by decide) (a_ hs [] _) (b6 rfl)).imp λσ H Q q=>?_
 refine aB λZq kq=>?_
 obtain⟨B,E,O,W,v,l,st,z,q⟩:=q;rw[evX]at z;simp only[ft,oe]at z;obtain⟨⟨w,U⟩,z,r,e2,e3⟩:=z;cases e3;refine kq ?_;exact⟨B,E,O,W,w,U,st,z,λu H1 v1 J k1 ru=>⟨O,[w],_,J.here,.cons (.inl ru) .nil,e2,λu2 H2 Y r2=>q u2 H2 (v1.trans (am Y)) (J.mono Y) k1 r2⟩⟩
def IJ(h:PA X es (tXs X.K cal xs)):PE X (.List es pos) (tX X.K cal (.lst xs)):=by
 refine(uL h).imp λσ H Q q=>?_
 obtain⟨B,E,O,W,v,l,st,J,q⟩:=q;rw[evX,ft]at J;obtain⟨⟨vs,aO⟩,J,U⟩:=J;dsimp only at U;split at U
 .rename_i hl;cases U;refine⟨B,E,O,W,vs,_,st,J,λus H1 v1 z k1 Y=>⟨?_,λp Z=>?_⟩⟩
  .rw[<- Y.length];exact cM hl
  .have s2:ai H1 (upd H1 p (.lst us)):=ay Z _;exact q _ _ (v1.trans (am s2)) (z.mono s2) k1 (n4 z.here Z Y)
 .cases U
def IK(g:Gf X T k cal)(hf:T.fs[f]?=some x)(hg:glB X.env.scope x=true)(hn:ar x=true)(hm:PE X l (tE X.K cal m))(hb:aN m=false)(ha:PE X r (tX X.K cal a))(z:ah l=true)(J:ah r=true):PE X (.Call (.Name x p) [l,r] [] pos) (tX X.K cal (.fn2 f m a)):=by
 obtain⟨fa,fd,ps,h1,h2,h3,F,_⟩:=g.fns f x hf;refine(mO F g.room (dE hg) h1 h2 h3 .nil su (aR hm (aR ha bN (a_ J _ _)) (a_ z _ _)) (iz hn).1 (a_ z [r] _) (b6 (by rw[all_cons,J];rfl))).imp λσ H Q q=>?_
 refine aB λZq kq=>?_
 obtain⟨B,E,O,W,v,ρ',st,U,q⟩:=q;rw[evX]at U;simp only[ft,oe]at U;obtain⟨w,U,⟨Z,a9⟩,e2,r,e3,e4⟩:=U;cases e4;refine kq ?_;refine⟨B,E,O,W,w,st,U,λux H1 s1 g1=>⟨B,E,O,W,Z,_,st.mono s1,e2,λuy H2 v2 Y k2 ry=>⟨O,[.val w,.val Z],v,Y.here,?_,e3,λu H3 s3 ru=>q u H3 ((am s1).trans (v2.trans (am s3))) (Y.mono s3) k2 ru⟩⟩⟩;rw[LJ];exact .cons (show Rep X.K _ w ux from Rep.mono v2 _ (g1.2 hb)) (.cons (show Rep X.K _ Z uy from ry) .nil)
def x_compS(g:Gf X T k cal)
  (a0:fY X.env.scope X.N scope y (dO X.N js) js=true) (hw:PI X (.Name y py) it (tW X.K cal .seq [src])) (a1:fC it=true) (hb:aN src=false) (a2:js.Nodup) (he:∀z U C fp,PE (X.blk y (dO X.N js) scope z U C fp) el (tSr X.K cal j e f mask ms)) :
  PE X (.ListComp el [⟨.Name y py,it,[],0⟩] scope cpos) (tX X.K cal (.compS src js j e f mask ms)):=by
 refine(wc (tt:=tT X.K cal (.cst (.bl true))) (lH a0) g.calm hw (λz U C fp=>rC (show sZ (λ_=>false) (.cst _) []=true from rfl) λc hc=>nomatch hc) he (by intro v;cases it<;>first|rfl|(simp[fC]at a1))).imp λσ H Q q=>?_
 obtain⟨B,E,O,W,v,l,st,Y,q⟩:=q;rw[evX]at Y;simp only[ft]at Y;obtain⟨vs,e2,xs,e3,Y⟩:=Y;split at Y
 .rename_i Z;rw[oe]at Y;obtain⟨⟨ws,a8⟩,e1,e4⟩:=Y;cases e4;have ao:bp [src] W σ=[]:=by
   cases src<;>first|rfl|(cases hb;done)
  refine⟨B,E,O,W,vs,xs,st,e2,e3,λJ H1 s1 aO D' hD=>?_⟩;rw[ao]at aO;exact tM a2 st s1 aO Z e1 hD λH' v' a3 k' ru=>q _ H' v' a3 k' ru
 .cases Y
noncomputable def tWX(K:N0)(cal:Cal)(y:XE):TI:=λσ H R =>
 ∃B E O W v l xs,aG K B E O H W σ/\evX cal y W=some (v,l)/\bg .rng [v]=some xs/\∀J H1,ai (aw H O) (aw H1 O)->aG K B E O H1 l σ->bo B O O W l σ σ->n6 K J xs (aw H1 O) (bh B O H1 (bp [.cst v] l σ))->R J H1
def AL (g:Gf X T k cal) (Y:glB X.env.scope ("range":Str)=true) (h:PE X e (tX X.K cal y)) (hs:ah e=true):PI X tg (.Call (.Name ("range":Str) p) [e] [] pos) (tWX X.K cal y):=by
 refine(pK (dE Y) (g.blt "range" (by decide)) (aR h bN (a_ hs _ _)) (a_ hs _ _)).imp λσ H R q=>?_
 obtain⟨B,E,O,W,v,l,xs,st,Z,z,q⟩:=q;refine⟨B,E,O,W,v,l,st,Z,λu H1 v1 J k1 U=>?_⟩;cases v with
 |int j =>
  simp only[bg]at z;split at z
  .rename_i c;cases z;rw[Rep]at U;subst U;exact⟨j,rfl,c.1,c.2,q _ _ v1 J k1 n9⟩
  .cases z
 | _=>simp[bg]at z
mutual
theorem fb(g:Gf X T k cal):∀(x:XE) (e:Expr),dl T x X.N X.env.scope e=true->PE X e (tX X.K cal x)
 | .pure m,e,h=>by
  have h:(chk T m X.N X.env.scope e&&!aN m&&bZ e)=true:=h;simp only[gQ,KD]at h;exact FZ h.1.2 (av m g h.1.1).1
 | .call f mask ms,e,h=>by
  obtain⟨y,p,args,cp,rfl,hq⟩:=nW (show fZ T f mask ms X.N X.env.scope e=true from h);simp only[gQ,Kv,Le,KD]at hq;obtain⟨⟨⟨⟨⟨⟨q1,q2⟩,q3⟩,q4⟩,q5⟩,q6⟩,q7⟩:=hq;cases args with
  |nil=>cases q7
  |cons a args=>exact F0 (wN g q1 q2 q3 (rF g mask ms (a::args) q4 q5 q6) (bK q4).1)
 | .pop i,e,h=>by
  obtain⟨q,J,h⟩:=ak (show onQ (Fl e) (λq=>ba X.N X.env.scope i q.1&&q.2.1==("pop":Str)&&q.2.2.1.endLine==q.2.2.2.line)=true from h);obtain⟨y,m,ap,cp⟩:=q;obtain⟨p,rfl⟩:=CL J;obtain⟨U,Y⟩:=gx.mp h;obtain⟨h1,h2⟩:=gx.mp U;obtain rfl:m=("pop":Str):=eq_of_beq h2;exact IF h1 Y
 | .bin op a b,e,h=>by
  obtain⟨q,J,h⟩:=ak (show onQ (Fm e) (λq=>q.2.1==vd op&&dl T a X.N X.env.scope q.1&&chk T b X.N X.env.scope q.2.2)=true from h);obtain⟨l,o,r⟩:=q;obtain⟨pos,rfl⟩:=CM J;obtain⟨U,Y⟩:=gx.mp h;obtain⟨h1,h2⟩:=gx.mp U;obtain rfl:o=vd op:=eq_of_beq h1;exact IG (fb g a l h2) (av b g Y).1
 | .fn f a ms,e,h=>by
  obtain⟨q,J,h⟩:=ak (show onQ (fnQ e) (λq=>T.fs[f]?==some q.1&&glB X.env.scope q.1&&ar q.1&&dl T a X.N X.env.scope q.2.1&&ah q.2.1&&chks T ms X.N X.env.scope q.2.2)=true from h);obtain⟨y,l,r⟩:=q;obtain⟨p,pos,rfl⟩:=vh J;obtain⟨U,h6⟩:=gx.mp h;obtain⟨a2,Z⟩:=gx.mp U;obtain⟨a3,h4⟩:=gx.mp a2;obtain⟨a4,Y⟩:=gx.mp a3;obtain⟨h1,h2⟩:=gx.mp a4;exact J8 g (eq_of_beq h1) h2 Y (fb g a l h4) (soundA ms g h6) Z (bK h6).1
 | .tup xs,e,h=>by
  obtain⟨q,J,h⟩:=ak (show onQ (Fn e) (λq=>chkXEs T xs X.N X.env.scope q)=true from h);obtain⟨j,pos,rfl⟩:=CN J;exact II (soundXEs g xs q h)
 | .lst xs,e,h=>by
  obtain⟨q,J,h⟩:=ak (show onQ (Fo e) (λq=>chkXEs T xs X.N X.env.scope q)=true from h);obtain⟨pos,rfl⟩:=CO J;exact IJ (soundXEs g xs q h)
 | .fn2 f m a,e,h=>by
  obtain⟨q,J,h⟩:=ak (show onQ (Fp e) (λq=>T.fs[f]?==some q.1&&glB X.env.scope q.1&&ar q.1&&chk T m X.N X.env.scope q.2.1&&!aN m&&ah q.2.1&&dl T a X.N X.env.scope q.2.2&&ah q.2.2)=true from h);obtain⟨y,l,r⟩:=q;obtain⟨p,pos,rfl⟩:=CP J;obtain⟨U,h8⟩:=gx.mp h;obtain⟨a2,h7⟩:=gx.mp U;obtain⟨a3,h6⟩:=gx.mp a2;obtain⟨a4,Z⟩:=gx.mp a3;obtain⟨a5,h4⟩:=gx.mp a4;obtain⟨a6,Y⟩:=gx.mp a5;obtain⟨h1,h2⟩:=gx.mp a6;exact IK g (eq_of_beq h1) h2 Y (av m g h4).1 (by simpa using Z) (fb g a r h7) h6 h8
 | .tupOf a,e,h=>by
  obtain⟨q,J,h⟩:=ak (show onQ (fnQ e) (λq=>q.1==("tuple":Str)&&glB X.env.scope q.1&&q.2.2.isEmpty&&dl T a X.N X.env.scope q.2.1&&ah q.2.1)=true from h);obtain⟨y,l,r⟩:=q;obtain⟨p,pos,rfl⟩:=vh J;obtain⟨U,Z⟩:=gx.mp h;obtain⟨a2,h4⟩:=gx.mp U;obtain⟨a3,Y⟩:=gx.mp a2;obtain⟨h1,h2⟩:=gx.mp a3;obtain rfl:y=("tuple":Str):=eq_of_beq h1;obtain rfl:r=[]:=L8.mp Y;exact x_tupOf g h2 (fb g a l h4) Z
 | .compS src js j m f mask ms,e,h=>by
  obtain⟨c,e2,h2⟩:=ak (show onQ (Ac e) (λc=>fY X.env.scope X.N c.2.1 c.2.2.1 (dO X.N js) js&&nU X.env.scope false (λxs=>chks T [src] X.N X.env.scope xs) .seq c.2.2.2&&!aN src&&Ab T j m f mask ms (c.2.2.1::dO X.N js) (mI c.2.1 X.env.scope) c.1&&decide js.Nodup)=true from h);obtain⟨py,cpos,rfl⟩:=Ad e2;obtain⟨el,scope,y,it⟩:=c;simp only[gQ,KD,Le]at h2;obtain⟨⟨⟨⟨Z,h6⟩,h7⟩,h8⟩,h9⟩:=h2;have hw:=lJ (tg:=.Name y py) (λz=>by cases z) g h6 (λxs a8=>⟨sounds [src] g a8,bK a8⟩) (λm x hm hx=>by cases hm;exact(av src g (by simp only[chks,gQ]at hx;exact hx.1.1)).1);exact x_compS g Z hw.1 hw.2 h7 h9 λa9 bA C fp=>FY (g.blk y (dO X.N js) scope a9 bA C fp) h8
theorem soundXEs(g:Gf X T k cal):∀(xs:List XE) (es:List Expr),chkXEs T xs X.N X.env.scope es=true->PA X es (tXs X.K cal xs)
 | [],es,h=>by
  cases es with
  |nil=>exact IH
  |cons _ _=>cases h
 |x::xs,es,h=>by
  cases es with
  |nil=>cases h
  |cons e es =>
   have h:(dl T x X.N X.env.scope e&&ah e&&chkXEs T xs X.N X.env.scope es)=true:=h;simp only[gQ]at h;exact F2 (fb g x e h.1.1) (soundXEs g xs es h.2) h.1.2
end
def F3(d:Df X)(hi:X.N[i]?=some x)(hx:Loc X.env.scope x)(h:PE X v (tX X.K cal y))(hc:bZ v=true):PS X (.Assign [.Name x px] v pos) (tS X.K cal (.setX i y)):=
 PS.imp' (jR d.nd hi hx h (dc hc _ _ _) (.inl (d.fn x))) λD σ H U q=>by
  obtain⟨B,E,O,W,st,q⟩:=q;rw[ex]at q;cases e:evX cal y W with
  |none=>rw[e]at q;exact(show False from q).elim
  |some cr =>
   obtain⟨s,l⟩:=cr;rw[e]at q;refine⟨B,E,O,W,s,l,st,e,λu H' _ z Y Z=>?_⟩;obtain⟨J,k2⟩:=z.store (ltN hi U) Z;exact q _ H' O J (Y.trans k2)
def F4{i:Nat}{xs:List XE}{x:Str}{es:List Expr}{px p pos:Pos}(d:Df X)(hi:X.N[i]?=some x)(hx:Loc X.env.scope x)(h:PA X es (tXs X.K cal xs)):PS X (.Assign [.Name x px] (.List es p) pos) (tS X.K cal (.ownX i xs)):=
 PS.imp' (jR d.nd hi hx (uL h) (dc rfl _ _ _) (.inl (d.fn x))) λD σ H hl q=>by
  obtain⟨B,E,O,W,st,q⟩:=q;rw[ex]at q;cases e:evXs cal xs W with
  |none=>rw[e]at q;exact(show False from q).elim
  |some cr =>
   obtain⟨vs,l⟩:=cr;rw[e]at q;dsimp only at q;split at q
   .rename_i z;refine⟨B,E,O,W,vs,l,st,e,λus H1 _ U k1 rs=>⟨by rw[<- rs.length];exact cM z,λa J=>?_⟩⟩;obtain⟨Y,k2⟩:=U.storeOwn (ltN hi hl) (ay J (.lst us)) J ax (Reps.mono (bU (ay J _) λb Z=>by
     rcases wh.mp Z with rfl|Z
     .exact .inr J
     .exact .inl Z) _ rs)
    exact q _ _ _ Y (k1.trans k2)
   .exact(show False from q).elim
def Dc(h:PE X v (tX X.K cal y)):PS X (.Return (some v) pos) (tS X.K cal (.retXE y)):=by
 refine(qH h).imp λD σ H q=>?_
 obtain⟨B,E,O,W,st,q⟩:=q;rw[ex]at q;cases e:evX cal y W with
 |none=>rw[e]at q;exact(show False from q).elim
 |some cr =>
  obtain⟨s,l⟩:=cr;rw[e]at q;exact⟨B,E,O,W,s,l,st,e,λu H' _ z J U=>q u σ H' O z J U⟩
def F5(h:PE X v (tX X.K cal y))(hn:ba X.N X.env.scope i x=true)(hs:ah v=true)(J:(apos.endLine==cpos.line)=true) :
  PS X (.Expr (.Call (.Attribute (.Name x p) "append" apos) [v] [] cpos) pos) (tS X.K cal (.appX i y)):=by
 refine(qG (zg PySem.F.plainAttrs_list PySem.F.slot_list_append PySem.F.type_list_append lj (cx hn) (aR h bN (a_ hs _ _)) rfl (by rw[a_ hs];rfl) J (a_ hs _ _) rfl) rfl).imp λD σ H q=>?_
 obtain⟨B,E,O,W,st,q⟩:=q;rw[ex]at q;cases hj:(W[i]?).join with
 |none=>rw[hj]at q;exact(show False from q).elim
 |some m =>
  rw[hj]at q;cases m with
  |own aO =>
   dsimp only at q;obtain⟨a4,eu,a,U,rfl,ha,_,hO,_⟩:=aZ st hj;cases e:evX cal y W with
   |none=>rw[e]at q;exact(show False from q).elim
   |some cr =>
    obtain⟨w,l⟩:=cr;rw[e]at q;dsimp only at q;cases z:(l[i]?).join with
    |none=>rw[z]at q;exact(show False from q).elim
    |some m' =>
     rw[z]at q;cases m' with
     |own xs =>
      dsimp only at q;split at q
      .rename_i hl;refine⟨_,eu,.inl ⟨rfl,U,SqL.of ha⟩,B,E,O,W,w,l,st,e,λu H1 v1 Y k1 ru=>?_⟩;refine aB λZq kq=>?_
       obtain⟨u1,Z,a1,us,e5,a2,rs,_,_⟩:=aZ Y z;rw[eu]at Z;cases Z;cases e5;refine kq ?_;refine⟨a,us,u,rfl,rfl,a2,?_,?_⟩
       .rw[<- rs.length];exact Kt hl (by decide)
       .obtain⟨a3,k2⟩:=Y.change (us:=us++[u]) (ys:=xs++[w]) (aH z) eu (rs.snoc ru);exact q _ _ _ a3 (k1.trans k2)
      .exact(show False from q).elim
     | _=>exact(show False from q).elim
  | _=>exact(show False from q).elim
def aG.storeP{K:N0}(st:aG K B E O H W σ)(hi:i<σ.length)(s:ai H H')(U:H p=none)(J:H' p=some (.lst us))(r:Reps K (aw H' (p::O)) (ns.map .int) us):aG K B E (p::O) H' (put W i (.ownD (.p ns))) (σ.set i (some (.ref p)))/\bo B O (p::O) W (put W i (.ownD (.p ns))) σ (σ.set i (some (.ref p))):=by
 have Y:=r.ints;subst Y;exact st.storeM hi s U (by rw[J];simp) rfl (λ_ z=>by cases z) λZ=>⟨p,rfl,J,Ly,Z⟩
def F6 {px p p2 pos2 cp pos:Pos} (g:Gf X T k cal) (d:Df X) (hi:X.N[i]?=some x) (hx:Loc X.env.scope x) (h1:glB X.env.scope ("list":Str)=true) (h2:glB X.env.scope ("reversed":Str)=true) (h:PE X e (tE X.K cal Z)) (hs:ah e=true):PS X (.Assign [.Name x px] (.Call (.Name ("list":Str) p) [.Call (.Name ("reversed":Str) p2) [e] [] pos2] [] cp) pos) (tS X.K cal (.setP i Z)):=by
 refine PS.imp' (jR d.nd hi hx (u8 g.calm (dE h1) (g.blt "list" (by decide)) rA (dE h2) (g.blt "reversed" (by decide)) h (a_ hs _ _)) (dc (v:=.Call _ _ _ _) rfl _ _ _) (.inl (d.fn x))) λD σ H hl q=>?_
 obtain⟨B,E,O,W,st,q⟩:=q;rw[ex]at q;cases J:ev cal Z W with
 |none=>rw[J]at q;exact(show False from q).elim
 |some w =>
  rw[J]at q;cases w with
  |lst xs =>
   dsimp only at q;cases U:bj xs with
   |none=>rw[U]at q;exact(show False from q).elim
   |some ns =>
    rw[U]at q;have e3:=eA U;subst e3;refine⟨B,E,O,W,_,st,J,λu H1 s1 g1=>?_⟩;obtain⟨a,us,rfl,sq,rs⟩:=g1.1.lst;have e4:=rs.ints;subst e4;refine⟨a,_,rfl,sq,λl z=>?_⟩;rw[show(ns.map V.int).reverse=ns.reverse.map V.int from map_reverse.symm];obtain⟨Y,k'⟩:=st.storeP (ns:=ns.reverse) (ltN hi hl) (s1.trans (ay z (.lst (ns.reverse.map V.int)))) (s1.free z) ax (Reps.of_ints _);exact q _ _ _ Y k'
  | _=>exact(show False from q).elim
end
section
variable{K:N0}{B H:Hp}{E O:List Addr}{W:Rho}{σ:St}
def IL(J:aG K (bh B O H1 L) E U H' l F)(k:bo (bh B O H1 L) O U W l σ F):ai (aw H1 O) (aw H' U):=λb u e=>by
 have Z:b∉O:=λz=>by rw[e_ z]at e;cases e
 have Y:bh B O H1 L b=some u:=cy b u e;rw[be]
 .exact J.keep b u Y
 .intro z;rcases k.new b z with q|q
  .exact Z q
  .rw[Y]at q;cases q
def Dd(st:aG K B E O H W σ):aG K (bh B O H (bp ms W σ)) E O H (bu ms W) σ/\(bu ms W).length=W.length:=by
 have base:∀L,(∀a∈L,∀(j:Nat) ys,(bu ms W)[j]?=some (some ys)->i6 ys=true->σ[j]?≠some (some (.ref a)))->(∀(j:Nat) m,(bu ms W)[j]?=some (some m)->(∃ys,m=.brw ys/\W[j]?=some (some (.own ys))/\∃a,σ[j]?=some (some (.ref a))/\a∈L)\/W[j]?=some (some m))->(bu ms W).length=W.length ->
   aG K (bh B O H L) E O H (bu ms W) σ:=λL h1 h2 h3=>by
  have gl:=n8 (O:=O) (L:=L) st.keep;have lg:=eC (O:=O) (L:=L) st.keep;refine⟨gl,st.here,st.sub,λa ha z=>st.old a ha (lg.free z),h3.trans st.len,λj m e=>?_,λc d ps qs ad a9 e1 e2 p1 p2 e3 e4=>?_
   ⟩
  .rcases h2 j m e with⟨ys,rfl,e2,a,ea,J⟩|e2
   .obtain⟨u,Y,a',us,rfl,U,q2,Z,q4⟩:=st.slot j _ e2;rw[ea]at Y;cases Y;refine⟨_,ea,a,us,rfl,SqL.of ?_,q2⟩;unfold bh;rw[if_pos Z,if_pos J];exact U
   .obtain⟨u,Y,q⟩:=st.slot j m e2;refine⟨u,Y,?_⟩;cases m with
    |val v=>exact q
    |own ys =>
     obtain⟨a,us,rfl,U,q2,Z,q4⟩:=q;refine⟨a,us,rfl,U,q2,Z,?_⟩;unfold bh;rw[if_pos Z,if_neg λJ=>h1 a J j (.own ys) e rfl Y];exact q4
    |ownD ys =>
     obtain⟨a,rfl,U,Z,q4⟩:=q;refine⟨a,rfl,U,Z,?_⟩;unfold bh;rw[if_pos Z,if_neg λJ=>h1 a J j (.ownD ys) e rfl Y];exact q4
    |mutD ys =>
     obtain⟨a,rfl,U,Z,q4⟩:=q;refine⟨a,rfl,U,Z,?_⟩;unfold bh;rw[if_pos Z,if_neg λJ=>h1 a J j (.mutD ys) e rfl Y];exact q4
    |brwD ys=>obtain⟨a,rfl,U⟩:=q;exact⟨a,rfl,ai.rd lg U⟩
    |brw ys=>obtain⟨a,us,rfl,U,q2⟩:=q;exact⟨a,us,rfl,lg.seq U,q2⟩
  .rcases h2 c _ e1 with⟨_,rfl,_⟩|e1
   .cases p1
   .rcases h2 d _ e2 with⟨_,rfl,_⟩|e2
    .cases p2
    .exact st.apart c d ps qs ad a9 e1 e2 p1 p2 e3 e4
 have plain:bu ms W=W->bp ms W σ=[]->aG K (bh B O H (bp ms W σ)) E O H (bu ms W) σ/\(bu ms W).length=W.length:=λe1 e2=>by
  rw[e2];exact⟨base [] (λa ha=>by simp at ha) (λj m e=>.inr (by rw[e1]at e;exact e)) (by rw[e1]),by rw[e1]⟩
 match ms with
 | []|.var _::_|.cst _::_|.glob _ _::_|.bin _ _ _::_|.neg _::_|.not _::_|.and _ _::_|.or _ _::_|.ite _ _ _::_|.cmp _ _ _::_|.chain _ _ _ _ _::_|.tup _::_|.lst _::_|.idx _ _::_|.slice _ _ _::_|.blt _ _::_|.call _ _::_|.callD _ _ _::_|.comp _ _ _ _ _::_|.dget _ _ _::_|.dat _ _::_|.dIn _ _ _::_|.lenP _::_|.disp _ _::_|.bor _::_::_=>exact plain rfl rfl
 | [.bor i] =>
  cases hj:(W[i]?).join with
  |none=>exact plain (by simp[bu,hj]) (by simp[bp,hj])
  |some m =>
   cases m with
   |own xs =>
    refine aB λZq kq=>?_
    have el:bu [.bor i] W=put W i (.brw xs):=by simp[bu,hj]
    have e0:=aH hj;obtain⟨u,Y,a,us,rfl,U,q2,Z,q4⟩:=st.slot i _ e0;have eL:bp [.bor i] W σ=[a]:=by simp[bp,hj,Y]
    have a3:=(Ku.mp e0).1;refine kq ?_;rw[eL];refine⟨base [a] (λb hb j ys e oy z=>?_) (λj m e=>?_) (by rw[el,put_len]),by rw[el,put_len]⟩
    .have:b=a:=by simpa using hb
     subst this;rw[el]at e;have a4:i≠j:=λz=>by subst z;rw[aj a3]at e;cases e;cases oy
     rw[ag a4]at e;exact st.apart i j (.own xs) ys b a4 e0 e rfl oy Y z
    .rw[el]at e;by_cases a5:i=j
     .subst a5;rw[aj a3]at e;cases e;exact .inl ⟨xs,rfl,e0,a,Y,by simp⟩
     .rw[ag a5]at e;exact .inr e
   | _=>exact plain (by simp[bu,hj]) (by simp[bp,hj])
def kR(h:(bu ms W)[j]?=some (some (.brw ys))):W[j]?=some (some (.brw ys))\/(ms=[.bor j]/\W[j]?=some (some (.own ys))):=by
 unfold bu at h;split at h
 .rename_i i;split at h
  .rename_i xs U;have Y:=aH U;have J:=(Ku.mp Y).1;by_cases z:i=j
   .subst z;rw[aj J]at h
    simp_all
   .rw[ag z]at h;exact .inl h
  .exact .inl h
 .exact .inl h
def lK{j:Nat}(h:(bu ms W)[j]?=some (some (.brwD ys))):W[j]?=some (some (.brwD ys)):=by
 unfold bu at h;split at h
 .rename_i i;split at h
  .rename_i xs U;have Y:=aH U;have J:=(Ku.mp Y).1;by_cases z:i=j
   .subst z;rw[aj J]at h;cases h
   .rw[ag z]at h;exact h
  .exact h
 .exact h
def ye{j:Nat}(h:(bu ms W)[j]?=some (some (.mutD ys))):W[j]?=some (some (.mutD ys)):=by
 unfold bu at h;split at h
 .rename_i i;split at h
  .rename_i xs U;have Y:=aH U;have J:=(Ku.mp Y).1;by_cases z:i=j
   .subst z;rw[aj J]at h;cases h
   .rw[ag z]at h;exact h
  .exact h
 .exact h
def oA :(bu ms W).length=W.length:=by
 unfold bu;split
 .split
  .exact put_len
  .rfl
 .rfl
def rG(st:aG K B E O H1 W σ)(J:aG K (bh B O H1 (bp ms W σ)) E O' H' l F)(k:bo (bh B O H1 (bp ms W σ)) O O' (bu ms W) l σ F) :
  aG K B E O' H' (aM ms W l) F/\bo B O O' W (aM ms W l) σ F:=by
 have lg:=eC (O:=O) (L:=bp ms W σ) st.keep;have a8:=IL J k;have stay:∀a,B a≠none->a∈O->a∈O':=λa h1 h2=>k.stay a (λz=>h1 (lg.free z)) h2
 have new:∀a∈O',a∈O\/B a=none:=λa h=>(k.new a h).imp id lg.free
 have mutK:∀(j:Nat) d',l[j]?=some (some (.mutD d'))->(∃d,W[j]?=some (some (.mutD d)))/\F[j]?=σ[j]?:=λj d' e=>by
  obtain⟨⟨d,e1⟩,U⟩:=k.mutK j d' e;exact⟨⟨d,ye e1⟩,U⟩
 have slot:∀j m,l[j]?=some (some m)->(∀ys,m=.brw ys->¬ (ms=[.bor j]/\W[j]?=some (some (.own ys))))->∃u,F[j]?=some (some u)/\fz K B O' H' m u:=λj m e hn=>by
  obtain⟨u,eu,q⟩:=J.slot j m e;refine⟨u,eu,?_⟩;cases m with
  |val v=>exact q
  |own ys=>obtain⟨a,us,rfl,q1,q2,q3,q4⟩:=q;exact⟨a,us,rfl,q1,q2,q3,lg.free q4⟩
  |brw ys =>
   obtain⟨e1,U⟩:=k.brw j (.brw ys) rfl e;rcases kR e1 with Z|Z
   .obtain⟨w,ew,a,us,rfl,q1,q2⟩:=st.slot j _ Z;rw[eu,ew]at U;cases U;exact⟨a,us,rfl,q1,Reps.mono a8 _ q2⟩
   .exact absurd Z (hn ys rfl)
  |brwD ys =>
   obtain⟨e1,U⟩:=k.brw j (.brwD ys) rfl e;obtain⟨w,ew,a,rfl,q1⟩:=st.slot j _ (lK e1);rw[eu,ew]at U;cases U;exact⟨a,rfl,q1⟩
  | _=>obtain⟨a,rfl,q1,q3,q4⟩:=q;exact⟨a,rfl,q1,q3,lg.free q4⟩
 by_cases hA:∃i a0 xs,ms=[.bor i]/\(W[i]?).join=some (.own a0)/\(l[i]?).join=some (.brw xs)
 .obtain⟨i,a0,xs,rfl,h0,h1⟩:=hA;have eb:aM [.bor i] W l=put l i (.own xs):=by simp[aM,h0,h1]
  rw[eb];have e0:=aH h0;have e1:=aH h1;have a3:=(Ku.mp e1).1;obtain⟨el,es⟩:=k.brw i (.brw xs) rfl e1;have exs:xs=a0:=by
   rcases kR el with Z|⟨_,Z⟩
   .rw[e0]at Z;cases Z
   .rw[e0]at Z;cases Z;rfl
  subst exs;obtain⟨w,ew,a,us,rfl,q1,q2,q3,q4⟩:=st.slot i _ e0;have eL:bp [.bor i] W σ=[a]:=by simp[bp,h0,ew]
  have ga:bh B O H1 (bp [.bor i] W σ) a=some (.lst us):=by
   unfold bh;rw[eL,if_pos q3,if_pos (by simp)];exact q1
  have other:∀(j:Nat) ys ad,l[j]?=some (some ys)->i6 ys=true->F[j]?=some (some (.ref ad))->ad≠a:=λj ys ad h1 oy h2 z=>by
   obtain⟨u,eu,qq⟩:=J.slot j _ h1;rw[h2]at eu;cases eu;cases ys with
   |own ys =>
    obtain⟨b,_,U,_,_,_,q⟩:=qq;cases U;rw[z,ga]at q;cases q
   |ownD ys|mutD ys =>
    obtain⟨b,U,_,_,q⟩:=qq;cases U;rw[z,ga]at q;cases q
   | _=>cases oy
  refine⟨⟨lg.trans J.keep,J.here,J.sub,st.old,by rw[put_len];exact J.len,λj m e=>?_,λc d ps qs ad b0 e1 U p1 p2 Z e4=>?_
   ⟩,⟨stay,new,λj ys aO e=>?_,by rw[put_len];exact k.len.trans oA
   ,λj d' e=>?_
   ⟩⟩
  .by_cases Y:i=j
   .subst Y;rw[aj a3]at e;cases e;refine⟨_,by rw[es];exact ew,a,us,rfl,J.keep _ _ ga,Reps.mono a8 _ q2,k.stay a (by rw[ga];simp) q3,q4⟩
   .rw[ag Y]at e;exact slot j m e λys _ ⟨z,_⟩=>Y (by cases z;rfl)
  .by_cases hc:i=c
   .subst hc;rw[es,ew]at Z;cases Z;rw[ag b0]at U;exact other d qs _ U p2 e4 rfl
   .rw[ag hc]at e1;by_cases hd:i=d
    .subst hd;rw[es,ew]at e4;cases e4;exact other c ps _ e1 p1 Z rfl
    .rw[ag hd]at U;exact J.apart c d ps qs ad b0 e1 U p1 p2 Z e4
  .by_cases Y:i=j
   .subst Y;rw[aj a3]at e;cases e;cases aO
   .rw[ag Y]at e;obtain⟨e1,U⟩:=k.brw j ys aO e;cases ys with
    |brw ys =>
     rcases kR e1 with Z|⟨z,_⟩
     .exact⟨Z,U⟩
     .cases z;exact absurd rfl Y
    |brwD ys=>exact⟨lK e1,U⟩
    | _=>cases aO
  .by_cases Y:i=j
   .subst Y;rw[aj a3]at e;cases e
   .rw[ag Y]at e;exact mutK j d' e
 .have eb:aM ms W l=l:=by
   unfold aM;split
   .rename_i i;split
    .rename_i a0 xs h0 h1;exact absurd ⟨i,a0,xs,rfl,h0,h1⟩ hA
    .rfl
   .rfl
  rw[eb];have no:∀j ys,l[j]?=some (some (.brw ys))->¬ (ms=[.bor j]/\W[j]?=some (some (.own ys))):=λj ys e ⟨h1,h2⟩=>hA ⟨j,ys,ys,h1,by rw[h2];rfl,by rw[e];rfl⟩
  refine⟨⟨lg.trans J.keep,J.here,J.sub,st.old,J.len,λj m e=>slot j m e λys z=>no j ys (by rw[e,z]),J.apart
   ⟩,⟨stay,new,λj ys aO e=>?_,k.len.trans oA
   ,λj d' e=>mutK j d' e
   ⟩⟩
  obtain⟨e1,U⟩:=k.brw j ys aO e;cases ys with
  |brw ys =>
   rcases kR e1 with Z|Z
   .exact⟨Z,U⟩
   .exact absurd Z (no j ys e)
  |brwD ys=>exact⟨lK e1,U⟩
  | _=>cases aO
end
section
variable{X:Cx}{T:Tab}{k:Nat}{cal:Cal}
def De(K:N0)(n:Nat)(g:TG)(tk:PV->Rho->Option Rho):Prop:=
 ∀B E O H W l σ x u (Q:St->Hp->Prop),σ.length=n->aG K B E O H W σ->Rep K (aw H O) x u->tk x W=some l ->
  (∀F,aG K B E O H l F->bo B O O W l σ F->Q F H)->g u σ H Q
def tN{K:N0}(hn:σ.length=n)(hg:De K n g tk)(Y:aG K B E O H1 W σ)(it:n6 K J xs (aw H1 O) (bh B O H1 (bp ms W σ)))
  (q:hV K B E O W σ D ((aq (λx l=>cD (tk x l) λU=>exs cal body U) xs (bu ms W)).back ms W)):Ev (λ_ _ R=>R J H1) g (tSs K cal body) D σ H1:=by
 obtain⟨b0,_⟩:=Dd (ms:=ms) Y;refine⟨λi m F H'=>m=xs.length-i/\i<=xs.length/\∃l O',aG K (bh B O H1 (bp ms W σ)) E O' H' l F/\bo (bh B O H1 (bp ms W σ)) O O' (bu ms W) l σ F /\
  aq (λx l=>cD (tk x l) λU=>exs cal body U) (xs.drop i) l=aq (λx l=>cD (tk x l) λU=>exs cal body U) xs (bu ms W),⟨xs.length,by simp,KI _,bu ms W,O,b0,.refl,by simp⟩,?_⟩
 rintro i m F H' ⟨rfl,hi,l,O',Z,k',eq⟩;by_cases a6:i<xs.length
 .right;have ex:=Kz a6;refine⟨it.go i _ H' Z.keep ex,λa2 H2=>∃m',m'<xs.length-i/\(m'=xs.length-(i+1)/\i+1<=xs.length/\∃l O',aG K (bh B O H1 (bp ms W σ)) E O' H2 l a2/\bo (bh B O H1 (bp ms W σ)) O O' (bu ms W) l σ a2 /\
   aq (λx l=>cD (tk x l) λU=>exs cal body U) (xs.drop (i+1)) l=aq (λx l=>cD (tk x l) λU=>exs cal body U) xs (bu ms W)),λa2 H2 z=>z,λu H2 y=>?_⟩
  obtain⟨s2,hr⟩:=it.yld i _ H' u H2 Z.keep ex y;have b1:=IL Z k';have hx:=hr O' Z.here (b1.trans (am s2));rw[Nj a6,aq]at eq;cases et:tk xs[i] l with
  |none =>
   rw[et]at eq;rw[<- eq]at q;exact(show False from q).elim
  |some ao =>
   rw[et,show cD (some ao) (λU=>exs cal body U)=exs cal body ao from rfl]at eq;have a8:F.length=n:=by rw[<- Z.len,k'.len,oA,Y.len];exact hn
   refine hg _ E O' H2 l ao F _ u _ a8 (Z.mono s2) hx et λa2 b3 k2=>?_
   refine⟨_,E,O',ao,b3,?_⟩;have kk:=k'.trans k2;cases er:exs cal body ao with
   |next a3|cont a3 =>
    rw[er]at eq;exact λa4 H3 O3 aO k3=>⟨_,by omega,rfl,a6,a3,O3,aO,kk.trans k3,eq⟩
   |brk a3 =>
    rw[er]at eq;rw[<- eq]at q;exact λa4 H3 O3 aO k3=>by
     obtain⟨a0,kb⟩:=rG Y aO (kk.trans k3);exact q a4 H3 O3 a0 kb
   |ret v =>
    rw[er]at eq;rw[<- eq]at q;exact λw H3 s3 r=>q w H3 ((eC Y.keep).trans s3) r
   |retM v a3 =>
    rw[er]at eq;rw[<- eq]at q;exact λu a4 H3 O3 aO k3 ru=>by
     obtain⟨a0,kb⟩:=rG Y aO (kk.trans k3);exact q u a4 H3 O3 a0 kb ru
   |retF ys =>
    rw[er]at eq;rw[<- eq]at q;exact λp us H3 s3 hp he r=>q p us H3 ((eC Y.keep).trans s3) ((eC Y.keep).free hp) he r
   |bad =>
    rw[er]at eq;rw[<- eq]at q;exact(show False from q).elim
 .left;have ei:i=xs.length:=by omega
  subst ei;rw[drop_length,aq]at eq;rw[<- eq]at q;obtain⟨a0,kb⟩:=rG Y Z k';exact⟨it.stop H' Z.keep,q F H' O' a0 kb⟩
def AM{K:N0}(U:σ.length=n)(Y:De K n g tk)(st:aG K B E O H W σ)(Z:evs cal ms W=some vs)(e2:bg k' vs=some xs)
  (q:hV K B E O W σ D ((aq (λx l=>cD (tk x l) λz=>exs cal body z) xs (bu ms W)).back ms W)):Ev (tW K cal k' ms) g (tSs K cal body) D σ H:=by
 exact⟨B,E,O,W,vs,xs,st,Z,e2,λJ H1 s1 it=>tN U Y (st.mono s1) it q⟩
def wO{K:N0}(hi:i<n):De K n (jD i) (λx W=>some (put W i (.val x))):=by
 intro B E O H W l σ x u Q U st r e q;cases e;obtain⟨z,J⟩:=st.store (i:=i) (by omega) r;exact q _ z J
def F7(g:Gf X T k cal)(d:Df X)(hi:X.N[i]?=some x)(hx:Loc X.env.scope x)(hw:PI X (.Name x px) it (tW X.K cal J src))(z:fC it=true)(U:PSs X b (tSs X.K cal body)) :
  PS X (.For (.Name x px) it b [] pos) (tS X.K cal (.for1 i J src body)):=by
 refine PS.imp' (uH d.own g.calm hw (mN d.nd hi hx (.inl (d.fn x))) U (by intro v;cases it<;>first|rfl|(simp[fC]at z))) λD σ H Y q=>?_
 obtain⟨B,E,O,W,st,q⟩:=q;rw[ex]at q;cases e:(evs cal src W).bind (bg J)with
 |none=>rw[e]at q;exact(show False from q).elim
 |some xs =>
  rw[e]at q;simp only[ft]at e;obtain⟨vs,Z,e2⟩:=e;exact AM (tk:=λx W=>some (put W i (.val x))) rfl (wO (ltN hi Y)) st Z e2 q
def F9 (g:Gf X T k cal) (d:Df X) (hi:X.N[i]?=some x) (hx:Loc X.env.scope x) (Z:glB X.env.scope ("range":Str)=true) (h:PE X e (tX X.K cal y)) (hs:ah e=true) (hb:PSs X b (tSs X.K cal body)) :
  PS X (.For (.Name x px) (.Call (.Name ("range":Str) p) [e] [] rp) b [] pos) (tS X.K cal (.forX i y body)):=by
 refine PS.imp' (uH d.own g.calm (AL g Z h hs) (mN d.nd hi hx (.inl (d.fn x))) hb (by intro v;rfl)) λD σ H hl q=>?_
 obtain⟨B,E,O,W,st,q⟩:=q;rw[ex]at q;cases z:evX cal y W with
 |none=>rw[z]at q;exact(show False from q).elim
 |some pr =>
  obtain⟨v,l⟩:=pr;rw[z]at q;dsimp only at q;cases U:bg .rng [v]with
  |none=>rw[U]at q;exact(show False from q).elim
  |some xs =>
   rw[U]at q;refine⟨B,E,O,W,v,l,xs,st,z,U,λJ H1 _ Y k1 it=>?_⟩;refine tN (ms:=[.cst v]) (tk:=λx W=>some (put W i (.val x))) rfl (wO (ltN hi hl)) Y it ?_;have q2:=hV.trans q k1;have back:∀r:R,r.back [.cst v] l=r:=λr=>by cases r<;>rfl
   rw[back];exact q2
end
noncomputable def rH:List Nat->TGs
 | []=>Hi
 |i::is=>DJ (jD i) (rH is)
section
variable{X:Cx}{T:Tab}{k:Nat}{cal:Cal}
theorem oB:∀{is}{z},dX X.N X.env.scope is z=true->(assignEach z X.env).length=is.length/\(assignEach z X.env).findIdx? (·.1)=none
 | [],[],_=>⟨rfl,rfl⟩
 | [],_::_,h=>by cases h
 | _::_,[],h=>by cases h
 |i::is,e::z,h=>by
  cases e<;>first|(cases h;done)|skip
  simp only[ra,gQ]at h;rename_i x p;obtain⟨h1,h2⟩:=oB h.2;refine⟨?_,?_⟩
  .show((false,assign (.Name x p) X.env)::assignEach z X.env).length=_;simp[h1]
  .show((false,assign (.Name x p) X.env)::assignEach z X.env).findIdx? (·.1)=none;rw[findIdx?_cons];simp[h2]
theorem qg(d:Df X):∀{is}{z},dX X.N X.env.scope is z=true->PGs X z (rH is)
 | [],[],_=>B1
 | [],_::_,h=>by cases h
 | _::_,[],h=>by cases h
 |i::is,e::z,h=>by
  cases e<;>first|(cases h;done)|skip
  simp[ra,gQ]at h;rename_i x p;exact yS (mN d.nd h.1.1.1 (i8 h.1.1.2) (.inl (d.fn x))) (qg d h.2) rfl
theorem tO:∀{is}{J},dX X.N X.env.scope is J=true->∀i∈is,i<X.N.length
 | [],[],_=>λi hi=>by simp at hi
 | [],_::_,h=>by cases h
 | _::_,[],h=>by cases h
 |i::is,e::J,h=>λj z=>by
  cases e<;>first|(cases h;done)|skip
  simp[ra,gQ]at h;rcases wh.mp z with rfl|z
  .exact(Ku.mp h.1.1.1).1
  .exact tO h.2 j z
theorem wP{K:N0}:∀{is}{vs}{us}{B}{E O}{H}{W l}{σ}{Q:St->Hp->Prop},(∀i∈is,i<σ.length)->aG K B E O H W σ->Reps K (aw H O) vs us->nS is vs W=some l ->
  (∀F,aG K B E O H l F->bo B O O W l σ F->Q F H)->rH is us σ H Q
 | [],[],us,_,_,_,_,_,_,_,_,_,st,r,e,q=>by
  subst r;cases e;exact⟨rfl,q _ st .refl⟩
 | [],_::_,_,_,_,_,_,_,_,_,_,_,_,_,e,_=>by simp[nS]at e
 | _::_,[],_,_,_,_,_,_,_,_,_,_,_,_,e,_=>by simp[nS]at e
 |i::is,v::vs,us,B,E,O,H,W,l,σ,Q,hi,st,r,e,q=>by
  obtain⟨u,U,rfl,Y,Z⟩:=r;obtain⟨z,k1⟩:=st.store (i:=i) (hi i (.head _)) Y;refine⟨u,U,rfl,?_⟩;exact wP (λj hj=>by rw[MW];exact hi j (.tail _ hj)) z Z e λF J k'=>q F J (k1.trans k')
def F_{K:N0}(hi:∀i∈is,i<n):De K n (Hj K is.length (rH is)) (cX is):=by
 intro B E O H W l σ x u Q J st r e q;cases x with
 |tup vs =>
  obtain⟨a,us,rfl,U,z⟩:=r;have Y:∀{is}{vs}{W l},nS is vs W=some l->vs.length=is.length:=by
   intro is
   induction is with
   |nil=>intro vs W l h;cases vs<;>simp[nS]at h ⊢
   |cons i is ih=>intro vs W l h;cases vs<;>simp[nS]at h ⊢;exact ih h
  exact⟨a,us,rfl,(bX H O).seqT (eO U),by rw[<- z.length];exact Y e,wP (λi h=>by rw[J];exact hi i h) st z e q⟩
 | _=>cases e
def Ga(g:Gf X T k cal)(d:Df X)(hi:dX X.N X.env.scope is J=true)(hw:PI X (.Tuple J j Y) it (tW X.K cal U src))(z:fC it=true)(Z:PSs X b (tSs X.K cal body)) :
  PS X (.For (.Tuple J j Y) it b [] pos) (tS X.K cal (.forT is U src body)):=by
 obtain⟨h1,h2⟩:=oB hi;refine PS.imp' (uH d.own g.calm hw (Eu g.calm (qg d hi) h1 h2) Z (by intro v;cases it<;>first|rfl|(simp[fC]at z))) λD σ H hl q=>?_
 obtain⟨B,E,O,W,st,q⟩:=q;rw[ex]at q;cases e:(evs cal src W).bind (bg U)with
 |none=>rw[e]at q;exact(show False from q).elim
 |some xs =>
  rw[e]at q;simp only[ft]at e;obtain⟨vs,e1,e2⟩:=e;exact AM (tk:=cX is) hl (F_ (tO hi)) st e1 e2 q
def wQ(g:Gf X T k cal)(d:Df X)(hi:X.N[i]?=some x)(hx:Loc X.env.scope x)(hc:chk T Z X.N X.env.scope v=true)(hs:p_ X.env.scope x px v Z=true):∃t,PS X (.Assign [.Name x px] v pos) (yT t (jD i))/\(∀σ H Q,tF X.K cal Z σ H Q->t σ H Q)/\i7 Z=true:=by
 unfold p_ at hs;have hl:=ak hs;obtain⟨c,w,_⟩:=hl;obtain rfl:=va w;cases Z with
 |comp k' src js cond elt =>
  obtain⟨e,y,py,it,ifs,scope,cpos,e0,h⟩:=lD hc;rw[e0]at hs ⊢;simp only[gQ,KD]at h;obtain⟨⟨⟨⟨h1,h2⟩,h3⟩,h4⟩,h5⟩:=h;have hw:=lJ (tg:=.Name y py) (λz=>by cases z) g h2 (λxs Y=>⟨sounds src g Y,bK Y⟩) (λm x hm hx=>match src,hm with|[m'],rfl=>(av m' g (ca hx).1.1).1);exact⟨_,uX d.nd hi hx (lH h1) g.calm hw.1 (λJ U C fp=>rC h3 λc hc=>(av cond (g.blk y _ scope J U C fp) hc).2) (λJ U C fp=>(av elt (g.blk y _ scope J U C fp) h4).1) (x9 d hs) (by have:=hw.2;intro v;cases it<;>first|rfl|(simp[fC]at this)) (.inl (d.fn x)),
   λσ H Q q=>vm.comp_go h5 q,rfl⟩
 | _=>cases (show false=true from hc)
def IM(U:i7 J=true){K:N0}(q:tE K cal J σ H Q):tF K cal J σ H Q:=by
 obtain⟨B,E,O,W,v,st,z,q⟩:=q;have hv:∃xs,v=.lst xs:=by
  cases J with
  |lst es =>
   rw[ev,ft]at z;obtain⟨vs,_,hv⟩:=z;split at hv
   .cases hv;exact⟨_,rfl⟩
   .cases hv
  |comp _ _ _ _ _=>exact tK W v z
  |blt b es=>cases b<;>first|exact dY (.inl rfl) W v z|exact dY (.inr (.inl rfl)) W v z|exact dY (.inr (.inr (.inl rfl))) W v z|exact dY (.inr (.inr (.inr (.inl rfl)))) W v z|exact dY (.inr (.inr (.inr (.inr rfl)))) W v z|(simp[i7]at U)
  | _=>simp[i7]at U
 obtain⟨xs,rfl⟩:=hv;exact⟨B,E,O,W,xs,st,z,λp us H' s Y Z r=>q _ _ s (wG st.here Y Z r)⟩
end
section
variable{T:Tab}{N:List Str}{sc:Scope}
def Dg(h:g9 T N sc (.set i e) s=true):∃x px v pos,s=.Assign [.Name x px] v pos/\(N[i]?==some x&&fT sc x&&ar x&&chk T e N sc v&&!aN e&&(bZ v||p_ sc x px v e))=true:=by
 obtain⟨q,z,h1⟩:=ak h;obtain⟨pos,rfl⟩:=jr z;exact⟨_,_,_,_,rfl,h1⟩
def Dh(h:g9 T N sc (.setOwn i e) s=true):∃x px v pos,s=.Assign [.Name x px] v pos/\(N[i]?==some x&&fT sc x&&ar x&&chk T e N sc v&&i7 e&&(bZ v||p_ sc x px v e))=true:=by
 obtain⟨q,z,h1⟩:=ak h;obtain⟨pos,rfl⟩:=jr z;exact⟨_,_,_,_,rfl,h1⟩
def vB (h:g9 T N sc (.append i e) s=true):∃x p m ap v cp pos,s=.Expr (.Call (.Attribute (.Name x p) m ap) [v] [] cp) pos/\(ba N sc i x&&m==("append":Str)&&chk T e N sc v&&!aN e&&ah v&&ap.endLine==cp.line)=true:=by
 obtain⟨q,z,h1⟩:=ak h;obtain⟨v,J,h2⟩:=ak h1;obtain⟨p,pos,rfl⟩:=rb z;rw[c9 J];exact⟨_,_,_,_,_,_,_,rfl,h2⟩
def vC (h:g9 T N sc (.extend i e) s=true):∃x p m ap v cp pos,s=.Expr (.Call (.Attribute (.Name x p) m ap) [v] [] cp) pos/\(ba N sc i x&&m==("extend":Str)&&chk T e N sc v&&ah v&&ap.endLine==cp.line)=true:=by
 obtain⟨q,z,h1⟩:=ak h;obtain⟨v,J,h2⟩:=ak h1;obtain⟨p,pos,rfl⟩:=rb z;rw[c9 J];exact⟨_,_,_,_,_,_,_,rfl,h2⟩
def AN(h:g9 T N sc (.dput i k e) s=true):∃x p s' sp v pos,s=.Assign [.Subscript (.Name x p) s' sp] v pos/\(ba N sc i x&&chk T k N sc s'&&b_ s'&&chk T e N sc v&&!aN e&&bZ v)=true:=by
 obtain⟨q,z,h1⟩:=ak h;obtain⟨p,sp,pos,rfl⟩:=CQ z;exact⟨_,_,_,_,_,_,rfl,h1⟩
def AO(h:g9 T N sc (.newD m i) s=true):∃x p dp pos,s=.Assign [.Name x p] (.Dict [] [] dp) pos/\(N[i]?==some x&&fT sc x&&ar x)=true:=by
 obtain⟨q,z,h1⟩:=ak h;rw[gQ]at h1;obtain⟨pos,rfl⟩:=jr z;obtain⟨p,J⟩:=Ag h1.1;rw[J];exact⟨_,_,_,_,rfl,h1.2⟩
def Di(h:g9 T N sc (.ite c a b) s=true):∃t x y pos,s=.If t x y pos/\(chk T c N sc t&&chkSs T N sc a x&&chkSs T N sc b y)=true:=by
 cases s with
 |If t x y pos=>exact⟨t,x,y,pos,rfl,h⟩
 | _=>cases (show false=true from h)
def AQ (h:g9 T N sc (.forX i y body) s=true):∃x px it b pos,s=.For (.Name x px) it b [] pos/\(N[i]?==some x&&fT sc x&&ar x&&onQ (fnQ it) (λq=>q.1==("range":Str)&&glB sc q.1&&q.2.2.isEmpty&&dl T y N sc q.2.1&&ah q.2.1)&&chkSs T N sc body b)=true:=by
 rw[CS]at h;split at h
 .exact⟨_,_,_,_,_,rfl,h⟩
 .cases h
def AR(h:g9 T N sc (.for1 i k src body) s=true):∃x px it b pos,s=.For (.Name x px) it b [] pos/\(N[i]?==some x&&fT sc x&&ar x&&nU sc false (λxs=>chks T src N sc xs) k it&&chkSs T N sc body b)=true:=by
 simp[CT]at h;split at h<;>first|(cases h;done)|(rename_i z;cases z;exact⟨_,_,_,_,_,rfl,h⟩)|(injections;done)|(injections;subst_vars;exact⟨_,_,_,_,_,rfl,h⟩)
def AS(h:g9 T N sc (.forT is k src body) s=true):∃J j U it b pos,s=.For (.Tuple J j U) it b [] pos/\(dX N sc is J&&nU sc true (λxs=>chks T src N sc xs) k it&&chkSs T N sc body b)=true:=by
 simp[CU]at h;split at h<;>first|(cases h;done)|(rename_i z;cases z;exact⟨_,_,_,_,_,_,rfl,h⟩)|(injections;done)|(injections;subst_vars;exact⟨_,_,_,_,_,_,rfl,h⟩)
def AT(h:g9 T N sc (.retM e) s=true):∃v pos,s=.Return (some v) pos/\(chk T e N sc v&&!aN e)=true:=by
 obtain⟨v,z,h1⟩:=ak h;obtain⟨pos,rfl⟩:=mU z;exact⟨_,_,rfl,h1⟩
def Dj(h:g9 T N sc (.ret e) s=true):∃v pos,s=.Return (some v) pos/\(chk T e N sc v&&!aN e)=true:=by
 obtain⟨v,z,h1⟩:=ak h;obtain⟨pos,rfl⟩:=mU z;exact⟨_,_,rfl,h1⟩
def vD(h:g9 T N sc (.retOwn i) s=true):∃x p pos,s=.Return (some (.Name x p)) pos/\(ba N sc i x)=true:=by
 obtain⟨v,z,h1⟩:=ak h;obtain⟨x,J,h2⟩:=ak h1;obtain⟨pos,rfl⟩:=mU z;obtain⟨p,rfl⟩:=Af J;exact⟨_,_,_,rfl,h2⟩
end
def yf(g:Gf X T k cal)(d:Df X)(h:g9 T X.N X.env.scope (.set i e) s=true):PS X s (tS X.K cal (.set i e)):=by
 obtain⟨x,px,v,pos,rfl,hc⟩:=Dg h;simp only[gQ,NU,Kv,KD]at hc;obtain⟨⟨⟨⟨⟨h1,h2⟩,h3⟩,J⟩,U⟩,z⟩:=hc;rcases z with z|z
 .exact IA d h1 (i8 h2) (av e g J).1 U z
 .obtain⟨t,p,Y,Z⟩:=wQ (pos:=pos) g d h1 (i8 h2) J z;exact PS.imp' p λD σ H hl q=>Y _ _ _ (IM Z (AE (ltN h1 hl) U q))
noncomputable def Gb:MS->Bool
 | .freeze _=>true
 | _=>false
mutual
theorem Gc{T:Tab}{k:Nat}{cal:Cal}{X:Cx}(g:Gf X T k cal)(d:Df X):∀(m:MS) (s:Stmt),g9 T X.N X.env.scope m s=true->PS X s (tS X.K cal m)
 | .set i e,s,h=>yf g d h
 | .setOwn i e,s,h=>by
  obtain⟨x,px,v,pos,rfl,hc⟩:=Dh h;simp only[gQ,NU,Kv]at hc;obtain⟨⟨⟨⟨⟨h1,h2⟩,h3⟩,J⟩,U⟩,h6⟩:=hc;rcases h6 with h6|h6
  .exact IB d h1 (i8 h2) (FS g J U) h6
  .obtain⟨t,p,hp,hf⟩:=wQ (pos:=pos) g d h1 (i8 h2) J h6;exact PS.imp' p λD σ H hl q=>hp _ _ _ (AF (ltN h1 hl) q)
 | .append i e,s,h=>by
  obtain⟨x,p,m,ap,v,cp,pos,rfl,hc⟩:=vB h;simp only[gQ,Kv,KD]at hc;obtain⟨⟨⟨⟨⟨h1,rfl⟩,h3⟩,J⟩,U⟩,h6⟩:=hc;exact AG (av e g h3).1 h1 J U (Kv.mpr h6)
 | .extend i e,s,h=>by
  obtain⟨x,p,m,ap,v,cp,pos,rfl,hc⟩:=vC h;simp only[gQ,Kv]at hc;obtain⟨⟨⟨⟨h1,rfl⟩,h3⟩,U⟩,h6⟩:=hc;exact AH (av e g h3).1 h1 U (Kv.mpr h6)
 | .setIdx _ _ _,s,h=>absurd (show false=true from h) mu
 | .unpack _ _,s,h=>absurd (show false=true from h) mu
 | .expr _,s,h=>absurd (show false=true from h) mu
 | .ite c a b,s,h=>by
  obtain⟨t,x,y,pos,rfl,hc⟩:=Di h;simp only[gQ]at hc;exact J7 (av c g hc.1.1).2 (soundSs g d a x hc.1.2) (soundSs g d b y hc.2)
 | .for1 i k' src body,s,h=>by
  obtain⟨x,px,it,b,pos,rfl,hc⟩:=AR h;simp only[gQ,Kv]at hc;obtain⟨⟨⟨⟨h1,h2⟩,h3⟩,J⟩,U⟩:=hc;have hw:=lJ (tg:=.Name x px) (λz=>by cases z) g J (λxs Y=>⟨sounds src g Y,bK Y⟩) (λm x hm hx=>match src,hm with|[m'],rfl=>(av m' g (by simp only[chks,gQ]at hx;exact hx.1.1)).1);exact F7 g d h1 (i8 h2) hw.1 hw.2 (soundSs g d body b U)
 | .forT is k' src body,s,h=>by
  obtain⟨ts,j,tp,it,b,pos,rfl,hc⟩:=AS h;simp only[gQ]at hc;obtain⟨⟨h1,J⟩,U⟩:=hc;have hw:=lJ (tg:=.Tuple ts j tp) (λ_=>⟨_,_,_,rfl⟩) g J (λxs Y=>⟨sounds src g Y,bK Y⟩) (λm x hm hx=>match src,hm with|[m'],rfl=>(av m' g (by simp only[chks,gQ]at hx;exact hx.1.1)).1);exact Ga g d h1 hw.1 hw.2 (soundSs g d body b U)
 | .while _ _ _,s,h=>absurd (show false=true from h) mu
 | .ret e,s,h=>by
  obtain⟨v,pos,rfl,hc⟩:=Dj h;simp only[gQ,KD]at hc;exact IC (av e g hc.1).1 hc.2
 | .setP i e,s,h=>by
  obtain⟨q,Z,hc⟩:=ak (show onQ (pF s) (λq=>X.N[i]?==some q.1&&fT X.env.scope q.1&&ar q.1&&onQ (Fk q.2.2) λr=>r.1==("list":Str)&&r.2.1==("reversed":Str)&&glB X.env.scope r.1&&glB X.env.scope r.2.1&&chk T e X.N X.env.scope r.2.2&&ah r.2.2)=true from h);obtain⟨x,px,v⟩:=q;obtain⟨pos,rfl⟩:=jr Z;obtain⟨a1,J⟩:=gx.mp hc;obtain⟨a2,h3⟩:=gx.mp a1;obtain⟨h1,h2⟩:=gx.mp a2;obtain⟨r,e2,hr⟩:=ak J;obtain⟨f,f2,w⟩:=r;obtain⟨p,p2,pos2,cp,rfl⟩:=CK e2;obtain⟨b1,c6⟩:=gx.mp hr;obtain⟨b2,c5⟩:=gx.mp b1;obtain⟨b3,c4⟩:=gx.mp b2;obtain⟨b4,c3⟩:=gx.mp b3;obtain⟨c1,c2⟩:=gx.mp b4;obtain rfl:f=("list":Str):=eq_of_beq c1;obtain rfl:f2=("reversed":Str):=eq_of_beq c2;exact F6 g d (eq_of_beq h1) (i8 h2) c3 c4 (av e g c5).1 c6
 | .setX i y,s,h=>by
  obtain⟨q,Z,hc⟩:=ak (show onQ (pF s) (λq=>X.N[i]?==some q.1&&fT X.env.scope q.1&&ar q.1&&dl T y X.N X.env.scope q.2.2&&bZ q.2.2)=true from h);obtain⟨pos,rfl⟩:=jr Z;obtain⟨a2,U⟩:=gx.mp hc;obtain⟨a3,J⟩:=gx.mp a2;obtain⟨a4,h3⟩:=gx.mp a3;obtain⟨h1,h2⟩:=gx.mp a4;exact F3 d (eq_of_beq h1) (i8 h2) (fb g y _ J) U
 | .ownX i xs,s,h=>by
  obtain⟨q,Z,hc⟩:=ak (show onQ (pF s) (λq=>onQ (liP q.2.2) λr=>X.N[i]?==some q.1&&fT X.env.scope q.1&&chkXEs T xs X.N X.env.scope r.1)=true from h);obtain⟨pos,rfl⟩:=jr Z;obtain⟨r,e2,hc⟩:=ak hc;obtain⟨a3,J⟩:=gx.mp hc;obtain⟨h1,h2⟩:=gx.mp a3;rw[q8 e2];exact F4 d (eq_of_beq h1) (i8 h2) (soundXEs g xs _ J)
 | .appX i y,s,h=>by
  obtain⟨q,Z,hc⟩:=ak (show onQ (Ae s) (λq=>onQ (kH q.2.2.2.1) λv=>ba X.N X.env.scope i q.1&&q.2.1==("append":Str)&&dl T y X.N X.env.scope v&&ah v&&q.2.2.1.endLine==q.2.2.2.2.line)=true from h);obtain⟨v,e2,hc⟩:=ak hc;obtain⟨x,m,ap,as,cp⟩:=q;obtain⟨p,pos,rfl⟩:=rb Z;have e3:as=[v]:=c9 e2;subst e3;obtain⟨a2,U⟩:=gx.mp hc;obtain⟨a3,J⟩:=gx.mp a2;obtain⟨a4,h3⟩:=gx.mp a3;obtain⟨h1,h2⟩:=gx.mp a4;obtain rfl:m=("append":Str):=eq_of_beq h2;exact F5 (fb g y _ h3) h1 J U
 | .retXE y,s,h=>by
  obtain⟨v,Z,hc⟩:=ak (show onQ (xV s) (λv=>dl T y X.N X.env.scope v)=true from h);obtain⟨pos,rfl⟩:=mU Z;exact Dc (fb g y _ hc)
 | .forX i y body,s,h=>by
  obtain⟨x,px,it,b,pos,rfl,h⟩:=AQ h;obtain⟨a1,U⟩:=gx.mp h;obtain⟨a2,J⟩:=gx.mp a1;obtain⟨a3,h3⟩:=gx.mp a2;obtain⟨h1,h2⟩:=gx.mp a3;obtain⟨q,Z,hc⟩:=ak J;obtain⟨f,e,es⟩:=q;obtain⟨p,rp,rfl⟩:=vh Z;obtain⟨b1,c5⟩:=gx.mp hc;obtain⟨b2,c4⟩:=gx.mp b1;obtain⟨b3,c3⟩:=gx.mp b2;obtain⟨c1,c2⟩:=gx.mp b3;obtain rfl:f=("range":Str):=eq_of_beq c1;have e3:es=[]:=L8.mp c3;subst e3;exact F9 g d (eq_of_beq h1) (i8 h2) c2 (fb g y _ c4) c5 (soundSs g d body b U)
 | .retM e,s,h=>by
  obtain⟨v,pos,rfl,hc⟩:=AT h;simp only[gQ,KD]at hc;exact FV (av e g hc.1).1 hc.2
 | .retF _,s,h=>absurd (show false=true from h) mu
 | .setCall _ _ _,s,h=>absurd (show false=true from h) mu
 | .clear _,s,h=>absurd (show false=true from h) mu
 | .retOwn i,s,h=>by
  obtain⟨x,p,pos,rfl,hc⟩:=vD h;exact AI hc
 | .retN,s,h=>absurd (show false=true from h) mu
 | .brk,s,h=>absurd (show false=true from h) mu
 | .cont,s,h=>absurd (show false=true from h) mu
 | .pass,s,h=>absurd (show false=true from h) mu
 | .never,s,h=>by
  refine yR.imp λD σ H q=>?_
  obtain⟨B,E,O,W,st,q⟩:=q;rw[ex]at q;exact q
 | .newD m i,s,h=>by
  obtain⟨x,p,dp,pos,rfl,hc⟩:=AO h;simp only[gQ,Kv]at hc;exact FT d hc.1.1 (i8 hc.1.2)
 | .dput i mk me,s,h=>by
  obtain⟨x,p,s',sp,v,pos,rfl,hc⟩:=AN h;simp only[gQ]at hc;exact FU g (av mk g hc.1.1.1.1.2).1 (av me g hc.1.1.2).1 hc.1.1.1.1.1 hc.2
 | .freeze _,s,h=>absurd (show false=true from h) mu
theorem soundSs{T:Tab}{k:Nat}{cal:Cal}{X:Cx}(g:Gf X T k cal)(d:Df X):∀(ms:List MS) (ss:List Stmt),chkSs T X.N X.env.scope ms ss=true->PSs X ss (tSs X.K cal ms)
 | [],ss,h=>by
  cases ss with
  |nil=>exact ID
  |cons _ _=>cases h
 |m::ms,ss,h=>by
  cases hm:Gb m with
  |true =>
   cases m<;>simp[Gb]at hm
   cases h
  |false =>
   cases ss with
   |nil=>cases m<;>first|(cases h;done)|cases hm
   |cons s ss =>
    have h:(g9 T X.N X.env.scope m s&&chkSs T X.N X.env.scope ms ss)=true:=by cases m<;>first|exact h|(simp[Gb]at hm)
    simp only[gQ]at h;exact FW (Gc g d m s h.1) (soundSs g d ms ss h.2)
end
structure FnD(K:N0)(x y:Str)(st:Stmt)(fa:Addr)(fd:FuncData):Prop where
 it:∃(c0 d0 k0 o0 m0:Value) (a0:Option Addr) (c1 t1:Value) (a1:Option Addr) (sl:Array (Option Value)),
  K.lookup fa=some ⟨c0,a1,.func fd,sl⟩/\PySem.W.codeIn K c1 y=true/\fd=PySem.W.fnOf x y (kn st) (dS st) (br st) d0 k0 o0 m0 a0 c1 t1
 kp:PySem.W.keepIn K (.ref fa)=true
theorem FnD.mk'{K:N0}{st:Stmt} 
  (l:K.lookup z=some ⟨Z,a1,.func (PySem.W.fnOf x y (kn st) (dS st) (br st) d0 U o0 m0 Y J t1),sl⟩) (c:PySem.W.codeIn K J y=true) (k:PySem.W.keepIn K (.ref z)=true) :
  FnD K x y st z (PySem.W.fnOf x y (kn st) (dS st) (br st) d0 U o0 m0 Y J t1):=⟨⟨_,_,_,_,_,_,_,_,_,_,l,c,rfl⟩,k⟩
theorem FnD.mkd{K:N0}{st:Stmt} 
  (l:K.lookup z=some ⟨Z,a1,.func (PySem.W.fnOf x y (kn st) (dS st) (br st) (.ref T) U o0 m0 Y J t1),sl⟩) (c:PySem.W.codeIn K J y=true) (k:PySem.W.keepIn K (.ref z)=true) :
  FnD K x y st z (PySem.W.fnOf x y (kn st) (dS st) (br st) (.ref T) U o0 m0 Y J t1):=.mk' l c k
structure tP(T:Tab)(K:N0)(mg:Str->Option Value)(st:Stmt)(d:MD)(fa:Addr)(fd:FuncData):Prop where
 fn:FnD K d.name d.name st fa fd
 binds:di K fd d.params []
 named:mg d.name=some (.ref fa)
 scope:qJ d.names d.params (br st)
 body:chkSs T d.names (br st) d.body (dS st)=true
def de{α:Type}{n:Nat}:∀{us:List α},us.length=n+1->∃a t,us=a::t/\t.length=n
 | _::_,h=>⟨_,_,rfl,Nat.succ.inj h⟩
def bn1{K:N0}{fd:FuncData}{z:Str}(h:∀a,bindArgs fd ⟨[a],[]⟩=pure [(z,a)]):di K fd [z] []:=.all λus J=>by
 obtain⟨a,U,rfl,h1⟩:=de J;obtain rfl:=Lk.mp h1;exact h a
def bn2{K:N0}{fd:FuncData}{z J:Str}(h:∀a b,bindArgs fd ⟨[a,b],[]⟩=pure [(z,a),(J,b)]):di K fd [z,J] []:=.all λus U=>by
 obtain⟨a,Y,rfl,h1⟩:=de U;obtain⟨b,Z,rfl,h2⟩:=de h1;obtain rfl:=Lk.mp h2;exact h a b
def bn3{K:N0}{fd:FuncData}{z J U:Str}(h:∀a b c,bindArgs fd ⟨[a,b,c],[]⟩=pure [(z,a),(J,b),(U,c)]):di K fd [z,J,U] []:=.all λus Y=>by
 obtain⟨a,u1,rfl,h1⟩:=de Y;obtain⟨b,u2,rfl,h2⟩:=de h1;obtain⟨c,u3,rfl,Z⟩:=de h2;obtain rfl:=Lk.mp Z;exact h a b c
def bn4{K:N0}{fd:FuncData}{z J U Y:Str}(h:∀a b c d,bindArgs fd ⟨[a,b,c,d],[]⟩=pure [(z,a),(J,b),(U,c),(Y,d)]):di K fd [z,J,U,Y] []:=.all λus Z=>by
 obtain⟨a,u1,rfl,h1⟩:=de Z;obtain⟨b,u2,rfl,h2⟩:=de h1;obtain⟨c,u3,rfl,h3⟩:=de h2;obtain⟨d,u4,rfl,h4⟩:=de h3;obtain rfl:=Lk.mp h4;exact h a b c d
def bn5{K:N0}{fd:FuncData}{z J U Y Z:Str}(h:∀a b c d e,bindArgs fd ⟨[a,b,c,d,e],[]⟩=pure [(z,a),(J,b),(U,c),(Y,d),(Z,e)]):di K fd [z,J,U,Y,Z] []:=.all λus h0=>by
 obtain⟨a,u1,rfl,h1⟩:=de h0;obtain⟨b,u2,rfl,h2⟩:=de h1;obtain⟨c,u3,rfl,h3⟩:=de h2;obtain⟨d,u4,rfl,h4⟩:=de h3;obtain⟨e,u5,rfl,h5⟩:=de h4;obtain rfl:=Lk.mp h5;exact h a b c d e
def vE{K:N0}(hd:fd.defaults=.ref T)(l:K.lookup T=some ⟨c,o,.seq vs n,J⟩)
  (h:∀us,us.length=ps.length->∃k,bindArgs fd ⟨us,[]⟩=seqItems? fd.defaults >>= k/\k (some vs)=pure (ps.zip us)):di K fd ps []:=λs us X z=>by
 rw[LJ]at z ⊢;obtain⟨k,h1,h2⟩:=h us z;exact .of_defaults hd (X _ _ l) rfl h1 h2
def HD(K:N0)(x:Str)(st:Stmt)(d:MD)(q:FuncData->Prop:=λ_=>True):Prop:=d.name=x/\∃z fd,PySem.W.nsIn K mainGlobals x=some (some (.ref z))/\FnD K x x st z fd/\di K fd d.params []/\q fd
def okD(T:Tab)(st:Stmt)(d:MD):Bool:=
 decide ((br st).kind=.function/\(br st).isCoroutine=false/\(br st).isGenerator=false/\d.names.Nodup/\d.names.take d.params.length=d.params/\(∀x∈d.params,(br st).names.lookup x=some .local\/(br st).names.lookup x=some .cell)/\∀y∈(br st).names,y.2≠.free)
 &&chkSs T d.names (br st) d.body (dS st)
def AU{K:N0}{st:Stmt}(X:K.In h)(G:h.Ns mainGlobals mg)(hd:HD K x st d q)(J:okD T st d=true):∃U fd,tP T K mg st d U fd/\q fd:=by
 refine aB λZq Y=>?_
 obtain⟨e,_,_,n,f,b,z⟩:=hd;obtain⟨Z,c2⟩:=gx.mp J;obtain⟨s1,s2,s3,s4,s5,s6,s7⟩:=K2 Z;subst e;refine Y ?_;exact⟨_,_,⟨f,b,PySem.W.mg_of X G n,⟨s1,s2,s3,s4,s5,s6,s7⟩,c2⟩,z⟩
def yg(T:Tab)(K:N0)(mg:Str->Option Value):List MD->List (List Sc)->Prop
 | [],[]=>True
 |d::ds,l::ls=>(∃st z fd,tP T K mg st d z fd/\∃vs,di K fd d.params vs/\aI (l.map Sc.v) vs)/\yg T K mg ds ls
 | _,_=>False
theorem yg.get{K:N0} :∀{ds}{J}{f:Nat}{d},yg T K mg ds J->ds[f]?=some d->∃l st z fd,J[f]?=some l/\tP T K mg st d z fd/\∃vs,di K fd d.params vs/\aI (l.map Sc.v) vs
 | [],_,f,d,_,e=>by simp at e
 | _::_,[],f,d,h,e=>h.elim
 |d0::ds,l::J,0,d,h,e=>by
  cases e;obtain⟨⟨st,z,fd,r⟩,_⟩:=h;exact⟨l,st,z,fd,rfl,r⟩
 |d0::ds,l::J,f+1,d,h,e=>by
  obtain⟨k,st,z,fd,q,r⟩:=yg.get h.2 (show ds[f]?=some d from by simpa using e);exact⟨k,st,z,fd,by simpa using q,r⟩
def HQ(K:N0)(d:MD)(fd:FuncData):List Sc->Prop
 | []=>True
 |l=>∃vs,di K fd d.params vs/\aI (l.map Sc.v) vs
inductive vF(K:N0)(tp:Nat->Stmt):List MD->List Nat->List (List Sc)->Prop
 | nil:vF K tp [] [] []
 |cons {d:MD}{ds:List MD}{i:Nat}{is:List Nat}{l:List Sc}{ls:List (List Sc)}:HD K d.name (tp i) d (λfd=>HQ K d fd l)->vF K tp ds is ls->vF K tp (d::ds) (i::is) (l::ls)
def IN(T:Tab)(z:Nat->Stmt):List MD->List Nat->Bool
 |d::ds,i::is=>okD T (z i) d&&IN T z ds is
 | _,_=>true
def Ge{T:Tab}{K:N0}{mg:Str->Option Value}{h:Heap}{J:Nat->Stmt}{ds:List MD}{is:List Nat}{z:List (List Sc)}(X:K.In h)(G:h.Ns mainGlobals mg)(a:vF K J ds is z)(U:IN T J ds is=true):yg T K mg ds z:=by
 induction a with
 |nil=>trivial
 | @cons d ds i is l z hd _ ih =>
  obtain⟨Y,Z⟩:=gx.mp U;obtain⟨fa,fd,D,q⟩:=AU X G hd Y;refine⟨⟨_,fa,fd,D,?_⟩,ih Z⟩;cases l with
  |nil=>exact⟨_,D.binds,.nil⟩
  |cons _ _=>exact q
structure Gg(T:Tab)(K:N0)(mg:Str->Option Value)(ds:List MD)
 :Prop where
 tab:T.fs=ds.map (·.name)
 defs:yg T K mg ds T.ds
 blt:∀x∈kN,mg (x:Str)=none
 gs:∀p∈T.gs,∃u,mg p.1=some u/\aF (toV p.2) u
def oC(hd:ds[f]?=some d)(h:aa ds (n+1) f args=some r):args.length=d.params.length /\
  ((∃W,exs (aa ds n) d.body (args.map some++replicate (d.names.length-args.length) none)=.next W/\r=.non)\/exs (aa ds n) d.body (args.map some++replicate (d.names.length-args.length) none)=.ret r \/
   ∃xs,exs (aa ds n) d.body (args.map some++replicate (d.names.length-args.length) none)=.retF xs/\r=.lst xs):=by
 rw[aa,hd]at h;dsimp only at h;by_cases z:args.length=d.params.length
 .rw[if_pos z]at h;refine⟨z,?_⟩;cases he:exs _ d.body _<;>simp_all
 .simp_all
def l8(U:f<1000)(J:ds[f+1000]?=none)(hd:ds[f]?=some d)(h:aa ds (n+1) (f+1000) args=some r):args.length=d.params.length /\
  ∃xs,exs (aa ds n) d.body (args.map some++replicate (d.names.length-args.length) none)=.retF xs/\r=.lst xs:=by
 rw[aa,J]at h;dsimp only at h;rw[if_neg (by omega),Lu,hd]at h;dsimp only at h;by_cases z:args.length=d.params.length
 .rw[if_pos z]at h;refine⟨z,?_⟩;cases he:exs (aa ds n) d.body (args.map some++replicate _ none)<;>simp_all
 .simp_all
def qh(Z:f<1000)(J:ds[f+2000]?=none)(hd:ds[f]?=some d)(h:aa ds (n+1) (f+2000) args=some r):args.length=d.params.length /\
  ∃v W ms,exs (aa ds n) d.body (args.map some++replicate (d.names.length-args.length) none)=.retM v W/\eN args W=some ms/\r=.tup (v::ms):=by
 rw[aa,J]at h;dsimp only at h;rw[if_pos (by omega)]at h;rw[Lu,hd]at h;dsimp only at h;by_cases z:args.length=d.params.length
 .rw[if_pos z]at h;refine⟨z,?_⟩;cases he:exs (aa ds n) d.body (args.map some++replicate (d.names.length-args.length) none)with
  |retM v W =>
   rw[he]at h;dsimp only at h;rw[oe]at h;obtain⟨ms,U,Y⟩:=h;exact⟨v,W,ms,rfl,U,Y.symm⟩
  | _=>rw[he]at h;cases h
 .simp_all
def lL{K:N0}(h:cF K O H args vs ds ms):∀(i:Nat) d a,args[i]?=some (.mutD d)->vs[i]?=some (.ref a)->a∈ms:=by
 induction h with
 |nil=>intro i d a e;simp at e
 |mutd h U t ih =>
  intro i d a z J;cases i with
  |zero=>simp at J;subst J;exact .head _
  |succ i=>exact .tail _ (ih i d a (by simpa using z) (by simpa using J))
 |other hm t ih =>
  intro i d a z J;cases i with
  |zero=>simp at z;exact absurd z (hm d)
  |succ i=>exact ih i d a (by simpa using z) (by simpa using J)
def tQ{K:N0}(h:cF K O H args vs ds ms):∀(i j:Nat) d d' a,i≠j->args[i]?=some (.mutD d)->args[j]?=some (.mutD d')->vs[i]?=some (.ref a)->vs[j]?≠some (.ref a):=by
 induction h with
 |nil=>intro i j d d' a _ e;simp at e
 |mutd h hn t ih =>
  intro i j d d' a Z z J U Y;cases i with
  |zero =>
   cases j with
   |zero=>exact Z rfl
   |succ j =>
    simp at U;subst U;exact hn (lL t j d' _ (by simpa using J) (by simpa using Y))
  |succ i =>
   cases j with
   |zero =>
    simp at Y;subst Y;exact hn (lL t i d _ (by simpa using z) (by simpa using U))
   |succ j=>exact ih i j d d' a (by omega) (by simpa using z) (by simpa using J) (by simpa using U) (by simpa using Y)
 |other hm t ih =>
  intro i j d d' a Z z J U Y;cases i with
  |zero=>simp at z;exact hm d z
  |succ i =>
   cases j with
   |zero=>simp at J;exact hm d' J
   |succ j=>exact ih i j d d' a (by omega) (by simpa using z) (by simpa using J) (by simpa using U) (by simpa using Y)
def vG{K:N0}(h:cF K O H args vs ds ms):∀{W}{z},eN args W=some z->∀a∈ms,∃(i:Nat) (d:DD),vs[i]?=some (.ref a)/\W[i]?=some (some (.mutD d)):=by
 induction h with
 |nil=>intro W z _ a U;cases U
 |mutd h hn t ih =>
  intro W z e b J
  match W,e with
  |some (.mutD d')::W,e =>
   rw[eN,oe]at e;obtain⟨Y,Z,rfl⟩:=e;rcases wh.mp J with rfl|J
   .exact⟨0,d',rfl,rfl⟩
   .obtain⟨i,d,h1,h2⟩:=ih Z b J;exact⟨i+1,d,by simpa using h1,by simpa using h2⟩
 |other hm t ih =>
  intro W z e b J;rename_i m v as vs ds ms
  match m,W,e,hm with
  | .val _,r::W,e,hm =>
   obtain⟨i,d,h1,h2⟩:=ih e b J;exact⟨i+1,d,by simpa using h1,by simpa using h2⟩
  | .mutD d,_,_,hm=>exact absurd rfl (hm d)
def yh{K:N0}(h:cF K O H args vs ds ms):∀{W}{z},eN args W=some z->(∀(i:Nat) d d' a,args[i]?=some (.mutD d)->W[i]?=some (some (.mutD d'))->vs[i]?=some (.ref a)->DAt K H' O' a d')->cF K O' H' args vs z ms:=by
 induction h with
 |nil=>intro W z e _;rw[eN]at e;cases e;exact .nil
 |mutd h hn t ih =>
  intro W z e J
  match W,e with
  |some (.mutD d')::W,e =>
   rw[eN,oe]at e;obtain⟨a1,e0,rfl⟩:=e;exact .mutd (J 0 _ d' _ rfl rfl rfl) hn (ih e0 λi d U a Y Z e3=>J (i+1) d U a (by simpa using Y) (by simpa using Z) (by simpa using e3))
 |other hm t ih =>
  intro W z e J;rename_i m v as vs ds ms
  match m,W,e,hm with
  | .val _,r::W,e,hm =>
   exact .other hm (ih e λi d U a Y Z e3=>J (i+1) d U a (by simpa using Y) (by simpa using Z) (by simpa using e3))
  | .mutD d,_,_,hm=>exact absurd rfl (hm d)
theorem j6 :∀{xs}{ys}{i:Nat}{x},Paired F xs ys->xs[i]?=some x->∃y,ys[i]?=some y/\F x y
 | _,_,_,_,.nil,e=>by simp at e
 | _,_,0,_,.cons r _,e=>by simp at e;subst e;exact⟨_,rfl,r⟩
 | _,_,i+1,x,.cons _ t,e=>by
  obtain⟨u,h1,h2⟩:=j6 (i:=i) (x:=x) t (by simpa using e);exact⟨u,by simpa using h1,h2⟩
def tR{K:N0}(U:∀a∈O,H a≠none)(h:Paired (l5 K O H) args vs):aG K H O O H (args.map some++replicate (N.length-args.length) none) (eV N vs):=by
 have Y:=Paired.length h;have get:∀i m,(args.map some++replicate (N.length-args.length) none)[i]?=some (some m)->∃u,(eV N vs)[i]?=some (some u)/\l5 K O H m u:=λi m e=>by
  by_cases hi:i<args.length
  .rw[Lz (by simpa using hi),KJ]at e;cases J:args[i]? with
   |none=>rw[J]at e;cases e
   |some m' =>
    rw[J]at e;cases e;obtain⟨u,z,q⟩:=j6 h J;refine⟨u,?_,q⟩;unfold L2.eV;rw[Lz (by rw[mx,<- Y];exact hi),KJ,z]
    rfl
  .rw[L0 (by simpa using hi),MR]at e;split at e<;>cases e
 refine⟨ai.refl H,U,λa Z=>Z,U,by unfold L2.eV;simp[Y],λi m e=>?_,λi j xs ys a _ e _ ox _=>?_
  ⟩
 .obtain⟨u,z,q⟩:=get i m e;refine⟨u,z,?_⟩;cases m<;>first|exact q|exact q.elim
 .obtain⟨u,z,q⟩:=get i _ e;cases xs<;>first|exact q.elim|cases ox
def lM(h:Paired F args vs):∀(i:Nat) m,(args.map some++replicate (N.length-args.length) none)[i]?=some (some m)->args[i]?=some m/\∃u,vs[i]?=some u/\(eV N vs)[i]?=some (some u)/\F m u:=λi m e=>by
 have U:=Paired.length h;by_cases hi:i<args.length
 .rw[Lz (by simpa using hi),KJ]at e;cases z:args[i]? with
  |none=>rw[z]at e;cases e
  |some Y =>
   rw[z]at e;cases e;obtain⟨u,J,q⟩:=j6 h z;refine⟨rfl,u,J,?_,q⟩;unfold L2.eV;rw[Lz (by rw[mx,<- U];exact hi),KJ,J]
   rfl
 .rw[L0 (by simpa using hi),MR]at e;split at e<;>cases e
def yi{K:N0}(hO:∀a∈O,H a≠none)(h:Paired (Fv K O H) args vs)(hm:cF K O H args vs ds ms):aG K (jL H ms) (O.filter λb=>decide (b∉ms)) O H (args.map some++replicate (N.length-args.length) none) (eV N vs):=by
 have hl:=Paired.length h;have le:ai (jL H ms) H:=λb u e=>by
  unfold jL at e;split at e
  .cases e
  .exact e
 refine⟨le,hO,λa z=>(KG.mp z).1,λa z=>?_,by unfold L2.eV;simp[hl],λi m e=>?_,λi j x y a J e1 e2 ox oy s1 s2=>?_
  ⟩
 .obtain⟨h1,h2⟩:=KG.mp z;unfold jL;rw[if_neg (K2 h2)];exact hO a h1
 .obtain⟨U,u,Y,Z,q⟩:=lM h i m e;refine⟨u,Z,?_⟩;cases m with
  |val v=>exact q
  |mutD d =>
   obtain⟨a,rfl,h1,h2⟩:=q;refine⟨a,rfl,h1,h2,?_⟩;unfold jL;rw[if_pos (lL hm i d a U Y)]
  | _=>exact q.elim
 .obtain⟨U,u,ao,Z,q⟩:=lM h i x e1;obtain⟨eb,w,aO,ew,q'⟩:=lM h j y e2;rw[Z]at s1;cases s1;rw[ew]at s2;cases s2;cases x with
  |val _=>cases ox
  |mutD d =>
   cases y with
   |val _=>cases oy
   |mutD d'=>exact tQ hm i j d d' a J U eb ao aO
   | _=>exact q'.elim
  | _=>exact q.elim
section
variable{T:Tab}{P:Program}{w:World}{K:N0}{mg:Str->Option Value}{base:Heap}{ds:List MD}
structure IP(T:Tab)(P:Program)(w:World)(K:N0)(mg:Str->Option Value)(base:Heap)(ds:List MD)(n g:Nat)(fa:Addr)(fd:FuncData)(ps:List Str):Prop where
 m:jS P w K mg base CX0 n fa fd ps (spM K (aa ds n) g)
 f:jS P w K mg base CX0 n fa fd ps (spF K (aa ds n) g)
 d:jS P w K mg base CX0 n fa fd ps (spD K (aa ds n) g)
theorem m5(ao:ds.length<=1000)
  (pr:Gg T K mg ds)
 :∀n f d,ds[f]?=some d->∀st fa fd,tP T K mg st d fa fd->IP T P w K mg base ds n f fa fd d.params
 |0,f,d,hd,st,fa,fd,D=>{
   m:=⟨λvs H Q E h=>(by obtain⟨O,args,r,_,_,e,_⟩:=h;exact absurd e (by simp[aa])),λA outer s H args us vs Q E _ _ _ _ h=>(by obtain⟨O,args,r,_,_,e,_⟩:=h;exact absurd e (by simp[aa]))⟩
   f:=⟨λvs H Q E h=>(by obtain⟨O,args,r,_,_,e,_⟩:=h;exact absurd e (by simp[aa])),λA outer s H args us vs Q E _ _ _ _ h=>(by obtain⟨O,args,r,_,_,e,_⟩:=h;exact absurd e (by simp[aa]))⟩
   d:=⟨λvs H Q E h=>(by obtain⟨O,args,v,ds,Y,ms,_,_,_,e,_⟩:=h;exact absurd e (by simp[aa])),λA outer s H args us vs Q E _ _ _ _ h=>(by obtain⟨O,args,v,ds,Y,ms,_,_,_,e,_⟩:=h;exact absurd e (by simp[aa]))⟩
   }
 |n+1,f,d,hd,st,fa,fd,D=>by
  refine aB λZq kq=>?_
  obtain⟨c0,d0,k0,o0,m0,a0,a9,t1,a1,sl,lk,hc,rfl⟩:=D.fn.it;have hf:=Kt (Ku.mp hd).1 ao;have hn:ds[f+1000]?=none:=getElem?_eq_none (by omega);have b3:ds[f+2000]?=none:=getElem?_eq_none (by omega);have gg:∀{CX}{A}{outer}{s}{H}{E},_->Gf (sm CX P w K mg base d.names d.name (br st) fa a9 A outer s H E).nox T n (aa ds n):=λ{CX A outer s H E} hr=>{
   calm:=rfl
   room:=hr
   fns:=λf' x hx=>by
    rw[pr.tab,KJ]at hx;cases hd2:ds[f']? with
    |none=>rw[hd2]at hx;cases hx
    |some d2 =>
     rw[hd2]at hx;cases hx;obtain⟨l2,a3,J,U,el,D2,bd⟩:=pr.defs.get hd2;exact⟨J,U,d2.params,D2.named,D2.fn.kp,D2.binds,(m5 ao pr n f' d2 hd2 a3 J U D2).m,λl hl=>by rw[el]at hl;cases hl;exact bd⟩
   blt:=pr.blt
   gs:=pr.gs
   fnsF:=λf' x hx=>by
    rw[pr.tab,KJ]at hx;cases hd2:ds[f']? with
    |none=>rw[hd2]at hx;cases hx
    |some d2 =>
     rw[hd2]at hx;cases hx;obtain⟨l2,a3,J,U,el,D2,bd⟩:=pr.defs.get hd2;exact⟨J,U,d2.params,D2.named,D2.fn.kp,D2.binds,(m5 ao pr n f' d2 hd2 a3 J U D2).f⟩
   fnsD:=λf' x hx=>by
    rw[pr.tab,KJ]at hx;cases hd2:ds[f']? with
    |none=>rw[hd2]at hx;cases hx
    |some d2 =>
     rw[hd2]at hx;cases hx;obtain⟨l2,a3,J,U,el,D2,bd⟩:=pr.defs.get hd2;exact⟨J,U,d2.params,D2.named,D2.fn.kp,D2.binds,(m5 ao pr n f' d2 hd2 a3 J U D2).d⟩
   }
  have df:∀{CX}{A}{outer}{s}{H}{E},Df (sm CX P w K mg base d.names d.name (br st) fa a9 A outer s H E).nox:=λ{CX A outer s H E}=>⟨D.scope.nd,λ_=>rfl,PassesOwn.never,by
    have hk:(sm CX P w K mg base d.names d.name (br st) fa a9 A outer s H E).nox.env.scope.kind=.function:=D.scope.kind;unfold Env.blockKind;rw[hk]
    rfl
    ⟩
  refine kq ?_;refine {
   m:=?_
   f:=?_
   d:=?_
   }
  .refine y9 lk hc D.scope (λvs H Q E h=>?_) (λA outer s H vs Q E hr h=>?_)
   .obtain⟨O,args,r,_,hp,e,_⟩:=h;rw[<- (oC hd e).1];exact(Paired.length hp).symm
   .obtain⟨O,args,r,hO,hp,e,q⟩:=h;obtain⟨hl,c1⟩:=oC hd e;refine⟨_,(soundSs (gg hr) df d.body (dS st) D.body).nox,H,O,O,_,tR hO hp,?_⟩;rcases c1 with⟨W,he,rfl⟩|he|⟨xs,he,rfl⟩
    .rw[he];exact λF H' O' Z _=>q _ H' Z.keep (rg _)
    .rw[he];exact λu H' s' r'=>q u H' s' r'
    .rw[he];refine λp us H' s' b1 b2 r'=>q _ H' s' ?_
     rw[Rep];refine⟨p,us,rfl,SqL.of ?_,Reps.mono iA _ r'⟩;rw[be λz=>hO p z b1];exact b2
  .refine y9 lk hc D.scope (λvs H Q E h=>?_) (λA outer s H vs Q E hr h=>?_)
   .obtain⟨O,args,r,_,hp,e,_⟩:=h;rw[<- (l8 hf hn hd e).1];exact(Paired.length hp).symm
   .obtain⟨O,args,xs,hO,hp,e,q⟩:=h;obtain⟨hl,ys,he,ey⟩:=l8 hf hn hd e;cases ey;refine⟨_,(soundSs (gg hr) df d.body (dS st) D.body).nox,H,O,O,_,tR hO hp,?_⟩;rw[he];exact λp us H' s' b1 b2 r'=>q p us H' s' b1 b2 r'
  .refine y9 lk hc D.scope (λvs H Q E h=>?_) (λA outer s H vs Q E hr h=>?_)
   .obtain⟨O,args,v,es,Y,ms,_,hp,_,e,_⟩:=h;rw[<- (qh hf b3 hd e).1];exact(Paired.length hp).symm
   .refine aB λZq kq=>?_
    obtain⟨O,args,v,es,Y,ms,hO,hp,hm,e,q⟩:=h;obtain⟨hl,v',W,dV,he,cd,ey⟩:=qh hf b3 hd e;cases ey;refine kq ?_;refine⟨_,(soundSs (gg hr) df d.body (dS st) D.body).nox,jL H ms,_,O,_,yi hO hp hm,?_⟩;rw[he];have key:∀{F}{H'}{O'},aG K (jL H ms) (O.filter λb=>decide (b∉ms)) O' H' W F->bo (jL H ms) O O' (args.map some++replicate (d.names.length-args.length) none) W (eV d.names vs) F->∀(i:Nat) d' a,W[i]?=some (some (.mutD d'))->vs[i]?=some (.ref a)->DAt K H' O' a d'/\a∈O':=λ{F H' O'} Z k' i d' a e2 e3=>by
     obtain⟨_,c4⟩:=k'.mutK i d' e2;obtain⟨u,eu,a',rfl,h1,h2,_⟩:=Z.slot i _ e2;have ei:(eV d.names vs)[i]?=some (some (.ref a)):=by
      have hi:=(Ku.mp e3).1;unfold L2.eV;rw[Lz (by simpa using hi),KJ,e3]
      rfl
     rw[c4,ei]at eu;cases eu;exact⟨h1,h2⟩
    refine λu F H' O' Z k' ru=>?_
    have vw:=bU (ai.refl H') λb hb=>.inl (by
     by_cases z:b∈ms
     .obtain⟨i,d',h1,h2⟩:=vG hm cd b z;exact(key Z k' i d' b h2 h1).2
     .refine k'.stay b ?_ hb;unfold jL;rw[if_neg z];exact hO b hb)
    refine q u H' (λb o hb eb=>Z.keep b o ?_) (yh hm cd λi d1 d' a e1 e2 e3=>(key Z k' i d' a e2 e3).1.move (λ_ z=>z) vw) (Rep.mono vw _ ru);unfold jL;rw[if_neg hb];exact eb
def IQ(z:ds.length<=1000)
  (U:Gg T K mg ds)
  (n f) (d) (hd:ds[f]?=some d) (st) (J) (fd) (D:tP T K mg st d J fd):jS P w K mg base CX0 n J fd d.params (spM K (aa ds n) f):=(m5 z U n f d hd st J fd D).m
end
def Gh{K:N0}{ns:List Int}(h:aa ds n li [.brw (ns.map .int)]=some (.bl true))(J:SqL K H a (ns.map V.int)):spM K (aa ds n) li [.ref a] H (λv _=>v=.bl true) λ_ _ _=>False:=
 ⟨[],[.brw (ns.map .int)],.bl true,λ_ z=>by simp at z,.cons ⟨a,_,rfl,J,.of_ints ns⟩ .nil,h,λu H' _ r=>by rw[Rep]at r;exact r⟩
end MM
namespace MM
open PySem List Option
noncomputable abbrev ofS(z:List Int):PV:=.tup (z.map .int)
abbrev ofR(R:List (List Int)):PV:=.tup (R.map ofS)
noncomputable abbrev ofL(ns:List Int):PV:=.lst (ns.map .int)
theorem bq:∀ns,bj (ns.map .int)=some ns
 | []=>rfl
 |n::ns=>by simp[bj,bq ns]
theorem qi:∀R,gY (R.map ofS)=some R
 | []=>rfl
 |t::R=>by simp[gY,bq,qi R]
theorem dg:∀ns,cT (ns.map .bl)=some ns
 | []=>rfl
 |n::ns=>by simp[cT,dg ns]
def qj(h:ns.length<64):i4 (ns.map .int)=some (ofL (sortI ns)):=by
 unfold i4;rw[if_pos (by simpa using h),bq]
def fj{R:List (List Int)}(h:R.length<64):i4 (R.map ofS)=some (.lst ((sortT R).map ofS)):=by
 unfold i4;rw[if_pos (by simpa using h)];cases R with
 |nil=>rfl
 |cons t R =>
  have:bj ((t::R).map ofS)=none:=rfl;rw[this];simp only[qi,map_some]
theorem cz{α:Type}{g:α->PV}{c:PV->Option Bool}{f:PV->Option PV}{p:α->Bool}{h:α->PV}:∀{xs:List α},(∀x∈xs,c (g x)=some (p x))->(∀x∈xs,p x=true->f (g x)=some (h x))->gC c f (xs.map g)=some ((xs.filter p).map h)
 | [],_,_=>rfl
 |x::xs,hc,hf=>by
  rw[uw,gC,hc x (.head _),bind_some];have ih:=cz (xs:=xs) (λy z=>hc y (.tail _ z)) (λy z=>hf y (.tail _ z));cases J:p x<;>simp_all
def iB{α:Type}{g:α->PV}{c:PV->Option Bool}{f:PV->Option PV}{h:α->PV}{xs:List α}(hc:∀x∈xs,c (g x)=some true)(z:∀x∈xs,f (g x)=some (h x)):gC c f (xs.map g)=some (xs.map h):=by
 rw[cz hc (λx hx _=>z x hx),LR.mpr λ_ _=>rfl]
def Gi(a b)(z:List Int):((b==a)||decide (a∈z))=decide (a=b\/a∈z):=by grind
def Gj(a b)(z:List (List Int)):(decide (b=a)||decide (a∈z))=decide (a=b\/a∈z):=by grind
@[simp] theorem kS(n)(i j):eqF n (.int i) (.int j)=some (i==j):=by cases n<;>rfl
theorem bL(h:Int):∀z:List Int,isIn (.int h) (z.map .int)=some (decide (h∈z))
 | []=>rfl
 |t::z=>by
  have ih:=bL h z;unfold isIn at ih ⊢;rw[uw,inL,ih];simp only[kS,bind_some,map_some,wh,Gi]
theorem oD(n:Nat):∀a b:List Int,eqL (eqF n) (a.map .int) (b.map .int)=some (decide (a=b))
 | [],[]=>rfl
 | [],_::_=>rfl
 | _::_,[]=>rfl
 |x::a,y::b=>by
  rw[uw,uw,eqL,oD n a b];simp only[kS,bind_some,map_some,Ni]
  congr 1
  rw[Lh];simp
def IR(n:Nat)(a b:List Int):eqF (n+1) (ofS a) (ofS b)=some (decide (a=b)):=oD n a b
def IS(n:Nat)(a b:List Int):eqF (n+1) (ofL a) (ofL b)=some (decide (a=b)):=by
 show(if (a.map PV.int).length=(b.map PV.int).length then eqL (eqF n) (a.map .int) (b.map .int)else some false)=_;rw[oD];split
 .rfl
 .rename_i h
  congr 1
  exact(KP λe=>h (by rw[e])).symm
theorem j7(h):∀z:List (List Int),isIn (ofS h) (z.map ofS)=some (decide (h∈z))
 | []=>rfl
 |t::z=>by
  have ih:=j7 h z;unfold isIn at ih ⊢;rw[uw,inL,ih,IR 99];simp only[bind_some,map_some,wh,Gj]
noncomputable def aX:R->Option PV
 | .next _=>some .non
 | .ret v=>some v
 | .retF xs=>some (.lst xs)
 | _=>none
def ae(hd:ds[f]?=some d)(z:args.length=d.params.length):aa ds (n+1) f args=aX (exs (aa ds n) d.body (args.map some++replicate (d.names.length-args.length) none)):=by
 rw[aa,hd];simp[z]
 rfl
def rJ(args:List MV):R->Option PV
 | .retM v W=>(eN args W).map λds=>.tup (v::ds)
 | _=>none
def hW(z:ds[f+2000]?=none)(hd:ds[f]?=some d)(J:args.length=d.params.length)
 :aa ds (n+1) (f+2000) args=rJ args (exs (aa ds n) d.body (args.map some++replicate (d.names.length-args.length) none)):=by
 rw[aa,z];rw[Lu,hd];simp[J]
 rfl
@[simp] theorem GR(v)(W)(k):(R.retM v W).andThen k=.retM v W:=rfl
@[simp] theorem Gk(v):g6 (some (.mutD v))=some (.brwD v):=rfl
@[simp] theorem Gm(v):fW (some (.mutD v))=some (.brwD v):=rfl
@[simp] theorem GS(xs)(k):(R.retF xs).andThen k=.retF xs:=rfl
@[simp] theorem GT(v):bE (some (.val v))=some v:=rfl
@[simp] theorem GU(v):bE (some (.own v))=some (.lst v):=rfl
@[simp] theorem GV(v):bE (some (.brw v))=some (.lst v):=rfl
@[simp] theorem Gn(v):bE (some (.ownD (.k v)))=some (.dI (.k v)):=rfl
@[simp] theorem Go(v):bE (some (.ownD (.t v)))=some (.dI (.t v)):=rfl
@[simp] theorem Gp(v):bE (some (.brwD (.k v)))=some (.dI (.k v)):=rfl
@[simp] theorem J9(v):sS (.k v)=true:=rfl
@[simp] theorem J_(v):sS (.t v)=true:=rfl
@[simp] theorem Gq(v):bE (some (.brwD (.t v)))=some (.dI (.t v)):=rfl
@[simp] theorem Gr(v):g6 (some (.ownD v))=some (.brwD v):=rfl
@[simp] theorem Gs(v):g6 (some (.brwD v))=some (.brwD v):=rfl
@[simp] theorem Gu(v):fW (some (.ownD v))=some (.brwD v):=rfl
@[simp] theorem Gv(v):fW (some (.brwD v))=some (.brwD v):=rfl
@[simp] theorem Ka(i):sc? (.int i)=some (.int i):=rfl
@[simp] theorem Kr(i):sc? (.bl i)=some (.bl i):=rfl
@[simp] theorem Kb:sc? .non=some .non:=rfl
@[simp] theorem Kc(i):(Sc.int i).pv=.int i:=rfl
@[simp] theorem Ks(i):(Sc.bl i).pv=.bl i:=rfl
@[simp] theorem GW(v):zU (some (.val v))=some v:=rfl
@[simp] theorem GX(v):g6 (some (.val v))=some (.val v):=rfl
@[simp] theorem GY(v):g6 (some (.own v))=some (.brw v):=rfl
@[simp] theorem GZ(v):g6 (some (.brw v))=some (.brw v):=rfl
@[simp] theorem G0(v):fW (some (.val v))=some (.val v):=rfl
@[simp] theorem G1(v):fW (some (.own v))=some (.brw v):=rfl
@[simp] theorem G2(v):fW (some (.brw v))=some (.brw v):=rfl
@[simp] theorem G3(b):bf (.bl b)=some b:=rfl
@[simp] theorem Jq(i j):fw .add (.int i) (.int j)=some (.int (i+j)):=rfl
@[simp] theorem Jr(i j):fw .sub (.int i) (.int j)=some (.int (i-j)):=rfl
@[simp] theorem Js(i j):fw .mul (.int i) (.int j)=if (-(2 ^ 64)<i/\i<2 ^ 64)\/(-(2 ^ 64)<j/\j<2 ^ 64)then some (.int (i*j))else none:=rfl
@[simp] theorem IT(i j):fw .fdiv (.int i) (.int j)=if 0<j/\j<1073741824 then some (.int (i / j))else none:=rfl
@[simp] theorem wR(i j):fw .mod (.int i) (.int j)=if 0<j then some (.int (i % j))else none:=rfl
@[simp] theorem m6(x y):fw .add (.lst x) (.lst y)=if x.length+y.length<=10000 then some (.lst (x++y))else none:=rfl
@[simp] theorem Kd(i j):cJ .lt (.int i) (.int j)=some (decide (i<j)):=rfl
@[simp] theorem Ke(i j):cJ .le (.int i) (.int j)=some (decide (i<=j)):=rfl
@[simp] theorem Gw(i j):cJ .gt (.int i) (.int j)=some (decide (j<i)):=rfl
@[simp] theorem Kf(i j):cJ .ge (.int i) (.int j)=some (decide (j<=i)):=rfl
@[simp] theorem AV(x y):cJ .eq x y=eqF 100 x y:=rfl
@[simp] theorem AW(x y):cJ .ne x y=if sP x y=true then(eqF 100 x y).map (λp=>!p)else none:=rfl
@[simp] theorem Jt(x):cJ .isN x .non=some (jK x):=rfl
@[simp] theorem IU(x):cJ .notN x .non=some (!jK x):=rfl
@[simp] theorem Dk(x)(xs):cJ .isIn x (.tup xs)=isIn x xs:=rfl
@[simp] theorem Ju(x)(xs):cJ .isIn x (.lst xs)=isIn x xs:=rfl
@[simp] theorem IV(x)(xs):cJ .notIn x (.tup xs)=(isIn x xs).map λp=>!p:=rfl
@[simp] theorem IW(x)(xs):cJ .notIn x (.lst xs)=(isIn x xs).map λp=>!p:=rfl
@[simp] theorem Kg(n)(i j):eqF n (.bl i) (.bl j)=some (i==j):=by cases n<;>rfl
@[simp] theorem Jv(n)(i j):eqF n (.str i) (.str j)=some (i==j):=by cases n<;>rfl
@[simp] theorem Jw(x y):sP (.tup x) (.tup y)=true:=rfl
@[simp] theorem Jx(x y):sP (.lst x) (.lst y)=true:=rfl
@[simp] theorem Jy(x y):sP (.int x) (.int y)=true:=rfl
@[simp] theorem wS(x):bc (.tup x)=some x:=rfl
@[simp] theorem iC(x):bc (.lst x)=some x:=rfl
@[simp] theorem IX(x):az .len [.tup x]=some (.int x.length):=rfl
@[simp] theorem IY(x):az .len [.lst x]=some (.int x.length):=rfl
@[simp] theorem IZ(x):az .len [.dI (.k x)]=some (.int x.length):=rfl
@[simp] theorem Jz(x):az .tupleOf [x]=(bc x).map .tup:=rfl
@[simp] theorem I0(x):az .listOf [x]=(bc x).map .lst:=rfl
@[simp] theorem fF(x):az .sorted [x]=(bc x).bind i4:=rfl
@[simp] theorem m7(x):az .any [.lst x]=(cT x).map λbs=>.bl (bs.any id):=rfl
@[simp] theorem wT(x):az .all [.lst x]=(cT x).map λbs=>.bl (bs.all id):=rfl
@[simp] theorem I_(i):az .intOf [.int i]=some (.int i):=rfl
@[simp] theorem Ja(b):az .intOf [.bl b]=some (.int (if b then 1 else 0)):=rfl
@[simp] theorem JA(i):isD (.int i)=false:=rfl
@[simp] theorem Kh(i):isD (.bl i)=false:=rfl
@[simp] theorem JB(i):isD (.str i)=false:=rfl
@[simp] theorem JC(i):isD (.tup i)=false:=rfl
@[simp] theorem JD(i):isD (.lst i)=false:=rfl
@[simp] theorem JE:isD .non=false:=rfl
@[simp] theorem G4(x):az .isInt [x]=if isD x=true then none else some (.bl (isT .isInt x)):=rfl
@[simp] theorem BJ(i):isT .isInt (.int i)=true:=rfl
@[simp] theorem Dl(i):isT .isInt (.bl i)=true:=rfl
@[simp] theorem BK(i):isT .isInt (.str i)=false:=rfl
@[simp] theorem BL(i):isT .isInt (.lst i)=false:=rfl
@[simp] theorem BM(i):isT .isInt (.tup i)=false:=rfl
@[simp] theorem BN:isT .isInt .non=false:=rfl
@[simp] theorem Gx(x):az .isBool [x]=if isD x=true then none else some (.bl (isT .isBool x)):=rfl
@[simp] theorem AX(i):isT .isBool (.int i)=false:=rfl
@[simp] theorem BO(i):isT .isBool (.bl i)=true:=rfl
@[simp] theorem AY(i):isT .isBool (.str i)=false:=rfl
@[simp] theorem AZ(i):isT .isBool (.lst i)=false:=rfl
@[simp] theorem A0(i):isT .isBool (.tup i)=false:=rfl
@[simp] theorem A1:isT .isBool .non=false:=rfl
@[simp] theorem G5(x):az .isStr [x]=if isD x=true then none else some (.bl (isT .isStr x)):=rfl
@[simp] theorem BP(i):isT .isStr (.int i)=false:=rfl
@[simp] theorem Dm(i):isT .isStr (.bl i)=false:=rfl
@[simp] theorem BQ(i):isT .isStr (.str i)=true:=rfl
@[simp] theorem BR(i):isT .isStr (.lst i)=false:=rfl
@[simp] theorem BS(i):isT .isStr (.tup i)=false:=rfl
@[simp] theorem BT:isT .isStr .non=false:=rfl
@[simp] theorem Gy(x):az .isList [x]=if isD x=true then none else some (.bl (isT .isList x)):=rfl
@[simp] theorem A2(i):isT .isList (.int i)=false:=rfl
@[simp] theorem BU(i):isT .isList (.bl i)=false:=rfl
@[simp] theorem A3(i):isT .isList (.str i)=false:=rfl
@[simp] theorem A4(i):isT .isList (.lst i)=true:=rfl
@[simp] theorem A5(i):isT .isList (.tup i)=false:=rfl
@[simp] theorem A6:isT .isList .non=false:=rfl
@[simp] theorem D5(x):az .isTuple [x]=if isD x=true then none else some (.bl (isT .isTuple x)):=rfl
@[simp] theorem yG(i):isT .isTuple (.int i)=false:=rfl
@[simp] theorem A7(i):isT .isTuple (.bl i)=false:=rfl
@[simp] theorem yH(i):isT .isTuple (.str i)=false:=rfl
@[simp] theorem yI(i):isT .isTuple (.lst i)=false:=rfl
@[simp] theorem yJ(i):isT .isTuple (.tup i)=true:=rfl
@[simp] theorem yK:isT .isTuple .non=false:=rfl
@[simp] theorem oE(xs):az .max1 [.lst xs]=(bj xs).bind λns=>(u9 ns).map .int:=rfl
@[simp] theorem oF(d):az .valuesOf [.dI d]=if (kD d).length<=10000 then some (.lst (kD d))else none:=rfl
@[simp] theorem A8(kvs):az .sortedKeys [.dI (.k kvs)]=if kvs.length<64 then some (ofL (sortI (kvs.map (·.1))))else none:=rfl
@[simp] theorem Ki(kvs)(i):xU (.dI (.k kvs)) (.int i)=some (bS kvs i):=rfl
@[simp] theorem Kj(kvs)(ns):xU (.dI (.t kvs)) (.tup (ns.map .int))=some (bS kvs ns):=by
 show(bj _).map _=_;rw[bq]
 rfl
@[simp] theorem Kk(kvs)(i)(s):qX (.k kvs) (.int i) s=if kvs.length<10000 then some (.k (cW kvs i s))else none:=rfl
@[simp] theorem Kl(kvs)(ns)(s):qX (.t kvs) (.tup (ns.map .int)) s=if kvs.length<10000 then some (.t (cW kvs ns s))else none:=by
 show((bj _).bind λk=>if kvs.length<10000 then some _ else none)=_;rw[bq]
 rfl
@[simp] theorem JF(p q):cJ .isN (.bl p) (.bl q)=some (p==q):=rfl
@[simp] theorem Jb(p q):cJ .notN (.bl p) (.bl q)=some (!(p==q)):=rfl
@[simp] theorem Dn(xs):az .tupleRev [.lst xs]=some (.tup xs.reverse):=rfl
@[simp] theorem pI(x):az .sortedSet [x]=(bc x).bind λxs=>(bj xs).bind λns=>if ns.length<=1000/\(dd ns).length<64 then some (.lst ((sortI (dd ns)).map .int))else none:=rfl
@[simp] theorem A9(x)(i):gZ (.lst x) (.int i)=(place x.length i).bind λj=>x[j]?:=rfl
@[simp] theorem Jc(x)(i):gZ (.tup x) (.int i)=(place x.length i).bind λj=>x[j]?:=rfl
@[simp] theorem JG(x)(lo hi):kF (.lst x) lo hi=some (.lst (cut x lo hi)):=rfl
@[simp] theorem JH(i j):bnd (.cst (.int i)) (.int j)=some (some j):=rfl
@[simp] theorem wU(x):bg .seq [x]=bc x:=rfl
def Do(j):bg .rng [.int j]=if -(2 ^ 62)<=j/\j<2 ^ 62 then some ((range j.toNat).map λk=>.int ((0:Int)+k))else none:=rfl
@[simp] theorem aS(W)(k):(R.next W).andThen k=k W:=rfl
@[simp] theorem Jd(v)(k):(R.ret v).andThen k=.ret v:=rfl
@[simp] theorem Je(k):R.bad.andThen k=.bad:=rfl
@[simp] theorem Jf(W)(k):(R.brk W).andThen k=.brk W:=rfl
@[simp] theorem G6(W)(k):(R.cont W).andThen k=.cont W:=rfl
@[simp] theorem vH(v)(k):eW (some v) k=k v:=rfl
@[simp] theorem j8(v)(k):zV (some v) k=k v:=rfl
@[simp] theorem Gz(v)(k):cD (some v) k=k v:=rfl
@[simp] theorem G7(v):aX (.ret v)=some v:=rfl
@[simp] theorem GA(W):aX (.next W)=some .non:=rfl
@[simp] theorem cb(a)(l)(m):put (a::l) 0 m=some m::l:=rfl
@[simp] theorem cc(a)(l)(n)(m):put (a::l) (n+1) m=a::put l n m:=rfl
@[simp] theorem cN(src)(z W):(R.next W).back src z=.next (aM src z W):=rfl
@[simp] theorem Jg(src)(z)(v):(R.ret v).back src z=.ret v:=rfl
@[simp] theorem G8(body)(W):aq body [] W=.next W:=rfl
def oG(z:0<=j)(h1:j<4611686018427387904):bg .rng [.int j]=some ((range j.toNat).map λk=>.int (k:Int)):=by
 rw[Do,if_pos ⟨by omega,by omega⟩]
 congr 1
 simp_all
def hZ{n:Nat}{i:Int}(z:0<=i)(h:i<n):place n i=some i.toNat:=by unfold place;rw[if_pos z,if_pos h]
def leT(a b:List Int):Prop:=lexLt b a=false
theorem sortI_perm(l):(sortI l).Perm l:=by rw[dF];exact L2.Srt.sortI_perm l
theorem sortT_perm(l):(sortT l).Perm l:=by rw[kP];exact L2.Srt.sortT_perm l
def sortI_len(l):(sortI l).length=l.length:=(sortI_perm l).length_eq
def sortT_len(l):(sortT l).length=l.length:=(sortT_perm l).length_eq
def jw :x∈sortI l ↔ x∈l:=(sortI_perm l).mem_iff
def dw :x∈sortT l ↔ x∈l:=(sortT_perm l).mem_iff
theorem sortI_rises(l):(sortI l).Pairwise (· <= ·):=by rw[dF];exact L2.Srt.sortI_rises l
theorem sortT_rises(l):(sortT l).Pairwise leT:=by
 rw[kP];exact(L2.Srt.sortT_rises l).imp λh=>by unfold leT;rw[n5];exact h
theorem sortI_id{l:List Int}(h:l.Pairwise (· <= ·)):sortI l=l:=by rw[dF];exact L2.Srt.sortI_id h
theorem sortI_of_perm(p:a.Perm b):sortI a=sortI b:=by rw[dF,dF];exact L2.Srt.sortI_of_perm p
def oH(h:l.Nodup):(sortI l).Pairwise (· < ·):=by
 have h1:=sortI_rises l;have h2:=(sortI_perm l).nodup_iff.mpr h;exact(h1.and h2).imp λ⟨a,b⟩=>by omega
def i_ :k∈dd l ↔ k∈l:=by rw[qa];exact L2.St.gw
theorem dd_nodup(l):(dd l).Nodup:=by rw[qa];exact L2.St.dd_nodup l
theorem D6:∀{l},l.Nodup->dd l=l
 | [],_=>rfl
 |x::r,h=>by
  rw[dd,D6 (K7.mp h).2,if_neg (K7.mp h).1]
def dG{l:List Int}(h:l.Pairwise (· < ·)):l.Nodup:=h.imp λ{a b} q=>by omega
def bT(z:List Int):Prop:=z.Pairwise (· < ·)/\∀h∈z,0<=h/\h<=59
def au(R:List (List Int)):Prop:=(∀z∈R,bT z)/\R.Pairwise leT/\R.length<=60
theorem oI:∀(n:Nat) (l:List Int),l.Nodup->(∀x∈l,0<=x/\x<(n:Int))->l.length<=n
 |0,l,_,h=>by
  cases l with
  |nil=>simp
  |cons x r=>have:=h x (.head _);omega
 |n+1,l,J,h=>by
  have h1:=oI n (l.filter λx=>decide (x≠(n:Int))) (J.filter _) (λx hx=>by
   obtain⟨h2,U⟩:=KG.mp hx;have h4:=K2 U;have:=h x h2;omega)
  have h2:∀l:List Int,l.Nodup->l.length<=(l.filter λx=>decide (x≠(n:Int))).length+1:=by
   intro l
   induction l with
   |nil=>intro _;simp
   |cons x r ih =>
    intro J;by_cases e:x=(n:Int)
    .have Y:r.filter (λx=>decide (x≠(n:Int)))=r:=LR.mpr λy Z=>Ky λz=>(K7.mp J).1 (by rw[e,<- z];exact Z)
     rw[Ll (by simp[e]),Y];simp
    .simp_all
  have:=h2 l J;omega
def aJ(h:bT z):z.length<=60:=oI 60 z (dG h.1) λx hx=>by have:=h.2 x hx;omega
def rK(ns:List Int)(lo hi:Option Int):List Int:=(ns.drop (g5 ns.length 0 lo)).take (g5 ns.length ns.length hi-g5 ns.length 0 lo)
@[simp] theorem tU(ns)(lo hi):cut (ns.map .int) lo hi=(rK ns lo hi).map .int:=by
 unfold cut rK
 simp_all
def A_(ns:List Int){a b:Int}(z:0<=a)(J:0<=b):(rK ns (some a) (some b)).length<=(b-a).toNat:=by
 unfold rK;rw[NV,length_drop];have U:g5 ns.length ns.length (some b)=min b.toNat ns.length:=by show(if b<0 then _ else _)=_;rw[if_neg (Int.not_lt.mpr J)]
 have Y:g5 ns.length 0 (some a)=min a.toNat ns.length:=by show(if a<0 then _ else _)=_;rw[if_neg (Int.not_lt.mpr z)]
 rw[U,Y];obtain⟨A,rfl⟩:=Int.eq_ofNat_of_zero_le z;obtain⟨B,rfl⟩:=Int.eq_ofNat_of_zero_le J;rw[Int.toNat_sub,Int.toNat_natCast,Int.toNat_natCast];refine pe (Nat.min_le_left _ _) ?_;rcases Nat.le_total A ns.length with h|h
 .rw[Mg h];exact Nat.sub_le_sub_right (Nat.min_le_left _ _) A
 .rw[Nat.min_eq_right h,Nat.sub_eq_zero_of_le (Nat.min_le_right _ _)];exact KI _
end MM
structure PySem.W.Fast:Prop where (tw7964660169903680147 tw3690673982666351911 tw11666017157817361388 tw16856197811421667320 tw1768463724232223489 tw13484528109775749132 tw14752297159567639744 tw13749326077716689715 tw11463576166775217218 tw15641754720380609751 tw12645266782337178399 tw10555821160249048409 tw2609347224607685897 tw15948752612737686990 tw10769004342335772841 tw16210337255614926007 tw14589947927594931848 tw529633165503918768 tw16021085645585107525 tw8262431912947826452 tw5001131567632105381 tw10685358630254594757 tw9567398919156328300 tw9963368822217836190 tw7100889785553316681 tw17843742015055462361 tw13486246283028990504 tw11556593841873814081 tw3915658466206613550 tw4857532561733338453 tw12765114628570936218 tw15552318721917793099 tw2650938220694845744 tw12813396637543458442 tw9679101530369528352 tw17328704706473412252 tw8612776278611343762 tw5902040067048017253 tw4792945329626689494 tw5709684886081038444 tw4008077924149532547 tw7189384089811533600 tw1557897360475438912 tw10540180338945697757 tw126438920293496897 tw4947127787806846652 tw3413316752773669686 tw3041551195695336483 tw2217057656001920018 tw16580597591189274031 tw6683644439831503231 tw17872701346193102286 tw2053333170029771306 tw164315531035356261 tw6260555469237035835 tw14848105109402726224 tw7104954382009306856 tw10869766016082645546 tw10088619863891048537 tw2829981819329486479 tw1664311400784974052 tw3420894480699360804 tw3562137332064796531 tw314936232029917219 tw17350885556998480527 tw14193667825525570840 tw13493620012305174856 tw15969682736574091035 tw18411010412487174628 tw9822875355932650576 tw2256364801750572714 tw15208119664788583707 tw8562657767718122995 tw6905363622567581316 tw11535181950544839368 tw5263181346406170181 tw15327156782164209444 tw12411226237028684964 tw6850861425022966532 tw16045586585749706265 tw3193971262709495202 tw2599798521548847466 tw7440798656907888239 tw3810922089210410622 tw12113148068681087534 tw350148459048546100 tw14770977564089467557 tw7155394152788217372 tw11190655716328975796 tw14556221880134154388 tw9533606334794900039 tw17111601845131363434 tw13407579724951976389 tw9030685769377229628 tw11097213091415050435 tw10877953292357082705 tw17082565647307383486 tw16026594636312521447 tw7948389419702043988 tw7930096023579059223 tw1014038739718991199 tw13047031187035824333 tw4396950451916813113 tw8390030589257193399 tw2636558457357573840 tw10351906765806983869 tw10868710879972723038 tw7849473550231510113 tw4212377043917251583 tw15775832154295899762 tw8512645309449020226 tw16805352875899557526 tw9103053517442187352 tw16138151464133012262 tw3054072347402996346 tw4026876191210295362 tw6754560313231411349 tw7363515008553340266 tw12841473965248053424 tw14577873033691841264 tw8207614766315438625 tw3667170143379753536 tw12912598861042701373 tw17623092822800952298 tw2317117121691784048 tw15943286154230951392 tw14802131666071269772 tw8570911923071986156 tw14764452406579116852 tw11972873050772179838 tw6694741436795799356 tw18346160467684038965 tw17648361706830663480 tw6030062862720145147 tw4027422494522447116 tw4793413747562209881 tw5303375787476399395 tw7350274943115077150 tw14723134782211560652 tw16806132777370830741 tw5885305258086019187 tw14807723417455277325 tw485295939037518198 tw9852661937504791129 tw471635911421387543 tw2557591108649807355 tw7660047943597052482 tw17054491851419175238 tw8260295972988168124 tw9297306948390183756 tw12001670157769947282 tw10509768273174443304 tw8532489459773964892 tw14300833140993365683 tw13199053780687169405 tw11908796338704293277 tw13250326093297788327 tw14251233424498087018 tw4056777349202956711 tw7772317562442072128 tw10393791059279437554 tw11873556363611382132 tw2512713229584777395 tw11188521899691401813 tw914735460062840710 tw12721315119537938427 tw12396740804438129317 tw16865211428816799382 tw5032609456722553517 tw18212041284724337997 tw4310002055365186521 tw15149006454363109710 tw17781751765727253431 tw6787644358990442032 tw5424444738654309404 tw11678406016967478235 tw2306997644262611118 tw16863375398822333595 tw14003752655818770166 tw6436445560222534472 tw15447919607417624431 tw15967796806358259232 tw4904828225143960218 tw6971445330763302100 tw5442776548260881480 tw12969692143739685452 tw8585083898709570701 tw17768758126397656517 tw11823681854309762435 tw14465190602779805 tw4672823967802265442 tw1266309290729580342 tw1671751350444808601 tw11231216252510820378 tw23027098760498157 tw4748773895802916507 tw16552238937553644238 tw15837202163485849606 tw3792096273664574480 tw10016076542266178437 tw926840719002509653 tw12701372665815078204 tw7855133305398831579 tw15311936704542991991 tw1080982271400724357 tw6168811255544956211 tw12556608517534161314 tw3147499122149121870 tw16747470757294695552 tw2245998454084440257 tw4749967033488661886 tw15542763923394518442 tw769329904740707140 tw11312307102244803760 tw5450567199160478958 tw499580101435978938 tw2077562406445523547 tw5177320917466096036 tw8997781964619605616 tw4482306417745908301 tw13277224505950836426 tw29238166611572271 tw3442081933213786560 tw12483037769730164523 tw7543166256075389112 tw6390214408877733699 tw14093348030872182859 tw4854242695445573660 tw4879543342666125715 tw8834166849551074640 tw2779249124543875479 tw17045398984126522420 tw17289493484378289828 tw3073640502873298034 tw13462916672351377265 tw15320375871589229881 tw1493117274775219406 tw11373991926201015315 tw4279295022230498868 tw9255867739188998788 tw1749519898121833009 tw15041378780438383190 tw9111887508002297389 tw18407697516540237270 tw13134558315244633935 tw345295637501001651 tw9274931423103841437 tw4524070882043121395 tw17220030664753487979 tw14423737577146330776 tw1640804262821951086 tw3774932135290487169 tw17140210852939023086 tw685619367935756154 tw9977400703168088967 tw3490558412430445498 tw2669591235941700771 tw10305360181594155912 tw11034037272426409925 tw12660699112259154791 tw10142454683980870296 tw4628954282302557060 tw10944027174388644514 tw12555414393017440894 tw12962179916006169145 tw5744956979635827108 tw2673376711794410033 tw5030791099101301309 tw8800036911150087970 tw2303976922948897066 tw7312438324482717699 tw12835702685574406332 tw3019799267045836460 tw13476273563891592118 tw17559226172879956806 tw4205084886653989477 tw15967902563252212005 tw2891451330418986300 tw8650109895792830451 tw2929624711382674347 tw16970545709048818937 tw17042848456831119367 tw12473045955996029924 tw10048770940297632049 tw4360343355124974702 tw6704828919092308061 tw10178718624310796990:True)
namespace My
open PySem L2 MM List Option
noncomputable abbrev ix(a:Nat)(b:Int):ME:=.idx (.bor a) (.cst (.int b))
noncomputable abbrev sv(x:PV):Option MV:=some (.val x)
abbrev LL:=List (List Int)
noncomputable abbrev ci(x:Int):ME:=.cst (.int x)
noncomputable abbrev cs(x:Str):ME:=.cst (.str x)
noncomputable def bO:List MS:=[.extend 1 (.bor 2)]
def iD:MD:=⟨"members_of",["rows"],["rows","members","row"],
  [.setOwn 1 (.lst []),
  .for1 2 .seq [.bor 0] bO,
  .retOwn 1]⟩
noncomputable def l9:MD:=⟨"each_once",["members"],["members"],
  [.ret (.cmp .eq (.blt .lenSet [.bor 0]) (.blt .len [.bor 0]))]⟩
noncomputable def eT:MD:=⟨"strip_without",["strip","hole"],["strip","hole"],
  [.ret (.blt .tupleOf [(.comp .seq [.bor 0] [1] (.cmp .ne (.bor 0) (.bor 1)) (.var 0))])]⟩
noncomputable def lN:MD:=⟨"knotted",["rest","hole"],["rest","hole"],
  [.ret (.blt .tupleOf [(.blt .sorted [(.comp .seq [.bor 0] [1] (.cst (.bl true)) (.call 2 [.bor 0,.bor 1]))])])]⟩
noncomputable def tV:MD:=⟨"bitten",["rest","hole"],["rest","hole"],
  [.ret (.blt .tupleOf [(.comp .seq [.bor 0] [1] (.cmp .notIn (.bor 1) (.bor 0)) (.var 0))])]⟩
noncomputable def oJ:MD:=⟨"holes_of",["rest"],["rest"],
  [.ret (.blt .sortedSet [(.call 0 [.bor 0])])]⟩
def oK:MD:=⟨"is_whole",["rest"],["rest"],
  [.ret (.cmp .isIn (.tup []) (.bor 0))]⟩
def lO:MD:=⟨"is_bare",["rest"],["rest"],
  [.ret (.cmp .eq (.blt .len [.bor 0]) (ci 0))]⟩
def kT:MD:=⟨"other_hand",["hand"],["hand"],
  [.ret (.ite (.cmp .eq (.bor 0) (cs "weaver")) (cs "moth") (cs "weaver"))]⟩
def kU:MD:=⟨"behind",["rest","hand","reply"],["rest","hand","reply"],
  [.ite (.cmp .isN (.bor 2) (.cst .non))
   [.ret (.var 0)]
   [],
  .ret (.ite (.cmp .eq (.bor 1) (cs "weaver")) (.call 3 [.bor 0,.bor 2]) (.call 4 [.bor 0,.bor 2]))]⟩
noncomputable def jM:MD:=⟨"behind_both",["rest","hand","hole","reply"],["rest","hand","hole","reply"],
  [.ret (.call 9 [(.call 9 [.bor 0,(.call 8 [.bor 1]),.bor 2]),.bor 1,.bor 3])]⟩
def lP:MD:=⟨"has_all",["strip","other"],["strip","other"],
  [.ret (.cmp .eq (.blt .lenSetSub [.bor 1,.bor 0]) (ci 0))]⟩
noncomputable def bz:List MS:=[.ite (.call 11 [.bor 0,.bor 3])
   [.ret (.var 2)]
   []]
def dZ:MD:=⟨"least_place",["strip","rest"],["strip","rest","place","other"],
  [.forT [2,3] .enm [.bor 1] bz,
  .ret (.cst .non)]⟩
noncomputable def lQ:MD:=⟨"footing",["rest","other"],["rest","other"],
  [.ret (.comp .seq [.bor 0] [1] (.cst (.bl true)) (.call 12 [.bor 0,.bor 1]))]⟩
noncomputable def j9:MD:=⟨"is_below",["rest","other"],["rest","other"],
  [.ret (.cmp .notIn (.cst .non) (.call 13 [.bor 0,.bor 1]))]⟩
noncomputable def kW:MD:=⟨"has_a_pair",["strip","pairs"],["strip","pairs"],
  [.ret (.blt .any [(.comp .seq [.bor 1] [0] (.cst (.bl true)) (.call 11 [.bor 1,.bor 0]))])]⟩
noncomputable def kX:MD:=⟨"pairs_hold",["pairs","rest"],["pairs","rest"],
  [.ite (.not (.call 1 [(.call 0 [.bor 0])]))
   [.ret (.cst (.bl false))]
   [],
  .ret (.blt .all [(.comp .seq [.bor 1] [0] (.cst (.bl true)) (.call 15 [.bor 0,.bor 1]))])]⟩
def Ba:List MS:=[.ite (.cmp .eq (ix 2 0) (.bor 1))
   [.ret (ix 2 1)]
   [],
  .ite (.cmp .eq (ix 2 1) (.bor 1))
   [.ret (ix 2 0)]
   []]
def GB:MD:=⟨"mate",["pairs","hole"],["pairs","hole","pair"],
  [.for1 2 .seq [.bor 0] Ba,
  .ret (.cst .non)]⟩
noncomputable def oM:MD:=⟨"together",["rests"],["rests"],
  [.ret (.blt .tupleOf [(.blt .sorted [(.call 0 [.bor 0])])])]⟩
noncomputable def l_:MD:=⟨"are_apart",["rests"],["rests"],
  [.ret (.call 1 [(.call 0 [(.comp .seq [.bor 0] [] (.cst (.bl true)) (.call 5 [.bor 0]))])])]⟩
noncomputable def fG:MD:=⟨"strip_weight",["strip"],["strip"],
  [.ret (.bin .shr (.glob "UNIT" (.int 1152921504606846976)) (.blt .len [.bor 0]))]⟩
noncomputable def tY:MD:=⟨"weight",["rest"],["rest"],
  [.ret (.blt .sum [(.comp .seq [.bor 0] [] (.cst (.bl true)) (.call 20 [.bor 0]))])]⟩
def qk:List MS:=[.dput 1 (.bor 3) (.bin .add (.dget (.bor 1) (.bor 3) (ci 0)) (.call 20 [.bor 2]))]
def ql:List MS:=[.for1 3 .seq [.bor 2] qk]
def wV:MD:=⟨"pulls",["rest"],["rest","pull_of","strip","hole"],
  [.newD false 1,
  .for1 2 .seq [.bor 0] ql,
  .retOwn 1]⟩
noncomputable def cO:List MS:=[.ite (.or (.cmp .isN (.bor 2) (.cst .non)) (.cmp .gt (.dat (.bor 1) (.bor 3)) (.dat (.bor 1) (.bor 2))))
   [.set 2 (.var 3)]
   []]
def oN:MD:=⟨"heaviest",["rest"],["rest","pull_of","best","hole"],
  [.set 1 (.call 22 [.bor 0]),
  .set 2 (.cst .non),
  .for1 3 .seq [(.blt .sortedKeys [.bor 1])] cO,
  .ret (.var 2)]⟩
def iN:MD:=⟨"greatest_pull",["rest"],["rest"],
  [.ret (.blt .max1 [(.bin .add (.lst [(ci 0)]) (.blt .valuesOf [(.call 22 [.bor 0])]))])]⟩
def ja:List MS:=[.extend 1 (.comp .seq [(.slice (.bor 0) (.bin .add (.bor 2) (ci 1)) (.cst .non))] [3] (.cst (.bl true)) (.tup [.var 1,.var 0]))]
def qm:MD:=⟨"twos_of",["strip"],["strip","twos","place","low"],
  [.setOwn 1 (.lst []),
  .forT [2,3] .enm [.bor 0] ja,
  .retOwn 1]⟩
def iO:List MS:=[.dput 1 (.bor 3) (.bin .add (.dget (.bor 1) (.bor 3) (ci 0)) (ci 1))]
def iP:List MS:=[.for1 3 .seq [(.call 25 [.bor 2])] iO]
def jN:MD:=⟨"most_shared",["rest"],["rest","count_of","strip","two"],
  [.newD true 1,
  .for1 2 .seq [.bor 0] iP,
  .ret (.blt .max1 [(.bin .add (.lst [(ci 0)]) (.blt .valuesOf [.bor 1]))])]⟩
def cZ:MD:=⟨"moth_weighs",["rest","turn"],["rest","turn"],
  [.ite (.cmp .eq (.bor 1) (cs "moth"))
   [.ret (.cmp .lt (.call 21 [.bor 0]) (.glob "UNIT" (.int 1152921504606846976)))]
   [],
  .ret (.cmp .lt (.bin .add (.call 21 [.bor 0]) (.call 24 [.bor 0])) (.glob "UNIT" (.int 1152921504606846976)))]⟩
def oO:MD:=⟨"is_heavy",["rest"],["rest"],
  [.ret (.cmp .gt (.bin .mul (ci 4) (.call 21 [.bor 0])) (.bin .mul (.bin .mul (.glob "UNIT" (.int 1152921504606846976)) (.call 26 [.bor 0])) (.bin .fdiv (.blt .len [(.call 5 [.bor 0])]) (ci 2))))]⟩
def c_:MD:=⟨"weaver_weighs",["rest","turn"],["rest","turn"],
  [.ite (.cmp .eq (.bor 1) (cs "weaver"))
   [.ret (.call 28 [.bor 0])]
   [],
  .ite (.call 6 [.bor 0])
   [.ret (.cst (.bl true))]
   [],
  .ret (.and (.call 28 [.bor 0]) (.blt .all [(.comp .seq [(.call 5 [.bor 0])] [0] (.cst (.bl true)) (.call 28 [(.call 4 [.bor 1,.bor 0])]))]))]⟩
def rL:MD:=⟨"first",["paper","rest","hand"],["paper","rest","hand","word","reply"],
  [.set 3 (ix 0 0),
  .ite (.cmp .eq (.bor 3) (cs "fewer"))
   [.ret (.call 30 [(ix 0 2),(ix 0 1),.bor 2])]
   [],
  .ite (.cmp .eq (.bor 3) (cs "weight"))
   [.set 4 (.call 23 [.bor 1]),
   .ret (.tup [.var 4,(.call 9 [.bor 1,.bor 2,.bor 4]),.var 0])]
   [],
  .ite (.or (.cmp .eq (.bor 3) (cs "bite")) (.cmp .eq (.bor 3) (cs "knot")))
   [.ret (.tup [(ix 0 1),(.call 9 [.bor 1,.bor 2,(ix 0 1)]),(ix 0 2)])]
   [],
  .ret (.tup [.cst .non,.var 1,.var 0])]⟩
def kY:MD:=⟨"answer",["paper","rest","hand","hole"],["paper","rest","hand","hole","word","reply"],
  [.set 4 (ix 0 0),
  .ite (.cmp .eq (.bor 4) (cs "weight"))
   [.set 5 (.call 23 [(.call 9 [.bor 1,(.call 8 [.bor 2]),.bor 3])]),
   .ret (.tup [.var 5,(.call 10 [.bor 1,.bor 2,.bor 3,.bor 5]),.var 0])]
   [],
  .ite (.cmp .eq (.bor 4) (cs "pairs"))
   [.set 5 (.call 17 [(ix 0 1),.bor 3]),
   .ret (.tup [.var 5,(.call 10 [.bor 1,.bor 2,.bor 3,.bor 5]),.var 0])]
   [],
  .ite (.cmp .eq (.bor 4) (cs "cases"))
   [.ret (.call 33 [.bor 0,.bor 1,.bor 2,.bor 3])]
   [],
  .ite (.cmp .eq (.bor 4) (cs "parts"))
   [.ret (.call 34 [(ix 0 1),.bor 2,.bor 3])]
   [],
  .ite (.cmp .eq (.bor 4) (cs "fewer"))
   [.ret (.call 31 [(ix 0 2),(ix 0 1),.bor 2,.bor 3])]
   [],
  .ite (.cmp .eq (.bor 4) (cs "either"))
   [.ret (.call 35 [.bor 0,.bor 2,.bor 3])]
   [],
  .ret (.tup [.cst .non,.var 1,.var 0])]⟩
def fc:List MS:=[.ite (.cmp .eq (ix 2 0) (.bor 1))
   [.ret (.var 2)]
   []]
def oP:MD:=⟨"row_with",["rows","hole"],["rows","hole","row"],
  [.for1 2 .seq [.bor 0] fc,
  .ret (.cst .non)]⟩
def gh:MD:=⟨"answer_by_cases",["paper","rest","hand","hole"],["paper","rest","hand","hole","row"],
  [.set 4 (.call 32 [(ix 0 1),.bor 3]),
  .ite (.and (.cmp .isN (.bor 4) (.cst .non)) (.cmp .eq (.bor 2) (cs "moth")))
   [.ret (.tup [.cst .non,.var 1,.var 0])]
   [],
  .ite (.cmp .isN (.bor 4) (.cst .non))
   [.set 4 (.idx (ix 0 1) (ci 0))]
   [],
  .ret (.tup [(ix 4 1),(.call 10 [.bor 1,.bor 2,(ix 4 0),(ix 4 1)]),(ix 4 2)])]⟩
def jB:List MS:=[.ite (.cmp .isIn (.bor 2) (.call 5 [.bor 5]))
   [.set 7 (.call 31 [.bor 6,.bor 5,.bor 1,.bor 2]),
   .set 3 (ix 7 0),
   .append 4 (.tup [(ix 7 1),(ix 7 2)])]
   [.append 4 (.tup [.var 5,.var 6])]]
def kZ:MD:=⟨"answer_by_parts",["rows","hand","hole"],["rows","hand","hole","reply","kept","rest","paper","told"],
  [.set 3 (.cst .non),
  .setOwn 4 (.lst []),
  .forT [5,6] .seq [.bor 0] jB,
  .ret (.tup [.var 3,(.call 18 [(.comp .seq [.bor 4] [] (.cst (.bl true)) (ix 0 0))]),(.tup [(cs "parts"),(.blt .tupleOf [.bor 4])])])]⟩
def fH:MD:=⟨"answer_by_either",["paper","hand","hole"],["paper","hand","hole"],
  [.ite (.cmp .isIn (.bor 2) (.call 5 [(ix 0 1)]))
   [.ret (.call 30 [(ix 0 4),(ix 0 3),.bor 1])]
   [],
  .ret (.call 30 [(ix 0 2),(ix 0 1),.bor 1])]⟩
def ce:MD:=⟨"knots_needed",["paper","rest"],["paper","rest","word","rows"],
  [.set 2 (ix 0 0),
  .ite (.cmp .eq (.bor 2) (cs "weight"))
   [.ret (.blt .len [(.call 5 [.bor 1])])]
   [],
  .ite (.cmp .eq (.bor 2) (cs "knot"))
   [.ret (.bin .add (ci 1) (.call 36 [(ix 0 2),(.call 9 [.bor 1,(cs "weaver"),(ix 0 1)])]))]
   [],
  .ite (.cmp .eq (.bor 2) (cs "fewer"))
   [.ret (.call 36 [(ix 0 2),(ix 0 1)])]
   [],
  .ite (.cmp .eq (.bor 2) (cs "cases"))
   [.set 3 (.comp .seq [(ix 0 1)] [1] (.cst (.bl true)) (.tup [(ix 0 2),(.call 10 [.bor 1,(cs "weaver"),(ix 0 0),(ix 0 1)])])),
   .ret (.bin .add (ci 1) (.blt .max1 [(.comp .seq [.bor 3] [] (.cst (.bl true)) (.call 36 [(ix 0 0),(ix 0 1)]))]))]
   [],
  .ite (.cmp .eq (.bor 2) (cs "either"))
   [.ret (.blt .max2 [(.call 36 [(ix 0 2),(ix 0 1)]),(.call 36 [(ix 0 4),(ix 0 3)])])]
   [],
  .ret (ci 0)]⟩
def vI:MD:=⟨"good",["paper","rest","turn","hand"],["paper","rest","turn","hand"],
  [.ite (.cmp .eq (.bor 3) (cs "moth"))
   [.ret (.call 38 [.bor 0,.bor 1,.bor 2])]
   [],
  .ret (.call 39 [.bor 0,.bor 1,.bor 2])]⟩
def aQ:MD:=⟨"good_for_moth",["paper","rest","turn"],["paper","rest","turn","word"],
  [.set 3 (ix 0 0),
  .ite (.cmp .eq (.bor 3) (cs "bare"))
   [.ret (.call 7 [.bor 1])]
   [],
  .ite (.cmp .eq (.bor 3) (cs "weight"))
   [.ret (.call 27 [.bor 1,.bor 2])]
   [],
  .ite (.cmp .eq (.bor 2) (cs "moth"))
   [.ret (.and (.cmp .eq (.bor 3) (cs "bite")) (.call 40 [.bor 0,.bor 1,(cs "moth")]))]
   [],
  .ite (.cmp .eq (.bor 3) (cs "pairs"))
   [.ret (.call 16 [(ix 0 1),.bor 1])]
   [],
  .ite (.cmp .eq (.bor 3) (cs "cases"))
   [.ret (.and (.not (.call 6 [.bor 1])) (.call 41 [(ix 0 1),.bor 1,(cs "moth")]))]
   [],
  .ite (.cmp .eq (.bor 3) (cs "parts"))
   [.ret (.and (.call 42 [(ix 0 1),.bor 1]) (.call 43 [(ix 0 1)]))]
   [],
  .ret (.cst (.bl false))]⟩
def aC:MD:=⟨"good_for_weaver",["paper","rest","turn"],["paper","rest","turn","word"],
  [.set 3 (ix 0 0),
  .ite (.cmp .eq (.bor 3) (cs "whole"))
   [.ret (.call 6 [.bor 1])]
   [],
  .ite (.cmp .eq (.bor 3) (cs "weight"))
   [.ret (.call 29 [.bor 1,.bor 2])]
   [],
  .ite (.cmp .eq (.bor 3) (cs "fewer"))
   [.ret (.and (.call 14 [(ix 0 1),.bor 1]) (.call 37 [(ix 0 2),(ix 0 1),.bor 2,(cs "weaver")]))]
   [],
  .ite (.cmp .eq (.bor 2) (cs "weaver"))
   [.ret (.and (.cmp .eq (.bor 3) (cs "knot")) (.call 40 [.bor 0,.bor 1,(cs "weaver")]))]
   [],
  .ite (.cmp .eq (.bor 3) (cs "cases"))
   [.ret (.and (.cmp .gt (.blt .len [(.call 5 [.bor 1])]) (ci 0)) (.call 41 [(ix 0 1),.bor 1,(cs "weaver")]))]
   [],
  .ite (.cmp .eq (.bor 3) (cs "either"))
   [.ret (.call 44 [.bor 0,.bor 1])]
   [],
  .ret (.cst (.bl false))]⟩
def jb:MD:=⟨"move_is_good",["paper","rest","hand"],["paper","rest","hand"],
  [.ret (.call 37 [(ix 0 2),(.call 9 [.bor 1,.bor 2,(ix 0 1)]),(.call 8 [.bor 2]),.bor 2])]⟩
noncomputable def aP:List MS:=[.ite (.not (.call 37 [.bor 5,(.call 10 [.bor 1,.bor 2,.bor 3,.bor 4]),(.call 8 [.bor 2]),.bor 2]))
   [.ret (.cst (.bl false))]
   []]
def h_:MD:=⟨"cases_are_good",["rows","rest","hand"],["rows","rest","hand","hole","reply","paper"],
  [.ite (.cmp .ne (.comp .seq [.bor 0] [] (.cst (.bl true)) (ix 0 0)) (.call 5 [.bor 1]))
   [.ret (.cst (.bl false))]
   [],
  .forT [3,4,5] .seq [.bor 0] aP,
  .ret (.cst (.bl true))]⟩
def gi:MD:=⟨"parts_stand_for",["rows","rest"],["rows","rest","rests","strips"],
  [.set 2 (.comp .seq [.bor 0] [] (.cst (.bl true)) (ix 0 0)),
  .set 3 (.call 18 [.bor 2]),
  .ite (.or (.cmp .gt (.blt .len [.bor 3]) (.blt .len [.bor 1])) (.not (.call 19 [.bor 2])))
   [.ret (.cst (.bl false))]
   [],
  .ret (.and (.call 11 [(.call 5 [.bor 1]),(.call 5 [.bor 3])]) (.call 14 [.bor 1,.bor 3]))]⟩
def bP:List MS:=[.ite (.not (.call 37 [.bor 2,.bor 1,(cs "weaver"),(cs "moth")]))
   [.ret (.cst (.bl false))]
   []]
def ib:MD:=⟨"parts_are_good",["rows"],["rows","rest","paper"],
  [.forT [1,2] .seq [.bor 0] bP,
  .ret (.cst (.bl true))]⟩
def ic:MD:=⟨"either_is_good",["paper","rest"],["paper","rest","one","two"],
  [.set 2 (ix 0 1),
  .set 3 (ix 0 3),
  .ite (.or (.not (.call 19 [(.lst [.var 2,.var 3])])) (.or (.not (.call 14 [.bor 2,.bor 1])) (.not (.call 14 [.bor 3,.bor 1]))))
   [.ret (.cst (.bl false))]
   [],
  .ret (.and (.call 37 [(ix 0 2),.bor 2,(cs "weaver"),(cs "weaver")]) (.call 37 [(ix 0 4),.bor 3,(cs "weaver"),(cs "weaver")]))]⟩
def j_:MD:=⟨"_law_cell",["script","k"],["script","k"],
  [.ite (.cmp .lt (.bor 1) (.blt .len [.bor 0]))
   [.ret (.idx (.bor 0) (.bor 1))]
   [],
  .ret (ci 0)]⟩
def jc:MD:=⟨"_law_mixed",["cell","by"],["cell","by"],
  [.ret (.bin .mod (.bin .mul (.bin .mod (.bor 0) (ci 2305843009213693951)) (.bor 1)) (ci 2305843009213693951))]⟩
noncomputable def gH:MD:=⟨"_law_knotted",["rest","hole"],["rest","hole"],
  [.ret (.blt .tupleOf [(.blt .sorted [(.comp .seq [.bor 0] [1] (.cst (.bl true)) (.blt .tupleOf [(.comp .seq [.bor 0] [1] (.cmp .ne (.bor 0) (.bor 1)) (.var 0))]))])])]⟩
noncomputable def iE:MD:=⟨"_law_bitten",["rest","hole"],["rest","hole"],
  [.ret (.blt .tupleOf [(.comp .seq [.bor 0] [1] (.cmp .notIn (.bor 1) (.bor 0)) (.var 0))])]⟩
noncomputable def c7:List MS:=[.ite (.cmp .notIn (.bor 3) (.bor 1))
   [.append 1 (.var 3)]
   []]
def d4:List MS:=[.for1 3 .seq [.bor 2] c7]
def jd:MD:=⟨"_law_holes",["rest"],["rest","found","strip","hole"],
  [.setOwn 1 (.lst []),
  .for1 2 .seq [.bor 0] d4,
  .ret (.blt .sorted [.bor 1])]⟩
noncomputable def dH:List MS:=[.ite (.cmp .notIn (.bor 2) (.bor 1))
   [.ret (.cst (.bl false))]
   []]
def ff:MD:=⟨"_law_within",["some","others"],["some","others","hole"],
  [.for1 2 .seq [.bor 0] dH,
  .ret (.cst (.bl true))]⟩
def fI:List MS:=[.ite (.not (.blt .any [(.comp .seq [.bor 1] [3] (.cst (.bl true)) (.call 50 [.bor 0,.bor 1]))]))
   [.set 4 (.comp .seq [.bor 3] [2] (.cmp .notIn (.bor 0) (.bor 1)) (.var 0)),
   .ite (.cmp .gt (.blt .len [.bor 4]) (ci 1))
    [.append 1 (.tup [(ix 4 0),(ix 4 1)]),
    .set 2 (.bin .add (.bor 2) (.slice (.bor 4) (.cst .non) (ci 2)))]
    []]
   []]
def iF:MD:=⟨"_law_greedy",["rest"],["rest","pairs","used","strip","fresh"],
  [.setOwn 1 (.lst []),
  .set 2 (.lst []),
  .for1 3 .seq [.bor 0] fI,
  .ret (.blt .tupleOf [.bor 1])]⟩
def eE:List MS:=[.set 4 (.blt .sum [(.comp .seq [.bor 0] [3] (.cmp .isIn (.bor 1) (.bor 0)) (.bin .shr (.bin .pow (ci 2) (ci 60)) (.blt .len [.bor 0])))]),
  .ite (.cmp .gt (.bor 4) (.bor 2))
   [.set 2 (.var 4),
   .set 1 (.var 3)]
   []]
def qo:MD:=⟨"_law_top",["rest"],["rest","best","most","hole","pulled"],
  [.set 1 (.cst .non),
  .set 2 (ci 0),
  .for1 3 .seq [(.call 49 [.bor 0])] eE,
  .ret (.var 1)]⟩
def c8:List MS:=[.ite (.cmp .eq (.bor 1) (cs "weaver"))
   [.set 4 (.call 53 [(.call 47 [.bor 0,.bor 3]),(cs "moth")])]
   [.set 4 (.call 53 [(.call 48 [.bor 0,.bor 3]),(cs "weaver")])],
  .ite (.cmp .eq (ix 4 0) (.bor 1))
   [.ret (.tup [.var 1,(.tup [(.disp [("weaver","knot"),("moth","bite")] (.bor 1)),.var 3,(ix 4 1)])])]
   [],
  .append 2 (.tup [.var 3,(.idx (ix 4 1) (ci 1)),(.idx (ix 4 1) (ci 2))])]
def eF:MD:=⟨"_law_tried",["rest","turn"],["rest","turn","rows","hole","found"],
  [.ite (.cmp .isIn (.tup []) (.bor 0))
   [.ret (.tup [(cs "weaver"),(.tup [(cs "whole")])])]
   [],
  .ite (.cmp .eq (.blt .len [.bor 0]) (ci 0))
   [.ret (.tup [(cs "moth"),(.tup [(cs "bare")])])]
   [],
  .setOwn 2 (.lst []),
  .for1 3 .seq [(.call 49 [.bor 0])] c8,
  .ret (.tup [(.disp [("weaver","moth"),("moth","weaver")] (.bor 1)),(.tup [(cs "cases"),(.blt .tupleOf [.bor 2])])])]⟩
def bG:List MS:=[.set 10 (.bin .add (.bin .add (.bor 1) (.idx (.lst [(ci 0),(ci 4),(ci 8),(ci 0)]) (.bor 5))) (.bin .mod (.bor 4) (.bor 7))),
  .ite (.cmp .notIn (.bor 10) (.bor 8))
   [.append 8 (.var 10)]
   [],
  .set 4 (.bin .fdiv (.bor 4) (.bor 7))]
def gj:MD:=⟨"_law_block_strip",["cell","base","blocks","least"],["cell","base","blocks","least","left","block","size","many","strip","k","hole"],
  [.set 4 (.call 46 [.bor 0,(ci 1181783497276652981)]),
  .set 5 (.bin .mod (.bor 4) (.bor 2)),
  .set 4 (.bin .fdiv (.bor 4) (.bor 2)),
  .set 6 (.bin .add (.bor 3) (.bin .mod (.bor 4) (ci 3))),
  .set 4 (.bin .fdiv (.bor 4) (ci 3)),
  .set 7 (.idx (.lst [(ci 4),(ci 4),(ci 4),(ci 12)]) (.bor 5)),
  .setOwn 8 (.lst []),
  .for1 9 .rng [.bor 6] bG,
  .ret (.blt .tupleOf [(.blt .sorted [.bor 8])])]⟩
def iG:MD:=⟨"_law_next",["tape"],["tape"],
  [.ite (.cmp .gt (.lenP 0) (ci 0))
   [.retXE (.fn 46 (.pop 0) [(ci 2049848353892358983)])]
   [],
  .retM (ci 0)]⟩
def oQ:MD:=⟨"_law_deed",["rest","hand","reply"],["rest","hand","reply"],
  [.ite (.cmp .isN (.bor 2) (.cst .non))
   [.ret (.var 0)]
   [],
  .ite (.cmp .eq (.bor 1) (cs "moth"))
   [.ret (.call 48 [.bor 0,.bor 2])]
   [],
  .ret (.call 47 [.bor 0,.bor 2])]⟩
def eG:MD:=⟨"_law_reply",["rest","pick"],["rest","pick"],
  [.ite (.cmp .eq (.bin .mod (.bor 1) (ci 8)) (ci 0))
   [.ret (.cst .non)]
   [],
  .ite (.cmp .eq (.bin .mod (.bor 1) (ci 8)) (ci 1))
   [.ret (.bin .mod (.bin .fdiv (.bor 1) (ci 8)) (ci 60))]
   [],
  .ret (.call 52 [.bor 0])]⟩
def d5:List MS:=[.ite (.blt .any [(.comp .seq [.bor 5] [2] (.cst (.bl true)) (.blt .any [(.comp .seq [.bor 0] [1] (.cst (.bl true)) (.cmp .isIn (.bor 0) (.bor 1)))]))])
   [.set 3 (.bin .add (.bor 3) (.bor 5))]
   [.append 4 (.var 5)]]
def d6:List MS:=[.set 3 (.lst []),
  .setOwn 4 (.lst []),
  .for1 5 .seq [.bor 1] d5,
  .set 1 (.bin .add (.bor 4) (.lst [(.bin .add (.bor 3) (.lst [.var 2]))]))]
def mf:MD:=⟨"_law_split",["rest"],["rest","parts","strip","near","far","part"],
  [.set 1 (.lst []),
  .for1 2 .seq [.bor 0] d6,
  .ret (.comp .seq [.bor 1] [] (.cst (.bl true)) (.blt .tupleOf [(.blt .sorted [.bor 0])]))]⟩
def mh:MD:=⟨"_law_plain",["rest","turn","hand","pick"],["rest","turn","hand","pick"],
  [.ite (.cmp .eq (.bor 2) (cs "weaver"))
   [.ret (.idx (.lst [(.tup [(cs "weight")]),(.tup [(cs "whole")])]) (.blt .intOf [(.cmp .isIn (.tup []) (.bor 0))]))]
   [],
  .ite (.cmp .eq (.blt .len [.bor 0]) (ci 0))
   [.ret (.tup [(cs "bare")])]
   [],
  .ite (.and (.cmp .eq (.bor 1) (cs "weaver")) (.cmp .eq (.bin .mod (.bor 3) (ci 2)) (ci 0)))
   [.ret (.tup [(cs "pairs"),(.call 51 [.bor 0])])]
   [],
  .ret (.tup [(cs "weight")])]⟩
def gI:List MS:=[.set 6 (.call 56 [.bor 1,.bor 4,.bor 5]),
  .setX 7 (.fn2 57 (.var 6) (.call 55 [true] [.bor 0])),
  .appX 3 (.tup [(.pure (.var 5)),(.pure (.var 7)),(.call 63 [true,false,false,false,false] [.bor 0,(.call 56 [.bor 6,.bor 2,.bor 7]),.bor 4,.bor 2,(ci 0)])])]
def je:MD:=⟨"_law_cases",["tape","rest","hand"],["tape","rest","hand","rows","other","hole","behind_v","reply"],
  [.setOwn 3 (.lst []),
  .set 4 (.disp [("weaver","moth"),("moth","weaver")] (.bor 2)),
  .for1 5 .seq [(.call 49 [.bor 1])] gI,
  .retM (.tup [(cs "cases"),(.blt .tupleOf [.bor 3])])]⟩
def gJ:MD:=⟨"_law_of_moth",["tape","rest","turn","pick","deep"],["tape","rest","turn","pick","deep","reply","parts"],
  [.ite (.cmp .eq (.bor 2) (cs "moth"))
   [.set 5 (.call 57 [.bor 1,.bor 3]),
   .retXE (.tup [(.pure (cs "bite")),(.pure (.var 5)),(.call 63 [true,false,false,false,false] [.bor 0,(.call 56 [.bor 1,(cs "moth"),.bor 5]),(cs "weaver"),(cs "moth"),.bor 4])])]
   [],
  .ite (.and (.cmp .eq (.bin .mod (.bor 3) (ci 2)) (ci 0)) (.cmp .lt (.blt .len [(.call 49 [.bor 1])]) (ci 5)))
   [.retXE (.call 60 [true,false,false] [.bor 0,.bor 1,(cs "moth")])]
   [],
  .set 6 (.call 58 [.bor 1]),
  .retXE (.tup [(.pure (cs "parts")),(.tupOf (.compS (.var 6) [0,4] .pair (.var 0) 63 [true,false,false,false,false] [.bor 1,.bor 0,(cs "weaver"),(cs "moth"),.bor 2]))])]⟩
def eU:MD:=⟨"_law_of_weaver",["tape","rest","turn","pick","deep"],["tape","rest","turn","pick","deep","some","reply","parts","one","two","left"],
  [.ite (.cmp .eq (.bin .mod (.bor 3) (ci 3)) (ci 0))
   [.set 5 (.blt .tupleOf [(.comp .rng [(.blt .len [.bor 1])] [1,3] (.cmp .gt (.bin .mod (.bin .shr (.bor 2) (.bin .add (.bor 0) (ci 8))) (ci 4)) (ci 0)) (.idx (.bor 1) (.bor 0)))]),
   .retXE (.tup [(.pure (cs "fewer")),(.pure (.var 5)),(.call 63 [true,false,false,false,false] [.bor 0,.bor 5,.bor 2,(cs "weaver"),.bor 4])])]
   [],
  .ite (.cmp .eq (.bor 2) (cs "weaver"))
   [.set 6 (.call 57 [.bor 1,(.bin .fdiv (.bor 3) (ci 3))]),
   .retXE (.tup [(.pure (cs "knot")),(.pure (.var 6)),(.call 63 [true,false,false,false,false] [.bor 0,(.call 56 [.bor 1,(cs "weaver"),.bor 6]),(cs "moth"),(cs "weaver"),.bor 4])])]
   [],
  .ite (.and (.cmp .eq (.bin .mod (.bor 3) (ci 3)) (ci 1)) (.cmp .lt (.blt .len [(.call 49 [.bor 1])]) (ci 5)))
   [.retXE (.call 60 [true,false,false] [.bor 0,.bor 1,(cs "weaver")])]
   [],
  .set 7 (.call 58 [.bor 1]),
  .ite (.cmp .lt (.blt .len [.bor 7]) (ci 2))
   [.retM (.tup [(cs "weight")])]
   [],
  .set 8 (.idx (.bor 7) (.bin .mod (.bin .fdiv (.bor 3) (ci 3)) (.blt .len [.bor 7]))),
  .set 9 (.idx (.bor 7) (.bin .mod (.bin .add (.bin .fdiv (.bor 3) (ci 3)) (ci 1)) (.blt .len [.bor 7]))),
  .setX 10 (.call 63 [true,false,false,false,false] [.bor 0,.bor 8,(cs "weaver"),(cs "weaver"),.bor 4]),
  .retXE (.tup [(.pure (cs "either")),(.pure (.var 8)),(.pure (.var 10)),(.pure (.var 9)),(.call 63 [true,false,false,false,false] [.bor 0,.bor 9,(cs "weaver"),(cs "weaver"),.bor 4])])]⟩
def gm:MD:=⟨"_law_paper",["tape","rest","turn","hand","deep"],["tape","rest","turn","hand","deep","pick","found"],
  [.setX 5 (.call 55 [true] [.bor 0]),
  .ite (.and (.cmp .eq (.bin .mod (.bor 5) (ci 2)) (ci 0)) (.cmp .lt (.blt .len [(.call 49 [.bor 1])]) (ci 5)))
   [.set 6 (.call 53 [.bor 1,.bor 2]),
   .ite (.cmp .eq (ix 6 0) (.bor 3))
    [.retM (ix 6 1)]
    []]
   [],
  .ite (.or (.cmp .eq (.bor 4) (ci 0)) (.cmp .eq (.bin .mod (.bin .fdiv (.bor 5) (ci 2)) (ci 8)) (ci 0)))
   [.retM (.call 59 [.bor 1,.bor 2,.bor 3,(.bin .fdiv (.bor 5) (ci 16))])]
   [],
  .ite (.cmp .eq (.bor 3) (cs "moth"))
   [.retXE (.call 61 [true,false,false,false,false] [.bor 0,.bor 1,.bor 2,(.bin .fdiv (.bor 5) (ci 16)),(.bin .sub (.bor 4) (ci 1))])]
   [],
  .retXE (.call 62 [true,false,false,false,false] [.bor 0,.bor 1,.bor 2,(.bin .fdiv (.bor 5) (ci 16)),(.bin .sub (.bor 4) (ci 1))])]⟩
def dJ:List MS:=[.ite (.cmp .lt (.blt .len [(.call 49 [.bor 13])]) (ci 5))
   [.set 14 (.call 53 [.bor 13,.bor 1]),
   .ite (.and (.cmp .eq (ix 14 0) (.bor 2)) (.cmp .eq (.bor 2) (cs "weaver")))
    [.append 10 (.tup [.var 8,(.tup [(cs "fewer"),.var 13,(ix 14 1)])])]
    [],
   .ite (.cmp .eq (ix 14 0) (.bor 2))
    [.append 10 (.tup [.var 13,(ix 14 1)])]
    [],
   .ite (.cmp .eq (.idx (.call 53 [.bor 13,(cs "weaver")]) (ci 0)) (cs "moth"))
    [.append 11 (.tup [.var 13,(.idx (.call 53 [.bor 13,(cs "weaver")]) (ci 1))]),
    .set 12 (.bin .add (.bor 12) (.blt .listOf [.bor 13]))]
    []]
   []]
def dL:MD:=⟨"_law_stands",["script","turn","hand"],["script","turn","hand","way","by","room","cells","strips","rest","tape","found","rows","held","part","known","parts","longer"],
  [.set 3 (.call 46 [(.call 45 [.bor 0,(ci 0)]),(ci 1865811235122147685)]),
  .set 4 (.call 46 [(.call 45 [.bor 0,(ci 1)]),(ci 1442695040888963407)]),
  .set 5 (.idx (.lst [(ci 3),(ci 8)]) (.bin .mod (.bor 3) (ci 2))),
  .set 6 (.slice (.bor 0) (ci 2) (.bin .add (ci 2) (.bor 5))),
  .set 7 (.comp .seq [.bor 6] [4] (.cst (.bl true)) (.call 54 [.bor 0,(.bin .mod (.bor 1) (ci 49)),(.bin .add (ci 3) (.bin .mod (.bin .fdiv (.bor 1) (ci 49)) (ci 2))),(.bin .mod (.bin .fdiv (.bor 1) (ci 98)) (ci 3))])),
  .set 8 (.blt .tupleOf [(.blt .sorted [.bor 7])]),
  .setP 9 (.slice (.bor 0) (.bin .add (ci 2) (.bor 5)) (.cst .non)),
  .ownX 10 [(.tup [(.pure (.var 8)),(.call 63 [true,false,false,false,false] [.bor 9,.bor 8,.bor 1,.bor 2,(ci 3)])])],
  .setOwn 11 (.lst []),
  .set 12 (.lst []),
  .for1 13 .seq [(.call 58 [.bor 8])] dJ,
  .set 15 (.tup [(cs "parts"),(.blt .tupleOf [.bor 11])]),
  .ite (.and (.cmp .eq (.bor 2) (cs "moth")) (.cmp .eq (.bor 1) (cs "moth")))
   [.set 15 (.tup [(cs "bite"),.cst .non,.var 15])]
   [],
  .ite (.cmp .eq (.bor 2) (cs "moth"))
   [.append 10 (.tup [(.blt .tupleOf [(.blt .sorted [.bor 12])]),.var 15])]
   [],
  .ite (.and (.cmp .eq (.bor 2) (cs "moth")) (.cmp .gt (.blt .len [.bor 12]) (ci 0)))
   [.set 16 (.blt .tupleOf [(.blt .sortedSet [(.bin .add (.blt .listOf [(ix 12 0)]) (.lst [(.bin .mod (.bor 4) (ci 60))]))])]),
   .append 10 (.tup [(.blt .tupleOf [(.blt .sorted [(.bin .add (.bor 12) (.lst [.var 16]))])]),.var 15])]
   [],
  .retOwn 10]⟩
noncomputable def d7:List MS:=[.ite (.not (.blt .any [(.comp .seq [.bor 1] [2] (.cst (.bl true)) (.call 50 [.bor 0,.bor 1]))]))
   [.ret (.cst (.bl false))]
   []]
def mi:MD:=⟨"_law_below",["rest","other"],["rest","other","strip"],
  [.for1 2 .seq [.bor 0] d7,
  .ret (.cst (.bl true))]⟩
def fJ:List MS:=[.append 2 (.call 66 [(ix 3 2),(.call 56 [(.call 48 [.bor 1,(ix 3 0)]),(cs "weaver"),(ix 3 1)])])]
def dM:MD:=⟨"_law_needed",["paper","rest"],["paper","rest","needs","row"],
  [.ite (.cmp .eq (ix 0 0) (cs "weight"))
   [.ret (.blt .len [(.call 49 [.bor 1])])]
   [],
  .ite (.cmp .eq (ix 0 0) (cs "knot"))
   [.ret (.bin .add (ci 1) (.call 66 [(ix 0 2),(.call 56 [.bor 1,(cs "weaver"),(ix 0 1)])]))]
   [],
  .ite (.cmp .eq (ix 0 0) (cs "fewer"))
   [.ret (.call 66 [(ix 0 2),(ix 0 1)])]
   [],
  .ite (.cmp .eq (ix 0 0) (cs "either"))
   [.ret (.blt .max2 [(.call 66 [(ix 0 2),(ix 0 1)]),(.call 66 [(ix 0 4),(ix 0 3)])])]
   [],
  .ite (.cmp .eq (ix 0 0) (cs "whole"))
   [.ret (ci 0)]
   [],
  .setOwn 2 (.lst []),
  .for1 3 .seq [(ix 0 1)] fJ,
  .ret (.bin .add (ci 1) (.blt .max1 [.bor 2]))]⟩
def jf:MD:=⟨"_law_is_reply",["reply"],["reply"],
  [.ite (.cmp .isN (.bor 0) (.cst .non))
   [.ret (.cst (.bl true))]
   [],
  .ite (.or (.not (.blt .isInt [.bor 0])) (.blt .isBool [.bor 0]))
   [.ret (.cst (.bl false))]
   [],
  .ret (.and (.cmp .ge (.bor 0) (ci 0)) (.cmp .lt (.bor 0) (ci 60)))]⟩
def oR:MD:=⟨"_law_kept",["paper","rest","hole","found"],["paper","rest","hole","found","behind_v"],
  [.ite (.or (.not (.blt .isTuple [.bor 3])) (.cmp .ne (.blt .len [.bor 3]) (ci 3)))
   [.ret (.cst (.bl false))]
   [],
  .ite (.or (.not (.call 67 [(ix 3 0)])) (.not (.call 37 [(ix 3 2),(ix 3 1),(cs "moth"),(cs "weaver")])))
   [.ret (.cst (.bl false))]
   [],
  .set 4 (.call 56 [(.call 48 [.bor 1,.bor 2]),(cs "weaver"),(ix 3 0)]),
  .ite (.not (.call 65 [(ix 3 1),.bor 4]))
   [.ret (.cst (.bl false))]
   [],
  .ret (.or (.cmp .isIn (.tup []) (.bor 1)) (.cmp .lt (.call 36 [(ix 3 2),(ix 3 1)]) (.call 36 [.bor 0,.bor 1])))]⟩
def rM:List MS:=[.ite (.call 37 [(ix 2 1),(ix 2 0),(cs "weaver"),(cs "weaver")])
   [.ite (.cmp .ne (.call 36 [(ix 2 1),(ix 2 0)]) (.call 66 [(ix 2 1),(ix 2 0)]))
    [.ret (.cst (.bl false))]
    []]
   []]
def rN:List MS:=[.ite (.not (.call 68 [(ix 2 1),(ix 2 0),.bor 4,(.call 31 [(ix 2 1),(ix 2 0),(cs "weaver"),.bor 4])]))
   [.ret (.cst (.bl false))]
   []]
def rO:List MS:=[.ite (.call 37 [(ix 2 1),(ix 2 0),(cs "moth"),(cs "weaver")])
   [.set 3 (.call 36 [(ix 2 1),(ix 2 0)]),
   .ite (.or (.blt .isBool [.bor 3]) (.or (.not (.blt .isInt [.bor 3])) (.cmp .ne (.bor 3) (.call 66 [(ix 2 1),(ix 2 0)]))))
    [.ret (.cst (.bl false))]
    [],
   .ite (.cmp .eq (.blt .len [(ix 2 0)]) (ci 0))
    [.ret (.cst (.bl false))]
    [],
   .for1 4 .seq [(.bin .add (.call 49 [(ix 2 0)]) (.lst [.var 1]))] rN]
   []]
def wW:MD:=⟨"law",["script"],["script","more","stand","needed","hole"],
  [.set 1 (.bin .mod (.call 46 [(.call 45 [.bor 0,(ci 1)]),(ci 2049848353892358983)]) (ci 60)),
  .for1 2 .seq [(.call 64 [.bor 0,(cs "weaver"),(cs "weaver")])] rM,
  .for1 2 .seq [(.call 64 [.bor 0,(cs "moth"),(cs "weaver")])] rO,
  .ret (.cst (.bl true))]⟩
def defs:List MD:=[iD,l9,eT,lN,tV,oJ,oK,lO,kT,kU,jM,lP,dZ,lQ,j9,kW,kX,GB,oM,l_,fG,tY,wV,oN,iN,qm,jN,cZ,oO,c_,rL,kY,oP,gh,kZ,fH,ce,vI,aQ,aC,jb,h_,gi,ib,ic,j_,jc,gH,iE,jd,ff,iF,qo,eF,gj,iG,oQ,eG,mf,mh,je,gJ,eU,gm,dL,mi,dM,jf,oR,wW]
def tab:Tab:=⟨defs.map (·.name),[("UNIT",(.int 1152921504606846976))],[[],[],[],[],[],[],[],[],[],[],[],[],[],[],[],[],[],[],[],[],[],[],[],[],[],[],[],[],[],[],[],[],[],[],[],[],[],[],[],[],[],[],[],[],[],[],[],[],[],[],[],[],[],[],[],[],[],[],[],[],[],[],[],[],[],[],[],[],[],[]]⟩
noncomputable def cellOf(ns:List Int)(k:Int):Int:=ns.getD k.toNat 0
def GC(n:Nat)(m:MV)(ns:List Int)(k:Int)(z:bE (some m)=some (ofL ns))(J:0<=k):aa defs (n+1) 45 [m,.val (.int k)]=some (.int (cellOf ns k)):=by
 rw[ae (d:=j_) rfl rfl];unfold cellOf;simp[j_,exs,ex,ev,evs,evB,z];by_cases h:k<(ns.length:Int)
 .have h2:k.toNat<ns.length:=by omega
  simp[h,hZ J h,h2]
 .have h2:ns.length<=k.toNat:=by omega
  simp[h,h2]
noncomputable def eX(c b:Int):Int:=c % 2305843009213693951*b % 2305843009213693951
def iH(c b):0<=eX c b:=LD _ (by decide)
def rP(n:Nat)(c b:Int):aa defs (n+1) 46 [.val (.int c),.val (.int b)]=some (.int (eX c b)):=by
 rw[ae (d:=jc) rfl rfl];have h1:0<=c % 2305843009213693951:=LD _ (by decide);have h2:c % 2305843009213693951<2305843009213693951:=Lx _ (by decide);have z:(-18446744073709551616<c % 2305843009213693951/\c % 2305843009213693951<18446744073709551616\/-18446744073709551616<b/\b<18446744073709551616):=.inl ⟨by omega,by omega⟩;simp[jc,exs,ex,ev,evs,z,eX]
theorem kd{α:Type}{g:α->PV}{body:PV->Rho->R}{I:Rho->Prop}{p:α->Bool}{r:α->PV}:∀{xs:List α}{W},I W ->
  (∀x∈xs,∀W,I W->(p x=true->body (g x) W=.ret (r x))/\(p x=false->∃l,I l/\body (g x) W=.next l)) ->
  (∀x,xs.find? p=some x->aq body (xs.map g) W=.ret (r x))/\(xs.find? p=none->∃l,I l/\aq body (xs.map g) W=.next l)
 | [],W,J,_=>⟨λx h=>(by cases h),λ_=>⟨W,J,rfl⟩⟩
 |x::xs,W,J,h=>by
  obtain⟨h1,h2⟩:=h x (.head _) W J;rw[uw,aq];cases z:p x with
  |true =>
   rw[h1 z,M3 z];exact⟨λy e=>(by cases e;rfl),λe=>(by cases e)⟩
  |false =>
   obtain⟨l,U,e⟩:=h2 z;rw[e,L6 (by simp[z])];exact kd (xs:=xs) U λy Y=>h y (.tail _ Y)
def cQ(h:(evs cal src W).bind (bg k)=some xs):ex cal (.for1 i k src body) W=(aq (λx l=>exs cal body (put l i (.val x))) xs (bu src W)).back src W:=by
 rw[ex,h]
def rQ(h:(evs cal src W).bind (bg k)=some xs):ex cal (.forT is k src body) W=(aq (λx l=>cD (cX is x l) λz=>exs cal body z) xs (bu src W)).back src W:=by
 rw[ex,h]
def al(cal)(m)(ms)(W):exs cal (m::ms) W=(ex cal m W).andThen λl=>exs cal ms l:=rfl
def aE(h:ev cal e W=some v):ev cal (.blt b [e]) W=az b [v]:=by
 rw[ev,evs,h,bind_some,evs,map_some,bind_some]
def iI(h:ev cal e W=some v):ex cal (.set i e) W=.next (put W i (.val v)):=by
 rw[ex,h];rfl
def dQ(h:ev cal a W=some (.bl p))(h':p=true->ev cal b W=some (.bl q)):ev cal (.and a b) W=some (.bl (p&&q)):=by
 rw[ev,h];cases p<;>first|rfl|simp[h' rfl]
def dh(h:ev cal e W=some v):ex cal (.ret e) W=.ret v:=by
 rw[ex,h];rfl
def ab(h:evA cal es W=some vs)(h':cal f vs=some v):ev cal (.call f es) W=some v:=by
 rw[ev,h,bind_some,h']
def dy(h:ev cal e W=some (.lst xs)):ex cal (.setOwn i e) W=.next (put W i (.own xs)):=by
 rw[ex,h];rfl
def b8{α:Type}{xs:List α}{g h:α->PV}(h1:evs cal src W=some vs)(h2:bg k vs=some (xs.map g))(z:xs.length<=10000)
  (J:∀x∈xs,ev cal elt (cn js W (g x))=some (h x)):ev cal (.comp k src js (.cst (.bl true)) elt) W=some (.lst (xs.map h)):=by
 rw[ev,h1,bind_some,h2,bind_some,if_pos (by simpa using z),iB (h:=h) (λx _=>by simp[ev]) J]
 rfl
def fK(cal)(v)(W):ev cal (.cst v) W=some v:=rfl
def cf(h:ev cal a W=some x)(h':ev cal b W=some y):ev cal (.bin op a b) W=fw op x y:=by
 rw[ev,h,bind_some,h',bind_some]
def cE(h:ev cal a W=some x)(h':ev cal b W=some y):ev cal (.cmp op a b) W=(cJ op x y).map .bl:=by
 rw[ev,h,bind_some,h',bind_some]
def ie(h:ev cal a W=some (.int x))(z:0<k):ev cal (.cmp .eq (.bin .mod a (ci k)) (ci j)) W=some (.bl (x % k==j)):=by
 rw[cE (cf h (fK _ _ _) |>.trans (by rw[wR,if_pos z])) (fK _ _ _),AV,kS]
 rfl
def rR(h:ev cal a W=some (.bl b)):evB cal a W=some b:=by simp_all [evB]
def rS(z:∀i,e≠.bor i)(h:ev cal e W=some v):evA cal [e] W=some [.val v]:=by simp_all [evA]
def tZ(z:∀i,e≠.bor i)(h:ev cal e W=some v)(h':cal f [.val v]=some r):ev cal (.call f [e]) W=some r:=ab (rS z h) h'
def gK(h:ev cal a W=some x)(h':ev cal i W=some y):ev cal (.idx a i) W=gZ x y:=by
 rw[ev,h,bind_some,h',bind_some]
def vJ(h:body x W=.next z):aq body (x::xs) W=aq body xs z:=by rw[aq,h]
noncomputable def sub(a b:List Int):Bool:=a.all λx=>decide (x∈b)
def cR :sub a b=true ↔ ∀x∈a,x∈b:=by simp[sub]
def lR(n)(m U)(a b)(J:(bE (some m)).bind bc=some (a.map .int))(z:(bE (some U)).bind bc=some (b.map .int))(Z:a.length<=1000)(hb:b.length<=1000)(hd:(dd b).length<=60):aa defs (n+1) 11 [m,U]=some (.bl (sub b a)):=by
 rw[ae (d:=lP) rfl rfl];have h:((((dd b).filter λx=>!decide (x∈a)).length:Int)==0)=sub b a:=by
  rw[Lh,Kv,cR];constructor
  .intro h x hx;have h2:(dd b).filter (λx=>!decide (x∈a))=[]:=MU (by omega);have:=NH.mp h2 x (i_.mpr hx);simpa using this
  .intro h;have h2:(dd b).filter (λx=>!decide (x∈a))=[]:=NH.mpr λx hx=>by simpa using h x (i_.mp hx)
   rw[h2];rfl
 cases h1:bE (some m)with
 |none=>rw[h1]at J;cases J
 |some v =>
  cases h2:bE (some U)with
  |none=>rw[h2]at z;cases z
  |some Y =>
   rw[h1]at J;rw[h2]at z;have J:bc v=some (a.map .int):=J;have z:bc Y=some (b.map .int):=z;have e:az .lenSetSub [Y,v]=some (.int ((dd b).filter λx=>!decide (x∈a)).length):=by
    show((bc Y).bind λxs=>(bj xs).bind λns=>(bc v).bind λys=>(bj ys).bind λms=>if ns.length<=1000/\ms.length<=1000/\(dd ns).length<=60 then some (PV.int ((dd ns).filter λn=>!decide (n∈ms)).length)else none)=_;rw[z,J];simp[bq,Z,hb,hd]
   simp[lP,exs,ex,ev,evs,h1,h2,e,h]
theorem k4(cal)(a):∀(R:LL) g (z:∀t,bc (g t)=some (t.map .int)) acc s,acc.length+R.flatten.length<=10000 ->
  ∃s',aq (λx l=>exs cal bO (put l 2 (.val x))) (R.map g) [some a,some (.own (acc.map .int)),s]=.next [some a,some (.own ((acc++R.flatten).map .int)),s']
 | [],g,z,acc,s,_=>⟨s,by simp⟩
 |t::R,g,z,acc,s,h=>by
  rw[uw,aq];rw[flatten_cons,tf]at h;have h2:acc.length+t.length<=10000:=by omega
  have e:exs cal bO (put [some a,some (.own (acc.map .int)),s] 2 (.val (g t)))=.next [some a,some (.own ((acc++t).map .int)),sv (g t)]:=by
   simp[bO,exs,ex,ev,z,h2]
  rw[e];obtain⟨s',J⟩:=k4 cal a R g z (acc++t) (sv _) (by rw[tf];omega);exact⟨s',by rw[flatten_cons,<- Lf];exact J⟩
def lS(n)(m)(ho:∀xs,m≠.own xs)(R:LL)(g)(U:∀t,bc (g t)=some (t.map .int))(z:(bE (some m)).bind bc=some (R.map g))(Y:R.flatten.length<=10000):aa defs (n+1) 0 [m]=some (ofL R.flatten):=by
 rw[ae rfl rfl];obtain⟨s',e⟩:=k4 (aa defs n) m R g U [] none (by simpa using Y);simp only[map_nil]at e;cases J:bE _ with
 |none=>rw[J]at z;cases z
 |some v =>
  rw[J]at z;have z:bc v=some _:=z;cases m<;>first|exact absurd rfl (ho _)|simp[iD,exs,ex,ev,evs,bu,J,z,e,aM,-map_flatten]
theorem ig:∀l,(dd l).length<=l.length
 | []=>g4 _
 |x::r=>by
  have:=ig r;rw[dd]
  grind
theorem k5:∀l,(dd l).length=l.length ↔ l.Nodup
 | []=>by simp[dd]
 |x::r=>by
  have h:=ig r;have ih:=k5 r;rw[dd,K7,<- ih];by_cases q:x∈dd r
  .rw[if_pos q,length_cons];exact⟨λz=>by omega,λz=>absurd (i_.mp q) z.1⟩
  .rw[if_neg q,length_cons,length_cons];exact⟨λz=>⟨λw=>q (i_.mpr w),by omega⟩,λz=>by omega⟩
def Bb(n)(l)(z:l.length<=1000):aa defs (n+1) 1 [.val (ofL l)]=some (.bl (decide l.Nodup)):=by
 rw[ae rfl rfl];have e:az .lenSet [ofL l]=some (.int (dd l).length):=by
  show((bc (ofL l)).bind λxs=>(bj xs).bind λns=>if ns.length<=1000 then some (PV.int (dd ns).length)else none)=_;rw[iC,bind_some,bq,bind_some,if_pos z]
 have h:(((dd l).length:Int)==(l.length:Int))=decide l.Nodup:=by
  rw[Lh,Kv,K1,<- k5];omega
 simp[l9,exs,ex,ev,evs,e,h]
def OkP(R:LL):Prop:=∀t∈R,∃x y,t=[x,y]/\(0<=x/\x<=59)/\0<=y/\y<=59
def Dp(h:t.length<=2):(dd t).length<=60:=pe (ig t) (by omega)
def rT{R:LL}(h:OkP R):∀t∈R,t.length=2:=λt z=>by obtain⟨x,y,rfl,_⟩:=h t z;rfl
theorem D7:∀{R},OkP R->R.flatten.length=2*R.length
 | [],_=>rfl
 |t::R,h=>by
  rw[flatten_cons,tf,rT h t (.head _),D7 λu z=>h u (.tail _ z),length_cons];omega
def vK(n)(s)(v)(R)(hv:bc v=some (R.map ofS))(z:OkP R)(Y:R.length<=60)(hs:s.length<=1000):aa defs (n+2) 15 [.val (ofS s),.val v]=some (.bl (R.any λt=>sub t s)):=by
 rw[ae (d:=kW) rfl rfl];have U:ev (aa defs (n+1)) (.comp .seq [.bor 1] [0] (.cst (.bl true)) (.call 11 [.bor 1,.bor 0])) [sv (ofS s),sv v]=some (.lst (R.map λt=>.bl (sub t s))):=by
  refine b8 (vs:=[v]) (by simp[evs,ev]) hv (by omega) λt J=>?_
  refine ab (vs:=[.val (ofS s),.val (ofS t)]) (by simp[evA,cn]) (lR n _ _ s t rfl rfl hs (by have:=rT z t J;omega) (Dp (by have:=rT z t J;omega)))
 show aX (exs _ [.ret _] _)=_;rw[al,dh (v:=.bl _)]
 .rfl
 .show ev (aa defs _) _ [sv _,some _]=_;rw[aE U,m7,show(R.map λt=>PV.bl _)=(R.map λt=>sub t s).map PV.bl from by rw[Kx];rfl,dg];simp
def Bc(R A:LL):Bool:=decide R.flatten.Nodup&&A.all λs=>R.any λt=>sub t s
def rU(n)(v)(R A)(hv:bc v=some (R.map ofS))(J:OkP R)(Y:R.length<=60)(Z:∀t∈A,bT t)(hA:A.length<=60):aa defs (n+3) 16 [.val v,.val (ofR A)]=some (.bl (Bc R A)):=by
 rw[ae (d:=kX) rfl rfl];have hf:=D7 J;have em:=lS (n+1) (.val v) (λ_ z=>by cases z) R ofS (λ_=>rfl) (by simpa using hv) (by omega);simp only[Nat.add_assoc,Nat.reduceAdd]at em;have U:=Bb (n+1) R.flatten (by omega);simp only[Nat.add_assoc,Nat.reduceAdd]at U;show aX (exs (aa defs (n+2)) (_::[_]) [sv v,sv (ofR A)])=_;have e1:ev (aa defs (n+2)) (.call 1 [(.call 0 [.bor 0])]) [sv v,sv (ofR A)]=some (.bl (decide R.flatten.Nodup)):=
  ab (vs:=[.val (ofL R.flatten)]) (by
   have a1:ev (aa defs (n+2)) (.call 0 [.bor 0]) [sv v,sv (ofR A)]=some (ofL R.flatten):=ab (vs:=[.val v]) (by simp[evA]) em;simp only[evA,a1]
   rfl) U
 have ec:ev (aa defs (n+2)) (.comp .seq [.bor 1] [0] (.cst (.bl true)) (.call 15 [.bor 0,.bor 1])) [sv v,sv (ofR A)]=some (.lst (A.map λs=>.bl (R.any λt=>sub t s))):=by
  refine b8 (g:=ofS) (vs:=[ofR A]) (by simp[evs,ev]) rfl (by omega) λs hs=>?_
  exact ab (vs:=[.val (ofS s),.val v]) (by simp[evA,cn]) (vK n s v R hv J Y (by have:=aJ (Z s hs);omega))
 have e2:ev (aa defs (n+2)) (.blt .all [(.comp .seq [.bor 1] [0] (.cst (.bl true)) (.call 15 [.bor 0,.bor 1]))]) [sv v,sv (ofR A)]=some (.bl (A.all λs=>R.any λt=>sub t s)):=by
  rw[aE ec,wT,show(A.map λs=>PV.bl (R.any λt=>sub t s))=(A.map λs=>R.any λt=>sub t s).map PV.bl from by rw[Kx];rfl,dg];simp
 rw[al];have e3:ex (aa defs (n+2)) (.ite (.not (.call 1 [(.call 0 [.bor 0])])) [.ret (.cst (.bl false))] []) [sv v,sv (ofR A)]=if R.flatten.Nodup then .next [sv v,sv (ofR A)]else .ret (.bl false):=by
  rw[ex,evB,ev,e1];by_cases q:R.flatten.Nodup
  .simp[q,exs]
  .simp[q,exs,ex,ev]
 rw[e3];unfold Bc;by_cases q:R.flatten.Nodup
 .rw[if_pos q,aS,al,dh e2,Ky q,NB]
  rfl
 .simp_all
def t4 (v:PV):Prop:=v=.tup [.str "bare"]\/v=.tup [.str "whole"]\/v=.tup [.str "weight"]\/∃P,OkP P/\P.length<=60/\v=.tup [.str "pairs",ofR P]
def t5(n:Nat)(a b:List Int):aa defs (n+1) 50 [.val (ofS a),.val (ofS b)]=some (.bl (sub a b)):=by
 rw[ae (d:=ff) rfl rfl];have key:=kd (g:=PV.int) (xs:=a) (body:=λx l=>exs (aa defs n) dH (put l 2 (.val x))) (I:=λW=>∃kk,W=[sv (ofS a),sv (ofS b),kk]) (p:=λx=>!decide (x∈b)) (r:=λ_=>.bl false)
  (W:=[sv (ofS a),sv (ofS b),none]) ⟨_,rfl⟩ (by
   rintro x hx W ⟨kk,rfl⟩;constructor
   .intro h;simp at h;simp[dH,exs,ex,ev,evs,evB,bL,h]
   .intro h;simp at h;exact⟨[sv (ofS a),sv (ofS b),sv (.int x)],⟨_,rfl⟩,by simp[dH,exs,ex,ev,evs,evB,bL,h]⟩)
 cases hf:a.find? (λx=>!decide (x∈b))with
 |some x =>
  have e:=key.1 x hf;have hx:=find?_some hf;have z:=Nk hf;have:sub a b=false:=by
   cases hs:sub a b with
   |false=>rfl
   |true=>simp[cR.mp hs x z]at hx
  simp[ff,exs,ex,ev,evs,bu,e,this]
 |none =>
  obtain⟨l,⟨kk,rfl⟩,e⟩:=key.2 hf;have:sub a b=true:=cR.mpr λx hx=>by
   have:=MI.mp hf x hx;simpa using this
  simp[ff,exs,ex,ev,evs,bu,e,this,aM]
noncomputable def wgt(s:List Int):Int:=2 ^ (60-s.length)
def t6:∀n,n<=60->(1152921504606846976:Int) / 2 ^ n=2 ^ (60-n):=by decide +kernel
def wX(n)(s)(z:s.length<=60):aa defs (n+1) 20 [.val (ofS s)]=some (.int (wgt s)):=by
 rw[ae (d:=fG) rfl rfl];have e:fw .shr (.int 1152921504606846976) (.int (s.length:Int))=some (.int (wgt s)):=by
  show(if 0<=(s.length:Int)then some (PV.int (1152921504606846976 / 2 ^ ((s.length:Int)).toNat))else none)=_;rw[if_pos (by omega),Int.toNat_natCast,t6 _ z]
  rfl
 simp[fG,exs,ex,ev,evs,e]
def iJ  [DecidableEq α] (d:List (α×Sc)) (f:α->Int):Prop:=(∀k,bS d k=none->f k=0)/\∀k s,bS d k=some s->s=.int (f k)
def ii{α:Type}(d:List (α×Sc))(P:α->Prop):Prop:=(d.map (·.1)).Nodup/\∀k,k∈d.map (·.1) ↔ P k
section
variable{α:Type} [DecidableEq α]
def Bd{k:α}:bS d k=none ↔ k∉d.map (·.1):=by
 unfold bS;rw[map_eq_none_iff,MI];constructor
 .intro h z;obtain⟨p,J,rfl⟩:=mem_map.mp z;exact h p J (Ky rfl)
 .intro h p J e;exact h (mem_map.mpr ⟨p,J,K2 e⟩)
def Be(d)(k:α)(v):(cW d k v).map (·.1)=if k∈d.map (·.1)then d.map (·.1)else d.map (·.1)++[k]:=by
 have e:(d.any λp=>decide (p.1=k))=decide (k∈d.map (·.1)):=by
  rw[Lh,Lv,K1,mem_map]
  simp_all
 unfold cW;rw[e];by_cases h:k∈d.map (·.1)
 .rw[if_pos (Ky h),if_pos h,Kx];refine LG λp _=>?_
  show(if p.1=k then _ else p).1=p.1;split<;>rfl
 .rw[if_neg (by simpa using h),if_neg h,KS]
  rfl
def wY(d)(k j:α)(v):bS (cW d k v) j=if j=k then some v else bS d j:=by
 have gen:∀d,(d.any λp=>decide (p.1=k))=true->bS (d.map λp=>if p.1=k then(p.1,v)else p) j=if j=k then some v else bS d j:=by
  intro d
  induction d with
  |nil=>intro h;cases h
  |cons p d ih =>
   intro h;by_cases U:p.1=k
   .by_cases J:j=k
    .subst J;simp[bS,U]
    .rw[if_neg J];have:¬ p.1=j:=λz=>J (by rw[<- z,U])
     unfold bS;rw[uw,if_pos U,L6 (by simpa using this),L6 (by simpa using this)];by_cases Y:(d.any λp=>decide (p.1=k))=true
     .have:=ih Y;rw[if_neg J]at this;exact this
     .have e:(d.map λp=>if p.1=k then(p.1,v)else p)=d:=by
       conv=>rhs;rw[<- List.map_id d]
       refine LG λq Z=>?_
       rw[if_neg λz=>Y (Lv.mpr ⟨q,Z,Ky z⟩)]
       rfl
      rw[e]
   .have Y:(d.any λp=>decide (p.1=k))=true:=by simpa[U]using h
    have ih:=ih Y;unfold bS at ih ⊢;rw[uw,if_neg U];by_cases J:p.1=j
    .have:¬ j=k:=λz=>U (J.trans z)
     rw[M3 (by simpa using J),M3 (by simpa using J),if_neg this]
    .rw[L6 (by simpa using J),L6 (by simpa using J)];exact ih
 unfold cW;by_cases h:(d.any λp=>decide (p.1=k))=true
 .rw[if_pos h];exact gen d h
 .rw[if_neg h];have no:∀p∈d,¬ p.1=k:=λp U z=>h (Lv.mpr ⟨p,U,Ky z⟩)
  unfold bS;rw[find?_append];by_cases J:j=k
  .subst J;have:d.find? (λp=>decide (p.1=j))=none:=MI.mpr λp U=>by simpa using no p U
   rw[this,if_pos rfl];simp
  .rw[if_neg J];have:¬ k=j:=λz=>J z.symm
   cases d.find? (λp=>decide (p.1=j))<;>first|rfl|simp[this]
def put_len(d)(k:α)(v):(cW d k v).length<=d.length+1:=by
 unfold cW;split
 .simp_all
 .simp_all
def t7(h:iJ d f)(k:α):((bS d k).getD (.int 0)).pv=.int (f k):=by
 cases e:bS d k with
 |none=>rw[h.1 k e];rfl
 |some s=>rw[h.2 k s e];rfl
def Bf(h:iJ d f)(k:α)(w):iJ (cW d k (.int (f k+w))) (λj=>if j=k then f j+w else f j):=by
 refine⟨λj e=>?_,λj s e=>?_⟩
 .rw[wY]at e;by_cases z:j=k
  .simp_all
  .rw[if_neg z]at e;dsimp only;rw[if_neg z];exact h.1 j e
 .rw[wY]at e;by_cases z:j=k
  .simp_all
  .rw[if_neg z]at e;dsimp only;rw[if_neg z];exact h.2 j s e
def t8:iJ ([]:List (α×Sc)) λ_=>0:=⟨λ_ _=>rfl,λk s z=>by cases z⟩
def t9:ii ([]:List (α×Sc)) λ_=>False:=⟨LN,λk=>by simp⟩
def Bg(h:ii d P)(k:α)(v):ii (cW d k v) (λj=>P j\/j=k):=by
 unfold ii;rw[Be];by_cases J:k∈d.map (·.1)
 .rw[if_pos J];refine⟨h.1,λj=>?_⟩;rw[h.2 j];refine⟨.inl,λz=>z.elim id λe=>?_⟩;rw[e];exact(h.2 k).mp J
 .rw[if_neg J];refine⟨Mw.mpr ⟨h.1,by simp,λa U b Y=>by rw[KL.mp Y];exact λe=>J (e▸U)⟩,λj=>?_⟩;rw[LS,KL,h.2 j]
theorem GD{body:PV->Rho->R}{I:List (α×Sc)->Rho->Prop}{w:Int}:∀{xs:List α},(∀x∈xs,∀d W (f:α->Int),I d W->iJ d f->d.length<9500->∃l,I (cW d x (.int (f x+w))) l/\body (g x) W=.next l) ->
  xs.Nodup->∀{d}{W}{f}{P},I d W->iJ d f->ii d P->d.length+xs.length<=9000 ->
  ∃d' l,aq body (xs.map g) W=.next l/\I d' l/\iJ d' (λj=>f j+if j∈xs then w else 0)/\ii d' (λk=>P k\/k∈xs)/\d'.length<=d.length+xs.length
 | [],_,_,d,W,f,P,J,hd,U,_=>⟨d,W,rfl,J,by simpa using hd,by simpa using U,by simp⟩
 |x::xs,hb,Y,d,W,f,P,J,hd,U,hl=>by
  refine aB λZq kq=>?_
  rw[length_cons]at hl;obtain⟨hx,Y⟩:=K7.mp Y;obtain⟨a3,Z,e1⟩:=hb x (.head _) d W f J hd (by omega);have a5:=put_len d x (.int (f x+w));obtain⟨d',l,e2,ao,aO,z,a7⟩:=GD (xs:=xs) (λy hy=>hb y (.tail _ hy)) Y Z (Bf hd x w) (Bg U x _) (by omega);refine kq ?_;rw[uw,aq,e1];refine⟨d',l,e2,ao,?_,?_,by rw[length_cons];omega⟩
  .have ef:(λj=>(if j=x then f j+w else f j)+if j∈xs then w else 0)=λj=>f j+if j∈x::xs then w else 0:=by
    funext j
    by_cases hj:j=x
    .simp_all
    .simp[hj]
   rw[<- ef];exact aO
  .refine⟨z.1,λk=>?_⟩;rw[z.2 k];simp[wh,_root_.or_assoc]
theorem Jh{J:Type}{ge:J->PV}{m:J->List α}{w:J->Int}{body:PV->Rho->R}{I:List (α×Sc)->Rho->Prop}{top:Nat}:∀{R:List J},(∀s∈R,∀d W (f:α->Int) (P:α->Prop),I d W->iJ d f->ii d P->d.length<=8000 ->
   ∃d' l,body (ge s) W=.next l/\I d' l/\iJ d' (λj=>f j+if j∈m s then w s else 0)/\ii d' (λk=>P k\/k∈m s)/\d'.length<=d.length+top) ->
  ∀{d}{W}{f}{P},I d W->iJ d f->ii d P->d.length+top*R.length<=8000 ->
  ∃d' l,aq body (R.map ge) W=.next l/\I d' l/\iJ d' (λj=>f j+(R.map λs=>if j∈m s then w s else 0).sum)/\ii d' (λk=>P k\/∃s∈R,k∈m s)/\d'.length<=d.length+top*R.length
 | [],_,d,W,f,P,U,hd,Y,_=>⟨d,W,rfl,U,by simpa using hd,by simpa using Y,by simp⟩
 |s::R,hb,d,W,f,P,U,hd,Y,hl=>by
  refine aB λZq kq=>?_
  rw[length_cons,Nat.mul_succ]at hl;obtain⟨d1,a4,e1,Z,ao,aO,a6⟩:=hb s (.head _) d W f P U hd Y (by omega);obtain⟨d',l,e2,a0,a8,z,a9⟩:=Jh (R:=R) (λy hy=>hb y (.tail _ hy)) Z ao aO (by omega);refine kq ?_;rw[uw,aq,e1];refine⟨d',l,e2,a0,?_,⟨z.1,λk=>?_⟩,by rw[length_cons,Nat.mul_succ];omega⟩
  .grind
  .rw[z.2 k];simp only[wh,exists_eq_or_imp,_root_.or_assoc]
end
def aD(R:LL)(h:Int):Int:=(R.map λs=>if h∈s then wgt s else 0).sum
def mj(n)(R)(g:au R):∃d,aa defs (n+2) 22 [.val (ofR R)]=some (.dI (.k d))/\iJ d (aD R)/\ii d (λk=>∃s∈R,k∈s)/\d.length<=3600:=by
 have hl:=g.2.2;obtain⟨d,l,e,⟨x,y,rfl⟩,hd,hp,U⟩:=Jh (R:=R) (ge:=ofS) (m:=id) (w:=wgt) (top:=60) (body:=λv l=>exs (aa defs (n+1)) ql (put l 2 (.val v))) (I:=λd W=>∃x y,W=[sv (ofR R),some (.ownD (.k d)),x,y]) (d:=[]) (W:=[sv (ofR R),some (.ownD (.k [])),none,none]) (f:=λ_=>0) (P:=λ_=>False)
  (by
   rintro s hs d W f P ⟨x,y,rfl⟩ hd hp hl;have gs:=g.1 s hs;have Y:=aJ gs;have ew:=wX n s Y;obtain⟨d',l,e,⟨y',rfl⟩,r⟩:=GD (xs:=s) (g:=.int) (w:=wgt s) (body:=λv l=>exs (aa defs (n+1)) qk (put l 3 (.val v))) (I:=λd W=>∃y,W=[sv (ofR R),some (.ownD (.k d)),sv (ofS s),y]) (d:=d) (W:=[sv (ofR R),some (.ownD (.k d)),sv (ofS s),y])
    (by
     rintro z _ d W f ⟨y,rfl⟩ hd hl;have eg:ev (aa defs (n+1)) (.dget (.bor 1) (.bor 3) (ci 0)) [sv (ofR R),some (.ownD (.k d)),sv (ofS s),sv (.int z)]=some (.int (f z)):=by
      rw[<- t7 hd z];simp[ev]
     have es:ev (aa defs (n+1)) (.bin .add (.dget (.bor 1) (.bor 3) (ci 0)) (.call 20 [.bor 2])) [sv (ofR R),some (.ownD (.k d)),sv (ofS s),sv (.int z)]=some (.int (f z+wgt s)):=by
      rw[ev,eg,ab (vs:=[.val (ofS s)]) (by simp[evA]) ew]
      rfl
     have Z:d.length<10000:=by omega
     refine⟨_,⟨sv (.int z),rfl⟩,?_⟩;show exs (aa defs (n+1)) [_] [sv (ofR R),some (.ownD (.k d)),sv (ofS s),sv (.int z)]=_;rw[al,ex,es];simp[ev,Z,exs])
    (dG gs.1) ⟨y,rfl⟩ hd hp (by omega)
   refine⟨d',_,?_,⟨sv (ofS s),y',rfl⟩,r.1,r.2.1,by have:=r.2.2;omega⟩;have J:(evs (aa defs (n+1)) [.bor 2] [sv (ofR R),some (.ownD (.k d)),sv (ofS s),y]).bind (bg .seq)=some (s.map .int):=by simp[evs,ev]
   show exs (aa defs (n+1)) [_] [sv (ofR R),some (.ownD (.k d)),sv (ofS s),y]=_;rw[al,cQ J,show bu [.bor 2] [sv (ofR R),some (.ownD (.k d)),sv (ofS s),y]=[sv (ofR R),some (.ownD (.k d)),sv (ofS s),y]from rfl,e,cN,aS];simp[exs,aM])
  ⟨none,none,rfl⟩ t8 t9 (by simp;omega)
 refine⟨d,?_,?_,?_,by simp at U;omega⟩
 .rw[ae (d:=wV) rfl rfl];have J:(evs (aa defs (n+1)) [.bor 0] [sv (ofR R),some (.ownD (.k [])),none,none]).bind (bg .seq)=some (R.map ofS):=by simp[evs,ev]
  show aX (exs (aa defs (n+1)) (_::_::[_]) [sv (ofR R),none,none,none])=_;simp only[al];rw[show ex (aa defs (n+1)) (.newD false 1) [sv (ofR R),none,none,none]=.next [sv (ofR R),some (.ownD (.k [])),none,none]from by rw[ex];rfl,aS,cQ J,show bu [.bor 0] [sv (ofR R),some (.ownD (.k [])),none,none]=[sv (ofR R),some (.ownD (.k [])),none,none]from rfl,e,cN,aS];simp[exs,ex,aM]
 .have ef:(λj=>(0:Int)+(R.map λs=>if j∈id s then wgt s else 0).sum)=aD R:=by funext j;rw[Int.zero_add];rfl
  rw[<- ef];exact hd
 .simp_all
def Dq(n)(R)(g:au R):∃d,aa defs (n+2) 22 [.val (ofR R)]=some (.dI (.k d))/\iJ d (aD R)/\ii d (λk=>∃s∈R,k∈s):=by
 obtain⟨d,h1,h2,z,_⟩:=mj n R g;exact⟨d,h1,h2,z⟩
def Bh  [DecidableEq α] {P:α->Prop} (hd:iJ d f) (J:ii d P):∃M ns,(d.map (·.2)).map Sc.pv=ns.map .int/\ns.length=d.length/\u9 (0::ns)=some M/\0<=M/\(M=0\/∃k,P k/\f k=M)/\∀k,P k->f k<=M:=by
 have U:∀p∈d,p.2=.int (f p.1):=λp z=>by
  have e:bS d p.1=some p.2:=by
   unfold bS;have gen:∀(l:List (α×Sc)),(l.map (·.1)).Nodup->p∈l->l.find? (λq=>decide (q.1=p.1))=some p:=by
    intro l
    induction l with
    |nil=>intro _ h;cases h
    |cons q l ih =>
     intro Y h;rw[uw,K7]at Y;rcases wh.mp h with rfl|h
     .exact M3 (Ky rfl)
     .rw[L6 (by
       simp only[K1];intro e;exact Y.1 (mem_map.mpr ⟨p,h,e.symm⟩))]
      exact ih Y.2 h
   rw[gen d J.1 z]
   rfl
  exact hd.2 p.1 p.2 e
 have Z:u9 (0::d.map λp=>f p.1)=some ((d.map λp=>f p.1).foldl (λa b=>if a<b then b else a) 0):=rfl;obtain⟨h1,h2⟩:=lF Z;refine⟨_,d.map λp=>f p.1,?_,by simp,Z,h2 0 (.head _),?_,λk hk=>?_⟩
 .rw[Kx,Kx];refine LG λp z=>?_
  show(p.2).pv=_;rw[U p z]
  rfl
 .rcases wh.mp h1 with h|h
  .exact .inl h
  .obtain⟨p,z,e⟩:=mem_map.mp h;exact .inr ⟨p.1,(J.2 p.1).mp (mem_map.mpr ⟨p,z,rfl⟩),e⟩
 .obtain⟨p,z,rfl⟩:=mem_map.mp ((J.2 k).mpr hk);exact h2 _ (.tail _ (mem_map.mpr ⟨p,z,rfl⟩))
def Top(R:LL)(M:Int):Prop:=0<=M/\(M=0\/∃k,(∃s∈R,k∈s)/\aD R k=M)/\∀k,(∃s∈R,k∈s)->aD R k<=M
def vL(n)(R)(g:au R):∃M,aa defs (n+3) 24 [.val (ofR R)]=some (.int M)/\Top R M:=by
 obtain⟨d,e,hd,U,Y⟩:=mj n R g;obtain⟨M,ns,Z,ao,e2,h0,h1,h2⟩:=Bh hd U;refine⟨M,?_,h0,h1,h2⟩;rw[ae (d:=iN) rfl rfl];have z:ev (aa defs (n+2)) (.blt .valuesOf [(.call 22 [.bor 0])]) [sv (ofR R)]=some (.lst (ns.map .int)):=by
  rw[aE (ab (vs:=[.val (ofR R)]) (by simp[evA]) e),oF,if_pos (by unfold kD dSc;rw[mx,mx];omega)];show some (PV.lst ((d.map (·.2)).map Sc.pv))=_;rw[Z]
 have J:ev (aa defs (n+2)) (.bin .add (.lst [(ci 0)]) (.blt .valuesOf [(.call 22 [.bor 0])])) [sv (ofR R)]=some (.lst ((0::ns).map .int)):=by
  rw[ev,z];simp[ev,evs];omega
 show aX (exs (aa defs (n+2)) [_] [sv (ofR R)])=_;rw[al,dh (v:=.int M)]
 .rfl
 .rw[aE J,oE,bq,bind_some,e2]
  rfl
def Bi{R:LL}(h:Top R M)(h':Top R N):M=N:=by
 have key:∀{M N},Top R M->Top R N->M<=N:=λ{M N} h h'=>by
  rcases h.2.1 with e|⟨k,z,e⟩
  .rw[e];exact h'.1
  .rw[<- e];exact h'.2.2 k z
 grind
def t_(n)(R)(g:∀t∈R,bT t)(z:R.length<=10000):aa defs (n+2) 21 [.val (ofR R)]=some (.int (R.map wgt).sum):=by
 rw[ae (d:=tY) rfl rfl];have J:ev (aa defs (n+1)) (.comp .seq [.bor 0] [] (.cst (.bl true)) (.call 20 [.bor 0])) [sv (ofR R)]=some (.lst ((R.map wgt).map .int)):=by
  refine(b8 (g:=ofS) (h:=λs=>.int (wgt s)) (vs:=[ofR R]) (by simp[evs,ev]) rfl z λs hs=>?_).trans (by rw[Kx];rfl);exact ab (vs:=[.val (ofS s)]) (by simp[evA,cn]) (wX n s (aJ (g s hs)))
 show aX (exs (aa defs (n+1)) [_] [sv (ofR R)])=_;rw[al,dh (v:=.int (R.map wgt).sum)]
 .rfl
 .rw[aE J];show((bj _).map λns=>PV.int ns.sum)=_;rw[bq]
  rfl
noncomputable def iS:List Int->LL
 | []=>[]
 |x::s=>s.map (λy=>[x,y])++iS s
theorem oS:∀s,(iS s).length<=s.length*s.length
 | []=>g4 _
 |x::s=>by
  have:=oS s;rw[iS,tf,mx,length_cons,Nat.mul_succ,Nat.succ_mul];omega
theorem ij :∀{s},s.Pairwise (· < ·)->(t∈iS s ↔ ∃a b,t=[a,b]/\a<b/\a∈s/\b∈s)
 | [],_=>⟨λh=>(by cases h),λ⟨_,_,_,_,h,_⟩=>by cases h⟩
 |x::s,hs=>by
  obtain⟨h1,h2⟩:=Mc.mp hs;rw[iS,LS,ij h2,mem_map];constructor
  .rintro (⟨y,z,rfl⟩|⟨a,b,e,q,J,U⟩)
   .exact⟨x,y,rfl,h1 y z,.head _,.tail _ z⟩
   .exact⟨a,b,e,q,.tail _ J,.tail _ U⟩
  .rintro ⟨a,b,e,q,J,U⟩
   grind
theorem oT:∀{s},s.Pairwise (· < ·)->(iS s).Nodup
 | [],_=>LN
 |x::s,hs=>by
  obtain⟨h1,h2⟩:=Mc.mp hs;refine Mw.mpr ⟨?_,oT h2,λt z u J e=>?_⟩
  .unfold Nodup;rw[pairwise_map];exact h2.imp λ{a b} q e=>by cases e;omega
  .obtain⟨y,U,rfl⟩:=mem_map.mp z;obtain⟨a,b,rfl,q,Y,Z⟩:=(ij h2).mp J
   grind
theorem qp(cal)(s):∀r p A J U,s=p++r->A.length+(iS r).length<=10000->s.length<=1000 ->
  ∃Y Z,aq (λx l=>cD (cX [2,3] x l) λz=>exs cal ja z) (bD p.length (r.map .int)) [sv (ofS s),some (.own (A.map ofS)),J,U]=.next [sv (ofS s),some (.own ((A++iS r).map ofS)),Y,Z]
 | [],p,A,J,U,_,_,_=>⟨J,U,by simp[bD,iS]⟩
 |x::r,p,A,J,U,hs,hl,h3=>by
  rw[iS,tf,mx]at hl;have hp:p.length<s.length:=by rw[hs,tf,length_cons];omega
  have a4:s.length=p.length+(r.length+1):=by rw[hs,tf,length_cons]
  have ec:g5 s.length 0 (some ((p.length:Int)+1))=p.length+1:=by
   show(if (p.length:Int)+1<0 then((p.length:Int)+1+(s.length:Int)).toNat else min ((p.length:Int)+1).toNat s.length)=_
   grind
  have ao:kF (ofS s) (some ((p.length:Int)+1)) none=some (ofS r):=by
   show some (PV.tup (cut (s.map .int) (some ((p.length:Int)+1)) none))=_;have e1:cut (s.map PV.int) (some ((p.length:Int)+1)) none=r.map .int:=by
    unfold cut;rw[mx,ec,show g5 s.length s.length none=s.length from rfl,hs,KS,uw,drop_append,drop_eq_nil_of_le (by rw[mx];omega),nil_append,mx,show p.length+1-p.length=1 by omega,drop_one,tail_cons,NF (by rw[mx,tf,length_cons];omega)]
   rw[e1]
  have aO:ev cal (.comp .seq [(.slice (.bor 0) (.bin .add (.bor 2) (ci 1)) (.cst .non))] [3] (.cst (.bl true)) (.tup [.var 1,.var 0])) [sv (ofS s),some (.own (A.map ofS)),sv (.int (p.length:Int)),sv (.int x)]=some (.lst ((r.map λy=>[x,y]).map ofS)):=by
   refine(b8 (g:=.int) (h:=λy=>ofS [x,y]) (vs:=[ofS r]) ?_ rfl (by omega) λy _=>?_).trans (by rw[Kx];rfl)
   .simp[evs,ev,bnd,ao]
   .simp[ev,evs,cn]
  have e:cD (cX [2,3] (.tup [.int (p.length:Nat),.int x]) [sv (ofS s),some (.own (A.map ofS)),J,U]) (λz=>exs cal ja z)=.next [sv (ofS s),some (.own ((A++r.map λy=>[x,y]).map ofS)),sv (.int (p.length:Int)),sv (.int x)]:=by
   show exs cal [_] [sv (ofS s),some (.own (A.map ofS)),sv (.int (p.length:Int)),sv (.int x)]=_;have a0:A.length+r.length<=10000:=by omega
   rw[al,ex,aO,vH];simp[exs,a0]
  rw[uw,bD,aq,e];obtain⟨Y,Z,e2⟩:=qp cal s r (p++[x]) (A++r.map λy=>[x,y]) (sv (.int (p.length:Int))) (sv (.int x)) (by rw[hs,Lf];rfl) (by rw[tf,mx];omega) h3;rw[tf,length_singleton]at e2;refine⟨Y,Z,?_⟩;rw[iS,<- Lf];exact e2
def yj(n)(s)(J:s.length<=60):aa defs (n+1) 25 [.val (ofS s)]=some (.lst ((iS s).map ofS)):=by
 have h1:=oS s;have h2:=Nat.mul_le_mul J J;obtain⟨U,Y,e⟩:=qp (aa defs n) s s [] [] none none rfl (by simp;omega) (by omega);rw[ae (d:=qm) rfl rfl];have z:(evs (aa defs n) [.bor 0] [sv (ofS s),some (.own []),none,none]).bind (bg .enm)=some (bD 0 (s.map .int)):=by simp[evs,ev,bg]
 show aX (exs (aa defs n) (_::_::[_]) [sv (ofS s),none,none,none])=_;simp only[al];rw[dy (xs:=[]) (by simp[ev,evs]),aS];simp only[cb,cc];rw[rQ z,show bu [.bor 0] [sv (ofS s),some (.own []),none,none]=[sv (ofS s),some (.own []),none,none]from rfl];rw[length_nil,map_nil,nil_append]at e;rw[e,cN,aS];simp[exs,ex,aM]
section
variable{α:Type} [DecidableEq α]
theorem D8{U:Type}{ge:U->PV}{m:U->List α}{w:U->Int}{body:PV->Rho->R}{I:List (α×Sc)->Rho->Prop}{B:Nat}{Q:α->Prop}(Z:∀d P,ii d P->(∀k,P k->Q k)->d.length<=B):∀{R:List U},(∀s∈R,∀d W (f:α->Int) (P:α->Prop),I d W->iJ d f->ii d P->d.length<=B ->
   ∃d' l,body (ge s) W=.next l/\I d' l/\iJ d' (λj=>f j+if j∈m s then w s else 0)/\ii d' (λk=>P k\/k∈m s))->(∀s∈R,∀k∈m s,Q k) ->
  ∀{d}{W}{f}{P},I d W->iJ d f->ii d P->(∀k,P k->Q k) ->
  ∃d' l,aq body (R.map ge) W=.next l/\I d' l/\iJ d' (λj=>f j+(R.map λs=>if j∈m s then w s else 0).sum)/\ii d' (λk=>P k\/∃s∈R,k∈m s)/\d'.length<=B
 | [],_,_,d,W,f,P,hI,hd,z,Y=>⟨d,W,rfl,hI,by simpa using hd,by simpa using z,Z d P z Y⟩
 |s::R,hb,hm,d,W,f,P,hI,hd,z,Y=>by
  refine aB λZq kq=>?_
  obtain⟨d1,a7,e1,aO,a0,a1⟩:=hb s (.head _) d W f P hI hd z (Z d P z Y);obtain⟨d',l,e2,a2,bA,J,a3⟩:=D8 Z (R:=R) (λy hy=>hb y (.tail _ hy)) (λy hy=>hm y (.tail _ hy)) aO a0 a1 (λk hk=>hk.elim (Y k) (hm s (.head _) k));refine kq ?_;rw[uw,aq,e1];refine⟨d',l,e2,a2,?_,⟨J.1,λk=>?_⟩,a3⟩
  .grind
  .rw[J.2 k];simp[wh,exists_eq_or_imp,_root_.or_assoc]
end
def Bj(t:List Int):Prop:=∃a b,t=[a,b]/\0<=a/\a<=59/\0<=b/\b<=59
def Bk(d)(P)(J:ii d P)(U:∀k,P k->Bj k):d.length<=3600:=by
 have h1:∀t∈d.map _,Bj t:=λt z=>U t ((J.2 t).mp z)
 have h2:((d.map (·.1)).map λt=>t.getD 0 0*60+t.getD 1 0).Nodup:=by
  unfold Nodup;rw[pairwise_map];refine J.1.imp_of_mem λ{t u} z Y q e=>?_
  obtain⟨a,b,rfl,_⟩:=h1 t z;obtain⟨x,y,rfl,_⟩:=h1 u Y;have e:a*60+b=x*60+y:=e;have e1:a=x:=by omega
  simp_all
 have Z:=oI 3600 _ h2 λx hx=>by
  obtain⟨t,z,rfl⟩:=mem_map.mp hx;obtain⟨a,b,rfl,_⟩:=h1 t z;show 0<=a*60+b/\a*60+b<_;omega
 simpa using Z
noncomputable def ik(R:LL)(a b:Int):Int:=((R.filter λs=>decide (a∈s)&&decide (b∈s)).length:Int)
def Bl{R:LL}(U:∀s∈R,s.Pairwise (· < ·))(J:a<b):(R.map λs=>if [a,b]∈iS s then(1:Int)else 0).sum=ik R a b:=by
 unfold ik
 induction R with
 |nil=>rfl
 |cons s R ih =>
  rw[uw,sum_cons,ih λt Z=>U t (.tail _ Z)];have Y:=ij (t:=[a,b]) (U s (.head _));by_cases q:a∈s/\b∈s
  .rw[if_pos (Y.mpr ⟨a,b,rfl,J,q.1,q.2⟩),LH (by simpa using q),length_cons];omega
  .rw[if_neg λz=>q (by obtain⟨x,y,e,_,hx,hy⟩:=Y.mp z;cases e;exact⟨hx,hy⟩),Ll (by simpa using q)];omega
def mK(R:LL)(M:Int):Prop:=0<=M/\(M=0\/∃a b,a<b/\(∃s∈R,a∈s/\b∈s)/\ik R a b=M)/\∀a b,a<b->ik R a b<=M
def yk{R:LL}(h:¬ ∃s∈R,a∈s/\b∈s):ik R a b=0:=by
 unfold ik;rw[NH.mpr]
 .rfl
 .intro s hs q;exact h ⟨s,hs,by simpa using q⟩
def gL(n)(R)(g:au R):∃M,aa defs (n+2) 26 [.val (ofR R)]=some (.int M)/\mK R M:=by
 obtain⟨d,l,e,⟨x,y,rfl⟩,hd,hp,a5⟩:=D8 (R:=R) (ge:=ofS) (m:=iS) (w:=λ_=>1) (Q:=Bj) (B:=3600) Bk (body:=λv l=>exs (aa defs (n+1)) iP (put l 2 (.val v))) (I:=λd W=>∃x y,W=[sv (ofR R),some (.ownD (.t d)),x,y]) (d:=[]) (W:=[sv (ofR R),some (.ownD (.t [])),none,none]) (f:=λ_=>0) (P:=λ_=>False)
  (by
   rintro s hs d W f P ⟨x,y,rfl⟩ hd hp hl;have gs:=g.1 s hs;have Y:=aJ gs;have et:=yj n s Y;have a8:=oS s;have a9:=Nat.mul_le_mul Y Y;obtain⟨d',l,e,⟨y',rfl⟩,r⟩:=GD (xs:=iS s) (g:=ofS) (w:=1) (body:=λv l=>exs (aa defs (n+1)) iO (put l 3 (.val v))) (I:=λd W=>∃y,W=[sv (ofR R),some (.ownD (.t d)),sv (ofS s),y]) (d:=d) (W:=[sv (ofR R),some (.ownD (.t d)),sv (ofS s),y])
    (by
     rintro z _ d W f ⟨y,rfl⟩ hd hl;have eg:ev (aa defs (n+1)) (.dget (.bor 1) (.bor 3) (ci 0)) [sv (ofR R),some (.ownD (.t d)),sv (ofS s),sv (ofS z)]=some (.int (f z)):=by
      rw[<- t7 hd z];simp[ev]
     have es:ev (aa defs (n+1)) (.bin .add (.dget (.bor 1) (.bor 3) (ci 0)) (ci 1)) [sv (ofR R),some (.ownD (.t d)),sv (ofS s),sv (ofS z)]=some (.int (f z+1)):=by
      rw[ev,eg];simp[ev]
     have a1:d.length<10000:=by omega
     refine⟨_,⟨sv (ofS z),rfl⟩,?_⟩;show exs (aa defs (n+1)) [_] [sv (ofR R),some (.ownD (.t d)),sv (ofS s),sv (ofS z)]=_;rw[al,ex,es];simp[ev,a1,exs])
    (oT gs.1) ⟨y,rfl⟩ hd hp (by omega)
   refine⟨d',_,?_,⟨sv (ofS s),y',rfl⟩,r.1,r.2.1⟩;have J:(evs (aa defs (n+1)) [.call 25 [.bor 2]] [sv (ofR R),some (.ownD (.t d)),sv (ofS s),y]).bind (bg .seq)=some ((iS s).map ofS):=by
    rw[evs,ab (vs:=[.val (ofS s)]) (by simp[evA]) et];simp[evs]
   show exs (aa defs (n+1)) [_] [sv (ofR R),some (.ownD (.t d)),sv (ofS s),y]=_;rw[al,cQ J,show ∀W,bu [.call 25 [.bor 2]] W=W from λ_=>rfl,e,cN,aS];simp[exs,aM])
  (λs hs k Z=>by
   obtain⟨a,b,rfl,_,ha,hb⟩:=(ij (g.1 s hs).1).mp Z;have:=(g.1 s hs).2 a ha;have:=(g.1 s hs).2 b hb;exact⟨a,b,rfl,by omega,by omega,by omega,by omega⟩)
  ⟨none,none,rfl⟩ t8 t9 (λk z=>z.elim)
 obtain⟨M,ns,e1,b1,e2,h0,h1,h2⟩:=Bh hd hp;refine⟨M,?_,h0,?_,?_⟩
 .rw[ae (d:=jN) rfl rfl];have J:(evs (aa defs (n+1)) [.bor 0] [sv (ofR R),some (.ownD (.t [])),none,none]).bind (bg .seq)=some (R.map ofS):=by simp[evs,ev]
  have a2:ev (aa defs (n+1)) (.blt .valuesOf [.bor 1]) [sv (ofR R),some (.ownD (.t d)),x,y]=some (.lst (ns.map .int)):=by
   rw[aE (v:=.dI (.t d)) (by simp[ev]),oF,if_pos (by unfold kD dSc;rw[mx,mx];omega)];show some (PV.lst ((d.map (·.2)).map Sc.pv))=_;rw[e1]
  have a3:ev (aa defs (n+1)) (.bin .add (.lst [(ci 0)]) (.blt .valuesOf [.bor 1])) [sv (ofR R),some (.ownD (.t d)),x,y]=some (.lst ((0::ns).map .int)):=by
   rw[ev,a2];simp[ev,evs];omega
  show aX (exs (aa defs (n+1)) (_::_::[_]) [sv (ofR R),none,none,none])=_;simp only[al];rw[show ex (aa defs (n+1)) (.newD true 1) [sv (ofR R),none,none,none]=.next [sv (ofR R),some (.ownD (.t [])),none,none]from by rw[ex];rfl,aS,cQ J,show bu [.bor 0] [sv (ofR R),some (.ownD (.t [])),none,none]=[sv (ofR R),some (.ownD (.t [])),none,none]from rfl,e,cN,aS];rw[show ∀W,aM [.bor 0] [sv (ofR R),some (.ownD (.t [])),none,none] W=W from λ_=>rfl,dh (v:=.int M)]
  .rfl
  .rw[aE a3,oE,bq,bind_some,e2]
   rfl
 .refine h1.imp id λ⟨k,Z,ek⟩=>?_
  obtain⟨s,hs,Z⟩:=Z.resolve_left id;obtain⟨a,b,rfl,U,ha,hb⟩:=(ij (g.1 s hs).1).mp Z;refine⟨a,b,U,⟨s,hs,ha,hb⟩,?_⟩;rw[<- Bl (λs hs=>(g.1 s hs).1) U,<- ek];rw[Int.zero_add];exact KN List.sum (LG λs _=>by by_cases q:[a,b]∈iS s<;>simp[q])
 .intro a b U;by_cases q:∃s∈R,a∈s/\b∈s
  .obtain⟨s,hs,ha,hb⟩:=q;have:=h2 [a,b] (.inr ⟨s,hs,(ij (g.1 s hs).1).mpr ⟨a,b,rfl,U,ha,hb⟩⟩);rw[<- Bl (λs hs=>(g.1 s hs).1) U];refine NT (Int.le_of_eq ?_) this;rw[Int.zero_add];exact KN List.sum (LG λs _=>by by_cases q:[a,b]∈iS s<;>simp[q])
  .rw[yk q];exact h0
noncomputable def iT(z:List Int)(h:Int):List Int:=if h∈z then z else z++[h]
def k7(R:LL):List Int:=R.foldl (λacc z=>z.foldl iT acc) []
def ac(R:LL):List Int:=sortI (k7 R)
def wZ(J:acc.Nodup):(iT acc h).Nodup/\∀x,x∈iT acc h ↔ x∈acc\/x=h:=by
 unfold iT;by_cases q:h∈acc
 .simp_all
 .rw[if_neg q];refine⟨Mw.mpr ⟨J,by simp,λx hx y U=>by rw[KL.mp U];exact λz=>q (z▸hx)⟩,λx=>?_⟩
  simp_all
theorem oU:∀(J z:List Int),z.Nodup->(J.foldl iT z).Nodup/\∀x,x∈J.foldl iT z ↔ x∈z\/x∈J
 | [],z,U=>⟨U,λx=>by simp⟩
 |t::J,z,U=>by
  obtain⟨h1,h2⟩:=wZ (h:=t) U;obtain⟨Y,Z⟩:=oU J (iT z t) h1;refine⟨Y,λx=>?_⟩;rw[foldl_cons,Z,h2,wh,_root_.or_assoc]
theorem il:∀(R:LL) z,z.Nodup->(R.foldl (λz J=>J.foldl iT z) z).Nodup/\∀x,x∈R.foldl (λz J=>J.foldl iT z) z ↔ x∈z\/∃J∈R,x∈J
 | [],z,U=>⟨U,λx=>by simp⟩
 |t::J,z,U=>by
  obtain⟨h1,h2⟩:=oU t z U;obtain⟨Y,Z⟩:=il J (t.foldl iT z) h1;refine⟨Y,λx=>?_⟩;rw[foldl_cons,Z,h2];simp[_root_.or_assoc]
def aK{R:LL} :x∈ac R ↔ ∃z∈R,x∈z:=by
 unfold ac;rw[jw];have:=(il R [] LN).2 x;unfold k7;rw[this];simp
def fL(R):(ac R).Pairwise (· < ·):=oH (il R [] LN).1
def aV{R:LL}(g:∀z∈R,bT z):bT (ac R):=⟨fL R,λh J=>by
 obtain⟨z,h1,h2⟩:=aK.mp J;exact(g z h1).2 h h2⟩
def yl{R:LL}(g:∀z∈R,bT z):(k7 R).length<=60:=by
 have:=aJ (aV g);unfold ac at this;rw[sortI_len]at this;exact this
def Dr{R:LL}{z:List Int}(J:z.Nodup)(h:∀x∈z,0<=x/\x<=59):z.length<=60:=oI 60 z J λx hx=>by have:=h x hx;omega
def k8(R):sortI (dd R.flatten)=ac R:=by
 refine sortI_of_perm ((Lq (dd_nodup _) (il R [] LN).1).mpr λx=>?_);rw[i_,(il R [] LN).2 x,mem_flatten];simp
def cA(n)(R)(g:∀J∈R,bT J)(U:R.flatten.length<=1000):aa defs (n+2) 5 [.val (ofR R)]=some (ofL (ac R)):=by
 rw[ae rfl rfl];have e:=lS n (.val (ofR R)) (λ_ z=>by cases z) R ofS (λ_=>rfl) rfl (by omega);have hd:(dd R.flatten).length<64:=by
  have:=aJ (aV g);rw[<- k8,sortI_len]at this;omega
 simp[oJ,exs,ex,ev,evs,evA,e,-map_flatten,bq,-length_flatten,U,hd,k8]
noncomputable def bt(h:Int)(R:LL):LL:=R.filter λz=>!decide (h∈z)
def dR{R:LL}(g:au R):au (bt h R):=⟨λz J=>g.1 z (KG.mp J).1,g.2.1.filter _,pe (MF _ _) g.2.2⟩
def ua(n)(R)(h)(J:R.length<=10000):aa defs (n+1) 4 [.val (ofR R),.val (.int h)]=some (ofR (bt h R)):=by
 rw[ae rfl rfl];simp[tV,exs,ex,ev,evs,J];rw[cz (p:=λz=>!decide (h∈z)) (h:=ofS)]
 .simp[bt]
 .intro z _;simp[cn,bL]
 .intro z _ _;simp[cn]
def qr(h)(R):(bt h R).flatten.length<=R.flatten.length:=by
 unfold bt
 induction R with
 |nil=>exact g4 _
 |cons s R ih =>
  by_cases q:h∈s
  .grind
  .simp_all
def ke(n)(R):aa defs (n+1) 6 [.val (ofR R)]=some (.bl (decide ([]∈R))):=by
 rw[ae rfl rfl];have z:isIn (.tup []) _=some _:=j7 [] R;simp[oK,exs,ex,ev,evs,z]
def oV(R:LL):Prop:=∃M,mK R M/\1152921504606846976*M*(((ac R).length:Int) / 2)<4*(R.map wgt).sum
noncomputable def hv(R:LL):Bool:=@decide (oV R) (Classical.propDecidable _)
def lT{R:LL}:hv R=true ↔ oV R:=@K1 (oV R) (Classical.propDecidable _)
def ym{R:LL}(h:mK R M)(h':mK R N):M=N:=by
 have gen:∀{M N},mK R M->mK R N->M<=N:=λ{M N} h h'=>by
  rcases h.2.1 with e|⟨a,b,z,_,e⟩
  .have:=h'.1;omega
  .have:=h'.2.2 a b z;omega
 exact Int.le_antisymm (gen h h') (gen h' h)
def oW(n)(R)(g:au R)(Z:R.flatten.length<=1000):aa defs (n+3) 28 [.val (ofR R)]=some (.bl (hv R)):=by
 obtain⟨M,em,J⟩:=gL n R g;have U:=t_ n R g.1 (by have:=g.2.2;omega);have Y:=cA n R g.1 Z;have z:=aJ (aV g.1);have hb:hv R=decide (1152921504606846976*M*(((ac R).length:Int) / 2)<4*(R.map wgt).sum):=by
  rw[Lh,lT,K1];exact⟨λ⟨N,hN,h⟩=>by rw[ym J hN];exact h,λh=>⟨M,J,h⟩⟩
 rw[hb,ae (d:=oO) rfl rfl];generalize (R.map wgt).sum=w at U;generalize ac R=ks at Y z;have b1:(-18446744073709551616<(4:Int)/\(4:Int)<18446744073709551616\/-18446744073709551616<w/\w<18446744073709551616):=.inl ⟨by decide,by decide⟩;have b2:(-18446744073709551616<(1152921504606846976:Int)/\(1152921504606846976:Int)<18446744073709551616\/-18446744073709551616<M/\M<18446744073709551616):=.inl ⟨by decide,by decide⟩;have b3:(-18446744073709551616<1152921504606846976*M/\1152921504606846976*M<18446744073709551616\/-18446744073709551616<(ks.length:Int) / 2/\(ks.length:Int) / 2<18446744073709551616):=.inr ⟨by omega,by omega⟩;have e1:ev (aa defs (n+2)) (.bin .mul (ci 4) (.call 21 [.bor 0])) [sv (ofR R)]=some (.int (4*w)):=by
  rw[ev,ab (vs:=[.val (ofR R)]) (by simp[evA]) U];simp[ev,b1]
 have e2:ev (aa defs (n+2)) (.bin .mul (.bin .mul (.glob "UNIT" (.int 1152921504606846976)) (.call 26 [.bor 0])) (.bin .fdiv (.blt .len [(.call 5 [.bor 0])]) (ci 2))) [sv (ofR R)]=some (.int (1152921504606846976*M*((ks.length:Int) / 2))):=by
  have e3:ev (aa defs (n+2)) (.bin .mul (.glob "UNIT" (.int 1152921504606846976)) (.call 26 [.bor 0])) [sv (ofR R)]=some (.int (1152921504606846976*M)):=by
   rw[ev,ab (vs:=[.val (ofR R)]) (by simp[evA]) em];simp[ev,b2]
  have e4:ev (aa defs (n+2)) (.bin .fdiv (.blt .len [(.call 5 [.bor 0])]) (ci 2)) [sv (ofR R)]=some (.int ((ks.length:Int) / 2)):=by
   rw[ev,aE (ab (vs:=[.val (ofR R)]) (by simp[evA]) Y)];simp[ev]
  rw[ev,e3,e4]
  simp_all
 show aX (exs (aa defs (n+2)) [_] [sv (ofR R)])=_;rw[al,dh (v:=.bl (decide (1152921504606846976*M*((ks.length:Int) / 2)<4*w)))]
 .rfl
 .rw[ev,e1,e2]
  rfl
def mL (n) (R) (g:au R) (J:R.flatten.length<=1000):aa defs (n+4) 29 [.val (ofR R),.val (.str "weaver")]=some (.bl (hv R)) /\
  aa defs (n+4) 29 [.val (ofR R),.val (.str "moth")]=some (.bl (decide ([]∈R)||(hv R&&(ac R).all λh=>hv (bt h R)))):=by
 have U:=oW n R g J;have z:=ke (n+2) R;have Y:=cA (n+1) R g.1 J;have Z:=aJ (aV g.1);constructor
 .rw[ae (d:=c_) rfl rfl];have h:((("weaver":Str)==("weaver":Str)))=true:=by decide
  simp[c_,exs,ex,ev,evA,evB,h,U]
 .rw[ae (d:=c_) rfl rfl];have h:((("moth":Str)==("weaver":Str)))=false:=by decide
  have ec:ev (aa defs (n+3)) (.comp .seq [(.call 5 [.bor 0])] [0] (.cst (.bl true)) (.call 28 [(.call 4 [.bor 1,.bor 0])])) [sv (ofR R),sv (.str "moth")]=some (.lst (((ac R).map λh=>hv (bt h R)).map .bl)):=by
   refine(b8 (g:=.int) (h:=λh=>.bl (hv (bt h R))) (vs:=[ofL (ac R)]) ?_ rfl (by omega) λh _=>?_).trans (by rw[Kx];rfl)
   .rw[evs,ab (vs:=[.val (ofR R)]) (by simp[evA]) Y];simp[evs]
   .have eb:ev (aa defs (n+3)) (.call 4 [.bor 1,.bor 0]) (cn [0] [sv (ofR R),sv (.str "moth")] (.int h))=some (ofR (bt h R)):=ab (vs:=[.val (ofR R),.val (.int h)]) (by simp[evA,cn]) (ua (n+2) R h (by have:=g.2.2;omega));exact ab (vs:=[.val (ofR (bt h R))]) (by simp only[evA,eb];simp) (oW n (bt h R) (dR g) (pe (qr h R) J))
  have ea:ev (aa defs (n+3)) (.and (.call 28 [.bor 0]) (.blt .all [(.comp .seq [(.call 5 [.bor 0])] [0] (.cst (.bl true)) (.call 28 [(.call 4 [.bor 1,.bor 0])]))])) [sv (ofR R),sv (.str "moth")]=some (.bl (hv R&&(ac R).all λh=>hv (bt h R))):=by
   refine dQ (ab (vs:=[.val (ofR R)]) (by simp[evA]) U) λ_=>?_
   rw[aE ec,wT,dg,map_some,Nc]
   rfl
  show aX (exs (aa defs (n+3)) (_::_::[_]) [sv (ofR R),sv (.str "moth")])=_;simp only[al];rw[show ex (aa defs (n+3)) (.ite (.cmp .eq (.bor 1) (cs "weaver")) [.ret (.call 28 [.bor 0])] []) [sv (ofR R),sv (.str "moth")]=.next [sv (ofR R),sv (.str "moth")]from by simp[ex,exs,ev,evB,h],aS];by_cases q:[]∈R
  .rw[Ky q]at z ⊢;simp[ex,exs,ev,evA,evB,z]
  .rw[KP q]at z ⊢;rw[show ex (aa defs (n+3)) (.ite (.call 6 [.bor 0]) [.ret (.cst (.bl true))] []) [sv (ofR R),sv (.str "moth")]=.next [sv (ofR R),sv (.str "moth")]from by simp[ex,exs,ev,evA,evB,z],aS,dh ea]
   rfl
def b7 (n) (R) (g:au R):∃M,Top R M/\aa defs (n+4) 27 [.val (ofR R),.val (.str "weaver")]=some (.bl (decide ((R.map wgt).sum+M<1152921504606846976)))/\aa defs (n+4) 27 [.val (ofR R),.val (.str "moth")]=some (.bl (decide ((R.map wgt).sum<1152921504606846976))):=by
 obtain⟨M,em,J⟩:=vL n R g;have z:=t_ (n+1) R g.1 (by have:=g.2.2;omega);refine⟨M,J,?_,?_⟩
 .rw[ae (d:=cZ) rfl rfl];have h:((("weaver":Str)==("moth":Str)))=false:=by decide
  simp[cZ,exs,ex,ev,evA,evB,h,z,em]
 .rw[ae (d:=cZ) rfl rfl];simp[cZ,exs,ex,ev,evA,evB,z]
theorem ml(cal)(a s):∀(U J:List Int) (kk:Option MV),J.Nodup->(∀x∈J,0<=x/\x<=59)->(∀x∈U,0<=x/\x<=59) ->
  ∃Y,aq (λx l=>exs cal c7 (put l 3 (.val x))) (U.map .int) [some a,some (.own (J.map .int)),some s,kk]=.next [some a,some (.own ((U.foldl iT J).map .int)),some s,Y]
 | [],J,kk,_,_,_=>⟨kk,rfl⟩
 |t::U,J,kk,h1,h2,Z=>by
  rw[uw,aq];have hl:J.length<10000:=by have:=Dr (R:=[]) h1 h2;omega
  have e:exs cal c7 (put [some a,some (.own (J.map .int)),some s,kk] 3 (.val (.int t)))=.next [some a,some (.own ((iT J t).map .int)),some s,sv (.int t)]:=by
   by_cases q:t∈J
   .simp[c7,exs,ex,ev,evB,bL,iT,q]
   .simp[c7,exs,ex,ev,evB,bL,iT,q,hl]
  rw[e];obtain⟨q1,q2⟩:=wZ (h:=t) h1;exact ml cal a s U (iT J t) _ q1 (λx hx=>((q2 x).mp hx).elim (h2 x) λz=>z▸Z t (.head _)) λx hx=>Z x (.tail _ hx)
theorem oX(cal)(a):∀(R:LL) (J:List Int) (s kk:Option MV),J.Nodup->(∀x∈J,0<=x/\x<=59)->(∀U∈R,∀x∈U,0<=x/\x<=59) ->
  ∃s' Y,aq (λx l=>exs cal d4 (put l 2 (.val x))) (R.map ofS) [some a,some (.own (J.map .int)),s,kk]=.next [some a,some (.own ((R.foldl (λJ U=>U.foldl iT J) J).map .int)),s',Y]
 | [],J,s,kk,_,_,_=>⟨s,kk,rfl⟩
 |t::R,J,s,kk,h1,h2,Z=>by
  rw[uw,aq];obtain⟨k',e2⟩:=ml cal a (.val (ofS t)) t J kk h1 h2 (Z t (.head _));have e:exs cal d4 (put [some a,some (.own (J.map .int)),s,kk] 2 (.val (ofS t)))=.next [some a,some (.own ((t.foldl iT J).map .int)),sv (ofS t),k']:=by
   simp[d4,exs,ex,ev,evs,bu,e2,aM]
  rw[e];obtain⟨q1,q2⟩:=oU t J h1;exact oX cal a R _ _ _ q1 (λx hx=>((q2 x).mp hx).elim (h2 x) λz=>Z t (.head _) x z) λU ao=>Z U (.tail _ ao)
def jx(n:Nat)(R:LL)(g:∀z∈R,bT z):aa defs (n+1) 49 [.val (ofR R)]=some (ofL (ac R)):=by
 rw[ae (d:=jd) rfl rfl];obtain⟨s',Z,e⟩:=oX (aa defs n) (.val (ofR R)) R [] none none LN (λx h=>by cases h) λz J=>(g z J).2
 have U:(k7 R).length<64:=by have:=yl g;omega
 simp only[map_nil]at e;have Y:R.foldl (λacc z=>z.foldl iT acc) []=k7 R:=rfl;rw[Y]at e;simp[jd,exs,ex,ev,evs,bu,e,aM,qj U,ac]
def fg(n:Nat)(R:LL)(h:Int)(J:R.length<=10000):aa defs (n+1) 48 [.val (ofR R),.val (.int h)]=some (ofR (bt h R)):=by
 rw[ae (d:=iE) rfl rfl];simp[iE,exs,ex,ev,evs,J];rw[cz (p:=λz=>!decide (h∈z)) (h:=ofS)]
 .simp[bt]
 .intro z _;simp[ev,cn,bL]
 .intro z _ _;simp[ev,cn]
def Ji(cal)(W):ev cal (.bin .pow (ci 2) (ci 60)) W=some (.int 1152921504606846976):=rfl
def Jj(cal)(s)(z:s.length<=60)(r):ev cal (.bin .shr (.bin .pow (ci 2) (ci 60)) (.blt .len [.bor 0])) (sv (ofS s)::r)=some (.int (wgt s)):=by
 rw[cf (Ji _ _) (y:=.int (s.length:Int)) (by simp[ev,evs])];show(if 0<=(s.length:Int)then some _ else none)=_;rw[if_pos (by omega),Int.toNat_natCast,t6 _ z]
 rfl
def GE{ns:List Int}(h:ev cal e W=some (.lst (ns.map .int))):ev cal (.blt .sum [e]) W=some (.int ns.sum):=by
 rw[aE h];show((bj _).map λns=>PV.int ns.sum)=_;rw[bq]
 rfl
def ub(R)(h):((R.filter λs=>decide (h∈s)).map wgt).sum=aD R h:=by
 unfold aD
 induction R with
 |nil=>rfl
 |cons s R ih =>
  by_cases q:h∈s
  .simp_all
  .simp_all
noncomputable def af (b:Bool):PySem.Str:=if b=true then "moth" else "weaver"
def w8(a b):((PySem.Str.ofString a)==(PySem.Str.ofString b))=(a==b):=by
 rw[Lh,Kv,Kv];refine⟨λh=>?_,λh=>by rw[h]⟩;rw[PySem.Str.ofString_eq_byList]at h;unfold PySem.Str.ofStringByList at h;have h1:(a.toList.map Char.toNat).toArray=(b.toList.map Char.toNat).toArray:=by injection h
 have h2:a.toList.map Char.toNat=b.toList.map Char.toNat:=by simpa using h1
 have key:∀xs ys:List Char,xs.map Char.toNat=ys.map Char.toNat->xs=ys:=by
  intro xs
  induction xs with
  |nil=>intro ys h;cases ys with|nil=>rfl|cons=>simp at h
  |cons x xs ih=>intro ys h;cases ys with
   |nil=>simp at h
   |cons y ys =>
    simp only[uw,Ni]at h;rw[ih ys h.2,Char.toNat_inj.mp h.1]
 exact String.toList_inj.mp (key _ _ h2)
def aT(h:ev cal e W=some v)(k:aX (exs cal ms (put W i (.val v)))=X):aX (exs cal (.set i e::ms) W)=X:=by simp_all [al,iI]
def cU(h:ex cal m W=.next l)(k:aX (exs cal ms l)=X):aX (exs cal (m::ms) W)=X:=by simp_all [al]
def gp(h:ev cal e W=some v):aX (exs cal (.ret e::ms) W)=some v:=by
 rw[al,dh h];rfl
def cg(h:ev cal e W=some v)(k:exs cal ms (put W i (.val v))=r):exs cal (.set i e::ms) W=r:=by
 rw[al,iI h,aS,k]
def fM(h:ex cal m W=.next l)(k:exs cal ms l=r):exs cal (m::ms) W=r:=by simp_all [al]
def cj(h:ex cal m W=.next l):exs cal [m] W=.next l:=by
 rw[al,h,aS,exs]
def aU(h:ev cal c W=some (.bl p)):ex cal (.ite c a b) W=if p=true then exs cal a W else exs cal b W:=by
 rw[ex,rR h,j8]
def aA(h:ev cal c W=some (.bl false))(k:aX (exs cal ms W)=X):aX (exs cal (.ite c a []::ms) W)=X:=by simp_all [aU,exs]
def bx(h:ev cal c W=some (.bl true))(k:ev cal e W=some v):aX (exs cal (.ite c [.ret e] b::ms) W)=some v:=by
 rw[al,aU h,if_pos rfl,al,dh k];rfl
def cK(h:ev cal (.call f as) W=some v)(k:evA cal es W=some vs):evA cal (.call f as::es) W=some (.val v::vs):=by simp_all [evA]
def bi(h:ev cal (.idx a i) W=some v)(k:evA cal es W=some vs):evA cal (.idx a i::es) W=some (.val v::vs):=by simp_all [evA]
def mn(h:g6 (W[i]?).join=some m)(k:evA cal es W=some vs):evA cal (.bor i::es) W=some (m::vs):=by simp_all [evA]
def k9(h:ev cal a W=some (.bl p)):ev cal (.not a) W=some (.bl (!p)):=by
 rw[ev,h];rfl
def Km(h:ev cal c W=some (.bl p))(k:ev cal e W=some v)(z:p=false->aX (exs cal ms W)=some w):aX (exs cal (.ite c [.ret e] []::ms) W)=some (if p=true then v else w):=by
 cases p<;>first|exact bx h k|exact aA h (z rfl)
def GF(h:ev cal c W=some (.bl true))(k:exs cal a W=.ret v):aX (exs cal (.ite c a b::ms) W)=some v:=by
 rw[al,aU h,if_pos rfl,k];rfl
def vM(h:ev cal c W=some (.bl false))(k:exs cal ms W=r):exs cal (.ite c a []::ms) W=r:=by simp_all [aU,exs]
def qt(h:ev cal e W=some v):exs cal (.ret e::ms) W=.ret v:=by
 rw[al,dh h];rfl
def D9(h:ev cal c W=some (.bl true))(k:ev cal e W=some v):exs cal (.ite c [.ret e] b::ms) W=.ret v:=by
 rw[al,aU h,if_pos rfl,al,dh k];rfl
def rV(h:ev cal a W=some (.bl p))(h':p=false->ev cal b W=some (.bl q)):ev cal (.or a b) W=some (.bl (p||q)):=by
 rw[ev,h];cases p<;>first|rfl|simp[h' rfl]
def yn(h:isIn x xs=some p)(z:ev cal a W=some x)(J:ev cal b W=some (.tup xs)):ev cal (.cmp .isIn a b) W=some (.bl p):=by
 rw[cE z J,Dk,h];rfl
def mq(ho:(W[i]?).join=some (.own xs))(h:ev cal e W=some v)(z:xs.length<10000):ex cal (.append i e) W=.next (put W i (.own (xs++[v]))):=by
 rw[ex,ho,h];simp[z]
def m8(h:((xs.length:Int)==0)=p)(z:ev cal a W=some (.tup xs)):ev cal (.cmp .eq (.blt .len [a]) (ci 0)) W=some (.bl p):=by
 rw[cE (aE z) (fK _ _ _),<- h];rfl
def Bm(h:(evs cal src W).bind (bg k)=some xs)(e:aq (λx l=>exs cal body (put l i (.val x))) xs (bu src W)=.ret v):exs cal (.for1 i k src body::ms) W=.ret v:=by
 rw[al,cQ h,e];rfl
def vN(h:ev cal e W=some (.lst xs)):(evs cal [e] W).bind (bg .seq)=some xs:=by simp_all [evs]
def bm(h:ev cal e W=some v)(k:evs cal es W=some vs):evs cal (e::es) W=some (v::vs):=by simp_all [evs]
def d8(h:evs cal es W=some vs)(z:vs.length<=10000:=by simp):ev cal (.tup es) W=some (.tup vs):=by
 rw[ev,h,bind_some,if_pos z]
def yo(n)(R):aa defs (n+1) 7 [.val (ofR R)]=some (.bl (decide (R=[]))):=by
 rw[ae rfl rfl];cases R with
 |nil=>simp[lO,exs,ex,ev,evs]
 |cons t R =>
  have:¬ ((R.length:Int)+1=0):=by omega
  simp[lO,exs,ex,ev,evs,this]
noncomputable def cq:Option Int->PV
 |none=>.non
 |some i=>.int i
def w9(x h:Int):(x==h)=decide (x=h):=rfl
noncomputable def drp(h:Int)(z:List Int):List Int:=z.filter λx=>!decide (x=h)
noncomputable def cB(h:Int)(R:LL):LL:=sortT (R.map (drp h))
def Bn(g:bT z):bT (drp h z):=⟨g.1.filter _,λx hx=>g.2 x (KG.mp hx).1⟩
def qu{R:LL}(g:au R):au (cB h R):=by
 refine⟨λU z=>?_,sortT_rises _,by unfold cB;rw[sortT_len,mx];exact g.2.2⟩;obtain⟨t,J,rfl⟩:=mem_map.mp (dw.mp z);exact Bn (g.1 t J)
def mM(n)(z)(h)(J:z.length<=10000):aa defs (n+1) 2 [.val (ofS z),.val (.int h)]=some (ofS (drp h z)):=by
 rw[ae (d:=eT) rfl rfl];simp[eT,exs,ex,ev,evs,J];rw[cz (p:=λx=>!decide (x=h)) (h:=PV.int)]
 .simp[drp]
 .intro x _;simp[cn,w9]
 .intro x _ _;simp[cn]
def yq(n)(R)(h)(g:au R):aa defs (n+2) 3 [.val (ofR R),.val (.int h)]=some (ofR (cB h R)):=by
 rw[ae (d:=lN) rfl rfl];have J:R.length<=10000:=by have:=g.2.2;omega
 simp[lN,exs,ex,ev,evs,J];rw[iB (h:=λU=>ofS (drp h U))]
 .have e:(R.map λc=>ofS (drp h c))=(R.map (drp h)).map ofS:=by rw[Kx];rfl
  have z:(R.map (drp h)).length<64:=by rw[mx];have:=g.2.2;omega
  rw[e];simp[-List.map_map,fj z,cB]
 .intro c _;simp[ev]
 .intro c hc;have J:=aJ (g.1 c hc);simp[ev,evA,cn,mM n c h (by omega)]
def yr(h)(R):(cB h R).flatten.length<=R.flatten.length:=by
 have p:(cB h R).flatten.length=(R.map _).flatten.length:=((sortT_perm (R.map _)).flatten).length_eq;rw[p]
 induction R with
 |nil=>exact g4 _
 |cons s R ih =>
  rw[uw,flatten_cons,flatten_cons,tf,tf];have:(drp h s).length<=s.length:=MF _ _;have:=ih (by exact((sortT_perm _).flatten).length_eq);omega
noncomputable def bhd(h:Bool)(R:LL):Option Int->LL
 |none=>R
 |some k=>if h=true then bt k R else cB k R
def bQ{R:LL}(g:au R)(r):au (bhd h R r):=by
 cases r<;>first|exact g|cases h with|true=>exact dR g|false=>exact qu g
def m_(n)(h):aa defs (n+1) 8 [.val (.str (af h))]=some (.str (af (!h))):=by
 rw[ae rfl rfl];cases h<;>simp[kT,exs,ex,ev,w8,af]
def fN(n)(R)(g:au R)(h)(r):aa defs (n+3) 9 [.val (ofR R),.val (.str (af h)),.val (cq r)]=some (ofR (bhd h R r)):=by
 rw[ae (d:=kU) rfl rfl];cases r with
 |none=>simp[kU,exs,ex,ev,evB,cq,bhd,jK]
 |some k =>
  have z:=yq n R k g;have J:=λn=>ua n R k (by have:=g.2.2;omega)
  cases h<;>simp[kU,exs,ex,ev,evB,evA,cq,bhd,w8,af,jK,z,J]
def eI(h)(R)(r):(bhd h R r).flatten.length<=R.flatten.length:=by
 cases r with
 |none=>exact g4 _
 |some k=>cases h with|true=>exact qr k R|false=>exact yr k R
def gM {n:Nat}{v:PV}{R:PV}{t:PySem.Str}{r:PV} (h:aa defs n 38 [.val v,.val R,.val (.str t)]=some r):aa defs (n+1) 37 [.val v,.val R,.val (.str t),.val (.str "moth")]=some r:=by
 rw[ae (d:=vI) rfl rfl];exact bx rfl (ab rfl h)
def gW {n:Nat}{v:PV}{R:PV}{t:PySem.Str}{r:PV} (h:aa defs n 39 [.val v,.val R,.val (.str t)]=some r):aa defs (n+1) 37 [.val v,.val R,.val (.str t),.val (.str "weaver")]=some r:=by
 rw[ae (d:=vI) rfl rfl];exact aA rfl (gp (ab rfl h))
def rW (n:Nat) (R:LL) (t h:Bool):aa defs (n+3) 37 [.val (.tup [.str "bare"]),.val (ofR R),.val (.str (af t)),.val (.str (af h))]=some (.bl (h&&decide (R=[]))):=by
 cases h
 .refine gW ?_;rw[ae (d:=aC) rfl rfl];cases t<;>rfl
 .refine gM ?_;rw[ae (d:=aQ) rfl rfl];exact aT rfl (bx rfl (ab rfl (yo n R)))
def jy (n:Nat) (R:LL) (t h:Bool):aa defs (n+3) 37 [.val (.tup [.str "whole"]),.val (ofR R),.val (.str (af t)),.val (.str (af h))]=some (.bl (!h&&decide ([]∈R))):=by
 cases h
 .refine gW ?_;rw[ae (d:=aC) rfl rfl];exact aT rfl (bx rfl (ab rfl (ke n R)))
 .refine gM ?_;rw[ae (d:=aQ) rfl rfl];cases t<;>rfl
def Bo(R:LL)(M:Int)(t h:Bool):Bool:=
 if h=true then(if t=true then decide ((R.map wgt).sum<1152921504606846976)else decide ((R.map wgt).sum+M<1152921504606846976))
 else(if t=true then decide ([]∈R)||(hv R&&(ac R).all λh=>hv (bt h R))else hv R)
def im (n:Nat) (R:LL) (g:au R) (U:R.flatten.length<=1000) {M:Int} (Y:Top R M) (t h:Bool):aa defs (n+6) 37 [.val (.tup [.str "weight"]),.val (ofR R),.val (.str (af t)),.val (.str (af h))]=some (.bl (Bo R M t h)):=by
 cases h
 .obtain⟨z,J⟩:=mL n R g U;refine gW ?_;rw[ae (d:=aC) rfl rfl];refine aT rfl (aA rfl (bx rfl (ab rfl ?_)));cases t
  .exact z
  .exact J
 .obtain⟨N,Z,z,J⟩:=b7 n R g;rw[Bi Z Y]at z;refine gM ?_;rw[ae (d:=aQ) rfl rfl];refine aT rfl (aA rfl (bx rfl (ab rfl ?_)));cases t
  .exact z
  .exact J
def nc (n:Nat) (R P:LL) (z:OkP P) (J:P.length<=60) (g:au R) (t h:Bool):aa defs (n+5) 37 [.val (.tup [.str "pairs",ofR P]),.val (ofR R),.val (.str (af t)),.val (.str (af h))]=some (.bl (h&&!t&&Bc P R)):=by
 cases h
 .refine gW ?_;rw[ae (d:=aC) rfl rfl];cases t<;>rfl
 .refine gM ?_;rw[ae (d:=aQ) rfl rfl];cases t
  .exact aT rfl (aA rfl (aA rfl (aA rfl (bx rfl (ab rfl (rU n (ofR P) P R rfl z J g.1 g.2.2))))))
  .rfl
def rX{n:Nat}{R:LL}(g:au R)(k:Bool)(r:Option Int){p:PV}{b:Bool}(t h:Bool)(J:aa defs (n+3) 37 [.val p,.val (ofR (bhd k R r)),.val (.str (af (!k))),.val (.str (af k))]=some (.bl b)) :
  aa defs (n+6) 37 [.val (.tup [.str (if k=true then "bite" else "knot"),cq r,p]),.val (ofR R),.val (.str (af t)),.val (.str (af h))]=some (.bl ((h==k)&&(t==k)&&b)):=by
 have z:aa defs (n+4) 40 [.val (.tup [.str (if k=true then "bite" else "knot"),cq r,p]),.val (ofR R),.val (.str (af k))]=some (.bl b):=by
  rw[ae (d:=jb) rfl rfl];exact gp (ab (bi rfl (cK (ab rfl (fN n R g k r)) (cK (ab rfl (m_ (n+2) k)) rfl))) J)
 cases h
 .refine gW ?_;rw[ae (d:=aC) rfl rfl];cases k<;>cases t<;>first|rfl|exact aT rfl (aA rfl (aA rfl (aA rfl (bx rfl (dQ rfl λ_=>ab rfl z)))))
 .refine gM ?_;rw[ae (d:=aQ) rfl rfl];cases k<;>cases t<;>first|rfl|exact aT rfl (aA rfl (aA rfl (bx rfl (dQ rfl λ_=>ab rfl z))))
def w_(n)(Rs:List (LL))(J:∀R∈Rs,(∀t∈R,bT t)/\R.flatten.length<=1000)(hl:Rs.length<=16):aa defs (n+3) 19 [.val (.lst (Rs.map ofR))]=some (.bl (decide (Rs.map ac).flatten.Nodup)):=by
 rw[ae (d:=l_) rfl rfl];have Y:∀Rs:List (LL),(∀R∈Rs,(∀t∈R,bT t)/\R.flatten.length<=1000)->(Rs.map ac).flatten.length<=60*Rs.length:=λRs=>by
  induction Rs with
  |nil=>intro _;simp
  |cons R Rs ih =>
   intro J;have h1:=aJ (aV (J R (.head _)).1);have h2:=ih λR U=>J R (.tail _ U)
   rw[uw,flatten_cons,tf,length_cons];omega
 have hF:=Y Rs J;have Z:ev (aa defs (n+2)) (.comp .seq [.bor 0] [] (.cst (.bl true)) (.call 5 [.bor 0])) [sv (.lst (Rs.map ofR))]=some (.lst ((Rs.map ac).map ofL)):=by
  refine(b8 (g:=ofR) (h:=λR=>ofL (ac R)) (vs:=[.lst (Rs.map ofR)]) (by simp[evs,ev]) rfl (by omega) λR U=>?_).trans (by rw[Kx];rfl);exact ab (vs:=[.val (ofR R)]) (by simp[evA,cn]) (cA n R (J R U).1 (J R U).2)
 have e1:=lS (n+1) (.val (.lst ((Rs.map ac).map ofL))) (λ_ z=>by cases z) (Rs.map ac) ofL (λ_=>rfl) rfl (by omega);have e2:=Bb (n+1) (Rs.map ac).flatten (by omega);show aX (exs (aa defs (n+2)) [.ret _] [sv (.lst (Rs.map ofR))])=_;rw[al,dh (tZ (λ_ z=>by cases z) (tZ (λ_ z=>by cases z) Z e1) e2)]
 rfl
def Ds(h:bT t):(dd t).length<=60:=by rw[D6 (dG h.1)];exact aJ h
noncomputable def vO:Option Nat->PV
 |none=>.non
 |some i=>.int i
def rY(s:List Int)(R:LL):Option Nat:=R.findIdx? λt=>sub t s
theorem oY(n)(s)(a b)(hs:s.length<=1000)(Y:a=sv (ofS s)):∀R k x y,(∀t∈R,bT t) ->
  (∀i,rY s R=some i->aq (λx l=>cD (cX [2,3] x l) λz=>exs (aa defs (n+1)) bz z) (bD k (R.map ofS)) [a,b,x,y]=.ret (.int ((k+i:Nat):Int))) /\
  (rY s R=none->∃Z y',aq (λx l=>cD (cX [2,3] x l) λz=>exs (aa defs (n+1)) bz z) (bD k (R.map ofS)) [a,b,x,y]=.next [a,b,Z,y'])
 | [],k,x,y,_=>⟨λi h=>(by cases h),λ_=>⟨x,y,rfl⟩⟩
 |t::R,k,x,y,h=>by
  subst Y;have e:=lR n (.val (ofS s)) (.val (ofS t)) s t rfl rfl hs (by have:=aJ (h t (.head _));omega) (Ds (h t (.head _)));rw[uw,bD,aq];unfold rY;rw[findIdx?_cons];cases U:sub t s with
  |true =>
   rw[U]at e;have J:(cD (cX [2,3] (.tup [.int (k:Nat),ofS t]) [sv (ofS s),b,x,y]) λz=>exs (aa defs (n+1)) bz z)=.ret (.int (k:Nat)):=by
    simp[cX,nS,bz,exs,ex,ev,evs,evB,evA,e]
   rw[J];exact⟨λi hi=>(by simp at hi;subst hi;rfl),λhi=>(by simp at hi)⟩
  |false =>
   rw[U]at e;have J:(cD (cX [2,3] (.tup [.int (k:Nat),ofS t]) [sv (ofS s),b,x,y]) λz=>exs (aa defs (n+1)) bz z)=.next [sv (ofS s),b,sv (.int (k:Nat)),sv (ofS t)]:=by
    simp[cX,nS,bz,exs,ex,ev,evs,evB,evA,e]
   rw[J];obtain⟨h1,h2⟩:=oY n s (sv (ofS s)) b hs rfl R (k+1) (sv (.int (k:Nat))) (sv (ofS t)) λu hu=>h u (.tail _ hu)
   constructor
   .intro i hi;simp only[KA,Ls,oe]at hi;obtain⟨j,hj,rfl⟩:=hi;rw[show k+(j+1)=k+1+j by omega];exact h1 j hj
   .intro hi;simp only[KA,Ls,map_eq_none_iff]at hi;exact h2 hi
def Dt(n)(s)(R)(hs:s.length<=1000)(g:∀t∈R,bT t):aa defs (n+2) 12 [.val (ofS s),.val (ofR R)]=some (vO (rY s R)):=by
 rw[ae (d:=dZ) rfl rfl];obtain⟨h1,h2⟩:=oY n s (sv (ofS s)) (sv (ofR R)) hs rfl R 0 none none g;cases hf:rY s R with
 |some i =>
  have e:=h1 i hf;rw[L9]at e;simp[dZ,exs,ex,ev,evs,bg,bu,e,vO]
 |none =>
  obtain⟨z,J,e⟩:=h2 hf;simp[dZ,exs,ex,ev,evs,bg,bu,e,vO,aM]
def Bp(A B:LL):List (Option Nat):=A.map λs=>rY s B
def yt(n)(A B)(z:au A)(J:au B):aa defs (n+3) 13 [.val (ofR A),.val (ofR B)]=some (.lst ((Bp A B).map vO)):=by
 rw[ae (d:=lQ) rfl rfl];have U:A.length<=10000:=by have:=z.2.2;omega
 simp[lQ,exs,ex,ev,evs,U];rw[iB (h:=λs=>vO (rY s B))]
 .simp[Bp]
 .intro c _;simp[ev]
 .intro c hc;simp[ev,evA,cn,Dt n c B (by have:=aJ (z.1 c hc);omega) J.1]
theorem uc:∀F:List (Option Nat),isIn .non (F.map vO)=some (decide (none∈F))
 | []=>rfl
 |o::F=>by
  have ih:=uc F;unfold isIn at ih ⊢;rw[uw,inL,ih];cases o<;>simp[vO,show ∀v,eqF 100 (.int v) .non=some false from λ_=>rfl,show eqF 100 PV.non .non=some true from rfl]
def below(A B:LL):Bool:=decide (none∉Bp A B)
def iK(n)(A B)(z:au A)(J:au B):aa defs (n+4) 14 [.val (ofR A),.val (ofR B)]=some (.bl (below A B)):=by
 rw[ae (d:=j9) rfl rfl];simp[j9,exs,ex,ev,evs,evA,yt n A B z J,uc,below]
def ng {n:Nat}{A R:LL} (z:au A) (g:au R) {p:PV}{x:Bool} (t h:Bool) (J:aa defs (n+4) 37 [.val p,.val (ofR A),.val (.str (af t)),.val (.str "weaver")]=some (.bl x)) :
  aa defs (n+6) 37 [.val (.tup [.str "fewer",ofR A,p]),.val (ofR R),.val (.str (af t)),.val (.str (af h))]=some (.bl (!h&&below A R&&x)):=by
 cases h
 .refine gW ?_;rw[ae (d:=aC) rfl rfl];exact aT rfl (aA rfl (aA rfl (bx rfl (dQ (ab rfl (iK n A R z g)) λ_=>ab rfl J))))
 .refine gM ?_;rw[ae (d:=aQ) rfl rfl];cases t<;>rfl
def k_{n:Nat}{A B R:LL}(U:au A)(Y:au B)(g:au R)(fA:A.flatten.length<=1000)(fB:B.flatten.length<=1000){p q:PV}{x y:Bool}(t h:Bool)
  (hp:aa defs (n+4) 37 [.val p,.val (ofR A),.val (.str "weaver"),.val (.str "weaver")]=some (.bl x)) (hq:aa defs (n+4) 37 [.val q,.val (ofR B),.val (.str "weaver"),.val (.str "weaver")]=some (.bl y)) :
  aa defs (n+7) 37 [.val (.tup [.str "either",ofR A,p,ofR B,q]),.val (ofR R),.val (.str (af t)),.val (.str (af h))]=some (.bl (!h&&t&&(decide (ac A++ac B).Nodup&&below A R&&below B R&&(x&&y)))):=by
 cases h with
 |true =>
  refine gM ?_;rw[ae (d:=aQ) rfl rfl];cases t<;>rfl
 |false =>
  refine gW ?_;cases t with
  |false =>
   rw[ae (d:=aC) rfl rfl]
   rfl
  |true =>
   have J:=w_ (n+1) [A,B] (λR z=>by
    rcases wh.mp z with rfl|z
    .exact⟨U.1,fA⟩
    .rcases wh.mp z with rfl|z
     .exact⟨Y.1,fB⟩
     .cases z) (by simp)
   simp only[uw,map_nil,flatten_cons,flatten_nil,LJ]at J;have Z:=iK n A R U g;have e2:=iK n B R Y g;have e3:aa defs (n+5) 44 [.val (.tup [.str "either",ofR A,p,ofR B,q]),.val (ofR R)]=some (.bl (decide (ac A++ac B).Nodup&&below A R&&below B R&&(x&&y))):=by
    rw[ae (d:=ic) rfl rfl];generalize decide (ac A++ac B).Nodup=b0 at J ⊢;generalize below A R=b1 at Z ⊢;generalize below B R=b2 at e2 ⊢;refine(aT rfl (aT rfl (Km (rV (k9 (ab rfl J)) λ_=>rV (k9 (ab rfl Z)) λ_=>k9 (ab rfl e2)) rfl λ_=>gp (dQ (ab rfl hp) λ_=>ab rfl hq)))).trans ?_;cases b0<;>cases b1<;>cases b2<;>rfl
   rw[ae (d:=aC) rfl rfl];exact aT rfl (aA rfl (aA rfl (aA rfl (aA rfl (aA rfl (bx rfl (ab rfl e3)))))))
def aY(r:Int×Option Int×PV):PV:=.tup [.int r.1,cq r.2.1,r.2.2]
noncomputable def bh2(h:Bool)(R:LL)(a:Int)(r:Option Int):LL:=bhd h (bhd (!h) R (some a)) r
def jg{R:LL}(g:au R)(a)(r):au (bh2 h R a r):=bQ (bQ g _) _
def nh(n)(R)(g:au R)(h)(a)(r):aa defs (n+4) 10 [.val (ofR R),.val (.str (af h)),.val (.int a),.val (cq r)]=some (ofR (bh2 h R a r)):=by
 rw[ae (d:=jM) rfl rfl];exact gp (ab (cK (ab (mn rfl (cK (ab rfl (m_ (n+2) h)) rfl)) (fN n R g (!h) (some a))) rfl) (fN n _ (bQ g _) h r))
theorem oZ(n:Nat)(R:LL)(g:au R)(h:Bool)(U:Option MV)(b:Int×Option Int×PV->Bool):∀(z:List (Int×Option Int×PV)),(∀r∈z,aa defs (n+4) 37 [.val r.2.2,.val (ofR (bh2 h R r.1 r.2.1)),.val (.str (af (!h))),.val (.str (af h))]=some (.bl (b r)))->∀Y Z x5:Option MV,
  (z.all b=true/\∃y3 y4 y5,aq (λx l=>cD (cX [3,4,5] x l) λJ=>exs (aa defs (n+4)) aP J) (z.map aY) [U,sv (ofR R),sv (.str (af h)),Y,Z,x5]=.next [U,sv (ofR R),sv (.str (af h)),y3,y4,y5]) \/
  (z.all b=false/\aq (λx l=>cD (cX [3,4,5] x l) λJ=>exs (aa defs (n+4)) aP J) (z.map aY) [U,sv (ofR R),sv (.str (af h)),Y,Z,x5]=.ret (.bl false))
 | [],_,Y,Z,x5=>.inl ⟨rfl,Y,Z,x5,rfl⟩
 |r::z,hr,Y,Z,x5=>by
  have e1:=hr r (.head _);have e2:=nh n R g h r.1 r.2.1;have e3:=m_ (n+3) h;have turn:∀k,(cD (cX [3,4,5] (aY r) [U,sv (ofR R),sv (.str (af h)),Y,Z,x5]) k)=k [U,sv (ofR R),sv (.str (af h)),sv (.int r.1),sv (cq r.2.1),sv r.2.2]:=λk=>rfl
  rw[uw,all_cons];cases hb:b r with
  |false =>
   rw[hb]at e1;refine .inr ⟨rfl,?_⟩;rw[aq,turn,show exs (aa defs (n+4)) aP [U,sv (ofR R),sv (.str (af h)),sv (.int r.1),sv (cq r.2.1),sv r.2.2]=.ret (.bl false)from by simp[aP,exs,ex,ev,evB,evA,e1,e2,e3]]
  |true =>
   rw[hb]at e1;have eb:exs (aa defs (n+4)) aP [U,sv (ofR R),sv (.str (af h)),sv (.int r.1),sv (cq r.2.1),sv r.2.2]=.next [U,sv (ofR R),sv (.str (af h)),sv (.int r.1),sv (cq r.2.1),sv r.2.2]:=by simp[aP,exs,ex,ev,evB,evA,e1,e2,e3]
   have st:=vJ (body:=λx l=>cD (cX [3,4,5] x l) λJ=>exs (aa defs (n+4)) aP J) (x:=aY r) (xs:=z.map aY) ((turn _).trans eb);rw[st,NB];exact oZ n R g h U b z (λr a1=>hr r (.tail _ a1)) _ _ _
def Kn(a b):cJ .ne (ofL a) (ofL b)=some (!decide (a=b)):=by
 rw[AW,if_pos (show sP _ _=true from rfl),IS]
 rfl
def Du(n:Nat)(R:LL)(g:au R)(U:R.flatten.length<=1000)(h:Bool)(b:Int×Option Int×PV->Bool)(z:List (Int×Option Int×PV))(Y:z.length<=10000)(Z:∀r∈z,aa defs (n+4) 37 [.val r.2.2,.val (ofR (bh2 h R r.1 r.2.1)),.val (.str (af (!h))),.val (.str (af h))]=some (.bl (b r))) :
  aa defs (n+5) 41 [.val (.tup (z.map aY)),.val (ofR R),.val (.str (af h))]=some (.bl (decide (z.map (·.1)=ac R)&&z.all b)):=by
 rw[ae (d:=h_) rfl rfl];have c1:∀W:Rho,ev (aa defs (n+4)) (.comp .seq [.bor 0] [] (.cst (.bl true)) (ix 0 0)) (sv (.tup (z.map aY))::W)=some (ofL (z.map (·.1))):=λW=>by
  refine(b8 (g:=aY) (h:=λr=>.int r.1) (vs:=[.tup (z.map aY)]) (by simp[evs,ev]) rfl Y λr _=>?_).trans (by unfold ofL;rw[Kx];rfl);simp[ev,place,cn,aY]
 have e1:ev (aa defs (n+4)) (.cmp .ne (.comp .seq [.bor 0] [] (.cst (.bl true)) (ix 0 0)) (.call 5 [.bor 1])) [sv (.tup (z.map aY)),sv (ofR R),sv (.str (af h)),none,none,none]=some (.bl (!decide (z.map (·.1)=ac R))):=by
  rw[cE (c1 _) (ab (vs:=[.val (ofR R)]) (by simp[evA]) (cA (n+2) R g.1 U)),Kn]
  rfl
 show aX (exs (aa defs (n+4)) [.ite _ [.ret _] [],.forT [3,4,5] .seq [.bor 0] aP,.ret _] [sv (.tup (z.map aY)),sv (ofR R),sv (.str (af h)),none,none,none])=_;rw[al,ex,rR e1,j8];cases decide (z.map (·.1)=ac R)with
 |false=>rfl
 |true =>
  rw[MH,if_neg (by decide),exs,aS,al,rQ (xs:=z.map aY) (by simp[evs,ev]),NB];show aX ((MM.R.back _ _ (aq _ _ [sv (.tup (z.map aY)),sv (ofR R),sv (.str (af h)),none,none,none])).andThen _)=_;rcases oZ n R g h (sv (.tup (z.map aY))) b z Z none none none with⟨J,y3,y4,y5,e⟩|⟨J,e⟩
  .rw[e,J,cN,aS,al,dh (fK _ _ _)]
   rfl
  .rw[e,J]
   rfl
def xa{n:Nat}{R:LL}(g:au R)(Z:R.flatten.length<=1000)(h:Bool){b:Int×Option Int×PV->Bool}{J:List (Int×Option Int×PV)}(hl:J.length<=10000)(hr:∀r∈J,aa defs (n+4) 37 [.val r.2.2,.val (ofR (bh2 h R r.1 r.2.1)),.val (.str (af (!h))),.val (.str (af h))]=some (.bl (b r))) :
  aa defs (n+7) 37 [.val (.tup [.str "cases",.tup (J.map aY)]),.val (ofR R),.val (.str (af (!h))),.val (.str (af h))]=some (.bl ((if h=true then !decide ([]∈R)else !decide (ac R=[]))&&(decide (J.map (·.1)=ac R)&&J.all b))):=by
 have U:=Du n R g Z h b J hl hr;generalize J.all b=y at U ⊢;generalize decide (J.map (·.1)=ac R)=z at U ⊢;generalize J.map aY=V at U ⊢;cases h with
 |true =>
  refine gM ?_;rw[ae (d:=aQ) rfl rfl];have Y:=ke (n+4) R;exact aT rfl (aA rfl (aA rfl (aA rfl (aA rfl (bx rfl (dQ (k9 (ab rfl Y)) λ_=>ab rfl U))))))
 |false =>
  refine gW ?_;rw[ae (d:=aC) rfl rfl];have Y:=cA (n+3) R g.1 Z;have hz:decide ((0:Int)<((ac R).map PV.int).length)=!decide (ac R=[]):=by
   cases ac R<;>simp
  refine(aT rfl (aA rfl (aA rfl (aA rfl (aA rfl (bx rfl (dQ ((cE (aE (ab rfl Y)) rfl).trans rfl) λ_=>ab rfl U))))))).trans ?_;rw[hz]
  rfl
def o3 (n:Nat) (R V:PV) (h:Bool):aa defs (n+3) 37 [.val (.tup [.str "cases",V]),.val R,.val (.str (af h)),.val (.str (af h))]=some (.bl false):=by
 cases h
 .refine gW ?_;rw[ae (d:=aC) rfl rfl]
  rfl
 .refine gM ?_;rw[ae (d:=aQ) rfl rfl]
  rfl
def yu{R:LL}(h:∃t∈R,sub t s=true):rY s R≠none:=λz=>by
 obtain⟨t,J,q⟩:=h;have:=findIdx?_eq_none_iff.mp z t J
 simp_all
def fO(h:∀s∈A,∃t∈B,sub t s=true):below A B=true:=by
 unfold below Bp;rw[K1,mem_map];rintro ⟨s,hs,e⟩;exact yu (h s hs) e
def yw(A R:LL):Bool:=A.all λs=>R.any λo=>sub o s
def yx(n:Nat)(A R:LL)(v:PV)(hv:bc v=some (R.map ofS))(z:R.length<=10000):aa defs (n+2) 65 [.val (ofR A),.val v]=some (.bl (yw A R)):=by
 rw[ae (d:=mi) rfl rfl];have key:=kd (g:=ofS) (xs:=A) (body:=λx l=>exs (aa defs (n+1)) d7 (put l 2 (.val x))) (I:=λW=>∃kk,W=[sv (ofR A),sv v,kk]) (p:=λs=>!R.any λo=>sub o s) (r:=λ_=>.bl false)
  (W:=[sv (ofR A),sv v,none]) ⟨_,rfl⟩ (by
   rintro s hs W ⟨kk,rfl⟩;have J:ev (aa defs (n+1)) (.comp .seq [.bor 1] [2] (.cst (.bl true)) (.call 50 [.bor 0,.bor 1])) [sv (ofR A),sv v,sv (ofS s)]=some (.lst ((R.map λo=>sub o s).map .bl)):=by
    rw[Kx];refine b8 (vs:=[v]) (g:=ofS) (by simp[evs,ev]) (by simp[bg,hv]) z λo _=>?_
    exact ab (vs:=[.val (ofS o),.val (ofS s)]) (by simp[evA,cn]) (t5 n o s)
   have U:ev (aa defs (n+1)) (.not (.blt .any [(.comp .seq [.bor 1] [2] (.cst (.bl true)) (.call 50 [.bor 0,.bor 1]))])) [sv (ofR A),sv v,sv (ofS s)]=some (.bl (!R.any λo=>sub o s)):=by
    have:ev (aa defs (n+1)) (.blt .any [(.comp .seq [.bor 1] [2] (.cst (.bl true)) (.call 50 [.bor 0,.bor 1]))]) [sv (ofR A),sv v,sv (ofS s)]=some (.bl (R.any λo=>sub o s)):=by
     rw[aE J,m7,dg];simp
    rw[ev,this]
    rfl
   have st:exs (aa defs (n+1)) d7 (put [sv (ofR A),sv v,kk] 2 (.val (ofS s)))=if (!R.any λo=>sub o s)=true then .ret (.bl false)else .next [sv (ofR A),sv v,sv (ofS s)]:=by
    show exs (aa defs (n+1)) [.ite _ [.ret _] []] [sv (ofR A),sv v,sv (ofS s)]=_;rw[al,ex,rR U,j8];split
    .simp[exs,ex,ev]
    .simp[exs]
   exact⟨λh=>by rw[st,if_pos h],λh=>⟨_,⟨_,rfl⟩,by rw[st,if_neg (by rw[h];decide)]⟩⟩)
 show aX (exs (aa defs (n+1)) [.for1 2 .seq [.bor 0] d7,.ret _] [sv (ofR A),sv v,none])=_;rw[al,cQ (xs:=A.map ofS) (by simp[evs,ev]),show bu [.bor 0] [sv (ofR A),sv v,none]=[sv (ofR A),sv v,none]from rfl];unfold yw;cases hf:A.find? (λs=>!R.any λo=>sub o s)with
 |some s =>
  rw[key.1 s hf];have:(A.all λs=>R.any λo=>sub o s)=false:=by
   cases q:A.all λs=>R.any λo=>sub o s with
   |false=>rfl
   |true =>
    have h1:=Lm.mp q s (Nk hf);have h2:=find?_some hf;rw[h1]at h2;cases h2
  rw[this]
  rfl
 |none =>
  obtain⟨l,⟨kk,rfl⟩,e⟩:=key.2 hf;have:(A.all λs=>R.any λo=>sub o s)=true:=Lm.mpr λs hs=>by
   have:=MI.mp hf s hs;simpa using this
  rw[e,this];simp[exs,ex,ev,aM]
def Bq(n:Nat)(A R:LL)(z:R.length<=10000):aa defs (n+2) 65 [.val (ofR A),.val (ofR R)]=some (.bl (yw A R)):=yx n A R (ofR R) rfl z
def eJ(h:below A B=true):∀s∈A,∃t∈B,sub t s=true:=λs hs=>by
 cases e:rY s B with
 |none =>
  unfold below Bp at h;rw[K1]at h;exact absurd (mem_map.mpr ⟨s,hs,e⟩) h
 |some k =>
  obtain⟨z,q,_⟩:=findIdx?_eq_some_iff_getElem.mp e;exact⟨_,getElem_mem z,q⟩
def vP(A R):yw A R=below A R:=by
 cases h:yw A R with
 |true=>exact(fO λs hs=>by
   obtain⟨o,ho,e⟩:=Lv.mp (Lm.mp h s hs);exact⟨o,ho,e⟩).symm
 |false =>
  cases h2:below A R with
  |false=>rfl
  |true =>
   have:yw A R=true:=Lm.mpr λs hs=>Lv.mpr (by
    obtain⟨o,ho,e⟩:=eJ h2 s hs;exact⟨o,ho,e⟩)
   simp_all
def vQ(n:Nat)(ns:List Int)(k b:Int)(z:0<=k)(r:Rho):ev (aa defs (n+2)) (.call 46 [(.call 45 [.bor 0,(ci k)]),(ci b)]) (some (.brw (ns.map .int))::r)=some (.int (eX (cellOf ns k) b)):=by
 have J:ev (aa defs (n+2)) (.call 45 [.bor 0,(ci k)]) (some (.brw (ns.map .int))::r)=some (.int (cellOf ns k)):=ab (vs:=[.brw (ns.map .int),.val (.int k)]) (by simp[evA,ev]) (GC (n+1) (.brw (ns.map .int)) ns k rfl z);exact ab (vs:=[.val (.int (cellOf ns k)),.val (.int b)]) (by simp only[evA];rw[J];simp[ev]) (rP (n+1) (cellOf ns k) b)
def jh(h)(R)(a)(r):(bh2 h R a r).flatten.length<=R.flatten.length:=pe (eI _ _ _) (eI _ _ _)
def jO(n:Nat)(R:LL)(h:Int)(g:au R):aa defs (n+1) 47 [.val (ofR R),.val (.int h)]=some (ofR (cB h R)):=by
 rw[ae (d:=gH) rfl rfl];have U:R.length<=10000:=by have:=g.2.2;omega
 simp[gH,exs,ex,ev,evs,U];rw[iB (h:=λY=>ofS (drp h Y))]
 .have e:(R.map λc=>ofS (drp h c))=(R.map (drp h)).map ofS:=by rw[Kx];rfl
  have z:(R.map (drp h)).length<64:=by rw[mx];have:=g.2.2;omega
  rw[e];simp[-List.map_map,fj z,cB]
 .intro c _;simp[ev]
 .intro c hc;have U:=aJ (g.1 c hc);have J:c.length<=10000:=by omega
  simp[ev,evs,evA,cn,J];rw[cz (p:=λx=>!decide (x=h)) (h:=PV.int)]
  .simp[drp]
  .intro x _;simp[ev,cn,w9]
  .intro x _ _;simp[ev,cn]
def ni(n:Nat)(R:LL)(g:au R)(h:Bool)(r:Option Int):aa defs (n+2) 56 [.val (ofR R),.val (.str (af h)),.val (cq r)]=some (ofR (bhd h R r)):=by
 rw[ae (d:=oQ) rfl rfl];cases r with
 |none=>rfl
 |some i =>
  cases h
  .exact aA rfl (aA rfl (gp (ab rfl (jO n R i g))))
  .exact aA rfl (bx rfl (ab rfl (fg n R i (by have:=g.2.2;omega))))
theorem jP{α:Type}(f)(g)(cal)(a):∀(W:List α) z s,(∀w∈W,bc (f w)=some (g w))->z.length+(W.map g).flatten.length<=10000 ->
  ∃s',aq (λx l=>exs cal bO (put l 2 (.val x))) (W.map f) [some a,some (.own z),s]=.next [some a,some (.own (z++(W.map g).flatten)),s']
 | [],z,s,_,_=>⟨s,by simp⟩
 |w::W,z,s,J,h=>by
  rw[uw,uw,aq];rw[uw,flatten_cons,tf]at h;have h2:z.length+(g w).length<=10000:=by omega
  have e:exs cal bO (put [some a,some (.own z),s] 2 (.val (f w)))=.next [some a,some (.own (z++g w)),sv (f w)]:=by
   simp[bO,exs,ex,ev,J w (.head _),h2]
  rw[e];obtain⟨s',U⟩:=jP f g cal a W (z++g w) (sv (f w)) (λw hw=>J w (.tail _ hw)) (by rw[tf];omega);exact⟨s',by rw[flatten_cons,<- Lf];exact U⟩
def vR{α:Type}(f)(g)(n)(v:PV)(W:List α)(hv:bc v=some (W.map f))(z:∀w∈W,bc (f w)=some (g w))(J:(W.map g).flatten.length<=10000):aa defs (n+1) 0 [.val v]=some (.lst (W.map g).flatten):=by
 rw[ae (d:=iD) rfl rfl];obtain⟨s',e⟩:=jP f g (aa defs n) (.val v) W [] none z (by simpa using J);rw[nil_append]at e;show aX (exs (aa defs n) (_::_::[_]) [sv v,none,none])=_;simp only[al];rw[dy (xs:=[]) (by simp[ev,evs]),aS];simp only[cb,cc];rw[cQ (xs:=W.map f) (by simp[evs,ev,hv]),show bu [.bor 0] [sv v,some (.own []),none]=[sv v,some (.own []),none]from rfl,e,cN,aS]
 rfl
def GG(h:ev cal a W=some (.bl p))(h':ev cal b W=some (.bl q)):ev cal (.or a b) W=some (.bl (p||q)):=by
 rw[ev,h];cases p<;>first|rfl|simp[h']
def aL(r:LL×PV):PV:=.tup [ofR r.1,r.2]
def Br(n:Nat)(D:List (LL))(J:D.flatten.length<64):aa defs (n+2) 18 [.val (.lst (D.map ofR))]=some (ofR (sortT D.flatten)):=by
 rw[ae (d:=oM) rfl rfl];have z:(D.map λG=>G.map ofS).flatten=D.flatten.map ofS:=by rw[map_flatten]
 have em:=vR ofR (λG=>G.map ofS) n (.lst (D.map ofR)) D rfl (λ_ _=>rfl) (by rw[z,mx];omega);rw[z]at em;refine gp (W:=[sv (.lst (D.map ofR))]) ((aE (v:=.lst ((sortT D.flatten).map ofS)) ?_).trans rfl);rw[aE (ab (vs:=[.val (.lst (D.map ofR))]) (by simp[evA]) em),fF,iC,bind_some,fj J]
def kf(h:∀t∈F,bT t)(z:F.length<=60):au (sortT F):=⟨λt J=>h t (dw.mp J),sortT_rises F,by rw[sortT_len];exact z⟩
def kg(F):(sortT F).flatten.length=F.flatten.length:=(sortT_perm F).flatten.length_eq
def o4(D:List (LL))(R:LL):Bool:=!decide (R.length<D.flatten.length)&&decide (D.map ac).flatten.Nodup&&(sub (ac D.flatten) (ac R)&&below R (sortT D.flatten))
def ud(F):ac (sortT F)=ac F:=by
 rw[<- k8,<- k8];exact sortI_of_perm ((Lq (dd_nodup _) (dd_nodup _)).mpr λx=>by rw[i_,i_];exact(sortT_perm F).flatten.mem_iff)
def Dw(n:Nat)(z:List (LL×PV))(R:LL)(g:au R)(hf:R.flatten.length<=1000)(hl:z.length<=16)(hs:(z.map (·.1)).flatten.length<=60)(Y:(z.map (·.1)).flatten.flatten.length<=1000)(Z:∀r∈z,au r.1/\r.1.flatten.length<=1000) :
  aa defs (n+5) 42 [.val (.tup (z.map aL)),.val (ofR R)]=some (.bl (o4 (z.map (·.1)) R)):=by
 rw[ae (d:=gi) rfl rfl];have J:∀t∈(z.map (·.1)).flatten,bT t:=λt ht=>by
  obtain⟨G,J,ht⟩:=mem_flatten.mp ht;obtain⟨r,U,rfl⟩:=mem_map.mp J;exact(Z r U).1.1 t ht
 have e1:=Br (n+2) (z.map (·.1)) (by omega);have e2:=w_ (n+1) (z.map (·.1)) (λG J=>by
  obtain⟨r,U,rfl⟩:=mem_map.mp J;exact⟨(Z r U).1.1,(Z r U).2⟩) (by rw[mx];exact hl)
 have gT:=kf J hs;have e3:=cA (n+2) R g.1 hf;have e4:=cA (n+2) (sortT (z.map (·.1)).flatten) gT.1 (by rw[kg];exact Y);have e5:=iK n R (sortT (z.map (·.1)).flatten) g gT;rw[ud]at e4;have l1:=aJ (aV g.1);have l2:=aJ (aV J);have e6:=lR (n+3) (.val (ofL (ac R))) (.val (ofL (ac (z.map (·.1)).flatten))) (ac R) (ac (z.map (·.1)).flatten) rfl rfl (by omega) (by omega) (pe (ig _) l2);have c0:ev (aa defs (n+4)) (.comp .seq [.bor 0] [] (.cst (.bl true)) (ix 0 0)) [sv (.tup (z.map aL)),sv (ofR R),none,none]=some (.lst ((z.map (·.1)).map ofR)):=by
  rw[Kx];exact b8 (vs:=[.tup (z.map aL)]) (xs:=z) (g:=aL) (by simp[evs,ev]) (by simp[bg]) (by omega) λr _=>by simp[ev,aL,place,cn]
 refine aT (W:=[sv (.tup (z.map aL)),sv (ofR R),none,none]) c0 ?_;simp only[cb,cc];generalize z.map (·.1)=D at *
 refine aT (v:=ofR (sortT D.flatten)) (ab (vs:=[.val (.lst (D.map ofR))]) (by simp[evA]) e1) ?_;simp only[cb,cc];have c1:ev (aa defs (n+4)) (.or (.cmp .gt (.blt .len [.bor 3]) (.blt .len [.bor 1])) (.not (.call 19 [.bor 2]))) [sv (.tup (z.map aL)),sv (ofR R),sv (.lst (D.map ofR)),sv (ofR (sortT D.flatten))]=some (.bl (decide (R.length<D.flatten.length)||!decide (D.map ac).flatten.Nodup)):=by
  have q1:ev (aa defs (n+4)) (.cmp .gt (.blt .len [.bor 3]) (.blt .len [.bor 1])) [sv (.tup (z.map aL)),sv (ofR R),sv (.lst (D.map ofR)),sv (ofR (sortT D.flatten))]=some (.bl (decide (R.length<D.flatten.length))):=by
   simp[ev,evs,ofR,sortT_len,-length_flatten]
  have q2:ev (aa defs (n+4)) (.not (.call 19 [.bor 2])) [sv (.tup (z.map aL)),sv (ofR R),sv (.lst (D.map ofR)),sv (ofR (sortT D.flatten))]=some (.bl (!decide (D.map ac).flatten.Nodup)):=by
   rw[ev,ab (vs:=[.val (.lst (D.map ofR))]) (by simp[evA]) e2]
   rfl
  exact GG q1 q2
 have c2:ev (aa defs (n+4)) (.and (.call 11 [(.call 5 [.bor 1]),(.call 5 [.bor 3])]) (.call 14 [.bor 1,.bor 3])) [sv (.tup (z.map aL)),sv (ofR R),sv (.lst (D.map ofR)),sv (ofR (sortT D.flatten))]=some (.bl (sub (ac D.flatten) (ac R)&&below R (sortT D.flatten))):=by
  refine dQ (ab (vs:=[.val (ofL (ac R)),.val (ofL (ac D.flatten))]) ?_ e6) λ_=>ab (vs:=[.val (ofR R),.val (ofR (sortT D.flatten))]) (by simp[evA]) e5
  simp[evA,ev,e3,e4]
 show aX (exs (aa defs (n+4)) (.ite _ [.ret (.cst (.bl false))] []::[.ret _]) _)=_;rw[al,aU c1];unfold o4;cases h1:decide (R.length<D.flatten.length)with
 |true=>simp[exs,ex,ev]
 |false =>
  cases h2:decide (D.map ac).flatten.Nodup with
  |false=>simp[exs,ex,ev]
  |true =>
   rw[if_neg (by decide),exs,aS,gp c2]
   rfl
theorem mr (n:Nat) (Y:Option MV) (b:LL×PV->Bool):∀(J:List (LL×PV)),(∀r∈J,aa defs n 37 [.val r.2,.val (ofR r.1),.val (.str "weaver"),.val (.str "moth")]=some (.bl (b r)))->∀Z x2:Option MV,
  (J.all b=true->∃y1 y2,aq (λx l=>cD (cX [1,2] x l) λU=>exs (aa defs n) bP U) (J.map aL) [Y,Z,x2]=.next [Y,y1,y2]) /\
  (J.all b=false->aq (λx l=>cD (cX [1,2] x l) λU=>exs (aa defs n) bP U) (J.map aL) [Y,Z,x2]=.ret (.bl false))
 | [],_,Z,x2=>⟨λ_=>⟨Z,x2,rfl⟩,λz=>by cases z⟩
 |r::J,hr,Z,x2=>by
  have e0:=hr r (.head _);have e3:(cD (cX [1,2] (aL r) [Y,Z,x2]) λU=>exs (aa defs n) bP U)=if b r=true then .next [Y,sv (ofR r.1),sv r.2]else .ret (.bl false):=by
   cases hb:b r<;>rw[hb]at e0<;>simp[bP,aL,cX,nS,cD,exs,ex,ev,evs,evB,evA,e0]
  rw[uw,aq,e3,all_cons];obtain⟨i1,i2⟩:=mr n Y b J (λq hq=>hr q (.tail _ hq)) (sv (ofR r.1)) (sv r.2);cases hb:b r with
  |false=>exact⟨λz=>(by cases z),λ_=>rfl⟩
  |true=>exact⟨λz=>i1 z,λz=>i2 z⟩
def Bs (n:Nat) (b:LL×PV->Bool) (z:List (LL×PV)) (U:∀r∈z,aa defs n 37 [.val r.2,.val (ofR r.1),.val (.str "weaver"),.val (.str "moth")]=some (.bl (b r))) :
  aa defs (n+1) 43 [.val (.tup (z.map aL))]=some (.bl (z.all b)):=by
 rw[ae (d:=ib) rfl rfl];obtain⟨Y,Z⟩:=mr n (sv (.tup (z.map aL))) b z U none none;show aX (exs _ [.forT _ _ _ _,.ret _] [sv (.tup (z.map aL)),none,none])=_;rw[al,rQ (xs:=z.map aL) (by simp[evs,ev,bg])];rw[show bu [ME.bor 0] [some (MV.val (.tup (z.map aL))),none,none]=[sv (.tup (z.map aL)),none,none]from rfl];cases J:z.all b with
 |false =>
  rw[Z J]
  rfl
 |true =>
  obtain⟨y1,y2,e⟩:=Y J;rw[e];simp[cN,aM,exs,ex,ev]
def xb {n:Nat}{b:LL×PV->Bool}{J:List (LL×PV)}{R:LL} (g:au R) (hf:R.flatten.length<=1000) (hl:J.length<=16) (hs:(J.map (·.1)).flatten.length<=60) (U:(J.map (·.1)).flatten.flatten.length<=1000) (hg:∀r∈J,au r.1/\r.1.flatten.length<=1000) (t h:Bool) (hr:∀r∈J,aa defs (n+4) 37 [.val r.2,.val (ofR r.1),.val (.str "weaver"),.val (.str "moth")]=some (.bl (b r))) :
  aa defs (n+7) 37 [.val (.tup [.str "parts",.tup (J.map aL)]),.val (ofR R),.val (.str (af t)),.val (.str (af h))]=some (.bl (h&&!t&&(o4 (J.map (·.1)) R&&J.all b))):=by
 have Y:=Dw n J R g hf hl hs U hg;have Z:=Bs (n+4) b J hr;generalize J.all b=y at Z ⊢;generalize o4 (J.map (·.1)) R=z at Y ⊢;generalize J.map aL=V at Y Z ⊢;cases h with
 |true =>
  refine gM ?_;rw[ae (d:=aQ) rfl rfl];cases t
  .exact aT rfl (aA rfl (aA rfl (aA rfl (aA rfl (aA rfl (bx rfl (dQ (p:=z) (q:=y) (ab rfl Y) λ_=>ab rfl Z)))))))
  .rfl
 |false =>
  refine gW ?_;rw[ae (d:=aC) rfl rfl];cases t<;>rfl
def ji(r:Option Int):Prop:=∀x,r=some x->0<=x/\x<=59
inductive WP:Nat->PV->Prop where
 | leaf {d:Nat}{v:PV} (h:t4 v):WP d v
 | one {d:Nat}{v:PV} (k:Bool) (r:Option Int) (hr:ji r) (h:WP d v):WP (d+1) (.tup [.str (if k=true then "bite" else "knot"),cq r,v])
 | cases {d:Nat} (rows:List (Int×Option Int×PV)) (hl:rows.length<=10000) (hq:∀r∈rows,ji r.2.1) (h:∀r∈rows,WP d r.2.2):WP (d+1) (.tup [.str "cases",.tup (rows.map aY)])
 | parts {d:Nat} (rows:List (LL×PV)) (hl:rows.length<=16) (hs:(rows.map (·.1)).flatten.length<=60) (hff:(rows.map (·.1)).flatten.flatten.length<=60) (hg:∀r∈rows,au r.1/\r.1.flatten.length<=60) (h:∀r∈rows,WP d r.2):WP (d+1) (.tup [.str "parts",.tup (rows.map aL)])
 | fewer {d:Nat}{v:PV} (A:LL) (gA:au A) (fA:A.flatten.length<=1000) (h:WP d v):WP (d+1) (.tup [.str "fewer",ofR A,v])
 | either {d:Nat}{v w:PV} (A B:LL) (gA:au A) (gB:au B) (fA:A.flatten.length<=1000) (fB:B.flatten.length<=1000) (h:WP d v) (h':WP d w):WP (d+1) (.tup [.str "either",ofR A,v,ofR B,w])
def ue{α J:Type} [Inhabited J] {P:α->J->Prop}{l:List α} (h:∀r∈l,∃b,P r b):∃f:α->J,∀r∈l,P r (f r):=by
 obtain⟨f,Y⟩:=MZ (r:=λr b=>r∈l->P r b) λr=>by
  by_cases U:r∈l
  .obtain⟨b,q⟩:=h r U;exact⟨b,λ_=>q⟩
  .exact⟨default,λz=>absurd z U⟩
 exact⟨f,Y⟩
def up1 :∀{e},d+1<=e->∃x,e=x+1/\d<=x
 |x+1,h=>⟨x,rfl,Nat.le_of_succ_le_succ h⟩
def upN(k:Nat)(h:m+c<=N)(z:k<=c:=by decide):∃n,N=n+k:=⟨N-k,(Nat.sub_add_cancel (pe z (pe (Me c m) h))).symm⟩
def xc1{v:PV}{r:Rho}(h:cal (f+2000) [.mutD (.p ns)]=some (.tup [v,.dI (.p z)])):evX cal (.call f [true] [.bor 0]) (some (.mutD (.p ns))::r)=some (v,some (.mutD (.p z))::r):=by simp_all [evX,sT,evM,g7,kG,fR]
def xc3(Z:evA cal [e] (some (.mutD (.p ns))::r)=some [.val w])(J:evA cal [U] (some (.mutD (.p ns))::r)=some [.val Y])(h:cal (f+2000) [.mutD (.p ns),.val w,.val Y]=some (.tup [v,.dI (.p z)])):evX cal (.call f [true,false,false] [.bor 0,e,U]) (some (.mutD (.p ns))::r)=some (v,some (.mutD (.p z))::r):=by simp_all [evX,sT,evM,g7,kG,fR]
def o5(h:ev cal e W=some v):exs cal (.retM e::ms) W=.retM v W:=by
 rw[al,ex,h];rfl
def gN(h:evX cal x W=some (v,l)):exs cal (.retXE x::ms) W=.retM v l:=by
 rw[al,ex,h];rfl
def iU(h:ev cal c W=some (.bl false))(k:exs cal ms W=r):exs cal (.ite c a []::ms) W=r:=by simp_all [aU,exs]
def jk(h:ev cal c W=some (.bl true))(k:exs cal a W=.retM v l):exs cal (.ite c a b::ms) W=.retM v l:=by
 rw[al,aU h,if_pos rfl,k];rfl
def o6(h:evX cal x W=some (v,l))(k:exs cal ms (put l i (.val v))=r):exs cal (.setX i x::ms) W=r:=by
 rw[al,ex,h];exact k
def Bt(cal:Cal):Prop:=∀ns,∃(x:Int) (z:List Int),0<=x/\cal (55+2000) [.mutD (.p ns)]=some (.tup [.int x,.dI (.p z)])
def GH(n):Bt (aa defs (n+2)):=λns=>by
 rw[hW (d:=iG) (by decide) rfl rfl];by_cases z:ns=[]
 .subst z;refine⟨0,[],NX _,?_⟩;have e:exs (aa defs (n+1)) iG.body [some (.mutD (.p []))]=.retM (.int 0) [some (.mutD (.p []))]:=iU (by simp[ev,u_]) (o5 (by simp[ev]));show rJ _ (exs _ _ [some (.mutD (.p []))])=_;rw[e];simp[rJ,eN]
 .obtain⟨l,x,rfl⟩:∃l x,ns=l++[x]:=⟨ns.dropLast,ns.getLast z,(dropLast_concat_getLast z).symm⟩;refine⟨eX x 2049848353892358983,l,iH _ _,?_⟩;have em:=rP n x 2049848353892358983;have e:exs (aa defs (n+1)) iG.body [some (.mutD (.p (l++[x])))]=.retM (.int (eX x 2049848353892358983)) [some (.mutD (.p l))]:=jk (by simp[ev,u_]) (gN (by simp[evX,CD,g7,fR,evA,ev,em]));show rJ _ (exs _ _ [some (.mutD (.p (l++[x])))])=_;rw[e];simp[rJ,eN]
def cH(h:ev cal e W=some v)(k:evXs cal xs W=some (vs,l)):evXs cal (.pure e::xs) W=some (v::vs,l):=by simp_all [evXs,evX]
def gq(h:evX cal x W=some (v,l)):evXs cal [x] W=some ([v],l):=by simp_all [evXs]
def kh(h:evXs cal xs W=some (vs,l))(z:vs.length<=10000:=by simp):evX cal (.tup xs) W=some (.tup vs,l):=by simp_all [evX]
def xc5(h1:evA cal [J] (some (.mutD (.p ns))::r)=some [.val U])(h2:evA cal [Y] (some (.mutD (.p ns))::r)=some [.val Z])(h3:evA cal [e3] (some (.mutD (.p ns))::r)=some [.val w3])(h4:evA cal [e4] (some (.mutD (.p ns))::r)=some [.val w4])(h:cal (f+2000) [.mutD (.p ns),.val U,.val Z,.val w3,.val w4]=some (.tup [v,.dI (.p z)])):evX cal (.call f [true,false,false,false,false] [.bor 0,J,Y,e3,e4]) (some (.mutD (.p ns))::r)=some (v,some (.mutD (.p z))::r):=by simp_all [evX,sT,evM,g7,kG,fR]
def xcO(hi:(W[i]?).join=some (.ownD (.p ns)))(h1:evA cal [J] W=some [.val U])(h2:evA cal [Y] W=some [.val Z])(h3:evA cal [e3] W=some [.val w3])(h4:evA cal [e4] W=some [.val w4])(h:cal (f+2000) [.mutD (.p ns),.val U,.val Z,.val w3,.val w4]=some (.tup [v,.dI (.p z)])):evX cal (.call f [true,false,false,false,false] [.bor i,J,Y,e3,e4]) W=some (v,W.set i (some (.ownD (.p z)))):=by simp_all [evX,sT,evM,g7,kG,fR]
def GI{ns:List Int}(h:ev cal e W=some (.lst (ns.map .int))):ex cal (.setP i e) W=.next (put W i (.ownD (.p ns.reverse))):=by
 rw[ex,h];simp[bq]
theorem mw(n:Nat)(a:Option MV):∀(S P:LL) (U:List Int) (x y:Option MV),OkP P->(∀t∈S,bT t)->P.length+S.length<=60->U.length<=2*P.length ->
  ∃P' U' x' y',OkP P'/\P'.length<=P.length+S.length/\aq (λv l=>exs (aa defs (n+1)) fI (put l 3 (.val v))) (S.map ofS) [a,some (.own (P.map ofS)),sv (ofL U),x,y]=.next [a,some (.own (P'.map ofS)),sv (ofL U'),x',y']
 | [],P,U,x,y,Y,_,hl,_=>⟨P,U,x,y,Y,by simp,rfl⟩
 |s::S,P,U,x,y,Y,hS,hl,hU=>by
  simp only[length_cons]at hl;have gs:=hS s (.head _);have ea:ev (aa defs (n+1)) (.blt .any [(.comp .seq [.bor 1] [3] (.cst (.bl true)) (.call 50 [.bor 0,.bor 1]))]) [a,some (.own (P.map ofS)),sv (ofL U),sv (ofS s),y]=some (.bl (P.any λt=>sub t s)):=by
   rw[aE (v:=.lst ((P.map λt=>sub t s).map .bl)),m7,dg]
   .simp
   .refine(b8 (g:=ofS) (h:=λt=>.bl (sub t s)) (vs:=[.lst (P.map ofS)]) (by simp[evs,ev]) rfl (by omega) λt ht=>?_).trans (by rw[Kx];rfl);exact ab (vs:=[.val (ofS t),.val (ofS s)]) (by simp[evA,cn]) (t5 n t s)
  obtain⟨F,hF⟩:∃F,F=s.filter λh=>!decide (h∈U):=⟨_,rfl⟩
  have hm:∀h∈F,0<=h/\h<=59:=λh hh=>gs.2 h (by rw[hF]at hh;exact(KG.mp hh).1)
  have J:ev (aa defs (n+1)) (.comp .seq [.bor 3] [2] (.cmp .notIn (.bor 0) (.bor 1)) (.var 0)) [a,some (.own (P.map ofS)),sv (ofL U),sv (ofS s),y]=some (ofL F):=by
   rw[ev,show evs (aa defs (n+1)) [.bor 3] [a,some (.own (P.map ofS)),sv (ofL U),sv (ofS s),y]=some [ofS s]from by simp[evs,ev],bind_some,wU,wS,bind_some,if_pos (by rw[mx];have:=aJ gs;omega),cz (p:=λh=>!decide (h∈U)) (h:=PV.int),hF]
   .rfl
   .intro h _;simp[ev,cn,bL]
   .intro h _ _;simp[ev,cn]
  rw[uw,aq];have st:∃Z U1 y1,OkP Z/\Z.length<=P.length+1/\U1.length<=2*Z.length/\exs (aa defs (n+1)) fI (put [a,some (.own (P.map ofS)),sv (ofL U),x,y] 3 (.val (ofS s)))=.next [a,some (.own (Z.map ofS)),sv (ofL U1),sv (ofS s),y1]:=by
   have c:ev (aa defs (n+1)) (.not (.blt .any [(.comp .seq [.bor 1] [3] (.cst (.bl true)) (.call 50 [.bor 0,.bor 1]))])) [a,some (.own (P.map ofS)),sv (ofL U),sv (ofS s),y]=some (.bl (!(P.any λt=>sub t s))):=k9 ea;cases hq:P.any λt=>sub t s with
   |true =>
    rw[hq]at c;exact⟨P,U,y,Y,by omega,hU,cj ((aU c).trans rfl)⟩
   |false =>
    rw[hq]at c
    match F,hm,J with
    | [],_,J=>exact⟨P,U,sv (ofL []),Y,by omega,hU,cj ((aU c).trans (cg J rfl))⟩
    | [z],_,J=>exact⟨P,U,sv (ofL [z]),Y,by omega,hU,cj ((aU c).trans (cg J rfl))⟩
    |z::w::r,hm,J =>
     refine⟨P++[[z,w]],U++[z,w],sv (ofL (z::w::r)),λt ht=>?_,by simp,by simp;omega,?_⟩
     .rcases LS.mp ht with h|h
      .exact Y t h
      .exact⟨z,w,by simpa using h,hm z (.head _),hm w (.tail _ (.head _))⟩
     .have hn:(((z::w::r).map PV.int).length:Int)=(r.length:Int)+1+1:=by simp
      have aO:∀(k:Int) (v:PV),0<=k->k<=1->((z::w::r).map PV.int)[k.toNat]?=some v->gZ (ofL (z::w::r)) (.int k)=some v:=λk v h0 h1 e=>by
       rw[A9,hZ h0 (by omega)];exact e
      have cu:cut ((z::w::r).map .int) none (some 2)=[.int z,.int w]:=by
       have h4:min 2 (r.length+1+1)=2:=by omega
       simp[cut,g5,h4]
      rw[KS,show ofL (U++[z,w])=.lst (U.map .int++[.int z,.int w])from KN PV.lst KS];exact cj ((aU c).trans (cg J (cj ((aU (p:=true) ((cE (x:=.int ((((z::w::r).map PV.int).length:Nat):Int)) (y:=.int 1) rfl rfl).trans (by rw[Gw,hn,Ky (by omega)];rfl))).trans (fM (mq rfl (d8 (bm ((gK rfl rfl).trans (aO 0 (.int z) (by decide) (by decide) rfl)) (bm ((gK rfl rfl).trans (aO 1 (.int w) (by decide) (by decide) rfl)) rfl))) (by rw[mx];omega)) (cj (iI ((cf rfl (show _=some (PV.lst (cut ((z::w::r).map .int) none (some 2)))from rfl)).trans (by rw[cu,m6,if_pos (by rw[mx];simp;omega)])))))))))
  obtain⟨Z,U1,y1,q1,q2,q3,e⟩:=st;rw[e];obtain⟨P',U',x',y',r1,r2,r3⟩:=mw n a S Z U1 (sv (ofS s)) y1 q1 (λt ht=>hS t (.tail _ ht)) (by omega) q3;exact⟨P',U',x',y',r1,by rw[length_cons];omega,r3⟩
def Bu(n:Nat)(R:LL)(g:au R):∃P,OkP P/\P.length<=60/\aa defs (n+2) 51 [.val (ofR R)]=some (ofR P):=by
 obtain⟨P,U,x,y,h1,h2,e⟩:=mw n (sv (ofR R)) R [] [] none none (λ_ h=>by cases h) g.1 (by have:=g.2.2;simpa using this) (by simp);refine⟨P,h1,by have:=g.2.2;simp at h2;omega,?_⟩;rw[ae (d:=iF) rfl rfl];simp only[map_nil]at e;rw[show ofL []=PV.lst []from rfl]at e;simp[iF,exs,ex,ev,evs,evA,bu,aM,ofR,e]
def Dx(cal)(R)(g:au R)(h)(a b x):ev cal (.blt .sum [(.comp .seq [.bor 0] [3] (.cmp .isIn (.bor 1) (.bor 0)) (.bin .shr (.bin .pow (ci 2) (ci 60)) (.blt .len [.bor 0])))]) [sv (ofR R),a,b,sv (.int h),x]=some (.int (aD R h)):=by
 rw[GE (ns:=(R.filter λs=>decide (h∈s)).map wgt) ?_,ub];rw[ev,show evs cal [.bor 0] [sv (ofR R),a,b,sv (.int h),x]=some [ofR R]from by simp[evs,ev],bind_some,wU,wS,bind_some,if_pos (by rw[mx];have:=g.2.2;omega),cz (p:=λs=>decide (h∈s)) (h:=λs=>.int (wgt s)),Kx]
 .rfl
 .intro s _;simp[ev,cn,bL]
 .intro s hs _;exact Jj _ s (aJ (g.1 s hs)) _
noncomputable def iQ(f:Int->Int)(p:Option Int×Int)(h:Int):Option Int×Int:=if p.2<f h then(some h,f h)else p
theorem qv(cal)(R)(g:au R):∀(hs:List Int) p x y,∃z J,aq (λv l=>exs cal eE (put l 3 (.val v))) (hs.map .int) [sv (ofR R),sv (cq p.1),sv (.int p.2),x,y]=.next [sv (ofR R),sv (cq (hs.foldl (iQ (aD R)) p).1),sv (.int (hs.foldl (iQ (aD R)) p).2),z,J]
 | [],p,x,y=>⟨x,y,rfl⟩
 |h::hs,p,x,y=>by
  have e:=Dx cal R g h (sv (cq p.1)) (sv (.int p.2)) y;rw[uw,aq];have st:exs cal eE (put [sv (ofR R),sv (cq p.1),sv (.int p.2),x,y] 3 (.val (.int h)))=.next [sv (ofR R),sv (cq (iQ (aD R) p h).1),sv (.int (iQ (aD R) p h).2),sv (.int h),sv (.int (aD R h))]:=by
   simp only[cb,cc,eE];refine cg e ?_;simp only[cb,cc,iQ];by_cases q:p.2<aD R h
   .simp[exs,ex,ev,evB,q,cq]
   .simp[exs,ex,ev,evB,q]
  rw[st];exact qv cal R g hs _ _ _
def cV(R:LL):Option Int:=((ac R).foldl (iQ (aD R)) (none,0)).1
def GJ(n:Nat)(R:LL)(g:au R):aa defs (n+2) 52 [.val (ofR R)]=some (cq (cV R)):=by
 obtain⟨x,y,e⟩:=qv (aa defs (n+1)) R g (ac R) (none,0) none none;rw[ae (d:=qo) rfl rfl];have z:∀W:Rho,ev (aa defs (n+1)) (.call 49 [.bor 0]) (sv (ofR R)::W)=some (ofL (ac R)):=λW=>ab (vs:=[.val (ofR R)]) (by simp[evA]) (jx n R g.1)
 show aX (exs (aa defs (n+1)) [.set 1 _,.set 2 _,.for1 3 .seq [(.call 49 [.bor 0])] eE,.ret _] [sv (ofR R),none,none,none,none])=_;refine aT (fK _ _ _) (aT (fK _ _ _) (cU (l:=[sv (ofR R),sv (cq (cV R)),sv (.int ((ac R).foldl (iQ (aD R)) (none,0)).2),x,y]) ?_ (gp (v:=cq (cV R)) ?_)))
 .simp only[cb,cc];rw[cQ (xs:=(ac R).map .int) (by rw[evs,z];rfl)];show(MM.R.back _ _ (aq _ _ [sv (ofR R),sv (cq none),sv (.int 0),none,none]))=_;rw[e]
  rfl
 .cases cV R<;>simp[ev,cq]
theorem qw :∀(hs:List Int) p,(hs.foldl (iQ f) p).1=some x->x∈hs\/p.1=some x
 | [],_,e=>.inr e
 |h::hs,p,e=>by
  rcases qw hs (iQ f p h) e with z|z
  .exact .inl (.tail _ z)
  .unfold iQ at z;split at z
   .simp_all
   .exact .inr z
def o7{R:LL}(e:cV R=some x):x∈ac R:=(qw _ _ e).resolve_right λz=>by cases z
def Bv(n:Nat)(R:LL)(g:au R)(p:Int):∃r:Option Int,ji r/\aa defs (n+3) 57 [.val (ofR R),.val (.int p)]=some (cq r):=by
 have e:=GJ n R g;rw[ae (d:=eG) rfl rfl];by_cases z:p % 8=0
 .exact⟨none,(λx e=>by cases e),by simp[eG,exs,ex,ev,evB,z,cq]⟩
 .by_cases h1:p % 8=1
  .exact⟨some (p / 8 % 60),(λx e=>by cases e;have:=LD (p / 8) (b:=60) (by decide);have:=Lx (p / 8) (b:=60) (by decide);omega),by simp[eG,exs,ex,ev,evB,h1,cq]⟩
  .exact⟨cV R,(λx e=>(aV g.1).2 x (o7 e)),by simp[eG,exs,ex,ev,evB,evA,z,h1,e]⟩
def lU (h:k="bare" \/ k="whole" \/ k="weight"):t4 (.tup [.str k]):=by
 rcases h with rfl|rfl|rfl
 .exact .inl rfl
 .exact .inr (.inl rfl)
 .exact .inr (.inr (.inl rfl))
def Bw(n:Nat)(R:LL)(g:au R)(t h:Bool)(p:Int):∃v,t4 v/\aa defs (n+3) 59 [.val (ofR R),.val (.str (af t)),.val (.str (af h)),.val (.int p)]=some v:=by
 obtain⟨P,h1,h2,e⟩:=Bu n R g;rw[ae (d:=mh) rfl rfl];cases h with
 |false =>
  have k:∀b:Bool,isIn (ofS []) (R.map ofS)=some b->∀W:Rho,ev (aa defs (n+2)) (.idx (.lst [(.tup [(cs "weight")]),(.tup [(cs "whole")])]) (.blt .intOf [(.cmp .isIn (.tup []) (.bor 0))])) (sv (ofR R)::W)=some (.tup [.str ((if b=true then "whole" else "weight":String):PySem.Str)]):=λb J W=>(gK rfl (aE (yn J rfl rfl))).trans (by cases b<;>rfl)
  exact⟨_,lU (k:=if decide ([]∈R)=true then "whole" else "weight") (by cases decide ([]∈R)<;>simp),bx rfl (k _ (j7 [] R) _)⟩
 |true =>
  by_cases z:R=[]
  .subst z;exact⟨_,lU (.inl rfl),rfl⟩
  .have U:((R.length:Int)==0)=false:=by
    cases R with
    |nil=>exact absurd rfl z
    |cons _ _=>simp;omega
   have c:∀W:Rho,ev (aa defs (n+2)) (.cmp .eq (.blt .len [.bor 0]) (ci 0)) (sv (ofR R)::W)=some (.bl false):=λW=>m8 (xs:=R.map ofS) (by rw[mx];exact U) rfl
   have d:∀W:Rho,ev (aa defs (n+2)) (.and (.cmp .eq (.bor 1) (cs "weaver")) (.cmp .eq (.bin .mod (.bor 3) (ci 2)) (ci 0))) (sv (ofR R)::sv (.str (af t))::sv (.str (af true))::sv (.int p)::W)=some (.bl (!t&&(p % 2==0))):=λW=>dQ (by cases t<;>rfl) λ_=>ie rfl (by decide)
   cases q:(!t&&(p % 2==0))with
   |true =>
    rw[q]at d;exact⟨.tup [.str "pairs",ofR P],.inr (.inr (.inr ⟨P,h1,h2,rfl⟩)),aA rfl (aA (c _) (bx (d _) (d8 (bm rfl (bm (ab rfl e) rfl)))))⟩
   |false =>
    rw[q]at d;exact⟨_,lU (.inr (.inr rfl)),aA rfl (aA (c _) (aA (d _) rfl))⟩
theorem o8(cal)(a0 a2 a3 a6)(base off many block)(hb:0<=base)(a9:base<=48)(ho:0<=off)(hm:0<many)(hs:off+many<=12)(hk:gZ (.lst [.int 0,.int 4,.int 8,.int 0]) (.int block)=some (.int off)):∀xs left (z:List Int) k U,z.Nodup->(∀x∈z,0<=x/\x<=59)->z.length+xs.length<=100 ->
  ∃(Z:Int) (J:List Int) (k' ao:Option MV),aq (λx l=>exs cal bG (put l 9 (.val x))) xs [a0,sv (.int base),a2,a3,sv (.int left),sv (.int block),a6,sv (.int many),some (.own (z.map .int)),k,U]=.next [a0,sv (.int base),a2,a3,sv (.int Z),sv (.int block),a6,sv (.int many),some (.own (J.map .int)),k',ao]/\J.Nodup/\(∀x∈J,0<=x/\x<=59)/\J.length<=z.length+xs.length
 | [],left,z,k,U,h1,h2,_=>⟨left,z,k,U,rfl,h1,h2,g4 _⟩
 |x::xs,left,z,k,U,h1,h2,h3=>by
  rw[length_cons]at h3;have m0:0<=left % many:=LD _ (by omega);have m1:left % many<many:=Lx _ hm;have b0:z.length<10000:=by omega
  have Y:many<1073741824:=by omega
  rw[aq];have e:exs cal bG (put [a0,sv (.int base),a2,a3,sv (.int left),sv (.int block),a6,sv (.int many),some (.own (z.map .int)),k,U] 9 (.val x))=.next [a0,sv (.int base),a2,a3,sv (.int (left / many)),sv (.int block),a6,sv (.int many),some (.own ((if base+off+left % many∈z then z else z++[base+off+left % many]).map .int)),sv x,sv (.int (base+off+left % many))]:=by
   by_cases q:base+off+left % many∈z
   .simp[bG,exs,ex,ev,evs,evB,hk,hm,Y,bL,q]
   .simp[bG,exs,ex,ev,evs,evB,hk,hm,Y,bL,q,b0]
  rw[e];refine aB λZq kq=>?_
  obtain⟨l',J,k',o',f1,f2,f3,f4⟩:=o8 cal a0 a2 a3 a6 base off many block hb a9 ho hm hs hk xs (left / many) (if base+off+left % many∈z then z else z++[base+off+left % many]) (sv x) (sv (.int (base+off+left % many))) (by
   split
   .exact h1
   .rename_i q;exact Mw.mpr ⟨h1,by simp,λa ha b hb e=>by rw[KL.mp hb]at e;exact q (e▸ha)⟩) (by
   split
   .exact h2
   .intro y hy;rcases LS.mp hy with hy|hy
    .exact h2 y hy
    .rw[KL.mp hy];omega) (by
   split
   .omega
   .rw[tf,length_singleton];omega)
  refine kq ?_;refine⟨l',J,k',o',f1,f2,f3,?_⟩;rw[length_cons];split at f4
  .omega
  .rw[tf,length_singleton]at f4;omega
def my(h:(evs cal src W).bind (bg k)=some xs)(e:aq (λx l=>exs cal body (put l i (.val x))) xs (bu src W)=.next l)(q:exs cal ms (aM src W l)=r):exs cal (.for1 i k src body::ms) W=r:=by simp_all [al,cQ]
def Dy(n:Nat)(c base z U:Int)(h1:0<=base)(h2:base<=48)(h3:3<=z)(h4:z<=4)(h5:0<=U)(h6:U<=2):∃s,(bT s/\s.length<=4)/\aa defs (n+2) 54 [.val (.int c),.val (.int base),.val (.int z),.val (.int U)]=some (ofS s):=by
 rw[ae (d:=gj) rfl rfl];have em:=rP n c 1181783497276652981;generalize eX c 1181783497276652981=l at em;have hp:0<z:=by omega
 have a0:z<1073741824:=by omega
 obtain⟨J,hs⟩:∃x,x=l % z:=⟨_,rfl⟩;obtain⟨size,hz⟩:∃x,x=U+l / z % 3:=⟨_,rfl⟩;have q0:0<=J:=by rw[hs];exact LD _ (by omega)
 have q1:J<4:=by have:=Lx l hp;omega
 have s0:0<=size:=by omega
 have s1:size<=4:=by omega
 obtain⟨Y,ao,a1,a2,a3,a4,a5⟩:∃Y ao:Int,0<Y/\0<=ao/\ao+Y<=12/\gZ (.lst [.int 4,.int 4,.int 4,.int 12]) (.int J)=some (.int Y)/\gZ (.lst [.int 0,.int 4,.int 8,.int 0]) (.int J)=some (.int ao):=by
  obtain rfl|rfl|rfl|rfl:J=0\/J=1\/J=2\/J=3:=by omega
  .exact⟨4,0,by decide,by decide,by decide,rfl,rfl⟩
  .exact⟨4,4,by decide,by decide,by decide,rfl,rfl⟩
  .exact⟨4,8,by decide,by decide,by decide,rfl,rfl⟩
  .exact⟨12,0,by decide,by decide,by decide,rfl,rfl⟩
 obtain⟨l',Z,k',o',e,g1,g2,g3⟩:=o8 (aa defs (n+1)) (sv (.int c)) (sv (.int z)) (sv (.int U)) (sv (.int size)) base ao Y J h1 h2 a2 a1 a3 a5 ((range size.toNat).map λ(k:Nat)=>PV.int (k:Int)) (l / z / 3) [] none none LN (λ_ h=>by cases h) (by simp;omega);have g3:Z.length<=4:=by rw[mx,NR,length_nil]at g3;omega
 refine⟨sortI Z,⟨⟨oH g1,λh hh=>g2 h (jw.mp hh)⟩,by rw[sortI_len];exact g3⟩,?_⟩;show aX (exs (aa defs (n+1)) (_::_::_::_::_::_::_::_::[_]) [sv (.int c),sv (.int base),sv (.int z),sv (.int U),none,none,none,none,none,none,none])=_;refine aT (v:=.int l) (ab (vs:=[.val (.int c),.val (.int 1181783497276652981)]) (by simp[evA,ev]) em) (aT (v:=.int J) (by simp[ev,hp,hs]) (aT (v:=.int (l / z)) (by simp[ev,hp,a0]) (aT (v:=.int size) (by simp[ev,hz]) (aT (v:=.int (l / z / 3)) (by simp[ev]) (aT (v:=.int Y) (by rw[gK (y:=.int J) rfl rfl];exact a4) ?_)))));simp only[cb,cc];refine cU (dy (xs:=[]) (by simp[ev,evs])) ?_;simp only[cb,cc];refine KN aX (my (r:=.ret (ofS (sortI Z))) (xs:=(range size.toNat).map λ(k:Nat)=>PV.int (k:Int)) ?_ e ?_)
 .rw[show evs (aa defs (n+1)) [.bor 6] [sv (.int c),sv (.int base),sv (.int z),sv (.int U),sv (.int (l / z / 3)),sv (.int J),sv (.int size),sv (.int Y),some (.own []),none,none]=some [.int size]from by simp[evs,ev],bind_some,oG s0 (by omega)]
 .rw[al,dh (v:=ofS (sortI Z))]
  .rfl
  .refine(aE (v:=ofL (sortI Z)) ?_).trans rfl;rw[aE (v:=ofL Z) rfl,fF,iC,bind_some,qj (by omega)]
abbrev pG(G:LL):PV:=.lst (G.map ofS)
def Dz(cal)(z a1 J U)(s)(G)(hG:G.length<=60)(Y:∀t∈G,t.length<=60):ev cal (.blt .any [(.comp .seq [.bor 5] [2] (.cst (.bl true)) (.blt .any [(.comp .seq [.bor 0] [1] (.cst (.bl true)) (.cmp .isIn (.bor 0) (.bor 1)))]))]) [z,a1,sv (ofS s),J,U,sv (pG G)]=some (.bl ((G.map λt=>(t.map λx=>decide (x∈s)).any id).any id)):=by
 have e:∀(xs:List Bool),az .any [.lst (xs.map .bl)]=some (.bl (xs.any id)):=λxs=>by rw[m7,dg];rfl
 rw[aE (v:=.lst ((G.map λt=>(t.map λx=>decide (x∈s)).any id).map .bl)),e];rw[Kx];refine b8 (vs:=[pG G]) (xs:=G) (g:=ofS) rfl rfl (by omega) λt Z=>?_
 rw[aE (v:=.lst ((t.map λx=>decide (x∈s)).map .bl)),e]
 .rfl
 rw[Kx];refine b8 (vs:=[ofS t]) (xs:=t) (g:=.int) rfl rfl (by have:=Y t Z;omega) λx _=>?_
 simp[ev,cn,bL]
theorem jl(cal)(Z a1)(s):∀(D:List (LL)) (z:LL) (J:List (LL)) (y:Option MV),(∀t∈D.flatten,t.length<=60)->z.length+D.flatten.length<=60->J.length+D.length<=60 ->
  ∃(U:LL) (Y:List (LL)) (y':Option MV),aq (λx l=>exs cal d5 (put l 5 (.val x))) (D.map pG) [Z,a1,sv (ofS s),sv (pG z),some (.own (J.map pG)),y]=.next [Z,a1,sv (ofS s),sv (pG U),some (.own (Y.map pG)),y']/\(U++Y.flatten).Perm (z++J.flatten++D.flatten)/\Y.length<=J.length+D.length
 | [],z,J,y,_,_,_=>⟨z,J,y,rfl,by simp,g4 _⟩
 |G::D,z,J,y,h1,h2,h3=>by
  rw[flatten_cons]at h1 h2;rw[tf]at h2;rw[length_cons]at h3;rw[uw,aq];have et:=Dz cal Z a1 (sv (pG z)) (some (.own (J.map pG))) s G (by omega) λt ht=>h1 t (Na _ ht)
  generalize ((G.map λt=>(t.map λx=>decide (x∈s)).any id).any id)=b at et;have aO:∀t∈D.flatten,t.length<=60:=λt ht=>h1 t (Ld _ ht)
  cases b with
  |true =>
   have e:exs cal d5 (put [Z,a1,sv (ofS s),sv (pG z),some (.own (J.map pG)),y] 5 (.val (pG G)))=.next [Z,a1,sv (ofS s),sv (pG (z++G)),some (.own (J.map pG)),sv (pG G)]:=by
    refine cj ?_;simp only[cb,cc];rw[aU et,if_pos rfl];refine cj (iI ?_);rw[cf rfl rfl,m6,if_pos (by rw[mx,mx];omega),<- KS]
   rw[e];obtain⟨n',f',y',q1,q2,q3⟩:=jl cal Z a1 s D (z++G) J (sv (pG G)) aO (by rw[tf];omega) (by omega);refine⟨n',f',y',q1,q2.trans ?_,by rw[length_cons];omega⟩;rw[flatten_cons,<- Lf];refine Perm.append_right _ ?_;rw[Lf,Lf];exact Perm.append_left _ MB
  |false =>
   have e:exs cal d5 (put [Z,a1,sv (ofS s),sv (pG z),some (.own (J.map pG)),y] 5 (.val (pG G)))=.next [Z,a1,sv (ofS s),sv (pG z),some (.own ((J++[G]).map pG)),sv (pG G)]:=by
    refine cj ?_;simp only[cb,cc];rw[aU et,if_neg (by decide)];have a8:J.length<10000:=by omega
    simp[exs,ex,ev,a8]
   rw[e];obtain⟨n',f',y',q1,q2,q3⟩:=jl cal Z a1 s D z (J++[G]) (sv (pG G)) aO (by omega) (by rw[tf,length_singleton];omega);rw[tf,length_singleton]at q3;refine⟨n',f',y',q1,q2.trans ?_,by rw[length_cons];omega⟩;simp
theorem mz(cal)(U):∀R A (P:List (LL)) Z x3 x4 Y,P.flatten.Perm A->P.length<=A.length->A.length+R.length<=50->(∀t∈A++R,t.length<=60) ->
  ∃(P':List (LL)) (y2 y3 y4 y5:Option MV),aq (λx l=>exs cal d6 (put l 2 (.val x))) (R.map ofS) [U,sv (.lst (P.map pG)),Z,x3,x4,Y]=.next [U,sv (.lst (P'.map pG)),y2,y3,y4,y5]/\P'.flatten.Perm (A++R)/\P'.length<=(A++R).length
 | [],A,P,Z,x3,x4,Y,p,hl,_,_=>⟨P,Z,x3,x4,Y,rfl,by simpa using p,by simpa using hl⟩
 |s::R,A,P,Z,x3,x4,Y,p,hl,h1,h2=>by
  rw[length_cons]at h1;rw[uw,aq];refine aB λZq kq=>?_
  have hP:=p.length_eq;obtain⟨z,J,y,e1,e2,e3⟩:=jl cal U (sv (.lst (P.map pG))) s P [] [] Y (λt ht=>h2 t (Na _ (p.mem_iff.mp ht))) (by rw[length_nil,hP];omega) (by rw[length_nil];omega);simp only[nil_append,flatten_nil]at e2;have hn:=e2.length_eq;rw[tf]at hn;rw[length_nil,L9]at e3;have e:exs cal d6 (put [U,sv (.lst (P.map pG)),Z,x3,x4,Y] 2 (.val (ofS s)))=.next [U,sv (.lst ((J++[z++[s]]).map pG)),sv (ofS s),sv (pG z),some (.own (J.map pG)),y]:=by
   refine cg (v:=pG []) (by simp[ev,evs]) (fM (dy (xs:=[]) (by simp[ev,evs])) (my (xs:=P.map pG) (by simp[evs,ev]) e1 (cj (iI ?_))));have q:ev cal (.bin .add (.bor 3) (.lst [.var 2])) [U,sv (.lst (P.map pG)),sv (ofS s),sv (pG z),some (.own (J.map pG)),y]=some (pG (z++[s])):=by
    rw[cf (x:=pG z) (y:=.lst [ofS s]) rfl (by simp[ev,evs]),m6,if_pos (by simp;omega)];simp
   show ev cal _ [U,sv (.lst (P.map pG)),sv (ofS s),sv (pG z),some (.own (J.map pG)),y]=_;rw[cf (x:=.lst (J.map pG)) (y:=.lst [pG (z++[s])]) rfl (by rw[ev,evs,q];simp[evs]),m6,if_pos (by simp;omega)];simp
  refine kq ?_;rw[e];obtain⟨P',y2,y3,y4,y5,f1,f2,f3⟩:=mz cal U R (A++[s]) (J++[z++[s]]) (sv (ofS s)) (sv (pG z)) (some (.own (J.map pG))) y (by
   rw[Nv,flatten_singleton,<- Lf];exact Perm.append_right _ ((MB.trans e2).trans p)) (by simp;omega) (by simp;omega) (by simpa using h2)
  exact⟨P',y2,y3,y4,y5,f1,by simpa using f2,by simpa using f3⟩
def SmR(R:LL):Prop:=au R/\R.length<=8/\R.flatten.length<=60
def o9{R:LL}(g:SmR R)(r):SmR (bhd h R r):=by
 refine⟨bQ g.1 r,pe ?_ g.2.1,pe (eI h R r) g.2.2⟩;cases r<;>first|exact g4 _|(cases h<;>first|exact MF _ _|(show(sortT _).length<=_;rw[sortT_len,mx];exact g4 _))
def DA(n:Nat)(R:LL)(g:SmR R):∃D:List (LL),aa defs (n+1) 58 [.val (ofR R)]=some (.lst (D.map ofR))/\D.length<=8/\D.flatten.length<=8/\D.flatten.flatten.length<=60/\∀Q∈D,SmR Q:=by
 obtain⟨P,y2,y3,y4,y5,Z,U,e3⟩:=mz (aa defs n) (sv (ofR R)) R [] [] none none none none (by simp) (g4 _) (by have:=g.2.1;simp;omega) (λt Y=>aJ (g.1.1 t (by simpa using Y)));rw[nil_append]at U e3;have J:(P.map sortT).flatten.Perm R:=by
  refine Perm.trans ?_ U;clear Z U e3
  induction P with
  |nil=>exact .nil
  |cons G P ih=>simp only[uw,flatten_cons];exact(sortT_perm G).append ih
 have hf:=J.flatten.length_eq;have hm:∀Q∈P.map sortT,Q.Sublist (P.map sortT).flatten:=λQ z=>sublist_flatten_of_mem z
 have hb:∀Q∈P.map sortT,SmR Q:=λQ z=>by
  have l1:=(hm Q z).length_le;have l2:=(sublist_flatten_of_mem (MK (f:=flatten) z)).length_le;rw[<- flatten_flatten]at l2;rw[J.length_eq]at l1;rw[hf]at l2;have:=g.2.1;have:=g.2.2;refine⟨⟨λt Y=>g.1.1 t (J.mem_iff.mp ((hm Q z).subset Y)),?_,by omega⟩,by omega,by omega⟩;obtain⟨G,_,rfl⟩:=mem_map.mp z;exact sortT_rises G
 refine⟨P.map sortT,?_,by rw[mx];have:=g.2.1;omega,by rw[J.length_eq];exact g.2.1,by rw[hf];exact g.2.2,hb⟩;rw[ae (d:=mf) rfl rfl];show aX (exs (aa defs n) [.set 1 _,.for1 2 .seq [.bor 0] d6,.ret _] [sv (ofR R),none,none,none,none,none])=_;refine aT (v:=.lst []) (by simp[ev,evs]) (KN aX (my (r:=.ret (.lst ((P.map sortT).map ofR))) (xs:=R.map ofS) (by simp[evs,ev]) Z ?_));rw[al,dh (v:=.lst ((P.map sortT).map ofR))]
 .rfl
 rw[Kx];refine b8 (vs:=[.lst (P.map pG)]) (xs:=P) (g:=pG) rfl rfl (by have:=g.2.1;omega) λG hG=>?_
 have hl:G.length<64:=by
  have:=(hb (sortT G) (MK hG)).2.1;rw[sortT_len]at this;omega
 refine(aE (v:=.lst ((sortT G).map ofS)) ?_).trans rfl;rw[aE (v:=pG G) rfl,fF,iC,bind_some,fj hl]
def Jk:∀(a b:List Int),a.Nodup->a ⊆ b->a.length<=b.length:=λa=>by
 induction a with
 |nil=>intro b _ _;exact KI _
 |cons x a ih =>
  intro b Y hs;obtain⟨Z,n2⟩:=K7.mp Y;have z:=hs (.head _);have:=ih (b.erase x) n2 λy U=>by
   have J:y≠x:=λe=>Z (e▸U)
   exact(mem_erase_of_ne J).mpr (hs (.tail _ U))
  rw[length_erase_of_mem z]at this;have:=length_pos_of_mem z;rw[length_cons];omega
def yy{l:List Int}(h:l.Pairwise (· < ·)):l.Nodup:=h.imp λh e=>by omega
def xc{R:LL} :(∃s∈bhd t R (some h),k∈s)->(∃s∈R,k∈s)/\k≠h:=by
 rintro ⟨s,hs,z⟩;cases t with
 |true =>
  obtain⟨h1,h2⟩:=KG.mp (show s∈R.filter _ from hs);exact⟨⟨s,h1,z⟩,λe=>by subst e;simp[z]at h2⟩
 |false =>
  obtain⟨t,J,rfl⟩:=mem_map.mp (dw.mp (show s∈sortT _ from hs));obtain⟨h1,h2⟩:=KG.mp z;exact⟨⟨t,J,h1⟩,by simpa using h2⟩
def kj{R:LL}(U:h∈ac R):(ac (bhd t R (some h))).length+1<=(ac R).length:=by
 have:=Jk (h::ac (bhd t R _)) _ (K7.mpr ⟨λz=>(xc (aK.mp z)).2 rfl,yy (fL _)⟩) λy J=>by
  rcases wh.mp J with rfl|J
  .exact U
  .exact aK.mpr (xc (aK.mp J)).1
 simpa using this
def uf(h:0<=a/\a<=59):ji (some a):=λx e=>by cases e;exact h
theorem WP.le(h:WP d v):∀{e},d<=e->WP e v:=by
 induction h with
 |leaf h=>exact λ_=>.leaf h
 |one k r Y _ ih=>intro e z;obtain⟨e,rfl,hx⟩:=up1 z;exact .one k r Y (ih hx)
 |cases rows Z hq _ ih=>intro e z;obtain⟨e,rfl,hx⟩:=up1 z;exact .cases rows Z hq λr J=>ih r J hx
 |parts rows a b c d _ ih=>intro e z;obtain⟨e,rfl,hx⟩:=up1 z;exact .parts rows a b c d λr J=>ih r J hx
 |fewer A a b _ ih=>intro e z;obtain⟨e,rfl,hx⟩:=up1 z;exact .fewer A a b (ih hx)
 |either A B a b c d _ _ ih U=>intro e z;obtain⟨e,rfl,hx⟩:=up1 z;exact .either A B a b c d (ih hx) (U hx)
def rZ(k:Nat)(R:LL)(t w:Bool)(v:PV):Prop:=
 (w=t/\∃h s,(0<=h/\h<=59)/\v=.tup [.str (if t=true then "bite" else "knot"),.int h,s]/\WP k s)\/(w=false/\[]∈R/\v=.tup [.str "whole"])\/(w=true/\R=[]/\v=.tup [.str "bare"])\/(w=(!t)/\WP (k+1) v)
theorem rZ.wp{R:LL}(h:rZ k R t w v):WP (k+1) v:=by
 rcases h with⟨_,a,s,z,rfl,h⟩|⟨_,_,rfl⟩|⟨_,_,rfl⟩|⟨_,h⟩
 .exact .one t _ (uf z) h
 .exact .leaf (lU (.inr (.inl rfl)))
 .exact .leaf (lU (.inl rfl))
 .exact h
def Bx(cal:Cal)(k:Nat):Prop:=∀R t,SmR R->(ac R).length<=k->∃w v,rZ k R t w v/\cal 53 [.val (ofR R),.val (.str (af t))]=some (.tup [.str (af w),v])
theorem o_(cal:Cal){k:Nat}(hT:Bx cal k)(R:LL)(g:SmR R)(hw:¬ []∈R)(hb:R≠[])(hk:(ac R).length<=k+1)(t:Bool)(eK:∀h,cal 47 [.val (ofR R),.val (.int h)]=some (ofR (cB h R)))(eB:∀h,cal 48 [.val (ofR R),.val (.int h)]=some (ofR (bt h R))):∀(hs:List Int) (J:List (Int×Option Int×PV)) (x y:Option MV),(∀h∈hs,h∈ac R)->J.length+hs.length<=100->(∀r∈J,WP k r.2.2/\ji r.2.1) ->
  (∃h s,(0<=h/\h<=59)/\WP (k+1) s/\aq (λv l=>exs cal c8 (put l 3 (.val v))) (hs.map .int) [sv (ofR R),sv (.str (af t)),some (.own (J.map aY)),x,y]=.ret (.tup [.str (af t),.tup [.str (if t=true then "bite" else "knot"),.int h,s]])) \/
  ∃(U:List (Int×Option Int×PV)) (x' y':Option MV),aq (λv l=>exs cal c8 (put l 3 (.val v))) (hs.map .int) [sv (ofR R),sv (.str (af t)),some (.own (J.map aY)),x,y]=.next [sv (ofR R),sv (.str (af t)),some (.own (U.map aY)),x',y']/\U.length<=100/\∀r∈U,WP k r.2.2/\ji r.2.1
 | [],J,x,y,_,Y,Z=>.inr ⟨J,x,y,rfl,by simpa using Y,Z⟩
 |h::hs,J,x,y,hm,Y,Z=>by
  rw[length_cons]at Y;have hh:=hm h (.head _);obtain⟨w,v,ok,e⟩:=hT (bhd t R (some h)) (!t) (o9 g _) (by have:=kj (t:=t) hh;omega);rw[uw,aq];have e1:ex cal (.ite (.cmp .eq (.bor 1) (cs "weaver")) [.set 4 (.call 53 [(.call 47 [.bor 0,.bor 3]),(cs "moth")])] [.set 4 (.call 53 [(.call 48 [.bor 0,.bor 3]),(cs "weaver")])]) [sv (ofR R),sv (.str (af t)),some (.own (J.map aY)),sv (.int h),y]=.next [sv (ofR R),sv (.str (af t)),some (.own (J.map aY)),sv (.int h),sv (.tup [.str (af w),v])]:=by
   cases t
   .rw[aU (p:=true) rfl];exact cj (iI (ab (cK (ab rfl (eK h)) rfl) e))
   .rw[aU (p:=false) rfl];exact cj (iI (ab (cK (ab rfl (eB h)) rfl) e))
  by_cases q:w=t
  .subst q;refine .inl ⟨h,v,(aV g.1.1).2 h hh,ok.wp,?_⟩;rw[show exs cal c8 (put [sv (ofR R),sv (.str (af w)),some (.own (J.map aY)),x,y] 3 (.val (.int h)))=.ret (.tup [.str (af w),.tup [.str (if w=true then "bite" else "knot"),.int h,v]])from fM e1 (by cases w<;>exact D9 rfl rfl)]
  .obtain rfl:w=(!t):=by cases w<;>cases t<;>simp_all
   obtain⟨a,s,ha,rfl,ao⟩:∃(a:Int) (s:PV),(0<=a/\a<=59)/\v=.tup [.str (if (!t)=true then "bite" else "knot"),.int a,s]/\WP k s:=by
    rcases ok with⟨_,z⟩|⟨a,b,_⟩|⟨a,b,_⟩|⟨a,_⟩
    .exact z
    .cases t with
     |false=>cases a
     |true=>exact absurd (KG.mp b).1 hw
    .cases t with
     |true=>cases a
     |false =>
      have:=KN List.length b;rw[show(bhd false R (some h)).length=R.length from by show(sortT _).length=_;rw[sortT_len,mx]]at this;exact absurd (Lk.mp this) hb
    .cases t<;>cases a
   have aO:(J.map aY).length<10000:=by rw[mx];omega
   have e2:exs cal c8 (put [sv (ofR R),sv (.str (af t)),some (.own (J.map aY)),x,y] 3 (.val (.int h)))=.next [sv (ofR R),sv (.str (af t)),some (.own ((J++[(h,some a,s)]).map aY)),sv (.int h),sv (.tup [.str (af (!t)),.tup [.str (if (!t)=true then "bite" else "knot"),.int a,s]])]:=fM e1 (by
    rw[KS];cases t<;>exact vM rfl (cj (mq (v:=aY (h,some a,s)) rfl rfl aO)))
   rw[e2];exact o_ cal hT R g hw hb hk t eK eB hs (J++[(h,some a,s)]) _ _ (λy hy=>hm y (.tail _ hy)) (by rw[tf,length_singleton];omega) λr a0=>by
    rcases LS.mp a0 with z|z
    .exact Z r z
    .rw[KL.mp z];exact⟨ao,uf ha⟩
theorem xg(n):∀k,Bx (aa defs (n+k+2)) k
 |k,R,t,g,Y=>by
  by_cases hw:[]∈R
  .refine⟨false,_,.inr (.inl ⟨rfl,hw,rfl⟩),?_⟩;rw[ae (d:=eF) rfl rfl];exact bx (yn ((j7 [] R).trans (by rw[Ky hw])) rfl rfl) rfl
  .have hi:=(j7 [] R).trans (by rw[KP hw]);by_cases Z:R=[]
   .refine⟨true,_,.inr (.inr (.inl ⟨rfl,Z,rfl⟩)),?_⟩;rw[ae (d:=eF) rfl rfl];subst Z
    rfl
   .match k,Y with
    |0,Y =>
     obtain⟨s,hs⟩:=Nl R Z;obtain⟨x,hx⟩:=Nl s λz=>hw (z▸hs)
     have:=aK.mpr ⟨s,hs,hx⟩
     simp_all
    |k+1,Y =>
     have J:((R.length:Int)==0)=false:=by
      cases R<;>grind
     have ao:=aJ (aV g.1.1);rcases o_ (aa defs (n+k+2)) (xg n k) R g hw Z Y t (λh=>jO (n+k+1) R h g.1) (λh=>fg (n+k+1) R h (by have:=g.2.1;omega)) (ac R) [] none none (λh hh=>hh) (by simp;omega) (λr U=>by cases U)with⟨h,s,ha,hs,e⟩|⟨rows,x,y,e,h1,h2⟩
     .refine⟨t,_,.inl ⟨rfl,h,s,ha,rfl,hs⟩,?_⟩;rw[ae (d:=eF) rfl rfl];refine aA (yn hi rfl rfl) (aA (m8 (xs:=R.map ofS) (by rw[mx,J]) rfl) (cU (dy (xs:=[]) rfl) ?_));exact KN aX (Bm (xs:=(ac R).map .int) (vN (ab rfl (jx (n+(k+1)) R g.1.1))) e)
     .refine⟨!t,.tup [.str "cases",.tup (rows.map aY)],.inr (.inr (.inr ⟨rfl,.cases rows (by omega) (λr U=>(h2 r U).2) λr U=>(h2 r U).1.le (by omega)⟩)),?_⟩;rw[ae (d:=eF) rfl rfl];refine aA (yn hi rfl rfl) (aA (m8 (xs:=R.map ofS) (by rw[mx,J]) rfl) (cU (dy (xs:=[]) rfl) ?_));exact KN aX (my (r:=.ret (.tup [.str (af !t),.tup [.str "cases",.tup (rows.map aY)]])) (xs:=(ac R).map .int) (vN (ab rfl (jx (n+(k+1)) R g.1.1))) e (by cases t<;>exact qt rfl))
def GK(h1:ev cal e W=some w)(h2:evX cal x W=some (y,l))(z:cal g [.val w,.val y]=some r):evX cal (.fn2 g e x) W=some (r,l):=by simp_all [evX]
def GL(z:(W[i]?).join=some (.own ys))(h:evX cal x W=some (v,l))(ho:(l[i]?).join=some (.own xs))(J:xs.length<10000)(k:exs cal ms (put l i (.own (xs++[v])))=r):exs cal (.appX i x::ms) W=r:=by
 rw[al,ex,z]
 simp_all
structure lb(cal:Cal):Prop where
 next:Bt cal
 hol:∀R,SmR R->cal 49 [.val (ofR R)]=some (ofL (ac R))
 deed:∀R h r,SmR R->cal 56 [.val (ofR R),.val (.str (af h)),.val (cq r)]=some (ofR (bhd h R r))
 reply:∀R p,SmR R->∃r,ji r/\cal 57 [.val (ofR R),.val (.int p)]=some (cq r)
 split:∀R,SmR R->∃D:List (LL),cal 58 [.val (ofR R)]=some (.lst (D.map ofR))/\D.length<=8/\D.flatten.length<=8/\D.flatten.flatten.length<=60/\∀Q∈D,SmR Q
 tried:Bx cal 4
 plain:∀R t h p,SmR R->∃v,t4 v/\cal 59 [.val (ofR R),.val (.str (af t)),.val (.str (af h)),.val (.int p)]=some v
def lV(n):lb (aa defs (n+6)):=⟨GH (n+4),λR g=>jx (n+5) R g.1.1,λR h r g=>ni (n+4) R g.1 h r,λR p g=>Bv (n+3) R g.1 p,λR g=>DA (n+5) R g,xg n 4,λR t h p g=>Bw (n+3) R g.1 t h p⟩
def jm(cal:Cal)(j:Nat):Prop:=∀ns R (t h:Bool),SmR R->∃v z,cal (63+2000) [.mutD (.p ns),.val (ofR R),.val (.str (af t)),.val (.str (af h)),.val (.int j)]=some (.tup [v,.dI (.p z)])/\WP (7+j) v
theorem mB(cal)(C:lb cal)(G:jm cal 0)(R)(g:SmR R)(h):∀(hs ns:List Int) (J:List (Int×Option Int×PV)) (Y Z x7:Option MV),J.length+hs.length<=100->(∀r∈J,WP 7 r.2.2/\ji r.2.1) ->
  ∃(aO:List Int) (U:List (Int×Option Int×PV)) (y5 y6 y7:Option MV),aq (λx l=>exs cal gI (put l 5 (.val x))) (hs.map .int) [some (.mutD (.p ns)),sv (ofR R),sv (.str (af h)),some (.own (J.map aY)),sv (.str (af !h)),Y,Z,x7]=.next [some (.mutD (.p aO)),sv (ofR R),sv (.str (af h)),some (.own (U.map aY)),sv (.str (af !h)),y5,y6,y7]/\U.length<=100/\∀r∈U,WP 7 r.2.2/\ji r.2.1
 | [],ns,J,Y,Z,x7,hl,hr=>⟨ns,J,Y,Z,x7,rfl,by simpa using hl,hr⟩
 |a::hs,ns,J,Y,Z,x7,hl,hr=>by
  rw[length_cons]at hl;obtain⟨y,n1,_,e1⟩:=C.next ns;have g1:=o9 (h:=!h) g (some a);obtain⟨r,rk,e2⟩:=C.reply (bhd (!h) R (some a)) y g1;obtain⟨v,n2,e3,hv⟩:=G n1 (bhd h (bhd (!h) R (some a)) r) (!h) h (o9 g1 r);have a3:(J.map aY).length<10000:=by rw[mx];omega
  have e:exs cal gI (put [some (.mutD (.p ns)),sv (ofR R),sv (.str (af h)),some (.own (J.map aY)),sv (.str (af !h)),Y,Z,x7] 5 (.val (.int a)))=.next [some (.mutD (.p n2)),sv (ofR R),sv (.str (af h)),some (.own (J.map aY++[aY (a,r,v)])),sv (.str (af !h)),sv (.int a),sv (ofR (bhd (!h) R (some a))),sv (cq r)]:=
   cg (ab rfl (C.deed R (!h) (some a) g)) (o6 (GK rfl (xc1 e1) e2) (GL rfl (kh (cH rfl (cH rfl (gq (xc5 (cK (ab rfl (C.deed _ h r g1)) rfl) rfl rfl rfl e3))))) rfl a3 rfl))
  rw[uw,aq,e];have:=mB cal C G R g h hs n2 (J++[(a,r,v)]) (sv (.int a)) (sv (ofR (bhd (!h) R (some a)))) (sv (cq r)) (by rw[tf,length_singleton];omega) λq hq=>by
   rcases LS.mp hq with z|z
   .exact hr q z
   .rw[KL.mp z];exact⟨hv,rk⟩
  rw[KS]at this;exact this
def By(n:Nat)(C:lb (aa defs n))(G:jm (aa defs n) 0)(ns:List Int)(R:LL)(g:SmR R)(h:Bool):∃v J,aa defs (n+1) (60+2000) [.mutD (.p ns),.val (ofR R),.val (.str (af h))]=some (.tup [v,.dI (.p J)])/\WP 8 v:=by
 obtain⟨J,z,Y,Z,y7,e,h1,h2⟩:=mB (aa defs n) C G R g h (ac R) ns [] none none none (by have:=aJ (aV g.1.1);simp;omega) (λr U=>by cases U);refine⟨.tup [.str "cases",.tup (z.map aY)],J,?_,.cases z (by omega) (λr U=>(h2 r U).2) λr U=>(h2 r U).1⟩;rw[hW (d:=je) (by decide) rfl rfl];have k:exs (aa defs n) je.body [some (.mutD (.p ns)),sv (ofR R),sv (.str (af h)),none,none,none,none,none]=.retM (.tup [.str "cases",.tup (z.map aY)]) [some (.mutD (.p J)),sv (ofR R),sv (.str (af h)),some (.own (z.map aY)),sv (.str (af !h)),Y,Z,y7]:=fM (dy (xs:=[]) rfl) (cg (v:=.str (af !h)) (by cases h<;>rfl) (my (vN (ab rfl (C.hol R g))) e (o5 rfl)));exact KN (rJ _) k
def x_tupOf(h:evX cal x W=some (.lst xs,l)):evX cal (.tupOf x) W=some (.tup xs,l):=by simp_all [evX]
def x_compS(h:(evs cal [src] W).bind (bg .seq)=some xs)(z:xs.length<=10000)(h2:dC cal js k e f mask es xs W=some (ws,l)):evX cal (.compS src js k e f mask es) W=some (.lst ws,l):=by
 obtain⟨vs,J,U⟩:=ft.mp h;rw[evX,J,bind_some,U,bind_some,if_pos z,h2];rfl
theorem D_ (cal:Cal) {j:Nat} (G:jm cal j) (J U Y Z a6:Option MV):∀(D:List (LL)) (ns:List Int),(∀Q∈D,SmR Q)->∃(z:List (LL×PV)) (a0:List Int),dC cal [0,4] .pair (.var 0) 63 [true,false,false,false,false] [.bor 1,.bor 0,(cs "weaver"),(cs "moth"),.bor 2] (D.map ofR) [some (.mutD (.p ns)),J,U,Y,sv (.int j),Z,a6]=some (z.map aL,[some (.mutD (.p a0)),J,U,Y,sv (.int j),Z,a6])/\z.map (·.1)=D/\∀r∈z,WP (7+j) r.2
 | [],ns,_=>⟨[],ns,rfl,rfl,λr hr=>by cases hr⟩
 |Q::D,ns,hD=>by
  obtain⟨v,n1,e,hv⟩:=G ns Q false true (hD Q (.head _));obtain⟨z,n2,e2,h1,h2⟩:=D_ cal G J U Y Z a6 D n1 λq hq=>hD q (.tail _ hq)
  refine⟨(Q,v)::z,n2,?_,by rw[uw,h1],λr hr=>?_⟩
  .rw[uw,dC,show evM cal [true,false,false,false,false] [.bor 1,.bor 0,(cs "weaver"),(cs "moth"),.bor 2] (lz [0,4] [some (.mutD (.p ns)),J,U,Y,sv (.int j),Z,a6] (ofR Q))=some [.mutD (.p ns),.val (ofR Q),.val (.str (af false)),.val (.str (af true)),.val (.int j)]from rfl,show ev cal (.var 0) (lz [0,4] [some (.mutD (.p ns)),J,U,Y,sv (.int j),Z,a6] (ofR Q))=some (ofR Q)from rfl,bind_some,bind_some,e];show(Option.bind (some (.tup [ofR Q,v])) λr=>(Option.bind (some [some (.mutD (.p n1)),J,U,Y,sv (.int j),Z,a6]) λl=>(dC cal _ _ _ _ _ _ _ l).map λp=>(r::p.1,p.2)))=_;rw[bind_some,bind_some,e2]
   rfl
  .rcases wh.mp hr with rfl|hr
   .exact hv
   .exact h2 r hr
def vS{cal:Cal}(C:lb cal){R:LL}(g:SmR R){a:ME}{W:Rho}{p:Bool}(z:ev cal a W=some (.bl p))(U:ev cal (.bor 1) W=some (ofR R))(J:evA cal [.bor 1] W=some [.val (ofR R)]):∃b,ev cal (.and a (.cmp .lt (.blt .len [(.call 49 [.bor 1])]) (ci 5))) W=some (.bl b)/\(b=true->(ac R).length<=4):=by
 refine⟨p&&decide ((((ac R).map PV.int).length:Int)<5),dQ z λ_=>(cE (aE (ab J (C.hol R g))) (fK _ _ _)).trans rfl,λh=>?_⟩;have:=K2 (gx.mp h).2;rw[mx]at this;omega
def r6(cal:Cal)(f j:Nat):Prop:=∀ns R (t:Bool) (p:Int),0<=p->SmR R->∃v z,cal (f+2000) [.mutD (.p ns),.val (ofR R),.val (.str (af t)),.val (.int p),.val (.int j)]=some (.tup [v,.dI (.p z)])/\WP (8+j) v
def yz(n j:Nat)(C:lb (aa defs n))(G:jm (aa defs n) j)(K:∀ns R h,SmR R->∃v z,aa defs n (60+2000) [.mutD (.p ns),.val (ofR R),.val (.str (af h))]=some (.tup [v,.dI (.p z)])/\WP 8 v):r6 (aa defs (n+1)) 61 j:=λns R t p hp g=>by
 suffices h:∃v z x1 x2 x3 x4 W,exs (aa defs n) gJ.body [some (.mutD (.p ns)),sv (ofR R),sv (.str (af t)),sv (.int p),sv (.int j),none,none]=.retM v (some (.mutD (.p z))::x1::x2::x3::x4::W)/\WP (8+j) v by
  obtain⟨v,z,x1,x2,x3,x4,W,e,hv⟩:=h;exact⟨v,z,by rw[hW (d:=gJ) (by decide) rfl rfl];exact KN (rJ _) e,hv⟩
 cases t with
 |true =>
  obtain⟨r,rk,U⟩:=C.reply R p g;obtain⟨v,Z,e2,hv⟩:=G ns (bhd true R r) false true (o9 g r);exact⟨_,_,_,_,_,_,_,jk rfl (cg (ab rfl U) (gN (kh (cH rfl (cH rfl (gq (xc5 (cK (ab rfl (C.deed R true r g)) rfl) rfl rfl rfl e2))))))),(WP.one true r rk hv).le (by omega)⟩
 |false =>
  obtain⟨b,hb,_⟩:=vS (cal:=aa defs n) C g (a:=.cmp .eq (.bin .mod (.bor 3) (ci 2)) (ci 0)) (W:=[some (.mutD (.p ns)),sv (ofR R),sv (.str (af false)),sv (.int p),sv (.int j),none,none]) (ie rfl (by decide)) rfl rfl;cases b with
  |true =>
   obtain⟨v,Z,U,hv⟩:=K ns R true g;exact⟨_,_,_,_,_,_,_,iU rfl (jk hb (gN (xc3 rfl rfl U))),hv.le (by omega)⟩
  |false =>
   obtain⟨D,U,h1,h2,h3,h4⟩:=C.split R g;obtain⟨J,Z,e2,Y,h6⟩:=D_ (aa defs n) G (sv (ofR R)) (sv (.str (af false))) (sv (.int p)) none (sv (.lst (D.map ofR))) D ns h4;have hl:J.length=D.length:=by rw[<- Y,mx]
   refine⟨.tup [.str "parts",.tup (J.map aL)],Z,_,_,_,_,_,iU rfl (iU hb (cg (ab rfl U) (gN (kh (cH rfl (gq (x_tupOf (x_compS (xs:=D.map ofR) rfl (by rw[mx];omega) e2)))))))),(WP.parts J (by omega) (by rw[Y];omega) (by rw[Y];omega) (λr hr=>?_) h6).le (by omega)⟩;have:=h4 r.1 (Y▸MK hr);exact⟨this.1,pe this.2.2 (by decide)⟩
def Bz{A R:LL}(h:A.Sublist R):A.flatten.length<=R.flatten.length:=by
 induction h with
 |slnil=>exact g4 _
 |cons a _ ih=>rw[flatten_cons,tf];omega
 |cons_cons a _ ih=>rw[flatten_cons,tf,flatten_cons,tf];omega
def GM{A R:LL}(g:SmR R)(h:A.Sublist R):SmR A:=by
 have J:=h.length_le;have U:=Bz h;have:=g.2.1;have:=g.2.2;exact⟨⟨λt z=>g.1.1 t (h.subset z),g.1.2.1.sublist h,by omega⟩,by omega,by omega⟩
def DB(cal)(J a2 U)(W)(R)(g:SmR R)(p):∃A,SmR A/\ev cal (.blt .tupleOf [(.comp .rng [(.blt .len [.bor 1])] [1,3] (.cmp .gt (.bin .mod (.bin .shr (.bor 2) (.bin .add (.bor 0) (ci 8))) (ci 4)) (ci 0)) (.idx (.bor 1) (.bor 0)))]) (J::sv (ofR R)::a2::sv (.int p)::U::W)=some (ofR A):=by
 let q:Nat->Bool:=λk=>decide (0<p / 2 ^ (k+8) % 4)
 refine⟨((range R.length).filter q).map λk=>R.getD k [],GM g ?_,?_⟩
 .have h1:((range R.length).map λk=>R.getD k [])=R:=by
   refine ext_getElem (by simp) λi h1 h2=>?_
   simp_all
  have:=(filter_sublist (p:=q) (l:=range R.length)).map λk=>R.getD k []
  rw[h1]at this;exact this
 .have hR:=g.2.1;have Y:ev cal (.blt .len [.bor 1]) (J::sv (ofR R)::a2::sv (.int p)::U::W)=some (.int ((R.map ofS).length:Int)):=rfl;rw[mx]at Y;refine(aE (v:=.lst ((((range R.length).filter q).map λk=>R.getD k []).map ofS)) ?_).trans rfl;rw[ev,evs,Y,bind_some,evs,map_some,bind_some,oG (by omega) (by omega),bind_some,if_pos (by simp;omega),Int.toNat_natCast,cz (p:=q) (h:=λk=>ofS (R.getD k [])),Kx]
  .rfl
  .intro k _;have z:((k:Int)+8).toNat=k+8:=by omega
   have Z:(0:Int)<=(k:Int)+8:=by omega
   have s1:fw .shr (.int p) (.int ((k:Int)+8))=some (.int (p / 2 ^ (k+8))):=by
    show(if (0:Int)<=(k:Int)+8 then some (PV.int (p / 2 ^ ((k:Int)+8).toNat))else none)=_;rw[if_pos Z,z]
   exact rR ((cE ((cf ((cf (y:=.int ((k:Int)+8)) rfl rfl).trans s1) rfl).trans rfl) rfl).trans rfl)
  .intro k z _;have z:k<R.length:=by simpa using z
   simp[ev,cn,ofR,hZ,z]
def xh{D:List (LL)}{i:Int}(z:0<=i)(h1:i<D.length):∃Q∈D,gZ (.lst (D.map ofR)) (.int i)=some (ofR Q):=by
 have h2:i.toNat<D.length:=by omega
 refine⟨D[i.toNat],getElem_mem _,?_⟩;rw[A9,hZ z (by rw[mx];exact h1)];simp[h2]
def ug(n j:Nat)(C:lb (aa defs n))(G:jm (aa defs n) j)(K:∀ns R h,SmR R->∃v z,aa defs n (60+2000) [.mutD (.p ns),.val (ofR R),.val (.str (af h))]=some (.tup [v,.dI (.p z)])/\WP 8 v):r6 (aa defs (n+1)) 62 j:=λns R t p hp g=>by
 suffices h:∃v z x1 x2 x3 x4 W,exs (aa defs n) eU.body [some (.mutD (.p ns)),sv (ofR R),sv (.str (af t)),sv (.int p),sv (.int j),none,none,none,none,none,none]=.retM v (some (.mutD (.p z))::x1::x2::x3::x4::W)/\WP (8+j) v by
  obtain⟨v,z,x1,x2,x3,x4,W,e,hv⟩:=h;exact⟨v,z,by rw[hW (d:=eU) (by decide) rfl rfl];exact KN (rJ _) e,hv⟩
 have U:ev (aa defs n) (.cmp .eq (.bin .mod (.bor 3) (ci 3)) (ci 0)) [some (.mutD (.p ns)),sv (ofR R),sv (.str (af t)),sv (.int p),sv (.int j),none,none,none,none,none,none]=some (.bl (p % 3==0)):=ie rfl (by decide);by_cases q0:(p % 3==0)=true
 .rw[q0]at U;obtain⟨A,gA,J⟩:=DB (aa defs n) (some (.mutD (.p ns))) (sv (.str (af t))) (sv (.int j)) [none,none,none,none,none,none] R g p;obtain⟨v,n1,Z,hv⟩:=G ns A t false gA;exact⟨_,_,_,_,_,_,_,jk U (cg J (gN (kh (cH rfl (cH rfl (gq (xc5 rfl rfl rfl rfl Z))))))),(WP.fewer A gA.1 (pe gA.2.2 (by decide)) hv).le (by omega)⟩
 .rw[M9]at q0;rw[q0]at U;cases t with
  |false =>
   obtain⟨r,rk,J⟩:=C.reply R (p / 3) g;obtain⟨v,n1,Z,hv⟩:=G ns (bhd false R r) true false (o9 g r);exact⟨_,_,_,_,_,_,_,iU U (jk rfl (cg (ab rfl J) (gN (kh (cH rfl (cH rfl (gq (xc5 (cK (ab rfl (C.deed R false r g)) rfl) rfl rfl rfl Z)))))))),(WP.one false r rk hv).le (by omega)⟩
  |true =>
   obtain⟨b,hb,_⟩:=vS (cal:=aa defs n) C g (a:=.cmp .eq (.bin .mod (.bor 3) (ci 3)) (ci 1)) (W:=[some (.mutD (.p ns)),sv (ofR R),sv (.str (af true)),sv (.int p),sv (.int j),none,none,none,none,none,none]) (ie rfl (by decide)) rfl rfl;cases b with
   |true =>
    obtain⟨v,n1,J,hv⟩:=K ns R false g;exact⟨_,_,_,_,_,_,_,iU U (iU rfl (jk hb (gN (xc3 rfl rfl J)))),hv.le (by omega)⟩
   |false =>
    obtain⟨D,J,h1,h2,h3,Y⟩:=C.split R g;have c2:ev (aa defs n) (.cmp .lt (.blt .len [.bor 7]) (ci 2)) [some (.mutD (.p ns)),sv (ofR R),sv (.str (af true)),sv (.int p),sv (.int j),none,none,sv (.lst (D.map ofR)),none,none,none]=some (.bl (decide (((D.map ofR).length:Int)<2))):=rfl;rw[mx]at c2;by_cases q2:(D.length:Int)<2
    .rw[Ky q2]at c2;exact⟨_,_,_,_,_,_,_,iU U (iU rfl (iU hb (cg (ab rfl J) (jk c2 (o5 rfl))))),.leaf (lU (.inr (.inr rfl)))⟩
    .rw[KP q2]at c2;have hd:(0:Int)<D.length:=by omega
     obtain⟨Q1,m1,i1⟩:=xh (D:=D) (i:=p / 3 % D.length) (LD _ (by omega)) (Lx _ hd);obtain⟨Q2,m2,i2⟩:=xh (D:=D) (i:=(p / 3+1) % D.length) (LD _ (by omega)) (Lx _ hd);obtain⟨v1,n1,Z,a7⟩:=G ns Q1 false false (Y Q1 m1);obtain⟨v2,n2,e3,a8⟩:=G n1 Q2 false false (Y Q2 m2);have md:∀x:Int,fw .mod (.int x) (.int ((D.map ofR).length:Int))=some (.int (x % D.length)):=λx=>by
      rw[mx,wR,if_pos hd]
     exact⟨_,_,_,_,_,_,_,iU U (iU rfl (iU hb (cg (ab rfl J) (iU c2 (cg ((gK rfl ((cf rfl rfl).trans (md _))).trans i1) (cg ((gK rfl ((cf rfl rfl).trans (md _))).trans i2) (o6 (xc5 rfl rfl rfl rfl Z) (gN (kh (cH rfl (cH rfl (cH rfl (cH rfl (gq (xc5 rfl rfl rfl rfl e3))))))))))))))),(WP.either Q1 Q2 (Y Q1 m1).1 (Y Q2 m2).1 (pe (Y Q1 m1).2.2 (by decide)) (pe (Y Q2 m2).2.2 (by decide)) a7 a8).le (by omega)⟩
def uh(n j:Nat)(C:lb (aa defs n))(M:∀i,j=i+1->r6 (aa defs n) 61 i/\r6 (aa defs n) 62 i):jm (aa defs (n+1)) j:=λns R t h g=>by
 suffices z:∃v J U Y Z x4 W,exs (aa defs n) gm.body [some (.mutD (.p ns)),sv (ofR R),sv (.str (af t)),sv (.str (af h)),sv (.int j),none,none]=.retM v (some (.mutD (.p J))::U::Y::Z::x4::W)/\WP (7+j) v by
  obtain⟨v,J,U,Y,Z,x4,W,e,hv⟩:=z;exact⟨v,J,by rw[hW (d:=gm) (by decide) rfl rfl];exact KN (rJ _) e,hv⟩
 obtain⟨p,n1,hp,e0⟩:=C.next ns;have bW:∀x6:Option MV,∃v J U Y Z x4 W,exs (aa defs n) (gm.body.drop 2) [some (.mutD (.p n1)),sv (ofR R),sv (.str (af t)),sv (.str (af h)),sv (.int j),sv (.int p),x6]=.retM v (some (.mutD (.p J))::U::Y::Z::x4::W)/\WP (7+j) v:=λx6=>by
  have c1:ev (aa defs n) (.or (.cmp .eq (.bor 4) (ci 0)) (.cmp .eq (.bin .mod (.bin .fdiv (.bor 5) (ci 2)) (ci 8)) (ci 0))) [some (.mutD (.p n1)),sv (ofR R),sv (.str (af t)),sv (.str (af h)),sv (.int j),sv (.int p),x6]=some (.bl (((j:Int)==0)||(p / 2 % 8==0))):=rV rfl λ_=>ie rfl (by decide)
  by_cases q1:(((j:Int)==0)||(p / 2 % 8==0))=true
  .rw[q1]at c1;obtain⟨v,hv,e1⟩:=C.plain R t h (p / 16) g;exact⟨_,_,_,_,_,_,_,jk c1 (o5 (ab rfl e1)),.leaf hv⟩
  .rw[M9]at q1;rw[q1]at c1;obtain⟨i,rfl⟩:∃i,j=i+1:=⟨j-1,by
    have:=(Bool.or_eq_false_iff.mp q1).1;have:(j:Int)≠0:=by simpa using this
    omega⟩
   have hd:ev (aa defs n) (.bin .sub (.bor 4) (ci 1)) [some (.mutD (.p n1)),sv (ofR R),sv (.str (af t)),sv (.str (af h)),sv (.int (i+1:Nat)),sv (.int p),x6]=some (.int i):=KN (λx=>some (PV.int x)) (show((i+1:Nat):Int)-1=i by omega);have a2:(0:Int)<=p / 16:=Int.ediv_nonneg hp (by decide);cases h with
   |true =>
    obtain⟨v,n2,e1,hv⟩:=(M i rfl).1 n1 R t (p / 16) a2 g;exact⟨_,_,_,_,_,_,_,iU c1 (jk rfl (gN (xc5 rfl rfl rfl (rS (λi z=>by cases z) hd) e1))),hv.le (by omega)⟩
   |false =>
    obtain⟨v,n2,e1,hv⟩:=(M i rfl).2 n1 R t (p / 16) a2 g;exact⟨_,_,_,_,_,_,_,iU c1 (iU rfl (gN (xc5 rfl rfl rfl (rS (λi z=>by cases z) hd) e1))),hv.le (by omega)⟩
 obtain⟨b,hb,hf⟩:=vS (cal:=aa defs n) C g (a:=.cmp .eq (.bin .mod (.bor 5) (ci 2)) (ci 0)) (W:=[some (.mutD (.p n1)),sv (ofR R),sv (.str (af t)),sv (.str (af h)),sv (.int j),sv (.int p),none]) (ie rfl (by decide)) rfl rfl;cases b with
 |false =>
  obtain⟨v,J,U,Y,Z,x4,W,e,hv⟩:=bW none;exact⟨v,J,U,Y,Z,x4,W,o6 (xc1 e0) (iU hb e),hv⟩
 |true =>
  obtain⟨w,v,ok,e1⟩:=C.tried R t g (hf rfl);by_cases q:w=h
  .subst q;refine⟨_,_,_,_,_,_,_,o6 (xc1 e0) (jk hb (cg (ab rfl e1) (jk (by cases w<;>rfl) (o5 rfl)))),ok.wp.le (by omega)⟩
  .obtain⟨v',J,U,Y,Z,x4,W,e,hv⟩:=bW (sv (.tup [.str (af w),v]));exact⟨v',J,U,Y,Z,x4,W,o6 (xc1 e0) (fM (l:=[some (.mutD (.p n1)),sv (ofR R),sv (.str (af t)),sv (.str (af h)),sv (.int j),sv (.int p),sv (.tup [.str (af w),v])]) (by refine(aU hb).trans ?_;exact cg (ab rfl e1) (vM (by cases w<;>cases h<;>first|rfl|exact absurd rfl q) rfl)) e),hv⟩
theorem r9:∀(j n:Nat),jm (aa defs (n+3*j+8)) j
 |0,n=>uh (n+7) 0 (lV (n+1)) λi h=>by cases h
 |j+1,n=>by
  have k:∀ns R h,SmR R->∃v z,aa defs (n+3*j+9) (60+2000) [.mutD (.p ns),.val (ofR R),.val (.str (af h))]=some (.tup [v,.dI (.p z)])/\WP 8 v:=λns R h g=>By (n+3*j+8) (lV (n+3*j+2)) (r9 0 (n+3*j)) ns R g h
  exact uh (n+3*j+10) (j+1) (lV (n+3*j+4)) λi h=>by
   cases h;have G:jm (aa defs (n+3*j+9)) j:=by have:=r9 j (n+1);rwa[show n+1+3*j+8=n+3*j+9 by omega]at this
   exact⟨yz (n+3*j+9) j (lV (n+3*j+3)) G k,ug (n+3*j+9) j (lV (n+3*j+3)) G k⟩
def jn(R)(h):0<=aD R h:=by
 unfold aD
 induction R with
 |nil=>simp
 |cons s R ih =>
  rw[uw,sum_cons];have:0<=(if h∈s then wgt s else 0):=by
   split
   .exact Int.le_of_lt (Int.pow_pos (by decide))
   .exact NX _
  omega
def jo{R:LL} :0<aD R h ↔ ∃s∈R,h∈s:=by
 unfold aD
 induction R with
 |nil=>simp
 |cons s R ih =>
  rw[uw,sum_cons];have z:0<=(R.map λs=>if h∈s then wgt s else 0).sum:=jn R h;have wp:0<wgt s:=Int.pow_pos (by decide);by_cases hs:h∈s
  .rw[if_pos hs];exact⟨λ_=>⟨s,.head _,hs⟩,λ_=>by omega⟩
  .simp_all
noncomputable def r_:Option Int->PV
 |none=>.non
 |some i=>.int i
noncomputable def bH(f:Int->Int)(b:Option Int)(h:Int):Option Int:=match b with
 |none=>some h
 |some c=>if f c<f h then some h else some c
noncomputable def dN(f:Int->Int):List Int:=((range 60).map λ(k:Nat)=>(k:Int)).filter λh=>decide (0<f h)
def ip(f):(dN f).Pairwise (· < ·):=by
 refine Pairwise.filter _ (pairwise_map.mpr (pairwise_lt_range.imp λ{a b} q=>by omega))
def ui{R:LL}(g:∀s∈R,bT s)(h:ii d (λk=>∃s∈R,k∈s)):sortI (d.map (·.1))=dN (aD R):=by
 have p:(d.map (·.1)).Perm (dN (aD R)):=by
  refine(Lq h.1 (dG (ip _))).mpr λk=>?_
  rw[h.2 k];unfold dN;rw[KG,K1,jo];refine⟨λq=>⟨?_,q⟩,λq=>q.2⟩;obtain⟨s,hs,z⟩:=q;have:=(g s hs).2 k z;exact mem_map.mpr ⟨k.toNat,Mx.mpr (by omega),by omega⟩
 rw[sortI_of_perm p,sortI_id ((ip _).imp λ{a b} q=>by omega)]
theorem jQ(cal)(a)(d)(f)(hd:iJ d f):∀(xs:List Int) b y,(∀x∈xs,bS d x≠none)->(∀c,b=some c->bS d c≠none) ->
  ∃y',aq (λx l=>exs cal cO (put l 3 (.val x))) (xs.map .int) [a,sv (.dI (.k d)),sv (r_ b),y]=.next [a,sv (.dI (.k d)),sv (r_ (xs.foldl (bH f) b)),y']
 | [],b,y,_,_=>⟨y,rfl⟩
 |x::xs,b,y,hx,U=>by
  have Y:∀z,bS d z≠none->bS d z=some (.int (f z)):=λz q=>by
   cases e:bS d z with
   |none=>exact absurd e q
   |some s=>rw[hd.2 z s e]
  have Z:=Y x (hx x (.head _));rw[uw,aq];have e:exs cal cO (put [a,sv (.dI (.k d)),sv (r_ b),y] 3 (.val (.int x)))=.next [a,sv (.dI (.k d)),sv (r_ (bH f b x)),sv (.int x)]:=by
   cases b with
   |none=>simp[cO,exs,ex,ev,evB,r_,bH,jK]
   |some c =>
    have e2:=Y c (U c rfl);by_cases q:f c<f x
    .simp[cO,exs,ex,ev,evB,r_,bH,jK,Z,e2,q]
    .simp[cO,exs,ex,ev,evB,r_,bH,jK,Z,e2,q]
  rw[e];refine jQ cal a d f hd xs (bH f b x) _ (λz hz=>hx z (.tail _ hz)) λc hc=>?_
  cases b with
  |none=>cases hc;exact hx x (.head _)
  |some J =>
   have hc:(if f J<f x then some x else some J)=some c:=hc;by_cases q:f J<f x
   .rw[if_pos q]at hc;cases hc;exact hx x (.head _)
   .rw[if_neg q]at hc;cases hc;exact U _ rfl
def vT(n)(R)(g:au R):aa defs (n+3) 23 [.val (ofR R)]=some (r_ ((dN (aD R)).foldl (bH (aD R)) none)):=by
 obtain⟨d,e,hd,Z⟩:=Dq n R g;have J:=ui g.1 Z;have hl:d.length<64:=by
  have:d.length=(dN (aD R)).length:=by rw[<- J,sortI_len,mx]
  rw[this];have aO:(dN (aD R)).length<=60:=oI 60 _ (dG (ip _)) λx hx=>by
   unfold dN at hx;obtain⟨k,J,rfl⟩:=mem_map.mp (KG.mp hx).1;have:=Mx.mp J;omega
  omega
 rw[ae (d:=oN) rfl rfl];have U:∀x∈dN (aD R),bS d x≠none:=λx hx z=>by
  rw[<- J,jw]at hx;exact Bd.mp z hx
 obtain⟨y,Y⟩:=jQ (aa defs (n+2)) (sv (ofR R)) d (aD R) hd (dN (aD R)) none none U (λc z=>by cases z);rw[show r_ none=.non from rfl]at Y;have hs:(evs (aa defs (n+2)) [.blt .sortedKeys [.bor 1]] [sv (ofR R),sv (.dI (.k d)),sv .non,none]).bind (bg .seq)=some ((dN (aD R)).map .int):=by
  simp[evs,ev,hl,J]
 show aX (exs (aa defs (n+2)) (_::_::_::[_]) [sv (ofR R),none,none,none])=_;simp only[al];rw[iI (ab (vs:=[.val (ofR R)]) (by simp[evA]) e),aS];simp only[cb,cc];rw[iI (v:=.non) (by simp[ev]),aS];simp only[cb,cc];rw[cQ hs,show ∀W,bu [.blt .sortedKeys [.bor 1]] W=W from λ_=>rfl,Y,cN,aS];simp[exs,ex,ev,aM]
theorem qx(f):∀xs b,(xs.foldl (bH f) b=none/\xs=[]/\b=none)\/∃r,xs.foldl (bH f) b=some r/\(r∈xs\/b=some r)/\(∀x∈xs,f x<=f r)/\∀c,b=some c->f c<=f r
 | [],none=>.inl ⟨rfl,rfl,rfl⟩
 | [],some c=>.inr ⟨c,rfl,.inr rfl,λx hx=>(by cases hx),λd e=>by cases e;exact NX _⟩
 |x::xs,b=>by
  rw[foldl_cons];rcases qx f xs (bH f b x)with⟨_,_,h⟩|⟨r,h1,h2,U,z⟩
  .cases b with
   |none=>cases h
   |some c =>
    have h:(if f c<f x then some x else some c)=none:=h;split at h<;>cases h
  .refine .inr ⟨r,h1,?_,?_,?_⟩
   .rcases h2 with h2|h2
    .exact .inl (.tail _ h2)
    .cases b with
     |none=>cases h2;exact .inl (.head _)
     |some c =>
      have h2:(if f c<f x then some x else some c)=some r:=h2;split at h2
      .cases h2;exact .inl (.head _)
      .exact .inr h2
   .intro y J;rcases wh.mp J with rfl|J
    .cases b with
     |none=>exact z _ rfl
     |some c =>
      by_cases q:f c<f y
      .exact z y (if_pos q)
      .have:=z c (if_neg q);omega
    .exact U y J
   .intro c e;subst e;by_cases q:f c<f x
    .have:=z x (if_pos q);omega
    .exact z c (if_neg q)
def sa{R:LL}(g:∀s∈R,bT s):dN (aD R)=ac R:=by
 have p:(ac R).Perm (dN (aD R)):=by
  refine(Lq (dG (fL R)) (dG (ip _))).mpr λk=>?_
  unfold dN;rw[aK,KG,K1,jo];refine⟨λq=>⟨?_,q⟩,λq=>q.2⟩;obtain⟨s,hs,z⟩:=q;have:=(g s hs).2 k z;exact mem_map.mpr ⟨k.toNat,Mx.mpr (by omega),by omega⟩
 rw[<- sortI_id ((ip (aD R)).imp λ{a b} q=>by omega),<- sortI_of_perm p,sortI_id ((fL R).imp λ{a b} q=>by omega)]
theorem km(f):∀(hs:List Int) r,(∀h∈hs,0<f h)->(hs.foldl (iQ f) (r,r.elim 0 f)).1=hs.foldl (bH f) r
 | [],_,_=>rfl
 |h::hs,r,z=>by
  rw[foldl_cons,foldl_cons,<- km f hs (bH f r h) λx hx=>z x (.tail _ hx)];have:iQ f (r,r.elim 0 f) h=(bH f r h,(bH f r h).elim 0 f):=by
   cases r with
   |none=>exact if_pos (z h (.head _))
   |some c =>
    show(if f c<f h then(some h,f h)else(some c,f c))=(if f c<f h then some h else some c,(if f c<f h then some h else some c).elim 0 f);split<;>rfl
  rw[this]
def xi(n)(R)(g:au R):aa defs (n+3) 23 [.val (ofR R)]=some (cq (cV R)):=by
 rw[vT n R g,sa g.1];have:cV R=(ac R).foldl (bH _) none:=km _ _ none λh z=>jo.mpr (aK.mp z)
 rw[this];cases (ac R).foldl (bH _) none<;>rfl
def qy(R):(cV R=none/\ac R=[])\/∃r,cV R=some r/\r∈ac R/\∀x,aD R x<=aD R r:=by
 have e:=km (aD R) (ac R) none λh J=>jo.mpr (aK.mp J)
 rcases qx (aD R) _ none with⟨h1,h2,_⟩|⟨r,h1,h2,U,_⟩
 .exact .inl ⟨e.trans h1,h2⟩
 .refine .inr ⟨r,e.trans h1,h2.resolve_right (λz=>by cases z),λx=>?_⟩;by_cases q:x∈ac R
  .exact U x q
  .have:=jn R r;have:¬ 0<aD R x:=λz=>q (aK.mpr (jo.mp z))
   omega
def uj:∀{a b:List Int},a.Perm b->a.sum=b.sum:=by
 intro a b p
 induction p with
 |nil=>rfl
 |cons x _ ih=>rw[sum_cons,sum_cons,ih]
 |swap x y l=>simp[sum_cons];omega
 |trans _ _ h1 h2=>rw[h1,h2]
def sd(hs:h∉s):drp h s=s:=
 LR.mpr λx hx=>by
  have:¬ x=h:=λe=>hs (e▸hx)
  simp[this]
theorem xj :∀{s},s.Nodup->h∈s->(drp h s).length+1=s.length
 |x::s,J,U=>by
  obtain⟨h1,h2⟩:=K7.mp J;by_cases e:x=h
  .subst e;unfold drp;rw[Ll (by simp)];have:=sd h1;unfold drp at this;rw[this,length_cons]
  .unfold drp;rw[LH (by simpa using e),length_cons,length_cons];have:=xj h2 ((wh.mp U).resolve_left λz=>e z.symm);unfold drp at this;omega
def xk(g:bT s)(z:h∈s):wgt (drp h s)=wgt s+wgt s:=by
 have h1:=xj (dG g.1) z;have h2:=aJ g;unfold wgt;rw[show 60-(drp h s).length=(60-s.length)+1 by omega,Int.pow_succ];omega
def mC{R:LL}(g:∀s∈R,bT s)(h):((cB h R).map wgt).sum=(R.map wgt).sum+aD R h:=by
 unfold cB aD;rw[uj ((sortT_perm _).map wgt),Kx]
 induction R with
 |nil=>rfl
 |cons s R ih =>
  rw[uw,sum_cons,uw,sum_cons,uw,sum_cons,ih λt J=>g t (.tail _ J)];have:wgt (drp h s)=wgt s+if h∈s then wgt s else 0:=by
   by_cases z:h∈s
   .rw[if_pos z,xk (g s (.head _)) z]
   .rw[if_neg z,sd z,Int.add_zero]
  show wgt (drp h s)+_=_;omega
def ul(R)(h):((bt h R).map wgt).sum+aD R h=(R.map wgt).sum:=by
 unfold bt aD
 induction R with
 |nil=>rfl
 |cons s R ih =>
  rw[uw,sum_cons,uw,sum_cons]
  grind
def pf{R:LL}{h k:Int}:(∃s∈cB h R,k∈s)->(∃s∈R,k∈s)/\k≠h:=by
 rintro ⟨s,hs,z⟩;obtain⟨t,J,rfl⟩:=mem_map.mp (dw.mp hs);obtain⟨h1,h2⟩:=KG.mp z;exact⟨⟨t,J,h1⟩,by simpa using h2⟩
def yA(R:LL)(a b:Int):ik R a b=ik R b a:=by
 unfold ik;refine KN (λl:LL=>(l.length:Int)) (filter_congr λs _=>Bool.and_comm _ _)
def BA{R:LL}{M:Int}(h:mK R M){a b:Int}(z:a≠b):ik R a b<=M:=by
 by_cases q:a<b
 .exact h.2.2 a b q
 .rw[yA];exact h.2.2 b a (by omega)
def xl{R J:LL}{M U:Int}(h:mK R M)(h':mK J U)(hc:∀a b,a<b->ik J a b<=ik R a b):U<=M:=by
 rcases h'.2.1 with e|⟨a,b,z,_,e⟩
 .have:=h.1;omega
 .have:=hc a b z;have:=h.2.2 a b z;omega
def qz(R:LL)(h a b:Int):ik (cB h R) a b<=ik R a b:=by
 unfold ik cB;rw[((sortT_perm _).filter _).length_eq,List.filter_map,mx];have:∀R:LL,(R.filter ((λs=>decide (a∈s)&&decide (b∈s))∘drp h)).length<=(R.filter λs=>decide (a∈s)&&decide (b∈s)).length:=λR=>by
  induction R with
  |nil=>exact g4 _
  |cons s R ih =>
   by_cases q:((λs=>decide (a∈s)&&decide (b∈s))∘drp h) s=true
   .have z:(decide (a∈s)&&decide (b∈s))=true:=by
     have:(decide (a∈drp h s)&&decide (b∈drp h s))=true:=q;rw[gQ,K1,K1]at this ⊢;exact⟨(KG.mp this.1).1,(KG.mp this.2).1⟩
    rw[LH q,LH (p:=λs=>decide (a∈s)&&decide (b∈s)) z,length_cons,length_cons];omega
   .rw[Ll q];by_cases z:(decide (a∈s)&&decide (b∈s))=true
    .rw[LH (p:=λs=>decide (a∈s)&&decide (b∈s)) z,length_cons];omega
    .rw[Ll (p:=λs=>decide (a∈s)&&decide (b∈s)) z];exact ih
 have:=this R;omega
def yB(R:LL)(x a b:Int):ik (bt x R) a b<=ik R a b:=by
 unfold ik bt;have:=(Sublist.filter (λs=>decide (a∈s)&&decide (b∈s)) (filter_sublist (l:=R) (p:=λz=>!decide (x∈z)))).length_le;omega
def xm(R:LL)(x h:Int):Int:=(R.map λs=>if x∈s/\h∈s then wgt s else 0).sum
def yC{R:LL}(g:∀s∈R,bT s){x h:Int}(hx:x≠h):aD (cB h R) x=aD R x+xm R x h:=by
 unfold cB aD xm;rw[uj ((sortT_perm _).map _),Kx]
 induction R with
 |nil=>rfl
 |cons s R ih =>
  rw[uw,sum_cons,uw,sum_cons,uw,sum_cons,ih λt Y=>g t (.tail _ Y)];have e:(if x∈drp h s then wgt (drp h s)else 0)=(if x∈s then wgt s else 0)+if x∈s/\h∈s then wgt s else 0:=by
   have U:x∈drp h s ↔ x∈s:=by
    unfold drp;rw[KG];simp[hx]
   by_cases q:x∈s
   .rw[if_pos (U.mpr q),if_pos q];by_cases J:h∈s
    .rw[if_pos ⟨q,J⟩,xk (g s (.head _)) J]
    .rw[if_neg λz=>J z.2,sd J,Int.add_zero]
   .rw[if_neg λz=>q (U.mp z),if_neg q,if_neg λz=>q z.1,Int.add_zero]
  show(if x∈drp h s then wgt (drp h s)else 0)+_=_;omega
def DC{s:List Int}{x h:Int}(hx:x∈s)(z:h∈s)(J:x≠h):wgt s<=288230376151711744:=by
 have Z:2<=s.length:=by
  match s,hx,z with
  | [y],hx,z =>
   have U:=KL.mp hx;have Y:=KL.mp z;exact absurd (U.trans Y.symm) J
  | _::_::_,_,_=>simp
 unfold wgt;have e:(288230376151711744:Int)=2 ^ 58:=by decide
 rw[e];have:(2:Nat) ^ (60-s.length)<=2 ^ 58:=Nat.pow_le_pow_right (by decide) (by omega);have h2:((2 ^ (60-s.length):Nat):Int)<=((2 ^ 58:Nat):Int):=by omega
 rw[Int.natCast_pow,Int.natCast_pow]at h2;exact h2
def BB(R:LL){x h:Int}(z:x≠h):xm R x h<=288230376151711744*ik R x h:=by
 unfold xm ik
 induction R with
 |nil=>simp
 |cons s R ih =>
  rw[uw,sum_cons];by_cases q:x∈s/\h∈s
  .rw[if_pos q,LH (by simpa using q),length_cons];have:=DC q.1 q.2 z;omega
  .rw[if_neg q,Ll (by simpa using q)];omega
def qA{R J:LL}{k:Nat}(xs:List Int)(hx:xs.Nodup)(h1:∀x∈xs,∃s∈R,x∈s)(h2:∀y,(∃s∈J,y∈s)->(∃s∈R,y∈s)/\y∉xs)(hk:xs.length=k):(ac J).length+k<=(ac R).length:=by
 have p:(ac J++xs).Nodup:=Mw.mpr ⟨dG (fL J),hx,λa ha b hb e=>by subst e;exact(h2 a (aK.mp ha)).2 hb⟩;have sub:ac J++xs ⊆ ac R:=λy z=>by
  rcases LS.mp z with z|z
  .exact aK.mpr (h2 y (aK.mp z)).1
  .exact aK.mpr (h1 y z)
 have gen:∀(a b:List Int),a.Nodup->a ⊆ b->a.length<=b.length:=λa=>by
  induction a with
  |nil=>intro b _ _;exact KI _
  |cons x a ih =>
   intro b hn hs;obtain⟨n1,n2⟩:=K7.mp hn;have U:x∈b:=hs (.head _);have:=ih (b.erase x) n2 λy z=>by
    have Y:y≠x:=λe=>n1 (e▸z)
    exact(mem_erase_of_ne Y).mpr (hs (.tail _ z))
   rw[length_erase_of_mem U]at this;have Z:=length_pos_of_mem U;rw[length_cons];omega
 have:=gen _ _ p sub;rw[tf,hk]at this;exact this
def um{a b c d:Int}(h1:a<=b)(h2:c<=d)(z:0<=c)(J:0<=b):a*c<=b*d:=Int.mul_le_mul h1 h2 z J
def pg{R:LL}{h J:Int}(g:au R)(H:oV R)(z:mK (cB h R) J):oV (cB h R):=by
 obtain⟨M,U,hw⟩:=H;refine⟨J,z,?_⟩;rw[mC g.1 h];have Z:=jn R h;have m1:=xl U z λa b _=>qz R h a b
 have m0:=U.1;have m2:=z.1;have hh:(ac (cB h R)).length+0<=(ac R).length:=qA [] LN (λx hx=>by cases hx) (λy Y=>⟨(pf Y).1,by simp⟩) rfl;have q1:1152921504606846976*J*(((ac (cB h R)).length:Int) / 2)<=1152921504606846976*M*(((ac R).length:Int) / 2):=um (by omega) (by omega) (by omega) (by omega);omega
def vU{R:LL}{h x M' M2:Int}(g:au R)(H:oV R)(hh:∃s∈R,h∈s)(U:∀y,aD R y<=aD R h)(a0:mK (cB h R) M')(Y:mK (bt x (cB h R)) M2):oV (bt x (cB h R)):=by
 by_cases hx:∃s∈cB h R,x∈s
 .obtain⟨a1,J⟩:=pf hx;obtain⟨M,hM,hw⟩:=H;refine⟨M2,Y,?_⟩;have w1:=ul (cB h R) x;have w2:=mC g.1 h;have w3:=yC g.1 J;have w4:=BB R J;have w5:=BA hM J;have w6:=U x;have m1:=xl hM Y λa b _=>NT (yB _ x a b) (qz R h a b)
  have m0:=hM.1;have m2:=Y.1;have hl:(ac (bt x (cB h R))).length+2<=(ac R).length:=qA [h,x] (by simp;exact λe=>J e.symm) (λy hy=>by
    simp only[wh,LU,MC]at hy;rcases hy with rfl|rfl
    .exact hh
    .exact a1) (λy hy=>by
    obtain⟨s,hs,Z⟩:=hy;obtain⟨a3,ao⟩:=KG.mp hs;obtain⟨r1,r2⟩:=pf ⟨s,a3,Z⟩;refine⟨r1,?_⟩;simp only[wh,LU,MC,not_or];refine⟨r2,λe=>?_⟩;subst e;simp at ao;exact ao Z) rfl
  have q1:1152921504606846976*M2*(((ac (bt x (cB h R))).length:Int) / 2)<=1152921504606846976*M*(((ac R).length:Int) / 2-1):=um (by omega) (by omega) (by omega) (by omega);rw[Int.mul_sub,Int.mul_one]at q1;omega
 .have e:bt x (cB h R)=cB h R:=LR.mpr λs hs=>by
   have:x∉s:=λz=>hx ⟨s,hs,z⟩
   simpa using this
  rw[e];exact pg g H a0
def xn{R:LL}(g:au R)(H:hv R=true):(decide ([]∈bhd false R (cV R))||(hv (bhd false R (cV R))&&(ac (bhd false R (cV R))).all λh=>hv (bt h (bhd false R (cV R)))))=true:=by
 have H:=lT.mp H;rcases qy R with⟨e,U⟩|⟨r,e,Z,hb⟩
 .rw[e];obtain⟨M,_,hw⟩:=H;rw[U]at hw;cases R with
  |nil=>simp at hw
  |cons s R =>
   cases s with
   |nil=>rw[Ky (show []∈bhd false ([]::R) none from .head _)];rfl
   |cons x s =>
    have:=aK.mpr ⟨x::s,.head R,.head s⟩;rw[U]at this;cases this
 .rw[e];have Y:au (cB r R):=qu g;obtain⟨M',_,z⟩:=gL 0 (cB r R) Y;show(decide ([]∈cB r R)||(hv (cB r R)&&(ac (cB r R)).all λh=>hv (bt h (cB r R))))=true;rw[lT.mpr (pg g H z),Lm.mpr λx _=>?_]
  .simp
  .obtain⟨M2,_,J⟩:=gL 0 (bt x (cB r R)) (dR Y);exact lT.mpr (vU g H (aK.mp Z) hb z J)
def GAt(v:PV)(R:LL)(t h:Bool)(N:Nat)(b:Bool):Prop:=aa defs N 37 [.val v,.val (ofR R),.val (.str (af t)),.val (.str (af h))]=some (.bl b)
def Jl(hv:t4 v)(R)(g:au R)(z:R.flatten.length<=1000)(t h):∃b,∀n,GAt v R t h (n+6) b:=by
 rcases hv with rfl|rfl|rfl|⟨P,h1,h2,rfl⟩
 .exact⟨_,λn=>rW _ R t h⟩
 .exact⟨_,λn=>jy _ R t h⟩
 .obtain⟨M,J,_⟩:=b7 0 R g;exact⟨_,λn=>im n R g z J t h⟩
 .exact⟨_,λn=>nc _ R P h1 h2 g t h⟩
def jC(p:WP d v):∀R,au R->R.flatten.length<=1000->∀t h,∃b,∀N,3*d+8<=N->GAt v R t h N b:=by
 induction p with
 | @leaf d v hv =>
  intro R g Y t h;obtain⟨b,a⟩:=Jl hv R g Y t h;refine⟨b,λN J=>?_⟩;obtain⟨n,rfl⟩:=upN 6 J;exact a n
 | @one d v k r hk hv ih =>
  intro R g Y t h;obtain⟨b,a⟩:=ih (bhd k R r) (bQ g r) (pe (eI k R r) Y) (!k) k;refine⟨(h==k)&&(t==k)&&b,λN J=>?_⟩;obtain⟨n,rfl⟩:=upN 6 J;exact rX g k r t h (a (n+3) (by omega))
 | @cases d rows hl hq hr ih =>
  intro R g Y t h;by_cases e:t=h
  .subst e;refine⟨false,λN J=>?_⟩;obtain⟨n,rfl⟩:=upN 3 J;exact o3 n _ _ t
  .obtain rfl:t=!h:=by cases t<;>cases h<;>simp_all
   obtain⟨b,hb⟩:=ue λr U=>ih r U (bh2 h R r.1 r.2.1) (jg g _ _) (pe (jh h R _ _) Y) (!h) h
   refine⟨(if h=true then !decide ([]∈R)else !decide (ac R=[]))&&(decide (rows.map (·.1)=ac R)&&rows.all b),λN J=>?_⟩;obtain⟨n,rfl⟩:=upN 7 J;exact xa g Y h hl λr U=>hb r U (n+4) (by omega)
 | @parts d rows hl hs a2 hg hr ih =>
  intro R g Y t h;have key:∀r,∃b,r∈rows->∀N,3*d+8<=N->GAt r.2 r.1 false true N b:=λr=>by
   by_cases U:r∈rows
   .obtain⟨b,a⟩:=ih r U r.1 (hg r U).1 (pe (hg r U).2 (by decide)) false true;exact⟨b,λ_=>a⟩
   .exact⟨false,λz=>absurd z U⟩
  obtain⟨b,hb⟩:=MZ key;refine⟨h&&!t&&(o4 (rows.map (·.1)) R&&rows.all b),λN J=>?_⟩;obtain⟨n,rfl⟩:=upN 7 J;exact xb g Y hl hs (pe a2 (by decide)) (λr U=>⟨(hg r U).1,pe (hg r U).2 (by decide)⟩) t h λr U=>hb r U (n+4) (by omega)
 | @fewer d v A Z fA hv ih =>
  intro R g Y t h;obtain⟨b,a⟩:=ih A Z fA t false;refine⟨!h&&below A R&&b,λN J=>?_⟩;obtain⟨n,rfl⟩:=upN 6 J;exact ng Z g t h (a (n+4) (by omega))
 | @either d v w A B Z gB fA fB hv hw ih a3 =>
  intro R g Y t h;obtain⟨x,a⟩:=ih A Z fA false false;obtain⟨y,c⟩:=a3 B gB fB false false;refine⟨!h&&t&&(decide (ac A++ac B).Nodup&&below A R&&below B R&&(x&&y)),λN J=>?_⟩;obtain⟨n,rfl⟩:=upN 7 J;exact k_ Z gB g fA fB t h (a (n+4) (by omega)) (c (n+4) (by omega))
def fP(R):below R R=true:=fO λs hs=>⟨s,hs,cR.mpr λ_ z=>z⟩
def gr{A B C:LL}(h:below A B=true)(h':below B C=true):below A C=true:=fO λs hs=>by
 obtain⟨t,z,q⟩:=eJ h s hs;obtain⟨u,J,U⟩:=eJ h' t z;exact⟨u,J,cR.mpr λx hx=>cR.mp q x (cR.mp U x hx)⟩
def fk(k)(h:below A B=true)(r):below (bhd k A r) (bhd k B r)=true:=by
 cases r with
 |none=>exact h
 |some x =>
  refine fO λs hs=>?_
  cases k with
  |true =>
   obtain⟨h1,h2⟩:=KG.mp hs;obtain⟨t,J,q⟩:=eJ h s h1;exact⟨t,KG.mpr ⟨J,by simp at h2 ⊢;exact λz=>h2 (cR.mp q x z)⟩,q⟩
  |false =>
   obtain⟨U,h1,rfl⟩:=mem_map.mp (dw.mp hs);obtain⟨t,J,q⟩:=eJ h U h1;refine⟨drp x t,dw.mpr (mem_map.mpr ⟨t,J,rfl⟩),cR.mpr λy Y=>?_⟩;obtain⟨Z,y2⟩:=KG.mp Y;exact KG.mpr ⟨cR.mp q y Z,y2⟩
def tru{x:Option PV}(h:x=some (.bl a))(h':x=some (.bl b)):a=b:=by simp_all
theorem xo :∀{R:LL},(∀t∈R,t.length<=m)->R.flatten.length<=R.length*m
 | [],_=>by simp
 |t::R,h=>by
  have h1:=h t (.head _);have h2:=xo (R:=R) λt z=>h t (.tail _ z)
  rw[flatten_cons,tf,length_cons,Nat.succ_mul];omega
def StP(x:LL×PV):Prop:=au x.1/\x.1.flatten.length<=200/\WP 10 x.2
def iL{α:Type}{P:α->Prop}{xs:List α}{x:α}(h:∀y∈xs,P y)(hx:P x):∀y∈xs++[x],P y:=λy J=>by
 rcases LS.mp J with z|z
 .exact h y z
 .rw[KL.mp z];exact hx
abbrev fS(R:LL)(t h:Bool)(a0 a3 a4 a5 a6 a7 a9 z J:Option MV)(fs Z:List (LL×PV))(U Y:Option MV):Rho:=[a0,sv (.str (af t)),sv (.str (af h)),a3,a4,a5,a6,a7,sv (ofR R),a9,some (.own (fs.map aL)),some (.own (Z.map aL)),sv (.lst ((Z.map (·.1)).flatten.map ofS)),U,Y,z,J]
def uo(cal)(C:lb cal)(R)(g:SmR R)(t h)(a0 a3 a4 a5 a6 a7 a9 U Y)(Q)(Z:SmR Q)(fs J)(ck cl)(hf:fs.length<=100)(ok:∀x∈fs,StP x)(a1:∀x∈J,SmR x.1/\WP 5 x.2)(hr:J.length<=100)(hh:(J.map (·.1)).flatten.length<=100) :
  ∃fs' ao cr,exs cal dJ (put (fS R t h a0 a3 a4 a5 a6 a7 a9 U Y fs J ck cl) 13 (.val (ofR Q)))=.next (fS R t h a0 a3 a4 a5 a6 a7 a9 U Y fs' ao (sv (ofR Q)) cr)/\fs'.length<=fs.length+2/\(∀x∈fs',StP x)/\(∀x∈ao,SmR x.1/\WP 5 x.2)/\(ao=J\/∃v,ao=J++[(Q,v)]):=by
 have hc:∀W,evA cal [.bor 13] W=some [.val (ofR Q)]->ev cal (.cmp .lt (.blt .len [(.call 49 [.bor 13])]) (ci 5)) W=some (.bl (decide ((((ac Q).map PV.int).length:Int)<5))):=λW hA=>(cE (aE (ab hA (C.hol Q Z))) (fK _ _ _)).trans rfl
 by_cases q:(((ac Q).map PV.int).length:Int)<5
 .rw[Ky q]at hc;rw[mx]at q;obtain⟨w,v,cC,e1⟩:=C.tried Q t Z (by omega);obtain⟨w2,v2,cP,e2⟩:=C.tried Q false Z (by omega);have p1:=cC.wp;have p2:=cP.wp;have sR:StP (R,.tup [.str "fewer",ofR Q,v]):=⟨g.1,pe g.2.2 (by decide),(WP.fewer Q Z.1 (pe Z.2.2 (by decide)) p1).le (by decide)⟩;have sQ:StP (Q,v):=⟨Z.1,pe Z.2.2 (by decide),p1.le (by decide)⟩;have a2:∀xs:List (LL×PV),xs.length<=101->(xs.map aL).length<10000:=λxs hx=>by rw[mx];omega
  have s2:∃f1,f1.length<=fs.length+1/\(∀x∈f1,StP x)/\ex cal (.ite (.and (.cmp .eq (ix 14 0) (.bor 2)) (.cmp .eq (.bor 2) (cs "weaver"))) [.append 10 (.tup [.var 8,(.tup [(cs "fewer"),.var 13,(ix 14 1)])])] []) (fS R t h a0 a3 a4 a5 a6 a7 a9 U Y fs J (sv (ofR Q)) (sv (.tup [.str (af w),v])))=.next (fS R t h a0 a3 a4 a5 a6 a7 a9 U Y f1 J (sv (ofR Q)) (sv (.tup [.str (af w),v]))):=by
   by_cases z:w=false/\h=false
   .obtain⟨rfl,rfl⟩:=z;refine⟨fs++[(R,.tup [.str "fewer",ofR Q,v])],by rw[tf,length_singleton];omega,iL ok sR,(aU (p:=true) rfl).trans ?_⟩;unfold fS;rw[KS];exact cj (mq rfl rfl (a2 fs (by omega)))
   .exact⟨fs,by omega,ok,(aU (p:=false) (by cases w<;>cases h<;>first|rfl|exact absurd ⟨rfl,rfl⟩ z)).trans rfl⟩
  obtain⟨f1,l1,k1,s2⟩:=s2;have s3:∃f2,f2.length<=fs.length+2/\(∀x∈f2,StP x)/\ex cal (.ite (.cmp .eq (ix 14 0) (.bor 2)) [.append 10 (.tup [.var 13,(ix 14 1)])] []) (fS R t h a0 a3 a4 a5 a6 a7 a9 U Y f1 J (sv (ofR Q)) (sv (.tup [.str (af w),v])))=.next (fS R t h a0 a3 a4 a5 a6 a7 a9 U Y f2 J (sv (ofR Q)) (sv (.tup [.str (af w),v]))):=by
   by_cases z:w=h
   .subst z;refine⟨f1++[(Q,v)],by rw[tf,length_singleton];omega,iL k1 sQ,(aU (p:=true) (by cases w<;>rfl)).trans ?_⟩;unfold fS;rw[KS];exact cj (mq rfl rfl (a2 f1 (by omega)))
   .exact⟨f1,by omega,k1,(aU (p:=false) (by cases w<;>cases h<;>first|rfl|exact absurd rfl z)).trans rfl⟩
  obtain⟨f2,l2,k2,s3⟩:=s3;have ci:∀W,evA cal [.bor 13,cs "weaver"] W=some [.val (ofR Q),.val (.str (af false))]->∀i,ev cal (.idx (.call 53 [.bor 13,(cs "weaver")]) (ci i)) W=gZ (.tup [.str (af w2),v2]) (.int i):=λW hA i=>gK (ab hA e2) rfl
  cases w2 with
  |false =>
   refine⟨f2,J,_,cj ((aU (hc _ rfl)).trans (cg (ab rfl e1) (fM s2 (fM s3 (cj ((aU (p:=false) ((cE ((ci _ rfl 0).trans rfl) rfl).trans rfl)).trans rfl)))))),l2,k2,a1,.inl rfl⟩
  |true =>
   refine⟨f2,J++[(Q,v2)],sv (.tup [.str (af w),v]),cj ((aU (hc _ rfl)).trans (cg (ab rfl e1) (fM s2 (fM s3 (cj ((aU (p:=true) ((cE ((ci _ rfl 0).trans rfl) rfl).trans rfl)).trans ?_)))))),l2,k2,iL a1 ⟨Z,p2⟩,.inr ⟨v2,rfl⟩⟩;unfold fS;rw[KS,KS,Nv,KS];refine fM (mq rfl (d8 (bm rfl (bm ((ci _ rfl 1).trans rfl) rfl))) (a2 J (by omega))) (cg ((cf rfl rfl).trans ?_) rfl);show(if _ then _ else _)=_;rw[if_pos (by have:=Z.2.1;simp only[mx];omega)];simp
 .rw[KP q]at hc;exact⟨fs,J,_,cj ((aU (hc _ rfl)).trans rfl),by omega,ok,a1,.inl rfl⟩
def GN(h:evXs cal xs W=some (vs,l))(z:vs.length<=10000):ex cal (.ownX i xs) W=.next (put l i (.own vs)):=by
 rw[ex,h];exact if_pos z
theorem mD(cal)(C:lb cal)(R)(g:SmR R)(t h)(a0 a3 a4 a5 a6 a7 a9 Y Z):∀D fs U z J,(∀Q∈D,SmR Q)->fs.length+2*D.length<=100->(∀x∈fs,StP x)->(∀x∈U,SmR x.1/\WP 5 x.2)->U.length+D.length<=50->(U.map (·.1)).flatten.length+D.flatten.length<=50 ->
  ∃fs' ao b4 aO,aq (λx l=>exs cal dJ (put l 13 (.val x))) (D.map ofR) (fS R t h a0 a3 a4 a5 a6 a7 a9 Y Z fs U z J)=.next (fS R t h a0 a3 a4 a5 a6 a7 a9 Y Z fs' ao b4 aO)/\fs'.length<=100/\(∀x∈fs',StP x)/\(∀x∈ao,SmR x.1/\WP 5 x.2)/\(ao.map (·.1)).Sublist (U.map (·.1)++D)
 | [],fs,U,z,J,_,hf,ok,a1,_,_=>⟨fs,U,z,J,rfl,by simpa using hf,ok,a1,by simp⟩
 |Q::D,fs,U,z,J,hD,hf,ok,a1,hr,hh=>by
  rw[length_cons]at hf hr;rw[flatten_cons,tf]at hh;obtain⟨f1,r1,aO,e,l1,k1,kr,q⟩:=uo cal C R g t h a0 a3 a4 a5 a6 a7 a9 Y Z Q (hD Q (.head _)) fs U z J (by omega) ok a1 (by omega) (by omega);have b:r1.length+D.length<=50/\(r1.map (·.1)).flatten.length+D.flatten.length<=50/\(r1.map (·.1)++D).Sublist (U.map (·.1)++Q::D):=by
   rcases q with rfl|⟨v,rfl⟩
   .exact⟨by omega,by omega,(Sublist.refl _).append (sublist_cons_self Q D)⟩
   .refine⟨by rw[tf,length_singleton];omega,?_,?_⟩
    .rw[KS,Nv,tf];simp;simp at hh;omega
    .rw[KS,Lf];exact Sublist.refl _
  obtain⟨f2,r2,b5,cd,e2,l2,k2,ck,sl⟩:=mD cal C R g t h a0 a3 a4 a5 a6 a7 a9 Y Z D f1 r1 (sv (ofR Q)) aO (λq hq=>hD q (.tail _ hq)) (by omega) k1 kr b.1 b.2.1;refine⟨f2,r2,b5,cd,?_,l2,k2,ck,sl.trans b.2.2⟩;rw[uw,aq,e];exact e2
def ph{α:Type}{A B:List (List α)}(h:A.Sublist B):A.flatten.Sublist B.flatten:=by
 induction h with
 |slnil=>exact .slnil
 |cons a _ ih=>exact ih.trans (sublist_append_right _ _)
 |cons_cons a _ ih=>exact(Sublist.refl a).append ih
abbrev f9(ns:List Int)(t h:Bool)(z J room:Int)(cells:List Int)(S:List PV)(R:LL)(p:List Int)(r:Rho):Rho:=some (.brw (ns.map .int))::sv (.str (af t))::sv (.str (af h))::sv (.int z)::sv (.int J)::sv (.int room)::sv (ofL cells)::sv (.lst S)::sv (ofR R)::some (.ownD (.p p))::r
def uq(ns:List Int)(hl:ns.length<=63)(t h):∃xs:List (LL×PV),aa defs 79 64 [.brw (ns.map .int),.val (.str (af t)),.val (.str (af h))]=some (.lst (xs.map aL))/\xs.length<=102/\∀x∈xs,StP x:=by
 have w0:0<=eX (cellOf ns 0) 1865811235122147685:=iH _ _;have b0:0<=eX (cellOf ns 1) 1442695040888963407:=iH _ _;have e1:=vQ 76 ns 0 1865811235122147685 (by decide);have e2:=vQ 76 ns 1 1442695040888963407 (by decide);generalize eX (cellOf ns 0) 1865811235122147685=U at w0 e1;generalize eX (cellOf ns 1) 1442695040888963407=J at b0 e2;obtain⟨room,r0,r1,e3⟩:∃room,0<=room/\room<=8/\∀a0 a1 a2 W,ev (aa defs 78) (.idx (.lst [(ci 3),(ci 8)]) (.bin .mod (.bor 3) (ci 2))) (a0::a1::a2::sv (.int U)::W)=some (.int room):=by
  have e:∀a0 a1 a2 W,ev (aa defs 78) (.idx (.lst [(ci 3),(ci 8)]) (.bin .mod (.bor 3) (ci 2))) (a0::a1::a2::sv (.int U)::W)=gZ (.lst [.int 3,.int 8]) (.int (U % 2)):=λ_ _ _ W=>gK rfl ((cf rfl rfl).trans rfl)
  obtain q|q:U % 2=0\/U % 2=1:=by omega
  .exact⟨3,by decide,by decide,λ_ _ _ W=>(e _ _ _ W).trans (by rw[q];rfl)⟩
  .exact⟨8,by decide,by decide,λ_ _ _ W=>(e _ _ _ W).trans (by rw[q];rfl)⟩
 have hc:=A_ ns (a:=2) (b:=2+room) (by decide) (by omega);have e4:∀a1 a2 a3 a4 W,ev (aa defs 78) (.slice (.bor 0) (ci 2) (.bin .add (ci 2) (.bor 5))) (some (.brw (ns.map .int))::a1::a2::a3::a4::sv (.int room)::W)=some (ofL (rK ns (some 2) (some (2+room)))):=λ_ _ _ _ W=>by
  show some (PV.lst (cut (ns.map .int) (some 2) (some (2+room))))=_;rw[tU]
 generalize rK ns (some 2) (some (2+room))=cells at hc e4;have eS:cells.length<=8:=by omega
 have m1:=LD J (b:=49) (by decide);have m2:=Lx J (b:=49) (by decide);have key:∀c,∃s,(bT s/\s.length<=4)/\aa defs 78 54 [.val (.int c),.val (.int (J % 49)),.val (.int (3+J / 49 % 2)),.val (.int (J / 98 % 3))]=some (ofS s):=λc=>Dy 76 c _ _ _ m1 (by omega) (by omega) (by omega) (by omega) (by omega)
 obtain⟨f,hf⟩:=MZ key;have gS:∀t∈sortT (cells.map f),bT t/\t.length<=4:=λt ht=>by
  obtain⟨c,_,rfl⟩:=mem_map.mp (dw.mp ht);exact(hf c).1
 have hL:(sortT (cells.map f)).length=cells.length:=by rw[sortT_len,mx]
 have g:SmR (sortT (cells.map f)):=by
  have:=xo (R:=sortT (cells.map f)) (m:=4) λt ht=>(gS t ht).2
  exact⟨⟨λt ht=>(gS t ht).1,sortT_rises _,by omega⟩,by omega,by omega⟩
 have e5:∀a0 a1 a2 a3 a5 W,ev (aa defs 78) (.comp .seq [.bor 6] [4] (.cst (.bl true)) (.call 54 [.bor 0,(.bin .mod (.bor 1) (ci 49)),(.bin .add (ci 3) (.bin .mod (.bin .fdiv (.bor 1) (ci 49)) (ci 2))),(.bin .mod (.bin .fdiv (.bor 1) (ci 98)) (ci 3))])) (a0::a1::a2::a3::sv (.int J)::a5::sv (ofL cells)::W)=some (.lst ((cells.map f).map ofS)):=λ_ _ _ _ _ W=>by
  rw[Kx];exact b8 (vs:=[ofL cells]) (g:=PV.int) (h:=ofS∘f) rfl rfl (by omega) λc _=>ab rfl (hf c).2
 have e6:∀a0 a1 a2 a3 a4 a5 a6 W,ev (aa defs 78) (.blt .tupleOf [(.blt .sorted [.bor 7])]) (a0::a1::a2::a3::a4::a5::a6::sv (.lst ((cells.map f).map ofS))::W)=some (ofR (sortT (cells.map f))):=λ_ _ _ _ _ _ _ W=>by
  refine(aE (v:=.lst ((sortT (cells.map f)).map ofS)) ?_).trans rfl;rw[aE (v:=.lst ((cells.map f).map ofS)) rfl,fF,iC,bind_some,fj (by rw[mx];omega)]
 generalize sortT (cells.map f)=R at g e6;generalize (cells.map f).map ofS=S at e5 e6;obtain⟨v,n1,dn,hv⟩:=r9 3 61 (rK ns (some (2+room)) none).reverse R t h g;have e7:∀a1 a2 a3 a4 W,ev (aa defs 78) (.slice (.bor 0) (.bin .add (ci 2) (.bor 5)) (.cst .non)) (some (.brw (ns.map .int))::a1::a2::a3::a4::sv (.int room)::W)=some (.lst ((rK ns (some (2+room)) none).map .int)):=λ_ _ _ _ W=>by
  rw[<- tU];rfl
 have C:=lV 72;obtain⟨D,eD,d1,d2,d3,gD⟩:=C.split R g;obtain⟨fs,rs,b1,b2,eL,l1,k1,kr,sl⟩:=mD (aa defs 78) C R g t h (some (.brw (ns.map .int))) (sv (.int U)) (sv (.int J)) (sv (.int room)) (sv (ofL cells)) (sv (.lst S)) (some (.ownD (.p n1))) none none D [(R,v)] [] none none gD (by simp;omega) (λx hx=>by rw[KL.mp hx];exact⟨g.1,pe g.2.2 (by decide),hv⟩) (λx hx=>by cases hx) (by simp;omega) (by simp;simp at d2;omega);rw[map_nil,nil_append]at sl;have hF:=(ph sl).length_le;have dt:=(ph (ph sl)).length_le;have fr:rs.length<=8:=by have:=sl.length_le;rw[mx]at this;omega
 have hP:WP 6 (.tup [.str "parts",.tup (rs.map aL)]):=.parts rs (by omega) (by omega) (by omega) (λr hr=>⟨(kr r hr).1.1,pe (kr r hr).1.2.2 (by decide)⟩) λr hr=>(kr r hr).2
 have gF:∀s∈(rs.map (·.1)).flatten,bT s:=λs hs=>by
  obtain⟨G,hG,hs⟩:=mem_flatten.mp hs;obtain⟨r,hr,rfl⟩:=mem_map.mp hG;exact(kr r hr).1.1.1 s hs
 have ea:∃Z,WP 7 Z/\∀a0 a3 a4 a5 a6 a7 a8 a9 cC cL ao cP cS c0,ex (aa defs 78) (.ite (.and (.cmp .eq (.bor 2) (cs "moth")) (.cmp .eq (.bor 1) (cs "moth"))) [.set 15 (.tup [(cs "bite"),.cst .non,.var 15])] []) [a0,sv (.str (af t)),sv (.str (af h)),a3,a4,a5,a6,a7,a8,a9,cC,cL,ao,cP,cS,sv (.tup [.str "parts",.tup (rs.map aL)]),c0]=.next [a0,sv (.str (af t)),sv (.str (af h)),a3,a4,a5,a6,a7,a8,a9,cC,cL,ao,cP,cS,sv Z,c0]:=by
  by_cases z:h=true/\t=true
  .obtain⟨rfl,rfl⟩:=z;exact⟨_,.one true none (λx e=>by cases e) hP,λ_ _ _ _ _ _ _ _ _ _ _ _ _ _=>(aU (p:=true) rfl).trans (cg rfl rfl)⟩
  .exact⟨_,hP.le (by decide),λ_ _ _ _ _ _ _ _ _ _ _ _ _ _=>(aU (p:=false) (by cases h<;>cases t<;>first|rfl|exact absurd ⟨rfl,rfl⟩ z)).trans rfl⟩
 obtain⟨Z,c1,eP⟩:=ea;generalize eb:(rs.map (·.1)).flatten=F at hF dt gF;have F8:F.length<=8:=by omega
 have fv:F.flatten.length<=60:=by omega
 have so:∀G W e,G.length<64->ev (aa defs 78) e W=some (.lst (G.map ofS))->ev (aa defs 78) (.blt .tupleOf [(.blt .sorted [e])]) W=some (ofR (sortT G)):=λG W e hG he=>by
  refine(aE (v:=.lst ((sortT G).map ofS)) ?_).trans rfl;rw[aE he,fF,iC,bind_some,fj hG]
 have c2:∀xs:List (LL×PV),xs.length<=101->(xs.map aL).length<10000:=λxs hx=>by rw[mx];omega
 have sF:StP (sortT F,Z):=⟨kf gF (by omega),by rw[kg];omega,c1.le (by decide)⟩;have ck:∀{X},aX (exs (aa defs 78) [.ite (.cmp .eq (.bor 2) (cs "moth")) [.append 10 (.tup [(.blt .tupleOf [(.blt .sorted [.bor 12])]),.var 15])] [],.ite (.and (.cmp .eq (.bor 2) (cs "moth")) (.cmp .gt (.blt .len [.bor 12]) (ci 0))) [.set 16 (.blt .tupleOf [(.blt .sortedSet [(.bin .add (.blt .listOf [(ix 12 0)]) (.lst [(.bin .mod (.bor 4) (ci 60))]))])]),.append 10 (.tup [(.blt .tupleOf [(.blt .sorted [(.bin .add (.bor 12) (.lst [.var 16]))])]),.var 15])] [],.retOwn 10] (f9 ns t h U J room cells S R n1 [some (.own (fs.map aL)),some (.own (rs.map aL)),sv (.lst (F.map ofS)),b1,b2,sv Z,none]))=X->aa defs 79 64 [.brw (ns.map .int),.val (.str (af t)),.val (.str (af h))]=X:=λ{X} hX=>by
  rw[ae (d:=dL) rfl rfl];rw[<- eb]at hX;have q1:∀{Y},aX (exs (aa defs 78) (dL.body.drop 11) (fS R t h (some (.brw (ns.map .int))) (sv (.int U)) (sv (.int J)) (sv (.int room)) (sv (ofL cells)) (sv (.lst S)) (some (.ownD (.p n1))) none none fs rs b1 b2))=Y->aX (exs (aa defs 78) (dL.body.drop 10) (fS R t h (some (.brw (ns.map .int))) (sv (.int U)) (sv (.int J)) (sv (.int room)) (sv (ofL cells)) (sv (.lst S)) (some (.ownD (.p n1))) none none [(R,v)] [] none none))=Y:=λ{Y} hY=>by
   refine cU (m:=.for1 13 .seq [(.call 58 [.bor 8])] dJ) ?_ hY;rw[cQ (xs:=D.map ofR) (vN (ab rfl eD))];show MM.R.back _ _ (aq _ _ (fS R t h (some (.brw (ns.map .int))) (sv (.int U)) (sv (.int J)) (sv (.int room)) (sv (ofL cells)) (sv (.lst S)) (some (.ownD (.p n1))) none none [(R,v)] [] none none))=_;rw[eL]
   rfl
  have q2:aX (exs (aa defs 78) (dL.body.drop 11) (fS R t h (some (.brw (ns.map .int))) (sv (.int U)) (sv (.int J)) (sv (.int room)) (sv (ofL cells)) (sv (.lst S)) (some (.ownD (.p n1))) none none fs rs b1 b2))=X:=aT (v:=.tup [.str "parts",.tup (rs.map aL)]) rfl (cU (eP _ _ _ _ _ _ _ _ _ _ _ _ _ _) hX);have q3:=q1 q2;have c3:evXs (aa defs 78) [(.tup [(.pure (.var 8)),(.call 63 [true,false,false,false,false] [.bor 9,.bor 8,.bor 1,.bor 2,(ci 3)])])] (f9 ns t h U J room cells S R (rK ns (some (2+room)) none).reverse [none,none,none,none,none,none,none])=some ([aL (R,v)],(f9 ns t h U J room cells S R n1 [none,none,none,none,none,none,none])):=gq (kh (cH rfl (gq (xcO rfl rfl rfl rfl rfl dn))));refine aT (e1 _) (aT (e2 _) (aT (e3 _ _ _ _) (aT (e4 _ _ _ _ _) (aT (e5 _ _ _ _ _ _) (aT (e6 _ _ _ _ _ _ _ _) (cU (GI (e7 _ _ _ _ _)) (cU (GN c3 (Nat.le_of_ble_eq_true rfl)) ?_)))))));exact cU (m:=.setOwn 11 (.lst [])) rfl (aT (v:=.lst []) rfl q3)
 cases h with
 |false=>exact⟨fs,ck (aA rfl (aA rfl rfl)),by omega,k1⟩
 |true =>
  have s1:∀ao,exs (aa defs 78) [.append 10 (.tup [(.blt .tupleOf [(.blt .sorted [.bor 12])]),.var 15])] (f9 ns t true U J room cells S R n1 [some (.own (fs.map aL)),some (.own (rs.map aL)),sv (.lst (F.map ofS)),b1,b2,sv Z,ao])=.next (f9 ns t true U J room cells S R n1 [some (.own ((fs++[(sortT F,Z)]).map aL)),some (.own (rs.map aL)),sv (.lst (F.map ofS)),b1,b2,sv Z,ao]):=λao=>by
   rw[KS];exact cj (mq rfl (d8 (bm (so F _ _ (by omega) rfl) (bm rfl rfl))) (c2 fs (by omega)))
  cases F with
  |nil =>
   exact⟨fs++[(sortT [],Z)],ck (cU ((aU (p:=true) rfl).trans (s1 none)) (aA rfl rfl)),by rw[tf,length_singleton];omega,iL k1 sF⟩
  |cons s F =>
   have gs:=gF s (.head _);have m0:=LD J (b:=60) (by decide);have m9:=Lx J (b:=60) (by decide);have eB:=aJ gs;have ec:(dd (s++[J % 60])).length<=(s++[J % 60]).length:=ig _;rw[tf,length_singleton]at ec;have gl:bT (sortI (dd (s++[J % 60]))):=⟨oH (dd_nodup _),λx hx=>by
    rcases LS.mp (i_.mp (jw.mp hx))with z|z
    .exact gs.2 x z
    .rw[KL.mp z];omega⟩
   have ll:(sortI (dd (s++[J % 60]))).length<=61:=by rw[sortI_len];omega
   have el:∀W,ev (aa defs 78) (.bor 12) W=some (.lst ((s::F).map ofS))->ev (aa defs 78) (.bor 4) W=some (.int J)->ev (aa defs 78) (.blt .tupleOf [(.blt .sortedSet [(.bin .add (.blt .listOf [(ix 12 0)]) (.lst [(.bin .mod (.bor 4) (ci 60))]))])]) W=some (ofS (sortI (dd (s++[J % 60])))):=λW ed h4=>by
    have i0:ev (aa defs 78) (ix 12 0) W=some (ofS s):=by
     rw[gK ed (fK _ _ _),A9,hZ (by decide) (by rw[mx,length_cons];omega)]
     rfl
    have i1:ev (aa defs 78) (.lst [(.bin .mod (.bor 4) (ci 60))]) W=some (.lst [.int (J % 60)]):=by
     rw[ev,bm ((cf h4 (fK _ _ _)).trans rfl) rfl]
     rfl
    have i2:ev (aa defs 78) (.bin .add (.blt .listOf [(ix 12 0)]) (.lst [(.bin .mod (.bor 4) (ci 60))])) W=some (.lst ((s++[J % 60]).map .int)):=by
     rw[cf ((aE i0).trans rfl) i1,KS];exact if_pos (by rw[mx,length_singleton];omega)
    refine(aE (v:=.lst ((sortI (dd (s++[J % 60]))).map .int)) ?_).trans rfl;rw[aE i2,pI,iC,bind_some,bq,bind_some,if_pos ⟨by rw[tf,length_singleton];omega,by omega⟩]
   have ee:∀W,ev (aa defs 78) (.bor 12) W=some (.lst ((s::F).map ofS))->ev (aa defs 78) (.cmp .gt (.blt .len [.bor 12]) (ci 0)) W=some (.bl true):=λW h=>by
    rw[cE (aE h) (fK _ _ _)];show some (PV.bl (decide ((0:Int)<(((s::F).map ofS).length:Nat))))=_;rw[Ky (by rw[mx,length_cons];omega)]
   have ad:∀W,ev (aa defs 78) (.bor 12) W=some (.lst ((s::F).map ofS))->ev (aa defs 78) (.var 16) W=some (ofS (sortI (dd (s++[J % 60]))))->ev (aa defs 78) (.bin .add (.bor 12) (.lst [.var 16])) W=some (.lst (((s::F)++[sortI (dd (s++[J % 60]))]).map ofS)):=λW h h'=>by
    rw[cf h (y:=.lst [ofS (sortI (dd (s++[J % 60])))]) (by rw[ev,bm h' rfl];rfl),KS];exact if_pos (by rw[mx,length_singleton];omega)
   have gG:∀x∈(s::F)++[sortI (dd (s++[J % 60]))],bT x:=iL gF gl;have sG:StP (sortT ((s::F)++[sortI (dd (s++[J % 60]))]),Z):=⟨kf gG (by rw[tf,length_singleton];omega),by rw[kg,Nv,tf,flatten_singleton];omega,c1.le (by decide)⟩;refine⟨(fs++[(sortT (s::F),Z)])++[(sortT ((s::F)++[sortI (dd (s++[J % 60]))]),Z)],ck (cU ((aU (p:=true) rfl).trans (s1 none)) (cU ((aU (p:=true) (dQ (p:=true) (q:=true) rfl λ_=>ee _ rfl)).trans (cg (el _ rfl rfl) (cj (mq rfl (d8 (bm (so ((s::F)++[sortI (dd (s++[J % 60]))]) _ _ (by rw[tf,length_singleton];omega) ?_) (bm rfl rfl))) (c2 (fs++[(sortT (s::F),Z)]) (by rw[tf,length_singleton];omega)))))) ?_)),by simp only[tf,length_singleton];omega,iL (iL k1 sF) sG⟩
   .exact ad _ rfl rfl
   .rw[KS (l₂:=[(sortT ((s::F)++[sortI (dd (s++[J % 60]))]),Z)])]
    rfl
def DE :u∈cB h A ↔ ∃s∈A,drp h s=u:=by
 unfold cB;rw[dw,mem_map]
def BC{cal:Cal}{c:PV}{es:List ME}{W:Rho}{vs:List MV}{m:MV}(h:evA cal [.cst c] W=some [m])(k:evA cal es W=some vs):evA cal (.cst c::es) W=some (m::vs):=by
 rw[evA,ev,bind_some,evA]at h;rw[evA,ev,bind_some,k]
 .simp at h ⊢;exact h
 all_goals exact nofun
def AAt(v:PV)(R:LL)(h:Bool)(N:Nat)(x:Int)(r:Option Int)(z:LL)(J:PV):Prop:=aa defs N 31 [.val v,.val (ofR R),.val (.str (af h)),.val (.int x)]=some (.tup [cq r,ofR z,J])
def BD (n) (R) (g:au R) (h) (x):AAt (.tup [.str "weight"]) R h (n+5) x (cV (bhd (!h) R (some x))) (bh2 h R x (cV (bhd (!h) R (some x)))) (.tup [.str "weight"]):=by
 unfold AAt;rw[ae (d:=kY) rfl rfl];have z:=xi (n+1) (bhd (!h) R (some x)) (bQ g _);have J:=fN (n+1) R g (!h) (some x);have U:=m_ (n+3) h;generalize cV (bhd (!h) R (some x))=r at z ⊢;have Y:=nh n R g h x r;cases r<;>exact aT rfl (GF rfl (cg (ab (cK (ab (mn rfl (cK (ab rfl U) rfl)) J) rfl) z) (qt (d8 (bm rfl (bm (ab rfl Y) (bm rfl rfl)))))))
theorem ur(cal)(J)(x):∀(z:List (Int×Option Int×PV)) y,∃U,aq (λv l=>exs cal fc (put l 2 (.val v))) (z.map aY) [J,sv (.int x),y]=match z.find? λr=>decide (r.1=x)with
  |some r=>.ret (aY r)
  |none=>.next [J,sv (.int x),U]
 | [],y=>⟨y,rfl⟩
 |r::z,y=>by
  obtain⟨U,e⟩:=ur cal J x z (sv (aY r));refine⟨U,?_⟩;rw[uw,aq];have c:ev cal (.cmp .eq (ix 2 0) (.bor 1)) [J,sv (.int x),sv (aY r)]=some (.bl (r.1==x)):=(cE (x:=.int r.1) (y:=.int x) rfl rfl).trans (by rw[AV,kS];rfl);rw[find?_cons];by_cases q:r.1=x
  .rw[Kv.mpr q]at c;rw[show exs cal fc (put [J,sv (.int x),y] 2 (.val (aY r)))=.ret (aY r)from D9 c rfl,Ky q]
  .rw[LP.mpr q]at c;rw[show exs cal fc (put [J,sv (.int x),y] 2 (.val (aY r)))=.next [J,sv (.int x),sv (aY r)]from vM c rfl,KP q];exact e
def Jm(n)(z:List (Int×Option Int×PV))(x:Int):aa defs (n+1) 32 [.val (.tup (z.map aY)),.val (.int x)]=some (((z.find? λr=>decide (r.1=x)).map aY).getD .non):=by
 rw[ae (d:=oP) rfl rfl];obtain⟨y,e⟩:=ur (aa defs n) (sv (.tup (z.map aY))) x z none;cases hf:z.find? λr=>decide (r.1=x)with
 |some r =>
  rw[hf]at e;exact KN aX (Bm (xs:=z.map aY) rfl e)
 |none =>
  rw[hf]at e;exact KN aX (my (xs:=z.map aY) rfl e (qt rfl))
def NAt(v:PV)(R:LL)(N:Nat)(m:Int):Prop:=aa defs N 36 [.val v,.val (ofR R)]=some (.int m)/\aa defs N 66 [.val v,.val (ofR R)]=some (.int m)
def se (n) (R):NAt (.tup [.str "whole"]) R (n+1) 0:=by
 constructor
 .rw[ae rfl rfl];exact aT rfl (aA rfl (aA rfl (aA rfl (aA rfl (aA rfl (gp rfl))))))
 .rw[ae rfl rfl];exact aA rfl (aA rfl (aA rfl (aA rfl (bx rfl rfl))))
def jp (n) (R) (g:au R) (z:R.flatten.length<=1000):NAt (.tup [.str "weight"]) R (n+3) (ac R).length:=by
 have e:∀{cal}{f}{W},ev cal (.call f [.bor 1]) W=some (ofL (ac R))->ev cal (.blt .len [(.call f [.bor 1])]) W=some (.int (ac R).length):=λh=>by
  rw[aE h]
  simp_all
 constructor
 .rw[ae (d:=ce) rfl rfl];exact aT rfl (bx rfl (e (ab rfl (cA n R g.1 z))))
 .rw[ae (d:=dM) rfl rfl];exact bx rfl (e (ab rfl (jx (n+1) R g.1)))
def BE {R:LL} (g:au R) (r) (h:NAt p (bhd false R r) (n+3) m):NAt (.tup [.str "knot",cq r,p]) R (n+4) (1+m):=by
 have z:=fN n R g false r;have J:=ni (n+1) R g false r;constructor
 .rw[ae (d:=ce) rfl rfl];exact aT rfl (aA rfl (bx rfl ((cf (x:=.int 1) (y:=.int m) rfl (ab (bi rfl (cK (ab rfl z) rfl)) h.1)).trans rfl)))
 .rw[ae (d:=dM) rfl rfl];exact aA rfl (bx rfl ((cf (x:=.int 1) (y:=.int m) rfl (ab (bi rfl (cK (ab rfl J) rfl)) h.2)).trans rfl))
def sf {A R:LL} (h:NAt p A n m):NAt (.tup [.str "fewer",ofR A,p]) R (n+1) m:=by
 constructor
 .rw[ae (d:=ce) rfl rfl];exact aT rfl (aA rfl (aA rfl (bx rfl (ab rfl h.1))))
 .rw[ae rfl rfl];exact aA rfl (aA rfl (bx rfl (ab rfl h.2)))
def ut {A B R:LL} (h:NAt p A n m) (h':NAt q B n k):NAt (.tup [.str "either",ofR A,p,ofR B,q]) R (n+1) (if k > m then k else m):=by
 have z:∀{cal}{a b}{W},ev cal a W=some (.int m)->ev cal b W=some (.int k)->ev cal (.blt .max2 [a,b]) W=some (.int (if k > m then k else m)):=λh h'=>by
  rw[ev,bm h (bm h' rfl)]
  rfl
 constructor
 .rw[ae (d:=ce) rfl rfl];exact aT rfl (aA rfl (aA rfl (aA rfl (aA rfl (bx rfl (z (ab rfl h.1) (ab rfl h'.1)))))))
 .rw[ae (d:=dM) rfl rfl];exact aA rfl (aA rfl (aA rfl (bx rfl (z (ab rfl h.2) (ab rfl h'.2)))))
def Jn(h:ev cal e W=some (.tup xs)):(evs cal [e] W).bind (bg .seq)=some xs:=by simp_all [evs]
theorem qB(n)(J)(R)(g:au R)(f):∀(z:List (Int×Option Int×PV)) (ks:List Int) (U:Option MV),(∀r∈z,NAt r.2.2 (bh2 false R r.1 r.2.1) (n+4) (f r))->ks.length+z.length<=10000 ->
  ∃Y,aq (λv l=>exs (aa defs (n+4)) fJ (put l 3 (.val v))) (z.map aY) [J,sv (ofR R),some (.own (ks.map .int)),U]=.next [J,sv (ofR R),some (.own ((ks++z.map f).map .int)),Y]
 | [],ks,U,_,_=>⟨U,by simp[aq]⟩
 |r::z,ks,U,h,Z=>by
  rw[length_cons]at Z;have e1:=fg (n+3) R r.1 (by have:=g.2.2;omega);have e2:=ni (n+2) (bt r.1 R) (dR g) false r.2.1;have e3:=(h r (.head _)).2;have st:exs (aa defs (n+4)) fJ (put [J,sv (ofR R),some (.own (ks.map .int)),U] 3 (.val (aY r)))=.next [J,sv (ofR R),some (.own ((ks++[f r]).map .int)),sv (aY r)]:=by
   rw[KS];exact cj (mq rfl (ab (bi rfl (cK (ab (cK (ab (mn rfl (bi rfl rfl)) e1) (BC rfl (bi rfl rfl))) e2) rfl)) e3) (by rw[mx];omega))
  obtain⟨Y,e⟩:=qB n J R g f z (ks++[f r]) (sv (aY r)) (λq hq=>h q (.tail _ hq)) (by rw[tf,length_singleton];omega);refine⟨Y,?_⟩;rw[uw,aq,st];refine e.trans ?_;rw[Lf]
  rfl
def xp {R:LL} (g:au R) (f) {z:List (Int×Option Int×PV)} (J:z.length<=10000) (Z:u9 (z.map f)=some m) (h:∀r∈z,NAt r.2.2 (bh2 false R r.1 r.2.1) (n+4) (f r)):NAt (.tup [.str "cases",.tup (z.map aY)]) R (n+5) (1+m):=by
 have Y:∀{a}{W},ev (aa defs (n+4)) a W=some (.lst ((z.map f).map .int))->ev (aa defs (n+4)) (.bin .add (ci 1) (.blt .max1 [a])) W=some (.int (1+m)):=λ{a W} h=>by
  rw[cf (x:=.int 1) (y:=.int m) rfl (by rw[aE h,oE,bq,bind_some,Z];rfl)]
  rfl
 constructor
 .rw[ae (d:=ce) rfl rfl];have c1:∀U a3,ev (aa defs (n+4)) (.comp .seq [(ix 0 1)] [1] (.cst (.bl true)) (.tup [(ix 0 2),(.call 10 [.bor 1,(cs "weaver"),(ix 0 0),(ix 0 1)])])) [sv (.tup [.str "cases",.tup (z.map aY)]),sv (ofR R),U,a3]=some (.lst (z.map λr=>.tup [r.2.2,ofR (bh2 false R r.1 r.2.1)])):=λ_ _=>b8 (vs:=[.tup (z.map aY)]) (g:=aY) rfl rfl J λr _=>d8 (bm rfl (bm (ab (mn rfl (BC rfl (bi rfl (bi rfl rfl)))) (nh n R g false r.1 r.2.1)) rfl))
  have c2:∀a0 a1 U,ev (aa defs (n+4)) (.comp .seq [.bor 3] [] (.cst (.bl true)) (.call 36 [(ix 0 0),(ix 0 1)])) [a0,a1,U,sv (.lst (z.map λr=>.tup [r.2.2,ofR (bh2 false R r.1 r.2.1)]))]=some (.lst ((z.map f).map .int)):=λ_ _ _=>by
   rw[Kx];exact b8 (vs:=[.lst (z.map λr=>.tup [r.2.2,ofR (bh2 false R r.1 r.2.1)])]) rfl rfl J λr hr=>ab (bi rfl (bi rfl rfl)) (h r hr).1
  exact aT rfl (aA rfl (aA rfl (aA rfl (GF rfl (cg (c1 _ _) (qt (Y (c2 _ _ _))))))))
 .rw[ae (d:=dM) rfl rfl];obtain⟨y3,e⟩:=qB n (sv (.tup [.str "cases",.tup (z.map aY)])) R g f z [] none h (by simpa using J);refine aA rfl (aA rfl (aA rfl (aA rfl (aA rfl (cU (dy (xs:=[]) rfl) ?_)))));exact KN aX (my (xs:=z.map aY) (Jn rfl) e (qt (Y rfl)))
def uu{R:LL}(h:hv R=true):R≠[]:=λz=>by
 subst z;obtain⟨M,_,h⟩:=lT.mp h;rw[show ac []=[]from rfl]at h;simp at h
def uv:∀{l},l≠[]->∃m,u9 l=some m
 | [],h=>absurd rfl h
 | _::_,_=>⟨_,rfl⟩
def uA{A R:LL}(h:below A R=true)(J:A≠[]):R≠[]:=λz=>by
 subst z;obtain⟨s,hs⟩:=Nl A J;obtain⟨t,U,_⟩:=eJ h s hs;cases U
def gu{A R:LL}(h:below A R=true)(z:[]∈A):[]∈R:=by
 obtain⟨t,J,q⟩:=eJ h [] z;have:=eq_nil_iff_forall_not_mem.mpr λy U=>by cases cR.mp q y U
 exact this▸J
def pi {d:Nat}{z:List (Int×Option Int×PV)} (Z:z.length<=10000) (hr:∀r∈z,WP d r.2.2) {R:LL} (g:au R) (U:R.flatten.length<=1000) {t:Bool} (G:GAt (.tup [.str "cases",.tup (z.map aY)]) R t false (3*(d+1)+8) true):t=true/\ac R≠[]/\z.map (·.1)=ac R/\∀r∈z,∀N,3*d+8<=N->GAt r.2.2 (bh2 false R r.1 r.2.1) true false N true:=by
 cases t with
 |false=>cases tru (o3 (3*(d+1)+5) _ _ false) G
 |true =>
  obtain⟨b,Y⟩:=ue λr J=>jC (hr r J) (bh2 false R r.1 r.2.1) (jg g _ _) (pe (jh false R _ _) U) true false
  have e:=tru (xa (n:=3*d+4) g U false Z λr J=>Y r J _ (by omega)) G;have e:(!decide (ac R=[])&&(decide (z.map (·.1)=ac R)&&z.all b))=true:=e;simp only[gQ,KD,Le,decide_eq_false_iff_not]at e;obtain⟨e1,e2,e3⟩:=e;exact⟨rfl,e1,e2,λr J N hN=>(Y r J N hN).trans (by rw[Lm.mp e3 r J])⟩
def mE{R:LL}(e:hv R=true):[]∈R\/((ac (bhd false R (cV R))).length:Int)<(ac R).length:=by
 rcases qy R with⟨q,z⟩|⟨x,q,hx,_⟩
 .obtain⟨M,_,hw⟩:=lT.mp e;rw[z]at hw;cases R with
  |nil=>simp at hw
  |cons s R =>
   cases s with
   |nil=>exact .inl (.head _)
   |cons y s =>
    have:=aK.mpr ⟨y::s,.head R,.head s⟩
    simp_all
 .rw[q];have:=kj (t:=false) hx;exact .inr (by omega)
def pj {d:Nat}{z:List (LL×PV)} (Z:z.length<=16) (hs:(z.map (·.1)).flatten.length<=60) (Y:(z.map (·.1)).flatten.flatten.length<=60) (U:∀r∈z,au r.1/\r.1.flatten.length<=60) (hr:∀r∈z,WP d r.2) {R:LL} (g:au R) (hf:R.flatten.length<=1000) (t:Bool):¬ GAt (.tup [.str "parts",.tup (z.map aL)]) R t false (3*(d+1)+8) true:=λG=>by
 obtain⟨b,hb⟩:=ue λr J=>jC (hr r J) r.1 (U r J).1 (pe (U r J).2 (by decide)) false true
 cases tru (xb (n:=3*d+4) g hf Z hs (pe Y (by decide)) (λr J=>⟨(U r J).1,pe (U r J).2 (by decide)⟩) t false λr J=>hb r J _ (by omega)) G
def need(p:WP d v):∀R,au R->R.flatten.length<=1000->∀t,GAt v R t false (3*d+8) true->R≠[]/\∃m,∀N,3*d+6<=N->NAt v R N m:=by
 induction p with
 | @leaf d v hv =>
  intro R g J t G;rcases hv with rfl|rfl|rfl|⟨P,h1,h2,rfl⟩
  .cases tru (rW (3*d+5) R t false) G
  .have e:=tru (jy (3*d+5) R t false) G;refine⟨λz=>(by rw[z]at e;cases e),0,λN U=>?_⟩;obtain⟨n,rfl⟩:=upN 1 U;exact se n R
  .obtain⟨M,hM,_⟩:=b7 0 R g;have e:=tru (im (3*d+2) R g J hM t false) G;refine⟨?_,(ac R).length,λN U=>?_⟩
   .cases t with
    |false=>exact uu e
    |true =>
     have e:(decide ([]∈R)||(hv R&&(ac R).all λh=>hv (bt h R)))=true:=e;intro z;subst z;rw[show hv []=false from Bool.eq_false_iff.mpr λz=>uu z rfl]at e;cases e
   .obtain⟨n,rfl⟩:=upN 3 U;exact jp n R g J
  .cases tru (nc (3*d+3) R P h1 h2 g t false) G
 | @one d v k r hk hv ih =>
  intro R g J t G;have ao:=pe (eI k R r) J;obtain⟨b,a⟩:=jC hv (bhd k R r) (bQ g r) ao (!k) k;have e:=tru (rX (n:=3*d+5) g k r t false (a _ (by omega))) G;simp only[gQ,Kv]at e;obtain⟨⟨rfl,rfl⟩,rfl⟩:=e;obtain⟨h1,m,h2⟩:=ih (bhd false R r) (bQ g r) ao true (a _ (g4 _));refine⟨λz=>h1 (by rw[z];cases r<;>rfl),1+m,λN U=>?_⟩;obtain⟨n,rfl⟩:=upN 4 U;exact BE g r (h2 _ (by omega))
 | @cases d rows hl hq hr ih =>
  intro R g J t G;obtain⟨rfl,e1,e2,e3⟩:=pi hl hr g J G;obtain⟨f,hF⟩:=ue λr hm=>(ih r hm (bh2 false R r.1 r.2.1) (jg g _ _) (pe (jh false R _ _) J) true (e3 r hm _ (g4 _))).2
  have rn:rows≠[]:=λz=>e1 (by rw[<- e2,z];rfl)
  obtain⟨m,hm⟩:=uv (l:=rows.map f) (by simpa using rn);refine⟨λz=>e1 (by rw[z];rfl),1+m,λN U=>?_⟩;obtain⟨n,rfl⟩:=upN 5 U;exact xp g f hl hm λr hr=>hF r hr _ (by omega)
 | @parts d rows hl hs a2 hg hr ih =>
  intro R g J t G;exact absurd G (pj hl hs a2 hg hr g J t)
 | @fewer d v A Y Z hv ih =>
  intro R g J t G;obtain⟨b,a⟩:=jC hv A Y Z t false;have e:=tru (ng (n:=3*d+5) Y g t false (a _ (by omega))) G;simp only[gQ]at e;obtain⟨⟨_,hb⟩,rfl⟩:=e;obtain⟨h1,m,h2⟩:=ih A Y Z t (a _ (g4 _));refine⟨uA hb h1,m,λN U=>?_⟩;obtain⟨n,rfl⟩:=upN 1 U;exact sf (h2 _ (by omega))
 | @either d v w A B Y gB Z fB hv hw ih a6 =>
  intro R g J t G;obtain⟨x,a⟩:=jC hv A Y Z false false;obtain⟨y,c⟩:=jC hw B gB fB false false;have e:=tru (k_ (n:=3*d+4) Y gB g Z fB t false (a _ (by omega)) (c _ (by omega))) G;simp only[gQ]at e;obtain⟨_,⟨⟨_,hb⟩,_⟩,rfl,rfl⟩:=e;obtain⟨h1,m,h2⟩:=ih A Y Z false (a _ (g4 _));obtain⟨_,k,h3⟩:=a6 B gB fB false (c _ (g4 _));refine⟨uA hb h1,if k > m then k else m,λN U=>?_⟩;obtain⟨n,rfl⟩:=upN 1 U;exact ut (h2 _ (by omega)) (h3 _ (by omega))
def F1(v:PV)(R:LL)(N:Nat)(r:Option Int)(z:LL)(J:PV):Prop:=aa defs N 30 [.val v,.val (ofR R),.val (.str (af false))]=some (.tup [cq r,ofR z,J])
def BF (n) (R):F1 (.tup [.str "whole"]) R (n+1) none R (.tup [.str "whole"]):=rfl
def yD (n) (R) (g:au R):F1 (.tup [.str "weight"]) R (n+4) (cV R) (bhd false R (cV R)) (.tup [.str "weight"]):=by
 have z:=xi n R g;generalize cV R=r at z ⊢;have J:=fN n R g false r;unfold F1;rw[ae (d:=rL) rfl rfl];cases r<;>exact aT rfl (aA rfl (GF rfl (cg (ab rfl z) (qt (d8 (bm rfl (bm (ab rfl J) (bm rfl rfl))))))))
def GO (n) (R) (g:au R) (r) (p):F1 (.tup [.str "knot",cq r,p]) R (n+4) r (bhd false R r) p:=by
 have z:=fN n R g false r;unfold F1;rw[ae (d:=rL) rfl rfl];cases r<;>exact aT rfl (aA rfl (aA rfl (bx rfl (d8 (bm rfl (bm (ab rfl z) (bm rfl rfl)))))))
def BG {A R z:LL} (e:F1 v A N r z J):F1 (.tup [.str "fewer",ofR A,v]) R (N+1) r z J:=
  aT rfl (bx rfl (ab rfl e))
structure GP(d:Nat)(v:PV)(R:LL)(r:Option Int)(R':LL)(v':PV):Prop where
 rep:ji r
 good:au R'
 keep:∀N,3*d+8<=N->GAt v' R' true false N true
 need:∃m m',(∀N,3*d+6<=N->NAt v R N m)/\(∀N,3*d+6<=N->NAt v' R' N m')/\([]∈R\/m'<m)
def Ea(p:WP d v):∀R,au R->R.flatten.length<=1000->GAt v R false false (3*d+8) true ->
  ∃r R' v',GP d v R r R' v'/\(∀N,d+4<=N->F1 v R N r R' v')/\below R' (bhd false R r)=true:=by
 induction p with
 | @leaf d v hv =>
  intro R g U G;rcases hv with rfl|rfl|rfl|⟨P,h1,h2,rfl⟩
  .cases tru (rW (3*d+5) R false false) G
  .have e:decide ([]∈R)=true:=tru (jy (3*d+5) R false false) G;have n0:∀N,3*d+6<=N->NAt (.tup [.str "whole"]) R N 0:=λN J=>by
    obtain⟨n,rfl⟩:=upN 1 J;exact se n R
   refine⟨none,R,.tup [.str "whole"],⟨(λx z=>by cases z),g,λN J=>?_,0,0,n0,n0,.inl (K2 e)⟩,λN J=>?_,fP _⟩
   .obtain⟨n,rfl⟩:=upN 3 J;exact(jy n R true false).trans (by rw[e];rfl)
   .obtain⟨n,rfl⟩:=upN 1 J;exact BF n R
  .obtain⟨M,hM,_⟩:=b7 0 R g;have e:=tru (im (3*d+2) R g U hM false false) G;have g':=bQ (h:=false) g (cV R);obtain⟨M2,a1,_⟩:=b7 0 _ g';have Y:=pe (eI false R (cV R)) U;refine⟨cV R,bhd false R (cV R),.tup [.str "weight"],⟨λx z=>(aV g.1).2 x (o7 z),g',λN J=>?_,(ac R).length,(ac (bhd false R (cV R))).length,λN J=>?_,λN J=>?_,?_⟩,λN J=>?_,fP _⟩
   .obtain⟨n,rfl⟩:=upN 6 J;exact(im n _ g' Y a1 true false).trans (KN (λb=>some (PV.bl b)) (xn g e))
   .obtain⟨n,rfl⟩:=upN 3 J;exact jp n R g U
   .obtain⟨n,rfl⟩:=upN 3 J;exact jp n _ g' Y
   .exact mE e
   .obtain⟨n,rfl⟩:=upN 4 J;exact yD n R g
  .cases tru (nc (3*d+3) R P h1 h2 g false false) G
 | @one d v k r hk hv ih =>
  intro R g U G;have Y:=pe (eI k R r) U;obtain⟨b,a⟩:=jC hv (bhd k R r) (bQ g r) Y (!k) k;have e:=tru (rX (n:=3*d+5) g k r false false (a _ (by omega))) G;simp only[gQ,Kv]at e;obtain⟨⟨rfl,_⟩,rfl⟩:=e;obtain⟨_,m,h2⟩:=need hv (bhd false R r) (bQ g r) Y true (a _ (g4 _));refine⟨r,bhd false R r,v,⟨hk,bQ g r,λN J=>a N (by omega),1+m,m,λN J=>?_,λN J=>h2 N (by omega),.inr (by omega)⟩,λN J=>?_,fP _⟩
  .obtain⟨n,rfl⟩:=upN 4 J;exact BE g r (h2 _ (by omega))
  .obtain⟨n,rfl⟩:=upN 4 J;exact GO n R g r v
 | @cases d rows hl hq hr ih =>
  intro R g U G;cases (pi hl hr g U G).1
 | @parts d rows hl hs a4 hg hr ih =>
  intro R g U G;exact absurd G (pj hl hs a4 hg hr g U false)
 | @fewer d v A Z fA hv ih =>
  intro R g U G;obtain⟨b,a⟩:=jC hv A Z fA false false;have e:=tru (ng (n:=3*d+5) Z g false false (a _ (by omega))) G;simp only[gQ]at e;obtain⟨⟨_,hb⟩,rfl⟩:=e;obtain⟨r,R',v',f,e1,lo⟩:=ih A Z fA (a _ (g4 _));obtain⟨m,m',n1,n2,n3⟩:=f.need;refine⟨r,R',v',⟨f.rep,f.good,λN J=>f.keep N (by omega),m,m',λN J=>?_,λN J=>n2 N (by omega),n3.imp_left (gu hb)⟩,λN J=>?_,gr lo (fk false hb r)⟩
  .obtain⟨n,rfl⟩:=upN 1 J;exact sf (n1 _ (by omega))
  .obtain⟨n,rfl⟩:=upN 1 J;exact BG (e1 n (by omega))
 | @either d v w A B Z gB fA fB hv hw ih b5 =>
  intro R g U G;obtain⟨x,a⟩:=jC hv A Z fA false false;obtain⟨y,c⟩:=jC hw B gB fB false false;cases tru (k_ (n:=3*d+4) Z gB g fA fB false false (a _ (by omega)) (c _ (by omega))) G
def DF (n) (R) (h) (x):AAt (.tup [.str "whole"]) R h (n+1) x none R (.tup [.str "whole"]):=rfl
def DG {A R z:LL} (e:AAt v A h N x r z J):AAt (.tup [.str "fewer",ofR A,v]) R h (N+1) x r z J:=by
 unfold AAt;rw[ae rfl rfl];exact aT rfl (aA rfl (aA rfl (aA rfl (aA rfl (bx rfl (ab rfl e))))))
def uB {A B R z:LL} (U:au A) (Y:A.flatten.length<=1000) (e:if x∈ac A then F1 w B (n+2) r z J else F1 v A (n+2) r z J):AAt (.tup [.str "either",ofR A,v,ofR B,w]) R false (n+4) x r z J:=by
 unfold AAt;rw[ae (d:=kY) rfl rfl];refine aT rfl (aA rfl (aA rfl (aA rfl (aA rfl (aA rfl (bx rfl (ab rfl ?_)))))));rw[ae (d:=fH) rfl rfl];have c:ev (aa defs (n+2)) (.cmp .isIn (.bor 2) (.call 5 [(ix 0 1)])) [sv (.tup [.str "either",ofR A,v,ofR B,w]),sv (.str (af false)),sv (.int x)]=some (.bl (decide (x∈ac A))):=by
  rw[cE (x:=.int x) rfl (ab (bi rfl rfl) (cA n A U.1 Y))];show Option.map PV.bl (isIn _ _)=_;rw[bL]
  rfl
 by_cases q:x∈ac A
 .rw[Ky q]at c;rw[if_pos q]at e;exact bx c (ab rfl e)
 .rw[KP q]at c;rw[if_neg q]at e;exact aA c (gp (ab rfl e))
def BH (n) (R) (g:au R) {z:List (Int×Option Int×PV)}{q:Int×Option Int×PV}{x:Int} (Y:z.find? (λr=>decide (r.1=x))=some q\/z.find? (λr=>decide (r.1=x))=none/\z.head?=some q):AAt (.tup [.str "cases",.tup (z.map aY)]) R false (n+6) x q.2.1 (bh2 false R q.1 q.2.1) q.2.2:=by
 unfold AAt;rw[ae (d:=kY) rfl rfl];refine aT rfl (aA rfl (aA rfl (bx rfl (ab rfl ?_))));rw[ae (d:=gh) rfl rfl];have U:=Jm (n+3) z x;have e2:=nh n R g false q.1 q.2.1;have J:∀{W:Rho},W=[sv (.tup [.str "cases",.tup (z.map aY)]),sv (ofR R),sv (.str (af false)),sv (.int x),sv (aY q)]->aX (exs (aa defs (n+4)) [.ret (.tup [(ix 4 1),(.call 10 [.bor 1,.bor 2,(ix 4 0),(ix 4 1)]),(ix 4 2)])] W)=some (PV.tup [cq q.2.1,ofR (bh2 false R q.1 q.2.1),q.2.2]):=λ{W} h=>by
  subst h;exact gp (d8 (bm rfl (bm (ab (mn rfl (mn rfl (bi rfl (bi rfl rfl)))) e2) (bm rfl rfl))))
 rcases Y with Y|⟨hn,Z⟩
 .rw[Y]at U;exact aT (ab (bi rfl rfl) U) (aA rfl (aA rfl (J rfl)))
 .rw[hn]at U;cases z with
  |nil=>cases Z
  |cons r z =>
   cases Z;refine aT (ab (bi rfl rfl) U) (aA rfl (cU ((aU (p:=true) rfl).trans (cg (v:=aY q) ((gK (x:=.tup ((q::z).map aY)) rfl rfl).trans ?_) rfl)) (J rfl)));rw[Jc,hZ (by decide) (by rw[mx,length_cons];omega)]
   rfl
def pk{R:LL}(h:x∉ac R):bt x R=R:=LR.mpr λs hs=>by
 have:x∉s:=λz=>h (aK.mpr ⟨s,hs,z⟩)
 simpa using this
def yE{A R:LL}(h:∀s∈A,s∈R):below A R=true:=fO λs hs=>⟨s,h s hs,cR.mpr λ_ z=>z⟩
def qC{B R:LL}(h:below B R=true)(hx:x∉ac B):below B (bt x R)=true:=fO λs hs=>by
 obtain⟨t,J,q⟩:=eJ h s hs;refine⟨t,KG.mpr ⟨J,?_⟩,q⟩;have:x∉t:=λz=>hx (aK.mpr ⟨s,hs,cR.mp q x z⟩)
 simpa using this
def DH{R:LL}(h:[]∈R)(r):[]∈bhd false R r:=by
 cases r<;>first|exact h|exact DE.mpr ⟨[],h,rfl⟩
def yF(x)(R):(ac (bt x R)).length<=(ac R).length:=by
 by_cases h:x∈ac R
 .have:=kj (t:=true) h;exact pe (LV _) this
 .rw[pk h];exact g4 _
def Ko(p:WP d v):∀R,au R->R.flatten.length<=1000->GAt v R true false (3*d+8) true->∀x,
  ∃r R' v',GP d v R r R' v'/\(∀N,2*d+6<=N->AAt v R false N x r R' v')/\below R' (bhd false (bt x R) r)=true:=by
 induction p with
 | @leaf d v hv =>
  intro R g Y G x;rcases hv with rfl|rfl|rfl|⟨P,h1,h2,rfl⟩
  .cases tru (rW (3*d+5) R true false) G
  .have e:decide ([]∈R)=true:=tru (jy (3*d+5) R true false) G;have e0:=K2 e;have n0:∀N,3*d+6<=N->NAt (.tup [.str "whole"]) R N 0:=λN J=>by
    obtain⟨n,rfl⟩:=upN 1 J;exact se n R
   refine⟨none,R,.tup [.str "whole"],⟨(λx z=>by cases z),g,λN J=>?_,0,0,n0,n0,.inl e0⟩,λN J=>?_,fO λs _=>⟨[],KG.mpr ⟨e0,by simp⟩,rfl⟩⟩
   .obtain⟨n,rfl⟩:=upN 3 J;exact(jy n R true false).trans (by rw[e];rfl)
   .obtain⟨n,rfl⟩:=upN 1 J;exact DF n R false x
  .obtain⟨M,hM,_⟩:=b7 0 R g;have e:(decide ([]∈R)||(hv R&&(ac R).all λh=>hv (bt h R)))=true:=tru (im (3*d+2) R g Y hM true false) G;have g1:au (bt x R):=dR g;have g':=bQ (h:=false) g1 (cV (bt x R));obtain⟨M2,cd,_⟩:=b7 0 _ g';have a4:=pe (jh false R x (cV (bt x R))) Y;have hb:[]∈R\/hv (bt x R)=true:=by
    by_cases q:[]∈R
    .exact .inl q
    .rw[KP q,Bool.false_or,gQ]at e;by_cases z:x∈ac R
     .exact .inr (Lm.mp e.2 x z)
     .rw[pk z];exact .inr e.1
   have w:Bo (bhd false (bt x R) (cV (bt x R))) M2 true false=true:=by
    show(decide ([]∈bhd false (bt x R) (cV (bt x R)))||_)=true;rcases hb with q|q
    .rw[Ky (DH (show []∈bt x R from KG.mpr ⟨q,by simp⟩) _)];rfl
    .exact xn g1 q
   refine⟨cV (bt x R),bhd false (bt x R) (cV (bt x R)),.tup [.str "weight"],⟨λi z=>(aV g1.1).2 i (o7 z),g',λN J=>?_,(ac R).length,(ac (bhd false (bt x R) (cV (bt x R)))).length,λN J=>?_,λN J=>?_,?_⟩,λN J=>?_,fP _⟩
   .obtain⟨n,rfl⟩:=upN 6 J;exact(im n _ g' a4 cd true false).trans (by rw[w])
   .obtain⟨n,rfl⟩:=upN 3 J;exact jp n R g Y
   .obtain⟨n,rfl⟩:=upN 3 J;exact jp n _ g' a4
   .rcases hb with q|q
    .exact .inl q
    .rcases mE q with z|z
     .exact .inl (KG.mp z).1
     .have:=yF x R;exact .inr (by omega)
   .obtain⟨n,rfl⟩:=upN 5 J;exact BD n R g false x
  .cases tru (nc (3*d+3) R P h1 h2 g true false) G
 | @one d v k r hk hv ih =>
  intro R g Y G x;obtain⟨b,a⟩:=jC hv (bhd k R r) (bQ g r) (pe (eI k R r) Y) (!k) k;have e:=tru (rX (n:=3*d+5) g k r true false (a _ (by omega))) G;cases k<;>cases e
 | @cases d U hl hq hr ih =>
  intro R g Y G x;obtain⟨_,e1,e2,e3⟩:=pi hl hr g Y G;obtain⟨f,hF⟩:=ue λr Z=>(need (hr r Z) (bh2 false R r.1 r.2.1) (jg g _ _) (pe (jh false R _ _) Y) true (e3 r Z _ (g4 _))).2
  have rn:U≠[]:=λz=>e1 (by rw[<- e2,z];rfl)
  obtain⟨m,Z⟩:=uv (l:=U.map f) (by simpa using rn);obtain⟨q,q1,q2,q3⟩:∃q∈U,(U.find? (λr=>decide (r.1=x))=some q\/U.find? (λr=>decide (r.1=x))=none/\U.head?=some q)/\(q.1=x\/x∉ac R):=by
   cases hx:U.find? λr=>decide (r.1=x)with
   |some q=>exact⟨q,Nk hx,.inl rfl,.inl (by have:=find?_some hx;simpa using this)⟩
   |none =>
    refine⟨U.head rn,head_mem rn,.inr ⟨rfl,head?_eq_some_head rn⟩,.inr λz=>?_⟩;rw[<- e2]at z;obtain⟨r,Z,rfl⟩:=mem_map.mp z;have:=MI.mp hx r Z;simp at this
  have lt:=(lF Z).2 (f q) (MK q1);refine⟨q.2.1,bh2 false R q.1 q.2.1,q.2.2,⟨hq q q1,jg g _ _,λN J=>e3 q q1 N (by omega),1+m,f q,λN J=>?_,λN J=>hF q q1 N (by omega),.inr (by omega)⟩,λN J=>?_,?_⟩
  .obtain⟨n,rfl⟩:=upN 5 J;exact xp g f hl Z λr hr=>hF r hr _ (by omega)
  .obtain⟨n,rfl⟩:=upN 6 J;exact BH n R g q2
  .rcases q3 with z|z
   .rw[z];exact fP _
   .rw[pk z];exact fk false (yE λs hs=>(KG.mp hs).1) _
 | @parts d U hl hs cl hg hr ih =>
  intro R g Y G;exact absurd G (pj hl hs cl hg hr g Y true)
 | @fewer d v A gA fA hv ih =>
  intro R g Y G x;obtain⟨b,a⟩:=jC hv A gA fA true false;have e:=tru (ng (n:=3*d+5) gA g true false (a _ (by omega))) G;simp only[gQ]at e;obtain⟨⟨_,hb⟩,rfl⟩:=e;obtain⟨r,R',v',f,e1,lo⟩:=ih A gA fA (a _ (g4 _)) x;obtain⟨m,m',n1,n2,n3⟩:=f.need;refine⟨r,R',v',⟨f.rep,f.good,λN J=>f.keep N (by omega),m,m',λN J=>?_,λN J=>n2 N (by omega),n3.imp_left (gu hb)⟩,λN J=>?_,gr lo (fk false (fk true hb (some x)) r)⟩
  .obtain⟨n,rfl⟩:=upN 1 J;exact sf (n1 _ (by omega))
  .obtain⟨n,rfl⟩:=upN 1 J;exact DG (e1 n (by omega))
 | @either d v w A B gA gB fA fB hv hw ih dm =>
  intro R g Y G x;obtain⟨p,a⟩:=jC hv A gA fA false false;obtain⟨q,c⟩:=jC hw B gB fB false false;have e:=tru (k_ (n:=3*d+4) gA gB g fA fB true false (a _ (by omega)) (c _ (by omega))) G;simp only[gQ,Le]at e;obtain⟨_,⟨⟨nd,bA⟩,bB⟩,rfl,rfl⟩:=e;obtain⟨_,m,Z⟩:=need hv A gA fA false (a _ (g4 _));obtain⟨_,k,hk⟩:=need hw B gB fB false (c _ (g4 _));have nE:∀N,3*(d+1)+6<=N->NAt (.tup [.str "either",ofR A,v,ofR B,w]) R N (if k > m then k else m):=λN J=>by
   obtain⟨n,rfl⟩:=upN 1 J;exact ut (Z _ (by omega)) (hk _ (by omega))
  have dn:m<=(if k > m then k else m):=by split<;>omega
  have dr:k<=(if k > m then k else m):=by split<;>omega
  by_cases hx:x∈ac A
  .obtain⟨r,R',v',f,e1,lo⟩:=Ea hw B gB fB (c _ (g4 _));obtain⟨m1,m',n1,n2,n3⟩:=f.need;have em:m1=k:=by have:=(n1 (3*d+6) (g4 _)).1.symm.trans (hk _ (g4 _)).1;simpa using this
   have no:x∉ac B:=λz=>(Mw.mp nd).2.2 x hx x z rfl
   refine⟨r,R',v',⟨f.rep,f.good,λN J=>f.keep N (by omega),_,m',nE,λN J=>n2 N (by omega),n3.imp (gu bB) λz=>by omega⟩,λN J=>?_,gr lo (fk false (qC bB no) r)⟩;obtain⟨n,rfl⟩:=upN 4 J;exact uB gA fA (by rw[if_pos hx];exact e1 _ (by omega))
  .obtain⟨r,R',v',f,e1,lo⟩:=Ea hv A gA fA (a _ (g4 _));obtain⟨m1,m',n1,n2,n3⟩:=f.need;have em:m1=m:=by have:=(n1 (3*d+6) (g4 _)).1.symm.trans (Z _ (g4 _)).1;simpa using this
   refine⟨r,R',v',⟨f.rep,f.good,λN J=>f.keep N (by omega),_,m',nE,λN J=>n2 N (by omega),n3.imp (gu bA) λz=>by omega⟩,λN J=>?_,gr lo (fk false (qC bA hx) r)⟩;obtain⟨n,rfl⟩:=upN 4 J;exact uB gA fA (by rw[if_neg hx];exact e1 _ (by omega))
def vV(n)(h:ji r):aa defs (n+1) 67 [.val (cq r)]=some (.bl true):=by
 rw[ae (d:=jf) rfl rfl];cases r with
 |none=>exact bx rfl rfl
 |some i =>
  obtain⟨z,h1⟩:=h i rfl;refine aA rfl (aA rfl (gp (dQ (p:=true) (q:=true) ((cE (x:=.int i) (y:=.int 0) rfl rfl).trans ?_) λ_=>(cE rfl rfl).trans ?_)))
  .simp_all
  .exact KN (λb=>some _) (Ky (show i<_ by omega))
def ne_int(h:ev cal a W=some (.int m))(h':ev cal b W=some (.int m)):ev cal (.cmp .ne a b) W=some (.bl false):=by
 rw[cE h h',AW,if_pos (show sP _ _=true from rfl),kS,LQ]
 rfl
def DI(n){R:LL}(g:au R)(f:GP 10 v R r U v')(lo:below U (bhd false (bt x R) r)=true):aa defs (n+40) 68 [.val v,.val (ofR R),.val (.int x),.val (.tup [cq r,ofR U,v'])]=some (.bl true):=by
 rw[ae (d:=oR) rfl rfl];have e1:=vV (n+38) f.rep;have e2:=fg (n+38) R x (by have:=g.2.2;omega);have e3:=ni (n+37) (bt x R) (dR g) false r;have e4:=Bq (n+37) U (bhd false (bt x R) r) (by have:=(bQ (h:=false) (dR (h:=x) g) r).2.2;omega);rw[vP,lo]at e4;obtain⟨m,m',Y,Z,n3⟩:=f.need;have Y:=(Y (n+39) (by omega)).1;have Z:=(Z (n+39) (by omega)).1;have J:∀a4,ev (aa defs (n+39)) (.or (.cmp .isIn (.tup []) (.bor 1)) (.cmp .lt (.call 36 [(ix 3 2),(ix 3 1)]) (.call 36 [.bor 0,.bor 1]))) [sv v,sv (ofR R),sv (.int x),sv (.tup [cq r,ofR U,v']),a4]=some (.bl true):=λa4=>by
  by_cases q:[]∈R
  .exact rV (p:=true) (q:=false) (yn ((j7 [] R).trans (by rw[Ky q])) rfl rfl) λz=>by cases z
  .refine rV (p:=false) (q:=true) (yn ((j7 [] R).trans (by rw[KP q])) rfl rfl) λ_=>?_
   exact(cE (x:=.int m') (y:=.int m) (ab (bi rfl (bi rfl rfl)) Z) (ab rfl Y)).trans (KN (λb=>some (PV.bl b)) (Ky (n3.resolve_left q)))
 exact aA (rV (p:=false) (q:=false) rfl λ_=>rfl) (aA (rV (p:=false) (q:=false) (k9 (ab (bi rfl rfl) e1)) λ_=>k9 (ab (bi rfl (bi rfl rfl)) (f.keep (n+39) (by omega)))) (aT (ab (cK (ab rfl e2) (BC rfl (bi rfl rfl))) e3) (aA (k9 (ab (bi rfl (mn rfl rfl)) e4)) (gp (J _)))))
def Jo(ok:StP x)(J a1 U Y Z):exs (aa defs 79) rM (put [J,a1,Z,U,Y] 2 (.val (aL x)))=.next [J,a1,sv (aL x),U,Y]:=by
 obtain⟨g,z,w⟩:=ok;have z:=pe z (show 200<=1000 by decide);obtain⟨b,G⟩:=jC w x.1 g z false false;have c:ev (aa defs 79) (.call 37 [(ix 2 1),(ix 2 0),(cs "weaver"),(cs "weaver")]) [J,a1,sv (aL x),U,Y]=some (.bl b):=ab (bi rfl (bi rfl rfl)) (G 79 (by decide));cases b with
 |false=>exact cj ((aU c).trans rfl)
 |true =>
  obtain⟨_,m,h⟩:=need w x.1 g z false (G 38 (by decide));have h:=h 79 (by decide);exact cj ((aU c).trans (vM (ne_int (ab (bi rfl (bi rfl rfl)) h.1) (ab (bi rfl (bi rfl rfl)) h.2)) rfl))
theorem Eb(J a1 U Y):∀(xs:List (LL×PV)) z,(∀x∈xs,StP x)->∃Z,aq (λx l=>exs (aa defs 79) rM (put l 2 (.val x))) (xs.map aL) [J,a1,z,U,Y]=.next [J,a1,Z,U,Y]
 | [],z,_=>⟨z,rfl⟩
 |x::xs,z,ok=>by
  rw[uw,aq,Jo (ok x (.head _))];exact Eb J a1 U Y xs _ λy hy=>ok y (.tail _ hy)
theorem qD(ok:StP x)(G:GAt x.2 x.1 true false 38 true)(z a1 J):∀(hs:List Int) U,∃Y,aq (λv l=>exs (aa defs 79) rN (put l 4 (.val v))) (hs.map .int) [z,a1,sv (aL x),J,U]=.next [z,a1,sv (aL x),J,Y]
 | [],U=>⟨U,rfl⟩
 |h::hs,U=>by
  obtain⟨r,R',v',f,A,lo⟩:=Ko ok.2.2 x.1 ok.1 (pe ok.2.1 (by decide)) G h;have Z:=A 79 (by decide);have e2:=DI 39 ok.1 f lo;obtain⟨Y,e⟩:=qD ok G z a1 J hs (sv (.int h));refine⟨Y,?_⟩;rw[uw,aq,show exs (aa defs 79) rN (put [z,a1,sv (aL x),J,U] 4 (.val (.int h)))=.next [z,a1,sv (aL x),J,sv (.int h)]from vM (k9 (ab (bi rfl (bi rfl (mn rfl (cK (ab (bi rfl (bi rfl rfl)) Z) rfl)))) e2)) rfl];exact e
def Jp(ok:StP x)(m)(J x2 x3 Z):∃U z,exs (aa defs 79) rO (put [J,sv (.int m),x2,x3,Z] 2 (.val (aL x)))=.next [J,sv (.int m),sv (aL x),U,z]:=by
 obtain⟨g,Y,w⟩:=id ok;have Y:=pe Y (show 200<=1000 by decide);obtain⟨b,G⟩:=jC w x.1 g Y true false;have c:∀U z,ev (aa defs 79) (.call 37 [(ix 2 1),(ix 2 0),(cs "moth"),(cs "weaver")]) [J,sv (.int m),sv (aL x),U,z]=some (.bl b):=λ_ _=>ab (bi rfl (bi rfl rfl)) (G 79 (by decide))
 cases b with
 |false=>exact⟨_,_,cj ((aU (c _ _)).trans rfl)⟩
 |true =>
  obtain⟨ne,k,h⟩:=need w x.1 g Y true (G 38 (by decide));have h:=h 79 (by decide);obtain⟨z,e⟩:=qD ok (G 38 (by decide)) J (sv (.int m)) (sv (.int k)) (ac x.1++[m]) Z;have eh:=jx 78 x.1 g.1;have hl:=aJ (aV g.1);have es:∀U z,ev (aa defs 79) (.bin .add (.call 49 [(ix 2 0)]) (.lst [.var 1])) [J,sv (.int m),sv (aL x),U,z]=some (.lst ((ac x.1++[m]).map .int)):=λ_ _=>by
   rw[cf (ab (bi rfl rfl) eh) (y:=.lst [.int m]) rfl,KS];exact if_pos (by rw[mx,length_singleton];omega)
  have l0:(((x.1.map ofS).length:Int)==0)=false:=by
   simp_all
  exact⟨sv (.int k),z,cj ((aU (c _ _)).trans (cg (ab (bi rfl (bi rfl rfl)) h.1) (vM (rV (p:=false) (q:=false) rfl λ_=>rV (p:=false) (q:=false) rfl λ_=>ne_int rfl (ab (bi rfl (bi rfl rfl)) h.2)) (vM (m8 (xs:=x.1.map ofS) l0 rfl) (my (xs:=(ac x.1++[m]).map .int) (vN (es _ _)) e rfl)))))⟩
theorem Ec(m)(Y):∀(xs:List (LL×PV)) z J U,(∀x∈xs,StP x)->∃W,aq (λx l=>exs (aa defs 79) rO (put l 2 (.val x))) (xs.map aL) [Y,sv (.int m),z,J,U]=.next W
 | [],z,J,U,_=>⟨_,rfl⟩
 |x::xs,z,J,U,ok=>by
  obtain⟨y3,y4,e⟩:=Jp (ok x (.head _)) m Y z J U;rw[uw,aq,e];exact Ec m Y xs _ _ _ λy Z=>ok y (.tail _ Z)
def BI(ns:List Int)(U:ns.length<=63):aa defs 80 69 [.brw (ns.map .int)]=some (.bl true):=by
 rw[ae (d:=wW) rfl rfl];have Y:=vQ 77 ns 1 2049848353892358983 (by decide);obtain⟨xs,Z,_,ok⟩:=uq ns U false false;obtain⟨zs,eZ,_,z⟩:=uq ns U true false;obtain⟨J,eL⟩:=Eb (some (.brw (ns.map .int))) (sv (.int (eX (cellOf ns 1) 2049848353892358983 % 60))) none none xs none ok;obtain⟨W,eM⟩:=Ec (eX (cellOf ns 1) 2049848353892358983 % 60) (some (.brw (ns.map .int))) zs J none none z;refine aT ((cf (Y _) rfl).trans rfl) (cU (l:=[some (.brw (ns.map .int)),sv (.int (eX (cellOf ns 1) 2049848353892358983 % 60)),J,none,none]) ?_ (cU (l:=W) ?_ (gp rfl)))
 .rw[cQ (xs:=xs.map aL) (vN (ab rfl Z))];show MM.R.back _ _ (aq _ _ [some (.brw (ns.map .int)),sv (.int (eX (cellOf ns 1) 2049848353892358983 % 60)),none,none,none])=_;rw[eL]
  rfl
 .rw[cQ (xs:=zs.map aL) (vN (ab rfl eZ))];show MM.R.back _ _ (aq _ _ [some (.brw (ns.map .int)),sv (.int (eX (cellOf ns 1) 2049848353892358983 % 60)),J,none,none])=_;rw[eM]
  rfl
noncomputable def top(i:Nat):Stmt:=PySem.Challenge.pw_mothloom_k38_answers_of_the_weaver_keep.main.body.getD i (.Pass ⟨0,0,0,0⟩)
def GQ {l:PySem.W.OpenLaw}{w:World}{K:N0}{h:Heap}{mg:Str->Option Value}{fa:Addr} (X:K.In h) (G:h.Ns mainGlobals mg) (U:mg "law"=some (.ref fa))
  (hs:vF K top defs [1,2,3,4,5,6,7,8,10,11,12,14,15,16,17,19,20,21,23,24,27,28,29,30,31,32,33,34,35,36,38,39,40,41,42,43,44,46,47,48,49,50,51,52,53,55,56,57,58,59,60,61,62,63,64,65,66,67,68,69,70,71,72,73,74,75,76,77,78,79] tab.ds) (hL:HD K "law" (top 79) wW λfd=>∀(s:Shared) (v:Value),BindsTo s fd ⟨[v],[]⟩ [("script",v)])
  (zs:∀x∈kN,PySem.W.nsIn K mainGlobals x=some none)
  {z:Value} (g0:PySem.W.nsIn K mainGlobals "UNIT"=some (some z)) (r0:aF (toV (.int 1152921504606846976)) z)
 :∃fd:FuncData,(∀(s:Shared) (v:Value),BindsTo s fd ⟨[v],[]⟩ [("script",v)])/\∀base:Heap,K.In base->base.Ns mainGlobals mg->jS l.prog w K mg base CX0 80 fa fd ["script"] (spM K (aa defs 80) 69):=by
 obtain⟨_,Y,J,Z⟩:=AU (T:=tab) X G hL (by kernel_rfl);cases U.symm.trans J.named;have pr:Gg tab K mg defs:=by
  refine⟨rfl,Ge X G hs (by kernel_rfl),λx hx=>PySem.W.mg_none_of X G (zs x hx),λp hp=>?_⟩
  .simp only[tab,wh,LU,MC]at hp;rcases hp with rfl
   .exact⟨_,PySem.W.mg_of X G g0,r0⟩
 exact⟨Y,Z,λbase _ _=>IQ (by decide) pr 80 69 wW rfl _ _ _ J⟩
def Kp{l:PySem.W.OpenLaw}{q:Program}{J:List Str}{XP:(Str->Option Value)->Heap->Prop}{Y:World->Heap->Prop}{d:DefRec}{K:Params->N0}(hn:l.most=some 63)(U:d.params.defaults=[])
  (hY:∀w h,Y w h->(K w.params).In h)
  (F:∀w mg Z h,(K w.params).In h->h.Ns mainGlobals mg->mg d.name=some (.ref Z) ->
   ∃fd,(∀s u,BindsTo s fd ⟨[u],[]⟩ [("script",u)])/\∀base,(K w.params).In base->base.Ns mainGlobals mg->jS l.prog w (K w.params) mg base CX0 80 Z fd ["script"] (spM (K w.params) (aa defs 80) 69)) :
  PySem.W.WalkO q J XP Y l.row.toRowW d [] (λf vs=>PySem.call f vs):=
 L2.Cf (n:=63) (k:=80) (x:="script") (CX:=λ_=>CX0) (sp:=λw=>spM (K w.params) (aa defs 80) 69) hn (by decide) U ⟨rfl,by decide,by decide⟩ hY F (λ_ _ a ns hl _ hS=>Gh (BI ns hl) hS) λ_ _ _ _ _ z=>z
end My
open PySem PySem.W PyProof.Rows List Option
set_option maxRecDepth 100000 in
set_option maxHeartbeats 0 in
theorem PySem.Challenge.cw_mothloom_k38_answers_of_the_weaver_keep_holds : PySem.Challenge.rw_mothloom_k38_answers_of_the_weaver_keep.Holds := by
 w_on;o_law;k_head;(case hw=>w_witness2)
 k_fill
 refine My.Kp (l:=PySem.Challenge.rw_mothloom_k38_answers_of_the_weaver_keep) rfl rfl (λw h Y=>PySem.W.kIn_of Y) ?F
 case F =>
  intro w mg fa h KX G hmg
  refine' My.GQ KX G hmg ?hs ?hL ?zs ?gq0 ?rq0
  (case hs =>
   repeat' first|exact MM.vF.nil|apply MM.vF.cons
   all_goals (conv=>arg 2;whnf)
   all_goals first
    | (refine' ⟨rfl,_,_,?ka,.mk' (d0:=.none) ?kl ?kc ?kk,MM.bn1 λ_=>rfl,trivial⟩;(case ka=>k_is);(case kl=>k_is);(case kc=>k_is);(case kk=>k_is))
    | (refine' ⟨rfl,_,_,?ka,.mk' (d0:=.none) ?kl ?kc ?kk,MM.bn2 λ_ _=>rfl,trivial⟩;(case ka=>k_is);(case kl=>k_is);(case kc=>k_is);(case kk=>k_is))
    | (refine' ⟨rfl,_,_,?ka,.mk' (d0:=.none) ?kl ?kc ?kk,MM.bn3 λ_ _ _=>rfl,trivial⟩;(case ka=>k_is);(case kl=>k_is);(case kc=>k_is);(case kk=>k_is))
    | (refine' ⟨rfl,_,_,?ka,.mk' (d0:=.none) ?kl ?kc ?kk,MM.bn4 λ_ _ _ _=>rfl,trivial⟩;(case ka=>k_is);(case kl=>k_is);(case kc=>k_is);(case kk=>k_is))
    | (refine' ⟨rfl,_,_,?ka,.mk' (d0:=.none) ?kl ?kc ?kk,MM.bn5 λ_ _ _ _ _=>rfl,trivial⟩;(case ka=>k_is);(case kl=>k_is);(case kc=>k_is);(case kk=>k_is))
    | (refine' ⟨rfl,_,_,?ka,.mkd ?kl ?kc ?kk,?kb,trivial⟩;(case ka=>k_is);(case kl=>k_is);(case kc=>k_is);(case kk=>k_is);(case kb=>refine' MM.vE rfl ?kx ?ky;(case kx=>k_is);(case ky=>exact λus hl=>match us,hl with|[_,_],_=>⟨_,rfl,rfl⟩))))
  (case hL=>refine' ⟨rfl,_,_,?ka,.mk' (d0:=.none) ?kl ?kc ?kk,MM.bn1 λ_=>rfl,λs v=>.of_eq rfl⟩;(case ka=>k_is);(case kl=>k_is);(case kc=>k_is);(case kk=>k_is))
  (case zs=>intro x hx;simp only[MM.kN,wh,LU,MC]at hx;rcases hx with rfl|rfl|rfl|rfl|rfl|rfl|rfl|rfl|rfl|rfl|rfl|rfl|rfl|rfl|rfl|rfl|rfl<;>k_is)
  (case gq0=>k_is);(case rq0=>exact⟨_,rfl⟩)
