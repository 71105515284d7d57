import PyProof.Rows.All
import Wide.All
import OpenK.AllK
import Wide.FinOn
import Lean
import PyProof.EqAt
import PyProof.EqKinds
import PyProof.TupleCall
import PySem.Challenge.RW_mothloom_k39_whole_a_stand_of_the_moth
set_option Elab.async false
set_option linter.all false
set_option maxRecDepth 100000
set_option genSizeOf false
set_option backward.eqns.nonrecursive false
set_option bootstrap.genMatcherCode false
def ez:=@PySem.wpAny_bind
def ft:=@Option.bind_eq_some_iff
def gf:=@PySem.wpAny_pure
def gx:=@PySem.Heap.get?_push_of_some
def gQ:=@Bool.and_eq_true_iff
def g4:=@Bool.and_eq_true
def il:=@Bool.false_ne_true
def lC:=@Nat.le_refl
def mu:=@Option.map_eq_some_iff
def nA:=@List.length_map
def oe:=@List.size_toArray
def pb:=@PySem.Heap.lt_size
def pd:=@Option.some.injEq
def pe:=@PySem.Heap.get?_push_size
def r4:=@Nat.le_trans
def tf:=@List.mem_cons
def tr:=@List.length_append
def uw:=@Nat.ne_of_lt
def wh:=@Nat.lt_of_lt_of_le
def JX:=@List.map_cons
def JY:=@List.getElem?_eq_some_iff
def JZ:=@Option.some.inj
def J0:=@beq_iff_eq
def J1:=@List.getElem?_eq_getElem
def J2:=@List.mem_filter
def J3:=@decide_eq_true
def J4:=@List.map_map
def J5:=@List.mem_append
def J6:=@Bool.false_eq_true
def J7:=@Bool.not_eq_true'
def J8:=@PySem.wpAny_loadPart'
def J9:=@List.mem_singleton
def Ka:=@List.getElem?_map
def Kb:=@PySem.wpAny_setState_of
def Kc:=@decide_eq_false
def Kd:=@List.map_append
def Ke:=@Nat.zero_le
def Kf:=@PySem.wpAny_ite_split
def Kg:=@PySem.Heap.size_push
def Kh:=@of_decide_eq_true
def Ki:=@List.getElem?_set_ne
def Kj:=@congrArg
def Kk:=@PySem.wpAny_call_entry
def Kl:=@PySem.Heap.SameBut.update
def Km:=@Nat.lt_succ_of_lt
def Kn:=@Nat.lt_of_le_of_lt
def Ko:=@List.mem_map_of_mem
def Kp:=@List.mem_append_right
def Kq:=@PySem.wpAny_mono
def Kr:=@PySem.sizeLine_eq
def Ks:=@Nat.lt_irrefl
def Kt:=@PySem.wpAny_holding
def Ku:=@List.nodup_cons
def Kv:=@PySem.Heap.get?_update_self
def Kw:=@Array.getElem?_toList
def Kx:=@PySem.wpAny_newObj_type
def Ky:=@PyProof.Rows.slot_tuple_getitem
def Kz:=@PySem.wpAny_callSpecial?_slot
def KA:=@decide_eq_true_eq
def KC:=@List.getD_eq_getElem?_getD
def KD:=@List.mem_cons_of_mem
def KG:=@List.mem_flatten
def KH:=@PyProof.Rows.callWith_type1
def KI:=@Nat.add_right_comm
def KJ:=@List.length_eq_zero_iff
def KL:=@Int.emod_lt_of_pos
def KN:=@List.append_assoc
def KP:=@PySem.Heap.get?_update_other
def KQ:=@Bool.eq_iff_iff
def KR:=@Nat.le_antisymm
def KS:=@Nat.not_lt
def KU:=@Int.emod_nonneg
def KW:=@List.perm_ext_iff_of_nodup
def KY:=@Nat.ne_of_gt
def KZ:=@if_false
def K0:=@Nat.add_sub_cancel
def K1:=@List.any_eq_true
def K2:=@PySem.wpAny_isInstance
def K3:=@decide_eq_true_iff
def K4:=@List.mem_cons_self
def K5:=@List.getElem?_append_left
def K6:=@PySem.wpAny_truthy_bool
def K7:=@Nat.le_of_lt_succ
def K8:=@PyProof.Rows.KeyOrd.kle_refl
def K9:=@List.nodup_append
def La:=@Nat.le_of_lt
def Lb:=@List.mem_append_left
def Lc:=@List.mem_of_getElem?
def Ld:=@List.getElem?_set_self
def Le:=@PySem.fits_of_scanBound
def Lf:=@List.mem_range
def Lg:=@Nat.exists_eq_add_of_lt
def Lh:=@beq_eq_false_iff_ne
def Li:=@List.all_eq_true
def Lj:=@List.map_congr_left
def Lk:=@List.length_filter_le
def Ll:=@List.append_nil
def Lm:=@Nat.le_succ
def Ln:=@PySem.wpAny_Call_Name_kw
def Lo:=@Array.getD_eq_getD_getElem?
def Lp:=@Nat.lt_of_le_of_ne
def Lq:=@PySem.wpAny_setField_rec
def Lr:=@List.getElem?_append_right
def Ls:=@PySem.Heap.SameBut.refl
def Lu:=@PySem.wpAny_storeSet_of
def Lv:=@PySem.wpAny_setEpoch_of
def Lw:=@List.find?_cons_of_neg
def Lx:=@PySem.wpAny_rule
def Ly:=@List.nodup_nil
def Lz:=@List.isEmpty_iff
def LA:=@List.flatten_append
def LB:=@beq_self_eq_true
def LC:=@Nat.zero_add
def LD:=@Nat.lt_succ_self
def LF:=@List.eq_nil_of_length_eq_zero
def LG:=@Ne.symm
def LH:=@PySem.tupleKind_room_in1
def LI:=@Nat.le_add_left
def LJ:=@Array.size_extract
def LK:=@Nat.min_eq_left
def LM:=@List.filter_cons_of_neg
def LN:=@PySem.F.slot_dict_valueiterator_next
def LO:=@PySem.richCompare_meets_room
def LP:=@PySem.Calls.callWith_builtin
def LQ:=@Array.getElem?_eq_none
def LR:=@List.not_mem_nil
def LS:=@PySem.wpAny_pyIter_list
def LU:=@Nat.le_of_succ_le
def LV:=@PyProof.Rows.KeyOrd.kle_of_klt
def LW:=@bne_self_eq_false
def LX:=@List.length_eq_one_iff
def LY:=@PySem.codeAny_mono
def LZ:=@PySem.wpAny_typeOf
def L0:=@Nat.le_of_eq
def L1:=@Nat.lt_trans
def L3:=@PySem.builtinLookup_eq_fast
def L4:=@List.length_eraseIdx_of_lt
def L5:=@List.filter_eq_self
def L6:=@PyProof.Rows.KeyOrd.kle_trans
def L7:=@Nat.le_sub_one_of_lt
def L8:=@List.perm_append_comm
def L9:=@List.mem_of_find?_eq_some
def Ma:=@Array.perm_iff_toList_perm
def Mb:=@Bool.not_true
def Mc:=@List.filter_cons
def Md:=@Int.le_refl
def Me:=@List.filterMap_cons_some
def Mf:=@PySem.wpAny_passesOwn
def Mg:=@PySem.W.KasT.kasWp_bind
def Mh:=@Array.getElem?_eq_getElem
def Mi:=@PySem.wpAny_pyIter_tuple
def Mj:=@PySem.Calls.spliced_cons
def Mk:=@List.getElem?_replicate
def Ml:=@PySem.AutoSeq1.sub_tuple_tuple
def Mm:=@Int.le_trans
def Mn:=@List.length_set
def Mo:=@Nat.sub_le
def Mp:=@Array.size_map
def Mq:=@List.length_pos_iff
def Mr:=@Classical.axiomOfChoice
def Ms:=@decide_eq_false_iff_not
def Mt:=@Nat.lt_trichotomy
def Mu:=@PySem.wpAny_collect_seq
def Mv:=@List.find?_cons_of_pos
def Mw:=@Nat.lt_of_succ_lt_succ
def Mx:=@LawfulMonad.bind_assoc
def Mz:=@List.pairwise_cons
def MA:=@PySem.plainId_quiet
def MB:=@PySem.wpAny_attempt
def MC:=@List.find?_eq_none
def MF:=@Bool.true_and
def MG:=@Nat.le_add_right
def MH:=@or_false
def MI:=@PySem.wpAny_specialOf
def MJ:=@PySem.codeAny_builtin
def MK:=@PySem.Around.under_plainId
def ML:=@PySem.typeLookup_type
def MN:=@PySem.wpAny_updateSeq
def MO:=@List.length_range
def MP:=@List.cons.injEq
def MQ:=@List.drop_eq_getElem_cons
def MR:=@Nat.add_sub_cancel'
def MT:=@PySem.wpAny_setEntries_of
def MU:=@List.filterMap_cons_none
def MW:=@Bool.false_and
def MX:=@PySem.isSubtype_type
def MY:=@PySem.wpAny_fieldsOf
def MZ:=@List.getElem_of_mem
def M0:=@Option.map_map
def M1:=@PySem.wpAny_of_eq
def M3:=@Nat.lt_or_eq_of_le
def M4:=@PySem.wpAny_forIn_array'
def M5:=@Int.fdiv_eq_ediv_of_nonneg
def M6:=@Array.getElem?_append_left
def M7:=@PySem.Value.isInt_shape
def M8:=@PySem.Calls.spliced_nil
def M9:=@PySem.wpAny_pyIter_slot
def Na:=@PySem.call_meets
def Nb:=@PySem.intKind_is
def Nc:=@List.find?_some
def Nd:=@Classical.byContradiction
def Nf:=@PySem.concat_meets
def Ng:=@PySem.noFill_tuple_add
def Nh:=@Nat.lt_asymm
def Ni:=@List.ext_getElem?
def Nj:=@map_eq_pure_bind
def Nk:=@List.all_map
def Nl:=@Nat.min_self
def Nm:=@PySem.wpAny_askSetting
def Nn:=@Bool.not_eq_true
def Np:=@decide_eq_decide
def Nq:=@Bool.or_eq_true
def Nr:=@List.length_take
def Nt:=@List.getElem_mem
def Nu:=@List.mem_reverse
def Nv:=@Nat.sub_lt
def Nw:=@Nat.mod_lt
abbrev Nx:=PySem.W.Frag
def aD{P:Prop}(h:∀Q:Prop,(P->Q)->Q):P:=h P id
namespace L2
open PySem PySem.Spec PyProof.Rows List Option
noncomputable abbrev Key:=Sum Int Str
noncomputable def lG:Key->Value->Bool
 | .inl k,v=>Value.isInt k v
 | .inr x,v=>Value.isStrOf x v
noncomputable def Jb(w:World):Key->Int
 | .inl k=>hashInt k
 | .inr x=>hashStr w x
def bS:∀{k}{v},lG k v=true->(∃i t,k=Sum.inl i/\v=Value.int i t)\/(∃x t,k=Sum.inr x/\v=Value.str x t)
 | .inl i,v,h=>by
  obtain⟨t,e⟩:=M7 (k:=i) (v:=v) h;exact .inl ⟨i,t,rfl,e⟩
 | .inr x,v,h=>by
  obtain⟨t,e⟩:=Value.isStrOf_shape (x:=x) (v:=v) h;exact .inr ⟨x,t,rfl,e⟩
def wm(i)(t):lG (.inl i) (.int i t)=true:=by simp[lG,Value.isInt]
def wn(x)(t):lG (.inr x) (.str x t)=true:=by simp[lG,Value.isStrOf]
def Dw(a b):decide ((Sum.inl a:Key)=Sum.inl b)=(a==b):=by
 by_cases e:a=b
 .subst e;simp
 .simp_all
def Dx(a b):decide ((Sum.inr a:Key)=Sum.inr b)=decide (a=b):=by simp
def Dy(a)(b):decide ((Sum.inl a:Key)=Sum.inr b)=false:=rfl
def Dz(a)(b):decide ((Sum.inr a:Key)=Sum.inl b)=false:=rfl
noncomputable def bF(prog)(w):PySem.KeyKind prog w Key where
 is:=lG
 hash:=Jb w
 inj:=λv a b J D=>by
  rcases bS J with⟨i,t,rfl,rfl⟩|⟨x,t,rfl,rfl⟩
  .rcases bS D with⟨j,u,rfl,e⟩|⟨y,u,rfl,e⟩
   .injection e with z _;rw[z]
   .exact nomatch e
  .rcases bS D with⟨j,u,rfl,e⟩|⟨y,u,rfl,e⟩
   .exact nomatch e
   .injection e with z _;rw[z]
 byValue:=λk v h=>by
  rcases bS h with⟨i,t,rfl,rfl⟩|⟨x,t,rfl,rfl⟩<;>rfl
 pyHash:=λhv h=>by
  rcases bS hv with⟨i,t,rfl,rfl⟩|⟨x,t,rfl,rfl⟩
  .exact wpAny_pyHash_int h
  .exact wpAny_pyHash_str h
 eqBool:=λU hv h=>by
  rcases bS U with⟨i,t,rfl,rfl⟩|⟨x,t,rfl,rfl⟩
  .rcases bS hv with⟨j,u,rfl,rfl⟩|⟨y,u,rfl,rfl⟩
   .rw[Dw]at h;exact wpAny_eqBool_int h
   .rw[Dy]at h;exact SeqAt.EqAt.int_str i t y u _ _ _ _ h
  .rcases bS hv with⟨j,u,rfl,rfl⟩|⟨y,u,rfl,rfl⟩
   .rw[Dz]at h;exact SeqAt.EqAt.str_int x t j u _ _ _ _ h
   .rw[Dx]at h;exact wpAny_eqBool_str h
 «strs»:=λk x t v h=>by
  rcases bS h with⟨i,u,rfl,e⟩|⟨y,u,rfl,e⟩
  .exact nomatch e
  .injection e with z _
   subst z;cases v<;>rfl
def tm(prog:Program)(w:World)(k:Key)(v:Value):(bF prog w).is k v=lG k v:=rfl
def rg(prog)(w)(i)(t):(bF prog w).is (.inl i) (.int i t)=true:=wm i t
def rh(prog)(w)(x)(t):(bF prog w).is (.inr x) (.str x t)=true:=wn x t
inductive V where
 | non|bl (b:Bool)|int (i:Int)|str (x:Str)|byt (b:Array UInt8)|flt (b:UInt64)|ref (a:Addr)|ty (n:String)
 deriving DecidableEq
def aF:V->Value->Prop
 | .non,u=>u=Value.none
 | .bl b,u=>u=Value.bool b
 | .int i,u=>∃t,u=Value.int i t
 | .str x,u=>∃t,u=Value.str x t
 | .byt b,u=>∃t,u=Value.bytes b t
 | .flt b,u=>∃t,u=Value.float b t
 | .ref a,u=>u=Value.ref a
 | .ty n,u=>u=Value.type n
abbrev aH:List V->List Value->Prop:=Paired aF
theorem aH.length(r:aH xs us):xs.length=us.length:=Paired.length r
theorem aH.get:∀{xs}{us}{i:Nat}{x},aH xs us->xs[i]?=some x->∃u,us[i]?=some u/\aF x u
 | _,_,_,_,.nil,e=>by simp at e
 | _,_,0,_,.cons r _,e=>by simp at e;subst e;exact⟨_,rfl,r⟩
 | _,_,i+1,x,.cons _ t,e=>by
  obtain⟨u,h1,h2⟩:=aH.get (i:=i) (x:=x) t (by simpa using e);exact⟨u,by simpa using h1,h2⟩
theorem aH.set(r:aF x u):∀{xs}{us} i,aH xs us->aH (xs.set i x) (us.set i u)
 | _,_,_,.nil=>.nil
 | _,_,0,.cons _ t=>.cons r t
 | _,_,i+1,.cons q t=>.cons q (aH.set r i t)
theorem aH.append:∀{xs ys}{us z},aH xs us->aH ys z->aH (xs++ys) (us++z)
 | _,_,_,_,.nil,s=>s
 | _,_,_,_,.cons r t,s=>.cons r (aH.append t s)
theorem aH.take:∀{xs}{us} n,aH xs us->aH (xs.take n) (us.take n)
 | _,_,0,_=>.nil
 | _,_,_+1,.nil=>.nil
 | _,_,n+1,.cons r t=>.cons r (aH.take n t)
theorem aH.drop:∀{xs}{us} n,aH xs us->aH (xs.drop n) (us.drop n)
 | _,_,0,r=>r
 | _,_,_+1,.nil=>.nil
 | _,_,n+1,.cons _ t=>aH.drop n t
def l5:Option V->Option Value->Prop
 |some v,some u=>aF v u
 |none,none=>True
 | _,_=>False
def KV :List (g×V)->List (g×Value)->Prop:=Paired λp q=>p.1=q.1/\aF p.2 q.2
noncomputable def kV:Key->V
 | .inl i=>.int i
 | .inr x=>.str x
inductive HO where
 | lst (xs:List V)
 | tup (xs:List V)
 | dK (kvs:List (Key×V))|dT (kvs:List (List Key×V))
 | set (S:Int->Bool) (n:Nat)
 | ins (C dx:Addr) (fs:List (Str×V))
 | own (x:Addr)
 | xd (fs:List (Str×V))
 | met (f x:Addr)
 | rng (lo hi:Int)
 | frz (o:Obj) (u:HO)
 | tbl (ps:Array Value)
 | ext (φ:Heap->Prop)
noncomputable abbrev Hp:=Addr->Option HO
noncomputable def upd(H:Hp)(a:Addr)(o:HO):Hp:=λb=>if b=a then some o else H b
def ay :upd H a o a=some o:=by unfold upd;rw[if_pos rfl]
def aZ(h:b≠a):upd H a o b=H b:=by unfold upd;rw[if_neg h]
def GA{H:Hp}{a b:Addr}{o u:HO}(h:H a=some o)(h':H b=some u)(d:o≠u):a≠b:=by
 intro e;subst e;rw[h]at h';exact d (JZ h')
def cD{H:Hp}{a b:Addr}{o:HO}(h:H a=some o)(h':H b=none):a≠b:=by
 intro e;subst e;rw[h]at h';cases h'
section
variable(P:Program)(w:World)
def bK(H:Hp)(h:Heap)(a:Addr):HO->Prop
 | .lst xs=>xs.length<=sizeLine/\∃its n,aH xs its/\h.get? a=some { cls:=.type "list",data:=.seq its.toArray n }
 | .tup xs=>xs.length<=sizeLine/\∃its,aH xs its/\IsTup h a its.toArray
 | .dK kvs=>kvs.length<=sizeLine/\(a==sysModules)=false/\∃vs,KV kvs vs/\h.DictOf (bF P w) a vs
 | .dT kvs=>kvs.length<=sizeLine/\(a==sysModules)=false/\∃xs,
   Paired (λp q=>p.1=q.1/\H q.2.1=some (.tup (p.1.map kV))/\aF p.2 q.2.2) kvs xs /\
   ∃o es ep,h.get? a=some o/\o.ExactDict/\o.data=.dict es ep/\es.toList=xs.map (entryOfKey (tupleKind (bF P w)))/\(xs.map (·.1)).Nodup
 | .set S n=>h.SetOf (intKind P w) a S n
 | .ins C dx fs=>H dx=some (.own a)/\fs.length<=1000/\dx≠a/\h.get? a=some (PySem.W.instObj C dx) /\
   ∃mA,h.Ns1 dx mA/\(∀f,l5 (fs.lookup f) (mA f))/\PySem.Within mA (fs.map (·.1))
 | .own _=>∃o,h.get? a=some o
 | .xd fs=>∃mA,h.Ns1 a mA/\∀f,l5 (fs.lookup f) (mA f)
 | .rng lo hi=>∃t u v,h.get? a=some { cls:=.type "range",data:=.fields #[.int lo t,.int hi u,.int 1 v] }
 | .frz o u=>h.get? a=some o/\bK H h a u
 | .tbl ps=>h.get? a=some { cls:=.none,data:=.fields ps }
 | .met f x=>h.get? a=some (PySem.W.methodObj (.ref f) (.ref x))
 | .ext z=>z h/\(∃o,h.get? a=some o)/\∀h1 h2,z h1->(∀o,h1.get? a=some o->h2.get? a=some o)->z h2
def HOk(H:Hp)(h:Heap):Prop:=∀a o,H a=some o->bK P w H h a o
end
section
variable{P:Program}{w:World}{H H':Hp}{h h':Heap}{a:Addr}{o:HO}
theorem bK.lt(x:bK P w H h a o):a<h.objs.size:=by
 cases o with
 |own y=>obtain⟨_,e⟩:=x;exact pb e
 |xd fs=>obtain⟨_,⟨_,_,_,e,_⟩,_⟩:=x;exact pb e
 |ext z=>obtain⟨_,⟨_,e⟩,_⟩:=x;exact pb e
 |lst xs=>obtain⟨_,_,_,_,e⟩:=x;exact pb e
 |tup xs=>obtain⟨_,_,_,p⟩:=x;exact p.lt
 |set S n=>obtain⟨o,_,_,_,e,_⟩:=x;exact pb e
 |frz D u=>obtain⟨e,_⟩:=x;exact pb e
 |rng lo hi=>obtain⟨_,_,_,e⟩:=x;exact pb e
 |ins C dx fs=>obtain⟨_,_,_,e,_⟩:=x;exact pb e
 |dK kvs|dT kvs=>obtain⟨_,_,_,_,o,_,_,e,_⟩:=x;exact pb e
 | _=>exact pb (show h.get? a=some _ from x)
theorem Paired.mapP :∀{l₁}{l₂},Paired F l₁ l₂->(∀a b,F a b->G a b)->Paired G l₁ l₂
 | _,_,.nil,_=>.nil
 | _,_,.cons r t,f=>.cons (f _ _ r) (Paired.mapP t f)
def bK.stay(x:bK P w H h a o)(k:∀b u,(b=a\/H b=some (.own a))->h.get? b=some u->h'.get? b=some u)
  (ho:∀b,H b=some (.own a)->H' b=some (.own a)) (U:∀b xs,H b=some (.tup xs)->H' b=some (.tup xs)):bK P w H' h' a o:=by
 induction o with
 |lst xs=>obtain⟨z,its,n,r,e⟩:=x;exact⟨z,its,n,r,k _ _ (.inl rfl) e⟩
 |tup xs=>obtain⟨z,its,r,D,e,c⟩:=x;exact⟨z,its,r,D,k _ _ (.inl rfl) e,c⟩
 |dK kvs=>obtain⟨z,y,vs,r,D,es,ep,e,c⟩:=x;exact⟨z,y,vs,r,D,es,ep,k _ _ (.inl rfl) e,c⟩
 |dT kvs =>
  obtain⟨z,y,xs,r,D,es,ep,e,c⟩:=x;exact⟨z,y,xs,Paired.mapP r λp q z=>⟨z.1,U _ _ z.2.1,z.2.2⟩,D,es,ep,k _ _ (.inl rfl) e,c⟩
 |set S n=>obtain⟨D,es,ep,t,e,c⟩:=x;exact⟨D,es,ep,t,k _ _ (.inl rfl) e,c⟩
 |ins C dx fs =>
  obtain⟨d,z,ne,e,mA,⟨J,es,ep,Y,c⟩,r⟩:=x;exact⟨ho _ d,z,ne,k _ _ (.inl rfl) e,mA,⟨J,es,ep,k _ _ (.inr d) Y,c⟩,r⟩
 |own y=>obtain⟨D,e⟩:=x;exact⟨D,k _ _ (.inl rfl) e⟩
 |xd fs=>obtain⟨mA,⟨J,es,ep,e,c⟩,r⟩:=x;exact⟨mA,⟨J,es,ep,k _ _ (.inl rfl) e,c⟩,r⟩
 |rng lo hi=>obtain⟨t,u,v,e⟩:=x;exact⟨t,u,v,k _ _ (.inl rfl) e⟩
 |frz D u ih=>obtain⟨e,q⟩:=x;exact⟨k _ _ (.inl rfl) e,ih q⟩
 |tbl ps =>
  have e:=x;exact k a _ (.inl rfl) e
 |met f y =>
  have e:=x;exact k a _ (.inl rfl) e
 |ext Z=>obtain⟨p,⟨o,e⟩,st⟩:=x;exact⟨st _ _ p λo q=>k _ _ (.inl rfl) q,⟨o,k _ _ (.inl rfl) e⟩,st⟩
theorem HOk.lt(x:HOk P w H h)(e:H a=some o):a<h.objs.size:=(x a o e).lt
def HOk.fresh(x:HOk P w H h)(e:h.objs.size<=a):H a=none:=by
 cases q:H a<;>first|rfl|exact absurd (wh (x.lt q) e) (Ks _)
theorem HOk.kept(x:HOk P w H h)(k:∀b u,h.get? b=some u->h'.get? b=some u):HOk P w H h':=λa o e =>
 (x a o e).stay (λb u _ q=>k b u q) (λ_ q=>q) λ_ _ q=>q
theorem HOk.laid(x:HOk P w H h)(k:∀b u,h.get? b=some u->h'.get? b=some u)(J:h.objs.size<=a)(new:bK P w (upd H a o) h' a o):HOk P w (upd H a o) h':=λb u e=>by
 have z:=x.fresh J;by_cases D:b=a
 .subst D;rw[ay]at e;cases e;exact new
 .rw[aZ D]at e;exact(x b u e).stay (λc v _ q=>k c v q) (λc q=>by rw[aZ (cD q z)];exact q) λc xs q=>by rw[aZ (cD q z)];exact q
end
def Rd(H:Hp)(a:Addr)(u:HO):Prop:=H a=some u\/∃o,H a=some (.frz o u)
theorem Rd.ok(r:Rd H a u)(x:HOk P w H h):bK P w H h a u:=by
 rcases r with r|⟨o,r⟩
 .exact x a u r
 .obtain⟨_,q⟩:=x a _ r;exact q
def Mut:Option HO->Prop
 |some (.lst _)=>True
 |some (.dK _)=>True
 |some (.dT _)=>True
 |some (.set _ _)=>True
 |some (.ins _ _ _)=>True
 |some (.ext _)=>True
 | _=>False
section
variable{P:Program}{w:World}{H:Hp}{h h':Heap}{x e:Addr}{o':HO}
def HOk.write(ok:HOk P w H h)(Y:Mut (H x))(he:e=x\/H e=some (.own x))(k:∀b u,b≠e->h.get? b=some u->h'.get? b=some u)(Z:∃u,h'.get? e=some u)
  (new:bK P w (upd H x o') h' x o'):HOk P w (upd H x o') h':=λb u q=>by
 have J:∀c y,H c=some (.own y)->c≠x:=λc y r z=>by subst z;rw[r]at Y;exact Y
 have U:∀c xs,H c=some (.tup xs)->c≠x:=λc xs r z=>by subst z;rw[r]at Y;exact Y
 by_cases hb:b=x
 .subst hb;rw[ay]at q;cases q;exact new
 .rw[aZ hb]at q;by_cases D:b=e
  .have q':H b=some (.own x):=by
    rcases he with z|z
    .exact absurd (D.trans z) hb
    .rw[D];exact z
   rw[q]at q';cases q'
   obtain⟨v,hv⟩:=Z;exact⟨v,by rw[D];exact hv⟩
  .refine(ok b u q).stay (λc v hc r=>k c v ?_ r) (λc r=>by rw[aZ (J c b r)];exact r) λc xs r=>by rw[aZ (U c xs r)];exact r
   rcases hc with rfl|hc
   .exact D
   .rintro rfl
    simp_all
end
structure Un(fs ex:List Addr)(H H':Hp)(h h':Heap):Prop where
 keep:∀b o,h.get? b=some o->H b=none->b∉fs->b∉ex->h'.get? b=some o
 slot:∀b o,h.get? b=some o->H b=none->b∈fs->b∉ex->∃sl,h'.get? b=some { o with slots:=sl }
 free:∀b o,h.get? b=some o->H b=none->b∉ex->H' b=none
 there:∀b o,h.get? b=some o->b∉ex->∃o',h'.get? b=some o'
 tups:∀b xs,H b=some (.tup xs)->H' b=some (.tup xs)
 frzs:∀b o u,H b=some (.frz o u)->H' b=some (.frz o u)
 tbls:∀b ps,H b=some (.tbl ps)->∃more,H' b=some (.tbl (ps++more))
section
variable{fs fs' ex ex':List Addr}{H H1 H2:Hp}{h h1 h2 h':Heap}{a x e:Addr}{o:HO}
theorem Un.any(u:Un fs ex H H1 h h1)(q:h.get? b=some z)(n:H b=none)(hx:b∉ex):∃J,h1.get? b=some { z with slots:=J }:=by
 by_cases D:b∈fs
 .exact u.slot b z q n D hx
 .exact⟨z.slots,u.keep b z q n D hx⟩
def Un.kept(k:∀b u,h.get? b=some u->h'.get? b=some u):Un fs ex H H h h':=
 ⟨λb z q _ _ _=>k b z q,λb z q _ _ _=>⟨z.slots,k b z q⟩,λ_ _ _ n _=>n,λb z q _=>⟨z,k b z q⟩,λ_ _ q=>q,λ_ _ _ q=>q,λ_ ps q=>⟨#[],by rw[q];simp⟩⟩
def Un.refl:Un fs ex H H h h:=Un.kept λ_ _ q=>q
def Un.laid(k:∀b u,h.get? b=some u->h'.get? b=some u)(D:h.objs.size<=a)(z:H a=none):Un fs ex H (upd H a o) h h' where
 keep:=λb u q _ _ _=>k b u q
 slot:=λb u q _ _ _=>⟨u.slots,k b u q⟩
 free:=λb u q n _=>by rw[aZ (uw (wh (pb q) D))];exact n
 there:=λb u q _=>⟨u,k b u q⟩
 tups:=λb xs q=>by rw[aZ (cD q z)];exact q
 frzs:=λb u xs q=>by rw[aZ (cD q z)];exact q
 tbls:=λb ps q=>⟨#[],by rw[aZ (cD q z),q];simp⟩
def Un.write(J:Mut (H x))(he:e=x\/H e=some (.own x))(k:∀b u,b≠e->h.get? b=some u->h'.get? b=some u)(U:∃u,h'.get? e=some u):Un fs ex H (upd H x o) h h':=by
 have hx:∀b,H b=none->b≠x:=λb n z=>by subst z;rw[n]at J;exact J
 have Z:∀b,H b=none->b≠e:=λb n z=>by
  simp_all
 have Y:∀b u,H b=some u->¬ Mut (some u)->b≠x:=λb u q nm z=>by subst z;rw[q]at J;exact nm J
 refine⟨λb u q n _ _=>k b u (Z b n) q,λb u q n _ _=>⟨u.slots,k b u (Z b n) q⟩,λb u q n _=>by rw[aZ (hx b n)];exact n,λb u q _=>?_,
  λb xs q=>by rw[aZ (Y b _ q λz=>z)];exact q,λb u xs q=>by rw[aZ (Y b _ q λz=>z)];exact q,λb ps q=>⟨#[],by rw[aZ (Y b _ q λz=>z),q];simp⟩⟩
 by_cases D:b=e
 .subst D;exact U
 .exact⟨u,k b u D q⟩
end
noncomputable def trk(h:Heap)(H:Hp):List Addr:=(range h.objs.size).filter λa=>(H a).isSome
noncomputable def pV(h:Heap)(H:Hp):Heap:=PySem.W.hideAll h (trk h H)
def wo(h)(H):(pV h H).objs.size=h.objs.size:=PySem.W.hideAll_size _ _
def xI{H:Hp}{b:Addr}{o:Obj}(e:h.get? b=some o)(n:H b=none):(pV h H).get? b=some o:=
 PySem.W.hideAll_get _ e λhm=>by
  have q:=(J2.mp hm).2;rw[n]at q;simp at q
def Bf(e:(pV h H).get? b=some o):h.get? b=some o/\H b=none:=by
 have D:=PySem.W.of_hideAll _ e;refine⟨D,?_⟩;cases q:H b with
 |none=>rfl
 |some x =>
  have J:b∈trk h H:=J2.mpr ⟨Lf.mpr (pb D),by simp[q]⟩;have z:(pV h H).get? b=none:=PySem.W.hideAll_none _ J;rw[z]at e;cases e
noncomputable def Bg(g h:Heap)(L:Addr):List (Addr×Obj):=(range h.objs.size).filterMap λa=>if a=L\/(g.get? a).isSome=true then none else(h.get? a).map λo=>(a,o)
noncomputable def bT(g h:Heap)(L d:Addr):List (Addr×Obj):=(Bg g h L).filter λp=>decide (p.1≠d)
structure Mod(K:Nx)(mg:Str->Option Value)(base:Heap):Prop where
 kin:K.In base
 glob:base.Ns mainGlobals mg
 blt:∃mb,base.Ns builtinsNs mb/\∀x:Str,x ≠ "__name__"->mb x=bootBuiltins x
 nolimit:base.NoLimit
structure Cx where
 prog:Program
 w:World
 K:Nx
 mg:Str->Option Value
 base:Heap
 A:Around
 N:List Str
 s₀:Shared
 H₀:Hp
 env:Env
 outer:List Env
 stack:List Env
 ex:List Addr
 fn:Str->Bool
 calm:Bool
 pn:List (Addr×Obj)
 xe:Value->Shared->Prop
noncomputable def frs(l:List Env):List Addr:=l.filterMap (·.frame)
noncomputable abbrev Cx.fs(X:Cx):List Addr:=frs X.outer
def Vis(sc:Scope)(x:Str):Prop:=sc.names.lookup x=some .local\/sc.names.lookup x=some .cell\/sc.names.lookup x=some .free
def Loc(sc:Scope)(x:Str):Prop:=sc.names.lookup x=some .local\/sc.names.lookup x=some .cell
def Jc(env:Env)(h:Heap)(m:Str->Option Value)(x:Str)(u:Value):Prop:=
 (env.kindOf x=some .local/\m x=some u)\/((env.kindOf x=some .cell\/env.kindOf x=some .free)/\∃c,env.cells.lookup x=some c/\h.IsCell c (some u))
structure Cx.Ok(X:Cx):Prop where
 mod:Mod X.K X.mg X.base
 kind:X.env.scope.kind=.function
 glob:X.env.globals=mainGlobals
 blt:X.env.builtins=builtinsNs
 above:X.s₀.heap.objs.size<=X.env.locals
 inj:∀x y c,X.env.cells.lookup x=some c->X.env.cells.lookup y=some c->x=y
 has:∀x,(X.env.kindOf x=some .cell\/X.env.kindOf x=some .free)->∃c,X.env.cells.lookup x=some c
 cab:∀x c,X.fn x=true->X.env.cells.lookup x=some c->X.s₀.heap.objs.size<=c
 hd:X.calm=true->X.A.handled=none
 frames:X.A.frames=some X.stack
 stk:X.stack=X.outer\/(X.stack=X.env::X.outer/\X.env.frame=some X.env.locals)
 exf:∀b∈X.ex,b≠X.env.locals/\∀x c,X.env.cells.lookup x=some c->c≠b
 bs:∀b o,X.base.get? b=some o->X.s₀.heap.get? b=some o/\X.H₀ b=none
 bsz:X.base.objs.size<=X.s₀.heap.objs.size
 noex:∀b o,X.base.get? b=some o->b∉X.ex
 exfs:∀b∈X.ex,b∉X.fs
 funs:X.s₀.heap.FunFrames X.base X.outer
 frf:∀b∈X.fs,X.H₀ b=none
structure Inv(X:Cx)(pins:List (Addr×Obj))(σ:List (Option V))(H:Hp)(s:Shared):Prop where
 ok:X.Ok
 os:s.os=X.s₀.os
 bare:AllBare s.gens
 base:Un X.fs X.ex X.H₀ H X.s₀.heap s.heap
 loc:∃m,s.heap.Ns X.env.locals m/\∀(i:Nat) (x:Str) (v:V),X.N[i]?=some x->σ[i]?=some (some v)->Vis X.env.scope x->∃u,aF v u/\Jc X.env s.heap m x u
 cell:∀x c,X.env.cells.lookup x=some c->∃v,s.heap.IsCell c v
 free:H X.env.locals=none
 freeC:∀x c,X.env.cells.lookup x=some c->H c=none
 pin:∀p∈X.pn++pins,s.heap.get? p.1=some p.2/\H p.1=none/\p.1≠X.env.locals/\p.1∉X.fs/\∀v,p.2.data≠.cell v
 hok:HOk X.prog X.w H s.heap
 len:σ.length=X.N.length
section
variable{X:Cx}{pins:List (Addr×Obj)}{σ:List (Option V)}{H H':Hp}{s:Shared}{h':Heap}
theorem Cx.Ok.nofr(ok:X.Ok)(e:X.base.get? b=some o):b∉X.fs:=λz=>by
 have:=(ok.funs.mem z).1;rw[e]at this;cases this
theorem Inv.bs(I:Inv X pins σ H s):∀b o,X.base.get? b=some o->s.heap.get? b=some o/\H b=none:=λb o e =>
 ⟨I.base.keep b o (I.ok.bs b o e).1 (I.ok.bs b o e).2 (I.ok.nofr e) (I.ok.noex b o e),I.base.free b o (I.ok.bs b o e).1 (I.ok.bs b o e).2 (I.ok.noex b o e)⟩
theorem Inv.bk(I:Inv X pins σ H s):∀b o,X.base.get? b=some o->s.heap.get? b=some o:=λb o e=>(I.bs b o e).1
theorem Inv.mod(I:Inv X pins σ H s):Mod X.K X.mg X.base:=I.ok.mod
theorem Inv.kIn(I:Inv X pins σ H s):X.K.In s.heap:=I.ok.mod.kin.keeps I.bk
theorem Inv.lt(I:Inv X pins σ H s):X.env.locals<s.heap.objs.size:=let ⟨_,z,_⟩:=I.loc;z.lt
theorem Inv.sz(I:Inv X pins σ H s):X.s₀.heap.objs.size<=s.heap.objs.size:=r4 I.ok.above (La I.lt)
theorem Inv.nofs(I:Inv X pins σ H s)(h:s.heap.objs.size<=a):a∉X.fs:=λz=>by
 obtain⟨_,o,ho,_⟩:=I.ok.funs.mem z;exact absurd (wh (pb ho) (r4 I.sz h)) (Ks _)
theorem Inv.cne(I:Inv X pins σ H s):∀x c,X.env.cells.lookup x=some c->c≠X.env.locals:=λx c e z=>by
 obtain⟨v,o,ho,hd⟩:=I.cell x c e;obtain⟨m,⟨o',es,ep,D,J,_⟩,_⟩:=I.loc
 simp_all
theorem Inv.funs(I:Inv X pins σ H s):s.heap.FunFrames X.base X.outer:=by
 have all:∀l,(∀b∈frs l,b∈X.fs)->X.s₀.heap.FunFrames X.base l->s.heap.FunFrames X.base l:=by
  intro l
  induction l with
  |nil=>intro _ _;trivial
  |cons env r ih =>
   intro hs U;obtain⟨Y,⟨L,o,D,Z,ho,hd⟩,hr⟩:=U;have hL:=hs L (by unfold frs;rw[filterMap_cons,D];exact K4);obtain⟨sl,e⟩:=I.base.slot L o ho (I.ok.frf L hL) hL λz=>I.ok.exfs L z hL
   exact⟨Y,⟨L,_,D,Z,e,hd⟩,ih (λb J=>hs b (by unfold frs;rw[filterMap_cons,D];exact KD _ J)) hr⟩
 exact all X.outer (λ_ J=>J) I.ok.funs
theorem Inv.stack(I:Inv X pins σ H s):s.heap.FunFrames X.base X.stack:=by
 rcases I.ok.stk with e|⟨e,z⟩
 .rw[e];exact I.funs
 .rw[e];obtain⟨m,D,_⟩:=I.loc;refine .cons (by rw[I.ok.kind];decide) z D ?_ I.funs;exact Heap.get?_none_of_le (r4 I.ok.bsz I.ok.above)
def Inv.stkSub(I:Inv X pins σ H s):∀b∈frs X.stack,b∈X.env.locals::X.fs:=λb z=>by
 rcases I.ok.stk with e|⟨e,D⟩
 .rw[e]at z;exact KD _ z
 .rw[e]at z;unfold frs at z;rw[filterMap_cons,D]at z;exact z
def Inv.stkFree(I:Inv X pins σ H s):∀b∈frs X.stack,H b=none:=λb D=>by
 rcases tf.mp (I.stkSub b D)with e|D
 .rw[e];exact I.free
 .obtain⟨_,o,ho,_⟩:=I.ok.funs.mem D;exact I.base.free b o ho (I.ok.frf b D) λz=>I.ok.exfs b z D
theorem Inv.step{ch:List Addr}(I:Inv X pins σ H s)
  (D:∀b∈ch,(b∈X.ex\/X.s₀.heap.objs.size<=b)/\b≠X.env.locals/\(∀x c,X.env.cells.lookup x=some c->c≠b)/\∀p∈X.pn++pins,p.1≠b)
  (keep:∀b o,b≠X.env.locals->b∉X.fs->b∉ch->s.heap.get? b=some o->H b=none->h'.get? b=some o)
  (slot:∀b o,b≠X.env.locals->b∈X.fs->b∉ch->s.heap.get? b=some o->H b=none->∃sl,h'.get? b=some { o with slots:=sl }) (free:∀b o,b∉ch->s.heap.get? b=some o->H b=none->H' b=none)
  (there:∀b o,b∉ch->s.heap.get? b=some o->∃o',h'.get? b=some o')
  (tups:∀b xs,H b=some (.tup xs)->H' b=some (.tup xs)) (frzs:∀b o u,H b=some (.frz o u)->H' b=some (.frz o u)) (tbls:∀b ps,H b=some (.tbl ps)->∃aO,H' b=some (.tbl (ps++aO)))
  (ns:∀m,s.heap.Ns X.env.locals m->h'.Ns X.env.locals m) (hok:HOk X.prog X.w H' h') (hg:AllBare g') :
  Inv X pins σ H' { s with heap:=h',gens:=g',drawn:=d',toks:=t' }:=by
 have a0:∀b o,X.s₀.heap.get? b=some o->b≠X.env.locals:=λb o e=>uw (wh (pb e) I.ok.above)
 have Y:∀b o,X.s₀.heap.get? b=some o->b∉X.ex->b∉ch:=λb o e hx hb=>by
  rcases(D b hb).1 with z|z
  .exact hx z
  .exact absurd (wh (pb e) z) (Ks _)
 have J:∀x c,X.env.cells.lookup x=some c->∀v,s.heap.IsCell c v->h'.IsCell c v:=λx c e v ⟨o,ho,hd⟩=>by
  have U:c∉ch:=λz=>(D c z).2.2.1 x c e rfl
  by_cases hc:c∈X.fs
  .obtain⟨sl,q⟩:=slot c o (I.cne x c e) hc U ho (I.freeC x c e);exact⟨_,q,hd⟩
  .exact⟨o,keep c o (I.cne x c e) hc U ho (I.freeC x c e),hd⟩
 refine⟨I.ok,I.os,hg,⟨λb o e n hb hx=>?_,λb o e n hb hx=>?_,λb o e n hx=>?_,λb o e hx=>?_,λb xs e=>tups b xs (I.base.tups b xs e),λb o xs e=>frzs b o xs (I.base.frzs b o xs e),λb ps e=>?_⟩,?_,λx c e=>?_,?_,λx c e=>?_,λp hp=>?_,hok,I.len⟩
 .exact keep b o (a0 b o e) hb (Y b o e hx) (I.base.keep b o e n hb hx) (I.base.free b o e n hx)
 .obtain⟨sl,Z⟩:=I.base.slot b o e n hb hx;obtain⟨a3,e2⟩:=slot b _ (a0 b o e) hb (Y b o e hx) Z (I.base.free b o e n hx);exact⟨a3,e2⟩
 .obtain⟨o',Z⟩:=I.base.there b o e hx;exact free b o' (Y b o e hx) Z (I.base.free b o e n hx)
 .obtain⟨o',Z⟩:=I.base.there b o e hx;exact there b o' (Y b o e hx) Z
 .obtain⟨m1,Z⟩:=I.base.tbls b ps e;obtain⟨m2,e2⟩:=tbls b _ Z;exact⟨m1++m2,by rw[e2,Array.append_assoc]⟩
 .obtain⟨m,hn,hl⟩:=I.loc;refine⟨m,ns m hn,λi x v Z e2 e3=>?_⟩;obtain⟨u,r,l⟩:=hl i x v Z e2 e3;refine⟨u,r,?_⟩;rcases l with l|⟨k,c,e,z⟩
  .exact .inl l
  .exact .inr ⟨k,c,e,J x c e _ z⟩
 .obtain⟨v,z⟩:=I.cell x c e;exact⟨v,J x c e v z⟩
 .obtain⟨m,⟨o,_,_,ho,_⟩,_⟩:=I.loc;exact free _ o (λz=>(D _ z).2.1 rfl) ho I.free
 .obtain⟨v,o,ho,hd⟩:=I.cell x c e;exact free c o (λz=>(D c z).2.2.1 x c e rfl) ho (I.freeC x c e)
 .obtain⟨e,n,ne,nf,d⟩:=I.pin p hp;have U:p.1∉ch:=λz=>(D p.1 z).2.2.2 p hp rfl
  exact⟨keep p.1 p.2 ne nf U e n,free p.1 p.2 U e n,ne,nf,d⟩
theorem Inv.un(I:Inv X pins σ H s)(u:Un X.fs [] H H' s.heap h')(hok:HOk X.prog X.w H' h'):Inv X pins σ H' { s with heap:=h',toks:=t' }:=by
 obtain⟨m,⟨o,es,ep,ho,r⟩,_⟩:=id I.loc;obtain⟨sl,hL⟩:=u.any ho I.free (by simp);exact I.step (ch:=[]) (λ_ z=>nomatch z) (λb o _ J _ e n=>u.keep b o e n J (by simp)) (λb o _ J _ e n=>u.slot b o e n J (by simp)) (λb o _ e n=>u.free b o e n (by simp)) (λb o _ e=>u.there b o e (by simp)) u.tups u.frzs u.tbls (λm' Z=>by
  obtain⟨o',U,Y,D,r'⟩:=Z;rw[ho]at D;cases D
  exact⟨_,U,Y,hL,r'⟩) hok I.bare
theorem Inv.call(I:Inv X pins σ H s)(u:Un (frs X.stack) ch H H' s.heap h')(hok:HOk X.prog X.w H' h')(Z:AllBare g')
  (D:∀b∈ch,(b∈X.ex\/X.s₀.heap.objs.size<=b)/\b≠X.env.locals/\(∀x c,X.env.cells.lookup x=some c->c≠b)/\∀p∈X.pn++pins,p.1≠b) :
  Inv X pins σ H' { s with heap:=h',gens:=g',drawn:=d',toks:=t' }:=by
 obtain⟨m,⟨o,es,ep,ho,r⟩,_⟩:=id I.loc;obtain⟨sl,hL⟩:=u.any ho I.free λz=>(D _ z).2.1 rfl
 exact I.step D (λb o hL hb hc e n=>u.keep b o e n (λz=>(tf.mp (I.stkSub b z)).elim hL hb) hc) (λb o _ _ hc e n=>u.any e n hc) (λb o hc e n=>u.free b o e n hc) (λb o hc e=>u.there b o e hc) u.tups u.frzs u.tbls (λm' hm=>by
  obtain⟨o',U,Y,J,r'⟩:=hm;rw[ho]at J;cases J
  exact⟨_,U,Y,hL,r'⟩) hok Z
def Inv.turned(I:Inv X pins σ H s)(k:∀b o,b≠it->s.heap.get? b=some o->h'.get? b=some o)(J:H it=none)(hL:it≠X.env.locals)
  (h1:it∈X.ex\/X.s₀.heap.objs.size<=it) (h2:∀x c,X.env.cells.lookup x=some c->c≠it) (U:∀p∈X.pn++pins,p.1≠it):Inv X pins σ H { s with heap:=h',toks:=t' }:=by
 have D:∀b u,H b=some u->b≠it:=λb u e z=>by rw[z,J]at e;cases e
 refine I.step (ch:=[it]) (λb Y=>?_) (λb o _ _ hc e _=>k b o (λz=>hc (by simp[z])) e) (λb o _ _ hc e _=>⟨o.slots,k b o (λz=>hc (by simp[z])) e⟩) (λ_ _ _ _ n=>n)
  (λb o hc e=>⟨o,k b o (λz=>hc (by simp[z])) e⟩) (λ_ _ e=>e) (λ_ _ _ e=>e) (λb ps e=>⟨#[],by rw[e];simp⟩) (λm Z=>?_) (λb u e=>?_) I.bare
 .have e:b=it:=by simpa using Y
  subst e;exact⟨h1,hL,h2,U⟩
 .obtain⟨o,es,ep,ho,r⟩:=Z;exact⟨o,es,ep,k _ o (LG hL) ho,r⟩
 .refine(I.hok b u e).stay (λc v hc q=>k c v ?_ q) (λ_ q=>q) λ_ _ q=>q
  rcases hc with z|z
  .rw[z];exact D b u e
  .exact D c _ z
theorem Inv.tok(I:Inv X pins σ H s)(t):Inv X pins σ H { s with toks:=t }:=I.un (h':=s.heap) (t':=t) Un.refl I.hok
theorem Inv.kept(I:Inv X pins σ H s)(k:∀b u,s.heap.get? b=some u->h'.get? b=some u):Inv X pins σ H { s with heap:=h',toks:=t' }:=I.un (Un.kept k) (I.hok.kept k)
theorem Inv.laid(I:Inv X pins σ H s)(k:∀b u,s.heap.get? b=some u->h'.get? b=some u)(z:s.heap.objs.size<=a)(new:bK X.prog X.w (upd H a o) h' a o) :
  Inv X pins σ (upd H a o) { s with heap:=h',toks:=t' }:=I.un (Un.laid k z (I.hok.fresh z)) (I.hok.laid k z new)
theorem Inv.write(I:Inv X pins σ H s)(D:Mut (H x))(J:e=x\/H e=some (.own x))(k:∀b u,b≠e->s.heap.get? b=some u->h'.get? b=some u)(z:∃u,h'.get? e=some u)
  (new:bK X.prog X.w (upd H x o) h' x o):Inv X pins σ (upd H x o) { s with heap:=h',toks:=t' }:=I.un (Un.write D J k z) (I.hok.write D J k z new)
def Inv.pins_of(I:Inv X pins σ H s)(h:∀p∈D,s.heap.get? p.1=some p.2/\H p.1=none/\p.1≠X.env.locals/\p.1∉X.fs/\∀v,p.2.data≠.cell v):Inv X D σ H s:=
 ⟨I.ok,I.os,I.bare,I.base,I.loc,I.cell,I.free,I.freeC,λp J=>(J5.mp J).elim (λz=>I.pin p (Lb _ z)) (h p),I.hok,I.len⟩
def rj{N:List Str}(z:N.Nodup){i j:Nat}(a:N[i]?=some x)(b:N[j]?=some x):i=j:=by
 obtain⟨h1,D⟩:=JY.mp a;obtain⟨h2,J⟩:=JY.mp b;exact(getElem_inj z).mp (D.trans J.symm)
def oV{i:Nat}{x:Str}{v:V}{u:Value}{Q:Unit->Shared->Prop}(I:Inv X pins σ H s)(hN:X.N.Nodup)(hi:X.N[i]?=some x)(hx:Loc X.env.scope x)(r:aF v u)
  (h:∀s',Inv X pins (σ.set i (some v)) H s'->(∃a,Heap.SameBut a s.heap s'.heap/\(a=X.env.locals\/X.env.cells.lookup x=some a))->Q () s') (hf:X.fn x=true\/X.env.scope.names.lookup x=some .local:=by first|exact .inl rfl|exact .inr rfl|assumption):wpAny M A (storeName X.env x u) Q E s:=by
 obtain⟨m,hn,hl⟩:=id I.loc;have a2:(X.env.scope.kind==.class||(X.env.scope.kind==.module&&X.env.locals != X.env.globals))=false:=by rw[I.ok.kind];rfl
 have Z:i<σ.length:=by rw[I.len];exact(JY.mp hi).1
 have cne:=I.cne;have D:∀{a}{h'},(∃o,s.heap.get? a=some o/\H a=none)->Heap.SameBut a s.heap h'->HOk X.prog X.w H h':=λ{a h'} ha hs b ob e=>by
  obtain⟨_,_,U⟩:=ha;refine(I.hok b ob e).stay (λc w' hc q=>(hs.2 c ?_).trans q) (λ_ q=>q) λ_ _ q=>q
  rintro rfl;rcases hc with rfl|hc
  .rw[U]at e;cases e
  .rw[U]at hc;cases hc
 rcases hx with hk|hk
 .refine wpAny_storeName_local hk hn (λh' ba hs=>?_) a2;obtain⟨oL,_,_,br,_⟩:=id hn;refine h _ ⟨I.ok,I.os,I.bare,⟨λb o e n hb hx=>?_,λb o e n hb hx=>?_,I.base.free,λb o e hx=>?_,I.base.tups,I.base.frzs,I.base.tbls⟩,⟨_,ba,λj y v' J Y e3=>?_⟩,λy c e=>?_,I.free,I.freeC,λp hp=>?_,D ⟨oL,br,I.free⟩ hs,by simpa using I.len⟩ ⟨_,hs,.inl rfl⟩
  .exact(hs.2 b (uw (wh (pb e) I.ok.above))).trans (I.base.keep b o e n hb hx)
  .obtain⟨sl,J⟩:=I.base.slot b o e n hb hx;exact⟨sl,(hs.2 b (uw (wh (pb e) I.ok.above))).trans J⟩
  .obtain⟨o',J⟩:=I.base.there b o e hx;exact⟨o',(hs.2 b (uw (wh (pb e) I.ok.above))).trans J⟩
  .by_cases hj:j=i
   .subst hj;rw[hi]at J;cases J
    rw[Ld Z]at Y;cases Y;exact⟨u,r,.inl ⟨hk,by simp⟩⟩
   .rw[Ki (LG hj)]at Y;obtain⟨u',r',q⟩:=hl j y v' J Y e3;refine⟨u',r',?_⟩;rcases q with⟨k,e⟩|⟨k,c,e,z⟩
    .refine .inl ⟨k,?_⟩;have:y≠x:=λe=>hj (rj hN J (e▸hi))
     simp[this,e]
    .exact .inr ⟨k,c,e,z.sameBut hs (cne y c e)⟩
  .obtain⟨w',z⟩:=I.cell y c e;exact⟨w',z.sameBut hs (cne y c e)⟩
  .obtain⟨e,n,ne,nf,d⟩:=I.pin p hp;exact⟨(hs.2 p.1 ne).trans e,n,ne,nf,d⟩
 .have a1:X.fn x=true:=by
   rcases hf with z|z
   .exact z
   .rw[z]at hk;cases hk
  obtain⟨c,hc⟩:=I.ok.has x (.inl hk);obtain⟨w',z⟩:=I.cell x c hc;refine wpAny_storeName_cell I.ok.kind hk hc z (λh' a3 hs=>?_);obtain⟨oc,a4,a5⟩:=id z;refine h { s with heap:=h' } ⟨I.ok,I.os,I.bare,⟨λb o e n hb hx=>?_,λb o e n hb hx=>?_,I.base.free,λb o e hx=>?_,I.base.tups,I.base.frzs,I.base.tbls⟩,⟨m,hn.sameBut hs (LG (cne x c hc)),λj y v' J Y e3=>?_⟩,λy c' e=>?_,I.free,I.freeC,λp hp=>?_,D ⟨oc,a4,I.freeC x c hc⟩ hs,by simpa using I.len⟩ ⟨c,hs,.inr hc⟩
  .exact(hs.2 b (uw (wh (pb e) (I.ok.cab x c a1 hc)))).trans (I.base.keep b o e n hb hx)
  .obtain⟨sl,J⟩:=I.base.slot b o e n hb hx;exact⟨sl,(hs.2 b (uw (wh (pb e) (I.ok.cab x c a1 hc)))).trans J⟩
  .obtain⟨o',J⟩:=I.base.there b o e hx;exact⟨o',(hs.2 b (uw (wh (pb e) (I.ok.cab x c a1 hc)))).trans J⟩
  .by_cases hj:j=i
   .subst hj;rw[hi]at J;cases J
    rw[Ld Z]at Y;cases Y;exact⟨u,r,.inr ⟨.inl hk,c,hc,a3⟩⟩
   .rw[Ki (LG hj)]at Y;obtain⟨u',r',q⟩:=hl j y v' J Y e3;refine⟨u',r',?_⟩;rcases q with q|⟨k,c',e,z'⟩
    .exact .inl q
    .refine .inr ⟨k,c',e,z'.sameBut hs ?_⟩;rintro rfl;exact hj (rj hN J (I.ok.inj _ _ _ e hc▸hi))
  .by_cases a6:c'=c
   .subst a6;exact⟨_,a3⟩
   .obtain⟨w2,z2⟩:=I.cell y c' e;exact⟨w2,z2.sameBut hs a6⟩
  .obtain⟨e,n,ne,nf,d⟩:=I.pin p hp;refine⟨(hs.2 p.1 ?_).trans e,n,ne,nf,d⟩;intro q;rw[q,a4]at e;have q':=JZ e;exact d w' (by rw[<- q'];exact a5)
def rl{i:Nat}{x:Str}{v:V}{u:Value}{Q:Unit->Shared->Prop}(I:Inv X pins σ H s)(z:X.N.Nodup)(hi:X.N[i]?=some x)(hx:Loc X.env.scope x)(r:aF v u)
  (h:∀s',Inv X pins (σ.set i (some v)) H s'->Q () s') (D:X.fn x=true\/X.env.scope.names.lookup x=some .local:=by first|exact .inl rfl|exact .inr rfl|assumption):wpAny M A (storeName X.env x u) Q E s:=
 oV I z hi hx r (λs' J _=>h s' J) D
def Inv.call'(I:Inv X pins σ H s)(ho:s'.os=s.os)(u:Un (frs X.stack) ch H H' s.heap s'.heap)(hok:HOk X.prog X.w H' s'.heap)(D:AllBare s'.gens)
  (z:∀b∈ch,(b∈X.ex\/X.s₀.heap.objs.size<=b)/\b≠X.env.locals/\(∀x c,X.env.cells.lookup x=some c->c≠b)/\∀p∈X.pn++pins,p.1≠b):Inv X pins σ H' s':=by
 obtain⟨h',g',d',t',o'⟩:=s';have e:=ho;subst e;exact I.call u hok D z
end
noncomputable abbrev XK:=Value->Option Addr->Hp->Prop
noncomputable abbrev St:=List (Option V)
noncomputable abbrev VK:=V->Hp->Prop
noncomputable abbrev TE:=St->Hp->VK->Prop
noncomputable abbrev TT:=St->Hp->(Bool->Hp->Prop)->Prop
noncomputable abbrev TA:=St->Hp->(List V->Hp->Prop)->Prop
structure DA where
 nx:St->Hp->Prop
 rt:VK
 bk:St->Hp->Prop:=λ_ _=>False
 ct:St->Hp->Prop:=λ_ _=>False
noncomputable abbrev TS:=DA->St->Hp->Prop
def EP(X:Cx)(pins:List (Addr×Obj))(σ:St)(Q:VK)(u:Value)(s':Shared):Prop:=∃v H',Inv X pins σ H' s'/\aF v u/\Q v H'
def TP(X:Cx)(pins:List (Addr×Obj))(σ:St)(Q:Bool->Hp->Prop)(b:Bool)(s':Shared):Prop:=∃H',Inv X pins σ H' s'/\Q b H'
def AP(X:Cx)(pins:List (Addr×Obj))(σ:St)(Q:List V->Hp->Prop)(us:List Value)(s':Shared):Prop:=∃vs H',Inv X pins σ H' s'/\aH vs us/\Q vs H'
def SP(X:Cx)(pins:List (Addr×Obj))(D:DA)(f:Flow)(s':Shared):Prop:=
 match f with
 | .next=>∃F H',Inv X pins F H' s'/\D.nx F H'
 | .brk=>∃F H',Inv X pins F H' s'/\D.bk F H'
 | .cont=>∃F H',Inv X pins F H' s'/\D.ct F H'
 | .ret u=>∃v F H',Inv X pins F H' s'/\aF v u/\D.rt v H'
def PE(X:Cx)(e:Expr)(t:TE):Prop:=
 ∀pins s (σ:St) H Q,Inv X pins σ H s->t σ H Q->wpAny (model X.prog X.w) X.A (eval e X.env) (EP X pins σ Q) X.xe s
def PT(X:Cx)(e:Expr)(t:TT):Prop:=
 ∀pins s (σ:St) H Q,Inv X pins σ H s->t σ H Q->wpAny (model X.prog X.w) X.A (isTrue e X.env (eval e X.env)) (TP X pins σ Q) X.xe s
def PW(X:Cx)(e:Expr)(t:TT):Prop:=
 ∀whole pins s (σ:St) H Q,Inv X pins σ H s->t σ H Q->wpAny (model X.prog X.w) X.A (isTrue e X.env whole) (TP X pins σ Q) X.xe s
theorem PW.pt(h:PW X e t):PT X e t:=h _
def PA(X:Cx)(es:List Expr)(t:TA):Prop:=
 ∀pos pins s (σ:St) H Q,Inv X pins σ H s->t σ H Q->wpAny (model X.prog X.w) X.A (spliced (backTo pos (starEach es X.env))) (AP X pins σ Q) X.xe s
def PS(X:Cx)(st:Stmt)(t:TS):Prop:=
 ∀pins s (σ:St) H D,Inv X pins σ H s->t D σ H->wpAny (model X.prog X.w) X.A (exec st X.env) (SP X pins D) X.xe s
def PSs(X:Cx)(st:List Stmt)(t:TS):Prop:=
 ∀pins s (σ:St) H D,Inv X pins σ H s->t D σ H->wpAny (model X.prog X.w) X.A (execs st X.env) (SP X pins D) X.xe s
def thn(h:wpAny M A t Q E s)(z:∀a s,Q a s->D a s):wpAny M A t D E s:=Kq h z λ_ _ x=>x
section
variable{X:Cx}
def bin(U:PE X a ta)(Y:PE X b tb){σ:St}{R:V->V->Hp->Prop}(I:Inv X pins σ H s)(h:ta σ H λx H1=>tb σ H1 λy H2=>R x y H2)
  {f:Value->Value->Sem α}
  (Z:∀v u J x y H2,Inv X pins σ H2 J->aF x v->aF y u->R x y H2->wpAny (model X.prog X.w) X.A (f v u) Q X.xe J) :
  wpAny (model X.prog X.w) X.A (eval a X.env) (λv z=>wpAny (model X.prog X.w) X.A (eval b X.env) (λu D=>wpAny (model X.prog X.w) X.A (f v u) Q X.xe D) X.xe z) X.xe s:=by
 refine thn (U pins s σ H _ I h) λv s1 ⟨x,H1,I1,r1,q1⟩=>?_
 refine thn (Y pins s1 σ H1 _ I1 q1) λu J ⟨y,H2,I2,r2,q2⟩=>?_
 exact Z v u J x y H2 I2 r1 r2 q2
noncomputable def GB(i:Nat):TE:=λσ H Q=>∃v,σ[i]?=some (some v)/\Q v H
noncomputable def tC(v:V):TE:=λ_ H Q=>Q v H
def DB (U:X.N[i]?=some x) (hv:Vis X.env.scope x) (hd:(x==("__debug__":Str))=false:=by decide) (J:(x==("__classdict__":Str))=false:=by decide):PE X (.Name x pos) (GB i):=by
 intro pins s σ H Q I h;obtain⟨v,e,h⟩:=h;obtain⟨m,Y,Z⟩:=I.loc;obtain⟨u,r,l⟩:=Z i x v U e hv;have fin:EP X pins σ Q u s:=⟨v,H,I,r,h⟩;rcases l with⟨D,hm⟩|⟨D,c,hc,z⟩
 .exact wpAny_Name (wpAny_loadName_local I.ok.kind D Y hm fin) hd
 .rcases D with D|D
  .exact wpAny_Name (wpAny_loadName_cell I.ok.kind D hc z fin) hd
  .exact wpAny_Name (wpAny_loadName_free I.ok.kind D hc z fin J) hd
def DC{i j pos}:PE X (.Constant (.int i) j pos) (tC (.int i)):=λ_ _ _ H _ I h=>wpAny_Constant_int ⟨.int i,H,I.tok _,⟨_,rfl⟩,h⟩
def GC{b j pos}:PE X (.Constant (.bool b) j pos) (tC (.bl b)):=λ_ _ _ H _ I h=>Constant_bool ⟨.bl b,H,I,rfl,h⟩
def DE{j pos}:PE X (.Constant .none j pos) (tC .non):=λ_ _ _ H _ I h=>Constant_none ⟨.non,H,I,rfl,h⟩
def tq{x j pos}:PE X (.Constant (.str x) j pos) (tC (.str x)):=λ_ _ _ H _ I h=>Calls.Constant_str ⟨.str x,H,I.tok _,⟨_,rfl⟩,h⟩
def Gl(X:Cx)(x:Str):Prop:=X.env.kindOf x=some .globalImplicit
def pW{pins:List (Addr×Obj)}{s:Shared}{σ:St}{H:Hp}{x:Str}{u:Value}{pos:Pos}{Q:Value->Shared->Prop}(I:Inv X pins σ H s)(z:Gl X x)(D:X.mg x=some u)(h:Q u s)
  (hd:(x==("__debug__":Str))=false:=by decide):wpAny (model X.prog X.w) X.A (eval (.Name x pos) X.env) Q E s:=
 Calls.Name_function_global I.ok.kind z (Calls.loadGlobal_global (by rw[I.ok.glob];exact I.mod.glob.keeps I.bk) D h) hd
def iL{E:Value->Shared->Prop}{pins:List (Addr×Obj)}{s:Shared}{σ:St}{H:Hp}{x:Str}{u:Value}{pos:Pos}{Q:Value->Shared->Prop}(I:Inv X pins σ H s)(z:Gl X x)(D:X.mg x=none)(hv:bootBuiltins x=some u)(h:Q u s)
  (J:x ≠ "__name__":=by decide) (hd:(x==("__debug__":Str))=false:=by decide):wpAny (model X.prog X.w) X.A (eval (.Name x pos) X.env) Q E s:=by
 obtain⟨U,h1,h2⟩:=I.mod.blt;exact Calls.Name_function_global I.ok.kind z (Calls.loadGlobal_builtin (by rw[I.ok.glob];exact I.mod.glob.keeps I.bk) D (by rw[I.ok.blt];exact h1.keeps I.bk) ((h2 x J).trans hv) h) hd
def Bh (z:Gl X x) (D:X.mg x=some u) (r:aF v u) (hd:(x==("__debug__":Str))=false:=by decide):PE X (.Name x pos) (tC v):=
 λ_ _ _ H _ I h=>pW I z D ⟨v,H,I,r,h⟩ hd
def Bi (z:Gl X x) (D:X.mg x=none) (hv:bootBuiltins x=some u) (r:aF v u) (J:x ≠ "__name__":=by decide) (hd:(x==("__debug__":Str))=false:=by decide):PE X (.Name x pos) (tC v):=
 λ_ _ _ H _ I h=>iL I z D hv ⟨v,H,I,r,h⟩ J hd
variable{a b:Expr}{ta tb:TE}{pos:Pos}
def PC(X:Cx)(op:CmpOp)(a b:Expr)(t:TE):Prop:=
 ∀pins s (σ:St) H Q,Inv X pins σ H s->t σ H Q ->
  wpAny (model X.prog X.w) X.A (eval a X.env) (λv z=>wpAny (model X.prog X.w) X.A (eval b X.env) (λu D=>wpAny (model X.prog X.w) X.A (compareOp op v u) (EP X pins σ Q) X.xe D) X.xe z) X.xe s
noncomputable def tB(t:TE):TT:=λσ H Q=>t σ H λx H1=>∃c,x=.bl c/\Q c H1
def xJ(h:PC X op a b t)(h1:behindInMarks op b=false:=by first|exact z _ (by decide) (by decide)|rfl):PE X (.Compare a [op] [b] pos) t:=λpins s σ H Q I hw=>wpAny_Compare1 (h pins s σ H Q I hw) h1
def xK(h:PC X op a b t)(h1:behindInMarks op b=false:=by first|exact z _ (by decide) (by decide)|rfl):PT X (.Compare a [op] [b] pos) (tB t):=by
 intro pins s σ H Q I hw;refine wpAny_isTrue_Compare1 (thn (h pins s σ H _ I hw) λv Y h1=>thn h1 λu Z h2=>thn h2 λc s3 ⟨x,H1,D,J,U⟩=>?_) h1;obtain⟨d,rfl,q⟩:=U;cases J;exact K6 ⟨H1,D,q⟩
def DF(h:PE X e t)(z:∀whole,isTrue e X.env whole=(do let v <- whole;standAt e.pos;holding [v] (truthy v)):=by intro _;rfl):PT X e (tB t):=by
 intro pins s σ H Q I hw;refine isTrue_plain (thn (h pins s σ H _ I hw) λv Y ⟨x,H1,D,J,U⟩=>?_) (z _);obtain⟨d,rfl,q⟩:=U;cases J;exact K6 ⟨H1,D,q⟩
variable{tA tB':TT}{bT:List Expr}
noncomputable def Jd(t u:TT):TT:=λσ H Q=>t σ H λc H1=>if c=true then u σ H1 Q else Q false H1
noncomputable def tOr(t u:TT):TT:=λσ H Q=>t σ H λc H1=>if c=true then Q true H1 else u σ H1 Q
noncomputable def Je(t:TT):TT:=λσ H Q=>t σ H λc H1=>Q (!c) H1
def Bj(z:PT X a tA):PW X (.BoolOp .And [a] pos) tA:=by
 intro D pins s σ H Q I h;refine isTrue_and (thn (z pins s σ H Q I h) λc J e=>?_);cases c<;>first|exact isTrue_and_nil e|exact e
def DG(z:PT X a tA):PW X (.BoolOp .Or [a] pos) tA:=by
 intro D pins s σ H Q I h;refine isTrue_or (thn (z pins s σ H Q I h) λc J e=>?_);cases c<;>first|exact isTrue_or_nil e|exact e
def DH(J:PT X a tA)(U:PW X (.BoolOp .And (b::bT) pos) tB'):PW X (.BoolOp .And (a::b::bT) pos) (Jd tA tB'):=by
 intro Y pins s σ H Q I h;refine isTrue_and (thn (J pins s σ H _ I h) λc Z ⟨H1,z,D⟩=>?_);cases c<;>first|exact U Y pins Z σ H1 Q z D|exact⟨H1,z,D⟩
def GD(J:PT X a tA)(U:PW X (.BoolOp .Or (b::bT) pos) tB'):PW X (.BoolOp .Or (a::b::bT) pos) (tOr tA tB'):=by
 intro Y pins s σ H Q I h;refine isTrue_or (thn (J pins s σ H _ I h) λc Z ⟨H1,z,D⟩=>?_);cases c<;>first|exact⟨H1,z,D⟩|exact U Y pins Z σ H1 Q z D
def DI(z:PT X a tA):PT X (.UnaryOp .Not a pos) (Je tA):=by
 intro pins s σ H Q I h;exact isTrue_not (z pins s σ H (λc H1=>Q _ H1) I h)
noncomputable def GE(ta tb:TE):TE:=λσ H Q=>ta σ H λx H1=>∃c,x=.bl c/\if c=true then tb σ H1 Q else Q (.bl false) H1
noncomputable def Jf(ta tb:TE):TE:=λσ H Q=>ta σ H λx H1=>∃c,x=.bl c/\if c=true then Q (.bl true) H1 else tb σ H1 Q
noncomputable def GF(ta:TE):TE:=λσ H Q=>ta σ H λx H1=>∃c,x=.bl c/\Q (.bl (!c)) H1
def xL{op}(h:PE X a t):PE X (.BoolOp op [a] pos) t:=λpins s σ H Q I hw=>BoolOp_one (h pins s σ H Q I hw)
def DJ(J:PE X a ta)(U:PE X (.BoolOp .And (b::bT) pos) tb):PE X (.BoolOp .And (a::b::bT) pos) (GE ta tb):=by
 intro pins s σ H Q I h;refine BoolOp_and (thn (J pins s σ H _ I h) λv Y ⟨x,H1,D,Z,z⟩=>?_);obtain⟨c,rfl,z⟩:=z;cases Z;refine K6 ?_;cases c<;>first|exact U pins Y σ H1 Q D z|exact⟨.bl false,H1,D,rfl,z⟩
def GH(J:PE X a ta)(U:PE X (.BoolOp .Or (b::bT) pos) tb):PE X (.BoolOp .Or (a::b::bT) pos) (Jf ta tb):=by
 intro pins s σ H Q I h;refine BoolOp_or (thn (J pins s σ H _ I h) λv Y ⟨x,H1,D,Z,z⟩=>?_);obtain⟨c,rfl,z⟩:=z;cases Z;refine K6 ?_;cases c<;>first|exact U pins Y σ H1 Q D z|exact⟨.bl true,H1,D,rfl,z⟩
def DK(D:PE X a ta):PE X (.UnaryOp .Not a pos) (GF ta):=by
 intro pins s σ H Q I h;refine UnaryOp_ (thn (D pins s σ H _ I h) λv Y ⟨x,H1,J,U,z⟩=>?_);obtain⟨c,rfl,z⟩:=z;cases U;exact not_of (K6 ⟨.bl _,H1,J,rfl,z⟩)
noncomputable def tIf(t:TT)(ta tb:TE):TE:=λσ H Q=>t σ H λc H1=>if c=true then ta σ H1 Q else tb σ H1 Q
def xM(hc:PT X c tA)(U:PE X a ta)(Y:PE X b tb):PE X (.IfExp c a b pos) (tIf tA ta tb):=by
 intro pins s σ H Q I h;refine wpAny_IfExp (thn (hc pins s σ H _ I h) λd z ⟨H1,D,J⟩=>?_);cases d<;>first|exact U pins z σ H1 Q D J|exact Y pins z σ H1 Q D J
end
def SqL(K:Nx)(H:Hp)(a:Addr)(xs:List V):Prop:=
 Rd H a (.lst xs) \/
  ∃o its n,K.lookup a=some o/\o.cls=.type "list"/\o.dict=none/\o.data=.seq its n/\its.size<=sizeLine/\aH xs its.toList
def SqT(K:Nx)(H:Hp)(a:Addr)(xs:List V):Prop:=
 Rd H a (.tup xs) \/
  ∃o its n,K.lookup a=some o/\o.cls=.type "tuple"/\o.data=.seq its n/\its.size<=sizeLine/\aH xs its.toList
noncomputable def Jg:Value->Option V
 | .none=>some .non
 | .bool b=>some (.bl b)
 | .int i _=>some (.int i)
 | .str x _=>some (.str x)
 | .bytes b _=>some (.byt b)
 | .float b _=>some (.flt b)
 | .ref a=>some (.ref a)
 | .type n=>some (.ty n)
 | _=>none
theorem aF.abs(r:aF x u):Jg u=some x:=by
 cases x<;>first|(cases r;rfl)|(obtain⟨t,rfl⟩:=r;rfl)
theorem aF.inj(r:aF x u)(q:aF y u):x=y:=JZ (r.abs.symm.trans q.abs)
theorem aH.inj:∀{xs ys}{us},aH xs us->aH ys us->xs=ys
 | _,_,_,.nil,.nil=>rfl
 | _,_,_,.cons r t,.cons z t'=>by rw[r.inj z,aH.inj t t']
section
variable{X:Cx}{pins:List (Addr×Obj)}{σ:St}{H:Hp}{s:Shared}{a:Addr}{xs ys:List V}
theorem SqL.of{K:Nx}(h:H a=some (.lst xs)):SqL K H a xs:=.inl (.inl h)
theorem SqT.of{K:Nx}(h:H a=some (.tup xs)):SqT K H a xs:=.inl (.inl h)
theorem Inv.list(I:Inv X pins σ H s)(h:SqL X.K H a xs):∃its,aH xs its/\PlainL s.heap a its.toArray/\xs.length<=sizeLine:=by
 rcases h with h|⟨o,its,n,D,hc,hd,hs,hz,r⟩
 .obtain⟨z,its,n,r,e⟩:=h.ok I.hok;exact⟨its,r,⟨_,n,e,rfl,rfl,rfl⟩,z⟩
 .refine⟨its.toList,r,⟨o,n,I.kIn a o D,hc,hd,by simpa using hs⟩,?_⟩;have e:=r.length
  simp_all
def Inv.tuple(I:Inv X pins σ H s)(h:SqT X.K H a xs):∃its,aH xs its/\IsTup s.heap a its.toArray/\xs.length<=sizeLine:=by
 rcases h with h|⟨o,its,n,D,hc,hs,hz,r⟩
 .obtain⟨z,its,r,p⟩:=h.ok I.hok;exact⟨its,r,p,z⟩
 .refine⟨its.toList,r,⟨o,I.kIn a o D,hc,n,by simpa using hs⟩,?_⟩;have e:=r.length
  simp_all
def Inv.list_inj(I:Inv X pins σ H s)(h:SqL X.K H a xs)(h':SqL X.K H a ys):xs=ys:=by
 obtain⟨its,r,⟨o,n,e,_,_,d⟩,_⟩:=I.list h;obtain⟨its',D,⟨o',U,z,_,_,d'⟩,_⟩:=I.list h';rw[e]at z;cases z
 rw[d]at d';injection d' with J _
 have:its=its':=by simpa using Kj Array.toList J
 subst this;exact r.inj D
def Inv.tuple_inj(I:Inv X pins σ H s)(h:SqT X.K H a xs)(h':SqT X.K H a ys):xs=ys:=by
 obtain⟨its,r,⟨o,e,_,n,d⟩,_⟩:=I.tuple h;obtain⟨its',D,⟨o',z,_,U,d'⟩,_⟩:=I.tuple h';rw[e]at z;cases z
 rw[d]at d';injection d' with J _
 have:its=its':=by simpa using Kj Array.toList J
 subst this;exact r.inj D
end
noncomputable abbrev Cx.wish(X:Cx)(E:Value->Shared->Prop):Cx:={ X with xe:=E }
noncomputable abbrev Cx.nox(X:Cx):Cx:=X.wish λ_ _=>False
theorem Cx.Ok.wish{X:Cx}(ok:X.Ok)(E:Value->Shared->Prop):(X.wish E).Ok:=
 ⟨ok.mod,ok.kind,ok.glob,ok.blt,ok.above,ok.inj,ok.has,ok.cab,ok.hd,ok.frames,ok.stk,ok.exf,ok.bs,ok.bsz,ok.noex,ok.exfs,ok.funs,ok.frf⟩
theorem Cx.Ok.unwish{X:Cx}{E:Value->Shared->Prop}(ok:(X.wish E).Ok):X.Ok:=
 ⟨ok.mod,ok.kind,ok.glob,ok.blt,ok.above,ok.inj,ok.has,ok.cab,ok.hd,ok.frames,ok.stk,ok.exf,ok.bs,ok.bsz,ok.noex,ok.exfs,ok.funs,ok.frf⟩
section
variable{X:Cx}{pins:List (Addr×Obj)}{σ:St}{H:Hp}{s:Shared}{E:Value->Shared->Prop}
theorem Inv.wish(I:Inv X pins σ H s)(E):Inv (X.wish E) pins σ H s:=⟨I.ok.wish E,I.os,I.bare,I.base,I.loc,I.cell,I.free,I.freeC,I.pin,I.hok,I.len⟩
theorem Inv.unwish(I:Inv (X.wish E) pins σ H s):Inv X pins σ H s:=⟨I.ok.unwish,I.os,I.bare,I.base,I.loc,I.cell,I.free,I.freeC,I.pin,I.hok,I.len⟩
theorem SP.unwish(h:SP (X.wish E) pins D f s'):SP X pins D f s':=by
 cases f<;>first|(obtain⟨F,H',I,q⟩:=h;exact⟨F,H',I.unwish,q⟩)|(obtain⟨v,F,H',I,r,q⟩:=h;exact⟨v,F,H',I.unwish,r,q⟩)
theorem PSs.nox{st:List Stmt}(h:PSs X.nox st t):PSs X st t:=λpins s σ H D I hw =>
 Kq (h pins s σ H D (I.wish _) hw) (λ_ _ q=>q.unwish) λ_ _ z=>False.elim z
end
section
variable{X:Cx}{st:Stmt}{bT:List Stmt}{t u:TS}{e:Expr}{te:TE}{pos:Pos}
noncomputable def GI:TS:=λD σ H=>D.nx σ H
noncomputable def Jh(t u:TS):TS:=λD σ H=>t { D with nx:=u D } σ H
def Bk:PSs X [] GI:=λ_ _ σ H _ I h=>wpAny_execs_nil ⟨σ,H,I,h⟩
def xN(h1:PS X st t)(h2:PSs X bT u):PSs X (st::bT) (Jh t u):=by
 intro pins s σ H D I h;refine wpAny_execs_cons (thn (h1 pins s σ H { D with nx:=u D } I h) λf z q=>?_);cases f with
 |next =>
  obtain⟨F,H',J,q⟩:=q;exact h2 pins z F H' D J q
 | _=>exact q
def Inv.quiet(I:Inv X pins σ H s):interactive X.env=false:=by simp[interactive,I.ok.kind]
noncomputable def GJ(te:TE):TS:=λD σ H=>te σ H λ_ H1=>D.nx σ H1
def pX(z:PE X e te)(hs:swapsWith e none pos.line X.env=pure false:=by rfl):PS X (.Expr e pos) (GJ te):=by
 intro pins s σ H D I h;exact wpAny_Expr_any (thn (z pins s σ H _ I h) λv Y ⟨x,H1,J,Z,U⟩=>⟨σ,H1,J,U⟩) I.quiet hs
noncomputable def Ji(te:TE):TS:=λD σ H=>te σ H D.rt
def pY(z:PE X e te):PS X (.Return (some e) pos) (Ji te):=by
 intro pins s σ H D I h;exact wpAny_Return_some (thn (z pins s σ H _ I h) λv Z ⟨x,H1,J,U,Y⟩=>⟨x,σ,H1,J,U,Y⟩)
noncomputable def Jj(c:TT)(t u:TS):TS:=λD σ H=>c σ H λb H1=>if b=true then t D σ H1 else u D σ H1
def GK(hc:PT X c tc)(Y:PSs X a t)(Z:PSs X b u):PS X (.If c a b pos) (Jj tc t u):=by
 intro pins s σ H D I h;refine wpAny_If (thn (hc pins s σ H _ I h) λd z ⟨H1,J,U⟩=>?_);cases d<;>first|exact Y pins z σ H1 D J U|exact Z pins z σ H1 D J U
noncomputable def DL:TS:=λ_ _ _=>False
def xO:PS X st DL:=λ_ _ _ _ _ _ h=>h.elim
end
noncomputable abbrev TG:=V->St->Hp->(St->Hp->Prop)->Prop
noncomputable abbrev TGs:=List V->St->Hp->(St->Hp->Prop)->Prop
def PG(X:Cx)(target:Expr)(t:TG):Prop:=
 ∀pins s (σ:St) H v u Q,Inv X pins σ H s->aF v u->t v σ H Q ->
  wpAny (model X.prog X.w) X.A (assign target X.env u) (λ_ s'=>∃F H',Inv X pins F H' s'/\Q F H') X.xe s
def PGs(X:Cx)(z:List Expr)(t:TGs):Prop:=
 ∀pins s (σ:St) H vs us Q,Inv X pins σ H s->aH vs us->t vs σ H Q ->
  wpAny (model X.prog X.w) X.A (assignInOrder ((assignEach z X.env).map (·.2)) us) (λ_ s'=>∃F H',Inv X pins F H' s'/\Q F H') X.xe s
noncomputable abbrev Jk:=V->V->V->Hp->(Hp->Prop)->Prop
def Jl(X:Cx)(t:Jk):Prop:=
 ∀pins s (σ:St) H o i v z D u Q,Inv X pins σ H s->aF o z->aF i D->aF v u->t o i v H Q ->
  wpAny (model X.prog X.w) X.A (setItem z D u) (λ_ s'=>∃H',Inv X pins σ H' s'/\Q H') X.xe s
section
variable{X:Cx}{pos:Pos}
noncomputable def jp(i:Nat):TG:=λv σ H Q=>Q (σ.set i (some v)) H
def l_(z:X.N.Nodup)(hi:X.N[i]?=some x)(hx:Loc X.env.scope x)(D:X.fn x=true\/X.env.scope.names.lookup x=some .local:=by first|exact .inl rfl|exact .inr rfl|assumption):PG X (.Name x pos) (jp i):=by
 intro pins s σ H v u Q I r h;exact wpAny_assign_Name (rl I z hi hx r (λs' J=>⟨_,H,J,h⟩) D)
noncomputable def GL:TGs:=λvs σ H Q=>vs=[]/\Q σ H
noncomputable def C4(t:TG)(u:TGs):TGs:=λvs σ H Q=>∃v r,vs=v::r/\t v σ H λF H'=>u r F H' Q
def Bl:PGs X [] GL:=by
 intro pins s σ H vs us Q I r h;obtain⟨e,h⟩:=h;subst e;cases r;exact assignInOrder_nil ⟨σ,H,I,h⟩
def xP(h1:PG X e t)(h2:PGs X es u)
  (hs:(assignEach (e::es) X.env).map (·.2)=assign e X.env::(assignEach es X.env).map (·.2):=by rfl):PGs X (e::es) (C4 t u):=by
 intro pins s σ H vs us Q I r h;obtain⟨v,vr,D,h⟩:=h;subst D;cases r with
 |cons r J =>
  rw[hs];refine assignInOrder_cons (thn (h1 pins s σ H _ _ _ I r h) λ_ U ⟨z,H1,Y,Z⟩=>?_);exact h2 pins U z H1 _ _ Q Y J Z
noncomputable def GM(K:Nx)(n:Nat)(t:TGs):TG:=λv σ H Q=>∃a xs,v=.ref a/\SqT K H a xs/\xs.length=n/\t xs σ H Q
def DM{k:Nat}(hc:X.calm=true)(h:PGs X es t)
  (J:(assignEach es X.env).length=n:=by rfl) (z:(assignEach es X.env).findIdx? (·.1)=none:=by rfl):PG X (.Tuple es k pos) (GM X.K n t):=by
 intro pins s σ H v u Q I r hw;refine aD λZq U=>?_
 obtain⟨a,xs,Y,Z,hl,hw⟩:=hw;subst Y;cases r;obtain⟨its,D,ht,hz⟩:=I.tuple Z;refine U ?_;refine assign_Tuple_tuple (I.ok.hd hc) ht (by simp[J,<- hl,D.length]) z λh' hx=>?_
 have I1:=I.kept (t':=s.toks) λb o e=>hx b o (uw (pb e)) e
 exact h pins _ σ H xs _ Q I1 (by simpa using D) hw
noncomputable def xQ(te:TE)(g:TG):TS:=λD σ H=>te σ H λx H1=>g x σ H1 D.nx
def jC(z:X.N.Nodup)(hi:X.N[i]?=some x)(hx:Loc X.env.scope x)(J:PE X e te)(hs:swapsWith e (some (.Name x pos')) pos.line X.env=pure false:=by rfl)(U:X.fn x=true\/X.env.scope.names.lookup x=some .local:=by first|exact .inl rfl|exact .inr rfl|assumption) :
  PS X (.Assign [.Name x pos'] e pos) (xQ te (jp i)):=by
 intro pins s σ H D I h;refine wpAny_Assign_Name (thn (J pins s σ H _ I h) λv s1 ⟨y,H1,Y,Z,q1⟩=>?_) hs;exact rl Y z hi hx Z (λs2 I2=>⟨_,H1,I2,q1⟩) U
end
structure It where
 go:Nat->Hp->Prop
 yld:Nat->Hp->V->Hp->Prop
 stop:Nat->Hp->Prop
def kR(X:Cx)(pins:List (Addr×Obj))(H:Hp)(b:Addr):Prop:=
 H b=none/\b≠X.env.locals/\b∉X.fs/\(b∈X.ex\/X.s₀.heap.objs.size<=b)/\(∀x c,X.env.cells.lookup x=some c->c≠b)/\∀p∈X.pn++pins,p.1≠b
theorem Inv.fpOk{σ:St}{H H':Hp}{s:Shared}{b:Addr}(I:Inv X pins σ H s)(D:s.heap.objs.size<=b)(J:H' b=none):kR X pins H' b:=by
 refine⟨J,KY (wh I.lt D),I.nofs D,.inr (r4 I.sz D),λx c e z=>?_,λp U z=>?_⟩
 .obtain⟨v,q⟩:=I.cell x c e;exact absurd (wh q.lt (by rw[z];exact D)) (Ks _)
 .exact absurd (wh (pb (I.pin p U).1) (by rw[z];exact D)) (Ks _)
structure tu(P:Program)(w:World)(K:Nx)(tg:Expr)(J:It)(fp:List Addr)(it:Addr)(tn:Nat->Heap->Prop):Prop where
 mem:it∈fp
 obj:∀i h,tn i h->∀b∈fp,∃o,h.get? b=some o/\∀v,o.data≠.cell v
 keep:∀i h h',tn i h->(∀b∈fp,∀o,h.get? b=some o->h'.get? b=some o)->tn i h'
 item:∀(X:Cx),X.prog=P->X.w=w->X.K=K->X.calm=true->∀(i:Nat) (pins:List (Addr×Obj)) (s:Shared) (σ:St) (H:Hp) (E:Value->Shared->Prop),Inv X pins σ H s->(∀b∈fp,kR X pins H b)->tn i s.heap->J.go i H ->
  wpAny (model P w) X.A (pyNext (.ref it)) (λr s1=>∃u,r=some u /\
   wpAny (model P w) X.A (letOwnedTupleGo tg (.ref it) u) (λ_ s2=>∃x H',Inv X pins σ H' s2/\aF x u/\J.yld i H x H'/\tn (i+1) s2.heap/\∀b∈fp,H' b=none) E s1) E s
 done:∀(X:Cx),X.prog=P->X.w=w->X.K=K->X.calm=true->∀(i:Nat) (pins:List (Addr×Obj)) (s:Shared) (σ:St) (H:Hp) (E:Value->Shared->Prop),Inv X pins σ H s->(∀b∈fp,kR X pins H b)->tn i s.heap->J.stop i H ->
  wpAny (model P w) X.A (pyNext (.ref it)) (λr s1=>r=none/\Inv X pins σ H s1) E s
 self:∀(A:Around) (i:Nat) (s:Shared) (Q:Value->Shared->Prop) (E:Value->Shared->Prop),tn i s.heap->Q (.ref it) s->wpAny (model P w) A (pyIter (.ref it)) Q E s
noncomputable abbrev TI:=St->Hp->(It->Hp->Prop)->Prop
def PIE(X:Cx)(pins:List (Addr×Obj))(σ:St)(tg:Expr)(R:It->Hp->Prop)(z:Value)(D:Shared):Prop:=
 ∃it fp U J H',z=.ref it/\Inv X pins σ H' D/\tu X.prog X.w X.K tg J fp it U/\U 0 D.heap/\(∀b∈fp,kR X pins H' b)/\R J H'
def PI(X:Cx)(tg iter:Expr)(wi:TI):Prop:=
 ∀pins s (σ:St) H R,Inv X pins σ H s->wi σ H R ->
  wpAny (model X.prog X.w) X.A (eval iter X.env) (λv z=>wpAny (model X.prog X.w) X.A (pyIter v) (PIE X pins σ tg R) X.xe z) X.xe s
def xR{s:Shared}{tg:Expr}{it:Addr}{u:Value}{o:Obj}{n:String}{vs:Array Value}{Q:Unit->Shared->Prop}(ho:s.heap.get? it=some o)(hc:o.cls=.type n)(hd:o.data=.fields vs)
    (hn:["enumerate","zip","dict_itemiterator","dict_reverseitemiterator","odict_iterator","itertools.zip_longest","itertools.pairwise"].contains n=false) (hQ:Q () s):wpAny M A (letOwnedTupleGo tg (.ref it) u) Q E s:=by
  unfold letOwnedTupleGo;cases tg<;>first
    | exact gf hQ
    | (cases u<;>first
        | exact gf hQ
        | (refine ez (wpAny_load ho ?_)
           rw[hc,hd];show wpAny M A (if (["enumerate","zip","dict_itemiterator","dict_reverseitemiterator","odict_iterator","itertools.zip_longest","itertools.pairwise"].contains n&&vs[0]?==some (rawInt _))=true then _ else _) Q E s;rw[if_neg (by intro h;rw[hn,MW]at h;cases h)];exact gf hQ))
noncomputable def Itl(K:Nx)(a:Addr):It:=
 ⟨λi H=>∃xs x,SqL K H a xs/\xs[i]?=some x,λi H x H'=>H'=H/\∀xs,SqL K H a xs->xs[i]?=some x,λi H=>∃xs,SqL K H a xs/\xs.length<=i⟩
noncomputable def Itt(K:Nx)(a:Addr):It:=
 ⟨λi H=>∃xs x,SqT K H a xs/\xs[i]?=some x,λi H x H'=>H'=H/\∀xs,SqT K H a xs->xs[i]?=some x,λi H=>∃xs,SqT K H a xs/\xs.length<=i⟩
noncomputable def Itr(lo:Int)(n:Nat):It:=⟨λi _=>i<n,λi H x H'=>H'=H/\x=.int (lo+i),λi _=>n<=i⟩
def wq{K:Nx}(a it):tu P w K tg (Itl K a) [it] it (λi h=>h.IsListIter it a i) where
 mem:=by simp
 obj:=λi h st b z=>by
  obtain⟨o,e,c,d⟩:=st
  simp_all
 keep:=λi h h' st k=>st.at λo e=>k it (by simp) o e
 item:=by
  intro X Y hw Z hc i pins s σ H E I J st hg;refine aD λZq kq=>?_
  subst Y hw Z;obtain⟨xs,x,U,hx⟩:=hg;obtain⟨its,rv,p,hz⟩:=I.list U;obtain⟨u,hu,ru⟩:=rv.get hx;obtain⟨f0,f1,f2,f3,f4,f5⟩:=J it (by simp);refine kq ?_;refine wpAny_pyNext_list_item st p.isList (by simpa using hu) λh' D sb=>?_
  have I1:=I.turned (t':=s.toks) (λb o z e=>(sb.2 b z).trans e) f0 f1 f3 f4 f5;obtain⟨o,e,c,d⟩:=id D;exact⟨u,rfl,xR e c d (by decide) ⟨x,H,I1,ru,⟨rfl,λys hy=>by rw[I.list_inj hy U];exact hx⟩,D,λb z=>(J b z).1⟩⟩
 done:=by
  intro X Y hw Z hc i pins s σ H E I J st hg;refine aD λZq kq=>?_
  subst Y hw Z;obtain⟨xs,U,hx⟩:=hg;obtain⟨its,rv,p,hz⟩:=I.list U;obtain⟨f0,f1,f2,f3,f4,f5⟩:=J it (by simp);have hl:=rv.length;refine kq ?_;exact wpAny_pyNext_list_end (I.ok.hd hc) st p.isList (by simp;omega) λh' eb=>⟨rfl,I.turned (λb o z e=>eb b o z e) f0 f1 f3 f4 f5⟩
 self:=λ_ _ _ _ _ st h=>wpAny_pyIter_listiter st h
theorem tw{K:Nx}(a it):tu P w K tg (Itt K a) [it] it (λi h=>h.IsTupleIter it a i) where
 mem:=by simp
 obj:=λi h st b z=>by
  obtain⟨o,e,c,d⟩:=st
  simp_all
 keep:=λi h h' st k=>st.at λo e=>k it (by simp) o e
 item:=by
  intro X Y hw Z hc i pins s σ H E I J st hg;refine aD λZq kq=>?_
  subst Y hw Z;obtain⟨xs,x,U,hx⟩:=hg;obtain⟨its,rv,p,hz⟩:=I.tuple U;obtain⟨u,hu,ru⟩:=rv.get hx;obtain⟨f0,f1,f2,f3,f4,f5⟩:=J it (by simp);refine kq ?_;refine wpAny_pyNext_tuple_item st (show s.heap.IsTuple a its.toArray from p) (by simpa using hu) λh' D sb=>?_
  have I1:=I.turned (t':=s.toks) (λb o z e=>(sb.2 b z).trans e) f0 f1 f3 f4 f5;obtain⟨o,e,c,d⟩:=id D;exact⟨u,rfl,xR e c d (by decide) ⟨x,H,I1,ru,⟨rfl,λys hy=>by rw[I.tuple_inj hy U];exact hx⟩,D,λb z=>(J b z).1⟩⟩
 done:=by
  intro X Y hw Z hc i pins s σ H E I J st hg;refine aD λZq kq=>?_
  subst Y hw Z;obtain⟨xs,U,hx⟩:=hg;obtain⟨its,rv,p,hz⟩:=I.tuple U;obtain⟨f0,f1,f2,f3,f4,f5⟩:=J it (by simp);have hl:=rv.length;refine kq ?_;exact wpAny_pyNext_tuple_end (I.ok.hd hc) st (show s.heap.IsTuple a its.toArray from p) (by simp;omega) λh' eb=>⟨rfl,I.turned (λb o z e=>eb b o z e) f0 f1 f3 f4 f5⟩
 self:=λ_ _ _ _ _ st h=>wpAny_pyIter_tupleiter st h
def tz{K:Nx}(it)(lo)(n):tu P w K tg (Itr lo n) [it] it (λi h=>IsRangeIter h it (lo+(i:Nat)*1) ((n:Int)-(i:Nat)) 1) where
 mem:=by simp
 obj:=λi h st b z=>by
  simp_all
 keep:=λi h h' st k=>k it (by simp) _ st
 item:=by
  intro X hP hw hK hc i pins s σ H E I J st U;subst hP hw hK;obtain⟨Y,Z,f2,f3,f4,f5⟩:=J it (by simp);have W:=Walks.range (prog:=X.prog) (w:=X.w) (I.ok.hd hc) it lo 1 n;refine W.item i s _ _ U st λv h' tk hv D kk=>?_
  obtain⟨t,rfl⟩:=hv;have I1:Inv X pins σ H { s with heap:=h',toks:=tk }:=I.turned (λb o z e=>kk b o (by simpa using z) e) Y Z f3 f4 f5;refine⟨_,rfl,xR D rfl rfl (by decide) ⟨.int _,H,I1,⟨t,?_⟩,⟨rfl,rfl⟩,D,λb z=>(J b z).1⟩⟩;rw[Int.mul_one]
 done:=by
  intro X hP hw hK hc i pins s σ H E I J st U;obtain⟨Y,Z,f2,f3,f4,f5⟩:=J it (by simp);exact wpAny_pyNext_range_end (I.ok.hd hc) st (by have:n<=i:=U;omega) λh' eb=>⟨rfl,I.turned (λb o z e=>eb b o z e) Y Z f3 f4 f5⟩
 self:=λ_ _ _ _ _ st h=>wpAny_pyIter_rangeiter st h
section
variable{X:Cx}{tg:Expr}
noncomputable def GN(K:Nx)(tl:TE):TI:=λσ H R=>tl σ H λx H1=>∃a,x=.ref a/\(∃xs,SqL K H1 a xs)/\R (Itl K a) H1
noncomputable def Jm(K:Nx)(tl:TE):TI:=λσ H R=>tl σ H λx H1=>∃a,x=.ref a/\(∃xs,SqT K H1 a xs)/\R (Itt K a) H1
def uY(J:PE X l tl):PI X tg l (GN X.K tl):=by
 intro pins s σ H R I h;refine thn (J pins s σ H _ I h) λv D ⟨x,H1,z,U,Y⟩=>?_
 obtain⟨a,e,⟨xs,Z⟩,q⟩:=Y;subst e;cases U;obtain⟨its,rv,p,hz⟩:=z.list Z;refine LS p.isList ?_;refine⟨D.heap.objs.size,[D.heap.objs.size],_,_,H1,rfl,z.kept λb o e=>gx _ e,wq a _,⟨_,pe _ rfl,rfl,rfl⟩,λb hb=>?_,q⟩;have e:b=D.heap.objs.size:=by simpa using hb
 subst e;exact z.fpOk (lC _) (z.hok.fresh (lC _))
def xS(J:PE X l tl):PI X tg l (Jm X.K tl):=by
 intro pins s σ H R I h;refine thn (J pins s σ H _ I h) λv z ⟨x,H1,D,U,Y⟩=>?_
 obtain⟨a,e,⟨xs,Z⟩,q⟩:=Y;subst e;cases U;obtain⟨its,rv,p,hz⟩:=D.tuple Z;refine Mi (show z.heap.IsTuple a its.toArray from p) ?_;refine⟨z.heap.objs.size,[z.heap.objs.size],_,_,H1,rfl,D.kept λb o e=>gx _ e,tw a _,⟨_,pe _ rfl,rfl,rfl⟩,λb hb=>?_,q⟩;have e:b=z.heap.objs.size:=by simpa using hb
 subst e;exact D.fpOk (lC _) (D.hok.fresh (lC _))
def rm{σ:St}{H:Hp}{s:Shared}{R:It->Hp->Prop}{E:Value->Shared->Prop}{lo hi:Int}{t u v:Tok}{tk:Nat}(I:Inv X pins σ H s)(h1:-(2 ^ 62)<=lo)(h2:lo<2 ^ 62)(D:-(2 ^ 62)<=hi)(J:hi<2 ^ 62)
  (q:R (Itr lo (hi-lo).toNat) H):wpAny (model X.prog X.w) X.A (pyIter (.ref s.heap.objs.size)) (PIE X pins σ tg R) E { s with heap:=s.heap.push { cls:=.type "range",data:=.fields #[.int lo t,.int hi u,.int 1 v] },toks:=tk }:=by
 refine wpAny_pyIter_range (IsRange.new ..) (small_one h1 h2 D J) ?_;have z:Inv X pins σ H { s with heap:=s.heap.push { cls:=.type "range",data:=.fields #[.int lo t,.int hi u,.int 1 v] },toks:=tk }:=I.kept λb o e=>gx _ e
 refine⟨(s.heap.push { cls:=.type "range",data:=.fields #[.int lo t,.int hi u,.int 1 v] }).objs.size,[(s.heap.push { cls:=.type "range",data:=.fields #[.int lo t,.int hi u,.int 1 v] }).objs.size],_,_,H,rfl,
  z.kept (t':=tk) λb o e=>gx _ e,tz _ lo (hi-lo).toNat,?_,λb U=>?_,q⟩
 .have Y:lo+((0:Nat):Int)*1=lo:=by simp
  have Z:(((hi-lo).toNat:Nat):Int)-((0:Nat):Int)=Builtin.Range.rangeSize lo hi 1:=by rw[rangeSize_one];split<;>omega
  show IsRangeIter _ _ (lo+((0:Nat):Int)*1) ((((hi-lo).toNat:Nat):Int)-((0:Nat):Int)) 1;rw[Y,Z];exact pe _ rfl
 .have e:b=(s.heap.push { cls:=.type "range",data:=.fields #[.int lo t,.int hi u,.int 1 v] }).objs.size:=by simpa using U
  subst e;exact z.fpOk (lC _) (z.hok.fresh (lC _))
noncomputable def GO(ta:TA):TI:=λσ H R=>ta σ H λvs H1=>∃j,vs=[.int j]/\-(2 ^ 62)<=j/\j<2 ^ 62/\R (Itr 0 j.toNat) H1
noncomputable def GP(ta:TA):TI:=λσ H R=>ta σ H λvs H1=>∃i j,vs=[.int i,.int j]/\(-(2 ^ 62)<=i/\i<2 ^ 62/\-(2 ^ 62)<=j/\j<2 ^ 62)/\R (Itr i (j-i).toNat) H1
def oW (D:Gl X "range") (J:X.mg "range"=none) (U:PA X [a] ta) (hs:starEach [a] X.env=[(false,eval a X.env)]:=by rfl):PI X tg (.Call (.Name "range" p) [a] [] pos) (GO ta):=by
 intro pins s σ H R I h;refine Call_ (iL I D J boot_range (KH (thn (U pos pins s σ H _ I h) λus s1 ⟨vs,H1,Y,Z,z⟩=>?_) hs rfl));obtain⟨j,e,z,q2,q⟩:=z;subst e;cases Z with
 |cons r rr =>
  cases rr;obtain⟨t,rfl⟩:=r;exact call_range_1 (rm Y (by omega) (by omega) z q2 (by simpa using q))
def wt (U:Gl X "range") (Y:X.mg "range"=none) (Z:PA X [a,b] ta) (hs:starEach [a,b] X.env=[(false,eval a X.env),(false,eval b X.env)]:=by rfl) (z:starEach [b] X.env=[(false,eval b X.env)]:=by rfl) :
  PI X tg (.Call (.Name "range" p) [a,b] [] pos) (GP ta):=by
 intro pins s σ H R I h;refine Call_ (iL I U Y boot_range (KH (thn (Z pos pins s σ H _ I h) λus s1 ⟨vs,H1,I1,r1,D⟩=>?_) (by rw[hs,z]) (by rw[z];rfl)));obtain⟨i,j,e,⟨D,q2,q3,q4⟩,q⟩:=D;subst e;cases r1 with
 |cons r J =>
  cases J with
  |cons r' J =>
   cases J;obtain⟨t,rfl⟩:=r;obtain⟨t',rfl⟩:=r';exact call_range_2 (rm I1 D q2 q3 q4 q)
noncomputable def DN(wi:TI)(g:TG)(tb:TS):TS:=λD σ H=>wi σ H λJ H1=>∃W:Nat->Nat->St->Hp->Prop,(∃m,W 0 m σ H1)/\∀i m σ H,W i m σ H ->
 (J.stop i H/\D.nx σ H)\/(J.go i H/\∃N,(∀F H',N F H'->∃U,U<m/\W (i+1) U F H')/\∀x H',J.yld i H x H'->g x σ H' λz H2=>tb { D with nx:=N,ct:=N,bk:=D.nx } z H2)
noncomputable def mM(fp:List Addr)(h:Heap):List (Addr×Obj):=fp.filterMap λb=>(h.get? b).map λo=>(b,o)
def ii(z:b∈fp)(e:h.get? b=some o):(b,o)∈mM fp h:=mem_filterMap.mpr ⟨b,z,by rw[e];rfl⟩
def wv(z:p∈mM fp h):p.1∈fp/\h.get? p.1=some p.2:=by
 obtain⟨b,D,e⟩:=mem_filterMap.mp z;cases q:h.get? b with
 |none=>rw[q]at e;cases e
 |some o =>
  rw[q]at e;have J:=JZ e;subst J;exact⟨D,q⟩
def Inv.pinned(I:Inv X pins σ H s)(J:∀b∈fp,kR X pins H b)(ho:∀b∈fp,∃o,s.heap.get? b=some o/\∀v,o.data≠.cell v):Inv X (pins++mM fp s.heap) σ H s:=
 I.pins_of λp U=>(J5.mp U).elim (λz=>I.pin p (Kp _ z)) λz=>by
  obtain⟨D,e⟩:=wv z;obtain⟨Y,Z,f2,_⟩:=J p.1 D;obtain⟨o,e',d⟩:=ho p.1 D
  simp_all
def Inv.unpinned(I:Inv X (pins++D) σ H s):Inv X pins σ H s:=I.pins_of λp z=>I.pin p (Kp _ (Lb _ z))
def tD{iter:Expr}(hp:PassesOwn (model X.prog X.w) X.A X.env X.xe)(hc:X.calm=true)(hi:PI X tg iter wi)(hg:PG X tg g)(U:PSs X body tb)(hs:∀x,foldedSetIterable iter X.env x=pure x:=by intro _;rfl):PS X (.For tg iter body [] pos) (DN wi g tb):=by
 intro pins s σ H D I h;refine wpAny_For (thn (hi pins s σ H _ I h) λv s1 h1=>thn h1 λcl s2 h2=>?_) hs;refine aD λZq kq=>?_
 obtain⟨it,fp,tn,J,H2,e,I2,T,a6,f2,W,⟨m0,w0⟩,turn⟩:=h2;subst e;have Y:∀{H'},(∀b∈fp,H' b=none)->∀b∈fp,kR X pins H' b:=λhn b U=>⟨hn b U,(f2 b U).2⟩
 refine kq ?_;refine codeAny_forLoop_any (λn s'=>∃i F H',Inv X pins F H' s'/\tn i s'.heap/\(∀b∈fp,H' b=none)/\W i n F H') ?_ m0 ⟨0,σ,H2,I2,a6,λb U=>(f2 b U).1,w0⟩;rintro n s3 ⟨i,Z,H3,I3,a3,a4,w3⟩;rcases turn i n Z H3 w3 with⟨stop,qn⟩|⟨go,N,hN,step⟩
 .refine Mf hp (thn (T.done X rfl rfl rfl hc i pins s3 Z H3 X.xe I3 (Y a4) a3 stop) λr s4 ⟨hr,I4⟩=>?_);subst hr;exact wpAny_execs_nil ⟨Z,H3,I4,qn⟩
 .refine Mf hp (thn (T.item X rfl rfl rfl hc i pins s3 Z H3 X.xe I3 (Y a4) a3 go) λr s4 ⟨u,hr,h4⟩=>?_);subst hr;refine Mf hp (thn h4 λ_ s5 ⟨x,H5,I5,r5,y5,a0,a8⟩=>?_);have a9:=I5.pinned (Y a8) (T.obj _ _ a0);refine Mf hp (thn (hg _ s5 Z H5 x u _ a9 r5 (step x H5 y5)) λ_ s6 ⟨ba,H6,I6,q6⟩=>?_);refine Mf hp (thn (U _ s6 ba H6 _ I6 q6) λf s7 q7=>?_);have again:∀{z}{H7},Inv X (pins++mM fp s5.heap) z H7 s7->N z H7->∃m,m<n/\∃i F H',Inv X pins F H' s7/\tn i s7.heap/\(∀b∈fp,H' b=none)/\W i m F H':=λ{z H7} I7 n7=>by
   obtain⟨m',hm,w7⟩:=hN z H7 n7;refine⟨m',hm,i+1,z,H7,I7.unpinned,T.keep _ _ _ a0 λb U o e=>(I7.pin (b,o) (Kp _ (Kp _ (ii U e)))).1,λb U=>?_,w7⟩;obtain⟨o,e,d⟩:=T.obj _ _ a0 b U;exact(I7.pin (b,o) (Kp _ (Kp _ (ii U e)))).2.1
  cases f<;>first|(obtain⟨z,H7,I7,n7⟩:=q7;exact again I7 n7)|(obtain⟨z,H7,I7,q7⟩:=q7;exact⟨z,H7,I7.unpinned,q7⟩)|(obtain⟨x7,z,H7,I7,r7,q7⟩:=q7;exact⟨x7,z,H7,I7.unpinned,r7,q7⟩)
end
noncomputable abbrev R2:=V->V->Hp->VK->Prop
def OpR(X:Cx)(f:Value->Value->Sem Value)(r:R2):Prop:=
 ∀pins s (σ:St) H x y v u Q,Inv X pins σ H s->aF x v->aF y u->r x y H Q ->
  wpAny (model X.prog X.w) X.A (f v u) (EP X pins σ Q) X.xe s
def bZ(X:Cx)(f:Value)(r:List V->Hp->VK->Prop):Prop:=
 ∀pins s (σ:St) H xs us Q,Inv X pins σ H s->aH xs us->r xs H Q ->
  wpAny (model X.prog X.w) X.A (call f us) (EP X pins σ Q) X.xe s
noncomputable def tOp(r:R2)(ta tb:TE):TE:=λσ H Q=>ta σ H λx H1=>tb σ H1 λy H2=>r x y H2 Q
noncomputable def rI(C:Int->Int->Prop)(g:Int->Int->V):R2:=λx y H Q=>∃i j,x=.int i/\y=.int j/\C i j/\Q (g i j) H
noncomputable def rI0(g:Int->Int->V):R2:=λx y H Q=>∃i j,x=.int i/\y=.int j/\Q (g i j) H
section
variable{X:Cx}{a b c:Expr}{ta tb tc:TE}{pos:Pos}
def DO(U:PE X a ta)(Y:PE X b tb){R:V->V->Hp->Prop}(I:Inv X pins σ H s)
  (h:ta σ H λx H1=>tb σ H1 λy H2=>R x y H2) {f:Value->Value->Sem Value}
  (Z:∀v u J x y H2,Inv X pins σ H2 J->aF x v->aF y u->R x y H2->wpAny (model X.prog X.w) X.A (f v u) Q X.xe J) :
  wpAny (model X.prog X.w) X.A (eval a X.env) (λv z=>wpAny (model X.prog X.w) X.A (eval b X.env) (λu D=>wpAny (model X.prog X.w) X.A (f v u) Q X.xe D) X.xe z) X.xe s:=by
 refine thn (U pins s σ H _ I h) λv s1 ⟨x,H1,I1,r1,q1⟩=>?_
 refine thn (Y pins s1 σ H1 _ I1 q1) λu J ⟨y,H2,I2,r2,q2⟩=>?_
 exact Z v u J x y H2 I2 r1 r2 q2
def uZ(ho:OpR X (binaryOp op) r)(z:PE X a ta)(D:PE X b tb):PE X (.BinOp a op b pos) (tOp r ta tb):=by
 intro pins s σ H Q I h;exact wpAny_BinOp (DO z D I h λv u J x y H2 U Y Z q=>ho pins J σ H2 x y v u Q U Y Z q)
def opI{C:Int->Int->Prop}{g:Int->Int->Int}
  (rule:∀i j t u s Q E,C i j->Q (.int (g i j) s.toks) { s with toks:=s.toks+1 }->wpAny (model X.prog X.w) X.A (f (.int i t) (.int j u)) Q E s) :
  OpR X f (rI C λi j=>.int (g i j)):=by
 intro pins s σ H x y v u Q I z D h;obtain⟨i,j,rfl,rfl,hc,q⟩:=h;obtain⟨t,rfl⟩:=z;obtain⟨t',rfl⟩:=D;exact rule i j t t' s _ _ hc ⟨.int (g i j),H,I.tok _,⟨_,rfl⟩,q⟩
def GQ{g:Int->Int->Int}
  (rule:∀i j t u s Q E,Q (.int (g i j) s.toks) { s with toks:=s.toks+1 }->wpAny (model X.prog X.w) X.A (f (.int i t) (.int j u)) Q E s) :
  OpR X f (rI0 λi j=>.int (g i j)):=by
 intro pins s σ H x y v u Q I z D h;obtain⟨i,j,rfl,rfl,q⟩:=h;obtain⟨t,rfl⟩:=z;obtain⟨t',rfl⟩:=D;exact rule i j t t' s _ _ ⟨.int _,H,I.tok _,⟨_,rfl⟩,q⟩
def Bm{g:Int->Int->Bool}
  (rule:∀i j t u s Q E,Q (.bool (g i j)) s->wpAny (model X.prog X.w) X.A (f (.int i t) (.int j u)) Q E s) :
  OpR X f (rI0 λi j=>.bl (g i j)):=by
 intro pins s σ H x y v u Q I z D h;obtain⟨i,j,rfl,rfl,q⟩:=h;obtain⟨t,rfl⟩:=z;obtain⟨t',rfl⟩:=D;exact rule i j t t' s _ _ ⟨.bl _,H,I,rfl,q⟩
def Jn(i j:Int):Prop:=0<j/\j<1073741824
def Jo(i j:Int):Prop:=0<=j/\j<=1000000/\i.natAbs<2 ^ 64
def DP(i j:Int):Prop:=(-(2 ^ 64)<i/\i<2 ^ 64)\/(-(2 ^ 64)<j/\j<2 ^ 64)
theorem DP.ok(h:DP i j):IntMulOk i j:=by
 rcases h with⟨h1,h2⟩|⟨h1,h2⟩
 .exact .of_left (intBits_le_64 h1 h2)
 .exact .of_right (intBits_le_64 h1 h2)
def tG(k):(0:Int)<=2 ^ k:=
  Int.natCast_nonneg _
def DQ:OpR X (binaryOp .Add) (rI0 λi j=>.int (i+j)):=GQ λ_ _ _ _ _ _ _ q=>add_int q
def DR:OpR X (binaryOp .Sub) (rI0 λi j=>.int (i-j)):=GQ λ_ _ _ _ _ _ _ q=>sub_int q
def DS:OpR X (binaryOp .Mult) (rI DP λi j=>.int (i*j)):=opI λ_ _ _ _ _ _ _ hc q=>mul_int q hc.ok
def Bn:OpR X (binaryOp .FloorDiv) (rI Jn λi j=>.int (i / j)):=opI λi j _ _ _ _ _ hc q=>by
 have h1:=hc.1;have h2:=hc.2;exact floordiv_int (by omega) (by rw[M5 i (by omega)];exact q) (.inl (PyProof.noPylong_small (by omega)))
def DT:OpR X (binaryOp .Mod) (rI (λ_ j=>0<j) λi j=>.int (i % j)):=opI λi j _ _ _ _ _ hc q=>by
 exact mod_int' (by omega) (by rw[Int.fmod_eq_emod_of_nonneg i (by omega)];exact q)
def DU:OpR X (binaryOp .Pow) (rI Jo λi j=>.int (i ^ j.toNat)):=opI λ_ _ _ _ _ _ _ hc q=>pow_int_small hc.1 hc.2.1 hc.2.2 q
def DV:OpR X (binaryOp .RShift) (rI (λ_ j=>0<=j) λi j=>.int (i / 2 ^ j.toNat)):=opI λi j _ _ _ _ _ hc q =>
 rshift_int hc (by rw[M5 i (tG _)];exact q)
end
noncomputable def scal:V->V->Bool
 | .non,.non=>true|.non,.int _=>true|.int _,.non=>true|.non,.bl _=>true|.bl _,.non=>true|.non,.str _=>true|.str _,.non=>true
 | .int _,.int _=>true|.bl _,.bl _=>true|.str _,.str _=>true|.byt _,.byt _=>true
 | .int _,.str _=>true|.str _,.int _=>true|.bl _,.str _=>true|.str _,.bl _=>true
 | _,_=>false
noncomputable def rNe:R2:=λx y H Q=>scal x y=true/\Q (.bl (!decide (x=y))) H
def u0 :decide (V.int i=V.int j)=(i==j):=by
 rw[KQ];simp
def xT :decide (V.bl i=V.bl j)=(i==j):=by
 rw[KQ];simp
def u6 :decide (V.str i=V.str j)=(i==j):=by
 rw[KQ];simp
def Bo :decide (V.byt i=V.byt j)=(i.toList==j.toList):=by
 rw[KQ];cases i;cases j;simp
section
variable{X:Cx}{a b c:Expr}{ta tb tc:TE}{pos:Pos}
def ce{σ:St}{H:Hp}{s:Shared}{Q:VK}{k z:Bool}(I:Inv X pins σ H s)(q:Q (.bl k) H)(e:k=z):EP X pins σ Q (.bool z) s:=by
 subst e;exact⟨.bl k,H,I,rfl,q⟩
def GR:OpR X (compareOp .NotEq) rNe:=by
 intro pins s σ H x y v u Q I D z h;obtain⟨hs,q⟩:=h;cases x with
 |non =>
  cases D;cases y with
  |non=>cases z;exact PySem.EqNone.ne_none_none (ce I q (by simp))
  |bl j=>cases z;exact PySem.EqNone.ne_none_bool (ce I q (by simp))
  |int j=>obtain⟨t',rfl⟩:=z;exact PySem.EqNone.ne_none_int (ce I q (by simp))
  |str j=>obtain⟨t',rfl⟩:=z;exact PySem.EqNone.ne_none_str (ce I q (by simp))
  | _=>exact absurd (show false=true from hs) il
 |bl i =>
  cases D;cases y with
  |non=>cases z;exact PySem.EqNone.ne_bool_none (ce I q (by simp))
  |bl j=>cases z;exact ne_bool (ce I q (Kj not xT))
  |str j=>obtain⟨t',rfl⟩:=z;exact PySem.EqMixed.ne_bool_str (ce I q (by simp))
  | _=>exact absurd (show false=true from hs) il
 |int i =>
  obtain⟨t,rfl⟩:=D;cases y with
  |non=>cases z;exact PySem.EqNone.ne_int_none (ce I q (by simp))
  |int j=>obtain⟨t',rfl⟩:=z;exact ne_int (ce I q (Kj not u0))
  |str j=>obtain⟨t',rfl⟩:=z;exact PySem.EqMixed.ne_int_str (ce I q (by simp))
  | _=>exact absurd (show false=true from hs) il
 |str i =>
  obtain⟨t,rfl⟩:=D;cases y with
  |non=>cases z;exact PySem.EqNone.ne_str_none (ce I q (by simp))
  |bl j=>cases z;exact PySem.EqMixed.ne_str_bool (ce I q (by simp))
  |int j=>obtain⟨t',rfl⟩:=z;exact PySem.EqMixed.ne_str_int (ce I q (by simp))
  |str j=>obtain⟨t',rfl⟩:=z;exact ne_str (ce I q (Kj not u6))
  | _=>exact absurd (show false=true from hs) il
 |byt i =>
  obtain⟨t,rfl⟩:=D;cases y with
  |byt j=>obtain⟨t',rfl⟩:=z;exact PySem.W.ne_bytes (ce I q (Kj not Bo))
  | _=>exact absurd (show false=true from hs) il
 | _=>cases y<;>exact absurd (show false=true from hs) il
def GS:OpR X (compareOp .Lt) (rI0 λi j=>.bl (decide (i<j))):=Bm λ_ _ _ _ _ _ _ q=>lt_int q
def GT:OpR X (compareOp .LtE) (rI0 λi j=>.bl (decide (i<=j))):=Bm λ_ _ _ _ _ _ _ q=>le_int q
def GU:OpR X (compareOp .Gt) (rI0 λi j=>.bl (decide (j<i))):=Bm λ_ _ _ _ _ _ _ q=>gt_int q
def GV:OpR X (compareOp .GtE) (rI0 λi j=>.bl (decide (j<=i))):=Bm λ_ _ _ _ _ _ _ q=>ge_int q
def DW:OpR X (compareOp .Is) (λx y H Q=>y=.non/\Q (.bl (decide (x=.non))) H):=by
 intro pins s σ H x y v u Q I z D h;obtain⟨rfl,q⟩:=h;cases D;refine is_none_gen (ce I q ?_);cases x<;>first
  | (cases z;rfl)
  | (obtain⟨t,rfl⟩:=z;rfl)
def Bp:OpR X (compareOp .IsNot) (λx y H Q=>y=.non/\Q (.bl (!decide (x=.non))) H):=by
 intro pins s σ H x y v u Q I z D h;obtain⟨rfl,q⟩:=h;cases D;refine isnot_none_gen (ce I q ?_);cases x<;>first
  | (cases z;rfl)
  | (obtain⟨t,rfl⟩:=z;rfl)
def Bq(ho:OpR X (compareOp op) r)(z:PE X a ta)(D:PE X b tb)(J:behindInMarks op b=false):PE X (.Compare a [op] [b] pos) (tOp r ta tb):=by
 intro pins s σ H Q I h;exact wpAny_Compare1 (DO z D I h λv u U x y H2 Y Z ry q=>ho pins U σ H2 x y v u Q Y Z ry q) J
noncomputable def GW(t:TE):TT:=λσ H Q=>t σ H λx H'=>∃k,x=.bl k/\Q k H'
def Br(ho:OpR X (compareOp op) r)(D:PE X a ta)(J:PE X b tb)(U:behindInMarks op b=false):PT X (.Compare a [op] [b] pos) (GW (tOp r ta tb)):=by
 intro pins s σ H Q I h;refine wpAny_isTrue_Compare1 (thn (D pins s σ H _ I h) λv Y ⟨x,H1,Z,r1,q1⟩=>thn (J pins Y σ H1 _ Z q1) λu s2 ⟨y,H2,I2,r2,q2⟩ =>
  thn (ho pins s2 σ H2 x y v u _ I2 r1 r2 q2) λc s3 ⟨z,H3,I3,r3,k,e,q3⟩=>?_) U
 subst e;cases r3;exact K6 ⟨H3,I3,q3⟩
def kS:(sizeLine:Nat)<2 ^ 63:=by simp_all [Kr]
def tH:OpR X (binaryOp .Add) (λx y H Q=>∃i j,x=.str i/\y=.str j/\i.length+j.length<=sizeLine/\Q (.str (i++j)) H):=by
 intro pins s σ H x y v u Q I z D h;obtain⟨i,j,rfl,rfl,hz,q⟩:=h;obtain⟨t,rfl⟩:=z;obtain⟨t',rfl⟩:=D;exact add_str (λt' tk=>⟨.str _,H,I.tok _,⟨_,rfl⟩,q⟩) hz
def eO(r:aH [x] us):∃u,us=[u]/\aF x u:=by
 cases r with
 |cons z D=>cases D;exact⟨_,rfl,z⟩
def GX(r:aH [x,y] us):∃u z,us=[u,z]/\aF x u/\aF y z:=by
 cases r with
 |cons D J =>
  cases J with
  |cons U Y=>cases Y;exact⟨_,_,rfl,D,U⟩
end
section
variable{prog:Program}{w:World}{A:Around}{E:Value->Shared->Prop}{s:Shared}{K:Nx}{x dx C f:Addr}{mA:Str->Option Value}{name:Str}{v:Value}
end
def l5.some_of(r:l5 (some v) o):∃u,o=some u/\aF v u:=by
 cases o with
 |none=>exact(show False from r).elim
 |some u=>exact⟨u,rfl,r⟩
section
variable{P:Program}{w:World}{H H':Hp}{h h':Heap}{a C dx:Addr}{fs fs':List (Str×V)}
end
section
variable{X:Cx}{pins:List (Addr×Obj)}{σ:St}{H:Hp}{s:Shared}{a C dx:Addr}{fs:List (Str×V)}{f:Str}{v:V}{A:Around}{E:Value->Shared->Prop}
end
section
variable{X:Cx}{o e value:Expr}{f:Str}{pos pos' tpos:Pos}{ta tv:TE}
end
section
variable{X:Cx}{pins:List (Addr×Obj)}{σ:St}{H:Hp}{s:Shared}{A:Around}{E:Value->Shared->Prop}{Q:Value->Shared->Prop}{c:Value}{b:Bool}
end
structure kT(k:Nat)(A:Around):Prop where
 hd:A.handled=none
 dp:A.depth+3*k+5<recursionLimit
 un:A.units+16*k+200<cLine
theorem kT.deeper(r:kT (k+1) A)(env):kT k (A.deeper env):=
 ⟨r.hd,by have:=r.dp;show A.depth+1+3*k+5<_;omega,by have:=r.un;show A.units+3+16*k+200<_;omega⟩
theorem kT.depth(r:kT k A):A.depth<recursionLimit:=by have:=r.dp;omega
noncomputable def GY:TA:=λ_ H Q=>Q [] H
noncomputable def GZ(ta:TE)(z:TA):TA:=λσ H Q=>ta σ H λx H1=>z σ H1 λxs H2=>Q (x::xs) H2
section
variable{X:Cx}{e:Expr}{es:List Expr}{te:TE}{t:TA}{pos:Pos}
def bL:PA X [] GY:=λ_ _ _ _ H Q I h=>M8 ⟨[],H,I,.nil,h⟩
def aM(z:PE X e te)(D:PA X es t)(hs:starEach (e::es) X.env=(false,eval e X.env)::starEach es X.env:=by rfl):PA X (e::es) (GZ te t):=by
 intro pos pins s σ H Q I h;rw[hs];show wpAny _ _ (spliced ((false,eval e X.env)::backTo pos _)) _ _ s;refine Mj (thn (z pins s σ H _ I h) λu J ⟨x,H1,U,Y,Z⟩=>?_);exact thn (D pos pins J σ H1 _ U Z) λus s2 ⟨xs,H2,I2,r2,q2⟩=>⟨x::xs,H2,I2,.cons Y r2,q2⟩
noncomputable def Jp(t:TA):TE:=λσ H Q=>t σ H λxs H1=>xs.length<=sizeLine/\∀p,H1 p=none->Q (.ref p) (upd H1 p (.tup xs))
noncomputable def Jq(t:TA):TE:=λσ H Q=>t σ H λxs H1=>xs.length<=sizeLine/\∀p,H1 p=none->Q (.ref p) (upd H1 p (.lst xs))
def tI{U}(h:PA X es t):PE X (.Tuple es U pos) (Jp t):=by
 intro pins s σ H Q I Y;refine wpAny_Tuple_spliced (thn (h pos pins s σ H _ I Y) λus D ⟨xs,H1,J,r,z,q⟩=>⟨by rw[<- r.length];exact z,?_⟩);have Z:=J.hok.fresh (lC _);refine⟨.ref D.heap.objs.size,upd H1 D.heap.objs.size _,J.laid (λb u e=>gx _ e) (lC _) ?_,rfl,q _ Z⟩;exact⟨z,us,r,⟨_,pe _ rfl,rfl,_,rfl⟩⟩
def tJ(h:PA X es t):PE X (.List es pos) (Jq t):=by
 intro pins s σ H Q I U;refine wpAny_List_spliced (thn (h pos pins s σ H _ I U) λus D ⟨xs,H1,J,r,z,q⟩=>⟨by rw[<- r.length];exact z,?_⟩);have Y:=J.hok.fresh (lC _);refine⟨.ref D.heap.objs.size,upd H1 D.heap.objs.size _,J.laid (λb u e=>gx _ e) (lC _) ?_,rfl,q _ Y⟩;exact⟨z,us,0,r,pe _ rfl⟩
end
noncomputable abbrev Sp:=List V->Hp->VK->XK->Prop
noncomputable abbrev CXT:=List Env->Hp->Shared->XK->Value->Shared->Prop
structure Bs(P:Program)(w:World)(K:Nx)(mg:Str->Option Value)(base:Heap)(A:Around)(outer:List Env)(s:Shared)(H:Hp):Prop where
 frames:A.frames=some outer
 mod:Mod K mg base
 bs:∀b o,base.get? b=some o->s.heap.get? b=some o/\H b=none
 bsz:base.objs.size<=s.heap.objs.size
 funs:s.heap.FunFrames base outer
 frf:∀b∈frs outer,H b=none
 hok:HOk P w H s.heap
 bare:AllBare s.gens
def CE(outer:List Env)(P:Program)(w:World)(H:Hp)(s:Shared)(Q:VK)(u:Value)(s':Shared):Prop:=
 ∃v H',s'.os=s.os/\AllBare s'.gens/\Un (frs outer) [] H H' s.heap s'.heap/\HOk P w H' s'.heap/\aF v u/\Q v H'
def CR(CX:CXT)(outer:List Env)(P:Program)(w:World)(H:Hp)(s:Shared)(Q:VK)(E:XK)(r:Result)(s':Shared):Prop:=
 match r with
 | .ok (.ret u)=>CE outer P w H s Q u s'
 | .ok _=>False
 | .error e=>CX outer H s E e s'
structure jD(P:Program)(w:World)(K:Nx)(mg:Str->Option Value)(base:Heap)(CX:CXT)(k:Nat)(f:Addr)(fd:FuncData)(ps:List Str)(sp:Sp):Prop where
 len:∀vs H Q E,sp vs H Q E->vs.length=ps.length
 run:∀(A:Around) (outer:List Env) (s:Shared) (H:Hp) (args:Args) (us:List Value) (vs:List V) (Q:VK) (E:XK),kT k A->Bs P w K mg base A outer s H->BindsTo s fd args (ps.zip us)->aH vs us->sp vs H Q E ->
  codeAny (model P w) A (.call (.ref f) args) (CR CX outer P w H s Q E) s
section
variable{X:Cx}{pins:List (Addr×Obj)}{σ:St}{H:Hp}{s s':Shared}
theorem Inv.env0(I:Inv X pins σ H s):Bs X.prog X.w X.K X.mg X.base X.A X.stack s H:=
 ⟨I.ok.frames,I.ok.mod,I.bs,r4 I.ok.bsz I.sz,I.stack,I.stkFree,I.hok,I.bare⟩
def Inv.after(I:Inv X pins σ H s)(h:CE X.stack X.prog X.w H s Q u s'):EP X pins σ Q u s':=by
 obtain⟨v,H',os,bare,un,hok,r,q⟩:=h;obtain⟨J,g,d,t,D⟩:=s';obtain rfl:D=s.os:=os;exact⟨v,H',I.call un hok bare (λb z=>absurd z (by simp)),r,q⟩
end
noncomputable def xU(sp:Sp)(dvs:List V)(E:XK)(t:TA):TE:=λσ H Q=>t σ H λvs H1=>sp (vs++dvs) H1 Q E
def c9(K:Nx)(fd:FuncData)(ps:List Str)(ds:List Value):Prop:=
 ∀s us,K.In s.heap->(us++ds).length=ps.length->BindsTo s fd ⟨us,[]⟩ (ps.zip (us++ds))
theorem c9.all{K:Nx}(h:∀us,us.length=ps.length->bindArgs fd ⟨us,[]⟩=pure (ps.zip us)):c9 K fd ps []:=λs us _ z=>by
 rw[Ll]at z ⊢;exact .of_eq (h us z)
def pZ(CX:CXT)(X:Cx)(E:XK):Prop:=∀pins (σ:St) H s e s',Inv X pins σ H s->CX X.stack H s E e s'->X.xe e s'
section
variable{X:Cx}{CX:CXT}{k:Nat}{f C:Addr}{fd:FuncData}{ps:List Str}{sp:Sp}{dvs:List V}{ds:List Value}{E:XK}{x m:Str}{p pos apos:Pos}{e o:Expr}{es:List Expr}{ta:TE}{t:TA}
def xV(F:jD X.prog X.w X.K X.mg X.base CX k f fd ps sp)(J:kT k X.A)(U:c9 X.K fd ps ds)(hd:aH dvs ds)(hx:pZ CX X E)
  (I:Inv X pins σ H s) (r:aH vs us) (h:sp (vs++dvs) H Q E):wpAny (model X.prog X.w) X.A (call (.ref f) us) (EP X pins σ Q) X.xe s:=by
 have D:=r.append hd;have Y:(us++ds).length=ps.length:=by rw[<- D.length];exact F.len _ _ _ _ h
 refine wpAny_call (LY (F.run X.A X.stack s H ⟨us,[]⟩ (us++ds) (vs++dvs) Q E J I.env0 (U s us I.kIn Y) D h) λr s' z=>?_);cases r with
 |error e=>exact hx pins σ H s e s' I z
 |ok Z =>
  cases Z with
  |ret u=>exact I.after z
  |next=>exact False.elim z
  |brk=>exact False.elim z
  |cont=>exact False.elim z
def mf(F:jD X.prog X.w X.K X.mg X.base CX k f fd ps sp)(U:kT k X.A)(Y:Gl X x)(Z:X.mg x=some (.ref f))(hk:PySem.W.keepIn X.K (.ref f)=true)(hb:c9 X.K fd ps ds)(hd:aH dvs ds)(hx:pZ CX X E)
  (ha:PA X (e::es) t) (z:(x==("__debug__":Str))=false:=by decide) (he:starEach (e::es) X.env=(false,eval e X.env)::starEach es X.env:=by rfl) (D:(backTo pos (starEach es X.env)).any (·.1)=false:=by rfl) :
  PE X (.Call (.Name x p) (e::es) [] pos) (xU sp dvs E t):=by
 intro pins s σ H Q I h;refine Ln (pW I Y Z ?_ z);refine PySem.W.callWith_K I.ok.mod.kin hk (thn (ha pos pins s σ H _ I h) λus s1 ⟨vs,H1,J,r,q⟩=>⟨J.kIn,?_⟩) he D;exact xV F U hb hd hx J r q
def xW(F:jD X.prog X.w X.K X.mg X.base CX k f fd ps sp)(D:kT k X.A)(J:Gl X x)(U:X.mg x=some (.ref f))(Y:PySem.W.keepIn X.K (.ref f)=true)(Z:c9 X.K fd ps ds)(hd:aH dvs ds)(hx:pZ CX X E)
  (z:(x==("__debug__":Str))=false:=by decide):PE X (.Call (.Name x p) [] [] pos) (xU sp dvs E GY):=by
 intro pins s σ H Q I h;refine Ln (pW I J U ?_ z);exact PySem.W.callWith_K0 I.kIn Y (xV (us:=[]) F D Z hd hx I .nil h)
end
section
variable{X:Cx}{CX:CXT}{k:Nat}{f C:Addr}{fd:FuncData}{ps ks:List Str}{sp:Sp}{E:XK}{x m:Str}{p pos apos kpos:Pos}{e o:Expr}{es:List Expr}{kws:List Keyword}{te ta:TE}{t tk:TA}{nm:Option Str}
variable{g:List Value->List Value->List Value}{gV:List V->List V->List V}
end
structure p0(N P:List Str)(sc:Scope):Prop where
 kind:sc.kind=.function
 co:sc.isCoroutine=false
 gen:sc.isGenerator=false
 nd:N.Nodup
 pre:N.take P.length=P
 par:∀x∈P,sc.names.lookup x=some .local\/sc.names.lookup x=some .cell
 nofree:∀y∈sc.names,y.2≠.free
theorem oX{kindOf:Str->Option NameKind} :∀{binds}{m},(∀v,(x,v)∉binds)->bindL kindOf binds m x=m x
 | [],_,_=>rfl
 | (n,v)::r,m,h=>by
  unfold bindL;rw[oX λw hw=>h w (KD _ hw)];split
  .have:x≠n:=by rintro rfl;exact h v K4
   simp[this]
  .rfl
theorem oY{kindOf:Str->Option NameKind} :∀{binds}{m},(∀v,(x,v)∉binds)->bindC kindOf binds m x=m x
 | [],_,_=>rfl
 | (n,v)::r,m,h=>by
  unfold bindC;rw[oY λw hw=>h w (KD _ hw)];split
  .rfl
  .have:x≠n:=by rintro rfl;exact h v K4
   simp[this]
theorem oZ{kindOf:Str->Option NameKind}{x:Str}{v:Value}:∀{P:List Str}{vs}{i:Nat}{m},P.Nodup->P[i]?=some x->vs[i]?=some v->kindOf x=some .local ->
  bindL kindOf (P.zip vs) m x=some v
 | [],_,_,_,_,h,_,_=>by simp at h
 | _::_,[],_,_,_,_,h,_=>by simp at h
 |p::P,w::vs,0,m,nd,h1,h2,z=>by
  simp at h1 h2;subst h1;subst h2
  show bindL kindOf ((p,w)::P.zip vs) m p=_;unfold bindL;rw[oX λv hv=>(Ku.mp nd).1 (of_mem_zip hv).1,if_pos z];simp
 |p::P,w::vs,i+1,m,nd,h1,h2,z=>by
  show bindL kindOf ((p,w)::P.zip vs) m x=_;exact oZ (i:=i) (Ku.mp nd).2 (by simpa using h1) (by simpa using h2) z
theorem o3{kindOf:Str->Option NameKind}{x:Str}{v:Value}:∀{P:List Str}{vs}{i:Nat}{m},P.Nodup->P[i]?=some x->vs[i]?=some v->kindOf x≠some .local ->
  bindC kindOf (P.zip vs) m x=some v
 | [],_,_,_,_,h,_,_=>by simp at h
 | _::_,[],_,_,_,_,h,_=>by simp at h
 |p::P,w::vs,0,m,nd,h1,h2,z=>by
  simp at h1 h2;subst h1;subst h2
  show bindC kindOf ((p,w)::P.zip vs) m p=_;unfold bindC;rw[oY λv hv=>(Ku.mp nd).1 (of_mem_zip hv).1,if_neg z];simp
 |p::P,w::vs,i+1,m,nd,h1,h2,z=>by
  show bindC kindOf ((p,w)::P.zip vs) m x=_;exact o3 (i:=i) (Ku.mp nd).2 (by simpa using h1) (by simpa using h2) z
noncomputable def eQ(N:List Str)(vs:List V):St:=vs.map some++replicate (N.length-vs.length) none
noncomputable def rn(CX:CXT)(P:Program)(w:World)(K:Nx)(mg:Str->Option Value)(base:Heap)(N:List Str)(qual:Str)(scope:Scope)(f:Addr)(D:Value)(A:Around)(outer:List Env)(s:Shared)(H:Hp)(E:XK):Cx where
 prog:=P
 w:=w
 K:=K
 mg:=mg
 base:=base
 A:=A.deeper (envOfC qual scope s.heap.objs.size f D)
 N:=N
 s₀:=s
 H₀:=H
 env:=envOfC qual scope s.heap.objs.size f D
 outer:=outer
 stack:=envOfC qual scope s.heap.objs.size f D::outer
 ex:=[]
 calm:=true
 fn:=λ_=>true
 pn:=[]
 xe:=λe s'=>wpAny (model P w) (A.deeper (envOfC qual scope s.heap.objs.size f D)) (leaving (envOfC qual scope s.heap.objs.size f D) e) (λ_ z=>CX outer H s E e z) (λJ z=>CX outer H s E J z) s'
def rq{sc:Scope}(h:sc.names.lookup x=some .cell):∃c,(cellsFrom n sc.names []).lookup x=some c:=by
 have q:=PySem.W.cellsFrom_some sc.names n [] (.inl h);exact isSome_iff_exists.mp q
def ww{K:Nx} 
  (S:p0 N ps scope) (hd:A.handled=none) (D:Bs P w K mg base A outer s H) (hl:vs.length=ps.length) (r:aH vs us)
  (x:InCallC s s.heap.objs.size (bindL (envOfC qual scope s.heap.objs.size f cd).kindOf (ps.zip us) λ_=>none) (cellsFrom (s.heap.objs.size+1) scope.names []) (bindC (envOfC qual scope s.heap.objs.size f cd).kindOf (ps.zip us) λ_=>none) s1) :
  Inv (rn CX P w K mg base N qual scope f cd A outer s H E) [] (eQ N vs) H s1:=by
 have a0:ps.length<=N.length:=by have:=Kj List.length S.pre;rw[Nr]at this;omega
 obtain⟨h1,tk,rfl,hk⟩:=x.done;have J:∀b,b∉(rn CX P w K mg base N qual scope f cd A outer s H E).ex:=λb z=>absurd (show b∈([]:List Addr)from z) (by simp)
 refine⟨⟨D.mod,S.kind,rfl,rfl,lC _,λy z c h1 h2=>?_,λy U=>?_,λy c _ h=>?_,λ_=>hd,Around.frames_deeper D.frames,.inr ⟨rfl,rfl⟩,λb z=>absurd z (J b),D.bs,D.bsz,λb _ _=>J b,λb z=>absurd z (J b),D.funs,D.frf⟩,
  rfl,D.bare,Un.kept hk,⟨_,x.toInCall.ns,λi y v h1 h2 h3=>?_⟩,λy c h=>⟨_,x.cell y c h⟩,D.hok.fresh (lC _),λy c h=>?_,λp Y=>absurd (show p∈([]:List (Addr×Obj))from Y) (by simp),D.hok.kept hk,?_⟩
 .exact name_of_addr x.apart (PySem.mem_of_lookup h1) (PySem.mem_of_lookup h2)
 .have U:=U;rcases U with U|U
  .exact rq U
  .exact absurd rfl (S.nofree _ (PySem.mem_of_lookup U))
 .exact La (x.above y c (PySem.mem_of_lookup h))
 .have hi:i<vs.length:=by
   unfold eQ at h2;by_cases hi:i<vs.length
   .exact hi
   .rw[Lr (by simpa using hi)]at h2;rw[Mk]at h2;split at h2<;>cases h2
  have ha:vs[i]?=some v:=by
   unfold eQ at h2;rw[K5 (by simpa using hi),Ka]at h2;cases e:vs[i]?<;>simp_all
  obtain⟨u,hu,rv⟩:=r.get ha;have Y:ps[i]?=some y:=by
   rw[<- S.pre,getElem?_take_of_lt (by omega)];exact h1
  have Z:ps.Nodup:=by rw[<- S.pre];exact S.nd.sublist (take_sublist _ _)
  refine⟨u,rv,?_⟩;rcases S.par y (Lc Y)with k|k
  .exact .inl ⟨k,oZ Z Y hu k⟩
  .obtain⟨c,e⟩:=rq (n:=s.heap.objs.size+1) k;refine .inr ⟨.inl k,c,e,?_⟩;have q:=x.cell y c e;rw[o3 Z Y hu (by show scope.names.lookup y≠_;rw[k];decide)]at q;exact q
 .exact D.hok.fresh (La (x.above y c (PySem.mem_of_lookup h)))
 .unfold eQ;show _=N.length;rw[tr,nA,length_replicate];omega
def xX{K:Nx}{dV kV Y pm z ct oc:Value} 
  (lk:K.lookup f=some ⟨oc,od,.func (PySem.W.fnOf name qual params body scope dV kV Y pm an z ct),a7⟩) (aO:PySem.W.codeIn K z qual=true) (S:p0 N ps scope)
  (len:∀vs H Q E,sp vs H Q E->vs.length=ps.length)
  (D:∀A outer s H vs Q E,kT k (A.deeper (envOfC qual scope s.heap.objs.size f z))->sp vs H Q E ->
   ∃t,PSs (rn CX P w K mg base N qual scope f z A outer s H E) body t/\t { nx:=λ_ H'=>Q .non H',rt:=Q } (eQ N vs) H) :
  jD P w K mg base CX (k+1) f (PySem.W.fnOf name qual params body scope dV kV Y pm an z ct) ps sp:=by
 refine⟨len,λA outer s H args us vs Q E hr Z hb r ao=>?_⟩;have hl:=len _ _ _ _ ao;have KX:=Z.mod.kin.keeps λb o e=>(Z.bs b o e).1
 have a1:=Z.mod.nolimit.keeps λb o e=>(Z.bs b o e).1
 have U:∀y∈ps.zip us,scope.names.lookup y.1=some .local\/(scope.names.lookup y.1=some .cell/\((cellsFrom (s.heap.objs.size+1) scope.names []).lookup y.1).isSome=true):=λ⟨n,v⟩ hy=>by
  rcases S.par n (of_mem_zip hy).1 with q|q
  .exact .inl q
  .exact .inr ⟨q,PySem.W.cellsFrom_some _ _ _ (.inl q)⟩
 refine codeAny_call_function hr.depth (KX _ _ lk) rfl S.co S.gen rfl (PySem.W.codeRec_of KX aO) (hb _ _ _ _ ?_);refine wpAny_newFunctionEnv_cells S.kind U λenv he s1 x=>?_
 subst he;refine⟨a1.keeps x.toInCall.keep,codeAny_func ?_⟩;obtain⟨t,ht,hq⟩:=D A outer s H vs Q E (hr.deeper _) ao;have I:Inv (rn CX P w K mg base N qual scope f z A outer s H E) [] _ H s1:=ww S hr.hd Z hl r x;refine Kq (ht [] s1 _ H _ I hq) (λfl s' hs=>?_) λe s' hs=>hs
 have fin:∀{F}{H'}{v}{u},Inv (rn CX P w K mg base N qual scope f z A outer s H E) [] F H' s'->aF v u->Q v H'->CE outer P w H s Q u s':=
  λ{F H' v u} J rv q=>⟨v,H',J.os,J.bare,J.base,J.hok,rv,q⟩
 cases fl with
 |next =>
  obtain⟨F,H',J,q⟩:=hs;exact fin (v:=V.non) J rfl q
 |ret u =>
  obtain⟨v,F,H',J,rv,q⟩:=hs;exact fin J rv q
 | _ =>
  obtain⟨_,_,_,q⟩:=hs;exact False.elim q
section
variable{X:Cx}{x:Str}{p pos:Pos}{e:Expr}{es:List Expr}{t:TA}{id T:String}{r:List V->Hp->VK->Prop}
noncomputable def tCB(r:List V->Hp->VK->Prop)(t:TA):TE:=λσ H Q=>t σ H λvs H1=>r vs H1 Q
def fh (hc:bZ X (.builtin id) r) (J:Gl X x) (U:X.mg x=none) (hv:bootBuiltins x=some (.builtin id)) (Y:PA X (e::es) t) (Z:x ≠ "__name__":=by decide) (z:(x==("__debug__":Str))=false:=by decide)
  (he:starEach (e::es) X.env=(false,eval e X.env)::starEach es X.env:=by rfl) (D:(backTo pos (starEach es X.env)).any (·.1)=false:=by rfl):PE X (.Call (.Name x p) (e::es) [] pos) (tCB r t):=by
 intro pins s σ H Q I h;refine Ln (iL I J U hv ?_ Z z);exact PyProof.Rows.callWith_builtin1 (thn (Y pos pins s σ H _ I h) λus s1 ⟨vs,H1,I1,r1,q1⟩=>hc pins s1 σ H1 vs us Q I1 r1 q1) he D
def c_ (hc:bZ X (.type T) r) (J:Gl X x) (U:X.mg x=none) (hv:bootBuiltins x=some (.type T)) (Y:PA X (e::es) t) (Z:x ≠ "__name__":=by decide) (z:(x==("__debug__":Str))=false:=by decide)
  (he:starEach (e::es) X.env=(false,eval e X.env)::starEach es X.env:=by rfl) (D:(backTo pos (starEach es X.env)).any (·.1)=false:=by rfl):PE X (.Call (.Name x p) (e::es) [] pos) (tCB r t):=by
 intro pins s σ H Q I h;refine Ln (iL I J U hv ?_ Z z);exact KH (thn (Y pos pins s σ H _ I h) λus s1 ⟨vs,H1,I1,r1,q1⟩=>hc pins s1 σ H1 vs us Q I1 r1 q1) he D
end
end L2
namespace HT
open PySem PyProof.Rows List Option
noncomputable def lexLt:List Int->List Int->Bool
 | [],[]=>false
 | [],_::_=>true
 | _::_,[]=>false
 |x::xs,y::ys=>if x=y then lexLt xs ys else decide (x<y)
def lexLt_cons(x y)(xs ys):lexLt (x::xs) (y::ys)=if x=y then lexLt xs ys else decide (x<y):=rfl
def oG:lexLt [] []=false:=rfl
def mN(y)(ys):lexLt [] (y::ys)=true:=rfl
def mO(x)(xs):lexLt (x::xs) []=false:=rfl
def xY(A)(s)(a)(t)(c)(u):∃e,SeqAt.EqAt A s (.int a t) (.int c u) e/\(e=true ↔ a=c):=
 ⟨(a==c),SeqAt.EqAt.int_int a t c u,by simp⟩
def xZ(A)(s)(a)(t)(c)(u)(prog)(w)(E)(Q)(h:Q (.bool (decide (a<c))) s) :
  wpAny (model prog w) A (richCompare .Lt (.int a t) (.int c u)) Q E s:=
 (PyProof.Rows.lt_int h:wpAny (model prog w) A (compareOp .Lt (.int a t) (.int c u)) Q E s)
section
open PySem.SeqAt List Option
open PySem.AutoSeq1 (wpAny_loadPart')
open PySem.MeetsSeq PySem.MeetsSeq2 PySem.MeetsSeq3 List Option
def tuple_lt_ints(l b)(items z)(n n2)(dd a6)(sl a7)(ns ms)(hi:IntsAre items.toList ns)(hj:IntsAre z.toList ms) :
  Meets (Builtin.«tuple.__lt__» ⟨[.ref l,.ref b],[]⟩)
   (λ_ R s=>s.heap.get? l=some { cls:=.type "tuple",dict:=dd,data:=.seq items n,slots:=sl }/\s.heap.get? b=some { cls:=.type "tuple",dict:=a6,data:=.seq z n2,slots:=a7 } /\
    R (.ok (.ret (.bool (lexLt ns ms)))) s):=
 .of_wp λprog w A R s h=>by
  obtain⟨hp,g,d,tk,os⟩:=s;obtain⟨hl,hb,h⟩:=h
  have f2:=Ml;have z1:items.size=ns.length:=by rw[<- hi.length];simp
  have z2:z.size=ms.length:=by rw[<- hj.length];simp
  wp_walk using wpAny_loadPart' hl,wpAny_loadPart' hb,wpAny_forIn_list _ (λbT b s'=>b.1=none/\s'=⟨hp,g,d,tk,os⟩/\∃vs ws J U,bT=vs.zip ws /\
   IntsAre vs J/\IntsAre ws U/\J.length+z.size=U.length+items.size/\R (.ok (.ret (.bool (lexLt J U)))) ⟨hp,g,d,tk,os⟩) _
  case turn =>
   rintro ⟨y,x⟩ bT b s' ⟨aO,rfl,vs,ws,J,U,hz,a0,Y,D,Z⟩;cases a0 with
   |nil=>rw[zip_nil_left]at hz;cases hz
   |cons a t a2 =>
    cases Y with
    |nil=>rw[zip_nil_right]at hz;cases hz
    |cons c u a3 =>
     rw[zip_cons_cons]at hz;injection hz with a8 a1
     injection a8 with hy hx
     subst hy hx;rw[lexLt_cons]at Z;simp only[length_cons]at D;obtain⟨e,he,ao⟩:=xY A.in1 ⟨hp,g,d,tk,os⟩ a t c u;refine ez (he prog w _ _ ?_);cases e with
     |true =>
      rw[if_pos (ao.mp rfl)]at Z
      wp_walk
      exact⟨rfl,rfl,_,_,_,_,a1,a2,a3,by omega,Z⟩
     |false =>
      rw[if_neg (λq=>absurd (ao.mpr q) il)]at Z;have a9:=xZ A.in1 ⟨hp,g,d,tk,os⟩ a t c u prog w
      wp_walk using a9
      exact⟨_,rfl,by simpa using Z⟩
  case fin =>
   rintro ⟨b1,b2⟩ s' ⟨aO,rfl,vs,ws,J,U,hz,a0,Y,D,Z⟩;simp only at aO;subst aO;have hv:lexLt J U=decide (items.size<z.size):=by
    cases a0 with
    |nil =>
     cases Y with
     |nil =>
      simp only[length_nil]at D;rw[oG];exact(Kc (by omega)).symm
     |cons c u hw =>
      simp only[length_nil,length_cons]at D;rw[mN];exact(J3 (by omega)).symm
    |cons a t hv =>
     cases Y with
     |nil =>
      simp only[length_nil,length_cons]at D;rw[mO];exact(Kc (by omega)).symm
     |cons c u hw =>
      rw[zip_cons_cons]at hz;cases hz
   rw[hv]at Z
   wp_walk
   exact⟨_,rfl,by simpa[Builtin.Tuple.tupleCompareSizes]using Z⟩
  case h =>
   exact⟨rfl,rfl,items.toList,z.toList,ns,ms,rfl,hi,hj,by omega,h⟩
end
section
variable{prog:Program}{w:World}{A:Around}{E:Value->Shared->Prop}{s:Shared}
def lt_tupInts{items z:Array Value}{ns ms:List Int}{Q:Value->Shared->Prop}(hl:IsTup s.heap l items)(hb:IsTup s.heap b z)(hi:IntsAre items.toList ns)(hj:IntsAre z.toList ms)
  (hu:A.units<cLine) (h:Q (.bool (lexLt ns ms)) s):wpAny (model prog w) A (compareOp .Lt (.ref l) (.ref b)) Q E s:=by
 refine aD λZq kq=>?_
 obtain⟨⟨cls,dd,data,sl⟩,ho,hc,n,hd⟩:=id hl;obtain⟨⟨ao,Y,data2,Z⟩,D,J,n2,U⟩:=id hb;simp only at hc hd J U;subst hc hd J U;refine kq ?_;exact LO (op:=.Lt) ⟨_,ho,rfl⟩ ⟨_,D,rfl⟩ PySem.F.slot_tuple_lt PySem.F.entry_tuple_lt (PySem.F.args_tuple_lt_2 _ _) (tuple_lt_ints l b items z n n2 dd Y sl Z ns ms hi hj)
  ⟨ho,D,show Value.bool _≠Value.notImplemented/\Q _ s from⟨(λx=>nomatch x),h⟩⟩ hu
def cat_tup(ht:IsTup s.heap t vs.toArray)(hb:IsTup s.heap b ws.toArray)(hv:vs≠[])
  (h1:ws=[]->Q (.ref t) s) (h2:ws≠[]->Q (.ref s.heap.objs.size) { s with heap:=s.heap.push { cls:=.type "tuple",data:=.seq (vs++ws).toArray } })
  (Z:vs.length+ws.length<=sizeLine):wpAny (model prog w) A (binaryOp .Add (.ref t) (.ref b)) Q E s:=by
 refine aD λZq kq=>?_
 obtain⟨⟨cls,dd,data,sl⟩,ho,hc,n,hd⟩:=id ht;obtain⟨⟨aO,D,data2,J⟩,z,U,n2,Y⟩:=id hb;simp only at hc hd U Y;subst hc hd U Y;have e:vs.toArray++ws.toArray=(vs++ws).toArray:=by simp
 refine kq ?_;by_cases hw:ws=[]
 .exact Nf ⟨_,ho,rfl⟩ ⟨_,z,rfl⟩ Ng seq_tuple_add PySem.F.slot_tuple_add PySem.F.entry_tuple_add (PySem.F.args_tuple_add_2 _ _)
   (tuple_addW1 t b vs.toArray ws.toArray n n2 dd D sl J (by simpa using hv) (by simp[hw])) ⟨ho,z,h1 hw⟩
 .refine Nf ⟨_,ho,rfl⟩ ⟨_,z,rfl⟩ Ng seq_tuple_add PySem.F.slot_tuple_add PySem.F.entry_tuple_add (PySem.F.args_tuple_add_2 _ _)
   (tuple_addW2 t b vs.toArray ws.toArray n n2 dd D sl J (by simpa using hv) (by simpa using hw) (by rw[oe,oe];exact Z)) ⟨ho,z,?_⟩
  rw[e];exact h2 hw
noncomputable def sIx(n d:Nat):Option Int->Nat
 |none=>d
 |some v=>if v<0 then(v+(n:Int)).toNat else min v.toNat n
def DX(n d)(hd:d<=n)(o):sIx n d o<=n:=by
 cases o with
 |none=>exact hd
 |some v =>
  show(if v<0 then(v+_).toNat else min v.toNat n)<=n
  grind
def u7(v)(n d:Nat):(if v<0 then max (v+(n:Int)) 0 else min v (n:Int))=((sIx n d (some v):Nat):Int):=by
 show(if v<0 then max _ 0 else min v _)=(((if v<0 then(v+_).toNat else min v.toNat n):Nat):Int)
 grind
def tK(lo hi)(n:Nat):Builtin.Slice.sliceAdjust lo hi 1 (n:Int)=(((sIx n 0 lo:Nat):Int),((sIx n n hi:Nat):Int)):=by
 refine Prod.ext ?_ ?_
 .cases lo with
  |none=>rfl
  |some v=>exact u7 v n 0
 .cases hi with
  |none=>rfl
  |some v=>exact u7 v n n
def tL(i j:Nat):Builtin.Slice.slicePlaces (i:Int) (j:Int) 1=j-i:=by
 unfold Builtin.Slice.slicePlaces
 grind
def mP(p:IsPart v o)(h:Q o s):wpAny (model prog w) A (Builtin.Slice.slicePartIndex v) Q E s:=by
 cases p<;>first|exact slicePart_none h|exact slicePart_int h
def gI{lo hi:Option Int}{n:Nat}{Q:Int×Int×Nat->Shared->Prop}(hs:s.heap.IsSliceOf Y J U .none)(Z:IsPart J lo)(pu:IsPart U hi)
  (h:Q (((sIx n 0 lo:Nat):Int),1,sIx n n hi-sIx n 0 lo) s):wpAny (model prog w) A (Builtin.Slice.sliceApplied (.ref Y) (pure (n:Int))) Q E s:=by
 obtain⟨os,z,aO,D⟩:=id hs;refine ez (ez (wpAny_field z D (x:=J) rfl (ez (wpAny_field z D (x:=U) rfl (ez (wpAny_field z D (x:=.none) rfl (gf ?_)))))));refine ez (slicePart_none ?_);refine ez (mP Z (ez (mP pu (ez (gf ?_)))));show wpAny _ _ (match Builtin.Slice.sliceAdjust lo hi 1 _ with|(lo,hi)=>pure (lo,_,Builtin.Slice.slicePlaces lo hi 1)) _ _ s;rw[tK lo hi n];show wpAny _ _ (pure (((sIx n 0 lo:Nat):Int),_,Builtin.Slice.slicePlaces _ _ 1)) _ _ s;rw[tL];exact gf h
def x0(xs:Array Value)(i k:Nat):((range k).filterMap λ(m:Nat)=>xs[((i:Int)+(m:Int)*1).toNat]?).toArray=((xs.toList.drop i).take k).toArray:=by
 have e:(λ(m:Nat)=>xs[((i:Int)+(m:Int)*1).toNat]?)=λm=>xs[i+m]?:=by
  funext m
  have:((i:Int)+(m:Int)*1).toNat=i+m:=by omega
  rw[this]
 rw[e];have:=pick_run xs i k;rw[filterMap_map]at this;have z:((λx=>xs[x]?)∘λx=>i+x)=λm=>xs[i+m]?:=rfl
 rw[z]at this;rw[this]
def getItem_tuple_cut{items:Array Value}{vl vu:Value}{lo hi:Option Int}{Q:Value->Shared->Prop}(D:IsTup s.heap t items)(hs:s.heap.IsSliceOf sl vl vu .none)(pl:IsPart vl lo)(pu:IsPart vu hi)
  (hw:¬ (sIx items.size 0 lo=0/\sIx items.size items.size hi=items.size))
  (h:Q (.ref s.heap.objs.size) { s with heap:=s.heap.push { cls:=.type "tuple",data:=.seq ((items.toList.drop (sIx items.size 0 lo)).take (sIx items.size items.size hi-sIx items.size 0 lo)).toArray } })
  (a3:items.size<=sizeLine):wpAny (model prog w) A (getItem (.ref t) (.ref sl)) Q E s:=by
 have z:sizeOk (.seq ((items.toList.drop (sIx items.size 0 lo)).take (sIx items.size items.size hi-sIx items.size 0 lo)).toArray):=by
  show((items.toList.drop (sIx items.size 0 lo)).take (sIx items.size items.size hi-sIx items.size 0 lo)).toArray.size<=sizeLine;rw[oe,Nr,length_drop,Array.length_toList];omega
 have hj:sIx items.size items.size hi<=items.size:=DX _ _ (lC _) hi;obtain⟨os,J,U,a4⟩:=id hs;have Y:s.TypeIs (.ref sl) "slice":=⟨os,J,U⟩;unfold getItem
 try with_reducible refine Kt ?_
 first|refine ez (gf ?_)|skip
 refine ez (wpAny_sequenceKey D.typeIs (by decide) ?_);refine ez (Kz (name:=Str.ofString "__getitem__") D.typeIs Ky
  (Kk Ky D.typeIs entry_tuple_getitem ?_ (args_tuple_getitem _ _)))
 show wpAny _ _ (Builtin.Tuple.tupleItemsOf (.ref t) >>= _) _ _ s;refine ez (tupleItemsOf_ D ?_);refine ez (LZ Y ?_);rw[if_pos (by decide)];refine ez (gI hs pl pu ?_);have Z:¬ ((((sIx items.size 0 lo:Nat):Int)==0&&(1:Int)==1&&(sIx items.size items.size hi-sIx items.size 0 lo)==items.size)=true):=by
  simp_all
 show wpAny _ _ (if (((sIx items.size 0 lo:Nat):Int)==0&&_==1&&_==items.size)=true then _ else _) _ _ s;rw[if_neg Z,x0]
 first
  | exact ez (Kx (gf ⟨_,rfl,gf h⟩) z)
  | exact ez (Kx (ez (gf _)) z)
  | exact ez (ez (Kx (gf _) z))
  | exact ez (ez (Kx _ z))
end
end HT
namespace L2
open PySem PySem.Spec PyProof.Rows List Option
noncomputable abbrev TO:=St->Hp->(Option Int->Hp->Prop)->Prop
def PO(X:Cx)(e:Option Expr)(t:TO):Prop:=
 ∀pins s (σ:St) H Q,Inv X pins σ H s->t σ H Q ->
  wpAny (model X.prog X.w) X.A (evalPart e X.env) (λu s'=>∃o H',Inv X pins σ H' s'/\IsPart u o/\Q o H') X.xe s
noncomputable def Bt:TO:=λ_ H Q=>Q none H
noncomputable def G0(t:TE):TO:=λσ H Q=>t σ H λx H1=>∃i,x=.int i/\Q (some i) H1
def cE :∀{us},aH (ns.map V.int) us->IntsAre us ns:=by
 induction ns with
 |nil=>intro us r;rw[map_nil]at r;cases r;exact .nil
 |cons n ns ih =>
  intro us r;cases r with
  |cons z D =>
   obtain⟨t,e⟩:=z;subst e;exact .cons n t (ih D)
section
variable{X:Cx}{e:Expr}{te:TE}{lo hi:Option Expr}{tl th:TO}{pos p2:Pos}
def Bu:PO X none Bt:=by
 intro pins s σ H Q I h;exact gf ⟨none,H,I,.none,h⟩
def Bv(h:PE X e te):PO X (some e) (G0 te):=by
 intro pins s σ H Q I hw;refine thn (h pins s σ H _ I hw) λu U ⟨x,H1,z,D,J⟩=>?_
 obtain⟨i,rfl,q⟩:=J;obtain⟨t,rfl⟩:=D;exact⟨some i,H1,z,.int i t,q⟩
def SlR(X:Cx)(r:V->Option Int->Option Int->Hp->VK->Prop):Prop:=
 ∀pins s (σ:St) H x v z D lo hi J Q,Inv X pins σ H s->aF x v->s.heap.IsSliceOf J z D .none->IsPart z lo->IsPart D hi->r x lo hi H Q ->
  ∃T id,typeLookup (.type T) "__getitem__"=pure (some (.builtin id))/\s.TypeIs v T/\wpAny (model X.prog X.w) X.A (getItem v (.ref J)) (EP X pins σ Q) X.xe s
noncomputable def tSl(r:V->Option Int->Option Int->Hp->VK->Prop)(te:TE)(tl th:TO):TE:=λσ H Q=>te σ H λx H1=>tl σ H1 λl H2=>th σ H2 λu z=>r x l u z Q
def x_(Y:SlR X r)(Z:PE X e te)(hl:PO X lo tl)(hu:PO X hi th):PE X (.Subscript e (.Slice lo hi none p2) pos) (tSl r te tl th):=by
 intro pins s σ H Q I h;refine Subscript_ (thn (Z pins s σ H _ I h) λv s1 ⟨x,H1,I1,r1,q1⟩=>?_);refine wpAny_Slice (thn (hl pins s1 σ H1 _ I1 q1) λD s2 ⟨l,H2,I2,pl,q2⟩=>thn (hu pins s2 σ H2 _ I2 q2) λJ z ⟨u,U,I3,pu,q3⟩=>?_);refine gf ?_;have I4:Inv X pins σ U { z with heap:=z.heap.push { cls:=.type "slice",data:=.fields #[D,J,.none] } }:=I3.kept λb ob q=>gx _ q
 obtain⟨T,id,hT,ht,hg⟩:=Y pins { z with heap:=z.heap.push { cls:=.type "slice",data:=.fields #[D,J,.none] } } σ U x v D J l u z.heap.objs.size Q I4 r1 (Heap.IsSliceOf.new ..) pl pu q3;exact tail_any ht hT hg (by with_unfolding_all rfl)
noncomputable def wz(xs:List V)(lo hi:Option Int):List V:=(xs.drop (HT.sIx xs.length 0 lo)).take (HT.sIx xs.length xs.length hi-HT.sIx xs.length 0 lo)
def lH(xs)(lo hi):(wz xs lo hi).length<=xs.length:=by
 unfold wz;rw[Nr,length_drop];omega
def Jr(K:Nx):V->Option Int->Option Int->Hp->VK->Prop:=λx lo hi H Q=>∃a xs,x=.ref a/\SqT K H a xs /\
 ¬ (HT.sIx xs.length 0 lo=0/\HT.sIx xs.length xs.length hi=xs.length)/\∀p,H p=none->Q (.ref p) (upd H p (.tup (wz xs lo hi)))
def DY:SlR X (Jr X.K):=by
 intro pins s σ H x v Z vu lo hi sl Q I J hs U Y h;obtain⟨a,xs,rfl,hx,hw,q⟩:=h;cases J;obtain⟨its,r,D,hz⟩:=I.tuple hx;have z:its.toArray.size=xs.length:=by rw[oe];exact r.length.symm
 refine⟨"tuple",_,Ky.lookup,D.typeIs,?_⟩;refine HT.getItem_tuple_cut D hs U Y (by rw[z];exact hw) ?_ (by rw[z];exact hz);rw[z];refine⟨.ref s.heap.objs.size,_,I.laid (o:=.tup _) (λb ob q=>gx _ q) (lC _) ?_,rfl,q _ (I.hok.fresh (lC _))⟩;exact⟨r4 (lH xs lo hi) hz,_,(r.drop _).take _,IsTup.new _ _⟩
noncomputable def G1(K:Nx):R2:=λx y H Q=>∃a b xs ys,x=.ref a/\y=.ref b/\SqT K H a xs/\SqT K H b ys/\xs≠[]/\xs.length+ys.length<=sizeLine /\
 (ys=[]->Q (.ref a) H)/\(ys≠[]->∀p,H p=none->Q (.ref p) (upd H p (.tup (xs++ys))))
def aH.nil_iff(r:aH xs us):us=[] ↔ xs=[]:=by
 cases r<;>simp_all
def Bw:OpR X (binaryOp .Add) (G1 X.K):=by
 intro pins s σ H x y v u Q I Y Z h;refine aD λZq kq=>?_
 obtain⟨a,b,xs,ys,rfl,rfl,ha,hb,hx,hz,q1,q2⟩:=h;cases Y;cases Z;obtain⟨its,J,p1,_⟩:=I.tuple ha;obtain⟨U,D,p2,_⟩:=I.tuple hb;refine kq ?_;refine HT.cat_tup p1 p2 (λz=>hx (J.nil_iff.mp z)) (λz=>⟨.ref a,H,I,rfl,q1 (D.nil_iff.mp z)⟩) (λz=>?_) (by rw[<- J.length,<- D.length];exact hz);refine⟨.ref s.heap.objs.size,_,I.laid (o:=.tup _) (λb ob q=>gx _ q) (lC _) ?_,rfl,q2 (λw=>z (D.nil_iff.mpr w)) _ (I.hok.fresh (lC _))⟩;exact⟨by rw[tr];exact hz,_,J.append D,IsTup.new _ _⟩
end
noncomputable def ixN(n:Nat)(i:Int):Option Nat:=if 0<=i then(if i<n then some i.toNat else none)else if -(n:Int)<=i then some (i+n).toNat else none
noncomputable def atI{α:Type}(xs:List α)(i:Int):Option α:=(ixN xs.length i).bind λj=>xs[j]?
def u8(h:ixN n i=some j):seqIndex? i n=some j/\j<n/\-(n:Int)<=i/\i<n:=by
 unfold ixN at h;by_cases z:0<=i
 .rw[if_pos z]at h;by_cases h1:i<n
  .rw[if_pos h1]at h;have e:=JZ h;exact⟨by rw[seqIndex_of z h1,e],by omega,by omega,h1⟩
  .simp_all
 .rw[if_neg z]at h;by_cases h1:-(n:Int)<=i
  .rw[if_pos h1]at h;have e:=JZ h;exact⟨by rw[seqIndex_neg (by omega) h1,e],by omega,h1,by omega⟩
  .simp_all
def p5(h:atI xs i=some v):∃j,seqIndex? i xs.length=some j/\xs[j]?=some v/\j<xs.length/\-(xs.length:Int)<=i/\i<xs.length:=by
 unfold atI at h;cases e:ixN xs.length i with
 |none=>rw[e]at h;cases h
 |some j =>
  rw[e]at h;obtain⟨h1,h2,z,D⟩:=u8 e;exact⟨j,h1,h,h2,z,D⟩
def u9(b:Expr):Prop:=∀o i,subscripted b false o i=operate [o,i] (getItem o i)
def IxR(X:Cx)(r:R2):Prop:=
 ∀value slice pins s (σ:St) H x y v u Q,Inv X pins σ H s->aF x v->aF y u->r x y H Q ->
  subscripted slice false v u=operate [v,u] (getItem v u)->wpAny (model X.prog X.w) X.A (subscriptTail value slice v u) (EP X pins σ Q) X.xe s
def MtR(X:Cx)(id:String)(r:V->List V->Hp->VK->Prop):Prop:=
 ∀pins s (σ:St) H x xs v us Q,Inv X pins σ H s->aF x v->aH xs us->r x xs H Q ->
  wpAny (model X.prog X.w) X.A (call (.builtin id) (v::us)) (EP X pins σ Q) X.xe s
section
variable{X:Cx}{a b:Expr}{ta tb:TE}{pos:Pos}
theorem IxR.or(h:IxR X r)(h':IxR X J):IxR X (λx y H Q=>r x y H Q\/J x y H Q):=by
 intro value slice pins s σ H x y v u Q I z D q hs;rcases q with q|q
 .exact h value slice pins s σ H x y v u Q I z D q hs
 .exact h' value slice pins s σ H x y v u Q I z D q hs
def G2(z:IxR X r)(D:PE X a ta)(J:PE X b tb)(hs:u9 b):PE X (.Subscript a b pos) (tOp r ta tb):=by
 intro pins s σ H Q I h;exact Subscript_ (DO D J I h λv u U x y H2 Y Z ry q=>z a b pins U σ H2 x y v u Q Y Z ry q (hs _ _))
noncomputable def G3(K:Nx):R2:=λx y H Q=>∃p xs i v,x=.ref p/\y=.int i/\SqL K H p xs/\atI xs i=some v/\Q v H
noncomputable def G4(K:Nx):R2:=λx y H Q=>∃p xs i v,x=.ref p/\y=.int i/\SqT K H p xs/\atI xs i=some v/\Q v H
noncomputable def G5:R2:=λx y H Q=>∃z i c,x=.str z/\y=.int i/\z.length<=sizeLine/\atI z.cps.toList i=some c/\Q (.str ⟨#[c]⟩) H
def Bx:IxR X (G3 X.K):=by
 intro value slice pins s σ H x y v u Q I rx ry h hs;refine aD λZq kq=>?_
 obtain⟨p,xs,i,z,rfl,rfl,hq,he,q⟩:=h;cases rx;obtain⟨t,rfl⟩:=ry;obtain⟨its,r,D,hz⟩:=I.list hq;obtain⟨j,h1,h2,h3,h4,h5⟩:=p5 he;obtain⟨w,Y,J⟩:=r.get h2;have hl:=r.length;have hn:=kS;have fin:EP X pins σ Q w s:=⟨z,H,I,J,q⟩;refine kq ?_;by_cases Z:0<=i
 .have U:i.toNat=j:=by
   rw[seqIndex_of Z h5]at h1;exact JZ h1
  exact item_listR D.isList Z (by omega) (by rw[U];simpa using Y) fin hs
 .have U:(i+(its.toArray.size:Int)).toNat=j:=by
   rw[seqIndex_neg (by omega) h4]at h1;rw[oe,<- hl];exact JZ h1
  exact subscriptTail_builtinR D.isList.typeIs slot_list_getitem.lookup
   (wpAny_getItem_list_neg D.isList (by omega) (by rw[oe]<;>omega) (by omega) (by rw[U];simpa using Y) ⟨rfl,fin⟩) hs
def DZ:IxR X (G4 X.K):=by
 intro value slice pins s σ H x y v u Q I U Y h hs;refine aD λZq Z=>?_
 obtain⟨p,xs,i,z,rfl,rfl,hq,he,q⟩:=h;cases U;obtain⟨t,rfl⟩:=Y;obtain⟨its,r,J,hz⟩:=I.tuple hq;obtain⟨j,h1,h2,h3,h4,h5⟩:=p5 he;obtain⟨w,ew,D⟩:=r.get h2;have hl:=r.length;have hn:=kS;have fin:EP X pins σ Q w s:=⟨z,H,I,D,q⟩;refine Z ?_;exact subscriptTail_builtinR J.typeIs slot_tuple_getitem.lookup
  (getItem_tuple J (by omega) (by omega) (by rw[oe,<- hl];exact h1) (by simpa using ew) ⟨rfl,fin⟩) hs
def D0:IxR X G5:=by
 intro value slice pins s σ H x y v u Q I D J h hs;refine aD λZq U=>?_
 obtain⟨z,i,c,rfl,rfl,hz,Y,q⟩:=h;obtain⟨t,rfl⟩:=D;obtain⟨t',rfl⟩:=J;obtain⟨j,h1,h2,h3,Z,h5⟩:=p5 Y;have hl:z.cps.toList.length=z.length:=by simp[Str.length]
 rw[hl]at h1 Z h5;have hn:=kS;refine U ?_;exact tail_any (typeIs_str s z t) slot_str_getitem.lookup (getItem_str (by
  have e1:decide (i < -(2 ^ 63:Int))=false:=Kc (by omega);have e2:decide (i>=2 ^ 63)=false:=Kc (by omega);rw[e1,e2,Bool.or_false]) (by rw[h1];simpa using h2) ⟨.str ⟨#[c]⟩,H,I.tok _,⟨_,rfl⟩,q⟩) hs
noncomputable def rIx(K:Nx):R2:=λx y H Q=>G3 K x y H Q\/G4 K x y H Q\/G5 x y H Q
def ya:IxR X (rIx X.K):=Bx.or (DZ.or D0)
def tM (its:List Value) (n j) (u):Obj.mapSeq (·.setIfInBounds j u) { cls:=.type "list",data:=.seq its.toArray n }={ cls:=.type "list",data:=.seq (its.set j u).toArray n }:=by
 simp[Obj.mapSeq]
theorem Inv.lst(I:Inv X pins σ H s)(h:H p=some (.lst xs)) :
  ∃its n,aH xs its/\s.heap.get? p=some { cls:=.type "list",data:=.seq its.toArray n }/\xs.length<=sizeLine:=by
 obtain⟨z,its,n,r,e⟩:=I.hok p _ h;exact⟨its,n,r,e,z⟩
def Inv.lstUpd{σ:St}{H:Hp}{s:Shared}{p:Addr}{xs ys:List V}{its its':List Value}{n z:Nat}{f:Obj->Obj}(I:Inv X pins σ H s)(h:H p=some (.lst xs))
  (ho:s.heap.get? p=some { cls:=.type "list",data:=.seq its.toArray n }) (D:f { cls:=.type "list",data:=.seq its.toArray n }={ cls:=.type "list",data:=.seq its'.toArray z }) (r:aH ys its') (hz:ys.length<=sizeLine) (t) :
  Inv X pins σ (upd H p (.lst ys)) { s with heap:=s.heap.update p f,toks:=t }:=by
 have e:(s.heap.update p f).get? p=some { cls:=.type "list",data:=.seq its'.toArray z }:=by
  rw[Kv f ho (by rw[D]<;>rfl),D]
 refine I.write (by rw[h];trivial) (.inl rfl) (λb u J q=>(KP _ _ (LG J)).trans q) ⟨_,e⟩ ?_;exact⟨hz,its',z,r,e⟩
def G6:V->V->V->Hp->(Hp->Prop)->Prop:=λo i v H Q=>∃p xs k j,o=.ref p/\i=.int k/\H p=some (.lst xs)/\ixN xs.length k=some j/\Q (upd H p (.lst (xs.set j v)))
def set_list:Jl X G6:=by
 intro pins s σ H o i v ov iv u Q I ro ri rv h;refine aD λZq kq=>?_
 obtain⟨p,xs,k,j,rfl,rfl,J,hj,q⟩:=h;cases ro;obtain⟨t,rfl⟩:=ri;obtain⟨its,n,r,ho,hz⟩:=I.lst J;obtain⟨h1,h2,U,Y⟩:=u8 hj;have z:=r.length;have hn:=kS;have Z:Inv X pins σ (upd H p (.lst _)) { s with heap:=s.heap.update p (Obj.mapSeq _) }:=
  I.lstUpd J ho (tM its n j u) (r.set rv j) (by rw[Mn];exact hz) s.toks
 refine kq ?_;by_cases h0:0<=k
 .have D:k.toNat=j:=by
   rw[seqIndex_of h0 Y]at h1;exact JZ h1
  exact PySem.W.ki_setAt ho h0 (by omega) (by rw[oe,<- z];exact Y) (by rw[D];exact⟨_,Z,q⟩)
 .have D:(k+(its.toArray.size:Int)).toNat=j:=by
   rw[seqIndex_neg (by omega) U]at h1;rw[oe,<- z];exact JZ h1
  exact PySem.W.ki_setBack ho (by omega) (by rw[oe,<- z];exact U) (by omega) (by rw[D];exact⟨_,Z,q⟩)
def p6(lo hi)(n):(sliceBounds lo hi none n).1=((HT.sIx n 0 lo:Nat):Int)/\(sliceBounds lo hi none n).2.1=((HT.sIx n n hi:Nat):Int)/\(sliceBounds lo hi none n).2.2=1:=by
 refine⟨?_,?_,rfl⟩
 .cases lo with
  |none=>simp[sliceBounds,HT.sIx]
  |some i =>
   simp[sliceBounds,HT.sIx,getD_none,show(1:Int) > 0 by decide,if_true];by_cases h:i<0
   .simp[h,if_true]<;>omega
   .simp[h,KZ]<;>omega
 .cases hi with
  |none=>simp[sliceBounds,HT.sIx]
  |some i =>
   simp[sliceBounds,HT.sIx,getD_none,show(1:Int) > 0 by decide,if_true];by_cases h:i<0
   .simp[h,if_true]<;>omega
   .simp[h,KZ]<;>omega
def oH(its:List Value)(lo hi):slicePick its.toArray lo hi none=((its.drop (HT.sIx its.length 0 lo)).take (HT.sIx its.length its.length hi-HT.sIx its.length 0 lo)).toArray:=by
 obtain⟨h1,h2,z⟩:=p6 lo hi its.toArray.size;unfold slicePick;rw[h1,h2,z];simp only[sliceRange_one,pick_run]<;>rfl
def Js(K:Nx):V->Option Int->Option Int->Hp->VK->Prop:=λx lo hi H Q=>∃a xs,x=.ref a/\SqL K H a xs/\∀p,H p=none->Q (.ref p) (upd H p (.lst (wz xs lo hi)))
def By:SlR X (Js X.K):=by
 intro pins s σ H x v Z vu lo hi sl Q I J hs U Y h;obtain⟨a,xs,rfl,hx,q⟩:=h;cases J;obtain⟨its,r,D,hz⟩:=I.list hx;have z:=r.length;refine⟨"list",_,slot_list_getitem.lookup,D.isList.typeIs,?_⟩;refine wpAny_getItem_list_slice D.isList hs U Y .none (by simp) ?_ (by rw[oe]<;>omega);rw[oH,<- z];refine⟨.ref s.heap.objs.size,_,I.laid (o:=.lst _) (λb ob q=>gx _ q) (lC _) ?_,rfl,q _ (I.hok.fresh (lC _))⟩;exact⟨r4 (lH xs lo hi) hz,_,0,(r.drop _).take _,pe _ rfl⟩
noncomputable def iM:V->Bool
 | .non=>true
 | .bl _=>true
 | .int _=>true
 | .str _=>true
 | _=>false
noncomputable def eqV:V->V->Bool
 | .non,.non=>true
 | .bl a,.bl b=>a==b
 | .bl a,.int b=>(if a then 1 else 0)==b
 | .int a,.bl b=>a==(if b then 1 else 0)
 | .int a,.int b=>a==b
 | .str a,.str b=>a==b
 | _,_=>false
def yb(D:aF y u)(z:aF x v)(U:iM y=true)(J:iM x=true):SeqAt.EqAt A s u v (eqV y x):=by
 cases y with
 |non =>
  cases D;cases x with
  |non=>cases z;exact SeqAt.EqAt.same _
  |bl b=>cases z;exact SeqAt.EqAt.none_bool b
  |int b=>obtain⟨t,rfl⟩:=z;exact SeqAt.EqAt.none_int b t
  |str b=>obtain⟨t,rfl⟩:=z;exact SeqAt.EqAt.none_str b t
  | _=>exact absurd (show false=true from J) il
 |bl a =>
  cases D;cases x with
  |non=>cases z;exact SeqAt.EqAt.bool_none a
  |bl b=>cases z;exact SeqAt.EqAt.bool_bool a b
  |int b=>obtain⟨t,rfl⟩:=z;exact SeqAt.EqAt.bool_int a b t
  |str b=>obtain⟨t,rfl⟩:=z;exact SeqAt.EqAt.bool_str a b t
  | _=>exact absurd (show false=true from J) il
 |int a =>
  obtain⟨t',rfl⟩:=D;cases x with
  |non=>cases z;exact SeqAt.EqAt.int_none a t'
  |bl b=>cases z;exact SeqAt.EqAt.int_bool a t' b
  |int b=>obtain⟨t,rfl⟩:=z;exact SeqAt.EqAt.int_int a t' b t
  |str b=>obtain⟨t,rfl⟩:=z;exact SeqAt.EqAt.int_str a t' b t
  | _=>exact absurd (show false=true from J) il
 |str a =>
  obtain⟨t',rfl⟩:=D;cases x with
  |non=>cases z;exact SeqAt.EqAt.str_none a t'
  |bl b=>cases z;exact SeqAt.EqAt.str_bool a t' b
  |int b=>obtain⟨t,rfl⟩:=z;exact SeqAt.EqAt.str_int a t' b t
  |str b=>obtain⟨t,rfl⟩:=z;exact SeqAt.EqAt.str_str a t' b t
  | _=>exact absurd (show false=true from J) il
 | _=>exact absurd (show false=true from U) il
def ij:bZ X (.builtin "len") (λxs H Q=>∃p ys,xs=[.ref p]/\(SqL X.K H p ys\/SqT X.K H p ys)/\Q (.int ys.length) H):=by
 intro pins s σ H xs us Q I r h;obtain⟨p,ys,rfl,D,q⟩:=h;obtain⟨u,rfl,Y⟩:=eO r;cases Y;have Z:=kS;rcases D with D|D
 .obtain⟨its,J,U,hz⟩:=I.list D;have z:=J.length;exact Calls.call_len_list U.isList (by simp[oe]<;>omega) ⟨.int ys.length,H,I.tok _,⟨s.toks+1,by rw[oe,z]⟩,q⟩
 .obtain⟨its,J,U,hz⟩:=I.tuple D;have z:=J.length;exact len_tuple U (by simp[oe]<;>omega) ⟨.int ys.length,H,I.tok _,⟨s.toks+1,by rw[oe,z]⟩,q⟩
def p7:bZ X (.type "list") (λxs H Q=>∃p ys,xs=[.ref p]/\(SqL X.K H p ys\/SqT X.K H p ys)/\∀l,H l=none->Q (.ref l) (upd H l (.lst ys))):=by
 intro pins s σ H xs us Q I r h;obtain⟨p,ys,rfl,J,q⟩:=h;obtain⟨u,rfl,Z⟩:=eO r;cases Z;have fin:∀its,aH ys its->ys.length<=sizeLine->∀h' z,(∀b o',s.heap.get? b=some o'->h'.get? b=some o') ->
   h'.get? s.heap.objs.size=some { cls:=.type "list",dict:=none,data:=.seq its.toArray z,slots:=#[] }->EP X pins σ Q (.ref s.heap.objs.size) { s with heap:=h' }:=λits D hz h' z kp e =>
  ⟨.ref s.heap.objs.size,_,I.laid (t':=s.toks) kp (lC _) (show bK X.prog X.w _ h' _ (.lst ys)from⟨hz,its,z,D,e⟩),rfl,q _ (I.hok.fresh (lC _))⟩
 rcases J with J|J
 .obtain⟨its,D,Y,hz⟩:=I.list J;have U:=D.length;obtain⟨o,ho,hc,n,hd⟩:=Y.isList;exact call_list_seq p (.inl rfl) ho hc hd (λh' z kp e=>fin its D hz h' z kp e) (by simp only[oe]<;>omega)
 .obtain⟨its,D,Y,hz⟩:=I.tuple J;have U:=D.length;obtain⟨o,ho,hc,n,hd⟩:=Y;exact call_list_seq p (.inr rfl) ho hc hd (λh' z kp e=>fin its D hz h' z kp e) (by simp only[oe]<;>omega)
def jq:bZ X (.type "tuple") (λxs H Q=>∃p ys,xs=[.ref p]/\((SqL X.K H p ys/\∀l,H l=none->Q (.ref l) (upd H l (.tup ys)))\/(SqT X.K H p ys/\Q (.ref p) H))):=by
 intro pins s σ H xs us Q I r h;obtain⟨p,ys,rfl,h⟩:=h;obtain⟨u,rfl,Z⟩:=eO r;cases Z;rcases h with⟨z,q⟩|⟨z,q⟩
 .obtain⟨its,D,J,hz⟩:=I.list z;have U:=D.length;refine call_tuple_list J.isList (λh' kp=>?_) (by simp[oe]<;>omega);have Y:=I.kept (t':=s.toks) kp;have I2:Inv X pins σ (upd H h'.objs.size (.tup ys)) { s with heap:=h'.push { cls:=.type "tuple",data:=.seq its.toArray } }:=
   Y.laid (λb o e=>gx _ e) (lC _) (show bK X.prog X.w _ _ _ _ from⟨hz,its,D,IsTup.new _ _⟩)
  exact⟨.ref h'.objs.size,_,I2,rfl,q _ (Y.hok.fresh (lC _))⟩
 .obtain⟨its,D,J,hz⟩:=I.tuple z;exact call_tuple_same J ⟨.ref p,H,I,rfl,q⟩
def tyV(K:Nx)(T:String)(x:V)(H:Hp):Prop:=match x with
 | .str _=>T="str"
 | .int _=>T="int"
 | .ref p=>(T="list"/\∃xs,SqL K H p xs)\/(T="tuple"/\∃o,K.lookup p=some o/\o.cls=.type "tuple"/\o.dict=none) \/
   (T="dict"/\((∃kvs,H p=some (.dK kvs))\/∃kvs,H p=some (.dT kvs)))\/(T="set"/\∃S n,H p=some (.set S n))
 | _=>False
def yc(I:Inv X pins σ H s)(r:aF x v)(ty:tyV X.K T x H) :
  s.TypeIs v T/\∀a,v=.ref a->∃U,s.heap.get? a=some U/\U.dict=none:=by
 cases x with
 |str z =>
  obtain⟨t,rfl⟩:=r;cases (show T="str" from ty);exact⟨typeIs_str s z t,λ_ e=>nomatch e⟩
 |int i =>
  obtain⟨t,rfl⟩:=r;cases (show T="int" from ty);exact⟨typeIs_int s i t,λ_ e=>nomatch e⟩
 |ref p =>
  cases r;rcases ty with⟨rfl,xs,Z⟩|⟨rfl,o,D,hc,hd⟩|⟨rfl,D⟩|⟨rfl,S,n,D⟩
  .obtain⟨its,_,Y,_⟩:=I.list Z;refine⟨Y.isList.typeIs,λa e=>?_⟩;cases e;obtain⟨o,n,e,c,hd,_⟩:=Y;exact⟨o,e,hd⟩
  .refine⟨⟨o,I.kIn p o D,hc⟩,λa e=>?_⟩;cases e;exact⟨o,I.kIn _ o D,hd⟩
  .have z:∃o,s.heap.get? p=some o/\o.ExactDict:=by
    rcases D with⟨kvs,D⟩|⟨kvs,D⟩
    .obtain⟨_,_,_,_,o,_,_,e,ex,_⟩:=I.hok p _ D;exact⟨o,e,ex⟩
    .obtain⟨_,_,_,_,o,_,_,e,ex,_⟩:=I.hok p _ D;exact⟨o,e,ex⟩
   obtain⟨o,e,ex⟩:=z;refine⟨⟨o,e,ex.1⟩,λa J=>?_⟩;cases J;exact⟨o,e,ex.2.1⟩
  .obtain⟨o,_,_,_,e,ex,_⟩:=I.hok p _ D;refine⟨⟨o,e,ex.1⟩,λa J=>?_⟩;cases J;exact⟨o,e,ex.2.1⟩
 | _=>exact False.elim ty
noncomputable def Jt(K:Nx)(T:String)(r:V->List V->Hp->VK->Prop)(to:TE):TE:=λσ H Q=>to σ H λx H1=>tyV K T x H1/\r x [] H1 Q
noncomputable def tBM(K:Nx)(T:String)(r:V->List V->Hp->VK->Prop)(to:TE)(t:TA):TE:=λσ H Q=>to σ H λx H1=>tyV K T x H1/\t σ H1 λxs H2=>r x xs H2 Q
variable{o e:Expr}{es:List Expr}{to:TE}{t:TA}{name:Str}{apos cpos:Pos}{T id:String}{r:V->List V->Hp->VK->Prop}
def D1 (Z:PlainAttrs T) (slot:Slot T name id) (J:typeOf (.builtin id)=pure (.type "method_descriptor")) (hm:MtR X id r) (ho:PE X o to)
  (z:attributeBase o name X.env (eval o X.env)=eval o X.env:=by rfl) (D:(apos.endLine==cpos.line)=true:=by rfl):PE X (.Call (.Attribute o name apos) [] [] cpos) (Jt X.K T r to):=by
 intro pins s σ H Q I h;refine wpAny_Call_method0_late z D (thn (ho pins s σ H _ I h) λv s1 ⟨x,H1,U,Y,ty,q1⟩=>?_);obtain⟨h1,h2⟩:=yc U Y ty;exact⟨T,id,Z,slot,J,h1,h2,LP rfl (PySem.evalArgs_none (hm pins s1 σ H1 x [] v [] Q U Y .nil q1))⟩
def yd (pa:PlainAttrs T) (slot:Slot T name id) (Y:typeOf (.builtin id)=pure (.type "method_descriptor")) (hm:MtR X id r) (ho:PE X o to) (ha:PA X (e::es) t)
  (D:attributeBase o name X.env (eval o X.env)=eval o X.env:=by rfl)
  (U:((backTo cpos (starEach (e::es) X.env)).all (λx=>!x.1)&&(backToKw cpos (keywordEach [] X.env)).all (λx=>x.1.isSome)
  &&decide ((e::es).length+([]:List Keyword).length+(if ([]:List Keyword).isEmpty then 0 else 1)<30))=true:=by rfl)
  (J:(apos.endLine==cpos.line)=true:=by rfl) (hs:starEach (e::es) X.env=(false,eval e X.env)::starEach es X.env:=by rfl) (z:(backTo cpos (starEach es X.env)).any (·.1)=false:=by rfl) :
  PE X (.Call (.Attribute o name apos) (e::es) [] cpos) (tBM X.K T r to t):=by
 intro pins s σ H Q I h;refine wpAny_Call_method_late D U J rfl (thn (ho pins s σ H _ I h) λv s1 ⟨x,H1,Z,r1,ty,q1⟩=>?_);obtain⟨h1,h2⟩:=yc Z r1 ty;refine⟨T,id,pa,slot,Y,h1,h2,?_⟩;have hA:=ha cpos pins s1 σ H1 _ Z q1;rw[hs]at hA ⊢;refine LP (by show(false||(backTo cpos _).any _)=false;rw[z]<;>rfl) (Calls.evalArgs_plain ?_);exact thn hA λus s2 ⟨vs,H2,I2,r2,q2⟩=>hm pins s2 σ H2 x vs v us Q I2 r1 r2 q2
end
def MtM(X:Cx)(id:String)(r:V->List V->Hp->VK->Prop):Prop:=
 ∀pins s (σ:St) H x xs v us Q,Inv X pins σ H s->aF x v->aH xs us->r x xs H Q ->
  wpAny (model X.prog X.w) X.A (call (.builtin id) (v::us)) (EP X pins σ Q) X.xe s
theorem aH.one:∀{x}{us},aH [x] us->∃u,us=[u]/\aF x u
 | _,_,.cons r .nil=>⟨_,rfl,r⟩
def aH.zero:∀{us},aH [] us->us=[]
 | _,.nil=>rfl
theorem aH.dropLast(h:aH xs us):aH xs.dropLast us.dropLast:=by
 induction h with
 |nil=>exact .nil
 |cons r t ih =>
  cases t<;>first|exact .nil|exact .cons r ih
theorem aH.reverse(h:aH xs us):aH xs.reverse us.reverse:=by
 induction h with
 |nil=>exact .nil
 |cons r t ih=>rw[reverse_cons,reverse_cons];exact aH.append ih (.cons r .nil)
def D3{α:Type}(l:List α):l.eraseIdx (l.length-1)=l.dropLast:=by simp
section
variable{X:Cx}{pins:List (Addr×Obj)}{σ:St}{H:Hp}{s:Shared}{l b:Addr}{xs ys zs:List V}
theorem Inv.lset{its its':List Value}{n:Nat}{f:Array Value->Array Value}{t':Nat}(I:Inv X pins σ H s)(z:H l=some (.lst xs))
  (e:s.heap.get? l=some { cls:=.type "list",data:=.seq its.toArray n }) (D:f its.toArray=its'.toArray) (hv:aH ys its') (hz:ys.length<=sizeLine) :
  Inv X pins σ (upd H l (.lst ys)) { s with heap:=s.heap.update l (Obj.mapSeq f),toks:=t' }:=by
 have q:=PySem.IsL.update e f;rw[D]at q;refine I.write (by rw[z];exact trivial) (.inl rfl) (λY u J U=>(KP s.heap _ (LG J)).trans U) ⟨_,q⟩ ?_;exact⟨hz,its',_,hv,q⟩
theorem Inv.lnew(I:Inv X pins σ H s)(hv:aH ys its)(hz:ys.length<=sizeLine) :
  Inv X pins σ (upd H s.heap.objs.size (.lst ys)) { s with heap:=s.heap.push { cls:=.type "list",data:=.seq its.toArray },toks:=t' }:=
 I.laid (λ_ _ q=>gx _ q) (lC _) ⟨hz,its,0,hv,pe _ rfl⟩
theorem Inv.fresh(I:Inv X pins σ H s):H s.heap.objs.size=none:=I.hok.fresh (lC _)
theorem Inv.lstM (I:Inv X pins σ H s) (D:H l=some (.lst xs)):xs.length<=sizeLine/\∃its n,aH xs its/\xs.length=its.length/\s.heap.get? l=some { cls:=.type "list",data:=.seq its.toArray n }:=by
 obtain⟨z,its,n,r,e⟩:=I.hok l _ D;exact⟨z,its,n,r,r.length,e⟩
def rA(h:n<=sizeLine):Builtin.List.listTooLong n=false:=by simp_all [Builtin.List.listTooLong]
end
section
variable{X:Cx}
def Bz:V->List V->Hp->VK->Prop:=λx vs H Q=>∃l xs y,x=.ref l/\vs=[y]/\H l=some (.lst xs)/\xs.length<sizeLine/\Q .non (upd H l (.lst (xs++[y])))
def kU:MtM X "list.append" Bz:=by
 intro pins s σ H x vs v us Q I J U h;refine aD λZq Y=>?_
 obtain⟨l,xs,y,rfl,rfl,D,hz,q⟩:=h;cases J;obtain⟨u,rfl,Z⟩:=U.one;obtain⟨z,its,n,r,hl,e⟩:=I.lstM D;refine Y ?_;refine Na F.slot_list_append ⟨_,e,rfl⟩ F.entry_list_append (F.args_list_append_2 _ _) (PySem.list_append l its.toArray n u (by rw[oe];omega)) ⟨e,?_⟩;refine⟨.non,_,I.lset D e (by simp) (r.append (.cons Z .nil)) ?_,rfl,q⟩
 grind
def Ju:V->List V->Hp->VK->Prop:=λx vs H Q=>∃l xs y,x=.ref l/\vs=[]/\H l=some (.lst xs)/\xs[xs.length-1]?=some y/\Q y (upd H l (.lst xs.dropLast))
def D4:MtM X "list.pop" Ju:=by
 intro pins s σ H x vs v us Q I Y Z h;refine aD λZq kq=>?_
 obtain⟨l,xs,y,rfl,rfl,U,hy,q⟩:=h;cases Y;have D:=Z.zero;subst D;obtain⟨z,its,n,r,hl,e⟩:=I.lstM U;obtain⟨u,hu,ru⟩:=r.get hy;have J:its.toArray[its.toArray.size-1]?=some u:=by
  simp_all
 refine kq ?_;refine Na F.slot_list_pop ⟨_,e,rfl⟩ F.entry_list_pop (F.args_list_pop_1 _) (MeetsSeq.list_pop_last l its.toArray n u J (by rw[oe];omega)) ⟨e,?_⟩;refine⟨y,_,I.lset U e ?_ r.dropLast ?_,ru,q⟩
 .simp_all
 .rw[length_dropLast];omega
end
section
variable{prog:Program}{w:World}{A:Around}{E:Value->Shared->Prop}{s:Shared}
end
section
variable{X:Cx}
end
end L2
namespace Att
open PySem PySem.W PySem.Calls PyProof.Rows List Option
def l6 :∀ns vs,WellAll P h vs (ns.map WData.int)->IntsAre vs ns:=by
 intro ns
 induction ns with
 |nil =>
  intro vs w;cases w;exact .nil
 |cons n ns ih =>
  intro vs w;cases w with
  |cons a b =>
   cases a;exact .cons _ _ (ih _ b)
def wA{l:OpenLaw}(hn:l.most=some n) 
  (z:l.row.toRowW.claim.pre args=true) (Y:WellAll P h vals args) :
  ∃a vs ns,vals=[Value.ref a]/\args=[WData.list (ns.map WData.int)]/\h.get? a=some { cls:=.type "list",data:=.seq vs.toArray }/\IntsAre vs ns/\ns.length<=n:=by
 have Z:WShape.hasAll [] args [.list .int]=true:=(pre_splitW z).1;have hc:l.pre.holds [] { args:=args }=true:=(pre_splitW z).2;obtain⟨d,r,rfl,h1,h2⟩:=hasAllW_cons Z;obtain rfl:=hasAllW_nil h2;obtain⟨xs,rfl,h3⟩:=hasW_list h1;obtain⟨ns,rfl⟩:=items_int h3;have D:ns.length<=n:=by
  have U:(WTm.not (.lt (.lit (.int (n:Int))) (.len (.arg 0)))).holds [] { args:=[.list (ns.map .int)] }=true:=by
   have U:=(holds_andW hc).1;rw[hn]at U;exact U
  have h5:=condW_of U (w_not (w_lt w_lit (w_len_list (w_arg rfl))))
  simp_all
 cases Y with
 |cons w1 w2 =>
  cases w2;cases w1 with
  |list ho J=>exact⟨_,_,ns,rfl,rfl,ho,l6 ns _ J,D⟩
def wB(l:OpenLaw)(args):l.row.toRowW.claim.post args (.bool true) args=true:=
 postW_of (r:=l.row.toRowW) (X:=(true==true))
  (show WShape.has [] (.bool true) .bool=true by first|rfl|decide|simp[WShape.arms])
  (show(WTm.eq .res (.lit (.bool true))).value [] { args:=args,res:=some (.bool true),after:=args }=some (.bool (true==true))from w_eq_bool (w_res rfl) w_lit) rfl
def attach_call{l:OpenLaw}{n:Nat}{q:Program}{D:List Str}{XP:(Str->Option Value)->Heap->Prop}{YP:World->Heap->Prop}{d:DefRec}
  (hn:l.most=some n) (a2:d.params.defaults=[])
  (call:∀w s₀ z mg mb Z o pm cd J a vs ns,
   Ground q D [] XP w s₀ mg mb z.heap->YP w z.heap ->
   z.heap.get? Z=some o->o.data=.func (docDef d.name d.params d.body d.scope pm cd J)->z.heap.CodeRec cd d.name->mg d.name=some (.ref Z) ->
   z.heap.get? a=some { cls:=.type "list",data:=.seq vs.toArray }->IntsAre vs ns->ns.length<=n->z.gens=#[] ->
   codeAny (model l.prog w) callerA (.call (.ref Z) ⟨[.ref a],[]⟩) (λr s'=>r=.ok (.ret (.bool true))/\OldK z.heap s'.heap/\s'.os=z.os/\AllBare s'.gens) z) :
  WalkO q D XP YP l.row.toRowW d [] (λf vs=>PySem.call f vs):=by
 intro w s₀ z mg mb G Y Z o pm cd J dV kV ho hd a4 hD a5 hg args vals as ao ba b2 a6 b3;obtain rfl:dV=.none:=Dflts.none hD a2;obtain rfl:kV=.none:=Dflts.noKw hD;obtain⟨a,vs,ns,rfl,rfl,aO,U,a0⟩:=wA hn ao a6;refine enter_call (LY (call w s₀ z mg mb Z o pm cd J a vs ns G Y ho (fd_plain hd) a4 a5 aO U a0 hg) λr s' hq=>?_);obtain⟨rfl,h2,h3,h4⟩:=hq;exact⟨.inl ⟨.bool true,.bool true,[],rfl,λ_=>rfl,.bool true,wB l _,λ_=>⟨Pairwise.nil,λ_ hm=>(nomatch hm)⟩⟩,h2,h3,h4⟩
section
variable{prog:Program}{w:World}{A:Around}{E:Value->Shared->Prop}{s:Shared}{K:Frag}
end
end Att
namespace L2
open PySem PySem.Spec PyProof.Rows List Option
theorem kW:∀{vs}{ns},IntsAre vs ns->aH (ns.map V.int) vs
 | _,_,.nil=>.nil
 | _,_,.cons n t h=>.cons ⟨t,rfl⟩ (kW h)
def D5(H:Hp):Prop:=∀b,H b=none\/∃o xs,H b=some (.frz o (.lst xs))
def ye{K:Nx} 
  (KX:K.In D.heap) (ao:D.heap.Ns mainGlobals mg) (J:D.heap.Ns builtinsNs mb) (a5:∀x:Str,x ≠ "__name__"->mb x=bootBuiltins x) (aO:D.heap.NoLimit) (hg:D.gens=#[])
  (ha:D.heap.get? a=some { cls:=.type "list",data:=.seq vs.toArray }) (hi:IntsAre vs ns) (hl:ns.length<=sizeLine) (hr:kT k callerA)
  (F:∀base,K.In base->base.Ns mainGlobals mg->jD P w K mg base CX k fa fd [x] sp) (Z:∀s u,BindsTo s fd ⟨[u],[]⟩ [(x,u)])
  (a6:∀H,D5 H->SqL K H a (ns.map V.int)->sp [.ref a] H (λv _=>v=.bl true) λ_ _ _=>False)
  (a7:∀H e s',CX [] H D (λ_ _ _=>False) e s'->False) :
  codeAny (model P w) callerA (.call (.ref fa) ⟨[.ref a],[]⟩) (λr s'=>r=.ok (.ret (.bool true))/\OldK D.heap s'.heap/\s'.os=D.os/\AllBare s'.gens) D:=by
 have rv:=kW hi;have a0:=hi.length;have Y:∀H,D5 H->SqL K H a (ns.map V.int)->HOk P w H D.heap->(∀b,H b≠none->b=a)->(H a≠none->K.lookup a=none) ->
   codeAny (model P w) callerA (.call (.ref fa) ⟨[.ref a],[]⟩) (λr s'=>r=.ok (.ret (.bool true))/\OldK D.heap s'.heap/\s'.os=D.os/\AllBare s'.gens) D:=by
  intro H hO hS hok hA hK;have base_of:∀{b}{o},D.heap.get? b=some o->H b=none->(pV D.heap H).get? b=some o:=λe n=>xI e n
  have a8:∀{b}{o}{es}{ep},D.heap.get? b=some o->o.data=.dict es ep->H b=none:=λ{b o es ep} e d=>by
   cases q:H b with
   |none=>rfl
   |some u =>
    have e':=hA b (by rw[q];simp);subst e';rw[ha]at e;cases e
    have d':=d;cases d'
  have U:∀{b}{m},D.heap.Ns b m->(pV D.heap H).Ns b m:=λ{b m} ⟨o,es,ep,e,d,r⟩=>⟨o,es,ep,base_of e (a8 e d),d,r⟩
  have a1:K.In (pV D.heap H):=λb o e=>base_of (KX b o e) (by
   cases q:H b with
   |none=>rfl
   |some u =>
    have e':=hA b (by rw[q];simp);subst e';rw[hK (by rw[q];simp)]at e;cases e)
  have hM:Mod K mg (pV D.heap H):=⟨a1,U ao,⟨mb,U J,a5⟩,let ⟨mc,h1,h2⟩:=aO;⟨mc,U h1,h2⟩⟩;have e0:Bs P w K mg (pV D.heap H) callerA [] D H:=⟨rfl,hM,λb o e=>Bf e,L0 (wo _ _),trivial,λb J=>absurd (show b∈([]:List Addr)from J) (by simp),hok,.of_eq hg⟩;refine LY ((F _ a1 (U ao)).run callerA [] D H ⟨[.ref a],[]⟩ [.ref a] [.ref a] _ _ hr e0 (Z D (.ref a)) (.cons rfl .nil) (a6 H hO hS)) λr s' h=>?_
  cases r with
  |error e=>exact(a7 H e s' h).elim
  |ok fl =>
   cases fl with
   |ret u =>
    obtain⟨v,H',os,bare,un,a2,r',q⟩:=h;have q':=q;subst q';obtain rfl:u=Value.bool true:=r';refine⟨rfl,OldK.of_keep λb o e=>?_,os,bare⟩;cases q:H b with
    |none=>exact un.keep b o e q (by intro z;exact absurd (show b∈([]:List Addr)from z) (by simp)) (by simp)
    |some u =>
     rcases hO b with z|⟨ob,xs,z⟩
     .rw[q]at z;cases z
     .have z2:=un.frzs b ob _ z;obtain⟨e1,_⟩:=hok b _ z;obtain⟨e2,_⟩:=a2 b _ z2;rw[e]at e1;cases e1
      exact e2
   | _=>exact False.elim h
 cases hk:K.lookup a with
 |some o =>
  have e:=KX a o hk;rw[ha]at e;cases e;refine Y (λ_=>none) (λ_=>.inl rfl) (.inr ⟨_,vs.toArray,_,hk,rfl,rfl,rfl,by rw[oe,a0];exact hl,by simpa using rv⟩) (λb u z=>by have z':=z;cases z') (λb z=>absurd rfl z) λz=>absurd rfl z
 |none =>
  refine Y (λb=>if b=a then some (.frz { cls:=.type "list",data:=.seq vs.toArray } (.lst (ns.map V.int)))else none) (λb=>?_) (.inl (.inr ⟨{ cls:=.type "list",data:=.seq vs.toArray },if_pos rfl⟩)) (λb u z=>?_) (λb z=>?_) λ_=>hk
  .by_cases J:b=a
   .exact .inr ⟨_,_,if_pos J⟩
   .exact .inl (if_neg J)
  .by_cases J:b=a
   .have z':=(if_pos J).symm.trans z;cases z';subst J;exact⟨ha,by rw[nA];exact hl,vs,_,rv,ha⟩
   .have z':=(if_neg J).symm.trans z;cases z'
  .by_cases J:b=a
   .exact J
   .exact absurd (if_neg J) z
def BA{l:PySem.W.OpenLaw}{n k:Nat}{q:Program}{D:List Str}{XP:(Str->Option Value)->Heap->Prop}{YP:World->Heap->Prop}{d:DefRec}{K:Params->Nx}{CX:World->CXT}{sp:World->Sp}{x:Str}
  (hn:l.most=some n) (aO:n<=sizeLine) (a0:d.params.defaults=[]) (hr:kT k callerA)
  (hY:∀w h,YP w h->(K w.params).In h)
  (F:∀w mg fa h,(K w.params).In h->h.Ns mainGlobals mg->mg d.name=some (.ref fa) ->
   ∃fd,(∀s u,BindsTo s fd ⟨[u],[]⟩ [(x,u)]) /\
    ∀base,(K w.params).In base->base.Ns mainGlobals mg->jD l.prog w (K w.params) mg base (CX w) k fa fd [x] (sp w))
  (a1:∀w H a (ns:List Int),ns.length<=n->D5 H->SqL (K w.params) H a (ns.map V.int)->sp w [.ref a] H (λv _=>v=.bl true) λ_ _ _=>False)
  (a2:∀w H s e s',CX w [] H s (λ_ _ _=>False) e s'->False) :
  PySem.W.WalkO q D XP YP l.row.toRowW d [] (λf vs=>PySem.call f vs):=by
 refine Att.attach_call hn a0 λw s₀ U mg mb fa o pm cd ba a vs ns G Y ho hd br a3 Z J z hg=>?_
 have KX:=hY w _ Y;obtain⟨fd,hb,hF⟩:=F w mg fa _ KX G.T.g a3;exact ye KX G.T.g G.T.b G.T.builtins G.T.nolimit hg Z J (r4 z aO) hr hF hb (λH hO hS=>a1 w H a ns z hO hS) λH e s'=>a2 w H U e s'
noncomputable def j3(s:Stmt):Arguments:=match s with
 | .FunctionDef _ a _ _ _ _ _ _ _ _=>a
 | _=>{ posonlyargs:=[],args:=[],vararg:=none,kwonlyargs:=[],kw_defaults:=[],kwarg:=none,defaults:=[] }
noncomputable def dM(s:Stmt):List Stmt:=match s with
 | .FunctionDef _ _ b _ _ _ _ _ _ _=>b
 | _=>[]
noncomputable def bt(s:Stmt):Scope:=match s with
 | .FunctionDef _ _ _ _ _ _ sc _ _ _=>sc
 | _=>{ kind:=.function,names:=[],isGenerator:=false,isCoroutine:=false }
noncomputable abbrev CX0:CXT:=λ_ _ _ _ _ _=>False
noncomputable abbrev E0:XK:=λ_ _ _=>False
def rB :pZ CX0 X E0:=λ_ _ _ _ _ _ _ h=>h.elim
section
variable{P:Program}{w:World}{K:Nx}{mg:Str->Option Value}{base:Heap}
end
section
variable{X:Cx}
end
def aj(H H':Hp):Prop:=∀b o,H b=some o->H' b=some o
def aj.refl(H):aj H H:=λ_ _ h=>h
def aj.trans(a:aj H H1)(b:aj H1 H2):aj H H2:=λc o h=>b c o (a c o h)
def aj.free(e:aj H H')(h:H' l=Option.none):H l=Option.none:=by
 cases q:H l with
 |none=>rfl
 |some o =>
  rw[e l o q]at h;cases h
theorem aj.seq{K:Nx}(e:aj H H')(h:SqL K H a xs):SqL K H' a xs:=by
 rcases h with(h|⟨o,h⟩)|h
 .exact .inl (.inl (e _ _ h))
 .exact .inl (.inr ⟨o,e _ _ h⟩)
 .exact .inr h
section
variable{g:Type} [DecidableEq g]
noncomputable def jn(kvs:List (g×V))(k:g):Option V:=(kvs.find? λz=>decide (z.1=k)).map (·.2)
noncomputable def gJ(kvs:List (g×V))(k:g)(v:V):List (g×V):=
 if (kvs.any λz=>decide (z.1=k))=true then kvs.map (λz=>if z.1=k then(z.1,v)else z)else kvs++[(k,v)]
noncomputable def JT(kvs:List (g×V))(k:g):List (g×V):=kvs.filter λz=>decide (z.1≠k)
def mQ{k:g}(e:p.1=k):jn (p::r) k=some p.2:=by simp_all [jn]
def mR{k:g}(e:¬ p.1=k):jn (p::r) k=jn r k:=by simp_all [jn]
theorem rC(k):∀kvs:List (g×V),(kvs.any λz=>decide (z.1=k))=(jn kvs k).isSome
 | []=>rfl
 |p::r=>by
  rw[any_cons];by_cases e:p.1=k
  .simp[mQ e,J3 e]
  .rw[mR e,Kc e,Bool.false_or];exact rC k r
def iN(kvs)(k:g)(v):(gJ kvs k v).length<=kvs.length+1:=by grind [gJ,length_map,length_append,length_cons,length_nil]
def l5.isSome_eq(r:l5 o u):o.isSome=u.isSome:=by
 cases o<;>first|(cases u<;>first|rfl|exact(show False from r).elim)|(cases u<;>first|exact(show False from r).elim|rfl)
theorem l5.getD(r:l5 o u)(rd:aF d d'):aF (o.getD d) (u.getD d'):=by
 cases o<;>first|(cases u<;>first|exact rd|exact(show False from r).elim)|(cases u<;>first|exact(show False from r).elim|exact r)
theorem KV.val(r:KV kvs vs)(k:g):l5 (jn kvs k) (valueAt vs k):=by
 induction r with
 |nil=>exact True.intro
 | @cons p q ps D h t ih =>
  obtain⟨h1,h2⟩:=h;by_cases e:p.1=k
  .have J:=h1.symm.trans e;have b:valueAt (q::D) k=some q.2:=by simp[valueAt,find?_cons,J]
   rw[mQ e,b];exact h2
  .have J:¬ q.1=k:=λz=>e (h1.trans z)
   have b:valueAt (q::D) k=valueAt D k:=by simp[valueAt,find?_cons,J]
   rw[mR e,b];exact ih
theorem KV.any(r:KV kvs vs)(k:g):(kvs.any λz=>decide (z.1=k))=vs.any λz=>decide (z.1=k):=by
 induction r with
 |nil=>rfl
 |cons h t ih=>rw[any_cons,any_cons,ih,h.1]
def KV.repl(r:KV kvs vs)(k:g)(J:aF y u) :
  KV (kvs.map λD=>if D.1=k then(D.1,y)else D) (vs.map λD=>if D.1=k then(D.1,u)else D):=by
 induction r with
 |nil=>exact .nil
 | @cons p q ps U h t ih =>
  rw[JX,JX];refine .cons ?_ ih;obtain⟨h1,h2⟩:=h;by_cases e:p.1=k
  .rw[if_pos e,if_pos (h1.symm.trans e)];exact⟨h1,J⟩
  .rw[if_neg e,if_neg (λz=>e (h1.trans z))];exact⟨h1,h2⟩
theorem KV.put(r:KV kvs vs)(k:g)(z:aF y u):KV (gJ kvs k y) (stored vs k u):=by
 unfold gJ stored;rw[r.any k];by_cases e:(vs.any λD=>decide (D.1=k))=true
 .rw[if_pos e,if_pos e];exact r.repl k z
 .rw[if_neg e,if_neg e];exact Paired.snoc r ⟨rfl,z⟩
def KV.keys{vs:List (g×Value)}(r:KV kvs vs):kvs.map (·.1)=vs.map (·.1):=by
 induction r with
 |nil=>rfl
 |cons h t ih=>rw[JX,JX,ih,h.1]
theorem KV.length(r:KV kvs vs):kvs.length=vs.length:=Paired.length r
end
def mS(r:aF (kV k) u):(bF P w).is k u=true:=by
 cases k with
 |inl i=>obtain⟨t,e⟩:=(show ∃t,u=Value.int i t from r);subst e;exact rg P w i t
 |inr x=>obtain⟨t,e⟩:=(show ∃t,u=Value.str x t from r);subst e;exact rh P w x t
theorem o4 :∀{ks}{us},aH (ks.map kV) us->ItemsAre (bF P w) ks us
 | [],_,r=>by rw[map_nil]at r;cases r;exact .nil
 |k::ks,_,r=>by
  cases r with
  |cons h t=>exact .cons (mS h) (o4 t)
abbrev KT(H:Hp):List (List Key×V)->List (List Key×Addr×Value)->Prop:=Paired λp q=>p.1=q.1/\H q.2.1=some (.tup (p.1.map kV))/\aF p.2 q.2.2
theorem KT.val(r:KT H kvs xs)(k):l5 (jn kvs k) ((atKey xs k).map (·.2)):=by
 induction r with
 |nil=>exact True.intro
 | @cons p q ps D h t ih =>
  obtain⟨h1,_,h2⟩:=h;by_cases e:p.1=k
  .have J:=h1.symm.trans e;have b:atKey (q::D) k=some q.2:=by simp[atKey,find?_cons,J]
   rw[mQ e,b];exact h2
  .have J:¬ q.1=k:=λz=>e (h1.trans z)
   have b:atKey (q::D) k=atKey D k:=by simp[atKey,find?_cons,J]
   rw[mR e,b];exact ih
def KT.repl(r:KT H kvs xs)(k)(J:aF y u) :
  KT H (kvs.map λD=>if D.1=k then(D.1,y)else D) (xs.map (putAt k u)):=by
 induction r with
 |nil=>exact .nil
 | @cons p q ps Y h t ih =>
  rw[JX,JX];refine .cons ?_ ih;obtain⟨h1,h2,U⟩:=h;unfold putAt;by_cases e:p.1=k
  .rw[if_pos e,if_pos (h1.symm.trans e)];exact⟨h1,h2,J⟩
  .rw[if_neg e,if_neg (λz=>e (h1.trans z))];exact⟨h1,h2,U⟩
theorem KT.put(r:KT H kvs xs)(k)(D:H b=some (.tup (k.map kV)))(z:aF y u) :
  KT H (gJ kvs k y) (storedH xs k b u):=by
 have e:(kvs.any λJ=>decide (J.1=k))=(atKey xs k).isSome:=by
  rw[rC,(r.val k).isSome_eq,isSome_map]
 unfold gJ storedH;rw[e];by_cases q:(atKey xs k).isSome=true
 .rw[if_pos q,if_pos q];exact r.repl k z
 .rw[if_neg q,if_neg q];exact Paired.snoc r ⟨rfl,D,z⟩
def KT.keeps(r:KT H kvs xs)(D:∀b ys,H b=some (.tup ys)->H' b=some (.tup ys)):KT H' kvs xs:=
 Paired.mapP r λ_ _ z=>⟨z.1,D _ _ z.2.1,z.2.2⟩
section
variable{P:Program}{w:World}{H:Hp}{h:Heap}{a:Addr}
def C5(ok:HOk P w H h)(e:Rd H a u):bK P w H h a u:=e.ok ok
def jr(ok:HOk P w H h)(e:Rd H a (.dK kvs)):kvs.length<=sizeLine/\(a==sysModules)=false/\∃vs,KV kvs vs/\h.DictOf (bF P w) a vs:=
 show bK P w H h a (.dK kvs)from C5 ok e
def C6(ok:HOk P w H h)(e:H a=some (.dK kvs)):kvs.length<=sizeLine/\(a==sysModules)=false/\∃vs,KV kvs vs/\h.DictOf (bF P w) a vs:=jr ok (.inl e)
def kX(ok:HOk P w H h)(e:H a=some (.tup (ks.map kV))):(tupleKind (bF P w)).is h ks a:=by
 obtain⟨_,its,r,o,h1,h2,n,z⟩:=(show bK P w H h a _ from ok a _ e);exact⟨o,its.toArray,n,h1,h2,z,by simpa using o4 r⟩
def lI(ok:HOk P w H h)(e:Rd H a (.dT kvs)):kvs.length<=sizeLine/\(a==sysModules)=false /\
  ∃xs,KT H kvs xs/\h.DictOfH (tupleKind (bF P w)) a xs:=by
 refine aD λZq J=>?_
 obtain⟨z,y,xs,r,o,es,ep,h1,h2,U,Y,Z⟩:=(show bK P w H h a _ from C5 ok e);refine J ?_;refine⟨z,y,xs,r,o,es,ep,h1,h2,U,Y,λx hx=>?_,Z⟩;have all:∀{l}{m},KT H l m->∀x∈m,(tupleKind (bF P w)).is h x.1 x.2.1:=by
  intro l m q
  induction q with
  |nil=>intro x hx;exact nomatch hx
  | @cons p q ps qs D t ih =>
   intro x hx;rcases tf.mp hx with e|hx
   .subst e;exact kX ok (by rw[<- D.1];exact D.2.1)
   .exact ih x hx
 exact all r x hx
def G7(ok:HOk P w H h)(e:H a=some (.dT kvs)):kvs.length<=sizeLine/\(a==sysModules)=false /\
  ∃xs,KT H kvs xs/\h.DictOfH (tupleKind (bF P w)) a xs:=lI ok (.inl e)
end
def mT(H:Hp)(a:Addr)(y:V)(r:Option V):Prop:=
 (∃kvs k,Rd H a (.dK kvs)/\y=kV k/\r=jn kvs k)\/∃kvs k b,Rd H a (.dT kvs)/\y=.ref b/\H b=some (.tup (k.map kV))/\r=jn kvs k
def mU(H:Hp)(a:Addr)(y v:V)(H':Hp):Prop:=
 (∃kvs k,H a=some (.dK kvs)/\y=kV k/\kvs.length<sizeLine/\H'=upd H a (.dK (gJ kvs k v))) \/
 ∃kvs k b,H a=some (.dT kvs)/\y=.ref b/\H b=some (.tup (k.map kV))/\kvs.length<sizeLine/\H'=upd H a (.dT (gJ kvs k v))
theorem mU.k{k:Key}{v:V}(e:H a=some (.dK kvs))(z:kvs.length<sizeLine):mU H a (kV k) v (upd H a (.dK (gJ kvs k v))):=.inl ⟨kvs,k,e,rfl,z,rfl⟩
theorem mU.t{k:List Key}{v:V}(e:H a=some (.dT kvs))(z:H b=some (.tup (k.map kV)))(D:kvs.length<sizeLine) :
  mU H a (.ref b) v (upd H a (.dT (gJ kvs k v))):=.inr ⟨kvs,k,b,e,rfl,z,D,rfl⟩
section
variable{X:Cx}{pins:List (Addr×Obj)}{σ:St}{H:Hp}{s:Shared}{a:Addr}{y v:V}{u r:Value}{o:Option V}{A:Around}{E:Value->Shared->Prop}
theorem Inv.big(I:Inv X pins σ H s):sysModules<s.heap.objs.size:=by
 have h:=(I.mod.glob.keeps I.bk).lt;exact L1 (by decide) h
def wC(hu:A.units+1<cLine)(I:Inv X pins σ H s)(g:mT H a y (some v))(ry:aF y u)(h:∀U s',Inv X pins σ H s'->aF v U->Q U s') :
  wpAny (model X.prog X.w) A (getItem (.ref a) u) Q E s:=by
 rcases g with⟨kvs,k,e,Y,l⟩|⟨kvs,k,b,e,Y,eb,l⟩
 .subst Y;obtain⟨z,hd,vs,D,dd⟩:=jr I.hok e;obtain⟨U,hw,J⟩:=l5.some_of (by rw[l];exact D.val k);exact wpAny_getItem_of (mS ry) dd.mapOf hw (h U _ (I.tok _) J)
 .subst Y;cases (show u=Value.ref b from ry);obtain⟨z,hd,xs,D,dd⟩:=lI I.hok e;obtain⟨U,hw,J⟩:=l5.some_of (o:=(atKey xs k).map _) (by rw[l];exact D.val k);obtain⟨p,hp,Z⟩:=mu.mp hw;refine wpAny_getItem_heap (LH hu) (kX I.hok eb) dd hp ?_;rw[Z];exact h U _ (I.tok _) J
def Jv(Y:A.units+1<cLine)(I:Inv X pins σ H s)(g:mT H a y o)(U:aF y u)(h:∀s',Inv X pins σ H s'->Q (.bool o.isSome) s') :
  wpAny (model X.prog X.w) A (compareOp .In u (.ref a)) Q E s:=by
 rcases g with⟨kvs,k,e,J,l⟩|⟨kvs,k,b,e,J,Z,l⟩
 .subst J;obtain⟨z,hd,vs,D,dd⟩:=jr I.hok e;refine wpAny_in_of (mS U) hd dd.mapOf ?_;rw[<- (D.val k).isSome_eq,<- l];exact h _ (I.tok _)
 .subst J;cases (show u=Value.ref b from U);obtain⟨z,hd,xs,D,dd⟩:=lI I.hok e;refine wpAny_in_heap (LH Y) (kX I.hok Z) hd dd ?_;have q:=(D.val k).isSome_eq;rw[isSome_map]at q;rw[<- q,<- l];exact h _ (I.tok _)
def BB(Y:A.units+1<cLine)(I:Inv X pins σ H s)(g:mT H a y o)(U:aF y u)(h:∀s',Inv X pins σ H s'->Q (.bool (!o.isSome)) s') :
  wpAny (model X.prog X.w) A (compareOp .NotIn u (.ref a)) Q E s:=by
 rcases g with⟨kvs,k,e,J,l⟩|⟨kvs,k,b,e,J,Z,l⟩
 .subst J;obtain⟨z,hd,vs,D,dd⟩:=jr I.hok e;refine wpAny_notIn_of (mS U) hd dd.mapOf ?_;rw[<- (D.val k).isSome_eq,<- l];exact h _ (I.tok _)
 .subst J;cases (show u=Value.ref b from U);obtain⟨z,hd,xs,D,dd⟩:=lI I.hok e;refine wpAny_notIn_heap (LH Y) (kX I.hok Z) hd dd ?_;have q:=(D.val k).isSome_eq;rw[isSome_map]at q;rw[<- q,<- l];exact h _ (I.tok _)
def p8(I:Inv X pins σ H s)(J:Mut (H a))(hs:Heap.SameBut a s.heap h')(U:∃q,h'.get? a=some q)(new:bK X.prog X.w (upd H a D) h' a D) :
  Inv X pins σ (upd H a D) { s with heap:=h',toks:=t' }:=
 I.write (x:=a) (e:=a) J (.inl rfl) (λb q Y z=>(hs.2 b Y).trans z) U new
def yf(z:kvs.length<=sizeLine)(hd:(a==sysModules)=false)(D:KV kvs vs)(dd:h'.DictOf (bF P w) a vs) :
  bK P w H' h' a (.dK kvs):=⟨z,hd,vs,D,dd⟩
def wD(hu:A.units+1<cLine)(I:Inv X pins σ H s)(g:mU H a y v H')(ry:aF y u)(rv:aF v r)(h:∀s',Inv X pins σ H' s'->Q () s') :
  wpAny (model X.prog X.w) A (setItem (.ref a) u r) Q E s:=by
 rcases g with⟨kvs,k,e,Y,l,Z⟩|⟨kvs,k,b,e,Y,eb,l,Z⟩
 .subst Y Z;obtain⟨z,hd,vs,D,dd⟩:=C6 I.hok e;have hz:vs.length<=sizeLine:=by rw[<- D.length];exact z
  have hl:(gJ kvs k v).length<=sizeLine:=by have:=iN kvs k v;omega
  refine wpAny_setItem_pairs (mS ry) dd λh' J hs=>h _ ?_
  have he:∃q,h'.get? a=some q:=let ⟨q,_,_,U,_⟩:=J;⟨q,U⟩
  exact p8 I (by rw[e];exact True.intro) hs he (yf hl hd (D.put k rv) J)
 .subst Y Z;cases (show u=Value.ref b from ry);obtain⟨z,hd,xs,D,dd⟩:=G7 I.hok e;have hz:xs.length<=sizeLine:=by rw[<- Paired.length D];exact z
  have hl:(gJ kvs k v).length<=sizeLine:=by have:=iN kvs k v;omega
  refine wpAny_setItem_heap (LH hu) (kX I.hok eb) dd λh' J hs=>h _ ?_
  refine aD λZq kq=>?_
  obtain⟨q,es,ep,U,h2,h3,h4,_,h5⟩:=J;refine kq ?_;refine p8 I (by rw[e];exact True.intro) hs ⟨q,U⟩ ⟨hl,hd,_,(D.put k eb rv).keeps λc ys ec=>?_,q,es,ep,U,h2,h3,h4,h5⟩;rw[aZ (GA ec e (λz=>nomatch z))];exact ec
end
section
variable{X:Cx}{pins:List (Addr×Obj)}{σ:St}{H:Hp}{s:Shared}{a:Addr}{kvs:List (Key×V)}{k:Key}{u:Value}{A:Around}{E:Value->Shared->Prop}
end
def G8(i:Expr):Prop:=∀z D,subscripted i false z D=operate [z,D] (getItem z D)
def BC{T id:String} 
  (hl:typeLookup (.type T) "__getitem__"=pure (some (.builtin id))) (hs:G8 slice)
  (h:wpAny (model prog w) A (eval value env) (λo J=>wpAny (model prog w) A (eval slice env) (λi z=>z.TypeIs o T/\wpAny (model prog w) A (getItem o i) Q E z) E J) E s) :
  wpAny (model prog w) A (eval (.Subscript value slice pos) env) Q E s:=by
 refine Subscript_ (Kq h (λo J Y=>Kq Y (λi z D=>?_) λ_ _ x=>x) λ_ _ x=>x);obtain⟨hT,D⟩:=D;refine ez ?_;refine ez (MI hT hl ?_);have fin:wpAny (model prog w) A (subscripted slice false o i) (λr U=>wpAny (model prog w) A (letTemporaryGo value o r >>= λ_=>pure r) Q E U) E z:=by
  rw[hs o i];exact wpAny_operating (Kq D (λr U Z=>ez (wpAny_letTemporaryGo (gf Z))) λ_ _ x=>x)
 first
  | exact gf (ez fin)
  | exact ez (gf _)
  | exact ez fin
def rD (I:Inv X pins σ H s) (g:mT H a y o):s.TypeIs (.ref a) "dict":=by
 rcases g with⟨kvs,k,e,_,_⟩|⟨kvs,k,b,e,_,_,_⟩
 .obtain⟨_,_,vs,_,dd⟩:=jr I.hok e;exact dd.typeIs
 .obtain⟨_,_,xs,_,dd⟩:=lI I.hok e;exact dd.typeIs
noncomputable def G9(td ty:TE):TE:=λσ H Q=>td σ H λx H1=>ty σ H1 λy H2=>∃a v,x=.ref a/\mT H2 a y (some v)/\Q v H2
noncomputable def Jw(ty td:TE):TE:=λσ H Q=>ty σ H λy H1=>td σ H1 λx H2=>∃a o,x=.ref a/\mT H2 a y o/\Q (.bl o.isSome) H2
noncomputable def BD(ty td:TE):TE:=λσ H Q=>ty σ H λy H1=>td σ H1 λx H2=>∃a o,x=.ref a/\mT H2 a y o/\Q (.bl (!o.isSome)) H2
noncomputable def G_(td ty tv:TE):TS:=λD σ H=>tv σ H λv H1=>td σ H1 λx H2=>ty σ H2 λy J=>∃a z,x=.ref a/\mU J a y v z/\D.nx σ z
section
variable{X:Cx}{o i e value:Expr}{pos pos' tpos:Pos}{td ty tv:TE}
def u_(J:X.A.units+1<cLine)(ho:PE X o td)(hi:PE X i ty)(hs:G8 i):PE X (.Subscript o i pos) (G9 td ty):=by
 intro pins s σ H Q I h;refine BC PySem.F.slot_dict_getitem.lookup hs (thn (ho pins s σ H _ I h) λu U ⟨x,H1,Y,Z,q1⟩=>thn (hi pins U σ H1 _ Y q1) λiv s2 ⟨y,H2,D,ry,a,v,ex,g,q2⟩=>?_);subst ex;obtain rfl:u=Value.ref a:=Z;exact⟨rD D g,wC J D g ry λw' s3 I3 z=>⟨v,H2,I3,z,q2⟩⟩
def yg(z:X.A.units+1<cLine)(hi:PE X i ty)(ho:PE X o td):PC X .In i o (Jw ty td):=by
 intro pins s σ H Q I h;refine thn (hi pins s σ H _ I h) λiv D ⟨y,H1,J,U,Y⟩=>thn (ho pins D σ H1 _ J Y) λu s2 ⟨x,H2,Z,rx,a,ov,ex,g,q2⟩=>?_
 subst ex;obtain rfl:u=Value.ref a:=rx;exact Jv z Z g U λs3 I3=>⟨.bl ov.isSome,H2,I3,rfl,q2⟩
def o5(z:X.A.units+1<cLine)(hi:PE X i ty)(ho:PE X o td):PC X .NotIn i o (BD ty td):=by
 intro pins s σ H Q I h;refine thn (hi pins s σ H _ I h) λiv D ⟨y,H1,J,U,Y⟩=>thn (ho pins D σ H1 _ J Y) λu s2 ⟨x,H2,Z,rx,a,ov,ex,g,q2⟩=>?_
 subst ex;obtain rfl:u=Value.ref a:=rx;exact BB z Z g U λs3 I3=>⟨.bl _,H2,I3,rfl,q2⟩
def BE(z:X.A.units+1<cLine)(ho:PE X o td)(hi:PE X i ty)(hv:PE X value tv)(hs:swapsWith value (some (.Subscript o i pos')) pos.line X.env=pure false) :
  PS X (.Assign [.Subscript o i pos'] value pos) (G_ td ty tv):=by
 intro pins s σ H D I h;refine wpAny_Assign_Subscript (thn (hv pins s σ H _ I h) λr J ⟨v,H1,U,Y,Z⟩=>thn (ho pins J σ H1 _ U Z) λu s2 ⟨x,H2,I2,rx,q2⟩=>thn (hi pins s2 σ H2 _ I2 q2) λiv s3 ⟨y,H3,I3,ry,a,H4,ex,g,q3⟩=>?_) hs;subst ex;obtain rfl:u=Value.ref a:=rx;exact wD z I3 g ry Y λs4 I4=>⟨σ,H4,I4,q3⟩
end
def rE (h:Heap) (z:sysModules<h.objs.size):bK P w H (h.push { cls:=.type "dict",data:=.dict #[] }) h.objs.size (.dK []):=
 ⟨Ke _,Lh.mpr (LG (uw z)),[],.nil,Heap.DictOf.new h⟩
def yh (h:Heap) (z:sysModules<h.objs.size):bK P w H (h.push { cls:=.type "dict",data:=.dict #[] }) h.objs.size (.dT []):=
 ⟨Ke _,Lh.mpr (LG (uw z)),[],.nil,_,#[],0,pe _ rfl,⟨rfl,rfl,rfl⟩,rfl,rfl,Ly⟩
noncomputable def D6:TE:=λ_ H Q=>∀p,H p=none->Q (.ref p) (upd H p (.dK []))
noncomputable def D7:TE:=λ_ H Q=>∀p,H p=none->Q (.ref p) (upd H p (.dT []))
section
variable{X:Cx}{pos:Pos}
def yi:PE X (.Dict [] [] pos) D6:=λpins s σ H Q I h =>
 wpAny_Dict_empty ⟨.ref s.heap.objs.size,_,I.laid (a:=s.heap.objs.size) (o:=.dK []) (t':=s.toks) (λ_ _ q=>gx _ q) (lC _) (rE s.heap I.big),rfl,h _ (I.hok.fresh (lC _))⟩
def yj:PE X (.Dict [] [] pos) D7:=λpins s σ H Q I h =>
 wpAny_Dict_empty ⟨.ref s.heap.objs.size,_,I.laid (a:=s.heap.objs.size) (o:=.dT []) (t':=s.toks) (λ_ _ q=>gx _ q) (lC _) (yh s.heap I.big),rfl,h _ (I.hok.fresh (lC _))⟩
end
def p9:List (TE×TE)->St->Hp->(List (V×V)->Hp->Prop)->Prop
 | [],_,H,Q=>Q [] H
 | (tk,tv)::r,σ,H,Q=>tk σ H λx H1=>tv σ H1 λy H2=>p9 r σ H2 λps z=>Q ((x,y)::ps) z
abbrev VV:List (V×V)->List (Value×Value)->Prop:=Paired λp q=>aF p.1 q.1/\aF p.2 q.2
def PPs(X:Cx)(pos:Pos)(keys:List (Option Expr))(z:List Expr)(D:List (TE×TE)):Prop:=
 ∀pins s (σ:St) H Q,Inv X pins σ H s->p9 D σ H Q ->
  wpAny (model X.prog X.w) X.A (evalPairs (pairTrees keys z X.env pos)) (λvs s'=>∃ps H',Inv X pins σ H' s'/\VV ps vs/\Q ps H') X.xe s
def BF :PPs X pos [] [] []:=λpins s σ H Q I h=>pairTrees_nil_walk ⟨[],H,I,.nil,h⟩
def yk(J:PE X k tk)(hv:PE X v tv)(U:PPs X pos ks vs z) :
  PPs X pos (some k::ks) (v::vs) ((tk,tv)::z):=λpins s σ H Q I h =>
 pairTrees_cons_walk (thn (J pins s σ H _ I h) λu Y ⟨x,H1,Z,rx,q1⟩=>thn (hv pins Y σ H1 _ Z q1) λw2 s2 ⟨y,H2,I2,ry,q2⟩ =>
  thn (U pins s2 σ H2 _ I2 q2) λws s3 ⟨ps,H3,I3,D,q3⟩=>⟨(x,y)::ps,H3,I3,.cons ⟨rx,ry⟩ D,q3⟩)
noncomputable def iO(kvs z:List (Key×V)):List (Key×V):=z.foldl (λacc D=>gJ acc D.1 D.2) kvs
def KV.merge:∀{z}{D}{kvs}{vs},KV z D->KV kvs vs->KV (iO kvs z) (merged vs D):=by
 intro z D kvs vs r
 induction r generalizing kvs vs with
 |nil=>intro q;exact q
 | @cons p q ps U h t ih =>
  intro J;have e:KV (gJ kvs p.1 p.2) (stored vs q.1 q.2):=by
   have:=J.put p.1 h.2;rw[<- h.1];exact this
  exact ih e
theorem jt:∀z kvs,(iO kvs z).length<=kvs.length+z.length
 | [],kvs=>by show kvs.length<=kvs.length+0;omega
 |p::r,kvs=>by
  have h1:=jt r (gJ kvs p.1 p.2);have h2:=iN kvs p.1 p.2;show(iO (gJ kvs p.1 p.2) r).length<=_
  grind
theorem mV :∀{kvs}{D},VV (kvs.map λJ=>(kV J.1,J.2)) D->∃z,Carries (bF P w) D z/\KV kvs z
 | [],_,r=>by rw[map_nil]at r;cases r;exact⟨[],True.intro,.nil⟩
 |p::kvs,_,r=>by
  cases r with
  | @cons a b as bs h t =>
   obtain⟨z,c,q⟩:=mV (P:=P) (w:=w) t;obtain⟨Y,U⟩:=b;exact⟨(p.1,U)::z,⟨mS h.1,rfl,c⟩,.cons ⟨rfl,h.2⟩ q⟩
noncomputable def Ha(z:List (TE×TE)):TE:=λσ H Q=>∀p,H p=none->p9 z σ (upd H p (.dK [])) λps H2=>H2 p=some (.dK [])/\∃kvs,ps=kvs.map (λD=>(kV D.1,D.2))/\kvs.length<=15/\Q (.ref p) (upd H2 p (.dK (iO [] kvs)))
def BG(h:PPs X pos keys values U)(D:keys.all (·.isSome)=true)(hl:keys.length=values.length)(h0:keys≠[])
  (Y:keys.length<=15):PE X (.Dict keys values pos) (Ha U):=by
 intro pins s σ H Q I q;have hn:=I.hok.fresh (lC s.heap.objs.size);have I1:=I.laid (t':=s.toks) (λ_ _ q=>gx _ q) (lC _) (rE s.heap I.big);refine wpAny_Dict_walk (knd:=bF X.prog X.w) D hl h0 Y (thn (h pins _ σ _ _ I1 (q _ hn)) λws s2 ⟨ps,H2,I2,Z,e,kvs,ep,lk,q2⟩=>?_);refine aD λZq kq=>?_
 subst ep;obtain⟨rs,c,rk⟩:=mV Z;obtain⟨z,hd,a7,r0,dd⟩:=C6 I2.hok e;cases r0;refine kq ?_;refine⟨rs,c,dd,λh' J hs=>⟨.ref s.heap.objs.size,_,?_,rfl,q2⟩⟩;have hz:(iO [] kvs).length<=sizeLine:=by
  have h1:=jt kvs [];rw[length_nil]at h1;rw[Kr];omega
 have he:∃q,h'.get? s.heap.objs.size=some q:=let ⟨q,_,_,hq,_⟩:=J;⟨q,hq⟩
 exact p8 I2 (by rw[e];exact True.intro) hs he (yf hz hd (rk.merge .nil) J)
structure M2(X:Cx)(o:Expr)(m:Str)(apos:Pos)(e f:Expr)(cpos:Pos):Prop where
 base:attributeBase o m X.env (eval o X.env)=eval o X.env
 few:((backTo cpos (starEach [e,f] X.env)).all (λx=>!x.1)&&(backToKw cpos (keywordEach [] X.env)).all (λx=>x.1.isSome)
 &&decide (([e,f]:List Expr).length+([]:List Keyword).length+(if ([]:List Keyword).isEmpty then 0 else 1)<30))=true
 line:(apos.endLine==cpos.line)=true
 trees:backTo cpos (starEach [e,f] X.env)=[(false,eval e X.env),(false,eval f X.env)]
def IsD(H:Hp)(a:Addr):Prop:=(∃kvs,Rd H a (.dK kvs))\/∃kvs,Rd H a (.dT kvs)
def tN(I:Inv X pins σ H s)(d:IsD H a) :
  s.TypeIs (.ref a) "dict"/\(∀b,Value.ref a=.ref b->∃z,s.heap.get? b=some z/\z.dict=none)/\(a==sysModules)=false:=by
 rcases d with⟨kvs,e⟩|⟨kvs,e⟩
 .obtain⟨_,hd,vs,_,dd⟩:=jr I.hok e;refine⟨dd.typeIs,λb q=>?_,hd⟩;cases q;obtain⟨z,_,_,h1,h2,_⟩:=dd;exact⟨z,h1,h2.2.1⟩
 .obtain⟨_,hd,xs,_,dd⟩:=lI I.hok e;refine⟨dd.typeIs,λb q=>?_,hd⟩;cases q;obtain⟨z,_,_,h1,h2,_⟩:=dd;exact⟨z,h1,h2.2.1⟩
section
variable{X:Cx}{pins:List (Addr×Obj)}{σ:St}{H:Hp}{s:Shared}{a:Addr}{y d:V}{u r:Value}{o:Option V}{A:Around}{E:Value->Shared->Prop}
def D8(Z:A.units+1<cLine)(I:Inv X pins σ H s)(g:mT H a y o)(U:aF y u)(rd:aF d r)(h:∀Y s',Inv X pins σ H s'->aF (o.getD d) Y->Q Y s') :
  wpAny (model X.prog X.w) A (call (.builtin "dict.get") [.ref a,u,r]) Q E s:=by
 rcases g with⟨kvs,k,e,J,l⟩|⟨kvs,k,b,e,J,eb,l⟩
 .subst J;obtain⟨z,hd,vs,D,dd⟩:=jr I.hok e;refine call_meetsIn PySem.F.slot_dict_get dd.typeIs PySem.F.entry_dict_get (PySem.F.args_dict_get_3 _ _ _) (meets_dict_get_default _ a (mS U) hd r) ⟨_,dd.mapOf,h _ _ (I.tok _) ?_⟩;rw[l];exact(D.val k).getD rd
 .subst J;cases (show u=Value.ref b from U);obtain⟨z,hd,xs,D,dd⟩:=lI I.hok e;refine call_meetsIn PySem.F.slot_dict_get dd.typeIs PySem.F.entry_dict_get (PySem.F.args_dict_get_3 _ _ _) (meetsH_dict_get_default (tupleKind _) a b hd r) ⟨LH Z,k,xs,kX I.hok eb,dd,h _ _ (I.tok _) ?_⟩;rw[l];exact(D.val k).getD rd
end
noncomputable def D9(td ty tx:TE):TE:=λσ H Q=>td σ H λx H1=>∃a,x=.ref a/\IsD H1 a/\ty σ H1 λy H2=>tx σ H2 λz D=>∃o,mT D a y o/\Q (o.getD z) D
section
variable{X:Cx}{o e f:Expr}{apos cpos:Pos}{td ty tx:TE}
def yl (U:X.A.units+1<cLine) (ho:PE X o td) (Y:PE X e ty) (Z:PE X f tx) (m:M2 X o "get" apos e f cpos):PE X (.Call (.Attribute o "get" apos) [e,f] [] cpos) (D9 td ty tx):=by
 intro pins s σ H Q I h;refine wpAny_Call_method m.base m.few m.line PySem.F.plainAttrs_dict PySem.F.slot_dict_get PySem.F.type_dict_get (thn (ho pins s σ H _ I h) λu s1 ⟨x,H1,J,rx,a,ex,d,q1⟩=>?_);subst ex;obtain rfl:u=Value.ref a:=rx;obtain⟨t1,t2,_⟩:=tN J d;refine⟨t1,t2,?_⟩;rw[m.trees];refine LP rfl (Calls.evalArgs_plain (Mj (thn (Y pins s1 σ H1 _ J q1) λiv s2 ⟨y,H2,I2,ry,q2⟩ =>
  Mj (thn (Z pins s2 σ H2 _ I2 q2) λfv s3 ⟨z,H3,I3,rz,ov,g,q3⟩=>M8 ?_))))
 exact D8 U I3 g ry rz λw' s4 I4 D=>⟨_,H3,I4,D,q3⟩
end
section
variable{X:Cx}{pins:List (Addr×Obj)}{σ:St}{H:Hp}{s:Shared}{a:Addr}{kvs:List (Key×V)}{A:Around}{E:Value->Shared->Prop}
end
section
variable{X:Cx}{pins:List (Addr×Obj)}{σ:St}{H:Hp}{s:Shared}{a:Addr}{y:V}{u:Value}{A:Around}{E:Value->Shared->Prop}
end
end L2
namespace L2.Srt
open PySem PySem.W PyProof.Rows List Option
section
variable{O:KeyOrd}{key:Nat->O.α}{N:Nat}{cmp:Nat->Nat->(Bool->Shared->Prop)->Shared->Prop}{s:Shared}
noncomputable def kk(key:Nat->O.α)(p:Array Nat)(i:Nat):O.α:=key (p.getD i 0)
def fP(key:Nat->O.α)(p:Array Nat)(k:Nat):Prop:=∀i j,i<=j->j<k->O.kle (kk key p i) (kk key p j)
def rF(key:Nat->O.α)(p:Array Nat)(k:Nat):Prop:=∀i j,i<=j->j<k->O.kle (kk key p j) (kk key p i)
def PB(N:Nat)(p:Array Nat):Prop:=p.Perm (range N).toArray
theorem PB.size(h:PB N p):p.size=N:=by have:=h.size_eq;simpa using this
theorem PB.lt(h:PB N p)(hi:i<N):p.getD i 0<N:=by
 have hs:i<p.size:=by rw[h.size];exact hi
 have z:p[i]∈(range N):=by
  have e:=(Ma.mp h).mem_iff (a:=p[i])
  simp_all
 simp_all
theorem PB.rev(h:PB N p)(i j):PB N (kas_rev p i j):=(mirror_perm _ _ _ _).trans h
theorem PB.bub(h:PB N p)(i j):PB N (bubble p i j):=(bubble_perm _ _ _).trans h
def iP(h:p[i]?=q[j]?):kk key p i=kk key q j:=by
 unfold kk;rw[Lo,Lo,h]
def wE(hs:src<p.size)(hd:d<=src)(k) :
  kk key (bubble p src d) k=if k=src-d then kk key p src else if src-d<k/\k<=src then kk key p (k-1)else kk key p k:=by
 have e:=getElem?_bubble hs d hd k;by_cases h1:k=src-d
 .rw[if_pos h1]at e ⊢;exact iP e
 .rw[if_neg h1]at e ⊢;by_cases h2:src-d<k/\k<=src
  .rw[if_pos h2]at e ⊢;exact iP e
  .rw[if_neg h2]at e ⊢;exact iP e
def tO(z:j<=p.size)(k) :
  kk key (kas_rev p i j) k=if i<=k/\k<j then kk key p (i+j-1-k)else kk key p k:=by
 have e:=getElem?_mirror_all (i:=i) z k;by_cases h1:i<=k/\k<j
 .rw[if_pos h1]at e ⊢;exact iP e
 .rw[if_neg h1]at e ⊢;exact iP e
def dg(z:j<=p.size)(D:∀k,i<=k->k<j->kk key p k=kk key p (j-1))(k) :
  kk key (kas_rev p i j) k=kk key p k:=by
 rw[tO z]
 grind
variable(hc:∀a b C,a<N->b<N->C (O.blt (key a) (key b)) s->cmp a b C s)
include hc
def rG{Q:α->Shared->Prop}(z:PB N p)(hi:i<N)(D:j<N)
  (h:(k (O.blt (kk key p i) (kk key p j))).kasWp cmp Q s):(KasT.ask (p.getD i 0) (p.getD j 0) k).kasWp cmp Q s:=
 hc _ _ _ (z.lt hi) (z.lt D) h
theorem ym{p:Array Nat}{z:Nat}{Q:Nat->Shared->Prop}(hp:PB N p)(hn:z<=N):∀(f n:Nat),n+f=z->1<=n->fP key p n ->
  (∀m,n<=m->m<=z->fP key p m->(m=z\/O.klt (kk key p m) (kk key p (m-1)))->Q m s)->(kas_asc p f n).kasWp cmp Q s
 |0,n,e,h1,hs,h=>h n (lC _) (L0 e) hs (.inl e)
 |f+1,n,e,h1,hs,h=>by
  show(KasT.ask (p.getD n 0) (p.getD (n-1) 0) λc=>if c=true then .ret n else kas_asc p f (n+1)).kasWp cmp Q s;have nN:n<N:=by omega
  refine rG hc hp nN (Kn (Mo n 1) nN) ?_;cases D:O.blt (kk key p n) (kk key p (n-1))with
  |true =>
   rw[if_pos rfl];exact h n (lC _) (r4 (MG n (f+1)) (L0 e)) hs (.inr D)
  |false =>
   rw[if_neg (by simp)];refine ym hp hn f (n+1) ((KI n 1 f).trans e) (LI 1 n) (λi j J hj=>?_) λm a b c d=>h m (LU a) b c d
   by_cases U:j<n
   .exact hs i j J U
   .have Z:j=n:=KR (K7 hj) (KS.mp U);subst Z;by_cases Y:i=j
    .subst Y;exact K8 _
    .exact L6 (hs i (j-1) (L7 (Lp J Y)) (Nv h1 Nat.one_pos)) D
def va{p:Array Nat}{n z:Nat}{Q:Nat×Array Nat->Shared->Prop}(J:PB N p)(Z:z<=N)(h1:1<=n)(D:n<=z)(hs:rF key p n)
  (h:∀m U,PB N U->1<=m->m<=z->fP key U m->Q (m,U) s):(kas_tail3 n z p).kasWp cmp Q s:=by
 unfold kas_tail3;rw[Mg];have hz:n<=p.size:=by rw[J.size];exact r4 D Z
 refine ym hc (J.rev 0 n) Z (z-n) n (MR D) h1 (λi j Y hj=>?_) λm a b c _=>h m _ (J.rev 0 n) (r4 h1 a) b c
 rw[tO hz,tO hz,if_pos ⟨Ke _,Kn Y hj⟩,if_pos ⟨Ke _,hj⟩];exact hs _ _ (by omega) (by omega)
theorem p_{D:Nat}{Q:Array Nat×Nat×Nat->Shared->Prop}(hn:D<=N):∀(f:Nat) (p:Array Nat) (n q:Nat),n+f=D->PB N p->rF key p n->q+1<=n ->
  (∀i,n-(q+1)<=i->i<n->kk key p i=kk key p (n-1)) ->
  (∀z m q',n<=m->m<=D->PB N z->rF key z m->q'+1<=m->(∀i,m-(q'+1)<=i->i<m->kk key z i=kk key z (m-1))->Q (z,m,q') s) ->
  (kas_desc f p n q).kasWp cmp Q s
 |0,p,n,q,e,hp,hs,hq,he,h=>h p n q (lC _) (by omega) hp hs hq he
 |f+1,p,n,q,e,hp,hs,hq,he,h=>by
  show(KasT.ask (p.getD n 0) (p.getD (n-1) 0) λc =>
   if c=true then(if q > 0 then kas_desc f (kas_rev p (n-(q+1)) n) (n+1) 0 else kas_desc f p (n+1) 0)
   else .ask (p.getD (n-1) 0) (p.getD n 0) λd=>if d=true then .ret (p,n,q)else kas_desc f p (n+1) (q+1)).kasWp cmp Q s
  have nN:n<N:=by omega
  have hz:n<=p.size:=by rw[hp.size];exact La nN
  refine rG hc hp nN (Kn (Mo n 1) nN) ?_;cases J:O.blt (kk key p n) (kk key p (n-1))with
  |true =>
   rw[if_pos rfl];have U:∀z:Array Nat,(∀k,kk key z k=kk key p k)->rF key z (n+1):=by
    intro z hk i j Y hj;rw[hk,hk];by_cases Z:j<n
    .exact hs i j Y Z
    .have a4:j=n:=KR (K7 hj) (KS.mp Z);subst a4;by_cases ao:i=j
     .subst ao;exact K8 _
     .exact L6 (LV J) (hs i (j-1) (L7 (Lp Y ao)) (Nv (wh (Nat.succ_pos q) hq) Nat.one_pos))
   by_cases a2:q > 0
   .rw[if_pos a2];exact p_ hn f _ (n+1) 0 ((KI n 1 f).trans e) (hp.rev _ _) (U _ (dg hz he)) (LI 1 n) (λi a b=>by congr 1;omega)
     λz m q' a=>h z m q' (LU a)
   .rw[if_neg a2];exact p_ hn f p (n+1) 0 ((KI n 1 f).trans e) hp (U _ λ_=>rfl) (LI 1 n) (λi a b=>by congr 1;omega) λz m q' a=>h z m q' (LU a)
  |false =>
   rw[if_neg (by simp)];refine rG hc hp (Kn (Mo n 1) nN) nN ?_;cases aO:O.blt (kk key p (n-1)) (kk key p n)with
   |true =>
    rw[if_pos rfl];exact h p n q (lC _) (by omega) hp hs hq he
   |false =>
    rw[if_neg (by simp)];have a3:kk key p n=kk key p (n-1):=KeyOrd.kle_antisymm aO J;refine p_ hn f p (n+1) (q+1) ((KI n 1 f).trans e) hp (λi j Y hj=>?_) (Nat.succ_le_succ hq) (λi a b=>?_) λz m q' a=>h z m q' (LU a)
    .by_cases Z:j<n
     .exact hs i j Y Z
     .have a4:j=n:=KR (K7 hj) (KS.mp Z);subst a4;by_cases ao:i=j
      .subst ao;exact K8 _
      .rw[a3];exact hs i (j-1) (L7 (Lp Y ao)) (Nv (wh (Nat.succ_pos q) hq) Nat.one_pos)
    .rw[K0];by_cases a9:i=n
     .subst a9;rfl
     .rw[a3];exact he i (by omega) (by omega)
def mW{n z:Nat}{Q:Nat×Array Nat->Shared->Prop}(hp:PB N p)(hn:z<=N)(a2:n+1<=z)(hs:rF key p (n+1))
  (h:∀m U,PB N U->1<=m->m<=z->fP key U m->Q (m,U) s):(kas_descPart n z p).kasWp cmp Q s:=by
 unfold kas_descPart;rw[Mg];refine p_ hc hn (z-_) p _ 0 (by omega) hp hs (by omega) (λi a b=>by congr 1;omega) λU m q' a4 Y J Z hq he=>?_
 dsimp only;have hz:m<=U.size:=by rw[J.size];omega
 by_cases D:q' > 0
 .rw[if_pos D];refine va hc (J.rev _ _) hn (by omega) Y (λi j aO hj=>?_) h;rw[dg hz he,dg hz he];exact Z i j aO hj
 .rw[if_neg D];exact va hc J hn (by omega) Y Z h
def BH{p:Array Nat}{z:Nat}{Q:Nat×Array Nat->Shared->Prop}(hp:PB N p)(hn:z<=N)(h1:1<=z)
  (h:∀m p',PB N p'->1<=m->m<=z->fP key p' m->Q (m,p') s):(kas_count z p).kasWp cmp Q s:=by
 unfold kas_count;rw[Mg];refine ym hc hp hn (z-1) 1 (by omega) (lC _) (λi j J hj=>by have:i=j:=KR J (r4 (K7 hj) (Ke i));subst this;exact K8 _) λn U a0 Y b0=>?_
 by_cases Z:n=z
 .rw[if_pos (by simpa using Z)];exact h n p hp U a0 Y
 .rw[if_neg (by simpa using Z)];have nr:n<z:=Lp a0 Z;have nN:=wh nr hn;have a6:O.klt (kk key p n) (kk key p (n-1)):=b0.resolve_left Z;by_cases a3:n > 1
  .rw[if_pos a3];refine rG hc hp (Kn (Ke n) nN) (Kn (Mo n 1) nN) ?_;cases a4:O.blt (kk key p 0) (kk key p (n-1))with
   |true =>
    rw[if_pos rfl];exact h n p hp U a0 Y
   |false =>
    rw[if_neg (by simp)];have a7:n<=p.size:=by rw[hp.size];exact La nN
    have D:∀k,0<=k->k<n->kk key p k=kk key p (n-1):=by
     intro k _ hk;have a1:=Y 0 k (Ke k) hk;have a2:=Y k (n-1) (L7 hk) (Nv U Nat.one_pos);exact KeyOrd.kle_antisymm a2 (L6 a4 a1)
    refine mW hc (hp.rev _ _) hn nr (λi j J hj=>?_) h;rw[dg a7 D,dg a7 D];by_cases a5:j<n
    .rw[D i (Ke _) (Kn J a5),D j (Ke _) a5];exact K8 _
    .have b3:j=n:=KR (K7 hj) (KS.mp a5);subst b3;by_cases ao:i=j
     .subst ao;exact K8 _
     .rw[D i (Ke _) (Lp J ao)];exact LV a6
  .rw[if_neg a3];have a8:n=1:=KR (KS.mp a3) U;subst a8;refine mW hc hp hn nr (λi j J hj=>?_) h;by_cases ao:i=j
   .subst ao;exact K8 _
   .have b4:i=0:=by omega
    have b5:j=1:=by omega
    subst b4;subst b5
    exact LV a6
theorem qa{p:Array Nat}{k:Nat}{Q:Nat->Shared->Prop}(hp:PB N p)(hk:k<N)(hs:fP key p k):∀(f l r:Nat),r<=l+f->l<=r->r<=k ->
  (∀i,i<l->O.kle (kk key p i) (kk key p k))->(∀i,r<=i->i<k->O.klt (kk key p k) (kk key p i)) ->
  (∀l,l<=k->(∀i,i<l->O.kle (kk key p i) (kk key p k))->(∀i,l<=i->i<k->O.klt (kk key p k) (kk key p i))->Q l s)->(kas_place p k f l r).kasWp cmp Q s
 |0,l,r,hf,Y,z,J,U,h=>by
  have:l=r:=KR Y hf;subst this;exact h l z J U
 |f+1,l,r,hf,Y,z,J,U,h=>by
  show(if l>=r then KasT.ret l else .ask (p.getD k 0) (p.getD ((l+r) / 2) 0) λc=>if c=true then kas_place p k f l ((l+r) / 2)else kas_place p k f ((l+r) / 2+1) r).kasWp cmp Q s;by_cases Z:l>=r
  .rw[if_pos Z];have:l=r:=KR Y Z;subst this;exact h l z J U
  .rw[if_neg Z];obtain⟨m,em,m1,m2⟩:∃m,(l+r) / 2=m/\l<=m/\m<r:=⟨_,rfl,by omega,by omega⟩;rw[em];have mk:=wh m2 z;refine rG hc hp hk (L1 mk hk) ?_;cases D:O.blt (kk key p k) (kk key p m)with
   |true =>
    rw[if_pos rfl];exact qa hp hk hs f l m (by omega) m1 (La mk) J (λi a b=>KeyOrd.klt_of_klt_of_kle D (hs _ _ a b)) h
   |false =>
    rw[if_neg (by simp)];exact qa hp hk hs f (m+1) r (by omega) m2 z (λi a=>L6 (hs i m (K7 a) mk) (show O.kle _ _ from D)) U h
theorem C7{Q:Array Nat->Shared->Prop}:∀(f:Nat) (p:Array Nat) (k:Nat),k+f=N->PB N p->fP key p k->(∀p',PB N p'->fP key p' N->Q p' s)->(kas_bin f p k).kasWp cmp Q s
 |0,p,k,e,Y,hs,h=>by
  have:k=N:=by omega
  subst this;exact h p Y hs
 |f+1,p,k,e,Y,hs,h=>by
  show((kas_place p k k 0 k).bind λl=>kas_bin f (bubble p k (k-l)) (k+1)).kasWp cmp Q s;rw[Mg];refine qa hc Y (by omega) hs k 0 k (LI k 0) (Ke k) (lC k) (λi a=>absurd a (Nat.not_lt_zero i)) (λi a b=>absurd b (KS.mpr a)) λl hl aO a0=>?_
  refine C7 f _ (k+1) (by omega) (Y.bub _ _) (λi j D hj=>?_) h;have a1:k<p.size:=by rw[Y.size];omega
  have val:∀i,i<k+1->(i<l/\kk key (bubble p k (k-l)) i=kk key p i)\/(i=l/\kk key (bubble p k (k-l)) i=kk key p k)\/∃J,i=J+1/\l<=J/\J<k/\kk key (bubble p k (k-l)) i=kk key p J:=λi hi=>by
   rw[wE a1 (Mo k l),Nat.sub_sub_self hl];rcases Mt i l with q|q|q
   .exact .inl ⟨q,by rw[if_neg (uw q),if_neg λz=>Nh q z.1]⟩
   .exact .inr (.inl ⟨q,by rw[if_pos q]⟩)
   .obtain⟨c,rfl⟩:=Lg q;exact .inr (.inr ⟨l+c,rfl,MG _ _,Mw hi,by rw[if_neg (KY q),if_pos ⟨q,K7 hi⟩];rfl⟩)
  rcases val i (Kn D hj)with⟨a,e1⟩|⟨a,e1⟩|⟨J,a,b,c,e1⟩<;>rcases val j hj with⟨U,e2⟩|⟨U,e2⟩|⟨Z,U,b',c',e2⟩<;>rw[e1,e2]
  .exact hs i j D (wh U hl)
  .exact aO i a
  .exact hs i Z (r4 (La a) b') c'
  .exact absurd U (KS.mpr (a▸D))
  .exact K8 _
  .exact LV (a0 Z b' c')
  .exact absurd (Kn (a▸D:J+1<=j) U) (KS.mpr (Nat.le_succ_of_le b))
  .exact absurd (U▸a▸D:J+1<=l) (Nat.not_le.mpr (Nat.lt_succ_of_le b))
  .exact hs J Z (Nat.le_of_succ_le_succ (U▸a▸D:J+1<=Z+1)) c'
def D_(h1:1<=N)(h:∀p,PB N p->fP key p N->Q p s):(kas_sort N).kasWp cmp Q s:=by
 unfold kas_sort;rw[Mg];refine BH hc (Array.Perm.refl _) (lC _) h1 λm U z Y Z D=>?_
 by_cases J:m<N
 .rw[if_pos J,show max m 1=m by omega];exact C7 hc _ _ _ (by omega) z D h
 .rw[if_neg J];have:m=N:=by omega
  subst this;exact h U z D
end
end L2.Srt
namespace L2.Srt
open PySem PyProof.Rows List Option
theorem mX:∀a,HT.lexLt a a=false
 | []=>rfl
 |x::r=>by rw[HT.lexLt_cons,if_pos rfl];exact mX r
theorem kY:∀a b c,HT.lexLt a b=true->HT.lexLt b c=true->HT.lexLt a c=true
 | [],[],_,h,_=>by cases h
 | [],_::_,[],_,h=>by cases h
 | [],_::_,_::_,_,_=>rfl
 | _::_,[],_,h,_=>by cases h
 | _::_,_::_,[],_,h=>by cases h
 |x::a,y::b,z::c,h1,h2=>by
  rw[HT.lexLt_cons]at h1 h2 ⊢;by_cases D:x=y
  .rw[if_pos D]at h1;by_cases J:y=z
   .rw[if_pos J]at h2;rw[if_pos (D.trans J)];exact kY a b c h1 h2
   .simp_all
  .grind
theorem kZ:∀a b,HT.lexLt a b=false->HT.lexLt b a=false->a=b
 | [],[],_,_=>rfl
 | [],_::_,h,_=>by cases h
 | _::_,[],_,h=>by cases h
 |x::a,y::b,h1,h2=>by
  rw[HT.lexLt_cons]at h1 h2;by_cases e:x=y
  .rw[if_pos e]at h1;rw[if_pos e.symm]at h2;rw[e,kZ a b h1 h2]
  .grind
def BI(a b c)(h:HT.lexLt a c=true):HT.lexLt a b=true\/HT.lexLt b c=true:=by
 cases h1:HT.lexLt a b with
 |true=>exact .inl rfl
 |false =>
  cases h2:HT.lexLt b a<;>first|exact .inr (kY b a c h2 h)|(rw[kZ a b h1 h2]at h;exact .inr h)
noncomputable def fj:KeyOrd:=⟨List Int,HT.lexLt,mX,kY,BI,kZ⟩
noncomputable def dh:KeyOrd:=⟨Int,λa b=>decide (a<b),λa=>Kc (by omega),λa b c h1 h2=>J3 (by have:=Kh h1;have:=Kh h2;omega),
 λa b c h=>by
  have:=Kh h;by_cases q:a<b
  .exact .inl (J3 q)
  .exact .inr (J3 (by omega)),
 λa b h1 h2=>by have:=of_decide_eq_false h1;have:=of_decide_eq_false h2;omega⟩
section
variable(O:KeyOrd)
noncomputable def l7(x:O.α):List O.α->List O.α
 | []=>[x]
 |y::r=>if O.blt y x then y::l7 x r else x::y::r
noncomputable def iF:List O.α->List O.α
 | []=>[]
 |x::r=>l7 O x (iF r)
theorem k4(x):∀l,(l7 O x l).Perm (x::l)
 | []=>.refl _
 |y::r=>by
  show(if O.blt y x then y::l7 O x r else x::y::r).Perm _;split
  .exact(Perm.cons y (k4 x r)).trans (.swap x y r)
  .exact .refl _
theorem fk:∀l,(iF O l).Perm l
 | []=>.refl _
 |x::r=>(k4 O x _).trans (.cons x (fk r))
theorem mY(x):∀l,l.Pairwise O.kle->(l7 O x l).Pairwise O.kle
 | [],_=>pairwise_singleton _ _
 |y::r,h=>by
  show(if O.blt y x then y::l7 O x r else x::y::r).Pairwise O.kle;obtain⟨h1,h2⟩:=Mz.mp h;by_cases q:O.blt y x=true
  .rw[if_pos q];refine Mz.mpr ⟨λz hz=>?_,mY x r h2⟩;rcases tf.mp ((k4 O x r).mem_iff.mp hz)with e|e
   .rw[e];exact LV q
   .exact h1 z e
  .rw[if_neg q];have D:=Bool.eq_false_iff.mpr q;refine Mz.mpr ⟨λz hz=>?_,h⟩;rcases tf.mp hz with e|e
   .rw[e];exact D
   .exact L6 D (h1 z e)
theorem dY:∀l,(iF O l).Pairwise O.kle
 | []=>Pairwise.nil
 |x::r=>mY O x _ (dY r)
theorem j4:∀{a b:List O.α},a.Perm b->a.Pairwise O.kle->b.Pairwise O.kle->a=b
 | [],b,p,_,_=>p.nil_eq
 |x::a,[],p,_,_=>by have:=p.length_eq;simp at this
 |x::a,y::b,p,D,J=>by
  obtain⟨U,Y⟩:=Mz.mp D;obtain⟨Z,b2⟩:=Mz.mp J;have e:x=y:=by
   have hx:=p.mem_iff.mp (.head _);have hy:=p.mem_iff.mpr (.head _);rcases tf.mp hx with q|q
   .exact q
   .rcases tf.mp hy with z|z
    .exact z.symm
    .exact KeyOrd.kle_antisymm (U y z) (Z x q)
  subst e;rw[j4 (p.cons_inv) Y b2]
def j5(p:a.Perm l)(h:a.Pairwise O.kle):a=iF O l:=j4 O (p.trans (fk O l).symm) h (dY O l)
def oI(p:a.Perm b):iF O a=iF O b:=j5 O ((fk O a).trans p) (dY O a)
def yn{a:List O.α}(h:a.Pairwise O.kle):iF O a=a:=(j5 O (.refl a) h).symm
end
def jd{α:Type}(xs)(d:α):(range xs.length).map (λi=>xs.getD i d)=xs:=by
 apply Ni;intro i;rw[Ka];by_cases q:i<xs.length
 .simp_all
 .simp_all
def Ea(D:PB xs.length p)(U:fP (λi=>xs.getD i d) p xs.length):p.toList.map (λi=>xs.getD i d)=iF O xs:=by
 refine j5 O ?_ ?_
 .have h:=(Ma.mp D).map λi=>xs.getD i d
  have e:=jd xs d;rw[e]at h;exact h
 .rw[pairwise_iff_getElem];intro i j hi J z;rw[nA,Array.length_toList]at hi J;have hz:=D.size;have q:=U i j (La z) (by omega);simp only[getElem_map];have Y:p.getD i 0=p[i]:=by simp[hi]
  have Z:p.getD j 0=p[j]:=by simp[J]
  unfold kk at q;rw[Y,Z]at q;exact q
end L2.Srt
namespace L2.Srt
open PySem PySem.W PySem.Calls PyProof.Rows List Option
section
variable{prog:Program}{w:World}{A:Around}{E:Value->Shared->Prop}{s:Shared}
def KOk(g:SortKind):Prop:=g=tuples' true\/g=general'\/g=oneType'
def qb {KO:SortKind->Prop}{O:KeyOrd}{key:Nat->O.α}{a:Addr}{vs:List Value}{n:Nat}{R:PySem.Fin->Shared->Prop} (ho:s.heap.get? a=some (seqObj "list" vs.toArray n)) (aO:vs.length<64)
  (hk:2<=vs.length->∀s' Q,(∀b o,b≠a->s.heap.get? b=some o->s'.heap.get? b=some o)->(∀g,KO g->Q g s')->wpAny (model prog w) A (keyKind' vs.toArray) Q (λ_ _=>False) s')
  (hc:∀g,KO g->∀s' i j C,(∀b o,b≠a->s.heap.get? b=some o->s'.heap.get? b=some o)->i<vs.length->j<vs.length->C (O.blt (key i) (key j)) s' ->
   wpAny (model prog w) A (keyLt' g (vs.getD i Value.none) (vs.getD j Value.none)) C (λ_ _=>False) s')
  (h:∀p,PB vs.length p->fP key p vs.length->R (.done (.ret .none)) { s with heap:=sortedHeap s.heap a vs (p.toList.map λi=>vs.getD i Value.none).toArray }) :
  wpAny (model prog w) A (Builtin.«list.sort» ⟨[.ref a],[]⟩) R E s:=by
 rw[list_sort_plain];have ha:=pb ho;refine ez (listItems_at ho rfl ?_);refine ez (listUpdate_at ho rfl ?_ (by rw[oe,Kr];omega) (Ke _));obtain⟨e1,Y⟩:∃e1,(s.heap.update a (Obj.mapSeq λ_=>(#[]:Array Value))).get? a=some (seqObj "list" #[] e1):=⟨_,get?_update_seq ho λ_=>#[]⟩;refine ez (seqEpoch_at Y rfl ?_);refine ez (wpAny_newTuple ?_ (by show vs.length<=_;rw[Kr];omega));refine ez (wpAny_newList ?_ (Ke _));refine Kt ?_;have D:(((s.heap.update a (Obj.mapSeq λ_=>(#[]:Array Value))).push (seqObj "tuple" vs.toArray 0)).push (seqObj "list" #[] 0)).get? a=some (seqObj "list" #[] e1):=gx _ (gx _ Y);have kp:∀b o,b≠a->s.heap.get? b=some o->(((s.heap.update a (Obj.mapSeq λ_=>(#[]:Array Value))).push (seqObj "tuple" vs.toArray 0)).push (seqObj "list" #[] 0)).get? b=some o:=λb o hb e =>
  gx _ (gx _ ((KP _ _ (LG hb)).trans e))
 show wpAny (model prog w) A _ R E { s with heap:=((s.heap.update a (Obj.mapSeq λ_=>(#[]:Array Value))).push (seqObj "tuple" vs.toArray 0)).push (seqObj "list" #[] 0) };dsimp only;have b1:vs.toArray.size=vs.length:=by simp
 by_cases h2:vs.toArray.size<2
 .rw[if_pos h2,if_pos h2];refine ez (gf ?_);rw[StateT.run_pure];refine ez (gf ?_);dsimp only;refine ez (seqEpoch_at D rfl ?_);refine ez (listUpdate_at D rfl ?_ (Ke _) (by rw[Mp];show(pairsOf vs).size<=_;rw[pairsOf_size,Kr];omega));simp only[LW,J6,KZ];have e:((arrOf (SortSt.mk' general' (vs.toArray.zip vs.toArray) #[] 7 none)).map (·.2))=((range vs.length).toArray.toList.map λi=>vs.getD i Value.none).toArray:=by
   have e2:(arrOf (SortSt.mk' general' (vs.toArray.zip vs.toArray) #[] 7 none))=vs.toArray.zip vs.toArray:=rfl;rw[e2];apply Array.toList_inj.mp;rw[jd];simp[map_snd_zip]
  refine gf ?_;have q:=h (range vs.length).toArray (Array.Perm.refl _) (λi j b3 hj=>by
   have:i=j:=by omega
   subst this;exact K8 _)
  rw[<- e]at q;exact q
 .rw[if_neg h2,if_neg h2];have Z:2<=vs.length:=by omega
  refine ez (Kq (hk Z _ (λg s0=>KO g/\s0={ s with heap:=((s.heap.update a (Obj.mapSeq λ_=>(#[]:Array Value))).push (seqObj "tuple" vs.toArray 0)).push (seqObj "list" #[] 0) }) kp λg z=>⟨z,rfl⟩) (λg s0 z=>?_) λ_ _ x=>x.elim);obtain⟨z,rfl⟩:=z;refine ez (Kq (kat_run (Q:=λJ s'=>∃p,p.size=vs.length/\arrOf J=p.map (kas_item (vs.toArray.zip vs.toArray))/\failedOf J=none/\PB vs.length p/\fP key p vs.length/\s'={ s with heap:=((s.heap.update a (Obj.mapSeq λ_=>(#[]:Array Value))).push (seqObj "tuple" vs.toArray 0)).push (seqObj "list" #[] 0) })
   (G:=λp s'=>PB vs.length p/\fP key p vs.length/\s'={ s with heap:=((s.heap.update a (Obj.mapSeq λ_=>(#[]:Array Value))).push (seqObj "tuple" vs.toArray 0)).push (seqObj "list" #[] 0) })
   rfl Z aO (λp' J s' a1 a2 a3 a4=>⟨p',a1,a2,a3,a4⟩)
   (D_ (key:=key) (λi j C hi hj q=>hc g z _ i j C kp hi hj q) (by omega) λp hp hr=>⟨hp,hr,rfl⟩)) ?_ λ_ _ e=>e)
  rintro ⟨⟨⟩,J⟩ s' ⟨p,hp,a6,hf,a7,a8,rfl⟩;dsimp only;have U:=kat_snds rfl a6;refine ez (seqEpoch_at D rfl ?_);refine ez (listUpdate_at D rfl ?_ (Ke _) (by rw[U];refine r4 (L0 ?_) (show vs.length<=_ by rw[Kr];omega);simp[hp]));rw[hf,U];simp only[LW,J6,KZ];exact gf (h p a7 a8)
theorem lJ :∀{vs z}{ns ms} i,IntsAre vs ns->IntsAre z ms->fin=decide (ns.length<ms.length)->C (HT.lexLt ns ms) s->KatLex prog w A true fin C (vs.zip z) i s
 | _,_,_,_,i,.nil,.nil,hf,h=>by
  refine kat_nil ?_;rw[hf];exact h
 | _,_,_,_,i,.nil,.cons c u hw,hf,h=>by
  refine kat_nil ?_;rw[hf,J3 (by simp)];exact h
 | _,_,_,_,i,.cons a t hv,.nil,hf,h=>by
  refine kat_nil ?_;rw[hf,Kc (by simp)];exact h
 | _,_,_,_,i,.cons (ns:=ns) a t hv,.cons (ns:=ms) c u hw,hf,h=>by
  rw[HT.lexLt_cons]at h;refine kat_cons (wpAny_eqBool_int ?_);by_cases e:a=c
  .rw[if_pos e]at h;have q:(a==c)=true:=by rw[e];exact LB c
   rw[q];refine kat_yes (lJ _ hv hw ?_ h);rw[hf];simp
  .rw[if_neg e]at h;have q:=Lh.mpr e;rw[q];refine kat_no ?_;cases i with
   |zero=>exact oneLt_int h
   |succ i=>exact kat_one _ _ (lt_int h)
def BJ(hk:KOk g){a b:Addr}{its z:Array Value}{ns ms:List Int}{C:Bool->Shared->Prop}(Z:IsTup s.heap a its)(hb:IsTup s.heap b z)(hi:IntsAre its.toList ns)(Y:IntsAre z.toList ms)
  (hu:A.units<cLine) (h:C (HT.lexLt ns ms) s):wpAny (model prog w) A (keyLt' g (.ref a) (.ref b)) C E s:=by
 rcases hk with rfl|rfl|rfl
 .obtain⟨o,ho,_,n,hd⟩:=id Z;obtain⟨o2,J,_,n2,D⟩:=id hb;refine kat_lt ho hd J D (lJ 0 hi Y ?_ h);have z1:its.size=ns.length:=by rw[<- hi.length];simp
  have z2:z.size=ms.length:=by rw[<- Y.length];simp
  rw[z1,z2]
 .show wpAny _ _ (oneLt' false _ _) _ _ _;exact kat_one _ _ (HT.lt_tupInts Z hb hi Y hu h)
 .rw[keyLt'_oneType,oneLt'_eq];refine ez (wpAny_cRoomFor hu ?_);refine aD λZq kq=>?_
  obtain⟨⟨cls,dd,data,sl⟩,ho,hc,n,hd⟩:=id Z;obtain⟨⟨a3,aO,data2,a0⟩,J,U,n2,D⟩:=id hb;simp only at hc hd U D;subst hc hd U D;refine kq ?_;refine ez (wpAny_callSpecialIfBound?_slot ⟨_,ho,rfl⟩ PySem.F.slot_tuple_lt (Na PySem.F.slot_tuple_lt ⟨_,ho,rfl⟩ PySem.F.entry_tuple_lt (PySem.F.args_tuple_lt_2 _ _) (HT.tuple_lt_ints a b its z n n2 dd aO sl a0 ns ms hi Y) ⟨ho,J,?_⟩));exact K6 h
theorem lK:∀(vs:List Value) {Q},(∀v∈vs,∃a its ns,v=.ref a/\IsTup s.heap a its/\IntsAre its.toList ns) ->
  (∀fs,fs.length=vs.length->(∀f∈fs,∀v,f=some v->∃n t,v=Value.int n t)->Q fs s)->wpAny (model prog w) A (vs.mapM firstOfTuple') Q E s
 | [],Q,_,h=>by rw[mapM_nil];exact gf (h [] rfl (by simp))
 |v::vs,Q,hv,h=>by
  obtain⟨a,its,ns,rfl,⟨o,ho,hc,n,hd⟩,hi⟩:=hv v (.head _);rw[mapM_cons];refine ez ?_;refine ez (Looks.here (show Looks (model prog w) s.heap (typeOf (.ref a)) o.cls from(Looks.ld ho).andThen .now) ?_);rw[hc,if_neg (by first|decide|simp)];refine ez (listItems_at ho hd (gf ?_));refine ez (lK vs (Q:=λbs s'=>wpAny (model prog w) A (pure (its[0]?::bs)) Q E s') (λu J=>hv u (.tail _ J)) λfs U Y=>?_);refine gf (h _ (by simp[U]) λf Z u e=>?_);rcases tf.mp Z with z|z
  .rw[z]at e;have D:u∈its.toList:=by
    rw[<- Kw]at e;exact Lc e
   exact hi.all u D
  .exact Y f z u e
def wF{vs:List Value}{Q:SortKind->Shared->Prop}(h2:2<=vs.length)(hv:∀v∈vs,∃a its ns,v=.ref a/\IsTup s.heap a its/\IntsAre its.toList ns)(h:∀g,KOk g->Q g s) :
  wpAny (model prog w) A (keyKind' vs.toArray) Q E s:=by
 rw[kat_kind_eq,mapM_toArray,Nj];refine ez (ez (lK vs hv λfs Z hf=>gf ?_));by_cases z:(fs.toArray.all λx=>x.isSome)=true
 .rw[if_pos z];refine ez (Lx ?_);have ao:(fs.toArray.filterMap id)=(fs.filterMap id).toArray:=by simp
  rw[ao,oneTypeOnly'_eq,mapM_toArray,Nj];have J:∀v∈fs.filterMap id,∃n t,v=Value.int n t:=λv U=>by
   obtain⟨f,aO,e⟩:=mem_filterMap.mp U;exact hf f aO v e
  have a0:0<(fs.filterMap id).length:=by
   match fs,Z,z with
   | [],Z,_=>simp at Z;omega
   |f::r,_,z =>
    have:f.isSome=true:=by simp at z;exact z.1
    obtain⟨u,rfl⟩:=isSome_iff_exists.mp this;simp
  refine ez (ez (ez (kas_mapM (r:=Value.type "int") _ (λv U Q' hq=>?_) (gf ?_))))
  .obtain⟨n,t,rfl⟩:=J v U;exact gf hq
  .have h0:(map (λ_=>Value.type "int") (fs.filterMap id)).toArray[0]?=some (Value.type "int"):=by
    simp[a0]
   rw[h0];have D:((map (λ_=>Value.type "int") (fs.filterMap id)).toArray.all λx=>x==Value.type "int")=true:=by
    simp only[all_toArray,Nk,Li];intro _ _
    rfl
   simp only[D,if_true];exact gf (gf (h _ (.inl rfl)))
 .rw[if_neg z];by_cases Y:((fs.toArray[0]?).bind id).isSome=true
  .rw[if_pos Y];exact gf (h _ (.inr (.inl rfl)))
  .rw[if_neg Y];rw[oneTypeOnly'_eq,mapM_toArray,Nj];refine ez (ez (ez (kas_mapM (r:=Value.type "tuple") _ (λv U Q' hq=>?_) (gf ?_))))
   .obtain⟨a,its,ns,rfl,⟨o,ho,hc,n,hd⟩,hi⟩:=hv v U;have q:Looks (model prog w) s.heap (typeOf (.ref a)) o.cls:=(Looks.ld ho).andThen .now;rw[hc]at q;exact q.here hq
   .have h0:(map (λ_=>Value.type "tuple") vs).toArray[0]?=some (Value.type "tuple"):=by
     have:0<vs.length:=by omega
     simp[this]
    rw[h0];have D:((map (λ_=>Value.type "tuple") vs).toArray.all λx=>x==Value.type "tuple")=true:=by
     simp only[all_toArray,Nk,Li];intro _ _
     rfl
    simp only[D,if_true];exact gf (gf (h _ (.inr (.inr rfl))))
end
end L2.Srt
namespace L2.St
open PySem PyProof.Rows List Option
section
variable{P:Program}{w:World}{A:Around}{E:Value->Shared->Prop}{s:Shared}
def j6{items:Array Value}(hi:IntsAre items.toList ns):∀i (v:Value),items[i]?=some v->∃t,v=.int (ns.getD i 0) t:=
 λi v e=>IntsAre.int_at hi i v (by rw[Kw];exact e)
def k5{v:Value}{vs:Array Value}{it:Addr}{Q:Option Value->Shared->Prop}(z:A.handled=none){R:Value->Shared->Prop}
  (D:∀e s',(∀b o,s.heap.get? b=some o->s'.heap.get? b=some o)->(∃h',s'={ s with heap:=h' })->s'.TypeIs e "StopIteration"->R e s') {J:PySem.Fin->Shared->Prop} :
  wpAny (model P w) A (newExc (.type "StopIteration") [] >>= λe=>(raiseNew e:Sem PySem.Fin)) J R s:=by
 refine wpAny_bind ?_;simp only[newExc,newTuple];refine wpAny_bind (wpAny_newObj_type ?_ (by size_fits));refine wpAny_bind (m:=firstArgMember _ _) (wpAny_of_eq (a:=Value.none) (by first|rfl|(simp only[firstArgMember];rfl)) ?_);refine wpAny_newObj_type ?_ (by size_fits);simp only[raiseNew];refine wpAny_bind (wpAny_handled ?_);rw[z];refine wpAny_bind (wpAny_pure (wpAny_throw ?_));exact D _ _ (λb o e=>Heap.get?_push_of_some _ (Heap.get?_push_of_some _ e)) ⟨_,rfl⟩ ⟨_,Heap.get?_push_size _ rfl,rfl⟩
def ju(h:ItemsOf (λi v=>∃t,v=Value.int (order.getD i 0) t) acc order.length):IntsAre acc.toList order:=by
 obtain⟨hz,hv⟩:=h;have D:acc.toList.length=order.length:=by simpa using hz
 have z:∀j v,acc.toList[j]?=some v->∃t,v=Value.int _ t:=λj v e=>hv j v (by rw[<- Kw];exact e)
 clear hv hz;generalize acc.toList=vs at D z
 induction vs generalizing order with
 |nil =>
  have:=KJ.mp D.symm;rw[this];exact .nil
 |cons v r ih =>
  match order,D,z with
  | [],D,_=>simp at D
  |k::ks,D,z =>
   obtain⟨t,e⟩:=z 0 v rfl;have J:=e;rw[J];exact .cons k t (ih (by simpa using D) λj u q=>z (j+1) u (by simpa using q))
end
end L2.St
namespace L2.St
open PySem List Option
def oJ(xs:Array Nat):Prop:=∀i j,i<j->j<xs.size->xs.getD i 0<xs.getD j 0
def yo{xs:Array Nat}(h:i<xs.size)(d e):xs.getD i d=xs.getD i e:=by simp[Array.getD,h]
theorem mZ{xs:Array Nat}{j:Nat}(Y:oJ xs):∀(D lo hi:Nat),hi<=lo+D->lo<=hi->hi<=xs.size->(∀i,i<lo->xs.getD i 0<j)->(∀i,hi<=i->i<xs.size->j<=xs.getD i 0) ->
  (SetTable.below.go xs j D lo hi<=xs.size/\(∀i,i<SetTable.below.go xs j D lo hi->xs.getD i 0<j)/\∀i,SetTable.below.go xs j D lo hi<=i->i<xs.size->j<=xs.getD i 0)
 |0,lo,hi,hf,h1,h2,a,b=>by
  have e:SetTable.below.go xs j 0 lo hi=lo:=rfl;rw[e];have:lo=hi:=KR h1 hf;subst this;exact⟨h2,a,b⟩
 |D+1,lo,hi,hf,h1,h2,a,b=>by
  have e:SetTable.below.go xs j (D+1) lo hi=if lo<hi then(if xs.getD ((lo+hi) / 2) j<j then SetTable.below.go xs j D ((lo+hi) / 2+1) hi else SetTable.below.go xs j D lo ((lo+hi) / 2))else lo:=rfl
  rw[e];by_cases Z:lo<hi
  .rw[if_pos Z];obtain⟨m,em,m1,m2⟩:∃m,(lo+hi) / 2=m/\lo<=m/\m<hi:=⟨_,rfl,by omega,by omega⟩;rw[em];have hm:m<xs.size:=wh m2 h2;rw[yo hm j 0];by_cases U:xs.getD m 0<j
   .rw[if_pos U];refine mZ Y D _ hi (by omega) m2 h2 (λi J=>?_) b;rcases M3 (K7 J)with z|z
    .exact L1 (Y i m z hm) U
    .rw[z];exact U
   .rw[if_neg U];refine mZ Y D lo _ (by omega) m1 (La hm) a λi J hz=>?_
    rcases M3 J with z|z
    .exact r4 (KS.mp U) (La (Y m i z hz))
    .rw[<- z];exact KS.mp U
  .rw[if_neg Z];have:lo=hi:=KR h1 (KS.mp Z);subst this;exact⟨h2,a,b⟩
def jE{xs:Array Nat}(z:oJ xs)(j:Nat):SetTable.below xs j<=xs.size/\(∀i,i<SetTable.below xs j->xs.getD i 0<j)/\∀i,SetTable.below xs j<=i->i<xs.size->j<=xs.getD i 0:=
 mZ z xs.size 0 xs.size (LI _ _) (Ke _) (lC _) (λi h=>absurd h (Nat.not_lt_zero i)) λi h1 h2=>absurd h2 (KS.mpr h1)
def oK(xs)(p)(x:α)(z:p<=xs.size):(SetTable.insertAt xs p x).size=xs.size+1:=by grind [SetTable.insertAt]
def j7{α:Type}(xs:Array α)(p:Nat)(x:α)(z:p<=xs.size)(i:Nat):(SetTable.insertAt xs p x)[i]?=if i<p then xs[i]? else if i=p then some x else xs[i-1]?:=by
 unfold SetTable.insertAt;have hz:((xs.extract 0 p).push x).size=p+1:=by rw[Array.size_push,LJ,LK z,Nat.sub_zero]
 rcases Mt i p with h1|h1|h1
 .rw[if_pos h1,M6 (by rw[hz];exact Km h1)];rw[Array.getElem?_push,if_neg (by rw[LJ,LK z];exact uw h1),Array.getElem?_extract,if_pos (by rw[LK z];exact h1),LC]
 .subst h1;rw[if_neg (Ks _),if_pos rfl,M6 (by rw[hz];exact LD _)];rw[Array.getElem?_push,if_pos (by rw[LJ,LK z];rfl)]
 .obtain⟨k,rfl⟩:=Lg h1;rw[if_neg (Nh h1),if_neg (KY h1),Array.getElem?_append_right (by rw[hz];exact h1),hz,Array.getElem?_extract,KI,Nat.add_sub_cancel_left,Nl,KI,K0];by_cases D:k<xs.size-p
  .rw[if_pos D]
  .rw[if_neg D,LQ (Nat.sub_le_iff_le_add'.mp (KS.mp D))]
def dN{xs:Array Nat} :xs.getD i 0=(xs[i]?).getD 0:=Lo
def rH{xs:Array Nat}(U:oJ xs){j:Nat}(hn:xs[SetTable.below xs j]?≠some j):oJ (SetTable.insertAt xs (SetTable.below xs j) j):=by
 obtain⟨Y,ha,hb⟩:=jE U j;generalize SetTable.below xs j=p at *
 have Z:∀i,p<=i->i<xs.size->j<xs.getD i 0:=λi h1 h2=>by
  rcases M3 h1 with z|z
  .exact Kn (hb p (lC _) (L1 z h2)) (U p i z h2)
  .subst z;have e:xs[p]?=some (xs.getD p 0):=by rw[Mh h2];simp[Array.getD,h2]
   exact Lp (hb p h1 h2) λz=>hn (by rw[e,<- z])
 intro i k D hk;rw[oK _ _ _ Y]at hk;rw[dN,dN,j7 _ _ _ Y,j7 _ _ _ Y];rcases Mt k p with h1|h1|h1
 .rw[if_pos h1,if_pos (L1 D h1),<- dN,<- dN];exact U i k D (wh h1 Y)
 .subst h1;rw[if_neg (Ks k),if_pos rfl,if_pos D,<- dN];exact ha i D
 .obtain⟨c,rfl⟩:=Lg h1;have hc:=Mw hk;rw[if_neg (Nh h1),if_neg (KY h1),K0];rcases Mt i p with J|J|J
  .rw[if_pos J,<- dN,<- dN];exact U i (p+c) (wh J (MG p c)) hc
  .rw[if_neg (J▸Ks p),if_pos J,<- dN];exact Z (p+c) (MG p c) hc
  .obtain⟨b,rfl⟩:=Lg J;rw[if_neg (Nh J),if_neg (KY J),K0,<- dN,<- dN];exact U (p+b) (p+c) (Mw D) hc
def tP(n):oJ (Array.range n):=λi j h1 h2=>by
 rw[Array.size_range]at h2;simp[Array.getD,h2,L1 h1 h2];exact h1
def yq:oJ #[]:=λi j _ h=>by simp at h
structure Gd(L:Bool)(t:SetTable):Prop where
 led:t.led=L
 dum:t.dummies=#[]
 rise:oJ t.place
theorem Gd.fresh(L):Gd L (.fresh 0 0 L):=⟨rfl,rfl,yq⟩
theorem Gd.standIn(h:Gd L t)(n):Gd L (t.standIn n):=⟨h.led,rfl,tP n⟩
theorem Gd.orStandIn(h:Gd L t)(n):Gd L (t.orStandIn n):=by
 unfold SetTable.orStandIn;split
 .exact h
 .exact h.standIn n
def Gd.unplain(h:Gd L t):Gd L { t with plain:=false }:=⟨h.led,h.dum,h.rise⟩
def qc{t:SetTable}(hd:t.dummies=#[])(j):t.slot j≠.dummy:=by
 unfold SetTable.slot SetTable.has;rw[hd];dsimp only;split
 .simp
 .simp
def tQ{t:SetTable}(h:t.slot j=.empty):t.place[SetTable.below t.place j]?≠some j:=by
 intro e;unfold SetTable.slot at h
 simp_all
theorem rJ(hd:t.dummies=#[]) :∀z p,p.dummy=none->∀j d,SetTable.probe.go t D h z p=some (.empty j d)->d=none/\t.slot j=.empty
 |0,p,J,j,d,e=>by
  have:SetTable.probe.go t D h 0 p=none:=rfl;rw[this]at e;cases e
 |z+1,p,J,j,d,e=>by
  have step:SetTable.probe.go t D h (z+1) p=(match t.slot p.j with
   | .empty=>some (.empty p.j p.dummy)
   | .dummy=>SetTable.probe.go t D h z (t.advance { p with dummy:=some p.j })
   | .live i=>if D i==h then some (.candidate p.j i (t.advance p))else SetTable.probe.go t D h z (t.advance p)):=rfl
  rw[step]at e;have U:(t.advance p).dummy=none:=by unfold SetTable.advance;split<;>simp[J]
  cases hs:t.slot p.j with
  |empty =>
   rw[hs]at e;dsimp only at e;cases e;exact⟨J,hs⟩
  |dummy=>exact absurd hs (qc hd _)
  |live i =>
   rw[hs]at e;dsimp only at e;split at e
   .cases e
   .exact rJ hd z _ U j d e
def wG{t:SetTable}(hd:t.dummies=#[])(e:t.freeSlot h=some (j,b)):t.slot j=.empty:=by
 unfold SetTable.freeSlot at e;split at e
 .rename_i z d D;obtain⟨rfl,hs⟩:=rJ hd _ _ rfl z d D
  simp_all
 .cases e
theorem Gd.put(h:Gd L t)(hs:t.slot j=.empty):Gd L (t.put j).1:=by
 refine⟨h.led,?_,rH h.rise (tQ hs)⟩;show(if SetTable.has t.dummies j then _ else t.dummies)=#[];rw[if_neg (by unfold SetTable.has;rw[h.dum];simp)];exact h.dum
theorem Gd.layNew(g:Gd L t)(es)(h)(x):Gd L (layNew t es h x).2.1:=by
 unfold PySem.layNew;cases e:t.freeSlot h with
 |none=>exact g.standIn _
 |some q =>
  exact(g.put (wG g.dum e)).orStandIn _
def yr(f:Nat->Option Nat)(n):oJ ((((range n).filterMap λj=>(f j).map λi=>(j,i)).map λq:Nat×Nat=>q.1).toArray):=by
 have e:((range n).filterMap λj=>(f j).map λi=>(j,i)).map (λq:Nat×Nat=>q.1)=(range n).filter λj=>(f j).isSome:=by
  generalize range n=l
  induction l with
  |nil=>rfl
  |cons a l ih =>
   cases h:f a<;>simp[filterMap_cons,Mc,h,ih]
 rw[e];have U:((range n).filter λj=>(f j).isSome).Pairwise (· < ·):=Pairwise.filter _ pairwise_lt_range;intro i j D Y;have z:j<((range n).filter λj=>(f j).isSome).length:=by simpa using Y
 have J:i<((range n).filter λj=>(f j).isSome).length:=L1 D z;have:=pairwise_iff_getElem.mp U i j J z D;simpa[Array.getD,z,J]using this
theorem Gd.relaid(g:Gd L t)(e:t.relaid hs n=some (t',o)):Gd L t':=by
 unfold SetTable.relaid SetTable.laid at e;cases h:SetTable.layClean (SetTable.sizeAbove n-1) hs with
 |none=>rw[h]at e;cases e
 |some ow =>
  rw[h]at e;cases e;exact⟨g.led,rfl,yr (λj=>ow.getD j none) _⟩
theorem Gd.relayAll(g:Gd L t)(es)(n):Gd L (relayAll t es n).2.1:=by
 unfold PySem.relayAll;cases e:t.relaid (es.map _) n with
 |none=>exact g.standIn _
 |some q =>
  dsimp only;split
  .exact g.relaid e
  .exact g.standIn _
end L2.St
namespace L2.St
open PySem PyProof.Rows List Option
noncomputable def byT (w:World):Bool:=w.params.followText "set-order"
structure Arr(P:Program)(w:World)(ks:List Int)(es:Array (Int×Value))(t:SetTable):Prop where
 el:ElemsOf (intKind P w) es.toList
 pm:(es.toList.map λe=>numOf e.2).Perm ks
 nd:ks.Nodup
 bd:es.size<scanBound
 fi:t.fits es.size=true
 gd:Gd (!byT w) t
def ca(P:Program)(w:World)(h:Heap)(a:Addr)(ks:List Int):Prop:=
 ∃o es ep t,h.get? a=some o/\o.ExactSet/\o.data=.set es ep t/\ElemsOf (intKind P w) es.toList/\(es.toList.map λe=>numOf e.2).Perm ks/\ks.Nodup/\es.size<scanBound/\t.fits es.size=true/\Gd (!byT w) t
section
variable{P:Program}{w:World}{h h':Heap}{a:Addr}{ks ks':List Int}{o:Obj}{es:Array (Int×Value)}{ep:Nat}{t:SetTable}
theorem ca.arr(g:ca P w h a ks):∃o es ep t,(h.get? a=some o/\o.ExactSet/\o.data=.set es ep t)/\Arr P w ks es t:=by
 refine aD λZq D=>?_
 obtain⟨o,es,ep,t,ho,z,hd,J,U,Y,Z,c5,c6⟩:=g;refine D ?_;exact⟨o,es,ep,t,⟨ho,z,hd⟩,⟨J,U,Y,Z,c5,c6⟩⟩
theorem Arr.set(r:Arr P w ks es t)(ho:h.get? a=some o)(z:o.ExactSet)(hd:o.data=.set es ep t):ca P w h a ks:=
 ⟨o,es,ep,t,ho,z,hd,r.el,r.pm,r.nd,r.bd,r.fi,r.gd⟩
theorem Arr.len(r:Arr P w ks es t):es.size=ks.length:=by simpa using r.pm.length_eq
theorem Arr.bare(r:Arr P w ks es t)(b):Arr P w ks es (if b=true then t else { t with plain:=false }):=by
 cases b
 .exact⟨r.el,r.pm,r.nd,r.bd,SetTable.fits_plain_off r.fi,r.gd.unplain⟩
 .exact r
theorem Arr.lay(r:Arr P w ks es t)(tk)(D:k∉ks)(J:ks.length+1<scanBound):Arr P w (k::ks) (layNew t es (hashInt k) (.int k tk)).1 (layNew t es (hashInt k) (.int k tk)).2.1:=by
 have p:(layNew t es (hashInt k) (.int k tk)).1.toList.Perm (es.toList++[(hashInt k,.int k tk)]):=by simpa using layNew_perm t es _ _
 have z:=p.length_eq;have l:=r.len;constructor
 .exact ElemsOf.perm (r.el.push (Nb _ _ _ _) rfl) p
 .have q:((es.toList++[(hashInt k,Value.int k tk)]).map λe=>numOf e.2).Perm (k::ks):=by
   rw[Kd];exact L8.trans (r.pm.cons k)
  exact(p.map _).trans q
 .exact Ku.mpr ⟨D,r.nd⟩
 .simp at z;omega
 .exact layNew_fits _ _ _ _
 .exact r.gd.layNew _ _ _
def Arr.relay(r:Arr P w ks es t)(n):Arr P w ks (relayAll t es n).1 (relayAll t es n).2.1:=by
 have p:=relayAll_perm t es n;have z:=p.length_eq;have b:=r.bd;exact⟨r.el.perm p,(p.map _).trans r.pm,r.nd,by simp at z;omega,relayAll_fits t es n,r.gd.relayAll es n⟩
theorem ca.at(g:ca P w h a ks)(k:∀o,h.get? a=some o->h'.get? a=some o):ca P w h' a ks:=by
 obtain⟨o,es,ep,t,⟨ho,z,hd⟩,r⟩:=g.arr;exact r.set (k o ho) z hd
end
def fb(h:ElemsOf (intKind P w) es):∀e∈es,∃t,e.2=.int (numOf e.2) t:=λe z=>by
 obtain⟨⟨k,D,_⟩,_⟩:=h e z;obtain⟨t,q⟩:=M7 (show Value.isInt k e.2=true from D);exact⟨t,by rw[q];rfl⟩
def jF(h:ElemsOf (intKind P w) es)(D:e∈es)(k):(intKind P w).is k e.2=true ↔ numOf e.2=k:=by
 obtain⟨t,q⟩:=fb h e D;constructor
 .intro z;obtain⟨t',J⟩:=M7 (show Value.isInt k e.2=true from z);rw[J];rfl
 .intro z;rw[q,z];exact Nb _ _ _ _
section
variable{P:Program}{w:World}{A:Around}{E:Value->Shared->Prop}{s:Shared}
def Now(P:Program)(w:World)(a:Addr)(s:Shared)(ks:List Int)(s':Shared):Prop:=
 ∃h',s'={ s with heap:=h' }/\Heap.SameBut a s.heap h'/\ca P w h' a ks
theorem Now.stay(g:ca P w s.heap a ks):Now P w a s ks s:=⟨s.heap,rfl,Ls a s.heap,g⟩
def vb{h:Heap}(ho:h.get? a=some o)(D:o.ExactSet)(hd:o.data=.set es ep t)
  (r:Arr P w ks z t'):ca P w (h.update a (Obj.putSet z t')) a ks:=by
 refine r.set (o:={ o with data:=.set z (ep+1) t' }) (ep:=ep+1) ?_ D rfl;have e:=putSet_of z t' hd;rw[<- e];exact Kv _ ho (by rw[e];rfl)
theorem Now.put{s':Shared}(n:Now P w a s ks s'){es:Array (Int×Value)}{t:SetTable}(r:Arr P w ks' es t){Q:Unit->Shared->Prop}(h:∀z,Now P w a s ks' z->Q () z) :
  wpAny (model P w) A (storeSet a es t) Q E s':=by
 refine aD λY J=>?_
 obtain⟨h',rfl,U,g⟩:=n;obtain⟨o,_,_,_,⟨ho,D,hd⟩,_⟩:=g.arr;refine J ?_;exact Lu ho hd (h _ ⟨_,rfl,U.trans (Kl h' a _),vb ho D hd r⟩) (Le r.bd)
def Hb{Q:Unit->Shared->Prop}(z:m=pure ()\/∃n,m=rule n)(h:Q () s'):wpAny (model P w) A m Q E s':=by
 rcases z with rfl|⟨n,rfl⟩
 .exact gf h
 .exact Lx h
def Hc(k)(tk)(c)(h:∀b,wpAny (model P w) A (f b) Q E s') :
  wpAny (model P w) A (if c=true then hashByValue 8 (.int k tk) >>= f else(pure true:Sem Bool) >>= f) Q E s':=by
 cases c
 .exact ez (gf (h true))
 .rw[if_pos rfl,hashByValue_scannable 8 (show(Value.int k tk).scannable=true from rfl)];exact ez (gf (h _))
def o6{Q:Bool->Shared->Prop}(hS:ca P w s.heap a ks)(D:ks.length+1<scanBound)
  (h:∀h' b,Heap.SameBut a s.heap h'->ca P w h' a (if k∈ks then ks else k::ks)->Q b { s with heap:=h' }) :
  wpAny (model P w) A (setAddHashed a (.int k tk) (hashInt k)) Q E s:=by
 have fin:∀b s',Now P w a s (if k∈ks then ks else k::ks) s'->Q b s':=by
  rintro b _ ⟨h',rfl,sb,g⟩;exact h h' b sb g
 have now:=Now.stay hS;obtain⟨o,es,ep,t,⟨ho,a5,hd⟩,r⟩:=hS.arr;have here:k∈ks ↔ ((es.toList.findIdx? λe=>(intKind P w).is k e.2).isSome=true):=by
  rw[findIdx?_isSome,K1,<- r.pm.mem_iff,mem_map];exact⟨λ⟨e,U,q⟩=>⟨e,U,(jF r.el U k).mpr q⟩,λ⟨e,U,q⟩=>⟨e,U,(jF r.el U k).mp q⟩⟩
 unfold setAddHashed setAddHashedIn;refine Kt (ez (Kb ho hd r.fi ?_));dsimp only;rw[byScan_of (x:=.int k tk) rfl r.bd r.el,if_pos rfl];refine ez ?_;unfold setAddByScan;refine ez (Lx (ez (wpAny_setScan_of (knd:=intKind P w) (Nb _ _ _ _) ho hd r.fi r.el ?_)));rcases Y:es.toList.findIdx? λe=>(intKind P w).is k e.2 with _|j
 .rw[Y];have Z:k∉ks:=λz=>by rw[here,Y]at z;exact Bool.noConfusion z
  rw[if_neg Z]at fin;have r1:=r.lay tk Z D;rcases hl:layNew t es (hashInt k) (.int k tk)with⟨J,t1,dm,gv⟩
  rw[hl]at r1;dsimp only at r1 ⊢;refine ez (Hb ?_ ?_)
  .cases gv
   .exact .inl rfl
   .exact .inr ⟨_,rfl⟩
  refine Hc k tk _ λb=>?_
  have r2:=r1.bare b;generalize (if b=true then t1 else _)=t2 at r2 ⊢;refine ez (now.put r2 λs2 n2=>?_);refine Kf (λ_=>?_) (λ_=>gf (gf (fin _ _ n2)));have r3:=r2.relay (SetTable.grown J.size);rcases hm:relayAll t2 J (SetTable.grown J.size)with⟨br,t3,a1⟩
  rw[hm]at r3;dsimp only at r3 ⊢;refine ez (Hb ?_ ?_)
  .cases a1
   .exact .inl rfl
   .exact .inr ⟨_,rfl⟩
  exact ez (n2.put r3 λs3 n3=>gf (gf (fin _ _ n3)))
 .rw[Y];have Z:=here.mpr (by rw[Y];rfl);rw[if_pos Z]at fin;exact gf (gf (fin _ _ now))
end
noncomputable def dd:List Int->List Int
 | []=>[]
 |k::r=>if k∈dd r then dd r else k::dd r
theorem gp :∀{l},k∈dd l ↔ k∈l
 | []=>Iff.rfl
 |x::r=>by
  show k∈(if x∈dd r then dd r else x::dd r) ↔ _;have ih:=@gp k r;by_cases h:x∈dd r
  .rw[if_pos h,ih,tf];exact⟨.inr,λz=>z.elim (λe=>by rw[e];exact gp.mp h) id⟩
  .simp_all
theorem dd_nodup:∀l,(dd l).Nodup
 | []=>Ly
 |x::r=>by
  show(if x∈dd r then dd r else x::dd r).Nodup;by_cases h:x∈dd r
  .rw[if_pos h];exact dd_nodup r
  .rw[if_neg h];exact Ku.mpr ⟨h,dd_nodup r⟩
theorem yt:∀l,(dd l).length<=l.length
 | []=>lC _
 |x::r=>by
  show(if x∈dd r then dd r else x::dd r).length<=_;have:=yt r
  grind
def BK(xs:List Int):(range xs.length).map (λi=>xs.getD i 0)=xs:=by
 apply Ni;intro i;by_cases q:i<xs.length
 .simp_all
 .simp_all
def But(z:List Addr)(s s':Shared):Prop:=
 ∃h' tk,s'={ s with heap:=h',toks:=tk }/\∀b o,b∉z->s.heap.get? b=some o->h'.get? b=some o
theorem But.on(x:But U s s')(y:But vs s' D)(hs:∀b∈U,b∈vs):But vs s D:=by
 obtain⟨h1,t1,rfl,Y⟩:=x;obtain⟨h2,Z,rfl,k2⟩:=y;exact⟨h2,Z,rfl,λb o J e=>k2 b o J (Y b o (λz=>J (hs b z)) e)⟩
section
variable{P:Program}{w:World}{A:Around}{R:Result->Shared->Prop}{I S:Addr}{fp wr:List Addr}{n:Nat}{Pv:Nat->Value->Prop}{St:Nat->Heap->Prop}
noncomputable abbrev upd (S I:Addr):Code:=.builtin "set.update.loop" ⟨[.ref S,.ref I],[]⟩
def rK (h:wpAny (model P w) A.in1 (pyNext (.ref I)) (λv s'=>match v with
   |none=>R (.ok (.ret .none)) s'
   |some x=>wpAny (model P w) A.in1 (setAdd S x) (λ_ z=>codeAny (model P w) A (upd S I) R z) (λe z=>R (.error e) z) s') (λe s'=>R (.error e) s') s) :
  codeAny (model P w) A (upd S I) R s:=by
 have D:=PyProof.Rows.F.plain_set_update_loop;apply MJ PyProof.Rows.F.entry_set_update_loop;rw[MK D];apply ez (m:=pyNext _);refine Kq h (λv s' hv=>?_) λ_ _ x=>x
 cases v with
 |none=>exact gf hv
 |some x =>
  refine ez (Kt (Kq hv (λ_ z hc=>?_) λ_ _ x=>x));exact gf ⟨MA D _,hc⟩
def add_int(g:ca P w s.heap S ks)(room:ks.length+1<scanBound) 
  (h:∀b s',But [S] s s'->ca P w s'.heap S (if k∈ks then ks else k::ks)->(∀b,b≠S->s'.heap.get? b=s.heap.get? b)->Q b s'):wpAny (model P w) B (setAdd S (.int k t)) Q E s:=by
 refine Kt (ez ((intKind P w).pyHash (Nb _ _ _ _) ?_));refine o6 g room λh' b z g'=>h b _ ⟨h',_,rfl,λc o hc e=>?_⟩ g' λc hc=>?_
 .rw[z.2 c (by simpa using hc)];exact e
 .exact z.2 c hc
theorem vc(W:Walks P w A.in1 I fp wr n Pv St)(U:S∉fp)(xs:List Int)(hn:xs.length=n)(hv:∀i v,Pv i v->∃t,v=.int (xs.getD i 0) t)(hb:n+1<scanBound) :
  ∀m i s,i+m=n->St i s.heap->ca P w s.heap S (dd (xs.take i).reverse)->(∀s',But (S::wr) s s'->ca P w s'.heap S (dd xs.reverse)->R (.ok (.ret .none)) s') ->
   codeAny (model P w) A (upd S I) R s
 |0,i,s,e,st,g,h=>by
  have hi:i=n:=e;subst hi;refine rK (W.done s _ _ st λh' tk kp=>h _ ⟨h',tk,rfl,λb o D=>kp b o λz=>D (.tail _ z)⟩ ?_);rw[take_of_length_le (by omega)]at g;exact g.at λo=>kp S o λz=>U (W.sub S z)
 |m+1,i,s,e,st,g,h=>by
  have hi:i<n:=by omega
  refine rK (W.item i s _ _ hi st λv h1 J pv Y kp=>?_);obtain⟨t,rfl⟩:=hv i v pv;have b1:But wr s { s with heap:=h1,toks:=J }:=⟨h1,J,rfl,kp⟩;have l:(dd (xs.take i).reverse).length+1<scanBound:=by
   have:=yt (xs.take i).reverse;simp at this;omega
  refine add_int (g.at λo=>kp S o λz=>U (W.sub S z)) l λ_ s2 b2 g2 Z=>?_
  refine vc W U xs hn hv hb m _ s2 (by omega) (W.frame _ h1 _ Y λb D o e'=>?_) ?_ λs3 b3 g3=>h s3 ?_ g3
  .rw[Z b λz=>U (z▸D)];exact e'
  .have:xs.take (i+1)=xs.take i++[xs.getD i 0]:=by
    simp_all
   rw[this,reverse_append];exact g2
  .exact(b1.on (b2.on b3 (by simp)) λb z=>.tail _ z)
end
section
variable{P:Program}{w:World}{A:Around}{E:Value->Shared->Prop}{s:Shared}
def da(h:Q (byT w) s):wpAny (model P w) A setsByText Q E s:=
  ez (Nm (gf h))
noncomputable abbrev bv (w:World):Obj:={ cls:=.type "set",dict:=none,data:=.set #[] 0 (.fresh 0 0 (!byT w)) }
noncomputable abbrev bj(w:World)(s:Shared):Shared:={ s with heap:=s.heap.push (bv w) }
def qd (h:Q (.ref s.heap.objs.size) (bj w s)):wpAny (model P w) A (newSet (.type "set")) Q E s:=by
 refine ez (da ?_);exact ez (wpAny_alloc (gf h))
def rL(h:Heap):ca P w (h.push (bv w)) h.objs.size []:=
 Arr.set (es:=#[]) (ep:=0) ⟨λe z=>by simp at z,by simp,Ly,by decide,rfl,Gd.fresh _⟩ (pe _ rfl) ⟨rfl,rfl,rfl⟩ rfl
def BL (x) {Q:Value->Shared->Prop} (h:Q (.ref s.heap.objs.size) (bj w s)):codeAny (model P w) A (.call (.builtin "set.__new__") ⟨[.type "set",x],[]⟩) (wants Q E) s:=by
 refine codeAny_call_builtin PySem.F.plain_set_new PySem.F.entry_set_new (M1 (PySem.F.newCall_set_1 x) ?_);have cls:∀{R}{F},R (.type "set",[x]) s->wpAny (model P w) A.in1 (Builtin.Frozenset.newClass "set" ⟨[.type "set",x],[]⟩) R F s:=by
  intro R F D;have z:=sub_set_self
  wp_walk
  exact D
 exact ez (cls (ez (qd (gf h))))
def yu(x){Q:Value->Shared->Prop}
  (hU:∀B,B.handled=A.handled->wpAny (model P w) B (Builtin.Frozenset.updateFrom "set.__init__" s.heap.objs.size x) (λ_ s'=>Q (.ref s.heap.objs.size) s') E (bj w s)) :
  wpAny (model P w) A (call (.type "set") [x]) Q E s:=by
 have J:(bj w s).heap.get? s.heap.objs.size=some (bv w):=pe _ rfl;have init:codeAny (model P w) A.in1 (.call (.builtin "set.__init__") ⟨[.ref s.heap.objs.size,x],[]⟩) (wants (λr s'=>r=.none/\Q (.ref s.heap.objs.size) s') E) (bj w s):=by
  refine codeAny_call_builtin PySem.F.called_set.init.plain PySem.F.entry_set_init (check_set_init_1 ⟨_,J,rfl⟩ ?_);have Z:=hU A.in1.in1 (by simp);generalize hw:bj w s=s1 at J Z ⊢;generalize s.heap.objs.size=S at J Z ⊢;obtain⟨hp,g,d,tk,os⟩:=s1;unfold Builtin.«set.__init__» noKeywords;generalize Builtin.Frozenset.updateFrom=U at Z ⊢
  wp_walk
  exact Kq Z (λ_ s' hq=>gf ⟨rfl,hq⟩) λ_ _ z=>z
 have Y:=PySem.F.called_set;refine wpAny_call (codeAny_of_tree (gf ⟨Code.quiet_builtin _ (by decide +kernel),MJ PySem.F.entry_type_call ?_⟩));rw[Around.under_plain (weight_type_call_type "set" [x] []) rfl];have f1:=Y.notType;have f2:=Y.canCreate;have f3:=Y.made;have f4:=Y.sub
 have f5:=PySem.F.typeCall_set_1 x;obtain⟨c,tl,f6⟩:=Y.mro
 repeat (any_goals (first|assumption|wp_step))
 refine LY (BL x (E:=E) (Q:=λv s'=>v=.ref s.heap.objs.size/\s'=bj w s) ⟨rfl,rfl⟩) λr s1 D=>?_
 match r,D with
 | .error e,D=>exact D
 | .ok (.ret v),D =>
  obtain⟨rfl,rfl⟩:=D;have f7:Shared.TypeIs (bj w s) (.ref s.heap.objs.size) "set":=⟨_,J,rfl⟩;have f8:=Y.init.lookup;have f9:=Y.init.bind (.ref s.heap.objs.size)
  repeat (any_goals (first|assumption|wp_step))
  refine LY init λr s2 D=>?_
  match r,D with
  | .error e,D=>exact D
  | .ok (.ret v),D =>
   obtain⟨rfl,hq⟩:=D;show wpAny _ A.in1 (pure (some Value.none)) _ _ _;exact gf (gf hq)
def m3 {o:Obj} (x:s.heap.get? l=some o) (hc:o.cls=.type z) (hd:(Value.type z==.type "dict")=false)
  (J:isSubtype (.type z) (.type "set")=pure false) (U:isSubtype (.type z) (.type "frozenset")=pure false)
  {ns:List Int}{Pv:Nat->Value->Prop}{St:Nat->Heap->Prop} (hv:∀i v,Pv i v->∃t,v=.int (ns.getD i 0) t) (D:ns.length+1<scanBound) {Y:Obj}
  (W:∀B,B.handled=A.handled->Walks P w B ((bj w s).heap.objs.size) [(bj w s).heap.objs.size,l] [(bj w s).heap.objs.size] ns.length Pv St)
  (it:∀B E' R,R (.ref (bj w s).heap.objs.size) { s with heap:=(bj w s).heap.push Y }->wpAny (model P w) B (pyIter (.ref l)) R E' (bj w s))
  (st:St 0 ((bj w s).heap.push Y)) {Q:Value->Shared->Prop}
  (h:∀h' tk,ca P w h' s.heap.objs.size (dd ns.reverse)->(∀b o,s.heap.get? b=some o->h'.get? b=some o)->Q (.ref s.heap.objs.size) { s with heap:=h',toks:=tk }) :
  wpAny (model P w) A (call (.type "set") [.ref l]) Q E s:=by
 have z1:(bj w s).heap.objs.size=s.heap.objs.size+1:=Kg ..;have Z:∀b,b<s.heap.objs.size->b∉[s.heap.objs.size,(bj w s).heap.objs.size]:=λb D=>by
  rw[z1];simp only[tf,LR,MH,not_or];exact⟨uw D,uw (Km D)⟩
 have kept:∀b o,s.heap.get? b=some o->((bj w s).heap.push Y).get? b=some o:=λb o e=>gx _ (gx _ e)
 refine yu _ λB hB=>?_
 have hT:(bj w s).TypeIs (.ref l) z:=⟨o,gx _ x,hc⟩;unfold Builtin.Frozenset.updateFrom Builtin.Frozenset.isAnySet;refine ez (ez (K2 hT J ?_));show wpAny _ _ (isInstance (.ref l) (.type "frozenset")) _ _ _;refine K2 hT U ?_;rw[if_neg il];refine ez (LZ hT ?_);rw[hd,if_neg il];refine ez (it _ _ _ (ez (wpAny_runValue ?_)));have hS:s.heap.objs.size∉[(bj w s).heap.objs.size,l]:=by
  have:=pb x;rw[z1];simp only[tf,LR,MH,not_or];exact⟨uw (LD _),KY this⟩
 refine vc (W _ (by simpa using hB)) hS ns rfl hv D ns.length 0 _ (by omega) st ((rL s.heap).at λo e=>gx _ e) ?_;rintro s' ⟨h',tk,rfl,kp⟩ g;exact gf (h h' tk g λb o e=>kp b o (Z b (pb e)) (kept b o e))
def set_list 
  (J:A.handled=none) (U:s.heap.IsList l items) (hi:IntsAre items.toList ns) (Y:items.size+1<scanBound)
  (h:∀h' tk,ca P w h' s.heap.objs.size (dd ns.reverse)->(∀b o,s.heap.get? b=some o->h'.get? b=some o)->Q (.ref s.heap.objs.size) { s with heap:=h',toks:=tk }) :
  wpAny (model P w) A (call (.type "set") [.ref l]) Q E s:=by
 have z:items.size=ns.length:=by simpa using IntsAre.length hi
 obtain⟨o,ho,hc,Z⟩:=U;have D:(bj w s).heap.IsList l items:=⟨o,gx _ ho,hc,Z⟩;refine m3 ho hc (by decide) PySem.F.sub_list_set PySem.F.sub_list_frozenset (j6 hi) (z▸Y) (λB hB=>z▸Walks.list (hB.trans J) _ l ?_ items)
  (λB E' R=>LS D) ⟨⟨_,pe _ rfl,rfl,rfl⟩,D.push _⟩ h
 exact uw (Nat.lt_of_lt_of_eq (Km (pb ho)) (Kg ..).symm)
def wH 
  (J:A.handled=none) (U:s.heap.IsTuple l items) (hi:IntsAre items.toList ns) (Y:items.size+1<scanBound)
  (h:∀h' tk,ca P w h' s.heap.objs.size (dd ns.reverse)->(∀b o,s.heap.get? b=some o->h'.get? b=some o)->Q (.ref s.heap.objs.size) { s with heap:=h',toks:=tk }) :
  wpAny (model P w) A (call (.type "set") [.ref l]) Q E s:=by
 have z:items.size=ns.length:=by simpa using IntsAre.length hi
 obtain⟨o,ho,hc,Z⟩:=U;have D:(bj w s).heap.IsTuple l items:=⟨o,gx _ ho,hc,Z⟩;refine m3 ho hc (by decide) PySem.F.sub_tuple_set PySem.F.sub_tuple_frozenset (j6 hi) (z▸Y) (λB hB=>z▸Walks.tuple (hB.trans J) _ l ?_ items)
  (λB E' R=>Mi D) ⟨⟨_,pe _ rfl,rfl,rfl⟩,D.push _⟩ h
 exact uw (Nat.lt_of_lt_of_eq (Km (pb ho)) (Kg ..).symm)
end
set_option maxRecDepth 100000 in
def m4:entryFor table "set.__iter__"=some Builtin.«frozenset.__iter__»:=
 entryFor_alias (id':="frozenset.__iter__") (by kernel_rfl) rfl (by decide +kernel) (by kernel_rfl)
set_option maxRecDepth 100000 in
def o7:Manifest.owners.lookup (String.ofList ['r','o','t','a','r','e','t','i','_','t','e','s'].reverse)=some Manifest.sig_set_iterator:=by kernel_rfl
set_option maxRecDepth 100000 in
def aQ:Slot "set_iterator" "__next__" "set_iterator.__next__":=
 .of (owner:="set_iterator") (n:="__next__") (by rw[ML,L3];kernel_rfl) (by decide +kernel) (by decide +kernel) (by decide +kernel)
  (by first|exact .inl (by decide +kernel)|exact .inr (by decide +kernel)) (by rw[MX];kernel_rfl)
set_option maxRecDepth 100000 in
def di:entryFor table "set_iterator.__next__"=some Builtin.«set_iterator.__next__»:=entryFor_of_tree (by kernel_rfl)
set_option maxRecDepth 100000 in
def dO (a):argsOk "set_iterator.__next__" ⟨[a],[]⟩:=by
 unfold argsOk;rw[signature?_of (n:=['_','_','t','x','e','n','_','_']) (by kernel_rfl) o7];kernel_rfl
set_option maxRecDepth 100000 in
def jv:Slot "set_iterator" "__iter__" "set_iterator.__iter__":=
 .of (owner:="set_iterator") (n:="__iter__") (by rw[ML,L3];kernel_rfl) (by decide +kernel) (by decide +kernel) (by decide +kernel)
  (by first|exact .inl (by decide +kernel)|exact .inr (by decide +kernel)) (by rw[MX];kernel_rfl)
set_option maxRecDepth 100000 in
def m5:entryFor table "set_iterator.__iter__"=some Builtin.«dict_keyiterator.__iter__»:=
 entryFor_alias (id':="dict_keyiterator.__iter__") (by kernel_rfl) rfl (by decide +kernel) (by kernel_rfl)
set_option maxRecDepth 100000 in
def oM (a):argsOk "set_iterator.__iter__" ⟨[a],[]⟩:=by
 unfold argsOk;rw[signature?_of (n:=['_','_','r','e','t','i','_','_']) (by kernel_rfl) o7];kernel_rfl
def yw {s:Shared}{I:Addr}{Q:Value->Shared->Prop} (z:s.TypeIs (.ref I) "set_iterator") (h:Q (.ref I) s):wpAny (model P w) A (pyIter (.ref I)) Q E s:=by
 refine M9 z jv (Kk jv z m5 ?_ (oM _));exact gf ⟨_,rfl,"set_iterator",_,z,aQ.lookup,h⟩
theorem ik{α:Type}:∀{l}{i}{x:α},l[i]?=some x->(x::l.eraseIdx i).Perm l
 | [],i,x,h=>by simp at h
 |a::l,0,x,h=>by
  simp_all
 |a::l,i+1,x,h=>by
  have h':l[i]?=some x:=by simpa using h
  exact(Perm.swap a x _).trans (.cons a (ik h'))
theorem vd(next):∀z k left (out:Array α),z=left.length->(pickOrder.go next z k left out).toList.Perm (out.toList++left)
 |0,k,left,out,h=>by
  have:=KJ.mp h.symm;subst this;rw[Ll];exact .refl _
 |z+1,k,left,out,h=>by
  have D:next k % left.length<left.length:=Nw _ (by omega);obtain⟨x,hx⟩:∃x,left[next k % left.length]?=some x:=⟨_,J1 D⟩;have e:pickOrder.go next (z+1) k left out=pickOrder.go next z (k+1) (left.eraseIdx (next k % left.length)) (out.push x):=by
   show(match left[next k % left.length]? with
    |some x=>pickOrder.go next z _ _ _
    |none=>out)=_
   rw[hx]
  rw[e];refine(vd next z _ _ _ (by rw[L4 D];omega)).trans ?_;rw[Array.toList_push,KN];exact Perm.append_left _ (ik hx)
def o8(next)(xs:Array α):(pickOrder next xs).toList.Perm xs.toList:=by
 have:=vd next xs.size 0 xs.toList #[] (by simp);simpa[pickOrder]using this
section
variable{M:Model}{A:Around}{E:Value->Shared->Prop}{s:Shared}
def tR{n:Nat}{Q:Nat->Shared->Prop}(z:n≠0)(h:∀i d',i<n->Q i { s with drawn:=d' }):wpAny M A (choose src n) Q E s:=λ_ _ _ =>
 ⟨z,h _ _ (Nw _ (Nat.pos_of_ne_zero z))⟩
theorem jG :∀n xs s {Q:List α->Shared->Prop},n=xs.length->(∀ys d',ys.Perm xs->Q ys { s with drawn:=d' })->wpAny M A (drawOrder n xs) Q E s
 |0,xs,s,Q,h,q=>by
  have:=KJ.mp h.symm;subst this;exact gf (q [] s.drawn (.refl _))
 |n+1,[],s,Q,h,q=>by simp at h
 |n+1,x::r,s,Q,h,q=>by
  refine ez (tR (by simp) λi d' hi=>?_);obtain⟨y,D⟩:∃y,(x::r)[i]?=some y:=⟨_,J1 hi⟩;rw[D];refine ez (jG n _ _ (by rw[L4 hi];simp at h ⊢;omega) λys z J=>gf ?_);exact q (y::ys) z ((Perm.cons y J).trans (ik D))
end
def SIt(h:Heap)(I S:Addr)(o:Obj)(f:Value)(i n ep:Nat):Prop:=
 h.get? I=some { cls:=.type "set_iterator",dict:=none,data:=.fields #[f,.int i 0,.ref S,.int n 0,.int ep 0],slots:=#[] }/\h.get? S=some o
theorem SIt.type {s:Shared} (h:SIt s.heap I S o f i n ep):s.TypeIs (.ref I) "set_iterator":=⟨_,h.1,rfl⟩
section
variable{P:Program}{w:World}{A:Around}{E:Value->Shared->Prop}{s:Shared}
def fm(ho:s.heap.get? S=some o)(hd:o.data=.set es ep t)(z:t.fits es.size=true)(h:Q es s) :
  wpAny (model P w) A (setEntries S) Q E s:=MT ho hd z h
def o9{ep slot i:Nat}{t:SetTable}{Q:Option (Value×Nat)->Shared->Prop}(ho:s.heap.get? S=some o)(hd:o.data=.set es ep t)(z:t.fits es.size=true)(D:byT w=true)
  (h:Q (((pickOrder (w.params.setOrder S ep) es)[i]?).map λe=>(e.2,slot)) s):wpAny (model P w) A (setNext S slot i ep) Q E s:=by
 unfold setNext;refine ez (Kb ho hd z ?_);dsimp only;refine ez (da ?_);rw[if_pos D];simp only[LW,J6,KZ];refine ez ?_;unfold setWalk;refine ez (Kb ho hd z ?_);dsimp only;refine ez (da ?_);rw[if_pos D];refine ez (Nm (gf ?_));exact gf h
def m6{t:SetTable}{Q:Option (Value×Nat)->Shared->Prop}(ho:s.heap.get? S=some o)(hd:o.data=.set es ep t)(U:t.fits es.size=true)(Y:byT w=false)
  (D:(!t.plain&&decide (es.size > 1))=false) (z:t.led=true)
  (h:Q (match es[SetTable.below t.place slot]?,t.place[SetTable.below t.place slot]? with|some (_,x),some j=>some (x,j+1)|_,_=>none) s):wpAny (model P w) A (setNext S slot i ep) Q E s:=by
 unfold setNext;refine ez (Kb ho hd U ?_);dsimp only;refine ez (da ?_);rw[if_neg (by rw[Y];simp)];refine Kf (λJ=>absurd (show(!t.plain&&decide (es.size > 1))=true from J) (by rw[D];simp)) (λ_=>?_);refine ez ?_;show wpAny _ _ (if (!t.led&&!es.isEmpty)=true then _ else _) _ _ s;rw[if_neg (by rw[z];simp)];exact gf (gf h)
def yx(z:oJ xs)(hi:i<xs.size):SetTable.below xs (xs.getD i 0+1)=i+1:=by
 obtain⟨h1,h2,D⟩:=jE z _;have a:i<SetTable.below xs (xs.getD i 0+1):=by
  by_cases q:SetTable.below xs (xs.getD i 0+1)<=i
  .have:=D i q hi;omega
  .omega
 have b:SetTable.below xs (xs.getD i 0+1)<=i+1:=by
  by_cases q:i+1<SetTable.below xs (xs.getD i 0+1)
  .have:=h2 _ q;have:=z i (i+1) (by omega) (by omega);omega
  .omega
 omega
def tU(xs)(z:oJ xs):SetTable.below xs 0=0:=by
 obtain⟨h1,h2,D⟩:=jE z 0;by_cases q:0<SetTable.below xs 0
 .have:=h2 0 q;omega
 .omega
end
section
variable{P:Program}{w:World}{A:Around}{E:Value->Shared->Prop}{s:Shared}{I S:Addr}{o:Obj}{es:Array (Int×Value)}{t:SetTable}{i n ep:Nat}
def oN{slot nx:Nat}{x:Value}{Q:Option Value->Shared->Prop}(z:SIt s.heap I S o (.int slot 0) i n ep)(hd:o.data=.set es ep t)(hf:t.fits es.size=true)(hn:es.size=n)(U:S≠I)
  (Y:∀A' s' Z E',s'.heap.get? S=some o->Z (some (x,nx)) s'->wpAny (model P w) A' (setNext S slot i ep) Z E' s')
  (hQ:∀h',SIt h' I S o (.int nx 0) (i+1) n ep->Heap.SameBut I s.heap h'->Q (some x) { s with heap:=h' }):wpAny (model P w) A (pyNext (.ref I)) Q E s:=by
 unfold pyNext;refine ez (MB (Kz (name:=Str.ofString "__next__") z.type aQ (Kk aQ z.type di ?_ (dO _))));unfold Builtin.«set_iterator.__next__»;refine ez (m:=slotArgs "__next__" 0 _) (gf ?_);refine ez (MY z.1 rfl ?_);dsimp only;refine ez (fm z.2 hd hf ?_);rw[if_neg (by simp[hn])]
 try dsimp only
 simp only[Int.toNat_natCast];refine ez (Y _ _ _ _ z.2 ?_);dsimp only;refine ez (Lq z.1 (by simp) λh1 e1 D=>?_);refine ez (Lq e1 (by simp) λh2 e2 J=>?_);refine gf ⟨x,rfl,gf (hQ h2 ⟨?_,?_⟩ (D.trans J))⟩
 .simpa[rawInt]using e2
 .exact((D.trans J).2 S U).trans z.2
def oO{slot:Nat}{Q:Option Value->Shared->Prop}(U:A.handled=none)(z:SIt s.heap I S o (.int slot 0) i n ep)(hd:o.data=.set es ep t)(Z:t.fits es.size=true)(hn:es.size=n)
  (D:∀A' s' Y E',s'.heap.get? S=some o->Y none s'->wpAny (model P w) A' (setNext S slot i ep) Y E' s')
  (hQ:∀h',(∀b o,b≠I->s.heap.get? b=some o->h'.get? b=some o)->Q none { s with heap:=h' }):wpAny (model P w) A (pyNext (.ref I)) Q E s:=by
 unfold pyNext;refine ez (MB (Kz (name:=Str.ofString "__next__") z.type aQ (Kk aQ z.type di ?_ (dO _))));unfold Builtin.«set_iterator.__next__»;refine ez (m:=slotArgs "__next__" 0 _) (gf ?_);refine ez (MY z.1 rfl ?_);dsimp only;refine ez (fm z.2 hd Z ?_);rw[if_neg (by simp[hn])]
 try dsimp only
 simp[Int.toNat_natCast];refine ez (D _ _ _ _ z.2 ?_);dsimp only;refine ez (Lq z.1 (by simp) λh1 e1 J=>?_);refine k5 (v:=.none) (vs:=#[]) (it:=0) (Q:=λ_ _=>True) (by first|exact U|simpa using U) λe s' kp ⟨h',eq⟩ hT=>?_
 subst eq;refine ez (K2 hT isSubtype_stop ?_);exact gf (hQ h' λb o hb q=>kp b o ((J.2 b hb).trans q))
def m7{pn place:Nat}{pt:Tok}{hx:Int}{x:Value}{Q:Option Value->Shared->Prop}(z:SIt s.heap I S o (.ref Tp) i n ep)(hd:o.data=.set es ep t)(hf:t.fits es.size=true)(hn:es.size=n)(J:S≠I)
  (U:s.heap.get? Tp=some ot) (Y:ot.data=.seq ps pn) (hp:ps[i]?=some (.int place pt)) (Z:es[place]?=some (hx,x))
  (hQ:∀h',SIt h' I S o (.ref Tp) (i+1) n ep->Heap.SameBut I s.heap h'->Q (some x) { s with heap:=h' }):wpAny (model P w) A (pyNext (.ref I)) Q E s:=by
 unfold pyNext;refine ez (MB (Kz (name:=Str.ofString "__next__") z.type aQ (Kk aQ z.type di ?_ (dO _))));unfold Builtin.«set_iterator.__next__»;refine ez (m:=slotArgs "__next__" 0 _) (gf ?_);refine ez (MY z.1 rfl ?_);dsimp only;refine ez (fm z.2 hd hf ?_);rw[if_neg (by simp[hn])]
 try dsimp only
 refine ez (wpAny_seqItems U Y ?_);dsimp only;simp only[Int.toNat_natCast,hp];refine ez ?_;unfold setNextDrawn;refine ez (Kb z.2 hd hf ?_);dsimp only;simp only[LW,J6,KZ,Int.toNat_natCast,Z];refine gf ?_;refine ez (Lq z.1 (by simp) λh1 e1 D=>?_);refine gf ⟨x,rfl,gf (hQ h1 ⟨?_,?_⟩ D)⟩
 .simpa[rawInt]using e1
 .exact(D.2 S J).trans z.2
def m8(Z:A.handled=none)(z:SIt s.heap I S o (.ref Tp) i n ep)(hd:o.data=.set es ep t)(hf:t.fits es.size=true)(hn:es.size=n)
  (D:s.heap.get? Tp=some ot) (J:ot.data=.seq ps pn) (hp:ps[i]?=none)
  (hQ:∀h',(∀b o,b≠I->s.heap.get? b=some o->h'.get? b=some o)->Q none { s with heap:=h' }):wpAny (model P w) A (pyNext (.ref I)) Q E s:=by
 refine ez (MB (Kz z.type aQ (Kk aQ z.type di ?_ (dO _))));refine ez (gf ?_);refine ez (MY z.1 rfl ?_);dsimp only;refine ez (fm z.2 hd hf ?_);rw[if_neg (by simp[hn])]
 try dsimp only
 refine ez (wpAny_seqItems D J ?_);simp[Int.toNat_natCast,hp];refine ez (Lq z.1 (by simp) λh1 e1 U=>?_);refine ez (Lq e1 (by simp) λh2 e2 Y=>?_);refine k5 (v:=.none) (vs:=#[]) (it:=0) (Q:=λ_ _=>True) (by first|exact Z|simpa using Z) λe s' kp ⟨h',eq⟩ hT=>?_
 subst eq;refine ez (K2 hT isSubtype_stop ?_);exact gf (hQ h' λb o hb q=>kp b o (((U.trans Y).2 b hb).trans q))
end
structure qe(P:Program)(w:World)(I:Addr)(fp:List Addr)(order:List Int)(St:Nat->Heap->Prop):Prop where
 mem:I∈fp
 ty:∀i h,St i h->∃o,h.get? I=some o/\o.cls=.type "set_iterator"
 frame:∀i h h',St i h->(∀b∈fp,∀o,h.get? b=some o->h'.get? b=some o)->St i h'
 item:∀(A:Around) i (s:Shared) (Q:Option Value->Shared->Prop) (E:Value->Shared->Prop),i<order.length->St i s.heap ->
  (∀t h',St (i+1) h'->(∀b o,b≠I->s.heap.get? b=some o->h'.get? b=some o)->Q (some (.int (order.getD i 0) t)) { s with heap:=h' })->wpAny (model P w) A (pyNext (.ref I)) Q E s
 done:∀(A:Around) (s:Shared) (Q:Option Value->Shared->Prop) (E:Value->Shared->Prop),A.handled=none->St order.length s.heap ->
  (∀h',(∀b o,b≠I->s.heap.get? b=some o->h'.get? b=some o)->Q none { s with heap:=h' })->wpAny (model P w) A (pyNext (.ref I)) Q E s
def qe.walks{St:Nat->Heap->Prop}(W:qe P w I fp order St)(Y:A.handled=none) :
  Walks P w A I fp [I] order.length (λi v=>∃t,v=.int (order.getD i 0) t) St where
 sub:=λb D=>by rw[J9.mp D];exact W.mem
 frame:=W.frame
 item:=λi s Q E hi st J=>W.item A i s Q E hi st λt h' U kp=>J _ h' s.toks ⟨t,rfl⟩ U λb o D e=>kp b o (λz=>D (by rw[z];exact J9.mpr rfl)) e
 done:=λs Q E st J=>W.done A s Q E Y st λh' kp=>J h' s.toks λb o D e=>kp b o (λz=>D (by rw[z];exact J9.mpr rfl)) e
 self:=λi s Q E st h=>by
  obtain⟨o,e,c⟩:=W.ty i _ st;exact yw ⟨o,e,c⟩ h
section
variable{P:Program}{w:World}{A:Around}{E:Value->Shared->Prop}{s:Shared}
def j8{l:List (Int×Value)}(h:l[i]?=some e):(l.map λe=>numOf e.2).getD i 0=numOf e.2:=by simp_all
set_option maxRecDepth 100000 in
def yy(g:ca P w s.heap S ks)
  (hQ:∀(I:Addr) h' d' fp D St,D.Perm ks->(∀b o,s.heap.get? b=some o->h'.get? b=some o)->s.heap.objs.size<=I->(∀b∈fp,b=S\/s.heap.objs.size<=b)->(∀b∈fp,b<h'.objs.size) ->
   qe P w I fp D St->St 0 h'->Q (.ref I) { s with heap:=h',drawn:=d' }):wpAny (model P w) A (pyIter (.ref S)) Q E s:=by
 obtain⟨o,es,ep,t,ho,cC,hd,ck,ba,c5,hb,Y,br⟩:=g;have hT:s.TypeIs (.ref S) "set":=⟨o,ho,cC.1⟩;have ao:=pb ho;have cL:t.place.size=es.size:=by simp[SetTable.fits]at Y;exact Y.1
 have c4:es.size=ks.length:=by have:=ba.length_eq;simpa using this
 refine M9 hT PySem.F.slot_set_iter (Kk PySem.F.slot_set_iter hT m4 ?_ (PySem.F.args_set_iter_1 _));unfold Builtin.«frozenset.__iter__»;refine ez (m:=Builtin.Frozenset.slot0 "__iter__" _) (gf ?_);refine ez (m:=Builtin.Frozenset.sizeOf S) (ez (fm ho hd Y (gf ?_)));refine ez (m:=setDrawn S) ?_;unfold setDrawn;refine ez (Kb ho hd Y ?_);dsimp only;refine ez (da (gf ?_));have U:∀(D:List (Int×Value)) (fs:Nat->Nat),D.Perm es.toList->fs 0=0 ->
   (∀A' i (s':Shared) (Q':Option (Value×Nat)->Shared->Prop) (E':Value->Shared->Prop) e,D[i]?=some e->s'.heap.get? S=some o->Q' (some (e.2,fs (i+1))) s'->wpAny (model P w) A' (setNext S (fs i) i ep) Q' E' s') ->
   (∀A' s' Q' E',s'.heap.get? S=some o->Q' none s'->wpAny (model P w) A' (setNext S (fs D.length) D.length ep) Q' E' s') ->
   Q (.ref s.heap.objs.size) { s with heap:=s.heap.push { cls:=.type "set_iterator",data:=.fields #[.int 0 0,.int 0 0,.ref S,.int (es.size:Nat) 0,.int (ep:Nat) 0] } }:=by
  intro D fs hp h0 b0 cl;have hol:D.length=es.size:=by have:=hp.length_eq;simpa using this
  refine hQ s.heap.objs.size _ s.drawn [s.heap.objs.size,S] (D.map λe=>numOf e.2) (λi h=>SIt h s.heap.objs.size S o (.int (fs i) 0) i es.size ep) ((hp.map _).trans ba) (λb o e=>gx _ e) (lC _) (λb hb=>?_) (λb hb=>?_) ?_ ?_
  .rcases tf.mp hb with e|e
   .exact .inr (L0 e.symm)
   .exact .inl (J9.mp e)
  .rw[Kg];rcases tf.mp hb with e|e
   .rw[e];exact LD _
   .rw[J9.mp e];exact Km ao
  .refine⟨.head _,λi h st=>⟨_,st.1,rfl⟩,λi h h' st k=>⟨k _ (.head _) _ st.1,k _ (.tail _ (.head _)) _ st.2⟩,λA' i s' Q' E' hi st hq=>?_,λA' s' Q' E' hh st hq=>?_⟩
   .rw[nA]at hi;obtain⟨e,he⟩:∃e,D[i]?=some e:=⟨_,J1 hi⟩;have hm:=hp.mem_iff.mp (Lc he);obtain⟨tk,hv⟩:=fb ck e hm;rw[j8 he]at hq;refine oN (slot:=fs i) (nx:=fs (i+1)) (x:=e.2) st hd Y rfl (uw ao) (λb1 b2 b3 b4 a4 q=>b0 b1 i b2 b3 b4 e he a4 q) λh' b5 sb=>?_
    rw[hv];exact hq tk h' b5 λb o hb q=>(sb.2 b hb).trans q
   .rw[nA]at st;exact oO (slot:=fs D.length) hh st hd Y rfl (λb1 b2 b3 b4 a4 q=>cl b1 b2 b3 b4 a4 q) hq
  .refine⟨?_,gx _ ho⟩;rw[h0];exact pe _ rfl
 cases a5:byT w with
 |true =>
  simp only[Mb,MW,J6,KZ];refine ez (gf ?_);refine ez (Lv ho hd Y ?_);refine ez (Kx (gf ⟨_,rfl,"set_iterator",_,⟨_,pe _ rfl,rfl⟩,aQ.lookup,?_⟩));have q:=U (pickOrder (w.params.setOrder S ep) es).toList (λ_=>0) (o8 _ _) rfl
   (λA' i s' Q' E' e he Z q=>o9 Z hd Y a5 (by rw[<- Kw,he];exact q))
   (λA' s' Q' E' Z q=>o9 Z hd Y a5 (by rw[LQ (by simp)];exact q))
  simpa[rawInt]using q
 |false =>
  cases a8:(!t.plain&&decide (es.size > 1))with
  |false =>
   refine Kf (λcd=>absurd (show(!false&&(!t.plain&&decide (es.size > 1)))=true from cd) (by rw[a8];simp)) (λ_=>?_);refine ez (gf ?_);refine ez (Lv ho hd Y ?_);refine ez (Kx (gf ⟨_,rfl,"set_iterator",_,⟨_,pe _ rfl,rfl⟩,aQ.lookup,?_⟩));have a9:t.led=true:=by rw[br.led,a5];rfl
   have cr:∀i,i<=t.place.size->SetTable.below t.place (match i with|0=>0|j+1=>t.place.getD j 0+1)=i:=λi hi=>by
    cases i<;>first|exact tU _ br.rise|exact yx br.rise (by omega)
   have q:=U es.toList (λi=>match i with|0=>0|j+1=>t.place.getD j 0+1) (.refl _) rfl
    (λA' i s' Q' E' e he Z q=>m6 Z hd Y a5 a8 a9 (by
     have hi:i<es.size:=by have:=(JY.mp he).1;simpa using this
     rw[cr i (by omega)];rw[<- Kw,he,Mh (by omega:i<t.place.size)];have e2:t.place.getD i 0=t.place[i]:=by simp[Array.getD,(by omega:i<t.place.size)]
     dsimp only at q ⊢;rw[e2]at q;exact q))
    (λA' s' Q' E' Z q=>m6 Z hd Y a5 a8 a9 (by
     rw[cr _ (by simp[cL]),LQ (by simp)];exact q))
   simpa[rawInt]using q
  |true =>
   refine Kf (λ_=>?_) (λcd=>absurd (show(!false&&(!t.plain&&decide (es.size > 1)))=true by rw[a8];rfl) cd);refine ez (jG _ _ _ (by simp) λz d' J=>?_);refine ez (wpAny_newTuple ?_ (by simp;have:=J.length_eq;simp at this;rw[this,Kr];unfold scanBound at hb;omega));refine ez (Lv (gx _ ho) hd Y ?_);refine ez (Kx (gf ⟨_,rfl,"set_iterator",_,⟨_,pe _ rfl,rfl⟩,aQ.lookup,?_⟩));have dn:z.length=es.size:=by have:=J.length_eq;simpa using this
   have cS:∀p∈z,p<es.size:=λp hp=>by have:=J.mem_iff.mp hp;simpa using this
   have c0:((s.heap.push { cls:=.type "tuple",data:=.seq (map (λ(i:Nat)=>rawInt i) z).toArray }).push { cls:=.type "set_iterator",data:=.fields #[.ref s.heap.objs.size,.int 0 0,.ref S,.int (es.size:Nat) 0,.int (ep:Nat) 0] }).get? s.heap.objs.size=some { cls:=.type "tuple",data:=.seq (map (λ(i:Nat)=>rawInt i) z).toArray }:=
    gx _ (pe _ rfl)
   have q:=hQ (s.heap.push { cls:=.type "tuple",data:=.seq (map (λ(i:Nat)=>rawInt i) z).toArray }).objs.size
    ((s.heap.push { cls:=.type "tuple",data:=.seq (map (λ(i:Nat)=>rawInt i) z).toArray }).push { cls:=.type "set_iterator",data:=.fields #[.ref s.heap.objs.size,.int 0 0,.ref S,.int (es.size:Nat) 0,.int (ep:Nat) 0] }) d'
    [(s.heap.push { cls:=.type "tuple",data:=.seq (map (λ(i:Nat)=>rawInt i) z).toArray }).objs.size,S,s.heap.objs.size]
    (z.map λp=>(es.toList.map λe=>numOf e.2).getD p 0)
    (λi h=>SIt h (s.heap.push { cls:=.type "tuple",data:=.seq (map (λ(i:Nat)=>rawInt i) z).toArray }).objs.size S o (.ref s.heap.objs.size) i es.size ep/\h.get? s.heap.objs.size=some { cls:=.type "tuple",data:=.seq (map (λ(i:Nat)=>rawInt i) z).toArray })
    ?p1 (λb o e=>gx _ (gx _ e)) (by rw[Kg];exact Lm _) ?p2 ?p3 ?p4 ⟨⟨pe _ rfl,gx _ (gx _ ho)⟩,c0⟩
   .simpa[rawInt]using q
   case p1 =>
    have e1:(es.toList.map λe=>numOf e.2).length=es.size:=by simp
    have h1:=J.map λp=>(es.toList.map λe=>numOf e.2).getD p 0
    rw[<- e1,BK]at h1;exact h1.trans ba
   case p2 =>
    simp_all
   case p3 =>
    intro b hb;rw[Kg];simp only[tf,LR,MH]at hb;rcases hb with e|e|e
    .rw[e];exact LD _
    .rw[e,Kg];exact Km (Km ao)
    .rw[e,Kg];exact Km (LD _)
   case p4 =>
    refine⟨.head _,λi h st=>⟨_,st.1.1,rfl⟩,λi h h' st k=>⟨⟨k _ (.head _) _ st.1.1,k _ (.tail _ (.head _)) _ st.1.2⟩,k _ (.tail _ (.tail _ (.head _))) _ st.2⟩,λA' i s' Q' E' hi st hq=>?_,λA' s' Q' E' hh st hq=>?_⟩
    .rw[nA]at hi;obtain⟨p,hp⟩:∃p,z[i]?=some p:=⟨_,J1 hi⟩;have c1:=cS p (Lc hp);obtain⟨e,he⟩:∃e,es.toList[p]?=some e:=⟨_,J1 (by simpa using c1)⟩;obtain⟨tk,hv⟩:=fb ck e (Lc he);have e3:(z.map λp=>(es.toList.map λe=>numOf e.2).getD p 0).getD i 0=numOf e.2:=by
      rw[KC,Ka,hp];exact j8 he
     rw[e3]at hq;refine m7 (place:=p) (pt:=0) (hx:=e.1) (x:=e.2) st.1 hd Y rfl (by rw[Kg];exact uw (Km ao)) st.2 rfl (by simp[hp,rawInt]) (by rw[<- Kw,he]) λh' b5 sb=>?_
     rw[hv];exact hq tk h' ⟨b5,(sb.2 _ (by rw[Kg];exact uw (LD _))).trans st.2⟩ λb o hb q=>(sb.2 b hb).trans q
    .rw[nA]at st;exact m8 hh st.1 hd Y rfl st.2 rfl (by simp) hq
def yz (J:s.TypeIs (.ref r) "set") (h:Q false s):wpAny (model P w) A (Builtin.List.listLengthHint (.ref r)) Q E s:=by
 unfold Builtin.List.listLengthHint;refine ez (MI J PySem.F.slot_set_len.lookup ?_);generalize D:("set.__len__":String)=U
 wp_delta
 rw[show splitId U=some ("set","__len__")from by subst D;decide +kernel];subst D;refine ez (K2 (T:="set") (b:=true) J (by rw[MX];kernel_rfl) ?_);refine Kf (λz=>absurd z (by decide)) (λ_=>?_);refine Kf (λ_=>?_) (λz=>absurd (by decide +kernel) z);refine ez (LZ J ?_);exact gf h
set_option maxRecDepth 100000 in
def rM(hh:A.handled=none)(g:ca P w s.heap S ks)
  (h:∀h' tk d' a3 D,(∀b o,s.heap.get? b=some o->h'.get? b=some o)->D.Perm ks->IntsAre a3 D->R a3 { s with heap:=h',toks:=tk,drawn:=d' }) :
  wpAny (model P w) A (collect (.ref S)) R E s:=by
 have b1:ks.length<scanBound:=by
  obtain⟨o,es,ep,t,ho,a4,hd,cP,hp,hn,hb,_⟩:=g;have:=hp.length_eq
  simp_all
 have U:S<s.heap.objs.size:=by
  obtain⟨o,es,ep,t,ho,_⟩:=g;exact pb ho
 unfold collect;refine ez (wpAny_runValue (MJ entry_proto_collect' ?_));rw[MK PySem.F.plain_proto_collect _];show wpAny _ A.in1 (newList [] >>= λl=>again (.builtin "list.__iadd__" ⟨[l,.ref S],[]⟩)) _ _ s;refine ez (Kx ?_);refine gf ⟨MA PySem.F.plain_list_iadd _,MJ entry_list_iadd' ?_⟩;rw[MK PySem.F.plain_list_iadd _];have b2:(s.heap.push { cls:=.type "list",data:=.seq ([]:List Value).toArray }).get? s.heap.objs.size=some { cls:=.type "list",data:=.seq #[] }:=pe _ rfl;show wpAny _ A.in1 (Builtin.List.listExtendWith (.ref s.heap.objs.size) (.ref S) (.ref s.heap.objs.size)) _ _ _;have g1:ca P w (s.heap.push { cls:=.type "list",data:=.seq ([]:List Value).toArray }) S ks:=g.at λo e=>gx _ e
 have hT:Shared.TypeIs { s with heap:=s.heap.push { cls:=.type "list",data:=.seq ([]:List Value).toArray } } (.ref S) "set":=by
  obtain⟨o,es,ep,t,ho,a4,_⟩:=g1;exact⟨o,ho,a4.1⟩
 unfold Builtin.List.listExtendWith;refine ez (LZ (T:="set") hT ?_);have q1:Builtin.List.listSameRef (.ref s.heap.objs.size) (.ref S)=false:=by simp[Builtin.List.listSameRef,KY U]
 have q2:(Value.type "set" == Value.type "list")=false:=by decide
 have q3:(Value.type "set" == Value.type "tuple")=false:=by decide
 simp only[q1,q2,q3,Bool.or_false,J6,KZ];refine ez (yy g1 λI h1 d1 fp D St Y kp hI b3 c5 W st=>?_);have a6:(s.heap.push { cls:=.type "list",data:=.seq ([]:List Value).toArray }).objs.size=s.heap.objs.size+1:=Kg ..;have a7:s.heap.objs.size∉fp:=λhm=>by
  rcases b3 _ hm with e|e
  .exact Ks _ (by rw[<- e]at U;exact U)
  .dsimp only at e;rw[a6]at e;exact Nat.not_succ_le_self _ e
 have hol:D.length<=sizeLine:=by
  have:=Y.length_eq;rw[this];exact Le b1
 have b4:Shared.TypeIs { s with heap:=h1,drawn:=d1 } (.ref S) "set":=by
  obtain⟨o,e,c⟩:=hT;exact⟨o,kp S o e,c⟩
 refine ez (Kt (yz b4 ?_));have WS:=(W.walks (A:=A.in1) (by first|exact hh|simpa using hh)).toS;have fin:∀h2 c1,St 0 h2->(∀b o,b≠s.heap.objs.size->h1.get? b=some o->h2.get? b=some o)->h2.get? s.heap.objs.size=some { cls:=.type "list",dict:=none,data:=.seq #[] c1,slots:=#[] } ->
   codeAny (model P w) A (.builtin "list.extend.loop" ⟨[.ref s.heap.objs.size,.ref I,.ref s.heap.objs.size],[]⟩)
    (λr s'=>∃h' tk J c',r=.ok (.ret (.ref s.heap.objs.size))/\s'={ s with heap:=h',toks:=tk,drawn:=d1 }/\(∀b o,s.heap.get? b=some o->h'.get? b=some o) /\
     h'.get? s.heap.objs.size=some { cls:=.type "list",dict:=none,data:=.seq J c',slots:=#[] }/\IntsAre J.toList D) { s with heap:=h2,drawn:=d1 }:=by
  intro h2 c1 cd k2 Z;refine codeAny_extend_loopS WS hol s.heap.objs.size a7 _ D.length 0 _ #[] c1 rfl (Ke _) cd Z (ItemsOf.nil _) λs' J c' hm ao a8=>?_
  refine⟨s'.heap,s'.toks,J,c',rfl,(by
   obtain⟨h',g',ck,dm,dn⟩:=s';have eg:g'=s.gens:=hm.gens;have ed:ck=d1:=hm.drawn;have eo:=hm.os;subst eg;subst ed;subst eo;rfl),λb o e=>?_,ao,ju a8⟩
  have a9:=uw (pb e);refine hm.heap b o (λba=>?_) (k2 b o a9 (kp b o (gx _ e)));rcases tf.mp ba with z|z
  .exact a9 z
  .have cl:=J9.mp z;rw[cl]at e;have br:=hI;rw[a6]at br;exact absurd (wh (pb e) (LU br)) (Ks _)
 have done:∀r s',(∃h' tk J c',r=.ok (.ret (.ref s.heap.objs.size))/\s'={ s with heap:=h',toks:=tk,drawn:=d1 }/\(∀b o,s.heap.get? b=some o->h'.get? b=some o) /\
     h'.get? s.heap.objs.size=some { cls:=.type "list",dict:=none,data:=.seq J c',slots:=#[] }/\IntsAre J.toList D) ->
   wants (λv s'=>wpAny (model P w) A (match v with
    |Value.ref a=>do
     match (<- load a).data with
      |Data.seq xs _=>pure xs.toList
      | _=>unsupported "internal:collect"
    | _=>unsupported "internal:collect") R E s') E r s':=by
  rintro r s' ⟨h',tk,J,c',rfl,rfl,k',ao,hi⟩;show wpAny _ A (load s.heap.objs.size >>= _) _ _ _;refine ez (wpAny_load ao ?_);exact gf (h h' tk d1 J.toList D k' Y hi)
 have aO:=kp _ _ b2;refine Kf (λ_=>?_) (λ_=>gf ⟨MA PySem.F.plain_extend_loop _,LY (fin h1 0 st (λ_ _ _ e=>e) aO) done⟩);refine ez (Lx ?_);refine ez ?_;show wpAny _ _ (updateSeq s.heap.objs.size (·.push .none) >>= λ_=>updateSeq s.heap.objs.size (·.pop)) _ _ _;refine ez (MN aO rfl ?_);have Z:=Kv (Obj.mapSeq (·.push Value.none)) aO rfl;refine MN (hz:=by seq_fits) Z rfl ?_;have cr:=Kv (Obj.mapSeq (·.pop)) Z rfl;refine gf ⟨MA PySem.F.plain_extend_loop _,LY (fin _ _ ?_ (λb o hb e=>?_) cr) done⟩
 .refine W.frame 0 _ _ st λb hb o e=>?_
  have b0:b≠s.heap.objs.size:=λz=>a7 (z▸hb)
  exact(KP _ _ (LG b0)).trans ((KP _ _ (LG b0)).trans e)
 .exact(KP _ _ (LG hb)).trans ((KP _ _ (LG hb)).trans e)
end
end L2.St
namespace L2
open PySem PySem.Spec PyProof.Rows List Option
noncomputable def l8(scope osc:Scope):Scope:=
 { scope with names:=scope.names.map λ(n,k)=>if (k==.free&&osc.kind==.function&&osc.names.lookup n==some .cell)then(n,.cell)else(n,k) }
noncomputable def oP(osc:Scope)(n:Str)(k:NameKind):NameKind:=if (k==.free&&osc.kind==.function&&osc.names.lookup n==some .cell)then .cell else k
def jH(scope osc):(l8 scope osc).names=scope.names.map λq=>(q.1,oP osc q.1 q.2):=by
 refine Lj λq _=>?_
 obtain⟨n,k⟩:=q;show(if _=true then _ else _)=(n,oP osc n k);unfold oP;split<;>rfl
theorem fQ{α z:Type}(g:Str->α->z)(y):∀names:List (Str×α),(names.map λq=>(q.1,g q.1 q.2)).lookup y=(names.lookup y).map (g y)
 | []=>rfl
 | (n,k)::r=>by
  cases hx:y==n with
  |true =>
   simp[lookup_cons,hx,map_some];rw[eq_of_beq hx]
  |false =>
   simp[lookup_cons,hx];exact fQ g y r
def wI(osc)(n):oP osc n .free=.cell\/oP osc n .free=.free:=by
 unfold oP;split
 .exact .inl rfl
 .exact .inr rfl
def wJ(z:k≠.cell)(h:oP osc n k=.cell\/oP osc n k=.free):k=.free:=by
 unfold oP at h;by_cases hc:(k==NameKind.free&&osc.kind==.function&&osc.names.lookup n==some .cell)=true
 .simp_all
 .simp_all
theorem jI{α:Type}{k:α}:∀{l:List (Str×α)},l.lookup y=some k->(y,k)∈l
 | [],h=>by simp at h
 | (n,z)::r,h=>by
  cases hx:y==n with
  |true =>
   simp only[lookup_cons,hx]at h;rw[eq_of_beq hx,JZ h];exact .head _
  |false =>
   simp[lookup_cons,hx]at h;exact .tail _ (jI h)
def wK(h:scope.names.lookup y=some .free):(l8 scope osc).names.lookup y=some .cell\/(l8 scope osc).names.lookup y=some .free:=by
 rw[jH,fQ,h,map_some];rcases wI osc y with e|e
 .exact .inl (by rw[e])
 .exact .inr (by rw[e])
def wL(J:∀z∈scope.names,z.2=.cell->z.1=x)(h:(l8 scope osc).names.lookup y=some .cell\/(l8 scope osc).names.lookup y=some .free):(y,NameKind.free)∈scope.names\/(y=x/\scope.names.lookup x=some .cell):=by
 rw[jH,fQ]at h;cases e:scope.names.lookup y with
 |none=>rw[e]at h;rcases h with h|h<;>cases h
 |some k =>
  rw[e,map_some]at h;have D:=jI e;by_cases hc:k=.cell
  .subst hc;have q:=J _ D rfl;exact .inr ⟨q,by rw[<- q];exact e⟩
  .have U:=wJ hc (h.elim (λz=>.inl (JZ z)) λz=>.inr (JZ z));rw[U]at D;exact .inl D
def wM(h:scope.names.lookup y=some .cell):(l8 scope osc).names.lookup y=some .cell:=by
 rw[jH,fQ,h,map_some];unfold oP;split
 .rfl
 .rfl
noncomputable def gq(env:Env):List (Str×NameKind)->List (Str×Addr)->List (Str×Addr)
 | [],acc=>acc
 | (n,k)::r,acc=>if k==.free then gq env r ((n,(env.cells.lookup n).getD 0)::acc)else gq env r acc
theorem k7 :∀names z,(∀y∈names,y.2=.free->∃c,env.cells.lookup y.1=some c) ->
  (forIn names z λx r=>(match x with|(name,kind)=>if (kind==NameKind.free)=true then do let c <- cellOf env name;pure (ForInStep.yield ((name,c)::r))else pure (ForInStep.yield r)):Sem (List (Str×Addr)))=pure (gq env names z)
 | [],z,_=>rfl
 | (n,k)::r,z,h=>by
  rw[forIn_cons];have J:∀y∈r,y.2=.free->∃c,env.cells.lookup y.1=some c:=λy U=>h y (.tail _ U)
  by_cases D:(k==NameKind.free)=true
  .obtain⟨c,hc⟩:=h (n,k) (.head _) (eq_of_beq D);dsimp only;rw[if_pos D];have Y:cellOf env n=pure c:=by unfold cellOf;rw[hc]
   rw[Y];simp only[pure_bind];rw[k7 r _ J];show _=pure (if _=true then _ else _);rw[if_pos D,hc]
   all_goals rfl
  .dsimp only;rw[if_neg D];simp only[pure_bind];rw[k7 r _ J];show _=pure (if _=true then _ else _);rw[if_neg D]
def m_(h:∀y∈scope.names,y.2=.free->∃c,env.cells.lookup y.1=some c):closureFor scope env=pure (gq env scope.names []):=by
 unfold closureFor;have:=k7 scope.names [] h
 first
  | exact this
  | (rw[bind_pure];exact this)
  | simpa using this
theorem nc :∀names D,(∀z∈names,z.2=.free->∃c,env.cells.lookup z.1=some c)->(∀c,D.lookup y=some c->env.cells.lookup y=some c) ->
  (gq env names D).lookup y=some c->env.cells.lookup y=some c
 | [],D,_,J,e=>J c e
 | (n,k)::r,D,h,J,e=>by
  have Z:∀y∈r,y.2=.free->∃c,env.cells.lookup y.1=some c:=λy hy=>h y (.tail _ hy)
  have U:(if (k==NameKind.free)=true then gq env r ((n,(env.cells.lookup n).getD 0)::D)else gq env r D).lookup y=some c:=e;by_cases Y:(k==NameKind.free)=true
  .rw[if_pos Y]at U;refine nc r _ Z (λc' q=>?_) U;cases hx:y==n with
   |true =>
    obtain⟨c0,a0⟩:=h (n,k) (.head _) (eq_of_beq Y)
    simp_all
   |false =>
    simp[lookup_cons,hx]at q;exact J c' q
  .rw[if_neg Y]at U;exact nc r _ Z J U
theorem j9 :∀names D,((y,NameKind.free)∈names\/∃c,D.lookup y=some c)->∃c,(gq env names D).lookup y=some c
 | [],D,h=>by
  rcases h with h|h
  .simp at h
  .exact h
 | (n,k)::r,D,h=>by
  show ∃c,(if (k==NameKind.free)=true then gq env r ((n,(env.cells.lookup n).getD 0)::D)else gq env r D).lookup y=some c;by_cases J:(k==NameKind.free)=true
  .rw[if_pos J];refine j9 r _ ?_;cases hx:y==n with
   |true=>exact .inr ⟨(env.cells.lookup n).getD 0,by simp[lookup_cons,hx]⟩
   |false =>
    rcases h with h|⟨c,h⟩
    .simp_all
    .exact .inr ⟨c,by simp[lookup_cons,hx];exact h⟩
  .rw[if_neg J];refine j9 r _ ?_;rcases h with h|h
   .rcases tf.mp h with z|z
    .have:=(Prod.mk.inj z).2
     simp_all
    .exact .inl z
   .exact .inr h
structure k8(osc:Scope)(N:List Str)(scope:Scope)(x:Str)(fvs:List Str)(js:List Nat):Prop where
 cells:∀y∈scope.names,y.2=.cell->y.1=x
 once:scope.names.lookup x=some .local/\(scope.names.filter λy=>y.2==.cell)=[]\/scope.names.lookup x=some .cell/\(scope.names.filter λy=>y.2==.cell)=[(x,.cell)]
 xf:∀y∈scope.names,y.2=.free->y.1≠x
 kind:scope.kind=.function
 names:∀y∈scope.names,y.2=.local->scope.names.lookup y.1=some .local
 nd:(x::fvs).Nodup
 out:∀y∈scope.names,y.2=.free->osc.names.lookup y.1=some .cell\/osc.names.lookup y.1=some .free
 slots:(js.map λj=>N[j]?)=fvs.map some
 free:∀y∈fvs,scope.names.lookup y=some .free
structure ve(osc:Scope)(N:List Str)(scope:Scope)(x:Str)(ys fvs:List Str)(js:List Nat):Prop where
 cells:∀y∈scope.names,y.2=.cell->y.1=x
 once:scope.names.lookup x=some .local/\(scope.names.filter λy=>y.2==.cell)=[]\/scope.names.lookup x=some .cell/\(scope.names.filter λy=>y.2==.cell)=[(x,.cell)]
 xf:∀y∈scope.names,y.2=.free->y.1≠x
 kind:scope.kind=.function
 names:∀y∈scope.names,y.2=.local->scope.names.lookup y.1=some .local
 nd:(x::(ys++fvs)).Nodup
 out:∀y∈scope.names,y.2=.free->osc.names.lookup y.1=some .cell\/osc.names.lookup y.1=some .free
 slots:(js.map λj=>N[j]?)=fvs.map some
 free:∀y∈fvs,scope.names.lookup y=some .free
theorem k8.g(h:k8 osc N scope x fvs js):ve osc N scope x [] fvs js:=⟨h.cells,h.once,h.xf,h.kind,h.names,h.nd,h.out,h.slots,h.free⟩
noncomputable def k9(scope:Scope)(x:Str)(C:Addr):List (Str×Addr):=if scope.names.lookup x=some .cell then [(x,C+1)]else []
noncomputable def Cx.blk(X:Cx)(x:Str)(fvs:List Str)(scope:Scope)(z:Shared)(D:Hp)(C:Addr)(fp:List Addr):Cx:=
 { X with N:=x::fvs,s₀:=z,H₀:=D,env:=compEnvC scope (k9 scope x C++gq X.env scope.names []) C X.env,outer:=X.stack,ex:=fp,fn:=λy=>decide (y=x/\scope.names.lookup x=some .cell),pn:=[],xe:=λ_ _=>False }
theorem ng :∀{names:List (Str×NameKind)}{z}{s}{Q},(names.filter λy=>y.2==.cell)=[]->Q z s ->
  wpAny M A (forIn names z λx r=>(match x with|(name,kind)=>if (kind==NameKind.cell)=true then do let c <- alloc { cls:=.type "cell",data:=.cell none };pure (ForInStep.yield ((name,c)::r))else pure (ForInStep.yield r)):Sem (List (Str×Addr))) Q E s
 | [],_,_,_,_,h=>gf h
 | (n,k)::r,z,s,Q,hf,h=>by
  rw[forIn_cons];have D:(k==NameKind.cell)=false:=by
   simp_all
  rw[LM (by rw[D];decide)]at hf;dsimp only;rw[if_neg (by rw[D];decide)];exact ez (gf (ng hf h))
theorem o_{x:Str}:∀{names:List (Str×NameKind)}{z}{s}{Q},(names.filter λy=>y.2==.cell)=[(x,.cell)] ->
  Q ((x,s.heap.objs.size)::z) { s with heap:=s.heap.push { cls:=.type "cell",data:=.cell none } } ->
  wpAny M A (forIn names z λx r=>(match x with|(name,kind)=>if (kind==NameKind.cell)=true then do let c <- alloc { cls:=.type "cell",data:=.cell none };pure (ForInStep.yield ((name,c)::r))else pure (ForInStep.yield r)):Sem (List (Str×Addr))) Q E s
 | [],_,_,_,hf,_=>by cases hf
 | (n,k)::r,z,s,Q,hf,h=>by
  rw[forIn_cons];dsimp only;cases D:(k==NameKind.cell)with
  |false =>
   rw[LM (by rw[D];decide)]at hf;exact ez (gf (o_ hf h))
  |true =>
   rw[filter_cons_of_pos (by exact D)]at hf;obtain⟨J,U⟩:=List.cons.inj hf;cases J;exact ez (ez (wpAny_alloc (gf (ng U h))))
def tV{scope:Scope}{x:Str}{globals:Addr}{Y:List (Str×Addr)}{qual:Str}{env:Env}{s:Shared}{Q:Env->Shared->Prop}(Z:scope.kind=.function)
  (ho:scope.names.lookup x=some .local/\(scope.names.filter λy=>y.2==.cell)=[]\/scope.names.lookup x=some .cell/\(scope.names.filter λy=>y.2==.cell)=[(x,.cell)])
  (h:∀h' m,h'.Ns s.heap.objs.size m->(∀b u,s.heap.get? b=some u->h'.get? b=some u)->(scope.names.lookup x=some .cell->h'.IsCell (s.heap.objs.size+1) none)->Q (newEnv scope s.heap.objs.size globals (k9 scope x s.heap.objs.size++Y) qual none .none (some env) builtinsNs) { s with heap:=h' }) :
  wpAny M A (newFunctionEnv scope globals Y [] qual none .none (some env)) Q E s:=by
 rcases ho with⟨h1,h2⟩|⟨h1,h2⟩
 .refine wpAny_newFunctionEnv (λy D z=>?_) (by intro y D;simp at D) (λh' J U=>?_) Z
  .have:y∈scope.names.filter λy=>y.2==.cell:=J2.mpr ⟨D,by rw[z];rfl⟩
   rw[h2]at this;cases this
  .have q:=h h' _ J (λb u e=>U.extBut b u (uw (pb e)) (gx _ e)) λz=>by rw[h1]at z;cases z
   unfold k9 at q
   simp_all
 .unfold newFunctionEnv;refine ez (wpAny_alloc (ez (o_ h2 ?_)));have hn:=Heap.Ns.new s.heap (.type "dict");have hs:(s.heap.push { cls:=.type "dict",data:=.dict #[] }).objs.size=s.heap.objs.size+1:=Kg _ _;have q:=h ((s.heap.push { cls:=.type "dict",data:=.dict #[] }).push { cls:=.type "cell",data:=.cell none }) _ (hn.keeps λb o e=>gx _ e) (λb u e=>gx _ (gx _ e)) λ_=>⟨_,by rw[<- hs];exact pe _ rfl,rfl⟩
  unfold k9 at q;rw[if_pos h1]at q;rw[<- hs]at q;exact ez (gf (gf q))
noncomputable def fM(js:List Nat)(σ:St):St:=none::js.map λj=>(σ[j]?).join
noncomputable def wN(n:Nat)(js:List Nat)(σ:St):St:=none::(replicate n none++js.map λj=>(σ[j]?).join)
def PF(X:Cx)(ifs:List Expr)(t:TT):Prop:=
 ∀pins s (σ:St) H Q,Inv X pins σ H s->t σ H Q ->
  wpAny (model X.prog X.w) X.A (forIn ifs true λc r=>if r=true then do let ok <- isTrue c X.env (eval c X.env);pure (ForInStep.yield ok)else pure (ForInStep.yield r)) (TP X pins σ Q) X.xe s
noncomputable def Jx:TT:=λ_ H Q=>Q true H
def Eb :PF X [] Jx:=λ_ _ _ H _ I h=>wpAny_tests_nil ⟨H,I,h⟩
def Ec(h:PT X c t):PF X [c] t:=λpins s σ H Q I q=>wpAny_tests_one (h pins s σ H Q I q)
section
variable{prog:Program}{w:World}{A:Around}{R:Result->Shared->Prop}{s:Shared}
def wO{elt target iter:Expr}{ifs:List Expr}{scope:Scope}{pos:Pos}{it D:Value}{env:Env}(J:Nat->Shared->Prop)
  (turn:∀n s,J n s->wpAny (model prog w) A (pyNext it) (λr Y=>match r with
   |none=>R (.ok .next) Y
   |some v=>wpAny (model prog w) A (letOwnedTupleGo target it v) (λ_ s2=>wpAny (model prog w) A (assign target env v) (λ_ s3 =>
     wpAny (model prog w) A (forIn ifs true λc r=>if r=true then do let ok <- isTrue c env (eval c env);pure (ForInStep.yield ok)else pure (ForInStep.yield r)) (λok Z =>
      if ok=true then wpAny (model prog w) A (eval elt env) (λx s5 =>
       wpAny (model prog w) A (call (.builtin "list.append") [D,x]) (λ_ s6=>∃m,m<n/\J m s6) (λ_ _=>False) s5) (λ_ _=>False) Z
      else ∃m,m<n/\J m Z) (λ_ _=>False) s3) (λ_ _=>False) s2) (λ_ _=>False) Y) (λ_ _=>False) s)
  (n) (h:J n s):codeAny (model prog w) A (.compLoop (.ListComp elt [⟨target,iter,ifs,0⟩] scope pos) 0 it D env) R s:=by
 have U:∀{α}{t}{Q:α->Shared->Prop}{E}{s},wpAny (model prog w) A t Q (λ_ _=>False) s->wpAny (model prog w) A t Q E s:=λq=>Kq q (λ_ _ z=>z) λ_ _ z=>z.elim
 refine codeAny_loop rfl J (λn s hJ=>?_) n h;show wpAny _ A ((compTurn (.ListComp elt [⟨target,iter,ifs,0⟩] scope pos) 0 it D env).onRaise (λx=>do noteFrame x env;theTreesLotGoes x)) _ _ s;refine wpAny_noted ?_;rw[compTurn_list];refine ez (wpAny_standAt (ez (Kq (U (turn n s hJ)) (λr Y h1=>?_) λ_ _ z=>z)));cases r with
 |none=>exact gf h1
 |some v =>
  refine ez (Kq (U h1) (λ_ s2 h2=>?_) λ_ _ z=>z);refine ez (Kq (U h2) (λ_ s3 h3=>ez (Kq (U h3) (λok Z h4=>?_) λ_ _ z=>z)) λ_ _ z=>z);cases ok<;>first|exact gf ⟨rfl,h4⟩|exact ez (ez (Kq (U h4) (λx s5 h5=>ez (Kq (U h5) (λ_ s6 h6=>gf (gf ⟨rfl,h6⟩)) λ_ _ z=>z)) λ_ _ z=>z))
end
def rN(J:It)(U:St)(H1:Hp)(tt:TT)(te:TE)(D:Addr)(Q:VK):Prop:=
 ∃W:Nat->Nat->St->Hp->Prop,(∃m,W 0 m U (upd H1 D (.lst [])))/\∀i m F H',W i m F H' ->
  (J.stop i H'/\Q (.ref D) H')\/(J.go i H'/\∃N:St->Hp->Prop,(∀z H2,N z H2->∃Y,Y<m/\W (i+1) Y z H2)/\∀x H2,J.yld i H' x H2 ->
   tt (F.set 0 (some x)) H2 λb Z=>if b=true then te (F.set 0 (some x)) Z λy H4=>∃ys,H4 D=some (.lst ys)/\ys.length<sizeLine/\N (F.set 0 (some x)) (upd H4 D (.lst (ys++[y])))else N (F.set 0 (some x)) Z)
def yA(J:It)(g:TG)(Y:St)(H1:Hp)(tt:TT)(te:TE)(D:Addr)(Q:VK):Prop:=
 ∃W:Nat->Nat->St->Hp->Prop,(∃m,W 0 m Y (upd H1 D (.lst [])))/\∀i m F H',W i m F H' ->
  (J.stop i H'/\Q (.ref D) H')\/(J.go i H'/\∃N:St->Hp->Prop,(∀U H2,N U H2->∃Z,Z<m/\W (i+1) Z U H2)/\∀x H2,J.yld i H' x H2 ->
   g x F H2 λz H3=>tt z H3 λb H4=>if b=true then te z H4 λy H5=>∃ys,H5 D=some (.lst ys)/\ys.length<sizeLine/\N z (upd H5 D (.lst (ys++[y])))else N z H4)
theorem rN.g(h:rN J z H1 tt te D Q):yA J (jp 0) z H1 tt te D Q:=h
noncomputable def yB(wi:TI)(js:List Nat)(tt:TT)(te:TE):TE:=λσ H Q=>wi σ H λJ H1=>∀D,H1 D=none->rN J (fM js σ) H1 tt te D Q
section
variable{X:Cx}{elt iter:Expr}{x:Str}{px:Pos}{ifs:List Expr}{scope:Scope}{pos:Pos}{fvs:List Str}{js:List Nat}{wi:TI}{tt:TT}{te:TE}
def tY{ys:List Str}(Z:ve X.env.scope X.N scope x ys fvs js)(hc:X.calm=true)(hg:∀a0 a3 C fp,PG (X.blk x (ys++fvs) scope a0 a3 C fp) tg g)
  (ht:∀a0 a3 C fp,PF (X.blk x (ys++fvs) scope a0 a3 C fp) ifs tt) (he:∀a0 a3 C fp,PE (X.blk x (ys++fvs) scope a0 a3 C fp) elt te)
  {pins:List (Addr×Obj)}{σ:St}{H2:Hp}{U:Shared}{Q:VK}{it:Addr}{fp:List Addr}{tn:Nat->Heap->Prop}{J:It}{RR:Value->Addr->Result->Shared->Prop}
  (I2:Inv X pins σ H2 U) (T:tu X.prog X.w X.K tg J fp it tn) (dr:tn 0 U.heap) (f2:∀b∈fp,kR X pins H2 b)
  (hh:∀D,H2 D=none->yA J g (wN ys.length js σ) H2 tt te D Q)
  (fin:∀D C H' s',Inv X pins σ H' s'->(∃m,s'.heap.Ns C m)->H' C=none->C≠X.env.locals->X.s₀.heap.objs.size<=C->(∀y c,X.env.cells.lookup y=some c->c≠C)->(∀p∈X.pn++pins,p.1≠C)->Q (.ref D) H' ->
   RR (.ref D) C (.ok .next) s') {E:Value->Shared->Prop} :
  wpAny (model X.prog X.w) X.A (newList []) (λacc s3=>wpAny (model X.prog X.w) X.A (newFunctionEnv scope X.env.globals (gq X.env scope.names []) [] X.env.qual none .none (some X.env)) (λcl s4 =>
   codeAny (model X.prog X.w) X.A (.compStart (.ListComp elt [⟨tg,iter,ifs,0⟩] scope pos) 0 (.ref it) acc { cl with scope:=relabel scope X.env }) (RR acc cl.locals) s4) E s3) E U:=by
 have fr:∀y∈scope.names,y.2=.free->∃c,X.env.cells.lookup y.1=some c:=λy hy hk=>I2.ok.has y.1 (Z.out y hy hk)
 have sub:∀y c,(gq X.env scope.names []).lookup y=some c->X.env.cells.lookup y=some c:=λy c e=>nc scope.names [] fr (λ_ q=>by simp at q) e
 refine Kx (tV (x:=x) Z.kind Z.once λh1 m1 a6 a7 a8=>?_);dsimp only at a6 a7 a8 ⊢;have Y:Inv X pins σ (upd H2 U.heap.objs.size (.lst [])) { U with heap:=U.heap.push { cls:=.type "list",data:=.seq ([]:List Value).toArray },toks:=U.toks }:=I2.lnew (ys:=[]) (its:=[]) .nil (Ke _);generalize hG:U.heap.push { cls:=.type "list",dict:=none,data:=.seq ([]:List Value).toArray }=G at a6 a7 a8 Y ⊢;have hC:G.objs.size=U.heap.objs.size+1:=by rw[<- hG,Kg]
 obtain⟨W,⟨m0,w0⟩,turn⟩:=hh U.heap.objs.size I2.fresh;have up:=a7;have aO:∀{y}{c},(k9 scope x G.objs.size++gq X.env scope.names []).lookup y=some c->(y=x/\scope.names.lookup x=some .cell/\c=G.objs.size+1)\/(gq X.env scope.names []).lookup y=some c:=λ{y c} e=>by
  unfold k9 at e;by_cases q:scope.names.lookup x=some .cell
  .rw[if_pos q]at e;by_cases z:(y==x)=true
   .rw[cons_append,lookup_cons,z]at e;exact .inl ⟨eq_of_beq z,q,(JZ e).symm⟩
   .rw[cons_append,lookup_cons,(Nn _).mp z]at e;exact .inr e
  .rw[if_neg q]at e;exact .inr e
 have gn:∀{H'}{s'},Inv X pins σ H' s'->True:=λ_=>trivial
 have nC:=Y.hok.fresh (lC _);have cL:=KY Y.lt;have cS:=Y.sz;have cC:∀y c,X.env.cells.lookup y=some c->c≠G.objs.size:=λy c e z=>by
  obtain⟨v,q⟩:=Y.cell y c e;exact absurd (show c<G.objs.size from q.lt) (by rw[z];exact Ks _)
 have cP:∀p∈X.pn++pins,p.1≠G.objs.size:=λp hp z=>absurd (show p.1<G.objs.size from pb (Y.pin p hp).1) (by rw[z];exact Ks _)
 have c0:∀b∈fp,b<U.heap.objs.size:=λb hb=>by
  obtain⟨o,e,_⟩:=T.obj 0 _ dr b hb;exact pb e
 have ok:(X.blk x (ys++fvs) scope { U with heap:=G,toks:=U.toks } (upd H2 U.heap.objs.size (.lst [])) G.objs.size fp).Ok:=by
  have hb:∀b∈fp,b∉frs X.stack:=λb hb z=>(tf.mp (I2.stkSub b z)).elim (f2 b hb).2.1 (f2 b hb).2.2.1
  exact {
   mod:=Y.ok.mod
   kind:=by show(relabel scope X.env).kind=_;exact Z.kind
   glob:=Y.ok.glob
   blt:=Y.ok.blt
   above:=lC _
   inj:=λy z c e1 e2=>by
    have lt:∀{y},(gq X.env scope.names []).lookup y=some c->c<G.objs.size:=λ{y} e=>by
     obtain⟨v,q⟩:=Y.cell y c (sub y c e);exact q.lt
    rcases aO e1 with⟨a1,_,a2⟩|a1
    .rcases aO e2 with⟨b1,_,_⟩|b1
     .rw[a1,b1]
     .exact absurd (lt b1) (by rw[a2];exact KS.mpr (Lm _))
    .rcases aO e2 with⟨_,_,b2⟩|b1
     .exact absurd (lt a1) (by rw[b2];exact KS.mpr (Lm _))
     .exact Y.ok.inj y z c (sub y c a1) (sub z c b1)
   has:=λy hy=>by
    show ∃c,(k9 scope x G.objs.size++gq X.env scope.names []).lookup y=some c;unfold k9;rcases wL Z.cells hy with hm|⟨e,q⟩
    .obtain⟨c,ec⟩:=j9 (env:=X.env) scope.names [] (.inl hm);by_cases q:scope.names.lookup x=some .cell
     .have z:=Lh.mpr (Z.xf _ hm rfl);exact⟨c,by rw[if_pos q,cons_append,lookup_cons,z];exact ec⟩
     .exact⟨c,by rw[if_neg q];exact ec⟩
    .subst e;exact⟨G.objs.size+1,by rw[if_pos q,cons_append,lookup_cons,LB]⟩
   cab:=λy c h e=>by
    obtain⟨h1,h2⟩:=Kh h;have e':(k9 scope x G.objs.size++gq X.env scope.names []).lookup y=some c:=e;unfold k9 at e';rw[if_pos h2,h1,cons_append,lookup_cons,LB]at e';rw[<- JZ e'];exact Lm _
   hd:=Y.ok.hd
   frames:=Y.ok.frames
   stk:=.inl rfl
   exf:=λb a9=>⟨uw (show b<G.objs.size from wh (c0 b a9) (by rw[hC];exact Lm _)),λy c e=>by
    rcases aO e with⟨_,_,a⟩|a
    .rw[a,hC];exact KY (wh (c0 b a9) (r4 (Lm _) (Lm _)))
    .exact(f2 b a9).2.2.2.2.1 y c (sub y c a)⟩
   bs:=Y.bs
   bsz:=r4 Y.ok.bsz Y.sz
   noex:=λb o e a9=>by
    have q:=(f2 b a9).2.2.2.1;rcases q with q|q
    .exact Y.ok.noex b o e q
    .exact absurd (wh (pb e) (r4 Y.ok.bsz q)) (Ks _)
   exfs:=hb
   funs:=Y.stack
   frf:=Y.stkFree }
 have d3:(wN ys.length js σ).length=(x::(ys++fvs)).length:=by
  have e:=Kj List.length Z.slots;simp only[nA]at e;simp[wN,e]
 have I4:Inv (X.blk x (ys++fvs) scope { U with heap:=G,toks:=U.toks } (upd H2 U.heap.objs.size (.lst [])) G.objs.size fp) [] (wN ys.length js σ) (upd H2 U.heap.objs.size (.lst [])) { U with heap:=h1,toks:=U.toks }:=by
  refine⟨ok,rfl,Y.bare,Un.kept up,⟨_,a6,λi y v e1 e2 e3=>?_⟩,λy c e=>?_,nC,λy c e=>(aO e).elim (λ⟨_,_,a⟩=>by rw[a];exact Y.hok.fresh (Lm _)) λa=>Y.freeC y c (sub y c a),λp hp=>by simp[Cx.blk]at hp,Y.hok.kept up,d3⟩
  .cases i with
   |zero=>simp[wN]at e2
   |succ i0 =>
    have c1:(ys++fvs)[i0]?=some y:=e1;have ba:(replicate ys.length none++js.map λj=>(σ[j]?).join)[i0]?=some (some v):=by simpa[wN]using e2
    by_cases b4:i0<ys.length
    .rw[K5 (by simpa using b4),Mk,if_pos b4]at ba;cases ba
    rw[Lr (by simpa using Nat.le_of_not_lt b4),length_replicate]at ba;rw[Lr (Nat.le_of_not_lt b4)]at c1;generalize i0-ys.length=i at c1 ba;have d4:=c1;have hm:=Lc d4;have d5:=Z.free y hm;have c2:=jI d5;have br:=ba;rw[Ka]at br;cases ej:js[i]? with
    |none=>rw[ej]at br;cases br
    |some j =>
     rw[ej]at br;have b5:(σ[j]?).join=some v:=JZ br;have e4:σ[j]?=some (some v):=by
      cases q:σ[j]? with
      |none=>rw[q]at b5;cases b5
      |some z=>rw[q]at b5;exact Kj some b5
     have e5:X.N[j]?=some y:=by
      have q:=Kj (λl=>l[i]?) Z.slots;simp only[Ka,ej,d4,map_some]at q;exact JZ q
     obtain⟨m,hn,hl⟩:=Y.loc;have cr:=Z.out (y,.free) c2 rfl;obtain⟨u,ru,lk⟩:=hl j y v e5 e4 (.inr cr);refine⟨u,ru,.inr ⟨?_,?_⟩⟩
     .show(relabel scope X.env).names.lookup y=_\/(relabel scope X.env).names.lookup y=_;exact wK (osc:=X.env.scope) d5
     .obtain⟨c,ec⟩:=j9 (env:=X.env) scope.names [] (.inl c2);have nx:=Lh.mpr (Z.xf _ c2 rfl);refine⟨c,?_,?_⟩
      .show(k9 scope x G.objs.size++gq X.env scope.names []).lookup y=some c;unfold k9;split
       .rw[cons_append,lookup_cons,nx];exact ec
       .exact ec
      rcases lk with⟨z,_⟩|⟨_,c',eB,q⟩
      .have z':X.env.scope.names.lookup y=some .local:=z;rcases cr with w|w
       .rw[show X.env.scope.names.lookup y=some .cell from w]at z';cases z'
       .rw[show X.env.scope.names.lookup y=some .free from w]at z';cases z'
      .have:=sub y c ec;rw[eB]at this;cases this;obtain⟨o,ho,hd⟩:=q;exact⟨o,up _ _ ho,hd⟩
  .rcases aO e with⟨_,q,a⟩|a
   .exact⟨none,by rw[a];exact a8 q⟩
   .obtain⟨v,o,ho,hd⟩:=Y.cell y c (sub y c a);exact⟨v,o,up _ _ ho,hd⟩
 have ea:=T.keep 0 _ _ dr λb hb o e=>up b o (by rw[<- hG];exact gx _ e)
 have eD:∀b∈fp,(upd H2 U.heap.objs.size (.lst [])) b=none:=λb hb=>by
  rw[aZ (uw (c0 b hb))];exact(f2 b hb).1
 have b0:∀{H'},(∀b∈fp,H' b=none)->∀b∈fp,kR (X.blk x (ys++fvs) scope { U with heap:=G,toks:=U.toks } (upd H2 U.heap.objs.size (.lst [])) G.objs.size fp) [] H' b:=λhn b hb =>
  ⟨hn b hb,(ok.exf b hb).1,ok.exfs b hb,.inl hb,(ok.exf b hb).2,λp hp=>by simp[Cx.blk]at hp⟩
 have eH:∀b∈fp,(b∈X.ex\/X.s₀.heap.objs.size<=b)/\b≠X.env.locals/\(∀x c,X.env.cells.lookup x=some c->c≠b)/\∀p∈X.pn++pins,p.1≠b:=λb hb =>
  let ⟨_,q1,_,q2,q3,q4⟩:=f2 b hb;⟨q2,q1,q3,q4⟩
 have cu:∀s5,s5={ U with heap:=h1,toks:=U.toks } ->
   codeAny (model X.prog X.w) X.A (.compLoop (.ListComp elt [⟨tg,iter,ifs,0⟩] scope pos) 0 (.ref it) (.ref U.heap.objs.size) (compEnvC scope (k9 scope x G.objs.size++gq X.env scope.names []) G.objs.size X.env)) (RR (.ref U.heap.objs.size) G.objs.size) s5:=by
  rintro s5 rfl;refine wO (λn s'=>∃i F H',Inv (X.blk x (ys++fvs) scope { U with heap:=G,toks:=U.toks } (upd H2 U.heap.objs.size (.lst [])) G.objs.size fp) [] F H' s'/\tn i s'.heap/\(∀b∈fp,H' b=none)/\W i n F H') ?_ m0 ⟨0,_,_,I4,ea,eD,w0⟩;rintro n s6 ⟨i,cd,H6,I6,eb,ed,w6⟩;rcases turn i n cd H6 w6 with⟨stop,qn⟩|⟨go,N,hN,step⟩
  .refine thn (T.done (X.blk x (ys++fvs) scope { U with heap:=G,toks:=U.toks } (upd H2 U.heap.objs.size (.lst [])) G.objs.size fp) rfl rfl rfl hc i [] s6 cd H6 _ I6 (b0 ed) eb stop) λr s7 ⟨hr,I7⟩=>?_
   subst hr;have I8:=Y.call' (ch:=fp) I7.os I7.base I7.hok I7.bare eH;obtain⟨m,hn,_⟩:=I7.loc;exact fin _ _ H6 s7 I8 ⟨m,hn⟩ I7.free cL cS cC cP qn
  .refine thn (T.item (X.blk x (ys++fvs) scope { U with heap:=G,toks:=U.toks } (upd H2 U.heap.objs.size (.lst [])) G.objs.size fp) rfl rfl rfl hc i [] s6 cd H6 _ I6 (b0 ed) eb go) λr s7 ⟨u,hr,h7⟩=>?_
   subst hr;refine thn h7 λ_ s8 ⟨x8,H8,I8,r8,y8,c3,eS⟩=>?_
   have e0:=I8.pinned (b0 eS) (T.obj _ _ c3);refine thn (hg _ _ _ _ _ s8 cd H8 x8 u _ e0 r8 (step x8 H8 y8)) λ_ s9 ⟨c4,H9,I9,q9⟩=>?_
   refine thn (ht _ _ _ _ _ s9 _ H9 _ I9 q9) λe6 e7 ⟨e8,ee,ck⟩=>?_
   have again:∀{a5}{a4},Inv (X.blk x (ys++fvs) scope { U with heap:=G,toks:=U.toks } (upd H2 U.heap.objs.size (.lst [])) G.objs.size fp) ([]++mM fp s8.heap) c4 a4 a5->N c4 a4 ->
     ∃m,m<n/\∃i F H',Inv (X.blk x (ys++fvs) scope { U with heap:=G,toks:=U.toks } (upd H2 U.heap.objs.size (.lst [])) G.objs.size fp) [] F H' a5/\tn i a5.heap/\(∀b∈fp,H' b=none)/\W i m F H':=λ{a5 a4} b3 c5=>by
    obtain⟨m',hm,e9⟩:=hN _ a4 c5;refine⟨m',hm,i+1,_,a4,b3.unpinned,T.keep _ _ _ c3 λb hb o e=>(b3.pin (b,o) (Kp _ (Kp _ (ii hb e)))).1,λb hb=>?_,e9⟩;obtain⟨o,e,d⟩:=T.obj _ _ c3 b hb;exact(b3.pin (b,o) (Kp _ (Kp _ (ii hb e)))).2.1
   cases e6 with
   |false =>
    rw[if_neg (by simp)]at ck ⊢;exact again ee ck
   |true =>
    rw[if_pos rfl]at ck ⊢;refine thn (he _ _ _ _ _ e7 _ e8 _ ee ck) λy a5 ⟨yv,a4,b3,ry,ys,fa,hl,c5⟩=>?_
    refine thn (kU _ a5 _ a4 (.ref U.heap.objs.size) [yv] (.ref U.heap.objs.size) [y] (λ_ ef=>N c4 ef) b3 rfl (.cons ry .nil) ⟨_,ys,yv,rfl,rfl,fa,hl,c5⟩) λ_ hF ⟨_,ef,fe,_,fl⟩=>again fe fl
 exact codeAny_compStart_list (cu _ rfl) (T.self _ 0 _ _ _ ea (cu _ rfl))
def pf(Y:k8 X.env.scope X.N scope x fvs js)(hc:X.calm=true)
  (ht:∀z U C fp,PF (X.blk x fvs scope z U C fp) ifs tt) (he:∀z U C fp,PE (X.blk x fvs scope z U C fp) elt te)
  {pins:List (Addr×Obj)}{σ:St}{H2:Hp}{s2:Shared}{Q:VK}{it:Addr}{fp:List Addr}{tn:Nat->Heap->Prop}{J:It}{RR:Value->Addr->Result->Shared->Prop}
  (I2:Inv X pins σ H2 s2) (T:tu X.prog X.w X.K (.Name x px) J fp it tn) (aO:tn 0 s2.heap) (f2:∀b∈fp,kR X pins H2 b)
  (hh:∀D,H2 D=none->rN J (fM js σ) H2 tt te D Q)
  (fin:∀(D C:Addr) (H':Hp) (s':Shared),Inv X pins σ H' s'->(∃m,s'.heap.Ns C m)->H' C=none->C≠X.env.locals->X.s₀.heap.objs.size<=C->(∀y c,X.env.cells.lookup y=some c->c≠C)->(∀p∈X.pn++pins,p.1≠C)->Q (.ref D) H' ->
   RR (.ref D) C (.ok .next) s') {E:Value->Shared->Prop} :
  wpAny (model X.prog X.w) X.A (newList []) (λacc s3=>wpAny (model X.prog X.w) X.A (newFunctionEnv scope X.env.globals (gq X.env scope.names []) [] X.env.qual none .none (some X.env)) (λZ s4 =>
   codeAny (model X.prog X.w) X.A (.compStart (.ListComp elt [⟨.Name x px,iter,ifs,0⟩] scope pos) 0 (.ref it) acc { Z with scope:=relabel scope X.env }) (RR acc Z.locals) s4) E s3) E s2:=
 tY (ys:=[]) Y.g hc (λz U C fp=>l_ (X:=X.blk x fvs scope z U C fp) (i:=0) (x:=x) (pos:=px) Y.nd rfl (Y.once.elim (λq=>.inl (lookup_relabel_local q.1)) λq=>.inr (wM q.1)) (Y.once.elim (λq=>.inr (lookup_relabel_local q.1)) λq=>.inl (J3 ⟨rfl,q.1⟩))) ht he I2 T aO f2 (λD hD=>(hh D hD).g) fin
def vf(Y:k8 X.env.scope X.N scope x fvs js)(hc:X.calm=true)(hi:PI X (.Name x px) iter wi)
  (ht:∀z U C fp,PF (X.blk x fvs scope z U C fp) ifs tt) (he:∀z U C fp,PE (X.blk x fvs scope z U C fp) elt te)
  (hs:∀v,foldedSetIterable iter X.env v=pure v:=by intro _;rfl):PE X (.ListComp elt [⟨.Name x px,iter,ifs,0⟩] scope pos) (yB wi js tt te):=by
 intro pins s σ H Q I h;have fr:∀y∈scope.names,y.2=.free->∃c,X.env.cells.lookup y.1=some c:=λy hy hk=>I.ok.has y.1 (Y.out y hy hk)
 rw[eval_ListComp];refine wpAny_comprehension_free rfl hs (m_ fr) Y.kind Y.names (thn (hi pins s σ H _ I h) λv s1 h1=>thn h1 λa4 s2 h2=>?_);refine aD λZq kq=>?_
 obtain⟨it,fp,tn,J,H2,e,I2,T,Z,f2,hh⟩:=h2;subst e;refine kq ?_;refine pf (RR:=λacc C=>compPost _ X.A X.xe none _ acc C) Y hc ht he I2 T Z f2 hh λD C H' s' I' hn nC cL cS cC cP q=>?_
 obtain⟨m,hn⟩:=hn;refine⟨m,hn,λh' sb=>⟨.ref D,H',?_,rfl,q⟩⟩;exact I'.turned (λb o hb e=>(sb.2 b hb).trans e) nC cL (.inr cS) cC cP
def tZ{py ao:Pos}(hN:X.N.Nodup)(a0:X.N[i]?=some y)(hy:Loc X.env.scope y)(Z:k8 X.env.scope X.N scope x fvs js)(hc:X.calm=true)(hi:PI X (.Name x px) iter wi)
  (ht:∀U Y C fp,PF (X.blk x fvs scope U Y C fp) ifs tt) (he:∀U Y C fp,PE (X.blk x fvs scope U Y C fp) elt te)
  (a2:swapsWith (.ListComp elt [⟨.Name x px,iter,ifs,0⟩] scope pos) (some (.Name y py)) ao.line X.env=pure true:=by rfl)
  (hs:∀v,foldedSetIterable iter X.env v=pure v:=by intro _;rfl) (hf:X.fn y=true\/X.env.scope.names.lookup y=some .local:=by first|exact .inl rfl|exact .inr rfl|assumption) :
  PS X (.Assign [.Name y py] (.ListComp elt [⟨.Name x px,iter,ifs,0⟩] scope pos) ao) (xQ (yB wi js tt te) (jp i)):=by
 intro pins s σ H D I h;have fr:∀y∈scope.names,y.2=.free->∃c,X.env.cells.lookup y.1=some c:=λy hy hk=>I.ok.has y.1 (Z.out y hy hk)
 rw[exec_Assign_Name_used _ _ _ _ a2];refine ez (wpAny_standAt (ez ?_));show wpAny _ X.A (do let _ <- comprehension (.ListComp elt [⟨.Name x px,iter,ifs,0⟩] scope pos) scope X.env _ (newList []) false (eval iter X.env) (some (assign (.Name y py) X.env))) _ _ s;refine ez (thn (wpAny_comprehension_free (use:=some (assign (.Name y py) X.env)) (Q:=λ_ s'=>SP X pins D .next s') rfl hs (m_ fr) Z.kind Z.names (thn (hi pins s σ H _ I h) λv s1 h1=>thn h1 λb5 s2 h2=>?_)) λ_ s' q=>?_)
 .refine aD λZq kq=>?_
  obtain⟨it,fp,tn,J,H2,e,I2,T,a3,f2,hh⟩:=h2;subst e;refine kq ?_;refine pf (RR:=λacc C=>compPost (model X.prog X.w) X.A X.xe (some (assign (.Name y py) X.env)) (λ_ s'=>SP X pins D .next s') acc C) (Q:=λv H'=>jp i v σ H' D.nx) Z hc ht he I2 T a3 f2 hh λD' C H' s' I' hn nC cL cS cC cP q=>?_
  obtain⟨m,hn⟩:=hn;show wpAny _ _ (assign (.Name y py) X.env (.ref D')) _ _ s';refine wpAny_assign_Name (oV I' hN a0 hy (v:=.ref D') rfl (λa5 a6 ⟨a,sb,ha⟩=>?_) hf);have ne:C≠a:=by
   rcases ha with z|z
   .rw[z];exact cL
   .exact λw=>cC y a z w.symm
  refine⟨m,hn.sameBut sb ne,λh' a7=>?_⟩;exact⟨_,H',a6.turned (t':=a5.toks) (λb o hb e=>(a7.2 b hb).trans e) nC cL (.inr cS) cC cP,q⟩
 .exact gf (gf q)
end
abbrev t4(K:Nx)(H:Hp):List V->List (List Int)->Prop:=Paired λx z=>∃a,x=V.ref a/\SqT K H a (z.map V.int)
theorem t4.len{K:Nx}(h:t4 K H xs z):xs.length=z.length:=Paired.length h
def az(h:H p=none)(o):aj H (upd H p o):=λb u q=>by rw[aZ (cD q h)];exact q
def aj.seqT{K:Nx}(e:aj H H')(h:SqT K H a xs):SqT K H' a xs:=by
 rcases h with(h|⟨o,h⟩)|h
 .exact .inl (.inl (e _ _ h))
 .exact .inl (.inr ⟨o,e _ _ h⟩)
 .exact .inr h
section
variable{X:Cx}{pins:List (Addr×Obj)}{σ:St}{H:Hp}{s:Shared}
def Inv.laidD(I:Inv X pins σ H s)(k:∀b u,s.heap.get? b=some u->h'.get? b=some u)(D:s.heap.objs.size<=a)(new:bK X.prog X.w (upd H a o) h' a o) :
  Inv X pins σ (upd H a o) { s with heap:=h',toks:=t',drawn:=d' }:=
 I.call (g':=s.gens) (d':=d') (t':=t') (ch:=[]) (Un.laid k D (I.hok.fresh D)) (I.hok.laid k D new) I.bare λ_ z=>nomatch z
def Inv.tupInts(I:Inv X pins σ H s)(h:SqT X.K H a (ns.map V.int)):∃its,IsTup s.heap a its.toArray/\IntsAre its ns:=by
 obtain⟨its,r,p,_⟩:=I.tuple h;exact⟨its,p,cE r⟩
theorem Inv.tupsAt(I:Inv X pins σ H s):∀{xs}{us}{z},t4 X.K H xs z->aH xs us->Paired (λu D=>∃a its,u=Value.ref a/\IsTup s.heap a its/\IntsAre its.toList D) us z
 | _,_,_,.nil,.nil=>.nil
 | _,_,_,.cons ⟨a,J,U⟩ t,.cons r q=>by
  obtain⟨its,p,hi⟩:=I.tupInts U;rw[J]at r;exact .cons ⟨a,its.toArray,r,p,by simpa using hi⟩ (I.tupsAt t q)
end
noncomputable def jw(P:Program)(w:World)(a:Addr)(ks:List Int):HO:=.ext λh=>St.ca P w h a ks
def rO(g:St.ca P w h a ks):bK P w H h a (jw P w a ks):=by
 obtain⟨o,es,ep,t,ho,r⟩:=id g;exact⟨g,⟨o,ho⟩,λh1 h2 z k=>z.at k⟩
theorem Inv.set(I:Inv X pins σ H s)(h:H a=some (jw X.prog X.w a ks)):St.ca X.prog X.w s.heap a ks:=
 (show bK X.prog X.w H s.heap a (jw X.prog X.w a ks)from I.hok a _ h).1
section
variable{X:Cx}
def yC (hc:X.calm=true):bZ X (.type "set") (λxs H Q=>∃(p:Addr) (ns:List Int),xs=[.ref p]/\(SqL X.K H p (ns.map V.int)\/SqT X.K H p (ns.map V.int))/\ns.length<=4000/\∀l:Addr,H l=none->Q (.ref l) (upd H l (jw X.prog X.w l (St.dd ns.reverse)))):=by
 intro pins s σ H xs us Q I r h;obtain⟨p,ns,rfl,z,hz,q⟩:=h;obtain⟨u,rfl,Y⟩:=eO r;cases Y;have U:=I.ok.hd hc;rcases z with z|z
 .obtain⟨its,D,J,_⟩:=I.list z;have hi:=cE D;have Z:=hi.length;refine St.set_list U J.isList (ns:=ns) (by simpa using hi) (by simp;unfold scanBound;omega) λh' tk g kp=>?_
  exact⟨.ref s.heap.objs.size,_,I.laidD (d':=s.drawn) kp (lC _) (rO g),rfl,q _ (I.hok.fresh (lC _))⟩
 .obtain⟨its,D,J,_⟩:=I.tuple z;have hi:=cE D;have Z:=hi.length;refine St.wH U (show s.heap.IsTuple p its.toArray from J) (ns:=ns) (by simpa using hi) (by simp;unfold scanBound;omega) λh' tk g kp=>?_
  exact⟨.ref s.heap.objs.size,_,I.laidD (d':=s.drawn) kp (lC _) (rO g),rfl,q _ (I.hok.fresh (lC _))⟩
end
namespace Srt
noncomputable def sortI(l:List Int):List Int:=iF dh l
noncomputable def sortT(l:List (List Int)):List (List Int):=iF fj l
def leT(a b:List Int):Prop:=HT.lexLt b a=false
def sortI_perm(l):(sortI l).Perm l:=fk dh l
def sortT_perm(l):(sortT l).Perm l:=fk fj l
def sortI_len(l):(sortI l).length=l.length:=(sortI_perm l).length_eq
def sortT_len(l):(sortT l).length=l.length:=(sortT_perm l).length_eq
def sortT_rises(l):(sortT l).Pairwise leT:=dY fj l
def sortI_of_perm(p:a.Perm b):sortI a=sortI b:=oI dh p
def vg{a b:Int}:dh.kle a b ↔ a<=b:=by
 show decide _=false ↔ a<=b
 simp_all
def sortI_rises(l):(sortI l).Pairwise (· <= ·):=(dY dh l).imp λh=>vg.mp h
def sortI_id{l:List Int}(h:l.Pairwise (· <= ·)):sortI l=l:=yn dh (h.imp λq=>vg.mpr q)
section
variable{P:Program}{w:World}{A:Around}{E:Value->Shared->Prop}{s:Shared}
def rP(z:ns.Perm ks)(hs:ns.Pairwise (· <= ·)):ns=sortI ks:=by
 refine j5 dh z (hs.imp λ{a b} h=>?_);show decide _=false
 simp_all
def iQ(a2:ks.length<64)
  (U:∀Q',(∀h' tk d' D z,(∀b o,s.heap.get? b=some o->h'.get? b=some o)->z.Perm ks->IntsAre D z->Q' D { s with heap:=h',toks:=tk,drawn:=d' }) ->
   wpAny (model P w) A.in1 (collect x) Q' E s)
  (h:∀(h1 h':Heap) tk d' out c,(∀b o,s.heap.get? b=some o->h1.get? b=some o)->(∀b o,h1.get? b=some o->h'.get? b=some o)->h'.get? h1.objs.size=some { cls:=.type "list",data:=.seq out.toArray c } ->
   IntsAre out (sortI ks)->Q (.ref h1.objs.size) { s with heap:=h',toks:=tk,drawn:=d' }) :
  wpAny (model P w) A (call (.builtin "sorted") [x]) Q E s:=by
 refine Calls.call_function_entry kind_sorted plain_sorted entry_sorted (args_sorted1 _) ?_;unfold Builtin.«sorted»;refine ez (gf ?_);refine ez (U _ λh1 tk d1 D z kp hp hi=>?_);have a4:=hi.length;have a5:=hp.length_eq;refine ez (wpAny_newList ?_ (by rw[Kr];omega));have J:(h1.push (seqObj "list" D.toArray 0)).get? h1.objs.size=some _:=pe _ rfl;refine ez (Kt (Kk slot_list_sort ⟨_,J,rfl⟩ entry_list_sort (list_sort_tree J hi (by omega) λout a6 Y Z ao=>⟨_,rfl,?_⟩) (args_list_sort _)));obtain⟨c,hc⟩:=sortedHeap_at (out:=out) J;refine gf ⟨_,rfl,h h1 _ tk d1 out.toList c kp (λb o e=>?_) ?_ ?_⟩
 .have hb:=pb e;rw[sortedHeap_old (uw hb) (by rw[Kg];exact Km hb)];exact gx _ e
 .simp_all
 .rw[<- rP (Z.trans hp) ao];exact Y
def nh{vs:List Value}{z:List (List Int)}{Q:Value->Shared->Prop}(a0:vs.length<64)(hu:A.units+2<cLine)
  (hv:Paired (λu ts=>∃a its,u=Value.ref a/\IsTup s.heap a its/\IntsAre its.toList ts) vs z)
  (Z:∀Q',(∀h',(∀b o,s.heap.get? b=some o->h'.get? b=some o)->Q' vs { s with heap:=h' })->wpAny (model P w) A.in1 (collect x) Q' E s)
  (h:∀(h1 h':Heap) (p:Array Nat) (c:Nat),(∀b o,s.heap.get? b=some o->h1.get? b=some o)->(∀b o,h1.get? b=some o->h'.get? b=some o)->h'.get? h1.objs.size=some { cls:=.type "list",data:=.seq (p.toList.map λi=>vs.getD i Value.none).toArray c } ->
   PB vs.length p->p.toList.map (λi=>z.getD i [])=sortT z->Q (.ref h1.objs.size) { s with heap:=h' }) :
  wpAny (model P w) A (call (.builtin "sorted") [x]) Q E s:=by
 have D:vs.length=z.length:=Paired.length hv;refine Calls.call_function_entry kind_sorted plain_sorted entry_sorted (args_sorted1 _) ?_;unfold Builtin.«sorted»;refine ez (m:=checkCount "sorted" 1 1 _) (gf ?_);refine ez (Z _ λh1 kp=>?_);refine ez (wpAny_newList ?_ (by rw[Kr];omega));have J:(h1.push (seqObj "list" vs.toArray 0)).get? h1.objs.size=some (seqObj "list" vs.toArray 0):=pe _ rfl;have U:∀(s':Shared),(∀b o,b≠h1.objs.size->(h1.push (seqObj "list" vs.toArray 0)).get? b=some o->s'.heap.get? b=some o)->∀i,i<vs.length->∃a its,vs.getD i Value.none=.ref a/\IsTup s'.heap a its/\IntsAre its.toList (z.getD i []):=λs' k i hi=>by
  have gen:∀{us:List Value}{Y:List (List Int)},Paired (λu ts=>∃a its,u=Value.ref a/\IsTup s.heap a its/\IntsAre its.toList ts) us Y->∀i,i<us.length->∃a its,us.getD i Value.none=.ref a/\IsTup s.heap a its/\IntsAre its.toList (Y.getD i []):=by
   intro us Y hp
   induction hp with
   |nil=>intro i hi;simp at hi
   |cons q _ ih =>
    intro i hi;cases i with
    |zero=>obtain⟨a,its,e,r⟩:=q;exact⟨a,its,by simpa using e,by simpa using r⟩
    |succ i=>obtain⟨a,its,e,r⟩:=ih i (by simpa using hi);exact⟨a,its,by simpa using e,by simpa using r⟩
  obtain⟨a,its,e,⟨o,ho,r⟩,a3⟩:=gen hv i hi;have ao:=kp a o ho;exact⟨a,its,e,⟨o,k a o (uw (pb ao)) (gx _ ao),r⟩,a3⟩
 refine ez (Kt (Kk slot_list_sort ⟨_,J,rfl⟩ entry_list_sort (qb (O:=fj) (key:=λi=>z.getD i []) J a0 (λh2 s' Q' k q=>wF h2 (λv hm=>?_) q) (λg a4 s' i j C k hi hj q=>?_) λp hp hr=>⟨_,rfl,?_⟩) (args_list_sort _)))
 .obtain⟨i,hi,e⟩:=MZ hm;obtain⟨a,its,e',r1,r2⟩:=U s' k i hi;exact⟨a,its,_,by rw[<- e',<- e];simp[hi],r1,r2⟩
 .obtain⟨a,its,e,r1,r2⟩:=U s' k i hi;obtain⟨a',its',e',a8,a9⟩:=U s' k j hj;rw[e,e'];exact BJ a4 r1 a8 r2 a9 (show A.units+1+1<cLine from hu) q
 .obtain⟨c,hc⟩:=sortedHeap_at (out:=(p.toList.map λi=>vs.getD i Value.none).toArray) (vs:=vs) J;have ba:PB z.length p:=by rw[<- D];exact hp
  have br:fP (O:=fj) (λi=>z.getD i []) p z.length:=by rw[<- D];exact hr
  refine gf ⟨_,rfl,h h1 _ p c kp (λb o e=>?_) hc hp (Ea (O:=fj) (d:=([]:List Int)) (xs:=z) ba br)⟩;have hb:b<h1.objs.size:=pb e;rw[sortedHeap_old (uw hb) (by rw[Kg];exact Km hb)];exact gx _ e
end
end Srt
section
variable{X:Cx}
def Inv.keptD(I:Inv X pins σ H s)(k:∀b u,s.heap.get? b=some u->h'.get? b=some u):Inv X pins σ H { s with heap:=h',toks:=t',drawn:=d' }:=
 I.call (g':=s.gens) (d':=d') (t':=t') (ch:=[]) (Un.kept k) (I.hok.kept k) I.bare λ_ z=>nomatch z
def pg:∀{vs}{ns},IntsAre vs ns->aH (ns.map V.int) vs:=kW
def Ed(X:Cx):List V->Hp->VK->Prop:=λxs H Q=>∃p ks,xs=[.ref p]/\(SqL X.K H p (ks.map V.int)\/SqT X.K H p (ks.map V.int)\/H p=some (jw X.prog X.w p ks))/\ks.length<64/\∀l,H l=none->Q (.ref l) (upd H l (.lst ((Srt.sortI ks).map V.int)))
def j_ (hc:X.calm=true):bZ X (.builtin "sorted") (Ed X):=by
 intro pins s σ H xs us Q I r h;obtain⟨p,ks,rfl,z,Z,q⟩:=h;obtain⟨u,rfl,rx⟩:=eO r;cases rx;have hh:=I.ok.hd hc;refine Srt.iQ (ks:=ks) Z (λQ' D=>?_) λh1 h' tk d' out c k1 k2 e hi=>?_
 .rcases z with z|z|z
  .obtain⟨its,Y,pl,hz⟩:=I.list z;obtain⟨o,ho,J,n,hd⟩:=pl.isList;refine Mu p (.inl rfl) ho J hd (λh' kp=>?_) (by have:=Y.length;simp[oe]<;>omega);exact D h' s.toks s.drawn _ ks kp (.refl _) (by simpa using cE Y)
  .obtain⟨its,Y,pl,hz⟩:=I.tuple z;obtain⟨o,ho,J,n,hd⟩:=pl;refine Mu p (.inr rfl) ho J hd (λh' kp=>?_) (by have:=Y.length;simp[oe]<;>omega);exact D h' s.toks s.drawn _ ks kp (.refl _) (by simpa using cE Y)
  .exact St.rM (by first|exact hh|simpa using hh) (I.set z) λh' tk d' aO U kp hp hi=>D h' tk d' aO U kp hp hi
 .have I1:Inv X pins σ H { s with heap:=h1,toks:=tk,drawn:=d' }:=I.keptD k1;have I2:Inv X pins σ (upd H h1.objs.size (.lst ((Srt.sortI ks).map V.int))) { s with heap:=h',toks:=tk,drawn:=d' }:=
   I1.laid k2 (lC _) (show bK X.prog X.w _ h' _ _ from⟨by rw[nA,Srt.sortI_len,Kr];omega,out,c,pg hi,e⟩)
  exact⟨.ref h1.objs.size,_,I2,rfl,q _ (I1.hok.fresh (lC _))⟩
def Ee(X:Cx):List V->Hp->VK->Prop:=λxs H Q=>∃(p:Addr) (vs:List V) (z:List (List Int)),xs=[.ref p]/\(SqL X.K H p vs\/SqT X.K H p vs)/\t4 X.K H vs z/\z.length<64 /\
 ∀l (pm:List Nat),H l=none->(∀i∈pm,i<vs.length)->pm.map (λi=>z.getD i [])=Srt.sortT z->Q (.ref l) (upd H l (.lst (pm.map λi=>vs.getD i .non)))
theorem ph(h:aH vs us):∀(l:List Nat),(∀i∈l,i<vs.length)->aH (l.map λi=>vs.getD i .non) (l.map λi=>us.getD i Value.none)
 | [],_=>.nil
 |i::l,z=>by
  have hi:=z i (.head _);obtain⟨u,J,U⟩:=h.get (i:=i) (x:=vs[i]) (J1 hi);refine .cons ?_ (ph h l λj D=>z j (.tail _ D))
  simp_all
def qf (hu:X.A.units+64<cLine):bZ X (.builtin "sorted") (Ee X):=by
 intro pins s σ H xs us Q I r h;obtain⟨p,vs,a3,rfl,U,ht,a4,q⟩:=h;obtain⟨u,rfl,rx⟩:=eO r;cases rx;have key:∀its,aH vs its->vs.length<=sizeLine->(∀Q',(∀h',(∀b o,s.heap.get? b=some o->h'.get? b=some o)->Q' its { s with heap:=h' })->wpAny (model X.prog X.w) X.A.in1 (collect _) Q' X.xe s) ->
   wpAny _ X.A (call _ [.ref p]) (EP X pins σ Q) X.xe s:=λits z hz Y=>by
  have hl:=z.length;have a6:=ht.len;refine Srt.nh (by omega) (by omega) (I.tupsAt ht z) Y λh1 h' pm c k1 k2 e hp ho=>?_
  have Z:∀i∈pm.toList,i<vs.length:=λi hi=>by
   have:=(Ma.mp hp).mem_iff.mp hi
   simp_all
  have I1:=I.kept (t':=s.toks) k1;have I2:Inv X pins σ (upd H h1.objs.size (.lst _)) { s with heap:=h' }:=
   I1.laid k2 (lC _) (show bK X.prog X.w _ h' _ _ from⟨by have:=hp.size;rw[nA,Array.length_toList,Kr];omega,_,c,ph z _ Z,e⟩)
  exact⟨.ref h1.objs.size,_,I2,rfl,q _ pm.toList (I1.hok.fresh (lC _)) Z ho⟩
 rcases U with U|U
 .obtain⟨its,z,pl,hz⟩:=I.list U;obtain⟨o,ho,D,n,hd⟩:=pl.isList;refine key its z hz λQ' J=>Mu p (.inl rfl) ho D hd (λh' kp=>?_) (by have:=z.length;simp[oe]<;>omega)
  have:=J h' kp;simpa using this
 .obtain⟨its,z,pl,hz⟩:=I.tuple U;obtain⟨o,ho,D,n,hd⟩:=pl;refine key its z hz λQ' J=>Mu p (.inr rfl) ho D hd (λh' kp=>?_) (by have:=z.length;simp[oe]<;>omega)
  have:=J h' kp;simpa using this
end
end L2
namespace L2.St
open PySem PyProof.Rows List Option
structure b8(P:Program)(w:World)(h:Heap)(a:Addr)(ks:List Int)(o:Obj)(es:Array (Int×Value))(ep:Nat)(t:SetTable):Prop where
 ho:h.get? a=some o
 ex:o.ExactSet
 hd:o.data=.set es ep t
 el:ElemsOf (intKind P w) es.toList
 pm:(es.toList.map λe=>numOf e.2).Perm ks
 nd:ks.Nodup
 bd:es.size<scanBound
 fi:t.fits es.size=true
theorem ca.w{w:World}(g:ca P w h a ks):∃o es ep t,b8 P w h a ks o es ep t/\Gd (!byT w) t:=by
 refine aD λZq J=>?_
 obtain⟨o,es,ep,t,ho,z,hd,D,U,Y,Z,hf,hg⟩:=g;refine J ?_;exact⟨o,es,ep,t,⟨ho,z,hd,D,U,Y,Z,hf⟩,hg⟩
theorem b8.len(g:b8 P w h a ks o es ep t):es.size=ks.length:=by
 have:=g.pm.length_eq;simpa using this
theorem b8.at(g:b8 P w h a ks o es ep t)(k:∀o,h.get? a=some o->h'.get? a=some o):b8 P w h' a ks o es ep t:=
 ⟨k o g.ho,g.ex,g.hd,g.el,g.pm,g.nd,g.bd,g.fi⟩
section
variable{P:Program}{w:World}{A:Around}{E:Value->Shared->Prop}{s:Shared}
variable{a:Addr}{ks:List Int}{o:Obj}{es:Array (Int×Value)}{ep:Nat}{t:SetTable}
def yD(g:b8 P w s.heap a ks o es ep t)(D:t.led=!byT w){Q:Array (Int×Value)->Shared->Prop}(h:∀z d',z.toList.Perm es.toList->Q z { s with drawn:=d' }):wpAny (model P w) A (setWalk a) Q E s:=by
 unfold setWalk;refine ez (Kb g.ho g.hd g.fi ?_);dsimp only;refine ez (da ?_);cases J:byT w with
 |true =>
  rw[if_pos rfl];refine ez (Nm (gf ?_));exact h _ s.drawn (o8 _ _)
 |false =>
  rw[if_neg (by simp)];refine Kf (λ_=>?_) (λ_=>?_)
  .refine ez (jG es.size es.toList s (by simp) λys d' U=>?_);exact gf (h _ d' (by simpa using U))
  .refine ez ?_;rw[J]at D;show wpAny _ _ (if (!t.led&&decide _)=true then _ else _) _ _ s;rw[if_neg (by rw[D];simp)];exact gf (gf (h es s.drawn (.refl _)))
def vh:∀z,(∀b∈z,∃ks o es ep t,b8 P w s.heap b ks o es ep t)->∀{Q},Q true s->wpAny (model P w) A (setsQuiet z) Q E s:=by
 intro z hs Q hq;unfold setsQuiet;refine ez (wpAny_forIn_list _ (λbT b s'=>(∀c∈bT,c∈z)/\b.1=none/\s'=s) _ ?_ ?_ z _ ⟨λc hc=>hc,rfl,rfl⟩)
 .rintro c bT b s' ⟨hc,hb,rfl⟩;obtain⟨ks,o,es,ep,t,g⟩:=hs c (hc c (.head _));refine ez (MT g.ho g.hd g.fi ?_);refine ez (M4 _ (λbT b D=>(∀e∈bT,e∈es.toList)/\b.1=none/\D=s') _ ?_ ?_ es _ ⟨λe U=>U,rfl,rfl⟩)
  .rintro e Y b' D ⟨U,J,rfl⟩;obtain⟨t',q⟩:=fb g.el e (U e (.head _));obtain⟨hx,x⟩:=e;dsimp only at q ⊢;rw[q];exact gf ⟨λe' Z=>U e' (.tail _ Z),rfl,rfl⟩
  .rintro b' D ⟨_,J,rfl⟩;dsimp only;rw[J];exact gf ⟨λc' ao=>hc c' (.tail _ ao),rfl,rfl⟩
 .rintro b s' ⟨_,hb,rfl⟩;dsimp only;rw[hb];exact gf hq
def yE(g:b8 P w s.heap a ks o es ep t)(J:t.led=!byT w){others:List Addr}(hs:∀b∈others,∃ks o es ep t,b8 P w s.heap b ks o es ep t){Q:Array (Int×Value)->Shared->Prop}
  (h:∀z d',z.toList.Perm es.toList->Q z { s with drawn:=d' }):wpAny (model P w) A (setWalkUnseen a others none) Q E s:=by
 refine ez (Kb g.ho g.hd g.fi ?_);dsimp only;refine ez (da ?_);refine Kf (λ_=>?_) (λ_=>?_)
 .exact yD g J h
 .refine ez (vh _ (λb D=>?_) ?_)
  .rcases tf.mp D with rfl|D
   .exact⟨_,_,_,_,_,g⟩
   .exact hs b D
  .simp only[Mb,J6];refine ez (Lx ?_);exact gf (h es s.drawn (.refl _))
def yF(g:b8 P w s.heap a ks o es ep t)(hl:t.led=!byT w){others:List Addr}(hs:∀b∈others,∃ks o es ep t,b8 P w s.heap b ks o es ep t){f:Addr}(U:ca P w s.heap f []){Q:Array (Int×Value)->Shared->Prop}
  (h:∀D d' h',D.toList.Perm es.toList->Heap.SameBut f s.heap h'->ca P w h' f []->Q D { s with drawn:=d',heap:=h' }):wpAny (model P w) A (setWalkUnseen a others (some f)) Q E s:=by
 unfold setWalkUnseen;refine ez (Kb g.ho g.hd g.fi ?_);dsimp only;refine ez (da ?_);refine Kf (λ_=>?_) (λ_=>?_)
 .exact yD g hl λD d' hp=>h D d' s.heap hp (Ls f s.heap) U
 .refine ez (vh (a::others) (λb Y=>?_) ?_)
  .rcases tf.mp Y with rfl|Y
   .exact⟨_,_,_,_,_,g⟩
   .exact hs b Y
  .simp only[Mb,J6,KZ];refine ez (Lx ?_);obtain⟨of,ef,a2,J,z,gd⟩:=U.w;refine ez (Kb z.ho z.hd z.fi ?_);dsimp only;refine Kf (λ_=>?_) (λ_=>?_)
   .have Z:({ J with led:=J.led&&t.led,plain:=J.plain&&t.plain }:SetTable).fits ef.size=true:=z.fi;have ao:Gd (!byT w) ({ J with led:=J.led&&t.led,plain:=J.plain&&t.plain }:SetTable):=⟨by show(J.led&&t.led)=_;rw[gd.led,hl];simp,gd.dum,gd.rise⟩;refine ez (Lu z.ho z.hd ?_ (Le z.bd));have g2:=vb (P:=P) (w:=w) z.ho z.ex z.hd ⟨z.el,z.pm,z.nd,z.bd,Z,ao⟩;exact gf (h es s.drawn _ (.refl _) (Kl _ f _) g2)
   .exact gf (h es s.drawn s.heap (.refl _) (Ls f s.heap) U)
def yG(g:b8 P w s.heap a ks o es ep t){k:Int}{tk:Tok}{Q:Option Nat->Shared->Prop}(h:Q (es.toList.findIdx? λe=>(intKind P w).is k e.2) s):wpAny (model P w) A (setFind a (.int k tk) (hashInt k)) Q E s:=by
 have z:(intKind P w).is k (.int k tk)=true:=Nb _ _ _ _;have D:(Value.int k tk).scannable=true:=rfl;unfold setFind setFindIn;refine ez (Kb g.ho g.hd g.fi ?_);dsimp only;rw[byScan_of D g.bd g.el];simp only[↓reduceIte];refine ez (Lx ?_);refine ez (wpAny_setScan_of (knd:=intKind P w) z g.ho g.hd g.fi g.el ?_);cases J:findIdx? (λe=>(intKind P w).is k e.2) es.toList with
 |some j =>
  rw[J]at h;dsimp only;rw[LC];exact gf h
 |none =>
  rw[J]at h;exact gf h
theorem b8.mem(g:b8 P w s.heap a ks o es ep t) :k∈ks ↔ ∃e∈es.toList,(intKind P w).is k e.2=true:=by
 rw[<- g.pm.mem_iff,mem_map];constructor
 .rintro ⟨e,z,q⟩;exact⟨e,z,(jF g.el z k).mpr q⟩
 .rintro ⟨e,z,q⟩;exact⟨e,z,(jF g.el z k).mp q⟩
def rQ(g:b8 P w s.heap a ks o es ep t)(k):(es.toList.findIdx? λe=>(intKind P w).is k e.2).isSome=decide (k∈ks):=by
 rw[KQ,K3,g.mem,findIdx?_isSome,K1]
end
section
variable{P:Program}{w:World}{A:Around}{E:Value->Shared->Prop}{s:Shared}
def b8.type (g:b8 P w s.heap a ks o es ep t):s.TypeIs (.ref a) "set":=⟨o,g.ho,g.ex.1⟩
def kd (z:s.TypeIs (.ref a) "set") {Q:Bool->Shared->Prop} (h:Q true s):wpAny (model P w) A (Builtin.Frozenset.isAnySet (.ref a)) Q E s:=by
 refine ez (K2 z F.sub_set_set ?_);exact gf h
def rR (z:s.TypeIs (.ref a) "set") {Q:Value->Shared->Prop} (h:Q (.type "set") s):wpAny (model P w) A (Builtin.Frozenset.baseOf a) Q E s:=by
 refine ez (K2 z F.sub_set_set ?_);exact gf h
def gK(g:b8 P w s.heap a ks o es ep t){Q:Nat->Shared->Prop}(h:Q ks.length s):wpAny (model P w) A (Builtin.Frozenset.sizeOf a) Q E s:=by
 refine ez (MT g.ho g.hd g.fi ?_);rw[<- g.len]at h;exact gf h
def Ef{id:String}{a:Addr}{ks:List Int}{o:Obj}{es:Array (Int×Value)}{ep:Nat}{t:SetTable}(g:b8 P w s.heap a ks o es ep t){α:Type}{x:α}{R:α->Shared->Prop}(h:R x s):wpAny (model P w) A (Builtin.Frozenset.unchanged id a ep >>= λ_=>pure x) R E s:=by
 unfold Builtin.Frozenset.unchanged;refine ez (ez (Lv g.ho g.hd g.fi ?_));simp only[LW,J6,KZ];exact gf (gf h)
def Eg{id:String}{a b:Addr}{ks js:List Int}{Q:Value->Shared->Prop}(ga:ca P w s.heap a ks)(gb:ca P w s.heap b js)(b3:¬ ks.length / 4 > js.length)
  (h:∀h' d' D,(∀c o,s.heap.get? c=some o->h'.get? c=some o)->D.Perm (ks.filter λk=>!decide (k∈js))->ca P w h' s.heap.objs.size D->Q (.ref s.heap.objs.size) { s with heap:=h',drawn:=d' }) :
  wpAny (model P w) A (Builtin.Frozenset.difference id a (.ref b)) Q E s:=by
 obtain⟨oa,ea,c3,ta,Y,b4⟩:=ga.w;obtain⟨ob,eb,c4,tb,wb,c5⟩:=gb.w;unfold Builtin.Frozenset.difference;refine ez (kd wb.type ?_);simp only[Mb,J6,KZ,MW,if_true,Builtin.Frozenset.addrOf,pure_bind];refine ez (gK wb ?_);refine ez (gK Y ?_);rw[if_neg b3];refine ez (rR Y.type ?_);refine ez (qd ?_);have keep:∀c o,s.heap.get? c=some o->(s.heap.push (bv w)).get? c=some o:=λc o e=>gx _ e
 have Z:=Y.at (keep a);have b5:=wb.at (keep b);have gn:ca P w (s.heap.push (bv w)) s.heap.objs.size []:=rL _;have ha:=uw (pb Y.ho);have hb:=uw (pb wb.ho);refine ez (gf ?_);refine ez (Lv (s:={ s with heap:=s.heap.push (bv w) }) Z.ho Z.hd Z.fi ?_);refine ez (Kt ?_);refine ez (yF (s:={ s with heap:=s.heap.push (bv w) }) Z b4.led (others:=[b,s.heap.objs.size]) (λc hc=>?_) gn λao d0 h0 hp ck g0=>?_)
 .rcases tf.mp hc with rfl|hc
  .exact⟨_,_,_,_,_,b5⟩
  .rw[J9.mp hc];obtain⟨_,_,_,_,q,_⟩:=gn.w;exact⟨_,_,_,_,_,q⟩
 have a1:=Y.el.perm hp;have hK:=(hp.map _).trans Y.pm;have a6:=hK.nodup_iff.mpr Y.nd;refine ez (M4 _ (λbT _ s'=>∃dn h' d' D,dn++bT=ao.toList/\s'={ s with heap:=h',drawn:=d' }/\Heap.SameBut s.heap.objs.size (s.heap.push (bv w)) h'/\ca P w h' s.heap.objs.size D/\D.Perm ((dn.map λe:Int×Value=>numOf e.2).filter λk=>!decide (k∈js))) _ ?_ ?_ ao _ ⟨[],h0,d0,[],rfl,rfl,ck,g0,by simp⟩)
 .rintro ⟨hx,x⟩ bT u s' ⟨dn,h',d',D,e1,rfl,sb,gl,pl⟩;have J:(hx,x)∈ao.toList:=by rw[<- e1];simp
  obtain⟨t',q⟩:=fb a1 _ J;obtain⟨⟨k0,cl,aO⟩,_⟩:=a1 _ J;have a3:=(jF a1 J k0).mp cl;dsimp only at q a3 aO;generalize numOf x=k at q a3;subst q a3;have aO:=aO;subst aO;have U:∀c o,c≠s.heap.objs.size->s.heap.get? c=some o->h'.get? c=some o:=λc o hc e=>(sb.2 c hc).trans (keep c o e)
  have a9:=Y.at λo e=>U a o ha e
  have ba:=wb.at λo e=>U b o hb e
  dsimp only;have br:numOf (Value.int k t')=k:=rfl;have cr:k∉D:=λz=>by
   have:=pl.mem_iff.mp z;have:=(J2.mp this).1;rw[<- e1,Kd,JX]at a6;exact(K9.mp a6).2.2 k this k (by rw[br];exact .head _) rfl
  refine ez (Kt ?_);refine ez (yG (s:={ s with heap:=h',drawn:=d' }) ba ?_);rw[rQ (s:={ s with heap:=h',drawn:=d' }) ba k];by_cases hj:k∈js
  .simp only[hj,decide_true,Mb,J6,KZ];refine gf (Ef (s:={ s with heap:=h',drawn:=d' }) a9 ⟨dn++[(hashInt k,Value.int k t')],h',d',D,by rw[KN];exact e1,rfl,sb,gl,?_⟩)
   simp_all
  .simp only[hj,decide_false,Bool.not_false,if_true];have a4:D.length+1<scanBound:=by
    have h1:=pl.length_eq;have h2:=Lk (λk=>!decide (k∈js)) (dn.map λe:Int×Value=>numOf e.2);rw[nA]at h2;have h3:ao.toList.length<scanBound:=by rw[hp.length_eq,Array.length_toList];exact Y.bd
    rw[<- e1,tr,length_cons]at h3;omega
   refine ez (o6 (s:={ s with heap:=h',drawn:=d' }) gl a4 λb0 b' b1 g2=>?_);rw[if_neg cr]at g2;have cC:=a9.at λo e=>(b1.2 a ha).trans e
   refine gf (Ef (s:={ s with heap:=b0,drawn:=d' }) cC ⟨dn++[(hashInt k,Value.int k t')],b0,d',k::D,by rw[KN];exact e1,rfl,sb.trans b1,g2,?_⟩);rw[Kd,filter_append];have:filter (λk=>!decide (k∈js)) (map (λe:Int×Value=>numOf e.2) [(hashInt k,Value.int k t')])=[k]:=by simp[br,hj]
   rw[this];exact(Perm.cons k pl).trans (L8 (l₁:=[k]))
 .rintro u s' ⟨dn,h',d',D,e1,rfl,sb,gl,pl⟩;rw[Ll]at e1;subst e1;refine gf (gf (h h' d' D (λc o e=>?_) (pl.trans (hK.filter _)) gl));exact(sb.2 c (uw (pb e))).trans (keep c o e)
end
noncomputable def itL(m:Nat):Nat->Nat->Nat
 |0,i=>i
 |t+1,i=>itL m t ((i*5+1) % (m+1))
theorem mh(m):∀a b i,itL m (a+b) i=itL m b (itL m a i)
 |0,b,i=>by rw[LC];rfl
 |a+1,b,i=>by rw[KI];exact mh m a b _
noncomputable def gL(m:Nat):Bool:=itL m (m+1) 0==0&&(range (m+1)).all λj=>(range (m+1)).any λt=>itL m t 0==j
theorem vi(h:itL m (m+1) 0=0):∀q r,itL m (q*(m+1)+r) 0=itL m r 0
 |0,r=>by simp
 |q+1,r=>by
  have e:(q+1)*(m+1)+r=(m+1)+(q*(m+1)+r):=by rw[Nat.succ_mul];omega
  rw[e,mh,h,vi h q r]
def cov{m:Nat}(h:gL m=true){i j:Nat}(hi:i<=m)(U:j<=m):∃t,t<=m/\itL m t i=j:=by
 unfold gL at h;rw[g4,J0,Li]at h;obtain⟨Y,h1⟩:=h;have z:∀x,x<=m->∃t,t<=m/\itL m t 0=x:=λx hx=>by
  have:=h1 x (Lf.mpr (by omega));rw[K1]at this;obtain⟨t,Z,e⟩:=this;exact⟨t,by have:=Lf.mp Z;omega,by simpa using e⟩
 obtain⟨a,ha,D⟩:=z i hi;obtain⟨b,hb,J⟩:=z j U;rcases Nat.lt_or_ge b a with c|c
 .obtain⟨k,rfl⟩:=Lg c;refine⟨m-k,Mo m k,?_⟩;rw[<- D,<- mh,show b+k+1+(m-k)=1*(m+1)+b by omega,vi Y,J]
 .refine⟨b-a,r4 (Mo b a) hb,?_⟩;rw[<- D,<- mh,MR c,J]
def C8:gL 7=true:=rfl
def Eh:gL 15=true:=rfl
def Ei:gL 31=true:=rfl
def Ej:gL 63=true:=by decide +kernel
def BM:gL 127=true:=by decide +kernel
def BN:gL 255=true:=by decide +kernel
noncomputable def lp(m:Nat):Nat->Nat×Nat->Nat×Nat
 |0,p=>p
 |t+1,p=>lp m t (SetTable.leap m p.1 p.2)
theorem yH(m):∀a b p,lp m (a+b) p=lp m b (lp m a p)
 |0,b,p=>by rw[LC];rfl
 |a+1,b,p=>by rw[KI];exact yH m a b _
theorem vj(m):∀t i,lp m t (i,0)=(itL m t i,0)
 |0,_=>rfl
 |t+1,i=>by
  show lp m t (SetTable.leap m i 0)=_;have:SetTable.leap m i 0=((i*5+1) % (m+1),0):=by simp[SetTable.leap]
  rw[this,vj m t]
  rfl
theorem C9(m):∀t p,p.1<=m->(lp m t p).1<=m
 |0,_,h=>h
 |t+1,p,_=>C9 m t _ (by
  show(p.1*5+1+p.2 / 32) % (m+1)<=m;have:=Nw (p.1*5+1+p.2 / 32) (show 0<m+1 by omega);omega)
theorem vk(m):∀t p,(lp m t p).2=p.2 / 32 ^ t
 |0,p=>by simp[lp]
 |t+1,p=>by
  show(lp m t (SetTable.leap m p.1 p.2)).2=_;rw[vk m t];show p.2 / 32 / 32 ^ t=_;rw[Nat.div_div_eq_div_mul,Nat.pow_succ,Nat.mul_comm]
theorem pi :∀z i p,SetTable.layClean.free m ow z i p=none->∀t,t<z->(ow.getD (lp m t (i,p)).1 (some 0)).isNone=false
 |0,_,_,_,t,h=>absurd h (by omega)
 |z+1,i,p,e,t,h=>by
  rw[SetTable.layClean.free]at e;split at e
  .cases e
  .rename_i q;cases t with
   |zero =>
    have:=MC.mp q 0 (Lf.mpr (by unfold SetTable.runEnd;split<;>omega));exact(Nn _).mp this
   |succ t=>exact pi z _ _ e t (by omega)
theorem pj :∀z i p k,SetTable.layClean.free m ow z i p=some k->(ow.getD k (some 0)).isNone=true
 |0,_,_,_,e=>by cases e
 |z+1,i,p,k,e=>by
  rw[SetTable.layClean.free]at e;split at e
  .rename_i q;cases e;exact Nc (p:=λk=>(ow.getD (i+k) (some 0)).isNone) q
  .exact pj z _ _ k e
def BO(J:gL m=true)(U:j<=m)(Y:(ow.getD j (some 0)).isNone=true)(hi:i<=m)(Z:p<2 ^ 64):∃k,SetTable.layClean.free m ow (SetTable.turns m) i p=some k/\(ow.getD k (some 0)).isNone=true:=by
 cases e:SetTable.layClean.free m ow (SetTable.turns m) i p with
 |some k=>exact⟨k,rfl,pj _ _ _ _ e⟩
 |none =>
  exfalso;have q:=pi _ _ _ e;obtain⟨t,ht,et⟩:=cov J (C9 m 13 (i,p) hi) U;have z:(lp m 13 (i,p)).2=0:=by
   rw[vk];exact Nat.div_eq_of_lt (wh Z (by decide))
  have D:lp m 13 (i,p)=((lp m 13 (i,p)).1,0):=by rw[<- z]
  have:=q (13+t) (by unfold SetTable.turns;omega);rw[yH,D,vj,et]at this;rw[Y]at this;cases this
noncomputable def vals(m:Nat)(ow:Array (Option Nat)):List Nat:=(range (m+1)).filterMap λj=>ow.getD j none
theorem yI{j k:Nat}(h1:g j=none)(h2:g' j=some k)(J:∀x,x≠j->g' x=g x):∀l:List Nat,l.Nodup->j∈l->(l.filterMap g').Perm (k::l.filterMap g)
 | [],_,h=>by cases h
 |x::l,U,h=>by
  obtain⟨Y,Z⟩:=Ku.mp U;by_cases e:x=j
  .subst e;rw[MU h1,Me h2];have:∀D:List Nat,x∉D->D.filterMap g'=D.filterMap g:=by
    intro D
    induction D with
    |nil=>intro _;rfl
    |cons y D ih =>
     intro hx;have hy:y≠x:=λz=>hx (z ▸ .head _)
     rw[filterMap_cons,filterMap_cons,J y hy,ih λz=>hx (.tail _ z)]
   rw[this l Y]
  .have hm:=(tf.mp h).resolve_left λz=>e z.symm
   have ih:=yI h1 h2 J l Z hm;cases q:g x with
   |none =>
    rw[MU q,MU ((J x e).trans q)];exact ih
   |some v =>
    rw[Me q,Me ((J x e).trans q)];exact(Perm.cons v ih).trans (Perm.swap k v _)
theorem yJ{g:Nat->Option Nat}:∀l:List Nat,(∀x∈l,g x≠none)->(l.filterMap g).length=l.length
 | [],_=>rfl
 |x::l,h=>by
  cases q:g x with
  |none=>exact absurd q (h x (.head _))
  |some v =>
   rw[Me q,length_cons,length_cons,yJ l λy z=>h y (.tail _ z)]
def yK(hs:ow.size=m+1)(h:(vals m ow).length<=m):∃j,j<=m/\(ow.getD j (some 0)).isNone=true:=by
 cases Classical.em (∃j,j<=m/\ow.getD j none=none)with
 |inl q =>
  obtain⟨j,J,e⟩:=q;refine⟨j,J,?_⟩;have D:j<ow.size:=by omega
  simp[Array.getD,D]at e ⊢;exact e
 |inr q =>
  have:=yJ (g:=λj=>ow.getD j none) (range (m+1)) λx hx z=>q ⟨x,by have:=Lf.mp hx;omega,z⟩
  unfold vals at h;rw[this,MO]at h;omega
noncomputable abbrev Ek(m:Nat):Option (Array (Option Nat)×Nat)->Int->Option (Array (Option Nat)×Nat):=λacc h=>do
  let (owner,k) <- acc
  let j <- SetTable.layClean.free m owner (SetTable.turns m) (SetTable.bits h % (m+1)) (SetTable.bits h)
  pure (owner.setIfInBounds j (some k),k+1)
def BP(h):SetTable.bits h<2 ^ 64:=by grind [SetTable.bits]
theorem yL(hg:gL m=true):∀(hs:List Int) ow k,ow.size=m+1->(vals m ow).Perm (range k)->k+hs.length<=m ->
  ∃D,hs.foldl (Ek m) (some (ow,k))=some (D,k+hs.length)/\D.size=m+1/\(vals m D).Perm (range (k+hs.length))
 | [],ow,k,h1,h2,_=>⟨ow,rfl,h1,h2⟩
 |h::hs,ow,k,h1,h2,h3=>by
  refine aD λZq kq=>?_
  rw[length_cons]at h3;have hl:=h2.length_eq;rw[MO]at hl;obtain⟨j0,U,Y⟩:=yK h1 (by omega);obtain⟨j,ej,Z⟩:=BO hg (ow:=ow) (i:=SetTable.bits h % (m+1)) (p:=SetTable.bits h) U Y (by have:=Nw (SetTable.bits h) (show 0<m+1 by omega);omega) (BP h);have J:j<ow.size:=by
   refine Decidable.byContradiction λz=>?_
   simp[Array.getD,z]at Z
  have e1:Ek m (some (ow,k)) h=some (ow.setIfInBounds j (some k),k+1):=by
   show(Option.bind (SetTable.layClean.free m ow (SetTable.turns m) (SetTable.bits h % (m+1)) (SetTable.bits h)) _)=_;rw[ej]
   rfl
  have hv:(vals m (ow.setIfInBounds j (some k))).Perm (range (k+1)):=by
   refine(yI (g:=λj=>ow.getD j none) (j:=j) (k:=k) ?_ ?_ ?_ (range (m+1)) nodup_range (Lf.mpr (by omega))).trans ?_
   .simp[Array.getD,J]at Z ⊢;exact Z
   .simp[Array.getD,J]
   .intro x hx;simp only[Lo,Array.getElem?_setIfInBounds];rw[if_neg λz=>hx z.symm]
   .rw[range_succ (n:=k)];exact(Perm.cons k h2).trans (L8 (l₁:=[k]))
  obtain⟨D,q1,q2,q3⟩:=yL hg hs (ow.setIfInBounds j (some k)) (k+1) (by rw[Array.size_setIfInBounds];exact h1) hv (by omega);refine kq ?_;refine⟨D,?_,q2,?_⟩
  .rw[foldl_cons,e1,q1,length_cons]
   congr 2;omega
  .rw[length_cons]
   grind
def vm(U:gL m=true){led plain:Bool}(h:hs.size<=m):∃t z,SetTable.laid m f mv led plain hs=some (t,z)/\z.toList.Perm (range hs.size)/\t.place.size=hs.size/\t.mask=m/\t.dummies=#[]:=by
 have Y:(vals m (Array.replicate (m+1) none)).Perm (range 0):=by
  have:vals m (Array.replicate (m+1) none)=[]:=by
   unfold vals
   simp_all
  rw[this];simp
 obtain⟨ow,J,e2,D⟩:=yL U hs.toList (Array.replicate (m+1) none) 0 (by simp) Y (by simpa using h);rw[LC,Array.length_toList]at J D;have Z:SetTable.layClean m hs=some ow:=by
  unfold SetTable.layClean;rw[<- Array.foldl_toList];show Option.map _ (hs.toList.foldl (Ek m) _)=_;rw[J]
  rfl
 have el:((range (m+1)).filterMap λj=>(ow.getD j none).map (j,·)).map (·.2)=vals m ow:=by
  unfold vals;rw[map_filterMap]
  congr 1
  funext j
  cases ow.getD j none<;>rfl
 refine⟨_,_,by unfold SetTable.laid;rw[Z];rfl,?_,?_,rfl,rfl⟩
 .show(map _ _).Perm _;rw[el];exact D
 .show(map _ _).toArray.size=_;rw[oe,nA];have:=Kj List.length el;rw[nA]at this;rw[this,D.length_eq,MO]
def Hd:∀n,n<241->(SetTable.sizeAbove n=8\/SetTable.sizeAbove n=16\/SetTable.sizeAbove n=32\/SetTable.sizeAbove n=64\/SetTable.sizeAbove n=128\/SetTable.sizeAbove n=256)/\n<SetTable.sizeAbove n:=by decide +kernel
def vn(h:n<241):gL (SetTable.sizeAbove n-1)=true/\n<=SetTable.sizeAbove n-1/\SetTable.sizeAbove n<=256:=by
 obtain⟨h1,h2⟩:=Hd n h;refine⟨?_,by omega,by omega⟩;rcases h1 with e|e|e|e|e|e<;>rw[e]
 .exact C8
 .exact Eh
 .exact Ei
 .exact Ej
 .exact BM
 .exact BN
def ni{es:Array (Int×Value)}{z:Array Nat}(h:z.toList.Perm (range es.size)):(z.filterMap (es[·]?)).toList.Perm es.toList:=by
 rw[Array.toList_filterMap];refine(h.filterMap _).trans ?_;have:=PySem.List.filterMap_getElem?_range_length es.toList
 simp_all
section
variable{P:Program}{w:World}{A:Around}{E:Value->Shared->Prop}{s:Shared}
variable{a:Addr}{ks:List Int}{o:Obj}{es:Array (Int×Value)}{ep:Nat}{t:SetTable}
def mi(g:b8 P w h a ks o es ep t)(D:ElemsOf (intKind P w) z.toList)(J:(z.toList.map λe=>numOf e.2).Perm ks')(U:ks'.Nodup)(Y:z.size<scanBound)(Z:t'.fits z.size=true) :
  b8 P w (h.update a (Obj.putSet z t')) a ks' { o with data:=.set z (ep+1) t' } z (ep+1) t':=by
 have hq:(h.update a (Obj.putSet z t')).get? a=some { o with data:=.set z (ep+1) t' }:=by
  have:=Kv (Obj.putSet z t') g.ho (by rw[putSet_of z t' g.hd];rfl);rw[putSet_of z t' g.hd]at this;exact this
 exact⟨hq,g.ex,rfl,D,J,U,Y,Z⟩
def BQ:(256:Nat)<=sizeLine:=by simp_all [Kr]
def vo(g:b8 P w s.heap a ks o es ep t){z:Nat}(hw:z<241)(hn:es.size<=z){Q:Unit->Shared->Prop}
  (h:∀h' o' Z ao t',Heap.SameBut a s.heap h'->b8 P w h' a ks o' Z ao t'->t'.dummies=#[]->t'.mask=SetTable.sizeAbove z-1->Q () { s with heap:=h' }):wpAny (model P w) A (setRelay a z) Q E s:=by
 obtain⟨hg,a6,hz⟩:=vn hw;unfold setRelay;refine ez (Kb g.ho g.hd g.fi ?_);dsimp only;rw[if_neg (by have:=BQ;omega)];obtain⟨t',D,e1,e2,e3,e4,e5⟩:=vm hg (f:=t.finger) (mv:=t.movedTo (SetTable.sizeAbove z-1)) (led:=t.led) (plain:=t.plain) (hs:=es.map (·.1)) (by rw[Mp];omega);have a0:t.relaid (es.map (·.1)) z=some (t',D):=e1;rw[Mp]at e2 e3;have hp:=ni e2;have U:(D.filterMap (es[·]?)).size=es.size:=by rw[<- Array.length_toList,hp.length_eq,Array.length_toList]
 rw[a0];refine ez (M1 (a:=(D.filterMap (es[·]?),t')) ?_ ?_)
 .show(if ((D.filterMap (es[·]?)).size != es.size)=true then _ else _)=_
  simp_all
 .dsimp only;have Y:(D.filterMap (es[·]?)).size<scanBound:=by rw[U];exact g.bd
  have a2:t'.fits (D.filterMap (es[·]?)).size=true:=by
   have J:t'.fill=es.size:=by unfold SetTable.fill;rw[e5,e3];simp
   simp only[SetTable.fits,J,g4,J0,KA];exact⟨by rw[e3,U],by omega⟩
  refine Lu g.ho g.hd ?_ (Le Y);exact h _ _ _ _ _ (Kl _ a _) (mi g (g.el.perm hp) ((hp.map _).trans g.pm) g.nd Y a2) e5 e4
def El(g:b8 P w s.heap a [] o es ep t)(hd:t.dummies=#[])(Y:t.mask=7){n:Nat}(hn:n<=60){Q:Unit->Shared->Prop}
  (h:∀h' o' D J t',Heap.SameBut a s.heap h'->b8 P w h' a [] o' D J t'->t'.dummies=#[]->gL t'.mask=true->n<=t'.mask->Q () { s with heap:=h' }):wpAny (model P w) A (setRoomFor a n) Q E s:=by
 have hz:es.size=0:=g.len;have U:t.place.size=0:=by
  have:=g.fi;simp only[SetTable.fits,g4,J0]at this;omega
 have z:t.fill=0:=by unfold SetTable.fill;rw[hd,U];rfl
 unfold setRoomFor;refine ez (Kb g.ho g.hd g.fi ?_);have Z:t.roomFor n=if (0+n)*5>=7*3 then some ((0+n)*2)else none:=by
  unfold SetTable.roomFor;rw[z,U,Y]
 dsimp only;rw[Z];by_cases c:(0+n)*5>=7*3
 .rw[if_pos c];dsimp only;have hw:(0+n)*2<241:=by omega
  refine vo g hw (by omega) λh' o' D J t' sb g' h1 h2=>?_
  obtain⟨q1,q2,_⟩:=vn hw
  grind
 .rw[if_neg c];exact gf (h s.heap o es ep t (Ls a s.heap) g hd (by rw[Y];exact C8) (by omega))
def Em(g:b8 P w s.heap a ks o es ep t)(h0:0<ks.length)(hn:ks.length<=60){Q:Value->Shared->Prop}
  (h:∀h' o' J Y t',(∀c o,s.heap.get? c=some o->h'.get? c=some o)->b8 P w h' s.heap.objs.size ks o' J Y t'->Q (.ref s.heap.objs.size) { s with heap:=h' }):wpAny (model P w) A (Builtin.Frozenset.copyOf a) Q E s:=by
 have keep:∀c o,s.heap.get? c=some o->(s.heap.push (bv w)).get? c=some o:=λc o e=>gx _ e
 have ha:=uw (pb g.ho);unfold Builtin.Frozenset.copyOf;refine ez (rR g.type ?_);refine ez (qd ?_);simp only[Builtin.Frozenset.addrOf,pure_bind];have g1:b8 P w (s.heap.push (bv w)) s.heap.objs.size [] (bv w) #[] 0 (.fresh 0 0 (!byT w)):=⟨pe _ rfl,⟨rfl,rfl,rfl⟩,rfl,λe he=>by simp at he,by simp,Ly,by decide,by rfl⟩;have a1:(s.heap.objs.size==a)=false:=by simpa using λz=>ha z.symm
 have ga:=g.at (keep a);have a3:es.isEmpty=false:=by
  have:=g.len;rw[Array.isEmpty_eq_false_iff];intro z
  simp_all
 unfold setMerge;rw[a1];simp only[J6,KZ,Mx];refine ez (Kb (s:={ s with heap:=s.heap.push (bv w) }) ga.ho ga.hd ga.fi ?_);simp only[a3,J6,KZ,Mx];refine ez (El (s:={ s with heap:=s.heap.push (bv w) }) g1 rfl rfl (n:=es.size) (by have:=g.len;omega) λh' o' J Y t' sb g' hd hm b2=>?_);have fin:∀h' o' J Y t',Heap.SameBut s.heap.objs.size (s.heap.push (bv w)) h'->b8 P w h' s.heap.objs.size ks o' J Y t'->Q (.ref s.heap.objs.size) { s with heap:=h' }:=λh' o' J Y t' sb g' =>
  h h' o' J Y t' (λc o e=>(sb.2 c (uw (pb e))).trans (keep c o e)) g'
 refine ez (Kb (s:={ s with heap:=h' }) g'.ho g'.hd g'.fi ?_);have hz:J.size=0:=g'.len;have a4:t'.place.size=0:=by
  have:=g'.fi;simp only[SetTable.fits,g4,J0]at this;omega
 have U:t'.fill=0:=by unfold SetTable.fill;rw[hd,a4];rfl
 have Z:t'.road t=if (t'.mask==t.mask&&t.dummies.isEmpty)=true then .slotForSlot else .clean:=by
  unfold SetTable.road;rw[U]
  rfl
 dsimp only;rw[Z];by_cases c:(t'.mask==t.mask&&t.dummies.isEmpty)=true
 .rw[if_pos c];dsimp only;refine ez (Lu (s:={ s with heap:=h' }) g'.ho g'.hd ?_ (Le g.bd));refine gf (fin _ _ _ _ _ (sb.trans (Kl _ _ _)) (mi g' g.el g.pm g.nd g.bd ?_));exact g.fi
 .rw[if_neg c];dsimp only;refine aD λZq kq=>?_
  obtain⟨t2,D,e1,e2,e3,e4,e5⟩:=vm hm (f:=t'.finger) (mv:=t'.moves) (led:=t'.led&&t.led) (plain:=t'.plain&&t.plain) (hs:=es.map (·.1)) (by rw[Mp];have:=g.len;omega);rw[Mp]at e2 e3;have hp:=ni e2;have ao:(D.filterMap (es[·]?)).size=es.size:=by rw[<- Array.length_toList,hp.length_eq,Array.length_toList]
  have aO:(D.filterMap (es[·]?)).size<scanBound:=by rw[ao];exact g.bd
  refine kq ?_;rw[e1];simp only[Mx];refine ez (M1 (a:=(D.filterMap (es[·]?),t2)) ?_ ?_)
  .show(if ((D.filterMap (es[·]?)).size != es.size)=true then _ else _)=_;rw[if_neg (by rw[ao];simp)]
  .dsimp only;have a7:t2.fits (D.filterMap (es[·]?)).size=true:=by
    have U:t2.fill=es.size:=by unfold SetTable.fill;rw[e5,e3];simp
    simp only[SetTable.fits,U,g4,J0,KA]
    simp_all
   refine ez (Lu (s:={ s with heap:=h' }) g'.ho g'.hd ?_ (Le aO));exact gf (fin _ _ _ _ _ (sb.trans (Kl _ _ _)) (mi g' (g.el.perm hp) ((hp.map _).trans g.pm) g.nd aO a7))
def eU(xs:Array α)(i):(SetTable.eraseAt xs i).toList=xs.toList.eraseIdx i:=by
 unfold SetTable.eraseAt;rw[Array.toList_append,Array.toList_extract,Array.toList_extract,eraseIdx_eq_take_drop_succ,extract_eq_take_drop,extract_eq_take_drop];simp;exact take_of_length_le (by simp)
def wP(g:b8 P w s.heap a ks o es ep t){k:Int}{tk:Tok}{Q:Bool->Shared->Prop}
  (h:∀b h' o' a1 a2 t',Heap.SameBut a s.heap h'->b8 P w h' a (ks.filter λx=>!decide (x=k)) o' a1 a2 t'->Q b { s with heap:=h' }):wpAny (model P w) A (setDiscardHashed a (.int k tk) (hashInt k)) Q E s:=by
 unfold setDiscardHashed;refine ez (yG g ?_);cases hr:findIdx? (λe=>(intKind P w).is k e.2) es.toList with
 |none =>
  have hk:k∉ks:=λz=>by
   have:=rQ (s:=s) g k;rw[hr]at this;simp[z]at this
  have e:ks.filter (λx=>!decide (x=k))=ks:=L5.mpr λx hx=>by
   have:x≠k:=λz=>hk (z▸hx)
   simpa using this
  have e2:s={ s with heap:=s.heap }:=by cases s;rfl
  rw[e]at h;have:=h false s.heap o es ep t (Ls a s.heap) g;exact gf this
 |some i =>
  obtain⟨hi,a3,_⟩:=findIdx?_eq_some_iff_getElem.mp hr;dsimp only;refine ez (Kb g.ho g.hd g.fi ?_);dsimp only;have J:numOf (es.toList[i]).2=k:=(jF g.el (Nt hi) k).mp a3;have a4:=ik (J1 hi);have U:(SetTable.eraseAt es i).size=es.size-1:=by
   rw[<- Array.length_toList,eU,L4 hi,Array.length_toList]
  have a9:i<es.size:=by simpa using hi
  have Y:(SetTable.eraseAt es i).size<scanBound:=by rw[U];have:=g.bd;omega
  have D:=g.fi;simp only[SetTable.fits,g4,J0,KA]at D;have Z:i<t.place.size:=by omega
  have a5:(t.drop i).fits (SetTable.eraseAt es i).size=true:=by
   have ed:t.drop i={ t with place:=SetTable.eraseAt t.place i,dummies:=SetTable.insertAt t.dummies (SetTable.below t.dummies (t.place[i])) (t.place[i]) }:=by
    unfold SetTable.drop;rw[Mh Z]
   rw[ed];have h1:(SetTable.eraseAt t.place i).size=t.place.size-1:=by
    rw[<- Array.length_toList,eU,L4 (by simpa using Z),Array.length_toList]
   have h2:(SetTable.insertAt t.dummies (SetTable.below t.dummies (t.place[i])) (t.place[i])).size<=t.dummies.size+1:=by
    unfold SetTable.insertAt;generalize SetTable.below t.dummies (t.place[i])=p;rw[Array.size_append,Array.size_push,LJ,LJ,Nl,Nat.sub_zero];rcases Nat.le_total p t.dummies.size with q|q
    .rw[LK q,KI,MR q];exact lC _
    .rw[Nat.min_eq_right q,Nat.sub_eq_zero_of_le q];exact lC _
   have h3:(⟨t.mask,SetTable.eraseAt t.place i,SetTable.insertAt t.dummies (SetTable.below t.dummies (t.place[i])) (t.place[i]),t.finger,t.led,t.moves,t.plain⟩:SetTable).fill<=t.mask:=by
    show(SetTable.eraseAt t.place i).size+(SetTable.insertAt t.dummies (SetTable.below t.dummies (t.place[i])) (t.place[i])).size<=t.mask;have:t.place.size+t.dummies.size<=t.mask:=D.2;omega
   simp only[SetTable.fits,g4,J0,KA];exact⟨by rw[h1,U,D.1],h3⟩
  have ao:ElemsOf (intKind P w) (SetTable.eraseAt es i).toList:=λe he=>g.el e (by rw[eU]at he;exact mem_of_mem_eraseIdx he)
  have aO:((SetTable.eraseAt es i).toList.map λe=>numOf e.2).Perm (ks.filter λx=>!decide (x=k)):=by
   rw[eU];have h1:(k::(es.toList.eraseIdx i).map λe=>numOf e.2).Perm ks:=by
    have:=(a4.map λe=>numOf e.2).trans g.pm;rwa[JX,J]at this
   have h2:=h1.nodup_iff.mpr g.nd;obtain⟨n1,_⟩:=Ku.mp h2;have h3:=h1.filter λx=>!decide (x=k)
   rw[LM (by simp)]at h3;refine Perm.trans (Perm.of_eq ?_) h3;refine(L5.mpr λx hx=>?_).symm;have:x≠k:=λz=>n1 (z▸hx)
   simpa using this
  refine ez (Lu g.ho g.hd ?_ (Le Y));refine ez (wpAny_point ?_);exact gf (h true _ _ _ _ _ (Kl _ _ _) (mi g ao aO (g.nd.filter _) Y a5))
def He{id:String}{r b:Addr}{js:List Int}{ob:Obj}{eb:Array (Int×Value)}{a9:Nat}{tb:SetTable}(g:b8 P w s.heap r ks o es ep t)(U:b8 P w s.heap b js ob eb a9 tb)(hl:tb.led=!byT w)(a1:b≠r)(ba:¬ js.length / 8 > ks.length)(hn:ks.length<=60){Q:Unit->Shared->Prop}
  (h:∀h' d' o' z D t' ls,Heap.SameBut r s.heap h'->b8 P w h' r ls o' z D t'->ls=(ks.filter λk=>!decide (k∈js))->Q () { s with heap:=h',drawn:=d' }):wpAny (model P w) A (Builtin.Frozenset.differenceUpdate id r (.ref b)) Q E s:=by
 unfold Builtin.Frozenset.differenceUpdate;have br:(Value.ref b==Value.ref r)=false:=by
  simpa using a1
 rw[br];simp only[J6,KZ];refine ez (kd U.type ?_);simp only[if_true,Builtin.Frozenset.addrOf,pure_bind];refine ez (gK U ?_);refine ez (gK g ?_);rw[if_neg ba];refine ez (Lv U.ho U.hd U.fi ?_);refine ez (Kt ?_);refine ez (yE U hl (others:=[r]) (λc hc=>?_) λY d0 hp=>?_)
 .rw[J9.mp hc];exact⟨_,_,_,_,_,g⟩
 have a2:=U.el.perm hp;have hK:=(hp.map _).trans U.pm;refine ez (M4 _ (λbT _ s'=>∃dn h' d' o' z D t',dn++bT=Y.toList/\s'={ s with heap:=h',drawn:=d' }/\Heap.SameBut r s.heap h'/\b8 P w h' r (ks.filter λk=>!decide (k∈dn.map λe:Int×Value=>numOf e.2)) o' z D t') _ ?_ ?_ Y _ ⟨[],s.heap,d0,o,es,ep,t,rfl,rfl,Ls r s.heap,by
  have:ks.filter (λk=>!decide (k∈([]:List (Int×Value)).map λe=>numOf e.2))=ks:=L5.mpr λx _=>by simp
  rw[this];exact g⟩)
 .rintro ⟨hx,x⟩ bT u s' ⟨dn,h',d',o',z,D,t',e1,rfl,sb,Z⟩;have J:(hx,x)∈Y.toList:=by rw[<- e1];simp
  obtain⟨a3,q⟩:=fb a2 _ J;obtain⟨⟨k0,b0,ao⟩,_⟩:=a2 _ J;have a4:=(jF a2 J k0).mp b0;dsimp only at q a4 ao;generalize numOf x=k at q a4;subst q a4;have ao:=ao;subst ao;dsimp only;refine ez (Kt (wP (s:={ s with heap:=h',drawn:=d' }) Z λb' h2 o2 a5 a6 t2 aO g2=>?_));have b4:=U.at λo e=>(aO.2 b a1).trans ((sb.2 b a1).trans e)
  refine Ef (s:={ s with heap:=h2,drawn:=d' }) b4 ⟨dn++[(hashInt k,Value.int k a3)],h2,d',o2,a5,a6,t2,by rw[KN];exact e1,rfl,sb.trans aO,?_⟩;have:(ks.filter λx=>!decide (x∈(dn++[(hashInt k,Value.int k a3)]).map λe:Int×Value=>numOf e.2))=(ks.filter λk=>!decide (k∈dn.map λe:Int×Value=>numOf e.2)).filter λx=>!decide (x=k):=by
   rw[List.filter_filter]
   congr 1
   funext x
   have b5:numOf (Value.int k a3)=k:=rfl;rw[Kd,JX,map_nil,b5];by_cases h1:x=k<;>by_cases h2:x∈dn.map (λe:Int×Value=>numOf e.2)<;>simp[h1,h2]
  rw[this];exact g2
 .rintro u s' ⟨dn,h',d',o',z,D,t',e1,rfl,sb,Z⟩;rw[Ll]at e1;subst e1;have e3:(ks.filter λk=>!decide (k∈Y.toList.map λe:Int×Value=>numOf e.2))=ks.filter λk=>!decide (k∈js):=by
   congr 1
   funext k
   congr 1
   rw[Np];exact hK.mem_iff
  rw[e3]at Z;refine gf ?_;unfold setTidy;refine ez (Kb (s:={ s with heap:=h',drawn:=d' }) Z.ho Z.hd Z.fi ?_);dsimp only;refine Kf (λ_=>?_) (λ_=>?_)
  .have c1:z.size<=60:=by
    rw[Z.len];exact r4 (Lk _ _) hn
   have cd:SetTable.grown z.size=z.size*4:=by unfold SetTable.grown;rw[if_neg (by omega)]
   rw[cd];exact vo (s:={ s with heap:=h',drawn:=d' }) Z (by omega) (by omega) λh2 o2 a5 a6 t2 aO g2 _ _=>h h2 d' o2 a5 a6 t2 _ (sb.trans aO) g2 rfl
  .exact gf (h h' d' o' z D t' _ sb Z rfl)
def Eo{id:String}{b:Addr}{js:List Int}{Q:Value->Shared->Prop}(ga:ca P w s.heap a ks)(gb:ca P w s.heap b js)(J:ks.length / 4 > js.length)(hn:ks.length<=60)
  (h:∀h' d' z o' U Y t',(∀c o,s.heap.get? c=some o->h'.get? c=some o)->z.length=(ks.filter λk=>!decide (k∈js)).length->b8 P w h' s.heap.objs.size z o' U Y t'->Q (.ref s.heap.objs.size) { s with heap:=h',drawn:=d' }) :
  wpAny (model P w) A (Builtin.Frozenset.difference id a (.ref b)) Q E s:=by
 obtain⟨oa,ea,a7,ta,wa,a8⟩:=ga.w;obtain⟨ob,eb,a9,tb,D,Z⟩:=gb.w;have hb:=uw (pb D.ho);unfold Builtin.Frozenset.difference;refine ez (kd D.type ?_);simp[J6,MW,Builtin.Frozenset.addrOf,pure_bind];refine ez (gK D ?_);refine ez (gK wa ?_);rw[if_pos J];refine ez (Lx ?_);refine ez (Em wa (by omega) hn λh1 o1 br b0 t1 k1 g1=>?_);refine ez (gf ?_);have ao:=D.at (k1 b);refine ez (Kt (He (s:={ s with heap:=h1 }) g1 ao Z.led hb (by omega) hn λh2 d2 o2 aO a0 t2 z a1 g2 e2=>?_));exact gf (h h2 d2 z o2 aO a0 t2 (λc o e=>(a1.2 c (uw (pb e))).trans (k1 c o e)) (by rw[e2]) g2)
def yM{id:String}{b:Addr}{js:List Int}{Q:Value->Shared->Prop}(U:ca P w s.heap a ks)(Y:ca P w s.heap b js)(Z:ks.length<=60)
  (h:∀h' d' J o' z D t',(∀c o,s.heap.get? c=some o->h'.get? c=some o)->J.length=(ks.filter λk=>!decide (k∈js)).length->b8 P w h' s.heap.objs.size J o' z D t'->Q (.ref s.heap.objs.size) { s with heap:=h',drawn:=d' }) :
  wpAny (model P w) A (Builtin.Frozenset.difference id a (.ref b)) Q E s:=by
 by_cases c:ks.length / 4 > js.length
 .exact Eo U Y c Z h
 .refine Eg U Y c λh' d' J k p g=>?_
  obtain⟨o',z,D,t',g',_⟩:=g.w;exact h h' d' J o' z D t' k p.length_eq g'
end
def oQ:entryFor table "set.__sub__"=some Builtin.«frozenset.__sub__»:=
 entryFor_alias (id':="frozenset.__sub__") (by kernel_rfl) (by first|rfl|decide +kernel|(unfold String.splitOn;simp +decide [String.splitOnAux])) (by decide +kernel) (by kernel_rfl)
section
variable{P:Program}{w:World}{A:Around}{E:Value->Shared->Prop}{s:Shared}
def yN{ks js:List Int}{Q:Value->Shared->Prop}(Y:ca P w s.heap a ks)(Z:ca P w s.heap b js)(hn:ks.length<=60)
  (h:∀h' d' J o' z D t',(∀c o,s.heap.get? c=some o->h'.get? c=some o)->J.length=(ks.filter λk=>!decide (k∈js)).length->b8 P w h' s.heap.objs.size J o' z D t'->Q (.ref s.heap.objs.size) { s with heap:=h',drawn:=d' }) :
  wpAny (model P w) A (binaryOp .Sub (.ref a) (.ref b)) Q E s:=by
 obtain⟨oa,ea,a0,ta,U,a1⟩:=Y.w;obtain⟨ob,eb,a2,tb,wb,a3⟩:=Z.w;refine wpAny_binaryOp_same U.type wb.type F.fills_set_sub F.slot_set_sub ?_;refine Kk F.slot_set_sub U.type oQ ?_ (F.args_set_sub_2 _ _);show wpAny _ _ (do
  let (self,other) <- Builtin.Frozenset.slot1 "__sub__" ⟨[.ref a,.ref b],[]⟩
  let (l,r):=if false then(other,self)else(self,other)
  if !(<- Builtin.Frozenset.isAnySet l <&&> Builtin.Frozenset.isAnySet r)then rule s!"frozenset.{"__sub__"}.declined";return <- ret .notImplemented
  ret (<- Builtin.Frozenset.difference s!"frozenset.{"__sub__"}" _ r)) _ _ s
 refine ez (M1 (a:=_) rfl ?_);refine ez (ez (kd U.type ?_));refine kd wb.type ?_;refine ez (yM Y Z hn λh' d' J o' z D t' k hl g=>?_);exact gf ⟨_,rfl,by simp,h h' d' J o' z D t' k hl g⟩
end
end L2.St
namespace L2
open PySem PySem.Spec PyProof.Rows List Option
noncomputable def t5(P:Program)(w:World)(a:Addr)(n:Nat):HO:=.ext λh=>∃ks o es ep t,St.b8 P w h a ks o es ep t/\ks.length=n
def wQ(g:St.b8 P w h a ks o es ep t)(e:ks.length=n):bK P w H h a (t5 P w a n):=
 ⟨⟨ks,o,es,ep,t,g,e⟩,⟨o,g.ho⟩,λh1 h2 ⟨ks,o,es,ep,t,g,e⟩ k=>⟨ks,o,es,ep,t,g.at k,e⟩⟩
section
variable{X:Cx}
def wR:OpR X (binaryOp .Sub) (λx y H Q=>∃a b ks js,x=.ref a/\y=.ref b/\H a=some (jw X.prog X.w a ks)/\H b=some (jw X.prog X.w b js)/\ks.length<=60/\∀p,H p=none->Q (.ref p) (upd H p (t5 X.prog X.w p (ks.filter λk=>!decide (k∈js)).length))):=by
 intro pins s σ H x y v u Q I z D h;obtain⟨a,b,ks,js,rfl,rfl,J,U,Y,q⟩:=h;cases z;cases D;refine St.yN (I.set J) (I.set U) Y λh' d' ls o' Z ao t' kp hl g=>?_
 exact⟨.ref s.heap.objs.size,_,I.laidD kp (lC _) (wQ g hl),rfl,q _ (I.hok.fresh (lC _))⟩
def rS:bZ X (.builtin "len") (λxs H Q=>∃a n,xs=[.ref a]/\H a=some (t5 X.prog X.w a n)/\Q (.int n) H):=by
 intro pins s σ H xs us Q I r h;refine aD λZ z=>?_
 obtain⟨a,n,rfl,e,q⟩:=h;obtain⟨u,rfl,D⟩:=eO r;cases D;obtain⟨ks,o,es,ep,t,g,J⟩:=(show bK X.prog X.w H s.heap a _ from I.hok a _ e).1;have U:=g.len;have hb:=g.bd;have Y:scanBound=4096:=rfl;refine z ?_;refine call_len_set g.ho g.ex g.hd g.fi (by omega) ⟨.int n,H,I.tok _,⟨s.toks+1,?_⟩,q⟩;rw[U,J]
def qg:bZ X (.builtin "len") (λxs H Q=>∃a ks,xs=[.ref a]/\H a=some (jw X.prog X.w a ks)/\Q (.int ks.length) H):=by
 intro pins s σ H xs us Q I r h;obtain⟨a,ks,rfl,e,q⟩:=h;obtain⟨u,rfl,z⟩:=eO r;cases z;obtain⟨o,es,ep,t,g,_⟩:=(I.set e).w;have J:=g.bd;have D:scanBound=4096:=rfl;refine call_len_set g.ho g.ex g.hd g.fi (by omega) ⟨.int ks.length,H,I.tok _,⟨s.toks+1,?_⟩,q⟩;rw[g.len]
end
end L2
namespace L2.En
open PySem PyProof.Rows List Option
open AutoSeq1 (wpAny_loadPart')
section
variable{P:Program}{w:World}{A:Around}{E:Value->Shared->Prop}{s:Shared}
def t6(D:s.heap.IsTupleIter it t i)
  (h:wpAny (model P w) A.in1 (Builtin.«tuple_iterator.__next__» ⟨[.ref it],[]⟩) (λfin s'=>∃v,fin=.done (.ret v)/\Q v s') E s):wpAny (model P w) A (Builtin.SmallTypes.nextOf (.ref it)) Q E s:=by
 refine ez (Kz D.typeIs F.slot_tuple_iterator_next ?_);refine Kk F.slot_tuple_iterator_next D.typeIs F.entry_tuple_iterator_next ?_ (F.args_tuple_iterator_next_1 _);refine Kq h (λfin s' hv=>?_) λ_ _ z=>z
 obtain⟨v,rfl,q⟩:=hv;exact⟨v,rfl,gf q⟩
def Hf (z:A.handled=none) (h:∀h' e,(∀b o,s.heap.get? b=some o->h'.get? b=some o)->(∃o,h'.get? e=some o/\o.cls=.type "StopIteration")->E (.ref e) { s with heap:=h' }) :
  wpAny (model P w) A (Builtin.SmallTypes.stopIteration:Sem α) Q E s:=by
 wp_walk
 exact wpAny_raiseNew_none z (h _ _ (λb o q=>gx _ (gx _ q)) ⟨_,pe _ rfl,rfl⟩)
def pk(J:A.handled=none)(z:s.heap.IsTupleIter it t i)(U:s.heap.IsTuple t items)
  (Y:∀x h',items[i]?=some x->h'.IsTupleIter it t (i+1)->Heap.SameBut it s.heap h'->Q x { s with heap:=h' })
  (Z:∀h' e,items[i]?=none->Heap.ExtBut it s.heap h'->(∃o,h'.get? e=some o/\o.cls=.type "StopIteration")->E (.ref e) { s with heap:=h' }):wpAny (model P w) A (Builtin.SmallTypes.nextOf (.ref it)) Q E s:=by
 refine t6 z ?_;refine aD λZq kq=>?_
 obtain⟨⟨c1,d1,t1,l1⟩,h1,e1,e2⟩:=z;obtain⟨⟨c2,d2,t2,l2⟩,h2,e3,n2,e4⟩:=U;cases e1;cases e2;cases e3;cases e4;obtain⟨D,g,d,tk,os⟩:=s;refine kq ?_
 wp_walk using wpAny_loadPart' h1,wpAny_loadPart' h2
 have self:∀k v,(D.update it (Obj.mapFields (·.setIfInBounds k v))).get? it=some { cls:=.type "tuple_iterator",dict:=d1,data:=.fields _,slots:=l1 }:=λk v=>Kv _ h1 rfl
 rw[Int.toNat_natCast];cases hx:items[i]? with
 |some x =>
  refine ez (wpAny_setField h1 rfl (by simp) (gf ⟨x,rfl,Y x _ hx ⟨_,self 1 _,rfl,?_⟩ (Kl ..)⟩));simp[rawInt]
 |none =>
  refine ez (Lx (ez (wpAny_setField h1 rfl (by simp) (Hf (by simpa using J) λh' e k st=>?_))));exact Z h' e hx (λb o hb q=>k b o ((Kl D it _).extBut b o hb q)) st
def draws(J:A.handled=none)(it t)(z:t≠it)(items):Draws P w A it [it,t] items.size (λi v=>items[i]?=some v) (λi h=>h.IsTupleIter it t i/\h.IsTuple t items) where
 live:=λ_ _ ⟨⟨o,ho,_⟩,_⟩=>⟨o,ho⟩
 frame:=λi h h' ⟨⟨o,ho,r⟩,⟨U,D,Z⟩⟩ k=>⟨⟨o,k it (.head _) o ho,r⟩,⟨U,k t (.tail _ (.head _)) U D,Z⟩⟩
 item:=λi s Q E hi ⟨h1,h2⟩ hQ=>pk J h1 h2 (λx h' hx h3 Y=>hQ x h' s.toks hx ⟨h3,h2.extBut Y.extBut z⟩ Y) λh' e hx _ _=>absurd hx (by simp;omega)
 done:=λs Q E ⟨h1,h2⟩ hE=>pk J h1 h2 (λx h' hx _ _=>absurd hx (by simp)) λh' e _ eb st=>hE h' e eb st
def yO{Q:Bool->Shared->Prop}(h:∀c,Q c s):wpAny (model P w) A (pure b) Q E s:=gf (h b)
def BR(l)(items)(n)(z)(D) :
  Meets (Builtin.«enumerate.__new__» ⟨[.type "enumerate",.ref l],[]⟩) (λ_ R s=>s.heap.get? l=some { cls:=.type "tuple",dict:=z,data:=.seq items n,slots:=D } /\
   R (.ok (.ret (.ref (s.heap.push { cls:=.type "tuple_iterator",data:=.fields #[.ref l,.int 0 0] }).objs.size)))
    { s with heap:=(s.heap.push { cls:=.type "tuple_iterator",data:=.fields #[.ref l,.int 0 0] }).push { cls:=.type "enumerate",data:=.fields #[.none,.bool false,.ref s.heap.objs.size,rawInt 0,.none,.none] } }):=by
 refine .of_wp λP w A R s h=>?_
 have tl:Heap.IsTuple _ l items:=⟨_,h.1,rfl,n,rfl⟩;have J:=sub_enumerate
 wp_walk using wpAny_loadPart' h.1
 apply wpAny_stack_any;intro st;refine yO λc=>?_
 cases c
 .wp_walk using wpAny_pyIter_tuple tl
  exact⟨_,rfl,h.2⟩
 .wp_walk using wpAny_pyIter_tuple tl
  exact⟨_,rfl,h.2⟩
def call_tup(Y:s.heap.IsTuple l items)
  (h:∀h',IsEnum h' (s.heap.objs.size+1) s.heap.objs.size 0 .none->h'.IsTupleIter s.heap.objs.size l 0->h'.objs.size=s.heap.objs.size+2 ->
   (∀b o,s.heap.get? b=some o->h'.get? b=some o)->Q (.ref (s.heap.objs.size+1)) { s with heap:=h' }):wpAny (model P w) A (call (.type "enumerate") [.ref l]) Q E s:=by
 obtain⟨⟨c,D,dt,Z⟩,hl,hc,n,hd⟩:=Y;cases hc;cases hd;have made:=BR l items n D Z;refine callType_new F.called_enumerate (by decide) (F.typeCall_enumerate_1 _) (F.newCall_enumerate_1 _) (λv=>F.args_object_init_2 v _) F.entry_enumerate_new made ⟨hl,?_⟩;generalize hi:({ cls:=.type "tuple_iterator",data:=.fields #[.ref l,.int 0 0] }:Obj)=io;generalize ho:({ cls:=.type "enumerate",data:=.fields #[.none,.bool false,.ref s.heap.objs.size,rawInt 0,.none,.none] }:Obj)=J;have z:(s.heap.push io).objs.size=s.heap.objs.size+1:=Kg ..;have U:((s.heap.push io).push J).get? (s.heap.objs.size+1)=some J:=by
  rw[<- z];exact pe _ (by rw[<- ho];rfl)
 have g2:((s.heap.push io).push J).get? s.heap.objs.size=some io:=gx _ (pe _ (by rw[<- hi];rfl));rw[z];refine⟨⟨_,U,by rw[<- ho]⟩,h _ (by rw[<- ho]at U;rw[<- ho];exact U) ⟨_,g2,by rw[<- hi],by rw[<- hi];rfl⟩ (by rw[Kg,z]) λb o q=>gx _ (gx _ q)⟩
end
end L2.En
namespace L2.Dv
open PySem PyProof.Rows List Option
open AutoSeq1 (wpAny_loadPart')
section
variable{P:Program}{w:World}{A:Around}{E:Value->Shared->Prop}{s:Shared}
def Ents(h:Heap)(d:Addr)(es:Array DictEntry)(ep:Nat):Prop:=∃o,h.get? d=some o/\o.ExactDict/\o.data=.dict es ep
theorem Ents.at(x:Ents h d es ep)(k:∀o,h.get? d=some o->h'.get? d=some o):Ents h' d es ep:=by
 obtain⟨o,ho,r⟩:=x;exact⟨o,k o ho,r⟩
theorem Ents.type (x:Ents s.heap d es ep):s.TypeIs (.ref d) "dict":=by
 obtain⟨o,ho,r,_⟩:=x;exact⟨o,ho,r.1⟩
def values_of(hd:(d==sysModules)=false)(x:Ents s.heap d es ep)
  (h:Q (.ref s.heap.objs.size) { s with heap:=s.heap.push { cls:=.type "dict_values",data:=.fields #[.ref d] } }):wpAny (model P w) A (call (.builtin "dict.values") [.ref d]) Q E s:=by
 refine Kk F.slot_dict_values x.type F.entry_dict_values ?_ (F.args_dict_values_1 _);refine aD λU z=>?_
 obtain⟨⟨Y,Z,t1,l1⟩,h1,hx,D⟩:=x;have J:=hx.1;cases J;cases D;refine z ?_
 wp_walk using wpAny_loadPart' h1
 exact⟨_,rfl,h⟩
def BS(hv:s.heap.IsValuesView v d)(x:Ents s.heap d es ep)
  (h:Q (.ref s.heap.objs.size) { s with heap:=s.heap.push { cls:=.type "dict_valueiterator",data:=.fields #[.ref d,.int 0 0,.int es.size 0,.int ep 0] } }):wpAny (model P w) A (pyIter (.ref v)) Q E s:=by
 refine M9 hv.typeIs F.slot_dict_values_iter (Kk F.slot_dict_values_iter hv.typeIs F.entry_dict_values_iter ?_ (F.args_dict_values_iter_1 _));refine aD λZq z=>?_
 obtain⟨⟨c1,d1,t1,l1⟩,h1,hx,D⟩:=x;have J:=hx.1;cases J;cases D;obtain⟨⟨c3,d3,t3,l3⟩,U,Y,Z⟩:=hv;cases Y;cases Z;refine z ?_
 wp_walk using wpAny_loadPart' h1,wpAny_loadPart' U
 exact⟨_,rfl,_,_,⟨_,pe _ rfl,rfl⟩,LN.lookup,h⟩
def vq{ep:Nat}{Q:Option Value->Shared->Prop}(Y:A.handled=none)(hv:s.heap.IsValIter it d i es.size ep)(x:Ents s.heap d es ep)
  (h1:∀e h',es[i]?=some e->h'.IsValIter it d (i+1) es.size ep->Heap.SameBut it s.heap h'->Q (some e.val) { s with heap:=h' })
  (h2:∀h',es[i]?=none->Heap.ExtBut it s.heap h'->Q none { s with heap:=h' }):wpAny (model P w) A (pyNext (.ref it)) Q E s:=by
 have ty:=hv.typeIs;obtain⟨⟨c1,d1,t1,l1⟩,Z,hx,e2⟩:=x;have e1:=hx.1;cases e1;cases e2;obtain⟨⟨c3,d3,t3,l3⟩,D,e3,e4⟩:=hv;cases e3;cases e4;obtain⟨J,g,dr,tk,os⟩:=s;unfold pyNext;refine ez (MB (Kz (name:=Str.ofString "__next__") ty LN (Kk LN ty F.entry_dict_valueiterator_next ?_ (F.args_dict_valueiterator_next_1 _))));unfold Builtin.«dict_valueiterator.__next__»
 wp_walk using wpAny_loadPart' Z,wpAny_loadPart' D
 rw[if_neg (by omega),Int.toNat_natCast];have self:∀k v,(J.update it (Obj.mapFields (·.setIfInBounds k v))).get? it=some { cls:=.type "dict_valueiterator",dict:=d3,data:=.fields ((#[.ref d,.int (i:Int) 0,.int (es.size:Int) 0,.int (ep:Int) 0]:Array Value).setIfInBounds k v),slots:=l3 }:=λk v=>Kv _ D rfl
 cases hx:es[i]? with
 |some e =>
  have U:=self 1 (rawInt ((i:Int)+1))
  wp_walk using wpAny_loadPart' D,wpAny_loadPart' U
  exact⟨_,rfl,gf (h1 e _ hx ⟨_,U,rfl,rfl⟩ (Kl ..))⟩
 |none =>
  refine ez (Kq (Q:=λn s'=>n=0/\s'=⟨J,g,dr,tk,os⟩) (E:=λ_ _=>False) ?_ (λn s' q=>?_) λ_ _ z=>z.elim)
  .wp_walk using wpAny_loadPart' D
   exact⟨by decide +kernel,rfl⟩
  obtain⟨rfl,rfl⟩:=q;refine ez (wpAny_setField D rfl (by simp) ?_);refine St.k5 (v:=.none) (vs:=#[]) (it:=0) (Q:=λ_ _=>True) (by simpa using Y) λe s' kp ⟨h',eq⟩ hT=>?_
  subst eq;refine ez (K2 (T:="StopIteration") (b:=true) hT isSubtype_stop ?_);exact gf (h2 h' hx λb o hb q=>kp b o ((Kl J it _).extBut b o hb q))
def src :PySem.W.KdlSrc P w "dict_values" r d es.size (λi v=>∃e,es[i]?=some e/\v=e.val) (λh=>h.IsValuesView r d/\Ents h d es ep) where
 type:=λ_ q=>q.1.typeIs
 there:=λ_ ⟨⟨o,ho,_⟩,⟨o',Y,_⟩⟩=>⟨pb ho,pb Y⟩
 keep:=λ_ _ ⟨⟨o,ho,z⟩,x⟩ k=>⟨⟨o,k r (.inl rfl) o ho,z⟩,x.at λo e=>k d (.inr rfl) o e⟩
 notList:=by decide
 notTuple:=by decide
 hint:=λ_ _ _ _ q z=>PySem.W.kdl_hint_values q.1.typeIs z
 iter:=λA s Z ⟨q,x⟩=>by
  have lt:d<s.heap.objs.size:=by obtain⟨o,ho,_⟩:=x;exact pb ho
  have ne:=uw lt;refine⟨{ cls:=.type "dict_valueiterator",data:=.fields #[.ref d,.int 0 0,.int es.size 0,.int ep 0] },λi h=>h.IsValIter s.heap.objs.size d i es.size ep/\Ents h d es ep,λE Q z=>BS q x z,?_,⟨_,pe _ rfl,rfl,rfl⟩,x.at λo e=>gx _ e⟩;refine⟨λb D=>by simp at D;simp[D],λi h h' ⟨⟨o,ho,z⟩,y⟩ k=>⟨⟨o,k _ (by simp) o ho,z⟩,y.at λo e=>k d (by simp) o e⟩,λi s' Q E hi ⟨y,z⟩ J=>?_,λs' Q E ⟨y,z⟩ J=>?_,λi s' Q E ⟨y,z⟩ J=>?_⟩
  .refine vq Z y z (λe h' U y' sb=>?_) λh' U _=>absurd U (by simp;omega)
   exact J _ h' s'.toks ⟨e,U,rfl⟩ ⟨y',z.at λo q=>sb.extBut d o ne q⟩ λb o D q=>sb.extBut b o (λw=>D (by simp[w])) q
  .refine vq Z y z (λe h' U _ _=>absurd U (by simp)) λh' _ eb=>?_
   exact J h' s'.toks λb o D q=>eb b o (λw=>D (by simp[w])) q
  .exact wpAny_pyIter_valiter y J
end
end L2.Dv
namespace HT
open PySem PyProof.Rows List Option
section
variable{prog:Program}{w:World}{A:Around}{E:Value->Shared->Prop}{s:Shared}
def getItem_tuple_whole{items:Array Value}{Y Z:Value}{lo hi:Option Int}{Q:Value->Shared->Prop}(z:IsTup s.heap t items)(hs:s.heap.IsSliceOf sl Y Z .none)(pl:IsPart Y lo)(pu:IsPart Z hi)
  (h0:sIx items.size 0 lo=0) (h1:sIx items.size items.size hi=items.size) (h:Q (.ref t) s):wpAny (model prog w) A (getItem (.ref t) (.ref sl)) Q E s:=by
 have D:s.TypeIs (.ref sl) "slice":=by obtain⟨os,J,U,_⟩:=hs;exact⟨os,J,U⟩
 unfold getItem
 try with_reducible refine Kt ?_
 first|refine ez (gf ?_)|skip
 refine ez (wpAny_sequenceKey z.typeIs (by decide) ?_);refine ez (Kz (name:=Str.ofString "__getitem__") z.typeIs Ky
  (Kk Ky z.typeIs entry_tuple_getitem ?_ (args_tuple_getitem _ _)))
 show wpAny _ _ (Builtin.Tuple.tupleItemsOf _ >>= _) _ _ s;refine ez (tupleItemsOf_ z ?_);refine ez (LZ D ?_);rw[if_pos (by decide)];refine ez (gI hs pl pu ?_);show wpAny _ _ (if (((sIx items.size 0 lo:Nat):Int)==0&&_==1&&_==items.size)=true then _ else _) _ _ s;rw[h0,h1,if_pos (by simp)];unfold Builtin.Tuple.tupleIsExact;refine ez (ez (LZ z.typeIs (gf ?_)));rw[if_pos (by decide)];refine ez (Lx ?_);exact gf ⟨_,rfl,gf h⟩
end
end HT
namespace L2
open PySem PySem.Spec PyProof.Rows List Option
section
variable{X:Cx}
def BT:SlR X (λx lo hi H Q=>∃a xs,x=.ref a/\SqT X.K H a xs/\HT.sIx xs.length 0 lo=0/\HT.sIx xs.length xs.length hi=xs.length/\Q (.ref a) H):=by
 intro pins s σ H x v vl vu lo hi sl Q I J hs U Y h;refine aD λZq Z=>?_
 obtain⟨a,xs,rfl,hx,h0,h1,q⟩:=h;cases J;obtain⟨its,r,D,hz⟩:=I.tuple hx;have z:its.toArray.size=xs.length:=by rw[oe];exact r.length.symm
 refine Z ?_;refine⟨"tuple",_,Ky.lookup,D.typeIs,?_⟩;exact HT.getItem_tuple_whole D hs U Y (by rw[z];exact h0) (by rw[z];exact h1) ⟨.ref a,H,I,rfl,q⟩
end
end L2
namespace L2.Rv
open PySem PyProof.Rows List Option
section
variable{P:Program}{w:World}{A:Around}{E:Value->Shared->Prop}{s:Shared}
def Ep:typeLookup (.type "list_reverseiterator") "__len__"=pure none:=by rw[ML,L3];kernel_rfl
def yP:typeLookup (.type "list_reverseiterator") "__length_hint__"=pure (some (.builtin "list_reverseiterator.__length_hint__")):=by rw[ML,L3];kernel_rfl
def yQ (J:s.TypeIs (.ref it) "list_reverseiterator") (h:Q false s):wpAny (model P w) A (Builtin.List.listLengthHint (.ref it)) Q E s:=by
 unfold Builtin.List.listLengthHint;refine ez (MI J Ep ?_);refine Kf (λz=>absurd z (by decide)) (λ_=>?_);refine Kf (λz=>absurd z (by decide)) (λ_=>?_);refine ez (MI J yP ?_);generalize D:("list_reverseiterator.__length_hint__":String)=U
 wp_delta
 rw[show splitId U=some ("list_reverseiterator","__length_hint__")from by subst D;decide +kernel];subst D;refine ez (K2 (T:="list_reverseiterator") (b:=true) J (by rw[MX];kernel_rfl) ?_);refine Kf (λz=>absurd z (by decide)) (λ_=>?_);refine Kf (λ_=>?_) (λz=>absurd (by decide +kernel) z);refine Kf (λz=>absurd z (by decide +kernel)) (λ_=>?_);exact gf h
def Drawn(items:Array Value)(i:Nat)(v:Value):Prop:=items[items.size-1-i]?=some v
def t7{it l S:Addr}{items:Array Value}(hh:A.handled=none)(Z:l≠it)(J:s.heap.IsRevIter it l ((items.size:Int)-1))(hl:s.heap.IsList l items)(hn:items.size<=sizeLine)(U:S≠it)(ao:S≠l)(res)
  (hS:s.heap.get? S=some { cls:=.type "list",data:=.seq #[] })
  (hR:∀h' tk D c,(∀b o,b≠S->b≠it->s.heap.get? b=some o->h'.get? b=some o)->h'.get? S=some { cls:=.type "list",dict:=none,data:=.seq D c,slots:=#[] }->ItemsOf (Drawn items) D items.size->R (.ok (.ret res)) { s with heap:=h',toks:=tk }) :
  wpAny (model P w) A.in1 (Builtin.List.listExtendWith (.ref S) (.ref it) res)
   (λfin s'=>match fin with|.done f=>R (.ok f) s'|.again c'=>c'.quiet=true/\codeAny (model P w) A c' R s') (λe s'=>R (.error e) s') s:=by
 have hT:=J.typeIs;have W:=Walks.listRev (prog:=P) (w:=w) (A:=A.in1) (by simpa using hh) it l Z items;have aO:S∉[it,l]:=by simp[U,ao]
 unfold Builtin.List.listExtendWith;refine ez (LZ hT ?_);have h1:Builtin.List.listSameRef (.ref S) (.ref it)=false:=by simp[Builtin.List.listSameRef,U]
 rw[if_neg (by rw[h1];decide)];refine ez (wpAny_pyIter_revIter J ?_);refine ez (Kt (yQ hT ?_));refine Kf (λa0=>absurd a0 (by decide)) (λ_=>?_);refine gf ⟨MA PySem.F.plain_extend_loop _,?_⟩;refine codeAny_extend_loopS W.toS hn S aO res items.size 0 s #[] 0 rfl (Ke _) ⟨Ke _,by simpa using J,hl⟩ hS (ItemsOf.nil _) λs' D c hm a1 Y=>?_
 rw[Moved.eq_with hm];refine hR s'.heap s'.toks D c (λb o hb ba e=>hm.heap b o (λz=>?_) e) a1 Y
 simp_all
end
end L2.Rv
namespace L2
open PySem PySem.Spec PyProof.Rows List Option
section
variable{X:Cx}
def t8{its:List Value}(h:ItemsOf (Rv.Drawn its.toArray) acc its.toArray.size):acc.toList=its.reverse:=by
 have hs:acc.size=its.length:=by rw[h.1,oe]
 refine Ni λi=>?_
 rw[Kw];by_cases hi:i<its.length
 .cases e:acc[i]? with
  |none=>rw[Array.getElem?_eq_none_iff]at e;omega
  |some v =>
   have:=h.2 i v e;unfold Rv.Drawn at this;rw[oe,getElem?_toArray]at this;rw[getElem?_reverse hi,<- this]
 .simp_all
end
end L2
namespace L2.Rg
open PySem PyProof.Rows List Option
section
variable{P:Program}{w:World}{A:Around}{E:Value->Shared->Prop}{s:Shared}
end
end L2.Rg
namespace L2
open PySem PySem.Spec PyProof.Rows List Option
section
variable{X:Cx}
noncomputable def cnt(n:Nat):List V:=(range n).map λ(k:Nat)=>V.int (k:Int)
end
end L2
namespace L2.Rv
open PySem PyProof.Rows List Option
open AutoSeq1 (wpAny_loadPart')
section
variable{P:Program}{w:World}{A:Around}{E:Value->Shared->Prop}{s:Shared}
def list_rev{it l:Addr}{items:Array Value}(hh:A.handled=none)(J:l≠it)(D:s.heap.IsRevIter it l ((items.size:Int)-1))(Z:s.heap.IsList l items)(hn:items.size<=sizeLine)
  (h:∀h' tk z c,(∀b o,b≠it->s.heap.get? b=some o->h'.get? b=some o)->h'.get? s.heap.objs.size=some { cls:=.type "list",dict:=none,data:=.seq z c,slots:=#[] }->ItemsOf (Drawn items) z items.size->Q (.ref s.heap.objs.size) { s with heap:=h',toks:=tk }) :
  wpAny (model P w) A (call (.type "list") [.ref it]) Q E s:=by
 have li:it<s.heap.objs.size:=by obtain⟨o,ho,_⟩:=D;exact pb ho
 have ll:l<s.heap.objs.size:=by obtain⟨o,ho,_⟩:=Z;exact pb ho
 refine callType_codes F.called_list (F.typeCall_list_1 _) F.entry_list_init (code_list_new (.ref it) (Q₁:=λobj s1=>obj=.ref s.heap.objs.size/\s1={ s with heap:=s.heap.push { cls:=.type "list",data:=.seq #[] } }) ⟨rfl,rfl⟩) λobj s1 h1=>?_
 obtain⟨rfl,rfl⟩:=h1;have U:(s.heap.push { cls:=.type "list",data:=.seq #[] }).get? s.heap.objs.size=some { cls:=.type "list",data:=.seq #[] }:=pe _ rfl;refine⟨⟨_,U,rfl⟩,F.args_list_init_2 _ _,?_⟩;unfold Builtin.«list.__init__»;generalize hX:Builtin.List.listExtendWith=X
 wp_walk using wpAny_loadPart' U
 subst hX;have g1:((s.heap.push { cls:=.type "list",data:=.seq #[] }).update s.heap.objs.size (Obj.mapSeq λ_=>#[])).get? s.heap.objs.size=some { cls:=.type "list",data:=.seq #[] }:=Kv _ U rfl;have kp:∀b o,b≠s.heap.objs.size->s.heap.get? b=some o->((s.heap.push { cls:=.type "list",data:=.seq #[] }).update s.heap.objs.size (Obj.mapSeq λ_=>#[])).get? b=some o:=λb o Y e=>(Kl ..).extBut b o Y (gx _ e)
 refine t7 (A:=A.in1) (by simpa using hh) J (D.at λo e=>kp _ o (uw li) e) (Z.at λo e=>kp _ o (uw ll) e) hn (KY li) (KY ll) .none g1 λh' tk z c k e i=>?_
 exact⟨rfl,h h' tk z c (λb o Y q=>k b o (uw (pb q)) Y (kp b o (uw (pb q)) q)) e i⟩
end
end L2.Rv
namespace L2
open PySem PySem.Spec PyProof.Rows List Option
section
variable{X:Cx}
def t9 (hc:X.calm=true) (hg:Gl X "list") (hm:X.mg "list"=none) (hv:bootBuiltins "list"=some (.type "list")) (a0:Gl X "reversed") (a1:X.mg "reversed"=none) (hl:PE X l tl) (hs:starEach [l] X.env=[(false,eval l X.env)]:=by rfl) :
  PE X (.Call (.Name "list" p) [.Call (.Name "reversed" p2) [l] [] pos2] [] pos) (λσ H Q=>tl σ H λx H1=>∃a xs,x=.ref a/\SqL X.K H1 a xs/\∀q,H1 q=none->Q (.ref q) (upd H1 q (.lst xs.reverse))):=by
 intro pins s σ H Q I h;refine Ln (iL I hg hm hv ?_);refine KH (Mj ?_) rfl rfl;refine Ln (iL I a0 a1 PyProof.Rows.boot_reversed ?_);refine KH (thn (aM hl bL hs pos2 pins s σ H (λvs H1=>match vs with|[x]=>∃a xs,x=.ref a/\SqL X.K H1 a xs/\∀q,H1 q=none->Q (.ref q) (upd H1 q (.lst xs.reverse))|_=>False) I h) λus D ⟨vs,H1,I1,r1,q1⟩=>?_) hs rfl;cases r1 with
 |nil=>exact q1.elim
 |cons r rr =>
  cases rr with
  |cons _ _=>exact q1.elim
  |nil =>
   refine aD λZq kq=>?_
   obtain⟨a,xs,e,hq,q⟩:=q1;subst e;cases r;obtain⟨its,rv,pl,hz⟩:=I1.list hq;have la:a<D.heap.objs.size:=by obtain⟨o,ho,_⟩:=pl.isList;exact pb ho
   have aO:its.toArray.size=xs.length:=by rw[oe];exact rv.length.symm
   refine kq ?_;refine call_reversed_list pl.isList (M8 ?_);generalize Y:revObj a ((its.toArray.size:Int)-1)=J;have a4:(D.heap.push J).get? D.heap.objs.size=some J:=pe _ (by rw[<- Y];rfl);have I2:Inv X pins σ H1 { D with heap:=D.heap.push J }:=I1.kept (t':=D.toks) λb o e=>gx _ e
   have hn:=I1.hok.fresh (lC _);obtain⟨_,f1,_,f3,f4,f5⟩:=I1.fpOk (lC _) hn;refine Rv.list_rev (s:={ D with heap:=D.heap.push J }) (it:=D.heap.objs.size) (l:=a) (items:=its.toArray) (I1.ok.hd hc) (uw la) ⟨_,a4,by rw[<- Y];rfl,by rw[<- Y];rfl⟩ (pl.isList.at λo e=>gx _ e) (by rw[aO];exact hz) λh' tk U c k e it=>?_
   have z:(D.heap.push J).objs.size=D.heap.objs.size+1:=Kg ..;have ne:(D.heap.push J).objs.size≠D.heap.objs.size:=by omega
   have g2:((D.heap.push J).push { cls:=.type "list",data:=.seq U c }).get? (D.heap.push J).objs.size=some { cls:=.type "list",data:=.seq U c }:=pe _ rfl;have I3:Inv X pins σ (upd H1 (D.heap.push J).objs.size (.lst xs.reverse)) { D with heap:=(D.heap.push J).push { cls:=.type "list",data:=.seq U c },toks:=D.toks }:=I2.laid (λb o e=>gx _ e) (lC _) ⟨by rw[length_reverse];exact hz,U.toList,c,by rw[t8 it];exact rv.reverse,by rw[Array.toArray_toList];exact g2⟩;have a5:H1 (D.heap.push J).objs.size=none:=I1.hok.fresh (by omega);have I4:=I3.turned (t':=tk) (it:=D.heap.objs.size) (h':=h') (λb o hb Z=>by
    by_cases eb:b=(D.heap.push J).objs.size
    .subst eb;have Z:=Z;rw[g2]at Z;cases Z;exact e
    .refine k b o hb ?_;have Z:=Z;show(D.heap.push J).get? b=some o;rw[<- Heap.get?_push_ne _ _ _ eb];exact Z) (by rw[aZ ne.symm];exact hn) f1 f3 f4 f5
   exact⟨.ref (D.heap.push J).objs.size,_,I4,rfl,q _ a5⟩
end
end L2
namespace MM
open PySem List Option
inductive Sc where
 | non|bl (b:Bool)|int (i:Int)|str (x:Str)
 deriving Inhabited,DecidableEq
inductive DD where
 | k (kvs:List (Int×Sc))|t (kvs:List (List Int×Sc))
 | p (ns:List Int)
 deriving Inhabited
inductive PV where
 | non|bl (b:Bool)|int (i:Int)|str (x:Str)|tup (xs:List PV)|lst (xs:List PV)|dI (d:DD)
 deriving Inhabited
noncomputable def Sc.pv:Sc->PV
 | .non=>.non
 | .bl b=>.bl b
 | .int i=>.int i
 | .str x=>.str x
noncomputable def sc?:PV->Option Sc
 | .non=>some .non
 | .bl b=>some (.bl b)
 | .int i=>some (.int i)
 | .str x=>some (.str x)
 | _=>none
noncomputable def bQ{α:Type} [DecidableEq α] (kvs:List (α×Sc)) (k:α):Option Sc:=(kvs.find? λp=>decide (p.1=k)).map (·.2)
noncomputable def cN{α:Type} [DecidableEq α] (kvs:List (α×Sc)) (k:α) (v:Sc):List (α×Sc):=
 if (kvs.any λp=>decide (p.1=k))=true then kvs.map (λp=>if p.1=k then(p.1,v)else p)else kvs++[(k,v)]
noncomputable def eqL(f:PV->PV->Option Bool):List PV->List PV->Option Bool
 | [],[]=>some true
 |x::xs,y::ys=>(f x y).bind λp=>(eqL f xs ys).map λq=>p&&q
 | _,_=>some false
noncomputable def eqF:Nat->PV->PV->Option Bool
 | _,.non,.non=>some true
 | _,.bl a,.bl b=>some (a==b)
 | _,.bl a,.int b=>some ((if a then 1 else 0)==b)
 | _,.int a,.bl b=>some (a==(if b then 1 else 0))
 | _,.int a,.int b=>some (a==b)
 | _,.str a,.str b=>some (a==b)
 |0,.tup _,.tup _=>none
 |0,.lst _,.lst _=>none
 | _,.dI _,_=>none
 | _,_,.dI _=>none
 |n+1,.tup a,.tup b=>eqL (eqF n) a b
 |n+1,.lst a,.lst b=>if a.length=b.length then eqL (eqF n) a b else some false
 | _,_,_=>some false
noncomputable def t_:PV->PV->Bool
 | .tup _,.tup _=>true
 | .lst _,.lst _=>true
 | .tup _,_=>false
 | _,.tup _=>false
 | .lst _,_=>false
 | _,.lst _=>false
 | .bl _,.int _=>false
 | .int _,.bl _=>false
 | .dI _,_=>false
 | _,.dI _=>false
 | _,_=>true
noncomputable def inL(f:PV->Option Bool):List PV->Option Bool
 | []=>some false
 |y::ys=>(f y).bind λp=>(inL f ys).map λq=>p||q
inductive MV where
 | val (v:PV)|own (xs:List PV)|brw (xs:List PV)|ownD (d:DD)|brwD (d:DD)
 | mutD (d:DD)
 deriving Inhabited
noncomputable abbrev Rho:=List (Option MV)
inductive Op2 where
 | add|sub|mul|fdiv|mod|pow|shr
 deriving DecidableEq
inductive Cp where
 | eq|ne|lt|le|gt|ge|isN|notN|isIn|notIn
 deriving DecidableEq
inductive Blt where
 | len|tupleOf|listOf|sorted|any|all|sum|max1|min1|max2|min2|intOf|boolOf|isInt|isBool|isStr|isList|isTuple
 | sortedSet|lenSet|lenSetSub|sortedKeys|valuesOf|tupleRev
 deriving DecidableEq
inductive Sk where
 | seq|rng|enm|rev
 deriving DecidableEq
set_option genInjectivity false in
inductive ME where
 | var (i:Nat)
 | bor (i:Nat)
 | cst (v:PV)
 | glob (x:Str) (v:PV)
 | bin (op:Op2) (a b:ME)
 | neg (a:ME)
 | not (a:ME)
 | and (a b:ME)
 | or (a b:ME)
 | ite (c a b:ME)
 | cmp (op:Cp) (a b:ME)
 | chain (op op':Cp) (a b c:ME)
 | tup (es:List ME)
 | lst (es:List ME)
 | idx (a i:ME)
 | slice (a lo hi:ME)
 | blt (b:Blt) (es:List ME)
 | call (f:Nat) (es:List ME)
 | callD (f:Nat) (es:List ME) (d:List Sc)
 | comp (k:Sk) (src:List ME) (js:List Nat) (cond elt:ME)
 | dget (a k d:ME)
 | dat (a k:ME)
 | dIn (neg:Bool) (k a:ME)
 | lenP (i:Nat)
 | disp (kvs:List (Str×Str)) (e:ME)
 deriving Inhabited
noncomputable def bc:List PV->Option (List Int)
 | []=>some []
 | .int i::r=>(bc r).map (i::·)
 | _=>none
noncomputable def gR:List PV->Option (List (List Int))
 | []=>some []
 | .tup xs::r=>(bc xs).bind λx=>(gR r).map (x::·)
 | _=>none
noncomputable def cM:List PV->Option (List Bool)
 | []=>some []
 | .bl i::r=>(cM r).map (i::·)
 | _=>none
noncomputable def po(kvs:List (Str×Str)):List (L2.Key×L2.V):=kvs.map λp=>(Sum.inr p.1,L2.V.str p.2)
noncomputable def BU(kvs:List (Str×Str)):PV->Option PV
 | .str x=>(L2.jn (L2.iO [] (po kvs)) (Sum.inr x)).bind λv=>match v with|.str y=>some (.str y)|_=>none
 | _=>none
noncomputable def wS:PV->PV->Option (Option Sc)
 | .dI (.k kvs),.int i=>some (bQ kvs i)
 | .dI (.t kvs),.tup xs=>(bc xs).map (bQ kvs)
 | _,_=>none
noncomputable def qh:DD->PV->Sc->Option DD
 | .k kvs,.int i,s=>if kvs.length<10000 then some (.k (cN kvs i s))else none
 | .t kvs,.tup xs,s=>(bc xs).bind λk=>if kvs.length<10000 then some (.t (cN kvs k s))else none
 | _,_,_=>none
noncomputable def dSc:DD->List Sc
 | .k kvs=>kvs.map (·.2)
 | .t kvs=>kvs.map (·.2)
 | .p _=>[]
noncomputable def lL(d:DD):List PV:=(dSc d).map Sc.pv
noncomputable def lexLt:List Int->List Int->Bool
 | [],[]=>false
 | [],_::_=>true
 | _::_,[]=>false
 |x::xs,y::ys=>if x=y then lexLt xs ys else decide (x<y)
noncomputable def yR(x:Int):List Int->List Int
 | []=>[x]
 |y::r=>if y<x then y::yR x r else x::y::r
noncomputable def sortI:List Int->List Int
 | []=>[]
 |x::r=>yR x (sortI r)
noncomputable def yS(x:List Int):List (List Int)->List (List Int)
 | []=>[x]
 |y::r=>if lexLt y x=true then y::yS x r else x::y::r
noncomputable def sortT:List (List Int)->List (List Int)
 | []=>[]
 |x::r=>yS x (sortT r)
noncomputable def dd:List Int->List Int
 | []=>[]
 |x::r=>if x∈dd r then dd r else x::dd r
noncomputable def ke{α:Type}(f:Int->Int->Option α):PV->PV->Option α
 | .int i,.int j=>f i j
 | _,_=>none
noncomputable def C_:PV->PV->Option PV
 | .int i,.int j=>some (.int (i+j))
 | .lst a,.lst b=>if a.length+b.length<=10000 then some (.lst (a++b))else none
 | .tup a,.tup b=>if a.length+b.length<=10000 then some (.tup (a++b))else none
 | .str a,.str b=>if a.length+b.length<=1000000 then some (.str (a++b))else none
 | _,_=>none
noncomputable def gU(op:Op2):PV->PV->Option PV:=match op with
 | .add=>C_
 | .sub=>ke λi j=>some (.int (i-j))
 | .mul=>ke λi j=>if (-(2 ^ 64)<i/\i<2 ^ 64)\/(-(2 ^ 64)<j/\j<2 ^ 64)then some (.int (i*j))else none
 | .fdiv=>ke λi j=>if 0<j/\j<1073741824 then some (.int (i / j))else none
 | .mod=>ke λi j=>if 0<j then some (.int (i % j))else none
 | .pow=>ke λi j=>if 0<=j/\j<=1000000/\i.natAbs<2 ^ 64 then some (.int (i ^ j.toNat))else none
 | .shr=>ke λi j=>if 0<=j then some (.int (i / 2 ^ j.toNat))else none
noncomputable def jx:PV->Bool
 | .non=>true
 | _=>false
noncomputable def isIn(x:PV)(xs:List PV):Option Bool:=inL (λy=>eqF 100 y x) xs
noncomputable def Hg(a b:PV):Option Bool:=match b with
 | .non=>some (jx a)
 | .bl q=>(match a with|.bl p=>some (p==q)|_=>none)
 | _=>none
noncomputable def a_:PV->Option (List PV)
 | .tup xs=>some xs
 | .lst xs=>some xs
 | _=>none
noncomputable def iI:PV->Option (List PV)
 | .lst xs=>some xs
 | _=>none
noncomputable def cF(op:Cp):PV->PV->Option Bool:=match op with
 | .eq=>eqF 100
 | .ne=>λa b=>if t_ a b=true then(eqF 100 a b).map λp=>!p else none
 | .lt=>ke λi j=>some (decide (i<j))
 | .le=>ke λi j=>some (decide (i<=j))
 | .gt=>ke λi j=>some (decide (j<i))
 | .ge=>ke λi j=>some (decide (j<=i))
 | .isN=>Hg
 | .notN=>λa b=>(Hg a b).map λp=>!p
 | .isIn=>λa b=>(a_ b).bind (isIn a)
 | .notIn=>λa b=>((a_ b).bind (isIn a)).map λp=>!p
noncomputable def place(n:Nat)(i:Int):Option Nat:=
 if 0<=i then(if i<n then some i.toNat else none)else if -(n:Int)<=i then some (i+n).toNat else none
noncomputable def gW:PV->PV->Option PV
 | .tup xs,.int i=>(place xs.length i).bind λj=>xs[j]?
 | .lst xs,.int i=>(place xs.length i).bind λj=>xs[j]?
 | _,_=>none
noncomputable def iR(n d:Nat):Option Int->Nat
 |none=>d
 |some i=>if i<0 then(i+n).toNat else min i.toNat n
noncomputable def cut(xs:List PV)(lo hi:Option Int):List PV:=(xs.drop (iR xs.length 0 lo)).take (iR xs.length xs.length hi-iR xs.length 0 lo)
noncomputable def mj:PV->Option Int->Option Int->Option PV
 | .lst xs,lo,hi=>some (.lst (cut xs lo hi))
 | .tup xs,lo,hi=>some (.tup (cut xs lo hi))
 | _,_,_=>none
noncomputable def bnd:ME->PV->Option (Option Int)
 | .cst .non,_=>some none
 | _,.int i=>some (some i)
 | _,_=>none
noncomputable def yT:List Int->Option Int
 | []=>none
 |x::r=>some (r.foldl (λa b=>if a<b then b else a) x)
noncomputable def BV:List Int->Option Int
 | []=>none
 |x::r=>some (r.foldl (λa b=>if b<a then b else a) x)
noncomputable def iS(xs:List PV):Option PV:=
 if xs.length<64 then
  match bc xs with
  |some ns=>some (.lst ((sortI ns).map .int))
  |none=>(gR xs).map λz=>.lst ((sortT z).map λt=>.tup (t.map .int))
 else none
noncomputable def isT(b:Blt):PV->Bool
 | .int _=>b==.isInt
 | .bl _=>b==.isInt||b==.isBool
 | .str _=>b==.isStr
 | .lst _=>b==.isList
 | .tup _=>b==.isTuple
 | .non=>false
 | .dI _=>false
noncomputable def isD:PV->Bool
 | .dI _=>true
 | _=>false
noncomputable def cb(vs:List PV)(f:PV->Option PV):Option PV:=match vs with
 | [a]=>f a
 | _=>none
noncomputable def nj(vs:List PV)(f:PV->PV->Option PV):Option PV:=match vs with
 | [a,b]=>f a b
 | _=>none
noncomputable def jo(b:Blt)(vs:List PV):Option PV:=cb vs λa=>if isD a=true then none else some (.bl (isT b a))
noncomputable def Hh:PV->Option PV
 | .tup xs=>some (.int xs.length)
 | .lst xs=>some (.int xs.length)
 | .dI (.k kvs)=>some (.int kvs.length)
 | _=>none
noncomputable def aA(b:Blt)(vs:List PV):Option PV:=match b with
 | .len=>cb vs Hh
 | .tupleOf=>cb vs λa=>(a_ a).map .tup
 | .listOf=>cb vs λa=>(a_ a).map .lst
 | .sorted=>cb vs λa=>(a_ a).bind iS
 | .any=>cb vs λa=>(iI a).bind λxs=>(cM xs).map λbs=>.bl (bs.any id)
 | .all=>cb vs λa=>(iI a).bind λxs=>(cM xs).map λbs=>.bl (bs.all id)
 | .sum=>cb vs λa=>(iI a).bind λxs=>(bc xs).map λns=>.int ns.sum
 | .max1=>cb vs λa=>(iI a).bind λxs=>(bc xs).bind λns=>(yT ns).map .int
 | .min1=>cb vs λa=>(iI a).bind λxs=>(bc xs).bind λns=>(BV ns).map .int
 | .max2=>nj vs (ke λi j=>some (.int (if j > i then j else i)))
 | .min2=>nj vs (ke λi j=>some (.int (if j<i then j else i)))
 | .intOf=>cb vs λa=>match a with|.int i=>some (.int i)|.bl b=>some (.int (if b then 1 else 0))|_=>none
 | .boolOf=>cb vs λa=>match a with|.bl b=>some (.bl b)|_=>none
 | .isInt=>jo .isInt vs
 | .isBool=>jo .isBool vs
 | .isStr=>jo .isStr vs
 | .isList=>jo .isList vs
 | .isTuple=>jo .isTuple vs
 | .sortedSet=>cb vs λa=>(a_ a).bind λxs=>(bc xs).bind λns=>if ns.length<=4000/\(dd ns).length<64 then some (.lst ((sortI (dd ns)).map .int))else none
 | .lenSet=>cb vs λa=>(a_ a).bind λxs=>(bc xs).bind λns=>if ns.length<=4000 then some (.int (dd ns).length)else none
 | .lenSetSub=>nj vs λa b=>(a_ a).bind λxs=>(bc xs).bind λns=>(a_ b).bind λys=>(bc ys).bind λms =>
   if ns.length<=4000/\ms.length<=4000/\(dd ns).length<=60 then some (.int ((dd ns).filter λn=>!decide (n∈ms)).length)else none
 | .sortedKeys=>cb vs λa=>match a with|.dI (.k kvs)=>if kvs.length<64 then some (.lst ((sortI (kvs.map (·.1))).map .int))else none|_=>none
 | .tupleRev=>cb vs λa=>(iI a).map λxs=>.tup xs.reverse
 | .valuesOf=>cb vs λa=>match a with|.dI d=>if (lL d).length<=10000 then some (.lst (lL d))else none|_=>none
noncomputable def cn(n:Nat):List PV->List PV
 | []=>[]
 |x::r=>.tup [.int (n:Nat),x]::cn (n+1) r
noncomputable def bq:Sk->List PV->Option (List PV)
 | .seq,[a]=>a_ a
 | .rng,[.int j]=>if -(2 ^ 62)<=j/\j<2 ^ 62 then some ((range j.toNat).map λ(k:Nat)=>.int ((0:Int)+k))else none
 | .rng,[.int i,.int j]=>if -(2 ^ 62)<=i/\i<2 ^ 62/\-(2 ^ 62)<=j/\j<2 ^ 62 then some ((range (j-i).toNat).map λ(k:Nat)=>.int (i+k))else none
 | .enm,[a]=>(a_ a).map (cn 0)
 | .rev,[.lst xs]=>some xs.reverse
 | _,_=>none
noncomputable def gu(c:PV->Option Bool)(f:PV->Option PV):List PV->Option (List PV)
 | []=>some []
 |x::r=>(c x).bind λb=>if b=true then(f x).bind λy=>(gu c f r).map (y::·)else gu c f r
noncomputable def bb:PV->Option Bool
 | .bl b=>some b
 | _=>none
noncomputable abbrev Cal:=Nat->List MV->Option PV
noncomputable def yU:Option MV->Option PV
 |some (.val v)=>some v
 | _=>none
noncomputable def rT:DD->Bool
 | .p _=>false
 | _=>true
noncomputable def bB:Option MV->Option PV
 |some (.val v)=>some v
 |some (.own xs)=>some (.lst xs)
 |some (.brw xs)=>some (.lst xs)
 |some (.ownD kvs)=>if rT kvs=true then some (.dI kvs)else none
 |some (.brwD kvs)=>if rT kvs=true then some (.dI kvs)else none
 |some (.mutD kvs)=>if rT kvs=true then some (.dI kvs)else none
 |none=>none
noncomputable def gX:Option MV->Option MV
 |some (.val v)=>some (.val v)
 |some (.own xs)=>some (.brw xs)
 |some (.brw xs)=>some (.brw xs)
 |some (.ownD xs)=>some (.brwD xs)
 |some (.brwD xs)=>some (.brwD xs)
 |some (.mutD xs)=>some (.brwD xs)
 |none=>none
noncomputable def fR:Option MV->Option MV
 |some (.own xs)=>some (.brw xs)
 |some (.ownD xs)=>some (.brwD xs)
 |some (.mutD xs)=>some (.brwD xs)
 |o=>o
noncomputable def cx(js:List Nat)(W:Rho)(x:PV):Rho:=some (.val x)::js.map λj=>fR (W[j]?).join
noncomputable def ua:Option MV->Option PV
 |some (.ownD (.p ns))=>some (.int ns.length)
 |some (.mutD (.p ns))=>some (.int ns.length)
 | _=>none
mutual
noncomputable def ev(cal:Cal):ME->Rho->Option PV
 | .var i,W=>yU (W[i]?).join
 | .bor i,W=>bB (W[i]?).join
 | .cst v,_=>some v
 | .glob _ v,_=>some v
 | .bin op a b,W=>(ev cal a W).bind λx=>(ev cal b W).bind λy=>gU op x y
 | .neg a,W=>(ev cal a W).bind λx=>match x with|.int i=>some (.int (-i))|_=>none
 | .not a,W=>((ev cal a W).bind bb).map λb=>.bl (!b)
 | .and a b,W=>((ev cal a W).bind bb).bind λc=>if c=true then(ev cal b W).bind λy=>(bb y).map .bl else some (.bl false)
 | .or a b,W=>((ev cal a W).bind bb).bind λc=>if c=true then some (.bl true)else(ev cal b W).bind λy=>(bb y).map .bl
 | .ite c a b,W=>((ev cal c W).bind bb).bind λk=>if k=true then ev cal a W else ev cal b W
 | .cmp op a b,W=>(ev cal a W).bind λx=>(ev cal b W).bind λy=>(cF op x y).map .bl
 | .chain op D a b c,W=>(ev cal a W).bind λx=>(ev cal b W).bind λy=>(cF op x y).bind λk=>if k=true then(ev cal c W).bind λz=>(cF D y z).map .bl else some (.bl false)
 | .tup es,W=>(evs cal es W).bind λvs=>if vs.length<=10000 then some (.tup vs)else none
 | .lst es,W=>(evs cal es W).bind λvs=>if vs.length<=10000 then some (.lst vs)else none
 | .idx a i,W=>(ev cal a W).bind λx=>(ev cal i W).bind λy=>gW x y
 | .slice a lo hi,W=>(ev cal a W).bind λx=>((ev cal lo W).bind λl=>bnd lo l).bind λl=>((ev cal hi W).bind λh=>bnd hi h).bind λh=>mj x l h
 | .blt b es,W=>(evs cal es W).bind λvs=>aA b vs
 | .call f es,W=>(evA cal es W).bind λvs=>cal f vs
 | .callD f es d,W=>(evA cal es W).bind λvs=>cal f (vs++d.map λx=>.val x.pv)
 | .comp k src js cond elt,W=>(evs cal src W).bind λvs=>(bq k vs).bind λxs =>
   if xs.length<=10000 then(gu (λx=>(ev cal cond (cx js W x)).bind bb) (λx=>ev cal elt (cx js W x)) xs).map .lst else none
 | .dget a k d,W=>(ev cal a W).bind λx=>(ev cal k W).bind λy=>(ev cal d W).bind λz=>(wS x y).bind λo=>(sc? z).map λs=>(o.getD s).pv
 | .dat a k,W=>(ev cal a W).bind λx=>(ev cal k W).bind λy=>(wS x y).bind λo=>o.map Sc.pv
 | .dIn neg k a,W=>(ev cal k W).bind λy=>(ev cal a W).bind λx=>(wS x y).map λo=>.bl (if neg=true then !o.isSome else o.isSome)
 | .lenP i,W=>ua (W[i]?).join
 | .disp kvs e,W=>(ev cal e W).bind (BU kvs)
noncomputable def evs(cal:Cal):List ME->Rho->Option (List PV)
 | [],_=>some []
 |e::es,W=>(ev cal e W).bind λv=>(evs cal es W).map (v::·)
noncomputable def evA(cal:Cal):List ME->Rho->Option (List MV)
 | [],_=>some []
 | .bor i::es,W=>(gX (W[i]?).join).bind λv=>(evA cal es W).map (v::·)
 |e::es,W=>(ev cal e W).bind λv=>(evA cal es W).map (MV.val v::·)
end
noncomputable def evB(cal:Cal)(e:ME)(W:Rho):Option Bool:=(ev cal e W).bind bb
noncomputable def gY:Option MV->Option DD
 |some (.ownD d)=>some d
 |some (.mutD d)=>some d
 | _=>none
noncomputable def evM(cal:Cal):List Bool->List ME->Rho->Option (List MV)
 | [],[],_=>some []
 |true::bs,.bor i::es,W=>(gY (W[i]?).join).bind λd=>(evM cal bs es W).map (MV.mutD d::·)
 |false::bs,e::es,W=>(evA cal [e] W).bind λa=>match a with|[.val v]=>(evM cal bs es W).map (MV.val v::·)|_=>none
 | _,_,_=>none
noncomputable def fN(W:Rho)(i:Nat)(d:DD):Rho:=match (W[i]?).join with
 |some (.ownD _)=>W.set i (some (.ownD d))
 | _=>W.set i (some (.mutD d))
noncomputable def kf:List Bool->List ME->List PV->Rho->Option Rho
 | [],[],[],W=>some W
 |true::bs,.bor i::es,.dI d::ds,W=>kf bs es ds (fN W i d)
 |false::bs,_::es,ds,W=>kf bs es ds W
 | _,_,_,_=>none
noncomputable def rU(cal:Cal)(f:Nat)(mask:List Bool)(es:List ME)(W:Rho):Option (PV×Rho):=
 match (evM cal mask es W).bind λvs=>cal (f+2000) vs with
 |some (.tup (v::ds))=>(kf mask es ds W).map λl=>(v,l)
 | _=>none
inductive SK where
 | one|cat|pair
 deriving DecidableEq
noncomputable def Da:SK->PV->PV->Option PV
 | .one,_,v=>some v
 | .cat,w,v=>gU .add w v
 | .pair,w,v=>some (.tup [w,v])
noncomputable def BW:Option MV->Option MV
 |some (.val v)=>some (.val v)
 |some (.brw xs)=>some (.brw xs)
 |some (.ownD d)=>some (.mutD d)
 |some (.mutD d)=>some (.mutD d)
 |some (.brwD d)=>some (.brwD d)
 | _=>none
noncomputable def k_(js:List Nat)(W:Rho)(x:PV):Rho:=some (.val x)::js.map λj=>BW (W[j]?).join
noncomputable def Er(js:List Nat):ME->ME
 | .bor i=>.bor (if i=0 then 0 else js.getD (i-1) 0)
 |e=>e
noncomputable def dj(cal:Cal)(js:List Nat)(k:SK)(e:ME)(f:Nat)(mask:List Bool)(es:List ME):List PV->Rho->Option (List PV×Rho)
 | [],W=>some ([],W)
 |x::xs,W=>(ev cal e (k_ js W x)).bind λw=>match (evM cal mask es (k_ js W x)).bind λvs=>cal (f+2000) vs with
  |some (.tup (v::ds))=>(Da k w v).bind λr=>(kf mask (es.map (Er js)) ds W).bind λl=>(dj cal js k e f mask es xs l).map λp=>(r::p.1,p.2)
  | _=>none
inductive XE where
 | pure (e:ME)
 | call (f:Nat) (mask:List Bool) (es:List ME)
 | pop (i:Nat)
 | bin (op:Op2) (a:XE) (b:ME)
 | fn (g:Nat) (a:XE) (es:List ME)
 | tup (xs:List XE)
 | tupOf (a:XE)
 | lst (xs:List XE)
 | fn2 (g:Nat) (e:ME) (a:XE)
 | compS (src:ME) (js:List Nat) (k:SK) (e:ME) (f:Nat) (mask:List Bool) (es:List ME)
 deriving Inhabited
noncomputable def BX(i:Nat)(W:Rho):Option (PV×Rho):=match gY (W[i]?).join with
 |some (.p ns)=>(ns.getLast?).map λn=>(.int n,fN W i (.p ns.dropLast))
 | _=>none
mutual
noncomputable def evX(cal:Cal):XE->Rho->Option (PV×Rho)
 | .pure e,W=>(ev cal e W).map λv=>(v,W)
 | .call f mask es,W=>rU cal f mask es W
 | .pop i,W=>BX i W
 | .bin op a b,W=>(evX cal a W).bind λp=>(ev cal b p.2).bind λy=>(gU op p.1 y).map λr=>(r,p.2)
 | .fn g a es,W=>(evX cal a W).bind λp=>(evA cal es p.2).bind λvs=>(cal g (.val p.1::vs)).map λr=>(r,p.2)
 | .tup xs,W=>(evXs cal xs W).bind λp=>if p.1.length<=10000 then some (.tup p.1,p.2)else none
 | .lst xs,W=>(evXs cal xs W).bind λp=>if p.1.length<=10000 then some (.lst p.1,p.2)else none
 | .fn2 g e a,W=>(ev cal e W).bind λw=>(evX cal a W).bind λp=>(cal g [.val w,.val p.1]).map λr=>(r,p.2)
 | .tupOf a,W=>(evX cal a W).bind λp=>(aA .tupleOf [p.1]).map λr=>(r,p.2)
 | .compS src js k e f mask es,W=>(evs cal [src] W).bind λvs=>(bq .seq vs).bind λxs=>if xs.length<=10000 then(dj cal js k e f mask es xs W).map λp=>(.lst p.1,p.2)else none
noncomputable def evXs(cal:Cal):List XE->Rho->Option (List PV×Rho)
 | [],W=>some ([],W)
 |x::xs,W=>(evX cal x W).bind λp=>(evXs cal xs p.2).map λq=>(p.1::q.1,q.2)
end
set_option genInjectivity false in
inductive MS where
 | set (i:Nat) (e:ME)
 | setOwn (i:Nat) (e:ME)
 | freeze (i:Nat)
 | append (i:Nat) (e:ME)
 | extend (i:Nat) (e:ME)
 | setIdx (i:Nat) (k v:ME)
 | unpack (is:List Nat) (e:ME)
 | expr (e:ME)
 | ite (c:ME) (a b:List MS)
 | for1 (i:Nat) (k:Sk) (src:List ME) (body:List MS)
 | forT (is:List Nat) (k:Sk) (src:List ME) (body:List MS)
 | while (n:Nat) (c:ME) (body:List MS)
 | ret (e:ME)
 | retOwn (i:Nat)
 | retN
 | brk
 | cont
 | pass
 | never
 | newD (m:Bool) (i:Nat)
 | retM (e:ME)
 | retF (e:ME)
 | setCall (i f:Nat) (es:List ME)
 | clear (i:Nat)
 | setP (i:Nat) (e:ME)
 | setX (i:Nat) (x:XE)
 | appX (i:Nat) (x:XE)
 | ownX (i:Nat) (xs:List XE)
 | retXE (x:XE)
 | forX (i:Nat) (x:XE) (body:List MS)
 | dput (i:Nat) (k v:ME)
 deriving Inhabited
inductive R where
 | next (W:Rho)|brk (W:Rho)|cont (W:Rho)|ret (v:PV)|bad
 | retF (xs:List PV)
 | retM (v:PV) (W:Rho)
 deriving Inhabited
noncomputable def R.andThen:R->(Rho->R)->R
 | .next W,k=>k W
 |r,_=>r
noncomputable def put(W:Rho)(i:Nat)(v:MV):Rho:=W.set i (some v)
noncomputable def eR(o:Option PV)(k:PV->R):R:=match o with
 |some v=>k v
 |none=>.bad
noncomputable def yV(o:Option Bool)(k:Bool->R):R:=match o with
 |some v=>k v
 |none=>.bad
noncomputable def nk:List Nat->List PV->Rho->Option Rho
 | [],[],W=>some W
 |i::is,v::vs,W=>nk is vs (put W i (.val v))
 | _,_,_=>none
noncomputable def cK(is:List Nat):PV->Rho->Option Rho
 | .tup vs,W=>nk is vs W
 | _,_=>none
noncomputable def cc(o:Option Rho)(f:Rho->R):R:=match o with
 |some W=>f W
 |none=>.bad
noncomputable def au(body:PV->Rho->R):List PV->Rho->R
 | [],W=>.next W
 |x::r,W=>match body x W with
  | .next l=>au body r l
  | .cont l=>au body r l
  | .brk l=>.next l
  | .ret v=>.ret v
  | .bad=>.bad
  | .retF xs=>.retF xs
  | .retM v l=>.retM v l
noncomputable def qi(c:Rho->Option Bool)(body:Rho->R):Nat->Rho->R
 |0,_=>.bad
 |n+1,W=>match c W with
  |none=>.bad
  |some false=>.next W
  |some true=>match body W with
   | .next l=>qi c body n l
   | .cont l=>qi c body n l
   | .brk l=>.next l
   | .ret v=>.ret v
   | .bad=>.bad
   | .retF xs=>.retF xs
   | .retM v l=>.retM v l
noncomputable def bG(src:List ME)(W:Rho):Rho:=match src with
 | [.bor i]=>(match (W[i]?).join with|some (.own xs)=>put W i (.brw xs)|_=>W)
 | _=>W
noncomputable def aP(src:List ME)(z W:Rho):Rho:=match src with
 | [.bor i]=>(match (z[i]?).join,(W[i]?).join with|some (.own _),some (.brw xs)=>put W i (.own xs)|_,_=>W)
 | _=>W
noncomputable def R.back(src:List ME)(z:Rho):R->R
 | .next W=>.next (aP src z W)
 | .brk W=>.brk (aP src z W)
 | .cont W=>.cont (aP src z W)
 | .retM v W=>.retM v (aP src z W)
 |r=>r
mutual
noncomputable def ex(cal:Cal):MS->Rho->R
 | .set i e,W=>eR (ev cal e W) λv=>.next (put W i (.val v))
 | .setOwn i e,W=>eR (ev cal e W) λv=>match v with|.lst xs=>.next (put W i (.own xs))|_=>.bad
 | .freeze i,W=>match (W[i]?).join with|some (.own xs)=>.next (put W i (.val (.lst xs)))|some _=>.next W|none=>.bad
 | .append i e,W=>eR (ev cal e W) λv=>match (W[i]?).join with
  |some (.own xs)=>if xs.length<10000 then .next (put W i (.own (xs++[v])))else .bad
  | _=>.bad
 | .extend i e,W=>eR (ev cal e W) λv=>match (W[i]?).join,a_ v with
  |some (.own xs),some ys=>if xs.length+ys.length<=10000 then .next (put W i (.own (xs++ys)))else .bad
  | _,_=>.bad
 | .setIdx i k v,W=>eR (ev cal v W) λv=>eR (ev cal k W) λk=>match (W[i]?).join,k with
  |some (.own xs),.int k=>(match place xs.length k with|some j=>.next (put W i (.own (xs.set j v)))|none=>.bad)
  | _,_=>.bad
 | .unpack is e,W=>eR (ev cal e W) λv=>cc (cK is v W) .next
 | .expr e,W=>eR (ev cal e W) λ_=>.next W
 | .ite c a b,W=>yV (evB cal c W) λk=>if k=true then exs cal a W else exs cal b W
 | .for1 i k src body,W=>match (evs cal src W).bind (bq k)with
  |some xs=>(au (λx l=>exs cal body (put l i (.val x))) xs (bG src W)).back src W
  |none=>.bad
 | .forT is k src body,W=>match (evs cal src W).bind (bq k)with
  |some xs=>(au (λx l=>cc (cK is x l) λz=>exs cal body z) xs (bG src W)).back src W
  |none=>.bad
 | .while n c body,W=>qi (evB cal c) (λl=>exs cal body l) n W
 | .ret e,W=>eR (ev cal e W) .ret
 | .retOwn i,W=>match (W[i]?).join with|some (.own xs)=>.ret (.lst xs)|some (.ownD kvs)=>if rT kvs=true then .ret (.dI kvs)else .bad|some (.val v)=>.ret v|_=>.bad
 | .newD m i,W=>.next (put W i (.ownD (if m=true then .t []else .k [])))
 | .dput i k v,W=>eR (ev cal v W) λv=>eR (ev cal k W) λk=>match (W[i]?).join,sc? v with
  |some (.ownD d),some s=>match qh d k s with|some d'=>.next (put W i (.ownD d'))|none=>.bad
  |some (.mutD d),some s=>match qh d k s with|some d'=>.next (put W i (.mutD d'))|none=>.bad
  | _,_=>.bad
 | .retM e,W=>eR (ev cal e W) λv=>.retM v W
 | .retF e,W=>eR (ev cal e W) λv=>match v with|.lst xs=>.retF xs|_=>.bad
 | .setCall i f es,W=>eR ((evA cal es W).bind λvs=>cal (f+1000) vs) λv=>match v with|.lst xs=>.next (put W i (.own xs))|_=>.bad
 | .clear i,W=>match (W[i]?).join with|some (.own _)=>.next (put W i (.own []))|_=>.bad
 | .setP i e,W=>match ev cal e W with
  |some (.lst xs)=>(match bc xs with
   |some ns=>.next (put W i (.ownD (.p ns.reverse)))
   |none=>.bad)
  | _=>.bad
 | .setX i x,W=>match evX cal x W with
  |some (v,l)=>.next (put l i (.val v))
  |none=>.bad
 | .ownX i xs,W=>match evXs cal xs W with
  |some (vs,l)=>if vs.length<=10000 then .next (put l i (.own vs))else .bad
  |none=>.bad
 | .appX i x,W=>match (W[i]?).join with
  |some (.own _)=>(match evX cal x W with
   |some (v,l)=>(match (l[i]?).join with
    |some (.own xs)=>if xs.length<10000 then .next (put l i (.own (xs++[v])))else .bad
    | _=>.bad)
   |none=>.bad)
  | _=>.bad
 | .retXE x,W=>match evX cal x W with
  |some (v,l)=>.retM v l
  |none=>.bad
 | .forX i x body,W=>match evX cal x W with
  |some (v,l)=>(match bq .rng [v]with
   |some xs=>au (λy z=>exs cal body (put z i (.val y))) xs l
   |none=>.bad)
  |none=>.bad
 | .retN,_=>.ret .non
 | .brk,W=>.brk W
 | .cont,W=>.cont W
 | .pass,W=>.next W
 | .never,_=>.bad
noncomputable def exs(cal:Cal):List MS->Rho->R
 | [],W=>.next W
 |s::ss,W=>(ex cal s W).andThen λl=>exs cal ss l
end
structure MD where
 name:Str
 params:List Str
 names:List Str
 body:List MS
 deriving Inhabited
noncomputable def eC:List MV->Rho->Option (List PV)
 | [],_=>some []
 | .mutD _::as,some (.mutD d)::W=>(eC as W).map (.dI d::·)
 | .val _::as,_::W=>eC as W
 | _,_=>none
noncomputable def aa(ds:List MD):Nat->Cal
 |0,_,_=>none
 |n+1,f,args=>match ds[f]? with
  |none=>if 2000<=f then(
   match ds[f-2000]? with
   |none=>none
   |some d=>if args.length=d.params.length then
     (match exs (aa ds n) d.body (args.map some++replicate (d.names.length-args.length) none)with
     | .retM v W=>(eC args W).map λds=>.tup (v::ds)
     | _=>none)else none)else
   (match ds[f-1000]? with
   |none=>none
   |some d=>if args.length=d.params.length then
     (match exs (aa ds n) d.body (args.map some++replicate (d.names.length-args.length) none)with
     | .retF xs=>some (.lst xs)
     | _=>none)else none)
  |some d=>if args.length=d.params.length then
    (match exs (aa ds n) d.body (args.map some++replicate (d.names.length-args.length) none)with
    | .next _=>some .non
    | .ret v=>some v
    | .retF xs=>some (.lst xs)
    | _=>none)else none
end MM
namespace MM
open PySem PySem.Spec PyProof.Rows L2 List Option
noncomputable abbrev St:=L2.St
noncomputable def aw(H:Hp)(O:List Addr):Hp:=λb=>if b∈O then none else H b
def eV(h:b∈O):aw H O b=none:=if_pos h
def aW(h:b∉O):aw H O b=H b:=if_neg h
theorem aj.rd(s:aj H H')(h:Rd H a u):Rd H' a u:=h.elim (λe=>.inl (s a _ e)) λ⟨o,e⟩=>.inr ⟨o,s a _ e⟩
def bU(H)(O):aj (aw H O) H:=λb u e=>by
 unfold aw at e
 simp_all
def bI(s:aj H H')(h:∀b∈J,b∈O\/H b=none):aj (aw H O) (aw H' J):=λb u e=>by
 have D:b∉O:=λz=>by rw[eV z]at e;cases e
 rw[aW D]at e;rw[aW]
 .exact s b u e
 .intro z;rcases h b z with q|q
  .exact D q
  .rw[q]at e;cases e
def al(s:aj H H'):aj (aw H O) (aw H' O):=bI s λ_ h=>.inl h
noncomputable def Sc.v:Sc->V
 | .non=>.non
 | .bl b=>.bl b
 | .int i=>.int i
 | .str x=>.str x
noncomputable def gZ(kvs:List (Int×Sc)):List (Key×V):=kvs.map λp=>(Sum.inl p.1,p.2.v)
noncomputable def jJ(kvs:List (List Int×Sc)):List (List Key×V):=kvs.map λp=>(p.1.map Sum.inl,p.2.v)
noncomputable def iT:DD->HO
 | .k kvs=>.dK (gZ kvs)
 | .t kvs=>.dT (jJ kvs)
 | .p ns=>.lst (ns.map V.int)
def RdD(F:Hp)(a:Addr)(d:DD):Prop:=Rd F a (iT d)/\rT d=true
theorem RdD.rd(h:RdD F a d):Rd F a (iT d):=h.1
theorem aj.rdD(s:aj H H')(h:RdD H a d):RdD H' a d:=⟨aj.rd s h.1,h.2⟩
mutual
noncomputable def Rep(K:Nx)(F:Hp):PV->V->Prop
 | .non,u=>u=.non
 | .bl b,u=>u=.bl b
 | .int i,u=>u=.int i
 | .str x,u=>u=.str x
 | .tup xs,u=>∃a us,u=.ref a/\F a=some (.tup us)/\Reps K F xs us
 | .lst xs,u=>∃a us,u=.ref a/\SqL K F a us/\Reps K F xs us
 | .dI kvs,u=>∃a,u=.ref a/\RdD F a kvs
noncomputable def Reps(K:Nx)(F:Hp):List PV->List V->Prop
 | [],us=>us=[]
 |x::xs,us=>∃u r,us=u::r/\Rep K F x u/\Reps K F xs r
end
section
variable{K:Nx}{F F':Hp}
mutual
theorem Rep.mono(s:aj F F'):∀(x:PV) {u:V},Rep K F x u->Rep K F' x u
 | .non,_,h=>by simpa only[Rep]using h
 | .bl _,_,h=>by simpa only[Rep]using h
 | .int _,_,h=>by simpa only[Rep]using h
 | .str _,_,h=>by simpa only[Rep]using h
 | .tup xs,_,h=>by
  rw[Rep]at h ⊢;obtain⟨a,us,e,q,r⟩:=h;exact⟨a,us,e,s a _ q,Reps.mono s xs r⟩
 | .lst xs,_,h=>by
  rw[Rep]at h ⊢;obtain⟨a,us,e,q,r⟩:=h;exact⟨a,us,e,s.seq q,Reps.mono s xs r⟩
 | .dI kvs,_,h=>by
  rw[Rep]at h ⊢;obtain⟨a,e,q⟩:=h;exact⟨a,e,aj.rdD s q⟩
theorem Reps.mono(s:aj F F'):∀(xs:List PV) {us:List V},Reps K F xs us->Reps K F' xs us
 | [],_,h=>by simpa only[Reps]using h
 |x::xs,_,h=>by
  rw[Reps]at h ⊢;obtain⟨u,r,e,q,t⟩:=h;exact⟨u,r,e,Rep.mono s x q,Reps.mono s xs t⟩
end
theorem Reps.nil:Reps K F [] []:=rfl
theorem Reps.cons{u:V}{us:List V}(h:Rep K F x u)(t:Reps K F xs us):Reps K F (x::xs) (u::us):=by
 rw[Reps];exact⟨u,us,rfl,h,t⟩
theorem Reps.length:∀{xs}{us},Reps K F xs us->xs.length=us.length
 | [],_,h=>by rw[Reps]at h;subst h;rfl
 |x::xs,_,h=>by
  obtain⟨u,r,e,_,t⟩:=h;subst e;simp[Reps.length t]
theorem Reps.get:∀{xs}{us}{i:Nat}{x},Reps K F xs us->xs[i]?=some x->∃u,us[i]?=some u/\Rep K F x u
 | [],_,_,_,_,e=>by simp at e
 |x::xs,_,i,y,h,e=>by
  obtain⟨u,r,rfl,q,t⟩:=h;cases i with
  |zero=>simp at e;subst e;exact⟨u,by simp,q⟩
  |succ i=>obtain⟨w,h1,h2⟩:=Reps.get (i:=i) t (by simpa using e);exact⟨w,by simpa using h1,h2⟩
theorem Reps.get':∀{xs}{us}{i:Nat}{u},Reps K F xs us->us[i]?=some u->∃x,xs[i]?=some x/\Rep K F x u
 | [],_,i,_,h,e=>by rw[Reps]at h;subst h;simp at e
 |x::xs,_,i,y,h,e=>by
  obtain⟨u,r,rfl,q,t⟩:=h;cases i with
  |zero=>simp at e;subst e;exact⟨x,by simp,q⟩
  |succ i=>obtain⟨w,h1,h2⟩:=Reps.get' (i:=i) t (by simpa using e);exact⟨w,by simpa using h1,h2⟩
theorem Reps.append:∀{xs ys}{us z},Reps K F xs us->Reps K F ys z->Reps K F (xs++ys) (us++z)
 | [],_,_,_,h,g=>by rw[Reps]at h;subst h;exact g
 |x::xs,_,_,_,h,g=>by
  obtain⟨u,r,rfl,q,t⟩:=h;exact .cons q (Reps.append t g)
theorem Reps.snoc(h:Reps K F xs us)(g:Rep K F x u):Reps K F (xs++[x]) (us++[u]):=h.append (.cons g .nil)
theorem Reps.take:∀{xs}{us} n,Reps K F xs us->Reps K F (xs.take n) (us.take n)
 | _,_,0,_=>by simpa using Reps.nil
 | [],_,n+1,h=>by rw[Reps]at h;subst h;simpa using Reps.nil
 |x::xs,_,n+1,h=>by
  obtain⟨u,r,rfl,q,t⟩:=h;exact .cons q (Reps.take n t)
theorem Reps.drop:∀{xs}{us} n,Reps K F xs us->Reps K F (xs.drop n) (us.drop n)
 | _,_,0,h=>h
 | [],_,n+1,h=>by rw[Reps]at h;subst h;simpa using Reps.nil
 |x::xs,_,n+1,h=>by
  obtain⟨u,r,rfl,q,t⟩:=h;exact Reps.drop n t
theorem Reps.set:∀{xs}{us}{x}{u} n,Reps K F xs us->Rep K F x u->Reps K F (xs.set n x) (us.set n u)
 | [],_,_,_,n,h,_=>by rw[Reps]at h;subst h;simpa using Reps.nil
 |x::xs,_,_,_,0,h,g=>by
  obtain⟨u,r,rfl,q,t⟩:=h;exact .cons g t
 |x::xs,_,_,_,n+1,h,g=>by
  obtain⟨u,r,rfl,q,t⟩:=h;exact .cons q (Reps.set n t g)
theorem Reps.dropLast(h:Reps K F xs us):Reps K F xs.dropLast us.dropLast:=by
 rw[dropLast_eq_take,dropLast_eq_take,<- h.length];exact h.take _
theorem Reps.ints:∀{ns:List Int}{us},Reps K F (ns.map .int) us->us=ns.map V.int
 | [],_,h=>by simpa[Reps]using h
 |n::ns,_,h=>by
  obtain⟨u,r,rfl,q,t⟩:=h;rw[q,Reps.ints t];rfl
theorem Reps.of_ints:∀(ns:List Int),Reps K F (ns.map .int) (ns.map V.int)
 | []=>.nil
 |n::ns=>.cons (by rw[Rep]) (Reps.of_ints ns)
theorem dk:∀{xs}{ns},bc xs=some ns->xs=ns.map .int
 | [],_,h=>by simp[bc]at h;subst h;rfl
 | .int i::r,ns,h=>by
  simp[bc]at h;obtain⟨ms,h1,rfl⟩:=h;rw[dk h1];rfl
 | .non::_,_,h=>by simp[bc]at h
 | .bl _::_,_,h=>by simp[bc]at h
 | .str _::_,_,h=>by simp[bc]at h
 | .tup _::_,_,h=>by simp[bc]at h
 | .lst _::_,_,h=>by simp[bc]at h
 | .dI _::_,_,h=>by simp[bc]at h
theorem rV:∀{xs}{ns},gR xs=some ns->xs=ns.map λt=>.tup (t.map .int)
 | [],_,h=>by simp[gR]at h;subst h;rfl
 | .tup i::r,ns,h=>by
  simp[gR,ft]at h;obtain⟨t,z,ms,h1,rfl⟩:=h;rw[rV h1,dk z];rfl
 | .non::_,_,h=>by simp[gR]at h
 | .bl _::_,_,h=>by simp[gR]at h
 | .str _::_,_,h=>by simp[gR]at h
 | .int _::_,_,h=>by simp[gR]at h
 | .lst _::_,_,h=>by simp[gR]at h
 | .dI _::_,_,h=>by simp[gR]at h
theorem lb:∀{xs}{ns},cM xs=some ns->xs=ns.map .bl
 | [],_,h=>by simp[cM]at h;subst h;rfl
 | .bl i::r,ns,h=>by
  simp[cM]at h;obtain⟨ms,h1,rfl⟩:=h;rw[lb h1];rfl
 | .non::_,_,h=>by simp[cM]at h
 | .int _::_,_,h=>by simp[cM]at h
 | .str _::_,_,h=>by simp[cM]at h
 | .tup _::_,_,h=>by simp[cM]at h
 | .lst _::_,_,h=>by simp[cM]at h
 | .dI _::_,_,h=>by simp[cM]at h
end
def eE{K:Nx}{H:Hp}{a:Addr}{us:List V}(h:H a=some (.tup us)):SqT K H a us:=SqT.of h
def bH(K:Nx)(H:Hp)(O:List Addr)(v:PV)(u:V):Prop:=
 Rep K (aw H O) v u\/(∃xs a us,v=.lst xs/\u=.ref a/\SqL K H a us/\Reps K (aw H O) xs us)\/∃kvs a,v=.dI kvs/\u=.ref a/\RdD H a kvs
section
variable{K:Nx}{H H':Hp}{O:List Addr}
theorem bH.of(h:Rep K (aw H O) v u):bH K H O v u:=.inl h
theorem bH.mono(s:aj H H')(h:bH K H O v u):bH K H' O v u:=by
 rcases h with h|⟨xs,a,us,z,D,q,r⟩|⟨kvs,a,z,D,q⟩
 .exact .inl (Rep.mono (al s) _ h)
 .exact .inr (.inl ⟨xs,a,us,z,D,s.seq q,Reps.mono (al s) _ r⟩)
 .exact .inr (.inr ⟨kvs,a,z,D,aj.rdD s q⟩)
theorem bH.lst(h:bH K H O (.lst xs) u):∃a us,u=.ref a/\SqL K H a us/\Reps K (aw H O) xs us:=by
 rcases h with h|⟨ys,a,us,z,D,q,r⟩|⟨kvs,a,z,D,q⟩
 .rw[Rep]at h;obtain⟨a,us,e,q,r⟩:=h;exact⟨a,us,e,(bU H O).seq q,r⟩
 .cases z;exact⟨a,us,D,q,r⟩
 .cases z
def bH.tupH(h:bH K H O (.tup xs) u):∃a us,u=.ref a/\H a=some (.tup us)/\Reps K (aw H O) xs us:=by
 rcases h with h|⟨ys,a,us,z,D,q,r⟩|⟨kvs,a,z,D,q⟩
 .rw[Rep]at h;obtain⟨a,us,e,q,r⟩:=h;exact⟨a,us,e,bU H O a _ q,r⟩
 .cases z
 .cases z
theorem bH.tup(h:bH K H O (.tup xs) u):∃a us,u=.ref a/\SqT K H a us/\Reps K (aw H O) xs us:=by
 obtain⟨a,us,e,q,r⟩:=h.tupH;exact⟨a,us,e,SqT.of q,r⟩
def bH.tupR(h:bH K H O (.tup xs) u):Rep K (aw H O) (.tup xs) u:=by
 rcases h with h|⟨ys,a,us,z,D,q,r⟩|⟨kvs,a,z,D,q⟩
 .exact h
 .cases z
 .cases z
theorem bH.dI(h:bH K H O (.dI kvs) u):∃a,u=.ref a/\RdD H a kvs:=by
 rcases h with h|⟨ys,a,us,z,D,q,r⟩|⟨kvs,a,z,D,q⟩
 .rw[Rep]at h;obtain⟨a,e,q⟩:=h;exact⟨a,e,aj.rdD (bU H O) q⟩
 .cases z
 .simp_all
theorem bH.int(h:bH K H O (.int i) u):u=.int i:=by
 rcases h with h|⟨ys,a,us,z,D,q,r⟩|⟨kvs,a,z,D,q⟩
 .rw[Rep]at h;exact h
 .cases z
 .cases z
theorem bH.bl(h:bH K H O (.bl i) u):u=.bl i:=by
 rcases h with h|⟨ys,a,us,z,D,q,r⟩|⟨kvs,a,z,D,q⟩
 .rw[Rep]at h;exact h
 .cases z
 .cases z
theorem bH.str(h:bH K H O (.str i) u):u=.str i:=by
 rcases h with h|⟨ys,a,us,z,D,q,r⟩|⟨kvs,a,z,D,q⟩
 .rw[Rep]at h;exact h
 .cases z
 .cases z
theorem bH.non(h:bH K H O .non u):u=.non:=by
 rcases h with h|⟨ys,a,us,z,D,q,r⟩|⟨kvs,a,z,D,q⟩
 .rw[Rep]at h;exact h
 .cases z
 .cases z
theorem bH.seq(h:bH K H O v u)(e:a_ v=some xs):∃a us,u=.ref a/\(SqL K H a us\/SqT K H a us)/\Reps K (aw H O) xs us:=by
 cases v<;>first|(simp[a_]at e;subst e;obtain⟨a,us,e,q,r⟩:=h.lst;exact⟨a,us,e,.inl q,r⟩)|(simp[a_]at e;subst e;obtain⟨a,us,e,q,r⟩:=h.tup;exact⟨a,us,e,.inr q,r⟩)|simp[a_]at e
def bH.whole(h:bH K H O v u):Rep K H v u:=by
 rcases h with h|⟨xs,a,us,rfl,z,q,r⟩|⟨kvs,a,rfl,z,q⟩
 .exact Rep.mono (bU H O) _ h
 .rw[Rep];exact⟨a,us,z,q,Reps.mono (bU H O) _ r⟩
 .rw[Rep];exact⟨a,z,q⟩
end
abbrev DAt(_:Nx)(H:Hp)(_:List Addr)(a:Addr)(d:DD):Prop:=H a=some (iT d)
theorem DAt.here{K:Nx}(h:DAt K H O a d):∃o,H a=some o:=⟨_,h⟩
theorem DAt.put1{K:Nx}(_:qh d y s=some d')(h:DAt K H O a d):H a=some (iT d):=h
theorem DAt.put2{K:Nx}{H:Hp}{O:List Addr}{a:Addr}{d d':DD}{y:PV}{s:Sc}(_:qh d y s=some d')(h:H a=some (iT d')):DAt K H O a d':=h
theorem DAt.np{K:Nx}(h:DAt K H O a d)(_:rT d=true):H a=some (iT d):=h
theorem DAt.move{K:Nx}{H H':Hp}{O z:List Addr}{a:Addr}{d:DD}(h:DAt K H O a d)(e:∀o,H a=some o->H' a=some o)(_:aj (aw H O) (aw H' z)):DAt K H' z a d:=e _ h
def fo(K:Nx)(B:Hp)(O:List Addr)(H:Hp):MV->V->Prop
 | .val v,u=>Rep K (aw H O) v u
 | .own xs,u=>∃a us,u=.ref a/\H a=some (.lst us)/\Reps K (aw H O) xs us/\a∈O/\B a=none
 | .brw xs,u=>∃a us,u=.ref a/\SqL K B a us/\Reps K (aw H O) xs us
 | .ownD kvs,u=>∃a,u=.ref a/\DAt K H O a kvs/\a∈O/\B a=none
 | .mutD kvs,u=>∃a,u=.ref a/\DAt K H O a kvs/\a∈O/\B a=none
 | .brwD kvs,u=>∃a,u=.ref a/\Rd B a (iT kvs)
noncomputable def iJ:MV->Bool
 | .own _=>true
 | .ownD _=>true
 | .mutD _=>true
 | _=>false
structure aE(K:Nx)(B:Hp)(E O:List Addr)(H:Hp)(W:Rho)(σ:St):Prop where
 keep:aj B H
 here:∀a∈O,H a≠none
 sub:∀a∈E,a∈O
 old:∀a∈E,B a≠none
 len:W.length=σ.length
 slot:∀(i:Nat) (m:MV),W[i]?=some (some m)->∃u,σ[i]?=some (some u)/\fo K B O H m u
 apart:∀(i j:Nat) (m m':MV) (a:Addr),i≠j->W[i]?=some (some m)->W[j]?=some (some m')->iJ m=true->iJ m'=true->σ[i]?=some (some (.ref a))->σ[j]?≠some (some (.ref a))
section
variable{K:Nx}{B H H':Hp}{E O:List Addr}{W:Rho}{σ:St}
theorem fo.mono(s:aj H H')(h:fo K B O H m u):fo K B O H' m u:=by
 cases m with
 |val v=>exact Rep.mono (al s) _ h
 |own xs=>obtain⟨a,us,e,q,r,h1,h2⟩:=h;exact⟨a,us,e,s _ _ q,Reps.mono (al s) _ r,h1,h2⟩
 |brw xs=>obtain⟨a,us,e,q,r⟩:=h;exact⟨a,us,e,q,Reps.mono (al s) _ r⟩
 |brwD kvs=>exact h
 | _=>obtain⟨a,e,q,h1,h2⟩:=h;exact⟨a,e,q.move (s _) (al s),h1,h2⟩
theorem aE.mono(s:aj H H')(h:aE K B E O H W σ):aE K B E O H' W σ where
 keep:=h.keep.trans s
 here:=λa z e=>h.here a z (s.free e)
 sub:=h.sub
 old:=h.old
 len:=h.len
 slot:=λi m e=>let ⟨u,D,q⟩:=h.slot i m e;⟨u,D,q.mono s⟩
 apart:=h.apart
theorem fo.bor(z:aj B H)(h:fo K B O H m u)(e:bB (some m)=some v):bH K H O v u:=by
 cases m with
 |val w=>simp[bB]at e;subst e;exact .inl h
 |own xs=>simp[bB]at e;subst e;obtain⟨a,us,e,q,r,_⟩:=h;exact .inr (.inl ⟨xs,a,us,rfl,e,SqL.of q,r⟩)
 |brw xs=>simp[bB]at e;subst e;obtain⟨a,us,e,q,r⟩:=h;exact .inr (.inl ⟨xs,a,us,rfl,e,z.seq q,r⟩)
 |ownD kvs|mutD kvs=>simp[bB]at e;obtain⟨np,rfl⟩:=e;obtain⟨a,e,q,_⟩:=h;exact .inr (.inr ⟨kvs,a,rfl,e,.inl (q.np np),np⟩)
 |brwD kvs=>simp[bB]at e;obtain⟨np,rfl⟩:=e;obtain⟨a,e,q⟩:=h;exact .inr (.inr ⟨kvs,a,rfl,e,aj.rd z q,np⟩)
end
def aG{α:Type}{o:Option (Option α)}{x:α}(h:o.join=some x):o=some (some x):=by
 cases o<;>simp_all
def vt(h:bB (some (.ownD d))=some v):v=.dI d:=by simp_all [bB]
def vv(h:bB (some (.brwD d))=some v):v=.dI d:=by simp_all [bB]
def vz(h:bB (some (.mutD d))=some v):v=.dI d:=by simp_all [bB]
structure Tab where
 fs:List Str
 gs:List (Str×PV)
 ds:List (List Sc)
noncomputable def Es(sc:Scope)(x:Str):Bool:=sc.names.lookup x==some .local||sc.names.lookup x==some .cell||sc.names.lookup x==some .free
noncomputable def fO(sc:Scope)(x:Str):Bool:=sc.names.lookup x==some .local||sc.names.lookup x==some .cell
noncomputable def glB(sc:Scope)(x:Str):Bool:=sc.names.lookup x==some .globalImplicit
noncomputable def aq (x:Str):Bool:=!(x==("__debug__":Str))&&!(x==("__classdict__":Str))&&!(x==("__name__":Str))
noncomputable def aX(N:List Str)(sc:Scope)(i:Nat)(x:Str):Bool:=N[i]?==some x&&Es sc x&&aq x
noncomputable def onQ{α:Type}:Option α->(α->Bool)->Bool
 |some a,f=>f a
 |none,_=>false
def ak(h:onQ o f=true):∃a,o=some a/\f a=true:=by
 cases o with
 |none=>cases h
 |some a=>exact⟨a,rfl,h⟩
def bV{α z:Type}{o:Option α}{f:α->Option z}{b:z}(h:o.bind f=some b):∃a,o=some a/\f a=some b:=ft.mp h
noncomputable def okQ{α:Type}(b:Bool)(x:α):Option α:=if b=true then some x else none
def jK(h:okQ b x=some y):b=true/\x=y:=by
 cases b with
 |false=>cases h
 |true=>cases h;exact⟨rfl,rfl⟩
noncomputable def kg{α:Type}:List α->Option α
 | [x]=>some x
 | _=>none
def cV(h:kg l=some x):l=[x]:=by
 rcases l with _|⟨a,_|⟨b,l⟩⟩<;>cases h
 rfl
noncomputable def yW{α:Type}:List α->Option (α×α)
 | [x,y]=>some (x,y)
 | _=>none
def ml(h:yW l=some q):l=[q.1,q.2]:=by
 rcases l with _|⟨a,_|⟨b,_|⟨c,l⟩⟩⟩<;>cases h
 rfl
noncomputable def nmP:Expr->Option (Str×Pos)
 | .Name x p=>some (x,p)
 | _=>none
def eF(h:nmP e=some q):e=.Name q.1 q.2:=by
 cases e<;>cases h
 rfl
noncomputable def caP:Expr->Option (Expr×List Expr×List Keyword×Pos)
 | .Call f as ks p=>some (f,as,ks,p)
 | _=>none
def yX(h:caP e=some q):e=.Call q.1 q.2.1 q.2.2.1 q.2.2.2:=by
 cases e<;>cases h
 rfl
noncomputable def atP:Expr->Option (Expr×Str×Pos)
 | .Attribute o m p=>some (o,m,p)
 | _=>none
def Et(h:atP e=some q):e=.Attribute q.1 q.2.1 q.2.2:=by
 cases e<;>cases h
 rfl
noncomputable def biP:Expr->Option (Expr×Operator×Expr×Pos)
 | .BinOp l o r p=>some (l,o,r,p)
 | _=>none
def qj(h:biP e=some q):e=.BinOp q.1 q.2.1 q.2.2.1 q.2.2.2:=by
 cases e<;>cases h
 rfl
noncomputable def suP:Expr->Option (Expr×Expr×Pos)
 | .Subscript v s p=>some (v,s,p)
 | _=>none
def nl(h:suP e=some q):e=.Subscript q.1 q.2.1 q.2.2:=by
 cases e<;>cases h
 rfl
noncomputable def lcP:Expr->Option (Expr×List Comprehension×Scope×Pos)
 | .ListComp e g s p=>some (e,g,s,p)
 | _=>none
def ub(h:lcP e=some q):e=.ListComp q.1 q.2.1 q.2.2.1 q.2.2.2:=by
 cases e<;>cases h
 rfl
noncomputable def coP:Expr->Option (Expr×List CmpOp×List Expr×Pos)
 | .Compare l o r p=>some (l,o,r,p)
 | _=>none
def Eu(h:coP e=some q):e=.Compare q.1 q.2.1 q.2.2.1 q.2.2.2:=by
 cases e<;>cases h
 rfl
noncomputable def ctP:Expr->Option (Const×Nat×Pos)
 | .Constant c j p=>some (c,j,p)
 | _=>none
def yY(h:ctP e=some q):e=.Constant q.1 q.2.1 q.2.2:=by
 cases e<;>cases h
 rfl
noncomputable def tuP:Expr->Option (List Expr×Nat×Pos)
 | .Tuple xs j p=>some (xs,j,p)
 | _=>none
def uc(h:tuP e=some q):e=.Tuple q.1 q.2.1 q.2.2:=by
 cases e<;>cases h
 rfl
noncomputable def liP:Expr->Option (List Expr×Pos)
 | .List xs p=>some (xs,p)
 | _=>none
def qk(h:liP e=some q):e=.List q.1 q.2:=by
 cases e<;>cases h
 rfl
noncomputable def unP:Expr->Option (UnaryOp×Expr×Pos)
 | .UnaryOp o e p=>some (o,e,p)
 | _=>none
def Ev(h:unP e=some q):e=.UnaryOp q.1 q.2.1 q.2.2:=by
 cases e<;>cases h
 rfl
noncomputable def boP:Expr->Option (BoolOp×List Expr×Pos)
 | .BoolOp o vs p=>some (o,vs,p)
 | _=>none
def yZ(h:boP e=some q):e=.BoolOp q.1 q.2.1 q.2.2:=by
 cases e<;>cases h
 rfl
noncomputable def ifP:Expr->Option (Expr×Expr×Expr×Pos)
 | .IfExp t x y p=>some (t,x,y,p)
 | _=>none
def Ew(h:ifP e=some q):e=.IfExp q.1 q.2.1 q.2.2.1 q.2.2.2:=by
 cases e<;>cases h
 rfl
noncomputable def slP:Expr->Option (Option Expr×Option Expr×Option Expr×Pos)
 | .Slice l u s p=>some (l,u,s,p)
 | _=>none
def Ex(h:slP e=some q):e=.Slice q.1 q.2.1 q.2.2.1 q.2.2.2:=by
 cases e<;>cases h
 rfl
noncomputable def asP:Stmt->Option (List Expr×Expr×Pos)
 | .Assign z v p=>some (z,v,p)
 | _=>none
def y0(h:asP s=some q):s=.Assign q.1 q.2.1 q.2.2:=by
 cases s<;>cases h
 rfl
noncomputable def rW(e:Expr):Option (Str×List Expr):=(caP e).bind λc=>(nmP c.1).bind λx=>okQ c.2.2.1.isEmpty (x.1,c.2.1)
def fT(h:rW e=some q):∃p cp,e=.Call (.Name q.1 p) q.2 [] cp:=by
 obtain⟨c,h1,h⟩:=bV h;obtain⟨x,h2,h⟩:=bV h;obtain⟨z,rfl⟩:=jK h;exact⟨_,_,by rw[yX h1,eF h2,Lz.mp z]⟩
noncomputable def rX(e:Expr):Option (Str×Expr):=(rW e).bind λc=>(kg c.2).bind λa=>some (c.1,a)
def im(h:rX e=some q):∃p cp,e=.Call (.Name q.1 p) [q.2] [] cp:=by
 obtain⟨c,h1,h⟩:=bV h;obtain⟨a,h2,h⟩:=bV h;cases h;obtain⟨p,cp,rfl⟩:=fT h1;exact⟨p,cp,by rw[cV h2]⟩
noncomputable def maP(e:Expr):Option (Expr×Str×Pos×List Expr×Pos):=(caP e).bind λc=>(atP c.1).bind λa=>okQ c.2.2.1.isEmpty (a.1,a.2.1,a.2.2,c.2.1,c.2.2.2)
def ud(h:maP e=some q):e=.Call (.Attribute q.1 q.2.1 q.2.2.1) q.2.2.2.1 [] q.2.2.2.2:=by
 obtain⟨c,h1,h⟩:=bV h;obtain⟨x,h2,h⟩:=bV h;obtain⟨z,rfl⟩:=jK h;rw[yX h1,Et h2,Lz.mp z]
noncomputable def maN(e:Expr):Option (Str×Str×Pos×List Expr×Pos):=(maP e).bind λa=>(nmP a.1).bind λx=>some (x.1,a.2.1,a.2.2.1,a.2.2.2.1,a.2.2.2.2)
def y_(h:maN e=some q):∃p,e=.Call (.Attribute (.Name q.1 p) q.2.1 q.2.2.1) q.2.2.2.1 [] q.2.2.2.2:=by
 obtain⟨c,h1,h⟩:=bV h;obtain⟨x,h2,h⟩:=bV h;cases h;exact⟨x.2,by rw[ud h1,eF h2]⟩
noncomputable def Ey(e:Expr):Option (Expr×CmpOp×Expr):=(coP e).bind λc=>(kg c.2.1).bind λo=>(kg c.2.2.1).bind λr=>some (c.1,o,r)
def vA(h:Ey e=some q):∃pos,e=.Compare q.1 [q.2.1] [q.2.2] pos:=by
 obtain⟨c,h1,h⟩:=bV h;obtain⟨x,h2,h⟩:=bV h;obtain⟨y,z,h⟩:=bV h;cases h;exact⟨c.2.2.2,by rw[Eu h1,cV h2,cV z]⟩
noncomputable def Hi(e:Expr):Option (Expr×Option Expr×Option Expr):=(suP e).bind λc=>(slP c.2.1).bind λs=>okQ s.2.2.1.isNone (c.1,s.1,s.2.1)
def BY(h:Hi e=some q):∃p pos,e=.Subscript q.1 (.Slice q.2.1 q.2.2 none p) pos:=by
 obtain⟨c,h1,h⟩:=bV h;obtain⟨x,h2,h⟩:=bV h;obtain⟨z,rfl⟩:=jK h;exact⟨_,_,by rw[nl h1,Ex h2,isNone_iff_eq_none.mp z]⟩
noncomputable def lcX(e:Expr):Option (Expr×Scope×(Str×Pos)×Expr×List Expr):=(lcP e).bind λc=>(kg c.2.1).bind λg=>(nmP g.target).bind λx=>okQ (g.is_async==0) (c.1,c.2.2.1,x,g.iter,g.ifs)
def za(h:lcX e=some q):∃pos,e=.ListComp q.1 [⟨.Name q.2.2.1.1 q.2.2.1.2,q.2.2.2.1,q.2.2.2.2,0⟩] q.2.1 pos:=by
 obtain⟨c,h1,h⟩:=bV h;obtain⟨⟨tg,it,is,as⟩,h2,h⟩:=bV h;obtain⟨x,z,h⟩:=bV h;obtain⟨D,rfl⟩:=jK h;exact⟨c.2.2.2,by rw[ub h1,cV h2,eF (e:=tg) z,show as=0 from eq_of_beq D]⟩
noncomputable def diP:Expr->Option (List (Option Expr)×List Expr×Pos)
 | .Dict ks vs p=>some (ks,vs,p)
 | _=>none
def zb(h:diP e=some q):e=.Dict q.1 q.2.1 q.2.2:=by
 cases e<;>cases h
 rfl
noncomputable def exP:Stmt->Option (Expr×Pos)
 | .Expr e p=>some (e,p)
 | _=>none
def Ez(h:exP s=some q):s=.Expr q.1 q.2:=by
 cases s<;>cases h
 rfl
noncomputable def reP:Stmt->Option (Option Expr×Pos)
 | .Return v p=>some (v,p)
 | _=>none
def EA(h:reP s=some q):s=.Return q.1 q.2:=by
 cases s<;>cases h
 rfl
noncomputable def Hj:Const->Option Str
 | .str x=>some x
 | _=>none
def BZ(h:Hj c=some x):c=.str x:=by
 cases c<;>cases h
 rfl
noncomputable def EB(e:Expr):Option Str:=(ctP e).bind λc=>Hj c.1
def vB(h:EB e=some x):∃j p,e=.Constant (.str x) j p:=by
 obtain⟨c,h1,h⟩:=bV h;exact⟨c.2.1,c.2.2,by rw[yY h1,BZ h]⟩
noncomputable def hdQ{α:Type}:List α->Option (α×List α)
 |x::l=>some (x,l)
 | _=>none
def EC(h:hdQ l=some q):l=q.1::q.2:=by
 cases l<;>cases h
 rfl
noncomputable def aI:ME->Bool
 | .bor _=>true
 | _=>false
noncomputable def ue:Op2->Operator
 | .add=>.Add|.sub=>.Sub|.mul=>.Mult|.fdiv=>.FloorDiv|.mod=>.Mod|.pow=>.Pow|.shr=>.RShift
noncomputable def zc:Cp->CmpOp
 | .eq=>.Eq|.ne=>.NotEq|.lt=>.Lt|.le=>.LtE|.gt=>.Gt|.ge=>.GtE|.isN=>.Is|.notN=>.IsNot|.isIn=>.In|.notIn=>.NotIn
noncomputable def uf:PV->Const->Bool
 | .non,.none=>true
 | .bl a,.bool b=>a==b
 | .int a,.int b=>a==b
 | .str a,.str b=>a==b
 | _,_=>false
noncomputable def Db:PV->PV->Bool
 | .non,.non=>true
 | .bl a,.bl b=>a==b
 | .int a,.int b=>a==b
 | .str a,.str b=>a==b
 | _,_=>false
noncomputable def Dc(gs:List (Str×PV))(x:Str)(v:PV):Bool:=gs.any λp=>p.1==x&&Db p.2 v
noncomputable def ah:Expr->Bool
 | .Starred ..=>false
 | _=>true
noncomputable def fq:Expr->Bool
 | .Set ..=>false
 | _=>true
noncomputable def b9:Expr->Bool
 | .Slice ..=>false
 | _=>true
noncomputable def bW:Expr->Bool
 | .ListComp ..=>false
 | .SetComp ..=>false
 | .DictComp ..=>false
 | _=>true
noncomputable def lc:Expr->Bool
 | .UnaryOp .Not _ _=>false
 | .BoolOp ..=>false
 | .IfExp ..=>false
 | .Compare ..=>false
 | _=>true
noncomputable def rY:Blt->String
 | .len=>"len" | .tupleOf=>"tuple" | .listOf=>"list" | .sorted=>"sorted" | .any=>"any" | .all=>"all" | .sum=>"sum" | .max1=>"max" | .min1=>"min" | .max2=>"max" | .min2=>"min"
 | .intOf=>"int" | .boolOf=>"bool" | .isInt=>"isinstance" | .isBool=>"isinstance" | .isStr=>"isinstance" | .isList=>"isinstance" | .isTuple=>"isinstance" | .sortedKeys=>"sorted" | .valuesOf=>"list" | .sortedSet=>"sorted" | .lenSet=>"len" | .lenSetSub=>"len" | .tupleRev=>"tuple"
noncomputable def dl:Blt->Option String
 | .isInt=>some "int" | .isBool=>some "bool" | .isStr=>some "str" | .isList=>some "list" | .isTuple=>some "tuple"
 | _=>none
noncomputable def lf:Blt->Option Nat
 | .len|.tupleOf|.listOf|.sorted|.any|.all|.sum|.intOf|.boolOf|.max1|.sortedKeys=>some 1
 | .min1=>some 1
 | .max2|.min2=>some 2
 | _=>none
noncomputable def fU(osc:Scope)(N:List Str)(scope:Scope)(x:Str)(fvs:List Str)(js:List Nat):Bool:=
 decide (∀y∈scope.names,y.2=.cell->y.1=x)&&decide (scope.names.lookup x=some .local/\(scope.names.filter λy=>y.2==.cell)=[]\/scope.names.lookup x=some .cell/\(scope.names.filter λy=>y.2==.cell)=[(x,.cell)])
 &&decide (∀y∈scope.names,y.2=.free->y.1≠x)&&scope.kind==.function&&decide (∀y∈scope.names,y.2=.local->scope.names.lookup y.1=some .local)
 &&decide ((x::fvs).Nodup)&&decide (∀y∈scope.names,y.2=.free->osc.names.lookup y.1=some .cell\/osc.names.lookup y.1=some .free)&&decide ((js.map λj=>N[j]?)=fvs.map some)
 &&decide (∀y∈fvs,scope.names.lookup y=some .free)
noncomputable def dG(N:List Str)(js:List Nat):List Str:=js.map λj=>(N[j]?).getD Str.empty
noncomputable def nq(sc:Scope)(tup:Bool)(f:List Expr->Bool):Sk->Expr->Bool
 | .seq,it=>fq it&&f [it]
 | .rng,it=>onQ (rW it) λc=>c.1==("range":Str)&&glB sc c.1&&f c.2&&(c.2.length==1||c.2.length==2)
 | .rev,_=>false
 | .enm,it=>onQ (rX it) λc=>tup&&c.1==("enumerate":Str)&&glB sc c.1&&f [c.2]&&ah c.2
noncomputable def rZ(sc:Scope)(f:List Expr->Bool)(n:Nat)(c:String)(args:List Expr):Bool:=onQ (yW args) λa=>onQ (nmP a.2) λt=>t.1==(c:Str)&&glB sc t.1&&f [a.1]&&n==1
noncomputable def ug(sc:Scope)(f:List Expr->Bool)(n:Nat)(g:Str)(args:List Expr):Bool:=onQ (kg args) λa=>onQ (rX a) λc=>c.1==g&&glB sc c.1&&f [c.2]&&n==1
noncomputable def pp:Expr->Bool
 | .Name _ _=>true
 | .Call _ (_::_) _ _=>true
 | _=>false
noncomputable def mn(sc:Scope)(f:List Expr->Bool)(n:Nat)(b:Blt)(args:List Expr):Bool:=match b with
 | .sortedSet=>ug sc f n "set" args
 | .lenSet=>ug sc f n "set" args
 | .lenSetSub=>onQ (kg args) λa=>onQ (biP a) λb=>onQ (rX b.1) λc=>onQ (rX b.2.2.1) λd=>b.2.1==.Sub&&c.1==("set":Str)&&glB sc c.1&&d.1==("set":Str)&&glB sc d.1&&f [c.2,d.2]&&n==2
 | .tupleRev=>false
 | .valuesOf=>onQ (kg args) λa=>onQ (maP a) λc=>c.2.2.2.1.isEmpty&&c.2.1==("values":Str)&&pp c.1&&c.2.2.1.endLine==c.2.2.2.2.line&&f [c.1]&&n==1
 | .max2=>false
 | .min2=>false
 | .intOf=>false
 | .boolOf=>false
 | .isStr=>false
 | .isList=>false
 |b=>match dl b with
  |some c=>rZ sc f n c args
  |none=>lf b==some n&&f args
noncomputable def jL:ME->Bool
 | .cst .non=>true
 | _=>false
noncomputable def ql(f:Expr->Bool)(non:Bool):Option Expr->Bool
 |none=>non
 |some l=>f l&&!non
noncomputable def r6(f:Expr->Bool)(m:ME):List Expr->Bool
 | []=>(match m with|.cst (.bl true)=>true|_=>false)
 | [c]=>f c
 | _=>false
noncomputable def Hk(f:Expr->Bool)(op:BoolOp)(pos:Pos)(y:Expr):List Expr->Bool
 | []=>f y
 |z::r=>f (.BoolOp op (y::z::r) pos)
noncomputable def ED(g f:Expr->Bool)(op:BoolOp)(pos:Pos):List Expr->Bool
 |x::y::r=>g x&&Hk f op pos y r
 | _=>false
def vC(h:ED g f op pos vs=true):(∃x y,vs=[x,y]/\g x=true/\f y=true)\/∃x y z r,vs=x::y::z::r/\g x=true/\f (.BoolOp op (y::z::r) pos)=true:=by
 rcases vs with _|⟨x,_|⟨y,_|⟨z,r⟩⟩⟩
 .cases h
 .cases h
 .exact .inl ⟨x,y,rfl,gQ.mp h⟩
 .exact .inr ⟨x,y,z,r,rfl,gQ.mp h⟩
noncomputable def zd(e:Expr):Option (List (Option Expr)×List Expr×Expr):=(suP e).bind λc=>(diP c.1).bind λd=>some (d.1,d.2.1,c.2.1)
def ze(h:zd e=some q):∃p pos,e=.Subscript (.Dict q.1 q.2.1 p) q.2.2 pos:=by
 obtain⟨c,h1,h⟩:=bV h;obtain⟨d,h2,h⟩:=bV h;cases h;exact⟨d.2.2,c.2.2,by rw[nl h1,zb h2]⟩
noncomputable def r9:List (Str×Str)->List (Option Expr)->List Expr->Bool
 | [],[],[]=>true
 |p::r,k::ks,v::vs=>k.bind EB==some p.1&&EB v==some p.2&&r9 r ks vs
 | _,_,_=>false
noncomputable def Dd(e:Expr):Option (Str×Str):=(rX e).bind λc=>(nmP c.2).bind λy=>some (c.1,y.1)
def B0(h:Dd e=some q):∃p p2 pos,e=.Call (.Name q.1 p) [.Name q.2 p2] [] pos:=by
 obtain⟨c,h1,h⟩:=bV h;obtain⟨y,h2,h⟩:=bV h;cases h;obtain⟨p,pos,rfl⟩:=im h1;exact⟨p,y.2,pos,by rw[eF h2]⟩
mutual
noncomputable def chk(T:Tab):ME->List Str->Scope->Expr->Bool
 | .var i,N,sc,D=>onQ (nmP D) λx=>aX N sc i x.1
 | .bor i,N,sc,D=>onQ (nmP D) λx=>aX N sc i x.1
 | .cst v,_,_,D=>onQ (ctP D) λc=>uf v c.1
 | .glob x v,_,sc,D=>onQ (nmP D) λy=>x==y.1&&glB sc x&&Dc T.gs x v&&aq x
 | .bin op a b,N,sc,D=>onQ (biP D) λq=>q.2.1==ue op&&chk T a N sc q.1&&chk T b N sc q.2.2.1
 | .neg _,_,_,_=>false
 | .not a,N,sc,D=>onQ (unP D) λq=>q.1==.Not&&chk T a N sc q.2.1
 | .and a b,N,sc,D=>onQ (boP D) λq=>q.1==.And&&ED (λe=>chk T a N sc e) (λe=>chk T b N sc e) .And q.2.2 q.2.1
 | .or a b,N,sc,D=>onQ (boP D) λq=>q.1==.Or&&ED (λe=>chk T a N sc e) (λe=>chk T b N sc e) .Or q.2.2 q.2.1
 | .ite c a b,N,sc,D=>onQ (ifP D) λq=>chk T c N sc q.1&&chk T a N sc q.2.1&&chk T b N sc q.2.2.1&&!aI a&&!aI b
 | .cmp op a b,N,sc,D=>onQ (Ey D) λq=>q.2.1==zc op&&chk T a N sc q.1&&chk T b N sc q.2.2&&!behindInMarks q.2.1 q.2.2
 | .chain _ _ _ _ _,_,_,_=>false
 | .tup es,N,sc,D=>onQ (tuP D) λq=>chks T es N sc q.1&&es.all (λe=>!aI e)
 | .lst es,N,sc,D=>onQ (liP D) λq=>chks T es N sc q.1&&es.all (λe=>!aI e)
 | .idx a i,N,sc,D=>onQ (suP D) λq=>chk T a N sc q.1&&chk T i N sc q.2.1&&b9 q.2.1
 | .slice a lo hi,N,sc,D=>onQ (Hi D) λq=>chk T a N sc q.1&&ql (λe=>chk T lo N sc e) (jL lo) q.2.1&&ql (λe=>chk T hi N sc e) (jL hi) q.2.2
 | .blt b es,N,sc,D=>onQ (rW D) λq=>q.1==(rY b:Str)&&glB sc q.1&&mn sc (λxs=>chks T es N sc xs) es.length b q.2
 | .call f es,N,sc,D=>onQ (rW D) λq=>T.fs[f]?==some q.1&&glB sc q.1&&aq q.1&&chks T es N sc q.2
 | .callD _ _ _,_,_,_=>false
 | .comp k src js cond elt,N,sc,D=>onQ (lcX D) λq=>fU sc N q.2.1 q.2.2.1.1 (dG N js) js&&nq sc false (λxs=>chks T src N sc xs) k q.2.2.2.1&&r6 (λc=>chk T cond (q.2.2.1.1::dG N js) (l8 q.2.1 sc) c) cond q.2.2.2.2&&chk T elt (q.2.2.1.1::dG N js) (l8 q.2.1 sc) q.1&&!aI elt
 | .dget a k d,N,sc,D=>onQ (maP D) λc=>onQ (yW c.2.2.2.1) λz=>c.2.1==("get":Str)&&pp c.1&&c.2.2.1.endLine==c.2.2.2.2.line&&chk T a N sc c.1&&chk T k N sc z.1&&chk T d N sc z.2&&ah z.1&&ah z.2
 | .dat a k,N,sc,D=>onQ (suP D) λq=>chk T a N sc q.1&&chk T k N sc q.2.1&&b9 q.2.1
 | .dIn neg k a,N,sc,D=>onQ (Ey D) λq=>q.2.1==(if neg=true then CmpOp.NotIn else CmpOp.In)&&chk T k N sc q.1&&chk T a N sc q.2.2&&!behindInMarks q.2.1 q.2.2
 | .disp kvs e,N,sc,D=>onQ (zd D) λq=>r9 kvs q.1 q.2.1&&chk T e N sc q.2.2&&b9 q.2.2&&decide (kvs.length<=15)&&!kvs.isEmpty
 | .lenP i,N,sc,D=>onQ (Dd D) λq=>q.1==("len":Str)&&glB sc q.1&&aX N sc i q.2
noncomputable def chks(T:Tab):List ME->List Str->Scope->List Expr->Bool
 | [],_,_,[]=>true
 |m::ms,N,sc,e::es=>chk T m N sc e&&ah e&&chks T ms N sc es
 | _,_,_,_=>false
end
def kh(h:chk T (.bor i) N sc e=true):∃x p,e=.Name x p/\aX N sc i x=true:=by
 replace h:=ak h
 obtain⟨x,h1,h⟩:=h;exact⟨x.1,x.2,eF h1,h⟩
def b_(h:chks T (m::ms) N sc (e::es)=true):(chk T m N sc e=true/\ah e=true)/\chks T ms N sc es=true:=by
 obtain⟨a,b⟩:=gQ.mp h;exact⟨gQ.mp a,b⟩
def lh{cond elt:ME}(h:chk T (.comp z src js cond elt) N sc D=true):∃e x px it ifs scope pos,D=.ListComp e [⟨.Name x px,it,ifs,0⟩] scope pos /\
  (fU sc N scope x (dG N js) js&&nq sc false (λxs=>chks T src N sc xs) z it&&r6 (λc=>chk T cond (x::dG N js) (l8 scope sc) c) cond ifs&&chk T elt (x::dG N js) (l8 scope sc) e&&!aI elt)=true:=by
 replace h:=ak h
 obtain⟨q,w,h⟩:=h;obtain⟨pos,rfl⟩:=za w;exact⟨_,_,_,_,_,_,_,rfl,h⟩
def nt(h:aI m=true):∃i,m=.bor i:=by
 cases m<;>first|(cases h;done)|exact⟨_,rfl⟩
noncomputable def iU:ME->Bool
 | .lst _=>true
 | .comp ..=>true
 | .blt .listOf _=>true
 | .blt .sorted _=>true
 | .blt .sortedSet _=>true
 | .blt .sortedKeys _=>true
 | .blt .valuesOf _=>true
 | _=>false
noncomputable def De(sc:Scope)(t:Str)(tpos:Pos)(e:Expr):Bool:=onQ (lcP e) λq=>sc.names.lookup t==some .local&&tpos.line==q.2.2.2.line&&!(q.2.2.1.names.any λ(n,k)=>n==t&&(k==.local||k==.cell))
noncomputable def pq(sc:Scope)(t:Str)(tpos:Pos)(v:Expr)(e:ME):Bool:=De sc t tpos v
noncomputable def dP(N:List Str)(sc:Scope):List Nat->List Expr->Bool
 | [],[]=>true
 |i::is,.Name x _::es=>N[i]?==some x&&fO sc x&&aq x&&dP N sc is es
 | _,_=>false
def qm(N)(sc)(i)(is)(x)(p)(es):dP N sc (i::is) (.Name x p::es)=(N[i]?==some x&&fO sc x&&aq x&&dP N sc is es):=rfl
noncomputable def jM:List Bool->List ME->Bool
 | [],[]=>true
 |true::bs,e::es=>aI e&&jM bs es
 |false::bs,_::es=>jM bs es
 | _,_=>false
noncomputable def fu:List Bool->List ME->List Nat
 |true::bs,.bor i::es=>i::fu bs es
 | _::bs,_::es=>fu bs es
 | _,_=>[]
noncomputable def fV(T:Tab)(f:Nat)(mask:List Bool)(es:List ME)(N:List Str)(sc:Scope)(x:Expr):Bool:=onQ (rW x) λc=>T.fs[f]?==some c.1&&glB sc c.1&&aq c.1&&chks T es N sc c.2&&jM mask es&&decide (fu mask es).Nodup&&!c.2.isEmpty
def nu(h:fV T f mask es N sc e=true):∃g p args cp,e=.Call (.Name g p) args [] cp/\(T.fs[f]?==some g&&glB sc g&&aq g&&chks T es N sc args&&jM mask es&&decide (fu mask es).Nodup&&!args.isEmpty)=true:=by
 replace h:=ak h
 obtain⟨c,w,h⟩:=h;obtain⟨p,cp,rfl⟩:=fT w;exact⟨c.1,p,c.2,cp,rfl,h⟩
noncomputable def Hl(e:Expr):Option (Expr×Expr):=(biP e).bind λc=>okQ (c.2.1==.Add) (c.1,c.2.2.1)
def B1(h:Hl e=some q):∃pos,e=.BinOp q.1 .Add q.2 pos:=by
 obtain⟨c,h1,h⟩:=bV h;obtain⟨h2,rfl⟩:=jK h;exact⟨c.2.2.2,by rw[qj h1,eq_of_beq h2]⟩
noncomputable def Hm(e:Expr):Option (Expr×Expr):=(tuP e).bind λc=>yW c.1
def B2(h:Hm e=some q):∃j pos,e=.Tuple [q.1,q.2] j pos:=by
 obtain⟨c,h1,h⟩:=bV h;exact⟨c.2.1,c.2.2,by rw[uc h1,ml h]⟩
noncomputable def uh:ME->Bool
 | .cst .non=>true
 | _=>false
noncomputable def zf(T:Tab)(k:SK)(e:ME)(f:Nat)(mask:List Bool)(es:List ME)(N:List Str)(sc:Scope)(x:Expr):Bool:=match k with
 | .one=>uh e&&fV T f mask es N sc x
 | .cat=>match Hl x with|some q=>chk T e N sc q.1&&!aI e&&fV T f mask es N sc q.2|none=>false
 | .pair=>match Hm x with|some q=>chk T e N sc q.1&&!aI e&&ah q.1&&fV T f mask es N sc q.2|none=>false
noncomputable def zg(e:Expr):Option (Expr×Scope×Str×Expr):=(lcX e).bind λc=>okQ c.2.2.2.2.isEmpty (c.1,c.2.1,c.2.2.1.1,c.2.2.2.1)
def zh(h:zg e=some q):∃z pos,e=.ListComp q.1 [⟨.Name q.2.2.1 z,q.2.2.2,[],0⟩] q.2.1 pos:=by
 obtain⟨c,h1,h⟩:=bV h;obtain⟨h2,rfl⟩:=jK h;obtain⟨pos,rfl⟩:=za h1;exact⟨_,pos,by rw[Lz.mp h2]⟩
noncomputable def EE(e:Expr):Option (Str×Str×Expr):=(rX e).bind λc=>(rX c.2).bind λd=>some (c.1,d.1,d.2)
def B3(h:EE e=some q):∃p p2 pos2 pos,e=.Call (.Name q.1 p) [.Call (.Name q.2.1 p2) [q.2.2] [] pos2] [] pos:=by
 obtain⟨c,h1,h⟩:=bV h;obtain⟨d,h2,h⟩:=bV h;cases h;obtain⟨p,pos,rfl⟩:=im h1;obtain⟨p2,pos2,e⟩:=im h2;exact⟨p,p2,pos2,pos,by rw[e]⟩
noncomputable def EF(e:Expr):Option (Str×Str×Pos×Pos):=(maN e).bind λa=>okQ a.2.2.2.1.isEmpty (a.1,a.2.1,a.2.2.1,a.2.2.2.2)
def B4(h:EF e=some q):∃p,e=.Call (.Attribute (.Name q.1 p) q.2.1 q.2.2.1) [] [] q.2.2.2:=by
 obtain⟨x,h1,h⟩:=bV h;obtain⟨h2,rfl⟩:=jK h;obtain⟨p,rfl⟩:=y_ h1;exact⟨p,by rw[Lz.mp h2]⟩
noncomputable def EG(e:Expr):Option (Expr×Operator×Expr):=(biP e).bind λc=>some (c.1,c.2.1,c.2.2.1)
def B5(h:EG e=some q):∃pos,e=.BinOp q.1 q.2.1 q.2.2 pos:=by
 obtain⟨c,h1,h⟩:=bV h;cases h;exact⟨c.2.2.2,qj h1⟩
noncomputable def fnQ(e:Expr):Option (Str×Expr×List Expr):=(rW e).bind λc=>(hdQ c.2).bind λa=>some (c.1,a.1,a.2)
def ui(h:fnQ e=some q):∃p pos,e=.Call (.Name q.1 p) (q.2.1::q.2.2) [] pos:=by
 obtain⟨c,h1,h⟩:=bV h;obtain⟨a,h2,h⟩:=bV h;cases h;obtain⟨p,pos,rfl⟩:=fT h1;exact⟨p,pos,by rw[EC h2]⟩
noncomputable def EH(e:Expr):Option (List Expr):=(tuP e).bind λc=>some c.1
def B6(h:EH e=some q):∃j pos,e=.Tuple q j pos:=by
 obtain⟨c,h1,h⟩:=bV h;cases h;exact⟨c.2.1,c.2.2,uc h1⟩
noncomputable def EI(e:Expr):Option (List Expr):=(liP e).bind λc=>some c.1
def B7(h:EI e=some q):∃pos,e=.List q pos:=by
 obtain⟨c,h1,h⟩:=bV h;cases h;exact⟨c.2,qk h1⟩
noncomputable def EJ(e:Expr):Option (Str×Expr×Expr):=(rW e).bind λc=>(yW c.2).bind λa=>some (c.1,a.1,a.2)
def B8(h:EJ e=some q):∃p pos,e=.Call (.Name q.1 p) [q.2.1,q.2.2] [] pos:=by
 obtain⟨c,h1,h⟩:=bV h;obtain⟨a,h2,h⟩:=bV h;cases h;obtain⟨p,pos,rfl⟩:=fT h1;exact⟨p,pos,by rw[ml h2]⟩
mutual
noncomputable def db(T:Tab):XE->List Str->Scope->Expr->Bool
 | .pure e,N,sc,x=>chk T e N sc x&&!aI e&&bW x
 | .call f mask es,N,sc,x=>fV T f mask es N sc x
 | .pop i,N,sc,x=>onQ (EF x) λq=>aX N sc i q.1&&q.2.1==("pop":Str)&&q.2.2.1.endLine==q.2.2.2.line
 | .bin op a b,N,sc,x=>onQ (EG x) λq=>q.2.1==ue op&&db T a N sc q.1&&chk T b N sc q.2.2
 | .fn g a es,N,sc,x=>onQ (fnQ x) λq=>T.fs[g]?==some q.1&&glB sc q.1&&aq q.1&&db T a N sc q.2.1&&ah q.2.1&&chks T es N sc q.2.2
 | .tup xs,N,sc,x=>onQ (EH x) λq=>chkXEs T xs N sc q
 | .lst xs,N,sc,x=>onQ (EI x) λq=>chkXEs T xs N sc q
 | .fn2 g e a,N,sc,x=>onQ (EJ x) λq=>T.fs[g]?==some q.1&&glB sc q.1&&aq q.1&&chk T e N sc q.2.1&&!aI e&&ah q.2.1&&db T a N sc q.2.2&&ah q.2.2
 | .tupOf a,N,sc,x=>onQ (fnQ x) λq=>q.1==("tuple":Str)&&glB sc q.1&&q.2.2.isEmpty&&db T a N sc q.2.1&&ah q.2.1
 | .compS src js k e f mask es,N,sc,x=>onQ (zg x) λc=>fU sc N c.2.1 c.2.2.1 (dG N js) js&&nq sc false (λxs=>chks T [src] N sc xs) .seq c.2.2.2&&!aI src&&zf T k e f mask es (c.2.2.1::dG N js) (l8 c.2.1 sc) c.1&&decide js.Nodup
noncomputable def chkXEs(T:Tab):List XE->List Str->Scope->List Expr->Bool
 | [],_,_,[]=>true
 |x::xs,N,sc,e::es=>db T x N sc e&&ah e&&chkXEs T xs N sc es
 | _,_,_,_=>false
end
noncomputable def oR(s:Stmt):Option (Str×Pos×Expr):=(asP s).bind λc=>(kg c.1).bind λu=>(nmP u).bind λx=>some (x.1,x.2,c.2.1)
def je(h:oR s=some q):∃pos,s=.Assign [.Name q.1 q.2.1] q.2.2 pos:=by
 obtain⟨c,h1,h⟩:=bV h;obtain⟨u,h2,h⟩:=bV h;obtain⟨x,z,h⟩:=bV h;cases h;exact⟨c.2.2,by rw[y0 h1,cV h2,eF z]⟩
noncomputable def zi(s:Stmt):Option (Str×Str×Pos×List Expr×Pos):=(exP s).bind λa=>maN a.1
def qo(h:zi s=some q):∃p pos,s=.Expr (.Call (.Attribute (.Name q.1 p) q.2.1 q.2.2.1) q.2.2.2.1 [] q.2.2.2.2) pos:=by
 obtain⟨x,h1,h⟩:=bV h;obtain⟨p,e⟩:=y_ h;exact⟨p,x.2,by rw[Ez h1,e]⟩
noncomputable def Hn(s:Stmt):Option (Str×Expr×Expr):=(asP s).bind λc=>(kg c.1).bind λu=>(suP u).bind λw=>(nmP w.1).bind λx=>some (x.1,w.2.1,c.2.1)
def B9(h:Hn s=some q):∃p sp pos,s=.Assign [.Subscript (.Name q.1 p) q.2.1 sp] q.2.2 pos:=by
 refine aD λU z=>?_
 obtain⟨c,h1,h⟩:=bV h;obtain⟨u,h2,h⟩:=bV h;obtain⟨w,D,h⟩:=bV h;obtain⟨x,J,h⟩:=bV h;cases h;refine z ?_;exact⟨x.2,w.2.2,c.2.2,by rw[y0 h1,cV h2,nl D,eF J]⟩
noncomputable def wT(s:Stmt):Option (Expr):=(reP s).bind λc=>c.1
def mq(h:wT s=some v):∃pos,s=.Return (some v) pos:=by
 obtain⟨c,h1,h⟩:=bV h;exact⟨c.2,by rw[EA h1,h]⟩
noncomputable def Dg(e:Expr):Option (Str):=(nmP e).bind λx=>some x.1
def zj(h:Dg e=some x):∃p,e=.Name x p:=by
 obtain⟨x,h1,h⟩:=bV h;cases h;exact⟨x.2,eF h1⟩
noncomputable def Dh(e:Expr):Bool:=onQ (diP e) λd=>d.1.isEmpty&&d.2.1.isEmpty
def zk(h:Dh e=true):∃p,e=.Dict [] [] p:=by
 replace h:=ak h
 obtain⟨d,h1,h⟩:=h;obtain⟨h2,z⟩:=gQ.mp h;exact⟨d.2.2,by rw[zb h1,Lz.mp h2,Lz.mp z]⟩
mutual
noncomputable def g5(T:Tab)(N:List Str)(sc:Scope):MS->Stmt->Bool
 | .set i e,s0=>onQ (oR s0) λq=>N[i]?==some q.1&&fO sc q.1&&aq q.1&&chk T e N sc q.2.2&&!aI e&&(bW q.2.2||pq sc q.1 q.2.1 q.2.2 e)
 | .setOwn i e,s0=>onQ (oR s0) λq=>N[i]?==some q.1&&fO sc q.1&&aq q.1&&chk T e N sc q.2.2&&iU e&&(bW q.2.2||pq sc q.1 q.2.1 q.2.2 e)
 | .append i e,s0=>onQ (zi s0) λq=>onQ (kg q.2.2.2.1) λv=>aX N sc i q.1&&q.2.1==("append":Str)&&chk T e N sc v&&!aI e&&ah v&&q.2.2.1.endLine==q.2.2.2.2.line
 | .extend i e,s0=>onQ (zi s0) λq=>onQ (kg q.2.2.2.1) λv=>aX N sc i q.1&&q.2.1==("extend":Str)&&chk T e N sc v&&ah v&&q.2.2.1.endLine==q.2.2.2.2.line
 | .setIdx _ _ _,_=>false
 | .unpack _ _,_=>false
 | .ite c a b,s0=>(match s0 with|.If t x y _=>chk T c N sc t&&chkSs T N sc a x&&chkSs T N sc b y|_=>false)
 | .for1 i k src body,s0=>(match s0 with|.For (.Name x _) it b [] _=>N[i]?==some x&&fO sc x&&aq x&&nq sc false (λxs=>chks T src N sc xs) k it&&chkSs T N sc body b|_=>false)
 | .forT is k src body,s0=>(match s0 with|.For (.Tuple z _ _) it b [] _=>dP N sc is z&&nq sc true (λxs=>chks T src N sc xs) k it&&chkSs T N sc body b|_=>false)
 | .ret e,s0=>onQ (wT s0) λv=>chk T e N sc v&&!aI e
 | .retOwn i,s0=>onQ (wT s0) λv=>onQ (Dg v) λx=>aX N sc i x
 | .retM e,s0=>onQ (wT s0) λv=>chk T e N sc v&&!aI e
 | .setP i e,s0=>onQ (oR s0) λq=>N[i]?==some q.1&&fO sc q.1&&aq q.1&&onQ (EE q.2.2) λr=>r.1==("list":Str)&&r.2.1==("reversed":Str)&&glB sc r.1&&glB sc r.2.1&&chk T e N sc r.2.2&&ah r.2.2
 | .setX i x,s0=>onQ (oR s0) λq=>N[i]?==some q.1&&fO sc q.1&&aq q.1&&db T x N sc q.2.2&&bW q.2.2
 | .ownX i xs,s0=>onQ (oR s0) λq=>onQ (liP q.2.2) λr=>N[i]?==some q.1&&fO sc q.1&&chkXEs T xs N sc r.1
 | .appX i x,s0=>onQ (zi s0) λq=>onQ (kg q.2.2.2.1) λv=>aX N sc i q.1&&q.2.1==("append":Str)&&db T x N sc v&&ah v&&q.2.2.1.endLine==q.2.2.2.2.line
 | .retXE x,s0=>onQ (wT s0) λv=>db T x N sc v
 | .forX i x body,s0=>(match s0 with|.For (.Name y _) it b [] _=>N[i]?==some y&&fO sc y&&aq y&&onQ (fnQ it) (λq=>q.1==("range":Str)&&glB sc q.1&&q.2.2.isEmpty&&db T x N sc q.2.1&&ah q.2.1)&&chkSs T N sc body b|_=>false)
 | .never,_=>true
 | .newD _ i,s0=>onQ (oR s0) λq=>Dh q.2.2&&(N[i]?==some q.1&&fO sc q.1&&aq q.1)
 | .dput i k e,s0=>onQ (Hn s0) λq=>aX N sc i q.1&&chk T k N sc q.2.1&&b9 q.2.1&&chk T e N sc q.2.2&&!aI e&&bW q.2.2
 | _,_=>false
noncomputable def chkSs(T:Tab)(N:List Str)(sc:Scope):List MS->List Stmt->Bool
 | [],[]=>true
 | .freeze _::_,_=>false
 |m::ms,s::ss=>g5 T N sc m s&&chkSs T N sc ms ss
 | _,_=>false
end
def B_ (T) (N) (sc) (i) (x) (body) (s0):g5 T N sc (.forX i x body) s0=(match s0 with|.For (.Name y _) it b [] _=>N[i]?==some y&&fO sc y&&aq y&&onQ (fnQ it) (λq=>q.1==("range":Str)&&glB sc q.1&&q.2.2.isEmpty&&db T x N sc q.2.1&&ah q.2.1)&&chkSs T N sc body b|_=>false):=rfl
def Ca(T)(N)(sc)(i)(k)(src)(body)(s0):g5 T N sc (.for1 i k src body) s0=(match s0 with|.For (.Name x _) it b [] _=>N[i]?==some x&&fO sc x&&aq x&&nq sc false (λxs=>chks T src N sc xs) k it&&chkSs T N sc body b|_=>false):=rfl
def Cb(T)(N)(sc)(is)(k)(src)(body)(s0):g5 T N sc (.forT is k src body) s0=(match s0 with|.For (.Tuple z _ _) it b [] _=>dP N sc is z&&nq sc true (λxs=>chks T src N sc xs) k it&&chkSs T N sc body b|_=>false):=rfl
theorem nv(z:∀x b,f x x=some b->b=true):∀xs {b},eqL f xs xs=some b->b=true
 | [],b,h=>by simp[eqL]at h;exact h
 |x::xs,b,h=>by
  simp only[eqL,ft,mu]at h;obtain⟨p,h1,q,h2,rfl⟩:=h;rw[z x p h1,nv z xs h2];rfl
theorem kj:∀(n:Nat) (x:PV) {b:Bool},eqF n x x=some b->b=true
 |n,.non,b,h=>by cases n<;>cases h<;>rfl
 |n,.bl x,b,h=>by cases n<;>cases h<;>exact LB x
 |n,.int x,b,h=>by cases n<;>cases h<;>exact LB x
 |n,.str x,b,h=>by cases n<;>cases h<;>exact LB x
 |0,.tup _,b,h=>by cases h
 |0,.lst _,b,h=>by cases h
 |n+1,.tup xs,b,h=>nv (λx b=>kj n x) xs h
 |n+1,.lst xs,b,h=>nv (λx b=>kj n x) xs ((if_pos rfl).symm.trans h)
 |n,.dI _,b,h=>by cases n<;>cases h
def gw{n:Nat}{x y:PV}{b:Bool}(h:eqF n x y=some b):isD x=false/\isD y=false:=by
 cases x<;>cases y<;>first|exact⟨rfl,rfl⟩|(cases n<;>cases h)
noncomputable def EK:PV->Bool
 | .tup _=>true
 | .lst _=>true
 | _=>false
def fW{n:Nat}{x y:PV}{b:Bool}(h:eqF n x y=some b)(e:EK x=!EK y):b=false:=by
 cases x<;>cases y<;>first|(cases e;done)|(cases n<;>cases h<;>rfl)
theorem km :∀xs ys {b},eqL f xs ys=some b ->
  (∀(j:Nat) x y,xs[j]?=some x->ys[j]?=some y->∃c,f x y=some c) /\
   b=((range (min xs.length ys.length)).all (λj=>(f (xs.getD j .non) (ys.getD j .non)).getD false)&&xs.length==ys.length)
 | [],[],b,h=>by simp[eqL]at h;subst h;simp
 | [],y::ys,b,h=>by simp[eqL]at h;subst h;simp
 |x::xs,[],b,h=>by simp[eqL]at h;subst h;simp
 |x::xs,y::ys,b,h=>by
  simp only[eqL,ft,mu]at h;obtain⟨p,h1,q,h2,rfl⟩:=h;obtain⟨z,D⟩:=km xs ys h2;refine⟨λj Y Z J U=>?_,?_⟩
  .cases j with
   |zero=>simp at J U;subst J U;exact⟨p,h1⟩
   |succ j=>exact z j Y Z (by simpa using J) (by simpa using U)
  .rw[D];have hm:min (x::xs).length (y::ys).length=min xs.length ys.length+1:=by simp only[length_cons];omega
   rw[hm,range_succ_eq_map,all_cons,Nk];have hl:((x::xs).length==(y::ys).length)=(xs.length==ys.length):=by
    simp_all
   rw[hl,Bool.and_assoc];simp only[getD_cons_zero,h1,getD_some,Function.comp_def,getD_cons_succ]
theorem vD :∀xs {b},inL f xs=some b->(∀x∈xs,∃c,f x=some c)/\b=xs.any λx=>(f x).getD false
 | [],b,h=>by simp[inL]at h;subst h;simp
 |x::xs,b,h=>by
  simp only[inL,ft,mu]at h;obtain⟨p,h1,q,h2,rfl⟩:=h;obtain⟨z,J⟩:=vD xs h2;refine⟨λy D=>?_,?_⟩
  .rcases tf.mp D with rfl|D
   .exact⟨p,h1⟩
   .exact z y D
  .simp_all
section
variable{X:Cx}{pins:List (Addr×Obj)}{σ:St}{H:Hp}{s:Shared}
def r_(I:Inv X pins σ H s)(h1:SqL X.K H a xs)(h2:SqT X.K H a ys):False:=by
 obtain⟨its,_,p,_⟩:=I.list h1;obtain⟨z,_,q,_⟩:=I.tuple h2;exact SeqAt.ne_of_list_tuple p.isList (show s.heap.IsTuple a z.toArray from q) rfl
def qp(h:RdD H a d):IsD H a:=by
 cases d<;>first|exact .inl ⟨_,h.rd⟩|exact .inr ⟨_,h.rd⟩|exact absurd h.2 il
def mr(I:Inv X pins σ H s)(h1:SqL X.K H a xs\/SqT X.K H a xs)(h2:RdD H a d):False:=by
 obtain⟨o,ho,hc⟩:=(tN I (qp h2)).1;rcases h1 with h1|h1
 .obtain⟨its,_,p,_⟩:=I.list h1;obtain⟨o',z,D,_⟩:=p.isList;rw[ho]at z;cases z;rw[hc]at D;exact absurd D (by decide)
 .obtain⟨its,_,⟨o',z,D,_⟩,_⟩:=I.tuple h1;rw[ho]at z;cases z;rw[hc]at D;exact absurd D (by decide)
def Sc.v_inj:∀{a b:Sc},a.v=b.v->a=b:=by
 intro a b h;cases a<;>cases b<;>simp[Sc.v]at h ⊢<;>exact h
theorem sa:∀{a b},gZ a=gZ b->a=b
 | [],[],_=>rfl
 | [],_::_,h=>by cases h
 | _::_,[],h=>by cases h
 | (k,v)::a,(D,J)::b,h=>by
  simp[gZ,JX,Prod.mk.injEq]at h;obtain⟨⟨h1,h2⟩,z⟩:=h;rw[h1,Sc.v_inj h2,sa z]
theorem mw:∀{a b:List Int},(a.map Sum.inl:List Key)=b.map Sum.inl->a=b
 | [],[],_=>rfl
 | [],_::_,h=>by cases h
 | _::_,[],h=>by cases h
 |x::a,y::b,h=>by
  simp[MP]at h;rw[h.1,mw h.2]
theorem se:∀{a b},jJ a=jJ b->a=b
 | [],[],_=>rfl
 | [],_::_,h=>by cases h
 | _::_,[],h=>by cases h
 | (k,v)::a,(D,J)::b,h=>by
  simp[jJ,JX]at h;obtain⟨⟨h1,h2⟩,z⟩:=h;rw[mw h1,Sc.v_inj h2,se z]
theorem nw:∀{a b:List Int},a.map V.int=b.map V.int->a=b
 | [],[],_=>rfl
 | [],_::_,h=>by cases h
 | _::_,[],h=>by cases h
 |x::a,y::b,h=>by
  simp only[JX,MP]at h;rw[V.int.inj h.1,nw h.2]
def sf(h:iT a=iT b):a=b:=by
 cases a<;>cases b<;>first
  | (cases h;done)
  | (rw[sa (HO.dK.inj h)];done)
  | (rw[se (HO.dT.inj h)];done)
  | rw[nw (HO.lst.inj h)]
def EL(h:RdD H a x)(g:RdD H a y):x=y:=by
 have h:=h.rd;have g:=g.rd;have ne:∀x o u,iT x≠.frz o u:=λx o u e=>by cases x<;>cases e
 rcases h with h|⟨o,h⟩<;>rcases g with g|⟨o',g⟩
 .rw[h]at g;exact sf (JZ g)
 .rw[h]at g;exact absurd (JZ g) (ne x _ _)
 .simp_all
 .rw[h]at g;exact sf (HO.frz.inj (JZ g)).2
mutual
theorem mx(I:Inv X pins σ H s):∀(x y:PV) {u:V},Rep X.K H x u->Rep X.K H y u->x=y
 | .non,y,u,h,g=>by rw[Rep]at h;subst h;cases y<;>simp[Rep]at g ⊢
 | .bl b,y,u,h,g=>by rw[Rep]at h;subst h;cases y<;>simp[Rep]at g ⊢;exact g
 | .int b,y,u,h,g=>by rw[Rep]at h;subst h;cases y<;>simp[Rep]at g ⊢;exact g
 | .str b,y,u,h,g=>by rw[Rep]at h;subst h;cases y<;>simp[Rep]at g ⊢;exact g
 | .tup xs,y,u,h,g=>by
  rw[Rep]at h;obtain⟨a,us,rfl,q,r⟩:=h;cases y with
  |tup ys =>
   rw[Rep]at g;obtain⟨b,vs,e,z,D⟩:=g;cases e;have:=I.tuple_inj (eE q) (eE z);subst this;rw[reps_inj I xs ys r D]
  |lst ys =>
   rw[Rep]at g;obtain⟨b,vs,e,z,D⟩:=g;cases e;exact(r_ I z (eE q)).elim
  |dI kvs =>
   rw[Rep]at g;obtain⟨b,e,z⟩:=g;cases e;exact(mr I (.inr (eE q)) z).elim
  | _=>simp[Rep]at g
 | .lst xs,y,u,h,g=>by
  rw[Rep]at h;obtain⟨a,us,rfl,q,r⟩:=h;cases y with
  |lst ys =>
   rw[Rep]at g;obtain⟨b,vs,e,z,D⟩:=g;cases e;have:=I.list_inj q z;subst this;rw[reps_inj I xs ys r D]
  |tup ys =>
   rw[Rep]at g;obtain⟨b,vs,e,z,D⟩:=g;cases e;exact(r_ I q (eE z)).elim
  |dI kvs =>
   rw[Rep]at g;obtain⟨b,e,z⟩:=g;cases e;exact(mr I (.inl q) z).elim
  | _=>simp[Rep]at g
 | .dI kvs,y,u,h,g=>by
  rw[Rep]at h;obtain⟨a,rfl,q⟩:=h;cases y with
  |dI ks =>
   rw[Rep]at g;obtain⟨b,e,z⟩:=g;cases e;rw[EL q z]
  |tup ys =>
   rw[Rep]at g;obtain⟨b,vs,e,z,D⟩:=g;cases e;exact(mr I (.inr (eE z)) q).elim
  |lst ys =>
   rw[Rep]at g;obtain⟨b,vs,e,z,D⟩:=g;cases e;exact(mr I (.inl z) q).elim
  | _=>simp[Rep]at g
theorem reps_inj(I:Inv X pins σ H s):∀(xs ys:List PV) {us:List V},Reps X.K H xs us->Reps X.K H ys us->xs=ys
 | [],ys,us,h,g=>by
  rw[Reps]at h;subst h
  cases ys with
  |nil=>rfl
  |cons y ys=>rw[Reps]at g;obtain⟨_,_,e,_⟩:=g;cases e
 |x::xs,ys,us,h,g=>by
  rw[Reps]at h;obtain⟨u,r,rfl,q,t⟩:=h;cases ys with
  |nil=>rw[Reps]at g;cases g
  |cons y ys =>
   rw[Reps]at g;obtain⟨D,J,e,z,t'⟩:=g;cases e;rw[mx I x y q z,reps_inj I xs ys t t']
end
def Rep.tupAt(I:Inv X pins σ H s)(h:Rep X.K H (.tup xs) u)(r:aF u v) :
  ∃a us its,u=.ref a/\v=.ref a/\Reps X.K H xs us/\aH us its/\s.heap.IsTuple a its.toArray/\xs.length=its.length:=by
 obtain⟨a,us,rfl,q,t⟩:=h;obtain⟨its,z,p,_⟩:=I.tuple (eE q);exact⟨a,us,its,rfl,r,t,z,p,t.length.trans z.length⟩
def Rep.lstAt(I:Inv X pins σ H s)(h:Rep X.K H (.lst xs) u)(r:aF u v) :
  ∃a us its,u=.ref a/\v=.ref a/\Reps X.K H xs us/\aH us its/\s.heap.IsList a its.toArray/\xs.length=its.length:=by
 obtain⟨a,us,rfl,q,t⟩:=h;obtain⟨its,z,p,_⟩:=I.list q;exact⟨a,us,its,rfl,r,t,z,p.isList,t.length.trans z.length⟩
def kn{A:Around}(ih:∀x y {U Y}{D J}{b}{A},A.units+n<cLine->eqF n x y=some b->Rep X.K H x U->Rep X.K H y Y->aF U D->aF Y J->SeqAt.EqAt A s D J b)
  (hu:A.units+(n+1)<cLine) (rx:Reps X.K H xs us) (ry:Reps X.K H ys ws) (D:aH us its) (J:aH ws z)
  (hs:∀(j:Nat) x y,xs[j]?=some x->ys[j]?=some y->∃c,eqF n x y=some c) :
  ∀j (h1:j<its.toArray.size) (h2:j<z.toArray.size),SeqAt.EqAt A.in1 s its.toArray[j] z.toArray[j] ((eqF n (xs.getD j .non) (ys.getD j .non)).getD false):=λj h1 h2=>by
 refine aD λZq kq=>?_
 have l1:=rx.length.trans D.length;have l2:=ry.length.trans J.length;simp[oe]at h1 h2;have Z:xs[j]?=some xs[j]:=J1 (by omega);have e2:ys[j]?=some ys[j]:=J1 (by omega);obtain⟨U,q1,p1⟩:=rx.get Z;obtain⟨Y,q2,p2⟩:=ry.get e2;obtain⟨wx,q3,p3⟩:=D.get q1;obtain⟨wy,q4,p4⟩:=J.get q2;obtain⟨c,hc⟩:=hs j _ _ Z e2;have d1:xs.getD j .non=xs[j]:=by simp[List.getD,Z]
 have d2:ys.getD j .non=ys[j]:=by simp[List.getD,e2]
 have g1:its.toArray[j]=wx:=by
  simp_all
 have g2:z.toArray[j]=wy:=by
  simp_all
 refine kq ?_;rw[d1,d2,hc,g1,g2];exact ih _ _ (show A.units+1+n<cLine by omega) hc p1 p2 p3 p4
def Cc{A:Around}{n:Nat}(I:Inv X pins σ H s)(ih:∀(x y:PV) {z D:V}{J U:Value}{b:Bool}{A:Around},A.units+n<cLine->eqF n x y=some b->Rep X.K H x z->Rep X.K H y D->aF z J->aF D U->SeqAt.EqAt A s J U b)
  (hu:A.units+(n+1)<cLine):(∀{xs ys:List PV}{z D:V}{J U:Value}{b:Bool},eqF (n+1) (.tup xs) (.tup ys)=some b->Rep X.K H (.tup xs) z->Rep X.K H (.tup ys) D->aF z J->aF D U->SeqAt.RcAt A s J U b) /\
   (∀{xs ys:List PV}{z D:V}{J U:Value}{b:Bool},eqF (n+1) (.lst xs) (.lst ys)=some b->Rep X.K H (.lst xs) z->Rep X.K H (.lst ys) D->aF z J->aF D U->SeqAt.RcAt A s J U b):=by
 refine⟨λ{xs ys z D J U b} h rx ry r1 r2=>?_,λ{xs ys z D J U b} h rx ry r1 r2=>?_⟩
 .obtain⟨a,us,its,rfl,rfl,t1,w1,p1,l1⟩:=rx.tupAt I r1;obtain⟨c,ws,Y,rfl,rfl,t2,w2,p2,l2⟩:=ry.tupAt I r2;have h:eqL (eqF n) xs ys=some b:=h;obtain⟨hs,hb⟩:=km xs ys h;have q:=SeqAt.RcAt.tuples (A:=A) p1 p2 (by omega) (kn ih hu t1 t2 w1 w2 hs);rw[hb];simpa[l1,l2]using q
 .obtain⟨a,us,its,rfl,rfl,t1,w1,p1,l1⟩:=rx.lstAt I r1;obtain⟨c,ws,Y,rfl,rfl,t2,w2,p2,l2⟩:=ry.lstAt I r2;have h:(if xs.length=ys.length then eqL (eqF n) xs ys else some false)=some b:=h;by_cases Z:xs.length=ys.length
  .rw[if_pos Z]at h;obtain⟨hs,hb⟩:=km xs ys h;have q:=SeqAt.RcAt.lists (A:=A) p1 p2 (by simp only[oe];omega) (by omega) (kn ih hu t1 t2 w1 w2 hs);rw[hb,Z,Nl];simpa[<- l1,Z]using q
  .rw[if_neg Z]at h;cases h;exact SeqAt.RcAt.lists_lengths (A:=A) p1 p2 (by simp only[oe,bne_iff_ne];omega) (by omega)
def cO(hd:isD x=false)(h:Rep X.K H x u):(∃xs,x=.tup xs)\/(∃xs,x=.lst xs)\/iM u=true:=by
 cases x with
 |dI _=>cases hd
 |tup xs=>exact .inl ⟨xs,rfl⟩
 |lst xs=>exact .inr (.inl ⟨xs,rfl⟩)
 | _=>rw[Rep]at h;subst h;exact .inr (.inr rfl)
def ip(z:A.units<cLine)(f:iM u=true)(r:aF u v)(p:s.heap.IsTuple a its) :
  SeqAt.EqAt A s v (.ref a) false/\SeqAt.EqAt A s (.ref a) v false/\SeqAt.RcAt A s v (.ref a) false/\SeqAt.RcAt A s (.ref a) v false:=by
 cases u with
 |non=>cases r;exact⟨.none_tuple p z,.tuple_none p z,.none_tuple p z,.tuple_none p z⟩
 |bl b=>cases r;exact⟨.bool_tuple b p z,.tuple_bool b p z,.bool_tuple b p z,.tuple_bool b p z⟩
 |int b=>obtain⟨t,rfl⟩:=r;exact⟨.int_tuple b t p z,.tuple_int b t p z,.int_tuple b t p z,.tuple_int b t p z⟩
 |str b=>obtain⟨t,rfl⟩:=r;exact⟨.str_tuple b t p z,.tuple_str b t p z,.str_tuple b t p z,.tuple_str b t p z⟩
 | _=>exact absurd (show false=true from f) il
def jf(z:A.units<cLine)(f:iM u=true)(r:aF u v)(p:s.heap.IsList a its) :
  SeqAt.EqAt A s v (.ref a) false/\SeqAt.EqAt A s (.ref a) v false/\SeqAt.RcAt A s v (.ref a) false/\SeqAt.RcAt A s (.ref a) v false:=by
 cases u with
 |non=>cases r;exact⟨.none_list p z,.list_none p z,.none_list p z,.list_none p z⟩
 |bl b=>cases r;exact⟨.bool_list b p z,.list_bool b p z,.bool_list b p z,.list_bool b p z⟩
 |int b=>obtain⟨t,rfl⟩:=r;exact⟨.int_list b t p z,.list_int b t p z,.int_list b t p z,.list_int b t p z⟩
 |str b=>obtain⟨t,rfl⟩:=r;exact⟨.str_list b t p z,.list_str b t p z,.str_list b t p z,.list_str b t p z⟩
 | _=>exact absurd (show false=true from f) il
def zl(D:aF y u)(z:aF x v)(U:iM y=true)(J:iM x=true):SeqAt.RcAt A s u v (eqV y x):=by
 cases y with
 |non =>
  cases D;cases x with
  |non=>cases z;exact SeqAt.RcAt.none_none
  |bl b=>cases z;exact SeqAt.RcAt.none_bool b
  |int b=>obtain⟨t,rfl⟩:=z;exact SeqAt.RcAt.none_int b t
  |str b=>obtain⟨t,rfl⟩:=z;exact SeqAt.RcAt.none_str b t
  | _=>exact absurd (show false=true from J) il
 |bl a =>
  cases D;cases x with
  |non=>cases z;exact SeqAt.RcAt.bool_none a
  |bl b=>cases z;exact SeqAt.RcAt.bool_bool a b
  |int b=>obtain⟨t,rfl⟩:=z;exact SeqAt.RcAt.bool_int a b t
  |str b=>obtain⟨t,rfl⟩:=z;exact SeqAt.RcAt.bool_str a b t
  | _=>exact absurd (show false=true from J) il
 |int a =>
  obtain⟨t',rfl⟩:=D;cases x with
  |non=>cases z;exact SeqAt.RcAt.int_none a t'
  |bl b=>cases z;exact SeqAt.RcAt.int_bool a t' b
  |int b=>obtain⟨t,rfl⟩:=z;exact SeqAt.RcAt.int_int a t' b t
  |str b=>obtain⟨t,rfl⟩:=z;exact SeqAt.RcAt.int_str a t' b t
  | _=>exact absurd (show false=true from J) il
 |str a =>
  obtain⟨t',rfl⟩:=D;cases x with
  |non=>cases z;exact SeqAt.RcAt.str_none a t'
  |bl b=>cases z;exact SeqAt.RcAt.str_bool a t' b
  |int b=>obtain⟨t,rfl⟩:=z;exact SeqAt.RcAt.str_int a t' b t
  |str b=>obtain⟨t,rfl⟩:=z;exact SeqAt.RcAt.str_str a t' b t
  | _=>exact absurd (show false=true from J) il
 | _=>exact absurd (show false=true from U) il
def ny{n:Nat}{x y:PV}{u v:V}{b:Bool}(z:Rep X.K H x u)(D:Rep X.K H y v)(J:iM u=true)(U:iM v=true)(h:eqF n x y=some b):b=eqV u v:=by
 cases x<;>cases y<;>simp only[Rep]at z D
 all_goals first
  | (obtain⟨_,_,rfl,_⟩:=z;exact absurd (show false=true from J) il)
  | (obtain⟨_,_,rfl,_⟩:=D;exact absurd (show false=true from U) il)
  | (obtain⟨_,rfl,_⟩:=z;exact absurd (show false=true from J) il)
  | (obtain⟨_,rfl,_⟩:=D;exact absurd (show false=true from U) il)
  | (subst z D;cases n<;>cases h<;>rfl)
def fX{y:PV}{v:V}(r:Rep X.K H y v)(f:iM v=true):EK y=false:=by
 cases y with
 |tup _=>obtain⟨_,_,rfl,_⟩:=r;cases f
 |lst _=>obtain⟨_,_,rfl,_⟩:=r;cases f
 | _=>rfl
def qr(I:Inv X pins σ H s):∀(n:Nat) (x y:PV) {ux uy:V}{vx vy:Value}{b:Bool}{A:Around},A.units+n<cLine->eqF n x y=some b->Rep X.K H x ux->Rep X.K H y uy->aF ux vx->aF uy vy ->
  SeqAt.EqAt A s vx vy b/\SeqAt.RcAt A s vx vy b:=by
 intro n
 induction n with
 |zero =>
  intro x y ux uy vx vy b A hu h Z J r1 U;have z:A.units<cLine:=by omega
  rcases cO (gw h).1 Z with⟨xs,rfl⟩|⟨xs,rfl⟩|fx
  .obtain⟨a,us,its,rfl,rfl,t1,w1,p1,l1⟩:=Z.tupAt I r1;rcases cO (gw h).2 J with⟨ys,rfl⟩|⟨ys,rfl⟩|Y
   .cases h
   .obtain⟨c,ws,D,rfl,rfl,t2,w2,p2,l2⟩:=J.lstAt I U;cases h;exact⟨.tuple_list p1 p2 z,.tuple_list p1 p2 z⟩
   .obtain⟨z1,z2,z3,z4⟩:=ip z Y U p1;have:b=false:=fW h (by rw[fX J Y];rfl);subst this;exact⟨z2,z4⟩
  .obtain⟨a,us,its,rfl,rfl,t1,w1,p1,l1⟩:=Z.lstAt I r1;rcases cO (gw h).2 J with⟨ys,rfl⟩|⟨ys,rfl⟩|Y
   .obtain⟨c,ws,D,rfl,rfl,t2,w2,p2,l2⟩:=J.tupAt I U;cases h;exact⟨.list_tuple p1 p2 z,.list_tuple p1 p2 z⟩
   .cases h
   .obtain⟨z1,z2,z3,z4⟩:=jf z Y U p1;have:b=false:=fW h (by rw[fX J Y];rfl);subst this;exact⟨z2,z4⟩
  .rcases cO (gw h).2 J with⟨ys,rfl⟩|⟨ys,rfl⟩|Y
   .obtain⟨c,ws,D,rfl,rfl,t2,w2,p2,l2⟩:=J.tupAt I U;obtain⟨z1,z2,z3,z4⟩:=ip z fx r1 p2;have:b=false:=fW h (by rw[fX Z fx];rfl);subst this;exact⟨z1,z3⟩
   .obtain⟨c,ws,D,rfl,rfl,t2,w2,p2,l2⟩:=J.lstAt I U;obtain⟨z1,z2,z3,z4⟩:=jf z fx r1 p2;have:b=false:=fW h (by rw[fX Z fx];rfl);subst this;exact⟨z1,z3⟩
   .rw[ny Z J fx Y h];exact⟨yb r1 U fx Y,zl r1 U fx Y⟩
 |succ n ih =>
  intro x y ux uy vx vy b A hu h Z J r1 U;have z:A.units<cLine:=by omega
  obtain⟨kt,kl⟩:=Cc I (λx y {_ _ _ _ _ _} a1 a2 a3 a4 a5 a6=>(ih x y a1 a2 a3 a4 a5 a6).1) hu;rcases cO (gw h).1 Z with⟨xs,rfl⟩|⟨xs,rfl⟩|fx
  .obtain⟨a,us,its,e1,a0,t1,w1,p1,l1⟩:=Z.tupAt I r1;rcases cO (gw h).2 J with⟨ys,rfl⟩|⟨ys,rfl⟩|Y
   .have q:=kt h Z J r1 U;obtain⟨c,ws,D,e2,a7,t2,w2,p2,l2⟩:=J.tupAt I U;subst e1 a0 e2 a7;refine⟨?_,q⟩;by_cases b0:a=c
    .subst b0;have e:=mx I _ _ Z J;rw[e]at h;rw[kj _ _ h];exact .same _
    .exact .of_refs b0 q
   .obtain⟨c,ws,D,e2,a7,t2,w2,p2,l2⟩:=J.lstAt I U;subst e1 a0 e2 a7;cases h;exact⟨.tuple_list p1 p2 z,.tuple_list p1 p2 z⟩
   .subst e1 a0;obtain⟨z1,z2,z3,z4⟩:=ip z Y U p1;have:b=false:=fW h (by rw[fX J Y];rfl);subst this;exact⟨z2,z4⟩
  .obtain⟨a,us,its,e1,a0,t1,w1,p1,l1⟩:=Z.lstAt I r1;rcases cO (gw h).2 J with⟨ys,rfl⟩|⟨ys,rfl⟩|Y
   .obtain⟨c,ws,D,e2,a7,t2,w2,p2,l2⟩:=J.tupAt I U;subst e1 a0 e2 a7;cases h;exact⟨.list_tuple p1 p2 z,.list_tuple p1 p2 z⟩
   .have q:=kl h Z J r1 U;obtain⟨c,ws,D,e2,a7,t2,w2,p2,l2⟩:=J.lstAt I U;subst e1 a0 e2 a7;refine⟨?_,q⟩;by_cases b0:a=c
    .subst b0;have e:=mx I _ _ Z J;rw[e]at h;rw[kj _ _ h];exact .same _
    .exact .of_refs b0 q
   .subst e1 a0;obtain⟨z1,z2,z3,z4⟩:=jf z Y U p1;have:b=false:=fW h (by rw[fX J Y];rfl);subst this;exact⟨z2,z4⟩
  .rcases cO (gw h).2 J with⟨ys,rfl⟩|⟨ys,rfl⟩|Y
   .obtain⟨c,ws,D,rfl,rfl,t2,w2,p2,l2⟩:=J.tupAt I U;obtain⟨z1,z2,z3,z4⟩:=ip z fx r1 p2;have:b=false:=fW h (by rw[fX Z fx];rfl);subst this;exact⟨z1,z3⟩
   .obtain⟨c,ws,D,rfl,rfl,t2,w2,p2,l2⟩:=J.lstAt I U;obtain⟨z1,z2,z3,z4⟩:=jf z fx r1 p2;have:b=false:=fW h (by rw[fX Z fx];rfl);subst this;exact⟨z1,z3⟩
   .rw[ny Z J fx Y h];exact⟨yb r1 U fx Y,zl r1 U fx Y⟩
end
section
variable{X:Cx}
def EM(hu:X.A.units+101<cLine):OpR X (compareOp .Eq) (λz D H Q=>∃x y b,Rep X.K H x z/\Rep X.K H y D/\eqF 100 x y=some b/\Q (.bl b) H):=by
 intro pins s σ H z D v u Q I J U h;obtain⟨x,y,b,Y,Z,e,q⟩:=h;exact(qr I 100 x y (by omega) e Y Z J U).2 _ _ _ _ ⟨.bl b,H,I,rfl,q⟩
def EN(hu:X.A.units+101<cLine):OpR X (compareOp .NotEq) (λux uy H Q=>∃x y b,Rep X.K H x ux/\Rep X.K H y uy/\t_ x y=true/\eqF 100 x y=some b/\Q (.bl (!b)) H):=by
 intro pins s σ H ux uy v u Q I rx ry h;obtain⟨x,y,b,U,r2,ok,e,q⟩:=h;rcases cO (gw e).1 U with⟨xs,rfl⟩|⟨xs,rfl⟩|fx
 .cases y with
  |tup ys =>
   refine aD λZq kq=>?_
   obtain⟨a,us,its,rfl,rfl,t1,w1,p1,l1⟩:=U.tupAt I rx;obtain⟨c,ws,J,rfl,rfl,t2,w2,p2,l2⟩:=r2.tupAt I ry;have e:eqL (eqF 99) xs ys=some b:=e;obtain⟨hs,hb⟩:=km xs ys e;obtain⟨⟨cls,dd,data,sl⟩,ho,hc,n,hd⟩:=id p1;obtain⟨⟨br,ao,data2,aO⟩,D,Y,n2,Z⟩:=id p2;simp only at hc hd Y Z;subst hc hd Y Z;refine kq ?_;refine LO (op:=.NotEq) ⟨_,ho,rfl⟩ ⟨_,D,rfl⟩ PySem.F.slot_tuple_ne PySem.F.entry_tuple_ne (PySem.F.args_tuple_ne_2 _ _) (SeqAt.tuple_neAt a c its.toArray J.toArray n n2 dd ao sl aO _)
    ⟨ho,D,kn (n:=99) (λx y {_ _ _ _ _ _} a1 a2 a3 a4 a5 a6=>(qr I 99 x y a1 a2 a3 a4 a5 a6).1) (by omega) t1 t2 w1 w2 hs,?_⟩ (by omega)
   refine⟨(λx=>nomatch x),⟨.bl (!b),H,I,?_,q⟩⟩;rw[hb];simp[l1,l2,L2.aF]
  | _=>cases ok
 .cases y with
  |lst ys =>
   refine aD λZq kq=>?_
   obtain⟨a,us,its,rfl,rfl,t1,w1,p1,l1⟩:=U.lstAt I rx;obtain⟨c,ws,J,rfl,rfl,t2,w2,p2,l2⟩:=r2.lstAt I ry;have e:(if xs.length=ys.length then eqL (eqF 99) xs ys else some false)=some b:=e;obtain⟨⟨cls,dd,data,sl⟩,ho,hc,n,hd⟩:=id p1;obtain⟨⟨br,ao,data2,aO⟩,D,Y,n2,Z⟩:=id p2;simp only at hc hd Y Z;subst hc hd Y Z;refine kq ?_;by_cases hl:xs.length=ys.length
   .rw[if_pos hl]at e;obtain⟨hs,hb⟩:=km xs ys e;refine LO (op:=.NotEq) ⟨_,ho,rfl⟩ ⟨_,D,rfl⟩ PySem.F.slot_list_ne PySem.F.entry_list_ne (PySem.F.args_list_ne_2 _ _) (SeqAt.list_neAt a c its.toArray J.toArray n n2 dd ao sl aO (by simp only[oe];omega) _)
     ⟨ho,D,kn (n:=99) (λx y {_ _ _ _ _ _} a1 a2 a3 a4 a5 a6=>(qr I 99 x y a1 a2 a3 a4 a5 a6).1) (by omega) t1 t2 w1 w2 hs,?_⟩ (by omega)
    refine⟨(λx=>nomatch x),⟨.bl (!b),H,I,?_,q⟩⟩;rw[hb,hl,Nl];simp[<- l1,hl,L2.aF]
   .rw[if_neg hl]at e;cases e;refine LO (op:=.NotEq) ⟨_,ho,rfl⟩ ⟨_,D,rfl⟩ PySem.F.slot_list_ne PySem.F.entry_list_ne (PySem.F.args_list_ne_2 _ _) (SeqAt.list_ne_lengthsAt a c its.toArray J.toArray n n2 dd ao sl aO (by simp only[oe,bne_iff_ne];omega)) ⟨ho,D,?_⟩ (by omega);exact⟨(λx=>nomatch x),⟨.bl true,H,I,rfl,q⟩⟩
  | _=>cases ok
 .have fy:iM uy=true:=by
   rcases cO (gw e).2 r2 with⟨ys,rfl⟩|⟨ys,rfl⟩|fy
   .cases x<;>cases ok
    obtain⟨_,_,rfl,_⟩:∃a us,ux=V.ref a/\_:=by rw[Rep]at U;exact U
    exact absurd (show false=true from fx) il
   .cases x<;>cases ok
    obtain⟨_,_,rfl,_⟩:∃a us,ux=V.ref a/\_:=by rw[Rep]at U;exact U
    exact absurd (show false=true from fx) il
   .exact fy
  have hb:=ny U r2 fx fy e;subst hb;refine GR pins s σ H ux uy v u Q I rx ry ?_;have key:scal ux uy=true/\decide (ux=uy)=eqV ux uy:=by
   cases x<;>cases y<;>simp only[Rep]at U r2<;>first
    | (obtain⟨_,_,rfl,_⟩:=U;exact absurd (show false=true from fx) il)
    | (obtain⟨_,_,rfl,_⟩:=r2;exact absurd (show false=true from fy) il)
    | (obtain⟨_,rfl,_⟩:=U;exact absurd (show false=true from fx) il)
    | (obtain⟨_,rfl,_⟩:=r2;exact absurd (show false=true from fy) il)
    | (subst U r2;first|(cases ok;done)|exact⟨rfl,by first|exact u0|exact xT|exact u6|exact J3 rfl|exact Kc (λz=>by cases z)⟩)
  exact⟨key.1,by rw[key.2];exact q⟩
def ko(I:Inv X pins σ H s)(hu:X.A.units+101<cLine)(rx:Rep X.K H x ux)(r1:aF ux vx)(t:Reps X.K H xs us)(w:aH us its)(h:isIn x xs=some b) :
  ∃e,(∀y,y∈its.toArray->SeqAt.EqAt X.A.in1 s y vx (e y))/\its.toArray.any e=b:=by
 obtain⟨h1,h2⟩:=vD xs h
 classical
 have D:∀z u y,aF u y->Rep X.K H z u->∀p:(∃z u,aF u y/\Rep X.K H z u),p.choose=z:=λz u y r q p=>by
  obtain⟨u',r',q'⟩:=p.choose_spec;have e:=r.inj r';subst e;exact mx I _ _ q' q
 refine⟨λy=>if p:∃z u,aF u y/\Rep X.K H z u then(eqF 100 p.choose x).getD false else false,?_,?_⟩
 .intro y hy;refine aD λZq kq=>?_
  obtain⟨j,hj,e⟩:=MZ (by simpa using hy:y∈its);have ej:its[j]?=some y:=by rw[J1 hj,e]
  have l1:=w.length;obtain⟨J,Z⟩:∃J,us[j]?=some J:=⟨_,J1 (by omega)⟩;obtain⟨wy,e2,U⟩:=w.get Z;rw[ej]at e2;cases e2;obtain⟨z,e3,Y⟩:=t.get' Z;obtain⟨c,hc⟩:=h1 z (Lc e3);have q:=(qr I 100 z x (A:=X.A.in1) (show X.A.units+1+100<cLine by omega) hc Y rx U r1).1;have p:∃z u,aF u y/\Rep X.K H z u:=⟨z,J,U,Y⟩;have e4:=D z J y U Y p;refine kq ?_
  simp_all
 .rw[h2];simp only[any_toArray];clear h h1 h2
  induction xs generalizing us its with
  |nil =>
   rw[Reps]at t;subst t;cases w
   rfl
  |cons z zs ih =>
   rw[Reps]at t;obtain⟨u,r,rfl,q,t⟩:=t;cases w with
   |cons rv w =>
    rename_i y ys;have p:∃z u,aF u y/\Rep X.K H z u:=⟨z,u,rv,q⟩;have e4:=D z u y rv q p;rw[any_cons,any_cons,ih t w];simp only[p,dite_true,e4]
def EO(J:X.A.units+101<cLine):OpR X (compareOp .In) (λU Y H Q=>∃x xs a us b,Rep X.K H x U/\Y=.ref a/\(SqL X.K H a us\/SqT X.K H a us)/\Reps X.K H xs us/\isIn x xs=some b/\Q (.bl b) H):=by
 intro pins s σ H U Y v u Q I Z ry h;obtain⟨x,xs,a,us,b,r1,rfl,z,r2,e,q⟩:=h;cases ry;rcases z with z|z
 .obtain⟨its,r,D,hz⟩:=I.list z;obtain⟨f,h1,h2⟩:=ko I J r1 Z r2 r e;refine SeqAt.in_listAt f D.isList h1 ?_;rw[h2];exact⟨.bl b,H,I,rfl,q⟩
 .obtain⟨its,r,D,hz⟩:=I.tuple z;obtain⟨f,h1,h2⟩:=ko I J r1 Z r2 r e;refine SeqAt.in_tupleAt f D h1 ?_;rw[h2];exact⟨.bl b,H,I,rfl,q⟩
def wU(J:X.A.units+101<cLine):OpR X (compareOp .NotIn) (λU Y H Q=>∃x xs a us b,Rep X.K H x U/\Y=.ref a/\(SqL X.K H a us\/SqT X.K H a us)/\Reps X.K H xs us/\isIn x xs=some b/\Q (.bl (!b)) H):=by
 intro pins s σ H U Y v u Q I Z ry h;obtain⟨x,xs,a,us,b,r1,rfl,z,r2,e,q⟩:=h;cases ry;rcases z with z|z
 .obtain⟨its,r,D,hz⟩:=I.list z;obtain⟨f,h1,h2⟩:=ko I J r1 Z r2 r e;refine SeqAt.notIn_listAt f D.isList h1 ?_;rw[h2];exact⟨.bl _,H,I,rfl,q⟩
 .obtain⟨its,r,D,hz⟩:=I.tuple z;obtain⟨f,h1,h2⟩:=ko I J r1 Z r2 r e;refine SeqAt.notIn_tupleAt f D h1 ?_;rw[h2];exact⟨.bl _,H,I,rfl,q⟩
end
end MM
namespace L2
open PySem PySem.Spec PyProof.Rows List Option
theorem PE.imp(h:PE X e t)(i:∀σ H Q,t' σ H Q->t σ H Q):PE X e t':=λpins s σ H Q I q=>h pins s σ H Q I (i σ H Q q)
theorem PT.imp(h:PT X e t)(i:∀σ H Q,t' σ H Q->t σ H Q):PT X e t':=λpins s σ H Q I q=>h pins s σ H Q I (i σ H Q q)
theorem PA.imp(h:PA X e t)(i:∀σ H Q,t' σ H Q->t σ H Q):PA X e t':=λpos pins s σ H Q I q=>h pos pins s σ H Q I (i σ H Q q)
theorem PS.imp(h:PS X e t)(i:∀D σ H,t' D σ H->t D σ H):PS X e t':=λpins s σ H D I q=>h pins s σ H D I (i D σ H q)
theorem PSs.imp(h:PSs X e t)(i:∀D σ H,t' D σ H->t D σ H):PSs X e t':=λpins s σ H D I q=>h pins s σ H D I (i D σ H q)
theorem PI.imp(h:PI X tg e t)(i:∀σ H R,t' σ H R->t σ H R):PI X tg e t':=λpins s σ H R I q=>h pins s σ H R I (i σ H R q)
end L2
namespace MM
open PySem PySem.Spec PyProof.Rows L2 List Option
noncomputable def jy(H:Hp)(ms:List Addr):Hp:=λb=>if b∈ms then none else H b
def lM(K:Nx)(O:List Addr)(H:Hp):MV->V->Prop
 | .val v,u=>Rep K (aw H O) v u
 | .brw xs,u=>∃a us,u=.ref a/\SqL K H a us/\Reps K (aw H O) xs us
 | .own _,_=>False
 | .ownD _,_=>False
 | .mutD _,_=>False
 | .brwD kvs,u=>∃a,u=.ref a/\Rd H a (iT kvs)
noncomputable def spM(K:Nx)(cal:Cal)(f:Nat):Sp:=λvs H Q _ =>
 ∃O args r,(∀a∈O,H a≠none)/\Paired (lM K O H) args vs/\cal f args=some r/\∀u H',aj H H'->Rep K (aw H' O) r u->Q u H'
noncomputable def spF(K:Nx)(cal:Cal)(f:Nat):Sp:=λvs H Q _ =>
 ∃O args xs,(∀a∈O,H a≠none)/\Paired (lM K O H) args vs/\cal (f+1000) args=some (.lst xs)/\∀p us H',aj H H'->H p=none->H' p=some (.lst us)->Reps K (aw H' (p::O)) xs us->Q (.ref p) H'
def EQ(K:Nx)(O:List Addr)(H:Hp):MV->V->Prop
 | .val v,u=>Rep K (aw H O) v u
 | .mutD d,u=>∃a,u=.ref a/\DAt K H O a d/\a∈O
 | _,_=>False
inductive cA(K:Nx)(O:List Addr)(H':Hp):List MV->List V->List PV->List Addr->Prop where
 | nil:cA K O H' [] [] [] []
 | mutd {d d':DD}{a:Addr}{as:List MV}{vs:List V}{ds:List PV}{ms:List Addr} (h:DAt K H' O a d') (hn:a∉ms) (t:cA K O H' as vs ds ms):cA K O H' (.mutD d::as) (.ref a::vs) (.dI d'::ds) (a::ms)
 | other {m:MV}{v:V}{as:List MV}{vs:List V}{ds:List PV}{ms:List Addr} (h:∀d,m≠.mutD d) (t:cA K O H' as vs ds ms):cA K O H' (m::as) (v::vs) ds ms
noncomputable def spD(K:Nx)(cal:Cal)(f:Nat):Sp:=λvs H Q _ =>
 ∃O args v ds z ms,(∀a∈O,H a≠none)/\Paired (EQ K O H) args vs/\cA K O H args vs z ms/\cal (f+2000) args=some (.tup (v::ds)) /\
  ∀u H',(∀b o,b∉ms->H b=some o->H' b=some o)->cA K O H' args vs ds ms->Rep K (aw H' O) v u->Q u H'
noncomputable def ku:List String:=["len","tuple","list","sorted","any","all","sum","max","min","int","bool","str","isinstance","set","range","enumerate","reversed"
 ]
noncomputable def toV:PV->V
 | .non=>.non
 | .bl b=>.bl b
 | .int i=>.int i
 | .str x=>.str x
 | _=>.non
structure Gf(X:Cx)(T:Tab)(k:Nat)(cal:Cal):Prop where
 calm:X.calm=true
 room:kT k X.A
 fns:∀(f:Nat) (x:Str),T.fs[f]?=some x->∃(fa:Addr) (fd:FuncData) (ps:List Str),X.mg x=some (.ref fa)/\PySem.W.keepIn X.K (.ref fa)=true/\c9 X.K fd ps []/\jD X.prog X.w X.K X.mg X.base CX0 k fa fd ps (spM X.K cal f)/\∀l,T.ds[f]?=some l->∃vs,c9 X.K fd ps vs/\aH (l.map Sc.v) vs
 blt:∀x∈ku,X.mg (x:Str)=none
 gs:∀p∈T.gs,∃u,X.mg p.1=some u/\aF (toV p.2) u
 fnsF:∀(f:Nat) (x:Str),T.fs[f]?=some x->∃(fa:Addr) (fd:FuncData) (ps:List Str),X.mg x=some (.ref fa)/\PySem.W.keepIn X.K (.ref fa)=true/\c9 X.K fd ps []/\jD X.prog X.w X.K X.mg X.base CX0 k fa fd ps (spF X.K cal f)
 fnsD:∀(f:Nat) (x:Str),T.fs[f]?=some x->∃(fa:Addr) (fd:FuncData) (ps:List Str),X.mg x=some (.ref fa)/\PySem.W.keepIn X.K (.ref fa)=true/\c9 X.K fd ps []/\jD X.prog X.w X.K X.mg X.base CX0 k fa fd ps (spD X.K cal f)
theorem Gf.units(g:Gf X T k cal):X.A.units+200<cLine:=by have:=g.room.un;omega
def Got(K:Nx)(H:Hp)(O:List Addr)(z:ME)(v:PV)(u:V):Prop:=bH K H O v u/\(aI z=false->Rep K (aw H O) v u)
noncomputable def tE(K:Nx)(cal:Cal)(z:ME):TE:=λσ H Q=>∃B E O W v,aE K B E O H W σ/\ev cal z W=some v/\∀u H',aj H H'->Got K H' O z v u->Q u H'
noncomputable def tT(K:Nx)(cal:Cal)(z:ME):TT:=λσ H Q=>∃B E O W b,aE K B E O H W σ/\evB cal z W=some b/\∀H',aj H H'->Q b H'
def Jy(K:Nx)(H:Hp)(O:List Addr)(ms:List ME)(vs:List PV)(us:List V):Prop:=Paired (bH K H O) vs us/\((ms.all λm=>!aI m)=true->Reps K (aw H O) vs us)
noncomputable def tEs(K:Nx)(cal:Cal)(ms:List ME):TA:=λσ H Q=>∃B E O W vs,aE K B E O H W σ/\evs cal ms W=some vs/\∀us H',aj H H'->Jy K H' O ms vs us->Q us H'
noncomputable def tAs(K:Nx)(cal:Cal)(ms:List ME):TA:=λσ H Q=>∃B E O W vs,aE K B E O H W σ/\evA cal ms W=some vs/\∀us H',aj H H'->Paired (lM K O H') vs us->Q us H'
section
variable{K:Nx}{H H':Hp}{O:List Addr}
theorem Got.of(h:Rep K (aw H O) v u):Got K H O z v u:=⟨.inl h,λ_=>h⟩
theorem Got.scal(h:∀F,Rep K F v u):Got K H O z v u:=.of (h _)
theorem Got.mono(s:aj H H')(h:Got K H O z v u):Got K H' O z v u:=⟨h.1.mono s,λe=>Rep.mono (al s) _ (h.2 e)⟩
def eG(F)(b):Rep K F (.bl b) (.bl b):=rfl
def cf(F)(b):Rep K F (.int b) (.int b):=rfl
def my(F)(b):Rep K F (.str b) (.str b):=rfl
def qt(F):Rep K F .non .non:=rfl
def g6(J:∀a∈O,H1 a≠none)(D:H1 p=none)(h:Reps K (aw H1 O) xs us):Rep K (aw (upd H1 p (.tup us)) O) (.tup xs) (.ref p):=by
 refine⟨p,us,rfl,?_,Reps.mono (al (az D _)) _ h⟩;rw[aW (λz=>J p z D)];exact ay
def nz(J:∀a∈O,H1 a≠none)(D:H1 p=none)(h:Reps K (aw H1 O) xs us):Rep K (aw (upd H1 p (.lst us)) O) (.lst xs) (.ref p):=by
 refine⟨p,us,rfl,SqL.of ?_,Reps.mono (al (az D _)) _ h⟩;rw[aW (λz=>J p z D)];exact ay
def bw(s:aj H H')(h:∀a∈O,H a≠none):∀a∈O,H' a≠none:=λa z e=>h a z (s.free e)
def cH(h:n<=10000):n<=sizeLine:=r4 h (by decide)
end
section
variable{X:Cx}{T:Tab}{k:Nat}{cal:Cal}
def Ho(h:Es sc x=true):Vis sc x:=by
 unfold Es at h;simp[J0]at h;rcases h with(h|h)|h
 .exact .inl h
 .exact .inr (.inl h)
 .exact .inr (.inr h)
def iV(h:fO sc x=true):Loc sc x:=by
 unfold fO at h;simp[J0]at h;exact h
def iq (h:aq x=true):(x==("__debug__":Str))=false/\(x==("__classdict__":Str))=false/\x ≠ "__name__":=by simp_all [aq]
def dq(h:glB X.env.scope x=true):Gl X x:=by
 unfold glB at h;simp at h;exact h
def cg(h:aX X.N X.env.scope i x=true):PE X (.Name x pos) (GB i):=by
 unfold aX at h;simp[g4,J0]at h;obtain⟨⟨h1,h2⟩,z⟩:=h;obtain⟨p1,p2,_⟩:=iq z;exact DB h1 (Ho h2) p1 p2
def aT{K:Nx}(st:aE K B E O H W σ){i:Nat}(e:(W[i]?).join=some m):∃u,σ[i]?=some (some u)/\fo K B O H m u:=st.slot i m (aG e)
def Di(h:aX X.N X.env.scope i x=true):PE X (.Name x pos) (tE X.K cal (.var i)):=by
 refine(cg h).imp λσ H Q J=>?_
 obtain⟨B,E,O,W,v,st,z,q⟩:=J;rw[ev]at z;cases D:(W[i]?).join with
 |none=>rw[D]at z;cases z
 |some m =>
  rw[D]at z;cases m with
  |val w =>
   simp[yU]at z;subst z;obtain⟨u,U,r⟩:=aT st D;exact⟨u,U,q u H (aj.refl H) (.of r)⟩
  | _=>cases z
def Dj(h:aX X.N X.env.scope i x=true):PE X (.Name x pos) (tE X.K cal (.bor i)):=by
 refine(cg h).imp λσ H Q U=>?_
 obtain⟨B,E,O,W,v,st,D,q⟩:=U;rw[ev]at D;cases J:(W[i]?).join with
 |none=>rw[J]at D;cases D
 |some m =>
  rw[J]at D;obtain⟨u,Y,r⟩:=aT st J;exact⟨u,Y,q u H (aj.refl H) ⟨r.bor st.keep D,λz=>by cases z⟩⟩
def Dk(h:uf v c=true):PE X (.Constant c j pos) (tE X.K cal (.cst v)):=by
 have key:∀u,_->PE X (.Constant c j pos) _->PE X _ (tE X.K cal (.cst v)):=λu r p=>p.imp λσ H Q z=>by
  obtain⟨B,E,O,W,w,st,D,q⟩:=z;cases D;exact q u H (aj.refl H) (.scal r)
 cases v<;>cases c<;>simp[uf,J6,J0]at h
 .exact key .non (λF=>qt F) DE
 .subst h;exact key _ (λF=>eG F _) GC
 .subst h;exact key _ (λF=>cf F _) DC
 .subst h;exact key _ (λF=>my F _) tq
def zm(g:Gf X T k cal)(h:(x==y&&glB X.env.scope x&&Dc T.gs x v&&aq x)=true):PE X (.Name y pos) (tE X.K cal (.glob x v)):=by
 simp[g4,J0]at h;obtain⟨⟨⟨rfl,U⟩,hs⟩,Y⟩:=h;obtain⟨p,J,D⟩:=K1.mp hs;simp[g4,J0]at D;obtain⟨rfl,hv⟩:=D;obtain⟨u,Z,r⟩:=g.gs p J;have e:p.2=v/\∀F,Rep X.K F v (toV v):=by
  revert hv;generalize p.2=z;intro hv;cases z<;>cases v<;>simp[Db,J6,J0]at hv
  .exact⟨rfl,λF=>qt F⟩
  .subst hv;exact⟨rfl,λF=>eG F _⟩
  .subst hv;exact⟨rfl,λF=>cf F _⟩
  .subst hv;exact⟨rfl,λF=>my F _⟩
 rw[e.1]at r;refine(Bh (dq U) Z r (iq Y).1).imp λσ H Q hq=>?_
 obtain⟨B,E,O,W,w,st,he,q⟩:=hq;cases he;exact q _ H (aj.refl H) (.scal e.2)
end
section
variable{X:Cx}
noncomputable def R2M(K:Nx)(f:PV->PV->Option PV):R2:=λz D H Q =>
 ∃O x y v,(∀a∈O,H a≠none)/\bH K H O x z/\bH K H O y D/\f x y=some v/\∀u H',aj H H'->Rep K (aw H' O) v u->Q u H'
def lj{g:Int->Int->Int}(h:OpR X (binaryOp op) (rI C λi j=>.int (g i j)))
  (z:∀x y v,f x y=some v->∃i j,x=.int i/\y=.int j/\C i j/\v=.int (g i j)):OpR X (binaryOp op) (R2M X.K f):=by
 intro pins s σ H ux uy v u Q I D J U;refine aD λZq Y=>?_
 obtain⟨O,x,y,w,hO,Z,r2,e,q⟩:=U;obtain⟨i,j,rfl,rfl,c,rfl⟩:=z x y w e;have e1:=Z.int;have e2:=r2.int;subst e1 e2;refine Y ?_;exact h pins s σ H _ _ v u Q I D J ⟨i,j,rfl,rfl,c,q _ H (aj.refl H) (cf _ _)⟩
def Cd:OpR X (binaryOp .Add) (λx y H Q=>∃l b xs zs,x=.ref l/\y=.ref b/\SqL X.K H l xs/\SqL X.K H b zs/\xs.length+zs.length<=sizeLine/\∀p,H p=none->Q (.ref p) (upd H p (.lst (xs++zs)))):=by
 intro pins s σ H x y v u Q I rx ry h;refine aD λZq kq=>?_
 obtain⟨l,b,xs,zs,rfl,rfl,hH,hB,hz,q⟩:=h;cases rx;cases ry;obtain⟨its,r,pl,_⟩:=I.list hH;obtain⟨z,r2,Y,_⟩:=I.list hB;have l1:=r.length;have l2:=r2.length;obtain⟨⟨cls,dd,data,sl⟩,ho,hc,n,hd⟩:=pl.isList;obtain⟨⟨a0,Z,data2,ao⟩,D,J,n2,U⟩:=Y.isList;simp only at hc hd J U;subst hc hd J U;have e:its.toArray++z.toArray=(its++z).toArray:=by simp
 refine kq ?_;refine Nf ⟨_,ho,rfl⟩ ⟨_,D,rfl⟩ noFill_list_add seq_list_add PySem.F.slot_list_add PySem.F.entry_list_add (PySem.F.args_list_add_2 _ _) (list_addW l b its.toArray z.toArray n n2 dd Z sl ao (by rw[oe,oe];omega)) ⟨ho,D,?_⟩;rw[e];exact⟨.ref _,_,I.lnew (r.append r2) (by rw[tr];omega),rfl,q _ I.fresh⟩
def Ce:OpR X (binaryOp .Add) (λx y H Q=>∃a b ys,x=.ref a/\y=.ref b/\SqT X.K H a []/\SqT X.K H b ys/\Q (.ref b) H):=by
 intro pins s σ H x y v u Q I rx ry h;refine aD λZq kq=>?_
 obtain⟨a,b,ys,rfl,rfl,ha,hb,q⟩:=h;cases rx;cases ry;obtain⟨its,r1,⟨⟨c1,d1,t1,l1⟩,ho,hc,n,hd⟩,_⟩:=I.tuple ha;obtain⟨J,r2,⟨⟨c2,d2,t2,l2⟩,U,Y,n2,Z⟩,_⟩:=I.tuple hb;cases hc;cases hd;cases Y;cases Z;have z:=r1.nil_iff.mpr rfl;have D:=tuple_addW0 a b its.toArray J.toArray n n2 d1 d2 l1 l2 (by simp[z]);refine kq ?_;exact Nf ⟨_,ho,rfl⟩ ⟨_,U,rfl⟩ Ng seq_tuple_add PySem.F.slot_tuple_add PySem.F.entry_tuple_add (PySem.F.args_tuple_add_2 _ _) D ⟨ho,U,.ref b,H,I,rfl,q⟩
def fc(h:ke f x y=some v):∃i j,x=.int i/\y=.int j/\f i j=some v:=by
 cases x<;>try (cases h;done)
 cases y<;>try (cases h;done)
 exact⟨_,_,rfl,rfl,h⟩
def kw{C:Int->Int->Prop} [∀i j,Decidable (C i j)] {g:Int->Int->Int}{x y v:PV} (h:ke (λi j=>if C i j then some (.int (g i j))else none) x y=some v):∃i j,x=.int i/\y=.int j/\C i j/\v=.int (g i j):=by
 obtain⟨i,j,z,D,J⟩:=fc h
 simp_all
def uj(op):OpR X (binaryOp (ue op)) (R2M X.K (gU op)):=by
 cases op with
 |sub=>exact lj (C:=λ_ _=>True) (g:=λi j=>i-j) (λpins s σ H x y v u Q I D J h=>DR pins s σ H x y v u Q I D J (by obtain⟨i,j,U,Y,_,q⟩:=h;exact⟨i,j,U,Y,q⟩)) (λx y v h=>by
   obtain⟨i,j,U,Y,e3⟩:=fc h;exact⟨i,j,U,Y,trivial,(JZ e3).symm⟩)
 |mul=>exact lj DS λx y v h=>by have q:=kw h;exact q
 |fdiv=>exact lj Bn λx y v h=>by have q:=kw h;exact q
 |mod=>exact lj DT λx y v h=>by have q:=kw h;exact q
 |pow=>exact lj DU λx y v h=>by have q:=kw h;exact q
 |shr=>exact lj DV λx y v h=>by have q:=kw h;exact q
 |add =>
  intro pins s σ H ux uy v u Q I D J hq;obtain⟨O,x,y,w,hO,Z,r2,e,q⟩:=hq;cases x<;>try (cases e;done)
  all_goals (cases y<;>simp only[gU,C_]at e<;>try (cases e;done))
  .cases e;have U:=Z.int;have Y:=r2.int;subst U Y;exact DQ pins s σ H _ _ v u Q I D J ⟨_,_,rfl,rfl,q _ H (aj.refl H) (cf _ _)⟩
  .split at e
   .rename_i c;cases e;have U:=Z.str;have Y:=r2.str;subst U Y;exact tH pins s σ H _ _ v u Q I D J ⟨_,_,rfl,rfl,r4 c (by decide),q _ H (aj.refl H) (my _ _)⟩
   .cases e
  .split at e
   .rename_i c;cases e;obtain⟨a,us,rfl,s1,t1⟩:=Z.tup;obtain⟨b,ws,rfl,s2,t2⟩:=r2.tup;have l1:=t1.length;have l2:=t2.length;have w1:=Z.tupR;have w2:=r2.tupR;by_cases z0:us=[]
    .subst z0;have z1:=LF l1;subst z1;exact Ce pins s σ H _ _ v u Q I D J ⟨a,b,ws,rfl,rfl,s1,s2,q _ H (aj.refl H) w2⟩
    refine Bw pins s σ H _ _ v u Q I D J ⟨a,b,us,ws,rfl,rfl,s1,s2,z0,cH (by omega),λz=>?_,λz p hp=>?_⟩
    .rw[z,length_nil]at l2;have z1:=LF l2;subst z1;rw[Ll]at q;exact q _ H (aj.refl H) w1
    .exact q _ _ (az hp _) (g6 hO hp (t1.append t2))
   .cases e
  .split at e
   .rename_i c;cases e;obtain⟨a,us,rfl,s1,t1⟩:=Z.lst;obtain⟨b,ws,rfl,s2,t2⟩:=r2.lst;have l1:=t1.length;have l2:=t2.length;exact Cd pins s σ H _ _ v u Q I D J ⟨a,b,us,ws,rfl,rfl,s1,s2,cH (by omega),λp hp=>q _ _ (az hp _) (nz hO hp (t1.append t2))⟩
   .cases e
noncomputable def R2C(K:Nx)(f:PV->PV->Option Bool):R2:=λz D H Q =>
 ∃O x y b,bH K H O x z/\bH K H O y D/\f x y=some b/\Q (.bl b) H
def mz{g:Int->Int->Bool}(h:OpR X (compareOp op) (rI0 λi j=>.bl (g i j)))
  (z:∀x y v,f x y=some v->∃i j,x=.int i/\y=.int j/\v=g i j):OpR X (compareOp op) (R2C X.K f):=by
 intro pins s σ H ux uy v u Q I D J U;refine aD λZq Y=>?_
 obtain⟨O,x,y,w,Z,r2,e,q⟩:=U;obtain⟨i,j,rfl,rfl,rfl⟩:=z x y w e;have e1:=Z.int;have e2:=r2.int;subst e1 e2;refine Y ?_;exact h pins s σ H _ _ v u Q I D J ⟨i,j,rfl,rfl,q⟩
def ER:OpR X (compareOp .Is) (λx y H Q=>∃p q,x=.bl p/\y=.bl q/\Q (.bl (p==q)) H):=by
 rintro pins s σ H x y v u Q I z D ⟨p,q,rfl,rfl,J⟩;cases z;cases D;exact gf (ce I J (by cases p<;>cases q<;>rfl))
def wV:OpR X (compareOp .IsNot) (λx y H Q=>∃p q,x=.bl p/\y=.bl q/\Q (.bl (!(p==q))) H):=by
 rintro pins s σ H x y v u Q I z D ⟨p,q,rfl,rfl,J⟩;cases z;cases D;exact gf (ce I J (by cases p<;>cases q<;>rfl))
def vE{K:Nx}(r:bH K H O x u):decide (u=.non)=jx x:=by
 cases x with
 |non=>rw[r.non];rfl
 |bl b=>rw[r.bl];rfl
 |int b=>rw[r.int];rfl
 |str b=>rw[r.str];rfl
 |tup xs=>obtain⟨a,us,rfl,_⟩:=r.tup;rfl
 |lst xs=>obtain⟨a,us,rfl,_⟩:=r.lst;rfl
 |dI kvs=>obtain⟨a,rfl,_⟩:=r.dI;rfl
def zn(hu:X.A.units+200<cLine)(op):OpR X (compareOp (zc op)) (R2C X.K (cF op)):=by
 cases op with
 |lt=>exact mz GS λx y v h=>by obtain⟨i,j,D,z,e3⟩:=fc h;exact⟨i,j,D,z,(JZ e3).symm⟩
 |le=>exact mz GT λx y v h=>by obtain⟨i,j,D,z,e3⟩:=fc h;exact⟨i,j,D,z,(JZ e3).symm⟩
 |gt=>exact mz GU λx y v h=>by obtain⟨i,j,D,z,e3⟩:=fc h;exact⟨i,j,D,z,(JZ e3).symm⟩
 |ge=>exact mz GV λx y v h=>by obtain⟨i,j,D,z,e3⟩:=fc h;exact⟨i,j,D,z,(JZ e3).symm⟩
 |eq =>
  intro pins s σ H ux uy v u Q I J U hq;obtain⟨O,x,y,w,Y,Z,e,q⟩:=hq;exact EM (by omega) pins s σ H ux uy v u Q I J U ⟨x,y,w,Y.whole,Z.whole,e,q⟩
 |ne =>
  intro pins s σ H ux uy v u Q I J U hq;obtain⟨O,x,y,w,Y,Z,e,q⟩:=hq;simp only[cF]at e;split at e
  .rename_i c;simp only[mu]at e;obtain⟨b,e,rfl⟩:=e;exact EN (by omega) pins s σ H ux uy v u Q I J U ⟨x,y,b,Y.whole,Z.whole,c,e,q⟩
  .cases e
 |isN =>
  intro pins s σ H ux uy v u Q I J U hq;obtain⟨O,x,y,w,Y,Z,e,q⟩:=hq;cases y<;>try (cases e;done)
  .have z:=Z.non;subst z;refine DW pins s σ H ux _ v u Q I J U ⟨rfl,?_⟩;have e:=e;rw[vE Y,JZ e];exact q
  .cases x<;>try (cases e;done)
   have D:=Y.bl;have z:=Z.bl;subst D z;exact ER pins s σ H _ _ v u Q I J U ⟨_,_,rfl,rfl,by rw[JZ e];exact q⟩
 |notN =>
  intro pins s σ H ux uy v u Q I J U hq;obtain⟨O,x,y,w,Y,Z,e,q⟩:=hq;cases y<;>try (cases e;done)
  .have z:=Z.non;subst z;refine Bp pins s σ H ux _ v u Q I J U ⟨rfl,?_⟩;have e:some (!jx x)=some w:=e;rw[vE Y,JZ e];exact q
  .cases x<;>try (cases e;done)
   have D:=Y.bl;have z:=Z.bl;subst D z;cases e;exact wV pins s σ H _ _ v u Q I J U ⟨_,_,rfl,rfl,q⟩
 |isIn =>
  intro pins s σ H ux uy v u Q I J U hq;obtain⟨O,x,y,w,Y,Z,e,q⟩:=hq;simp only[cF,ft]at e;obtain⟨xs,D,z⟩:=e;obtain⟨a,us,rfl,s2,t2⟩:=Z.seq D;exact EO (by omega) pins s σ H ux _ v u Q I J U ⟨x,_,a,us,w,Y.whole,rfl,s2,Reps.mono (bU H O) _ t2,z,q⟩
 |notIn =>
  intro pins s σ H ux uy v u Q I J U hq;obtain⟨O,x,y,w,Y,Z,e,q⟩:=hq;simp only[cF,ft,mu]at e;obtain⟨b,⟨xs,D,z⟩,rfl⟩:=e;obtain⟨a,us,rfl,s2,t2⟩:=Z.seq D;exact wU (by omega) pins s σ H ux _ v u Q I J U ⟨x,_,a,us,b,Y.whole,rfl,s2,Reps.mono (bU H O) _ t2,z,q⟩
def sg(n)(i):place n i=ixN n i:=rfl
def ES:IxR X (R2M X.K gW):=by
 intro value slice pins s σ H ux uy v u Q I rx ry hq z;obtain⟨O,x,y,w,hO,r1,r2,e,q⟩:=hq;cases x<;>cases y<;>simp[gW]at e<;>try (cases e;done)
 .simp[ft]at e;obtain⟨j,Y,Z⟩:=e;obtain⟨a,us,rfl,s1,J⟩:=r1.tup;have e3:=r2.int;subst e3;obtain⟨U,e4,D⟩:=J.get Z;refine ya value slice pins s σ H _ _ v u Q I rx ry (.inr (.inl ⟨a,us,_,U,rfl,rfl,s1,?_,q U H (aj.refl H) D⟩)) z;unfold atI;rw[<- J.length,<- sg,Y];exact e4
 .simp[ft]at e;obtain⟨j,Y,Z⟩:=e;obtain⟨a,us,rfl,s1,J⟩:=r1.lst;have e3:=r2.int;subst e3;obtain⟨U,e4,D⟩:=J.get Z;refine ya value slice pins s σ H _ _ v u Q I rx ry (.inl ⟨a,us,_,U,rfl,rfl,s1,?_,q U H (aj.refl H) D⟩) z;unfold atI;rw[<- J.length,<- sg,Y];exact e4
def ul(h:b9 b=true):u9 b:=by
 intro o i;cases b<;>first|rfl|(simp[b9]at h)
def sh{K:Nx}(h:Reps K F xs us)(lo hi):Reps K F (cut xs lo hi) (wz us lo hi):=by
 have z:=h.length;have e:∀n d o,iR n d o=HT.sIx n d o:=λn d o=>by cases o<;>rfl
 unfold cut wz;rw[e,e,z];exact(h.drop _).take _
def ET:SlR X (λx lo hi H Q=>∃O v w,(∀a∈O,H a≠none)/\bH X.K H O v x/\mj v lo hi=some w/\∀u H',aj H H'->Rep X.K (aw H' O) w u->Q u H'):=by
 intro pins s σ H x v Y Z lo hi sl Q I rx hs pl pu hq;obtain⟨O,pv,w,hO,r1,e,q⟩:=hq;cases pv<;>simp only[mj]at e<;>try (cases e;done)
 .rename_i xs;cases e;obtain⟨a,us,rfl,U,z⟩:=r1.tup;have e:∀n d o,iR n d o=HT.sIx n d o:=λn d o=>by cases o<;>rfl
  by_cases D:HT.sIx us.length 0 lo=0/\HT.sIx us.length us.length hi=us.length
  .refine BT pins s σ H _ v Y Z lo hi sl Q I rx hs pl pu ⟨a,us,rfl,U,D.1,D.2,q _ _ (aj.refl H) ?_⟩;have:cut xs lo hi=xs:=by
    unfold cut;rw[e,e,z.length,D.1,D.2,drop_zero,<- z.length,Nat.sub_zero,take_length]
   rw[this];exact r1.tupR
  .exact DY pins s σ H _ v Y Z lo hi sl Q I rx hs pl pu ⟨a,us,rfl,U,D,λp J=>q _ _ (az J _) (g6 hO J (sh z lo hi))⟩
 .cases e;obtain⟨a,us,rfl,U,z⟩:=r1.lst;exact By pins s σ H _ v Y Z lo hi sl Q I rx hs pl pu ⟨a,us,rfl,U,λp J=>q _ _ (az J _) (nz hO J (sh z lo hi))⟩
end
theorem vF(x):∀l,yR x l=Srt.l7 Srt.dh x l
 | []=>rfl
 |y::r=>by
  show(if y<x then y::yR x r else x::y::r)=(if Srt.dh.blt y x=true then y::Srt.l7 Srt.dh x r else x::y::r);rw[vF x r];by_cases h:y<x
  .have e:Srt.dh.blt y x=true:=J3 h;rw[if_pos h,if_pos e]
  .have e:Srt.dh.blt y x=false:=Kc h;rw[if_neg h,if_neg (by rw[e];exact il)]
theorem du:∀l,sortI l=Srt.sortI l
 | []=>rfl
 |x::r=>by
  show yR x (sortI r)=Srt.l7 Srt.dh x (Srt.iF Srt.dh r);rw[du r,vF];rfl
theorem nD:∀a b,lexLt a b=HT.lexLt a b
 | [],[]=>rfl
 | [],_::_=>rfl
 | _::_,[]=>rfl
 |x::xs,y::ys=>by
  rw[lexLt,HT.lexLt_cons,nD xs ys]
theorem vG(x):∀l,yS x l=Srt.l7 Srt.fj x l
 | []=>rfl
 |y::r=>by
  show(if lexLt y x=true then y::yS x r else x::y::r)=(if Srt.fj.blt y x=true then y::Srt.l7 Srt.fj x r else x::y::r);rw[vG x r,nD]
  rfl
theorem kz:∀l,sortT l=Srt.sortT l
 | []=>rfl
 |x::r=>by
  show yS x (sortT r)=Srt.l7 Srt.fj x (Srt.iF Srt.fj r);rw[kz r,vG];rfl
theorem pw:∀l,dd l=St.dd l
 | []=>rfl
 |x::r=>by
  unfold dd St.dd;rw[pw r]
def Cf(ns):Srt.sortI (St.dd ns.reverse)=sortI (dd ns):=by
 rw[du,pw];refine Srt.sortI_of_perm ?_;refine(KW (St.dd_nodup _) (St.dd_nodup _)).mpr λa=>?_
 rw[St.gp,St.gp,Nu]
def um(ns):(St.dd ns.reverse).length=(dd ns).length:=by
 rw[pw];refine Perm.length_eq ((KW (St.dd_nodup _) (St.dd_nodup _)).mpr λa=>?_);rw[St.gp,St.gp,Nu]
section
variable{X:Cx}{T:Tab}{k:Nat}{cal:Cal}
def RBM(K:Nx)(f:List PV->Option PV):List V->Hp->VK->Prop:=λus H Q =>
 ∃O vs v,(∀a∈O,H a≠none)/\Paired (bH K H O) vs us/\f vs=some v/\∀u H',aj H H'->Rep K (aw H' O) v u->Q u H'
def p1{K:Nx}(h:Paired (bH K H O) [x] us):∃u,us=[u]/\bH K H O x u:=by
 cases h with
 |cons r t=>cases t;exact⟨_,rfl,r⟩
def p2{K:Nx}(h:Paired (bH K H O) [x,y] us):∃u w,us=[u,w]/\bH K H O x u/\bH K H O y w:=by
 cases h with
 |cons r t=>cases t with
  |cons z t'=>cases t';exact⟨_,_,rfl,r,z⟩
def cY(h:aA f vs=some v)(z:lf f=some 1\/(dl f).isSome=true\/f=.sortedSet\/f=.lenSet\/f=.valuesOf):∃x,vs=[x]:=by
 cases vs with
 |nil=>cases f<;>simp[aA,cb,nj,jo]at h
 |cons x r=>cases r<;>first|exact⟨x,rfl⟩|(cases f<;>simp[aA,cb,jo,lf,dl]at h z)
def Hq:bZ X (.builtin "len") (RBM X.K (aA .len)):=by
 intro pins s σ H xs us Q I r h;obtain⟨O,vs,v,hO,rs,e,q⟩:=h;obtain⟨x,rfl⟩:=cY e (.inl rfl);obtain⟨u,rfl,J⟩:=p1 rs;cases x<;>simp[aA,cb]at e<;>try (cases e;done)
 .cases e;obtain⟨a,D,rfl,U,Y⟩:=J.tup;exact ij pins s σ H _ us Q I r ⟨a,D,rfl,.inr U,by rw[<- Y.length];exact q _ H (aj.refl H) (cf _ _)⟩
 .cases e;obtain⟨a,D,rfl,U,Y⟩:=J.lst;exact ij pins s σ H _ us Q I r ⟨a,D,rfl,.inl U,by rw[<- Y.length];exact q _ H (aj.refl H) (cf _ _)⟩
 .rename_i d;cases d with
  |k kvs =>
   cases e;obtain⟨a,rfl,ha⟩:=J.dI;obtain⟨u,rfl,ru⟩:=eO r;cases ru;obtain⟨hz,hs,D,Z,dd⟩:=jr I.hok (show Rd H a (.dK _)from ha.rd);have z:D.length=kvs.length:=by rw[<- Z.length];unfold gZ;rw[nA]
   have hz:kvs.length<=sizeLine:=by unfold gZ at hz;rw[nA]at hz;exact hz
   have hn:=kS;exact call_len_dict hs dd (by rw[z];omega) ⟨.int kvs.length,H,I.tok _,⟨s.toks+1,by rw[z]⟩,q _ H (aj.refl H) (cf _ _)⟩
  | _=>cases e
def vH:bZ X (.type "tuple") (RBM X.K (aA .tupleOf)):=by
 intro pins s σ H xs us Q I r h;refine aD λZq Z=>?_
 obtain⟨O,vs,v,hO,rs,e,q⟩:=h;obtain⟨x,rfl⟩:=cY e (.inl rfl);obtain⟨u,rfl,z⟩:=p1 rs;simp[aA,cb,iI,mu]at e;obtain⟨ys,e,rfl⟩:=e;refine Z ?_;cases x<;>simp[a_]at e
 .subst e;obtain⟨a,D,rfl,J,U⟩:=z.tup;refine jq pins s σ H _ us Q I r ⟨a,D,rfl,.inr ⟨J,q _ H (aj.refl H) ?_⟩⟩;exact z.tupR
 .subst e;obtain⟨a,D,rfl,J,U⟩:=z.lst;exact jq pins s σ H _ us Q I r ⟨a,D,rfl,.inl ⟨J,λl Y=>q _ _ (az Y _) (g6 hO Y U)⟩⟩
def RBF(K:Nx)(f:List PV->Option PV):List V->Hp->VK->Prop:=λus H Q =>
 ∃O vs xs,(∀a∈O,H a≠none)/\Paired (bH K H O) vs us/\f vs=some (.lst xs)/\∀l z,H l=none->Reps K (aw H O) xs z->Q (.ref l) (upd H l (.lst z))
def EU:bZ X (.type "list") (RBF X.K (aA .listOf)):=by
 intro pins s σ H xs us Q I r h;refine aD λZq D=>?_
 obtain⟨O,vs,v,hO,J,e,q⟩:=h;obtain⟨x,rfl⟩:=cY e (.inl rfl);obtain⟨u,rfl,U⟩:=p1 J;simp[aA,cb,iI,mu,PV.lst.injEq,exists_eq_right]at e;obtain⟨a,z,rfl,Y,Z⟩:=U.seq e;refine D ?_;exact p7 pins s σ H _ us Q I r ⟨a,z,rfl,Y,λl hl=>q l z hl Z⟩
theorem pz{K:Nx} :∀{D}{us},Reps K F (D.map λt=>.tup (t.map .int)) us->t4 K F us D
 | [],_,h=>by rw[map_nil,Reps]at h;subst h;exact .nil
 |t::D,_,h=>by
  obtain⟨u,r,rfl,q,z⟩:=h;obtain⟨a,vs,e,J,U⟩:=q;rw[U.ints]at J;exact .cons ⟨a,e,eE J⟩ (pz z)
theorem pA{K:Nx}(s:aj F F'):∀{us}{z},t4 K F us z->t4 K F' us z
 | _,_,.nil=>.nil
 | _,_,.cons ⟨a,D,J⟩ t=>.cons ⟨a,D,s.seqT J⟩ (pA s t)
theorem pB{K:Nx}(h:Reps K F xs us):∀(l:List Nat),(∀i∈l,i<us.length)->Reps K F (l.map λi=>xs.getD i .non) (l.map λi=>us.getD i .non)
 | [],_=>.nil
 |i::l,z=>by
  have hi:=z i (.head _);have hx:i<xs.length:=by rw[h.length];exact hi
  obtain⟨u,J,U⟩:=h.get (J1 hx);refine .cons ?_ (pB h l λj D=>z j (.tail _ D))
  simp_all
def zo (g:Gf X T k cal):bZ X (.builtin "sorted") (RBF X.K (aA .sorted)):=by
 intro pins s σ H xs us Q I r h;refine aD λZq kq=>?_
 obtain⟨O,vs,v,hO,rs,e,q⟩:=h;obtain⟨x,rfl⟩:=cY e (.inl rfl);obtain⟨u,rfl,rx⟩:=p1 rs;simp only[aA,cb,nj,iI,jo,ft]at e;obtain⟨ys,e,D⟩:=e;obtain⟨a,ws,rfl,s1,J⟩:=rx.seq e;unfold iS at D;refine kq ?_;split at D
 .rename_i z;split at D
  .rename_i ns hn;cases D;have:=dk hn;subst this;have Y:=J.ints;subst Y;rw[nA]at z;refine j_ g.calm pins s σ H _ us Q I r ⟨a,ns,rfl,s1.imp id .inl,z,λl Z=>?_⟩;rw[<- du];exact q l _ Z (.of_ints _)
  .simp only[mu,PV.lst.injEq]at D;obtain⟨U,Y,rfl⟩:=D;have:=rV Y;subst this;rw[nA]at z;refine qf (by have:=g.units;omega) pins s σ H _ us Q I r ⟨a,ws,U,rfl,s1,pA (bU H O) (pz J),z,λl pm Z hp e=>q l _ Z ?_⟩;have q2:=pB J pm hp;have e4:(pm.map λi=>(U.map λt=>PV.tup (t.map .int)).getD i .non)=(sortT U).map λt=>.tup (t.map .int):=by
    rw[kz,<- e,J4];refine Lj λi hi=>?_
    have ao:i<U.length:=by have:=hp i hi;rw[<- J.length,nA]at this;exact this
    simp[ao]
   rw[e4]at q2;exact q2
 .cases D
def kA(h:iI x=some ys):x=.lst ys:=by
 cases x<;>cases h
 rfl
def EV (D:dl b=some c):bZ X (.builtin "isinstance") (λus H Q=>∃O v u,us=[u,.ty c]/\isD v=false/\bH X.K H O v u/\Q (.bl (isT b v)) H):=by
 intro pins s σ H xs us Q I r h;obtain⟨O,v,x,rfl,nd,J,q⟩:=h;obtain⟨u,t,rfl,U,rc⟩:=GX r;have Y:=rc;subst Y;have fin:∀z tk,z=isT b v->EP X pins σ Q (.bool z) { s with toks:=tk }:=λz tk e=>⟨.bl z,H,I.tok tk,rfl,by rw[e];exact q⟩
 cases v with
 |dI _=>cases nd
 |non =>
  have e:=J.non;subst e;cases (show u=Value.none from U);cases b<;>simp only[dl,pd,reduceCtorEq]at D<;>subst D <;>
   exact PySem.W.kia_one PySem.W.kitx_none I.kIn True.intro (b:=false) (by first|rfl|kernel_rfl|decide) (λz=>nomatch z) λtk=>fin _ tk rfl
 |bl y =>
  have e:=J.bl;subst e;cases (show u=Value.bool y from U);cases b<;>simp only[dl,pd,reduceCtorEq]at D<;>subst D<;>first
   |exact PySem.W.kia_one PySem.W.kitx_bool I.kIn True.intro (b:=true) (by first|rfl|kernel_rfl|decide) (λz=>nomatch z) λtk=>fin _ tk rfl
   |exact PySem.W.kia_one PySem.W.kitx_bool I.kIn True.intro (b:=false) (by first|rfl|kernel_rfl|decide) (λz=>nomatch z) λtk=>fin _ tk rfl
 |int y =>
  have e:=J.int;subst e;obtain⟨t,z⟩:=(show ∃t,u=Value.int y t from U);cases z;cases b<;>simp only[dl,pd,reduceCtorEq]at D<;>subst D<;>first
   |exact PySem.W.kia_one PySem.W.kitx_int I.kIn True.intro (b:=true) (by first|rfl|kernel_rfl|decide) (λz=>nomatch z) λtk=>fin _ tk rfl
   |exact PySem.W.kia_one PySem.W.kitx_int I.kIn True.intro (b:=false) (by first|rfl|kernel_rfl|decide) (λz=>nomatch z) λtk=>fin _ tk rfl
 |str y =>
  have e:=J.str;subst e;obtain⟨t,z⟩:=(show ∃t,u=Value.str y t from U);cases z;cases b<;>simp only[dl,pd,reduceCtorEq]at D<;>subst D<;>first
   |exact PySem.W.kia_one PySem.W.kitx_str I.kIn True.intro (b:=true) (by first|rfl|kernel_rfl|decide) (λz=>nomatch z) λtk=>fin _ tk rfl
   |exact PySem.W.kia_one PySem.W.kitx_str I.kIn True.intro (b:=false) (by first|rfl|kernel_rfl|decide) (λz=>nomatch z) λtk=>fin _ tk rfl
 |lst ys =>
  obtain⟨a,us,rfl,Z,t1⟩:=J.lst;cases (show u=Value.ref a from U);obtain⟨its,_,p,_⟩:=I.list Z;obtain⟨o,h1,h2,_⟩:=p.isList;cases b<;>simp only[dl,pd,reduceCtorEq]at D<;>subst D<;>first
   |exact PySem.W.kia_one PySem.W.kitx_list I.kIn ⟨o,h1,h2⟩ (b:=true) (by first|rfl|kernel_rfl|decide) (λz=>nomatch z) λtk=>fin _ tk rfl
   |exact PySem.W.kia_one PySem.W.kitx_list I.kIn ⟨o,h1,h2⟩ (b:=false) (by first|rfl|kernel_rfl|decide) (λz=>nomatch z) λtk=>fin _ tk rfl
 |tup ys =>
  obtain⟨a,us,rfl,Z,t1⟩:=J.tup;cases (show u=Value.ref a from U);obtain⟨its,_,p,_⟩:=I.tuple Z;obtain⟨o,h1,h2,_⟩:=p;cases b<;>simp only[dl,pd,reduceCtorEq]at D<;>subst D<;>first
   |exact PySem.W.kia_one PySem.W.kitx_tuple I.kIn ⟨o,h1,h2⟩ (b:=true) (by first|rfl|kernel_rfl|decide) (λz=>nomatch z) λtk=>fin _ tk rfl
   |exact PySem.W.kia_one PySem.W.kitx_tuple I.kIn ⟨o,h1,h2⟩ (b:=false) (by first|rfl|kernel_rfl|decide) (λz=>nomatch z) λtk=>fin _ tk rfl
theorem jN{K:Nx} :∀{bs:List Bool}{us}{its},Reps K F (bs.map .bl) us->aH us its->its=bs.map Value.bool
 | [],_,_,h,w=>by rw[map_nil,Reps]at h;subst h;cases w;rfl
 |b::bs,_,_,h,w=>by
  obtain⟨u,r,rfl,q,t⟩:=h;subst q;cases w with
  |cons z D =>
   cases z;rw[jN t D];rfl
def wW(bs:List Bool):(range bs.length).all (λi=>bs.getD i false)=bs.all id:=by
 conv=>rhs;rw[<- Srt.jd bs false]
 rw[Nk]
 rfl
def wX(bs:List Bool):(range bs.length).any (λi=>bs.getD i false)=bs.any id:=by
 conv=>rhs;rw[<- Srt.jd bs false]
 rw[List.any_map]
 rfl
def lN(bs:List Bool):TruthOf P w A (λi v=>(bs.map Value.bool).toArray[i]?=some v) (λi=>bs.getD i false):=by
 intro i v s Q E h q;simp only[getElem?_toArray,Ka,mu]at h;obtain⟨b,e,rfl⟩:=h;have:bs.getD i false=b:=by rw[KC,e];rfl
 have z:Q (bs.getD i false) s:=q;rw[this]at z;exact K6 z
def Hr (hc:X.calm=true):bZ X (.builtin "any") (RBM X.K (aA .any)):=by
 intro pins s σ H xs us Q I r h;refine aD λZq J=>?_
 obtain⟨O,vs,v,hO,U,e,q⟩:=h;obtain⟨x,rfl⟩:=cY e (.inl rfl);obtain⟨u,rfl,Y⟩:=p1 U;simp[aA,cb,ft,mu]at e;obtain⟨ys,Z,bs,e,rfl⟩:=e;obtain rfl:=kA Z;have:=lb e;subst this;obtain⟨a,ws,rfl,s1,t1⟩:=Y.lst;obtain⟨u,rfl,ru⟩:=eO r;cases ru;obtain⟨its,r',z,hz⟩:=I.list s1;have:=jN t1 r';subst this;have D:a<s.heap.objs.size:=by obtain⟨o,ho,_⟩:=z.isList;exact pb ho
 refine J ?_;refine call_any_walk (LS z.isList ?_);refine⟨s.heap.objs.size,_,_,_,_,_,λi=>bs.getD i false,rfl,Walks.list (by first|exact I.ok.hd hc|simpa using I.ok.hd hc) s.heap.objs.size a (uw D) (bs.map Value.bool).toArray,⟨⟨_,pe _ rfl,rfl,rfl⟩,z.isList.push _⟩,lN bs,λh' tk hk=>?_⟩;have e2:(range (bs.map Value.bool).toArray.size).any (λi=>bs.getD i false)=bs.any id:=by
  rw[oe,nA];exact wX bs
 rw[e2];refine⟨.bl _,H,?_,rfl,q _ H (aj.refl H) (eG _ _)⟩;refine I.kept λb o e=>hk b o ?_ (gx _ e)
 intro hm;have hb:=pb e
 simp_all
def Hs (hc:X.calm=true):bZ X (.builtin "all") (RBM X.K (aA .all)):=by
 intro pins s σ H xs us Q I r h;refine aD λZq J=>?_
 obtain⟨O,vs,v,hO,U,e,q⟩:=h;obtain⟨x,rfl⟩:=cY e (.inl rfl);obtain⟨u,rfl,Y⟩:=p1 U;simp only[aA,cb,ft,mu]at e;obtain⟨ys,Z,bs,e,rfl⟩:=e;obtain rfl:=kA Z;have:=lb e;subst this;obtain⟨a,ws,rfl,s1,t1⟩:=Y.lst;obtain⟨u,rfl,ru⟩:=eO r;cases ru;obtain⟨its,r',z,hz⟩:=I.list s1;have:=jN t1 r';subst this;have D:a<s.heap.objs.size:=by obtain⟨o,ho,_⟩:=z.isList;exact pb ho
 refine J ?_;refine call_all_walk (LS z.isList ?_);refine⟨s.heap.objs.size,_,_,_,_,_,λi=>bs.getD i false,rfl,Walks.list (by first|exact I.ok.hd hc|simpa using I.ok.hd hc) s.heap.objs.size a (uw D) (bs.map Value.bool).toArray,⟨⟨_,pe _ rfl,rfl,rfl⟩,z.isList.push _⟩,lN bs,λh' tk hk=>?_⟩;have e2:(range (bs.map Value.bool).toArray.size).all (λi=>bs.getD i false)=bs.all id:=by
  rw[oe,nA];exact wW bs
 rw[e2];refine⟨.bl _,H,?_,rfl,q _ H (aj.refl H) (eG _ _)⟩;refine I.kept (t':=tk) λb o e=>hk b o ?_ (gx _ e)
 intro hm;have hb:=pb e
 simp_all
theorem lO(ns:List Int):∀k,k<=ns.length->preSum (λi=>ns.getD i 0) k=(ns.take k).sum
 |0,_=>by simp[preSum]
 |k+1,h=>by
  have e:ns.take (k+1)=ns.take k++[ns.getD k 0]:=by
   rw[take_succ,KC,J1 (by omega)]
   rfl
  rw[preSum,lO ns k (by omega),e,sum_append];simp
def Ht (hc:X.calm=true):bZ X (.builtin "sum") (RBM X.K (aA .sum)):=by
 intro pins s σ H xs us Q I r h;obtain⟨O,vs,v,hO,rs,e,q⟩:=h;obtain⟨x,rfl⟩:=cY e (.inl rfl)
 .refine aD λZq kq=>?_
  simp only[aA,cb,ft,mu]at e;obtain⟨ys,e9,ns,e0,rfl⟩:=e;obtain rfl:=kA e9;have:=dk e0;subst this;obtain⟨u,rfl,rx⟩:=p1 rs;obtain⟨a,ws,rfl,s1,t1⟩:=rx.lst;have:=t1.ints;subst this;obtain⟨u,rfl,ru⟩:=eO r;cases ru;obtain⟨its,r',U,hz⟩:=I.list s1;have ia:=cE r';have hl:=r'.length;rw[nA]at hl;have D:a<s.heap.objs.size:=by obtain⟨o,ho,_⟩:=U.isList;exact pb ho
  have hh:X.A.in1.handled=none:=by simpa using I.ok.hd hc
  refine kq ?_;refine call_sum_walkAnyS (LS U.isList ⟨s.heap.objs.size,_,_,_,_,_,_,λi=>ns.getD i 0,rfl,(Walks.list hh s.heap.objs.size a (uw D) its.toArray).toS,⟨⟨_,pe _ rfl,rfl,rfl⟩,U.isList.push _⟩,λb hb=>?_,λi v hv=>St.j6 (items:=its.toArray) (by simpa using ia) i v hv,λs' t' J=>?_⟩)
  .simp only[tf,LR,MH]at hb;rw[Kg];rcases hb with rfl|rfl
   .simp_all
   .exact Km D
  .obtain⟨h',g',d',tk,Y⟩:=s';have e1:g'=s.gens:=J.gens;have e2:d'=s.drawn:=J.drawn;have e3:Y=s.os:=J.os;subst e1 e2 e3;rw[oe,<- hl,lO ns ns.length (lC _),take_length];refine⟨.int ns.sum,H,I.kept (t':=tk) λb o Z=>J.heap b o (λz=>?_) (gx _ Z),⟨_,rfl⟩,q _ H (aj.refl H) (cf _ _)⟩;rw[J9.mp z]at Z;exact absurd (pb Z) (Ks _)
def pC:∀{ns}{m},yT ns=some m->m∈ns/\∀x∈ns,x<=m
 |n::ns,m,h=>by
  have gen:∀l (a:Int),(l.foldl (λa b=>if a<b then b else a) a∈a::l)/\a<=l.foldl (λa b=>if a<b then b else a) a/\∀x∈l,x<=l.foldl (λa b=>if a<b then b else a) a:=by
   intro l
   induction l with
   |nil=>intro a;exact⟨.head _,Md _,λx hx=>by cases hx⟩
   |cons b l ih =>
    intro a;obtain⟨h1,h2,z⟩:=ih (if a<b then b else a);rw[foldl_cons];refine⟨?_,?_,λx hx=>?_⟩
    .rcases tf.mp h1 with e|e
     .rw[e];split
      .exact .tail _ (.head _)
      .exact .head _
     .exact .tail _ (.tail _ e)
    .exact Mm (by split<;>omega) h2
    .rcases tf.mp hx with rfl|hx
     .exact Mm (by split<;>omega) h2
     .exact z x hx
  obtain⟨h1,h2,z⟩:=gen ns n;cases h;exact⟨h1,λx hx=>by
   rcases tf.mp hx with rfl|hx
   .exact h2
   .exact z x hx⟩
def EW (hc:X.calm=true):bZ X (.builtin "max") (RBM X.K (aA .max1)):=by
 intro pins s σ H xs us Q I r h;refine aD λZq kq=>?_
 obtain⟨O,vs,v,hO,rs,e,q⟩:=h;obtain⟨x,rfl⟩:=cY e (.inl rfl);simp only[aA,cb,ft,mu]at e;obtain⟨ys,e9,ns,e0,m,em,rfl⟩:=e;obtain rfl:=kA e9;have:=dk e0;subst this;obtain⟨u,rfl,rx⟩:=p1 rs;obtain⟨a,ws,rfl,s1,t1⟩:=rx.lst;have:=t1.ints;subst this;obtain⟨u,rfl,ru⟩:=eO r;cases ru;obtain⟨its,Y,pl,hz⟩:=I.list s1;have Z:=cE Y;have hl:=Y.length;rw[nA]at hl;obtain⟨D,b0⟩:=pC em;have ao:=Mq.mpr (ne_nil_of_mem D);obtain⟨zs,J⟩:=Z.allInts.items;have b3:zs.size=ns.length:=by
  have:=Kj Array.size J;simp[intItems]at this;omega
 have num:∀i,i<ns.length->numAt zs i=ns.getD i 0:=λi hi=>by
  have h1:(intItems zs)[i]?=some (.int (zs[i]'(by omega)).1 (zs[i]'(by omega)).2):=by simp[intItems,show i<zs.size by omega]
  obtain⟨t,e1⟩:=intItems_at h1;obtain⟨t',e2⟩:=St.j6 (items:=its.toArray) (by simpa using Z) i _ (by rw[J];exact h1)
  simp_all
 have z:s.heap.IsList a (intItems zs):=by rw[<- J];exact pl.isList
 refine kq ?_;refine max_intList (I.ok.hd hc) z (by omega) λv h' tk hv hk=>?_
 obtain⟨t,rfl⟩:=intItems_at hv;obtain⟨b1,b2⟩:=argBest_gt (numAt zs) (zs.size-1);generalize argBest (λi j=>decide (numAt zs i > numAt zs j)) (zs.size-1)=k at b1 b2;have U:k<ns.length:=by omega
 have e1:numAt zs k=m:=by
  refine Int.le_antisymm ?_ ?_
  .rw[num k U]
   simp_all
  .obtain⟨j,hj,rfl⟩:=MZ D;have:=b2 j (by omega);rw[num j hj,KC,J1 hj]at this;exact this
 rw[e1];exact⟨.int m,H,I.kept (t':=tk) hk,⟨_,rfl⟩,q _ H (aj.refl H) (cf _ _)⟩
def pD:∀{ns:List Int}{m:Int},BV ns=some m->m∈ns/\∀x∈ns,m<=x
 |n::ns,m,h=>by
  have gen:∀(l:List Int) (a:Int),(l.foldl (λa b=>if b<a then b else a) a∈a::l)/\l.foldl (λa b=>if b<a then b else a) a<=a/\∀x∈l,l.foldl (λa b=>if b<a then b else a) a<=x:=by
   intro l
   induction l with
   |nil=>intro a;exact⟨.head _,Md _,λx hx=>by cases hx⟩
   |cons b l ih =>
    intro a;obtain⟨h1,h2,z⟩:=ih (if b<a then b else a);rw[foldl_cons];refine⟨?_,?_,λx hx=>?_⟩
    .rcases tf.mp h1 with e|e
     .rw[e];split
      .exact .tail _ (.head _)
      .exact .head _
     .exact .tail _ (.tail _ e)
    .exact Mm h2 (by split<;>omega)
    .rcases tf.mp hx with rfl|hx
     .exact Mm h2 (by split<;>omega)
     .exact z x hx
  obtain⟨h1,h2,z⟩:=gen ns n;cases h;exact⟨h1,λx hx=>by
   rcases tf.mp hx with rfl|hx
   .exact h2
   .exact z x hx⟩
def EX (hc:X.calm=true):bZ X (.builtin "min") (RBM X.K (aA .min1)):=by
 intro pins s σ H xs us Q I r h;obtain⟨O,vs,v,hO,rs,e,q⟩:=h;obtain⟨x,rfl⟩:=cY e (.inl rfl);simp only[aA,cb,ft,mu]at e;obtain⟨ys,e9,ns,e0,m,em,rfl⟩:=e;obtain rfl:=kA e9;have:=dk e0;subst this;obtain⟨u,rfl,rx⟩:=p1 rs;obtain⟨a,ws,rfl,s1,t1⟩:=rx.lst;have:=t1.ints;subst this;obtain⟨u,rfl,ru⟩:=eO r;cases ru;obtain⟨its,r',pl,hz⟩:=I.list s1;have ia:IntsAre its ns:=cE r';have hl:=r'.length;rw[nA]at hl;obtain⟨J,U⟩:=pD em;have a0:0<ns.length:=Mq.mpr (ne_nil_of_mem J);obtain⟨zs,Y⟩:=ia.allInts.items;have b3:zs.size=ns.length:=by
  have:=Kj Array.size Y;simp[intItems]at this;omega
 have num:∀i,i<ns.length->numAt zs i=ns.getD i 0:=λi hi=>by
  have h1:(intItems zs)[i]?=some (.int (zs[i]'(by omega)).1 (zs[i]'(by omega)).2):=by simp[intItems,show i<zs.size by omega]
  obtain⟨t,Z⟩:=intItems_at h1;obtain⟨t',e2⟩:=St.j6 (items:=its.toArray) (by simpa using ia) i _ (by rw[Y];exact h1);rw[Z]at e2;exact(Value.int.inj e2).1
 have z:s.heap.IsList a (intItems zs):=by rw[<- Y];exact pl.isList
 refine min_intList (I.ok.hd hc) z (by omega) λv h' tk hv hk=>?_
 obtain⟨t,rfl⟩:=intItems_at hv;obtain⟨b1,b2⟩:=argBest_lt (numAt zs) (zs.size-1);generalize argBest (λi j=>decide (numAt zs i<numAt zs j)) (zs.size-1)=k at b1 b2;have D:k<ns.length:=by omega
 have Z:numAt zs k=m:=by
  refine Int.le_antisymm ?_ ?_
  rotate_left
  .rw[num k D];exact U _ (by rw[KC,J1 D];exact Nt D)
  .obtain⟨j,hj,rfl⟩:=MZ J;have:=b2 j (by omega);rw[num j hj,KC,J1 hj]at this;exact this
 rw[Z];exact⟨.int m,H,I.kept (t':=tk) hk,⟨_,rfl⟩,q _ H (aj.refl H) (cf _ _)⟩
def vI (hc:X.calm=true):bZ X (.type "set") (λus H Q=>∃O v u ns,us=[u]/\bH X.K H O v u/\((a_ v).bind bc)=some ns/\ns.length<=4000/\∀l,H l=none->Q (.ref l) (upd H l (jw X.prog X.w l (St.dd ns.reverse)))):=by
 intro pins s σ H xs us Q I r h;obtain⟨O,v,u,ns,rfl,D,e,z,q⟩:=h;simp only[ft]at e;obtain⟨ys,J,U⟩:=e;obtain⟨a,ws,rfl,Y,Z⟩:=D.seq J;have:=dk U;subst this;have e3:=Z.ints;subst e3;exact yC hc pins s σ H _ us Q I r ⟨a,ns,rfl,Y,z,λl hl=>q l hl⟩
def si (hc:X.calm=true):bZ X (.builtin "sorted") (λus H Q=>∃l ks,us=[.ref l]/\H l=some (jw X.prog X.w l ks)/\ks.length<64/\∀p,H p=none->Q (.ref p) (upd H p (.lst ((Srt.sortI ks).map V.int)))):=by
 intro pins s σ H xs us Q I r h;obtain⟨l,ks,rfl,e,z,q⟩:=h;exact j_ hc pins s σ H _ us Q I r ⟨l,ks,rfl,.inr (.inr e),z,q⟩
end
end MM
namespace L2
open PySem PySem.Spec PyProof.Rows List Option
def Inv.turned2(I:Inv X pins σ H s)(he:s.heap.get? e=some D)(hf:D.isFreed=false)(Y:∃o,h'.get? e=some o)
  (k:∀b o,b≠e->b≠it->s.heap.get? b=some o->h'.get? b=some o) (fe:kR X pins H e) (fi:kR X pins H it):Inv X pins σ H { s with heap:=h',toks:=t' }:=by
 obtain⟨o',Z⟩:=Y;obtain⟨a0,a1,a2,a3,a4,a5⟩:=fe;obtain⟨b0,b1,b2,b3,b4,b5⟩:=fi;have ao:(h'.update e λ_=>D).get? e=some D:=Kv _ Z hf;have J:∀b,b≠e->(h'.update e λ_=>D).get? b=h'.get? b:=λb U=>(Kl h' e _).2 b U
 have I1:Inv X pins σ H { s with heap:=h'.update e λ_=>D,toks:=t' }:=I.turned (it:=it) (λb o U q=>by
  by_cases z:b=e
  .subst z;rw[ao,<- he];exact q
  .rw[J b z];exact k b o z U q) b0 b1 b3 b4 b5
 exact Inv.turned (s:={ s with heap:=h'.update e λ_=>D,toks:=t' }) (it:=e) I1 (λb o U q=>by
  have q:=q;rw[J b U]at q;exact q) a0 a1 a3 a4 a5
noncomputable def Ite(q:Hp->List V->Prop):It:=
 ⟨λi H=>∃xs,q H xs/\i<xs.length,λi H x H'=>∃p,x=.ref p/\H p=none/\∃u,H'=upd H p (.tup [.int i,u])/\∀xs,q H xs->xs[i]?=some u,λi H=>∃xs,q H xs/\i=xs.length⟩
structure Src(P:Program)(w:World)(K:Nx)(a it:Addr)(q:Hp->List V->Prop)(r:Nat->Heap->Prop):Prop where
 ne:a≠it
 keep:∀i h h',r i h->(∀o,h.get? it=some o->h'.get? it=some o)->r i h'
 live:∀i h,r i h->∃o,h.get? it=some o/\∀v,o.data≠.cell v
 one:∀(X:Cx),X.K=K->∀(pins:List (Addr×Obj)) (s:Shared) (σ:St) (H:Hp) (xs ys:List V),Inv X pins σ H s->q H xs->q H ys->xs=ys
 row:∀(X:Cx),X.prog=P->X.w=w->X.K=K->∀(pins:List (Addr×Obj)) (s:Shared) (σ:St) (H:Hp) (xs:List V),Inv X pins σ H s->q H xs->∃(its:List Value),aH xs its/\∀(A:Around),A.handled=none ->
  ∃St:Nat->Heap->Prop,Draws P w A it [it,a] its.length (λi v=>its[i]?=some v) St/\(∀i,r i s.heap->St i s.heap)/\∀i h,St i h->r i h
def zp{K:Nx}(S:Src P w K a it q r)(ao:e≠it)(a9:e≠a) :
  tu P w K (.Tuple ts j tp) (Ite q) [e,it] e (λi h=>(∃old,IsEnum h e it (i:Nat) old)/\r i h) where
 mem:=.head _
 obj:=λi h st b J=>by
  obtain⟨⟨old,U⟩,Y⟩:=st;rcases tf.mp J with rfl|J
  .exact⟨_,U,λv z=>by cases z⟩
  .have z:b=it:=by simpa using J
   subst z;exact S.live i h Y
 keep:=λi h h' ⟨⟨old,U⟩,Y⟩ k=>⟨⟨old,k e (.head _) _ U⟩,S.keep i h h' Y (k it (.tail _ (.head _)))⟩
 item:=by
  intro X hP hw hK hc i pins s σ H E I hf st hg;obtain⟨⟨old,U⟩,Y⟩:=st;obtain⟨xs,hq,hi⟩:=hg;obtain⟨its,rv,dr⟩:=S.row X hP hw hK pins s σ H xs I hq;have hh:=I.ok.hd hc;obtain⟨St,D,Z,aO⟩:=dr X.A.in1 (by simpa using hh);have hl:=rv.length;have fe:=hf e (.head _);have fi:=hf it (.tail _ (.head _));refine wpAny_pyNext_enum_itemD D U (Z i Y) (by omega) ao (by simp only[tf,LR,MH,not_or];exact⟨ao,a9⟩) λx h' tk px eo b2 tup sz kp=>?_
  refine⟨_,rfl,wpAny_letOwnedTupleGo_enum eo λh2 a0 a1=>?_⟩;have hx:=hi;obtain⟨u,hu,ru⟩:=rv.get (J1 hx);have ex:x=u:=by
   have:=px.symm.trans hu;simpa using this
  subst ex;have fresh:=I.hok.fresh (lC _);have ne:∀b o,s.heap.get? b=some o->b≠s.heap.objs.size:=λb o q z=>Ks _ (by have:=pb q;rw[z]at this;exact this)
  have en:=ne _ _ U;obtain⟨oi,b3,_⟩:=S.live i _ Y;have a2:=ne _ _ b3;have I1:Inv X pins σ (upd H s.heap.objs.size (.tup [.int i,xs[i]])) { s with heap:=s.heap.push { cls:=.type "tuple",data:=.seq #[.int i tk,x] } }:=
   I.laid (t':=s.toks) (λb o q=>gx _ q) (lC _) ⟨by show 2<=sizeLine;decide,_,.cons ⟨_,rfl⟩ (.cons ru .nil),IsTup.new _ _⟩
  have up:∀b,b≠s.heap.objs.size->kR X pins H b->kR X pins (upd H s.heap.objs.size (.tup [.int i,xs[i]])) b:=λb J ⟨z,r⟩=>⟨by rw[aZ J];exact z,r⟩
  have I2:=I1.turned2 (h':=h2) (t':=tk+1) (e:=e) (it:=it) (gx _ U) rfl ⟨_,a0⟩ (λb o a3 b4 q=>?_) (up e en fe) (up it a2 fi)
  .refine⟨.ref s.heap.objs.size,_,I2,rfl,⟨_,rfl,fresh,_,rfl,λys hy=>?_⟩,⟨⟨_,by simpa using a0⟩,?_⟩,λb J=>?_⟩
   .rw[S.one X hK pins s σ H ys xs I hy hq];exact J1 hx
   .refine aO _ _ (D.frame _ _ _ b2 λb J o q=>?_);rw[a1.2 b λz=>?_]
    .exact q
    .simp_all
   .rcases tf.mp J with rfl|J
    .exact(up b en fe).1
    .have z:b=it:=by simpa using J
     subst z;exact(up b a2 fi).1
  .rw[a1.2 b a3];rcases Heap.get?_push_cases q with⟨rfl,rfl⟩|q
   .exact tup
   .exact kp b o a3 b4 q
 done:=by
  intro X hP hw hK hc i pins s σ H E I hf st hg;obtain⟨⟨old,U⟩,Y⟩:=st;obtain⟨xs,hq,hi⟩:=hg;obtain⟨its,rv,dr⟩:=S.row X hP hw hK pins s σ H xs I hq;have hh:=I.ok.hd hc;obtain⟨St,D,Z,aO⟩:=dr X.A.in1 (by simpa using hh);have hl:=rv.length;obtain⟨f0,f1,f2,f3,f4,f5⟩:=hf it (.tail _ (.head _));have e:i=its.length:=by omega
  subst e;exact wpAny_pyNext_enum_endD D U (Z _ Y) λh' eb=>⟨rfl,I.turned (t':=s.toks) (λb o J q=>eb b o J q) f0 f1 f3 f4 f5⟩
 self:=λ_ i s Q E ⟨⟨old,U⟩,_⟩ h=>wpAny_pyIter_enum U h
def zq{K:Nx}(ne:a≠it):Src P w K a it (λH xs=>SqL K H a xs) (λi h=>h.IsListIter it a i) where
 ne:=ne
 keep:=λi h h' ⟨o,ho,r⟩ k=>⟨o,k o ho,r⟩
 live:=λi h ⟨o,ho,_,hd⟩=>⟨o,ho,λv z=>by rw[hd]at z;cases z⟩
 one:=λX D pins s σ H xs ys I h h'=>by subst D;exact I.list_inj h h'
 row:=λX J hw D pins s σ H xs I h=>by
  subst J hw D;obtain⟨its,U,p,_⟩:=I.list h;refine⟨its,U,λA Y=>⟨λi h=>h.IsListIter it a i/\h.IsList a its.toArray,?_,λi st=>⟨st,p.isList⟩,λi h' st=>st.1⟩⟩;simpa using Draws.list (prog:=X.prog) (w:=X.w) Y it a ne its.toArray
def Cg{K:Nx}(ne:a≠it):Src P w K a it (λH xs=>SqT K H a xs) (λi h=>h.IsTupleIter it a i) where
 ne:=ne
 keep:=λi h h' ⟨o,ho,r⟩ k=>⟨o,k o ho,r⟩
 live:=λi h ⟨o,ho,_,hd⟩=>⟨o,ho,λv z=>by rw[hd]at z;cases z⟩
 one:=λX D pins s σ H xs ys I h h'=>by subst D;exact I.tuple_inj h h'
 row:=λX J hw D pins s σ H xs I h=>by
  subst J hw D;obtain⟨its,U,p,_⟩:=I.tuple h;refine⟨its,U,λA Y=>⟨λi h=>h.IsTupleIter it a i/\h.IsTuple a its.toArray,?_,λi st=>⟨st,(show s.heap.IsTuple a its.toArray from p)⟩,λi h' st=>st.1⟩⟩;simpa using En.draws (P:=X.prog) (w:=X.w) Y it a ne its.toArray
noncomputable def Jz(K:Nx)(tl:TE):TI:=λσ H R=>tl σ H λx H1=>∃a,x=.ref a/\(((∃xs,SqL K H1 a xs)/\R (Ite λH xs=>SqL K H a xs) H1)\/((∃xs,SqT K H1 a xs)/\R (Ite λH xs=>SqT K H a xs) H1))
def sj{σ:St}{H:Hp}{s:Shared}{E:Value->Shared->Prop}{h':Heap}{J:List Expr}{j:Nat}{U:Pos}{a:Addr}{q:Hp->List V->Prop}{r:Nat->Heap->Prop}{R:It->Hp->Prop}(I:Inv X pins σ H s)(Y:a<s.heap.objs.size)
  (S:Src X.prog X.w X.K a s.heap.objs.size q r) (D:IsEnum h' (s.heap.objs.size+1) s.heap.objs.size 0 .none) (Z:r 0 h') (k:∀b o,s.heap.get? b=some o->h'.get? b=some o) (hR:R (Ite q) H) :
  wpAny (model X.prog X.w) X.A (pyIter (.ref (s.heap.objs.size+1))) (PIE X pins σ (.Tuple J j U) R) E { s with heap:=h' }:=by
 have I1:=I.kept (t':=s.toks) k;refine wpAny_pyIter_enum (s:={ s with heap:=h' }) D ⟨s.heap.objs.size+1,[s.heap.objs.size+1,s.heap.objs.size],_,_,H,rfl,I1,zp S (Nat.succ_ne_self _) (KY (Km Y)),⟨⟨_,D⟩,Z⟩,λb z=>?_,hR⟩;have z:s.heap.objs.size<=b:=by
  simp only[tf,LR,MH]at z;rcases z with rfl|rfl
  .exact Lm _
  .exact lC _
 exact I.fpOk z (I.hok.fresh z)
def zr (hg:Gl X "enumerate") (hm:X.mg "enumerate"=none) (hl:PE X l tl) (hs:starEach [l] X.env=[(false,eval l X.env)]:=by rfl) :
  PI X (.Tuple ts j tp) (.Call (.Name "enumerate" p) [l] [] pos) (Jz X.K tl):=by
 intro pins s σ H R I h;refine Call_ (iL I hg hm PyProof.Rows.boot_enumerate (KH (thn (aM hl bL hs pos pins s σ H (λvs H1=>match vs with
  | [x]=>∃a,x=.ref a/\(((∃xs,SqL X.K H1 a xs)/\R (Ite λH xs=>SqL X.K H a xs) H1)\/((∃xs,SqT X.K H1 a xs)/\R (Ite λH xs=>SqT X.K H a xs) H1))
  | _=>False) I h) λus s1 ⟨vs,H1,D,r1,J⟩=>?_) hs rfl))
 cases r1 with
 |nil=>exact J.elim
 |cons r rr =>
  cases rr with
  |cons _ _=>exact J.elim
  |nil =>
   obtain⟨a,e,q⟩:=J;subst e;cases r;rcases q with⟨⟨xs,U⟩,q⟩|⟨⟨xs,U⟩,q⟩
   .obtain⟨its,_,Z,_⟩:=D.list U;have z:=let ⟨o,ho,_⟩:=Z.isList;pb ho
    exact call_enumerate_list Z.isList λh' Y it _ k=>sj D z (zq (uw z)) Y it k q
   .obtain⟨its,_,pt,_⟩:=D.tuple U;have z:=let ⟨o,ho,_⟩:=pt;pb ho
    exact En.call_tup pt λh' Y it _ k=>sj D z (Cg (uw z)) Y it k q
end L2
namespace MM
open PySem PySem.Spec PyProof.Rows L2 List Option
structure nE(K:Nx)(J:It)(xs:List PV)(V G:Hp):Prop where
 stop:∀H',aj G H'->J.stop xs.length H'
 go:∀(i:Nat) x H',aj G H'->xs[i]?=some x->J.go i H'
 yld:∀(i:Nat) x H' u H2,aj G H'->xs[i]?=some x->J.yld i H' u H2->aj H' H2/\∀O',(∀a∈O',H' a≠none)->aj V (aw H2 O')->Rep K (aw H2 O') x u
def nE.weak{K:Nx}{V G z:Hp}(h:nE K J xs V G)(s:aj G z):nE K J xs V z:=
 ⟨λH' s'=>h.stop H' (s.trans s'),λi x H' s'=>h.go i x H' (s.trans s'),λi x H' u H2 s'=>h.yld i x H' u H2 (s.trans s')⟩
noncomputable def bn(ms:List ME)(W:Rho)(σ:St):List Addr:=match ms with
 | [.bor i]=>(match (W[i]?).join,(σ[i]?).join with|some (.own _),some (.ref a)=>[a]|_,_=>[])
 | _=>[]
noncomputable def be(B:Hp)(O:List Addr)(H:Hp)(L:List Addr):Hp:=λb=>if b∈O then(if b∈L then H b else B b)else H b
section
variable{K:Nx}{B H:Hp}{O L:List Addr}
def nF(s:aj B H):aj (be B O H L) H:=λb u e=>by
 unfold be at e;split at e
 .split at e
  .exact e
  .exact s b u e
 .exact e
def dZ(s:aj B H):aj B (be B O H L):=λb u e=>by
 unfold be;split
 .split
  .exact s b u e
  .exact e
 .exact s b u e
def cj:aj (aw H O) (be B O H L):=λb u e=>by
 have D:b∉O:=λz=>by rw[eV z]at e;cases e
 unfold be;rw[if_neg D];rw[aW D]at e;exact e
end
def mB{K:Nx}{V G:Hp}(h:SqL K G a us)(r:Reps K V xs us):nE K (Itl K a) xs V G where
 stop:=λH' s=>⟨us,s.seq h,L0 r.length.symm⟩
 go:=λi x H' s e=>by
  obtain⟨u,z,_⟩:=r.get e;exact⟨us,u,s.seq h,z⟩
 yld:=λi x H' u H2 s e y=>by
  obtain⟨rfl,y⟩:=y;obtain⟨w,z,q⟩:=r.get e;have D:=y us (s.seq h);rw[z]at D;cases D;exact⟨aj.refl _,λJ _ sv=>Rep.mono sv _ q⟩
def zt{K:Nx}{V G:Hp}(h:SqT K G a us)(r:Reps K V xs us):nE K (Itt K a) xs V G where
 stop:=λH' s=>⟨us,s.seqT h,L0 r.length.symm⟩
 go:=λi x H' s e=>by
  obtain⟨u,z,_⟩:=r.get e;exact⟨us,u,s.seqT h,z⟩
 yld:=λi x H' u H2 s e y=>by
  obtain⟨rfl,y⟩:=y;obtain⟨w,z,q⟩:=r.get e;have D:=y us (s.seqT h);rw[z]at D;cases D;exact⟨aj.refl _,λJ _ sv=>Rep.mono sv _ q⟩
def nH{K:Nx}{V G:Hp}{lo:Int} :nE K (Itr lo n) ((range n).map λ(k:Nat)=>.int (lo+k)) V G where
 stop:=λH' s=>by simp[Itr]
 go:=λi x H' s e=>by
  have:=(JY.mp e).1;simpa[Itr]using this
 yld:=λi x H' u H2 s e y=>by
  obtain⟨rfl,rfl⟩:=y;refine⟨aj.refl _,λz _ sv=>?_⟩;have hi:i<n:=by have:=(JY.mp e).1;simpa using this
  rw[Ka,getElem?_range hi]at e;cases e;rw[Rep]
def EY{K:Nx}(D:∀a∈O,H a≠none)(J:H p=none)(h:Reps K (aw (upd H p (.tup us)) O) xs us):Rep K (aw (upd H p (.tup us)) O) (.tup xs) (.ref p):=by
 refine⟨p,us,rfl,?_,h⟩;rw[aW λz=>D p z J];exact ay ..
theorem vJ:∀xs (k i:Nat),(cn k xs)[i]?=(xs[i]?).map λx=>.tup [.int ((k+i:Nat):Int),x]
 | [],k,i=>by simp[cn]
 |x::xs,k,0=>by simp[cn]
 |x::xs,k,i+1=>by
  rw[cn,getElem?_cons_succ,getElem?_cons_succ,vJ xs (k+1) i,show k+1+i=k+(i+1)by omega]
theorem nI:∀xs k,(cn k xs).length=xs.length
 | [],_=>rfl
 |x::xs,k=>by rw[cn,length_cons,length_cons,nI xs]
def lm{K:Nx}{V G:Hp}{q:Hp->List L2.V->Prop}{xs:List PV}{us:List L2.V}(h:∀H',aj G H'->q H' us)(r:Reps K V xs us):nE K (Ite q) (cn 0 xs) V G where
 stop:=λH' s=>⟨us,h H' s,by rw[nI];exact r.length⟩
 go:=λi x H' s e=>by
  refine⟨us,h H' s,?_⟩;have:=(JY.mp e).1;rw[nI]at this;rw[<- r.length];exact this
 yld:=λi x H' u H2 s e y=>by
  refine aD λZq U=>?_
  obtain⟨p,rfl,D,v,rfl,y⟩:=y;rw[vJ]at e;obtain⟨z,Y,rfl⟩:=mu.mp e;obtain⟨w,Z,rz⟩:=r.get Y;have J:=y us (h H' s);rw[Z]at J;cases J;refine U ?_;refine⟨az D _,λO' hO sv=>?_⟩;rw[LC];refine EY hO D (.cons (cf _ _) (.cons (Rep.mono sv _ rz) .nil))
noncomputable def tW(K:Nx)(cal:Cal)(k:Sk)(ms:List ME):TI:=λσ H R =>
 ∃B E O W vs xs,aE K B E O H W σ/\evs cal ms W=some vs/\bq k vs=some xs/\∀J H1,aj H H1->nE K J xs (aw H1 O) (be B O H1 (bn ms W σ))->R J H1
section
variable{X:Cx}{cal:Cal}{tg:Expr}
theorem PI.or(h:PI X tg e t)(g:PI X tg e u):PI X tg e (λσ H R=>t σ H R\/u σ H R):=λpins s σ H R I q=>q.elim (h pins s σ H R I) (g pins s σ H R I)
theorem qu:∀{ms}{W}{vs},evs cal ms W=some vs->vs.length=ms.length
 | [],_,_,h=>by simp[evs]at h;subst h;rfl
 |m::ms,_,_,h=>by
  simp[evs,ft]at h;obtain⟨v,_,w,z,rfl⟩:=h;simp[qu z]
def sk(h:evs cal [m] W=some vs):∃v,vs=[v]/\ev cal m W=some v:=by
 simp[evs,ft]at h;obtain⟨v,e,w,z,rfl⟩:=h
 simp_all
def qv{K:Nx}(h:Rep K F v u)(e:a_ v=some xs):∃a us,u=.ref a/\Reps K F xs us/\((v=.lst xs/\SqL K F a us)\/(v=.tup xs/\SqT K F a us)):=by
 cases v<;>first|(simp[a_]at e;subst e;rw[Rep]at h;obtain⟨a,us,e,q,r⟩:=h;exact⟨a,us,e,r,.inl ⟨rfl,q⟩⟩)|(simp[a_]at e;subst e;rw[Rep]at h;obtain⟨a,us,e,q,r⟩:=h;exact⟨a,us,e,r,.inr ⟨rfl,eE q⟩⟩)|simp[a_]at e
def Hu(J:aI m=false)(h:PE X e (tE X.K cal m)):PI X tg e (tW X.K cal .seq [m]):=by
 refine(PI.or (uY h) (xS h)).imp λσ H R q=>?_
 obtain⟨B,E,O,W,vs,xs,st,Z,e2,q⟩:=q;obtain⟨v,rfl,Y⟩:=sk Z;have z:a_ v=some xs:=e2;have hl:bn [m] W σ=[]:=by cases m<;>first|rfl|cases J
 rw[hl]at q;cases v with
 |lst ys =>
  simp[a_]at z;subst z
  refine .inl ⟨B,E,O,W,_,st,Y,λu H' s g=>?_⟩;have r:=g.2 J;rw[Rep]at r;obtain⟨a,us,rfl,D,U⟩:=r;exact⟨a,rfl,⟨us,(bU H' O).seq D⟩,q _ _ s (mB (cj.seq D) U)⟩
 |tup ys =>
  simp[a_]at z;subst z
  refine .inr ⟨B,E,O,W,_,st,Y,λu H' s g=>?_⟩;have r:=g.2 J;obtain⟨a,us,rfl,D,U⟩:=r;exact⟨a,rfl,⟨us,(bU H' O).seqT (eE D)⟩,q _ _ s (zt (cj.seqT (eE D)) U)⟩
 | _=>simp[a_]at z
def Hv(h:aX X.N X.env.scope i x=true):PI X tg (.Name x pos) (tW X.K cal .seq [.bor i]):=by
 refine(PI.or (uY (cg h)) (xS (cg h))).imp λσ H R q=>?_
 refine aD λZq kq=>?_
 obtain⟨B,E,O,W,vs,xs,st,e1,e2,q⟩:=q;obtain⟨v,rfl,D⟩:=sk e1;have J:a_ v=some xs:=e2;rw[ev]at D;refine kq ?_;cases hj:(W[i]?).join with
 |none=>rw[hj]at D;cases D
 |some m =>
  rw[hj]at D;obtain⟨u,Z,so⟩:=aT st hj;cases m with
  |val w =>
   simp only[bB,pd]at D;subst D;have a0:=so;obtain⟨a,us,rfl,Y,z⟩:=qv a0 J;rcases z with⟨rfl,U⟩|⟨rfl,U⟩
   .exact .inl ⟨_,Z,a,rfl,⟨us,(bU H O).seq U⟩,q _ _ (aj.refl H) (mB (cj.seq U) Y)⟩
   .exact .inr ⟨_,Z,a,rfl,⟨us,(bU H O).seqT U⟩,q _ _ (aj.refl H) (zt (cj.seqT U) Y)⟩
  |own ys =>
   simp only[bB,pd]at D;subst D;simp[a_]at J;subst J
   obtain⟨a,us,rfl,ha,Y,hO,_⟩:=so;refine .inl ⟨_,Z,a,rfl,⟨us,SqL.of ha⟩,q _ _ (aj.refl H) (mB (SqL.of ?_) Y)⟩;have hl:bn [.bor i] W σ=[a]:=by simp[bn,hj,Z]
   unfold be
   simp_all
  |brw ys =>
   simp only[bB,pd]at D;subst D;simp[a_]at J;subst J
   obtain⟨a,us,rfl,U,Y⟩:=so;exact .inl ⟨_,Z,a,rfl,⟨us,st.keep.seq U⟩,q _ _ (aj.refl H) (mB ((dZ st.keep).seq U) Y)⟩
  |ownD ys =>
   have D:=vt D;subst D;simp[a_]at J
  |mutD ys =>
   have D:=vz D;subst D;simp[a_]at J
  |brwD ys =>
   have D:=vv D;subst D;simp[a_]at J
def Hw (g:Gf X T k cal) (hf:f=("enumerate":Str)) (hg:glB X.env.scope f=true) (hs:ah e=true) (hb:aI m=false) (h:PE X e (tE X.K cal m)):PI X (.Tuple ts j tp) (.Call (.Name f p) [e] [] pos) (tW X.K cal .enm [m]):=by
 subst hf;have D:starEach [e] X.env=[(false,eval e X.env)]:=by cases e<;>first|rfl|(simp[ah]at hs)
 refine(zr (dq hg) (g.blt "enumerate" (by decide)) h D).imp λσ H R q=>?_
 obtain⟨B,E,O,W,vs,xs,st,e1,Y,q⟩:=q;obtain⟨v,rfl,e3⟩:=sk e1;simp[bq,mu]at Y;obtain⟨ys,e4,rfl⟩:=Y;refine⟨B,E,O,W,_,st,e3,λu H' s g=>?_⟩;obtain⟨a,us,rfl,Z,z⟩:=qv (g.2 hb) e4;rcases z with⟨_,J⟩|⟨_,J⟩
 .exact⟨a,rfl,.inl ⟨⟨us,(bU H' O).seq J⟩,q _ _ s (lm (λH2 U=>U.seq (cj.seq J)) Z)⟩⟩
 .exact⟨a,rfl,.inr ⟨⟨us,(bU H' O).seqT J⟩,q _ _ s (lm (λH2 U=>U.seqT (cj.seqT J)) Z)⟩⟩
def EZ (g:Gf X T k cal) (hf:f=("enumerate":Str)) (hg:glB X.env.scope f=true) (h:aX X.N X.env.scope i x=true):PI X (.Tuple ts j tp) (.Call (.Name f p) [.Name x px] [] pos) (tW X.K cal .enm [.bor i]):=by
 subst hf;refine(zr (dq hg) (g.blt "enumerate" (by decide)) (cg h) rfl).imp λσ H R q=>?_
 obtain⟨B,E,O,W,vs,xs,st,e1,e2,q⟩:=q;obtain⟨v,rfl,D⟩:=sk e1;simp only[bq,mu]at e2;obtain⟨zs,J,rfl⟩:=e2;rw[ev]at D;cases hj:(W[i]?).join with
 |none=>rw[hj]at D;cases D
 |some m =>
  rw[hj]at D;obtain⟨u,eu,so⟩:=aT st hj;cases m with
  |val w =>
   simp only[bB,pd]at D;subst D;have a1:=so;obtain⟨a,us,rfl,Z,z⟩:=qv a1 J;rcases z with⟨rfl,U⟩|⟨rfl,U⟩
   .exact⟨_,eu,a,rfl,.inl ⟨⟨us,(bU H O).seq U⟩,q _ _ (aj.refl H) (lm (λH2 Y=>Y.seq (cj.seq U)) Z)⟩⟩
   .exact⟨_,eu,a,rfl,.inr ⟨⟨us,(bU H O).seqT U⟩,q _ _ (aj.refl H) (lm (λH2 Y=>Y.seqT (cj.seqT U)) Z)⟩⟩
  |own ys =>
   simp only[bB,pd]at D;subst D;simp[a_]at J;subst J
   obtain⟨a,us,rfl,ha,Z,hO,_⟩:=so;have hl:bn [.bor i] W σ=[a]:=by simp[bn,hj,eu]
   have hG:be B O H (bn [.bor i] W σ) a=some (.lst us):=by
    unfold be
    simp_all
   exact⟨_,eu,a,rfl,.inl ⟨⟨us,SqL.of ha⟩,q _ _ (aj.refl H) (lm (λH2 Y=>Y.seq (SqL.of hG)) Z)⟩⟩
  |brw ys =>
   simp only[bB,pd]at D;subst D;simp[a_]at J;subst J
   obtain⟨a,us,rfl,U,Z⟩:=so;exact⟨_,eu,a,rfl,.inl ⟨⟨us,st.keep.seq U⟩,q _ _ (aj.refl H) (lm (λH2 Y=>Y.seq ((dZ st.keep).seq U)) Z)⟩⟩
  |ownD ys =>
   have D:=vt D;subst D;simp[a_]at J
  |mutD ys =>
   have D:=vz D;subst D;simp[a_]at J
  |brwD ys =>
   have D:=vv D;subst D;simp[a_]at J
def Ch (g:Gf X T k cal) (hf:f=("range":Str)) (hg:glB X.env.scope f=true) (ha:PA X args (tEs X.K cal ms)) (hn:args.length=1\/args.length=2) (hs:args.all ah=true) (hm:ms.length=args.length) :
  PI X tg (.Call (.Name f p) args [] pos) (tW X.K cal .rng ms):=by
 subst hf;have D:∀e,ah e=true->∀es env,starEach (e::es) env=(false,eval e env)::starEach es env:=λe he es env=>by
  cases e<;>first|rfl|(simp[ah]at he)
 match args,hn with
 | [a],_ =>
  simp only[all_cons,all_nil,Bool.and_true]at hs;refine(oW (dq hg) (g.blt "range" (by decide)) ha (by rw[D a hs];rfl)).imp λσ H R q=>?_
  obtain⟨B,E,O,W,vs,xs,st,J,z,q⟩:=q;refine⟨B,E,O,W,vs,st,J,λus H' s gs=>?_⟩
  match vs,z,gs with
  | [.int j],z,gs =>
   simp only[bq]at z;split at z
   .rename_i c;cases z;obtain⟨u,rfl,U⟩:=p1 gs.1;have Y:=U.int;subst Y;exact⟨j,rfl,c.1,c.2,q _ _ s nH⟩
   .cases z
  | [.int j,.int j'],z,gs =>
   have:=qu J
   simp_all
 | [a,b],_ =>
  simp only[all_cons,all_nil,Bool.and_true,g4]at hs;refine(wt (dq hg) (g.blt "range" (by decide)) ha (by rw[D a hs.1,D b hs.2];rfl) (by rw[D b hs.2];rfl)).imp λσ H R q=>?_
  obtain⟨B,E,O,W,vs,xs,st,J,z,q⟩:=q;refine⟨B,E,O,W,vs,st,J,λus H' s gs=>?_⟩
  match vs,z,gs with
  | [.int i,.int j],z,gs =>
   simp only[bq]at z;split at z
   .rename_i c;cases z;obtain⟨u,u',rfl,U,Z⟩:=p2 gs.1;have Y:=U.int;have e4:=Z.int;subst Y e4;exact⟨i,j,rfl,c,q _ _ s nH⟩
   .cases z
  | [.int j],z,gs =>
   have:=qu J
   simp_all
end
noncomputable def tF(K:Nx)(cal:Cal)(z:ME):TE:=λσ H Q=>∃B E O W xs,aE K B E O H W σ/\ev cal z W=some (.lst xs) /\
 ∀p us H',aj H H'->H p=none->H' p=some (.lst us)->Reps K (aw H' (p::O)) xs us->Q (.ref p) H'
def ir :aj (aw H (p::O)) (aw H O):=bI (aj.refl H) λb z=>.inl (KD _ z)
def iW(h:p∈O):aw (upd H p o) O=aw H O:=by
 funext b
 unfold aw;split
 .rfl
 .rename_i D;exact aZ λz=>D (by rw[z];exact h)
def vK{K:Nx}{H H':Hp}{O:List Addr}{D:ME}{xs:List PV}{p:Addr}{us:List V}(J:∀a∈O,H a≠none)(U:H p=none)(e:H' p=some (.lst us))(r:Reps K (aw H' (p::O)) xs us):Got K H' O D (.lst xs) (.ref p):=by
 refine .of ?_;refine⟨p,us,rfl,SqL.of ?_,Reps.mono ir _ r⟩;rw[aW λz=>J p z U];exact e
section
variable{X:Cx}{T:Tab}{k:Nat}{cal:Cal}
def dH(J:∀W v,ev cal z W=some v->∃xs,v=.lst xs)(h:PE X e (tF X.K cal z)):PE X e (tE X.K cal z):=by
 refine h.imp λσ H Q q=>?_
 obtain⟨B,E,O,W,v,st,D,q⟩:=q;obtain⟨xs,rfl⟩:=J W v D;exact⟨B,E,O,W,xs,st,D,λp us H' s U Y r=>q _ _ s (vK st.here U Y r)⟩
theorem Gf.blk(g:Gf X T k cal)(x)(fvs)(scope)(z)(D)(C)(fp):Gf (X.blk x fvs scope z D C fp) T k cal:={ g with }
def ln(h:fU osc N scope x fvs js=true):k8 osc N scope x fvs js:=by
 unfold fU at h;simp only[g4,J0,KA]at h;obtain⟨⟨⟨⟨⟨⟨⟨⟨h1,h2⟩,z⟩,D⟩,J⟩,U⟩,Y⟩,Z⟩,h9⟩:=h;exact⟨h1,h2,z,D,J,U,Y,Z,h9⟩
def E1{K:Nx}{σ F:St}(st:aE K B E O H W σ)(U:aj H H1)(s2:aj H1 H2)(hD:H1 D=none)(a1:H2 D≠none)
  (a2:∀z,F.set 0 z=(fM js σ).set 0 z) (hl:0<F.length) (hx:Rep K (aw H2 (D::O)) x ux):aE K H1 [] (D::O) H2 (cx js W x) (F.set 0 (some ux)):=by
 have hv:aj (aw H O) (aw H2 (D::O)):=bI (U.trans s2) λb hb=>by
  rcases tf.mp hb with rfl|hb
  .exact .inr (U.free hD)
  .exact .inl hb
 rw[a2];have Y:∀(i:Nat) m,iJ m=true->(cx js W x)[i]?≠some (some m):=λi m hm e=>by
  unfold cx at e;cases i with
  |zero =>
   simp at e;subst e;cases hm
  |succ i =>
   simp only[getElem?_cons_succ,Ka,mu]at e;obtain⟨j,_,e⟩:=e;cases Z:(W[j]?).join with
   |none=>rw[Z]at e;cases e
   |some mm =>
    rw[Z]at e;cases mm<;>first|(simp[fR]at e;done)|(simp only[fR,pd]at e;subst e;cases hm)
 refine⟨s2,λa J=>?_,λa J=>by simp at J,λa J=>by simp at J,?_,λi m e=>?_,λi j m m' a _ e _ hm=>absurd e (Y i m hm)
  ⟩
 .rcases tf.mp J with rfl|J
  .exact a1
  .exact λe=>st.here a J ((U.trans s2).free e)
 .simp[cx,fM]
 .cases i with
  |zero =>
   simp only[cx,getElem?_cons_zero,pd]at e;subst e;exact⟨ux,by simp[fM],hx⟩
  |succ i =>
   simp only[cx,getElem?_cons_succ,Ka,mu]at e;obtain⟨j,ej,e⟩:=e;cases Z:(W[j]?).join with
   |none=>rw[Z]at e;cases e
   |some mm =>
    rw[Z]at e;obtain⟨u,eu,so⟩:=aT st Z;have a5:((fM js σ).set 0 (some ux))[i+1]?=some (some u):=by
     simp[fM,ej,eu]
    refine⟨u,a5,?_⟩;cases mm with
    |val w =>
     simp only[fR,pd]at e;subst e;exact Rep.mono hv _ so
    |own ys =>
     simp only[fR,pd]at e;subst e;obtain⟨a,us,rfl,J,rs,hO,_⟩:=so;exact⟨a,us,rfl,SqL.of (U _ _ J),Reps.mono hv _ rs⟩
    |brw ys =>
     simp only[fR,pd]at e;subst e;obtain⟨a,us,rfl,sq,rs⟩:=so;exact⟨a,us,rfl,(st.keep.trans U).seq sq,Reps.mono hv _ rs⟩
    |brwD kvs =>
     simp only[fR,pd]at e;subst e;obtain⟨a,rfl,J⟩:=so;exact⟨a,rfl,aj.rd (st.keep.trans U) J⟩
    | _ =>
     simp only[fR,pd]at e;subst e;obtain⟨a,rfl,J,_⟩:=so;exact⟨a,rfl,.inl (U _ _ J)⟩
def uo{cond elt:ME}(g:Gf X T k cal)(J:fU X.env.scope X.N scope x (dG X.N js) js=true)
  (hw:PI X (.Name x px) it (tW X.K cal Y ms)) (U:fq it=true)
  (hc:∀z D C fp,PF (X.blk x (dG X.N js) scope z D C fp) ifs (tT X.K cal cond)) (Z:∀z D C fp,PE (X.blk x (dG X.N js) scope z D C fp) e (tE X.K cal elt)) (hb:aI elt=false) :
  PE X (.ListComp e [⟨.Name x px,it,ifs,0⟩] scope pos) (tF X.K cal (.comp Y ms js cond elt)):=by
 refine(vf (ln J) g.calm hw hc Z (by intro v;cases it<;>first|rfl|(simp[fq]at U))).imp λσ H Q q=>?_
 exact comp_go hb q
where
 comp_go {k':Sk}{ms:List ME}{js:List Nat}{cond elt:ME}{K:Nx}{σ:St}{H:Hp}{Q:VK} (hb:aI elt=false) (q:tF K cal (.comp k' ms js cond elt) σ H Q):yB (tW K cal k' ms) js (tT K cal cond) (tE K cal elt) σ H Q:=by
  refine aD λZq kq=>?_
  obtain⟨B,E,O,W,ws,st,e1,q⟩:=q;rw[ev]at e1;simp only[ft]at e1;obtain⟨vs,e1,xs,e2,e3⟩:=e1;refine kq ?_;split at e3
  .rename_i hlen;simp only[mu,PV.lst.injEq,exists_eq_right]at e3;refine⟨B,E,O,W,vs,xs,st,e1,e2,λJ H1 s1 it D hD=>?_⟩;have hDO:D∉O:=λz=>bw s1 st.here D z hD
   have it1:=it.weak (nF (st.keep.trans s1));refine⟨λi m F H'=>m=xs.length-i/\i<=xs.length/\aj H1 H'/\(∀z,F.set 0 z=(fM js σ).set 0 z)/\0<F.length/\∃done bT ys,gu (λx=>(ev cal cond (cx js W x)).bind bb) (λx=>ev cal elt (cx js W x)) (xs.drop i)=some bT/\ws=done++bT/\done.length<=i/\H' D=some (.lst ys)/\Reps K (aw H' (D::O)) done ys,⟨xs.length,by simp,Ke _,az hD _,λ_=>rfl,by simp[fM],[],ws,[],by simpa using e3,rfl,lC _,ay,.nil⟩,?_⟩;rintro i m F H' ⟨rfl,hi,s2,hσ,hl,done,bT,ys,eg,ew,hdl,hDy,rs⟩;by_cases hlt:i<xs.length
   .right;have ex:=J1 hlt;refine⟨it1.go i _ H' s2 ex,λσ2 H2=>∃m',m'<xs.length-i/\(m'=xs.length-(i+1)/\i+1<=xs.length/\aj H1 H2/\(∀z,σ2.set 0 z=(fM js σ).set 0 z)/\0<σ2.length/\∃done bT ys,gu (λx=>(ev cal cond (cx js W x)).bind bb) (λx=>ev cal elt (cx js W x)) (xs.drop (i+1))=some bT/\ws=done++bT/\done.length<=i+1/\H2 D=some (.lst ys)/\Reps K (aw H2 (D::O)) done ys),λσ2 H2 z=>z,λux H2 y=>?_⟩;obtain⟨s3,hr⟩:=it1.yld i _ H' ux H2 s2 ex y;have sv:aj (aw H1 O) (aw H2 (D::O)):=bI (s2.trans s3) λb hb=>by
     rcases tf.mp hb with rfl|hb
     .exact .inr hD
     .exact .inl hb
    have hx:=hr (D::O) (λa ha=>by
     rcases tf.mp ha with rfl|ha
     .rw[hDy];simp
     .exact λz=>bw s1 st.here a ha (s2.free z)) sv
    have hD2:=s3 _ _ hDy;have stb:=E1 (js:=js) (W:=W) st s1 (s2.trans s3) hD (by rw[hD2];simp) hσ hl hx;rw[MQ hlt,gu]at eg;simp only[ft]at eg;obtain⟨b,eb,eg⟩:=eg;refine⟨H1,[],D::O,_,b,stb,by simpa[evB,ft]using eb,λH3 s4=>?_⟩;have hσ2:∀z,(F.set 0 (some ux)).set 0 z=(fM js σ).set 0 z:=λz=>by rw[set_set];exact hσ z
    have hl2:0<(F.set 0 (some ux)).length:=by rw[Mn];exact hl
    cases b with
    |false =>
     rw[if_neg (by simp)]at eg;dsimp only;rw[if_neg (by simp)];refine⟨_,by omega,rfl,hlt,(s2.trans s3).trans s4,hσ2,hl2,done,bT,ys,eg,ew,by omega,s4 _ _ hD2,Reps.mono ?_ _ rs⟩;exact(al s3).trans (al s4)
    |true =>
     rw[if_pos rfl]at eg;dsimp only;rw[if_pos rfl];refine aD λZq kq=>?_
     simp only[ft,mu]at eg;obtain⟨y',ey,rest',eg,rfl⟩:=eg;refine kq ?_;refine⟨H1,[],D::O,_,y',stb.mono s4,ey,λuy H4 s5 gy=>?_⟩;have hD4:=s5 _ _ (s4 _ _ hD2);have ry:=gy.2 hb;have rs4:=Reps.mono (((al s3).trans (al s4)).trans (al s5)) _ rs;have hyl:ys.length<=10000:=by rw[<- rs.length];omega
     refine⟨ys,hD4,Kn hyl (by decide),_,by omega,rfl,hlt,?_,hσ2,hl2,done++[y'],rest',ys++[uy],eg,by simp[ew],by simp;omega,ay,?_⟩
     .intro b u eb;rw[aZ (cD eb hD)];exact s5 _ _ (s4 _ _ ((s2.trans s3) _ _ eb))
     .rw[iW (K4)];exact rs4.snoc ry
   .left;have ei:i=xs.length:=by omega
    subst ei;rw[drop_length,gu]at eg;cases eg;rw[Ll]at ew;subst ew;exact⟨it1.stop H' s2,q D ys H' (s1.trans s2) (s1.free hD) hDy rs⟩
  .cases e3
def aU(z:ah e=true)(es)(env):starEach (e::es) env=(false,eval e env)::starEach es env:=by
 cases e<;>first|rfl|(simp[ah]at z)
theorem bY :∀{es},es.all ah=true->(backTo pos (starEach es env)).any (·.1)=false
 | [],_=>rfl
 |e::es,h=>by
  simp only[all_cons,g4]at h;rw[aU h.1];show(false||(backTo pos (starEach es env)).any (·.1))=false;rw[bY h.2];rfl
theorem bJ:∀{ms}{N}{sc}{es},chks T ms N sc es=true->es.all ah=true/\ms.length=es.length
 | [],_,_,[],_=>⟨rfl,rfl⟩
 | [],_,_,_::_,h=>by simp[chks]at h
 | _::_,_,_,[],h=>by simp[chks]at h
 |m::ms,N,sc,e::es,h=>by
  simp[chks]at h;obtain⟨h1,h2⟩:=bJ h.2;exact⟨by simp[h.1.2,h1],by simp[h2]⟩
def bC(h:PE X e (tE X.K cal U))(D:lc e=true):PT X e (tT X.K cal U):=by
 refine(DF h (by intro w;cases e<;>first|rfl|(simp[lc]at D;done)|(rename_i op _ _;cases op<;>first|rfl|(simp[lc]at D)))).imp λσ H Q q=>?_
 obtain⟨B,E,O,W,b,st,z,q⟩:=q;simp[evB,ft]at z;obtain⟨v,z,J⟩:=z;refine⟨B,E,O,W,v,st,z,λu H' s g=>?_⟩;cases v<;>simp[bb]at J
 subst J;exact⟨_,g.1.bl,q H' s⟩
def zu(h:PE X e (tE X.K cal m))(hs:PA X es (tEs X.K cal ms))(hn:ah e=true):PA X (e::es) (tEs X.K cal (m::ms)):=by
 refine(aM h hs (aU hn es _)).imp λσ H Q q=>?_
 obtain⟨B,E,O,W,vs,st,z,q⟩:=q;simp[evs,ft,mu]at z;obtain⟨v,z,ws,e2,rfl⟩:=z;refine⟨B,E,O,W,v,st,z,λu H1 U Y=>⟨B,E,O,W,ws,st.mono U,e2,λus H2 D Z=>q _ H2 (U.trans D) ⟨.cons (Y.1.mono D) Z.1,λJ=>?_⟩⟩⟩;simp only[all_cons,g4,J7]at J;exact .cons ((Y.mono D).2 J.1) (Z.2 J.2)
def Ci:PA X [] (tEs X.K cal []):=by
 refine bL.imp λσ H Q q=>?_
 obtain⟨B,E,O,W,vs,st,z,q⟩:=q;simp only[evs,pd]at z;subst z;exact q [] H (aj.refl H) ⟨.nil,λ_=>.nil⟩
def zv:PA X [] (tAs X.K cal []):=by
 refine bL.imp λσ H Q q=>?_
 obtain⟨B,E,O,W,vs,st,z,q⟩:=q;simp only[evA,pd]at z;subst z;exact q [] H (aj.refl H) .nil
def zw{K:Nx}(s:aj H H')(h:lM K O H m u):lM K O H' m u:=by
 cases m<;>first|exact Rep.mono (al s) _ h|exact h|(obtain⟨a,us,e,q,r⟩:=h;exact⟨a,us,e,s.seq q,Reps.mono (al s) _ r⟩)|(obtain⟨a,e,q⟩:=h;exact⟨a,e,aj.rd s q⟩)
def wY(D:aI m=false)(h:PE X e (tE X.K cal m))(hs:PA X es (tAs X.K cal ms))(Y:ah e=true):PA X (e::es) (tAs X.K cal (m::ms)):=by
 refine(aM h hs (aU Y es _)).imp λσ H Q q=>?_
 obtain⟨B,E,O,W,vs,st,Z,q⟩:=q;have z:(ev cal m W).bind (λv=>(evA cal ms W).map (MV.val v::·))=some vs:=by
  rw[<- Z];cases m<;>first|(cases D;done)|(simp;done)|rfl
 simp[ft]at z;obtain⟨v,e9,ws,e2,rfl⟩:=z;exact⟨B,E,O,W,v,st,e9,λu H1 J g1=>⟨B,E,O,W,ws,st.mono J,e2,λus H2 U g2=>q _ H2 (J.trans U) (.cons ((g1.mono U).2 D) g2)⟩⟩
def zx(h:aX X.N X.env.scope i x=true)(hs:PA X es (tAs X.K cal ms)):PA X (.Name x pos::es) (tAs X.K cal (.bor i::ms)):=by
 refine(aM (cg h) hs rfl).imp λσ H Q q=>?_
 obtain⟨B,E,O,W,vs,st,z,q⟩:=q;rw[evA]at z;simp[ft,mu]at z;obtain⟨m',z,ws,e2,rfl⟩:=z;cases U:(W[i]?).join with
 |none=>rw[U]at z;cases z
 |some m =>
  rw[U]at z;obtain⟨u,eu,D⟩:=aT st U;have ao:lM X.K O H m' u:=by
   cases m with
   |val w=>simp[gX,pd]at z;subst z;exact D
   |own ys=>simp[gX,pd]at z;subst z;obtain⟨a,us,rfl,J,Y,_⟩:=D;exact⟨a,us,rfl,SqL.of J,Y⟩
   |brw ys=>simp[gX,pd]at z;subst z;obtain⟨a,us,rfl,sq,Y⟩:=D;exact⟨a,us,rfl,st.keep.seq sq,Y⟩
   |brwD kvs=>simp[gX,pd]at z;subst z;obtain⟨a,rfl,J⟩:=D;exact⟨a,rfl,aj.rd st.keep J⟩
   | _=>simp[gX,pd]at z;subst z;obtain⟨a,rfl,J,_⟩:=D;exact⟨a,rfl,.inl J⟩
  exact⟨u,eu,⟨B,E,O,W,ws,st,e2,λus H2 Z g2=>q _ H2 Z (.cons (zw Z ao) g2)⟩⟩
def Hx(U:PE X l (tE X.K cal a))(Y:PE X r (tE X.K cal b)):PE X (.BinOp l (ue op) r pos) (tE X.K cal (.bin op a b)):=by
 refine(uZ (uj op) U Y).imp λσ H Q q=>?_
 obtain⟨B,E,O,W,v,st,z,q⟩:=q;rw[ev]at z;simp[ft]at z;obtain⟨x,z,y,Z,e3⟩:=z;exact⟨B,E,O,W,x,st,z,λux H1 D g1=>⟨B,E,O,W,y,st.mono D,Z,λuy H2 J g2=>⟨O,x,y,v,bw (D.trans J) st.here,g1.1.mono J,g2.1,e3,λu H3 s3 r=>q u H3 ((D.trans J).trans s3) (.of r)⟩⟩⟩
def Hy(J:PE X e (tE X.K cal a)):PE X (.UnaryOp .Not e pos) (tE X.K cal (.not a)):=by
 refine(DK J).imp λσ H Q q=>?_
 obtain⟨B,E,O,W,v,st,z,q⟩:=q;rw[ev]at z;simp only[ft,mu]at z;obtain⟨b,⟨x,z,D⟩,rfl⟩:=z;cases x<;>simp[bb,pd,reduceCtorEq]at D
 subst D;exact⟨B,E,O,W,_,st,z,λZ H1 U Y=>⟨_,Y.1.bl,q _ H1 U (.of (eG _ _))⟩⟩
def Hz(J:PT X e (tT X.K cal a)):PT X (.UnaryOp .Not e pos) (tT X.K cal (.not a)):=by
 refine(DI J).imp λσ H Q q=>?_
 obtain⟨B,E,O,W,b,st,z,q⟩:=q;simp only[evB,ev,ft,mu]at z;obtain⟨v,⟨c,⟨x,z,U⟩,rfl⟩,D⟩:=z;simp only[bb,pd]at D;subst D;exact⟨B,E,O,W,c,st,by simp[evB,z,U],λH' s=>q H' s⟩
def Dl(ha:PE X x (tE X.K cal a))(hb:PE X (.BoolOp .And (y::r) pos) (tE X.K cal b)):PE X (.BoolOp .And (x::y::r) pos) (tE X.K cal (.and a b)):=by
 refine(DJ ha hb).imp λσ H Q q=>?_
 obtain⟨B,E,O,W,v,st,J,q⟩:=q;rw[ev]at J;simp only[ft]at J;obtain⟨c,⟨z,J,Y⟩,D⟩:=J;cases z<;>simp[bb,pd,reduceCtorEq]at Y
 subst Y;refine⟨B,E,O,W,_,st,J,λux H1 U g1=>⟨_,g1.1.bl,?_⟩⟩;split at D
 .rename_i h;rw[if_pos h];simp only[ft,mu]at D;obtain⟨z',D,c',Z,rfl⟩:=D;cases z'<;>simp[bb,pd,reduceCtorEq]at Z
  subst Z;exact⟨B,E,O,W,_,st.mono U,D,λu H2 s2 g2=>q u H2 (U.trans s2) (by rw[g2.1.bl];exact .of (eG _ _))⟩
 .rename_i h;rw[if_neg h];cases D;exact q _ H1 U (.of (eG _ _))
def HA(ha:PE X x (tE X.K cal a))(hb:PE X (.BoolOp .Or (y::r) pos) (tE X.K cal b)):PE X (.BoolOp .Or (x::y::r) pos) (tE X.K cal (.or a b)):=by
 refine(GH ha hb).imp λσ H Q q=>?_
 obtain⟨B,E,O,W,v,st,J,q⟩:=q;rw[ev]at J;simp only[ft]at J;obtain⟨c,⟨z,J,Y⟩,D⟩:=J;cases z<;>simp[bb,pd,reduceCtorEq]at Y
 subst Y;refine⟨B,E,O,W,_,st,J,λux H1 U g1=>⟨_,g1.1.bl,?_⟩⟩;split at D
 .rename_i h;rw[if_pos h];cases D;exact q _ H1 U (.of (eG _ _))
 .rename_i h;rw[if_neg h];simp only[ft,mu]at D;obtain⟨z',D,c',Z,rfl⟩:=D;cases z'<;>simp[bb,pd,reduceCtorEq]at Z
  subst Z;exact⟨B,E,O,W,_,st.mono U,D,λu H2 s2 g2=>q u H2 (U.trans s2) (by rw[g2.1.bl];exact .of (eG _ _))⟩
def Dm(h:PT X (.BoolOp op vs pos) t):PW X (.BoolOp op vs pos) t:=λw pins s σ H Q I q=>by
 have:=h pins s σ H Q I q;exact this
def Dn(Z:PT X x (tT X.K cal a))(hb:PW X (.BoolOp .And (y::r) pos) (tT X.K cal b)):PT X (.BoolOp .And (x::y::r) pos) (tT X.K cal (.and a b)):=by
 refine(DH Z hb).pt.imp λσ H Q q=>?_
 obtain⟨B,E,O,W,v,st,J,q⟩:=q;simp only[evB,ev,ft]at J;obtain⟨w,⟨c,⟨z,J,e2⟩,D⟩,U⟩:=J;refine⟨B,E,O,W,c,st,by simp[evB,J,e2],λH1 Y=>?_⟩;split at D
 .rename_i h;rw[if_pos h];simp only[ft,mu]at D;obtain⟨z',D,c',e5,rfl⟩:=D;simp only[bb,pd]at U;subst U;exact⟨B,E,O,W,_,st.mono Y,by simp[evB,D,e5],λH2 s2=>q H2 (Y.trans s2)⟩
 .rename_i h;rw[if_neg h];cases D;cases U;exact q H1 Y
def HB(Z:PT X x (tT X.K cal a))(hb:PW X (.BoolOp .Or (y::r) pos) (tT X.K cal b)):PT X (.BoolOp .Or (x::y::r) pos) (tT X.K cal (.or a b)):=by
 refine(GD Z hb).pt.imp λσ H Q q=>?_
 obtain⟨B,E,O,W,v,st,J,q⟩:=q;simp only[evB,ev,ft]at J;obtain⟨w,⟨c,⟨z,J,e2⟩,D⟩,U⟩:=J;refine⟨B,E,O,W,c,st,by simp[evB,J,e2],λH1 Y=>?_⟩;split at D
 .rename_i h;rw[if_pos h];cases D;cases U;exact q H1 Y
 .rename_i h;rw[if_neg h];simp only[ft,mu]at D;obtain⟨z',D,c',e5,rfl⟩:=D;simp[bb,pd]at U;subst U;exact⟨B,E,O,W,_,st.mono Y,by simp[evB,D,e5],λH2 s2=>q H2 (Y.trans s2)⟩
def HC(hc:PT X t (tT X.K cal c))(Z:PE X x (tE X.K cal a))(hb:PE X y (tE X.K cal b))(na:aI a=false)(nb:aI b=false):PE X (.IfExp t x y pos) (tE X.K cal (.ite c a b)):=by
 refine(xM hc Z hb).imp λσ H Q q=>?_
 obtain⟨B,E,O,W,v,st,z,q⟩:=q;rw[ev]at z;simp only[ft]at z;obtain⟨k',z,J⟩:=z;refine⟨B,E,O,W,k',st,by simpa[evB,ft]using z,λH1 D=>?_⟩;split at J
 .rename_i h;rw[if_pos h];exact⟨B,E,O,W,v,st.mono D,J,λu H2 U Y=>q u H2 (D.trans U) (.of (Y.2 na))⟩
 .rename_i h;rw[if_neg h];exact⟨B,E,O,W,v,st.mono D,J,λu H2 U Y=>q u H2 (D.trans U) (.of (Y.2 nb))⟩
def HE(hc:PT X t (tT X.K cal c))(ha:PT X x (tT X.K cal a))(hb:PT X y (tT X.K cal b)):PT X (.IfExp t x y pos) (tT X.K cal (.ite c a b)):=by
 intro pins s σ H Q I q;refine aD λZq kq=>?_
 obtain⟨B,E,O,W,v,st,z,q⟩:=q;simp only[evB,ev,ft]at z;obtain⟨w,⟨Y,z,J⟩,Z⟩:=z;refine kq ?_;refine isTrue_IfExp (thn (hc pins s σ H (λb H1=>b=Y/\aj H H1) I ⟨B,E,O,W,Y,st,by simpa[evB,ft]using z,λH1 D=>⟨rfl,D⟩⟩) λb D ⟨H1,I1,eb,hs⟩=>?_);subst eb;split at J
 .rename_i h;subst h;exact ha pins D σ H1 Q I1 ⟨B,E,O,W,v,st.mono hs,by simp[evB,J,Z],λH2 U=>q H2 (hs.trans U)⟩
 .rename_i h;have:b=false:=by cases b<;>simp at h ⊢
  subst this;exact hb pins D σ H1 Q I1 ⟨B,E,O,W,v,st.mono hs,by simp[evB,J,Z],λH2 U=>q H2 (hs.trans U)⟩
def HF(g:Gf X T k cal)(ha:PE X l (tE X.K cal a))(hb:PE X r (tE X.K cal b))(hm:behindInMarks (zc op) r=false):PE X (.Compare l [zc op] [r] pos) (tE X.K cal (.cmp op a b))/\PT X (.Compare l [zc op] [r] pos) (tT X.K cal (.cmp op a b)):=by
 refine⟨(Bq (zn g.units op) ha hb hm).imp λσ H Q q=>?_,(Br (zn g.units op) ha hb hm).imp λσ H Q q=>?_⟩
 .obtain⟨B,E,O,W,v,st,z,q⟩:=q;rw[ev]at z;simp only[ft,mu]at z;obtain⟨x,z,y,U,c,Y,rfl⟩:=z;exact⟨B,E,O,W,x,st,z,λux H1 D Z=>⟨B,E,O,W,y,st.mono D,U,λuy H2 J g2=>⟨O,x,y,c,Z.1.mono J,g2.1,Y,q _ H2 (D.trans J) (.of (eG _ _))⟩⟩⟩
 .obtain⟨B,E,O,W,v,st,z,q⟩:=q;simp only[evB,ev,ft,mu]at z;obtain⟨w,⟨x,z,y,U,c,Y,rfl⟩,e4⟩:=z;simp[bb,pd]at e4;subst e4;exact⟨B,E,O,W,x,st,z,λux H1 D Z=>⟨B,E,O,W,y,st.mono D,U,λuy H2 J g2=>⟨O,x,y,c,Z.1.mono J,g2.1,Y,_,rfl,q H2 (D.trans J)⟩⟩⟩
def HG(h:PA X es (tEs X.K cal ms))(J:(ms.all λm=>!aI m)=true):PE X (.Tuple es j pos) (tE X.K cal (.tup ms)):=by
 refine(tI h).imp λσ H Q q=>?_
 obtain⟨B,E,O,W,v,st,z,q⟩:=q;rw[ev]at z;simp only[ft]at z;obtain⟨vs,z,D⟩:=z;split at D
 .rename_i hl;cases D;refine⟨B,E,O,W,vs,st,z,λus H1 U Y=>⟨?_,λp Z=>?_⟩⟩
  .rw[<- (Y.2 J).length];exact cH hl
  .exact q _ _ (U.trans (az Z _)) (.of (g6 (bw U st.here) Z (Y.2 J)))
 .cases D
def Do(h:PA X es (tEs X.K cal ms))(z:(ms.all λm=>!aI m)=true):PE X (.List es pos) (tF X.K cal (.lst ms)):=by
 refine(tJ h).imp λσ H Q q=>?_
 obtain⟨B,E,O,W,xs,st,D,q⟩:=q;rw[ev]at D;simp only[ft]at D;obtain⟨vs,D,J⟩:=D;split at J
 .rename_i hl;cases J;refine⟨B,E,O,W,xs,st,D,λus H1 Y Z=>⟨?_,λp U=>?_⟩⟩
  .rw[<- (Z.2 z).length];exact cH hl
  .refine q p us _ (Y.trans (az U _)) (Y.free U) ay ?_;rw[iW (K4)];refine Reps.mono (bI (aj.refl H1) λb z=>?_) _ (Z.2 z);rcases tf.mp z with rfl|z
   .exact .inr U
   .exact .inl z
 .cases J
def HH(U:PE X v (tE X.K cal a))(hi:PE X s (tE X.K cal i))(hs:b9 s=true):PE X (.Subscript v s pos) (tE X.K cal (.idx a i)):=by
 refine(G2 ES U hi (ul hs)).imp λσ H Q q=>?_
 obtain⟨B,E,O,W,v,st,z,q⟩:=q;rw[ev]at z;simp[ft]at z;obtain⟨x,z,y,Y,Z⟩:=z;exact⟨B,E,O,W,x,st,z,λux H1 D g1=>⟨B,E,O,W,y,st.mono D,Y,λuy H2 J g2=>⟨O,x,y,v,bw (D.trans J) st.here,g1.1.mono J,g2.1,Z,λu H3 s3 r=>q u H3 ((D.trans J).trans s3) (.of r)⟩⟩⟩
noncomputable def tB1(K:Nx)(cal:Cal)(z:ME):TO:=λσ H Q=>∃B E O W o,aE K B E O H W σ/\((ev cal z W).bind λv=>bnd z v)=some o/\∀H',aj H H'->Q o H'
def E2(h:jL m=true):PO X none (tB1 X.K cal m):=by
 have e:m=.cst .non:=by
  unfold jL at h;split at h
  .rfl
  .cases h
 subst e;intro pins s σ H Q I q;refine aD λJ D=>?_
 obtain⟨B,E,O,W,o,st,z,q⟩:=q;simp[ev,bind_some,bnd]at z;subst z;refine D ?_;exact Bu pins s σ H Q I (q H (aj.refl H))
def E3(h:PE X l (tE X.K cal m))(J:jL m=false):PO X (some l) (tB1 X.K cal m):=by
 intro pins s σ H Q I q;refine aD λY U=>?_
 obtain⟨B,E,O,W,o,st,z,q⟩:=q;simp[ft]at z;obtain⟨v,z,D⟩:=z;obtain⟨i,rfl,rfl⟩:∃i,v=.int i/\o=some i:=by
  unfold bnd at D;split at D
  .simp[jL]at J
  .simp_all
  .cases D
 refine U ?_;exact Bv h pins s σ H Q I ⟨B,E,O,W,_,st,z,λu H' s' g=>⟨i,g.1.int,q H' s'⟩⟩
def Cj{a lo hi:ME}{p2 pos:Pos}(ha:PE X v (tE X.K cal a))(hl:PO X l (tB1 X.K cal lo))(hu:PO X u (tB1 X.K cal hi)):PE X (.Subscript v (.Slice l u none p2) pos) (tE X.K cal (.slice a lo hi)):=by
 refine(x_ ET ha hl hu).imp λσ H Q q=>?_
 refine aD λZq kq=>?_
 obtain⟨B,E,O,W,w,st,z,q⟩:=q;rw[ev,ft]at z;obtain⟨x,z,D⟩:=z;rw[ft]at D;obtain⟨Z,D,J⟩:=D;rw[ft]at J;obtain⟨ao,J,e4⟩:=J;refine kq ?_;exact⟨B,E,O,W,x,st,z,λux H1 U g1=>⟨B,E,O,W,Z,st.mono U,D,λH2 Y=>⟨B,E,O,W,ao,(st.mono U).mono Y,J,λH3 s3 =>
  ⟨O,x,w,bw ((U.trans Y).trans s3) st.here,g1.1.mono (Y.trans s3),e4,λu H4 s4 r=>q u H4 (((U.trans Y).trans s3).trans s4) (.of r)⟩⟩⟩⟩
def pE {id:String} (hc:bZ X (.builtin id) (RBM X.K (aA f))) (J:glB X.env.scope x=true) (U:X.mg x=none) (hv:bootBuiltins x=some (.builtin id)) (Y:x ≠ "__name__") (hd:(x==("__debug__":Str))=false)
  (Z:PA X (e::es) (tEs X.K cal ms)) (hs:(e::es).all ah=true):PE X (.Call (.Name x p) (e::es) [] pos) (tE X.K cal (.blt f ms)):=by
 simp only[all_cons,g4]at hs;refine(fh hc (dq J) U hv Z Y hd (aU hs.1 es _) (bY hs.2)).imp λσ H Q q=>?_
 obtain⟨B,E,O,W,v,st,z,q⟩:=q;rw[ev,ft]at z;obtain⟨vs,z,e2⟩:=z;exact⟨B,E,O,W,vs,st,z,λus H1 D g1=>⟨O,vs,v,bw D st.here,g1.1,e2,λu H2 s2 r=>q u H2 (D.trans s2) (.of r)⟩⟩
def E4 {id:String} (hc:bZ X (.type id) (RBM X.K (aA f))) (J:glB X.env.scope x=true) (U:X.mg x=none) (hv:bootBuiltins x=some (.type id)) (Y:x ≠ "__name__") (hd:(x==("__debug__":Str))=false)
  (Z:PA X (e::es) (tEs X.K cal ms)) (hs:(e::es).all ah=true):PE X (.Call (.Name x p) (e::es) [] pos) (tE X.K cal (.blt f ms)):=by
 simp only[all_cons,g4]at hs;refine(c_ hc (dq J) U hv Z Y hd (aU hs.1 es _) (bY hs.2)).imp λσ H Q q=>?_
 obtain⟨B,E,O,W,v,st,z,q⟩:=q;rw[ev,ft]at z;obtain⟨vs,z,e2⟩:=z;exact⟨B,E,O,W,vs,st,z,λus H1 D g1=>⟨O,vs,v,bw D st.here,g1.1,e2,λu H2 s2 r=>q u H2 (D.trans s2) (.of r)⟩⟩
def pF{K:Nx}(q:tF K cal (.blt f ms) σ H Q):tCB (RBF K (aA f)) (tEs K cal ms) σ H Q:=by
 obtain⟨B,E,O,W,xs,st,z,q⟩:=q;rw[ev,ft]at z;obtain⟨vs,z,Y⟩:=z;refine⟨B,E,O,W,vs,st,z,λus H1 D Z=>⟨O,vs,xs,bw D st.here,Z.1,Y,λl ws J r=>q l ws _ (D.trans (az J _)) (D.free J) ay ?_⟩⟩;rw[iW (K4)];refine Reps.mono (bI (aj.refl H1) λb U=>?_) _ r;rcases tf.mp U with rfl|U
 .exact .inr J
 .exact .inl U
def zy {id:String} (hc:bZ X (.builtin id) (RBF X.K (aA f))) (z:glB X.env.scope x=true) (D:X.mg x=none) (hv:bootBuiltins x=some (.builtin id)) (J:x ≠ "__name__") (hd:(x==("__debug__":Str))=false)
  (U:PA X (e::es) (tEs X.K cal ms)) (hs:(e::es).all ah=true):PE X (.Call (.Name x p) (e::es) [] pos) (tF X.K cal (.blt f ms)):=by
 simp only[all_cons,g4]at hs;exact(fh hc (dq z) D hv U J hd (aU hs.1 es _) (bY hs.2)).imp λσ H Q q=>pF q
def Ck {id:String} (hc:bZ X (.type id) (RBF X.K (aA f))) (z:glB X.env.scope x=true) (D:X.mg x=none) (hv:bootBuiltins x=some (.type id)) (J:x ≠ "__name__") (hd:(x==("__debug__":Str))=false)
  (U:PA X (e::es) (tEs X.K cal ms)) (hs:(e::es).all ah=true):PE X (.Call (.Name x p) (e::es) [] pos) (tF X.K cal (.blt f ms)):=by
 simp only[all_cons,g4]at hs;exact(c_ hc (dq z) D hv U J hd (aU hs.1 es _) (bY hs.2)).imp λσ H Q q=>pF q
def E5(g:Gf X T k cal)(Z:T.fs[f]?=some x)(D:glB X.env.scope x=true)(J:aq x=true)(ha:PA X es (tAs X.K cal ms))(hs:es.all ah=true)(hl:ms.length=es.length):PE X (.Call (.Name x p) es [] pos) (tE X.K cal (.call f ms)):=by
 obtain⟨fa,fd,ps,h1,h2,U,F,_⟩:=g.fns f x Z;have key:∀σ H Q,tE X.K cal (.call f ms) σ H Q->xU (spM X.K cal f) [] E0 (tAs X.K cal ms) σ H Q:=λσ H Q q=>by
  obtain⟨B,E,O,W,v,st,z,q⟩:=q;rw[ev,ft]at z;obtain⟨vs,z,e2⟩:=z;refine⟨B,E,O,W,vs,st,z,λus H1 Y g1=>⟨O,vs,v,bw Y st.here,?_,e2,λu H2 s2 r=>q u H2 (Y.trans s2) (.of r)⟩⟩
  simp_all
 cases es with
 |nil =>
  refine(xW F g.room (dq D) h1 h2 U .nil rB (iq J).1).imp λσ H Q q=>?_
  obtain⟨B,E,O,W,vs,st,z,q⟩:=key σ H Q q;cases ms with
  |nil =>
   simp only[evA,pd]at z;subst z;exact q [] H (aj.refl H) .nil
  |cons m ms=>simp at hl
 |cons e es =>
  simp only[all_cons,g4]at hs;exact(mf F g.room (dq D) h1 h2 U .nil rB ha (iq J).1 (aU hs.1 es _) (bY hs.2)).imp key
end
section
variable{K:Nx}{H:Hp}{O:List Addr}
def zz(kvs)(i):jn (gZ kvs) (Sum.inl i:Key)=(bQ kvs i).map Sc.v:=by
 unfold jn gZ bQ;rw[find?_map,M0,M0];have e:((λz:Key×V=>decide (z.1=(Sum.inl i:Key)))∘λp:Int×Sc=>((Sum.inl p.1:Key),p.2.v))=λp:Int×Sc=>decide (p.1=i):=by
  funext p
  simp
 rw[e]
 rfl
def zA(kvs)(k):jn (jJ kvs) (k.map Sum.inl)=(bQ kvs k).map Sc.v:=by
 unfold jn jJ bQ;rw[find?_map,M0,M0];have e:((λz:List Key×V=>decide (z.1=k.map Sum.inl))∘λp:List Int×Sc=>((p.1.map Sum.inl:List Key),p.2.v))=λp:List Int×Sc=>decide (p.1=k):=by
  funext p
  exact Np.mpr ⟨mw,λe=>Kj _ e⟩
 rw[e]
 rfl
def Cl(ns:List Int):(ns.map Sum.inl:List Key).map kV=ns.map V.int:=by
 rw[J4]
 rfl
def vL(e:bc xs=some ns)(r:bH K H O (.tup xs) u):∃b,u=.ref b/\H b=some (.tup ((ns.map Sum.inl:List Key).map kV)):=by
 have z:=dk e;subst z;obtain⟨b,us,rfl,h,t⟩:=r.tupH;have D:=t.ints;subst D;exact⟨b,rfl,by rw[Cl];exact h⟩
def qw(e:wS (.dI d) y=some o)(J:RdD H a d)(r:bH K H O y u):mT H a u (o.map Sc.v):=by
 cases d with
 |k kvs =>
  cases y<;>try (cases e;done)
  rename_i i;have z:=r.int;subst z;have D:=JZ e;rw[<- D,<- zz];exact .inl ⟨_,Sum.inl i,J.rd,rfl,rfl⟩
 |p ns=>cases y<;>cases e
 |t kvs =>
  cases y<;>try (cases e;done)
  rename_i xs;have e:(bc xs).map _=some o:=e;rw[mu]at e;obtain⟨ns,z,D⟩:=e;obtain⟨b,rfl,U⟩:=vL z r;rw[<- D,<- zA];exact .inr ⟨_,_,b,J.rd,rfl,U,rfl⟩
def zB(kvs)(k)(s):gJ (gZ kvs) (Sum.inl k:Key) s.v=gZ (cN kvs k s):=by
 have z:((gZ kvs).any λD=>decide (D.1=(Sum.inl k:Key)))=kvs.any λp=>decide (p.1=k):=by
  unfold gZ;rw[List.any_map]
  congr 1
  funext p
  simp
 unfold gJ cN;rw[z];split
 .unfold gZ;rw[J4,J4];refine Lj λp _=>?_
  by_cases h:p.1=k<;>simp[h]
 .unfold gZ;rw[Kd]
  rfl
def zC(kvs)(k)(s):gJ (jJ kvs) (k.map Sum.inl:List Key) s.v=jJ (cN kvs k s):=by
 have D:∀q,_ ↔ q=k:=λq=>⟨mw,λe=>by rw[e]⟩
 have J:((jJ kvs).any λU=>decide (U.1=(k.map Sum.inl:List Key)))=kvs.any λp=>decide (p.1=k):=by
  unfold jJ;rw[List.any_map]
  congr 1
  funext p
  simp_all
 unfold gJ cN;rw[J];split
 .unfold jJ;rw[J4,J4];refine Lj λp _=>?_
  by_cases h:p.1=k
  .have h2:=(D p.1).mpr h;simp[h]
  .have h2:¬ _=k.map Sum.inl:=λz=>h ((D p.1).mp z)
   simp[h,h2]
 .unfold jJ;rw[Kd]
  rfl
def vM{y:PV}{s:Sc}{a:Addr}{u:V}(e:qh d y s=some d')(J:H a=some (iT d))(r:bH K H O y u):mU H a u s.v (upd H a (iT d')):=by
 cases d with
 |p ns=>cases y<;>cases e
 |k kvs =>
  cases y<;>try (cases e;done)
  rename_i i;have D:=r.int;subst D;have z:(if kvs.length<10000 then some (DD.k (cN kvs i s))else none)=some d':=e;split at z
  .rename_i U;cases z;show mU H a (.int i) s.v (upd H a (.dK (gZ (cN kvs i s))));rw[<- zB];exact mU.k (k:=Sum.inl i) J (by unfold gZ;rw[nA,Kr];omega)
  .cases z
 |t kvs =>
  cases y<;>try (cases e;done)
  rename_i xs;have e:((bc xs).bind λk=>if kvs.length<10000 then some (DD.t (cN kvs k s))else none)=some d':=e;rw[ft]at e;obtain⟨ns,D,z⟩:=e;obtain⟨b,rfl,Y⟩:=vL D r;split at z
  .rename_i U;cases z;show mU H a (.ref b) s.v (upd H a (.dT (jJ (cN kvs ns s))));rw[<- zC];exact mU.t J Y (by unfold jJ;rw[nA,Kr];omega)
  .cases z
end
section
variable{X:Cx}{pins:List (Addr×Obj)}{σ:St}{H:Hp}{s:Shared}
def vN(I:Inv X pins σ H s)(h:RdD H a d):(a==sysModules)=false/\∃es ep,Dv.Ents s.heap a es ep/\aH ((dSc d).map Sc.v) (es.toList.map (·.val)):=by
 cases d with
 |k kvs =>
  obtain⟨_,hs,vs,r,o,es,ep,ho,hx,hd,_,z,_⟩:=jr I.hok h.rd;refine⟨hs,es,ep,⟨o,ho,hx,hd⟩,?_⟩;have gen:∀kvs vs l,KV (gZ kvs) vs->Pairs (bF X.prog X.w) l vs->aH ((kvs.map (·.2)).map Sc.v) (l.map (·.val)):=by
   intro kvs
   induction kvs with
   |nil =>
    intro vs l r p;cases r;cases p;exact .nil
   |cons q kvs ih =>
    intro vs l r p;cases r with
    |cons D J =>
     cases p with
     |cons p1 p2 p3=>exact .cons (by have h:=D.2;rw[<- p2]at h;exact h) (ih _ _ J p3)
  exact gen kvs vs es.toList r z
 |p ns=>exact absurd h.2 il
 |t kvs =>
  obtain⟨_,hs,xs,r,o,es,ep,ho,hx,hd,z,_⟩:=lI I.hok h.rd;refine⟨hs,es,ep,⟨o,ho,hx,hd⟩,?_⟩;rw[z,J4];have gen:∀kvs xs,KT H (jJ kvs) xs->aH ((kvs.map (·.2)).map Sc.v) (xs.map (·.2.2)):=by
   intro kvs
   induction kvs with
   |nil =>
    intro xs r;cases r;exact .nil
   |cons q kvs ih =>
    intro xs r;cases r with
    |cons D J=>exact .cons D.2.2 (ih _ J)
  exact gen kvs xs r
noncomputable def HI(p a:Addr):HO:=.ext λh=>h.IsValuesView p a
def uq{es:Array DictEntry}(h:ItemsOf (λi v=>∃e,es[i]?=some e/\v=e.val) acc es.size):acc.toList=es.toList.map (·.val):=by
 refine Ni λi=>?_
 rw[Ka,Kw,Kw];cases e:acc[i]? with
 |none =>
  have:acc.size<=i:=by simpa using e
  rw[LQ (by rw[<- h.1];exact this)]
  rfl
 |some v =>
  obtain⟨q,z,rfl⟩:=h.2 i v e;rw[z]
  rfl
end
section
variable{X:Cx}{T:Tab}{k:Nat}{cal:Cal}
def Cm (D:attributeBase o "values" X.env (eval o X.env)=eval o X.env) (J:(ap.endLine==cp.line)=true) (ho:PE X o td) :
  PE X (.Call (.Attribute o "values" ap) [] [] cp) (λσ H Q=>td σ H λx H1=>∃a d,x=.ref a/\RdD H1 a d/\∀p,H1 p=none->Q (.ref p) (upd H1 p (HI p a))):=by
 intro pins s σ H Q I h;refine wpAny_Call_method D rfl J PySem.F.plainAttrs_dict PySem.F.slot_dict_values PySem.F.type_dict_values (thn (ho pins s σ H _ I h) λu U ⟨x,H1,z,Y,a,d,ex,hd,Z⟩=>?_);subst ex;obtain rfl:u=Value.ref a:=Y;obtain⟨t1,t2,_⟩:=tN z (qp hd);refine⟨t1,t2,?_⟩;refine LP rfl (PyProof.Rows.evalArgs_empty ?_);obtain⟨hs,es,ep,x,_⟩:=vN z hd;refine Dv.values_of hs x ⟨.ref U.heap.objs.size,_,z.laid (λb o e=>gx _ e) (lC _) ?_,rfl,Z _ (z.hok.fresh (lC _))⟩;exact⟨⟨_,pe _ rfl,rfl,rfl⟩,⟨_,pe _ rfl⟩,λh1 h2 ⟨o,ho,r⟩ k=>⟨o,k o ho,r⟩⟩
def ur (hc:X.calm=true):bZ X (.type "list") (λus H Q=>∃p a d,us=[.ref p]/\H p=some (HI p a)/\RdD H a d/\(dSc d).length<=10000/\∀l,H l=none->Q (.ref l) (upd H l (.lst ((dSc d).map Sc.v)))):=by
 intro pins s σ H xs us Q I r h;refine aD λZq J=>?_
 obtain⟨p,a,d,rfl,U,Y,hl,q⟩:=h;obtain⟨u,rfl,Z⟩:=eO r;cases Z;obtain⟨_,es,ep,x,vs⟩:=vN I Y;have hv:=(show bK X.prog X.w H s.heap p _ from I.hok p _ U).1;have z:es.size=(dSc d).length:=by have:=vs.length;simp at this;omega
 refine J ?_;refine PySem.W.kdl_call (Dv.src) (I.ok.hd hc) ⟨hv,x⟩ (by rw[z,Kr];omega) λh' tk D c kp e it=>?_
 refine⟨.ref s.heap.objs.size,_,I.laid kp (lC _) (o:=.lst _) ⟨by rw[nA,Kr];omega,D.toList,c,?_,by rw[Array.toArray_toList];exact e⟩,rfl,q _ (I.hok.fresh (lC _))⟩;rw[uq it];exact vs
def Cn{P:Program}{w:World}{n:Int}{v:Value}(h:(bF P w).is (Sum.inl n) v=true):∃t,v=.int n t:=by
 rw[tm]at h;cases v<;>simp[lG,Value.isInt]at h
 subst h;exact⟨_,rfl⟩
def qx (hc:X.calm=true):bZ X (.builtin "sorted") (RBF X.K (aA .sortedKeys)):=by
 intro pins s σ H xs us Q I r h;obtain⟨O,vs,ys,hO,rs,e,q⟩:=h;obtain⟨x,rfl⟩:=cY e (.inl rfl);obtain⟨u,rfl,rx⟩:=p1 rs;have hd:∃kvs,x=.dI (.k kvs)/\kvs.length<64/\ys=(sortI (kvs.map (·.1))).map .int:=by
  simp only[aA,cb]at e;split at e
  .split at e
   .rename_i kvs hl;cases e;exact⟨kvs,rfl,hl,rfl⟩
   .cases e
  .cases e
 obtain⟨kvs,rfl,Y,rfl⟩:=hd;obtain⟨a,rfl,ha⟩:=rx.dI;obtain⟨u,rfl,ru⟩:=eO r;cases ru;obtain⟨hz,hs,U,J,dd⟩:=jr I.hok (show Rd H a (.dK (gZ kvs))from ha.rd);obtain⟨ep,Z⟩:=dd.dictAt;have z:U.length=kvs.length:=by rw[<- J.length];unfold gZ;rw[nA]
 have D:U.map (·.1)=kvs.map λp=>(Sum.inl p.1:Key):=by
  rw[<- J.keys];unfold gZ;rw[J4]
  rfl
 refine Srt.iQ (ks:=kvs.map (·.1)) (by rw[nA];exact Y) (λQ' ao=>?_) λh1 h' tk d' out c k1 k2 e hi=>?_
 .refine PySem.W.kdu_collect (PySem.W.kdl_dict (knd:=bF X.prog X.w) (kvs:=U) (ep:=ep) hs) (by simpa using I.ok.hd hc) Z (by rw[z,Kr];omega) λh' tk a8 kp it=>?_
  refine ao h' tk s.drawn _ (kvs.map (·.1)) kp (.refl _) (St.ju ⟨by rw[it.1,z,nA],λj v ej=>?_⟩);obtain⟨kk,xx,e1,e2⟩:=it.2 j v ej;have e3:(U.map (·.1))[j]?=some kk:=by rw[Ka,e1];rfl
  rw[D,Ka,mu]at e3;obtain⟨p,e4,rfl⟩:=e3;rw[KC,Ka,e4];exact Cn e2
 .have I1:Inv X pins σ H { s with heap:=h1,toks:=tk,drawn:=d' }:=I.keptD k1;have I2:Inv X pins σ (upd H h1.objs.size (.lst ((Srt.sortI (kvs.map (·.1))).map V.int))) { s with heap:=h',toks:=tk,drawn:=d' }:=
   I1.laid (t':=tk) k2 (lC _) (show bK X.prog X.w _ h' _ (.lst _)from⟨by rw[nA,Srt.sortI_len,nA,Kr];omega,out,c,pg hi,e⟩)
  refine⟨.ref h1.objs.size,_,I2,rfl,q _ _ (I1.hok.fresh (lC _)) ?_⟩;rw[du];exact .of_ints _
end
def qy:bootBuiltins "len"=some (.builtin "len"):=by decide +kernel
def nJ:bootBuiltins "tuple"=some (.type "tuple"):=by decide +kernel
def qz:bootBuiltins "list"=some (.type "list"):=by decide +kernel
def lq:bootBuiltins "sorted"=some (.builtin "sorted"):=by decide +kernel
def E6:bootBuiltins "any"=some (.builtin "any"):=by decide +kernel
def E7:bootBuiltins "all"=some (.builtin "all"):=by decide +kernel
def E8:bootBuiltins "max"=some (.builtin "max"):=by decide +kernel
def E9:bootBuiltins "min"=some (.builtin "min"):=by decide +kernel
def E_:bootBuiltins "int"=some (.type "int"):=by decide +kernel
def Co:bootBuiltins "bool"=some (.type "bool"):=by decide +kernel
def qA:bootBuiltins "set"=some (.type "set"):=by decide +kernel
def oS:bootBuiltins "isinstance"=some (.builtin "isinstance"):=by decide +kernel
section
variable{X:Cx}{T:Tab}{k:Nat}{cal:Cal}
def Fa {p p2 pos:Pos} (g:Gf X T k cal) (J:dl f=some c) (hg:glB X.env.scope "isinstance"=true) (ht:t=(c:Str)) (U:glB X.env.scope t=true)
  (Y:bootBuiltins c=some (.type c)) (Z:X.mg c=none) (hn:(c:Str) ≠ "__name__") (hd:((c:Str)==("__debug__":Str))=false) (h:PE X e (tE X.K cal m)) (hs:ah e=true):PE X (.Call (.Name "isinstance" p) [e,.Name t p2] [] pos) (tE X.K cal (.blt f [m])):=by
 subst ht;refine(fh (EV J) (dq hg) (g.blt "isinstance" (by decide)) oS (aM h (aM (Bi (v:=.ty c) (dq U) Z Y rfl hn hd) bL rfl) (aU hs _ _)) (by decide) (by decide) (aU hs _ _) rfl).imp λσ H Q q=>?_
 obtain⟨B,E,O,W,v,st,z,q⟩:=q;rw[ev,ft]at z;obtain⟨vs,z,D⟩:=z;obtain⟨w,rfl,e3⟩:=sk z;have e5:isD w=false/\v=.bl (isT f w):=by
  cases hd:isD w with
  |true=>cases f<;>simp[dl,reduceCtorEq]at J<;>(simp only[aA,cb,iI,jo,hd]at D;cases D)
  |false=>cases f<;>simp[dl,reduceCtorEq]at J<;>(simp[aA,cb,iI,jo,hd,J6,KZ,pd]at D;exact⟨rfl,D.symm⟩)
 obtain⟨e5,rfl⟩:=e5;refine⟨B,E,O,W,w,st,e3,λu H1 s1 g1=>⟨O,w,u,rfl,e5,g1.1,q _ H1 s1 (.of (eG _ _))⟩⟩
def sm {p p2 pos pos2:Pos} (g:Gf X T k cal) (hx:x=("sorted":Str)) (hy:y=("set":Str)) (hg:glB X.env.scope x=true) (J:glB X.env.scope y=true) (h:PE X e (tE X.K cal m)) (hs:ah e=true):PE X (.Call (.Name x p) [.Call (.Name y p2) [e] [] pos2] [] pos) (tF X.K cal (.blt .sortedSet [m])):=by
 subst hx hy;refine(fh (si g.calm) (dq hg) (g.blt "sorted" (by decide)) lq (aM (c_ (vI g.calm) (dq J) (g.blt "set" (by decide)) qA (aM h bL (aU hs _ _)) (by decide) (by decide) (aU hs _ _) rfl) bL rfl) (by decide) (by decide) rfl rfl).imp λσ H Q q=>?_
 refine aD λZq kq=>?_
 obtain⟨B,E,O,W,xs,st,D,q⟩:=q;rw[ev,ft]at D;obtain⟨vs,D,Y⟩:=D;obtain⟨w,rfl,e3⟩:=sk D;simp only[aA,cb,nj,iI,jo,ft]at Y;obtain⟨ys,e4,ns,e5,U⟩:=Y;refine kq ?_;split at U
 .rename_i hc;cases U;refine⟨B,E,O,W,w,st,e3,λu H1 Z g1=>⟨O,w,u,ns,rfl,g1.1,by simp[e4,e5],hc.1,λl hl=>⟨l,_,rfl,ay,?_,λp' z=>?_⟩⟩⟩
  .rw[um];exact hc.2
  .rw[Cf];refine q p' _ _ ((Z.trans (az hl _)).trans (az z _)) (Z.free ((az hl _).free z)) ay (.of_ints _)
 .cases U
def zD {p p2 pos pos2:Pos} (g:Gf X T k cal) (hx:x=("len":Str)) (Y:y=("set":Str)) (Z:glB X.env.scope x=true) (D:glB X.env.scope y=true) (h:PE X e (tE X.K cal m)) (hs:ah e=true):PE X (.Call (.Name x p) [.Call (.Name y p2) [e] [] pos2] [] pos) (tE X.K cal (.blt .lenSet [m])):=by
 subst hx Y;refine(fh qg (dq Z) (g.blt "len" (by decide)) qy (aM (c_ (vI g.calm) (dq D) (g.blt "set" (by decide)) qA (aM h bL (aU hs _ _)) (by decide) (by decide) (aU hs _ _) rfl) bL rfl) (by decide) (by decide) rfl rfl).imp λσ H Q q=>?_
 refine aD λZq kq=>?_
 obtain⟨B,E,O,W,v,st,z,q⟩:=q;rw[ev,ft]at z;obtain⟨vs,z,U⟩:=z;obtain⟨w,rfl,e3⟩:=sk z;simp only[aA,cb,nj,iI,jo,ft]at U;obtain⟨ys,e4,ns,e5,J⟩:=U;refine kq ?_;split at J
 .rename_i hc;cases J;refine⟨B,E,O,W,w,st,e3,λu H1 s1 g1=>⟨O,w,u,ns,rfl,g1.1,by simp[e4,e5],hc,λl hl=>⟨l,_,rfl,ay,?_⟩⟩⟩;rw[um];exact q _ _ (s1.trans (az hl _)) (.of (cf _ _))
 .cases J
def sn {p p2 p3 q2 q3 q4 pos:Pos} (g:Gf X T k cal) (hx:x=("len":Str)) (hy:y=("set":Str)) (hz:z=("set":Str)) (hg:glB X.env.scope x=true) (Z:glB X.env.scope y=true) (ao:glB X.env.scope z=true) (ha:PE X a (tE X.K cal m1)) (hb:PE X b (tE X.K cal m2)) (D:ah a=true) (J:ah b=true) :
  PE X (.Call (.Name x p) [.BinOp (.Call (.Name y p2) [a] [] q2) .Sub (.Call (.Name z p3) [b] [] q3) q4] [] pos) (tE X.K cal (.blt .lenSetSub [m1,m2])):=by
 subst hx hy hz;refine(fh rS (dq hg) (g.blt "len" (by decide)) qy (aM (uZ wR (c_ (vI g.calm) (dq Z) (g.blt "set" (by decide)) qA (aM ha bL (aU D _ _)) (by decide) (by decide) (aU D _ _) rfl) (c_ (vI g.calm) (dq ao) (g.blt "set" (by decide)) qA (aM hb bL (aU J _ _)) (by decide) (by decide) (aU J _ _) rfl)) bL rfl) (by decide) (by decide) rfl rfl).imp λσ H Q q=>?_
 refine aD λZq kq=>?_
 obtain⟨B,E,O,W,v,st,U,q⟩:=q;rw[ev,ft]at U;obtain⟨vs,U,e2⟩:=U;simp only[evs,ft,mu]at U;obtain⟨v1,e3,w1,⟨v2,e4,w2,e5,rfl⟩,rfl⟩:=U;cases e5;simp only[aA,cb,nj,iI,jo,ft]at e2;obtain⟨xs,f1,ns,f2,ys,f3,ms,f4,f5⟩:=e2;refine kq ?_;split at f5
 .rename_i hc;cases f5;refine⟨B,E,O,W,v1,st,e3,λu H1 s1 g1=>⟨O,v1,u,ns,rfl,g1.1,by simp[f1,f2],hc.1,λl hl=>?_⟩⟩;refine⟨B,E,O,W,v2,st.mono (s1.trans (az hl _)),e4,λu2 H2 s2 g2=>⟨O,v2,u2,ms,rfl,g2.1,by simp[f3,f4],hc.2.1,λl2 Y=>?_⟩⟩;refine⟨l,l2,_,_,rfl,rfl,(az Y _) l _ (s2 l _ ay),ay,by rw[um];exact hc.2.2,λp' a0=>⟨p',_,rfl,ay,?_⟩⟩;have e6:((St.dd ns.reverse).filter λk=>!decide (k∈St.dd ms.reverse)).length=((dd ns).filter λn=>!decide (n∈ms)).length:=by
   rw[pw];have e7:(λk=>!decide (k∈St.dd ms.reverse))=λn=>!decide (n∈ms):=by
    funext k
    congr 1
    rw[Np,St.gp,Nu]
   rw[e7];refine Perm.length_eq (Perm.filter _ ((KW (St.dd_nodup _) (St.dd_nodup _)).mpr λa=>?_));rw[St.gp,St.gp,Nu]
  rw[e6];exact q _ _ ((s1.trans (az hl _)).trans (s2.trans ((az Y _).trans (az a0 _)))) (.of (cf _ _))
 .cases f5
theorem sr :∀{kvs}{ks}{vs},r9 kvs ks vs=true->PPs X kpos ks vs (kvs.map λp=>(tC (.str p.1),tC (.str p.2)))/\ks.all (·.isSome)=true/\ks.length=vs.length/\ks.length=kvs.length
 | [],[],[],_=>⟨BF,rfl,rfl,rfl⟩
 |p::r,k::ks,v::vs,h=>by
  obtain⟨a,z⟩:=gQ.mp h;obtain⟨h1,h2⟩:=gQ.mp a;obtain⟨D,J,U,Y⟩:=sr (kpos:=kpos) z;cases k with
  |none=>cases h1
  |some k =>
   obtain⟨j,kp,rfl⟩:=vB (eq_of_beq h1);obtain⟨Z,vp,rfl⟩:=vB (eq_of_beq h2);exact⟨yk tq tq D,by rw[all_cons,J];rfl,by rw[length_cons,length_cons,U],by rw[length_cons,length_cons,Y]⟩
 | [],_::_,_,h=>by cases h
 | [],[],_::_,h=>by cases h
 | _::_,[],_,h=>by cases h
 | _::_,_::_,[],h=>by cases h
theorem nK{σ:St}:∀{kvs:List (Str×Str)}{H}{Q},Q (kvs.map λp=>(V.str p.1,V.str p.2)) H->p9 (kvs.map λp=>(tC (.str p.1),tC (.str p.2))) σ H Q
 | [],_,_,h=>h
 |p::r,H,Q,h=>nK (kvs:=r) (Q:=λps z=>Q ((V.str p.1,V.str p.2)::ps) z) h
def Fb(g:Gf X T k cal)(hd:r9 kvs ks vs=true)(hl:kvs.length<=15)(h0:kvs.isEmpty=false)(hk:PE X i (tE X.K cal m))(hs:b9 i=true):PE X (.Subscript (.Dict ks vs dp) i pos) (tE X.K cal (.disp kvs m)):=by
 have hu:X.A.units+1<cLine:=by have:=g.units;omega
 obtain⟨q1,q2,q3,q4⟩:=sr (X:=X) (kpos:=dp) hd;have hn:ks≠[]:=λz=>by
  grind
 refine(u_ hu (BG q1 q2 q3 hn (by omega)) hk (by cases i<;>first|(intro _ _;rfl)|(simp[b9]at hs))).imp λσ H Q q=>?_
 obtain⟨B,E,O,W,v,st,D,q⟩:=q;rw[ev,ft]at D;obtain⟨w,D,U⟩:=D;cases w with
 |str x =>
  have J:(jn (iO [] (po kvs)) (Sum.inr x)).bind (λv=>match v with|.str y=>some (PV.str y)|_=>none)=some v:=U;rw[ft]at J;obtain⟨u,J,Y⟩:=J;cases u with
  |str y =>
   cases Y;intro p hp;refine nK ⟨ay,po kvs,by unfold po;rw[J4];rfl,by unfold po;rw[nA];exact hl,?_⟩;have Z:aj H (upd (upd H p (.dK [])) p (.dK (iO [] (po kvs)))):=λb o e=>by
    have hb:b≠p:=λz=>by rw[z,hp]at e;cases e
    rw[aZ hb,aZ hb];exact e
   refine⟨B,E,O,W,_,st.mono Z,D,λuy H2 s2 g2=>?_⟩;have ey:=g2.1.str;subst ey;exact⟨p,V.str y,rfl,.inl ⟨_,Sum.inr x,.inl (s2 _ _ ay),rfl,J.symm⟩,q _ H2 (Z.trans s2) (.of (my _ _))⟩
  | _=>cases Y
 | _=>cases U
def Fc (g:Gf X T k cal) (Z:glB X.env.scope ("len":Str)=true) (hn:aX X.N X.env.scope i y=true):PE X (.Call (.Name ("len":Str) p) [.Name y yp] [] pos) (tE X.K cal (.lenP i)):=by
 refine(fh ij (dq Z) (g.blt "len" (by decide)) qy (aM (cg hn) bL rfl) (by decide) (by decide) rfl rfl).imp λσ H Q q=>?_
 refine aD λZq kq=>?_
 obtain⟨B,E,O,W,v,st,z,q⟩:=q;rw[ev]at z;have fin:∀ns a,H a=some (iT (.p ns))->v=.int ns.length->σ[i]?=some (some (.ref a))->∃u,σ[i]?=some (some u)/\∃a D,[u]=[V.ref a]/\(SqL X.K H a D\/SqT X.K H a D)/\Q (.int D.length) H:=λns a J hv U=>by
  refine⟨_,U,a,ns.map V.int,rfl,.inl (SqL.of J),?_⟩;rw[nA];subst hv;exact q _ H (aj.refl H) (.of (cf _ _))
 refine kq ?_;cases Y:(W[i]?).join with
 |none=>rw[Y]at z;cases z
 |some m =>
  rw[Y]at z;obtain⟨u,U,so⟩:=aT st Y;cases m with
  |ownD d|mutD d =>
   cases d with
   |p ns =>
    cases z;obtain⟨a,rfl,J,_⟩:=so;exact fin ns a J rfl U
   | _=>cases z
  | _=>cases z
def su{cond elt:ME}:∀W v,ev cal (.comp z src js cond elt) W=some v->∃xs,v=.lst xs:=λW v hv=>by
 rw[ev,ft]at hv;obtain⟨vs,_,hv⟩:=hv;rw[ft]at hv;obtain⟨xs,_,hv⟩:=hv;split at hv
 .simp at hv;obtain⟨ys,_,rfl⟩:=hv;exact⟨_,rfl⟩
 .cases hv
def dQ(z:f=.listOf\/f=.sorted\/f=.sortedSet\/f=.sortedKeys\/f=.valuesOf) :∀W v,ev cal (.blt f ms) W=some v->∃xs,v=.lst xs:=λW v hv=>by
 rw[ev,ft]at hv;obtain⟨vs,_,hv⟩:=hv;rcases z with rfl|rfl|rfl|rfl|rfl
 .obtain⟨x,rfl⟩:=cY hv (.inl rfl);simp only[aA,cb,nj,iI,jo,mu]at hv;obtain⟨ys,_,rfl⟩:=hv;exact⟨_,rfl⟩
 .obtain⟨x,rfl⟩:=cY hv (.inl rfl);simp only[aA,cb,nj,iI,jo,ft]at hv;obtain⟨ys,_,hv⟩:=hv;unfold iS at hv;split at hv
  .split at hv
   .cases hv;exact⟨_,rfl⟩
   .simp only[mu]at hv;obtain⟨D,_,rfl⟩:=hv;exact⟨_,rfl⟩
  .cases hv
 .obtain⟨x,rfl⟩:=cY hv (.inr (.inr (.inl rfl)));simp only[aA,cb,nj,iI,jo,ft]at hv;obtain⟨ys,_,ns,_,hv⟩:=hv;split at hv
  .cases hv;exact⟨_,rfl⟩
  .cases hv
 .obtain⟨x,rfl⟩:=cY hv (.inl rfl);simp only[aA,cb]at hv;split at hv
  .split at hv
   .cases hv;exact⟨_,rfl⟩
   .cases hv
  .cases hv
 .obtain⟨x,rfl⟩:=cY hv (.inr (.inr (.inr (.inr rfl))));simp only[aA,cb]at hv;split at hv
  .grind
  .cases hv
def qB{cond:ME}(h:r6 f cond ifs=true)(hc:∀c,f c=true->PT X c (tT X.K cal cond)):PF X ifs (tT X.K cal cond):=by
 match ifs,h with
 | [],h =>
  have e:cond=.cst (.bl true):=by
   simp[r6]at h;split at h
   .rfl
   .cases h
  subst e;intro pins s σ H Q I q;refine aD λJ D=>?_
  obtain⟨B,E,O,W,b,st,z,q⟩:=q;simp only[evB,ev,bind_some,bb,pd]at z;subst z;refine D ?_;exact Eb pins s σ H Q I (q H (aj.refl H))
 | [c],h=>exact Ec (hc c h)
def lr(Z:tup=true->∃ts j tp,tg=.Tuple ts j tp)(g:Gf X T k cal)(h:nq X.env.scope tup (λxs=>chks T src X.N X.env.scope xs) k' it=true)(hs:∀xs,chks T src X.N X.env.scope xs=true->PA X xs (tEs X.K cal src)/\xs.all ah=true/\src.length=xs.length)
  (h1:∀m x,src=[m]->chks T src X.N X.env.scope [x]=true->PE X x (tE X.K cal m)):PI X tg it (tW X.K cal k' src)/\fq it=true:=by
 cases k' with
 |seq =>
  replace h:=gQ.mp h
  obtain⟨z,h⟩:=h;refine⟨?_,z⟩;obtain⟨_,_,D⟩:=hs _ h;obtain⟨m,rfl⟩:=LX.mp D;cases J:aI m with
  |false=>exact Hu J (h1 m it rfl h)
  |true =>
   have q1:=(b_ h).1.1;obtain⟨i,rfl⟩:=nt J;obtain⟨x,p,rfl,q⟩:=kh q1;exact Hv q
 |rng =>
  replace h:=ak h
  obtain⟨c,e1,h⟩:=h;obtain⟨p,pos,rfl⟩:=fT e1;simp only[g4,J0,Nq]at h;obtain⟨⟨⟨hx,Y⟩,U⟩,z⟩:=h;obtain⟨q,a0,D⟩:=hs _ U;exact⟨Ch g hx Y q z a0 D,rfl⟩
 |enm =>
  replace h:=ak h
  obtain⟨⟨x,a⟩,e1,h⟩:=h;obtain⟨p,pos,rfl⟩:=im e1;simp only[g4,J0]at h;obtain⟨⟨⟨⟨ht,hx⟩,Y⟩,U⟩,z⟩:=h;obtain⟨ts,j,tp,rfl⟩:=Z ht;obtain⟨_,_,D⟩:=hs _ U;refine⟨?_,rfl⟩;obtain⟨m,rfl⟩:=LX.mp D;cases J:aI m with
  |false=>exact Hw g hx Y z J (h1 m a rfl U)
  |true =>
   have q1:=(b_ U).1.1;obtain⟨i,rfl⟩:=nt J;obtain⟨y,p,rfl,q⟩:=kh q1;exact EZ g hx Y q
 |rev=>cases h
def ut(K)(F)(s:Sc):Rep K F s.pv s.v:=by cases s<;>simp[Sc.pv,Sc.v,Rep]
def uu{K:Nx}(e:sc? x=some s)(r:bH K H O x u):u=s.v:=by
 cases x<;>simp[sc?,pd,reduceCtorEq]at e<;>subst e
 .exact r.non
 .exact r.bl
 .exact r.int
 .exact r.str
def base_of(z:pp o=true):attributeBase o n X.env (eval o X.env)=eval o X.env:=by
 cases o<;>first|rfl|(simp at z;done)|skip
 rename_i fn args kws pos;cases args with
 |nil=>simp[pp]at z
 |cons _ _=>cases fn<;>rfl
theorem vO(K)(F):∀ss:List Sc,Reps K F (ss.map Sc.pv) (ss.map Sc.v)
 | []=>rfl
 |s::ss=>⟨_,_,rfl,ut K F s,vO K F ss⟩
def zE (g:Gf X T k cal) (hx:x=("list":Str)) (hg:glB X.env.scope x=true) (h:PE X o (tE X.K cal m)) (hb:attributeBase o "values" X.env (eval o X.env)=eval o X.env) (D:(ap.endLine==cp.line)=true) :
  PE X (.Call (.Name x p) [.Call (.Attribute o "values" ap) [] [] cp] [] pos) (tF X.K cal (.blt .valuesOf [m])):=by
 subst hx;refine(c_ (ur g.calm) (dq hg) (g.blt "list" (by decide)) qz (aM (Cm hb D h) bL rfl) (by decide) (by decide) rfl rfl).imp λσ H Q q=>?_
 refine aD λZq kq=>?_
 obtain⟨B,E,O,W,xs,st,U,q⟩:=q;rw[ev,ft]at U;obtain⟨vs,U,J⟩:=U;obtain⟨w,rfl,e3⟩:=sk U;have hd:∃d,w=.dI d/\(lL d).length<=10000/\xs=lL d:=by
  simp[aA,cb]at J;split at J
  .split at J
   .rename_i d D
    simp_all
   .cases J
  .cases J
 obtain⟨d,rfl,hz,rfl⟩:=hd;have Y:(dSc d).length<=10000:=by unfold lL at hz;rw[nA]at hz;exact hz
 refine kq ?_;refine⟨B,E,O,W,_,st,e3,λu H1 Z g1=>?_⟩;obtain⟨a,rfl,ha⟩:=g1.1.dI;refine⟨a,d,rfl,ha,λp' z=>⟨p',a,d,rfl,ay,aj.rdD (az z _) ha,Y,λl D=>?_⟩⟩;refine q l _ _ ((Z.trans (az z _)).trans (az D _)) (Z.free ((az z _).free D)) ay ?_;exact vO _ _ _
def Cq{α:Type}:∀{es:List α},es.length=2->∃m z,es=[m,z]
 | [_,_],_=>⟨_,_,rfl⟩
def Fd {sc:Scope}{f:List Expr->Bool}{n:Nat}{args:List Expr} (D:mn sc f n .lenSetSub args=true):∃J y z U p2 Y p3 Z q4,args=[.BinOp (.Call (.Name J p2) [y] [] Y) .Sub (.Call (.Name z p3) [U] [] Z) q4]/\J="set"/\glB sc J=true/\z="set"/\glB sc z=true/\f [y,U]=true/\n=2:=by
 refine aD λZq kq=>?_
 obtain⟨a,e1,D⟩:=ak D;obtain⟨⟨l,o,r,q4⟩,e2,D⟩:=ak D;obtain⟨⟨J,y⟩,e3,D⟩:=ak D;obtain⟨⟨z,U⟩,e4,D⟩:=ak D;simp only[g4,J0]at D;obtain⟨⟨⟨⟨⟨⟨a0,a1⟩,a2⟩,a3⟩,a4⟩,a5⟩,a6⟩:=D;obtain⟨p2,Y,e3⟩:=im e3;obtain⟨p3,Z,e4⟩:=im e4;refine kq ?_;exact⟨J,y,z,U,p2,Y,p3,Z,q4,by rw[cV e1,qj e2,e3,e4,a0],a1,a2,a3,a4,a5,a6⟩
def Cr {sc:Scope}{f:List Expr->Bool}{n:Nat}{args:List Expr} (z:mn sc f n .valuesOf args=true):∃y ap cp,args=[.Call (.Attribute y "values" ap) [] [] cp]/\pp y=true/\ap.endLine=cp.line/\f [y]=true/\n=1:=by
 refine aD λZq D=>?_
 obtain⟨a,J,z⟩:=ak z;obtain⟨⟨y,mm,ap,as,cp⟩,U,z⟩:=ak z;simp only[g4,J0,Lz]at z;obtain⟨⟨⟨⟨⟨Y,Z⟩,h3⟩,h4⟩,h5⟩,h6⟩:=z;refine D ?_;exact⟨y,ap,cp,by rw[cV J,ud U,Y,Z],h3,h4,h5,h6⟩
def sw{b:Blt}{es:List ME}{x:Str}{args:List Expr}{p pos:Pos}(g:Gf X T k cal)(hx:x=(rY b:Str))(Y:glB X.env.scope x=true)(D:mn X.env.scope (λxs=>chks T es X.N X.env.scope xs) es.length b args=true)
  (hs:∀xs,chks T es X.N X.env.scope xs=true->PA X xs (tEs X.K cal es)/\xs.all ah=true/\es.length=xs.length)
  (h1:∀m x,es=[m]->chks T es X.N X.env.scope [x]=true->PE X x (tE X.K cal m))
  (b3:∀m m' x x',es=[m,m']->chks T es X.N X.env.scope [x,x']=true->PE X x (tE X.K cal m)/\PE X x' (tE X.K cal m')) :
  (iU (.blt b es)=true->PE X (.Call (.Name x p) args [] pos) (tF X.K cal (.blt b es)))/\PE X (.Call (.Name x p) args [] pos) (tE X.K cal (.blt b es)):=by
 subst hx;have inst:∀{b:Blt}{args:List Expr} (c:String),glB X.env.scope (rY b)=true->dl b=some c->rY b="isinstance"->bootBuiltins c=some (.type c)->X.mg c=none->(c:Str) ≠ "__name__"->((c:Str)==("__debug__":Str))=false->rZ X.env.scope (λxs=>chks T es X.N X.env.scope xs) es.length c args=true ->
   PE X (.Call (.Name (rY b) p) args [] pos) (tE X.K cal (.blt b es)):=λ{b args} c Y hc hb b4 hm hn hd D=>by
  replace D:=ak D
  obtain⟨⟨y,t0⟩,e1,D⟩:=D
  replace D:=ak D
  obtain⟨⟨t,p2⟩,e2,D⟩:=D;obtain rfl:=ml e1;obtain rfl:=eF (e:=t0) e2;simp only[g4,J0]at D;obtain⟨⟨⟨h2,h3⟩,h4⟩,h5⟩:=D;obtain⟨m,rfl⟩:=LX.mp h5;rw[hb]at Y ⊢;exact Fa g hc Y h2 h3 b4 hm hn hd (h1 m y rfl h4) (b_ h4).1.2
 have c1:∀{nm:Str},ug X.env.scope (λxs=>chks T es X.N X.env.scope xs) es.length nm args=true->∃m y gg p2 pos2,es=[m]/\args=[.Call (.Name gg p2) [y] [] pos2]/\gg=nm/\glB X.env.scope gg=true/\PE X y (tE X.K cal m)/\ah y=true:=λ{nm} D=>by
  replace D:=ak D
  obtain⟨a,e1,D⟩:=D
  replace D:=ak D
  obtain⟨⟨gg,y⟩,e2,D⟩:=D;obtain⟨p2,pos2,rfl⟩:=im e2;simp only[g4,J0]at D;obtain⟨⟨⟨h2,h3⟩,h4⟩,h5⟩:=D;obtain⟨m,rfl⟩:=LX.mp h5;exact⟨m,y,gg,p2,pos2,rfl,cV e1,h2,h3,h1 m y rfl h4,(b_ h4).1.2⟩
 have plain:∀{args:List Expr} (n:Nat),0<n->(some n==some es.length&&chks T es X.N X.env.scope args)=true->∃e r,args=e::r/\PA X (e::r) (tEs X.K cal es)/\(e::r).all ah=true:=λ{args} n cC D=>by
  simp only[g4,J0,pd]at D;obtain⟨U,J,q3⟩:=hs _ D.2;cases args with
  |nil=>rw[<- D.1]at q3;simp at q3;omega
  |cons e r=>exact⟨e,r,rfl,U,J⟩
 cases b with
 |len =>
  obtain⟨e,r,Z,U,J⟩:=plain 1 (by decide) D;rw[Z];exact⟨λz=>(by cases z),pE Hq Y (g.blt "len" (by decide)) qy (by decide) (by decide) U J⟩
 |tupleOf =>
  obtain⟨e,r,Z,U,J⟩:=plain 1 (by decide) D;rw[Z];exact⟨λz=>(by cases z),E4 vH Y (g.blt "tuple" (by decide)) nJ (by decide) (by decide) U J⟩
 |listOf =>
  obtain⟨e,r,Z,U,J⟩:=plain 1 (by decide) D;rw[Z];have q:=Ck (p:=p) (pos:=pos) EU Y (g.blt "list" (by decide)) qz (by decide) (by decide) U J;exact⟨λ_=>q,dH (dQ (.inl rfl)) q⟩
 |sorted =>
  obtain⟨e,r,Z,U,J⟩:=plain 1 (by decide) D;rw[Z];have q:=zy (p:=p) (pos:=pos) (zo g) Y (g.blt "sorted" (by decide)) lq (by decide) (by decide) U J;exact⟨λ_=>q,dH (dQ (.inr (.inl rfl))) q⟩
 |any =>
  obtain⟨e,r,Z,U,J⟩:=plain 1 (by decide) D;rw[Z];exact⟨λz=>(by cases z),pE (Hr g.calm) Y (g.blt "any" (by decide)) E6 (by decide) (by decide) U J⟩
 |all =>
  obtain⟨e,r,Z,U,J⟩:=plain 1 (by decide) D;rw[Z];exact⟨λz=>(by cases z),pE (Hs g.calm) Y (g.blt "all" (by decide)) E7 (by decide) (by decide) U J⟩
 |intOf=>exact absurd D il
 |boolOf=>exact absurd D il
 |max2=>exact absurd D il
 |min2=>exact absurd D il
 |isInt=>exact⟨λz=>(by cases z),inst "int" Y rfl rfl E_ (g.blt "int" (by decide)) (by decide) (by decide) D⟩
 |isBool=>exact⟨λz=>(by cases z),inst "bool" Y rfl rfl Co (g.blt "bool" (by decide)) (by decide) (by decide) D⟩
 |isStr=>exact absurd D il
 |isList=>exact absurd D il
 |isTuple=>exact⟨λz=>(by cases z),inst "tuple" Y rfl rfl nJ (g.blt "tuple" (by decide)) (by decide) (by decide) D⟩
 |sortedSet =>
  obtain⟨m,y,gg,p2,pos2,ee,ea,h2,h3,hp,a9⟩:=c1 D;rw[ee,ea];have q:=sm (p:=p) (p2:=p2) (pos:=pos) (pos2:=pos2) g rfl h2 Y h3 hp a9;exact⟨λ_=>q,dH (dQ (.inr (.inr (.inl rfl)))) q⟩
 |sum =>
  obtain⟨e,r,Z,U,J⟩:=plain 1 (by decide) D;rw[Z];exact⟨λz=>(by cases z),pE (Ht g.calm) Y (g.blt "sum" (by decide)) PyProof.Rows.boot_sum (by decide) (by decide) U J⟩
 |max1 =>
  obtain⟨e,r,Z,U,J⟩:=plain 1 (by decide) D;rw[Z];exact⟨λz=>(by cases z),pE (EW g.calm) Y (g.blt "max" (by decide)) E8 (by decide) (by decide) U J⟩
 |sortedKeys =>
  obtain⟨e,r,Z,U,J⟩:=plain 1 (by decide) D;rw[Z];have q:=zy (p:=p) (pos:=pos) (qx g.calm) Y (g.blt "sorted" (by decide)) lq (by decide) (by decide) U J;exact⟨λ_=>q,dH (dQ (.inr (.inr (.inr (.inl rfl))))) q⟩
 |valuesOf =>
  obtain⟨y,ap,cp,ea,h3,h4,h5,h6⟩:=Cr D;obtain⟨m,ee⟩:=LX.mp h6;have hy:=h1 m y ee h5;rw[ee,ea];have q:=zE (p:=p) (ap:=ap) (cp:=cp) (pos:=pos) g rfl Y hy (base_of h3) (by rw[h4];simp);exact⟨λ_=>q,dH (dQ (.inr (.inr (.inr (.inr rfl))))) q⟩
 |min1 =>
  obtain⟨e,r,Z,U,J⟩:=plain 1 (by decide) D;rw[Z];exact⟨λz=>(by cases z),pE (EX g.calm) Y (g.blt "min" (by decide)) E9 (by decide) (by decide) U J⟩
 |tupleRev=>cases D
 |lenSet =>
  obtain⟨m,y,gg,p2,pos2,ee,ea,h2,h3,hp,a9⟩:=c1 D;rw[ee,ea];exact⟨λz=>(by cases z),zD g rfl h2 Y h3 hp a9⟩
 |lenSetSub =>
  obtain⟨gg,y,c4,y',p2,J,p3,q3,q4,ea,a1,a2,a3,a4,a5,a6⟩:=Fd D;obtain⟨m,m',ee⟩:=Cq a6;obtain⟨b1,b2⟩:=b3 m m' y y' ee a5;rw[ee]at a5 ⊢;rw[ea];exact⟨λz=>(by cases z),sn g rfl a1 a3 Y a2 a4 b1 b2 (b_ a5).1.2 (b_ (b_ a5).2).1.2⟩
def HJ(g:Gf X T k cal)(hk:PE X l (tE X.K cal mk))(U:PE X r (tE X.K cal D))(hm:behindInMarks (if neg=true then CmpOp.NotIn else CmpOp.In) r=false) :
  PE X (.Compare l [if neg=true then CmpOp.NotIn else CmpOp.In] [r] pos) (tE X.K cal (.dIn neg mk D))/\PT X (.Compare l [if neg=true then CmpOp.NotIn else CmpOp.In] [r] pos) (tT X.K cal (.dIn neg mk D)):=by
 have hu:X.A.units+1<cLine:=by have:=g.units;omega
 have go:∀{σ}{H}{Q:Bool->Hp->Prop},(∃B E O W b,aE X.K B E O H W σ/\ev cal (.dIn neg mk D) W=some (.bl b)/\∀H',aj H H'->Q b H') ->
   tE X.K cal mk σ H λy H1=>tE X.K cal D σ H1 λx H2=>∃a o,x=.ref a/\mT H2 a y o/\Q (if neg=true then !o.isSome else o.isSome) H2:=λ{σ H Q} q=>by
  refine aD λZq Y=>?_
  obtain⟨B,E,O,W,b,st,z,q⟩:=q;rw[ev]at z;simp only[ft]at z;obtain⟨y,z,x,e2,J⟩:=z;refine Y ?_;refine⟨B,E,O,W,y,st,z,λuy H1 s1 g1=>⟨B,E,O,W,x,st.mono s1,e2,λux H2 s2 g2=>?_⟩⟩;rw[mu]at J;obtain⟨o,J,e4⟩:=J;cases x<;>try (cases J;done)
  obtain⟨a,rfl,U⟩:=g2.1.dI;refine⟨a,_,rfl,qw J U (g1.1.mono s2),?_⟩;rw[isSome_map,PV.bl.inj e4];exact q H2 (s1.trans s2)
 have Z:∀{σ}{H}{Q},tE X.K cal (.dIn neg mk D) σ H Q->∃B E O W b,aE X.K B E O H W σ/\ev cal (.dIn neg mk D) W=some (.bl b)/\∀H',aj H H'->Q (.bl b) H':=λ{σ H Q} q=>by
  refine aD λZq Y=>?_
  obtain⟨B,E,O,W,v,st,z,q⟩:=q;have hb:∃b,v=.bl b:=by
   rw[ev]at z;simp only[ft]at z;obtain⟨y,_,x,_,J⟩:=z;rw[mu]at J;obtain⟨o,_,e4⟩:=J;exact⟨_,e4.symm⟩
  obtain⟨b,rfl⟩:=hb;refine Y ?_;exact⟨B,E,O,W,b,st,z,λH' s=>q _ H' s (.of (eG _ _))⟩
 have ao:∀{σ}{H}{Q},tT X.K cal (.dIn neg mk D) σ H Q->∃B E O W b,aE X.K B E O H W σ/\ev cal (.dIn neg mk D) W=some (.bl b)/\∀H',aj H H'->Q b H':=λ{σ H Q} q=>by
  refine aD λZq Y=>?_
  obtain⟨B,E,O,W,b,st,z,q⟩:=q;unfold evB at z;simp only[ft]at z;obtain⟨v,z,e2⟩:=z;refine Y ?_;cases v<;>simp only[bb,reduceCtorEq,pd]at e2
  subst e2;exact⟨B,E,O,W,_,st,z,q⟩
 cases neg with
 |false =>
  refine⟨(xJ (yg hu hk U) hm).imp λσ H Q q=>?_,(xK (yg hu hk U) hm).imp λσ H Q q=>?_⟩
  .exact go (Q:=λb H'=>Q (.bl b) H') (Z q)
  .exact go (Q:=λb H'=>∃c,V.bl b=.bl c/\Q c H') (by
    obtain⟨B,E,O,W,b,st,z,q⟩:=ao q;exact⟨B,E,O,W,b,st,z,λH' s=>⟨b,rfl,q H' s⟩⟩)
 |true =>
  refine⟨(xJ (o5 hu hk U) hm).imp λσ H Q q=>?_,(xK (o5 hu hk U) hm).imp λσ H Q q=>?_⟩
  .exact go (Q:=λb H'=>Q (.bl b) H') (Z q)
  .exact go (Q:=λb H'=>∃c,V.bl b=.bl c/\Q c H') (by
    obtain⟨B,E,O,W,b,st,z,q⟩:=ao q;exact⟨B,E,O,W,b,st,z,λH' s=>⟨b,rfl,q H' s⟩⟩)
def Fe{ma mk md:ME}{o e f:Expr}{ap cp:Pos}(g:Gf X T k cal)(ha:PE X o (tE X.K cal ma))(hk:PE X e (tE X.K cal mk))(hd:PE X f (tE X.K cal md))(hb:pp o=true)(hl:(ap.endLine==cp.line)=true)(h1:ah e=true)(h2:ah f=true) :
  PE X (.Call (.Attribute o "get" ap) [e,f] [] cp) (tE X.K cal (.dget ma mk md)):=by
 have hu:X.A.units+1<cLine:=by have:=g.units;omega
 have D:starEach [e,f] X.env=[(false,eval e X.env),(false,eval f X.env)]:=by rw[aU h1,aU h2];rfl
 have m:M2 X o "get" ap e f cp:=by
  refine⟨base_of hb,?_,hl,?_⟩
  .rw[D];rfl
  .rw[D];rfl
 refine(yl hu ha hk hd m).imp λσ H Q q=>?_
 refine aD λZq kq=>?_
 obtain⟨B,E,O,W,v,st,J,q⟩:=q;rw[ev]at J;simp only[ft,mu]at J;obtain⟨x,J,y,e2,z,e3,U,e4,sz,e5,e6⟩:=J;refine kq ?_;cases x<;>try (cases e4;done)
 refine⟨B,E,O,W,_,st,J,λux H1 Y g1=>?_⟩;obtain⟨a,rfl,hH⟩:=g1.1.dI;refine⟨a,rfl,qp hH,B,E,O,W,_,st.mono Y,e2,λuy H2 Z g2=>⟨B,E,O,W,z,st.mono (Y.trans Z),e3,λuz H3 s3 g3=>?_⟩⟩;refine⟨_,qw e4 (aj.rdD s3 (aj.rdD Z hH)) (g2.1.mono s3),?_⟩;rw[uu e5 g3.1];have e7:(U.map Sc.v).getD sz.v=(U.getD sz).v:=by cases U<;>rfl
 rw[e7];refine q _ H3 (Y.trans (Z.trans s3)) ?_;rw[<- e6];exact .of (ut _ _ _)
def HK(g:Gf X T k cal)(Y:PE X o (tE X.K cal Z))(hk:PE X i (tE X.K cal mk))(hs:b9 i=true):PE X (.Subscript o i pos) (tE X.K cal (.dat Z mk)):=by
 have hu:X.A.units+1<cLine:=by have:=g.units;omega
 refine(u_ hu Y hk (by cases i<;>first|(intro _ _;rfl)|(simp[b9]at hs))).imp λσ H Q q=>?_
 refine aD λZq kq=>?_
 obtain⟨B,E,O,W,v,st,z,q⟩:=q;rw[ev]at z;simp[ft,mu]at z;obtain⟨x,z,y,e2,oo,D,sz,rfl,e6⟩:=z;refine kq ?_;cases x<;>try (cases D;done)
 refine⟨B,E,O,W,_,st,z,λux H1 J g1=>?_⟩;obtain⟨a,rfl,hH⟩:=g1.1.dI;refine⟨B,E,O,W,_,st.mono J,e2,λuy H2 U g2=>?_⟩;refine⟨a,_,rfl,qw D (aj.rdD U hH) g2.1,q _ H2 (J.trans U) ?_⟩;rw[<- e6];exact .of (ut _ _ _)
end
mutual
theorem ax{T:Tab}{k:Nat}{cal:Cal}:∀(me:ME) {X:Cx}{e:Expr},Gf X T k cal->chk T me X.N X.env.scope e=true->PE X e (tE X.K cal me)/\PT X e (tT X.K cal me)
 | .var i,X,e,g,h=>by
  replace h:=ak h
  obtain⟨x,w,h⟩:=h;obtain rfl:=eF w;exact⟨Di h,bC (Di h) rfl⟩
 | .bor i,X,e,g,h=>by
  replace h:=ak h
  obtain⟨x,w,h⟩:=h;obtain rfl:=eF w;exact⟨Dj h,bC (Dj h) rfl⟩
 | .cst v,X,e,g,h=>by
  replace h:=ak h
  obtain⟨x,w,h⟩:=h;obtain rfl:=yY w;exact⟨Dk h,bC (Dk h) rfl⟩
 | .glob x v,X,e,g,h=>by
  replace h:=ak h
  obtain⟨y,w,h⟩:=h;obtain rfl:=eF w;exact⟨zm g h,bC (zm g h) rfl⟩
 | .bin op a b,X,e,g,h=>by
  replace h:=ak h
  obtain⟨⟨l,o,r,pos⟩,w,h⟩:=h;obtain rfl:=qj w;simp only[g4,J0]at h;obtain⟨⟨rfl,h1⟩,h2⟩:=h;have p:=Hx (op:=op) (pos:=pos) (ax a g h1).1 (ax b g h2).1;exact⟨p,bC p rfl⟩
 | .neg _,X,e,g,h=>absurd (show false=true from h) il
 | .not a,X,e,g,h=>by
  replace h:=ak h
  obtain⟨⟨o,x,pos⟩,w,h⟩:=h;obtain rfl:=Ev w
  replace h:=gQ.mp h
  obtain⟨h2,h⟩:=h;obtain rfl:=eq_of_beq h2;exact⟨Hy (ax a g h).1,Hz (ax a g h).2⟩
 | .and a b,X,e,g,h=>by
  replace h:=ak h
  obtain⟨⟨o,vs,pos⟩,w,h⟩:=h;obtain rfl:=yZ w
  replace h:=gQ.mp h
  obtain⟨h2,h⟩:=h;obtain rfl:=eq_of_beq h2;rcases vC h with⟨x,y,rfl,h1,h2⟩|⟨x,y,z,r,rfl,h1,h2⟩
  .exact⟨Dl (ax a g h1).1 (xL (ax b g h2).1),Dn (ax a g h1).2 (Bj (ax b g h2).2)⟩
  .exact⟨Dl (ax a g h1).1 (ax b g h2).1,Dn (ax a g h1).2 (Dm (ax b g h2).2)⟩
 | .or a b,X,e,g,h=>by
  replace h:=ak h
  obtain⟨⟨o,vs,pos⟩,w,h⟩:=h;obtain rfl:=yZ w
  replace h:=gQ.mp h
  obtain⟨h2,h⟩:=h;obtain rfl:=eq_of_beq h2;rcases vC h with⟨x,y,rfl,h1,h2⟩|⟨x,y,z,r,rfl,h1,h2⟩
  .exact⟨HA (ax a g h1).1 (xL (ax b g h2).1),HB (ax a g h1).2 (DG (ax b g h2).2)⟩
  .exact⟨HA (ax a g h1).1 (ax b g h2).1,HB (ax a g h1).2 (Dm (ax b g h2).2)⟩
 | .ite c a b,X,e,g,h=>by
  replace h:=ak h
  obtain⟨q,w,h⟩:=h;obtain rfl:=Ew w;simp only[g4,J7]at h;obtain⟨⟨⟨⟨h1,h2⟩,D⟩,Z⟩,h5⟩:=h;exact⟨HC (ax c g h1).2 (ax a g h2).1 (ax b g D).1 Z h5,HE (ax c g h1).2 (ax a g h2).2 (ax b g D).2⟩
 | .cmp op a b,X,e,g,h=>by
  replace h:=ak h
  obtain⟨⟨l,o,r⟩,w,h⟩:=h;obtain⟨pos,rfl⟩:=vA w;simp only[g4,J0,J7]at h;obtain⟨⟨⟨rfl,h1⟩,h2⟩,D⟩:=h;exact HF g (ax a g h1).1 (ax b g h2).1 D
 | .chain _ _ _ _ _,X,e,g,h=>absurd (show false=true from h) il
 | .tup es,X,e,g,h=>by
  replace h:=ak h
  obtain⟨q,w,h⟩:=h;obtain rfl:=uc w;obtain⟨h1,h2⟩:=gQ.mp h;have p:=HG (j:=q.2.1) (pos:=q.2.2) (sounds es g h1) h2;exact⟨p,bC p rfl⟩
 | .lst es,X,e,g,h=>by
  replace h:=ak h
  obtain⟨q,w,h⟩:=h;obtain rfl:=qk w
  replace h:=gQ.mp h
  have p:=λ(pos:Pos)=>dH (λW v hv=>by
   rw[ev,ft]at hv;obtain⟨vs,_,hv⟩:=hv;split at hv
   .cases hv;exact⟨_,rfl⟩
   .cases hv) (Do (pos:=pos) (sounds es g h.1) h.2)
  exact⟨p _,bC (p _) rfl⟩
 | .idx a i,X,e,g,h=>by
  replace h:=ak h
  obtain⟨q,w,h⟩:=h;obtain rfl:=nl w;simp only[g4]at h;have p:=HH (pos:=q.2.2) (ax a g h.1.1).1 (ax i g h.1.2).1 h.2;exact⟨p,bC p rfl⟩
 | .slice a lo hi,X,e,g,h=>by
  replace h:=ak h
  obtain⟨⟨v,l,u⟩,w,h⟩:=h;obtain⟨p2,pos,rfl⟩:=BY w;simp only[g4]at h;obtain⟨⟨h1,h2⟩,D⟩:=h;have bd:∀{b:ME}{o:Option Expr},(∀e,chk T b X.N X.env.scope e=true->PE X e (tE X.K cal b))->ql (λe=>chk T b X.N X.env.scope e) (jL b) o=true->PO X o (tB1 X.K cal b):=λ{b o} hb h2=>by
   cases o with
   |none=>exact E2 h2
   |some l =>
    simp only[ql,g4,J7]at h2;exact E3 (hb l h2.1) h2.2
  have p:=Cj (p2:=p2) (pos:=pos) (ax a g h1).1 (bd (λe he=>(ax lo g he).1) h2) (bd (λe he=>(ax hi g he).1) D);exact⟨p,bC p rfl⟩
 | .blt b es,X,e,g,h=>by
  replace h:=ak h
  obtain⟨⟨x,args⟩,w,h⟩:=h;obtain⟨p,pos,rfl⟩:=fT w;simp only[g4,J0]at h;obtain⟨⟨hx,hg⟩,ha⟩:=h;have q:=(sw (p:=p) (pos:=pos) g hx hg ha (λxs J=>⟨sounds es g J,bJ J⟩) (λm x hm hx=>match es,hm with|[m'],rfl=>(ax m' g (b_ hx).1.1).1) (λa b x x' hm hx=>match es,hm with|[m1,m2],rfl=>⟨(ax m1 g (b_ hx).1.1).1,(ax m2 g (b_ (b_ hx).2).1.1).1⟩)).2;exact⟨q,bC q rfl⟩
 | .call f es,X,e,g,h=>by
  replace h:=ak h
  obtain⟨⟨x,args⟩,w,h⟩:=h;obtain⟨p,pos,rfl⟩:=fT w;simp only[g4,J0]at h;obtain⟨⟨⟨h1,h2⟩,D⟩,Z⟩:=h;obtain⟨hs,hl⟩:=bJ Z;have q:=E5 (p:=p) (pos:=pos) g h1 h2 D (soundA es g Z) hs hl;exact⟨q,bC q rfl⟩
 | .callD _ _ _,X,e,g,h=>absurd (show false=true from h) il
 | .disp kvs m,X,e,g,h=>by
  obtain⟨q,e1,h⟩:=ak (show onQ (zd e) (λq=>r9 kvs q.1 q.2.1&&chk T m X.N X.env.scope q.2.2&&b9 q.2.2&&decide (kvs.length<=15)&&!kvs.isEmpty)=true from h);obtain⟨ks,vs,a⟩:=q;obtain⟨p,pos,rfl⟩:=ze e1;obtain⟨a0,h5⟩:=gQ.mp h;obtain⟨a1,Z⟩:=gQ.mp a0;obtain⟨a2,D⟩:=gQ.mp a1;obtain⟨h1,h2⟩:=gQ.mp a2;have q:PE X (.Subscript (.Dict ks vs p) a pos) (tE X.K cal (.disp kvs m)):=Fb g h1 (Kh Z) (by simpa using h5) (ax m g h2).1 D;exact⟨q,bC q rfl⟩
 | .lenP i,X,e,g,h=>by
  replace h:=ak h
  obtain⟨⟨x,y⟩,w,h⟩:=h;obtain⟨p,yp,pos,rfl⟩:=B0 w;simp only[g4,J0]at h;obtain⟨⟨rfl,h2⟩,D⟩:=h;have q:PE X (.Call (.Name ("len":Str) p) [.Name y yp] [] pos) (tE X.K cal (.lenP i)):=Fc g h2 D;exact⟨q,bC q rfl⟩
 | .dIn neg mk ma,X,e,g,h=>by
  replace h:=ak h
  obtain⟨⟨l,o,r⟩,w,h⟩:=h;obtain⟨pos,rfl⟩:=vA w;simp only[g4,J0,J7]at h;obtain⟨⟨⟨rfl,h1⟩,h2⟩,D⟩:=h;exact HJ g (ax mk g h1).1 (ax ma g h2).1 D
 | .dat ma mk,X,e,g,h=>by
  replace h:=ak h
  obtain⟨q,w,h⟩:=h;obtain rfl:=nl w;simp only[g4]at h;have p:=HK (pos:=q.2.2) g (ax ma g h.1.1).1 (ax mk g h.1.2).1 h.2;exact⟨p,bC p rfl⟩
 | .dget ma mk md,X,e,g,h=>by
  replace h:=ak h
  obtain⟨⟨o,m,ap,args,cp⟩,w,h⟩:=h;obtain rfl:=ud w
  replace h:=ak h
  obtain⟨⟨x,y⟩,w,h⟩:=h;obtain rfl:=ml w;simp only[g4,J0]at h;obtain⟨⟨⟨⟨⟨⟨⟨rfl,h1⟩,h2⟩,D⟩,Z⟩,h5⟩,h6⟩,h7⟩:=h;have p:=Fe (ap:=ap) (cp:=cp) g (ax ma g D).1 (ax mk g Z).1 (ax md g h5).1 h1 (by rw[h2];simp) h6 h7;exact⟨p,bC p rfl⟩
 | .comp k' src js cond elt,X,e,g,h=>by
  replace h:=lh h
  obtain⟨e,x,px,it,ifs,scope,pos,rfl,h⟩:=h;simp only[g4,J7]at h;obtain⟨⟨⟨⟨h1,h2⟩,D⟩,Z⟩,h5⟩:=h;have hw:=lr (tg:=.Name x px) (λz=>by cases z) g h2 (λxs J=>⟨sounds src g J,bJ J⟩) (λm x hm hx=>match src,hm with|[m'],rfl=>(ax m' g (b_ hx).1.1).1);have q:=dH su (uo (pos:=pos) g h1 hw.1 hw.2 (λU Y C fp=>qB D λc hc=>(ax cond (g.blk x (dG X.N js) scope U Y C fp) hc).2) (λU Y C fp=>(ax elt (g.blk x (dG X.N js) scope U Y C fp) Z).1) h5);exact⟨q,bC q rfl⟩
theorem sounds{T:Tab}{k:Nat}{cal:Cal}:∀(ms:List ME) {X:Cx}{es:List Expr},Gf X T k cal->chks T ms X.N X.env.scope es=true->PA X es (tEs X.K cal ms)
 | [],X,es,g,h=>by
  cases es with
  |nil=>exact Ci
  |cons _ _=>cases h
 |m::ms,X,es,g,h=>by
  cases es with
  |nil=>cases h
  |cons e es =>
   replace h:=b_ h
   exact zu (ax m g h.1.1).1 (sounds ms g h.2) h.1.2
theorem soundA{T:Tab}{k:Nat}{cal:Cal}:∀(ms:List ME) {X:Cx}{es:List Expr},Gf X T k cal->chks T ms X.N X.env.scope es=true->PA X es (tAs X.K cal ms)
 | [],X,es,g,h=>by
  cases es with
  |nil=>exact zv
  |cons _ _=>cases h
 |m::ms,X,es,g,h=>by
  cases es with
  |nil=>cases h
  |cons e es =>
   replace h:=b_ h
   have hs:=soundA ms g h.2;cases z:aI m with
   |false=>exact wY z (ax m g h.1.1).1 hs h.1.2
   |true =>
    obtain⟨i,rfl⟩:=nt z;obtain⟨x,p,rfl,h1⟩:=kh h.1.1;exact zx h1 hs
end
def Ff(g:Gf X T k cal)(h:chk T Z X.N X.env.scope e=true)(hf:iU Z=true):PE X e (tF X.K cal Z):=by
 cases Z with
 |lst es =>
  replace h:=ak h
  obtain⟨q,w,h⟩:=h;obtain rfl:=qk w
  replace h:=gQ.mp h
  exact Do (sounds es g h.1) h.2
 |blt b es =>
  replace h:=ak h
  obtain⟨⟨x,args⟩,w,h⟩:=h;obtain⟨p,pos,rfl⟩:=fT w;simp[g4,J0]at h;obtain⟨⟨hx,hg⟩,ha⟩:=h;exact(sw (p:=p) (pos:=pos) g hx hg ha (λxs D=>⟨sounds es g D,bJ D⟩) (λm x Y hx=>match es,Y with|[m'],rfl=>(ax m' g (b_ hx).1.1).1) (λa b x x' Y hx=>match es,Y with|[m1,m2],rfl=>⟨(ax m1 g (b_ hx).1.1).1,(ax m2 g (b_ (b_ hx).2).1.1).1⟩)).1 hf
 |comp k' src js cond elt =>
  replace h:=lh h
  obtain⟨e,x,px,it,ifs,scope,pos,rfl,h⟩:=h;simp only[g4,J7]at h;obtain⟨⟨⟨⟨h1,h2⟩,h3⟩,h4⟩,h5⟩:=h;have hw:=lr (tg:=.Name x px) (λz=>by cases z) g h2 (λxs D=>⟨sounds src g D,bJ D⟩) (λm x Y hx=>match src,Y with|[m'],rfl=>(ax m' g (b_ hx).1.1).1);exact uo g h1 hw.1 hw.2 (λJ U C fp=>qB h3 λc hc=>(ax cond (g.blk x _ scope J U C fp) hc).2) (λJ U C fp=>(ax elt (g.blk x _ scope J U C fp) h4).1) h5
 | _=>cases hf
noncomputable def HL:MV->Bool
 | .brw _=>true
 | .brwD _=>true
 | _=>false
def vP(h1:iJ m=true)(h2:HL m=true):False:=by cases m<;>first|(cases h2;done)|(cases h1;done)
structure bi(B:Hp)(O O':List Addr)(W l:Rho)(σ F:St):Prop where
 stay:∀a,B a≠none->a∈O->a∈O'
 new:∀a∈O',a∈O\/B a=none
 brw:∀(i:Nat) (m:MV),HL m=true->l[i]?=some (some m)->W[i]?=some (some m)/\F[i]?=σ[i]?
 len:l.length=W.length
 mutK:∀(i:Nat) (d':DD),l[i]?=some (some (.mutD d'))->(∃d,W[i]?=some (some (.mutD d)))/\F[i]?=σ[i]?
def bi.refl :bi B O O W W σ σ:=⟨λ_ _ h=>h,λ_ h=>.inl h,λ_ _ _ h=>⟨h,rfl⟩,rfl,λ_ d' h=>⟨⟨d',h⟩,rfl⟩⟩
theorem bi.trans(a:bi B O O1 W z σ D)(b:bi B O1 O2 z J D U):bi B O O2 W J σ U where
 stay:=λx h1 h2=>b.stay x h1 (a.stay x h1 h2)
 new:=λx h=>(b.new x h).elim (a.new x) .inr
 brw:=λi xs hm h=>by
  obtain⟨h1,Y⟩:=b.brw i xs hm h;obtain⟨h2,Z⟩:=a.brw i xs hm h1;exact⟨h2,Y.trans Z⟩
 len:=b.len.trans a.len
 mutK:=λi d' h=>by
  obtain⟨⟨d1,h1⟩,Y⟩:=b.mutK i d' h;obtain⟨h2,Z⟩:=a.mutK i d1 h1;exact⟨h2,Y.trans Z⟩
def g7(K:Nx)(B:Hp)(E O:List Addr)(W:Rho)(σ:St)(D:DA):R->Prop
 | .next l=>∀F H' z,aE K B E z H' l F->bi B O z W l σ F->D.nx F H'
 | .brk l=>∀F H' z,aE K B E z H' l F->bi B O z W l σ F->D.bk F H'
 | .cont l=>∀F H' z,aE K B E z H' l F->bi B O z W l σ F->D.ct F H'
 | .ret v=>∀u H',aj B H'->Rep K (aw H' E) v u->D.rt u H'
 | .retM v l=>∀u F H' z,aE K B E z H' l F->bi B O z W l σ F->Rep K (aw H' z) v u->D.rt u H'
 | .retF xs=>∀p us H',aj B H'->B p=none->H' p=some (.lst us)->Reps K (aw H' (p::E)) xs us->D.rt (.ref p) H'
 | .bad=>False
theorem g7.trans{K:Nx}(h:g7 K B E O W σ D r)(k:bi B O Y W l σ F):g7 K B E Y l F D r:=by
 cases r<;>first|exact λz H2 J st U=>h z H2 J st (k.trans U)|exact h|exact λu z H2 J st U=>h u z H2 J st (k.trans U)
noncomputable def tS(K:Nx)(cal:Cal)(m:MS):TS:=λD σ H=>∃B E O W,aE K B E O H W σ/\g7 K B E O W σ D (ex cal m W)
noncomputable def tSs(K:Nx)(cal:Cal)(ms:List MS):TS:=λD σ H=>∃B E O W,aE K B E O H W σ/\g7 K B E O W σ D (exs cal ms W)
section
variable{K:Nx}{B H H':Hp}{E O:List Addr}{W:Rho}{σ:St}
def ai(h:i<W.length):(put W i m)[i]?=some (some m):=by unfold put;exact Ld h
def ag(h:i≠j):(put W i m)[j]?=W[j]?:=by unfold put;exact Ki h
def put_len :(put W i m).length=W.length:=by unfold put;exact Mn
def aE.store(st:aE K B E O H W σ)(hi:i<σ.length)(r:Rep K (aw H O) v u):aE K B E O H (put W i (.val v)) (σ.set i (some u))/\bi B O O W (put W i (.val v)) σ (σ.set i (some u)):=by
 have D:i<W.length:=by rw[st.len];exact hi
 refine⟨⟨st.keep,st.here,st.sub,st.old,by rw[put_len,Mn];exact st.len,λj m e=>?_,λa b xs ys ad Z U Y o1 o2 e3 e4=>?_
  ⟩,⟨λ_ _ h=>h,λ_ h=>.inl h,λj xs ao e=>?_,put_len
  ,λj d' e=>?_
  ⟩⟩
 .by_cases J:i=j
  .subst J;rw[ai D]at e;cases e;exact⟨u,Ld hi,r⟩
  .rw[ag J]at e;obtain⟨w,U,q⟩:=st.slot j m e;exact⟨w,by rw[Ki J];exact U,q⟩
 .have h1:i≠a:=λz=>by subst z;rw[ai D]at U;cases U;cases o1
  have h2:i≠b:=λz=>by subst z;rw[ai D]at Y;cases Y;cases o2
  rw[ag h1]at U;rw[ag h2]at Y;rw[Ki h1]at e3;rw[Ki h2]at e4;exact st.apart a b xs ys ad Z U Y o1 o2 e3 e4
 .have J:i≠j:=λz=>by subst z;rw[ai D]at e;cases e;cases ao
  rw[ag J]at e;exact⟨e,Ki J⟩
 .have J:i≠j:=λz=>by subst z;rw[ai D]at e;cases e
  rw[ag J]at e;exact⟨⟨d',e⟩,Ki J⟩
def aE.storeM(st:aE K B E O H W σ)(hi:i<σ.length)(s:aj H H')(hp:H p=none)(e:H' p≠none)(hm:iJ mm=true)
  (a7:∀d,mm≠.mutD d)
  (r:B p=none->fo K B (p::O) H' mm (.ref p))
  :
  aE K B E (p::O) H' (put W i mm) (σ.set i (some (.ref p)))/\bi B O (p::O) W (put W i mm) σ (σ.set i (some (.ref p))):=by
 have a0:i<W.length:=by rw[st.len];exact hi
 have a3:=st.keep.free hp;have Z:aj (aw H O) (aw H' (p::O)):=bI s λb Y=>by
  rcases tf.mp Y with rfl|Y
  .exact .inr hp
  .exact .inl Y
 refine⟨⟨st.keep.trans s,λa D=>?_,λa D=>KD _ (st.sub a D),st.old,by rw[put_len,Mn];exact st.len,λj m J=>?_,λa b xs ys ad a4 e1 U o1 o2 e3 e4=>?_
  ⟩,⟨λ_ _ h=>KD _ h,λa D=>?_,λj xs a8 J=>?_,put_len
  ,λj d' J=>?_
  ⟩⟩
 .rcases tf.mp D with rfl|D
  .exact e
  .exact λz=>st.here a D (s.free z)
 .by_cases hj:i=j
  .subst hj;rw[ai a0]at J;cases J;exact⟨_,Ld hi,r a3⟩
  .rw[ag hj]at J;obtain⟨w,e1,q⟩:=st.slot j m J;refine⟨w,by rw[Ki hj];exact e1,?_⟩;cases m with
   |val v=>exact Rep.mono Z _ q
   |own ys=>obtain⟨a,ws,U,h1,h2,h3,h4⟩:=q;exact⟨a,ws,U,s _ _ h1,Reps.mono Z _ h2,KD _ h3,h4⟩
   |brw ys=>obtain⟨a,ws,U,h1,h2⟩:=q;exact⟨a,ws,U,h1,Reps.mono Z _ h2⟩
   |brwD ys=>exact q
   | _=>obtain⟨a,U,h1,h3,h4⟩:=q;exact⟨a,U,h1.move (s _) Z,KD _ h3,h4⟩
 .have other:∀(j:Nat) zs ad,W[j]?=some (some zs)->iJ zs=true->σ[j]?=some (some (.ref ad))->ad≠p:=λj zs ad h1 ho h2 z=>by
   obtain⟨w,e1,q⟩:=st.slot j _ h1;rw[h2]at e1;cases e1;cases zs with
   |own zs =>
    obtain⟨a,ws,U,h1,_⟩:=q;cases U;rw[z,hp]at h1;cases h1
   |ownD zs|mutD zs =>
    obtain⟨a,U,h1,_⟩:=q;cases U;obtain⟨o,h1⟩:=h1.here;rw[z,hp]at h1;cases h1
   | _=>cases ho
  by_cases D:i=a
  .subst D;have Y:=a4;rw[Ld hi]at e3;rw[ag Y]at U;rw[Ki Y]at e4;cases e3;exact other b ys _ U o2 e4 rfl
  .by_cases Y:i=b
   .subst Y;rw[Ld hi]at e4;rw[ag D]at e1;rw[Ki D]at e3;cases e4;exact other a xs _ e1 o1 e3 rfl
   .rw[ag D]at e1;rw[ag Y]at U;rw[Ki D]at e3;rw[Ki Y]at e4;exact st.apart a b _ _ ad a4 e1 U o1 o2 e3 e4
 .rcases tf.mp D with rfl|D
  .exact .inr a3
  .exact .inl D
 .have hj:i≠j:=λz=>by subst z;rw[ai a0]at J;cases J;exact vP hm a8
  rw[ag hj]at J;exact⟨J,Ki hj⟩
 .have hj:i≠j:=λz=>by subst z;rw[ai a0]at J;cases J;exact a7 d' rfl
  rw[ag hj]at J;exact⟨⟨d',J⟩,Ki hj⟩
def aE.storeOwn(st:aE K B E O H W σ)(hi:i<σ.length)(s:aj H H')(D:H p=none)(e:H' p=some (.lst us))(r:Reps K (aw H' (p::O)) xs us) :
  aE K B E (p::O) H' (put W i (.own xs)) (σ.set i (some (.ref p)))/\bi B O (p::O) W (put W i (.own xs)) σ (σ.set i (some (.ref p))):=
 st.storeM hi s D (by rw[e];simp) rfl (λ_ z=>by cases z) λJ=>⟨p,us,rfl,e,r,K4,J⟩
def aE.changeM(st:aE K B E O H W σ)(e:W[i]?=some (some m0))(o0:iJ m0=true)(o1:iJ m1=true)
  (om:∀d',m1=.mutD d'->∃d,m0=.mutD d)
  (es:σ[i]?=some (some (.ref a))) (h3:a∈O) (h4:B a=none) (r:aw (upd H a ob) O=aw H O->fo K B O (upd H a ob) m1 (.ref a))
  :
  aE K B E O (upd H a ob) (put W i m1) σ/\bi B O O W (put W i m1) σ σ:=by
 have Z:=(JY.mp e).1;have U:aw (upd H a ob) O=aw H O:=iW h3;have other:∀j zs ad,i≠j->W[j]?=some (some zs)->iJ zs=true->σ[j]?=some (some (.ref ad))->ad≠a:=λj zs ad J Y o2 q2 z=>by
  subst z;exact st.apart i j m0 zs ad J e Y o0 o2 es q2
 refine⟨⟨λb u eb=>?_,λb hb=>?_,st.sub,st.old,by rw[put_len];exact st.len,λj m D=>?_,λc d ps qs ad a4 e1 e2 p1 p2 e3 e4=>?_
  ⟩,⟨λ_ _ h=>h,λ_ h=>.inl h,λj zs a7 D=>?_,put_len
  ,λj d' D=>?_
  ⟩⟩
 .rw[aZ (cD eb h4)];exact st.keep b u eb
 .unfold upd;split
  .simp
  .exact st.here b hb
 .by_cases J:i=j
  .subst J;rw[ai Z]at D;cases D;exact⟨_,es,r U⟩
  .rw[ag J]at D;obtain⟨w,ew,q⟩:=st.slot j m D;refine⟨w,ew,?_⟩;cases m with
   |val v=>show Rep K (aw (upd H a ob) O) v w;rw[U];exact q
   |own zs =>
    obtain⟨ad,ws,rfl,Y,q2,q3,q4⟩:=q;refine⟨ad,ws,rfl,?_,by rw[U];exact q2,q3,q4⟩;rw[aZ (other j (.own zs) ad J D rfl ew)];exact Y
   |ownD zs =>
    obtain⟨ad,rfl,Y,q3,q4⟩:=q;refine⟨ad,rfl,Y.move (λo eo=>?_) (by rw[U];exact aj.refl _),q3,q4⟩;rw[aZ (other j (.ownD zs) ad J D rfl ew)];exact eo
   |mutD zs =>
    obtain⟨ad,rfl,Y,q3,q4⟩:=q;refine⟨ad,rfl,Y.move (λo eo=>?_) (by rw[U];exact aj.refl _),q3,q4⟩;rw[aZ (other j (.mutD zs) ad J D rfl ew)];exact eo
   |brwD zs=>exact q
   |brw zs=>obtain⟨ad,ws,rfl,Y,q2⟩:=q;exact⟨ad,ws,rfl,Y,by rw[U];exact q2⟩
 .have h1:∀j zs,(put W i m1)[j]?=some (some zs)->iJ zs=true->∃zs,W[j]?=some (some zs)/\iJ zs=true:=λj zs q oz=>by
   by_cases J:i=j
   .subst J;exact⟨m0,e,o0⟩
   .rw[ag J]at q;exact⟨zs,q,oz⟩
  obtain⟨Y,e1,p1⟩:=h1 c ps e1 p1;obtain⟨q2,e2,p2⟩:=h1 d qs e2 p2;exact st.apart c d Y q2 ad a4 e1 e2 p1 p2 e3 e4
 .have J:i≠j:=λz=>by subst z;rw[ai Z]at D;cases D;exact vP o1 a7
  rw[ag J]at D;exact⟨D,rfl⟩
 .by_cases J:i=j
  .subst J;rw[ai Z]at D;cases D;obtain⟨d,rfl⟩:=om d' rfl;exact⟨⟨d,e⟩,rfl⟩
  .rw[ag J]at D;exact⟨⟨d',D⟩,rfl⟩
def aE.change(st:aE K B E O H W σ)(e:W[i]?=some (some (.own xs)))(es:σ[i]?=some (some (.ref a)))(r:Reps K (aw H O) ys us) :
  aE K B E O (upd H a (.lst us)) (put W i (.own ys)) σ/\bi B O O W (put W i (.own ys)) σ σ:=by
 refine aD λZq Z=>?_
 obtain⟨w,J,a',ao,e2,h1,h2,U,Y⟩:=st.slot i _ e;rw[es]at J;cases J;cases e2;refine Z ?_;exact st.changeM e rfl rfl (λ_ z=>by cases z) es U Y λD=>⟨a,us,rfl,ay,by rw[D];exact r,U,Y⟩
def aE.changeD(st:aE K B E O H W σ)(e:W[i]?=some (some (.ownD xs)))(es:σ[i]?=some (some (.ref a)))(hd:aw (upd H a J) O=aw H O->DAt K (upd H a J) O a ys) :
  aE K B E O (upd H a J) (put W i (.ownD ys)) σ/\bi B O O W (put W i (.ownD ys)) σ σ:=by
 refine aD λZq kq=>?_
 obtain⟨w,U,a',e2,h1,Y,Z⟩:=st.slot i _ e;rw[es]at U;cases U;cases e2;refine kq ?_;exact st.changeM e rfl rfl (λ_ z=>by cases z) es Y Z λD=>⟨a,rfl,hd D,Y,Z⟩
def aE.changeU(st:aE K B E O H W σ)(e:W[i]?=some (some (.mutD xs)))(es:σ[i]?=some (some (.ref a)))(hd:aw (upd H a D) O=aw H O->DAt K (upd H a D) O a ys) :
  aE K B E O (upd H a D) (put W i (.mutD ys)) σ/\bi B O O W (put W i (.mutD ys)) σ σ:=by
 refine aD λZq Z=>?_
 obtain⟨w,J,a',e2,h1,U,Y⟩:=st.slot i _ e;rw[es]at J;cases J;cases e2;refine Z ?_;exact st.changeM e rfl rfl (λ_ _=>⟨_,rfl⟩) es U Y λz=>⟨a,rfl,hd z,U,Y⟩
def aE.freeze(st:aE K B E O H W σ)(e:W[i]?=some (some (.own xs))):∃O',aE K B E O' H (put W i (.val (.lst xs))) σ/\bi B O O' W (put W i (.val (.lst xs))) σ σ:=by
 refine aD λZq kq=>?_
 obtain⟨w,es,a,us,rfl,h1,h2,h3,h4⟩:=st.slot i _ e;have Z:=(JY.mp e).1;have J:aj (aw H O) (aw H (O.filter λb=>decide (b≠a))):=bI (aj.refl H) λb U=>.inl (J2.mp U).1
 have mem:∀b,b≠a->b∈O->b∈O.filter λb=>decide (b≠a):=λb U ho=>J2.mpr ⟨ho,J3 U⟩
 refine kq ?_;refine⟨O.filter λb=>decide (b≠a),⟨st.keep,λb U=>st.here b (J2.mp U).1,λb U=>mem b (λz=>st.old b U (z▸h4)) (st.sub b U),st.old,by rw[put_len];exact st.len,λj m D=>?_,λc d ps qs ad a2 e1 e2 p1 p2 e3 e4=>?_
  ⟩,⟨λb U ho=>mem b (λz=>U (z▸h4)) ho,λb U=>.inl (J2.mp U).1,λj zs a3 D=>?_,put_len
  ,λj d' D=>?_
  ⟩⟩
 .by_cases Y:i=j
  .subst Y;rw[ai Z]at D;cases D;refine⟨_,es,?_⟩;show Rep K _ (.lst xs) (.ref a);rw[Rep];refine⟨a,us,rfl,SqL.of ?_,Reps.mono J _ h2⟩;have a4:a∉O.filter λb=>decide (b≠a):=λz=>by simpa using (J2.mp z).2
   rw[aW a4];exact h1
  .rw[ag Y]at D;obtain⟨w,ew,q⟩:=st.slot j m D;refine⟨w,ew,?_⟩;cases m with
   |val v=>exact Rep.mono J _ q
   |own zs =>
    obtain⟨ad,ws,rfl,q1,q2,q3,q4⟩:=q;exact⟨ad,ws,rfl,q1,Reps.mono J _ q2,mem ad (λz=>st.apart i j (.own xs) (.own zs) a Y e D rfl rfl es (by rw[ew,z])) q3,q4⟩
   |ownD zs =>
    obtain⟨ad,rfl,q1,q3,q4⟩:=q;exact⟨ad,rfl,q1.move (λ_ eo=>eo) J,mem ad (λz=>st.apart i j (.own xs) (.ownD zs) a Y e D rfl rfl es (by rw[ew,z])) q3,q4⟩
   |mutD zs =>
    obtain⟨ad,rfl,q1,q3,q4⟩:=q;exact⟨ad,rfl,q1.move (λ_ eo=>eo) J,mem ad (λz=>st.apart i j (.own xs) (.mutD zs) a Y e D rfl rfl es (by rw[ew,z])) q3,q4⟩
   |brwD zs=>exact q
   |brw zs=>obtain⟨ad,ws,rfl,q1,q2⟩:=q;exact⟨ad,ws,rfl,q1,Reps.mono J _ q2⟩
 .have h1:∀j zs,iJ zs=true->(put W i (.val (.lst xs)))[j]?=some (some zs)->W[j]?=some (some zs):=λj zs oz q=>by
   by_cases Y:i=j
   .subst Y;rw[ai Z]at q;cases q;cases oz
   .rw[ag Y]at q;exact q
  exact st.apart c d ps qs ad a2 (h1 c ps p1 e1) (h1 d qs p2 e2) p1 p2 e3 e4
 .have Y:i≠j:=λz=>by subst z;rw[ai Z]at D;cases D;cases a3
  rw[ag Y]at D;exact⟨D,rfl⟩
 .have Y:i≠j:=λz=>by subst z;rw[ai Z]at D;cases D
  rw[ag Y]at D;exact⟨⟨d',D⟩,rfl⟩
end
section
open AutoSeq1 (wpAny_loadPart')
open MeetsSeq MeetsSeq2 MeetsSeq3 SeqRoads2 AutoSeq1
def qC(l)(items)(n)(b)(z)(Z)(D)(J)(ao:¬(!items.isEmpty&&Builtin.List.listTooLong (items.size+z.size))=true)(U:items.size<=sizeLine)(aO:items.size+z.size<=sizeLine+1) :
  Meets (Builtin.«list.extend» ⟨[.ref l,.ref b],[]⟩) (λ_ R s=>s.heap.get? l=some { cls:=.type "list",dict:=none,data:=.seq items n,slots:=#[] }/\s.heap.get? b=some { cls:=.type "tuple",dict:=D,data:=.seq z Z,slots:=J }/\R (.ok (.ret Value.none)) { s with heap:=s.heap.update l (Obj.mapSeq λx=>x++z),toks:=s.toks }):=
 .of_wp λprog w A R s h=>by
  obtain⟨hp,g,d,tk,os⟩:=s;obtain⟨Y,hb,h⟩:=h;have f1:=AutoSeq1.idx_int;have f2:=Ml;have f3:=AutoSeq1.sub_list_list;have f4:=AutoSeq1.sub_tuple_list;have f5:=AutoSeq1.sub_list_tuple;
  wp_walk using (wpAny_updateSeq Y rfl (hz:=U)),wpAny_loadPart' Y,wpAny_loadPart' hb;exact⟨_,rfl,h⟩
def qD(l)(items)(n)(b)(z)(Z)(D)(J)(ao:¬(!items.isEmpty&&Builtin.List.listTooLong (items.size+z.size))=true)(U:items.size<=sizeLine)(aO:items.size+z.size<=sizeLine+1) :
  Meets (Builtin.«list.extend» ⟨[.ref l,.ref b],[]⟩) (λ_ R s=>s.heap.get? l=some { cls:=.type "list",dict:=none,data:=.seq items n,slots:=#[] }/\s.heap.get? b=some { cls:=.type "list",dict:=D,data:=.seq z Z,slots:=J }/\R (.ok (.ret Value.none)) { s with heap:=s.heap.update l (Obj.mapSeq λx=>x++z),toks:=s.toks }):=
 .of_wp λprog w A R s h=>by
  obtain⟨hp,g,d,tk,os⟩:=s;obtain⟨Y,hb,h⟩:=h;have f1:=AutoSeq1.idx_int;have f2:=Ml;have f3:=AutoSeq1.sub_list_list;have f4:=AutoSeq1.sub_tuple_list;have f5:=AutoSeq1.sub_list_tuple;
  wp_walk using (wpAny_updateSeq Y rfl (hz:=U)),wpAny_loadPart' Y,wpAny_loadPart' hb;exact⟨_,rfl,h⟩
end
section
variable{X:Cx}{T:Tab}{k:Nat}{cal:Cal}
def uv:MtM X "list.extend" (λx vs H Q=>∃l b xs zs,x=.ref l/\vs=[.ref b]/\H l=some (.lst xs)/\(SqL X.K H b zs\/SqT X.K H b zs)/\xs.length+zs.length<=sizeLine/\Q .non (upd H l (.lst (xs++zs)))):=by
 intro pins s σ H x vs v us Q I rx rv h;refine aD λZq kq=>?_
 obtain⟨l,b,xs,zs,rfl,rfl,hH,Z,hz,q⟩:=h;cases rx;obtain⟨u,rfl,ru⟩:=rv.one;cases ru;obtain⟨z,its,n,r,hl,e⟩:=I.lstM hH;have fin:∀D,aH zs D->EP X pins σ Q .none { s with heap:=s.heap.update l (Obj.mapSeq λx=>x++D.toArray),toks:=s.toks }:=λD U =>
  ⟨.non,_,I.lset (its':=its++D) hH e (by simp) (r.append U) (by rw[tr];omega),rfl,q⟩
 refine kq ?_;rcases Z with Z|Z
 .obtain⟨D,U,pl,z2⟩:=I.list Z;have aO:=U.length;have Y:its.toArray.size+D.toArray.size<=sizeLine:=by rw[oe,oe];omega
  have J:¬ (!its.toArray.isEmpty&&Builtin.List.listTooLong (its.toArray.size+D.toArray.size))=true:=by
   rw[rA Y,Bool.and_false];exact il
  obtain⟨⟨cls,dd,data,sl⟩,ho,hc,n2,hd⟩:=pl.isList;simp only at hc hd;subst hc hd;exact Na PySem.F.slot_list_extend ⟨_,e,rfl⟩ PySem.F.entry_list_extend (PySem.F.args_list_extend_2 _ _) (qD l its.toArray n b D.toArray n2 dd sl J (by rw[oe];omega) (by omega)) ⟨e,ho,fin D U⟩
 .obtain⟨D,U,pl,z2⟩:=I.tuple Z;have aO:=U.length;have Y:its.toArray.size+D.toArray.size<=sizeLine:=by rw[oe,oe];omega
  have J:¬ (!its.toArray.isEmpty&&Builtin.List.listTooLong (its.toArray.size+D.toArray.size))=true:=by
   rw[rA Y,Bool.and_false];exact il
  obtain⟨⟨cls,dd,data,sl⟩,ho,hc,n2,hd⟩:=pl;simp only at hc hd;subst hc hd;exact Na PySem.F.slot_list_extend ⟨_,e,rfl⟩ PySem.F.entry_list_extend (PySem.F.args_list_extend_2 _ _) (qC l its.toArray n b D.toArray n2 dd sl J (by rw[oe];omega) (by omega)) ⟨e,ho,fin D U⟩
structure Df(X:Cx):Prop where
 nd:X.N.Nodup
 fn:∀x,X.fn x=true
 own:PassesOwn (model X.prog X.w) X.A X.env X.xe
 blk:(X.env.blockKind==.function)=true
def cZ(h:bW v=true)(t)(n)(env):swapsWith v t n env=pure false:=by
 cases v<;>first|rfl|(simp[bW]at h)
def wZ(d:Df X)(h:De X.env.scope x px v=true):swapsWith v (some (.Name x px)) n X.env=pure true:=by
 obtain⟨⟨e,gs,s,p⟩,w,h⟩:=ak h;obtain rfl:=ub w;show pure _=pure true;rw[d.blk,MF];exact Kj pure h
def PS.imp'(h:PS X e t)(i:∀D σ H,σ.length=X.N.length->t' D σ H->t D σ H):PS X e t':=λpins s σ H D I q=>h pins s σ H D I (i D σ H I.len q)
def ltN{N:List Str}{σ:St}(h:N[i]?=some x)(z:σ.length=N.length):i<σ.length:=by rw[z];exact(JY.mp h).1
def dc{K:Nx}(h:g7 K B E O W σ D (eR o f)):∃v,o=some v/\g7 K B E O W σ D (f v):=by
 cases o with
 |none=>exact(show False from h).elim
 |some v=>exact⟨v,rfl,h⟩
def w5{K:Nx}(h:g7 K B E O W σ D (yV o f)):∃v,o=some v/\g7 K B E O W σ D (f v):=by
 cases o with
 |none=>exact(show False from h).elim
 |some v=>exact⟨v,rfl,h⟩
def zF{K:Nx}(hi:i<σ.length)(U:aI J=false)(q:tS K cal (.set i J) D σ H):xQ (tE K cal J) (jp i) D σ H:=by
 obtain⟨B,E,O,W,st,q⟩:=q;obtain⟨w,e,q⟩:=dc q;refine⟨B,E,O,W,w,st,e,λu H' s g=>?_⟩;obtain⟨z,Y⟩:=(st.mono s).store hi (g.2 U);exact q _ H' O z Y
def HM(d:Df X)(hi:X.N[i]?=some x)(hx:Loc X.env.scope x)(h:PE X v (tE X.K cal z))(J:aI z=false)(hc:bW v=true):PS X (.Assign [.Name x px] v pos) (tS X.K cal (.set i z)):=
 PS.imp' (jC d.nd hi hx h (cZ hc _ _ _) (.inl (d.fn x))) λD σ H U q=>zF (ltN hi U) J q
def zG{K:Nx}(hi:i<σ.length)(q:tS K cal (.setOwn i J) D σ H):xQ (tF K cal J) (jp i) D σ H:=by
 obtain⟨B,E,O,W,st,q⟩:=q;obtain⟨w,e,q⟩:=dc q;cases w with
 |lst xs =>
  refine⟨B,E,O,W,xs,st,e,λp us H' s U Y r=>?_⟩;obtain⟨z,Z⟩:=st.storeOwn hi s U Y r;exact q _ H' _ z Z
 | _=>exact(show False from q).elim
def HN(d:Df X)(hi:X.N[i]?=some x)(hx:Loc X.env.scope x)(h:PE X v (tF X.K cal z))(hc:bW v=true):PS X (.Assign [.Name x px] v pos) (tS X.K cal (.setOwn i z)):=
 PS.imp' (jC d.nd hi hx h (cZ hc _ _ _) (.inl (d.fn x))) λD σ H J q=>zG (ltN hi J) q
def zH(h:PE X v (tE X.K cal Y))(hn:aX X.N X.env.scope i x=true)(hb:aI Y=false)(hs:ah v=true)(z:(apos.endLine==cpos.line)=true) :
  PS X (.Expr (.Call (.Attribute (.Name x p) "append" apos) [v] [] cpos) pos) (tS X.K cal (.append i Y)):=by
 refine(pX (yd PySem.F.plainAttrs_list PySem.F.slot_list_append PySem.F.type_list_append kU (cg hn) (aM h bL (aU hs _ _)) rfl (by rw[aU hs];rfl) z (aU hs _ _) rfl) rfl).imp λD σ H q=>?_
 obtain⟨B,E,O,W,st,q⟩:=q;obtain⟨w,e,q⟩:=dc q;cases J:(W[i]?).join with
 |none=>rw[J]at q;exact(show False from q).elim
 |some m =>
  rw[J]at q;cases m with
  |own xs =>
   dsimp only at q;split at q
   .rename_i hl;obtain⟨u,Z,a,us,rfl,ha,rs,hO,hB⟩:=aT st J;refine⟨_,Z,.inl ⟨rfl,us,SqL.of ha⟩,B,E,O,W,w,st,e,λu H1 s g=>⟨a,us,u,rfl,rfl,s _ _ ha,?_,?_⟩⟩
    .rw[<- rs.length];exact wh hl (by decide)
    .obtain⟨U,k'⟩:=(st.mono s).change (aG J) Z ((Reps.mono (al s) _ rs).snoc (g.2 hb));exact q _ _ _ U k'
   .exact(show False from q).elim
  | _=>exact(show False from q).elim
def zI(h:PE X v (tE X.K cal me))(hn:aX X.N X.env.scope i x=true)(hs:ah v=true)(z:(apos.endLine==cpos.line)=true) :
  PS X (.Expr (.Call (.Attribute (.Name x p) "extend" apos) [v] [] cpos) pos) (tS X.K cal (.extend i me)):=by
 refine(pX (yd PySem.F.plainAttrs_list PySem.F.slot_list_extend PySem.F.type_list_extend uv (cg hn) (aM h bL (aU hs _ _)) rfl (by rw[aU hs];rfl) z (aU hs _ _) rfl) rfl).imp λD σ H q=>?_
 refine aD λZq Y=>?_
 obtain⟨B,E,O,W,st,q⟩:=q;rw[ex]at q;obtain⟨w,e,q⟩:=dc q;refine Y ?_;cases U:(W[i]?).join with
 |none=>rw[U]at q;exact(show False from q).elim
 |some m =>
  rw[U]at q;cases m with
  |own xs =>
   cases hw:a_ w with
   |none=>rw[hw]at q;exact(show False from q).elim
   |some ys =>
    rw[hw]at q;dsimp only at q;split at q
    .refine aD λZq Y=>?_
     rename_i hl;obtain⟨u,eu,a,us,rfl,ha,rs,hO,hB⟩:=aT st U;refine Y ?_;refine⟨_,eu,.inl ⟨rfl,us,SqL.of ha⟩,B,E,O,W,w,st,e,λu H1 s g=>?_⟩;obtain⟨b,ws,rfl,sq,J⟩:=g.1.seq hw;refine⟨a,b,us,ws,rfl,rfl,s _ _ ha,sq,?_,?_⟩
     .rw[<- rs.length,<- J.length];exact cH hl
     .obtain⟨Z,k'⟩:=(st.mono s).change (aG U) eu ((Reps.mono (al s) _ rs).append J);exact q _ _ _ Z k'
    .exact(show False from q).elim
  | _=>exact(show False from q).elim
def Fg(d:Df X)(hi:X.N[i]?=some x)(hx:Loc X.env.scope x):PS X (.Assign [.Name x px] (.Dict [] [] dp) pos) (tS X.K cal (.newD m i)):=by
 cases m with
 |false =>
  refine PS.imp' (jC d.nd hi hx yi (cZ rfl _ _ _) (.inl (d.fn x))) λD σ H Y q=>?_
  obtain⟨B,E,O,W,st,q⟩:=q;intro p U;obtain⟨J,Z⟩:=st.storeM (mm:=.ownD _) (ltN hi Y) (az U _) U (by rw[ay];simp) rfl (λ_ z=>by cases z) λhB=>⟨p,rfl,ay,K4,hB⟩
  exact q _ _ _ J Z
 |true =>
  refine PS.imp' (jC d.nd hi hx yj (cZ rfl _ _ _) (.inl (d.fn x))) λD σ H Y q=>?_
  obtain⟨B,E,O,W,st,q⟩:=q;intro p U;obtain⟨J,Z⟩:=st.storeM (mm:=.ownD _) (ltN hi Y) (az U _) U (by rw[ay];simp) rfl (λ_ z=>by cases z) λhB=>⟨p,rfl,ay,K4,hB⟩
  exact q _ _ _ J Z
def Fh(g0:Gf X T k cal)(hk:PE X s (tE X.K cal mk))(h:PE X v (tE X.K cal me))(hn:aX X.N X.env.scope i x=true)(hc:bW v=true) :
  PS X (.Assign [.Subscript (.Name x p) s a2] v pos) (tS X.K cal (.dput i mk me)):=by
 have hu:X.A.units+1<cLine:=by have:=g0.units;omega
 refine(BE hu (cg hn) hk h (by cases v<;>first|rfl|(simp[bW]at hc))).imp λD σ H q=>?_
 obtain⟨B,E,O,W,st,q⟩:=q;rw[ex]at q;obtain⟨w,e,q⟩:=dc q;obtain⟨kv,ek,q⟩:=dc q;cases U:(W[i]?).join with
 |none=>rw[U]at q;exact(show False from q).elim
 |some m =>
  rw[U]at q;cases m with
  |ownD d =>
   cases hz:sc? w with
   |none=>rw[hz]at q;exact(show False from q).elim
   |some sz =>
    rw[hz]at q;dsimp only at q;cases hd:qh d kv sz with
    |none=>rw[hd]at q;exact(show False from q).elim
    |some d' =>
     rw[hd]at q;obtain⟨u,Y,a,rfl,ha,hO,hB⟩:=aT st U;refine⟨B,E,O,W,w,st,e,λu H1 z g1=>⟨_,Y,B,E,O,W,_,st.mono z,ek,λuk H2 Z g2=>?_⟩⟩;refine⟨a,_,rfl,by rw[uu hz g1.1];exact vM hd (Z _ _ (z _ _ (ha.put1 hd))) g2.1,?_⟩;obtain⟨J,k'⟩:=((st.mono z).mono Z).changeD (ys:=d') (aG U) Y λ_=>.put2 hd ay
     exact q _ _ _ J k'
  |mutD d =>
   cases hz:sc? w with
   |none=>rw[hz]at q;exact(show False from q).elim
   |some sz =>
    rw[hz]at q;dsimp only at q;cases hd:qh d kv sz with
    |none=>rw[hd]at q;exact(show False from q).elim
    |some d' =>
     rw[hd]at q;obtain⟨u,Y,a,rfl,ha,hO,hB⟩:=aT st U;refine⟨B,E,O,W,w,st,e,λu H1 z g1=>⟨_,Y,B,E,O,W,_,st.mono z,ek,λuk H2 Z g2=>?_⟩⟩;refine⟨a,_,rfl,by rw[uu hz g1.1];exact vM hd (Z _ _ (z _ _ (ha.put1 hd))) g2.1,?_⟩;obtain⟨J,k'⟩:=((st.mono z).mono Z).changeU (ys:=d') (aG U) Y λ_=>.put2 hd ay
     exact q _ _ _ J k'
  | _=>exact(show False from q).elim
def HP(h:PE X v (tE X.K cal J))(z:aI J=false):PS X (.Return (some v) pos) (tS X.K cal (.ret J)):=by
 refine(pY h).imp λD σ H q=>?_
 obtain⟨B,E,O,W,st,q⟩:=q;obtain⟨w,e,q⟩:=dc q;exact⟨B,E,O,W,w,st,e,λu H' s g=>q u H' (st.keep.trans s) (Rep.mono (bI (aj.refl H') λb z=>.inl (st.sub b z)) _ (g.2 z))⟩
def Fi(h:PE X v (tE X.K cal z))(J:aI z=false):PS X (.Return (some v) pos) (tS X.K cal (.retM z)):=by
 refine(pY h).imp λD σ H q=>?_
 obtain⟨B,E,O,W,st,q⟩:=q;obtain⟨w,e,q⟩:=dc q;exact⟨B,E,O,W,w,st,e,λu H' s g=>q u σ H' O (st.mono s) .refl (g.2 J)⟩
def zJ(hn:aX X.N X.env.scope i x=true):PS X (.Return (some (.Name x p)) pos) (tS X.K cal (.retOwn i)):=by
 refine(pY (cg hn)).imp λD σ H q=>?_
 obtain⟨B,E,O,W,st,q⟩:=q;rw[ex]at q;have low:=bI (aj.refl H) λb hb=>.inl (st.sub b hb)
 cases J:(W[i]?).join with
 |none=>rw[J]at q;exact(show False from q).elim
 |some m =>
  rw[J]at q;cases m with
  |val v =>
   obtain⟨u,U,so⟩:=aT st J;exact⟨_,U,q _ H st.keep (Rep.mono low _ so)⟩
  |own xs =>
   obtain⟨u,U,a,us,rfl,Y,rs,hO,Z⟩:=aT st J;refine⟨_,U,q _ H st.keep ?_⟩;rw[Rep];refine⟨a,us,rfl,SqL.of ?_,Reps.mono low _ rs⟩;rw[aW λz=>st.old a z Z];exact Y
  |ownD kvs =>
   dsimp only at q;split at q
   .rename_i np;obtain⟨u,U,a,rfl,Y,hO,Z⟩:=aT st J;refine⟨_,U,q _ H st.keep ?_⟩;rw[Rep];refine⟨a,rfl,.inl ?_,np⟩;rw[aW λz=>st.old a z Z];exact Y.np np
   .exact(show False from q).elim
  | _=>exact(show False from q).elim
def JA(hc:PT X t (tT X.K cal c))(z:PSs X x (tSs X.K cal a))(J:PSs X y (tSs X.K cal b)):PS X (.If t x y pos) (tS X.K cal (.ite c a b)):=by
 refine(GK hc z J).imp λD σ H q=>?_
 obtain⟨B,E,O,W,st,q⟩:=q;obtain⟨w,e,q⟩:=w5 q;refine⟨B,E,O,W,w,st,e,λH' s=>?_⟩;cases w<;>first|(rw[if_pos rfl]at q ⊢;exact⟨B,E,O,W,st.mono s,q⟩)|(rw[if_neg (by simp)]at q ⊢;exact⟨B,E,O,W,st.mono s,q⟩)
def Fj{st:Stmt}(h1:PS X st (tS X.K cal m))(h2:PSs X ss (tSs X.K cal ms)):PSs X (st::ss) (tSs X.K cal (m::ms)):=by
 refine(xN h1 h2).imp λD σ H q=>?_
 obtain⟨B,E,O,W,st,q⟩:=q;refine⟨B,E,O,W,st,?_⟩;rw[exs]at q;cases e:ex cal m W with
 |next l=>rw[e]at q;exact λF H' J z k=>⟨B,E,J,l,z,g7.trans q k⟩
 | _=>rw[e]at q;exact q
def HR:PSs X [] (tSs X.K cal []):=by
 refine Bk.imp λD σ H q=>?_
 obtain⟨B,E,O,W,st,q⟩:=q;exact q σ H O st .refl
end
inductive cB(σ:St)(W:Rho):List Bool->List ME->List MV->List V->List Addr->List Nat->Prop where
 | nil:cB σ W [] [] [] [] [] []
 | mutd {i:Nat}{d:DD}{a:Addr}{bs:List Bool}{es:List ME}{as:List MV}{vs:List V}{ms:List Addr}{is:List Nat} (hd:gY (W[i]?).join=some d) (hσ:σ[i]?=some (some (.ref a))) (hi:i∉is) (ha:a∉ms) (t:cB σ W bs es as vs ms is):cB σ W (true::bs) (.bor i::es) (.mutD d::as) (.ref a::vs) (a::ms) (i::is)
 | other {e:ME}{m:MV}{v:V}{bs:List Bool}{es:List ME}{as:List MV}{vs:List V}{ms:List Addr}{is:List Nat} (hm:∀d,m≠.mutD d) (t:cB σ W bs es as vs ms is):cB σ W (false::bs) (e::es) (m::as) (v::vs) ms is
def fw(h:gY o=some d):o=some (.ownD d)\/o=some (.mutD d):=by
 match o,h with
 |some (.ownD _),rfl=>exact .inl rfl
 |some (.mutD _),rfl=>exact .inr rfl
section
variable{σ:St}{W:Rho}{bs:List Bool}{es:List ME}{as:List MV}{vs:List V}{ms:List Addr}{is:List Nat}
def cB.addr(h:cB σ W bs es as vs ms is):∀a∈ms,∃j∈is,σ[j]?=some (some (.ref a))/\∃d,gY (W[j]?).join=some d:=by
 induction h with
 |nil=>intro a J;cases J
 |mutd hd z hi J t ih =>
  intro b D;rcases tf.mp D with rfl|D
  .exact⟨_,.head _,z,_,hd⟩
  .obtain⟨j,h1,h2⟩:=ih b D;exact⟨j,.tail _ h1,h2⟩
 |other hm t ih=>exact ih
theorem cB.put(h:cB σ W bs es as vs ms is)(hi:i∉is):cB σ (fN W i d) bs es as vs ms is:=by
 induction h with
 |nil=>exact .nil
 |mutd hd D J Y t ih =>
  rename_i j _ _ _ _ _ _ _ is;refine .mutd ?_ D J Y (ih λz=>hi (.tail _ z));have U:i≠j:=λz=>hi (z ▸ .head _)
  have:(fN W i d)[j]?=W[j]?:=by
   unfold fN;split<;>exact Ki U
  rw[this];exact hd
 |other hm t ih=>exact .other hm (ih hi)
theorem cB.at{K:Nx}(st:aE K B E O H W σ)(h:cB σ W bs es as vs ms is):∃ds,cA K O H as vs ds ms:=by
 induction h with
 |nil=>exact⟨[],.nil⟩
 |mutd hd z hi U t ih =>
  obtain⟨ds,q⟩:=ih;rename_i i d a bs es as vs ms is;refine⟨.dI d::ds,.mutd ?_ U q⟩;rcases fw hd with e|e
  .obtain⟨u,D,Y,J,h1,_⟩:=st.slot _ _ (aG e);rw[z]at D;cases D;cases J;exact h1
  .obtain⟨u,D,Y,J,h1,_⟩:=st.slot _ _ (aG e);rw[z]at D;cases D;cases J;exact h1
 |other hm t ih =>
  obtain⟨ds,q⟩:=ih;exact⟨ds,.other hm q⟩
theorem cB.inO{K:Nx}(st:aE K B E O H W σ)(h:cB σ W bs es as vs ms is):∀a∈ms,a∈O:=λa J=>by
 obtain⟨j,_,D,d,U⟩:=h.addr a J;rcases fw U with e|e
 .obtain⟨u,z,Y,rfl,_,h2,_⟩:=aT st e;rw[D]at z;cases z;exact h2
 .obtain⟨u,z,Y,rfl,_,h2,_⟩:=aT st e;rw[D]at z;cases z;exact h2
theorem nL{K:Nx} :∀{bs}{es}{as}{vs}{ms}{is}{W l}{H}{ds},cB σ W bs es as vs ms is->aE K B E O H W σ->(∀b,b∉ms->H b=H' b)->cA K O H' as vs ds ms->kf bs es ds W=some l->aE K B E O H' l σ/\bi B O O W l σ σ
 | _,_,_,_,_,_,W,l,H,ds,.nil,st,J,hm,e=>by
  cases hm;rw[kf]at e;cases e;have hh:=funext λb=>J b λz=>nomatch z
  subst hh;exact⟨st,.refl⟩
 | _,_,_,_,_,_,W,l,H,ds,.other hn t,st,J,hm,e=>by
  cases hm with
  |mutd=>exact absurd rfl (hn _)
  |other _ hm =>
   rw[kf]at e;exact nL t st J hm e
 | _,_,_,_,_,_,W,l,H,ds,.mutd (i:=i) (a:=a) hd D hi ha t,st,J,hm,e=>by
  cases hm with
  |other h0=>exact absurd rfl (h0 _)
  |mutd h1 h2 hm =>
   rename_i d' ds;rw[kf]at e;obtain⟨o,ho⟩:=h1.here;have inO:=t.inO st;have aO:=(cB.mutd hd D hi ha t).inO st a (.head _);have dd:DAt K (upd H a o) O a d':=h1.move (λu eu=>by rw[ho]at eu;cases eu;exact ay) λb u Y=>by
    have U:b∉O:=λz=>by rw[eV z]at Y;cases Y
    rw[aW U]at Y ⊢;have ne:b≠a:=λz=>U (by rw[z];exact aO)
    rw[aZ ne,J b λw=>(tf.mp w).elim ne λz=>U (inO b z)];exact Y
   have key:aE K B E O (upd H a o) (fN W i d') σ/\bi B O O W (fN W i d') σ σ:=by
    rcases fw hd with q|q
    .have Z:fN W i d'=put W i (.ownD d'):=by unfold fN;rw[q];rfl
     rw[Z];exact st.changeD (aG q) D λ_=>dd
    .have Z:fN W i d'=put W i (.mutD d'):=by unfold fN;rw[q];rfl
     rw[Z];exact st.changeU (aG q) D λ_=>dd
   obtain⟨ao,k1⟩:=key;obtain⟨a0,k2⟩:=nL (t.put hi) ao (λb U=>by
    by_cases z:b=a
    .simp_all
    .rw[aZ z];exact J b λw=>(tf.mp w).elim z U) hm e
   exact⟨a0,k1.trans k2⟩
def vQ{K:Nx}(J:cB σ W bs es as vs ms is)(st:aE K B E O H W σ)(U:∀b o,b∉ms->H b=some o->H' b=some o)(Y:cA K O H' as vs ds ms)(e:kf bs es ds W=some l):aE K B E O H' l σ/\bi B O O W l σ σ:=
 nL J (st.mono (H':=λb=>if b∈ms then H b else H' b) λb o D=>by
  by_cases z:b∈ms
  .exact(if_pos z).trans D
  .exact(if_neg z).trans (U b o z D)) (λb Z=>if_neg Z) Y e
end
noncomputable def tAM(K:Nx)(cal:Cal)(mask:List Bool)(ms:List ME):TA:=λσ H Q=>∃B E O W vs,aE K B E O H W σ/\evM cal mask ms W=some vs/\∀us H' as,aj H H'->Paired (EQ K O H') vs us->cB σ W mask ms vs us as (fu mask ms)->Q us H'
section
variable{X:Cx}{T:Tab}{k:Nat}{cal:Cal}
def w8:PA X [] (tAM X.K cal [] []):=by
 refine bL.imp λσ H Q q=>?_
 obtain⟨B,E,O,W,vs,st,z,q⟩:=q;cases z;exact q [] H [] (aj.refl H) .nil .nil
def zK(h:aX X.N X.env.scope i x=true)(hi:i∉fu bs ms)(hs:PA X es (tAM X.K cal bs ms)):PA X (.Name x pos::es) (tAM X.K cal (true::bs) (.bor i::ms)):=by
 refine(aM (cg h) hs rfl).imp λσ H Q q=>?_
 refine aD λZq kq=>?_
 obtain⟨B,E,O,W,vs,st,J,q⟩:=q;rw[evM]at J;simp[ft,mu]at J;obtain⟨d,J,ws,e2,rfl⟩:=J;obtain⟨m,hj,om,so⟩:∃m,(W[i]?).join=some m/\iJ m=true/\∃a,σ[i]?=some (some (.ref a))/\DAt X.K H O a d/\a∈O:=by
  rcases fw J with e|e
  .obtain⟨u,D,a,rfl,h1,h2,_⟩:=aT st e;exact⟨_,e,rfl,a,D,h1,h2⟩
  .obtain⟨u,D,a,rfl,h1,h2,_⟩:=aT st e;exact⟨_,e,rfl,a,D,h1,h2⟩
 obtain⟨a,D,h1,h2⟩:=so;refine kq ?_;refine⟨_,D,B,E,O,W,ws,st,e2,λus H2 as Y g2 ma=>q _ H2 _ Y (.cons ⟨a,rfl,h1.move (Y _) (al Y),h2⟩ g2) (.mutd J D hi (λz=>?_) ma)⟩;obtain⟨j,Z,ej,d2,ao⟩:=ma.addr a z;have U:i≠j:=λw=>hi (w▸Z)
 rcases fw ao with e|e
 .exact st.apart i j m _ a U (aG hj) (aG e) om rfl D ej
 .exact st.apart i j m _ a U (aG hj) (aG e) om rfl D ej
def uA(U:aI m=false)(h:PE X e (tE X.K cal m))(hs:PA X es (tAM X.K cal bs ms))(hn:ah e=true):PA X (e::es) (tAM X.K cal (false::bs) (m::ms)):=by
 refine(aM h hs (aU hn es _)).imp λσ H Q q=>?_
 obtain⟨B,E,O,W,vs,st,D,q⟩:=q;rw[evM,ft]at D;obtain⟨a,e0,D⟩:=D;have J:(ev cal m W).bind (λv=>some [MV.val v])=some a:=by
  rw[<- e0];cases m<;>first|(cases U;done)|(simp only[evA];rfl)
 rw[ft]at J;obtain⟨v,e9,e8⟩:=J;cases e8;rw[mu]at D;obtain⟨ws,e2,rfl⟩:=D;exact⟨B,E,O,W,v,st,e9,λu H1 Y g1=>⟨B,E,O,W,ws,st.mono Y,e2,λus H2 as Z g2 ma=>q _ H2 as (Y.trans Z) (.cons (show Rep X.K _ v u from(g1.mono Z).2 U) g2) (.other (λ_ z=>by cases z) ma)⟩⟩
def w9(h:aX X.N X.env.scope i x=true)(hs:PA X es (tAM X.K cal bs ms)):PA X (.Name x pos::es) (tAM X.K cal (false::bs) (.bor i::ms)):=by
 refine(aM (cg h) hs rfl).imp λσ H Q q=>?_
 obtain⟨B,E,O,W,vs,st,D,q⟩:=q;rw[evM,ft]at D;obtain⟨a,J,D⟩:=D;rw[evA,evA]at J;cases U:(W[i]?).join with
 |none=>rw[U]at J;cases J
 |some m =>
  rw[U]at J;obtain⟨u,Z,so⟩:=aT st U;cases m with
  |val w =>
   cases J;dsimp only at D;rw[mu]at D;obtain⟨ws,e2,rfl⟩:=D;exact⟨u,Z,⟨B,E,O,W,ws,st,e2,λus H2 as Y g2 ma=>q (u::us) H2 as Y (.cons (show Rep X.K (aw H2 O) w u from Rep.mono (al Y) _ so) g2) (.other (λ_ z=>by cases z) ma)⟩⟩
  | _=>cases J;cases D
theorem qE(g:Gf X T k cal):∀bs ms es,chks T ms X.N X.env.scope es=true->jM bs ms=true->(fu bs ms).Nodup->PA X es (tAM X.K cal bs ms)
 | [],[],es,h,_,_=>by
  cases es<;>first|exact w8|simp[chks]at h
 | [],_::_,_,_,h2,_=>by cases h2
 |true::_,[],_,_,h2,_=>by cases h2
 |false::_,[],_,_,h2,_=>by cases h2
 |b::bs,m::ms,es,h,h2,J=>by
  cases es with
  |nil=>simp[chks]at h
  |cons e es =>
   simp[chks,g4]at h;cases b with
   |true =>
    have z:(aI m&&jM bs ms)=true:=h2;rw[g4]at z;have D:=z.1;obtain⟨i,rfl⟩:=nt D;obtain⟨x,p,rfl,h1⟩:=kh h.1.1;obtain⟨U,Y⟩:=Ku.mp (show(_::fu bs ms).Nodup from J);exact zK h1 U (qE g bs ms es h.2 z.2 Y)
   |false =>
    have hs:=qE g bs ms es h.2 (show jM bs ms=true from h2) (show(fu bs ms).Nodup from J);cases D:aI m with
    |false=>exact uA D (ax m g h.1.1).1 hs h.1.2
    |true =>
     obtain⟨i,rfl⟩:=nt D;obtain⟨x,p,rfl,h1⟩:=kh h.1.1;exact w9 h1 hs
end
def w_(h:rU cal f mask ms W=some (v,l)):∃ds,((evM cal mask ms W).bind λvs=>cal (f+2000) vs)=some (.tup (v::ds))/\kf mask ms ds W=some l:=by
 unfold rU at h;split at h
 .rename_i v ds e
  simp_all
 .cases h
section
variable{X:Cx}{T:Tab}{k:Nat}{cal:Cal}
noncomputable def tMr(K:Nx)(cal:Cal)(f:Nat)(mask:List Bool)(ms:List ME):TE:=λσ H Q=>∃B E O W vs v ds,aE K B E O H W σ/\evM cal mask ms W=some vs/\cal (f+2000) vs=some (.tup (v::ds)) /\
 ∀u us as H1 H',aj H H1->cB σ W mask ms vs us as (fu mask ms)->(∀b o,b∉as->H1 b=some o->H' b=some o)->cA K O H' vs us ds as->Rep K (aw H' O) v u->Q u H'
def vR(g:Gf X T k cal)(Y:T.fs[f]?=some x)(Z:glB X.env.scope x=true)(hn:aq x=true)(ha:PA X (e::es) (tAM X.K cal mask ms))(hs:(e::es).all ah=true):PE X (.Call (.Name x p) (e::es) [] pos) (tMr X.K cal f mask ms):=by
 obtain⟨fa,fd,ps,h1,h2,h3,F⟩:=g.fnsD f x Y;simp only[all_cons,g4]at hs;refine(mf F g.room (dq Z) h1 h2 h3 .nil rB ha (iq hn).1 (aU hs.1 es _) (bY hs.2)).imp λσ H Q q=>?_
 obtain⟨B,E,O,W,vs,v,ds,st,e1,e3,q⟩:=q;refine⟨B,E,O,W,vs,st,e1,λus H1 as D g1 U=>?_⟩;show spD X.K cal f (us++[]) H1 Q E0;rw[Ll];obtain⟨z,J⟩:=U.at (st.mono D);exact⟨O,vs,v,ds,z,as,bw D st.here,g1,J,e3,λu H' hk hm ru=>q u us as H1 H' D U hk hm ru⟩
end
def cA.mono{K:Nx}(h:cA K O H args vs ds ms)(s:∀a∈ms,∀o,H a=some o->H' a=some o)(v:aj (aw H O) (aw H' z)):cA K z H' args vs ds ms:=by
 induction h with
 |nil=>exact .nil
 |mutd h D t ih=>exact .mutd (h.move (s _ (.head _)) v) D (ih λa J=>s a (.tail _ J))
 |other h t ih=>exact .other h (ih s)
def cA.here{K:Nx}(h:cA K O H args vs ds ms):∀a∈ms,H a≠none:=by
 induction h with
 |nil=>intro a z;cases z
 |mutd h D t ih =>
  simp_all
 |other h t ih=>exact ih
theorem cB.own{K:Nx}(st:aE K B E O H W σ)(h:cB σ W bs es as vs ms is):∀a∈ms,a∈O/\B a=none/\∃o,H a=some o:=λa U=>by
 obtain⟨j,_,J,d,Y⟩:=h.addr a U;rcases fw Y with e|e
 .obtain⟨u,z,Z,rfl,h1,h2,D⟩:=aT st e;rw[J]at z;cases z;exact⟨h2,D,h1.here⟩
 .obtain⟨u,z,Z,rfl,h1,h2,D⟩:=aT st e;rw[J]at z;cases z;exact⟨h2,D,h1.here⟩
def jg{O as:List Addr}(h:∀a∈as,a∈O)(J:∀b o,b∉as->H1 b=some o->H' b=some o):aj (aw H1 O) (aw H' O):=λb o e=>by
 have D:b∉O:=λz=>by rw[eV z]at e;cases e
 rw[aW D]at e ⊢;exact J b o (λz=>D (h b z)) e
section
variable{X:Cx}{T:Tab}{k:Nat}{cal:Cal}
noncomputable def tSr(K:Nx)(cal:Cal)(j:SK)(e:ME)(f:Nat)(mask:List Bool)(ms:List ME):TE:=λσ H Q=>∃B E O W w vs v ds r,aE K B E O H W σ/\ev cal e W=some w/\evM cal mask ms W=some vs/\cal (f+2000) vs=some (.tup (v::ds))/\Da j w v=some r /\
 ∀u us as H1 H',aj H H1->cB σ W mask ms vs us as (fu mask ms)->(∀b o,b∉as->H1 b=some o->H' b=some o)->cA K O H' vs us ds as->Rep K (aw H' O) r u->Q u H'
def pH{K:Nx}(st:aE K B E O H W σ)(D:aj H H1)(J:∀b o,b∉as->H1 b=some o->H' b=some o)(U:cA K O H' args vs ds as):∀a∈O,H' a≠none:=λa Y=>by
 by_cases z:a∈as
 .exact U.here a z
 .cases e:H1 a with
  |none=>exact absurd (D.free e) (st.here a Y)
  |some o=>rw[J a o z e];simp
def HS(h:PE X c (tMr X.K cal f mask ms)):PE X c (tSr X.K cal .one (.cst .non) f mask ms):=by
 refine h.imp λσ H Q q=>?_
 obtain⟨B,E,O,W,w,vs,v,ds,r,st,U,z,D,J,q⟩:=q;cases J;exact⟨B,E,O,W,vs,v,ds,st,z,D,q⟩
def Fk(D:aI e=false)(ha:PE X l (tE X.K cal e))(h:PE X c (tMr X.K cal f mask ms)):PE X (.BinOp l .Add c pos) (tSr X.K cal .cat e f mask ms):=by
 refine(uZ (uj .add) ha h).imp λσ H Q q=>?_
 refine aD λZq kq=>?_
 obtain⟨B,E,O,W,w,vs,v,ds,r,st,e1,e2,e3,e4,q⟩:=q;refine kq ?_;refine⟨B,E,O,W,w,st,e1,λux H1 z g1=>⟨B,E,O,W,vs,v,ds,st.mono z,e2,e3,λuy us as H2 H' J Z U hm ry=>?_⟩⟩;have own:=Z.own (st.mono z);have rx:=Rep.mono ((al J).trans (jg (λa h=>(own a h).1) U)) _ (g1.2 D);exact⟨O,w,v,r,pH (st.mono z) J U hm,.inl rx,.inl ry,e4,λu H3 Y ru=>q u us as H2 H3 (z.trans J) Z (λb o D eb=>Y b o (U b o D eb)) (hm.mono (λa _ o e=>Y a o e) (al Y)) ru⟩
def Cs(D:aI e=false)(hl:ah l=true)(hc:ah c=true)(ha:PE X l (tE X.K cal e))(h:PE X c (tMr X.K cal f mask ms)):PE X (.Tuple [l,c] j pos) (tSr X.K cal .pair e f mask ms):=by
 refine(tI (aM ha (aM h bL (aU hc _ _)) (aU hl _ _))).imp λσ H Q q=>?_
 refine aD λZq kq=>?_
 obtain⟨B,E,O,W,w,vs,v,ds,r,st,e1,e2,e3,e4,q⟩:=q;cases e4;refine kq ?_;refine⟨B,E,O,W,w,st,e1,λux H1 z g1=>⟨B,E,O,W,vs,v,ds,st.mono z,e2,e3,λuy us as H2 H' J Z U hm ry=>⟨cH (show 2<=10000 by decide),λp hp=>?_⟩⟩⟩;have own:=Z.own (st.mono z);have rx:=Rep.mono ((al J).trans (jg (λa h=>(own a h).1) U)) _ (g1.2 D);have Y:aj H' (upd H' p (.tup [ux,uy])):=az hp _;exact q _ us as H2 _ (z.trans J) Z (λb o D eb=>Y b o (U b o D eb)) (hm.mono (λa _ o e=>Y a o e) (al Y)) (g6 (pH (st.mono z) J U hm) hp (.cons rx (.cons ry .nil)))
def Fl(g:Gf X T k cal)(h:zf T j e f mask ms X.N X.env.scope v=true):PE X v (tSr X.K cal j e f mask ms):=by
 have call:∀c,fV T f mask ms X.N X.env.scope c=true->PE X c (tMr X.K cal f mask ms)/\ah c=true:=λc hc=>by
  obtain⟨y,p,args,cp,rfl,z⟩:=nu hc;simp only[g4,J0,KA,J7]at z;obtain⟨⟨⟨⟨⟨⟨J,U⟩,Y⟩,D⟩,Z⟩,q6⟩,q7⟩:=z;cases args with
  |nil=>cases q7
  |cons a args=>exact⟨vR g J U Y (qE g mask ms (a::args) D Z q6) (bJ D).1,rfl⟩
 cases j with
 |one =>
  have h:(uh e&&fV T f mask ms X.N X.env.scope v)=true:=h;rw[g4]at h;have e0:e=.cst .non:=by
   have h1:=h.1;unfold uh at h1;split at h1
   .rfl
   .cases h1
  subst e0;exact HS (call v h.2).1
 |cat =>
  unfold zf at h;dsimp only at h;split at h
  .rename_i q z;obtain⟨pos,rfl⟩:=B1 z;simp only[g4,J7]at h;exact Fk h.1.2 (ax e g h.1.1).1 (call _ h.2).1
  .cases h
 |pair =>
  unfold zf at h;dsimp only at h;split at h
  .rename_i q z;obtain⟨i,pos,rfl⟩:=B2 z;simp only[g4,J7]at h;exact Cs h.1.1.2 h.1.2 (call _ h.2).2 (ax e g h.1.1.1).1 (call _ h.2).1
  .cases h
noncomputable def de(H:Hp)(D:Addr):Hp:=λb=>if b=D then none else H b
def kB(H)(D):aj (de H D) H:=λb o e=>by
 unfold de at e
 simp_all
def nM(h:b≠D):de H D b=H b:=if_neg h
def uB(s:aj H H'):aj (de H D) (de H' D):=λb o e=>by
 unfold de at e ⊢;split at e
 .cases e
 .rename_i z;rw[if_neg z];exact s b o e
def jh :de (upd H D o) D=de H D:=by
 funext b
 unfold de;split
 .rfl
 .rename_i z;exact aZ z
def nO(h:H D=none):de H D=H:=by
 funext b
 unfold de
 simp_all
def xa(Y:js.Nodup)(Z:∀i D u,js[i]?=some D->ao[i+1]?=some (some u)->σ[D]?=some (some u))(h:cB ao (k_ js W x) bs es as vs ms is) :
  ∃J,cB σ W bs (es.map (Er js)) as vs ms J/\∀D∈J,∃i,i+1∈is/\js[i]?=some D:=by
 induction h with
 |nil=>exact⟨[],.nil,λD h=>by cases h⟩
 |mutd hd hs hi ha t ih =>
  rename_i i d a bs es as vs ms is;obtain⟨J,m',h'⟩:=ih;cases i with
  |zero=>cases hd
  |succ i =>
   unfold k_ at hd;rw[getElem?_cons_succ,Ka]at hd;cases U:js[i]? with
   |none=>rw[U]at hd;cases hd
   |some D =>
    rw[U]at hd;have e1:gY (W[D]?).join=some d:=by
     have hd:gY (BW (W[D]?).join)=some d:=hd;cases hj:(W[D]?).join with
     |none=>rw[hj]at hd;cases hd
     |some m=>rw[hj]at hd;cases m<;>first|(cases hd;done)|exact hd
    have e2:js.getD i 0=D:=by rw[KC,U];rfl
    refine⟨D::J,?_,λj2 h2=>?_⟩
    .rw[JX,show Er js (.bor (i+1))=.bor D from by show ME.bor (if i+1=0 then 0 else js.getD (i+1-1) 0)=.bor D;rw[if_neg (by omega),K0,e2]];refine .mutd e1 (Z i D _ U hs) (λz=>?_) ha m';obtain⟨i2,h3,h4⟩:=h' D z;have hl:=(JY.mp U).1;have:=(getElem?_inj hl Y).mp (U.trans h4.symm);exact hi (this▸h3)
    .rcases tf.mp h2 with rfl|h2
     .exact⟨i,.head _,U⟩
     .obtain⟨i2,h3,h4⟩:=h' j2 h2;exact⟨i2,.tail _ h3,h4⟩
 |other hm t ih =>
  obtain⟨J,m',h'⟩:=ih;exact⟨J,.other hm m',h'⟩
def Ct{K:Nx}{σ F:St}(a5:js.Nodup)(st:aE K B E O H W σ)(s:aj H H2)(hG:aj G H2)(hB:aj B G)(hO:∀a∈O,B a=none->G a=none)(hD:H D=none)(a6:H2 D≠none)
  (a7:∀z,F.set 0 z=(fM js σ).set 0 z) (hx:Rep K (aw H2 (D::O)) x ux):aE K G [] (D::O) H2 (k_ js W x) (F.set 0 (some ux)):=by
 have hv:aj (aw H O) (aw H2 (D::O)):=bI s λb hb=>by
  rcases tf.mp hb with rfl|hb
  .exact .inr hD
  .exact .inl hb
 rw[a7];have get:∀i m,(k_ js W x)[i+1]?=some (some m)->∃jj U u,js[i]?=some jj/\(W[jj]?).join=some U/\BW (some U)=some m/\σ[jj]?=some (some u)/\fo K B O H U u/\((fM js σ).set 0 (some ux))[i+1]?=some (some u):=λi m e=>by
  simp only[k_,getElem?_cons_succ,Ka,mu]at e;obtain⟨j,ej,e⟩:=e;cases hj:(W[j]?).join with
  |none=>rw[hj]at e;cases e
  |some mm =>
   rw[hj]at e;obtain⟨u,eu,Z⟩:=aT st hj;exact⟨j,mm,u,ej,hj,e,eu,Z,by simp[fM,ej,eu]⟩
 refine⟨hG,λa J=>?_,λa J=>by simp at J,λa J=>by simp at J,by simp[k_,fM],λi m e=>?_,λi i2 m m' a b1 e e' om aO es a0=>?_⟩
 .rcases tf.mp J with rfl|J
  .exact a6
  .exact λe=>st.here a J (s.free e)
 .cases i with
  |zero =>
   simp only[k_,getElem?_cons_zero,pd]at e;subst e;exact⟨ux,by simp[fM],hx⟩
  |succ i =>
   obtain⟨jj,U,u,ej,hj,e,eu,Z,b2⟩:=get i m e;refine⟨u,b2,?_⟩;cases U with
   |val w =>
    cases e;exact Rep.mono hv _ Z
   |own ys=>cases e
   |brw ys =>
    cases e;obtain⟨a,us,rfl,sq,rs⟩:=Z;exact⟨a,us,rfl,hB.seq sq,Reps.mono hv _ rs⟩
   |brwD kvs =>
    cases e;obtain⟨a,rfl,J⟩:=Z;exact⟨a,rfl,aj.rd hB J⟩
   | _ =>
    cases e;obtain⟨a,rfl,J,h1,h2⟩:=Z;exact⟨a,rfl,J.move (s _) hv,KD _ h1,hO a h1 h2⟩
 .have zero:∀m,(k_ js W x)[0]?=some (some m)->iJ m=true->False:=λm e o=>by
   simp only[k_,getElem?_cons_zero,pd]at e;subst e;cases o
  have Y:∀U m,BW (some U)=some m->iJ m=true->iJ U=true:=λU m e o=>by
   cases U<;>first|rfl|(cases e;cases o;done)|(cases e;done)
  cases i with
  |zero=>exact zero m e om
  |succ i =>
   cases i2 with
   |zero=>exact zero m' e' aO
   |succ i2 =>
    obtain⟨j1,n1,u1,a1,b3,c1,b4,_,a2⟩:=get i m e;obtain⟨j2,n2,u2,b5,cd,c2,ck,_,a3⟩:=get i2 m' e';rw[a2]at es;rw[a3]at a0;cases es;cases a0;refine st.apart j1 j2 n1 n2 a (λz=>b1 ?_) (aG b3) (aG cd) (Y _ _ c1 om) (Y _ _ c2 aO) b4 ck;subst z;have hl:=(JY.mp a1).1;rw[(getElem?_inj hl a5).mp (a1.trans b5.symm)]
def sx{K:Nx}{B H H1:Hp}{E O:List Addr}{W l:Rho}{σ:St}{J:It}{xs ws:List PV}{D:Addr}{Q:VK}(b2:js.Nodup)(st:aE K B E O H W σ)(s1:aj H H1)(a4:nE K J xs (aw H1 O) (be B O H1 []))(dr:xs.length<=10000)
  (e3:dj cal js j e f mask ms xs W=some (ws,l)) (hD:H1 D=none) (q:∀H',aj (aw H O) (aw H' O)->aE K B E O H' l σ->bi B O O W l σ σ->Rep K (aw H' O) (.lst ws) (.ref D)->Q (.ref D) H'):rN J (fM js σ) H1 (tT K cal (.cst (.bl true))) (tSr K cal j e f mask ms) D Q:=by
 have a5:D∉O:=λz=>bw s1 st.here D z hD
 have a0:=st.keep.trans s1;have gB:aj B (be B O H1 []):=dZ a0;have gO:∀a∈O,B a=none->be B O H1 [] a=none:=λa ha Z=>by
  unfold be;rw[if_pos ha,if_neg (λz=>nomatch z)];exact Z
 have gD:be B O H1 [] D=none:=by
  unfold be;rw[if_neg a5];exact hD
 refine⟨λi m F H'=>m=xs.length-i/\i<=xs.length/\(∀z,F.set 0 z=(fM js σ).set 0 z)/\0<F.length/\∃Y done bT ys,aE K B E O (de H' D) Y σ/\bi B O O W Y σ σ/\aj (be B O H1 []) (de H' D)/\dj cal js j e f mask ms (xs.drop i) Y=some (bT,l)/\ws=done++bT/\done.length<=i/\H' D=some (.lst ys)/\Reps K (aw H' (D::O)) done ys,⟨xs.length,by simp,Ke _,λ_=>rfl,by simp[fM],W,[],ws,[],?_,.refl,?_,by simpa using e3,rfl,lC _,ay,.nil⟩,?_⟩
 .rw[jh,nO hD];exact st.mono s1
 .rw[jh,nO hD];exact nF a0
 rintro i m F H' ⟨rfl,hi,a6,hl,Y,done,bT,ys,a1,ki,sG,eg,ew,en,a7,rs⟩;have ao:=sG.trans (kB H' D);by_cases a8:i<xs.length
 .right;have ex:=J1 a8;refine⟨a4.go i _ H' ao ex,λa9 H2=>∃m',m'<xs.length-i/\(m'=xs.length-(i+1)/\i+1<=xs.length/\(∀z,a9.set 0 z=(fM js σ).set 0 z)/\0<a9.length/\∃Y done bT ys,aE K B E O (de H2 D) Y σ/\bi B O O W Y σ σ/\aj (be B O H1 []) (de H2 D)/\dj cal js j e f mask ms (xs.drop (i+1)) Y=some (bT,l)/\ws=done++bT/\done.length<=i+1/\H2 D=some (.lst ys)/\Reps K (aw H2 (D::O)) done ys),λa9 H2 z=>z,λux H2 y=>?_⟩;obtain⟨s3,hr⟩:=a4.yld i _ H' ux H2 ao ex y;have sv:aj (aw H1 O) (aw H2 (D::O)):=λb o U=>by
   have Z:b∉O:=λz=>by rw[eV z]at U;cases U
   rw[aW Z]at U;have ba:b≠D:=λz=>by rw[z,hD]at U;cases U
   rw[aW λz=>(tf.mp z).elim ba Z];refine s3 b o (ao b o ?_);unfold be;rw[if_neg Z];exact U
  have hx:=hr (D::O) (λa ha=>by
   rcases tf.mp ha with rfl|ha
   .rw[a7];simp
   .exact λz=>a1.here a ha ((kB H' D).free z)) sv
  have b4:=s3 _ _ a7;have c0:=(kB H' D).trans s3;have br:=Ct (F:=F) b2 a1 c0 (ao.trans s3) gB gO (if_pos rfl) (by rw[b4];simp) a6 hx;rw[MQ a8,dj]at eg;simp only[ft]at eg;obtain⟨w,e1,eg⟩:=eg;refine⟨_,[],D::O,_,true,br,by simp[evB,ev,bb],λH3 s4=>?_⟩;dsimp only;rw[if_pos rfl];split at eg
  .refine aD λZq kq=>?_
   rename_i v ds ec;simp only[ft,mu]at eg ec;obtain⟨r,e4,c1,e5,⟨c2,eD⟩,e6,e7⟩:=eg;obtain⟨vs,e2,ec⟩:=ec;cases e7;refine kq ?_;refine⟨_,[],D::O,_,w,vs,v,ds,r,br.mono s4,e1,e2,ec,e4,λu us as H4 H5 s5 ma hk hm ru=>?_⟩;have own:=ma.own (br.mono s4);obtain⟨e0,mo,_⟩:=xa (σ:=σ) (W:=Y) (js:=js) b2 (λi jj u ej eu=>by
    rw[a6]at eu;have:(σ[jj]?).join=some u:=by simpa[fM,ej]using eu
    exact aG this) ma
   have aO:∀a∈as,a∈O:=λa ha=>(mo.own a1 a ha).1
   have cd:D∉as:=λz=>a5 (aO D z)
   have c5:=hk D _ cd (s5 _ _ (s4 _ _ b4));have ck:∀z,(F.set 0 (some ux)).set 0 z=(fM js σ).set 0 z:=λz=>by rw[set_set];exact a6 z
   have c6:0<(F.set 0 (some ux)).length:=by rw[Mn];exact hl
   have vw:aj (aw H' (D::O)) (aw H5 (D::O)):=((al s3).trans ((al s4).trans (al s5))).trans (jg (λa h=>KD _ (aO a h)) hk);have df:ys.length<=10000:=by rw[<- rs.length];omega
   have cl:∀b o,b∉as->de H4 D b=some o->de H5 D b=some o:=λb o Z U=>by
    have ba:b≠D:=λz=>by rw[z]at U;unfold de at U;rw[if_pos rfl]at U;cases U
    rw[nM ba]at U ⊢;exact hk b o Z U
   have cr:aj (de H' D) (de H4 D):=uB ((s3.trans s4).trans s5);obtain⟨dm,k6⟩:=vQ mo (a1.mono cr) cl (hm.mono (λa ha o eo=>by
    have dn:a≠D:=λz=>by rw[z]at ha;exact cd ha
    rw[nM dn];exact eo) λb o U=>by
    have Z:b∉D::O:=λz=>by rw[eV z]at U;cases U
    rw[aW Z]at U;rw[aW λz=>Z (.tail _ z),nM (show b≠D from λz=>Z (by rw[z];exact .head _))];exact U) e5
   refine⟨ys,c5,Kn df (by decide),_,by omega,rfl,a8,ck,c6,c1,done++[r],c2,ys++[u],?_,ki.trans k6,?_,e6,by rw[ew];simp,by simp;omega,ay,?_⟩
   .rw[jh];exact dm
   .rw[jh];intro b o U;refine cl b o (λz=>?_) (cr b o (sG b o U));have:=(own b z).2.1;rw[this]at U;cases U
   .rw[iW (K4)];exact(Reps.mono vw _ rs).snoc ru
  .cases eg
 .left;have ei:i=xs.length:=by omega
  subst ei;rw[drop_length,dj]at eg;cases eg;rw[Ll]at ew;subst ew;refine⟨a4.stop H' ao,q H' (λb o U=>?_) (a1.mono (kB H' D)) ki ?_⟩
  .have Z:b∉O:=λz=>by rw[eV z]at U;cases U
   rw[aW Z]at U ⊢;refine ao b o ?_;unfold be;rw[if_neg Z];exact s1 b o U
  rw[Rep];refine⟨D,ys,rfl,SqL.of ?_,Reps.mono ir _ rs⟩;rw[aW a5];exact a7
noncomputable def tX(K:Nx)(cal:Cal)(x:XE):TE:=λσ H Q=>∃B E O W v l,aE K B E O H W σ/\evX cal x W=some (v,l) /\
 ∀u H',aj (aw H O) (aw H' O)->aE K B E O H' l σ->bi B O O W l σ σ->Rep K (aw H' O) v u->Q u H'
noncomputable def tXs(K:Nx)(cal:Cal)(xs:List XE):TA:=λσ H Q=>∃B E O W vs l,aE K B E O H W σ/\evXs cal xs W=some (vs,l) /\
 ∀us H',aj (aw H O) (aw H' O)->aE K B E O H' l σ->bi B O O W l σ σ->Reps K (aw H' O) vs us->Q us H'
def Fm(D:aI m=false)(h:PE X e (tE X.K cal m)):PE X e (tX X.K cal (.pure m)):=by
 refine h.imp λσ H Q q=>?_
 obtain⟨B,E,O,W,v,l,st,z,q⟩:=q;rw[evX,mu]at z;obtain⟨w,z,J⟩:=z;cases J;exact⟨B,E,O,W,v,st,z,λu H' s g=>q u H' (al s) (st.mono s) .refl (g.2 D)⟩
def Fn(h:PE X e (tMr X.K cal f mask ms)):PE X e (tX X.K cal (.call f mask ms)):=by
 refine h.imp λσ H Q q=>?_
 obtain⟨B,E,O,W,v,l,st,Z,q⟩:=q;obtain⟨ds,z,e2⟩:=w_ (show rU cal f mask ms W=some _ from Z);rw[ft]at z;obtain⟨vs,z,e3⟩:=z;refine⟨B,E,O,W,vs,v,ds,st,z,e3,λu us as H1 H' D U Y hm ru=>?_⟩;obtain⟨J,k'⟩:=vQ U (st.mono D) Y hm e2;have own:=U.own (st.mono D);exact q u H' ((al D).trans (jg (λa h=>(own a h).1) Y)) J k' ru
def zL:∀{ns:List Int}{n},ns.getLast?=some n->(ns.map V.int).getLast?=some (V.int n):=by
 intro ns n h
 simp_all
def HU (hn:aX X.N X.env.scope i x=true) (J:(apos.endLine==cpos.line)=true):PE X (.Call (.Attribute (.Name x p) "pop" apos) [] [] cpos) (tX X.K cal (.pop i)):=by
 refine(D1 PySem.F.plainAttrs_list PySem.F.slot_list_pop PySem.F.type_list_pop D4 (cg hn) rfl J).imp λσ H Q q=>?_
 obtain⟨B,E,O,W,v,l,st,D,q⟩:=q;have D:BX i W=some (v,l):=D;unfold BX at D;cases hd:gY (W[i]?).join with
 |none=>rw[hd]at D;cases D
 |some d =>
  rw[hd]at D;cases d with
  |p ns =>
   rw[mu]at D;obtain⟨n,el,Y⟩:=D;cases Y;obtain⟨a,U,ha,hO,key⟩:∃a,σ[i]?=some (some (.ref a))/\H a=some (iT (.p ns))/\a∈O/\(aE X.K B E O (upd H a (iT (.p ns.dropLast))) (fN W i (.p ns.dropLast)) σ/\bi B O O W (fN W i (.p ns.dropLast)) σ σ):=by
    rcases fw hd with e|e
    .obtain⟨u,U,a,rfl,h1,h2,h3⟩:=aT st e;refine⟨a,U,h1,h2,?_⟩;have Y:fN W i (.p ns.dropLast)=put W i (.ownD (.p ns.dropLast)):=by unfold fN;rw[e];rfl
     rw[Y];exact st.changeD (aG e) U λ_=>ay
    .obtain⟨u,U,a,rfl,h1,h2,h3⟩:=aT st e;refine⟨a,U,h1,h2,?_⟩;have Y:fN W i (.p ns.dropLast)=put W i (.mutD (.p ns.dropLast)):=by unfold fN;rw[e];rfl
     rw[Y];exact st.changeU (aG e) U λ_=>ay
   have Z:aj (aw H O) (aw (upd H a (iT (.p ns.dropLast))) O):=λb o e=>by
    have hb:b∉O:=λz=>by rw[eV z]at e;cases e
    rw[aW hb]at e ⊢;rw[aZ (show b≠a from λz=>hb (z▸hO))];exact e
   have fin:=q (.int n) _ Z key.1 key.2 (cf _ _);have ao:(ns.map V.int)[(ns.map V.int).length-1]?=some (V.int n):=by
    rw[<- getLast?_eq_getElem?];exact zL el
   refine⟨_,U,.inl ⟨rfl,ns.map V.int,SqL.of ha⟩,a,ns.map V.int,.int n,rfl,rfl,ha,ao,?_⟩;have e9:(ns.map V.int).dropLast=ns.dropLast.map V.int:=map_dropLast.symm;rw[e9];exact fin
  | _=>cases D
def HV(Z:PE X l (tX X.K cal a))(hb:PE X r (tE X.K cal b)):PE X (.BinOp l (ue op) r pos) (tX X.K cal (.bin op a b)):=by
 refine(uZ (uj op) Z hb).imp λσ H Q q=>?_
 refine aD λZq kq=>?_
 obtain⟨B,E,O,W,v,ρ',st,D,q⟩:=q;rw[evX]at D;simp only[ft,mu]at D;obtain⟨⟨x,J⟩,D,y,e2,r,e3,e4⟩:=D;cases e4;refine kq ?_;exact⟨B,E,O,W,x,J,st,D,λux H1 v1 z k1 rx=>⟨B,E,O,J,y,z,e2,λuy H2 U g2=>⟨O,x,y,v,bw U z.here,.inl (Rep.mono (al U) _ rx),g2.1,e3,λu H3 Y ru=>q u H3 (v1.trans (al (U.trans Y))) (z.mono (U.trans Y)) k1 ru⟩⟩⟩
def JB(g:Gf X T k cal)(hf:T.fs[f]?=some x)(hg:glB X.env.scope x=true)(hn:aq x=true)(ha:PE X e (tX X.K cal a))(has:PA X es (tAs X.K cal ms))(D:ah e=true)(hs:es.all ah=true):PE X (.Call (.Name x p) (e::es) [] pos) (tX X.K cal (.fn f a ms)):=by
 obtain⟨fa,fd,ps,h1,h2,h3,F,_⟩:=g.fns f x hf;refine(mf F g.room (dq hg) h1 h2 h3 .nil rB (aM ha has (aU D es _)) (iq hn).1 (aU D es _) (bY hs)).imp λσ H Q q=>?_
 refine aD λZq kq=>?_
 obtain⟨B,E,O,W,v,l,st,J,q⟩:=q;rw[evX]at J;simp only[ft,mu]at J;obtain⟨⟨w,U⟩,J,vs,e2,r,e3,e4⟩:=J;cases e4;refine kq ?_;refine⟨B,E,O,W,w,U,st,J,λux H1 v1 z k1 rx=>⟨B,E,O,U,vs,z,e2,λus H2 Y g2=>⟨O,.val w::vs,v,bw Y z.here,?_,e3,λu H3 Z ru=>q u H3 (v1.trans (al (Y.trans Z))) (z.mono (Y.trans Z)) k1 ru⟩⟩⟩;rw[Ll];exact .cons (show Rep X.K (aw H2 O) w ux from Rep.mono (al Y) _ rx) g2
def HW:PA X [] (tXs X.K cal []):=by
 refine bL.imp λσ H Q q=>?_
 obtain⟨B,E,O,W,vs,l,st,z,q⟩:=q;cases z;exact q [] H (aj.refl _) st .refl .nil
def Fo(h:PE X e (tX X.K cal x))(hs:PA X es (tXs X.K cal xs))(Z:ah e=true):PA X (e::es) (tXs X.K cal (x::xs)):=by
 refine(aM h hs (aU Z es _)).imp λσ H Q q=>?_
 refine aD λZq kq=>?_
 obtain⟨B,E,O,W,vs,l,st,z,q⟩:=q;rw[evXs]at z;simp only[ft,mu]at z;obtain⟨⟨v,D⟩,z,⟨ws,a0⟩,e2,e3⟩:=z;cases e3;refine kq ?_;exact⟨B,E,O,W,v,D,st,z,λu H1 v1 J k1 ru=>⟨B,E,O,D,ws,_,J,e2,λus H2 Y U k2 rs=>q _ H2 (v1.trans Y) U (k1.trans k2) (.cons (Rep.mono Y _ ru) rs)⟩⟩
def HX(h:PA X es (tXs X.K cal xs)):PE X (.Tuple es j pos) (tX X.K cal (.tup xs)):=by
 refine(tI h).imp λσ H Q q=>?_
 obtain⟨B,E,O,W,v,l,st,D,q⟩:=q;rw[evX,ft]at D;obtain⟨⟨vs,ao⟩,D,J⟩:=D;dsimp only at J;split at J
 .rename_i hl;cases J;refine⟨B,E,O,W,vs,_,st,D,λus H1 v1 z k1 U=>⟨?_,λp Y=>?_⟩⟩
  .rw[<- U.length];exact cH hl
  .have Z:aj H1 (upd H1 p (.tup us)):=az Y _;exact q _ _ (v1.trans (al Z)) (z.mono Z) k1 (g6 z.here Y U)
 .cases J
def x_tupOf (g:Gf X T k cal) (Y:glB X.env.scope ("tuple":Str)=true) (Z:PE X e (tX X.K cal a)) (hs:ah e=true):PE X (.Call (.Name ("tuple":Str) p) [e] [] pos) (tX X.K cal (.tupOf a)):=by
 refine(c_ vH (dq Y) (g.blt "tuple" (by decide)) nJ (aM Z bL (aU hs _ _)) (by decide) (by decide) (aU hs [] _) (bY rfl)).imp λσ H Q q=>?_
 refine aD λZq kq=>?_
 obtain⟨B,E,O,W,v,l,st,z,q⟩:=q;rw[evX]at z;simp only[ft,mu]at z;obtain⟨⟨w,J⟩,z,r,e2,e3⟩:=z;cases e3;refine kq ?_;exact⟨B,E,O,W,w,J,st,z,λu H1 v1 D k1 ru=>⟨O,[w],_,D.here,.cons (.inl ru) .nil,e2,λu2 H2 U r2=>q u2 H2 (v1.trans (al U)) (D.mono U) k1 r2⟩⟩
def HY(h:PA X es (tXs X.K cal xs)):PE X (.List es pos) (tX X.K cal (.lst xs)):=by
 refine(tJ h).imp λσ H Q q=>?_
 obtain⟨B,E,O,W,v,l,st,D,q⟩:=q;rw[evX,ft]at D;obtain⟨⟨vs,ao⟩,D,J⟩:=D;dsimp only at J;split at J
 .rename_i hl;cases J;refine⟨B,E,O,W,vs,_,st,D,λus H1 v1 z k1 U=>⟨?_,λp Y=>?_⟩⟩
  .rw[<- U.length];exact cH hl
  .have Z:aj H1 (upd H1 p (.lst us)):=az Y _;exact q _ _ (v1.trans (al Z)) (z.mono Z) k1 (nz z.here Y U)
 .cases J
def HZ(g:Gf X T k cal)(hf:T.fs[f]?=some x)(hg:glB X.env.scope x=true)(hn:aq x=true)(hm:PE X l (tE X.K cal m))(hb:aI m=false)(ha:PE X r (tX X.K cal a))(z:ah l=true)(D:ah r=true):PE X (.Call (.Name x p) [l,r] [] pos) (tX X.K cal (.fn2 f m a)):=by
 obtain⟨fa,fd,ps,h1,h2,h3,F,_⟩:=g.fns f x hf;refine(mf F g.room (dq hg) h1 h2 h3 .nil rB (aM hm (aM ha bL (aU D _ _)) (aU z _ _)) (iq hn).1 (aU z [r] _) (bY (by rw[all_cons,D];rfl))).imp λσ H Q q=>?_
 refine aD λZq kq=>?_
 obtain⟨B,E,O,W,v,ρ',st,J,q⟩:=q;rw[evX]at J;simp only[ft,mu]at J;obtain⟨w,J,⟨Y,a8⟩,e2,r,e3,e4⟩:=J;cases e4;refine kq ?_;refine⟨B,E,O,W,w,st,J,λux H1 Z g1=>⟨B,E,O,W,Y,_,st.mono Z,e2,λuy H2 v2 U k2 ry=>⟨O,[.val w,.val Y],v,U.here,?_,e3,λu H3 s3 ru=>q u H3 ((al Z).trans (v2.trans (al s3))) (U.mono s3) k2 ru⟩⟩⟩;rw[Ll];exact .cons (show Rep X.K _ w ux from Rep.mono v2 _ (g1.2 hb)) (.cons (show Rep X.K _ Y uy from ry) .nil)
def x_compS(g:Gf X T k cal)
  (aO:fU X.env.scope X.N scope y (dG X.N js) js=true) (hw:PI X (.Name y py) it (tW X.K cal .seq [src])) (a0:fq it=true) (hb:aI src=false) (a1:js.Nodup) (he:∀z D C fp,PE (X.blk y (dG X.N js) scope z D C fp) el (tSr X.K cal j e f mask ms)) :
  PE X (.ListComp el [⟨.Name y py,it,[],0⟩] scope cpos) (tX X.K cal (.compS src js j e f mask ms)):=by
 refine(vf (tt:=tT X.K cal (.cst (.bl true))) (ln aO) g.calm hw (λz D C fp=>qB (show r6 (λ_=>false) (.cst _) []=true from rfl) λc hc=>nomatch hc) he (by intro v;cases it<;>first|rfl|(simp[fq]at a0))).imp λσ H Q q=>?_
 obtain⟨B,E,O,W,v,l,st,U,q⟩:=q;rw[evX]at U;simp only[ft]at U;obtain⟨vs,e2,xs,e3,U⟩:=U;split at U
 .rename_i Y;rw[mu]at U;obtain⟨⟨ws,a7⟩,e1,e4⟩:=U;cases e4;have Z:bn [src] W σ=[]:=by
   cases src<;>first|rfl|(cases hb;done)
  refine⟨B,E,O,W,vs,xs,st,e2,e3,λJ H1 s1 ao D' hD=>?_⟩;rw[Z]at ao;exact sx a1 st s1 ao Y e1 hD λH' v' a2 k' ru=>q _ H' v' a2 k' ru
 .cases U
noncomputable def tWX(K:Nx)(cal:Cal)(y:XE):TI:=λσ H R =>
 ∃B E O W v l xs,aE K B E O H W σ/\evX cal y W=some (v,l)/\bq .rng [v]=some xs/\∀J H1,aj (aw H O) (aw H1 O)->aE K B E O H1 l σ->bi B O O W l σ σ->nE K J xs (aw H1 O) (be B O H1 (bn [.cst v] l σ))->R J H1
def zM (g:Gf X T k cal) (U:glB X.env.scope ("range":Str)=true) (h:PE X e (tX X.K cal y)) (hs:ah e=true):PI X tg (.Call (.Name ("range":Str) p) [e] [] pos) (tWX X.K cal y):=by
 refine(oW (dq U) (g.blt "range" (by decide)) (aM h bL (aU hs _ _)) (aU hs _ _)).imp λσ H R q=>?_
 obtain⟨B,E,O,W,v,l,xs,st,Y,z,q⟩:=q;refine⟨B,E,O,W,v,l,st,Y,λu H1 Z D k1 J=>?_⟩;cases v with
 |int j =>
  simp only[bq]at z;split at z
  .rename_i c;cases z;rw[Rep]at J;subst J;exact⟨j,rfl,c.1,c.2,q _ _ Z D k1 nH⟩
  .cases z
 | _=>simp[bq]at z
mutual
theorem eW(g:Gf X T k cal):∀(x:XE) (e:Expr),db T x X.N X.env.scope e=true->PE X e (tX X.K cal x)
 | .pure m,e,h=>by
  have h:(chk T m X.N X.env.scope e&&!aI m&&bW e)=true:=h;simp only[g4,J7]at h;exact Fm h.1.2 (ax m g h.1.1).1
 | .call f mask ms,e,h=>by
  obtain⟨y,p,args,cp,rfl,hq⟩:=nu (show fV T f mask ms X.N X.env.scope e=true from h);simp only[g4,J0,KA,J7]at hq;obtain⟨⟨⟨⟨⟨⟨q1,q2⟩,q3⟩,q4⟩,q5⟩,q6⟩,q7⟩:=hq;cases args with
  |nil=>cases q7
  |cons a args=>exact Fn (vR g q1 q2 q3 (qE g mask ms (a::args) q4 q5 q6) (bJ q4).1)
 | .pop i,e,h=>by
  obtain⟨q,D,h⟩:=ak (show onQ (EF e) (λq=>aX X.N X.env.scope i q.1&&q.2.1==("pop":Str)&&q.2.2.1.endLine==q.2.2.2.line)=true from h);obtain⟨y,m,ap,cp⟩:=q;obtain⟨p,rfl⟩:=B4 D;obtain⟨J,U⟩:=gQ.mp h;obtain⟨h1,h2⟩:=gQ.mp J;obtain rfl:m=("pop":Str):=eq_of_beq h2;exact HU h1 U
 | .bin op a b,e,h=>by
  obtain⟨q,D,h⟩:=ak (show onQ (EG e) (λq=>q.2.1==ue op&&db T a X.N X.env.scope q.1&&chk T b X.N X.env.scope q.2.2)=true from h);obtain⟨l,o,r⟩:=q;obtain⟨pos,rfl⟩:=B5 D;obtain⟨J,U⟩:=gQ.mp h;obtain⟨h1,h2⟩:=gQ.mp J;obtain rfl:o=ue op:=eq_of_beq h1;exact HV (eW g a l h2) (ax b g U).1
 | .fn f a ms,e,h=>by
  obtain⟨q,D,h⟩:=ak (show onQ (fnQ e) (λq=>T.fs[f]?==some q.1&&glB X.env.scope q.1&&aq q.1&&db T a X.N X.env.scope q.2.1&&ah q.2.1&&chks T ms X.N X.env.scope q.2.2)=true from h);obtain⟨y,l,r⟩:=q;obtain⟨p,pos,rfl⟩:=ui D;obtain⟨J,Z⟩:=gQ.mp h;obtain⟨a2,Y⟩:=gQ.mp J;obtain⟨a3,h4⟩:=gQ.mp a2;obtain⟨a4,U⟩:=gQ.mp a3;obtain⟨h1,h2⟩:=gQ.mp a4;exact JB g (eq_of_beq h1) h2 U (eW g a l h4) (soundA ms g Z) Y (bJ Z).1
 | .tup xs,e,h=>by
  obtain⟨q,D,h⟩:=ak (show onQ (EH e) (λq=>chkXEs T xs X.N X.env.scope q)=true from h);obtain⟨j,pos,rfl⟩:=B6 D;exact HX (soundXEs g xs q h)
 | .lst xs,e,h=>by
  obtain⟨q,D,h⟩:=ak (show onQ (EI e) (λq=>chkXEs T xs X.N X.env.scope q)=true from h);obtain⟨pos,rfl⟩:=B7 D;exact HY (soundXEs g xs q h)
 | .fn2 f m a,e,h=>by
  obtain⟨q,D,h⟩:=ak (show onQ (EJ e) (λq=>T.fs[f]?==some q.1&&glB X.env.scope q.1&&aq q.1&&chk T m X.N X.env.scope q.2.1&&!aI m&&ah q.2.1&&db T a X.N X.env.scope q.2.2&&ah q.2.2)=true from h);obtain⟨y,l,r⟩:=q;obtain⟨p,pos,rfl⟩:=B8 D;obtain⟨J,h8⟩:=gQ.mp h;obtain⟨a2,h7⟩:=gQ.mp J;obtain⟨a3,Z⟩:=gQ.mp a2;obtain⟨a4,Y⟩:=gQ.mp a3;obtain⟨a5,h4⟩:=gQ.mp a4;obtain⟨a6,U⟩:=gQ.mp a5;obtain⟨h1,h2⟩:=gQ.mp a6;exact HZ g (eq_of_beq h1) h2 U (ax m g h4).1 (by simpa using Y) (eW g a r h7) Z h8
 | .tupOf a,e,h=>by
  obtain⟨q,D,h⟩:=ak (show onQ (fnQ e) (λq=>q.1==("tuple":Str)&&glB X.env.scope q.1&&q.2.2.isEmpty&&db T a X.N X.env.scope q.2.1&&ah q.2.1)=true from h);obtain⟨y,l,r⟩:=q;obtain⟨p,pos,rfl⟩:=ui D;obtain⟨J,Y⟩:=gQ.mp h;obtain⟨a2,h4⟩:=gQ.mp J;obtain⟨a3,U⟩:=gQ.mp a2;obtain⟨h1,h2⟩:=gQ.mp a3;obtain rfl:y=("tuple":Str):=eq_of_beq h1;obtain rfl:r=[]:=Lz.mp U;exact x_tupOf g h2 (eW g a l h4) Y
 | .compS src js j m f mask ms,e,h=>by
  obtain⟨c,e2,h2⟩:=ak (show onQ (zg e) (λc=>fU X.env.scope X.N c.2.1 c.2.2.1 (dG X.N js) js&&nq X.env.scope false (λxs=>chks T [src] X.N X.env.scope xs) .seq c.2.2.2&&!aI src&&zf T j m f mask ms (c.2.2.1::dG X.N js) (l8 c.2.1 X.env.scope) c.1&&decide js.Nodup)=true from h);obtain⟨py,cpos,rfl⟩:=zh e2;obtain⟨el,scope,y,it⟩:=c;simp only[g4,J7,KA]at h2;obtain⟨⟨⟨⟨Y,Z⟩,h7⟩,h8⟩,h9⟩:=h2;have hw:=lr (tg:=.Name y py) (λz=>by cases z) g Z (λxs a7=>⟨sounds [src] g a7,bJ a7⟩) (λm x hm hx=>by cases hm;exact(ax src g (by simp only[chks,g4]at hx;exact hx.1.1)).1);exact x_compS g Y hw.1 hw.2 h7 h9 λa8 a9 C fp=>Fl (g.blk y (dG X.N js) scope a8 a9 C fp) h8
theorem soundXEs(g:Gf X T k cal):∀(xs:List XE) (es:List Expr),chkXEs T xs X.N X.env.scope es=true->PA X es (tXs X.K cal xs)
 | [],es,h=>by
  cases es with
  |nil=>exact HW
  |cons _ _=>cases h
 |x::xs,es,h=>by
  cases es with
  |nil=>cases h
  |cons e es =>
   have h:(db T x X.N X.env.scope e&&ah e&&chkXEs T xs X.N X.env.scope es)=true:=h;simp only[g4]at h;exact Fo (eW g x e h.1.1) (soundXEs g xs es h.2) h.1.2
end
def Fp(d:Df X)(hi:X.N[i]?=some x)(hx:Loc X.env.scope x)(h:PE X v (tX X.K cal y))(hc:bW v=true):PS X (.Assign [.Name x px] v pos) (tS X.K cal (.setX i y)):=
 PS.imp' (jC d.nd hi hx h (cZ hc _ _ _) (.inl (d.fn x))) λD σ H U q=>by
  obtain⟨B,E,O,W,st,q⟩:=q;rw[ex]at q;cases e:evX cal y W with
  |none=>rw[e]at q;exact(show False from q).elim
  |some cr =>
   obtain⟨s,l⟩:=cr;rw[e]at q;refine⟨B,E,O,W,s,l,st,e,λu H' _ z Y Z=>?_⟩;obtain⟨J,k2⟩:=z.store (ltN hi U) Z;exact q _ H' O J (Y.trans k2)
def Fq{i:Nat}{xs:List XE}{x:Str}{es:List Expr}{px p pos:Pos}(d:Df X)(hi:X.N[i]?=some x)(hx:Loc X.env.scope x)(h:PA X es (tXs X.K cal xs)):PS X (.Assign [.Name x px] (.List es p) pos) (tS X.K cal (.ownX i xs)):=
 PS.imp' (jC d.nd hi hx (tJ h) (cZ rfl _ _ _) (.inl (d.fn x))) λD σ H hl q=>by
  obtain⟨B,E,O,W,st,q⟩:=q;rw[ex]at q;cases e:evXs cal xs W with
  |none=>rw[e]at q;exact(show False from q).elim
  |some cr =>
   obtain⟨vs,l⟩:=cr;rw[e]at q;dsimp only at q;split at q
   .rename_i z;refine⟨B,E,O,W,vs,l,st,e,λus H1 _ U k1 rs=>⟨by rw[<- rs.length];exact cH z,λa J=>?_⟩⟩;obtain⟨Y,k2⟩:=U.storeOwn (ltN hi hl) (az J (.lst us)) J ay (Reps.mono (bI (az J _) λb Z=>by
     rcases tf.mp Z with rfl|Z
     .exact .inr J
     .exact .inl Z) _ rs)
    exact q _ _ _ Y (k1.trans k2)
   .exact(show False from q).elim
def Cu(h:PE X v (tX X.K cal y)):PS X (.Return (some v) pos) (tS X.K cal (.retXE y)):=by
 refine(pY h).imp λD σ H q=>?_
 obtain⟨B,E,O,W,st,q⟩:=q;rw[ex]at q;cases e:evX cal y W with
 |none=>rw[e]at q;exact(show False from q).elim
 |some cr =>
  obtain⟨s,l⟩:=cr;rw[e]at q;exact⟨B,E,O,W,s,l,st,e,λu H' _ z J U=>q u σ H' O z J U⟩
def Fr(h:PE X v (tX X.K cal y))(hn:aX X.N X.env.scope i x=true)(hs:ah v=true)(J:(apos.endLine==cpos.line)=true) :
  PS X (.Expr (.Call (.Attribute (.Name x p) "append" apos) [v] [] cpos) pos) (tS X.K cal (.appX i y)):=by
 refine(pX (yd PySem.F.plainAttrs_list PySem.F.slot_list_append PySem.F.type_list_append kU (cg hn) (aM h bL (aU hs _ _)) rfl (by rw[aU hs];rfl) J (aU hs _ _) rfl) rfl).imp λD σ H q=>?_
 obtain⟨B,E,O,W,st,q⟩:=q;rw[ex]at q;cases hj:(W[i]?).join with
 |none=>rw[hj]at q;exact(show False from q).elim
 |some m =>
  rw[hj]at q;cases m with
  |own aO =>
   dsimp only at q;obtain⟨a4,eu,a,U,rfl,ha,_,hO,_⟩:=aT st hj;cases e:evX cal y W with
   |none=>rw[e]at q;exact(show False from q).elim
   |some cr =>
    obtain⟨w,l⟩:=cr;rw[e]at q;dsimp only at q;cases z:(l[i]?).join with
    |none=>rw[z]at q;exact(show False from q).elim
    |some m' =>
     rw[z]at q;cases m' with
     |own xs =>
      dsimp only at q;split at q
      .rename_i hl;refine⟨_,eu,.inl ⟨rfl,U,SqL.of ha⟩,B,E,O,W,w,l,st,e,λu H1 v1 Y k1 ru=>?_⟩;refine aD λZq kq=>?_
       obtain⟨u1,Z,a1,us,e5,a2,rs,_,_⟩:=aT Y z;rw[eu]at Z;cases Z;cases e5;refine kq ?_;refine⟨a,us,u,rfl,rfl,a2,?_,?_⟩
       .rw[<- rs.length];exact wh hl (by decide)
       .obtain⟨a3,k2⟩:=Y.change (us:=us++[u]) (ys:=xs++[w]) (aG z) eu (rs.snoc ru);exact q _ _ _ a3 (k1.trans k2)
      .exact(show False from q).elim
     | _=>exact(show False from q).elim
  | _=>exact(show False from q).elim
def aE.storeP{K:Nx}(st:aE K B E O H W σ)(hi:i<σ.length)(s:aj H H')(J:H p=none)(D:H' p=some (.lst us))(r:Reps K (aw H' (p::O)) (ns.map .int) us):aE K B E (p::O) H' (put W i (.ownD (.p ns))) (σ.set i (some (.ref p)))/\bi B O (p::O) W (put W i (.ownD (.p ns))) σ (σ.set i (some (.ref p))):=by
 have U:=r.ints;subst U;exact st.storeM hi s J (by rw[D];simp) rfl (λ_ z=>by cases z) λY=>⟨p,rfl,D,K4,Y⟩
def Fs {px p p2 pos2 cp pos:Pos} (g:Gf X T k cal) (d:Df X) (hi:X.N[i]?=some x) (hx:Loc X.env.scope x) (h1:glB X.env.scope ("list":Str)=true) (h2:glB X.env.scope ("reversed":Str)=true) (h:PE X e (tE X.K cal Z)) (hs:ah e=true):PS X (.Assign [.Name x px] (.Call (.Name ("list":Str) p) [.Call (.Name ("reversed":Str) p2) [e] [] pos2] [] cp) pos) (tS X.K cal (.setP i Z)):=by
 refine PS.imp' (jC d.nd hi hx (t9 g.calm (dq h1) (g.blt "list" (by decide)) qz (dq h2) (g.blt "reversed" (by decide)) h (aU hs _ _)) (cZ (v:=.Call _ _ _ _) rfl _ _ _) (.inl (d.fn x))) λD σ H hl q=>?_
 obtain⟨B,E,O,W,st,q⟩:=q;rw[ex]at q;cases J:ev cal Z W with
 |none=>rw[J]at q;exact(show False from q).elim
 |some w =>
  rw[J]at q;cases w with
  |lst xs =>
   dsimp only at q;cases U:bc xs with
   |none=>rw[U]at q;exact(show False from q).elim
   |some ns =>
    rw[U]at q;have e3:=dk U;subst e3;refine⟨B,E,O,W,_,st,J,λu H1 s1 g1=>?_⟩;obtain⟨a,us,rfl,sq,rs⟩:=g1.1.lst;have e4:=rs.ints;subst e4;refine⟨a,_,rfl,sq,λl z=>?_⟩;rw[show(ns.map V.int).reverse=ns.reverse.map V.int from map_reverse.symm];obtain⟨Y,k'⟩:=st.storeP (ns:=ns.reverse) (ltN hi hl) (s1.trans (az z (.lst (ns.reverse.map V.int)))) (s1.free z) ay (Reps.of_ints _);exact q _ _ _ Y k'
  | _=>exact(show False from q).elim
end
section
variable{K:Nx}{B H:Hp}{E O:List Addr}{W:Rho}{σ:St}
def H0(D:aE K (be B O H1 L) E J H' l F)(k:bi (be B O H1 L) O J W l σ F):aj (aw H1 O) (aw H' J):=λb u e=>by
 have Y:b∉O:=λz=>by rw[eV z]at e;cases e
 have U:be B O H1 L b=some u:=cj b u e;rw[aW]
 .exact D.keep b u U
 .intro z;rcases k.new b z with q|q
  .exact Y q
  .rw[U]at q;cases q
def Cv(st:aE K B E O H W σ):aE K (be B O H (bn ms W σ)) E O H (bG ms W) σ/\(bG ms W).length=W.length:=by
 have base:∀L,(∀a∈L,∀(j:Nat) ys,(bG ms W)[j]?=some (some ys)->iJ ys=true->σ[j]?≠some (some (.ref a)))->(∀(j:Nat) m,(bG ms W)[j]?=some (some m)->(∃ys,m=.brw ys/\W[j]?=some (some (.own ys))/\∃a,σ[j]?=some (some (.ref a))/\a∈L)\/W[j]?=some (some m))->(bG ms W).length=W.length ->
   aE K (be B O H L) E O H (bG ms W) σ:=λL h1 h2 h3=>by
  have gl:=nF (O:=O) (L:=L) st.keep;have lg:=dZ (O:=O) (L:=L) st.keep;refine⟨gl,st.here,st.sub,λa ha z=>st.old a ha (lg.free z),h3.trans st.len,λj m e=>?_,λc d ps qs ad a8 e1 Z p1 p2 e3 e4=>?_
   ⟩
  .rcases h2 j m e with⟨ys,rfl,Z,a,ea,D⟩|Z
   .obtain⟨u,U,a',us,rfl,J,q2,Y,q4⟩:=st.slot j _ Z;rw[ea]at U;cases U;refine⟨_,ea,a,us,rfl,SqL.of ?_,q2⟩;unfold be;rw[if_pos Y,if_pos D];exact J
   .obtain⟨u,U,q⟩:=st.slot j m Z;refine⟨u,U,?_⟩;cases m with
    |val v=>exact q
    |own ys =>
     obtain⟨a,us,rfl,J,q2,Y,q4⟩:=q;refine⟨a,us,rfl,J,q2,Y,?_⟩;unfold be;rw[if_pos Y,if_neg λD=>h1 a D j (.own ys) e rfl U];exact q4
    |ownD ys =>
     obtain⟨a,rfl,J,Y,q4⟩:=q;refine⟨a,rfl,J,Y,?_⟩;unfold be;rw[if_pos Y,if_neg λD=>h1 a D j (.ownD ys) e rfl U];exact q4
    |mutD ys =>
     obtain⟨a,rfl,J,Y,q4⟩:=q;refine⟨a,rfl,J,Y,?_⟩;unfold be;rw[if_pos Y,if_neg λD=>h1 a D j (.mutD ys) e rfl U];exact q4
    |brwD ys=>obtain⟨a,rfl,J⟩:=q;exact⟨a,rfl,aj.rd lg J⟩
    |brw ys=>obtain⟨a,us,rfl,J,q2⟩:=q;exact⟨a,us,rfl,lg.seq J,q2⟩
  .rcases h2 c _ e1 with⟨_,rfl,_⟩|e1
   .cases p1
   .rcases h2 d _ Z with⟨_,rfl,_⟩|Z
    .cases p2
    .exact st.apart c d ps qs ad a8 e1 Z p1 p2 e3 e4
 have plain:bG ms W=W->bn ms W σ=[]->aE K (be B O H (bn ms W σ)) E O H (bG ms W) σ/\(bG ms W).length=W.length:=λe1 Z=>by
  rw[Z];exact⟨base [] (λa ha=>by simp at ha) (λj m e=>.inr (by rw[e1]at e;exact e)) (by rw[e1]),by rw[e1]⟩
 match ms with
 | []|.var _::_|.cst _::_|.glob _ _::_|.bin _ _ _::_|.neg _::_|.not _::_|.and _ _::_|.or _ _::_|.ite _ _ _::_|.cmp _ _ _::_|.chain _ _ _ _ _::_|.tup _::_|.lst _::_|.idx _ _::_|.slice _ _ _::_|.blt _ _::_|.call _ _::_|.callD _ _ _::_|.comp _ _ _ _ _::_|.dget _ _ _::_|.dat _ _::_|.dIn _ _ _::_|.lenP _::_|.disp _ _::_|.bor _::_::_=>exact plain rfl rfl
 | [.bor i] =>
  cases hj:(W[i]?).join with
  |none=>exact plain (by simp[bG,hj]) (by simp[bn,hj])
  |some m =>
   cases m with
   |own xs =>
    refine aD λZq kq=>?_
    have el:bG [.bor i] W=put W i (.brw xs):=by simp[bG,hj]
    have e0:=aG hj;obtain⟨u,U,a,us,rfl,J,q2,Y,q4⟩:=st.slot i _ e0;have eL:bn [.bor i] W σ=[a]:=by simp[bn,hj,U]
    have a2:=(JY.mp e0).1;refine kq ?_;rw[eL];refine⟨base [a] (λb hb j ys e oy z=>?_) (λj m e=>?_) (by rw[el,put_len]),by rw[el,put_len]⟩
    .have:b=a:=by simpa using hb
     subst this;rw[el]at e;have a3:i≠j:=λz=>by subst z;rw[ai a2]at e;cases e;cases oy
     rw[ag a3]at e;exact st.apart i j (.own xs) ys b a3 e0 e rfl oy U z
    .rw[el]at e;by_cases a4:i=j
     .subst a4;rw[ai a2]at e;cases e;exact .inl ⟨xs,rfl,e0,a,U,by simp⟩
     .rw[ag a4]at e;exact .inr e
   | _=>exact plain (by simp[bG,hj]) (by simp[bn,hj])
def kC(h:(bG ms W)[j]?=some (some (.brw ys))):W[j]?=some (some (.brw ys))\/(ms=[.bor j]/\W[j]?=some (some (.own ys))):=by
 unfold bG at h;split at h
 .rename_i i;split at h
  .rename_i xs J;have U:=aG J;have D:=(JY.mp U).1;by_cases z:i=j
   .subst z;rw[ai D]at h
    simp_all
   .rw[ag z]at h;exact .inl h
  .exact .inl h
 .exact .inl h
def lu{j:Nat}(h:(bG ms W)[j]?=some (some (.brwD ys))):W[j]?=some (some (.brwD ys)):=by
 unfold bG at h;split at h
 .rename_i i;split at h
  .rename_i xs J;have U:=aG J;have D:=(JY.mp U).1;by_cases z:i=j
   .subst z;rw[ai D]at h;cases h
   .rw[ag z]at h;exact h
  .exact h
 .exact h
def xb{j:Nat}(h:(bG ms W)[j]?=some (some (.mutD ys))):W[j]?=some (some (.mutD ys)):=by
 unfold bG at h;split at h
 .rename_i i;split at h
  .rename_i xs J;have U:=aG J;have D:=(JY.mp U).1;by_cases z:i=j
   .subst z;rw[ai D]at h;cases h
   .rw[ag z]at h;exact h
  .exact h
 .exact h
def nP :(bG ms W).length=W.length:=by
 unfold bG;split
 .split
  .exact put_len
  .rfl
 .rfl
def qF(st:aE K B E O H1 W σ)(D:aE K (be B O H1 (bn ms W σ)) E O' H' l F)(k:bi (be B O H1 (bn ms W σ)) O O' (bG ms W) l σ F) :
  aE K B E O' H' (aP ms W l) F/\bi B O O' W (aP ms W l) σ F:=by
 have lg:=dZ (O:=O) (L:=bn ms W σ) st.keep;have a7:=H0 D k;have stay:∀a,B a≠none->a∈O->a∈O':=λa h1 h2=>k.stay a (λz=>h1 (lg.free z)) h2
 have new:∀a∈O',a∈O\/B a=none:=λa h=>(k.new a h).imp id lg.free
 have mutK:∀(j:Nat) d',l[j]?=some (some (.mutD d'))->(∃d,W[j]?=some (some (.mutD d)))/\F[j]?=σ[j]?:=λj d' e=>by
  obtain⟨⟨d,Z⟩,J⟩:=k.mutK j d' e;exact⟨⟨d,xb Z⟩,J⟩
 have slot:∀j m,l[j]?=some (some m)->(∀ys,m=.brw ys->¬ (ms=[.bor j]/\W[j]?=some (some (.own ys))))->∃u,F[j]?=some (some u)/\fo K B O' H' m u:=λj m e hn=>by
  obtain⟨u,eu,q⟩:=D.slot j m e;refine⟨u,eu,?_⟩;cases m with
  |val v=>exact q
  |own ys=>obtain⟨a,us,rfl,q1,q2,q3,q4⟩:=q;exact⟨a,us,rfl,q1,q2,q3,lg.free q4⟩
  |brw ys =>
   obtain⟨Z,J⟩:=k.brw j (.brw ys) rfl e;rcases kC Z with Y|Y
   .obtain⟨w,ew,a,us,rfl,q1,q2⟩:=st.slot j _ Y;rw[eu,ew]at J;cases J;exact⟨a,us,rfl,q1,Reps.mono a7 _ q2⟩
   .exact absurd Y (hn ys rfl)
  |brwD ys =>
   obtain⟨Z,J⟩:=k.brw j (.brwD ys) rfl e;obtain⟨w,ew,a,rfl,q1⟩:=st.slot j _ (lu Z);rw[eu,ew]at J;cases J;exact⟨a,rfl,q1⟩
  | _=>obtain⟨a,rfl,q1,q3,q4⟩:=q;exact⟨a,rfl,q1,q3,lg.free q4⟩
 by_cases hA:∃i aO xs,ms=[.bor i]/\(W[i]?).join=some (.own aO)/\(l[i]?).join=some (.brw xs)
 .obtain⟨i,aO,xs,rfl,h0,h1⟩:=hA;have eb:aP [.bor i] W l=put l i (.own xs):=by simp[aP,h0,h1]
  rw[eb];have e0:=aG h0;have Z:=aG h1;have a2:=(JY.mp Z).1;obtain⟨el,es⟩:=k.brw i (.brw xs) rfl Z;have exs:xs=aO:=by
   rcases kC el with Y|⟨_,Y⟩
   .rw[e0]at Y;cases Y
   .rw[e0]at Y;cases Y;rfl
  subst exs;obtain⟨w,ew,a,us,rfl,q1,q2,q3,q4⟩:=st.slot i _ e0;have eL:bn [.bor i] W σ=[a]:=by simp[bn,h0,ew]
  have ga:be B O H1 (bn [.bor i] W σ) a=some (.lst us):=by
   unfold be;rw[eL,if_pos q3,if_pos (by simp)];exact q1
  have other:∀(j:Nat) ys ad,l[j]?=some (some ys)->iJ ys=true->F[j]?=some (some (.ref ad))->ad≠a:=λj ys ad h1 oy h2 z=>by
   obtain⟨u,eu,qq⟩:=D.slot j _ h1;rw[h2]at eu;cases eu;cases ys with
   |own ys =>
    obtain⟨b,_,J,_,_,_,q⟩:=qq;cases J;rw[z,ga]at q;cases q
   |ownD ys|mutD ys =>
    obtain⟨b,J,_,_,q⟩:=qq;cases J;rw[z,ga]at q;cases q
   | _=>cases oy
  refine⟨⟨lg.trans D.keep,D.here,D.sub,st.old,by rw[put_len];exact D.len,λj m e=>?_,λc d ps qs ad br Z J p1 p2 Y e4=>?_
   ⟩,⟨stay,new,λj ys ao e=>?_,by rw[put_len];exact k.len.trans nP
   ,λj d' e=>?_
   ⟩⟩
  .by_cases U:i=j
   .subst U;rw[ai a2]at e;cases e;refine⟨_,by rw[es];exact ew,a,us,rfl,D.keep _ _ ga,Reps.mono a7 _ q2,k.stay a (by rw[ga];simp) q3,q4⟩
   .rw[ag U]at e;exact slot j m e λys _ ⟨z,_⟩=>U (by cases z;rfl)
  .by_cases hc:i=c
   .subst hc;rw[es,ew]at Y;cases Y;rw[ag br]at J;exact other d qs _ J p2 e4 rfl
   .rw[ag hc]at Z;by_cases hd:i=d
    .subst hd;rw[es,ew]at e4;cases e4;exact other c ps _ Z p1 Y rfl
    .rw[ag hd]at J;exact D.apart c d ps qs ad br Z J p1 p2 Y e4
  .by_cases U:i=j
   .subst U;rw[ai a2]at e;cases e;cases ao
   .rw[ag U]at e;obtain⟨Z,J⟩:=k.brw j ys ao e;cases ys with
    |brw ys =>
     rcases kC Z with Y|⟨z,_⟩
     .exact⟨Y,J⟩
     .cases z;exact absurd rfl U
    |brwD ys=>exact⟨lu Z,J⟩
    | _=>cases ao
  .by_cases U:i=j
   .subst U;rw[ai a2]at e;cases e
   .rw[ag U]at e;exact mutK j d' e
 .have eb:aP ms W l=l:=by
   unfold aP;split
   .rename_i i;split
    .rename_i aO xs h0 h1;exact absurd ⟨i,aO,xs,rfl,h0,h1⟩ hA
    .rfl
   .rfl
  rw[eb];have no:∀j ys,l[j]?=some (some (.brw ys))->¬ (ms=[.bor j]/\W[j]?=some (some (.own ys))):=λj ys e ⟨h1,h2⟩=>hA ⟨j,ys,ys,h1,by rw[h2];rfl,by rw[e];rfl⟩
  refine⟨⟨lg.trans D.keep,D.here,D.sub,st.old,D.len,λj m e=>slot j m e λys z=>no j ys (by rw[e,z]),D.apart
   ⟩,⟨stay,new,λj ys ao e=>?_,k.len.trans nP
   ,λj d' e=>mutK j d' e
   ⟩⟩
  obtain⟨Z,J⟩:=k.brw j ys ao e;cases ys with
  |brw ys =>
   rcases kC Z with Y|Y
   .exact⟨Y,J⟩
   .exact absurd Y (no j ys e)
  |brwD ys=>exact⟨lu Z,J⟩
  | _=>cases ao
end
section
variable{X:Cx}{T:Tab}{k:Nat}{cal:Cal}
def Cw(K:Nx)(n:Nat)(g:TG)(tk:PV->Rho->Option Rho):Prop:=
 ∀B E O H W l σ x u (Q:St->Hp->Prop),σ.length=n->aE K B E O H W σ->Rep K (aw H O) x u->tk x W=some l ->
  (∀F,aE K B E O H l F->bi B O O W l σ F->Q F H)->g u σ H Q
def sy{K:Nx}(hn:σ.length=n)(hg:Cw K n g tk)(Y:aE K B E O H1 W σ)(it:nE K J xs (aw H1 O) (be B O H1 (bn ms W σ)))
  (q:g7 K B E O W σ D ((au (λx l=>cc (tk x l) λU=>exs cal body U) xs (bG ms W)).back ms W)):DN (λ_ _ R=>R J H1) g (tSs K cal body) D σ H1:=by
 obtain⟨b0,_⟩:=Cv (ms:=ms) Y;refine⟨λi m F H'=>m=xs.length-i/\i<=xs.length/\∃l O',aE K (be B O H1 (bn ms W σ)) E O' H' l F/\bi (be B O H1 (bn ms W σ)) O O' (bG ms W) l σ F /\
  au (λx l=>cc (tk x l) λU=>exs cal body U) (xs.drop i) l=au (λx l=>cc (tk x l) λU=>exs cal body U) xs (bG ms W),⟨xs.length,by simp,Ke _,bG ms W,O,b0,.refl,by simp⟩,?_⟩
 rintro i m F H' ⟨rfl,hi,l,O',Z,k',eq⟩;by_cases a6:i<xs.length
 .right;have ex:=J1 a6;refine⟨it.go i _ H' Z.keep ex,λa2 H2=>∃m',m'<xs.length-i/\(m'=xs.length-(i+1)/\i+1<=xs.length/\∃l O',aE K (be B O H1 (bn ms W σ)) E O' H2 l a2/\bi (be B O H1 (bn ms W σ)) O O' (bG ms W) l σ a2 /\
   au (λx l=>cc (tk x l) λU=>exs cal body U) (xs.drop (i+1)) l=au (λx l=>cc (tk x l) λU=>exs cal body U) xs (bG ms W)),λa2 H2 z=>z,λu H2 y=>?_⟩
  obtain⟨s2,hr⟩:=it.yld i _ H' u H2 Z.keep ex y;have b1:=H0 Z k';have hx:=hr O' Z.here (b1.trans (al s2));rw[MQ a6,au]at eq;cases et:tk xs[i] l with
  |none =>
   rw[et]at eq;rw[<- eq]at q;exact(show False from q).elim
  |some ao =>
   rw[et,show cc (some ao) (λU=>exs cal body U)=exs cal body ao from rfl]at eq;have a8:F.length=n:=by rw[<- Z.len,k'.len,nP,Y.len];exact hn
   refine hg _ E O' H2 l ao F _ u _ a8 (Z.mono s2) hx et λa2 b3 k2=>?_
   refine⟨_,E,O',ao,b3,?_⟩;have kk:=k'.trans k2;cases er:exs cal body ao with
   |next a3|cont a3 =>
    rw[er]at eq;exact λa4 H3 O3 aO k3=>⟨_,by omega,rfl,a6,a3,O3,aO,kk.trans k3,eq⟩
   |brk a3 =>
    rw[er]at eq;rw[<- eq]at q;exact λa4 H3 O3 aO k3=>by
     obtain⟨a0,kb⟩:=qF Y aO (kk.trans k3);exact q a4 H3 O3 a0 kb
   |ret v =>
    rw[er]at eq;rw[<- eq]at q;exact λw H3 s3 r=>q w H3 ((dZ Y.keep).trans s3) r
   |retM v a3 =>
    rw[er]at eq;rw[<- eq]at q;exact λu a4 H3 O3 aO k3 ru=>by
     obtain⟨a0,kb⟩:=qF Y aO (kk.trans k3);exact q u a4 H3 O3 a0 kb ru
   |retF ys =>
    rw[er]at eq;rw[<- eq]at q;exact λp us H3 s3 hp he r=>q p us H3 ((dZ Y.keep).trans s3) ((dZ Y.keep).free hp) he r
   |bad =>
    rw[er]at eq;rw[<- eq]at q;exact(show False from q).elim
 .left;have ei:i=xs.length:=by omega
  subst ei;rw[drop_length,au]at eq;rw[<- eq]at q;obtain⟨a0,kb⟩:=qF Y Z k';exact⟨it.stop H' Z.keep,q F H' O' a0 kb⟩
def zN{K:Nx}(U:σ.length=n)(Y:Cw K n g tk)(st:aE K B E O H W σ)(Z:evs cal ms W=some vs)(e2:bq k' vs=some xs)
  (q:g7 K B E O W σ D ((au (λx l=>cc (tk x l) λz=>exs cal body z) xs (bG ms W)).back ms W)):DN (tW K cal k' ms) g (tSs K cal body) D σ H:=by
 exact⟨B,E,O,W,vs,xs,st,Z,e2,λJ H1 s1 it=>sy U Y (st.mono s1) it q⟩
def vS{K:Nx}(hi:i<n):Cw K n (jp i) (λx W=>some (put W i (.val x))):=by
 intro B E O H W l σ x u Q J st r e q;cases e;obtain⟨z,D⟩:=st.store (i:=i) (by omega) r;exact q _ z D
def Ft(g:Gf X T k cal)(d:Df X)(hi:X.N[i]?=some x)(hx:Loc X.env.scope x)(hw:PI X (.Name x px) it (tW X.K cal J src))(z:fq it=true)(U:PSs X b (tSs X.K cal body)) :
  PS X (.For (.Name x px) it b [] pos) (tS X.K cal (.for1 i J src body)):=by
 refine PS.imp' (tD d.own g.calm hw (l_ d.nd hi hx (.inl (d.fn x))) U (by intro v;cases it<;>first|rfl|(simp[fq]at z))) λD σ H Y q=>?_
 obtain⟨B,E,O,W,st,q⟩:=q;rw[ex]at q;cases e:(evs cal src W).bind (bq J)with
 |none=>rw[e]at q;exact(show False from q).elim
 |some xs =>
  rw[e]at q;simp only[ft]at e;obtain⟨vs,Z,e2⟩:=e;exact zN (tk:=λx W=>some (put W i (.val x))) rfl (vS (ltN hi Y)) st Z e2 q
def Fu (g:Gf X T k cal) (d:Df X) (hi:X.N[i]?=some x) (hx:Loc X.env.scope x) (Z:glB X.env.scope ("range":Str)=true) (h:PE X e (tX X.K cal y)) (hs:ah e=true) (hb:PSs X b (tSs X.K cal body)) :
  PS X (.For (.Name x px) (.Call (.Name ("range":Str) p) [e] [] rp) b [] pos) (tS X.K cal (.forX i y body)):=by
 refine PS.imp' (tD d.own g.calm (zM g Z h hs) (l_ d.nd hi hx (.inl (d.fn x))) hb (by intro v;rfl)) λD σ H hl q=>?_
 obtain⟨B,E,O,W,st,q⟩:=q;rw[ex]at q;cases z:evX cal y W with
 |none=>rw[z]at q;exact(show False from q).elim
 |some pr =>
  obtain⟨v,l⟩:=pr;rw[z]at q;dsimp only at q;cases U:bq .rng [v]with
  |none=>rw[U]at q;exact(show False from q).elim
  |some xs =>
   rw[U]at q;refine⟨B,E,O,W,v,l,xs,st,z,U,λJ H1 _ Y k1 it=>?_⟩;refine sy (ms:=[.cst v]) (tk:=λx W=>some (put W i (.val x))) rfl (vS (ltN hi hl)) Y it ?_;have q2:=g7.trans q k1;have back:∀r:R,r.back [.cst v] l=r:=λr=>by cases r<;>rfl
   rw[back];exact q2
end
noncomputable def qG:List Nat->TGs
 | []=>GL
 |i::is=>C4 (jp i) (qG is)
section
variable{X:Cx}{T:Tab}{k:Nat}{cal:Cal}
theorem nQ:∀{is}{z},dP X.N X.env.scope is z=true->(assignEach z X.env).length=is.length/\(assignEach z X.env).findIdx? (·.1)=none
 | [],[],_=>⟨rfl,rfl⟩
 | [],_::_,h=>by cases h
 | _::_,[],h=>by cases h
 |i::is,e::z,h=>by
  cases e<;>first|(cases h;done)|skip
  simp only[qm,g4]at h;rename_i x p;obtain⟨h1,h2⟩:=nQ h.2;refine⟨?_,?_⟩
  .show((false,assign (.Name x p) X.env)::assignEach z X.env).length=_;simp[h1]
  .show((false,assign (.Name x p) X.env)::assignEach z X.env).findIdx? (·.1)=none;rw[findIdx?_cons];simp[h2]
theorem pI(d:Df X):∀{is}{z},dP X.N X.env.scope is z=true->PGs X z (qG is)
 | [],[],_=>Bl
 | [],_::_,h=>by cases h
 | _::_,[],h=>by cases h
 |i::is,e::z,h=>by
  cases e<;>first|(cases h;done)|skip
  simp[qm,g4]at h;rename_i x p;exact xP (l_ d.nd h.1.1.1 (iV h.1.1.2) (.inl (d.fn x))) (pI d h.2) rfl
theorem sA:∀{is}{D},dP X.N X.env.scope is D=true->∀i∈is,i<X.N.length
 | [],[],_=>λi hi=>by simp at hi
 | [],_::_,h=>by cases h
 | _::_,[],h=>by cases h
 |i::is,e::D,h=>λj z=>by
  cases e<;>first|(cases h;done)|skip
  simp[qm,g4]at h;rcases tf.mp z with rfl|z
  .exact(JY.mp h.1.1.1).1
  .exact sA h.2 j z
theorem vT{K:Nx}:∀{is}{vs}{us}{B}{E O}{H}{W l}{σ}{Q:St->Hp->Prop},(∀i∈is,i<σ.length)->aE K B E O H W σ->Reps K (aw H O) vs us->nk is vs W=some l ->
  (∀F,aE K B E O H l F->bi B O O W l σ F->Q F H)->qG is us σ H Q
 | [],[],us,_,_,_,_,_,_,_,_,_,st,r,e,q=>by
  subst r;cases e;exact⟨rfl,q _ st .refl⟩
 | [],_::_,_,_,_,_,_,_,_,_,_,_,_,_,e,_=>by simp[nk]at e
 | _::_,[],_,_,_,_,_,_,_,_,_,_,_,_,e,_=>by simp[nk]at e
 |i::is,v::vs,us,B,E,O,H,W,l,σ,Q,hi,st,r,e,q=>by
  obtain⟨u,J,rfl,U,Y⟩:=r;obtain⟨z,Z⟩:=st.store (i:=i) (hi i (.head _)) U;refine⟨u,J,rfl,?_⟩;exact vT (λj hj=>by rw[Mn];exact hi j (.tail _ hj)) z Y e λF D k'=>q F D (Z.trans k')
def Fv{K:Nx}(hi:∀i∈is,i<n):Cw K n (GM K is.length (qG is)) (cK is):=by
 intro B E O H W l σ x u Q D st r e q;cases x with
 |tup vs =>
  obtain⟨a,us,rfl,J,z⟩:=r;have U:∀{is}{vs}{W l},nk is vs W=some l->vs.length=is.length:=by
   intro is
   induction is with
   |nil=>intro vs W l h;cases vs<;>simp[nk]at h ⊢
   |cons i is ih=>intro vs W l h;cases vs<;>simp[nk]at h ⊢;exact ih h
  exact⟨a,us,rfl,(bU H O).seqT (eE J),by rw[<- z.length];exact U e,vT (λi h=>by rw[D];exact hi i h) st z e q⟩
 | _=>cases e
def Fw(g:Gf X T k cal)(d:Df X)(hi:dP X.N X.env.scope is J=true)(hw:PI X (.Tuple J j Y) it (tW X.K cal U src))(z:fq it=true)(Z:PSs X b (tSs X.K cal body)) :
  PS X (.For (.Tuple J j Y) it b [] pos) (tS X.K cal (.forT is U src body)):=by
 obtain⟨h1,h2⟩:=nQ hi;refine PS.imp' (tD d.own g.calm hw (DM g.calm (pI d hi) h1 h2) Z (by intro v;cases it<;>first|rfl|(simp[fq]at z))) λD σ H hl q=>?_
 obtain⟨B,E,O,W,st,q⟩:=q;rw[ex]at q;cases e:(evs cal src W).bind (bq U)with
 |none=>rw[e]at q;exact(show False from q).elim
 |some xs =>
  rw[e]at q;simp only[ft]at e;obtain⟨vs,e1,e2⟩:=e;exact zN (tk:=cK is) hl (Fv (sA hi)) st e1 e2 q
def vU(g:Gf X T k cal)(d:Df X)(hi:X.N[i]?=some x)(hx:Loc X.env.scope x)(hc:chk T Y X.N X.env.scope v=true)(hs:pq X.env.scope x px v Y=true):∃t,PS X (.Assign [.Name x px] v pos) (xQ t (jp i))/\(∀σ H Q,tF X.K cal Y σ H Q->t σ H Q)/\iU Y=true:=by
 unfold pq at hs;have Z:=ak hs;obtain⟨c,w,_⟩:=Z;obtain rfl:=ub w;cases Y with
 |comp k' src js cond elt =>
  obtain⟨e,y,py,it,ifs,scope,cpos,e0,h⟩:=lh hc;rw[e0]at hs ⊢;simp only[g4,J7]at h;obtain⟨⟨⟨⟨h1,h2⟩,h3⟩,h4⟩,h5⟩:=h;have hw:=lr (tg:=.Name y py) (λz=>by cases z) g h2 (λxs U=>⟨sounds src g U,bJ U⟩) (λm x hm hx=>match src,hm with|[m'],rfl=>(ax m' g (b_ hx).1.1).1);exact⟨_,tZ d.nd hi hx (ln h1) g.calm hw.1 (λD J C fp=>qB h3 λc hc=>(ax cond (g.blk y _ scope D J C fp) hc).2) (λD J C fp=>(ax elt (g.blk y _ scope D J C fp) h4).1) (wZ d hs) (by have:=hw.2;intro v;cases it<;>first|rfl|(simp[fq]at this)) (.inl (d.fn x)),
   λσ H Q q=>uo.comp_go h5 q,rfl⟩
 | _=>cases (show false=true from hc)
def H_(J:iU D=true){K:Nx}(q:tE K cal D σ H Q):tF K cal D σ H Q:=by
 obtain⟨B,E,O,W,v,st,z,q⟩:=q;have hv:∃xs,v=.lst xs:=by
  cases D with
  |lst es =>
   rw[ev,ft]at z;obtain⟨vs,_,hv⟩:=z;split at hv
   .cases hv;exact⟨_,rfl⟩
   .cases hv
  |comp _ _ _ _ _=>exact su W v z
  |blt b es=>cases b<;>first|exact dQ (.inl rfl) W v z|exact dQ (.inr (.inl rfl)) W v z|exact dQ (.inr (.inr (.inl rfl))) W v z|exact dQ (.inr (.inr (.inr (.inl rfl)))) W v z|exact dQ (.inr (.inr (.inr (.inr rfl)))) W v z|(simp[iU]at J)
  | _=>simp[iU]at J
 obtain⟨xs,rfl⟩:=hv;exact⟨B,E,O,W,xs,st,z,λp us H' s U Y r=>q _ _ s (vK st.here U Y r)⟩
end
section
variable{T:Tab}{N:List Str}{sc:Scope}
def Cy(h:g5 T N sc (.set i e) s=true):∃x px v pos,s=.Assign [.Name x px] v pos/\(N[i]?==some x&&fO sc x&&aq x&&chk T e N sc v&&!aI e&&(bW v||pq sc x px v e))=true:=by
 obtain⟨q,z,h1⟩:=ak h;obtain⟨pos,rfl⟩:=je z;exact⟨_,_,_,_,rfl,h1⟩
def Cz(h:g5 T N sc (.setOwn i e) s=true):∃x px v pos,s=.Assign [.Name x px] v pos/\(N[i]?==some x&&fO sc x&&aq x&&chk T e N sc v&&iU e&&(bW v||pq sc x px v e))=true:=by
 obtain⟨q,z,h1⟩:=ak h;obtain⟨pos,rfl⟩:=je z;exact⟨_,_,_,_,rfl,h1⟩
def uC (h:g5 T N sc (.append i e) s=true):∃x p m ap v cp pos,s=.Expr (.Call (.Attribute (.Name x p) m ap) [v] [] cp) pos/\(aX N sc i x&&m==("append":Str)&&chk T e N sc v&&!aI e&&ah v&&ap.endLine==cp.line)=true:=by
 obtain⟨q,z,h1⟩:=ak h;obtain⟨v,D,h2⟩:=ak h1;obtain⟨p,pos,rfl⟩:=qo z;rw[cV D];exact⟨_,_,_,_,_,_,_,rfl,h2⟩
def uD (h:g5 T N sc (.extend i e) s=true):∃x p m ap v cp pos,s=.Expr (.Call (.Attribute (.Name x p) m ap) [v] [] cp) pos/\(aX N sc i x&&m==("extend":Str)&&chk T e N sc v&&ah v&&ap.endLine==cp.line)=true:=by
 obtain⟨q,z,h1⟩:=ak h;obtain⟨v,D,h2⟩:=ak h1;obtain⟨p,pos,rfl⟩:=qo z;rw[cV D];exact⟨_,_,_,_,_,_,_,rfl,h2⟩
def zO(h:g5 T N sc (.dput i k e) s=true):∃x p s' sp v pos,s=.Assign [.Subscript (.Name x p) s' sp] v pos/\(aX N sc i x&&chk T k N sc s'&&b9 s'&&chk T e N sc v&&!aI e&&bW v)=true:=by
 obtain⟨q,z,h1⟩:=ak h;obtain⟨p,sp,pos,rfl⟩:=B9 z;exact⟨_,_,_,_,_,_,rfl,h1⟩
def zP(h:g5 T N sc (.newD m i) s=true):∃x p dp pos,s=.Assign [.Name x p] (.Dict [] [] dp) pos/\(N[i]?==some x&&fO sc x&&aq x)=true:=by
 obtain⟨q,z,h1⟩:=ak h;rw[g4]at h1;obtain⟨pos,rfl⟩:=je z;obtain⟨p,D⟩:=zk h1.1;rw[D];exact⟨_,_,_,_,rfl,h1.2⟩
def CA(h:g5 T N sc (.ite c a b) s=true):∃t x y pos,s=.If t x y pos/\(chk T c N sc t&&chkSs T N sc a x&&chkSs T N sc b y)=true:=by
 cases s with
 |If t x y pos=>exact⟨t,x,y,pos,rfl,h⟩
 | _=>cases (show false=true from h)
def zQ (h:g5 T N sc (.forX i y body) s=true):∃x px it b pos,s=.For (.Name x px) it b [] pos/\(N[i]?==some x&&fO sc x&&aq x&&onQ (fnQ it) (λq=>q.1==("range":Str)&&glB sc q.1&&q.2.2.isEmpty&&db T y N sc q.2.1&&ah q.2.1)&&chkSs T N sc body b)=true:=by
 rw[B_]at h;split at h
 .exact⟨_,_,_,_,_,rfl,h⟩
 .cases h
def zR(h:g5 T N sc (.for1 i k src body) s=true):∃x px it b pos,s=.For (.Name x px) it b [] pos/\(N[i]?==some x&&fO sc x&&aq x&&nq sc false (λxs=>chks T src N sc xs) k it&&chkSs T N sc body b)=true:=by
 simp[Ca]at h;split at h<;>first|(cases h;done)|(rename_i z;cases z;exact⟨_,_,_,_,_,rfl,h⟩)|(injections;done)|(injections;subst_vars;exact⟨_,_,_,_,_,rfl,h⟩)
def zS(h:g5 T N sc (.forT is k src body) s=true):∃D j J it b pos,s=.For (.Tuple D j J) it b [] pos/\(dP N sc is D&&nq sc true (λxs=>chks T src N sc xs) k it&&chkSs T N sc body b)=true:=by
 simp[Cb]at h;split at h<;>first|(cases h;done)|(rename_i z;cases z;exact⟨_,_,_,_,_,_,rfl,h⟩)|(injections;done)|(injections;subst_vars;exact⟨_,_,_,_,_,_,rfl,h⟩)
def zT(h:g5 T N sc (.retM e) s=true):∃v pos,s=.Return (some v) pos/\(chk T e N sc v&&!aI e)=true:=by
 obtain⟨v,z,h1⟩:=ak h;obtain⟨pos,rfl⟩:=mq z;exact⟨_,_,rfl,h1⟩
def CB(h:g5 T N sc (.ret e) s=true):∃v pos,s=.Return (some v) pos/\(chk T e N sc v&&!aI e)=true:=by
 obtain⟨v,z,h1⟩:=ak h;obtain⟨pos,rfl⟩:=mq z;exact⟨_,_,rfl,h1⟩
def uE(h:g5 T N sc (.retOwn i) s=true):∃x p pos,s=.Return (some (.Name x p)) pos/\(aX N sc i x)=true:=by
 obtain⟨v,z,h1⟩:=ak h;obtain⟨x,D,h2⟩:=ak h1;obtain⟨pos,rfl⟩:=mq z;obtain⟨p,rfl⟩:=zj D;exact⟨_,_,_,rfl,h2⟩
end
def xc(g:Gf X T k cal)(d:Df X)(h:g5 T X.N X.env.scope (.set i e) s=true):PS X s (tS X.K cal (.set i e)):=by
 obtain⟨x,px,v,pos,rfl,hc⟩:=Cy h;simp only[g4,Nq,J0,J7]at hc;obtain⟨⟨⟨⟨⟨h1,h2⟩,h3⟩,J⟩,U⟩,z⟩:=hc;rcases z with z|z
 .exact HM d h1 (iV h2) (ax e g J).1 U z
 .obtain⟨t,p,Y,Z⟩:=vU (pos:=pos) g d h1 (iV h2) J z;exact PS.imp' p λD σ H hl q=>Y _ _ _ (H_ Z (zF (ltN h1 hl) U q))
noncomputable def Fx:MS->Bool
 | .freeze _=>true
 | _=>false
mutual
theorem Fy{T:Tab}{k:Nat}{cal:Cal}{X:Cx}(g:Gf X T k cal)(d:Df X):∀(m:MS) (s:Stmt),g5 T X.N X.env.scope m s=true->PS X s (tS X.K cal m)
 | .set i e,s,h=>xc g d h
 | .setOwn i e,s,h=>by
  obtain⟨x,px,v,pos,rfl,hc⟩:=Cz h;simp only[g4,Nq,J0]at hc;obtain⟨⟨⟨⟨⟨h1,h2⟩,h3⟩,J⟩,U⟩,h6⟩:=hc;rcases h6 with h6|h6
  .exact HN d h1 (iV h2) (Ff g J U) h6
  .obtain⟨t,p,hp,hf⟩:=vU (pos:=pos) g d h1 (iV h2) J h6;exact PS.imp' p λD σ H hl q=>hp _ _ _ (zG (ltN h1 hl) q)
 | .append i e,s,h=>by
  obtain⟨x,p,m,ap,v,cp,pos,rfl,hc⟩:=uC h;simp only[g4,J0,J7]at hc;obtain⟨⟨⟨⟨⟨h1,rfl⟩,h3⟩,J⟩,U⟩,h6⟩:=hc;exact zH (ax e g h3).1 h1 J U (J0.mpr h6)
 | .extend i e,s,h=>by
  obtain⟨x,p,m,ap,v,cp,pos,rfl,hc⟩:=uD h;simp only[g4,J0]at hc;obtain⟨⟨⟨⟨h1,rfl⟩,h3⟩,U⟩,h6⟩:=hc;exact zI (ax e g h3).1 h1 U (J0.mpr h6)
 | .setIdx _ _ _,s,h=>absurd (show false=true from h) il
 | .unpack _ _,s,h=>absurd (show false=true from h) il
 | .expr _,s,h=>absurd (show false=true from h) il
 | .ite c a b,s,h=>by
  obtain⟨t,x,y,pos,rfl,hc⟩:=CA h;simp only[g4]at hc;exact JA (ax c g hc.1.1).2 (soundSs g d a x hc.1.2) (soundSs g d b y hc.2)
 | .for1 i k' src body,s,h=>by
  obtain⟨x,px,it,b,pos,rfl,hc⟩:=zR h;simp only[g4,J0]at hc;obtain⟨⟨⟨⟨h1,h2⟩,h3⟩,J⟩,U⟩:=hc;have hw:=lr (tg:=.Name x px) (λz=>by cases z) g J (λxs Y=>⟨sounds src g Y,bJ Y⟩) (λm x hm hx=>match src,hm with|[m'],rfl=>(ax m' g (by simp only[chks,g4]at hx;exact hx.1.1)).1);exact Ft g d h1 (iV h2) hw.1 hw.2 (soundSs g d body b U)
 | .forT is k' src body,s,h=>by
  obtain⟨ts,j,tp,it,b,pos,rfl,hc⟩:=zS h;simp only[g4]at hc;obtain⟨⟨h1,J⟩,U⟩:=hc;have hw:=lr (tg:=.Tuple ts j tp) (λ_=>⟨_,_,_,rfl⟩) g J (λxs Y=>⟨sounds src g Y,bJ Y⟩) (λm x hm hx=>match src,hm with|[m'],rfl=>(ax m' g (by simp only[chks,g4]at hx;exact hx.1.1)).1);exact Fw g d h1 hw.1 hw.2 (soundSs g d body b U)
 | .while _ _ _,s,h=>absurd (show false=true from h) il
 | .ret e,s,h=>by
  obtain⟨v,pos,rfl,hc⟩:=CB h;simp only[g4,J7]at hc;exact HP (ax e g hc.1).1 hc.2
 | .setP i e,s,h=>by
  obtain⟨q,Z,hc⟩:=ak (show onQ (oR s) (λq=>X.N[i]?==some q.1&&fO X.env.scope q.1&&aq q.1&&onQ (EE q.2.2) λr=>r.1==("list":Str)&&r.2.1==("reversed":Str)&&glB X.env.scope r.1&&glB X.env.scope r.2.1&&chk T e X.N X.env.scope r.2.2&&ah r.2.2)=true from h);obtain⟨x,px,v⟩:=q;obtain⟨pos,rfl⟩:=je Z;obtain⟨a1,J⟩:=gQ.mp hc;obtain⟨a2,h3⟩:=gQ.mp a1;obtain⟨h1,h2⟩:=gQ.mp a2;obtain⟨r,e2,hr⟩:=ak J;obtain⟨f,f2,w⟩:=r;obtain⟨p,p2,pos2,cp,rfl⟩:=B3 e2;obtain⟨b1,c6⟩:=gQ.mp hr;obtain⟨b2,c5⟩:=gQ.mp b1;obtain⟨b3,c4⟩:=gQ.mp b2;obtain⟨b4,c3⟩:=gQ.mp b3;obtain⟨c1,c2⟩:=gQ.mp b4;obtain rfl:f=("list":Str):=eq_of_beq c1;obtain rfl:f2=("reversed":Str):=eq_of_beq c2;exact Fs g d (eq_of_beq h1) (iV h2) c3 c4 (ax e g c5).1 c6
 | .setX i y,s,h=>by
  obtain⟨q,Z,hc⟩:=ak (show onQ (oR s) (λq=>X.N[i]?==some q.1&&fO X.env.scope q.1&&aq q.1&&db T y X.N X.env.scope q.2.2&&bW q.2.2)=true from h);obtain⟨pos,rfl⟩:=je Z;obtain⟨a2,U⟩:=gQ.mp hc;obtain⟨a3,J⟩:=gQ.mp a2;obtain⟨a4,h3⟩:=gQ.mp a3;obtain⟨h1,h2⟩:=gQ.mp a4;exact Fp d (eq_of_beq h1) (iV h2) (eW g y _ J) U
 | .ownX i xs,s,h=>by
  obtain⟨q,Z,hc⟩:=ak (show onQ (oR s) (λq=>onQ (liP q.2.2) λr=>X.N[i]?==some q.1&&fO X.env.scope q.1&&chkXEs T xs X.N X.env.scope r.1)=true from h);obtain⟨pos,rfl⟩:=je Z;obtain⟨r,e2,hc⟩:=ak hc;obtain⟨a3,J⟩:=gQ.mp hc;obtain⟨h1,h2⟩:=gQ.mp a3;rw[qk e2];exact Fq d (eq_of_beq h1) (iV h2) (soundXEs g xs _ J)
 | .appX i y,s,h=>by
  obtain⟨q,Z,hc⟩:=ak (show onQ (zi s) (λq=>onQ (kg q.2.2.2.1) λv=>aX X.N X.env.scope i q.1&&q.2.1==("append":Str)&&db T y X.N X.env.scope v&&ah v&&q.2.2.1.endLine==q.2.2.2.2.line)=true from h);obtain⟨v,e2,hc⟩:=ak hc;obtain⟨x,m,ap,as,cp⟩:=q;obtain⟨p,pos,rfl⟩:=qo Z;have e3:as=[v]:=cV e2;subst e3;obtain⟨a2,U⟩:=gQ.mp hc;obtain⟨a3,J⟩:=gQ.mp a2;obtain⟨a4,h3⟩:=gQ.mp a3;obtain⟨h1,h2⟩:=gQ.mp a4;obtain rfl:m=("append":Str):=eq_of_beq h2;exact Fr (eW g y _ h3) h1 J U
 | .retXE y,s,h=>by
  obtain⟨v,Z,hc⟩:=ak (show onQ (wT s) (λv=>db T y X.N X.env.scope v)=true from h);obtain⟨pos,rfl⟩:=mq Z;exact Cu (eW g y _ hc)
 | .forX i y body,s,h=>by
  obtain⟨x,px,it,b,pos,rfl,h⟩:=zQ h;obtain⟨a1,U⟩:=gQ.mp h;obtain⟨a2,J⟩:=gQ.mp a1;obtain⟨a3,h3⟩:=gQ.mp a2;obtain⟨h1,h2⟩:=gQ.mp a3;obtain⟨q,Z,hc⟩:=ak J;obtain⟨f,e,es⟩:=q;obtain⟨p,rp,rfl⟩:=ui Z;obtain⟨b1,c5⟩:=gQ.mp hc;obtain⟨b2,c4⟩:=gQ.mp b1;obtain⟨b3,c3⟩:=gQ.mp b2;obtain⟨c1,c2⟩:=gQ.mp b3;obtain rfl:f=("range":Str):=eq_of_beq c1;have e3:es=[]:=Lz.mp c3;subst e3;exact Fu g d (eq_of_beq h1) (iV h2) c2 (eW g y _ c4) c5 (soundSs g d body b U)
 | .retM e,s,h=>by
  obtain⟨v,pos,rfl,hc⟩:=zT h;simp only[g4,J7]at hc;exact Fi (ax e g hc.1).1 hc.2
 | .retF _,s,h=>absurd (show false=true from h) il
 | .setCall _ _ _,s,h=>absurd (show false=true from h) il
 | .clear _,s,h=>absurd (show false=true from h) il
 | .retOwn i,s,h=>by
  obtain⟨x,p,pos,rfl,hc⟩:=uE h;exact zJ hc
 | .retN,s,h=>absurd (show false=true from h) il
 | .brk,s,h=>absurd (show false=true from h) il
 | .cont,s,h=>absurd (show false=true from h) il
 | .pass,s,h=>absurd (show false=true from h) il
 | .never,s,h=>by
  refine xO.imp λD σ H q=>?_
  obtain⟨B,E,O,W,st,q⟩:=q;rw[ex]at q;exact q
 | .newD m i,s,h=>by
  obtain⟨x,p,dp,pos,rfl,hc⟩:=zP h;simp only[g4,J0]at hc;exact Fg d hc.1.1 (iV hc.1.2)
 | .dput i mk me,s,h=>by
  obtain⟨x,p,s',sp,v,pos,rfl,hc⟩:=zO h;simp only[g4]at hc;exact Fh g (ax mk g hc.1.1.1.1.2).1 (ax me g hc.1.1.2).1 hc.1.1.1.1.1 hc.2
 | .freeze _,s,h=>absurd (show false=true from h) il
theorem soundSs{T:Tab}{k:Nat}{cal:Cal}{X:Cx}(g:Gf X T k cal)(d:Df X):∀(ms:List MS) (ss:List Stmt),chkSs T X.N X.env.scope ms ss=true->PSs X ss (tSs X.K cal ms)
 | [],ss,h=>by
  cases ss with
  |nil=>exact HR
  |cons _ _=>cases h
 |m::ms,ss,h=>by
  cases hm:Fx m with
  |true =>
   cases m<;>simp[Fx]at hm
   cases h
  |false =>
   cases ss with
   |nil=>cases m<;>first|(cases h;done)|cases hm
   |cons s ss =>
    have h:(g5 T X.N X.env.scope m s&&chkSs T X.N X.env.scope ms ss)=true:=by cases m<;>first|exact h|(simp[Fx]at hm)
    simp only[g4]at h;exact Fj (Fy g d m s h.1) (soundSs g d ms ss h.2)
end
structure FnD(K:Nx)(x y:Str)(st:Stmt)(fa:Addr)(fd:FuncData):Prop where
 it:∃(c0 d0 k0 o0 m0:Value) (a0:Option Addr) (c1 t1:Value) (a1:Option Addr) (sl:Array (Option Value)),
  K.lookup fa=some ⟨c0,a1,.func fd,sl⟩/\PySem.W.codeIn K c1 y=true/\fd=PySem.W.fnOf x y (j3 st) (dM st) (bt st) d0 k0 o0 m0 a0 c1 t1
 kp:PySem.W.keepIn K (.ref fa)=true
theorem FnD.mk'{K:Nx}{st:Stmt} 
  (l:K.lookup z=some ⟨Y,a1,.func (PySem.W.fnOf x y (j3 st) (dM st) (bt st) d0 J o0 m0 U D t1),Z⟩) (c:PySem.W.codeIn K D y=true) (k:PySem.W.keepIn K (.ref z)=true) :
  FnD K x y st z (PySem.W.fnOf x y (j3 st) (dM st) (bt st) d0 J o0 m0 U D t1):=⟨⟨_,_,_,_,_,_,_,_,_,_,l,c,rfl⟩,k⟩
theorem FnD.mkd{K:Nx}{st:Stmt} 
  (l:K.lookup z=some ⟨Y,a1,.func (PySem.W.fnOf x y (j3 st) (dM st) (bt st) (.ref T) J o0 m0 U D t1),Z⟩) (c:PySem.W.codeIn K D y=true) (k:PySem.W.keepIn K (.ref z)=true) :
  FnD K x y st z (PySem.W.fnOf x y (j3 st) (dM st) (bt st) (.ref T) J o0 m0 U D t1):=.mk' l c k
structure sB(T:Tab)(K:Nx)(mg:Str->Option Value)(st:Stmt)(d:MD)(fa:Addr)(fd:FuncData):Prop where
 fn:FnD K d.name d.name st fa fd
 binds:c9 K fd d.params []
 named:mg d.name=some (.ref fa)
 scope:p0 d.names d.params (bt st)
 body:chkSs T d.names (bt st) d.body (dM st)=true
def c7{α:Type}{n:Nat}:∀{us:List α},us.length=n+1->∃a t,us=a::t/\t.length=n
 | _::_,h=>⟨_,_,rfl,Nat.succ.inj h⟩
def bn1{K:Nx}{fd:FuncData}{z:Str}(h:∀a,bindArgs fd ⟨[a],[]⟩=pure [(z,a)]):c9 K fd [z] []:=.all λus D=>by
 obtain⟨a,J,rfl,h1⟩:=c7 D;obtain rfl:=KJ.mp h1;exact h a
def bn2{K:Nx}{fd:FuncData}{z D:Str}(h:∀a b,bindArgs fd ⟨[a,b],[]⟩=pure [(z,a),(D,b)]):c9 K fd [z,D] []:=.all λus J=>by
 obtain⟨a,U,rfl,h1⟩:=c7 J;obtain⟨b,Y,rfl,h2⟩:=c7 h1;obtain rfl:=KJ.mp h2;exact h a b
def bn3{K:Nx}{fd:FuncData}{z D J:Str}(h:∀a b c,bindArgs fd ⟨[a,b,c],[]⟩=pure [(z,a),(D,b),(J,c)]):c9 K fd [z,D,J] []:=.all λus U=>by
 obtain⟨a,Z,rfl,h1⟩:=c7 U;obtain⟨b,u2,rfl,h2⟩:=c7 h1;obtain⟨c,u3,rfl,Y⟩:=c7 h2;obtain rfl:=KJ.mp Y;exact h a b c
def bn4{K:Nx}{fd:FuncData}{z D J U:Str}(h:∀a b c d,bindArgs fd ⟨[a,b,c,d],[]⟩=pure [(z,a),(D,b),(J,c),(U,d)]):c9 K fd [z,D,J,U] []:=.all λus Y=>by
 obtain⟨a,u1,rfl,h1⟩:=c7 Y;obtain⟨b,u2,rfl,h2⟩:=c7 h1;obtain⟨c,u3,rfl,Z⟩:=c7 h2;obtain⟨d,u4,rfl,h4⟩:=c7 Z;obtain rfl:=KJ.mp h4;exact h a b c d
def bn5{K:Nx}{fd:FuncData}{z D J U Y:Str}(h:∀a b c d e,bindArgs fd ⟨[a,b,c,d,e],[]⟩=pure [(z,a),(D,b),(J,c),(U,d),(Y,e)]):c9 K fd [z,D,J,U,Y] []:=.all λus Z=>by
 obtain⟨a,u1,rfl,h1⟩:=c7 Z;obtain⟨b,u2,rfl,h2⟩:=c7 h1;obtain⟨c,u3,rfl,h3⟩:=c7 h2;obtain⟨d,u4,rfl,h4⟩:=c7 h3;obtain⟨e,u5,rfl,h5⟩:=c7 h4;obtain rfl:=KJ.mp h5;exact h a b c d e
def uF{K:Nx}(hd:fd.defaults=.ref T)(l:K.lookup T=some ⟨c,o,.seq vs n,D⟩)
  (h:∀us,us.length=ps.length->∃k,bindArgs fd ⟨us,[]⟩=seqItems? fd.defaults >>= k/\k (some vs)=pure (ps.zip us)):c9 K fd ps []:=λs us X z=>by
 rw[Ll]at z ⊢;obtain⟨k,h1,h2⟩:=h us z;exact .of_defaults hd (X _ _ l) rfl h1 h2
def HD(K:Nx)(x:Str)(st:Stmt)(d:MD)(q:FuncData->Prop:=λ_=>True):Prop:=d.name=x/\∃z fd,PySem.W.nsIn K mainGlobals x=some (some (.ref z))/\FnD K x x st z fd/\c9 K fd d.params []/\q fd
noncomputable def okD(T:Tab)(st:Stmt)(d:MD):Bool:=
 decide ((bt st).kind=.function/\(bt st).isCoroutine=false/\(bt st).isGenerator=false/\d.names.Nodup/\d.names.take d.params.length=d.params/\(∀x∈d.params,(bt st).names.lookup x=some .local\/(bt st).names.lookup x=some .cell)/\∀y∈(bt st).names,y.2≠.free)
 &&chkSs T d.names (bt st) d.body (dM st)
def zU{K:Nx}{st:Stmt}(X:K.In h)(G:h.Ns mainGlobals mg)(hd:HD K x st d q)(D:okD T st d=true):∃J fd,sB T K mg st d J fd/\q fd:=by
 refine aD λZq U=>?_
 obtain⟨e,_,_,n,f,b,z⟩:=hd;obtain⟨Y,Z⟩:=gQ.mp D;obtain⟨s1,s2,s3,s4,s5,s6,s7⟩:=Kh Y;subst e;refine U ?_;exact⟨_,_,⟨f,b,PySem.W.mg_of X G n,⟨s1,s2,s3,s4,s5,s6,s7⟩,Z⟩,z⟩
def xg(T:Tab)(K:Nx)(mg:Str->Option Value):List MD->List (List Sc)->Prop
 | [],[]=>True
 |d::ds,l::ls=>(∃st z fd,sB T K mg st d z fd/\∃vs,c9 K fd d.params vs/\aH (l.map Sc.v) vs)/\xg T K mg ds ls
 | _,_=>False
theorem xg.get{K:Nx} :∀{ds}{D}{f:Nat}{d},xg T K mg ds D->ds[f]?=some d->∃l st z fd,D[f]?=some l/\sB T K mg st d z fd/\∃vs,c9 K fd d.params vs/\aH (l.map Sc.v) vs
 | [],_,f,d,_,e=>by simp at e
 | _::_,[],f,d,h,e=>h.elim
 |d0::ds,l::D,0,d,h,e=>by
  cases e;obtain⟨⟨st,z,fd,r⟩,_⟩:=h;exact⟨l,st,z,fd,rfl,r⟩
 |d0::ds,l::D,f+1,d,h,e=>by
  obtain⟨k,st,z,fd,q,r⟩:=xg.get h.2 (show ds[f]?=some d from by simpa using e);exact⟨k,st,z,fd,by simpa using q,r⟩
def HQ(K:Nx)(d:MD)(fd:FuncData):List Sc->Prop
 | []=>True
 |l=>∃vs,c9 K fd d.params vs/\aH (l.map Sc.v) vs
inductive uG(K:Nx)(tp:Nat->Stmt):List MD->List Nat->List (List Sc)->Prop
 | nil:uG K tp [] [] []
 |cons {d:MD}{ds:List MD}{i:Nat}{is:List Nat}{l:List Sc}{ls:List (List Sc)}:HD K d.name (tp i) d (λfd=>HQ K d fd l)->uG K tp ds is ls->uG K tp (d::ds) (i::is) (l::ls)
noncomputable def Ia(T:Tab)(z:Nat->Stmt):List MD->List Nat->Bool
 |d::ds,i::is=>okD T (z i) d&&Ia T z ds is
 | _,_=>true
def Fz{T:Tab}{K:Nx}{mg:Str->Option Value}{h:Heap}{J:Nat->Stmt}{ds:List MD}{is:List Nat}{z:List (List Sc)}(X:K.In h)(G:h.Ns mainGlobals mg)(a:uG K J ds is z)(U:Ia T J ds is=true):xg T K mg ds z:=by
 induction a with
 |nil=>trivial
 | @cons d ds i is l z hd _ ih =>
  obtain⟨Y,Z⟩:=gQ.mp U;obtain⟨fa,fd,D,q⟩:=zU X G hd Y;refine⟨⟨_,fa,fd,D,?_⟩,ih Z⟩;cases l with
  |nil=>exact⟨_,D.binds,.nil⟩
  |cons _ _=>exact q
structure FA(T:Tab)(K:Nx)(mg:Str->Option Value)(ds:List MD)
 :Prop where
 tab:T.fs=ds.map (·.name)
 defs:xg T K mg ds T.ds
 blt:∀x∈ku,mg (x:Str)=none
 gs:∀p∈T.gs,∃u,mg p.1=some u/\aF (toV p.2) u
def nS(hd:ds[f]?=some d)(h:aa ds (n+1) f args=some r):args.length=d.params.length /\
  ((∃W,exs (aa ds n) d.body (args.map some++replicate (d.names.length-args.length) none)=.next W/\r=.non)\/exs (aa ds n) d.body (args.map some++replicate (d.names.length-args.length) none)=.ret r \/
   ∃xs,exs (aa ds n) d.body (args.map some++replicate (d.names.length-args.length) none)=.retF xs/\r=.lst xs):=by
 rw[aa,hd]at h;dsimp only at h;by_cases z:args.length=d.params.length
 .rw[if_pos z]at h;refine⟨z,?_⟩;cases he:exs _ d.body _<;>simp_all
 .simp_all
def lP(J:f<1000)(D:ds[f+1000]?=none)(hd:ds[f]?=some d)(h:aa ds (n+1) (f+1000) args=some r):args.length=d.params.length /\
  ∃xs,exs (aa ds n) d.body (args.map some++replicate (d.names.length-args.length) none)=.retF xs/\r=.lst xs:=by
 rw[aa,D]at h;dsimp only at h;rw[if_neg (by omega),K0,hd]at h;dsimp only at h;by_cases z:args.length=d.params.length
 .rw[if_pos z]at h;refine⟨z,?_⟩;cases he:exs (aa ds n) d.body (args.map some++replicate _ none)<;>simp_all
 .simp_all
def pJ(Y:f<1000)(D:ds[f+2000]?=none)(hd:ds[f]?=some d)(h:aa ds (n+1) (f+2000) args=some r):args.length=d.params.length /\
  ∃v W ms,exs (aa ds n) d.body (args.map some++replicate (d.names.length-args.length) none)=.retM v W/\eC args W=some ms/\r=.tup (v::ms):=by
 rw[aa,D]at h;dsimp only at h;rw[if_pos (by omega)]at h;rw[K0,hd]at h;dsimp only at h;by_cases z:args.length=d.params.length
 .rw[if_pos z]at h;refine⟨z,?_⟩;cases he:exs (aa ds n) d.body (args.map some++replicate (d.names.length-args.length) none)with
  |retM v W =>
   rw[he]at h;dsimp only at h;rw[mu]at h;obtain⟨ms,J,U⟩:=h;exact⟨v,W,ms,rfl,J,U.symm⟩
  | _=>rw[he]at h;cases h
 .simp_all
def lv{K:Nx}(h:cA K O H args vs ds ms):∀(i:Nat) d a,args[i]?=some (.mutD d)->vs[i]?=some (.ref a)->a∈ms:=by
 induction h with
 |nil=>intro i d a e;simp at e
 |mutd h J t ih =>
  intro i d a z D;cases i with
  |zero=>simp at D;subst D;exact .head _
  |succ i=>exact .tail _ (ih i d a (by simpa using z) (by simpa using D))
 |other hm t ih =>
  intro i d a z D;cases i with
  |zero=>simp at z;exact absurd z (hm d)
  |succ i=>exact ih i d a (by simpa using z) (by simpa using D)
def sC{K:Nx}(h:cA K O H args vs ds ms):∀(i j:Nat) d d' a,i≠j->args[i]?=some (.mutD d)->args[j]?=some (.mutD d')->vs[i]?=some (.ref a)->vs[j]?≠some (.ref a):=by
 induction h with
 |nil=>intro i j d d' a _ e;simp at e
 |mutd h Z t ih =>
  intro i j d d' a Y z D J U;cases i with
  |zero =>
   cases j with
   |zero=>exact Y rfl
   |succ j =>
    simp at J;subst J;exact Z (lv t j d' _ (by simpa using D) (by simpa using U))
  |succ i =>
   cases j with
   |zero =>
    simp at U;subst U;exact Z (lv t i d _ (by simpa using z) (by simpa using J))
   |succ j=>exact ih i j d d' a (by omega) (by simpa using z) (by simpa using D) (by simpa using J) (by simpa using U)
 |other hm t ih =>
  intro i j d d' a Y z D J U;cases i with
  |zero=>simp at z;exact hm d z
  |succ i =>
   cases j with
   |zero=>simp at D;exact hm d' D
   |succ j=>exact ih i j d d' a (by omega) (by simpa using z) (by simpa using D) (by simpa using J) (by simpa using U)
def uH{K:Nx}(h:cA K O H args vs ds ms):∀{W}{z},eC args W=some z->∀a∈ms,∃(i:Nat) (d:DD),vs[i]?=some (.ref a)/\W[i]?=some (some (.mutD d)):=by
 induction h with
 |nil=>intro W z _ a J;cases J
 |mutd h Z t ih =>
  intro W z e b D
  match W,e with
  |some (.mutD d')::W,e =>
   rw[eC,mu]at e;obtain⟨U,Y,rfl⟩:=e;rcases tf.mp D with rfl|D
   .exact⟨0,d',rfl,rfl⟩
   .obtain⟨i,d,h1,h2⟩:=ih Y b D;exact⟨i+1,d,by simpa using h1,by simpa using h2⟩
 |other hm t ih =>
  intro W z e b D;rename_i m v as vs ds ms
  match m,W,e,hm with
  | .val _,r::W,e,hm =>
   obtain⟨i,d,h1,h2⟩:=ih e b D;exact⟨i+1,d,by simpa using h1,by simpa using h2⟩
  | .mutD d,_,_,hm=>exact absurd rfl (hm d)
def xh{K:Nx}(h:cA K O H args vs ds ms):∀{W}{z},eC args W=some z->(∀(i:Nat) d d' a,args[i]?=some (.mutD d)->W[i]?=some (some (.mutD d'))->vs[i]?=some (.ref a)->DAt K H' O' a d')->cA K O' H' args vs z ms:=by
 induction h with
 |nil=>intro W z e _;rw[eC]at e;cases e;exact .nil
 |mutd h hn t ih =>
  intro W z e D
  match W,e with
  |some (.mutD d')::W,e =>
   rw[eC,mu]at e;obtain⟨a0,e0,rfl⟩:=e;exact .mutd (D 0 _ d' _ rfl rfl rfl) hn (ih e0 λi d J a U Y Z=>D (i+1) d J a (by simpa using U) (by simpa using Y) (by simpa using Z))
 |other hm t ih =>
  intro W z e D;rename_i m v as vs ds ms
  match m,W,e,hm with
  | .val _,r::W,e,hm =>
   exact .other hm (ih e λi d J a U Y Z=>D (i+1) d J a (by simpa using U) (by simpa using Y) (by simpa using Z))
  | .mutD d,_,_,hm=>exact absurd rfl (hm d)
theorem jO :∀{xs}{ys}{i:Nat}{x},Paired F xs ys->xs[i]?=some x->∃y,ys[i]?=some y/\F x y
 | _,_,_,_,.nil,e=>by simp at e
 | _,_,0,_,.cons r _,e=>by simp at e;subst e;exact⟨_,rfl,r⟩
 | _,_,i+1,x,.cons _ t,e=>by
  obtain⟨u,h1,h2⟩:=jO (i:=i) (x:=x) t (by simpa using e);exact⟨u,by simpa using h1,h2⟩
def sD{K:Nx}(J:∀a∈O,H a≠none)(h:Paired (lM K O H) args vs):aE K H O O H (args.map some++replicate (N.length-args.length) none) (eQ N vs):=by
 have U:=Paired.length h;have get:∀i m,(args.map some++replicate (N.length-args.length) none)[i]?=some (some m)->∃u,(eQ N vs)[i]?=some (some u)/\lM K O H m u:=λi m e=>by
  by_cases hi:i<args.length
  .rw[K5 (by simpa using hi),Ka]at e;cases D:args[i]? with
   |none=>rw[D]at e;cases e
   |some m' =>
    rw[D]at e;cases e;obtain⟨u,z,q⟩:=jO h D;refine⟨u,?_,q⟩;unfold L2.eQ;rw[K5 (by rw[nA,<- U];exact hi),Ka,z]
    rfl
  .rw[Lr (by simpa using hi),Mk]at e;split at e<;>cases e
 refine⟨aj.refl H,J,λa Y=>Y,J,by unfold L2.eQ;simp[U],λi m e=>?_,λi j xs ys a _ e _ Z _=>?_
  ⟩
 .obtain⟨u,z,q⟩:=get i m e;refine⟨u,z,?_⟩;cases m<;>first|exact q|exact q.elim
 .obtain⟨u,z,q⟩:=get i _ e;cases xs<;>first|exact q.elim|cases Z
def lw(h:Paired F args vs):∀(i:Nat) m,(args.map some++replicate (N.length-args.length) none)[i]?=some (some m)->args[i]?=some m/\∃u,vs[i]?=some u/\(eQ N vs)[i]?=some (some u)/\F m u:=λi m e=>by
 have J:=Paired.length h;by_cases hi:i<args.length
 .rw[K5 (by simpa using hi),Ka]at e;cases z:args[i]? with
  |none=>rw[z]at e;cases e
  |some U =>
   rw[z]at e;cases e;obtain⟨u,D,q⟩:=jO h z;refine⟨rfl,u,D,?_,q⟩;unfold L2.eQ;rw[K5 (by rw[nA,<- J];exact hi),Ka,D]
   rfl
 .rw[Lr (by simpa using hi),Mk]at e;split at e<;>cases e
def xi{K:Nx}(hO:∀a∈O,H a≠none)(h:Paired (EQ K O H) args vs)(hm:cA K O H args vs ds ms):aE K (jy H ms) (O.filter λb=>decide (b∉ms)) O H (args.map some++replicate (N.length-args.length) none) (eQ N vs):=by
 have hl:=Paired.length h;have le:aj (jy H ms) H:=λb u e=>by
  unfold jy at e;split at e
  .cases e
  .exact e
 refine⟨le,hO,λa z=>(J2.mp z).1,λa z=>?_,by unfold L2.eQ;simp[hl],λi m e=>?_,λi j x y a D e1 e2 ox oy s1 s2=>?_
  ⟩
 .obtain⟨h1,h2⟩:=J2.mp z;unfold jy;rw[if_neg (Kh h2)];exact hO a h1
 .obtain⟨J,u,U,Y,q⟩:=lw h i m e;refine⟨u,Y,?_⟩;cases m with
  |val v=>exact q
  |mutD d =>
   obtain⟨a,rfl,h1,h2⟩:=q;refine⟨a,rfl,h1,h2,?_⟩;unfold jy;rw[if_pos (lv hm i d a J U)]
  | _=>exact q.elim
 .obtain⟨J,u,Z,Y,q⟩:=lw h i x e1;obtain⟨eb,w,ao,ew,q'⟩:=lw h j y e2;rw[Y]at s1;cases s1;rw[ew]at s2;cases s2;cases x with
  |val _=>cases ox
  |mutD d =>
   cases y with
   |val _=>cases oy
   |mutD d'=>exact sC hm i j d d' a D J eb Z ao
   | _=>exact q'.elim
  | _=>exact q.elim
section
variable{T:Tab}{P:Program}{w:World}{K:Nx}{mg:Str->Option Value}{base:Heap}{ds:List MD}
structure Ib(T:Tab)(P:Program)(w:World)(K:Nx)(mg:Str->Option Value)(base:Heap)(ds:List MD)(n g:Nat)(fa:Addr)(fd:FuncData)(ps:List Str):Prop where
 m:jD P w K mg base CX0 n fa fd ps (spM K (aa ds n) g)
 f:jD P w K mg base CX0 n fa fd ps (spF K (aa ds n) g)
 d:jD P w K mg base CX0 n fa fd ps (spD K (aa ds n) g)
theorem mC(ao:ds.length<=1000)
  (pr:FA T K mg ds)
 :∀n f d,ds[f]?=some d->∀st fa fd,sB T K mg st d fa fd->Ib T P w K mg base ds n f fa fd d.params
 |0,f,d,hd,st,fa,fd,D=>{
   m:=⟨λvs H Q E h=>(by obtain⟨O,args,r,_,_,e,_⟩:=h;exact absurd e (by simp[aa])),λA outer s H args us vs Q E _ _ _ _ h=>(by obtain⟨O,args,r,_,_,e,_⟩:=h;exact absurd e (by simp[aa]))⟩
   f:=⟨λvs H Q E h=>(by obtain⟨O,args,r,_,_,e,_⟩:=h;exact absurd e (by simp[aa])),λA outer s H args us vs Q E _ _ _ _ h=>(by obtain⟨O,args,r,_,_,e,_⟩:=h;exact absurd e (by simp[aa]))⟩
   d:=⟨λvs H Q E h=>(by obtain⟨O,args,v,ds,Y,ms,_,_,_,e,_⟩:=h;exact absurd e (by simp[aa])),λA outer s H args us vs Q E _ _ _ _ h=>(by obtain⟨O,args,v,ds,Y,ms,_,_,_,e,_⟩:=h;exact absurd e (by simp[aa]))⟩
   }
 |n+1,f,d,hd,st,fa,fd,D=>by
  refine aD λZq kq=>?_
  obtain⟨c0,d0,k0,o0,m0,a0,a9,t1,a1,sl,lk,hc,rfl⟩:=D.fn.it;have hf:=wh (JY.mp hd).1 ao;have hn:ds[f+1000]?=none:=getElem?_eq_none (by omega);have b3:ds[f+2000]?=none:=getElem?_eq_none (by omega);have gg:∀{CX}{A}{outer}{s}{H}{E},_->Gf (rn CX P w K mg base d.names d.name (bt st) fa a9 A outer s H E).nox T n (aa ds n):=λ{CX A outer s H E} hr=>{
   calm:=rfl
   room:=hr
   fns:=λf' x hx=>by
    rw[pr.tab,Ka]at hx;cases hd2:ds[f']? with
    |none=>rw[hd2]at hx;cases hx
    |some d2 =>
     rw[hd2]at hx;cases hx;obtain⟨l2,a3,J,U,el,D2,bd⟩:=pr.defs.get hd2;exact⟨J,U,d2.params,D2.named,D2.fn.kp,D2.binds,(mC ao pr n f' d2 hd2 a3 J U D2).m,λl hl=>by rw[el]at hl;cases hl;exact bd⟩
   blt:=pr.blt
   gs:=pr.gs
   fnsF:=λf' x hx=>by
    rw[pr.tab,Ka]at hx;cases hd2:ds[f']? with
    |none=>rw[hd2]at hx;cases hx
    |some d2 =>
     rw[hd2]at hx;cases hx;obtain⟨l2,a3,J,U,el,D2,bd⟩:=pr.defs.get hd2;exact⟨J,U,d2.params,D2.named,D2.fn.kp,D2.binds,(mC ao pr n f' d2 hd2 a3 J U D2).f⟩
   fnsD:=λf' x hx=>by
    rw[pr.tab,Ka]at hx;cases hd2:ds[f']? with
    |none=>rw[hd2]at hx;cases hx
    |some d2 =>
     rw[hd2]at hx;cases hx;obtain⟨l2,a3,J,U,el,D2,bd⟩:=pr.defs.get hd2;exact⟨J,U,d2.params,D2.named,D2.fn.kp,D2.binds,(mC ao pr n f' d2 hd2 a3 J U D2).d⟩
   }
  have df:∀{CX}{A}{outer}{s}{H}{E},Df (rn CX P w K mg base d.names d.name (bt st) fa a9 A outer s H E).nox:=λ{CX A outer s H E}=>⟨D.scope.nd,λ_=>rfl,PassesOwn.never,by
    have hk:(rn CX P w K mg base d.names d.name (bt st) fa a9 A outer s H E).nox.env.scope.kind=.function:=D.scope.kind;unfold Env.blockKind;rw[hk]
    rfl
    ⟩
  refine kq ?_;refine {
   m:=?_
   f:=?_
   d:=?_
   }
  .refine xX lk hc D.scope (λvs H Q E h=>?_) (λA outer s H vs Q E hr h=>?_)
   .obtain⟨O,args,r,_,hp,e,_⟩:=h;rw[<- (nS hd e).1];exact(Paired.length hp).symm
   .obtain⟨O,args,r,hO,hp,e,q⟩:=h;obtain⟨hl,c1⟩:=nS hd e;refine⟨_,(soundSs (gg hr) df d.body (dM st) D.body).nox,H,O,O,_,sD hO hp,?_⟩;rcases c1 with⟨W,he,rfl⟩|he|⟨xs,he,rfl⟩
    .rw[he];exact λF H' O' Z _=>q _ H' Z.keep (qt _)
    .rw[he];exact λu H' s' r'=>q u H' s' r'
    .rw[he];refine λp us H' s' b1 b2 r'=>q _ H' s' ?_
     rw[Rep];refine⟨p,us,rfl,SqL.of ?_,Reps.mono ir _ r'⟩;rw[aW λz=>hO p z b1];exact b2
  .refine xX lk hc D.scope (λvs H Q E h=>?_) (λA outer s H vs Q E hr h=>?_)
   .obtain⟨O,args,r,_,hp,e,_⟩:=h;rw[<- (lP hf hn hd e).1];exact(Paired.length hp).symm
   .obtain⟨O,args,xs,hO,hp,e,q⟩:=h;obtain⟨hl,ys,he,ey⟩:=lP hf hn hd e;cases ey;refine⟨_,(soundSs (gg hr) df d.body (dM st) D.body).nox,H,O,O,_,sD hO hp,?_⟩;rw[he];exact λp us H' s' b1 b2 r'=>q p us H' s' b1 b2 r'
  .refine xX lk hc D.scope (λvs H Q E h=>?_) (λA outer s H vs Q E hr h=>?_)
   .obtain⟨O,args,v,es,Y,ms,_,hp,_,e,_⟩:=h;rw[<- (pJ hf b3 hd e).1];exact(Paired.length hp).symm
   .refine aD λZq kq=>?_
    obtain⟨O,args,v,es,Y,ms,hO,hp,hm,e,q⟩:=h;obtain⟨hl,v',W,dV,he,cd,ey⟩:=pJ hf b3 hd e;cases ey;refine kq ?_;refine⟨_,(soundSs (gg hr) df d.body (dM st) D.body).nox,jy H ms,_,O,_,xi hO hp hm,?_⟩;rw[he];have key:∀{F}{H'}{O'},aE K (jy H ms) (O.filter λb=>decide (b∉ms)) O' H' W F->bi (jy H ms) O O' (args.map some++replicate (d.names.length-args.length) none) W (eQ d.names vs) F->∀(i:Nat) d' a,W[i]?=some (some (.mutD d'))->vs[i]?=some (.ref a)->DAt K H' O' a d'/\a∈O':=λ{F H' O'} Z k' i d' a e2 e3=>by
     obtain⟨_,c4⟩:=k'.mutK i d' e2;obtain⟨u,eu,a',rfl,h1,h2,_⟩:=Z.slot i _ e2;have ei:(eQ d.names vs)[i]?=some (some (.ref a)):=by
      have hi:=(JY.mp e3).1;unfold L2.eQ;rw[K5 (by simpa using hi),Ka,e3]
      rfl
     rw[c4,ei]at eu;cases eu;exact⟨h1,h2⟩
    refine λu F H' O' Z k' ru=>?_
    have vw:=bI (aj.refl H') λb hb=>.inl (by
     by_cases z:b∈ms
     .obtain⟨i,d',h1,h2⟩:=uH hm cd b z;exact(key Z k' i d' b h2 h1).2
     .refine k'.stay b ?_ hb;unfold jy;rw[if_neg z];exact hO b hb)
    refine q u H' (λb o hb eb=>Z.keep b o ?_) (xh hm cd λi d1 d' a e1 e2 e3=>(key Z k' i d' a e2 e3).1.move (λ_ z=>z) vw) (Rep.mono vw _ ru);unfold jy;rw[if_neg hb];exact eb
def Ic(z:ds.length<=1000)
  (U:FA T K mg ds)
  (n f) (d) (hd:ds[f]?=some d) (st) (J) (fd) (D:sB T K mg st d J fd):jD P w K mg base CX0 n J fd d.params (spM K (aa ds n) f):=(mC z U n f d hd st J fd D).m
end
def FB{K:Nx}{ns:List Int}(h:aa ds n li [.brw (ns.map .int)]=some (.bl true))(D:SqL K H a (ns.map V.int)):spM K (aa ds n) li [.ref a] H (λv _=>v=.bl true) λ_ _ _=>False:=
 ⟨[],[.brw (ns.map .int)],.bl true,λ_ z=>by simp at z,.cons ⟨a,_,rfl,D,.of_ints ns⟩ .nil,h,λu H' _ r=>by rw[Rep]at r;exact r⟩
end MM
namespace MM
open PySem List Option
noncomputable abbrev ofS(z:List Int):PV:=.tup (z.map .int)
noncomputable abbrev ofR(R:List (List Int)):PV:=.tup (R.map ofS)
noncomputable abbrev ofL(ns:List Int):PV:=.lst (ns.map .int)
theorem bx:∀ns,bc (ns.map .int)=some ns
 | []=>rfl
 |n::ns=>by simp[bc,bx ns]
theorem pK:∀R,gR (R.map ofS)=some R
 | []=>rfl
 |t::R=>by simp[gR,bx,pK R]
theorem fz:∀ns,cM (ns.map .bl)=some ns
 | []=>rfl
 |n::ns=>by simp[cM,fz ns]
def pL(h:ns.length<64):iS (ns.map .int)=some (ofL (sortI ns)):=by
 unfold iS;rw[if_pos (by simpa using h),bx]
def ff{R:List (List Int)}(h:R.length<64):iS (R.map ofS)=some (.lst ((sortT R).map ofS)):=by
 unfold iS;rw[if_pos (by simpa using h)];cases R with
 |nil=>rfl
 |cons t R =>
  have:bc ((t::R).map ofS)=none:=rfl;rw[this];simp only[pK,map_some]
theorem cm{α:Type}{g:α->PV}{c:PV->Option Bool}{f:PV->Option PV}{p:α->Bool}{h:α->PV}:∀{xs:List α},(∀x∈xs,c (g x)=some (p x))->(∀x∈xs,p x=true->f (g x)=some (h x))->gu c f (xs.map g)=some ((xs.filter p).map h)
 | [],_,_=>rfl
 |x::xs,hc,hf=>by
  rw[JX,gu,hc x (.head _),bind_some];have ih:=cm (xs:=xs) (λy z=>hc y (.tail _ z)) (λy z=>hf y (.tail _ z));cases D:p x<;>simp_all
def iu{α:Type}{g:α->PV}{c:PV->Option Bool}{f:PV->Option PV}{h:α->PV}{xs:List α}(hc:∀x∈xs,c (g x)=some true)(z:∀x∈xs,f (g x)=some (h x)):gu c f (xs.map g)=some (xs.map h):=by
 rw[cm hc (λx hx _=>z x hx),L5.mpr λ_ _=>rfl]
def FC(a b)(z:List Int):((b==a)||decide (a∈z))=decide (a=b\/a∈z):=by grind
def FD(a b)(z:List (List Int)):(decide (b=a)||decide (a∈z))=decide (a=b\/a∈z):=by grind
@[simp] theorem mD(n)(i j):eqF n (.int i) (.int j)=some (i==j):=by cases n<;>rfl
theorem bh(h:Int):∀z:List Int,isIn (.int h) (z.map .int)=some (decide (h∈z))
 | []=>rfl
 |t::z=>by
  have ih:=bh h z;unfold isIn at ih ⊢;rw[JX,inL,ih];simp only[mD,bind_some,map_some,tf,FC]
theorem nT(n:Nat):∀a b:List Int,eqL (eqF n) (a.map .int) (b.map .int)=some (decide (a=b))
 | [],[]=>rfl
 | [],_::_=>rfl
 | _::_,[]=>rfl
 |x::a,y::b=>by
  rw[JX,JX,eqL,nT n a b];simp only[mD,bind_some,map_some,MP]
  congr 1
  rw[KQ];simp
def Ie(n:Nat)(a b:List Int):eqF (n+1) (ofS a) (ofS b)=some (decide (a=b)):=nT n a b
def Ig(n:Nat)(a b:List Int):eqF (n+1) (ofL a) (ofL b)=some (decide (a=b)):=by
 show(if (a.map PV.int).length=(b.map PV.int).length then eqL (eqF n) (a.map .int) (b.map .int)else some false)=_;rw[nT];split
 .rfl
 .rename_i h
  congr 1
  exact(Kc λe=>h (by rw[e])).symm
theorem lx(h):∀z:List (List Int),isIn (ofS h) (z.map ofS)=some (decide (h∈z))
 | []=>rfl
 |t::z=>by
  have ih:=lx h z;unfold isIn at ih ⊢;rw[JX,inL,ih,Ie 99];simp only[bind_some,map_some,tf,FD]
noncomputable def bf:R->Option PV
 | .next _=>some .non
 | .ret v=>some v
 | .retF xs=>some (.lst xs)
 | _=>none
def ae(hd:ds[f]?=some d)(z:args.length=d.params.length):aa ds (n+1) f args=bf (exs (aa ds n) d.body (args.map some++replicate (d.names.length-args.length) none)):=by
 rw[aa,hd];simp[z]
 rfl
noncomputable def sE(args:List MV):R->Option PV
 | .retM v W=>(eC args W).map λds=>.tup (v::ds)
 | _=>none
def ji(z:ds[f+2000]?=none)(hd:ds[f]?=some d)(D:args.length=d.params.length)
 :aa ds (n+1) (f+2000) args=sE args (exs (aa ds n) d.body (args.map some++replicate (d.names.length-args.length) none)):=by
 rw[aa,z];rw[K0,hd];simp[D]
 rfl
@[simp] theorem Gg(v)(W)(k):(R.retM v W).andThen k=.retM v W:=rfl
@[simp] theorem FE(v):gX (some (.mutD v))=some (.brwD v):=rfl
@[simp] theorem FG(v):fR (some (.mutD v))=some (.brwD v):=rfl
@[simp] theorem Gh(xs)(k):(R.retF xs).andThen k=.retF xs:=rfl
@[simp] theorem Gi(v):bB (some (.val v))=some v:=rfl
@[simp] theorem Gj(v):bB (some (.own v))=some (.lst v):=rfl
@[simp] theorem Gk(v):bB (some (.brw v))=some (.lst v):=rfl
@[simp] theorem FH(v):bB (some (.ownD (.k v)))=some (.dI (.k v)):=rfl
@[simp] theorem FI(v):bB (some (.ownD (.t v)))=some (.dI (.t v)):=rfl
@[simp] theorem FJ(v):bB (some (.brwD (.k v)))=some (.dI (.k v)):=rfl
@[simp] theorem JC(v):rT (.k v)=true:=rfl
@[simp] theorem JD(v):rT (.t v)=true:=rfl
@[simp] theorem FK(v):bB (some (.brwD (.t v)))=some (.dI (.t v)):=rfl
@[simp] theorem FL(v):gX (some (.ownD v))=some (.brwD v):=rfl
@[simp] theorem FM(v):gX (some (.brwD v))=some (.brwD v):=rfl
@[simp] theorem FN(v):fR (some (.ownD v))=some (.brwD v):=rfl
@[simp] theorem FO(v):fR (some (.brwD v))=some (.brwD v):=rfl
@[simp] theorem JE(i):sc? (.int i)=some (.int i):=rfl
@[simp] theorem JU(i):sc? (.bl i)=some (.bl i):=rfl
@[simp] theorem JF:sc? .non=some .non:=rfl
@[simp] theorem JG(i):(Sc.int i).pv=.int i:=rfl
@[simp] theorem JV(i):(Sc.bl i).pv=.bl i:=rfl
@[simp] theorem Gm(v):yU (some (.val v))=some v:=rfl
@[simp] theorem Gn(v):gX (some (.val v))=some (.val v):=rfl
@[simp] theorem Go(v):gX (some (.own v))=some (.brw v):=rfl
@[simp] theorem Gp(v):gX (some (.brw v))=some (.brw v):=rfl
@[simp] theorem Gq(v):fR (some (.val v))=some (.val v):=rfl
@[simp] theorem Gr(v):fR (some (.own v))=some (.brw v):=rfl
@[simp] theorem Gs(v):fR (some (.brw v))=some (.brw v):=rfl
@[simp] theorem Gu(b):bb (.bl b)=some b:=rfl
@[simp] theorem IK(i j):gU .add (.int i) (.int j)=some (.int (i+j)):=rfl
@[simp] theorem IL(i j):gU .sub (.int i) (.int j)=some (.int (i-j)):=rfl
@[simp] theorem IM(i j):gU .mul (.int i) (.int j)=if (-(2 ^ 64)<i/\i<2 ^ 64)\/(-(2 ^ 64)<j/\j<2 ^ 64)then some (.int (i*j))else none:=rfl
@[simp] theorem zV(i j):gU .fdiv (.int i) (.int j)=if 0<j/\j<1073741824 then some (.int (i / j))else none:=rfl
@[simp] theorem qH(i j):gU .mod (.int i) (.int j)=if 0<j then some (.int (i % j))else none:=rfl
@[simp] theorem mE(x y):gU .add (.lst x) (.lst y)=if x.length+y.length<=10000 then some (.lst (x++y))else none:=rfl
@[simp] theorem JH(i j):cF .lt (.int i) (.int j)=some (decide (i<j)):=rfl
@[simp] theorem JI(i j):cF .le (.int i) (.int j)=some (decide (i<=j)):=rfl
@[simp] theorem FP(i j):cF .gt (.int i) (.int j)=some (decide (j<i)):=rfl
@[simp] theorem JJ(i j):cF .ge (.int i) (.int j)=some (decide (j<=i)):=rfl
@[simp] theorem zW(x y):cF .eq x y=eqF 100 x y:=rfl
@[simp] theorem FQ(x y):cF .ne x y=if t_ x y=true then(eqF 100 x y).map (λp=>!p)else none:=rfl
@[simp] theorem IN(x):cF .isN x .non=some (jx x):=rfl
@[simp] theorem Ih(x):cF .notN x .non=some (!jx x):=rfl
@[simp] theorem CC(x)(xs):cF .isIn x (.tup xs)=isIn x xs:=rfl
@[simp] theorem IP(x)(xs):cF .isIn x (.lst xs)=isIn x xs:=rfl
@[simp] theorem Ii(x)(xs):cF .notIn x (.tup xs)=(isIn x xs).map λp=>!p:=rfl
@[simp] theorem zX(x)(xs):cF .notIn x (.lst xs)=(isIn x xs).map λp=>!p:=rfl
@[simp] theorem JK(n)(i j):eqF n (.bl i) (.bl j)=some (i==j):=by cases n<;>rfl
@[simp] theorem IQ(n)(i j):eqF n (.str i) (.str j)=some (i==j):=by cases n<;>rfl
@[simp] theorem IR(x y):t_ (.tup x) (.tup y)=true:=rfl
@[simp] theorem IS(x y):t_ (.lst x) (.lst y)=true:=rfl
@[simp] theorem IT(x y):t_ (.int x) (.int y)=true:=rfl
@[simp] theorem vV(x):a_ (.tup x)=some x:=rfl
@[simp] theorem iw(x):a_ (.lst x)=some x:=rfl
@[simp] theorem Ij(x):aA .len [.tup x]=some (.int x.length):=rfl
@[simp] theorem zY(x):aA .len [.lst x]=some (.int x.length):=rfl
@[simp] theorem Ik(x):aA .len [.dI (.k x)]=some (.int x.length):=rfl
@[simp] theorem IU(x):aA .tupleOf [x]=(a_ x).map .tup:=rfl
@[simp] theorem Il(x):aA .listOf [x]=(a_ x).map .lst:=rfl
@[simp] theorem fB(x):aA .sorted [x]=(a_ x).bind iS:=rfl
@[simp] theorem qI(x):aA .any [.lst x]=(cM x).map λbs=>.bl (bs.any id):=rfl
@[simp] theorem CD(x):aA .all [.lst x]=(cM x).map λbs=>.bl (bs.all id):=rfl
@[simp] theorem Im(i):aA .intOf [.int i]=some (.int i):=rfl
@[simp] theorem Io(b):aA .intOf [.bl b]=some (.int (if b then 1 else 0)):=rfl
@[simp] theorem IV(i):isD (.int i)=false:=rfl
@[simp] theorem JL(i):isD (.bl i)=false:=rfl
@[simp] theorem IW(i):isD (.str i)=false:=rfl
@[simp] theorem IX(i):isD (.tup i)=false:=rfl
@[simp] theorem IY(i):isD (.lst i)=false:=rfl
@[simp] theorem IZ:isD .non=false:=rfl
@[simp] theorem Gv(x):aA .isInt [x]=if isD x=true then none else some (.bl (isT .isInt x)):=rfl
@[simp] theorem A4(i):isT .isInt (.int i)=true:=rfl
@[simp] theorem CF(i):isT .isInt (.bl i)=true:=rfl
@[simp] theorem A5(i):isT .isInt (.str i)=false:=rfl
@[simp] theorem A6(i):isT .isInt (.lst i)=false:=rfl
@[simp] theorem A7(i):isT .isInt (.tup i)=false:=rfl
@[simp] theorem A8:isT .isInt .non=false:=rfl
@[simp] theorem FR(x):aA .isBool [x]=if isD x=true then none else some (.bl (isT .isBool x)):=rfl
@[simp] theorem zZ(i):isT .isBool (.int i)=false:=rfl
@[simp] theorem A9(i):isT .isBool (.bl i)=true:=rfl
@[simp] theorem z5(i):isT .isBool (.str i)=false:=rfl
@[simp] theorem z6(i):isT .isBool (.lst i)=false:=rfl
@[simp] theorem z7(i):isT .isBool (.tup i)=false:=rfl
@[simp] theorem z8:isT .isBool .non=false:=rfl
@[simp] theorem Gw(x):aA .isStr [x]=if isD x=true then none else some (.bl (isT .isStr x)):=rfl
@[simp] theorem A_(i):isT .isStr (.int i)=false:=rfl
@[simp] theorem CG(i):isT .isStr (.bl i)=false:=rfl
@[simp] theorem Ba(i):isT .isStr (.str i)=true:=rfl
@[simp] theorem Bb(i):isT .isStr (.lst i)=false:=rfl
@[simp] theorem Bc(i):isT .isStr (.tup i)=false:=rfl
@[simp] theorem Bd:isT .isStr .non=false:=rfl
@[simp] theorem FS(x):aA .isList [x]=if isD x=true then none else some (.bl (isT .isList x)):=rfl
@[simp] theorem z9(i):isT .isList (.int i)=false:=rfl
@[simp] theorem Be(i):isT .isList (.bl i)=false:=rfl
@[simp] theorem z_(i):isT .isList (.str i)=false:=rfl
@[simp] theorem Aa(i):isT .isList (.lst i)=true:=rfl
@[simp] theorem Ab(i):isT .isList (.tup i)=false:=rfl
@[simp] theorem Ac:isT .isList .non=false:=rfl
@[simp] theorem Dp(x):aA .isTuple [x]=if isD x=true then none else some (.bl (isT .isTuple x)):=rfl
@[simp] theorem xD(i):isT .isTuple (.int i)=false:=rfl
@[simp] theorem Ad(i):isT .isTuple (.bl i)=false:=rfl
@[simp] theorem xE(i):isT .isTuple (.str i)=false:=rfl
@[simp] theorem xF(i):isT .isTuple (.lst i)=false:=rfl
@[simp] theorem xG(i):isT .isTuple (.tup i)=true:=rfl
@[simp] theorem xH:isT .isTuple .non=false:=rfl
@[simp] theorem Ae(xs:List PV):aA .min1 [.lst xs]=(bc xs).bind λns=>(BV ns).map .int:=rfl
@[simp] theorem Af(xs):aA .max1 [.lst xs]=(bc xs).bind λns=>(yT ns).map .int:=rfl
@[simp] theorem uI(d):aA .valuesOf [.dI d]=if (lL d).length<=10000 then some (.lst (lL d))else none:=rfl
@[simp] theorem Ag(kvs):aA .sortedKeys [.dI (.k kvs)]=if kvs.length<64 then some (ofL (sortI (kvs.map (·.1))))else none:=rfl
@[simp] theorem JM(kvs)(i):wS (.dI (.k kvs)) (.int i)=some (bQ kvs i):=rfl
@[simp] theorem JN(kvs)(ns):wS (.dI (.t kvs)) (.tup (ns.map .int))=some (bQ kvs ns):=by
 show(bc _).map _=_;rw[bx]
 rfl
@[simp] theorem JO(kvs)(i)(s):qh (.k kvs) (.int i) s=if kvs.length<10000 then some (.k (cN kvs i s))else none:=rfl
@[simp] theorem JP(kvs)(ns)(s):qh (.t kvs) (.tup (ns.map .int)) s=if kvs.length<10000 then some (.t (cN kvs ns s))else none:=by
 show((bc _).bind λk=>if kvs.length<10000 then some _ else none)=_;rw[bx]
 rfl
@[simp] theorem I0(p q):cF .isN (.bl p) (.bl q)=some (p==q):=rfl
@[simp] theorem Ip(p q):cF .notN (.bl p) (.bl q)=some (!(p==q)):=rfl
@[simp] theorem CH(xs):aA .tupleRev [.lst xs]=some (.tup xs.reverse):=rfl
@[simp] theorem oT(x:PV):aA .sortedSet [x]=(a_ x).bind λxs=>(bc xs).bind λns=>if ns.length<=4000/\(dd ns).length<64 then some (.lst ((sortI (dd ns)).map .int))else none:=rfl
@[simp] theorem vW(x)(i):gW (.lst x) (.int i)=(place x.length i).bind λj=>x[j]?:=rfl
@[simp] theorem JW(x)(i):gW (.tup x) (.int i)=(place x.length i).bind λj=>x[j]?:=rfl
@[simp] theorem I_(x)(lo hi):mj (.lst x) lo hi=some (.lst (cut x lo hi)):=rfl
@[simp] theorem Ja(i j):bnd (.cst (.int i)) (.int j)=some (some j):=rfl
@[simp] theorem vX(x):bq .seq [x]=a_ x:=rfl
def CI(j):bq .rng [.int j]=if -(2 ^ 62)<=j/\j<2 ^ 62 then some ((range j.toNat).map λk=>.int ((0:Int)+k))else none:=rfl
@[simp] theorem bz(W)(k):(R.next W).andThen k=k W:=rfl
@[simp] theorem Iq(v)(k):(R.ret v).andThen k=.ret v:=rfl
@[simp] theorem Ir(k):R.bad.andThen k=.bad:=rfl
@[simp] theorem Iu(W)(k):(R.brk W).andThen k=.brk W:=rfl
@[simp] theorem Gx(W)(k):(R.cont W).andThen k=.cont W:=rfl
@[simp] theorem FT(v)(k):eR (some v) k=k v:=rfl
@[simp] theorem nU(v)(k):yV (some v) k=k v:=rfl
@[simp] theorem FU(v)(k):cc (some v) k=k v:=rfl
@[simp] theorem Gy(v):bf (.ret v)=some v:=rfl
@[simp] theorem FV(W):bf (.next W)=some .non:=rfl
@[simp] theorem cq(a)(l)(m):put (a::l) 0 m=some m::l:=rfl
@[simp] theorem cv(a)(l)(n)(m):put (a::l) (n+1) m=a::put l n m:=rfl
@[simp] theorem fg(src)(z W):(R.next W).back src z=.next (aP src z W):=rfl
@[simp] theorem Iv(src)(z)(v):(R.ret v).back src z=.ret v:=rfl
@[simp] theorem Gz(body)(W):au body [] W=.next W:=rfl
def jP(z:0<=j)(h1:j<4611686018427387904):bq .rng [.int j]=some ((range j.toNat).map λk=>.int (k:Int)):=by
 rw[CI,if_pos ⟨by omega,by omega⟩]
 congr 1
 simp_all
def iX{n:Nat}{i:Int}(z:0<=i)(h:i<n):place n i=some i.toNat:=by unfold place;rw[if_pos z,if_pos h]
def leT(a b:List Int):Prop:=lexLt b a=false
theorem sortI_perm(l):(sortI l).Perm l:=by rw[du];exact L2.Srt.sortI_perm l
theorem sortT_perm(l):(sortT l).Perm l:=by rw[kz];exact L2.Srt.sortT_perm l
def sortI_len(l):(sortI l).length=l.length:=(sortI_perm l).length_eq
def sortT_len(l):(sortT l).length=l.length:=(sortT_perm l).length_eq
def g8 :x∈sortI l ↔ x∈l:=(sortI_perm l).mem_iff
def bo :x∈sortT l ↔ x∈l:=(sortT_perm l).mem_iff
theorem sortI_rises(l):(sortI l).Pairwise (· <= ·):=by rw[du];exact L2.Srt.sortI_rises l
theorem sortT_rises(l):(sortT l).Pairwise leT:=by
 rw[kz];exact(L2.Srt.sortT_rises l).imp λh=>by unfold leT;rw[nD];exact h
theorem sortI_id{l:List Int}(h:l.Pairwise (· <= ·)):sortI l=l:=by rw[du];exact L2.Srt.sortI_id h
theorem sortI_of_perm(p:a.Perm b):sortI a=sortI b:=by rw[du,du];exact L2.Srt.sortI_of_perm p
def nV(h:l.Nodup):(sortI l).Pairwise (· < ·):=by
 have h1:=sortI_rises l;have h2:=(sortI_perm l).nodup_iff.mpr h;exact(h1.and h2).imp λ⟨a,b⟩=>by omega
def iy :k∈dd l ↔ k∈l:=by rw[pw];exact L2.St.gp
theorem dd_nodup(l):(dd l).Nodup:=by rw[pw];exact L2.St.dd_nodup l
theorem Dq:∀{l},l.Nodup->dd l=l
 | [],_=>rfl
 |x::r,h=>by
  rw[dd,Dq (Ku.mp h).2,if_neg (Ku.mp h).1]
def dv{l:List Int}(h:l.Pairwise (· < ·)):l.Nodup:=h.imp λ{a b} q=>by omega
def bM(z:List Int):Prop:=z.Pairwise (· < ·)/\∀h∈z,0<=h/\h<=59
def aB(R:List (List Int)):Prop:=(∀z∈R,bM z)/\R.Pairwise leT/\R.length<=60
theorem qJ:∀(n:Nat) (l:List Int),l.Nodup->(∀x∈l,0<=x/\x<(n:Int))->l.length<=n
 |0,l,_,h=>by
  cases l with
  |nil=>simp
  |cons x r=>have:=h x (.head _);omega
 |n+1,l,D,h=>by
  have h1:=qJ n (l.filter λx=>decide (x≠(n:Int))) (D.filter _) (λx hx=>by
   obtain⟨h2,J⟩:=J2.mp hx;have Z:=Kh J;have:=h x h2;omega)
  have h2:∀l:List Int,l.Nodup->l.length<=(l.filter λx=>decide (x≠(n:Int))).length+1:=by
   intro l
   induction l with
   |nil=>intro _;simp
   |cons x r ih =>
    intro D;by_cases e:x=(n:Int)
    .have U:r.filter (λx=>decide (x≠(n:Int)))=r:=L5.mpr λy Y=>J3 λz=>(Ku.mp D).1 (by rw[e,<- z];exact Y)
     rw[LM (by simp[e]),U];simp
    .simp_all
  have:=h2 l D;omega
def aJ(h:bM z):z.length<=60:=qJ 60 z (dv h.1) λx hx=>by have:=h.2 x hx;omega
noncomputable def qK(ns:List Int)(lo hi:Option Int):List Int:=(ns.drop (iR ns.length 0 lo)).take (iR ns.length ns.length hi-iR ns.length 0 lo)
@[simp] theorem sH(ns)(lo hi):cut (ns.map .int) lo hi=(qK ns lo hi).map .int:=by
 unfold cut qK
 simp_all
def Ah(ns:List Int){a b:Int}(z:0<=a)(D:0<=b):(qK ns (some a) (some b)).length<=(b-a).toNat:=by
 unfold qK;rw[Nr,length_drop];have J:iR ns.length ns.length (some b)=min b.toNat ns.length:=by show(if b<0 then _ else _)=_;rw[if_neg (Int.not_lt.mpr D)]
 have U:iR ns.length 0 (some a)=min a.toNat ns.length:=by show(if a<0 then _ else _)=_;rw[if_neg (Int.not_lt.mpr z)]
 rw[J,U];obtain⟨A,rfl⟩:=Int.eq_ofNat_of_zero_le z;obtain⟨B,rfl⟩:=Int.eq_ofNat_of_zero_le D;rw[Int.toNat_sub,Int.toNat_natCast,Int.toNat_natCast];refine r4 (Nat.min_le_left _ _) ?_;rcases Nat.le_total A ns.length with h|h
 .rw[LK h];exact Nat.sub_le_sub_right (Nat.min_le_left _ _) A
 .rw[Nat.min_eq_right h,Nat.sub_eq_zero_of_le (Nat.min_le_right _ _)];exact Ke _
end MM
structure PySem.W.Fast:Prop where (tw13823125634489490047 tw11820660513098185610 tw9870809506605709300 tw100866449078713953 tw8150326381040167314 tw12187720160539094531 tw445465296967169945 tw6593638077461831236 tw13281507883574427517 tw5041359409080278251 tw360517839450453068 tw14202240483826916536 tw4075650956651369682 tw14770452539806002851 tw12395044619620980762 tw8421804105294300766 tw852352222906066636 tw3873199556573805867 tw15093892921058233596 tw12467684196818259066 tw6330170600030071202 tw16479050373076254710 tw2913716466833504853 tw3371735725725354480 tw6628237773324984678 tw12116748448160243140 tw6372124416147270892 tw355593716975076367 tw5766684712027034919 tw15536472457858949160 tw4463954711696566885 tw13397386257581884053 tw12241587768609900928 tw12126825583420270229 tw15064600714172312170 tw1274082013116907503 tw13914259838362334416 tw11966105463145916125 tw12252493344788380794 tw6663177440814069654 tw1457632599757624610 tw12933442414009942714 tw4950880106792823981 tw14141406636291275661 tw18194831525225569113 tw17307391628662576996 tw7905868558620946256 tw8563357785629965287 tw2710569905556227511 tw4748216169187385048 tw13114364274988742155 tw7675040015661488956 tw13578232108968414272 tw8073958738005644511 tw14222697289928762929 tw14119221212718353353 tw18188516790187254129 tw3530049251868128949 tw11286837224422775138 tw9754391249969257266 tw9853539532725050272 tw15917650511239559917 tw3097396883894425216 tw6883623422196440271 tw14803054903708446456 tw328237604241754625 tw17048043697649519802 tw3136353291776829893 tw5424387004080646510 tw14343820237695874892 tw318708007804128350 tw5294038621877300533 tw2415131305738564940 tw1253323418667034197 tw16710248402831997632 tw5469665559286724467 tw8550639064524271048 tw587584308649393800 tw15683297484244329958 tw8143307146849842261 tw3518710917653294467 tw17427717864834487221 tw18420684495533978781 tw12490622900592816713 tw6838413718487421833 tw12237747219967144964 tw10043712228476490068 tw5342340189742727470 tw3632416310575014158 tw4934245487825109790 tw1946709970359434879 tw2605991086158057754 tw8533722935856371762 tw16409645236408645977 tw17707774642096360920 tw10241686970036164054 tw18201448842216110979 tw2574778998123287893 tw5393385447551382701 tw12565478155773746381 tw12328806739001612582 tw16480077573058843265 tw5946990230285776173 tw5214549791558816875 tw12832172878869812390 tw3250715031417302066 tw9834070380719974127 tw5553928791316493609 tw11661753569507756435 tw2356209266233339157 tw9238067255520233400 tw14985476717151663297 tw2944881192401003317 tw14881974854553600271 tw12092958057564962722 tw5532179616193182855 tw16809259128665517788 tw1065671521702813147 tw1438758003735930901 tw14966906723764671450 tw14786201655447494830 tw16637769070484763468 tw15704021069140163208 tw216768630626727700 tw13767457838012612469 tw15939870076014722993 tw12535761740452734174 tw2370199011620337799 tw15010753801099967648 tw9216232391379354263 tw11645441810314306238 tw12046562123018739354 tw6890045687955261443 tw399909812614220746 tw2658328074896889627 tw14811933552397462492 tw17939035914007580044 tw9672330838613721893 tw17136164126148135230 tw12108267006019384732 tw1237675967351540445 tw479954423618407264 tw17691122615309101824 tw3660144310230687689 tw12375898064777500023 tw15171193915359841141 tw13393731662125943704 tw6096871955233621886 tw9990017732023683731 tw13372888081133650755 tw16919453778343950596 tw2382448542377543191 tw17319753132313048885 tw12116600495913596445 tw18378766203405669364 tw14418766112107662953 tw8419151541010156189 tw17240168668113851935 tw15386027377604323021 tw14052967400015603279 tw7744385138840978883 tw2776117187298072980 tw7296715970266228564 tw9720476963478872626 tw12439086199950983584 tw3562681095063849514 tw8122199124587936728 tw15332759297807903558 tw178641156104471008 tw17453599743256893786 tw14719720921512604026 tw8577265975144699710 tw1682134258734418055 tw6243536418044182336 tw478715592630727579 tw14310897525699595278 tw15341528681480243280 tw1748299190275283210 tw8803460283892436267 tw17176050416425696613 tw7031507948129003696 tw7426593287296410012 tw9953334883823003792 tw12171682796058619644 tw10204322720334087787 tw15635413667681609277 tw3026998948142678451 tw14746764864597978615 tw10717529233846096802 tw17511221710961626489 tw66371777605794268 tw7607757332549731281 tw8416233341393163201 tw7477033642896324618 tw3494844449149316756 tw1068426127527001284 tw18023449639024925764 tw17659716174815858450 tw13852023044990198952 tw5007738955442464972 tw12924455792349676221 tw12359820433684994371 tw12014270900385314251 tw13548639995988472749 tw3774982564439561974 tw15453728210499984162 tw1654806107769243038 tw448905894541932059 tw12323880193245289620 tw6446304808478940127 tw7799278191981882012 tw8485000947900965255 tw8615222436016659268 tw13151565076726671792 tw18036303529476281724 tw6703831029677263146 tw10405271584545494349 tw11381644799882634957 tw1808591376277343916 tw1131301161430486424 tw160431427369841993 tw10969966580775758198 tw6334438347323167936 tw12614737866184308808 tw15651838610200569328 tw12779247559221470139 tw798359490594031916 tw12096528885951752723 tw7102136982184516183 tw3886460531593606138 tw13990819360610469668 tw14972283693450885022 tw16794150990098685574 tw3957546137087633363 tw11066762991120869920 tw12790674414766132417 tw11943736231035424707 tw10338759429326555331 tw3049806962039742224 tw5315401707701574245 tw16140506345067396866 tw3638535167528015883 tw14598750750270134122 tw3683243972615942158 tw10087449400684573529 tw13082997870525080301 tw16727030977195004719 tw15922614055335980715 tw17008776247156653048 tw12514522360341255664 tw11723670347326840743 tw18278134460074660490 tw16844540461257307662 tw17445697068227402277 tw9237492575613730755 tw6358788784471516140 tw11889559497884691070 tw7328820612317479042 tw15837838061510805043 tw7594638222784069637 tw3484635305913348169 tw10431786126497527974 tw2467914079825141792 tw7471617614818160529 tw33133956864250246 tw11508016860238010316 tw3475814149189062097 tw3774617884601760336 tw11741494879006630283 tw4401526207441674554 tw11288308524999661076 tw8128522920439037924 tw6390461969921712749 tw7062590753291195712 tw14578721532659271516 tw12695661045034303509 tw4940799669005673182 tw12298423043153652284 tw11182411436613588979 tw3539824231323002528 tw6171119647459044433 tw2821054666496401787 tw15852195253784369210 tw18432604044022286722 tw2132645287390205299 tw9425128235261746460 tw6706935550647365054 tw6803119840054512856 tw8483386953560591290 tw9133194648217767958 tw9222339611734012020 tw16379663616717299897 tw3280451055271415430 tw7693452127939388012 tw16047125042955777016 tw6905448613563321822 tw10518148838218746676 tw8490959853888997871 tw12473264324430309309 tw1082122200947768877 tw14974524861790806792 tw9344687324480797481 tw16339092131415938644 tw7070565888871014342 tw13169106153162290231 tw750084986556148348 tw1167777821376517311 tw12326656455116182819 tw9406236733554452987 tw4937782932577168583 tw16470535035594034101 tw2486650700174503689 tw2459833906593789707 tw3202371167297986834 tw12138218874707701440 tw18220289479551273545 tw48485253209218254 tw10242992710767786391 tw13437284412964384955 tw5294832816502620777 tw11814241992398848464 tw13751866602128909041 tw1261671308584582315 tw1423344723105782676 tw6839994623348257982 tw915244898859767555 tw12901673363551371304 tw9779695401358577647 tw2275086980559973928 tw5478064309045159098 tw4453001464638557363 tw9448443728490333448 tw361658443335980214 tw16060774179574604711 tw12862067806955485763 tw4546497946583218629 tw17914132887668368822 tw5902949717562701151 tw12846927332149314501 tw18034008226657052648 tw10072592497539298737 tw6414299884216896617 tw5934466931144421538 tw3760402086954527404 tw11917309568829019480 tw9725937921441429144 tw3210397943496840341 tw15205835887826828666 tw8970190751476167314 tw2496738750185050511 tw4404951802915961568 tw261323232895256501 tw5888069574278867075 tw18072878710033271766 tw9508005018086008211 tw9698606128341952265 tw7018353086107792412 tw17763707347244807614 tw10287668405847323182 tw12259735833968140173 tw4560904790250642743 tw5660670334797801284 tw17820863621307338171 tw9917565006336228684 tw15783700502403967529 tw3680736885761777537 tw17934826382800615504 tw681407562195952675 tw10898668781519172688 tw12173432000719990476 tw15032422973656773150 tw6481122094733899438 tw15807250216027418002 tw10525831940503378889 tw6956585992789474557 tw15405172879222885805 tw15133044760294696003 tw5167566255742824032 tw10294904556176240158 tw4799133510312892580 tw14963803740430528387 tw2527636809544489399 tw797275555657820564 tw14841704701458180118 tw8884152418432475560 tw1710949331437915733 tw7736059726833009633 tw15258559672085552837 tw18013693058563983709 tw874389383776896415 tw4519231907470460679 tw10104791716148031275 tw14215154487072636029 tw4324971972395992390 tw17591767018669842676:True)
namespace My
open PySem L2 MM List Option
noncomputable abbrev ix(a:Nat)(b:Int):ME:=.idx (.bor a) (.cst (.int b))
noncomputable abbrev sv(x:PV):Option MV:=some (.val x)
abbrev LL:=List (List Int)
noncomputable abbrev ci(x:Int):ME:=.cst (.int x)
noncomputable abbrev cs(x:Str):ME:=.cst (.str x)
noncomputable def bN:List MS:=[.extend 1 (.bor 2)]
noncomputable def iz:MD:=⟨"members_of",["rows"],["rows","members","row"],
  [.setOwn 1 (.lst []),
  .for1 2 .seq [.bor 0] bN,
  .retOwn 1]⟩
noncomputable def iY:MD:=⟨"each_once",["members"],["members"],
  [.ret (.cmp .eq (.blt .lenSet [.bor 0]) (.blt .len [.bor 0]))]⟩
noncomputable def eI:MD:=⟨"strip_without",["strip","hole"],["strip","hole"],
  [.ret (.blt .tupleOf [(.comp .seq [.bor 0] [1] (.cmp .ne (.bor 0) (.bor 1)) (.var 0))])]⟩
noncomputable def ly:MD:=⟨"knotted",["rest","hole"],["rest","hole"],
  [.ret (.blt .tupleOf [(.blt .sorted [(.comp .seq [.bor 0] [1] (.cst (.bl true)) (.call 2 [.bor 0,.bor 1]))])])]⟩
noncomputable def sI:MD:=⟨"bitten",["rest","hole"],["rest","hole"],
  [.ret (.blt .tupleOf [(.comp .seq [.bor 0] [1] (.cmp .notIn (.bor 1) (.bor 0)) (.var 0))])]⟩
noncomputable def jQ:MD:=⟨"holes_of",["rest"],["rest"],
  [.ret (.blt .sortedSet [(.call 0 [.bor 0])])]⟩
noncomputable def nW:MD:=⟨"is_whole",["rest"],["rest"],
  [.ret (.cmp .isIn (.tup []) (.bor 0))]⟩
noncomputable def lz:MD:=⟨"is_bare",["rest"],["rest"],
  [.ret (.cmp .eq (.blt .len [.bor 0]) (ci 0))]⟩
noncomputable def kD:MD:=⟨"other_hand",["hand"],["hand"],
  [.ret (.ite (.cmp .eq (.bor 0) (cs "weaver")) (cs "moth") (cs "weaver"))]⟩
noncomputable def kE:MD:=⟨"behind",["rest","hand","reply"],["rest","hand","reply"],
  [.ite (.cmp .isN (.bor 2) (.cst .non))
   [.ret (.var 0)]
   [],
  .ret (.ite (.cmp .eq (.bor 1) (cs "weaver")) (.call 3 [.bor 0,.bor 2]) (.call 4 [.bor 0,.bor 2]))]⟩
noncomputable def jz:MD:=⟨"behind_both",["rest","hand","hole","reply"],["rest","hand","hole","reply"],
  [.ret (.call 9 [(.call 9 [.bor 0,(.call 8 [.bor 1]),.bor 2]),.bor 1,.bor 3])]⟩
noncomputable def lA:MD:=⟨"has_all",["strip","other"],["strip","other"],
  [.ret (.cmp .eq (.blt .lenSetSub [.bor 1,.bor 0]) (ci 0))]⟩
noncomputable def bA:List MS:=[.ite (.call 11 [.bor 0,.bor 3])
   [.ret (.var 2)]
   []]
noncomputable def dR:MD:=⟨"least_place",["strip","rest"],["strip","rest","place","other"],
  [.forT [2,3] .enm [.bor 1] bA,
  .ret (.cst .non)]⟩
noncomputable def lB:MD:=⟨"footing",["rest","other"],["rest","other"],
  [.ret (.comp .seq [.bor 0] [1] (.cst (.bl true)) (.call 12 [.bor 0,.bor 1]))]⟩
noncomputable def jR:MD:=⟨"is_below",["rest","other"],["rest","other"],
  [.ret (.cmp .notIn (.cst .non) (.call 13 [.bor 0,.bor 1]))]⟩
noncomputable def kF:MD:=⟨"has_a_pair",["strip","pairs"],["strip","pairs"],
  [.ret (.blt .any [(.comp .seq [.bor 1] [0] (.cst (.bl true)) (.call 11 [.bor 1,.bor 0]))])]⟩
noncomputable def kG:MD:=⟨"pairs_hold",["pairs","rest"],["pairs","rest"],
  [.ite (.not (.call 1 [(.call 0 [.bor 0])]))
   [.ret (.cst (.bl false))]
   [],
  .ret (.blt .all [(.comp .seq [.bor 1] [0] (.cst (.bl true)) (.call 15 [.bor 0,.bor 1]))])]⟩
noncomputable def iZ:List MS:=[.ite (.cmp .eq (ix 2 0) (.bor 1))
   [.ret (ix 2 1)]
   [],
  .ite (.cmp .eq (ix 2 1) (.bor 1))
   [.ret (ix 2 0)]
   []]
noncomputable def Ai:MD:=⟨"mate",["pairs","hole"],["pairs","hole","pair"],
  [.for1 2 .seq [.bor 0] iZ,
  .ret (.cst .non)]⟩
noncomputable def nX:MD:=⟨"together",["rests"],["rests"],
  [.ret (.blt .tupleOf [(.blt .sorted [(.call 0 [.bor 0])])])]⟩
noncomputable def lQ:MD:=⟨"are_apart",["rests"],["rests"],
  [.ret (.call 1 [(.call 0 [(.comp .seq [.bor 0] [] (.cst (.bl true)) (.call 5 [.bor 0]))])])]⟩
noncomputable def fC:MD:=⟨"strip_weight",["strip"],["strip"],
  [.ret (.bin .shr (.glob "UNIT" (.int 1152921504606846976)) (.blt .len [.bor 0]))]⟩
noncomputable def sJ:MD:=⟨"weight",["rest"],["rest"],
  [.ret (.blt .sum [(.comp .seq [.bor 0] [] (.cst (.bl true)) (.call 20 [.bor 0]))])]⟩
noncomputable def pM:List MS:=[.dput 1 (.bor 3) (.bin .add (.dget (.bor 1) (.bor 3) (ci 0)) (.call 20 [.bor 2]))]
noncomputable def pN:List MS:=[.for1 3 .seq [.bor 2] pM]
noncomputable def vY:MD:=⟨"pulls",["rest"],["rest","pull_of","strip","hole"],
  [.newD false 1,
  .for1 2 .seq [.bor 0] pN,
  .retOwn 1]⟩
noncomputable def cI:List MS:=[.ite (.or (.cmp .isN (.bor 2) (.cst .non)) (.cmp .gt (.dat (.bor 1) (.bor 3)) (.dat (.bor 1) (.bor 2))))
   [.set 2 (.var 3)]
   []]
noncomputable def nY:MD:=⟨"heaviest",["rest"],["rest","pull_of","best","hole"],
  [.set 1 (.call 22 [.bor 0]),
  .set 2 (.cst .non),
  .for1 3 .seq [(.blt .sortedKeys [.bor 1])] cI,
  .ret (.var 2)]⟩
noncomputable def iG:MD:=⟨"greatest_pull",["rest"],["rest"],
  [.ret (.blt .max1 [(.bin .add (.lst [(ci 0)]) (.blt .valuesOf [(.call 22 [.bor 0])]))])]⟩
noncomputable def cQ:MD:=⟨"moth_weighs",["rest","turn"],["rest","turn"],
  [.ite (.cmp .eq (.bor 1) (cs "moth"))
   [.ret (.cmp .lt (.call 21 [.bor 0]) (.glob "UNIT" (.int 1152921504606846976)))]
   [],
  .ret (.cmp .lt (.bin .add (.call 21 [.bor 0]) (.call 24 [.bor 0])) (.glob "UNIT" (.int 1152921504606846976)))]⟩
noncomputable def mF:MD:=⟨"first",["paper","rest","hand"],["paper","rest","hand","word","reply"],
  [.set 3 (ix 0 0),
  .ite (.cmp .eq (.bor 3) (cs "fewer"))
   [.never]
   [],
  .ite (.cmp .eq (.bor 3) (cs "weight"))
   [.set 4 (.call 23 [.bor 1]),
   .ret (.tup [.var 4,(.call 9 [.bor 1,.bor 2,.bor 4]),.var 0])]
   [],
  .ite (.or (.cmp .eq (.bor 3) (cs "bite")) (.cmp .eq (.bor 3) (cs "knot")))
   [.ret (.tup [(ix 0 1),(.call 9 [.bor 1,.bor 2,(ix 0 1)]),(ix 0 2)])]
   [],
  .ret (.tup [.cst .non,.var 1,.var 0])]⟩
noncomputable def kH:MD:=⟨"answer",["paper","rest","hand","hole"],["paper","rest","hand","hole","word","reply"],
  [.set 4 (ix 0 0),
  .ite (.cmp .eq (.bor 4) (cs "weight"))
   [.set 5 (.call 23 [(.call 9 [.bor 1,(.call 8 [.bor 2]),.bor 3])]),
   .ret (.tup [.var 5,(.call 10 [.bor 1,.bor 2,.bor 3,.bor 5]),.var 0])]
   [],
  .ite (.cmp .eq (.bor 4) (cs "pairs"))
   [.set 5 (.call 17 [(ix 0 1),.bor 3]),
   .ret (.tup [.var 5,(.call 10 [.bor 1,.bor 2,.bor 3,.bor 5]),.var 0])]
   [],
  .ite (.cmp .eq (.bor 4) (cs "cases"))
   [.ret (.call 29 [.bor 0,.bor 1,.bor 2,.bor 3])]
   [],
  .ite (.cmp .eq (.bor 4) (cs "parts"))
   [.ret (.call 30 [(ix 0 1),.bor 2,.bor 3])]
   [],
  .ite (.cmp .eq (.bor 4) (cs "fewer"))
   [.never]
   [],
  .ite (.cmp .eq (.bor 4) (cs "either"))
   [.never]
   [],
  .ret (.tup [.cst .non,.var 1,.var 0])]⟩
noncomputable def eX:List MS:=[.ite (.cmp .eq (ix 2 0) (.bor 1))
   [.ret (.var 2)]
   []]
noncomputable def nZ:MD:=⟨"row_with",["rows","hole"],["rows","hole","row"],
  [.for1 2 .seq [.bor 0] eX,
  .ret (.cst .non)]⟩
noncomputable def fY:MD:=⟨"answer_by_cases",["paper","rest","hand","hole"],["paper","rest","hand","hole","row"],
  [.set 4 (.call 28 [(ix 0 1),.bor 3]),
  .ite (.and (.cmp .isN (.bor 4) (.cst .non)) (.cmp .eq (.bor 2) (cs "moth")))
   [.ret (.tup [.cst .non,.var 1,.var 0])]
   [],
  .ite (.cmp .isN (.bor 4) (.cst .non))
   [.never]
   [],
  .ret (.tup [(ix 4 1),(.call 10 [.bor 1,.bor 2,(ix 4 0),(ix 4 1)]),(ix 4 2)])]⟩
noncomputable def b7:List MS:=[.ite (.cmp .isIn (.bor 2) (.call 5 [.bor 5]))
   [.set 7 (.call 27 [.bor 6,.bor 5,.bor 1,.bor 2]),
   .set 3 (ix 7 0),
   .append 4 (.tup [(ix 7 1),(ix 7 2)])]
   [.append 4 (.tup [.var 5,.var 6])]]
noncomputable def fZ:MD:=⟨"answer_by_parts",["rows","hand","hole"],["rows","hand","hole","reply","kept","rest","paper","told"],
  [.set 3 (.cst .non),
  .setOwn 4 (.lst []),
  .forT [5,6] .seq [.bor 0] b7,
  .ret (.tup [.var 3,(.call 18 [(.comp .seq [.bor 4] [] (.cst (.bl true)) (ix 0 0))]),(.tup [(cs "parts"),(.blt .tupleOf [.bor 4])])])]⟩
noncomputable def Aj:MD:=⟨"good",["paper","rest","turn","hand"],["paper","rest","turn","hand"],
  [.ite (.cmp .eq (.bor 3) (cs "moth"))
   [.ret (.call 32 [.bor 0,.bor 1,.bor 2])]
   [],
  .never]⟩
noncomputable def aR:MD:=⟨"good_for_moth",["paper","rest","turn"],["paper","rest","turn","word"],
  [.set 3 (ix 0 0),
  .ite (.cmp .eq (.bor 3) (cs "bare"))
   [.ret (.call 7 [.bor 1])]
   [],
  .ite (.cmp .eq (.bor 3) (cs "weight"))
   [.ret (.call 25 [.bor 1,.bor 2])]
   [],
  .ite (.cmp .eq (.bor 2) (cs "moth"))
   [.ret (.and (.cmp .eq (.bor 3) (cs "bite")) (.call 33 [.bor 0,.bor 1,(cs "moth")]))]
   [],
  .ite (.cmp .eq (.bor 3) (cs "pairs"))
   [.ret (.call 16 [(ix 0 1),.bor 1])]
   [],
  .ite (.cmp .eq (.bor 3) (cs "cases"))
   [.ret (.and (.not (.call 6 [.bor 1])) (.call 34 [(ix 0 1),.bor 1,(cs "moth")]))]
   [],
  .ite (.cmp .eq (.bor 3) (cs "parts"))
   [.ret (.and (.call 35 [(ix 0 1),.bor 1]) (.call 36 [(ix 0 1)]))]
   [],
  .ret (.cst (.bl false))]⟩
noncomputable def i3:MD:=⟨"move_is_good",["paper","rest","hand"],["paper","rest","hand"],
  [.ret (.call 31 [(ix 0 2),(.call 9 [.bor 1,.bor 2,(ix 0 1)]),(.call 8 [.bor 2]),.bor 2])]⟩
noncomputable def aK:List MS:=[.ite (.not (.call 31 [.bor 5,(.call 10 [.bor 1,.bor 2,.bor 3,.bor 4]),(.call 8 [.bor 2]),.bor 2]))
   [.ret (.cst (.bl false))]
   []]
noncomputable def g9:MD:=⟨"cases_are_good",["rows","rest","hand"],["rows","rest","hand","hole","reply","paper"],
  [.ite (.cmp .ne (.comp .seq [.bor 0] [] (.cst (.bl true)) (ix 0 0)) (.call 5 [.bor 1]))
   [.ret (.cst (.bl false))]
   [],
  .forT [3,4,5] .seq [.bor 0] aK,
  .ret (.cst (.bl true))]⟩
noncomputable def f_:MD:=⟨"parts_stand_for",["rows","rest"],["rows","rest","rests","strips"],
  [.set 2 (.comp .seq [.bor 0] [] (.cst (.bl true)) (ix 0 0)),
  .set 3 (.call 18 [.bor 2]),
  .ite (.or (.cmp .gt (.blt .len [.bor 3]) (.blt .len [.bor 1])) (.not (.call 19 [.bor 2])))
   [.ret (.cst (.bl false))]
   [],
  .ret (.and (.call 11 [(.call 5 [.bor 1]),(.call 5 [.bor 3])]) (.call 14 [.bor 1,.bor 3]))]⟩
noncomputable def bO:List MS:=[.ite (.not (.call 31 [.bor 2,.bor 1,(cs "weaver"),(cs "moth")]))
   [.ret (.cst (.bl false))]
   []]
noncomputable def g_:MD:=⟨"parts_are_good",["rows"],["rows","rest","paper"],
  [.forT [1,2] .seq [.bor 0] bO,
  .ret (.cst (.bl true))]⟩
noncomputable def jS:MD:=⟨"_law_cell",["script","k"],["script","k"],
  [.ite (.cmp .lt (.bor 1) (.blt .len [.bor 0]))
   [.ret (.idx (.bor 0) (.bor 1))]
   [],
  .ret (ci 0)]⟩
noncomputable def i4:MD:=⟨"_law_mixed",["cell","by"],["cell","by"],
  [.ret (.bin .mod (.bin .mul (.bin .mod (.bor 0) (ci 2305843009213693951)) (.bor 1)) (ci 2305843009213693951))]⟩
noncomputable def gz:MD:=⟨"_law_knotted",["rest","hole"],["rest","hole"],
  [.ret (.blt .tupleOf [(.blt .sorted [(.comp .seq [.bor 0] [1] (.cst (.bl true)) (.blt .tupleOf [(.comp .seq [.bor 0] [1] (.cmp .ne (.bor 0) (.bor 1)) (.var 0))]))])])]⟩
noncomputable def iA:MD:=⟨"_law_bitten",["rest","hole"],["rest","hole"],
  [.ret (.blt .tupleOf [(.comp .seq [.bor 0] [1] (.cmp .notIn (.bor 1) (.bor 0)) (.var 0))])]⟩
noncomputable def cR:List MS:=[.ite (.cmp .notIn (.bor 3) (.bor 1))
   [.append 1 (.var 3)]
   []]
noncomputable def dS:List MS:=[.for1 3 .seq [.bor 2] cR]
noncomputable def i5:MD:=⟨"_law_holes",["rest"],["rest","found","strip","hole"],
  [.setOwn 1 (.lst []),
  .for1 2 .seq [.bor 0] dS,
  .ret (.blt .sorted [.bor 1])]⟩
noncomputable def dw:List MS:=[.ite (.cmp .notIn (.bor 2) (.bor 1))
   [.ret (.cst (.bl false))]
   []]
noncomputable def eY:MD:=⟨"_law_within",["some","others"],["some","others","hole"],
  [.for1 2 .seq [.bor 0] dw,
  .ret (.cst (.bl true))]⟩
noncomputable def fD:List MS:=[.ite (.not (.blt .any [(.comp .seq [.bor 1] [3] (.cst (.bl true)) (.call 42 [.bor 0,.bor 1]))]))
   [.set 4 (.comp .seq [.bor 3] [2] (.cmp .notIn (.bor 0) (.bor 1)) (.var 0)),
   .ite (.cmp .gt (.blt .len [.bor 4]) (ci 1))
    [.append 1 (.tup [(ix 4 0),(ix 4 1)]),
    .set 2 (.bin .add (.bor 2) (.slice (.bor 4) (.cst .non) (ci 2)))]
    []]
   []]
noncomputable def iB:MD:=⟨"_law_greedy",["rest"],["rest","pairs","used","strip","fresh"],
  [.setOwn 1 (.lst []),
  .set 2 (.lst []),
  .for1 3 .seq [.bor 0] fD,
  .ret (.blt .tupleOf [.bor 1])]⟩
noncomputable def d6:List MS:=[.set 4 (.blt .sum [(.comp .seq [.bor 0] [3] (.cmp .isIn (.bor 1) (.bor 0)) (.bin .shr (.bin .pow (ci 2) (ci 60)) (.blt .len [.bor 0])))]),
  .ite (.cmp .gt (.bor 4) (.bor 2))
   [.set 2 (.var 4),
   .set 1 (.var 3)]
   []]
noncomputable def pO:MD:=⟨"_law_top",["rest"],["rest","best","most","hole","pulled"],
  [.set 1 (.cst .non),
  .set 2 (ci 0),
  .for1 3 .seq [(.call 41 [.bor 0])] d6,
  .ret (.var 1)]⟩
noncomputable def cT:List MS:=[.ite (.cmp .eq (.bor 1) (cs "weaver"))
   [.set 4 (.call 45 [(.call 39 [.bor 0,.bor 3]),(cs "moth")])]
   [.set 4 (.call 45 [(.call 40 [.bor 0,.bor 3]),(cs "weaver")])],
  .ite (.cmp .eq (ix 4 0) (.bor 1))
   [.ret (.tup [.var 1,(.tup [(.disp [("weaver","knot"),("moth","bite")] (.bor 1)),.var 3,(ix 4 1)])])]
   [],
  .append 2 (.tup [.var 3,(.idx (ix 4 1) (ci 1)),(.idx (ix 4 1) (ci 2))])]
noncomputable def d7:MD:=⟨"_law_tried",["rest","turn"],["rest","turn","rows","hole","found"],
  [.ite (.cmp .isIn (.tup []) (.bor 0))
   [.ret (.tup [(cs "weaver"),(.tup [(cs "whole")])])]
   [],
  .ite (.cmp .eq (.blt .len [.bor 0]) (ci 0))
   [.ret (.tup [(cs "moth"),(.tup [(cs "bare")])])]
   [],
  .setOwn 2 (.lst []),
  .for1 3 .seq [(.call 41 [.bor 0])] cT,
  .ret (.tup [(.disp [("weaver","moth"),("moth","weaver")] (.bor 1)),(.tup [(cs "cases"),(.blt .tupleOf [.bor 2])])])]⟩
noncomputable def bD:List MS:=[.set 10 (.bin .add (.bin .add (.bor 1) (.idx (.lst [(ci 0),(ci 4),(ci 8),(ci 0)]) (.bor 5))) (.bin .mod (.bor 4) (.bor 7))),
  .ite (.cmp .notIn (.bor 10) (.bor 8))
   [.append 8 (.var 10)]
   [],
  .set 4 (.bin .fdiv (.bor 4) (.bor 7))]
noncomputable def gc:MD:=⟨"_law_block_strip",["cell","base","blocks","least"],["cell","base","blocks","least","left","block","size","many","strip","k","hole"],
  [.set 4 (.call 38 [.bor 0,(ci 1181783497276652981)]),
  .set 5 (.bin .mod (.bor 4) (.bor 2)),
  .set 4 (.bin .fdiv (.bor 4) (.bor 2)),
  .set 6 (.bin .add (.bor 3) (.bin .mod (.bor 4) (ci 3))),
  .set 4 (.bin .fdiv (.bor 4) (ci 3)),
  .set 7 (.idx (.lst [(ci 4),(ci 4),(ci 4),(ci 12)]) (.bor 5)),
  .setOwn 8 (.lst []),
  .for1 9 .rng [.bor 6] bD,
  .ret (.blt .tupleOf [(.blt .sorted [.bor 8])])]⟩
noncomputable def iC:MD:=⟨"_law_next",["tape"],["tape"],
  [.ite (.cmp .gt (.lenP 0) (ci 0))
   [.retXE (.fn 38 (.pop 0) [(ci 2049848353892358983)])]
   [],
  .retM (ci 0)]⟩
noncomputable def n5:MD:=⟨"_law_deed",["rest","hand","reply"],["rest","hand","reply"],
  [.ite (.cmp .isN (.bor 2) (.cst .non))
   [.ret (.var 0)]
   [],
  .ite (.cmp .eq (.bor 1) (cs "moth"))
   [.ret (.call 40 [.bor 0,.bor 2])]
   [],
  .ret (.call 39 [.bor 0,.bor 2])]⟩
noncomputable def d8:MD:=⟨"_law_reply",["rest","pick"],["rest","pick"],
  [.ite (.cmp .eq (.bin .mod (.bor 1) (ci 8)) (ci 0))
   [.ret (.cst .non)]
   [],
  .ite (.cmp .eq (.bin .mod (.bor 1) (ci 8)) (ci 1))
   [.ret (.bin .mod (.bin .fdiv (.bor 1) (ci 8)) (ci 60))]
   [],
  .ret (.call 44 [.bor 0])]⟩
noncomputable def dU:List MS:=[.ite (.blt .any [(.comp .seq [.bor 5] [2] (.cst (.bl true)) (.blt .any [(.comp .seq [.bor 0] [1] (.cst (.bl true)) (.cmp .isIn (.bor 0) (.bor 1)))]))])
   [.set 3 (.bin .add (.bor 3) (.bor 5))]
   [.append 4 (.var 5)]]
noncomputable def dW:List MS:=[.set 3 (.lst []),
  .setOwn 4 (.lst []),
  .for1 5 .seq [.bor 1] dU,
  .set 1 (.bin .add (.bor 4) (.lst [(.bin .add (.bor 3) (.lst [.var 2]))]))]
noncomputable def lR:MD:=⟨"_law_split",["rest"],["rest","parts","strip","near","far","part"],
  [.set 1 (.lst []),
  .for1 2 .seq [.bor 0] dW,
  .ret (.comp .seq [.bor 1] [] (.cst (.bl true)) (.blt .tupleOf [(.blt .sorted [.bor 0])]))]⟩
noncomputable def lS:MD:=⟨"_law_plain",["rest","turn","hand","pick"],["rest","turn","hand","pick"],
  [.ite (.cmp .eq (.bor 2) (cs "weaver"))
   [.never]
   [],
  .ite (.cmp .eq (.blt .len [.bor 0]) (ci 0))
   [.ret (.tup [(cs "bare")])]
   [],
  .ite (.and (.cmp .eq (.bor 1) (cs "weaver")) (.cmp .eq (.bin .mod (.bor 3) (ci 2)) (ci 0)))
   [.ret (.tup [(cs "pairs"),(.call 43 [.bor 0])])]
   [],
  .ret (.tup [(cs "weight")])]⟩
noncomputable def gC:List MS:=[.set 6 (.call 48 [.bor 1,.bor 4,.bor 5]),
  .setX 7 (.fn2 49 (.var 6) (.call 47 [true] [.bor 0])),
  .appX 3 (.tup [(.pure (.var 5)),(.pure (.var 7)),(.call 54 [true,false,false,false,false] [.bor 0,(.call 48 [.bor 6,.bor 2,.bor 7]),.bor 4,.bor 2,(ci 0)])])]
noncomputable def i6:MD:=⟨"_law_cases",["tape","rest","hand"],["tape","rest","hand","rows","other","hole","behind_v","reply"],
  [.setOwn 3 (.lst []),
  .set 4 (.disp [("weaver","moth"),("moth","weaver")] (.bor 2)),
  .for1 5 .seq [(.call 41 [.bor 1])] gC,
  .retM (.tup [(cs "cases"),(.blt .tupleOf [.bor 3])])]⟩
noncomputable def gE:MD:=⟨"_law_of_moth",["tape","rest","turn","pick","deep"],["tape","rest","turn","pick","deep","reply","parts"],
  [.ite (.cmp .eq (.bor 2) (cs "moth"))
   [.set 5 (.call 49 [.bor 1,.bor 3]),
   .retXE (.tup [(.pure (cs "bite")),(.pure (.var 5)),(.call 54 [true,false,false,false,false] [.bor 0,(.call 48 [.bor 1,(cs "moth"),.bor 5]),(cs "weaver"),(cs "moth"),.bor 4])])]
   [],
  .ite (.and (.cmp .eq (.bin .mod (.bor 3) (ci 2)) (ci 0)) (.cmp .lt (.blt .len [(.call 41 [.bor 1])]) (ci 5)))
   [.retXE (.call 52 [true,false,false] [.bor 0,.bor 1,(cs "moth")])]
   [],
  .set 6 (.call 50 [.bor 1]),
  .retXE (.tup [(.pure (cs "parts")),(.tupOf (.compS (.var 6) [0,4] .pair (.var 0) 54 [true,false,false,false,false] [.bor 1,.bor 0,(cs "weaver"),(cs "moth"),.bor 2]))])]⟩
noncomputable def gh:MD:=⟨"_law_paper",["tape","rest","turn","hand","deep"],["tape","rest","turn","hand","deep","pick","found"],
  [.setX 5 (.call 47 [true] [.bor 0]),
  .ite (.and (.cmp .eq (.bin .mod (.bor 5) (ci 2)) (ci 0)) (.cmp .lt (.blt .len [(.call 41 [.bor 1])]) (ci 5)))
   [.set 6 (.call 45 [.bor 1,.bor 2]),
   .ite (.cmp .eq (ix 6 0) (.bor 3))
    [.retM (ix 6 1)]
    []]
   [],
  .ite (.or (.cmp .eq (.bor 4) (ci 0)) (.cmp .eq (.bin .mod (.bin .fdiv (.bor 5) (ci 2)) (ci 8)) (ci 0)))
   [.retM (.call 51 [.bor 1,.bor 2,.bor 3,(.bin .fdiv (.bor 5) (ci 16))])]
   [],
  .ite (.cmp .eq (.bor 3) (cs "moth"))
   [.retXE (.call 53 [true,false,false,false,false] [.bor 0,.bor 1,.bor 2,(.bin .fdiv (.bor 5) (ci 16)),(.bin .sub (.bor 4) (ci 1))])]
   [],
  .never]⟩
noncomputable def dy:List MS:=[.ite (.cmp .lt (.blt .len [(.call 41 [.bor 13])]) (ci 5))
   [.set 14 (.call 45 [.bor 13,.bor 1]),
   .ite (.and (.cmp .eq (ix 14 0) (.bor 2)) (.cmp .eq (.bor 2) (cs "weaver")))
    [.never]
    [],
   .ite (.cmp .eq (ix 14 0) (.bor 2))
    [.append 10 (.tup [.var 13,(ix 14 1)])]
    [],
   .ite (.cmp .eq (.idx (.call 45 [.bor 13,(cs "weaver")]) (ci 0)) (cs "moth"))
    [.append 11 (.tup [.var 13,(.idx (.call 45 [.bor 13,(cs "weaver")]) (ci 1))]),
    .set 12 (.bin .add (.bor 12) (.blt .listOf [.bor 13]))]
    []]
   []]
noncomputable def dz:MD:=⟨"_law_stands",["script","turn","hand"],["script","turn","hand","way","by","room","cells","strips","rest","tape","found","rows","held","part","known","parts","longer"],
  [.set 3 (.call 38 [(.call 37 [.bor 0,(ci 0)]),(ci 1865811235122147685)]),
  .set 4 (.call 38 [(.call 37 [.bor 0,(ci 1)]),(ci 1442695040888963407)]),
  .set 5 (.idx (.lst [(ci 3),(ci 8)]) (.bin .mod (.bor 3) (ci 2))),
  .set 6 (.slice (.bor 0) (ci 2) (.bin .add (ci 2) (.bor 5))),
  .set 7 (.comp .seq [.bor 6] [4] (.cst (.bl true)) (.call 46 [.bor 0,(.bin .mod (.bor 1) (ci 49)),(.bin .add (ci 3) (.bin .mod (.bin .fdiv (.bor 1) (ci 49)) (ci 2))),(.bin .mod (.bin .fdiv (.bor 1) (ci 98)) (ci 3))])),
  .set 8 (.blt .tupleOf [(.blt .sorted [.bor 7])]),
  .setP 9 (.slice (.bor 0) (.bin .add (ci 2) (.bor 5)) (.cst .non)),
  .ownX 10 [(.tup [(.pure (.var 8)),(.call 54 [true,false,false,false,false] [.bor 9,.bor 8,.bor 1,.bor 2,(ci 3)])])],
  .setOwn 11 (.lst []),
  .set 12 (.lst []),
  .for1 13 .seq [(.call 50 [.bor 8])] dy,
  .set 15 (.tup [(cs "parts"),(.blt .tupleOf [.bor 11])]),
  .ite (.and (.cmp .eq (.bor 2) (cs "moth")) (.cmp .eq (.bor 1) (cs "moth")))
   [.set 15 (.tup [(cs "bite"),.cst .non,.var 15])]
   [],
  .ite (.cmp .eq (.bor 2) (cs "moth"))
   [.append 10 (.tup [(.blt .tupleOf [(.blt .sorted [.bor 12])]),.var 15])]
   [],
  .ite (.and (.cmp .eq (.bor 2) (cs "moth")) (.cmp .gt (.blt .len [.bor 12]) (ci 0)))
   [.set 16 (.blt .tupleOf [(.blt .sortedSet [(.bin .add (.blt .listOf [(ix 12 0)]) (.lst [(.bin .mod (.bor 4) (ci 60))]))])]),
   .append 10 (.tup [(.blt .tupleOf [(.blt .sorted [(.bin .add (.bor 12) (.lst [.var 16]))])]),.var 15])]
   [],
  .retOwn 10]⟩
noncomputable def kI:MD:=⟨"_law_chosen",["holes","taken","pick","far"],["holes","taken","pick","far"],
  [.ite (.and (.bor 3) (.and (.cmp .eq (.bin .mod (.bor 2) (ci 4)) (ci 0)) (.cmp .notIn (.bin .mod (.bin .fdiv (.bor 2) (ci 4)) (ci 60)) (.bor 1))))
   [.ret (.bin .mod (.bin .fdiv (.bor 2) (ci 4)) (ci 60))]
   [],
  .ret (.idx (.bor 0) (.bin .mod (.bin .fdiv (.bor 2) (ci 4)) (.blt .len [.bor 0])))]⟩
noncomputable def n6:MD:=⟨"_law_free",["reply","taken"],["reply","taken"],
  [.ite (.and (.cmp .notN (.bor 0) (.cst .non)) (.cmp .notIn (.bor 0) (.bor 1)))
   [.ret (.var 0)]
   [],
  .ret (.blt .min1 [(.comp .rng [(ci 60)] [1] (.cmp .notIn (.bor 0) (.bor 1)) (.var 0))])]⟩
noncomputable def dA:List MS:=[.set 7 (.call 41 [.bor 3]),
  .ite (.cmp .gt (.blt .len [.bor 7]) (ci 0))
   [.set 8 (.call 56 [.bor 7,.bor 5,(.call 38 [(.call 37 [.bor 0,(.bin .add (ci 10) (.bor 6))]),(ci 1283712873162387911)]),(.cmp .lt (.bor 6) (ci 4))]),
   .append 5 (.var 8),
   .set 3 (.call 39 [.bor 3,.bor 8]),
   .ite (.cmp .isIn (.tup []) (.bor 3))
    [.ret (.cst (.bl false))]
    [],
   .set 4 (.call 27 [(ix 4 2),(ix 4 1),(cs "moth"),.bor 8]),
   .set 9 (.call 57 [(ix 4 0),.bor 5]),
   .append 5 (.var 9),
   .set 3 (.call 40 [.bor 3,.bor 9])]
   []]
noncomputable def jT:MD:=⟨"_law_held",["script","stand","turn"],["script","stand","turn","true","kept","taken","k","holes","hole","reply"],
  [.set 3 (ix 1 0),
  .set 4 (.tup [.cst .non,(ix 1 0),(ix 1 1)]),
  .setOwn 5 (.lst []),
  .ite (.cmp .eq (.bor 2) (cs "moth"))
   [.set 4 (.call 26 [(ix 1 1),(ix 1 0),(cs "moth")]),
   .append 5 (.call 57 [(ix 4 0),.bor 5]),
   .set 3 (.call 40 [.bor 3,(ix 5 0)])]
   [],
  .for1 6 .rng [(ci 17)] dA,
  .ret (.cmp .eq (.blt .len [.bor 3]) (ci 0))]⟩
noncomputable def qL:List MS:=[.ite (.call 31 [(.idx (.idx (.bor 3) (.bor 4)) (ci 1)),(.idx (.idx (.bor 3) (.bor 4)) (ci 0)),.bor 2,(cs "moth")])
   [.ite (.or (.cmp .isIn (.tup []) (.idx (.idx (.bor 3) (.bor 4)) (ci 0))) (.not (.call 58 [.bor 0,(.idx (.bor 3) (.bor 4)),.bor 2])))
    [.ret (.cst (.bl false))]
    []]
   []]
noncomputable def vZ:MD:=⟨"law",["script"],["script","pick","turn","stands","at"],
  [.set 1 (.call 38 [(.call 37 [.bor 0,(ci 0)]),(ci 2049848353892358983)]),
  .set 2 (.idx (.lst [(cs "moth"),(cs "weaver")]) (.bin .mod (.bor 1) (ci 2))),
  .set 3 (.call 55 [.bor 0,.bor 2,(cs "moth")]),
  .for1 4 .seq [(.lst [(ci 0),(.bin .sub (.blt .len [.bor 3]) (ci 1)),(.bin .mod (.bin .fdiv (.bor 1) (ci 2)) (.blt .len [.bor 3]))])] qL,
  .ret (.cst (.bl true))]⟩
noncomputable def defs:List MD:=[iz,iY,eI,ly,sI,jQ,nW,lz,kD,kE,jz,lA,dR,lB,jR,kF,kG,Ai,nX,lQ,fC,sJ,vY,nY,iG,cQ,mF,kH,nZ,fY,fZ,Aj,aR,i3,g9,f_,g_,jS,i4,gz,iA,i5,eY,iB,pO,d7,gc,iC,n5,d8,lR,lS,i6,gE,gh,dz,kI,n6,jT,vZ]
noncomputable def tab:Tab:=⟨defs.map (·.name),[("UNIT",(.int 1152921504606846976))],[[],[],[],[],[],[],[],[],[],[],[],[],[],[],[],[],[],[],[],[],[],[],[],[],[],[],[],[],[],[],[],[],[],[],[],[],[],[],[],[],[],[],[],[],[],[],[],[],[],[],[],[],[],[],[],[],[],[],[],[]]⟩
noncomputable def cellOf(ns:List Int)(k:Int):Int:=ns.getD k.toNat 0
def Ak(n:Nat)(m:MV)(ns:List Int)(k:Int)(z:bB (some m)=some (ofL ns))(D:0<=k):aa defs (n+1) 37 [m,.val (.int k)]=some (.int (cellOf ns k)):=by
 rw[ae (d:=jS) rfl rfl];unfold cellOf;simp[jS,exs,ex,ev,evs,evB,z];by_cases h:k<(ns.length:Int)
 .have h2:k.toNat<ns.length:=by omega
  simp[h,iX D h,h2]
 .have h2:ns.length<=k.toNat:=by omega
  simp[h,h2]
noncomputable def gi(c b:Int):Int:=c % 2305843009213693951*b % 2305843009213693951
def eZ(c b):0<=gi c b:=KU _ (by decide)
def mG(n:Nat)(c b:Int):aa defs (n+1) 38 [.val (.int c),.val (.int b)]=some (.int (gi c b)):=by
 rw[ae (d:=i4) rfl rfl];have h1:0<=c % 2305843009213693951:=KU _ (by decide);have h2:c % 2305843009213693951<2305843009213693951:=KL _ (by decide);have z:(-18446744073709551616<c % 2305843009213693951/\c % 2305843009213693951<18446744073709551616\/-18446744073709551616<b/\b<18446744073709551616):=.inl ⟨by omega,by omega⟩;simp[i4,exs,ex,ev,evs,z,gi]
theorem jU{α:Type}{g:α->PV}{body:PV->Rho->R}{I:Rho->Prop}{p:α->Bool}{r:α->PV}:∀{xs:List α}{W},I W ->
  (∀x∈xs,∀W,I W->(p x=true->body (g x) W=.ret (r x))/\(p x=false->∃l,I l/\body (g x) W=.next l)) ->
  (∀x,xs.find? p=some x->au body (xs.map g) W=.ret (r x))/\(xs.find? p=none->∃l,I l/\au body (xs.map g) W=.next l)
 | [],W,D,_=>⟨λx h=>(by cases h),λ_=>⟨W,D,rfl⟩⟩
 |x::xs,W,D,h=>by
  obtain⟨h1,h2⟩:=h x (.head _) W D;rw[JX,au];cases z:p x with
  |true =>
   rw[h1 z,Mv z];exact⟨λy e=>(by cases e;rfl),λe=>(by cases e)⟩
  |false =>
   obtain⟨l,J,e⟩:=h2 z;rw[e,Lw (by simp[z])];exact jU (xs:=xs) J λy U=>h y (.tail _ U)
def dX(h:(evs cal src W).bind (bq k)=some xs):ex cal (.for1 i k src body) W=(au (λx l=>exs cal body (put l i (.val x))) xs (bG src W)).back src W:=by
 rw[ex,h]
def qM(h:(evs cal src W).bind (bq k)=some xs):ex cal (.forT is k src body) W=(au (λx l=>cc (cK is x l) λz=>exs cal body z) xs (bG src W)).back src W:=by
 rw[ex,h]
def ar(cal)(m)(ms)(W):exs cal (m::ms) W=(ex cal m W).andThen λl=>exs cal ms l:=rfl
def aN(h:ev cal e W=some v):ev cal (.blt b [e]) W=aA b [v]:=by
 rw[ev,evs,h,bind_some,evs,map_some,bind_some]
def iD(h:ev cal e W=some v):ex cal (.set i e) W=.next (put W i (.val v)):=by
 rw[ex,h];rfl
def fE(h:ev cal a W=some (.bl p))(h':p=true->ev cal b W=some (.bl q)):ev cal (.and a b) W=some (.bl (p&&q)):=by
 rw[ev,h];cases p<;>first|rfl|simp[h' rfl]
def dJ(h:ev cal e W=some v):ex cal (.ret e) W=.ret v:=by
 rw[ex,h];rfl
def ac(h:evA cal es W=some vs)(h':cal f vs=some v):ev cal (.call f es) W=some v:=by
 rw[ev,h,bind_some,h']
def cJ(h:ev cal e W=some (.lst xs)):ex cal (.setOwn i e) W=.next (put W i (.own xs)):=by
 rw[ex,h];rfl
def cW{α:Type}{xs:List α}{g h:α->PV}(h1:evs cal src W=some vs)(h2:bq k vs=some (xs.map g))(z:xs.length<=10000)
  (D:∀x∈xs,ev cal elt (cx js W (g x))=some (h x)):ev cal (.comp k src js (.cst (.bl true)) elt) W=some (.lst (xs.map h)):=by
 rw[ev,h1,bind_some,h2,bind_some,if_pos (by simpa using z),iu (h:=h) (λx _=>by simp[ev]) D]
 rfl
def cG(cal)(v)(W):ev cal (.cst v) W=some v:=rfl
def cy(h:ev cal a W=some x)(h':ev cal b W=some y):ev cal (.bin op a b) W=gU op x y:=by
 rw[ev,h,bind_some,h',bind_some]
def c8(h:ev cal a W=some x)(h':ev cal b W=some y):ev cal (.cmp op a b) W=(cF op x y).map .bl:=by
 rw[ev,h,bind_some,h',bind_some]
def i7(h:ev cal a W=some (.int x))(z:0<k):ev cal (.cmp .eq (.bin .mod a (ci k)) (ci j)) W=some (.bl (x % k==j)):=by
 rw[c8 (cy h (cG _ _ _) |>.trans (by rw[qH,if_pos z])) (cG _ _ _),zW,mD]
 rfl
def v0(h:ev cal a W=some (.int x))(z:0<k/\k<1073741824):ev cal (.bin .fdiv a (ci k)) W=some (.int (x / k)):=by
 rw[cy h (cG _ _ _),zV,if_pos z]
def Al(h:ev cal a W=some (.bl b)):evB cal a W=some b:=by simp_all [evB]
def v3(z:∀i,e≠.bor i)(h:ev cal e W=some v):evA cal [e] W=some [.val v]:=by simp_all [evA]
def sK(z:∀i,e≠.bor i)(h:ev cal e W=some v)(h':cal f [.val v]=some r):ev cal (.call f [e]) W=some r:=ac (v3 z h) h'
def fF(h:ev cal a W=some x)(h':ev cal i W=some y):ev cal (.idx a i) W=gW x y:=by
 rw[ev,h,bind_some,h',bind_some]
def uJ(h:body x W=.next z):au body (x::xs) W=au body xs z:=by rw[au,h]
noncomputable def sub(a b:List Int):Bool:=a.all λx=>decide (x∈b)
def aV :sub a b=true ↔ ∀x∈a,x∈b:=by simp[sub]
def lD(n:Nat)(m J:MV)(a b:List Int)(D:(bB (some m)).bind a_=some (a.map .int))(z:(bB (some J)).bind a_=some (b.map .int))(Y:a.length<=4000)(Z:b.length<=4000)(hd:(dd b).length<=60):aa defs (n+1) 11 [m,J]=some (.bl (sub b a)):=by
 rw[ae (d:=lA) rfl rfl];have h:((((dd b).filter λx=>!decide (x∈a)).length:Int)==0)=sub b a:=by
  rw[KQ,J0,aV];constructor
  .intro h x hx;have h2:(dd b).filter (λx=>!decide (x∈a))=[]:=LF (by omega);have:=filter_eq_nil_iff.mp h2 x (iy.mpr hx);simpa using this
  .intro h;have h2:(dd b).filter (λx=>!decide (x∈a))=[]:=filter_eq_nil_iff.mpr λx hx=>by simpa using h x (iy.mp hx)
   rw[h2];rfl
 cases h1:bB (some m)with
 |none=>rw[h1]at D;cases D
 |some v =>
  cases h2:bB (some J)with
  |none=>rw[h2]at z;cases z
  |some U =>
   rw[h1]at D;rw[h2]at z;have D:a_ v=some (a.map .int):=D;have z:a_ U=some (b.map .int):=z;have e:aA .lenSetSub [U,v]=some (.int ((dd b).filter λx=>!decide (x∈a)).length):=by
    show((a_ U).bind λxs=>(bc xs).bind λns=>(a_ v).bind λys=>(bc ys).bind λms=>if ns.length<=4000/\ms.length<=4000/\(dd ns).length<=60 then some (PV.int ((dd ns).filter λn=>!decide (n∈ms)).length)else none)=_;rw[z,D];simp[bx,Y,Z,hd]
   simp[lA,exs,ex,ev,evs,h1,h2,e,h]
theorem kJ(cal)(a):∀(R:LL) g (z:∀t,a_ (g t)=some (t.map .int)) acc s,acc.length+R.flatten.length<=10000 ->
  ∃s',au (λx l=>exs cal bN (put l 2 (.val x))) (R.map g) [some a,some (.own (acc.map .int)),s]=.next [some a,some (.own ((acc++R.flatten).map .int)),s']
 | [],g,z,acc,s,_=>⟨s,by simp⟩
 |t::R,g,z,acc,s,h=>by
  rw[JX,au];rw[flatten_cons,tr]at h;have h2:acc.length+t.length<=10000:=by omega
  have e:exs cal bN (put [some a,some (.own (acc.map .int)),s] 2 (.val (g t)))=.next [some a,some (.own ((acc++t).map .int)),sv (g t)]:=by
   simp[bN,exs,ex,ev,z,h2]
  rw[e];obtain⟨s',D⟩:=kJ cal a R g z (acc++t) (sv _) (by rw[tr];omega);exact⟨s',by rw[flatten_cons,<- KN];exact D⟩
def lE(n)(m)(ho:∀xs,m≠.own xs)(R:LL)(g)(J:∀t,a_ (g t)=some (t.map .int))(z:(bB (some m)).bind a_=some (R.map g))(U:R.flatten.length<=10000):aa defs (n+1) 0 [m]=some (ofL R.flatten):=by
 rw[ae rfl rfl];obtain⟨s',e⟩:=kJ (aa defs n) m R g J [] none (by simpa using U);simp only[map_nil]at e;cases D:bB _ with
 |none=>rw[D]at z;cases z
 |some v =>
  rw[D]at z;have z:a_ v=some _:=z;cases m<;>first|exact absurd rfl (ho _)|simp[iz,exs,ex,ev,evs,bG,D,z,e,aP,-map_flatten]
theorem hV:∀l,(dd l).length<=l.length
 | []=>lC _
 |x::r=>by
  have:=hV r;rw[dd]
  grind
theorem kK:∀l,(dd l).length=l.length ↔ l.Nodup
 | []=>by simp[dd]
 |x::r=>by
  have h:=hV r;have ih:=kK r;rw[dd,Ku,<- ih];by_cases q:x∈dd r
  .rw[if_pos q,length_cons];exact⟨λz=>by omega,λz=>absurd (iy.mp q) z.1⟩
  .rw[if_neg q,length_cons,length_cons];exact⟨λz=>⟨λw=>q (iy.mpr w),by omega⟩,λz=>by omega⟩
def Am(n:Nat)(l:List Int)(z:l.length<=4000):aa defs (n+1) 1 [.val (ofL l)]=some (.bl (decide l.Nodup)):=by
 rw[ae (d:=iY) rfl rfl];have e:aA .lenSet [ofL l]=some (.int (dd l).length):=by
  show((a_ (ofL l)).bind λxs=>(bc xs).bind λns=>if ns.length<=4000 then some (PV.int (dd ns).length)else none)=_;rw[iw,bind_some,bx,bind_some,if_pos z]
 have h:(((dd l).length:Int)==(l.length:Int))=decide l.Nodup:=by
  rw[KQ,J0,K3,<- kK];omega
 simp[iY,exs,ex,ev,evs,e,h]
def OkP(R:LL):Prop:=∀t∈R,∃x y,t=[x,y]/\(0<=x/\x<=59)/\0<=y/\y<=59
def CJ(h:t.length<=2):(dd t).length<=60:=r4 (hV t) (by omega)
def qN{R:LL}(h:OkP R):∀t∈R,t.length=2:=λt z=>by obtain⟨x,y,rfl,_⟩:=h t z;rfl
theorem Dr:∀{R},OkP R->R.flatten.length=2*R.length
 | [],_=>rfl
 |t::R,h=>by
  rw[flatten_cons,tr,qN h t (.head _),Dr λu z=>h u (.tail _ z),length_cons];omega
def uK(n:Nat)(s:List Int)(v:PV)(R:LL)(hv:a_ v=some (R.map ofS))(z:OkP R)(U:R.length<=60)(hs:s.length<=4000):aa defs (n+2) 15 [.val (ofS s),.val v]=some (.bl (R.any λt=>sub t s)):=by
 rw[ae (d:=kF) rfl rfl];have J:ev (aa defs (n+1)) (.comp .seq [.bor 1] [0] (.cst (.bl true)) (.call 11 [.bor 1,.bor 0])) [sv (ofS s),sv v]=some (.lst (R.map λt=>.bl (sub t s))):=by
  refine cW (g:=ofS) (vs:=[v]) (by simp[evs,ev]) hv (by omega) λt D=>?_
  refine ac (vs:=[.val (ofS s),.val (ofS t)]) (by simp[evA,cx]) (lD n _ _ s t rfl rfl hs (by have:=qN z t D;omega) (CJ (by have:=qN z t D;omega)))
 show bf (exs _ [.ret _] _)=_;rw[ar,dJ (v:=.bl (R.any λt=>sub t s))]
 .rfl
 .show ev (aa defs (n+1)) (.blt .any [_]) [sv (ofS s),sv v]=_;rw[aN J,qI,show(R.map λt=>PV.bl (sub t s))=(R.map λt=>sub t s).map PV.bl from by rw[J4];rfl,fz];simp
noncomputable def lT(R A:LL):Bool:=decide R.flatten.Nodup&&A.all λs=>R.any λt=>sub t s
def qO(n)(v)(R A)(hv:a_ v=some (R.map ofS))(D:OkP R)(U:R.length<=60)(Y:∀t∈A,bM t)(hA:A.length<=60):aa defs (n+3) 16 [.val v,.val (ofR A)]=some (.bl (lT R A)):=by
 rw[ae (d:=kG) rfl rfl];have hf:=Dr D;have em:=lE (n+1) (.val v) (λ_ z=>by cases z) R ofS (λ_=>rfl) (by simpa using hv) (by omega);simp only[Nat.add_assoc,Nat.reduceAdd]at em;have J:=Am (n+1) R.flatten (by omega);simp only[Nat.add_assoc,Nat.reduceAdd]at J;show bf (exs (aa defs (n+2)) (_::[_]) [sv v,sv (ofR A)])=_;have Z:ev (aa defs (n+2)) (.call 1 [(.call 0 [.bor 0])]) [sv v,sv (ofR A)]=some (.bl (decide R.flatten.Nodup)):=
  ac (vs:=[.val (ofL R.flatten)]) (by
   have a1:ev (aa defs (n+2)) (.call 0 [.bor 0]) [sv v,sv (ofR A)]=some (ofL R.flatten):=ac (vs:=[.val v]) (by simp[evA]) em;simp only[evA,a1]
   rfl) J
 have ec:ev (aa defs (n+2)) (.comp .seq [.bor 1] [0] (.cst (.bl true)) (.call 15 [.bor 0,.bor 1])) [sv v,sv (ofR A)]=some (.lst (A.map λs=>.bl (R.any λt=>sub t s))):=by
  refine cW (g:=ofS) (vs:=[ofR A]) (by simp[evs,ev]) rfl (by omega) λs hs=>?_
  exact ac (vs:=[.val (ofS s),.val v]) (by simp[evA,cx]) (uK n s v R hv D U (by have:=aJ (Y s hs);omega))
 have e2:ev (aa defs (n+2)) (.blt .all [(.comp .seq [.bor 1] [0] (.cst (.bl true)) (.call 15 [.bor 0,.bor 1]))]) [sv v,sv (ofR A)]=some (.bl (A.all λs=>R.any λt=>sub t s)):=by
  rw[aN ec,CD,show(A.map λs=>PV.bl (R.any λt=>sub t s))=(A.map λs=>R.any λt=>sub t s).map PV.bl from by rw[J4];rfl,fz];simp
 rw[ar];have e3:ex (aa defs (n+2)) (.ite (.not (.call 1 [(.call 0 [.bor 0])])) [.ret (.cst (.bl false))] []) [sv v,sv (ofR A)]=if R.flatten.Nodup then .next [sv v,sv (ofR A)]else .ret (.bl false):=by
  rw[ex,evB,ev,Z];by_cases q:R.flatten.Nodup
  .simp[q,exs]
  .simp[q,exs,ex,ev]
 rw[e3];unfold lT;by_cases q:R.flatten.Nodup
 .rw[if_pos q,bz,ar,dJ e2,J3 q,MF]
  rfl
 .simp_all
def sL (v:PV):Prop:=v=.tup [.str "bare"]\/v=.tup [.str "whole"]\/v=.tup [.str "weight"]\/∃P,OkP P/\P.length<=60/\v=.tup [.str "pairs",ofR P]
def An(n:Nat)(a b:List Int):aa defs (n+1) 42 [.val (ofS a),.val (ofS b)]=some (.bl (sub a b)):=by
 rw[ae (d:=eY) rfl rfl];have key:=jU (g:=PV.int) (xs:=a) (body:=λx l=>exs (aa defs n) dw (put l 2 (.val x))) (I:=λW=>∃kk,W=[sv (ofS a),sv (ofS b),kk]) (p:=λx=>!decide (x∈b)) (r:=λ_=>.bl false)
  (W:=[sv (ofS a),sv (ofS b),none]) ⟨_,rfl⟩ (by
   rintro x hx W ⟨kk,rfl⟩;constructor
   .intro h;simp at h;simp[dw,exs,ex,ev,evs,evB,bh,h]
   .intro h;simp at h;exact⟨[sv (ofS a),sv (ofS b),sv (.int x)],⟨_,rfl⟩,by simp[dw,exs,ex,ev,evs,evB,bh,h]⟩)
 cases hf:a.find? (λx=>!decide (x∈b))with
 |some x =>
  have e:=key.1 x hf;have hx:=Nc hf;have z:=L9 hf;have:sub a b=false:=by
   cases hs:sub a b with
   |false=>rfl
   |true=>simp[aV.mp hs x z]at hx
  simp[eY,exs,ex,ev,evs,bG,e,this]
 |none =>
  obtain⟨l,⟨kk,rfl⟩,e⟩:=key.2 hf;have:sub a b=true:=aV.mpr λx hx=>by
   have:=MC.mp hf x hx;simpa using this
  simp[eY,exs,ex,ev,evs,bG,e,this,aP]
noncomputable def wgt(s:List Int):Int:=2 ^ (60-s.length)
def sM:∀n,n<=60->(1152921504606846976:Int) / 2 ^ n=2 ^ (60-n):=by decide +kernel
def v4(n)(s)(z:s.length<=60):aa defs (n+1) 20 [.val (ofS s)]=some (.int (wgt s)):=by
 rw[ae (d:=fC) rfl rfl];have e:gU .shr (.int 1152921504606846976) (.int (s.length:Int))=some (.int (wgt s)):=by
  show(if 0<=(s.length:Int)then some (PV.int (1152921504606846976 / 2 ^ ((s.length:Int)).toNat))else none)=_;rw[if_pos (by omega),Int.toNat_natCast,sM _ z]
  rfl
 simp[fC,exs,ex,ev,evs,e]
def jV  [DecidableEq α] (d:List (α×Sc)) (f:α->Int):Prop:=(∀k,bQ d k=none->f k=0)/\∀k s,bQ d k=some s->s=.int (f k)
def kL{α:Type}(d:List (α×Sc))(P:α->Prop):Prop:=(d.map (·.1)).Nodup/\∀k,k∈d.map (·.1) ↔ P k
section
variable{α:Type} [DecidableEq α]
def Ao{k:α}:bQ d k=none ↔ k∉d.map (·.1):=by
 unfold bQ;rw[map_eq_none_iff,MC];constructor
 .intro h z;obtain⟨p,D,rfl⟩:=mem_map.mp z;exact h p D (J3 rfl)
 .intro h p D e;exact h (mem_map.mpr ⟨p,D,Kh e⟩)
def Ap(d)(k:α)(v):(cN d k v).map (·.1)=if k∈d.map (·.1)then d.map (·.1)else d.map (·.1)++[k]:=by
 have e:(d.any λp=>decide (p.1=k))=decide (k∈d.map (·.1)):=by
  rw[KQ,K1,K3,mem_map]
  simp_all
 unfold cN;rw[e];by_cases h:k∈d.map (·.1)
 .rw[if_pos (J3 h),if_pos h,J4];refine Lj λp _=>?_
  show(if p.1=k then _ else p).1=p.1;split<;>rfl
 .rw[if_neg (by simpa using h),if_neg h,Kd]
  rfl
def v5(d)(k j:α)(v):bQ (cN d k v) j=if j=k then some v else bQ d j:=by
 have gen:∀d,(d.any λp=>decide (p.1=k))=true->bQ (d.map λp=>if p.1=k then(p.1,v)else p) j=if j=k then some v else bQ d j:=by
  intro d
  induction d with
  |nil=>intro h;cases h
  |cons p d ih =>
   intro h;by_cases J:p.1=k
   .by_cases D:j=k
    .subst D;simp[bQ,J]
    .rw[if_neg D];have:¬ p.1=j:=λz=>D (by rw[<- z,J])
     unfold bQ;rw[JX,if_pos J,Lw (by simpa using this),Lw (by simpa using this)];by_cases U:(d.any λp=>decide (p.1=k))=true
     .have:=ih U;rw[if_neg D]at this;exact this
     .have e:(d.map λp=>if p.1=k then(p.1,v)else p)=d:=by
       conv=>rhs;rw[<- List.map_id d]
       refine Lj λq Y=>?_
       rw[if_neg λz=>U (K1.mpr ⟨q,Y,J3 z⟩)]
       rfl
      rw[e]
   .have U:(d.any λp=>decide (p.1=k))=true:=by simpa[J]using h
    have ih:=ih U;unfold bQ at ih ⊢;rw[JX,if_neg J];by_cases D:p.1=j
    .have:¬ j=k:=λz=>J (D.trans z)
     rw[Mv (by simpa using D),Mv (by simpa using D),if_neg this]
    .rw[Lw (by simpa using D),Lw (by simpa using D)];exact ih
 unfold cN;by_cases h:(d.any λp=>decide (p.1=k))=true
 .rw[if_pos h];exact gen d h
 .rw[if_neg h];have Z:∀p∈d,¬ p.1=k:=λp J z=>h (K1.mpr ⟨p,J,J3 z⟩)
  unfold bQ;rw[find?_append];by_cases D:j=k
  .subst D;have:d.find? (λp=>decide (p.1=j))=none:=MC.mpr λp J=>by simpa using Z p J
   rw[this,if_pos rfl];simp
  .rw[if_neg D];have:¬ k=j:=λz=>D z.symm
   cases d.find? (λp=>decide (p.1=j))<;>first|rfl|simp[this]
def put_len(d)(k:α)(v):(cN d k v).length<=d.length+1:=by
 unfold cN;split
 .simp_all
 .simp_all
def Aq(h:jV d f)(k:α):((bQ d k).getD (.int 0)).pv=.int (f k):=by
 cases e:bQ d k with
 |none=>rw[h.1 k e];rfl
 |some s=>rw[h.2 k s e];rfl
def Ar(h:jV d f)(k:α)(w):jV (cN d k (.int (f k+w))) (λj=>if j=k then f j+w else f j):=by
 refine⟨λj e=>?_,λj s e=>?_⟩
 .rw[v5]at e;by_cases z:j=k
  .simp_all
  .rw[if_neg z]at e;dsimp only;rw[if_neg z];exact h.1 j e
 .rw[v5]at e;by_cases z:j=k
  .simp_all
  .rw[if_neg z]at e;dsimp only;rw[if_neg z];exact h.2 j s e
def As:jV ([]:List (α×Sc)) λ_=>0:=⟨λ_ _=>rfl,λk s z=>by cases z⟩
def At:kL ([]:List (α×Sc)) λ_=>False:=⟨Ly,λk=>by simp⟩
def Au(h:kL d P)(k:α)(v):kL (cN d k v) (λj=>P j\/j=k):=by
 unfold kL;rw[Ap];by_cases D:k∈d.map (·.1)
 .rw[if_pos D];refine⟨h.1,λj=>?_⟩;rw[h.2 j];refine⟨.inl,λz=>z.elim id λe=>?_⟩;rw[e];exact(h.2 k).mp D
 .rw[if_neg D];refine⟨K9.mpr ⟨h.1,by simp,λa J b U=>by rw[J9.mp U];exact λe=>D (e▸J)⟩,λj=>?_⟩;rw[J5,J9,h.2 j]
theorem Iw{body:PV->Rho->R}{I:List (α×Sc)->Rho->Prop}{w:Int}:∀{xs:List α},(∀x∈xs,∀d W (f:α->Int),I d W->jV d f->d.length<9500->∃l,I (cN d x (.int (f x+w))) l/\body (g x) W=.next l) ->
  xs.Nodup->∀{d}{W}{f}{P},I d W->jV d f->kL d P->d.length+xs.length<=9000 ->
  ∃d' l,au body (xs.map g) W=.next l/\I d' l/\jV d' (λj=>f j+if j∈xs then w else 0)/\kL d' (λk=>P k\/k∈xs)/\d'.length<=d.length+xs.length
 | [],_,_,d,W,f,P,D,hd,J,_=>⟨d,W,rfl,D,by simpa using hd,by simpa using J,by simp⟩
 |x::xs,hb,U,d,W,f,P,D,hd,J,hl=>by
  refine aD λZq kq=>?_
  rw[length_cons]at hl;obtain⟨hx,U⟩:=Ku.mp U;obtain⟨a2,Y,e1⟩:=hb x (.head _) d W f D hd (by omega);have a4:=put_len d x (.int (f x+w));obtain⟨d',l,e2,Z,ao,z,a6⟩:=Iw (xs:=xs) (λy hy=>hb y (.tail _ hy)) U Y (Ar hd x w) (Au J x _) (by omega);refine kq ?_;rw[JX,au,e1];refine⟨d',l,e2,Z,?_,?_,by rw[length_cons];omega⟩
  .have ef:(λj=>(if j=x then f j+w else f j)+if j∈xs then w else 0)=λj=>f j+if j∈x::xs then w else 0:=by
    funext j
    by_cases hj:j=x
    .simp_all
    .simp[hj]
   rw[<- ef];exact ao
  .refine⟨z.1,λk=>?_⟩;rw[z.2 k];simp[tf,_root_.or_assoc]
theorem Ix{D:Type}{ge:D->PV}{m:D->List α}{w:D->Int}{body:PV->Rho->R}{I:List (α×Sc)->Rho->Prop}{top:Nat}:∀{R:List D},(∀s∈R,∀d W (f:α->Int) (P:α->Prop),I d W->jV d f->kL d P->d.length<=8000 ->
   ∃d' l,body (ge s) W=.next l/\I d' l/\jV d' (λj=>f j+if j∈m s then w s else 0)/\kL d' (λk=>P k\/k∈m s)/\d'.length<=d.length+top) ->
  ∀{d}{W}{f}{P},I d W->jV d f->kL d P->d.length+top*R.length<=8000 ->
  ∃d' l,au body (R.map ge) W=.next l/\I d' l/\jV d' (λj=>f j+(R.map λs=>if j∈m s then w s else 0).sum)/\kL d' (λk=>P k\/∃s∈R,k∈m s)/\d'.length<=d.length+top*R.length
 | [],_,d,W,f,P,J,hd,U,_=>⟨d,W,rfl,J,by simpa using hd,by simpa using U,by simp⟩
 |s::R,hb,d,W,f,P,J,hd,U,hl=>by
  refine aD λZq kq=>?_
  rw[length_cons,Nat.mul_succ]at hl;obtain⟨d1,a3,e1,Y,Z,ao,a5⟩:=hb s (.head _) d W f P J hd U (by omega);obtain⟨d',l,e2,aO,a7,z,a8⟩:=Ix (R:=R) (λy hy=>hb y (.tail _ hy)) Y Z ao (by omega);refine kq ?_;rw[JX,au,e1];refine⟨d',l,e2,aO,?_,⟨z.1,λk=>?_⟩,by rw[length_cons,Nat.mul_succ];omega⟩
  .grind
  .rw[z.2 k];simp only[tf,exists_eq_or_imp,_root_.or_assoc]
end
noncomputable def aC(R:LL)(h:Int):Int:=(R.map λs=>if h∈s then wgt s else 0).sum
def lU(n)(R)(g:aB R):∃d,aa defs (n+2) 22 [.val (ofR R)]=some (.dI (.k d))/\jV d (aC R)/\kL d (λk=>∃s∈R,k∈s)/\d.length<=3600:=by
 have Z:=g.2.2;obtain⟨d,l,e,⟨x,y,rfl⟩,hd,hp,J⟩:=Ix (R:=R) (ge:=ofS) (m:=id) (w:=wgt) (top:=60) (body:=λv l=>exs (aa defs (n+1)) pN (put l 2 (.val v))) (I:=λd W=>∃x y,W=[sv (ofR R),some (.ownD (.k d)),x,y]) (d:=[]) (W:=[sv (ofR R),some (.ownD (.k [])),none,none]) (f:=λ_=>0) (P:=λ_=>False)
  (by
   rintro s hs d W f P ⟨x,y,rfl⟩ hd hp Z;have gs:=g.1 s hs;have U:=aJ gs;have ew:=v4 n s U;obtain⟨d',l,e,⟨y',rfl⟩,r⟩:=Iw (xs:=s) (g:=.int) (w:=wgt s) (body:=λv l=>exs (aa defs (n+1)) pM (put l 3 (.val v))) (I:=λd W=>∃y,W=[sv (ofR R),some (.ownD (.k d)),sv (ofS s),y]) (d:=d) (W:=[sv (ofR R),some (.ownD (.k d)),sv (ofS s),y])
    (by
     rintro z _ d W f ⟨y,rfl⟩ hd Z;have eg:ev (aa defs (n+1)) (.dget (.bor 1) (.bor 3) (ci 0)) [sv (ofR R),some (.ownD (.k d)),sv (ofS s),sv (.int z)]=some (.int (f z)):=by
      rw[<- Aq hd z];simp[ev]
     have es:ev (aa defs (n+1)) (.bin .add (.dget (.bor 1) (.bor 3) (ci 0)) (.call 20 [.bor 2])) [sv (ofR R),some (.ownD (.k d)),sv (ofS s),sv (.int z)]=some (.int (f z+wgt s)):=by
      rw[ev,eg,ac (vs:=[.val (ofS s)]) (by simp[evA]) ew]
      rfl
     have Y:d.length<10000:=by omega
     refine⟨_,⟨sv (.int z),rfl⟩,?_⟩;show exs (aa defs (n+1)) [_] [sv (ofR R),some (.ownD (.k d)),sv (ofS s),sv (.int z)]=_;rw[ar,ex,es];simp[ev,Y,exs])
    (dv gs.1) ⟨y,rfl⟩ hd hp (by omega)
   refine⟨d',_,?_,⟨sv (ofS s),y',rfl⟩,r.1,r.2.1,by have:=r.2.2;omega⟩;have D:(evs (aa defs (n+1)) [.bor 2] [sv (ofR R),some (.ownD (.k d)),sv (ofS s),y]).bind (bq .seq)=some (s.map .int):=by simp[evs,ev]
   show exs (aa defs (n+1)) [_] [sv (ofR R),some (.ownD (.k d)),sv (ofS s),y]=_;rw[ar,dX D,show bG [.bor 2] [sv (ofR R),some (.ownD (.k d)),sv (ofS s),y]=[sv (ofR R),some (.ownD (.k d)),sv (ofS s),y]from rfl,e,fg,bz];simp[exs,aP])
  ⟨none,none,rfl⟩ As At (by simp;omega)
 refine⟨d,?_,?_,?_,by simp at J;omega⟩
 .rw[ae (d:=vY) rfl rfl];have D:(evs (aa defs (n+1)) [.bor 0] [sv (ofR R),some (.ownD (.k [])),none,none]).bind (bq .seq)=some (R.map ofS):=by simp[evs,ev]
  show bf (exs (aa defs (n+1)) (_::_::[_]) [sv (ofR R),none,none,none])=_;simp only[ar];rw[show ex (aa defs (n+1)) (.newD false 1) [sv (ofR R),none,none,none]=.next [sv (ofR R),some (.ownD (.k [])),none,none]from by rw[ex];rfl,bz,dX D,show bG [.bor 0] [sv (ofR R),some (.ownD (.k [])),none,none]=[sv (ofR R),some (.ownD (.k [])),none,none]from rfl,e,fg,bz];simp[exs,ex,aP]
 .have ef:(λj=>(0:Int)+(R.map λs=>if j∈id s then wgt s else 0).sum)=aC R:=by funext j;rw[Int.zero_add];rfl
  rw[<- ef];exact hd
 .simp_all
def CK(n)(R)(g:aB R):∃d,aa defs (n+2) 22 [.val (ofR R)]=some (.dI (.k d))/\jV d (aC R)/\kL d (λk=>∃s∈R,k∈s):=by
 obtain⟨d,h1,h2,z,_⟩:=lU n R g;exact⟨d,h1,h2,z⟩
def FW  [DecidableEq α] {P:α->Prop} (hd:jV d f) (D:kL d P):∃M ns,(d.map (·.2)).map Sc.pv=ns.map .int/\ns.length=d.length/\yT (0::ns)=some M/\0<=M/\(M=0\/∃k,P k/\f k=M)/\∀k,P k->f k<=M:=by
 have J:∀p∈d,p.2=.int (f p.1):=λp z=>by
  have e:bQ d p.1=some p.2:=by
   unfold bQ;have gen:∀(l:List (α×Sc)),(l.map (·.1)).Nodup->p∈l->l.find? (λq=>decide (q.1=p.1))=some p:=by
    intro l
    induction l with
    |nil=>intro _ h;cases h
    |cons q l ih =>
     intro U h;rw[JX,Ku]at U;rcases tf.mp h with rfl|h
     .exact Mv (J3 rfl)
     .rw[Lw (by
       simp only[K3];intro e;exact U.1 (mem_map.mpr ⟨p,h,e.symm⟩))]
      exact ih U.2 h
   rw[gen d D.1 z]
   rfl
  exact hd.2 p.1 p.2 e
 have Y:yT (0::d.map λp=>f p.1)=some ((d.map λp=>f p.1).foldl (λa b=>if a<b then b else a) 0):=rfl;obtain⟨h1,h2⟩:=pC Y;refine⟨_,d.map λp=>f p.1,?_,by simp,Y,h2 0 (.head _),?_,λk Z=>?_⟩
 .rw[J4,J4];refine Lj λp z=>?_
  show(p.2).pv=_;rw[J p z]
  rfl
 .rcases tf.mp h1 with h|h
  .exact .inl h
  .obtain⟨p,z,e⟩:=mem_map.mp h;exact .inr ⟨p.1,(D.2 p.1).mp (mem_map.mpr ⟨p,z,rfl⟩),e⟩
 .obtain⟨p,z,rfl⟩:=mem_map.mp ((D.2 k).mpr Z);exact h2 _ (.tail _ (mem_map.mpr ⟨p,z,rfl⟩))
def Top(R:LL)(M:Int):Prop:=0<=M/\(M=0\/∃k,(∃s∈R,k∈s)/\aC R k=M)/\∀k,(∃s∈R,k∈s)->aC R k<=M
def uL(n)(R)(g:aB R):∃M,aa defs (n+3) 24 [.val (ofR R)]=some (.int M)/\Top R M:=by
 obtain⟨d,e,hd,J,U⟩:=lU n R g;obtain⟨M,ns,Y,Z,e2,h0,h1,h2⟩:=FW hd J;refine⟨M,?_,h0,h1,h2⟩;rw[ae (d:=iG) rfl rfl];have z:ev (aa defs (n+2)) (.blt .valuesOf [(.call 22 [.bor 0])]) [sv (ofR R)]=some (.lst (ns.map .int)):=by
  rw[aN (ac (vs:=[.val (ofR R)]) (by simp[evA]) e),uI,if_pos (by unfold lL dSc;rw[nA,nA];omega)];show some (PV.lst ((d.map (·.2)).map Sc.pv))=_;rw[Y]
 have D:ev (aa defs (n+2)) (.bin .add (.lst [(ci 0)]) (.blt .valuesOf [(.call 22 [.bor 0])])) [sv (ofR R)]=some (.lst ((0::ns).map .int)):=by
  rw[ev,z];simp[ev,evs];omega
 show bf (exs (aa defs (n+2)) [_] [sv (ofR R)])=_;rw[ar,dJ (v:=.int M)]
 .rfl
 .rw[aN D,Af,bx,bind_some,e2]
  rfl
def Av{R:LL}(h:Top R M)(h':Top R N):M=N:=by
 have key:∀{M N},Top R M->Top R N->M<=N:=λ{M N} h h'=>by
  rcases h.2.1 with e|⟨k,z,e⟩
  .rw[e];exact h'.1
  .rw[<- e];exact h'.2.2 k z
 grind
def Aw(n)(R)(g:∀t∈R,bM t)(z:R.length<=10000):aa defs (n+2) 21 [.val (ofR R)]=some (.int (R.map wgt).sum):=by
 rw[ae (d:=sJ) rfl rfl];have D:ev (aa defs (n+1)) (.comp .seq [.bor 0] [] (.cst (.bl true)) (.call 20 [.bor 0])) [sv (ofR R)]=some (.lst ((R.map wgt).map .int)):=by
  refine(cW (g:=ofS) (h:=λs=>.int (wgt s)) (vs:=[ofR R]) (by simp[evs,ev]) rfl z λs hs=>?_).trans (by rw[J4];rfl);exact ac (vs:=[.val (ofS s)]) (by simp[evA,cx]) (v4 n s (aJ (g s hs)))
 show bf (exs (aa defs (n+1)) [_] [sv (ofR R)])=_;rw[ar,dJ (v:=.int (R.map wgt).sum)]
 .rfl
 .rw[aN D];show((bc _).map λns=>PV.int ns.sum)=_;rw[bx]
  rfl
section
variable{α:Type} [DecidableEq α]
end
noncomputable def Iy(R:LL)(a b:Int):Int:=((R.filter λs=>decide (a∈s)&&decide (b∈s)).length:Int)
def JQ(R:LL)(M:Int):Prop:=0<=M/\(M=0\/∃a b,a<b/\(∃s∈R,a∈s/\b∈s)/\Iy R a b=M)/\∀a b,a<b->Iy R a b<=M
noncomputable def iK(z:List Int)(h:Int):List Int:=if h∈z then z else z++[h]
noncomputable def kM(R:LL):List Int:=R.foldl (λacc z=>z.foldl iK acc) []
noncomputable def ab(R:LL):List Int:=sortI (kM R)
def v6(D:acc.Nodup):(iK acc h).Nodup/\∀x,x∈iK acc h ↔ x∈acc\/x=h:=by
 unfold iK;by_cases q:h∈acc
 .simp_all
 .rw[if_neg q];refine⟨K9.mpr ⟨D,by simp,λx hx y J=>by rw[J9.mp J];exact λz=>q (z▸hx)⟩,λx=>?_⟩
  simp_all
theorem n8:∀(D z:List Int),z.Nodup->(D.foldl iK z).Nodup/\∀x,x∈D.foldl iK z ↔ x∈z\/x∈D
 | [],z,J=>⟨J,λx=>by simp⟩
 |t::D,z,J=>by
  obtain⟨h1,h2⟩:=v6 (h:=t) J;obtain⟨U,Y⟩:=n8 D (iK z t) h1;refine⟨U,λx=>?_⟩;rw[foldl_cons,Y,h2,tf,_root_.or_assoc]
theorem hW:∀(R:LL) z,z.Nodup->(R.foldl (λz D=>D.foldl iK z) z).Nodup/\∀x,x∈R.foldl (λz D=>D.foldl iK z) z ↔ x∈z\/∃D∈R,x∈D
 | [],z,J=>⟨J,λx=>by simp⟩
 |t::D,z,J=>by
  obtain⟨h1,h2⟩:=n8 t z J;obtain⟨U,Y⟩:=hW D (t.foldl iK z) h1;refine⟨U,λx=>?_⟩;rw[foldl_cons,Y,h2];simp[_root_.or_assoc]
def av{R:LL} :x∈ab R ↔ ∃z∈R,x∈z:=by
 unfold ab;rw[g8];have:=(hW R [] Ly).2 x;unfold kM;rw[this];simp
def fG(R):(ab R).Pairwise (· < ·):=nV (hW R [] Ly).1
def bg{R:LL}(g:∀z∈R,bM z):bM (ab R):=⟨fG R,λh D=>by
 obtain⟨z,h1,h2⟩:=av.mp D;exact(g z h1).2 h h2⟩
def xj{R:LL}(g:∀z∈R,bM z):(kM R).length<=60:=by
 have:=aJ (bg g);unfold ab at this;rw[sortI_len]at this;exact this
def CL{R:LL}{z:List Int}(D:z.Nodup)(h:∀x∈z,0<=x/\x<=59):z.length<=60:=qJ 60 z D λx hx=>by have:=h x hx;omega
def kN(R):sortI (dd R.flatten)=ab R:=by
 refine sortI_of_perm ((KW (dd_nodup _) (hW R [] Ly).1).mpr λx=>?_);rw[iy,(hW R [] Ly).2 x,KG];simp
def fH(n:Nat)(R:LL)(g:∀D∈R,bM D)(J:R.flatten.length<=4000):aa defs (n+2) 5 [.val (ofR R)]=some (ofL (ab R)):=by
 rw[ae (d:=jQ) rfl rfl];have e:=lE n (.val (ofR R)) (λ_ z=>by cases z) R ofS (λ_=>rfl) rfl (by omega);have hd:(dd R.flatten).length<64:=by
  have:=aJ (bg g);rw[<- kN,sortI_len]at this;omega
 simp[jQ,exs,ex,ev,evs,evA,e,-map_flatten,bx,-length_flatten,J,hd,kN]
noncomputable def hZ(h:Int)(R:LL):LL:=R.filter λz=>!decide (h∈z)
def lF{R:LL}(g:aB R):aB (hZ h R):=⟨λz D=>g.1 z (J2.mp D).1,g.2.1.filter _,r4 (Lk _ _) g.2.2⟩
def Ax(n)(R)(h)(D:R.length<=10000):aa defs (n+1) 4 [.val (ofR R),.val (.int h)]=some (ofR (hZ h R)):=by
 rw[ae rfl rfl];simp[sI,exs,ex,ev,evs,D];rw[cm (p:=λz=>!decide (h∈z)) (h:=ofS)]
 .simp[hZ]
 .intro z _;simp[cx,bh]
 .intro z _ _;simp[cx]
def xk(h)(R):(hZ h R).flatten.length<=R.flatten.length:=by
 unfold hZ
 induction R with
 |nil=>exact lC _
 |cons s R ih =>
  by_cases q:h∈s
  .grind
  .simp_all
def uM(n)(R):aa defs (n+1) 6 [.val (ofR R)]=some (.bl (decide ([]∈R))):=by
 rw[ae rfl rfl];have z:isIn (.tup []) _=some _:=lx [] R;simp[nW,exs,ex,ev,evs,z]
def Iz(R:LL):Prop:=∃M,JQ R M/\1152921504606846976*M*(((ab R).length:Int) / 2)<4*(R.map wgt).sum
noncomputable def hv(R:LL):Bool:=@decide (Iz R) (Classical.propDecidable _)
def cw (n) (R) (g:aB R):∃M,Top R M/\aa defs (n+4) 25 [.val (ofR R),.val (.str "weaver")]=some (.bl (decide ((R.map wgt).sum+M<1152921504606846976)))/\aa defs (n+4) 25 [.val (ofR R),.val (.str "moth")]=some (.bl (decide ((R.map wgt).sum<1152921504606846976))):=by
 obtain⟨M,em,D⟩:=uL n R g;have z:=Aw (n+1) R g.1 (by have:=g.2.2;omega);refine⟨M,D,?_,?_⟩
 .rw[ae (d:=cQ) rfl rfl];have h:((("weaver":Str)==("moth":Str)))=false:=by decide
  simp[cQ,exs,ex,ev,evA,evB,h,z,em]
 .rw[ae (d:=cQ) rfl rfl];simp[cQ,exs,ex,ev,evA,evB,z]
theorem lV(cal)(a s):∀(J D:List Int) (kk:Option MV),D.Nodup->(∀x∈D,0<=x/\x<=59)->(∀x∈J,0<=x/\x<=59) ->
  ∃U,au (λx l=>exs cal cR (put l 3 (.val x))) (J.map .int) [some a,some (.own (D.map .int)),some s,kk]=.next [some a,some (.own ((J.foldl iK D).map .int)),some s,U]
 | [],D,kk,_,_,_=>⟨kk,rfl⟩
 |t::J,D,kk,h1,h2,Y=>by
  rw[JX,au];have Z:D.length<10000:=by have:=CL (R:=[]) h1 h2;omega
  have e:exs cal cR (put [some a,some (.own (D.map .int)),some s,kk] 3 (.val (.int t)))=.next [some a,some (.own ((iK D t).map .int)),some s,sv (.int t)]:=by
   by_cases q:t∈D
   .simp[cR,exs,ex,ev,evB,bh,iK,q]
   .simp[cR,exs,ex,ev,evB,bh,iK,q,Z]
  rw[e];obtain⟨q1,q2⟩:=v6 (h:=t) h1;exact lV cal a s J (iK D t) _ q1 (λx hx=>((q2 x).mp hx).elim (h2 x) λz=>z▸Y t (.head _)) λx hx=>Y x (.tail _ hx)
theorem n9(cal)(a):∀(R:LL) (D:List Int) (s kk:Option MV),D.Nodup->(∀x∈D,0<=x/\x<=59)->(∀J∈R,∀x∈J,0<=x/\x<=59) ->
  ∃s' U,au (λx l=>exs cal dS (put l 2 (.val x))) (R.map ofS) [some a,some (.own (D.map .int)),s,kk]=.next [some a,some (.own ((R.foldl (λD J=>J.foldl iK D) D).map .int)),s',U]
 | [],D,s,kk,_,_,_=>⟨s,kk,rfl⟩
 |t::R,D,s,kk,h1,h2,Y=>by
  rw[JX,au];obtain⟨k',e2⟩:=lV cal a (.val (ofS t)) t D kk h1 h2 (Y t (.head _));have e:exs cal dS (put [some a,some (.own (D.map .int)),s,kk] 2 (.val (ofS t)))=.next [some a,some (.own ((t.foldl iK D).map .int)),sv (ofS t),k']:=by
   simp[dS,exs,ex,ev,evs,bG,e2,aP]
  rw[e];obtain⟨q1,q2⟩:=n8 t D h1;exact n9 cal a R _ _ _ q1 (λx hx=>((q2 x).mp hx).elim (h2 x) λz=>Y t (.head _) x z) λJ Z=>Y J (.tail _ Z)
def jk(n:Nat)(R:LL)(g:∀z∈R,bM z):aa defs (n+1) 41 [.val (ofR R)]=some (ofL (ab R)):=by
 rw[ae (d:=i5) rfl rfl];obtain⟨s',Y,e⟩:=n9 (aa defs n) (.val (ofR R)) R [] none none Ly (λx h=>by cases h) λz D=>(g z D).2
 have J:(kM R).length<64:=by have:=xj g;omega
 simp only[map_nil]at e;have U:R.foldl (λacc z=>z.foldl iK acc) []=kM R:=rfl;rw[U]at e;simp[i5,exs,ex,ev,evs,bG,e,aP,pL J,ab]
def e_(n:Nat)(R:LL)(h:Int)(D:R.length<=10000):aa defs (n+1) 40 [.val (ofR R),.val (.int h)]=some (ofR (hZ h R)):=by
 rw[ae (d:=iA) rfl rfl];simp[iA,exs,ex,ev,evs,D];rw[cm (p:=λz=>!decide (h∈z)) (h:=ofS)]
 .simp[hZ]
 .intro z _;simp[ev,cx,bh]
 .intro z _ _;simp[ev,cx]
def IA(cal)(W):ev cal (.bin .pow (ci 2) (ci 60)) W=some (.int 1152921504606846976):=rfl
def IB(cal)(s)(z:s.length<=60)(r):ev cal (.bin .shr (.bin .pow (ci 2) (ci 60)) (.blt .len [.bor 0])) (sv (ofS s)::r)=some (.int (wgt s)):=by
 rw[cy (IA _ _) (y:=.int (s.length:Int)) (by simp[ev,evs])];show(if 0<=(s.length:Int)then some _ else none)=_;rw[if_pos (by omega),Int.toNat_natCast,sM _ z]
 rfl
def FX{ns:List Int}(h:ev cal e W=some (.lst (ns.map .int))):ev cal (.blt .sum [e]) W=some (.int ns.sum):=by
 rw[aN h];show((bc _).map λns=>PV.int ns.sum)=_;rw[bx]
 rfl
def sN(R)(h):((R.filter λs=>decide (h∈s)).map wgt).sum=aC R h:=by
 unfold aC
 induction R with
 |nil=>rfl
 |cons s R ih =>
  by_cases q:h∈s
  .simp_all
  .simp_all
noncomputable def af (b:Bool):PySem.Str:=if b=true then "moth" else "weaver"
def v7(a b):((PySem.Str.ofString a)==(PySem.Str.ofString b))=(a==b):=by
 rw[KQ,J0,J0];refine⟨λh=>?_,λh=>by rw[h]⟩;rw[PySem.Str.ofString_eq_byList]at h;unfold PySem.Str.ofStringByList at h;have h1:(a.toList.map Char.toNat).toArray=(b.toList.map Char.toNat).toArray:=by injection h
 have h2:a.toList.map Char.toNat=b.toList.map Char.toNat:=by simpa using h1
 have key:∀xs ys:List Char,xs.map Char.toNat=ys.map Char.toNat->xs=ys:=by
  intro xs
  induction xs with
  |nil=>intro ys h;cases ys with|nil=>rfl|cons=>simp at h
  |cons x xs ih=>intro ys h;cases ys with
   |nil=>simp at h
   |cons y ys =>
    simp only[JX,MP]at h;rw[ih ys h.2,Char.toNat_inj.mp h.1]
 exact String.toList_inj.mp (key _ _ h2)
def aY(h:ev cal e W=some v)(k:bf (exs cal ms (put W i (.val v)))=X):bf (exs cal (.set i e::ms) W)=X:=by simp_all [ar,iD]
def cz(h:ex cal m W=.next l)(k:bf (exs cal ms l)=X):bf (exs cal (m::ms) W)=X:=by simp_all [ar]
def h_(h:ev cal e W=some v):bf (exs cal (.ret e::ms) W)=some v:=by
 rw[ar,dJ h];rfl
def bR(h:ev cal e W=some v)(k:exs cal ms (put W i (.val v))=r):exs cal (.set i e::ms) W=r:=by
 rw[ar,iD h,bz,k]
def dB(h:ex cal m W=.next l)(k:exs cal ms l=r):exs cal (m::ms) W=r:=by simp_all [ar]
def bX(h:ex cal m W=.next l):exs cal [m] W=.next l:=by
 rw[ar,h,bz,exs]
def aL(h:ev cal c W=some (.bl p)):ex cal (.ite c a b) W=if p=true then exs cal a W else exs cal b W:=by
 rw[ex,Al h,nU]
def bP(h:ev cal c W=some (.bl false))(k:bf (exs cal ms W)=X):bf (exs cal (.ite c a []::ms) W)=X:=by simp_all [aL,exs]
def eT(h:ev cal c W=some (.bl true))(k:ev cal e W=some v):bf (exs cal (.ite c [.ret e] b::ms) W)=some v:=by
 rw[ar,aL h,if_pos rfl,ar,dJ k];rfl
def eJ(h:ev cal (.call f as) W=some v)(k:evA cal es W=some vs):evA cal (.call f as::es) W=some (.val v::vs):=by simp_all [evA]
def d9(h:ev cal (.idx a i) W=some v)(k:evA cal es W=some vs):evA cal (.idx a i::es) W=some (.val v::vs):=by simp_all [evA]
def i8(h:gX (W[i]?).join=some m)(k:evA cal es W=some vs):evA cal (.bor i::es) W=some (m::vs):=by simp_all [evA]
def Ay(h:ev cal a W=some (.bl p)):ev cal (.not a) W=some (.bl (!p)):=by
 rw[ev,h];rfl
def FY(h:ev cal c W=some (.bl true))(k:exs cal a W=.ret v):bf (exs cal (.ite c a b::ms) W)=some v:=by
 rw[ar,aL h,if_pos rfl,k];rfl
def Az(h:ev cal c W=some (.bl false))(k:exs cal ms W=r):exs cal (.ite c a []::ms) W=r:=by simp_all [aL,exs]
def sO(h:ev cal e W=some v):exs cal (.ret e::ms) W=.ret v:=by
 rw[ar,dJ h];rfl
def Ds(h:ev cal c W=some (.bl true))(k:ev cal e W=some v):exs cal (.ite c [.ret e] b::ms) W=.ret v:=by
 rw[ar,aL h,if_pos rfl,ar,dJ k];rfl
def IC(h:ev cal a W=some (.bl p))(h':p=false->ev cal b W=some (.bl q)):ev cal (.or a b) W=some (.bl (p||q)):=by
 rw[ev,h];cases p<;>first|rfl|simp[h' rfl]
def AB(h:isIn x xs=some p)(z:ev cal a W=some x)(D:ev cal b W=some (.tup xs)):ev cal (.cmp .isIn a b) W=some (.bl p):=by
 rw[c8 z D,CC,h];rfl
def i9(ho:(W[i]?).join=some (.own xs))(h:ev cal e W=some v)(z:xs.length<10000):ex cal (.append i e) W=.next (put W i (.own (xs++[v]))):=by
 rw[ex,ho,h];simp[z]
def qP(h:((xs.length:Int)==0)=p)(z:ev cal a W=some (.tup xs)):ev cal (.cmp .eq (.blt .len [a]) (ci 0)) W=some (.bl p):=by
 rw[c8 (aN z) (cG _ _ _),<- h];rfl
def AC(h:(evs cal src W).bind (bq k)=some xs)(e:au (λx l=>exs cal body (put l i (.val x))) xs (bG src W)=.ret v):exs cal (.for1 i k src body::ms) W=.ret v:=by
 rw[ar,dX h,e];rfl
def AD(h:ev cal e W=some (.lst xs)):(evs cal [e] W).bind (bq .seq)=some xs:=by simp_all [evs]
def aS(h:ev cal e W=some v)(k:evs cal es W=some vs):evs cal (e::es) W=some (v::vs):=by simp_all [evs]
def dC(h:evs cal es W=some vs)(z:vs.length<=10000:=by simp):ev cal (.tup es) W=some (.tup vs):=by
 rw[ev,h,bind_some,if_pos z]
def xl(n)(R):aa defs (n+1) 7 [.val (ofR R)]=some (.bl (decide (R=[]))):=by
 rw[ae rfl rfl];cases R with
 |nil=>simp[lz,exs,ex,ev,evs]
 |cons t R =>
  have:¬ ((R.length:Int)+1=0):=by omega
  simp[lz,exs,ex,ev,evs,this]
noncomputable def bu:Option Int->PV
 |none=>.non
 |some i=>.int i
def v8(x h:Int):(x==h)=decide (x=h):=rfl
noncomputable def drp(h:Int)(z:List Int):List Int:=z.filter λx=>!decide (x=h)
noncomputable def b6(h:Int)(R:LL):LL:=sortT (R.map (drp h))
def AE(g:bM z):bM (drp h z):=⟨g.1.filter _,λx hx=>g.2 x (J2.mp hx).1⟩
def jl{R:LL}(g:aB R):aB (b6 h R):=by
 refine⟨λJ z=>?_,sortT_rises _,by unfold b6;rw[sortT_len,nA];exact g.2.2⟩;obtain⟨t,D,rfl⟩:=mem_map.mp (bo.mp z);exact AE (g.1 t D)
def l9(n)(z)(h)(D:z.length<=10000):aa defs (n+1) 2 [.val (ofS z),.val (.int h)]=some (ofS (drp h z)):=by
 rw[ae (d:=eI) rfl rfl];simp[eI,exs,ex,ev,evs,D];rw[cm (p:=λx=>!decide (x=h)) (h:=PV.int)]
 .simp[drp]
 .intro x _;simp[cx,v8]
 .intro x _ _;simp[cx]
def xm(n)(R)(h)(g:aB R):aa defs (n+2) 3 [.val (ofR R),.val (.int h)]=some (ofR (b6 h R)):=by
 rw[ae (d:=ly) rfl rfl];have D:R.length<=10000:=by have:=g.2.2;omega
 simp[ly,exs,ex,ev,evs,D];rw[iu (h:=λJ=>ofS (drp h J))]
 .have e:(R.map λc=>ofS (drp h c))=(R.map (drp h)).map ofS:=by rw[J4];rfl
  have z:(R.map (drp h)).length<64:=by rw[nA];have:=g.2.2;omega
  rw[e];simp[-List.map_map,ff z,b6]
 .intro c _;simp[ev]
 .intro c hc;have D:=aJ (g.1 c hc);simp[ev,evA,cx,l9 n c h (by omega)]
def xn(h)(R):(b6 h R).flatten.length<=R.flatten.length:=by
 have p:(b6 h R).flatten.length=(R.map _).flatten.length:=((sortT_perm (R.map _)).flatten).length_eq;rw[p]
 induction R with
 |nil=>exact lC _
 |cons s R ih =>
  rw[JX,flatten_cons,flatten_cons,tr,tr];have:(drp h s).length<=s.length:=Lk _ _;have:=ih (by exact((sortT_perm _).flatten).length_eq);omega
noncomputable def bhd(h:Bool)(R:LL):Option Int->LL
 |none=>R
 |some k=>if h=true then hZ k R else b6 k R
def cU{R:LL}(g:aB R)(r):aB (bhd h R r):=by
 cases r<;>first|exact g|cases h with|true=>exact lF g|false=>exact jl g
def mH(n)(h):aa defs (n+1) 8 [.val (.str (af h))]=some (.str (af (!h))):=by
 rw[ae rfl rfl];cases h<;>simp[kD,exs,ex,ev,v7,af]
def ib(n)(R)(g:aB R)(h)(r):aa defs (n+3) 9 [.val (ofR R),.val (.str (af h)),.val (bu r)]=some (ofR (bhd h R r)):=by
 rw[ae (d:=kE) rfl rfl];cases r with
 |none=>simp[kE,exs,ex,ev,evB,bu,bhd,jx]
 |some k =>
  have z:=xm n R k g;have D:=λn=>Ax n R k (by have:=g.2.2;omega)
  cases h<;>simp[kE,exs,ex,ev,evB,evA,bu,bhd,v7,af,jx,z,D]
def d_(h)(R)(r):(bhd h R r).flatten.length<=R.flatten.length:=by
 cases r with
 |none=>exact lC _
 |some k=>cases h with|true=>exact xk k R|false=>exact xn k R
def gM {n:Nat}{v:PV}{R:PV}{t:PySem.Str}{r:PV} (h:aa defs n 32 [.val v,.val R,.val (.str t)]=some r):aa defs (n+1) 31 [.val v,.val R,.val (.str t),.val (.str "moth")]=some r:=by
 rw[ae (d:=Aj) rfl rfl];exact eT rfl (ac rfl h)
def n_ (n:Nat) (R:LL) (t:Bool):aa defs (n+3) 31 [.val (.tup [.str "bare"]),.val (ofR R),.val (.str (af t)),.val (.str (af true))]=some (.bl (decide (R=[]))):=by
 refine gM ?_;rw[ae (d:=aR) rfl rfl];exact aY rfl (eT rfl (ac rfl (xl n R)))
def qQ (n:Nat) (R:LL) (t:Bool):aa defs (n+3) 31 [.val (.tup [.str "whole"]),.val (ofR R),.val (.str (af t)),.val (.str (af true))]=some (.bl false):=by
 refine gM ?_;rw[ae (d:=aR) rfl rfl];cases t<;>rfl
noncomputable def FZ(R:LL)(M:Int)(t:Bool):Bool:=
 if t=true then decide ((R.map wgt).sum<1152921504606846976)else decide ((R.map wgt).sum+M<1152921504606846976)
def i_ (n:Nat) (R:LL) (g:aB R) {M:Int} (D:Top R M) (t:Bool):aa defs (n+6) 31 [.val (.tup [.str "weight"]),.val (ofR R),.val (.str (af t)),.val (.str (af true))]=some (.bl (FZ R M t)):=by
 obtain⟨N,J,z,U⟩:=cw n R g;rw[Av J D]at z;refine gM ?_;rw[ae (d:=aR) rfl rfl];refine aY rfl (bP rfl (eT rfl (ac rfl ?_)));cases t
 .exact z
 .exact U
def mI (n:Nat) (R P:LL) (z:OkP P) (D:P.length<=60) (g:aB R) (t:Bool):aa defs (n+5) 31 [.val (.tup [.str "pairs",ofR P]),.val (ofR R),.val (.str (af t)),.val (.str (af true))]=some (.bl (!t&&lT P R)):=by
 refine gM ?_;rw[ae (d:=aR) rfl rfl];cases t
 .exact aY rfl (bP rfl (bP rfl (bP rfl (eT rfl (ac rfl (qO n (ofR P) P R rfl z D g.1 g.2.2))))))
 .rfl
def uN{n:Nat}{R:LL}(g:aB R)(r:Option Int){p:PV}{b:Bool}(t:Bool)(z:aa defs (n+3) 31 [.val p,.val (ofR (bhd true R r)),.val (.str (af false)),.val (.str (af true))]=some (.bl b)) :
  aa defs (n+6) 31 [.val (.tup [.str "bite",bu r,p]),.val (ofR R),.val (.str (af t)),.val (.str (af true))]=some (.bl (t&&b)):=by
 have D:aa defs (n+4) 33 [.val (.tup [.str "bite",bu r,p]),.val (ofR R),.val (.str (af true))]=some (.bl b):=by
  rw[ae (d:=i3) rfl rfl];exact h_ (ac (d9 rfl (eJ (ac rfl (ib n R g true r)) (eJ (ac rfl (mH (n+2) true)) rfl))) z)
 refine gM ?_;rw[ae (d:=aR) rfl rfl];cases t<;>first|rfl|exact aY rfl (bP rfl (bP rfl (eT rfl (fE rfl λ_=>ac rfl D))))
def uO (n:Nat) (R A p:PV) (t:Bool):aa defs (n+3) 31 [.val (.tup [.str "knot",A,p]),.val R,.val (.str (af t)),.val (.str (af true))]=some (.bl false):=by
 refine gM ?_;rw[ae (d:=aR) rfl rfl];cases t<;>rfl
def CM(n:Nat)(Rs:List (LL))(D:∀R∈Rs,(∀t∈R,bM t)/\R.flatten.length<=4000)(hl:Rs.length<=16):aa defs (n+3) 19 [.val (.lst (Rs.map ofR))]=some (.bl (decide (Rs.map ab).flatten.Nodup)):=by
 rw[ae (d:=lQ) rfl rfl];have U:∀Rs:List (LL),(∀R∈Rs,(∀t∈R,bM t)/\R.flatten.length<=4000)->(Rs.map ab).flatten.length<=60*Rs.length:=λRs=>by
  induction Rs with
  |nil=>intro _;simp
  |cons R Rs ih =>
   intro D;have h1:=aJ (bg (D R (.head _)).1);have h2:=ih λR J=>D R (.tail _ J)
   rw[JX,flatten_cons,tr,length_cons];omega
 have hF:=U Rs D;have Y:ev (aa defs (n+2)) (.comp .seq [.bor 0] [] (.cst (.bl true)) (.call 5 [.bor 0])) [sv (.lst (Rs.map ofR))]=some (.lst ((Rs.map ab).map ofL)):=by
  refine(cW (g:=ofR) (h:=λR=>ofL (ab R)) (vs:=[.lst (Rs.map ofR)]) (by simp[evs,ev]) rfl (by omega) λR J=>?_).trans (by rw[J4];rfl);exact ac (vs:=[.val (ofR R)]) (by simp[evA,cx]) (fH n R (D R J).1 (D R J).2)
 have Z:=lE (n+1) (.val (.lst ((Rs.map ab).map ofL))) (λ_ z=>by cases z) (Rs.map ab) ofL (λ_=>rfl) rfl (by omega);have e2:=Am (n+1) (Rs.map ab).flatten (by omega);show bf (exs (aa defs (n+2)) [.ret _] [sv (.lst (Rs.map ofR))])=_;rw[ar,dJ (sK (λ_ z=>by cases z) (sK (λ_ z=>by cases z) Y Z) e2)]
 rfl
def CN(h:bM t):(dd t).length<=60:=by rw[Dq (dv h.1)];exact aJ h
noncomputable def uP:Option Nat->PV
 |none=>.non
 |some i=>.int i
noncomputable def qR(s:List Int)(R:LL):Option Nat:=R.findIdx? λt=>sub t s
theorem og(n:Nat)(s:List Int)(a b:Option MV)(hs:s.length<=4000)(U:a=sv (ofS s)):∀(R:LL) (k:Nat) (x y:Option MV),(∀t∈R,bM t) ->
  (∀i,qR s R=some i->au (λx l=>cc (cK [2,3] x l) λz=>exs (aa defs (n+1)) bA z) (cn k (R.map ofS)) [a,b,x,y]=.ret (.int ((k+i:Nat):Int))) /\
  (qR s R=none->∃Y Z,au (λx l=>cc (cK [2,3] x l) λz=>exs (aa defs (n+1)) bA z) (cn k (R.map ofS)) [a,b,x,y]=.next [a,b,Y,Z])
 | [],k,x,y,_=>⟨λi h=>(by cases h),λ_=>⟨x,y,rfl⟩⟩
 |t::R,k,x,y,h=>by
  subst U;have e:=lD n (.val (ofS s)) (.val (ofS t)) s t rfl rfl hs (by have:=aJ (h t (.head _));omega) (CN (h t (.head _)));rw[JX,cn,au];unfold qR;rw[findIdx?_cons];cases J:sub t s with
  |true =>
   rw[J]at e;have D:(cc (cK [2,3] (.tup [.int (k:Nat),ofS t]) [sv (ofS s),b,x,y]) λz=>exs (aa defs (n+1)) bA z)=.ret (.int (k:Nat)):=by
    simp[cK,nk,bA,exs,ex,ev,evs,evB,evA,e]
   rw[D];exact⟨λi hi=>(by simp at hi;subst hi;rfl),λhi=>(by simp at hi)⟩
  |false =>
   rw[J]at e;have D:(cc (cK [2,3] (.tup [.int (k:Nat),ofS t]) [sv (ofS s),b,x,y]) λz=>exs (aa defs (n+1)) bA z)=.next [sv (ofS s),b,sv (.int (k:Nat)),sv (ofS t)]:=by
    simp[cK,nk,bA,exs,ex,ev,evs,evB,evA,e]
   rw[D];obtain⟨h1,h2⟩:=og n s (sv (ofS s)) b hs rfl R (k+1) (sv (.int (k:Nat))) (sv (ofS t)) λu hu=>h u (.tail _ hu)
   constructor
   .intro i hi;simp only[J6,KZ,mu]at hi;obtain⟨j,hj,rfl⟩:=hi;rw[show k+(j+1)=k+1+j by omega];exact h1 j hj
   .intro hi;simp only[J6,KZ,map_eq_none_iff]at hi;exact h2 hi
def CO(n:Nat)(s:List Int)(R:LL)(hs:s.length<=4000)(g:∀t∈R,bM t):aa defs (n+2) 12 [.val (ofS s),.val (ofR R)]=some (uP (qR s R)):=by
 rw[ae (d:=dR) rfl rfl];obtain⟨h1,h2⟩:=og n s (sv (ofS s)) (sv (ofR R)) hs rfl R 0 none none g;cases hf:qR s R with
 |some i =>
  have e:=h1 i hf;rw[LC]at e;simp[dR,exs,ex,ev,evs,bq,bG,e,uP]
 |none =>
  obtain⟨z,D,e⟩:=h2 hf;simp[dR,exs,ex,ev,evs,bq,bG,e,uP,aP]
noncomputable def AF(A B:LL):List (Option Nat):=A.map λs=>qR s B
def xo(n)(A B)(z:aB A)(D:aB B):aa defs (n+3) 13 [.val (ofR A),.val (ofR B)]=some (.lst ((AF A B).map uP)):=by
 rw[ae (d:=lB) rfl rfl];have J:A.length<=10000:=by have:=z.2.2;omega
 simp[lB,exs,ex,ev,evs,J];rw[iu (h:=λs=>uP (qR s B))]
 .simp[AF]
 .intro c _;simp[ev]
 .intro c hc;simp[ev,evA,cx,CO n c B (by have:=aJ (z.1 c hc);omega) D.1]
theorem sP:∀F:List (Option Nat),isIn .non (F.map uP)=some (decide (none∈F))
 | []=>rfl
 |o::F=>by
  have ih:=sP F;unfold isIn at ih ⊢;rw[JX,inL,ih];cases o<;>simp[uP,show ∀v,eqF 100 (.int v) .non=some false from λ_=>rfl,show eqF 100 PV.non .non=some true from rfl]
noncomputable def below(A B:LL):Bool:=decide (none∉AF A B)
def uQ(n)(A B)(z:aB A)(D:aB B):aa defs (n+4) 14 [.val (ofR A),.val (ofR B)]=some (.bl (below A B)):=by
 rw[ae (d:=jR) rfl rfl];simp[jR,exs,ex,ev,evs,evA,xo n A B z D,sP,below]
noncomputable def bm(r:Int×Option Int×PV):PV:=.tup [.int r.1,bu r.2.1,r.2.2]
noncomputable def bh2(h:Bool)(R:LL)(a:Int)(r:Option Int):LL:=bhd h (bhd (!h) R (some a)) r
def oh{R:LL}(g:aB R)(a)(r):aB (bh2 h R a r):=cU (cU g _) _
def mJ(n)(R)(g:aB R)(h)(a)(r):aa defs (n+4) 10 [.val (ofR R),.val (.str (af h)),.val (.int a),.val (bu r)]=some (ofR (bh2 h R a r)):=by
 rw[ae (d:=jz) rfl rfl];exact h_ (ac (eJ (ac (i8 rfl (eJ (ac rfl (mH (n+2) h)) rfl)) (ib n R g (!h) (some a))) rfl) (ib n _ (cU g _) h r))
theorem oj(n:Nat)(R:LL)(g:aB R)(h:Bool)(J:Option MV)(b:Int×Option Int×PV->Bool):∀(z:List (Int×Option Int×PV)),(∀r∈z,aa defs (n+4) 31 [.val r.2.2,.val (ofR (bh2 h R r.1 r.2.1)),.val (.str (af (!h))),.val (.str (af h))]=some (.bl (b r)))->∀U Y Z:Option MV,
  (z.all b=true/\∃y3 y4 y5,au (λx l=>cc (cK [3,4,5] x l) λD=>exs (aa defs (n+4)) aK D) (z.map bm) [J,sv (ofR R),sv (.str (af h)),U,Y,Z]=.next [J,sv (ofR R),sv (.str (af h)),y3,y4,y5]) \/
  (z.all b=false/\au (λx l=>cc (cK [3,4,5] x l) λD=>exs (aa defs (n+4)) aK D) (z.map bm) [J,sv (ofR R),sv (.str (af h)),U,Y,Z]=.ret (.bl false))
 | [],_,U,Y,Z=>.inl ⟨rfl,U,Y,Z,rfl⟩
 |r::z,hr,U,Y,Z=>by
  have e1:=hr r (.head _);have e2:=mJ n R g h r.1 r.2.1;have e3:=mH (n+3) h;have turn:∀k,(cc (cK [3,4,5] (bm r) [J,sv (ofR R),sv (.str (af h)),U,Y,Z]) k)=k [J,sv (ofR R),sv (.str (af h)),sv (.int r.1),sv (bu r.2.1),sv r.2.2]:=λk=>rfl
  rw[JX,all_cons];cases hb:b r with
  |false =>
   rw[hb]at e1;refine .inr ⟨rfl,?_⟩;rw[au,turn,show exs (aa defs (n+4)) aK [J,sv (ofR R),sv (.str (af h)),sv (.int r.1),sv (bu r.2.1),sv r.2.2]=.ret (.bl false)from by simp[aK,exs,ex,ev,evB,evA,e1,e2,e3]]
  |true =>
   rw[hb]at e1;have eb:exs (aa defs (n+4)) aK [J,sv (ofR R),sv (.str (af h)),sv (.int r.1),sv (bu r.2.1),sv r.2.2]=.next [J,sv (ofR R),sv (.str (af h)),sv (.int r.1),sv (bu r.2.1),sv r.2.2]:=by simp[aK,exs,ex,ev,evB,evA,e1,e2,e3]
   have st:=uJ (body:=λx l=>cc (cK [3,4,5] x l) λD=>exs (aa defs (n+4)) aK D) (x:=bm r) (xs:=z.map bm) ((turn _).trans eb);rw[st,MF];exact oj n R g h J b z (λr aO=>hr r (.tail _ aO)) _ _ _
def JR(a b):cF .ne (ofL a) (ofL b)=some (!decide (a=b)):=by
 rw[FQ,if_pos (show t_ _ _=true from rfl),Ig]
 rfl
def CP(n:Nat)(R:LL)(g:aB R)(J:R.flatten.length<=4000)(h:Bool)(b:Int×Option Int×PV->Bool)(z:List (Int×Option Int×PV))(U:z.length<=10000)(Y:∀r∈z,aa defs (n+4) 31 [.val r.2.2,.val (ofR (bh2 h R r.1 r.2.1)),.val (.str (af (!h))),.val (.str (af h))]=some (.bl (b r))) :
  aa defs (n+5) 34 [.val (.tup (z.map bm)),.val (ofR R),.val (.str (af h))]=some (.bl (decide (z.map (·.1)=ab R)&&z.all b)):=by
 rw[ae (d:=g9) rfl rfl];have Z:∀W:Rho,ev (aa defs (n+4)) (.comp .seq [.bor 0] [] (.cst (.bl true)) (ix 0 0)) (sv (.tup (z.map bm))::W)=some (ofL (z.map (·.1))):=λW=>by
  refine(cW (g:=bm) (h:=λr=>.int r.1) (vs:=[.tup (z.map bm)]) (by simp[evs,ev]) rfl U λr _=>?_).trans (by unfold ofL;rw[J4];rfl);simp[ev,place,cx,bm]
 have e1:ev (aa defs (n+4)) (.cmp .ne (.comp .seq [.bor 0] [] (.cst (.bl true)) (ix 0 0)) (.call 5 [.bor 1])) [sv (.tup (z.map bm)),sv (ofR R),sv (.str (af h)),none,none,none]=some (.bl (!decide (z.map (·.1)=ab R))):=by
  rw[c8 (Z _) (ac (vs:=[.val (ofR R)]) (by simp[evA]) (fH (n+2) R g.1 J)),JR]
  rfl
 show bf (exs (aa defs (n+4)) [.ite _ [.ret _] [],.forT [3,4,5] .seq [.bor 0] aK,.ret _] [sv (.tup (z.map bm)),sv (ofR R),sv (.str (af h)),none,none,none])=_;rw[ar,ex,Al e1,nU];cases decide (z.map (·.1)=ab R)with
 |false=>rfl
 |true =>
  rw[Mb,if_neg (by decide),exs,bz,ar,qM (xs:=z.map bm) (by simp[evs,ev]),MF];show bf ((MM.R.back _ _ (au _ _ [sv (.tup (z.map bm)),sv (ofR R),sv (.str (af h)),none,none,none])).andThen _)=_;rcases oj n R g h (sv (.tup (z.map bm))) b z Y none none none with⟨D,y3,y4,y5,e⟩|⟨D,e⟩
  .rw[e,D,fg,bz,ar,dJ (cG _ _ _)]
   rfl
  .rw[e,D]
   rfl
def qS{n:Nat}{R:LL}(g:aB R)(U:R.flatten.length<=4000){b:Int×Option Int×PV->Bool}{D:List (Int×Option Int×PV)}(Y:D.length<=10000)(Z:∀r∈D,aa defs (n+4) 31 [.val r.2.2,.val (ofR (bh2 true R r.1 r.2.1)),.val (.str (af false)),.val (.str (af true))]=some (.bl (b r))) :
  aa defs (n+7) 31 [.val (.tup [.str "cases",.tup (D.map bm)]),.val (ofR R),.val (.str (af false)),.val (.str (af true))]=some (.bl (!decide ([]∈R)&&(decide (D.map (·.1)=ab R)&&D.all b))):=by
 have J:=CP n R g U true b D Y Z;generalize D.all b=y at J ⊢;generalize decide (D.map (·.1)=ab R)=z at J ⊢;generalize D.map bm=V at J ⊢;refine gM ?_;rw[ae (d:=aR) rfl rfl];have e2:=uM (n+4) R;exact aY rfl (bP rfl (bP rfl (bP rfl (bP rfl (eT rfl (fE (Ay (ac rfl e2)) λ_=>ac rfl J))))))
def ol (n:Nat) (R V:PV):aa defs (n+3) 31 [.val (.tup [.str "cases",V]),.val R,.val (.str (af true)),.val (.str (af true))]=some (.bl false):=by
 refine gM ?_;rw[ae (d:=aR) rfl rfl]
 rfl
def xp{R:LL}(h:∃t∈R,sub t s=true):qR s R≠none:=λz=>by
 obtain⟨t,D,q⟩:=h;have:=findIdx?_eq_none_iff.mp z t D
 simp_all
def eA(h:∀s∈A,∃t∈B,sub t s=true):below A B=true:=by
 unfold below AF;rw[K3,mem_map];rintro ⟨s,hs,e⟩;exact xp (h s hs) e
def dD(h:below A B=true):∀s∈A,∃t∈B,sub t s=true:=λs hs=>by
 cases e:qR s B with
 |none =>
  unfold below AF at h;rw[K3]at h;exact absurd (mem_map.mpr ⟨s,hs,e⟩) h
 |some k =>
  obtain⟨z,q,_⟩:=findIdx?_eq_some_iff_getElem.mp e;exact⟨_,Nt z,q⟩
def uR(n:Nat)(ns:List Int)(k b:Int)(z:0<=k)(r:Rho):ev (aa defs (n+2)) (.call 38 [(.call 37 [.bor 0,(ci k)]),(ci b)]) (some (.brw (ns.map .int))::r)=some (.int (gi (cellOf ns k) b)):=by
 have D:ev (aa defs (n+2)) (.call 37 [.bor 0,(ci k)]) (some (.brw (ns.map .int))::r)=some (.int (cellOf ns k)):=ac (vs:=[.brw (ns.map .int),.val (.int k)]) (by simp[evA,ev]) (Ak (n+1) (.brw (ns.map .int)) ns k rfl z);exact ac (vs:=[.val (.int (cellOf ns k)),.val (.int b)]) (by simp only[evA];rw[D];simp[ev]) (mG (n+1) (cellOf ns k) b)
def oq(h)(R)(a)(r):(bh2 h R a r).flatten.length<=R.flatten.length:=r4 (d_ _ _ _) (d_ _ _ _)
def gH(n:Nat)(R:LL)(h:Int)(g:aB R):aa defs (n+1) 39 [.val (ofR R),.val (.int h)]=some (ofR (b6 h R)):=by
 rw[ae (d:=gz) rfl rfl];have J:R.length<=10000:=by have:=g.2.2;omega
 simp[gz,exs,ex,ev,evs,J];rw[iu (h:=λU=>ofS (drp h U))]
 .have e:(R.map λc=>ofS (drp h c))=(R.map (drp h)).map ofS:=by rw[J4];rfl
  have z:(R.map (drp h)).length<64:=by rw[nA];have:=g.2.2;omega
  rw[e];simp[-List.map_map,ff z,b6]
 .intro c _;simp[ev]
 .intro c hc;have J:=aJ (g.1 c hc);have D:c.length<=10000:=by omega
  simp[ev,evs,evA,cx,D];rw[cm (p:=λx=>!decide (x=h)) (h:=PV.int)]
  .simp[drp]
  .intro x _;simp[ev,cx,v8]
  .intro x _ _;simp[ev,cx]
def CQ(n:Nat)(R:LL)(g:aB R)(h:Bool)(r:Option Int):aa defs (n+2) 48 [.val (ofR R),.val (.str (af h)),.val (bu r)]=some (ofR (bhd h R r)):=by
 rw[ae (d:=n5) rfl rfl];cases r with
 |none=>rfl
 |some i =>
  cases h
  .exact bP rfl (bP rfl (h_ (ac rfl (gH n R i g))))
  .exact bP rfl (eT rfl (ac rfl (e_ n R i (by have:=g.2.2;omega))))
theorem jA{α:Type}(f)(g)(cal)(a):∀(W:List α) z s,(∀w∈W,a_ (f w)=some (g w))->z.length+(W.map g).flatten.length<=10000 ->
  ∃s',au (λx l=>exs cal bN (put l 2 (.val x))) (W.map f) [some a,some (.own z),s]=.next [some a,some (.own (z++(W.map g).flatten)),s']
 | [],z,s,_,_=>⟨s,by simp⟩
 |w::W,z,s,D,h=>by
  rw[JX,JX,au];rw[JX,flatten_cons,tr]at h;have h2:z.length+(g w).length<=10000:=by omega
  have e:exs cal bN (put [some a,some (.own z),s] 2 (.val (f w)))=.next [some a,some (.own (z++g w)),sv (f w)]:=by
   simp[bN,exs,ex,ev,D w (.head _),h2]
  rw[e];obtain⟨s',J⟩:=jA f g cal a W (z++g w) (sv (f w)) (λw hw=>D w (.tail _ hw)) (by rw[tr];omega);exact⟨s',by rw[flatten_cons,<- KN];exact J⟩
def uS{α:Type}(f)(g)(n)(v:PV)(W:List α)(hv:a_ v=some (W.map f))(z:∀w∈W,a_ (f w)=some (g w))(D:(W.map g).flatten.length<=10000):aa defs (n+1) 0 [.val v]=some (.lst (W.map g).flatten):=by
 rw[ae (d:=iz) rfl rfl];obtain⟨s',e⟩:=jA f g (aa defs n) (.val v) W [] none z (by simpa using D);rw[nil_append]at e;show bf (exs (aa defs n) (_::_::[_]) [sv v,none,none])=_;simp only[ar];rw[cJ (xs:=[]) (by simp[ev,evs]),bz];simp only[cq,cv];rw[dX (xs:=W.map f) (by simp[evs,ev,hv]),show bG [.bor 0] [sv v,some (.own []),none]=[sv v,some (.own []),none]from rfl,e,fg,bz]
 rfl
def F0(h:ev cal a W=some (.bl p))(h':ev cal b W=some (.bl q)):ev cal (.or a b) W=some (.bl (p||q)):=by
 rw[ev,h];cases p<;>first|rfl|simp[h']
noncomputable def am(r:LL×PV):PV:=.tup [ofR r.1,r.2]
def sR(n:Nat)(D:List (LL))(J:D.flatten.length<64):aa defs (n+2) 18 [.val (.lst (D.map ofR))]=some (ofR (sortT D.flatten)):=by
 rw[ae (d:=nX) rfl rfl];have z:(D.map λG=>G.map ofS).flatten=D.flatten.map ofS:=by rw[map_flatten]
 have em:=uS ofR (λG=>G.map ofS) n (.lst (D.map ofR)) D rfl (λ_ _=>rfl) (by rw[z,nA];omega);rw[z]at em;refine h_ (W:=[sv (.lst (D.map ofR))]) ((aN (v:=.lst ((sortT D.flatten).map ofS)) ?_).trans rfl);rw[aN (ac (vs:=[.val (.lst (D.map ofR))]) (by simp[evA]) em),fB,iw,bind_some,ff J]
def fI(h:∀t∈F,bM t)(z:F.length<=60):aB (sortT F):=⟨λt D=>h t (bo.mp D),sortT_rises F,by rw[sortT_len];exact z⟩
def fJ(F):(sortT F).flatten.length=F.flatten.length:=(sortT_perm F).flatten.length_eq
noncomputable def fK(D:List (LL))(R:LL):Bool:=!decide (R.length<D.flatten.length)&&decide (D.map ab).flatten.Nodup&&(sub (ab D.flatten) (ab R)&&below R (sortT D.flatten))
def gj(F):ab (sortT F)=ab F:=by
 rw[<- kN,<- kN];exact sortI_of_perm ((KW (dd_nodup _) (dd_nodup _)).mpr λx=>by rw[iy,iy];exact(sortT_perm F).flatten.mem_iff)
def CS(n:Nat)(z:List (LL×PV))(R:LL)(g:aB R)(hf:R.flatten.length<=4000)(hl:z.length<=16)(hs:(z.map (·.1)).flatten.length<=60)(Y:(z.map (·.1)).flatten.flatten.length<=4000)(Z:∀r∈z,aB r.1/\r.1.flatten.length<=4000) :
  aa defs (n+5) 35 [.val (.tup (z.map am)),.val (ofR R)]=some (.bl (fK (z.map (·.1)) R)):=by
 rw[ae (d:=f_) rfl rfl];have J:∀t∈(z.map (·.1)).flatten,bM t:=λt ht=>by
  obtain⟨G,J,ht⟩:=KG.mp ht;obtain⟨r,U,rfl⟩:=mem_map.mp J;exact(Z r U).1.1 t ht
 have e1:=sR (n+2) (z.map (·.1)) (by omega);have e2:=CM (n+1) (z.map (·.1)) (λG J=>by
  obtain⟨r,U,rfl⟩:=mem_map.mp J;exact⟨(Z r U).1.1,(Z r U).2⟩) (by rw[nA];exact hl)
 have gT:=fI J hs;have e3:=fH (n+2) R g.1 hf;have e4:=fH (n+2) (sortT (z.map (·.1)).flatten) gT.1 (by rw[fJ];exact Y);have e5:=uQ n R (sortT (z.map (·.1)).flatten) g gT;rw[gj]at e4;have l1:=aJ (bg g.1);have l2:=aJ (bg J);have e6:=lD (n+3) (.val (ofL (ab R))) (.val (ofL (ab (z.map (·.1)).flatten))) (ab R) (ab (z.map (·.1)).flatten) rfl rfl (by omega) (by omega) (r4 (hV _) l2);have c0:ev (aa defs (n+4)) (.comp .seq [.bor 0] [] (.cst (.bl true)) (ix 0 0)) [sv (.tup (z.map am)),sv (ofR R),none,none]=some (.lst ((z.map (·.1)).map ofR)):=by
  rw[J4];exact cW (vs:=[.tup (z.map am)]) (xs:=z) (g:=am) (by simp[evs,ev]) (by simp[bq]) (by omega) λr _=>by simp[ev,am,place,cx]
 refine aY (W:=[sv (.tup (z.map am)),sv (ofR R),none,none]) c0 ?_;simp only[cq,cv];generalize z.map (·.1)=D at *
 refine aY (v:=ofR (sortT D.flatten)) (ac (vs:=[.val (.lst (D.map ofR))]) (by simp[evA]) e1) ?_;simp only[cq,cv];have c1:ev (aa defs (n+4)) (.or (.cmp .gt (.blt .len [.bor 3]) (.blt .len [.bor 1])) (.not (.call 19 [.bor 2]))) [sv (.tup (z.map am)),sv (ofR R),sv (.lst (D.map ofR)),sv (ofR (sortT D.flatten))]=some (.bl (decide (R.length<D.flatten.length)||!decide (D.map ab).flatten.Nodup)):=by
  have q1:ev (aa defs (n+4)) (.cmp .gt (.blt .len [.bor 3]) (.blt .len [.bor 1])) [sv (.tup (z.map am)),sv (ofR R),sv (.lst (D.map ofR)),sv (ofR (sortT D.flatten))]=some (.bl (decide (R.length<D.flatten.length))):=by
   simp[ev,evs,ofR,sortT_len,-length_flatten]
  have q2:ev (aa defs (n+4)) (.not (.call 19 [.bor 2])) [sv (.tup (z.map am)),sv (ofR R),sv (.lst (D.map ofR)),sv (ofR (sortT D.flatten))]=some (.bl (!decide (D.map ab).flatten.Nodup)):=by
   rw[ev,ac (vs:=[.val (.lst (D.map ofR))]) (by simp[evA]) e2]
   rfl
  exact F0 q1 q2
 have c2:ev (aa defs (n+4)) (.and (.call 11 [(.call 5 [.bor 1]),(.call 5 [.bor 3])]) (.call 14 [.bor 1,.bor 3])) [sv (.tup (z.map am)),sv (ofR R),sv (.lst (D.map ofR)),sv (ofR (sortT D.flatten))]=some (.bl (sub (ab D.flatten) (ab R)&&below R (sortT D.flatten))):=by
  refine fE (ac (vs:=[.val (ofL (ab R)),.val (ofL (ab D.flatten))]) ?_ e6) λ_=>ac (vs:=[.val (ofR R),.val (ofR (sortT D.flatten))]) (by simp[evA]) e5
  simp[evA,ev,e3,e4]
 show bf (exs (aa defs (n+4)) (.ite _ [.ret (.cst (.bl false))] []::[.ret _]) _)=_;rw[ar,aL c1];unfold fK;cases h1:decide (R.length<D.flatten.length)with
 |true=>simp[exs,ex,ev]
 |false =>
  cases h2:decide (D.map ab).flatten.Nodup with
  |false=>simp[exs,ex,ev]
  |true =>
   rw[if_neg (by decide),exs,bz,h_ c2]
   rfl
theorem lW (n:Nat) (U:Option MV) (b:LL×PV->Bool):∀(D:List (LL×PV)),(∀r∈D,aa defs n 31 [.val r.2,.val (ofR r.1),.val (.str "weaver"),.val (.str "moth")]=some (.bl (b r)))->∀Y Z:Option MV,
  (D.all b=true->∃y1 y2,au (λx l=>cc (cK [1,2] x l) λJ=>exs (aa defs n) bO J) (D.map am) [U,Y,Z]=.next [U,y1,y2]) /\
  (D.all b=false->au (λx l=>cc (cK [1,2] x l) λJ=>exs (aa defs n) bO J) (D.map am) [U,Y,Z]=.ret (.bl false))
 | [],_,Y,Z=>⟨λ_=>⟨Y,Z,rfl⟩,λz=>by cases z⟩
 |r::D,hr,Y,Z=>by
  have e0:=hr r (.head _);have e3:(cc (cK [1,2] (am r) [U,Y,Z]) λJ=>exs (aa defs n) bO J)=if b r=true then .next [U,sv (ofR r.1),sv r.2]else .ret (.bl false):=by
   cases hb:b r<;>rw[hb]at e0<;>simp[bO,am,cK,nk,cc,exs,ex,ev,evs,evB,evA,e0]
  rw[JX,au,e3,all_cons];obtain⟨i1,i2⟩:=lW n U b D (λq hq=>hr q (.tail _ hq)) (sv (ofR r.1)) (sv r.2);cases hb:b r with
  |false=>exact⟨λz=>(by cases z),λ_=>rfl⟩
  |true=>exact⟨λz=>i1 z,λz=>i2 z⟩
def AG (n:Nat) (b:LL×PV->Bool) (z:List (LL×PV)) (J:∀r∈z,aa defs n 31 [.val r.2,.val (ofR r.1),.val (.str "weaver"),.val (.str "moth")]=some (.bl (b r))) :
  aa defs (n+1) 36 [.val (.tup (z.map am))]=some (.bl (z.all b)):=by
 rw[ae (d:=g_) rfl rfl];obtain⟨U,Y⟩:=lW n (sv (.tup (z.map am))) b z J none none;show bf (exs _ [.forT _ _ _ _,.ret _] [sv (.tup (z.map am)),none,none])=_;rw[ar,qM (xs:=z.map am) (by simp[evs,ev,bq])];rw[show bG [ME.bor 0] [some (MV.val (.tup (z.map am))),none,none]=[sv (.tup (z.map am)),none,none]from rfl];cases D:z.all b with
 |false =>
  rw[Y D]
  rfl
 |true =>
  obtain⟨Z,y2,e⟩:=U D;rw[e];simp[fg,aP,exs,ex,ev]
def mK {n:Nat}{b:LL×PV->Bool}{D:List (LL×PV)}{R:LL} (g:aB R) (Z:R.flatten.length<=4000) (hl:D.length<=16) (hs:(D.map (·.1)).flatten.length<=60) (J:(D.map (·.1)).flatten.flatten.length<=4000) (hg:∀r∈D,aB r.1/\r.1.flatten.length<=4000) (t:Bool) (hr:∀r∈D,aa defs (n+4) 31 [.val r.2,.val (ofR r.1),.val (.str "weaver"),.val (.str "moth")]=some (.bl (b r))) :
  aa defs (n+7) 31 [.val (.tup [.str "parts",.tup (D.map am)]),.val (ofR R),.val (.str (af t)),.val (.str (af true))]=some (.bl (!t&&(fK (D.map (·.1)) R&&D.all b))):=by
 have U:=CS n D R g Z hl hs J hg;have Y:=AG (n+4) b D hr;generalize D.all b=y at Y ⊢;generalize fK (D.map (·.1)) R=z at U ⊢;generalize D.map am=V at U Y ⊢;refine gM ?_;rw[ae (d:=aR) rfl rfl];cases t
 .exact aY rfl (bP rfl (bP rfl (bP rfl (bP rfl (bP rfl (eT rfl (fE (p:=z) (q:=y) (ac rfl U) λ_=>ac rfl Y)))))))
 .rfl
def ic(r:Option Int):Prop:=∀x,r=some x->0<=x/\x<=59
inductive WP:Nat->PV->Prop where
 | leaf {d:Nat}{v:PV} (h:sL v):WP d v
 | one {d:Nat}{v:PV} (k:Bool) (r:Option Int) (hr:ic r) (h:WP d v):WP (d+1) (.tup [.str (if k=true then "bite" else "knot"),bu r,v])
 | cases {d:Nat} (rows:List (Int×Option Int×PV)) (hl:rows.length<=10000) (hq:∀r∈rows,ic r.2.1) (h:∀r∈rows,WP d r.2.2):WP (d+1) (.tup [.str "cases",.tup (rows.map bm)])
 | parts {d:Nat} (rows:List (LL×PV)) (hl:rows.length<=16) (hs:(rows.map (·.1)).flatten.length<=60) (hff:(rows.map (·.1)).flatten.flatten.length<=4000) (hg:∀r∈rows,aB r.1/\r.1.flatten.length<=4000) (h:∀r∈rows,WP d r.2):WP (d+1) (.tup [.str "parts",.tup (rows.map am)])
def sS{α D:Type} [Inhabited D] {P:α->D->Prop}{l:List α} (h:∀r∈l,∃b,P r b):∃f:α->D,∀r∈l,P r (f r):=by
 obtain⟨f,U⟩:=Mr (r:=λr b=>r∈l->P r b) λr=>by
  by_cases J:r∈l
  .obtain⟨b,q⟩:=h r J;exact⟨b,λ_=>q⟩
  .exact⟨default,λz=>absurd z J⟩
 exact⟨f,U⟩
def up1 :∀{e},d+1<=e->∃x,e=x+1/\d<=x
 |x+1,h=>⟨x,rfl,Nat.le_of_succ_le_succ h⟩
def upN(k:Nat)(h:m+c<=N)(z:k<=c:=by decide):∃n,N=n+k:=⟨N-k,(Nat.sub_add_cancel (r4 z (r4 (LI c m) h))).symm⟩
def xc1{v:PV}{r:Rho}(h:cal (f+2000) [.mutD (.p ns)]=some (.tup [v,.dI (.p z)])):evX cal (.call f [true] [.bor 0]) (some (.mutD (.p ns))::r)=some (v,some (.mutD (.p z))::r):=by simp_all [evX,rU,evM,gY,kf,fN]
def xc3(Y:evA cal [e] (some (.mutD (.p ns))::r)=some [.val w])(D:evA cal [J] (some (.mutD (.p ns))::r)=some [.val U])(h:cal (f+2000) [.mutD (.p ns),.val w,.val U]=some (.tup [v,.dI (.p z)])):evX cal (.call f [true,false,false] [.bor 0,e,J]) (some (.mutD (.p ns))::r)=some (v,some (.mutD (.p z))::r):=by simp_all [evX,rU,evM,gY,kf,fN]
def qT(h:ev cal e W=some v):exs cal (.retM e::ms) W=.retM v W:=by
 rw[ar,ex,h];rfl
def ou(h:evX cal x W=some (v,l)):exs cal (.retXE x::ms) W=.retM v l:=by
 rw[ar,ex,h];rfl
def xq(h:ev cal c W=some (.bl false))(k:exs cal ms W=r):exs cal (.ite c a []::ms) W=r:=by simp_all [aL,exs]
def oA(h:ev cal c W=some (.bl true))(k:exs cal a W=.retM v l):exs cal (.ite c a b::ms) W=.retM v l:=by
 rw[ar,aL h,if_pos rfl,k];rfl
def qU(h:evX cal x W=some (v,l))(k:exs cal ms (put l i (.val v))=r):exs cal (.setX i x::ms) W=r:=by
 rw[ar,ex,h];exact k
def AH(cal:Cal):Prop:=∀ns,∃(x:Int) (z:List Int),0<=x/\cal (47+2000) [.mutD (.p ns)]=some (.tup [.int x,.dI (.p z)])
def F1(n):AH (aa defs (n+2)):=λns=>by
 rw[ji (d:=iC) (by decide) rfl rfl];by_cases z:ns=[]
 .subst z;refine⟨0,[],Md _,?_⟩;have e:exs (aa defs (n+1)) iC.body [some (.mutD (.p []))]=.retM (.int 0) [some (.mutD (.p []))]:=xq (by simp[ev,ua]) (qT (by simp[ev]));show sE _ (exs _ _ [some (.mutD (.p []))])=_;rw[e];simp[sE,eC]
 .obtain⟨l,x,rfl⟩:∃l x,ns=l++[x]:=⟨ns.dropLast,ns.getLast z,(dropLast_concat_getLast z).symm⟩;refine⟨gi x 2049848353892358983,l,eZ _ _,?_⟩;have em:=mG n x 2049848353892358983;have e:exs (aa defs (n+1)) iC.body [some (.mutD (.p (l++[x])))]=.retM (.int (gi x 2049848353892358983)) [some (.mutD (.p l))]:=oA (by simp[ev,ua]) (ou (by simp[evX,BX,gY,fN,evA,ev,em]));show sE _ (exs _ _ [some (.mutD (.p (l++[x])))])=_;rw[e];simp[sE,eC]
def jm(h:ev cal e W=some v)(k:evXs cal xs W=some (vs,l)):evXs cal (.pure e::xs) W=some (v::vs,l):=by simp_all [evXs,evX]
def kO(h:evX cal x W=some (v,l)):evXs cal [x] W=some ([v],l):=by simp_all [evXs]
def qV(h:evXs cal xs W=some (vs,l))(z:vs.length<=10000:=by simp):evX cal (.tup xs) W=some (.tup vs,l):=by simp_all [evX]
def xc5(h1:evA cal [D] (some (.mutD (.p ns))::r)=some [.val J])(h2:evA cal [U] (some (.mutD (.p ns))::r)=some [.val Y])(h3:evA cal [Z] (some (.mutD (.p ns))::r)=some [.val w3])(h4:evA cal [e4] (some (.mutD (.p ns))::r)=some [.val w4])(h:cal (f+2000) [.mutD (.p ns),.val J,.val Y,.val w3,.val w4]=some (.tup [v,.dI (.p z)])):evX cal (.call f [true,false,false,false,false] [.bor 0,D,U,Z,e4]) (some (.mutD (.p ns))::r)=some (v,some (.mutD (.p z))::r):=by simp_all [evX,rU,evM,gY,kf,fN]
def xcO(hi:(W[i]?).join=some (.ownD (.p ns)))(h1:evA cal [D] W=some [.val J])(h2:evA cal [U] W=some [.val Y])(h3:evA cal [Z] W=some [.val w3])(h4:evA cal [e4] W=some [.val w4])(h:cal (f+2000) [.mutD (.p ns),.val J,.val Y,.val w3,.val w4]=some (.tup [v,.dI (.p z)])):evX cal (.call f [true,false,false,false,false] [.bor i,D,U,Z,e4]) W=some (v,W.set i (some (.ownD (.p z)))):=by simp_all [evX,rU,evM,gY,kf,fN]
def F2{ns:List Int}(h:ev cal e W=some (.lst (ns.map .int))):ex cal (.setP i e) W=.next (put W i (.ownD (.p ns.reverse))):=by
 rw[ex,h];simp[bx]
theorem lX(n:Nat)(a:Option MV):∀(S P:LL) (U:List Int) (x y:Option MV),OkP P->(∀t∈S,bM t)->P.length+S.length<=60->U.length<=2*P.length ->
  ∃Z U' x' y',OkP Z/\Z.length<=P.length+S.length/\au (λv l=>exs (aa defs (n+1)) fD (put l 3 (.val v))) (S.map ofS) [a,some (.own (P.map ofS)),sv (ofL U),x,y]=.next [a,some (.own (Z.map ofS)),sv (ofL U'),x',y']
 | [],P,U,x,y,J,_,hl,_=>⟨P,U,x,y,J,by simp,rfl⟩
 |s::S,P,U,x,y,J,hS,hl,hU=>by
  simp only[length_cons]at hl;have gs:=hS s (.head _);have ea:ev (aa defs (n+1)) (.blt .any [(.comp .seq [.bor 1] [3] (.cst (.bl true)) (.call 42 [.bor 0,.bor 1]))]) [a,some (.own (P.map ofS)),sv (ofL U),sv (ofS s),y]=some (.bl (P.any λt=>sub t s)):=by
   rw[aN (v:=.lst ((P.map λt=>sub t s).map .bl)),qI,fz]
   .simp
   .refine(cW (g:=ofS) (h:=λt=>.bl (sub t s)) (vs:=[.lst (P.map ofS)]) (by simp[evs,ev]) rfl (by omega) λt ht=>?_).trans (by rw[J4];rfl);exact ac (vs:=[.val (ofS t),.val (ofS s)]) (by simp[evA,cx]) (An n t s)
  obtain⟨F,hF⟩:∃F,F=s.filter λh=>!decide (h∈U):=⟨_,rfl⟩
  have hm:∀h∈F,0<=h/\h<=59:=λh hh=>gs.2 h (by rw[hF]at hh;exact(J2.mp hh).1)
  have D:ev (aa defs (n+1)) (.comp .seq [.bor 3] [2] (.cmp .notIn (.bor 0) (.bor 1)) (.var 0)) [a,some (.own (P.map ofS)),sv (ofL U),sv (ofS s),y]=some (ofL F):=by
   rw[ev,show evs (aa defs (n+1)) [.bor 3] [a,some (.own (P.map ofS)),sv (ofL U),sv (ofS s),y]=some [ofS s]from by simp[evs,ev],bind_some,vX,vV,bind_some,if_pos (by rw[nA];have:=aJ gs;omega),cm (p:=λh=>!decide (h∈U)) (h:=PV.int),hF]
   .rfl
   .intro h _;simp[ev,cx,bh]
   .intro h _ _;simp[ev,cx]
  rw[JX,au];have st:∃Y U1 y1,OkP Y/\Y.length<=P.length+1/\U1.length<=2*Y.length/\exs (aa defs (n+1)) fD (put [a,some (.own (P.map ofS)),sv (ofL U),x,y] 3 (.val (ofS s)))=.next [a,some (.own (Y.map ofS)),sv (ofL U1),sv (ofS s),y1]:=by
   have c:ev (aa defs (n+1)) (.not (.blt .any [(.comp .seq [.bor 1] [3] (.cst (.bl true)) (.call 42 [.bor 0,.bor 1]))])) [a,some (.own (P.map ofS)),sv (ofL U),sv (ofS s),y]=some (.bl (!(P.any λt=>sub t s))):=Ay ea;cases hq:P.any λt=>sub t s with
   |true =>
    rw[hq]at c;exact⟨P,U,y,J,by omega,hU,bX ((aL c).trans rfl)⟩
   |false =>
    rw[hq]at c
    match F,hm,D with
    | [],_,D=>exact⟨P,U,sv (ofL []),J,by omega,hU,bX ((aL c).trans (bR D rfl))⟩
    | [z],_,D=>exact⟨P,U,sv (ofL [z]),J,by omega,hU,bX ((aL c).trans (bR D rfl))⟩
    |z::w::r,hm,D =>
     refine⟨P++[[z,w]],U++[z,w],sv (ofL (z::w::r)),λt ht=>?_,by simp,by simp;omega,?_⟩
     .rcases J5.mp ht with h|h
      .exact J t h
      .exact⟨z,w,by simpa using h,hm z (.head _),hm w (.tail _ (.head _))⟩
     .have hn:(((z::w::r).map PV.int).length:Int)=(r.length:Int)+1+1:=by simp
      have ao:∀(k:Int) (v:PV),0<=k->k<=1->((z::w::r).map PV.int)[k.toNat]?=some v->gW (ofL (z::w::r)) (.int k)=some v:=λk v h0 h1 e=>by
       rw[vW,iX h0 (by omega)];exact e
      have cu:cut ((z::w::r).map .int) none (some 2)=[.int z,.int w]:=by
       have h4:min 2 (r.length+1+1)=2:=by omega
       simp[cut,iR,h4]
      rw[Kd,show ofL (U++[z,w])=.lst (U.map .int++[.int z,.int w])from Kj PV.lst Kd];exact bX ((aL c).trans (bR D (bX ((aL (p:=true) ((c8 (x:=.int ((((z::w::r).map PV.int).length:Nat):Int)) (y:=.int 1) rfl rfl).trans (by rw[FP,hn,J3 (by omega)];rfl))).trans (dB (i9 rfl (dC (aS ((fF rfl rfl).trans (ao 0 (.int z) (by decide) (by decide) rfl)) (aS ((fF rfl rfl).trans (ao 1 (.int w) (by decide) (by decide) rfl)) rfl))) (by rw[nA];omega)) (bX (iD ((cy rfl (show _=some (PV.lst (cut ((z::w::r).map .int) none (some 2)))from rfl)).trans (by rw[cu,mE,if_pos (by rw[nA];simp;omega)])))))))))
  obtain⟨Y,U1,y1,q1,q2,q3,e⟩:=st;rw[e];obtain⟨Z,U',x',y',r1,r2,r3⟩:=lX n a S Y U1 (sv (ofS s)) y1 q1 (λt ht=>hS t (.tail _ ht)) (by omega) q3;exact⟨Z,U',x',y',r1,by rw[length_cons];omega,r3⟩
def AI(n:Nat)(R:LL)(g:aB R):∃P,OkP P/\P.length<=60/\aa defs (n+2) 43 [.val (ofR R)]=some (ofR P):=by
 obtain⟨P,U,x,y,h1,h2,e⟩:=lX n (sv (ofR R)) R [] [] none none (λ_ h=>by cases h) g.1 (by have:=g.2.2;simpa using this) (by simp);refine⟨P,h1,by have:=g.2.2;simp at h2;omega,?_⟩;rw[ae (d:=iB) rfl rfl];simp only[map_nil]at e;rw[show ofL []=PV.lst []from rfl]at e;simp[iB,exs,ex,ev,evs,evA,bG,aP,ofR,e]
def CT(cal)(R)(g:aB R)(h)(a b x):ev cal (.blt .sum [(.comp .seq [.bor 0] [3] (.cmp .isIn (.bor 1) (.bor 0)) (.bin .shr (.bin .pow (ci 2) (ci 60)) (.blt .len [.bor 0])))]) [sv (ofR R),a,b,sv (.int h),x]=some (.int (aC R h)):=by
 rw[FX (ns:=(R.filter λs=>decide (h∈s)).map wgt) ?_,sN];rw[ev,show evs cal [.bor 0] [sv (ofR R),a,b,sv (.int h),x]=some [ofR R]from by simp[evs,ev],bind_some,vX,vV,bind_some,if_pos (by rw[nA];have:=g.2.2;omega),cm (p:=λs=>decide (h∈s)) (h:=λs=>.int (wgt s)),J4]
 .rfl
 .intro s _;simp[ev,cx,bh]
 .intro s hs _;exact IB _ s (aJ (g.1 s hs)) _
noncomputable def iH(f:Int->Int)(p:Option Int×Int)(h:Int):Option Int×Int:=if p.2<f h then(some h,f h)else p
theorem pP(cal)(R)(g:aB R):∀(hs:List Int) p x y,∃z D,au (λv l=>exs cal d6 (put l 3 (.val v))) (hs.map .int) [sv (ofR R),sv (bu p.1),sv (.int p.2),x,y]=.next [sv (ofR R),sv (bu (hs.foldl (iH (aC R)) p).1),sv (.int (hs.foldl (iH (aC R)) p).2),z,D]
 | [],p,x,y=>⟨x,y,rfl⟩
 |h::hs,p,x,y=>by
  have e:=CT cal R g h (sv (bu p.1)) (sv (.int p.2)) y;rw[JX,au];have st:exs cal d6 (put [sv (ofR R),sv (bu p.1),sv (.int p.2),x,y] 3 (.val (.int h)))=.next [sv (ofR R),sv (bu (iH (aC R) p h).1),sv (.int (iH (aC R) p h).2),sv (.int h),sv (.int (aC R h))]:=by
   simp only[cq,cv,d6];refine bR e ?_;simp only[cq,cv,iH];by_cases q:p.2<aC R h
   .simp[exs,ex,ev,evB,q,bu]
   .simp[exs,ex,ev,evB,q]
  rw[st];exact pP cal R g hs _ _ _
noncomputable def eM(R:LL):Option Int:=((ab R).foldl (iH (aC R)) (none,0)).1
def F3(n:Nat)(R:LL)(g:aB R):aa defs (n+2) 44 [.val (ofR R)]=some (bu (eM R)):=by
 obtain⟨x,y,e⟩:=pP (aa defs (n+1)) R g (ab R) (none,0) none none;rw[ae (d:=pO) rfl rfl];have z:∀W:Rho,ev (aa defs (n+1)) (.call 41 [.bor 0]) (sv (ofR R)::W)=some (ofL (ab R)):=λW=>ac (vs:=[.val (ofR R)]) (by simp[evA]) (jk n R g.1)
 show bf (exs (aa defs (n+1)) [.set 1 _,.set 2 _,.for1 3 .seq [(.call 41 [.bor 0])] d6,.ret _] [sv (ofR R),none,none,none,none])=_;refine aY (cG _ _ _) (aY (cG _ _ _) (cz (l:=[sv (ofR R),sv (bu (eM R)),sv (.int ((ab R).foldl (iH (aC R)) (none,0)).2),x,y]) ?_ (h_ (v:=bu (eM R)) ?_)))
 .simp only[cq,cv];rw[dX (xs:=(ab R).map .int) (by rw[evs,z];rfl)];show(MM.R.back _ _ (au _ _ [sv (ofR R),sv (bu none),sv (.int 0),none,none]))=_;rw[e]
  rfl
 .cases eM R<;>simp[ev,bu]
theorem pQ :∀(hs:List Int) p,(hs.foldl (iH f) p).1=some x->x∈hs\/p.1=some x
 | [],_,e=>.inr e
 |h::hs,p,e=>by
  rcases pQ hs (iH f p h) e with z|z
  .exact .inl (.tail _ z)
  .unfold iH at z;split at z
   .simp_all
   .exact .inr z
def sT{R:LL}(e:eM R=some x):x∈ab R:=(pQ _ _ e).resolve_right λz=>by cases z
def AJ(n:Nat)(R:LL)(g:aB R)(p:Int):∃r:Option Int,ic r/\aa defs (n+3) 49 [.val (ofR R),.val (.int p)]=some (bu r):=by
 have e:=F3 n R g;rw[ae (d:=d8) rfl rfl];by_cases z:p % 8=0
 .exact⟨none,(λx e=>by cases e),by simp[d8,exs,ex,ev,evB,z,bu]⟩
 .by_cases h1:p % 8=1
  .exact⟨some (p / 8 % 60),(λx e=>by cases e;have:=KU (p / 8) (b:=60) (by decide);have:=KL (p / 8) (b:=60) (by decide);omega),by simp[d8,exs,ex,ev,evB,h1,bu]⟩
  .exact⟨eM R,(λx e=>(bg g.1).2 x (sT e)),by simp[d8,exs,ex,ev,evB,evA,z,h1,e]⟩
def qW (h:k="bare" \/ k="whole" \/ k="weight"):sL (.tup [.str k]):=by
 rcases h with rfl|rfl|rfl
 .exact .inl rfl
 .exact .inr (.inl rfl)
 .exact .inr (.inr (.inl rfl))
def AK(n:Nat)(R:LL)(g:aB R)(t:Bool)(p:Int):∃v,sL v/\aa defs (n+3) 51 [.val (ofR R),.val (.str (af t)),.val (.str (af true)),.val (.int p)]=some v:=by
 obtain⟨P,h1,h2,e⟩:=AI n R g;rw[ae (d:=lS) rfl rfl];by_cases z:R=[]
 .subst z;exact⟨_,qW (.inl rfl),rfl⟩
 .have D:((R.length:Int)==0)=false:=by
   cases R with
   |nil=>exact absurd rfl z
   |cons _ _=>simp;omega
  have c:∀W:Rho,ev (aa defs (n+2)) (.cmp .eq (.blt .len [.bor 0]) (ci 0)) (sv (ofR R)::W)=some (.bl false):=λW=>qP (xs:=R.map ofS) (by rw[nA];exact D) rfl
  have d:∀W:Rho,ev (aa defs (n+2)) (.and (.cmp .eq (.bor 1) (cs "weaver")) (.cmp .eq (.bin .mod (.bor 3) (ci 2)) (ci 0))) (sv (ofR R)::sv (.str (af t))::sv (.str (af true))::sv (.int p)::W)=some (.bl (!t&&(p % 2==0))):=λW=>fE (by cases t<;>rfl) λ_=>i7 rfl (by decide)
  cases q:(!t&&(p % 2==0))with
  |true =>
   rw[q]at d;exact⟨.tup [.str "pairs",ofR P],.inr (.inr (.inr ⟨P,h1,h2,rfl⟩)),bP rfl (bP (c _) (eT (d _) (dC (aS rfl (aS (ac rfl e) rfl)))))⟩
  |false =>
   rw[q]at d;exact⟨_,qW (.inr (.inr rfl)),bP rfl (bP (c _) (bP (d _) rfl))⟩
theorem oB(cal:Cal)(a0 a2 a3 a6:Option MV)(base U z J:Int)(hb:0<=base)(b0:base<=48)(ho:0<=U)(hm:0<z)(hs:U+z<=12)(hk:gW (.lst [.int 0,.int 4,.int 8,.int 0]) (.int J)=some (.int U)):∀(xs:List PV) (left:Int) (D:List Int) (k Z:Option MV),D.Nodup->(∀x∈D,base<=x/\x<=base+11)->D.length+xs.length<=100 ->
  ∃(aO:Int) (Y:List Int) (k' a1:Option MV),au (λx l=>exs cal bD (put l 9 (.val x))) xs [a0,sv (.int base),a2,a3,sv (.int left),sv (.int J),a6,sv (.int z),some (.own (D.map .int)),k,Z]=.next [a0,sv (.int base),a2,a3,sv (.int aO),sv (.int J),a6,sv (.int z),some (.own (Y.map .int)),k',a1]/\Y.Nodup/\(∀x∈Y,base<=x/\x<=base+11)/\Y.length<=D.length+xs.length
 | [],left,D,k,Z,h1,h2,_=>⟨left,D,k,Z,rfl,h1,h2,lC _⟩
 |x::xs,left,D,k,Z,h1,h2,h3=>by
  rw[length_cons]at h3;have m0:0<=left % z:=KU _ (by omega);have m1:left % z<z:=KL _ hm;have b3:D.length<10000:=by omega
  have ao:z<1073741824:=by omega
  rw[au];have e:exs cal bD (put [a0,sv (.int base),a2,a3,sv (.int left),sv (.int J),a6,sv (.int z),some (.own (D.map .int)),k,Z] 9 (.val x))=.next [a0,sv (.int base),a2,a3,sv (.int (left / z)),sv (.int J),a6,sv (.int z),some (.own ((if base+U+left % z∈D then D else D++[base+U+left % z]).map .int)),sv x,sv (.int (base+U+left % z))]:=by
   by_cases q:base+U+left % z∈D
   .simp[bD,exs,ex,ev,evs,evB,hk,hm,ao,bh,q]
   .simp[bD,exs,ex,ev,evs,evB,hk,hm,ao,bh,q,b3]
  rw[e];obtain⟨l',Y,k',o',f1,f2,f3,f4⟩:=oB cal a0 a2 a3 a6 base U z J hb b0 ho hm hs hk xs (left / z) (if base+U+left % z∈D then D else D++[base+U+left % z]) (sv x) (sv (.int (base+U+left % z))) (by
   split
   .exact h1
   .rename_i q;exact K9.mpr ⟨h1,by simp,λa ha b hb e=>by rw[J9.mp hb]at e;exact q (e▸ha)⟩) (by
   split
   .exact h2
   .intro y hy;rcases J5.mp hy with hy|hy
    .exact h2 y hy
    .rw[J9.mp hy];omega) (by
   split
   .omega
   .rw[tr,length_singleton];omega)
  refine⟨l',Y,k',o',f1,f2,f3,?_⟩;rw[length_cons];split at f4
  .omega
  .rw[tr,length_singleton]at f4;omega
def oC(h:(evs cal src W).bind (bq k)=some xs)(e:au (λx l=>exs cal body (put l i (.val x))) xs (bG src W)=.next l)(q:exs cal ms (aP src W l)=r):exs cal (.for1 i k src body::ms) W=r:=by simp_all [ar,dX]
def AL(n:Nat)(c base z J:Int)(h1:0<=base)(h2:base<=48)(h3:3<=z)(h4:z<=4)(h5:0<=J)(h6:J<=2):∃s,(bM s/\s.length<=4)/\(∀h∈s,base<=h/\h<=base+11)/\aa defs (n+2) 46 [.val (.int c),.val (.int base),.val (.int z),.val (.int J)]=some (ofS s):=by
 rw[ae (d:=gc) rfl rfl];have em:=mG n c 1181783497276652981;generalize gi c 1181783497276652981=l at em;have hp:0<z:=by omega
 have a6:z<1073741824:=by omega
 obtain⟨D,hs⟩:∃x,x=l % z:=⟨_,rfl⟩;obtain⟨size,hz⟩:∃x,x=J+l / z % 3:=⟨_,rfl⟩;have q0:0<=D:=by rw[hs];exact KU _ (by omega)
 have q1:D<4:=by have:=KL l hp;omega
 have s0:0<=size:=by omega
 have s1:size<=4:=by omega
 obtain⟨U,Z,a1,a2,a3,a4,a5⟩:∃U Z:Int,0<U/\0<=Z/\Z+U<=12/\gW (.lst [.int 4,.int 4,.int 4,.int 12]) (.int D)=some (.int U)/\gW (.lst [.int 0,.int 4,.int 8,.int 0]) (.int D)=some (.int Z):=by
  obtain rfl|rfl|rfl|rfl:D=0\/D=1\/D=2\/D=3:=by omega
  .exact⟨4,0,by decide,by decide,by decide,rfl,rfl⟩
  .exact⟨4,4,by decide,by decide,by decide,rfl,rfl⟩
  .exact⟨4,8,by decide,by decide,by decide,rfl,rfl⟩
  .exact⟨12,0,by decide,by decide,by decide,rfl,rfl⟩
 obtain⟨l',Y,k',o',e,g1,g2,g3⟩:=oB (aa defs (n+1)) (sv (.int c)) (sv (.int z)) (sv (.int J)) (sv (.int size)) base Z U D h1 h2 a2 a1 a3 a5 ((range size.toNat).map λ(k:Nat)=>PV.int (k:Int)) (l / z / 3) [] none none Ly (λ_ h=>by cases h) (by simp;omega);have g3:Y.length<=4:=by rw[nA,MO,length_nil]at g3;omega
 have ao:∀h∈sortI Y,base<=h/\h<=base+11:=λh hh=>g2 h (g8.mp hh)
 refine⟨sortI Y,⟨⟨nV g1,λh hh=>⟨Mm h1 (ao h hh).1,Mm (ao h hh).2 (by omega)⟩⟩,by rw[sortI_len];exact g3⟩,ao,?_⟩;show bf (exs (aa defs (n+1)) (_::_::_::_::_::_::_::_::[_]) [sv (.int c),sv (.int base),sv (.int z),sv (.int J),none,none,none,none,none,none,none])=_;refine aY (v:=.int l) (ac (vs:=[.val (.int c),.val (.int 1181783497276652981)]) (by simp[evA,ev]) em) (aY (v:=.int D) (by simp[ev,hp,hs]) (aY (v:=.int (l / z)) (by simp[ev,hp,a6]) (aY (v:=.int size) (by simp[ev,hz]) (aY (v:=.int (l / z / 3)) (by simp[ev]) (aY (v:=.int U) (by rw[fF (y:=.int D) rfl rfl];exact a4) ?_)))));simp only[cq,cv];refine cz (cJ (xs:=[]) (by simp[ev,evs])) ?_;simp only[cq,cv];refine Kj bf (oC (r:=.ret (ofS (sortI Y))) (xs:=(range size.toNat).map λ(k:Nat)=>PV.int (k:Int)) ?_ e ?_)
 .rw[show evs (aa defs (n+1)) [.bor 6] [sv (.int c),sv (.int base),sv (.int z),sv (.int J),sv (.int (l / z / 3)),sv (.int D),sv (.int size),sv (.int U),some (.own []),none,none]=some [.int size]from by simp[evs,ev],bind_some,jP s0 (by omega)]
 .rw[ar,dJ (v:=ofS (sortI Y))]
  .rfl
  .refine(aN (v:=ofL (sortI Y)) ?_).trans rfl;rw[aN (v:=ofL Y) rfl,fB,iw,bind_some,pL (by omega)]
noncomputable abbrev pG(G:LL):PV:=.lst (G.map ofS)
def CU(cal)(z a1 D J)(s)(G)(Z:G.length<=60)(U:∀t∈G,t.length<=60):ev cal (.blt .any [(.comp .seq [.bor 5] [2] (.cst (.bl true)) (.blt .any [(.comp .seq [.bor 0] [1] (.cst (.bl true)) (.cmp .isIn (.bor 0) (.bor 1)))]))]) [z,a1,sv (ofS s),D,J,sv (pG G)]=some (.bl ((G.map λt=>(t.map λx=>decide (x∈s)).any id).any id)):=by
 have e:∀(xs:List Bool),aA .any [.lst (xs.map .bl)]=some (.bl (xs.any id)):=λxs=>by rw[qI,fz];rfl
 rw[aN (v:=.lst ((G.map λt=>(t.map λx=>decide (x∈s)).any id).map .bl)),e];rw[J4];refine cW (vs:=[pG G]) (xs:=G) (g:=ofS) rfl rfl (by omega) λt Y=>?_
 rw[aN (v:=.lst ((t.map λx=>decide (x∈s)).map .bl)),e]
 .rfl
 rw[J4];refine cW (vs:=[ofS t]) (xs:=t) (g:=.int) rfl rfl (by have:=U t Y;omega) λx _=>?_
 simp[ev,cx,bh]
theorem ja(cal)(Z a1)(s):∀(D:List (LL)) (z:LL) (J:List (LL)) (y:Option MV),(∀t∈D.flatten,t.length<=60)->z.length+D.flatten.length<=60->J.length+D.length<=60 ->
  ∃(U:LL) (Y:List (LL)) (y':Option MV),au (λx l=>exs cal dU (put l 5 (.val x))) (D.map pG) [Z,a1,sv (ofS s),sv (pG z),some (.own (J.map pG)),y]=.next [Z,a1,sv (ofS s),sv (pG U),some (.own (Y.map pG)),y']/\(U++Y.flatten).Perm (z++J.flatten++D.flatten)/\Y.length<=J.length+D.length
 | [],z,J,y,_,_,_=>⟨z,J,y,rfl,by simp,lC _⟩
 |G::D,z,J,y,h1,h2,h3=>by
  rw[flatten_cons]at h1 h2;rw[tr]at h2;rw[length_cons]at h3;rw[JX,au];have et:=CU cal Z a1 (sv (pG z)) (some (.own (J.map pG))) s G (by omega) λt ht=>h1 t (Lb _ ht)
  generalize ((G.map λt=>(t.map λx=>decide (x∈s)).any id).any id)=b at et;have aO:∀t∈D.flatten,t.length<=60:=λt ht=>h1 t (Kp _ ht)
  cases b with
  |true =>
   have e:exs cal dU (put [Z,a1,sv (ofS s),sv (pG z),some (.own (J.map pG)),y] 5 (.val (pG G)))=.next [Z,a1,sv (ofS s),sv (pG (z++G)),some (.own (J.map pG)),sv (pG G)]:=by
    refine bX ?_;simp only[cq,cv];rw[aL et,if_pos rfl];refine bX (iD ?_);rw[cy rfl rfl,mE,if_pos (by rw[nA,nA];omega),<- Kd]
   rw[e];obtain⟨n',f',y',q1,q2,q3⟩:=ja cal Z a1 s D (z++G) J (sv (pG G)) aO (by rw[tr];omega) (by omega);refine⟨n',f',y',q1,q2.trans ?_,by rw[length_cons];omega⟩;rw[flatten_cons,<- KN];refine Perm.append_right _ ?_;rw[KN,KN];exact Perm.append_left _ L8
  |false =>
   have e:exs cal dU (put [Z,a1,sv (ofS s),sv (pG z),some (.own (J.map pG)),y] 5 (.val (pG G)))=.next [Z,a1,sv (ofS s),sv (pG z),some (.own ((J++[G]).map pG)),sv (pG G)]:=by
    refine bX ?_;simp only[cq,cv];rw[aL et,if_neg (by decide)];have a8:J.length<10000:=by omega
    simp[exs,ex,ev,a8]
   rw[e];obtain⟨n',f',y',q1,q2,q3⟩:=ja cal Z a1 s D z (J++[G]) (sv (pG G)) aO (by omega) (by rw[tr,length_singleton];omega);rw[tr,length_singleton]at q3;refine⟨n',f',y',q1,q2.trans ?_,by rw[length_cons];omega⟩;simp
theorem lY(cal)(J):∀R A (P:List (LL)) Y Z x4 U,P.flatten.Perm A->P.length<=A.length->A.length+R.length<=50->(∀t∈A++R,t.length<=60) ->
  ∃(P':List (LL)) (y2 y3 y4 y5:Option MV),au (λx l=>exs cal dW (put l 2 (.val x))) (R.map ofS) [J,sv (.lst (P.map pG)),Y,Z,x4,U]=.next [J,sv (.lst (P'.map pG)),y2,y3,y4,y5]/\P'.flatten.Perm (A++R)/\P'.length<=(A++R).length
 | [],A,P,Y,Z,x4,U,p,hl,_,_=>⟨P,Y,Z,x4,U,rfl,by simpa using p,by simpa using hl⟩
 |s::R,A,P,Y,Z,x4,U,p,hl,h1,h2=>by
  rw[length_cons]at h1;rw[JX,au];refine aD λZq kq=>?_
  have hP:=p.length_eq;obtain⟨z,D,y,e1,e2,e3⟩:=ja cal J (sv (.lst (P.map pG))) s P [] [] U (λt ht=>h2 t (Lb _ (p.mem_iff.mp ht))) (by rw[length_nil,hP];omega) (by rw[length_nil];omega);simp only[nil_append,flatten_nil]at e2;have hn:=e2.length_eq;rw[tr]at hn;rw[length_nil,LC]at e3;have e:exs cal dW (put [J,sv (.lst (P.map pG)),Y,Z,x4,U] 2 (.val (ofS s)))=.next [J,sv (.lst ((D++[z++[s]]).map pG)),sv (ofS s),sv (pG z),some (.own (D.map pG)),y]:=by
   refine bR (v:=pG []) (by simp[ev,evs]) (dB (cJ (xs:=[]) (by simp[ev,evs])) (oC (xs:=P.map pG) (by simp[evs,ev]) e1 (bX (iD ?_))));have q:ev cal (.bin .add (.bor 3) (.lst [.var 2])) [J,sv (.lst (P.map pG)),sv (ofS s),sv (pG z),some (.own (D.map pG)),y]=some (pG (z++[s])):=by
    rw[cy (x:=pG z) (y:=.lst [ofS s]) rfl (by simp[ev,evs]),mE,if_pos (by simp;omega)];simp
   show ev cal _ [J,sv (.lst (P.map pG)),sv (ofS s),sv (pG z),some (.own (D.map pG)),y]=_;rw[cy (x:=.lst (D.map pG)) (y:=.lst [pG (z++[s])]) rfl (by rw[ev,evs,q];simp[evs]),mE,if_pos (by simp;omega)];simp
  refine kq ?_;rw[e];obtain⟨P',y2,y3,y4,y5,f1,f2,f3⟩:=lY cal J R (A++[s]) (D++[z++[s]]) (sv (ofS s)) (sv (pG z)) (some (.own (D.map pG))) y (by
   rw[LA,flatten_singleton,<- KN];exact Perm.append_right _ ((L8.trans e2).trans p)) (by simp;omega) (by simp;omega) (by simpa using h2)
  exact⟨P',y2,y3,y4,y5,f1,by simpa using f2,by simpa using f3⟩
def SmR(R:LL):Prop:=aB R/\R.length<=8/\R.flatten.length<=60
def qX{R:LL}(g:SmR R)(r):SmR (bhd h R r):=by
 refine⟨cU g.1 r,r4 ?_ g.2.1,r4 (d_ h R r) g.2.2⟩;cases r<;>first|exact lC _|(cases h<;>first|exact Lk _ _|(show(sortT _).length<=_;rw[sortT_len,nA];exact lC _))
def sU(n:Nat)(R:LL)(g:SmR R):∃D:List (LL),aa defs (n+1) 50 [.val (ofR R)]=some (.lst (D.map ofR))/\D.length<=8/\D.flatten.length<=8/\D.flatten.flatten.length<=60/\(∀Q∈D,SmR Q)/\∀Q∈D,∀t∈Q,t∈R:=by
 obtain⟨P,y2,y3,y4,y5,e1,Y,e3⟩:=lY (aa defs n) (sv (ofR R)) R [] [] none none none none (by simp) (lC _) (by have:=g.2.1;simp;omega) (λt J=>aJ (g.1.1 t (by simpa using J)));rw[nil_append]at Y e3;have U:(P.map sortT).flatten.Perm R:=by
  refine Perm.trans ?_ Y;clear e1 Y e3
  induction P with
  |nil=>exact .nil
  |cons G P ih=>simp only[JX,flatten_cons];exact(sortT_perm G).append ih
 have hf:=U.flatten.length_eq;have Z:∀Q∈P.map sortT,Q.Sublist (P.map sortT).flatten:=λQ z=>sublist_flatten_of_mem z
 have hb:∀Q∈P.map sortT,SmR Q:=λQ z=>by
  have l1:=(Z Q z).length_le;have l2:=(sublist_flatten_of_mem (Ko (f:=flatten) z)).length_le;rw[<- flatten_flatten]at l2;rw[U.length_eq]at l1;rw[hf]at l2;have:=g.2.1;have:=g.2.2;refine⟨⟨λt J=>g.1.1 t (U.mem_iff.mp ((Z Q z).subset J)),?_,by omega⟩,by omega,by omega⟩;obtain⟨G,_,rfl⟩:=mem_map.mp z;exact sortT_rises G
 refine⟨P.map sortT,?_,by rw[nA];have:=g.2.1;omega,by rw[U.length_eq];exact g.2.1,by rw[hf];exact g.2.2,hb,λQ z t J=>U.mem_iff.mp ((Z Q z).subset J)⟩;rw[ae (d:=lR) rfl rfl];show bf (exs (aa defs n) [.set 1 _,.for1 2 .seq [.bor 0] dW,.ret _] [sv (ofR R),none,none,none,none,none])=_;refine aY (v:=.lst []) (by simp[ev,evs]) (Kj bf (oC (r:=.ret (.lst ((P.map sortT).map ofR))) (xs:=R.map ofS) (by simp[evs,ev]) e1 ?_));rw[ar,dJ (v:=.lst ((P.map sortT).map ofR))]
 .rfl
 rw[J4];refine cW (vs:=[.lst (P.map pG)]) (xs:=P) (g:=pG) rfl rfl (by have:=g.2.1;omega) λG hG=>?_
 have hl:G.length<64:=by
  have:=(hb (sortT G) (Ko hG)).2.1;rw[sortT_len]at this;omega
 refine(aN (v:=.lst ((sortT G).map ofS)) ?_).trans rfl;rw[aN (v:=pG G) rfl,fB,iw,bind_some,ff hl]
def CV(n:Nat)(R:LL)(g:SmR R):∃D:List (LL),aa defs (n+1) 50 [.val (ofR R)]=some (.lst (D.map ofR))/\D.length<=8/\D.flatten.length<=8/\D.flatten.flatten.length<=60/\∀Q∈D,SmR Q:=
 let ⟨D,e,h1,h2,z,J,_⟩:=sU n R g;⟨D,e,h1,h2,z,J⟩
def Dt:∀(a b:List Int),a.Nodup->a ⊆ b->a.length<=b.length:=λa=>by
 induction a with
 |nil=>intro b _ _;exact Ke _
 |cons x a ih =>
  intro b U hs;obtain⟨Y,Z⟩:=Ku.mp U;have z:=hs (.head _);have:=ih (b.erase x) Z λy J=>by
   have D:y≠x:=λe=>Y (e▸J)
   exact(mem_erase_of_ne D).mpr (hs (.tail _ J))
  rw[length_erase_of_mem z]at this;have:=length_pos_of_mem z;rw[length_cons];omega
def xr{l:List Int}(h:l.Pairwise (· < ·)):l.Nodup:=h.imp λh e=>by omega
def v9{R:LL} :(∃s∈bhd t R (some h),k∈s)->(∃s∈R,k∈s)/\k≠h:=by
 rintro ⟨s,hs,z⟩;cases t with
 |true =>
  obtain⟨h1,h2⟩:=J2.mp (show s∈R.filter _ from hs);exact⟨⟨s,h1,z⟩,λe=>by subst e;simp[z]at h2⟩
 |false =>
  obtain⟨t,D,rfl⟩:=mem_map.mp (bo.mp (show s∈sortT _ from hs));obtain⟨h1,h2⟩:=J2.mp z;exact⟨⟨t,D,h1⟩,by simpa using h2⟩
def uT{R:LL}(J:h∈ab R):(ab (bhd t R (some h))).length+1<=(ab R).length:=by
 have:=Dt (h::ab (bhd t R _)) _ (Ku.mpr ⟨λz=>(v9 (av.mp z)).2 rfl,xr (fG _)⟩) λy D=>by
  rcases tf.mp D with rfl|D
  .exact J
  .exact av.mpr (v9 (av.mp D)).1
 simpa using this
def sV(h:0<=a/\a<=59):ic (some a):=λx e=>by cases e;exact h
theorem WP.le{d:Nat}{v:PV}(h:WP d v):∀{e:Nat},d<=e->WP e v:=by
 induction h with
 |leaf h=>exact λ_=>.leaf h
 |one k r J _ ih=>intro e z;obtain⟨e,rfl,hx⟩:=up1 z;exact .one k r J (ih hx)
 |cases rows U Y _ ih=>intro e z;obtain⟨e,rfl,hx⟩:=up1 z;exact .cases rows U Y λr D=>ih r D hx
 |parts rows a b c d _ ih=>intro e z;obtain⟨e,rfl,hx⟩:=up1 z;exact .parts rows a b c d λr D=>ih r D hx
def qY(k:Nat)(R:LL)(t w:Bool)(v:PV):Prop:=
 (w=t/\∃h s,(0<=h/\h<=59)/\v=.tup [.str (if t=true then "bite" else "knot"),.int h,s]/\WP k s)\/(w=false/\[]∈R/\v=.tup [.str "whole"])\/(w=true/\R=[]/\v=.tup [.str "bare"])\/(w=(!t)/\WP (k+1) v)
theorem qY.wp{R:LL}(h:qY k R t w v):WP (k+1) v:=by
 rcases h with⟨_,a,s,z,rfl,h⟩|⟨_,_,rfl⟩|⟨_,_,rfl⟩|⟨_,h⟩
 .exact .one t _ (sV z) h
 .exact .leaf (qW (.inr (.inl rfl)))
 .exact .leaf (qW (.inl rfl))
 .exact h
def AM(cal:Cal)(k:Nat):Prop:=∀R t,SmR R->(ab R).length<=k->∃w v,qY k R t w v/\cal 45 [.val (ofR R),.val (.str (af t))]=some (.tup [.str (af w),v])
theorem oD(cal:Cal){k:Nat}(hT:AM cal k)(R:LL)(g:SmR R)(hw:¬ []∈R)(hb:R≠[])(hk:(ab R).length<=k+1)(t:Bool)(eK:∀h,cal 39 [.val (ofR R),.val (.int h)]=some (ofR (b6 h R)))(eB:∀h,cal 40 [.val (ofR R),.val (.int h)]=some (ofR (hZ h R))):∀(hs:List Int) (D:List (Int×Option Int×PV)) (x y:Option MV),(∀h∈hs,h∈ab R)->D.length+hs.length<=100->(∀r∈D,WP k r.2.2/\ic r.2.1) ->
  (∃h s,(0<=h/\h<=59)/\WP (k+1) s/\au (λv l=>exs cal cT (put l 3 (.val v))) (hs.map .int) [sv (ofR R),sv (.str (af t)),some (.own (D.map bm)),x,y]=.ret (.tup [.str (af t),.tup [.str (if t=true then "bite" else "knot"),.int h,s]])) \/
  ∃(J:List (Int×Option Int×PV)) (x' y':Option MV),au (λv l=>exs cal cT (put l 3 (.val v))) (hs.map .int) [sv (ofR R),sv (.str (af t)),some (.own (D.map bm)),x,y]=.next [sv (ofR R),sv (.str (af t)),some (.own (J.map bm)),x',y']/\J.length<=100/\∀r∈J,WP k r.2.2/\ic r.2.1
 | [],D,x,y,_,U,Y=>.inr ⟨D,x,y,rfl,by simpa using U,Y⟩
 |h::hs,D,x,y,hm,U,Y=>by
  rw[length_cons]at U;have hh:=hm h (.head _);obtain⟨w,v,ok,e⟩:=hT (bhd t R (some h)) (!t) (qX g _) (by have:=uT (t:=t) hh;omega);rw[JX,au];have e1:ex cal (.ite (.cmp .eq (.bor 1) (cs "weaver")) [.set 4 (.call 45 [(.call 39 [.bor 0,.bor 3]),(cs "moth")])] [.set 4 (.call 45 [(.call 40 [.bor 0,.bor 3]),(cs "weaver")])]) [sv (ofR R),sv (.str (af t)),some (.own (D.map bm)),sv (.int h),y]=.next [sv (ofR R),sv (.str (af t)),some (.own (D.map bm)),sv (.int h),sv (.tup [.str (af w),v])]:=by
   cases t
   .rw[aL (p:=true) rfl];exact bX (iD (ac (eJ (ac rfl (eK h)) rfl) e))
   .rw[aL (p:=false) rfl];exact bX (iD (ac (eJ (ac rfl (eB h)) rfl) e))
  by_cases q:w=t
  .subst q;refine .inl ⟨h,v,(bg g.1.1).2 h hh,ok.wp,?_⟩;rw[show exs cal cT (put [sv (ofR R),sv (.str (af w)),some (.own (D.map bm)),x,y] 3 (.val (.int h)))=.ret (.tup [.str (af w),.tup [.str (if w=true then "bite" else "knot"),.int h,v]])from dB e1 (by cases w<;>exact Ds rfl rfl)]
  .obtain rfl:w=(!t):=by cases w<;>cases t<;>simp_all
   obtain⟨a,s,ha,rfl,Z⟩:∃(a:Int) (s:PV),(0<=a/\a<=59)/\v=.tup [.str (if (!t)=true then "bite" else "knot"),.int a,s]/\WP k s:=by
    rcases ok with⟨_,z⟩|⟨a,b,_⟩|⟨a,b,_⟩|⟨a,_⟩
    .exact z
    .cases t with
     |false=>cases a
     |true=>exact absurd (J2.mp b).1 hw
    .cases t with
     |true=>cases a
     |false =>
      have:=Kj List.length b;rw[show(bhd false R (some h)).length=R.length from by show(sortT _).length=_;rw[sortT_len,nA]]at this;exact absurd (KJ.mp this) hb
    .cases t<;>cases a
   have ao:(D.map bm).length<10000:=by rw[nA];omega
   have e2:exs cal cT (put [sv (ofR R),sv (.str (af t)),some (.own (D.map bm)),x,y] 3 (.val (.int h)))=.next [sv (ofR R),sv (.str (af t)),some (.own ((D++[(h,some a,s)]).map bm)),sv (.int h),sv (.tup [.str (af (!t)),.tup [.str (if (!t)=true then "bite" else "knot"),.int a,s]])]:=dB e1 (by
    rw[Kd];cases t<;>exact Az rfl (bX (i9 (v:=bm (h,some a,s)) rfl rfl ao)))
   rw[e2];exact oD cal hT R g hw hb hk t eK eB hs (D++[(h,some a,s)]) _ _ (λy hy=>hm y (.tail _ hy)) (by rw[tr,length_singleton];omega) λr aO=>by
    rcases J5.mp aO with z|z
    .exact Y r z
    .rw[J9.mp z];exact⟨Z,sV ha⟩
theorem v_(n):∀k,AM (aa defs (n+k+2)) k
 |k,R,t,g,U=>by
  by_cases hw:[]∈R
  .refine⟨false,_,.inr (.inl ⟨rfl,hw,rfl⟩),?_⟩;rw[ae (d:=d7) rfl rfl];exact eT (AB ((lx [] R).trans (by rw[J3 hw])) rfl rfl) rfl
  .have hi:=(lx [] R).trans (by rw[Kc hw]);by_cases Y:R=[]
   .refine⟨true,_,.inr (.inr (.inl ⟨rfl,Y,rfl⟩)),?_⟩;rw[ae (d:=d7) rfl rfl];subst Y
    rfl
   .match k,U with
    |0,U =>
     obtain⟨s,hs⟩:=exists_mem_of_ne_nil R Y;obtain⟨x,hx⟩:=exists_mem_of_ne_nil s λz=>hw (z▸hs)
     have:=av.mpr ⟨s,hs,hx⟩
     simp_all
    |k+1,U =>
     have D:((R.length:Int)==0)=false:=by
      cases R<;>grind
     have Z:=aJ (bg g.1.1);rcases oD (aa defs (n+k+2)) (v_ n k) R g hw Y U t (λh=>gH (n+k+1) R h g.1) (λh=>e_ (n+k+1) R h (by have:=g.2.1;omega)) (ab R) [] none none (λh hh=>hh) (by simp;omega) (λr J=>by cases J)with⟨h,s,ha,hs,e⟩|⟨rows,x,y,e,h1,h2⟩
     .refine⟨t,_,.inl ⟨rfl,h,s,ha,rfl,hs⟩,?_⟩;rw[ae (d:=d7) rfl rfl];refine bP (AB hi rfl rfl) (bP (qP (xs:=R.map ofS) (by rw[nA,D]) rfl) (cz (cJ (xs:=[]) rfl) ?_));exact Kj bf (AC (xs:=(ab R).map .int) (AD (ac rfl (jk (n+(k+1)) R g.1.1))) e)
     .refine⟨!t,.tup [.str "cases",.tup (rows.map bm)],.inr (.inr (.inr ⟨rfl,.cases rows (by omega) (λr J=>(h2 r J).2) λr J=>(h2 r J).1.le (by omega)⟩)),?_⟩;rw[ae (d:=d7) rfl rfl];refine bP (AB hi rfl rfl) (bP (qP (xs:=R.map ofS) (by rw[nA,D]) rfl) (cz (cJ (xs:=[]) rfl) ?_));exact Kj bf (oC (r:=.ret (.tup [.str (af !t),.tup [.str "cases",.tup (rows.map bm)]])) (xs:=(ab R).map .int) (AD (ac rfl (jk (n+(k+1)) R g.1.1))) e (by cases t<;>exact sO rfl))
def F4(h1:ev cal e W=some w)(h2:evX cal x W=some (y,l))(z:cal g [.val w,.val y]=some r):evX cal (.fn2 g e x) W=some (r,l):=by simp_all [evX]
def F5(z:(W[i]?).join=some (.own ys))(h:evX cal x W=some (v,l))(ho:(l[i]?).join=some (.own xs))(D:xs.length<10000)(k:exs cal ms (put l i (.own (xs++[v])))=r):exs cal (.appX i x::ms) W=r:=by
 rw[ar,ex,z]
 simp_all
structure kP(cal:Cal):Prop where
 next:AH cal
 hol:∀R,SmR R->cal 41 [.val (ofR R)]=some (ofL (ab R))
 deed:∀R h r,SmR R->cal 48 [.val (ofR R),.val (.str (af h)),.val (bu r)]=some (ofR (bhd h R r))
 reply:∀R p,SmR R->∃r,ic r/\cal 49 [.val (ofR R),.val (.int p)]=some (bu r)
 split:∀R,SmR R->∃D:List (LL),cal 50 [.val (ofR R)]=some (.lst (D.map ofR))/\D.length<=8/\D.flatten.length<=8/\D.flatten.flatten.length<=60/\∀Q∈D,SmR Q
 tried:AM cal 4
 plain:∀R t p,SmR R->∃v,sL v/\cal 51 [.val (ofR R),.val (.str (af t)),.val (.str (af true)),.val (.int p)]=some v
def oE(n:Nat):kP (aa defs (n+6)):=⟨F1 (n+4),λR g=>jk (n+5) R g.1.1,λR h r g=>CQ (n+4) R g.1 h r,λR p g=>AJ (n+3) R g.1 p,λR g=>CV (n+5) R g,v_ n 4,λR t p g=>AK (n+3) R g.1 t p⟩
def jW(cal:Cal)(j:Nat):Prop:=∀ns R (t:Bool),SmR R->∃v z,cal (54+2000) [.mutD (.p ns),.val (ofR R),.val (.str (af t)),.val (.str (af true)),.val (.int j)]=some (.tup [v,.dI (.p z)])/\WP (7+j) v
theorem lZ(cal:Cal)(C:kP cal)(G:jW cal 0)(R:LL)(g:SmR R):∀(hs ns:List Int) (D:List (Int×Option Int×PV)) (U Y Z:Option MV),D.length+hs.length<=100->(∀r∈D,WP 7 r.2.2/\ic r.2.1) ->
  ∃(ao:List Int) (J:List (Int×Option Int×PV)) (y5 y6 y7:Option MV),au (λx l=>exs cal gC (put l 5 (.val x))) (hs.map .int) [some (.mutD (.p ns)),sv (ofR R),sv (.str (af true)),some (.own (D.map bm)),sv (.str (af false)),U,Y,Z]=.next [some (.mutD (.p ao)),sv (ofR R),sv (.str (af true)),some (.own (J.map bm)),sv (.str (af false)),y5,y6,y7]/\J.length<=100/\∀r∈J,WP 7 r.2.2/\ic r.2.1
 | [],ns,D,U,Y,Z,hl,hr=>⟨ns,D,U,Y,Z,rfl,by simpa using hl,hr⟩
 |a::hs,ns,D,U,Y,Z,hl,hr=>by
  rw[length_cons]at hl;obtain⟨y,n1,_,e1⟩:=C.next ns;have g1:=qX (h:=false) g (some a);obtain⟨r,rk,e2⟩:=C.reply (bhd false R (some a)) y g1;obtain⟨v,n2,e3,hv⟩:=G n1 (bhd true (bhd false R (some a)) r) false (qX g1 r);have a2:(D.map bm).length<10000:=by rw[nA];omega
  have e:exs cal gC (put [some (.mutD (.p ns)),sv (ofR R),sv (.str (af true)),some (.own (D.map bm)),sv (.str (af false)),U,Y,Z] 5 (.val (.int a)))=.next [some (.mutD (.p n2)),sv (ofR R),sv (.str (af true)),some (.own (D.map bm++[bm (a,r,v)])),sv (.str (af false)),sv (.int a),sv (ofR (bhd false R (some a))),sv (bu r)]:=
   bR (ac rfl (C.deed R false (some a) g)) (qU (F4 rfl (xc1 e1) e2) (F5 rfl (qV (jm rfl (jm rfl (kO (xc5 (eJ (ac rfl (C.deed _ true r g1)) rfl) rfl rfl rfl e3))))) rfl a2 rfl))
  rw[JX,au,e];have:=lZ cal C G R g hs n2 (D++[(a,r,v)]) (sv (.int a)) (sv (ofR (bhd false R (some a)))) (sv (bu r)) (by rw[tr,length_singleton];omega) λq hq=>by
   rcases J5.mp hq with z|z
   .exact hr q z
   .rw[J9.mp z];exact⟨hv,rk⟩
  rw[Kd]at this;exact this
def AN(n:Nat)(C:kP (aa defs n))(G:jW (aa defs n) 0)(ns:List Int)(R:LL)(g:SmR R):∃v D,aa defs (n+1) (52+2000) [.mutD (.p ns),.val (ofR R),.val (.str (af true))]=some (.tup [v,.dI (.p D)])/\WP 8 v:=by
 obtain⟨D,z,U,Y,Z,e,h1,h2⟩:=lZ (aa defs n) C G R g (ab R) ns [] none none none (by have:=aJ (bg g.1.1);simp;omega) (λr J=>by cases J);refine⟨.tup [.str "cases",.tup (z.map bm)],D,?_,.cases z (by omega) (λr J=>(h2 r J).2) λr J=>(h2 r J).1⟩;rw[ji (d:=i6) (by decide) rfl rfl];have k:exs (aa defs n) i6.body [some (.mutD (.p ns)),sv (ofR R),sv (.str (af true)),none,none,none,none,none]=.retM (.tup [.str "cases",.tup (z.map bm)]) [some (.mutD (.p D)),sv (ofR R),sv (.str (af true)),some (.own (z.map bm)),sv (.str (af false)),U,Y,Z]:=dB (cJ (xs:=[]) rfl) (bR (v:=.str (af false)) rfl (oC (AD (ac rfl (C.hol R g))) e (qT rfl)));exact Kj (sE _) k
def x_tupOf(h:evX cal x W=some (.lst xs,l)):evX cal (.tupOf x) W=some (.tup xs,l):=by simp_all [evX]
def x_compS(h:(evs cal [src] W).bind (bq .seq)=some xs)(z:xs.length<=10000)(h2:dj cal js k e f mask es xs W=some (ws,l)):evX cal (.compS src js k e f mask es) W=some (.lst ws,l):=by
 obtain⟨vs,D,J⟩:=ft.mp h;rw[evX,D,bind_some,J,bind_some,if_pos z,h2];rfl
theorem Du (cal:Cal) {j:Nat} (G:jW cal j) (J U Y Z a6:Option MV):∀(D:List (LL)) (ns:List Int),(∀Q∈D,SmR Q)->∃(z:List (LL×PV)) (a0:List Int),dj cal [0,4] .pair (.var 0) 54 [true,false,false,false,false] [.bor 1,.bor 0,(cs "weaver"),(cs "moth"),.bor 2] (D.map ofR) [some (.mutD (.p ns)),J,U,Y,sv (.int j),Z,a6]=some (z.map am,[some (.mutD (.p a0)),J,U,Y,sv (.int j),Z,a6])/\z.map (·.1)=D/\∀r∈z,WP (7+j) r.2
 | [],ns,_=>⟨[],ns,rfl,rfl,λr hr=>by cases hr⟩
 |Q::D,ns,hD=>by
  obtain⟨v,n1,e,hv⟩:=G ns Q false (hD Q (.head _));obtain⟨z,n2,e2,h1,h2⟩:=Du cal G J U Y Z a6 D n1 λq hq=>hD q (.tail _ hq)
  refine⟨(Q,v)::z,n2,?_,by rw[JX,h1],λr hr=>?_⟩
  .rw[JX,dj,show evM cal [true,false,false,false,false] [.bor 1,.bor 0,(cs "weaver"),(cs "moth"),.bor 2] (k_ [0,4] [some (.mutD (.p ns)),J,U,Y,sv (.int j),Z,a6] (ofR Q))=some [.mutD (.p ns),.val (ofR Q),.val (.str (af false)),.val (.str (af true)),.val (.int j)]from rfl,show ev cal (.var 0) (k_ [0,4] [some (.mutD (.p ns)),J,U,Y,sv (.int j),Z,a6] (ofR Q))=some (ofR Q)from rfl,bind_some,bind_some,e];show(Option.bind (some (.tup [ofR Q,v])) λr=>(Option.bind (some [some (.mutD (.p n1)),J,U,Y,sv (.int j),Z,a6]) λl=>(dj cal _ _ _ _ _ _ _ l).map λp=>(r::p.1,p.2)))=_;rw[bind_some,bind_some,e2]
   rfl
  .rcases tf.mp hr with rfl|hr
   .exact hv
   .exact h2 r hr
def AO{cal:Cal}(C:kP cal){R:LL}(g:SmR R){a:ME}{W:Rho}{p:Bool}(z:ev cal a W=some (.bl p))(J:ev cal (.bor 1) W=some (ofR R))(D:evA cal [.bor 1] W=some [.val (ofR R)]):∃b,ev cal (.and a (.cmp .lt (.blt .len [(.call 41 [.bor 1])]) (ci 5))) W=some (.bl b)/\(b=true->(ab R).length<=4):=by
 refine⟨p&&decide ((((ab R).map PV.int).length:Int)<5),fE z λ_=>(c8 (aN (ac D (C.hol R g))) (cG _ _ _)).trans rfl,λh=>?_⟩;have:=Kh (gQ.mp h).2;rw[nA]at this;omega
def AQ(cal:Cal)(f j:Nat):Prop:=∀ns R (t:Bool) (p:Int),0<=p->SmR R->∃v z,cal (f+2000) [.mutD (.p ns),.val (ofR R),.val (.str (af t)),.val (.int p),.val (.int j)]=some (.tup [v,.dI (.p z)])/\WP (8+j) v
def xt(n j:Nat)(C:kP (aa defs n))(G:jW (aa defs n) j)(K:∀ns R,SmR R->∃v z,aa defs n (52+2000) [.mutD (.p ns),.val (ofR R),.val (.str (af true))]=some (.tup [v,.dI (.p z)])/\WP 8 v):AQ (aa defs (n+1)) 53 j:=λns R t p hp g=>by
 suffices h:∃v z x1 x2 x3 x4 W,exs (aa defs n) gE.body [some (.mutD (.p ns)),sv (ofR R),sv (.str (af t)),sv (.int p),sv (.int j),none,none]=.retM v (some (.mutD (.p z))::x1::x2::x3::x4::W)/\WP (8+j) v by
  obtain⟨v,z,x1,x2,x3,x4,W,e,hv⟩:=h;exact⟨v,z,by rw[ji (d:=gE) (by decide) rfl rfl];exact Kj (sE _) e,hv⟩
 cases t with
 |true =>
  obtain⟨r,rk,U⟩:=C.reply R p g;obtain⟨v,Z,e2,hv⟩:=G ns (bhd true R r) false (qX g r);exact⟨_,_,_,_,_,_,_,oA rfl (bR (ac rfl U) (ou (qV (jm rfl (jm rfl (kO (xc5 (eJ (ac rfl (C.deed R true r g)) rfl) rfl rfl rfl e2))))))),(WP.one true r rk hv).le (by omega)⟩
 |false =>
  obtain⟨b,hb,_⟩:=AO (cal:=aa defs n) C g (a:=.cmp .eq (.bin .mod (.bor 3) (ci 2)) (ci 0)) (W:=[some (.mutD (.p ns)),sv (ofR R),sv (.str (af false)),sv (.int p),sv (.int j),none,none]) (i7 rfl (by decide)) rfl rfl;cases b with
  |true =>
   obtain⟨v,Z,U,hv⟩:=K ns R g;exact⟨_,_,_,_,_,_,_,xq rfl (oA hb (ou (xc3 rfl rfl U))),hv.le (by omega)⟩
  |false =>
   obtain⟨D,U,h1,h2,h3,h4⟩:=C.split R g;obtain⟨J,Z,e2,Y,h6⟩:=Du (aa defs n) G (sv (ofR R)) (sv (.str (af false))) (sv (.int p)) none (sv (.lst (D.map ofR))) D ns h4;have hl:J.length=D.length:=by rw[<- Y,nA]
   refine⟨.tup [.str "parts",.tup (J.map am)],Z,_,_,_,_,_,xq rfl (xq hb (bR (ac rfl U) (ou (qV (jm rfl (kO (x_tupOf (x_compS (xs:=D.map ofR) rfl (by rw[nA];omega) e2)))))))),(WP.parts J (by omega) (by rw[Y];omega) (by rw[Y];omega) (λr hr=>?_) h6).le (by omega)⟩;have:=h4 r.1 (Y▸Ko hr);exact⟨this.1,r4 this.2.2 (by decide)⟩
def sW(n j:Nat)(C:kP (aa defs n))(M:∀i,j=i+1->AQ (aa defs n) 53 i):jW (aa defs (n+1)) j:=λns R t g=>by
 suffices z:∃v D J U Y Z W,exs (aa defs n) gh.body [some (.mutD (.p ns)),sv (ofR R),sv (.str (af t)),sv (.str (af true)),sv (.int j),none,none]=.retM v (some (.mutD (.p D))::J::U::Y::Z::W)/\WP (7+j) v by
  obtain⟨v,D,J,U,Y,Z,W,e,hv⟩:=z;exact⟨v,D,by rw[ji (d:=gh) (by decide) rfl rfl];exact Kj (sE _) e,hv⟩
 obtain⟨p,n1,hp,e0⟩:=C.next ns;have bT:∀x6:Option MV,∃v D J U Y Z W,exs (aa defs n) (gh.body.drop 2) [some (.mutD (.p n1)),sv (ofR R),sv (.str (af t)),sv (.str (af true)),sv (.int j),sv (.int p),x6]=.retM v (some (.mutD (.p D))::J::U::Y::Z::W)/\WP (7+j) v:=λx6=>by
  have c1:ev (aa defs n) (.or (.cmp .eq (.bor 4) (ci 0)) (.cmp .eq (.bin .mod (.bin .fdiv (.bor 5) (ci 2)) (ci 8)) (ci 0))) [some (.mutD (.p n1)),sv (ofR R),sv (.str (af t)),sv (.str (af true)),sv (.int j),sv (.int p),x6]=some (.bl (((j:Int)==0)||(p / 2 % 8==0))):=IC rfl λ_=>i7 rfl (by decide)
  by_cases q1:(((j:Int)==0)||(p / 2 % 8==0))=true
  .rw[q1]at c1;obtain⟨v,hv,e1⟩:=C.plain R t (p / 16) g;exact⟨_,_,_,_,_,_,_,oA c1 (qT (ac rfl e1)),.leaf hv⟩
  .rw[Nn]at q1;rw[q1]at c1;obtain⟨i,rfl⟩:∃i,j=i+1:=⟨j-1,by
    have:=(Bool.or_eq_false_iff.mp q1).1;have:(j:Int)≠0:=by simpa using this
    omega⟩
   have hd:ev (aa defs n) (.bin .sub (.bor 4) (ci 1)) [some (.mutD (.p n1)),sv (ofR R),sv (.str (af t)),sv (.str (af true)),sv (.int (i+1:Nat)),sv (.int p),x6]=some (.int i):=Kj (λx=>some (PV.int x)) (show((i+1:Nat):Int)-1=i by omega);have a4:(0:Int)<=p / 16:=Int.ediv_nonneg hp (by decide);obtain⟨v,n2,e1,hv⟩:=M i rfl n1 R t (p / 16) a4 g;exact⟨_,_,_,_,_,_,_,xq c1 (oA rfl (ou (xc5 rfl rfl rfl (v3 (λi z=>by cases z) hd) e1))),hv.le (by omega)⟩
 obtain⟨b,hb,hf⟩:=AO (cal:=aa defs n) C g (a:=.cmp .eq (.bin .mod (.bor 5) (ci 2)) (ci 0)) (W:=[some (.mutD (.p n1)),sv (ofR R),sv (.str (af t)),sv (.str (af true)),sv (.int j),sv (.int p),none]) (i7 rfl (by decide)) rfl rfl;cases b with
 |false =>
  obtain⟨v,D,J,U,Y,Z,W,e,hv⟩:=bT none;exact⟨v,D,J,U,Y,Z,W,qU (xc1 e0) (xq hb e),hv⟩
 |true =>
  obtain⟨w,v,ok,e1⟩:=C.tried R t g (hf rfl);by_cases q:w=true
  .subst q;refine⟨_,_,_,_,_,_,_,qU (xc1 e0) (oA hb (bR (ac rfl e1) (oA rfl (qT rfl)))),ok.wp.le (by omega)⟩
  .obtain⟨v',D,J,U,Y,Z,W,e,hv⟩:=bT (sv (.tup [.str (af w),v]));exact⟨v',D,J,U,Y,Z,W,qU (xc1 e0) (dB (l:=[some (.mutD (.p n1)),sv (ofR R),sv (.str (af t)),sv (.str (af true)),sv (.int j),sv (.int p),sv (.tup [.str (af w),v])]) (by refine(aL hb).trans ?_;exact bR (ac rfl e1) (Az (by cases w<;>first|rfl|exact absurd rfl q) rfl)) e),hv⟩
theorem qZ:∀(j n:Nat),jW (aa defs (n+3*j+8)) j
 |0,n=>sW (n+7) 0 (oE (n+1)) λi h=>by cases h
 |j+1,n=>by
  have k:∀ns R,SmR R->∃v z,aa defs (n+3*j+9) (52+2000) [.mutD (.p ns),.val (ofR R),.val (.str (af true))]=some (.tup [v,.dI (.p z)])/\WP 8 v:=λns R g=>AN (n+3*j+8) (oE (n+3*j+2)) (qZ 0 (n+3*j)) ns R g
  exact sW (n+3*j+10) (j+1) (oE (n+3*j+4)) λi h=>by
   cases h;have G:jW (aa defs (n+3*j+9)) j:=by have:=qZ j (n+1);rwa[show n+1+3*j+8=n+3*j+9 by omega]at this
   exact xt (n+3*j+9) j (oE (n+3*j+3)) G k
def jb(R)(h):0<=aC R h:=by
 unfold aC
 induction R with
 |nil=>simp
 |cons s R ih =>
  rw[JX,sum_cons];have:0<=(if h∈s then wgt s else 0):=by
   split
   .exact Int.le_of_lt (Int.pow_pos (by decide))
   .exact Md _
  omega
def ie{R:LL} :0<aC R h ↔ ∃s∈R,h∈s:=by
 unfold aC
 induction R with
 |nil=>simp
 |cons s R ih =>
  rw[JX,sum_cons];have z:0<=(R.map λs=>if h∈s then wgt s else 0).sum:=jb R h;have wp:0<wgt s:=Int.pow_pos (by decide);by_cases hs:h∈s
  .rw[if_pos hs];exact⟨λ_=>⟨s,.head _,hs⟩,λ_=>by omega⟩
  .simp_all
noncomputable def q8:Option Int->PV
 |none=>.non
 |some i=>.int i
noncomputable def bE(f:Int->Int)(b:Option Int)(h:Int):Option Int:=match b with
 |none=>some h
 |some c=>if f c<f h then some h else some c
noncomputable def dE(f:Int->Int):List Int:=((range 60).map λ(k:Nat)=>(k:Int)).filter λh=>decide (0<f h)
def ig(f):(dE f).Pairwise (· < ·):=by
 refine Pairwise.filter _ (pairwise_map.mpr (pairwise_lt_range.imp λ{a b} q=>by omega))
def sX{R:LL}(g:∀s∈R,bM s)(h:kL d (λk=>∃s∈R,k∈s)):sortI (d.map (·.1))=dE (aC R):=by
 have p:(d.map (·.1)).Perm (dE (aC R)):=by
  refine(KW h.1 (dv (ig _))).mpr λk=>?_
  rw[h.2 k];unfold dE;rw[J2,K3,ie];refine⟨λq=>⟨?_,q⟩,λq=>q.2⟩;obtain⟨s,hs,z⟩:=q;have:=(g s hs).2 k z;exact mem_map.mpr ⟨k.toNat,Lf.mpr (by omega),by omega⟩
 rw[sortI_of_perm p,sortI_id ((ig _).imp λ{a b} q=>by omega)]
theorem jB(cal)(a)(d)(f)(hd:jV d f):∀(xs:List Int) b y,(∀x∈xs,bQ d x≠none)->(∀c,b=some c->bQ d c≠none) ->
  ∃y',au (λx l=>exs cal cI (put l 3 (.val x))) (xs.map .int) [a,sv (.dI (.k d)),sv (q8 b),y]=.next [a,sv (.dI (.k d)),sv (q8 (xs.foldl (bE f) b)),y']
 | [],b,y,_,_=>⟨y,rfl⟩
 |x::xs,b,y,hx,J=>by
  have U:∀z,bQ d z≠none->bQ d z=some (.int (f z)):=λz q=>by
   cases e:bQ d z with
   |none=>exact absurd e q
   |some s=>rw[hd.2 z s e]
  have Y:=U x (hx x (.head _));rw[JX,au];have e:exs cal cI (put [a,sv (.dI (.k d)),sv (q8 b),y] 3 (.val (.int x)))=.next [a,sv (.dI (.k d)),sv (q8 (bE f b x)),sv (.int x)]:=by
   cases b with
   |none=>simp[cI,exs,ex,ev,evB,q8,bE,jx]
   |some c =>
    have Z:=U c (J c rfl);by_cases q:f c<f x
    .simp[cI,exs,ex,ev,evB,q8,bE,jx,Y,Z,q]
    .simp[cI,exs,ex,ev,evB,q8,bE,jx,Y,Z,q]
  rw[e];refine jB cal a d f hd xs (bE f b x) _ (λz hz=>hx z (.tail _ hz)) λc hc=>?_
  cases b with
  |none=>cases hc;exact hx x (.head _)
  |some D =>
   have hc:(if f D<f x then some x else some D)=some c:=hc;by_cases q:f D<f x
   .rw[if_pos q]at hc;cases hc;exact hx x (.head _)
   .rw[if_neg q]at hc;cases hc;exact J _ rfl
def uU(n)(R)(g:aB R):aa defs (n+3) 23 [.val (ofR R)]=some (q8 ((dE (aC R)).foldl (bE (aC R)) none)):=by
 obtain⟨d,e,hd,Y⟩:=CK n R g;have D:=sX g.1 Y;have Z:d.length<64:=by
  have:d.length=(dE (aC R)).length:=by rw[<- D,sortI_len,nA]
  rw[this];have ao:(dE (aC R)).length<=60:=qJ 60 _ (dv (ig _)) λx hx=>by
   unfold dE at hx;obtain⟨k,D,rfl⟩:=mem_map.mp (J2.mp hx).1;have:=Lf.mp D;omega
  omega
 rw[ae (d:=nY) rfl rfl];have J:∀x∈dE (aC R),bQ d x≠none:=λx hx z=>by
  rw[<- D,g8]at hx;exact Ao.mp z hx
 obtain⟨y,U⟩:=jB (aa defs (n+2)) (sv (ofR R)) d (aC R) hd (dE (aC R)) none none J (λc z=>by cases z);rw[show q8 none=.non from rfl]at U;have hs:(evs (aa defs (n+2)) [.blt .sortedKeys [.bor 1]] [sv (ofR R),sv (.dI (.k d)),sv .non,none]).bind (bq .seq)=some ((dE (aC R)).map .int):=by
  simp[evs,ev,Z,D]
 show bf (exs (aa defs (n+2)) (_::_::_::[_]) [sv (ofR R),none,none,none])=_;simp only[ar];rw[iD (ac (vs:=[.val (ofR R)]) (by simp[evA]) e),bz];simp only[cq,cv];rw[iD (v:=.non) (by simp[ev]),bz];simp only[cq,cv];rw[dX hs,show ∀W,bG [.blt .sortedKeys [.bor 1]] W=W from λ_=>rfl,U,fg,bz];simp[exs,ex,ev,aP]
theorem pR(f):∀xs b,(xs.foldl (bE f) b=none/\xs=[]/\b=none)\/∃r,xs.foldl (bE f) b=some r/\(r∈xs\/b=some r)/\(∀x∈xs,f x<=f r)/\∀c,b=some c->f c<=f r
 | [],none=>.inl ⟨rfl,rfl,rfl⟩
 | [],some c=>.inr ⟨c,rfl,.inr rfl,λx hx=>(by cases hx),λd e=>by cases e;exact Md _⟩
 |x::xs,b=>by
  rw[foldl_cons];rcases pR f xs (bE f b x)with⟨_,_,h⟩|⟨r,h1,h2,J,z⟩
  .cases b with
   |none=>cases h
   |some c =>
    have h:(if f c<f x then some x else some c)=none:=h;split at h<;>cases h
  .refine .inr ⟨r,h1,?_,?_,?_⟩
   .rcases h2 with h2|h2
    .exact .inl (.tail _ h2)
    .cases b with
     |none=>cases h2;exact .inl (.head _)
     |some c =>
      have h2:(if f c<f x then some x else some c)=some r:=h2;split at h2
      .cases h2;exact .inl (.head _)
      .exact .inr h2
   .intro y D;rcases tf.mp D with rfl|D
    .cases b with
     |none=>exact z _ rfl
     |some c =>
      by_cases q:f c<f y
      .exact z y (if_pos q)
      .have:=z c (if_neg q);omega
    .exact J y D
   .intro c e;subst e;by_cases q:f c<f x
    .have:=z x (if_pos q);omega
    .exact z c (if_neg q)
def q_{R:LL}(g:∀s∈R,bM s):dE (aC R)=ab R:=by
 have p:(ab R).Perm (dE (aC R)):=by
  refine(KW (dv (fG R)) (dv (ig _))).mpr λk=>?_
  unfold dE;rw[av,J2,K3,ie];refine⟨λq=>⟨?_,q⟩,λq=>q.2⟩;obtain⟨s,hs,z⟩:=q;have:=(g s hs).2 k z;exact mem_map.mpr ⟨k.toNat,Lf.mpr (by omega),by omega⟩
 rw[<- sortI_id ((ig (aC R)).imp λ{a b} q=>by omega),<- sortI_of_perm p,sortI_id ((fG R).imp λ{a b} q=>by omega)]
theorem jX(f):∀(hs:List Int) r,(∀h∈hs,0<f h)->(hs.foldl (iH f) (r,r.elim 0 f)).1=hs.foldl (bE f) r
 | [],_,_=>rfl
 |h::hs,r,z=>by
  rw[foldl_cons,foldl_cons,<- jX f hs (bE f r h) λx hx=>z x (.tail _ hx)];have:iH f (r,r.elim 0 f) h=(bE f r h,(bE f r h).elim 0 f):=by
   cases r with
   |none=>exact if_pos (z h (.head _))
   |some c =>
    show(if f c<f h then(some h,f h)else(some c,f c))=(if f c<f h then some h else some c,(if f c<f h then some h else some c).elim 0 f);split<;>rfl
  rw[this]
def wc(n)(R)(g:aB R):aa defs (n+3) 23 [.val (ofR R)]=some (bu (eM R)):=by
 rw[uU n R g,q_ g.1];have:eM R=(ab R).foldl (bE _) none:=jX _ _ none λh z=>ie.mpr (av.mp z)
 rw[this];cases (ab R).foldl (bE _) none<;>rfl
def xu(R):(eM R=none/\ab R=[])\/∃r,eM R=some r/\r∈ab R/\∀x,aC R x<=aC R r:=by
 have e:=jX (aC R) (ab R) none λh D=>ie.mpr (av.mp D)
 rcases pR (aC R) _ none with⟨h1,h2,_⟩|⟨r,h1,h2,J,_⟩
 .exact .inl ⟨e.trans h1,h2⟩
 .refine .inr ⟨r,e.trans h1,h2.resolve_right (λz=>by cases z),λx=>?_⟩;by_cases q:x∈ab R
  .exact J x q
  .have:=jb R r;have:¬ 0<aC R x:=λz=>q (av.mpr (ie.mp z))
   omega
def AR:∀{a b:List Int},a.Perm b->a.sum=b.sum:=by
 intro a b p
 induction p with
 |nil=>rfl
 |cons x _ ih=>rw[sum_cons,sum_cons,ih]
 |swap x y l=>simp[sum_cons];omega
 |trans _ _ h1 h2=>rw[h1,h2]
def ra(s):0<wgt s:=Int.pow_pos (by decide)
def wd(hs:h∉s):drp h s=s:=
 L5.mpr λx hx=>by
  have:¬ x=h:=λe=>hs (e▸hx)
  simp[this]
theorem we :∀{s},s.Nodup->h∈s->(drp h s).length+1=s.length
 |x::s,D,J=>by
  obtain⟨h1,h2⟩:=Ku.mp D;by_cases e:x=h
  .subst e;unfold drp;rw[LM (by simp)];have:=wd h1;unfold drp at this;rw[this,length_cons]
  .unfold drp;rw[filter_cons_of_pos (by simpa using e),length_cons,length_cons];have:=we h2 ((tf.mp J).resolve_left λz=>e z.symm);unfold drp at this;omega
def CW(g:bM s)(z:h∈s):wgt (drp h s)=wgt s+wgt s:=by
 have h1:=we (dv g.1) z;have h2:=aJ g;unfold wgt;rw[show 60-(drp h s).length=(60-s.length)+1 by omega,Int.pow_succ];omega
def sY{R:LL}(g:∀s∈R,bM s)(h):((b6 h R).map wgt).sum=(R.map wgt).sum+aC R h:=by
 unfold b6 aC;rw[AR ((sortT_perm _).map wgt),J4]
 induction R with
 |nil=>rfl
 |cons s R ih =>
  rw[JX,sum_cons,JX,sum_cons,JX,sum_cons,ih λt D=>g t (.tail _ D)];have:wgt (drp h s)=wgt s+if h∈s then wgt s else 0:=by
   by_cases z:h∈s
   .rw[if_pos z,CW (g s (.head _)) z]
   .rw[if_neg z,wd z,Int.add_zero]
  show wgt (drp h s)+_=_;omega
def sZ(R)(h):((hZ h R).map wgt).sum+aC R h=(R.map wgt).sum:=by
 unfold hZ aC
 induction R with
 |nil=>rfl
 |cons s R ih =>
  rw[JX,sum_cons,JX,sum_cons]
  grind
def xv(R)(h k):aC (hZ h R) k<=aC R k:=by
 unfold hZ aC
 induction R with
 |nil=>exact Md _
 |cons s R ih =>
  rw[JX,sum_cons];have z:0<=(if k∈s then wgt s else 0):=by
   have:=ra s;split<;>omega
  by_cases D:h∈s
  .grind
  .simp_all
def oU(R:LL):0<=(R.map wgt).sum:=by
 induction R with
 |nil=>exact Md _
 |cons s R ih =>
  rw[JX,sum_cons];have:=ra s;omega
def uV{R:LL}(h:s∈R):wgt s<=(R.map wgt).sum:=by
 induction R with
 |nil=>cases h
 |cons t R ih =>
  rw[JX,sum_cons];have:=ra t;have:=oU R
  grind
def AS{R:LL}(h:(R.map wgt).sum<1152921504606846976):[]∉R:=λz=>by
 have:=uV z;have e:wgt []=1152921504606846976:=rfl;omega
def wf{R:LL}{M2:Int}(h:(R.map wgt).sum<1152921504606846976)(D:Top (bhd true R (eM R)) M2):((bhd true R (eM R)).map wgt).sum+M2<1152921504606846976:=by
 rcases xu R with⟨e,U⟩|⟨r,e,Z,Y⟩
 .rw[e]at D ⊢;show(R.map wgt).sum+M2<_;rcases D.2.1 with z|⟨k,J,_⟩
  .omega
  .have:=av.mpr J;rw[show ab (bhd true R none)=ab R from rfl,U]at this;cases this
 .rw[e]at D ⊢;have wb:=sZ R r;show((hZ r R).map wgt).sum+M2<_;rcases D.2.1 with z|⟨k,J,z⟩
  .have:=jb R r;omega
  .have:=xv R r k;have:aC (hZ r R) k=M2:=z;have:=Y k;omega
def GAt(v:PV)(R:LL)(t h:Bool)(N:Nat)(b:Bool):Prop:=aa defs N 31 [.val v,.val (ofR R),.val (.str (af t)),.val (.str (af h))]=some (.bl b)
def ID{v:PV}(hv:sL v)(R:LL)(g:aB R)(t:Bool):∃b,∀n,GAt v R t true (n+6) b:=by
 rcases hv with rfl|rfl|rfl|⟨P,h1,h2,rfl⟩
 .exact⟨_,λn=>n_ (n+3) R t⟩
 .exact⟨_,λn=>qQ (n+3) R t⟩
 .obtain⟨M,z,_⟩:=cw 0 R g;exact⟨_,λn=>i_ n R g z t⟩
 .exact⟨_,λn=>mI (n+1) R P h1 h2 g t⟩
def xw{d:Nat}{v:PV}(p:WP d v):∀(R:LL),aB R->R.flatten.length<=4000->∀t:Bool,∃b:Bool,∀N,3*d+8<=N->GAt v R t true N b:=by
 induction p with
 | @leaf d v hv =>
  intro R g J t;obtain⟨b,a⟩:=ID hv R g t;refine⟨b,λN z=>?_⟩;obtain⟨n,rfl⟩:=upN 6 z;exact a n
 | @one d v k r hk hv ih =>
  intro R g J t;cases k with
  |true =>
   obtain⟨b,a⟩:=ih (bhd true R r) (cU g r) (r4 (d_ true R r) J) false;refine⟨t&&b,λN z=>?_⟩;obtain⟨n,rfl⟩:=upN 6 z;exact uN g r t (a (n+3) (by omega))
  |false =>
   refine⟨false,λN z=>?_⟩;obtain⟨n,rfl⟩:=upN 3 z;exact uO n _ _ _ t
 | @cases d rows U hq hr ih =>
  intro R g J t;cases t with
  |true =>
   refine⟨false,λN z=>?_⟩;obtain⟨n,rfl⟩:=upN 3 z;exact ol n _ _
  |false =>
   obtain⟨b,Y⟩:=sS λr D=>ih r D (bh2 true R r.1 r.2.1) (oh g _ _) (r4 (oq true R _ _) J) false
   refine⟨!decide ([]∈R)&&(decide (rows.map (·.1)=ab R)&&rows.all b),λN z=>?_⟩;obtain⟨n,rfl⟩:=upN 7 z;exact qS g J U λr D=>Y r D (n+4) (by omega)
 | @parts d rows U hs Z hg hr ih =>
  intro R g J t;obtain⟨b,Y⟩:=sS λr D=>ih r D r.1 (hg r D).1 (hg r D).2 false
  refine⟨!t&&(fK (rows.map (·.1)) R&&rows.all b),λN z=>?_⟩;obtain⟨n,rfl⟩:=upN 7 z;exact mK g J U hs Z hg t λr D=>Y r D (n+4) (by omega)
def dL(R):below R R=true:=eA λs hs=>⟨s,hs,aV.mpr λ_ z=>z⟩
def l0{A B C:LL}(h:below A B=true)(h':below B C=true):below A C=true:=eA λs hs=>by
 obtain⟨t,z,q⟩:=dD h s hs;obtain⟨u,D,J⟩:=dD h' t z;exact⟨u,D,aV.mpr λx hx=>aV.mp q x (aV.mp J x hx)⟩
def pS(k)(h:below A B=true)(r):below (bhd k A r) (bhd k B r)=true:=by
 cases r with
 |none=>exact h
 |some x =>
  refine eA λs hs=>?_
  cases k with
  |true =>
   obtain⟨h1,h2⟩:=J2.mp hs;obtain⟨t,D,q⟩:=dD h s h1;exact⟨t,J2.mpr ⟨D,by simp at h2 ⊢;exact λz=>h2 (aV.mp q x z)⟩,q⟩
  |false =>
   obtain⟨J,h1,rfl⟩:=mem_map.mp (bo.mp hs);obtain⟨t,D,q⟩:=dD h J h1;refine⟨drp x t,bo.mpr (mem_map.mpr ⟨t,D,rfl⟩),aV.mpr λy U=>?_⟩;obtain⟨Y,Z⟩:=J2.mp U;exact J2.mpr ⟨aV.mp q y Y,Z⟩
def tru{x:Option PV}(h:x=some (.bl a))(h':x=some (.bl b)):a=b:=by simp_all
theorem rb :∀{R:LL},(∀t∈R,t.length<=m)->R.flatten.length<=R.length*m
 | [],_=>by simp
 |t::R,h=>by
  have h1:=h t (.head _);have h2:=rb (R:=R) λt z=>h t (.tail _ z)
  rw[flatten_cons,tr,length_cons,Nat.succ_mul];omega
def StP(x:LL×PV):Prop:=aB x.1/\x.1.flatten.length<=4000/\WP 10 x.2
def StN(P:Int->Prop)(x:LL×PV):Prop:=StP x/\∀t∈x.1,∀k∈t,P k
def iE{α:Type}{P:α->Prop}{xs:List α}{x:α}(h:∀y∈xs,P y)(hx:P x):∀y∈xs++[x],P y:=λy D=>by
 rcases J5.mp D with z|z
 .exact h y z
 .rw[J9.mp z];exact hx
noncomputable abbrev fS(R:LL)(t:Bool)(Z a3 a4 a5 a6 a7 a9 z D:Option MV)(fs Y:List (LL×PV))(J U:Option MV):Rho:=[Z,sv (.str (af t)),sv (.str (af true)),a3,a4,a5,a6,a7,sv (ofR R),a9,some (.own (fs.map am)),some (.own (Y.map am)),sv (.lst ((Y.map (·.1)).flatten.map ofS)),J,U,z,D]
def s_{P:Int->Prop}(cal:Cal)(C:kP cal)(R:LL)(g:SmR R)(gP:∀t∈R,∀k∈t,P k)(t:Bool)(a0 a3 a4 a5 a6 a7 a9 J U:Option MV)(Q:LL)(Z:SmR Q)(b5:∀t∈Q,t∈R)(fs D:List (LL×PV))(cd ck:Option MV)(hf:fs.length<=100)(ok:∀x∈fs,StN P x)(ao:∀x∈D,SmR x.1/\WP 5 x.2)(hr:D.length<=100)(hh:(D.map (·.1)).flatten.length<=100) :
  ∃(fs' Y:List (LL×PV)) (cl:Option MV),exs cal dy (put (fS R t a0 a3 a4 a5 a6 a7 a9 J U fs D cd ck) 13 (.val (ofR Q)))=.next (fS R t a0 a3 a4 a5 a6 a7 a9 J U fs' Y (sv (ofR Q)) cl)/\fs'.length<=fs.length+2/\(∀x∈fs',StN P x)/\(∀x∈Y,SmR x.1/\WP 5 x.2)/\(Y=D\/∃v,Y=D++[(Q,v)]):=by
 have hc:∀W:Rho,evA cal [.bor 13] W=some [.val (ofR Q)]->ev cal (.cmp .lt (.blt .len [(.call 41 [.bor 13])]) (ci 5)) W=some (.bl (decide ((((ab Q).map PV.int).length:Int)<5))):=λW hA=>(c8 (aN (ac hA (C.hol Q Z))) (cG _ _ _)).trans rfl
 by_cases q:(((ab Q).map PV.int).length:Int)<5
 .rw[J3 q]at hc;rw[nA]at q;obtain⟨w,v,cu,e1⟩:=C.tried Q t Z (by omega);obtain⟨w2,v2,cC,e2⟩:=C.tried Q false Z (by omega);have p1:WP 5 v:=cu.wp;have p2:WP 5 v2:=cC.wp;have sQ:StN P (Q,v):=⟨⟨Z.1,r4 Z.2.2 (by decide),p1.le (by decide)⟩,λt ht=>gP t (b5 t ht)⟩;have b2:∀xs:List (LL×PV),xs.length<=101->(xs.map am).length<10000:=λxs hx=>by rw[nA];omega
  have s2:ex cal (.ite (.and (.cmp .eq (ix 14 0) (.bor 2)) (.cmp .eq (.bor 2) (cs "weaver"))) [.never] []) (fS R t a0 a3 a4 a5 a6 a7 a9 J U fs D (sv (ofR Q)) (sv (.tup [.str (af w),v])))=.next (fS R t a0 a3 a4 a5 a6 a7 a9 J U fs D (sv (ofR Q)) (sv (.tup [.str (af w),v]))):=(aL (p:=false) (by cases w<;>rfl)).trans rfl;have s3:∃f2:List (LL×PV),f2.length<=fs.length+2/\(∀x∈f2,StN P x)/\ex cal (.ite (.cmp .eq (ix 14 0) (.bor 2)) [.append 10 (.tup [.var 13,(ix 14 1)])] []) (fS R t a0 a3 a4 a5 a6 a7 a9 J U fs D (sv (ofR Q)) (sv (.tup [.str (af w),v])))=.next (fS R t a0 a3 a4 a5 a6 a7 a9 J U f2 D (sv (ofR Q)) (sv (.tup [.str (af w),v]))):=by
   by_cases z:w=true
   .subst z;refine⟨fs++[(Q,v)],by rw[tr,length_singleton];omega,iE ok sQ,(aL (p:=true) rfl).trans ?_⟩;unfold fS;rw[Kd];exact bX (i9 rfl rfl (b2 fs (by omega)))
   .exact⟨fs,by omega,ok,(aL (p:=false) (by cases w<;>first|rfl|exact absurd rfl z)).trans rfl⟩
  obtain⟨f2,l2,k2,s3⟩:=s3;have ci:∀W:Rho,evA cal [.bor 13,cs "weaver"] W=some [.val (ofR Q),.val (.str (af false))]->∀i:Int,ev cal (.idx (.call 45 [.bor 13,(cs "weaver")]) (ci i)) W=gW (.tup [.str (af w2),v2]) (.int i):=λW hA i=>fF (ac hA e2) rfl
  cases w2 with
  |false =>
   refine⟨f2,D,_,bX ((aL (hc _ rfl)).trans (bR (ac rfl e1) (dB s2 (dB s3 (bX ((aL (p:=false) ((c8 ((ci _ rfl 0).trans rfl) rfl).trans rfl)).trans rfl)))))),l2,k2,ao,.inl rfl⟩
  |true =>
   refine⟨f2,D++[(Q,v2)],sv (.tup [.str (af w),v]),bX ((aL (hc _ rfl)).trans (bR (ac rfl e1) (dB s2 (dB s3 (bX ((aL (p:=true) ((c8 ((ci _ rfl 0).trans rfl) rfl).trans rfl)).trans ?_)))))),l2,k2,iE ao ⟨Z,p2⟩,.inr ⟨v2,rfl⟩⟩;unfold fS;rw[Kd,Kd,LA,Kd];refine dB (i9 rfl (dC (aS rfl (aS ((ci _ rfl 1).trans rfl) rfl))) (b2 D (by omega))) (bR ((cy rfl rfl).trans ?_) rfl);show(if _ then _ else _)=_;rw[if_pos (by have:=Z.2.1;simp only[nA];omega)];simp
 .rw[Kc q]at hc;exact⟨fs,D,_,bX ((aL (hc _ rfl)).trans rfl),by omega,ok,ao,.inl rfl⟩
def F6(h:evXs cal xs W=some (vs,l))(z:vs.length<=10000):ex cal (.ownX i xs) W=.next (put l i (.own vs)):=by
 rw[ex,h];exact if_pos z
theorem l4{P:Int->Prop}(cal:Cal)(C:kP cal)(R:LL)(g:SmR R)(gP:∀t∈R,∀k∈t,P k)(t:Bool)(a0 a3 a4 a5 a6 a7 a9 Y Z:Option MV):∀(D:List (LL)) (fs U:List (LL×PV)) (z J:Option MV),(∀Q∈D,SmR Q)->(∀Q∈D,∀t∈Q,t∈R)->fs.length+2*D.length<=100->(∀x∈fs,StN P x)->(∀x∈U,SmR x.1/\WP 5 x.2)->U.length+D.length<=50->(U.map (·.1)).flatten.length+D.flatten.length<=50 ->
  ∃(fs' ao:List (LL×PV)) (b5 aO:Option MV),au (λx l=>exs cal dy (put l 13 (.val x))) (D.map ofR) (fS R t a0 a3 a4 a5 a6 a7 a9 Y Z fs U z J)=.next (fS R t a0 a3 a4 a5 a6 a7 a9 Y Z fs' ao b5 aO)/\fs'.length<=100/\(∀x∈fs',StN P x)/\(∀x∈ao,SmR x.1/\WP 5 x.2)/\(ao.map (·.1)).Sublist (U.map (·.1)++D)
 | [],fs,U,z,J,_,_,hf,ok,a1,_,_=>⟨fs,U,z,J,rfl,by simpa using hf,ok,a1,by simp⟩
 |Q::D,fs,U,z,J,hD,a2,hf,ok,a1,hr,hh=>by
  rw[length_cons]at hf hr;rw[flatten_cons,tr]at hh;obtain⟨f1,r1,aO,e,l1,k1,kr,q⟩:=s_ cal C R g gP t a0 a3 a4 a5 a6 a7 a9 Y Z Q (hD Q (.head _)) (a2 Q (.head _)) fs U z J (by omega) ok a1 (by omega) (by omega);have b:r1.length+D.length<=50/\(r1.map (·.1)).flatten.length+D.flatten.length<=50/\(r1.map (·.1)++D).Sublist (U.map (·.1)++Q::D):=by
   rcases q with rfl|⟨v,rfl⟩
   .exact⟨by omega,by omega,(Sublist.refl _).append (sublist_cons_self Q D)⟩
   .refine⟨by rw[tr,length_singleton];omega,?_,?_⟩
    .rw[Kd,LA,tr];simp;simp at hh;omega
    .rw[Kd,KN];exact Sublist.refl _
  obtain⟨f2,r2,cd,ck,e2,l2,k2,cl,sl⟩:=l4 cal C R g gP t a0 a3 a4 a5 a6 a7 a9 Y Z D f1 r1 (sv (ofR Q)) aO (λq hq=>hD q (.tail _ hq)) (λq hq=>a2 q (.tail _ hq)) (by omega) k1 kr b.1 b.2.1;refine⟨f2,r2,cd,ck,?_,l2,k2,cl,sl.trans b.2.2⟩;rw[JX,au,e];exact e2
def kQ{α:Type}{A B:List (List α)}(h:A.Sublist B):A.flatten.Sublist B.flatten:=by
 induction h with
 |slnil=>exact .slnil
 |cons a _ ih=>exact ih.trans (sublist_append_right _ _)
 |cons_cons a _ ih=>exact(Sublist.refl a).append ih
noncomputable abbrev f9(ns:List Int)(t:Bool)(z D room:Int)(cells:List Int)(S:List PV)(R:LL)(p:List Int)(r:Rho):Rho:=some (.brw (ns.map .int))::sv (.str (af t))::sv (.str (af true))::sv (.int z)::sv (.int D)::sv (.int room)::sv (ofL cells)::sv (.lst S)::sv (ofR R)::some (.ownD (.p p))::r
def xy(ns:List Int)(hl:ns.length<=63)(t:Bool):∃xs:List (LL×PV),aa defs 79 55 [.brw (ns.map .int),.val (.str (af t)),.val (.str (af true))]=some (.lst (xs.map am))/\xs.length<=102/\xs≠[]/\∃b c:Int,(0<=b/\b<=48)/\(0<=c/\c<=59)/\∀x∈xs,StN (λk=>(b<=k/\k<=b+11)\/k=c) x:=by
 have w0:0<=gi (cellOf ns 0) 1865811235122147685:=eZ _ _;have b0:0<=gi (cellOf ns 1) 1442695040888963407:=eZ _ _;have e1:=uR 76 ns 0 1865811235122147685 (by decide);have e2:=uR 76 ns 1 1442695040888963407 (by decide);generalize gi (cellOf ns 0) 1865811235122147685=U at w0 e1;generalize gi (cellOf ns 1) 1442695040888963407=J at b0 e2;obtain⟨room,r0,r1,e3⟩:∃room:Int,0<=room/\room<=8/\∀(a0 a1 a2:Option MV) (W:Rho),ev (aa defs 78) (.idx (.lst [(ci 3),(ci 8)]) (.bin .mod (.bor 3) (ci 2))) (a0::a1::a2::sv (.int U)::W)=some (.int room):=by
  have e:∀(a0 a1 a2:Option MV) (W:Rho),ev (aa defs 78) (.idx (.lst [(ci 3),(ci 8)]) (.bin .mod (.bor 3) (ci 2))) (a0::a1::a2::sv (.int U)::W)=gW (.lst [.int 3,.int 8]) (.int (U % 2)):=λ_ _ _ W=>fF rfl ((cy rfl rfl).trans rfl)
  obtain q|q:U % 2=0\/U % 2=1:=by omega
  .exact⟨3,by decide,by decide,λ_ _ _ W=>(e _ _ _ W).trans (by rw[q];rfl)⟩
  .exact⟨8,by decide,by decide,λ_ _ _ W=>(e _ _ _ W).trans (by rw[q];rfl)⟩
 have hc:=Ah ns (a:=2) (b:=2+room) (by decide) (by omega);have e4:∀(a1 a2 a3 a4:Option MV) (W:Rho),ev (aa defs 78) (.slice (.bor 0) (ci 2) (.bin .add (ci 2) (.bor 5))) (some (.brw (ns.map .int))::a1::a2::a3::a4::sv (.int room)::W)=some (ofL (qK ns (some 2) (some (2+room)))):=λ_ _ _ _ W=>by
  show some (PV.lst (cut (ns.map .int) (some 2) (some (2+room))))=_;rw[sH]
 generalize qK ns (some 2) (some (2+room))=cells at hc e4;have fr:cells.length<=8:=by omega
 have m1:=KU J (b:=49) (by decide);have m2:=KL J (b:=49) (by decide);have key:∀c:Int,∃s,(bM s/\s.length<=4)/\(∀k∈s,J % 49<=k/\k<=J % 49+11)/\aa defs 78 46 [.val (.int c),.val (.int (J % 49)),.val (.int (3+J / 49 % 2)),.val (.int (J / 98 % 3))]=some (ofS s):=λc=>AL 76 c _ _ _ m1 (by omega) (by omega) (by omega) (by omega) (by omega)
 obtain⟨f,hf⟩:=Mr key;have gS:∀t∈sortT (cells.map f),bM t/\t.length<=4:=λt ht=>by
  obtain⟨c,_,rfl⟩:=mem_map.mp (bo.mp ht);exact(hf c).1
 have gP:∀t∈sortT (cells.map f),∀k∈t,(J % 49<=k/\k<=J % 49+11)\/k=J % 60:=λt ht k hk=>by
  obtain⟨c,_,rfl⟩:=mem_map.mp (bo.mp ht);exact .inl ((hf c).2.1 k hk)
 have hL:(sortT (cells.map f)).length=cells.length:=by rw[sortT_len,nA]
 have g:SmR (sortT (cells.map f)):=by
  have:=rb (R:=sortT (cells.map f)) (m:=4) λt ht=>(gS t ht).2
  exact⟨⟨λt ht=>(gS t ht).1,sortT_rises _,by omega⟩,by omega,by omega⟩
 have e5:∀(a0 a1 a2 a3 a5:Option MV) (W:Rho),ev (aa defs 78) (.comp .seq [.bor 6] [4] (.cst (.bl true)) (.call 46 [.bor 0,(.bin .mod (.bor 1) (ci 49)),(.bin .add (ci 3) (.bin .mod (.bin .fdiv (.bor 1) (ci 49)) (ci 2))),(.bin .mod (.bin .fdiv (.bor 1) (ci 98)) (ci 3))])) (a0::a1::a2::a3::sv (.int J)::a5::sv (ofL cells)::W)=some (.lst ((cells.map f).map ofS)):=λ_ _ _ _ _ W=>by
  rw[J4];exact cW (vs:=[ofL cells]) (g:=PV.int) (h:=ofS∘f) rfl rfl (by omega) λc _=>ac rfl (hf c).2.2
 have e6:∀(a0 a1 a2 a3 a4 a5 a6:Option MV) (W:Rho),ev (aa defs 78) (.blt .tupleOf [(.blt .sorted [.bor 7])]) (a0::a1::a2::a3::a4::a5::a6::sv (.lst ((cells.map f).map ofS))::W)=some (ofR (sortT (cells.map f))):=λ_ _ _ _ _ _ _ W=>by
  refine(aN (v:=.lst ((sortT (cells.map f)).map ofS)) ?_).trans rfl;rw[aN (v:=.lst ((cells.map f).map ofS)) rfl,fB,iw,bind_some,ff (by rw[nA];omega)]
 generalize sortT (cells.map f)=R at g e6 gP;generalize (cells.map f).map ofS=S at e5 e6;obtain⟨v,n1,eb,hv⟩:=qZ 3 61 (qK ns (some (2+room)) none).reverse R t g;have e7:∀(a1 a2 a3 a4:Option MV) (W:Rho),ev (aa defs 78) (.slice (.bor 0) (.bin .add (ci 2) (.bor 5)) (.cst .non)) (some (.brw (ns.map .int))::a1::a2::a3::a4::sv (.int room)::W)=some (.lst ((qK ns (some (2+room)) none).map .int)):=λ_ _ _ _ W=>by
  rw[<- sH];rfl
 have C:kP (aa defs 78):=oE 72;obtain⟨D,eD,d1,d2,d3,gD,cL⟩:=sU 77 R g;obtain⟨fs,rs,b4,b5,eL,l1,k1,kr,sl⟩:=l4 (aa defs 78) C R g gP t (some (.brw (ns.map .int))) (sv (.int U)) (sv (.int J)) (sv (.int room)) (sv (ofL cells)) (sv (.lst S)) (some (.ownD (.p n1))) none none D [(R,v)] [] none none gD cL (by simp;omega) (λx hx=>by rw[J9.mp hx];exact⟨⟨g.1,r4 g.2.2 (by decide),hv⟩,gP⟩) (λx hx=>by cases hx) (by simp;omega) (by simp;simp at d2;omega);rw[map_nil,nil_append]at sl;have hF:=(kQ sl).length_le;have ec:=(kQ (kQ sl)).length_le;have f2:rs.length<=8:=by have:=sl.length_le;rw[nA]at this;omega
 have hP:WP 6 (.tup [.str "parts",.tup (rs.map am)]):=.parts rs (by omega) (by omega) (by omega) (λr hr=>⟨(kr r hr).1.1,r4 (kr r hr).1.2.2 (by decide)⟩) λr hr=>(kr r hr).2
 have gN:∀s∈(rs.map (·.1)).flatten,∀k∈s,(J % 49<=k/\k<=J % 49+11)\/k=J % 60:=λs hs=>by
  obtain⟨Q,hQ,h2⟩:=KG.mp ((kQ sl).subset hs);exact gP s (cL Q hQ s h2)
 have gF:∀s∈(rs.map (·.1)).flatten,bM s:=λs hs=>by
  obtain⟨G,hG,hs⟩:=KG.mp hs;obtain⟨r,hr,rfl⟩:=mem_map.mp hG;exact(kr r hr).1.1.1 s hs
 have ee:∃Z,WP 7 Z/\∀(a0 a3 a4 a5 a6 a7 a8 a9 cS c0 aO c1 c2 c3:Option MV),ex (aa defs 78) (.ite (.and (.cmp .eq (.bor 2) (cs "moth")) (.cmp .eq (.bor 1) (cs "moth"))) [.set 15 (.tup [(cs "bite"),.cst .non,.var 15])] []) [a0,sv (.str (af t)),sv (.str (af true)),a3,a4,a5,a6,a7,a8,a9,cS,c0,aO,c1,c2,sv (.tup [.str "parts",.tup (rs.map am)]),c3]=.next [a0,sv (.str (af t)),sv (.str (af true)),a3,a4,a5,a6,a7,a8,a9,cS,c0,aO,c1,c2,sv Z,c3]:=by
  cases t with
  |true=>exact⟨_,.one true none (λx e=>by cases e) hP,λ_ _ _ _ _ _ _ _ _ _ _ _ _ _=>(aL (p:=true) rfl).trans (bR rfl rfl)⟩
  |false=>exact⟨_,hP.le (by decide),λ_ _ _ _ _ _ _ _ _ _ _ _ _ _=>(aL (p:=false) rfl).trans rfl⟩
 obtain⟨Z,c4,eP⟩:=ee;generalize ef:(rs.map (·.1)).flatten=F at hF ec gF gN;have F8:F.length<=8:=by omega
 have f5:F.flatten.length<=60:=by omega
 have so:∀(G:LL) (W:Rho) (e:ME),G.length<64->ev (aa defs 78) e W=some (.lst (G.map ofS))->ev (aa defs 78) (.blt .tupleOf [(.blt .sorted [e])]) W=some (ofR (sortT G)):=λG W e hG he=>by
  refine(aN (v:=.lst ((sortT G).map ofS)) ?_).trans rfl;rw[aN he,fB,iw,bind_some,ff hG]
 have c5:∀xs:List (LL×PV),xs.length<=101->(xs.map am).length<10000:=λxs hx=>by rw[nA];omega
 have sF:StN (λk=>(J % 49<=k/\k<=J % 49+11)\/k=J % 60) (sortT F,Z):=⟨⟨fI gF (by omega),by rw[fJ];omega,c4.le (by decide)⟩,λt ht=>gN t (bo.mp ht)⟩;have c6:∀{X:Option PV},bf (exs (aa defs 78) [.ite (.cmp .eq (.bor 2) (cs "moth")) [.append 10 (.tup [(.blt .tupleOf [(.blt .sorted [.bor 12])]),.var 15])] [],.ite (.and (.cmp .eq (.bor 2) (cs "moth")) (.cmp .gt (.blt .len [.bor 12]) (ci 0))) [.set 16 (.blt .tupleOf [(.blt .sortedSet [(.bin .add (.blt .listOf [(ix 12 0)]) (.lst [(.bin .mod (.bor 4) (ci 60))]))])]),.append 10 (.tup [(.blt .tupleOf [(.blt .sorted [(.bin .add (.bor 12) (.lst [.var 16]))])]),.var 15])] [],.retOwn 10] (f9 ns t U J room cells S R n1 [some (.own (fs.map am)),some (.own (rs.map am)),sv (.lst (F.map ofS)),b4,b5,sv Z,none]))=X->aa defs 79 55 [.brw (ns.map .int),.val (.str (af t)),.val (.str (af true))]=X:=λ{X} hX=>by
  rw[ae (d:=dz) rfl rfl];rw[<- ef]at hX;have q1:∀{Y:Option PV},bf (exs (aa defs 78) (dz.body.drop 11) (fS R t (some (.brw (ns.map .int))) (sv (.int U)) (sv (.int J)) (sv (.int room)) (sv (ofL cells)) (sv (.lst S)) (some (.ownD (.p n1))) none none fs rs b4 b5))=Y->bf (exs (aa defs 78) (dz.body.drop 10) (fS R t (some (.brw (ns.map .int))) (sv (.int U)) (sv (.int J)) (sv (.int room)) (sv (ofL cells)) (sv (.lst S)) (some (.ownD (.p n1))) none none [(R,v)] [] none none))=Y:=λ{Y} hY=>by
   refine cz (m:=.for1 13 .seq [(.call 50 [.bor 8])] dy) ?_ hY;rw[dX (xs:=D.map ofR) (AD (ac rfl eD))];show MM.R.back _ _ (au _ _ (fS R t (some (.brw (ns.map .int))) (sv (.int U)) (sv (.int J)) (sv (.int room)) (sv (ofL cells)) (sv (.lst S)) (some (.ownD (.p n1))) none none [(R,v)] [] none none))=_;rw[eL]
   rfl
  have q2:bf (exs (aa defs 78) (dz.body.drop 11) (fS R t (some (.brw (ns.map .int))) (sv (.int U)) (sv (.int J)) (sv (.int room)) (sv (ofL cells)) (sv (.lst S)) (some (.ownD (.p n1))) none none fs rs b4 b5))=X:=aY (v:=.tup [.str "parts",.tup (rs.map am)]) rfl (cz (eP _ _ _ _ _ _ _ _ _ _ _ _ _ _) hX);have q3:=q1 q2;have df:evXs (aa defs 78) [(.tup [(.pure (.var 8)),(.call 54 [true,false,false,false,false] [.bor 9,.bor 8,.bor 1,.bor 2,(ci 3)])])] (f9 ns t U J room cells S R (qK ns (some (2+room)) none).reverse [none,none,none,none,none,none,none])=some ([am (R,v)],(f9 ns t U J room cells S R n1 [none,none,none,none,none,none,none])):=kO (qV (jm rfl (kO (xcO rfl rfl rfl rfl rfl eb))));refine aY (e1 _) (aY (e2 _) (aY (e3 _ _ _ _) (aY (e4 _ _ _ _ _) (aY (e5 _ _ _ _ _ _) (aY (e6 _ _ _ _ _ _ _ _) (cz (F2 (e7 _ _ _ _ _)) (cz (F6 df (Nat.le_of_ble_eq_true rfl)) ?_)))))));exact cz (m:=.setOwn 11 (.lst [])) rfl (aY (v:=.lst []) rfl q3)
 have b1:0<=J % 49/\J % 49<=48:=by omega
 have b2:0<=J % 60/\J % 60<=59:=by omega
 have s1:∀aO,exs (aa defs 78) [.append 10 (.tup [(.blt .tupleOf [(.blt .sorted [.bor 12])]),.var 15])] (f9 ns t U J room cells S R n1 [some (.own (fs.map am)),some (.own (rs.map am)),sv (.lst (F.map ofS)),b4,b5,sv Z,aO])=.next (f9 ns t U J room cells S R n1 [some (.own ((fs++[(sortT F,Z)]).map am)),some (.own (rs.map am)),sv (.lst (F.map ofS)),b4,b5,sv Z,aO]):=λaO=>by
  rw[Kd];exact bX (i9 rfl (dC (aS (so F _ _ (by omega) rfl) (aS rfl rfl))) (c5 fs (by omega)))
 cases F with
 |nil =>
  exact⟨fs++[(sortT [],Z)],c6 (cz ((aL (p:=true) rfl).trans (s1 none)) (bP rfl rfl)),by rw[tr,length_singleton];omega,(by simp),_,_,b1,b2,iE k1 sF⟩
 |cons s F =>
  have gs:=gF s (.head _);have m0:=KU J (b:=60) (by decide);have m9:=KL J (b:=60) (by decide);have e9:=aJ gs;have eg:(dd (s++[J % 60])).length<=(s++[J % 60]).length:=hV _;rw[tr,length_singleton]at eg;have gl:bM (sortI (dd (s++[J % 60]))):=⟨nV (dd_nodup _),λx hx=>by
   rcases J5.mp (iy.mp (g8.mp hx))with z|z
   .exact gs.2 x z
   .rw[J9.mp z];omega⟩
  have ll:(sortI (dd (s++[J % 60]))).length<=61:=by rw[sortI_len];omega
  have el:∀W:Rho,ev (aa defs 78) (.bor 12) W=some (.lst ((s::F).map ofS))->ev (aa defs 78) (.bor 4) W=some (.int J)->ev (aa defs 78) (.blt .tupleOf [(.blt .sortedSet [(.bin .add (.blt .listOf [(ix 12 0)]) (.lst [(.bin .mod (.bor 4) (ci 60))]))])]) W=some (ofS (sortI (dd (s++[J % 60])))):=λW eh h4=>by
   have i0:ev (aa defs 78) (ix 12 0) W=some (ofS s):=by
    rw[fF eh (cG _ _ _),vW,iX (by decide) (by rw[nA,length_cons];omega)]
    rfl
   have i1:ev (aa defs 78) (.lst [(.bin .mod (.bor 4) (ci 60))]) W=some (.lst [.int (J % 60)]):=by
    rw[ev,aS ((cy h4 (cG _ _ _)).trans rfl) rfl]
    rfl
   have i2:ev (aa defs 78) (.bin .add (.blt .listOf [(ix 12 0)]) (.lst [(.bin .mod (.bor 4) (ci 60))])) W=some (.lst ((s++[J % 60]).map .int)):=by
    rw[cy ((aN i0).trans rfl) i1,Kd];exact if_pos (by rw[nA,length_singleton];omega)
   refine(aN (v:=.lst ((sortI (dd (s++[J % 60]))).map .int)) ?_).trans rfl;rw[aN i2,oT,iw,bind_some,bx,bind_some,if_pos ⟨by rw[tr,length_singleton];omega,by omega⟩]
  have ei:∀W:Rho,ev (aa defs 78) (.bor 12) W=some (.lst ((s::F).map ofS))->ev (aa defs 78) (.cmp .gt (.blt .len [.bor 12]) (ci 0)) W=some (.bl true):=λW h=>by
   rw[c8 (aN h) (cG _ _ _)];show some (PV.bl (decide ((0:Int)<(((s::F).map ofS).length:Nat))))=_;rw[J3 (by rw[nA,length_cons];omega)]
  have ad:∀W:Rho,ev (aa defs 78) (.bor 12) W=some (.lst ((s::F).map ofS))->ev (aa defs 78) (.var 16) W=some (ofS (sortI (dd (s++[J % 60]))))->ev (aa defs 78) (.bin .add (.bor 12) (.lst [.var 16])) W=some (.lst (((s::F)++[sortI (dd (s++[J % 60]))]).map ofS)):=λW h h'=>by
   rw[cy h (y:=.lst [ofS (sortI (dd (s++[J % 60])))]) (by rw[ev,aS h' rfl];rfl),Kd];exact if_pos (by rw[nA,length_singleton];omega)
  have gG:∀x∈(s::F)++[sortI (dd (s++[J % 60]))],bM x:=iE gF gl;have nG:∀x∈(s::F)++[sortI (dd (s++[J % 60]))],∀k∈x,(J % 49<=k/\k<=J % 49+11)\/k=J % 60:=iE gN λk hk=>by
   rcases J5.mp (iy.mp (g8.mp hk))with z|z
   .exact gN s (.head _) k z
   .exact .inr (J9.mp z)
  have sG:StN (λk=>(J % 49<=k/\k<=J % 49+11)\/k=J % 60) (sortT ((s::F)++[sortI (dd (s++[J % 60]))]),Z):=⟨⟨fI gG (by rw[tr,length_singleton];omega),by rw[fJ,LA,tr,flatten_singleton];omega,c4.le (by decide)⟩,λt ht=>nG t (bo.mp ht)⟩;refine⟨(fs++[(sortT (s::F),Z)])++[(sortT ((s::F)++[sortI (dd (s++[J % 60]))]),Z)],c6 (cz ((aL (p:=true) rfl).trans (s1 none)) (cz ((aL (p:=true) (fE (p:=true) (q:=true) rfl λ_=>ei _ rfl)).trans (bR (el _ rfl rfl) (bX (i9 rfl (dC (aS (so ((s::F)++[sortI (dd (s++[J % 60]))]) _ _ (by rw[tr,length_singleton];omega) ?_) (aS rfl rfl))) (c5 (fs++[(sortT (s::F),Z)]) (by rw[tr,length_singleton];omega)))))) ?_)),by simp only[tr,length_singleton];omega,(by simp),_,_,b1,b2,iE (iE k1 sF) sG⟩
  .exact ad _ rfl rfl
  .rw[Kd (l₂:=[(sortT ((s::F)++[sortI (dd (s++[J % 60]))]),Z)])]
   rfl
noncomputable def dF(R:LL)(h:Int):Option Int:=(R.find? λt=>decide (h∈t)).map λt=>t.getD 0 0+t.getD 1 0-h
def F7(n)(v)(R)(h)(hv:a_ v=some (R.map ofS))(J:OkP R):aa defs (n+1) 17 [.val v,.val (.int h)]=some (bu (dF R h)):=by
 rw[ae (d:=Ai) rfl rfl];have key:=jU (g:=ofS) (xs:=R) (body:=λx l=>exs (aa defs n) iZ (put l 2 (.val x))) (I:=λW=>∃kk,W=[sv v,sv (.int h),kk]) (p:=λt=>decide (h∈t)) (r:=λt=>.int (t.getD 0 0+t.getD 1 0-h))
  (W:=[sv v,sv (.int h),none]) ⟨_,rfl⟩ (by
   rintro t U W ⟨kk,rfl⟩;obtain⟨x,y,rfl,_⟩:=J t U;constructor
   .intro q;by_cases e:x=h
    .subst e;simp[iZ,exs,ex,ev,evB,place]<;>try omega
    .have D:y=h:=by simp at q;exact(q.resolve_left (λz=>e z.symm)).symm
     subst D;simp[iZ,exs,ex,ev,evB,place,e]<;>try omega
   .intro q;simp at q;have Y:¬ x=h:=λz=>q.1 z.symm
    have D:¬ y=h:=λz=>q.2 z.symm
    exact⟨[sv v,sv (.int h),sv (ofS [x,y])],⟨_,rfl⟩,by simp[iZ,exs,ex,ev,evB,place,Y,D]⟩)
 have hs:(evs (aa defs n) [.bor 0] [sv v,sv (.int h),none]).bind (bq .seq)=some (R.map ofS):=by
  simp[evs,ev,hv]
 show bf (exs (aa defs n) (_::[_]) [sv v,sv (.int h),none])=_;rw[ar,dX hs,show bG [.bor 0] [sv v,sv (.int h),none]=[sv v,sv (.int h),none]from rfl];unfold dF;cases hf:R.find? λt=>decide (h∈t)with
 |some t =>
  rw[key.1 t hf]
  rfl
 |none =>
  obtain⟨l,⟨kk,rfl⟩,e⟩:=key.2 hf;rw[e];simp[exs,ex,ev,aP,bu]
theorem oF:∀{P:LL},P.flatten.Nodup->∀t∈P,∀u∈P,∀x,x∈t->x∈u->t=u
 | [],_,t,D,_,_,_,_,_=>by cases D
 |p::P,h,t,D,u,U,x,h1,h2=>by
  rw[flatten_cons]at h;obtain⟨n1,Y,Z⟩:=K9.mp h;have z:∀w∈P,x∈p->x∈w->False:=λw hw a b=>Z x a x (KG.mpr ⟨w,hw,b⟩) rfl
  rcases tf.mp D with e|a<;>rcases tf.mp U with J|b
  .rw[e,J]
  .rw[e]at h1;exact(z u b h1 h2).elim
  .rw[J]at h2;exact(z t a h2 h1).elim
  .exact oF Y t a u b x h1 h2
def AT:∀{P:LL},P.flatten.Nodup->∀t∈P,t.Nodup:=λh t z=>(pairwise_flatten.mp h).1 t z
def Has(P A:LL):Prop:=∀s∈A,∃t∈P,∀x∈t,x∈s
def ti(nd:P.flatten.Nodup)(h:Has P A):lT P A=true:=by
 unfold lT;rw[J3 nd,MF];refine Li.mpr λs hs=>?_
 obtain⟨t,z,hx⟩:=h s hs;exact K1.mpr ⟨t,z,aV.mpr hx⟩
def AU(D:OkP P)(h:Has P A):[]∉A:=λz=>by
 obtain⟨t,J,hx⟩:=h [] z;obtain⟨x,y,rfl,_⟩:=D t J;cases hx x (.head _)
def eN :x∈drp h s ↔ x∈s/\x≠h:=by
 unfold drp
 simp_all
def gm :u∈b6 h A ↔ ∃s∈A,drp h s=u:=by
 unfold b6;rw[bo,mem_map]
def xz(h:Has P A)(J:dF P g=none):Has P (b6 g A):=λu U=>by
 obtain⟨s,hs,rfl⟩:=gm.mp U;obtain⟨t,Y,hx⟩:=h s hs;have Z:P.find? (λt=>decide (g∈t))=none:=by
  exact map_eq_none_iff.mp J
 refine⟨t,Y,λx D=>eN.mpr ⟨hx x D,λz=>?_⟩⟩
 simp_all
def xA(hp:OkP P)(nd:P.flatten.Nodup)(h:Has P A)(hm:dF P g=some i):Has P (hZ i (b6 g A)):=λu Y=>by
 obtain⟨Y,Z⟩:=J2.mp Y;have Z:i∉u:=by simpa using Z
 obtain⟨s,hs,rfl⟩:=gm.mp Y;obtain⟨t,U,hx⟩:=h s hs;unfold dF at hm;obtain⟨t0,h0,e0⟩:=mu.mp hm;have m0:=L9 h0;have g0:g∈t0:=by have:=Nc h0;simpa using this
 refine⟨t,U,λx D=>eN.mpr ⟨hx x D,λz=>?_⟩⟩;subst z;have e:=oF nd t U t0 m0 x D g0;subst e;have n:=AT nd _ U;obtain⟨a,b,rfl,_⟩:=hp t U;have e0:a+b-x=i:=e0;have J:a≠b:=λz=>(Ku.mp n).1 (by rw[z];exact .head _)
 apply Z;rcases tf.mp D with q|q
 .have:i=b:=by omega
  subst this;exact eN.mpr ⟨hx i (.tail _ (.head _)),λz=>J (by omega)⟩
 .have q:=J9.mp q;have:i=a:=by omega
  subst this;exact eN.mpr ⟨hx i (.head _),λz=>J (by omega)⟩
def AAt(v:PV)(R:LL)(h:Bool)(N:Nat)(x:Int)(r:Option Int)(z:LL)(D:PV):Prop:=aa defs N 27 [.val v,.val (ofR R),.val (.str (af h)),.val (.int x)]=some (.tup [bu r,ofR z,D])
def F9 (n) (R) (h) (x):AAt (.tup [.str "bare"]) R h (n+1) x none R (.tup [.str "bare"]):=rfl
def AV (n) (R) (g:aB R) (h) (x):AAt (.tup [.str "weight"]) R h (n+5) x (eM (bhd (!h) R (some x))) (bh2 h R x (eM (bhd (!h) R (some x)))) (.tup [.str "weight"]):=by
 unfold AAt;rw[ae (d:=kH) rfl rfl];have z:=wc (n+1) (bhd (!h) R (some x)) (cU g _);have D:=ib (n+1) R g (!h) (some x);have J:=mH (n+3) h;generalize eM (bhd (!h) R (some x))=r at z ⊢;have U:=mJ n R g h x r;cases r<;>exact aY rfl (FY rfl (bR (ac (eJ (ac (i8 rfl (eJ (ac rfl J) rfl)) D) rfl) z) (sO (dC (aS rfl (aS (ac rfl U) (aS rfl rfl)))))))
def CY (n) (R P) (g:aB R) (D:OkP P) (h) (x):AAt (.tup [.str "pairs",ofR P]) R h (n+5) x (dF P x) (bh2 h R x (dF P x)) (.tup [.str "pairs",ofR P]):=by
 unfold AAt;rw[ae rfl rfl];have z:=F7 (n+3) (ofR P) P x rfl D;generalize dF P x=r at z ⊢;have J:=mJ n R g h x r;cases r<;>exact aY rfl (bP rfl (FY rfl (bR (ac (d9 rfl rfl) z) (sO (dC (aS rfl (aS (ac rfl J) (aS rfl rfl))))))))
theorem tj(cal)(D)(x):∀(z:List (Int×Option Int×PV)) y,∃J,au (λv l=>exs cal eX (put l 2 (.val v))) (z.map bm) [D,sv (.int x),y]=match z.find? λr=>decide (r.1=x)with
  |some r=>.ret (bm r)
  |none=>.next [D,sv (.int x),J]
 | [],y=>⟨y,rfl⟩
 |r::z,y=>by
  obtain⟨J,e⟩:=tj cal D x z (sv (bm r));refine⟨J,?_⟩;rw[JX,au];have c:ev cal (.cmp .eq (ix 2 0) (.bor 1)) [D,sv (.int x),sv (bm r)]=some (.bl (r.1==x)):=(c8 (x:=.int r.1) (y:=.int x) rfl rfl).trans (by rw[zW,mD];rfl);rw[find?_cons];by_cases q:r.1=x
  .rw[J0.mpr q]at c;rw[show exs cal eX (put [D,sv (.int x),y] 2 (.val (bm r)))=.ret (bm r)from Ds c rfl,J3 q]
  .rw[Lh.mpr q]at c;rw[show exs cal eX (put [D,sv (.int x),y] 2 (.val (bm r)))=.next [D,sv (.int x),sv (bm r)]from Az c rfl,Kc q];exact e
def IE(n:Nat)(z:List (Int×Option Int×PV))(x:Int):aa defs (n+1) 28 [.val (.tup (z.map bm)),.val (.int x)]=some (((z.find? λr=>decide (r.1=x)).map bm).getD .non):=by
 rw[ae (d:=nZ) rfl rfl];obtain⟨y,e⟩:=tj (aa defs n) (sv (.tup (z.map bm))) x z none;cases hf:z.find? λr=>decide (r.1=x)with
 |some r =>
  rw[hf]at e;exact Kj bf (AC (xs:=z.map bm) rfl e)
 |none =>
  rw[hf]at e;exact Kj bf (oC (xs:=z.map bm) rfl e (sO rfl))
def CZ (n:Nat) (R:LL) (g:aB R) (z:List (Int×Option Int×PV)) (x:Int):AAt (.tup [.str "cases",.tup (z.map bm)]) R true (n+6) x (((z.find? λr=>decide (r.1=x)).map λr=>r.2.1).getD none) (((z.find? λr=>decide (r.1=x)).map λr=>bh2 true R r.1 r.2.1).getD R) (((z.find? λr=>decide (r.1=x)).map λr=>r.2.2).getD (.tup [.str "cases",.tup (z.map bm)])):=by
 unfold AAt;rw[ae (d:=kH) rfl rfl];refine aY rfl (bP rfl (bP rfl (eT rfl (ac rfl ?_))));rw[ae (d:=fY) rfl rfl];have D:=IE (n+3) z x;cases hf:z.find? λr=>decide (r.1=x)with
 |none =>
  rw[hf]at D;exact aY (ac (d9 rfl rfl) D) (eT rfl rfl)
 |some r =>
  rw[hf]at D;have J:=mJ n R g true r.1 r.2.1;have D:aa defs (n+4) 28 [.val (.tup (z.map bm)),.val (.int x)]=some (.tup [.int r.1,bu r.2.1,r.2.2]):=D;show _=some (PV.tup [bu r.2.1,ofR (bh2 true R r.1 r.2.1),r.2.2]);generalize r.2.1=a at D J ⊢;cases a<;>exact aY (ac (d9 rfl rfl) D) (bP rfl (bP rfl (h_ (dC (aS rfl (aS (ac (i8 rfl (i8 rfl (d9 rfl (d9 rfl rfl)))) J) (aS rfl rfl)))))))
theorem jY(n:Nat)(U:Option MV)(x:Int)(f:LL×PV->Option Int×LL×PV):∀(D:List (LL×PV)) (Y:Option Int) (ks:List (LL×PV)) (x5 x6 Z:Option MV),(∀r∈D,aB r.1/\r.1.flatten.length<=4000)->(∀r∈D,x∈ab r.1->AAt r.2 r.1 true (n+2) x (f r).1 (f r).2.1 (f r).2.2)->ks.length+D.length<=100 ->
  ∃y5 y6 y7,au (λz l=>cc (cK [5,6] z l) λJ=>exs (aa defs (n+2)) b7 J) (D.map am) [U,sv (.str "moth"),sv (.int x),sv (bu Y),some (.own (ks.map am)),x5,x6,Z]=.next [U,sv (.str "moth"),sv (.int x),sv (bu (D.foldl (λa r=>if x∈ab r.1 then(f r).1 else a) Y)),some (.own ((ks++D.map λr=>if x∈ab r.1 then(f r).2 else r).map am)),y5,y6,y7]
 | [],Y,ks,x5,x6,Z,_,_,_=>⟨x5,x6,Z,by simp[au]⟩
 |r::D,Y,ks,x5,x6,Z,hg,hf,hl=>by
  rw[length_cons]at hl;have eh:ev (aa defs (n+2)) (.cmp .isIn (.bor 2) (.call 5 [.bor 5])) [U,sv (.str "moth"),sv (.int x),sv (bu Y),some (.own (ks.map am)),sv (ofR r.1),sv r.2,Z]=some (.bl (decide (x∈ab r.1))):=by
   rw[c8 (x:=.int x) rfl (ac rfl (fH n r.1 (hg r (.head _)).1.1 (hg r (.head _)).2))];show Option.map PV.bl (isIn _ _)=_;rw[bh]
   rfl
  have a5:(ks.map am).length<10000:=by rw[nA];omega
  rw[JX,au,foldl_cons];by_cases q:x∈ab r.1
  .rw[J3 q]at eh;have ea:=hf r (.head _) q;have st:(cc (cK [5,6] (am r) [U,sv (.str "moth"),sv (.int x),sv (bu Y),some (.own (ks.map am)),x5,x6,Z]) λJ=>exs (aa defs (n+2)) b7 J)=.next [U,sv (.str "moth"),sv (.int x),sv (bu (f r).1),some (.own ((ks++[(f r).2]).map am)),sv (ofR r.1),sv r.2,sv (.tup [bu (f r).1,ofR (f r).2.1,(f r).2.2])]:=by
    rw[Kd];exact bX ((aL eh).trans (bR (ac rfl ea) (bR rfl (bX (i9 rfl rfl a5)))))
   rw[st,if_pos q];obtain⟨y5,y6,y7,e⟩:=jY n U x f D (f r).1 (ks++[(f r).2]) (sv (ofR r.1)) (sv r.2) (sv (.tup [bu (f r).1,ofR (f r).2.1,(f r).2.2])) (λy hy=>hg y (.tail _ hy)) (λy hy=>hf y (.tail _ hy)) (by rw[tr,length_singleton];omega);refine⟨y5,y6,y7,e.trans ?_⟩;rw[JX (f:=λr=>if x∈ab r.1 then(f r).2 else r),if_pos q,KN]
   rfl
  .rw[Kc q]at eh;have st:(cc (cK [5,6] (am r) [U,sv (.str "moth"),sv (.int x),sv (bu Y),some (.own (ks.map am)),x5,x6,Z]) λJ=>exs (aa defs (n+2)) b7 J)=.next [U,sv (.str "moth"),sv (.int x),sv (bu Y),some (.own ((ks++[r]).map am)),sv (ofR r.1),sv r.2,Z]:=by
    rw[Kd];exact bX ((aL eh).trans (bX (i9 rfl rfl a5)))
   rw[st,if_neg q];obtain⟨y5,y6,y7,e⟩:=jY n U x f D Y (ks++[r]) (sv (ofR r.1)) (sv r.2) Z (λy hy=>hg y (.tail _ hy)) (λy hy=>hf y (.tail _ hy)) (by rw[tr,length_singleton];omega);refine⟨y5,y6,y7,e.trans ?_⟩;rw[JX (f:=λr=>if x∈ab r.1 then(f r).2 else r),if_neg q,KN]
   rfl
def F_(h:ev cal (.comp k s js c e) W=some v)(q:evA cal es W=some vs):evA cal (.comp k s js c e::es) W=some (.val v::vs):=by simp_all [evA]
noncomputable def bp(x:Int)(f:LL×PV->Option Int×LL×PV)(z:List (LL×PV)):List (LL×PV):=z.map λr=>if x∈ab r.1 then(f r).2 else r
noncomputable def cX(x:Int)(f:LL×PV->Option Int×LL×PV)(z:List (LL×PV)):Option Int:=z.foldl (λa r=>if x∈ab r.1 then(f r).1 else a) none
def C0(n:Nat)(R:LL)(x:Int)(f:LL×PV->Option Int×LL×PV)(z:List (LL×PV))(hl:z.length<=16)(Z:∀r∈z,aB r.1/\r.1.flatten.length<=4000)(hf:∀r∈z,x∈ab r.1->AAt r.2 r.1 true (n+2) x (f r).1 (f r).2.1 (f r).2.2)(hs:((bp x f z).map (·.1)).flatten.length<=60) :
  AAt (.tup [.str "parts",.tup (z.map am)]) R true (n+4) x (cX x f z) (sortT ((bp x f z).map (·.1)).flatten) (.tup [.str "parts",.tup ((bp x f z).map am)]):=by
 unfold AAt;rw[ae (d:=kH) rfl rfl];refine aY rfl (bP rfl (bP rfl (bP rfl (eT rfl (ac (d9 rfl rfl) ?_)))));rw[ae (d:=fZ) rfl rfl];obtain⟨D,J,U,e⟩:=jY n (sv (.tup (z.map am))) x f z none [] none none none Z hf (by simp;omega);rw[nil_append]at e;have hk:(bp x f z).length=z.length:=nA _;have et:=sR n ((bp x f z).map (·.1)) (by omega);have c0:∀Y,ev (aa defs (n+2)) (.comp .seq [.bor 4] [] (.cst (.bl true)) (ix 0 0)) [sv (.tup (z.map am)),sv (.str "moth"),sv (.int x),Y,some (.own ((bp x f z).map am)),D,J,U]=some (.lst (((bp x f z).map (·.1)).map ofR)):=λY=>by
  rw[J4];exact cW (vs:=[.lst ((bp x f z).map am)]) (xs:=bp x f z) (g:=am) rfl rfl (by omega) λr _=>rfl
 refine aY (v:=.non) rfl (cz (cJ (xs:=[]) rfl) (cz (l:=[sv (.tup (z.map am)),sv (.str "moth"),sv (.int x),sv (bu (cX x f z)),some (.own ((bp x f z).map am)),D,J,U]) ?_ (h_ (dC (aS ?_ (aS (ac (F_ (c0 _) rfl) et) (aS rfl rfl)))))))
 .rw[qM (xs:=z.map am) rfl];show MM.R.back _ _ (au _ _ [sv (.tup (z.map am)),sv (.str "moth"),sv (.int x),sv (bu none),some (.own ([].map am)),none,none,none])=_;rw[e]
  rfl
 .cases cX x f z<;>rfl
theorem jZ{α z:Type}{g:z->α->z}:∀{l:List α}{a},(∀r∈l,∀b,g b r=b)->l.foldl g a=a
 | [],_,_=>rfl
 |r::l,a,h=>by
  rw[foldl_cons,h r (.head _)];exact jZ λq D=>h q (.tail _ D)
def AW(nd:((D.map (·.1)).map ab).flatten.Nodup):((∀r∈D,x∉ab r.1)/\bp x f D=D/\cX x f D=none) \/
  ∃Y U Z,D=Y++U::Z/\x∈ab U.1/\(∀r∈Y++Z,x∉ab r.1)/\bp x f D=Y++(f U).2::Z/\cX x f D=(f U).1:=by
 have same:∀l,(∀r∈l,x∉ab r.1)->bp x f l=l:=λl h=>(Lj λr J=>if_neg (h r J)).trans (List.map_id l)
 by_cases h:∃U∈D,x∈ab U.1
 .obtain⟨U,J,hx⟩:=h;obtain⟨Y,Z,rfl⟩:=append_of_mem J;simp only[Kd,JX,LA,flatten_cons]at nd;obtain⟨_,n2,n3⟩:=K9.mp nd;obtain⟨_,_,n4⟩:=K9.mp n2;have no:∀r∈Y++Z,x∉ab r.1:=λr J z=>by
   rcases J5.mp J with q|q
   .exact n3 x (KG.mpr ⟨_,Ko (Ko q),z⟩) x (J5.mpr (.inl hx)) rfl
   .exact n4 x hx x (KG.mpr ⟨_,Ko (Ko q),z⟩) rfl
  have a0:∀r∈Y,x∉ab r.1:=λr J=>no r (J5.mpr (.inl J))
  have aO:∀r∈Z,x∉ab r.1:=λr J=>no r (J5.mpr (.inr J))
  refine .inr ⟨Y,U,Z,rfl,hx,no,?_,?_⟩
  .have e:bp x f (Y++U::Z)=bp x f Y++(if x∈ab U.1 then(f U).2 else U)::bp x f Z:=by unfold bp;rw[Kd,JX]
   rw[e,same Y a0,same Z aO,if_pos hx]
  .unfold cX;rw[foldl_append,foldl_cons,if_pos hx];exact jZ λr J b=>if_neg (aO r J)
 .have no:∀r∈D,x∉ab r.1:=λr J z=>h ⟨r,J,z⟩
  exact .inl ⟨no,same D no,jZ λr J b=>if_neg (no r J)⟩
structure re(R:LL)(x:Int)(r:Option Int)(R':LL)(B:Nat):Prop where
 rep:ic r
 good:aB R'
 flat:R'.flatten.length<=B
 low:below (bhd true (b6 x R) r) R'=true
 len:R'.length<=R.length
 hol:∀y∈ab R',y∈ab R
def xB{R:LL}(h:y∈ab (b6 x R)):y∈ab R:=by
 obtain⟨s,hs,z⟩:=av.mp h;obtain⟨D,J,rfl⟩:=gm.mp hs;exact av.mpr ⟨D,J,(eN.mp z).1⟩
def mL{R:LL}(g:aB R)(x)(D:ic r):re R x r (bh2 true R x r) R.flatten.length:=by
 refine⟨D,oh g x r,oq true R x r,dL _,?_,λy z=>?_⟩
 .have e:(b6 x R).length=R.length:=by unfold b6;rw[sortT_len,nA]
  rw[<- e];cases r<;>first|exact lC _|exact Lk _ _
 .refine xB (x:=x) ?_;obtain⟨s,hs,z⟩:=av.mp z;refine av.mpr ⟨s,?_,z⟩;cases r<;>first|exact hs|exact(J2.mp hs).1
def AX(J:OkP P)(x):ic (dF P x):=λi e=>by
 unfold dF at e;obtain⟨t,z,D⟩:=mu.mp e;obtain⟨a,b,rfl,U,Y⟩:=J t (L9 z);have hx:x∈[a,b]:=by have:=Nc z;simpa using this
 have D:a+b-x=i:=D;rcases tf.mp hx with q|q
 .omega
 .simp_all
def AY{R:LL}(h:Top R M)(k):aC R k<=M:=by
 by_cases q:0<aC R k
 .exact h.2.2 k (ie.mp q)
 .have:=h.1;omega
def pT{R:LL}(h:∀t∈R,bM t)(D:R.length<=60):R.flatten.length<=4000:=by
 have:=rb (R:=R) (m:=60) λt z=>aJ (h t z)
 omega
def uW{a b c D:List Int}(h:(a++(c++b)).Nodup)(hc:D.Nodup)(hs:∀y∈D,y∈c):(a++(D++b)).Nodup:=by
 obtain⟨h1,h2,U⟩:=K9.mp h;obtain⟨_,Y,Z⟩:=K9.mp h2;refine K9.mpr ⟨h1,K9.mpr ⟨hc,Y,λy J z hz=>Z y (hs y J) z hz⟩,λy J z hz=>U y J z ?_⟩;rcases J5.mp hz with q|q
 .exact J5.mpr (.inl (hs z q))
 .exact J5.mpr (.inr q)
def uX{R:LL}{x:Int}{f:LL×PV->Option Int×LL×PV}{D:List (LL×PV)}(hs:(D.map (·.1)).flatten.length<=60)(a7:(D.map (·.1)).flatten.flatten.length<=4000)(hg:∀r∈D,aB r.1/\r.1.flatten.length<=4000)(st:fK (D.map (·.1)) R=true)(hk:∀r∈D,re r.1 x (f r).1 (f r).2.1 4000) :
  re R x (cX x f D) (sortT ((bp x f D).map (·.1)).flatten) 4000/\((bp x f D).map (·.1)).flatten.length<=60/\((bp x f D).map (·.1)).flatten.flatten.length<=4000/\(((bp x f D).map (·.1)).map ab).flatten.Nodup/\∀r∈bp x f D,aB r.1/\r.1.flatten.length<=4000:=by
 unfold fK at st;simp only[g4,J7,KA,Ms]at st;obtain⟨⟨s1,nd⟩,s2,s3⟩:=st;have s2:=aV.mp s2;have gk:∀r∈bp x f D,aB r.1/\r.1.flatten.length<=4000:=λr J=>by
  obtain⟨r0,h0,rfl⟩:=mem_map.mp J;by_cases q:x∈ab r0.1
  .rw[if_pos q];exact⟨(hk r0 h0).good,(hk r0 h0).flat⟩
  .rw[if_neg q];exact⟨(hg r0 h0).1,(hg r0 h0).2⟩
 have Z:∀t∈((bp x f D).map (·.1)).flatten,bM t:=λt Y=>by
  obtain⟨G,Z,Y⟩:=KG.mp Y;obtain⟨r,J,rfl⟩:=mem_map.mp Z;exact(gk r J).1.1 t Y
 have a1:∀r∈D,∀y∈ab r.1,y∈ab R:=λr J y U=>by
  obtain⟨s,hs,U⟩:=av.mp U;exact s2 y (av.mpr ⟨s,KG.mpr ⟨r.1,Ko J,hs⟩,U⟩)
 have low:∀u∈bhd true (b6 x R) (cX x f D),∃s∈R,u=drp x s/\(∀i,cX x f D=some i->i∉u)/\∃r∈D,∃t∈r.1,sub t s=true:=λu hu=>by
  have h1:u∈b6 x R/\∀i,cX x f D=some i->i∉u:=by
   cases hq:cX x f D with
   |none=>rw[hq]at hu;exact⟨hu,λi z=>by cases z⟩
   |some i =>
    rw[hq]at hu;obtain⟨h1,h2⟩:=J2.mp hu;exact⟨h1,λj z=>by cases z;simpa using h2⟩
  obtain⟨s,hs,rfl⟩:=gm.mp h1.1;obtain⟨t,Y,q⟩:=dD s3 s hs;obtain⟨G,Z,Y⟩:=KG.mp (bo.mp Y);obtain⟨r,J,rfl⟩:=mem_map.mp Z;exact⟨s,hs,rfl,h1.2,r,J,t,Y,q⟩
 have drop:∀{t s:List Int},sub t s=true->x∉t->sub t (drp x s)=true:=λ{t s} q n=>aV.mpr λy U=>eN.mpr ⟨aV.mp q y U,λz=>n (z▸U)⟩
 rcases AW (x:=x) (f:=f) nd with⟨no,e1,e2⟩|⟨l1,r0,l2,rfl,hx,no,e1,e2⟩
 .rw[e1]at gk Z ⊢;refine⟨⟨by rw[e2];exact λi z=>(by cases z),fI Z hs,by rw[fJ];omega,eA λu hu=>?_,by rw[sortT_len];omega,λy U=>?_⟩,hs,by omega,nd,gk⟩
  .obtain⟨s,hs,rfl,_,r,J,t,Y,q⟩:=low u hu;exact⟨t,bo.mpr (KG.mpr ⟨r.1,Ko J,Y⟩),drop q λz=>no r J (av.mpr ⟨t,Y,z⟩)⟩
  .rw[gj]at U;exact s2 y U
 .have k0:=hk r0 (J5.mpr (.inr (.head _)));rw[e1]at gk Z ⊢;rw[e2]at low ⊢;simp only[Kd,JX,LA,flatten_cons,tr]at hs a7 s1 nd Z ⊢;have f1:=k0.len;have FF:=pT Z (by simp only[tr];omega);have a3:∀r∈l1++l2,∀t∈r.1,t∈sortT ((l1.map (·.1)).flatten++((f r0).2.1++(l2.map (·.1)).flatten)):=λr J t Y=>bo.mpr (by
   rcases J5.mp J with q|q
   .exact J5.mpr (.inl (KG.mpr ⟨_,Ko q,Y⟩))
   .exact J5.mpr (.inr (J5.mpr (.inr (KG.mpr ⟨_,Ko q,Y⟩)))))
  refine⟨⟨k0.rep,fI Z (by simp only[tr];omega),by rw[fJ];exact FF,eA λu hu=>?_,by rw[sortT_len];simp only[tr];omega,λy U=>?_⟩,by omega,by simp only[LA,tr]at FF;omega,uW nd (dv (fG _)) k0.hol,gk⟩
  .obtain⟨s,hs,rfl,hi,r,J,t,Y,q⟩:=low u hu;by_cases z:x∈ab r.1
   .have er:r=r0:=by
     rcases J5.mp J with w|w
     .exact absurd z (no r (J5.mpr (.inl w)))
     .rcases tf.mp w with w|w
      .exact w
      .exact absurd z (no r (J5.mpr (.inr w)))
    subst er;have sd:sub (drp x t) (drp x s)=true:=aV.mpr λy U=>eN.mpr ⟨aV.mp q y (eN.mp U).1,(eN.mp U).2⟩
    have hm:drp x t∈bhd true (b6 x r.1) (f r).1:=by
     have h1:drp x t∈b6 x r.1:=gm.mpr ⟨t,Y,rfl⟩;cases hq:(f r).1 with
     |none=>exact h1
     |some i=>exact J2.mpr ⟨h1,by simp;exact λw=>hi i hq (aV.mp sd i w)⟩
    obtain⟨t',b1,q'⟩:=dD k0.low _ hm;exact⟨t',bo.mpr (J5.mpr (.inr (J5.mpr (.inl b1)))),aV.mpr λy U=>aV.mp sd y (aV.mp q' y U)⟩
   .refine⟨t,a3 r ?_ t Y,drop q λw=>z (av.mpr ⟨t,Y,w⟩)⟩;rcases J5.mp J with w|w
    .exact J5.mpr (.inl w)
    .rcases tf.mp w with w|w
     .exact absurd (w▸hx) z
     .exact J5.mpr (.inr w)
  .rw[gj]at U;obtain⟨s,hs,U⟩:=av.mp U;have up:∀{l:List (LL×PV)},(∀r∈l,r∈l1++r0::l2)->s∈(l.map (·.1)).flatten->y∈ab R:=λ{l} hl w=>by
    obtain⟨G,Z,hs⟩:=KG.mp w;obtain⟨r,J,rfl⟩:=mem_map.mp Z;exact a1 r (hl r J) y (av.mpr ⟨s,hs,U⟩)
   rcases J5.mp hs with w|w
   .exact up (λr J=>J5.mpr (.inl J)) w
   .rcases J5.mp w with w|w
    .exact a1 r0 (J5.mpr (.inr (.head _))) y (k0.hol y (av.mpr ⟨s,w,U⟩))
    .exact up (λr J=>J5.mpr (.inr (.tail _ J))) w
def AZ {n:Nat}{R:LL}{z:List (LL×PV)} (g:aB R) (J:R.flatten.length<=4000) (U:z.length<=16) (hs:(z.map (·.1)).flatten.length<=60) (D:(z.map (·.1)).flatten.flatten.length<=4000) (Y:∀r∈z,aB r.1/\r.1.flatten.length<=4000) (st:fK (z.map (·.1)) R=true) (Z:∀r∈z,GAt r.2 r.1 false true (n+4) true):GAt (.tup [.str "parts",.tup (z.map am)]) R false true (n+7) true:=by
 have e:=mK (n:=n) (b:=λ_=>true) g J U hs D Y false Z;rw[st]at e;exact e.trans (by simp)
def ans{d:Nat}{v:PV}(p:WP d v):d<=12->∀(R:LL),aB R->R.flatten.length<=4000->GAt v R false true (3*d+8) true ->
  []∉R/\∀x:Int,∃(r:Option Int) (R':LL) (v':PV),(∀N,2*d+6<=N->AAt v R true N x r R' v')/\(∀N,3*d+8<=N->GAt v' R' false true N true)/\re R x r R' 4000/\WP d v':=by
 induction p with
 | @leaf d v hv =>
  intro hd R g hf G;have Z:∀{x r R'},re R x r R' R.flatten.length->re R x r R' 4000:=λk=>⟨k.rep,k.good,r4 k.flat (by omega),k.low,k.len,k.hol⟩
  rcases hv with rfl|rfl|rfl|⟨P,h1,h2,rfl⟩
  .have e:=tru (n_ (3*d+5) R false) G;have e:R=[]:=Kh e;subst e;refine⟨(λz=>by cases z),λx=>⟨none,[],.tup [.str "bare"],λN Y=>?_,λN Y=>?_,Z (mL g x λi z=>by cases z),.leaf (.inl rfl)⟩⟩
   .obtain⟨n,rfl⟩:=upN 1 Y;exact F9 n [] true x
   .obtain⟨n,rfl⟩:=upN 3 Y;exact n_ n [] false
  .cases tru (qQ (3*d+5) R false) G
  .obtain⟨M,hM,_⟩:=cw 0 R g;have e:decide ((R.map wgt).sum+M<1152921504606846976)=true:=tru (i_ (3*d+2) R g hM false) G;have e:=Kh e;have m0:=hM.1;refine⟨AS (by omega),λx=>?_⟩;have wk:=sY g.1 x;have pm:=AY hM x;have rk:ic (eM (b6 x R)):=λi z=>(bg (jl g).1).2 i (sT z)
   have k:=Z (mL g x rk);obtain⟨M2,a7,_⟩:=cw 0 _ k.good;refine⟨eM (b6 x R),bh2 true R x (eM (b6 x R)),.tup [.str "weight"],λN Y=>?_,λN Y=>?_,k,.leaf (.inr (.inr (.inl rfl)))⟩
   .obtain⟨n,rfl⟩:=upN 5 Y;exact AV n R g true x
   .obtain⟨n,rfl⟩:=upN 6 Y;refine(i_ n _ k.good a7 false).trans ?_;exact Kj (λb=>some (PV.bl b)) (J3 (wf (R:=b6 x R) (by omega) a7))
  .have e:lT P R=true:=tru (mI (3*d+3) R P h1 h2 g false) G;unfold lT at e;obtain⟨nd,ha⟩:=gQ.mp e;have nd:=Kh nd;have hh:Has P R:=λs hs=>by
    obtain⟨t,ht,q⟩:=K1.mp (Li.mp ha s hs);exact⟨t,ht,aV.mp q⟩
   refine⟨AU h1 hh,λx=>?_⟩;have k:=Z (mL g x (AX h1 x));refine⟨dF P x,bh2 true R x (dF P x),.tup [.str "pairs",ofR P],λN Y=>?_,λN Y=>?_,k,.leaf (.inr (.inr (.inr ⟨P,h1,h2,rfl⟩)))⟩
   .obtain⟨n,rfl⟩:=upN 5 Y;exact CY n R P g h1 true x
   .obtain⟨n,rfl⟩:=upN 5 Y;refine(mI n _ P h1 h2 k.good false).trans ?_;have:lT P (bh2 true R x (dF P x))=true:=by
     cases U:dF P x with
     |none=>exact ti nd (xz hh U)
     |some i=>exact ti nd (xA h1 nd hh U)
    rw[this]
    rfl
 | @one d v k r hk hv ih =>
  intro hd R g hf G;cases k with
  |false=>cases tru (uO (3*d+8) _ _ _ false) G
  |true =>
   obtain⟨b,a⟩:=xw hv (bhd true R r) (cU g r) (r4 (d_ true R r) hf) false;cases tru (uN (n:=3*d+5) g r false (a _ (by omega))) G
 | @cases d J hl hq hr ih =>
  intro hd R g hf G;have ao:=r4 hf (show 4000<=4000 by decide);obtain⟨b,hb⟩:=sS λr U=>xw (hr r U) (bh2 true R r.1 r.2.1) (oh g _ _) (r4 (oq true R _ _) ao) false
  have e:=tru (qS (n:=3*d+4) g ao hl λr U=>hb r U _ (by omega)) G;simp only[if_pos,g4,J7,KA,Ms]at e;obtain⟨e1,e2,e3⟩:=e;refine⟨e1,λx=>?_⟩;have Z:∀{x r R'},re R x r R' R.flatten.length->re R x r R' 4000:=λk=>⟨k.rep,k.good,r4 k.flat (by omega),k.low,k.len,k.hol⟩
  have an:=λn=>CZ n R g J x
  cases hx:J.find? λr=>decide (r.1=x)with
  |none =>
   rw[hx]at an;have no:x∉ab R:=λz=>by
    rw[<- e2]at z;obtain⟨r,U,rfl⟩:=mem_map.mp z;have:=MC.mp hx r U;simp at this
   refine⟨none,R,.tup [.str "cases",.tup (J.map bm)],λN Y=>?_,λN Y=>?_,⟨(λi z=>by cases z),g,by omega,eA λu hu=>?_,lC _,λy hy=>hy⟩,.cases J hl hq hr⟩
   .obtain⟨n,rfl⟩:=upN 6 Y;exact an n
   .obtain⟨n,rfl⟩:=upN 7 Y;refine(qS (n:=n) g ao hl λr U=>hb r U _ (by omega)).trans ?_;rw[Kc e1,J3 e2,e3]
    rfl
   .obtain⟨s,hs,rfl⟩:=gm.mp (show u∈b6 x R from hu);exact⟨s,hs,aV.mpr λy hy=>eN.mpr ⟨hy,λz=>no (av.mpr ⟨s,hs,z▸hy⟩)⟩⟩
  |some r =>
   rw[hx]at an;have U:=L9 hx;have er:r.1=x:=by have:=Nc hx;simpa using this
   have br:b r=true:=Li.mp e3 r U;have G':=hb r U;rw[br,er]at G';refine⟨r.2.1,bh2 true R x r.2.1,r.2.2,λN Y=>?_,λN Y=>G' N (by omega),Z (mL g x (hq r U)),(hr r U).le (by omega)⟩;obtain⟨n,rfl⟩:=upN 6 Y;have:=an n;rw[map_some,map_some,map_some,er]at this;exact this
 | @parts d J hl hs a9 hg hr ih =>
  intro hd R g hf G;have ao:=r4 hf (show 4000<=4000 by decide);have a0:∀r∈J,aB r.1/\r.1.flatten.length<=4000:=λr U=>⟨(hg r U).1,r4 (hg r U).2 (by decide)⟩
  obtain⟨b,hb⟩:=sS λr U=>xw (hr r U) r.1 (a0 r U).1 (a0 r U).2 false
  have e:=tru (mK (n:=3*d+4) g ao hl hs (r4 a9 (by decide)) a0 false λr U=>hb r U _ (by omega)) G;have e:(fK (J.map (·.1)) R&&J.all b)=true:=e;obtain⟨st,ba⟩:=gQ.mp e;have ba:=Li.mp ba;have gr:∀r∈J,∀N,3*d+8<=N->GAt r.2 r.1 false true N true:=λr U N Y=>(hb r U N Y).trans (by rw[ba r U])
  have IH:=λr U=>ih r U (by omega) r.1 (hg r U).1 (r4 (hg r U).2 (by decide)) (gr r U _ (lC _))
  refine⟨λz=>?_,λx=>?_⟩
  .unfold fK at st;simp only[g4]at st;obtain⟨t,ht,q⟩:=dD st.2.2 [] z;have t0:t=[]:=eq_nil_iff_forall_not_mem.mpr λy hy=>by cases aV.mp q y hy
   obtain⟨D,hD,ht⟩:=KG.mp (bo.mp ht);obtain⟨r,U,rfl⟩:=mem_map.mp hD;exact(IH r U).1 (t0▸ht)
  .have kx:∀r:LL×PV,∃q:Option Int×LL×PV,r∈J->(∀N,2*d+6<=N->AAt r.2 r.1 true N x q.1 q.2.1 q.2.2)/\(∀N,3*d+8<=N->GAt q.2.2 q.2.1 false true N true)/\re r.1 x q.1 q.2.1 4000/\WP d q.2.2:=λr=>by
    by_cases U:r∈J
    .obtain⟨a,A,w,h⟩:=(IH r U).2 x;exact⟨(a,A,w),λ_=>h⟩
    .exact⟨(none,[],.non),λz=>absurd z U⟩
   obtain⟨f,hF⟩:=Mr kx;obtain⟨kp,l1,l2,nd,gk⟩:=uX (x:=x) (f:=f) hs a9 hg st (λr U=>(hF r U).2.2.1);have dr:(bp x f J).length=J.length:=nA _;refine⟨cX x f J,sortT ((bp x f J).map (·.1)).flatten,.tup [.str "parts",.tup ((bp x f J).map am)],λN Y=>?_,λN Y=>?_,kp,.parts _ (by omega) l1 l2 gk λr U=>?_⟩
   .obtain⟨n,rfl⟩:=upN 4 Y;exact C0 n R x f J hl a0 (λr U _=>(hF r U).1 _ (by omega)) l1
   .obtain⟨n,rfl⟩:=upN 7 Y;refine AZ kp.good kp.flat (by omega) l1 l2 gk ?_ λr U=>?_
    .unfold fK;rw[Kc (by rw[sortT_len];omega),J3 nd,gj,aV.mpr λy hy=>hy,dL]
     rfl
    .obtain⟨r0,h0,rfl⟩:=mem_map.mp U;by_cases q:x∈ab r0.1
     .rw[if_pos q];exact(hF r0 h0).2.1 _ (by omega)
     .rw[if_neg q];exact gr r0 h0 _ (by omega)
   .obtain⟨r0,h0,rfl⟩:=mem_map.mp U;by_cases q:x∈ab r0.1
    .rw[if_pos q];exact(hF r0 h0).2.2.2
    .rw[if_neg q];exact hr r0 h0
def A0{A R:LL}(h:below A R=true)(z:[]∈A):[]∈R:=by
 obtain⟨t,D,q⟩:=dD h [] z;cases t with
 |nil=>exact D
 |cons x t=>cases aV.mp q x (.head _)
def C1{T A B:LL}{x y:Int}{r:Option Int}{K:List Int}(hb:below T A=true)(hl:below (bhd true (b6 x A) r) B=true)(hn:[]∉B)(ht:∀s∈T,∀k∈s,k∉K)(hy:∀z,r=some z->z∉K++[x]->y=z) :
  []∉b6 x T/\below (hZ y (b6 x T)) B=true/\∀s∈hZ y (b6 x T),∀k∈s,k∉K++[x]++[y]:=by
 have h1:below (bhd true (b6 x T) r) (bhd true (b6 x A) r)=true:=pS true (pS false hb (some x)) r;have h2:=l0 h1 hl;have Y:∀s∈b6 x T,∀k∈s,k∉K++[x]:=λs hs k U z=>by
  obtain⟨s0,h0,rfl⟩:=gm.mp hs;obtain⟨J,D⟩:=eN.mp U;rcases J5.mp z with z|z
  .exact ht s0 h0 k J z
  .exact D (J9.mp z)
 have Z:∀s∈b6 x T,(∀z,r=some z->z∉s)->s∈bhd true (b6 x T) r:=λs hs h=>by
  cases r with
  |none=>exact hs
  |some z=>exact J2.mpr ⟨hs,by simpa using h z rfl⟩
 refine⟨λz=>hn (A0 h2 (Z [] z λ_ _ w=>by cases w)),eA λs hs=>?_,λs hs k U z=>?_⟩
 .obtain⟨J,D⟩:=J2.mp hs;refine dD h2 s (Z s J λz hz hm=>?_);have:=hy z hz (Y s J z hm);subst this;simp at D;exact D hm
 .obtain⟨J,D⟩:=J2.mp hs;rcases J5.mp z with z|z
  .exact Y s J k U z
  .rw[J9.mp z]at U;simp at D;exact D U
def pU{K:List Int}(h:K.length<60):∃k:Nat,k<60/\(k:Int)∉K:=by
 refine Nd λz=>?_
 have hs:((range 60).map λ(k:Nat)=>(k:Int)) ⊆ K:=λj D=>by
  obtain⟨k,J,rfl⟩:=mem_map.mp D;exact Nd λw=>z ⟨k,Lf.mp J,w⟩
 have:=Dt _ _ (by decide) hs;rw[nA,MO]at this;omega
noncomputable def fL(C K:List Int):Nat:=(C.filter λj=>!decide (j∈K)).length
theorem rf{K z:List Int}(h:∀j∈K,j∈z):∀C:List Int,fL C z<=fL C K
 | []=>lC _
 |c::C=>by
  have:=rf h C;unfold fL at this ⊢;rw[Mc,Mc];by_cases q:c∈K
  .simp[q,h c q];exact this
  .by_cases D:c∈z<;>simp[q,D]<;>omega
theorem wg{K D:List Int}(h:∀j∈K,j∈D){x:Int}(h1:x∉K)(h2:x∈D):∀{C:List Int},x∈C->fL C D<fL C K
 |c::C,hx=>by
  have l:=rf h C;by_cases q:c=x
  .subst q;unfold fL at l ⊢;rw[Mc,Mc];simp[h1,h2];omega
  .have:=wg h h1 h2 (C:=C) ((tf.mp hx).resolve_left λz=>q z.symm);unfold fL at this ⊢;rw[Mc,Mc];by_cases q:c∈K
   .simp[q,h c q];exact this
   .by_cases J:c∈D<;>simp[q,J]<;>omega
structure S39(C:List Int)(k:Nat)(T A:LL)(v:PV)(K:List Int):Prop where
 gT:aB T
 gA:aB A
 wp:WP 10 v
 gd:∀N,38<=N->GAt v A false true N true
 low:below T A=true
 nil:[]∉T
 fre:∀s∈T,∀j∈s,j∉K
 cand:∀s∈T,∀j∈s,j∈C
 len:K.length<=2*k+1
 cnt:fL C K+k<=17/\fL C K<=13
def A1(n:Nat)(r:Option Int)(T:List Int)(h:∃k:Nat,k<60/\(k:Int)∉T):∃y,aa defs (n+1) 57 [.val (bu r),.brw (T.map .int)]=some (.int y)/\y∉T/\(r=some y\/(0<=y/\y<=59))/\∀x,r=some x->x∉T->y=x:=by
 rw[ae (d:=n6) rfl rfl];have hm:∃y:Int,(∀D,ev (aa defs n) (.blt .min1 [(.comp .rng [(ci 60)] [1] (.cmp .notIn (.bor 0) (.bor 1)) (.var 0))]) [D,some (.brw (T.map .int))]=some (.int y))/\y∉T/\0<=y/\y<=59:=by
  have hc:∀D,ev (aa defs n) (.comp .rng [(ci 60)] [1] (.cmp .notIn (.bor 0) (.bor 1)) (.var 0)) [D,some (.brw (T.map .int))]=some (.lst ((((range 60).map λ(k:Nat)=>(k:Int)).filter λk=>!decide (k∈T)).map .int)):=λD=>by
   have e0:evs (aa defs n) [ci 60] [D,some (.brw (T.map .int))]=some [.int 60]:=by simp[evs,ev]
   have e1:bq .rng [.int 60]=some (((range 60).map λ(k:Nat)=>(k:Int)).map .int):=by
    rw[jP (by decide) (by decide),J4]
    rfl
   rw[ev,e0,bind_some,e1,bind_some,if_pos (by simp),cm (p:=λk=>!decide (k∈T)) (h:=PV.int)]
   .rfl
   .intro k _;simp[ev,cx,bh]
   .intro k _ _;simp[ev,cx]
  generalize Z:(((range 60).map λ(k:Nat)=>(k:Int)).filter λk=>!decide (k∈T))=G at hc;obtain⟨k,hk,hT⟩:=h;have J:(k:Int)∈G:=by
   rw[<- Z,J2];exact⟨mem_map.mpr ⟨k,Lf.mpr hk,rfl⟩,by simp[hT]⟩
  cases U:BV G with
  |none =>
   cases G with
   |nil=>cases J
   |cons=>cases U
  |some y =>
   have Y:=(pD U).1;rw[<- Z,J2]at Y;obtain⟨j,hj,rfl⟩:=mem_map.mp Y.1;have:=Lf.mp hj;refine⟨_,λD=>?_,by simpa using Y.2,by omega,by omega⟩;rw[aN (hc D),Ae,bx,bind_some,U]
   rfl
 obtain⟨y,e,h1,h2⟩:=hm;cases r with
 |none=>exact⟨y,bP (fE (p:=false) (q:=false) rfl nofun) (h_ (e _)),h1,.inr h2,nofun⟩
 |some x =>
  have hi:ev (aa defs n) (.and (.cmp .notN (.bor 0) (.cst .non)) (.cmp .notIn (.bor 0) (.bor 1))) [sv (.int x),some (.brw (T.map .int))]=some (.bl (true&&!decide (x∈T))):=fE rfl λ_=>by
   simp[ev,bh]
  by_cases z:x∈T
  .rw[J3 z]at hi;exact⟨y,bP hi (h_ (e _)),h1,.inr h2,λw hw hn=>absurd z (by rw[JZ hw];exact hn)⟩
  .rw[Kc z]at hi;exact⟨x,eT hi rfl,z,.inl rfl,λw hw _=>JZ hw⟩
def A2(n:Nat)(H T:List Int)(m:Int)(D:Bool)(hm:0<=m)(h0:H≠[])(hl:H.length<=60):∃y,aa defs (n+1) 56 [.val (ofL H),.brw (T.map .int),.val (.int m),.val (.bl D)]=some (.int y)/\(y∈H\/(D=true/\y∉T/\0<=y/\y<=59)):=by
 rw[ae (d:=kI) rfl rfl];have U:ev (aa defs n) (.bin .fdiv (.bor 2) (ci 4)) [sv (ofL H),some (.brw (T.map .int)),sv (.int m),sv (.bl D)]=some (.int (m / 4)):=v0 rfl (by decide);have Y:ev (aa defs n) (.bin .mod (.bin .fdiv (.bor 2) (ci 4)) (ci 60)) [sv (ofL H),some (.brw (T.map .int)),sv (.int m),sv (.bl D)]=some (.int (m / 4 % 60)):=(cy U (cG _ _ _)).trans rfl;have hb:=KU (m / 4) (b:=60) (by decide);have a0:=KL (m / 4) (b:=60) (by decide);have d3:ev (aa defs n) (.cmp .notIn (.bin .mod (.bin .fdiv (.bor 2) (ci 4)) (ci 60)) (.bor 1)) [sv (ofL H),some (.brw (T.map .int)),sv (.int m),sv (.bl D)]=some (.bl (!decide (m / 4 % 60∈T))):=by
  rw[c8 Y (y:=.lst (T.map .int)) rfl,zX,bh]
  rfl
 have hp:0<H.length:=Mq.mpr h0;have hk:=KU (m / 4) (b:=H.length) (by omega);have J:=KL (m / 4) (b:=H.length) (by omega);have d4:ev (aa defs n) (.idx (.bor 0) (.bin .mod (.bin .fdiv (.bor 2) (ci 4)) (.blt .len [.bor 0]))) [sv (ofL H),some (.brw (T.map .int)),sv (.int m),sv (.bl D)]=some (.int (H[(m / 4 % H.length).toNat]'(by omega))):=by
  have d5:ev (aa defs n) (.blt .len [.bor 0]) [sv (ofL H),some (.brw (T.map .int)),sv (.int m),sv (.bl D)]=some (.int H.length):=by
   rw[aN (v:=ofL H) rfl];simp
  rw[fF (x:=ofL H) (y:=.int (m / 4 % H.length)) rfl ((cy U d5).trans (by rw[qH,if_pos (by omega)])),vW,iX hk (by rw[nA];exact J),bind_some,Ka,J1 (by omega)]
  rfl
 obtain⟨b,hc,Z⟩:∃b:Bool,ev (aa defs n) (.and (.bor 3) (.and (.cmp .eq (.bin .mod (.bor 2) (ci 4)) (ci 0)) (.cmp .notIn (.bin .mod (.bin .fdiv (.bor 2) (ci 4)) (ci 60)) (.bor 1)))) [sv (ofL H),some (.brw (T.map .int)),sv (.int m),sv (.bl D)]=some (.bl b)/\(b=true->D=true/\m / 4 % 60∉T):=
  ⟨_,fE (p:=D) rfl λ_=>fE (i7 rfl (by decide)) λ_=>d3,λz=>by
   simp only[g4,J7,Ms]at z;exact⟨z.1,z.2.2⟩⟩
 cases b with
 |true=>exact⟨_,eT hc Y,.inr ⟨(Z rfl).1,(Z rfl).2,hb,by omega⟩⟩
 |false=>exact⟨_,bP hc (h_ d4),.inl (Nt _)⟩
noncomputable abbrev f39(ns:List Int)(z D:Option MV)(T A:LL)(v:PV)(r:Option Int)(K:List Int)(J U Y Z:Option MV):Rho:=[some (.brw (ns.map .int)),z,D,sv (ofR T),sv (.tup [bu r,ofR A,v]),some (.own (K.map .int)),J,U,Y,Z]
def IF{cal:Cal}{op:Cp}{a b:ME}{W:Rho}{v:PV}(h:ev cal (.cmp op a b) W=some v):evA cal [.cmp op a b] W=some [.val v]:=by
 rw[evA,h,bind_some,evA]
 .rfl
 .exact nofun
def IG{cal:Cal}{op:Op2}{a b:ME}{W:Rho}{v:PV}(h:ev cal (.bin op a b) W=some v):evA cal [.bin op a b] W=some [.val v]:=by
 rw[evA,h,bind_some,evA]
 .rfl
 .exact nofun
def wj{T:LL}(h:ab T=[])(n:[]∉T):T=[]:=by
 cases T with
 |nil=>rfl
 |cons s T =>
  cases s with
  |nil=>exact absurd (.head _) n
  |cons x s =>
   have:x∈ab ((x::s)::T):=av.mpr ⟨x::s,.head _,.head _⟩;rw[h]at this;cases this
def Ga(ns:List Int)(Y Z:Option MV){C:List Int}{k:Nat}(hk:k<=16){T A:LL}{v:PV}{K:List Int}(S:S39 C k T A v K)(r:Option Int)(x6 x7 x8 x9:Option MV)(hT:ab T≠[]) :
  ∃(T' U:LL) (v':PV) (r':Option Int) (K':List Int) (y7 y8 y9:Option MV),exs (aa defs 78) dA (put (f39 ns Y Z T A v r K x6 x7 x8 x9) 6 (.val (.int k)))=.next (f39 ns Y Z T' U v' r' K' (sv (.int k)) y7 y8 y9)/\S39 C (k+1) T' U v' K':=by
 have e1:=jk 77 T S.gT.1;have hl:=aJ (bg S.gT.1);have hp:0<(ab T).length:=Mq.mpr hT;have e2:∀a7 a8 a9,ev (aa defs 78) (.call 38 [(.call 37 [.bor 0,(.bin .add (ci 10) (.bor 6))]),(ci 1283712873162387911)]) (f39 ns Y Z T A v r K (sv (.int k)) a7 a8 a9)=some (.int (gi (cellOf ns (10+k)) 1283712873162387911)):=λ_ _ _=>ac (eJ (ac (i8 rfl (IG ((cy rfl rfl).trans rfl))) (Ak 77 _ ns (10+k) rfl (by omega))) rfl) (mG 77 _ _)
 have m0:=eZ (cellOf ns (10+k)) 1283712873162387911;generalize gi (cellOf ns (10+k)) 1283712873162387911=m at e2 m0;obtain⟨x,e3,hx⟩:=A2 77 (ab T) K m (decide ((k:Int)<4)) m0 hT hl;have hf:=pT S.gA.1 S.gA.2.2;obtain⟨rr,U,v',AA,GG,kp,wp⟩:=(ans S.wp (by decide) A S.gA hf (S.gd 38 (by decide))).2 x;have e4:=gH 77 T x S.gT;have nB:=(ans wp (by decide) U kp.good kp.flat (GG 38 (by decide))).1;have b1:=S.len;obtain⟨y,e5,_,_,hy⟩:=A1 77 rr (K++[x]) (pU (by rw[tr,length_singleton];omega));obtain⟨n1,n2,n3⟩:=C1 (y:=y) S.low kp.low nB S.fre hy;have e6:=e_ 77 (b6 x T) y (by have:=(jl (h:=x) S.gT).2.2;omega);have hi:isIn (ofS []) ((b6 x T).map ofS)=some false:=(lx [] (b6 x T)).trans (by rw[Kc n1]);have D:∀j∈K,j∈K++[x]++[y]:=λj J=>Lb _ (Lb _ J)
 refine⟨hZ y (b6 x T),U,v',rr,K++[x]++[y],sv (ofL (ab T)),sv (.int x),sv (.int y),?_,?_⟩
 .have c1:∀a8 a9,ev (aa defs 78) (.cmp .gt (.blt .len [.bor 7]) (ci 0)) (f39 ns Y Z T A v r K (sv (.int k)) (sv (ofL (ab T))) a8 a9)=some (.bl true):=λ_ _=>by
   rw[c8 (aN (v:=ofL (ab T)) rfl) (cG _ _ _)];show some (PV.bl (decide ((0:Int)<(((ab T).map PV.int).length:Nat))))=_;rw[J3 (by rw[nA];omega)]
  have mm:∀(L:List Int) (z:Int),(L++[z]).map PV.int=L.map PV.int++[PV.int z]:=λ_ _=>Kd
  refine bR (ac rfl e1) (bX ((aL (c1 _ _)).trans ?_));refine bR (ac (i8 rfl (i8 rfl (eJ (e2 _ _ _) (IF ((c8 rfl rfl).trans rfl))))) e3) (dB (i9 rfl rfl (by rw[nA];omega)) (bR (ac rfl e4) (Az (AB hi rfl rfl) (bR (ac (d9 rfl (d9 rfl rfl)) (AA 78 (by decide))) ?_))));refine bR (ac (d9 rfl (i8 rfl rfl)) (by rw[mm]at e5;exact e5)) (dB (i9 rfl rfl (by simp;omega)) (bR (ac rfl e6) ?_));unfold f39;rw[mm,mm]
  rfl
 .have c:=S.cnt;have l1:=rf D C;refine⟨lF (jl S.gT),kp.good,wp,GG,n2,λz=>n1 (J2.mp z).1,n3,λs hs j J=>?_,?_,?_⟩
  .obtain⟨s0,h0,rfl⟩:=gm.mp (J2.mp hs).1;exact S.cand s0 h0 j (eN.mp J).1
  .simp only[tr,length_singleton];omega
  .rcases hx with hx|⟨q,_⟩
   .obtain⟨s,hs,J⟩:=av.mp hx;have:=wg D (S.fre s hs x J) (Lb _ (Kp _ (.head _))) (S.cand s hs x J);omega
   .have:=Kh q;omega
def FBt(v:PV)(R:LL)(h:Bool)(N:Nat)(r:Option Int)(z:LL)(D:PV):Prop:=aa defs N 26 [.val v,.val (ofR R),.val (.str (af h))]=some (.tup [bu r,ofR z,D])
def C2 (n:Nat) (R:LL) (h:Bool):FBt (.tup [.str "bare"]) R h (n+1) none R (.tup [.str "bare"]):=by
 unfold FBt;rw[ae (d:=mF) rfl rfl];exact aY rfl (bP rfl (bP rfl (bP rfl (h_ rfl))))
def xC (n:Nat) (R:LL) (g:aB R) (h:Bool):FBt (.tup [.str "weight"]) R h (n+4) (eM R) (bhd h R (eM R)) (.tup [.str "weight"]):=by
 have z:=wc n R g;generalize eM R=r at z ⊢;have D:=ib n R g h r;unfold FBt;rw[ae (d:=mF) rfl rfl];cases r<;>exact aY rfl (bP rfl (FY rfl (bR (ac rfl z) (sO (dC (aS rfl (aS (ac rfl D) (aS rfl rfl))))))))
def Gb (n:Nat) (R:LL) (g:aB R) (k:Bool) (r:Option Int) (p:PV):FBt (.tup [.str (if k=true then "bite" else "knot"),bu r,p]) R k (n+4) r (bhd k R r) p:=by
 have z:=ib n R g k r;unfold FBt;rw[ae (d:=mF) rfl rfl];cases k<;>cases r<;>exact aY rfl (bP rfl (bP rfl (eT rfl (dC (aS rfl (aS (ac rfl z) (aS rfl rfl)))))))
def II{d:Nat}{v:PV}(p:WP d v):∀(R:LL),aB R->R.flatten.length<=4000->GAt v R true true (3*d+8) true ->
  ∃(r:Option Int) (J:LL) (Z:PV),aB J/\J.flatten.length<=4000/\(∀N,d+4<=N->FBt v R true N r J Z)/\(∀N,3*d+8<=N->GAt Z J false true N true)/\WP d Z/\below (bhd true R r) J=true:=by
 induction p with
 | @leaf d v hv =>
  intro R g D G;have hw:WP d v:=.leaf hv;rcases hv with rfl|rfl|rfl|⟨P,h1,h2,rfl⟩
  .have e:=tru (n_ (3*d+5) R true) G;refine⟨none,R,_,g,D,λN z=>?_,λN z=>?_,hw,dL _⟩
   .obtain⟨n,rfl⟩:=upN 1 z;exact C2 n R true
   .obtain⟨n,rfl⟩:=upN 3 z;exact(n_ n R false).trans (by rw[e])
  .cases tru (qQ (3*d+5) R true) G
  .obtain⟨M,hM,_⟩:=cw 0 R g;have e:=tru (i_ (3*d+2) R g hM true) G;have g':=cU (h:=true) g (eM R);obtain⟨M2,U,_⟩:=cw 0 _ g';refine⟨eM R,bhd true R (eM R),_,g',r4 (d_ true R (eM R)) D,λN z=>?_,λN z=>?_,hw,dL _⟩
   .obtain⟨n,rfl⟩:=upN 4 z;exact xC n R g true
   .obtain⟨n,rfl⟩:=upN 6 z;exact(i_ n _ g' U false).trans (Kj (λb=>some (PV.bl b)) (J3 (wf (Kh e) U)))
  .cases tru (mI (3*d+3) R P h1 h2 g true) G
 | @one d v k r hk hv ih =>
  intro R g D G;cases k with
  |false=>cases tru (uO (3*d+8) _ _ _ true) G
  |true =>
   obtain⟨b,a⟩:=xw hv (bhd true R r) (cU g r) (r4 (d_ true R r) D) false;obtain rfl:b=true:=tru (uN (n:=3*d+5) g r true (a _ (by omega))) G;refine⟨r,bhd true R r,v,cU g r,r4 (d_ true R r) D,λN z=>?_,λN z=>a N (by omega),hv.le (Lm _),dL _⟩;obtain⟨n,rfl⟩:=upN 4 z;exact Gb n R g true r v
 | @cases d rows hl hq hr ih =>
  intro R g D G;cases tru (ol (3*(d+1)+5) _ _) G
 | @parts d rows hl hs ao hg hr ih =>
  intro R g D G;obtain⟨b,hb⟩:=sS λr Y=>xw (hr r Y) r.1 (hg r Y).1 (hg r Y).2 false
  cases tru (mK (n:=3*d+4) g D hl hs ao hg true λr Y=>hb r Y _ (by omega)) G
def IJ{C:List Int}{T A:LL}{v:PV}{K:List Int}(S:S39 C 17 T A v K):T=[]:=by
 refine wj (eq_nil_iff_forall_not_mem.mpr λj D=>?_) S.nil;obtain⟨s,hs,z⟩:=av.mp D;have c:=S.cnt.1;have J:(C.filter λj=>!decide (j∈K))=[]:=LF (by unfold fL at c;omega);have:j∈C.filter λj=>!decide (j∈K):=J2.mpr ⟨S.cand s hs j z,by simp[S.fre s hs j z]⟩
 rw[J]at this;cases this
theorem jc(ns:List Int)(D J:Option MV){C:List Int}:∀(n k:Nat),k+n=17->∀(T A:LL) (v:PV) (K:List Int) (r:Option Int) (Z x7 U Y:Option MV),(T=[]\/S39 C k T A v K) ->
  ∃(A':LL) (v':PV) (r':Option Int) (K':List Int) (y6 y7 y8 y9:Option MV),au (λx l=>exs (aa defs 78) dA (put l 6 (.val x))) ((range' k n).map λ(k:Nat)=>PV.int (k:Int)) (f39 ns D J T A v r K Z x7 U Y)=.next (f39 ns D J [] A' v' r' K' y6 y7 y8 y9)
 |0,k,hk,T,A,v,K,r,Z,x7,U,Y,h=>by
  have e:T=[]:=h.elim id λS=>by
   obtain rfl:k=17:=by omega
   exact IJ S
  subst e;exact⟨_,_,_,_,_,_,_,_,rfl⟩
 |n+1,k,hk,T,A,v,K,r,Z,x7,U,Y,h=>by
  rw[range'_succ,JX,au];by_cases hT:ab T=[]
  .have e:T=[]:=h.elim id λS=>wj hT S.nil
   subst e;have e1:=jk 77 [] (λ_ z=>by cases z);have e:exs (aa defs 78) dA (put (f39 ns D J [] A v r K Z x7 U Y) 6 (.val (.int k)))=.next (f39 ns D J [] A v r K (sv (.int k)) (sv (ofL (ab []))) U Y):=bR (ac rfl e1) (bX ((aL (p:=false) rfl).trans rfl));rw[e];exact jc (C:=C) ns D J n (k+1) (by omega) [] A v K r _ _ _ _ (.inl rfl)
  .rcases h with rfl|S
   .exact absurd rfl hT
   .obtain⟨T',A',v',r',K',y7,y8,y9,e,S'⟩:=Ga ns D J (by omega) S r Z x7 U Y hT;rw[e];exact jc ns D J n (k+1) (by omega) T' A' v' K' r' _ _ _ _ (.inr S')
def Gc(ns:List Int){x:LL×PV}{C:List Int}(hC:C.length<=13)(ok:StP x)(hc:∀s∈x.1,∀j∈s,j∈C)(t:Bool)(G:GAt x.2 x.1 t true 38 true)(G':∀N,38<=N->GAt x.2 x.1 t true N true):[]∉x.1/\aa defs 79 58 [.brw (ns.map .int),.val (am x),.val (.str (af t))]=some (.bl true):=by
 obtain⟨R,v⟩:=x;obtain⟨g,U,w⟩:=ok;have D:∀K,fL C K<=13:=λK=>r4 (Lk _ _) hC
 have fin:∀{T A:LL}{u:PV}{K:List Int}{r:Option Int},S39 C 0 T A u K->bf (exs (aa defs 78) [.for1 6 .rng [(ci 17)] dA,.ret (.cmp .eq (.blt .len [.bor 3]) (ci 0))] (f39 ns (sv (am (R,v))) (sv (.str (af t))) T A u r K none none none none))=some (.bl true):=λ{T A u K r} S=>by
  obtain⟨A',v',r',K',y6,y7,y8,y9,e⟩:=jc ns (sv (am (R,v))) (sv (.str (af t))) 17 0 (by decide) T A u K r none none none none (.inr S);refine Kj bf (oC (r:=.ret (.bl true)) (xs:=(range' 0 17).map λ(k:Nat)=>PV.int (k:Int)) ?_ e ?_)
  .rw[show evs (aa defs 78) [ci 17] (f39 ns (sv (am (R,v))) (sv (.str (af t))) T A u r K none none none none)=some [.int 17]from by simp[evs,ev],bind_some,jP (by decide) (by decide),range_eq_range']
   rfl
  .rw[ar,dJ (v:=.bl true)]
   .rfl
   .rfl
 cases t with
 |false =>
  have Y:=(ans w (by decide) R g U G).1;refine⟨Y,?_⟩;rw[ae (d:=jT) rfl rfl];refine aY (v:=ofR R) rfl (aY (v:=.tup [.non,ofR R,v]) rfl (cz (cJ (xs:=[]) rfl) (bP rfl ?_)));exact fin (K:=[]) (r:=none) ⟨g,g,w,G',dL R,Y,(λ_ _ _ _ z=>by cases z),hc,by decide,by have:=D [];omega,D []⟩
 |true =>
  obtain⟨r,A,u,gA,fA,F,Z,wu,lo⟩:=II w R g U G;have lo:below (bhd true R r) A=true:=lo;have nB:=(ans wu (by decide) A gA fA (Z 38 (by decide))).1;have nR:[]∉R:=λz=>nB (A0 lo (by
   cases r with
   |none=>exact z
   |some i=>exact J2.mpr ⟨z,by simp⟩))
  refine⟨nR,?_⟩;obtain⟨y,e5,_,_,hy⟩:=A1 77 r [] (pU (by decide));have J:below (hZ y R) A=true:=by
   cases r with
   |none=>exact l0 (eA λs hs=>⟨s,(J2.mp hs).1,aV.mpr λ_ z=>z⟩) lo
   |some i=>rw[hy i rfl (by simp)];exact lo
  have e6:=e_ 77 R y (r4 g.2.2 (by decide));rw[ae (d:=jT) rfl rfl];refine aY (v:=ofR R) rfl (aY (v:=.tup [.non,ofR R,v]) rfl (cz (cJ (xs:=[]) rfl) (cz ((aL (p:=true) rfl).trans (bR (ac (d9 rfl (d9 rfl rfl)) (F 78 (by decide))) (dB (i9 rfl (ac (d9 rfl (i8 rfl rfl)) e5) (by decide)) (bR (ac (i8 rfl (d9 rfl rfl)) e6) rfl)))) ?_)));exact fin (K:=[y]) (r:=r) ⟨lF g,gA,wu,Z,J,λz=>nR (J2.mp z).1,λs hs j hj z=>by
   rw[J9.mp z]at hj;have:=(J2.mp hs).2;simp at this;exact this hj,λs hs=>hc s (J2.mp hs).1,by simp,by have:=D [y];omega,D [y]⟩
def C3{x:LL×PV}{xs:List (LL×PV)}{C:List Int}(U:C.length<=13)(ns:List Int)(ok:StP x)(hc:∀s∈x.1,∀j∈s,j∈C)(t:Bool)(i:Int)(Y:0<=i)(Z:i<xs.length)(hx:xs[i.toNat]?=some x)(z x4:Option MV):exs (aa defs 79) qL (put [some (.brw (ns.map .int)),z,sv (.str (af t)),sv (.lst (xs.map am)),x4] 4 (.val (.int i)))=.next [some (.brw (ns.map .int)),z,sv (.str (af t)),sv (.lst (xs.map am)),sv (.int i)]:=by
 obtain⟨b,G⟩:=xw ok.2.2 x.1 ok.1 ok.2.1 t;have J:∀{e:ME}{y:PV},ev (aa defs 79) e [some (.brw (ns.map .int)),z,sv (.str (af t)),sv (.lst (xs.map am)),sv (.int i)]=some y->∀k:Int,ev (aa defs 79) (.idx e (ci k)) [some (.brw (ns.map .int)),z,sv (.str (af t)),sv (.lst (xs.map am)),sv (.int i)]=gW y (.int k):=λh k=>fF h (cG _ _ _)
 have D:ev (aa defs 79) (.idx (.bor 3) (.bor 4)) [some (.brw (ns.map .int)),z,sv (.str (af t)),sv (.lst (xs.map am)),sv (.int i)]=some (am x):=by
  rw[fF (x:=.lst (xs.map am)) (y:=.int i) rfl rfl,vW,iX Y (by rw[nA];exact Z),bind_some,Ka,hx]
  rfl
 have c:ev (aa defs 79) (.call 31 [(.idx (.idx (.bor 3) (.bor 4)) (ci 1)),(.idx (.idx (.bor 3) (.bor 4)) (ci 0)),.bor 2,(cs "moth")]) [some (.brw (ns.map .int)),z,sv (.str (af t)),sv (.lst (xs.map am)),sv (.int i)]=some (.bl b):=ac (d9 (J D 1) (d9 (J D 0) rfl)) (G 79 (by decide));cases b with
 |false=>exact bX ((aL c).trans rfl)
 |true =>
  obtain⟨nn,H⟩:=Gc ns U ok hc t (G 38 (by decide)) λN h=>G N (by omega)
  refine bX ((aL c).trans (Az (IC (p:=false) (q:=false) (AB ((lx [] x.1).trans (by rw[Kc nn])) rfl (J D 0)) λ_=>Ay (ac (i8 rfl (d9 D rfl)) H)) rfl))
theorem wl{xs:List (LL×PV)}{C:List Int}(J:C.length<=13)(ns:List Int)(ok:∀x∈xs,StP x/\∀s∈x.1,∀j∈s,j∈C)(t:Bool)(D:Option MV):∀(is:List Int),(∀i∈is,0<=i/\i<xs.length)->∀z,∃U,au (λv l=>exs (aa defs 79) qL (put l 4 (.val v))) (is.map .int) [some (.brw (ns.map .int)),D,sv (.str (af t)),sv (.lst (xs.map am)),z]=.next [some (.brw (ns.map .int)),D,sv (.str (af t)),sv (.lst (xs.map am)),U]
 | [],_,z=>⟨z,rfl⟩
 |i::is,hi,z=>by
  obtain⟨Y,Z⟩:=hi i (.head _);have hx:xs[i.toNat]?=some xs[i.toNat]:=J1 (by omega);have k:=ok _ (Lc hx);rw[JX,au,C3 J ns k.1 k.2 t i Y Z hx D z];exact wl J ns ok t D is (λj hj=>hi j (.tail _ hj)) _
def A3(ns:List Int)(hl:ns.length<=63):aa defs 80 59 [.brw (ns.map .int)]=some (.bl true):=by
 rw[ae (d:=vZ) rfl rfl];have e1:=uR 77 ns 0 2049848353892358983 (by decide);generalize gi (cellOf ns 0) 2049848353892358983=p at e1;obtain⟨t,ht⟩:∃t:Bool,∀J U D,ev (aa defs 79) (.idx (.lst [(cs "moth"),(cs "weaver")]) (.bin .mod (.bor 1) (ci 2))) [some (.brw (ns.map .int)),sv (.int p),J,U,D]=some (.str (af t)):=by
  have em:∀J U D,ev (aa defs 79) (.bin .mod (.bor 1) (ci 2)) [some (.brw (ns.map .int)),sv (.int p),J,U,D]=some (.int (p % 2)):=λ_ _ _=>(cy (x:=.int p) rfl (cG _ _ _)).trans rfl
  rcases Int.emod_two_eq p with h|h
  .rw[h]at em;exact⟨true,λ_ _ _=>(fF (x:=.lst [.str "moth",.str "weaver"]) rfl (em _ _ _)).trans rfl⟩
  .rw[h]at em;exact⟨false,λ_ _ _=>(fF (x:=.lst [.str "moth",.str "weaver"]) rfl (em _ _ _)).trans rfl⟩
 obtain⟨xs,eS,hx,ne,b,c,hb,hc,ok⟩:=xy ns hl t;have n0:0<xs.length:=Mq.mpr ne;have hC:(((range 12).map λ(k:Nat)=>b+(k:Int))++[c]).length<=13:=by simp
 have Y:∀x∈xs,StP x/\∀s∈x.1,∀j∈s,j∈((range 12).map λ(k:Nat)=>b+(k:Int))++[c]:=λx hx=>⟨(ok x hx).1,λs hs j hj=>by
  rcases(ok x hx).2 s hs j hj with z|z
  .exact Lb _ (mem_map.mpr ⟨(j-b).toNat,Lf.mpr (by omega),by omega⟩)
  .exact Kp _ (J9.mpr z)⟩
 obtain⟨y4,e⟩:=wl hC ns Y t (sv (.int p)) [0,xs.length-1,p / 2 % xs.length] (λi hi=>by
  rcases tf.mp hi with rfl|hi
  .omega
  rcases tf.mp hi with rfl|hi
  .omega
  rw[J9.mp hi];exact⟨KU _ (by omega),KL _ (by omega)⟩) none
 have eL:∀D,ev (aa defs 79) (.blt .len [.bor 3]) [some (.brw (ns.map .int)),sv (.int p),sv (.str (af t)),sv (.lst (xs.map am)),D]=some (.int xs.length):=λ_=>by
  rw[aN (v:=.lst (xs.map am)) rfl,zY,nA]
 have Z:ev (aa defs 79) (.lst [(ci 0),(.bin .sub (.blt .len [.bor 3]) (ci 1)),(.bin .mod (.bin .fdiv (.bor 1) (ci 2)) (.blt .len [.bor 3]))]) [some (.brw (ns.map .int)),sv (.int p),sv (.str (af t)),sv (.lst (xs.map am)),none]=some (.lst [.int 0,.int (xs.length-1),.int (p / 2 % xs.length)]):=by
  rw[ev,aS rfl (aS ((cy (eL _) (cG _ _ _)).trans rfl) (aS ((cy (v0 (x:=p) rfl (by decide)) (eL _)).trans ((qH _ _).trans (if_pos (by omega)))) rfl))]
  rfl
 refine aY (e1 _) (aY (ht _ _ _) (aY (ac rfl eS) (cz (l:=[some (.brw (ns.map .int)),sv (.int p),sv (.str (af t)),sv (.lst (xs.map am)),y4]) ((dX (xs:=([0,xs.length-1,p / 2 % xs.length]:List Int).map .int) (AD Z)).trans ?_) (h_ rfl))));show MM.R.back _ _ (au _ (([0,xs.length-1,p / 2 % xs.length]:List Int).map .int) [some (.brw (ns.map .int)),sv (.int p),sv (.str (af t)),sv (.lst (xs.map am)),none])=_;rw[e]
 rfl
noncomputable def top(i:Nat):Stmt:=PySem.Challenge.pw_mothloom_k39_whole_a_stand_of_the_moth.main.body.getD i (.Pass ⟨0,0,0,0⟩)
def Ge {l:PySem.W.OpenLaw}{w:World}{K:Nx}{h:Heap}{mg:Str->Option Value}{Z:Addr} (X:K.In h) (G:h.Ns mainGlobals mg) (J:mg "law"=some (.ref Z))
  (hs:uG K top defs [1,2,3,4,5,6,7,8,10,11,12,14,15,16,17,19,20,21,23,24,27,28,29,30,31,34,38,39,40,41,42,45,46,48,49,50,51,54,55,56,57,58,59,60,61,62,63,64,65,66,67,68,69,70,72,73,74,75,76,77] tab.ds) (hL:HD K "law" (top 77) vZ λfd=>∀(s:Shared) (v:Value),BindsTo s fd ⟨[v],[]⟩ [("script",v)])
  (zs:∀x∈ku,PySem.W.nsIn K mainGlobals x=some none)
  {z:Value} (g0:PySem.W.nsIn K mainGlobals "UNIT"=some (some z)) (r0:aF (toV (.int 1152921504606846976)) z)
 :∃fd:FuncData,(∀(s:Shared) (v:Value),BindsTo s fd ⟨[v],[]⟩ [("script",v)])/\∀base:Heap,K.In base->base.Ns mainGlobals mg->jD l.prog w K mg base CX0 80 Z fd ["script"] (spM K (aa defs 80) 59):=by
 obtain⟨_,U,D,Y⟩:=zU (T:=tab) X G hL (by kernel_rfl);cases J.symm.trans D.named;have pr:FA tab K mg defs:=by
  refine⟨rfl,Fz X G hs (by kernel_rfl),λx hx=>PySem.W.mg_none_of X G (zs x hx),λp hp=>?_⟩
  .simp only[tab,tf,LR,MH]at hp;rcases hp with rfl
   .exact⟨_,PySem.W.mg_of X G g0,r0⟩
 exact⟨U,Y,λbase _ _=>Ic (by decide) pr 80 59 vZ rfl _ _ _ D⟩
def JS{l:PySem.W.OpenLaw}{q:Program}{D:List Str}{Z:(Str->Option Value)->Heap->Prop}{U:World->Heap->Prop}{d:DefRec}{K:Params->Nx}(hn:l.most=some 63)(J:d.params.defaults=[])
  (hY:∀(w:World) (h:Heap),U w h->(K w.params).In h)
  (F:∀(w:World) (mg:Str->Option Value) (Y:Addr) (h:Heap),(K w.params).In h->h.Ns mainGlobals mg->mg d.name=some (.ref Y) ->
   ∃fd:FuncData,(∀(s:Shared) (u:Value),BindsTo s fd ⟨[u],[]⟩ [("script",u)])/\∀base:Heap,(K w.params).In base->base.Ns mainGlobals mg->jD l.prog w (K w.params) mg base CX0 80 Y fd ["script"] (spM (K w.params) (aa defs 80) 59)) :
  PySem.W.WalkO q D Z U l.row.toRowW d [] (λf vs=>PySem.call f vs):=
 L2.BA (n:=63) (k:=80) (x:="script") (CX:=λ_=>CX0) (sp:=λw=>spM (K w.params) (aa defs 80) 59) hn (by decide) J ⟨rfl,by decide,by decide⟩ hY F (λ_ _ a ns hl _ hS=>FB (A3 ns hl) hS) λ_ _ _ _ _ z=>z
end My
open PySem PySem.W PyProof.Rows List Option
set_option maxRecDepth 100000 in
set_option maxHeartbeats 0 in
theorem PySem.Challenge.cw_mothloom_k39_whole_a_stand_of_the_moth_holds : PySem.Challenge.rw_mothloom_k39_whole_a_stand_of_the_moth.Holds := by
 w_on;o_law;k_head;(case hw=>w_witness2)
 k_fill
 refine My.JS (l:=PySem.Challenge.rw_mothloom_k39_whole_a_stand_of_the_moth) rfl rfl (λw h Y=>PySem.W.kIn_of Y) ?F
 case F =>
  intro w mg fa h KX G hmg
  refine' My.Ge KX G hmg ?hs ?hL ?zs ?gq0 ?rq0
  (case hs =>
   repeat' first|exact MM.uG.nil|apply MM.uG.cons
   all_goals (conv=>arg 2;whnf)
   all_goals first
    | (refine' ⟨rfl,_,_,?ka,.mk' (d0:=.none) ?kl ?kc ?kk,MM.bn1 λ_=>rfl,trivial⟩;(case ka=>k_is);(case kl=>k_is);(case kc=>k_is);(case kk=>k_is))
    | (refine' ⟨rfl,_,_,?ka,.mk' (d0:=.none) ?kl ?kc ?kk,MM.bn2 λ_ _=>rfl,trivial⟩;(case ka=>k_is);(case kl=>k_is);(case kc=>k_is);(case kk=>k_is))
    | (refine' ⟨rfl,_,_,?ka,.mk' (d0:=.none) ?kl ?kc ?kk,MM.bn3 λ_ _ _=>rfl,trivial⟩;(case ka=>k_is);(case kl=>k_is);(case kc=>k_is);(case kk=>k_is))
    | (refine' ⟨rfl,_,_,?ka,.mk' (d0:=.none) ?kl ?kc ?kk,MM.bn4 λ_ _ _ _=>rfl,trivial⟩;(case ka=>k_is);(case kl=>k_is);(case kc=>k_is);(case kk=>k_is))
    | (refine' ⟨rfl,_,_,?ka,.mk' (d0:=.none) ?kl ?kc ?kk,MM.bn5 λ_ _ _ _ _=>rfl,trivial⟩;(case ka=>k_is);(case kl=>k_is);(case kc=>k_is);(case kk=>k_is))
    | (refine' ⟨rfl,_,_,?ka,.mkd ?kl ?kc ?kk,?kb,trivial⟩;(case ka=>k_is);(case kl=>k_is);(case kc=>k_is);(case kk=>k_is);(case kb=>refine' MM.uF rfl ?kx ?ky;(case kx=>k_is);(case ky=>exact λus hl=>match us,hl with|[_,_],_=>⟨_,rfl,rfl⟩))))
  (case hL=>refine' ⟨rfl,_,_,?ka,.mk' (d0:=.none) ?kl ?kc ?kk,MM.bn1 λ_=>rfl,λs v=>.of_eq rfl⟩;(case ka=>k_is);(case kl=>k_is);(case kc=>k_is);(case kk=>k_is))
  (case zs=>intro x hx;simp only[MM.ku,tf,LR,MH]at hx;rcases hx with rfl|rfl|rfl|rfl|rfl|rfl|rfl|rfl|rfl|rfl|rfl|rfl|rfl|rfl|rfl|rfl|rfl<;>k_is)
  (case gq0=>k_is);(case rq0=>exact⟨_,rfl⟩)
