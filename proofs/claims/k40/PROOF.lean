import PyProof.Rows.All
import Wide.All
import OpenK.AllK
import Wide.FinOn
import Lean
import PyProof.EqAt
import PyProof.EqKinds
import PyProof.TupleCall
import PySem.Challenge.RW_mothloom_k40_whole_a_stand_of_the_weaver
set_option Elab.async false
set_option linter.all false
set_option maxRecDepth 100000
set_option genSizeOf false
set_option backward.eqns.nonrecursive false
set_option bootstrap.genMatcherCode false
def eh:=@PySem.wpAny_bind
def ez:=@Option.bind_eq_some_iff
def gf:=@PySem.wpAny_pure
def gk:=@PySem.Heap.get?_push_of_some
def gx:=@Nat.le_refl
def g4:=@Bool.and_eq_true_iff
def il:=@Bool.and_eq_true
def mu:=@Bool.false_ne_true
def mx:=@Option.map_eq_some_iff
def nR:=@List.length_map
def oe:=@List.size_toArray
def pb:=@PySem.Heap.lt_size
def pd:=@Option.some.injEq
def pe:=@PySem.Heap.get?_push_size
def r4:=@Nat.le_trans
def tf:=@List.mem_cons
def tr:=@Nat.ne_of_lt
def uw:=@Nat.lt_of_lt_of_le
def wh:=@List.length_append
def y1:=@List.getElem?_eq_some_iff
def JO:=@List.map_cons
def JP:=@Option.some.inj
def JQ:=@beq_iff_eq
def JR:=@List.getElem?_eq_getElem
def JS:=@decide_eq_true
def JT:=@List.map_map
def JU:=@List.mem_filter
def JV:=@Bool.false_eq_true
def JW:=@PySem.wpAny_loadPart'
def JX:=@Bool.not_eq_true'
def JY:=@List.mem_singleton
def JZ:=@List.getElem?_map
def J0:=@decide_eq_false
def J1:=@PySem.wpAny_setState_of
def J2:=@Nat.zero_le
def J3:=@PySem.wpAny_ite_split
def J4:=@PySem.Heap.size_push
def J5:=@congrArg
def J6:=@List.getElem?_set_ne
def J7:=@PySem.wpAny_call_entry
def J8:=@PySem.Heap.SameBut.update
def J9:=@Nat.lt_succ_of_lt
def Ka:=@Nat.lt_of_le_of_lt
def Kb:=@decide_eq_true_iff
def Kc:=@of_decide_eq_true
def Kd:=@PySem.wpAny_mono
def Ke:=@PySem.sizeLine_eq
def Kf:=@Nat.lt_irrefl
def Kg:=@PySem.wpAny_holding
def Kh:=@List.nodup_cons
def Ki:=@PySem.Heap.get?_update_self
def Kj:=@Array.getElem?_toList
def Kk:=@PySem.wpAny_newObj_type
def Kl:=@PyProof.Rows.slot_tuple_getitem
def Km:=@PySem.wpAny_callSpecial?_slot
def Kn:=@List.length_eq_zero_iff
def Ko:=@List.map_append
def Kp:=@Int.emod_lt_of_pos
def Kq:=@List.mem_append_right
def Kr:=@Nat.le_succ
def Ks:=@decide_eq_true_eq
def Kt:=@List.getD_eq_getElem?_getD
def Ku:=@List.mem_cons_of_mem
def Kv:=@Bool.eq_iff_iff
def Kw:=@Int.emod_nonneg
def Kx:=@PyProof.Rows.callWith_type1
def Ky:=@Nat.add_right_comm
def Kz:=@List.filter_cons_of_neg
def KA:=@PySem.Heap.get?_update_other
def KC:=@Nat.le_antisymm
def KD:=@Nat.not_lt
def KG:=@Nat.ne_of_gt
def KH:=@if_false
def KI:=@Nat.add_sub_cancel
def KJ:=@PySem.wpAny_isInstance
def KL:=@List.mem_cons_self
def KN:=@List.getElem?_append_left
def KP:=@PySem.wpAny_truthy_bool
def KQ:=@Nat.le_of_lt_succ
def KR:=@PyProof.Rows.KeyOrd.kle_refl
def KS:=@List.append_assoc
def KU:=@List.map_congr_left
def KW:=@List.filter_cons_of_pos
def KY:=@List.perm_ext_iff_of_nodup
def KZ:=@Nat.le_of_lt
def K0:=@List.append_nil
def K1:=@List.mem_of_getElem?
def K2:=@List.getElem?_set_self
def K3:=@PySem.fits_of_scanBound
def K4:=@List.mem_range
def K5:=@List.nodup_nil
def K6:=@Nat.exists_eq_add_of_lt
def K7:=@beq_eq_false_iff_ne
def K8:=@List.any_eq_true
def K9:=@List.filter_eq_self
def La:=@List.mem_append
def Lb:=@List.not_mem_nil
def Lc:=@PySem.wpAny_Call_Name_kw
def Ld:=@Array.getD_eq_getD_getElem?
def Le:=@Nat.lt_of_le_of_ne
def Lf:=@PySem.wpAny_setField_rec
def Lg:=@Int.le_trans
def Lh:=@List.getElem?_append_right
def Li:=@PySem.Heap.SameBut.refl
def Lj:=@PySem.wpAny_storeSet_of
def Lk:=@PySem.wpAny_setEpoch_of
def Ll:=@PySem.wpAny_rule
def Lm:=@List.isEmpty_iff
def Ln:=@beq_self_eq_true
def Lo:=@List.all_eq_true
def Lp:=@Nat.zero_add
def Lq:=@Nat.lt_succ_self
def Lr:=@Ne.symm
def Ls:=@List.pairwise_cons
def Lu:=@PySem.tupleKind_room_in1
def Lv:=@Nat.le_add_left
def Lw:=@Array.size_extract
def Lx:=@Nat.min_eq_left
def Ly:=@PySem.F.slot_dict_valueiterator_next
def Lz:=@PySem.richCompare_meets_room
def LA:=@PySem.Calls.callWith_builtin
def LB:=@Array.getElem?_eq_none
def LC:=@PySem.wpAny_pyIter_list
def LD:=@Nat.le_of_succ_le
def LF:=@PyProof.Rows.KeyOrd.kle_of_klt
def LG:=@bne_self_eq_false
def LH:=@List.length_eq_one_iff
def LI:=@List.find?_cons_of_neg
def LJ:=@PySem.codeAny_mono
def LK:=@PySem.wpAny_typeOf
def LM:=@Nat.le_of_eq
def LN:=@Nat.lt_trans
def LO:=@PySem.builtinLookup_eq_fast
def LP:=@List.length_eraseIdx_of_lt
def LQ:=@List.nodup_append
def LR:=@PyProof.Rows.KeyOrd.kle_trans
def LS:=@Nat.le_sub_one_of_lt
def LU:=@List.perm_append_comm
def LV:=@or_false
def LW:=@List.length_filter_le
def LX:=@Nat.add_le_add_right
def LY:=@Array.perm_iff_toList_perm
def LZ:=@Bool.not_true
def L0:=@Int.le_refl
def L1:=@List.filterMap_cons_some
def L3:=@PySem.wpAny_passesOwn
def L4:=@PySem.W.KasT.kasWp_bind
def L5:=@Array.getElem?_eq_getElem
def L6:=@PySem.wpAny_pyIter_tuple
def L7:=@PySem.Calls.spliced_cons
def L8:=@List.getElem?_replicate
def L9:=@PySem.AutoSeq1.sub_tuple_tuple
def Ma:=@List.eq_nil_of_length_eq_zero
def Mb:=@List.length_set
def Mc:=@Nat.sub_le
def Md:=@Array.size_map
def Me:=@List.length_pos_iff
def Mf:=@Nat.lt_trichotomy
def Mg:=@PySem.wpAny_collect_seq
def Mh:=@Nat.lt_of_succ_lt_succ
def Mi:=@LawfulMonad.bind_assoc
def Mj:=@PySem.plainId_quiet
def Mk:=@PySem.wpAny_attempt
def Ml:=@Nat.le_add_right
def Mm:=@Bool.not_eq_true
def Mn:=@List.mem_append_left
def Mo:=@PySem.wpAny_specialOf
def Mp:=@List.all_map
def Mq:=@PySem.codeAny_builtin
def Mr:=@PySem.Around.under_plainId
def Ms:=@PySem.typeLookup_type
def Mt:=@PySem.wpAny_updateSeq
def Mu:=@List.length_range
def Mv:=@List.cons.injEq
def Mw:=@List.drop_eq_getElem_cons
def Mx:=@List.exists_mem_of_ne_nil
def Mz:=@Nat.add_sub_cancel'
def MA:=@PySem.wpAny_setEntries_of
def MB:=@List.filterMap_cons_none
def MC:=@List.mem_map_of_mem
def MF:=@Bool.false_and
def MG:=@PySem.isSubtype_type
def MH:=@PySem.wpAny_fieldsOf
def MI:=@List.getElem_of_mem
def MJ:=@Option.map_map
def MK:=@PySem.wpAny_of_eq
def ML:=@List.getElem_mem
def MN:=@Nat.lt_or_eq_of_le
def MO:=@PySem.wpAny_forIn_array'
def MP:=@Int.fdiv_eq_ediv_of_nonneg
def MQ:=@Array.getElem?_append_left
def MR:=@List.find?_eq_none
def MT:=@PySem.Value.isInt_shape
def MU:=@PySem.Calls.spliced_nil
def MW:=@List.take_of_length_le
def MX:=@PySem.wpAny_pyIter_slot
def MY:=@List.find?_cons_of_pos
def MZ:=@List.filter_eq_nil_iff
def M0:=@PySem.call_meets
def M1:=@PySem.intKind_is
def M3:=@Classical.byContradiction
def M4:=@PySem.concat_meets
def M5:=@PySem.noFill_tuple_add
def M6:=@Nat.lt_asymm
def M7:=@List.ext_getElem?
def M8:=@map_eq_pure_bind
def M9:=@Nat.min_self
def Na:=@PySem.wpAny_askSetting
def Nb:=@decide_eq_decide
def Nc:=@Int.add_zero
def Nd:=@Int.le_antisymm
def Nf:=@Bool.or_eq_true
def Ng:=@List.length_take
def Nh:=@List.mem_reverse
def Ni:=@Nat.sub_lt
def Nj:=@Nat.mod_lt
def Nk:=@Bool.true_and
abbrev Nl:=PySem.W.Frag
def aC{P:Prop}(h:∀Q:Prop,(P->Q)->Q):P:=h P id
namespace L2
open PySem PySem.Spec PyProof.Rows List Option
noncomputable abbrev Key:=Sum Int Str
noncomputable def lf:Key->Value->Bool
 | .inl k,v=>Value.isInt k v
 | .inr x,v=>Value.isStrOf x v
noncomputable def IU(w:World):Key->Int
 | .inl k=>hashInt k
 | .inr x=>hashStr w x
def bO:∀{k}{v},lf k v=true->(∃i t,k=Sum.inl i/\v=Value.int i t)\/(∃x t,k=Sum.inr x/\v=Value.str x t)
 | .inl i,v,h=>by
  obtain⟨t,e⟩:=MT (k:=i) (v:=v) h;exact .inl ⟨i,t,rfl,e⟩
 | .inr x,v,h=>by
  obtain⟨t,e⟩:=Value.isStrOf_shape (x:=x) (v:=v) h;exact .inr ⟨x,t,rfl,e⟩
def wn(i)(t):lf (.inl i) (.int i t)=true:=by simp[lf,Value.isInt]
def wo(x)(t):lf (.inr x) (.str x t)=true:=by simp[lf,Value.isStrOf]
def Dx(a b):decide ((Sum.inl a:Key)=Sum.inl b)=(a==b):=by
 by_cases e:a=b
 .subst e;simp
 .simp_all
def Dy(a b):decide ((Sum.inr a:Key)=Sum.inr b)=decide (a=b):=by simp
def Dz(a)(b):decide ((Sum.inl a:Key)=Sum.inr b)=false:=rfl
def DA(a)(b):decide ((Sum.inr a:Key)=Sum.inl b)=false:=rfl
noncomputable def bC(prog)(w):PySem.KeyKind prog w Key where
 is:=lf
 hash:=IU w
 inj:=λv a b U J=>by
  rcases bO U with⟨i,t,rfl,rfl⟩|⟨x,t,rfl,rfl⟩
  .rcases bO J with⟨j,u,rfl,e⟩|⟨y,u,rfl,e⟩
   .injection e with z _;rw[z]
   .exact nomatch e
  .rcases bO J with⟨j,u,rfl,e⟩|⟨y,u,rfl,e⟩
   .exact nomatch e
   .injection e with z _;rw[z]
 byValue:=λk v h=>by
  rcases bO h with⟨i,t,rfl,rfl⟩|⟨x,t,rfl,rfl⟩<;>rfl
 pyHash:=λhv h=>by
  rcases bO hv with⟨i,t,rfl,rfl⟩|⟨x,t,rfl,rfl⟩
  .exact wpAny_pyHash_int h
  .exact wpAny_pyHash_str h
 eqBool:=λY hv h=>by
  rcases bO Y with⟨i,t,rfl,rfl⟩|⟨x,t,rfl,rfl⟩
  .rcases bO hv with⟨j,u,rfl,rfl⟩|⟨y,u,rfl,rfl⟩
   .rw[Dx]at h;exact wpAny_eqBool_int h
   .rw[Dz]at h;exact SeqAt.EqAt.int_str i t y u _ _ _ _ h
  .rcases bO hv with⟨j,u,rfl,rfl⟩|⟨y,u,rfl,rfl⟩
   .rw[DA]at h;exact SeqAt.EqAt.str_int x t j u _ _ _ _ h
   .rw[Dy]at h;exact wpAny_eqBool_str h
 «strs»:=λk x t v h=>by
  rcases bO h with⟨i,u,rfl,e⟩|⟨y,u,rfl,e⟩
  .exact nomatch e
  .injection e with z _
   subst z;cases v<;>rfl
def tm(prog:Program)(w:World)(k:Key)(v:Value):(bC prog w).is k v=lf k v:=rfl
def q8(prog)(w)(i)(t):(bC prog w).is (.inl i) (.int i t)=true:=wn i t
def q_(prog)(w)(x)(t):(bC prog w).is (.inr x) (.str x t)=true:=wo x t
inductive V where
 | non|bl (b:Bool)|int (i:Int)|str (x:Str)|byt (b:Array UInt8)|flt (b:UInt64)|ref (a:Addr)|ty (n:String)
 deriving DecidableEq
def aE:V->Value->Prop
 | .non,u=>u=Value.none
 | .bl b,u=>u=Value.bool b
 | .int i,u=>∃t,u=Value.int i t
 | .str x,u=>∃t,u=Value.str x t
 | .byt b,u=>∃t,u=Value.bytes b t
 | .flt b,u=>∃t,u=Value.float b t
 | .ref a,u=>u=Value.ref a
 | .ty n,u=>u=Value.type n
abbrev aG:List V->List Value->Prop:=Paired aE
theorem aG.length(r:aG xs us):xs.length=us.length:=Paired.length r
theorem aG.get:∀{xs}{us}{i:Nat}{x},aG xs us->xs[i]?=some x->∃u,us[i]?=some u/\aE x u
 | _,_,_,_,.nil,e=>by simp at e
 | _,_,0,_,.cons r _,e=>by simp at e;subst e;exact⟨_,rfl,r⟩
 | _,_,i+1,x,.cons _ t,e=>by
  obtain⟨u,h1,h2⟩:=aG.get (i:=i) (x:=x) t (by simpa using e);exact⟨u,by simpa using h1,h2⟩
theorem aG.set(r:aE x u):∀{xs}{us} i,aG xs us->aG (xs.set i x) (us.set i u)
 | _,_,_,.nil=>.nil
 | _,_,0,.cons _ t=>.cons r t
 | _,_,i+1,.cons q t=>.cons q (aG.set r i t)
theorem aG.append:∀{xs ys}{us z},aG xs us->aG ys z->aG (xs++ys) (us++z)
 | _,_,_,_,.nil,s=>s
 | _,_,_,_,.cons r t,s=>.cons r (aG.append t s)
theorem aG.take:∀{xs}{us} n,aG xs us->aG (xs.take n) (us.take n)
 | _,_,0,_=>.nil
 | _,_,_+1,.nil=>.nil
 | _,_,n+1,.cons r t=>.cons r (aG.take n t)
theorem aG.drop:∀{xs}{us} n,aG xs us->aG (xs.drop n) (us.drop n)
 | _,_,0,r=>r
 | _,_,_+1,.nil=>.nil
 | _,_,n+1,.cons _ t=>aG.drop n t
def lL:Option V->Option Value->Prop
 |some v,some u=>aE v u
 |none,none=>True
 | _,_=>False
def KV :List (g×V)->List (g×Value)->Prop:=Paired λp q=>p.1=q.1/\aE p.2 q.2
noncomputable def kV:Key->V
 | .inl i=>.int i
 | .inr x=>.str x
inductive HO where
 | lst (xs:List V)
 | tup (xs:List V)
 | dK (kvs:List (Key×V))|dT (kvs:List (List Key×V))
 | set (S:Int->Bool) (n:Nat)
 | ins (C dx:Addr) (fs:List (Str×V))
 | own (x:Addr)
 | xd (fs:List (Str×V))
 | met (f x:Addr)
 | rng (lo hi:Int)
 | frz (o:Obj) (u:HO)
 | tbl (ps:Array Value)
 | ext (φ:Heap->Prop)
noncomputable abbrev Hp:=Addr->Option HO
noncomputable def upd(H:Hp)(a:Addr)(o:HO):Hp:=λb=>if b=a then some o else H b
def az :upd H a o a=some o:=by unfold upd;rw[if_pos rfl]
def aW(h:b≠a):upd H a o b=H b:=by unfold upd;rw[if_neg h]
def Gw{H:Hp}{a b:Addr}{o u:HO}(h:H a=some o)(h':H b=some u)(d:o≠u):a≠b:=by
 intro e;subst e;rw[h]at h';exact d (JP h')
def cn{H:Hp}{a b:Addr}{o:HO}(h:H a=some o)(h':H b=none):a≠b:=by
 intro e;subst e;rw[h]at h';cases h'
section
variable(P:Program)(w:World)
def bI(H:Hp)(h:Heap)(a:Addr):HO->Prop
 | .lst xs=>xs.length<=sizeLine/\∃its n,aG xs its/\h.get? a=some { cls:=.type "list",data:=.seq its.toArray n }
 | .tup xs=>xs.length<=sizeLine/\∃its,aG xs its/\IsTup h a its.toArray
 | .dK kvs=>kvs.length<=sizeLine/\(a==sysModules)=false/\∃vs,KV kvs vs/\h.DictOf (bC P w) a vs
 | .dT kvs=>kvs.length<=sizeLine/\(a==sysModules)=false/\∃xs,
   Paired (λp q=>p.1=q.1/\H q.2.1=some (.tup (p.1.map kV))/\aE p.2 q.2.2) kvs xs /\
   ∃o es ep,h.get? a=some o/\o.ExactDict/\o.data=.dict es ep/\es.toList=xs.map (entryOfKey (tupleKind (bC P w)))/\(xs.map (·.1)).Nodup
 | .set S n=>h.SetOf (intKind P w) a S n
 | .ins C dx fs=>H dx=some (.own a)/\fs.length<=1000/\dx≠a/\h.get? a=some (PySem.W.instObj C dx) /\
   ∃mA,h.Ns1 dx mA/\(∀f,lL (fs.lookup f) (mA f))/\PySem.Within mA (fs.map (·.1))
 | .own _=>∃o,h.get? a=some o
 | .xd fs=>∃mA,h.Ns1 a mA/\∀f,lL (fs.lookup f) (mA f)
 | .rng lo hi=>∃t u v,h.get? a=some { cls:=.type "range",data:=.fields #[.int lo t,.int hi u,.int 1 v] }
 | .frz o u=>h.get? a=some o/\bI H h a u
 | .tbl ps=>h.get? a=some { cls:=.none,data:=.fields ps }
 | .met f x=>h.get? a=some (PySem.W.methodObj (.ref f) (.ref x))
 | .ext z=>z h/\(∃o,h.get? a=some o)/\∀h1 h2,z h1->(∀o,h1.get? a=some o->h2.get? a=some o)->z h2
def HOk(H:Hp)(h:Heap):Prop:=∀a o,H a=some o->bI P w H h a o
end
section
variable{P:Program}{w:World}{H H':Hp}{h h':Heap}{a:Addr}{o:HO}
theorem bI.lt(x:bI P w H h a o):a<h.objs.size:=by
 cases o with
 |own y=>obtain⟨_,e⟩:=x;exact pb e
 |xd fs=>obtain⟨_,⟨_,_,_,e,_⟩,_⟩:=x;exact pb e
 |ext z=>obtain⟨_,⟨_,e⟩,_⟩:=x;exact pb e
 |lst xs=>obtain⟨_,_,_,_,e⟩:=x;exact pb e
 |tup xs=>obtain⟨_,_,_,p⟩:=x;exact p.lt
 |set S n=>obtain⟨o,_,_,_,e,_⟩:=x;exact pb e
 |frz J u=>obtain⟨e,_⟩:=x;exact pb e
 |rng lo hi=>obtain⟨_,_,_,e⟩:=x;exact pb e
 |ins C dx fs=>obtain⟨_,_,_,e,_⟩:=x;exact pb e
 |dK kvs|dT kvs=>obtain⟨_,_,_,_,o,_,_,e,_⟩:=x;exact pb e
 | _=>exact pb (show h.get? a=some _ from x)
theorem Paired.mapP :∀{l₁}{z},Paired F l₁ z->(∀a b,F a b->G a b)->Paired G l₁ z
 | _,_,.nil,_=>.nil
 | _,_,.cons r t,f=>.cons (f _ _ r) (Paired.mapP t f)
def bI.stay(x:bI P w H h a o)(k:∀b u,(b=a\/H b=some (.own a))->h.get? b=some u->h'.get? b=some u)
  (ho:∀b,H b=some (.own a)->H' b=some (.own a)) (Y:∀b xs,H b=some (.tup xs)->H' b=some (.tup xs)):bI P w H' h' a o:=by
 induction o with
 |lst xs=>obtain⟨z,its,n,r,e⟩:=x;exact⟨z,its,n,r,k _ _ (.inl rfl) e⟩
 |tup xs=>obtain⟨z,its,r,J,e,c⟩:=x;exact⟨z,its,r,J,k _ _ (.inl rfl) e,c⟩
 |dK kvs=>obtain⟨z,y,vs,r,J,es,ep,e,c⟩:=x;exact⟨z,y,vs,r,J,es,ep,k _ _ (.inl rfl) e,c⟩
 |dT kvs =>
  obtain⟨z,y,xs,r,J,es,ep,e,c⟩:=x;exact⟨z,y,xs,Paired.mapP r λp q z=>⟨z.1,Y _ _ z.2.1,z.2.2⟩,J,es,ep,k _ _ (.inl rfl) e,c⟩
 |set S n=>obtain⟨J,es,ep,t,e,c⟩:=x;exact⟨J,es,ep,t,k _ _ (.inl rfl) e,c⟩
 |ins C dx fs =>
  obtain⟨d,z,ne,e,mA,⟨U,es,ep,Z,c⟩,r⟩:=x;exact⟨ho _ d,z,ne,k _ _ (.inl rfl) e,mA,⟨U,es,ep,k _ _ (.inr d) Z,c⟩,r⟩
 |own y=>obtain⟨J,e⟩:=x;exact⟨J,k _ _ (.inl rfl) e⟩
 |xd fs=>obtain⟨mA,⟨U,es,ep,e,c⟩,r⟩:=x;exact⟨mA,⟨U,es,ep,k _ _ (.inl rfl) e,c⟩,r⟩
 |rng lo hi=>obtain⟨t,u,v,e⟩:=x;exact⟨t,u,v,k _ _ (.inl rfl) e⟩
 |frz J u ih=>obtain⟨e,q⟩:=x;exact⟨k _ _ (.inl rfl) e,ih q⟩
 |tbl ps =>
  have e:=x;exact k a _ (.inl rfl) e
 |met f y =>
  have e:=x;exact k a _ (.inl rfl) e
 |ext φ=>obtain⟨p,⟨o,e⟩,st⟩:=x;exact⟨st _ _ p λo q=>k _ _ (.inl rfl) q,⟨o,k _ _ (.inl rfl) e⟩,st⟩
theorem HOk.lt(x:HOk P w H h)(e:H a=some o):a<h.objs.size:=(x a o e).lt
def HOk.fresh(x:HOk P w H h)(e:h.objs.size<=a):H a=none:=by
 cases q:H a<;>first|rfl|exact absurd (uw (x.lt q) e) (Kf _)
theorem HOk.kept(x:HOk P w H h)(k:∀b u,h.get? b=some u->h'.get? b=some u):HOk P w H h':=λa o e =>
 (x a o e).stay (λb u _ q=>k b u q) (λ_ q=>q) λ_ _ q=>q
theorem HOk.laid(x:HOk P w H h)(k:∀b u,h.get? b=some u->h'.get? b=some u)(U:h.objs.size<=a)(new:bI P w (upd H a o) h' a o):HOk P w (upd H a o) h':=λb u e=>by
 have z:=x.fresh U;by_cases J:b=a
 .subst J;rw[az]at e;cases e;exact new
 .rw[aW J]at e;exact(x b u e).stay (λc v _ q=>k c v q) (λc q=>by rw[aW (cn q z)];exact q) λc xs q=>by rw[aW (cn q z)];exact q
end
def Rd(H:Hp)(a:Addr)(u:HO):Prop:=H a=some u\/∃o,H a=some (.frz o u)
theorem Rd.ok(r:Rd H a u)(x:HOk P w H h):bI P w H h a u:=by
 rcases r with r|⟨o,r⟩
 .exact x a u r
 .obtain⟨_,q⟩:=x a _ r;exact q
def Mut:Option HO->Prop
 |some (.lst _)=>True
 |some (.dK _)=>True
 |some (.dT _)=>True
 |some (.set _ _)=>True
 |some (.ins _ _ _)=>True
 |some (.ext _)=>True
 | _=>False
section
variable{P:Program}{w:World}{H:Hp}{h h':Heap}{x e:Addr}{o':HO}
def HOk.write(ok:HOk P w H h)(Z:Mut (H x))(he:e=x\/H e=some (.own x))(k:∀b u,b≠e->h.get? b=some u->h'.get? b=some u)(ao:∃u,h'.get? e=some u)
  (new:bI P w (upd H x o') h' x o'):HOk P w (upd H x o') h':=λb u q=>by
 have U:∀c y,H c=some (.own y)->c≠x:=λc y r z=>by subst z;rw[r]at Z;exact Z
 have Y:∀c xs,H c=some (.tup xs)->c≠x:=λc xs r z=>by subst z;rw[r]at Z;exact Z
 by_cases hb:b=x
 .subst hb;rw[az]at q;cases q;exact new
 .rw[aW hb]at q;by_cases J:b=e
  .have q':H b=some (.own x):=by
    rcases he with z|z
    .exact absurd (J.trans z) hb
    .rw[J];exact z
   rw[q]at q';cases q'
   obtain⟨v,hv⟩:=ao;exact⟨v,by rw[J];exact hv⟩
  .refine(ok b u q).stay (λc v hc r=>k c v ?_ r) (λc r=>by rw[aW (U c b r)];exact r) λc xs r=>by rw[aW (Y c xs r)];exact r
   rcases hc with rfl|hc
   .exact J
   .rintro rfl
    simp_all
end
structure Un(fs ex:List Addr)(H H':Hp)(h h':Heap):Prop where
 keep:∀b o,h.get? b=some o->H b=none->b∉fs->b∉ex->h'.get? b=some o
 slot:∀b o,h.get? b=some o->H b=none->b∈fs->b∉ex->∃sl,h'.get? b=some { o with slots:=sl }
 free:∀b o,h.get? b=some o->H b=none->b∉ex->H' b=none
 there:∀b o,h.get? b=some o->b∉ex->∃o',h'.get? b=some o'
 tups:∀b xs,H b=some (.tup xs)->H' b=some (.tup xs)
 frzs:∀b o u,H b=some (.frz o u)->H' b=some (.frz o u)
 tbls:∀b ps,H b=some (.tbl ps)->∃more,H' b=some (.tbl (ps++more))
section
variable{fs fs' ex ex':List Addr}{H H1 H2:Hp}{h h1 h2 h':Heap}{a x e:Addr}{o:HO}
theorem Un.any(u:Un fs ex H H1 h h1)(q:h.get? b=some z)(n:H b=none)(hx:b∉ex):∃U,h1.get? b=some { z with slots:=U }:=by
 by_cases J:b∈fs
 .exact u.slot b z q n J hx
 .exact⟨z.slots,u.keep b z q n J hx⟩
def Un.kept(k:∀b u,h.get? b=some u->h'.get? b=some u):Un fs ex H H h h':=
 ⟨λb z q _ _ _=>k b z q,λb z q _ _ _=>⟨z.slots,k b z q⟩,λ_ _ _ n _=>n,λb z q _=>⟨z,k b z q⟩,λ_ _ q=>q,λ_ _ _ q=>q,λ_ ps q=>⟨#[],by rw[q];simp⟩⟩
def Un.refl:Un fs ex H H h h:=Un.kept λ_ _ q=>q
def Un.laid(k:∀b u,h.get? b=some u->h'.get? b=some u)(J:h.objs.size<=a)(z:H a=none):Un fs ex H (upd H a o) h h' where
 keep:=λb u q _ _ _=>k b u q
 slot:=λb u q _ _ _=>⟨u.slots,k b u q⟩
 free:=λb u q n _=>by rw[aW (tr (uw (pb q) J))];exact n
 there:=λb u q _=>⟨u,k b u q⟩
 tups:=λb xs q=>by rw[aW (cn q z)];exact q
 frzs:=λb u xs q=>by rw[aW (cn q z)];exact q
 tbls:=λb ps q=>⟨#[],by rw[aW (cn q z),q];simp⟩
def Un.write(U:Mut (H x))(he:e=x\/H e=some (.own x))(k:∀b u,b≠e->h.get? b=some u->h'.get? b=some u)(Y:∃u,h'.get? e=some u):Un fs ex H (upd H x o) h h':=by
 have hx:∀b,H b=none->b≠x:=λb n z=>by subst z;rw[n]at U;exact U
 have hb:∀b,H b=none->b≠e:=λb n z=>by
  simp_all
 have Z:∀b u,H b=some u->¬ Mut (some u)->b≠x:=λb u q nm z=>by subst z;rw[q]at U;exact nm U
 refine⟨λb u q n _ _=>k b u (hb b n) q,λb u q n _ _=>⟨u.slots,k b u (hb b n) q⟩,λb u q n _=>by rw[aW (hx b n)];exact n,λb u q _=>?_,
  λb xs q=>by rw[aW (Z b _ q λz=>z)];exact q,λb u xs q=>by rw[aW (Z b _ q λz=>z)];exact q,λb ps q=>⟨#[],by rw[aW (Z b _ q λz=>z),q];simp⟩⟩
 by_cases J:b=e
 .subst J;exact Y
 .exact⟨u,k b u J q⟩
end
noncomputable def trk(h:Heap)(H:Hp):List Addr:=(range h.objs.size).filter λa=>(H a).isSome
noncomputable def pX(h:Heap)(H:Hp):Heap:=PySem.W.hideAll h (trk h H)
def wq(h)(H):(pX h H).objs.size=h.objs.size:=PySem.W.hideAll_size _ _
def xJ{H:Hp}{b:Addr}{o:Obj}(e:h.get? b=some o)(n:H b=none):(pX h H).get? b=some o:=
 PySem.W.hideAll_get _ e λhm=>by
  have q:=(JU.mp hm).2;rw[n]at q;simp at q
def Bd(e:(pX h H).get? b=some o):h.get? b=some o/\H b=none:=by
 have J:=PySem.W.of_hideAll _ e;refine⟨J,?_⟩;cases q:H b with
 |none=>rfl
 |some x =>
  have U:b∈trk h H:=JU.mpr ⟨K4.mpr (pb J),by simp[q]⟩;have z:(pX h H).get? b=none:=PySem.W.hideAll_none _ U;rw[z]at e;cases e
noncomputable def Be(g h:Heap)(L:Addr):List (Addr×Obj):=(range h.objs.size).filterMap λa=>if a=L\/(g.get? a).isSome=true then none else(h.get? a).map λo=>(a,o)
noncomputable def bP(g h:Heap)(L d:Addr):List (Addr×Obj):=(Be g h L).filter λp=>decide (p.1≠d)
structure Mod(K:Nl)(mg:Str->Option Value)(base:Heap):Prop where
 kin:K.In base
 glob:base.Ns mainGlobals mg
 blt:∃mb,base.Ns builtinsNs mb/\∀x:Str,x ≠ "__name__"->mb x=bootBuiltins x
 nolimit:base.NoLimit
structure Cx where
 prog:Program
 w:World
 K:Nl
 mg:Str->Option Value
 base:Heap
 A:Around
 N:List Str
 s₀:Shared
 H₀:Hp
 env:Env
 outer:List Env
 stack:List Env
 ex:List Addr
 fn:Str->Bool
 calm:Bool
 pn:List (Addr×Obj)
 xe:Value->Shared->Prop
noncomputable def frs(l:List Env):List Addr:=l.filterMap (·.frame)
noncomputable abbrev Cx.fs(X:Cx):List Addr:=frs X.outer
def Vis(sc:Scope)(x:Str):Prop:=sc.names.lookup x=some .local\/sc.names.lookup x=some .cell\/sc.names.lookup x=some .free
def Loc(sc:Scope)(x:Str):Prop:=sc.names.lookup x=some .local\/sc.names.lookup x=some .cell
def IV(env:Env)(h:Heap)(m:Str->Option Value)(x:Str)(u:Value):Prop:=
 (env.kindOf x=some .local/\m x=some u)\/((env.kindOf x=some .cell\/env.kindOf x=some .free)/\∃c,env.cells.lookup x=some c/\h.IsCell c (some u))
structure Cx.Ok(X:Cx):Prop where
 mod:Mod X.K X.mg X.base
 kind:X.env.scope.kind=.function
 glob:X.env.globals=mainGlobals
 blt:X.env.builtins=builtinsNs
 above:X.s₀.heap.objs.size<=X.env.locals
 inj:∀x y c,X.env.cells.lookup x=some c->X.env.cells.lookup y=some c->x=y
 has:∀x,(X.env.kindOf x=some .cell\/X.env.kindOf x=some .free)->∃c,X.env.cells.lookup x=some c
 cab:∀x c,X.fn x=true->X.env.cells.lookup x=some c->X.s₀.heap.objs.size<=c
 hd:X.calm=true->X.A.handled=none
 frames:X.A.frames=some X.stack
 stk:X.stack=X.outer\/(X.stack=X.env::X.outer/\X.env.frame=some X.env.locals)
 exf:∀b∈X.ex,b≠X.env.locals/\∀x c,X.env.cells.lookup x=some c->c≠b
 bs:∀b o,X.base.get? b=some o->X.s₀.heap.get? b=some o/\X.H₀ b=none
 bsz:X.base.objs.size<=X.s₀.heap.objs.size
 noex:∀b o,X.base.get? b=some o->b∉X.ex
 exfs:∀b∈X.ex,b∉X.fs
 funs:X.s₀.heap.FunFrames X.base X.outer
 frf:∀b∈X.fs,X.H₀ b=none
structure Inv(X:Cx)(pins:List (Addr×Obj))(σ:List (Option V))(H:Hp)(s:Shared):Prop where
 ok:X.Ok
 os:s.os=X.s₀.os
 bare:AllBare s.gens
 base:Un X.fs X.ex X.H₀ H X.s₀.heap s.heap
 loc:∃m,s.heap.Ns X.env.locals m/\∀(i:Nat) (x:Str) (v:V),X.N[i]?=some x->σ[i]?=some (some v)->Vis X.env.scope x->∃u,aE v u/\IV X.env s.heap m x u
 cell:∀x c,X.env.cells.lookup x=some c->∃v,s.heap.IsCell c v
 free:H X.env.locals=none
 freeC:∀x c,X.env.cells.lookup x=some c->H c=none
 pin:∀p∈X.pn++pins,s.heap.get? p.1=some p.2/\H p.1=none/\p.1≠X.env.locals/\p.1∉X.fs/\∀v,p.2.data≠.cell v
 hok:HOk X.prog X.w H s.heap
 len:σ.length=X.N.length
section
variable{X:Cx}{pins:List (Addr×Obj)}{σ:List (Option V)}{H H':Hp}{s:Shared}{h':Heap}
theorem Cx.Ok.nofr(ok:X.Ok)(e:X.base.get? b=some o):b∉X.fs:=λz=>by
 have:=(ok.funs.mem z).1;rw[e]at this;cases this
theorem Inv.bs(I:Inv X pins σ H s):∀b o,X.base.get? b=some o->s.heap.get? b=some o/\H b=none:=λb o e =>
 ⟨I.base.keep b o (I.ok.bs b o e).1 (I.ok.bs b o e).2 (I.ok.nofr e) (I.ok.noex b o e),I.base.free b o (I.ok.bs b o e).1 (I.ok.bs b o e).2 (I.ok.noex b o e)⟩
theorem Inv.bk(I:Inv X pins σ H s):∀b o,X.base.get? b=some o->s.heap.get? b=some o:=λb o e=>(I.bs b o e).1
theorem Inv.mod(I:Inv X pins σ H s):Mod X.K X.mg X.base:=I.ok.mod
theorem Inv.kIn(I:Inv X pins σ H s):X.K.In s.heap:=I.ok.mod.kin.keeps I.bk
theorem Inv.lt(I:Inv X pins σ H s):X.env.locals<s.heap.objs.size:=let ⟨_,z,_⟩:=I.loc;z.lt
theorem Inv.sz(I:Inv X pins σ H s):X.s₀.heap.objs.size<=s.heap.objs.size:=r4 I.ok.above (KZ I.lt)
theorem Inv.nofs(I:Inv X pins σ H s)(h:s.heap.objs.size<=a):a∉X.fs:=λz=>by
 obtain⟨_,o,ho,_⟩:=I.ok.funs.mem z;exact absurd (uw (pb ho) (r4 I.sz h)) (Kf _)
theorem Inv.cne(I:Inv X pins σ H s):∀x c,X.env.cells.lookup x=some c->c≠X.env.locals:=λx c e z=>by
 obtain⟨v,o,ho,hd⟩:=I.cell x c e;obtain⟨m,⟨o',es,ep,J,U,_⟩,_⟩:=I.loc
 simp_all
theorem Inv.funs(I:Inv X pins σ H s):s.heap.FunFrames X.base X.outer:=by
 have all:∀l,(∀b∈frs l,b∈X.fs)->X.s₀.heap.FunFrames X.base l->s.heap.FunFrames X.base l:=by
  intro l
  induction l with
  |nil=>intro _ _;trivial
  |cons env r ih =>
   intro hs Y;obtain⟨Z,⟨L,o,J,hn,ho,hd⟩,hr⟩:=Y;have hL:=hs L (by unfold frs;rw[filterMap_cons,J];exact KL);obtain⟨sl,e⟩:=I.base.slot L o ho (I.ok.frf L hL) hL λz=>I.ok.exfs L z hL
   exact⟨Z,⟨L,_,J,hn,e,hd⟩,ih (λb U=>hs b (by unfold frs;rw[filterMap_cons,J];exact Ku _ U)) hr⟩
 exact all X.outer (λ_ U=>U) I.ok.funs
theorem Inv.stack(I:Inv X pins σ H s):s.heap.FunFrames X.base X.stack:=by
 rcases I.ok.stk with e|⟨e,z⟩
 .rw[e];exact I.funs
 .rw[e];obtain⟨m,J,_⟩:=I.loc;refine .cons (by rw[I.ok.kind];decide) z J ?_ I.funs;exact Heap.get?_none_of_le (r4 I.ok.bsz I.ok.above)
def Inv.stkSub(I:Inv X pins σ H s):∀b∈frs X.stack,b∈X.env.locals::X.fs:=λb z=>by
 rcases I.ok.stk with e|⟨e,J⟩
 .rw[e]at z;exact Ku _ z
 .rw[e]at z;unfold frs at z;rw[filterMap_cons,J]at z;exact z
def Inv.stkFree(I:Inv X pins σ H s):∀b∈frs X.stack,H b=none:=λb J=>by
 rcases tf.mp (I.stkSub b J)with e|J
 .rw[e];exact I.free
 .obtain⟨_,o,ho,_⟩:=I.ok.funs.mem J;exact I.base.free b o ho (I.ok.frf b J) λz=>I.ok.exfs b z J
theorem Inv.step{ch:List Addr}(I:Inv X pins σ H s)
  (J:∀b∈ch,(b∈X.ex\/X.s₀.heap.objs.size<=b)/\b≠X.env.locals/\(∀x c,X.env.cells.lookup x=some c->c≠b)/\∀p∈X.pn++pins,p.1≠b)
  (keep:∀b o,b≠X.env.locals->b∉X.fs->b∉ch->s.heap.get? b=some o->H b=none->h'.get? b=some o)
  (slot:∀b o,b≠X.env.locals->b∈X.fs->b∉ch->s.heap.get? b=some o->H b=none->∃sl,h'.get? b=some { o with slots:=sl }) (free:∀b o,b∉ch->s.heap.get? b=some o->H b=none->H' b=none)
  (there:∀b o,b∉ch->s.heap.get? b=some o->∃o',h'.get? b=some o')
  (tups:∀b xs,H b=some (.tup xs)->H' b=some (.tup xs)) (frzs:∀b o u,H b=some (.frz o u)->H' b=some (.frz o u)) (tbls:∀b ps,H b=some (.tbl ps)->∃a0,H' b=some (.tbl (ps++a0)))
  (ns:∀m,s.heap.Ns X.env.locals m->h'.Ns X.env.locals m) (hok:HOk X.prog X.w H' h') (hg:AllBare g') :
  Inv X pins σ H' { s with heap:=h',gens:=g',drawn:=d',toks:=t' }:=by
 have a1:∀b o,X.s₀.heap.get? b=some o->b≠X.env.locals:=λb o e=>tr (uw (pb e) I.ok.above)
 have Z:∀b o,X.s₀.heap.get? b=some o->b∉X.ex->b∉ch:=λb o e hx hb=>by
  rcases(J b hb).1 with z|z
  .exact hx z
  .exact absurd (uw (pb e) z) (Kf _)
 have U:∀x c,X.env.cells.lookup x=some c->∀v,s.heap.IsCell c v->h'.IsCell c v:=λx c e v ⟨o,ho,hd⟩=>by
  have Y:c∉ch:=λz=>(J c z).2.2.1 x c e rfl
  by_cases hc:c∈X.fs
  .obtain⟨sl,q⟩:=slot c o (I.cne x c e) hc Y ho (I.freeC x c e);exact⟨_,q,hd⟩
  .exact⟨o,keep c o (I.cne x c e) hc Y ho (I.freeC x c e),hd⟩
 refine⟨I.ok,I.os,hg,⟨λb o e n hb hx=>?_,λb o e n hb hx=>?_,λb o e n hx=>?_,λb o e hx=>?_,λb xs e=>tups b xs (I.base.tups b xs e),λb o xs e=>frzs b o xs (I.base.frzs b o xs e),λb ps e=>?_⟩,?_,λx c e=>?_,?_,λx c e=>?_,λp hp=>?_,hok,I.len⟩
 .exact keep b o (a1 b o e) hb (Z b o e hx) (I.base.keep b o e n hb hx) (I.base.free b o e n hx)
 .obtain⟨sl,e1⟩:=I.base.slot b o e n hb hx;obtain⟨a4,e2⟩:=slot b _ (a1 b o e) hb (Z b o e hx) e1 (I.base.free b o e n hx);exact⟨a4,e2⟩
 .obtain⟨o',e1⟩:=I.base.there b o e hx;exact free b o' (Z b o e hx) e1 (I.base.free b o e n hx)
 .obtain⟨o',e1⟩:=I.base.there b o e hx;exact there b o' (Z b o e hx) e1
 .obtain⟨m1,e1⟩:=I.base.tbls b ps e;obtain⟨m2,e2⟩:=tbls b _ e1;exact⟨m1++m2,by rw[e2,Array.append_assoc]⟩
 .obtain⟨m,hn,hl⟩:=I.loc;refine⟨m,ns m hn,λi x v e1 e2 e3=>?_⟩;obtain⟨u,r,l⟩:=hl i x v e1 e2 e3;refine⟨u,r,?_⟩;rcases l with l|⟨k,c,e,z⟩
  .exact .inl l
  .exact .inr ⟨k,c,e,U x c e _ z⟩
 .obtain⟨v,z⟩:=I.cell x c e;exact⟨v,U x c e v z⟩
 .obtain⟨m,⟨o,_,_,ho,_⟩,_⟩:=I.loc;exact free _ o (λz=>(J _ z).2.1 rfl) ho I.free
 .obtain⟨v,o,ho,hd⟩:=I.cell x c e;exact free c o (λz=>(J c z).2.2.1 x c e rfl) ho (I.freeC x c e)
 .obtain⟨e,n,ne,nf,d⟩:=I.pin p hp;have Y:p.1∉ch:=λz=>(J p.1 z).2.2.2 p hp rfl
  exact⟨keep p.1 p.2 ne nf Y e n,free p.1 p.2 Y e n,ne,nf,d⟩
theorem Inv.un(I:Inv X pins σ H s)(u:Un X.fs [] H H' s.heap h')(hok:HOk X.prog X.w H' h'):Inv X pins σ H' { s with heap:=h',toks:=t' }:=by
 obtain⟨m,⟨o,es,ep,ho,r⟩,_⟩:=id I.loc;obtain⟨sl,hL⟩:=u.any ho I.free (by simp);exact I.step (ch:=[]) (λ_ z=>nomatch z) (λb o _ U _ e n=>u.keep b o e n U (by simp)) (λb o _ U _ e n=>u.slot b o e n U (by simp)) (λb o _ e n=>u.free b o e n (by simp)) (λb o _ e=>u.there b o e (by simp)) u.tups u.frzs u.tbls (λm' hm=>by
  obtain⟨o',Y,Z,J,r'⟩:=hm;rw[ho]at J;cases J
  exact⟨_,Y,Z,hL,r'⟩) hok I.bare
theorem Inv.call(I:Inv X pins σ H s)(u:Un (frs X.stack) ch H H' s.heap h')(hok:HOk X.prog X.w H' h')(hg:AllBare g')
  (J:∀b∈ch,(b∈X.ex\/X.s₀.heap.objs.size<=b)/\b≠X.env.locals/\(∀x c,X.env.cells.lookup x=some c->c≠b)/\∀p∈X.pn++pins,p.1≠b) :
  Inv X pins σ H' { s with heap:=h',gens:=g',drawn:=d',toks:=t' }:=by
 obtain⟨m,⟨o,es,ep,ho,r⟩,_⟩:=id I.loc;obtain⟨sl,hL⟩:=u.any ho I.free λz=>(J _ z).2.1 rfl
 exact I.step J (λb o hL hb hc e n=>u.keep b o e n (λz=>(tf.mp (I.stkSub b z)).elim hL hb) hc) (λb o _ _ hc e n=>u.any e n hc) (λb o hc e n=>u.free b o e n hc) (λb o hc e=>u.there b o e hc) u.tups u.frzs u.tbls (λm' hm=>by
  obtain⟨o',Y,Z,U,r'⟩:=hm;rw[ho]at U;cases U
  exact⟨_,Y,Z,hL,r'⟩) hok hg
def Inv.turned(I:Inv X pins σ H s)(k:∀b o,b≠it->s.heap.get? b=some o->h'.get? b=some o)(U:H it=none)(hL:it≠X.env.locals)
  (h1:it∈X.ex\/X.s₀.heap.objs.size<=it) (h2:∀x c,X.env.cells.lookup x=some c->c≠it) (Y:∀p∈X.pn++pins,p.1≠it):Inv X pins σ H { s with heap:=h',toks:=t' }:=by
 have J:∀b u,H b=some u->b≠it:=λb u e z=>by rw[z,U]at e;cases e
 refine I.step (ch:=[it]) (λb Z=>?_) (λb o _ _ hc e _=>k b o (λz=>hc (by simp[z])) e) (λb o _ _ hc e _=>⟨o.slots,k b o (λz=>hc (by simp[z])) e⟩) (λ_ _ _ _ n=>n)
  (λb o hc e=>⟨o,k b o (λz=>hc (by simp[z])) e⟩) (λ_ _ e=>e) (λ_ _ _ e=>e) (λb ps e=>⟨#[],by rw[e];simp⟩) (λm hm=>?_) (λb u e=>?_) I.bare
 .have e:b=it:=by simpa using Z
  subst e;exact⟨h1,hL,h2,Y⟩
 .obtain⟨o,es,ep,ho,r⟩:=hm;exact⟨o,es,ep,k _ o (Lr hL) ho,r⟩
 .refine(I.hok b u e).stay (λc v hc q=>k c v ?_ q) (λ_ q=>q) λ_ _ q=>q
  rcases hc with z|z
  .rw[z];exact J b u e
  .exact J c _ z
theorem Inv.tok(I:Inv X pins σ H s)(t):Inv X pins σ H { s with toks:=t }:=I.un (h':=s.heap) (t':=t) Un.refl I.hok
theorem Inv.kept(I:Inv X pins σ H s)(k:∀b u,s.heap.get? b=some u->h'.get? b=some u):Inv X pins σ H { s with heap:=h',toks:=t' }:=I.un (Un.kept k) (I.hok.kept k)
theorem Inv.laid(I:Inv X pins σ H s)(k:∀b u,s.heap.get? b=some u->h'.get? b=some u)(z:s.heap.objs.size<=a)(new:bI X.prog X.w (upd H a o) h' a o) :
  Inv X pins σ (upd H a o) { s with heap:=h',toks:=t' }:=I.un (Un.laid k z (I.hok.fresh z)) (I.hok.laid k z new)
theorem Inv.write(I:Inv X pins σ H s)(J:Mut (H x))(U:e=x\/H e=some (.own x))(k:∀b u,b≠e->s.heap.get? b=some u->h'.get? b=some u)(z:∃u,h'.get? e=some u)
  (new:bI X.prog X.w (upd H x o) h' x o):Inv X pins σ (upd H x o) { s with heap:=h',toks:=t' }:=I.un (Un.write J U k z) (I.hok.write J U k z new)
def Inv.pins_of(I:Inv X pins σ H s)(h:∀p∈J,s.heap.get? p.1=some p.2/\H p.1=none/\p.1≠X.env.locals/\p.1∉X.fs/\∀v,p.2.data≠.cell v):Inv X J σ H s:=
 ⟨I.ok,I.os,I.bare,I.base,I.loc,I.cell,I.free,I.freeC,λp U=>(La.mp U).elim (λz=>I.pin p (Mn _ z)) (h p),I.hok,I.len⟩
def ra{N:List Str}(z:N.Nodup){i j:Nat}(a:N[i]?=some x)(b:N[j]?=some x):i=j:=by
 obtain⟨h1,J⟩:=y1.mp a;obtain⟨h2,U⟩:=y1.mp b;exact(getElem_inj z).mp (J.trans U.symm)
def oN{i:Nat}{x:Str}{v:V}{u:Value}{Q:Unit->Shared->Prop}(I:Inv X pins σ H s)(hN:X.N.Nodup)(hi:X.N[i]?=some x)(hx:Loc X.env.scope x)(r:aE v u)
  (h:∀s',Inv X pins (σ.set i (some v)) H s'->(∃a,Heap.SameBut a s.heap s'.heap/\(a=X.env.locals\/X.env.cells.lookup x=some a))->Q () s') (hf:X.fn x=true\/X.env.scope.names.lookup x=some .local:=by first|exact .inl rfl|exact .inr rfl|assumption):wpAny M A (storeName X.env x u) Q E s:=by
 obtain⟨m,hn,hl⟩:=id I.loc;have a3:(X.env.scope.kind==.class||(X.env.scope.kind==.module&&X.env.locals != X.env.globals))=false:=by rw[I.ok.kind];rfl
 have ao:i<σ.length:=by rw[I.len];exact(y1.mp hi).1
 have cne:=I.cne;have J:∀{a}{h'},(∃o,s.heap.get? a=some o/\H a=none)->Heap.SameBut a s.heap h'->HOk X.prog X.w H h':=λ{a h'} ha hs b ob e=>by
  obtain⟨_,_,Y⟩:=ha;refine(I.hok b ob e).stay (λc w' hc q=>(hs.2 c ?_).trans q) (λ_ q=>q) λ_ _ q=>q
  rintro rfl;rcases hc with rfl|hc
  .rw[Y]at e;cases e
  .rw[Y]at hc;cases hc
 rcases hx with hk|hk
 .refine wpAny_storeName_local hk hn (λh' bB hs=>?_) a3;obtain⟨oL,_,_,b0,_⟩:=id hn;refine h _ ⟨I.ok,I.os,I.bare,⟨λb o e n hb hx=>?_,λb o e n hb hx=>?_,I.base.free,λb o e hx=>?_,I.base.tups,I.base.frzs,I.base.tbls⟩,⟨_,bB,λj y v' U Z e3=>?_⟩,λy c e=>?_,I.free,I.freeC,λp hp=>?_,J ⟨oL,b0,I.free⟩ hs,by simpa using I.len⟩ ⟨_,hs,.inl rfl⟩
  .exact(hs.2 b (tr (uw (pb e) I.ok.above))).trans (I.base.keep b o e n hb hx)
  .obtain⟨sl,U⟩:=I.base.slot b o e n hb hx;exact⟨sl,(hs.2 b (tr (uw (pb e) I.ok.above))).trans U⟩
  .obtain⟨o',U⟩:=I.base.there b o e hx;exact⟨o',(hs.2 b (tr (uw (pb e) I.ok.above))).trans U⟩
  .by_cases hj:j=i
   .subst hj;rw[hi]at U;cases U
    rw[K2 ao]at Z;cases Z;exact⟨u,r,.inl ⟨hk,by simp⟩⟩
   .rw[J6 (Lr hj)]at Z;obtain⟨u',r',q⟩:=hl j y v' U Z e3;refine⟨u',r',?_⟩;rcases q with⟨k,e⟩|⟨k,c,e,z⟩
    .refine .inl ⟨k,?_⟩;have:y≠x:=λe=>hj (ra hN U (e▸hi))
     simp[this,e]
    .exact .inr ⟨k,c,e,z.sameBut hs (cne y c e)⟩
  .obtain⟨w',z⟩:=I.cell y c e;exact⟨w',z.sameBut hs (cne y c e)⟩
  .obtain⟨e,n,ne,nf,d⟩:=I.pin p hp;exact⟨(hs.2 p.1 ne).trans e,n,ne,nf,d⟩
 .have a2:X.fn x=true:=by
   rcases hf with z|z
   .exact z
   .rw[z]at hk;cases hk
  obtain⟨c,hc⟩:=I.ok.has x (.inl hk);obtain⟨w',z⟩:=I.cell x c hc;refine wpAny_storeName_cell I.ok.kind hk hc z (λh' a4 hs=>?_);obtain⟨oc,a5,a6⟩:=id z;refine h { s with heap:=h' } ⟨I.ok,I.os,I.bare,⟨λb o e n hb hx=>?_,λb o e n hb hx=>?_,I.base.free,λb o e hx=>?_,I.base.tups,I.base.frzs,I.base.tbls⟩,⟨m,hn.sameBut hs (Lr (cne x c hc)),λj y v' U Z e3=>?_⟩,λy c' e=>?_,I.free,I.freeC,λp hp=>?_,J ⟨oc,a5,I.freeC x c hc⟩ hs,by simpa using I.len⟩ ⟨c,hs,.inr hc⟩
  .exact(hs.2 b (tr (uw (pb e) (I.ok.cab x c a2 hc)))).trans (I.base.keep b o e n hb hx)
  .obtain⟨sl,U⟩:=I.base.slot b o e n hb hx;exact⟨sl,(hs.2 b (tr (uw (pb e) (I.ok.cab x c a2 hc)))).trans U⟩
  .obtain⟨o',U⟩:=I.base.there b o e hx;exact⟨o',(hs.2 b (tr (uw (pb e) (I.ok.cab x c a2 hc)))).trans U⟩
  .by_cases hj:j=i
   .subst hj;rw[hi]at U;cases U
    rw[K2 ao]at Z;cases Z;exact⟨u,r,.inr ⟨.inl hk,c,hc,a4⟩⟩
   .rw[J6 (Lr hj)]at Z;obtain⟨u',r',q⟩:=hl j y v' U Z e3;refine⟨u',r',?_⟩;rcases q with q|⟨k,c',e,z'⟩
    .exact .inl q
    .refine .inr ⟨k,c',e,z'.sameBut hs ?_⟩;rintro rfl;exact hj (ra hN U (I.ok.inj _ _ _ e hc▸hi))
  .by_cases a7:c'=c
   .subst a7;exact⟨_,a4⟩
   .obtain⟨w2,z2⟩:=I.cell y c' e;exact⟨w2,z2.sameBut hs a7⟩
  .obtain⟨e,n,ne,nf,d⟩:=I.pin p hp;refine⟨(hs.2 p.1 ?_).trans e,n,ne,nf,d⟩;intro q;rw[q,a5]at e;have q':=JP e;exact d w' (by rw[<- q'];exact a6)
def rb{i:Nat}{x:Str}{v:V}{u:Value}{Q:Unit->Shared->Prop}(I:Inv X pins σ H s)(z:X.N.Nodup)(hi:X.N[i]?=some x)(hx:Loc X.env.scope x)(r:aE v u)
  (h:∀s',Inv X pins (σ.set i (some v)) H s'->Q () s') (J:X.fn x=true\/X.env.scope.names.lookup x=some .local:=by first|exact .inl rfl|exact .inr rfl|assumption):wpAny M A (storeName X.env x u) Q E s:=
 oN I z hi hx r (λs' U _=>h s' U) J
def Inv.call'(I:Inv X pins σ H s)(ho:s'.os=s.os)(u:Un (frs X.stack) ch H H' s.heap s'.heap)(hok:HOk X.prog X.w H' s'.heap)(J:AllBare s'.gens)
  (z:∀b∈ch,(b∈X.ex\/X.s₀.heap.objs.size<=b)/\b≠X.env.locals/\(∀x c,X.env.cells.lookup x=some c->c≠b)/\∀p∈X.pn++pins,p.1≠b):Inv X pins σ H' s':=by
 obtain⟨h',g',d',t',o'⟩:=s';have e:=ho;subst e;exact I.call u hok J z
end
noncomputable abbrev XK:=Value->Option Addr->Hp->Prop
noncomputable abbrev St:=List (Option V)
noncomputable abbrev VK:=V->Hp->Prop
noncomputable abbrev TE:=St->Hp->VK->Prop
noncomputable abbrev TT:=St->Hp->(Bool->Hp->Prop)->Prop
noncomputable abbrev TA:=St->Hp->(List V->Hp->Prop)->Prop
structure DB where
 nx:St->Hp->Prop
 rt:VK
 bk:St->Hp->Prop:=λ_ _=>False
 ct:St->Hp->Prop:=λ_ _=>False
noncomputable abbrev TS:=DB->St->Hp->Prop
def EP(X:Cx)(pins:List (Addr×Obj))(σ:St)(Q:VK)(u:Value)(s':Shared):Prop:=∃v H',Inv X pins σ H' s'/\aE v u/\Q v H'
def TP(X:Cx)(pins:List (Addr×Obj))(σ:St)(Q:Bool->Hp->Prop)(b:Bool)(s':Shared):Prop:=∃H',Inv X pins σ H' s'/\Q b H'
def AP(X:Cx)(pins:List (Addr×Obj))(σ:St)(Q:List V->Hp->Prop)(us:List Value)(s':Shared):Prop:=∃vs H',Inv X pins σ H' s'/\aG vs us/\Q vs H'
def SP(X:Cx)(pins:List (Addr×Obj))(D:DB)(f:Flow)(s':Shared):Prop:=
 match f with
 | .next=>∃F H',Inv X pins F H' s'/\D.nx F H'
 | .brk=>∃F H',Inv X pins F H' s'/\D.bk F H'
 | .cont=>∃F H',Inv X pins F H' s'/\D.ct F H'
 | .ret u=>∃v F H',Inv X pins F H' s'/\aE v u/\D.rt v H'
def PE(X:Cx)(e:Expr)(t:TE):Prop:=
 ∀pins s (σ:St) H Q,Inv X pins σ H s->t σ H Q->wpAny (model X.prog X.w) X.A (eval e X.env) (EP X pins σ Q) X.xe s
def PT(X:Cx)(e:Expr)(t:TT):Prop:=
 ∀pins s (σ:St) H Q,Inv X pins σ H s->t σ H Q->wpAny (model X.prog X.w) X.A (isTrue e X.env (eval e X.env)) (TP X pins σ Q) X.xe s
def PW(X:Cx)(e:Expr)(t:TT):Prop:=
 ∀whole pins s (σ:St) H Q,Inv X pins σ H s->t σ H Q->wpAny (model X.prog X.w) X.A (isTrue e X.env whole) (TP X pins σ Q) X.xe s
theorem PW.pt(h:PW X e t):PT X e t:=h _
def PA(X:Cx)(es:List Expr)(t:TA):Prop:=
 ∀pos pins s (σ:St) H Q,Inv X pins σ H s->t σ H Q->wpAny (model X.prog X.w) X.A (spliced (backTo pos (starEach es X.env))) (AP X pins σ Q) X.xe s
def PS(X:Cx)(st:Stmt)(t:TS):Prop:=
 ∀pins s (σ:St) H D,Inv X pins σ H s->t D σ H->wpAny (model X.prog X.w) X.A (exec st X.env) (SP X pins D) X.xe s
def PSs(X:Cx)(st:List Stmt)(t:TS):Prop:=
 ∀pins s (σ:St) H D,Inv X pins σ H s->t D σ H->wpAny (model X.prog X.w) X.A (execs st X.env) (SP X pins D) X.xe s
def thn(h:wpAny M A t Q E s)(z:∀a s,Q a s->J a s):wpAny M A t J E s:=Kd h z λ_ _ x=>x
section
variable{X:Cx}
def bin(Y:PE X a ta)(Z:PE X b tb){σ:St}{R:V->V->Hp->Prop}(I:Inv X pins σ H s)(h:ta σ H λx H1=>tb σ H1 λy H2=>R x y H2)
  {f:Value->Value->Sem α}
  (hf:∀v u U x y H2,Inv X pins σ H2 U->aE x v->aE y u->R x y H2->wpAny (model X.prog X.w) X.A (f v u) Q X.xe U) :
  wpAny (model X.prog X.w) X.A (eval a X.env) (λv z=>wpAny (model X.prog X.w) X.A (eval b X.env) (λu J=>wpAny (model X.prog X.w) X.A (f v u) Q X.xe J) X.xe z) X.xe s:=by
 refine thn (Y pins s σ H _ I h) λv s1 ⟨x,H1,I1,r1,q1⟩=>?_
 refine thn (Z pins s1 σ H1 _ I1 q1) λu U ⟨y,H2,I2,r2,q2⟩=>?_
 exact hf v u U x y H2 I2 r1 r2 q2
noncomputable def Gx(i:Nat):TE:=λσ H Q=>∃v,σ[i]?=some (some v)/\Q v H
noncomputable def tC(v:V):TE:=λ_ H Q=>Q v H
def DC (Y:X.N[i]?=some x) (hv:Vis X.env.scope x) (hd:(x==("__debug__":Str))=false:=by decide) (U:(x==("__classdict__":Str))=false:=by decide):PE X (.Name x pos) (Gx i):=by
 intro pins s σ H Q I h;obtain⟨v,e,h⟩:=h;obtain⟨m,Z,hl⟩:=I.loc;obtain⟨u,r,l⟩:=hl i x v Y e hv;have fin:EP X pins σ Q u s:=⟨v,H,I,r,h⟩;rcases l with⟨J,hm⟩|⟨J,c,hc,z⟩
 .exact wpAny_Name (wpAny_loadName_local I.ok.kind J Z hm fin) hd
 .rcases J with J|J
  .exact wpAny_Name (wpAny_loadName_cell I.ok.kind J hc z fin) hd
  .exact wpAny_Name (wpAny_loadName_free I.ok.kind J hc z fin U) hd
def DE{i j pos}:PE X (.Constant (.int i) j pos) (tC (.int i)):=λ_ _ _ H _ I h=>wpAny_Constant_int ⟨.int i,H,I.tok _,⟨_,rfl⟩,h⟩
def Gy{b j pos}:PE X (.Constant (.bool b) j pos) (tC (.bl b)):=λ_ _ _ H _ I h=>Constant_bool ⟨.bl b,H,I,rfl,h⟩
def DF{j pos}:PE X (.Constant .none j pos) (tC .non):=λ_ _ _ H _ I h=>Constant_none ⟨.non,H,I,rfl,h⟩
def tq{x j pos}:PE X (.Constant (.str x) j pos) (tC (.str x)):=λ_ _ _ H _ I h=>Calls.Constant_str ⟨.str x,H,I.tok _,⟨_,rfl⟩,h⟩
def Gl(X:Cx)(x:Str):Prop:=X.env.kindOf x=some .globalImplicit
def pY{pins:List (Addr×Obj)}{s:Shared}{σ:St}{H:Hp}{x:Str}{u:Value}{pos:Pos}{Q:Value->Shared->Prop}(I:Inv X pins σ H s)(z:Gl X x)(J:X.mg x=some u)(h:Q u s)
  (hd:(x==("__debug__":Str))=false:=by decide):wpAny (model X.prog X.w) X.A (eval (.Name x pos) X.env) Q E s:=
 Calls.Name_function_global I.ok.kind z (Calls.loadGlobal_global (by rw[I.ok.glob];exact I.mod.glob.keeps I.bk) J h) hd
def iu{E:Value->Shared->Prop}{pins:List (Addr×Obj)}{s:Shared}{σ:St}{H:Hp}{x:Str}{u:Value}{pos:Pos}{Q:Value->Shared->Prop}(I:Inv X pins σ H s)(z:Gl X x)(J:X.mg x=none)(hv:bootBuiltins x=some u)(h:Q u s)
  (U:x ≠ "__name__":=by decide) (hd:(x==("__debug__":Str))=false:=by decide):wpAny (model X.prog X.w) X.A (eval (.Name x pos) X.env) Q E s:=by
 obtain⟨Y,h1,h2⟩:=I.mod.blt;exact Calls.Name_function_global I.ok.kind z (Calls.loadGlobal_builtin (by rw[I.ok.glob];exact I.mod.glob.keeps I.bk) J (by rw[I.ok.blt];exact h1.keeps I.bk) ((h2 x U).trans hv) h) hd
def Bf (z:Gl X x) (J:X.mg x=some u) (r:aE v u) (hd:(x==("__debug__":Str))=false:=by decide):PE X (.Name x pos) (tC v):=
 λ_ _ _ H _ I h=>pY I z J ⟨v,H,I,r,h⟩ hd
def Bg (z:Gl X x) (J:X.mg x=none) (hv:bootBuiltins x=some u) (r:aE v u) (U:x ≠ "__name__":=by decide) (hd:(x==("__debug__":Str))=false:=by decide):PE X (.Name x pos) (tC v):=
 λ_ _ _ H _ I h=>iu I z J hv ⟨v,H,I,r,h⟩ U hd
variable{a b:Expr}{ta tb:TE}{pos:Pos}
def PC(X:Cx)(op:CmpOp)(a b:Expr)(t:TE):Prop:=
 ∀pins s (σ:St) H Q,Inv X pins σ H s->t σ H Q ->
  wpAny (model X.prog X.w) X.A (eval a X.env) (λv z=>wpAny (model X.prog X.w) X.A (eval b X.env) (λu J=>wpAny (model X.prog X.w) X.A (compareOp op v u) (EP X pins σ Q) X.xe J) X.xe z) X.xe s
noncomputable def tB(t:TE):TT:=λσ H Q=>t σ H λx H1=>∃c,x=.bl c/\Q c H1
def xK(h:PC X op a b t)(h1:behindInMarks op b=false:=by first|exact z _ (by decide) (by decide)|rfl):PE X (.Compare a [op] [b] pos) t:=λpins s σ H Q I hw=>wpAny_Compare1 (h pins s σ H Q I hw) h1
def xL(h:PC X op a b t)(h1:behindInMarks op b=false:=by first|exact z _ (by decide) (by decide)|rfl):PT X (.Compare a [op] [b] pos) (tB t):=by
 intro pins s σ H Q I hw;refine wpAny_isTrue_Compare1 (thn (h pins s σ H _ I hw) λv Z h1=>thn h1 λu s2 h2=>thn h2 λc s3 ⟨x,H1,J,U,Y⟩=>?_) h1;obtain⟨d,rfl,q⟩:=Y;cases U;exact KP ⟨H1,J,q⟩
def DG(h:PE X e t)(z:∀whole,isTrue e X.env whole=(do let v <- whole;standAt e.pos;holding [v] (truthy v)):=by intro _;rfl):PT X e (tB t):=by
 intro pins s σ H Q I hw;refine isTrue_plain (thn (h pins s σ H _ I hw) λv Z ⟨x,H1,J,U,Y⟩=>?_) (z _);obtain⟨d,rfl,q⟩:=Y;cases U;exact KP ⟨H1,J,q⟩
variable{tA tB':TT}{bP:List Expr}
noncomputable def IW(t u:TT):TT:=λσ H Q=>t σ H λc H1=>if c=true then u σ H1 Q else Q false H1
noncomputable def tOr(t u:TT):TT:=λσ H Q=>t σ H λc H1=>if c=true then Q true H1 else u σ H1 Q
noncomputable def IX(t:TT):TT:=λσ H Q=>t σ H λc H1=>Q (!c) H1
def Bh(z:PT X a tA):PW X (.BoolOp .And [a] pos) tA:=by
 intro J pins s σ H Q I h;refine isTrue_and (thn (z pins s σ H Q I h) λc U e=>?_);cases c<;>first|exact isTrue_and_nil e|exact e
def DH(z:PT X a tA):PW X (.BoolOp .Or [a] pos) tA:=by
 intro J pins s σ H Q I h;refine isTrue_or (thn (z pins s σ H Q I h) λc U e=>?_);cases c<;>first|exact isTrue_or_nil e|exact e
def DI(U:PT X a tA)(Y:PW X (.BoolOp .And (b::bP) pos) tB'):PW X (.BoolOp .And (a::b::bP) pos) (IW tA tB'):=by
 intro Z pins s σ H Q I h;refine isTrue_and (thn (U pins s σ H _ I h) λc s1 ⟨H1,z,J⟩=>?_);cases c<;>first|exact Y Z pins s1 σ H1 Q z J|exact⟨H1,z,J⟩
def Gz(U:PT X a tA)(Y:PW X (.BoolOp .Or (b::bP) pos) tB'):PW X (.BoolOp .Or (a::b::bP) pos) (tOr tA tB'):=by
 intro Z pins s σ H Q I h;refine isTrue_or (thn (U pins s σ H _ I h) λc s1 ⟨H1,z,J⟩=>?_);cases c<;>first|exact⟨H1,z,J⟩|exact Y Z pins s1 σ H1 Q z J
def DJ(z:PT X a tA):PT X (.UnaryOp .Not a pos) (IX tA):=by
 intro pins s σ H Q I h;exact isTrue_not (z pins s σ H (λc H1=>Q _ H1) I h)
noncomputable def GA(ta tb:TE):TE:=λσ H Q=>ta σ H λx H1=>∃c,x=.bl c/\if c=true then tb σ H1 Q else Q (.bl false) H1
noncomputable def IY(ta tb:TE):TE:=λσ H Q=>ta σ H λx H1=>∃c,x=.bl c/\if c=true then Q (.bl true) H1 else tb σ H1 Q
noncomputable def GB(ta:TE):TE:=λσ H Q=>ta σ H λx H1=>∃c,x=.bl c/\Q (.bl (!c)) H1
def xM{op}(h:PE X a t):PE X (.BoolOp op [a] pos) t:=λpins s σ H Q I hw=>BoolOp_one (h pins s σ H Q I hw)
def DK(U:PE X a ta)(Y:PE X (.BoolOp .And (b::bP) pos) tb):PE X (.BoolOp .And (a::b::bP) pos) (GA ta tb):=by
 intro pins s σ H Q I h;refine BoolOp_and (thn (U pins s σ H _ I h) λv Z ⟨x,H1,J,r1,z⟩=>?_);obtain⟨c,rfl,z⟩:=z;cases r1;refine KP ?_;cases c<;>first|exact Y pins Z σ H1 Q J z|exact⟨.bl false,H1,J,rfl,z⟩
def GC(U:PE X a ta)(Y:PE X (.BoolOp .Or (b::bP) pos) tb):PE X (.BoolOp .Or (a::b::bP) pos) (IY ta tb):=by
 intro pins s σ H Q I h;refine BoolOp_or (thn (U pins s σ H _ I h) λv Z ⟨x,H1,J,r1,z⟩=>?_);obtain⟨c,rfl,z⟩:=z;cases r1;refine KP ?_;cases c<;>first|exact Y pins Z σ H1 Q J z|exact⟨.bl true,H1,J,rfl,z⟩
def DL(J:PE X a ta):PE X (.UnaryOp .Not a pos) (GB ta):=by
 intro pins s σ H Q I h;refine UnaryOp_ (thn (J pins s σ H _ I h) λv Z ⟨x,H1,U,Y,z⟩=>?_);obtain⟨c,rfl,z⟩:=z;cases Y;exact not_of (KP ⟨.bl _,H1,U,rfl,z⟩)
noncomputable def tIf(t:TT)(ta tb:TE):TE:=λσ H Q=>t σ H λc H1=>if c=true then ta σ H1 Q else tb σ H1 Q
def xN(hc:PT X c tA)(Y:PE X a ta)(Z:PE X b tb):PE X (.IfExp c a b pos) (tIf tA ta tb):=by
 intro pins s σ H Q I h;refine wpAny_IfExp (thn (hc pins s σ H _ I h) λd z ⟨H1,J,U⟩=>?_);cases d<;>first|exact Y pins z σ H1 Q J U|exact Z pins z σ H1 Q J U
end
def SqL(K:Nl)(H:Hp)(a:Addr)(xs:List V):Prop:=
 Rd H a (.lst xs) \/
  ∃o its n,K.lookup a=some o/\o.cls=.type "list"/\o.dict=none/\o.data=.seq its n/\its.size<=sizeLine/\aG xs its.toList
def SqT(K:Nl)(H:Hp)(a:Addr)(xs:List V):Prop:=
 Rd H a (.tup xs) \/
  ∃o its n,K.lookup a=some o/\o.cls=.type "tuple"/\o.data=.seq its n/\its.size<=sizeLine/\aG xs its.toList
noncomputable def IZ:Value->Option V
 | .none=>some .non
 | .bool b=>some (.bl b)
 | .int i _=>some (.int i)
 | .str x _=>some (.str x)
 | .bytes b _=>some (.byt b)
 | .float b _=>some (.flt b)
 | .ref a=>some (.ref a)
 | .type n=>some (.ty n)
 | _=>none
theorem aE.abs(r:aE x u):IZ u=some x:=by
 cases x<;>first|(cases r;rfl)|(obtain⟨t,rfl⟩:=r;rfl)
theorem aE.inj(r:aE x u)(q:aE y u):x=y:=JP (r.abs.symm.trans q.abs)
theorem aG.inj:∀{xs ys}{us},aG xs us->aG ys us->xs=ys
 | _,_,_,.nil,.nil=>rfl
 | _,_,_,.cons r t,.cons z t'=>by rw[r.inj z,aG.inj t t']
section
variable{X:Cx}{pins:List (Addr×Obj)}{σ:St}{H:Hp}{s:Shared}{a:Addr}{xs ys:List V}
theorem SqL.of{K:Nl}(h:H a=some (.lst xs)):SqL K H a xs:=.inl (.inl h)
theorem SqT.of{K:Nl}(h:H a=some (.tup xs)):SqT K H a xs:=.inl (.inl h)
theorem Inv.list(I:Inv X pins σ H s)(h:SqL X.K H a xs):∃its,aG xs its/\PlainL s.heap a its.toArray/\xs.length<=sizeLine:=by
 rcases h with h|⟨o,its,n,J,hc,hd,hs,hz,r⟩
 .obtain⟨z,its,n,r,e⟩:=h.ok I.hok;exact⟨its,r,⟨_,n,e,rfl,rfl,rfl⟩,z⟩
 .refine⟨its.toList,r,⟨o,n,I.kIn a o J,hc,hd,by simpa using hs⟩,?_⟩;have e:=r.length
  simp_all
def Inv.tuple(I:Inv X pins σ H s)(h:SqT X.K H a xs):∃its,aG xs its/\IsTup s.heap a its.toArray/\xs.length<=sizeLine:=by
 rcases h with h|⟨o,its,n,J,hc,hs,hz,r⟩
 .obtain⟨z,its,r,p⟩:=h.ok I.hok;exact⟨its,r,p,z⟩
 .refine⟨its.toList,r,⟨o,I.kIn a o J,hc,n,by simpa using hs⟩,?_⟩;have e:=r.length
  simp_all
def Inv.list_inj(I:Inv X pins σ H s)(h:SqL X.K H a xs)(h':SqL X.K H a ys):xs=ys:=by
 obtain⟨its,r,⟨o,n,e,_,_,d⟩,_⟩:=I.list h;obtain⟨its',J,⟨o',Y,z,_,_,d'⟩,_⟩:=I.list h';rw[e]at z;cases z
 rw[d]at d';injection d' with U _
 have:its=its':=by simpa using J5 Array.toList U
 subst this;exact r.inj J
def Inv.tuple_inj(I:Inv X pins σ H s)(h:SqT X.K H a xs)(h':SqT X.K H a ys):xs=ys:=by
 obtain⟨its,r,⟨o,e,_,n,d⟩,_⟩:=I.tuple h;obtain⟨its',J,⟨o',z,_,Y,d'⟩,_⟩:=I.tuple h';rw[e]at z;cases z
 rw[d]at d';injection d' with U _
 have:its=its':=by simpa using J5 Array.toList U
 subst this;exact r.inj J
end
noncomputable abbrev Cx.wish(X:Cx)(E:Value->Shared->Prop):Cx:={ X with xe:=E }
noncomputable abbrev Cx.nox(X:Cx):Cx:=X.wish λ_ _=>False
theorem Cx.Ok.wish{X:Cx}(ok:X.Ok)(E:Value->Shared->Prop):(X.wish E).Ok:=
 ⟨ok.mod,ok.kind,ok.glob,ok.blt,ok.above,ok.inj,ok.has,ok.cab,ok.hd,ok.frames,ok.stk,ok.exf,ok.bs,ok.bsz,ok.noex,ok.exfs,ok.funs,ok.frf⟩
theorem Cx.Ok.unwish{X:Cx}{E:Value->Shared->Prop}(ok:(X.wish E).Ok):X.Ok:=
 ⟨ok.mod,ok.kind,ok.glob,ok.blt,ok.above,ok.inj,ok.has,ok.cab,ok.hd,ok.frames,ok.stk,ok.exf,ok.bs,ok.bsz,ok.noex,ok.exfs,ok.funs,ok.frf⟩
section
variable{X:Cx}{pins:List (Addr×Obj)}{σ:St}{H:Hp}{s:Shared}{E:Value->Shared->Prop}
theorem Inv.wish(I:Inv X pins σ H s)(E):Inv (X.wish E) pins σ H s:=⟨I.ok.wish E,I.os,I.bare,I.base,I.loc,I.cell,I.free,I.freeC,I.pin,I.hok,I.len⟩
theorem Inv.unwish(I:Inv (X.wish E) pins σ H s):Inv X pins σ H s:=⟨I.ok.unwish,I.os,I.bare,I.base,I.loc,I.cell,I.free,I.freeC,I.pin,I.hok,I.len⟩
theorem SP.unwish(h:SP (X.wish E) pins D f s'):SP X pins D f s':=by
 cases f<;>first|(obtain⟨F,H',I,q⟩:=h;exact⟨F,H',I.unwish,q⟩)|(obtain⟨v,F,H',I,r,q⟩:=h;exact⟨v,F,H',I.unwish,r,q⟩)
theorem PSs.nox{st:List Stmt}(h:PSs X.nox st t):PSs X st t:=λpins s σ H D I hw =>
 Kd (h pins s σ H D (I.wish _) hw) (λ_ _ q=>q.unwish) λ_ _ z=>False.elim z
end
section
variable{X:Cx}{st:Stmt}{bP:List Stmt}{t u:TS}{e:Expr}{te:TE}{pos:Pos}
noncomputable def GD:TS:=λD σ H=>D.nx σ H
noncomputable def I0(t u:TS):TS:=λD σ H=>t { D with nx:=u D } σ H
def Bi:PSs X [] GD:=λ_ _ σ H _ I h=>wpAny_execs_nil ⟨σ,H,I,h⟩
def xO(h1:PS X st t)(h2:PSs X bP u):PSs X (st::bP) (I0 t u):=by
 intro pins s σ H D I h;refine wpAny_execs_cons (thn (h1 pins s σ H { D with nx:=u D } I h) λf z q=>?_);cases f with
 |next =>
  obtain⟨F,H',J,q⟩:=q;exact h2 pins z F H' D J q
 | _=>exact q
def Inv.quiet(I:Inv X pins σ H s):interactive X.env=false:=by simp[interactive,I.ok.kind]
noncomputable def GE(te:TE):TS:=λD σ H=>te σ H λ_ H1=>D.nx σ H1
def pZ(z:PE X e te)(hs:swapsWith e none pos.line X.env=pure false:=by rfl):PS X (.Expr e pos) (GE te):=by
 intro pins s σ H D I h;exact wpAny_Expr_any (thn (z pins s σ H _ I h) λv Y ⟨x,H1,J,Z,U⟩=>⟨σ,H1,J,U⟩) I.quiet hs
noncomputable def I_(te:TE):TS:=λD σ H=>te σ H D.rt
def p5(z:PE X e te):PS X (.Return (some e) pos) (I_ te):=by
 intro pins s σ H D I h;exact wpAny_Return_some (thn (z pins s σ H _ I h) λv Z ⟨x,H1,J,U,Y⟩=>⟨x,σ,H1,J,U,Y⟩)
noncomputable def Ja(c:TT)(t u:TS):TS:=λD σ H=>c σ H λb H1=>if b=true then t D σ H1 else u D σ H1
def GF(hc:PT X c tc)(Y:PSs X a t)(Z:PSs X b u):PS X (.If c a b pos) (Ja tc t u):=by
 intro pins s σ H D I h;refine wpAny_If (thn (hc pins s σ H _ I h) λd z ⟨H1,J,U⟩=>?_);cases d<;>first|exact Y pins z σ H1 D J U|exact Z pins z σ H1 D J U
noncomputable def DM:TS:=λ_ _ _=>False
def xP:PS X st DM:=λ_ _ _ _ _ _ h=>h.elim
end
noncomputable abbrev TG:=V->St->Hp->(St->Hp->Prop)->Prop
noncomputable abbrev TGs:=List V->St->Hp->(St->Hp->Prop)->Prop
def PG(X:Cx)(target:Expr)(t:TG):Prop:=
 ∀pins s (σ:St) H v u Q,Inv X pins σ H s->aE v u->t v σ H Q ->
  wpAny (model X.prog X.w) X.A (assign target X.env u) (λ_ s'=>∃F H',Inv X pins F H' s'/\Q F H') X.xe s
def PGs(X:Cx)(z:List Expr)(t:TGs):Prop:=
 ∀pins s (σ:St) H vs us Q,Inv X pins σ H s->aG vs us->t vs σ H Q ->
  wpAny (model X.prog X.w) X.A (assignInOrder ((assignEach z X.env).map (·.2)) us) (λ_ s'=>∃F H',Inv X pins F H' s'/\Q F H') X.xe s
noncomputable abbrev Jb:=V->V->V->Hp->(Hp->Prop)->Prop
def Jc(X:Cx)(t:Jb):Prop:=
 ∀pins s (σ:St) H o i v z J u Q,Inv X pins σ H s->aE o z->aE i J->aE v u->t o i v H Q ->
  wpAny (model X.prog X.w) X.A (setItem z J u) (λ_ s'=>∃H',Inv X pins σ H' s'/\Q H') X.xe s
section
variable{X:Cx}{pos:Pos}
noncomputable def jc(i:Nat):TG:=λv σ H Q=>Q (σ.set i (some v)) H
def lT(z:X.N.Nodup)(hi:X.N[i]?=some x)(hx:Loc X.env.scope x)(J:X.fn x=true\/X.env.scope.names.lookup x=some .local:=by first|exact .inl rfl|exact .inr rfl|assumption):PG X (.Name x pos) (jc i):=by
 intro pins s σ H v u Q I r h;exact wpAny_assign_Name (rb I z hi hx r (λs' U=>⟨_,H,U,h⟩) J)
noncomputable def GG:TGs:=λvs σ H Q=>vs=[]/\Q σ H
noncomputable def C7(t:TG)(u:TGs):TGs:=λvs σ H Q=>∃v r,vs=v::r/\t v σ H λF H'=>u r F H' Q
def Bj:PGs X [] GG:=by
 intro pins s σ H vs us Q I r h;obtain⟨e,h⟩:=h;subst e;cases r;exact assignInOrder_nil ⟨σ,H,I,h⟩
def xQ(h1:PG X e t)(h2:PGs X es u)
  (hs:(assignEach (e::es) X.env).map (·.2)=assign e X.env::(assignEach es X.env).map (·.2):=by rfl):PGs X (e::es) (C7 t u):=by
 intro pins s σ H vs us Q I r h;obtain⟨v,vr,J,h⟩:=h;subst J;cases r with
 |cons r U =>
  rw[hs];refine assignInOrder_cons (thn (h1 pins s σ H _ _ _ I r h) λ_ Y ⟨z,H1,Z,q1⟩=>?_);exact h2 pins Y z H1 _ _ Q Z U q1
noncomputable def GH(K:Nl)(n:Nat)(t:TGs):TG:=λv σ H Q=>∃a xs,v=.ref a/\SqT K H a xs/\xs.length=n/\t xs σ H Q
def DN{k:Nat}(hc:X.calm=true)(h:PGs X es t)
  (U:(assignEach es X.env).length=n:=by rfl) (z:(assignEach es X.env).findIdx? (·.1)=none:=by rfl):PG X (.Tuple es k pos) (GH X.K n t):=by
 intro pins s σ H v u Q I r hw;refine aC λZq Y=>?_
 obtain⟨a,xs,Z,hq,hl,hw⟩:=hw;subst Z;cases r;obtain⟨its,J,ht,hz⟩:=I.tuple hq;refine Y ?_;refine assign_Tuple_tuple (I.ok.hd hc) ht (by simp[U,<- hl,J.length]) z λh' hx=>?_
 have I1:=I.kept (t':=s.toks) λb o e=>hx b o (tr (pb e)) e
 exact h pins _ σ H xs _ Q I1 (by simpa using J) hw
noncomputable def xR(te:TE)(g:TG):TS:=λD σ H=>te σ H λx H1=>g x σ H1 D.nx
def jp(z:X.N.Nodup)(hi:X.N[i]?=some x)(hx:Loc X.env.scope x)(J:PE X e te)(hs:swapsWith e (some (.Name x pos')) pos.line X.env=pure false:=by rfl)(U:X.fn x=true\/X.env.scope.names.lookup x=some .local:=by first|exact .inl rfl|exact .inr rfl|assumption) :
  PS X (.Assign [.Name x pos'] e pos) (xR te (jc i)):=by
 intro pins s σ H D I h;refine wpAny_Assign_Name (thn (J pins s σ H _ I h) λv s1 ⟨y,H1,Y,Z,q1⟩=>?_) hs;exact rb Y z hi hx Z (λs2 I2=>⟨_,H1,I2,q1⟩) U
end
structure It where
 go:Nat->Hp->Prop
 yld:Nat->Hp->V->Hp->Prop
 stop:Nat->Hp->Prop
def kz(X:Cx)(pins:List (Addr×Obj))(H:Hp)(b:Addr):Prop:=
 H b=none/\b≠X.env.locals/\b∉X.fs/\(b∈X.ex\/X.s₀.heap.objs.size<=b)/\(∀x c,X.env.cells.lookup x=some c->c≠b)/\∀p∈X.pn++pins,p.1≠b
theorem Inv.fpOk{σ:St}{H H':Hp}{s:Shared}{b:Addr}(I:Inv X pins σ H s)(J:s.heap.objs.size<=b)(U:H' b=none):kz X pins H' b:=by
 refine⟨U,KG (uw I.lt J),I.nofs J,.inr (r4 I.sz J),λx c e z=>?_,λp Y z=>?_⟩
 .obtain⟨v,q⟩:=I.cell x c e;exact absurd (uw q.lt (by rw[z];exact J)) (Kf _)
 .exact absurd (uw (pb (I.pin p Y).1) (by rw[z];exact J)) (Kf _)
structure tu(P:Program)(w:World)(K:Nl)(tg:Expr)(J:It)(fp:List Addr)(it:Addr)(tn:Nat->Heap->Prop):Prop where
 mem:it∈fp
 obj:∀i h,tn i h->∀b∈fp,∃o,h.get? b=some o/\∀v,o.data≠.cell v
 keep:∀i h h',tn i h->(∀b∈fp,∀o,h.get? b=some o->h'.get? b=some o)->tn i h'
 item:∀(X:Cx),X.prog=P->X.w=w->X.K=K->X.calm=true->∀(i:Nat) (pins:List (Addr×Obj)) (s:Shared) (σ:St) (H:Hp) (E:Value->Shared->Prop),Inv X pins σ H s->(∀b∈fp,kz X pins H b)->tn i s.heap->J.go i H ->
  wpAny (model P w) X.A (pyNext (.ref it)) (λr s1=>∃u,r=some u /\
   wpAny (model P w) X.A (letOwnedTupleGo tg (.ref it) u) (λ_ s2=>∃x H',Inv X pins σ H' s2/\aE x u/\J.yld i H x H'/\tn (i+1) s2.heap/\∀b∈fp,H' b=none) E s1) E s
 done:∀(X:Cx),X.prog=P->X.w=w->X.K=K->X.calm=true->∀(i:Nat) (pins:List (Addr×Obj)) (s:Shared) (σ:St) (H:Hp) (E:Value->Shared->Prop),Inv X pins σ H s->(∀b∈fp,kz X pins H b)->tn i s.heap->J.stop i H ->
  wpAny (model P w) X.A (pyNext (.ref it)) (λr s1=>r=none/\Inv X pins σ H s1) E s
 self:∀(A:Around) (i:Nat) (s:Shared) (Q:Value->Shared->Prop) (E:Value->Shared->Prop),tn i s.heap->Q (.ref it) s->wpAny (model P w) A (pyIter (.ref it)) Q E s
noncomputable abbrev TI:=St->Hp->(It->Hp->Prop)->Prop
def PIE(X:Cx)(pins:List (Addr×Obj))(σ:St)(tg:Expr)(R:It->Hp->Prop)(z:Value)(U:Shared):Prop:=
 ∃it fp Y J H',z=.ref it/\Inv X pins σ H' U/\tu X.prog X.w X.K tg J fp it Y/\Y 0 U.heap/\(∀b∈fp,kz X pins H' b)/\R J H'
def PI(X:Cx)(tg iter:Expr)(wi:TI):Prop:=
 ∀pins s (σ:St) H R,Inv X pins σ H s->wi σ H R ->
  wpAny (model X.prog X.w) X.A (eval iter X.env) (λv z=>wpAny (model X.prog X.w) X.A (pyIter v) (PIE X pins σ tg R) X.xe z) X.xe s
def xS{s:Shared}{tg:Expr}{it:Addr}{u:Value}{o:Obj}{n:String}{vs:Array Value}{Q:Unit->Shared->Prop}(ho:s.heap.get? it=some o)(hc:o.cls=.type n)(hd:o.data=.fields vs)
    (hn:["enumerate","zip","dict_itemiterator","dict_reverseitemiterator","odict_iterator","itertools.zip_longest","itertools.pairwise"].contains n=false) (hQ:Q () s):wpAny M A (letOwnedTupleGo tg (.ref it) u) Q E s:=by
  unfold letOwnedTupleGo;cases tg<;>first
    | exact gf hQ
    | (cases u<;>first
        | exact gf hQ
        | (refine eh (wpAny_load ho ?_)
           rw[hc,hd];show wpAny M A (if (["enumerate","zip","dict_itemiterator","dict_reverseitemiterator","odict_iterator","itertools.zip_longest","itertools.pairwise"].contains n&&vs[0]?==some (rawInt _))=true then _ else _) Q E s;rw[if_neg (by intro h;rw[hn,MF]at h;cases h)];exact gf hQ))
noncomputable def Itl(K:Nl)(a:Addr):It:=
 ⟨λi H=>∃xs x,SqL K H a xs/\xs[i]?=some x,λi H x H'=>H'=H/\∀xs,SqL K H a xs->xs[i]?=some x,λi H=>∃xs,SqL K H a xs/\xs.length<=i⟩
noncomputable def Itt(K:Nl)(a:Addr):It:=
 ⟨λi H=>∃xs x,SqT K H a xs/\xs[i]?=some x,λi H x H'=>H'=H/\∀xs,SqT K H a xs->xs[i]?=some x,λi H=>∃xs,SqT K H a xs/\xs.length<=i⟩
noncomputable def Itr(lo:Int)(n:Nat):It:=⟨λi _=>i<n,λi H x H'=>H'=H/\x=.int (lo+i),λi _=>n<=i⟩
def wt{K:Nl}(a it):tu P w K tg (Itl K a) [it] it (λi h=>h.IsListIter it a i) where
 mem:=by simp
 obj:=λi h st b z=>by
  obtain⟨o,e,c,d⟩:=st
  simp_all
 keep:=λi h h' st k=>st.at λo e=>k it (by simp) o e
 item:=by
  intro X Z hw hK hc i pins s σ H E I U st hg;refine aC λZq kq=>?_
  subst Z hw hK;obtain⟨xs,x,Y,hx⟩:=hg;obtain⟨its,rv,p,hz⟩:=I.list Y;obtain⟨u,hu,ru⟩:=rv.get hx;obtain⟨f0,f1,f2,f3,f4,f5⟩:=U it (by simp);refine kq ?_;refine wpAny_pyNext_list_item st p.isList (by simpa using hu) λh' J sb=>?_
  have I1:=I.turned (t':=s.toks) (λb o z e=>(sb.2 b z).trans e) f0 f1 f3 f4 f5;obtain⟨o,e,c,d⟩:=id J;exact⟨u,rfl,xS e c d (by decide) ⟨x,H,I1,ru,⟨rfl,λys hy=>by rw[I.list_inj hy Y];exact hx⟩,J,λb z=>(U b z).1⟩⟩
 done:=by
  intro X Z hw hK hc i pins s σ H E I U st hg;refine aC λZq kq=>?_
  subst Z hw hK;obtain⟨xs,Y,hx⟩:=hg;obtain⟨its,rv,p,hz⟩:=I.list Y;obtain⟨f0,f1,f2,f3,f4,f5⟩:=U it (by simp);have hl:=rv.length;refine kq ?_;exact wpAny_pyNext_list_end (I.ok.hd hc) st p.isList (by simp;omega) λh' eb=>⟨rfl,I.turned (λb o z e=>eb b o z e) f0 f1 f3 f4 f5⟩
 self:=λ_ _ _ _ _ st h=>wpAny_pyIter_listiter st h
theorem tw{K:Nl}(a it):tu P w K tg (Itt K a) [it] it (λi h=>h.IsTupleIter it a i) where
 mem:=by simp
 obj:=λi h st b z=>by
  obtain⟨o,e,c,d⟩:=st
  simp_all
 keep:=λi h h' st k=>st.at λo e=>k it (by simp) o e
 item:=by
  intro X Z hw hK hc i pins s σ H E I U st hg;refine aC λZq kq=>?_
  subst Z hw hK;obtain⟨xs,x,Y,hx⟩:=hg;obtain⟨its,rv,p,hz⟩:=I.tuple Y;obtain⟨u,hu,ru⟩:=rv.get hx;obtain⟨f0,f1,f2,f3,f4,f5⟩:=U it (by simp);refine kq ?_;refine wpAny_pyNext_tuple_item st (show s.heap.IsTuple a its.toArray from p) (by simpa using hu) λh' J sb=>?_
  have I1:=I.turned (t':=s.toks) (λb o z e=>(sb.2 b z).trans e) f0 f1 f3 f4 f5;obtain⟨o,e,c,d⟩:=id J;exact⟨u,rfl,xS e c d (by decide) ⟨x,H,I1,ru,⟨rfl,λys hy=>by rw[I.tuple_inj hy Y];exact hx⟩,J,λb z=>(U b z).1⟩⟩
 done:=by
  intro X Z hw hK hc i pins s σ H E I U st hg;refine aC λZq kq=>?_
  subst Z hw hK;obtain⟨xs,Y,hx⟩:=hg;obtain⟨its,rv,p,hz⟩:=I.tuple Y;obtain⟨f0,f1,f2,f3,f4,f5⟩:=U it (by simp);have hl:=rv.length;refine kq ?_;exact wpAny_pyNext_tuple_end (I.ok.hd hc) st (show s.heap.IsTuple a its.toArray from p) (by simp;omega) λh' eb=>⟨rfl,I.turned (λb o z e=>eb b o z e) f0 f1 f3 f4 f5⟩
 self:=λ_ _ _ _ _ st h=>wpAny_pyIter_tupleiter st h
def tz{K:Nl}(it)(lo)(n):tu P w K tg (Itr lo n) [it] it (λi h=>IsRangeIter h it (lo+(i:Nat)*1) ((n:Int)-(i:Nat)) 1) where
 mem:=by simp
 obj:=λi h st b z=>by
  simp_all
 keep:=λi h h' st k=>k it (by simp) _ st
 item:=by
  intro X hP hw hK hc i pins s σ H E I U st Y;subst hP hw hK;obtain⟨Z,f1,f2,f3,f4,f5⟩:=U it (by simp);have W:=Walks.range (prog:=X.prog) (w:=X.w) (I.ok.hd hc) it lo 1 n;refine W.item i s _ _ Y st λv h' tk hv J kk=>?_
  obtain⟨t,rfl⟩:=hv;have I1:Inv X pins σ H { s with heap:=h',toks:=tk }:=I.turned (λb o z e=>kk b o (by simpa using z) e) Z f1 f3 f4 f5;refine⟨_,rfl,xS J rfl rfl (by decide) ⟨.int _,H,I1,⟨t,?_⟩,⟨rfl,rfl⟩,J,λb z=>(U b z).1⟩⟩;rw[Int.mul_one]
 done:=by
  intro X hP hw hK hc i pins s σ H E I U st Y;obtain⟨Z,f1,f2,f3,f4,f5⟩:=U it (by simp);exact wpAny_pyNext_range_end (I.ok.hd hc) st (by have:n<=i:=Y;omega) λh' eb=>⟨rfl,I.turned (λb o z e=>eb b o z e) Z f1 f3 f4 f5⟩
 self:=λ_ _ _ _ _ st h=>wpAny_pyIter_rangeiter st h
section
variable{X:Cx}{tg:Expr}
noncomputable def GI(K:Nl)(tl:TE):TI:=λσ H R=>tl σ H λx H1=>∃a,x=.ref a/\(∃xs,SqL K H1 a xs)/\R (Itl K a) H1
noncomputable def Jd(K:Nl)(tl:TE):TI:=λσ H R=>tl σ H λx H1=>∃a,x=.ref a/\(∃xs,SqT K H1 a xs)/\R (Itt K a) H1
def uS(U:PE X l tl):PI X tg l (GI X.K tl):=by
 intro pins s σ H R I h;refine thn (U pins s σ H _ I h) λv J ⟨x,H1,z,Y,Z⟩=>?_
 obtain⟨a,e,⟨xs,hq⟩,q⟩:=Z;subst e;cases Y;obtain⟨its,rv,p,hz⟩:=z.list hq;refine LC p.isList ?_;refine⟨J.heap.objs.size,[J.heap.objs.size],_,_,H1,rfl,z.kept λb o e=>gk _ e,wt a _,⟨_,pe _ rfl,rfl,rfl⟩,λb hb=>?_,q⟩;have e:b=J.heap.objs.size:=by simpa using hb
 subst e;exact z.fpOk (gx _) (z.hok.fresh (gx _))
def xT(U:PE X l tl):PI X tg l (Jd X.K tl):=by
 intro pins s σ H R I h;refine thn (U pins s σ H _ I h) λv z ⟨x,H1,J,Y,Z⟩=>?_
 obtain⟨a,e,⟨xs,hq⟩,q⟩:=Z;subst e;cases Y;obtain⟨its,rv,p,hz⟩:=J.tuple hq;refine L6 (show z.heap.IsTuple a its.toArray from p) ?_;refine⟨z.heap.objs.size,[z.heap.objs.size],_,_,H1,rfl,J.kept λb o e=>gk _ e,tw a _,⟨_,pe _ rfl,rfl,rfl⟩,λb hb=>?_,q⟩;have e:b=z.heap.objs.size:=by simpa using hb
 subst e;exact J.fpOk (gx _) (J.hok.fresh (gx _))
def re{σ:St}{H:Hp}{s:Shared}{R:It->Hp->Prop}{E:Value->Shared->Prop}{lo hi:Int}{t u v:Tok}{tk:Nat}(I:Inv X pins σ H s)(h1:-(2 ^ 62)<=lo)(h2:lo<2 ^ 62)(J:-(2 ^ 62)<=hi)(U:hi<2 ^ 62)
  (q:R (Itr lo (hi-lo).toNat) H):wpAny (model X.prog X.w) X.A (pyIter (.ref s.heap.objs.size)) (PIE X pins σ tg R) E { s with heap:=s.heap.push { cls:=.type "range",data:=.fields #[.int lo t,.int hi u,.int 1 v] },toks:=tk }:=by
 refine wpAny_pyIter_range (IsRange.new ..) (small_one h1 h2 J U) ?_;have z:Inv X pins σ H { s with heap:=s.heap.push { cls:=.type "range",data:=.fields #[.int lo t,.int hi u,.int 1 v] },toks:=tk }:=I.kept λb o e=>gk _ e
 refine⟨(s.heap.push { cls:=.type "range",data:=.fields #[.int lo t,.int hi u,.int 1 v] }).objs.size,[(s.heap.push { cls:=.type "range",data:=.fields #[.int lo t,.int hi u,.int 1 v] }).objs.size],_,_,H,rfl,
  z.kept (t':=tk) λb o e=>gk _ e,tz _ lo (hi-lo).toNat,?_,λb Y=>?_,q⟩
 .have Z:lo+((0:Nat):Int)*1=lo:=by simp
  have e2:(((hi-lo).toNat:Nat):Int)-((0:Nat):Int)=Builtin.Range.rangeSize lo hi 1:=by rw[rangeSize_one];split<;>omega
  show IsRangeIter _ _ (lo+((0:Nat):Int)*1) ((((hi-lo).toNat:Nat):Int)-((0:Nat):Int)) 1;rw[Z,e2];exact pe _ rfl
 .have e:b=(s.heap.push { cls:=.type "range",data:=.fields #[.int lo t,.int hi u,.int 1 v] }).objs.size:=by simpa using Y
  subst e;exact z.fpOk (gx _) (z.hok.fresh (gx _))
noncomputable def GJ(ta:TA):TI:=λσ H R=>ta σ H λvs H1=>∃j,vs=[.int j]/\-(2 ^ 62)<=j/\j<2 ^ 62/\R (Itr 0 j.toNat) H1
noncomputable def GK(ta:TA):TI:=λσ H R=>ta σ H λvs H1=>∃i j,vs=[.int i,.int j]/\(-(2 ^ 62)<=i/\i<2 ^ 62/\-(2 ^ 62)<=j/\j<2 ^ 62)/\R (Itr i (j-i).toNat) H1
def oO (J:Gl X "range") (U:X.mg "range"=none) (Y:PA X [a] ta) (hs:starEach [a] X.env=[(false,eval a X.env)]:=by rfl):PI X tg (.Call (.Name "range" p) [a] [] pos) (GJ ta):=by
 intro pins s σ H R I h;refine Call_ (iu I J U boot_range (Kx (thn (Y pos pins s σ H _ I h) λus s1 ⟨vs,H1,Z,r1,z⟩=>?_) hs rfl));obtain⟨j,e,z,q2,q⟩:=z;subst e;cases r1 with
 |cons r rr =>
  cases rr;obtain⟨t,rfl⟩:=r;exact call_range_1 (re Z (by omega) (by omega) z q2 (by simpa using q))
def wu (Y:Gl X "range") (Z:X.mg "range"=none) (ha:PA X [a,b] ta) (hs:starEach [a,b] X.env=[(false,eval a X.env),(false,eval b X.env)]:=by rfl) (z:starEach [b] X.env=[(false,eval b X.env)]:=by rfl) :
  PI X tg (.Call (.Name "range" p) [a,b] [] pos) (GK ta):=by
 intro pins s σ H R I h;refine Call_ (iu I Y Z boot_range (Kx (thn (ha pos pins s σ H _ I h) λus s1 ⟨vs,H1,I1,r1,J⟩=>?_) (by rw[hs,z]) (by rw[z];rfl)));obtain⟨i,j,e,⟨J,q2,q3,q4⟩,q⟩:=J;subst e;cases r1 with
 |cons r U =>
  cases U with
  |cons r' U =>
   cases U;obtain⟨t,rfl⟩:=r;obtain⟨t',rfl⟩:=r';exact call_range_2 (re I1 J q2 q3 q4 q)
noncomputable def DO(wi:TI)(g:TG)(tb:TS):TS:=λD σ H=>wi σ H λJ H1=>∃W:Nat->Nat->St->Hp->Prop,(∃m,W 0 m σ H1)/\∀i m σ H,W i m σ H ->
 (J.stop i H/\D.nx σ H)\/(J.go i H/\∃N,(∀F H',N F H'->∃U,U<m/\W (i+1) U F H')/\∀x H',J.yld i H x H'->g x σ H' λz H2=>tb { D with nx:=N,ct:=N,bk:=D.nx } z H2)
noncomputable def mw(fp:List Addr)(h:Heap):List (Addr×Obj):=fp.filterMap λb=>(h.get? b).map λo=>(b,o)
def gR(z:b∈fp)(e:h.get? b=some o):(b,o)∈mw fp h:=mem_filterMap.mpr ⟨b,z,by rw[e];rfl⟩
def wv(z:p∈mw fp h):p.1∈fp/\h.get? p.1=some p.2:=by
 obtain⟨b,J,e⟩:=mem_filterMap.mp z;cases q:h.get? b with
 |none=>rw[q]at e;cases e
 |some o =>
  rw[q]at e;have U:=JP e;subst U;exact⟨J,q⟩
def Inv.pinned(I:Inv X pins σ H s)(U:∀b∈fp,kz X pins H b)(ho:∀b∈fp,∃o,s.heap.get? b=some o/\∀v,o.data≠.cell v):Inv X (pins++mw fp s.heap) σ H s:=
 I.pins_of λp Y=>(La.mp Y).elim (λz=>I.pin p (Kq _ z)) λz=>by
  obtain⟨J,e⟩:=wv z;obtain⟨Z,f1,f2,_⟩:=U p.1 J;obtain⟨o,e',d⟩:=ho p.1 J
  simp_all
def Inv.unpinned(I:Inv X (pins++J) σ H s):Inv X pins σ H s:=I.pins_of λp z=>I.pin p (Kq _ (Mn _ z))
def tD{iter:Expr}(hp:PassesOwn (model X.prog X.w) X.A X.env X.xe)(hc:X.calm=true)(hi:PI X tg iter wi)(hg:PG X tg g)(U:PSs X body tb)(hs:∀x,foldedSetIterable iter X.env x=pure x:=by intro _;rfl):PS X (.For tg iter body [] pos) (DO wi g tb):=by
 intro pins s σ H D I h;refine wpAny_For (thn (hi pins s σ H _ I h) λv s1 h1=>thn h1 λcl s2 h2=>?_) hs;refine aC λZq kq=>?_
 obtain⟨it,fp,tn,J,H2,e,I2,T,a6,f2,W,⟨m0,w0⟩,turn⟩:=h2;subst e;have Y:∀{H'},(∀b∈fp,H' b=none)->∀b∈fp,kz X pins H' b:=λhn b U=>⟨hn b U,(f2 b U).2⟩
 refine kq ?_;refine codeAny_forLoop_any (λn s'=>∃i F H',Inv X pins F H' s'/\tn i s'.heap/\(∀b∈fp,H' b=none)/\W i n F H') ?_ m0 ⟨0,σ,H2,I2,a6,λb U=>(f2 b U).1,w0⟩;rintro n s3 ⟨i,Z,H3,I3,a3,a4,w3⟩;rcases turn i n Z H3 w3 with⟨stop,qn⟩|⟨go,N,hN,step⟩
 .refine L3 hp (thn (T.done X rfl rfl rfl hc i pins s3 Z H3 X.xe I3 (Y a4) a3 stop) λr s4 ⟨hr,I4⟩=>?_);subst hr;exact wpAny_execs_nil ⟨Z,H3,I4,qn⟩
 .refine L3 hp (thn (T.item X rfl rfl rfl hc i pins s3 Z H3 X.xe I3 (Y a4) a3 go) λr s4 ⟨u,hr,h4⟩=>?_);subst hr;refine L3 hp (thn h4 λ_ s5 ⟨x,H5,I5,r5,y5,a0,a8⟩=>?_);have a9:=I5.pinned (Y a8) (T.obj _ _ a0);refine L3 hp (thn (hg _ s5 Z H5 x u _ a9 r5 (step x H5 y5)) λ_ s6 ⟨bA,H6,I6,q6⟩=>?_);refine L3 hp (thn (U _ s6 bA H6 _ I6 q6) λf s7 q7=>?_);have again:∀{z}{H7},Inv X (pins++mw fp s5.heap) z H7 s7->N z H7->∃m,m<n/\∃i F H',Inv X pins F H' s7/\tn i s7.heap/\(∀b∈fp,H' b=none)/\W i m F H':=λ{z H7} I7 n7=>by
   obtain⟨m',hm,w7⟩:=hN z H7 n7;refine⟨m',hm,i+1,z,H7,I7.unpinned,T.keep _ _ _ a0 λb U o e=>(I7.pin (b,o) (Kq _ (Kq _ (gR U e)))).1,λb U=>?_,w7⟩;obtain⟨o,e,d⟩:=T.obj _ _ a0 b U;exact(I7.pin (b,o) (Kq _ (Kq _ (gR U e)))).2.1
  cases f<;>first|(obtain⟨z,H7,I7,n7⟩:=q7;exact again I7 n7)|(obtain⟨z,H7,I7,q7⟩:=q7;exact⟨z,H7,I7.unpinned,q7⟩)|(obtain⟨x7,z,H7,I7,r7,q7⟩:=q7;exact⟨x7,z,H7,I7.unpinned,r7,q7⟩)
end
noncomputable abbrev R2:=V->V->Hp->VK->Prop
def OpR(X:Cx)(f:Value->Value->Sem Value)(r:R2):Prop:=
 ∀pins s (σ:St) H x y v u Q,Inv X pins σ H s->aE x v->aE y u->r x y H Q ->
  wpAny (model X.prog X.w) X.A (f v u) (EP X pins σ Q) X.xe s
def bo(X:Cx)(f:Value)(r:List V->Hp->VK->Prop):Prop:=
 ∀pins s (σ:St) H xs us Q,Inv X pins σ H s->aG xs us->r xs H Q ->
  wpAny (model X.prog X.w) X.A (call f us) (EP X pins σ Q) X.xe s
noncomputable def tOp(r:R2)(ta tb:TE):TE:=λσ H Q=>ta σ H λx H1=>tb σ H1 λy H2=>r x y H2 Q
noncomputable def rI(C:Int->Int->Prop)(g:Int->Int->V):R2:=λx y H Q=>∃i j,x=.int i/\y=.int j/\C i j/\Q (g i j) H
noncomputable def rI0(g:Int->Int->V):R2:=λx y H Q=>∃i j,x=.int i/\y=.int j/\Q (g i j) H
section
variable{X:Cx}{a b c:Expr}{ta tb tc:TE}{pos:Pos}
def DP(Y:PE X a ta)(Z:PE X b tb){R:V->V->Hp->Prop}(I:Inv X pins σ H s)
  (h:ta σ H λx H1=>tb σ H1 λy H2=>R x y H2) {f:Value->Value->Sem Value}
  (hf:∀v u U x y H2,Inv X pins σ H2 U->aE x v->aE y u->R x y H2->wpAny (model X.prog X.w) X.A (f v u) Q X.xe U) :
  wpAny (model X.prog X.w) X.A (eval a X.env) (λv z=>wpAny (model X.prog X.w) X.A (eval b X.env) (λu J=>wpAny (model X.prog X.w) X.A (f v u) Q X.xe J) X.xe z) X.xe s:=by
 refine thn (Y pins s σ H _ I h) λv s1 ⟨x,H1,I1,r1,q1⟩=>?_
 refine thn (Z pins s1 σ H1 _ I1 q1) λu U ⟨y,H2,I2,r2,q2⟩=>?_
 exact hf v u U x y H2 I2 r1 r2 q2
def uT(ho:OpR X (binaryOp op) r)(z:PE X a ta)(J:PE X b tb):PE X (.BinOp a op b pos) (tOp r ta tb):=by
 intro pins s σ H Q I h;exact wpAny_BinOp (DP z J I h λv u U x y H2 Y Z ry q=>ho pins U σ H2 x y v u Q Y Z ry q)
def opI{C:Int->Int->Prop}{g:Int->Int->Int}
  (rule:∀i j t u s Q E,C i j->Q (.int (g i j) s.toks) { s with toks:=s.toks+1 }->wpAny (model X.prog X.w) X.A (f (.int i t) (.int j u)) Q E s) :
  OpR X f (rI C λi j=>.int (g i j)):=by
 intro pins s σ H x y v u Q I z J h;obtain⟨i,j,rfl,rfl,hc,q⟩:=h;obtain⟨t,rfl⟩:=z;obtain⟨t',rfl⟩:=J;exact rule i j t t' s _ _ hc ⟨.int (g i j),H,I.tok _,⟨_,rfl⟩,q⟩
def GL{g:Int->Int->Int}
  (rule:∀i j t u s Q E,Q (.int (g i j) s.toks) { s with toks:=s.toks+1 }->wpAny (model X.prog X.w) X.A (f (.int i t) (.int j u)) Q E s) :
  OpR X f (rI0 λi j=>.int (g i j)):=by
 intro pins s σ H x y v u Q I z J h;obtain⟨i,j,rfl,rfl,q⟩:=h;obtain⟨t,rfl⟩:=z;obtain⟨t',rfl⟩:=J;exact rule i j t t' s _ _ ⟨.int _,H,I.tok _,⟨_,rfl⟩,q⟩
def Bk{g:Int->Int->Bool}
  (rule:∀i j t u s Q E,Q (.bool (g i j)) s->wpAny (model X.prog X.w) X.A (f (.int i t) (.int j u)) Q E s) :
  OpR X f (rI0 λi j=>.bl (g i j)):=by
 intro pins s σ H x y v u Q I z J h;obtain⟨i,j,rfl,rfl,q⟩:=h;obtain⟨t,rfl⟩:=z;obtain⟨t',rfl⟩:=J;exact rule i j t t' s _ _ ⟨.bl _,H,I,rfl,q⟩
def Je(i j:Int):Prop:=0<j/\j<1073741824
def Jf(i j:Int):Prop:=0<=j/\j<=1000000/\i.natAbs<2 ^ 64
def DQ(i j:Int):Prop:=(-(2 ^ 64)<i/\i<2 ^ 64)\/(-(2 ^ 64)<j/\j<2 ^ 64)
theorem DQ.ok(h:DQ i j):IntMulOk i j:=by
 rcases h with⟨h1,h2⟩|⟨h1,h2⟩
 .exact .of_left (intBits_le_64 h1 h2)
 .exact .of_right (intBits_le_64 h1 h2)
def tG(k):(0:Int)<=2 ^ k:=
  Int.natCast_nonneg _
def DR:OpR X (binaryOp .Add) (rI0 λi j=>.int (i+j)):=GL λ_ _ _ _ _ _ _ q=>add_int q
def DS:OpR X (binaryOp .Sub) (rI0 λi j=>.int (i-j)):=GL λ_ _ _ _ _ _ _ q=>sub_int q
def DT:OpR X (binaryOp .Mult) (rI DQ λi j=>.int (i*j)):=opI λ_ _ _ _ _ _ _ hc q=>mul_int q hc.ok
def Bl:OpR X (binaryOp .FloorDiv) (rI Je λi j=>.int (i / j)):=opI λi j _ _ _ _ _ hc q=>by
 have h1:=hc.1;have h2:=hc.2;exact floordiv_int (by omega) (by rw[MP i (by omega)];exact q) (.inl (PyProof.noPylong_small (by omega)))
def DU:OpR X (binaryOp .Mod) (rI (λ_ j=>0<j) λi j=>.int (i % j)):=opI λi j _ _ _ _ _ hc q=>by
 exact mod_int' (by omega) (by rw[Int.fmod_eq_emod_of_nonneg i (by omega)];exact q)
def DV:OpR X (binaryOp .Pow) (rI Jf λi j=>.int (i ^ j.toNat)):=opI λ_ _ _ _ _ _ _ hc q=>pow_int_small hc.1 hc.2.1 hc.2.2 q
def DW:OpR X (binaryOp .RShift) (rI (λ_ j=>0<=j) λi j=>.int (i / 2 ^ j.toNat)):=opI λi j _ _ _ _ _ hc q =>
 rshift_int hc (by rw[MP i (tG _)];exact q)
end
noncomputable def scal:V->V->Bool
 | .non,.non=>true|.non,.int _=>true|.int _,.non=>true|.non,.bl _=>true|.bl _,.non=>true|.non,.str _=>true|.str _,.non=>true
 | .int _,.int _=>true|.bl _,.bl _=>true|.str _,.str _=>true|.byt _,.byt _=>true
 | .int _,.str _=>true|.str _,.int _=>true|.bl _,.str _=>true|.str _,.bl _=>true
 | _,_=>false
noncomputable def rNe:R2:=λx y H Q=>scal x y=true/\Q (.bl (!decide (x=y))) H
def uU :decide (V.int i=V.int j)=(i==j):=by
 rw[Kv];simp
def xU :decide (V.bl i=V.bl j)=(i==j):=by
 rw[Kv];simp
def uV :decide (V.str i=V.str j)=(i==j):=by
 rw[Kv];simp
def Bm :decide (V.byt i=V.byt j)=(i.toList==j.toList):=by
 rw[Kv];cases i;cases j;simp
section
variable{X:Cx}{a b c:Expr}{ta tb tc:TE}{pos:Pos}
def ca{σ:St}{H:Hp}{s:Shared}{Q:VK}{k z:Bool}(I:Inv X pins σ H s)(q:Q (.bl k) H)(e:k=z):EP X pins σ Q (.bool z) s:=by
 subst e;exact⟨.bl k,H,I,rfl,q⟩
def GM:OpR X (compareOp .NotEq) rNe:=by
 intro pins s σ H x y v u Q I J z h;obtain⟨hs,q⟩:=h;cases x with
 |non =>
  cases J;cases y with
  |non=>cases z;exact PySem.EqNone.ne_none_none (ca I q (by simp))
  |bl j=>cases z;exact PySem.EqNone.ne_none_bool (ca I q (by simp))
  |int j=>obtain⟨t',rfl⟩:=z;exact PySem.EqNone.ne_none_int (ca I q (by simp))
  |str j=>obtain⟨t',rfl⟩:=z;exact PySem.EqNone.ne_none_str (ca I q (by simp))
  | _=>exact absurd (show false=true from hs) mu
 |bl i =>
  cases J;cases y with
  |non=>cases z;exact PySem.EqNone.ne_bool_none (ca I q (by simp))
  |bl j=>cases z;exact ne_bool (ca I q (J5 not xU))
  |str j=>obtain⟨t',rfl⟩:=z;exact PySem.EqMixed.ne_bool_str (ca I q (by simp))
  | _=>exact absurd (show false=true from hs) mu
 |int i =>
  obtain⟨t,rfl⟩:=J;cases y with
  |non=>cases z;exact PySem.EqNone.ne_int_none (ca I q (by simp))
  |int j=>obtain⟨t',rfl⟩:=z;exact ne_int (ca I q (J5 not uU))
  |str j=>obtain⟨t',rfl⟩:=z;exact PySem.EqMixed.ne_int_str (ca I q (by simp))
  | _=>exact absurd (show false=true from hs) mu
 |str i =>
  obtain⟨t,rfl⟩:=J;cases y with
  |non=>cases z;exact PySem.EqNone.ne_str_none (ca I q (by simp))
  |bl j=>cases z;exact PySem.EqMixed.ne_str_bool (ca I q (by simp))
  |int j=>obtain⟨t',rfl⟩:=z;exact PySem.EqMixed.ne_str_int (ca I q (by simp))
  |str j=>obtain⟨t',rfl⟩:=z;exact ne_str (ca I q (J5 not uV))
  | _=>exact absurd (show false=true from hs) mu
 |byt i =>
  obtain⟨t,rfl⟩:=J;cases y with
  |byt j=>obtain⟨t',rfl⟩:=z;exact PySem.W.ne_bytes (ca I q (J5 not Bm))
  | _=>exact absurd (show false=true from hs) mu
 | _=>cases y<;>exact absurd (show false=true from hs) mu
def GN:OpR X (compareOp .Lt) (rI0 λi j=>.bl (decide (i<j))):=Bk λ_ _ _ _ _ _ _ q=>lt_int q
def GO:OpR X (compareOp .LtE) (rI0 λi j=>.bl (decide (i<=j))):=Bk λ_ _ _ _ _ _ _ q=>le_int q
def GP:OpR X (compareOp .Gt) (rI0 λi j=>.bl (decide (j<i))):=Bk λ_ _ _ _ _ _ _ q=>gt_int q
def GQ:OpR X (compareOp .GtE) (rI0 λi j=>.bl (decide (j<=i))):=Bk λ_ _ _ _ _ _ _ q=>ge_int q
def DX:OpR X (compareOp .Is) (λx y H Q=>y=.non/\Q (.bl (decide (x=.non))) H):=by
 intro pins s σ H x y v u Q I z J h;obtain⟨rfl,q⟩:=h;cases J;refine is_none_gen (ca I q ?_);cases x<;>first
  | (cases z;rfl)
  | (obtain⟨t,rfl⟩:=z;rfl)
def Bn:OpR X (compareOp .IsNot) (λx y H Q=>y=.non/\Q (.bl (!decide (x=.non))) H):=by
 intro pins s σ H x y v u Q I z J h;obtain⟨rfl,q⟩:=h;cases J;refine isnot_none_gen (ca I q ?_);cases x<;>first
  | (cases z;rfl)
  | (obtain⟨t,rfl⟩:=z;rfl)
def Bo(ho:OpR X (compareOp op) r)(z:PE X a ta)(J:PE X b tb)(U:behindInMarks op b=false):PE X (.Compare a [op] [b] pos) (tOp r ta tb):=by
 intro pins s σ H Q I h;exact wpAny_Compare1 (DP z J I h λv u Y x y H2 Z rx ry q=>ho pins Y σ H2 x y v u Q Z rx ry q) U
noncomputable def GR(t:TE):TT:=λσ H Q=>t σ H λx H'=>∃k,x=.bl k/\Q k H'
def Bp(ho:OpR X (compareOp op) r)(J:PE X a ta)(U:PE X b tb)(Y:behindInMarks op b=false):PT X (.Compare a [op] [b] pos) (GR (tOp r ta tb)):=by
 intro pins s σ H Q I h;refine wpAny_isTrue_Compare1 (thn (J pins s σ H _ I h) λv Z ⟨x,H1,I1,r1,q1⟩=>thn (U pins Z σ H1 _ I1 q1) λu s2 ⟨y,H2,I2,r2,q2⟩ =>
  thn (ho pins s2 σ H2 x y v u _ I2 r1 r2 q2) λc s3 ⟨z,H3,I3,r3,k,e,q3⟩=>?_) Y
 subst e;cases r3;exact KP ⟨H3,I3,q3⟩
def kA:(sizeLine:Nat)<2 ^ 63:=by simp_all [Ke]
def tH:OpR X (binaryOp .Add) (λx y H Q=>∃i j,x=.str i/\y=.str j/\i.length+j.length<=sizeLine/\Q (.str (i++j)) H):=by
 intro pins s σ H x y v u Q I z J h;obtain⟨i,j,rfl,rfl,hz,q⟩:=h;obtain⟨t,rfl⟩:=z;obtain⟨t',rfl⟩:=J;exact add_str (λt' tk=>⟨.str _,H,I.tok _,⟨_,rfl⟩,q⟩) hz
def dB(r:aG [x] us):∃u,us=[u]/\aE x u:=by
 cases r with
 |cons z J=>cases J;exact⟨_,rfl,z⟩
def xV(r:aG [x,y] us):∃u z,us=[u,z]/\aE x u/\aE y z:=by
 cases r with
 |cons J U =>
  cases U with
  |cons Y Z=>cases Z;exact⟨_,_,rfl,J,Y⟩
def ww (hc:X.calm=true):bo X (.builtin "max") (λxs H Q=>∃i j,xs=[.int i,.int j]/\Q (.int (if j > i then j else i)) H):=by
 intro pins s σ H xs us Q I r h;obtain⟨i,j,rfl,q⟩:=h;obtain⟨u,J,rfl,⟨t,rfl⟩,⟨t',rfl⟩⟩:=xV r;refine max_two_ints (I.ok.hd hc) λh' tk k=>⟨_,H,I.kept k,?_,q⟩
 by_cases z:j > i
 .rw[if_pos z,if_pos z];exact⟨_,rfl⟩
 .rw[if_neg z,if_neg z];exact⟨_,rfl⟩
def wz (hc:X.calm=true):bo X (.builtin "min") (λxs H Q=>∃i j,xs=[.int i,.int j]/\Q (.int (if j<i then j else i)) H):=by
 intro pins s σ H xs us Q I r h;obtain⟨i,j,rfl,q⟩:=h;obtain⟨u,J,rfl,⟨t,rfl⟩,⟨t',rfl⟩⟩:=xV r;refine min_two_ints (I.ok.hd hc) λh' tk k=>⟨_,H,I.kept k,?_,q⟩
 by_cases z:j<i
 .rw[if_pos z,if_pos z];exact⟨_,rfl⟩
 .rw[if_neg z,if_neg z];exact⟨_,rfl⟩
def oP:bo X (.type "int") (λxs H Q=>(∃i,xs=[.int i]/\Q (.int i) H)\/∃k,xs=[.bl k]/\Q (.int (if k then 1 else 0)) H):=by
 intro pins s σ H xs us Q I r h;rcases h with⟨i,rfl,q⟩|⟨k,rfl,q⟩
 .obtain⟨u,rfl,t,rfl⟩:=dB r;exact call_int_int ⟨.int i,H,I,⟨_,rfl⟩,q⟩
 .obtain⟨u,rfl,z⟩:=dB r;cases z;exact call_int_bool ⟨.int _,H,I.tok _,⟨_,rfl⟩,q⟩
end
section
variable{prog:Program}{w:World}{A:Around}{E:Value->Shared->Prop}{s:Shared}{K:Nl}{x dx C f:Addr}{mA:Str->Option Value}{name:Str}{v:Value}
end
def lL.some_of(r:lL (some v) o):∃u,o=some u/\aE v u:=by
 cases o with
 |none=>exact(show False from r).elim
 |some u=>exact⟨u,rfl,r⟩
section
variable{P:Program}{w:World}{H H':Hp}{h h':Heap}{a C dx:Addr}{fs fs':List (Str×V)}
end
section
variable{X:Cx}{pins:List (Addr×Obj)}{σ:St}{H:Hp}{s:Shared}{a C dx:Addr}{fs:List (Str×V)}{f:Str}{v:V}{A:Around}{E:Value->Shared->Prop}
end
section
variable{X:Cx}{o e value:Expr}{f:Str}{pos pos' tpos:Pos}{ta tv:TE}
end
section
variable{X:Cx}{pins:List (Addr×Obj)}{σ:St}{H:Hp}{s:Shared}{A:Around}{E:Value->Shared->Prop}{Q:Value->Shared->Prop}{c:Value}{b:Bool}
end
structure kB(k:Nat)(A:Around):Prop where
 hd:A.handled=none
 dp:A.depth+3*k+5<recursionLimit
 un:A.units+16*k+200<cLine
theorem kB.deeper(r:kB (k+1) A)(env):kB k (A.deeper env):=
 ⟨r.hd,by have:=r.dp;show A.depth+1+3*k+5<_;omega,by have:=r.un;show A.units+3+16*k+200<_;omega⟩
theorem kB.depth(r:kB k A):A.depth<recursionLimit:=by have:=r.dp;omega
noncomputable def GS:TA:=λ_ H Q=>Q [] H
noncomputable def GT(ta:TE)(z:TA):TA:=λσ H Q=>ta σ H λx H1=>z σ H1 λxs H2=>Q (x::xs) H2
section
variable{X:Cx}{e:Expr}{es:List Expr}{te:TE}{t:TA}{pos:Pos}
def bJ:PA X [] GS:=λ_ _ _ _ H Q I h=>MU ⟨[],H,I,.nil,h⟩
def aJ(z:PE X e te)(J:PA X es t)(hs:starEach (e::es) X.env=(false,eval e X.env)::starEach es X.env:=by rfl):PA X (e::es) (GT te t):=by
 intro pos pins s σ H Q I h;rw[hs];show wpAny _ _ (spliced ((false,eval e X.env)::backTo pos _)) _ _ s;refine L7 (thn (z pins s σ H _ I h) λu U ⟨x,H1,Y,Z,q1⟩=>?_);exact thn (J pos pins U σ H1 _ Y q1) λus s2 ⟨xs,H2,I2,r2,q2⟩=>⟨x::xs,H2,I2,.cons Z r2,q2⟩
noncomputable def Jg(t:TA):TE:=λσ H Q=>t σ H λxs H1=>xs.length<=sizeLine/\∀p,H1 p=none->Q (.ref p) (upd H1 p (.tup xs))
noncomputable def Jh(t:TA):TE:=λσ H Q=>t σ H λxs H1=>xs.length<=sizeLine/\∀p,H1 p=none->Q (.ref p) (upd H1 p (.lst xs))
def tI{Y}(h:PA X es t):PE X (.Tuple es Y pos) (Jg t):=by
 intro pins s σ H Q I Z;refine wpAny_Tuple_spliced (thn (h pos pins s σ H _ I Z) λus J ⟨xs,H1,U,r,z,q⟩=>⟨by rw[<- r.length];exact z,?_⟩);have hf:=U.hok.fresh (gx _);refine⟨.ref J.heap.objs.size,upd H1 J.heap.objs.size _,U.laid (λb u e=>gk _ e) (gx _) ?_,rfl,q _ hf⟩;exact⟨z,us,r,⟨_,pe _ rfl,rfl,_,rfl⟩⟩
def tJ(h:PA X es t):PE X (.List es pos) (Jh t):=by
 intro pins s σ H Q I Y;refine wpAny_List_spliced (thn (h pos pins s σ H _ I Y) λus J ⟨xs,H1,U,r,z,q⟩=>⟨by rw[<- r.length];exact z,?_⟩);have Z:=U.hok.fresh (gx _);refine⟨.ref J.heap.objs.size,upd H1 J.heap.objs.size _,U.laid (λb u e=>gk _ e) (gx _) ?_,rfl,q _ Z⟩;exact⟨z,us,0,r,pe _ rfl⟩
end
noncomputable abbrev Sp:=List V->Hp->VK->XK->Prop
noncomputable abbrev CXT:=List Env->Hp->Shared->XK->Value->Shared->Prop
structure Bq(P:Program)(w:World)(K:Nl)(mg:Str->Option Value)(base:Heap)(A:Around)(outer:List Env)(s:Shared)(H:Hp):Prop where
 frames:A.frames=some outer
 mod:Mod K mg base
 bs:∀b o,base.get? b=some o->s.heap.get? b=some o/\H b=none
 bsz:base.objs.size<=s.heap.objs.size
 funs:s.heap.FunFrames base outer
 frf:∀b∈frs outer,H b=none
 hok:HOk P w H s.heap
 bare:AllBare s.gens
def CE(outer:List Env)(P:Program)(w:World)(H:Hp)(s:Shared)(Q:VK)(u:Value)(s':Shared):Prop:=
 ∃v H',s'.os=s.os/\AllBare s'.gens/\Un (frs outer) [] H H' s.heap s'.heap/\HOk P w H' s'.heap/\aE v u/\Q v H'
def CR(CX:CXT)(outer:List Env)(P:Program)(w:World)(H:Hp)(s:Shared)(Q:VK)(E:XK)(r:Result)(s':Shared):Prop:=
 match r with
 | .ok (.ret u)=>CE outer P w H s Q u s'
 | .ok _=>False
 | .error e=>CX outer H s E e s'
structure jq(P:Program)(w:World)(K:Nl)(mg:Str->Option Value)(base:Heap)(CX:CXT)(k:Nat)(f:Addr)(fd:FuncData)(ps:List Str)(sp:Sp):Prop where
 len:∀vs H Q E,sp vs H Q E->vs.length=ps.length
 run:∀(A:Around) (outer:List Env) (s:Shared) (H:Hp) (args:Args) (us:List Value) (vs:List V) (Q:VK) (E:XK),kB k A->Bq P w K mg base A outer s H->BindsTo s fd args (ps.zip us)->aG vs us->sp vs H Q E ->
  codeAny (model P w) A (.call (.ref f) args) (CR CX outer P w H s Q E) s
section
variable{X:Cx}{pins:List (Addr×Obj)}{σ:St}{H:Hp}{s s':Shared}
theorem Inv.env0(I:Inv X pins σ H s):Bq X.prog X.w X.K X.mg X.base X.A X.stack s H:=
 ⟨I.ok.frames,I.ok.mod,I.bs,r4 I.ok.bsz I.sz,I.stack,I.stkFree,I.hok,I.bare⟩
def Inv.after(I:Inv X pins σ H s)(h:CE X.stack X.prog X.w H s Q u s'):EP X pins σ Q u s':=by
 obtain⟨v,H',os,bare,un,hok,r,q⟩:=h;obtain⟨U,g,d,t,J⟩:=s';obtain rfl:J=s.os:=os;exact⟨v,H',I.call un hok bare (λb z=>absurd z (by simp)),r,q⟩
end
noncomputable def xW(sp:Sp)(dvs:List V)(E:XK)(t:TA):TE:=λσ H Q=>t σ H λvs H1=>sp (vs++dvs) H1 Q E
def cX(K:Nl)(fd:FuncData)(ps:List Str)(ds:List Value):Prop:=
 ∀s us,K.In s.heap->(us++ds).length=ps.length->BindsTo s fd ⟨us,[]⟩ (ps.zip (us++ds))
theorem cX.all{K:Nl}(h:∀us,us.length=ps.length->bindArgs fd ⟨us,[]⟩=pure (ps.zip us)):cX K fd ps []:=λs us _ z=>by
 rw[K0]at z ⊢;exact .of_eq (h us z)
def p6(CX:CXT)(X:Cx)(E:XK):Prop:=∀pins (σ:St) H s e s',Inv X pins σ H s->CX X.stack H s E e s'->X.xe e s'
section
variable{X:Cx}{CX:CXT}{k:Nat}{f C:Addr}{fd:FuncData}{ps:List Str}{sp:Sp}{dvs:List V}{ds:List Value}{E:XK}{x m:Str}{p pos apos:Pos}{e o:Expr}{es:List Expr}{ta:TE}{t:TA}
def xX(F:jq X.prog X.w X.K X.mg X.base CX k f fd ps sp)(U:kB k X.A)(Y:cX X.K fd ps ds)(hd:aG dvs ds)(hx:p6 CX X E)
  (I:Inv X pins σ H s) (r:aG vs us) (h:sp (vs++dvs) H Q E):wpAny (model X.prog X.w) X.A (call (.ref f) us) (EP X pins σ Q) X.xe s:=by
 have J:=r.append hd;have Z:(us++ds).length=ps.length:=by rw[<- J.length];exact F.len _ _ _ _ h
 refine wpAny_call (LJ (F.run X.A X.stack s H ⟨us,[]⟩ (us++ds) (vs++dvs) Q E U I.env0 (Y s us I.kIn Z) J h) λr s' z=>?_);cases r with
 |error e=>exact hx pins σ H s e s' I z
 |ok fl =>
  cases fl with
  |ret u=>exact I.after z
  |next=>exact False.elim z
  |brk=>exact False.elim z
  |cont=>exact False.elim z
def lU(F:jq X.prog X.w X.K X.mg X.base CX k f fd ps sp)(Y:kB k X.A)(Z:Gl X x)(hm:X.mg x=some (.ref f))(hk:PySem.W.keepIn X.K (.ref f)=true)(hb:cX X.K fd ps ds)(hd:aG dvs ds)(hx:p6 CX X E)
  (ha:PA X (e::es) t) (z:(x==("__debug__":Str))=false:=by decide) (he:starEach (e::es) X.env=(false,eval e X.env)::starEach es X.env:=by rfl) (J:(backTo pos (starEach es X.env)).any (·.1)=false:=by rfl) :
  PE X (.Call (.Name x p) (e::es) [] pos) (xW sp dvs E t):=by
 intro pins s σ H Q I h;refine Lc (pY I Z hm ?_ z);refine PySem.W.callWith_K I.ok.mod.kin hk (thn (ha pos pins s σ H _ I h) λus s1 ⟨vs,H1,U,r,q⟩=>⟨U.kIn,?_⟩) he J;exact xX F Y hb hd hx U r q
def xY(F:jq X.prog X.w X.K X.mg X.base CX k f fd ps sp)(J:kB k X.A)(U:Gl X x)(Y:X.mg x=some (.ref f))(Z:PySem.W.keepIn X.K (.ref f)=true)(hb:cX X.K fd ps ds)(hd:aG dvs ds)(hx:p6 CX X E)
  (z:(x==("__debug__":Str))=false:=by decide):PE X (.Call (.Name x p) [] [] pos) (xW sp dvs E GS):=by
 intro pins s σ H Q I h;refine Lc (pY I U Y ?_ z);exact PySem.W.callWith_K0 I.kIn Z (xX (us:=[]) F J hb hd hx I .nil h)
end
section
variable{X:Cx}{CX:CXT}{k:Nat}{f C:Addr}{fd:FuncData}{ps ks:List Str}{sp:Sp}{E:XK}{x m:Str}{p pos apos kpos:Pos}{e o:Expr}{es:List Expr}{kws:List Keyword}{te ta:TE}{t tk:TA}{nm:Option Str}
variable{g:List Value->List Value->List Value}{gV:List V->List V->List V}
end
structure p7(N P:List Str)(sc:Scope):Prop where
 kind:sc.kind=.function
 co:sc.isCoroutine=false
 gen:sc.isGenerator=false
 nd:N.Nodup
 pre:N.take P.length=P
 par:∀x∈P,sc.names.lookup x=some .local\/sc.names.lookup x=some .cell
 nofree:∀y∈sc.names,y.2≠.free
theorem oQ{kindOf:Str->Option NameKind} :∀{binds}{m},(∀v,(x,v)∉binds)->bindL kindOf binds m x=m x
 | [],_,_=>rfl
 | (n,v)::r,m,h=>by
  unfold bindL;rw[oQ λw hw=>h w (Ku _ hw)];split
  .have:x≠n:=by rintro rfl;exact h v KL
   simp[this]
  .rfl
theorem oR{kindOf:Str->Option NameKind} :∀{binds}{m},(∀v,(x,v)∉binds)->bindC kindOf binds m x=m x
 | [],_,_=>rfl
 | (n,v)::r,m,h=>by
  unfold bindC;rw[oR λw hw=>h w (Ku _ hw)];split
  .rfl
  .have:x≠n:=by rintro rfl;exact h v KL
   simp[this]
theorem oS{kindOf:Str->Option NameKind}{x:Str}{v:Value}:∀{P:List Str}{vs}{i:Nat}{m},P.Nodup->P[i]?=some x->vs[i]?=some v->kindOf x=some .local ->
  bindL kindOf (P.zip vs) m x=some v
 | [],_,_,_,_,h,_,_=>by simp at h
 | _::_,[],_,_,_,_,h,_=>by simp at h
 |p::P,w::vs,0,m,nd,h1,h2,z=>by
  simp at h1 h2;subst h1;subst h2
  show bindL kindOf ((p,w)::P.zip vs) m p=_;unfold bindL;rw[oQ λv hv=>(Kh.mp nd).1 (of_mem_zip hv).1,if_pos z];simp
 |p::P,w::vs,i+1,m,nd,h1,h2,z=>by
  show bindL kindOf ((p,w)::P.zip vs) m x=_;exact oS (i:=i) (Kh.mp nd).2 (by simpa using h1) (by simpa using h2) z
theorem oT{kindOf:Str->Option NameKind}{x:Str}{v:Value}:∀{P:List Str}{vs}{i:Nat}{m},P.Nodup->P[i]?=some x->vs[i]?=some v->kindOf x≠some .local ->
  bindC kindOf (P.zip vs) m x=some v
 | [],_,_,_,_,h,_,_=>by simp at h
 | _::_,[],_,_,_,_,h,_=>by simp at h
 |p::P,w::vs,0,m,nd,h1,h2,z=>by
  simp at h1 h2;subst h1;subst h2
  show bindC kindOf ((p,w)::P.zip vs) m p=_;unfold bindC;rw[oR λv hv=>(Kh.mp nd).1 (of_mem_zip hv).1,if_neg z];simp
 |p::P,w::vs,i+1,m,nd,h1,h2,z=>by
  show bindC kindOf ((p,w)::P.zip vs) m x=_;exact oT (i:=i) (Kh.mp nd).2 (by simpa using h1) (by simpa using h2) z
noncomputable def eU(N:List Str)(vs:List V):St:=vs.map some++replicate (N.length-vs.length) none
noncomputable def rf(CX:CXT)(P:Program)(w:World)(K:Nl)(mg:Str->Option Value)(base:Heap)(N:List Str)(qual:Str)(scope:Scope)(f:Addr)(J:Value)(A:Around)(outer:List Env)(s:Shared)(H:Hp)(E:XK):Cx where
 prog:=P
 w:=w
 K:=K
 mg:=mg
 base:=base
 A:=A.deeper (envOfC qual scope s.heap.objs.size f J)
 N:=N
 s₀:=s
 H₀:=H
 env:=envOfC qual scope s.heap.objs.size f J
 outer:=outer
 stack:=envOfC qual scope s.heap.objs.size f J::outer
 ex:=[]
 calm:=true
 fn:=λ_=>true
 pn:=[]
 xe:=λe s'=>wpAny (model P w) (A.deeper (envOfC qual scope s.heap.objs.size f J)) (leaving (envOfC qual scope s.heap.objs.size f J) e) (λ_ z=>CX outer H s E e z) (λU z=>CX outer H s E U z) s'
def rg{sc:Scope}(h:sc.names.lookup x=some .cell):∃c,(cellsFrom n sc.names []).lookup x=some c:=by
 have q:=PySem.W.cellsFrom_some sc.names n [] (.inl h);exact isSome_iff_exists.mp q
def wA{K:Nl} 
  (S:p7 N ps scope) (hd:A.handled=none) (J:Bq P w K mg base A outer s H) (hl:vs.length=ps.length) (r:aG vs us)
  (x:InCallC s s.heap.objs.size (bindL (envOfC qual scope s.heap.objs.size f cd).kindOf (ps.zip us) λ_=>none) (cellsFrom (s.heap.objs.size+1) scope.names []) (bindC (envOfC qual scope s.heap.objs.size f cd).kindOf (ps.zip us) λ_=>none) s1) :
  Inv (rf CX P w K mg base N qual scope f cd A outer s H E) [] (eU N vs) H s1:=by
 have a1:ps.length<=N.length:=by have:=J5 List.length S.pre;rw[Ng]at this;omega
 obtain⟨h1,tk,rfl,hk⟩:=x.done;have U:∀b,b∉(rf CX P w K mg base N qual scope f cd A outer s H E).ex:=λb z=>absurd (show b∈([]:List Addr)from z) (by simp)
 refine⟨⟨J.mod,S.kind,rfl,rfl,gx _,λy z c h1 h2=>?_,λy Y=>?_,λy c _ h=>?_,λ_=>hd,Around.frames_deeper J.frames,.inr ⟨rfl,rfl⟩,λb z=>absurd z (U b),J.bs,J.bsz,λb _ _=>U b,λb z=>absurd z (U b),J.funs,J.frf⟩,
  rfl,J.bare,Un.kept hk,⟨_,x.toInCall.ns,λi y v h1 h2 h3=>?_⟩,λy c h=>⟨_,x.cell y c h⟩,J.hok.fresh (gx _),λy c h=>?_,λp Z=>absurd (show p∈([]:List (Addr×Obj))from Z) (by simp),J.hok.kept hk,?_⟩
 .exact name_of_addr x.apart (PySem.mem_of_lookup h1) (PySem.mem_of_lookup h2)
 .have Y:=Y;rcases Y with Y|Y
  .exact rg Y
  .exact absurd rfl (S.nofree _ (PySem.mem_of_lookup Y))
 .exact KZ (x.above y c (PySem.mem_of_lookup h))
 .have hi:i<vs.length:=by
   unfold eU at h2;by_cases hi:i<vs.length
   .exact hi
   .rw[Lh (by simpa using hi)]at h2;rw[L8]at h2;split at h2<;>cases h2
  have ha:vs[i]?=some v:=by
   unfold eU at h2;rw[KN (by simpa using hi),JZ]at h2;cases e:vs[i]?<;>simp_all
  obtain⟨u,hu,rv⟩:=r.get ha;have Z:ps[i]?=some y:=by
   rw[<- S.pre,getElem?_take_of_lt (by omega)];exact h1
  have ao:ps.Nodup:=by rw[<- S.pre];exact S.nd.sublist (take_sublist _ _)
  refine⟨u,rv,?_⟩;rcases S.par y (K1 Z)with k|k
  .exact .inl ⟨k,oS ao Z hu k⟩
  .obtain⟨c,e⟩:=rg (n:=s.heap.objs.size+1) k;refine .inr ⟨.inl k,c,e,?_⟩;have q:=x.cell y c e;rw[oT ao Z hu (by show scope.names.lookup y≠_;rw[k];decide)]at q;exact q
 .exact J.hok.fresh (KZ (x.above y c (PySem.mem_of_lookup h)))
 .unfold eU;show _=N.length;rw[wh,nR,length_replicate];omega
def xZ{K:Nl}{dV kV Z pm z ct oc:Value} 
  (lk:K.lookup f=some ⟨oc,od,.func (PySem.W.fnOf name qual params body scope dV kV Z pm an z ct),a7⟩) (a0:PySem.W.codeIn K z qual=true) (S:p7 N ps scope)
  (len:∀vs H Q E,sp vs H Q E->vs.length=ps.length)
  (U:∀A outer s H vs Q E,kB k (A.deeper (envOfC qual scope s.heap.objs.size f z))->sp vs H Q E ->
   ∃t,PSs (rf CX P w K mg base N qual scope f z A outer s H E) body t/\t { nx:=λ_ H'=>Q .non H',rt:=Q } (eU N vs) H) :
  jq P w K mg base CX (k+1) f (PySem.W.fnOf name qual params body scope dV kV Z pm an z ct) ps sp:=by
 refine⟨len,λA outer s H args us vs Q E hr e0 hb r aO=>?_⟩;have hl:=len _ _ _ _ aO;have KX:=e0.mod.kin.keeps λb o e=>(e0.bs b o e).1
 have lim:=e0.mod.nolimit.keeps λb o e=>(e0.bs b o e).1
 have Y:∀y∈ps.zip us,scope.names.lookup y.1=some .local\/(scope.names.lookup y.1=some .cell/\((cellsFrom (s.heap.objs.size+1) scope.names []).lookup y.1).isSome=true):=λ⟨n,v⟩ hy=>by
  rcases S.par n (of_mem_zip hy).1 with q|q
  .exact .inl q
  .exact .inr ⟨q,PySem.W.cellsFrom_some _ _ _ (.inl q)⟩
 refine codeAny_call_function hr.depth (KX _ _ lk) rfl S.co S.gen rfl (PySem.W.codeRec_of KX a0) (hb _ _ _ _ ?_);refine wpAny_newFunctionEnv_cells S.kind Y λenv he s1 x=>?_
 subst he;refine⟨lim.keeps x.toInCall.keep,codeAny_func ?_⟩;obtain⟨t,ht,hq⟩:=U A outer s H vs Q E (hr.deeper _) aO;have I:Inv (rf CX P w K mg base N qual scope f z A outer s H E) [] _ H s1:=wA S hr.hd e0 hl r x;refine Kd (ht [] s1 _ H _ I hq) (λfl s' hs=>?_) λe s' hs=>hs
 have fin:∀{F}{H'}{v}{u},Inv (rf CX P w K mg base N qual scope f z A outer s H E) [] F H' s'->aE v u->Q v H'->CE outer P w H s Q u s':=
  λ{F H' v u} J rv q=>⟨v,H',J.os,J.bare,J.base,J.hok,rv,q⟩
 cases fl with
 |next =>
  obtain⟨F,H',J,q⟩:=hs;exact fin (v:=V.non) J rfl q
 |ret u =>
  obtain⟨v,F,H',J,rv,q⟩:=hs;exact fin J rv q
 | _ =>
  obtain⟨_,_,_,q⟩:=hs;exact False.elim q
section
variable{X:Cx}{x:Str}{p pos:Pos}{e:Expr}{es:List Expr}{t:TA}{id T:String}{r:List V->Hp->VK->Prop}
noncomputable def tCB(r:List V->Hp->VK->Prop)(t:TA):TE:=λσ H Q=>t σ H λvs H1=>r vs H1 Q
def fg (hc:bo X (.builtin id) r) (U:Gl X x) (Y:X.mg x=none) (hv:bootBuiltins x=some (.builtin id)) (Z:PA X (e::es) t) (hn:x ≠ "__name__":=by decide) (z:(x==("__debug__":Str))=false:=by decide)
  (he:starEach (e::es) X.env=(false,eval e X.env)::starEach es X.env:=by rfl) (J:(backTo pos (starEach es X.env)).any (·.1)=false:=by rfl):PE X (.Call (.Name x p) (e::es) [] pos) (tCB r t):=by
 intro pins s σ H Q I h;refine Lc (iu I U Y hv ?_ hn z);exact PyProof.Rows.callWith_builtin1 (thn (Z pos pins s σ H _ I h) λus s1 ⟨vs,H1,I1,r1,q1⟩=>hc pins s1 σ H1 vs us Q I1 r1 q1) he J
def cY (hc:bo X (.type T) r) (U:Gl X x) (Y:X.mg x=none) (hv:bootBuiltins x=some (.type T)) (Z:PA X (e::es) t) (hn:x ≠ "__name__":=by decide) (z:(x==("__debug__":Str))=false:=by decide)
  (he:starEach (e::es) X.env=(false,eval e X.env)::starEach es X.env:=by rfl) (J:(backTo pos (starEach es X.env)).any (·.1)=false:=by rfl):PE X (.Call (.Name x p) (e::es) [] pos) (tCB r t):=by
 intro pins s σ H Q I h;refine Lc (iu I U Y hv ?_ hn z);exact Kx (thn (Z pos pins s σ H _ I h) λus s1 ⟨vs,H1,I1,r1,q1⟩=>hc pins s1 σ H1 vs us Q I1 r1 q1) he J
end
end L2
namespace HT
open PySem PyProof.Rows List Option
noncomputable def lexLt:List Int->List Int->Bool
 | [],[]=>false
 | [],_::_=>true
 | _::_,[]=>false
 |x::xs,y::ys=>if x=y then lexLt xs ys else decide (x<y)
def lexLt_cons(x y)(xs ys):lexLt (x::xs) (y::ys)=if x=y then lexLt xs ys else decide (x<y):=rfl
def ou:lexLt [] []=false:=rfl
def my(y)(ys):lexLt [] (y::ys)=true:=rfl
def mz(x)(xs):lexLt (x::xs) []=false:=rfl
def x0(A)(s)(a)(t)(c)(u):∃e,SeqAt.EqAt A s (.int a t) (.int c u) e/\(e=true ↔ a=c):=
 ⟨(a==c),SeqAt.EqAt.int_int a t c u,by simp⟩
def x_(A)(s)(a)(t)(c)(u)(prog)(w)(E)(Q)(h:Q (.bool (decide (a<c))) s) :
  wpAny (model prog w) A (richCompare .Lt (.int a t) (.int c u)) Q E s:=
 (PyProof.Rows.lt_int h:wpAny (model prog w) A (compareOp .Lt (.int a t) (.int c u)) Q E s)
section
open PySem.SeqAt List Option
open PySem.AutoSeq1 (wpAny_loadPart')
open PySem.MeetsSeq PySem.MeetsSeq2 PySem.MeetsSeq3 List Option
def tuple_lt_ints(l b)(items z)(n n2)(dd a7)(sl a8)(ns ms)(hi:IntsAre items.toList ns)(hj:IntsAre z.toList ms) :
  Meets (Builtin.«tuple.__lt__» ⟨[.ref l,.ref b],[]⟩)
   (λ_ R s=>s.heap.get? l=some { cls:=.type "tuple",dict:=dd,data:=.seq items n,slots:=sl }/\s.heap.get? b=some { cls:=.type "tuple",dict:=a7,data:=.seq z n2,slots:=a8 } /\
    R (.ok (.ret (.bool (lexLt ns ms)))) s):=
 .of_wp λprog w A R s h=>by
  obtain⟨hp,g,d,tk,os⟩:=s;obtain⟨hl,hb,h⟩:=h
  have f2:=L9;have z1:items.size=ns.length:=by rw[<- hi.length];simp
  have z2:z.size=ms.length:=by rw[<- hj.length];simp
  wp_walk using wpAny_loadPart' hl,wpAny_loadPart' hb,wpAny_forIn_list _ (λbP b s'=>b.1=none/\s'=⟨hp,g,d,tk,os⟩/\∃vs ws U Y,bP=vs.zip ws /\
   IntsAre vs U/\IntsAre ws Y/\U.length+z.size=Y.length+items.size/\R (.ok (.ret (.bool (lexLt U Y)))) ⟨hp,g,d,tk,os⟩) _
  case turn =>
   rintro ⟨y,x⟩ bP b s' ⟨a0,rfl,vs,ws,U,Y,hz,a1,Z,J,hR⟩;cases a1 with
   |nil=>rw[zip_nil_left]at hz;cases hz
   |cons a t a3 =>
    cases Z with
    |nil=>rw[zip_nil_right]at hz;cases hz
    |cons c u a4 =>
     rw[zip_cons_cons]at hz;injection hz with a9 a2
     injection a9 with hy hx
     subst hy hx;rw[lexLt_cons]at hR;simp only[length_cons]at J;obtain⟨e,he,aO⟩:=x0 A.in1 ⟨hp,g,d,tk,os⟩ a t c u;refine eh (he prog w _ _ ?_);cases e with
     |true =>
      rw[if_pos (aO.mp rfl)]at hR
      wp_walk
      exact⟨rfl,rfl,_,_,_,_,a2,a3,a4,by omega,hR⟩
     |false =>
      rw[if_neg (λq=>absurd (aO.mpr q) mu)]at hR;have bA:=x_ A.in1 ⟨hp,g,d,tk,os⟩ a t c u prog w
      wp_walk using bA
      exact⟨_,rfl,by simpa using hR⟩
  case fin =>
   rintro ⟨b1,b2⟩ s' ⟨a0,rfl,vs,ws,U,Y,hz,a1,Z,J,hR⟩;simp only at a0;subst a0;have hv:lexLt U Y=decide (items.size<z.size):=by
    cases a1 with
    |nil =>
     cases Z with
     |nil =>
      simp only[length_nil]at J;rw[ou];exact(J0 (by omega)).symm
     |cons c u hw =>
      simp only[length_nil,length_cons]at J;rw[my];exact(JS (by omega)).symm
    |cons a t hv =>
     cases Z with
     |nil =>
      simp only[length_nil,length_cons]at J;rw[mz];exact(J0 (by omega)).symm
     |cons c u hw =>
      rw[zip_cons_cons]at hz;cases hz
   rw[hv]at hR
   wp_walk
   exact⟨_,rfl,by simpa[Builtin.Tuple.tupleCompareSizes]using hR⟩
  case h =>
   exact⟨rfl,rfl,items.toList,z.toList,ns,ms,rfl,hi,hj,by omega,h⟩
end
section
variable{prog:Program}{w:World}{A:Around}{E:Value->Shared->Prop}{s:Shared}
def lt_tupInts{items z:Array Value}{ns ms:List Int}{Q:Value->Shared->Prop}(hl:IsTup s.heap l items)(hb:IsTup s.heap b z)(hi:IntsAre items.toList ns)(hj:IntsAre z.toList ms)
  (hu:A.units<cLine) (h:Q (.bool (lexLt ns ms)) s):wpAny (model prog w) A (compareOp .Lt (.ref l) (.ref b)) Q E s:=by
 refine aC λZq kq=>?_
 obtain⟨⟨cls,dd,data,sl⟩,ho,hc,n,hd⟩:=id hl;obtain⟨⟨aO,Z,data2,ao⟩,J,U,n2,Y⟩:=id hb;simp only at hc hd U Y;subst hc hd U Y;refine kq ?_;exact Lz (op:=.Lt) ⟨_,ho,rfl⟩ ⟨_,J,rfl⟩ PySem.F.slot_tuple_lt PySem.F.entry_tuple_lt (PySem.F.args_tuple_lt_2 _ _) (tuple_lt_ints l b items z n n2 dd Z sl ao ns ms hi hj)
  ⟨ho,J,show Value.bool _≠Value.notImplemented/\Q _ s from⟨(λx=>nomatch x),h⟩⟩ hu
def cat_tup(ht:IsTup s.heap t vs.toArray)(hb:IsTup s.heap b ws.toArray)(hv:vs≠[])
  (h1:ws=[]->Q (.ref t) s) (h2:ws≠[]->Q (.ref s.heap.objs.size) { s with heap:=s.heap.push { cls:=.type "tuple",data:=.seq (vs++ws).toArray } })
  (ao:vs.length+ws.length<=sizeLine):wpAny (model prog w) A (binaryOp .Add (.ref t) (.ref b)) Q E s:=by
 refine aC λZq kq=>?_
 obtain⟨⟨cls,dd,data,sl⟩,ho,hc,n,hd⟩:=id ht;obtain⟨⟨a0,J,data2,U⟩,z,Y,n2,Z⟩:=id hb;simp only at hc hd Y Z;subst hc hd Y Z;have e:vs.toArray++ws.toArray=(vs++ws).toArray:=by simp
 refine kq ?_;by_cases hw:ws=[]
 .exact M4 ⟨_,ho,rfl⟩ ⟨_,z,rfl⟩ M5 seq_tuple_add PySem.F.slot_tuple_add PySem.F.entry_tuple_add (PySem.F.args_tuple_add_2 _ _)
   (tuple_addW1 t b vs.toArray ws.toArray n n2 dd J sl U (by simpa using hv) (by simp[hw])) ⟨ho,z,h1 hw⟩
 .refine M4 ⟨_,ho,rfl⟩ ⟨_,z,rfl⟩ M5 seq_tuple_add PySem.F.slot_tuple_add PySem.F.entry_tuple_add (PySem.F.args_tuple_add_2 _ _)
   (tuple_addW2 t b vs.toArray ws.toArray n n2 dd J sl U (by simpa using hv) (by simpa using hw) (by rw[oe,oe];exact ao)) ⟨ho,z,?_⟩
  rw[e];exact h2 hw
noncomputable def sIx(n d:Nat):Option Int->Nat
 |none=>d
 |some v=>if v<0 then(v+(n:Int)).toNat else min v.toNat n
def DY(n d)(hd:d<=n)(o):sIx n d o<=n:=by
 cases o with
 |none=>exact hd
 |some v =>
  show(if v<0 then(v+_).toNat else min v.toNat n)<=n
  grind
def uW(v)(n d:Nat):(if v<0 then max (v+(n:Int)) 0 else min v (n:Int))=((sIx n d (some v):Nat):Int):=by
 show(if v<0 then max _ 0 else min v _)=(((if v<0 then(v+_).toNat else min v.toNat n):Nat):Int)
 grind
def tK(lo hi)(n:Nat):Builtin.Slice.sliceAdjust lo hi 1 (n:Int)=(((sIx n 0 lo:Nat):Int),((sIx n n hi:Nat):Int)):=by
 refine Prod.ext ?_ ?_
 .cases lo with
  |none=>rfl
  |some v=>exact uW v n 0
 .cases hi with
  |none=>rfl
  |some v=>exact uW v n n
def tL(i j:Nat):Builtin.Slice.slicePlaces (i:Int) (j:Int) 1=j-i:=by
 unfold Builtin.Slice.slicePlaces
 grind
def mB(p:IsPart v o)(h:Q o s):wpAny (model prog w) A (Builtin.Slice.slicePartIndex v) Q E s:=by
 cases p<;>first|exact slicePart_none h|exact slicePart_int h
def gc{lo hi:Option Int}{n:Nat}{Q:Int×Int×Nat->Shared->Prop}(hs:s.heap.IsSliceOf Z U Y .none)(pl:IsPart U lo)(pu:IsPart Y hi)
  (h:Q (((sIx n 0 lo:Nat):Int),1,sIx n n hi-sIx n 0 lo) s):wpAny (model prog w) A (Builtin.Slice.sliceApplied (.ref Z) (pure (n:Int))) Q E s:=by
 obtain⟨os,z,a0,J⟩:=id hs;refine eh (eh (wpAny_field z J (x:=U) rfl (eh (wpAny_field z J (x:=Y) rfl (eh (wpAny_field z J (x:=.none) rfl (gf ?_)))))));refine eh (slicePart_none ?_);refine eh (mB pl (eh (mB pu (eh (gf ?_)))));show wpAny _ _ (match Builtin.Slice.sliceAdjust lo hi 1 _ with|(lo,hi)=>pure (lo,_,Builtin.Slice.slicePlaces lo hi 1)) _ _ s;rw[tK lo hi n];show wpAny _ _ (pure (((sIx n 0 lo:Nat):Int),_,Builtin.Slice.slicePlaces _ _ 1)) _ _ s;rw[tL];exact gf h
def ya(xs:Array Value)(i k:Nat):((range k).filterMap λ(m:Nat)=>xs[((i:Int)+(m:Int)*1).toNat]?).toArray=((xs.toList.drop i).take k).toArray:=by
 have e:(λ(m:Nat)=>xs[((i:Int)+(m:Int)*1).toNat]?)=λm=>xs[i+m]?:=by
  funext m
  have:((i:Int)+(m:Int)*1).toNat=i+m:=by omega
  rw[this]
 rw[e];have:=pick_run xs i k;rw[filterMap_map]at this;have z:((λx=>xs[x]?)∘λx=>i+x)=λm=>xs[i+m]?:=rfl
 rw[z]at this;rw[this]
def getItem_tuple_cut{items:Array Value}{vl vu:Value}{lo hi:Option Int}{Q:Value->Shared->Prop}(J:IsTup s.heap t items)(hs:s.heap.IsSliceOf sl vl vu .none)(pl:IsPart vl lo)(pu:IsPart vu hi)
  (hw:¬ (sIx items.size 0 lo=0/\sIx items.size items.size hi=items.size))
  (h:Q (.ref s.heap.objs.size) { s with heap:=s.heap.push { cls:=.type "tuple",data:=.seq ((items.toList.drop (sIx items.size 0 lo)).take (sIx items.size items.size hi-sIx items.size 0 lo)).toArray } })
  (a4:items.size<=sizeLine):wpAny (model prog w) A (getItem (.ref t) (.ref sl)) Q E s:=by
 have z:sizeOk (.seq ((items.toList.drop (sIx items.size 0 lo)).take (sIx items.size items.size hi-sIx items.size 0 lo)).toArray):=by
  show((items.toList.drop (sIx items.size 0 lo)).take (sIx items.size items.size hi-sIx items.size 0 lo)).toArray.size<=sizeLine;rw[oe,Ng,length_drop,Array.length_toList];omega
 have hj:sIx items.size items.size hi<=items.size:=DY _ _ (gx _) hi;obtain⟨os,U,Y,a5⟩:=id hs;have Z:s.TypeIs (.ref sl) "slice":=⟨os,U,Y⟩;unfold getItem
 try with_reducible refine Kg ?_
 first|refine eh (gf ?_)|skip
 refine eh (wpAny_sequenceKey J.typeIs (by decide) ?_);refine eh (Km (name:=Str.ofString "__getitem__") J.typeIs Kl
  (J7 Kl J.typeIs entry_tuple_getitem ?_ (args_tuple_getitem _ _)))
 show wpAny _ _ (Builtin.Tuple.tupleItemsOf (.ref t) >>= _) _ _ s;refine eh (tupleItemsOf_ J ?_);refine eh (LK Z ?_);rw[if_pos (by decide)];refine eh (gc hs pl pu ?_);have ao:¬ ((((sIx items.size 0 lo:Nat):Int)==0&&(1:Int)==1&&(sIx items.size items.size hi-sIx items.size 0 lo)==items.size)=true):=by
  simp_all
 show wpAny _ _ (if (((sIx items.size 0 lo:Nat):Int)==0&&_==1&&_==items.size)=true then _ else _) _ _ s;rw[if_neg ao,ya]
 first
  | exact eh (Kk (gf ⟨_,rfl,gf h⟩) z)
  | exact eh (Kk (eh (gf _)) z)
  | exact eh (eh (Kk (gf _) z))
  | exact eh (eh (Kk _ z))
end
end HT
namespace L2
open PySem PySem.Spec PyProof.Rows List Option
noncomputable abbrev TO:=St->Hp->(Option Int->Hp->Prop)->Prop
def PO(X:Cx)(e:Option Expr)(t:TO):Prop:=
 ∀pins s (σ:St) H Q,Inv X pins σ H s->t σ H Q ->
  wpAny (model X.prog X.w) X.A (evalPart e X.env) (λu s'=>∃o H',Inv X pins σ H' s'/\IsPart u o/\Q o H') X.xe s
noncomputable def Br:TO:=λ_ H Q=>Q none H
noncomputable def GU(t:TE):TO:=λσ H Q=>t σ H λx H1=>∃i,x=.int i/\Q (some i) H1
def cq :∀{us},aG (ns.map V.int) us->IntsAre us ns:=by
 induction ns with
 |nil=>intro us r;rw[map_nil]at r;cases r;exact .nil
 |cons n ns ih =>
  intro us r;cases r with
  |cons z J =>
   obtain⟨t,e⟩:=z;subst e;exact .cons n t (ih J)
section
variable{X:Cx}{e:Expr}{te:TE}{lo hi:Option Expr}{tl th:TO}{pos p2:Pos}
def Bs:PO X none Br:=by
 intro pins s σ H Q I h;exact gf ⟨none,H,I,.none,h⟩
def Bt(h:PE X e te):PO X (some e) (GU te):=by
 intro pins s σ H Q I hw;refine thn (h pins s σ H _ I hw) λu Y ⟨x,H1,z,J,U⟩=>?_
 obtain⟨i,rfl,q⟩:=U;obtain⟨t,rfl⟩:=J;exact⟨some i,H1,z,.int i t,q⟩
def SlR(X:Cx)(r:V->Option Int->Option Int->Hp->VK->Prop):Prop:=
 ∀pins s (σ:St) H x v z J lo hi U Q,Inv X pins σ H s->aE x v->s.heap.IsSliceOf U z J .none->IsPart z lo->IsPart J hi->r x lo hi H Q ->
  ∃T id,typeLookup (.type T) "__getitem__"=pure (some (.builtin id))/\s.TypeIs v T/\wpAny (model X.prog X.w) X.A (getItem v (.ref U)) (EP X pins σ Q) X.xe s
noncomputable def tSl(r:V->Option Int->Option Int->Hp->VK->Prop)(te:TE)(tl th:TO):TE:=λσ H Q=>te σ H λx H1=>tl σ H1 λl H2=>th σ H2 λu z=>r x l u z Q
def yb(Z:SlR X r)(he:PE X e te)(hl:PO X lo tl)(hu:PO X hi th):PE X (.Subscript e (.Slice lo hi none p2) pos) (tSl r te tl th):=by
 intro pins s σ H Q I h;refine Subscript_ (thn (he pins s σ H _ I h) λv s1 ⟨x,H1,I1,r1,q1⟩=>?_);refine wpAny_Slice (thn (hl pins s1 σ H1 _ I1 q1) λJ s2 ⟨l,H2,I2,pl,q2⟩=>thn (hu pins s2 σ H2 _ I2 q2) λU z ⟨u,Y,I3,pu,q3⟩=>?_);refine gf ?_;have I4:Inv X pins σ Y { z with heap:=z.heap.push { cls:=.type "slice",data:=.fields #[J,U,.none] } }:=I3.kept λb ob q=>gk _ q
 obtain⟨T,id,hT,ht,hg⟩:=Z pins { z with heap:=z.heap.push { cls:=.type "slice",data:=.fields #[J,U,.none] } } σ Y x v J U l u z.heap.objs.size Q I4 r1 (Heap.IsSliceOf.new ..) pl pu q3;exact tail_any ht hT hg (by with_unfolding_all rfl)
noncomputable def wB(xs:List V)(lo hi:Option Int):List V:=(xs.drop (HT.sIx xs.length 0 lo)).take (HT.sIx xs.length xs.length hi-HT.sIx xs.length 0 lo)
def lh(xs)(lo hi):(wB xs lo hi).length<=xs.length:=by
 unfold wB;rw[Ng,length_drop];omega
def Ji(K:Nl):V->Option Int->Option Int->Hp->VK->Prop:=λx lo hi H Q=>∃a xs,x=.ref a/\SqT K H a xs /\
 ¬ (HT.sIx xs.length 0 lo=0/\HT.sIx xs.length xs.length hi=xs.length)/\∀p,H p=none->Q (.ref p) (upd H p (.tup (wB xs lo hi)))
def DZ:SlR X (Ji X.K):=by
 intro pins s σ H x v vl vu lo hi sl Q I U hs Y Z h;obtain⟨a,xs,rfl,hx,hw,q⟩:=h;cases U;obtain⟨its,r,J,hz⟩:=I.tuple hx;have z:its.toArray.size=xs.length:=by rw[oe];exact r.length.symm
 refine⟨"tuple",_,Kl.lookup,J.typeIs,?_⟩;refine HT.getItem_tuple_cut J hs Y Z (by rw[z];exact hw) ?_ (by rw[z];exact hz);rw[z];refine⟨.ref s.heap.objs.size,_,I.laid (o:=.tup _) (λb ob q=>gk _ q) (gx _) ?_,rfl,q _ (I.hok.fresh (gx _))⟩;exact⟨r4 (lh xs lo hi) hz,_,(r.drop _).take _,IsTup.new _ _⟩
noncomputable def GV(K:Nl):R2:=λx y H Q=>∃a b xs ys,x=.ref a/\y=.ref b/\SqT K H a xs/\SqT K H b ys/\xs≠[]/\xs.length+ys.length<=sizeLine /\
 (ys=[]->Q (.ref a) H)/\(ys≠[]->∀p,H p=none->Q (.ref p) (upd H p (.tup (xs++ys))))
def aG.nil_iff(r:aG xs us):us=[] ↔ xs=[]:=by
 cases r<;>simp_all
def Bu:OpR X (binaryOp .Add) (GV X.K):=by
 intro pins s σ H x y v u Q I Z ry h;refine aC λZq kq=>?_
 obtain⟨a,b,xs,ys,rfl,rfl,ha,hb,hx,hz,q1,q2⟩:=h;cases Z;cases ry;obtain⟨its,U,p1,_⟩:=I.tuple ha;obtain⟨Y,J,p2,_⟩:=I.tuple hb;refine kq ?_;refine HT.cat_tup p1 p2 (λz=>hx (U.nil_iff.mp z)) (λz=>⟨.ref a,H,I,rfl,q1 (J.nil_iff.mp z)⟩) (λz=>?_) (by rw[<- U.length,<- J.length];exact hz);refine⟨.ref s.heap.objs.size,_,I.laid (o:=.tup _) (λb ob q=>gk _ q) (gx _) ?_,rfl,q2 (λw=>z (J.nil_iff.mpr w)) _ (I.hok.fresh (gx _))⟩;exact⟨by rw[wh];exact hz,_,U.append J,IsTup.new _ _⟩
end
noncomputable def ixN(n:Nat)(i:Int):Option Nat:=if 0<=i then(if i<n then some i.toNat else none)else if -(n:Int)<=i then some (i+n).toNat else none
noncomputable def atI{α:Type}(xs:List α)(i:Int):Option α:=(ixN xs.length i).bind λj=>xs[j]?
def uX(h:ixN n i=some j):seqIndex? i n=some j/\j<n/\-(n:Int)<=i/\i<n:=by
 unfold ixN at h;by_cases z:0<=i
 .rw[if_pos z]at h;by_cases h1:i<n
  .rw[if_pos h1]at h;have e:=JP h;exact⟨by rw[seqIndex_of z h1,e],by omega,by omega,h1⟩
  .simp_all
 .rw[if_neg z]at h;by_cases h1:-(n:Int)<=i
  .rw[if_pos h1]at h;have e:=JP h;exact⟨by rw[seqIndex_neg (by omega) h1,e],by omega,h1,by omega⟩
  .simp_all
def p8(h:atI xs i=some v):∃j,seqIndex? i xs.length=some j/\xs[j]?=some v/\j<xs.length/\-(xs.length:Int)<=i/\i<xs.length:=by
 unfold atI at h;cases e:ixN xs.length i with
 |none=>rw[e]at h;cases h
 |some j =>
  rw[e]at h;obtain⟨h1,h2,z,J⟩:=uX e;exact⟨j,h1,h,h2,z,J⟩
def uY(b:Expr):Prop:=∀o i,subscripted b false o i=operate [o,i] (getItem o i)
def IxR(X:Cx)(r:R2):Prop:=
 ∀value slice pins s (σ:St) H x y v u Q,Inv X pins σ H s->aE x v->aE y u->r x y H Q ->
  subscripted slice false v u=operate [v,u] (getItem v u)->wpAny (model X.prog X.w) X.A (subscriptTail value slice v u) (EP X pins σ Q) X.xe s
def MtR(X:Cx)(id:String)(r:V->List V->Hp->VK->Prop):Prop:=
 ∀pins s (σ:St) H x xs v us Q,Inv X pins σ H s->aE x v->aG xs us->r x xs H Q ->
  wpAny (model X.prog X.w) X.A (call (.builtin id) (v::us)) (EP X pins σ Q) X.xe s
section
variable{X:Cx}{a b:Expr}{ta tb:TE}{pos:Pos}
theorem IxR.or(h:IxR X r)(h':IxR X U):IxR X (λx y H Q=>r x y H Q\/U x y H Q):=by
 intro value slice pins s σ H x y v u Q I z J q hs;rcases q with q|q
 .exact h value slice pins s σ H x y v u Q I z J q hs
 .exact h' value slice pins s σ H x y v u Q I z J q hs
def GW(z:IxR X r)(J:PE X a ta)(U:PE X b tb)(hs:uY b):PE X (.Subscript a b pos) (tOp r ta tb):=by
 intro pins s σ H Q I h;exact Subscript_ (DP J U I h λv u Y x y H2 Z rx ry q=>z a b pins Y σ H2 x y v u Q Z rx ry q (hs _ _))
noncomputable def GX(K:Nl):R2:=λx y H Q=>∃p xs i v,x=.ref p/\y=.int i/\SqL K H p xs/\atI xs i=some v/\Q v H
noncomputable def GY(K:Nl):R2:=λx y H Q=>∃p xs i v,x=.ref p/\y=.int i/\SqT K H p xs/\atI xs i=some v/\Q v H
noncomputable def GZ:R2:=λx y H Q=>∃z i c,x=.str z/\y=.int i/\z.length<=sizeLine/\atI z.cps.toList i=some c/\Q (.str ⟨#[c]⟩) H
def Bv:IxR X (GX X.K):=by
 intro value slice pins s σ H x y v u Q I rx ry h hs;refine aC λZq kq=>?_
 obtain⟨p,xs,i,z,rfl,rfl,hq,he,q⟩:=h;cases rx;obtain⟨t,rfl⟩:=ry;obtain⟨its,r,J,hz⟩:=I.list hq;obtain⟨j,h1,h2,h3,h4,h5⟩:=p8 he;obtain⟨w,Z,U⟩:=r.get h2;have hl:=r.length;have hn:=kA;have fin:EP X pins σ Q w s:=⟨z,H,I,U,q⟩;refine kq ?_;by_cases h0:0<=i
 .have Y:i.toNat=j:=by
   rw[seqIndex_of h0 h5]at h1;exact JP h1
  exact item_listR J.isList h0 (by omega) (by rw[Y];simpa using Z) fin hs
 .have Y:(i+(its.toArray.size:Int)).toNat=j:=by
   rw[seqIndex_neg (by omega) h4]at h1;rw[oe,<- hl];exact JP h1
  exact subscriptTail_builtinR J.isList.typeIs slot_list_getitem.lookup
   (wpAny_getItem_list_neg J.isList (by omega) (by rw[oe]<;>omega) (by omega) (by rw[Y];simpa using Z) ⟨rfl,fin⟩) hs
def D0:IxR X (GY X.K):=by
 intro value slice pins s σ H x y v u Q I Y Z h hs;refine aC λZq kq=>?_
 obtain⟨p,xs,i,z,rfl,rfl,hq,he,q⟩:=h;cases Y;obtain⟨t,rfl⟩:=Z;obtain⟨its,r,U,hz⟩:=I.tuple hq;obtain⟨j,h1,h2,h3,h4,h5⟩:=p8 he;obtain⟨w,ew,J⟩:=r.get h2;have hl:=r.length;have hn:=kA;have fin:EP X pins σ Q w s:=⟨z,H,I,J,q⟩;refine kq ?_;exact subscriptTail_builtinR U.typeIs slot_tuple_getitem.lookup
  (getItem_tuple U (by omega) (by omega) (by rw[oe,<- hl];exact h1) (by simpa using ew) ⟨rfl,fin⟩) hs
def D1:IxR X GZ:=by
 intro value slice pins s σ H x y v u Q I J U h hs;refine aC λZq Y=>?_
 obtain⟨z,i,c,rfl,rfl,hz,Z,q⟩:=h;obtain⟨t,rfl⟩:=J;obtain⟨t',rfl⟩:=U;obtain⟨j,h1,h2,h3,h4,h5⟩:=p8 Z;have hl:z.cps.toList.length=z.length:=by simp[Str.length]
 rw[hl]at h1 h4 h5;have hn:=kA;refine Y ?_;exact tail_any (typeIs_str s z t) slot_str_getitem.lookup (getItem_str (by
  have e1:decide (i < -(2 ^ 63:Int))=false:=J0 (by omega);have e2:decide (i>=2 ^ 63)=false:=J0 (by omega);rw[e1,e2,Bool.or_false]) (by rw[h1];simpa using h2) ⟨.str ⟨#[c]⟩,H,I.tok _,⟨_,rfl⟩,q⟩) hs
noncomputable def rIx(K:Nl):R2:=λx y H Q=>GX K x y H Q\/GY K x y H Q\/GZ x y H Q
def yc:IxR X (rIx X.K):=Bv.or (D0.or D1)
def tM (its:List Value) (n j) (u):Obj.mapSeq (·.setIfInBounds j u) { cls:=.type "list",data:=.seq its.toArray n }={ cls:=.type "list",data:=.seq (its.set j u).toArray n }:=by
 simp[Obj.mapSeq]
theorem Inv.lst(I:Inv X pins σ H s)(h:H p=some (.lst xs)) :
  ∃its n,aG xs its/\s.heap.get? p=some { cls:=.type "list",data:=.seq its.toArray n }/\xs.length<=sizeLine:=by
 obtain⟨z,its,n,r,e⟩:=I.hok p _ h;exact⟨its,n,r,e,z⟩
def Inv.lstUpd{σ:St}{H:Hp}{s:Shared}{p:Addr}{xs ys:List V}{its its':List Value}{n z:Nat}{f:Obj->Obj}(I:Inv X pins σ H s)(h:H p=some (.lst xs))
  (ho:s.heap.get? p=some { cls:=.type "list",data:=.seq its.toArray n }) (J:f { cls:=.type "list",data:=.seq its.toArray n }={ cls:=.type "list",data:=.seq its'.toArray z }) (r:aG ys its') (hz:ys.length<=sizeLine) (t) :
  Inv X pins σ (upd H p (.lst ys)) { s with heap:=s.heap.update p f,toks:=t }:=by
 have e:(s.heap.update p f).get? p=some { cls:=.type "list",data:=.seq its'.toArray z }:=by
  rw[Ki f ho (by rw[J]<;>rfl),J]
 refine I.write (by rw[h];trivial) (.inl rfl) (λb u U q=>(KA _ _ (Lr U)).trans q) ⟨_,e⟩ ?_;exact⟨hz,its',z,r,e⟩
def G0:V->V->V->Hp->(Hp->Prop)->Prop:=λo i v H Q=>∃p xs k j,o=.ref p/\i=.int k/\H p=some (.lst xs)/\ixN xs.length k=some j/\Q (upd H p (.lst (xs.set j v)))
def set_list:Jc X G0:=by
 intro pins s σ H o i v ov iv u Q I ro ri rv h;refine aC λZq kq=>?_
 obtain⟨p,xs,k,j,rfl,rfl,U,hj,q⟩:=h;cases ro;obtain⟨t,rfl⟩:=ri;obtain⟨its,n,r,ho,hz⟩:=I.lst U;obtain⟨h1,h2,Y,Z⟩:=uX hj;have z:=r.length;have hn:=kA;have I':Inv X pins σ (upd H p (.lst _)) { s with heap:=s.heap.update p (Obj.mapSeq _) }:=
  I.lstUpd U ho (tM its n j u) (r.set rv j) (by rw[Mb];exact hz) s.toks
 refine kq ?_;by_cases h0:0<=k
 .have J:k.toNat=j:=by
   rw[seqIndex_of h0 Z]at h1;exact JP h1
  exact PySem.W.ki_setAt ho h0 (by omega) (by rw[oe,<- z];exact Z) (by rw[J];exact⟨_,I',q⟩)
 .have J:(k+(its.toArray.size:Int)).toNat=j:=by
   rw[seqIndex_neg (by omega) Y]at h1;rw[oe,<- z];exact JP h1
  exact PySem.W.ki_setBack ho (by omega) (by rw[oe,<- z];exact Y) (by omega) (by rw[J];exact⟨_,I',q⟩)
def p9(lo hi)(n):(sliceBounds lo hi none n).1=((HT.sIx n 0 lo:Nat):Int)/\(sliceBounds lo hi none n).2.1=((HT.sIx n n hi:Nat):Int)/\(sliceBounds lo hi none n).2.2=1:=by
 refine⟨?_,?_,rfl⟩
 .cases lo with
  |none=>simp[sliceBounds,HT.sIx]
  |some i =>
   simp[sliceBounds,HT.sIx,getD_none,show(1:Int) > 0 by decide,if_true];by_cases h:i<0
   .simp[h,if_true]<;>omega
   .simp[h,KH]<;>omega
 .cases hi with
  |none=>simp[sliceBounds,HT.sIx]
  |some i =>
   simp[sliceBounds,HT.sIx,getD_none,show(1:Int) > 0 by decide,if_true];by_cases h:i<0
   .simp[h,if_true]<;>omega
   .simp[h,KH]<;>omega
def oA(its:List Value)(lo hi):slicePick its.toArray lo hi none=((its.drop (HT.sIx its.length 0 lo)).take (HT.sIx its.length its.length hi-HT.sIx its.length 0 lo)).toArray:=by
 obtain⟨h1,h2,z⟩:=p9 lo hi its.toArray.size;unfold slicePick;rw[h1,h2,z];simp only[sliceRange_one,pick_run]<;>rfl
def Jj(K:Nl):V->Option Int->Option Int->Hp->VK->Prop:=λx lo hi H Q=>∃a xs,x=.ref a/\SqL K H a xs/\∀p,H p=none->Q (.ref p) (upd H p (.lst (wB xs lo hi)))
def Bw:SlR X (Jj X.K):=by
 intro pins s σ H x v vl vu lo hi sl Q I U hs Y Z h;obtain⟨a,xs,rfl,hx,q⟩:=h;cases U;obtain⟨its,r,J,hz⟩:=I.list hx;have z:=r.length;refine⟨"list",_,slot_list_getitem.lookup,J.isList.typeIs,?_⟩;refine wpAny_getItem_list_slice J.isList hs Y Z .none (by simp) ?_ (by rw[oe]<;>omega);rw[oA,<- z];refine⟨.ref s.heap.objs.size,_,I.laid (o:=.lst _) (λb ob q=>gk _ q) (gx _) ?_,rfl,q _ (I.hok.fresh (gx _))⟩;exact⟨r4 (lh xs lo hi) hz,_,0,(r.drop _).take _,pe _ rfl⟩
noncomputable def iw:V->Bool
 | .non=>true
 | .bl _=>true
 | .int _=>true
 | .str _=>true
 | _=>false
noncomputable def eqV:V->V->Bool
 | .non,.non=>true
 | .bl a,.bl b=>a==b
 | .bl a,.int b=>(if a then 1 else 0)==b
 | .int a,.bl b=>a==(if b then 1 else 0)
 | .int a,.int b=>a==b
 | .str a,.str b=>a==b
 | _,_=>false
def yd(J:aE y u)(z:aE x v)(Y:iw y=true)(U:iw x=true):SeqAt.EqAt A s u v (eqV y x):=by
 cases y with
 |non =>
  cases J;cases x with
  |non=>cases z;exact SeqAt.EqAt.same _
  |bl b=>cases z;exact SeqAt.EqAt.none_bool b
  |int b=>obtain⟨t,rfl⟩:=z;exact SeqAt.EqAt.none_int b t
  |str b=>obtain⟨t,rfl⟩:=z;exact SeqAt.EqAt.none_str b t
  | _=>exact absurd (show false=true from U) mu
 |bl a =>
  cases J;cases x with
  |non=>cases z;exact SeqAt.EqAt.bool_none a
  |bl b=>cases z;exact SeqAt.EqAt.bool_bool a b
  |int b=>obtain⟨t,rfl⟩:=z;exact SeqAt.EqAt.bool_int a b t
  |str b=>obtain⟨t,rfl⟩:=z;exact SeqAt.EqAt.bool_str a b t
  | _=>exact absurd (show false=true from U) mu
 |int a =>
  obtain⟨t',rfl⟩:=J;cases x with
  |non=>cases z;exact SeqAt.EqAt.int_none a t'
  |bl b=>cases z;exact SeqAt.EqAt.int_bool a t' b
  |int b=>obtain⟨t,rfl⟩:=z;exact SeqAt.EqAt.int_int a t' b t
  |str b=>obtain⟨t,rfl⟩:=z;exact SeqAt.EqAt.int_str a t' b t
  | _=>exact absurd (show false=true from U) mu
 |str a =>
  obtain⟨t',rfl⟩:=J;cases x with
  |non=>cases z;exact SeqAt.EqAt.str_none a t'
  |bl b=>cases z;exact SeqAt.EqAt.str_bool a t' b
  |int b=>obtain⟨t,rfl⟩:=z;exact SeqAt.EqAt.str_int a t' b t
  |str b=>obtain⟨t,rfl⟩:=z;exact SeqAt.EqAt.str_str a t' b t
  | _=>exact absurd (show false=true from U) mu
 | _=>exact absurd (show false=true from Y) mu
def gU:bo X (.builtin "len") (λxs H Q=>∃p ys,xs=[.ref p]/\(SqL X.K H p ys\/SqT X.K H p ys)/\Q (.int ys.length) H):=by
 intro pins s σ H xs us Q I r h;obtain⟨p,ys,rfl,J,q⟩:=h;obtain⟨u,rfl,Z⟩:=dB r;cases Z;have hn:=kA;rcases J with J|J
 .obtain⟨its,U,Y,hz⟩:=I.list J;have z:=U.length;exact Calls.call_len_list Y.isList (by simp[oe]<;>omega) ⟨.int ys.length,H,I.tok _,⟨s.toks+1,by rw[oe,z]⟩,q⟩
 .obtain⟨its,U,Y,hz⟩:=I.tuple J;have z:=U.length;exact len_tuple Y (by simp[oe]<;>omega) ⟨.int ys.length,H,I.tok _,⟨s.toks+1,by rw[oe,z]⟩,q⟩
def p_:bo X (.type "list") (λxs H Q=>∃p ys,xs=[.ref p]/\(SqL X.K H p ys\/SqT X.K H p ys)/\∀l,H l=none->Q (.ref l) (upd H l (.lst ys))):=by
 intro pins s σ H xs us Q I r h;obtain⟨p,ys,rfl,U,q⟩:=h;obtain⟨u,rfl,rx⟩:=dB r;cases rx;have fin:∀its,aG ys its->ys.length<=sizeLine->∀h' z,(∀b o',s.heap.get? b=some o'->h'.get? b=some o') ->
   h'.get? s.heap.objs.size=some { cls:=.type "list",dict:=none,data:=.seq its.toArray z,slots:=#[] }->EP X pins σ Q (.ref s.heap.objs.size) { s with heap:=h' }:=λits J hz h' z kp e =>
  ⟨.ref s.heap.objs.size,_,I.laid (t':=s.toks) kp (gx _) (show bI X.prog X.w _ h' _ (.lst ys)from⟨hz,its,z,J,e⟩),rfl,q _ (I.hok.fresh (gx _))⟩
 rcases U with U|U
 .obtain⟨its,J,Z,hz⟩:=I.list U;have Y:=J.length;obtain⟨o,ho,hc,n,hd⟩:=Z.isList;exact call_list_seq p (.inl rfl) ho hc hd (λh' z kp e=>fin its J hz h' z kp e) (by simp only[oe]<;>omega)
 .obtain⟨its,J,Z,hz⟩:=I.tuple U;have Y:=J.length;obtain⟨o,ho,hc,n,hd⟩:=Z;exact call_list_seq p (.inr rfl) ho hc hd (λh' z kp e=>fin its J hz h' z kp e) (by simp only[oe]<;>omega)
def jd:bo X (.type "tuple") (λxs H Q=>∃p ys,xs=[.ref p]/\((SqL X.K H p ys/\∀l,H l=none->Q (.ref l) (upd H l (.tup ys)))\/(SqT X.K H p ys/\Q (.ref p) H))):=by
 intro pins s σ H xs us Q I r h;obtain⟨p,ys,rfl,h⟩:=h;obtain⟨u,rfl,rx⟩:=dB r;cases rx;rcases h with⟨z,q⟩|⟨z,q⟩
 .obtain⟨its,J,U,hz⟩:=I.list z;have Y:=J.length;refine call_tuple_list U.isList (λh' kp=>?_) (by simp[oe]<;>omega);have Z:=I.kept (t':=s.toks) kp;have I2:Inv X pins σ (upd H h'.objs.size (.tup ys)) { s with heap:=h'.push { cls:=.type "tuple",data:=.seq its.toArray } }:=
   Z.laid (λb o e=>gk _ e) (gx _) (show bI X.prog X.w _ _ _ _ from⟨hz,its,J,IsTup.new _ _⟩)
  exact⟨.ref h'.objs.size,_,I2,rfl,q _ (Z.hok.fresh (gx _))⟩
 .obtain⟨its,J,U,hz⟩:=I.tuple z;exact call_tuple_same U ⟨.ref p,H,I,rfl,q⟩
def tyV(K:Nl)(T:String)(x:V)(H:Hp):Prop:=match x with
 | .str _=>T="str"
 | .int _=>T="int"
 | .ref p=>(T="list"/\∃xs,SqL K H p xs)\/(T="tuple"/\∃o,K.lookup p=some o/\o.cls=.type "tuple"/\o.dict=none) \/
   (T="dict"/\((∃kvs,H p=some (.dK kvs))\/∃kvs,H p=some (.dT kvs)))\/(T="set"/\∃S n,H p=some (.set S n))
 | _=>False
def ye(I:Inv X pins σ H s)(r:aE x v)(ty:tyV X.K T x H) :
  s.TypeIs v T/\∀a,v=.ref a->∃Y,s.heap.get? a=some Y/\Y.dict=none:=by
 cases x with
 |str z =>
  obtain⟨t,rfl⟩:=r;cases (show T="str" from ty);exact⟨typeIs_str s z t,λ_ e=>nomatch e⟩
 |int i =>
  obtain⟨t,rfl⟩:=r;cases (show T="int" from ty);exact⟨typeIs_int s i t,λ_ e=>nomatch e⟩
 |ref p =>
  cases r;rcases ty with⟨rfl,xs,hq⟩|⟨rfl,o,J,hc,hd⟩|⟨rfl,J⟩|⟨rfl,S,n,J⟩
  .obtain⟨its,_,Z,_⟩:=I.list hq;refine⟨Z.isList.typeIs,λa e=>?_⟩;cases e;obtain⟨o,n,e,c,hd,_⟩:=Z;exact⟨o,e,hd⟩
  .refine⟨⟨o,I.kIn p o J,hc⟩,λa e=>?_⟩;cases e;exact⟨o,I.kIn _ o J,hd⟩
  .have z:∃o,s.heap.get? p=some o/\o.ExactDict:=by
    rcases J with⟨kvs,J⟩|⟨kvs,J⟩
    .obtain⟨_,_,_,_,o,_,_,e,ex,_⟩:=I.hok p _ J;exact⟨o,e,ex⟩
    .obtain⟨_,_,_,_,o,_,_,e,ex,_⟩:=I.hok p _ J;exact⟨o,e,ex⟩
   obtain⟨o,e,ex⟩:=z;refine⟨⟨o,e,ex.1⟩,λa U=>?_⟩;cases U;exact⟨o,e,ex.2.1⟩
  .obtain⟨o,_,_,_,e,ex,_⟩:=I.hok p _ J;refine⟨⟨o,e,ex.1⟩,λa U=>?_⟩;cases U;exact⟨o,e,ex.2.1⟩
 | _=>exact False.elim ty
noncomputable def Jk(K:Nl)(T:String)(r:V->List V->Hp->VK->Prop)(to:TE):TE:=λσ H Q=>to σ H λx H1=>tyV K T x H1/\r x [] H1 Q
noncomputable def tBM(K:Nl)(T:String)(r:V->List V->Hp->VK->Prop)(to:TE)(t:TA):TE:=λσ H Q=>to σ H λx H1=>tyV K T x H1/\t σ H1 λxs H2=>r x xs H2 Q
variable{o e:Expr}{es:List Expr}{to:TE}{t:TA}{name:Str}{apos cpos:Pos}{T id:String}{r:V->List V->Hp->VK->Prop}
def D3 (pa:PlainAttrs T) (slot:Slot T name id) (U:typeOf (.builtin id)=pure (.type "method_descriptor")) (hm:MtR X id r) (ho:PE X o to)
  (z:attributeBase o name X.env (eval o X.env)=eval o X.env:=by rfl) (J:(apos.endLine==cpos.line)=true:=by rfl):PE X (.Call (.Attribute o name apos) [] [] cpos) (Jk X.K T r to):=by
 intro pins s σ H Q I h;refine wpAny_Call_method0_late z J (thn (ho pins s σ H _ I h) λv s1 ⟨x,H1,Y,Z,ty,q1⟩=>?_);obtain⟨h1,h2⟩:=ye Y Z ty;exact⟨T,id,pa,slot,U,h1,h2,LA rfl (PySem.evalArgs_none (hm pins s1 σ H1 x [] v [] Q Y Z .nil q1))⟩
def yf (pa:PlainAttrs T) (slot:Slot T name id) (Z:typeOf (.builtin id)=pure (.type "method_descriptor")) (hm:MtR X id r) (ho:PE X o to) (ha:PA X (e::es) t)
  (J:attributeBase o name X.env (eval o X.env)=eval o X.env:=by rfl)
  (Y:((backTo cpos (starEach (e::es) X.env)).all (λx=>!x.1)&&(backToKw cpos (keywordEach [] X.env)).all (λx=>x.1.isSome)
  &&decide ((e::es).length+([]:List Keyword).length+(if ([]:List Keyword).isEmpty then 0 else 1)<30))=true:=by rfl)
  (U:(apos.endLine==cpos.line)=true:=by rfl) (hs:starEach (e::es) X.env=(false,eval e X.env)::starEach es X.env:=by rfl) (z:(backTo cpos (starEach es X.env)).any (·.1)=false:=by rfl) :
  PE X (.Call (.Attribute o name apos) (e::es) [] cpos) (tBM X.K T r to t):=by
 intro pins s σ H Q I h;refine wpAny_Call_method_late J Y U rfl (thn (ho pins s σ H _ I h) λv s1 ⟨x,H1,I1,r1,ty,q1⟩=>?_);obtain⟨h1,h2⟩:=ye I1 r1 ty;refine⟨T,id,pa,slot,Z,h1,h2,?_⟩;have hA:=ha cpos pins s1 σ H1 _ I1 q1;rw[hs]at hA ⊢;refine LA (by show(false||(backTo cpos _).any _)=false;rw[z]<;>rfl) (Calls.evalArgs_plain ?_);exact thn hA λus s2 ⟨vs,H2,I2,r2,q2⟩=>hm pins s2 σ H2 x vs v us Q I2 r1 r2 q2
end
def MtM(X:Cx)(id:String)(r:V->List V->Hp->VK->Prop):Prop:=
 ∀pins s (σ:St) H x xs v us Q,Inv X pins σ H s->aE x v->aG xs us->r x xs H Q ->
  wpAny (model X.prog X.w) X.A (call (.builtin id) (v::us)) (EP X pins σ Q) X.xe s
theorem aG.one:∀{x}{us},aG [x] us->∃u,us=[u]/\aE x u
 | _,_,.cons r .nil=>⟨_,rfl,r⟩
def aG.zero:∀{us},aG [] us->us=[]
 | _,.nil=>rfl
theorem aG.dropLast(h:aG xs us):aG xs.dropLast us.dropLast:=by
 induction h with
 |nil=>exact .nil
 |cons r t ih =>
  cases t<;>first|exact .nil|exact .cons r ih
theorem aG.reverse(h:aG xs us):aG xs.reverse us.reverse:=by
 induction h with
 |nil=>exact .nil
 |cons r t ih=>rw[reverse_cons,reverse_cons];exact aG.append ih (.cons r .nil)
def D4{α:Type}(l:List α):l.eraseIdx (l.length-1)=l.dropLast:=by simp
section
variable{X:Cx}{pins:List (Addr×Obj)}{σ:St}{H:Hp}{s:Shared}{l b:Addr}{xs ys zs:List V}
theorem Inv.lset{its its':List Value}{n:Nat}{f:Array Value->Array Value}{t':Nat}(I:Inv X pins σ H s)(z:H l=some (.lst xs))
  (e:s.heap.get? l=some { cls:=.type "list",data:=.seq its.toArray n }) (J:f its.toArray=its'.toArray) (hv:aG ys its') (hz:ys.length<=sizeLine) :
  Inv X pins σ (upd H l (.lst ys)) { s with heap:=s.heap.update l (Obj.mapSeq f),toks:=t' }:=by
 have q:=PySem.IsL.update e f;rw[J]at q;refine I.write (by rw[z];exact trivial) (.inl rfl) (λZ u U Y=>(KA s.heap _ (Lr U)).trans Y) ⟨_,q⟩ ?_;exact⟨hz,its',_,hv,q⟩
theorem Inv.lnew(I:Inv X pins σ H s)(hv:aG ys its)(hz:ys.length<=sizeLine) :
  Inv X pins σ (upd H s.heap.objs.size (.lst ys)) { s with heap:=s.heap.push { cls:=.type "list",data:=.seq its.toArray },toks:=t' }:=
 I.laid (λ_ _ q=>gk _ q) (gx _) ⟨hz,its,0,hv,pe _ rfl⟩
theorem Inv.fresh(I:Inv X pins σ H s):H s.heap.objs.size=none:=I.hok.fresh (gx _)
theorem Inv.lstM (I:Inv X pins σ H s) (J:H l=some (.lst xs)):xs.length<=sizeLine/\∃its n,aG xs its/\xs.length=its.length/\s.heap.get? l=some { cls:=.type "list",data:=.seq its.toArray n }:=by
 obtain⟨z,its,n,r,e⟩:=I.hok l _ J;exact⟨z,its,n,r,r.length,e⟩
def rh(h:n<=sizeLine):Builtin.List.listTooLong n=false:=by simp_all [Builtin.List.listTooLong]
end
section
variable{X:Cx}
def Bx:V->List V->Hp->VK->Prop:=λx vs H Q=>∃l xs y,x=.ref l/\vs=[y]/\H l=some (.lst xs)/\xs.length<sizeLine/\Q .non (upd H l (.lst (xs++[y])))
def kC:MtM X "list.append" Bx:=by
 intro pins s σ H x vs v us Q I U Y h;refine aC λZq Z=>?_
 obtain⟨l,xs,y,rfl,rfl,J,hz,q⟩:=h;cases U;obtain⟨u,rfl,ru⟩:=Y.one;obtain⟨z,its,n,r,hl,e⟩:=I.lstM J;refine Z ?_;refine M0 F.slot_list_append ⟨_,e,rfl⟩ F.entry_list_append (F.args_list_append_2 _ _) (PySem.list_append l its.toArray n u (by rw[oe];omega)) ⟨e,?_⟩;refine⟨.non,_,I.lset J e (by simp) (r.append (.cons ru .nil)) ?_,rfl,q⟩
 grind
def Jl:V->List V->Hp->VK->Prop:=λx vs H Q=>∃l xs y,x=.ref l/\vs=[]/\H l=some (.lst xs)/\xs[xs.length-1]?=some y/\Q y (upd H l (.lst xs.dropLast))
def D5:MtM X "list.pop" Jl:=by
 intro pins s σ H x vs v us Q I Z rv h;refine aC λZq kq=>?_
 obtain⟨l,xs,y,rfl,rfl,Y,hy,q⟩:=h;cases Z;have J:=rv.zero;subst J;obtain⟨z,its,n,r,hl,e⟩:=I.lstM Y;obtain⟨u,hu,ru⟩:=r.get hy;have U:its.toArray[its.toArray.size-1]?=some u:=by
  simp_all
 refine kq ?_;refine M0 F.slot_list_pop ⟨_,e,rfl⟩ F.entry_list_pop (F.args_list_pop_1 _) (MeetsSeq.list_pop_last l its.toArray n u U (by rw[oe];omega)) ⟨e,?_⟩;refine⟨y,_,I.lset Y e ?_ r.dropLast ?_,ru,q⟩
 .simp_all
 .rw[length_dropLast];omega
end
section
variable{prog:Program}{w:World}{A:Around}{E:Value->Shared->Prop}{s:Shared}
end
section
variable{X:Cx}
end
end L2
namespace Att
open PySem PySem.W PySem.Calls PyProof.Rows List Option
def lM :∀ns vs,WellAll P h vs (ns.map WData.int)->IntsAre vs ns:=by
 intro ns
 induction ns with
 |nil =>
  intro vs w;cases w;exact .nil
 |cons n ns ih =>
  intro vs w;cases w with
  |cons a b =>
   cases a;exact .cons _ _ (ih _ b)
def wC{l:OpenLaw}(hn:l.most=some n) 
  (z:l.row.toRowW.claim.pre args=true) (Z:WellAll P h vals args) :
  ∃a vs ns,vals=[Value.ref a]/\args=[WData.list (ns.map WData.int)]/\h.get? a=some { cls:=.type "list",data:=.seq vs.toArray }/\IntsAre vs ns/\ns.length<=n:=by
 have ao:WShape.hasAll [] args [.list .int]=true:=(pre_splitW z).1;have hc:l.pre.holds [] { args:=args }=true:=(pre_splitW z).2;obtain⟨d,r,rfl,h1,h2⟩:=hasAllW_cons ao;obtain rfl:=hasAllW_nil h2;obtain⟨xs,rfl,h3⟩:=hasW_list h1;obtain⟨ns,rfl⟩:=items_int h3;have J:ns.length<=n:=by
  have Y:(WTm.not (.lt (.lit (.int (n:Int))) (.len (.arg 0)))).holds [] { args:=[.list (ns.map .int)] }=true:=by
   have Y:=(holds_andW hc).1;rw[hn]at Y;exact Y
  have h5:=condW_of Y (w_not (w_lt w_lit (w_len_list (w_arg rfl))))
  simp_all
 cases Z with
 |cons w1 w2 =>
  cases w2;cases w1 with
  |list ho U=>exact⟨_,_,ns,rfl,rfl,ho,lM ns _ U,J⟩
def wD(l:OpenLaw)(args):l.row.toRowW.claim.post args (.bool true) args=true:=
 postW_of (r:=l.row.toRowW) (X:=(true==true))
  (show WShape.has [] (.bool true) .bool=true by first|rfl|decide|simp[WShape.arms])
  (show(WTm.eq .res (.lit (.bool true))).value [] { args:=args,res:=some (.bool true),after:=args }=some (.bool (true==true))from w_eq_bool (w_res rfl) w_lit) rfl
def attach_call{l:OpenLaw}{n:Nat}{q:Program}{J:List Str}{XP:(Str->Option Value)->Heap->Prop}{YP:World->Heap->Prop}{d:DefRec}
  (hn:l.most=some n) (a3:d.params.defaults=[])
  (call:∀w s₀ z mg mb fa o pm cd U a vs ns,
   Ground q J [] XP w s₀ mg mb z.heap->YP w z.heap ->
   z.heap.get? fa=some o->o.data=.func (docDef d.name d.params d.body d.scope pm cd U)->z.heap.CodeRec cd d.name->mg d.name=some (.ref fa) ->
   z.heap.get? a=some { cls:=.type "list",data:=.seq vs.toArray }->IntsAre vs ns->ns.length<=n->z.gens=#[] ->
   codeAny (model l.prog w) callerA (.call (.ref fa) ⟨[.ref a],[]⟩) (λr s'=>r=.ok (.ret (.bool true))/\OldK z.heap s'.heap/\s'.os=z.os/\AllBare s'.gens) z) :
  WalkO q J XP YP l.row.toRowW d [] (λf vs=>PySem.call f vs):=by
 intro w s₀ z mg mb G Y fa o pm cd U dV kV ho hd a5 hD a6 hg args vals as aO bB b3 a7 b4;obtain rfl:dV=.none:=Dflts.none hD a3;obtain rfl:kV=.none:=Dflts.noKw hD;obtain⟨a,vs,ns,rfl,rfl,a0,Z,a1⟩:=wC hn aO a7;refine enter_call (LJ (call w s₀ z mg mb fa o pm cd U a vs ns G Y ho (fd_plain hd) a5 a6 a0 Z a1 hg) λr s' hq=>?_);obtain⟨rfl,h2,h3,h4⟩:=hq;exact⟨.inl ⟨.bool true,.bool true,[],rfl,λ_=>rfl,.bool true,wD l _,λ_=>⟨Pairwise.nil,λ_ hm=>(nomatch hm)⟩⟩,h2,h3,h4⟩
section
variable{prog:Program}{w:World}{A:Around}{E:Value->Shared->Prop}{s:Shared}{K:Frag}
end
end Att
namespace L2
open PySem PySem.Spec PyProof.Rows List Option
theorem kD:∀{vs}{ns},IntsAre vs ns->aG (ns.map V.int) vs
 | _,_,.nil=>.nil
 | _,_,.cons n t h=>.cons ⟨t,rfl⟩ (kD h)
def D6(H:Hp):Prop:=∀b,H b=none\/∃o xs,H b=some (.frz o (.lst xs))
def yg{K:Nl} 
  (KX:K.In J.heap) (aO:J.heap.Ns mainGlobals mg) (U:J.heap.Ns builtinsNs mb) (a6:∀x:Str,x ≠ "__name__"->mb x=bootBuiltins x) (a0:J.heap.NoLimit) (hg:J.gens=#[])
  (ha:J.heap.get? a=some { cls:=.type "list",data:=.seq vs.toArray }) (hi:IntsAre vs ns) (hl:ns.length<=sizeLine) (hr:kB k callerA)
  (F:∀base,K.In base->base.Ns mainGlobals mg->jq P w K mg base CX k fa fd [x] sp) (ao:∀s u,BindsTo s fd ⟨[u],[]⟩ [(x,u)])
  (a7:∀H,D6 H->SqL K H a (ns.map V.int)->sp [.ref a] H (λv _=>v=.bl true) λ_ _ _=>False)
  (a8:∀H e s',CX [] H J (λ_ _ _=>False) e s'->False) :
  codeAny (model P w) callerA (.call (.ref fa) ⟨[.ref a],[]⟩) (λr s'=>r=.ok (.ret (.bool true))/\OldK J.heap s'.heap/\s'.os=J.os/\AllBare s'.gens) J:=by
 have rv:=kD hi;have a1:=hi.length;have Z:∀H,D6 H->SqL K H a (ns.map V.int)->HOk P w H J.heap->(∀b,H b≠none->b=a)->(H a≠none->K.lookup a=none) ->
   codeAny (model P w) callerA (.call (.ref fa) ⟨[.ref a],[]⟩) (λr s'=>r=.ok (.ret (.bool true))/\OldK J.heap s'.heap/\s'.os=J.os/\AllBare s'.gens) J:=by
  intro H hO hS hok hA hK;have base_of:∀{b}{o},J.heap.get? b=some o->H b=none->(pX J.heap H).get? b=some o:=λe n=>xJ e n
  have a9:∀{b}{o}{es}{ep},J.heap.get? b=some o->o.data=.dict es ep->H b=none:=λ{b o es ep} e d=>by
   cases q:H b with
   |none=>rfl
   |some u =>
    have e':=hA b (by rw[q];simp);subst e';rw[ha]at e;cases e
    have d':=d;cases d'
  have Y:∀{b}{m},J.heap.Ns b m->(pX J.heap H).Ns b m:=λ{b m} ⟨o,es,ep,e,d,r⟩=>⟨o,es,ep,base_of e (a9 e d),d,r⟩
  have a2:K.In (pX J.heap H):=λb o e=>base_of (KX b o e) (by
   cases q:H b with
   |none=>rfl
   |some u =>
    have e':=hA b (by rw[q];simp);subst e';rw[hK (by rw[q];simp)]at e;cases e)
  have hM:Mod K mg (pX J.heap H):=⟨a2,Y aO,⟨mb,Y U,a6⟩,let ⟨mc,h1,h2⟩:=a0;⟨mc,Y h1,h2⟩⟩;have e0:Bq P w K mg (pX J.heap H) callerA [] J H:=⟨rfl,hM,λb o e=>Bd e,LM (wq _ _),trivial,λb U=>absurd (show b∈([]:List Addr)from U) (by simp),hok,.of_eq hg⟩;refine LJ ((F _ a2 (Y aO)).run callerA [] J H ⟨[.ref a],[]⟩ [.ref a] [.ref a] _ _ hr e0 (ao J (.ref a)) (.cons rfl .nil) (a7 H hO hS)) λr s' h=>?_
  cases r with
  |error e=>exact(a8 H e s' h).elim
  |ok fl =>
   cases fl with
   |ret u =>
    obtain⟨v,H',os,bare,un,a3,r',q⟩:=h;have q':=q;subst q';obtain rfl:u=Value.bool true:=r';refine⟨rfl,OldK.of_keep λb o e=>?_,os,bare⟩;cases q:H b with
    |none=>exact un.keep b o e q (by intro z;exact absurd (show b∈([]:List Addr)from z) (by simp)) (by simp)
    |some u =>
     rcases hO b with z|⟨ob,xs,z⟩
     .rw[q]at z;cases z
     .have z2:=un.frzs b ob _ z;obtain⟨e1,_⟩:=hok b _ z;obtain⟨e2,_⟩:=a3 b _ z2;rw[e]at e1;cases e1
      exact e2
   | _=>exact False.elim h
 cases hk:K.lookup a with
 |some o =>
  have e:=KX a o hk;rw[ha]at e;cases e;refine Z (λ_=>none) (λ_=>.inl rfl) (.inr ⟨_,vs.toArray,_,hk,rfl,rfl,rfl,by rw[oe,a1];exact hl,by simpa using rv⟩) (λb u z=>by have z':=z;cases z') (λb z=>absurd rfl z) λz=>absurd rfl z
 |none =>
  refine Z (λb=>if b=a then some (.frz { cls:=.type "list",data:=.seq vs.toArray } (.lst (ns.map V.int)))else none) (λb=>?_) (.inl (.inr ⟨{ cls:=.type "list",data:=.seq vs.toArray },if_pos rfl⟩)) (λb u z=>?_) (λb z=>?_) λ_=>hk
  .by_cases U:b=a
   .exact .inr ⟨_,_,if_pos U⟩
   .exact .inl (if_neg U)
  .by_cases U:b=a
   .have z':=(if_pos U).symm.trans z;cases z';subst U;exact⟨ha,by rw[nR];exact hl,vs,_,rv,ha⟩
   .have z':=(if_neg U).symm.trans z;cases z'
  .by_cases U:b=a
   .exact U
   .exact absurd (if_neg U) z
def By{l:PySem.W.OpenLaw}{n k:Nat}{q:Program}{J:List Str}{XP:(Str->Option Value)->Heap->Prop}{YP:World->Heap->Prop}{d:DefRec}{K:Params->Nl}{CX:World->CXT}{sp:World->Sp}{x:Str}
  (hn:l.most=some n) (a0:n<=sizeLine) (a1:d.params.defaults=[]) (hr:kB k callerA)
  (hY:∀w h,YP w h->(K w.params).In h)
  (F:∀w mg fa h,(K w.params).In h->h.Ns mainGlobals mg->mg d.name=some (.ref fa) ->
   ∃fd,(∀s u,BindsTo s fd ⟨[u],[]⟩ [(x,u)]) /\
    ∀base,(K w.params).In base->base.Ns mainGlobals mg->jq l.prog w (K w.params) mg base (CX w) k fa fd [x] (sp w))
  (a2:∀w H a (ns:List Int),ns.length<=n->D6 H->SqL (K w.params) H a (ns.map V.int)->sp w [.ref a] H (λv _=>v=.bl true) λ_ _ _=>False)
  (a3:∀w H s e s',CX w [] H s (λ_ _ _=>False) e s'->False) :
  PySem.W.WalkO q J XP YP l.row.toRowW d [] (λf vs=>PySem.call f vs):=by
 refine Att.attach_call hn a1 λw s₀ Z mg mb fa o pm cd bB a vs ns G Y ho hd b0 a4 ao U z hg=>?_
 have KX:=hY w _ Y;obtain⟨fd,hb,hF⟩:=F w mg fa _ KX G.T.g a4;exact yg KX G.T.g G.T.b G.T.builtins G.T.nolimit hg ao U (r4 z a0) hr hF hb (λH hO hS=>a2 w H a ns z hO hS) λH e s'=>a3 w H Z e s'
noncomputable def jM(s:Stmt):Arguments:=match s with
 | .FunctionDef _ a _ _ _ _ _ _ _ _=>a
 | _=>{ posonlyargs:=[],args:=[],vararg:=none,kwonlyargs:=[],kw_defaults:=[],kwarg:=none,defaults:=[] }
noncomputable def dN(s:Stmt):List Stmt:=match s with
 | .FunctionDef _ _ b _ _ _ _ _ _ _=>b
 | _=>[]
noncomputable def bn(s:Stmt):Scope:=match s with
 | .FunctionDef _ _ _ _ _ _ sc _ _ _=>sc
 | _=>{ kind:=.function,names:=[],isGenerator:=false,isCoroutine:=false }
noncomputable abbrev CX0:CXT:=λ_ _ _ _ _ _=>False
noncomputable abbrev E0:XK:=λ_ _ _=>False
def rj :p6 CX0 X E0:=λ_ _ _ _ _ _ _ h=>h.elim
section
variable{P:Program}{w:World}{K:Nl}{mg:Str->Option Value}{base:Heap}
end
section
variable{X:Cx}
end
def aj(H H':Hp):Prop:=∀b o,H b=some o->H' b=some o
def aj.refl(H):aj H H:=λ_ _ h=>h
def aj.trans(a:aj H H1)(b:aj H1 H2):aj H H2:=λc o h=>b c o (a c o h)
def aj.free(e:aj H H')(h:H' l=Option.none):H l=Option.none:=by
 cases q:H l with
 |none=>rfl
 |some o =>
  rw[e l o q]at h;cases h
theorem aj.seq{K:Nl}(e:aj H H')(h:SqL K H a xs):SqL K H' a xs:=by
 rcases h with(h|⟨o,h⟩)|h
 .exact .inl (.inl (e _ _ h))
 .exact .inl (.inr ⟨o,e _ _ h⟩)
 .exact .inr h
section
variable{g:Type} [DecidableEq g]
noncomputable def ja(kvs:List (g×V))(k:g):Option V:=(kvs.find? λz=>decide (z.1=k)).map (·.2)
noncomputable def gh(kvs:List (g×V))(k:g)(v:V):List (g×V):=
 if (kvs.any λz=>decide (z.1=k))=true then kvs.map (λz=>if z.1=k then(z.1,v)else z)else kvs++[(k,v)]
noncomputable def JL(kvs:List (g×V))(k:g):List (g×V):=kvs.filter λz=>decide (z.1≠k)
def mC{k:g}(e:p.1=k):ja (p::r) k=some p.2:=by simp_all [ja]
def mD{k:g}(e:¬ p.1=k):ja (p::r) k=ja r k:=by simp_all [ja]
theorem rl(k):∀kvs:List (g×V),(kvs.any λz=>decide (z.1=k))=(ja kvs k).isSome
 | []=>rfl
 |p::r=>by
  rw[any_cons];by_cases e:p.1=k
  .simp[mC e,JS e]
  .rw[mD e,J0 e,Bool.false_or];exact rl k r
def iy(kvs)(k:g)(v):(gh kvs k v).length<=kvs.length+1:=by grind [gh,length_map,length_append,length_cons,length_nil]
def lL.isSome_eq(r:lL o u):o.isSome=u.isSome:=by
 cases o<;>first|(cases u<;>first|rfl|exact(show False from r).elim)|(cases u<;>first|exact(show False from r).elim|rfl)
theorem lL.getD(r:lL o u)(rd:aE d d'):aE (o.getD d) (u.getD d'):=by
 cases o<;>first|(cases u<;>first|exact rd|exact(show False from r).elim)|(cases u<;>first|exact(show False from r).elim|exact r)
theorem KV.val(r:KV kvs vs)(k:g):lL (ja kvs k) (valueAt vs k):=by
 induction r with
 |nil=>exact True.intro
 | @cons p q ps J h t ih =>
  obtain⟨h1,h2⟩:=h;by_cases e:p.1=k
  .have U:=h1.symm.trans e;have b:valueAt (q::J) k=some q.2:=by simp[valueAt,find?_cons,U]
   rw[mC e,b];exact h2
  .have U:¬ q.1=k:=λz=>e (h1.trans z)
   have b:valueAt (q::J) k=valueAt J k:=by simp[valueAt,find?_cons,U]
   rw[mD e,b];exact ih
theorem KV.any(r:KV kvs vs)(k:g):(kvs.any λz=>decide (z.1=k))=vs.any λz=>decide (z.1=k):=by
 induction r with
 |nil=>rfl
 |cons h t ih=>rw[any_cons,any_cons,ih,h.1]
def KV.repl(r:KV kvs vs)(k:g)(U:aE y u) :
  KV (kvs.map λJ=>if J.1=k then(J.1,y)else J) (vs.map λJ=>if J.1=k then(J.1,u)else J):=by
 induction r with
 |nil=>exact .nil
 | @cons p q ps Y h t ih =>
  rw[JO,JO];refine .cons ?_ ih;obtain⟨h1,h2⟩:=h;by_cases e:p.1=k
  .rw[if_pos e,if_pos (h1.symm.trans e)];exact⟨h1,U⟩
  .rw[if_neg e,if_neg (λz=>e (h1.trans z))];exact⟨h1,h2⟩
theorem KV.put(r:KV kvs vs)(k:g)(z:aE y u):KV (gh kvs k y) (stored vs k u):=by
 unfold gh stored;rw[r.any k];by_cases e:(vs.any λJ=>decide (J.1=k))=true
 .rw[if_pos e,if_pos e];exact r.repl k z
 .rw[if_neg e,if_neg e];exact Paired.snoc r ⟨rfl,z⟩
def KV.keys{vs:List (g×Value)}(r:KV kvs vs):kvs.map (·.1)=vs.map (·.1):=by
 induction r with
 |nil=>rfl
 |cons h t ih=>rw[JO,JO,ih,h.1]
theorem KV.length(r:KV kvs vs):kvs.length=vs.length:=Paired.length r
end
def mE(r:aE (kV k) u):(bC P w).is k u=true:=by
 cases k with
 |inl i=>obtain⟨t,e⟩:=(show ∃t,u=Value.int i t from r);subst e;exact q8 P w i t
 |inr x=>obtain⟨t,e⟩:=(show ∃t,u=Value.str x t from r);subst e;exact q_ P w x t
theorem oU :∀{ks}{us},aG (ks.map kV) us->ItemsAre (bC P w) ks us
 | [],_,r=>by rw[map_nil]at r;cases r;exact .nil
 |k::ks,_,r=>by
  cases r with
  |cons h t=>exact .cons (mE h) (oU t)
abbrev KT(H:Hp):List (List Key×V)->List (List Key×Addr×Value)->Prop:=Paired λp q=>p.1=q.1/\H q.2.1=some (.tup (p.1.map kV))/\aE p.2 q.2.2
theorem KT.val(r:KT H kvs xs)(k):lL (ja kvs k) ((atKey xs k).map (·.2)):=by
 induction r with
 |nil=>exact True.intro
 | @cons p q ps J h t ih =>
  obtain⟨h1,_,h2⟩:=h;by_cases e:p.1=k
  .have U:=h1.symm.trans e;have b:atKey (q::J) k=some q.2:=by simp[atKey,find?_cons,U]
   rw[mC e,b];exact h2
  .have U:¬ q.1=k:=λz=>e (h1.trans z)
   have b:atKey (q::J) k=atKey J k:=by simp[atKey,find?_cons,U]
   rw[mD e,b];exact ih
def KT.repl(r:KT H kvs xs)(k)(U:aE y u) :
  KT H (kvs.map λJ=>if J.1=k then(J.1,y)else J) (xs.map (putAt k u)):=by
 induction r with
 |nil=>exact .nil
 | @cons p q ps Z h t ih =>
  rw[JO,JO];refine .cons ?_ ih;obtain⟨h1,h2,Y⟩:=h;unfold putAt;by_cases e:p.1=k
  .rw[if_pos e,if_pos (h1.symm.trans e)];exact⟨h1,h2,U⟩
  .rw[if_neg e,if_neg (λz=>e (h1.trans z))];exact⟨h1,h2,Y⟩
theorem KT.put(r:KT H kvs xs)(k)(J:H b=some (.tup (k.map kV)))(z:aE y u) :
  KT H (gh kvs k y) (storedH xs k b u):=by
 have e:(kvs.any λU=>decide (U.1=k))=(atKey xs k).isSome:=by
  rw[rl,(r.val k).isSome_eq,isSome_map]
 unfold gh storedH;rw[e];by_cases q:(atKey xs k).isSome=true
 .rw[if_pos q,if_pos q];exact r.repl k z
 .rw[if_neg q,if_neg q];exact Paired.snoc r ⟨rfl,J,z⟩
def KT.keeps(r:KT H kvs xs)(J:∀b ys,H b=some (.tup ys)->H' b=some (.tup ys)):KT H' kvs xs:=
 Paired.mapP r λ_ _ z=>⟨z.1,J _ _ z.2.1,z.2.2⟩
section
variable{P:Program}{w:World}{H:Hp}{h:Heap}{a:Addr}
def C8(ok:HOk P w H h)(e:Rd H a u):bI P w H h a u:=e.ok ok
def je(ok:HOk P w H h)(e:Rd H a (.dK kvs)):kvs.length<=sizeLine/\(a==sysModules)=false/\∃vs,KV kvs vs/\h.DictOf (bC P w) a vs:=
 show bI P w H h a (.dK kvs)from C8 ok e
def C9(ok:HOk P w H h)(e:H a=some (.dK kvs)):kvs.length<=sizeLine/\(a==sysModules)=false/\∃vs,KV kvs vs/\h.DictOf (bC P w) a vs:=je ok (.inl e)
def kE(ok:HOk P w H h)(e:H a=some (.tup (ks.map kV))):(tupleKind (bC P w)).is h ks a:=by
 obtain⟨_,its,r,o,h1,h2,n,z⟩:=(show bI P w H h a _ from ok a _ e);exact⟨o,its.toArray,n,h1,h2,z,by simpa using oU r⟩
def lj(ok:HOk P w H h)(e:Rd H a (.dT kvs)):kvs.length<=sizeLine/\(a==sysModules)=false /\
  ∃xs,KT H kvs xs/\h.DictOfH (tupleKind (bC P w)) a xs:=by
 refine aC λZq U=>?_
 obtain⟨z,y,xs,r,o,es,ep,h1,h2,Y,Z,h5⟩:=(show bI P w H h a _ from C8 ok e);refine U ?_;refine⟨z,y,xs,r,o,es,ep,h1,h2,Y,Z,λx hx=>?_,h5⟩;have all:∀{l}{m},KT H l m->∀x∈m,(tupleKind (bC P w)).is h x.1 x.2.1:=by
  intro l m q
  induction q with
  |nil=>intro x hx;exact nomatch hx
  | @cons p q ps qs J t ih =>
   intro x hx;rcases tf.mp hx with e|hx
   .subst e;exact kE ok (by rw[<- J.1];exact J.2.1)
   .exact ih x hx
 exact all r x hx
def G1(ok:HOk P w H h)(e:H a=some (.dT kvs)):kvs.length<=sizeLine/\(a==sysModules)=false /\
  ∃xs,KT H kvs xs/\h.DictOfH (tupleKind (bC P w)) a xs:=lj ok (.inl e)
end
def mF(H:Hp)(a:Addr)(y:V)(r:Option V):Prop:=
 (∃kvs k,Rd H a (.dK kvs)/\y=kV k/\r=ja kvs k)\/∃kvs k b,Rd H a (.dT kvs)/\y=.ref b/\H b=some (.tup (k.map kV))/\r=ja kvs k
def mG(H:Hp)(a:Addr)(y v:V)(H':Hp):Prop:=
 (∃kvs k,H a=some (.dK kvs)/\y=kV k/\kvs.length<sizeLine/\H'=upd H a (.dK (gh kvs k v))) \/
 ∃kvs k b,H a=some (.dT kvs)/\y=.ref b/\H b=some (.tup (k.map kV))/\kvs.length<sizeLine/\H'=upd H a (.dT (gh kvs k v))
theorem mG.k{k:Key}{v:V}(e:H a=some (.dK kvs))(z:kvs.length<sizeLine):mG H a (kV k) v (upd H a (.dK (gh kvs k v))):=.inl ⟨kvs,k,e,rfl,z,rfl⟩
theorem mG.t{k:List Key}{v:V}(e:H a=some (.dT kvs))(z:H b=some (.tup (k.map kV)))(J:kvs.length<sizeLine) :
  mG H a (.ref b) v (upd H a (.dT (gh kvs k v))):=.inr ⟨kvs,k,b,e,rfl,z,J,rfl⟩
section
variable{X:Cx}{pins:List (Addr×Obj)}{σ:St}{H:Hp}{s:Shared}{a:Addr}{y v:V}{u r:Value}{o:Option V}{A:Around}{E:Value->Shared->Prop}
theorem Inv.big(I:Inv X pins σ H s):sysModules<s.heap.objs.size:=by
 have h:=(I.mod.glob.keeps I.bk).lt;exact LN (by decide) h
def wE(hu:A.units+1<cLine)(I:Inv X pins σ H s)(g:mF H a y (some v))(ry:aE y u)(h:∀Y s',Inv X pins σ H s'->aE v Y->Q Y s') :
  wpAny (model X.prog X.w) A (getItem (.ref a) u) Q E s:=by
 rcases g with⟨kvs,k,e,Z,l⟩|⟨kvs,k,b,e,Z,eb,l⟩
 .subst Z;obtain⟨z,hd,vs,J,dd⟩:=je I.hok e;obtain⟨Y,hw,U⟩:=lL.some_of (by rw[l];exact J.val k);exact wpAny_getItem_of (mE ry) dd.mapOf hw (h Y _ (I.tok _) U)
 .subst Z;cases (show u=Value.ref b from ry);obtain⟨z,hd,xs,J,dd⟩:=lj I.hok e;obtain⟨Y,hw,U⟩:=lL.some_of (o:=(atKey xs k).map _) (by rw[l];exact J.val k);obtain⟨p,hp,ao⟩:=mx.mp hw;refine wpAny_getItem_heap (Lu hu) (kE I.hok eb) dd hp ?_;rw[ao];exact h Y _ (I.tok _) U
def Jm(Z:A.units+1<cLine)(I:Inv X pins σ H s)(g:mF H a y o)(Y:aE y u)(h:∀s',Inv X pins σ H s'->Q (.bool o.isSome) s') :
  wpAny (model X.prog X.w) A (compareOp .In u (.ref a)) Q E s:=by
 rcases g with⟨kvs,k,e,U,l⟩|⟨kvs,k,b,e,U,eb,l⟩
 .subst U;obtain⟨z,hd,vs,J,dd⟩:=je I.hok e;refine wpAny_in_of (mE Y) hd dd.mapOf ?_;rw[<- (J.val k).isSome_eq,<- l];exact h _ (I.tok _)
 .subst U;cases (show u=Value.ref b from Y);obtain⟨z,hd,xs,J,dd⟩:=lj I.hok e;refine wpAny_in_heap (Lu Z) (kE I.hok eb) hd dd ?_;have q:=(J.val k).isSome_eq;rw[isSome_map]at q;rw[<- q,<- l];exact h _ (I.tok _)
def Bz(Z:A.units+1<cLine)(I:Inv X pins σ H s)(g:mF H a y o)(Y:aE y u)(h:∀s',Inv X pins σ H s'->Q (.bool (!o.isSome)) s') :
  wpAny (model X.prog X.w) A (compareOp .NotIn u (.ref a)) Q E s:=by
 rcases g with⟨kvs,k,e,U,l⟩|⟨kvs,k,b,e,U,eb,l⟩
 .subst U;obtain⟨z,hd,vs,J,dd⟩:=je I.hok e;refine wpAny_notIn_of (mE Y) hd dd.mapOf ?_;rw[<- (J.val k).isSome_eq,<- l];exact h _ (I.tok _)
 .subst U;cases (show u=Value.ref b from Y);obtain⟨z,hd,xs,J,dd⟩:=lj I.hok e;refine wpAny_notIn_heap (Lu Z) (kE I.hok eb) hd dd ?_;have q:=(J.val k).isSome_eq;rw[isSome_map]at q;rw[<- q,<- l];exact h _ (I.tok _)
def qa(I:Inv X pins σ H s)(U:Mut (H a))(hs:Heap.SameBut a s.heap h')(Y:∃q,h'.get? a=some q)(new:bI X.prog X.w (upd H a J) h' a J) :
  Inv X pins σ (upd H a J) { s with heap:=h',toks:=t' }:=
 I.write (x:=a) (e:=a) U (.inl rfl) (λb q Z z=>(hs.2 b Z).trans z) Y new
def yh(z:kvs.length<=sizeLine)(hd:(a==sysModules)=false)(J:KV kvs vs)(dd:h'.DictOf (bC P w) a vs) :
  bI P w H' h' a (.dK kvs):=⟨z,hd,vs,J,dd⟩
def wF(hu:A.units+1<cLine)(I:Inv X pins σ H s)(g:mG H a y v H')(ry:aE y u)(rv:aE v r)(h:∀s',Inv X pins σ H' s'->Q () s') :
  wpAny (model X.prog X.w) A (setItem (.ref a) u r) Q E s:=by
 rcases g with⟨kvs,k,e,Z,l,eH⟩|⟨kvs,k,b,e,Z,eb,l,eH⟩
 .subst Z eH;obtain⟨z,hd,vs,J,dd⟩:=C9 I.hok e;have hz:vs.length<=sizeLine:=by rw[<- J.length];exact z
  have hl:(gh kvs k v).length<=sizeLine:=by have:=iy kvs k v;omega
  refine wpAny_setItem_pairs (mE ry) dd λh' U hs=>h _ ?_
  have he:∃q,h'.get? a=some q:=let ⟨q,_,_,Y,_⟩:=U;⟨q,Y⟩
  exact qa I (by rw[e];exact True.intro) hs he (yh hl hd (J.put k rv) U)
 .subst Z eH;cases (show u=Value.ref b from ry);obtain⟨z,hd,xs,J,dd⟩:=G1 I.hok e;have hz:xs.length<=sizeLine:=by rw[<- Paired.length J];exact z
  have hl:(gh kvs k v).length<=sizeLine:=by have:=iy kvs k v;omega
  refine wpAny_setItem_heap (Lu hu) (kE I.hok eb) dd λh' U hs=>h _ ?_
  refine aC λZq kq=>?_
  obtain⟨q,es,ep,Y,h2,h3,h4,_,h5⟩:=U;refine kq ?_;refine qa I (by rw[e];exact True.intro) hs ⟨q,Y⟩ ⟨hl,hd,_,(J.put k eb rv).keeps λc ys ec=>?_,q,es,ep,Y,h2,h3,h4,h5⟩;rw[aW (Gw ec e (λz=>nomatch z))];exact ec
end
section
variable{X:Cx}{pins:List (Addr×Obj)}{σ:St}{H:Hp}{s:Shared}{a:Addr}{kvs:List (Key×V)}{k:Key}{u:Value}{A:Around}{E:Value->Shared->Prop}
end
def G2(i:Expr):Prop:=∀z J,subscripted i false z J=operate [z,J] (getItem z J)
def BA{T id:String} 
  (hl:typeLookup (.type T) "__getitem__"=pure (some (.builtin id))) (hs:G2 slice)
  (h:wpAny (model prog w) A (eval value env) (λo U=>wpAny (model prog w) A (eval slice env) (λi z=>z.TypeIs o T/\wpAny (model prog w) A (getItem o i) Q E z) E U) E s) :
  wpAny (model prog w) A (eval (.Subscript value slice pos) env) Q E s:=by
 refine Subscript_ (Kd h (λo U Z=>Kd Z (λi z J=>?_) λ_ _ x=>x) λ_ _ x=>x);obtain⟨hT,J⟩:=J;refine eh ?_;refine eh (Mo hT hl ?_);have fin:wpAny (model prog w) A (subscripted slice false o i) (λr Y=>wpAny (model prog w) A (letTemporaryGo value o r >>= λ_=>pure r) Q E Y) E z:=by
  rw[hs o i];exact wpAny_operating (Kd J (λr Y ao=>eh (wpAny_letTemporaryGo (gf ao))) λ_ _ x=>x)
 first
  | exact gf (eh fin)
  | exact eh (gf _)
  | exact eh fin
def rm (I:Inv X pins σ H s) (g:mF H a y o):s.TypeIs (.ref a) "dict":=by
 rcases g with⟨kvs,k,e,_,_⟩|⟨kvs,k,b,e,_,_,_⟩
 .obtain⟨_,_,vs,_,dd⟩:=je I.hok e;exact dd.typeIs
 .obtain⟨_,_,xs,_,dd⟩:=lj I.hok e;exact dd.typeIs
noncomputable def G3(td ty:TE):TE:=λσ H Q=>td σ H λx H1=>ty σ H1 λy H2=>∃a v,x=.ref a/\mF H2 a y (some v)/\Q v H2
noncomputable def Jn(ty td:TE):TE:=λσ H Q=>ty σ H λy H1=>td σ H1 λx H2=>∃a o,x=.ref a/\mF H2 a y o/\Q (.bl o.isSome) H2
noncomputable def BB(ty td:TE):TE:=λσ H Q=>ty σ H λy H1=>td σ H1 λx H2=>∃a o,x=.ref a/\mF H2 a y o/\Q (.bl (!o.isSome)) H2
noncomputable def G4(td ty tv:TE):TS:=λD σ H=>tv σ H λv H1=>td σ H1 λx H2=>ty σ H2 λy J=>∃a z,x=.ref a/\mG J a y v z/\D.nx σ z
section
variable{X:Cx}{o i e value:Expr}{pos pos' tpos:Pos}{td ty tv:TE}
def uZ(U:X.A.units+1<cLine)(ho:PE X o td)(hi:PE X i ty)(hs:G2 i):PE X (.Subscript o i pos) (G3 td ty):=by
 intro pins s σ H Q I h;refine BA PySem.F.slot_dict_getitem.lookup hs (thn (ho pins s σ H _ I h) λu Y ⟨x,H1,Z,rx,q1⟩=>thn (hi pins Y σ H1 _ Z q1) λiv s2 ⟨y,H2,J,ry,a,v,ex,g,q2⟩=>?_);subst ex;obtain rfl:u=Value.ref a:=rx;exact⟨rm J g,wE U J g ry λw' s3 I3 z=>⟨v,H2,I3,z,q2⟩⟩
def yi(z:X.A.units+1<cLine)(hi:PE X i ty)(ho:PE X o td):PC X .In i o (Jn ty td):=by
 intro pins s σ H Q I h;refine thn (hi pins s σ H _ I h) λiv J ⟨y,H1,U,Y,Z⟩=>thn (ho pins J σ H1 _ U Z) λu s2 ⟨x,H2,I2,rx,a,ov,ex,g,q2⟩=>?_
 subst ex;obtain rfl:u=Value.ref a:=rx;exact Jm z I2 g Y λs3 I3=>⟨.bl ov.isSome,H2,I3,rfl,q2⟩
def oV(z:X.A.units+1<cLine)(hi:PE X i ty)(ho:PE X o td):PC X .NotIn i o (BB ty td):=by
 intro pins s σ H Q I h;refine thn (hi pins s σ H _ I h) λiv J ⟨y,H1,U,Y,Z⟩=>thn (ho pins J σ H1 _ U Z) λu s2 ⟨x,H2,I2,rx,a,ov,ex,g,q2⟩=>?_
 subst ex;obtain rfl:u=Value.ref a:=rx;exact Bz z I2 g Y λs3 I3=>⟨.bl _,H2,I3,rfl,q2⟩
def BC(z:X.A.units+1<cLine)(ho:PE X o td)(hi:PE X i ty)(hv:PE X value tv)(hs:swapsWith value (some (.Subscript o i pos')) pos.line X.env=pure false) :
  PS X (.Assign [.Subscript o i pos'] value pos) (G4 td ty tv):=by
 intro pins s σ H D I h;refine wpAny_Assign_Subscript (thn (hv pins s σ H _ I h) λr J ⟨v,H1,U,Y,Z⟩=>thn (ho pins J σ H1 _ U Z) λu s2 ⟨x,H2,I2,rx,q2⟩=>thn (hi pins s2 σ H2 _ I2 q2) λiv s3 ⟨y,H3,I3,ry,a,H4,ex,g,q3⟩=>?_) hs;subst ex;obtain rfl:u=Value.ref a:=rx;exact wF z I3 g ry Y λs4 I4=>⟨σ,H4,I4,q3⟩
end
def rq (h:Heap) (z:sysModules<h.objs.size):bI P w H (h.push { cls:=.type "dict",data:=.dict #[] }) h.objs.size (.dK []):=
 ⟨J2 _,K7.mpr (Lr (tr z)),[],.nil,Heap.DictOf.new h⟩
def yj (h:Heap) (z:sysModules<h.objs.size):bI P w H (h.push { cls:=.type "dict",data:=.dict #[] }) h.objs.size (.dT []):=
 ⟨J2 _,K7.mpr (Lr (tr z)),[],.nil,_,#[],0,pe _ rfl,⟨rfl,rfl,rfl⟩,rfl,rfl,K5⟩
noncomputable def D7:TE:=λ_ H Q=>∀p,H p=none->Q (.ref p) (upd H p (.dK []))
noncomputable def D8:TE:=λ_ H Q=>∀p,H p=none->Q (.ref p) (upd H p (.dT []))
section
variable{X:Cx}{pos:Pos}
def yk:PE X (.Dict [] [] pos) D7:=λpins s σ H Q I h =>
 wpAny_Dict_empty ⟨.ref s.heap.objs.size,_,I.laid (a:=s.heap.objs.size) (o:=.dK []) (t':=s.toks) (λ_ _ q=>gk _ q) (gx _) (rq s.heap I.big),rfl,h _ (I.hok.fresh (gx _))⟩
def yl:PE X (.Dict [] [] pos) D8:=λpins s σ H Q I h =>
 wpAny_Dict_empty ⟨.ref s.heap.objs.size,_,I.laid (a:=s.heap.objs.size) (o:=.dT []) (t':=s.toks) (λ_ _ q=>gk _ q) (gx _) (yj s.heap I.big),rfl,h _ (I.hok.fresh (gx _))⟩
end
def qb:List (TE×TE)->St->Hp->(List (V×V)->Hp->Prop)->Prop
 | [],_,H,Q=>Q [] H
 | (tk,tv)::r,σ,H,Q=>tk σ H λx H1=>tv σ H1 λy H2=>qb r σ H2 λps z=>Q ((x,y)::ps) z
abbrev VV:List (V×V)->List (Value×Value)->Prop:=Paired λp q=>aE p.1 q.1/\aE p.2 q.2
def PPs(X:Cx)(pos:Pos)(keys:List (Option Expr))(z:List Expr)(J:List (TE×TE)):Prop:=
 ∀pins s (σ:St) H Q,Inv X pins σ H s->qb J σ H Q ->
  wpAny (model X.prog X.w) X.A (evalPairs (pairTrees keys z X.env pos)) (λvs s'=>∃ps H',Inv X pins σ H' s'/\VV ps vs/\Q ps H') X.xe s
def BD :PPs X pos [] [] []:=λpins s σ H Q I h=>pairTrees_nil_walk ⟨[],H,I,.nil,h⟩
def ym(U:PE X k tk)(hv:PE X v tv)(Y:PPs X pos ks vs z) :
  PPs X pos (some k::ks) (v::vs) ((tk,tv)::z):=λpins s σ H Q I h =>
 pairTrees_cons_walk (thn (U pins s σ H _ I h) λu Z ⟨x,H1,I1,rx,q1⟩=>thn (hv pins Z σ H1 _ I1 q1) λw2 s2 ⟨y,H2,I2,ry,q2⟩ =>
  thn (Y pins s2 σ H2 _ I2 q2) λws s3 ⟨ps,H3,I3,J,q3⟩=>⟨(x,y)::ps,H3,I3,.cons ⟨rx,ry⟩ J,q3⟩)
noncomputable def iz(kvs z:List (Key×V)):List (Key×V):=z.foldl (λacc J=>gh acc J.1 J.2) kvs
def KV.merge:∀{z}{J}{kvs}{vs},KV z J->KV kvs vs->KV (iz kvs z) (merged vs J):=by
 intro z J kvs vs r
 induction r generalizing kvs vs with
 |nil=>intro q;exact q
 | @cons p q ps Y h t ih =>
  intro U;have e:KV (gh kvs p.1 p.2) (stored vs q.1 q.2):=by
   have:=U.put p.1 h.2;rw[<- h.1];exact this
  exact ih e
theorem jf:∀z kvs,(iz kvs z).length<=kvs.length+z.length
 | [],kvs=>by show kvs.length<=kvs.length+0;omega
 |p::r,kvs=>by
  have h1:=jf r (gh kvs p.1 p.2);have h2:=iy kvs p.1 p.2;show(iz (gh kvs p.1 p.2) r).length<=_
  grind
theorem mH :∀{kvs}{J},VV (kvs.map λU=>(kV U.1,U.2)) J->∃z,Carries (bC P w) J z/\KV kvs z
 | [],_,r=>by rw[map_nil]at r;cases r;exact⟨[],True.intro,.nil⟩
 |p::kvs,_,r=>by
  cases r with
  | @cons a b as bs h t =>
   obtain⟨z,c,q⟩:=mH (P:=P) (w:=w) t;obtain⟨Z,Y⟩:=b;exact⟨(p.1,Y)::z,⟨mE h.1,rfl,c⟩,.cons ⟨rfl,h.2⟩ q⟩
noncomputable def G5(z:List (TE×TE)):TE:=λσ H Q=>∀p,H p=none->qb z σ (upd H p (.dK [])) λps H2=>H2 p=some (.dK [])/\∃kvs,ps=kvs.map (λJ=>(kV J.1,J.2))/\kvs.length<=15/\Q (.ref p) (upd H2 p (.dK (iz [] kvs)))
def BE(h:PPs X pos keys values Y)(J:keys.all (·.isSome)=true)(hl:keys.length=values.length)(h0:keys≠[])
  (Z:keys.length<=15):PE X (.Dict keys values pos) (G5 Y):=by
 intro pins s σ H Q I q;have hn:=I.hok.fresh (gx s.heap.objs.size);have I1:=I.laid (t':=s.toks) (λ_ _ q=>gk _ q) (gx _) (rq s.heap I.big);refine wpAny_Dict_walk (knd:=bC X.prog X.w) J hl h0 Z (thn (h pins _ σ _ _ I1 (q _ hn)) λws s2 ⟨ps,H2,I2,ao,e,kvs,ep,lk,q2⟩=>?_);refine aC λZq kq=>?_
 subst ep;obtain⟨rs,c,rk⟩:=mH ao;obtain⟨z,hd,a8,r0,dd⟩:=C9 I2.hok e;cases r0;refine kq ?_;refine⟨rs,c,dd,λh' U hs=>⟨.ref s.heap.objs.size,_,?_,rfl,q2⟩⟩;have hz:(iz [] kvs).length<=sizeLine:=by
  have h1:=jf kvs [];rw[length_nil]at h1;rw[Ke];omega
 have he:∃q,h'.get? s.heap.objs.size=some q:=let ⟨q,_,_,hq,_⟩:=U;⟨q,hq⟩
 exact qa I2 (by rw[e];exact True.intro) hs he (yh hz hd (rk.merge .nil) U)
structure M2(X:Cx)(o:Expr)(m:Str)(apos:Pos)(e f:Expr)(cpos:Pos):Prop where
 base:attributeBase o m X.env (eval o X.env)=eval o X.env
 few:((backTo cpos (starEach [e,f] X.env)).all (λx=>!x.1)&&(backToKw cpos (keywordEach [] X.env)).all (λx=>x.1.isSome)
 &&decide (([e,f]:List Expr).length+([]:List Keyword).length+(if ([]:List Keyword).isEmpty then 0 else 1)<30))=true
 line:(apos.endLine==cpos.line)=true
 trees:backTo cpos (starEach [e,f] X.env)=[(false,eval e X.env),(false,eval f X.env)]
def IsD(H:Hp)(a:Addr):Prop:=(∃kvs,Rd H a (.dK kvs))\/∃kvs,Rd H a (.dT kvs)
def tN(I:Inv X pins σ H s)(d:IsD H a) :
  s.TypeIs (.ref a) "dict"/\(∀b,Value.ref a=.ref b->∃z,s.heap.get? b=some z/\z.dict=none)/\(a==sysModules)=false:=by
 rcases d with⟨kvs,e⟩|⟨kvs,e⟩
 .obtain⟨_,hd,vs,_,dd⟩:=je I.hok e;refine⟨dd.typeIs,λb q=>?_,hd⟩;cases q;obtain⟨z,_,_,h1,h2,_⟩:=dd;exact⟨z,h1,h2.2.1⟩
 .obtain⟨_,hd,xs,_,dd⟩:=lj I.hok e;refine⟨dd.typeIs,λb q=>?_,hd⟩;cases q;obtain⟨z,_,_,h1,h2,_⟩:=dd;exact⟨z,h1,h2.2.1⟩
section
variable{X:Cx}{pins:List (Addr×Obj)}{σ:St}{H:Hp}{s:Shared}{a:Addr}{y d:V}{u r:Value}{o:Option V}{A:Around}{E:Value->Shared->Prop}
def D9(hu:A.units+1<cLine)(I:Inv X pins σ H s)(g:mF H a y o)(Y:aE y u)(rd:aE d r)(h:∀Z s',Inv X pins σ H s'->aE (o.getD d) Z->Q Z s') :
  wpAny (model X.prog X.w) A (call (.builtin "dict.get") [.ref a,u,r]) Q E s:=by
 rcases g with⟨kvs,k,e,U,l⟩|⟨kvs,k,b,e,U,eb,l⟩
 .subst U;obtain⟨z,hd,vs,J,dd⟩:=je I.hok e;refine call_meetsIn PySem.F.slot_dict_get dd.typeIs PySem.F.entry_dict_get (PySem.F.args_dict_get_3 _ _ _) (meets_dict_get_default _ a (mE Y) hd r) ⟨_,dd.mapOf,h _ _ (I.tok _) ?_⟩;rw[l];exact(J.val k).getD rd
 .subst U;cases (show u=Value.ref b from Y);obtain⟨z,hd,xs,J,dd⟩:=lj I.hok e;refine call_meetsIn PySem.F.slot_dict_get dd.typeIs PySem.F.entry_dict_get (PySem.F.args_dict_get_3 _ _ _) (meetsH_dict_get_default (tupleKind _) a b hd r) ⟨Lu hu,k,xs,kE I.hok eb,dd,h _ _ (I.tok _) ?_⟩;rw[l];exact(J.val k).getD rd
end
noncomputable def D_(td ty tx:TE):TE:=λσ H Q=>td σ H λx H1=>∃a,x=.ref a/\IsD H1 a/\ty σ H1 λy H2=>tx σ H2 λz J=>∃o,mF J a y o/\Q (o.getD z) J
section
variable{X:Cx}{o e f:Expr}{apos cpos:Pos}{td ty tx:TE}
def yn (Y:X.A.units+1<cLine) (ho:PE X o td) (Z:PE X e ty) (hf:PE X f tx) (m:M2 X o "get" apos e f cpos):PE X (.Call (.Attribute o "get" apos) [e,f] [] cpos) (D_ td ty tx):=by
 intro pins s σ H Q I h;refine wpAny_Call_method m.base m.few m.line PySem.F.plainAttrs_dict PySem.F.slot_dict_get PySem.F.type_dict_get (thn (ho pins s σ H _ I h) λu s1 ⟨x,H1,U,rx,a,ex,d,q1⟩=>?_);subst ex;obtain rfl:u=Value.ref a:=rx;obtain⟨t1,t2,_⟩:=tN U d;refine⟨t1,t2,?_⟩;rw[m.trees];refine LA rfl (Calls.evalArgs_plain (L7 (thn (Z pins s1 σ H1 _ U q1) λiv s2 ⟨y,H2,I2,ry,q2⟩ =>
  L7 (thn (hf pins s2 σ H2 _ I2 q2) λfv s3 ⟨z,H3,I3,rz,ov,g,q3⟩=>MU ?_))))
 exact D9 Y I3 g ry rz λw' s4 I4 J=>⟨_,H3,I4,J,q3⟩
end
section
variable{X:Cx}{pins:List (Addr×Obj)}{σ:St}{H:Hp}{s:Shared}{a:Addr}{kvs:List (Key×V)}{A:Around}{E:Value->Shared->Prop}
end
section
variable{X:Cx}{pins:List (Addr×Obj)}{σ:St}{H:Hp}{s:Shared}{a:Addr}{y:V}{u:Value}{A:Around}{E:Value->Shared->Prop}
end
end L2
namespace L2.Srt
open PySem PySem.W PyProof.Rows List Option
section
variable{O:KeyOrd}{key:Nat->O.α}{N:Nat}{cmp:Nat->Nat->(Bool->Shared->Prop)->Shared->Prop}{s:Shared}
noncomputable def kk(key:Nat->O.α)(p:Array Nat)(i:Nat):O.α:=key (p.getD i 0)
def fH(key:Nat->O.α)(p:Array Nat)(k:Nat):Prop:=∀i j,i<=j->j<k->O.kle (kk key p i) (kk key p j)
def rA(key:Nat->O.α)(p:Array Nat)(k:Nat):Prop:=∀i j,i<=j->j<k->O.kle (kk key p j) (kk key p i)
def PB(N:Nat)(p:Array Nat):Prop:=p.Perm (range N).toArray
theorem PB.size(h:PB N p):p.size=N:=by have:=h.size_eq;simpa using this
theorem PB.lt(h:PB N p)(hi:i<N):p.getD i 0<N:=by
 have hs:i<p.size:=by rw[h.size];exact hi
 have z:p[i]∈(range N):=by
  have e:=(LY.mp h).mem_iff (a:=p[i])
  simp_all
 simp_all
theorem PB.rev(h:PB N p)(i j):PB N (kas_rev p i j):=(mirror_perm _ _ _ _).trans h
theorem PB.bub(h:PB N p)(i j):PB N (bubble p i j):=(bubble_perm _ _ _).trans h
def iA(h:p[i]?=q[j]?):kk key p i=kk key q j:=by
 unfold kk;rw[Ld,Ld,h]
def wG(hs:src<p.size)(hd:d<=src)(k) :
  kk key (bubble p src d) k=if k=src-d then kk key p src else if src-d<k/\k<=src then kk key p (k-1)else kk key p k:=by
 have e:=getElem?_bubble hs d hd k;by_cases h1:k=src-d
 .rw[if_pos h1]at e ⊢;exact iA e
 .rw[if_neg h1]at e ⊢;by_cases h2:src-d<k/\k<=src
  .rw[if_pos h2]at e ⊢;exact iA e
  .rw[if_neg h2]at e ⊢;exact iA e
def tO(z:j<=p.size)(k) :
  kk key (kas_rev p i j) k=if i<=k/\k<j then kk key p (i+j-1-k)else kk key p k:=by
 have e:=getElem?_mirror_all (i:=i) z k;by_cases h1:i<=k/\k<j
 .rw[if_pos h1]at e ⊢;exact iA e
 .rw[if_neg h1]at e ⊢;exact iA e
def de(z:j<=p.size)(J:∀k,i<=k->k<j->kk key p k=kk key p (j-1))(k) :
  kk key (kas_rev p i j) k=kk key p k:=by
 rw[tO z]
 grind
variable(hc:∀a b C,a<N->b<N->C (O.blt (key a) (key b)) s->cmp a b C s)
include hc
def rB{Q:α->Shared->Prop}(z:PB N p)(hi:i<N)(J:j<N)
  (h:(k (O.blt (kk key p i) (kk key p j))).kasWp cmp Q s):(KasT.ask (p.getD i 0) (p.getD j 0) k).kasWp cmp Q s:=
 hc _ _ _ (z.lt hi) (z.lt J) h
theorem yo{p:Array Nat}{z:Nat}{Q:Nat->Shared->Prop}(hp:PB N p)(hn:z<=N):∀(f n:Nat),n+f=z->1<=n->fH key p n ->
  (∀m,n<=m->m<=z->fH key p m->(m=z\/O.klt (kk key p m) (kk key p (m-1)))->Q m s)->(kas_asc p f n).kasWp cmp Q s
 |0,n,e,h1,hs,h=>h n (gx _) (LM e) hs (.inl e)
 |f+1,n,e,h1,hs,h=>by
  show(KasT.ask (p.getD n 0) (p.getD (n-1) 0) λc=>if c=true then .ret n else kas_asc p f (n+1)).kasWp cmp Q s;have nN:n<N:=by omega
  refine rB hc hp nN (Ka (Mc n 1) nN) ?_;cases J:O.blt (kk key p n) (kk key p (n-1))with
  |true =>
   rw[if_pos rfl];exact h n (gx _) (r4 (Ml n (f+1)) (LM e)) hs (.inr J)
  |false =>
   rw[if_neg (by simp)];refine yo hp hn f (n+1) ((Ky n 1 f).trans e) (Lv 1 n) (λi j U hj=>?_) λm a b c d=>h m (LD a) b c d
   by_cases Y:j<n
   .exact hs i j U Y
   .have ao:j=n:=KC (KQ hj) (KD.mp Y);subst ao;by_cases Z:i=j
    .subst Z;exact KR _
    .exact LR (hs i (j-1) (LS (Le U Z)) (Ni h1 Nat.one_pos)) J
def u0{p:Array Nat}{n z:Nat}{Q:Nat×Array Nat->Shared->Prop}(U:PB N p)(hn:z<=N)(h1:1<=n)(J:n<=z)(hs:rA key p n)
  (h:∀m Y,PB N Y->1<=m->m<=z->fH key Y m->Q (m,Y) s):(kas_tail3 n z p).kasWp cmp Q s:=by
 unfold kas_tail3;rw[L4];have hz:n<=p.size:=by rw[U.size];exact r4 J hn
 refine yo hc (U.rev 0 n) hn (z-n) n (Mz J) h1 (λi j Z hj=>?_) λm a b c _=>h m _ (U.rev 0 n) (r4 h1 a) b c
 rw[tO hz,tO hz,if_pos ⟨J2 _,Ka Z hj⟩,if_pos ⟨J2 _,hj⟩];exact hs _ _ (by omega) (by omega)
theorem qc{J:Nat}{Q:Array Nat×Nat×Nat->Shared->Prop}(hn:J<=N):∀(f:Nat) (p:Array Nat) (n q:Nat),n+f=J->PB N p->rA key p n->q+1<=n ->
  (∀i,n-(q+1)<=i->i<n->kk key p i=kk key p (n-1)) ->
  (∀z m q',n<=m->m<=J->PB N z->rA key z m->q'+1<=m->(∀i,m-(q'+1)<=i->i<m->kk key z i=kk key z (m-1))->Q (z,m,q') s) ->
  (kas_desc f p n q).kasWp cmp Q s
 |0,p,n,q,e,hp,hs,hq,he,h=>h p n q (gx _) (by omega) hp hs hq he
 |f+1,p,n,q,e,hp,hs,hq,he,h=>by
  show(KasT.ask (p.getD n 0) (p.getD (n-1) 0) λc =>
   if c=true then(if q > 0 then kas_desc f (kas_rev p (n-(q+1)) n) (n+1) 0 else kas_desc f p (n+1) 0)
   else .ask (p.getD (n-1) 0) (p.getD n 0) λd=>if d=true then .ret (p,n,q)else kas_desc f p (n+1) (q+1)).kasWp cmp Q s
  have nN:n<N:=by omega
  have hz:n<=p.size:=by rw[hp.size];exact KZ nN
  refine rB hc hp nN (Ka (Mc n 1) nN) ?_;cases U:O.blt (kk key p n) (kk key p (n-1))with
  |true =>
   rw[if_pos rfl];have Y:∀z:Array Nat,(∀k,kk key z k=kk key p k)->rA key z (n+1):=by
    intro z hk i j Z hj;rw[hk,hk];by_cases ao:j<n
    .exact hs i j Z ao
    .have a5:j=n:=KC (KQ hj) (KD.mp ao);subst a5;by_cases aO:i=j
     .subst aO;exact KR _
     .exact LR (LF U) (hs i (j-1) (LS (Le Z aO)) (Ni (uw (Nat.succ_pos q) hq) Nat.one_pos))
   by_cases a3:q > 0
   .rw[if_pos a3];exact qc hn f _ (n+1) 0 ((Ky n 1 f).trans e) (hp.rev _ _) (Y _ (de hz he)) (Lv 1 n) (λi a b=>by congr 1;omega)
     λz m q' a=>h z m q' (LD a)
   .rw[if_neg a3];exact qc hn f p (n+1) 0 ((Ky n 1 f).trans e) hp (Y _ λ_=>rfl) (Lv 1 n) (λi a b=>by congr 1;omega) λz m q' a=>h z m q' (LD a)
  |false =>
   rw[if_neg (by simp)];refine rB hc hp (Ka (Mc n 1) nN) nN ?_;cases a0:O.blt (kk key p (n-1)) (kk key p n)with
   |true =>
    rw[if_pos rfl];exact h p n q (gx _) (by omega) hp hs hq he
   |false =>
    rw[if_neg (by simp)];have a4:kk key p n=kk key p (n-1):=KeyOrd.kle_antisymm a0 U;refine qc hn f p (n+1) (q+1) ((Ky n 1 f).trans e) hp (λi j Z hj=>?_) (Nat.succ_le_succ hq) (λi a b=>?_) λz m q' a=>h z m q' (LD a)
    .by_cases ao:j<n
     .exact hs i j Z ao
     .have a5:j=n:=KC (KQ hj) (KD.mp ao);subst a5;by_cases aO:i=j
      .subst aO;exact KR _
      .rw[a4];exact hs i (j-1) (LS (Le Z aO)) (Ni (uw (Nat.succ_pos q) hq) Nat.one_pos)
    .rw[KI];by_cases bA:i=n
     .subst bA;rfl
     .rw[a4];exact he i (by omega) (by omega)
def mI{n z:Nat}{Q:Nat×Array Nat->Shared->Prop}(hp:PB N p)(hn:z<=N)(a3:n+1<=z)(hs:rA key p (n+1))
  (h:∀m Y,PB N Y->1<=m->m<=z->fH key Y m->Q (m,Y) s):(kas_descPart n z p).kasWp cmp Q s:=by
 unfold kas_descPart;rw[L4];refine qc hc hn (z-_) p _ 0 (by omega) hp hs (by omega) (λi a b=>by congr 1;omega) λY m q' a5 Z U ao hq he=>?_
 dsimp only;have hz:m<=Y.size:=by rw[U.size];omega
 by_cases J:q' > 0
 .rw[if_pos J];refine u0 hc (U.rev _ _) hn (by omega) Z (λi j a0 hj=>?_) h;rw[de hz he,de hz he];exact ao i j a0 hj
 .rw[if_neg J];exact u0 hc U hn (by omega) Z ao h
def BF{p:Array Nat}{z:Nat}{Q:Nat×Array Nat->Shared->Prop}(hp:PB N p)(hn:z<=N)(h1:1<=z)
  (h:∀m p',PB N p'->1<=m->m<=z->fH key p' m->Q (m,p') s):(kas_count z p).kasWp cmp Q s:=by
 unfold kas_count;rw[L4];refine yo hc hp hn (z-1) 1 (by omega) (gx _) (λi j U hj=>by have:i=j:=KC U (r4 (KQ hj) (J2 i));subst this;exact KR _) λn Y a3 Z b1=>?_
 by_cases ao:n=z
 .rw[if_pos (by simpa using ao)];exact h n p hp Y a3 Z
 .rw[if_neg (by simpa using ao)];have nr:n<z:=Le a3 ao;have nN:=uw nr hn;have a7:O.klt (kk key p n) (kk key p (n-1)):=b1.resolve_left ao;by_cases a4:n > 1
  .rw[if_pos a4];refine rB hc hp (Ka (J2 n) nN) (Ka (Mc n 1) nN) ?_;cases a5:O.blt (kk key p 0) (kk key p (n-1))with
   |true =>
    rw[if_pos rfl];exact h n p hp Y a3 Z
   |false =>
    rw[if_neg (by simp)];have a8:n<=p.size:=by rw[hp.size];exact KZ nN
    have J:∀k,0<=k->k<n->kk key p k=kk key p (n-1):=by
     intro k _ hk;have a1:=Z 0 k (J2 k) hk;have a2:=Z k (n-1) (LS hk) (Ni Y Nat.one_pos);exact KeyOrd.kle_antisymm a2 (LR a5 a1)
    refine mI hc (hp.rev _ _) hn nr (λi j U hj=>?_) h;rw[de a8 J,de a8 J];by_cases a6:j<n
    .rw[J i (J2 _) (Ka U a6),J j (J2 _) a6];exact KR _
    .have b4:j=n:=KC (KQ hj) (KD.mp a6);subst b4;by_cases aO:i=j
     .subst aO;exact KR _
     .rw[J i (J2 _) (Le U aO)];exact LF a7
  .rw[if_neg a4];have a9:n=1:=KC (KD.mp a4) Y;subst a9;refine mI hc hp hn nr (λi j U hj=>?_) h;by_cases aO:i=j
   .subst aO;exact KR _
   .have b5:i=0:=by omega
    have cd:j=1:=by omega
    subst b5;subst cd
    exact LF a7
theorem qd{p:Array Nat}{k:Nat}{Q:Nat->Shared->Prop}(hp:PB N p)(hk:k<N)(hs:fH key p k):∀(f l r:Nat),r<=l+f->l<=r->r<=k ->
  (∀i,i<l->O.kle (kk key p i) (kk key p k))->(∀i,r<=i->i<k->O.klt (kk key p k) (kk key p i)) ->
  (∀l,l<=k->(∀i,i<l->O.kle (kk key p i) (kk key p k))->(∀i,l<=i->i<k->O.klt (kk key p k) (kk key p i))->Q l s)->(kas_place p k f l r).kasWp cmp Q s
 |0,l,r,hf,Z,z,U,Y,h=>by
  have:l=r:=KC Z hf;subst this;exact h l z U Y
 |f+1,l,r,hf,Z,z,U,Y,h=>by
  show(if l>=r then KasT.ret l else .ask (p.getD k 0) (p.getD ((l+r) / 2) 0) λc=>if c=true then kas_place p k f l ((l+r) / 2)else kas_place p k f ((l+r) / 2+1) r).kasWp cmp Q s;by_cases ao:l>=r
  .rw[if_pos ao];have:l=r:=KC Z ao;subst this;exact h l z U Y
  .rw[if_neg ao];obtain⟨m,em,m1,m2⟩:∃m,(l+r) / 2=m/\l<=m/\m<r:=⟨_,rfl,by omega,by omega⟩;rw[em];have mk:=uw m2 z;refine rB hc hp hk (LN mk hk) ?_;cases J:O.blt (kk key p k) (kk key p m)with
   |true =>
    rw[if_pos rfl];exact qd hp hk hs f l m (by omega) m1 (KZ mk) U (λi a b=>KeyOrd.klt_of_klt_of_kle J (hs _ _ a b)) h
   |false =>
    rw[if_neg (by simp)];exact qd hp hk hs f (m+1) r (by omega) m2 z (λi a=>LR (hs i m (KQ a) mk) (show O.kle _ _ from J)) Y h
theorem C_{Q:Array Nat->Shared->Prop}:∀(f:Nat) (p:Array Nat) (k:Nat),k+f=N->PB N p->fH key p k->(∀p',PB N p'->fH key p' N->Q p' s)->(kas_bin f p k).kasWp cmp Q s
 |0,p,k,e,Z,hs,h=>by
  have:k=N:=by omega
  subst this;exact h p Z hs
 |f+1,p,k,e,Z,hs,h=>by
  show((kas_place p k k 0 k).bind λl=>kas_bin f (bubble p k (k-l)) (k+1)).kasWp cmp Q s;rw[L4];refine qd hc Z (by omega) hs k 0 k (Lv k 0) (J2 k) (gx k) (λi a=>absurd a (Nat.not_lt_zero i)) (λi a b=>absurd b (KD.mpr a)) λl hl a0 a1=>?_
  refine C_ f _ (k+1) (by omega) (Z.bub _ _) (λi j J hj=>?_) h;have a2:k<p.size:=by rw[Z.size];omega
  have val:∀i,i<k+1->(i<l/\kk key (bubble p k (k-l)) i=kk key p i)\/(i=l/\kk key (bubble p k (k-l)) i=kk key p k)\/∃U,i=U+1/\l<=U/\U<k/\kk key (bubble p k (k-l)) i=kk key p U:=λi hi=>by
   rw[wG a2 (Mc k l),Nat.sub_sub_self hl];rcases Mf i l with q|q|q
   .exact .inl ⟨q,by rw[if_neg (tr q),if_neg λz=>M6 q z.1]⟩
   .exact .inr (.inl ⟨q,by rw[if_pos q]⟩)
   .obtain⟨c,rfl⟩:=K6 q;exact .inr (.inr ⟨l+c,rfl,Ml _ _,Mh hi,by rw[if_neg (KG q),if_pos ⟨q,KQ hi⟩];rfl⟩)
  rcases val i (Ka J hj)with⟨a,e1⟩|⟨a,e1⟩|⟨U,a,b,c,e1⟩<;>rcases val j hj with⟨Y,e2⟩|⟨Y,e2⟩|⟨j',Y,b',c',e2⟩<;>rw[e1,e2]
  .exact hs i j J (uw Y hl)
  .exact a0 i a
  .exact hs i j' (r4 (KZ a) b') c'
  .exact absurd Y (KD.mpr (a▸J))
  .exact KR _
  .exact LF (a1 j' b' c')
  .exact absurd (Ka (a▸J:U+1<=j) Y) (KD.mpr (Nat.le_succ_of_le b))
  .exact absurd (Y▸a▸J:U+1<=l) (Nat.not_le.mpr (Nat.lt_succ_of_le b))
  .exact hs U j' (Nat.le_of_succ_le_succ (Y▸a▸J:U+1<=j'+1)) c'
def Ea(h1:1<=N)(h:∀p,PB N p->fH key p N->Q p s):(kas_sort N).kasWp cmp Q s:=by
 unfold kas_sort;rw[L4];refine BF hc (Array.Perm.refl _) (gx _) h1 λm Y z Z ao J=>?_
 by_cases U:m<N
 .rw[if_pos U,show max m 1=m by omega];exact C_ hc _ _ _ (by omega) z J h
 .rw[if_neg U];have:m=N:=by omega
  subst this;exact h Y z J
end
end L2.Srt
namespace L2.Srt
open PySem PyProof.Rows List Option
theorem mJ:∀a,HT.lexLt a a=false
 | []=>rfl
 |x::r=>by rw[HT.lexLt_cons,if_pos rfl];exact mJ r
theorem kF:∀a b c,HT.lexLt a b=true->HT.lexLt b c=true->HT.lexLt a c=true
 | [],[],_,h,_=>by cases h
 | [],_::_,[],_,h=>by cases h
 | [],_::_,_::_,_,_=>rfl
 | _::_,[],_,h,_=>by cases h
 | _::_,_::_,[],_,h=>by cases h
 |x::a,y::b,z::c,h1,h2=>by
  rw[HT.lexLt_cons]at h1 h2 ⊢;by_cases J:x=y
  .rw[if_pos J]at h1;by_cases U:y=z
   .rw[if_pos U]at h2;rw[if_pos (J.trans U)];exact kF a b c h1 h2
   .simp_all
  .grind
theorem kG:∀a b,HT.lexLt a b=false->HT.lexLt b a=false->a=b
 | [],[],_,_=>rfl
 | [],_::_,h,_=>by cases h
 | _::_,[],_,h=>by cases h
 |x::a,y::b,h1,h2=>by
  rw[HT.lexLt_cons]at h1 h2;by_cases e:x=y
  .rw[if_pos e]at h1;rw[if_pos e.symm]at h2;rw[e,kG a b h1 h2]
  .grind
def BG(a b c)(h:HT.lexLt a c=true):HT.lexLt a b=true\/HT.lexLt b c=true:=by
 cases h1:HT.lexLt a b with
 |true=>exact .inl rfl
 |false =>
  cases h2:HT.lexLt b a<;>first|exact .inr (kF b a c h2 h)|(rw[kG a b h1 h2]at h;exact .inr h)
noncomputable def fh:KeyOrd:=⟨List Int,HT.lexLt,mJ,kF,BG,kG⟩
noncomputable def dg:KeyOrd:=⟨Int,λa b=>decide (a<b),λa=>J0 (by omega),λa b c h1 h2=>JS (by have:=Kc h1;have:=Kc h2;omega),
 λa b c h=>by
  have:=Kc h;by_cases q:a<b
  .exact .inl (JS q)
  .exact .inr (JS (by omega)),
 λa b h1 h2=>by have:=of_decide_eq_false h1;have:=of_decide_eq_false h2;omega⟩
section
variable(O:KeyOrd)
noncomputable def lN(x:O.α):List O.α->List O.α
 | []=>[x]
 |y::r=>if O.blt y x then y::lN x r else x::y::r
noncomputable def ie:List O.α->List O.α
 | []=>[]
 |x::r=>lN O x (ie r)
theorem kH(x):∀l,(lN O x l).Perm (x::l)
 | []=>.refl _
 |y::r=>by
  show(if O.blt y x then y::lN O x r else x::y::r).Perm _;split
  .exact(Perm.cons y (kH x r)).trans (.swap x y r)
  .exact .refl _
theorem fj:∀l,(ie O l).Perm l
 | []=>.refl _
 |x::r=>(kH O x _).trans (.cons x (fj r))
theorem mK(x):∀l,l.Pairwise O.kle->(lN O x l).Pairwise O.kle
 | [],_=>pairwise_singleton _ _
 |y::r,h=>by
  show(if O.blt y x then y::lN O x r else x::y::r).Pairwise O.kle;obtain⟨h1,h2⟩:=Ls.mp h;by_cases q:O.blt y x=true
  .rw[if_pos q];refine Ls.mpr ⟨λz hz=>?_,mK x r h2⟩;rcases tf.mp ((kH O x r).mem_iff.mp hz)with e|e
   .rw[e];exact LF q
   .exact h1 z e
  .rw[if_neg q];have J:=Bool.eq_false_iff.mpr q;refine Ls.mpr ⟨λz hz=>?_,h⟩;rcases tf.mp hz with e|e
   .rw[e];exact J
   .exact LR J (h1 z e)
theorem d6:∀l,(ie O l).Pairwise O.kle
 | []=>Pairwise.nil
 |x::r=>mK O x _ (d6 r)
theorem jN:∀{a b:List O.α},a.Perm b->a.Pairwise O.kle->b.Pairwise O.kle->a=b
 | [],b,p,_,_=>p.nil_eq
 |x::a,[],p,_,_=>by have:=p.length_eq;simp at this
 |x::a,y::b,p,J,U=>by
  obtain⟨Y,Z⟩:=Ls.mp J;obtain⟨b1,b2⟩:=Ls.mp U;have e:x=y:=by
   have hx:=p.mem_iff.mp (.head _);have hy:=p.mem_iff.mpr (.head _);rcases tf.mp hx with q|q
   .exact q
   .rcases tf.mp hy with z|z
    .exact z.symm
    .exact KeyOrd.kle_antisymm (Y y z) (b1 x q)
  subst e;rw[jN (p.cons_inv) Z b2]
def jO(p:a.Perm l)(h:a.Pairwise O.kle):a=ie O l:=jN O (p.trans (fj O l).symm) h (d6 O l)
def oB(p:a.Perm b):ie O a=ie O b:=jO O ((fj O a).trans p) (d6 O a)
def yq{a:List O.α}(h:a.Pairwise O.kle):ie O a=a:=(jO O (.refl a) h).symm
end
def iV{α:Type}(xs)(d:α):(range xs.length).map (λi=>xs.getD i d)=xs:=by
 apply M7;intro i;rw[JZ];by_cases q:i<xs.length
 .simp_all
 .simp_all
def Eb(J:PB xs.length p)(Y:fH (λi=>xs.getD i d) p xs.length):p.toList.map (λi=>xs.getD i d)=ie O xs:=by
 refine jO O ?_ ?_
 .have h:=(LY.mp J).map λi=>xs.getD i d
  have e:=iV xs d;rw[e]at h;exact h
 .rw[pairwise_iff_getElem];intro i j hi U z;rw[nR,Array.length_toList]at hi U;have hz:=J.size;have q:=Y i j (KZ z) (by omega);simp only[getElem_map];have Z:p.getD i 0=p[i]:=by simp[hi]
  have ej:p.getD j 0=p[j]:=by simp[U]
  unfold kk at q;rw[Z,ej]at q;exact q
end L2.Srt
namespace L2.Srt
open PySem PySem.W PySem.Calls PyProof.Rows List Option
section
variable{prog:Program}{w:World}{A:Around}{E:Value->Shared->Prop}{s:Shared}
def KOk(g:SortKind):Prop:=g=tuples' true\/g=general'\/g=oneType'
def qe {KO:SortKind->Prop}{O:KeyOrd}{key:Nat->O.α}{a:Addr}{vs:List Value}{n:Nat}{R:PySem.Fin->Shared->Prop} (ho:s.heap.get? a=some (seqObj "list" vs.toArray n)) (a0:vs.length<64)
  (hk:2<=vs.length->∀s' Q,(∀b o,b≠a->s.heap.get? b=some o->s'.heap.get? b=some o)->(∀g,KO g->Q g s')->wpAny (model prog w) A (keyKind' vs.toArray) Q (λ_ _=>False) s')
  (hc:∀g,KO g->∀s' i j C,(∀b o,b≠a->s.heap.get? b=some o->s'.heap.get? b=some o)->i<vs.length->j<vs.length->C (O.blt (key i) (key j)) s' ->
   wpAny (model prog w) A (keyLt' g (vs.getD i Value.none) (vs.getD j Value.none)) C (λ_ _=>False) s')
  (h:∀p,PB vs.length p->fH key p vs.length->R (.done (.ret .none)) { s with heap:=sortedHeap s.heap a vs (p.toList.map λi=>vs.getD i Value.none).toArray }) :
  wpAny (model prog w) A (Builtin.«list.sort» ⟨[.ref a],[]⟩) R E s:=by
 rw[list_sort_plain];have ha:=pb ho;refine eh (listItems_at ho rfl ?_);refine eh (listUpdate_at ho rfl ?_ (by rw[oe,Ke];omega) (J2 _));obtain⟨e1,Z⟩:∃e1,(s.heap.update a (Obj.mapSeq λ_=>(#[]:Array Value))).get? a=some (seqObj "list" #[] e1):=⟨_,get?_update_seq ho λ_=>#[]⟩;refine eh (seqEpoch_at Z rfl ?_);refine eh (wpAny_newTuple ?_ (by show vs.length<=_;rw[Ke];omega));refine eh (wpAny_newList ?_ (J2 _));refine Kg ?_;have J:(((s.heap.update a (Obj.mapSeq λ_=>(#[]:Array Value))).push (seqObj "tuple" vs.toArray 0)).push (seqObj "list" #[] 0)).get? a=some (seqObj "list" #[] e1):=gk _ (gk _ Z);have kp:∀b o,b≠a->s.heap.get? b=some o->(((s.heap.update a (Obj.mapSeq λ_=>(#[]:Array Value))).push (seqObj "tuple" vs.toArray 0)).push (seqObj "list" #[] 0)).get? b=some o:=λb o hb e =>
  gk _ (gk _ ((KA _ _ (Lr hb)).trans e))
 show wpAny (model prog w) A _ R E { s with heap:=((s.heap.update a (Obj.mapSeq λ_=>(#[]:Array Value))).push (seqObj "tuple" vs.toArray 0)).push (seqObj "list" #[] 0) };dsimp only;have b2:vs.toArray.size=vs.length:=by simp
 by_cases h2:vs.toArray.size<2
 .rw[if_pos h2,if_pos h2];refine eh (gf ?_);rw[StateT.run_pure];refine eh (gf ?_);dsimp only;refine eh (seqEpoch_at J rfl ?_);refine eh (listUpdate_at J rfl ?_ (J2 _) (by rw[Md];show(pairsOf vs).size<=_;rw[pairsOf_size,Ke];omega));simp only[LG,JV,KH];have e:((arrOf (SortSt.mk' general' (vs.toArray.zip vs.toArray) #[] 7 none)).map (·.2))=((range vs.length).toArray.toList.map λi=>vs.getD i Value.none).toArray:=by
   have e2:(arrOf (SortSt.mk' general' (vs.toArray.zip vs.toArray) #[] 7 none))=vs.toArray.zip vs.toArray:=rfl;rw[e2];apply Array.toList_inj.mp;rw[iV];simp[map_snd_zip]
  refine gf ?_;have q:=h (range vs.length).toArray (Array.Perm.refl _) (λi j b4 hj=>by
   have:i=j:=by omega
   subst this;exact KR _)
  rw[<- e]at q;exact q
 .rw[if_neg h2,if_neg h2];have ao:2<=vs.length:=by omega
  refine eh (Kd (hk ao _ (λg s0=>KO g/\s0={ s with heap:=((s.heap.update a (Obj.mapSeq λ_=>(#[]:Array Value))).push (seqObj "tuple" vs.toArray 0)).push (seqObj "list" #[] 0) }) kp λg z=>⟨z,rfl⟩) (λg s0 z=>?_) λ_ _ x=>x.elim);obtain⟨z,rfl⟩:=z;refine eh (Kd (kat_run (Q:=λU s'=>∃p,p.size=vs.length/\arrOf U=p.map (kas_item (vs.toArray.zip vs.toArray))/\failedOf U=none/\PB vs.length p/\fH key p vs.length/\s'={ s with heap:=((s.heap.update a (Obj.mapSeq λ_=>(#[]:Array Value))).push (seqObj "tuple" vs.toArray 0)).push (seqObj "list" #[] 0) })
   (G:=λp s'=>PB vs.length p/\fH key p vs.length/\s'={ s with heap:=((s.heap.update a (Obj.mapSeq λ_=>(#[]:Array Value))).push (seqObj "tuple" vs.toArray 0)).push (seqObj "list" #[] 0) })
   rfl ao a0 (λp' U s' a1 a2 a3 a4=>⟨p',a1,a2,a3,a4⟩)
   (Ea (key:=key) (λi j C hi hj q=>hc g z _ i j C kp hi hj q) (by omega) λp hp hr=>⟨hp,hr,rfl⟩)) ?_ λ_ _ e=>e)
  rintro ⟨⟨⟩,U⟩ s' ⟨p,hp,a7,hf,a8,a9,rfl⟩;dsimp only;have Y:=kat_snds rfl a7;refine eh (seqEpoch_at J rfl ?_);refine eh (listUpdate_at J rfl ?_ (J2 _) (by rw[Y];refine r4 (LM ?_) (show vs.length<=_ by rw[Ke];omega);simp[hp]));rw[hf,Y];simp only[LG,JV,KH];exact gf (h p a8 a9)
theorem ln :∀{vs z}{ns ms} i,IntsAre vs ns->IntsAre z ms->fin=decide (ns.length<ms.length)->C (HT.lexLt ns ms) s->KatLex prog w A true fin C (vs.zip z) i s
 | _,_,_,_,i,.nil,.nil,hf,h=>by
  refine kat_nil ?_;rw[hf];exact h
 | _,_,_,_,i,.nil,.cons c u hw,hf,h=>by
  refine kat_nil ?_;rw[hf,JS (by simp)];exact h
 | _,_,_,_,i,.cons a t hv,.nil,hf,h=>by
  refine kat_nil ?_;rw[hf,J0 (by simp)];exact h
 | _,_,_,_,i,.cons (ns:=ns) a t hv,.cons (ns:=ms) c u hw,hf,h=>by
  rw[HT.lexLt_cons]at h;refine kat_cons (wpAny_eqBool_int ?_);by_cases e:a=c
  .rw[if_pos e]at h;have q:(a==c)=true:=by rw[e];exact Ln c
   rw[q];refine kat_yes (ln _ hv hw ?_ h);rw[hf];simp
  .rw[if_neg e]at h;have q:=K7.mpr e;rw[q];refine kat_no ?_;cases i with
   |zero=>exact oneLt_int h
   |succ i=>exact kat_one _ _ (lt_int h)
def BH(hk:KOk g){a b:Addr}{its z:Array Value}{ns ms:List Int}{C:Bool->Shared->Prop}(ha:IsTup s.heap a its)(hb:IsTup s.heap b z)(hi:IntsAre its.toList ns)(Z:IntsAre z.toList ms)
  (hu:A.units<cLine) (h:C (HT.lexLt ns ms) s):wpAny (model prog w) A (keyLt' g (.ref a) (.ref b)) C E s:=by
 rcases hk with rfl|rfl|rfl
 .obtain⟨o,ho,_,n,hd⟩:=id ha;obtain⟨o2,U,_,n2,J⟩:=id hb;refine kat_lt ho hd U J (ln 0 hi Z ?_ h);have z1:its.size=ns.length:=by rw[<- hi.length];simp
  have z2:z.size=ms.length:=by rw[<- Z.length];simp
  rw[z1,z2]
 .show wpAny _ _ (oneLt' false _ _) _ _ _;exact kat_one _ _ (HT.lt_tupInts ha hb hi Z hu h)
 .rw[keyLt'_oneType,oneLt'_eq];refine eh (wpAny_cRoomFor hu ?_);refine aC λZq kq=>?_
  obtain⟨⟨cls,dd,data,sl⟩,ho,hc,n,hd⟩:=id ha;obtain⟨⟨a4,a0,data2,a1⟩,U,Y,n2,J⟩:=id hb;simp only at hc hd Y J;subst hc hd Y J;refine kq ?_;refine eh (wpAny_callSpecialIfBound?_slot ⟨_,ho,rfl⟩ PySem.F.slot_tuple_lt (M0 PySem.F.slot_tuple_lt ⟨_,ho,rfl⟩ PySem.F.entry_tuple_lt (PySem.F.args_tuple_lt_2 _ _) (HT.tuple_lt_ints a b its z n n2 dd a0 sl a1 ns ms hi Z) ⟨ho,U,?_⟩));exact KP h
theorem lq:∀(vs:List Value) {Q},(∀v∈vs,∃a its ns,v=.ref a/\IsTup s.heap a its/\IntsAre its.toList ns) ->
  (∀fs,fs.length=vs.length->(∀f∈fs,∀v,f=some v->∃n t,v=Value.int n t)->Q fs s)->wpAny (model prog w) A (vs.mapM firstOfTuple') Q E s
 | [],Q,_,h=>by rw[mapM_nil];exact gf (h [] rfl (by simp))
 |v::vs,Q,hv,h=>by
  obtain⟨a,its,ns,rfl,⟨o,ho,hc,n,hd⟩,hi⟩:=hv v (.head _);rw[mapM_cons];refine eh ?_;refine eh (Looks.here (show Looks (model prog w) s.heap (typeOf (.ref a)) o.cls from(Looks.ld ho).andThen .now) ?_);rw[hc,if_neg (by first|decide|simp)];refine eh (listItems_at ho hd (gf ?_));refine eh (lq vs (Q:=λbs s'=>wpAny (model prog w) A (pure (its[0]?::bs)) Q E s') (λu U=>hv u (.tail _ U)) λfs Y Z=>?_);refine gf (h _ (by simp[Y]) λf hm u e=>?_);rcases tf.mp hm with z|z
  .rw[z]at e;have J:u∈its.toList:=by
    rw[<- Kj]at e;exact K1 e
   exact hi.all u J
  .exact Z f z u e
def wH{vs:List Value}{Q:SortKind->Shared->Prop}(h2:2<=vs.length)(hv:∀v∈vs,∃a its ns,v=.ref a/\IsTup s.heap a its/\IntsAre its.toList ns)(h:∀g,KOk g->Q g s) :
  wpAny (model prog w) A (keyKind' vs.toArray) Q E s:=by
 rw[kat_kind_eq,mapM_toArray,M8];refine eh (eh (lq vs hv λfs hl hf=>gf ?_));by_cases z:(fs.toArray.all λx=>x.isSome)=true
 .rw[if_pos z];refine eh (Ll ?_);have aO:(fs.toArray.filterMap id)=(fs.filterMap id).toArray:=by simp
  rw[aO,oneTypeOnly'_eq,mapM_toArray,M8];have U:∀v∈fs.filterMap id,∃n t,v=Value.int n t:=λv Y=>by
   obtain⟨f,a0,e⟩:=mem_filterMap.mp Y;exact hf f a0 v e
  have a1:0<(fs.filterMap id).length:=by
   match fs,hl,z with
   | [],hl,_=>simp at hl;omega
   |f::r,_,z =>
    have:f.isSome=true:=by simp at z;exact z.1
    obtain⟨u,rfl⟩:=isSome_iff_exists.mp this;simp
  refine eh (eh (eh (kas_mapM (r:=Value.type "int") _ (λv Y Q' hq=>?_) (gf ?_))))
  .obtain⟨n,t,rfl⟩:=U v Y;exact gf hq
  .have h0:(map (λ_=>Value.type "int") (fs.filterMap id)).toArray[0]?=some (Value.type "int"):=by
    simp[a1]
   rw[h0];have J:((map (λ_=>Value.type "int") (fs.filterMap id)).toArray.all λx=>x==Value.type "int")=true:=by
    simp only[all_toArray,Mp,Lo];intro _ _
    rfl
   simp only[J,if_true];exact gf (gf (h _ (.inl rfl)))
 .rw[if_neg z];by_cases Z:((fs.toArray[0]?).bind id).isSome=true
  .rw[if_pos Z];exact gf (h _ (.inr (.inl rfl)))
  .rw[if_neg Z];rw[oneTypeOnly'_eq,mapM_toArray,M8];refine eh (eh (eh (kas_mapM (r:=Value.type "tuple") _ (λv Y Q' hq=>?_) (gf ?_))))
   .obtain⟨a,its,ns,rfl,⟨o,ho,hc,n,hd⟩,hi⟩:=hv v Y;have q:Looks (model prog w) s.heap (typeOf (.ref a)) o.cls:=(Looks.ld ho).andThen .now;rw[hc]at q;exact q.here hq
   .have h0:(map (λ_=>Value.type "tuple") vs).toArray[0]?=some (Value.type "tuple"):=by
     have:0<vs.length:=by omega
     simp[this]
    rw[h0];have J:((map (λ_=>Value.type "tuple") vs).toArray.all λx=>x==Value.type "tuple")=true:=by
     simp only[all_toArray,Mp,Lo];intro _ _
     rfl
    simp only[J,if_true];exact gf (gf (h _ (.inr (.inr rfl))))
end
end L2.Srt
namespace L2.St
open PySem PyProof.Rows List Option
section
variable{P:Program}{w:World}{A:Around}{E:Value->Shared->Prop}{s:Shared}
def jP{items:Array Value}(hi:IntsAre items.toList ns):∀i (v:Value),items[i]?=some v->∃t,v=.int (ns.getD i 0) t:=
 λi v e=>IntsAre.int_at hi i v (by rw[Kj];exact e)
def kI{v:Value}{vs:Array Value}{it:Addr}{Q:Option Value->Shared->Prop}(z:A.handled=none){R:Value->Shared->Prop}
  (J:∀e s',(∀b o,s.heap.get? b=some o->s'.heap.get? b=some o)->(∃h',s'={ s with heap:=h' })->s'.TypeIs e "StopIteration"->R e s') {U:PySem.Fin->Shared->Prop} :
  wpAny (model P w) A (newExc (.type "StopIteration") [] >>= λe=>(raiseNew e:Sem PySem.Fin)) U R s:=by
 refine wpAny_bind ?_;simp only[newExc,newTuple];refine wpAny_bind (wpAny_newObj_type ?_ (by size_fits));refine wpAny_bind (m:=firstArgMember _ _) (wpAny_of_eq (a:=Value.none) (by first|rfl|(simp only[firstArgMember];rfl)) ?_);refine wpAny_newObj_type ?_ (by size_fits);simp only[raiseNew];refine wpAny_bind (wpAny_handled ?_);rw[z];refine wpAny_bind (wpAny_pure (wpAny_throw ?_));exact J _ _ (λb o e=>Heap.get?_push_of_some _ (Heap.get?_push_of_some _ e)) ⟨_,rfl⟩ ⟨_,Heap.get?_push_size _ rfl,rfl⟩
def jg(h:ItemsOf (λi v=>∃t,v=Value.int (order.getD i 0) t) acc order.length):IntsAre acc.toList order:=by
 obtain⟨hz,hv⟩:=h;have J:acc.toList.length=order.length:=by simpa using hz
 have z:∀j v,acc.toList[j]?=some v->∃t,v=Value.int _ t:=λj v e=>hv j v (by rw[<- Kj];exact e)
 clear hv hz;generalize acc.toList=vs at J z
 induction vs generalizing order with
 |nil =>
  have:=Kn.mp J.symm;rw[this];exact .nil
 |cons v r ih =>
  match order,J,z with
  | [],J,_=>simp at J
  |k::ks,J,z =>
   obtain⟨t,e⟩:=z 0 v rfl;have U:=e;rw[U];exact .cons k t (ih (by simpa using J) λj u q=>z (j+1) u (by simpa using q))
end
end L2.St
namespace L2.St
open PySem List Option
def oC(xs:Array Nat):Prop:=∀i j,i<j->j<xs.size->xs.getD i 0<xs.getD j 0
def yr{xs:Array Nat}(h:i<xs.size)(d e):xs.getD i d=xs.getD i e:=by simp[Array.getD,h]
theorem mL{xs:Array Nat}{j:Nat}(Z:oC xs):∀(J lo hi:Nat),hi<=lo+J->lo<=hi->hi<=xs.size->(∀i,i<lo->xs.getD i 0<j)->(∀i,hi<=i->i<xs.size->j<=xs.getD i 0) ->
  (SetTable.below.go xs j J lo hi<=xs.size/\(∀i,i<SetTable.below.go xs j J lo hi->xs.getD i 0<j)/\∀i,SetTable.below.go xs j J lo hi<=i->i<xs.size->j<=xs.getD i 0)
 |0,lo,hi,hf,h1,h2,a,b=>by
  have e:SetTable.below.go xs j 0 lo hi=lo:=rfl;rw[e];have:lo=hi:=KC h1 hf;subst this;exact⟨h2,a,b⟩
 |J+1,lo,hi,hf,h1,h2,a,b=>by
  have e:SetTable.below.go xs j (J+1) lo hi=if lo<hi then(if xs.getD ((lo+hi) / 2) j<j then SetTable.below.go xs j J ((lo+hi) / 2+1) hi else SetTable.below.go xs j J lo ((lo+hi) / 2))else lo:=rfl
  rw[e];by_cases hl:lo<hi
  .rw[if_pos hl];obtain⟨m,em,m1,m2⟩:∃m,(lo+hi) / 2=m/\lo<=m/\m<hi:=⟨_,rfl,by omega,by omega⟩;rw[em];have hm:m<xs.size:=uw m2 h2;rw[yr hm j 0];by_cases Y:xs.getD m 0<j
   .rw[if_pos Y];refine mL Z J _ hi (by omega) m2 h2 (λi U=>?_) b;rcases MN (KQ U)with z|z
    .exact LN (Z i m z hm) Y
    .rw[z];exact Y
   .rw[if_neg Y];refine mL Z J lo _ (by omega) m1 (KZ hm) a λi U hz=>?_
    rcases MN U with z|z
    .exact r4 (KD.mp Y) (KZ (Z m i z hz))
    .rw[<- z];exact KD.mp Y
  .rw[if_neg hl];have:lo=hi:=KC h1 (KD.mp hl);subst this;exact⟨h2,a,b⟩
def jr{xs:Array Nat}(z:oC xs)(j:Nat):SetTable.below xs j<=xs.size/\(∀i,i<SetTable.below xs j->xs.getD i 0<j)/\∀i,SetTable.below xs j<=i->i<xs.size->j<=xs.getD i 0:=
 mL z xs.size 0 xs.size (Lv _ _) (J2 _) (gx _) (λi h=>absurd h (Nat.not_lt_zero i)) λi h1 h2=>absurd h2 (KD.mpr h1)
def oD(xs)(p)(x:α)(z:p<=xs.size):(SetTable.insertAt xs p x).size=xs.size+1:=by grind [SetTable.insertAt]
def jQ{α:Type}(xs:Array α)(p:Nat)(x:α)(z:p<=xs.size)(i:Nat):(SetTable.insertAt xs p x)[i]?=if i<p then xs[i]? else if i=p then some x else xs[i-1]?:=by
 unfold SetTable.insertAt;have hz:((xs.extract 0 p).push x).size=p+1:=by rw[Array.size_push,Lw,Lx z,Nat.sub_zero]
 rcases Mf i p with h1|h1|h1
 .rw[if_pos h1,MQ (by rw[hz];exact J9 h1)];rw[Array.getElem?_push,if_neg (by rw[Lw,Lx z];exact tr h1),Array.getElem?_extract,if_pos (by rw[Lx z];exact h1),Lp]
 .subst h1;rw[if_neg (Kf _),if_pos rfl,MQ (by rw[hz];exact Lq _)];rw[Array.getElem?_push,if_pos (by rw[Lw,Lx z];rfl)]
 .obtain⟨k,rfl⟩:=K6 h1;rw[if_neg (M6 h1),if_neg (KG h1),Array.getElem?_append_right (by rw[hz];exact h1),hz,Array.getElem?_extract,Ky,Nat.add_sub_cancel_left,M9,Ky,KI];by_cases J:k<xs.size-p
  .rw[if_pos J]
  .rw[if_neg J,LB (Nat.sub_le_iff_le_add'.mp (KD.mp J))]
def dO{xs:Array Nat} :xs.getD i 0=(xs[i]?).getD 0:=Ld
def rC{xs:Array Nat}(Y:oC xs){j:Nat}(hn:xs[SetTable.below xs j]?≠some j):oC (SetTable.insertAt xs (SetTable.below xs j) j):=by
 obtain⟨Z,ha,hb⟩:=jr Y j;generalize SetTable.below xs j=p at *
 have ao:∀i,p<=i->i<xs.size->j<xs.getD i 0:=λi h1 h2=>by
  rcases MN h1 with z|z
  .exact Ka (hb p (gx _) (LN z h2)) (Y p i z h2)
  .subst z;have e:xs[p]?=some (xs.getD p 0):=by rw[L5 h2];simp[Array.getD,h2]
   exact Le (hb p h1 h2) λz=>hn (by rw[e,<- z])
 intro i k J hk;rw[oD _ _ _ Z]at hk;rw[dO,dO,jQ _ _ _ Z,jQ _ _ _ Z];rcases Mf k p with h1|h1|h1
 .rw[if_pos h1,if_pos (LN J h1),<- dO,<- dO];exact Y i k J (uw h1 Z)
 .subst h1;rw[if_neg (Kf k),if_pos rfl,if_pos J,<- dO];exact ha i J
 .obtain⟨c,rfl⟩:=K6 h1;have hc:=Mh hk;rw[if_neg (M6 h1),if_neg (KG h1),KI];rcases Mf i p with U|U|U
  .rw[if_pos U,<- dO,<- dO];exact Y i (p+c) (uw U (Ml p c)) hc
  .rw[if_neg (U▸Kf p),if_pos U,<- dO];exact ao (p+c) (Ml p c) hc
  .obtain⟨b,rfl⟩:=K6 U;rw[if_neg (M6 U),if_neg (KG U),KI,<- dO,<- dO];exact Y (p+b) (p+c) (Mh J) hc
def tP(n):oC (Array.range n):=λi j h1 h2=>by
 rw[Array.size_range]at h2;simp[Array.getD,h2,LN h1 h2];exact h1
def yt:oC #[]:=λi j _ h=>by simp at h
structure Gd(L:Bool)(t:SetTable):Prop where
 led:t.led=L
 dum:t.dummies=#[]
 rise:oC t.place
theorem Gd.fresh(L):Gd L (.fresh 0 0 L):=⟨rfl,rfl,yt⟩
theorem Gd.standIn(h:Gd L t)(n):Gd L (t.standIn n):=⟨h.led,rfl,tP n⟩
theorem Gd.orStandIn(h:Gd L t)(n):Gd L (t.orStandIn n):=by
 unfold SetTable.orStandIn;split
 .exact h
 .exact h.standIn n
def Gd.unplain(h:Gd L t):Gd L { t with plain:=false }:=⟨h.led,h.dum,h.rise⟩
def qf{t:SetTable}(hd:t.dummies=#[])(j):t.slot j≠.dummy:=by
 unfold SetTable.slot SetTable.has;rw[hd];dsimp only;split
 .simp
 .simp
def tQ{t:SetTable}(h:t.slot j=.empty):t.place[SetTable.below t.place j]?≠some j:=by
 intro e;unfold SetTable.slot at h
 simp_all
theorem rD(hd:t.dummies=#[]) :∀z p,p.dummy=none->∀j d,SetTable.probe.go t J h z p=some (.empty j d)->d=none/\t.slot j=.empty
 |0,p,U,j,d,e=>by
  have:SetTable.probe.go t J h 0 p=none:=rfl;rw[this]at e;cases e
 |z+1,p,U,j,d,e=>by
  have step:SetTable.probe.go t J h (z+1) p=(match t.slot p.j with
   | .empty=>some (.empty p.j p.dummy)
   | .dummy=>SetTable.probe.go t J h z (t.advance { p with dummy:=some p.j })
   | .live i=>if J i==h then some (.candidate p.j i (t.advance p))else SetTable.probe.go t J h z (t.advance p)):=rfl
  rw[step]at e;have Y:(t.advance p).dummy=none:=by unfold SetTable.advance;split<;>simp[U]
  cases hs:t.slot p.j with
  |empty =>
   rw[hs]at e;dsimp only at e;cases e;exact⟨U,hs⟩
  |dummy=>exact absurd hs (qf hd _)
  |live i =>
   rw[hs]at e;dsimp only at e;split at e
   .cases e
   .exact rD hd z _ Y j d e
def wI{t:SetTable}(hd:t.dummies=#[])(e:t.freeSlot h=some (j,b)):t.slot j=.empty:=by
 unfold SetTable.freeSlot at e;split at e
 .rename_i z d J;obtain⟨rfl,hs⟩:=rD hd _ _ rfl z d J
  simp_all
 .cases e
theorem Gd.put(h:Gd L t)(hs:t.slot j=.empty):Gd L (t.put j).1:=by
 refine⟨h.led,?_,rC h.rise (tQ hs)⟩;show(if SetTable.has t.dummies j then _ else t.dummies)=#[];rw[if_neg (by unfold SetTable.has;rw[h.dum];simp)];exact h.dum
theorem Gd.layNew(g:Gd L t)(es)(h)(x):Gd L (layNew t es h x).2.1:=by
 unfold PySem.layNew;cases e:t.freeSlot h with
 |none=>exact g.standIn _
 |some q =>
  exact(g.put (wI g.dum e)).orStandIn _
def yu(f:Nat->Option Nat)(n):oC ((((range n).filterMap λj=>(f j).map λi=>(j,i)).map λq:Nat×Nat=>q.1).toArray):=by
 have e:((range n).filterMap λj=>(f j).map λi=>(j,i)).map (λq:Nat×Nat=>q.1)=(range n).filter λj=>(f j).isSome:=by
  generalize range n=l
  induction l with
  |nil=>rfl
  |cons a l ih =>
   cases h:f a<;>simp[filterMap_cons,filter_cons,h,ih]
 rw[e];have Y:((range n).filter λj=>(f j).isSome).Pairwise (· < ·):=Pairwise.filter _ pairwise_lt_range;intro i j J Z;have z:j<((range n).filter λj=>(f j).isSome).length:=by simpa using Z
 have U:i<((range n).filter λj=>(f j).isSome).length:=LN J z;have:=pairwise_iff_getElem.mp Y i j U z J;simpa[Array.getD,z,U]using this
theorem Gd.relaid(g:Gd L t)(e:t.relaid hs n=some (t',o)):Gd L t':=by
 unfold SetTable.relaid SetTable.laid at e;cases h:SetTable.layClean (SetTable.sizeAbove n-1) hs with
 |none=>rw[h]at e;cases e
 |some ow =>
  rw[h]at e;cases e;exact⟨g.led,rfl,yu (λj=>ow.getD j none) _⟩
theorem Gd.relayAll(g:Gd L t)(es)(n):Gd L (relayAll t es n).2.1:=by
 unfold PySem.relayAll;cases e:t.relaid (es.map _) n with
 |none=>exact g.standIn _
 |some q =>
  dsimp only;split
  .exact g.relaid e
  .exact g.standIn _
end L2.St
namespace L2.St
open PySem PyProof.Rows List Option
noncomputable def byT (w:World):Bool:=w.params.followText "set-order"
structure Arr(P:Program)(w:World)(ks:List Int)(es:Array (Int×Value))(t:SetTable):Prop where
 el:ElemsOf (intKind P w) es.toList
 pm:(es.toList.map λe=>numOf e.2).Perm ks
 nd:ks.Nodup
 bd:es.size<scanBound
 fi:t.fits es.size=true
 gd:Gd (!byT w) t
def b_(P:Program)(w:World)(h:Heap)(a:Addr)(ks:List Int):Prop:=
 ∃o es ep t,h.get? a=some o/\o.ExactSet/\o.data=.set es ep t/\ElemsOf (intKind P w) es.toList/\(es.toList.map λe=>numOf e.2).Perm ks/\ks.Nodup/\es.size<scanBound/\t.fits es.size=true/\Gd (!byT w) t
section
variable{P:Program}{w:World}{h h':Heap}{a:Addr}{ks ks':List Int}{o:Obj}{es:Array (Int×Value)}{ep:Nat}{t:SetTable}
theorem b_.arr(g:b_ P w h a ks):∃o es ep t,(h.get? a=some o/\o.ExactSet/\o.data=.set es ep t)/\Arr P w ks es t:=by
 refine aC λZq J=>?_
 obtain⟨o,es,ep,t,ho,z,hd,U,Y,Z,c4,c5,c6⟩:=g;refine J ?_;exact⟨o,es,ep,t,⟨ho,z,hd⟩,⟨U,Y,Z,c4,c5,c6⟩⟩
theorem Arr.set(r:Arr P w ks es t)(ho:h.get? a=some o)(z:o.ExactSet)(hd:o.data=.set es ep t):b_ P w h a ks:=
 ⟨o,es,ep,t,ho,z,hd,r.el,r.pm,r.nd,r.bd,r.fi,r.gd⟩
theorem Arr.len(r:Arr P w ks es t):es.size=ks.length:=by simpa using r.pm.length_eq
theorem Arr.bare(r:Arr P w ks es t)(b):Arr P w ks es (if b=true then t else { t with plain:=false }):=by
 cases b
 .exact⟨r.el,r.pm,r.nd,r.bd,SetTable.fits_plain_off r.fi,r.gd.unplain⟩
 .exact r
theorem Arr.lay(r:Arr P w ks es t)(tk)(J:k∉ks)(U:ks.length+1<scanBound):Arr P w (k::ks) (layNew t es (hashInt k) (.int k tk)).1 (layNew t es (hashInt k) (.int k tk)).2.1:=by
 have p:(layNew t es (hashInt k) (.int k tk)).1.toList.Perm (es.toList++[(hashInt k,.int k tk)]):=by simpa using layNew_perm t es _ _
 have z:=p.length_eq;have l:=r.len;constructor
 .exact ElemsOf.perm (r.el.push (M1 _ _ _ _) rfl) p
 .have q:((es.toList++[(hashInt k,Value.int k tk)]).map λe=>numOf e.2).Perm (k::ks):=by
   rw[Ko];exact LU.trans (r.pm.cons k)
  exact(p.map _).trans q
 .exact Kh.mpr ⟨J,r.nd⟩
 .simp at z;omega
 .exact layNew_fits _ _ _ _
 .exact r.gd.layNew _ _ _
def Arr.relay(r:Arr P w ks es t)(n):Arr P w ks (relayAll t es n).1 (relayAll t es n).2.1:=by
 have p:=relayAll_perm t es n;have z:=p.length_eq;have b:=r.bd;exact⟨r.el.perm p,(p.map _).trans r.pm,r.nd,by simp at z;omega,relayAll_fits t es n,r.gd.relayAll es n⟩
theorem b_.at(g:b_ P w h a ks)(k:∀o,h.get? a=some o->h'.get? a=some o):b_ P w h' a ks:=by
 obtain⟨o,es,ep,t,⟨ho,z,hd⟩,r⟩:=g.arr;exact r.set (k o ho) z hd
end
def fc(h:ElemsOf (intKind P w) es):∀e∈es,∃t,e.2=.int (numOf e.2) t:=λe z=>by
 obtain⟨⟨k,J,_⟩,_⟩:=h e z;obtain⟨t,q⟩:=MT (show Value.isInt k e.2=true from J);exact⟨t,by rw[q];rfl⟩
def jt(h:ElemsOf (intKind P w) es)(J:e∈es)(k):(intKind P w).is k e.2=true ↔ numOf e.2=k:=by
 obtain⟨t,q⟩:=fc h e J;constructor
 .intro z;obtain⟨t',U⟩:=MT (show Value.isInt k e.2=true from z);rw[U];rfl
 .intro z;rw[q,z];exact M1 _ _ _ _
section
variable{P:Program}{w:World}{A:Around}{E:Value->Shared->Prop}{s:Shared}
def Now(P:Program)(w:World)(a:Addr)(s:Shared)(ks:List Int)(s':Shared):Prop:=
 ∃h',s'={ s with heap:=h' }/\Heap.SameBut a s.heap h'/\b_ P w h' a ks
theorem Now.stay(g:b_ P w s.heap a ks):Now P w a s ks s:=⟨s.heap,rfl,Li a s.heap,g⟩
def u6{h:Heap}(ho:h.get? a=some o)(J:o.ExactSet)(hd:o.data=.set es ep t)
  (r:Arr P w ks z t'):b_ P w (h.update a (Obj.putSet z t')) a ks:=by
 refine r.set (o:={ o with data:=.set z (ep+1) t' }) (ep:=ep+1) ?_ J rfl;have e:=putSet_of z t' hd;rw[<- e];exact Ki _ ho (by rw[e];rfl)
theorem Now.put{s':Shared}(n:Now P w a s ks s'){es:Array (Int×Value)}{t:SetTable}(r:Arr P w ks' es t){Q:Unit->Shared->Prop}(h:∀z,Now P w a s ks' z->Q () z) :
  wpAny (model P w) A (storeSet a es t) Q E s':=by
 refine aC λZ U=>?_
 obtain⟨h',rfl,Y,g⟩:=n;obtain⟨o,_,_,_,⟨ho,J,hd⟩,_⟩:=g.arr;refine U ?_;exact Lj ho hd (h _ ⟨_,rfl,Y.trans (J8 h' a _),u6 ho J hd r⟩) (K3 r.bd)
def G6{Q:Unit->Shared->Prop}(z:m=pure ()\/∃n,m=rule n)(h:Q () s'):wpAny (model P w) A m Q E s':=by
 rcases z with rfl|⟨n,rfl⟩
 .exact gf h
 .exact Ll h
def G7(k)(tk)(c)(h:∀b,wpAny (model P w) A (f b) Q E s') :
  wpAny (model P w) A (if c=true then hashByValue 8 (.int k tk) >>= f else(pure true:Sem Bool) >>= f) Q E s':=by
 cases c
 .exact eh (gf (h true))
 .rw[if_pos rfl,hashByValue_scannable 8 (show(Value.int k tk).scannable=true from rfl)];exact eh (gf (h _))
def oW{Q:Bool->Shared->Prop}(hS:b_ P w s.heap a ks)(J:ks.length+1<scanBound)
  (h:∀h' b,Heap.SameBut a s.heap h'->b_ P w h' a (if k∈ks then ks else k::ks)->Q b { s with heap:=h' }) :
  wpAny (model P w) A (setAddHashed a (.int k tk) (hashInt k)) Q E s:=by
 have fin:∀b s',Now P w a s (if k∈ks then ks else k::ks) s'->Q b s':=by
  rintro b _ ⟨h',rfl,sb,g⟩;exact h h' b sb g
 have now:=Now.stay hS;obtain⟨o,es,ep,t,⟨ho,a6,hd⟩,r⟩:=hS.arr;have here:k∈ks ↔ ((es.toList.findIdx? λe=>(intKind P w).is k e.2).isSome=true):=by
  rw[findIdx?_isSome,K8,<- r.pm.mem_iff,mem_map];exact⟨λ⟨e,Y,q⟩=>⟨e,Y,(jt r.el Y k).mpr q⟩,λ⟨e,Y,q⟩=>⟨e,Y,(jt r.el Y k).mp q⟩⟩
 unfold setAddHashed setAddHashedIn;refine Kg (eh (J1 ho hd r.fi ?_));dsimp only;rw[byScan_of (x:=.int k tk) rfl r.bd r.el,if_pos rfl];refine eh ?_;unfold setAddByScan;refine eh (Ll (eh (wpAny_setScan_of (knd:=intKind P w) (M1 _ _ _ _) ho hd r.fi r.el ?_)));rcases Z:es.toList.findIdx? λe=>(intKind P w).is k e.2 with _|j
 .rw[Z];have hk:k∉ks:=λz=>by rw[here,Z]at z;exact Bool.noConfusion z
  rw[if_neg hk]at fin;have r1:=r.lay tk hk J;rcases hl:layNew t es (hashInt k) (.int k tk)with⟨U,t1,dm,gv⟩
  rw[hl]at r1;dsimp only at r1 ⊢;refine eh (G6 ?_ ?_)
  .cases gv
   .exact .inl rfl
   .exact .inr ⟨_,rfl⟩
  refine G7 k tk _ λb=>?_
  have r2:=r1.bare b;generalize (if b=true then t1 else _)=t2 at r2 ⊢;refine eh (now.put r2 λs2 n2=>?_);refine J3 (λ_=>?_) (λ_=>gf (gf (fin _ _ n2)));have r3:=r2.relay (SetTable.grown U.size);rcases hm:relayAll t2 U (SetTable.grown U.size)with⟨b0,t3,a2⟩
  rw[hm]at r3;dsimp only at r3 ⊢;refine eh (G6 ?_ ?_)
  .cases a2
   .exact .inl rfl
   .exact .inr ⟨_,rfl⟩
  exact eh (n2.put r3 λs3 n3=>gf (gf (fin _ _ n3)))
 .rw[Z];have hk:=here.mpr (by rw[Z];rfl);rw[if_pos hk]at fin;exact gf (gf (fin _ _ now))
end
noncomputable def dd:List Int->List Int
 | []=>[]
 |k::r=>if k∈dd r then dd r else k::dd r
theorem fU :∀{l},k∈dd l ↔ k∈l
 | []=>Iff.rfl
 |x::r=>by
  show k∈(if x∈dd r then dd r else x::dd r) ↔ _;have ih:=@fU k r;by_cases h:x∈dd r
  .rw[if_pos h,ih,tf];exact⟨.inr,λz=>z.elim (λe=>by rw[e];exact fU.mp h) id⟩
  .simp_all
theorem dd_nodup:∀l,(dd l).Nodup
 | []=>K5
 |x::r=>by
  show(if x∈dd r then dd r else x::dd r).Nodup;by_cases h:x∈dd r
  .rw[if_pos h];exact dd_nodup r
  .rw[if_neg h];exact Kh.mpr ⟨h,dd_nodup r⟩
theorem yw:∀l,(dd l).length<=l.length
 | []=>gx _
 |x::r=>by
  show(if x∈dd r then dd r else x::dd r).length<=_;have:=yw r
  grind
def BI(xs:List Int):(range xs.length).map (λi=>xs.getD i 0)=xs:=by
 apply M7;intro i;by_cases q:i<xs.length
 .simp_all
 .simp_all
def But(z:List Addr)(s s':Shared):Prop:=
 ∃h' tk,s'={ s with heap:=h',toks:=tk }/\∀b o,b∉z->s.heap.get? b=some o->h'.get? b=some o
theorem But.on(x:But Y s s')(y:But vs s' J)(hs:∀b∈Y,b∈vs):But vs s J:=by
 obtain⟨h1,t1,rfl,Z⟩:=x;obtain⟨h2,t2,rfl,k2⟩:=y;exact⟨h2,t2,rfl,λb o U e=>k2 b o U (Z b o (λz=>U (hs b z)) e)⟩
section
variable{P:Program}{w:World}{A:Around}{R:Result->Shared->Prop}{I S:Addr}{fp wr:List Addr}{n:Nat}{Pv:Nat->Value->Prop}{St:Nat->Heap->Prop}
noncomputable abbrev upd (S I:Addr):Code:=.builtin "set.update.loop" ⟨[.ref S,.ref I],[]⟩
def rE (h:wpAny (model P w) A.in1 (pyNext (.ref I)) (λv s'=>match v with
   |none=>R (.ok (.ret .none)) s'
   |some x=>wpAny (model P w) A.in1 (setAdd S x) (λ_ z=>codeAny (model P w) A (upd S I) R z) (λe z=>R (.error e) z) s') (λe s'=>R (.error e) s') s) :
  codeAny (model P w) A (upd S I) R s:=by
 have J:=PyProof.Rows.F.plain_set_update_loop;apply Mq PyProof.Rows.F.entry_set_update_loop;rw[Mr J];apply eh (m:=pyNext _);refine Kd h (λv s' hv=>?_) λ_ _ x=>x
 cases v with
 |none=>exact gf hv
 |some x =>
  refine eh (Kg (Kd hv (λ_ z hc=>?_) λ_ _ x=>x));exact gf ⟨Mj J _,hc⟩
def add_int(g:b_ P w s.heap S ks)(room:ks.length+1<scanBound) 
  (h:∀b s',But [S] s s'->b_ P w s'.heap S (if k∈ks then ks else k::ks)->(∀b,b≠S->s'.heap.get? b=s.heap.get? b)->Q b s'):wpAny (model P w) B (setAdd S (.int k t)) Q E s:=by
 refine Kg (eh ((intKind P w).pyHash (M1 _ _ _ _) ?_));refine oW g room λh' b z g'=>h b _ ⟨h',_,rfl,λc o hc e=>?_⟩ g' λc hc=>?_
 .rw[z.2 c (by simpa using hc)];exact e
 .exact z.2 c hc
theorem u7(W:Walks P w A.in1 I fp wr n Pv St)(Y:S∉fp)(xs:List Int)(hn:xs.length=n)(hv:∀i v,Pv i v->∃t,v=.int (xs.getD i 0) t)(hb:n+1<scanBound) :
  ∀m i s,i+m=n->St i s.heap->b_ P w s.heap S (dd (xs.take i).reverse)->(∀s',But (S::wr) s s'->b_ P w s'.heap S (dd xs.reverse)->R (.ok (.ret .none)) s') ->
   codeAny (model P w) A (upd S I) R s
 |0,i,s,e,st,g,h=>by
  have hi:i=n:=e;subst hi;refine rE (W.done s _ _ st λh' tk kp=>h _ ⟨h',tk,rfl,λb o J=>kp b o λz=>J (.tail _ z)⟩ ?_);rw[MW (by omega)]at g;exact g.at λo=>kp S o λz=>Y (W.sub S z)
 |m+1,i,s,e,st,g,h=>by
  have hi:i<n:=by omega
  refine rE (W.item i s _ _ hi st λv h1 U pv Z kp=>?_);obtain⟨t,rfl⟩:=hv i v pv;have b1:But wr s { s with heap:=h1,toks:=U }:=⟨h1,U,rfl,kp⟩;have l:(dd (xs.take i).reverse).length+1<scanBound:=by
   have:=yw (xs.take i).reverse;simp at this;omega
  refine add_int (g.at λo=>kp S o λz=>Y (W.sub S z)) l λ_ s2 b2 g2 ao=>?_
  refine u7 W Y xs hn hv hb m _ s2 (by omega) (W.frame _ h1 _ Z λb J o e'=>?_) ?_ λs3 b3 g3=>h s3 ?_ g3
  .rw[ao b λz=>Y (z▸J)];exact e'
  .have:xs.take (i+1)=xs.take i++[xs.getD i 0]:=by
    simp_all
   rw[this,reverse_append];exact g2
  .exact(b1.on (b2.on b3 (by simp)) λb z=>.tail _ z)
end
section
variable{P:Program}{w:World}{A:Around}{E:Value->Shared->Prop}{s:Shared}
def cZ(h:Q (byT w) s):wpAny (model P w) A setsByText Q E s:=
  eh (Na (gf h))
noncomputable abbrev bp (w:World):Obj:={ cls:=.type "set",dict:=none,data:=.set #[] 0 (.fresh 0 0 (!byT w)) }
noncomputable abbrev be(w:World)(s:Shared):Shared:={ s with heap:=s.heap.push (bp w) }
def qg (h:Q (.ref s.heap.objs.size) (be w s)):wpAny (model P w) A (newSet (.type "set")) Q E s:=by
 refine eh (cZ ?_);exact eh (wpAny_alloc (gf h))
def rF(h:Heap):b_ P w (h.push (bp w)) h.objs.size []:=
 Arr.set (es:=#[]) (ep:=0) ⟨λe z=>by simp at z,by simp,K5,by decide,rfl,Gd.fresh _⟩ (pe _ rfl) ⟨rfl,rfl,rfl⟩ rfl
def BJ (x) {Q:Value->Shared->Prop} (h:Q (.ref s.heap.objs.size) (be w s)):codeAny (model P w) A (.call (.builtin "set.__new__") ⟨[.type "set",x],[]⟩) (wants Q E) s:=by
 refine codeAny_call_builtin PySem.F.plain_set_new PySem.F.entry_set_new (MK (PySem.F.newCall_set_1 x) ?_);have cls:∀{R}{F},R (.type "set",[x]) s->wpAny (model P w) A.in1 (Builtin.Frozenset.newClass "set" ⟨[.type "set",x],[]⟩) R F s:=by
  intro R F J;have z:=sub_set_self
  wp_walk
  exact J
 exact eh (cls (eh (qg (gf h))))
def yx(x){Q:Value->Shared->Prop}
  (hU:∀B,B.handled=A.handled->wpAny (model P w) B (Builtin.Frozenset.updateFrom "set.__init__" s.heap.objs.size x) (λ_ s'=>Q (.ref s.heap.objs.size) s') E (be w s)) :
  wpAny (model P w) A (call (.type "set") [x]) Q E s:=by
 have Y:(be w s).heap.get? s.heap.objs.size=some (bp w):=pe _ rfl;have init:codeAny (model P w) A.in1 (.call (.builtin "set.__init__") ⟨[.ref s.heap.objs.size,x],[]⟩) (wants (λr s'=>r=.none/\Q (.ref s.heap.objs.size) s') E) (be w s):=by
  refine codeAny_call_builtin PySem.F.called_set.init.plain PySem.F.entry_set_init (check_set_init_1 ⟨_,Y,rfl⟩ ?_);have hu:=hU A.in1.in1 (by simp);generalize hw:be w s=s1 at Y hu ⊢;generalize s.heap.objs.size=S at Y hu ⊢;obtain⟨hp,g,d,tk,os⟩:=s1;unfold Builtin.«set.__init__» noKeywords;generalize Builtin.Frozenset.updateFrom=U at hu ⊢
  wp_walk
  exact Kd hu (λ_ s' hq=>gf ⟨rfl,hq⟩) λ_ _ z=>z
 have Z:=PySem.F.called_set;refine wpAny_call (codeAny_of_tree (gf ⟨Code.quiet_builtin _ (by decide +kernel),Mq PySem.F.entry_type_call ?_⟩));rw[Around.under_plain (weight_type_call_type "set" [x] []) rfl];have f1:=Z.notType;have f2:=Z.canCreate;have f3:=Z.made;have f4:=Z.sub
 have f5:=PySem.F.typeCall_set_1 x;obtain⟨c,tl,f6⟩:=Z.mro
 repeat (any_goals (first|assumption|wp_step))
 refine LJ (BJ x (E:=E) (Q:=λv s'=>v=.ref s.heap.objs.size/\s'=be w s) ⟨rfl,rfl⟩) λr s1 J=>?_
 match r,J with
 | .error e,J=>exact J
 | .ok (.ret v),J =>
  obtain⟨rfl,rfl⟩:=J;have f7:Shared.TypeIs (be w s) (.ref s.heap.objs.size) "set":=⟨_,Y,rfl⟩;have f8:=Z.init.lookup;have f9:=Z.init.bind (.ref s.heap.objs.size)
  repeat (any_goals (first|assumption|wp_step))
  refine LJ init λr s2 J=>?_
  match r,J with
  | .error e,J=>exact J
  | .ok (.ret v),J =>
   obtain⟨rfl,hq⟩:=J;show wpAny _ A.in1 (pure (some Value.none)) _ _ _;exact gf (gf hq)
def mM {o:Obj} (x:s.heap.get? l=some o) (hc:o.cls=.type z) (hd:(Value.type z==.type "dict")=false)
  (U:isSubtype (.type z) (.type "set")=pure false) (Y:isSubtype (.type z) (.type "frozenset")=pure false)
  {ns:List Int}{Pv:Nat->Value->Prop}{St:Nat->Heap->Prop} (hv:∀i v,Pv i v->∃t,v=.int (ns.getD i 0) t) (J:ns.length+1<scanBound) {Z:Obj}
  (W:∀B,B.handled=A.handled->Walks P w B ((be w s).heap.objs.size) [(be w s).heap.objs.size,l] [(be w s).heap.objs.size] ns.length Pv St)
  (it:∀B E' R,R (.ref (be w s).heap.objs.size) { s with heap:=(be w s).heap.push Z }->wpAny (model P w) B (pyIter (.ref l)) R E' (be w s))
  (st:St 0 ((be w s).heap.push Z)) {Q:Value->Shared->Prop}
  (h:∀h' tk,b_ P w h' s.heap.objs.size (dd ns.reverse)->(∀b o,s.heap.get? b=some o->h'.get? b=some o)->Q (.ref s.heap.objs.size) { s with heap:=h',toks:=tk }) :
  wpAny (model P w) A (call (.type "set") [.ref l]) Q E s:=by
 have z1:(be w s).heap.objs.size=s.heap.objs.size+1:=J4 ..;have ao:∀b,b<s.heap.objs.size->b∉[s.heap.objs.size,(be w s).heap.objs.size]:=λb J=>by
  rw[z1];simp only[tf,Lb,LV,not_or];exact⟨tr J,tr (J9 J)⟩
 have kept:∀b o,s.heap.get? b=some o->((be w s).heap.push Z).get? b=some o:=λb o e=>gk _ (gk _ e)
 refine yx _ λB hB=>?_
 have hT:(be w s).TypeIs (.ref l) z:=⟨o,gk _ x,hc⟩;unfold Builtin.Frozenset.updateFrom Builtin.Frozenset.isAnySet;refine eh (eh (KJ hT U ?_));show wpAny _ _ (isInstance (.ref l) (.type "frozenset")) _ _ _;refine KJ hT Y ?_;rw[if_neg mu];refine eh (LK hT ?_);rw[hd,if_neg mu];refine eh (it _ _ _ (eh (wpAny_runValue ?_)));have hS:s.heap.objs.size∉[(be w s).heap.objs.size,l]:=by
  have:=pb x;rw[z1];simp only[tf,Lb,LV,not_or];exact⟨tr (Lq _),KG this⟩
 refine u7 (W _ (by simpa using hB)) hS ns rfl hv J ns.length 0 _ (by omega) st ((rF s.heap).at λo e=>gk _ e) ?_;rintro s' ⟨h',tk,rfl,kp⟩ g;exact gf (h h' tk g λb o e=>kp b o (ao b (pb e)) (kept b o e))
def set_list 
  (U:A.handled=none) (Y:s.heap.IsList l items) (hi:IntsAre items.toList ns) (Z:items.size+1<scanBound)
  (h:∀h' tk,b_ P w h' s.heap.objs.size (dd ns.reverse)->(∀b o,s.heap.get? b=some o->h'.get? b=some o)->Q (.ref s.heap.objs.size) { s with heap:=h',toks:=tk }) :
  wpAny (model P w) A (call (.type "set") [.ref l]) Q E s:=by
 have z:items.size=ns.length:=by simpa using IntsAre.length hi
 obtain⟨o,ho,hc,hr⟩:=Y;have J:(be w s).heap.IsList l items:=⟨o,gk _ ho,hc,hr⟩;refine mM ho hc (by decide) PySem.F.sub_list_set PySem.F.sub_list_frozenset (jP hi) (z▸Z) (λB hB=>z▸Walks.list (hB.trans U) _ l ?_ items)
  (λB E' R=>LC J) ⟨⟨_,pe _ rfl,rfl,rfl⟩,J.push _⟩ h
 exact tr (Nat.lt_of_lt_of_eq (J9 (pb ho)) (J4 ..).symm)
def wJ 
  (U:A.handled=none) (Y:s.heap.IsTuple l items) (hi:IntsAre items.toList ns) (Z:items.size+1<scanBound)
  (h:∀h' tk,b_ P w h' s.heap.objs.size (dd ns.reverse)->(∀b o,s.heap.get? b=some o->h'.get? b=some o)->Q (.ref s.heap.objs.size) { s with heap:=h',toks:=tk }) :
  wpAny (model P w) A (call (.type "set") [.ref l]) Q E s:=by
 have z:items.size=ns.length:=by simpa using IntsAre.length hi
 obtain⟨o,ho,hc,hr⟩:=Y;have J:(be w s).heap.IsTuple l items:=⟨o,gk _ ho,hc,hr⟩;refine mM ho hc (by decide) PySem.F.sub_tuple_set PySem.F.sub_tuple_frozenset (jP hi) (z▸Z) (λB hB=>z▸Walks.tuple (hB.trans U) _ l ?_ items)
  (λB E' R=>L6 J) ⟨⟨_,pe _ rfl,rfl,rfl⟩,J.push _⟩ h
 exact tr (Nat.lt_of_lt_of_eq (J9 (pb ho)) (J4 ..).symm)
end
set_option maxRecDepth 100000 in
def mN:entryFor table "set.__iter__"=some Builtin.«frozenset.__iter__»:=
 entryFor_alias (id':="frozenset.__iter__") (by kernel_rfl) rfl (by decide +kernel) (by kernel_rfl)
set_option maxRecDepth 100000 in
def oX:Manifest.owners.lookup (String.ofList ['r','o','t','a','r','e','t','i','_','t','e','s'].reverse)=some Manifest.sig_set_iterator:=by kernel_rfl
set_option maxRecDepth 100000 in
def aN:Slot "set_iterator" "__next__" "set_iterator.__next__":=
 .of (owner:="set_iterator") (n:="__next__") (by rw[Ms,LO];kernel_rfl) (by decide +kernel) (by decide +kernel) (by decide +kernel)
  (by first|exact .inl (by decide +kernel)|exact .inr (by decide +kernel)) (by rw[MG];kernel_rfl)
set_option maxRecDepth 100000 in
def dh:entryFor table "set_iterator.__next__"=some Builtin.«set_iterator.__next__»:=entryFor_of_tree (by kernel_rfl)
set_option maxRecDepth 100000 in
def dP (a):argsOk "set_iterator.__next__" ⟨[a],[]⟩:=by
 unfold argsOk;rw[signature?_of (n:=['_','_','t','x','e','n','_','_']) (by kernel_rfl) oX];kernel_rfl
set_option maxRecDepth 100000 in
def jh:Slot "set_iterator" "__iter__" "set_iterator.__iter__":=
 .of (owner:="set_iterator") (n:="__iter__") (by rw[Ms,LO];kernel_rfl) (by decide +kernel) (by decide +kernel) (by decide +kernel)
  (by first|exact .inl (by decide +kernel)|exact .inr (by decide +kernel)) (by rw[MG];kernel_rfl)
set_option maxRecDepth 100000 in
def mO:entryFor table "set_iterator.__iter__"=some Builtin.«dict_keyiterator.__iter__»:=
 entryFor_alias (id':="dict_keyiterator.__iter__") (by kernel_rfl) rfl (by decide +kernel) (by kernel_rfl)
set_option maxRecDepth 100000 in
def oE (a):argsOk "set_iterator.__iter__" ⟨[a],[]⟩:=by
 unfold argsOk;rw[signature?_of (n:=['_','_','r','e','t','i','_','_']) (by kernel_rfl) oX];kernel_rfl
def yy {s:Shared}{I:Addr}{Q:Value->Shared->Prop} (z:s.TypeIs (.ref I) "set_iterator") (h:Q (.ref I) s):wpAny (model P w) A (pyIter (.ref I)) Q E s:=by
 refine MX z jh (J7 jh z mO ?_ (oE _));exact gf ⟨_,rfl,"set_iterator",_,z,aN.lookup,h⟩
theorem gX{α:Type}:∀{l}{i}{x:α},l[i]?=some x->(x::l.eraseIdx i).Perm l
 | [],i,x,h=>by simp at h
 |a::l,0,x,h=>by
  simp_all
 |a::l,i+1,x,h=>by
  have h':l[i]?=some x:=by simpa using h
  exact(Perm.swap a x _).trans (.cons a (gX h'))
theorem u8(next):∀z k left (out:Array α),z=left.length->(pickOrder.go next z k left out).toList.Perm (out.toList++left)
 |0,k,left,out,h=>by
  have:=Kn.mp h.symm;subst this;rw[K0];exact .refl _
 |z+1,k,left,out,h=>by
  have J:next k % left.length<left.length:=Nj _ (by omega);obtain⟨x,hx⟩:∃x,left[next k % left.length]?=some x:=⟨_,JR J⟩;have e:pickOrder.go next (z+1) k left out=pickOrder.go next z (k+1) (left.eraseIdx (next k % left.length)) (out.push x):=by
   show(match left[next k % left.length]? with
    |some x=>pickOrder.go next z _ _ _
    |none=>out)=_
   rw[hx]
  rw[e];refine(u8 next z _ _ _ (by rw[LP J];omega)).trans ?_;rw[Array.toList_push,KS];exact Perm.append_left _ (gX hx)
def oY(next)(xs:Array α):(pickOrder next xs).toList.Perm xs.toList:=by
 have:=u8 next xs.size 0 xs.toList #[] (by simp);simpa[pickOrder]using this
section
variable{M:Model}{A:Around}{E:Value->Shared->Prop}{s:Shared}
def tR{n:Nat}{Q:Nat->Shared->Prop}(z:n≠0)(h:∀i d',i<n->Q i { s with drawn:=d' }):wpAny M A (choose src n) Q E s:=λ_ _ _ =>
 ⟨z,h _ _ (Nj _ (Nat.pos_of_ne_zero z))⟩
theorem ju :∀n xs s {Q:List α->Shared->Prop},n=xs.length->(∀ys d',ys.Perm xs->Q ys { s with drawn:=d' })->wpAny M A (drawOrder n xs) Q E s
 |0,xs,s,Q,h,q=>by
  have:=Kn.mp h.symm;subst this;exact gf (q [] s.drawn (.refl _))
 |n+1,[],s,Q,h,q=>by simp at h
 |n+1,x::r,s,Q,h,q=>by
  refine eh (tR (by simp) λi d' hi=>?_);obtain⟨y,J⟩:∃y,(x::r)[i]?=some y:=⟨_,JR hi⟩;rw[J];refine eh (ju n _ _ (by rw[LP hi];simp at h ⊢;omega) λys z U=>gf ?_);exact q (y::ys) z ((Perm.cons y U).trans (gX J))
end
def SIt(h:Heap)(I S:Addr)(o:Obj)(f:Value)(i n ep:Nat):Prop:=
 h.get? I=some { cls:=.type "set_iterator",dict:=none,data:=.fields #[f,.int i 0,.ref S,.int n 0,.int ep 0],slots:=#[] }/\h.get? S=some o
theorem SIt.type {s:Shared} (h:SIt s.heap I S o f i n ep):s.TypeIs (.ref I) "set_iterator":=⟨_,h.1,rfl⟩
section
variable{P:Program}{w:World}{A:Around}{E:Value->Shared->Prop}{s:Shared}
def fk(ho:s.heap.get? S=some o)(hd:o.data=.set es ep t)(z:t.fits es.size=true)(h:Q es s) :
  wpAny (model P w) A (setEntries S) Q E s:=MA ho hd z h
def oZ{ep slot i:Nat}{t:SetTable}{Q:Option (Value×Nat)->Shared->Prop}(ho:s.heap.get? S=some o)(hd:o.data=.set es ep t)(z:t.fits es.size=true)(J:byT w=true)
  (h:Q (((pickOrder (w.params.setOrder S ep) es)[i]?).map λe=>(e.2,slot)) s):wpAny (model P w) A (setNext S slot i ep) Q E s:=by
 unfold setNext;refine eh (J1 ho hd z ?_);dsimp only;refine eh (cZ ?_);rw[if_pos J];simp only[LG,JV,KH];refine eh ?_;unfold setWalk;refine eh (J1 ho hd z ?_);dsimp only;refine eh (cZ ?_);rw[if_pos J];refine eh (Na (gf ?_));exact gf h
def mP{t:SetTable}{Q:Option (Value×Nat)->Shared->Prop}(ho:s.heap.get? S=some o)(hd:o.data=.set es ep t)(Y:t.fits es.size=true)(Z:byT w=false)
  (J:(!t.plain&&decide (es.size > 1))=false) (z:t.led=true)
  (h:Q (match es[SetTable.below t.place slot]?,t.place[SetTable.below t.place slot]? with|some (_,x),some j=>some (x,j+1)|_,_=>none) s):wpAny (model P w) A (setNext S slot i ep) Q E s:=by
 unfold setNext;refine eh (J1 ho hd Y ?_);dsimp only;refine eh (cZ ?_);rw[if_neg (by rw[Z];simp)];refine J3 (λU=>absurd (show(!t.plain&&decide (es.size > 1))=true from U) (by rw[J];simp)) (λ_=>?_);refine eh ?_;show wpAny _ _ (if (!t.led&&!es.isEmpty)=true then _ else _) _ _ s;rw[if_neg (by rw[z];simp)];exact gf (gf h)
def yz(z:oC xs)(hi:i<xs.size):SetTable.below xs (xs.getD i 0+1)=i+1:=by
 obtain⟨h1,h2,J⟩:=jr z _;have a:i<SetTable.below xs (xs.getD i 0+1):=by
  by_cases q:SetTable.below xs (xs.getD i 0+1)<=i
  .have:=J i q hi;omega
  .omega
 have b:SetTable.below xs (xs.getD i 0+1)<=i+1:=by
  by_cases q:i+1<SetTable.below xs (xs.getD i 0+1)
  .have:=h2 _ q;have:=z i (i+1) (by omega) (by omega);omega
  .omega
 omega
def tU(xs)(z:oC xs):SetTable.below xs 0=0:=by
 obtain⟨h1,h2,J⟩:=jr z 0;by_cases q:0<SetTable.below xs 0
 .have:=h2 0 q;omega
 .omega
end
section
variable{P:Program}{w:World}{A:Around}{E:Value->Shared->Prop}{s:Shared}{I S:Addr}{o:Obj}{es:Array (Int×Value)}{t:SetTable}{i n ep:Nat}
def oF{slot nx:Nat}{x:Value}{Q:Option Value->Shared->Prop}(z:SIt s.heap I S o (.int slot 0) i n ep)(hd:o.data=.set es ep t)(hf:t.fits es.size=true)(hn:es.size=n)(Y:S≠I)
  (Z:∀A' s' Q' E',s'.heap.get? S=some o->Q' (some (x,nx)) s'->wpAny (model P w) A' (setNext S slot i ep) Q' E' s')
  (hQ:∀h',SIt h' I S o (.int nx 0) (i+1) n ep->Heap.SameBut I s.heap h'->Q (some x) { s with heap:=h' }):wpAny (model P w) A (pyNext (.ref I)) Q E s:=by
 unfold pyNext;refine eh (Mk (Km (name:=Str.ofString "__next__") z.type aN (J7 aN z.type dh ?_ (dP _))));unfold Builtin.«set_iterator.__next__»;refine eh (m:=slotArgs "__next__" 0 _) (gf ?_);refine eh (MH z.1 rfl ?_);dsimp only;refine eh (fk z.2 hd hf ?_);rw[if_neg (by simp[hn])]
 try dsimp only
 simp only[Int.toNat_natCast];refine eh (Z _ _ _ _ z.2 ?_);dsimp only;refine eh (Lf z.1 (by simp) λh1 e1 J=>?_);refine eh (Lf e1 (by simp) λh2 e2 U=>?_);refine gf ⟨x,rfl,gf (hQ h2 ⟨?_,?_⟩ (J.trans U))⟩
 .simpa[rawInt]using e2
 .exact((J.trans U).2 S Y).trans z.2
def oG{slot:Nat}{Q:Option Value->Shared->Prop}(Y:A.handled=none)(z:SIt s.heap I S o (.int slot 0) i n ep)(hd:o.data=.set es ep t)(hf:t.fits es.size=true)(hn:es.size=n)
  (J:∀A' s' Z E',s'.heap.get? S=some o->Z none s'->wpAny (model P w) A' (setNext S slot i ep) Z E' s')
  (hQ:∀h',(∀b o,b≠I->s.heap.get? b=some o->h'.get? b=some o)->Q none { s with heap:=h' }):wpAny (model P w) A (pyNext (.ref I)) Q E s:=by
 unfold pyNext;refine eh (Mk (Km (name:=Str.ofString "__next__") z.type aN (J7 aN z.type dh ?_ (dP _))));unfold Builtin.«set_iterator.__next__»;refine eh (m:=slotArgs "__next__" 0 _) (gf ?_);refine eh (MH z.1 rfl ?_);dsimp only;refine eh (fk z.2 hd hf ?_);rw[if_neg (by simp[hn])]
 try dsimp only
 simp[Int.toNat_natCast];refine eh (J _ _ _ _ z.2 ?_);dsimp only;refine eh (Lf z.1 (by simp) λh1 e1 U=>?_);refine kI (v:=.none) (vs:=#[]) (it:=0) (Q:=λ_ _=>True) (by first|exact Y|simpa using Y) λe s' kp ⟨h',eq⟩ hT=>?_
 subst eq;refine eh (KJ hT isSubtype_stop ?_);exact gf (hQ h' λb o hb q=>kp b o ((U.2 b hb).trans q))
def mQ{pn place:Nat}{pt:Tok}{hx:Int}{x:Value}{Q:Option Value->Shared->Prop}(z:SIt s.heap I S o (.ref Tp) i n ep)(hd:o.data=.set es ep t)(hf:t.fits es.size=true)(hn:es.size=n)(U:S≠I)
  (Y:s.heap.get? Tp=some ot) (Z:ot.data=.seq ps pn) (hp:ps[i]?=some (.int place pt)) (ao:es[place]?=some (hx,x))
  (hQ:∀h',SIt h' I S o (.ref Tp) (i+1) n ep->Heap.SameBut I s.heap h'->Q (some x) { s with heap:=h' }):wpAny (model P w) A (pyNext (.ref I)) Q E s:=by
 unfold pyNext;refine eh (Mk (Km (name:=Str.ofString "__next__") z.type aN (J7 aN z.type dh ?_ (dP _))));unfold Builtin.«set_iterator.__next__»;refine eh (m:=slotArgs "__next__" 0 _) (gf ?_);refine eh (MH z.1 rfl ?_);dsimp only;refine eh (fk z.2 hd hf ?_);rw[if_neg (by simp[hn])]
 try dsimp only
 refine eh (wpAny_seqItems Y Z ?_);dsimp only;simp only[Int.toNat_natCast,hp];refine eh ?_;unfold setNextDrawn;refine eh (J1 z.2 hd hf ?_);dsimp only;simp only[LG,JV,KH,Int.toNat_natCast,ao];refine gf ?_;refine eh (Lf z.1 (by simp) λh1 e1 J=>?_);refine gf ⟨x,rfl,gf (hQ h1 ⟨?_,?_⟩ J)⟩
 .simpa[rawInt]using e1
 .exact(J.2 S U).trans z.2
def mR(hh:A.handled=none)(z:SIt s.heap I S o (.ref Tp) i n ep)(hd:o.data=.set es ep t)(hf:t.fits es.size=true)(hn:es.size=n)
  (J:s.heap.get? Tp=some ot) (U:ot.data=.seq ps pn) (hp:ps[i]?=none)
  (hQ:∀h',(∀b o,b≠I->s.heap.get? b=some o->h'.get? b=some o)->Q none { s with heap:=h' }):wpAny (model P w) A (pyNext (.ref I)) Q E s:=by
 refine eh (Mk (Km z.type aN (J7 aN z.type dh ?_ (dP _))));refine eh (gf ?_);refine eh (MH z.1 rfl ?_);dsimp only;refine eh (fk z.2 hd hf ?_);rw[if_neg (by simp[hn])]
 try dsimp only
 refine eh (wpAny_seqItems J U ?_);simp[Int.toNat_natCast,hp];refine eh (Lf z.1 (by simp) λh1 e1 Y=>?_);refine eh (Lf e1 (by simp) λh2 e2 Z=>?_);refine kI (v:=.none) (vs:=#[]) (it:=0) (Q:=λ_ _=>True) (by first|exact hh|simpa using hh) λe s' kp ⟨h',eq⟩ hT=>?_
 subst eq;refine eh (KJ hT isSubtype_stop ?_);exact gf (hQ h' λb o hb q=>kp b o (((Y.trans Z).2 b hb).trans q))
end
structure qh(P:Program)(w:World)(I:Addr)(fp:List Addr)(order:List Int)(St:Nat->Heap->Prop):Prop where
 mem:I∈fp
 ty:∀i h,St i h->∃o,h.get? I=some o/\o.cls=.type "set_iterator"
 frame:∀i h h',St i h->(∀b∈fp,∀o,h.get? b=some o->h'.get? b=some o)->St i h'
 item:∀(A:Around) i (s:Shared) (Q:Option Value->Shared->Prop) (E:Value->Shared->Prop),i<order.length->St i s.heap ->
  (∀t h',St (i+1) h'->(∀b o,b≠I->s.heap.get? b=some o->h'.get? b=some o)->Q (some (.int (order.getD i 0) t)) { s with heap:=h' })->wpAny (model P w) A (pyNext (.ref I)) Q E s
 done:∀(A:Around) (s:Shared) (Q:Option Value->Shared->Prop) (E:Value->Shared->Prop),A.handled=none->St order.length s.heap ->
  (∀h',(∀b o,b≠I->s.heap.get? b=some o->h'.get? b=some o)->Q none { s with heap:=h' })->wpAny (model P w) A (pyNext (.ref I)) Q E s
def qh.walks{St:Nat->Heap->Prop}(W:qh P w I fp order St)(Z:A.handled=none) :
  Walks P w A I fp [I] order.length (λi v=>∃t,v=.int (order.getD i 0) t) St where
 sub:=λb J=>by rw[JY.mp J];exact W.mem
 frame:=W.frame
 item:=λi s Q E hi st U=>W.item A i s Q E hi st λt h' Y kp=>U _ h' s.toks ⟨t,rfl⟩ Y λb o J e=>kp b o (λz=>J (by rw[z];exact JY.mpr rfl)) e
 done:=λs Q E st U=>W.done A s Q E Z st λh' kp=>U h' s.toks λb o J e=>kp b o (λz=>J (by rw[z];exact JY.mpr rfl)) e
 self:=λi s Q E st h=>by
  obtain⟨o,e,c⟩:=W.ty i _ st;exact yy ⟨o,e,c⟩ h
section
variable{P:Program}{w:World}{A:Around}{E:Value->Shared->Prop}{s:Shared}
def jR{l:List (Int×Value)}(h:l[i]?=some e):(l.map λe=>numOf e.2).getD i 0=numOf e.2:=by simp_all
set_option maxRecDepth 100000 in
def yA(g:b_ P w s.heap S ks)
  (hQ:∀(I:Addr) h' d' fp J St,J.Perm ks->(∀b o,s.heap.get? b=some o->h'.get? b=some o)->s.heap.objs.size<=I->(∀b∈fp,b=S\/s.heap.objs.size<=b)->(∀b∈fp,b<h'.objs.size) ->
   qh P w I fp J St->St 0 h'->Q (.ref I) { s with heap:=h',drawn:=d' }):wpAny (model P w) A (pyIter (.ref S)) Q E s:=by
 obtain⟨o,es,ep,t,ho,cP,hd,cl,bB,df,hb,Z,b0⟩:=g;have hT:s.TypeIs (.ref S) "set":=⟨o,ho,cP.1⟩;have aO:=pb ho;have cS:t.place.size=es.size:=by simp[SetTable.fits]at Z;exact Z.1
 have c6:es.size=ks.length:=by have:=bB.length_eq;simpa using this
 refine MX hT PySem.F.slot_set_iter (J7 PySem.F.slot_set_iter hT mN ?_ (PySem.F.args_set_iter_1 _));unfold Builtin.«frozenset.__iter__»;refine eh (m:=Builtin.Frozenset.slot0 "__iter__" _) (gf ?_);refine eh (m:=Builtin.Frozenset.sizeOf S) (eh (fk ho hd Z (gf ?_)));refine eh (m:=setDrawn S) ?_;unfold setDrawn;refine eh (J1 ho hd Z ?_);dsimp only;refine eh (cZ (gf ?_));have Y:∀(J:List (Int×Value)) (fs:Nat->Nat),J.Perm es.toList->fs 0=0 ->
   (∀A' i (s':Shared) (Q':Option (Value×Nat)->Shared->Prop) (E':Value->Shared->Prop) e,J[i]?=some e->s'.heap.get? S=some o->Q' (some (e.2,fs (i+1))) s'->wpAny (model P w) A' (setNext S (fs i) i ep) Q' E' s') ->
   (∀A' s' Q' E',s'.heap.get? S=some o->Q' none s'->wpAny (model P w) A' (setNext S (fs J.length) J.length ep) Q' E' s') ->
   Q (.ref s.heap.objs.size) { s with heap:=s.heap.push { cls:=.type "set_iterator",data:=.fields #[.int 0 0,.int 0 0,.ref S,.int (es.size:Nat) 0,.int (ep:Nat) 0] } }:=by
  intro J fs hp h0 b1 cr;have hol:J.length=es.size:=by have:=hp.length_eq;simpa using this
  refine hQ s.heap.objs.size _ s.drawn [s.heap.objs.size,S] (J.map λe=>numOf e.2) (λi h=>SIt h s.heap.objs.size S o (.int (fs i) 0) i es.size ep) ((hp.map _).trans bB) (λb o e=>gk _ e) (gx _) (λb hb=>?_) (λb hb=>?_) ?_ ?_
  .rcases tf.mp hb with e|e
   .exact .inr (LM e.symm)
   .exact .inl (JY.mp e)
  .rw[J4];rcases tf.mp hb with e|e
   .rw[e];exact Lq _
   .rw[JY.mp e];exact J9 aO
  .refine⟨.head _,λi h st=>⟨_,st.1,rfl⟩,λi h h' st k=>⟨k _ (.head _) _ st.1,k _ (.tail _ (.head _)) _ st.2⟩,λA' i s' Q' E' hi st hq=>?_,λA' s' Q' E' hh st hq=>?_⟩
   .rw[nR]at hi;obtain⟨e,he⟩:∃e,J[i]?=some e:=⟨_,JR hi⟩;have hm:=hp.mem_iff.mp (K1 he);obtain⟨tk,hv⟩:=fc cl e hm;rw[jR he]at hq;refine oF (slot:=fs i) (nx:=fs (i+1)) (x:=e.2) st hd Z rfl (tr aO) (λb2 b3 b4 b5 a5 q=>b1 b2 i b3 b4 b5 e he a5 q) λh' cd sb=>?_
    rw[hv];exact hq tk h' cd λb o hb q=>(sb.2 b hb).trans q
   .rw[nR]at st;exact oG (slot:=fs J.length) hh st hd Z rfl (λb2 b3 b4 b5 a5 q=>cr b2 b3 b4 b5 a5 q) hq
  .refine⟨?_,gk _ ho⟩;rw[h0];exact pe _ rfl
 cases a6:byT w with
 |true =>
  simp only[LZ,MF,JV,KH];refine eh (gf ?_);refine eh (Lk ho hd Z ?_);refine eh (Kk (gf ⟨_,rfl,"set_iterator",_,⟨_,pe _ rfl,rfl⟩,aN.lookup,?_⟩));have q:=Y (pickOrder (w.params.setOrder S ep) es).toList (λ_=>0) (oY _ _) rfl
   (λA' i s' Q' E' e he ao q=>oZ ao hd Z a6 (by rw[<- Kj,he];exact q))
   (λA' s' Q' E' ao q=>oZ ao hd Z a6 (by rw[LB (by simp)];exact q))
  simpa[rawInt]using q
 |false =>
  cases a9:(!t.plain&&decide (es.size > 1))with
  |false =>
   refine J3 (λck=>absurd (show(!false&&(!t.plain&&decide (es.size > 1)))=true from ck) (by rw[a9];simp)) (λ_=>?_);refine eh (gf ?_);refine eh (Lk ho hd Z ?_);refine eh (Kk (gf ⟨_,rfl,"set_iterator",_,⟨_,pe _ rfl,rfl⟩,aN.lookup,?_⟩));have bA:t.led=true:=by rw[b0.led,a6];rfl
   have cC:∀i,i<=t.place.size->SetTable.below t.place (match i with|0=>0|j+1=>t.place.getD j 0+1)=i:=λi hi=>by
    cases i<;>first|exact tU _ b0.rise|exact yz b0.rise (by omega)
   have q:=Y es.toList (λi=>match i with|0=>0|j+1=>t.place.getD j 0+1) (.refl _) rfl
    (λA' i s' Q' E' e he ao q=>mP ao hd Z a6 a9 bA (by
     have hi:i<es.size:=by have:=(y1.mp he).1;simpa using this
     rw[cC i (by omega)];rw[<- Kj,he,L5 (by omega:i<t.place.size)];have e2:t.place.getD i 0=t.place[i]:=by simp[Array.getD,(by omega:i<t.place.size)]
     dsimp only at q ⊢;rw[e2]at q;exact q))
    (λA' s' Q' E' ao q=>mP ao hd Z a6 a9 bA (by
     rw[cC _ (by simp[cS]),LB (by simp)];exact q))
   simpa[rawInt]using q
  |true =>
   refine J3 (λ_=>?_) (λck=>absurd (show(!false&&(!t.plain&&decide (es.size > 1)))=true by rw[a9];rfl) ck);refine eh (ju _ _ _ (by simp) λz d' U=>?_);refine eh (wpAny_newTuple ?_ (by simp;have:=U.length_eq;simp at this;rw[this,Ke];unfold scanBound at hb;omega));refine eh (Lk (gk _ ho) hd Z ?_);refine eh (Kk (gf ⟨_,rfl,"set_iterator",_,⟨_,pe _ rfl,rfl⟩,aN.lookup,?_⟩));have dt:z.length=es.size:=by have:=U.length_eq;simpa using this
   have c1:∀p∈z,p<es.size:=λp hp=>by have:=U.mem_iff.mp hp;simpa using this
   have c2:((s.heap.push { cls:=.type "tuple",data:=.seq (map (λ(i:Nat)=>rawInt i) z).toArray }).push { cls:=.type "set_iterator",data:=.fields #[.ref s.heap.objs.size,.int 0 0,.ref S,.int (es.size:Nat) 0,.int (ep:Nat) 0] }).get? s.heap.objs.size=some { cls:=.type "tuple",data:=.seq (map (λ(i:Nat)=>rawInt i) z).toArray }:=
    gk _ (pe _ rfl)
   have q:=hQ (s.heap.push { cls:=.type "tuple",data:=.seq (map (λ(i:Nat)=>rawInt i) z).toArray }).objs.size
    ((s.heap.push { cls:=.type "tuple",data:=.seq (map (λ(i:Nat)=>rawInt i) z).toArray }).push { cls:=.type "set_iterator",data:=.fields #[.ref s.heap.objs.size,.int 0 0,.ref S,.int (es.size:Nat) 0,.int (ep:Nat) 0] }) d'
    [(s.heap.push { cls:=.type "tuple",data:=.seq (map (λ(i:Nat)=>rawInt i) z).toArray }).objs.size,S,s.heap.objs.size]
    (z.map λp=>(es.toList.map λe=>numOf e.2).getD p 0)
    (λi h=>SIt h (s.heap.push { cls:=.type "tuple",data:=.seq (map (λ(i:Nat)=>rawInt i) z).toArray }).objs.size S o (.ref s.heap.objs.size) i es.size ep/\h.get? s.heap.objs.size=some { cls:=.type "tuple",data:=.seq (map (λ(i:Nat)=>rawInt i) z).toArray })
    ?p1 (λb o e=>gk _ (gk _ e)) (by rw[J4];exact Kr _) ?p2 ?p3 ?p4 ⟨⟨pe _ rfl,gk _ (gk _ ho)⟩,c2⟩
   .simpa[rawInt]using q
   case p1 =>
    have e1:(es.toList.map λe=>numOf e.2).length=es.size:=by simp
    have h1:=U.map λp=>(es.toList.map λe=>numOf e.2).getD p 0
    rw[<- e1,BI]at h1;exact h1.trans bB
   case p2 =>
    simp_all
   case p3 =>
    intro b hb;rw[J4];simp only[tf,Lb,LV]at hb;rcases hb with e|e|e
    .rw[e];exact Lq _
    .rw[e,J4];exact J9 (J9 aO)
    .rw[e,J4];exact J9 (Lq _)
   case p4 =>
    refine⟨.head _,λi h st=>⟨_,st.1.1,rfl⟩,λi h h' st k=>⟨⟨k _ (.head _) _ st.1.1,k _ (.tail _ (.head _)) _ st.1.2⟩,k _ (.tail _ (.tail _ (.head _))) _ st.2⟩,λA' i s' Q' E' hi st hq=>?_,λA' s' Q' E' hh st hq=>?_⟩
    .rw[nR]at hi;obtain⟨p,hp⟩:∃p,z[i]?=some p:=⟨_,JR hi⟩;have c3:=c1 p (K1 hp);obtain⟨e,he⟩:∃e,es.toList[p]?=some e:=⟨_,JR (by simpa using c3)⟩;obtain⟨tk,hv⟩:=fc cl e (K1 he);have e3:(z.map λp=>(es.toList.map λe=>numOf e.2).getD p 0).getD i 0=numOf e.2:=by
      rw[Kt,JZ,hp];exact jR he
     rw[e3]at hq;refine mQ (place:=p) (pt:=0) (hx:=e.1) (x:=e.2) st.1 hd Z rfl (by rw[J4];exact tr (J9 aO)) st.2 rfl (by simp[hp,rawInt]) (by rw[<- Kj,he]) λh' cd sb=>?_
     rw[hv];exact hq tk h' ⟨cd,(sb.2 _ (by rw[J4];exact tr (Lq _))).trans st.2⟩ λb o hb q=>(sb.2 b hb).trans q
    .rw[nR]at st;exact mR hh st.1 hd Z rfl st.2 rfl (by simp) hq
def yB (U:s.TypeIs (.ref r) "set") (h:Q false s):wpAny (model P w) A (Builtin.List.listLengthHint (.ref r)) Q E s:=by
 unfold Builtin.List.listLengthHint;refine eh (Mo U PySem.F.slot_set_len.lookup ?_);generalize J:("set.__len__":String)=Y
 wp_delta
 rw[show splitId Y=some ("set","__len__")from by subst J;decide +kernel];subst J;refine eh (KJ (T:="set") (b:=true) U (by rw[MG];kernel_rfl) ?_);refine J3 (λz=>absurd z (by decide)) (λ_=>?_);refine J3 (λ_=>?_) (λz=>absurd (by decide +kernel) z);refine eh (LK U ?_);exact gf h
set_option maxRecDepth 100000 in
def rG(hh:A.handled=none)(g:b_ P w s.heap S ks)
  (h:∀h' tk d' a4 J,(∀b o,s.heap.get? b=some o->h'.get? b=some o)->J.Perm ks->IntsAre a4 J->R a4 { s with heap:=h',toks:=tk,drawn:=d' }) :
  wpAny (model P w) A (collect (.ref S)) R E s:=by
 have b2:ks.length<scanBound:=by
  obtain⟨o,es,ep,t,ho,a5,hd,c0,hp,hn,hb,_⟩:=g;have:=hp.length_eq
  simp_all
 have Y:S<s.heap.objs.size:=by
  obtain⟨o,es,ep,t,ho,_⟩:=g;exact pb ho
 unfold collect;refine eh (wpAny_runValue (Mq entry_proto_collect' ?_));rw[Mr PySem.F.plain_proto_collect _];show wpAny _ A.in1 (newList [] >>= λl=>again (.builtin "list.__iadd__" ⟨[l,.ref S],[]⟩)) _ _ s;refine eh (Kk ?_);refine gf ⟨Mj PySem.F.plain_list_iadd _,Mq entry_list_iadd' ?_⟩;rw[Mr PySem.F.plain_list_iadd _];have b3:(s.heap.push { cls:=.type "list",data:=.seq ([]:List Value).toArray }).get? s.heap.objs.size=some { cls:=.type "list",data:=.seq #[] }:=pe _ rfl;show wpAny _ A.in1 (Builtin.List.listExtendWith (.ref s.heap.objs.size) (.ref S) (.ref s.heap.objs.size)) _ _ _;have g1:b_ P w (s.heap.push { cls:=.type "list",data:=.seq ([]:List Value).toArray }) S ks:=g.at λo e=>gk _ e
 have hT:Shared.TypeIs { s with heap:=s.heap.push { cls:=.type "list",data:=.seq ([]:List Value).toArray } } (.ref S) "set":=by
  obtain⟨o,es,ep,t,ho,a5,_⟩:=g1;exact⟨o,ho,a5.1⟩
 unfold Builtin.List.listExtendWith;refine eh (LK (T:="set") hT ?_);have q1:Builtin.List.listSameRef (.ref s.heap.objs.size) (.ref S)=false:=by simp[Builtin.List.listSameRef,KG Y]
 have q2:(Value.type "set" == Value.type "list")=false:=by decide
 have q3:(Value.type "set" == Value.type "tuple")=false:=by decide
 simp only[q1,q2,q3,Bool.or_false,JV,KH];refine eh (yA g1 λI h1 d1 fp J St Z kp hI b4 df W st=>?_);have a7:(s.heap.push { cls:=.type "list",data:=.seq ([]:List Value).toArray }).objs.size=s.heap.objs.size+1:=J4 ..;have a8:s.heap.objs.size∉fp:=λhm=>by
  rcases b4 _ hm with e|e
  .exact Kf _ (by rw[<- e]at Y;exact Y)
  .dsimp only at e;rw[a7]at e;exact Nat.not_succ_le_self _ e
 have hol:J.length<=sizeLine:=by
  have:=Z.length_eq;rw[this];exact K3 b2
 have b5:Shared.TypeIs { s with heap:=h1,drawn:=d1 } (.ref S) "set":=by
  obtain⟨o,e,c⟩:=hT;exact⟨o,kp S o e,c⟩
 refine eh (Kg (yB b5 ?_));have WS:=(W.walks (A:=A.in1) (by first|exact hh|simpa using hh)).toS;have fin:∀h2 c1,St 0 h2->(∀b o,b≠s.heap.objs.size->h1.get? b=some o->h2.get? b=some o)->h2.get? s.heap.objs.size=some { cls:=.type "list",dict:=none,data:=.seq #[] c1,slots:=#[] } ->
   codeAny (model P w) A (.builtin "list.extend.loop" ⟨[.ref s.heap.objs.size,.ref I,.ref s.heap.objs.size],[]⟩)
    (λr s'=>∃h' tk U c',r=.ok (.ret (.ref s.heap.objs.size))/\s'={ s with heap:=h',toks:=tk,drawn:=d1 }/\(∀b o,s.heap.get? b=some o->h'.get? b=some o) /\
     h'.get? s.heap.objs.size=some { cls:=.type "list",dict:=none,data:=.seq U c',slots:=#[] }/\IntsAre U.toList J) { s with heap:=h2,drawn:=d1 }:=by
  intro h2 c1 ck k2 ao;refine codeAny_extend_loopS WS hol s.heap.objs.size a8 _ J.length 0 _ #[] c1 rfl (J2 _) ck ao (ItemsOf.nil _) λs' U c' hm aO a9=>?_
  refine⟨s'.heap,s'.toks,U,c',rfl,(by
   obtain⟨h',g',cl,dr,dt⟩:=s';have eg:g'=s.gens:=hm.gens;have ed:cl=d1:=hm.drawn;have eo:=hm.os;subst eg;subst ed;subst eo;rfl),λb o e=>?_,aO,jg a9⟩
  have bA:=tr (pb e);refine hm.heap b o (λbB=>?_) (k2 b o bA (kp b o (gk _ e)));rcases tf.mp bB with z|z
  .exact bA z
  .have cr:=JY.mp z;rw[cr]at e;have b0:=hI;rw[a7]at b0;exact absurd (uw (pb e) (LD b0)) (Kf _)
 have done:∀r s',(∃h' tk U c',r=.ok (.ret (.ref s.heap.objs.size))/\s'={ s with heap:=h',toks:=tk,drawn:=d1 }/\(∀b o,s.heap.get? b=some o->h'.get? b=some o) /\
     h'.get? s.heap.objs.size=some { cls:=.type "list",dict:=none,data:=.seq U c',slots:=#[] }/\IntsAre U.toList J) ->
   wants (λv s'=>wpAny (model P w) A (match v with
    |Value.ref a=>do
     match (<- load a).data with
      |Data.seq xs _=>pure xs.toList
      | _=>unsupported "internal:collect"
    | _=>unsupported "internal:collect") R E s') E r s':=by
  rintro r s' ⟨h',tk,U,c',rfl,rfl,k',aO,hi⟩;show wpAny _ A (load s.heap.objs.size >>= _) _ _ _;refine eh (wpAny_load aO ?_);exact gf (h h' tk d1 U.toList J k' Z hi)
 have a0:=kp _ _ b3;refine J3 (λ_=>?_) (λ_=>gf ⟨Mj PySem.F.plain_extend_loop _,LJ (fin h1 0 st (λ_ _ _ e=>e) a0) done⟩);refine eh (Ll ?_);refine eh ?_;show wpAny _ _ (updateSeq s.heap.objs.size (·.push .none) >>= λ_=>updateSeq s.heap.objs.size (·.pop)) _ _ _;refine eh (Mt a0 rfl ?_);have ao:=Ki (Obj.mapSeq (·.push Value.none)) a0 rfl;refine Mt (hz:=by seq_fits) ao rfl ?_;have cC:=Ki (Obj.mapSeq (·.pop)) ao rfl;refine gf ⟨Mj PySem.F.plain_extend_loop _,LJ (fin _ _ ?_ (λb o hb e=>?_) cC) done⟩
 .refine W.frame 0 _ _ st λb hb o e=>?_
  have b1:b≠s.heap.objs.size:=λz=>a8 (z▸hb)
  exact(KA _ _ (Lr b1)).trans ((KA _ _ (Lr b1)).trans e)
 .exact(KA _ _ (Lr hb)).trans ((KA _ _ (Lr hb)).trans e)
end
end L2.St
namespace L2
open PySem PySem.Spec PyProof.Rows List Option
noncomputable def lO(scope osc:Scope):Scope:=
 { scope with names:=scope.names.map λ(n,k)=>if (k==.free&&osc.kind==.function&&osc.names.lookup n==some .cell)then(n,.cell)else(n,k) }
noncomputable def oH(osc:Scope)(n:Str)(k:NameKind):NameKind:=if (k==.free&&osc.kind==.function&&osc.names.lookup n==some .cell)then .cell else k
def jv(scope osc):(lO scope osc).names=scope.names.map λq=>(q.1,oH osc q.1 q.2):=by
 refine KU λq _=>?_
 obtain⟨n,k⟩:=q;show(if _=true then _ else _)=(n,oH osc n k);unfold oH;split<;>rfl
theorem fI{α z:Type}(g:Str->α->z)(y):∀names:List (Str×α),(names.map λq=>(q.1,g q.1 q.2)).lookup y=(names.lookup y).map (g y)
 | []=>rfl
 | (n,k)::r=>by
  cases hx:y==n with
  |true =>
   simp[lookup_cons,hx,map_some];rw[eq_of_beq hx]
  |false =>
   simp[lookup_cons,hx];exact fI g y r
def wK(osc)(n):oH osc n .free=.cell\/oH osc n .free=.free:=by
 unfold oH;split
 .exact .inl rfl
 .exact .inr rfl
def wL(z:k≠.cell)(h:oH osc n k=.cell\/oH osc n k=.free):k=.free:=by
 unfold oH at h;by_cases hc:(k==NameKind.free&&osc.kind==.function&&osc.names.lookup n==some .cell)=true
 .simp_all
 .simp_all
theorem jw{α:Type}{k:α}:∀{l:List (Str×α)},l.lookup y=some k->(y,k)∈l
 | [],h=>by simp at h
 | (n,z)::r,h=>by
  cases hx:y==n with
  |true =>
   simp only[lookup_cons,hx]at h;rw[eq_of_beq hx,JP h];exact .head _
  |false =>
   simp[lookup_cons,hx]at h;exact .tail _ (jw h)
def wM(h:scope.names.lookup y=some .free):(lO scope osc).names.lookup y=some .cell\/(lO scope osc).names.lookup y=some .free:=by
 rw[jv,fI,h,map_some];rcases wK osc y with e|e
 .exact .inl (by rw[e])
 .exact .inr (by rw[e])
def wN(U:∀z∈scope.names,z.2=.cell->z.1=x)(h:(lO scope osc).names.lookup y=some .cell\/(lO scope osc).names.lookup y=some .free):(y,NameKind.free)∈scope.names\/(y=x/\scope.names.lookup x=some .cell):=by
 rw[jv,fI]at h;cases e:scope.names.lookup y with
 |none=>rw[e]at h;rcases h with h|h<;>cases h
 |some k =>
  rw[e,map_some]at h;have J:=jw e;by_cases hc:k=.cell
  .subst hc;have q:=U _ J rfl;exact .inr ⟨q,by rw[<- q];exact e⟩
  .have Y:=wL hc (h.elim (λz=>.inl (JP z)) λz=>.inr (JP z));rw[Y]at J;exact .inl J
def wO(h:scope.names.lookup y=some .cell):(lO scope osc).names.lookup y=some .cell:=by
 rw[jv,fI,h,map_some];unfold oH;split
 .rfl
 .rfl
noncomputable def fV(env:Env):List (Str×NameKind)->List (Str×Addr)->List (Str×Addr)
 | [],acc=>acc
 | (n,k)::r,acc=>if k==.free then fV env r ((n,(env.cells.lookup n).getD 0)::acc)else fV env r acc
theorem kJ :∀names z,(∀y∈names,y.2=.free->∃c,env.cells.lookup y.1=some c) ->
  (forIn names z λx r=>(match x with|(name,kind)=>if (kind==NameKind.free)=true then do let c <- cellOf env name;pure (ForInStep.yield ((name,c)::r))else pure (ForInStep.yield r)):Sem (List (Str×Addr)))=pure (fV env names z)
 | [],z,_=>rfl
 | (n,k)::r,z,h=>by
  rw[forIn_cons];have U:∀y∈r,y.2=.free->∃c,env.cells.lookup y.1=some c:=λy Y=>h y (.tail _ Y)
  by_cases J:(k==NameKind.free)=true
  .obtain⟨c,hc⟩:=h (n,k) (.head _) (eq_of_beq J);dsimp only;rw[if_pos J];have Z:cellOf env n=pure c:=by unfold cellOf;rw[hc]
   rw[Z];simp only[pure_bind];rw[kJ r _ U];show _=pure (if _=true then _ else _);rw[if_pos J,hc]
   all_goals rfl
  .dsimp only;rw[if_neg J];simp only[pure_bind];rw[kJ r _ U];show _=pure (if _=true then _ else _);rw[if_neg J]
def mS(h:∀y∈scope.names,y.2=.free->∃c,env.cells.lookup y.1=some c):closureFor scope env=pure (fV env scope.names []):=by
 unfold closureFor;have:=kJ scope.names [] h
 first
  | exact this
  | (rw[bind_pure];exact this)
  | simpa using this
theorem mT :∀names J,(∀z∈names,z.2=.free->∃c,env.cells.lookup z.1=some c)->(∀c,J.lookup y=some c->env.cells.lookup y=some c) ->
  (fV env names J).lookup y=some c->env.cells.lookup y=some c
 | [],J,_,U,e=>U c e
 | (n,k)::r,J,h,U,e=>by
  have hr:∀y∈r,y.2=.free->∃c,env.cells.lookup y.1=some c:=λy hy=>h y (.tail _ hy)
  have Y:(if (k==NameKind.free)=true then fV env r ((n,(env.cells.lookup n).getD 0)::J)else fV env r J).lookup y=some c:=e;by_cases Z:(k==NameKind.free)=true
  .rw[if_pos Z]at Y;refine mT r _ hr (λc' q=>?_) Y;cases hx:y==n with
   |true =>
    obtain⟨c0,a1⟩:=h (n,k) (.head _) (eq_of_beq Z)
    simp_all
   |false =>
    simp[lookup_cons,hx]at q;exact U c' q
  .rw[if_neg Z]at Y;exact mT r _ hr U Y
theorem jS :∀names J,((y,NameKind.free)∈names\/∃c,J.lookup y=some c)->∃c,(fV env names J).lookup y=some c
 | [],J,h=>by
  rcases h with h|h
  .simp at h
  .exact h
 | (n,k)::r,J,h=>by
  show ∃c,(if (k==NameKind.free)=true then fV env r ((n,(env.cells.lookup n).getD 0)::J)else fV env r J).lookup y=some c;by_cases U:(k==NameKind.free)=true
  .rw[if_pos U];refine jS r _ ?_;cases hx:y==n with
   |true=>exact .inr ⟨(env.cells.lookup n).getD 0,by simp[lookup_cons,hx]⟩
   |false =>
    rcases h with h|⟨c,h⟩
    .simp_all
    .exact .inr ⟨c,by simp[lookup_cons,hx];exact h⟩
  .rw[if_neg U];refine jS r _ ?_;rcases h with h|h
   .rcases tf.mp h with z|z
    .have:=(Prod.mk.inj z).2
     simp_all
    .exact .inl z
   .exact .inr h
structure kK(osc:Scope)(N:List Str)(scope:Scope)(x:Str)(fvs:List Str)(js:List Nat):Prop where
 cells:∀y∈scope.names,y.2=.cell->y.1=x
 once:scope.names.lookup x=some .local/\(scope.names.filter λy=>y.2==.cell)=[]\/scope.names.lookup x=some .cell/\(scope.names.filter λy=>y.2==.cell)=[(x,.cell)]
 xf:∀y∈scope.names,y.2=.free->y.1≠x
 kind:scope.kind=.function
 names:∀y∈scope.names,y.2=.local->scope.names.lookup y.1=some .local
 nd:(x::fvs).Nodup
 out:∀y∈scope.names,y.2=.free->osc.names.lookup y.1=some .cell\/osc.names.lookup y.1=some .free
 slots:(js.map λj=>N[j]?)=fvs.map some
 free:∀y∈fvs,scope.names.lookup y=some .free
structure u9(osc:Scope)(N:List Str)(scope:Scope)(x:Str)(ys fvs:List Str)(js:List Nat):Prop where
 cells:∀y∈scope.names,y.2=.cell->y.1=x
 once:scope.names.lookup x=some .local/\(scope.names.filter λy=>y.2==.cell)=[]\/scope.names.lookup x=some .cell/\(scope.names.filter λy=>y.2==.cell)=[(x,.cell)]
 xf:∀y∈scope.names,y.2=.free->y.1≠x
 kind:scope.kind=.function
 names:∀y∈scope.names,y.2=.local->scope.names.lookup y.1=some .local
 nd:(x::(ys++fvs)).Nodup
 out:∀y∈scope.names,y.2=.free->osc.names.lookup y.1=some .cell\/osc.names.lookup y.1=some .free
 slots:(js.map λj=>N[j]?)=fvs.map some
 free:∀y∈fvs,scope.names.lookup y=some .free
theorem kK.g(h:kK osc N scope x fvs js):u9 osc N scope x [] fvs js:=⟨h.cells,h.once,h.xf,h.kind,h.names,h.nd,h.out,h.slots,h.free⟩
noncomputable def kL(scope:Scope)(x:Str)(C:Addr):List (Str×Addr):=if scope.names.lookup x=some .cell then [(x,C+1)]else []
noncomputable def Cx.blk(X:Cx)(x:Str)(fvs:List Str)(scope:Scope)(z:Shared)(J:Hp)(C:Addr)(fp:List Addr):Cx:=
 { X with N:=x::fvs,s₀:=z,H₀:=J,env:=compEnvC scope (kL scope x C++fV X.env scope.names []) C X.env,outer:=X.stack,ex:=fp,fn:=λy=>decide (y=x/\scope.names.lookup x=some .cell),pn:=[],xe:=λ_ _=>False }
theorem mU :∀{names:List (Str×NameKind)}{z}{s}{Q},(names.filter λy=>y.2==.cell)=[]->Q z s ->
  wpAny M A (forIn names z λx r=>(match x with|(name,kind)=>if (kind==NameKind.cell)=true then do let c <- alloc { cls:=.type "cell",data:=.cell none };pure (ForInStep.yield ((name,c)::r))else pure (ForInStep.yield r)):Sem (List (Str×Addr))) Q E s
 | [],_,_,_,_,h=>gf h
 | (n,k)::r,z,s,Q,hf,h=>by
  rw[forIn_cons];have J:(k==NameKind.cell)=false:=by
   simp_all
  rw[Kz (by rw[J];decide)]at hf;dsimp only;rw[if_neg (by rw[J];decide)];exact eh (gf (mU hf h))
theorem o3{x:Str}:∀{names:List (Str×NameKind)}{z}{s}{Q},(names.filter λy=>y.2==.cell)=[(x,.cell)] ->
  Q ((x,s.heap.objs.size)::z) { s with heap:=s.heap.push { cls:=.type "cell",data:=.cell none } } ->
  wpAny M A (forIn names z λx r=>(match x with|(name,kind)=>if (kind==NameKind.cell)=true then do let c <- alloc { cls:=.type "cell",data:=.cell none };pure (ForInStep.yield ((name,c)::r))else pure (ForInStep.yield r)):Sem (List (Str×Addr))) Q E s
 | [],_,_,_,hf,_=>by cases hf
 | (n,k)::r,z,s,Q,hf,h=>by
  rw[forIn_cons];dsimp only;cases J:(k==NameKind.cell)with
  |false =>
   rw[Kz (by rw[J];decide)]at hf;exact eh (gf (o3 hf h))
  |true =>
   rw[KW (by exact J)]at hf;obtain⟨U,Y⟩:=List.cons.inj hf;cases U;exact eh (eh (wpAny_alloc (gf (mU Y h))))
def tV{scope:Scope}{x:Str}{globals:Addr}{Z:List (Str×Addr)}{qual:Str}{env:Env}{s:Shared}{Q:Env->Shared->Prop}(hk:scope.kind=.function)
  (ho:scope.names.lookup x=some .local/\(scope.names.filter λy=>y.2==.cell)=[]\/scope.names.lookup x=some .cell/\(scope.names.filter λy=>y.2==.cell)=[(x,.cell)])
  (h:∀h' m,h'.Ns s.heap.objs.size m->(∀b u,s.heap.get? b=some u->h'.get? b=some u)->(scope.names.lookup x=some .cell->h'.IsCell (s.heap.objs.size+1) none)->Q (newEnv scope s.heap.objs.size globals (kL scope x s.heap.objs.size++Z) qual none .none (some env) builtinsNs) { s with heap:=h' }) :
  wpAny M A (newFunctionEnv scope globals Z [] qual none .none (some env)) Q E s:=by
 rcases ho with⟨h1,h2⟩|⟨h1,h2⟩
 .refine wpAny_newFunctionEnv (λy J z=>?_) (by intro y J;simp at J) (λh' U Y=>?_) hk
  .have:y∈scope.names.filter λy=>y.2==.cell:=JU.mpr ⟨J,by rw[z];rfl⟩
   rw[h2]at this;cases this
  .have q:=h h' _ U (λb u e=>Y.extBut b u (tr (pb e)) (gk _ e)) λz=>by rw[h1]at z;cases z
   unfold kL at q
   simp_all
 .unfold newFunctionEnv;refine eh (wpAny_alloc (eh (o3 h2 ?_)));have hn:=Heap.Ns.new s.heap (.type "dict");have hs:(s.heap.push { cls:=.type "dict",data:=.dict #[] }).objs.size=s.heap.objs.size+1:=J4 _ _;have q:=h ((s.heap.push { cls:=.type "dict",data:=.dict #[] }).push { cls:=.type "cell",data:=.cell none }) _ (hn.keeps λb o e=>gk _ e) (λb u e=>gk _ (gk _ e)) λ_=>⟨_,by rw[<- hs];exact pe _ rfl,rfl⟩
  unfold kL at q;rw[if_pos h1]at q;rw[<- hs]at q;exact eh (gf (gf q))
noncomputable def fE(js:List Nat)(σ:St):St:=none::js.map λj=>(σ[j]?).join
noncomputable def wP(n:Nat)(js:List Nat)(σ:St):St:=none::(replicate n none++js.map λj=>(σ[j]?).join)
def PF(X:Cx)(ifs:List Expr)(t:TT):Prop:=
 ∀pins s (σ:St) H Q,Inv X pins σ H s->t σ H Q ->
  wpAny (model X.prog X.w) X.A (forIn ifs true λc r=>if r=true then do let ok <- isTrue c X.env (eval c X.env);pure (ForInStep.yield ok)else pure (ForInStep.yield r)) (TP X pins σ Q) X.xe s
noncomputable def Jo:TT:=λ_ H Q=>Q true H
def Ec :PF X [] Jo:=λ_ _ _ H _ I h=>wpAny_tests_nil ⟨H,I,h⟩
def Ed(h:PT X c t):PF X [c] t:=λpins s σ H Q I q=>wpAny_tests_one (h pins s σ H Q I q)
section
variable{prog:Program}{w:World}{A:Around}{R:Result->Shared->Prop}{s:Shared}
def wQ{elt target iter:Expr}{ifs:List Expr}{scope:Scope}{pos:Pos}{it U:Value}{env:Env}(J:Nat->Shared->Prop)
  (turn:∀n s,J n s->wpAny (model prog w) A (pyNext it) (λr Z=>match r with
   |none=>R (.ok .next) Z
   |some v=>wpAny (model prog w) A (letOwnedTupleGo target it v) (λ_ s2=>wpAny (model prog w) A (assign target env v) (λ_ s3 =>
     wpAny (model prog w) A (forIn ifs true λc r=>if r=true then do let ok <- isTrue c env (eval c env);pure (ForInStep.yield ok)else pure (ForInStep.yield r)) (λok s4 =>
      if ok=true then wpAny (model prog w) A (eval elt env) (λx s5 =>
       wpAny (model prog w) A (call (.builtin "list.append") [U,x]) (λ_ s6=>∃m,m<n/\J m s6) (λ_ _=>False) s5) (λ_ _=>False) s4
      else ∃m,m<n/\J m s4) (λ_ _=>False) s3) (λ_ _=>False) s2) (λ_ _=>False) Z) (λ_ _=>False) s)
  (n) (h:J n s):codeAny (model prog w) A (.compLoop (.ListComp elt [⟨target,iter,ifs,0⟩] scope pos) 0 it U env) R s:=by
 have Y:∀{α}{t}{Q:α->Shared->Prop}{E}{s},wpAny (model prog w) A t Q (λ_ _=>False) s->wpAny (model prog w) A t Q E s:=λq=>Kd q (λ_ _ z=>z) λ_ _ z=>z.elim
 refine codeAny_loop rfl J (λn s hJ=>?_) n h;show wpAny _ A ((compTurn (.ListComp elt [⟨target,iter,ifs,0⟩] scope pos) 0 it U env).onRaise (λx=>do noteFrame x env;theTreesLotGoes x)) _ _ s;refine wpAny_noted ?_;rw[compTurn_list];refine eh (wpAny_standAt (eh (Kd (Y (turn n s hJ)) (λr Z h1=>?_) λ_ _ z=>z)));cases r with
 |none=>exact gf h1
 |some v =>
  refine eh (Kd (Y h1) (λ_ s2 h2=>?_) λ_ _ z=>z);refine eh (Kd (Y h2) (λ_ s3 h3=>eh (Kd (Y h3) (λok s4 h4=>?_) λ_ _ z=>z)) λ_ _ z=>z);cases ok<;>first|exact gf ⟨rfl,h4⟩|exact eh (eh (Kd (Y h4) (λx s5 h5=>eh (Kd (Y h5) (λ_ s6 h6=>gf (gf ⟨rfl,h6⟩)) λ_ _ z=>z)) λ_ _ z=>z))
end
def rH(J:It)(U:St)(H1:Hp)(tt:TT)(te:TE)(D:Addr)(Q:VK):Prop:=
 ∃W:Nat->Nat->St->Hp->Prop,(∃m,W 0 m U (upd H1 D (.lst [])))/\∀i m F H',W i m F H' ->
  (J.stop i H'/\Q (.ref D) H')\/(J.go i H'/\∃N:St->Hp->Prop,(∀z H2,N z H2->∃Y,Y<m/\W (i+1) Y z H2)/\∀x H2,J.yld i H' x H2 ->
   tt (F.set 0 (some x)) H2 λb Z=>if b=true then te (F.set 0 (some x)) Z λy H4=>∃ys,H4 D=some (.lst ys)/\ys.length<sizeLine/\N (F.set 0 (some x)) (upd H4 D (.lst (ys++[y])))else N (F.set 0 (some x)) Z)
def yC(J:It)(g:TG)(Y:St)(H1:Hp)(tt:TT)(te:TE)(D:Addr)(Q:VK):Prop:=
 ∃W:Nat->Nat->St->Hp->Prop,(∃m,W 0 m Y (upd H1 D (.lst [])))/\∀i m F H',W i m F H' ->
  (J.stop i H'/\Q (.ref D) H')\/(J.go i H'/\∃N:St->Hp->Prop,(∀U H2,N U H2->∃Z,Z<m/\W (i+1) Z U H2)/\∀x H2,J.yld i H' x H2 ->
   g x F H2 λz H3=>tt z H3 λb H4=>if b=true then te z H4 λy H5=>∃ys,H5 D=some (.lst ys)/\ys.length<sizeLine/\N z (upd H5 D (.lst (ys++[y])))else N z H4)
theorem rH.g(h:rH J z H1 tt te D Q):yC J (jc 0) z H1 tt te D Q:=h
noncomputable def yD(wi:TI)(js:List Nat)(tt:TT)(te:TE):TE:=λσ H Q=>wi σ H λJ H1=>∀D,H1 D=none->rH J (fE js σ) H1 tt te D Q
section
variable{X:Cx}{elt iter:Expr}{x:Str}{px:Pos}{ifs:List Expr}{scope:Scope}{pos:Pos}{fvs:List Str}{js:List Nat}{wi:TI}{tt:TT}{te:TE}
def tY{ys:List Str}(Z:u9 X.env.scope X.N scope x ys fvs js)(hc:X.calm=true)(hg:∀a0 a3 C fp,PG (X.blk x (ys++fvs) scope a0 a3 C fp) tg g)
  (ht:∀a0 a3 C fp,PF (X.blk x (ys++fvs) scope a0 a3 C fp) ifs tt) (he:∀a0 a3 C fp,PE (X.blk x (ys++fvs) scope a0 a3 C fp) elt te)
  {pins:List (Addr×Obj)}{σ:St}{H2:Hp}{U:Shared}{Q:VK}{it:Addr}{fp:List Addr}{tn:Nat->Heap->Prop}{J:It}{RR:Value->Addr->Result->Shared->Prop}
  (I2:Inv X pins σ H2 U) (T:tu X.prog X.w X.K tg J fp it tn) (dt:tn 0 U.heap) (f2:∀b∈fp,kz X pins H2 b)
  (hh:∀D,H2 D=none->yC J g (wP ys.length js σ) H2 tt te D Q)
  (fin:∀D C H' s',Inv X pins σ H' s'->(∃m,s'.heap.Ns C m)->H' C=none->C≠X.env.locals->X.s₀.heap.objs.size<=C->(∀y c,X.env.cells.lookup y=some c->c≠C)->(∀p∈X.pn++pins,p.1≠C)->Q (.ref D) H' ->
   RR (.ref D) C (.ok .next) s') {E:Value->Shared->Prop} :
  wpAny (model X.prog X.w) X.A (newList []) (λacc s3=>wpAny (model X.prog X.w) X.A (newFunctionEnv scope X.env.globals (fV X.env scope.names []) [] X.env.qual none .none (some X.env)) (λcl s4 =>
   codeAny (model X.prog X.w) X.A (.compStart (.ListComp elt [⟨tg,iter,ifs,0⟩] scope pos) 0 (.ref it) acc { cl with scope:=relabel scope X.env }) (RR acc cl.locals) s4) E s3) E U:=by
 have fr:∀y∈scope.names,y.2=.free->∃c,X.env.cells.lookup y.1=some c:=λy hy hk=>I2.ok.has y.1 (Z.out y hy hk)
 have sub:∀y c,(fV X.env scope.names []).lookup y=some c->X.env.cells.lookup y=some c:=λy c e=>mT scope.names [] fr (λ_ q=>by simp at q) e
 refine Kk (tV (x:=x) Z.kind Z.once λh1 m1 a6 a7 a8=>?_);dsimp only at a6 a7 a8 ⊢;have Y:Inv X pins σ (upd H2 U.heap.objs.size (.lst [])) { U with heap:=U.heap.push { cls:=.type "list",data:=.seq ([]:List Value).toArray },toks:=U.toks }:=I2.lnew (ys:=[]) (its:=[]) .nil (J2 _);generalize hG:U.heap.push { cls:=.type "list",dict:=none,data:=.seq ([]:List Value).toArray }=G at a6 a7 a8 Y ⊢;have hC:G.objs.size=U.heap.objs.size+1:=by rw[<- hG,J4]
 obtain⟨W,⟨m0,w0⟩,turn⟩:=hh U.heap.objs.size I2.fresh;have up:=a7;have aO:∀{y}{c},(kL scope x G.objs.size++fV X.env scope.names []).lookup y=some c->(y=x/\scope.names.lookup x=some .cell/\c=G.objs.size+1)\/(fV X.env scope.names []).lookup y=some c:=λ{y c} e=>by
  unfold kL at e;by_cases q:scope.names.lookup x=some .cell
  .rw[if_pos q]at e;by_cases z:(y==x)=true
   .rw[cons_append,lookup_cons,z]at e;exact .inl ⟨eq_of_beq z,q,(JP e).symm⟩
   .rw[cons_append,lookup_cons,(Mm _).mp z]at e;exact .inr e
  .rw[if_neg q]at e;exact .inr e
 have gv:∀{H'}{s'},Inv X pins σ H' s'->True:=λ_=>trivial
 have nC:=Y.hok.fresh (gx _);have cL:=KG Y.lt;have cS:=Y.sz;have cC:∀y c,X.env.cells.lookup y=some c->c≠G.objs.size:=λy c e z=>by
  obtain⟨v,q⟩:=Y.cell y c e;exact absurd (show c<G.objs.size from q.lt) (by rw[z];exact Kf _)
 have cP:∀p∈X.pn++pins,p.1≠G.objs.size:=λp hp z=>absurd (show p.1<G.objs.size from pb (Y.pin p hp).1) (by rw[z];exact Kf _)
 have c1:∀b∈fp,b<U.heap.objs.size:=λb hb=>by
  obtain⟨o,e,_⟩:=T.obj 0 _ dt b hb;exact pb e
 have ok:(X.blk x (ys++fvs) scope { U with heap:=G,toks:=U.toks } (upd H2 U.heap.objs.size (.lst [])) G.objs.size fp).Ok:=by
  have hb:∀b∈fp,b∉frs X.stack:=λb hb z=>(tf.mp (I2.stkSub b z)).elim (f2 b hb).2.1 (f2 b hb).2.2.1
  exact {
   mod:=Y.ok.mod
   kind:=by show(relabel scope X.env).kind=_;exact Z.kind
   glob:=Y.ok.glob
   blt:=Y.ok.blt
   above:=gx _
   inj:=λy z c e1 e2=>by
    have lt:∀{y},(fV X.env scope.names []).lookup y=some c->c<G.objs.size:=λ{y} e=>by
     obtain⟨v,q⟩:=Y.cell y c (sub y c e);exact q.lt
    rcases aO e1 with⟨a1,_,a2⟩|a1
    .rcases aO e2 with⟨b1,_,_⟩|b1
     .rw[a1,b1]
     .exact absurd (lt b1) (by rw[a2];exact KD.mpr (Kr _))
    .rcases aO e2 with⟨_,_,b2⟩|b1
     .exact absurd (lt a1) (by rw[b2];exact KD.mpr (Kr _))
     .exact Y.ok.inj y z c (sub y c a1) (sub z c b1)
   has:=λy hy=>by
    show ∃c,(kL scope x G.objs.size++fV X.env scope.names []).lookup y=some c;unfold kL;rcases wN Z.cells hy with hm|⟨e,q⟩
    .obtain⟨c,ec⟩:=jS (env:=X.env) scope.names [] (.inl hm);by_cases q:scope.names.lookup x=some .cell
     .have z:=K7.mpr (Z.xf _ hm rfl);exact⟨c,by rw[if_pos q,cons_append,lookup_cons,z];exact ec⟩
     .exact⟨c,by rw[if_neg q];exact ec⟩
    .subst e;exact⟨G.objs.size+1,by rw[if_pos q,cons_append,lookup_cons,Ln]⟩
   cab:=λy c h e=>by
    obtain⟨h1,h2⟩:=Kc h;have e':(kL scope x G.objs.size++fV X.env scope.names []).lookup y=some c:=e;unfold kL at e';rw[if_pos h2,h1,cons_append,lookup_cons,Ln]at e';rw[<- JP e'];exact Kr _
   hd:=Y.ok.hd
   frames:=Y.ok.frames
   stk:=.inl rfl
   exf:=λb a9=>⟨tr (show b<G.objs.size from uw (c1 b a9) (by rw[hC];exact Kr _)),λy c e=>by
    rcases aO e with⟨_,_,a⟩|a
    .rw[a,hC];exact KG (uw (c1 b a9) (r4 (Kr _) (Kr _)))
    .exact(f2 b a9).2.2.2.2.1 y c (sub y c a)⟩
   bs:=Y.bs
   bsz:=r4 Y.ok.bsz Y.sz
   noex:=λb o e a9=>by
    have q:=(f2 b a9).2.2.2.1;rcases q with q|q
    .exact Y.ok.noex b o e q
    .exact absurd (uw (pb e) (r4 Y.ok.bsz q)) (Kf _)
   exfs:=hb
   funs:=Y.stack
   frf:=Y.stkFree }
 have d4:(wP ys.length js σ).length=(x::(ys++fvs)).length:=by
  have e:=J5 List.length Z.slots;simp only[nR]at e;simp[wP,e]
 have I4:Inv (X.blk x (ys++fvs) scope { U with heap:=G,toks:=U.toks } (upd H2 U.heap.objs.size (.lst [])) G.objs.size fp) [] (wP ys.length js σ) (upd H2 U.heap.objs.size (.lst [])) { U with heap:=h1,toks:=U.toks }:=by
  refine⟨ok,rfl,Y.bare,Un.kept up,⟨_,a6,λi y v e1 e2 e3=>?_⟩,λy c e=>?_,nC,λy c e=>(aO e).elim (λ⟨_,_,a⟩=>by rw[a];exact Y.hok.fresh (Kr _)) λa=>Y.freeC y c (sub y c a),λp hp=>by simp[Cx.blk]at hp,Y.hok.kept up,d4⟩
  .cases i with
   |zero=>simp[wP]at e2
   |succ i0 =>
    have c2:(ys++fvs)[i0]?=some y:=e1;have bA:(replicate ys.length none++js.map λj=>(σ[j]?).join)[i0]?=some (some v):=by simpa[wP]using e2
    by_cases b4:i0<ys.length
    .rw[KN (by simpa using b4),L8,if_pos b4]at bA;cases bA
    rw[Lh (by simpa using Nat.le_of_not_lt b4),length_replicate]at bA;rw[Lh (Nat.le_of_not_lt b4)]at c2;generalize i0-ys.length=i at c2 bA;have d5:=c2;have hm:=K1 d5;have ea:=Z.free y hm;have c3:=jw ea;have bB:=bA;rw[JZ]at bB;cases ej:js[i]? with
    |none=>rw[ej]at bB;cases bB
    |some j =>
     rw[ej]at bB;have b5:(σ[j]?).join=some v:=JP bB;have e4:σ[j]?=some (some v):=by
      cases q:σ[j]? with
      |none=>rw[q]at b5;cases b5
      |some z=>rw[q]at b5;exact J5 some b5
     have e5:X.N[j]?=some y:=by
      have q:=J5 (λl=>l[i]?) Z.slots;simp only[JZ,ej,d5,map_some]at q;exact JP q
     obtain⟨m,hn,hl⟩:=Y.loc;have cr:=Z.out (y,.free) c3 rfl;obtain⟨u,ru,lk⟩:=hl j y v e5 e4 (.inr cr);refine⟨u,ru,.inr ⟨?_,?_⟩⟩
     .show(relabel scope X.env).names.lookup y=_\/(relabel scope X.env).names.lookup y=_;exact wM (osc:=X.env.scope) ea
     .obtain⟨c,ec⟩:=jS (env:=X.env) scope.names [] (.inl c3);have nx:=K7.mpr (Z.xf _ c3 rfl);refine⟨c,?_,?_⟩
      .show(kL scope x G.objs.size++fV X.env scope.names []).lookup y=some c;unfold kL;split
       .rw[cons_append,lookup_cons,nx];exact ec
       .exact ec
      rcases lk with⟨z,_⟩|⟨_,c',eD,q⟩
      .have z':X.env.scope.names.lookup y=some .local:=z;rcases cr with w|w
       .rw[show X.env.scope.names.lookup y=some .cell from w]at z';cases z'
       .rw[show X.env.scope.names.lookup y=some .free from w]at z';cases z'
      .have:=sub y c ec;rw[eD]at this;cases this;obtain⟨o,ho,hd⟩:=q;exact⟨o,up _ _ ho,hd⟩
  .rcases aO e with⟨_,q,a⟩|a
   .exact⟨none,by rw[a];exact a8 q⟩
   .obtain⟨v,o,ho,hd⟩:=Y.cell y c (sub y c a);exact⟨v,o,up _ _ ho,hd⟩
 have eb:=T.keep 0 _ _ dt λb hb o e=>up b o (by rw[<- hG];exact gk _ e)
 have eH:∀b∈fp,(upd H2 U.heap.objs.size (.lst [])) b=none:=λb hb=>by
  rw[aW (tr (c1 b hb))];exact(f2 b hb).1
 have b0:∀{H'},(∀b∈fp,H' b=none)->∀b∈fp,kz (X.blk x (ys++fvs) scope { U with heap:=G,toks:=U.toks } (upd H2 U.heap.objs.size (.lst [])) G.objs.size fp) [] H' b:=λhn b hb =>
  ⟨hn b hb,(ok.exf b hb).1,ok.exfs b hb,.inl hb,(ok.exf b hb).2,λp hp=>by simp[Cx.blk]at hp⟩
 have eK:∀b∈fp,(b∈X.ex\/X.s₀.heap.objs.size<=b)/\b≠X.env.locals/\(∀x c,X.env.cells.lookup x=some c->c≠b)/\∀p∈X.pn++pins,p.1≠b:=λb hb =>
  let ⟨_,q1,_,q2,q3,q4⟩:=f2 b hb;⟨q2,q1,q3,q4⟩
 have c0:∀s5,s5={ U with heap:=h1,toks:=U.toks } ->
   codeAny (model X.prog X.w) X.A (.compLoop (.ListComp elt [⟨tg,iter,ifs,0⟩] scope pos) 0 (.ref it) (.ref U.heap.objs.size) (compEnvC scope (kL scope x G.objs.size++fV X.env scope.names []) G.objs.size X.env)) (RR (.ref U.heap.objs.size) G.objs.size) s5:=by
  rintro s5 rfl;refine wQ (λn s'=>∃i F H',Inv (X.blk x (ys++fvs) scope { U with heap:=G,toks:=U.toks } (upd H2 U.heap.objs.size (.lst [])) G.objs.size fp) [] F H' s'/\tn i s'.heap/\(∀b∈fp,H' b=none)/\W i n F H') ?_ m0 ⟨0,_,_,I4,eb,eH,w0⟩;rintro n s6 ⟨i,cd,H6,I6,ed,ee,w6⟩;rcases turn i n cd H6 w6 with⟨stop,qn⟩|⟨go,N,hN,step⟩
  .refine thn (T.done (X.blk x (ys++fvs) scope { U with heap:=G,toks:=U.toks } (upd H2 U.heap.objs.size (.lst [])) G.objs.size fp) rfl rfl rfl hc i [] s6 cd H6 _ I6 (b0 ee) ed stop) λr s7 ⟨hr,I7⟩=>?_
   subst hr;have I8:=Y.call' (ch:=fp) I7.os I7.base I7.hok I7.bare eK;obtain⟨m,hn,_⟩:=I7.loc;exact fin _ _ H6 s7 I8 ⟨m,hn⟩ I7.free cL cS cC cP qn
  .refine thn (T.item (X.blk x (ys++fvs) scope { U with heap:=G,toks:=U.toks } (upd H2 U.heap.objs.size (.lst [])) G.objs.size fp) rfl rfl rfl hc i [] s6 cd H6 _ I6 (b0 ee) ed go) λr s7 ⟨u,hr,h7⟩=>?_
   subst hr;refine thn h7 λ_ s8 ⟨x8,H8,I8,r8,y8,c4,e6⟩=>?_
   have e7:=I8.pinned (b0 e6) (T.obj _ _ c4);refine thn (hg _ _ _ _ _ s8 cd H8 x8 u _ e7 r8 (step x8 H8 y8)) λ_ s9 ⟨c5,H9,I9,q9⟩=>?_
   refine thn (ht _ _ _ _ _ s9 _ H9 _ I9 q9) λe8 e9 ⟨fa,ef,ck⟩=>?_
   have again:∀{a5}{a4},Inv (X.blk x (ys++fvs) scope { U with heap:=G,toks:=U.toks } (upd H2 U.heap.objs.size (.lst [])) G.objs.size fp) ([]++mw fp s8.heap) c5 a4 a5->N c5 a4 ->
     ∃m,m<n/\∃i F H',Inv (X.blk x (ys++fvs) scope { U with heap:=G,toks:=U.toks } (upd H2 U.heap.objs.size (.lst [])) G.objs.size fp) [] F H' a5/\tn i a5.heap/\(∀b∈fp,H' b=none)/\W i m F H':=λ{a5 a4} b3 c6=>by
    obtain⟨m',hm,fe⟩:=hN _ a4 c6;refine⟨m',hm,i+1,_,a4,b3.unpinned,T.keep _ _ _ c4 λb hb o e=>(b3.pin (b,o) (Kq _ (Kq _ (gR hb e)))).1,λb hb=>?_,fe⟩;obtain⟨o,e,d⟩:=T.obj _ _ c4 b hb;exact(b3.pin (b,o) (Kq _ (Kq _ (gR hb e)))).2.1
   cases e8 with
   |false =>
    rw[if_neg (by simp)]at ck ⊢;exact again ef ck
   |true =>
    rw[if_pos rfl]at ck ⊢;refine thn (he _ _ _ _ _ e9 _ fa _ ef ck) λy a5 ⟨yv,a4,b3,ry,ys,fl,hl,c6⟩=>?_
    refine thn (kC _ a5 _ a4 (.ref U.heap.objs.size) [yv] (.ref U.heap.objs.size) [y] (λ_ eg=>N c5 eg) b3 rfl (.cons ry .nil) ⟨_,ys,yv,rfl,rfl,fl,hl,c6⟩) λ_ hK ⟨_,eg,ft,_,fv⟩=>again ft fv
 exact codeAny_compStart_list (c0 _ rfl) (T.self _ 0 _ _ _ eb (c0 _ rfl))
def o4(Y:kK X.env.scope X.N scope x fvs js)(hc:X.calm=true)
  (ht:∀z U C fp,PF (X.blk x fvs scope z U C fp) ifs tt) (he:∀z U C fp,PE (X.blk x fvs scope z U C fp) elt te)
  {pins:List (Addr×Obj)}{σ:St}{H2:Hp}{s2:Shared}{Q:VK}{it:Addr}{fp:List Addr}{tn:Nat->Heap->Prop}{J:It}{RR:Value->Addr->Result->Shared->Prop}
  (I2:Inv X pins σ H2 s2) (T:tu X.prog X.w X.K (.Name x px) J fp it tn) (aO:tn 0 s2.heap) (f2:∀b∈fp,kz X pins H2 b)
  (hh:∀D,H2 D=none->rH J (fE js σ) H2 tt te D Q)
  (fin:∀(D C:Addr) (H':Hp) (s':Shared),Inv X pins σ H' s'->(∃m,s'.heap.Ns C m)->H' C=none->C≠X.env.locals->X.s₀.heap.objs.size<=C->(∀y c,X.env.cells.lookup y=some c->c≠C)->(∀p∈X.pn++pins,p.1≠C)->Q (.ref D) H' ->
   RR (.ref D) C (.ok .next) s') {E:Value->Shared->Prop} :
  wpAny (model X.prog X.w) X.A (newList []) (λacc s3=>wpAny (model X.prog X.w) X.A (newFunctionEnv scope X.env.globals (fV X.env scope.names []) [] X.env.qual none .none (some X.env)) (λZ s4 =>
   codeAny (model X.prog X.w) X.A (.compStart (.ListComp elt [⟨.Name x px,iter,ifs,0⟩] scope pos) 0 (.ref it) acc { Z with scope:=relabel scope X.env }) (RR acc Z.locals) s4) E s3) E s2:=
 tY (ys:=[]) Y.g hc (λz U C fp=>lT (X:=X.blk x fvs scope z U C fp) (i:=0) (x:=x) (pos:=px) Y.nd rfl (Y.once.elim (λq=>.inl (lookup_relabel_local q.1)) λq=>.inr (wO q.1)) (Y.once.elim (λq=>.inr (lookup_relabel_local q.1)) λq=>.inl (JS ⟨rfl,q.1⟩))) ht he I2 T aO f2 (λD hD=>(hh D hD).g) fin
def u_(Y:kK X.env.scope X.N scope x fvs js)(hc:X.calm=true)(hi:PI X (.Name x px) iter wi)
  (ht:∀z U C fp,PF (X.blk x fvs scope z U C fp) ifs tt) (he:∀z U C fp,PE (X.blk x fvs scope z U C fp) elt te)
  (hs:∀v,foldedSetIterable iter X.env v=pure v:=by intro _;rfl):PE X (.ListComp elt [⟨.Name x px,iter,ifs,0⟩] scope pos) (yD wi js tt te):=by
 intro pins s σ H Q I h;have fr:∀y∈scope.names,y.2=.free->∃c,X.env.cells.lookup y.1=some c:=λy hy hk=>I.ok.has y.1 (Y.out y hy hk)
 rw[eval_ListComp];refine wpAny_comprehension_free rfl hs (mS fr) Y.kind Y.names (thn (hi pins s σ H _ I h) λv s1 h1=>thn h1 λa4 s2 h2=>?_);refine aC λZq kq=>?_
 obtain⟨it,fp,tn,J,H2,e,I2,T,Z,f2,hh⟩:=h2;subst e;refine kq ?_;refine o4 (RR:=λacc C=>compPost _ X.A X.xe none _ acc C) Y hc ht he I2 T Z f2 hh λD C H' s' I' hn nC cL cS cC cP q=>?_
 obtain⟨m,hn⟩:=hn;refine⟨m,hn,λh' sb=>⟨.ref D,H',?_,rfl,q⟩⟩;exact I'.turned (λb o hb e=>(sb.2 b hb).trans e) nC cL (.inr cS) cC cP
def tZ{py ao:Pos}(hN:X.N.Nodup)(a0:X.N[i]?=some y)(hy:Loc X.env.scope y)(Z:kK X.env.scope X.N scope x fvs js)(hc:X.calm=true)(hi:PI X (.Name x px) iter wi)
  (ht:∀U Y C fp,PF (X.blk x fvs scope U Y C fp) ifs tt) (he:∀U Y C fp,PE (X.blk x fvs scope U Y C fp) elt te)
  (a2:swapsWith (.ListComp elt [⟨.Name x px,iter,ifs,0⟩] scope pos) (some (.Name y py)) ao.line X.env=pure true:=by rfl)
  (hs:∀v,foldedSetIterable iter X.env v=pure v:=by intro _;rfl) (hf:X.fn y=true\/X.env.scope.names.lookup y=some .local:=by first|exact .inl rfl|exact .inr rfl|assumption) :
  PS X (.Assign [.Name y py] (.ListComp elt [⟨.Name x px,iter,ifs,0⟩] scope pos) ao) (xR (yD wi js tt te) (jc i)):=by
 intro pins s σ H D I h;have fr:∀y∈scope.names,y.2=.free->∃c,X.env.cells.lookup y.1=some c:=λy hy hk=>I.ok.has y.1 (Z.out y hy hk)
 rw[exec_Assign_Name_used _ _ _ _ a2];refine eh (wpAny_standAt (eh ?_));show wpAny _ X.A (do let _ <- comprehension (.ListComp elt [⟨.Name x px,iter,ifs,0⟩] scope pos) scope X.env _ (newList []) false (eval iter X.env) (some (assign (.Name y py) X.env))) _ _ s;refine eh (thn (wpAny_comprehension_free (use:=some (assign (.Name y py) X.env)) (Q:=λ_ s'=>SP X pins D .next s') rfl hs (mS fr) Z.kind Z.names (thn (hi pins s σ H _ I h) λv s1 h1=>thn h1 λb5 s2 h2=>?_)) λ_ s' q=>?_)
 .refine aC λZq kq=>?_
  obtain⟨it,fp,tn,J,H2,e,I2,T,a3,f2,hh⟩:=h2;subst e;refine kq ?_;refine o4 (RR:=λacc C=>compPost (model X.prog X.w) X.A X.xe (some (assign (.Name y py) X.env)) (λ_ s'=>SP X pins D .next s') acc C) (Q:=λv H'=>jc i v σ H' D.nx) Z hc ht he I2 T a3 f2 hh λD' C H' s' I' hn nC cL cS cC cP q=>?_
  obtain⟨m,hn⟩:=hn;show wpAny _ _ (assign (.Name y py) X.env (.ref D')) _ _ s';refine wpAny_assign_Name (oN I' hN a0 hy (v:=.ref D') rfl (λa5 a6 ⟨a,sb,ha⟩=>?_) hf);have ne:C≠a:=by
   rcases ha with z|z
   .rw[z];exact cL
   .exact λw=>cC y a z w.symm
  refine⟨m,hn.sameBut sb ne,λh' a7=>?_⟩;exact⟨_,H',a6.turned (t':=a5.toks) (λb o hb e=>(a7.2 b hb).trans e) nC cL (.inr cS) cC cP,q⟩
 .exact gf (gf q)
end
abbrev t4(K:Nl)(H:Hp):List V->List (List Int)->Prop:=Paired λx z=>∃a,x=V.ref a/\SqT K H a (z.map V.int)
theorem t4.len{K:Nl}(h:t4 K H xs z):xs.length=z.length:=Paired.length h
def aA(h:H p=none)(o):aj H (upd H p o):=λb u q=>by rw[aW (cn q h)];exact q
def aj.seqT{K:Nl}(e:aj H H')(h:SqT K H a xs):SqT K H' a xs:=by
 rcases h with(h|⟨o,h⟩)|h
 .exact .inl (.inl (e _ _ h))
 .exact .inl (.inr ⟨o,e _ _ h⟩)
 .exact .inr h
section
variable{X:Cx}{pins:List (Addr×Obj)}{σ:St}{H:Hp}{s:Shared}
def Inv.laidD(I:Inv X pins σ H s)(k:∀b u,s.heap.get? b=some u->h'.get? b=some u)(J:s.heap.objs.size<=a)(new:bI X.prog X.w (upd H a o) h' a o) :
  Inv X pins σ (upd H a o) { s with heap:=h',toks:=t',drawn:=d' }:=
 I.call (g':=s.gens) (d':=d') (t':=t') (ch:=[]) (Un.laid k J (I.hok.fresh J)) (I.hok.laid k J new) I.bare λ_ z=>nomatch z
def Inv.tupInts(I:Inv X pins σ H s)(h:SqT X.K H a (ns.map V.int)):∃its,IsTup s.heap a its.toArray/\IntsAre its ns:=by
 obtain⟨its,r,p,_⟩:=I.tuple h;exact⟨its,p,cq r⟩
theorem Inv.tupsAt(I:Inv X pins σ H s):∀{xs}{us}{z},t4 X.K H xs z->aG xs us->Paired (λu J=>∃a its,u=Value.ref a/\IsTup s.heap a its/\IntsAre its.toList J) us z
 | _,_,_,.nil,.nil=>.nil
 | _,_,_,.cons ⟨a,U,Y⟩ t,.cons r q=>by
  obtain⟨its,p,hi⟩:=I.tupInts Y;rw[U]at r;exact .cons ⟨a,its.toArray,r,p,by simpa using hi⟩ (I.tupsAt t q)
end
noncomputable def ji(P:Program)(w:World)(a:Addr)(ks:List Int):HO:=.ext λh=>St.b_ P w h a ks
def rJ(g:St.b_ P w h a ks):bI P w H h a (ji P w a ks):=by
 obtain⟨o,es,ep,t,ho,r⟩:=id g;exact⟨g,⟨o,ho⟩,λh1 h2 z k=>z.at k⟩
theorem Inv.set(I:Inv X pins σ H s)(h:H a=some (ji X.prog X.w a ks)):St.b_ X.prog X.w s.heap a ks:=
 (show bI X.prog X.w H s.heap a (ji X.prog X.w a ks)from I.hok a _ h).1
section
variable{X:Cx}
def yE (hc:X.calm=true):bo X (.type "set") (λxs H Q=>∃(p:Addr) (ns:List Int),xs=[.ref p]/\(SqL X.K H p (ns.map V.int)\/SqT X.K H p (ns.map V.int))/\ns.length<=4000/\∀l:Addr,H l=none->Q (.ref l) (upd H l (ji X.prog X.w l (St.dd ns.reverse)))):=by
 intro pins s σ H xs us Q I r h;obtain⟨p,ns,rfl,z,hz,q⟩:=h;obtain⟨u,rfl,Z⟩:=dB r;cases Z;have Y:=I.ok.hd hc;rcases z with z|z
 .obtain⟨its,J,U,_⟩:=I.list z;have hi:=cq J;have hl:=hi.length;refine St.set_list Y U.isList (ns:=ns) (by simpa using hi) (by simp;unfold scanBound;omega) λh' tk g kp=>?_
  exact⟨.ref s.heap.objs.size,_,I.laidD (d':=s.drawn) kp (gx _) (rJ g),rfl,q _ (I.hok.fresh (gx _))⟩
 .obtain⟨its,J,U,_⟩:=I.tuple z;have hi:=cq J;have hl:=hi.length;refine St.wJ Y (show s.heap.IsTuple p its.toArray from U) (ns:=ns) (by simpa using hi) (by simp;unfold scanBound;omega) λh' tk g kp=>?_
  exact⟨.ref s.heap.objs.size,_,I.laidD (d':=s.drawn) kp (gx _) (rJ g),rfl,q _ (I.hok.fresh (gx _))⟩
end
namespace Srt
noncomputable def sortI(l:List Int):List Int:=ie dg l
noncomputable def sortT(l:List (List Int)):List (List Int):=ie fh l
def leT(a b:List Int):Prop:=HT.lexLt b a=false
def sortI_perm(l):(sortI l).Perm l:=fj dg l
def sortT_perm(l):(sortT l).Perm l:=fj fh l
def sortI_len(l):(sortI l).length=l.length:=(sortI_perm l).length_eq
def sortT_len(l):(sortT l).length=l.length:=(sortT_perm l).length_eq
def sortT_rises(l):(sortT l).Pairwise leT:=d6 fh l
def sortI_of_perm(p:a.Perm b):sortI a=sortI b:=oB dg p
def va{a b:Int}:dg.kle a b ↔ a<=b:=by
 show decide _=false ↔ a<=b
 simp_all
def sortI_rises(l):(sortI l).Pairwise (· <= ·):=(d6 dg l).imp λh=>va.mp h
def sortI_id{l:List Int}(h:l.Pairwise (· <= ·)):sortI l=l:=yq dg (h.imp λq=>va.mpr q)
section
variable{P:Program}{w:World}{A:Around}{E:Value->Shared->Prop}{s:Shared}
def rK(z:ns.Perm ks)(hs:ns.Pairwise (· <= ·)):ns=sortI ks:=by
 refine jO dg z (hs.imp λ{a b} h=>?_);show decide _=false
 simp_all
def iB(a3:ks.length<64)
  (Y:∀Q',(∀h' tk d' J z,(∀b o,s.heap.get? b=some o->h'.get? b=some o)->z.Perm ks->IntsAre J z->Q' J { s with heap:=h',toks:=tk,drawn:=d' }) ->
   wpAny (model P w) A.in1 (collect x) Q' E s)
  (h:∀(h1 h':Heap) tk d' out c,(∀b o,s.heap.get? b=some o->h1.get? b=some o)->(∀b o,h1.get? b=some o->h'.get? b=some o)->h'.get? h1.objs.size=some { cls:=.type "list",data:=.seq out.toArray c } ->
   IntsAre out (sortI ks)->Q (.ref h1.objs.size) { s with heap:=h',toks:=tk,drawn:=d' }) :
  wpAny (model P w) A (call (.builtin "sorted") [x]) Q E s:=by
 refine Calls.call_function_entry kind_sorted plain_sorted entry_sorted (args_sorted1 _) ?_;unfold Builtin.«sorted»;refine eh (gf ?_);refine eh (Y _ λh1 tk d1 J z kp hp hi=>?_);have a5:=hi.length;have a6:=hp.length_eq;refine eh (wpAny_newList ?_ (by rw[Ke];omega));have U:(h1.push (seqObj "list" J.toArray 0)).get? h1.objs.size=some _:=pe _ rfl;refine eh (Kg (J7 slot_list_sort ⟨_,U,rfl⟩ entry_list_sort (list_sort_tree U hi (by omega) λout a7 Z ao aO=>⟨_,rfl,?_⟩) (args_list_sort _)));obtain⟨c,hc⟩:=sortedHeap_at (out:=out) U;refine gf ⟨_,rfl,h h1 _ tk d1 out.toList c kp (λb o e=>?_) ?_ ?_⟩
 .have hb:=pb e;rw[sortedHeap_old (tr hb) (by rw[J4];exact J9 hb)];exact gk _ e
 .simp_all
 .rw[<- rK (ao.trans hp) aO];exact Z
def mV{vs:List Value}{z:List (List Int)}{Q:Value->Shared->Prop}(a1:vs.length<64)(hu:A.units+2<cLine)
  (hv:Paired (λu ts=>∃a its,u=Value.ref a/\IsTup s.heap a its/\IntsAre its.toList ts) vs z)
  (ao:∀Q',(∀h',(∀b o,s.heap.get? b=some o->h'.get? b=some o)->Q' vs { s with heap:=h' })->wpAny (model P w) A.in1 (collect x) Q' E s)
  (h:∀(h1 h':Heap) (p:Array Nat) (c:Nat),(∀b o,s.heap.get? b=some o->h1.get? b=some o)->(∀b o,h1.get? b=some o->h'.get? b=some o)->h'.get? h1.objs.size=some { cls:=.type "list",data:=.seq (p.toList.map λi=>vs.getD i Value.none).toArray c } ->
   PB vs.length p->p.toList.map (λi=>z.getD i [])=sortT z->Q (.ref h1.objs.size) { s with heap:=h' }) :
  wpAny (model P w) A (call (.builtin "sorted") [x]) Q E s:=by
 have J:vs.length=z.length:=Paired.length hv;refine Calls.call_function_entry kind_sorted plain_sorted entry_sorted (args_sorted1 _) ?_;unfold Builtin.«sorted»;refine eh (m:=checkCount "sorted" 1 1 _) (gf ?_);refine eh (ao _ λh1 kp=>?_);refine eh (wpAny_newList ?_ (by rw[Ke];omega));have U:(h1.push (seqObj "list" vs.toArray 0)).get? h1.objs.size=some (seqObj "list" vs.toArray 0):=pe _ rfl;have Y:∀(s':Shared),(∀b o,b≠h1.objs.size->(h1.push (seqObj "list" vs.toArray 0)).get? b=some o->s'.heap.get? b=some o)->∀i,i<vs.length->∃a its,vs.getD i Value.none=.ref a/\IsTup s'.heap a its/\IntsAre its.toList (z.getD i []):=λs' k i hi=>by
  have gen:∀{us:List Value}{Z:List (List Int)},Paired (λu ts=>∃a its,u=Value.ref a/\IsTup s.heap a its/\IntsAre its.toList ts) us Z->∀i,i<us.length->∃a its,us.getD i Value.none=.ref a/\IsTup s.heap a its/\IntsAre its.toList (Z.getD i []):=by
   intro us Z hp
   induction hp with
   |nil=>intro i hi;simp at hi
   |cons q _ ih =>
    intro i hi;cases i with
    |zero=>obtain⟨a,its,e,r⟩:=q;exact⟨a,its,by simpa using e,by simpa using r⟩
    |succ i=>obtain⟨a,its,e,r⟩:=ih i (by simpa using hi);exact⟨a,its,by simpa using e,by simpa using r⟩
  obtain⟨a,its,e,⟨o,ho,r⟩,a4⟩:=gen hv i hi;have aO:=kp a o ho;exact⟨a,its,e,⟨o,k a o (tr (pb aO)) (gk _ aO),r⟩,a4⟩
 refine eh (Kg (J7 slot_list_sort ⟨_,U,rfl⟩ entry_list_sort (qe (O:=fh) (key:=λi=>z.getD i []) U a1 (λh2 s' Q' k q=>wH h2 (λv hm=>?_) q) (λg a5 s' i j C k hi hj q=>?_) λp hp hr=>⟨_,rfl,?_⟩) (args_list_sort _)))
 .obtain⟨i,hi,e⟩:=MI hm;obtain⟨a,its,e',r1,r2⟩:=Y s' k i hi;exact⟨a,its,_,by rw[<- e',<- e];simp[hi],r1,r2⟩
 .obtain⟨a,its,e,r1,r2⟩:=Y s' k i hi;obtain⟨a',its',e',a9,bA⟩:=Y s' k j hj;rw[e,e'];exact BH a5 r1 a9 r2 bA (show A.units+1+1<cLine from hu) q
 .obtain⟨c,hc⟩:=sortedHeap_at (out:=(p.toList.map λi=>vs.getD i Value.none).toArray) (vs:=vs) U;have bB:PB z.length p:=by rw[<- J];exact hp
  have b0:fH (O:=fh) (λi=>z.getD i []) p z.length:=by rw[<- J];exact hr
  refine gf ⟨_,rfl,h h1 _ p c kp (λb o e=>?_) hc hp (Eb (O:=fh) (d:=([]:List Int)) (xs:=z) bB b0)⟩;have hb:b<h1.objs.size:=pb e;rw[sortedHeap_old (tr hb) (by rw[J4];exact J9 hb)];exact gk _ e
end
end Srt
section
variable{X:Cx}
def Inv.keptD(I:Inv X pins σ H s)(k:∀b u,s.heap.get? b=some u->h'.get? b=some u):Inv X pins σ H { s with heap:=h',toks:=t',drawn:=d' }:=
 I.call (g':=s.gens) (d':=d') (t':=t') (ch:=[]) (Un.kept k) (I.hok.kept k) I.bare λ_ z=>nomatch z
def o5:∀{vs}{ns},IntsAre vs ns->aG (ns.map V.int) vs:=kD
def Ee(X:Cx):List V->Hp->VK->Prop:=λxs H Q=>∃p ks,xs=[.ref p]/\(SqL X.K H p (ks.map V.int)\/SqT X.K H p (ks.map V.int)\/H p=some (ji X.prog X.w p ks))/\ks.length<64/\∀l,H l=none->Q (.ref l) (upd H l (.lst ((Srt.sortI ks).map V.int)))
def jT (hc:X.calm=true):bo X (.builtin "sorted") (Ee X):=by
 intro pins s σ H xs us Q I r h;obtain⟨p,ks,rfl,z,ao,q⟩:=h;obtain⟨u,rfl,rx⟩:=dB r;cases rx;have hh:=I.ok.hd hc;refine Srt.iB (ks:=ks) ao (λQ' J=>?_) λh1 h' tk d' out c k1 k2 e hi=>?_
 .rcases z with z|z|z
  .obtain⟨its,Z,pl,hz⟩:=I.list z;obtain⟨o,ho,U,n,hd⟩:=pl.isList;refine Mg p (.inl rfl) ho U hd (λh' kp=>?_) (by have:=Z.length;simp[oe]<;>omega);exact J h' s.toks s.drawn _ ks kp (.refl _) (by simpa using cq Z)
  .obtain⟨its,Z,pl,hz⟩:=I.tuple z;obtain⟨o,ho,U,n,hd⟩:=pl;refine Mg p (.inr rfl) ho U hd (λh' kp=>?_) (by have:=Z.length;simp[oe]<;>omega);exact J h' s.toks s.drawn _ ks kp (.refl _) (by simpa using cq Z)
  .exact St.rG (by first|exact hh|simpa using hh) (I.set z) λh' tk d' a0 Y kp hp hi=>J h' tk d' a0 Y kp hp hi
 .have I1:Inv X pins σ H { s with heap:=h1,toks:=tk,drawn:=d' }:=I.keptD k1;have I2:Inv X pins σ (upd H h1.objs.size (.lst ((Srt.sortI ks).map V.int))) { s with heap:=h',toks:=tk,drawn:=d' }:=
   I1.laid k2 (gx _) (show bI X.prog X.w _ h' _ _ from⟨by rw[nR,Srt.sortI_len,Ke];omega,out,c,o5 hi,e⟩)
  exact⟨.ref h1.objs.size,_,I2,rfl,q _ (I1.hok.fresh (gx _))⟩
def Ef(X:Cx):List V->Hp->VK->Prop:=λxs H Q=>∃(p:Addr) (vs:List V) (z:List (List Int)),xs=[.ref p]/\(SqL X.K H p vs\/SqT X.K H p vs)/\t4 X.K H vs z/\z.length<64 /\
 ∀l (pm:List Nat),H l=none->(∀i∈pm,i<vs.length)->pm.map (λi=>z.getD i [])=Srt.sortT z->Q (.ref l) (upd H l (.lst (pm.map λi=>vs.getD i .non)))
theorem o6(h:aG vs us):∀(l:List Nat),(∀i∈l,i<vs.length)->aG (l.map λi=>vs.getD i .non) (l.map λi=>us.getD i Value.none)
 | [],_=>.nil
 |i::l,z=>by
  have hi:=z i (.head _);obtain⟨u,U,Y⟩:=h.get (i:=i) (x:=vs[i]) (JR hi);refine .cons ?_ (o6 h l λj J=>z j (.tail _ J))
  simp_all
def qi (hu:X.A.units+64<cLine):bo X (.builtin "sorted") (Ef X):=by
 intro pins s σ H xs us Q I r h;obtain⟨p,vs,a4,rfl,Y,ht,a5,q⟩:=h;obtain⟨u,rfl,rx⟩:=dB r;cases rx;have key:∀its,aG vs its->vs.length<=sizeLine->(∀Q',(∀h',(∀b o,s.heap.get? b=some o->h'.get? b=some o)->Q' its { s with heap:=h' })->wpAny (model X.prog X.w) X.A.in1 (collect _) Q' X.xe s) ->
   wpAny _ X.A (call _ [.ref p]) (EP X pins σ Q) X.xe s:=λits z hz Z=>by
  have hl:=z.length;have a7:=ht.len;refine Srt.mV (by omega) (by omega) (I.tupsAt ht z) Z λh1 h' pm c k1 k2 e hp ho=>?_
  have ao:∀i∈pm.toList,i<vs.length:=λi hi=>by
   have:=(LY.mp hp).mem_iff.mp hi
   simp_all
  have I1:=I.kept (t':=s.toks) k1;have I2:Inv X pins σ (upd H h1.objs.size (.lst _)) { s with heap:=h' }:=
   I1.laid k2 (gx _) (show bI X.prog X.w _ h' _ _ from⟨by have:=hp.size;rw[nR,Array.length_toList,Ke];omega,_,c,o6 z _ ao,e⟩)
  exact⟨.ref h1.objs.size,_,I2,rfl,q _ pm.toList (I1.hok.fresh (gx _)) ao ho⟩
 rcases Y with Y|Y
 .obtain⟨its,z,pl,hz⟩:=I.list Y;obtain⟨o,ho,J,n,hd⟩:=pl.isList;refine key its z hz λQ' U=>Mg p (.inl rfl) ho J hd (λh' kp=>?_) (by have:=z.length;simp[oe]<;>omega)
  have:=U h' kp;simpa using this
 .obtain⟨its,z,pl,hz⟩:=I.tuple Y;obtain⟨o,ho,J,n,hd⟩:=pl;refine key its z hz λQ' U=>Mg p (.inr rfl) ho J hd (λh' kp=>?_) (by have:=z.length;simp[oe]<;>omega)
  have:=U h' kp;simpa using this
end
end L2
namespace L2.St
open PySem PyProof.Rows List Option
structure b6(P:Program)(w:World)(h:Heap)(a:Addr)(ks:List Int)(o:Obj)(es:Array (Int×Value))(ep:Nat)(t:SetTable):Prop where
 ho:h.get? a=some o
 ex:o.ExactSet
 hd:o.data=.set es ep t
 el:ElemsOf (intKind P w) es.toList
 pm:(es.toList.map λe=>numOf e.2).Perm ks
 nd:ks.Nodup
 bd:es.size<scanBound
 fi:t.fits es.size=true
theorem b_.w{w:World}(g:b_ P w h a ks):∃o es ep t,b6 P w h a ks o es ep t/\Gd (!byT w) t:=by
 refine aC λZq U=>?_
 obtain⟨o,es,ep,t,ho,z,hd,J,Y,Z,hb,hf,hg⟩:=g;refine U ?_;exact⟨o,es,ep,t,⟨ho,z,hd,J,Y,Z,hb,hf⟩,hg⟩
theorem b6.len(g:b6 P w h a ks o es ep t):es.size=ks.length:=by
 have:=g.pm.length_eq;simpa using this
theorem b6.at(g:b6 P w h a ks o es ep t)(k:∀o,h.get? a=some o->h'.get? a=some o):b6 P w h' a ks o es ep t:=
 ⟨k o g.ho,g.ex,g.hd,g.el,g.pm,g.nd,g.bd,g.fi⟩
section
variable{P:Program}{w:World}{A:Around}{E:Value->Shared->Prop}{s:Shared}
variable{a:Addr}{ks:List Int}{o:Obj}{es:Array (Int×Value)}{ep:Nat}{t:SetTable}
def yF(g:b6 P w s.heap a ks o es ep t)(J:t.led=!byT w){Q:Array (Int×Value)->Shared->Prop}(h:∀z d',z.toList.Perm es.toList->Q z { s with drawn:=d' }):wpAny (model P w) A (setWalk a) Q E s:=by
 unfold setWalk;refine eh (J1 g.ho g.hd g.fi ?_);dsimp only;refine eh (cZ ?_);cases U:byT w with
 |true =>
  rw[if_pos rfl];refine eh (Na (gf ?_));exact h _ s.drawn (oY _ _)
 |false =>
  rw[if_neg (by simp)];refine J3 (λ_=>?_) (λ_=>?_)
  .refine eh (ju es.size es.toList s (by simp) λys d' Y=>?_);exact gf (h _ d' (by simpa using Y))
  .refine eh ?_;rw[U]at J;show wpAny _ _ (if (!t.led&&decide _)=true then _ else _) _ _ s;rw[if_neg (by rw[J];simp)];exact gf (gf (h es s.drawn (.refl _)))
def vb:∀z,(∀b∈z,∃ks o es ep t,b6 P w s.heap b ks o es ep t)->∀{Q},Q true s->wpAny (model P w) A (setsQuiet z) Q E s:=by
 intro z hs Q hq;unfold setsQuiet;refine eh (wpAny_forIn_list _ (λbP b s'=>(∀c∈bP,c∈z)/\b.1=none/\s'=s) _ ?_ ?_ z _ ⟨λc hc=>hc,rfl,rfl⟩)
 .rintro c bP b s' ⟨hc,hb,rfl⟩;obtain⟨ks,o,es,ep,t,g⟩:=hs c (hc c (.head _));refine eh (MA g.ho g.hd g.fi ?_);refine eh (MO _ (λbP b J=>(∀e∈bP,e∈es.toList)/\b.1=none/\J=s') _ ?_ ?_ es _ ⟨λe Y=>Y,rfl,rfl⟩)
  .rintro e Z b' J ⟨Y,U,rfl⟩;obtain⟨t',q⟩:=fc g.el e (Y e (.head _));obtain⟨hx,x⟩:=e;dsimp only at q ⊢;rw[q];exact gf ⟨λe' ao=>Y e' (.tail _ ao),rfl,rfl⟩
  .rintro b' J ⟨_,U,rfl⟩;dsimp only;rw[U];exact gf ⟨λc' aO=>hc c' (.tail _ aO),rfl,rfl⟩
 .rintro b s' ⟨_,hb,rfl⟩;dsimp only;rw[hb];exact gf hq
def yG(g:b6 P w s.heap a ks o es ep t)(U:t.led=!byT w){others:List Addr}(hs:∀b∈others,∃ks o es ep t,b6 P w s.heap b ks o es ep t){Q:Array (Int×Value)->Shared->Prop}
  (h:∀z d',z.toList.Perm es.toList->Q z { s with drawn:=d' }):wpAny (model P w) A (setWalkUnseen a others none) Q E s:=by
 refine eh (J1 g.ho g.hd g.fi ?_);dsimp only;refine eh (cZ ?_);refine J3 (λ_=>?_) (λ_=>?_)
 .exact yF g U h
 .refine eh (vb _ (λb J=>?_) ?_)
  .rcases tf.mp J with rfl|J
   .exact⟨_,_,_,_,_,g⟩
   .exact hs b J
  .simp only[LZ,JV];refine eh (Ll ?_);exact gf (h es s.drawn (.refl _))
def yH(g:b6 P w s.heap a ks o es ep t)(hl:t.led=!byT w){others:List Addr}(hs:∀b∈others,∃ks o es ep t,b6 P w s.heap b ks o es ep t){f:Addr}(Y:b_ P w s.heap f []){Q:Array (Int×Value)->Shared->Prop}
  (h:∀J d' h',J.toList.Perm es.toList->Heap.SameBut f s.heap h'->b_ P w h' f []->Q J { s with drawn:=d',heap:=h' }):wpAny (model P w) A (setWalkUnseen a others (some f)) Q E s:=by
 unfold setWalkUnseen;refine eh (J1 g.ho g.hd g.fi ?_);dsimp only;refine eh (cZ ?_);refine J3 (λ_=>?_) (λ_=>?_)
 .exact yF g hl λJ d' hp=>h J d' s.heap hp (Li f s.heap) Y
 .refine eh (vb (a::others) (λb Z=>?_) ?_)
  .rcases tf.mp Z with rfl|Z
   .exact⟨_,_,_,_,_,g⟩
   .exact hs b Z
  .simp only[LZ,JV,KH];refine eh (Ll ?_);obtain⟨of,ef,a3,U,z,gd⟩:=Y.w;refine eh (J1 z.ho z.hd z.fi ?_);dsimp only;refine J3 (λ_=>?_) (λ_=>?_)
   .have ao:({ U with led:=U.led&&t.led,plain:=U.plain&&t.plain }:SetTable).fits ef.size=true:=z.fi;have aO:Gd (!byT w) ({ U with led:=U.led&&t.led,plain:=U.plain&&t.plain }:SetTable):=⟨by show(U.led&&t.led)=_;rw[gd.led,hl];simp,gd.dum,gd.rise⟩;refine eh (Lj z.ho z.hd ?_ (K3 z.bd));have g2:=u6 (P:=P) (w:=w) z.ho z.ex z.hd ⟨z.el,z.pm,z.nd,z.bd,ao,aO⟩;exact gf (h es s.drawn _ (.refl _) (J8 _ f _) g2)
   .exact gf (h es s.drawn s.heap (.refl _) (Li f s.heap) Y)
def yI(g:b6 P w s.heap a ks o es ep t){k:Int}{tk:Tok}{Q:Option Nat->Shared->Prop}(h:Q (es.toList.findIdx? λe=>(intKind P w).is k e.2) s):wpAny (model P w) A (setFind a (.int k tk) (hashInt k)) Q E s:=by
 have z:(intKind P w).is k (.int k tk)=true:=M1 _ _ _ _;have J:(Value.int k tk).scannable=true:=rfl;unfold setFind setFindIn;refine eh (J1 g.ho g.hd g.fi ?_);dsimp only;rw[byScan_of J g.bd g.el];simp only[↓reduceIte];refine eh (Ll ?_);refine eh (wpAny_setScan_of (knd:=intKind P w) z g.ho g.hd g.fi g.el ?_);cases U:findIdx? (λe=>(intKind P w).is k e.2) es.toList with
 |some j =>
  rw[U]at h;dsimp only;rw[Lp];exact gf h
 |none =>
  rw[U]at h;exact gf h
theorem b6.mem(g:b6 P w s.heap a ks o es ep t) :k∈ks ↔ ∃e∈es.toList,(intKind P w).is k e.2=true:=by
 rw[<- g.pm.mem_iff,mem_map];constructor
 .rintro ⟨e,z,q⟩;exact⟨e,z,(jt g.el z k).mpr q⟩
 .rintro ⟨e,z,q⟩;exact⟨e,z,(jt g.el z k).mp q⟩
def rL(g:b6 P w s.heap a ks o es ep t)(k):(es.toList.findIdx? λe=>(intKind P w).is k e.2).isSome=decide (k∈ks):=by
 rw[Kv,Kb,g.mem,findIdx?_isSome,K8]
end
section
variable{P:Program}{w:World}{A:Around}{E:Value->Shared->Prop}{s:Shared}
def b6.type (g:b6 P w s.heap a ks o es ep t):s.TypeIs (.ref a) "set":=⟨o,g.ho,g.ex.1⟩
def jU (z:s.TypeIs (.ref a) "set") {Q:Bool->Shared->Prop} (h:Q true s):wpAny (model P w) A (Builtin.Frozenset.isAnySet (.ref a)) Q E s:=by
 refine eh (KJ z F.sub_set_set ?_);exact gf h
def rM (z:s.TypeIs (.ref a) "set") {Q:Value->Shared->Prop} (h:Q (.type "set") s):wpAny (model P w) A (Builtin.Frozenset.baseOf a) Q E s:=by
 refine eh (KJ z F.sub_set_set ?_);exact gf h
def gi(g:b6 P w s.heap a ks o es ep t){Q:Nat->Shared->Prop}(h:Q ks.length s):wpAny (model P w) A (Builtin.Frozenset.sizeOf a) Q E s:=by
 refine eh (MA g.ho g.hd g.fi ?_);rw[<- g.len]at h;exact gf h
def Eg{id:String}{a:Addr}{ks:List Int}{o:Obj}{es:Array (Int×Value)}{ep:Nat}{t:SetTable}(g:b6 P w s.heap a ks o es ep t){α:Type}{x:α}{R:α->Shared->Prop}(h:R x s):wpAny (model P w) A (Builtin.Frozenset.unchanged id a ep >>= λ_=>pure x) R E s:=by
 unfold Builtin.Frozenset.unchanged;refine eh (eh (Lk g.ho g.hd g.fi ?_));simp only[LG,JV,KH];exact gf (gf h)
def Eh{id:String}{a b:Addr}{ks js:List Int}{Q:Value->Shared->Prop}(ga:b_ P w s.heap a ks)(gb:b_ P w s.heap b js)(b4:¬ ks.length / 4 > js.length)
  (h:∀h' d' J,(∀c o,s.heap.get? c=some o->h'.get? c=some o)->J.Perm (ks.filter λk=>!decide (k∈js))->b_ P w h' s.heap.objs.size J->Q (.ref s.heap.objs.size) { s with heap:=h',drawn:=d' }) :
  wpAny (model P w) A (Builtin.Frozenset.difference id a (.ref b)) Q E s:=by
 obtain⟨oa,ea,c5,ta,Z,b5⟩:=ga.w;obtain⟨ob,eb,c6,tb,wb,df⟩:=gb.w;unfold Builtin.Frozenset.difference;refine eh (jU wb.type ?_);simp only[LZ,JV,KH,MF,if_true,Builtin.Frozenset.addrOf,pure_bind];refine eh (gi wb ?_);refine eh (gi Z ?_);rw[if_neg b4];refine eh (rM Z.type ?_);refine eh (qg ?_);have keep:∀c o,s.heap.get? c=some o->(s.heap.push (bp w)).get? c=some o:=λc o e=>gk _ e
 have ao:=Z.at (keep a);have cd:=wb.at (keep b);have gn:b_ P w (s.heap.push (bp w)) s.heap.objs.size []:=rF _;have ha:=tr (pb Z.ho);have hb:=tr (pb wb.ho);refine eh (gf ?_);refine eh (Lk (s:={ s with heap:=s.heap.push (bp w) }) ao.ho ao.hd ao.fi ?_);refine eh (Kg ?_);refine eh (yH (s:={ s with heap:=s.heap.push (bp w) }) ao b5.led (others:=[b,s.heap.objs.size]) (λc hc=>?_) gn λaO d0 h0 hp cl g0=>?_)
 .rcases tf.mp hc with rfl|hc
  .exact⟨_,_,_,_,_,cd⟩
  .rw[JY.mp hc];obtain⟨_,_,_,_,q,_⟩:=gn.w;exact⟨_,_,_,_,_,q⟩
 have a2:=Z.el.perm hp;have hK:=(hp.map _).trans Z.pm;have a7:=hK.nodup_iff.mpr Z.nd;refine eh (MO _ (λbP _ s'=>∃dn h' d' J,dn++bP=aO.toList/\s'={ s with heap:=h',drawn:=d' }/\Heap.SameBut s.heap.objs.size (s.heap.push (bp w)) h'/\b_ P w h' s.heap.objs.size J/\J.Perm ((dn.map λe:Int×Value=>numOf e.2).filter λk=>!decide (k∈js))) _ ?_ ?_ aO _ ⟨[],h0,d0,[],rfl,rfl,cl,g0,by simp⟩)
 .rintro ⟨hx,x⟩ bP u s' ⟨dn,h',d',J,e1,rfl,sb,gl,pl⟩;have U:(hx,x)∈aO.toList:=by rw[<- e1];simp
  obtain⟨t',q⟩:=fc a2 _ U;obtain⟨⟨k0,cr,a0⟩,_⟩:=a2 _ U;have a4:=(jt a2 U k0).mp cr;dsimp only at q a4 a0;generalize numOf x=k at q a4;subst q a4;have a0:=a0;subst a0;have Y:∀c o,c≠s.heap.objs.size->s.heap.get? c=some o->h'.get? c=some o:=λc o hc e=>(sb.2 c hc).trans (keep c o e)
  have bA:=Z.at λo e=>Y a o ha e
  have bB:=wb.at λo e=>Y b o hb e
  dsimp only;have b0:numOf (Value.int k t')=k:=rfl;have cC:k∉J:=λz=>by
   have:=pl.mem_iff.mp z;have:=(JU.mp this).1;rw[<- e1,Ko,JO]at a7;exact(LQ.mp a7).2.2 k this k (by rw[b0];exact .head _) rfl
  refine eh (Kg ?_);refine eh (yI (s:={ s with heap:=h',drawn:=d' }) bB ?_);rw[rL (s:={ s with heap:=h',drawn:=d' }) bB k];by_cases hj:k∈js
  .simp only[hj,decide_true,LZ,JV,KH];refine gf (Eg (s:={ s with heap:=h',drawn:=d' }) bA ⟨dn++[(hashInt k,Value.int k t')],h',d',J,by rw[KS];exact e1,rfl,sb,gl,?_⟩)
   simp_all
  .simp only[hj,decide_false,Bool.not_false,if_true];have a5:J.length+1<scanBound:=by
    have h1:=pl.length_eq;have h2:=LW (λk=>!decide (k∈js)) (dn.map λe:Int×Value=>numOf e.2);rw[nR]at h2;have h3:aO.toList.length<scanBound:=by rw[hp.length_eq,Array.length_toList];exact Z.bd
    rw[<- e1,wh,length_cons]at h3;omega
   refine eh (oW (s:={ s with heap:=h',drawn:=d' }) gl a5 λb1 b' b2 g2=>?_);rw[if_neg cC]at g2;have cP:=bA.at λo e=>(b2.2 a ha).trans e
   refine gf (Eg (s:={ s with heap:=b1,drawn:=d' }) cP ⟨dn++[(hashInt k,Value.int k t')],b1,d',k::J,by rw[KS];exact e1,rfl,sb.trans b2,g2,?_⟩);rw[Ko,filter_append];have:filter (λk=>!decide (k∈js)) (map (λe:Int×Value=>numOf e.2) [(hashInt k,Value.int k t')])=[k]:=by simp[b0,hj]
   rw[this];exact(Perm.cons k pl).trans (LU (l₁:=[k]))
 .rintro u s' ⟨dn,h',d',J,e1,rfl,sb,gl,pl⟩;rw[K0]at e1;subst e1;refine gf (gf (h h' d' J (λc o e=>?_) (pl.trans (hK.filter _)) gl));exact(sb.2 c (tr (pb e))).trans (keep c o e)
end
noncomputable def itL(m:Nat):Nat->Nat->Nat
 |0,i=>i
 |t+1,i=>itL m t ((i*5+1) % (m+1))
theorem lV(m):∀a b i,itL m (a+b) i=itL m b (itL m a i)
 |0,b,i=>by rw[Lp];rfl
 |a+1,b,i=>by rw[Ky];exact lV m a b _
noncomputable def gj(m:Nat):Bool:=itL m (m+1) 0==0&&(range (m+1)).all λj=>(range (m+1)).any λt=>itL m t 0==j
theorem vc(h:itL m (m+1) 0=0):∀q r,itL m (q*(m+1)+r) 0=itL m r 0
 |0,r=>by simp
 |q+1,r=>by
  have e:(q+1)*(m+1)+r=(m+1)+(q*(m+1)+r):=by rw[Nat.succ_mul];omega
  rw[e,lV,h,vc h q r]
def cov{m:Nat}(h:gj m=true){i j:Nat}(hi:i<=m)(Y:j<=m):∃t,t<=m/\itL m t i=j:=by
 unfold gj at h;rw[il,JQ,Lo]at h;obtain⟨Z,h1⟩:=h;have z:∀x,x<=m->∃t,t<=m/\itL m t 0=x:=λx hx=>by
  have:=h1 x (K4.mpr (by omega));rw[K8]at this;obtain⟨t,ht,e⟩:=this;exact⟨t,by have:=K4.mp ht;omega,by simpa using e⟩
 obtain⟨a,ha,J⟩:=z i hi;obtain⟨b,hb,U⟩:=z j Y;rcases Nat.lt_or_ge b a with c|c
 .obtain⟨k,rfl⟩:=K6 c;refine⟨m-k,Mc m k,?_⟩;rw[<- J,<- lV,show b+k+1+(m-k)=1*(m+1)+b by omega,vc Z,U]
 .refine⟨b-a,r4 (Mc b a) hb,?_⟩;rw[<- J,<- lV,Mz c,U]
def Da:gj 7=true:=rfl
def Ei:gj 15=true:=rfl
def Ej:gj 31=true:=rfl
def Ek:gj 63=true:=by decide +kernel
def BK:gj 127=true:=by decide +kernel
def BL:gj 255=true:=by decide +kernel
noncomputable def lp(m:Nat):Nat->Nat×Nat->Nat×Nat
 |0,p=>p
 |t+1,p=>lp m t (SetTable.leap m p.1 p.2)
theorem yJ(m):∀a b p,lp m (a+b) p=lp m b (lp m a p)
 |0,b,p=>by rw[Lp];rfl
 |a+1,b,p=>by rw[Ky];exact yJ m a b _
theorem vd(m):∀t i,lp m t (i,0)=(itL m t i,0)
 |0,_=>rfl
 |t+1,i=>by
  show lp m t (SetTable.leap m i 0)=_;have:SetTable.leap m i 0=((i*5+1) % (m+1),0):=by simp[SetTable.leap]
  rw[this,vd m t]
  rfl
theorem Db(m):∀t p,p.1<=m->(lp m t p).1<=m
 |0,_,h=>h
 |t+1,p,_=>Db m t _ (by
  show(p.1*5+1+p.2 / 32) % (m+1)<=m;have:=Nj (p.1*5+1+p.2 / 32) (show 0<m+1 by omega);omega)
theorem ve(m):∀t p,(lp m t p).2=p.2 / 32 ^ t
 |0,p=>by simp[lp]
 |t+1,p=>by
  show(lp m t (SetTable.leap m p.1 p.2)).2=_;rw[ve m t];show p.2 / 32 / 32 ^ t=_;rw[Nat.div_div_eq_div_mul,Nat.pow_succ,Nat.mul_comm]
theorem o7 :∀z i p,SetTable.layClean.free m ow z i p=none->∀t,t<z->(ow.getD (lp m t (i,p)).1 (some 0)).isNone=false
 |0,_,_,_,t,h=>absurd h (by omega)
 |z+1,i,p,e,t,h=>by
  rw[SetTable.layClean.free]at e;split at e
  .cases e
  .rename_i q;cases t with
   |zero =>
    have:=MR.mp q 0 (K4.mpr (by unfold SetTable.runEnd;split<;>omega));exact(Mm _).mp this
   |succ t=>exact o7 z _ _ e t (by omega)
theorem o8 :∀z i p k,SetTable.layClean.free m ow z i p=some k->(ow.getD k (some 0)).isNone=true
 |0,_,_,_,e=>by cases e
 |z+1,i,p,k,e=>by
  rw[SetTable.layClean.free]at e;split at e
  .rename_i q;cases e;exact find?_some (p:=λk=>(ow.getD (i+k) (some 0)).isNone) q
  .exact o8 z _ _ k e
def BM(U:gj m=true)(Y:j<=m)(Z:(ow.getD j (some 0)).isNone=true)(hi:i<=m)(hp:p<2 ^ 64):∃k,SetTable.layClean.free m ow (SetTable.turns m) i p=some k/\(ow.getD k (some 0)).isNone=true:=by
 cases e:SetTable.layClean.free m ow (SetTable.turns m) i p with
 |some k=>exact⟨k,rfl,o8 _ _ _ _ e⟩
 |none =>
  exfalso;have q:=o7 _ _ _ e;obtain⟨t,ht,et⟩:=cov U (Db m 13 (i,p) hi) Y;have z:(lp m 13 (i,p)).2=0:=by
   rw[ve];exact Nat.div_eq_of_lt (uw hp (by decide))
  have J:lp m 13 (i,p)=((lp m 13 (i,p)).1,0):=by rw[<- z]
  have:=q (13+t) (by unfold SetTable.turns;omega);rw[yJ,J,vd,et]at this;rw[Z]at this;cases this
noncomputable def vals(m:Nat)(ow:Array (Option Nat)):List Nat:=(range (m+1)).filterMap λj=>ow.getD j none
theorem yK{j k:Nat}(h1:g j=none)(h2:g' j=some k)(U:∀x,x≠j->g' x=g x):∀l:List Nat,l.Nodup->j∈l->(l.filterMap g').Perm (k::l.filterMap g)
 | [],_,h=>by cases h
 |x::l,Y,h=>by
  obtain⟨Z,n2⟩:=Kh.mp Y;by_cases e:x=j
  .subst e;rw[MB h1,L1 h2];have:∀J:List Nat,x∉J->J.filterMap g'=J.filterMap g:=by
    intro J
    induction J with
    |nil=>intro _;rfl
    |cons y J ih =>
     intro hx;have hy:y≠x:=λz=>hx (z ▸ .head _)
     rw[filterMap_cons,filterMap_cons,U y hy,ih λz=>hx (.tail _ z)]
   rw[this l Z]
  .have hm:=(tf.mp h).resolve_left λz=>e z.symm
   have ih:=yK h1 h2 U l n2 hm;cases q:g x with
   |none =>
    rw[MB q,MB ((U x e).trans q)];exact ih
   |some v =>
    rw[L1 q,L1 ((U x e).trans q)];exact(Perm.cons v ih).trans (Perm.swap k v _)
theorem yL{g:Nat->Option Nat}:∀l:List Nat,(∀x∈l,g x≠none)->(l.filterMap g).length=l.length
 | [],_=>rfl
 |x::l,h=>by
  cases q:g x with
  |none=>exact absurd q (h x (.head _))
  |some v =>
   rw[L1 q,length_cons,length_cons,yL l λy z=>h y (.tail _ z)]
def yM(hs:ow.size=m+1)(h:(vals m ow).length<=m):∃j,j<=m/\(ow.getD j (some 0)).isNone=true:=by
 cases Classical.em (∃j,j<=m/\ow.getD j none=none)with
 |inl q =>
  obtain⟨j,U,e⟩:=q;refine⟨j,U,?_⟩;have J:j<ow.size:=by omega
  simp[Array.getD,J]at e ⊢;exact e
 |inr q =>
  have:=yL (g:=λj=>ow.getD j none) (range (m+1)) λx hx z=>q ⟨x,by have:=K4.mp hx;omega,z⟩
  unfold vals at h;rw[this,Mu]at h;omega
noncomputable abbrev El(m:Nat):Option (Array (Option Nat)×Nat)->Int->Option (Array (Option Nat)×Nat):=λacc h=>do
  let (owner,k) <- acc
  let j <- SetTable.layClean.free m owner (SetTable.turns m) (SetTable.bits h % (m+1)) (SetTable.bits h)
  pure (owner.setIfInBounds j (some k),k+1)
def BN(h):SetTable.bits h<2 ^ 64:=by grind [SetTable.bits]
theorem yN(hg:gj m=true):∀(hs:List Int) ow k,ow.size=m+1->(vals m ow).Perm (range k)->k+hs.length<=m ->
  ∃J,hs.foldl (El m) (some (ow,k))=some (J,k+hs.length)/\J.size=m+1/\(vals m J).Perm (range (k+hs.length))
 | [],ow,k,h1,h2,_=>⟨ow,rfl,h1,h2⟩
 |h::hs,ow,k,h1,h2,h3=>by
  refine aC λZq kq=>?_
  rw[length_cons]at h3;have hl:=h2.length_eq;rw[Mu]at hl;obtain⟨j0,Y,Z⟩:=yM h1 (by omega);obtain⟨j,ej,hj⟩:=BM hg (ow:=ow) (i:=SetTable.bits h % (m+1)) (p:=SetTable.bits h) Y Z (by have:=Nj (SetTable.bits h) (show 0<m+1 by omega);omega) (BN h);have U:j<ow.size:=by
   refine Decidable.byContradiction λz=>?_
   simp[Array.getD,z]at hj
  have e1:El m (some (ow,k)) h=some (ow.setIfInBounds j (some k),k+1):=by
   show(Option.bind (SetTable.layClean.free m ow (SetTable.turns m) (SetTable.bits h % (m+1)) (SetTable.bits h)) _)=_;rw[ej]
   rfl
  have hv:(vals m (ow.setIfInBounds j (some k))).Perm (range (k+1)):=by
   refine(yK (g:=λj=>ow.getD j none) (j:=j) (k:=k) ?_ ?_ ?_ (range (m+1)) nodup_range (K4.mpr (by omega))).trans ?_
   .simp[Array.getD,U]at hj ⊢;exact hj
   .simp[Array.getD,U]
   .intro x hx;simp only[Ld,Array.getElem?_setIfInBounds];rw[if_neg λz=>hx z.symm]
   .rw[range_succ (n:=k)];exact(Perm.cons k h2).trans (LU (l₁:=[k]))
  obtain⟨J,q1,q2,q3⟩:=yN hg hs (ow.setIfInBounds j (some k)) (k+1) (by rw[Array.size_setIfInBounds];exact h1) hv (by omega);refine kq ?_;refine⟨J,?_,q2,?_⟩
  .rw[foldl_cons,e1,q1,length_cons]
   congr 2;omega
  .rw[length_cons]
   grind
def vf(Y:gj m=true){led plain:Bool}(h:hs.size<=m):∃t z,SetTable.laid m f mv led plain hs=some (t,z)/\z.toList.Perm (range hs.size)/\t.place.size=hs.size/\t.mask=m/\t.dummies=#[]:=by
 have Z:(vals m (Array.replicate (m+1) none)).Perm (range 0):=by
  have:vals m (Array.replicate (m+1) none)=[]:=by
   unfold vals
   simp_all
  rw[this];simp
 obtain⟨ow,U,e2,J⟩:=yN Y hs.toList (Array.replicate (m+1) none) 0 (by simp) Z (by simpa using h);rw[Lp,Array.length_toList]at U J;have ec:SetTable.layClean m hs=some ow:=by
  unfold SetTable.layClean;rw[<- Array.foldl_toList];show Option.map _ (hs.toList.foldl (El m) _)=_;rw[U]
  rfl
 have el:((range (m+1)).filterMap λj=>(ow.getD j none).map (j,·)).map (·.2)=vals m ow:=by
  unfold vals;rw[map_filterMap]
  congr 1
  funext j
  cases ow.getD j none<;>rfl
 refine⟨_,_,by unfold SetTable.laid;rw[ec];rfl,?_,?_,rfl,rfl⟩
 .show(map _ _).Perm _;rw[el];exact J
 .show(map _ _).toArray.size=_;rw[oe,nR];have:=J5 List.length el;rw[nR]at this;rw[this,J.length_eq,Mu]
def G8:∀n,n<241->(SetTable.sizeAbove n=8\/SetTable.sizeAbove n=16\/SetTable.sizeAbove n=32\/SetTable.sizeAbove n=64\/SetTable.sizeAbove n=128\/SetTable.sizeAbove n=256)/\n<SetTable.sizeAbove n:=by decide +kernel
def vg(h:n<241):gj (SetTable.sizeAbove n-1)=true/\n<=SetTable.sizeAbove n-1/\SetTable.sizeAbove n<=256:=by
 obtain⟨h1,h2⟩:=G8 n h;refine⟨?_,by omega,by omega⟩;rcases h1 with e|e|e|e|e|e<;>rw[e]
 .exact Da
 .exact Ei
 .exact Ej
 .exact Ek
 .exact BK
 .exact BL
def mW{es:Array (Int×Value)}{z:Array Nat}(h:z.toList.Perm (range es.size)):(z.filterMap (es[·]?)).toList.Perm es.toList:=by
 rw[Array.toList_filterMap];refine(h.filterMap _).trans ?_;have:=PySem.List.filterMap_getElem?_range_length es.toList
 simp_all
section
variable{P:Program}{w:World}{A:Around}{E:Value->Shared->Prop}{s:Shared}
variable{a:Addr}{ks:List Int}{o:Obj}{es:Array (Int×Value)}{ep:Nat}{t:SetTable}
def lW(g:b6 P w h a ks o es ep t)(J:ElemsOf (intKind P w) z.toList)(U:(z.toList.map λe=>numOf e.2).Perm ks')(Y:ks'.Nodup)(Z:z.size<scanBound)(hf:t'.fits z.size=true) :
  b6 P w (h.update a (Obj.putSet z t')) a ks' { o with data:=.set z (ep+1) t' } z (ep+1) t':=by
 have hq:(h.update a (Obj.putSet z t')).get? a=some { o with data:=.set z (ep+1) t' }:=by
  have:=Ki (Obj.putSet z t') g.ho (by rw[putSet_of z t' g.hd];rfl);rw[putSet_of z t' g.hd]at this;exact this
 exact⟨hq,g.ex,rfl,J,U,Y,Z,hf⟩
def BO:(256:Nat)<=sizeLine:=by simp_all [Ke]
def vh(g:b6 P w s.heap a ks o es ep t){z:Nat}(hw:z<241)(hn:es.size<=z){Q:Unit->Shared->Prop}
  (h:∀h' o' ao aO t',Heap.SameBut a s.heap h'->b6 P w h' a ks o' ao aO t'->t'.dummies=#[]->t'.mask=SetTable.sizeAbove z-1->Q () { s with heap:=h' }):wpAny (model P w) A (setRelay a z) Q E s:=by
 obtain⟨hg,a7,hz⟩:=vg hw;unfold setRelay;refine eh (J1 g.ho g.hd g.fi ?_);dsimp only;rw[if_neg (by have:=BO;omega)];obtain⟨t',J,e1,e2,e3,e4,e5⟩:=vf hg (f:=t.finger) (mv:=t.movedTo (SetTable.sizeAbove z-1)) (led:=t.led) (plain:=t.plain) (hs:=es.map (·.1)) (by rw[Md];omega);have a1:t.relaid (es.map (·.1)) z=some (t',J):=e1;rw[Md]at e2 e3;have hp:=mW e2;have Y:(J.filterMap (es[·]?)).size=es.size:=by rw[<- Array.length_toList,hp.length_eq,Array.length_toList]
 rw[a1];refine eh (MK (a:=(J.filterMap (es[·]?),t')) ?_ ?_)
 .show(if ((J.filterMap (es[·]?)).size != es.size)=true then _ else _)=_
  simp_all
 .dsimp only;have Z:(J.filterMap (es[·]?)).size<scanBound:=by rw[Y];exact g.bd
  have a3:t'.fits (J.filterMap (es[·]?)).size=true:=by
   have U:t'.fill=es.size:=by unfold SetTable.fill;rw[e5,e3];simp
   simp only[SetTable.fits,U,il,JQ,Ks];exact⟨by rw[e3,Y],by omega⟩
  refine Lj g.ho g.hd ?_ (K3 Z);exact h _ _ _ _ _ (J8 _ a _) (lW g (g.el.perm hp) ((hp.map _).trans g.pm) g.nd Z a3) e5 e4
def Em(g:b6 P w s.heap a [] o es ep t)(hd:t.dummies=#[])(Z:t.mask=7){n:Nat}(hn:n<=60){Q:Unit->Shared->Prop}
  (h:∀h' o' J U t',Heap.SameBut a s.heap h'->b6 P w h' a [] o' J U t'->t'.dummies=#[]->gj t'.mask=true->n<=t'.mask->Q () { s with heap:=h' }):wpAny (model P w) A (setRoomFor a n) Q E s:=by
 have hz:es.size=0:=g.len;have Y:t.place.size=0:=by
  have:=g.fi;simp only[SetTable.fits,il,JQ]at this;omega
 have z:t.fill=0:=by unfold SetTable.fill;rw[hd,Y];rfl
 unfold setRoomFor;refine eh (J1 g.ho g.hd g.fi ?_);have er:t.roomFor n=if (0+n)*5>=7*3 then some ((0+n)*2)else none:=by
  unfold SetTable.roomFor;rw[z,Y,Z]
 dsimp only;rw[er];by_cases c:(0+n)*5>=7*3
 .rw[if_pos c];dsimp only;have hw:(0+n)*2<241:=by omega
  refine vh g hw (by omega) λh' o' J U t' sb g' h1 h2=>?_
  obtain⟨q1,q2,_⟩:=vg hw
  grind
 .rw[if_neg c];exact gf (h s.heap o es ep t (Li a s.heap) g hd (by rw[Z];exact Da) (by omega))
def Eo(g:b6 P w s.heap a ks o es ep t)(h0:0<ks.length)(hn:ks.length<=60){Q:Value->Shared->Prop}
  (h:∀h' o' U Z t',(∀c o,s.heap.get? c=some o->h'.get? c=some o)->b6 P w h' s.heap.objs.size ks o' U Z t'->Q (.ref s.heap.objs.size) { s with heap:=h' }):wpAny (model P w) A (Builtin.Frozenset.copyOf a) Q E s:=by
 have keep:∀c o,s.heap.get? c=some o->(s.heap.push (bp w)).get? c=some o:=λc o e=>gk _ e
 have ha:=tr (pb g.ho);unfold Builtin.Frozenset.copyOf;refine eh (rM g.type ?_);refine eh (qg ?_);simp only[Builtin.Frozenset.addrOf,pure_bind];have g1:b6 P w (s.heap.push (bp w)) s.heap.objs.size [] (bp w) #[] 0 (.fresh 0 0 (!byT w)):=⟨pe _ rfl,⟨rfl,rfl,rfl⟩,rfl,λe he=>by simp at he,by simp,K5,by decide,by rfl⟩;have a2:(s.heap.objs.size==a)=false:=by simpa using λz=>ha z.symm
 have ga:=g.at (keep a);have a4:es.isEmpty=false:=by
  have:=g.len;rw[Array.isEmpty_eq_false_iff];intro z
  simp_all
 unfold setMerge;rw[a2];simp only[JV,KH,Mi];refine eh (J1 (s:={ s with heap:=s.heap.push (bp w) }) ga.ho ga.hd ga.fi ?_);simp only[a4,JV,KH,Mi];refine eh (Em (s:={ s with heap:=s.heap.push (bp w) }) g1 rfl rfl (n:=es.size) (by have:=g.len;omega) λh' o' U Z t' sb g' hd hm b3=>?_);have fin:∀h' o' U Z t',Heap.SameBut s.heap.objs.size (s.heap.push (bp w)) h'->b6 P w h' s.heap.objs.size ks o' U Z t'->Q (.ref s.heap.objs.size) { s with heap:=h' }:=λh' o' U Z t' sb g' =>
  h h' o' U Z t' (λc o e=>(sb.2 c (tr (pb e))).trans (keep c o e)) g'
 refine eh (J1 (s:={ s with heap:=h' }) g'.ho g'.hd g'.fi ?_);have hz:U.size=0:=g'.len;have a5:t'.place.size=0:=by
  have:=g'.fi;simp only[SetTable.fits,il,JQ]at this;omega
 have Y:t'.fill=0:=by unfold SetTable.fill;rw[hd,a5];rfl
 have ao:t'.road t=if (t'.mask==t.mask&&t.dummies.isEmpty)=true then .slotForSlot else .clean:=by
  unfold SetTable.road;rw[Y]
  rfl
 dsimp only;rw[ao];by_cases c:(t'.mask==t.mask&&t.dummies.isEmpty)=true
 .rw[if_pos c];dsimp only;refine eh (Lj (s:={ s with heap:=h' }) g'.ho g'.hd ?_ (K3 g.bd));refine gf (fin _ _ _ _ _ (sb.trans (J8 _ _ _)) (lW g' g.el g.pm g.nd g.bd ?_));exact g.fi
 .rw[if_neg c];dsimp only;refine aC λZq kq=>?_
  obtain⟨t2,J,e1,e2,e3,e4,e5⟩:=vf hm (f:=t'.finger) (mv:=t'.moves) (led:=t'.led&&t.led) (plain:=t'.plain&&t.plain) (hs:=es.map (·.1)) (by rw[Md];have:=g.len;omega);rw[Md]at e2 e3;have hp:=mW e2;have aO:(J.filterMap (es[·]?)).size=es.size:=by rw[<- Array.length_toList,hp.length_eq,Array.length_toList]
  have a0:(J.filterMap (es[·]?)).size<scanBound:=by rw[aO];exact g.bd
  refine kq ?_;rw[e1];simp only[Mi];refine eh (MK (a:=(J.filterMap (es[·]?),t2)) ?_ ?_)
  .show(if ((J.filterMap (es[·]?)).size != es.size)=true then _ else _)=_;rw[if_neg (by rw[aO];simp)]
  .dsimp only;have a8:t2.fits (J.filterMap (es[·]?)).size=true:=by
    have Y:t2.fill=es.size:=by unfold SetTable.fill;rw[e5,e3];simp
    simp only[SetTable.fits,Y,il,JQ,Ks]
    simp_all
   refine eh (Lj (s:={ s with heap:=h' }) g'.ho g'.hd ?_ (K3 a0));exact gf (fin _ _ _ _ _ (sb.trans (J8 _ _ _)) (lW g' (g.el.perm hp) ((hp.map _).trans g.pm) g.nd a0 a8))
def eW(xs:Array α)(i):(SetTable.eraseAt xs i).toList=xs.toList.eraseIdx i:=by
 unfold SetTable.eraseAt;rw[Array.toList_append,Array.toList_extract,Array.toList_extract,eraseIdx_eq_take_drop_succ,extract_eq_take_drop,extract_eq_take_drop];simp;exact MW (by simp)
def wR(g:b6 P w s.heap a ks o es ep t){k:Int}{tk:Tok}{Q:Bool->Shared->Prop}
  (h:∀b h' o' a2 a3 t',Heap.SameBut a s.heap h'->b6 P w h' a (ks.filter λx=>!decide (x=k)) o' a2 a3 t'->Q b { s with heap:=h' }):wpAny (model P w) A (setDiscardHashed a (.int k tk) (hashInt k)) Q E s:=by
 unfold setDiscardHashed;refine eh (yI g ?_);cases hr:findIdx? (λe=>(intKind P w).is k e.2) es.toList with
 |none =>
  have hk:k∉ks:=λz=>by
   have:=rL (s:=s) g k;rw[hr]at this;simp[z]at this
  have e:ks.filter (λx=>!decide (x=k))=ks:=K9.mpr λx hx=>by
   have:x≠k:=λz=>hk (z▸hx)
   simpa using this
  have e2:s={ s with heap:=s.heap }:=by cases s;rfl
  rw[e]at h;have:=h false s.heap o es ep t (Li a s.heap) g;exact gf this
 |some i =>
  obtain⟨hi,a4,_⟩:=findIdx?_eq_some_iff_getElem.mp hr;dsimp only;refine eh (J1 g.ho g.hd g.fi ?_);dsimp only;have U:numOf (es.toList[i]).2=k:=(jt g.el (ML hi) k).mp a4;have a5:=gX (JR hi);have Y:(SetTable.eraseAt es i).size=es.size-1:=by
   rw[<- Array.length_toList,eW,LP hi,Array.length_toList]
  have bA:i<es.size:=by simpa using hi
  have Z:(SetTable.eraseAt es i).size<scanBound:=by rw[Y];have:=g.bd;omega
  have J:=g.fi;simp only[SetTable.fits,il,JQ,Ks]at J;have ao:i<t.place.size:=by omega
  have a6:(t.drop i).fits (SetTable.eraseAt es i).size=true:=by
   have ed:t.drop i={ t with place:=SetTable.eraseAt t.place i,dummies:=SetTable.insertAt t.dummies (SetTable.below t.dummies (t.place[i])) (t.place[i]) }:=by
    unfold SetTable.drop;rw[L5 ao]
   rw[ed];have h1:(SetTable.eraseAt t.place i).size=t.place.size-1:=by
    rw[<- Array.length_toList,eW,LP (by simpa using ao),Array.length_toList]
   have h2:(SetTable.insertAt t.dummies (SetTable.below t.dummies (t.place[i])) (t.place[i])).size<=t.dummies.size+1:=by
    unfold SetTable.insertAt;generalize SetTable.below t.dummies (t.place[i])=p;rw[Array.size_append,Array.size_push,Lw,Lw,M9,Nat.sub_zero];rcases Nat.le_total p t.dummies.size with q|q
    .rw[Lx q,Ky,Mz q];exact gx _
    .rw[Nat.min_eq_right q,Nat.sub_eq_zero_of_le q];exact gx _
   have h3:(⟨t.mask,SetTable.eraseAt t.place i,SetTable.insertAt t.dummies (SetTable.below t.dummies (t.place[i])) (t.place[i]),t.finger,t.led,t.moves,t.plain⟩:SetTable).fill<=t.mask:=by
    show(SetTable.eraseAt t.place i).size+(SetTable.insertAt t.dummies (SetTable.below t.dummies (t.place[i])) (t.place[i])).size<=t.mask;have:t.place.size+t.dummies.size<=t.mask:=J.2;omega
   simp only[SetTable.fits,il,JQ,Ks];exact⟨by rw[h1,Y,J.1],h3⟩
  have aO:ElemsOf (intKind P w) (SetTable.eraseAt es i).toList:=λe he=>g.el e (by rw[eW]at he;exact mem_of_mem_eraseIdx he)
  have a0:((SetTable.eraseAt es i).toList.map λe=>numOf e.2).Perm (ks.filter λx=>!decide (x=k)):=by
   rw[eW];have h1:(k::(es.toList.eraseIdx i).map λe=>numOf e.2).Perm ks:=by
    have:=(a5.map λe=>numOf e.2).trans g.pm;rwa[JO,U]at this
   have h2:=h1.nodup_iff.mpr g.nd;obtain⟨n1,_⟩:=Kh.mp h2;have h3:=h1.filter λx=>!decide (x=k)
   rw[Kz (by simp)]at h3;refine Perm.trans (Perm.of_eq ?_) h3;refine(K9.mpr λx hx=>?_).symm;have:x≠k:=λz=>n1 (z▸hx)
   simpa using this
  refine eh (Lj g.ho g.hd ?_ (K3 Z));refine eh (wpAny_point ?_);exact gf (h true _ _ _ _ _ (J8 _ _ _) (lW g aO a0 (g.nd.filter _) Z a6))
def G9{id:String}{r b:Addr}{js:List Int}{ob:Obj}{eb:Array (Int×Value)}{bA:Nat}{tb:SetTable}(g:b6 P w s.heap r ks o es ep t)(Y:b6 P w s.heap b js ob eb bA tb)(hl:tb.led=!byT w)(a2:b≠r)(bB:¬ js.length / 8 > ks.length)(hn:ks.length<=60){Q:Unit->Shared->Prop}
  (h:∀h' d' o' z J t' ls,Heap.SameBut r s.heap h'->b6 P w h' r ls o' z J t'->ls=(ks.filter λk=>!decide (k∈js))->Q () { s with heap:=h',drawn:=d' }):wpAny (model P w) A (Builtin.Frozenset.differenceUpdate id r (.ref b)) Q E s:=by
 unfold Builtin.Frozenset.differenceUpdate;have b0:(Value.ref b==Value.ref r)=false:=by
  simpa using a2
 rw[b0];simp only[JV,KH];refine eh (jU Y.type ?_);simp only[if_true,Builtin.Frozenset.addrOf,pure_bind];refine eh (gi Y ?_);refine eh (gi g ?_);rw[if_neg bB];refine eh (Lk Y.ho Y.hd Y.fi ?_);refine eh (Kg ?_);refine eh (yG Y hl (others:=[r]) (λc hc=>?_) λZ d0 hp=>?_)
 .rw[JY.mp hc];exact⟨_,_,_,_,_,g⟩
 have a3:=Y.el.perm hp;have hK:=(hp.map _).trans Y.pm;refine eh (MO _ (λbP _ s'=>∃dn h' d' o' z J t',dn++bP=Z.toList/\s'={ s with heap:=h',drawn:=d' }/\Heap.SameBut r s.heap h'/\b6 P w h' r (ks.filter λk=>!decide (k∈dn.map λe:Int×Value=>numOf e.2)) o' z J t') _ ?_ ?_ Z _ ⟨[],s.heap,d0,o,es,ep,t,rfl,rfl,Li r s.heap,by
  have:ks.filter (λk=>!decide (k∈([]:List (Int×Value)).map λe=>numOf e.2))=ks:=K9.mpr λx _=>by simp
  rw[this];exact g⟩)
 .rintro ⟨hx,x⟩ bP u s' ⟨dn,h',d',o',z,J,t',e1,rfl,sb,gl⟩;have U:(hx,x)∈Z.toList:=by rw[<- e1];simp
  obtain⟨a4,q⟩:=fc a3 _ U;obtain⟨⟨k0,b1,aO⟩,_⟩:=a3 _ U;have a5:=(jt a3 U k0).mp b1;dsimp only at q a5 aO;generalize numOf x=k at q a5;subst q a5;have aO:=aO;subst aO;dsimp only;refine eh (Kg (wR (s:={ s with heap:=h',drawn:=d' }) gl λb' h2 o2 a6 a7 t2 a0 g2=>?_));have b5:=Y.at λo e=>(a0.2 b a2).trans ((sb.2 b a2).trans e)
  refine Eg (s:={ s with heap:=h2,drawn:=d' }) b5 ⟨dn++[(hashInt k,Value.int k a4)],h2,d',o2,a6,a7,t2,by rw[KS];exact e1,rfl,sb.trans a0,?_⟩;have:(ks.filter λx=>!decide (x∈(dn++[(hashInt k,Value.int k a4)]).map λe:Int×Value=>numOf e.2))=(ks.filter λk=>!decide (k∈dn.map λe:Int×Value=>numOf e.2)).filter λx=>!decide (x=k):=by
   rw[List.filter_filter]
   congr 1
   funext x
   have cd:numOf (Value.int k a4)=k:=rfl;rw[Ko,JO,map_nil,cd];by_cases h1:x=k<;>by_cases h2:x∈dn.map (λe:Int×Value=>numOf e.2)<;>simp[h1,h2]
  rw[this];exact g2
 .rintro u s' ⟨dn,h',d',o',z,J,t',e1,rfl,sb,gl⟩;rw[K0]at e1;subst e1;have e3:(ks.filter λk=>!decide (k∈Z.toList.map λe:Int×Value=>numOf e.2))=ks.filter λk=>!decide (k∈js):=by
   congr 1
   funext k
   congr 1
   rw[Nb];exact hK.mem_iff
  rw[e3]at gl;refine gf ?_;unfold setTidy;refine eh (J1 (s:={ s with heap:=h',drawn:=d' }) gl.ho gl.hd gl.fi ?_);dsimp only;refine J3 (λ_=>?_) (λ_=>?_)
  .have c3:z.size<=60:=by
    rw[gl.len];exact r4 (LW _ _) hn
   have ck:SetTable.grown z.size=z.size*4:=by unfold SetTable.grown;rw[if_neg (by omega)]
   rw[ck];exact vh (s:={ s with heap:=h',drawn:=d' }) gl (by omega) (by omega) λh2 o2 a6 a7 t2 a0 g2 _ _=>h h2 d' o2 a6 a7 t2 _ (sb.trans a0) g2 rfl
  .exact gf (h h' d' o' z J t' _ sb gl rfl)
def Ep{id:String}{b:Addr}{js:List Int}{Q:Value->Shared->Prop}(ga:b_ P w s.heap a ks)(gb:b_ P w s.heap b js)(U:ks.length / 4 > js.length)(hn:ks.length<=60)
  (h:∀h' d' z o' Y Z t',(∀c o,s.heap.get? c=some o->h'.get? c=some o)->z.length=(ks.filter λk=>!decide (k∈js)).length->b6 P w h' s.heap.objs.size z o' Y Z t'->Q (.ref s.heap.objs.size) { s with heap:=h',drawn:=d' }) :
  wpAny (model P w) A (Builtin.Frozenset.difference id a (.ref b)) Q E s:=by
 obtain⟨oa,ea,a8,ta,wa,a9⟩:=ga.w;obtain⟨ob,eb,bA,tb,J,ao⟩:=gb.w;have hb:=tr (pb J.ho);unfold Builtin.Frozenset.difference;refine eh (jU J.type ?_);simp[JV,MF,Builtin.Frozenset.addrOf,pure_bind];refine eh (gi J ?_);refine eh (gi wa ?_);rw[if_pos U];refine eh (Ll ?_);refine eh (Eo wa (by omega) hn λh1 o1 b0 b1 t1 k1 g1=>?_);refine eh (gf ?_);have aO:=J.at (k1 b);refine eh (Kg (G9 (s:={ s with heap:=h1 }) g1 aO ao.led hb (by omega) hn λh2 d2 o2 a0 a1 t2 z a2 g2 e2=>?_));exact gf (h h2 d2 z o2 a0 a1 t2 (λc o e=>(a2.2 c (tr (pb e))).trans (k1 c o e)) (by rw[e2]) g2)
def yO{id:String}{b:Addr}{js:List Int}{Q:Value->Shared->Prop}(Y:b_ P w s.heap a ks)(Z:b_ P w s.heap b js)(hn:ks.length<=60)
  (h:∀h' d' U o' z J t',(∀c o,s.heap.get? c=some o->h'.get? c=some o)->U.length=(ks.filter λk=>!decide (k∈js)).length->b6 P w h' s.heap.objs.size U o' z J t'->Q (.ref s.heap.objs.size) { s with heap:=h',drawn:=d' }) :
  wpAny (model P w) A (Builtin.Frozenset.difference id a (.ref b)) Q E s:=by
 by_cases c:ks.length / 4 > js.length
 .exact Ep Y Z c hn h
 .refine Eh Y Z c λh' d' U k p g=>?_
  obtain⟨o',z,J,t',g',_⟩:=g.w;exact h h' d' U o' z J t' k p.length_eq g'
end
def oI:entryFor table "set.__sub__"=some Builtin.«frozenset.__sub__»:=
 entryFor_alias (id':="frozenset.__sub__") (by kernel_rfl) (by first|rfl|decide +kernel|(unfold String.splitOn;simp +decide [String.splitOnAux])) (by decide +kernel) (by kernel_rfl)
section
variable{P:Program}{w:World}{A:Around}{E:Value->Shared->Prop}{s:Shared}
def yP{ks js:List Int}{Q:Value->Shared->Prop}(Z:b_ P w s.heap a ks)(gb:b_ P w s.heap b js)(hn:ks.length<=60)
  (h:∀h' d' U o' z J t',(∀c o,s.heap.get? c=some o->h'.get? c=some o)->U.length=(ks.filter λk=>!decide (k∈js)).length->b6 P w h' s.heap.objs.size U o' z J t'->Q (.ref s.heap.objs.size) { s with heap:=h',drawn:=d' }) :
  wpAny (model P w) A (binaryOp .Sub (.ref a) (.ref b)) Q E s:=by
 obtain⟨oa,ea,a1,ta,Y,a2⟩:=Z.w;obtain⟨ob,eb,a3,tb,wb,a4⟩:=gb.w;refine wpAny_binaryOp_same Y.type wb.type F.fills_set_sub F.slot_set_sub ?_;refine J7 F.slot_set_sub Y.type oI ?_ (F.args_set_sub_2 _ _);show wpAny _ _ (do
  let (self,other) <- Builtin.Frozenset.slot1 "__sub__" ⟨[.ref a,.ref b],[]⟩
  let (l,r):=if false then(other,self)else(self,other)
  if !(<- Builtin.Frozenset.isAnySet l <&&> Builtin.Frozenset.isAnySet r)then rule s!"frozenset.{"__sub__"}.declined";return <- ret .notImplemented
  ret (<- Builtin.Frozenset.difference s!"frozenset.{"__sub__"}" _ r)) _ _ s
 refine eh (MK (a:=_) rfl ?_);refine eh (eh (jU Y.type ?_));refine jU wb.type ?_;refine eh (yO Z gb hn λh' d' U o' z J t' k hl g=>?_);exact gf ⟨_,rfl,by simp,h h' d' U o' z J t' k hl g⟩
end
end L2.St
namespace L2
open PySem PySem.Spec PyProof.Rows List Option
noncomputable def t5(P:Program)(w:World)(a:Addr)(n:Nat):HO:=.ext λh=>∃ks o es ep t,St.b6 P w h a ks o es ep t/\ks.length=n
def wS(g:St.b6 P w h a ks o es ep t)(e:ks.length=n):bI P w H h a (t5 P w a n):=
 ⟨⟨ks,o,es,ep,t,g,e⟩,⟨o,g.ho⟩,λh1 h2 ⟨ks,o,es,ep,t,g,e⟩ k=>⟨ks,o,es,ep,t,g.at k,e⟩⟩
section
variable{X:Cx}
def wT:OpR X (binaryOp .Sub) (λx y H Q=>∃a b ks js,x=.ref a/\y=.ref b/\H a=some (ji X.prog X.w a ks)/\H b=some (ji X.prog X.w b js)/\ks.length<=60/\∀p,H p=none->Q (.ref p) (upd H p (t5 X.prog X.w p (ks.filter λk=>!decide (k∈js)).length))):=by
 intro pins s σ H x y v u Q I z J h;obtain⟨a,b,ks,js,rfl,rfl,U,Y,Z,q⟩:=h;cases z;cases J;refine St.yP (I.set U) (I.set Y) Z λh' d' ls o' ao aO t' kp hl g=>?_
 exact⟨.ref s.heap.objs.size,_,I.laidD kp (gx _) (wS g hl),rfl,q _ (I.hok.fresh (gx _))⟩
def rN:bo X (.builtin "len") (λxs H Q=>∃a n,xs=[.ref a]/\H a=some (t5 X.prog X.w a n)/\Q (.int n) H):=by
 intro pins s σ H xs us Q I r h;refine aC λZq z=>?_
 obtain⟨a,n,rfl,e,q⟩:=h;obtain⟨u,rfl,J⟩:=dB r;cases J;obtain⟨ks,o,es,ep,t,g,U⟩:=(show bI X.prog X.w H s.heap a _ from I.hok a _ e).1;have Y:=g.len;have hb:=g.bd;have Z:scanBound=4096:=rfl;refine z ?_;refine call_len_set g.ho g.ex g.hd g.fi (by omega) ⟨.int n,H,I.tok _,⟨s.toks+1,?_⟩,q⟩;rw[Y,U]
def qj:bo X (.builtin "len") (λxs H Q=>∃a ks,xs=[.ref a]/\H a=some (ji X.prog X.w a ks)/\Q (.int ks.length) H):=by
 intro pins s σ H xs us Q I r h;obtain⟨a,ks,rfl,e,q⟩:=h;obtain⟨u,rfl,z⟩:=dB r;cases z;obtain⟨o,es,ep,t,g,_⟩:=(I.set e).w;have U:=g.bd;have J:scanBound=4096:=rfl;refine call_len_set g.ho g.ex g.hd g.fi (by omega) ⟨.int ks.length,H,I.tok _,⟨s.toks+1,?_⟩,q⟩;rw[g.len]
end
end L2
namespace L2.En
open PySem PyProof.Rows List Option
open AutoSeq1 (wpAny_loadPart')
section
variable{P:Program}{w:World}{A:Around}{E:Value->Shared->Prop}{s:Shared}
def t6(J:s.heap.IsTupleIter it t i)
  (h:wpAny (model P w) A.in1 (Builtin.«tuple_iterator.__next__» ⟨[.ref it],[]⟩) (λfin s'=>∃v,fin=.done (.ret v)/\Q v s') E s):wpAny (model P w) A (Builtin.SmallTypes.nextOf (.ref it)) Q E s:=by
 refine eh (Km J.typeIs F.slot_tuple_iterator_next ?_);refine J7 F.slot_tuple_iterator_next J.typeIs F.entry_tuple_iterator_next ?_ (F.args_tuple_iterator_next_1 _);refine Kd h (λfin s' hv=>?_) λ_ _ z=>z
 obtain⟨v,rfl,q⟩:=hv;exact⟨v,rfl,gf q⟩
def G_ (z:A.handled=none) (h:∀h' e,(∀b o,s.heap.get? b=some o->h'.get? b=some o)->(∃o,h'.get? e=some o/\o.cls=.type "StopIteration")->E (.ref e) { s with heap:=h' }) :
  wpAny (model P w) A (Builtin.SmallTypes.stopIteration:Sem α) Q E s:=by
 wp_walk
 exact wpAny_raiseNew_none z (h _ _ (λb o q=>gk _ (gk _ q)) ⟨_,pe _ rfl,rfl⟩)
def o9(U:A.handled=none)(z:s.heap.IsTupleIter it t i)(Y:s.heap.IsTuple t items)
  (Z:∀x h',items[i]?=some x->h'.IsTupleIter it t (i+1)->Heap.SameBut it s.heap h'->Q x { s with heap:=h' })
  (hE:∀h' e,items[i]?=none->Heap.ExtBut it s.heap h'->(∃o,h'.get? e=some o/\o.cls=.type "StopIteration")->E (.ref e) { s with heap:=h' }):wpAny (model P w) A (Builtin.SmallTypes.nextOf (.ref it)) Q E s:=by
 refine t6 z ?_;refine aC λZq kq=>?_
 obtain⟨⟨c1,d1,t1,l1⟩,h1,e1,e2⟩:=z;obtain⟨⟨c2,d2,t2,l2⟩,h2,e3,n2,e4⟩:=Y;cases e1;cases e2;cases e3;cases e4;obtain⟨J,g,d,tk,os⟩:=s;refine kq ?_
 wp_walk using wpAny_loadPart' h1,wpAny_loadPart' h2
 have self:∀k v,(J.update it (Obj.mapFields (·.setIfInBounds k v))).get? it=some { cls:=.type "tuple_iterator",dict:=d1,data:=.fields _,slots:=l1 }:=λk v=>Ki _ h1 rfl
 rw[Int.toNat_natCast];cases hx:items[i]? with
 |some x =>
  refine eh (wpAny_setField h1 rfl (by simp) (gf ⟨x,rfl,Z x _ hx ⟨_,self 1 _,rfl,?_⟩ (J8 ..)⟩));simp[rawInt]
 |none =>
  refine eh (Ll (eh (wpAny_setField h1 rfl (by simp) (G_ (by simpa using U) λh' e k st=>?_))));exact hE h' e hx (λb o hb q=>k b o ((J8 J it _).extBut b o hb q)) st
def draws(U:A.handled=none)(it t)(z:t≠it)(items):Draws P w A it [it,t] items.size (λi v=>items[i]?=some v) (λi h=>h.IsTupleIter it t i/\h.IsTuple t items) where
 live:=λ_ _ ⟨⟨o,ho,_⟩,_⟩=>⟨o,ho⟩
 frame:=λi h h' ⟨⟨o,ho,r⟩,⟨Y,J,r2⟩⟩ k=>⟨⟨o,k it (.head _) o ho,r⟩,⟨Y,k t (.tail _ (.head _)) Y J,r2⟩⟩
 item:=λi s Q E hi ⟨h1,h2⟩ hQ=>o9 U h1 h2 (λx h' hx h3 Z=>hQ x h' s.toks hx ⟨h3,h2.extBut Z.extBut z⟩ Z) λh' e hx _ _=>absurd hx (by simp;omega)
 done:=λs Q E ⟨h1,h2⟩ hE=>o9 U h1 h2 (λx h' hx _ _=>absurd hx (by simp)) λh' e _ eb st=>hE h' e eb st
def yQ{Q:Bool->Shared->Prop}(h:∀c,Q c s):wpAny (model P w) A (pure b) Q E s:=gf (h b)
def BP(l)(items)(n)(z)(J) :
  Meets (Builtin.«enumerate.__new__» ⟨[.type "enumerate",.ref l],[]⟩) (λ_ R s=>s.heap.get? l=some { cls:=.type "tuple",dict:=z,data:=.seq items n,slots:=J } /\
   R (.ok (.ret (.ref (s.heap.push { cls:=.type "tuple_iterator",data:=.fields #[.ref l,.int 0 0] }).objs.size)))
    { s with heap:=(s.heap.push { cls:=.type "tuple_iterator",data:=.fields #[.ref l,.int 0 0] }).push { cls:=.type "enumerate",data:=.fields #[.none,.bool false,.ref s.heap.objs.size,rawInt 0,.none,.none] } }):=by
 refine .of_wp λP w A R s h=>?_
 have tl:Heap.IsTuple _ l items:=⟨_,h.1,rfl,n,rfl⟩;have U:=sub_enumerate
 wp_walk using wpAny_loadPart' h.1
 apply wpAny_stack_any;intro st;refine yQ λc=>?_
 cases c
 .wp_walk using wpAny_pyIter_tuple tl
  exact⟨_,rfl,h.2⟩
 .wp_walk using wpAny_pyIter_tuple tl
  exact⟨_,rfl,h.2⟩
def call_tup(Z:s.heap.IsTuple l items)
  (h:∀h',IsEnum h' (s.heap.objs.size+1) s.heap.objs.size 0 .none->h'.IsTupleIter s.heap.objs.size l 0->h'.objs.size=s.heap.objs.size+2 ->
   (∀b o,s.heap.get? b=some o->h'.get? b=some o)->Q (.ref (s.heap.objs.size+1)) { s with heap:=h' }):wpAny (model P w) A (call (.type "enumerate") [.ref l]) Q E s:=by
 obtain⟨⟨c,J,dt,sl⟩,hl,hc,n,hd⟩:=Z;cases hc;cases hd;have made:=BP l items n J sl;refine callType_new F.called_enumerate (by decide) (F.typeCall_enumerate_1 _) (F.newCall_enumerate_1 _) (λv=>F.args_object_init_2 v _) F.entry_enumerate_new made ⟨hl,?_⟩;generalize hi:({ cls:=.type "tuple_iterator",data:=.fields #[.ref l,.int 0 0] }:Obj)=io;generalize ho:({ cls:=.type "enumerate",data:=.fields #[.none,.bool false,.ref s.heap.objs.size,rawInt 0,.none,.none] }:Obj)=U;have z:(s.heap.push io).objs.size=s.heap.objs.size+1:=J4 ..;have Y:((s.heap.push io).push U).get? (s.heap.objs.size+1)=some U:=by
  rw[<- z];exact pe _ (by rw[<- ho];rfl)
 have g2:((s.heap.push io).push U).get? s.heap.objs.size=some io:=gk _ (pe _ (by rw[<- hi];rfl));rw[z];refine⟨⟨_,Y,by rw[<- ho]⟩,h _ (by rw[<- ho]at Y;rw[<- ho];exact Y) ⟨_,g2,by rw[<- hi],by rw[<- hi];rfl⟩ (by rw[J4,z]) λb o q=>gk _ (gk _ q)⟩
end
end L2.En
namespace L2.Dv
open PySem PyProof.Rows List Option
open AutoSeq1 (wpAny_loadPart')
section
variable{P:Program}{w:World}{A:Around}{E:Value->Shared->Prop}{s:Shared}
def Ents(h:Heap)(d:Addr)(es:Array DictEntry)(ep:Nat):Prop:=∃o,h.get? d=some o/\o.ExactDict/\o.data=.dict es ep
theorem Ents.at(x:Ents h d es ep)(k:∀o,h.get? d=some o->h'.get? d=some o):Ents h' d es ep:=by
 obtain⟨o,ho,r⟩:=x;exact⟨o,k o ho,r⟩
theorem Ents.type (x:Ents s.heap d es ep):s.TypeIs (.ref d) "dict":=by
 obtain⟨o,ho,r,_⟩:=x;exact⟨o,ho,r.1⟩
def values_of(hd:(d==sysModules)=false)(x:Ents s.heap d es ep)
  (h:Q (.ref s.heap.objs.size) { s with heap:=s.heap.push { cls:=.type "dict_values",data:=.fields #[.ref d] } }):wpAny (model P w) A (call (.builtin "dict.values") [.ref d]) Q E s:=by
 refine J7 F.slot_dict_values x.type F.entry_dict_values ?_ (F.args_dict_values_1 _);refine aC λY z=>?_
 obtain⟨⟨Z,d1,t1,l1⟩,h1,hx,J⟩:=x;have U:=hx.1;cases U;cases J;refine z ?_
 wp_walk using wpAny_loadPart' h1
 exact⟨_,rfl,h⟩
def BQ(hv:s.heap.IsValuesView v d)(x:Ents s.heap d es ep)
  (h:Q (.ref s.heap.objs.size) { s with heap:=s.heap.push { cls:=.type "dict_valueiterator",data:=.fields #[.ref d,.int 0 0,.int es.size 0,.int ep 0] } }):wpAny (model P w) A (pyIter (.ref v)) Q E s:=by
 refine MX hv.typeIs F.slot_dict_values_iter (J7 F.slot_dict_values_iter hv.typeIs F.entry_dict_values_iter ?_ (F.args_dict_values_iter_1 _));refine aC λZq z=>?_
 obtain⟨⟨c1,d1,t1,l1⟩,h1,hx,J⟩:=x;have U:=hx.1;cases U;cases J;obtain⟨⟨c3,d3,t3,l3⟩,Y,Z,e4⟩:=hv;cases Z;cases e4;refine z ?_
 wp_walk using wpAny_loadPart' h1,wpAny_loadPart' Y
 exact⟨_,rfl,_,_,⟨_,pe _ rfl,rfl⟩,Ly.lookup,h⟩
def vi{ep:Nat}{Q:Option Value->Shared->Prop}(Z:A.handled=none)(hv:s.heap.IsValIter it d i es.size ep)(x:Ents s.heap d es ep)
  (h1:∀e h',es[i]?=some e->h'.IsValIter it d (i+1) es.size ep->Heap.SameBut it s.heap h'->Q (some e.val) { s with heap:=h' })
  (h2:∀h',es[i]?=none->Heap.ExtBut it s.heap h'->Q none { s with heap:=h' }):wpAny (model P w) A (pyNext (.ref it)) Q E s:=by
 have ty:=hv.typeIs;obtain⟨⟨c1,d1,t1,l1⟩,g1,hx,e2⟩:=x;have e1:=hx.1;cases e1;cases e2;obtain⟨⟨c3,d3,t3,l3⟩,J,e3,e4⟩:=hv;cases e3;cases e4;obtain⟨U,g,dr,tk,os⟩:=s;unfold pyNext;refine eh (Mk (Km (name:=Str.ofString "__next__") ty Ly (J7 Ly ty F.entry_dict_valueiterator_next ?_ (F.args_dict_valueiterator_next_1 _))));unfold Builtin.«dict_valueiterator.__next__»
 wp_walk using wpAny_loadPart' g1,wpAny_loadPart' J
 rw[if_neg (by omega),Int.toNat_natCast];have self:∀k v,(U.update it (Obj.mapFields (·.setIfInBounds k v))).get? it=some { cls:=.type "dict_valueiterator",dict:=d3,data:=.fields ((#[.ref d,.int (i:Int) 0,.int (es.size:Int) 0,.int (ep:Int) 0]:Array Value).setIfInBounds k v),slots:=l3 }:=λk v=>Ki _ J rfl
 cases hx:es[i]? with
 |some e =>
  have Y:=self 1 (rawInt ((i:Int)+1))
  wp_walk using wpAny_loadPart' J,wpAny_loadPart' Y
  exact⟨_,rfl,gf (h1 e _ hx ⟨_,Y,rfl,rfl⟩ (J8 ..))⟩
 |none =>
  refine eh (Kd (Q:=λn s'=>n=0/\s'=⟨U,g,dr,tk,os⟩) (E:=λ_ _=>False) ?_ (λn s' q=>?_) λ_ _ z=>z.elim)
  .wp_walk using wpAny_loadPart' J
   exact⟨by decide +kernel,rfl⟩
  obtain⟨rfl,rfl⟩:=q;refine eh (wpAny_setField J rfl (by simp) ?_);refine St.kI (v:=.none) (vs:=#[]) (it:=0) (Q:=λ_ _=>True) (by simpa using Z) λe s' kp ⟨h',eq⟩ hT=>?_
  subst eq;refine eh (KJ (T:="StopIteration") (b:=true) hT isSubtype_stop ?_);exact gf (h2 h' hx λb o hb q=>kp b o ((J8 U it _).extBut b o hb q))
def src :PySem.W.KdlSrc P w "dict_values" r d es.size (λi v=>∃e,es[i]?=some e/\v=e.val) (λh=>h.IsValuesView r d/\Ents h d es ep) where
 type:=λ_ q=>q.1.typeIs
 there:=λ_ ⟨⟨o,ho,_⟩,⟨o',Z,_⟩⟩=>⟨pb ho,pb Z⟩
 keep:=λ_ _ ⟨⟨o,ho,z⟩,x⟩ k=>⟨⟨o,k r (.inl rfl) o ho,z⟩,x.at λo e=>k d (.inr rfl) o e⟩
 notList:=by decide
 notTuple:=by decide
 hint:=λ_ _ _ _ q z=>PySem.W.kdl_hint_values q.1.typeIs z
 iter:=λA s hh ⟨q,x⟩=>by
  have lt:d<s.heap.objs.size:=by obtain⟨o,ho,_⟩:=x;exact pb ho
  have ne:=tr lt;refine⟨{ cls:=.type "dict_valueiterator",data:=.fields #[.ref d,.int 0 0,.int es.size 0,.int ep 0] },λi h=>h.IsValIter s.heap.objs.size d i es.size ep/\Ents h d es ep,λE Q z=>BQ q x z,?_,⟨_,pe _ rfl,rfl,rfl⟩,x.at λo e=>gk _ e⟩;refine⟨λb J=>by simp at J;simp[J],λi h h' ⟨⟨o,ho,z⟩,y⟩ k=>⟨⟨o,k _ (by simp) o ho,z⟩,y.at λo e=>k d (by simp) o e⟩,λi s' Q E hi ⟨y,z⟩ U=>?_,λs' Q E ⟨y,z⟩ U=>?_,λi s' Q E ⟨y,z⟩ U=>?_⟩
  .refine vi hh y z (λe h' Y y' sb=>?_) λh' Y _=>absurd Y (by simp;omega)
   exact U _ h' s'.toks ⟨e,Y,rfl⟩ ⟨y',z.at λo q=>sb.extBut d o ne q⟩ λb o J q=>sb.extBut b o (λw=>J (by simp[w])) q
  .refine vi hh y z (λe h' Y _ _=>absurd Y (by simp)) λh' _ eb=>?_
   exact U h' s'.toks λb o J q=>eb b o (λw=>J (by simp[w])) q
  .exact wpAny_pyIter_valiter y U
end
end L2.Dv
namespace HT
open PySem PyProof.Rows List Option
section
variable{prog:Program}{w:World}{A:Around}{E:Value->Shared->Prop}{s:Shared}
def getItem_tuple_whole{items:Array Value}{Z vu:Value}{lo hi:Option Int}{Q:Value->Shared->Prop}(z:IsTup s.heap t items)(hs:s.heap.IsSliceOf sl Z vu .none)(pl:IsPart Z lo)(pu:IsPart vu hi)
  (h0:sIx items.size 0 lo=0) (h1:sIx items.size items.size hi=items.size) (h:Q (.ref t) s):wpAny (model prog w) A (getItem (.ref t) (.ref sl)) Q E s:=by
 have J:s.TypeIs (.ref sl) "slice":=by obtain⟨os,U,Y,_⟩:=hs;exact⟨os,U,Y⟩
 unfold getItem
 try with_reducible refine Kg ?_
 first|refine eh (gf ?_)|skip
 refine eh (wpAny_sequenceKey z.typeIs (by decide) ?_);refine eh (Km (name:=Str.ofString "__getitem__") z.typeIs Kl
  (J7 Kl z.typeIs entry_tuple_getitem ?_ (args_tuple_getitem _ _)))
 show wpAny _ _ (Builtin.Tuple.tupleItemsOf _ >>= _) _ _ s;refine eh (tupleItemsOf_ z ?_);refine eh (LK J ?_);rw[if_pos (by decide)];refine eh (gc hs pl pu ?_);show wpAny _ _ (if (((sIx items.size 0 lo:Nat):Int)==0&&_==1&&_==items.size)=true then _ else _) _ _ s;rw[h0,h1,if_pos (by simp)];unfold Builtin.Tuple.tupleIsExact;refine eh (eh (LK z.typeIs (gf ?_)));rw[if_pos (by decide)];refine eh (Ll ?_);exact gf ⟨_,rfl,gf h⟩
end
end HT
namespace L2
open PySem PySem.Spec PyProof.Rows List Option
section
variable{X:Cx}
def BR:SlR X (λx lo hi H Q=>∃a xs,x=.ref a/\SqT X.K H a xs/\HT.sIx xs.length 0 lo=0/\HT.sIx xs.length xs.length hi=xs.length/\Q (.ref a) H):=by
 intro pins s σ H x v vl vu lo hi sl Q I U hs Y Z h;refine aC λZq kq=>?_
 obtain⟨a,xs,rfl,hx,h0,h1,q⟩:=h;cases U;obtain⟨its,r,J,hz⟩:=I.tuple hx;have z:its.toArray.size=xs.length:=by rw[oe];exact r.length.symm
 refine kq ?_;refine⟨"tuple",_,Kl.lookup,J.typeIs,?_⟩;exact HT.getItem_tuple_whole J hs Y Z (by rw[z];exact h0) (by rw[z];exact h1) ⟨.ref a,H,I,rfl,q⟩
end
end L2
namespace L2.Rv
open PySem PyProof.Rows List Option
section
variable{P:Program}{w:World}{A:Around}{E:Value->Shared->Prop}{s:Shared}
def Er:typeLookup (.type "list_reverseiterator") "__len__"=pure none:=by rw[Ms,LO];kernel_rfl
def yR:typeLookup (.type "list_reverseiterator") "__length_hint__"=pure (some (.builtin "list_reverseiterator.__length_hint__")):=by rw[Ms,LO];kernel_rfl
def yS (U:s.TypeIs (.ref it) "list_reverseiterator") (h:Q false s):wpAny (model P w) A (Builtin.List.listLengthHint (.ref it)) Q E s:=by
 unfold Builtin.List.listLengthHint;refine eh (Mo U Er ?_);refine J3 (λz=>absurd z (by decide)) (λ_=>?_);refine J3 (λz=>absurd z (by decide)) (λ_=>?_);refine eh (Mo U yR ?_);generalize J:("list_reverseiterator.__length_hint__":String)=Y
 wp_delta
 rw[show splitId Y=some ("list_reverseiterator","__length_hint__")from by subst J;decide +kernel];subst J;refine eh (KJ (T:="list_reverseiterator") (b:=true) U (by rw[MG];kernel_rfl) ?_);refine J3 (λz=>absurd z (by decide)) (λ_=>?_);refine J3 (λ_=>?_) (λz=>absurd (by decide +kernel) z);refine J3 (λz=>absurd z (by decide +kernel)) (λ_=>?_);exact gf h
def Drawn(items:Array Value)(i:Nat)(v:Value):Prop:=items[items.size-1-i]?=some v
def t7{it l S:Addr}{items:Array Value}(hh:A.handled=none)(ao:l≠it)(U:s.heap.IsRevIter it l ((items.size:Int)-1))(hl:s.heap.IsList l items)(hn:items.size<=sizeLine)(Y:S≠it)(aO:S≠l)(res)
  (hS:s.heap.get? S=some { cls:=.type "list",data:=.seq #[] })
  (hR:∀h' tk J c,(∀b o,b≠S->b≠it->s.heap.get? b=some o->h'.get? b=some o)->h'.get? S=some { cls:=.type "list",dict:=none,data:=.seq J c,slots:=#[] }->ItemsOf (Drawn items) J items.size->R (.ok (.ret res)) { s with heap:=h',toks:=tk }) :
  wpAny (model P w) A.in1 (Builtin.List.listExtendWith (.ref S) (.ref it) res)
   (λfin s'=>match fin with|.done f=>R (.ok f) s'|.again c'=>c'.quiet=true/\codeAny (model P w) A c' R s') (λe s'=>R (.error e) s') s:=by
 have hT:=U.typeIs;have W:=Walks.listRev (prog:=P) (w:=w) (A:=A.in1) (by simpa using hh) it l ao items;have a0:S∉[it,l]:=by simp[Y,aO]
 unfold Builtin.List.listExtendWith;refine eh (LK hT ?_);have h1:Builtin.List.listSameRef (.ref S) (.ref it)=false:=by simp[Builtin.List.listSameRef,Y]
 rw[if_neg (by rw[h1];decide)];refine eh (wpAny_pyIter_revIter U ?_);refine eh (Kg (yS hT ?_));refine J3 (λa1=>absurd a1 (by decide)) (λ_=>?_);refine gf ⟨Mj PySem.F.plain_extend_loop _,?_⟩;refine codeAny_extend_loopS W.toS hn S a0 res items.size 0 s #[] 0 rfl (J2 _) ⟨J2 _,by simpa using U,hl⟩ hS (ItemsOf.nil _) λs' J c hm a2 Z=>?_
 rw[Moved.eq_with hm];refine hR s'.heap s'.toks J c (λb o hb bB e=>hm.heap b o (λz=>?_) e) a2 Z
 simp_all
end
end L2.Rv
namespace L2
open PySem PySem.Spec PyProof.Rows List Option
section
variable{X:Cx}
def t8{its:List Value}(h:ItemsOf (Rv.Drawn its.toArray) acc its.toArray.size):acc.toList=its.reverse:=by
 have hs:acc.size=its.length:=by rw[h.1,oe]
 refine M7 λi=>?_
 rw[Kj];by_cases hi:i<its.length
 .cases e:acc[i]? with
  |none=>rw[Array.getElem?_eq_none_iff]at e;omega
  |some v =>
   have:=h.2 i v e;unfold Rv.Drawn at this;rw[oe,getElem?_toArray]at this;rw[getElem?_reverse hi,<- this]
 .simp_all
end
end L2
namespace L2.Rg
open PySem PyProof.Rows List Option
section
variable{P:Program}{w:World}{A:Around}{E:Value->Shared->Prop}{s:Shared}
end
end L2.Rg
namespace L2
open PySem PySem.Spec PyProof.Rows List Option
section
variable{X:Cx}
end
end L2
namespace L2.Rv
open PySem PyProof.Rows List Option
open AutoSeq1 (wpAny_loadPart')
section
variable{P:Program}{w:World}{A:Around}{E:Value->Shared->Prop}{s:Shared}
def list_rev{it l:Addr}{items:Array Value}(hh:A.handled=none)(U:l≠it)(J:s.heap.IsRevIter it l ((items.size:Int)-1))(hl:s.heap.IsList l items)(hn:items.size<=sizeLine)
  (h:∀h' tk z c,(∀b o,b≠it->s.heap.get? b=some o->h'.get? b=some o)->h'.get? s.heap.objs.size=some { cls:=.type "list",dict:=none,data:=.seq z c,slots:=#[] }->ItemsOf (Drawn items) z items.size->Q (.ref s.heap.objs.size) { s with heap:=h',toks:=tk }) :
  wpAny (model P w) A (call (.type "list") [.ref it]) Q E s:=by
 have li:it<s.heap.objs.size:=by obtain⟨o,ho,_⟩:=J;exact pb ho
 have ll:l<s.heap.objs.size:=by obtain⟨o,ho,_⟩:=hl;exact pb ho
 refine callType_codes F.called_list (F.typeCall_list_1 _) F.entry_list_init (code_list_new (.ref it) (Q₁:=λobj s1=>obj=.ref s.heap.objs.size/\s1={ s with heap:=s.heap.push { cls:=.type "list",data:=.seq #[] } }) ⟨rfl,rfl⟩) λobj s1 h1=>?_
 obtain⟨rfl,rfl⟩:=h1;have Y:(s.heap.push { cls:=.type "list",data:=.seq #[] }).get? s.heap.objs.size=some { cls:=.type "list",data:=.seq #[] }:=pe _ rfl;refine⟨⟨_,Y,rfl⟩,F.args_list_init_2 _ _,?_⟩;unfold Builtin.«list.__init__»;generalize hX:Builtin.List.listExtendWith=X
 wp_walk using wpAny_loadPart' Y
 subst hX;have g1:((s.heap.push { cls:=.type "list",data:=.seq #[] }).update s.heap.objs.size (Obj.mapSeq λ_=>#[])).get? s.heap.objs.size=some { cls:=.type "list",data:=.seq #[] }:=Ki _ Y rfl;have kp:∀b o,b≠s.heap.objs.size->s.heap.get? b=some o->((s.heap.push { cls:=.type "list",data:=.seq #[] }).update s.heap.objs.size (Obj.mapSeq λ_=>#[])).get? b=some o:=λb o Z e=>(J8 ..).extBut b o Z (gk _ e)
 refine t7 (A:=A.in1) (by simpa using hh) U (J.at λo e=>kp _ o (tr li) e) (hl.at λo e=>kp _ o (tr ll) e) hn (KG li) (KG ll) .none g1 λh' tk z c k e i=>?_
 exact⟨rfl,h h' tk z c (λb o Z q=>k b o (tr (pb q)) Z (kp b o (tr (pb q)) q)) e i⟩
end
end L2.Rv
namespace L2
open PySem PySem.Spec PyProof.Rows List Option
section
variable{X:Cx}
def t9 (hc:X.calm=true) (hg:Gl X "list") (hm:X.mg "list"=none) (hv:bootBuiltins "list"=some (.type "list")) (a1:Gl X "reversed") (a2:X.mg "reversed"=none) (hl:PE X l tl) (hs:starEach [l] X.env=[(false,eval l X.env)]:=by rfl) :
  PE X (.Call (.Name "list" p) [.Call (.Name "reversed" p2) [l] [] pos2] [] pos) (λσ H Q=>tl σ H λx H1=>∃a xs,x=.ref a/\SqL X.K H1 a xs/\∀q,H1 q=none->Q (.ref q) (upd H1 q (.lst xs.reverse))):=by
 intro pins s σ H Q I h;refine Lc (iu I hg hm hv ?_);refine Kx (L7 ?_) rfl rfl;refine Lc (iu I a1 a2 PyProof.Rows.boot_reversed ?_);refine Kx (thn (aJ hl bJ hs pos2 pins s σ H (λvs H1=>match vs with|[x]=>∃a xs,x=.ref a/\SqL X.K H1 a xs/\∀q,H1 q=none->Q (.ref q) (upd H1 q (.lst xs.reverse))|_=>False) I h) λus J ⟨vs,H1,I1,r1,q1⟩=>?_) hs rfl;cases r1 with
 |nil=>exact q1.elim
 |cons r rr =>
  cases rr with
  |cons _ _=>exact q1.elim
  |nil =>
   refine aC λZq kq=>?_
   obtain⟨a,xs,e,hq,q⟩:=q1;subst e;cases r;obtain⟨its,rv,pl,hz⟩:=I1.list hq;have la:a<J.heap.objs.size:=by obtain⟨o,ho,_⟩:=pl.isList;exact pb ho
   have a0:its.toArray.size=xs.length:=by rw[oe];exact rv.length.symm
   refine kq ?_;refine call_reversed_list pl.isList (MU ?_);generalize Z:revObj a ((its.toArray.size:Int)-1)=U;have a5:(J.heap.push U).get? J.heap.objs.size=some U:=pe _ (by rw[<- Z];rfl);have I2:Inv X pins σ H1 { J with heap:=J.heap.push U }:=I1.kept (t':=J.toks) λb o e=>gk _ e
   have hn:=I1.hok.fresh (gx _);obtain⟨_,f1,_,f3,f4,f5⟩:=I1.fpOk (gx _) hn;refine Rv.list_rev (s:={ J with heap:=J.heap.push U }) (it:=J.heap.objs.size) (l:=a) (items:=its.toArray) (I1.ok.hd hc) (tr la) ⟨_,a5,by rw[<- Z];rfl,by rw[<- Z];rfl⟩ (pl.isList.at λo e=>gk _ e) (by rw[a0];exact hz) λh' tk Y c k e it=>?_
   have z:(J.heap.push U).objs.size=J.heap.objs.size+1:=J4 ..;have ne:(J.heap.push U).objs.size≠J.heap.objs.size:=by omega
   have g2:((J.heap.push U).push { cls:=.type "list",data:=.seq Y c }).get? (J.heap.push U).objs.size=some { cls:=.type "list",data:=.seq Y c }:=pe _ rfl;have I3:Inv X pins σ (upd H1 (J.heap.push U).objs.size (.lst xs.reverse)) { J with heap:=(J.heap.push U).push { cls:=.type "list",data:=.seq Y c },toks:=J.toks }:=I2.laid (λb o e=>gk _ e) (gx _) ⟨by rw[length_reverse];exact hz,Y.toList,c,by rw[t8 it];exact rv.reverse,by rw[Array.toArray_toList];exact g2⟩;have a6:H1 (J.heap.push U).objs.size=none:=I1.hok.fresh (by omega);have I4:=I3.turned (t':=tk) (it:=J.heap.objs.size) (h':=h') (λb o hb e1=>by
    by_cases eb:b=(J.heap.push U).objs.size
    .subst eb;have e1:=e1;rw[g2]at e1;cases e1;exact e
    .refine k b o hb ?_;have e1:=e1;show(J.heap.push U).get? b=some o;rw[<- Heap.get?_push_ne _ _ _ eb];exact e1) (by rw[aW ne.symm];exact hn) f1 f3 f4 f5
   exact⟨.ref (J.heap.push U).objs.size,_,I4,rfl,q _ a6⟩
end
end L2
namespace MM
open PySem List Option
inductive Sc where
 | non|bl (b:Bool)|int (i:Int)|str (x:Str)
 deriving Inhabited,DecidableEq
inductive DD where
 | k (kvs:List (Int×Sc))|t (kvs:List (List Int×Sc))
 | p (ns:List Int)
 deriving Inhabited
inductive PV where
 | non|bl (b:Bool)|int (i:Int)|str (x:Str)|tup (xs:List PV)|lst (xs:List PV)|dI (d:DD)
 deriving Inhabited
noncomputable def Sc.pv:Sc->PV
 | .non=>.non
 | .bl b=>.bl b
 | .int i=>.int i
 | .str x=>.str x
noncomputable def sc?:PV->Option Sc
 | .non=>some .non
 | .bl b=>some (.bl b)
 | .int i=>some (.int i)
 | .str x=>some (.str x)
 | _=>none
noncomputable def bM{α:Type} [DecidableEq α] (kvs:List (α×Sc)) (k:α):Option Sc:=(kvs.find? λp=>decide (p.1=k)).map (·.2)
noncomputable def cF{α:Type} [DecidableEq α] (kvs:List (α×Sc)) (k:α) (v:Sc):List (α×Sc):=
 if (kvs.any λp=>decide (p.1=k))=true then kvs.map (λp=>if p.1=k then(p.1,v)else p)else kvs++[(k,v)]
noncomputable def eqL(f:PV->PV->Option Bool):List PV->List PV->Option Bool
 | [],[]=>some true
 |x::xs,y::ys=>(f x y).bind λp=>(eqL f xs ys).map λq=>p&&q
 | _,_=>some false
noncomputable def eqF:Nat->PV->PV->Option Bool
 | _,.non,.non=>some true
 | _,.bl a,.bl b=>some (a==b)
 | _,.bl a,.int b=>some ((if a then 1 else 0)==b)
 | _,.int a,.bl b=>some (a==(if b then 1 else 0))
 | _,.int a,.int b=>some (a==b)
 | _,.str a,.str b=>some (a==b)
 |0,.tup _,.tup _=>none
 |0,.lst _,.lst _=>none
 | _,.dI _,_=>none
 | _,_,.dI _=>none
 |n+1,.tup a,.tup b=>eqL (eqF n) a b
 |n+1,.lst a,.lst b=>if a.length=b.length then eqL (eqF n) a b else some false
 | _,_,_=>some false
noncomputable def t_:PV->PV->Bool
 | .tup _,.tup _=>true
 | .lst _,.lst _=>true
 | .tup _,_=>false
 | _,.tup _=>false
 | .lst _,_=>false
 | _,.lst _=>false
 | .bl _,.int _=>false
 | .int _,.bl _=>false
 | .dI _,_=>false
 | _,.dI _=>false
 | _,_=>true
noncomputable def inL(f:PV->Option Bool):List PV->Option Bool
 | []=>some false
 |y::ys=>(f y).bind λp=>(inL f ys).map λq=>p||q
inductive MV where
 | val (v:PV)|own (xs:List PV)|brw (xs:List PV)|ownD (d:DD)|brwD (d:DD)
 | mutD (d:DD)
 deriving Inhabited
noncomputable abbrev Rho:=List (Option MV)
inductive Op2 where
 | add|sub|mul|fdiv|mod|pow|shr
 deriving DecidableEq
inductive Cp where
 | eq|ne|lt|le|gt|ge|isN|notN|isIn|notIn
 deriving DecidableEq
inductive Blt where
 | len|tupleOf|listOf|sorted|any|all|sum|max1|min1|max2|min2|intOf|boolOf|isInt|isBool|isStr|isList|isTuple
 | sortedSet|lenSet|lenSetSub|sortedKeys|valuesOf|tupleRev
 deriving DecidableEq
inductive Sk where
 | seq|rng|enm|rev
 deriving DecidableEq
set_option genInjectivity false in
inductive ME where
 | var (i:Nat)
 | bor (i:Nat)
 | cst (v:PV)
 | glob (x:Str) (v:PV)
 | bin (op:Op2) (a b:ME)
 | neg (a:ME)
 | not (a:ME)
 | and (a b:ME)
 | or (a b:ME)
 | ite (c a b:ME)
 | cmp (op:Cp) (a b:ME)
 | chain (op op':Cp) (a b c:ME)
 | tup (es:List ME)
 | lst (es:List ME)
 | idx (a i:ME)
 | slice (a lo hi:ME)
 | blt (b:Blt) (es:List ME)
 | call (f:Nat) (es:List ME)
 | callD (f:Nat) (es:List ME) (d:List Sc)
 | comp (k:Sk) (src:List ME) (js:List Nat) (cond elt:ME)
 | dget (a k d:ME)
 | dat (a k:ME)
 | dIn (neg:Bool) (k a:ME)
 | lenP (i:Nat)
 | disp (kvs:List (Str×Str)) (e:ME)
 deriving Inhabited
noncomputable def a_:List PV->Option (List Int)
 | []=>some []
 | .int i::r=>(a_ r).map (i::·)
 | _=>none
noncomputable def gm:List PV->Option (List (List Int))
 | []=>some []
 | .tup xs::r=>(a_ xs).bind λx=>(gm r).map (x::·)
 | _=>none
noncomputable def cB:List PV->Option (List Bool)
 | []=>some []
 | .bl i::r=>(cB r).map (i::·)
 | _=>none
noncomputable def o_(kvs:List (Str×Str)):List (L2.Key×L2.V):=kvs.map λp=>(Sum.inr p.1,L2.V.str p.2)
noncomputable def BS(kvs:List (Str×Str)):PV->Option PV
 | .str x=>(L2.ja (L2.iz [] (o_ kvs)) (Sum.inr x)).bind λv=>match v with|.str y=>some (.str y)|_=>none
 | _=>none
noncomputable def wU:PV->PV->Option (Option Sc)
 | .dI (.k kvs),.int i=>some (bM kvs i)
 | .dI (.t kvs),.tup xs=>(a_ xs).map (bM kvs)
 | _,_=>none
noncomputable def qk:DD->PV->Sc->Option DD
 | .k kvs,.int i,s=>if kvs.length<10000 then some (.k (cF kvs i s))else none
 | .t kvs,.tup xs,s=>(a_ xs).bind λk=>if kvs.length<10000 then some (.t (cF kvs k s))else none
 | _,_,_=>none
noncomputable def dSc:DD->List Sc
 | .k kvs=>kvs.map (·.2)
 | .t kvs=>kvs.map (·.2)
 | .p _=>[]
noncomputable def lr(d:DD):List PV:=(dSc d).map Sc.pv
noncomputable def lexLt:List Int->List Int->Bool
 | [],[]=>false
 | [],_::_=>true
 | _::_,[]=>false
 |x::xs,y::ys=>if x=y then lexLt xs ys else decide (x<y)
noncomputable def yT(x:Int):List Int->List Int
 | []=>[x]
 |y::r=>if y<x then y::yT x r else x::y::r
noncomputable def sortI:List Int->List Int
 | []=>[]
 |x::r=>yT x (sortI r)
noncomputable def yU(x:List Int):List (List Int)->List (List Int)
 | []=>[x]
 |y::r=>if lexLt y x=true then y::yU x r else x::y::r
noncomputable def sortT:List (List Int)->List (List Int)
 | []=>[]
 |x::r=>yU x (sortT r)
noncomputable def dd:List Int->List Int
 | []=>[]
 |x::r=>if x∈dd r then dd r else x::dd r
noncomputable def jV{α:Type}(f:Int->Int->Option α):PV->PV->Option α
 | .int i,.int j=>f i j
 | _,_=>none
noncomputable def Dc:PV->PV->Option PV
 | .int i,.int j=>some (.int (i+j))
 | .lst a,.lst b=>if a.length+b.length<=10000 then some (.lst (a++b))else none
 | .tup a,.tup b=>if a.length+b.length<=10000 then some (.tup (a++b))else none
 | .str a,.str b=>if a.length+b.length<=1000000 then some (.str (a++b))else none
 | _,_=>none
noncomputable def fm(op:Op2):PV->PV->Option PV:=match op with
 | .add=>Dc
 | .sub=>jV λi j=>some (.int (i-j))
 | .mul=>jV λi j=>if (-(2 ^ 64)<i/\i<2 ^ 64)\/(-(2 ^ 64)<j/\j<2 ^ 64)then some (.int (i*j))else none
 | .fdiv=>jV λi j=>if 0<j/\j<1073741824 then some (.int (i / j))else none
 | .mod=>jV λi j=>if 0<j then some (.int (i % j))else none
 | .pow=>jV λi j=>if 0<=j/\j<=1000000/\i.natAbs<2 ^ 64 then some (.int (i ^ j.toNat))else none
 | .shr=>jV λi j=>if 0<=j then some (.int (i / 2 ^ j.toNat))else none
noncomputable def jk:PV->Bool
 | .non=>true
 | _=>false
noncomputable def isIn(x:PV)(xs:List PV):Option Bool:=inL (λy=>eqF 100 y x) xs
noncomputable def Ha(a b:PV):Option Bool:=match b with
 | .non=>some (jk a)
 | .bl q=>(match a with|.bl p=>some (p==q)|_=>none)
 | _=>none
noncomputable def bf:PV->Option (List PV)
 | .tup xs=>some xs
 | .lst xs=>some xs
 | _=>none
noncomputable def gY:PV->Option (List PV)
 | .lst xs=>some xs
 | _=>none
noncomputable def cu(op:Cp):PV->PV->Option Bool:=match op with
 | .eq=>eqF 100
 | .ne=>λa b=>if t_ a b=true then(eqF 100 a b).map λp=>!p else none
 | .lt=>jV λi j=>some (decide (i<j))
 | .le=>jV λi j=>some (decide (i<=j))
 | .gt=>jV λi j=>some (decide (j<i))
 | .ge=>jV λi j=>some (decide (j<=i))
 | .isN=>Ha
 | .notN=>λa b=>(Ha a b).map λp=>!p
 | .isIn=>λa b=>(bf b).bind (isIn a)
 | .notIn=>λa b=>((bf b).bind (isIn a)).map λp=>!p
noncomputable def place(n:Nat)(i:Int):Option Nat:=
 if 0<=i then(if i<n then some i.toNat else none)else if -(n:Int)<=i then some (i+n).toNat else none
noncomputable def gp:PV->PV->Option PV
 | .tup xs,.int i=>(place xs.length i).bind λj=>xs[j]?
 | .lst xs,.int i=>(place xs.length i).bind λj=>xs[j]?
 | _,_=>none
noncomputable def ig(n d:Nat):Option Int->Nat
 |none=>d
 |some i=>if i<0 then(i+n).toNat else min i.toNat n
noncomputable def cut(xs:List PV)(lo hi:Option Int):List PV:=(xs.drop (ig xs.length 0 lo)).take (ig xs.length xs.length hi-ig xs.length 0 lo)
noncomputable def jW:PV->Option Int->Option Int->Option PV
 | .lst xs,lo,hi=>some (.lst (cut xs lo hi))
 | .tup xs,lo,hi=>some (.tup (cut xs lo hi))
 | _,_,_=>none
noncomputable def bnd:ME->PV->Option (Option Int)
 | .cst .non,_=>some none
 | _,.int i=>some (some i)
 | _,_=>none
noncomputable def ua:List Int->Option Int
 | []=>none
 |x::r=>some (r.foldl (λa b=>if a<b then b else a) x)
noncomputable def BT:List Int->Option Int
 | []=>none
 |x::r=>some (r.foldl (λa b=>if b<a then b else a) x)
noncomputable def iC(xs:List PV):Option PV:=
 if xs.length<64 then
  match a_ xs with
  |some ns=>some (.lst ((sortI ns).map .int))
  |none=>(gm xs).map λz=>.lst ((sortT z).map λt=>.tup (t.map .int))
 else none
noncomputable def isT(b:Blt):PV->Bool
 | .int _=>b==.isInt
 | .bl _=>b==.isInt||b==.isBool
 | .str _=>b==.isStr
 | .lst _=>b==.isList
 | .tup _=>b==.isTuple
 | .non=>false
 | .dI _=>false
noncomputable def isD:PV->Bool
 | .dI _=>true
 | _=>false
noncomputable def b7(vs:List PV)(f:PV->Option PV):Option PV:=match vs with
 | [a]=>f a
 | _=>none
noncomputable def lP(vs:List PV)(f:PV->PV->Option PV):Option PV:=match vs with
 | [a,b]=>f a b
 | _=>none
noncomputable def jb(b:Blt)(vs:List PV):Option PV:=b7 vs λa=>if isD a=true then none else some (.bl (isT b a))
noncomputable def Hb:PV->Option PV
 | .tup xs=>some (.int xs.length)
 | .lst xs=>some (.int xs.length)
 | .dI (.k kvs)=>some (.int kvs.length)
 | _=>none
noncomputable def av(b:Blt)(vs:List PV):Option PV:=match b with
 | .len=>b7 vs Hb
 | .tupleOf=>b7 vs λa=>(bf a).map .tup
 | .listOf=>b7 vs λa=>(bf a).map .lst
 | .sorted=>b7 vs λa=>(bf a).bind iC
 | .any=>b7 vs λa=>(gY a).bind λxs=>(cB xs).map λbs=>.bl (bs.any id)
 | .all=>b7 vs λa=>(gY a).bind λxs=>(cB xs).map λbs=>.bl (bs.all id)
 | .sum=>b7 vs λa=>(gY a).bind λxs=>(a_ xs).map λns=>.int ns.sum
 | .max1=>b7 vs λa=>(gY a).bind λxs=>(a_ xs).bind λns=>(ua ns).map .int
 | .min1=>b7 vs λa=>(gY a).bind λxs=>(a_ xs).bind λns=>(BT ns).map .int
 | .max2=>lP vs (jV λi j=>some (.int (if j > i then j else i)))
 | .min2=>lP vs (jV λi j=>some (.int (if j<i then j else i)))
 | .intOf=>b7 vs λa=>match a with|.int i=>some (.int i)|.bl b=>some (.int (if b then 1 else 0))|_=>none
 | .boolOf=>b7 vs λa=>match a with|.bl b=>some (.bl b)|_=>none
 | .isInt=>jb .isInt vs
 | .isBool=>jb .isBool vs
 | .isStr=>jb .isStr vs
 | .isList=>jb .isList vs
 | .isTuple=>jb .isTuple vs
 | .sortedSet=>b7 vs λa=>(bf a).bind λxs=>(a_ xs).bind λns=>if ns.length<=4000/\(dd ns).length<64 then some (.lst ((sortI (dd ns)).map .int))else none
 | .lenSet=>b7 vs λa=>(bf a).bind λxs=>(a_ xs).bind λns=>if ns.length<=4000 then some (.int (dd ns).length)else none
 | .lenSetSub=>lP vs λa b=>(bf a).bind λxs=>(a_ xs).bind λns=>(bf b).bind λys=>(a_ ys).bind λms =>
   if ns.length<=4000/\ms.length<=4000/\(dd ns).length<=60 then some (.int ((dd ns).filter λn=>!decide (n∈ms)).length)else none
 | .sortedKeys=>b7 vs λa=>match a with|.dI (.k kvs)=>if kvs.length<64 then some (.lst ((sortI (kvs.map (·.1))).map .int))else none|_=>none
 | .tupleRev=>b7 vs λa=>(gY a).map λxs=>.tup xs.reverse
 | .valuesOf=>b7 vs λa=>match a with|.dI d=>if (lr d).length<=10000 then some (.lst (lr d))else none|_=>none
noncomputable def bu(n:Nat):List PV->List PV
 | []=>[]
 |x::r=>.tup [.int (n:Nat),x]::bu (n+1) r
noncomputable def bj:Sk->List PV->Option (List PV)
 | .seq,[a]=>bf a
 | .rng,[.int j]=>if -(2 ^ 62)<=j/\j<2 ^ 62 then some ((range j.toNat).map λ(k:Nat)=>.int ((0:Int)+k))else none
 | .rng,[.int i,.int j]=>if -(2 ^ 62)<=i/\i<2 ^ 62/\-(2 ^ 62)<=j/\j<2 ^ 62 then some ((range (j-i).toNat).map λ(k:Nat)=>.int (i+k))else none
 | .enm,[a]=>(bf a).map (bu 0)
 | .rev,[.lst xs]=>some xs.reverse
 | _,_=>none
noncomputable def fW(c:PV->Option Bool)(f:PV->Option PV):List PV->Option (List PV)
 | []=>some []
 |x::r=>(c x).bind λb=>if b=true then(f x).bind λy=>(fW c f r).map (y::·)else fW c f r
noncomputable def aZ:PV->Option Bool
 | .bl b=>some b
 | _=>none
noncomputable abbrev Cal:=Nat->List MV->Option PV
noncomputable def yV:Option MV->Option PV
 |some (.val v)=>some v
 | _=>none
noncomputable def rO:DD->Bool
 | .p _=>false
 | _=>true
noncomputable def bv:Option MV->Option PV
 |some (.val v)=>some v
 |some (.own xs)=>some (.lst xs)
 |some (.brw xs)=>some (.lst xs)
 |some (.ownD kvs)=>if rO kvs=true then some (.dI kvs)else none
 |some (.brwD kvs)=>if rO kvs=true then some (.dI kvs)else none
 |some (.mutD kvs)=>if rO kvs=true then some (.dI kvs)else none
 |none=>none
noncomputable def gq:Option MV->Option MV
 |some (.val v)=>some (.val v)
 |some (.own xs)=>some (.brw xs)
 |some (.brw xs)=>some (.brw xs)
 |some (.ownD xs)=>some (.brwD xs)
 |some (.brwD xs)=>some (.brwD xs)
 |some (.mutD xs)=>some (.brwD xs)
 |none=>none
noncomputable def fJ:Option MV->Option MV
 |some (.own xs)=>some (.brw xs)
 |some (.ownD xs)=>some (.brwD xs)
 |some (.mutD xs)=>some (.brwD xs)
 |o=>o
noncomputable def cv(js:List Nat)(W:Rho)(x:PV):Rho:=some (.val x)::js.map λj=>fJ (W[j]?).join
noncomputable def ub:Option MV->Option PV
 |some (.ownD (.p ns))=>some (.int ns.length)
 |some (.mutD (.p ns))=>some (.int ns.length)
 | _=>none
mutual
noncomputable def ev(cal:Cal):ME->Rho->Option PV
 | .var i,W=>yV (W[i]?).join
 | .bor i,W=>bv (W[i]?).join
 | .cst v,_=>some v
 | .glob _ v,_=>some v
 | .bin op a b,W=>(ev cal a W).bind λx=>(ev cal b W).bind λy=>fm op x y
 | .neg a,W=>(ev cal a W).bind λx=>match x with|.int i=>some (.int (-i))|_=>none
 | .not a,W=>((ev cal a W).bind aZ).map λb=>.bl (!b)
 | .and a b,W=>((ev cal a W).bind aZ).bind λc=>if c=true then(ev cal b W).bind λy=>(aZ y).map .bl else some (.bl false)
 | .or a b,W=>((ev cal a W).bind aZ).bind λc=>if c=true then some (.bl true)else(ev cal b W).bind λy=>(aZ y).map .bl
 | .ite c a b,W=>((ev cal c W).bind aZ).bind λk=>if k=true then ev cal a W else ev cal b W
 | .cmp op a b,W=>(ev cal a W).bind λx=>(ev cal b W).bind λy=>(cu op x y).map .bl
 | .chain op J a b c,W=>(ev cal a W).bind λx=>(ev cal b W).bind λy=>(cu op x y).bind λk=>if k=true then(ev cal c W).bind λz=>(cu J y z).map .bl else some (.bl false)
 | .tup es,W=>(evs cal es W).bind λvs=>if vs.length<=10000 then some (.tup vs)else none
 | .lst es,W=>(evs cal es W).bind λvs=>if vs.length<=10000 then some (.lst vs)else none
 | .idx a i,W=>(ev cal a W).bind λx=>(ev cal i W).bind λy=>gp x y
 | .slice a lo hi,W=>(ev cal a W).bind λx=>((ev cal lo W).bind λl=>bnd lo l).bind λl=>((ev cal hi W).bind λh=>bnd hi h).bind λh=>jW x l h
 | .blt b es,W=>(evs cal es W).bind λvs=>av b vs
 | .call f es,W=>(evA cal es W).bind λvs=>cal f vs
 | .callD f es d,W=>(evA cal es W).bind λvs=>cal f (vs++d.map λx=>.val x.pv)
 | .comp k src js cond elt,W=>(evs cal src W).bind λvs=>(bj k vs).bind λxs =>
   if xs.length<=10000 then(fW (λx=>(ev cal cond (cv js W x)).bind aZ) (λx=>ev cal elt (cv js W x)) xs).map .lst else none
 | .dget a k d,W=>(ev cal a W).bind λx=>(ev cal k W).bind λy=>(ev cal d W).bind λz=>(wU x y).bind λo=>(sc? z).map λs=>(o.getD s).pv
 | .dat a k,W=>(ev cal a W).bind λx=>(ev cal k W).bind λy=>(wU x y).bind λo=>o.map Sc.pv
 | .dIn neg k a,W=>(ev cal k W).bind λy=>(ev cal a W).bind λx=>(wU x y).map λo=>.bl (if neg=true then !o.isSome else o.isSome)
 | .lenP i,W=>ub (W[i]?).join
 | .disp kvs e,W=>(ev cal e W).bind (BS kvs)
noncomputable def evs(cal:Cal):List ME->Rho->Option (List PV)
 | [],_=>some []
 |e::es,W=>(ev cal e W).bind λv=>(evs cal es W).map (v::·)
noncomputable def evA(cal:Cal):List ME->Rho->Option (List MV)
 | [],_=>some []
 | .bor i::es,W=>(gq (W[i]?).join).bind λv=>(evA cal es W).map (v::·)
 |e::es,W=>(ev cal e W).bind λv=>(evA cal es W).map (MV.val v::·)
end
noncomputable def evB(cal:Cal)(e:ME)(W:Rho):Option Bool:=(ev cal e W).bind aZ
noncomputable def gr:Option MV->Option DD
 |some (.ownD d)=>some d
 |some (.mutD d)=>some d
 | _=>none
noncomputable def evM(cal:Cal):List Bool->List ME->Rho->Option (List MV)
 | [],[],_=>some []
 |true::bs,.bor i::es,W=>(gr (W[i]?).join).bind λd=>(evM cal bs es W).map (MV.mutD d::·)
 |false::bs,e::es,W=>(evA cal [e] W).bind λa=>match a with|[.val v]=>(evM cal bs es W).map (MV.val v::·)|_=>none
 | _,_,_=>none
noncomputable def fF(W:Rho)(i:Nat)(d:DD):Rho:=match (W[i]?).join with
 |some (.ownD _)=>W.set i (some (.ownD d))
 | _=>W.set i (some (.mutD d))
noncomputable def jX:List Bool->List ME->List PV->Rho->Option Rho
 | [],[],[],W=>some W
 |true::bs,.bor i::es,.dI d::ds,W=>jX bs es ds (fF W i d)
 |false::bs,_::es,ds,W=>jX bs es ds W
 | _,_,_,_=>none
noncomputable def rP(cal:Cal)(f:Nat)(mask:List Bool)(es:List ME)(W:Rho):Option (PV×Rho):=
 match (evM cal mask es W).bind λvs=>cal (f+2000) vs with
 |some (.tup (v::ds))=>(jX mask es ds W).map λl=>(v,l)
 | _=>none
inductive SK where
 | one|cat|pair
 deriving DecidableEq
noncomputable def Dd:SK->PV->PV->Option PV
 | .one,_,v=>some v
 | .cat,w,v=>fm .add w v
 | .pair,w,v=>some (.tup [w,v])
noncomputable def BU:Option MV->Option MV
 |some (.val v)=>some (.val v)
 |some (.brw xs)=>some (.brw xs)
 |some (.ownD d)=>some (.mutD d)
 |some (.mutD d)=>some (.mutD d)
 |some (.brwD d)=>some (.brwD d)
 | _=>none
noncomputable def mX(js:List Nat)(W:Rho)(x:PV):Rho:=some (.val x)::js.map λj=>BU (W[j]?).join
noncomputable def Es(js:List Nat):ME->ME
 | .bor i=>.bor (if i=0 then 0 else js.getD (i-1) 0)
 |e=>e
noncomputable def gZ(cal:Cal)(js:List Nat)(k:SK)(e:ME)(f:Nat)(mask:List Bool)(es:List ME):List PV->Rho->Option (List PV×Rho)
 | [],W=>some ([],W)
 |x::xs,W=>(ev cal e (mX js W x)).bind λw=>match (evM cal mask es (mX js W x)).bind λvs=>cal (f+2000) vs with
  |some (.tup (v::ds))=>(Dd k w v).bind λr=>(jX mask (es.map (Es js)) ds W).bind λl=>(gZ cal js k e f mask es xs l).map λp=>(r::p.1,p.2)
  | _=>none
inductive XE where
 | pure (e:ME)
 | call (f:Nat) (mask:List Bool) (es:List ME)
 | pop (i:Nat)
 | bin (op:Op2) (a:XE) (b:ME)
 | fn (g:Nat) (a:XE) (es:List ME)
 | tup (xs:List XE)
 | tupOf (a:XE)
 | lst (xs:List XE)
 | fn2 (g:Nat) (e:ME) (a:XE)
 | compS (src:ME) (js:List Nat) (k:SK) (e:ME) (f:Nat) (mask:List Bool) (es:List ME)
 deriving Inhabited
noncomputable def BV(i:Nat)(W:Rho):Option (PV×Rho):=match gr (W[i]?).join with
 |some (.p ns)=>(ns.getLast?).map λn=>(.int n,fF W i (.p ns.dropLast))
 | _=>none
mutual
noncomputable def evX(cal:Cal):XE->Rho->Option (PV×Rho)
 | .pure e,W=>(ev cal e W).map λv=>(v,W)
 | .call f mask es,W=>rP cal f mask es W
 | .pop i,W=>BV i W
 | .bin op a b,W=>(evX cal a W).bind λp=>(ev cal b p.2).bind λy=>(fm op p.1 y).map λr=>(r,p.2)
 | .fn g a es,W=>(evX cal a W).bind λp=>(evA cal es p.2).bind λvs=>(cal g (.val p.1::vs)).map λr=>(r,p.2)
 | .tup xs,W=>(evXs cal xs W).bind λp=>if p.1.length<=10000 then some (.tup p.1,p.2)else none
 | .lst xs,W=>(evXs cal xs W).bind λp=>if p.1.length<=10000 then some (.lst p.1,p.2)else none
 | .fn2 g e a,W=>(ev cal e W).bind λw=>(evX cal a W).bind λp=>(cal g [.val w,.val p.1]).map λr=>(r,p.2)
 | .tupOf a,W=>(evX cal a W).bind λp=>(av .tupleOf [p.1]).map λr=>(r,p.2)
 | .compS src js k e f mask es,W=>(evs cal [src] W).bind λvs=>(bj .seq vs).bind λxs=>if xs.length<=10000 then(gZ cal js k e f mask es xs W).map λp=>(.lst p.1,p.2)else none
noncomputable def evXs(cal:Cal):List XE->Rho->Option (List PV×Rho)
 | [],W=>some ([],W)
 |x::xs,W=>(evX cal x W).bind λp=>(evXs cal xs p.2).map λq=>(p.1::q.1,q.2)
end
set_option genInjectivity false in
inductive MS where
 | set (i:Nat) (e:ME)
 | setOwn (i:Nat) (e:ME)
 | freeze (i:Nat)
 | append (i:Nat) (e:ME)
 | extend (i:Nat) (e:ME)
 | setIdx (i:Nat) (k v:ME)
 | unpack (is:List Nat) (e:ME)
 | expr (e:ME)
 | ite (c:ME) (a b:List MS)
 | for1 (i:Nat) (k:Sk) (src:List ME) (body:List MS)
 | forT (is:List Nat) (k:Sk) (src:List ME) (body:List MS)
 | while (n:Nat) (c:ME) (body:List MS)
 | ret (e:ME)
 | retOwn (i:Nat)
 | retN
 | brk
 | cont
 | pass
 | never
 | newD (m:Bool) (i:Nat)
 | retM (e:ME)
 | retF (e:ME)
 | setCall (i f:Nat) (es:List ME)
 | clear (i:Nat)
 | setP (i:Nat) (e:ME)
 | setX (i:Nat) (x:XE)
 | appX (i:Nat) (x:XE)
 | ownX (i:Nat) (xs:List XE)
 | retXE (x:XE)
 | forX (i:Nat) (x:XE) (body:List MS)
 | dput (i:Nat) (k v:ME)
 deriving Inhabited
inductive R where
 | next (W:Rho)|brk (W:Rho)|cont (W:Rho)|ret (v:PV)|bad
 | retF (xs:List PV)
 | retM (v:PV) (W:Rho)
 deriving Inhabited
noncomputable def R.andThen:R->(Rho->R)->R
 | .next W,k=>k W
 |r,_=>r
noncomputable def put(W:Rho)(i:Nat)(v:MV):Rho:=W.set i (some v)
noncomputable def eV(o:Option PV)(k:PV->R):R:=match o with
 |some v=>k v
 |none=>.bad
noncomputable def yW(o:Option Bool)(k:Bool->R):R:=match o with
 |some v=>k v
 |none=>.bad
noncomputable def oJ:List Nat->List PV->Rho->Option Rho
 | [],[],W=>some W
 |i::is,v::vs,W=>oJ is vs (put W i (.val v))
 | _,_,_=>none
noncomputable def d7(is:List Nat):PV->Rho->Option Rho
 | .tup vs,W=>oJ is vs W
 | _,_=>none
noncomputable def cG(o:Option Rho)(f:Rho->R):R:=match o with
 |some W=>f W
 |none=>.bad
noncomputable def aw(body:PV->Rho->R):List PV->Rho->R
 | [],W=>.next W
 |x::r,W=>match body x W with
  | .next l=>aw body r l
  | .cont l=>aw body r l
  | .brk l=>.next l
  | .ret v=>.ret v
  | .bad=>.bad
  | .retF xs=>.retF xs
  | .retM v l=>.retM v l
noncomputable def ql(c:Rho->Option Bool)(body:Rho->R):Nat->Rho->R
 |0,_=>.bad
 |n+1,W=>match c W with
  |none=>.bad
  |some false=>.next W
  |some true=>match body W with
   | .next l=>ql c body n l
   | .cont l=>ql c body n l
   | .brk l=>.next l
   | .ret v=>.ret v
   | .bad=>.bad
   | .retF xs=>.retF xs
   | .retM v l=>.retM v l
noncomputable def bL(src:List ME)(W:Rho):Rho:=match src with
 | [.bor i]=>(match (W[i]?).join with|some (.own xs)=>put W i (.brw xs)|_=>W)
 | _=>W
noncomputable def aP(src:List ME)(z W:Rho):Rho:=match src with
 | [.bor i]=>(match (z[i]?).join,(W[i]?).join with|some (.own _),some (.brw xs)=>put W i (.own xs)|_,_=>W)
 | _=>W
noncomputable def R.back(src:List ME)(z:Rho):R->R
 | .next W=>.next (aP src z W)
 | .brk W=>.brk (aP src z W)
 | .cont W=>.cont (aP src z W)
 | .retM v W=>.retM v (aP src z W)
 |r=>r
mutual
noncomputable def ex(cal:Cal):MS->Rho->R
 | .set i e,W=>eV (ev cal e W) λv=>.next (put W i (.val v))
 | .setOwn i e,W=>eV (ev cal e W) λv=>match v with|.lst xs=>.next (put W i (.own xs))|_=>.bad
 | .freeze i,W=>match (W[i]?).join with|some (.own xs)=>.next (put W i (.val (.lst xs)))|some _=>.next W|none=>.bad
 | .append i e,W=>eV (ev cal e W) λv=>match (W[i]?).join with
  |some (.own xs)=>if xs.length<10000 then .next (put W i (.own (xs++[v])))else .bad
  | _=>.bad
 | .extend i e,W=>eV (ev cal e W) λv=>match (W[i]?).join,bf v with
  |some (.own xs),some ys=>if xs.length+ys.length<=10000 then .next (put W i (.own (xs++ys)))else .bad
  | _,_=>.bad
 | .setIdx i k v,W=>eV (ev cal v W) λv=>eV (ev cal k W) λk=>match (W[i]?).join,k with
  |some (.own xs),.int k=>(match place xs.length k with|some j=>.next (put W i (.own (xs.set j v)))|none=>.bad)
  | _,_=>.bad
 | .unpack is e,W=>eV (ev cal e W) λv=>cG (d7 is v W) .next
 | .expr e,W=>eV (ev cal e W) λ_=>.next W
 | .ite c a b,W=>yW (evB cal c W) λk=>if k=true then exs cal a W else exs cal b W
 | .for1 i k src body,W=>match (evs cal src W).bind (bj k)with
  |some xs=>(aw (λx l=>exs cal body (put l i (.val x))) xs (bL src W)).back src W
  |none=>.bad
 | .forT is k src body,W=>match (evs cal src W).bind (bj k)with
  |some xs=>(aw (λx l=>cG (d7 is x l) λz=>exs cal body z) xs (bL src W)).back src W
  |none=>.bad
 | .while n c body,W=>ql (evB cal c) (λl=>exs cal body l) n W
 | .ret e,W=>eV (ev cal e W) .ret
 | .retOwn i,W=>match (W[i]?).join with|some (.own xs)=>.ret (.lst xs)|some (.ownD kvs)=>if rO kvs=true then .ret (.dI kvs)else .bad|some (.val v)=>.ret v|_=>.bad
 | .newD m i,W=>.next (put W i (.ownD (if m=true then .t []else .k [])))
 | .dput i k v,W=>eV (ev cal v W) λv=>eV (ev cal k W) λk=>match (W[i]?).join,sc? v with
  |some (.ownD d),some s=>match qk d k s with|some d'=>.next (put W i (.ownD d'))|none=>.bad
  |some (.mutD d),some s=>match qk d k s with|some d'=>.next (put W i (.mutD d'))|none=>.bad
  | _,_=>.bad
 | .retM e,W=>eV (ev cal e W) λv=>.retM v W
 | .retF e,W=>eV (ev cal e W) λv=>match v with|.lst xs=>.retF xs|_=>.bad
 | .setCall i f es,W=>eV ((evA cal es W).bind λvs=>cal (f+1000) vs) λv=>match v with|.lst xs=>.next (put W i (.own xs))|_=>.bad
 | .clear i,W=>match (W[i]?).join with|some (.own _)=>.next (put W i (.own []))|_=>.bad
 | .setP i e,W=>match ev cal e W with
  |some (.lst xs)=>(match a_ xs with
   |some ns=>.next (put W i (.ownD (.p ns.reverse)))
   |none=>.bad)
  | _=>.bad
 | .setX i x,W=>match evX cal x W with
  |some (v,l)=>.next (put l i (.val v))
  |none=>.bad
 | .ownX i xs,W=>match evXs cal xs W with
  |some (vs,l)=>if vs.length<=10000 then .next (put l i (.own vs))else .bad
  |none=>.bad
 | .appX i x,W=>match (W[i]?).join with
  |some (.own _)=>(match evX cal x W with
   |some (v,l)=>(match (l[i]?).join with
    |some (.own xs)=>if xs.length<10000 then .next (put l i (.own (xs++[v])))else .bad
    | _=>.bad)
   |none=>.bad)
  | _=>.bad
 | .retXE x,W=>match evX cal x W with
  |some (v,l)=>.retM v l
  |none=>.bad
 | .forX i x body,W=>match evX cal x W with
  |some (v,l)=>(match bj .rng [v]with
   |some xs=>aw (λy z=>exs cal body (put z i (.val y))) xs l
   |none=>.bad)
  |none=>.bad
 | .retN,_=>.ret .non
 | .brk,W=>.brk W
 | .cont,W=>.cont W
 | .pass,W=>.next W
 | .never,_=>.bad
noncomputable def exs(cal:Cal):List MS->Rho->R
 | [],W=>.next W
 |s::ss,W=>(ex cal s W).andThen λl=>exs cal ss l
end
structure MD where
 name:Str
 params:List Str
 names:List Str
 body:List MS
 deriving Inhabited
noncomputable def eI:List MV->Rho->Option (List PV)
 | [],_=>some []
 | .mutD _::as,some (.mutD d)::W=>(eI as W).map (.dI d::·)
 | .val _::as,_::W=>eI as W
 | _,_=>none
noncomputable def ab(ds:List MD):Nat->Cal
 |0,_,_=>none
 |n+1,f,args=>match ds[f]? with
  |none=>if 2000<=f then(
   match ds[f-2000]? with
   |none=>none
   |some d=>if args.length=d.params.length then
     (match exs (ab ds n) d.body (args.map some++replicate (d.names.length-args.length) none)with
     | .retM v W=>(eI args W).map λds=>.tup (v::ds)
     | _=>none)else none)else
   (match ds[f-1000]? with
   |none=>none
   |some d=>if args.length=d.params.length then
     (match exs (ab ds n) d.body (args.map some++replicate (d.names.length-args.length) none)with
     | .retF xs=>some (.lst xs)
     | _=>none)else none)
  |some d=>if args.length=d.params.length then
    (match exs (ab ds n) d.body (args.map some++replicate (d.names.length-args.length) none)with
    | .next _=>some .non
    | .ret v=>some v
    | .retF xs=>some (.lst xs)
    | _=>none)else none
end MM
namespace MM
open PySem PySem.Spec PyProof.Rows L2 List Option
noncomputable abbrev St:=L2.St
noncomputable def aq(H:Hp)(O:List Addr):Hp:=λb=>if b∈O then none else H b
def eX(h:b∈O):aq H O b=none:=if_pos h
def aT(h:b∉O):aq H O b=H b:=if_neg h
theorem aj.rd(s:aj H H')(h:Rd H a u):Rd H' a u:=h.elim (λe=>.inl (s a _ e)) λ⟨o,e⟩=>.inr ⟨o,s a _ e⟩
def bQ(H)(O):aj (aq H O) H:=λb u e=>by
 unfold aq at e
 simp_all
def bF(s:aj H H')(h:∀b∈U,b∈O\/H b=none):aj (aq H O) (aq H' U):=λb u e=>by
 have J:b∉O:=λz=>by rw[eX z]at e;cases e
 rw[aT J]at e;rw[aT]
 .exact s b u e
 .intro z;rcases h b z with q|q
  .exact J q
  .rw[q]at e;cases e
def al(s:aj H H'):aj (aq H O) (aq H' O):=bF s λ_ h=>.inl h
noncomputable def Sc.v:Sc->V
 | .non=>.non
 | .bl b=>.bl b
 | .int i=>.int i
 | .str x=>.str x
noncomputable def gu(kvs:List (Int×Sc)):List (Key×V):=kvs.map λp=>(Sum.inl p.1,p.2.v)
noncomputable def jx(kvs:List (List Int×Sc)):List (List Key×V):=kvs.map λp=>(p.1.map Sum.inl,p.2.v)
noncomputable def iD:DD->HO
 | .k kvs=>.dK (gu kvs)
 | .t kvs=>.dT (jx kvs)
 | .p ns=>.lst (ns.map V.int)
def RdD(F:Hp)(a:Addr)(d:DD):Prop:=Rd F a (iD d)/\rO d=true
theorem RdD.rd(h:RdD F a d):Rd F a (iD d):=h.1
theorem aj.rdD(s:aj H H')(h:RdD H a d):RdD H' a d:=⟨aj.rd s h.1,h.2⟩
mutual
noncomputable def Rep(K:Nl)(F:Hp):PV->V->Prop
 | .non,u=>u=.non
 | .bl b,u=>u=.bl b
 | .int i,u=>u=.int i
 | .str x,u=>u=.str x
 | .tup xs,u=>∃a us,u=.ref a/\F a=some (.tup us)/\Reps K F xs us
 | .lst xs,u=>∃a us,u=.ref a/\SqL K F a us/\Reps K F xs us
 | .dI kvs,u=>∃a,u=.ref a/\RdD F a kvs
noncomputable def Reps(K:Nl)(F:Hp):List PV->List V->Prop
 | [],us=>us=[]
 |x::xs,us=>∃u r,us=u::r/\Rep K F x u/\Reps K F xs r
end
section
variable{K:Nl}{F F':Hp}
mutual
theorem Rep.mono(s:aj F F'):∀(x:PV) {u:V},Rep K F x u->Rep K F' x u
 | .non,_,h=>by simpa only[Rep]using h
 | .bl _,_,h=>by simpa only[Rep]using h
 | .int _,_,h=>by simpa only[Rep]using h
 | .str _,_,h=>by simpa only[Rep]using h
 | .tup xs,_,h=>by
  rw[Rep]at h ⊢;obtain⟨a,us,e,q,r⟩:=h;exact⟨a,us,e,s a _ q,Reps.mono s xs r⟩
 | .lst xs,_,h=>by
  rw[Rep]at h ⊢;obtain⟨a,us,e,q,r⟩:=h;exact⟨a,us,e,s.seq q,Reps.mono s xs r⟩
 | .dI kvs,_,h=>by
  rw[Rep]at h ⊢;obtain⟨a,e,q⟩:=h;exact⟨a,e,aj.rdD s q⟩
theorem Reps.mono(s:aj F F'):∀(xs:List PV) {us:List V},Reps K F xs us->Reps K F' xs us
 | [],_,h=>by simpa only[Reps]using h
 |x::xs,_,h=>by
  rw[Reps]at h ⊢;obtain⟨u,r,e,q,t⟩:=h;exact⟨u,r,e,Rep.mono s x q,Reps.mono s xs t⟩
end
theorem Reps.nil:Reps K F [] []:=rfl
theorem Reps.cons{u:V}{us:List V}(h:Rep K F x u)(t:Reps K F xs us):Reps K F (x::xs) (u::us):=by
 rw[Reps];exact⟨u,us,rfl,h,t⟩
theorem Reps.length:∀{xs}{us},Reps K F xs us->xs.length=us.length
 | [],_,h=>by rw[Reps]at h;subst h;rfl
 |x::xs,_,h=>by
  obtain⟨u,r,e,_,t⟩:=h;subst e;simp[Reps.length t]
theorem Reps.get:∀{xs}{us}{i:Nat}{x},Reps K F xs us->xs[i]?=some x->∃u,us[i]?=some u/\Rep K F x u
 | [],_,_,_,_,e=>by simp at e
 |x::xs,_,i,y,h,e=>by
  obtain⟨u,r,rfl,q,t⟩:=h;cases i with
  |zero=>simp at e;subst e;exact⟨u,by simp,q⟩
  |succ i=>obtain⟨w,h1,h2⟩:=Reps.get (i:=i) t (by simpa using e);exact⟨w,by simpa using h1,h2⟩
theorem Reps.get':∀{xs}{us}{i:Nat}{u},Reps K F xs us->us[i]?=some u->∃x,xs[i]?=some x/\Rep K F x u
 | [],_,i,_,h,e=>by rw[Reps]at h;subst h;simp at e
 |x::xs,_,i,y,h,e=>by
  obtain⟨u,r,rfl,q,t⟩:=h;cases i with
  |zero=>simp at e;subst e;exact⟨x,by simp,q⟩
  |succ i=>obtain⟨w,h1,h2⟩:=Reps.get' (i:=i) t (by simpa using e);exact⟨w,by simpa using h1,h2⟩
theorem Reps.append:∀{xs ys}{us z},Reps K F xs us->Reps K F ys z->Reps K F (xs++ys) (us++z)
 | [],_,_,_,h,g=>by rw[Reps]at h;subst h;exact g
 |x::xs,_,_,_,h,g=>by
  obtain⟨u,r,rfl,q,t⟩:=h;exact .cons q (Reps.append t g)
theorem Reps.snoc(h:Reps K F xs us)(g:Rep K F x u):Reps K F (xs++[x]) (us++[u]):=h.append (.cons g .nil)
theorem Reps.take:∀{xs}{us} n,Reps K F xs us->Reps K F (xs.take n) (us.take n)
 | _,_,0,_=>by simpa using Reps.nil
 | [],_,n+1,h=>by rw[Reps]at h;subst h;simpa using Reps.nil
 |x::xs,_,n+1,h=>by
  obtain⟨u,r,rfl,q,t⟩:=h;exact .cons q (Reps.take n t)
theorem Reps.drop:∀{xs}{us} n,Reps K F xs us->Reps K F (xs.drop n) (us.drop n)
 | _,_,0,h=>h
 | [],_,n+1,h=>by rw[Reps]at h;subst h;simpa using Reps.nil
 |x::xs,_,n+1,h=>by
  obtain⟨u,r,rfl,q,t⟩:=h;exact Reps.drop n t
theorem Reps.set:∀{xs}{us}{x}{u} n,Reps K F xs us->Rep K F x u->Reps K F (xs.set n x) (us.set n u)
 | [],_,_,_,n,h,_=>by rw[Reps]at h;subst h;simpa using Reps.nil
 |x::xs,_,_,_,0,h,g=>by
  obtain⟨u,r,rfl,q,t⟩:=h;exact .cons g t
 |x::xs,_,_,_,n+1,h,g=>by
  obtain⟨u,r,rfl,q,t⟩:=h;exact .cons q (Reps.set n t g)
theorem Reps.dropLast(h:Reps K F xs us):Reps K F xs.dropLast us.dropLast:=by
 rw[dropLast_eq_take,dropLast_eq_take,<- h.length];exact h.take _
theorem Reps.ints:∀{ns:List Int}{us},Reps K F (ns.map .int) us->us=ns.map V.int
 | [],_,h=>by simpa[Reps]using h
 |n::ns,_,h=>by
  obtain⟨u,r,rfl,q,t⟩:=h;rw[q,Reps.ints t];rfl
theorem Reps.of_ints:∀(ns:List Int),Reps K F (ns.map .int) (ns.map V.int)
 | []=>.nil
 |n::ns=>.cons (by rw[Rep]) (Reps.of_ints ns)
theorem di:∀{xs}{ns},a_ xs=some ns->xs=ns.map .int
 | [],_,h=>by simp[a_]at h;subst h;rfl
 | .int i::r,ns,h=>by
  simp[a_]at h;obtain⟨ms,h1,rfl⟩:=h;rw[di h1];rfl
 | .non::_,_,h=>by simp[a_]at h
 | .bl _::_,_,h=>by simp[a_]at h
 | .str _::_,_,h=>by simp[a_]at h
 | .tup _::_,_,h=>by simp[a_]at h
 | .lst _::_,_,h=>by simp[a_]at h
 | .dI _::_,_,h=>by simp[a_]at h
theorem rQ:∀{xs}{ns},gm xs=some ns->xs=ns.map λt=>.tup (t.map .int)
 | [],_,h=>by simp[gm]at h;subst h;rfl
 | .tup i::r,ns,h=>by
  simp[gm,ez]at h;obtain⟨t,z,ms,h1,rfl⟩:=h;rw[rQ h1,di z];rfl
 | .non::_,_,h=>by simp[gm]at h
 | .bl _::_,_,h=>by simp[gm]at h
 | .str _::_,_,h=>by simp[gm]at h
 | .int _::_,_,h=>by simp[gm]at h
 | .lst _::_,_,h=>by simp[gm]at h
 | .dI _::_,_,h=>by simp[gm]at h
theorem kM:∀{xs}{ns},cB xs=some ns->xs=ns.map .bl
 | [],_,h=>by simp[cB]at h;subst h;rfl
 | .bl i::r,ns,h=>by
  simp[cB]at h;obtain⟨ms,h1,rfl⟩:=h;rw[kM h1];rfl
 | .non::_,_,h=>by simp[cB]at h
 | .int _::_,_,h=>by simp[cB]at h
 | .str _::_,_,h=>by simp[cB]at h
 | .tup _::_,_,h=>by simp[cB]at h
 | .lst _::_,_,h=>by simp[cB]at h
 | .dI _::_,_,h=>by simp[cB]at h
end
def eJ{K:Nl}{H:Hp}{a:Addr}{us:List V}(h:H a=some (.tup us)):SqT K H a us:=SqT.of h
def bD(K:Nl)(H:Hp)(O:List Addr)(v:PV)(u:V):Prop:=
 Rep K (aq H O) v u\/(∃xs a us,v=.lst xs/\u=.ref a/\SqL K H a us/\Reps K (aq H O) xs us)\/∃kvs a,v=.dI kvs/\u=.ref a/\RdD H a kvs
section
variable{K:Nl}{H H':Hp}{O:List Addr}
theorem bD.of(h:Rep K (aq H O) v u):bD K H O v u:=.inl h
theorem bD.mono(s:aj H H')(h:bD K H O v u):bD K H' O v u:=by
 rcases h with h|⟨xs,a,us,z,J,q,r⟩|⟨kvs,a,z,J,q⟩
 .exact .inl (Rep.mono (al s) _ h)
 .exact .inr (.inl ⟨xs,a,us,z,J,s.seq q,Reps.mono (al s) _ r⟩)
 .exact .inr (.inr ⟨kvs,a,z,J,aj.rdD s q⟩)
theorem bD.lst(h:bD K H O (.lst xs) u):∃a us,u=.ref a/\SqL K H a us/\Reps K (aq H O) xs us:=by
 rcases h with h|⟨ys,a,us,z,J,q,r⟩|⟨kvs,a,z,J,q⟩
 .rw[Rep]at h;obtain⟨a,us,e,q,r⟩:=h;exact⟨a,us,e,(bQ H O).seq q,r⟩
 .cases z;exact⟨a,us,J,q,r⟩
 .cases z
def bD.tupH(h:bD K H O (.tup xs) u):∃a us,u=.ref a/\H a=some (.tup us)/\Reps K (aq H O) xs us:=by
 rcases h with h|⟨ys,a,us,z,J,q,r⟩|⟨kvs,a,z,J,q⟩
 .rw[Rep]at h;obtain⟨a,us,e,q,r⟩:=h;exact⟨a,us,e,bQ H O a _ q,r⟩
 .cases z
 .cases z
theorem bD.tup(h:bD K H O (.tup xs) u):∃a us,u=.ref a/\SqT K H a us/\Reps K (aq H O) xs us:=by
 obtain⟨a,us,e,q,r⟩:=h.tupH;exact⟨a,us,e,SqT.of q,r⟩
def bD.tupR(h:bD K H O (.tup xs) u):Rep K (aq H O) (.tup xs) u:=by
 rcases h with h|⟨ys,a,us,z,J,q,r⟩|⟨kvs,a,z,J,q⟩
 .exact h
 .cases z
 .cases z
theorem bD.dI(h:bD K H O (.dI kvs) u):∃a,u=.ref a/\RdD H a kvs:=by
 rcases h with h|⟨ys,a,us,z,J,q,r⟩|⟨kvs,a,z,J,q⟩
 .rw[Rep]at h;obtain⟨a,e,q⟩:=h;exact⟨a,e,aj.rdD (bQ H O) q⟩
 .cases z
 .simp_all
theorem bD.int(h:bD K H O (.int i) u):u=.int i:=by
 rcases h with h|⟨ys,a,us,z,J,q,r⟩|⟨kvs,a,z,J,q⟩
 .rw[Rep]at h;exact h
 .cases z
 .cases z
theorem bD.bl(h:bD K H O (.bl i) u):u=.bl i:=by
 rcases h with h|⟨ys,a,us,z,J,q,r⟩|⟨kvs,a,z,J,q⟩
 .rw[Rep]at h;exact h
 .cases z
 .cases z
theorem bD.str(h:bD K H O (.str i) u):u=.str i:=by
 rcases h with h|⟨ys,a,us,z,J,q,r⟩|⟨kvs,a,z,J,q⟩
 .rw[Rep]at h;exact h
 .cases z
 .cases z
theorem bD.non(h:bD K H O .non u):u=.non:=by
 rcases h with h|⟨ys,a,us,z,J,q,r⟩|⟨kvs,a,z,J,q⟩
 .rw[Rep]at h;exact h
 .cases z
 .cases z
theorem bD.seq(h:bD K H O v u)(e:bf v=some xs):∃a us,u=.ref a/\(SqL K H a us\/SqT K H a us)/\Reps K (aq H O) xs us:=by
 cases v<;>first|(simp[bf]at e;subst e;obtain⟨a,us,e,q,r⟩:=h.lst;exact⟨a,us,e,.inl q,r⟩)|(simp[bf]at e;subst e;obtain⟨a,us,e,q,r⟩:=h.tup;exact⟨a,us,e,.inr q,r⟩)|simp[bf]at e
def bD.whole(h:bD K H O v u):Rep K H v u:=by
 rcases h with h|⟨xs,a,us,rfl,z,q,r⟩|⟨kvs,a,rfl,z,q⟩
 .exact Rep.mono (bQ H O) _ h
 .rw[Rep];exact⟨a,us,z,q,Reps.mono (bQ H O) _ r⟩
 .rw[Rep];exact⟨a,z,q⟩
end
abbrev DAt(_:Nl)(H:Hp)(_:List Addr)(a:Addr)(d:DD):Prop:=H a=some (iD d)
theorem DAt.here{K:Nl}(h:DAt K H O a d):∃o,H a=some o:=⟨_,h⟩
theorem DAt.put1{K:Nl}(_:qk d y s=some d')(h:DAt K H O a d):H a=some (iD d):=h
theorem DAt.put2{K:Nl}{H:Hp}{O:List Addr}{a:Addr}{d d':DD}{y:PV}{s:Sc}(_:qk d y s=some d')(h:H a=some (iD d')):DAt K H O a d':=h
theorem DAt.np{K:Nl}(h:DAt K H O a d)(_:rO d=true):H a=some (iD d):=h
theorem DAt.move{K:Nl}{H H':Hp}{O z:List Addr}{a:Addr}{d:DD}(h:DAt K H O a d)(e:∀o,H a=some o->H' a=some o)(_:aj (aq H O) (aq H' z)):DAt K H' z a d:=e _ h
def fo(K:Nl)(B:Hp)(O:List Addr)(H:Hp):MV->V->Prop
 | .val v,u=>Rep K (aq H O) v u
 | .own xs,u=>∃a us,u=.ref a/\H a=some (.lst us)/\Reps K (aq H O) xs us/\a∈O/\B a=none
 | .brw xs,u=>∃a us,u=.ref a/\SqL K B a us/\Reps K (aq H O) xs us
 | .ownD kvs,u=>∃a,u=.ref a/\DAt K H O a kvs/\a∈O/\B a=none
 | .mutD kvs,u=>∃a,u=.ref a/\DAt K H O a kvs/\a∈O/\B a=none
 | .brwD kvs,u=>∃a,u=.ref a/\Rd B a (iD kvs)
noncomputable def ip:MV->Bool
 | .own _=>true
 | .ownD _=>true
 | .mutD _=>true
 | _=>false
structure aD(K:Nl)(B:Hp)(E O:List Addr)(H:Hp)(W:Rho)(σ:St):Prop where
 keep:aj B H
 here:∀a∈O,H a≠none
 sub:∀a∈E,a∈O
 old:∀a∈E,B a≠none
 len:W.length=σ.length
 slot:∀(i:Nat) (m:MV),W[i]?=some (some m)->∃u,σ[i]?=some (some u)/\fo K B O H m u
 apart:∀(i j:Nat) (m m':MV) (a:Addr),i≠j->W[i]?=some (some m)->W[j]?=some (some m')->ip m=true->ip m'=true->σ[i]?=some (some (.ref a))->σ[j]?≠some (some (.ref a))
section
variable{K:Nl}{B H H':Hp}{E O:List Addr}{W:Rho}{σ:St}
theorem fo.mono(s:aj H H')(h:fo K B O H m u):fo K B O H' m u:=by
 cases m with
 |val v=>exact Rep.mono (al s) _ h
 |own xs=>obtain⟨a,us,e,q,r,h1,h2⟩:=h;exact⟨a,us,e,s _ _ q,Reps.mono (al s) _ r,h1,h2⟩
 |brw xs=>obtain⟨a,us,e,q,r⟩:=h;exact⟨a,us,e,q,Reps.mono (al s) _ r⟩
 |brwD kvs=>exact h
 | _=>obtain⟨a,e,q,h1,h2⟩:=h;exact⟨a,e,q.move (s _) (al s),h1,h2⟩
theorem aD.mono(s:aj H H')(h:aD K B E O H W σ):aD K B E O H' W σ where
 keep:=h.keep.trans s
 here:=λa z e=>h.here a z (s.free e)
 sub:=h.sub
 old:=h.old
 len:=h.len
 slot:=λi m e=>let ⟨u,J,q⟩:=h.slot i m e;⟨u,J,q.mono s⟩
 apart:=h.apart
theorem fo.bor(z:aj B H)(h:fo K B O H m u)(e:bv (some m)=some v):bD K H O v u:=by
 cases m with
 |val w=>simp[bv]at e;subst e;exact .inl h
 |own xs=>simp[bv]at e;subst e;obtain⟨a,us,e,q,r,_⟩:=h;exact .inr (.inl ⟨xs,a,us,rfl,e,SqL.of q,r⟩)
 |brw xs=>simp[bv]at e;subst e;obtain⟨a,us,e,q,r⟩:=h;exact .inr (.inl ⟨xs,a,us,rfl,e,z.seq q,r⟩)
 |ownD kvs|mutD kvs=>simp[bv]at e;obtain⟨np,rfl⟩:=e;obtain⟨a,e,q,_⟩:=h;exact .inr (.inr ⟨kvs,a,rfl,e,.inl (q.np np),np⟩)
 |brwD kvs=>simp[bv]at e;obtain⟨np,rfl⟩:=e;obtain⟨a,e,q⟩:=h;exact .inr (.inr ⟨kvs,a,rfl,e,aj.rd z q,np⟩)
end
def aF{α:Type}{o:Option (Option α)}{x:α}(h:o.join=some x):o=some (some x):=by
 cases o<;>simp_all
def vj(h:bv (some (.ownD d))=some v):v=.dI d:=by simp_all [bv]
def vk(h:bv (some (.brwD d))=some v):v=.dI d:=by simp_all [bv]
def vm(h:bv (some (.mutD d))=some v):v=.dI d:=by simp_all [bv]
structure Tab where
 fs:List Str
 gs:List (Str×PV)
 ds:List (List Sc)
noncomputable def Et(sc:Scope)(x:Str):Bool:=sc.names.lookup x==some .local||sc.names.lookup x==some .cell||sc.names.lookup x==some .free
noncomputable def fG(sc:Scope)(x:Str):Bool:=sc.names.lookup x==some .local||sc.names.lookup x==some .cell
noncomputable def glB(sc:Scope)(x:Str):Bool:=sc.names.lookup x==some .globalImplicit
noncomputable def am (x:Str):Bool:=!(x==("__debug__":Str))&&!(x==("__classdict__":Str))&&!(x==("__name__":Str))
noncomputable def aU(N:List Str)(sc:Scope)(i:Nat)(x:Str):Bool:=N[i]?==some x&&Et sc x&&am x
noncomputable def onQ{α:Type}:Option α->(α->Bool)->Bool
 |some a,f=>f a
 |none,_=>false
def ak(h:onQ o f=true):∃a,o=some a/\f a=true:=by
 cases o with
 |none=>cases h
 |some a=>exact⟨a,rfl,h⟩
def bR{α z:Type}{o:Option α}{f:α->Option z}{b:z}(h:o.bind f=some b):∃a,o=some a/\f a=some b:=ez.mp h
noncomputable def okQ{α:Type}(b:Bool)(x:α):Option α:=if b=true then some x else none
def jy(h:okQ b x=some y):b=true/\x=y:=by
 cases b with
 |false=>cases h
 |true=>cases h;exact⟨rfl,rfl⟩
noncomputable def jY{α:Type}:List α->Option α
 | [x]=>some x
 | _=>none
def cO(h:jY l=some x):l=[x]:=by
 rcases l with _|⟨a,_|⟨b,l⟩⟩<;>cases h
 rfl
noncomputable def yX{α:Type}:List α->Option (α×α)
 | [x,y]=>some (x,y)
 | _=>none
def lX(h:yX l=some q):l=[q.1,q.2]:=by
 rcases l with _|⟨a,_|⟨b,_|⟨c,l⟩⟩⟩<;>cases h
 rfl
noncomputable def nmP:Expr->Option (Str×Pos)
 | .Name x p=>some (x,p)
 | _=>none
def eM(h:nmP e=some q):e=.Name q.1 q.2:=by
 cases e<;>cases h
 rfl
noncomputable def caP:Expr->Option (Expr×List Expr×List Keyword×Pos)
 | .Call f as ks p=>some (f,as,ks,p)
 | _=>none
def yY(h:caP e=some q):e=.Call q.1 q.2.1 q.2.2.1 q.2.2.2:=by
 cases e<;>cases h
 rfl
noncomputable def atP:Expr->Option (Expr×Str×Pos)
 | .Attribute o m p=>some (o,m,p)
 | _=>none
def Eu(h:atP e=some q):e=.Attribute q.1 q.2.1 q.2.2:=by
 cases e<;>cases h
 rfl
noncomputable def biP:Expr->Option (Expr×Operator×Expr×Pos)
 | .BinOp l o r p=>some (l,o,r,p)
 | _=>none
def qm(h:biP e=some q):e=.BinOp q.1 q.2.1 q.2.2.1 q.2.2.2:=by
 cases e<;>cases h
 rfl
noncomputable def suP:Expr->Option (Expr×Expr×Pos)
 | .Subscript v s p=>some (v,s,p)
 | _=>none
def mY(h:suP e=some q):e=.Subscript q.1 q.2.1 q.2.2:=by
 cases e<;>cases h
 rfl
noncomputable def lcP:Expr->Option (Expr×List Comprehension×Scope×Pos)
 | .ListComp e g s p=>some (e,g,s,p)
 | _=>none
def uc(h:lcP e=some q):e=.ListComp q.1 q.2.1 q.2.2.1 q.2.2.2:=by
 cases e<;>cases h
 rfl
noncomputable def coP:Expr->Option (Expr×List CmpOp×List Expr×Pos)
 | .Compare l o r p=>some (l,o,r,p)
 | _=>none
def Ev(h:coP e=some q):e=.Compare q.1 q.2.1 q.2.2.1 q.2.2.2:=by
 cases e<;>cases h
 rfl
noncomputable def ctP:Expr->Option (Const×Nat×Pos)
 | .Constant c j p=>some (c,j,p)
 | _=>none
def yZ(h:ctP e=some q):e=.Constant q.1 q.2.1 q.2.2:=by
 cases e<;>cases h
 rfl
noncomputable def tuP:Expr->Option (List Expr×Nat×Pos)
 | .Tuple xs j p=>some (xs,j,p)
 | _=>none
def ud(h:tuP e=some q):e=.Tuple q.1 q.2.1 q.2.2:=by
 cases e<;>cases h
 rfl
noncomputable def liP:Expr->Option (List Expr×Pos)
 | .List xs p=>some (xs,p)
 | _=>none
def qo(h:liP e=some q):e=.List q.1 q.2:=by
 cases e<;>cases h
 rfl
noncomputable def unP:Expr->Option (UnaryOp×Expr×Pos)
 | .UnaryOp o e p=>some (o,e,p)
 | _=>none
def Ew(h:unP e=some q):e=.UnaryOp q.1 q.2.1 q.2.2:=by
 cases e<;>cases h
 rfl
noncomputable def boP:Expr->Option (BoolOp×List Expr×Pos)
 | .BoolOp o vs p=>some (o,vs,p)
 | _=>none
def y0(h:boP e=some q):e=.BoolOp q.1 q.2.1 q.2.2:=by
 cases e<;>cases h
 rfl
noncomputable def ifP:Expr->Option (Expr×Expr×Expr×Pos)
 | .IfExp t x y p=>some (t,x,y,p)
 | _=>none
def Ex(h:ifP e=some q):e=.IfExp q.1 q.2.1 q.2.2.1 q.2.2.2:=by
 cases e<;>cases h
 rfl
noncomputable def slP:Expr->Option (Option Expr×Option Expr×Option Expr×Pos)
 | .Slice l u s p=>some (l,u,s,p)
 | _=>none
def Ey(h:slP e=some q):e=.Slice q.1 q.2.1 q.2.2.1 q.2.2.2:=by
 cases e<;>cases h
 rfl
noncomputable def asP:Stmt->Option (List Expr×Expr×Pos)
 | .Assign z v p=>some (z,v,p)
 | _=>none
def y_(h:asP s=some q):s=.Assign q.1 q.2.1 q.2.2:=by
 cases s<;>cases h
 rfl
noncomputable def rR(e:Expr):Option (Str×List Expr):=(caP e).bind λc=>(nmP c.1).bind λx=>okQ c.2.2.1.isEmpty (x.1,c.2.1)
def fK(h:rR e=some q):∃p cp,e=.Call (.Name q.1 p) q.2 [] cp:=by
 obtain⟨c,h1,h⟩:=bR h;obtain⟨x,h2,h⟩:=bR h;obtain⟨z,rfl⟩:=jy h;exact⟨_,_,by rw[yY h1,eM h2,Lm.mp z]⟩
noncomputable def rS(e:Expr):Option (Str×Expr):=(rR e).bind λc=>(jY c.2).bind λa=>some (c.1,a)
def g5(h:rS e=some q):∃p cp,e=.Call (.Name q.1 p) [q.2] [] cp:=by
 obtain⟨c,h1,h⟩:=bR h;obtain⟨a,h2,h⟩:=bR h;cases h;obtain⟨p,cp,rfl⟩:=fK h1;exact⟨p,cp,by rw[cO h2]⟩
noncomputable def maP(e:Expr):Option (Expr×Str×Pos×List Expr×Pos):=(caP e).bind λc=>(atP c.1).bind λa=>okQ c.2.2.1.isEmpty (a.1,a.2.1,a.2.2,c.2.1,c.2.2.2)
def ue(h:maP e=some q):e=.Call (.Attribute q.1 q.2.1 q.2.2.1) q.2.2.2.1 [] q.2.2.2.2:=by
 obtain⟨c,h1,h⟩:=bR h;obtain⟨x,h2,h⟩:=bR h;obtain⟨z,rfl⟩:=jy h;rw[yY h1,Eu h2,Lm.mp z]
noncomputable def maN(e:Expr):Option (Str×Str×Pos×List Expr×Pos):=(maP e).bind λa=>(nmP a.1).bind λx=>some (x.1,a.2.1,a.2.2.1,a.2.2.2.1,a.2.2.2.2)
def za(h:maN e=some q):∃p,e=.Call (.Attribute (.Name q.1 p) q.2.1 q.2.2.1) q.2.2.2.1 [] q.2.2.2.2:=by
 obtain⟨c,h1,h⟩:=bR h;obtain⟨x,h2,h⟩:=bR h;cases h;exact⟨x.2,by rw[ue h1,eM h2]⟩
noncomputable def Ez(e:Expr):Option (Expr×CmpOp×Expr):=(coP e).bind λc=>(jY c.2.1).bind λo=>(jY c.2.2.1).bind λr=>some (c.1,o,r)
def vn(h:Ez e=some q):∃pos,e=.Compare q.1 [q.2.1] [q.2.2] pos:=by
 obtain⟨c,h1,h⟩:=bR h;obtain⟨x,h2,h⟩:=bR h;obtain⟨y,z,h⟩:=bR h;cases h;exact⟨c.2.2.2,by rw[Ev h1,cO h2,cO z]⟩
noncomputable def Hc(e:Expr):Option (Expr×Option Expr×Option Expr):=(suP e).bind λc=>(slP c.2.1).bind λs=>okQ s.2.2.1.isNone (c.1,s.1,s.2.1)
def BW(h:Hc e=some q):∃p pos,e=.Subscript q.1 (.Slice q.2.1 q.2.2 none p) pos:=by
 obtain⟨c,h1,h⟩:=bR h;obtain⟨x,h2,h⟩:=bR h;obtain⟨z,rfl⟩:=jy h;exact⟨_,_,by rw[mY h1,Ey h2,isNone_iff_eq_none.mp z]⟩
noncomputable def lcX(e:Expr):Option (Expr×Scope×(Str×Pos)×Expr×List Expr):=(lcP e).bind λc=>(jY c.2.1).bind λg=>(nmP g.target).bind λx=>okQ (g.is_async==0) (c.1,c.2.2.1,x,g.iter,g.ifs)
def zb(h:lcX e=some q):∃pos,e=.ListComp q.1 [⟨.Name q.2.2.1.1 q.2.2.1.2,q.2.2.2.1,q.2.2.2.2,0⟩] q.2.1 pos:=by
 obtain⟨c,h1,h⟩:=bR h;obtain⟨⟨tg,it,is,as⟩,h2,h⟩:=bR h;obtain⟨x,z,h⟩:=bR h;obtain⟨J,rfl⟩:=jy h;exact⟨c.2.2.2,by rw[uc h1,cO h2,eM (e:=tg) z,show as=0 from eq_of_beq J]⟩
noncomputable def diP:Expr->Option (List (Option Expr)×List Expr×Pos)
 | .Dict ks vs p=>some (ks,vs,p)
 | _=>none
def zc(h:diP e=some q):e=.Dict q.1 q.2.1 q.2.2:=by
 cases e<;>cases h
 rfl
noncomputable def exP:Stmt->Option (Expr×Pos)
 | .Expr e p=>some (e,p)
 | _=>none
def EA(h:exP s=some q):s=.Expr q.1 q.2:=by
 cases s<;>cases h
 rfl
noncomputable def reP:Stmt->Option (Option Expr×Pos)
 | .Return v p=>some (v,p)
 | _=>none
def EB(h:reP s=some q):s=.Return q.1 q.2:=by
 cases s<;>cases h
 rfl
noncomputable def Hd:Const->Option Str
 | .str x=>some x
 | _=>none
def BX(h:Hd c=some x):c=.str x:=by
 cases c<;>cases h
 rfl
noncomputable def EC(e:Expr):Option Str:=(ctP e).bind λc=>Hd c.1
def vo(h:EC e=some x):∃j p,e=.Constant (.str x) j p:=by
 obtain⟨c,h1,h⟩:=bR h;exact⟨c.2.1,c.2.2,by rw[yZ h1,BX h]⟩
noncomputable def hdQ{α:Type}:List α->Option (α×List α)
 |x::l=>some (x,l)
 | _=>none
def ED(h:hdQ l=some q):l=q.1::q.2:=by
 cases l<;>cases h
 rfl
noncomputable def aH:ME->Bool
 | .bor _=>true
 | _=>false
noncomputable def uf:Op2->Operator
 | .add=>.Add|.sub=>.Sub|.mul=>.Mult|.fdiv=>.FloorDiv|.mod=>.Mod|.pow=>.Pow|.shr=>.RShift
noncomputable def zd:Cp->CmpOp
 | .eq=>.Eq|.ne=>.NotEq|.lt=>.Lt|.le=>.LtE|.gt=>.Gt|.ge=>.GtE|.isN=>.Is|.notN=>.IsNot|.isIn=>.In|.notIn=>.NotIn
noncomputable def ug:PV->Const->Bool
 | .non,.none=>true
 | .bl a,.bool b=>a==b
 | .int a,.int b=>a==b
 | .str a,.str b=>a==b
 | _,_=>false
noncomputable def De:PV->PV->Bool
 | .non,.non=>true
 | .bl a,.bl b=>a==b
 | .int a,.int b=>a==b
 | .str a,.str b=>a==b
 | _,_=>false
noncomputable def Dg(gs:List (Str×PV))(x:Str)(v:PV):Bool:=gs.any λp=>p.1==x&&De p.2 v
noncomputable def ah:Expr->Bool
 | .Starred ..=>false
 | _=>true
noncomputable def fq:Expr->Bool
 | .Set ..=>false
 | _=>true
noncomputable def b8:Expr->Bool
 | .Slice ..=>false
 | _=>true
noncomputable def bS:Expr->Bool
 | .ListComp ..=>false
 | .SetComp ..=>false
 | .DictComp ..=>false
 | _=>true
noncomputable def kN:Expr->Bool
 | .UnaryOp .Not _ _=>false
 | .BoolOp ..=>false
 | .IfExp ..=>false
 | .Compare ..=>false
 | _=>true
noncomputable def rT:Blt->String
 | .len=>"len" | .tupleOf=>"tuple" | .listOf=>"list" | .sorted=>"sorted" | .any=>"any" | .all=>"all" | .sum=>"sum" | .max1=>"max" | .min1=>"min" | .max2=>"max" | .min2=>"min"
 | .intOf=>"int" | .boolOf=>"bool" | .isInt=>"isinstance" | .isBool=>"isinstance" | .isStr=>"isinstance" | .isList=>"isinstance" | .isTuple=>"isinstance" | .sortedKeys=>"sorted" | .valuesOf=>"list" | .sortedSet=>"sorted" | .lenSet=>"len" | .lenSetSub=>"len" | .tupleRev=>"tuple"
noncomputable def dj:Blt->Option String
 | .isInt=>some "int" | .isBool=>some "bool" | .isStr=>some "str" | .isList=>some "list" | .isTuple=>some "tuple"
 | _=>none
noncomputable def kO:Blt->Option Nat
 | .len|.tupleOf|.listOf|.sorted|.any|.all|.sum|.intOf|.boolOf|.max1|.sortedKeys=>some 1
 | .min1=>some 1
 | .max2|.min2=>some 2
 | _=>none
noncomputable def fL(osc:Scope)(N:List Str)(scope:Scope)(x:Str)(fvs:List Str)(js:List Nat):Bool:=
 decide (∀y∈scope.names,y.2=.cell->y.1=x)&&decide (scope.names.lookup x=some .local/\(scope.names.filter λy=>y.2==.cell)=[]\/scope.names.lookup x=some .cell/\(scope.names.filter λy=>y.2==.cell)=[(x,.cell)])
 &&decide (∀y∈scope.names,y.2=.free->y.1≠x)&&scope.kind==.function&&decide (∀y∈scope.names,y.2=.local->scope.names.lookup y.1=some .local)
 &&decide ((x::fvs).Nodup)&&decide (∀y∈scope.names,y.2=.free->osc.names.lookup y.1=some .cell\/osc.names.lookup y.1=some .free)&&decide ((js.map λj=>N[j]?)=fvs.map some)
 &&decide (∀y∈fvs,scope.names.lookup y=some .free)
noncomputable def dC(N:List Str)(js:List Nat):List Str:=js.map λj=>(N[j]?).getD Str.empty
noncomputable def mZ(sc:Scope)(tup:Bool)(f:List Expr->Bool):Sk->Expr->Bool
 | .seq,it=>fq it&&f [it]
 | .rng,it=>onQ (rR it) λc=>c.1==("range":Str)&&glB sc c.1&&f c.2&&(c.2.length==1||c.2.length==2)
 | .rev,_=>false
 | .enm,it=>onQ (rS it) λc=>tup&&c.1==("enumerate":Str)&&glB sc c.1&&f [c.2]&&ah c.2
noncomputable def rU(sc:Scope)(f:List Expr->Bool)(n:Nat)(c:String)(args:List Expr):Bool:=onQ (yX args) λa=>onQ (nmP a.2) λt=>t.1==(c:Str)&&glB sc t.1&&f [a.1]&&n==1
noncomputable def uh(sc:Scope)(f:List Expr->Bool)(n:Nat)(g:Str)(args:List Expr):Bool:=onQ (jY args) λa=>onQ (rS a) λc=>c.1==g&&glB sc c.1&&f [c.2]&&n==1
noncomputable def pf:Expr->Bool
 | .Name _ _=>true
 | .Call _ (_::_) _ _=>true
 | _=>false
noncomputable def lY(sc:Scope)(f:List Expr->Bool)(n:Nat)(b:Blt)(args:List Expr):Bool:=match b with
 | .sortedSet=>uh sc f n "set" args
 | .lenSet=>uh sc f n "set" args
 | .lenSetSub=>onQ (jY args) λa=>onQ (biP a) λb=>onQ (rS b.1) λc=>onQ (rS b.2.2.1) λd=>b.2.1==.Sub&&c.1==("set":Str)&&glB sc c.1&&d.1==("set":Str)&&glB sc d.1&&f [c.2,d.2]&&n==2
 | .tupleRev=>false
 | .valuesOf=>onQ (jY args) λa=>onQ (maP a) λc=>c.2.2.2.1.isEmpty&&c.2.1==("values":Str)&&pf c.1&&c.2.2.1.endLine==c.2.2.2.2.line&&f [c.1]&&n==1
 | .boolOf=>false
 | .isStr=>false
 | .isList=>false
 |b=>match dj b with
  |some c=>rU sc f n c args
  |none=>kO b==some n&&f args
noncomputable def jz:ME->Bool
 | .cst .non=>true
 | _=>false
noncomputable def qp(f:Expr->Bool)(non:Bool):Option Expr->Bool
 |none=>non
 |some l=>f l&&!non
noncomputable def rV(f:Expr->Bool)(m:ME):List Expr->Bool
 | []=>(match m with|.cst (.bl true)=>true|_=>false)
 | [c]=>f c
 | _=>false
noncomputable def He(f:Expr->Bool)(op:BoolOp)(pos:Pos)(y:Expr):List Expr->Bool
 | []=>f y
 |z::r=>f (.BoolOp op (y::z::r) pos)
noncomputable def EE(g f:Expr->Bool)(op:BoolOp)(pos:Pos):List Expr->Bool
 |x::y::r=>g x&&He f op pos y r
 | _=>false
def vq(h:EE g f op pos vs=true):(∃x y,vs=[x,y]/\g x=true/\f y=true)\/∃x y z r,vs=x::y::z::r/\g x=true/\f (.BoolOp op (y::z::r) pos)=true:=by
 rcases vs with _|⟨x,_|⟨y,_|⟨z,r⟩⟩⟩
 .cases h
 .cases h
 .exact .inl ⟨x,y,rfl,g4.mp h⟩
 .exact .inr ⟨x,y,z,r,rfl,g4.mp h⟩
noncomputable def ze(e:Expr):Option (List (Option Expr)×List Expr×Expr):=(suP e).bind λc=>(diP c.1).bind λd=>some (d.1,d.2.1,c.2.1)
def zf(h:ze e=some q):∃p pos,e=.Subscript (.Dict q.1 q.2.1 p) q.2.2 pos:=by
 obtain⟨c,h1,h⟩:=bR h;obtain⟨d,h2,h⟩:=bR h;cases h;exact⟨d.2.2,c.2.2,by rw[mY h1,zc h2]⟩
noncomputable def rW:List (Str×Str)->List (Option Expr)->List Expr->Bool
 | [],[],[]=>true
 |p::r,k::ks,v::vs=>k.bind EC==some p.1&&EC v==some p.2&&rW r ks vs
 | _,_,_=>false
noncomputable def Dh(e:Expr):Option (Str×Str):=(rS e).bind λc=>(nmP c.2).bind λy=>some (c.1,y.1)
def BY(h:Dh e=some q):∃p p2 pos,e=.Call (.Name q.1 p) [.Name q.2 p2] [] pos:=by
 obtain⟨c,h1,h⟩:=bR h;obtain⟨y,h2,h⟩:=bR h;cases h;obtain⟨p,pos,rfl⟩:=g5 h1;exact⟨p,y.2,pos,by rw[eM h2]⟩
mutual
noncomputable def chk(T:Tab):ME->List Str->Scope->Expr->Bool
 | .var i,N,sc,J=>onQ (nmP J) λx=>aU N sc i x.1
 | .bor i,N,sc,J=>onQ (nmP J) λx=>aU N sc i x.1
 | .cst v,_,_,J=>onQ (ctP J) λc=>ug v c.1
 | .glob x v,_,sc,J=>onQ (nmP J) λy=>x==y.1&&glB sc x&&Dg T.gs x v&&am x
 | .bin op a b,N,sc,J=>onQ (biP J) λq=>q.2.1==uf op&&chk T a N sc q.1&&chk T b N sc q.2.2.1
 | .neg _,_,_,_=>false
 | .not a,N,sc,J=>onQ (unP J) λq=>q.1==.Not&&chk T a N sc q.2.1
 | .and a b,N,sc,J=>onQ (boP J) λq=>q.1==.And&&EE (λe=>chk T a N sc e) (λe=>chk T b N sc e) .And q.2.2 q.2.1
 | .or a b,N,sc,J=>onQ (boP J) λq=>q.1==.Or&&EE (λe=>chk T a N sc e) (λe=>chk T b N sc e) .Or q.2.2 q.2.1
 | .ite c a b,N,sc,J=>onQ (ifP J) λq=>chk T c N sc q.1&&chk T a N sc q.2.1&&chk T b N sc q.2.2.1&&!aH a&&!aH b
 | .cmp op a b,N,sc,J=>onQ (Ez J) λq=>q.2.1==zd op&&chk T a N sc q.1&&chk T b N sc q.2.2&&!behindInMarks q.2.1 q.2.2
 | .chain _ _ _ _ _,_,_,_=>false
 | .tup es,N,sc,J=>onQ (tuP J) λq=>chks T es N sc q.1&&es.all (λe=>!aH e)
 | .lst es,N,sc,J=>onQ (liP J) λq=>chks T es N sc q.1&&es.all (λe=>!aH e)
 | .idx a i,N,sc,J=>onQ (suP J) λq=>chk T a N sc q.1&&chk T i N sc q.2.1&&b8 q.2.1
 | .slice a lo hi,N,sc,J=>onQ (Hc J) λq=>chk T a N sc q.1&&qp (λe=>chk T lo N sc e) (jz lo) q.2.1&&qp (λe=>chk T hi N sc e) (jz hi) q.2.2
 | .blt b es,N,sc,J=>onQ (rR J) λq=>q.1==(rT b:Str)&&glB sc q.1&&lY sc (λxs=>chks T es N sc xs) es.length b q.2
 | .call f es,N,sc,J=>onQ (rR J) λq=>T.fs[f]?==some q.1&&glB sc q.1&&am q.1&&chks T es N sc q.2
 | .callD _ _ _,_,_,_=>false
 | .comp k src js cond elt,N,sc,J=>onQ (lcX J) λq=>fL sc N q.2.1 q.2.2.1.1 (dC N js) js&&mZ sc false (λxs=>chks T src N sc xs) k q.2.2.2.1&&rV (λc=>chk T cond (q.2.2.1.1::dC N js) (lO q.2.1 sc) c) cond q.2.2.2.2&&chk T elt (q.2.2.1.1::dC N js) (lO q.2.1 sc) q.1&&!aH elt
 | .dget a k d,N,sc,J=>onQ (maP J) λc=>onQ (yX c.2.2.2.1) λz=>c.2.1==("get":Str)&&pf c.1&&c.2.2.1.endLine==c.2.2.2.2.line&&chk T a N sc c.1&&chk T k N sc z.1&&chk T d N sc z.2&&ah z.1&&ah z.2
 | .dat a k,N,sc,J=>onQ (suP J) λq=>chk T a N sc q.1&&chk T k N sc q.2.1&&b8 q.2.1
 | .dIn neg k a,N,sc,J=>onQ (Ez J) λq=>q.2.1==(if neg=true then CmpOp.NotIn else CmpOp.In)&&chk T k N sc q.1&&chk T a N sc q.2.2&&!behindInMarks q.2.1 q.2.2
 | .disp kvs e,N,sc,J=>onQ (ze J) λq=>rW kvs q.1 q.2.1&&chk T e N sc q.2.2&&b8 q.2.2&&decide (kvs.length<=15)&&!kvs.isEmpty
 | .lenP i,N,sc,J=>onQ (Dh J) λq=>q.1==("len":Str)&&glB sc q.1&&aU N sc i q.2
noncomputable def chks(T:Tab):List ME->List Str->Scope->List Expr->Bool
 | [],_,_,[]=>true
 |m::ms,N,sc,e::es=>chk T m N sc e&&ah e&&chks T ms N sc es
 | _,_,_,_=>false
end
def jZ(h:chk T (.bor i) N sc e=true):∃x p,e=.Name x p/\aU N sc i x=true:=by
 replace h:=ak h
 obtain⟨x,h1,h⟩:=h;exact⟨x.1,x.2,eM h1,h⟩
def b9(h:chks T (m::ms) N sc (e::es)=true):(chk T m N sc e=true/\ah e=true)/\chks T ms N sc es=true:=by
 obtain⟨a,b⟩:=g4.mp h;exact⟨g4.mp a,b⟩
def kP{cond elt:ME}(h:chk T (.comp z src js cond elt) N sc J=true):∃e x px it ifs scope pos,J=.ListComp e [⟨.Name x px,it,ifs,0⟩] scope pos /\
  (fL sc N scope x (dC N js) js&&mZ sc false (λxs=>chks T src N sc xs) z it&&rV (λc=>chk T cond (x::dC N js) (lO scope sc) c) cond ifs&&chk T elt (x::dC N js) (lO scope sc) e&&!aH elt)=true:=by
 replace h:=ak h
 obtain⟨q,w,h⟩:=h;obtain⟨pos,rfl⟩:=zb w;exact⟨_,_,_,_,_,_,_,rfl,h⟩
def m3(h:aH m=true):∃i,m=.bor i:=by
 cases m<;>first|(cases h;done)|exact⟨_,rfl⟩
noncomputable def iE:ME->Bool
 | .lst _=>true
 | .comp ..=>true
 | .blt .listOf _=>true
 | .blt .sorted _=>true
 | .blt .sortedSet _=>true
 | .blt .sortedKeys _=>true
 | .blt .valuesOf _=>true
 | _=>false
noncomputable def Di(sc:Scope)(t:Str)(tpos:Pos)(e:Expr):Bool:=onQ (lcP e) λq=>sc.names.lookup t==some .local&&tpos.line==q.2.2.2.line&&!(q.2.2.1.names.any λ(n,k)=>n==t&&(k==.local||k==.cell))
noncomputable def pg(sc:Scope)(t:Str)(tpos:Pos)(v:Expr)(e:ME):Bool:=Di sc t tpos v
noncomputable def dQ(N:List Str)(sc:Scope):List Nat->List Expr->Bool
 | [],[]=>true
 |i::is,.Name x _::es=>N[i]?==some x&&fG sc x&&am x&&dQ N sc is es
 | _,_=>false
def qr(N)(sc)(i)(is)(x)(p)(es):dQ N sc (i::is) (.Name x p::es)=(N[i]?==some x&&fG sc x&&am x&&dQ N sc is es):=rfl
noncomputable def jA:List Bool->List ME->Bool
 | [],[]=>true
 |true::bs,e::es=>aH e&&jA bs es
 |false::bs,_::es=>jA bs es
 | _,_=>false
noncomputable def fu:List Bool->List ME->List Nat
 |true::bs,.bor i::es=>i::fu bs es
 | _::bs,_::es=>fu bs es
 | _,_=>[]
noncomputable def fM(T:Tab)(f:Nat)(mask:List Bool)(es:List ME)(N:List Str)(sc:Scope)(x:Expr):Bool:=onQ (rR x) λc=>T.fs[f]?==some c.1&&glB sc c.1&&am c.1&&chks T es N sc c.2&&jA mask es&&decide (fu mask es).Nodup&&!c.2.isEmpty
def m4(h:fM T f mask es N sc e=true):∃g p args cp,e=.Call (.Name g p) args [] cp/\(T.fs[f]?==some g&&glB sc g&&am g&&chks T es N sc args&&jA mask es&&decide (fu mask es).Nodup&&!args.isEmpty)=true:=by
 replace h:=ak h
 obtain⟨c,w,h⟩:=h;obtain⟨p,cp,rfl⟩:=fK w;exact⟨c.1,p,c.2,cp,rfl,h⟩
noncomputable def Hf(e:Expr):Option (Expr×Expr):=(biP e).bind λc=>okQ (c.2.1==.Add) (c.1,c.2.2.1)
def BZ(h:Hf e=some q):∃pos,e=.BinOp q.1 .Add q.2 pos:=by
 obtain⟨c,h1,h⟩:=bR h;obtain⟨h2,rfl⟩:=jy h;exact⟨c.2.2.2,by rw[qm h1,eq_of_beq h2]⟩
noncomputable def Hg(e:Expr):Option (Expr×Expr):=(tuP e).bind λc=>yX c.1
def B0(h:Hg e=some q):∃j pos,e=.Tuple [q.1,q.2] j pos:=by
 obtain⟨c,h1,h⟩:=bR h;exact⟨c.2.1,c.2.2,by rw[ud h1,lX h]⟩
noncomputable def ui:ME->Bool
 | .cst .non=>true
 | _=>false
noncomputable def zg(T:Tab)(k:SK)(e:ME)(f:Nat)(mask:List Bool)(es:List ME)(N:List Str)(sc:Scope)(x:Expr):Bool:=match k with
 | .one=>ui e&&fM T f mask es N sc x
 | .cat=>match Hf x with|some q=>chk T e N sc q.1&&!aH e&&fM T f mask es N sc q.2|none=>false
 | .pair=>match Hg x with|some q=>chk T e N sc q.1&&!aH e&&ah q.1&&fM T f mask es N sc q.2|none=>false
noncomputable def zh(e:Expr):Option (Expr×Scope×Str×Expr):=(lcX e).bind λc=>okQ c.2.2.2.2.isEmpty (c.1,c.2.1,c.2.2.1.1,c.2.2.2.1)
def zi(h:zh e=some q):∃z pos,e=.ListComp q.1 [⟨.Name q.2.2.1 z,q.2.2.2,[],0⟩] q.2.1 pos:=by
 obtain⟨c,h1,h⟩:=bR h;obtain⟨h2,rfl⟩:=jy h;obtain⟨pos,rfl⟩:=zb h1;exact⟨_,pos,by rw[Lm.mp h2]⟩
noncomputable def EF(e:Expr):Option (Str×Str×Expr):=(rS e).bind λc=>(rS c.2).bind λd=>some (c.1,d.1,d.2)
def B1(h:EF e=some q):∃p p2 pos2 pos,e=.Call (.Name q.1 p) [.Call (.Name q.2.1 p2) [q.2.2] [] pos2] [] pos:=by
 obtain⟨c,h1,h⟩:=bR h;obtain⟨d,h2,h⟩:=bR h;cases h;obtain⟨p,pos,rfl⟩:=g5 h1;obtain⟨p2,pos2,e⟩:=g5 h2;exact⟨p,p2,pos2,pos,by rw[e]⟩
noncomputable def EG(e:Expr):Option (Str×Str×Pos×Pos):=(maN e).bind λa=>okQ a.2.2.2.1.isEmpty (a.1,a.2.1,a.2.2.1,a.2.2.2.2)
def B2(h:EG e=some q):∃p,e=.Call (.Attribute (.Name q.1 p) q.2.1 q.2.2.1) [] [] q.2.2.2:=by
 obtain⟨x,h1,h⟩:=bR h;obtain⟨h2,rfl⟩:=jy h;obtain⟨p,rfl⟩:=za h1;exact⟨p,by rw[Lm.mp h2]⟩
noncomputable def EH(e:Expr):Option (Expr×Operator×Expr):=(biP e).bind λc=>some (c.1,c.2.1,c.2.2.1)
def B3(h:EH e=some q):∃pos,e=.BinOp q.1 q.2.1 q.2.2 pos:=by
 obtain⟨c,h1,h⟩:=bR h;cases h;exact⟨c.2.2.2,qm h1⟩
noncomputable def fnQ(e:Expr):Option (Str×Expr×List Expr):=(rR e).bind λc=>(hdQ c.2).bind λa=>some (c.1,a.1,a.2)
def uj(h:fnQ e=some q):∃p pos,e=.Call (.Name q.1 p) (q.2.1::q.2.2) [] pos:=by
 obtain⟨c,h1,h⟩:=bR h;obtain⟨a,h2,h⟩:=bR h;cases h;obtain⟨p,pos,rfl⟩:=fK h1;exact⟨p,pos,by rw[ED h2]⟩
noncomputable def EI(e:Expr):Option (List Expr):=(tuP e).bind λc=>some c.1
def B4(h:EI e=some q):∃j pos,e=.Tuple q j pos:=by
 obtain⟨c,h1,h⟩:=bR h;cases h;exact⟨c.2.1,c.2.2,ud h1⟩
noncomputable def EJ(e:Expr):Option (List Expr):=(liP e).bind λc=>some c.1
def B5(h:EJ e=some q):∃pos,e=.List q pos:=by
 obtain⟨c,h1,h⟩:=bR h;cases h;exact⟨c.2,qo h1⟩
noncomputable def EK(e:Expr):Option (Str×Expr×Expr):=(rR e).bind λc=>(yX c.2).bind λa=>some (c.1,a.1,a.2)
def B6(h:EK e=some q):∃p pos,e=.Call (.Name q.1 p) [q.2.1,q.2.2] [] pos:=by
 obtain⟨c,h1,h⟩:=bR h;obtain⟨a,h2,h⟩:=bR h;cases h;obtain⟨p,pos,rfl⟩:=fK h1;exact⟨p,pos,by rw[lX h2]⟩
mutual
noncomputable def c7(T:Tab):XE->List Str->Scope->Expr->Bool
 | .pure e,N,sc,x=>chk T e N sc x&&!aH e&&bS x
 | .call f mask es,N,sc,x=>fM T f mask es N sc x
 | .pop i,N,sc,x=>onQ (EG x) λq=>aU N sc i q.1&&q.2.1==("pop":Str)&&q.2.2.1.endLine==q.2.2.2.line
 | .bin op a b,N,sc,x=>onQ (EH x) λq=>q.2.1==uf op&&c7 T a N sc q.1&&chk T b N sc q.2.2
 | .fn g a es,N,sc,x=>onQ (fnQ x) λq=>T.fs[g]?==some q.1&&glB sc q.1&&am q.1&&c7 T a N sc q.2.1&&ah q.2.1&&chks T es N sc q.2.2
 | .tup xs,N,sc,x=>onQ (EI x) λq=>chkXEs T xs N sc q
 | .lst xs,N,sc,x=>onQ (EJ x) λq=>chkXEs T xs N sc q
 | .fn2 g e a,N,sc,x=>onQ (EK x) λq=>T.fs[g]?==some q.1&&glB sc q.1&&am q.1&&chk T e N sc q.2.1&&!aH e&&ah q.2.1&&c7 T a N sc q.2.2&&ah q.2.2
 | .tupOf a,N,sc,x=>onQ (fnQ x) λq=>q.1==("tuple":Str)&&glB sc q.1&&q.2.2.isEmpty&&c7 T a N sc q.2.1&&ah q.2.1
 | .compS src js k e f mask es,N,sc,x=>onQ (zh x) λc=>fL sc N c.2.1 c.2.2.1 (dC N js) js&&mZ sc false (λxs=>chks T [src] N sc xs) .seq c.2.2.2&&!aH src&&zg T k e f mask es (c.2.2.1::dC N js) (lO c.2.1 sc) c.1&&decide js.Nodup
noncomputable def chkXEs(T:Tab):List XE->List Str->Scope->List Expr->Bool
 | [],_,_,[]=>true
 |x::xs,N,sc,e::es=>c7 T x N sc e&&ah e&&chkXEs T xs N sc es
 | _,_,_,_=>false
end
noncomputable def oK(s:Stmt):Option (Str×Pos×Expr):=(asP s).bind λc=>(jY c.1).bind λu=>(nmP u).bind λx=>some (x.1,x.2,c.2.1)
def iW(h:oK s=some q):∃pos,s=.Assign [.Name q.1 q.2.1] q.2.2 pos:=by
 obtain⟨c,h1,h⟩:=bR h;obtain⟨u,h2,h⟩:=bR h;obtain⟨x,z,h⟩:=bR h;cases h;exact⟨c.2.2,by rw[y_ h1,cO h2,eM z]⟩
noncomputable def zj(s:Stmt):Option (Str×Str×Pos×List Expr×Pos):=(exP s).bind λa=>maN a.1
def qt(h:zj s=some q):∃p pos,s=.Expr (.Call (.Attribute (.Name q.1 p) q.2.1 q.2.2.1) q.2.2.2.1 [] q.2.2.2.2) pos:=by
 obtain⟨x,h1,h⟩:=bR h;obtain⟨p,e⟩:=za h;exact⟨p,x.2,by rw[EA h1,e]⟩
noncomputable def Hh(s:Stmt):Option (Str×Expr×Expr):=(asP s).bind λc=>(jY c.1).bind λu=>(suP u).bind λw=>(nmP w.1).bind λx=>some (x.1,w.2.1,c.2.1)
def B7(h:Hh s=some q):∃p sp pos,s=.Assign [.Subscript (.Name q.1 p) q.2.1 sp] q.2.2 pos:=by
 refine aC λY z=>?_
 obtain⟨c,h1,h⟩:=bR h;obtain⟨u,h2,h⟩:=bR h;obtain⟨w,J,h⟩:=bR h;obtain⟨x,U,h⟩:=bR h;cases h;refine z ?_;exact⟨x.2,w.2.2,c.2.2,by rw[y_ h1,cO h2,mY J,eM U]⟩
noncomputable def wV(s:Stmt):Option (Expr):=(reP s).bind λc=>c.1
def lZ(h:wV s=some v):∃pos,s=.Return (some v) pos:=by
 obtain⟨c,h1,h⟩:=bR h;exact⟨c.2,by rw[EB h1,h]⟩
noncomputable def Dj(e:Expr):Option (Str):=(nmP e).bind λx=>some x.1
def zk(h:Dj e=some x):∃p,e=.Name x p:=by
 obtain⟨x,h1,h⟩:=bR h;cases h;exact⟨x.2,eM h1⟩
noncomputable def Dk(e:Expr):Bool:=onQ (diP e) λd=>d.1.isEmpty&&d.2.1.isEmpty
def zl(h:Dk e=true):∃p,e=.Dict [] [] p:=by
 replace h:=ak h
 obtain⟨d,h1,h⟩:=h;obtain⟨h2,z⟩:=g4.mp h;exact⟨d.2.2,by rw[zc h1,Lm.mp h2,Lm.mp z]⟩
mutual
noncomputable def gw(T:Tab)(N:List Str)(sc:Scope):MS->Stmt->Bool
 | .set i e,s0=>onQ (oK s0) λq=>N[i]?==some q.1&&fG sc q.1&&am q.1&&chk T e N sc q.2.2&&!aH e&&(bS q.2.2||pg sc q.1 q.2.1 q.2.2 e)
 | .setOwn i e,s0=>onQ (oK s0) λq=>N[i]?==some q.1&&fG sc q.1&&am q.1&&chk T e N sc q.2.2&&iE e&&(bS q.2.2||pg sc q.1 q.2.1 q.2.2 e)
 | .append i e,s0=>onQ (zj s0) λq=>onQ (jY q.2.2.2.1) λv=>aU N sc i q.1&&q.2.1==("append":Str)&&chk T e N sc v&&!aH e&&ah v&&q.2.2.1.endLine==q.2.2.2.2.line
 | .extend i e,s0=>onQ (zj s0) λq=>onQ (jY q.2.2.2.1) λv=>aU N sc i q.1&&q.2.1==("extend":Str)&&chk T e N sc v&&ah v&&q.2.2.1.endLine==q.2.2.2.2.line
 | .setIdx _ _ _,_=>false
 | .unpack _ _,_=>false
 | .ite c a b,s0=>(match s0 with|.If t x y _=>chk T c N sc t&&chkSs T N sc a x&&chkSs T N sc b y|_=>false)
 | .for1 i k src body,s0=>(match s0 with|.For (.Name x _) it b [] _=>N[i]?==some x&&fG sc x&&am x&&mZ sc false (λxs=>chks T src N sc xs) k it&&chkSs T N sc body b|_=>false)
 | .forT is k src body,s0=>(match s0 with|.For (.Tuple z _ _) it b [] _=>dQ N sc is z&&mZ sc true (λxs=>chks T src N sc xs) k it&&chkSs T N sc body b|_=>false)
 | .ret e,s0=>onQ (wV s0) λv=>chk T e N sc v&&!aH e
 | .retOwn i,s0=>onQ (wV s0) λv=>onQ (Dj v) λx=>aU N sc i x
 | .retM e,s0=>onQ (wV s0) λv=>chk T e N sc v&&!aH e
 | .setP i e,s0=>onQ (oK s0) λq=>N[i]?==some q.1&&fG sc q.1&&am q.1&&onQ (EF q.2.2) λr=>r.1==("list":Str)&&r.2.1==("reversed":Str)&&glB sc r.1&&glB sc r.2.1&&chk T e N sc r.2.2&&ah r.2.2
 | .setX i x,s0=>onQ (oK s0) λq=>N[i]?==some q.1&&fG sc q.1&&am q.1&&c7 T x N sc q.2.2&&bS q.2.2
 | .ownX i xs,s0=>onQ (oK s0) λq=>onQ (liP q.2.2) λr=>N[i]?==some q.1&&fG sc q.1&&chkXEs T xs N sc r.1
 | .appX i x,s0=>onQ (zj s0) λq=>onQ (jY q.2.2.2.1) λv=>aU N sc i q.1&&q.2.1==("append":Str)&&c7 T x N sc v&&ah v&&q.2.2.1.endLine==q.2.2.2.2.line
 | .retXE x,s0=>onQ (wV s0) λv=>c7 T x N sc v
 | .forX i x body,s0=>(match s0 with|.For (.Name y _) it b [] _=>N[i]?==some y&&fG sc y&&am y&&onQ (fnQ it) (λq=>q.1==("range":Str)&&glB sc q.1&&q.2.2.isEmpty&&c7 T x N sc q.2.1&&ah q.2.1)&&chkSs T N sc body b|_=>false)
 | .never,_=>true
 | .newD _ i,s0=>onQ (oK s0) λq=>Dk q.2.2&&(N[i]?==some q.1&&fG sc q.1&&am q.1)
 | .dput i k e,s0=>onQ (Hh s0) λq=>aU N sc i q.1&&chk T k N sc q.2.1&&b8 q.2.1&&chk T e N sc q.2.2&&!aH e&&bS q.2.2
 | _,_=>false
noncomputable def chkSs(T:Tab)(N:List Str)(sc:Scope):List MS->List Stmt->Bool
 | [],[]=>true
 | .freeze _::_,_=>false
 |m::ms,s::ss=>gw T N sc m s&&chkSs T N sc ms ss
 | _,_=>false
end
def B8 (T) (N) (sc) (i) (x) (body) (s0):gw T N sc (.forX i x body) s0=(match s0 with|.For (.Name y _) it b [] _=>N[i]?==some y&&fG sc y&&am y&&onQ (fnQ it) (λq=>q.1==("range":Str)&&glB sc q.1&&q.2.2.isEmpty&&c7 T x N sc q.2.1&&ah q.2.1)&&chkSs T N sc body b|_=>false):=rfl
def B9(T)(N)(sc)(i)(k)(src)(body)(s0):gw T N sc (.for1 i k src body) s0=(match s0 with|.For (.Name x _) it b [] _=>N[i]?==some x&&fG sc x&&am x&&mZ sc false (λxs=>chks T src N sc xs) k it&&chkSs T N sc body b|_=>false):=rfl
def B_(T)(N)(sc)(is)(k)(src)(body)(s0):gw T N sc (.forT is k src body) s0=(match s0 with|.For (.Tuple z _ _) it b [] _=>dQ N sc is z&&mZ sc true (λxs=>chks T src N sc xs) k it&&chkSs T N sc body b|_=>false):=rfl
theorem m5(z:∀x b,f x x=some b->b=true):∀xs {b},eqL f xs xs=some b->b=true
 | [],b,h=>by simp[eqL]at h;exact h
 |x::xs,b,h=>by
  simp only[eqL,ez,mx]at h;obtain⟨p,h1,q,h2,rfl⟩:=h;rw[z x p h1,m5 z xs h2];rfl
theorem j3:∀(n:Nat) (x:PV) {b:Bool},eqF n x x=some b->b=true
 |n,.non,b,h=>by cases n<;>cases h<;>rfl
 |n,.bl x,b,h=>by cases n<;>cases h<;>exact Ln x
 |n,.int x,b,h=>by cases n<;>cases h<;>exact Ln x
 |n,.str x,b,h=>by cases n<;>cases h<;>exact Ln x
 |0,.tup _,b,h=>by cases h
 |0,.lst _,b,h=>by cases h
 |n+1,.tup xs,b,h=>m5 (λx b=>j3 n x) xs h
 |n+1,.lst xs,b,h=>m5 (λx b=>j3 n x) xs ((if_pos rfl).symm.trans h)
 |n,.dI _,b,h=>by cases n<;>cases h
def fX{n:Nat}{x y:PV}{b:Bool}(h:eqF n x y=some b):isD x=false/\isD y=false:=by
 cases x<;>cases y<;>first|exact⟨rfl,rfl⟩|(cases n<;>cases h)
noncomputable def EL:PV->Bool
 | .tup _=>true
 | .lst _=>true
 | _=>false
def fN{n:Nat}{x y:PV}{b:Bool}(h:eqF n x y=some b)(e:EL x=!EL y):b=false:=by
 cases x<;>cases y<;>first|(cases e;done)|(cases n<;>cases h<;>rfl)
theorem j4 :∀xs ys {b},eqL f xs ys=some b ->
  (∀(j:Nat) x y,xs[j]?=some x->ys[j]?=some y->∃c,f x y=some c) /\
   b=((range (min xs.length ys.length)).all (λj=>(f (xs.getD j .non) (ys.getD j .non)).getD false)&&xs.length==ys.length)
 | [],[],b,h=>by simp[eqL]at h;subst h;simp
 | [],y::ys,b,h=>by simp[eqL]at h;subst h;simp
 |x::xs,[],b,h=>by simp[eqL]at h;subst h;simp
 |x::xs,y::ys,b,h=>by
  simp only[eqL,ez,mx]at h;obtain⟨p,h1,q,h2,rfl⟩:=h;obtain⟨z,J⟩:=j4 xs ys h2;refine⟨λj Z y' U Y=>?_,?_⟩
  .cases j with
   |zero=>simp at U Y;subst U Y;exact⟨p,h1⟩
   |succ j=>exact z j Z y' (by simpa using U) (by simpa using Y)
  .rw[J];have hm:min (x::xs).length (y::ys).length=min xs.length ys.length+1:=by simp only[length_cons];omega
   rw[hm,range_succ_eq_map,all_cons,Mp];have hl:((x::xs).length==(y::ys).length)=(xs.length==ys.length):=by
    simp_all
   rw[hl,Bool.and_assoc];simp only[getD_cons_zero,h1,getD_some,Function.comp_def,getD_cons_succ]
theorem vt :∀xs {b},inL f xs=some b->(∀x∈xs,∃c,f x=some c)/\b=xs.any λx=>(f x).getD false
 | [],b,h=>by simp[inL]at h;subst h;simp
 |x::xs,b,h=>by
  simp only[inL,ez,mx]at h;obtain⟨p,h1,q,h2,rfl⟩:=h;obtain⟨z,U⟩:=vt xs h2;refine⟨λy J=>?_,?_⟩
  .rcases tf.mp J with rfl|J
   .exact⟨p,h1⟩
   .exact z y J
  .simp_all
section
variable{X:Cx}{pins:List (Addr×Obj)}{σ:St}{H:Hp}{s:Shared}
def rX(I:Inv X pins σ H s)(h1:SqL X.K H a xs)(h2:SqT X.K H a ys):False:=by
 obtain⟨its,_,p,_⟩:=I.list h1;obtain⟨z,_,q,_⟩:=I.tuple h2;exact SeqAt.ne_of_list_tuple p.isList (show s.heap.IsTuple a z.toArray from q) rfl
def qu(h:RdD H a d):IsD H a:=by
 cases d<;>first|exact .inl ⟨_,h.rd⟩|exact .inr ⟨_,h.rd⟩|exact absurd h.2 mu
def l0(I:Inv X pins σ H s)(h1:SqL X.K H a xs\/SqT X.K H a xs)(h2:RdD H a d):False:=by
 obtain⟨o,ho,hc⟩:=(tN I (qu h2)).1;rcases h1 with h1|h1
 .obtain⟨its,_,p,_⟩:=I.list h1;obtain⟨o',z,J,_⟩:=p.isList;rw[ho]at z;cases z;rw[hc]at J;exact absurd J (by decide)
 .obtain⟨its,_,⟨o',z,J,_⟩,_⟩:=I.tuple h1;rw[ho]at z;cases z;rw[hc]at J;exact absurd J (by decide)
def Sc.v_inj:∀{a b:Sc},a.v=b.v->a=b:=by
 intro a b h;cases a<;>cases b<;>simp[Sc.v]at h ⊢<;>exact h
theorem rY:∀{a b},gu a=gu b->a=b
 | [],[],_=>rfl
 | [],_::_,h=>by cases h
 | _::_,[],h=>by cases h
 | (k,v)::a,(J,U)::b,h=>by
  simp[gu,JO,Prod.mk.injEq]at h;obtain⟨⟨h1,h2⟩,z⟩:=h;rw[h1,Sc.v_inj h2,rY z]
theorem l5:∀{a b:List Int},(a.map Sum.inl:List Key)=b.map Sum.inl->a=b
 | [],[],_=>rfl
 | [],_::_,h=>by cases h
 | _::_,[],h=>by cases h
 |x::a,y::b,h=>by
  simp[Mv]at h;rw[h.1,l5 h.2]
theorem rZ:∀{a b},jx a=jx b->a=b
 | [],[],_=>rfl
 | [],_::_,h=>by cases h
 | _::_,[],h=>by cases h
 | (k,v)::a,(J,U)::b,h=>by
  simp[jx,JO]at h;obtain⟨⟨h1,h2⟩,z⟩:=h;rw[l5 h1,Sc.v_inj h2,rZ z]
theorem m6:∀{a b:List Int},a.map V.int=b.map V.int->a=b
 | [],[],_=>rfl
 | [],_::_,h=>by cases h
 | _::_,[],h=>by cases h
 |x::a,y::b,h=>by
  simp only[JO,Mv]at h;rw[V.int.inj h.1,m6 h.2]
def r6(h:iD a=iD b):a=b:=by
 cases a<;>cases b<;>first
  | (cases h;done)
  | (rw[rY (HO.dK.inj h)];done)
  | (rw[rZ (HO.dT.inj h)];done)
  | rw[m6 (HO.lst.inj h)]
def EM(h:RdD H a x)(g:RdD H a y):x=y:=by
 have h:=h.rd;have g:=g.rd;have ne:∀x o u,iD x≠.frz o u:=λx o u e=>by cases x<;>cases e
 rcases h with h|⟨o,h⟩<;>rcases g with g|⟨o',g⟩
 .rw[h]at g;exact r6 (JP g)
 .rw[h]at g;exact absurd (JP g) (ne x _ _)
 .simp_all
 .rw[h]at g;exact r6 (HO.frz.inj (JP g)).2
mutual
theorem l6(I:Inv X pins σ H s):∀(x y:PV) {u:V},Rep X.K H x u->Rep X.K H y u->x=y
 | .non,y,u,h,g=>by rw[Rep]at h;subst h;cases y<;>simp[Rep]at g ⊢
 | .bl b,y,u,h,g=>by rw[Rep]at h;subst h;cases y<;>simp[Rep]at g ⊢;exact g
 | .int b,y,u,h,g=>by rw[Rep]at h;subst h;cases y<;>simp[Rep]at g ⊢;exact g
 | .str b,y,u,h,g=>by rw[Rep]at h;subst h;cases y<;>simp[Rep]at g ⊢;exact g
 | .tup xs,y,u,h,g=>by
  rw[Rep]at h;obtain⟨a,us,rfl,q,r⟩:=h;cases y with
  |tup ys =>
   rw[Rep]at g;obtain⟨b,vs,e,z,J⟩:=g;cases e;have:=I.tuple_inj (eJ q) (eJ z);subst this;rw[reps_inj I xs ys r J]
  |lst ys =>
   rw[Rep]at g;obtain⟨b,vs,e,z,J⟩:=g;cases e;exact(rX I z (eJ q)).elim
  |dI kvs =>
   rw[Rep]at g;obtain⟨b,e,z⟩:=g;cases e;exact(l0 I (.inr (eJ q)) z).elim
  | _=>simp[Rep]at g
 | .lst xs,y,u,h,g=>by
  rw[Rep]at h;obtain⟨a,us,rfl,q,r⟩:=h;cases y with
  |lst ys =>
   rw[Rep]at g;obtain⟨b,vs,e,z,J⟩:=g;cases e;have:=I.list_inj q z;subst this;rw[reps_inj I xs ys r J]
  |tup ys =>
   rw[Rep]at g;obtain⟨b,vs,e,z,J⟩:=g;cases e;exact(rX I q (eJ z)).elim
  |dI kvs =>
   rw[Rep]at g;obtain⟨b,e,z⟩:=g;cases e;exact(l0 I (.inl q) z).elim
  | _=>simp[Rep]at g
 | .dI kvs,y,u,h,g=>by
  rw[Rep]at h;obtain⟨a,rfl,q⟩:=h;cases y with
  |dI ks =>
   rw[Rep]at g;obtain⟨b,e,z⟩:=g;cases e;rw[EM q z]
  |tup ys =>
   rw[Rep]at g;obtain⟨b,vs,e,z,J⟩:=g;cases e;exact(l0 I (.inr (eJ z)) q).elim
  |lst ys =>
   rw[Rep]at g;obtain⟨b,vs,e,z,J⟩:=g;cases e;exact(l0 I (.inl z) q).elim
  | _=>simp[Rep]at g
theorem reps_inj(I:Inv X pins σ H s):∀(xs ys:List PV) {us:List V},Reps X.K H xs us->Reps X.K H ys us->xs=ys
 | [],ys,us,h,g=>by
  rw[Reps]at h;subst h
  cases ys with
  |nil=>rfl
  |cons y ys=>rw[Reps]at g;obtain⟨_,_,e,_⟩:=g;cases e
 |x::xs,ys,us,h,g=>by
  rw[Reps]at h;obtain⟨u,r,rfl,q,t⟩:=h;cases ys with
  |nil=>rw[Reps]at g;cases g
  |cons y ys =>
   rw[Reps]at g;obtain⟨J,U,e,z,t'⟩:=g;cases e;rw[l6 I x y q z,reps_inj I xs ys t t']
end
def Rep.tupAt(I:Inv X pins σ H s)(h:Rep X.K H (.tup xs) u)(r:aE u v) :
  ∃a us its,u=.ref a/\v=.ref a/\Reps X.K H xs us/\aG us its/\s.heap.IsTuple a its.toArray/\xs.length=its.length:=by
 obtain⟨a,us,rfl,q,t⟩:=h;obtain⟨its,z,p,_⟩:=I.tuple (eJ q);exact⟨a,us,its,rfl,r,t,z,p,t.length.trans z.length⟩
def Rep.lstAt(I:Inv X pins σ H s)(h:Rep X.K H (.lst xs) u)(r:aE u v) :
  ∃a us its,u=.ref a/\v=.ref a/\Reps X.K H xs us/\aG us its/\s.heap.IsList a its.toArray/\xs.length=its.length:=by
 obtain⟨a,us,rfl,q,t⟩:=h;obtain⟨its,z,p,_⟩:=I.list q;exact⟨a,us,its,rfl,r,t,z,p.isList,t.length.trans z.length⟩
def j5{A:Around}(ih:∀x y {Y Z}{J U}{b}{A},A.units+n<cLine->eqF n x y=some b->Rep X.K H x Y->Rep X.K H y Z->aE Y J->aE Z U->SeqAt.EqAt A s J U b)
  (hu:A.units+(n+1)<cLine) (rx:Reps X.K H xs us) (ry:Reps X.K H ys ws) (J:aG us its) (U:aG ws z)
  (hs:∀(j:Nat) x y,xs[j]?=some x->ys[j]?=some y->∃c,eqF n x y=some c) :
  ∀j (h1:j<its.toArray.size) (h2:j<z.toArray.size),SeqAt.EqAt A.in1 s its.toArray[j] z.toArray[j] ((eqF n (xs.getD j .non) (ys.getD j .non)).getD false):=λj h1 h2=>by
 refine aC λZq kq=>?_
 have l1:=rx.length.trans J.length;have l2:=ry.length.trans U.length;simp[oe]at h1 h2;have e1:xs[j]?=some xs[j]:=JR (by omega);have e2:ys[j]?=some ys[j]:=JR (by omega);obtain⟨Y,q1,p1⟩:=rx.get e1;obtain⟨Z,q2,p2⟩:=ry.get e2;obtain⟨wx,q3,p3⟩:=J.get q1;obtain⟨wy,q4,p4⟩:=U.get q2;obtain⟨c,hc⟩:=hs j _ _ e1 e2;have d1:xs.getD j .non=xs[j]:=by simp[List.getD,e1]
 have d2:ys.getD j .non=ys[j]:=by simp[List.getD,e2]
 have g1:its.toArray[j]=wx:=by
  simp_all
 have g2:z.toArray[j]=wy:=by
  simp_all
 refine kq ?_;rw[d1,d2,hc,g1,g2];exact ih _ _ (show A.units+1+n<cLine by omega) hc p1 p2 p3 p4
def Ca{A:Around}{n:Nat}(I:Inv X pins σ H s)(ih:∀(x y:PV) {z J:V}{U Y:Value}{b:Bool}{A:Around},A.units+n<cLine->eqF n x y=some b->Rep X.K H x z->Rep X.K H y J->aE z U->aE J Y->SeqAt.EqAt A s U Y b)
  (hu:A.units+(n+1)<cLine):(∀{xs ys:List PV}{z J:V}{U Y:Value}{b:Bool},eqF (n+1) (.tup xs) (.tup ys)=some b->Rep X.K H (.tup xs) z->Rep X.K H (.tup ys) J->aE z U->aE J Y->SeqAt.RcAt A s U Y b) /\
   (∀{xs ys:List PV}{z J:V}{U Y:Value}{b:Bool},eqF (n+1) (.lst xs) (.lst ys)=some b->Rep X.K H (.lst xs) z->Rep X.K H (.lst ys) J->aE z U->aE J Y->SeqAt.RcAt A s U Y b):=by
 refine⟨λ{xs ys z J U Y b} h rx ry r1 r2=>?_,λ{xs ys z J U Y b} h rx ry r1 r2=>?_⟩
 .obtain⟨a,us,its,rfl,rfl,t1,w1,p1,l1⟩:=rx.tupAt I r1;obtain⟨c,ws,Z,rfl,rfl,t2,w2,p2,l2⟩:=ry.tupAt I r2;have h:eqL (eqF n) xs ys=some b:=h;obtain⟨hs,hb⟩:=j4 xs ys h;have q:=SeqAt.RcAt.tuples (A:=A) p1 p2 (by omega) (j5 ih hu t1 t2 w1 w2 hs);rw[hb];simpa[l1,l2]using q
 .obtain⟨a,us,its,rfl,rfl,t1,w1,p1,l1⟩:=rx.lstAt I r1;obtain⟨c,ws,Z,rfl,rfl,t2,w2,p2,l2⟩:=ry.lstAt I r2;have h:(if xs.length=ys.length then eqL (eqF n) xs ys else some false)=some b:=h;by_cases hl:xs.length=ys.length
  .rw[if_pos hl]at h;obtain⟨hs,hb⟩:=j4 xs ys h;have q:=SeqAt.RcAt.lists (A:=A) p1 p2 (by simp only[oe];omega) (by omega) (j5 ih hu t1 t2 w1 w2 hs);rw[hb,hl,M9];simpa[<- l1,hl]using q
  .rw[if_neg hl]at h;cases h;exact SeqAt.RcAt.lists_lengths (A:=A) p1 p2 (by simp only[oe,bne_iff_ne];omega) (by omega)
def cH(hd:isD x=false)(h:Rep X.K H x u):(∃xs,x=.tup xs)\/(∃xs,x=.lst xs)\/iw u=true:=by
 cases x with
 |dI _=>cases hd
 |tup xs=>exact .inl ⟨xs,rfl⟩
 |lst xs=>exact .inr (.inl ⟨xs,rfl⟩)
 | _=>rw[Rep]at h;subst h;exact .inr (.inr rfl)
def g6(z:A.units<cLine)(f:iw u=true)(r:aE u v)(p:s.heap.IsTuple a its) :
  SeqAt.EqAt A s v (.ref a) false/\SeqAt.EqAt A s (.ref a) v false/\SeqAt.RcAt A s v (.ref a) false/\SeqAt.RcAt A s (.ref a) v false:=by
 cases u with
 |non=>cases r;exact⟨.none_tuple p z,.tuple_none p z,.none_tuple p z,.tuple_none p z⟩
 |bl b=>cases r;exact⟨.bool_tuple b p z,.tuple_bool b p z,.bool_tuple b p z,.tuple_bool b p z⟩
 |int b=>obtain⟨t,rfl⟩:=r;exact⟨.int_tuple b t p z,.tuple_int b t p z,.int_tuple b t p z,.tuple_int b t p z⟩
 |str b=>obtain⟨t,rfl⟩:=r;exact⟨.str_tuple b t p z,.tuple_str b t p z,.str_tuple b t p z,.tuple_str b t p z⟩
 | _=>exact absurd (show false=true from f) mu
def iX(z:A.units<cLine)(f:iw u=true)(r:aE u v)(p:s.heap.IsList a its) :
  SeqAt.EqAt A s v (.ref a) false/\SeqAt.EqAt A s (.ref a) v false/\SeqAt.RcAt A s v (.ref a) false/\SeqAt.RcAt A s (.ref a) v false:=by
 cases u with
 |non=>cases r;exact⟨.none_list p z,.list_none p z,.none_list p z,.list_none p z⟩
 |bl b=>cases r;exact⟨.bool_list b p z,.list_bool b p z,.bool_list b p z,.list_bool b p z⟩
 |int b=>obtain⟨t,rfl⟩:=r;exact⟨.int_list b t p z,.list_int b t p z,.int_list b t p z,.list_int b t p z⟩
 |str b=>obtain⟨t,rfl⟩:=r;exact⟨.str_list b t p z,.list_str b t p z,.str_list b t p z,.list_str b t p z⟩
 | _=>exact absurd (show false=true from f) mu
def zm(J:aE y u)(z:aE x v)(Y:iw y=true)(U:iw x=true):SeqAt.RcAt A s u v (eqV y x):=by
 cases y with
 |non =>
  cases J;cases x with
  |non=>cases z;exact SeqAt.RcAt.none_none
  |bl b=>cases z;exact SeqAt.RcAt.none_bool b
  |int b=>obtain⟨t,rfl⟩:=z;exact SeqAt.RcAt.none_int b t
  |str b=>obtain⟨t,rfl⟩:=z;exact SeqAt.RcAt.none_str b t
  | _=>exact absurd (show false=true from U) mu
 |bl a =>
  cases J;cases x with
  |non=>cases z;exact SeqAt.RcAt.bool_none a
  |bl b=>cases z;exact SeqAt.RcAt.bool_bool a b
  |int b=>obtain⟨t,rfl⟩:=z;exact SeqAt.RcAt.bool_int a b t
  |str b=>obtain⟨t,rfl⟩:=z;exact SeqAt.RcAt.bool_str a b t
  | _=>exact absurd (show false=true from U) mu
 |int a =>
  obtain⟨t',rfl⟩:=J;cases x with
  |non=>cases z;exact SeqAt.RcAt.int_none a t'
  |bl b=>cases z;exact SeqAt.RcAt.int_bool a t' b
  |int b=>obtain⟨t,rfl⟩:=z;exact SeqAt.RcAt.int_int a t' b t
  |str b=>obtain⟨t,rfl⟩:=z;exact SeqAt.RcAt.int_str a t' b t
  | _=>exact absurd (show false=true from U) mu
 |str a =>
  obtain⟨t',rfl⟩:=J;cases x with
  |non=>cases z;exact SeqAt.RcAt.str_none a t'
  |bl b=>cases z;exact SeqAt.RcAt.str_bool a t' b
  |int b=>obtain⟨t,rfl⟩:=z;exact SeqAt.RcAt.str_int a t' b t
  |str b=>obtain⟨t,rfl⟩:=z;exact SeqAt.RcAt.str_str a t' b t
  | _=>exact absurd (show false=true from U) mu
 | _=>exact absurd (show false=true from Y) mu
def m7{n:Nat}{x y:PV}{u v:V}{b:Bool}(z:Rep X.K H x u)(J:Rep X.K H y v)(U:iw u=true)(Y:iw v=true)(h:eqF n x y=some b):b=eqV u v:=by
 cases x<;>cases y<;>simp only[Rep]at z J
 all_goals first
  | (obtain⟨_,_,rfl,_⟩:=z;exact absurd (show false=true from U) mu)
  | (obtain⟨_,_,rfl,_⟩:=J;exact absurd (show false=true from Y) mu)
  | (obtain⟨_,rfl,_⟩:=z;exact absurd (show false=true from U) mu)
  | (obtain⟨_,rfl,_⟩:=J;exact absurd (show false=true from Y) mu)
  | (subst z J;cases n<;>cases h<;>rfl)
def fO{y:PV}{v:V}(r:Rep X.K H y v)(f:iw v=true):EL y=false:=by
 cases y with
 |tup _=>obtain⟨_,_,rfl,_⟩:=r;cases f
 |lst _=>obtain⟨_,_,rfl,_⟩:=r;cases f
 | _=>rfl
def qv(I:Inv X pins σ H s):∀(n:Nat) (x y:PV) {ux uy:V}{vx vy:Value}{b:Bool}{A:Around},A.units+n<cLine->eqF n x y=some b->Rep X.K H x ux->Rep X.K H y uy->aE ux vx->aE uy vy ->
  SeqAt.EqAt A s vx vy b/\SeqAt.RcAt A s vx vy b:=by
 intro n
 induction n with
 |zero =>
  intro x y ux uy vx vy b A hu h rx U r1 Y;have z:A.units<cLine:=by omega
  rcases cH (fX h).1 rx with⟨xs,rfl⟩|⟨xs,rfl⟩|fx
  .obtain⟨a,us,its,rfl,rfl,t1,w1,p1,l1⟩:=rx.tupAt I r1;rcases cH (fX h).2 U with⟨ys,rfl⟩|⟨ys,rfl⟩|Z
   .cases h
   .obtain⟨c,ws,J,rfl,rfl,t2,w2,p2,l2⟩:=U.lstAt I Y;cases h;exact⟨.tuple_list p1 p2 z,.tuple_list p1 p2 z⟩
   .obtain⟨z1,z2,z3,z4⟩:=g6 z Z Y p1;have:b=false:=fN h (by rw[fO U Z];rfl);subst this;exact⟨z2,z4⟩
  .obtain⟨a,us,its,rfl,rfl,t1,w1,p1,l1⟩:=rx.lstAt I r1;rcases cH (fX h).2 U with⟨ys,rfl⟩|⟨ys,rfl⟩|Z
   .obtain⟨c,ws,J,rfl,rfl,t2,w2,p2,l2⟩:=U.tupAt I Y;cases h;exact⟨.list_tuple p1 p2 z,.list_tuple p1 p2 z⟩
   .cases h
   .obtain⟨z1,z2,z3,z4⟩:=iX z Z Y p1;have:b=false:=fN h (by rw[fO U Z];rfl);subst this;exact⟨z2,z4⟩
  .rcases cH (fX h).2 U with⟨ys,rfl⟩|⟨ys,rfl⟩|Z
   .obtain⟨c,ws,J,rfl,rfl,t2,w2,p2,l2⟩:=U.tupAt I Y;obtain⟨z1,z2,z3,z4⟩:=g6 z fx r1 p2;have:b=false:=fN h (by rw[fO rx fx];rfl);subst this;exact⟨z1,z3⟩
   .obtain⟨c,ws,J,rfl,rfl,t2,w2,p2,l2⟩:=U.lstAt I Y;obtain⟨z1,z2,z3,z4⟩:=iX z fx r1 p2;have:b=false:=fN h (by rw[fO rx fx];rfl);subst this;exact⟨z1,z3⟩
   .rw[m7 rx U fx Z h];exact⟨yd r1 Y fx Z,zm r1 Y fx Z⟩
 |succ n ih =>
  intro x y ux uy vx vy b A hu h rx U r1 Y;have z:A.units<cLine:=by omega
  obtain⟨kt,kl⟩:=Ca I (λx y {_ _ _ _ _ _} a1 a2 a3 a4 a5 a6=>(ih x y a1 a2 a3 a4 a5 a6).1) hu;rcases cH (fX h).1 rx with⟨xs,rfl⟩|⟨xs,rfl⟩|fx
  .obtain⟨a,us,its,e1,a7,t1,w1,p1,l1⟩:=rx.tupAt I r1;rcases cH (fX h).2 U with⟨ys,rfl⟩|⟨ys,rfl⟩|Z
   .have q:=kt h rx U r1 Y;obtain⟨c,ws,J,e2,a8,t2,w2,p2,l2⟩:=U.tupAt I Y;subst e1 a7 e2 a8;refine⟨?_,q⟩;by_cases b1:a=c
    .subst b1;have e:=l6 I _ _ rx U;rw[e]at h;rw[j3 _ _ h];exact .same _
    .exact .of_refs b1 q
   .obtain⟨c,ws,J,e2,a8,t2,w2,p2,l2⟩:=U.lstAt I Y;subst e1 a7 e2 a8;cases h;exact⟨.tuple_list p1 p2 z,.tuple_list p1 p2 z⟩
   .subst e1 a7;obtain⟨z1,z2,z3,z4⟩:=g6 z Z Y p1;have:b=false:=fN h (by rw[fO U Z];rfl);subst this;exact⟨z2,z4⟩
  .obtain⟨a,us,its,e1,a7,t1,w1,p1,l1⟩:=rx.lstAt I r1;rcases cH (fX h).2 U with⟨ys,rfl⟩|⟨ys,rfl⟩|Z
   .obtain⟨c,ws,J,e2,a8,t2,w2,p2,l2⟩:=U.tupAt I Y;subst e1 a7 e2 a8;cases h;exact⟨.list_tuple p1 p2 z,.list_tuple p1 p2 z⟩
   .have q:=kl h rx U r1 Y;obtain⟨c,ws,J,e2,a8,t2,w2,p2,l2⟩:=U.lstAt I Y;subst e1 a7 e2 a8;refine⟨?_,q⟩;by_cases b1:a=c
    .subst b1;have e:=l6 I _ _ rx U;rw[e]at h;rw[j3 _ _ h];exact .same _
    .exact .of_refs b1 q
   .subst e1 a7;obtain⟨z1,z2,z3,z4⟩:=iX z Z Y p1;have:b=false:=fN h (by rw[fO U Z];rfl);subst this;exact⟨z2,z4⟩
  .rcases cH (fX h).2 U with⟨ys,rfl⟩|⟨ys,rfl⟩|Z
   .obtain⟨c,ws,J,rfl,rfl,t2,w2,p2,l2⟩:=U.tupAt I Y;obtain⟨z1,z2,z3,z4⟩:=g6 z fx r1 p2;have:b=false:=fN h (by rw[fO rx fx];rfl);subst this;exact⟨z1,z3⟩
   .obtain⟨c,ws,J,rfl,rfl,t2,w2,p2,l2⟩:=U.lstAt I Y;obtain⟨z1,z2,z3,z4⟩:=iX z fx r1 p2;have:b=false:=fN h (by rw[fO rx fx];rfl);subst this;exact⟨z1,z3⟩
   .rw[m7 rx U fx Z h];exact⟨yd r1 Y fx Z,zm r1 Y fx Z⟩
end
section
variable{X:Cx}
def EN(hu:X.A.units+101<cLine):OpR X (compareOp .Eq) (λz J H Q=>∃x y b,Rep X.K H x z/\Rep X.K H y J/\eqF 100 x y=some b/\Q (.bl b) H):=by
 intro pins s σ H z J v u Q I U Y h;obtain⟨x,y,b,Z,r2,e,q⟩:=h;exact(qv I 100 x y (by omega) e Z r2 U Y).2 _ _ _ _ ⟨.bl b,H,I,rfl,q⟩
def EO(hu:X.A.units+101<cLine):OpR X (compareOp .NotEq) (λux uy H Q=>∃x y b,Rep X.K H x ux/\Rep X.K H y uy/\t_ x y=true/\eqF 100 x y=some b/\Q (.bl (!b)) H):=by
 intro pins s σ H ux uy v u Q I rx ry h;obtain⟨x,y,b,Y,r2,ok,e,q⟩:=h;rcases cH (fX e).1 Y with⟨xs,rfl⟩|⟨xs,rfl⟩|fx
 .cases y with
  |tup ys =>
   refine aC λZq kq=>?_
   obtain⟨a,us,its,rfl,rfl,t1,w1,p1,l1⟩:=Y.tupAt I rx;obtain⟨c,ws,U,rfl,rfl,t2,w2,p2,l2⟩:=r2.tupAt I ry;have e:eqL (eqF 99) xs ys=some b:=e;obtain⟨hs,hb⟩:=j4 xs ys e;obtain⟨⟨cls,dd,data,sl⟩,ho,hc,n,hd⟩:=id p1;obtain⟨⟨b0,aO,data2,a0⟩,J,Z,n2,ao⟩:=id p2;simp only at hc hd Z ao;subst hc hd Z ao;refine kq ?_;refine Lz (op:=.NotEq) ⟨_,ho,rfl⟩ ⟨_,J,rfl⟩ PySem.F.slot_tuple_ne PySem.F.entry_tuple_ne (PySem.F.args_tuple_ne_2 _ _) (SeqAt.tuple_neAt a c its.toArray U.toArray n n2 dd aO sl a0 _)
    ⟨ho,J,j5 (n:=99) (λx y {_ _ _ _ _ _} a1 a2 a3 a4 a5 a6=>(qv I 99 x y a1 a2 a3 a4 a5 a6).1) (by omega) t1 t2 w1 w2 hs,?_⟩ (by omega)
   refine⟨(λx=>nomatch x),⟨.bl (!b),H,I,?_,q⟩⟩;rw[hb];simp[l1,l2,L2.aE]
  | _=>cases ok
 .cases y with
  |lst ys =>
   refine aC λZq kq=>?_
   obtain⟨a,us,its,rfl,rfl,t1,w1,p1,l1⟩:=Y.lstAt I rx;obtain⟨c,ws,U,rfl,rfl,t2,w2,p2,l2⟩:=r2.lstAt I ry;have e:(if xs.length=ys.length then eqL (eqF 99) xs ys else some false)=some b:=e;obtain⟨⟨cls,dd,data,sl⟩,ho,hc,n,hd⟩:=id p1;obtain⟨⟨b0,aO,data2,a0⟩,J,Z,n2,ao⟩:=id p2;simp only at hc hd Z ao;subst hc hd Z ao;refine kq ?_;by_cases hl:xs.length=ys.length
   .rw[if_pos hl]at e;obtain⟨hs,hb⟩:=j4 xs ys e;refine Lz (op:=.NotEq) ⟨_,ho,rfl⟩ ⟨_,J,rfl⟩ PySem.F.slot_list_ne PySem.F.entry_list_ne (PySem.F.args_list_ne_2 _ _) (SeqAt.list_neAt a c its.toArray U.toArray n n2 dd aO sl a0 (by simp only[oe];omega) _)
     ⟨ho,J,j5 (n:=99) (λx y {_ _ _ _ _ _} a1 a2 a3 a4 a5 a6=>(qv I 99 x y a1 a2 a3 a4 a5 a6).1) (by omega) t1 t2 w1 w2 hs,?_⟩ (by omega)
    refine⟨(λx=>nomatch x),⟨.bl (!b),H,I,?_,q⟩⟩;rw[hb,hl,M9];simp[<- l1,hl,L2.aE]
   .rw[if_neg hl]at e;cases e;refine Lz (op:=.NotEq) ⟨_,ho,rfl⟩ ⟨_,J,rfl⟩ PySem.F.slot_list_ne PySem.F.entry_list_ne (PySem.F.args_list_ne_2 _ _) (SeqAt.list_ne_lengthsAt a c its.toArray U.toArray n n2 dd aO sl a0 (by simp only[oe,bne_iff_ne];omega)) ⟨ho,J,?_⟩ (by omega);exact⟨(λx=>nomatch x),⟨.bl true,H,I,rfl,q⟩⟩
  | _=>cases ok
 .have fy:iw uy=true:=by
   rcases cH (fX e).2 r2 with⟨ys,rfl⟩|⟨ys,rfl⟩|fy
   .cases x<;>cases ok
    obtain⟨_,_,rfl,_⟩:∃a us,ux=V.ref a/\_:=by rw[Rep]at Y;exact Y
    exact absurd (show false=true from fx) mu
   .cases x<;>cases ok
    obtain⟨_,_,rfl,_⟩:∃a us,ux=V.ref a/\_:=by rw[Rep]at Y;exact Y
    exact absurd (show false=true from fx) mu
   .exact fy
  have hb:=m7 Y r2 fx fy e;subst hb;refine GM pins s σ H ux uy v u Q I rx ry ?_;have key:scal ux uy=true/\decide (ux=uy)=eqV ux uy:=by
   cases x<;>cases y<;>simp only[Rep]at Y r2<;>first
    | (obtain⟨_,_,rfl,_⟩:=Y;exact absurd (show false=true from fx) mu)
    | (obtain⟨_,_,rfl,_⟩:=r2;exact absurd (show false=true from fy) mu)
    | (obtain⟨_,rfl,_⟩:=Y;exact absurd (show false=true from fx) mu)
    | (obtain⟨_,rfl,_⟩:=r2;exact absurd (show false=true from fy) mu)
    | (subst Y r2;first|(cases ok;done)|exact⟨rfl,by first|exact uU|exact xU|exact uV|exact JS rfl|exact J0 (λz=>by cases z)⟩)
  exact⟨key.1,by rw[key.2];exact q⟩
def j6(I:Inv X pins σ H s)(hu:X.A.units+101<cLine)(rx:Rep X.K H x ux)(r1:aE ux vx)(t:Reps X.K H xs us)(w:aG us its)(h:isIn x xs=some b) :
  ∃e,(∀y,y∈its.toArray->SeqAt.EqAt X.A.in1 s y vx (e y))/\its.toArray.any e=b:=by
 obtain⟨h1,h2⟩:=vt xs h
 classical
 have J:∀z u y,aE u y->Rep X.K H z u->∀p:(∃z u,aE u y/\Rep X.K H z u),p.choose=z:=λz u y r q p=>by
  obtain⟨u',r',q'⟩:=p.choose_spec;have e:=r.inj r';subst e;exact l6 I _ _ q' q
 refine⟨λy=>if p:∃z u,aE u y/\Rep X.K H z u then(eqF 100 p.choose x).getD false else false,?_,?_⟩
 .intro y hy;refine aC λZq kq=>?_
  obtain⟨j,hj,e⟩:=MI (by simpa using hy:y∈its);have ej:its[j]?=some y:=by rw[JR hj,e]
  have l1:=w.length;obtain⟨U,e1⟩:∃U,us[j]?=some U:=⟨_,JR (by omega)⟩;obtain⟨wy,e2,Y⟩:=w.get e1;rw[ej]at e2;cases e2;obtain⟨z,e3,Z⟩:=t.get' e1;obtain⟨c,hc⟩:=h1 z (K1 e3);have q:=(qv I 100 z x (A:=X.A.in1) (show X.A.units+1+100<cLine by omega) hc Z rx Y r1).1;have p:∃z u,aE u y/\Rep X.K H z u:=⟨z,U,Y,Z⟩;have e4:=J z U y Y Z p;refine kq ?_
  simp_all
 .rw[h2];simp only[any_toArray];clear h h1 h2
  induction xs generalizing us its with
  |nil =>
   rw[Reps]at t;subst t;cases w
   rfl
  |cons z zs ih =>
   rw[Reps]at t;obtain⟨u,r,rfl,q,t⟩:=t;cases w with
   |cons rv w =>
    rename_i y ys;have p:∃z u,aE u y/\Rep X.K H z u:=⟨z,u,rv,q⟩;have e4:=J z u y rv q p;rw[any_cons,any_cons,ih t w];simp only[p,dite_true,e4]
def EQ(U:X.A.units+101<cLine):OpR X (compareOp .In) (λY Z H Q=>∃x xs a us b,Rep X.K H x Y/\Z=.ref a/\(SqL X.K H a us\/SqT X.K H a us)/\Reps X.K H xs us/\isIn x xs=some b/\Q (.bl b) H):=by
 intro pins s σ H Y Z v u Q I rx ry h;obtain⟨x,xs,a,us,b,r1,rfl,z,r2,e,q⟩:=h;cases ry;rcases z with z|z
 .obtain⟨its,r,J,hz⟩:=I.list z;obtain⟨f,h1,h2⟩:=j6 I U r1 rx r2 r e;refine SeqAt.in_listAt f J.isList h1 ?_;rw[h2];exact⟨.bl b,H,I,rfl,q⟩
 .obtain⟨its,r,J,hz⟩:=I.tuple z;obtain⟨f,h1,h2⟩:=j6 I U r1 rx r2 r e;refine SeqAt.in_tupleAt f J h1 ?_;rw[h2];exact⟨.bl b,H,I,rfl,q⟩
def wW(U:X.A.units+101<cLine):OpR X (compareOp .NotIn) (λY Z H Q=>∃x xs a us b,Rep X.K H x Y/\Z=.ref a/\(SqL X.K H a us\/SqT X.K H a us)/\Reps X.K H xs us/\isIn x xs=some b/\Q (.bl (!b)) H):=by
 intro pins s σ H Y Z v u Q I rx ry h;obtain⟨x,xs,a,us,b,r1,rfl,z,r2,e,q⟩:=h;cases ry;rcases z with z|z
 .obtain⟨its,r,J,hz⟩:=I.list z;obtain⟨f,h1,h2⟩:=j6 I U r1 rx r2 r e;refine SeqAt.notIn_listAt f J.isList h1 ?_;rw[h2];exact⟨.bl _,H,I,rfl,q⟩
 .obtain⟨its,r,J,hz⟩:=I.tuple z;obtain⟨f,h1,h2⟩:=j6 I U r1 rx r2 r e;refine SeqAt.notIn_tupleAt f J h1 ?_;rw[h2];exact⟨.bl _,H,I,rfl,q⟩
end
end MM
namespace L2
open PySem PySem.Spec PyProof.Rows List Option
theorem PE.imp(h:PE X e t)(i:∀σ H Q,t' σ H Q->t σ H Q):PE X e t':=λpins s σ H Q I q=>h pins s σ H Q I (i σ H Q q)
theorem PT.imp(h:PT X e t)(i:∀σ H Q,t' σ H Q->t σ H Q):PT X e t':=λpins s σ H Q I q=>h pins s σ H Q I (i σ H Q q)
theorem PA.imp(h:PA X e t)(i:∀σ H Q,t' σ H Q->t σ H Q):PA X e t':=λpos pins s σ H Q I q=>h pos pins s σ H Q I (i σ H Q q)
theorem PS.imp(h:PS X e t)(i:∀D σ H,t' D σ H->t D σ H):PS X e t':=λpins s σ H D I q=>h pins s σ H D I (i D σ H q)
theorem PSs.imp(h:PSs X e t)(i:∀D σ H,t' D σ H->t D σ H):PSs X e t':=λpins s σ H D I q=>h pins s σ H D I (i D σ H q)
theorem PI.imp(h:PI X tg e t)(i:∀σ H R,t' σ H R->t σ H R):PI X tg e t':=λpins s σ H R I q=>h pins s σ H R I (i σ H R q)
end L2
namespace MM
open PySem PySem.Spec PyProof.Rows L2 List Option
noncomputable def jl(H:Hp)(ms:List Addr):Hp:=λb=>if b∈ms then none else H b
def lu(K:Nl)(O:List Addr)(H:Hp):MV->V->Prop
 | .val v,u=>Rep K (aq H O) v u
 | .brw xs,u=>∃a us,u=.ref a/\SqL K H a us/\Reps K (aq H O) xs us
 | .own _,_=>False
 | .ownD _,_=>False
 | .mutD _,_=>False
 | .brwD kvs,u=>∃a,u=.ref a/\Rd H a (iD kvs)
noncomputable def spM(K:Nl)(cal:Cal)(f:Nat):Sp:=λvs H Q _ =>
 ∃O args r,(∀a∈O,H a≠none)/\Paired (lu K O H) args vs/\cal f args=some r/\∀u H',aj H H'->Rep K (aq H' O) r u->Q u H'
noncomputable def spF(K:Nl)(cal:Cal)(f:Nat):Sp:=λvs H Q _ =>
 ∃O args xs,(∀a∈O,H a≠none)/\Paired (lu K O H) args vs/\cal (f+1000) args=some (.lst xs)/\∀p us H',aj H H'->H p=none->H' p=some (.lst us)->Reps K (aq H' (p::O)) xs us->Q (.ref p) H'
def ER(K:Nl)(O:List Addr)(H:Hp):MV->V->Prop
 | .val v,u=>Rep K (aq H O) v u
 | .mutD d,u=>∃a,u=.ref a/\DAt K H O a d/\a∈O
 | _,_=>False
inductive cg(K:Nl)(O:List Addr)(H':Hp):List MV->List V->List PV->List Addr->Prop where
 | nil:cg K O H' [] [] [] []
 | mutd {d d':DD}{a:Addr}{as:List MV}{vs:List V}{ds:List PV}{ms:List Addr} (h:DAt K H' O a d') (hn:a∉ms) (t:cg K O H' as vs ds ms):cg K O H' (.mutD d::as) (.ref a::vs) (.dI d'::ds) (a::ms)
 | other {m:MV}{v:V}{as:List MV}{vs:List V}{ds:List PV}{ms:List Addr} (h:∀d,m≠.mutD d) (t:cg K O H' as vs ds ms):cg K O H' (m::as) (v::vs) ds ms
noncomputable def spD(K:Nl)(cal:Cal)(f:Nat):Sp:=λvs H Q _ =>
 ∃O args v ds z ms,(∀a∈O,H a≠none)/\Paired (ER K O H) args vs/\cg K O H args vs z ms/\cal (f+2000) args=some (.tup (v::ds)) /\
  ∀u H',(∀b o,b∉ms->H b=some o->H' b=some o)->cg K O H' args vs ds ms->Rep K (aq H' O) v u->Q u H'
noncomputable def j7:List String:=["len","tuple","list","sorted","any","all","sum","max","min","int","bool","str","isinstance","set","range","enumerate","reversed"
 ]
noncomputable def toV:PV->V
 | .non=>.non
 | .bl b=>.bl b
 | .int i=>.int i
 | .str x=>.str x
 | _=>.non
structure Gf(X:Cx)(T:Tab)(k:Nat)(cal:Cal):Prop where
 calm:X.calm=true
 room:kB k X.A
 fns:∀(f:Nat) (x:Str),T.fs[f]?=some x->∃(fa:Addr) (fd:FuncData) (ps:List Str),X.mg x=some (.ref fa)/\PySem.W.keepIn X.K (.ref fa)=true/\cX X.K fd ps []/\jq X.prog X.w X.K X.mg X.base CX0 k fa fd ps (spM X.K cal f)/\∀l,T.ds[f]?=some l->∃vs,cX X.K fd ps vs/\aG (l.map Sc.v) vs
 blt:∀x∈j7,X.mg (x:Str)=none
 gs:∀p∈T.gs,∃u,X.mg p.1=some u/\aE (toV p.2) u
 fnsF:∀(f:Nat) (x:Str),T.fs[f]?=some x->∃(fa:Addr) (fd:FuncData) (ps:List Str),X.mg x=some (.ref fa)/\PySem.W.keepIn X.K (.ref fa)=true/\cX X.K fd ps []/\jq X.prog X.w X.K X.mg X.base CX0 k fa fd ps (spF X.K cal f)
 fnsD:∀(f:Nat) (x:Str),T.fs[f]?=some x->∃(fa:Addr) (fd:FuncData) (ps:List Str),X.mg x=some (.ref fa)/\PySem.W.keepIn X.K (.ref fa)=true/\cX X.K fd ps []/\jq X.prog X.w X.K X.mg X.base CX0 k fa fd ps (spD X.K cal f)
theorem Gf.units(g:Gf X T k cal):X.A.units+200<cLine:=by have:=g.room.un;omega
def Got(K:Nl)(H:Hp)(O:List Addr)(z:ME)(v:PV)(u:V):Prop:=bD K H O v u/\(aH z=false->Rep K (aq H O) v u)
noncomputable def tE(K:Nl)(cal:Cal)(z:ME):TE:=λσ H Q=>∃B E O W v,aD K B E O H W σ/\ev cal z W=some v/\∀u H',aj H H'->Got K H' O z v u->Q u H'
noncomputable def tT(K:Nl)(cal:Cal)(z:ME):TT:=λσ H Q=>∃B E O W b,aD K B E O H W σ/\evB cal z W=some b/\∀H',aj H H'->Q b H'
def Jp(K:Nl)(H:Hp)(O:List Addr)(ms:List ME)(vs:List PV)(us:List V):Prop:=Paired (bD K H O) vs us/\((ms.all λm=>!aH m)=true->Reps K (aq H O) vs us)
noncomputable def tEs(K:Nl)(cal:Cal)(ms:List ME):TA:=λσ H Q=>∃B E O W vs,aD K B E O H W σ/\evs cal ms W=some vs/\∀us H',aj H H'->Jp K H' O ms vs us->Q us H'
noncomputable def tAs(K:Nl)(cal:Cal)(ms:List ME):TA:=λσ H Q=>∃B E O W vs,aD K B E O H W σ/\evA cal ms W=some vs/\∀us H',aj H H'->Paired (lu K O H') vs us->Q us H'
section
variable{K:Nl}{H H':Hp}{O:List Addr}
theorem Got.of(h:Rep K (aq H O) v u):Got K H O z v u:=⟨.inl h,λ_=>h⟩
theorem Got.scal(h:∀F,Rep K F v u):Got K H O z v u:=.of (h _)
theorem Got.mono(s:aj H H')(h:Got K H O z v u):Got K H' O z v u:=⟨h.1.mono s,λe=>Rep.mono (al s) _ (h.2 e)⟩
def eN(F)(b):Rep K F (.bl b) (.bl b):=rfl
def bE(F)(b):Rep K F (.int b) (.int b):=rfl
def l7(F)(b):Rep K F (.str b) (.str b):=rfl
def qw(F):Rep K F .non .non:=rfl
def gz(U:∀a∈O,H1 a≠none)(J:H1 p=none)(h:Reps K (aq H1 O) xs us):Rep K (aq (upd H1 p (.tup us)) O) (.tup xs) (.ref p):=by
 refine⟨p,us,rfl,?_,Reps.mono (al (aA J _)) _ h⟩;rw[aT (λz=>U p z J)];exact az
def m8(U:∀a∈O,H1 a≠none)(J:H1 p=none)(h:Reps K (aq H1 O) xs us):Rep K (aq (upd H1 p (.lst us)) O) (.lst xs) (.ref p):=by
 refine⟨p,us,rfl,SqL.of ?_,Reps.mono (al (aA J _)) _ h⟩;rw[aT (λz=>U p z J)];exact az
def bq(s:aj H H')(h:∀a∈O,H a≠none):∀a∈O,H' a≠none:=λa z e=>h a z (s.free e)
def cy(h:n<=10000):n<=sizeLine:=r4 h (by decide)
end
section
variable{X:Cx}{T:Tab}{k:Nat}{cal:Cal}
def Hi(h:Et sc x=true):Vis sc x:=by
 unfold Et at h;simp[JQ]at h;rcases h with(h|h)|h
 .exact .inl h
 .exact .inr (.inl h)
 .exact .inr (.inr h)
def iF(h:fG sc x=true):Loc sc x:=by
 unfold fG at h;simp[JQ]at h;exact h
def g7 (h:am x=true):(x==("__debug__":Str))=false/\(x==("__classdict__":Str))=false/\x ≠ "__name__":=by simp_all [am]
def dk(h:glB X.env.scope x=true):Gl X x:=by
 unfold glB at h;simp at h;exact h
def cb(h:aU X.N X.env.scope i x=true):PE X (.Name x pos) (Gx i):=by
 unfold aU at h;simp[il,JQ]at h;obtain⟨⟨h1,h2⟩,z⟩:=h;obtain⟨p1,p2,_⟩:=g7 z;exact DC h1 (Hi h2) p1 p2
def aQ{K:Nl}(st:aD K B E O H W σ){i:Nat}(e:(W[i]?).join=some m):∃u,σ[i]?=some (some u)/\fo K B O H m u:=st.slot i m (aF e)
def Dl(h:aU X.N X.env.scope i x=true):PE X (.Name x pos) (tE X.K cal (.var i)):=by
 refine(cb h).imp λσ H Q U=>?_
 obtain⟨B,E,O,W,v,st,z,q⟩:=U;rw[ev]at z;cases J:(W[i]?).join with
 |none=>rw[J]at z;cases z
 |some m =>
  rw[J]at z;cases m with
  |val w =>
   simp[yV]at z;subst z;obtain⟨u,Y,r⟩:=aQ st J;exact⟨u,Y,q u H (aj.refl H) (.of r)⟩
  | _=>cases z
def Dm(h:aU X.N X.env.scope i x=true):PE X (.Name x pos) (tE X.K cal (.bor i)):=by
 refine(cb h).imp λσ H Q Y=>?_
 obtain⟨B,E,O,W,v,st,J,q⟩:=Y;rw[ev]at J;cases U:(W[i]?).join with
 |none=>rw[U]at J;cases J
 |some m =>
  rw[U]at J;obtain⟨u,Z,r⟩:=aQ st U;exact⟨u,Z,q u H (aj.refl H) ⟨r.bor st.keep J,λz=>by cases z⟩⟩
def Dn(h:ug v c=true):PE X (.Constant c j pos) (tE X.K cal (.cst v)):=by
 have key:∀u,_->PE X (.Constant c j pos) _->PE X _ (tE X.K cal (.cst v)):=λu r p=>p.imp λσ H Q z=>by
  obtain⟨B,E,O,W,w,st,J,q⟩:=z;cases J;exact q u H (aj.refl H) (.scal r)
 cases v<;>cases c<;>simp[ug,JV,JQ]at h
 .exact key .non (λF=>qw F) DF
 .subst h;exact key _ (λF=>eN F _) Gy
 .subst h;exact key _ (λF=>bE F _) DE
 .subst h;exact key _ (λF=>l7 F _) tq
def zn(g:Gf X T k cal)(h:(x==y&&glB X.env.scope x&&Dg T.gs x v&&am x)=true):PE X (.Name y pos) (tE X.K cal (.glob x v)):=by
 simp[il,JQ]at h;obtain⟨⟨⟨rfl,Y⟩,hs⟩,Z⟩:=h;obtain⟨p,U,J⟩:=K8.mp hs;simp[il,JQ]at J;obtain⟨rfl,hv⟩:=J;obtain⟨u,e1,r⟩:=g.gs p U;have e:p.2=v/\∀F,Rep X.K F v (toV v):=by
  revert hv;generalize p.2=z;intro hv;cases z<;>cases v<;>simp[De,JV,JQ]at hv
  .exact⟨rfl,λF=>qw F⟩
  .subst hv;exact⟨rfl,λF=>eN F _⟩
  .subst hv;exact⟨rfl,λF=>bE F _⟩
  .subst hv;exact⟨rfl,λF=>l7 F _⟩
 rw[e.1]at r;refine(Bf (dk Y) e1 r (g7 Z).1).imp λσ H Q hq=>?_
 obtain⟨B,E,O,W,w,st,he,q⟩:=hq;cases he;exact q _ H (aj.refl H) (.scal e.2)
end
section
variable{X:Cx}
noncomputable def R2M(K:Nl)(f:PV->PV->Option PV):R2:=λz J H Q =>
 ∃O x y v,(∀a∈O,H a≠none)/\bD K H O x z/\bD K H O y J/\f x y=some v/\∀u H',aj H H'->Rep K (aq H' O) v u->Q u H'
def kQ{g:Int->Int->Int}(h:OpR X (binaryOp op) (rI C λi j=>.int (g i j)))
  (z:∀x y v,f x y=some v->∃i j,x=.int i/\y=.int j/\C i j/\v=.int (g i j)):OpR X (binaryOp op) (R2M X.K f):=by
 intro pins s σ H ux uy v u Q I J U Y;refine aC λZq Z=>?_
 obtain⟨O,x,y,w,hO,r1,r2,e,q⟩:=Y;obtain⟨i,j,rfl,rfl,c,rfl⟩:=z x y w e;have e1:=r1.int;have e2:=r2.int;subst e1 e2;refine Z ?_;exact h pins s σ H _ _ v u Q I J U ⟨i,j,rfl,rfl,c,q _ H (aj.refl H) (bE _ _)⟩
def Cb:OpR X (binaryOp .Add) (λx y H Q=>∃l b xs zs,x=.ref l/\y=.ref b/\SqL X.K H l xs/\SqL X.K H b zs/\xs.length+zs.length<=sizeLine/\∀p,H p=none->Q (.ref p) (upd H p (.lst (xs++zs)))):=by
 intro pins s σ H x y v u Q I rx ry h;refine aC λZq kq=>?_
 obtain⟨l,b,xs,zs,rfl,rfl,hH,hB,hz,q⟩:=h;cases rx;cases ry;obtain⟨its,r,pl,_⟩:=I.list hH;obtain⟨z,r2,Z,_⟩:=I.list hB;have l1:=r.length;have l2:=r2.length;obtain⟨⟨cls,dd,data,sl⟩,ho,hc,n,hd⟩:=pl.isList;obtain⟨⟨a1,ao,data2,aO⟩,J,U,n2,Y⟩:=Z.isList;simp only at hc hd U Y;subst hc hd U Y;have e:its.toArray++z.toArray=(its++z).toArray:=by simp
 refine kq ?_;refine M4 ⟨_,ho,rfl⟩ ⟨_,J,rfl⟩ noFill_list_add seq_list_add PySem.F.slot_list_add PySem.F.entry_list_add (PySem.F.args_list_add_2 _ _) (list_addW l b its.toArray z.toArray n n2 dd ao sl aO (by rw[oe,oe];omega)) ⟨ho,J,?_⟩;rw[e];exact⟨.ref _,_,I.lnew (r.append r2) (by rw[wh];omega),rfl,q _ I.fresh⟩
def Cc:OpR X (binaryOp .Add) (λx y H Q=>∃a b ys,x=.ref a/\y=.ref b/\SqT X.K H a []/\SqT X.K H b ys/\Q (.ref b) H):=by
 intro pins s σ H x y v u Q I rx ry h;refine aC λZq kq=>?_
 obtain⟨a,b,ys,rfl,rfl,ha,hb,q⟩:=h;cases rx;cases ry;obtain⟨its,r1,⟨⟨c1,d1,t1,l1⟩,ho,hc,n,hd⟩,_⟩:=I.tuple ha;obtain⟨U,r2,⟨⟨c2,d2,t2,l2⟩,Y,Z,n2,ao⟩,_⟩:=I.tuple hb;cases hc;cases hd;cases Z;cases ao;have z:=r1.nil_iff.mpr rfl;have J:=tuple_addW0 a b its.toArray U.toArray n n2 d1 d2 l1 l2 (by simp[z]);refine kq ?_;exact M4 ⟨_,ho,rfl⟩ ⟨_,Y,rfl⟩ M5 seq_tuple_add PySem.F.slot_tuple_add PySem.F.entry_tuple_add (PySem.F.args_tuple_add_2 _ _) J ⟨ho,Y,.ref b,H,I,rfl,q⟩
def c8(h:jV f x y=some v):∃i j,x=.int i/\y=.int j/\f i j=some v:=by
 cases x<;>try (cases h;done)
 cases y<;>try (cases h;done)
 exact⟨_,_,rfl,rfl,h⟩
def j8{C:Int->Int->Prop} [∀i j,Decidable (C i j)] {g:Int->Int->Int}{x y v:PV} (h:jV (λi j=>if C i j then some (.int (g i j))else none) x y=some v):∃i j,x=.int i/\y=.int j/\C i j/\v=.int (g i j):=by
 obtain⟨i,j,z,J,U⟩:=c8 h
 simp_all
def ul(op):OpR X (binaryOp (uf op)) (R2M X.K (fm op)):=by
 cases op with
 |sub=>exact kQ (C:=λ_ _=>True) (g:=λi j=>i-j) (λpins s σ H x y v u Q I J U h=>DS pins s σ H x y v u Q I J U (by obtain⟨i,j,Y,Z,_,q⟩:=h;exact⟨i,j,Y,Z,q⟩)) (λx y v h=>by
   obtain⟨i,j,Y,Z,e3⟩:=c8 h;exact⟨i,j,Y,Z,trivial,(JP e3).symm⟩)
 |mul=>exact kQ DT λx y v h=>by have q:=j8 h;exact q
 |fdiv=>exact kQ Bl λx y v h=>by have q:=j8 h;exact q
 |mod=>exact kQ DU λx y v h=>by have q:=j8 h;exact q
 |pow=>exact kQ DV λx y v h=>by have q:=j8 h;exact q
 |shr=>exact kQ DW λx y v h=>by have q:=j8 h;exact q
 |add =>
  intro pins s σ H ux uy v u Q I J U hq;obtain⟨O,x,y,w,hO,r1,r2,e,q⟩:=hq;cases x<;>try (cases e;done)
  all_goals (cases y<;>simp only[fm,Dc]at e<;>try (cases e;done))
  .cases e;have Y:=r1.int;have Z:=r2.int;subst Y Z;exact DR pins s σ H _ _ v u Q I J U ⟨_,_,rfl,rfl,q _ H (aj.refl H) (bE _ _)⟩
  .split at e
   .rename_i c;cases e;have Y:=r1.str;have Z:=r2.str;subst Y Z;exact tH pins s σ H _ _ v u Q I J U ⟨_,_,rfl,rfl,r4 c (by decide),q _ H (aj.refl H) (l7 _ _)⟩
   .cases e
  .split at e
   .rename_i c;cases e;obtain⟨a,us,rfl,s1,t1⟩:=r1.tup;obtain⟨b,ws,rfl,s2,t2⟩:=r2.tup;have l1:=t1.length;have l2:=t2.length;have w1:=r1.tupR;have w2:=r2.tupR;by_cases z0:us=[]
    .subst z0;have z1:=Ma l1;subst z1;exact Cc pins s σ H _ _ v u Q I J U ⟨a,b,ws,rfl,rfl,s1,s2,q _ H (aj.refl H) w2⟩
    refine Bu pins s σ H _ _ v u Q I J U ⟨a,b,us,ws,rfl,rfl,s1,s2,z0,cy (by omega),λz=>?_,λz p hp=>?_⟩
    .rw[z,length_nil]at l2;have z1:=Ma l2;subst z1;rw[K0]at q;exact q _ H (aj.refl H) w1
    .exact q _ _ (aA hp _) (gz hO hp (t1.append t2))
   .cases e
  .split at e
   .rename_i c;cases e;obtain⟨a,us,rfl,s1,t1⟩:=r1.lst;obtain⟨b,ws,rfl,s2,t2⟩:=r2.lst;have l1:=t1.length;have l2:=t2.length;exact Cb pins s σ H _ _ v u Q I J U ⟨a,b,us,ws,rfl,rfl,s1,s2,cy (by omega),λp hp=>q _ _ (aA hp _) (m8 hO hp (t1.append t2))⟩
   .cases e
noncomputable def R2C(K:Nl)(f:PV->PV->Option Bool):R2:=λz J H Q =>
 ∃O x y b,bD K H O x z/\bD K H O y J/\f x y=some b/\Q (.bl b) H
def l8{g:Int->Int->Bool}(h:OpR X (compareOp op) (rI0 λi j=>.bl (g i j)))
  (z:∀x y v,f x y=some v->∃i j,x=.int i/\y=.int j/\v=g i j):OpR X (compareOp op) (R2C X.K f):=by
 intro pins s σ H ux uy v u Q I J U Y;refine aC λZq Z=>?_
 obtain⟨O,x,y,w,r1,r2,e,q⟩:=Y;obtain⟨i,j,rfl,rfl,rfl⟩:=z x y w e;have e1:=r1.int;have e2:=r2.int;subst e1 e2;refine Z ?_;exact h pins s σ H _ _ v u Q I J U ⟨i,j,rfl,rfl,q⟩
def ES:OpR X (compareOp .Is) (λx y H Q=>∃p q,x=.bl p/\y=.bl q/\Q (.bl (p==q)) H):=by
 rintro pins s σ H x y v u Q I z J ⟨p,q,rfl,rfl,U⟩;cases z;cases J;exact gf (ca I U (by cases p<;>cases q<;>rfl))
def wX:OpR X (compareOp .IsNot) (λx y H Q=>∃p q,x=.bl p/\y=.bl q/\Q (.bl (!(p==q))) H):=by
 rintro pins s σ H x y v u Q I z J ⟨p,q,rfl,rfl,U⟩;cases z;cases J;exact gf (ca I U (by cases p<;>cases q<;>rfl))
def vv{K:Nl}(r:bD K H O x u):decide (u=.non)=jk x:=by
 cases x with
 |non=>rw[r.non];rfl
 |bl b=>rw[r.bl];rfl
 |int b=>rw[r.int];rfl
 |str b=>rw[r.str];rfl
 |tup xs=>obtain⟨a,us,rfl,_⟩:=r.tup;rfl
 |lst xs=>obtain⟨a,us,rfl,_⟩:=r.lst;rfl
 |dI kvs=>obtain⟨a,rfl,_⟩:=r.dI;rfl
def zo(hu:X.A.units+200<cLine)(op):OpR X (compareOp (zd op)) (R2C X.K (cu op)):=by
 cases op with
 |lt=>exact l8 GN λx y v h=>by obtain⟨i,j,J,z,e3⟩:=c8 h;exact⟨i,j,J,z,(JP e3).symm⟩
 |le=>exact l8 GO λx y v h=>by obtain⟨i,j,J,z,e3⟩:=c8 h;exact⟨i,j,J,z,(JP e3).symm⟩
 |gt=>exact l8 GP λx y v h=>by obtain⟨i,j,J,z,e3⟩:=c8 h;exact⟨i,j,J,z,(JP e3).symm⟩
 |ge=>exact l8 GQ λx y v h=>by obtain⟨i,j,J,z,e3⟩:=c8 h;exact⟨i,j,J,z,(JP e3).symm⟩
 |eq =>
  intro pins s σ H ux uy v u Q I U Y hq;obtain⟨O,x,y,w,Z,r2,e,q⟩:=hq;exact EN (by omega) pins s σ H ux uy v u Q I U Y ⟨x,y,w,Z.whole,r2.whole,e,q⟩
 |ne =>
  intro pins s σ H ux uy v u Q I U Y hq;obtain⟨O,x,y,w,Z,r2,e,q⟩:=hq;simp only[cu]at e;split at e
  .rename_i c;simp only[mx]at e;obtain⟨b,e,rfl⟩:=e;exact EO (by omega) pins s σ H ux uy v u Q I U Y ⟨x,y,b,Z.whole,r2.whole,c,e,q⟩
  .cases e
 |isN =>
  intro pins s σ H ux uy v u Q I U Y hq;obtain⟨O,x,y,w,Z,r2,e,q⟩:=hq;cases y<;>try (cases e;done)
  .have z:=r2.non;subst z;refine DX pins s σ H ux _ v u Q I U Y ⟨rfl,?_⟩;have e:=e;rw[vv Z,JP e];exact q
  .cases x<;>try (cases e;done)
   have J:=Z.bl;have z:=r2.bl;subst J z;exact ES pins s σ H _ _ v u Q I U Y ⟨_,_,rfl,rfl,by rw[JP e];exact q⟩
 |notN =>
  intro pins s σ H ux uy v u Q I U Y hq;obtain⟨O,x,y,w,Z,r2,e,q⟩:=hq;cases y<;>try (cases e;done)
  .have z:=r2.non;subst z;refine Bn pins s σ H ux _ v u Q I U Y ⟨rfl,?_⟩;have e:some (!jk x)=some w:=e;rw[vv Z,JP e];exact q
  .cases x<;>try (cases e;done)
   have J:=Z.bl;have z:=r2.bl;subst J z;cases e;exact wX pins s σ H _ _ v u Q I U Y ⟨_,_,rfl,rfl,q⟩
 |isIn =>
  intro pins s σ H ux uy v u Q I U Y hq;obtain⟨O,x,y,w,Z,r2,e,q⟩:=hq;simp only[cu,ez]at e;obtain⟨xs,J,z⟩:=e;obtain⟨a,us,rfl,s2,t2⟩:=r2.seq J;exact EQ (by omega) pins s σ H ux _ v u Q I U Y ⟨x,_,a,us,w,Z.whole,rfl,s2,Reps.mono (bQ H O) _ t2,z,q⟩
 |notIn =>
  intro pins s σ H ux uy v u Q I U Y hq;obtain⟨O,x,y,w,Z,r2,e,q⟩:=hq;simp only[cu,ez,mx]at e;obtain⟨b,⟨xs,J,z⟩,rfl⟩:=e;obtain⟨a,us,rfl,s2,t2⟩:=r2.seq J;exact wW (by omega) pins s σ H ux _ v u Q I U Y ⟨x,_,a,us,b,Z.whole,rfl,s2,Reps.mono (bQ H O) _ t2,z,q⟩
def r9(n)(i):place n i=ixN n i:=rfl
def ET:IxR X (R2M X.K gp):=by
 intro value slice pins s σ H ux uy v u Q I rx ry hq z;obtain⟨O,x,y,w,hO,r1,r2,e,q⟩:=hq;cases x<;>cases y<;>simp[gp]at e<;>try (cases e;done)
 .simp[ez]at e;obtain⟨j,Z,e2⟩:=e;obtain⟨a,us,rfl,s1,U⟩:=r1.tup;have e3:=r2.int;subst e3;obtain⟨Y,e4,J⟩:=U.get e2;refine yc value slice pins s σ H _ _ v u Q I rx ry (.inr (.inl ⟨a,us,_,Y,rfl,rfl,s1,?_,q Y H (aj.refl H) J⟩)) z;unfold atI;rw[<- U.length,<- r9,Z];exact e4
 .simp[ez]at e;obtain⟨j,Z,e2⟩:=e;obtain⟨a,us,rfl,s1,U⟩:=r1.lst;have e3:=r2.int;subst e3;obtain⟨Y,e4,J⟩:=U.get e2;refine yc value slice pins s σ H _ _ v u Q I rx ry (.inl ⟨a,us,_,Y,rfl,rfl,s1,?_,q Y H (aj.refl H) J⟩) z;unfold atI;rw[<- U.length,<- r9,Z];exact e4
def um(h:b8 b=true):uY b:=by
 intro o i;cases b<;>first|rfl|(simp[b8]at h)
def r_{K:Nl}(h:Reps K F xs us)(lo hi):Reps K F (cut xs lo hi) (wB us lo hi):=by
 have z:=h.length;have e:∀n d o,ig n d o=HT.sIx n d o:=λn d o=>by cases o<;>rfl
 unfold cut wB;rw[e,e,z];exact(h.drop _).take _
def EU:SlR X (λx lo hi H Q=>∃O v w,(∀a∈O,H a≠none)/\bD X.K H O v x/\jW v lo hi=some w/\∀u H',aj H H'->Rep X.K (aq H' O) w u->Q u H'):=by
 intro pins s σ H x v Z vu lo hi sl Q I rx hs pl pu hq;obtain⟨O,pv,w,hO,r1,e,q⟩:=hq;cases pv<;>simp only[jW]at e<;>try (cases e;done)
 .rename_i xs;cases e;obtain⟨a,us,rfl,Y,z⟩:=r1.tup;have e:∀n d o,ig n d o=HT.sIx n d o:=λn d o=>by cases o<;>rfl
  by_cases J:HT.sIx us.length 0 lo=0/\HT.sIx us.length us.length hi=us.length
  .refine BR pins s σ H _ v Z vu lo hi sl Q I rx hs pl pu ⟨a,us,rfl,Y,J.1,J.2,q _ _ (aj.refl H) ?_⟩;have:cut xs lo hi=xs:=by
    unfold cut;rw[e,e,z.length,J.1,J.2,drop_zero,<- z.length,Nat.sub_zero,take_length]
   rw[this];exact r1.tupR
  .exact DZ pins s σ H _ v Z vu lo hi sl Q I rx hs pl pu ⟨a,us,rfl,Y,J,λp U=>q _ _ (aA U _) (gz hO U (r_ z lo hi))⟩
 .cases e;obtain⟨a,us,rfl,Y,z⟩:=r1.lst;exact Bw pins s σ H _ v Z vu lo hi sl Q I rx hs pl pu ⟨a,us,rfl,Y,λp U=>q _ _ (aA U _) (m8 hO U (r_ z lo hi))⟩
end
theorem vz(x):∀l,yT x l=Srt.lN Srt.dg x l
 | []=>rfl
 |y::r=>by
  show(if y<x then y::yT x r else x::y::r)=(if Srt.dg.blt y x=true then y::Srt.lN Srt.dg x r else x::y::r);rw[vz x r];by_cases h:y<x
  .have e:Srt.dg.blt y x=true:=JS h;rw[if_pos h,if_pos e]
  .have e:Srt.dg.blt y x=false:=J0 h;rw[if_neg h,if_neg (by rw[e];exact mu)]
theorem dl:∀l,sortI l=Srt.sortI l
 | []=>rfl
 |x::r=>by
  show yT x (sortI r)=Srt.lN Srt.dg x (Srt.ie Srt.dg r);rw[dl r,vz];rfl
theorem m9:∀a b,lexLt a b=HT.lexLt a b
 | [],[]=>rfl
 | [],_::_=>rfl
 | _::_,[]=>rfl
 |x::xs,y::ys=>by
  rw[lexLt,HT.lexLt_cons,m9 xs ys]
theorem vA(x):∀l,yU x l=Srt.lN Srt.fh x l
 | []=>rfl
 |y::r=>by
  show(if lexLt y x=true then y::yU x r else x::y::r)=(if Srt.fh.blt y x=true then y::Srt.lN Srt.fh x r else x::y::r);rw[vA x r,m9]
  rfl
theorem j9:∀l,sortT l=Srt.sortT l
 | []=>rfl
 |x::r=>by
  show yU x (sortT r)=Srt.lN Srt.fh x (Srt.ie Srt.fh r);rw[j9 r,vA];rfl
theorem ph:∀l,dd l=St.dd l
 | []=>rfl
 |x::r=>by
  unfold dd St.dd;rw[ph r]
def Cd(ns):Srt.sortI (St.dd ns.reverse)=sortI (dd ns):=by
 rw[dl,ph];refine Srt.sortI_of_perm ?_;refine(KY (St.dd_nodup _) (St.dd_nodup _)).mpr λa=>?_
 rw[St.fU,St.fU,Nh]
def uo(ns):(St.dd ns.reverse).length=(dd ns).length:=by
 rw[ph];refine Perm.length_eq ((KY (St.dd_nodup _) (St.dd_nodup _)).mpr λa=>?_);rw[St.fU,St.fU,Nh]
section
variable{X:Cx}{T:Tab}{k:Nat}{cal:Cal}
def RBM(K:Nl)(f:List PV->Option PV):List V->Hp->VK->Prop:=λus H Q =>
 ∃O vs v,(∀a∈O,H a≠none)/\Paired (bD K H O) vs us/\f vs=some v/\∀u H',aj H H'->Rep K (aq H' O) v u->Q u H'
def p1{K:Nl}(h:Paired (bD K H O) [x] us):∃u,us=[u]/\bD K H O x u:=by
 cases h with
 |cons r t=>cases t;exact⟨_,rfl,r⟩
def p2{K:Nl}(h:Paired (bD K H O) [x,y] us):∃u w,us=[u,w]/\bD K H O x u/\bD K H O y w:=by
 cases h with
 |cons r t=>cases t with
  |cons z t'=>cases t';exact⟨_,_,rfl,r,z⟩
def cD(h:av f vs=some v)(z:kO f=some 1\/(dj f).isSome=true\/f=.sortedSet\/f=.lenSet\/f=.valuesOf):∃x,vs=[x]:=by
 cases vs with
 |nil=>cases f<;>simp[av,b7,lP,jb]at h
 |cons x r=>cases r<;>first|exact⟨x,rfl⟩|(cases f<;>simp[av,b7,jb,kO,dj]at h z)
def Hj:bo X (.builtin "len") (RBM X.K (av .len)):=by
 intro pins s σ H xs us Q I r h;obtain⟨O,vs,v,hO,rs,e,q⟩:=h;obtain⟨x,rfl⟩:=cD e (.inl rfl);obtain⟨u,rfl,U⟩:=p1 rs;cases x<;>simp[av,b7]at e<;>try (cases e;done)
 .cases e;obtain⟨a,J,rfl,Y,Z⟩:=U.tup;exact gU pins s σ H _ us Q I r ⟨a,J,rfl,.inr Y,by rw[<- Z.length];exact q _ H (aj.refl H) (bE _ _)⟩
 .cases e;obtain⟨a,J,rfl,Y,Z⟩:=U.lst;exact gU pins s σ H _ us Q I r ⟨a,J,rfl,.inl Y,by rw[<- Z.length];exact q _ H (aj.refl H) (bE _ _)⟩
 .rename_i d;cases d with
  |k kvs =>
   cases e;obtain⟨a,rfl,ha⟩:=U.dI;obtain⟨u,rfl,ru⟩:=dB r;cases ru;obtain⟨hz,hs,J,ao,dd⟩:=je I.hok (show Rd H a (.dK _)from ha.rd);have z:J.length=kvs.length:=by rw[<- ao.length];unfold gu;rw[nR]
   have hz:kvs.length<=sizeLine:=by unfold gu at hz;rw[nR]at hz;exact hz
   have hn:=kA;exact call_len_dict hs dd (by rw[z];omega) ⟨.int kvs.length,H,I.tok _,⟨s.toks+1,by rw[z]⟩,q _ H (aj.refl H) (bE _ _)⟩
  | _=>cases e
def vB:bo X (.type "tuple") (RBM X.K (av .tupleOf)):=by
 intro pins s σ H xs us Q I r h;refine aC λZq kq=>?_
 obtain⟨O,vs,v,hO,rs,e,q⟩:=h;obtain⟨x,rfl⟩:=cD e (.inl rfl);obtain⟨u,rfl,z⟩:=p1 rs;simp[av,b7,gY,mx]at e;obtain⟨ys,e,rfl⟩:=e;refine kq ?_;cases x<;>simp[bf]at e
 .subst e;obtain⟨a,J,rfl,U,Y⟩:=z.tup;refine jd pins s σ H _ us Q I r ⟨a,J,rfl,.inr ⟨U,q _ H (aj.refl H) ?_⟩⟩;exact z.tupR
 .subst e;obtain⟨a,J,rfl,U,Y⟩:=z.lst;exact jd pins s σ H _ us Q I r ⟨a,J,rfl,.inl ⟨U,λl Z=>q _ _ (aA Z _) (gz hO Z Y)⟩⟩
def RBF(K:Nl)(f:List PV->Option PV):List V->Hp->VK->Prop:=λus H Q =>
 ∃O vs xs,(∀a∈O,H a≠none)/\Paired (bD K H O) vs us/\f vs=some (.lst xs)/\∀l z,H l=none->Reps K (aq H O) xs z->Q (.ref l) (upd H l (.lst z))
def EV:bo X (.type "list") (RBF X.K (av .listOf)):=by
 intro pins s σ H xs us Q I r h;refine aC λZq J=>?_
 obtain⟨O,vs,v,hO,U,e,q⟩:=h;obtain⟨x,rfl⟩:=cD e (.inl rfl);obtain⟨u,rfl,Y⟩:=p1 U;simp[av,b7,gY,mx,PV.lst.injEq,exists_eq_right]at e;obtain⟨a,z,rfl,Z,t1⟩:=Y.seq e;refine J ?_;exact p_ pins s σ H _ us Q I r ⟨a,z,rfl,Z,λl hl=>q l z hl t1⟩
theorem pi{K:Nl} :∀{J}{us},Reps K F (J.map λt=>.tup (t.map .int)) us->t4 K F us J
 | [],_,h=>by rw[map_nil,Reps]at h;subst h;exact .nil
 |t::J,_,h=>by
  obtain⟨u,r,rfl,q,z⟩:=h;obtain⟨a,vs,e,U,Y⟩:=q;rw[Y.ints]at U;exact .cons ⟨a,e,eJ U⟩ (pi z)
theorem pj{K:Nl}(s:aj F F'):∀{us}{z},t4 K F us z->t4 K F' us z
 | _,_,.nil=>.nil
 | _,_,.cons ⟨a,J,U⟩ t=>.cons ⟨a,J,s.seqT U⟩ (pj s t)
theorem pk{K:Nl}(h:Reps K F xs us):∀(l:List Nat),(∀i∈l,i<us.length)->Reps K F (l.map λi=>xs.getD i .non) (l.map λi=>us.getD i .non)
 | [],_=>.nil
 |i::l,z=>by
  have hi:=z i (.head _);have hx:i<xs.length:=by rw[h.length];exact hi
  obtain⟨u,U,Y⟩:=h.get (JR hx);refine .cons ?_ (pk h l λj J=>z j (.tail _ J))
  simp_all
def zp (g:Gf X T k cal):bo X (.builtin "sorted") (RBF X.K (av .sorted)):=by
 intro pins s σ H xs us Q I r h;refine aC λZq kq=>?_
 obtain⟨O,vs,v,hO,rs,e,q⟩:=h;obtain⟨x,rfl⟩:=cD e (.inl rfl);obtain⟨u,rfl,rx⟩:=p1 rs;simp only[av,b7,lP,gY,jb,ez]at e;obtain⟨ys,e,J⟩:=e;obtain⟨a,ws,rfl,s1,U⟩:=rx.seq e;unfold iC at J;refine kq ?_;split at J
 .rename_i z;split at J
  .rename_i ns hn;cases J;have:=di hn;subst this;have Z:=U.ints;subst Z;rw[nR]at z;refine jT g.calm pins s σ H _ us Q I r ⟨a,ns,rfl,s1.imp id .inl,z,λl hl=>?_⟩;rw[<- dl];exact q l _ hl (.of_ints _)
  .simp only[mx,PV.lst.injEq]at J;obtain⟨Y,Z,rfl⟩:=J;have:=rQ Z;subst this;rw[nR]at z;refine qi (by have:=g.units;omega) pins s σ H _ us Q I r ⟨a,ws,Y,rfl,s1,pj (bQ H O) (pi U),z,λl pm hl hp e=>q l _ hl ?_⟩;have q2:=pk U pm hp;have e4:(pm.map λi=>(Y.map λt=>PV.tup (t.map .int)).getD i .non)=(sortT Y).map λt=>.tup (t.map .int):=by
    rw[j9,<- e,JT];refine KU λi hi=>?_
    have aO:i<Y.length:=by have:=hp i hi;rw[<- U.length,nR]at this;exact this
    simp[aO]
   rw[e4]at q2;exact q2
 .cases J
def Hk:bo X (.type "int") (RBM X.K (av .intOf)):=by
 intro pins s σ H xs us Q I r h;refine aC λY J=>?_
 obtain⟨O,vs,v,Z,U,e,q⟩:=h;obtain⟨x,rfl⟩:=cD e (.inl rfl);obtain⟨u,rfl,z⟩:=p1 U;refine J ?_;cases x<;>simp[av,b7,gY]at e<;>try (cases e;done)
 .cases e;have:=z.bl;subst this;exact oP pins s σ H _ us Q I r (.inr ⟨_,rfl,q _ H (aj.refl H) (bE _ _)⟩)
 .cases e;have:=z.int;subst this;exact oP pins s σ H _ us Q I r (.inl ⟨_,rfl,q _ H (aj.refl H) (bE _ _)⟩)
def zq{f:PV->PV->Option PV}{vs:List PV}{v:PV}(h:lP vs f=some v):∃x y,vs=[x,y]/\f x y=some v:=by
 match vs,h with
 | [x,y],h=>exact⟨x,y,rfl,h⟩
def EW (hc:X.calm=true):bo X (.builtin "max") (RBM X.K (av .max2)):=by
 intro pins s σ H xs us Q I r h;obtain⟨O,vs,v,hO,z,e,q⟩:=h;obtain⟨x,y,rfl,e⟩:=zq e;obtain⟨i,j,rfl,rfl,e⟩:=c8 e;cases e;obtain⟨u,w',rfl,J,U⟩:=p2 z;have Y:=J.int;have Z:=U.int;subst Y Z;exact ww hc pins s σ H _ us Q I r ⟨_,_,rfl,q _ H (aj.refl H) (bE _ _)⟩
def EX (hc:X.calm=true):bo X (.builtin "min") (RBM X.K (av .min2)):=by
 intro pins s σ H xs us Q I r h;obtain⟨O,vs,v,hO,z,e,q⟩:=h;obtain⟨x,y,rfl,e⟩:=zq e;obtain⟨i,j,rfl,rfl,e⟩:=c8 e;cases e;obtain⟨u,w',rfl,J,U⟩:=p2 z;have Y:=J.int;have Z:=U.int;subst Y Z;exact wz hc pins s σ H _ us Q I r ⟨_,_,rfl,q _ H (aj.refl H) (bE _ _)⟩
def j_(h:gY x=some ys):x=.lst ys:=by
 cases x<;>cases h
 rfl
def EY (J:dj b=some c):bo X (.builtin "isinstance") (λus H Q=>∃O v u,us=[u,.ty c]/\isD v=false/\bD X.K H O v u/\Q (.bl (isT b v)) H):=by
 intro pins s σ H xs us Q I r h;obtain⟨O,v,x,rfl,nd,U,q⟩:=h;obtain⟨u,t,rfl,Y,rc⟩:=xV r;have Z:=rc;subst Z;have fin:∀z tk,z=isT b v->EP X pins σ Q (.bool z) { s with toks:=tk }:=λz tk e=>⟨.bl z,H,I.tok tk,rfl,by rw[e];exact q⟩
 cases v with
 |dI _=>cases nd
 |non =>
  have e:=U.non;subst e;cases (show u=Value.none from Y);cases b<;>simp only[dj,pd,reduceCtorEq]at J<;>subst J <;>
   exact PySem.W.kia_one PySem.W.kitx_none I.kIn True.intro (b:=false) (by first|rfl|kernel_rfl|decide) (λz=>nomatch z) λtk=>fin _ tk rfl
 |bl y =>
  have e:=U.bl;subst e;cases (show u=Value.bool y from Y);cases b<;>simp only[dj,pd,reduceCtorEq]at J<;>subst J<;>first
   |exact PySem.W.kia_one PySem.W.kitx_bool I.kIn True.intro (b:=true) (by first|rfl|kernel_rfl|decide) (λz=>nomatch z) λtk=>fin _ tk rfl
   |exact PySem.W.kia_one PySem.W.kitx_bool I.kIn True.intro (b:=false) (by first|rfl|kernel_rfl|decide) (λz=>nomatch z) λtk=>fin _ tk rfl
 |int y =>
  have e:=U.int;subst e;obtain⟨t,z⟩:=(show ∃t,u=Value.int y t from Y);cases z;cases b<;>simp only[dj,pd,reduceCtorEq]at J<;>subst J<;>first
   |exact PySem.W.kia_one PySem.W.kitx_int I.kIn True.intro (b:=true) (by first|rfl|kernel_rfl|decide) (λz=>nomatch z) λtk=>fin _ tk rfl
   |exact PySem.W.kia_one PySem.W.kitx_int I.kIn True.intro (b:=false) (by first|rfl|kernel_rfl|decide) (λz=>nomatch z) λtk=>fin _ tk rfl
 |str y =>
  have e:=U.str;subst e;obtain⟨t,z⟩:=(show ∃t,u=Value.str y t from Y);cases z;cases b<;>simp only[dj,pd,reduceCtorEq]at J<;>subst J<;>first
   |exact PySem.W.kia_one PySem.W.kitx_str I.kIn True.intro (b:=true) (by first|rfl|kernel_rfl|decide) (λz=>nomatch z) λtk=>fin _ tk rfl
   |exact PySem.W.kia_one PySem.W.kitx_str I.kIn True.intro (b:=false) (by first|rfl|kernel_rfl|decide) (λz=>nomatch z) λtk=>fin _ tk rfl
 |lst ys =>
  obtain⟨a,us,rfl,s1,t1⟩:=U.lst;cases (show u=Value.ref a from Y);obtain⟨its,_,p,_⟩:=I.list s1;obtain⟨o,h1,h2,_⟩:=p.isList;cases b<;>simp only[dj,pd,reduceCtorEq]at J<;>subst J<;>first
   |exact PySem.W.kia_one PySem.W.kitx_list I.kIn ⟨o,h1,h2⟩ (b:=true) (by first|rfl|kernel_rfl|decide) (λz=>nomatch z) λtk=>fin _ tk rfl
   |exact PySem.W.kia_one PySem.W.kitx_list I.kIn ⟨o,h1,h2⟩ (b:=false) (by first|rfl|kernel_rfl|decide) (λz=>nomatch z) λtk=>fin _ tk rfl
 |tup ys =>
  obtain⟨a,us,rfl,s1,t1⟩:=U.tup;cases (show u=Value.ref a from Y);obtain⟨its,_,p,_⟩:=I.tuple s1;obtain⟨o,h1,h2,_⟩:=p;cases b<;>simp only[dj,pd,reduceCtorEq]at J<;>subst J<;>first
   |exact PySem.W.kia_one PySem.W.kitx_tuple I.kIn ⟨o,h1,h2⟩ (b:=true) (by first|rfl|kernel_rfl|decide) (λz=>nomatch z) λtk=>fin _ tk rfl
   |exact PySem.W.kia_one PySem.W.kitx_tuple I.kIn ⟨o,h1,h2⟩ (b:=false) (by first|rfl|kernel_rfl|decide) (λz=>nomatch z) λtk=>fin _ tk rfl
theorem jB{K:Nl} :∀{bs:List Bool}{us}{its},Reps K F (bs.map .bl) us->aG us its->its=bs.map Value.bool
 | [],_,_,h,w=>by rw[map_nil,Reps]at h;subst h;cases w;rfl
 |b::bs,_,_,h,w=>by
  obtain⟨u,r,rfl,q,t⟩:=h;subst q;cases w with
  |cons z J =>
   cases z;rw[jB t J];rfl
def wY(bs:List Bool):(range bs.length).all (λi=>bs.getD i false)=bs.all id:=by
 conv=>rhs;rw[<- Srt.iV bs false]
 rw[Mp]
 rfl
def wZ(bs:List Bool):(range bs.length).any (λi=>bs.getD i false)=bs.any id:=by
 conv=>rhs;rw[<- Srt.iV bs false]
 rw[List.any_map]
 rfl
def lv(bs:List Bool):TruthOf P w A (λi v=>(bs.map Value.bool).toArray[i]?=some v) (λi=>bs.getD i false):=by
 intro i v s Q E h q;simp only[getElem?_toArray,JZ,mx]at h;obtain⟨b,e,rfl⟩:=h;have:bs.getD i false=b:=by rw[Kt,e];rfl
 have z:Q (bs.getD i false) s:=q;rw[this]at z;exact KP z
def Hl (hc:X.calm=true):bo X (.builtin "any") (RBM X.K (av .any)):=by
 intro pins s σ H xs us Q I r h;refine aC λZq U=>?_
 obtain⟨O,vs,v,hO,Y,e,q⟩:=h;obtain⟨x,rfl⟩:=cD e (.inl rfl);obtain⟨u,rfl,Z⟩:=p1 Y;simp[av,b7,ez,mx]at e;obtain⟨ys,e0,bs,e,rfl⟩:=e;obtain rfl:=j_ e0;have:=kM e;subst this;obtain⟨a,ws,rfl,s1,t1⟩:=Z.lst;obtain⟨u,rfl,ru⟩:=dB r;cases ru;obtain⟨its,r',z,hz⟩:=I.list s1;have:=jB t1 r';subst this;have J:a<s.heap.objs.size:=by obtain⟨o,ho,_⟩:=z.isList;exact pb ho
 refine U ?_;refine call_any_walk (LC z.isList ?_);refine⟨s.heap.objs.size,_,_,_,_,_,λi=>bs.getD i false,rfl,Walks.list (by first|exact I.ok.hd hc|simpa using I.ok.hd hc) s.heap.objs.size a (tr J) (bs.map Value.bool).toArray,⟨⟨_,pe _ rfl,rfl,rfl⟩,z.isList.push _⟩,lv bs,λh' tk hk=>?_⟩;have e2:(range (bs.map Value.bool).toArray.size).any (λi=>bs.getD i false)=bs.any id:=by
  rw[oe,nR];exact wZ bs
 rw[e2];refine⟨.bl _,H,?_,rfl,q _ H (aj.refl H) (eN _ _)⟩;refine I.kept λb o e=>hk b o ?_ (gk _ e)
 intro hm;have hb:=pb e
 simp_all
def Hm (hc:X.calm=true):bo X (.builtin "all") (RBM X.K (av .all)):=by
 intro pins s σ H xs us Q I r h;refine aC λZq U=>?_
 obtain⟨O,vs,v,hO,Y,e,q⟩:=h;obtain⟨x,rfl⟩:=cD e (.inl rfl);obtain⟨u,rfl,Z⟩:=p1 Y;simp only[av,b7,ez,mx]at e;obtain⟨ys,e0,bs,e,rfl⟩:=e;obtain rfl:=j_ e0;have:=kM e;subst this;obtain⟨a,ws,rfl,s1,t1⟩:=Z.lst;obtain⟨u,rfl,ru⟩:=dB r;cases ru;obtain⟨its,r',z,hz⟩:=I.list s1;have:=jB t1 r';subst this;have J:a<s.heap.objs.size:=by obtain⟨o,ho,_⟩:=z.isList;exact pb ho
 refine U ?_;refine call_all_walk (LC z.isList ?_);refine⟨s.heap.objs.size,_,_,_,_,_,λi=>bs.getD i false,rfl,Walks.list (by first|exact I.ok.hd hc|simpa using I.ok.hd hc) s.heap.objs.size a (tr J) (bs.map Value.bool).toArray,⟨⟨_,pe _ rfl,rfl,rfl⟩,z.isList.push _⟩,lv bs,λh' tk hk=>?_⟩;have e2:(range (bs.map Value.bool).toArray.size).all (λi=>bs.getD i false)=bs.all id:=by
  rw[oe,nR];exact wY bs
 rw[e2];refine⟨.bl _,H,?_,rfl,q _ H (aj.refl H) (eN _ _)⟩;refine I.kept (t':=tk) λb o e=>hk b o ?_ (gk _ e)
 intro hm;have hb:=pb e
 simp_all
theorem lw(ns:List Int):∀k,k<=ns.length->preSum (λi=>ns.getD i 0) k=(ns.take k).sum
 |0,_=>by simp[preSum]
 |k+1,h=>by
  have e:ns.take (k+1)=ns.take k++[ns.getD k 0]:=by
   rw[take_succ,Kt,JR (by omega)]
   rfl
  rw[preSum,lw ns k (by omega),e,sum_append];simp
def Hn (hc:X.calm=true):bo X (.builtin "sum") (RBM X.K (av .sum)):=by
 intro pins s σ H xs us Q I r h;obtain⟨O,vs,v,hO,rs,e,q⟩:=h;obtain⟨x,rfl⟩:=cD e (.inl rfl)
 .refine aC λZq kq=>?_
  simp only[av,b7,ez,mx]at e;obtain⟨ys,e9,ns,e0,rfl⟩:=e;obtain rfl:=j_ e9;have:=di e0;subst this;obtain⟨u,rfl,rx⟩:=p1 rs;obtain⟨a,ws,rfl,s1,t1⟩:=rx.lst;have:=t1.ints;subst this;obtain⟨u,rfl,ru⟩:=dB r;cases ru;obtain⟨its,r',Y,hz⟩:=I.list s1;have ia:=cq r';have hl:=r'.length;rw[nR]at hl;have J:a<s.heap.objs.size:=by obtain⟨o,ho,_⟩:=Y.isList;exact pb ho
  have hh:X.A.in1.handled=none:=by simpa using I.ok.hd hc
  refine kq ?_;refine call_sum_walkAnyS (LC Y.isList ⟨s.heap.objs.size,_,_,_,_,_,_,λi=>ns.getD i 0,rfl,(Walks.list hh s.heap.objs.size a (tr J) its.toArray).toS,⟨⟨_,pe _ rfl,rfl,rfl⟩,Y.isList.push _⟩,λb hb=>?_,λi v hv=>St.jP (items:=its.toArray) (by simpa using ia) i v hv,λs' t' U=>?_⟩)
  .simp only[tf,Lb,LV]at hb;rw[J4];rcases hb with rfl|rfl
   .simp_all
   .exact J9 J
  .obtain⟨h',g',d',tk,Z⟩:=s';have e1:g'=s.gens:=U.gens;have e2:d'=s.drawn:=U.drawn;have e3:Z=s.os:=U.os;subst e1 e2 e3;rw[oe,<- hl,lw ns ns.length (gx _),take_length];refine⟨.int ns.sum,H,I.kept (t':=tk) λb o eb=>U.heap b o (λz=>?_) (gk _ eb),⟨_,rfl⟩,q _ H (aj.refl H) (bE _ _)⟩;rw[JY.mp z]at eb;exact absurd (pb eb) (Kf _)
def iY:∀{ns}{m},ua ns=some m->m∈ns/\∀x∈ns,x<=m
 |n::ns,m,h=>by
  have gen:∀l (a:Int),(l.foldl (λa b=>if a<b then b else a) a∈a::l)/\a<=l.foldl (λa b=>if a<b then b else a) a/\∀x∈l,x<=l.foldl (λa b=>if a<b then b else a) a:=by
   intro l
   induction l with
   |nil=>intro a;exact⟨.head _,L0 _,λx hx=>by cases hx⟩
   |cons b l ih =>
    intro a;obtain⟨h1,h2,z⟩:=ih (if a<b then b else a);rw[foldl_cons];refine⟨?_,?_,λx hx=>?_⟩
    .rcases tf.mp h1 with e|e
     .rw[e];split
      .exact .tail _ (.head _)
      .exact .head _
     .exact .tail _ (.tail _ e)
    .exact Lg (by split<;>omega) h2
    .rcases tf.mp hx with rfl|hx
     .exact Lg (by split<;>omega) h2
     .exact z x hx
  obtain⟨h1,h2,z⟩:=gen ns n;cases h;exact⟨h1,λx hx=>by
   rcases tf.mp hx with rfl|hx
   .exact h2
   .exact z x hx⟩
def EZ (hc:X.calm=true):bo X (.builtin "max") (RBM X.K (av .max1)):=by
 intro pins s σ H xs us Q I r h;refine aC λZq kq=>?_
 obtain⟨O,vs,v,hO,rs,e,q⟩:=h;obtain⟨x,rfl⟩:=cD e (.inl rfl);simp only[av,b7,ez,mx]at e;obtain⟨ys,e9,ns,e0,m,em,rfl⟩:=e;obtain rfl:=j_ e9;have:=di e0;subst this;obtain⟨u,rfl,rx⟩:=p1 rs;obtain⟨a,ws,rfl,s1,t1⟩:=rx.lst;have:=t1.ints;subst this;obtain⟨u,rfl,ru⟩:=dB r;cases ru;obtain⟨its,Z,pl,hz⟩:=I.list s1;have ia:=cq Z;have hl:=Z.length;rw[nR]at hl;obtain⟨J,b3⟩:=iY em;have aO:=Me.mpr (ne_nil_of_mem J);obtain⟨zs,U⟩:=ia.allInts.items;have b4:zs.size=ns.length:=by
  have:=J5 Array.size U;simp[intItems]at this;omega
 have num:∀i,i<ns.length->numAt zs i=ns.getD i 0:=λi hi=>by
  have h1:(intItems zs)[i]?=some (.int (zs[i]'(by omega)).1 (zs[i]'(by omega)).2):=by simp[intItems,show i<zs.size by omega]
  obtain⟨t,e1⟩:=intItems_at h1;obtain⟨t',e2⟩:=St.jP (items:=its.toArray) (by simpa using ia) i _ (by rw[U];exact h1)
  simp_all
 have z:s.heap.IsList a (intItems zs):=by rw[<- U];exact pl.isList
 refine kq ?_;refine max_intList (I.ok.hd hc) z (by omega) λv h' tk hv hk=>?_
 obtain⟨t,rfl⟩:=intItems_at hv;obtain⟨b1,b2⟩:=argBest_gt (numAt zs) (zs.size-1);generalize argBest (λi j=>decide (numAt zs i > numAt zs j)) (zs.size-1)=k at b1 b2;have Y:k<ns.length:=by omega
 have e1:numAt zs k=m:=by
  refine Nd ?_ ?_
  .rw[num k Y]
   simp_all
  .obtain⟨j,hj,rfl⟩:=MI J;have:=b2 j (by omega);rw[num j hj,Kt,JR hj]at this;exact this
 rw[e1];exact⟨.int m,H,I.kept (t':=tk) hk,⟨_,rfl⟩,q _ H (aj.refl H) (bE _ _)⟩
def po:∀{ns:List Int}{m:Int},BT ns=some m->m∈ns/\∀x∈ns,m<=x
 |n::ns,m,h=>by
  have gen:∀(l:List Int) (a:Int),(l.foldl (λa b=>if b<a then b else a) a∈a::l)/\l.foldl (λa b=>if b<a then b else a) a<=a/\∀x∈l,l.foldl (λa b=>if b<a then b else a) a<=x:=by
   intro l
   induction l with
   |nil=>intro a;exact⟨.head _,L0 _,λx hx=>by cases hx⟩
   |cons b l ih =>
    intro a;obtain⟨h1,h2,z⟩:=ih (if b<a then b else a);rw[foldl_cons];refine⟨?_,?_,λx hx=>?_⟩
    .rcases tf.mp h1 with e|e
     .rw[e];split
      .exact .tail _ (.head _)
      .exact .head _
     .exact .tail _ (.tail _ e)
    .exact Lg h2 (by split<;>omega)
    .rcases tf.mp hx with rfl|hx
     .exact Lg h2 (by split<;>omega)
     .exact z x hx
  obtain⟨h1,h2,z⟩:=gen ns n;cases h;exact⟨h1,λx hx=>by
   rcases tf.mp hx with rfl|hx
   .exact h2
   .exact z x hx⟩
def E1 (hc:X.calm=true):bo X (.builtin "min") (RBM X.K (av .min1)):=by
 intro pins s σ H xs us Q I r h;obtain⟨O,vs,v,hO,rs,e,q⟩:=h;obtain⟨x,rfl⟩:=cD e (.inl rfl);simp only[av,b7,ez,mx]at e;obtain⟨ys,e9,ns,e0,m,em,rfl⟩:=e;obtain rfl:=j_ e9;have:=di e0;subst this;obtain⟨u,rfl,rx⟩:=p1 rs;obtain⟨a,ws,rfl,s1,t1⟩:=rx.lst;have:=t1.ints;subst this;obtain⟨u,rfl,ru⟩:=dB r;cases ru;obtain⟨its,r',pl,hz⟩:=I.list s1;have ia:IntsAre its ns:=cq r';have hl:=r'.length;rw[nR]at hl;obtain⟨U,Y⟩:=po em;have a1:0<ns.length:=Me.mpr (ne_nil_of_mem U);obtain⟨zs,Z⟩:=ia.allInts.items;have b4:zs.size=ns.length:=by
  have:=J5 Array.size Z;simp[intItems]at this;omega
 have num:∀i,i<ns.length->numAt zs i=ns.getD i 0:=λi hi=>by
  have h1:(intItems zs)[i]?=some (.int (zs[i]'(by omega)).1 (zs[i]'(by omega)).2):=by simp[intItems,show i<zs.size by omega]
  obtain⟨t,e1⟩:=intItems_at h1;obtain⟨t',e2⟩:=St.jP (items:=its.toArray) (by simpa using ia) i _ (by rw[Z];exact h1);rw[e1]at e2;exact(Value.int.inj e2).1
 have z:s.heap.IsList a (intItems zs):=by rw[<- Z];exact pl.isList
 refine min_intList (I.ok.hd hc) z (by omega) λv h' tk hv hk=>?_
 obtain⟨t,rfl⟩:=intItems_at hv;obtain⟨b1,b2⟩:=argBest_lt (numAt zs) (zs.size-1);generalize argBest (λi j=>decide (numAt zs i<numAt zs j)) (zs.size-1)=k at b1 b2;have J:k<ns.length:=by omega
 have e1:numAt zs k=m:=by
  refine Nd ?_ ?_
  rotate_left
  .rw[num k J];exact Y _ (by rw[Kt,JR J];exact ML J)
  .obtain⟨j,hj,rfl⟩:=MI U;have:=b2 j (by omega);rw[num j hj,Kt,JR hj]at this;exact this
 rw[e1];exact⟨.int m,H,I.kept (t':=tk) hk,⟨_,rfl⟩,q _ H (aj.refl H) (bE _ _)⟩
def vC (hc:X.calm=true):bo X (.type "set") (λus H Q=>∃O v u ns,us=[u]/\bD X.K H O v u/\((bf v).bind a_)=some ns/\ns.length<=4000/\∀l,H l=none->Q (.ref l) (upd H l (ji X.prog X.w l (St.dd ns.reverse)))):=by
 intro pins s σ H xs us Q I r h;obtain⟨O,v,u,ns,rfl,J,e,z,q⟩:=h;simp only[ez]at e;obtain⟨ys,U,Y⟩:=e;obtain⟨a,ws,rfl,Z,t1⟩:=J.seq U;have:=di Y;subst this;have e3:=t1.ints;subst e3;exact yE hc pins s σ H _ us Q I r ⟨a,ns,rfl,Z,z,λl hl=>q l hl⟩
def sa (hc:X.calm=true):bo X (.builtin "sorted") (λus H Q=>∃l ks,us=[.ref l]/\H l=some (ji X.prog X.w l ks)/\ks.length<64/\∀p,H p=none->Q (.ref p) (upd H p (.lst ((Srt.sortI ks).map V.int)))):=by
 intro pins s σ H xs us Q I r h;obtain⟨l,ks,rfl,e,z,q⟩:=h;exact jT hc pins s σ H _ us Q I r ⟨l,ks,rfl,.inr (.inr e),z,q⟩
end
end MM
namespace L2
open PySem PySem.Spec PyProof.Rows List Option
def Inv.turned2(I:Inv X pins σ H s)(he:s.heap.get? e=some J)(hf:J.isFreed=false)(Z:∃o,h'.get? e=some o)
  (k:∀b o,b≠e->b≠it->s.heap.get? b=some o->h'.get? b=some o) (fe:kz X pins H e) (fi:kz X pins H it):Inv X pins σ H { s with heap:=h',toks:=t' }:=by
 obtain⟨o',ao⟩:=Z;obtain⟨a0,a1,a2,a3,a4,a5⟩:=fe;obtain⟨b0,b1,b2,b3,b4,b5⟩:=fi;have aO:(h'.update e λ_=>J).get? e=some J:=Ki _ ao hf;have U:∀b,b≠e->(h'.update e λ_=>J).get? b=h'.get? b:=λb Y=>(J8 h' e _).2 b Y
 have I1:Inv X pins σ H { s with heap:=h'.update e λ_=>J,toks:=t' }:=I.turned (it:=it) (λb o Y q=>by
  by_cases z:b=e
  .subst z;rw[aO,<- he];exact q
  .rw[U b z];exact k b o z Y q) b0 b1 b3 b4 b5
 exact Inv.turned (s:={ s with heap:=h'.update e λ_=>J,toks:=t' }) (it:=e) I1 (λb o Y q=>by
  have q:=q;rw[U b Y]at q;exact q) a0 a1 a3 a4 a5
noncomputable def Ite(q:Hp->List V->Prop):It:=
 ⟨λi H=>∃xs,q H xs/\i<xs.length,λi H x H'=>∃p,x=.ref p/\H p=none/\∃u,H'=upd H p (.tup [.int i,u])/\∀xs,q H xs->xs[i]?=some u,λi H=>∃xs,q H xs/\i=xs.length⟩
structure Src(P:Program)(w:World)(K:Nl)(a it:Addr)(q:Hp->List V->Prop)(r:Nat->Heap->Prop):Prop where
 ne:a≠it
 keep:∀i h h',r i h->(∀o,h.get? it=some o->h'.get? it=some o)->r i h'
 live:∀i h,r i h->∃o,h.get? it=some o/\∀v,o.data≠.cell v
 one:∀(X:Cx),X.K=K->∀(pins:List (Addr×Obj)) (s:Shared) (σ:St) (H:Hp) (xs ys:List V),Inv X pins σ H s->q H xs->q H ys->xs=ys
 row:∀(X:Cx),X.prog=P->X.w=w->X.K=K->∀(pins:List (Addr×Obj)) (s:Shared) (σ:St) (H:Hp) (xs:List V),Inv X pins σ H s->q H xs->∃(its:List Value),aG xs its/\∀(A:Around),A.handled=none ->
  ∃St:Nat->Heap->Prop,Draws P w A it [it,a] its.length (λi v=>its[i]?=some v) St/\(∀i,r i s.heap->St i s.heap)/\∀i h,St i h->r i h
def zr{K:Nl}(S:Src P w K a it q r)(ao:e≠it)(a9:e≠a) :
  tu P w K (.Tuple ts j tp) (Ite q) [e,it] e (λi h=>(∃old,IsEnum h e it (i:Nat) old)/\r i h) where
 mem:=.head _
 obj:=λi h st b J=>by
  obtain⟨⟨old,U⟩,Y⟩:=st;rcases tf.mp J with rfl|J
  .exact⟨_,U,λv z=>by cases z⟩
  .have z:b=it:=by simpa using J
   subst z;exact S.live i h Y
 keep:=λi h h' ⟨⟨old,U⟩,Y⟩ k=>⟨⟨old,k e (.head _) _ U⟩,S.keep i h h' Y (k it (.tail _ (.head _)))⟩
 item:=by
  intro X hP hw hK hc i pins s σ H E I hf st hg;obtain⟨⟨old,U⟩,Y⟩:=st;obtain⟨xs,hq,hi⟩:=hg;obtain⟨its,rv,dr⟩:=S.row X hP hw hK pins s σ H xs I hq;have hh:=I.ok.hd hc;obtain⟨St,D,Z,aO⟩:=dr X.A.in1 (by simpa using hh);have hl:=rv.length;have fe:=hf e (.head _);have fi:=hf it (.tail _ (.head _));refine wpAny_pyNext_enum_itemD D U (Z i Y) (by omega) ao (by simp only[tf,Lb,LV,not_or];exact⟨ao,a9⟩) λx h' tk px eo b2 tup sz kp=>?_
  refine⟨_,rfl,wpAny_letOwnedTupleGo_enum eo λh2 a0 a1=>?_⟩;have hx:=hi;obtain⟨u,hu,ru⟩:=rv.get (JR hx);have ex:x=u:=by
   have:=px.symm.trans hu;simpa using this
  subst ex;have fresh:=I.hok.fresh (gx _);have ne:∀b o,s.heap.get? b=some o->b≠s.heap.objs.size:=λb o q z=>Kf _ (by have:=pb q;rw[z]at this;exact this)
  have en:=ne _ _ U;obtain⟨oi,b3,_⟩:=S.live i _ Y;have a2:=ne _ _ b3;have I1:Inv X pins σ (upd H s.heap.objs.size (.tup [.int i,xs[i]])) { s with heap:=s.heap.push { cls:=.type "tuple",data:=.seq #[.int i tk,x] } }:=
   I.laid (t':=s.toks) (λb o q=>gk _ q) (gx _) ⟨by show 2<=sizeLine;decide,_,.cons ⟨_,rfl⟩ (.cons ru .nil),IsTup.new _ _⟩
  have up:∀b,b≠s.heap.objs.size->kz X pins H b->kz X pins (upd H s.heap.objs.size (.tup [.int i,xs[i]])) b:=λb J ⟨z,r⟩=>⟨by rw[aW J];exact z,r⟩
  have I2:=I1.turned2 (h':=h2) (t':=tk+1) (e:=e) (it:=it) (gk _ U) rfl ⟨_,a0⟩ (λb o a3 b4 q=>?_) (up e en fe) (up it a2 fi)
  .refine⟨.ref s.heap.objs.size,_,I2,rfl,⟨_,rfl,fresh,_,rfl,λys hy=>?_⟩,⟨⟨_,by simpa using a0⟩,?_⟩,λb J=>?_⟩
   .rw[S.one X hK pins s σ H ys xs I hy hq];exact JR hx
   .refine aO _ _ (D.frame _ _ _ b2 λb J o q=>?_);rw[a1.2 b λz=>?_]
    .exact q
    .simp_all
   .rcases tf.mp J with rfl|J
    .exact(up b en fe).1
    .have z:b=it:=by simpa using J
     subst z;exact(up b a2 fi).1
  .rw[a1.2 b a3];rcases Heap.get?_push_cases q with⟨rfl,rfl⟩|q
   .exact tup
   .exact kp b o a3 b4 q
 done:=by
  intro X hP hw hK hc i pins s σ H E I hf st hg;obtain⟨⟨old,U⟩,Y⟩:=st;obtain⟨xs,hq,hi⟩:=hg;obtain⟨its,rv,dr⟩:=S.row X hP hw hK pins s σ H xs I hq;have hh:=I.ok.hd hc;obtain⟨St,D,Z,aO⟩:=dr X.A.in1 (by simpa using hh);have hl:=rv.length;obtain⟨f0,f1,f2,f3,f4,f5⟩:=hf it (.tail _ (.head _));have e:i=its.length:=by omega
  subst e;exact wpAny_pyNext_enum_endD D U (Z _ Y) λh' eb=>⟨rfl,I.turned (t':=s.toks) (λb o J q=>eb b o J q) f0 f1 f3 f4 f5⟩
 self:=λ_ i s Q E ⟨⟨old,U⟩,_⟩ h=>wpAny_pyIter_enum U h
def zt{K:Nl}(ne:a≠it):Src P w K a it (λH xs=>SqL K H a xs) (λi h=>h.IsListIter it a i) where
 ne:=ne
 keep:=λi h h' ⟨o,ho,r⟩ k=>⟨o,k o ho,r⟩
 live:=λi h ⟨o,ho,_,hd⟩=>⟨o,ho,λv z=>by rw[hd]at z;cases z⟩
 one:=λX J pins s σ H xs ys I h h'=>by subst J;exact I.list_inj h h'
 row:=λX U hw J pins s σ H xs I h=>by
  subst U hw J;obtain⟨its,Y,p,_⟩:=I.list h;refine⟨its,Y,λA Z=>⟨λi h=>h.IsListIter it a i/\h.IsList a its.toArray,?_,λi st=>⟨st,p.isList⟩,λi h' st=>st.1⟩⟩;simpa using Draws.list (prog:=X.prog) (w:=X.w) Z it a ne its.toArray
def Ce{K:Nl}(ne:a≠it):Src P w K a it (λH xs=>SqT K H a xs) (λi h=>h.IsTupleIter it a i) where
 ne:=ne
 keep:=λi h h' ⟨o,ho,r⟩ k=>⟨o,k o ho,r⟩
 live:=λi h ⟨o,ho,_,hd⟩=>⟨o,ho,λv z=>by rw[hd]at z;cases z⟩
 one:=λX J pins s σ H xs ys I h h'=>by subst J;exact I.tuple_inj h h'
 row:=λX U hw J pins s σ H xs I h=>by
  subst U hw J;obtain⟨its,Y,p,_⟩:=I.tuple h;refine⟨its,Y,λA Z=>⟨λi h=>h.IsTupleIter it a i/\h.IsTuple a its.toArray,?_,λi st=>⟨st,(show s.heap.IsTuple a its.toArray from p)⟩,λi h' st=>st.1⟩⟩;simpa using En.draws (P:=X.prog) (w:=X.w) Z it a ne its.toArray
noncomputable def Jq(K:Nl)(tl:TE):TI:=λσ H R=>tl σ H λx H1=>∃a,x=.ref a/\(((∃xs,SqL K H1 a xs)/\R (Ite λH xs=>SqL K H a xs) H1)\/((∃xs,SqT K H1 a xs)/\R (Ite λH xs=>SqT K H a xs) H1))
def sd{σ:St}{H:Hp}{s:Shared}{E:Value->Shared->Prop}{h':Heap}{U:List Expr}{j:Nat}{Y:Pos}{a:Addr}{q:Hp->List V->Prop}{r:Nat->Heap->Prop}{R:It->Hp->Prop}(I:Inv X pins σ H s)(Z:a<s.heap.objs.size)
  (S:Src X.prog X.w X.K a s.heap.objs.size q r) (J:IsEnum h' (s.heap.objs.size+1) s.heap.objs.size 0 .none) (hr:r 0 h') (k:∀b o,s.heap.get? b=some o->h'.get? b=some o) (hR:R (Ite q) H) :
  wpAny (model X.prog X.w) X.A (pyIter (.ref (s.heap.objs.size+1))) (PIE X pins σ (.Tuple U j Y) R) E { s with heap:=h' }:=by
 have I1:=I.kept (t':=s.toks) k;refine wpAny_pyIter_enum (s:={ s with heap:=h' }) J ⟨s.heap.objs.size+1,[s.heap.objs.size+1,s.heap.objs.size],_,_,H,rfl,I1,zr S (Nat.succ_ne_self _) (KG (J9 Z)),⟨⟨_,J⟩,hr⟩,λb z=>?_,hR⟩;have z:s.heap.objs.size<=b:=by
  simp only[tf,Lb,LV]at z;rcases z with rfl|rfl
  .exact Kr _
  .exact gx _
 exact I.fpOk z (I.hok.fresh z)
def zu (hg:Gl X "enumerate") (hm:X.mg "enumerate"=none) (hl:PE X l tl) (hs:starEach [l] X.env=[(false,eval l X.env)]:=by rfl) :
  PI X (.Tuple ts j tp) (.Call (.Name "enumerate" p) [l] [] pos) (Jq X.K tl):=by
 intro pins s σ H R I h;refine Call_ (iu I hg hm PyProof.Rows.boot_enumerate (Kx (thn (aJ hl bJ hs pos pins s σ H (λvs H1=>match vs with
  | [x]=>∃a,x=.ref a/\(((∃xs,SqL X.K H1 a xs)/\R (Ite λH xs=>SqL X.K H a xs) H1)\/((∃xs,SqT X.K H1 a xs)/\R (Ite λH xs=>SqT X.K H a xs) H1))
  | _=>False) I h) λus s1 ⟨vs,H1,J,r1,U⟩=>?_) hs rfl))
 cases r1 with
 |nil=>exact U.elim
 |cons r rr =>
  cases rr with
  |cons _ _=>exact U.elim
  |nil =>
   obtain⟨a,e,q⟩:=U;subst e;cases r;rcases q with⟨⟨xs,Y⟩,q⟩|⟨⟨xs,Y⟩,q⟩
   .obtain⟨its,_,pl,_⟩:=J.list Y;have z:=let ⟨o,ho,_⟩:=pl.isList;pb ho
    exact call_enumerate_list pl.isList λh' Z it _ k=>sd J z (zt (tr z)) Z it k q
   .obtain⟨its,_,pt,_⟩:=J.tuple Y;have z:=let ⟨o,ho,_⟩:=pt;pb ho
    exact En.call_tup pt λh' Z it _ k=>sd J z (Ce (tr z)) Z it k q
end L2
namespace MM
open PySem PySem.Spec PyProof.Rows L2 List Option
structure m_(K:Nl)(J:It)(xs:List PV)(V G:Hp):Prop where
 stop:∀H',aj G H'->J.stop xs.length H'
 go:∀(i:Nat) x H',aj G H'->xs[i]?=some x->J.go i H'
 yld:∀(i:Nat) x H' u H2,aj G H'->xs[i]?=some x->J.yld i H' u H2->aj H' H2/\∀O',(∀a∈O',H' a≠none)->aj V (aq H2 O')->Rep K (aq H2 O') x u
def m_.weak{K:Nl}{V G z:Hp}(h:m_ K J xs V G)(s:aj G z):m_ K J xs V z:=
 ⟨λH' s'=>h.stop H' (s.trans s'),λi x H' s'=>h.go i x H' (s.trans s'),λi x H' u H2 s'=>h.yld i x H' u H2 (s.trans s')⟩
noncomputable def bh(ms:List ME)(W:Rho)(σ:St):List Addr:=match ms with
 | [.bor i]=>(match (W[i]?).join,(σ[i]?).join with|some (.own _),some (.ref a)=>[a]|_,_=>[])
 | _=>[]
noncomputable def ba(B:Hp)(O:List Addr)(H:Hp)(L:List Addr):Hp:=λb=>if b∈O then(if b∈L then H b else B b)else H b
section
variable{K:Nl}{B H:Hp}{O L:List Addr}
def nc(s:aj B H):aj (ba B O H L) H:=λb u e=>by
 unfold ba at e;split at e
 .split at e
  .exact e
  .exact s b u e
 .exact e
def d8(s:aj B H):aj B (ba B O H L):=λb u e=>by
 unfold ba;split
 .split
  .exact s b u e
  .exact e
 .exact s b u e
def cc:aj (aq H O) (ba B O H L):=λb u e=>by
 have J:b∉O:=λz=>by rw[eX z]at e;cases e
 unfold ba;rw[if_neg J];rw[aT J]at e;exact e
end
def l9{K:Nl}{V G:Hp}(h:SqL K G a us)(r:Reps K V xs us):m_ K (Itl K a) xs V G where
 stop:=λH' s=>⟨us,s.seq h,LM r.length.symm⟩
 go:=λi x H' s e=>by
  obtain⟨u,z,_⟩:=r.get e;exact⟨us,u,s.seq h,z⟩
 yld:=λi x H' u H2 s e y=>by
  obtain⟨rfl,y⟩:=y;obtain⟨w,z,q⟩:=r.get e;have J:=y us (s.seq h);rw[z]at J;cases J;exact⟨aj.refl _,λU _ sv=>Rep.mono sv _ q⟩
def zv{K:Nl}{V G:Hp}(h:SqT K G a us)(r:Reps K V xs us):m_ K (Itt K a) xs V G where
 stop:=λH' s=>⟨us,s.seqT h,LM r.length.symm⟩
 go:=λi x H' s e=>by
  obtain⟨u,z,_⟩:=r.get e;exact⟨us,u,s.seqT h,z⟩
 yld:=λi x H' u H2 s e y=>by
  obtain⟨rfl,y⟩:=y;obtain⟨w,z,q⟩:=r.get e;have J:=y us (s.seqT h);rw[z]at J;cases J;exact⟨aj.refl _,λU _ sv=>Rep.mono sv _ q⟩
def ng{K:Nl}{V G:Hp}{lo:Int} :m_ K (Itr lo n) ((range n).map λ(k:Nat)=>.int (lo+k)) V G where
 stop:=λH' s=>by simp[Itr]
 go:=λi x H' s e=>by
  have:=(y1.mp e).1;simpa[Itr]using this
 yld:=λi x H' u H2 s e y=>by
  obtain⟨rfl,rfl⟩:=y;refine⟨aj.refl _,λz _ sv=>?_⟩;have hi:i<n:=by have:=(y1.mp e).1;simpa using this
  rw[JZ,getElem?_range hi]at e;cases e;rw[Rep]
def E2{K:Nl}(J:∀a∈O,H a≠none)(U:H p=none)(h:Reps K (aq (upd H p (.tup us)) O) xs us):Rep K (aq (upd H p (.tup us)) O) (.tup xs) (.ref p):=by
 refine⟨p,us,rfl,?_,h⟩;rw[aT λz=>J p z U];exact az ..
theorem vD:∀xs (k i:Nat),(bu k xs)[i]?=(xs[i]?).map λx=>.tup [.int ((k+i:Nat):Int),x]
 | [],k,i=>by simp[bu]
 |x::xs,k,0=>by simp[bu]
 |x::xs,k,i+1=>by
  rw[bu,getElem?_cons_succ,getElem?_cons_succ,vD xs (k+1) i,show k+1+i=k+(i+1)by omega]
theorem nh:∀xs k,(bu k xs).length=xs.length
 | [],_=>rfl
 |x::xs,k=>by rw[bu,length_cons,length_cons,nh xs]
def kR{K:Nl}{V G:Hp}{q:Hp->List L2.V->Prop}{xs:List PV}{us:List L2.V}(h:∀H',aj G H'->q H' us)(r:Reps K V xs us):m_ K (Ite q) (bu 0 xs) V G where
 stop:=λH' s=>⟨us,h H' s,by rw[nh];exact r.length⟩
 go:=λi x H' s e=>by
  refine⟨us,h H' s,?_⟩;have:=(y1.mp e).1;rw[nh]at this;rw[<- r.length];exact this
 yld:=λi x H' u H2 s e y=>by
  refine aC λZq Y=>?_
  obtain⟨p,rfl,J,v,rfl,y⟩:=y;rw[vD]at e;obtain⟨z,Z,rfl⟩:=mx.mp e;obtain⟨w,e2,rz⟩:=r.get Z;have U:=y us (h H' s);rw[e2]at U;cases U;refine Y ?_;refine⟨aA J _,λO' hO sv=>?_⟩;rw[Lp];refine E2 hO J (.cons (bE _ _) (.cons (Rep.mono sv _ rz) .nil))
noncomputable def tW(K:Nl)(cal:Cal)(k:Sk)(ms:List ME):TI:=λσ H R =>
 ∃B E O W vs xs,aD K B E O H W σ/\evs cal ms W=some vs/\bj k vs=some xs/\∀J H1,aj H H1->m_ K J xs (aq H1 O) (ba B O H1 (bh ms W σ))->R J H1
section
variable{X:Cx}{cal:Cal}{tg:Expr}
theorem PI.or(h:PI X tg e t)(g:PI X tg e u):PI X tg e (λσ H R=>t σ H R\/u σ H R):=λpins s σ H R I q=>q.elim (h pins s σ H R I) (g pins s σ H R I)
theorem qx:∀{ms}{W}{vs},evs cal ms W=some vs->vs.length=ms.length
 | [],_,_,h=>by simp[evs]at h;subst h;rfl
 |m::ms,_,_,h=>by
  simp[evs,ez]at h;obtain⟨v,_,w,z,rfl⟩:=h;simp[qx z]
def se(h:evs cal [m] W=some vs):∃v,vs=[v]/\ev cal m W=some v:=by
 simp[evs,ez]at h;obtain⟨v,e,w,z,rfl⟩:=h
 simp_all
def qy{K:Nl}(h:Rep K F v u)(e:bf v=some xs):∃a us,u=.ref a/\Reps K F xs us/\((v=.lst xs/\SqL K F a us)\/(v=.tup xs/\SqT K F a us)):=by
 cases v<;>first|(simp[bf]at e;subst e;rw[Rep]at h;obtain⟨a,us,e,q,r⟩:=h;exact⟨a,us,e,r,.inl ⟨rfl,q⟩⟩)|(simp[bf]at e;subst e;rw[Rep]at h;obtain⟨a,us,e,q,r⟩:=h;exact⟨a,us,e,r,.inr ⟨rfl,eJ q⟩⟩)|simp[bf]at e
def Ho(U:aH m=false)(h:PE X e (tE X.K cal m)):PI X tg e (tW X.K cal .seq [m]):=by
 refine(PI.or (uS h) (xT h)).imp λσ H R q=>?_
 obtain⟨B,E,O,W,vs,xs,st,e1,e2,q⟩:=q;obtain⟨v,rfl,Z⟩:=se e1;have z:bf v=some xs:=e2;have hl:bh [m] W σ=[]:=by cases m<;>first|rfl|cases U
 rw[hl]at q;cases v with
 |lst ys =>
  simp[bf]at z;subst z
  refine .inl ⟨B,E,O,W,_,st,Z,λu H' s g=>?_⟩;have r:=g.2 U;rw[Rep]at r;obtain⟨a,us,rfl,J,Y⟩:=r;exact⟨a,rfl,⟨us,(bQ H' O).seq J⟩,q _ _ s (l9 (cc.seq J) Y)⟩
 |tup ys =>
  simp[bf]at z;subst z
  refine .inr ⟨B,E,O,W,_,st,Z,λu H' s g=>?_⟩;have r:=g.2 U;obtain⟨a,us,rfl,J,Y⟩:=r;exact⟨a,rfl,⟨us,(bQ H' O).seqT (eJ J)⟩,q _ _ s (zv (cc.seqT (eJ J)) Y)⟩
 | _=>simp[bf]at z
def Hq(h:aU X.N X.env.scope i x=true):PI X tg (.Name x pos) (tW X.K cal .seq [.bor i]):=by
 refine(PI.or (uS (cb h)) (xT (cb h))).imp λσ H R q=>?_
 refine aC λZq kq=>?_
 obtain⟨B,E,O,W,vs,xs,st,e1,e2,q⟩:=q;obtain⟨v,rfl,J⟩:=se e1;have U:bf v=some xs:=e2;rw[ev]at J;refine kq ?_;cases hj:(W[i]?).join with
 |none=>rw[hj]at J;cases J
 |some m =>
  rw[hj]at J;obtain⟨u,eu,so⟩:=aQ st hj;cases m with
  |val w =>
   simp only[bv,pd]at J;subst J;have a1:=so;obtain⟨a,us,rfl,Z,z⟩:=qy a1 U;rcases z with⟨rfl,Y⟩|⟨rfl,Y⟩
   .exact .inl ⟨_,eu,a,rfl,⟨us,(bQ H O).seq Y⟩,q _ _ (aj.refl H) (l9 (cc.seq Y) Z)⟩
   .exact .inr ⟨_,eu,a,rfl,⟨us,(bQ H O).seqT Y⟩,q _ _ (aj.refl H) (zv (cc.seqT Y) Z)⟩
  |own ys =>
   simp only[bv,pd]at J;subst J;simp[bf]at U;subst U
   obtain⟨a,us,rfl,ha,Z,hO,_⟩:=so;refine .inl ⟨_,eu,a,rfl,⟨us,SqL.of ha⟩,q _ _ (aj.refl H) (l9 (SqL.of ?_) Z)⟩;have hl:bh [.bor i] W σ=[a]:=by simp[bh,hj,eu]
   unfold ba
   simp_all
  |brw ys =>
   simp only[bv,pd]at J;subst J;simp[bf]at U;subst U
   obtain⟨a,us,rfl,Y,Z⟩:=so;exact .inl ⟨_,eu,a,rfl,⟨us,st.keep.seq Y⟩,q _ _ (aj.refl H) (l9 ((d8 st.keep).seq Y) Z)⟩
  |ownD ys =>
   have J:=vj J;subst J;simp[bf]at U
  |mutD ys =>
   have J:=vm J;subst J;simp[bf]at U
  |brwD ys =>
   have J:=vk J;subst J;simp[bf]at U
def Hr (g:Gf X T k cal) (hf:f=("enumerate":Str)) (hg:glB X.env.scope f=true) (hs:ah e=true) (hb:aH m=false) (h:PE X e (tE X.K cal m)):PI X (.Tuple ts j tp) (.Call (.Name f p) [e] [] pos) (tW X.K cal .enm [m]):=by
 subst hf;have J:starEach [e] X.env=[(false,eval e X.env)]:=by cases e<;>first|rfl|(simp[ah]at hs)
 refine(zu (dk hg) (g.blt "enumerate" (by decide)) h J).imp λσ H R q=>?_
 obtain⟨B,E,O,W,vs,xs,st,e1,Z,q⟩:=q;obtain⟨v,rfl,e3⟩:=se e1;simp[bj,mx]at Z;obtain⟨ys,e4,rfl⟩:=Z;refine⟨B,E,O,W,_,st,e3,λu H' s g=>?_⟩;obtain⟨a,us,rfl,rs,z⟩:=qy (g.2 hb) e4;rcases z with⟨_,U⟩|⟨_,U⟩
 .exact⟨a,rfl,.inl ⟨⟨us,(bQ H' O).seq U⟩,q _ _ s (kR (λH2 Y=>Y.seq (cc.seq U)) rs)⟩⟩
 .exact⟨a,rfl,.inr ⟨⟨us,(bQ H' O).seqT U⟩,q _ _ s (kR (λH2 Y=>Y.seqT (cc.seqT U)) rs)⟩⟩
def E3 (g:Gf X T k cal) (hf:f=("enumerate":Str)) (hg:glB X.env.scope f=true) (h:aU X.N X.env.scope i x=true):PI X (.Tuple ts j tp) (.Call (.Name f p) [.Name x px] [] pos) (tW X.K cal .enm [.bor i]):=by
 subst hf;refine(zu (dk hg) (g.blt "enumerate" (by decide)) (cb h) rfl).imp λσ H R q=>?_
 obtain⟨B,E,O,W,vs,xs,st,e1,e2,q⟩:=q;obtain⟨v,rfl,J⟩:=se e1;simp only[bj,mx]at e2;obtain⟨zs,U,rfl⟩:=e2;rw[ev]at J;cases hj:(W[i]?).join with
 |none=>rw[hj]at J;cases J
 |some m =>
  rw[hj]at J;obtain⟨u,eu,so⟩:=aQ st hj;cases m with
  |val w =>
   simp only[bv,pd]at J;subst J;have a2:=so;obtain⟨a,us,rfl,rs,z⟩:=qy a2 U;rcases z with⟨rfl,Y⟩|⟨rfl,Y⟩
   .exact⟨_,eu,a,rfl,.inl ⟨⟨us,(bQ H O).seq Y⟩,q _ _ (aj.refl H) (kR (λH2 Z=>Z.seq (cc.seq Y)) rs)⟩⟩
   .exact⟨_,eu,a,rfl,.inr ⟨⟨us,(bQ H O).seqT Y⟩,q _ _ (aj.refl H) (kR (λH2 Z=>Z.seqT (cc.seqT Y)) rs)⟩⟩
  |own ys =>
   simp only[bv,pd]at J;subst J;simp[bf]at U;subst U
   obtain⟨a,us,rfl,ha,rs,hO,_⟩:=so;have hl:bh [.bor i] W σ=[a]:=by simp[bh,hj,eu]
   have hG:ba B O H (bh [.bor i] W σ) a=some (.lst us):=by
    unfold ba
    simp_all
   exact⟨_,eu,a,rfl,.inl ⟨⟨us,SqL.of ha⟩,q _ _ (aj.refl H) (kR (λH2 Z=>Z.seq (SqL.of hG)) rs)⟩⟩
  |brw ys =>
   simp only[bv,pd]at J;subst J;simp[bf]at U;subst U
   obtain⟨a,us,rfl,Y,rs⟩:=so;exact⟨_,eu,a,rfl,.inl ⟨⟨us,st.keep.seq Y⟩,q _ _ (aj.refl H) (kR (λH2 Z=>Z.seq ((d8 st.keep).seq Y)) rs)⟩⟩
  |ownD ys =>
   have J:=vj J;subst J;simp[bf]at U
  |mutD ys =>
   have J:=vm J;subst J;simp[bf]at U
  |brwD ys =>
   have J:=vk J;subst J;simp[bf]at U
def Cf (g:Gf X T k cal) (hf:f=("range":Str)) (hg:glB X.env.scope f=true) (ha:PA X args (tEs X.K cal ms)) (hn:args.length=1\/args.length=2) (hs:args.all ah=true) (hm:ms.length=args.length) :
  PI X tg (.Call (.Name f p) args [] pos) (tW X.K cal .rng ms):=by
 subst hf;have J:∀e,ah e=true->∀es env,starEach (e::es) env=(false,eval e env)::starEach es env:=λe he es env=>by
  cases e<;>first|rfl|(simp[ah]at he)
 match args,hn with
 | [a],_ =>
  simp only[all_cons,all_nil,Bool.and_true]at hs;refine(oO (dk hg) (g.blt "range" (by decide)) ha (by rw[J a hs];rfl)).imp λσ H R q=>?_
  obtain⟨B,E,O,W,vs,xs,st,U,z,q⟩:=q;refine⟨B,E,O,W,vs,st,U,λus H' s gs=>?_⟩
  match vs,z,gs with
  | [.int j],z,gs =>
   simp only[bj]at z;split at z
   .rename_i c;cases z;obtain⟨u,rfl,Y⟩:=p1 gs.1;have Z:=Y.int;subst Z;exact⟨j,rfl,c.1,c.2,q _ _ s ng⟩
   .cases z
  | [.int j,.int j'],z,gs =>
   have:=qx U
   simp_all
 | [a,b],_ =>
  simp only[all_cons,all_nil,Bool.and_true,il]at hs;refine(wu (dk hg) (g.blt "range" (by decide)) ha (by rw[J a hs.1,J b hs.2];rfl) (by rw[J b hs.2];rfl)).imp λσ H R q=>?_
  obtain⟨B,E,O,W,vs,xs,st,U,z,q⟩:=q;refine⟨B,E,O,W,vs,st,U,λus H' s gs=>?_⟩
  match vs,z,gs with
  | [.int i,.int j],z,gs =>
   simp only[bj]at z;split at z
   .rename_i c;cases z;obtain⟨u,u',rfl,Y,ao⟩:=p2 gs.1;have Z:=Y.int;have e4:=ao.int;subst Z e4;exact⟨i,j,rfl,c,q _ _ s ng⟩
   .cases z
  | [.int j],z,gs =>
   have:=qx U
   simp_all
end
noncomputable def tF(K:Nl)(cal:Cal)(z:ME):TE:=λσ H Q=>∃B E O W xs,aD K B E O H W σ/\ev cal z W=some (.lst xs) /\
 ∀p us H',aj H H'->H p=none->H' p=some (.lst us)->Reps K (aq H' (p::O)) xs us->Q (.ref p) H'
def g8 :aj (aq H (p::O)) (aq H O):=bF (aj.refl H) λb z=>.inl (Ku _ z)
def iG(h:p∈O):aq (upd H p o) O=aq H O:=by
 funext b
 unfold aq;split
 .rfl
 .rename_i J;exact aW λz=>J (by rw[z];exact h)
def vE{K:Nl}{H H':Hp}{O:List Addr}{J:ME}{xs:List PV}{p:Addr}{us:List V}(U:∀a∈O,H a≠none)(Y:H p=none)(e:H' p=some (.lst us))(r:Reps K (aq H' (p::O)) xs us):Got K H' O J (.lst xs) (.ref p):=by
 refine .of ?_;refine⟨p,us,rfl,SqL.of ?_,Reps.mono g8 _ r⟩;rw[aT λz=>U p z Y];exact e
section
variable{X:Cx}{T:Tab}{k:Nat}{cal:Cal}
def dE(U:∀W v,ev cal z W=some v->∃xs,v=.lst xs)(h:PE X e (tF X.K cal z)):PE X e (tE X.K cal z):=by
 refine h.imp λσ H Q q=>?_
 obtain⟨B,E,O,W,v,st,J,q⟩:=q;obtain⟨xs,rfl⟩:=U W v J;exact⟨B,E,O,W,xs,st,J,λp us H' s Y Z r=>q _ _ s (vE st.here Y Z r)⟩
theorem Gf.blk(g:Gf X T k cal)(x)(fvs)(scope)(z)(J)(C)(fp):Gf (X.blk x fvs scope z J C fp) T k cal:={ g with }
def kS(h:fL osc N scope x fvs js=true):kK osc N scope x fvs js:=by
 unfold fL at h;simp only[il,JQ,Ks]at h;obtain⟨⟨⟨⟨⟨⟨⟨⟨h1,h2⟩,z⟩,J⟩,U⟩,Y⟩,Z⟩,h8⟩,h9⟩:=h;exact⟨h1,h2,z,J,U,Y,Z,h8,h9⟩
def E4{K:Nl}{σ F:St}(st:aD K B E O H W σ)(U:aj H H1)(s2:aj H1 H2)(hD:H1 D=none)(a1:H2 D≠none)
  (a2:∀z,F.set 0 z=(fE js σ).set 0 z) (hl:0<F.length) (hx:Rep K (aq H2 (D::O)) x ux):aD K H1 [] (D::O) H2 (cv js W x) (F.set 0 (some ux)):=by
 have hv:aj (aq H O) (aq H2 (D::O)):=bF (U.trans s2) λb hb=>by
  rcases tf.mp hb with rfl|hb
  .exact .inr (U.free hD)
  .exact .inl hb
 rw[a2];have Y:∀(i:Nat) m,ip m=true->(cv js W x)[i]?≠some (some m):=λi m hm e=>by
  unfold cv at e;cases i with
  |zero =>
   simp at e;subst e;cases hm
  |succ i =>
   simp only[getElem?_cons_succ,JZ,mx]at e;obtain⟨j,_,e⟩:=e;cases Z:(W[j]?).join with
   |none=>rw[Z]at e;cases e
   |some mm =>
    rw[Z]at e;cases mm<;>first|(simp[fJ]at e;done)|(simp only[fJ,pd]at e;subst e;cases hm)
 refine⟨s2,λa J=>?_,λa J=>by simp at J,λa J=>by simp at J,?_,λi m e=>?_,λi j m m' a _ e _ hm=>absurd e (Y i m hm)
  ⟩
 .rcases tf.mp J with rfl|J
  .exact a1
  .exact λe=>st.here a J ((U.trans s2).free e)
 .simp[cv,fE]
 .cases i with
  |zero =>
   simp only[cv,getElem?_cons_zero,pd]at e;subst e;exact⟨ux,by simp[fE],hx⟩
  |succ i =>
   simp only[cv,getElem?_cons_succ,JZ,mx]at e;obtain⟨j,ej,e⟩:=e;cases Z:(W[j]?).join with
   |none=>rw[Z]at e;cases e
   |some mm =>
    rw[Z]at e;obtain⟨u,eu,so⟩:=aQ st Z;have a5:((fE js σ).set 0 (some ux))[i+1]?=some (some u):=by
     simp[fE,ej,eu]
    refine⟨u,a5,?_⟩;cases mm with
    |val w =>
     simp only[fJ,pd]at e;subst e;exact Rep.mono hv _ so
    |own ys =>
     simp only[fJ,pd]at e;subst e;obtain⟨a,us,rfl,J,rs,hO,_⟩:=so;exact⟨a,us,rfl,SqL.of (U _ _ J),Reps.mono hv _ rs⟩
    |brw ys =>
     simp only[fJ,pd]at e;subst e;obtain⟨a,us,rfl,sq,rs⟩:=so;exact⟨a,us,rfl,(st.keep.trans U).seq sq,Reps.mono hv _ rs⟩
    |brwD kvs =>
     simp only[fJ,pd]at e;subst e;obtain⟨a,rfl,J⟩:=so;exact⟨a,rfl,aj.rd (st.keep.trans U) J⟩
    | _ =>
     simp only[fJ,pd]at e;subst e;obtain⟨a,rfl,J,_⟩:=so;exact⟨a,rfl,.inl (U _ _ J)⟩
def uq{cond elt:ME}(g:Gf X T k cal)(U:fL X.env.scope X.N scope x (dC X.N js) js=true)
  (hw:PI X (.Name x px) it (tW X.K cal Z ms)) (Y:fq it=true)
  (hc:∀z J C fp,PF (X.blk x (dC X.N js) scope z J C fp) ifs (tT X.K cal cond)) (he:∀z J C fp,PE (X.blk x (dC X.N js) scope z J C fp) e (tE X.K cal elt)) (hb:aH elt=false) :
  PE X (.ListComp e [⟨.Name x px,it,ifs,0⟩] scope pos) (tF X.K cal (.comp Z ms js cond elt)):=by
 refine(u_ (kS U) g.calm hw hc he (by intro v;cases it<;>first|rfl|(simp[fq]at Y))).imp λσ H Q q=>?_
 exact comp_go hb q
where
 comp_go {k':Sk}{ms:List ME}{js:List Nat}{cond elt:ME}{K:Nl}{σ:St}{H:Hp}{Q:VK} (hb:aH elt=false) (q:tF K cal (.comp k' ms js cond elt) σ H Q):yD (tW K cal k' ms) js (tT K cal cond) (tE K cal elt) σ H Q:=by
  refine aC λZq kq=>?_
  obtain⟨B,E,O,W,ws,st,e1,q⟩:=q;rw[ev]at e1;simp only[ez]at e1;obtain⟨vs,e1,xs,e2,e3⟩:=e1;refine kq ?_;split at e3
  .rename_i hlen;simp only[mx,PV.lst.injEq,exists_eq_right]at e3;refine⟨B,E,O,W,vs,xs,st,e1,e2,λJ H1 s1 it D hD=>?_⟩;have hDO:D∉O:=λz=>bq s1 st.here D z hD
   have it1:=it.weak (nc (st.keep.trans s1));refine⟨λi m F H'=>m=xs.length-i/\i<=xs.length/\aj H1 H'/\(∀z,F.set 0 z=(fE js σ).set 0 z)/\0<F.length/\∃done bP ys,fW (λx=>(ev cal cond (cv js W x)).bind aZ) (λx=>ev cal elt (cv js W x)) (xs.drop i)=some bP/\ws=done++bP/\done.length<=i/\H' D=some (.lst ys)/\Reps K (aq H' (D::O)) done ys,⟨xs.length,by simp,J2 _,aA hD _,λ_=>rfl,by simp[fE],[],ws,[],by simpa using e3,rfl,gx _,az,.nil⟩,?_⟩;rintro i m F H' ⟨rfl,hi,s2,hσ,hl,done,bP,ys,eg,ew,hdl,hDy,rs⟩;by_cases hlt:i<xs.length
   .right;have ex:=JR hlt;refine⟨it1.go i _ H' s2 ex,λσ2 H2=>∃m',m'<xs.length-i/\(m'=xs.length-(i+1)/\i+1<=xs.length/\aj H1 H2/\(∀z,σ2.set 0 z=(fE js σ).set 0 z)/\0<σ2.length/\∃done bP ys,fW (λx=>(ev cal cond (cv js W x)).bind aZ) (λx=>ev cal elt (cv js W x)) (xs.drop (i+1))=some bP/\ws=done++bP/\done.length<=i+1/\H2 D=some (.lst ys)/\Reps K (aq H2 (D::O)) done ys),λσ2 H2 z=>z,λux H2 y=>?_⟩;obtain⟨s3,hr⟩:=it1.yld i _ H' ux H2 s2 ex y;have sv:aj (aq H1 O) (aq H2 (D::O)):=bF (s2.trans s3) λb hb=>by
     rcases tf.mp hb with rfl|hb
     .exact .inr hD
     .exact .inl hb
    have hx:=hr (D::O) (λa ha=>by
     rcases tf.mp ha with rfl|ha
     .rw[hDy];simp
     .exact λz=>bq s1 st.here a ha (s2.free z)) sv
    have hD2:=s3 _ _ hDy;have stb:=E4 (js:=js) (W:=W) st s1 (s2.trans s3) hD (by rw[hD2];simp) hσ hl hx;rw[Mw hlt,fW]at eg;simp only[ez]at eg;obtain⟨b,eb,eg⟩:=eg;refine⟨H1,[],D::O,_,b,stb,by simpa[evB,ez]using eb,λH3 s4=>?_⟩;have hσ2:∀z,(F.set 0 (some ux)).set 0 z=(fE js σ).set 0 z:=λz=>by rw[set_set];exact hσ z
    have hl2:0<(F.set 0 (some ux)).length:=by rw[Mb];exact hl
    cases b with
    |false =>
     rw[if_neg (by simp)]at eg;dsimp only;rw[if_neg (by simp)];refine⟨_,by omega,rfl,hlt,(s2.trans s3).trans s4,hσ2,hl2,done,bP,ys,eg,ew,by omega,s4 _ _ hD2,Reps.mono ?_ _ rs⟩;exact(al s3).trans (al s4)
    |true =>
     rw[if_pos rfl]at eg;dsimp only;rw[if_pos rfl];refine aC λZq kq=>?_
     simp only[ez,mx]at eg;obtain⟨y',ey,rest',eg,rfl⟩:=eg;refine kq ?_;refine⟨H1,[],D::O,_,y',stb.mono s4,ey,λuy H4 s5 gy=>?_⟩;have hD4:=s5 _ _ (s4 _ _ hD2);have ry:=gy.2 hb;have rs4:=Reps.mono (((al s3).trans (al s4)).trans (al s5)) _ rs;have hyl:ys.length<=10000:=by rw[<- rs.length];omega
     refine⟨ys,hD4,Ka hyl (by decide),_,by omega,rfl,hlt,?_,hσ2,hl2,done++[y'],rest',ys++[uy],eg,by simp[ew],by simp;omega,az,?_⟩
     .intro b u eb;rw[aW (cn eb hD)];exact s5 _ _ (s4 _ _ ((s2.trans s3) _ _ eb))
     .rw[iG (KL)];exact rs4.snoc ry
   .left;have ei:i=xs.length:=by omega
    subst ei;rw[drop_length,fW]at eg;cases eg;rw[K0]at ew;subst ew;exact⟨it1.stop H' s2,q D ys H' (s1.trans s2) (s1.free hD) hDy rs⟩
  .cases e3
def aR(z:ah e=true)(es)(env):starEach (e::es) env=(false,eval e env)::starEach es env:=by
 cases e<;>first|rfl|(simp[ah]at z)
theorem bV :∀{es},es.all ah=true->(backTo pos (starEach es env)).any (·.1)=false
 | [],_=>rfl
 |e::es,h=>by
  simp only[all_cons,il]at h;rw[aR h.1];show(false||(backTo pos (starEach es env)).any (·.1))=false;rw[bV h.2];rfl
theorem bG:∀{ms}{N}{sc}{es},chks T ms N sc es=true->es.all ah=true/\ms.length=es.length
 | [],_,_,[],_=>⟨rfl,rfl⟩
 | [],_,_,_::_,h=>by simp[chks]at h
 | _::_,_,_,[],h=>by simp[chks]at h
 |m::ms,N,sc,e::es,h=>by
  simp[chks]at h;obtain⟨h1,h2⟩:=bG h.2;exact⟨by simp[h.1.2,h1],by simp[h2]⟩
def bw(h:PE X e (tE X.K cal Y))(J:kN e=true):PT X e (tT X.K cal Y):=by
 refine(DG h (by intro w;cases e<;>first|rfl|(simp[kN]at J;done)|(rename_i op _ _;cases op<;>first|rfl|(simp[kN]at J)))).imp λσ H Q q=>?_
 obtain⟨B,E,O,W,b,st,z,q⟩:=q;simp[evB,ez]at z;obtain⟨v,z,U⟩:=z;refine⟨B,E,O,W,v,st,z,λu H' s g=>?_⟩;cases v<;>simp[aZ]at U
 subst U;exact⟨_,g.1.bl,q H' s⟩
def zw(h:PE X e (tE X.K cal m))(hs:PA X es (tEs X.K cal ms))(hn:ah e=true):PA X (e::es) (tEs X.K cal (m::ms)):=by
 refine(aJ h hs (aR hn es _)).imp λσ H Q q=>?_
 obtain⟨B,E,O,W,vs,st,z,q⟩:=q;simp[evs,ez,mx]at z;obtain⟨v,z,ws,e2,rfl⟩:=z;refine⟨B,E,O,W,v,st,z,λu H1 Y Z=>⟨B,E,O,W,ws,st.mono Y,e2,λus H2 J g2=>q _ H2 (Y.trans J) ⟨.cons (Z.1.mono J) g2.1,λU=>?_⟩⟩⟩;simp only[all_cons,il,JX]at U;exact .cons ((Z.mono J).2 U.1) (g2.2 U.2)
def Cg:PA X [] (tEs X.K cal []):=by
 refine bJ.imp λσ H Q q=>?_
 obtain⟨B,E,O,W,vs,st,z,q⟩:=q;simp only[evs,pd]at z;subst z;exact q [] H (aj.refl H) ⟨.nil,λ_=>.nil⟩
def zx:PA X [] (tAs X.K cal []):=by
 refine bJ.imp λσ H Q q=>?_
 obtain⟨B,E,O,W,vs,st,z,q⟩:=q;simp only[evA,pd]at z;subst z;exact q [] H (aj.refl H) .nil
def zy{K:Nl}(s:aj H H')(h:lu K O H m u):lu K O H' m u:=by
 cases m<;>first|exact Rep.mono (al s) _ h|exact h|(obtain⟨a,us,e,q,r⟩:=h;exact⟨a,us,e,s.seq q,Reps.mono (al s) _ r⟩)|(obtain⟨a,e,q⟩:=h;exact⟨a,e,aj.rd s q⟩)
def w8(J:aH m=false)(h:PE X e (tE X.K cal m))(hs:PA X es (tAs X.K cal ms))(Z:ah e=true):PA X (e::es) (tAs X.K cal (m::ms)):=by
 refine(aJ h hs (aR Z es _)).imp λσ H Q q=>?_
 obtain⟨B,E,O,W,vs,st,e1,q⟩:=q;have z:(ev cal m W).bind (λv=>(evA cal ms W).map (MV.val v::·))=some vs:=by
  rw[<- e1];cases m<;>first|(cases J;done)|(simp;done)|rfl
 simp[ez]at z;obtain⟨v,e9,ws,e2,rfl⟩:=z;exact⟨B,E,O,W,v,st,e9,λu H1 U g1=>⟨B,E,O,W,ws,st.mono U,e2,λus H2 Y g2=>q _ H2 (U.trans Y) (.cons ((g1.mono Y).2 J) g2)⟩⟩
def zz(h:aU X.N X.env.scope i x=true)(hs:PA X es (tAs X.K cal ms)):PA X (.Name x pos::es) (tAs X.K cal (.bor i::ms)):=by
 refine(aJ (cb h) hs rfl).imp λσ H Q q=>?_
 obtain⟨B,E,O,W,vs,st,z,q⟩:=q;rw[evA]at z;simp[ez,mx]at z;obtain⟨m',z,ws,e2,rfl⟩:=z;cases Y:(W[i]?).join with
 |none=>rw[Y]at z;cases z
 |some m =>
  rw[Y]at z;obtain⟨u,eu,J⟩:=aQ st Y;have ao:lu X.K O H m' u:=by
   cases m with
   |val w=>simp[gq,pd]at z;subst z;exact J
   |own ys=>simp[gq,pd]at z;subst z;obtain⟨a,us,rfl,U,Z,_⟩:=J;exact⟨a,us,rfl,SqL.of U,Z⟩
   |brw ys=>simp[gq,pd]at z;subst z;obtain⟨a,us,rfl,sq,Z⟩:=J;exact⟨a,us,rfl,st.keep.seq sq,Z⟩
   |brwD kvs=>simp[gq,pd]at z;subst z;obtain⟨a,rfl,U⟩:=J;exact⟨a,rfl,aj.rd st.keep U⟩
   | _=>simp[gq,pd]at z;subst z;obtain⟨a,rfl,U,_⟩:=J;exact⟨a,rfl,.inl U⟩
  exact⟨u,eu,⟨B,E,O,W,ws,st,e2,λus H2 s2 g2=>q _ H2 s2 (.cons (zy s2 ao) g2)⟩⟩
def Hs(Y:PE X l (tE X.K cal a))(Z:PE X r (tE X.K cal b)):PE X (.BinOp l (uf op) r pos) (tE X.K cal (.bin op a b)):=by
 refine(uT (ul op) Y Z).imp λσ H Q q=>?_
 obtain⟨B,E,O,W,v,st,z,q⟩:=q;rw[ev]at z;simp[ez]at z;obtain⟨x,z,y,e2,e3⟩:=z;exact⟨B,E,O,W,x,st,z,λux H1 J g1=>⟨B,E,O,W,y,st.mono J,e2,λuy H2 U g2=>⟨O,x,y,v,bq (J.trans U) st.here,g1.1.mono U,g2.1,e3,λu H3 s3 r=>q u H3 ((J.trans U).trans s3) (.of r)⟩⟩⟩
def Ht(U:PE X e (tE X.K cal a)):PE X (.UnaryOp .Not e pos) (tE X.K cal (.not a)):=by
 refine(DL U).imp λσ H Q q=>?_
 obtain⟨B,E,O,W,v,st,z,q⟩:=q;rw[ev]at z;simp only[ez,mx]at z;obtain⟨b,⟨x,z,J⟩,rfl⟩:=z;cases x<;>simp[aZ,pd,reduceCtorEq]at J
 subst J;exact⟨B,E,O,W,_,st,z,λux H1 Y Z=>⟨_,Z.1.bl,q _ H1 Y (.of (eN _ _))⟩⟩
def Hu(U:PT X e (tT X.K cal a)):PT X (.UnaryOp .Not e pos) (tT X.K cal (.not a)):=by
 refine(DJ U).imp λσ H Q q=>?_
 obtain⟨B,E,O,W,b,st,z,q⟩:=q;simp only[evB,ev,ez,mx]at z;obtain⟨v,⟨c,⟨x,z,Y⟩,rfl⟩,J⟩:=z;simp only[aZ,pd]at J;subst J;exact⟨B,E,O,W,c,st,by simp[evB,z,Y],λH' s=>q H' s⟩
def Do(ha:PE X x (tE X.K cal a))(hb:PE X (.BoolOp .And (y::r) pos) (tE X.K cal b)):PE X (.BoolOp .And (x::y::r) pos) (tE X.K cal (.and a b)):=by
 refine(DK ha hb).imp λσ H Q q=>?_
 obtain⟨B,E,O,W,v,st,U,q⟩:=q;rw[ev]at U;simp only[ez]at U;obtain⟨c,⟨z,U,Z⟩,J⟩:=U;cases z<;>simp[aZ,pd,reduceCtorEq]at Z
 subst Z;refine⟨B,E,O,W,_,st,U,λux H1 Y g1=>⟨_,g1.1.bl,?_⟩⟩;split at J
 .rename_i h;rw[if_pos h];simp only[ez,mx]at J;obtain⟨z',J,c',e4,rfl⟩:=J;cases z'<;>simp[aZ,pd,reduceCtorEq]at e4
  subst e4;exact⟨B,E,O,W,_,st.mono Y,J,λu H2 s2 g2=>q u H2 (Y.trans s2) (by rw[g2.1.bl];exact .of (eN _ _))⟩
 .rename_i h;rw[if_neg h];cases J;exact q _ H1 Y (.of (eN _ _))
def Hv(ha:PE X x (tE X.K cal a))(hb:PE X (.BoolOp .Or (y::r) pos) (tE X.K cal b)):PE X (.BoolOp .Or (x::y::r) pos) (tE X.K cal (.or a b)):=by
 refine(GC ha hb).imp λσ H Q q=>?_
 obtain⟨B,E,O,W,v,st,U,q⟩:=q;rw[ev]at U;simp only[ez]at U;obtain⟨c,⟨z,U,Z⟩,J⟩:=U;cases z<;>simp[aZ,pd,reduceCtorEq]at Z
 subst Z;refine⟨B,E,O,W,_,st,U,λux H1 Y g1=>⟨_,g1.1.bl,?_⟩⟩;split at J
 .rename_i h;rw[if_pos h];cases J;exact q _ H1 Y (.of (eN _ _))
 .rename_i h;rw[if_neg h];simp only[ez,mx]at J;obtain⟨z',J,c',e4,rfl⟩:=J;cases z'<;>simp[aZ,pd,reduceCtorEq]at e4
  subst e4;exact⟨B,E,O,W,_,st.mono Y,J,λu H2 s2 g2=>q u H2 (Y.trans s2) (by rw[g2.1.bl];exact .of (eN _ _))⟩
def Dp(h:PT X (.BoolOp op vs pos) t):PW X (.BoolOp op vs pos) t:=λw pins s σ H Q I q=>by
 have:=h pins s σ H Q I q;exact this
def Dq(ha:PT X x (tT X.K cal a))(hb:PW X (.BoolOp .And (y::r) pos) (tT X.K cal b)):PT X (.BoolOp .And (x::y::r) pos) (tT X.K cal (.and a b)):=by
 refine(DI ha hb).pt.imp λσ H Q q=>?_
 obtain⟨B,E,O,W,v,st,U,q⟩:=q;simp only[evB,ev,ez]at U;obtain⟨w,⟨c,⟨z,U,e2⟩,J⟩,Y⟩:=U;refine⟨B,E,O,W,c,st,by simp[evB,U,e2],λH1 Z=>?_⟩;split at J
 .rename_i h;rw[if_pos h];simp only[ez,mx]at J;obtain⟨z',J,c',e5,rfl⟩:=J;simp only[aZ,pd]at Y;subst Y;exact⟨B,E,O,W,_,st.mono Z,by simp[evB,J,e5],λH2 s2=>q H2 (Z.trans s2)⟩
 .rename_i h;rw[if_neg h];cases J;cases Y;exact q H1 Z
def Hw(ha:PT X x (tT X.K cal a))(hb:PW X (.BoolOp .Or (y::r) pos) (tT X.K cal b)):PT X (.BoolOp .Or (x::y::r) pos) (tT X.K cal (.or a b)):=by
 refine(Gz ha hb).pt.imp λσ H Q q=>?_
 obtain⟨B,E,O,W,v,st,U,q⟩:=q;simp only[evB,ev,ez]at U;obtain⟨w,⟨c,⟨z,U,e2⟩,J⟩,Y⟩:=U;refine⟨B,E,O,W,c,st,by simp[evB,U,e2],λH1 Z=>?_⟩;split at J
 .rename_i h;rw[if_pos h];cases J;cases Y;exact q H1 Z
 .rename_i h;rw[if_neg h];simp only[ez,mx]at J;obtain⟨z',J,c',e5,rfl⟩:=J;simp[aZ,pd]at Y;subst Y;exact⟨B,E,O,W,_,st.mono Z,by simp[evB,J,e5],λH2 s2=>q H2 (Z.trans s2)⟩
def Hx(hc:PT X t (tT X.K cal c))(ha:PE X x (tE X.K cal a))(hb:PE X y (tE X.K cal b))(na:aH a=false)(nb:aH b=false):PE X (.IfExp t x y pos) (tE X.K cal (.ite c a b)):=by
 refine(xN hc ha hb).imp λσ H Q q=>?_
 obtain⟨B,E,O,W,v,st,z,q⟩:=q;rw[ev]at z;simp only[ez]at z;obtain⟨k',z,U⟩:=z;refine⟨B,E,O,W,k',st,by simpa[evB,ez]using z,λH1 J=>?_⟩;split at U
 .rename_i h;rw[if_pos h];exact⟨B,E,O,W,v,st.mono J,U,λu H2 Y Z=>q u H2 (J.trans Y) (.of (Z.2 na))⟩
 .rename_i h;rw[if_neg h];exact⟨B,E,O,W,v,st.mono J,U,λu H2 Y Z=>q u H2 (J.trans Y) (.of (Z.2 nb))⟩
def Hy(hc:PT X t (tT X.K cal c))(ha:PT X x (tT X.K cal a))(hb:PT X y (tT X.K cal b)):PT X (.IfExp t x y pos) (tT X.K cal (.ite c a b)):=by
 intro pins s σ H Q I q;refine aC λZq kq=>?_
 obtain⟨B,E,O,W,v,st,z,q⟩:=q;simp only[evB,ev,ez]at z;obtain⟨w,⟨Z,z,U⟩,e4⟩:=z;refine kq ?_;refine isTrue_IfExp (thn (hc pins s σ H (λb H1=>b=Z/\aj H H1) I ⟨B,E,O,W,Z,st,by simpa[evB,ez]using z,λH1 J=>⟨rfl,J⟩⟩) λb J ⟨H1,I1,eb,hs⟩=>?_);subst eb;split at U
 .rename_i h;subst h;exact ha pins J σ H1 Q I1 ⟨B,E,O,W,v,st.mono hs,by simp[evB,U,e4],λH2 Y=>q H2 (hs.trans Y)⟩
 .rename_i h;have:b=false:=by cases b<;>simp at h ⊢
  subst this;exact hb pins J σ H1 Q I1 ⟨B,E,O,W,v,st.mono hs,by simp[evB,U,e4],λH2 Y=>q H2 (hs.trans Y)⟩
def Hz(g:Gf X T k cal)(ha:PE X l (tE X.K cal a))(hb:PE X r (tE X.K cal b))(hm:behindInMarks (zd op) r=false):PE X (.Compare l [zd op] [r] pos) (tE X.K cal (.cmp op a b))/\PT X (.Compare l [zd op] [r] pos) (tT X.K cal (.cmp op a b)):=by
 refine⟨(Bo (zo g.units op) ha hb hm).imp λσ H Q q=>?_,(Bp (zo g.units op) ha hb hm).imp λσ H Q q=>?_⟩
 .obtain⟨B,E,O,W,v,st,z,q⟩:=q;rw[ev]at z;simp only[ez,mx]at z;obtain⟨x,z,y,Y,c,Z,rfl⟩:=z;exact⟨B,E,O,W,x,st,z,λux H1 J g1=>⟨B,E,O,W,y,st.mono J,Y,λuy H2 U g2=>⟨O,x,y,c,g1.1.mono U,g2.1,Z,q _ H2 (J.trans U) (.of (eN _ _))⟩⟩⟩
 .obtain⟨B,E,O,W,v,st,z,q⟩:=q;simp only[evB,ev,ez,mx]at z;obtain⟨w,⟨x,z,y,Y,c,Z,rfl⟩,e4⟩:=z;simp[aZ,pd]at e4;subst e4;exact⟨B,E,O,W,x,st,z,λux H1 J g1=>⟨B,E,O,W,y,st.mono J,Y,λuy H2 U g2=>⟨O,x,y,c,g1.1.mono U,g2.1,Z,_,rfl,q H2 (J.trans U)⟩⟩⟩
def HA(h:PA X es (tEs X.K cal ms))(U:(ms.all λm=>!aH m)=true):PE X (.Tuple es j pos) (tE X.K cal (.tup ms)):=by
 refine(tI h).imp λσ H Q q=>?_
 obtain⟨B,E,O,W,v,st,z,q⟩:=q;rw[ev]at z;simp only[ez]at z;obtain⟨vs,z,J⟩:=z;split at J
 .rename_i hl;cases J;refine⟨B,E,O,W,vs,st,z,λus H1 Y Z=>⟨?_,λp hp=>?_⟩⟩
  .rw[<- (Z.2 U).length];exact cy hl
  .exact q _ _ (Y.trans (aA hp _)) (.of (gz (bq Y st.here) hp (Z.2 U)))
 .cases J
def Dr(h:PA X es (tEs X.K cal ms))(z:(ms.all λm=>!aH m)=true):PE X (.List es pos) (tF X.K cal (.lst ms)):=by
 refine(tJ h).imp λσ H Q q=>?_
 obtain⟨B,E,O,W,xs,st,J,q⟩:=q;rw[ev]at J;simp only[ez]at J;obtain⟨vs,J,U⟩:=J;split at U
 .rename_i hl;cases U;refine⟨B,E,O,W,xs,st,J,λus H1 Z g1=>⟨?_,λp Y=>?_⟩⟩
  .rw[<- (g1.2 z).length];exact cy hl
  .refine q p us _ (Z.trans (aA Y _)) (Z.free Y) az ?_;rw[iG (KL)];refine Reps.mono (bF (aj.refl H1) λb z=>?_) _ (g1.2 z);rcases tf.mp z with rfl|z
   .exact .inr Y
   .exact .inl z
 .cases U
def HB(Y:PE X v (tE X.K cal a))(hi:PE X s (tE X.K cal i))(hs:b8 s=true):PE X (.Subscript v s pos) (tE X.K cal (.idx a i)):=by
 refine(GW ET Y hi (um hs)).imp λσ H Q q=>?_
 obtain⟨B,E,O,W,v,st,z,q⟩:=q;rw[ev]at z;simp[ez]at z;obtain⟨x,z,y,Z,e3⟩:=z;exact⟨B,E,O,W,x,st,z,λux H1 J g1=>⟨B,E,O,W,y,st.mono J,Z,λuy H2 U g2=>⟨O,x,y,v,bq (J.trans U) st.here,g1.1.mono U,g2.1,e3,λu H3 s3 r=>q u H3 ((J.trans U).trans s3) (.of r)⟩⟩⟩
noncomputable def tB1(K:Nl)(cal:Cal)(z:ME):TO:=λσ H Q=>∃B E O W o,aD K B E O H W σ/\((ev cal z W).bind λv=>bnd z v)=some o/\∀H',aj H H'->Q o H'
def E5(h:jz m=true):PO X none (tB1 X.K cal m):=by
 have e:m=.cst .non:=by
  unfold jz at h;split at h
  .rfl
  .cases h
 subst e;intro pins s σ H Q I q;refine aC λU J=>?_
 obtain⟨B,E,O,W,o,st,z,q⟩:=q;simp[ev,bind_some,bnd]at z;subst z;refine J ?_;exact Bs pins s σ H Q I (q H (aj.refl H))
def E6(h:PE X l (tE X.K cal m))(U:jz m=false):PO X (some l) (tB1 X.K cal m):=by
 intro pins s σ H Q I q;refine aC λZ Y=>?_
 obtain⟨B,E,O,W,o,st,z,q⟩:=q;simp[ez]at z;obtain⟨v,z,J⟩:=z;obtain⟨i,rfl,rfl⟩:∃i,v=.int i/\o=some i:=by
  unfold bnd at J;split at J
  .simp[jz]at U
  .simp_all
  .cases J
 refine Y ?_;exact Bt h pins s σ H Q I ⟨B,E,O,W,_,st,z,λu H' s' g=>⟨i,g.1.int,q H' s'⟩⟩
def Ch{a lo hi:ME}{p2 pos:Pos}(ha:PE X v (tE X.K cal a))(hl:PO X l (tB1 X.K cal lo))(hu:PO X u (tB1 X.K cal hi)):PE X (.Subscript v (.Slice l u none p2) pos) (tE X.K cal (.slice a lo hi)):=by
 refine(yb EU ha hl hu).imp λσ H Q q=>?_
 refine aC λZq kq=>?_
 obtain⟨B,E,O,W,w,st,z,q⟩:=q;rw[ev,ez]at z;obtain⟨x,z,J⟩:=z;rw[ez]at J;obtain⟨ao,J,U⟩:=J;rw[ez]at U;obtain⟨aO,U,e4⟩:=U;refine kq ?_;exact⟨B,E,O,W,x,st,z,λux H1 Y g1=>⟨B,E,O,W,ao,st.mono Y,J,λH2 Z=>⟨B,E,O,W,aO,(st.mono Y).mono Z,U,λH3 s3 =>
  ⟨O,x,w,bq ((Y.trans Z).trans s3) st.here,g1.1.mono (Z.trans s3),e4,λu H4 s4 r=>q u H4 (((Y.trans Z).trans s3).trans s4) (.of r)⟩⟩⟩⟩
def lx {id:String} (hc:bo X (.builtin id) (RBM X.K (av f))) (U:glB X.env.scope x=true) (Y:X.mg x=none) (hv:bootBuiltins x=some (.builtin id)) (Z:x ≠ "__name__") (hd:(x==("__debug__":Str))=false)
  (ha:PA X (e::es) (tEs X.K cal ms)) (hs:(e::es).all ah=true):PE X (.Call (.Name x p) (e::es) [] pos) (tE X.K cal (.blt f ms)):=by
 simp only[all_cons,il]at hs;refine(fg hc (dk U) Y hv ha Z hd (aR hs.1 es _) (bV hs.2)).imp λσ H Q q=>?_
 obtain⟨B,E,O,W,v,st,z,q⟩:=q;rw[ev,ez]at z;obtain⟨vs,z,e2⟩:=z;exact⟨B,E,O,W,vs,st,z,λus H1 J g1=>⟨O,vs,v,bq J st.here,g1.1,e2,λu H2 s2 r=>q u H2 (J.trans s2) (.of r)⟩⟩
def zA {id:String} (hc:bo X (.type id) (RBM X.K (av f))) (U:glB X.env.scope x=true) (Y:X.mg x=none) (hv:bootBuiltins x=some (.type id)) (Z:x ≠ "__name__") (hd:(x==("__debug__":Str))=false)
  (ha:PA X (e::es) (tEs X.K cal ms)) (hs:(e::es).all ah=true):PE X (.Call (.Name x p) (e::es) [] pos) (tE X.K cal (.blt f ms)):=by
 simp only[all_cons,il]at hs;refine(cY hc (dk U) Y hv ha Z hd (aR hs.1 es _) (bV hs.2)).imp λσ H Q q=>?_
 obtain⟨B,E,O,W,v,st,z,q⟩:=q;rw[ev,ez]at z;obtain⟨vs,z,e2⟩:=z;exact⟨B,E,O,W,vs,st,z,λus H1 J g1=>⟨O,vs,v,bq J st.here,g1.1,e2,λu H2 s2 r=>q u H2 (J.trans s2) (.of r)⟩⟩
def pp{K:Nl}(q:tF K cal (.blt f ms) σ H Q):tCB (RBF K (av f)) (tEs K cal ms) σ H Q:=by
 obtain⟨B,E,O,W,xs,st,z,q⟩:=q;rw[ev,ez]at z;obtain⟨vs,z,Z⟩:=z;refine⟨B,E,O,W,vs,st,z,λus H1 J g1=>⟨O,vs,xs,bq J st.here,g1.1,Z,λl ws U r=>q l ws _ (J.trans (aA U _)) (J.free U) az ?_⟩⟩;rw[iG (KL)];refine Reps.mono (bF (aj.refl H1) λb Y=>?_) _ r;rcases tf.mp Y with rfl|Y
 .exact .inr U
 .exact .inl Y
def zB {id:String} (hc:bo X (.builtin id) (RBF X.K (av f))) (z:glB X.env.scope x=true) (J:X.mg x=none) (hv:bootBuiltins x=some (.builtin id)) (U:x ≠ "__name__") (hd:(x==("__debug__":Str))=false)
  (Y:PA X (e::es) (tEs X.K cal ms)) (hs:(e::es).all ah=true):PE X (.Call (.Name x p) (e::es) [] pos) (tF X.K cal (.blt f ms)):=by
 simp only[all_cons,il]at hs;exact(fg hc (dk z) J hv Y U hd (aR hs.1 es _) (bV hs.2)).imp λσ H Q q=>pp q
def Ci {id:String} (hc:bo X (.type id) (RBF X.K (av f))) (z:glB X.env.scope x=true) (J:X.mg x=none) (hv:bootBuiltins x=some (.type id)) (U:x ≠ "__name__") (hd:(x==("__debug__":Str))=false)
  (Y:PA X (e::es) (tEs X.K cal ms)) (hs:(e::es).all ah=true):PE X (.Call (.Name x p) (e::es) [] pos) (tF X.K cal (.blt f ms)):=by
 simp only[all_cons,il]at hs;exact(cY hc (dk z) J hv Y U hd (aR hs.1 es _) (bV hs.2)).imp λσ H Q q=>pp q
def E7(g:Gf X T k cal)(hf:T.fs[f]?=some x)(J:glB X.env.scope x=true)(U:am x=true)(ha:PA X es (tAs X.K cal ms))(hs:es.all ah=true)(hl:ms.length=es.length):PE X (.Call (.Name x p) es [] pos) (tE X.K cal (.call f ms)):=by
 obtain⟨fa,fd,ps,h1,h2,Y,F,_⟩:=g.fns f x hf;have key:∀σ H Q,tE X.K cal (.call f ms) σ H Q->xW (spM X.K cal f) [] E0 (tAs X.K cal ms) σ H Q:=λσ H Q q=>by
  obtain⟨B,E,O,W,v,st,z,q⟩:=q;rw[ev,ez]at z;obtain⟨vs,z,e2⟩:=z;refine⟨B,E,O,W,vs,st,z,λus H1 Z g1=>⟨O,vs,v,bq Z st.here,?_,e2,λu H2 s2 r=>q u H2 (Z.trans s2) (.of r)⟩⟩
  simp_all
 cases es with
 |nil =>
  refine(xY F g.room (dk J) h1 h2 Y .nil rj (g7 U).1).imp λσ H Q q=>?_
  obtain⟨B,E,O,W,vs,st,z,q⟩:=key σ H Q q;cases ms with
  |nil =>
   simp only[evA,pd]at z;subst z;exact q [] H (aj.refl H) .nil
  |cons m ms=>simp at hl
 |cons e es =>
  simp only[all_cons,il]at hs;exact(lU F g.room (dk J) h1 h2 Y .nil rj ha (g7 U).1 (aR hs.1 es _) (bV hs.2)).imp key
end
section
variable{K:Nl}{H:Hp}{O:List Addr}
def zC(kvs)(i):ja (gu kvs) (Sum.inl i:Key)=(bM kvs i).map Sc.v:=by
 unfold ja gu bM;rw[find?_map,MJ,MJ];have e:((λz:Key×V=>decide (z.1=(Sum.inl i:Key)))∘λp:Int×Sc=>((Sum.inl p.1:Key),p.2.v))=λp:Int×Sc=>decide (p.1=i):=by
  funext p
  simp
 rw[e]
 rfl
def zD(kvs)(k):ja (jx kvs) (k.map Sum.inl)=(bM kvs k).map Sc.v:=by
 unfold ja jx bM;rw[find?_map,MJ,MJ];have e:((λz:List Key×V=>decide (z.1=k.map Sum.inl))∘λp:List Int×Sc=>((p.1.map Sum.inl:List Key),p.2.v))=λp:List Int×Sc=>decide (p.1=k):=by
  funext p
  exact Nb.mpr ⟨l5,λe=>J5 _ e⟩
 rw[e]
 rfl
def Cj(ns:List Int):(ns.map Sum.inl:List Key).map kV=ns.map V.int:=by
 rw[JT]
 rfl
def vF(e:a_ xs=some ns)(r:bD K H O (.tup xs) u):∃b,u=.ref b/\H b=some (.tup ((ns.map Sum.inl:List Key).map kV)):=by
 have z:=di e;subst z;obtain⟨b,us,rfl,h,t⟩:=r.tupH;have J:=t.ints;subst J;exact⟨b,rfl,by rw[Cj];exact h⟩
def qz(e:wU (.dI d) y=some o)(U:RdD H a d)(r:bD K H O y u):mF H a u (o.map Sc.v):=by
 cases d with
 |k kvs =>
  cases y<;>try (cases e;done)
  rename_i i;have z:=r.int;subst z;have J:=JP e;rw[<- J,<- zC];exact .inl ⟨_,Sum.inl i,U.rd,rfl,rfl⟩
 |p ns=>cases y<;>cases e
 |t kvs =>
  cases y<;>try (cases e;done)
  rename_i xs;have e:(a_ xs).map _=some o:=e;rw[mx]at e;obtain⟨ns,z,J⟩:=e;obtain⟨b,rfl,Y⟩:=vF z r;rw[<- J,<- zD];exact .inr ⟨_,_,b,U.rd,rfl,Y,rfl⟩
def zE(kvs)(k)(s):gh (gu kvs) (Sum.inl k:Key) s.v=gu (cF kvs k s):=by
 have z:((gu kvs).any λJ=>decide (J.1=(Sum.inl k:Key)))=kvs.any λp=>decide (p.1=k):=by
  unfold gu;rw[List.any_map]
  congr 1
  funext p
  simp
 unfold gh cF;rw[z];split
 .unfold gu;rw[JT,JT];refine KU λp _=>?_
  by_cases h:p.1=k<;>simp[h]
 .unfold gu;rw[Ko]
  rfl
def zF(kvs)(k)(s):gh (jx kvs) (k.map Sum.inl:List Key) s.v=jx (cF kvs k s):=by
 have J:∀q,_ ↔ q=k:=λq=>⟨l5,λe=>by rw[e]⟩
 have U:((jx kvs).any λY=>decide (Y.1=(k.map Sum.inl:List Key)))=kvs.any λp=>decide (p.1=k):=by
  unfold jx;rw[List.any_map]
  congr 1
  funext p
  simp_all
 unfold gh cF;rw[U];split
 .unfold jx;rw[JT,JT];refine KU λp _=>?_
  by_cases h:p.1=k
  .have h2:=(J p.1).mpr h;simp[h]
  .have h2:¬ _=k.map Sum.inl:=λz=>h ((J p.1).mp z)
   simp[h,h2]
 .unfold jx;rw[Ko]
  rfl
def vG{y:PV}{s:Sc}{a:Addr}{u:V}(e:qk d y s=some d')(U:H a=some (iD d))(r:bD K H O y u):mG H a u s.v (upd H a (iD d')):=by
 cases d with
 |p ns=>cases y<;>cases e
 |k kvs =>
  cases y<;>try (cases e;done)
  rename_i i;have J:=r.int;subst J;have z:(if kvs.length<10000 then some (DD.k (cF kvs i s))else none)=some d':=e;split at z
  .rename_i Y;cases z;show mG H a (.int i) s.v (upd H a (.dK (gu (cF kvs i s))));rw[<- zE];exact mG.k (k:=Sum.inl i) U (by unfold gu;rw[nR,Ke];omega)
  .cases z
 |t kvs =>
  cases y<;>try (cases e;done)
  rename_i xs;have e:((a_ xs).bind λk=>if kvs.length<10000 then some (DD.t (cF kvs k s))else none)=some d':=e;rw[ez]at e;obtain⟨ns,J,z⟩:=e;obtain⟨b,rfl,Z⟩:=vF J r;split at z
  .rename_i Y;cases z;show mG H a (.ref b) s.v (upd H a (.dT (jx (cF kvs ns s))));rw[<- zF];exact mG.t U Z (by unfold jx;rw[nR,Ke];omega)
  .cases z
end
section
variable{X:Cx}{pins:List (Addr×Obj)}{σ:St}{H:Hp}{s:Shared}
def vH(I:Inv X pins σ H s)(h:RdD H a d):(a==sysModules)=false/\∃es ep,Dv.Ents s.heap a es ep/\aG ((dSc d).map Sc.v) (es.toList.map (·.val)):=by
 cases d with
 |k kvs =>
  obtain⟨_,hs,vs,r,o,es,ep,ho,hx,hd,_,z,_⟩:=je I.hok h.rd;refine⟨hs,es,ep,⟨o,ho,hx,hd⟩,?_⟩;have gen:∀kvs vs l,KV (gu kvs) vs->Pairs (bC X.prog X.w) l vs->aG ((kvs.map (·.2)).map Sc.v) (l.map (·.val)):=by
   intro kvs
   induction kvs with
   |nil =>
    intro vs l r p;cases r;cases p;exact .nil
   |cons q kvs ih =>
    intro vs l r p;cases r with
    |cons J U =>
     cases p with
     |cons p1 p2 p3=>exact .cons (by have h:=J.2;rw[<- p2]at h;exact h) (ih _ _ U p3)
  exact gen kvs vs es.toList r z
 |p ns=>exact absurd h.2 mu
 |t kvs =>
  obtain⟨_,hs,xs,r,o,es,ep,ho,hx,hd,z,_⟩:=lj I.hok h.rd;refine⟨hs,es,ep,⟨o,ho,hx,hd⟩,?_⟩;rw[z,JT];have gen:∀kvs xs,KT H (jx kvs) xs->aG ((kvs.map (·.2)).map Sc.v) (xs.map (·.2.2)):=by
   intro kvs
   induction kvs with
   |nil =>
    intro xs r;cases r;exact .nil
   |cons q kvs ih =>
    intro xs r;cases r with
    |cons J U=>exact .cons J.2.2 (ih _ U)
  exact gen kvs xs r
noncomputable def HC(p a:Addr):HO:=.ext λh=>h.IsValuesView p a
def ur{es:Array DictEntry}(h:ItemsOf (λi v=>∃e,es[i]?=some e/\v=e.val) acc es.size):acc.toList=es.toList.map (·.val):=by
 refine M7 λi=>?_
 rw[JZ,Kj,Kj];cases e:acc[i]? with
 |none =>
  have:acc.size<=i:=by simpa using e
  rw[LB (by rw[<- h.1];exact this)]
  rfl
 |some v =>
  obtain⟨q,z,rfl⟩:=h.2 i v e;rw[z]
  rfl
end
section
variable{X:Cx}{T:Tab}{k:Nat}{cal:Cal}
def Ck (J:attributeBase o "values" X.env (eval o X.env)=eval o X.env) (U:(ap.endLine==cp.line)=true) (ho:PE X o td) :
  PE X (.Call (.Attribute o "values" ap) [] [] cp) (λσ H Q=>td σ H λx H1=>∃a d,x=.ref a/\RdD H1 a d/\∀p,H1 p=none->Q (.ref p) (upd H1 p (HC p a))):=by
 intro pins s σ H Q I h;refine wpAny_Call_method J rfl U PySem.F.plainAttrs_dict PySem.F.slot_dict_values PySem.F.type_dict_values (thn (ho pins s σ H _ I h) λu Y ⟨x,H1,z,Z,a,d,ex,hd,q1⟩=>?_);subst ex;obtain rfl:u=Value.ref a:=Z;obtain⟨t1,t2,_⟩:=tN z (qu hd);refine⟨t1,t2,?_⟩;refine LA rfl (PyProof.Rows.evalArgs_empty ?_);obtain⟨hs,es,ep,x,_⟩:=vH z hd;refine Dv.values_of hs x ⟨.ref Y.heap.objs.size,_,z.laid (λb o e=>gk _ e) (gx _) ?_,rfl,q1 _ (z.hok.fresh (gx _))⟩;exact⟨⟨_,pe _ rfl,rfl,rfl⟩,⟨_,pe _ rfl⟩,λh1 h2 ⟨o,ho,r⟩ k=>⟨o,k o ho,r⟩⟩
def ut (hc:X.calm=true):bo X (.type "list") (λus H Q=>∃p a d,us=[.ref p]/\H p=some (HC p a)/\RdD H a d/\(dSc d).length<=10000/\∀l,H l=none->Q (.ref l) (upd H l (.lst ((dSc d).map Sc.v)))):=by
 intro pins s σ H xs us Q I r h;refine aC λZq U=>?_
 obtain⟨p,a,d,rfl,Y,Z,hl,q⟩:=h;obtain⟨u,rfl,ru⟩:=dB r;cases ru;obtain⟨_,es,ep,x,vs⟩:=vH I Z;have hv:=(show bI X.prog X.w H s.heap p _ from I.hok p _ Y).1;have z:es.size=(dSc d).length:=by have:=vs.length;simp at this;omega
 refine U ?_;refine PySem.W.kdl_call (Dv.src) (I.ok.hd hc) ⟨hv,x⟩ (by rw[z,Ke];omega) λh' tk J c kp e it=>?_
 refine⟨.ref s.heap.objs.size,_,I.laid kp (gx _) (o:=.lst _) ⟨by rw[nR,Ke];omega,J.toList,c,?_,by rw[Array.toArray_toList];exact e⟩,rfl,q _ (I.hok.fresh (gx _))⟩;rw[ur it];exact vs
def Cl{P:Program}{w:World}{n:Int}{v:Value}(h:(bC P w).is (Sum.inl n) v=true):∃t,v=.int n t:=by
 rw[tm]at h;cases v<;>simp[lf,Value.isInt]at h
 subst h;exact⟨_,rfl⟩
def qA (hc:X.calm=true):bo X (.builtin "sorted") (RBF X.K (av .sortedKeys)):=by
 intro pins s σ H xs us Q I r h;obtain⟨O,vs,ys,hO,rs,e,q⟩:=h;obtain⟨x,rfl⟩:=cD e (.inl rfl);obtain⟨u,rfl,rx⟩:=p1 rs;have hd:∃kvs,x=.dI (.k kvs)/\kvs.length<64/\ys=(sortI (kvs.map (·.1))).map .int:=by
  simp only[av,b7]at e;split at e
  .split at e
   .rename_i kvs hl;cases e;exact⟨kvs,rfl,hl,rfl⟩
   .cases e
  .cases e
 obtain⟨kvs,rfl,Z,rfl⟩:=hd;obtain⟨a,rfl,ha⟩:=rx.dI;obtain⟨u,rfl,ru⟩:=dB r;cases ru;obtain⟨hz,hs,Y,U,dd⟩:=je I.hok (show Rd H a (.dK (gu kvs))from ha.rd);obtain⟨ep,ao⟩:=dd.dictAt;have z:Y.length=kvs.length:=by rw[<- U.length];unfold gu;rw[nR]
 have J:Y.map (·.1)=kvs.map λp=>(Sum.inl p.1:Key):=by
  rw[<- U.keys];unfold gu;rw[JT]
  rfl
 refine Srt.iB (ks:=kvs.map (·.1)) (by rw[nR];exact Z) (λQ' aO=>?_) λh1 h' tk d' out c k1 k2 e hi=>?_
 .refine PySem.W.kdu_collect (PySem.W.kdl_dict (knd:=bC X.prog X.w) (kvs:=Y) (ep:=ep) hs) (by simpa using I.ok.hd hc) ao (by rw[z,Ke];omega) λh' tk a9 kp it=>?_
  refine aO h' tk s.drawn _ (kvs.map (·.1)) kp (.refl _) (St.jg ⟨by rw[it.1,z,nR],λj v ej=>?_⟩);obtain⟨kk,xx,e1,e2⟩:=it.2 j v ej;have e3:(Y.map (·.1))[j]?=some kk:=by rw[JZ,e1];rfl
  rw[J,JZ,mx]at e3;obtain⟨p,e4,rfl⟩:=e3;rw[Kt,JZ,e4];exact Cl e2
 .have I1:Inv X pins σ H { s with heap:=h1,toks:=tk,drawn:=d' }:=I.keptD k1;have I2:Inv X pins σ (upd H h1.objs.size (.lst ((Srt.sortI (kvs.map (·.1))).map V.int))) { s with heap:=h',toks:=tk,drawn:=d' }:=
   I1.laid (t':=tk) k2 (gx _) (show bI X.prog X.w _ h' _ (.lst _)from⟨by rw[nR,Srt.sortI_len,nR,Ke];omega,out,c,o5 hi,e⟩)
  refine⟨.ref h1.objs.size,_,I2,rfl,q _ _ (I1.hok.fresh (gx _)) ?_⟩;rw[dl];exact .of_ints _
end
def qB:bootBuiltins "len"=some (.builtin "len"):=by decide +kernel
def ni:bootBuiltins "tuple"=some (.type "tuple"):=by decide +kernel
def qC:bootBuiltins "list"=some (.type "list"):=by decide +kernel
def kT:bootBuiltins "sorted"=some (.builtin "sorted"):=by decide +kernel
def E8:bootBuiltins "any"=some (.builtin "any"):=by decide +kernel
def E9:bootBuiltins "all"=some (.builtin "all"):=by decide +kernel
def zG:bootBuiltins "max"=some (.builtin "max"):=by decide +kernel
def zH:bootBuiltins "min"=some (.builtin "min"):=by decide +kernel
def zI:bootBuiltins "int"=some (.type "int"):=by decide +kernel
def Cm:bootBuiltins "bool"=some (.type "bool"):=by decide +kernel
def qD:bootBuiltins "set"=some (.type "set"):=by decide +kernel
def oM:bootBuiltins "isinstance"=some (.builtin "isinstance"):=by decide +kernel
section
variable{X:Cx}{T:Tab}{k:Nat}{cal:Cal}
def E_ {p p2 pos:Pos} (g:Gf X T k cal) (U:dj f=some c) (hg:glB X.env.scope "isinstance"=true) (ht:t=(c:Str)) (Y:glB X.env.scope t=true)
  (Z:bootBuiltins c=some (.type c)) (ao:X.mg c=none) (hn:(c:Str) ≠ "__name__") (hd:((c:Str)==("__debug__":Str))=false) (h:PE X e (tE X.K cal m)) (hs:ah e=true):PE X (.Call (.Name "isinstance" p) [e,.Name t p2] [] pos) (tE X.K cal (.blt f [m])):=by
 subst ht;refine(fg (EY U) (dk hg) (g.blt "isinstance" (by decide)) oM (aJ h (aJ (Bg (v:=.ty c) (dk Y) ao Z rfl hn hd) bJ rfl) (aR hs _ _)) (by decide) (by decide) (aR hs _ _) rfl).imp λσ H Q q=>?_
 obtain⟨B,E,O,W,v,st,z,q⟩:=q;rw[ev,ez]at z;obtain⟨vs,z,J⟩:=z;obtain⟨w,rfl,e3⟩:=se z;have e5:isD w=false/\v=.bl (isT f w):=by
  cases hd:isD w with
  |true=>cases f<;>simp[dj,reduceCtorEq]at U<;>(simp only[av,b7,gY,jb,hd]at J;cases J)
  |false=>cases f<;>simp[dj,reduceCtorEq]at U<;>(simp[av,b7,gY,jb,hd,JV,KH,pd]at J;exact⟨rfl,J.symm⟩)
 obtain⟨e5,rfl⟩:=e5;refine⟨B,E,O,W,w,st,e3,λu H1 s1 g1=>⟨O,w,u,rfl,e5,g1.1,q _ H1 s1 (.of (eN _ _))⟩⟩
def sf {p p2 pos pos2:Pos} (g:Gf X T k cal) (hx:x=("sorted":Str)) (hy:y=("set":Str)) (hg:glB X.env.scope x=true) (U:glB X.env.scope y=true) (h:PE X e (tE X.K cal m)) (hs:ah e=true):PE X (.Call (.Name x p) [.Call (.Name y p2) [e] [] pos2] [] pos) (tF X.K cal (.blt .sortedSet [m])):=by
 subst hx hy;refine(fg (sa g.calm) (dk hg) (g.blt "sorted" (by decide)) kT (aJ (cY (vC g.calm) (dk U) (g.blt "set" (by decide)) qD (aJ h bJ (aR hs _ _)) (by decide) (by decide) (aR hs _ _) rfl) bJ rfl) (by decide) (by decide) rfl rfl).imp λσ H Q q=>?_
 refine aC λZq kq=>?_
 obtain⟨B,E,O,W,xs,st,J,q⟩:=q;rw[ev,ez]at J;obtain⟨vs,J,Z⟩:=J;obtain⟨w,rfl,e3⟩:=se J;simp only[av,b7,lP,gY,jb,ez]at Z;obtain⟨ys,e4,ns,e5,Y⟩:=Z;refine kq ?_;split at Y
 .rename_i hc;cases Y;refine⟨B,E,O,W,w,st,e3,λu H1 s1 g1=>⟨O,w,u,ns,rfl,g1.1,by simp[e4,e5],hc.1,λl hl=>⟨l,_,rfl,az,?_,λp' z=>?_⟩⟩⟩
  .rw[uo];exact hc.2
  .rw[Cd];refine q p' _ _ ((s1.trans (aA hl _)).trans (aA z _)) (s1.free ((aA hl _).free z)) az (.of_ints _)
 .cases Y
def zJ {p p2 pos pos2:Pos} (g:Gf X T k cal) (hx:x=("len":Str)) (Z:y=("set":Str)) (hg:glB X.env.scope x=true) (J:glB X.env.scope y=true) (h:PE X e (tE X.K cal m)) (hs:ah e=true):PE X (.Call (.Name x p) [.Call (.Name y p2) [e] [] pos2] [] pos) (tE X.K cal (.blt .lenSet [m])):=by
 subst hx Z;refine(fg qj (dk hg) (g.blt "len" (by decide)) qB (aJ (cY (vC g.calm) (dk J) (g.blt "set" (by decide)) qD (aJ h bJ (aR hs _ _)) (by decide) (by decide) (aR hs _ _) rfl) bJ rfl) (by decide) (by decide) rfl rfl).imp λσ H Q q=>?_
 refine aC λZq kq=>?_
 obtain⟨B,E,O,W,v,st,z,q⟩:=q;rw[ev,ez]at z;obtain⟨vs,z,Y⟩:=z;obtain⟨w,rfl,e3⟩:=se z;simp only[av,b7,lP,gY,jb,ez]at Y;obtain⟨ys,e4,ns,e5,U⟩:=Y;refine kq ?_;split at U
 .rename_i hc;cases U;refine⟨B,E,O,W,w,st,e3,λu H1 s1 g1=>⟨O,w,u,ns,rfl,g1.1,by simp[e4,e5],hc,λl hl=>⟨l,_,rfl,az,?_⟩⟩⟩;rw[uo];exact q _ _ (s1.trans (aA hl _)) (.of (bE _ _))
 .cases U
def sg {p p2 p3 q2 q3 q4 pos:Pos} (g:Gf X T k cal) (hx:x=("len":Str)) (hy:y=("set":Str)) (hz:z=("set":Str)) (hg:glB X.env.scope x=true) (ao:glB X.env.scope y=true) (aO:glB X.env.scope z=true) (ha:PE X a (tE X.K cal m1)) (hb:PE X b (tE X.K cal m2)) (J:ah a=true) (U:ah b=true) :
  PE X (.Call (.Name x p) [.BinOp (.Call (.Name y p2) [a] [] q2) .Sub (.Call (.Name z p3) [b] [] q3) q4] [] pos) (tE X.K cal (.blt .lenSetSub [m1,m2])):=by
 subst hx hy hz;refine(fg rN (dk hg) (g.blt "len" (by decide)) qB (aJ (uT wT (cY (vC g.calm) (dk ao) (g.blt "set" (by decide)) qD (aJ ha bJ (aR J _ _)) (by decide) (by decide) (aR J _ _) rfl) (cY (vC g.calm) (dk aO) (g.blt "set" (by decide)) qD (aJ hb bJ (aR U _ _)) (by decide) (by decide) (aR U _ _) rfl)) bJ rfl) (by decide) (by decide) rfl rfl).imp λσ H Q q=>?_
 refine aC λZq kq=>?_
 obtain⟨B,E,O,W,v,st,Y,q⟩:=q;rw[ev,ez]at Y;obtain⟨vs,Y,e2⟩:=Y;simp only[evs,ez,mx]at Y;obtain⟨v1,e3,w1,⟨v2,e4,w2,e5,rfl⟩,rfl⟩:=Y;cases e5;simp only[av,b7,lP,gY,jb,ez]at e2;obtain⟨xs,f1,ns,f2,ys,f3,ms,f4,f5⟩:=e2;refine kq ?_;split at f5
 .rename_i hc;cases f5;refine⟨B,E,O,W,v1,st,e3,λu H1 s1 g1=>⟨O,v1,u,ns,rfl,g1.1,by simp[f1,f2],hc.1,λl hl=>?_⟩⟩;refine⟨B,E,O,W,v2,st.mono (s1.trans (aA hl _)),e4,λu2 H2 s2 g2=>⟨O,v2,u2,ms,rfl,g2.1,by simp[f3,f4],hc.2.1,λl2 Z=>?_⟩⟩;refine⟨l,l2,_,_,rfl,rfl,(aA Z _) l _ (s2 l _ az),az,by rw[uo];exact hc.2.2,λp' a1=>⟨p',_,rfl,az,?_⟩⟩;have e6:((St.dd ns.reverse).filter λk=>!decide (k∈St.dd ms.reverse)).length=((dd ns).filter λn=>!decide (n∈ms)).length:=by
   rw[ph];have e7:(λk=>!decide (k∈St.dd ms.reverse))=λn=>!decide (n∈ms):=by
    funext k
    congr 1
    rw[Nb,St.fU,Nh]
   rw[e7];refine Perm.length_eq (Perm.filter _ ((KY (St.dd_nodup _) (St.dd_nodup _)).mpr λa=>?_));rw[St.fU,St.fU,Nh]
  rw[e6];exact q _ _ ((s1.trans (aA hl _)).trans (s2.trans ((aA Z _).trans (aA a1 _)))) (.of (bE _ _))
 .cases f5
theorem sh :∀{kvs}{ks}{vs},rW kvs ks vs=true->PPs X kpos ks vs (kvs.map λp=>(tC (.str p.1),tC (.str p.2)))/\ks.all (·.isSome)=true/\ks.length=vs.length/\ks.length=kvs.length
 | [],[],[],_=>⟨BD,rfl,rfl,rfl⟩
 |p::r,k::ks,v::vs,h=>by
  obtain⟨a,z⟩:=g4.mp h;obtain⟨h1,h2⟩:=g4.mp a;obtain⟨J,U,Y,Z⟩:=sh (kpos:=kpos) z;cases k with
  |none=>cases h1
  |some k =>
   obtain⟨j,kp,rfl⟩:=vo (eq_of_beq h1);obtain⟨j2,vp,rfl⟩:=vo (eq_of_beq h2);exact⟨ym tq tq J,by rw[all_cons,U];rfl,by rw[length_cons,length_cons,Y],by rw[length_cons,length_cons,Z]⟩
 | [],_::_,_,h=>by cases h
 | [],[],_::_,h=>by cases h
 | _::_,[],_,h=>by cases h
 | _::_,_::_,[],h=>by cases h
theorem nj{σ:St}:∀{kvs:List (Str×Str)}{H}{Q},Q (kvs.map λp=>(V.str p.1,V.str p.2)) H->qb (kvs.map λp=>(tC (.str p.1),tC (.str p.2))) σ H Q
 | [],_,_,h=>h
 |p::r,H,Q,h=>nj (kvs:=r) (Q:=λps z=>Q ((V.str p.1,V.str p.2)::ps) z) h
def Fa(g:Gf X T k cal)(hd:rW kvs ks vs=true)(hl:kvs.length<=15)(h0:kvs.isEmpty=false)(hk:PE X i (tE X.K cal m))(hs:b8 i=true):PE X (.Subscript (.Dict ks vs dp) i pos) (tE X.K cal (.disp kvs m)):=by
 have hu:X.A.units+1<cLine:=by have:=g.units;omega
 obtain⟨q1,q2,q3,q4⟩:=sh (X:=X) (kpos:=dp) hd;have hn:ks≠[]:=λz=>by
  grind
 refine(uZ hu (BE q1 q2 q3 hn (by omega)) hk (by cases i<;>first|(intro _ _;rfl)|(simp[b8]at hs))).imp λσ H Q q=>?_
 obtain⟨B,E,O,W,v,st,J,q⟩:=q;rw[ev,ez]at J;obtain⟨w,J,Y⟩:=J;cases w with
 |str x =>
  have U:(ja (iz [] (o_ kvs)) (Sum.inr x)).bind (λv=>match v with|.str y=>some (PV.str y)|_=>none)=some v:=Y;rw[ez]at U;obtain⟨u,U,Z⟩:=U;cases u with
  |str y =>
   cases Z;intro p hp;refine nj ⟨az,o_ kvs,by unfold o_;rw[JT];rfl,by unfold o_;rw[nR];exact hl,?_⟩;have s1:aj H (upd (upd H p (.dK [])) p (.dK (iz [] (o_ kvs)))):=λb o e=>by
    have hb:b≠p:=λz=>by rw[z,hp]at e;cases e
    rw[aW hb,aW hb];exact e
   refine⟨B,E,O,W,_,st.mono s1,J,λuy H2 s2 g2=>?_⟩;have ey:=g2.1.str;subst ey;exact⟨p,V.str y,rfl,.inl ⟨_,Sum.inr x,.inl (s2 _ _ az),rfl,U.symm⟩,q _ H2 (s1.trans s2) (.of (l7 _ _))⟩
  | _=>cases Z
 | _=>cases Y
def Fb (g:Gf X T k cal) (hg:glB X.env.scope ("len":Str)=true) (hn:aU X.N X.env.scope i y=true):PE X (.Call (.Name ("len":Str) p) [.Name y yp] [] pos) (tE X.K cal (.lenP i)):=by
 refine(fg gU (dk hg) (g.blt "len" (by decide)) qB (aJ (cb hn) bJ rfl) (by decide) (by decide) rfl rfl).imp λσ H Q q=>?_
 refine aC λZq kq=>?_
 obtain⟨B,E,O,W,v,st,z,q⟩:=q;rw[ev]at z;have fin:∀ns a,H a=some (iD (.p ns))->v=.int ns.length->σ[i]?=some (some (.ref a))->∃u,σ[i]?=some (some u)/\∃a J,[u]=[V.ref a]/\(SqL X.K H a J\/SqT X.K H a J)/\Q (.int J.length) H:=λns a U hv Y=>by
  refine⟨_,Y,a,ns.map V.int,rfl,.inl (SqL.of U),?_⟩;rw[nR];subst hv;exact q _ H (aj.refl H) (.of (bE _ _))
 refine kq ?_;cases Z:(W[i]?).join with
 |none=>rw[Z]at z;cases z
 |some m =>
  rw[Z]at z;obtain⟨u,Y,so⟩:=aQ st Z;cases m with
  |ownD d|mutD d =>
   cases d with
   |p ns =>
    cases z;obtain⟨a,rfl,U,_⟩:=so;exact fin ns a U rfl Y
   | _=>cases z
  | _=>cases z
def si{cond elt:ME}:∀W v,ev cal (.comp z src js cond elt) W=some v->∃xs,v=.lst xs:=λW v hv=>by
 rw[ev,ez]at hv;obtain⟨vs,_,hv⟩:=hv;rw[ez]at hv;obtain⟨xs,_,hv⟩:=hv;split at hv
 .simp at hv;obtain⟨ys,_,rfl⟩:=hv;exact⟨_,rfl⟩
 .cases hv
def dR(z:f=.listOf\/f=.sorted\/f=.sortedSet\/f=.sortedKeys\/f=.valuesOf) :∀W v,ev cal (.blt f ms) W=some v->∃xs,v=.lst xs:=λW v hv=>by
 rw[ev,ez]at hv;obtain⟨vs,_,hv⟩:=hv;rcases z with rfl|rfl|rfl|rfl|rfl
 .obtain⟨x,rfl⟩:=cD hv (.inl rfl);simp only[av,b7,lP,gY,jb,mx]at hv;obtain⟨ys,_,rfl⟩:=hv;exact⟨_,rfl⟩
 .obtain⟨x,rfl⟩:=cD hv (.inl rfl);simp only[av,b7,lP,gY,jb,ez]at hv;obtain⟨ys,_,hv⟩:=hv;unfold iC at hv;split at hv
  .split at hv
   .cases hv;exact⟨_,rfl⟩
   .simp only[mx]at hv;obtain⟨J,_,rfl⟩:=hv;exact⟨_,rfl⟩
  .cases hv
 .obtain⟨x,rfl⟩:=cD hv (.inr (.inr (.inl rfl)));simp only[av,b7,lP,gY,jb,ez]at hv;obtain⟨ys,_,ns,_,hv⟩:=hv;split at hv
  .cases hv;exact⟨_,rfl⟩
  .cases hv
 .obtain⟨x,rfl⟩:=cD hv (.inl rfl);simp only[av,b7]at hv;split at hv
  .split at hv
   .cases hv;exact⟨_,rfl⟩
   .cases hv
  .cases hv
 .obtain⟨x,rfl⟩:=cD hv (.inr (.inr (.inr (.inr rfl))));simp only[av,b7]at hv;split at hv
  .grind
  .cases hv
def qE{cond:ME}(h:rV f cond ifs=true)(hc:∀c,f c=true->PT X c (tT X.K cal cond)):PF X ifs (tT X.K cal cond):=by
 match ifs,h with
 | [],h =>
  have e:cond=.cst (.bl true):=by
   simp[rV]at h;split at h
   .rfl
   .cases h
  subst e;intro pins s σ H Q I q;refine aC λU J=>?_
  obtain⟨B,E,O,W,b,st,z,q⟩:=q;simp only[evB,ev,bind_some,aZ,pd]at z;subst z;refine J ?_;exact Ec pins s σ H Q I (q H (aj.refl H))
 | [c],h=>exact Ed (hc c h)
def kU(ao:tup=true->∃ts j tp,tg=.Tuple ts j tp)(g:Gf X T k cal)(h:mZ X.env.scope tup (λxs=>chks T src X.N X.env.scope xs) k' it=true)(hs:∀xs,chks T src X.N X.env.scope xs=true->PA X xs (tEs X.K cal src)/\xs.all ah=true/\src.length=xs.length)
  (h1:∀m x,src=[m]->chks T src X.N X.env.scope [x]=true->PE X x (tE X.K cal m)):PI X tg it (tW X.K cal k' src)/\fq it=true:=by
 cases k' with
 |seq =>
  replace h:=g4.mp h
  obtain⟨z,h⟩:=h;refine⟨?_,z⟩;obtain⟨_,_,J⟩:=hs _ h;obtain⟨m,rfl⟩:=LH.mp J;cases U:aH m with
  |false=>exact Ho U (h1 m it rfl h)
  |true =>
   have q1:=(b9 h).1.1;obtain⟨i,rfl⟩:=m3 U;obtain⟨x,p,rfl,q⟩:=jZ q1;exact Hq q
 |rng =>
  replace h:=ak h
  obtain⟨c,e1,h⟩:=h;obtain⟨p,pos,rfl⟩:=fK e1;simp only[il,JQ,Nf]at h;obtain⟨⟨⟨hx,Z⟩,Y⟩,z⟩:=h;obtain⟨q,a1,J⟩:=hs _ Y;exact⟨Cf g hx Z q z a1 J,rfl⟩
 |enm =>
  replace h:=ak h
  obtain⟨⟨x,a⟩,e1,h⟩:=h;obtain⟨p,pos,rfl⟩:=g5 e1;simp only[il,JQ]at h;obtain⟨⟨⟨⟨ht,hx⟩,Z⟩,Y⟩,z⟩:=h;obtain⟨ts,j,tp,rfl⟩:=ao ht;obtain⟨_,_,J⟩:=hs _ Y;refine⟨?_,rfl⟩;obtain⟨m,rfl⟩:=LH.mp J;cases U:aH m with
  |false=>exact Hr g hx Z z U (h1 m a rfl Y)
  |true =>
   have q1:=(b9 Y).1.1;obtain⟨i,rfl⟩:=m3 U;obtain⟨y,p,rfl,q⟩:=jZ q1;exact E3 g hx Z q
 |rev=>cases h
def uu(K)(F)(s:Sc):Rep K F s.pv s.v:=by cases s<;>simp[Sc.pv,Sc.v,Rep]
def uv{K:Nl}(e:sc? x=some s)(r:bD K H O x u):u=s.v:=by
 cases x<;>simp[sc?,pd,reduceCtorEq]at e<;>subst e
 .exact r.non
 .exact r.bl
 .exact r.int
 .exact r.str
def base_of(z:pf o=true):attributeBase o n X.env (eval o X.env)=eval o X.env:=by
 cases o<;>first|rfl|(simp at z;done)|skip
 rename_i fn args kws pos;cases args with
 |nil=>simp[pf]at z
 |cons _ _=>cases fn<;>rfl
theorem vI(K)(F):∀ss:List Sc,Reps K F (ss.map Sc.pv) (ss.map Sc.v)
 | []=>rfl
 |s::ss=>⟨_,_,rfl,uu K F s,vI K F ss⟩
def zK (g:Gf X T k cal) (hx:x=("list":Str)) (hg:glB X.env.scope x=true) (h:PE X o (tE X.K cal m)) (hb:attributeBase o "values" X.env (eval o X.env)=eval o X.env) (J:(ap.endLine==cp.line)=true) :
  PE X (.Call (.Name x p) [.Call (.Attribute o "values" ap) [] [] cp] [] pos) (tF X.K cal (.blt .valuesOf [m])):=by
 subst hx;refine(cY (ut g.calm) (dk hg) (g.blt "list" (by decide)) qC (aJ (Ck hb J h) bJ rfl) (by decide) (by decide) rfl rfl).imp λσ H Q q=>?_
 refine aC λZq kq=>?_
 obtain⟨B,E,O,W,xs,st,Y,q⟩:=q;rw[ev,ez]at Y;obtain⟨vs,Y,U⟩:=Y;obtain⟨w,rfl,e3⟩:=se Y;have hd:∃d,w=.dI d/\(lr d).length<=10000/\xs=lr d:=by
  simp[av,b7]at U;split at U
  .split at U
   .rename_i d J
    simp_all
   .cases U
  .cases U
 obtain⟨d,rfl,hz,rfl⟩:=hd;have Z:(dSc d).length<=10000:=by unfold lr at hz;rw[nR]at hz;exact hz
 refine kq ?_;refine⟨B,E,O,W,_,st,e3,λu H1 s1 g1=>?_⟩;obtain⟨a,rfl,ha⟩:=g1.1.dI;refine⟨a,d,rfl,ha,λp' z=>⟨p',a,d,rfl,az,aj.rdD (aA z _) ha,Z,λl J=>?_⟩⟩;refine q l _ _ ((s1.trans (aA z _)).trans (aA J _)) (s1.free ((aA z _).free J)) az ?_;exact vI _ _ _
def Cn{α:Type}:∀{es:List α},es.length=2->∃m z,es=[m,z]
 | [_,_],_=>⟨_,_,rfl⟩
def Fc {sc:Scope}{f:List Expr->Bool}{n:Nat}{args:List Expr} (J:lY sc f n .lenSetSub args=true):∃U y z Y p2 Z p3 q3 q4,args=[.BinOp (.Call (.Name U p2) [y] [] Z) .Sub (.Call (.Name z p3) [Y] [] q3) q4]/\U="set"/\glB sc U=true/\z="set"/\glB sc z=true/\f [y,Y]=true/\n=2:=by
 refine aC λZq kq=>?_
 obtain⟨a,e1,J⟩:=ak J;obtain⟨⟨l,o,r,q4⟩,e2,J⟩:=ak J;obtain⟨⟨U,y⟩,e3,J⟩:=ak J;obtain⟨⟨z,Y⟩,e4,J⟩:=ak J;simp only[il,JQ]at J;obtain⟨⟨⟨⟨⟨⟨a0,a1⟩,a2⟩,a3⟩,a4⟩,a5⟩,a6⟩:=J;obtain⟨p2,Z,e3⟩:=g5 e3;obtain⟨p3,q3,e4⟩:=g5 e4;refine kq ?_;exact⟨U,y,z,Y,p2,Z,p3,q3,q4,by rw[cO e1,qm e2,e3,e4,a0],a1,a2,a3,a4,a5,a6⟩
def Co {sc:Scope}{f:List Expr->Bool}{n:Nat}{args:List Expr} (z:lY sc f n .valuesOf args=true):∃y ap cp,args=[.Call (.Attribute y "values" ap) [] [] cp]/\pf y=true/\ap.endLine=cp.line/\f [y]=true/\n=1:=by
 refine aC λZq J=>?_
 obtain⟨a,U,z⟩:=ak z;obtain⟨⟨y,mm,ap,as,cp⟩,Y,z⟩:=ak z;simp only[il,JQ,Lm]at z;obtain⟨⟨⟨⟨⟨Z,a1⟩,h3⟩,h4⟩,h5⟩,h6⟩:=z;refine J ?_;exact⟨y,ap,cp,by rw[cO U,ue Y,Z,a1],h3,h4,h5,h6⟩
def sj{b:Blt}{es:List ME}{x:Str}{args:List Expr}{p pos:Pos}(g:Gf X T k cal)(hx:x=(rT b:Str))(hg:glB X.env.scope x=true)(J:lY X.env.scope (λxs=>chks T es X.N X.env.scope xs) es.length b args=true)
  (hs:∀xs,chks T es X.N X.env.scope xs=true->PA X xs (tEs X.K cal es)/\xs.all ah=true/\es.length=xs.length)
  (h1:∀m x,es=[m]->chks T es X.N X.env.scope [x]=true->PE X x (tE X.K cal m))
  (b4:∀m m' x x',es=[m,m']->chks T es X.N X.env.scope [x,x']=true->PE X x (tE X.K cal m)/\PE X x' (tE X.K cal m')) :
  (iE (.blt b es)=true->PE X (.Call (.Name x p) args [] pos) (tF X.K cal (.blt b es)))/\PE X (.Call (.Name x p) args [] pos) (tE X.K cal (.blt b es)):=by
 subst hx;have inst:∀{b:Blt}{args:List Expr} (c:String),glB X.env.scope (rT b)=true->dj b=some c->rT b="isinstance"->bootBuiltins c=some (.type c)->X.mg c=none->(c:Str) ≠ "__name__"->((c:Str)==("__debug__":Str))=false->rU X.env.scope (λxs=>chks T es X.N X.env.scope xs) es.length c args=true ->
   PE X (.Call (.Name (rT b) p) args [] pos) (tE X.K cal (.blt b es)):=λ{b args} c hg hc hb b5 hm hn hd J=>by
  replace J:=ak J
  obtain⟨⟨y,t0⟩,e1,J⟩:=J
  replace J:=ak J
  obtain⟨⟨t,p2⟩,e2,J⟩:=J;obtain rfl:=lX e1;obtain rfl:=eM (e:=t0) e2;simp only[il,JQ]at J;obtain⟨⟨⟨h2,h3⟩,h4⟩,h5⟩:=J;obtain⟨m,rfl⟩:=LH.mp h5;rw[hb]at hg ⊢;exact E_ g hc hg h2 h3 b5 hm hn hd (h1 m y rfl h4) (b9 h4).1.2
 have c1:∀{nm:Str},uh X.env.scope (λxs=>chks T es X.N X.env.scope xs) es.length nm args=true->∃m y gg p2 pos2,es=[m]/\args=[.Call (.Name gg p2) [y] [] pos2]/\gg=nm/\glB X.env.scope gg=true/\PE X y (tE X.K cal m)/\ah y=true:=λ{nm} J=>by
  replace J:=ak J
  obtain⟨a,e1,J⟩:=J
  replace J:=ak J
  obtain⟨⟨gg,y⟩,e2,J⟩:=J;obtain⟨p2,pos2,rfl⟩:=g5 e2;simp only[il,JQ]at J;obtain⟨⟨⟨h2,h3⟩,h4⟩,h5⟩:=J;obtain⟨m,rfl⟩:=LH.mp h5;exact⟨m,y,gg,p2,pos2,rfl,cO e1,h2,h3,h1 m y rfl h4,(b9 h4).1.2⟩
 have plain:∀{args:List Expr} (n:Nat),0<n->(some n==some es.length&&chks T es X.N X.env.scope args)=true->∃e r,args=e::r/\PA X (e::r) (tEs X.K cal es)/\(e::r).all ah=true:=λ{args} n cP J=>by
  simp only[il,JQ,pd]at J;obtain⟨Y,U,q3⟩:=hs _ J.2;cases args with
  |nil=>rw[<- J.1]at q3;simp at q3;omega
  |cons e r=>exact⟨e,r,rfl,Y,U⟩
 cases b with
 |len =>
  obtain⟨e,r,Z,Y,U⟩:=plain 1 (by decide) J;rw[Z];exact⟨λz=>(by cases z),lx Hj hg (g.blt "len" (by decide)) qB (by decide) (by decide) Y U⟩
 |tupleOf =>
  obtain⟨e,r,Z,Y,U⟩:=plain 1 (by decide) J;rw[Z];exact⟨λz=>(by cases z),zA vB hg (g.blt "tuple" (by decide)) ni (by decide) (by decide) Y U⟩
 |listOf =>
  obtain⟨e,r,Z,Y,U⟩:=plain 1 (by decide) J;rw[Z];have q:=Ci (p:=p) (pos:=pos) EV hg (g.blt "list" (by decide)) qC (by decide) (by decide) Y U;exact⟨λ_=>q,dE (dR (.inl rfl)) q⟩
 |sorted =>
  obtain⟨e,r,Z,Y,U⟩:=plain 1 (by decide) J;rw[Z];have q:=zB (p:=p) (pos:=pos) (zp g) hg (g.blt "sorted" (by decide)) kT (by decide) (by decide) Y U;exact⟨λ_=>q,dE (dR (.inr (.inl rfl))) q⟩
 |any =>
  obtain⟨e,r,Z,Y,U⟩:=plain 1 (by decide) J;rw[Z];exact⟨λz=>(by cases z),lx (Hl g.calm) hg (g.blt "any" (by decide)) E8 (by decide) (by decide) Y U⟩
 |all =>
  obtain⟨e,r,Z,Y,U⟩:=plain 1 (by decide) J;rw[Z];exact⟨λz=>(by cases z),lx (Hm g.calm) hg (g.blt "all" (by decide)) E9 (by decide) (by decide) Y U⟩
 |intOf =>
  obtain⟨e,r,Z,Y,U⟩:=plain 1 (by decide) J;rw[Z];exact⟨λz=>(by cases z),zA Hk hg (g.blt "int" (by decide)) zI (by decide) (by decide) Y U⟩
 |boolOf=>exact absurd J mu
 |max2 =>
  obtain⟨e,r,Z,Y,U⟩:=plain 2 (by decide) J;rw[Z];exact⟨λz=>(by cases z),lx (EW g.calm) hg (g.blt "max" (by decide)) zG (by decide) (by decide) Y U⟩
 |min2 =>
  obtain⟨e,r,Z,Y,U⟩:=plain 2 (by decide) J;rw[Z];exact⟨λz=>(by cases z),lx (EX g.calm) hg (g.blt "min" (by decide)) zH (by decide) (by decide) Y U⟩
 |isInt=>exact⟨λz=>(by cases z),inst "int" hg rfl rfl zI (g.blt "int" (by decide)) (by decide) (by decide) J⟩
 |isBool=>exact⟨λz=>(by cases z),inst "bool" hg rfl rfl Cm (g.blt "bool" (by decide)) (by decide) (by decide) J⟩
 |isStr=>exact absurd J mu
 |isList=>exact absurd J mu
 |isTuple=>exact⟨λz=>(by cases z),inst "tuple" hg rfl rfl ni (g.blt "tuple" (by decide)) (by decide) (by decide) J⟩
 |sortedSet =>
  obtain⟨m,y,gg,p2,pos2,ee,ea,h2,h3,hp,bA⟩:=c1 J;rw[ee,ea];have q:=sf (p:=p) (p2:=p2) (pos:=pos) (pos2:=pos2) g rfl h2 hg h3 hp bA;exact⟨λ_=>q,dE (dR (.inr (.inr (.inl rfl)))) q⟩
 |sum =>
  obtain⟨e,r,Z,Y,U⟩:=plain 1 (by decide) J;rw[Z];exact⟨λz=>(by cases z),lx (Hn g.calm) hg (g.blt "sum" (by decide)) PyProof.Rows.boot_sum (by decide) (by decide) Y U⟩
 |max1 =>
  obtain⟨e,r,Z,Y,U⟩:=plain 1 (by decide) J;rw[Z];exact⟨λz=>(by cases z),lx (EZ g.calm) hg (g.blt "max" (by decide)) zG (by decide) (by decide) Y U⟩
 |sortedKeys =>
  obtain⟨e,r,Z,Y,U⟩:=plain 1 (by decide) J;rw[Z];have q:=zB (p:=p) (pos:=pos) (qA g.calm) hg (g.blt "sorted" (by decide)) kT (by decide) (by decide) Y U;exact⟨λ_=>q,dE (dR (.inr (.inr (.inr (.inl rfl))))) q⟩
 |valuesOf =>
  obtain⟨y,ap,cp,ea,h3,h4,h5,h6⟩:=Co J;obtain⟨m,ee⟩:=LH.mp h6;have hy:=h1 m y ee h5;rw[ee,ea];have q:=zK (p:=p) (ap:=ap) (cp:=cp) (pos:=pos) g rfl hg hy (base_of h3) (by rw[h4];simp);exact⟨λ_=>q,dE (dR (.inr (.inr (.inr (.inr rfl))))) q⟩
 |min1 =>
  obtain⟨e,r,Z,Y,U⟩:=plain 1 (by decide) J;rw[Z];exact⟨λz=>(by cases z),lx (E1 g.calm) hg (g.blt "min" (by decide)) zH (by decide) (by decide) Y U⟩
 |tupleRev=>cases J
 |lenSet =>
  obtain⟨m,y,gg,p2,pos2,ee,ea,h2,h3,hp,bA⟩:=c1 J;rw[ee,ea];exact⟨λz=>(by cases z),zJ g rfl h2 hg h3 hp bA⟩
 |lenSetSub =>
  obtain⟨gg,y,c6,y',p2,U,p3,q3,q4,ea,a1,a2,a3,a4,a5,a6⟩:=Fc J;obtain⟨m,m',ee⟩:=Cn a6;obtain⟨b1,b2⟩:=b4 m m' y y' ee a5;rw[ee]at a5 ⊢;rw[ea];exact⟨λz=>(by cases z),sg g rfl a1 a3 hg a2 a4 b1 b2 (b9 a5).1.2 (b9 (b9 a5).2).1.2⟩
def HE(g:Gf X T k cal)(hk:PE X l (tE X.K cal mk))(Y:PE X r (tE X.K cal J))(hm:behindInMarks (if neg=true then CmpOp.NotIn else CmpOp.In) r=false) :
  PE X (.Compare l [if neg=true then CmpOp.NotIn else CmpOp.In] [r] pos) (tE X.K cal (.dIn neg mk J))/\PT X (.Compare l [if neg=true then CmpOp.NotIn else CmpOp.In] [r] pos) (tT X.K cal (.dIn neg mk J)):=by
 have hu:X.A.units+1<cLine:=by have:=g.units;omega
 have go:∀{σ}{H}{Q:Bool->Hp->Prop},(∃B E O W b,aD X.K B E O H W σ/\ev cal (.dIn neg mk J) W=some (.bl b)/\∀H',aj H H'->Q b H') ->
   tE X.K cal mk σ H λy H1=>tE X.K cal J σ H1 λx H2=>∃a o,x=.ref a/\mF H2 a y o/\Q (if neg=true then !o.isSome else o.isSome) H2:=λ{σ H Q} q=>by
  refine aC λZq Z=>?_
  obtain⟨B,E,O,W,b,st,z,q⟩:=q;rw[ev]at z;simp only[ez]at z;obtain⟨y,z,x,e2,U⟩:=z;refine Z ?_;refine⟨B,E,O,W,y,st,z,λuy H1 s1 g1=>⟨B,E,O,W,x,st.mono s1,e2,λux H2 s2 g2=>?_⟩⟩;rw[mx]at U;obtain⟨o,U,e4⟩:=U;cases x<;>try (cases U;done)
  obtain⟨a,rfl,Y⟩:=g2.1.dI;refine⟨a,_,rfl,qz U Y (g1.1.mono s2),?_⟩;rw[isSome_map,PV.bl.inj e4];exact q H2 (s1.trans s2)
 have ao:∀{σ}{H}{Q},tE X.K cal (.dIn neg mk J) σ H Q->∃B E O W b,aD X.K B E O H W σ/\ev cal (.dIn neg mk J) W=some (.bl b)/\∀H',aj H H'->Q (.bl b) H':=λ{σ H Q} q=>by
  refine aC λZq Z=>?_
  obtain⟨B,E,O,W,v,st,z,q⟩:=q;have hb:∃b,v=.bl b:=by
   rw[ev]at z;simp only[ez]at z;obtain⟨y,_,x,_,U⟩:=z;rw[mx]at U;obtain⟨o,_,e4⟩:=U;exact⟨_,e4.symm⟩
  obtain⟨b,rfl⟩:=hb;refine Z ?_;exact⟨B,E,O,W,b,st,z,λH' s=>q _ H' s (.of (eN _ _))⟩
 have aO:∀{σ}{H}{Q},tT X.K cal (.dIn neg mk J) σ H Q->∃B E O W b,aD X.K B E O H W σ/\ev cal (.dIn neg mk J) W=some (.bl b)/\∀H',aj H H'->Q b H':=λ{σ H Q} q=>by
  refine aC λZq Z=>?_
  obtain⟨B,E,O,W,b,st,z,q⟩:=q;unfold evB at z;simp only[ez]at z;obtain⟨v,z,e2⟩:=z;refine Z ?_;cases v<;>simp only[aZ,reduceCtorEq,pd]at e2
  subst e2;exact⟨B,E,O,W,_,st,z,q⟩
 cases neg with
 |false =>
  refine⟨(xK (yi hu hk Y) hm).imp λσ H Q q=>?_,(xL (yi hu hk Y) hm).imp λσ H Q q=>?_⟩
  .exact go (Q:=λb H'=>Q (.bl b) H') (ao q)
  .exact go (Q:=λb H'=>∃c,V.bl b=.bl c/\Q c H') (by
    obtain⟨B,E,O,W,b,st,z,q⟩:=aO q;exact⟨B,E,O,W,b,st,z,λH' s=>⟨b,rfl,q H' s⟩⟩)
 |true =>
  refine⟨(xK (oV hu hk Y) hm).imp λσ H Q q=>?_,(xL (oV hu hk Y) hm).imp λσ H Q q=>?_⟩
  .exact go (Q:=λb H'=>Q (.bl b) H') (ao q)
  .exact go (Q:=λb H'=>∃c,V.bl b=.bl c/\Q c H') (by
    obtain⟨B,E,O,W,b,st,z,q⟩:=aO q;exact⟨B,E,O,W,b,st,z,λH' s=>⟨b,rfl,q H' s⟩⟩)
def Fd{ma mk md:ME}{o e f:Expr}{ap cp:Pos}(g:Gf X T k cal)(ha:PE X o (tE X.K cal ma))(hk:PE X e (tE X.K cal mk))(hd:PE X f (tE X.K cal md))(hb:pf o=true)(hl:(ap.endLine==cp.line)=true)(h1:ah e=true)(h2:ah f=true) :
  PE X (.Call (.Attribute o "get" ap) [e,f] [] cp) (tE X.K cal (.dget ma mk md)):=by
 have hu:X.A.units+1<cLine:=by have:=g.units;omega
 have J:starEach [e,f] X.env=[(false,eval e X.env),(false,eval f X.env)]:=by rw[aR h1,aR h2];rfl
 have m:M2 X o "get" ap e f cp:=by
  refine⟨base_of hb,?_,hl,?_⟩
  .rw[J];rfl
  .rw[J];rfl
 refine(yn hu ha hk hd m).imp λσ H Q q=>?_
 refine aC λZq kq=>?_
 obtain⟨B,E,O,W,v,st,U,q⟩:=q;rw[ev]at U;simp only[ez,mx]at U;obtain⟨x,U,y,e2,z,e3,Y,e4,sz,e5,e6⟩:=U;refine kq ?_;cases x<;>try (cases e4;done)
 refine⟨B,E,O,W,_,st,U,λux H1 Z g1=>?_⟩;obtain⟨a,rfl,hH⟩:=g1.1.dI;refine⟨a,rfl,qu hH,B,E,O,W,_,st.mono Z,e2,λuy H2 s2 g2=>⟨B,E,O,W,z,st.mono (Z.trans s2),e3,λuz H3 s3 g3=>?_⟩⟩;refine⟨_,qz e4 (aj.rdD s3 (aj.rdD s2 hH)) (g2.1.mono s3),?_⟩;rw[uv e5 g3.1];have e7:(Y.map Sc.v).getD sz.v=(Y.getD sz).v:=by cases Y<;>rfl
 rw[e7];refine q _ H3 (Z.trans (s2.trans s3)) ?_;rw[<- e6];exact .of (uu _ _ _)
def HF(g:Gf X T k cal)(Z:PE X o (tE X.K cal ma))(hk:PE X i (tE X.K cal mk))(hs:b8 i=true):PE X (.Subscript o i pos) (tE X.K cal (.dat ma mk)):=by
 have hu:X.A.units+1<cLine:=by have:=g.units;omega
 refine(uZ hu Z hk (by cases i<;>first|(intro _ _;rfl)|(simp[b8]at hs))).imp λσ H Q q=>?_
 refine aC λZq kq=>?_
 obtain⟨B,E,O,W,v,st,z,q⟩:=q;rw[ev]at z;simp[ez,mx]at z;obtain⟨x,z,y,e2,oo,J,sz,rfl,e6⟩:=z;refine kq ?_;cases x<;>try (cases J;done)
 refine⟨B,E,O,W,_,st,z,λux H1 U g1=>?_⟩;obtain⟨a,rfl,hH⟩:=g1.1.dI;refine⟨B,E,O,W,_,st.mono U,e2,λuy H2 Y g2=>?_⟩;refine⟨a,_,rfl,qz J (aj.rdD Y hH) g2.1,q _ H2 (U.trans Y) ?_⟩;rw[<- e6];exact .of (uu _ _ _)
end
mutual
theorem ar{T:Tab}{k:Nat}{cal:Cal}:∀(me:ME) {X:Cx}{e:Expr},Gf X T k cal->chk T me X.N X.env.scope e=true->PE X e (tE X.K cal me)/\PT X e (tT X.K cal me)
 | .var i,X,e,g,h=>by
  replace h:=ak h
  obtain⟨x,w,h⟩:=h;obtain rfl:=eM w;exact⟨Dl h,bw (Dl h) rfl⟩
 | .bor i,X,e,g,h=>by
  replace h:=ak h
  obtain⟨x,w,h⟩:=h;obtain rfl:=eM w;exact⟨Dm h,bw (Dm h) rfl⟩
 | .cst v,X,e,g,h=>by
  replace h:=ak h
  obtain⟨x,w,h⟩:=h;obtain rfl:=yZ w;exact⟨Dn h,bw (Dn h) rfl⟩
 | .glob x v,X,e,g,h=>by
  replace h:=ak h
  obtain⟨y,w,h⟩:=h;obtain rfl:=eM w;exact⟨zn g h,bw (zn g h) rfl⟩
 | .bin op a b,X,e,g,h=>by
  replace h:=ak h
  obtain⟨⟨l,o,r,pos⟩,w,h⟩:=h;obtain rfl:=qm w;simp only[il,JQ]at h;obtain⟨⟨rfl,h1⟩,h2⟩:=h;have p:=Hs (op:=op) (pos:=pos) (ar a g h1).1 (ar b g h2).1;exact⟨p,bw p rfl⟩
 | .neg _,X,e,g,h=>absurd (show false=true from h) mu
 | .not a,X,e,g,h=>by
  replace h:=ak h
  obtain⟨⟨o,x,pos⟩,w,h⟩:=h;obtain rfl:=Ew w
  replace h:=g4.mp h
  obtain⟨h2,h⟩:=h;obtain rfl:=eq_of_beq h2;exact⟨Ht (ar a g h).1,Hu (ar a g h).2⟩
 | .and a b,X,e,g,h=>by
  replace h:=ak h
  obtain⟨⟨o,vs,pos⟩,w,h⟩:=h;obtain rfl:=y0 w
  replace h:=g4.mp h
  obtain⟨h2,h⟩:=h;obtain rfl:=eq_of_beq h2;rcases vq h with⟨x,y,rfl,h1,h2⟩|⟨x,y,z,r,rfl,h1,h2⟩
  .exact⟨Do (ar a g h1).1 (xM (ar b g h2).1),Dq (ar a g h1).2 (Bh (ar b g h2).2)⟩
  .exact⟨Do (ar a g h1).1 (ar b g h2).1,Dq (ar a g h1).2 (Dp (ar b g h2).2)⟩
 | .or a b,X,e,g,h=>by
  replace h:=ak h
  obtain⟨⟨o,vs,pos⟩,w,h⟩:=h;obtain rfl:=y0 w
  replace h:=g4.mp h
  obtain⟨h2,h⟩:=h;obtain rfl:=eq_of_beq h2;rcases vq h with⟨x,y,rfl,h1,h2⟩|⟨x,y,z,r,rfl,h1,h2⟩
  .exact⟨Hv (ar a g h1).1 (xM (ar b g h2).1),Hw (ar a g h1).2 (DH (ar b g h2).2)⟩
  .exact⟨Hv (ar a g h1).1 (ar b g h2).1,Hw (ar a g h1).2 (Dp (ar b g h2).2)⟩
 | .ite c a b,X,e,g,h=>by
  replace h:=ak h
  obtain⟨q,w,h⟩:=h;obtain rfl:=Ex w;simp only[il,JX]at h;obtain⟨⟨⟨⟨h1,h2⟩,J⟩,h4⟩,h5⟩:=h;exact⟨Hx (ar c g h1).2 (ar a g h2).1 (ar b g J).1 h4 h5,Hy (ar c g h1).2 (ar a g h2).2 (ar b g J).2⟩
 | .cmp op a b,X,e,g,h=>by
  replace h:=ak h
  obtain⟨⟨l,o,r⟩,w,h⟩:=h;obtain⟨pos,rfl⟩:=vn w;simp only[il,JQ,JX]at h;obtain⟨⟨⟨rfl,h1⟩,h2⟩,J⟩:=h;exact Hz g (ar a g h1).1 (ar b g h2).1 J
 | .chain _ _ _ _ _,X,e,g,h=>absurd (show false=true from h) mu
 | .tup es,X,e,g,h=>by
  replace h:=ak h
  obtain⟨q,w,h⟩:=h;obtain rfl:=ud w;obtain⟨h1,h2⟩:=g4.mp h;have p:=HA (j:=q.2.1) (pos:=q.2.2) (sounds es g h1) h2;exact⟨p,bw p rfl⟩
 | .lst es,X,e,g,h=>by
  replace h:=ak h
  obtain⟨q,w,h⟩:=h;obtain rfl:=qo w
  replace h:=g4.mp h
  have p:=λ(pos:Pos)=>dE (λW v hv=>by
   rw[ev,ez]at hv;obtain⟨vs,_,hv⟩:=hv;split at hv
   .cases hv;exact⟨_,rfl⟩
   .cases hv) (Dr (pos:=pos) (sounds es g h.1) h.2)
  exact⟨p _,bw (p _) rfl⟩
 | .idx a i,X,e,g,h=>by
  replace h:=ak h
  obtain⟨q,w,h⟩:=h;obtain rfl:=mY w;simp only[il]at h;have p:=HB (pos:=q.2.2) (ar a g h.1.1).1 (ar i g h.1.2).1 h.2;exact⟨p,bw p rfl⟩
 | .slice a lo hi,X,e,g,h=>by
  replace h:=ak h
  obtain⟨⟨v,l,u⟩,w,h⟩:=h;obtain⟨p2,pos,rfl⟩:=BW w;simp only[il]at h;obtain⟨⟨h1,h2⟩,J⟩:=h;have bd:∀{b:ME}{o:Option Expr},(∀e,chk T b X.N X.env.scope e=true->PE X e (tE X.K cal b))->qp (λe=>chk T b X.N X.env.scope e) (jz b) o=true->PO X o (tB1 X.K cal b):=λ{b o} hb h2=>by
   cases o with
   |none=>exact E5 h2
   |some l =>
    simp only[qp,il,JX]at h2;exact E6 (hb l h2.1) h2.2
  have p:=Ch (p2:=p2) (pos:=pos) (ar a g h1).1 (bd (λe he=>(ar lo g he).1) h2) (bd (λe he=>(ar hi g he).1) J);exact⟨p,bw p rfl⟩
 | .blt b es,X,e,g,h=>by
  replace h:=ak h
  obtain⟨⟨x,args⟩,w,h⟩:=h;obtain⟨p,pos,rfl⟩:=fK w;simp only[il,JQ]at h;obtain⟨⟨hx,hg⟩,ha⟩:=h;have q:=(sj (p:=p) (pos:=pos) g hx hg ha (λxs U=>⟨sounds es g U,bG U⟩) (λm x hm hx=>match es,hm with|[m'],rfl=>(ar m' g (b9 hx).1.1).1) (λa b x x' hm hx=>match es,hm with|[m1,m2],rfl=>⟨(ar m1 g (b9 hx).1.1).1,(ar m2 g (b9 (b9 hx).2).1.1).1⟩)).2;exact⟨q,bw q rfl⟩
 | .call f es,X,e,g,h=>by
  replace h:=ak h
  obtain⟨⟨x,args⟩,w,h⟩:=h;obtain⟨p,pos,rfl⟩:=fK w;simp only[il,JQ]at h;obtain⟨⟨⟨h1,h2⟩,J⟩,h4⟩:=h;obtain⟨hs,hl⟩:=bG h4;have q:=E7 (p:=p) (pos:=pos) g h1 h2 J (soundA es g h4) hs hl;exact⟨q,bw q rfl⟩
 | .callD _ _ _,X,e,g,h=>absurd (show false=true from h) mu
 | .disp kvs m,X,e,g,h=>by
  obtain⟨q,e1,h⟩:=ak (show onQ (ze e) (λq=>rW kvs q.1 q.2.1&&chk T m X.N X.env.scope q.2.2&&b8 q.2.2&&decide (kvs.length<=15)&&!kvs.isEmpty)=true from h);obtain⟨ks,vs,a⟩:=q;obtain⟨p,pos,rfl⟩:=zf e1;obtain⟨a0,h5⟩:=g4.mp h;obtain⟨a1,h4⟩:=g4.mp a0;obtain⟨a2,J⟩:=g4.mp a1;obtain⟨h1,h2⟩:=g4.mp a2;have q:PE X (.Subscript (.Dict ks vs p) a pos) (tE X.K cal (.disp kvs m)):=Fa g h1 (Kc h4) (by simpa using h5) (ar m g h2).1 J;exact⟨q,bw q rfl⟩
 | .lenP i,X,e,g,h=>by
  replace h:=ak h
  obtain⟨⟨x,y⟩,w,h⟩:=h;obtain⟨p,yp,pos,rfl⟩:=BY w;simp only[il,JQ]at h;obtain⟨⟨rfl,h2⟩,J⟩:=h;have q:PE X (.Call (.Name ("len":Str) p) [.Name y yp] [] pos) (tE X.K cal (.lenP i)):=Fb g h2 J;exact⟨q,bw q rfl⟩
 | .dIn neg mk ma,X,e,g,h=>by
  replace h:=ak h
  obtain⟨⟨l,o,r⟩,w,h⟩:=h;obtain⟨pos,rfl⟩:=vn w;simp only[il,JQ,JX]at h;obtain⟨⟨⟨rfl,h1⟩,h2⟩,J⟩:=h;exact HE g (ar mk g h1).1 (ar ma g h2).1 J
 | .dat ma mk,X,e,g,h=>by
  replace h:=ak h
  obtain⟨q,w,h⟩:=h;obtain rfl:=mY w;simp only[il]at h;have p:=HF (pos:=q.2.2) g (ar ma g h.1.1).1 (ar mk g h.1.2).1 h.2;exact⟨p,bw p rfl⟩
 | .dget ma mk md,X,e,g,h=>by
  replace h:=ak h
  obtain⟨⟨o,m,ap,args,cp⟩,w,h⟩:=h;obtain rfl:=ue w
  replace h:=ak h
  obtain⟨⟨x,y⟩,w,h⟩:=h;obtain rfl:=lX w;simp only[il,JQ]at h;obtain⟨⟨⟨⟨⟨⟨⟨rfl,h1⟩,h2⟩,J⟩,h4⟩,h5⟩,h6⟩,h7⟩:=h;have p:=Fd (ap:=ap) (cp:=cp) g (ar ma g J).1 (ar mk g h4).1 (ar md g h5).1 h1 (by rw[h2];simp) h6 h7;exact⟨p,bw p rfl⟩
 | .comp k' src js cond elt,X,e,g,h=>by
  replace h:=kP h
  obtain⟨e,x,px,it,ifs,scope,pos,rfl,h⟩:=h;simp only[il,JX]at h;obtain⟨⟨⟨⟨h1,h2⟩,J⟩,h4⟩,h5⟩:=h;have hw:=kU (tg:=.Name x px) (λz=>by cases z) g h2 (λxs U=>⟨sounds src g U,bG U⟩) (λm x hm hx=>match src,hm with|[m'],rfl=>(ar m' g (b9 hx).1.1).1);have q:=dE si (uq (pos:=pos) g h1 hw.1 hw.2 (λY Z C fp=>qE J λc hc=>(ar cond (g.blk x (dC X.N js) scope Y Z C fp) hc).2) (λY Z C fp=>(ar elt (g.blk x (dC X.N js) scope Y Z C fp) h4).1) h5);exact⟨q,bw q rfl⟩
theorem sounds{T:Tab}{k:Nat}{cal:Cal}:∀(ms:List ME) {X:Cx}{es:List Expr},Gf X T k cal->chks T ms X.N X.env.scope es=true->PA X es (tEs X.K cal ms)
 | [],X,es,g,h=>by
  cases es with
  |nil=>exact Cg
  |cons _ _=>cases h
 |m::ms,X,es,g,h=>by
  cases es with
  |nil=>cases h
  |cons e es =>
   replace h:=b9 h
   exact zw (ar m g h.1.1).1 (sounds ms g h.2) h.1.2
theorem soundA{T:Tab}{k:Nat}{cal:Cal}:∀(ms:List ME) {X:Cx}{es:List Expr},Gf X T k cal->chks T ms X.N X.env.scope es=true->PA X es (tAs X.K cal ms)
 | [],X,es,g,h=>by
  cases es with
  |nil=>exact zx
  |cons _ _=>cases h
 |m::ms,X,es,g,h=>by
  cases es with
  |nil=>cases h
  |cons e es =>
   replace h:=b9 h
   have hs:=soundA ms g h.2;cases z:aH m with
   |false=>exact w8 z (ar m g h.1.1).1 hs h.1.2
   |true =>
    obtain⟨i,rfl⟩:=m3 z;obtain⟨x,p,rfl,h1⟩:=jZ h.1.1;exact zz h1 hs
end
def Fe(g:Gf X T k cal)(h:chk T me X.N X.env.scope e=true)(hf:iE me=true):PE X e (tF X.K cal me):=by
 cases me with
 |lst es =>
  replace h:=ak h
  obtain⟨q,w,h⟩:=h;obtain rfl:=qo w
  replace h:=g4.mp h
  exact Dr (sounds es g h.1) h.2
 |blt b es =>
  replace h:=ak h
  obtain⟨⟨x,args⟩,w,h⟩:=h;obtain⟨p,pos,rfl⟩:=fK w;simp[il,JQ]at h;obtain⟨⟨hx,hg⟩,ha⟩:=h;exact(sj (p:=p) (pos:=pos) g hx hg ha (λxs J=>⟨sounds es g J,bG J⟩) (λm x Z hx=>match es,Z with|[m'],rfl=>(ar m' g (b9 hx).1.1).1) (λa b x x' Z hx=>match es,Z with|[m1,m2],rfl=>⟨(ar m1 g (b9 hx).1.1).1,(ar m2 g (b9 (b9 hx).2).1.1).1⟩)).1 hf
 |comp k' src js cond elt =>
  replace h:=kP h
  obtain⟨e,x,px,it,ifs,scope,pos,rfl,h⟩:=h;simp only[il,JX]at h;obtain⟨⟨⟨⟨h1,h2⟩,h3⟩,h4⟩,h5⟩:=h;have hw:=kU (tg:=.Name x px) (λz=>by cases z) g h2 (λxs J=>⟨sounds src g J,bG J⟩) (λm x Z hx=>match src,Z with|[m'],rfl=>(ar m' g (b9 hx).1.1).1);exact uq g h1 hw.1 hw.2 (λU Y C fp=>qE h3 λc hc=>(ar cond (g.blk x _ scope U Y C fp) hc).2) (λU Y C fp=>(ar elt (g.blk x _ scope U Y C fp) h4).1) h5
 | _=>cases hf
noncomputable def HG:MV->Bool
 | .brw _=>true
 | .brwD _=>true
 | _=>false
def vJ(h1:ip m=true)(h2:HG m=true):False:=by cases m<;>first|(cases h2;done)|(cases h1;done)
structure bb(B:Hp)(O O':List Addr)(W l:Rho)(σ F:St):Prop where
 stay:∀a,B a≠none->a∈O->a∈O'
 new:∀a∈O',a∈O\/B a=none
 brw:∀(i:Nat) (m:MV),HG m=true->l[i]?=some (some m)->W[i]?=some (some m)/\F[i]?=σ[i]?
 len:l.length=W.length
 mutK:∀(i:Nat) (d':DD),l[i]?=some (some (.mutD d'))->(∃d,W[i]?=some (some (.mutD d)))/\F[i]?=σ[i]?
def bb.refl :bb B O O W W σ σ:=⟨λ_ _ h=>h,λ_ h=>.inl h,λ_ _ _ h=>⟨h,rfl⟩,rfl,λ_ d' h=>⟨⟨d',h⟩,rfl⟩⟩
theorem bb.trans(a:bb B O O1 W z σ J)(b:bb B O1 O2 z U J Y):bb B O O2 W U σ Y where
 stay:=λx h1 h2=>b.stay x h1 (a.stay x h1 h2)
 new:=λx h=>(b.new x h).elim (a.new x) .inr
 brw:=λi xs hm h=>by
  obtain⟨h1,Z⟩:=b.brw i xs hm h;obtain⟨h2,e2⟩:=a.brw i xs hm h1;exact⟨h2,Z.trans e2⟩
 len:=b.len.trans a.len
 mutK:=λi d' h=>by
  obtain⟨⟨d1,h1⟩,Z⟩:=b.mutK i d' h;obtain⟨h2,e2⟩:=a.mutK i d1 h1;exact⟨h2,Z.trans e2⟩
def gC(K:Nl)(B:Hp)(E O:List Addr)(W:Rho)(σ:St)(D:DB):R->Prop
 | .next l=>∀F H' z,aD K B E z H' l F->bb B O z W l σ F->D.nx F H'
 | .brk l=>∀F H' z,aD K B E z H' l F->bb B O z W l σ F->D.bk F H'
 | .cont l=>∀F H' z,aD K B E z H' l F->bb B O z W l σ F->D.ct F H'
 | .ret v=>∀u H',aj B H'->Rep K (aq H' E) v u->D.rt u H'
 | .retM v l=>∀u F H' z,aD K B E z H' l F->bb B O z W l σ F->Rep K (aq H' z) v u->D.rt u H'
 | .retF xs=>∀p us H',aj B H'->B p=none->H' p=some (.lst us)->Reps K (aq H' (p::E)) xs us->D.rt (.ref p) H'
 | .bad=>False
theorem gC.trans{K:Nl}(h:gC K B E O W σ D r)(k:bb B O Y W l σ F):gC K B E Y l F D r:=by
 cases r<;>first|exact λz H2 J st U=>h z H2 J st (k.trans U)|exact h|exact λu z H2 J st U=>h u z H2 J st (k.trans U)
noncomputable def tS(K:Nl)(cal:Cal)(m:MS):TS:=λD σ H=>∃B E O W,aD K B E O H W σ/\gC K B E O W σ D (ex cal m W)
noncomputable def tSs(K:Nl)(cal:Cal)(ms:List MS):TS:=λD σ H=>∃B E O W,aD K B E O H W σ/\gC K B E O W σ D (exs cal ms W)
section
variable{K:Nl}{B H H':Hp}{E O:List Addr}{W:Rho}{σ:St}
def ai(h:i<W.length):(put W i m)[i]?=some (some m):=by unfold put;exact K2 h
def af(h:i≠j):(put W i m)[j]?=W[j]?:=by unfold put;exact J6 h
def put_len :(put W i m).length=W.length:=by unfold put;exact Mb
def aD.store(st:aD K B E O H W σ)(hi:i<σ.length)(r:Rep K (aq H O) v u):aD K B E O H (put W i (.val v)) (σ.set i (some u))/\bb B O O W (put W i (.val v)) σ (σ.set i (some u)):=by
 have J:i<W.length:=by rw[st.len];exact hi
 refine⟨⟨st.keep,st.here,st.sub,st.old,by rw[put_len,Mb];exact st.len,λj m e=>?_,λa b xs ys ad ao Y Z o1 o2 e3 e4=>?_
  ⟩,⟨λ_ _ h=>h,λ_ h=>.inl h,λj xs aO e=>?_,put_len
  ,λj d' e=>?_
  ⟩⟩
 .by_cases U:i=j
  .subst U;rw[ai J]at e;cases e;exact⟨u,K2 hi,r⟩
  .rw[af U]at e;obtain⟨w,Y,q⟩:=st.slot j m e;exact⟨w,by rw[J6 U];exact Y,q⟩
 .have h1:i≠a:=λz=>by subst z;rw[ai J]at Y;cases Y;cases o1
  have h2:i≠b:=λz=>by subst z;rw[ai J]at Z;cases Z;cases o2
  rw[af h1]at Y;rw[af h2]at Z;rw[J6 h1]at e3;rw[J6 h2]at e4;exact st.apart a b xs ys ad ao Y Z o1 o2 e3 e4
 .have U:i≠j:=λz=>by subst z;rw[ai J]at e;cases e;cases aO
  rw[af U]at e;exact⟨e,J6 U⟩
 .have U:i≠j:=λz=>by subst z;rw[ai J]at e;cases e
  rw[af U]at e;exact⟨⟨d',e⟩,J6 U⟩
def aD.storeM(st:aD K B E O H W σ)(hi:i<σ.length)(s:aj H H')(hp:H p=none)(e:H' p≠none)(hm:ip mm=true)
  (a8:∀d,mm≠.mutD d)
  (r:B p=none->fo K B (p::O) H' mm (.ref p))
  :
  aD K B E (p::O) H' (put W i mm) (σ.set i (some (.ref p)))/\bb B O (p::O) W (put W i mm) σ (σ.set i (some (.ref p))):=by
 have a1:i<W.length:=by rw[st.len];exact hi
 have a4:=st.keep.free hp;have ao:aj (aq H O) (aq H' (p::O)):=bF s λb Z=>by
  rcases tf.mp Z with rfl|Z
  .exact .inr hp
  .exact .inl Z
 refine⟨⟨st.keep.trans s,λa J=>?_,λa J=>Ku _ (st.sub a J),st.old,by rw[put_len,Mb];exact st.len,λj m U=>?_,λa b xs ys ad a5 e1 Y o1 o2 e3 e4=>?_
  ⟩,⟨λ_ _ h=>Ku _ h,λa J=>?_,λj xs a9 U=>?_,put_len
  ,λj d' U=>?_
  ⟩⟩
 .rcases tf.mp J with rfl|J
  .exact e
  .exact λz=>st.here a J (s.free z)
 .by_cases hj:i=j
  .subst hj;rw[ai a1]at U;cases U;exact⟨_,K2 hi,r a4⟩
  .rw[af hj]at U;obtain⟨w,e1,q⟩:=st.slot j m U;refine⟨w,by rw[J6 hj];exact e1,?_⟩;cases m with
   |val v=>exact Rep.mono ao _ q
   |own ys=>obtain⟨a,ws,Y,h1,h2,h3,h4⟩:=q;exact⟨a,ws,Y,s _ _ h1,Reps.mono ao _ h2,Ku _ h3,h4⟩
   |brw ys=>obtain⟨a,ws,Y,h1,h2⟩:=q;exact⟨a,ws,Y,h1,Reps.mono ao _ h2⟩
   |brwD ys=>exact q
   | _=>obtain⟨a,Y,h1,h3,h4⟩:=q;exact⟨a,Y,h1.move (s _) ao,Ku _ h3,h4⟩
 .have other:∀(j:Nat) zs ad,W[j]?=some (some zs)->ip zs=true->σ[j]?=some (some (.ref ad))->ad≠p:=λj zs ad h1 ho h2 z=>by
   obtain⟨w,e1,q⟩:=st.slot j _ h1;rw[h2]at e1;cases e1;cases zs with
   |own zs =>
    obtain⟨a,ws,Y,h1,_⟩:=q;cases Y;rw[z,hp]at h1;cases h1
   |ownD zs|mutD zs =>
    obtain⟨a,Y,h1,_⟩:=q;cases Y;obtain⟨o,h1⟩:=h1.here;rw[z,hp]at h1;cases h1
   | _=>cases ho
  by_cases J:i=a
  .subst J;have Z:=a5;rw[K2 hi]at e3;rw[af Z]at Y;rw[J6 Z]at e4;cases e3;exact other b ys _ Y o2 e4 rfl
  .by_cases Z:i=b
   .subst Z;rw[K2 hi]at e4;rw[af J]at e1;rw[J6 J]at e3;cases e4;exact other a xs _ e1 o1 e3 rfl
   .rw[af J]at e1;rw[af Z]at Y;rw[J6 J]at e3;rw[J6 Z]at e4;exact st.apart a b _ _ ad a5 e1 Y o1 o2 e3 e4
 .rcases tf.mp J with rfl|J
  .exact .inr a4
  .exact .inl J
 .have hj:i≠j:=λz=>by subst z;rw[ai a1]at U;cases U;exact vJ hm a9
  rw[af hj]at U;exact⟨U,J6 hj⟩
 .have hj:i≠j:=λz=>by subst z;rw[ai a1]at U;cases U;exact a8 d' rfl
  rw[af hj]at U;exact⟨⟨d',U⟩,J6 hj⟩
def aD.storeOwn(st:aD K B E O H W σ)(hi:i<σ.length)(s:aj H H')(J:H p=none)(e:H' p=some (.lst us))(r:Reps K (aq H' (p::O)) xs us) :
  aD K B E (p::O) H' (put W i (.own xs)) (σ.set i (some (.ref p)))/\bb B O (p::O) W (put W i (.own xs)) σ (σ.set i (some (.ref p))):=
 st.storeM hi s J (by rw[e];simp) rfl (λ_ z=>by cases z) λU=>⟨p,us,rfl,e,r,KL,U⟩
def aD.changeM(st:aD K B E O H W σ)(e:W[i]?=some (some m0))(o0:ip m0=true)(o1:ip m1=true)
  (om:∀d',m1=.mutD d'->∃d,m0=.mutD d)
  (es:σ[i]?=some (some (.ref a))) (h3:a∈O) (h4:B a=none) (r:aq (upd H a ob) O=aq H O->fo K B O (upd H a ob) m1 (.ref a))
  :
  aD K B E O (upd H a ob) (put W i m1) σ/\bb B O O W (put W i m1) σ σ:=by
 have ao:=(y1.mp e).1;have Y:aq (upd H a ob) O=aq H O:=iG h3;have other:∀j zs ad,i≠j->W[j]?=some (some zs)->ip zs=true->σ[j]?=some (some (.ref ad))->ad≠a:=λj zs ad U Z o2 q2 z=>by
  subst z;exact st.apart i j m0 zs ad U e Z o0 o2 es q2
 refine⟨⟨λb u eb=>?_,λb hb=>?_,st.sub,st.old,by rw[put_len];exact st.len,λj m J=>?_,λc d ps qs ad a5 e1 e2 p1 p2 e3 e4=>?_
  ⟩,⟨λ_ _ h=>h,λ_ h=>.inl h,λj zs a8 J=>?_,put_len
  ,λj d' J=>?_
  ⟩⟩
 .rw[aW (cn eb h4)];exact st.keep b u eb
 .unfold upd;split
  .simp
  .exact st.here b hb
 .by_cases U:i=j
  .subst U;rw[ai ao]at J;cases J;exact⟨_,es,r Y⟩
  .rw[af U]at J;obtain⟨w,ew,q⟩:=st.slot j m J;refine⟨w,ew,?_⟩;cases m with
   |val v=>show Rep K (aq (upd H a ob) O) v w;rw[Y];exact q
   |own zs =>
    obtain⟨ad,ws,rfl,Z,q2,q3,q4⟩:=q;refine⟨ad,ws,rfl,?_,by rw[Y];exact q2,q3,q4⟩;rw[aW (other j (.own zs) ad U J rfl ew)];exact Z
   |ownD zs =>
    obtain⟨ad,rfl,Z,q3,q4⟩:=q;refine⟨ad,rfl,Z.move (λo eo=>?_) (by rw[Y];exact aj.refl _),q3,q4⟩;rw[aW (other j (.ownD zs) ad U J rfl ew)];exact eo
   |mutD zs =>
    obtain⟨ad,rfl,Z,q3,q4⟩:=q;refine⟨ad,rfl,Z.move (λo eo=>?_) (by rw[Y];exact aj.refl _),q3,q4⟩;rw[aW (other j (.mutD zs) ad U J rfl ew)];exact eo
   |brwD zs=>exact q
   |brw zs=>obtain⟨ad,ws,rfl,Z,q2⟩:=q;exact⟨ad,ws,rfl,Z,by rw[Y];exact q2⟩
 .have h1:∀j zs,(put W i m1)[j]?=some (some zs)->ip zs=true->∃zs,W[j]?=some (some zs)/\ip zs=true:=λj zs q oz=>by
   by_cases U:i=j
   .subst U;exact⟨m0,e,o0⟩
   .rw[af U]at q;exact⟨zs,q,oz⟩
  obtain⟨Z,e1,p1⟩:=h1 c ps e1 p1;obtain⟨q2,e2,p2⟩:=h1 d qs e2 p2;exact st.apart c d Z q2 ad a5 e1 e2 p1 p2 e3 e4
 .have U:i≠j:=λz=>by subst z;rw[ai ao]at J;cases J;exact vJ o1 a8
  rw[af U]at J;exact⟨J,rfl⟩
 .by_cases U:i=j
  .subst U;rw[ai ao]at J;cases J;obtain⟨d,rfl⟩:=om d' rfl;exact⟨⟨d,e⟩,rfl⟩
  .rw[af U]at J;exact⟨⟨d',J⟩,rfl⟩
def aD.change(st:aD K B E O H W σ)(e:W[i]?=some (some (.own xs)))(es:σ[i]?=some (some (.ref a)))(r:Reps K (aq H O) ys us) :
  aD K B E O (upd H a (.lst us)) (put W i (.own ys)) σ/\bb B O O W (put W i (.own ys)) σ σ:=by
 refine aC λZq kq=>?_
 obtain⟨w,U,a',aO,e2,h1,h2,Y,Z⟩:=st.slot i _ e;rw[es]at U;cases U;cases e2;refine kq ?_;exact st.changeM e rfl rfl (λ_ z=>by cases z) es Y Z λJ=>⟨a,us,rfl,az,by rw[J];exact r,Y,Z⟩
def aD.changeD(st:aD K B E O H W σ)(e:W[i]?=some (some (.ownD xs)))(es:σ[i]?=some (some (.ref a)))(hd:aq (upd H a U) O=aq H O->DAt K (upd H a U) O a ys) :
  aD K B E O (upd H a U) (put W i (.ownD ys)) σ/\bb B O O W (put W i (.ownD ys)) σ σ:=by
 refine aC λZq kq=>?_
 obtain⟨w,Y,a',e2,h1,Z,h4⟩:=st.slot i _ e;rw[es]at Y;cases Y;cases e2;refine kq ?_;exact st.changeM e rfl rfl (λ_ z=>by cases z) es Z h4 λJ=>⟨a,rfl,hd J,Z,h4⟩
def aD.changeU(st:aD K B E O H W σ)(e:W[i]?=some (some (.mutD xs)))(es:σ[i]?=some (some (.ref a)))(hd:aq (upd H a J) O=aq H O->DAt K (upd H a J) O a ys) :
  aD K B E O (upd H a J) (put W i (.mutD ys)) σ/\bb B O O W (put W i (.mutD ys)) σ σ:=by
 refine aC λZq kq=>?_
 obtain⟨w,U,a',e2,h1,Y,Z⟩:=st.slot i _ e;rw[es]at U;cases U;cases e2;refine kq ?_;exact st.changeM e rfl rfl (λ_ _=>⟨_,rfl⟩) es Y Z λz=>⟨a,rfl,hd z,Y,Z⟩
def aD.freeze(st:aD K B E O H W σ)(e:W[i]?=some (some (.own xs))):∃O',aD K B E O' H (put W i (.val (.lst xs))) σ/\bb B O O' W (put W i (.val (.lst xs))) σ σ:=by
 refine aC λZq kq=>?_
 obtain⟨w,es,a,us,rfl,h1,h2,h3,h4⟩:=st.slot i _ e;have ao:=(y1.mp e).1;have U:aj (aq H O) (aq H (O.filter λb=>decide (b≠a))):=bF (aj.refl H) λb Y=>.inl (JU.mp Y).1
 have mem:∀b,b≠a->b∈O->b∈O.filter λb=>decide (b≠a):=λb Y ho=>JU.mpr ⟨ho,JS Y⟩
 refine kq ?_;refine⟨O.filter λb=>decide (b≠a),⟨st.keep,λb Y=>st.here b (JU.mp Y).1,λb Y=>mem b (λz=>st.old b Y (z▸h4)) (st.sub b Y),st.old,by rw[put_len];exact st.len,λj m J=>?_,λc d ps qs ad a3 e1 e2 p1 p2 e3 e4=>?_
  ⟩,⟨λb Y ho=>mem b (λz=>Y (z▸h4)) ho,λb Y=>.inl (JU.mp Y).1,λj zs a4 J=>?_,put_len
  ,λj d' J=>?_
  ⟩⟩
 .by_cases Z:i=j
  .subst Z;rw[ai ao]at J;cases J;refine⟨_,es,?_⟩;show Rep K _ (.lst xs) (.ref a);rw[Rep];refine⟨a,us,rfl,SqL.of ?_,Reps.mono U _ h2⟩;have a5:a∉O.filter λb=>decide (b≠a):=λz=>by simpa using (JU.mp z).2
   rw[aT a5];exact h1
  .rw[af Z]at J;obtain⟨w,ew,q⟩:=st.slot j m J;refine⟨w,ew,?_⟩;cases m with
   |val v=>exact Rep.mono U _ q
   |own zs =>
    obtain⟨ad,ws,rfl,q1,q2,q3,q4⟩:=q;exact⟨ad,ws,rfl,q1,Reps.mono U _ q2,mem ad (λz=>st.apart i j (.own xs) (.own zs) a Z e J rfl rfl es (by rw[ew,z])) q3,q4⟩
   |ownD zs =>
    obtain⟨ad,rfl,q1,q3,q4⟩:=q;exact⟨ad,rfl,q1.move (λ_ eo=>eo) U,mem ad (λz=>st.apart i j (.own xs) (.ownD zs) a Z e J rfl rfl es (by rw[ew,z])) q3,q4⟩
   |mutD zs =>
    obtain⟨ad,rfl,q1,q3,q4⟩:=q;exact⟨ad,rfl,q1.move (λ_ eo=>eo) U,mem ad (λz=>st.apart i j (.own xs) (.mutD zs) a Z e J rfl rfl es (by rw[ew,z])) q3,q4⟩
   |brwD zs=>exact q
   |brw zs=>obtain⟨ad,ws,rfl,q1,q2⟩:=q;exact⟨ad,ws,rfl,q1,Reps.mono U _ q2⟩
 .have h1:∀j zs,ip zs=true->(put W i (.val (.lst xs)))[j]?=some (some zs)->W[j]?=some (some zs):=λj zs oz q=>by
   by_cases Z:i=j
   .subst Z;rw[ai ao]at q;cases q;cases oz
   .rw[af Z]at q;exact q
  exact st.apart c d ps qs ad a3 (h1 c ps p1 e1) (h1 d qs p2 e2) p1 p2 e3 e4
 .have Z:i≠j:=λz=>by subst z;rw[ai ao]at J;cases J;cases a4
  rw[af Z]at J;exact⟨J,rfl⟩
 .have Z:i≠j:=λz=>by subst z;rw[ai ao]at J;cases J
  rw[af Z]at J;exact⟨⟨d',J⟩,rfl⟩
end
section
open AutoSeq1 (wpAny_loadPart')
open MeetsSeq MeetsSeq2 MeetsSeq3 SeqRoads2 AutoSeq1
def qF(l)(items)(n)(b)(z)(n2)(J)(U)(aO:¬(!items.isEmpty&&Builtin.List.listTooLong (items.size+z.size))=true)(Y:items.size<=sizeLine)(a0:items.size+z.size<=sizeLine+1) :
  Meets (Builtin.«list.extend» ⟨[.ref l,.ref b],[]⟩) (λ_ R s=>s.heap.get? l=some { cls:=.type "list",dict:=none,data:=.seq items n,slots:=#[] }/\s.heap.get? b=some { cls:=.type "tuple",dict:=J,data:=.seq z n2,slots:=U }/\R (.ok (.ret Value.none)) { s with heap:=s.heap.update l (Obj.mapSeq λx=>x++z),toks:=s.toks }):=
 .of_wp λprog w A R s h=>by
  obtain⟨hp,g,d,tk,os⟩:=s;obtain⟨Z,hb,h⟩:=h;have f1:=AutoSeq1.idx_int;have f2:=L9;have f3:=AutoSeq1.sub_list_list;have f4:=AutoSeq1.sub_tuple_list;have f5:=AutoSeq1.sub_list_tuple;
  wp_walk using (wpAny_updateSeq Z rfl (hz:=Y)),wpAny_loadPart' Z,wpAny_loadPart' hb;exact⟨_,rfl,h⟩
def qG(l)(items)(n)(b)(z)(n2)(J)(U)(aO:¬(!items.isEmpty&&Builtin.List.listTooLong (items.size+z.size))=true)(Y:items.size<=sizeLine)(a0:items.size+z.size<=sizeLine+1) :
  Meets (Builtin.«list.extend» ⟨[.ref l,.ref b],[]⟩) (λ_ R s=>s.heap.get? l=some { cls:=.type "list",dict:=none,data:=.seq items n,slots:=#[] }/\s.heap.get? b=some { cls:=.type "list",dict:=J,data:=.seq z n2,slots:=U }/\R (.ok (.ret Value.none)) { s with heap:=s.heap.update l (Obj.mapSeq λx=>x++z),toks:=s.toks }):=
 .of_wp λprog w A R s h=>by
  obtain⟨hp,g,d,tk,os⟩:=s;obtain⟨Z,hb,h⟩:=h;have f1:=AutoSeq1.idx_int;have f2:=L9;have f3:=AutoSeq1.sub_list_list;have f4:=AutoSeq1.sub_tuple_list;have f5:=AutoSeq1.sub_list_tuple;
  wp_walk using (wpAny_updateSeq Z rfl (hz:=Y)),wpAny_loadPart' Z,wpAny_loadPart' hb;exact⟨_,rfl,h⟩
end
section
variable{X:Cx}{T:Tab}{k:Nat}{cal:Cal}
def uA:MtM X "list.extend" (λx vs H Q=>∃l b xs zs,x=.ref l/\vs=[.ref b]/\H l=some (.lst xs)/\(SqL X.K H b zs\/SqT X.K H b zs)/\xs.length+zs.length<=sizeLine/\Q .non (upd H l (.lst (xs++zs)))):=by
 intro pins s σ H x vs v us Q I rx rv h;refine aC λZq kq=>?_
 obtain⟨l,b,xs,zs,rfl,rfl,hH,hB,hz,q⟩:=h;cases rx;obtain⟨u,rfl,ru⟩:=rv.one;cases ru;obtain⟨z,its,n,r,hl,e⟩:=I.lstM hH;have fin:∀J,aG zs J->EP X pins σ Q .none { s with heap:=s.heap.update l (Obj.mapSeq λx=>x++J.toArray),toks:=s.toks }:=λJ Y =>
  ⟨.non,_,I.lset (its':=its++J) hH e (by simp) (r.append Y) (by rw[wh];omega),rfl,q⟩
 refine kq ?_;rcases hB with hB|hB
 .obtain⟨J,Y,pl,z2⟩:=I.list hB;have a0:=Y.length;have Z:its.toArray.size+J.toArray.size<=sizeLine:=by rw[oe,oe];omega
  have U:¬ (!its.toArray.isEmpty&&Builtin.List.listTooLong (its.toArray.size+J.toArray.size))=true:=by
   rw[rh Z,Bool.and_false];exact mu
  obtain⟨⟨cls,dd,data,sl⟩,ho,hc,n2,hd⟩:=pl.isList;simp only at hc hd;subst hc hd;exact M0 PySem.F.slot_list_extend ⟨_,e,rfl⟩ PySem.F.entry_list_extend (PySem.F.args_list_extend_2 _ _) (qG l its.toArray n b J.toArray n2 dd sl U (by rw[oe];omega) (by omega)) ⟨e,ho,fin J Y⟩
 .obtain⟨J,Y,pl,z2⟩:=I.tuple hB;have a0:=Y.length;have Z:its.toArray.size+J.toArray.size<=sizeLine:=by rw[oe,oe];omega
  have U:¬ (!its.toArray.isEmpty&&Builtin.List.listTooLong (its.toArray.size+J.toArray.size))=true:=by
   rw[rh Z,Bool.and_false];exact mu
  obtain⟨⟨cls,dd,data,sl⟩,ho,hc,n2,hd⟩:=pl;simp only at hc hd;subst hc hd;exact M0 PySem.F.slot_list_extend ⟨_,e,rfl⟩ PySem.F.entry_list_extend (PySem.F.args_list_extend_2 _ _) (qF l its.toArray n b J.toArray n2 dd sl U (by rw[oe];omega) (by omega)) ⟨e,ho,fin J Y⟩
structure Df(X:Cx):Prop where
 nd:X.N.Nodup
 fn:∀x,X.fn x=true
 own:PassesOwn (model X.prog X.w) X.A X.env X.xe
 blk:(X.env.blockKind==.function)=true
def cR(h:bS v=true)(t)(n)(env):swapsWith v t n env=pure false:=by
 cases v<;>first|rfl|(simp[bS]at h)
def w9(d:Df X)(h:Di X.env.scope x px v=true):swapsWith v (some (.Name x px)) n X.env=pure true:=by
 obtain⟨⟨e,gs,s,p⟩,w,h⟩:=ak h;obtain rfl:=uc w;show pure _=pure true;rw[d.blk,Nk];exact J5 pure h
def PS.imp'(h:PS X e t)(i:∀D σ H,σ.length=X.N.length->t' D σ H->t D σ H):PS X e t':=λpins s σ H D I q=>h pins s σ H D I (i D σ H I.len q)
def ltN{N:List Str}{σ:St}(h:N[i]?=some x)(z:σ.length=N.length):i<σ.length:=by rw[z];exact(y1.mp h).1
def c9{K:Nl}(h:gC K B E O W σ D (eV o f)):∃v,o=some v/\gC K B E O W σ D (f v):=by
 cases o with
 |none=>exact(show False from h).elim
 |some v=>exact⟨v,rfl,h⟩
def w_{K:Nl}(h:gC K B E O W σ D (yW o f)):∃v,o=some v/\gC K B E O W σ D (f v):=by
 cases o with
 |none=>exact(show False from h).elim
 |some v=>exact⟨v,rfl,h⟩
def zL{K:Nl}(hi:i<σ.length)(U:aH J=false)(q:tS K cal (.set i J) D σ H):xR (tE K cal J) (jc i) D σ H:=by
 obtain⟨B,E,O,W,st,q⟩:=q;obtain⟨w,e,q⟩:=c9 q;refine⟨B,E,O,W,w,st,e,λu H' s g=>?_⟩;obtain⟨z,Y⟩:=(st.mono s).store hi (g.2 U);exact q _ H' O z Y
def HH(d:Df X)(hi:X.N[i]?=some x)(hx:Loc X.env.scope x)(h:PE X v (tE X.K cal z))(J:aH z=false)(hc:bS v=true):PS X (.Assign [.Name x px] v pos) (tS X.K cal (.set i z)):=
 PS.imp' (jp d.nd hi hx h (cR hc _ _ _) (.inl (d.fn x))) λD σ H U q=>zL (ltN hi U) J q
def zM{K:Nl}(hi:i<σ.length)(q:tS K cal (.setOwn i J) D σ H):xR (tF K cal J) (jc i) D σ H:=by
 obtain⟨B,E,O,W,st,q⟩:=q;obtain⟨w,e,q⟩:=c9 q;cases w with
 |lst xs =>
  refine⟨B,E,O,W,xs,st,e,λp us H' s U Y r=>?_⟩;obtain⟨z,Z⟩:=st.storeOwn hi s U Y r;exact q _ H' _ z Z
 | _=>exact(show False from q).elim
def HI(d:Df X)(hi:X.N[i]?=some x)(hx:Loc X.env.scope x)(h:PE X v (tF X.K cal z))(hc:bS v=true):PS X (.Assign [.Name x px] v pos) (tS X.K cal (.setOwn i z)):=
 PS.imp' (jp d.nd hi hx h (cR hc _ _ _) (.inl (d.fn x))) λD σ H J q=>zM (ltN hi J) q
def zN(h:PE X v (tE X.K cal Y))(hn:aU X.N X.env.scope i x=true)(hb:aH Y=false)(hs:ah v=true)(z:(apos.endLine==cpos.line)=true) :
  PS X (.Expr (.Call (.Attribute (.Name x p) "append" apos) [v] [] cpos) pos) (tS X.K cal (.append i Y)):=by
 refine(pZ (yf PySem.F.plainAttrs_list PySem.F.slot_list_append PySem.F.type_list_append kC (cb hn) (aJ h bJ (aR hs _ _)) rfl (by rw[aR hs];rfl) z (aR hs _ _) rfl) rfl).imp λD σ H q=>?_
 obtain⟨B,E,O,W,st,q⟩:=q;obtain⟨w,e,q⟩:=c9 q;cases J:(W[i]?).join with
 |none=>rw[J]at q;exact(show False from q).elim
 |some m =>
  rw[J]at q;cases m with
  |own xs =>
   dsimp only at q;split at q
   .rename_i hl;obtain⟨u,Z,a,us,rfl,ha,rs,hO,hB⟩:=aQ st J;refine⟨_,Z,.inl ⟨rfl,us,SqL.of ha⟩,B,E,O,W,w,st,e,λu H1 s g=>⟨a,us,u,rfl,rfl,s _ _ ha,?_,?_⟩⟩
    .rw[<- rs.length];exact uw hl (by decide)
    .obtain⟨U,k'⟩:=(st.mono s).change (aF J) Z ((Reps.mono (al s) _ rs).snoc (g.2 hb));exact q _ _ _ U k'
   .exact(show False from q).elim
  | _=>exact(show False from q).elim
def zO(h:PE X v (tE X.K cal me))(hn:aU X.N X.env.scope i x=true)(hs:ah v=true)(z:(apos.endLine==cpos.line)=true) :
  PS X (.Expr (.Call (.Attribute (.Name x p) "extend" apos) [v] [] cpos) pos) (tS X.K cal (.extend i me)):=by
 refine(pZ (yf PySem.F.plainAttrs_list PySem.F.slot_list_extend PySem.F.type_list_extend uA (cb hn) (aJ h bJ (aR hs _ _)) rfl (by rw[aR hs];rfl) z (aR hs _ _) rfl) rfl).imp λD σ H q=>?_
 refine aC λZq Y=>?_
 obtain⟨B,E,O,W,st,q⟩:=q;rw[ex]at q;obtain⟨w,e,q⟩:=c9 q;refine Y ?_;cases U:(W[i]?).join with
 |none=>rw[U]at q;exact(show False from q).elim
 |some m =>
  rw[U]at q;cases m with
  |own xs =>
   cases hw:bf w with
   |none=>rw[hw]at q;exact(show False from q).elim
   |some ys =>
    rw[hw]at q;dsimp only at q;split at q
    .refine aC λZq Y=>?_
     rename_i hl;obtain⟨u,eu,a,us,rfl,ha,rs,hO,hB⟩:=aQ st U;refine Y ?_;refine⟨_,eu,.inl ⟨rfl,us,SqL.of ha⟩,B,E,O,W,w,st,e,λu H1 s g=>?_⟩;obtain⟨b,ws,rfl,sq,J⟩:=g.1.seq hw;refine⟨a,b,us,ws,rfl,rfl,s _ _ ha,sq,?_,?_⟩
     .rw[<- rs.length,<- J.length];exact cy hl
     .obtain⟨Z,k'⟩:=(st.mono s).change (aF U) eu ((Reps.mono (al s) _ rs).append J);exact q _ _ _ Z k'
    .exact(show False from q).elim
  | _=>exact(show False from q).elim
def Ff(d:Df X)(hi:X.N[i]?=some x)(hx:Loc X.env.scope x):PS X (.Assign [.Name x px] (.Dict [] [] dp) pos) (tS X.K cal (.newD m i)):=by
 cases m with
 |false =>
  refine PS.imp' (jp d.nd hi hx yk (cR rfl _ _ _) (.inl (d.fn x))) λD σ H Y q=>?_
  obtain⟨B,E,O,W,st,q⟩:=q;intro p U;obtain⟨J,Z⟩:=st.storeM (mm:=.ownD _) (ltN hi Y) (aA U _) U (by rw[az];simp) rfl (λ_ z=>by cases z) λhB=>⟨p,rfl,az,KL,hB⟩
  exact q _ _ _ J Z
 |true =>
  refine PS.imp' (jp d.nd hi hx yl (cR rfl _ _ _) (.inl (d.fn x))) λD σ H Y q=>?_
  obtain⟨B,E,O,W,st,q⟩:=q;intro p U;obtain⟨J,Z⟩:=st.storeM (mm:=.ownD _) (ltN hi Y) (aA U _) U (by rw[az];simp) rfl (λ_ z=>by cases z) λhB=>⟨p,rfl,az,KL,hB⟩
  exact q _ _ _ J Z
def Fg(g0:Gf X T k cal)(hk:PE X s (tE X.K cal mk))(h:PE X v (tE X.K cal me))(hn:aU X.N X.env.scope i x=true)(hc:bS v=true) :
  PS X (.Assign [.Subscript (.Name x p) s a2] v pos) (tS X.K cal (.dput i mk me)):=by
 have hu:X.A.units+1<cLine:=by have:=g0.units;omega
 refine(BC hu (cb hn) hk h (by cases v<;>first|rfl|(simp[bS]at hc))).imp λD σ H q=>?_
 obtain⟨B,E,O,W,st,q⟩:=q;rw[ex]at q;obtain⟨w,e,q⟩:=c9 q;obtain⟨kv,ek,q⟩:=c9 q;cases U:(W[i]?).join with
 |none=>rw[U]at q;exact(show False from q).elim
 |some m =>
  rw[U]at q;cases m with
  |ownD d =>
   cases hz:sc? w with
   |none=>rw[hz]at q;exact(show False from q).elim
   |some sz =>
    rw[hz]at q;dsimp only at q;cases hd:qk d kv sz with
    |none=>rw[hd]at q;exact(show False from q).elim
    |some d' =>
     rw[hd]at q;obtain⟨u,Y,a,rfl,ha,hO,hB⟩:=aQ st U;refine⟨B,E,O,W,w,st,e,λu H1 z g1=>⟨_,Y,B,E,O,W,_,st.mono z,ek,λuk H2 Z g2=>?_⟩⟩;refine⟨a,_,rfl,by rw[uv hz g1.1];exact vG hd (Z _ _ (z _ _ (ha.put1 hd))) g2.1,?_⟩;obtain⟨J,k'⟩:=((st.mono z).mono Z).changeD (ys:=d') (aF U) Y λ_=>.put2 hd az
     exact q _ _ _ J k'
  |mutD d =>
   cases hz:sc? w with
   |none=>rw[hz]at q;exact(show False from q).elim
   |some sz =>
    rw[hz]at q;dsimp only at q;cases hd:qk d kv sz with
    |none=>rw[hd]at q;exact(show False from q).elim
    |some d' =>
     rw[hd]at q;obtain⟨u,Y,a,rfl,ha,hO,hB⟩:=aQ st U;refine⟨B,E,O,W,w,st,e,λu H1 z g1=>⟨_,Y,B,E,O,W,_,st.mono z,ek,λuk H2 Z g2=>?_⟩⟩;refine⟨a,_,rfl,by rw[uv hz g1.1];exact vG hd (Z _ _ (z _ _ (ha.put1 hd))) g2.1,?_⟩;obtain⟨J,k'⟩:=((st.mono z).mono Z).changeU (ys:=d') (aF U) Y λ_=>.put2 hd az
     exact q _ _ _ J k'
  | _=>exact(show False from q).elim
def HJ(h:PE X v (tE X.K cal J))(z:aH J=false):PS X (.Return (some v) pos) (tS X.K cal (.ret J)):=by
 refine(p5 h).imp λD σ H q=>?_
 obtain⟨B,E,O,W,st,q⟩:=q;obtain⟨w,e,q⟩:=c9 q;exact⟨B,E,O,W,w,st,e,λu H' s g=>q u H' (st.keep.trans s) (Rep.mono (bF (aj.refl H') λb z=>.inl (st.sub b z)) _ (g.2 z))⟩
def Fh(h:PE X v (tE X.K cal z))(J:aH z=false):PS X (.Return (some v) pos) (tS X.K cal (.retM z)):=by
 refine(p5 h).imp λD σ H q=>?_
 obtain⟨B,E,O,W,st,q⟩:=q;obtain⟨w,e,q⟩:=c9 q;exact⟨B,E,O,W,w,st,e,λu H' s g=>q u σ H' O (st.mono s) .refl (g.2 J)⟩
def zP(hn:aU X.N X.env.scope i x=true):PS X (.Return (some (.Name x p)) pos) (tS X.K cal (.retOwn i)):=by
 refine(p5 (cb hn)).imp λD σ H q=>?_
 obtain⟨B,E,O,W,st,q⟩:=q;rw[ex]at q;have low:=bF (aj.refl H) λb hb=>.inl (st.sub b hb)
 cases J:(W[i]?).join with
 |none=>rw[J]at q;exact(show False from q).elim
 |some m =>
  rw[J]at q;cases m with
  |val v =>
   obtain⟨u,U,so⟩:=aQ st J;exact⟨_,U,q _ H st.keep (Rep.mono low _ so)⟩
  |own xs =>
   obtain⟨u,U,a,us,rfl,Y,rs,hO,Z⟩:=aQ st J;refine⟨_,U,q _ H st.keep ?_⟩;rw[Rep];refine⟨a,us,rfl,SqL.of ?_,Reps.mono low _ rs⟩;rw[aT λz=>st.old a z Z];exact Y
  |ownD kvs =>
   dsimp only at q;split at q
   .rename_i np;obtain⟨u,U,a,rfl,Y,hO,Z⟩:=aQ st J;refine⟨_,U,q _ H st.keep ?_⟩;rw[Rep];refine⟨a,rfl,.inl ?_,np⟩;rw[aT λz=>st.old a z Z];exact Y.np np
   .exact(show False from q).elim
  | _=>exact(show False from q).elim
def Jr(hc:PT X t (tT X.K cal c))(z:PSs X x (tSs X.K cal a))(J:PSs X y (tSs X.K cal b)):PS X (.If t x y pos) (tS X.K cal (.ite c a b)):=by
 refine(GF hc z J).imp λD σ H q=>?_
 obtain⟨B,E,O,W,st,q⟩:=q;obtain⟨w,e,q⟩:=w_ q;refine⟨B,E,O,W,w,st,e,λH' s=>?_⟩;cases w<;>first|(rw[if_pos rfl]at q ⊢;exact⟨B,E,O,W,st.mono s,q⟩)|(rw[if_neg (by simp)]at q ⊢;exact⟨B,E,O,W,st.mono s,q⟩)
def Fi{st:Stmt}(h1:PS X st (tS X.K cal m))(h2:PSs X ss (tSs X.K cal ms)):PSs X (st::ss) (tSs X.K cal (m::ms)):=by
 refine(xO h1 h2).imp λD σ H q=>?_
 obtain⟨B,E,O,W,st,q⟩:=q;refine⟨B,E,O,W,st,?_⟩;rw[exs]at q;cases e:ex cal m W with
 |next l=>rw[e]at q;exact λF H' J z k=>⟨B,E,J,l,z,gC.trans q k⟩
 | _=>rw[e]at q;exact q
def HK:PSs X [] (tSs X.K cal []):=by
 refine Bi.imp λD σ H q=>?_
 obtain⟨B,E,O,W,st,q⟩:=q;exact q σ H O st .refl
end
inductive cj(σ:St)(W:Rho):List Bool->List ME->List MV->List V->List Addr->List Nat->Prop where
 | nil:cj σ W [] [] [] [] [] []
 | mutd {i:Nat}{d:DD}{a:Addr}{bs:List Bool}{es:List ME}{as:List MV}{vs:List V}{ms:List Addr}{is:List Nat} (hd:gr (W[i]?).join=some d) (hσ:σ[i]?=some (some (.ref a))) (hi:i∉is) (ha:a∉ms) (t:cj σ W bs es as vs ms is):cj σ W (true::bs) (.bor i::es) (.mutD d::as) (.ref a::vs) (a::ms) (i::is)
 | other {e:ME}{m:MV}{v:V}{bs:List Bool}{es:List ME}{as:List MV}{vs:List V}{ms:List Addr}{is:List Nat} (hm:∀d,m≠.mutD d) (t:cj σ W bs es as vs ms is):cj σ W (false::bs) (e::es) (m::as) (v::vs) ms is
def fw(h:gr o=some d):o=some (.ownD d)\/o=some (.mutD d):=by
 match o,h with
 |some (.ownD _),rfl=>exact .inl rfl
 |some (.mutD _),rfl=>exact .inr rfl
section
variable{σ:St}{W:Rho}{bs:List Bool}{es:List ME}{as:List MV}{vs:List V}{ms:List Addr}{is:List Nat}
def cj.addr(h:cj σ W bs es as vs ms is):∀a∈ms,∃j∈is,σ[j]?=some (some (.ref a))/\∃d,gr (W[j]?).join=some d:=by
 induction h with
 |nil=>intro a U;cases U
 |mutd hd z hi U t ih =>
  intro b J;rcases tf.mp J with rfl|J
  .exact⟨_,.head _,z,_,hd⟩
  .obtain⟨j,h1,h2⟩:=ih b J;exact⟨j,.tail _ h1,h2⟩
 |other hm t ih=>exact ih
theorem cj.put(h:cj σ W bs es as vs ms is)(hi:i∉is):cj σ (fF W i d) bs es as vs ms is:=by
 induction h with
 |nil=>exact .nil
 |mutd hd J U Z t ih =>
  rename_i j _ _ _ _ _ _ _ is;refine .mutd ?_ J U Z (ih λz=>hi (.tail _ z));have Y:i≠j:=λz=>hi (z ▸ .head _)
  have:(fF W i d)[j]?=W[j]?:=by
   unfold fF;split<;>exact J6 Y
  rw[this];exact hd
 |other hm t ih=>exact .other hm (ih hi)
theorem cj.at{K:Nl}(st:aD K B E O H W σ)(h:cj σ W bs es as vs ms is):∃ds,cg K O H as vs ds ms:=by
 induction h with
 |nil=>exact⟨[],.nil⟩
 |mutd hd z hi Y t ih =>
  obtain⟨ds,q⟩:=ih;rename_i i d a bs es as vs ms is;refine⟨.dI d::ds,.mutd ?_ Y q⟩;rcases fw hd with e|e
  .obtain⟨u,J,Z,U,h1,_⟩:=st.slot _ _ (aF e);rw[z]at J;cases J;cases U;exact h1
  .obtain⟨u,J,Z,U,h1,_⟩:=st.slot _ _ (aF e);rw[z]at J;cases J;cases U;exact h1
 |other hm t ih =>
  obtain⟨ds,q⟩:=ih;exact⟨ds,.other hm q⟩
theorem cj.inO{K:Nl}(st:aD K B E O H W σ)(h:cj σ W bs es as vs ms is):∀a∈ms,a∈O:=λa U=>by
 obtain⟨j,_,J,d,Y⟩:=h.addr a U;rcases fw Y with e|e
 .obtain⟨u,z,Z,rfl,_,h2,_⟩:=aQ st e;rw[J]at z;cases z;exact h2
 .obtain⟨u,z,Z,rfl,_,h2,_⟩:=aQ st e;rw[J]at z;cases z;exact h2
theorem nk{K:Nl} :∀{bs}{es}{as}{vs}{ms}{is}{W l}{H}{ds},cj σ W bs es as vs ms is->aD K B E O H W σ->(∀b,b∉ms->H b=H' b)->cg K O H' as vs ds ms->jX bs es ds W=some l->aD K B E O H' l σ/\bb B O O W l σ σ
 | _,_,_,_,_,_,W,l,H,ds,.nil,st,U,hm,e=>by
  cases hm;rw[jX]at e;cases e;have hh:=funext λb=>U b λz=>nomatch z
  subst hh;exact⟨st,.refl⟩
 | _,_,_,_,_,_,W,l,H,ds,.other hn t,st,U,hm,e=>by
  cases hm with
  |mutd=>exact absurd rfl (hn _)
  |other _ hm =>
   rw[jX]at e;exact nk t st U hm e
 | _,_,_,_,_,_,W,l,H,ds,.mutd (i:=i) (a:=a) hd J hi ha t,st,U,hm,e=>by
  cases hm with
  |other h0=>exact absurd rfl (h0 _)
  |mutd h1 h2 hm =>
   rename_i d' ds;rw[jX]at e;obtain⟨o,ho⟩:=h1.here;have inO:=t.inO st;have aO:=(cj.mutd hd J hi ha t).inO st a (.head _);have dd:DAt K (upd H a o) O a d':=h1.move (λu eu=>by rw[ho]at eu;cases eu;exact az) λb u Z=>by
    have Y:b∉O:=λz=>by rw[eX z]at Z;cases Z
    rw[aT Y]at Z ⊢;have ne:b≠a:=λz=>Y (by rw[z];exact aO)
    rw[aW ne,U b λw=>(tf.mp w).elim ne λz=>Y (inO b z)];exact Z
   have key:aD K B E O (upd H a o) (fF W i d') σ/\bb B O O W (fF W i d') σ σ:=by
    rcases fw hd with q|q
    .have e1:fF W i d'=put W i (.ownD d'):=by unfold fF;rw[q];rfl
     rw[e1];exact st.changeD (aF q) J λ_=>dd
    .have e1:fF W i d'=put W i (.mutD d'):=by unfold fF;rw[q];rfl
     rw[e1];exact st.changeU (aF q) J λ_=>dd
   obtain⟨a0,k1⟩:=key;obtain⟨a1,k2⟩:=nk (t.put hi) a0 (λb Y=>by
    by_cases z:b=a
    .simp_all
    .rw[aW z];exact U b λw=>(tf.mp w).elim z Y) hm e
   exact⟨a1,k1.trans k2⟩
def vK{K:Nl}(U:cj σ W bs es as vs ms is)(st:aD K B E O H W σ)(Y:∀b o,b∉ms->H b=some o->H' b=some o)(Z:cg K O H' as vs ds ms)(e:jX bs es ds W=some l):aD K B E O H' l σ/\bb B O O W l σ σ:=
 nk U (st.mono (H':=λb=>if b∈ms then H b else H' b) λb o J=>by
  by_cases z:b∈ms
  .exact(if_pos z).trans J
  .exact(if_neg z).trans (Y b o z J)) (λb hb=>if_neg hb) Z e
end
noncomputable def tAM(K:Nl)(cal:Cal)(mask:List Bool)(ms:List ME):TA:=λσ H Q=>∃B E O W vs,aD K B E O H W σ/\evM cal mask ms W=some vs/\∀us H' as,aj H H'->Paired (ER K O H') vs us->cj σ W mask ms vs us as (fu mask ms)->Q us H'
section
variable{X:Cx}{T:Tab}{k:Nat}{cal:Cal}
def xa:PA X [] (tAM X.K cal [] []):=by
 refine bJ.imp λσ H Q q=>?_
 obtain⟨B,E,O,W,vs,st,z,q⟩:=q;cases z;exact q [] H [] (aj.refl H) .nil .nil
def zQ(h:aU X.N X.env.scope i x=true)(hi:i∉fu bs ms)(hs:PA X es (tAM X.K cal bs ms)):PA X (.Name x pos::es) (tAM X.K cal (true::bs) (.bor i::ms)):=by
 refine(aJ (cb h) hs rfl).imp λσ H Q q=>?_
 refine aC λZq kq=>?_
 obtain⟨B,E,O,W,vs,st,U,q⟩:=q;rw[evM]at U;simp[ez,mx]at U;obtain⟨d,U,ws,e2,rfl⟩:=U;obtain⟨m,hj,om,so⟩:∃m,(W[i]?).join=some m/\ip m=true/\∃a,σ[i]?=some (some (.ref a))/\DAt X.K H O a d/\a∈O:=by
  rcases fw U with e|e
  .obtain⟨u,J,a,rfl,h1,h2,_⟩:=aQ st e;exact⟨_,e,rfl,a,J,h1,h2⟩
  .obtain⟨u,J,a,rfl,h1,h2,_⟩:=aQ st e;exact⟨_,e,rfl,a,J,h1,h2⟩
 obtain⟨a,J,h1,h2⟩:=so;refine kq ?_;refine⟨_,J,B,E,O,W,ws,st,e2,λus H2 as Z g2 ma=>q _ H2 _ Z (.cons ⟨a,rfl,h1.move (Z _) (al Z),h2⟩ g2) (.mutd U J hi (λz=>?_) ma)⟩;obtain⟨j,ao,ej,d2,aO⟩:=ma.addr a z;have Y:i≠j:=λw=>hi (w▸ao)
 rcases fw aO with e|e
 .exact st.apart i j m _ a Y (aF hj) (aF e) om rfl J ej
 .exact st.apart i j m _ a Y (aF hj) (aF e) om rfl J ej
def uB(Y:aH m=false)(h:PE X e (tE X.K cal m))(hs:PA X es (tAM X.K cal bs ms))(hn:ah e=true):PA X (e::es) (tAM X.K cal (false::bs) (m::ms)):=by
 refine(aJ h hs (aR hn es _)).imp λσ H Q q=>?_
 obtain⟨B,E,O,W,vs,st,J,q⟩:=q;rw[evM,ez]at J;obtain⟨a,e0,J⟩:=J;have U:(ev cal m W).bind (λv=>some [MV.val v])=some a:=by
  rw[<- e0];cases m<;>first|(cases Y;done)|(simp only[evA];rfl)
 rw[ez]at U;obtain⟨v,e9,e8⟩:=U;cases e8;rw[mx]at J;obtain⟨ws,e2,rfl⟩:=J;exact⟨B,E,O,W,v,st,e9,λu H1 Z g1=>⟨B,E,O,W,ws,st.mono Z,e2,λus H2 as s2 g2 ma=>q _ H2 as (Z.trans s2) (.cons (show Rep X.K _ v u from(g1.mono s2).2 Y) g2) (.other (λ_ z=>by cases z) ma)⟩⟩
def xb(h:aU X.N X.env.scope i x=true)(hs:PA X es (tAM X.K cal bs ms)):PA X (.Name x pos::es) (tAM X.K cal (false::bs) (.bor i::ms)):=by
 refine(aJ (cb h) hs rfl).imp λσ H Q q=>?_
 obtain⟨B,E,O,W,vs,st,J,q⟩:=q;rw[evM,ez]at J;obtain⟨a,U,J⟩:=J;rw[evA,evA]at U;cases Y:(W[i]?).join with
 |none=>rw[Y]at U;cases U
 |some m =>
  rw[Y]at U;obtain⟨u,eu,so⟩:=aQ st Y;cases m with
  |val w =>
   cases U;dsimp only at J;rw[mx]at J;obtain⟨ws,e2,rfl⟩:=J;exact⟨u,eu,⟨B,E,O,W,ws,st,e2,λus H2 as Z g2 ma=>q (u::us) H2 as Z (.cons (show Rep X.K (aq H2 O) w u from Rep.mono (al Z) _ so) g2) (.other (λ_ z=>by cases z) ma)⟩⟩
  | _=>cases U;cases J
theorem qH(g:Gf X T k cal):∀bs ms es,chks T ms X.N X.env.scope es=true->jA bs ms=true->(fu bs ms).Nodup->PA X es (tAM X.K cal bs ms)
 | [],[],es,h,_,_=>by
  cases es<;>first|exact xa|simp[chks]at h
 | [],_::_,_,_,h2,_=>by cases h2
 |true::_,[],_,_,h2,_=>by cases h2
 |false::_,[],_,_,h2,_=>by cases h2
 |b::bs,m::ms,es,h,h2,U=>by
  cases es with
  |nil=>simp[chks]at h
  |cons e es =>
   simp[chks,il]at h;cases b with
   |true =>
    have z:(aH m&&jA bs ms)=true:=h2;rw[il]at z;have J:=z.1;obtain⟨i,rfl⟩:=m3 J;obtain⟨x,p,rfl,h1⟩:=jZ h.1.1;obtain⟨Y,Z⟩:=Kh.mp (show(_::fu bs ms).Nodup from U);exact zQ h1 Y (qH g bs ms es h.2 z.2 Z)
   |false =>
    have hs:=qH g bs ms es h.2 (show jA bs ms=true from h2) (show(fu bs ms).Nodup from U);cases J:aH m with
    |false=>exact uB J (ar m g h.1.1).1 hs h.1.2
    |true =>
     obtain⟨i,rfl⟩:=m3 J;obtain⟨x,p,rfl,h1⟩:=jZ h.1.1;exact xb h1 hs
end
def xc(h:rP cal f mask ms W=some (v,l)):∃ds,((evM cal mask ms W).bind λvs=>cal (f+2000) vs)=some (.tup (v::ds))/\jX mask ms ds W=some l:=by
 unfold rP at h;split at h
 .rename_i v ds e
  simp_all
 .cases h
section
variable{X:Cx}{T:Tab}{k:Nat}{cal:Cal}
noncomputable def tMr(K:Nl)(cal:Cal)(f:Nat)(mask:List Bool)(ms:List ME):TE:=λσ H Q=>∃B E O W vs v ds,aD K B E O H W σ/\evM cal mask ms W=some vs/\cal (f+2000) vs=some (.tup (v::ds)) /\
 ∀u us as H1 H',aj H H1->cj σ W mask ms vs us as (fu mask ms)->(∀b o,b∉as->H1 b=some o->H' b=some o)->cg K O H' vs us ds as->Rep K (aq H' O) v u->Q u H'
def vL(g:Gf X T k cal)(Z:T.fs[f]?=some x)(hg:glB X.env.scope x=true)(hn:am x=true)(ha:PA X (e::es) (tAM X.K cal mask ms))(hs:(e::es).all ah=true):PE X (.Call (.Name x p) (e::es) [] pos) (tMr X.K cal f mask ms):=by
 obtain⟨fa,fd,ps,h1,h2,h3,F⟩:=g.fnsD f x Z;simp only[all_cons,il]at hs;refine(lU F g.room (dk hg) h1 h2 h3 .nil rj ha (g7 hn).1 (aR hs.1 es _) (bV hs.2)).imp λσ H Q q=>?_
 obtain⟨B,E,O,W,vs,v,ds,st,e1,e3,q⟩:=q;refine⟨B,E,O,W,vs,st,e1,λus H1 as J g1 Y=>?_⟩;show spD X.K cal f (us++[]) H1 Q E0;rw[K0];obtain⟨z,U⟩:=Y.at (st.mono J);exact⟨O,vs,v,ds,z,as,bq J st.here,g1,U,e3,λu H' hk hm ru=>q u us as H1 H' J Y hk hm ru⟩
end
def cg.mono{K:Nl}(h:cg K O H args vs ds ms)(s:∀a∈ms,∀o,H a=some o->H' a=some o)(v:aj (aq H O) (aq H' z)):cg K z H' args vs ds ms:=by
 induction h with
 |nil=>exact .nil
 |mutd h J t ih=>exact .mutd (h.move (s _ (.head _)) v) J (ih λa U=>s a (.tail _ U))
 |other h t ih=>exact .other h (ih s)
def cg.here{K:Nl}(h:cg K O H args vs ds ms):∀a∈ms,H a≠none:=by
 induction h with
 |nil=>intro a z;cases z
 |mutd h J t ih =>
  simp_all
 |other h t ih=>exact ih
theorem cj.own{K:Nl}(st:aD K B E O H W σ)(h:cj σ W bs es as vs ms is):∀a∈ms,a∈O/\B a=none/\∃o,H a=some o:=λa Y=>by
 obtain⟨j,_,U,d,Z⟩:=h.addr a Y;rcases fw Z with e|e
 .obtain⟨u,z,a',rfl,h1,h2,J⟩:=aQ st e;rw[U]at z;cases z;exact⟨h2,J,h1.here⟩
 .obtain⟨u,z,a',rfl,h1,h2,J⟩:=aQ st e;rw[U]at z;cases z;exact⟨h2,J,h1.here⟩
def iZ{O as:List Addr}(h:∀a∈as,a∈O)(U:∀b o,b∉as->H1 b=some o->H' b=some o):aj (aq H1 O) (aq H' O):=λb o e=>by
 have J:b∉O:=λz=>by rw[eX z]at e;cases e
 rw[aT J]at e ⊢;exact U b o (λz=>J (h b z)) e
section
variable{X:Cx}{T:Tab}{k:Nat}{cal:Cal}
noncomputable def tSr(K:Nl)(cal:Cal)(j:SK)(e:ME)(f:Nat)(mask:List Bool)(ms:List ME):TE:=λσ H Q=>∃B E O W w vs v ds r,aD K B E O H W σ/\ev cal e W=some w/\evM cal mask ms W=some vs/\cal (f+2000) vs=some (.tup (v::ds))/\Dd j w v=some r /\
 ∀u us as H1 H',aj H H1->cj σ W mask ms vs us as (fu mask ms)->(∀b o,b∉as->H1 b=some o->H' b=some o)->cg K O H' vs us ds as->Rep K (aq H' O) r u->Q u H'
def pq{K:Nl}(st:aD K B E O H W σ)(J:aj H H1)(U:∀b o,b∉as->H1 b=some o->H' b=some o)(Y:cg K O H' args vs ds as):∀a∈O,H' a≠none:=λa Z=>by
 by_cases z:a∈as
 .exact Y.here a z
 .cases e:H1 a with
  |none=>exact absurd (J.free e) (st.here a Z)
  |some o=>rw[U a o z e];simp
def HL(h:PE X c (tMr X.K cal f mask ms)):PE X c (tSr X.K cal .one (.cst .non) f mask ms):=by
 refine h.imp λσ H Q q=>?_
 obtain⟨B,E,O,W,w,vs,v,ds,r,st,Y,z,J,U,q⟩:=q;cases U;exact⟨B,E,O,W,vs,v,ds,st,z,J,q⟩
def Fj(J:aH e=false)(ha:PE X l (tE X.K cal e))(h:PE X c (tMr X.K cal f mask ms)):PE X (.BinOp l .Add c pos) (tSr X.K cal .cat e f mask ms):=by
 refine(uT (ul .add) ha h).imp λσ H Q q=>?_
 refine aC λZq kq=>?_
 obtain⟨B,E,O,W,w,vs,v,ds,r,st,e1,e2,e3,e4,q⟩:=q;refine kq ?_;refine⟨B,E,O,W,w,st,e1,λux H1 z g1=>⟨B,E,O,W,vs,v,ds,st.mono z,e2,e3,λuy us as H2 H' U ma Y hm ry=>?_⟩⟩;have own:=ma.own (st.mono z);have rx:=Rep.mono ((al U).trans (iZ (λa h=>(own a h).1) Y)) _ (g1.2 J);exact⟨O,w,v,r,pq (st.mono z) U Y hm,.inl rx,.inl ry,e4,λu H3 Z ru=>q u us as H2 H3 (z.trans U) ma (λb o J eb=>Z b o (Y b o J eb)) (hm.mono (λa _ o e=>Z a o e) (al Z)) ru⟩
def Cq(J:aH e=false)(hl:ah l=true)(hc:ah c=true)(ha:PE X l (tE X.K cal e))(h:PE X c (tMr X.K cal f mask ms)):PE X (.Tuple [l,c] j pos) (tSr X.K cal .pair e f mask ms):=by
 refine(tI (aJ ha (aJ h bJ (aR hc _ _)) (aR hl _ _))).imp λσ H Q q=>?_
 refine aC λZq kq=>?_
 obtain⟨B,E,O,W,w,vs,v,ds,r,st,e1,e2,e3,e4,q⟩:=q;cases e4;refine kq ?_;refine⟨B,E,O,W,w,st,e1,λux H1 z g1=>⟨B,E,O,W,vs,v,ds,st.mono z,e2,e3,λuy us as H2 H' U ma Y hm ry=>⟨cy (show 2<=10000 by decide),λp hp=>?_⟩⟩⟩;have own:=ma.own (st.mono z);have rx:=Rep.mono ((al U).trans (iZ (λa h=>(own a h).1) Y)) _ (g1.2 J);have Z:aj H' (upd H' p (.tup [ux,uy])):=aA hp _;exact q _ us as H2 _ (z.trans U) ma (λb o J eb=>Z b o (Y b o J eb)) (hm.mono (λa _ o e=>Z a o e) (al Z)) (gz (pq (st.mono z) U Y hm) hp (.cons rx (.cons ry .nil)))
def Fk(g:Gf X T k cal)(h:zg T j e f mask ms X.N X.env.scope v=true):PE X v (tSr X.K cal j e f mask ms):=by
 have call:∀c,fM T f mask ms X.N X.env.scope c=true->PE X c (tMr X.K cal f mask ms)/\ah c=true:=λc hc=>by
  obtain⟨y,p,args,cp,rfl,z⟩:=m4 hc;simp only[il,JQ,Ks,JX]at z;obtain⟨⟨⟨⟨⟨⟨U,Y⟩,Z⟩,J⟩,q5⟩,q6⟩,q7⟩:=z;cases args with
  |nil=>cases q7
  |cons a args=>exact⟨vL g U Y Z (qH g mask ms (a::args) J q5 q6) (bG J).1,rfl⟩
 cases j with
 |one =>
  have h:(ui e&&fM T f mask ms X.N X.env.scope v)=true:=h;rw[il]at h;have e0:e=.cst .non:=by
   have h1:=h.1;unfold ui at h1;split at h1
   .rfl
   .cases h1
  subst e0;exact HL (call v h.2).1
 |cat =>
  unfold zg at h;dsimp only at h;split at h
  .rename_i q z;obtain⟨pos,rfl⟩:=BZ z;simp only[il,JX]at h;exact Fj h.1.2 (ar e g h.1.1).1 (call _ h.2).1
  .cases h
 |pair =>
  unfold zg at h;dsimp only at h;split at h
  .rename_i q z;obtain⟨i,pos,rfl⟩:=B0 z;simp only[il,JX]at h;exact Cq h.1.1.2 h.1.2 (call _ h.2).2 (ar e g h.1.1.1).1 (call _ h.2).1
  .cases h
noncomputable def c_(H:Hp)(D:Addr):Hp:=λb=>if b=D then none else H b
def kd(H)(D):aj (c_ H D) H:=λb o e=>by
 unfold c_ at e
 simp_all
def nl(h:b≠D):c_ H D b=H b:=if_neg h
def uC(s:aj H H'):aj (c_ H D) (c_ H' D):=λb o e=>by
 unfold c_ at e ⊢;split at e
 .cases e
 .rename_i z;rw[if_neg z];exact s b o e
def i3 :c_ (upd H D o) D=c_ H D:=by
 funext b
 unfold c_;split
 .rfl
 .rename_i z;exact aW z
def nq(h:H D=none):c_ H D=H:=by
 funext b
 unfold c_
 simp_all
def xg(Z:js.Nodup)(ao:∀i J u,js[i]?=some J->aO[i+1]?=some (some u)->σ[J]?=some (some u))(h:cj aO (mX js W x) bs es as vs ms is) :
  ∃U,cj σ W bs (es.map (Es js)) as vs ms U/\∀J∈U,∃i,i+1∈is/\js[i]?=some J:=by
 induction h with
 |nil=>exact⟨[],.nil,λJ h=>by cases h⟩
 |mutd hd hs hi ha t ih =>
  rename_i i d a bs es as vs ms is;obtain⟨U,m',h'⟩:=ih;cases i with
  |zero=>cases hd
  |succ i =>
   unfold mX at hd;rw[getElem?_cons_succ,JZ]at hd;cases Y:js[i]? with
   |none=>rw[Y]at hd;cases hd
   |some J =>
    rw[Y]at hd;have e1:gr (W[J]?).join=some d:=by
     have hd:gr (BU (W[J]?).join)=some d:=hd;cases hj:(W[J]?).join with
     |none=>rw[hj]at hd;cases hd
     |some m=>rw[hj]at hd;cases m<;>first|(cases hd;done)|exact hd
    have e2:js.getD i 0=J:=by rw[Kt,Y];rfl
    refine⟨J::U,?_,λj2 h2=>?_⟩
    .rw[JO,show Es js (.bor (i+1))=.bor J from by show ME.bor (if i+1=0 then 0 else js.getD (i+1-1) 0)=.bor J;rw[if_neg (by omega),KI,e2]];refine .mutd e1 (ao i J _ Y hs) (λz=>?_) ha m';obtain⟨i2,h3,h4⟩:=h' J z;have hl:=(y1.mp Y).1;have:=(getElem?_inj hl Z).mp (Y.trans h4.symm);exact hi (this▸h3)
    .rcases tf.mp h2 with rfl|h2
     .exact⟨i,.head _,Y⟩
     .obtain⟨i2,h3,h4⟩:=h' j2 h2;exact⟨i2,.tail _ h3,h4⟩
 |other hm t ih =>
  obtain⟨U,m',h'⟩:=ih;exact⟨U,.other hm m',h'⟩
def Cr{K:Nl}{σ F:St}(a5:js.Nodup)(st:aD K B E O H W σ)(s:aj H H2)(hG:aj G H2)(hB:aj B G)(hO:∀a∈O,B a=none->G a=none)(hD:H D=none)(a6:H2 D≠none)
  (a7:∀z,F.set 0 z=(fE js σ).set 0 z) (hx:Rep K (aq H2 (D::O)) x ux):aD K G [] (D::O) H2 (mX js W x) (F.set 0 (some ux)):=by
 have hv:aj (aq H O) (aq H2 (D::O)):=bF s λb hb=>by
  rcases tf.mp hb with rfl|hb
  .exact .inr hD
  .exact .inl hb
 rw[a7];have get:∀i m,(mX js W x)[i+1]?=some (some m)->∃jj U u,js[i]?=some jj/\(W[jj]?).join=some U/\BU (some U)=some m/\σ[jj]?=some (some u)/\fo K B O H U u/\((fE js σ).set 0 (some ux))[i+1]?=some (some u):=λi m e=>by
  simp only[mX,getElem?_cons_succ,JZ,mx]at e;obtain⟨j,ej,e⟩:=e;cases hj:(W[j]?).join with
  |none=>rw[hj]at e;cases e
  |some mm =>
   rw[hj]at e;obtain⟨u,eu,Z⟩:=aQ st hj;exact⟨j,mm,u,ej,hj,e,eu,Z,by simp[fE,ej,eu]⟩
 refine⟨hG,λa J=>?_,λa J=>by simp at J,λa J=>by simp at J,by simp[mX,fE],λi m e=>?_,λi i2 m m' a b1 e e' om aO es a0=>?_⟩
 .rcases tf.mp J with rfl|J
  .exact a6
  .exact λe=>st.here a J (s.free e)
 .cases i with
  |zero =>
   simp only[mX,getElem?_cons_zero,pd]at e;subst e;exact⟨ux,by simp[fE],hx⟩
  |succ i =>
   obtain⟨jj,U,u,ej,hj,e,eu,Z,b2⟩:=get i m e;refine⟨u,b2,?_⟩;cases U with
   |val w =>
    cases e;exact Rep.mono hv _ Z
   |own ys=>cases e
   |brw ys =>
    cases e;obtain⟨a,us,rfl,sq,rs⟩:=Z;exact⟨a,us,rfl,hB.seq sq,Reps.mono hv _ rs⟩
   |brwD kvs =>
    cases e;obtain⟨a,rfl,J⟩:=Z;exact⟨a,rfl,aj.rd hB J⟩
   | _ =>
    cases e;obtain⟨a,rfl,J,h1,h2⟩:=Z;exact⟨a,rfl,J.move (s _) hv,Ku _ h1,hO a h1 h2⟩
 .have zero:∀m,(mX js W x)[0]?=some (some m)->ip m=true->False:=λm e o=>by
   simp only[mX,getElem?_cons_zero,pd]at e;subst e;cases o
  have Y:∀U m,BU (some U)=some m->ip m=true->ip U=true:=λU m e o=>by
   cases U<;>first|rfl|(cases e;cases o;done)|(cases e;done)
  cases i with
  |zero=>exact zero m e om
  |succ i =>
   cases i2 with
   |zero=>exact zero m' e' aO
   |succ i2 =>
    obtain⟨j1,n1,u1,a1,b3,c1,b4,_,a2⟩:=get i m e;obtain⟨j2,n2,u2,b5,cd,c2,ck,_,a3⟩:=get i2 m' e';rw[a2]at es;rw[a3]at a0;cases es;cases a0;refine st.apart j1 j2 n1 n2 a (λz=>b1 ?_) (aF b3) (aF cd) (Y _ _ c1 om) (Y _ _ c2 aO) b4 ck;subst z;have hl:=(y1.mp a1).1;rw[(getElem?_inj hl a5).mp (a1.trans b5.symm)]
def sk{K:Nl}{B H H1:Hp}{E O:List Addr}{W l:Rho}{σ:St}{J:It}{xs ws:List PV}{D:Addr}{Q:VK}(b2:js.Nodup)(st:aD K B E O H W σ)(s1:aj H H1)(a4:m_ K J xs (aq H1 O) (ba B O H1 []))(dt:xs.length<=10000)
  (e3:gZ cal js j e f mask ms xs W=some (ws,l)) (hD:H1 D=none) (q:∀H',aj (aq H O) (aq H' O)->aD K B E O H' l σ->bb B O O W l σ σ->Rep K (aq H' O) (.lst ws) (.ref D)->Q (.ref D) H'):rH J (fE js σ) H1 (tT K cal (.cst (.bl true))) (tSr K cal j e f mask ms) D Q:=by
 have a5:D∉O:=λz=>bq s1 st.here D z hD
 have a0:=st.keep.trans s1;have gB:aj B (ba B O H1 []):=d8 a0;have gO:∀a∈O,B a=none->ba B O H1 [] a=none:=λa ha Z=>by
  unfold ba;rw[if_pos ha,if_neg (λz=>nomatch z)];exact Z
 have gD:ba B O H1 [] D=none:=by
  unfold ba;rw[if_neg a5];exact hD
 refine⟨λi m F H'=>m=xs.length-i/\i<=xs.length/\(∀z,F.set 0 z=(fE js σ).set 0 z)/\0<F.length/\∃Y done bP ys,aD K B E O (c_ H' D) Y σ/\bb B O O W Y σ σ/\aj (ba B O H1 []) (c_ H' D)/\gZ cal js j e f mask ms (xs.drop i) Y=some (bP,l)/\ws=done++bP/\done.length<=i/\H' D=some (.lst ys)/\Reps K (aq H' (D::O)) done ys,⟨xs.length,by simp,J2 _,λ_=>rfl,by simp[fE],W,[],ws,[],?_,.refl,?_,by simpa using e3,rfl,gx _,az,.nil⟩,?_⟩
 .rw[i3,nq hD];exact st.mono s1
 .rw[i3,nq hD];exact nc a0
 rintro i m F H' ⟨rfl,hi,a6,hl,Y,done,bP,ys,a1,ki,sG,eg,ew,er,a7,rs⟩;have ao:=sG.trans (kd H' D);by_cases a8:i<xs.length
 .right;have ex:=JR a8;refine⟨a4.go i _ H' ao ex,λa9 H2=>∃m',m'<xs.length-i/\(m'=xs.length-(i+1)/\i+1<=xs.length/\(∀z,a9.set 0 z=(fE js σ).set 0 z)/\0<a9.length/\∃Y done bP ys,aD K B E O (c_ H2 D) Y σ/\bb B O O W Y σ σ/\aj (ba B O H1 []) (c_ H2 D)/\gZ cal js j e f mask ms (xs.drop (i+1)) Y=some (bP,l)/\ws=done++bP/\done.length<=i+1/\H2 D=some (.lst ys)/\Reps K (aq H2 (D::O)) done ys),λa9 H2 z=>z,λux H2 y=>?_⟩;obtain⟨s3,hr⟩:=a4.yld i _ H' ux H2 ao ex y;have sv:aj (aq H1 O) (aq H2 (D::O)):=λb o U=>by
   have Z:b∉O:=λz=>by rw[eX z]at U;cases U
   rw[aT Z]at U;have bA:b≠D:=λz=>by rw[z,hD]at U;cases U
   rw[aT λz=>(tf.mp z).elim bA Z];refine s3 b o (ao b o ?_);unfold ba;rw[if_neg Z];exact U
  have hx:=hr (D::O) (λa ha=>by
   rcases tf.mp ha with rfl|ha
   .rw[a7];simp
   .exact λz=>a1.here a ha ((kd H' D).free z)) sv
  have b4:=s3 _ _ a7;have c1:=(kd H' D).trans s3;have bB:=Cr (F:=F) b2 a1 c1 (ao.trans s3) gB gO (if_pos rfl) (by rw[b4];simp) a6 hx;rw[Mw a8,gZ]at eg;simp only[ez]at eg;obtain⟨w,e1,eg⟩:=eg;refine⟨_,[],D::O,_,true,bB,by simp[evB,ev,aZ],λH3 s4=>?_⟩;dsimp only;rw[if_pos rfl];split at eg
  .refine aC λZq kq=>?_
   rename_i v ds ec;simp only[ez,mx]at eg ec;obtain⟨r,e4,c2,e5,⟨c3,eH⟩,e6,e7⟩:=eg;obtain⟨vs,e2,ec⟩:=ec;cases e7;refine kq ?_;refine⟨_,[],D::O,_,w,vs,v,ds,r,bB.mono s4,e1,e2,ec,e4,λu us as H4 H5 s5 ma hk hm ru=>?_⟩;have own:=ma.own (bB.mono s4);obtain⟨e9,mo,_⟩:=xg (σ:=σ) (W:=Y) (js:=js) b2 (λi jj u ej eu=>by
    rw[a6]at eu;have:(σ[jj]?).join=some u:=by simpa[fE,ej]using eu
    exact aF this) ma
   have aO:∀a∈as,a∈O:=λa ha=>(mo.own a1 a ha).1
   have cd:D∉as:=λz=>a5 (aO D z)
   have c6:=hk D _ cd (s5 _ _ (s4 _ _ b4));have ck:∀z,(F.set 0 (some ux)).set 0 z=(fE js σ).set 0 z:=λz=>by rw[set_set];exact a6 z
   have df:0<(F.set 0 (some ux)).length:=by rw[Mb];exact hl
   have vw:aj (aq H' (D::O)) (aq H5 (D::O)):=((al s3).trans ((al s4).trans (al s5))).trans (iZ (λa h=>Ku _ (aO a h)) hk);have dm:ys.length<=10000:=by rw[<- rs.length];omega
   have cl:∀b o,b∉as->c_ H4 D b=some o->c_ H5 D b=some o:=λb o Z U=>by
    have bA:b≠D:=λz=>by rw[z]at U;unfold c_ at U;rw[if_pos rfl]at U;cases U
    rw[nl bA]at U ⊢;exact hk b o Z U
   have cr:aj (c_ H' D) (c_ H4 D):=uC ((s3.trans s4).trans s5);obtain⟨dn,k6⟩:=vK mo (a1.mono cr) cl (hm.mono (λa ha o eo=>by
    have dr:a≠D:=λz=>by rw[z]at ha;exact cd ha
    rw[nl dr];exact eo) λb o U=>by
    have Z:b∉D::O:=λz=>by rw[eX z]at U;cases U
    rw[aT Z]at U;rw[aT λz=>Z (.tail _ z),nl (show b≠D from λz=>Z (by rw[z];exact .head _))];exact U) e5
   refine⟨ys,c6,Ka dm (by decide),_,by omega,rfl,a8,ck,df,c2,done++[r],c3,ys++[u],?_,ki.trans k6,?_,e6,by rw[ew];simp,by simp;omega,az,?_⟩
   .rw[i3];exact dn
   .rw[i3];intro b o U;refine cl b o (λz=>?_) (cr b o (sG b o U));have:=(own b z).2.1;rw[this]at U;cases U
   .rw[iG (KL)];exact(Reps.mono vw _ rs).snoc ru
  .cases eg
 .left;have ei:i=xs.length:=by omega
  subst ei;rw[drop_length,gZ]at eg;cases eg;rw[K0]at ew;subst ew;refine⟨a4.stop H' ao,q H' (λb o U=>?_) (a1.mono (kd H' D)) ki ?_⟩
  .have Z:b∉O:=λz=>by rw[eX z]at U;cases U
   rw[aT Z]at U ⊢;refine ao b o ?_;unfold ba;rw[if_neg Z];exact s1 b o U
  rw[Rep];refine⟨D,ys,rfl,SqL.of ?_,Reps.mono g8 _ rs⟩;rw[aT a5];exact a7
noncomputable def tX(K:Nl)(cal:Cal)(x:XE):TE:=λσ H Q=>∃B E O W v l,aD K B E O H W σ/\evX cal x W=some (v,l) /\
 ∀u H',aj (aq H O) (aq H' O)->aD K B E O H' l σ->bb B O O W l σ σ->Rep K (aq H' O) v u->Q u H'
noncomputable def tXs(K:Nl)(cal:Cal)(xs:List XE):TA:=λσ H Q=>∃B E O W vs l,aD K B E O H W σ/\evXs cal xs W=some (vs,l) /\
 ∀us H',aj (aq H O) (aq H' O)->aD K B E O H' l σ->bb B O O W l σ σ->Reps K (aq H' O) vs us->Q us H'
def Fl(J:aH m=false)(h:PE X e (tE X.K cal m)):PE X e (tX X.K cal (.pure m)):=by
 refine h.imp λσ H Q q=>?_
 obtain⟨B,E,O,W,v,l,st,z,q⟩:=q;rw[evX,mx]at z;obtain⟨w,z,U⟩:=z;cases U;exact⟨B,E,O,W,v,st,z,λu H' s g=>q u H' (al s) (st.mono s) .refl (g.2 J)⟩
def Fm(h:PE X e (tMr X.K cal f mask ms)):PE X e (tX X.K cal (.call f mask ms)):=by
 refine h.imp λσ H Q q=>?_
 obtain⟨B,E,O,W,v,l,st,e0,q⟩:=q;obtain⟨ds,z,e2⟩:=xc (show rP cal f mask ms W=some _ from e0);rw[ez]at z;obtain⟨vs,z,e3⟩:=z;refine⟨B,E,O,W,vs,v,ds,st,z,e3,λu us as H1 H' J Y Z hm ru=>?_⟩;obtain⟨U,k'⟩:=vK Y (st.mono J) Z hm e2;have own:=Y.own (st.mono J);exact q u H' ((al J).trans (iZ (λa h=>(own a h).1) Z)) U k' ru
def zR:∀{ns:List Int}{n},ns.getLast?=some n->(ns.map V.int).getLast?=some (V.int n):=by
 intro ns n h
 simp_all
def HM (hn:aU X.N X.env.scope i x=true) (U:(apos.endLine==cpos.line)=true):PE X (.Call (.Attribute (.Name x p) "pop" apos) [] [] cpos) (tX X.K cal (.pop i)):=by
 refine(D3 PySem.F.plainAttrs_list PySem.F.slot_list_pop PySem.F.type_list_pop D5 (cb hn) rfl U).imp λσ H Q q=>?_
 obtain⟨B,E,O,W,v,l,st,J,q⟩:=q;have J:BV i W=some (v,l):=J;unfold BV at J;cases hd:gr (W[i]?).join with
 |none=>rw[hd]at J;cases J
 |some d =>
  rw[hd]at J;cases d with
  |p ns =>
   rw[mx]at J;obtain⟨n,el,Z⟩:=J;cases Z;obtain⟨a,Y,ha,hO,key⟩:∃a,σ[i]?=some (some (.ref a))/\H a=some (iD (.p ns))/\a∈O/\(aD X.K B E O (upd H a (iD (.p ns.dropLast))) (fF W i (.p ns.dropLast)) σ/\bb B O O W (fF W i (.p ns.dropLast)) σ σ):=by
    rcases fw hd with e|e
    .obtain⟨u,Y,a,rfl,h1,h2,h3⟩:=aQ st e;refine⟨a,Y,h1,h2,?_⟩;have Z:fF W i (.p ns.dropLast)=put W i (.ownD (.p ns.dropLast)):=by unfold fF;rw[e];rfl
     rw[Z];exact st.changeD (aF e) Y λ_=>az
    .obtain⟨u,Y,a,rfl,h1,h2,h3⟩:=aQ st e;refine⟨a,Y,h1,h2,?_⟩;have Z:fF W i (.p ns.dropLast)=put W i (.mutD (.p ns.dropLast)):=by unfold fF;rw[e];rfl
     rw[Z];exact st.changeU (aF e) Y λ_=>az
   have ao:aj (aq H O) (aq (upd H a (iD (.p ns.dropLast))) O):=λb o e=>by
    have hb:b∉O:=λz=>by rw[eX z]at e;cases e
    rw[aT hb]at e ⊢;rw[aW (show b≠a from λz=>hb (z▸hO))];exact e
   have fin:=q (.int n) _ ao key.1 key.2 (bE _ _);have aO:(ns.map V.int)[(ns.map V.int).length-1]?=some (V.int n):=by
    rw[<- getLast?_eq_getElem?];exact zR el
   refine⟨_,Y,.inl ⟨rfl,ns.map V.int,SqL.of ha⟩,a,ns.map V.int,.int n,rfl,rfl,ha,aO,?_⟩;have e9:(ns.map V.int).dropLast=ns.dropLast.map V.int:=map_dropLast.symm;rw[e9];exact fin
  | _=>cases J
def HN(ha:PE X l (tX X.K cal a))(hb:PE X r (tE X.K cal b)):PE X (.BinOp l (uf op) r pos) (tX X.K cal (.bin op a b)):=by
 refine(uT (ul op) ha hb).imp λσ H Q q=>?_
 refine aC λZq kq=>?_
 obtain⟨B,E,O,W,v,ρ',st,J,q⟩:=q;rw[evX]at J;simp only[ez,mx]at J;obtain⟨⟨x,U⟩,J,y,e2,r,e3,e4⟩:=J;cases e4;refine kq ?_;exact⟨B,E,O,W,x,U,st,J,λux H1 v1 z k1 rx=>⟨B,E,O,U,y,z,e2,λuy H2 Y g2=>⟨O,x,y,v,bq Y z.here,.inl (Rep.mono (al Y) _ rx),g2.1,e3,λu H3 Z ru=>q u H3 (v1.trans (al (Y.trans Z))) (z.mono (Y.trans Z)) k1 ru⟩⟩⟩
def Js(g:Gf X T k cal)(hf:T.fs[f]?=some x)(hg:glB X.env.scope x=true)(hn:am x=true)(ha:PE X e (tX X.K cal a))(has:PA X es (tAs X.K cal ms))(J:ah e=true)(hs:es.all ah=true):PE X (.Call (.Name x p) (e::es) [] pos) (tX X.K cal (.fn f a ms)):=by
 obtain⟨fa,fd,ps,h1,h2,h3,F,_⟩:=g.fns f x hf;refine(lU F g.room (dk hg) h1 h2 h3 .nil rj (aJ ha has (aR J es _)) (g7 hn).1 (aR J es _) (bV hs)).imp λσ H Q q=>?_
 refine aC λZq kq=>?_
 obtain⟨B,E,O,W,v,l,st,U,q⟩:=q;rw[evX]at U;simp only[ez,mx]at U;obtain⟨⟨w,Y⟩,U,vs,e2,r,e3,e4⟩:=U;cases e4;refine kq ?_;refine⟨B,E,O,W,w,Y,st,U,λux H1 v1 z k1 rx=>⟨B,E,O,Y,vs,z,e2,λus H2 Z g2=>⟨O,.val w::vs,v,bq Z z.here,?_,e3,λu H3 s3 ru=>q u H3 (v1.trans (al (Z.trans s3))) (z.mono (Z.trans s3)) k1 ru⟩⟩⟩;rw[K0];exact .cons (show Rep X.K (aq H2 O) w ux from Rep.mono (al Z) _ rx) g2
def HP:PA X [] (tXs X.K cal []):=by
 refine bJ.imp λσ H Q q=>?_
 obtain⟨B,E,O,W,vs,l,st,z,q⟩:=q;cases z;exact q [] H (aj.refl _) st .refl .nil
def Fn(h:PE X e (tX X.K cal x))(hs:PA X es (tXs X.K cal xs))(hn:ah e=true):PA X (e::es) (tXs X.K cal (x::xs)):=by
 refine(aJ h hs (aR hn es _)).imp λσ H Q q=>?_
 refine aC λZq kq=>?_
 obtain⟨B,E,O,W,vs,l,st,z,q⟩:=q;rw[evXs]at z;simp only[ez,mx]at z;obtain⟨⟨v,J⟩,z,⟨ws,a1⟩,e2,e3⟩:=z;cases e3;refine kq ?_;exact⟨B,E,O,W,v,J,st,z,λu H1 v1 U k1 ru=>⟨B,E,O,J,ws,_,U,e2,λus H2 Z Y k2 rs=>q _ H2 (v1.trans Z) Y (k1.trans k2) (.cons (Rep.mono Z _ ru) rs)⟩⟩
def HR(h:PA X es (tXs X.K cal xs)):PE X (.Tuple es j pos) (tX X.K cal (.tup xs)):=by
 refine(tI h).imp λσ H Q q=>?_
 obtain⟨B,E,O,W,v,l,st,J,q⟩:=q;rw[evX,ez]at J;obtain⟨⟨vs,aO⟩,J,U⟩:=J;dsimp only at U;split at U
 .rename_i hl;cases U;refine⟨B,E,O,W,vs,_,st,J,λus H1 v1 z k1 Y=>⟨?_,λp Z=>?_⟩⟩
  .rw[<- Y.length];exact cy hl
  .have s2:aj H1 (upd H1 p (.tup us)):=aA Z _;exact q _ _ (v1.trans (al s2)) (z.mono s2) k1 (gz z.here Z Y)
 .cases U
def Cs (g:Gf X T k cal) (Z:glB X.env.scope ("tuple":Str)=true) (ha:PE X e (tX X.K cal a)) (hs:ah e=true):PE X (.Call (.Name ("tuple":Str) p) [e] [] pos) (tX X.K cal (.tupOf a)):=by
 refine(cY vB (dk Z) (g.blt "tuple" (by decide)) ni (aJ ha bJ (aR hs _ _)) (by decide) (by decide) (aR hs [] _) (bV rfl)).imp λσ H Q q=>?_
 refine aC λZq kq=>?_
 obtain⟨B,E,O,W,v,l,st,z,q⟩:=q;rw[evX]at z;simp only[ez,mx]at z;obtain⟨⟨w,U⟩,z,r,e2,e3⟩:=z;cases e3;refine kq ?_;exact⟨B,E,O,W,w,U,st,z,λu H1 v1 J k1 ru=>⟨O,[w],_,J.here,.cons (.inl ru) .nil,e2,λu2 H2 Y r2=>q u2 H2 (v1.trans (al Y)) (J.mono Y) k1 r2⟩⟩
def HS(h:PA X es (tXs X.K cal xs)):PE X (.List es pos) (tX X.K cal (.lst xs)):=by
 refine(tJ h).imp λσ H Q q=>?_
 obtain⟨B,E,O,W,v,l,st,J,q⟩:=q;rw[evX,ez]at J;obtain⟨⟨vs,aO⟩,J,U⟩:=J;dsimp only at U;split at U
 .rename_i hl;cases U;refine⟨B,E,O,W,vs,_,st,J,λus H1 v1 z k1 Y=>⟨?_,λp Z=>?_⟩⟩
  .rw[<- Y.length];exact cy hl
  .have s2:aj H1 (upd H1 p (.lst us)):=aA Z _;exact q _ _ (v1.trans (al s2)) (z.mono s2) k1 (m8 z.here Z Y)
 .cases U
def HU(g:Gf X T k cal)(hf:T.fs[f]?=some x)(hg:glB X.env.scope x=true)(hn:am x=true)(hm:PE X l (tE X.K cal m))(hb:aH m=false)(ha:PE X r (tX X.K cal a))(z:ah l=true)(J:ah r=true):PE X (.Call (.Name x p) [l,r] [] pos) (tX X.K cal (.fn2 f m a)):=by
 obtain⟨fa,fd,ps,h1,h2,h3,F,_⟩:=g.fns f x hf;refine(lU F g.room (dk hg) h1 h2 h3 .nil rj (aJ hm (aJ ha bJ (aR J _ _)) (aR z _ _)) (g7 hn).1 (aR z [r] _) (bV (by rw[all_cons,J];rfl))).imp λσ H Q q=>?_
 refine aC λZq kq=>?_
 obtain⟨B,E,O,W,v,ρ',st,U,q⟩:=q;rw[evX]at U;simp only[ez,mx]at U;obtain⟨w,U,⟨Z,a9⟩,e2,r,e3,e4⟩:=U;cases e4;refine kq ?_;refine⟨B,E,O,W,w,st,U,λux H1 s1 g1=>⟨B,E,O,W,Z,_,st.mono s1,e2,λuy H2 v2 Y k2 ry=>⟨O,[.val w,.val Z],v,Y.here,?_,e3,λu H3 s3 ru=>q u H3 ((al s1).trans (v2.trans (al s3))) (Y.mono s3) k2 ru⟩⟩⟩;rw[K0];exact .cons (show Rep X.K _ w ux from Rep.mono v2 _ (g1.2 hb)) (.cons (show Rep X.K _ Z uy from ry) .nil)
def Ct(g:Gf X T k cal)
  (a0:fL X.env.scope X.N scope y (dC X.N js) js=true) (hw:PI X (.Name y py) it (tW X.K cal .seq [src])) (a1:fq it=true) (hb:aH src=false) (a2:js.Nodup) (he:∀z U C fp,PE (X.blk y (dC X.N js) scope z U C fp) el (tSr X.K cal j e f mask ms)) :
  PE X (.ListComp el [⟨.Name y py,it,[],0⟩] scope cpos) (tX X.K cal (.compS src js j e f mask ms)):=by
 refine(u_ (tt:=tT X.K cal (.cst (.bl true))) (kS a0) g.calm hw (λz U C fp=>qE (show rV (λ_=>false) (.cst _) []=true from rfl) λc hc=>nomatch hc) he (by intro v;cases it<;>first|rfl|(simp[fq]at a1))).imp λσ H Q q=>?_
 obtain⟨B,E,O,W,v,l,st,Y,q⟩:=q;rw[evX]at Y;simp only[ez]at Y;obtain⟨vs,e2,xs,e3,Y⟩:=Y;split at Y
 .rename_i Z;rw[mx]at Y;obtain⟨⟨ws,a8⟩,e1,e4⟩:=Y;cases e4;have ao:bh [src] W σ=[]:=by
   cases src<;>first|rfl|(cases hb;done)
  refine⟨B,E,O,W,vs,xs,st,e2,e3,λJ H1 s1 aO D' hD=>?_⟩;rw[ao]at aO;exact sk a2 st s1 aO Z e1 hD λH' v' a3 k' ru=>q _ H' v' a3 k' ru
 .cases Y
noncomputable def tWX(K:Nl)(cal:Cal)(y:XE):TI:=λσ H R =>
 ∃B E O W v l xs,aD K B E O H W σ/\evX cal y W=some (v,l)/\bj .rng [v]=some xs/\∀J H1,aj (aq H O) (aq H1 O)->aD K B E O H1 l σ->bb B O O W l σ σ->m_ K J xs (aq H1 O) (ba B O H1 (bh [.cst v] l σ))->R J H1
def zS (g:Gf X T k cal) (Y:glB X.env.scope ("range":Str)=true) (h:PE X e (tX X.K cal y)) (hs:ah e=true):PI X tg (.Call (.Name ("range":Str) p) [e] [] pos) (tWX X.K cal y):=by
 refine(oO (dk Y) (g.blt "range" (by decide)) (aJ h bJ (aR hs _ _)) (aR hs _ _)).imp λσ H R q=>?_
 obtain⟨B,E,O,W,v,l,xs,st,Z,z,q⟩:=q;refine⟨B,E,O,W,v,l,st,Z,λu H1 v1 J k1 U=>?_⟩;cases v with
 |int j =>
  simp only[bj]at z;split at z
  .rename_i c;cases z;rw[Rep]at U;subst U;exact⟨j,rfl,c.1,c.2,q _ _ v1 J k1 ng⟩
  .cases z
 | _=>simp[bj]at z
mutual
theorem eY(g:Gf X T k cal):∀(x:XE) (e:Expr),c7 T x X.N X.env.scope e=true->PE X e (tX X.K cal x)
 | .pure m,e,h=>by
  have h:(chk T m X.N X.env.scope e&&!aH m&&bS e)=true:=h;simp only[il,JX]at h;exact Fl h.1.2 (ar m g h.1.1).1
 | .call f mask ms,e,h=>by
  obtain⟨y,p,args,cp,rfl,hq⟩:=m4 (show fM T f mask ms X.N X.env.scope e=true from h);simp only[il,JQ,Ks,JX]at hq;obtain⟨⟨⟨⟨⟨⟨q1,q2⟩,q3⟩,q4⟩,q5⟩,q6⟩,q7⟩:=hq;cases args with
  |nil=>cases q7
  |cons a args=>exact Fm (vL g q1 q2 q3 (qH g mask ms (a::args) q4 q5 q6) (bG q4).1)
 | .pop i,e,h=>by
  obtain⟨q,J,h⟩:=ak (show onQ (EG e) (λq=>aU X.N X.env.scope i q.1&&q.2.1==("pop":Str)&&q.2.2.1.endLine==q.2.2.2.line)=true from h);obtain⟨y,m,ap,cp⟩:=q;obtain⟨p,rfl⟩:=B2 J;obtain⟨U,Y⟩:=g4.mp h;obtain⟨h1,h2⟩:=g4.mp U;obtain rfl:m=("pop":Str):=eq_of_beq h2;exact HM h1 Y
 | .bin op a b,e,h=>by
  obtain⟨q,J,h⟩:=ak (show onQ (EH e) (λq=>q.2.1==uf op&&c7 T a X.N X.env.scope q.1&&chk T b X.N X.env.scope q.2.2)=true from h);obtain⟨l,o,r⟩:=q;obtain⟨pos,rfl⟩:=B3 J;obtain⟨U,Y⟩:=g4.mp h;obtain⟨h1,h2⟩:=g4.mp U;obtain rfl:o=uf op:=eq_of_beq h1;exact HN (eY g a l h2) (ar b g Y).1
 | .fn f a ms,e,h=>by
  obtain⟨q,J,h⟩:=ak (show onQ (fnQ e) (λq=>T.fs[f]?==some q.1&&glB X.env.scope q.1&&am q.1&&c7 T a X.N X.env.scope q.2.1&&ah q.2.1&&chks T ms X.N X.env.scope q.2.2)=true from h);obtain⟨y,l,r⟩:=q;obtain⟨p,pos,rfl⟩:=uj J;obtain⟨U,h6⟩:=g4.mp h;obtain⟨a2,Z⟩:=g4.mp U;obtain⟨a3,h4⟩:=g4.mp a2;obtain⟨a4,Y⟩:=g4.mp a3;obtain⟨h1,h2⟩:=g4.mp a4;exact Js g (eq_of_beq h1) h2 Y (eY g a l h4) (soundA ms g h6) Z (bG h6).1
 | .tup xs,e,h=>by
  obtain⟨q,J,h⟩:=ak (show onQ (EI e) (λq=>chkXEs T xs X.N X.env.scope q)=true from h);obtain⟨j,pos,rfl⟩:=B4 J;exact HR (soundXEs g xs q h)
 | .lst xs,e,h=>by
  obtain⟨q,J,h⟩:=ak (show onQ (EJ e) (λq=>chkXEs T xs X.N X.env.scope q)=true from h);obtain⟨pos,rfl⟩:=B5 J;exact HS (soundXEs g xs q h)
 | .fn2 f m a,e,h=>by
  obtain⟨q,J,h⟩:=ak (show onQ (EK e) (λq=>T.fs[f]?==some q.1&&glB X.env.scope q.1&&am q.1&&chk T m X.N X.env.scope q.2.1&&!aH m&&ah q.2.1&&c7 T a X.N X.env.scope q.2.2&&ah q.2.2)=true from h);obtain⟨y,l,r⟩:=q;obtain⟨p,pos,rfl⟩:=B6 J;obtain⟨U,h8⟩:=g4.mp h;obtain⟨a2,h7⟩:=g4.mp U;obtain⟨a3,h6⟩:=g4.mp a2;obtain⟨a4,Z⟩:=g4.mp a3;obtain⟨a5,h4⟩:=g4.mp a4;obtain⟨a6,Y⟩:=g4.mp a5;obtain⟨h1,h2⟩:=g4.mp a6;exact HU g (eq_of_beq h1) h2 Y (ar m g h4).1 (by simpa using Z) (eY g a r h7) h6 h8
 | .tupOf a,e,h=>by
  obtain⟨q,J,h⟩:=ak (show onQ (fnQ e) (λq=>q.1==("tuple":Str)&&glB X.env.scope q.1&&q.2.2.isEmpty&&c7 T a X.N X.env.scope q.2.1&&ah q.2.1)=true from h);obtain⟨y,l,r⟩:=q;obtain⟨p,pos,rfl⟩:=uj J;obtain⟨U,Z⟩:=g4.mp h;obtain⟨a2,h4⟩:=g4.mp U;obtain⟨a3,Y⟩:=g4.mp a2;obtain⟨h1,h2⟩:=g4.mp a3;obtain rfl:y=("tuple":Str):=eq_of_beq h1;obtain rfl:r=[]:=Lm.mp Y;exact Cs g h2 (eY g a l h4) Z
 | .compS src js j m f mask ms,e,h=>by
  obtain⟨c,e2,h2⟩:=ak (show onQ (zh e) (λc=>fL X.env.scope X.N c.2.1 c.2.2.1 (dC X.N js) js&&mZ X.env.scope false (λxs=>chks T [src] X.N X.env.scope xs) .seq c.2.2.2&&!aH src&&zg T j m f mask ms (c.2.2.1::dC X.N js) (lO c.2.1 X.env.scope) c.1&&decide js.Nodup)=true from h);obtain⟨py,cpos,rfl⟩:=zi e2;obtain⟨el,scope,y,it⟩:=c;simp only[il,JX,Ks]at h2;obtain⟨⟨⟨⟨Z,h6⟩,h7⟩,h8⟩,h9⟩:=h2;have hw:=kU (tg:=.Name y py) (λz=>by cases z) g h6 (λxs a8=>⟨sounds [src] g a8,bG a8⟩) (λm x hm hx=>by cases hm;exact(ar src g (by simp only[chks,il]at hx;exact hx.1.1)).1);exact Ct g Z hw.1 hw.2 h7 h9 λa9 bA C fp=>Fk (g.blk y (dC X.N js) scope a9 bA C fp) h8
theorem soundXEs(g:Gf X T k cal):∀(xs:List XE) (es:List Expr),chkXEs T xs X.N X.env.scope es=true->PA X es (tXs X.K cal xs)
 | [],es,h=>by
  cases es with
  |nil=>exact HP
  |cons _ _=>cases h
 |x::xs,es,h=>by
  cases es with
  |nil=>cases h
  |cons e es =>
   have h:(c7 T x X.N X.env.scope e&&ah e&&chkXEs T xs X.N X.env.scope es)=true:=h;simp only[il]at h;exact Fn (eY g x e h.1.1) (soundXEs g xs es h.2) h.1.2
end
def Fo(d:Df X)(hi:X.N[i]?=some x)(hx:Loc X.env.scope x)(h:PE X v (tX X.K cal y))(hc:bS v=true):PS X (.Assign [.Name x px] v pos) (tS X.K cal (.setX i y)):=
 PS.imp' (jp d.nd hi hx h (cR hc _ _ _) (.inl (d.fn x))) λD σ H U q=>by
  obtain⟨B,E,O,W,st,q⟩:=q;rw[ex]at q;cases e:evX cal y W with
  |none=>rw[e]at q;exact(show False from q).elim
  |some cr =>
   obtain⟨s,l⟩:=cr;rw[e]at q;refine⟨B,E,O,W,s,l,st,e,λu H' _ z Y Z=>?_⟩;obtain⟨J,k2⟩:=z.store (ltN hi U) Z;exact q _ H' O J (Y.trans k2)
def Fp{i:Nat}{xs:List XE}{x:Str}{es:List Expr}{px p pos:Pos}(d:Df X)(hi:X.N[i]?=some x)(hx:Loc X.env.scope x)(h:PA X es (tXs X.K cal xs)):PS X (.Assign [.Name x px] (.List es p) pos) (tS X.K cal (.ownX i xs)):=
 PS.imp' (jp d.nd hi hx (tJ h) (cR rfl _ _ _) (.inl (d.fn x))) λD σ H hl q=>by
  obtain⟨B,E,O,W,st,q⟩:=q;rw[ex]at q;cases e:evXs cal xs W with
  |none=>rw[e]at q;exact(show False from q).elim
  |some cr =>
   obtain⟨vs,l⟩:=cr;rw[e]at q;dsimp only at q;split at q
   .rename_i z;refine⟨B,E,O,W,vs,l,st,e,λus H1 _ U k1 rs=>⟨by rw[<- rs.length];exact cy z,λa J=>?_⟩⟩;obtain⟨Y,k2⟩:=U.storeOwn (ltN hi hl) (aA J (.lst us)) J az (Reps.mono (bF (aA J _) λb Z=>by
     rcases tf.mp Z with rfl|Z
     .exact .inr J
     .exact .inl Z) _ rs)
    exact q _ _ _ Y (k1.trans k2)
   .exact(show False from q).elim
def Cu(h:PE X v (tX X.K cal y)):PS X (.Return (some v) pos) (tS X.K cal (.retXE y)):=by
 refine(p5 h).imp λD σ H q=>?_
 obtain⟨B,E,O,W,st,q⟩:=q;rw[ex]at q;cases e:evX cal y W with
 |none=>rw[e]at q;exact(show False from q).elim
 |some cr =>
  obtain⟨s,l⟩:=cr;rw[e]at q;exact⟨B,E,O,W,s,l,st,e,λu H' _ z J U=>q u σ H' O z J U⟩
def Fq(h:PE X v (tX X.K cal y))(hn:aU X.N X.env.scope i x=true)(hs:ah v=true)(J:(apos.endLine==cpos.line)=true) :
  PS X (.Expr (.Call (.Attribute (.Name x p) "append" apos) [v] [] cpos) pos) (tS X.K cal (.appX i y)):=by
 refine(pZ (yf PySem.F.plainAttrs_list PySem.F.slot_list_append PySem.F.type_list_append kC (cb hn) (aJ h bJ (aR hs _ _)) rfl (by rw[aR hs];rfl) J (aR hs _ _) rfl) rfl).imp λD σ H q=>?_
 obtain⟨B,E,O,W,st,q⟩:=q;rw[ex]at q;cases hj:(W[i]?).join with
 |none=>rw[hj]at q;exact(show False from q).elim
 |some m =>
  rw[hj]at q;cases m with
  |own aO =>
   dsimp only at q;obtain⟨a4,eu,a,U,rfl,ha,_,hO,_⟩:=aQ st hj;cases e:evX cal y W with
   |none=>rw[e]at q;exact(show False from q).elim
   |some cr =>
    obtain⟨w,l⟩:=cr;rw[e]at q;dsimp only at q;cases z:(l[i]?).join with
    |none=>rw[z]at q;exact(show False from q).elim
    |some m' =>
     rw[z]at q;cases m' with
     |own xs =>
      dsimp only at q;split at q
      .rename_i hl;refine⟨_,eu,.inl ⟨rfl,U,SqL.of ha⟩,B,E,O,W,w,l,st,e,λu H1 v1 Y k1 ru=>?_⟩;refine aC λZq kq=>?_
       obtain⟨u1,Z,a1,us,e5,a2,rs,_,_⟩:=aQ Y z;rw[eu]at Z;cases Z;cases e5;refine kq ?_;refine⟨a,us,u,rfl,rfl,a2,?_,?_⟩
       .rw[<- rs.length];exact uw hl (by decide)
       .obtain⟨a3,k2⟩:=Y.change (us:=us++[u]) (ys:=xs++[w]) (aF z) eu (rs.snoc ru);exact q _ _ _ a3 (k1.trans k2)
      .exact(show False from q).elim
     | _=>exact(show False from q).elim
  | _=>exact(show False from q).elim
def aD.storeP{K:Nl}(st:aD K B E O H W σ)(hi:i<σ.length)(s:aj H H')(U:H p=none)(J:H' p=some (.lst us))(r:Reps K (aq H' (p::O)) (ns.map .int) us):aD K B E (p::O) H' (put W i (.ownD (.p ns))) (σ.set i (some (.ref p)))/\bb B O (p::O) W (put W i (.ownD (.p ns))) σ (σ.set i (some (.ref p))):=by
 have Y:=r.ints;subst Y;exact st.storeM hi s U (by rw[J];simp) rfl (λ_ z=>by cases z) λZ=>⟨p,rfl,J,KL,Z⟩
def Fr {px p p2 pos2 cp pos:Pos} (g:Gf X T k cal) (d:Df X) (hi:X.N[i]?=some x) (hx:Loc X.env.scope x) (h1:glB X.env.scope ("list":Str)=true) (h2:glB X.env.scope ("reversed":Str)=true) (h:PE X e (tE X.K cal Z)) (hs:ah e=true):PS X (.Assign [.Name x px] (.Call (.Name ("list":Str) p) [.Call (.Name ("reversed":Str) p2) [e] [] pos2] [] cp) pos) (tS X.K cal (.setP i Z)):=by
 refine PS.imp' (jp d.nd hi hx (t9 g.calm (dk h1) (g.blt "list" (by decide)) qC (dk h2) (g.blt "reversed" (by decide)) h (aR hs _ _)) (cR (v:=.Call _ _ _ _) rfl _ _ _) (.inl (d.fn x))) λD σ H hl q=>?_
 obtain⟨B,E,O,W,st,q⟩:=q;rw[ex]at q;cases J:ev cal Z W with
 |none=>rw[J]at q;exact(show False from q).elim
 |some w =>
  rw[J]at q;cases w with
  |lst xs =>
   dsimp only at q;cases U:a_ xs with
   |none=>rw[U]at q;exact(show False from q).elim
   |some ns =>
    rw[U]at q;have e3:=di U;subst e3;refine⟨B,E,O,W,_,st,J,λu H1 s1 g1=>?_⟩;obtain⟨a,us,rfl,sq,rs⟩:=g1.1.lst;have e4:=rs.ints;subst e4;refine⟨a,_,rfl,sq,λl z=>?_⟩;rw[show(ns.map V.int).reverse=ns.reverse.map V.int from map_reverse.symm];obtain⟨Y,k'⟩:=st.storeP (ns:=ns.reverse) (ltN hi hl) (s1.trans (aA z (.lst (ns.reverse.map V.int)))) (s1.free z) az (Reps.of_ints _);exact q _ _ _ Y k'
  | _=>exact(show False from q).elim
end
section
variable{K:Nl}{B H:Hp}{E O:List Addr}{W:Rho}{σ:St}
def HV(J:aD K (ba B O H1 L) E U H' l F)(k:bb (ba B O H1 L) O U W l σ F):aj (aq H1 O) (aq H' U):=λb u e=>by
 have Z:b∉O:=λz=>by rw[eX z]at e;cases e
 have Y:ba B O H1 L b=some u:=cc b u e;rw[aT]
 .exact J.keep b u Y
 .intro z;rcases k.new b z with q|q
  .exact Z q
  .rw[Y]at q;cases q
def Cv(st:aD K B E O H W σ):aD K (ba B O H (bh ms W σ)) E O H (bL ms W) σ/\(bL ms W).length=W.length:=by
 have base:∀L,(∀a∈L,∀(j:Nat) ys,(bL ms W)[j]?=some (some ys)->ip ys=true->σ[j]?≠some (some (.ref a)))->(∀(j:Nat) m,(bL ms W)[j]?=some (some m)->(∃ys,m=.brw ys/\W[j]?=some (some (.own ys))/\∃a,σ[j]?=some (some (.ref a))/\a∈L)\/W[j]?=some (some m))->(bL ms W).length=W.length ->
   aD K (ba B O H L) E O H (bL ms W) σ:=λL h1 h2 h3=>by
  have gl:=nc (O:=O) (L:=L) st.keep;have lg:=d8 (O:=O) (L:=L) st.keep;refine⟨gl,st.here,st.sub,λa ha z=>st.old a ha (lg.free z),h3.trans st.len,λj m e=>?_,λc d ps qs ad a9 e1 e2 p1 p2 e3 e4=>?_
   ⟩
  .rcases h2 j m e with⟨ys,rfl,e2,a,ea,J⟩|e2
   .obtain⟨u,Y,a',us,rfl,U,q2,Z,q4⟩:=st.slot j _ e2;rw[ea]at Y;cases Y;refine⟨_,ea,a,us,rfl,SqL.of ?_,q2⟩;unfold ba;rw[if_pos Z,if_pos J];exact U
   .obtain⟨u,Y,q⟩:=st.slot j m e2;refine⟨u,Y,?_⟩;cases m with
    |val v=>exact q
    |own ys =>
     obtain⟨a,us,rfl,U,q2,Z,q4⟩:=q;refine⟨a,us,rfl,U,q2,Z,?_⟩;unfold ba;rw[if_pos Z,if_neg λJ=>h1 a J j (.own ys) e rfl Y];exact q4
    |ownD ys =>
     obtain⟨a,rfl,U,Z,q4⟩:=q;refine⟨a,rfl,U,Z,?_⟩;unfold ba;rw[if_pos Z,if_neg λJ=>h1 a J j (.ownD ys) e rfl Y];exact q4
    |mutD ys =>
     obtain⟨a,rfl,U,Z,q4⟩:=q;refine⟨a,rfl,U,Z,?_⟩;unfold ba;rw[if_pos Z,if_neg λJ=>h1 a J j (.mutD ys) e rfl Y];exact q4
    |brwD ys=>obtain⟨a,rfl,U⟩:=q;exact⟨a,rfl,aj.rd lg U⟩
    |brw ys=>obtain⟨a,us,rfl,U,q2⟩:=q;exact⟨a,us,rfl,lg.seq U,q2⟩
  .rcases h2 c _ e1 with⟨_,rfl,_⟩|e1
   .cases p1
   .rcases h2 d _ e2 with⟨_,rfl,_⟩|e2
    .cases p2
    .exact st.apart c d ps qs ad a9 e1 e2 p1 p2 e3 e4
 have plain:bL ms W=W->bh ms W σ=[]->aD K (ba B O H (bh ms W σ)) E O H (bL ms W) σ/\(bL ms W).length=W.length:=λe1 e2=>by
  rw[e2];exact⟨base [] (λa ha=>by simp at ha) (λj m e=>.inr (by rw[e1]at e;exact e)) (by rw[e1]),by rw[e1]⟩
 match ms with
 | []|.var _::_|.cst _::_|.glob _ _::_|.bin _ _ _::_|.neg _::_|.not _::_|.and _ _::_|.or _ _::_|.ite _ _ _::_|.cmp _ _ _::_|.chain _ _ _ _ _::_|.tup _::_|.lst _::_|.idx _ _::_|.slice _ _ _::_|.blt _ _::_|.call _ _::_|.callD _ _ _::_|.comp _ _ _ _ _::_|.dget _ _ _::_|.dat _ _::_|.dIn _ _ _::_|.lenP _::_|.disp _ _::_|.bor _::_::_=>exact plain rfl rfl
 | [.bor i] =>
  cases hj:(W[i]?).join with
  |none=>exact plain (by simp[bL,hj]) (by simp[bh,hj])
  |some m =>
   cases m with
   |own xs =>
    refine aC λZq kq=>?_
    have el:bL [.bor i] W=put W i (.brw xs):=by simp[bL,hj]
    have e0:=aF hj;obtain⟨u,Y,a,us,rfl,U,q2,Z,q4⟩:=st.slot i _ e0;have eL:bh [.bor i] W σ=[a]:=by simp[bh,hj,Y]
    have a3:=(y1.mp e0).1;refine kq ?_;rw[eL];refine⟨base [a] (λb hb j ys e oy z=>?_) (λj m e=>?_) (by rw[el,put_len]),by rw[el,put_len]⟩
    .have:b=a:=by simpa using hb
     subst this;rw[el]at e;have a4:i≠j:=λz=>by subst z;rw[ai a3]at e;cases e;cases oy
     rw[af a4]at e;exact st.apart i j (.own xs) ys b a4 e0 e rfl oy Y z
    .rw[el]at e;by_cases a5:i=j
     .subst a5;rw[ai a3]at e;cases e;exact .inl ⟨xs,rfl,e0,a,Y,by simp⟩
     .rw[af a5]at e;exact .inr e
   | _=>exact plain (by simp[bL,hj]) (by simp[bh,hj])
def ke(h:(bL ms W)[j]?=some (some (.brw ys))):W[j]?=some (some (.brw ys))\/(ms=[.bor j]/\W[j]?=some (some (.own ys))):=by
 unfold bL at h;split at h
 .rename_i i;split at h
  .rename_i xs U;have Y:=aF U;have J:=(y1.mp Y).1;by_cases z:i=j
   .subst z;rw[ai J]at h
    simp_all
   .rw[af z]at h;exact .inl h
  .exact .inl h
 .exact .inl h
def kW{j:Nat}(h:(bL ms W)[j]?=some (some (.brwD ys))):W[j]?=some (some (.brwD ys)):=by
 unfold bL at h;split at h
 .rename_i i;split at h
  .rename_i xs U;have Y:=aF U;have J:=(y1.mp Y).1;by_cases z:i=j
   .subst z;rw[ai J]at h;cases h
   .rw[af z]at h;exact h
  .exact h
 .exact h
def xh{j:Nat}(h:(bL ms W)[j]?=some (some (.mutD ys))):W[j]?=some (some (.mutD ys)):=by
 unfold bL at h;split at h
 .rename_i i;split at h
  .rename_i xs U;have Y:=aF U;have J:=(y1.mp Y).1;by_cases z:i=j
   .subst z;rw[ai J]at h;cases h
   .rw[af z]at h;exact h
  .exact h
 .exact h
def nt :(bL ms W).length=W.length:=by
 unfold bL;split
 .split
  .exact put_len
  .rfl
 .rfl
def qI(st:aD K B E O H1 W σ)(J:aD K (ba B O H1 (bh ms W σ)) E O' H' l F)(k:bb (ba B O H1 (bh ms W σ)) O O' (bL ms W) l σ F) :
  aD K B E O' H' (aP ms W l) F/\bb B O O' W (aP ms W l) σ F:=by
 have lg:=d8 (O:=O) (L:=bh ms W σ) st.keep;have a8:=HV J k;have stay:∀a,B a≠none->a∈O->a∈O':=λa h1 h2=>k.stay a (λz=>h1 (lg.free z)) h2
 have new:∀a∈O',a∈O\/B a=none:=λa h=>(k.new a h).imp id lg.free
 have mutK:∀(j:Nat) d',l[j]?=some (some (.mutD d'))->(∃d,W[j]?=some (some (.mutD d)))/\F[j]?=σ[j]?:=λj d' e=>by
  obtain⟨⟨d,e1⟩,U⟩:=k.mutK j d' e;exact⟨⟨d,xh e1⟩,U⟩
 have slot:∀j m,l[j]?=some (some m)->(∀ys,m=.brw ys->¬ (ms=[.bor j]/\W[j]?=some (some (.own ys))))->∃u,F[j]?=some (some u)/\fo K B O' H' m u:=λj m e hn=>by
  obtain⟨u,eu,q⟩:=J.slot j m e;refine⟨u,eu,?_⟩;cases m with
  |val v=>exact q
  |own ys=>obtain⟨a,us,rfl,q1,q2,q3,q4⟩:=q;exact⟨a,us,rfl,q1,q2,q3,lg.free q4⟩
  |brw ys =>
   obtain⟨e1,U⟩:=k.brw j (.brw ys) rfl e;rcases ke e1 with Z|Z
   .obtain⟨w,ew,a,us,rfl,q1,q2⟩:=st.slot j _ Z;rw[eu,ew]at U;cases U;exact⟨a,us,rfl,q1,Reps.mono a8 _ q2⟩
   .exact absurd Z (hn ys rfl)
  |brwD ys =>
   obtain⟨e1,U⟩:=k.brw j (.brwD ys) rfl e;obtain⟨w,ew,a,rfl,q1⟩:=st.slot j _ (kW e1);rw[eu,ew]at U;cases U;exact⟨a,rfl,q1⟩
  | _=>obtain⟨a,rfl,q1,q3,q4⟩:=q;exact⟨a,rfl,q1,q3,lg.free q4⟩
 by_cases hA:∃i a0 xs,ms=[.bor i]/\(W[i]?).join=some (.own a0)/\(l[i]?).join=some (.brw xs)
 .obtain⟨i,a0,xs,rfl,h0,h1⟩:=hA;have eb:aP [.bor i] W l=put l i (.own xs):=by simp[aP,h0,h1]
  rw[eb];have e0:=aF h0;have e1:=aF h1;have a3:=(y1.mp e1).1;obtain⟨el,es⟩:=k.brw i (.brw xs) rfl e1;have exs:xs=a0:=by
   rcases ke el with Z|⟨_,Z⟩
   .rw[e0]at Z;cases Z
   .rw[e0]at Z;cases Z;rfl
  subst exs;obtain⟨w,ew,a,us,rfl,q1,q2,q3,q4⟩:=st.slot i _ e0;have eL:bh [.bor i] W σ=[a]:=by simp[bh,h0,ew]
  have ga:ba B O H1 (bh [.bor i] W σ) a=some (.lst us):=by
   unfold ba;rw[eL,if_pos q3,if_pos (by simp)];exact q1
  have other:∀(j:Nat) ys ad,l[j]?=some (some ys)->ip ys=true->F[j]?=some (some (.ref ad))->ad≠a:=λj ys ad h1 oy h2 z=>by
   obtain⟨u,eu,qq⟩:=J.slot j _ h1;rw[h2]at eu;cases eu;cases ys with
   |own ys =>
    obtain⟨b,_,U,_,_,_,q⟩:=qq;cases U;rw[z,ga]at q;cases q
   |ownD ys|mutD ys =>
    obtain⟨b,U,_,_,q⟩:=qq;cases U;rw[z,ga]at q;cases q
   | _=>cases oy
  refine⟨⟨lg.trans J.keep,J.here,J.sub,st.old,by rw[put_len];exact J.len,λj m e=>?_,λc d ps qs ad b0 e1 U p1 p2 Z e4=>?_
   ⟩,⟨stay,new,λj ys aO e=>?_,by rw[put_len];exact k.len.trans nt
   ,λj d' e=>?_
   ⟩⟩
  .by_cases Y:i=j
   .subst Y;rw[ai a3]at e;cases e;refine⟨_,by rw[es];exact ew,a,us,rfl,J.keep _ _ ga,Reps.mono a8 _ q2,k.stay a (by rw[ga];simp) q3,q4⟩
   .rw[af Y]at e;exact slot j m e λys _ ⟨z,_⟩=>Y (by cases z;rfl)
  .by_cases hc:i=c
   .subst hc;rw[es,ew]at Z;cases Z;rw[af b0]at U;exact other d qs _ U p2 e4 rfl
   .rw[af hc]at e1;by_cases hd:i=d
    .subst hd;rw[es,ew]at e4;cases e4;exact other c ps _ e1 p1 Z rfl
    .rw[af hd]at U;exact J.apart c d ps qs ad b0 e1 U p1 p2 Z e4
  .by_cases Y:i=j
   .subst Y;rw[ai a3]at e;cases e;cases aO
   .rw[af Y]at e;obtain⟨e1,U⟩:=k.brw j ys aO e;cases ys with
    |brw ys =>
     rcases ke e1 with Z|⟨z,_⟩
     .exact⟨Z,U⟩
     .cases z;exact absurd rfl Y
    |brwD ys=>exact⟨kW e1,U⟩
    | _=>cases aO
  .by_cases Y:i=j
   .subst Y;rw[ai a3]at e;cases e
   .rw[af Y]at e;exact mutK j d' e
 .have eb:aP ms W l=l:=by
   unfold aP;split
   .rename_i i;split
    .rename_i a0 xs h0 h1;exact absurd ⟨i,a0,xs,rfl,h0,h1⟩ hA
    .rfl
   .rfl
  rw[eb];have no:∀j ys,l[j]?=some (some (.brw ys))->¬ (ms=[.bor j]/\W[j]?=some (some (.own ys))):=λj ys e ⟨h1,h2⟩=>hA ⟨j,ys,ys,h1,by rw[h2];rfl,by rw[e];rfl⟩
  refine⟨⟨lg.trans J.keep,J.here,J.sub,st.old,J.len,λj m e=>slot j m e λys z=>no j ys (by rw[e,z]),J.apart
   ⟩,⟨stay,new,λj ys aO e=>?_,k.len.trans nt
   ,λj d' e=>mutK j d' e
   ⟩⟩
  obtain⟨e1,U⟩:=k.brw j ys aO e;cases ys with
  |brw ys =>
   rcases ke e1 with Z|Z
   .exact⟨Z,U⟩
   .exact absurd Z (no j ys e)
  |brwD ys=>exact⟨kW e1,U⟩
  | _=>cases aO
end
section
variable{X:Cx}{T:Tab}{k:Nat}{cal:Cal}
def Cw(K:Nl)(n:Nat)(g:TG)(tk:PV->Rho->Option Rho):Prop:=
 ∀B E O H W l σ x u (Q:St->Hp->Prop),σ.length=n->aD K B E O H W σ->Rep K (aq H O) x u->tk x W=some l ->
  (∀F,aD K B E O H l F->bb B O O W l σ F->Q F H)->g u σ H Q
def sm{K:Nl}(hn:σ.length=n)(hg:Cw K n g tk)(Y:aD K B E O H1 W σ)(it:m_ K J xs (aq H1 O) (ba B O H1 (bh ms W σ)))
  (q:gC K B E O W σ D ((aw (λx l=>cG (tk x l) λU=>exs cal body U) xs (bL ms W)).back ms W)):DO (λ_ _ R=>R J H1) g (tSs K cal body) D σ H1:=by
 obtain⟨b0,_⟩:=Cv (ms:=ms) Y;refine⟨λi m F H'=>m=xs.length-i/\i<=xs.length/\∃l O',aD K (ba B O H1 (bh ms W σ)) E O' H' l F/\bb (ba B O H1 (bh ms W σ)) O O' (bL ms W) l σ F /\
  aw (λx l=>cG (tk x l) λU=>exs cal body U) (xs.drop i) l=aw (λx l=>cG (tk x l) λU=>exs cal body U) xs (bL ms W),⟨xs.length,by simp,J2 _,bL ms W,O,b0,.refl,by simp⟩,?_⟩
 rintro i m F H' ⟨rfl,hi,l,O',Z,k',eq⟩;by_cases a6:i<xs.length
 .right;have ex:=JR a6;refine⟨it.go i _ H' Z.keep ex,λa2 H2=>∃m',m'<xs.length-i/\(m'=xs.length-(i+1)/\i+1<=xs.length/\∃l O',aD K (ba B O H1 (bh ms W σ)) E O' H2 l a2/\bb (ba B O H1 (bh ms W σ)) O O' (bL ms W) l σ a2 /\
   aw (λx l=>cG (tk x l) λU=>exs cal body U) (xs.drop (i+1)) l=aw (λx l=>cG (tk x l) λU=>exs cal body U) xs (bL ms W)),λa2 H2 z=>z,λu H2 y=>?_⟩
  obtain⟨s2,hr⟩:=it.yld i _ H' u H2 Z.keep ex y;have b1:=HV Z k';have hx:=hr O' Z.here (b1.trans (al s2));rw[Mw a6,aw]at eq;cases et:tk xs[i] l with
  |none =>
   rw[et]at eq;rw[<- eq]at q;exact(show False from q).elim
  |some ao =>
   rw[et,show cG (some ao) (λU=>exs cal body U)=exs cal body ao from rfl]at eq;have a8:F.length=n:=by rw[<- Z.len,k'.len,nt,Y.len];exact hn
   refine hg _ E O' H2 l ao F _ u _ a8 (Z.mono s2) hx et λa2 b3 k2=>?_
   refine⟨_,E,O',ao,b3,?_⟩;have kk:=k'.trans k2;cases er:exs cal body ao with
   |next a3|cont a3 =>
    rw[er]at eq;exact λa4 H3 O3 aO k3=>⟨_,by omega,rfl,a6,a3,O3,aO,kk.trans k3,eq⟩
   |brk a3 =>
    rw[er]at eq;rw[<- eq]at q;exact λa4 H3 O3 aO k3=>by
     obtain⟨a0,kb⟩:=qI Y aO (kk.trans k3);exact q a4 H3 O3 a0 kb
   |ret v =>
    rw[er]at eq;rw[<- eq]at q;exact λw H3 s3 r=>q w H3 ((d8 Y.keep).trans s3) r
   |retM v a3 =>
    rw[er]at eq;rw[<- eq]at q;exact λu a4 H3 O3 aO k3 ru=>by
     obtain⟨a0,kb⟩:=qI Y aO (kk.trans k3);exact q u a4 H3 O3 a0 kb ru
   |retF ys =>
    rw[er]at eq;rw[<- eq]at q;exact λp us H3 s3 hp he r=>q p us H3 ((d8 Y.keep).trans s3) ((d8 Y.keep).free hp) he r
   |bad =>
    rw[er]at eq;rw[<- eq]at q;exact(show False from q).elim
 .left;have ei:i=xs.length:=by omega
  subst ei;rw[drop_length,aw]at eq;rw[<- eq]at q;obtain⟨a0,kb⟩:=qI Y Z k';exact⟨it.stop H' Z.keep,q F H' O' a0 kb⟩
def zT{K:Nl}(U:σ.length=n)(Y:Cw K n g tk)(st:aD K B E O H W σ)(Z:evs cal ms W=some vs)(e2:bj k' vs=some xs)
  (q:gC K B E O W σ D ((aw (λx l=>cG (tk x l) λz=>exs cal body z) xs (bL ms W)).back ms W)):DO (tW K cal k' ms) g (tSs K cal body) D σ H:=by
 exact⟨B,E,O,W,vs,xs,st,Z,e2,λJ H1 s1 it=>sm U Y (st.mono s1) it q⟩
def vM{K:Nl}(hi:i<n):Cw K n (jc i) (λx W=>some (put W i (.val x))):=by
 intro B E O H W l σ x u Q U st r e q;cases e;obtain⟨z,J⟩:=st.store (i:=i) (by omega) r;exact q _ z J
def Fs(g:Gf X T k cal)(d:Df X)(hi:X.N[i]?=some x)(hx:Loc X.env.scope x)(hw:PI X (.Name x px) it (tW X.K cal J src))(z:fq it=true)(U:PSs X b (tSs X.K cal body)) :
  PS X (.For (.Name x px) it b [] pos) (tS X.K cal (.for1 i J src body)):=by
 refine PS.imp' (tD d.own g.calm hw (lT d.nd hi hx (.inl (d.fn x))) U (by intro v;cases it<;>first|rfl|(simp[fq]at z))) λD σ H Y q=>?_
 obtain⟨B,E,O,W,st,q⟩:=q;rw[ex]at q;cases e:(evs cal src W).bind (bj J)with
 |none=>rw[e]at q;exact(show False from q).elim
 |some xs =>
  rw[e]at q;simp only[ez]at e;obtain⟨vs,Z,e2⟩:=e;exact zT (tk:=λx W=>some (put W i (.val x))) rfl (vM (ltN hi Y)) st Z e2 q
def Ft (g:Gf X T k cal) (d:Df X) (hi:X.N[i]?=some x) (hx:Loc X.env.scope x) (Z:glB X.env.scope ("range":Str)=true) (h:PE X e (tX X.K cal y)) (hs:ah e=true) (hb:PSs X b (tSs X.K cal body)) :
  PS X (.For (.Name x px) (.Call (.Name ("range":Str) p) [e] [] rp) b [] pos) (tS X.K cal (.forX i y body)):=by
 refine PS.imp' (tD d.own g.calm (zS g Z h hs) (lT d.nd hi hx (.inl (d.fn x))) hb (by intro v;rfl)) λD σ H hl q=>?_
 obtain⟨B,E,O,W,st,q⟩:=q;rw[ex]at q;cases z:evX cal y W with
 |none=>rw[z]at q;exact(show False from q).elim
 |some pr =>
  obtain⟨v,l⟩:=pr;rw[z]at q;dsimp only at q;cases U:bj .rng [v]with
  |none=>rw[U]at q;exact(show False from q).elim
  |some xs =>
   rw[U]at q;refine⟨B,E,O,W,v,l,xs,st,z,U,λJ H1 _ Y k1 it=>?_⟩;refine sm (ms:=[.cst v]) (tk:=λx W=>some (put W i (.val x))) rfl (vM (ltN hi hl)) Y it ?_;have q2:=gC.trans q k1;have back:∀r:R,r.back [.cst v] l=r:=λr=>by cases r<;>rfl
   rw[back];exact q2
end
noncomputable def qJ:List Nat->TGs
 | []=>GG
 |i::is=>C7 (jc i) (qJ is)
section
variable{X:Cx}{T:Tab}{k:Nat}{cal:Cal}
theorem nu:∀{is}{z},dQ X.N X.env.scope is z=true->(assignEach z X.env).length=is.length/\(assignEach z X.env).findIdx? (·.1)=none
 | [],[],_=>⟨rfl,rfl⟩
 | [],_::_,h=>by cases h
 | _::_,[],h=>by cases h
 |i::is,e::z,h=>by
  cases e<;>first|(cases h;done)|skip
  simp only[qr,il]at h;rename_i x p;obtain⟨h1,h2⟩:=nu h.2;refine⟨?_,?_⟩
  .show((false,assign (.Name x p) X.env)::assignEach z X.env).length=_;simp[h1]
  .show((false,assign (.Name x p) X.env)::assignEach z X.env).findIdx? (·.1)=none;rw[findIdx?_cons];simp[h2]
theorem pw(d:Df X):∀{is}{z},dQ X.N X.env.scope is z=true->PGs X z (qJ is)
 | [],[],_=>Bj
 | [],_::_,h=>by cases h
 | _::_,[],h=>by cases h
 |i::is,e::z,h=>by
  cases e<;>first|(cases h;done)|skip
  simp[qr,il]at h;rename_i x p;exact xQ (lT d.nd h.1.1.1 (iF h.1.1.2) (.inl (d.fn x))) (pw d h.2) rfl
theorem sn:∀{is}{J},dQ X.N X.env.scope is J=true->∀i∈is,i<X.N.length
 | [],[],_=>λi hi=>by simp at hi
 | [],_::_,h=>by cases h
 | _::_,[],h=>by cases h
 |i::is,e::J,h=>λj z=>by
  cases e<;>first|(cases h;done)|skip
  simp[qr,il]at h;rcases tf.mp z with rfl|z
  .exact(y1.mp h.1.1.1).1
  .exact sn h.2 j z
theorem vN{K:Nl}:∀{is}{vs}{us}{B}{E O}{H}{W l}{σ}{Q:St->Hp->Prop},(∀i∈is,i<σ.length)->aD K B E O H W σ->Reps K (aq H O) vs us->oJ is vs W=some l ->
  (∀F,aD K B E O H l F->bb B O O W l σ F->Q F H)->qJ is us σ H Q
 | [],[],us,_,_,_,_,_,_,_,_,_,st,r,e,q=>by
  subst r;cases e;exact⟨rfl,q _ st .refl⟩
 | [],_::_,_,_,_,_,_,_,_,_,_,_,_,_,e,_=>by simp[oJ]at e
 | _::_,[],_,_,_,_,_,_,_,_,_,_,_,_,e,_=>by simp[oJ]at e
 |i::is,v::vs,us,B,E,O,H,W,l,σ,Q,hi,st,r,e,q=>by
  obtain⟨u,U,rfl,Y,Z⟩:=r;obtain⟨z,k1⟩:=st.store (i:=i) (hi i (.head _)) Y;refine⟨u,U,rfl,?_⟩;exact vN (λj hj=>by rw[Mb];exact hi j (.tail _ hj)) z Z e λF J k'=>q F J (k1.trans k')
def Fu{K:Nl}(hi:∀i∈is,i<n):Cw K n (GH K is.length (qJ is)) (d7 is):=by
 intro B E O H W l σ x u Q J st r e q;cases x with
 |tup vs =>
  obtain⟨a,us,rfl,U,z⟩:=r;have Y:∀{is}{vs}{W l},oJ is vs W=some l->vs.length=is.length:=by
   intro is
   induction is with
   |nil=>intro vs W l h;cases vs<;>simp[oJ]at h ⊢
   |cons i is ih=>intro vs W l h;cases vs<;>simp[oJ]at h ⊢;exact ih h
  exact⟨a,us,rfl,(bQ H O).seqT (eJ U),by rw[<- z.length];exact Y e,vN (λi h=>by rw[J];exact hi i h) st z e q⟩
 | _=>cases e
def Fv(g:Gf X T k cal)(d:Df X)(hi:dQ X.N X.env.scope is J=true)(hw:PI X (.Tuple J j Y) it (tW X.K cal U src))(z:fq it=true)(Z:PSs X b (tSs X.K cal body)) :
  PS X (.For (.Tuple J j Y) it b [] pos) (tS X.K cal (.forT is U src body)):=by
 obtain⟨h1,h2⟩:=nu hi;refine PS.imp' (tD d.own g.calm hw (DN g.calm (pw d hi) h1 h2) Z (by intro v;cases it<;>first|rfl|(simp[fq]at z))) λD σ H hl q=>?_
 obtain⟨B,E,O,W,st,q⟩:=q;rw[ex]at q;cases e:(evs cal src W).bind (bj U)with
 |none=>rw[e]at q;exact(show False from q).elim
 |some xs =>
  rw[e]at q;simp only[ez]at e;obtain⟨vs,e1,e2⟩:=e;exact zT (tk:=d7 is) hl (Fu (sn hi)) st e1 e2 q
def vO(g:Gf X T k cal)(d:Df X)(hi:X.N[i]?=some x)(hx:Loc X.env.scope x)(hc:chk T Z X.N X.env.scope v=true)(hs:pg X.env.scope x px v Z=true):∃t,PS X (.Assign [.Name x px] v pos) (xR t (jc i))/\(∀σ H Q,tF X.K cal Z σ H Q->t σ H Q)/\iE Z=true:=by
 unfold pg at hs;have hl:=ak hs;obtain⟨c,w,_⟩:=hl;obtain rfl:=uc w;cases Z with
 |comp k' src js cond elt =>
  obtain⟨e,y,py,it,ifs,scope,cpos,e0,h⟩:=kP hc;rw[e0]at hs ⊢;simp only[il,JX]at h;obtain⟨⟨⟨⟨h1,h2⟩,h3⟩,h4⟩,h5⟩:=h;have hw:=kU (tg:=.Name y py) (λz=>by cases z) g h2 (λxs Y=>⟨sounds src g Y,bG Y⟩) (λm x hm hx=>match src,hm with|[m'],rfl=>(ar m' g (b9 hx).1.1).1);exact⟨_,tZ d.nd hi hx (kS h1) g.calm hw.1 (λJ U C fp=>qE h3 λc hc=>(ar cond (g.blk y _ scope J U C fp) hc).2) (λJ U C fp=>(ar elt (g.blk y _ scope J U C fp) h4).1) (w9 d hs) (by have:=hw.2;intro v;cases it<;>first|rfl|(simp[fq]at this)) (.inl (d.fn x)),
   λσ H Q q=>uq.comp_go h5 q,rfl⟩
 | _=>cases (show false=true from hc)
def HW(U:iE J=true){K:Nl}(q:tE K cal J σ H Q):tF K cal J σ H Q:=by
 obtain⟨B,E,O,W,v,st,z,q⟩:=q;have hv:∃xs,v=.lst xs:=by
  cases J with
  |lst es =>
   rw[ev,ez]at z;obtain⟨vs,_,hv⟩:=z;split at hv
   .cases hv;exact⟨_,rfl⟩
   .cases hv
  |comp _ _ _ _ _=>exact si W v z
  |blt b es=>cases b<;>first|exact dR (.inl rfl) W v z|exact dR (.inr (.inl rfl)) W v z|exact dR (.inr (.inr (.inl rfl))) W v z|exact dR (.inr (.inr (.inr (.inl rfl)))) W v z|exact dR (.inr (.inr (.inr (.inr rfl)))) W v z|(simp[iE]at U)
  | _=>simp[iE]at U
 obtain⟨xs,rfl⟩:=hv;exact⟨B,E,O,W,xs,st,z,λp us H' s Y Z r=>q _ _ s (vE st.here Y Z r)⟩
end
section
variable{T:Tab}{N:List Str}{sc:Scope}
def Cy(h:gw T N sc (.set i e) s=true):∃x px v pos,s=.Assign [.Name x px] v pos/\(N[i]?==some x&&fG sc x&&am x&&chk T e N sc v&&!aH e&&(bS v||pg sc x px v e))=true:=by
 obtain⟨q,z,h1⟩:=ak h;obtain⟨pos,rfl⟩:=iW z;exact⟨_,_,_,_,rfl,h1⟩
def Cz(h:gw T N sc (.setOwn i e) s=true):∃x px v pos,s=.Assign [.Name x px] v pos/\(N[i]?==some x&&fG sc x&&am x&&chk T e N sc v&&iE e&&(bS v||pg sc x px v e))=true:=by
 obtain⟨q,z,h1⟩:=ak h;obtain⟨pos,rfl⟩:=iW z;exact⟨_,_,_,_,rfl,h1⟩
def uD (h:gw T N sc (.append i e) s=true):∃x p m ap v cp pos,s=.Expr (.Call (.Attribute (.Name x p) m ap) [v] [] cp) pos/\(aU N sc i x&&m==("append":Str)&&chk T e N sc v&&!aH e&&ah v&&ap.endLine==cp.line)=true:=by
 obtain⟨q,z,h1⟩:=ak h;obtain⟨v,J,h2⟩:=ak h1;obtain⟨p,pos,rfl⟩:=qt z;rw[cO J];exact⟨_,_,_,_,_,_,_,rfl,h2⟩
def uE (h:gw T N sc (.extend i e) s=true):∃x p m ap v cp pos,s=.Expr (.Call (.Attribute (.Name x p) m ap) [v] [] cp) pos/\(aU N sc i x&&m==("extend":Str)&&chk T e N sc v&&ah v&&ap.endLine==cp.line)=true:=by
 obtain⟨q,z,h1⟩:=ak h;obtain⟨v,J,h2⟩:=ak h1;obtain⟨p,pos,rfl⟩:=qt z;rw[cO J];exact⟨_,_,_,_,_,_,_,rfl,h2⟩
def zU(h:gw T N sc (.dput i k e) s=true):∃x p s' sp v pos,s=.Assign [.Subscript (.Name x p) s' sp] v pos/\(aU N sc i x&&chk T k N sc s'&&b8 s'&&chk T e N sc v&&!aH e&&bS v)=true:=by
 obtain⟨q,z,h1⟩:=ak h;obtain⟨p,sp,pos,rfl⟩:=B7 z;exact⟨_,_,_,_,_,_,rfl,h1⟩
def zV(h:gw T N sc (.newD m i) s=true):∃x p dp pos,s=.Assign [.Name x p] (.Dict [] [] dp) pos/\(N[i]?==some x&&fG sc x&&am x)=true:=by
 obtain⟨q,z,h1⟩:=ak h;rw[il]at h1;obtain⟨pos,rfl⟩:=iW z;obtain⟨p,J⟩:=zl h1.1;rw[J];exact⟨_,_,_,_,rfl,h1.2⟩
def CA(h:gw T N sc (.ite c a b) s=true):∃t x y pos,s=.If t x y pos/\(chk T c N sc t&&chkSs T N sc a x&&chkSs T N sc b y)=true:=by
 cases s with
 |If t x y pos=>exact⟨t,x,y,pos,rfl,h⟩
 | _=>cases (show false=true from h)
def zW (h:gw T N sc (.forX i y body) s=true):∃x px it b pos,s=.For (.Name x px) it b [] pos/\(N[i]?==some x&&fG sc x&&am x&&onQ (fnQ it) (λq=>q.1==("range":Str)&&glB sc q.1&&q.2.2.isEmpty&&c7 T y N sc q.2.1&&ah q.2.1)&&chkSs T N sc body b)=true:=by
 rw[B8]at h;split at h
 .exact⟨_,_,_,_,_,rfl,h⟩
 .cases h
def zX(h:gw T N sc (.for1 i k src body) s=true):∃x px it b pos,s=.For (.Name x px) it b [] pos/\(N[i]?==some x&&fG sc x&&am x&&mZ sc false (λxs=>chks T src N sc xs) k it&&chkSs T N sc body b)=true:=by
 simp[B9]at h;split at h<;>first|(cases h;done)|(rename_i z;cases z;exact⟨_,_,_,_,_,rfl,h⟩)|(injections;done)|(injections;subst_vars;exact⟨_,_,_,_,_,rfl,h⟩)
def zY(h:gw T N sc (.forT is k src body) s=true):∃J j U it b pos,s=.For (.Tuple J j U) it b [] pos/\(dQ N sc is J&&mZ sc true (λxs=>chks T src N sc xs) k it&&chkSs T N sc body b)=true:=by
 simp[B_]at h;split at h<;>first|(cases h;done)|(rename_i z;cases z;exact⟨_,_,_,_,_,_,rfl,h⟩)|(injections;done)|(injections;subst_vars;exact⟨_,_,_,_,_,_,rfl,h⟩)
def zZ(h:gw T N sc (.retM e) s=true):∃v pos,s=.Return (some v) pos/\(chk T e N sc v&&!aH e)=true:=by
 obtain⟨v,z,h1⟩:=ak h;obtain⟨pos,rfl⟩:=lZ z;exact⟨_,_,rfl,h1⟩
def CB(h:gw T N sc (.ret e) s=true):∃v pos,s=.Return (some v) pos/\(chk T e N sc v&&!aH e)=true:=by
 obtain⟨v,z,h1⟩:=ak h;obtain⟨pos,rfl⟩:=lZ z;exact⟨_,_,rfl,h1⟩
def uF(h:gw T N sc (.retOwn i) s=true):∃x p pos,s=.Return (some (.Name x p)) pos/\(aU N sc i x)=true:=by
 obtain⟨v,z,h1⟩:=ak h;obtain⟨x,J,h2⟩:=ak h1;obtain⟨pos,rfl⟩:=lZ z;obtain⟨p,rfl⟩:=zk J;exact⟨_,_,_,rfl,h2⟩
end
def xi(g:Gf X T k cal)(d:Df X)(h:gw T X.N X.env.scope (.set i e) s=true):PS X s (tS X.K cal (.set i e)):=by
 obtain⟨x,px,v,pos,rfl,hc⟩:=Cy h;simp only[il,Nf,JQ,JX]at hc;obtain⟨⟨⟨⟨⟨h1,h2⟩,h3⟩,J⟩,U⟩,z⟩:=hc;rcases z with z|z
 .exact HH d h1 (iF h2) (ar e g J).1 U z
 .obtain⟨t,p,Y,Z⟩:=vO (pos:=pos) g d h1 (iF h2) J z;exact PS.imp' p λD σ H hl q=>Y _ _ _ (HW Z (zL (ltN h1 hl) U q))
noncomputable def Fw:MS->Bool
 | .freeze _=>true
 | _=>false
mutual
theorem Fx{T:Tab}{k:Nat}{cal:Cal}{X:Cx}(g:Gf X T k cal)(d:Df X):∀(m:MS) (s:Stmt),gw T X.N X.env.scope m s=true->PS X s (tS X.K cal m)
 | .set i e,s,h=>xi g d h
 | .setOwn i e,s,h=>by
  obtain⟨x,px,v,pos,rfl,hc⟩:=Cz h;simp only[il,Nf,JQ]at hc;obtain⟨⟨⟨⟨⟨h1,h2⟩,h3⟩,J⟩,U⟩,h6⟩:=hc;rcases h6 with h6|h6
  .exact HI d h1 (iF h2) (Fe g J U) h6
  .obtain⟨t,p,hp,hf⟩:=vO (pos:=pos) g d h1 (iF h2) J h6;exact PS.imp' p λD σ H hl q=>hp _ _ _ (zM (ltN h1 hl) q)
 | .append i e,s,h=>by
  obtain⟨x,p,m,ap,v,cp,pos,rfl,hc⟩:=uD h;simp only[il,JQ,JX]at hc;obtain⟨⟨⟨⟨⟨h1,rfl⟩,h3⟩,J⟩,U⟩,h6⟩:=hc;exact zN (ar e g h3).1 h1 J U (JQ.mpr h6)
 | .extend i e,s,h=>by
  obtain⟨x,p,m,ap,v,cp,pos,rfl,hc⟩:=uE h;simp only[il,JQ]at hc;obtain⟨⟨⟨⟨h1,rfl⟩,h3⟩,U⟩,h6⟩:=hc;exact zO (ar e g h3).1 h1 U (JQ.mpr h6)
 | .setIdx _ _ _,s,h=>absurd (show false=true from h) mu
 | .unpack _ _,s,h=>absurd (show false=true from h) mu
 | .expr _,s,h=>absurd (show false=true from h) mu
 | .ite c a b,s,h=>by
  obtain⟨t,x,y,pos,rfl,hc⟩:=CA h;simp only[il]at hc;exact Jr (ar c g hc.1.1).2 (soundSs g d a x hc.1.2) (soundSs g d b y hc.2)
 | .for1 i k' src body,s,h=>by
  obtain⟨x,px,it,b,pos,rfl,hc⟩:=zX h;simp only[il,JQ]at hc;obtain⟨⟨⟨⟨h1,h2⟩,h3⟩,J⟩,U⟩:=hc;have hw:=kU (tg:=.Name x px) (λz=>by cases z) g J (λxs Y=>⟨sounds src g Y,bG Y⟩) (λm x hm hx=>match src,hm with|[m'],rfl=>(ar m' g (by simp only[chks,il]at hx;exact hx.1.1)).1);exact Fs g d h1 (iF h2) hw.1 hw.2 (soundSs g d body b U)
 | .forT is k' src body,s,h=>by
  obtain⟨ts,j,tp,it,b,pos,rfl,hc⟩:=zY h;simp only[il]at hc;obtain⟨⟨h1,J⟩,U⟩:=hc;have hw:=kU (tg:=.Tuple ts j tp) (λ_=>⟨_,_,_,rfl⟩) g J (λxs Y=>⟨sounds src g Y,bG Y⟩) (λm x hm hx=>match src,hm with|[m'],rfl=>(ar m' g (by simp only[chks,il]at hx;exact hx.1.1)).1);exact Fv g d h1 hw.1 hw.2 (soundSs g d body b U)
 | .while _ _ _,s,h=>absurd (show false=true from h) mu
 | .ret e,s,h=>by
  obtain⟨v,pos,rfl,hc⟩:=CB h;simp only[il,JX]at hc;exact HJ (ar e g hc.1).1 hc.2
 | .setP i e,s,h=>by
  obtain⟨q,Z,hc⟩:=ak (show onQ (oK s) (λq=>X.N[i]?==some q.1&&fG X.env.scope q.1&&am q.1&&onQ (EF q.2.2) λr=>r.1==("list":Str)&&r.2.1==("reversed":Str)&&glB X.env.scope r.1&&glB X.env.scope r.2.1&&chk T e X.N X.env.scope r.2.2&&ah r.2.2)=true from h);obtain⟨x,px,v⟩:=q;obtain⟨pos,rfl⟩:=iW Z;obtain⟨a1,J⟩:=g4.mp hc;obtain⟨a2,h3⟩:=g4.mp a1;obtain⟨h1,h2⟩:=g4.mp a2;obtain⟨r,e2,hr⟩:=ak J;obtain⟨f,f2,w⟩:=r;obtain⟨p,p2,pos2,cp,rfl⟩:=B1 e2;obtain⟨b1,c6⟩:=g4.mp hr;obtain⟨b2,c5⟩:=g4.mp b1;obtain⟨b3,c4⟩:=g4.mp b2;obtain⟨b4,c3⟩:=g4.mp b3;obtain⟨c1,c2⟩:=g4.mp b4;obtain rfl:f=("list":Str):=eq_of_beq c1;obtain rfl:f2=("reversed":Str):=eq_of_beq c2;exact Fr g d (eq_of_beq h1) (iF h2) c3 c4 (ar e g c5).1 c6
 | .setX i y,s,h=>by
  obtain⟨q,Z,hc⟩:=ak (show onQ (oK s) (λq=>X.N[i]?==some q.1&&fG X.env.scope q.1&&am q.1&&c7 T y X.N X.env.scope q.2.2&&bS q.2.2)=true from h);obtain⟨pos,rfl⟩:=iW Z;obtain⟨a2,U⟩:=g4.mp hc;obtain⟨a3,J⟩:=g4.mp a2;obtain⟨a4,h3⟩:=g4.mp a3;obtain⟨h1,h2⟩:=g4.mp a4;exact Fo d (eq_of_beq h1) (iF h2) (eY g y _ J) U
 | .ownX i xs,s,h=>by
  obtain⟨q,Z,hc⟩:=ak (show onQ (oK s) (λq=>onQ (liP q.2.2) λr=>X.N[i]?==some q.1&&fG X.env.scope q.1&&chkXEs T xs X.N X.env.scope r.1)=true from h);obtain⟨pos,rfl⟩:=iW Z;obtain⟨r,e2,hc⟩:=ak hc;obtain⟨a3,J⟩:=g4.mp hc;obtain⟨h1,h2⟩:=g4.mp a3;rw[qo e2];exact Fp d (eq_of_beq h1) (iF h2) (soundXEs g xs _ J)
 | .appX i y,s,h=>by
  obtain⟨q,Z,hc⟩:=ak (show onQ (zj s) (λq=>onQ (jY q.2.2.2.1) λv=>aU X.N X.env.scope i q.1&&q.2.1==("append":Str)&&c7 T y X.N X.env.scope v&&ah v&&q.2.2.1.endLine==q.2.2.2.2.line)=true from h);obtain⟨v,e2,hc⟩:=ak hc;obtain⟨x,m,ap,as,cp⟩:=q;obtain⟨p,pos,rfl⟩:=qt Z;have e3:as=[v]:=cO e2;subst e3;obtain⟨a2,U⟩:=g4.mp hc;obtain⟨a3,J⟩:=g4.mp a2;obtain⟨a4,h3⟩:=g4.mp a3;obtain⟨h1,h2⟩:=g4.mp a4;obtain rfl:m=("append":Str):=eq_of_beq h2;exact Fq (eY g y _ h3) h1 J U
 | .retXE y,s,h=>by
  obtain⟨v,Z,hc⟩:=ak (show onQ (wV s) (λv=>c7 T y X.N X.env.scope v)=true from h);obtain⟨pos,rfl⟩:=lZ Z;exact Cu (eY g y _ hc)
 | .forX i y body,s,h=>by
  obtain⟨x,px,it,b,pos,rfl,h⟩:=zW h;obtain⟨a1,U⟩:=g4.mp h;obtain⟨a2,J⟩:=g4.mp a1;obtain⟨a3,h3⟩:=g4.mp a2;obtain⟨h1,h2⟩:=g4.mp a3;obtain⟨q,Z,hc⟩:=ak J;obtain⟨f,e,es⟩:=q;obtain⟨p,rp,rfl⟩:=uj Z;obtain⟨b1,c5⟩:=g4.mp hc;obtain⟨b2,c4⟩:=g4.mp b1;obtain⟨b3,c3⟩:=g4.mp b2;obtain⟨c1,c2⟩:=g4.mp b3;obtain rfl:f=("range":Str):=eq_of_beq c1;have e3:es=[]:=Lm.mp c3;subst e3;exact Ft g d (eq_of_beq h1) (iF h2) c2 (eY g y _ c4) c5 (soundSs g d body b U)
 | .retM e,s,h=>by
  obtain⟨v,pos,rfl,hc⟩:=zZ h;simp only[il,JX]at hc;exact Fh (ar e g hc.1).1 hc.2
 | .retF _,s,h=>absurd (show false=true from h) mu
 | .setCall _ _ _,s,h=>absurd (show false=true from h) mu
 | .clear _,s,h=>absurd (show false=true from h) mu
 | .retOwn i,s,h=>by
  obtain⟨x,p,pos,rfl,hc⟩:=uF h;exact zP hc
 | .retN,s,h=>absurd (show false=true from h) mu
 | .brk,s,h=>absurd (show false=true from h) mu
 | .cont,s,h=>absurd (show false=true from h) mu
 | .pass,s,h=>absurd (show false=true from h) mu
 | .never,s,h=>by
  refine xP.imp λD σ H q=>?_
  obtain⟨B,E,O,W,st,q⟩:=q;rw[ex]at q;exact q
 | .newD m i,s,h=>by
  obtain⟨x,p,dp,pos,rfl,hc⟩:=zV h;simp only[il,JQ]at hc;exact Ff d hc.1.1 (iF hc.1.2)
 | .dput i mk me,s,h=>by
  obtain⟨x,p,s',sp,v,pos,rfl,hc⟩:=zU h;simp only[il]at hc;exact Fg g (ar mk g hc.1.1.1.1.2).1 (ar me g hc.1.1.2).1 hc.1.1.1.1.1 hc.2
 | .freeze _,s,h=>absurd (show false=true from h) mu
theorem soundSs{T:Tab}{k:Nat}{cal:Cal}{X:Cx}(g:Gf X T k cal)(d:Df X):∀(ms:List MS) (ss:List Stmt),chkSs T X.N X.env.scope ms ss=true->PSs X ss (tSs X.K cal ms)
 | [],ss,h=>by
  cases ss with
  |nil=>exact HK
  |cons _ _=>cases h
 |m::ms,ss,h=>by
  cases hm:Fw m with
  |true =>
   cases m<;>simp[Fw]at hm
   cases h
  |false =>
   cases ss with
   |nil=>cases m<;>first|(cases h;done)|cases hm
   |cons s ss =>
    have h:(gw T X.N X.env.scope m s&&chkSs T X.N X.env.scope ms ss)=true:=by cases m<;>first|exact h|(simp[Fw]at hm)
    simp only[il]at h;exact Fi (Fx g d m s h.1) (soundSs g d ms ss h.2)
end
structure FnD(K:Nl)(x y:Str)(st:Stmt)(fa:Addr)(fd:FuncData):Prop where
 it:∃(c0 d0 k0 o0 m0:Value) (a0:Option Addr) (c1 t1:Value) (a1:Option Addr) (sl:Array (Option Value)),
  K.lookup fa=some ⟨c0,a1,.func fd,sl⟩/\PySem.W.codeIn K c1 y=true/\fd=PySem.W.fnOf x y (jM st) (dN st) (bn st) d0 k0 o0 m0 a0 c1 t1
 kp:PySem.W.keepIn K (.ref fa)=true
theorem FnD.mk'{K:Nl}{st:Stmt} 
  (l:K.lookup z=some ⟨Z,a1,.func (PySem.W.fnOf x y (jM st) (dN st) (bn st) d0 U o0 m0 Y J t1),sl⟩) (c:PySem.W.codeIn K J y=true) (k:PySem.W.keepIn K (.ref z)=true) :
  FnD K x y st z (PySem.W.fnOf x y (jM st) (dN st) (bn st) d0 U o0 m0 Y J t1):=⟨⟨_,_,_,_,_,_,_,_,_,_,l,c,rfl⟩,k⟩
theorem FnD.mkd{K:Nl}{st:Stmt} 
  (l:K.lookup z=some ⟨Z,a1,.func (PySem.W.fnOf x y (jM st) (dN st) (bn st) (.ref T) U o0 m0 Y J t1),sl⟩) (c:PySem.W.codeIn K J y=true) (k:PySem.W.keepIn K (.ref z)=true) :
  FnD K x y st z (PySem.W.fnOf x y (jM st) (dN st) (bn st) (.ref T) U o0 m0 Y J t1):=.mk' l c k
structure sr(T:Tab)(K:Nl)(mg:Str->Option Value)(st:Stmt)(d:MD)(fa:Addr)(fd:FuncData):Prop where
 fn:FnD K d.name d.name st fa fd
 binds:cX K fd d.params []
 named:mg d.name=some (.ref fa)
 scope:p7 d.names d.params (bn st)
 body:chkSs T d.names (bn st) d.body (dN st)=true
def cT{α:Type}{n:Nat}:∀{us:List α},us.length=n+1->∃a t,us=a::t/\t.length=n
 | _::_,h=>⟨_,_,rfl,Nat.succ.inj h⟩
def bn1{K:Nl}{fd:FuncData}{z:Str}(h:∀a,bindArgs fd ⟨[a],[]⟩=pure [(z,a)]):cX K fd [z] []:=.all λus J=>by
 obtain⟨a,U,rfl,h1⟩:=cT J;obtain rfl:=Kn.mp h1;exact h a
def bn2{K:Nl}{fd:FuncData}{z J:Str}(h:∀a b,bindArgs fd ⟨[a,b],[]⟩=pure [(z,a),(J,b)]):cX K fd [z,J] []:=.all λus U=>by
 obtain⟨a,Y,rfl,h1⟩:=cT U;obtain⟨b,Z,rfl,h2⟩:=cT h1;obtain rfl:=Kn.mp h2;exact h a b
def bn3{K:Nl}{fd:FuncData}{z J U:Str}(h:∀a b c,bindArgs fd ⟨[a,b,c],[]⟩=pure [(z,a),(J,b),(U,c)]):cX K fd [z,J,U] []:=.all λus Y=>by
 obtain⟨a,u1,rfl,h1⟩:=cT Y;obtain⟨b,u2,rfl,h2⟩:=cT h1;obtain⟨c,u3,rfl,Z⟩:=cT h2;obtain rfl:=Kn.mp Z;exact h a b c
def bn4{K:Nl}{fd:FuncData}{z J U Y:Str}(h:∀a b c d,bindArgs fd ⟨[a,b,c,d],[]⟩=pure [(z,a),(J,b),(U,c),(Y,d)]):cX K fd [z,J,U,Y] []:=.all λus Z=>by
 obtain⟨a,u1,rfl,h1⟩:=cT Z;obtain⟨b,u2,rfl,h2⟩:=cT h1;obtain⟨c,u3,rfl,h3⟩:=cT h2;obtain⟨d,u4,rfl,h4⟩:=cT h3;obtain rfl:=Kn.mp h4;exact h a b c d
def bn5{K:Nl}{fd:FuncData}{z J U Y Z:Str}(h:∀a b c d e,bindArgs fd ⟨[a,b,c,d,e],[]⟩=pure [(z,a),(J,b),(U,c),(Y,d),(Z,e)]):cX K fd [z,J,U,Y,Z] []:=.all λus h0=>by
 obtain⟨a,u1,rfl,h1⟩:=cT h0;obtain⟨b,u2,rfl,h2⟩:=cT h1;obtain⟨c,u3,rfl,h3⟩:=cT h2;obtain⟨d,u4,rfl,h4⟩:=cT h3;obtain⟨e,u5,rfl,h5⟩:=cT h4;obtain rfl:=Kn.mp h5;exact h a b c d e
def uG{K:Nl}(hd:fd.defaults=.ref T)(l:K.lookup T=some ⟨c,o,.seq vs n,J⟩)
  (h:∀us,us.length=ps.length->∃k,bindArgs fd ⟨us,[]⟩=seqItems? fd.defaults >>= k/\k (some vs)=pure (ps.zip us)):cX K fd ps []:=λs us X z=>by
 rw[K0]at z ⊢;obtain⟨k,h1,h2⟩:=h us z;exact .of_defaults hd (X _ _ l) rfl h1 h2
def HD(K:Nl)(x:Str)(st:Stmt)(d:MD)(q:FuncData->Prop:=λ_=>True):Prop:=d.name=x/\∃z fd,PySem.W.nsIn K mainGlobals x=some (some (.ref z))/\FnD K x x st z fd/\cX K fd d.params []/\q fd
noncomputable def okD(T:Tab)(st:Stmt)(d:MD):Bool:=
 decide ((bn st).kind=.function/\(bn st).isCoroutine=false/\(bn st).isGenerator=false/\d.names.Nodup/\d.names.take d.params.length=d.params/\(∀x∈d.params,(bn st).names.lookup x=some .local\/(bn st).names.lookup x=some .cell)/\∀y∈(bn st).names,y.2≠.free)
 &&chkSs T d.names (bn st) d.body (dN st)
def z5{K:Nl}{st:Stmt}(X:K.In h)(G:h.Ns mainGlobals mg)(hd:HD K x st d q)(J:okD T st d=true):∃U fd,sr T K mg st d U fd/\q fd:=by
 refine aC λZq Y=>?_
 obtain⟨e,_,_,n,f,b,z⟩:=hd;obtain⟨Z,c2⟩:=g4.mp J;obtain⟨s1,s2,s3,s4,s5,s6,s7⟩:=Kc Z;subst e;refine Y ?_;exact⟨_,_,⟨f,b,PySem.W.mg_of X G n,⟨s1,s2,s3,s4,s5,s6,s7⟩,c2⟩,z⟩
def xj(T:Tab)(K:Nl)(mg:Str->Option Value):List MD->List (List Sc)->Prop
 | [],[]=>True
 |d::ds,l::ls=>(∃st z fd,sr T K mg st d z fd/\∃vs,cX K fd d.params vs/\aG (l.map Sc.v) vs)/\xj T K mg ds ls
 | _,_=>False
theorem xj.get{K:Nl} :∀{ds}{J}{f:Nat}{d},xj T K mg ds J->ds[f]?=some d->∃l st z fd,J[f]?=some l/\sr T K mg st d z fd/\∃vs,cX K fd d.params vs/\aG (l.map Sc.v) vs
 | [],_,f,d,_,e=>by simp at e
 | _::_,[],f,d,h,e=>h.elim
 |d0::ds,l::J,0,d,h,e=>by
  cases e;obtain⟨⟨st,z,fd,r⟩,_⟩:=h;exact⟨l,st,z,fd,rfl,r⟩
 |d0::ds,l::J,f+1,d,h,e=>by
  obtain⟨k,st,z,fd,q,r⟩:=xj.get h.2 (show ds[f]?=some d from by simpa using e);exact⟨k,st,z,fd,by simpa using q,r⟩
def HQ(K:Nl)(d:MD)(fd:FuncData):List Sc->Prop
 | []=>True
 |l=>∃vs,cX K fd d.params vs/\aG (l.map Sc.v) vs
inductive uH(K:Nl)(tp:Nat->Stmt):List MD->List Nat->List (List Sc)->Prop
 | nil:uH K tp [] [] []
 |cons {d:MD}{ds:List MD}{i:Nat}{is:List Nat}{l:List Sc}{ls:List (List Sc)}:HD K d.name (tp i) d (λfd=>HQ K d fd l)->uH K tp ds is ls->uH K tp (d::ds) (i::is) (l::ls)
noncomputable def HX(T:Tab)(z:Nat->Stmt):List MD->List Nat->Bool
 |d::ds,i::is=>okD T (z i) d&&HX T z ds is
 | _,_=>true
def Fy{T:Tab}{K:Nl}{mg:Str->Option Value}{h:Heap}{J:Nat->Stmt}{ds:List MD}{is:List Nat}{z:List (List Sc)}(X:K.In h)(G:h.Ns mainGlobals mg)(a:uH K J ds is z)(U:HX T J ds is=true):xj T K mg ds z:=by
 induction a with
 |nil=>trivial
 | @cons d ds i is l z hd _ ih =>
  obtain⟨Y,Z⟩:=g4.mp U;obtain⟨fa,fd,D,q⟩:=z5 X G hd Y;refine⟨⟨_,fa,fd,D,?_⟩,ih Z⟩;cases l with
  |nil=>exact⟨_,D.binds,.nil⟩
  |cons _ _=>exact q
structure Fz(T:Tab)(K:Nl)(mg:Str->Option Value)(ds:List MD)
 :Prop where
 tab:T.fs=ds.map (·.name)
 defs:xj T K mg ds T.ds
 blt:∀x∈j7,mg (x:Str)=none
 gs:∀p∈T.gs,∃u,mg p.1=some u/\aE (toV p.2) u
def nv(hd:ds[f]?=some d)(h:ab ds (n+1) f args=some r):args.length=d.params.length /\
  ((∃W,exs (ab ds n) d.body (args.map some++replicate (d.names.length-args.length) none)=.next W/\r=.non)\/exs (ab ds n) d.body (args.map some++replicate (d.names.length-args.length) none)=.ret r \/
   ∃xs,exs (ab ds n) d.body (args.map some++replicate (d.names.length-args.length) none)=.retF xs/\r=.lst xs):=by
 rw[ab,hd]at h;dsimp only at h;by_cases z:args.length=d.params.length
 .rw[if_pos z]at h;refine⟨z,?_⟩;cases he:exs _ d.body _<;>simp_all
 .simp_all
def ly(U:f<1000)(J:ds[f+1000]?=none)(hd:ds[f]?=some d)(h:ab ds (n+1) (f+1000) args=some r):args.length=d.params.length /\
  ∃xs,exs (ab ds n) d.body (args.map some++replicate (d.names.length-args.length) none)=.retF xs/\r=.lst xs:=by
 rw[ab,J]at h;dsimp only at h;rw[if_neg (by omega),KI,hd]at h;dsimp only at h;by_cases z:args.length=d.params.length
 .rw[if_pos z]at h;refine⟨z,?_⟩;cases he:exs (ab ds n) d.body (args.map some++replicate _ none)<;>simp_all
 .simp_all
def pz(Z:f<1000)(J:ds[f+2000]?=none)(hd:ds[f]?=some d)(h:ab ds (n+1) (f+2000) args=some r):args.length=d.params.length /\
  ∃v W ms,exs (ab ds n) d.body (args.map some++replicate (d.names.length-args.length) none)=.retM v W/\eI args W=some ms/\r=.tup (v::ms):=by
 rw[ab,J]at h;dsimp only at h;rw[if_pos (by omega)]at h;rw[KI,hd]at h;dsimp only at h;by_cases z:args.length=d.params.length
 .rw[if_pos z]at h;refine⟨z,?_⟩;cases he:exs (ab ds n) d.body (args.map some++replicate (d.names.length-args.length) none)with
  |retM v W =>
   rw[he]at h;dsimp only at h;rw[mx]at h;obtain⟨ms,U,Y⟩:=h;exact⟨v,W,ms,rfl,U,Y.symm⟩
  | _=>rw[he]at h;cases h
 .simp_all
def kX{K:Nl}(h:cg K O H args vs ds ms):∀(i:Nat) d a,args[i]?=some (.mutD d)->vs[i]?=some (.ref a)->a∈ms:=by
 induction h with
 |nil=>intro i d a e;simp at e
 |mutd h U t ih =>
  intro i d a z J;cases i with
  |zero=>simp at J;subst J;exact .head _
  |succ i=>exact .tail _ (ih i d a (by simpa using z) (by simpa using J))
 |other hm t ih =>
  intro i d a z J;cases i with
  |zero=>simp at z;exact absurd z (hm d)
  |succ i=>exact ih i d a (by simpa using z) (by simpa using J)
def su{K:Nl}(h:cg K O H args vs ds ms):∀(i j:Nat) d d' a,i≠j->args[i]?=some (.mutD d)->args[j]?=some (.mutD d')->vs[i]?=some (.ref a)->vs[j]?≠some (.ref a):=by
 induction h with
 |nil=>intro i j d d' a _ e;simp at e
 |mutd h hn t ih =>
  intro i j d d' a Z z J U Y;cases i with
  |zero =>
   cases j with
   |zero=>exact Z rfl
   |succ j =>
    simp at U;subst U;exact hn (kX t j d' _ (by simpa using J) (by simpa using Y))
  |succ i =>
   cases j with
   |zero =>
    simp at Y;subst Y;exact hn (kX t i d _ (by simpa using z) (by simpa using U))
   |succ j=>exact ih i j d d' a (by omega) (by simpa using z) (by simpa using J) (by simpa using U) (by simpa using Y)
 |other hm t ih =>
  intro i j d d' a Z z J U Y;cases i with
  |zero=>simp at z;exact hm d z
  |succ i =>
   cases j with
   |zero=>simp at J;exact hm d' J
   |succ j=>exact ih i j d d' a (by omega) (by simpa using z) (by simpa using J) (by simpa using U) (by simpa using Y)
def uI{K:Nl}(h:cg K O H args vs ds ms):∀{W}{z},eI args W=some z->∀a∈ms,∃(i:Nat) (d:DD),vs[i]?=some (.ref a)/\W[i]?=some (some (.mutD d)):=by
 induction h with
 |nil=>intro W z _ a U;cases U
 |mutd h hn t ih =>
  intro W z e b J
  match W,e with
  |some (.mutD d')::W,e =>
   rw[eI,mx]at e;obtain⟨Y,Z,rfl⟩:=e;rcases tf.mp J with rfl|J
   .exact⟨0,d',rfl,rfl⟩
   .obtain⟨i,d,h1,h2⟩:=ih Z b J;exact⟨i+1,d,by simpa using h1,by simpa using h2⟩
 |other hm t ih =>
  intro W z e b J;rename_i m v as vs ds ms
  match m,W,e,hm with
  | .val _,r::W,e,hm =>
   obtain⟨i,d,h1,h2⟩:=ih e b J;exact⟨i+1,d,by simpa using h1,by simpa using h2⟩
  | .mutD d,_,_,hm=>exact absurd rfl (hm d)
def xk{K:Nl}(h:cg K O H args vs ds ms):∀{W}{z},eI args W=some z->(∀(i:Nat) d d' a,args[i]?=some (.mutD d)->W[i]?=some (some (.mutD d'))->vs[i]?=some (.ref a)->DAt K H' O' a d')->cg K O' H' args vs z ms:=by
 induction h with
 |nil=>intro W z e _;rw[eI]at e;cases e;exact .nil
 |mutd h hn t ih =>
  intro W z e J
  match W,e with
  |some (.mutD d')::W,e =>
   rw[eI,mx]at e;obtain⟨a1,e0,rfl⟩:=e;exact .mutd (J 0 _ d' _ rfl rfl rfl) hn (ih e0 λi d U a Y Z e3=>J (i+1) d U a (by simpa using Y) (by simpa using Z) (by simpa using e3))
 |other hm t ih =>
  intro W z e J;rename_i m v as vs ds ms
  match m,W,e,hm with
  | .val _,r::W,e,hm =>
   exact .other hm (ih e λi d U a Y Z e3=>J (i+1) d U a (by simpa using Y) (by simpa using Z) (by simpa using e3))
  | .mutD d,_,_,hm=>exact absurd rfl (hm d)
theorem jC :∀{xs}{ys}{i:Nat}{x},Paired F xs ys->xs[i]?=some x->∃y,ys[i]?=some y/\F x y
 | _,_,_,_,.nil,e=>by simp at e
 | _,_,0,_,.cons r _,e=>by simp at e;subst e;exact⟨_,rfl,r⟩
 | _,_,i+1,x,.cons _ t,e=>by
  obtain⟨u,h1,h2⟩:=jC (i:=i) (x:=x) t (by simpa using e);exact⟨u,by simpa using h1,h2⟩
def sw{K:Nl}(U:∀a∈O,H a≠none)(h:Paired (lu K O H) args vs):aD K H O O H (args.map some++replicate (N.length-args.length) none) (eU N vs):=by
 have Y:=Paired.length h;have get:∀i m,(args.map some++replicate (N.length-args.length) none)[i]?=some (some m)->∃u,(eU N vs)[i]?=some (some u)/\lu K O H m u:=λi m e=>by
  by_cases hi:i<args.length
  .rw[KN (by simpa using hi),JZ]at e;cases J:args[i]? with
   |none=>rw[J]at e;cases e
   |some m' =>
    rw[J]at e;cases e;obtain⟨u,z,q⟩:=jC h J;refine⟨u,?_,q⟩;unfold L2.eU;rw[KN (by rw[nR,<- Y];exact hi),JZ,z]
    rfl
  .rw[Lh (by simpa using hi),L8]at e;split at e<;>cases e
 refine⟨aj.refl H,U,λa Z=>Z,U,by unfold L2.eU;simp[Y],λi m e=>?_,λi j xs ys a _ e _ ox _=>?_
  ⟩
 .obtain⟨u,z,q⟩:=get i m e;refine⟨u,z,?_⟩;cases m<;>first|exact q|exact q.elim
 .obtain⟨u,z,q⟩:=get i _ e;cases xs<;>first|exact q.elim|cases ox
def kY(h:Paired F args vs):∀(i:Nat) m,(args.map some++replicate (N.length-args.length) none)[i]?=some (some m)->args[i]?=some m/\∃u,vs[i]?=some u/\(eU N vs)[i]?=some (some u)/\F m u:=λi m e=>by
 have U:=Paired.length h;by_cases hi:i<args.length
 .rw[KN (by simpa using hi),JZ]at e;cases z:args[i]? with
  |none=>rw[z]at e;cases e
  |some Y =>
   rw[z]at e;cases e;obtain⟨u,J,q⟩:=jC h z;refine⟨rfl,u,J,?_,q⟩;unfold L2.eU;rw[KN (by rw[nR,<- U];exact hi),JZ,J]
   rfl
 .rw[Lh (by simpa using hi),L8]at e;split at e<;>cases e
def xl{K:Nl}(hO:∀a∈O,H a≠none)(h:Paired (ER K O H) args vs)(hm:cg K O H args vs ds ms):aD K (jl H ms) (O.filter λb=>decide (b∉ms)) O H (args.map some++replicate (N.length-args.length) none) (eU N vs):=by
 have hl:=Paired.length h;have le:aj (jl H ms) H:=λb u e=>by
  unfold jl at e;split at e
  .cases e
  .exact e
 refine⟨le,hO,λa z=>(JU.mp z).1,λa z=>?_,by unfold L2.eU;simp[hl],λi m e=>?_,λi j x y a J e1 e2 ox oy s1 s2=>?_
  ⟩
 .obtain⟨h1,h2⟩:=JU.mp z;unfold jl;rw[if_neg (Kc h2)];exact hO a h1
 .obtain⟨U,u,Y,Z,q⟩:=kY h i m e;refine⟨u,Z,?_⟩;cases m with
  |val v=>exact q
  |mutD d =>
   obtain⟨a,rfl,h1,h2⟩:=q;refine⟨a,rfl,h1,h2,?_⟩;unfold jl;rw[if_pos (kX hm i d a U Y)]
  | _=>exact q.elim
 .obtain⟨U,u,ao,Z,q⟩:=kY h i x e1;obtain⟨eb,w,aO,ew,q'⟩:=kY h j y e2;rw[Z]at s1;cases s1;rw[ew]at s2;cases s2;cases x with
  |val _=>cases ox
  |mutD d =>
   cases y with
   |val _=>cases oy
   |mutD d'=>exact su hm i j d d' a J U eb ao aO
   | _=>exact q'.elim
  | _=>exact q.elim
section
variable{T:Tab}{P:Program}{w:World}{K:Nl}{mg:Str->Option Value}{base:Heap}{ds:List MD}
structure HY(T:Tab)(P:Program)(w:World)(K:Nl)(mg:Str->Option Value)(base:Heap)(ds:List MD)(n g:Nat)(fa:Addr)(fd:FuncData)(ps:List Str):Prop where
 m:jq P w K mg base CX0 n fa fd ps (spM K (ab ds n) g)
 f:jq P w K mg base CX0 n fa fd ps (spF K (ab ds n) g)
 d:jq P w K mg base CX0 n fa fd ps (spD K (ab ds n) g)
theorem l_(ao:ds.length<=1000)
  (pr:Fz T K mg ds)
 :∀n f d,ds[f]?=some d->∀st fa fd,sr T K mg st d fa fd->HY T P w K mg base ds n f fa fd d.params
 |0,f,d,hd,st,fa,fd,D=>{
   m:=⟨λvs H Q E h=>(by obtain⟨O,args,r,_,_,e,_⟩:=h;exact absurd e (by simp[ab])),λA outer s H args us vs Q E _ _ _ _ h=>(by obtain⟨O,args,r,_,_,e,_⟩:=h;exact absurd e (by simp[ab]))⟩
   f:=⟨λvs H Q E h=>(by obtain⟨O,args,r,_,_,e,_⟩:=h;exact absurd e (by simp[ab])),λA outer s H args us vs Q E _ _ _ _ h=>(by obtain⟨O,args,r,_,_,e,_⟩:=h;exact absurd e (by simp[ab]))⟩
   d:=⟨λvs H Q E h=>(by obtain⟨O,args,v,ds,Y,ms,_,_,_,e,_⟩:=h;exact absurd e (by simp[ab])),λA outer s H args us vs Q E _ _ _ _ h=>(by obtain⟨O,args,v,ds,Y,ms,_,_,_,e,_⟩:=h;exact absurd e (by simp[ab]))⟩
   }
 |n+1,f,d,hd,st,fa,fd,D=>by
  refine aC λZq kq=>?_
  obtain⟨c0,d0,k0,o0,m0,a0,a9,t1,a1,sl,lk,hc,rfl⟩:=D.fn.it;have hf:=uw (y1.mp hd).1 ao;have hn:ds[f+1000]?=none:=getElem?_eq_none (by omega);have b3:ds[f+2000]?=none:=getElem?_eq_none (by omega);have gg:∀{CX}{A}{outer}{s}{H}{E},_->Gf (rf CX P w K mg base d.names d.name (bn st) fa a9 A outer s H E).nox T n (ab ds n):=λ{CX A outer s H E} hr=>{
   calm:=rfl
   room:=hr
   fns:=λf' x hx=>by
    rw[pr.tab,JZ]at hx;cases hd2:ds[f']? with
    |none=>rw[hd2]at hx;cases hx
    |some d2 =>
     rw[hd2]at hx;cases hx;obtain⟨l2,a3,J,U,el,D2,bd⟩:=pr.defs.get hd2;exact⟨J,U,d2.params,D2.named,D2.fn.kp,D2.binds,(l_ ao pr n f' d2 hd2 a3 J U D2).m,λl hl=>by rw[el]at hl;cases hl;exact bd⟩
   blt:=pr.blt
   gs:=pr.gs
   fnsF:=λf' x hx=>by
    rw[pr.tab,JZ]at hx;cases hd2:ds[f']? with
    |none=>rw[hd2]at hx;cases hx
    |some d2 =>
     rw[hd2]at hx;cases hx;obtain⟨l2,a3,J,U,el,D2,bd⟩:=pr.defs.get hd2;exact⟨J,U,d2.params,D2.named,D2.fn.kp,D2.binds,(l_ ao pr n f' d2 hd2 a3 J U D2).f⟩
   fnsD:=λf' x hx=>by
    rw[pr.tab,JZ]at hx;cases hd2:ds[f']? with
    |none=>rw[hd2]at hx;cases hx
    |some d2 =>
     rw[hd2]at hx;cases hx;obtain⟨l2,a3,J,U,el,D2,bd⟩:=pr.defs.get hd2;exact⟨J,U,d2.params,D2.named,D2.fn.kp,D2.binds,(l_ ao pr n f' d2 hd2 a3 J U D2).d⟩
   }
  have df:∀{CX}{A}{outer}{s}{H}{E},Df (rf CX P w K mg base d.names d.name (bn st) fa a9 A outer s H E).nox:=λ{CX A outer s H E}=>⟨D.scope.nd,λ_=>rfl,PassesOwn.never,by
    have hk:(rf CX P w K mg base d.names d.name (bn st) fa a9 A outer s H E).nox.env.scope.kind=.function:=D.scope.kind;unfold Env.blockKind;rw[hk]
    rfl
    ⟩
  refine kq ?_;refine {
   m:=?_
   f:=?_
   d:=?_
   }
  .refine xZ lk hc D.scope (λvs H Q E h=>?_) (λA outer s H vs Q E hr h=>?_)
   .obtain⟨O,args,r,_,hp,e,_⟩:=h;rw[<- (nv hd e).1];exact(Paired.length hp).symm
   .obtain⟨O,args,r,hO,hp,e,q⟩:=h;obtain⟨hl,c2⟩:=nv hd e;refine⟨_,(soundSs (gg hr) df d.body (dN st) D.body).nox,H,O,O,_,sw hO hp,?_⟩;rcases c2 with⟨W,he,rfl⟩|he|⟨xs,he,rfl⟩
    .rw[he];exact λF H' O' Z _=>q _ H' Z.keep (qw _)
    .rw[he];exact λu H' s' r'=>q u H' s' r'
    .rw[he];refine λp us H' s' b1 b2 r'=>q _ H' s' ?_
     rw[Rep];refine⟨p,us,rfl,SqL.of ?_,Reps.mono g8 _ r'⟩;rw[aT λz=>hO p z b1];exact b2
  .refine xZ lk hc D.scope (λvs H Q E h=>?_) (λA outer s H vs Q E hr h=>?_)
   .obtain⟨O,args,r,_,hp,e,_⟩:=h;rw[<- (ly hf hn hd e).1];exact(Paired.length hp).symm
   .obtain⟨O,args,xs,hO,hp,e,q⟩:=h;obtain⟨hl,ys,he,ey⟩:=ly hf hn hd e;cases ey;refine⟨_,(soundSs (gg hr) df d.body (dN st) D.body).nox,H,O,O,_,sw hO hp,?_⟩;rw[he];exact λp us H' s' b1 b2 r'=>q p us H' s' b1 b2 r'
  .refine xZ lk hc D.scope (λvs H Q E h=>?_) (λA outer s H vs Q E hr h=>?_)
   .obtain⟨O,args,v,es,Y,ms,_,hp,_,e,_⟩:=h;rw[<- (pz hf b3 hd e).1];exact(Paired.length hp).symm
   .refine aC λZq kq=>?_
    obtain⟨O,args,v,es,Y,ms,hO,hp,hm,e,q⟩:=h;obtain⟨hl,v',W,d3,he,cd,ey⟩:=pz hf b3 hd e;cases ey;refine kq ?_;refine⟨_,(soundSs (gg hr) df d.body (dN st) D.body).nox,jl H ms,_,O,_,xl hO hp hm,?_⟩;rw[he];have key:∀{F}{H'}{O'},aD K (jl H ms) (O.filter λb=>decide (b∉ms)) O' H' W F->bb (jl H ms) O O' (args.map some++replicate (d.names.length-args.length) none) W (eU d.names vs) F->∀(i:Nat) d' a,W[i]?=some (some (.mutD d'))->vs[i]?=some (.ref a)->DAt K H' O' a d'/\a∈O':=λ{F H' O'} Z k' i d' a e2 e3=>by
     obtain⟨_,c5⟩:=k'.mutK i d' e2;obtain⟨u,eu,a',rfl,h1,h2,_⟩:=Z.slot i _ e2;have ei:(eU d.names vs)[i]?=some (some (.ref a)):=by
      have hi:=(y1.mp e3).1;unfold L2.eU;rw[KN (by simpa using hi),JZ,e3]
      rfl
     rw[c5,ei]at eu;cases eu;exact⟨h1,h2⟩
    refine λu F H' O' Z k' ru=>?_
    have vw:=bF (aj.refl H') λb hb=>.inl (by
     by_cases z:b∈ms
     .obtain⟨i,d',h1,h2⟩:=uI hm cd b z;exact(key Z k' i d' b h2 h1).2
     .refine k'.stay b ?_ hb;unfold jl;rw[if_neg z];exact hO b hb)
    refine q u H' (λb o hb eb=>Z.keep b o ?_) (xk hm cd λi d1 d' a e1 e2 e3=>(key Z k' i d' a e2 e3).1.move (λ_ z=>z) vw) (Rep.mono vw _ ru);unfold jl;rw[if_neg hb];exact eb
def HZ(z:ds.length<=1000)
  (U:Fz T K mg ds)
  (n f) (d) (hd:ds[f]?=some d) (st) (J) (fd) (D:sr T K mg st d J fd):jq P w K mg base CX0 n J fd d.params (spM K (ab ds n) f):=(l_ z U n f d hd st J fd D).m
end
def FA{K:Nl}{ns:List Int}(h:ab ds n li [.brw (ns.map .int)]=some (.bl true))(J:SqL K H a (ns.map V.int)):spM K (ab ds n) li [.ref a] H (λv _=>v=.bl true) λ_ _ _=>False:=
 ⟨[],[.brw (ns.map .int)],.bl true,λ_ z=>by simp at z,.cons ⟨a,_,rfl,J,.of_ints ns⟩ .nil,h,λu H' _ r=>by rw[Rep]at r;exact r⟩
end MM
namespace MM
open PySem List Option
noncomputable abbrev ofS(z:List Int):PV:=.tup (z.map .int)
noncomputable abbrev ofR(R:List (List Int)):PV:=.tup (R.map ofS)
noncomputable abbrev ofL(ns:List Int):PV:=.lst (ns.map .int)
theorem br:∀ns,a_ (ns.map .int)=some ns
 | []=>rfl
 |n::ns=>by simp[a_,br ns]
theorem pA:∀R,gm (R.map ofS)=some R
 | []=>rfl
 |t::R=>by simp[gm,br,pA R]
theorem jD:∀ns,cB (ns.map .bl)=some ns
 | []=>rfl
 |n::ns=>by simp[cB,jD ns]
def pB(h:ns.length<64):iC (ns.map .int)=some (ofL (sortI ns)):=by
 unfold iC;rw[if_pos (by simpa using h),br]
def i4{R:List (List Int)}(h:R.length<64):iC (R.map ofS)=some (.lst ((sortT R).map ofS)):=by
 unfold iC;rw[if_pos (by simpa using h)];cases R with
 |nil=>rfl
 |cons t R =>
  have:a_ ((t::R).map ofS)=none:=rfl;rw[this];simp only[pA,map_some]
theorem ce{α:Type}{g:α->PV}{c:PV->Option Bool}{f:PV->Option PV}{p:α->Bool}{h:α->PV}:∀{xs:List α},(∀x∈xs,c (g x)=some (p x))->(∀x∈xs,p x=true->f (g x)=some (h x))->fW c f (xs.map g)=some ((xs.filter p).map h)
 | [],_,_=>rfl
 |x::xs,hc,hf=>by
  rw[JO,fW,hc x (.head _),bind_some];have ih:=ce (xs:=xs) (λy z=>hc y (.tail _ z)) (λy z=>hf y (.tail _ z));cases J:p x<;>simp_all
def g9{α:Type}{g:α->PV}{c:PV->Option Bool}{f:PV->Option PV}{h:α->PV}{xs:List α}(hc:∀x∈xs,c (g x)=some true)(z:∀x∈xs,f (g x)=some (h x)):fW c f (xs.map g)=some (xs.map h):=by
 rw[ce hc (λx hx _=>z x hx),K9.mpr λ_ _=>rfl]
def FB(a b)(z:List Int):((b==a)||decide (a∈z))=decide (a=b\/a∈z):=by grind
def FC(a b)(z:List (List Int)):(decide (b=a)||decide (a∈z))=decide (a=b\/a∈z):=by grind
@[simp] theorem mf(n)(i j):eqF n (.int i) (.int j)=some (i==j):=by cases n<;>rfl
theorem bH(h:Int):∀z:List Int,isIn (.int h) (z.map .int)=some (decide (h∈z))
 | []=>rfl
 |t::z=>by
  have ih:=bH h z;unfold isIn at ih ⊢;rw[JO,inL,ih];simp only[mf,bind_some,map_some,tf,FB]
theorem nw(n:Nat):∀a b:List Int,eqL (eqF n) (a.map .int) (b.map .int)=some (decide (a=b))
 | [],[]=>rfl
 | [],_::_=>rfl
 | _::_,[]=>rfl
 |x::a,y::b=>by
  rw[JO,JO,eqL,nw n a b];simp only[mf,bind_some,map_some,Mv]
  congr 1
  rw[Kv];simp
def H0(n:Nat)(a b:List Int):eqF (n+1) (ofS a) (ofS b)=some (decide (a=b)):=nw n a b
def H_(n:Nat)(a b:List Int):eqF (n+1) (ofL a) (ofL b)=some (decide (a=b)):=by
 show(if (a.map PV.int).length=(b.map PV.int).length then eqL (eqF n) (a.map .int) (b.map .int)else some false)=_;rw[nw];split
 .rfl
 .rename_i h
  congr 1
  exact(J0 λe=>h (by rw[e])).symm
theorem jE(h):∀z:List (List Int),isIn (ofS h) (z.map ofS)=some (decide (h∈z))
 | []=>rfl
 |t::z=>by
  have ih:=jE h z;unfold isIn at ih ⊢;rw[JO,inL,ih,H0 99];simp only[bind_some,map_some,tf,FC]
noncomputable def bc:R->Option PV
 | .next _=>some .non
 | .ret v=>some v
 | .retF xs=>some (.lst xs)
 | _=>none
def ae(hd:ds[f]?=some d)(z:args.length=d.params.length):ab ds (n+1) f args=bc (exs (ab ds n) d.body (args.map some++replicate (d.names.length-args.length) none)):=by
 rw[ab,hd];simp[z]
 rfl
noncomputable def sx(args:List MV):R->Option PV
 | .retM v W=>(eI args W).map λds=>.tup (v::ds)
 | _=>none
def i5(z:ds[f+2000]?=none)(hd:ds[f]?=some d)(J:args.length=d.params.length)
 :ab ds (n+1) (f+2000) args=sx args (exs (ab ds n) d.body (args.map some++replicate (d.names.length-args.length) none)):=by
 rw[ab,z];rw[KI,hd];simp[J]
 rfl
@[simp] theorem Ga(v)(W)(k):(R.retM v W).andThen k=.retM v W:=rfl
@[simp] theorem FD(v):gq (some (.mutD v))=some (.brwD v):=rfl
@[simp] theorem FE(v):fJ (some (.mutD v))=some (.brwD v):=rfl
@[simp] theorem Gb(xs)(k):(R.retF xs).andThen k=.retF xs:=rfl
@[simp] theorem Gc(v):bv (some (.val v))=some v:=rfl
@[simp] theorem Ge(v):bv (some (.own v))=some (.lst v):=rfl
@[simp] theorem Gg(v):bv (some (.brw v))=some (.lst v):=rfl
@[simp] theorem FF(v):bv (some (.ownD (.k v)))=some (.dI (.k v)):=rfl
@[simp] theorem FG(v):bv (some (.ownD (.t v)))=some (.dI (.t v)):=rfl
@[simp] theorem FH(v):bv (some (.brwD (.k v)))=some (.dI (.k v)):=rfl
@[simp] theorem Jt(v):rO (.k v)=true:=rfl
@[simp] theorem Ju(v):rO (.t v)=true:=rfl
@[simp] theorem FI(v):bv (some (.brwD (.t v)))=some (.dI (.t v)):=rfl
@[simp] theorem FJ(v):gq (some (.ownD v))=some (.brwD v):=rfl
@[simp] theorem FK(v):gq (some (.brwD v))=some (.brwD v):=rfl
@[simp] theorem FL(v):fJ (some (.ownD v))=some (.brwD v):=rfl
@[simp] theorem FM(v):fJ (some (.brwD v))=some (.brwD v):=rfl
@[simp] theorem Jv(i):sc? (.int i)=some (.int i):=rfl
@[simp] theorem JM(i):sc? (.bl i)=some (.bl i):=rfl
@[simp] theorem Jw:sc? .non=some .non:=rfl
@[simp] theorem Jx(i):(Sc.int i).pv=.int i:=rfl
@[simp] theorem JN(i):(Sc.bl i).pv=.bl i:=rfl
@[simp] theorem Gh(v):yV (some (.val v))=some v:=rfl
@[simp] theorem Gi(v):gq (some (.val v))=some (.val v):=rfl
@[simp] theorem Gj(v):gq (some (.own v))=some (.brw v):=rfl
@[simp] theorem Gk(v):gq (some (.brw v))=some (.brw v):=rfl
@[simp] theorem Gm(v):fJ (some (.val v))=some (.val v):=rfl
@[simp] theorem Gn(v):fJ (some (.own v))=some (.brw v):=rfl
@[simp] theorem Go(v):fJ (some (.brw v))=some (.brw v):=rfl
@[simp] theorem Gp(b):aZ (.bl b)=some b:=rfl
@[simp] theorem IC(i j):fm .add (.int i) (.int j)=some (.int (i+j)):=rfl
@[simp] theorem ID(i j):fm .sub (.int i) (.int j)=some (.int (i-j)):=rfl
@[simp] theorem CC(i j):fm .mul (.int i) (.int j)=if (-(2 ^ 64)<i/\i<2 ^ 64)\/(-(2 ^ 64)<j/\j<2 ^ 64)then some (.int (i*j))else none:=rfl
@[simp] theorem z6(i j):fm .fdiv (.int i) (.int j)=if 0<j/\j<1073741824 then some (.int (i / j))else none:=rfl
@[simp] theorem mh(i j):fm .mod (.int i) (.int j)=if 0<j then some (.int (i % j))else none:=rfl
@[simp] theorem qK(x y):fm .add (.lst x) (.lst y)=if x.length+y.length<=10000 then some (.lst (x++y))else none:=rfl
@[simp] theorem Jy(i j):cu .lt (.int i) (.int j)=some (decide (i<j)):=rfl
@[simp] theorem Jz(i j):cu .le (.int i) (.int j)=some (decide (i<=j)):=rfl
@[simp] theorem JA(i j):cu .gt (.int i) (.int j)=some (decide (j<i)):=rfl
@[simp] theorem JB(i j):cu .ge (.int i) (.int j)=some (decide (j<=i)):=rfl
@[simp] theorem z7(x y):cu .eq x y=eqF 100 x y:=rfl
@[simp] theorem FN(x y):cu .ne x y=if t_ x y=true then(eqF 100 x y).map (λp=>!p)else none:=rfl
@[simp] theorem IE(x):cu .isN x .non=some (jk x):=rfl
@[simp] theorem Ia(x):cu .notN x .non=some (!jk x):=rfl
@[simp] theorem CD(x)(xs):cu .isIn x (.tup xs)=isIn x xs:=rfl
@[simp] theorem IF(x)(xs):cu .isIn x (.lst xs)=isIn x xs:=rfl
@[simp] theorem Ib(x)(xs):cu .notIn x (.tup xs)=(isIn x xs).map λp=>!p:=rfl
@[simp] theorem z8(x)(xs):cu .notIn x (.lst xs)=(isIn x xs).map λp=>!p:=rfl
@[simp] theorem JC(n)(i j):eqF n (.bl i) (.bl j)=some (i==j):=by cases n<;>rfl
@[simp] theorem IG(n)(i j):eqF n (.str i) (.str j)=some (i==j):=by cases n<;>rfl
@[simp] theorem IH(x y):t_ (.tup x) (.tup y)=true:=rfl
@[simp] theorem II(x y):t_ (.lst x) (.lst y)=true:=rfl
@[simp] theorem IJ(x y):t_ (.int x) (.int y)=true:=rfl
@[simp] theorem CF(x):bf (.tup x)=some x:=rfl
@[simp] theorem mi(x):bf (.lst x)=some x:=rfl
@[simp] theorem Ic(x):av .len [.tup x]=some (.int x.length):=rfl
@[simp] theorem z9(x):av .len [.lst x]=some (.int x.length):=rfl
@[simp] theorem Ie(x):av .len [.dI (.k x)]=some (.int x.length):=rfl
@[simp] theorem IK(x):av .tupleOf [x]=(bf x).map .tup:=rfl
@[simp] theorem Ig(x):av .listOf [x]=(bf x).map .lst:=rfl
@[simp] theorem jF(x):av .sorted [x]=(bf x).bind iC:=rfl
@[simp] theorem CG(x):av .any [.lst x]=(cB x).map λbs=>.bl (bs.any id):=rfl
@[simp] theorem CH(x):av .all [.lst x]=(cB x).map λbs=>.bl (bs.all id):=rfl
@[simp] theorem Ih(i):av .intOf [.int i]=some (.int i):=rfl
@[simp] theorem Ii(b):av .intOf [.bl b]=some (.int (if b then 1 else 0)):=rfl
@[simp] theorem IL(i):isD (.int i)=false:=rfl
@[simp] theorem JD(i):isD (.bl i)=false:=rfl
@[simp] theorem IM(i):isD (.str i)=false:=rfl
@[simp] theorem IN(i):isD (.tup i)=false:=rfl
@[simp] theorem IP(i):isD (.lst i)=false:=rfl
@[simp] theorem IQ:isD .non=false:=rfl
@[simp] theorem Gq(x):av .isInt [x]=if isD x=true then none else some (.bl (isT .isInt x)):=rfl
@[simp] theorem A1(i):isT .isInt (.int i)=true:=rfl
@[simp] theorem CI(i):isT .isInt (.bl i)=true:=rfl
@[simp] theorem A2(i):isT .isInt (.str i)=false:=rfl
@[simp] theorem A3(i):isT .isInt (.lst i)=false:=rfl
@[simp] theorem A4(i):isT .isInt (.tup i)=false:=rfl
@[simp] theorem A5:isT .isInt .non=false:=rfl
@[simp] theorem FO(x):av .isBool [x]=if isD x=true then none else some (.bl (isT .isBool x)):=rfl
@[simp] theorem z_(i):isT .isBool (.int i)=false:=rfl
@[simp] theorem A6(i):isT .isBool (.bl i)=true:=rfl
@[simp] theorem Aa(i):isT .isBool (.str i)=false:=rfl
@[simp] theorem Ab(i):isT .isBool (.lst i)=false:=rfl
@[simp] theorem Ac(i):isT .isBool (.tup i)=false:=rfl
@[simp] theorem Ad:isT .isBool .non=false:=rfl
@[simp] theorem Gr(x):av .isStr [x]=if isD x=true then none else some (.bl (isT .isStr x)):=rfl
@[simp] theorem A7(i):isT .isStr (.int i)=false:=rfl
@[simp] theorem CJ(i):isT .isStr (.bl i)=false:=rfl
@[simp] theorem A8(i):isT .isStr (.str i)=true:=rfl
@[simp] theorem A9(i):isT .isStr (.lst i)=false:=rfl
@[simp] theorem A_(i):isT .isStr (.tup i)=false:=rfl
@[simp] theorem Ba:isT .isStr .non=false:=rfl
@[simp] theorem FP(x):av .isList [x]=if isD x=true then none else some (.bl (isT .isList x)):=rfl
@[simp] theorem Ae(i):isT .isList (.int i)=false:=rfl
@[simp] theorem Bb(i):isT .isList (.bl i)=false:=rfl
@[simp] theorem Af(i):isT .isList (.str i)=false:=rfl
@[simp] theorem Ag(i):isT .isList (.lst i)=true:=rfl
@[simp] theorem Ah(i):isT .isList (.tup i)=false:=rfl
@[simp] theorem Ai:isT .isList .non=false:=rfl
@[simp] theorem Ds(x):av .isTuple [x]=if isD x=true then none else some (.bl (isT .isTuple x)):=rfl
@[simp] theorem xE(i):isT .isTuple (.int i)=false:=rfl
@[simp] theorem Aj(i):isT .isTuple (.bl i)=false:=rfl
@[simp] theorem xF(i):isT .isTuple (.str i)=false:=rfl
@[simp] theorem xG(i):isT .isTuple (.lst i)=false:=rfl
@[simp] theorem xH(i):isT .isTuple (.tup i)=true:=rfl
@[simp] theorem xI:isT .isTuple .non=false:=rfl
@[simp] theorem Ak(xs:List PV):av .min1 [.lst xs]=(a_ xs).bind λns=>(BT ns).map .int:=rfl
@[simp] theorem sy(xs):av .max1 [.lst xs]=(a_ xs).bind λns=>(ua ns).map .int:=rfl
@[simp] theorem uJ(d):av .valuesOf [.dI d]=if (lr d).length<=10000 then some (.lst (lr d))else none:=rfl
@[simp] theorem Al(kvs):av .sortedKeys [.dI (.k kvs)]=if kvs.length<64 then some (ofL (sortI (kvs.map (·.1))))else none:=rfl
@[simp] theorem JE(kvs)(i):wU (.dI (.k kvs)) (.int i)=some (bM kvs i):=rfl
@[simp] theorem JF(kvs)(ns):wU (.dI (.t kvs)) (.tup (ns.map .int))=some (bM kvs ns):=by
 show(a_ _).map _=_;rw[br]
 rfl
@[simp] theorem JG(kvs)(i)(s):qk (.k kvs) (.int i) s=if kvs.length<10000 then some (.k (cF kvs i s))else none:=rfl
@[simp] theorem JH(kvs)(ns)(s):qk (.t kvs) (.tup (ns.map .int)) s=if kvs.length<10000 then some (.t (cF kvs ns s))else none:=by
 show((a_ _).bind λk=>if kvs.length<10000 then some _ else none)=_;rw[br]
 rfl
@[simp] theorem IR(p q):cu .isN (.bl p) (.bl q)=some (p==q):=rfl
@[simp] theorem Ij(p q):cu .notN (.bl p) (.bl q)=some (!(p==q)):=rfl
@[simp] theorem CK(xs):av .tupleRev [.lst xs]=some (.tup xs.reverse):=rfl
@[simp] theorem Bc(x:PV):av .sortedSet [x]=(bf x).bind λxs=>(a_ xs).bind λns=>if ns.length<=4000/\(dd ns).length<64 then some (.lst ((sortI (dd ns)).map .int))else none:=rfl
@[simp] theorem Am(x)(i):gp (.lst x) (.int i)=(place x.length i).bind λj=>x[j]?:=rfl
@[simp] theorem Ik(x)(i):gp (.tup x) (.int i)=(place x.length i).bind λj=>x[j]?:=rfl
@[simp] theorem IS(x)(lo hi):jW (.lst x) lo hi=some (.lst (cut x lo hi)):=rfl
@[simp] theorem IT(i j):bnd (.cst (.int i)) (.int j)=some (some j):=rfl
@[simp] theorem CL(x):bj .seq [x]=bf x:=rfl
def CM(j):bj .rng [.int j]=if -(2 ^ 62)<=j/\j<2 ^ 62 then some ((range j.toNat).map λk=>.int ((0:Int)+k))else none:=rfl
@[simp] theorem aX(W)(k):(R.next W).andThen k=k W:=rfl
@[simp] theorem Il(v)(k):(R.ret v).andThen k=.ret v:=rfl
@[simp] theorem Im(k):R.bad.andThen k=.bad:=rfl
@[simp] theorem Io(W)(k):(R.brk W).andThen k=.brk W:=rfl
@[simp] theorem Gs(W)(k):(R.cont W).andThen k=.cont W:=rfl
@[simp] theorem uK(v)(k):eV (some v) k=k v:=rfl
@[simp] theorem ny(v)(k):yW (some v) k=k v:=rfl
@[simp] theorem FQ(v)(k):cG (some v) k=k v:=rfl
@[simp] theorem Gu(v):bc (.ret v)=some v:=rfl
@[simp] theorem FR(W):bc (.next W)=some .non:=rfl
@[simp] theorem cI(a)(l)(m):put (a::l) 0 m=some m::l:=rfl
@[simp] theorem cJ(a)(l)(n)(m):put (a::l) (n+1) m=a::put l n m:=rfl
@[simp] theorem dF(src)(z W):(R.next W).back src z=.next (aP src z W):=rfl
@[simp] theorem Ip(src)(z)(v):(R.ret v).back src z=.ret v:=rfl
@[simp] theorem Gv(body)(W):aw body [] W=.next W:=rfl
def g_(z:0<=j)(h1:j<4611686018427387904):bj .rng [.int j]=some ((range j.toNat).map λk=>.int (k:Int)):=by
 rw[CM,if_pos ⟨by omega,by omega⟩]
 congr 1
 simp_all
def gE{n:Nat}{i:Int}(z:0<=i)(h:i<n):place n i=some i.toNat:=by unfold place;rw[if_pos z,if_pos h]
def leT(a b:List Int):Prop:=lexLt b a=false
theorem sortI_perm(l):(sortI l).Perm l:=by rw[dl];exact L2.Srt.sortI_perm l
theorem sortT_perm(l):(sortT l).Perm l:=by rw[j9];exact L2.Srt.sortT_perm l
def sortI_len(l):(sortI l).length=l.length:=(sortI_perm l).length_eq
def sortT_len(l):(sortT l).length=l.length:=(sortT_perm l).length_eq
def kZ :x∈sortI l ↔ x∈l:=(sortI_perm l).mem_iff
def da :x∈sortT l ↔ x∈l:=(sortT_perm l).mem_iff
theorem sortI_rises(l):(sortI l).Pairwise (· <= ·):=by rw[dl];exact L2.Srt.sortI_rises l
theorem sortT_rises(l):(sortT l).Pairwise leT:=by
 rw[j9];exact(L2.Srt.sortT_rises l).imp λh=>by unfold leT;rw[m9];exact h
theorem sortI_id{l:List Int}(h:l.Pairwise (· <= ·)):sortI l=l:=by rw[dl];exact L2.Srt.sortI_id h
theorem sortI_of_perm(p:a.Perm b):sortI a=sortI b:=by rw[dl,dl];exact L2.Srt.sortI_of_perm p
def sA(h:l.Nodup):(sortI l).Pairwise (· < ·):=by
 have h1:=sortI_rises l;have h2:=(sortI_perm l).nodup_iff.mpr h;exact(h1.and h2).imp λ⟨a,b⟩=>by omega
def nz :k∈dd l ↔ k∈l:=by rw[ph];exact L2.St.fU
theorem dd_nodup(l):(dd l).Nodup:=by rw[ph];exact L2.St.dd_nodup l
theorem Dt:∀{l},l.Nodup->dd l=l
 | [],_=>rfl
 |x::r,h=>by
  rw[dd,Dt (Kh.mp h).2,if_neg (Kh.mp h).1]
def dq{l:List Int}(h:l.Pairwise (· < ·)):l.Nodup:=h.imp λ{a b} q=>by omega
def cm(z:List Int):Prop:=z.Pairwise (· < ·)/\∀h∈z,0<=h/\h<=59
def ax(R:List (List Int)):Prop:=(∀z∈R,cm z)/\R.Pairwise leT/\R.length<=60
theorem nA:∀(n:Nat) (l:List Int),l.Nodup->(∀x∈l,0<=x/\x<(n:Int))->l.length<=n
 |0,l,_,h=>by
  cases l with
  |nil=>simp
  |cons x r=>have:=h x (.head _);omega
 |n+1,l,J,h=>by
  have h1:=nA n (l.filter λx=>decide (x≠(n:Int))) (J.filter _) (λx hx=>by
   obtain⟨h2,U⟩:=JU.mp hx;have h4:=Kc U;have:=h x h2;omega)
  have h2:∀l:List Int,l.Nodup->l.length<=(l.filter λx=>decide (x≠(n:Int))).length+1:=by
   intro l
   induction l with
   |nil=>intro _;simp
   |cons x r ih =>
    intro J;by_cases e:x=(n:Int)
    .have Y:r.filter (λx=>decide (x≠(n:Int)))=r:=K9.mpr λy Z=>JS λz=>(Kh.mp J).1 (by rw[e,<- z];exact Z)
     rw[Kz (by simp[e]),Y];simp
    .simp_all
  have:=h2 l J;omega
def aL(h:cm z):z.length<=60:=nA 60 z (dq h.1) λx hx=>by have:=h.2 x hx;omega
noncomputable def qL(ns:List Int)(lo hi:Option Int):List Int:=(ns.drop (ig ns.length 0 lo)).take (ig ns.length ns.length hi-ig ns.length 0 lo)
@[simp] theorem sB(ns)(lo hi):cut (ns.map .int) lo hi=(qL ns lo hi).map .int:=by
 unfold cut qL
 simp_all
def An(ns:List Int){a b:Int}(z:0<=a)(J:0<=b):(qL ns (some a) (some b)).length<=(b-a).toNat:=by
 unfold qL;rw[Ng,length_drop];have U:ig ns.length ns.length (some b)=min b.toNat ns.length:=by show(if b<0 then _ else _)=_;rw[if_neg (Int.not_lt.mpr J)]
 have Y:ig ns.length 0 (some a)=min a.toNat ns.length:=by show(if a<0 then _ else _)=_;rw[if_neg (Int.not_lt.mpr z)]
 rw[U,Y];obtain⟨A,rfl⟩:=Int.eq_ofNat_of_zero_le z;obtain⟨B,rfl⟩:=Int.eq_ofNat_of_zero_le J;rw[Int.toNat_sub,Int.toNat_natCast,Int.toNat_natCast];refine r4 (Nat.min_le_left _ _) ?_;rcases Nat.le_total A ns.length with h|h
 .rw[Lx h];exact Nat.sub_le_sub_right (Nat.min_le_left _ _) A
 .rw[Nat.min_eq_right h,Nat.sub_eq_zero_of_le (Nat.min_le_right _ _)];exact J2 _
end MM
structure PySem.W.Fast:Prop where (tw3159115011029115368 tw763672857099794100 tw11201702066342138081 tw16725416502150479472 tw850406920038947821 tw15408981617035702208 tw11391788775377980223 tw8532420437736982461 tw3701065171386177286 tw6846253380884786751 tw11146667019463035601 tw14844408279289512380 tw14428873272052987071 tw2970932458199146530 tw1385569836748098297 tw18380261859809510060 tw7198939212537926920 tw3727576176036775863 tw16516160734229597880 tw1868641900705590245 tw1597434186527504657 tw7985400717631294096 tw8377862610064361826 tw15051782786661229156 tw13503387822752501086 tw15004582190787736186 tw14385857881259215098 tw11679440349885137144 tw9943767861829458476 tw3598761251327808084 tw7346259670716242631 tw441038751892787553 tw3634627242328999833 tw6081857516920256617 tw16594399996131327119 tw7218274417515484382 tw11963895299709235230 tw11148493987508682008 tw6083465637710562607 tw8275262219286418105 tw7335657515445921460 tw6401561532430665886 tw743301020156020191 tw6786058293678646417 tw3534493385708221135 tw2100387453291036031 tw427451576954992699 tw7166934577792883305 tw7180381070914452264 tw2334114256862178350 tw15692532553712624970 tw12285347859111083736 tw15250084983493788866 tw4544280365620137947 tw10391990130401606503 tw164168794417948650 tw892632234065718645 tw13243929822121275086 tw7917360121483808434 tw11139575701433102324 tw7430862382565987826 tw15749304969341971356 tw9321608544485810280 tw8373151027265454329 tw9682944331038127398 tw5500429241993441056 tw7996120789068332954 tw11745930577512625605 tw4640383614610309875 tw10548258850431846759 tw3264315747927639995 tw17293104513387544756 tw18210761596083717311 tw4878966798152820648 tw10638223152997629052 tw5520462484952856338 tw9429661655993088556 tw7815958847492154699 tw8041889562245243724 tw468795894658866455 tw1449306704326807780 tw17218185851937332616 tw15156032487061268441 tw7333962339310676607 tw7571453903572340671 tw5222717775257645320 tw7159971486892542283 tw5677806247625581790 tw11817362878617362362 tw70015001255745707 tw16529778007552286170 tw8837317963043652998 tw3445153527635422056 tw2264849425491654803 tw1662223867206264509 tw15340705354704848505 tw1559195611599523392 tw124454629861764384 tw8003850977443999386 tw18224785810654699678 tw12204570067206949720 tw12121429758675757870 tw15201168442523008964 tw15561915086314288778 tw17580649483630240307 tw1732217589517322899 tw5891531864019736204 tw6076572295772298776 tw5401922629288188742 tw7279099663002035300 tw5798272000470969285 tw13098658075657007175 tw14402306548606900998 tw967621267113503932 tw13948316891152114624 tw12529949118740074591 tw18103251370524581737 tw635186005140123492 tw8921004069542746679 tw8184818390884667687 tw11823939121965082161 tw17184734484601399768 tw16514804735375027660 tw12799582721083217767 tw1273938674636076242 tw5714976828317098469 tw795375261629608566 tw939704937508848101 tw8270844580881364505 tw13837378083470483611 tw840859150978011597 tw531886032009258145 tw7064586963048504512 tw7721126845556278777 tw9056858833881805121 tw2692967320004140980 tw5151844043063726802 tw6389038149321618812 tw17651128122165618826 tw13902799116825295303 tw13413701419658216710 tw1636409079208522771 tw8994651117106394289 tw3685502217556082365 tw2727019089065608137 tw17668607490742727920 tw2547260088603071658 tw15369730030176129632 tw11187596482775107333 tw15856841138785113051 tw12078493426782085195 tw7246526564811882406 tw10193019792805292582 tw12454411959135460479 tw2576684781981509641 tw5215181653783836865 tw4812961249782418841 tw2214235694838396081 tw8790289101298768286 tw6299284739770393732 tw8032297898378827128 tw1275891542416208258 tw6777295783778859641 tw8849769933680563624 tw3032060614394322095 tw6767424696900138614 tw199110171396718332 tw13686218094085419279 tw14524189094047808023 tw7196883241376069384 tw11365834710319636419 tw5776878550681787712 tw16550010384441666652 tw2458968501494357284 tw11442026441968167246 tw12405490307315948197 tw11036555058905680923 tw6366788565376488836 tw7396941060308363024 tw15526097619090364408 tw14037851541609136832 tw8375723066412312862 tw8919088895764329059 tw14491724529412358345 tw8055670096090418914 tw7374407571156693953 tw5964606750752389105 tw8934460260269166307 tw4386662077670369969 tw6458245492488274910 tw7956572160646129337 tw13661550805652051277 tw3940816157795702527 tw17255248893696739823 tw17820287975521135361 tw2612098608332811563 tw14878029200705524613 tw10926065769236507811 tw2736399577131675716 tw6092715873740957236 tw1895395909023784165 tw2676575251279033289 tw1381302317063007554 tw5417994487552041606 tw6859603037188706360 tw9414442883028818349 tw4551248053913543369 tw7637588299780865867 tw4239820644658771085 tw6597898671257601850 tw4538893314525384091 tw15415120932888407980 tw2861929437925780974 tw12152007452383686408 tw1530303345060792012 tw8893574747862647792 tw2662197304119537506 tw4269235856735707844 tw2387574907705331824 tw7118991896247502875 tw14421980699934511841 tw2435455270400568243 tw2955921513887468038 tw16212868389901134629 tw18143094053262424619 tw14563292197304237192 tw16064927928053216261 tw11429876587856662042 tw12393233456340466356 tw15000183831596535882 tw1449201113974457388 tw9805533639843183998 tw12904316792137554704 tw7959508015505952999 tw15194454049008009324 tw14920179031587838169 tw14691795387107820888 tw6508780623852761893 tw8286337708242216103 tw10038094985866903615 tw12124987181214460419 tw18032855931963044170 tw8295471433780228374 tw248984832147546703 tw9730126058017975975 tw13411882124423025990 tw6513273365431190914 tw17347398644495485974 tw17653936160182783140 tw16715956095328767894 tw16915471483038221502 tw5808369382154517860 tw11736171434085206829 tw15490470413700298047 tw7028931642905727968 tw9009719136225203161 tw10403385023183953886 tw8079889336426797054 tw16323058052606689434 tw984057787841993429 tw10297998323254393807 tw3385526362717244889 tw240758551012889278 tw8608406674634011815 tw6210156791322659962 tw9203045033754941695 tw15577577028181327780 tw16504690673364558338 tw17808977255419505649 tw15814243635925645718 tw5098450615742542437 tw17836364231000047369 tw2375398023683416106 tw284138213520366086 tw18375832704955363873 tw1740450127086843911 tw5167156124408854846 tw822476898209706967 tw6521613406684851003 tw1643606302300345622 tw1449563856231423284 tw16370344179725334140 tw18047611677406816938 tw12503233064140248306 tw3171578471508283119 tw7794857561696728412 tw4317345742805950072 tw17334287537365282977 tw10104793054212607572 tw17247028466167962062 tw2525503674267290702 tw10739853728104122705 tw5193207319904413040 tw8149533851832058581 tw7406980399271532220 tw2500267184788051396 tw1706303704089240580 tw4088562859859326874 tw7001358908791366679 tw16331926145430354093 tw10895461081385290690 tw15368477768011114938 tw17819290736258553857 tw15601827400338932798 tw6857565260564644768 tw16897172181709100693 tw13449021938112613113 tw5973975480508846071 tw11651663562866888566 tw11233949059891933023 tw11890204623560804274 tw9693504262696037102 tw5376378684845837039 tw17905966033929559780 tw4768709112786785187 tw10547657715707714509 tw10737745325888493274 tw15034488072669395290 tw15229753967343226141 tw8334516173623410305 tw1722011974579152922 tw6192674957902342291 tw6627690499449950169 tw6642631026073904220 tw4827518145243169828 tw6641089356611437541 tw11194036477141423616 tw18287030626232020944 tw10606485657902364962 tw2265809016261433804 tw11826720426427670265 tw11925615038389376276 tw10780423850428340664 tw10196492926625984101 tw12138298541786293050 tw9719544066142627958 tw436434596479537093 tw1112443189139595967 tw193992050613225896 tw16932644586623339388 tw150049517108209335 tw8672108899016782315 tw9803577232674534009 tw4525294032249709490 tw16910984372890447466 tw11928022635652577808 tw10743325079752439152 tw17971404641555362131 tw812267754865131852 tw7964187128948470899 tw2829791571992420232 tw922902767685049859 tw11326390359941552033 tw8647245310722035471 tw13770118682120530682 tw3268527523067356818 tw6762614771161485130 tw17822416748170432511 tw17537369238272025467 tw12998706897225183929 tw12613256378393538941 tw13762088659092181273 tw4973664736833525076 tw11575201853157364656 tw9393533644625761794 tw15029135872822621472 tw11763325503798263816 tw3461929679609062444 tw17949072392859164471 tw13138882233753593976 tw11122798196854625456 tw9444264213753887872 tw6443016606820451111 tw16849305386179069811 tw3419245300662942464 tw7359828804101560263 tw13520618115225098955 tw17499135203192765872 tw1188280893438753937 tw16229677684524617241 tw2522127479657508898 tw4476478527575412267 tw14724885696746554902 tw7571626630354360785 tw6974229951861606266 tw15198920507161451517 tw12801033656201220817 tw1294921974998558981 tw7496986939720693206 tw4420668745268897745 tw10426461472473775001 tw16692645598166350939 tw11162697652722401436 tw5159781019006762607 tw14520399817002993165 tw15894670886709024324 tw10002523740939821323 tw16785293537768773908 tw563465214116979893:True)
namespace My
open PySem L2 MM List Option
noncomputable abbrev ix(a:Nat)(b:Int):ME:=.idx (.bor a) (.cst (.int b))
noncomputable abbrev sv(x:PV):Option MV:=some (.val x)
abbrev LL:=List (List Int)
noncomputable abbrev ci(x:Int):ME:=.cst (.int x)
noncomputable abbrev cs(x:Str):ME:=.cst (.str x)
noncomputable def du:List MS:=[.extend 1 (.bor 2)]
noncomputable def kf:MD:=⟨"members_of",["rows"],["rows","members","row"],
  [.setOwn 1 (.lst []),
  .for1 2 .seq [.bor 0] du,
  .retOwn 1]⟩
noncomputable def iH:MD:=⟨"each_once",["members"],["members"],
  [.ret (.cmp .eq (.blt .lenSet [.bor 0]) (.blt .len [.bor 0]))]⟩
noncomputable def eO:MD:=⟨"strip_without",["strip","hole"],["strip","hole"],
  [.ret (.blt .tupleOf [(.comp .seq [.bor 0] [1] (.cmp .ne (.bor 0) (.bor 1)) (.var 0))])]⟩
noncomputable def k4:MD:=⟨"knotted",["rest","hole"],["rest","hole"],
  [.ret (.blt .tupleOf [(.blt .sorted [(.comp .seq [.bor 0] [1] (.cst (.bl true)) (.call 2 [.bor 0,.bor 1]))])])]⟩
noncomputable def sC:MD:=⟨"bitten",["rest","hole"],["rest","hole"],
  [.ret (.blt .tupleOf [(.comp .seq [.bor 0] [1] (.cmp .notIn (.bor 1) (.bor 0)) (.var 0))])]⟩
noncomputable def jG:MD:=⟨"holes_of",["rest"],["rest"],
  [.ret (.blt .sortedSet [(.call 0 [.bor 0])])]⟩
noncomputable def nB:MD:=⟨"is_whole",["rest"],["rest"],
  [.ret (.cmp .isIn (.tup []) (.bor 0))]⟩
noncomputable def hV:MD:=⟨"other_hand",["hand"],["hand"],
  [.ret (.ite (.cmp .eq (.bor 0) (cs "weaver")) (cs "moth") (cs "weaver"))]⟩
noncomputable def kg:MD:=⟨"behind",["rest","hand","reply"],["rest","hand","reply"],
  [.ite (.cmp .isN (.bor 2) (.cst .non))
   [.ret (.var 0)]
   [],
  .ret (.ite (.cmp .eq (.bor 1) (cs "weaver")) (.call 3 [.bor 0,.bor 2]) (.call 4 [.bor 0,.bor 2]))]⟩
noncomputable def jm:MD:=⟨"behind_both",["rest","hand","hole","reply"],["rest","hand","hole","reply"],
  [.ret (.call 8 [(.call 8 [.bor 0,(.call 7 [.bor 1]),.bor 2]),.bor 1,.bor 3])]⟩
noncomputable def k5:MD:=⟨"has_all",["strip","other"],["strip","other"],
  [.ret (.cmp .eq (.blt .lenSetSub [.bor 1,.bor 0]) (ci 0))]⟩
noncomputable def bt:List MS:=[.ite (.call 10 [.bor 0,.bor 3])
   [.ret (.var 2)]
   []]
noncomputable def dS:MD:=⟨"least_place",["strip","rest"],["strip","rest","place","other"],
  [.forT [2,3] .enm [.bor 1] bt,
  .ret (.cst .non)]⟩
noncomputable def k7:MD:=⟨"footing",["rest","other"],["rest","other"],
  [.ret (.comp .seq [.bor 0] [1] (.cst (.bl true)) (.call 11 [.bor 0,.bor 1]))]⟩
noncomputable def jH:MD:=⟨"is_below",["rest","other"],["rest","other"],
  [.ret (.cmp .notIn (.cst .non) (.call 12 [.bor 0,.bor 1]))]⟩
noncomputable def lz:MD:=⟨"are_apart",["rests"],["rests"],
  [.ret (.call 1 [(.call 0 [(.comp .seq [.bor 0] [] (.cst (.bl true)) (.call 5 [.bor 0]))])])]⟩
noncomputable def fz:MD:=⟨"strip_weight",["strip"],["strip"],
  [.ret (.bin .shr (.glob "UNIT" (.int 1152921504606846976)) (.blt .len [.bor 0]))]⟩
noncomputable def sD:MD:=⟨"weight",["rest"],["rest"],
  [.ret (.blt .sum [(.comp .seq [.bor 0] [] (.cst (.bl true)) (.call 15 [.bor 0]))])]⟩
noncomputable def pC:List MS:=[.dput 1 (.bor 3) (.bin .add (.dget (.bor 1) (.bor 3) (ci 0)) (.call 15 [.bor 2]))]
noncomputable def pD:List MS:=[.for1 3 .seq [.bor 2] pC]
noncomputable def vP:MD:=⟨"pulls",["rest"],["rest","pull_of","strip","hole"],
  [.newD false 1,
  .for1 2 .seq [.bor 0] pD,
  .retOwn 1]⟩
noncomputable def cz:List MS:=[.ite (.or (.cmp .isN (.bor 2) (.cst .non)) (.cmp .gt (.dat (.bor 1) (.bor 3)) (.dat (.bor 1) (.bor 2))))
   [.set 2 (.var 3)]
   []]
noncomputable def nD:MD:=⟨"heaviest",["rest"],["rest","pull_of","best","hole"],
  [.set 1 (.call 17 [.bor 0]),
  .set 2 (.cst .non),
  .for1 3 .seq [(.blt .sortedKeys [.bor 1])] cz,
  .ret (.var 2)]⟩
noncomputable def iI:List MS:=[.extend 1 (.comp .seq [(.slice (.bor 0) (.bin .add (.bor 2) (ci 1)) (.cst .non))] [3] (.cst (.bl true)) (.tup [.var 1,.var 0]))]
noncomputable def pE:MD:=⟨"twos_of",["strip"],["strip","twos","place","low"],
  [.setOwn 1 (.lst []),
  .forT [2,3] .enm [.bor 0] iI,
  .retOwn 1]⟩
noncomputable def ii:List MS:=[.dput 1 (.bor 3) (.bin .add (.dget (.bor 1) (.bor 3) (ci 0)) (ci 1))]
noncomputable def ij:List MS:=[.for1 3 .seq [(.call 19 [.bor 2])] ii]
noncomputable def jn:MD:=⟨"most_shared",["rest"],["rest","count_of","strip","two"],
  [.newD true 1,
  .for1 2 .seq [.bor 0] ij,
  .ret (.blt .max1 [(.bin .add (.lst [(ci 0)]) (.blt .valuesOf [.bor 1]))])]⟩
noncomputable def nF:MD:=⟨"is_heavy",["rest"],["rest"],
  [.ret (.cmp .gt (.bin .mul (ci 4) (.call 16 [.bor 0])) (.bin .mul (.bin .mul (.glob "UNIT" (.int 1152921504606846976)) (.call 20 [.bor 0])) (.bin .fdiv (.blt .len [(.call 5 [.bor 0])]) (ci 2))))]⟩
noncomputable def cQ:MD:=⟨"weaver_weighs",["rest","turn"],["rest","turn"],
  [.ite (.cmp .eq (.bor 1) (cs "weaver"))
   [.ret (.call 21 [.bor 0])]
   [],
  .ite (.call 6 [.bor 0])
   [.ret (.cst (.bl true))]
   [],
  .ret (.and (.call 21 [.bor 0]) (.blt .all [(.comp .seq [(.call 5 [.bor 0])] [0] (.cst (.bl true)) (.call 21 [(.call 4 [.bor 1,.bor 0])]))]))]⟩
noncomputable def qM:MD:=⟨"first",["paper","rest","hand"],["paper","rest","hand","word","reply"],
  [.set 3 (ix 0 0),
  .ite (.cmp .eq (.bor 3) (cs "fewer"))
   [.ret (.call 23 [(ix 0 2),(ix 0 1),.bor 2])]
   [],
  .ite (.cmp .eq (.bor 3) (cs "weight"))
   [.set 4 (.call 18 [.bor 1]),
   .ret (.tup [.var 4,(.call 8 [.bor 1,.bor 2,.bor 4]),.var 0])]
   [],
  .ite (.or (.cmp .eq (.bor 3) (cs "bite")) (.cmp .eq (.bor 3) (cs "knot")))
   [.ret (.tup [(ix 0 1),(.call 8 [.bor 1,.bor 2,(ix 0 1)]),(ix 0 2)])]
   [],
  .ret (.tup [.cst .non,.var 1,.var 0])]⟩
noncomputable def kh:MD:=⟨"answer",["paper","rest","hand","hole"],["paper","rest","hand","hole","word","reply"],
  [.set 4 (ix 0 0),
  .ite (.cmp .eq (.bor 4) (cs "weight"))
   [.set 5 (.call 18 [(.call 8 [.bor 1,(.call 7 [.bor 2]),.bor 3])]),
   .ret (.tup [.var 5,(.call 9 [.bor 1,.bor 2,.bor 3,.bor 5]),.var 0])]
   [],
  .ite (.cmp .eq (.bor 4) (cs "pairs"))
   [.never,
   .never]
   [],
  .ite (.cmp .eq (.bor 4) (cs "cases"))
   [.ret (.call 26 [.bor 0,.bor 1,.bor 2,.bor 3])]
   [],
  .ite (.cmp .eq (.bor 4) (cs "parts"))
   [.never]
   [],
  .ite (.cmp .eq (.bor 4) (cs "fewer"))
   [.ret (.call 24 [(ix 0 2),(ix 0 1),.bor 2,.bor 3])]
   [],
  .ite (.cmp .eq (.bor 4) (cs "either"))
   [.ret (.call 27 [.bor 0,.bor 2,.bor 3])]
   [],
  .ret (.tup [.cst .non,.var 1,.var 0])]⟩
noncomputable def eZ:List MS:=[.ite (.cmp .eq (ix 2 0) (.bor 1))
   [.ret (.var 2)]
   []]
noncomputable def nG:MD:=⟨"row_with",["rows","hole"],["rows","hole","row"],
  [.for1 2 .seq [.bor 0] eZ,
  .ret (.cst .non)]⟩
noncomputable def fP:MD:=⟨"answer_by_cases",["paper","rest","hand","hole"],["paper","rest","hand","hole","row"],
  [.set 4 (.call 25 [(ix 0 1),.bor 3]),
  .ite (.and (.cmp .isN (.bor 4) (.cst .non)) (.cmp .eq (.bor 2) (cs "moth")))
   [.never]
   [],
  .ite (.cmp .isN (.bor 4) (.cst .non))
   [.set 4 (.idx (ix 0 1) (ci 0))]
   [],
  .ret (.tup [(ix 4 1),(.call 9 [.bor 1,.bor 2,(ix 4 0),(ix 4 1)]),(ix 4 2)])]⟩
noncomputable def fC:MD:=⟨"answer_by_either",["paper","hand","hole"],["paper","hand","hole"],
  [.ite (.cmp .isIn (.bor 2) (.call 5 [(ix 0 1)]))
   [.ret (.call 23 [(ix 0 4),(ix 0 3),.bor 1])]
   [],
  .ret (.call 23 [(ix 0 2),(ix 0 1),.bor 1])]⟩
noncomputable def bK:MD:=⟨"knots_needed",["paper","rest"],["paper","rest","word","rows"],
  [.set 2 (ix 0 0),
  .ite (.cmp .eq (.bor 2) (cs "weight"))
   [.ret (.blt .len [(.call 5 [.bor 1])])]
   [],
  .ite (.cmp .eq (.bor 2) (cs "knot"))
   [.ret (.bin .add (ci 1) (.call 28 [(ix 0 2),(.call 8 [.bor 1,(cs "weaver"),(ix 0 1)])]))]
   [],
  .ite (.cmp .eq (.bor 2) (cs "fewer"))
   [.ret (.call 28 [(ix 0 2),(ix 0 1)])]
   [],
  .ite (.cmp .eq (.bor 2) (cs "cases"))
   [.set 3 (.comp .seq [(ix 0 1)] [1] (.cst (.bl true)) (.tup [(ix 0 2),(.call 9 [.bor 1,(cs "weaver"),(ix 0 0),(ix 0 1)])])),
   .ret (.bin .add (ci 1) (.blt .max1 [(.comp .seq [.bor 3] [] (.cst (.bl true)) (.call 28 [(ix 0 0),(ix 0 1)]))]))]
   [],
  .ite (.cmp .eq (.bor 2) (cs "either"))
   [.ret (.blt .max2 [(.call 28 [(ix 0 2),(ix 0 1)]),(.call 28 [(ix 0 4),(ix 0 3)])])]
   [],
  .ret (ci 0)]⟩
noncomputable def Ao:MD:=⟨"good",["paper","rest","turn","hand"],["paper","rest","turn","hand"],
  [.ite (.cmp .eq (.bor 3) (cs "moth"))
   [.never]
   [],
  .ret (.call 30 [.bor 0,.bor 1,.bor 2])]⟩
noncomputable def aK:MD:=⟨"good_for_weaver",["paper","rest","turn"],["paper","rest","turn","word"],
  [.set 3 (ix 0 0),
  .ite (.cmp .eq (.bor 3) (cs "whole"))
   [.ret (.call 6 [.bor 1])]
   [],
  .ite (.cmp .eq (.bor 3) (cs "weight"))
   [.ret (.call 22 [.bor 1,.bor 2])]
   [],
  .ite (.cmp .eq (.bor 3) (cs "fewer"))
   [.ret (.and (.call 13 [(ix 0 1),.bor 1]) (.call 29 [(ix 0 2),(ix 0 1),.bor 2,(cs "weaver")]))]
   [],
  .ite (.cmp .eq (.bor 2) (cs "weaver"))
   [.ret (.and (.cmp .eq (.bor 3) (cs "knot")) (.call 31 [.bor 0,.bor 1,(cs "weaver")]))]
   [],
  .ite (.cmp .eq (.bor 3) (cs "cases"))
   [.ret (.and (.cmp .gt (.blt .len [(.call 5 [.bor 1])]) (ci 0)) (.call 32 [(ix 0 1),.bor 1,(cs "weaver")]))]
   [],
  .ite (.cmp .eq (.bor 3) (cs "either"))
   [.ret (.call 33 [.bor 0,.bor 1])]
   [],
  .ret (.cst (.bl false))]⟩
noncomputable def iJ:MD:=⟨"move_is_good",["paper","rest","hand"],["paper","rest","hand"],
  [.ret (.call 29 [(ix 0 2),(.call 8 [.bor 1,.bor 2,(ix 0 1)]),(.call 7 [.bor 2]),.bor 2])]⟩
noncomputable def aI:List MS:=[.ite (.not (.call 29 [.bor 5,(.call 9 [.bor 1,.bor 2,.bor 3,.bor 4]),(.call 7 [.bor 2]),.bor 2]))
   [.ret (.cst (.bl false))]
   []]
noncomputable def gF:MD:=⟨"cases_are_good",["rows","rest","hand"],["rows","rest","hand","hole","reply","paper"],
  [.ite (.cmp .ne (.comp .seq [.bor 0] [] (.cst (.bl true)) (ix 0 0)) (.call 5 [.bor 1]))
   [.ret (.cst (.bl false))]
   [],
  .forT [3,4,5] .seq [.bor 0] aI,
  .ret (.cst (.bl true))]⟩
noncomputable def gG:MD:=⟨"either_is_good",["paper","rest"],["paper","rest","one","two"],
  [.set 2 (ix 0 1),
  .set 3 (ix 0 3),
  .ite (.or (.not (.call 14 [(.lst [.var 2,.var 3])])) (.or (.not (.call 13 [.bor 2,.bor 1])) (.not (.call 13 [.bor 3,.bor 1]))))
   [.ret (.cst (.bl false))]
   [],
  .ret (.and (.call 29 [(ix 0 2),.bor 2,(cs "weaver"),(cs "weaver")]) (.call 29 [(ix 0 4),.bor 3,(cs "weaver"),(cs "weaver")]))]⟩
noncomputable def jI:MD:=⟨"_law_cell",["script","k"],["script","k"],
  [.ite (.cmp .lt (.bor 1) (.blt .len [.bor 0]))
   [.ret (.idx (.bor 0) (.bor 1))]
   [],
  .ret (ci 0)]⟩
noncomputable def iK:MD:=⟨"_law_mixed",["cell","by"],["cell","by"],
  [.ret (.bin .mod (.bin .mul (.bin .mod (.bor 0) (ci 2305843009213693951)) (.bor 1)) (ci 2305843009213693951))]⟩
noncomputable def fY:MD:=⟨"_law_knotted",["rest","hole"],["rest","hole"],
  [.ret (.blt .tupleOf [(.blt .sorted [(.comp .seq [.bor 0] [1] (.cst (.bl true)) (.blt .tupleOf [(.comp .seq [.bor 0] [1] (.cmp .ne (.bor 0) (.bor 1)) (.var 0))]))])])]⟩
noncomputable def hW:MD:=⟨"_law_bitten",["rest","hole"],["rest","hole"],
  [.ret (.blt .tupleOf [(.comp .seq [.bor 0] [1] (.cmp .notIn (.bor 1) (.bor 0)) (.var 0))])]⟩
noncomputable def cK:List MS:=[.ite (.cmp .notIn (.bor 3) (.bor 1))
   [.append 1 (.var 3)]
   []]
noncomputable def dU:List MS:=[.for1 3 .seq [.bor 2] cK]
noncomputable def iL:MD:=⟨"_law_holes",["rest"],["rest","found","strip","hole"],
  [.setOwn 1 (.lst []),
  .for1 2 .seq [.bor 0] dU,
  .ret (.blt .sorted [.bor 1])]⟩
noncomputable def d9:List MS:=[.set 4 (.blt .sum [(.comp .seq [.bor 0] [3] (.cmp .isIn (.bor 1) (.bor 0)) (.bin .shr (.bin .pow (ci 2) (ci 60)) (.blt .len [.bor 0])))]),
  .ite (.cmp .gt (.bor 4) (.bor 2))
   [.set 2 (.var 4),
   .set 1 (.var 3)]
   []]
noncomputable def pF:MD:=⟨"_law_top",["rest"],["rest","best","most","hole","pulled"],
  [.set 1 (.cst .non),
  .set 2 (ci 0),
  .for1 3 .seq [(.call 38 [.bor 0])] d9,
  .ret (.var 1)]⟩
noncomputable def cM:List MS:=[.ite (.cmp .eq (.bor 1) (cs "weaver"))
   [.set 4 (.call 40 [(.call 36 [.bor 0,.bor 3]),(cs "moth")])]
   [.set 4 (.call 40 [(.call 37 [.bor 0,.bor 3]),(cs "weaver")])],
  .ite (.cmp .eq (ix 4 0) (.bor 1))
   [.ret (.tup [.var 1,(.tup [(.disp [("weaver","knot"),("moth","bite")] (.bor 1)),.var 3,(ix 4 1)])])]
   [],
  .append 2 (.tup [.var 3,(.idx (ix 4 1) (ci 1)),(.idx (ix 4 1) (ci 2))])]
noncomputable def d_:MD:=⟨"_law_tried",["rest","turn"],["rest","turn","rows","hole","found"],
  [.ite (.cmp .isIn (.tup []) (.bor 0))
   [.ret (.tup [(cs "weaver"),(.tup [(cs "whole")])])]
   [],
  .ite (.cmp .eq (.blt .len [.bor 0]) (ci 0))
   [.ret (.tup [(cs "moth"),(.tup [(cs "bare")])])]
   [],
  .setOwn 2 (.lst []),
  .for1 3 .seq [(.call 38 [.bor 0])] cM,
  .ret (.tup [(.disp [("weaver","moth"),("moth","weaver")] (.bor 1)),(.tup [(cs "cases"),(.blt .tupleOf [.bor 2])])])]⟩
noncomputable def bx:List MS:=[.set 10 (.bin .add (.bin .add (.bor 1) (.idx (.lst [(ci 0),(ci 4),(ci 8),(ci 0)]) (.bor 5))) (.bin .mod (.bor 4) (.bor 7))),
  .ite (.cmp .notIn (.bor 10) (.bor 8))
   [.append 8 (.var 10)]
   [],
  .set 4 (.bin .fdiv (.bor 4) (.bor 7))]
noncomputable def fQ:MD:=⟨"_law_block_strip",["cell","base","blocks","least"],["cell","base","blocks","least","left","block","size","many","strip","k","hole"],
  [.set 4 (.call 35 [.bor 0,(ci 1181783497276652981)]),
  .set 5 (.bin .mod (.bor 4) (.bor 2)),
  .set 4 (.bin .fdiv (.bor 4) (.bor 2)),
  .set 6 (.bin .add (.bor 3) (.bin .mod (.bor 4) (ci 3))),
  .set 4 (.bin .fdiv (.bor 4) (ci 3)),
  .set 7 (.idx (.lst [(ci 4),(ci 4),(ci 4),(ci 12)]) (.bor 5)),
  .setOwn 8 (.lst []),
  .for1 9 .rng [.bor 6] bx,
  .ret (.blt .tupleOf [(.blt .sorted [.bor 8])])]⟩
noncomputable def hZ:MD:=⟨"_law_next",["tape"],["tape"],
  [.ite (.cmp .gt (.lenP 0) (ci 0))
   [.retXE (.fn 35 (.pop 0) [(ci 2049848353892358983)])]
   [],
  .retM (ci 0)]⟩
noncomputable def nH:MD:=⟨"_law_deed",["rest","hand","reply"],["rest","hand","reply"],
  [.ite (.cmp .isN (.bor 2) (.cst .non))
   [.ret (.var 0)]
   [],
  .ite (.cmp .eq (.bor 1) (cs "moth"))
   [.ret (.call 37 [.bor 0,.bor 2])]
   [],
  .ret (.call 36 [.bor 0,.bor 2])]⟩
noncomputable def eA:MD:=⟨"_law_reply",["rest","pick"],["rest","pick"],
  [.ite (.cmp .eq (.bin .mod (.bor 1) (ci 8)) (ci 0))
   [.ret (.cst .non)]
   [],
  .ite (.cmp .eq (.bin .mod (.bor 1) (ci 8)) (ci 1))
   [.ret (.bin .mod (.bin .fdiv (.bor 1) (ci 8)) (ci 60))]
   [],
  .ret (.call 39 [.bor 0])]⟩
noncomputable def dW:List MS:=[.ite (.blt .any [(.comp .seq [.bor 5] [2] (.cst (.bl true)) (.blt .any [(.comp .seq [.bor 0] [1] (.cst (.bl true)) (.cmp .isIn (.bor 0) (.bor 1)))]))])
   [.set 3 (.bin .add (.bor 3) (.bor 5))]
   [.append 4 (.var 5)]]
noncomputable def dX:List MS:=[.set 3 (.lst []),
  .setOwn 4 (.lst []),
  .for1 5 .seq [.bor 1] dW,
  .set 1 (.bin .add (.bor 4) (.lst [(.bin .add (.bor 3) (.lst [.var 2]))]))]
noncomputable def lB:MD:=⟨"_law_split",["rest"],["rest","parts","strip","near","far","part"],
  [.set 1 (.lst []),
  .for1 2 .seq [.bor 0] dX,
  .ret (.comp .seq [.bor 1] [] (.cst (.bl true)) (.blt .tupleOf [(.blt .sorted [.bor 0])]))]⟩
noncomputable def lC:MD:=⟨"_law_plain",["rest","turn","hand","pick"],["rest","turn","hand","pick"],
  [.ite (.cmp .eq (.bor 2) (cs "weaver"))
   [.ret (.idx (.lst [(.tup [(cs "weight")]),(.tup [(cs "whole")])]) (.blt .intOf [(.cmp .isIn (.tup []) (.bor 0))]))]
   [],
  .ite (.cmp .eq (.blt .len [.bor 0]) (ci 0))
   [.never]
   [],
  .ite (.and (.cmp .eq (.bor 1) (cs "weaver")) (.cmp .eq (.bin .mod (.bor 3) (ci 2)) (ci 0)))
   [.never]
   [],
  .never]⟩
noncomputable def fZ:List MS:=[.set 6 (.call 43 [.bor 1,.bor 4,.bor 5]),
  .setX 7 (.fn2 44 (.var 6) (.call 42 [true] [.bor 0])),
  .appX 3 (.tup [(.pure (.var 5)),(.pure (.var 7)),(.call 49 [true,false,false,false,false] [.bor 0,(.call 43 [.bor 6,.bor 2,.bor 7]),.bor 4,.bor 2,(ci 0)])])]
noncomputable def iM:MD:=⟨"_law_cases",["tape","rest","hand"],["tape","rest","hand","rows","other","hole","behind_v","reply"],
  [.setOwn 3 (.lst []),
  .set 4 (.disp [("weaver","moth"),("moth","weaver")] (.bor 2)),
  .for1 5 .seq [(.call 38 [.bor 1])] fZ,
  .retM (.tup [(cs "cases"),(.blt .tupleOf [.bor 3])])]⟩
noncomputable def eP:MD:=⟨"_law_of_weaver",["tape","rest","turn","pick","deep"],["tape","rest","turn","pick","deep","some","reply","parts","one","two","left"],
  [.ite (.cmp .eq (.bin .mod (.bor 3) (ci 3)) (ci 0))
   [.set 5 (.blt .tupleOf [(.comp .rng [(.blt .len [.bor 1])] [1,3] (.cmp .gt (.bin .mod (.bin .shr (.bor 2) (.bin .add (.bor 0) (ci 8))) (ci 4)) (ci 0)) (.idx (.bor 1) (.bor 0)))]),
   .retXE (.tup [(.pure (cs "fewer")),(.pure (.var 5)),(.call 49 [true,false,false,false,false] [.bor 0,.bor 5,.bor 2,(cs "weaver"),.bor 4])])]
   [],
  .ite (.cmp .eq (.bor 2) (cs "weaver"))
   [.set 6 (.call 44 [.bor 1,(.bin .fdiv (.bor 3) (ci 3))]),
   .retXE (.tup [(.pure (cs "knot")),(.pure (.var 6)),(.call 49 [true,false,false,false,false] [.bor 0,(.call 43 [.bor 1,(cs "weaver"),.bor 6]),(cs "moth"),(cs "weaver"),.bor 4])])]
   [],
  .ite (.and (.cmp .eq (.bin .mod (.bor 3) (ci 3)) (ci 1)) (.cmp .lt (.blt .len [(.call 38 [.bor 1])]) (ci 5)))
   [.retXE (.call 47 [true,false,false] [.bor 0,.bor 1,(cs "weaver")])]
   [],
  .set 7 (.call 45 [.bor 1]),
  .ite (.cmp .lt (.blt .len [.bor 7]) (ci 2))
   [.retM (.tup [(cs "weight")])]
   [],
  .set 8 (.idx (.bor 7) (.bin .mod (.bin .fdiv (.bor 3) (ci 3)) (.blt .len [.bor 7]))),
  .set 9 (.idx (.bor 7) (.bin .mod (.bin .add (.bin .fdiv (.bor 3) (ci 3)) (ci 1)) (.blt .len [.bor 7]))),
  .setX 10 (.call 49 [true,false,false,false,false] [.bor 0,.bor 8,(cs "weaver"),(cs "weaver"),.bor 4]),
  .retXE (.tup [(.pure (cs "either")),(.pure (.var 8)),(.pure (.var 10)),(.pure (.var 9)),(.call 49 [true,false,false,false,false] [.bor 0,.bor 9,(cs "weaver"),(cs "weaver"),.bor 4])])]⟩
noncomputable def fR:MD:=⟨"_law_paper",["tape","rest","turn","hand","deep"],["tape","rest","turn","hand","deep","pick","found"],
  [.setX 5 (.call 42 [true] [.bor 0]),
  .ite (.and (.cmp .eq (.bin .mod (.bor 5) (ci 2)) (ci 0)) (.cmp .lt (.blt .len [(.call 38 [.bor 1])]) (ci 5)))
   [.set 6 (.call 40 [.bor 1,.bor 2]),
   .ite (.cmp .eq (ix 6 0) (.bor 3))
    [.retM (ix 6 1)]
    []]
   [],
  .ite (.or (.cmp .eq (.bor 4) (ci 0)) (.cmp .eq (.bin .mod (.bin .fdiv (.bor 5) (ci 2)) (ci 8)) (ci 0)))
   [.retM (.call 46 [.bor 1,.bor 2,.bor 3,(.bin .fdiv (.bor 5) (ci 16))])]
   [],
  .ite (.cmp .eq (.bor 3) (cs "moth"))
   [.never]
   [],
  .retXE (.call 48 [true,false,false,false,false] [.bor 0,.bor 1,.bor 2,(.bin .fdiv (.bor 5) (ci 16)),(.bin .sub (.bor 4) (ci 1))])]⟩
noncomputable def dv:List MS:=[.ite (.cmp .lt (.blt .len [(.call 38 [.bor 13])]) (ci 5))
   [.set 14 (.call 40 [.bor 13,.bor 1]),
   .ite (.and (.cmp .eq (ix 14 0) (.bor 2)) (.cmp .eq (.bor 2) (cs "weaver")))
    [.append 10 (.tup [.var 8,(.tup [(cs "fewer"),.var 13,(ix 14 1)])])]
    [],
   .ite (.cmp .eq (ix 14 0) (.bor 2))
    [.append 10 (.tup [.var 13,(ix 14 1)])]
    [],
   .ite (.cmp .eq (.idx (.call 40 [.bor 13,(cs "weaver")]) (ci 0)) (cs "moth"))
    [.append 11 (.tup [.var 13,(.idx (.call 40 [.bor 13,(cs "weaver")]) (ci 1))]),
    .set 12 (.bin .add (.bor 12) (.blt .listOf [.bor 13]))]
    []]
   []]
noncomputable def e_:MD:=⟨"_law_stands",["script","turn","hand"],["script","turn","hand","way","by","room","cells","strips","rest","tape","found","rows","held","part","known","parts","longer"],
  [.set 3 (.call 35 [(.call 34 [.bor 0,(ci 0)]),(ci 1865811235122147685)]),
  .set 4 (.call 35 [(.call 34 [.bor 0,(ci 1)]),(ci 1442695040888963407)]),
  .set 5 (.idx (.lst [(ci 3),(ci 8)]) (.bin .mod (.bor 3) (ci 2))),
  .set 6 (.slice (.bor 0) (ci 2) (.bin .add (ci 2) (.bor 5))),
  .set 7 (.comp .seq [.bor 6] [4] (.cst (.bl true)) (.call 41 [.bor 0,(.bin .mod (.bor 1) (ci 49)),(.bin .add (ci 3) (.bin .mod (.bin .fdiv (.bor 1) (ci 49)) (ci 2))),(.bin .mod (.bin .fdiv (.bor 1) (ci 98)) (ci 3))])),
  .set 8 (.blt .tupleOf [(.blt .sorted [.bor 7])]),
  .setP 9 (.slice (.bor 0) (.bin .add (ci 2) (.bor 5)) (.cst .non)),
  .ownX 10 [(.tup [(.pure (.var 8)),(.call 49 [true,false,false,false,false] [.bor 9,.bor 8,.bor 1,.bor 2,(ci 3)])])],
  .setOwn 11 (.lst []),
  .set 12 (.lst []),
  .for1 13 .seq [(.call 45 [.bor 8])] dv,
  .set 15 (.tup [(cs "parts"),(.blt .tupleOf [.bor 11])]),
  .ite (.and (.cmp .eq (.bor 2) (cs "moth")) (.cmp .eq (.bor 1) (cs "moth")))
   [.never]
   [],
  .ite (.cmp .eq (.bor 2) (cs "moth"))
   [.never]
   [],
  .ite (.and (.cmp .eq (.bor 2) (cs "moth")) (.cmp .gt (.blt .len [.bor 12]) (ci 0)))
   [.never,
   .never]
   [],
  .retOwn 10]⟩
noncomputable def kj:MD:=⟨"_law_chosen",["holes","taken","pick","far"],["holes","taken","pick","far"],
  [.ite (.and (.bor 3) (.and (.cmp .eq (.bin .mod (.bor 2) (ci 4)) (ci 0)) (.cmp .notIn (.bin .mod (.bin .fdiv (.bor 2) (ci 4)) (ci 60)) (.bor 1))))
   [.ret (.bin .mod (.bin .fdiv (.bor 2) (ci 4)) (ci 60))]
   [],
  .ret (.idx (.bor 0) (.bin .mod (.bin .fdiv (.bor 2) (ci 4)) (.blt .len [.bor 0])))]⟩
noncomputable def nI:MD:=⟨"_law_free",["reply","taken"],["reply","taken"],
  [.ite (.and (.cmp .notN (.bor 0) (.cst .non)) (.cmp .notIn (.bor 0) (.bor 1)))
   [.ret (.var 0)]
   [],
  .ret (.blt .min1 [(.comp .rng [(ci 60)] [1] (.cmp .notIn (.bor 0) (.bor 1)) (.var 0))])]⟩
noncomputable def eC:List MS:=[.set 9 (.call 38 [.bor 3]),
  .ite (.and (.cmp .notIn (.tup []) (.bor 3)) (.cmp .gt (.blt .len [.bor 9]) (ci 0)))
   [.set 10 (.call 51 [.bor 9,.bor 5,(.call 35 [(.call 34 [.bor 0,(.bin .add (ci 10) (.bor 8))]),(ci 1283712873162387911)]),(.cmp .lt (.bor 8) (ci 4))]),
   .append 5 (.var 10),
   .set 3 (.call 37 [.bor 3,.bor 10]),
   .set 4 (.call 24 [(ix 4 2),(ix 4 1),(cs "weaver"),.bor 10]),
   .set 11 (.call 52 [(ix 4 0),.bor 5]),
   .append 5 (.var 11),
   .set 3 (.call 36 [.bor 3,.bor 11]),
   .set 6 (.bin .add (.bor 6) (ci 1))]
   []]
noncomputable def pH:MD:=⟨"_law_won",["script","stand","turn"],["script","stand","turn","true","kept","taken","knots","needed","k","holes","hole","reply"],
  [.set 3 (ix 1 0),
  .set 4 (.tup [.cst .non,(ix 1 0),(ix 1 1)]),
  .setOwn 5 (.lst []),
  .set 6 (ci 0),
  .set 7 (.call 28 [(ix 1 1),(ix 1 0)]),
  .ite (.and (.cmp .eq (.bor 2) (cs "weaver")) (.cmp .notIn (.tup []) (.bor 3)))
   [.set 4 (.call 23 [(ix 1 1),(ix 1 0),(cs "weaver")]),
   .append 5 (.call 52 [(ix 4 0),.bor 5]),
   .set 3 (.call 36 [.bor 3,(ix 5 0)]),
   .set 6 (ci 1)]
   [],
  .for1 8 .rng [(ci 13)] eC,
  .ret (.and (.cmp .isIn (.tup []) (.bor 3)) (.cmp .le (.bor 6) (.bor 7)))]⟩
noncomputable def qN:List MS:=[.ite (.call 29 [(.idx (.idx (.bor 3) (.bor 4)) (ci 1)),(.idx (.idx (.bor 3) (.bor 4)) (ci 0)),.bor 2,(cs "weaver")])
   [.ite (.not (.call 53 [.bor 0,(.idx (.bor 3) (.bor 4)),.bor 2]))
    [.ret (.cst (.bl false))]
    []]
   []]
noncomputable def vQ:MD:=⟨"law",["script"],["script","pick","turn","stands","at"],
  [.set 1 (.call 35 [(.call 34 [.bor 0,(ci 0)]),(ci 2049848353892358983)]),
  .set 2 (.idx (.lst [(cs "moth"),(cs "weaver")]) (.bin .mod (.bor 1) (ci 2))),
  .set 3 (.call 50 [.bor 0,.bor 2,(cs "weaver")]),
  .for1 4 .seq [(.lst [(ci 0),(.bin .sub (.blt .len [.bor 3]) (ci 1)),(.bin .mod (.bin .fdiv (.bor 1) (ci 2)) (.blt .len [.bor 3]))])] qN,
  .ret (.cst (.bl true))]⟩
noncomputable def defs:List MD:=[kf,iH,eO,k4,sC,jG,nB,hV,kg,jm,k5,dS,k7,jH,lz,fz,sD,vP,nD,pE,jn,nF,cQ,qM,kh,nG,fP,fC,bK,Ao,aK,iJ,gF,gG,jI,iK,fY,hW,iL,pF,d_,fQ,hZ,nH,eA,lB,lC,iM,eP,fR,e_,kj,nI,pH,vQ]
noncomputable def tab:Tab:=⟨defs.map (·.name),[("UNIT",(.int 1152921504606846976))],[[],[],[],[],[],[],[],[],[],[],[],[],[],[],[],[],[],[],[],[],[],[],[],[],[],[],[],[],[],[],[],[],[],[],[],[],[],[],[],[],[],[],[],[],[],[],[],[],[],[],[],[],[],[],[]]⟩
noncomputable def cellOf(ns:List Int)(k:Int):Int:=ns.getD k.toNat 0
def Ap(n:Nat)(m:MV)(ns:List Int)(k:Int)(z:bv (some m)=some (ofL ns))(J:0<=k):ab defs (n+1) 34 [m,.val (.int k)]=some (.int (cellOf ns k)):=by
 rw[ae (d:=jI) rfl rfl];unfold cellOf;simp[jI,exs,ex,ev,evs,evB,z];by_cases h:k<(ns.length:Int)
 .have h2:k.toNat<ns.length:=by omega
  simp[h,gE J h,h2]
 .have h2:ns.length<=k.toNat:=by omega
  simp[h,h2]
noncomputable def fT(c b:Int):Int:=c % 2305843009213693951*b % 2305843009213693951
def fb(c b):0<=fT c b:=Kw _ (by decide)
def mj(n:Nat)(c b:Int):ab defs (n+1) 35 [.val (.int c),.val (.int b)]=some (.int (fT c b)):=by
 rw[ae (d:=iK) rfl rfl];have h1:0<=c % 2305843009213693951:=Kw _ (by decide);have h2:c % 2305843009213693951<2305843009213693951:=Kp _ (by decide);have z:(-18446744073709551616<c % 2305843009213693951/\c % 2305843009213693951<18446744073709551616\/-18446744073709551616<b/\b<18446744073709551616):=.inl ⟨by omega,by omega⟩;simp[iK,exs,ex,ev,evs,z,fT]
noncomputable def iq(z:List Int)(h:Int):List Int:=if h∈z then z else z++[h]
noncomputable def km(R:LL):List Int:=R.foldl (λacc z=>z.foldl iq acc) []
noncomputable def aa(R:LL):List Int:=sortI (km R)
def vR(J:acc.Nodup):(iq acc h).Nodup/\∀x,x∈iq acc h ↔ x∈acc\/x=h:=by
 unfold iq;by_cases q:h∈acc
 .simp_all
 .rw[if_neg q];refine⟨LQ.mpr ⟨J,by simp,λx hx y U=>by rw[JY.mp U];exact λz=>q (z▸hx)⟩,λx=>?_⟩
  simp_all
theorem nJ:∀(J z:List Int),z.Nodup->(J.foldl iq z).Nodup/\∀x,x∈J.foldl iq z ↔ x∈z\/x∈J
 | [],z,U=>⟨U,λx=>by simp⟩
 |t::J,z,U=>by
  obtain⟨h1,h2⟩:=vR (h:=t) U;obtain⟨Y,Z⟩:=nJ J (iq z t) h1;refine⟨Y,λx=>?_⟩;rw[foldl_cons,Z,h2,tf,_root_.or_assoc]
theorem gH:∀(R:LL) z,z.Nodup->(R.foldl (λz J=>J.foldl iq z) z).Nodup/\∀x,x∈R.foldl (λz J=>J.foldl iq z) z ↔ x∈z\/∃J∈R,x∈J
 | [],z,U=>⟨U,λx=>by simp⟩
 |t::J,z,U=>by
  obtain⟨h1,h2⟩:=nJ t z U;obtain⟨Y,Z⟩:=gH J (t.foldl iq z) h1;refine⟨Y,λx=>?_⟩;rw[foldl_cons,Z,h2];simp[_root_.or_assoc]
def ay{R:LL} :x∈aa R ↔ ∃z∈R,x∈z:=by
 unfold aa;rw[kZ];have:=(gH R [] K5).2 x;unfold km;rw[this];simp
def cU(R):(aa R).Pairwise (· < ·):=sA (gH R [] K5).1
def bm{R:LL}(g:∀z∈R,cm z):cm (aa R):=⟨cU R,λh J=>by
 obtain⟨z,h1,h2⟩:=ay.mp J;exact(g z h1).2 h h2⟩
def xm{R:LL}(g:∀z∈R,cm z):(km R).length<=60:=by
 have:=aL (bm g);unfold aa at this;rw[sortI_len]at this;exact this
def CN{R:LL}{z:List Int}(J:z.Nodup)(h:∀x∈z,0<=x/\x<=59):z.length<=60:=nA 60 z J λx hx=>by have:=h x hx;omega
theorem lD(cal)(a s):∀(U J:List Int) (kk:Option MV),J.Nodup->(∀x∈J,0<=x/\x<=59)->(∀x∈U,0<=x/\x<=59) ->
  ∃Y,aw (λx l=>exs cal cK (put l 3 (.val x))) (U.map .int) [some a,some (.own (J.map .int)),some s,kk]=.next [some a,some (.own ((U.foldl iq J).map .int)),some s,Y]
 | [],J,kk,_,_,_=>⟨kk,rfl⟩
 |t::U,J,kk,h1,h2,Z=>by
  rw[JO,aw];have hl:J.length<10000:=by have:=CN (R:=[]) h1 h2;omega
  have e:exs cal cK (put [some a,some (.own (J.map .int)),some s,kk] 3 (.val (.int t)))=.next [some a,some (.own ((iq J t).map .int)),some s,sv (.int t)]:=by
   by_cases q:t∈J
   .simp[cK,exs,ex,ev,evB,bH,iq,q]
   .simp[cK,exs,ex,ev,evB,bH,iq,q,hl]
  rw[e];obtain⟨q1,q2⟩:=vR (h:=t) h1;exact lD cal a s U (iq J t) _ q1 (λx hx=>((q2 x).mp hx).elim (h2 x) λz=>z▸Z t (.head _)) λx hx=>Z x (.tail _ hx)
theorem nK(cal)(a):∀(R:LL) (J:List Int) (s kk:Option MV),J.Nodup->(∀x∈J,0<=x/\x<=59)->(∀U∈R,∀x∈U,0<=x/\x<=59) ->
  ∃s' Y,aw (λx l=>exs cal dU (put l 2 (.val x))) (R.map ofS) [some a,some (.own (J.map .int)),s,kk]=.next [some a,some (.own ((R.foldl (λJ U=>U.foldl iq J) J).map .int)),s',Y]
 | [],J,s,kk,_,_,_=>⟨s,kk,rfl⟩
 |t::R,J,s,kk,h1,h2,Z=>by
  rw[JO,aw];obtain⟨k',e2⟩:=lD cal a (.val (ofS t)) t J kk h1 h2 (Z t (.head _));have e:exs cal dU (put [some a,some (.own (J.map .int)),s,kk] 2 (.val (ofS t)))=.next [some a,some (.own ((t.foldl iq J).map .int)),sv (ofS t),k']:=by
   simp[dU,exs,ex,ev,evs,bL,e2,aP]
  rw[e];obtain⟨q1,q2⟩:=nJ t J h1;exact nK cal a R _ _ _ q1 (λx hx=>((q2 x).mp hx).elim (h2 x) λz=>Z t (.head _) x z) λU ao=>Z U (.tail _ ao)
def i6(n:Nat)(R:LL)(g:∀z∈R,cm z):ab defs (n+1) 38 [.val (ofR R)]=some (ofL (aa R)):=by
 rw[ae (d:=iL) rfl rfl];obtain⟨s',Z,e⟩:=nK (ab defs n) (.val (ofR R)) R [] none none K5 (λx h=>by cases h) λz J=>(g z J).2
 have U:(km R).length<64:=by have:=xm g;omega
 simp only[map_nil]at e;have Y:R.foldl (λacc z=>z.foldl iq acc) []=km R:=rfl;rw[Y]at e;simp[iL,exs,ex,ev,evs,bL,e,aP,pB U,aa]
def dY(h:(evs cal src W).bind (bj k)=some xs):ex cal (.for1 i k src body) W=(aw (λx l=>exs cal body (put l i (.val x))) xs (bL src W)).back src W:=by
 rw[ex,h]
def vS(h:(evs cal src W).bind (bj k)=some xs):ex cal (.forT is k src body) W=(aw (λx l=>cG (d7 is x l) λz=>exs cal body z) xs (bL src W)).back src W:=by
 rw[ex,h]
def au(cal)(m)(ms)(W):exs cal (m::ms) W=(ex cal m W).andThen λl=>exs cal ms l:=rfl
def aS(h:ev cal e W=some v):ev cal (.blt b [e]) W=av b [v]:=by
 rw[ev,evs,h,bind_some,evs,map_some,bind_some]
def iN(h:ev cal e W=some v):ex cal (.set i e) W=.next (put W i (.val v)):=by
 rw[ex,h];rfl
def cV(h:ev cal a W=some (.bl p))(h':p=true->ev cal b W=some (.bl q)):ev cal (.and a b) W=some (.bl (p&&q)):=by
 rw[ev,h];cases p<;>first|rfl|simp[h' rfl]
def eQ(h:ev cal e W=some v):ex cal (.ret e) W=.ret v:=by
 rw[ex,h];rfl
def ac(h:evA cal es W=some vs)(h':cal f vs=some v):ev cal (.call f es) W=some v:=by
 rw[ev,h,bind_some,h']
def dG(h:ev cal e W=some (.lst xs)):ex cal (.setOwn i e) W=.next (put W i (.own xs)):=by
 rw[ex,h];rfl
def dw{α:Type}{xs:List α}{g h:α->PV}(h1:evs cal src W=some vs)(h2:bj k vs=some (xs.map g))(z:xs.length<=10000)
  (J:∀x∈xs,ev cal elt (cv js W (g x))=some (h x)):ev cal (.comp k src js (.cst (.bl true)) elt) W=some (.lst (xs.map h)):=by
 rw[ev,h1,bind_some,h2,bind_some,if_pos (by simpa using z),g9 (h:=h) (λx _=>by simp[ev]) J]
 rfl
def dy(cal)(v)(W):ev cal (.cst v) W=some v:=rfl
def bW(h:ev cal a W=some x)(h':ev cal b W=some y):ev cal (.bin op a b) W=fm op x y:=by
 rw[ev,h,bind_some,h',bind_some]
def cw(h:ev cal a W=some x)(h':ev cal b W=some y):ev cal (.cmp op a b) W=(cu op x y).map .bl:=by
 rw[ev,h,bind_some,h',bind_some]
def iO(h:ev cal a W=some (.int x))(z:0<k):ev cal (.cmp .eq (.bin .mod a (ci k)) (ci j)) W=some (.bl (x % k==j)):=by
 rw[cw (bW h (dy _ _ _) |>.trans (by rw[mh,if_pos z])) (dy _ _ _),z7,mf]
 rfl
def vT(h:ev cal a W=some (.int x))(z:0<k/\k<1073741824):ev cal (.bin .fdiv a (ci k)) W=some (.int (x / k)):=by
 rw[bW h (dy _ _ _),z6,if_pos z]
def uL(h:ev cal a W=some (.bl b)):evB cal a W=some b:=by simp_all [evB]
def vU(z:∀i,e≠.bor i)(h:ev cal e W=some v):evA cal [e] W=some [.val v]:=by simp_all [evA]
def sE(z:∀i,e≠.bor i)(h:ev cal e W=some v)(h':cal f [.val v]=some r):ev cal (.call f [e]) W=some r:=ac (vU z h) h'
def eR(h:ev cal a W=some x)(h':ev cal i W=some y):ev cal (.idx a i) W=gp x y:=by
 rw[ev,h,bind_some,h',bind_some]
def uM(h:body x W=.next z):aw body (x::xs) W=aw body xs z:=by rw[aw,h]
def aM(h:ev cal e W=some v)(k:bc (exs cal ms (put W i (.val v)))=X):bc (exs cal (.set i e::ms) W)=X:=by simp_all [au,iN]
def eT(h:ex cal m W=.next l)(k:bc (exs cal ms l)=X):bc (exs cal (m::ms) W)=X:=by simp_all [au]
def gI(h:ev cal e W=some v):bc (exs cal (.ret e::ms) W)=some v:=by
 rw[au,eQ h];rfl
def bN(h:ev cal e W=some v)(k:exs cal ms (put W i (.val v))=r):exs cal (.set i e::ms) W=r:=by
 rw[au,iN h,aX,k]
def dH(h:ex cal m W=.next l)(k:exs cal ms l=r):exs cal (m::ms) W=r:=by simp_all [au]
def dD(h:ex cal m W=.next l):exs cal [m] W=.next l:=by
 rw[au,h,aX,exs]
def bi(h:ev cal c W=some (.bl p)):ex cal (.ite c a b) W=if p=true then exs cal a W else exs cal b W:=by
 rw[ex,uL h,ny]
def aV(h:ev cal c W=some (.bl false))(k:bc (exs cal ms W)=X):bc (exs cal (.ite c a []::ms) W)=X:=by simp_all [bi,exs]
def cA(h:ev cal c W=some (.bl true))(k:ev cal e W=some v):bc (exs cal (.ite c [.ret e] b::ms) W)=some v:=by
 rw[au,bi h,if_pos rfl,au,eQ k];rfl
def dJ(h:ev cal (.call f as) W=some v)(k:evA cal es W=some vs):evA cal (.call f as::es) W=some (.val v::vs):=by simp_all [evA]
def cx(h:ev cal (.idx a i) W=some v)(k:evA cal es W=some vs):evA cal (.idx a i::es) W=some (.val v::vs):=by simp_all [evA]
def ik(h:gq (W[i]?).join=some m)(k:evA cal es W=some vs):evA cal (.bor i::es) W=some (m::vs):=by simp_all [evA]
def vV(h:ev cal a W=some (.bl p)):ev cal (.not a) W=some (.bl (!p)):=by
 rw[ev,h];rfl
def JI(h:ev cal c W=some (.bl p))(k:ev cal e W=some v)(z:p=false->bc (exs cal ms W)=some w):bc (exs cal (.ite c [.ret e] []::ms) W)=some (if p=true then v else w):=by
 cases p<;>first|exact cA h k|exact aV h (z rfl)
def FS(h:ev cal c W=some (.bl true))(k:exs cal a W=.ret v):bc (exs cal (.ite c a b::ms) W)=some v:=by
 rw[au,bi h,if_pos rfl,k];rfl
def CO(h:ev cal c W=some (.bl false))(k:exs cal ms W=r):exs cal (.ite c a []::ms) W=r:=by simp_all [bi,exs]
def pI(h:ev cal e W=some v):exs cal (.ret e::ms) W=.ret v:=by
 rw[au,eQ h];rfl
def Du(h:ev cal c W=some (.bl true))(k:ev cal e W=some v):exs cal (.ite c [.ret e] b::ms) W=.ret v:=by
 rw[au,bi h,if_pos rfl,au,eQ k];rfl
def FT(h:ev cal a W=some (.bl p))(h':p=false->ev cal b W=some (.bl q)):ev cal (.or a b) W=some (.bl (p||q)):=by
 rw[ev,h];cases p<;>first|rfl|simp[h' rfl]
def Aq(h:isIn x xs=some p)(z:ev cal a W=some x)(J:ev cal b W=some (.tup xs)):ev cal (.cmp .isIn a b) W=some (.bl p):=by
 rw[cw z J,CD,h];rfl
def nL(ho:(W[i]?).join=some (.own xs))(h:ev cal e W=some v)(z:xs.length<10000):ex cal (.append i e) W=.next (put W i (.own (xs++[v]))):=by
 rw[ex,ho,h];simp[z]
def vW(h:((xs.length:Int)==0)=p)(z:ev cal a W=some (.tup xs)):ev cal (.cmp .eq (.blt .len [a]) (ci 0)) W=some (.bl p):=by
 rw[cw (aS z) (dy _ _ _),<- h];rfl
def Ar(h:(evs cal src W).bind (bj k)=some xs)(e:aw (λx l=>exs cal body (put l i (.val x))) xs (bL src W)=.ret v):exs cal (.for1 i k src body::ms) W=.ret v:=by
 rw[au,dY h,e];rfl
def As(h:ev cal e W=some (.lst xs)):(evs cal [e] W).bind (bj .seq)=some xs:=by simp_all [evs]
def bX(h:ev cal e W=some v)(k:evs cal es W=some vs):evs cal (e::es) W=some (v::vs):=by simp_all [evs]
def i7(h:evs cal es W=some vs)(z:vs.length<=10000:=by simp):ev cal (.tup es) W=some (.tup vs):=by
 rw[ev,h,bind_some,if_pos z]
noncomputable def ag (b:Bool):PySem.Str:=if b=true then "moth" else "weaver"
def vX(a b):((PySem.Str.ofString a)==(PySem.Str.ofString b))=(a==b):=by
 rw[Kv,JQ,JQ];refine⟨λh=>?_,λh=>by rw[h]⟩;rw[PySem.Str.ofString_eq_byList]at h;unfold PySem.Str.ofStringByList at h;have h1:(a.toList.map Char.toNat).toArray=(b.toList.map Char.toNat).toArray:=by injection h
 have h2:a.toList.map Char.toNat=b.toList.map Char.toNat:=by simpa using h1
 have key:∀xs ys:List Char,xs.map Char.toNat=ys.map Char.toNat->xs=ys:=by
  intro xs
  induction xs with
  |nil=>intro ys h;cases ys with|nil=>rfl|cons=>simp at h
  |cons x xs ih=>intro ys h;cases ys with
   |nil=>simp at h
   |cons y ys =>
    simp only[JO,Mv]at h;rw[ih ys h.2,Char.toNat_inj.mp h.1]
 exact String.toList_inj.mp (key _ _ h2)
noncomputable def cf:Option Int->PV
 |none=>.non
 |some i=>.int i
def vY(x h:Int):(x==h)=decide (x=h):=rfl
noncomputable def drp(h:Int)(z:List Int):List Int:=z.filter λx=>!decide (x=h)
noncomputable def bT(h:Int)(R:LL):LL:=sortT (R.map (drp h))
def At(g:cm z):cm (drp h z):=⟨g.1.filter _,λx hx=>g.2 x (JU.mp hx).1⟩
def i8{R:LL}(g:ax R):ax (bT h R):=by
 refine⟨λU z=>?_,sortT_rises _,by unfold bT;rw[sortT_len,nR];exact g.2.2⟩;obtain⟨t,J,rfl⟩:=mem_map.mp (da.mp z);exact At (g.1 t J)
def lQ(n)(z)(h)(J:z.length<=10000):ab defs (n+1) 2 [.val (ofS z),.val (.int h)]=some (ofS (drp h z)):=by
 rw[ae (d:=eO) rfl rfl];simp[eO,exs,ex,ev,evs,J];rw[ce (p:=λx=>!decide (x=h)) (h:=PV.int)]
 .simp[drp]
 .intro x _;simp[cv,vY]
 .intro x _ _;simp[cv]
def xn(n)(R)(h)(g:ax R):ab defs (n+2) 3 [.val (ofR R),.val (.int h)]=some (ofR (bT h R)):=by
 rw[ae (d:=k4) rfl rfl];have J:R.length<=10000:=by have:=g.2.2;omega
 simp[k4,exs,ex,ev,evs,J];rw[g9 (h:=λU=>ofS (drp h U))]
 .have e:(R.map λc=>ofS (drp h c))=(R.map (drp h)).map ofS:=by rw[JT];rfl
  have z:(R.map (drp h)).length<64:=by rw[nR];have:=g.2.2;omega
  rw[e];simp[-List.map_map,i4 z,bT]
 .intro c _;simp[ev]
 .intro c hc;have J:=aL (g.1 c hc);simp[ev,evA,cv,lQ n c h (by omega)]
noncomputable def bg(h:Int)(R:LL):LL:=R.filter λz=>!decide (h∈z)
def ff{R:LL}(g:ax R):ax (bg h R):=⟨λz J=>g.1 z (JU.mp J).1,g.2.1.filter _,r4 (LW _ _) g.2.2⟩
def sF(n)(R)(h)(J:R.length<=10000):ab defs (n+1) 4 [.val (ofR R),.val (.int h)]=some (ofR (bg h R)):=by
 rw[ae rfl rfl];simp[sC,exs,ex,ev,evs,J];rw[ce (p:=λz=>!decide (h∈z)) (h:=ofS)]
 .simp[bg]
 .intro z _;simp[cv,bH]
 .intro z _ _;simp[cv]
noncomputable def wgt(s:List Int):Int:=2 ^ (60-s.length)
def sH:∀n,n<=60->(1152921504606846976:Int) / 2 ^ n=2 ^ (60-n):=by decide +kernel
def vZ(n:Nat)(s:List Int)(z:s.length<=60):ab defs (n+1) 15 [.val (ofS s)]=some (.int (wgt s)):=by
 rw[ae (d:=fz) rfl rfl];have e:fm .shr (.int 1152921504606846976) (.int (s.length:Int))=some (.int (wgt s)):=by
  show(if 0<=(s.length:Int)then some (PV.int (1152921504606846976 / 2 ^ ((s.length:Int)).toNat))else none)=_;rw[if_pos (by omega),Int.toNat_natCast,sH _ z]
  rfl
 simp[fz,exs,ex,ev,evs,e]
def Au(n:Nat)(R:LL)(g:∀t∈R,cm t)(z:R.length<=10000):ab defs (n+2) 16 [.val (ofR R)]=some (.int (R.map wgt).sum):=by
 rw[ae (d:=sD) rfl rfl];have J:ev (ab defs (n+1)) (.comp .seq [.bor 0] [] (.cst (.bl true)) (.call 15 [.bor 0])) [sv (ofR R)]=some (.lst ((R.map wgt).map .int)):=by
  refine(dw (g:=ofS) (h:=λs=>.int (wgt s)) (vs:=[ofR R]) (by simp[evs,ev]) rfl z λs hs=>?_).trans (by rw[JT];rfl);exact ac (vs:=[.val (ofS s)]) (by simp[evA,cv]) (vZ n s (aL (g s hs)))
 show bc (exs (ab defs (n+1)) [_] [sv (ofR R)])=_;rw[au,eQ (v:=.int (R.map wgt).sum)]
 .rfl
 .rw[aS J];show((a_ _).map λns=>PV.int ns.sum)=_;rw[br]
  rfl
noncomputable def ir:List Int->LL
 | []=>[]
 |x::s=>s.map (λy=>[x,y])++ir s
theorem nM:∀s,(ir s).length<=s.length*s.length
 | []=>gx _
 |x::s=>by
  have:=nM s;rw[ir,wh,nR,length_cons,Nat.mul_succ,Nat.succ_mul];omega
theorem gJ :∀{s},s.Pairwise (· < ·)->(t∈ir s ↔ ∃a b,t=[a,b]/\a<b/\a∈s/\b∈s)
 | [],_=>⟨λh=>(by cases h),λ⟨_,_,_,_,h,_⟩=>by cases h⟩
 |x::s,hs=>by
  obtain⟨h1,h2⟩:=Ls.mp hs;rw[ir,La,gJ h2,mem_map];constructor
  .rintro (⟨y,z,rfl⟩|⟨a,b,e,q,J,U⟩)
   .exact⟨x,y,rfl,h1 y z,.head _,.tail _ z⟩
   .exact⟨a,b,e,q,.tail _ J,.tail _ U⟩
  .rintro ⟨a,b,e,q,J,U⟩
   grind
theorem nO:∀{s},s.Pairwise (· < ·)->(ir s).Nodup
 | [],_=>K5
 |x::s,hs=>by
  obtain⟨h1,h2⟩:=Ls.mp hs;refine LQ.mpr ⟨?_,nO h2,λt z u J e=>?_⟩
  .unfold Nodup;rw[pairwise_map];exact h2.imp λ{a b} q e=>by cases e;omega
  .obtain⟨y,U,rfl⟩:=mem_map.mp z;obtain⟨a,b,rfl,q,Y,Z⟩:=(gJ h2).mp J
   grind
theorem pJ(cal:Cal)(s:List Int):∀(r p:List Int) (A:LL) (J U:Option MV),s=p++r->A.length+(ir r).length<=10000->s.length<=4000 ->
  ∃Y Z,aw (λx l=>cG (d7 [2,3] x l) λz=>exs cal iI z) (bu p.length (r.map .int)) [sv (ofS s),some (.own (A.map ofS)),J,U]=.next [sv (ofS s),some (.own ((A++ir r).map ofS)),Y,Z]
 | [],p,A,J,U,_,_,_=>⟨J,U,by simp[bu,ir]⟩
 |x::r,p,A,J,U,hs,hl,h3=>by
  rw[ir,wh,nR]at hl;have hp:p.length<s.length:=by rw[hs,wh,length_cons];omega
  have a4:s.length=p.length+(r.length+1):=by rw[hs,wh,length_cons]
  have ec:ig s.length 0 (some ((p.length:Int)+1))=p.length+1:=by
   show(if (p.length:Int)+1<0 then((p.length:Int)+1+(s.length:Int)).toNat else min ((p.length:Int)+1).toNat s.length)=_;rw[if_neg (by omega)];omega
  have ao:jW (ofS s) (some ((p.length:Int)+1)) none=some (ofS r):=by
   show some (PV.tup (cut (s.map .int) (some ((p.length:Int)+1)) none))=_;have e1:cut (s.map PV.int) (some ((p.length:Int)+1)) none=r.map .int:=by
    unfold cut;rw[nR,ec,show ig s.length s.length none=s.length from rfl,hs,Ko,JO,drop_append,drop_eq_nil_of_le (by rw[nR];omega),nil_append,nR,show p.length+1-p.length=1 by omega,drop_one,tail_cons,MW (by rw[nR,wh,length_cons];omega)]
   rw[e1]
  have aO:ev cal (.comp .seq [(.slice (.bor 0) (.bin .add (.bor 2) (ci 1)) (.cst .non))] [3] (.cst (.bl true)) (.tup [.var 1,.var 0])) [sv (ofS s),some (.own (A.map ofS)),sv (.int (p.length:Int)),sv (.int x)]=some (.lst ((r.map λy=>[x,y]).map ofS)):=by
   refine(dw (g:=.int) (h:=λy=>ofS [x,y]) (vs:=[ofS r]) ?_ rfl (by omega) λy _=>?_).trans (by rw[JT];rfl)
   .simp[evs,ev,bnd,ao]
   .simp[ev,evs,cv]
  have e:cG (d7 [2,3] (.tup [.int (p.length:Nat),.int x]) [sv (ofS s),some (.own (A.map ofS)),J,U]) (λz=>exs cal iI z)=.next [sv (ofS s),some (.own ((A++r.map λy=>[x,y]).map ofS)),sv (.int (p.length:Int)),sv (.int x)]:=by
   show exs cal [_] [sv (ofS s),some (.own (A.map ofS)),sv (.int (p.length:Int)),sv (.int x)]=_;have a0:A.length+r.length<=10000:=by omega
   rw[au,ex,aO,uK];simp[exs,a0]
  rw[JO,bu,aw,e];obtain⟨Y,Z,e2⟩:=pJ cal s r (p++[x]) (A++r.map λy=>[x,y]) (sv (.int (p.length:Int))) (sv (.int x)) (by rw[hs,KS];rfl) (by rw[wh,nR];omega) h3;rw[wh,length_singleton]at e2;refine⟨Y,Z,?_⟩;rw[ir,<- KS];exact e2
def xo(n:Nat)(s:List Int)(J:s.length<=60):ab defs (n+1) 19 [.val (ofS s)]=some (.lst ((ir s).map ofS)):=by
 have h1:=nM s;have h2:s.length*s.length<=60*60:=Nat.mul_le_mul J J;obtain⟨U,Y,e⟩:=pJ (ab defs n) s s [] [] none none rfl (by simp;omega) (by omega);rw[ae (d:=pE) rfl rfl];have z:(evs (ab defs n) [.bor 0] [sv (ofS s),some (.own []),none,none]).bind (bj .enm)=some (bu 0 (s.map .int)):=by simp[evs,ev,bj]
 show bc (exs (ab defs n) (_::_::[_]) [sv (ofS s),none,none,none])=_;simp only[au];rw[dG (xs:=[]) (by simp[ev,evs]),aX];simp only[cI,cJ];rw[vS z,show bL [.bor 0] [sv (ofS s),some (.own []),none,none]=[sv (ofS s),some (.own []),none,none]from rfl];rw[length_nil,map_nil,nil_append]at e;rw[e,dF,aX];simp[exs,ex,aP]
def h_  [DecidableEq α] (d:List (α×Sc)) (f:α->Int):Prop:=(∀k,bM d k=none->f k=0)/\∀k s,bM d k=some s->s=.int (f k)
def gK{α:Type}(d:List (α×Sc))(P:α->Prop):Prop:=(d.map (·.1)).Nodup/\∀k,k∈d.map (·.1) ↔ P k
section
variable{α:Type} [DecidableEq α]
def Av{k:α}:bM d k=none ↔ k∉d.map (·.1):=by
 unfold bM;rw[map_eq_none_iff,MR];constructor
 .intro h z;obtain⟨p,J,rfl⟩:=mem_map.mp z;exact h p J (JS rfl)
 .intro h p J e;exact h (mem_map.mpr ⟨p,J,Kc e⟩)
def Aw(d)(k:α)(v):(cF d k v).map (·.1)=if k∈d.map (·.1)then d.map (·.1)else d.map (·.1)++[k]:=by
 have e:(d.any λp=>decide (p.1=k))=decide (k∈d.map (·.1)):=by
  rw[Kv,K8,Kb,mem_map]
  simp_all
 unfold cF;rw[e];by_cases h:k∈d.map (·.1)
 .rw[if_pos (JS h),if_pos h,JT];refine KU λp _=>?_
  show(if p.1=k then _ else p).1=p.1;split<;>rfl
 .rw[if_neg (by simpa using h),if_neg h,Ko]
  rfl
def v0(d)(k j:α)(v):bM (cF d k v) j=if j=k then some v else bM d j:=by
 have gen:∀d,(d.any λp=>decide (p.1=k))=true->bM (d.map λp=>if p.1=k then(p.1,v)else p) j=if j=k then some v else bM d j:=by
  intro d
  induction d with
  |nil=>intro h;cases h
  |cons p d ih =>
   intro h;by_cases U:p.1=k
   .by_cases J:j=k
    .subst J;simp[bM,U]
    .rw[if_neg J];have:¬ p.1=j:=λz=>J (by rw[<- z,U])
     unfold bM;rw[JO,if_pos U,LI (by simpa using this),LI (by simpa using this)];by_cases Y:(d.any λp=>decide (p.1=k))=true
     .have:=ih Y;rw[if_neg J]at this;exact this
     .have e:(d.map λp=>if p.1=k then(p.1,v)else p)=d:=by
       conv=>rhs;rw[<- List.map_id d]
       refine KU λq Z=>?_
       rw[if_neg λz=>Y (K8.mpr ⟨q,Z,JS z⟩)]
       rfl
      rw[e]
   .have Y:(d.any λp=>decide (p.1=k))=true:=by simpa[U]using h
    have ih:=ih Y;unfold bM at ih ⊢;rw[JO,if_neg U];by_cases J:p.1=j
    .have:¬ j=k:=λz=>U (J.trans z)
     rw[MY (by simpa using J),MY (by simpa using J),if_neg this]
    .rw[LI (by simpa using J),LI (by simpa using J)];exact ih
 unfold cF;by_cases h:(d.any λp=>decide (p.1=k))=true
 .rw[if_pos h];exact gen d h
 .rw[if_neg h];have no:∀p∈d,¬ p.1=k:=λp U z=>h (K8.mpr ⟨p,U,JS z⟩)
  unfold bM;rw[find?_append];by_cases J:j=k
  .subst J;have:d.find? (λp=>decide (p.1=j))=none:=MR.mpr λp U=>by simpa using no p U
   rw[this,if_pos rfl];simp
  .rw[if_neg J];have:¬ k=j:=λz=>J z.symm
   cases d.find? (λp=>decide (p.1=j))<;>first|rfl|simp[this]
def put_len(d)(k:α)(v):(cF d k v).length<=d.length+1:=by
 unfold cF;split
 .simp_all
 .simp_all
def sI(h:h_ d f)(k:α):((bM d k).getD (.int 0)).pv=.int (f k):=by
 cases e:bM d k with
 |none=>rw[h.1 k e];rfl
 |some s=>rw[h.2 k s e];rfl
def Ax(h:h_ d f)(k:α)(w):h_ (cF d k (.int (f k+w))) (λj=>if j=k then f j+w else f j):=by
 refine⟨λj e=>?_,λj s e=>?_⟩
 .rw[v0]at e;by_cases z:j=k
  .simp_all
  .rw[if_neg z]at e;dsimp only;rw[if_neg z];exact h.1 j e
 .rw[v0]at e;by_cases z:j=k
  .simp_all
  .rw[if_neg z]at e;dsimp only;rw[if_neg z];exact h.2 j s e
def sJ:h_ ([]:List (α×Sc)) λ_=>0:=⟨λ_ _=>rfl,λk s z=>by cases z⟩
def sK:gK ([]:List (α×Sc)) λ_=>False:=⟨K5,λk=>by simp⟩
def Ay(h:gK d P)(k:α)(v):gK (cF d k v) (λj=>P j\/j=k):=by
 unfold gK;rw[Aw];by_cases J:k∈d.map (·.1)
 .rw[if_pos J];refine⟨h.1,λj=>?_⟩;rw[h.2 j];refine⟨.inl,λz=>z.elim id λe=>?_⟩;rw[e];exact(h.2 k).mp J
 .rw[if_neg J];refine⟨LQ.mpr ⟨h.1,by simp,λa U b Y=>by rw[JY.mp Y];exact λe=>J (e▸U)⟩,λj=>?_⟩;rw[La,JY,h.2 j]
theorem FU{body:PV->Rho->R}{I:List (α×Sc)->Rho->Prop}{w:Int}:∀{xs:List α},(∀x∈xs,∀d W (f:α->Int),I d W->h_ d f->d.length<9500->∃l,I (cF d x (.int (f x+w))) l/\body (g x) W=.next l) ->
  xs.Nodup->∀{d}{W}{f}{P},I d W->h_ d f->gK d P->d.length+xs.length<=9000 ->
  ∃d' l,aw body (xs.map g) W=.next l/\I d' l/\h_ d' (λj=>f j+if j∈xs then w else 0)/\gK d' (λk=>P k\/k∈xs)/\d'.length<=d.length+xs.length
 | [],_,_,d,W,f,P,J,hd,U,_=>⟨d,W,rfl,J,by simpa using hd,by simpa using U,by simp⟩
 |x::xs,hb,Y,d,W,f,P,J,hd,U,hl=>by
  refine aC λZq kq=>?_
  rw[length_cons]at hl;obtain⟨hx,Y⟩:=Kh.mp Y;obtain⟨a3,Z,e1⟩:=hb x (.head _) d W f J hd (by omega);have a5:=put_len d x (.int (f x+w));obtain⟨d',l,e2,ao,aO,z,a7⟩:=FU (xs:=xs) (λy hy=>hb y (.tail _ hy)) Y Z (Ax hd x w) (Ay U x _) (by omega);refine kq ?_;rw[JO,aw,e1];refine⟨d',l,e2,ao,?_,?_,by rw[length_cons];omega⟩
  .have ef:(λj=>(if j=x then f j+w else f j)+if j∈xs then w else 0)=λj=>f j+if j∈x::xs then w else 0:=by
    funext j
    by_cases hj:j=x
    .simp_all
    .simp[hj]
   rw[<- ef];exact aO
  .refine⟨z.1,λk=>?_⟩;rw[z.2 k];simp[tf,_root_.or_assoc]
theorem Iq{J:Type}{ge:J->PV}{m:J->List α}{w:J->Int}{body:PV->Rho->R}{I:List (α×Sc)->Rho->Prop}{top:Nat}:∀{R:List J},(∀s∈R,∀d W (f:α->Int) (P:α->Prop),I d W->h_ d f->gK d P->d.length<=8000 ->
   ∃d' l,body (ge s) W=.next l/\I d' l/\h_ d' (λj=>f j+if j∈m s then w s else 0)/\gK d' (λk=>P k\/k∈m s)/\d'.length<=d.length+top) ->
  ∀{d}{W}{f}{P},I d W->h_ d f->gK d P->d.length+top*R.length<=8000 ->
  ∃d' l,aw body (R.map ge) W=.next l/\I d' l/\h_ d' (λj=>f j+(R.map λs=>if j∈m s then w s else 0).sum)/\gK d' (λk=>P k\/∃s∈R,k∈m s)/\d'.length<=d.length+top*R.length
 | [],_,d,W,f,P,U,hd,Y,_=>⟨d,W,rfl,U,by simpa using hd,by simpa using Y,by simp⟩
 |s::R,hb,d,W,f,P,U,hd,Y,hl=>by
  refine aC λZq kq=>?_
  rw[length_cons,Nat.mul_succ]at hl;obtain⟨d1,a4,e1,Z,ao,aO,a6⟩:=hb s (.head _) d W f P U hd Y (by omega);obtain⟨d',l,e2,a0,a8,z,a9⟩:=Iq (R:=R) (λy hy=>hb y (.tail _ hy)) Z ao aO (by omega);refine kq ?_;rw[JO,aw,e1];refine⟨d',l,e2,a0,?_,⟨z.1,λk=>?_⟩,by rw[length_cons,Nat.mul_succ];omega⟩
  .grind
  .rw[z.2 k];simp only[tf,exists_eq_or_imp,_root_.or_assoc]
end
def FV  [DecidableEq α] {P:α->Prop} (hd:h_ d f) (J:gK d P):∃M ns,(d.map (·.2)).map Sc.pv=ns.map .int/\ns.length=d.length/\ua (0::ns)=some M/\0<=M/\(M=0\/∃k,P k/\f k=M)/\∀k,P k->f k<=M:=by
 have U:∀p∈d,p.2=.int (f p.1):=λp z=>by
  have e:bM d p.1=some p.2:=by
   unfold bM;have gen:∀(l:List (α×Sc)),(l.map (·.1)).Nodup->p∈l->l.find? (λq=>decide (q.1=p.1))=some p:=by
    intro l
    induction l with
    |nil=>intro _ h;cases h
    |cons q l ih =>
     intro Y h;rw[JO,Kh]at Y;rcases tf.mp h with rfl|h
     .exact MY (JS rfl)
     .rw[LI (by
       simp only[Kb];intro e;exact Y.1 (mem_map.mpr ⟨p,h,e.symm⟩))]
      exact ih Y.2 h
   rw[gen d J.1 z]
   rfl
  exact hd.2 p.1 p.2 e
 have Z:ua (0::d.map λp=>f p.1)=some ((d.map λp=>f p.1).foldl (λa b=>if a<b then b else a) 0):=rfl;obtain⟨h1,h2⟩:=iY Z;refine⟨_,d.map λp=>f p.1,?_,by simp,Z,h2 0 (.head _),?_,λk hk=>?_⟩
 .rw[JT,JT];refine KU λp z=>?_
  show(p.2).pv=_;rw[U p z]
  rfl
 .rcases tf.mp h1 with h|h
  .exact .inl h
  .obtain⟨p,z,e⟩:=mem_map.mp h;exact .inr ⟨p.1,(J.2 p.1).mp (mem_map.mpr ⟨p,z,rfl⟩),e⟩
 .obtain⟨p,z,rfl⟩:=mem_map.mp ((J.2 k).mpr hk);exact h2 _ (.tail _ (mem_map.mpr ⟨p,z,rfl⟩))
section
variable{α:Type} [DecidableEq α]
theorem Dw{U:Type}{ge:U->PV}{m:U->List α}{w:U->Int}{body:PV->Rho->R}{I:List (α×Sc)->Rho->Prop}{B:Nat}{Q:α->Prop}(Z:∀d P,gK d P->(∀k,P k->Q k)->d.length<=B):∀{R:List U},(∀s∈R,∀d W (f:α->Int) (P:α->Prop),I d W->h_ d f->gK d P->d.length<=B ->
   ∃d' l,body (ge s) W=.next l/\I d' l/\h_ d' (λj=>f j+if j∈m s then w s else 0)/\gK d' (λk=>P k\/k∈m s))->(∀s∈R,∀k∈m s,Q k) ->
  ∀{d}{W}{f}{P},I d W->h_ d f->gK d P->(∀k,P k->Q k) ->
  ∃d' l,aw body (R.map ge) W=.next l/\I d' l/\h_ d' (λj=>f j+(R.map λs=>if j∈m s then w s else 0).sum)/\gK d' (λk=>P k\/∃s∈R,k∈m s)/\d'.length<=B
 | [],_,_,d,W,f,P,hI,hd,z,Y=>⟨d,W,rfl,hI,by simpa using hd,by simpa using z,Z d P z Y⟩
 |s::R,hb,hm,d,W,f,P,hI,hd,z,Y=>by
  refine aC λZq kq=>?_
  obtain⟨d1,a7,e1,aO,a0,a1⟩:=hb s (.head _) d W f P hI hd z (Z d P z Y);obtain⟨d',l,e2,a2,bA,J,a3⟩:=Dw Z (R:=R) (λy hy=>hb y (.tail _ hy)) (λy hy=>hm y (.tail _ hy)) aO a0 a1 (λk hk=>hk.elim (Y k) (hm s (.head _) k));refine kq ?_;rw[JO,aw,e1];refine⟨d',l,e2,a2,?_,⟨J.1,λk=>?_⟩,a3⟩
  .grind
  .rw[J.2 k];simp[tf,exists_eq_or_imp,_root_.or_assoc]
end
def Az(t:List Int):Prop:=∃a b,t=[a,b]/\0<=a/\a<=59/\0<=b/\b<=59
def AB(d)(P)(J:gK d P)(U:∀k,P k->Az k):d.length<=3600:=by
 have h1:∀t∈d.map _,Az t:=λt z=>U t ((J.2 t).mp z)
 have h2:((d.map (·.1)).map λt=>t.getD 0 0*60+t.getD 1 0).Nodup:=by
  unfold Nodup;rw[pairwise_map];refine J.1.imp_of_mem λ{t u} z Y q e=>?_
  obtain⟨a,b,rfl,_⟩:=h1 t z;obtain⟨x,y,rfl,_⟩:=h1 u Y;have e:a*60+b=x*60+y:=e;have e1:a=x:=by omega
  simp_all
 have Z:=nA 3600 _ h2 λx hx=>by
  obtain⟨t,z,rfl⟩:=mem_map.mp hx;obtain⟨a,b,rfl,_⟩:=h1 t z;show 0<=a*60+b/\a*60+b<_;omega
 simpa using Z
noncomputable def gL(R:LL)(a b:Int):Int:=((R.filter λs=>decide (a∈s)&&decide (b∈s)).length:Int)
def AC{R:LL}(U:∀s∈R,s.Pairwise (· < ·))(J:a<b):(R.map λs=>if [a,b]∈ir s then(1:Int)else 0).sum=gL R a b:=by
 unfold gL
 induction R with
 |nil=>rfl
 |cons s R ih =>
  rw[JO,sum_cons,ih λt Z=>U t (.tail _ Z)];have Y:=gJ (t:=[a,b]) (U s (.head _));by_cases q:a∈s/\b∈s
  .rw[if_pos (Y.mpr ⟨a,b,rfl,J,q.1,q.2⟩),KW (by simpa using q),length_cons];omega
  .rw[if_neg λz=>q (by obtain⟨x,y,e,_,hx,hy⟩:=Y.mp z;cases e;exact⟨hx,hy⟩),Kz (by simpa using q)];omega
def lR(R:LL)(M:Int):Prop:=0<=M/\(M=0\/∃a b,a<b/\(∃s∈R,a∈s/\b∈s)/\gL R a b=M)/\∀a b,a<b->gL R a b<=M
def xp{R:LL}(h:¬ ∃s∈R,a∈s/\b∈s):gL R a b=0:=by
 unfold gL;rw[MZ.mpr]
 .rfl
 .intro s hs q;exact h ⟨s,hs,by simpa using q⟩
def f_(n:Nat)(R:LL)(g:ax R):∃M,ab defs (n+2) 20 [.val (ofR R)]=some (.int M)/\lR R M:=by
 obtain⟨d,l,e,⟨x,y,rfl⟩,hd,hp,a5⟩:=Dw (R:=R) (ge:=ofS) (m:=ir) (w:=λ_=>1) (Q:=Az) (B:=3600) AB (body:=λv l=>exs (ab defs (n+1)) ij (put l 2 (.val v))) (I:=λd W=>∃x y,W=[sv (ofR R),some (.ownD (.t d)),x,y]) (d:=[]) (W:=[sv (ofR R),some (.ownD (.t [])),none,none]) (f:=λ_=>0) (P:=λ_=>False)
  (by
   rintro s hs d W f P ⟨x,y,rfl⟩ hd hp hl;have gs:=g.1 s hs;have Y:=aL gs;have et:=xo n s Y;have a8:=nM s;have a9:s.length*s.length<=60*60:=Nat.mul_le_mul Y Y;obtain⟨d',l,e,⟨y',rfl⟩,r⟩:=FU (xs:=ir s) (g:=ofS) (w:=1) (body:=λv l=>exs (ab defs (n+1)) ii (put l 3 (.val v))) (I:=λd W=>∃y,W=[sv (ofR R),some (.ownD (.t d)),sv (ofS s),y]) (d:=d) (W:=[sv (ofR R),some (.ownD (.t d)),sv (ofS s),y])
    (by
     rintro z _ d W f ⟨y,rfl⟩ hd hl;have eg:ev (ab defs (n+1)) (.dget (.bor 1) (.bor 3) (ci 0)) [sv (ofR R),some (.ownD (.t d)),sv (ofS s),sv (ofS z)]=some (.int (f z)):=by
      rw[<- sI hd z];simp[ev]
     have es:ev (ab defs (n+1)) (.bin .add (.dget (.bor 1) (.bor 3) (ci 0)) (ci 1)) [sv (ofR R),some (.ownD (.t d)),sv (ofS s),sv (ofS z)]=some (.int (f z+1)):=by
      rw[ev,eg];simp[ev]
     have a1:d.length<10000:=by omega
     refine⟨_,⟨sv (ofS z),rfl⟩,?_⟩;show exs (ab defs (n+1)) [_] [sv (ofR R),some (.ownD (.t d)),sv (ofS s),sv (ofS z)]=_;rw[au,ex,es];simp[ev,a1,exs])
    (nO gs.1) ⟨y,rfl⟩ hd hp (by omega)
   refine⟨d',_,?_,⟨sv (ofS s),y',rfl⟩,r.1,r.2.1⟩;have J:(evs (ab defs (n+1)) [.call 19 [.bor 2]] [sv (ofR R),some (.ownD (.t d)),sv (ofS s),y]).bind (bj .seq)=some ((ir s).map ofS):=by
    rw[evs,ac (vs:=[.val (ofS s)]) (by simp[evA]) et];simp[evs]
   show exs (ab defs (n+1)) [_] [sv (ofR R),some (.ownD (.t d)),sv (ofS s),y]=_;rw[au,dY J,show ∀W:Rho,bL [.call 19 [.bor 2]] W=W from λ_=>rfl,e,dF,aX];simp[exs,aP])
  (λs hs k Z=>by
   obtain⟨a,b,rfl,_,ha,hb⟩:=(gJ (g.1 s hs).1).mp Z;have:=(g.1 s hs).2 a ha;have:=(g.1 s hs).2 b hb;exact⟨a,b,rfl,by omega,by omega,by omega,by omega⟩)
  ⟨none,none,rfl⟩ sJ sK (λk z=>z.elim)
 obtain⟨M,ns,e1,b1,e2,h0,h1,h2⟩:=FV hd hp;refine⟨M,?_,h0,?_,?_⟩
 .rw[ae (d:=jn) rfl rfl];have J:(evs (ab defs (n+1)) [.bor 0] [sv (ofR R),some (.ownD (.t [])),none,none]).bind (bj .seq)=some (R.map ofS):=by simp[evs,ev]
  have a2:ev (ab defs (n+1)) (.blt .valuesOf [.bor 1]) [sv (ofR R),some (.ownD (.t d)),x,y]=some (.lst (ns.map .int)):=by
   rw[aS (v:=.dI (.t d)) (by simp[ev]),uJ,if_pos (by unfold lr dSc;rw[nR,nR];omega)];show some (PV.lst ((d.map (·.2)).map Sc.pv))=_;rw[e1]
  have a3:ev (ab defs (n+1)) (.bin .add (.lst [(ci 0)]) (.blt .valuesOf [.bor 1])) [sv (ofR R),some (.ownD (.t d)),x,y]=some (.lst ((0::ns).map .int)):=by
   rw[ev,a2];simp[ev,evs];omega
  show bc (exs (ab defs (n+1)) (_::_::[_]) [sv (ofR R),none,none,none])=_;simp only[au];rw[show ex (ab defs (n+1)) (.newD true 1) [sv (ofR R),none,none,none]=.next [sv (ofR R),some (.ownD (.t [])),none,none]from by rw[ex];rfl,aX,dY J,show bL [.bor 0] [sv (ofR R),some (.ownD (.t [])),none,none]=[sv (ofR R),some (.ownD (.t [])),none,none]from rfl,e,dF,aX];rw[show ∀W,aP [.bor 0] [sv (ofR R),some (.ownD (.t [])),none,none] W=W from λ_=>rfl,eQ (v:=.int M)]
  .rfl
  .rw[aS a3,sy,br,bind_some,e2]
   rfl
 .refine h1.imp id λ⟨k,Z,ek⟩=>?_
  obtain⟨s,hs,Z⟩:=Z.resolve_left id;obtain⟨a,b,rfl,U,ha,hb⟩:=(gJ (g.1 s hs).1).mp Z;refine⟨a,b,U,⟨s,hs,ha,hb⟩,?_⟩;rw[<- AC (λs hs=>(g.1 s hs).1) U,<- ek];rw[Int.zero_add];exact J5 List.sum (KU λs _=>by by_cases q:[a,b]∈ir s<;>simp[q])
 .intro a b U;by_cases q:∃s∈R,a∈s/\b∈s
  .obtain⟨s,hs,ha,hb⟩:=q;have:=h2 [a,b] (.inr ⟨s,hs,(gJ (g.1 s hs).1).mpr ⟨a,b,rfl,U,ha,hb⟩⟩);rw[<- AC (λs hs=>(g.1 s hs).1) U];refine Lg (Int.le_of_eq ?_) this;rw[Int.zero_add];exact J5 List.sum (KU λs _=>by by_cases q:[a,b]∈ir s<;>simp[q])
  .rw[xp q];exact h0
theorem kn(cal)(a):∀(R:LL) g (z:∀t,bf (g t)=some (t.map .int)) acc s,acc.length+R.flatten.length<=10000 ->
  ∃s',aw (λx l=>exs cal du (put l 2 (.val x))) (R.map g) [some a,some (.own (acc.map .int)),s]=.next [some a,some (.own ((acc++R.flatten).map .int)),s']
 | [],g,z,acc,s,_=>⟨s,by simp⟩
 |t::R,g,z,acc,s,h=>by
  rw[JO,aw];rw[flatten_cons,wh]at h;have h2:acc.length+t.length<=10000:=by omega
  have e:exs cal du (put [some a,some (.own (acc.map .int)),s] 2 (.val (g t)))=.next [some a,some (.own ((acc++t).map .int)),sv (g t)]:=by
   simp[du,exs,ex,ev,z,h2]
  rw[e];obtain⟨s',J⟩:=kn cal a R g z (acc++t) (sv _) (by rw[wh];omega);exact⟨s',by rw[flatten_cons,<- KS];exact J⟩
def pK(n)(m)(ho:∀xs,m≠.own xs)(R:LL)(g)(U:∀t,bf (g t)=some (t.map .int))(z:(bv (some m)).bind bf=some (R.map g))(Y:R.flatten.length<=10000):ab defs (n+1) 0 [m]=some (ofL R.flatten):=by
 rw[ae rfl rfl];obtain⟨s',e⟩:=kn (ab defs n) m R g U [] none (by simpa using Y);simp only[map_nil]at e;cases J:bv _ with
 |none=>rw[J]at z;cases z
 |some v =>
  rw[J]at z;have z:bf v=some _:=z;cases m<;>first|exact absurd rfl (ho _)|simp[kf,exs,ex,ev,evs,bL,J,z,e,aP,-map_flatten]
def sL(R):sortI (dd R.flatten)=aa R:=by
 refine sortI_of_perm ((KY (dd_nodup _) (gH R [] K5).1).mpr λx=>?_);rw[nz,(gH R [] K5).2 x,mem_flatten];simp
def cW(n:Nat)(R:LL)(g:∀J∈R,cm J)(U:R.flatten.length<=4000):ab defs (n+2) 5 [.val (ofR R)]=some (ofL (aa R)):=by
 rw[ae (d:=jG) rfl rfl];have e:=pK n (.val (ofR R)) (λ_ z=>by cases z) R ofS (λ_=>rfl) rfl (by omega);have hd:(dd R.flatten).length<64:=by
  have:=aL (bm g);rw[<- sL,sortI_len]at this;omega
 simp[jG,exs,ex,ev,evs,evA,e,-map_flatten,br,-length_flatten,U,hd,sL]
def pL(h)(R):(bg h R).flatten.length<=R.flatten.length:=by
 unfold bg
 induction R with
 |nil=>exact gx _
 |cons s R ih =>
  by_cases q:h∈s
  .grind
  .simp_all
def nP(n)(R):ab defs (n+1) 6 [.val (ofR R)]=some (.bl (decide ([]∈R))):=by
 rw[ae rfl rfl];have z:isIn (.tup []) _=some _:=jE [] R;simp[nB,exs,ex,ev,evs,z]
def nQ(R:LL):Prop:=∃M,lR R M/\1152921504606846976*M*(((aa R).length:Int) / 2)<4*(R.map wgt).sum
noncomputable def hv(R:LL):Bool:=@decide (nQ R) (Classical.propDecidable _)
def k8{R:LL}:hv R=true ↔ nQ R:=@Kb (nQ R) (Classical.propDecidable _)
def xq{R:LL}(h:lR R M)(h':lR R N):M=N:=by
 have gen:∀{M N},lR R M->lR R N->M<=N:=λ{M N} h h'=>by
  rcases h.2.1 with e|⟨a,b,z,_,e⟩
  .have:=h'.1;omega
  .have:=h'.2.2 a b z;omega
 exact Nd (gen h h') (gen h' h)
def nS(n:Nat)(R:LL)(g:ax R)(Z:R.flatten.length<=4000):ab defs (n+3) 21 [.val (ofR R)]=some (.bl (hv R)):=by
 obtain⟨M,em,J⟩:=f_ n R g;have U:=Au n R g.1 (by have:=g.2.2;omega);have Y:=cW n R g.1 Z;have z:=aL (bm g.1);have hb:hv R=decide (1152921504606846976*M*(((aa R).length:Int) / 2)<4*(R.map wgt).sum):=by
  rw[Kv,k8,Kb];exact⟨λ⟨N,hN,h⟩=>by rw[xq J hN];exact h,λh=>⟨M,J,h⟩⟩
 rw[hb,ae (d:=nF) rfl rfl];generalize (R.map wgt).sum=w at U;generalize aa R=ks at Y z;have b1:(-18446744073709551616<(4:Int)/\(4:Int)<18446744073709551616\/-18446744073709551616<w/\w<18446744073709551616):=.inl ⟨by decide,by decide⟩;have b2:(-18446744073709551616<(1152921504606846976:Int)/\(1152921504606846976:Int)<18446744073709551616\/-18446744073709551616<M/\M<18446744073709551616):=.inl ⟨by decide,by decide⟩;have b3:(-18446744073709551616<1152921504606846976*M/\1152921504606846976*M<18446744073709551616\/-18446744073709551616<(ks.length:Int) / 2/\(ks.length:Int) / 2<18446744073709551616):=.inr ⟨by omega,by omega⟩;have e1:ev (ab defs (n+2)) (.bin .mul (ci 4) (.call 16 [.bor 0])) [sv (ofR R)]=some (.int (4*w)):=by
  rw[ev,ac (vs:=[.val (ofR R)]) (by simp[evA]) U];simp[ev,b1]
 have e2:ev (ab defs (n+2)) (.bin .mul (.bin .mul (.glob "UNIT" (.int 1152921504606846976)) (.call 20 [.bor 0])) (.bin .fdiv (.blt .len [(.call 5 [.bor 0])]) (ci 2))) [sv (ofR R)]=some (.int (1152921504606846976*M*((ks.length:Int) / 2))):=by
  have e3:ev (ab defs (n+2)) (.bin .mul (.glob "UNIT" (.int 1152921504606846976)) (.call 20 [.bor 0])) [sv (ofR R)]=some (.int (1152921504606846976*M)):=by
   rw[ev,ac (vs:=[.val (ofR R)]) (by simp[evA]) em];simp[ev,b2]
  have e4:ev (ab defs (n+2)) (.bin .fdiv (.blt .len [(.call 5 [.bor 0])]) (ci 2)) [sv (ofR R)]=some (.int ((ks.length:Int) / 2)):=by
   rw[ev,aS (ac (vs:=[.val (ofR R)]) (by simp[evA]) Y)];simp[ev]
  rw[ev,e3,e4];simp only[bind_some,CC];rw[if_pos (by exact .inr ⟨by omega,by omega⟩)]
 show bc (exs (ab defs (n+2)) [_] [sv (ofR R)])=_;rw[au,eQ (v:=.bl (decide (1152921504606846976*M*((ks.length:Int) / 2)<4*w)))]
 .rfl
 .rw[ev,e1,e2]
  rfl
def lS (n:Nat) (R:LL) (g:ax R) (J:R.flatten.length<=4000):ab defs (n+4) 22 [.val (ofR R),.val (.str "weaver")]=some (.bl (hv R)) /\
  ab defs (n+4) 22 [.val (ofR R),.val (.str "moth")]=some (.bl (decide ([]∈R)||(hv R&&(aa R).all λh=>hv (bg h R)))):=by
 have U:=nS n R g J;have z:=nP (n+2) R;have Y:=cW (n+1) R g.1 J;have Z:=aL (bm g.1);constructor
 .rw[ae (d:=cQ) rfl rfl];have h:((("weaver":Str)==("weaver":Str)))=true:=by decide
  simp[cQ,exs,ex,ev,evA,evB,h,U]
 .rw[ae (d:=cQ) rfl rfl];have h:((("moth":Str)==("weaver":Str)))=false:=by decide
  have ec:ev (ab defs (n+3)) (.comp .seq [(.call 5 [.bor 0])] [0] (.cst (.bl true)) (.call 21 [(.call 4 [.bor 1,.bor 0])])) [sv (ofR R),sv (.str "moth")]=some (.lst (((aa R).map λh=>hv (bg h R)).map .bl)):=by
   refine(dw (g:=.int) (h:=λh=>.bl (hv (bg h R))) (vs:=[ofL (aa R)]) ?_ rfl (by omega) λh _=>?_).trans (by rw[JT];rfl)
   .rw[evs,ac (vs:=[.val (ofR R)]) (by simp[evA]) Y];simp[evs]
   .have eb:ev (ab defs (n+3)) (.call 4 [.bor 1,.bor 0]) (cv [0] [sv (ofR R),sv (.str "moth")] (.int h))=some (ofR (bg h R)):=ac (vs:=[.val (ofR R),.val (.int h)]) (by simp[evA,cv]) (sF (n+2) R h (by have:=g.2.2;omega));exact ac (vs:=[.val (ofR (bg h R))]) (by simp only[evA,eb];simp) (nS n (bg h R) (ff g) (r4 (pL h R) J))
  have ea:ev (ab defs (n+3)) (.and (.call 21 [.bor 0]) (.blt .all [(.comp .seq [(.call 5 [.bor 0])] [0] (.cst (.bl true)) (.call 21 [(.call 4 [.bor 1,.bor 0])]))])) [sv (ofR R),sv (.str "moth")]=some (.bl (hv R&&(aa R).all λh=>hv (bg h R))):=by
   refine cV (ac (vs:=[.val (ofR R)]) (by simp[evA]) U) λ_=>?_
   rw[aS ec,CH,jD,map_some,Mp]
   rfl
  show bc (exs (ab defs (n+3)) (_::_::[_]) [sv (ofR R),sv (.str "moth")])=_;simp only[au];rw[show ex (ab defs (n+3)) (.ite (.cmp .eq (.bor 1) (cs "weaver")) [.ret (.call 21 [.bor 0])] []) [sv (ofR R),sv (.str "moth")]=.next [sv (ofR R),sv (.str "moth")]from by simp[ex,exs,ev,evB,h],aX];by_cases q:[]∈R
  .rw[JS q]at z ⊢;simp[ex,exs,ev,evA,evB,z]
  .rw[J0 q]at z ⊢;rw[show ex (ab defs (n+3)) (.ite (.call 6 [.bor 0]) [.ret (.cst (.bl true))] []) [sv (ofR R),sv (.str "moth")]=.next [sv (ofR R),sv (.str "moth")]from by simp[ex,exs,ev,evA,evB,z],aX,eQ ea]
   rfl
def xr(h)(R):(bT h R).flatten.length<=R.flatten.length:=by
 have p:(bT h R).flatten.length=(R.map _).flatten.length:=((sortT_perm (R.map _)).flatten).length_eq;rw[p]
 induction R with
 |nil=>exact gx _
 |cons s R ih =>
  rw[JO,flatten_cons,flatten_cons,wh,wh];have:(drp h s).length<=s.length:=LW _ _;have:=ih (by exact((sortT_perm _).flatten).length_eq);omega
noncomputable def bhd(h:Bool)(R:LL):Option Int->LL
 |none=>R
 |some k=>if h=true then bg k R else bT k R
def bU{R:LL}(g:ax R)(r):ax (bhd h R r):=by
 cases r<;>first|exact g|cases h with|true=>exact ff g|false=>exact i8 g
def ml(n:Nat)(h:Bool):ab defs (n+1) 7 [.val (.str (ag h))]=some (.str (ag (!h))):=by
 rw[ae (d:=hV) rfl rfl];cases h<;>simp[hV,exs,ex,ev,evs,evB,evA,vX,ag]
def fD(n:Nat)(R:LL)(g:ax R)(h:Bool)(r:Option Int):ab defs (n+3) 8 [.val (ofR R),.val (.str (ag h)),.val (cf r)]=some (ofR (bhd h R r)):=by
 rw[ae (d:=kg) rfl rfl];cases r with
 |none=>simp[kg,exs,ex,ev,evs,evB,evA,cf,bhd,jk]
 |some k =>
  have z:=xn n R k g;have J:=λn=>sF n R k (by have:=g.2.2;omega)
  cases h<;>simp[kg,exs,ex,ev,evs,evB,evA,cf,bhd,vX,ag,jk,z,J]
def eE(h)(R)(r):(bhd h R r).flatten.length<=R.flatten.length:=by
 cases r with
 |none=>exact gx _
 |some k=>cases h with|true=>exact pL k R|false=>exact xr k R
def gW {n:Nat}{v:PV}{R:PV}{t:PySem.Str}{r:PV} (h:ab defs n 30 [.val v,.val R,.val (.str t)]=some r):ab defs (n+1) 29 [.val v,.val R,.val (.str t),.val (.str "weaver")]=some r:=by
 rw[ae (d:=Ao) rfl rfl];exact aV rfl (gI (ac rfl h))
def i9 (n:Nat) (R:LL) (t:Bool):ab defs (n+3) 29 [.val (.tup [.str "whole"]),.val (ofR R),.val (.str (ag t)),.val (.str (ag false))]=some (.bl (decide ([]∈R))):=by
 refine gW ?_;rw[ae (d:=aK) rfl rfl];exact aM rfl (cA rfl (ac rfl (nP n R)))
noncomputable def uN(R:LL)(t:Bool):Bool:=
 if t=true then decide ([]∈R)||(hv R&&(aa R).all λh=>hv (bg h R))else hv R
def gM (n:Nat) (R:LL) (g:ax R) (z:R.flatten.length<=4000) (t:Bool):ab defs (n+6) 29 [.val (.tup [.str "weight"]),.val (ofR R),.val (.str (ag t)),.val (.str (ag false))]=some (.bl (uN R t)):=by
 obtain⟨J,U⟩:=lS n R g z;refine gW ?_;rw[ae (d:=aK) rfl rfl];refine aM rfl (aV rfl (cA rfl (ac rfl ?_)));cases t
 .exact J
 .exact U
def qO{n:Nat}{R:LL}(g:ax R)(r:Option Int){p:PV}{b:Bool}(t:Bool)(z:ab defs (n+3) 29 [.val p,.val (ofR (bhd false R r)),.val (.str (ag true)),.val (.str (ag false))]=some (.bl b)) :
  ab defs (n+6) 29 [.val (.tup [.str "knot",cf r,p]),.val (ofR R),.val (.str (ag t)),.val (.str (ag false))]=some (.bl (!t&&b)):=by
 have J:ab defs (n+4) 31 [.val (.tup [.str "knot",cf r,p]),.val (ofR R),.val (.str (ag false))]=some (.bl b):=by
  rw[ae (d:=iJ) rfl rfl];exact gI (ac (cx rfl (dJ (ac rfl (fD n R g false r)) (dJ (ac rfl (ml (n+2) false)) rfl))) z)
 refine gW ?_;rw[ae (d:=aK) rfl rfl];cases t<;>first|rfl|exact aM rfl (aV rfl (aV rfl (aV rfl (cA rfl (cV rfl λ_=>ac rfl J)))))
theorem pM:∀l,(dd l).length<=l.length
 | []=>gx _
 |x::r=>by
  have:=pM r;rw[dd]
  grind
theorem ko:∀l,(dd l).length=l.length ↔ l.Nodup
 | []=>by simp[dd]
 |x::r=>by
  have h:=pM r;have ih:=ko r;rw[dd,Kh,<- ih];by_cases q:x∈dd r
  .rw[if_pos q,length_cons];exact⟨λz=>by omega,λz=>absurd (nz.mp q) z.1⟩
  .rw[if_neg q,length_cons,length_cons];exact⟨λz=>⟨λw=>q (nz.mpr w),by omega⟩,λz=>by omega⟩
def FW(n:Nat)(l:List Int)(z:l.length<=4000):ab defs (n+1) 1 [.val (ofL l)]=some (.bl (decide l.Nodup)):=by
 rw[ae (d:=iH) rfl rfl];have e:av .lenSet [ofL l]=some (.int (dd l).length):=by
  show((bf (ofL l)).bind λxs=>(a_ xs).bind λns=>if ns.length<=4000 then some (PV.int (dd ns).length)else none)=_;rw[mi,bind_some,br,bind_some,if_pos z]
 have h:(((dd l).length:Int)==(l.length:Int))=decide l.Nodup:=by
  rw[Kv,JQ,Kb,<- ko];omega
 simp[iH,exs,ex,ev,evs,e,h]
def CP(n:Nat)(Rs:List (LL))(J:∀R∈Rs,(∀t∈R,cm t)/\R.flatten.length<=4000)(hl:Rs.length<=16):ab defs (n+3) 14 [.val (.lst (Rs.map ofR))]=some (.bl (decide (Rs.map aa).flatten.Nodup)):=by
 rw[ae (d:=lz) rfl rfl];have Y:∀Rs:List (LL),(∀R∈Rs,(∀t∈R,cm t)/\R.flatten.length<=4000)->(Rs.map aa).flatten.length<=60*Rs.length:=λRs=>by
  induction Rs with
  |nil=>intro _;simp
  |cons R Rs ih =>
   intro J;have h1:=aL (bm (J R (.head _)).1);have h2:=ih λR U=>J R (.tail _ U)
   rw[JO,flatten_cons,wh,length_cons];omega
 have hF:=Y Rs J;have Z:ev (ab defs (n+2)) (.comp .seq [.bor 0] [] (.cst (.bl true)) (.call 5 [.bor 0])) [sv (.lst (Rs.map ofR))]=some (.lst ((Rs.map aa).map ofL)):=by
  refine(dw (g:=ofR) (h:=λR=>ofL (aa R)) (vs:=[.lst (Rs.map ofR)]) (by simp[evs,ev]) rfl (by omega) λR U=>?_).trans (by rw[JT];rfl);exact ac (vs:=[.val (ofR R)]) (by simp[evA,cv]) (cW n R (J R U).1 (J R U).2)
 have e1:=pK (n+1) (.val (.lst ((Rs.map aa).map ofL))) (λ_ z=>by cases z) (Rs.map aa) ofL (λ_=>rfl) rfl (by omega);have e2:=FW (n+1) (Rs.map aa).flatten (by omega);show bc (exs (ab defs (n+2)) [.ret _] [sv (.lst (Rs.map ofR))])=_;rw[au,eQ (sE (λ_ z=>by cases z) (sE (λ_ z=>by cases z) Z e1) e2)]
 rfl
noncomputable def sub(a b:List Int):Bool:=a.all λx=>decide (x∈b)
def bZ :sub a b=true ↔ ∀x∈a,x∈b:=by simp[sub]
def xt(n:Nat)(m U:MV)(a b:List Int)(J:(bv (some m)).bind bf=some (a.map .int))(z:(bv (some U)).bind bf=some (b.map .int))(Z:a.length<=4000)(hb:b.length<=4000)(hd:(dd b).length<=60):ab defs (n+1) 10 [m,U]=some (.bl (sub b a)):=by
 rw[ae (d:=k5) rfl rfl];have h:((((dd b).filter λx=>!decide (x∈a)).length:Int)==0)=sub b a:=by
  rw[Kv,JQ,bZ];constructor
  .intro h x hx;have h2:(dd b).filter (λx=>!decide (x∈a))=[]:=Ma (by omega);have:=MZ.mp h2 x (nz.mpr hx);simpa using this
  .intro h;have h2:(dd b).filter (λx=>!decide (x∈a))=[]:=MZ.mpr λx hx=>by simpa using h x (nz.mp hx)
   rw[h2];rfl
 cases h1:bv (some m)with
 |none=>rw[h1]at J;cases J
 |some v =>
  cases h2:bv (some U)with
  |none=>rw[h2]at z;cases z
  |some Y =>
   rw[h1]at J;rw[h2]at z;have J:bf v=some (a.map .int):=J;have z:bf Y=some (b.map .int):=z;have e:av .lenSetSub [Y,v]=some (.int ((dd b).filter λx=>!decide (x∈a)).length):=by
    show((bf Y).bind λxs=>(a_ xs).bind λns=>(bf v).bind λys=>(a_ ys).bind λms=>if ns.length<=4000/\ms.length<=4000/\(dd ns).length<=60 then some (PV.int ((dd ns).filter λn=>!decide (n∈ms)).length)else none)=_;rw[z,J];simp[br,Z,hb,hd]
   simp[k5,exs,ex,ev,evs,h1,h2,e,h]
def CQ(h:cm t):(dd t).length<=60:=by rw[Dt (dq h.1)];exact aL h
noncomputable def uO:Option Nat->PV
 |none=>.non
 |some i=>.int i
noncomputable def qP(s:List Int)(R:LL):Option Nat:=R.findIdx? λt=>sub t s
theorem nU(n:Nat)(s:List Int)(a b:Option MV)(hs:s.length<=4000)(Y:a=sv (ofS s)):∀(R:LL) (k:Nat) (x y:Option MV),(∀t∈R,cm t) ->
  (∀i,qP s R=some i->aw (λx l=>cG (d7 [2,3] x l) λz=>exs (ab defs (n+1)) bt z) (bu k (R.map ofS)) [a,b,x,y]=.ret (.int ((k+i:Nat):Int))) /\
  (qP s R=none->∃Z y',aw (λx l=>cG (d7 [2,3] x l) λz=>exs (ab defs (n+1)) bt z) (bu k (R.map ofS)) [a,b,x,y]=.next [a,b,Z,y'])
 | [],k,x,y,_=>⟨λi h=>(by cases h),λ_=>⟨x,y,rfl⟩⟩
 |t::R,k,x,y,h=>by
  subst Y;have e:=xt n (.val (ofS s)) (.val (ofS t)) s t rfl rfl hs (by have:=aL (h t (.head _));omega) (CQ (h t (.head _)));rw[JO,bu,aw];unfold qP;rw[findIdx?_cons];cases U:sub t s with
  |true =>
   rw[U]at e;have J:(cG (d7 [2,3] (.tup [.int (k:Nat),ofS t]) [sv (ofS s),b,x,y]) λz=>exs (ab defs (n+1)) bt z)=.ret (.int (k:Nat)):=by
    simp[d7,oJ,bt,exs,ex,ev,evs,evB,evA,e]
   rw[J];exact⟨λi hi=>(by simp at hi;subst hi;rfl),λhi=>(by simp at hi)⟩
  |false =>
   rw[U]at e;have J:(cG (d7 [2,3] (.tup [.int (k:Nat),ofS t]) [sv (ofS s),b,x,y]) λz=>exs (ab defs (n+1)) bt z)=.next [sv (ofS s),b,sv (.int (k:Nat)),sv (ofS t)]:=by
    simp[d7,oJ,bt,exs,ex,ev,evs,evB,evA,e]
   rw[J];obtain⟨h1,h2⟩:=nU n s (sv (ofS s)) b hs rfl R (k+1) (sv (.int (k:Nat))) (sv (ofS t)) λu hu=>h u (.tail _ hu)
   constructor
   .intro i hi;simp only[JV,KH,mx]at hi;obtain⟨j,hj,rfl⟩:=hi;rw[show k+(j+1)=k+1+j by omega];exact h1 j hj
   .intro hi;simp only[JV,KH,map_eq_none_iff]at hi;exact h2 hi
def CS(n:Nat)(s:List Int)(R:LL)(hs:s.length<=4000)(g:∀t∈R,cm t):ab defs (n+2) 11 [.val (ofS s),.val (ofR R)]=some (uO (qP s R)):=by
 rw[ae (d:=dS) rfl rfl];obtain⟨h1,h2⟩:=nU n s (sv (ofS s)) (sv (ofR R)) hs rfl R 0 none none g;cases hf:qP s R with
 |some i =>
  have e:=h1 i hf;rw[Lp]at e;simp[dS,exs,ex,ev,evs,bj,bL,e,uO]
 |none =>
  obtain⟨z,J,e⟩:=h2 hf;simp[dS,exs,ex,ev,evs,bj,bL,e,uO,aP]
noncomputable def AD(A B:LL):List (Option Nat):=A.map λs=>qP s B
def xu(n:Nat)(A B:LL)(z:ax A)(J:ax B):ab defs (n+3) 12 [.val (ofR A),.val (ofR B)]=some (.lst ((AD A B).map uO)):=by
 rw[ae (d:=k7) rfl rfl];have U:A.length<=10000:=by have:=z.2.2;omega
 simp[k7,exs,ex,ev,evs,U];rw[g9 (h:=λs=>uO (qP s B))]
 .simp[AD]
 .intro c _;simp[ev]
 .intro c hc;simp[ev,evA,cv,CS n c B (by have:=aL (z.1 c hc);omega) J.1]
theorem sM:∀F:List (Option Nat),isIn .non (F.map uO)=some (decide (none∈F))
 | []=>rfl
 |o::F=>by
  have ih:=sM F;unfold isIn at ih ⊢;rw[JO,inL,ih];cases o<;>simp[uO,show ∀v,eqF 100 (.int v) .non=some false from λ_=>rfl,show eqF 100 PV.non .non=some true from rfl]
noncomputable def below(A B:LL):Bool:=decide (none∉AD A B)
def jJ(n:Nat)(A B:LL)(z:ax A)(J:ax B):ab defs (n+4) 13 [.val (ofR A),.val (ofR B)]=some (.bl (below A B)):=by
 rw[ae (d:=jH) rfl rfl];simp[jH,exs,ex,ev,evs,evA,xu n A B z J,sM,below]
def mn {n:Nat}{A R:LL} (gA:ax A) (g:ax R) {p:PV}{x:Bool} (t:Bool) (z:ab defs (n+4) 29 [.val p,.val (ofR A),.val (.str (ag t)),.val (.str "weaver")]=some (.bl x)) :
  ab defs (n+6) 29 [.val (.tup [.str "fewer",ofR A,p]),.val (ofR R),.val (.str (ag t)),.val (.str (ag false))]=some (.bl (below A R&&x)):=by
 refine gW ?_;rw[ae (d:=aK) rfl rfl];exact aM rfl (aV rfl (aV rfl (cA rfl (cV (ac rfl (jJ n A R gA g)) λ_=>ac rfl z))))
def kr{n:Nat}{A B R:LL}(gA:ax A)(U:ax B)(g:ax R)(fA:A.flatten.length<=4000)(fB:B.flatten.length<=4000){p q:PV}{x y:Bool}(t:Bool)
  (hp:ab defs (n+4) 29 [.val p,.val (ofR A),.val (.str "weaver"),.val (.str "weaver")]=some (.bl x)) (hq:ab defs (n+4) 29 [.val q,.val (ofR B),.val (.str "weaver"),.val (.str "weaver")]=some (.bl y)) :
  ab defs (n+7) 29 [.val (.tup [.str "either",ofR A,p,ofR B,q]),.val (ofR R),.val (.str (ag t)),.val (.str (ag false))]=some (.bl (t&&(decide (aa A++aa B).Nodup&&below A R&&below B R&&(x&&y)))):=by
 refine gW ?_;cases t with
 |false =>
  rw[ae (d:=aK) rfl rfl]
  rfl
 |true =>
  have J:=CP (n+1) [A,B] (λR z=>by
   rcases tf.mp z with rfl|z
   .exact⟨gA.1,fA⟩
   .rcases tf.mp z with rfl|z
    .exact⟨U.1,fB⟩
    .cases z) (by simp)
  simp only[JO,map_nil,flatten_cons,flatten_nil,K0]at J;have Y:=jJ n A R gA g;have Z:=jJ n B R U g;have e3:ab defs (n+5) 33 [.val (.tup [.str "either",ofR A,p,ofR B,q]),.val (ofR R)]=some (.bl (decide (aa A++aa B).Nodup&&below A R&&below B R&&(x&&y))):=by
   rw[ae (d:=gG) rfl rfl];generalize decide (aa A++aa B).Nodup=b0 at J ⊢;generalize below A R=b1 at Y ⊢;generalize below B R=b2 at Z ⊢;refine(aM rfl (aM rfl (JI (FT (vV (ac rfl J)) λ_=>FT (vV (ac rfl Y)) λ_=>vV (ac rfl Z)) rfl λ_=>gI (cV (ac rfl hp) λ_=>ac rfl hq)))).trans ?_;cases b0<;>cases b1<;>cases b2<;>rfl
  rw[ae (d:=aK) rfl rfl];exact aM rfl (aV rfl (aV rfl (aV rfl (aV rfl (aV rfl (cA rfl (ac rfl e3)))))))
noncomputable def aY(r:Int×Option Int×PV):PV:=.tup [.int r.1,cf r.2.1,r.2.2]
noncomputable def bh2(h:Bool)(R:LL)(a:Int)(r:Option Int):LL:=bhd h (bhd (!h) R (some a)) r
def iP{R:LL}(g:ax R)(a)(r):ax (bh2 h R a r):=bU (bU g _) _
def mq(n:Nat)(R:LL)(g:ax R)(h:Bool)(a:Int)(r:Option Int):ab defs (n+4) 9 [.val (ofR R),.val (.str (ag h)),.val (.int a),.val (cf r)]=some (ofR (bh2 h R a r)):=by
 rw[ae (d:=jm) rfl rfl];exact gI (ac (dJ (ac (ik rfl (dJ (ac rfl (ml (n+2) h)) rfl)) (fD n R g (!h) (some a))) rfl) (fD n _ (bU g _) h r))
theorem nV(n:Nat)(R:LL)(g:ax R)(h:Bool)(U:Option MV)(b:Int×Option Int×PV->Bool):∀(z:List (Int×Option Int×PV)),(∀r∈z,ab defs (n+4) 29 [.val r.2.2,.val (ofR (bh2 h R r.1 r.2.1)),.val (.str (ag (!h))),.val (.str (ag h))]=some (.bl (b r)))->∀Y Z x5:Option MV,
  (z.all b=true/\∃y3 y4 y5,aw (λx l=>cG (d7 [3,4,5] x l) λJ=>exs (ab defs (n+4)) aI J) (z.map aY) [U,sv (ofR R),sv (.str (ag h)),Y,Z,x5]=.next [U,sv (ofR R),sv (.str (ag h)),y3,y4,y5]) \/
  (z.all b=false/\aw (λx l=>cG (d7 [3,4,5] x l) λJ=>exs (ab defs (n+4)) aI J) (z.map aY) [U,sv (ofR R),sv (.str (ag h)),Y,Z,x5]=.ret (.bl false))
 | [],_,Y,Z,x5=>.inl ⟨rfl,Y,Z,x5,rfl⟩
 |r::z,hr,Y,Z,x5=>by
  have e1:=hr r (.head _);have e2:=mq n R g h r.1 r.2.1;have e3:=ml (n+3) h;have turn:∀k,(cG (d7 [3,4,5] (aY r) [U,sv (ofR R),sv (.str (ag h)),Y,Z,x5]) k)=k [U,sv (ofR R),sv (.str (ag h)),sv (.int r.1),sv (cf r.2.1),sv r.2.2]:=λk=>rfl
  rw[JO,all_cons];cases hb:b r with
  |false =>
   rw[hb]at e1;refine .inr ⟨rfl,?_⟩;rw[aw,turn,show exs (ab defs (n+4)) aI [U,sv (ofR R),sv (.str (ag h)),sv (.int r.1),sv (cf r.2.1),sv r.2.2]=.ret (.bl false)from by simp[aI,exs,ex,ev,evB,evA,e1,e2,e3]]
  |true =>
   rw[hb]at e1;have eb:exs (ab defs (n+4)) aI [U,sv (ofR R),sv (.str (ag h)),sv (.int r.1),sv (cf r.2.1),sv r.2.2]=.next [U,sv (ofR R),sv (.str (ag h)),sv (.int r.1),sv (cf r.2.1),sv r.2.2]:=by simp[aI,exs,ex,ev,evB,evA,e1,e2,e3]
   have st:=uM (body:=λx l=>cG (d7 [3,4,5] x l) λJ=>exs (ab defs (n+4)) aI J) (x:=aY r) (xs:=z.map aY) ((turn _).trans eb);rw[st,Nk];exact nV n R g h U b z (λr a1=>hr r (.tail _ a1)) _ _ _
def JJ(a b):cu .ne (ofL a) (ofL b)=some (!decide (a=b)):=by
 rw[FN,if_pos (show t_ _ _=true from rfl),H_]
 rfl
def CT(n:Nat)(R:LL)(g:ax R)(U:R.flatten.length<=4000)(h:Bool)(b:Int×Option Int×PV->Bool)(z:List (Int×Option Int×PV))(Y:z.length<=10000)(Z:∀r∈z,ab defs (n+4) 29 [.val r.2.2,.val (ofR (bh2 h R r.1 r.2.1)),.val (.str (ag (!h))),.val (.str (ag h))]=some (.bl (b r))) :
  ab defs (n+5) 32 [.val (.tup (z.map aY)),.val (ofR R),.val (.str (ag h))]=some (.bl (decide (z.map (·.1)=aa R)&&z.all b)):=by
 rw[ae (d:=gF) rfl rfl];have c1:∀W:Rho,ev (ab defs (n+4)) (.comp .seq [.bor 0] [] (.cst (.bl true)) (ix 0 0)) (sv (.tup (z.map aY))::W)=some (ofL (z.map (·.1))):=λW=>by
  refine(dw (g:=aY) (h:=λr=>.int r.1) (vs:=[.tup (z.map aY)]) (by simp[evs,ev]) rfl Y λr _=>?_).trans (by unfold ofL;rw[JT];rfl);simp[ev,place,cv,aY]
 have e1:ev (ab defs (n+4)) (.cmp .ne (.comp .seq [.bor 0] [] (.cst (.bl true)) (ix 0 0)) (.call 5 [.bor 1])) [sv (.tup (z.map aY)),sv (ofR R),sv (.str (ag h)),none,none,none]=some (.bl (!decide (z.map (·.1)=aa R))):=by
  rw[cw (c1 _) (ac (vs:=[.val (ofR R)]) (by simp[evA]) (cW (n+2) R g.1 U)),JJ]
  rfl
 show bc (exs (ab defs (n+4)) [.ite _ [.ret _] [],.forT [3,4,5] .seq [.bor 0] aI,.ret _] [sv (.tup (z.map aY)),sv (ofR R),sv (.str (ag h)),none,none,none])=_;rw[au,ex,uL e1,ny];cases decide (z.map (·.1)=aa R)with
 |false=>rfl
 |true =>
  rw[LZ,if_neg (by decide),exs,aX,au,vS (xs:=z.map aY) (by simp[evs,ev]),Nk];show bc ((MM.R.back _ _ (aw _ _ [sv (.tup (z.map aY)),sv (ofR R),sv (.str (ag h)),none,none,none])).andThen _)=_;rcases nV n R g h (sv (.tup (z.map aY))) b z Z none none none with⟨J,y3,y4,y5,e⟩|⟨J,e⟩
  .rw[e,J,dF,aX,au,eQ (dy _ _ _)]
   rfl
  .rw[e,J]
   rfl
def v3{n:Nat}{R:LL}(g:ax R)(Y:R.flatten.length<=4000){b:Int×Option Int×PV->Bool}{J:List (Int×Option Int×PV)}(Z:J.length<=10000)(hr:∀r∈J,ab defs (n+4) 29 [.val r.2.2,.val (ofR (bh2 false R r.1 r.2.1)),.val (.str (ag true)),.val (.str (ag false))]=some (.bl (b r))) :
  ab defs (n+7) 29 [.val (.tup [.str "cases",.tup (J.map aY)]),.val (ofR R),.val (.str (ag true)),.val (.str (ag false))]=some (.bl (!decide (aa R=[])&&(decide (J.map (·.1)=aa R)&&J.all b))):=by
 have U:=CT n R g Y false b J Z hr;generalize J.all b=y at U ⊢;generalize decide (J.map (·.1)=aa R)=z at U ⊢;generalize J.map aY=V at U ⊢;refine gW ?_;rw[ae (d:=aK) rfl rfl];have e2:=cW (n+3) R g.1 Y;have hz:decide ((0:Int)<((aa R).map PV.int).length)=!decide (aa R=[]):=by
  cases aa R<;>simp
 refine(aM rfl (aV rfl (aV rfl (aV rfl (aV rfl (cA rfl (cV ((cw (aS (ac rfl e2)) rfl).trans rfl) λ_=>ac rfl U))))))).trans ?_;rw[hz]
def nW (n:Nat) (R V:PV):ab defs (n+3) 29 [.val (.tup [.str "cases",V]),.val R,.val (.str (ag false)),.val (.str (ag false))]=some (.bl false):=by
 refine gW ?_;rw[ae (d:=aK) rfl rfl]
 rfl
def uP(n:Nat)(ns:List Int)(k b:Int)(z:0<=k)(r:Rho):ev (ab defs (n+2)) (.call 35 [(.call 34 [.bor 0,(ci k)]),(ci b)]) (some (.brw (ns.map .int))::r)=some (.int (fT (cellOf ns k) b)):=by
 have J:ev (ab defs (n+2)) (.call 34 [.bor 0,(ci k)]) (some (.brw (ns.map .int))::r)=some (.int (cellOf ns k)):=ac (vs:=[.brw (ns.map .int),.val (.int k)]) (by simp[evA,ev]) (Ap (n+1) (.brw (ns.map .int)) ns k rfl z);exact ac (vs:=[.val (.int (cellOf ns k)),.val (.int b)]) (by simp only[evA];rw[J];simp[ev]) (mj (n+1) (cellOf ns k) b)
def iQ(h)(R)(a)(r):(bh2 h R a r).flatten.length<=R.flatten.length:=r4 (eE _ _ _) (eE _ _ _)
def dZ(n:Nat)(R:LL)(h:Int)(g:ax R):ab defs (n+1) 36 [.val (ofR R),.val (.int h)]=some (ofR (bT h R)):=by
 rw[ae (d:=fY) rfl rfl];have U:R.length<=10000:=by have:=g.2.2;omega
 simp[fY,exs,ex,ev,evs,U];rw[g9 (h:=λY=>ofS (drp h Y))]
 .have e:(R.map λc=>ofS (drp h c))=(R.map (drp h)).map ofS:=by rw[JT];rfl
  have z:(R.map (drp h)).length<64:=by rw[nR];have:=g.2.2;omega
  rw[e];simp[-List.map_map,i4 z,bT]
 .intro c _;simp[ev]
 .intro c hc;have U:=aL (g.1 c hc);have J:c.length<=10000:=by omega
  simp[ev,evs,evA,cv,J];rw[ce (p:=λx=>!decide (x=h)) (h:=PV.int)]
  .simp[drp]
  .intro x _;simp[ev,cv,vY]
  .intro x _ _;simp[ev,cv]
def ib(n:Nat)(R:LL)(h:Int)(J:R.length<=10000):ab defs (n+1) 37 [.val (ofR R),.val (.int h)]=some (ofR (bg h R)):=by
 rw[ae (d:=hW) rfl rfl];simp[hW,exs,ex,ev,evs,J];rw[ce (p:=λz=>!decide (h∈z)) (h:=ofS)]
 .simp[bg]
 .intro z _;simp[ev,cv,bH]
 .intro z _ _;simp[ev,cv]
def CU(n:Nat)(R:LL)(g:ax R)(h:Bool)(r:Option Int):ab defs (n+2) 43 [.val (ofR R),.val (.str (ag h)),.val (cf r)]=some (ofR (bhd h R r)):=by
 rw[ae (d:=nH) rfl rfl];cases r with
 |none=>rfl
 |some i =>
  cases h
  .exact aV rfl (aV rfl (gI (ac rfl (dZ n R i g))))
  .exact aV rfl (cA rfl (ac rfl (ib n R i (by have:=g.2.2;omega))))
noncomputable def bY(r:LL×PV):PV:=.tup [ofR r.1,r.2]
def AE (v:PV):Prop:=v=.tup [.str "whole"]\/v=.tup [.str "weight"]
def xv{R:LL}(h:∃t∈R,sub t s=true):qP s R≠none:=λz=>by
 obtain⟨t,J,q⟩:=h;have:=findIdx?_eq_none_iff.mp z t J
 simp_all
def eF(h:∀s∈A,∃t∈B,sub t s=true):below A B=true:=by
 unfold below AD;rw[Kb,mem_map];rintro ⟨s,hs,e⟩;exact xv (h s hs) e
def cN(h:below A B=true):∀s∈A,∃t∈B,sub t s=true:=λs hs=>by
 cases e:qP s B with
 |none =>
  unfold below AD at h;rw[Kb]at h;exact absurd (mem_map.mpr ⟨s,hs,e⟩) h
 |some k =>
  obtain⟨z,q,_⟩:=findIdx?_eq_some_iff_getElem.mp e;exact⟨_,ML z,q⟩
def pN(r:Option Int):Prop:=∀x,r=some x->0<=x/\x<=59
inductive WP:Nat->Nat->LL->PV->Prop where
 | leaf {d b:Nat}{R:LL}{v:PV} (h:AE v) (hb:(aa R).length<=b):WP d b R v
 | one {d b c:Nat}{R:LL}{v:PV} (r:Option Int) (hr:pN r) (hc:b+1<=c) (h:WP d b (bhd false R r) v):WP (d+1) c R (.tup [.str "knot",cf r,v])
 | cases {d b c:Nat}{R:LL} (rows:List (Int×Option Int×PV)) (hl:rows.length<=10000) (hq:∀r∈rows,pN r.2.1/\b+1<=c) (h:∀r∈rows,WP d b (bh2 false R r.1 r.2.1) r.2.2):WP (d+1) c R (.tup [.str "cases",.tup (rows.map aY)])
 | fewer {d b:Nat}{R:LL}{v:PV} (A:LL) (gA:ax A) (fA:A.flatten.length<=4000) (h:WP d b A v):WP (d+1) b R (.tup [.str "fewer",ofR A,v])
 | either {d b:Nat}{R:LL}{v w:PV} (A B:LL) (gA:ax A) (gB:ax B) (fA:A.flatten.length<=4000) (fB:B.flatten.length<=4000) (h:WP d b A v) (h':WP d b B w):WP (d+1) b R (.tup [.str "either",ofR A,v,ofR B,w])
def v4{α J:Type} [Inhabited J] {P:α->J->Prop}{l:List α} (h:∀r∈l,∃b,P r b):∃f:α->J,∀r∈l,P r (f r):=by
 obtain⟨f,Y⟩:=Classical.axiomOfChoice (r:=λr b=>r∈l->P r b) λr=>by
  by_cases U:r∈l
  .obtain⟨b,q⟩:=h r U;exact⟨b,λ_=>q⟩
  .exact⟨default,λz=>absurd z U⟩
 exact⟨f,Y⟩
def up1 :∀{e},d+1<=e->∃x,e=x+1/\d<=x
 |x+1,h=>⟨x,rfl,Nat.le_of_succ_le_succ h⟩
def upN(k:Nat)(h:m+c<=N)(z:k<=c:=by decide):∃n,N=n+k:=⟨N-k,(Nat.sub_add_cancel (r4 z (r4 (Lv c m) h))).symm⟩
def xc1{v:PV}{r:Rho}(h:cal (f+2000) [.mutD (.p ns)]=some (.tup [v,.dI (.p z)])):evX cal (.call f [true] [.bor 0]) (some (.mutD (.p ns))::r)=some (v,some (.mutD (.p z))::r):=by simp_all [evX,rP,evM,gr,jX,fF]
def xc3(Z:evA cal [e] (some (.mutD (.p ns))::r)=some [.val w])(J:evA cal [U] (some (.mutD (.p ns))::r)=some [.val Y])(h:cal (f+2000) [.mutD (.p ns),.val w,.val Y]=some (.tup [v,.dI (.p z)])):evX cal (.call f [true,false,false] [.bor 0,e,U]) (some (.mutD (.p ns))::r)=some (v,some (.mutD (.p z))::r):=by simp_all [evX,rP,evM,gr,jX,fF]
def nX(h:ev cal e W=some v):exs cal (.retM e::ms) W=.retM v W:=by
 rw[au,ex,h];rfl
def k9(h:evX cal x W=some (v,l)):exs cal (.retXE x::ms) W=.retM v l:=by
 rw[au,ex,h];rfl
def ku(h:ev cal c W=some (.bl false))(k:exs cal ms W=r):exs cal (.ite c a []::ms) W=r:=by simp_all [bi,exs]
def lE(h:ev cal c W=some (.bl true))(k:exs cal a W=.retM v l):exs cal (.ite c a b::ms) W=.retM v l:=by
 rw[au,bi h,if_pos rfl,k];rfl
def nY(h:evX cal x W=some (v,l))(k:exs cal ms (put l i (.val v))=r):exs cal (.setX i x::ms) W=r:=by
 rw[au,ex,h];exact k
def AF(cal:Cal):Prop:=∀ns,∃(x:Int) (z:List Int),0<=x/\cal (42+2000) [.mutD (.p ns)]=some (.tup [.int x,.dI (.p z)])
def FX(n):AF (ab defs (n+2)):=λns=>by
 rw[i5 (d:=hZ) (by decide) rfl rfl];by_cases z:ns=[]
 .subst z;refine⟨0,[],L0 _,?_⟩;have e:exs (ab defs (n+1)) hZ.body [some (.mutD (.p []))]=.retM (.int 0) [some (.mutD (.p []))]:=ku (by simp[ev,ub]) (nX (by simp[ev]));show sx _ (exs _ _ [some (.mutD (.p []))])=_;rw[e];simp[sx,eI]
 .obtain⟨l,x,rfl⟩:∃l x,ns=l++[x]:=⟨ns.dropLast,ns.getLast z,(dropLast_concat_getLast z).symm⟩;refine⟨fT x 2049848353892358983,l,fb _ _,?_⟩;have em:=mj n x 2049848353892358983;have e:exs (ab defs (n+1)) hZ.body [some (.mutD (.p (l++[x])))]=.retM (.int (fT x 2049848353892358983)) [some (.mutD (.p l))]:=lE (by simp[ev,ub]) (k9 (by simp[evX,BV,gr,fF,evA,ev,em]));show sx _ (exs _ _ [some (.mutD (.p (l++[x])))])=_;rw[e];simp[sx,eI]
def dz(h:ev cal e W=some v)(k:evXs cal xs W=some (vs,l)):evXs cal (.pure e::xs) W=some (v::vs,l):=by simp_all [evXs,evX]
def i_(h:evX cal x W=some (v,l)):evXs cal [x] W=some ([v],l):=by simp_all [evXs]
def nZ(h:evXs cal xs W=some (vs,l))(z:vs.length<=10000:=by simp):evX cal (.tup xs) W=some (.tup vs,l):=by simp_all [evX]
def xc5(h1:evA cal [J] (some (.mutD (.p ns))::r)=some [.val U])(h2:evA cal [Y] (some (.mutD (.p ns))::r)=some [.val Z])(h3:evA cal [e3] (some (.mutD (.p ns))::r)=some [.val w3])(h4:evA cal [e4] (some (.mutD (.p ns))::r)=some [.val w4])(h:cal (f+2000) [.mutD (.p ns),.val U,.val Z,.val w3,.val w4]=some (.tup [v,.dI (.p z)])):evX cal (.call f [true,false,false,false,false] [.bor 0,J,Y,e3,e4]) (some (.mutD (.p ns))::r)=some (v,some (.mutD (.p z))::r):=by simp_all [evX,rP,evM,gr,jX,fF]
def xcO(hi:(W[i]?).join=some (.ownD (.p ns)))(h1:evA cal [J] W=some [.val U])(h2:evA cal [Y] W=some [.val Z])(h3:evA cal [e3] W=some [.val w3])(h4:evA cal [e4] W=some [.val w4])(h:cal (f+2000) [.mutD (.p ns),.val U,.val Z,.val w3,.val w4]=some (.tup [v,.dI (.p z)])):evX cal (.call f [true,false,false,false,false] [.bor i,J,Y,e3,e4]) W=some (v,W.set i (some (.ownD (.p z)))):=by simp_all [evX,rP,evM,gr,jX,fF]
def FY{ns:List Int}(h:ev cal e W=some (.lst (ns.map .int))):ex cal (.setP i e) W=.next (put W i (.ownD (.p ns.reverse))):=by
 rw[ex,h];simp[br]
def Ir(cal)(W):ev cal (.bin .pow (ci 2) (ci 60)) W=some (.int 1152921504606846976):=rfl
def Iu(cal)(s)(z:s.length<=60)(r):ev cal (.bin .shr (.bin .pow (ci 2) (ci 60)) (.blt .len [.bor 0])) (sv (ofS s)::r)=some (.int (wgt s)):=by
 rw[bW (Ir _ _) (y:=.int (s.length:Int)) (by simp[ev,evs])];show(if 0<=(s.length:Int)then some _ else none)=_;rw[if_pos (by omega),Int.toNat_natCast,sH _ z]
 rfl
def FZ{ns:List Int}(h:ev cal e W=some (.lst (ns.map .int))):ev cal (.blt .sum [e]) W=some (.int ns.sum):=by
 rw[aS h];show((a_ _).map λns=>PV.int ns.sum)=_;rw[br]
 rfl
noncomputable def aB(R:LL)(h:Int):Int:=(R.map λs=>if h∈s then wgt s else 0).sum
def sN(n:Nat)(R:LL)(g:ax R):∃d,ab defs (n+2) 17 [.val (ofR R)]=some (.dI (.k d))/\h_ d (aB R)/\gK d (λk=>∃s∈R,k∈s)/\d.length<=3600:=by
 have hl:=g.2.2;obtain⟨d,l,e,⟨x,y,rfl⟩,hd,U,Y⟩:=Iq (R:=R) (ge:=ofS) (m:=id) (w:=wgt) (top:=60) (body:=λv l=>exs (ab defs (n+1)) pD (put l 2 (.val v))) (I:=λd W=>∃x y,W=[sv (ofR R),some (.ownD (.k d)),x,y]) (d:=[]) (W:=[sv (ofR R),some (.ownD (.k [])),none,none]) (f:=λ_=>0) (P:=λ_=>False)
  (by
   rintro s hs d W f P ⟨x,y,rfl⟩ hd U hl;have gs:=g.1 s hs;have Z:=aL gs;have ew:=vZ n s Z;obtain⟨d',l,e,⟨y',rfl⟩,r⟩:=FU (xs:=s) (g:=.int) (w:=wgt s) (body:=λv l=>exs (ab defs (n+1)) pC (put l 3 (.val v))) (I:=λd W=>∃y,W=[sv (ofR R),some (.ownD (.k d)),sv (ofS s),y]) (d:=d) (W:=[sv (ofR R),some (.ownD (.k d)),sv (ofS s),y])
    (by
     rintro z _ d W f ⟨y,rfl⟩ hd hl;have eg:ev (ab defs (n+1)) (.dget (.bor 1) (.bor 3) (ci 0)) [sv (ofR R),some (.ownD (.k d)),sv (ofS s),sv (.int z)]=some (.int (f z)):=by
      rw[<- sI hd z];simp[ev]
     have es:ev (ab defs (n+1)) (.bin .add (.dget (.bor 1) (.bor 3) (ci 0)) (.call 15 [.bor 2])) [sv (ofR R),some (.ownD (.k d)),sv (ofS s),sv (.int z)]=some (.int (f z+wgt s)):=by
      rw[ev,eg,ac (vs:=[.val (ofS s)]) (by simp[evA]) ew]
      rfl
     have ao:d.length<10000:=by omega
     refine⟨_,⟨sv (.int z),rfl⟩,?_⟩;show exs (ab defs (n+1)) [_] [sv (ofR R),some (.ownD (.k d)),sv (ofS s),sv (.int z)]=_;rw[au,ex,es];simp[ev,ao,exs])
    (dq gs.1) ⟨y,rfl⟩ hd U (by omega)
   refine⟨d',_,?_,⟨sv (ofS s),y',rfl⟩,r.1,r.2.1,by have:=r.2.2;omega⟩;have J:(evs (ab defs (n+1)) [.bor 2] [sv (ofR R),some (.ownD (.k d)),sv (ofS s),y]).bind (bj .seq)=some (s.map .int):=by simp[evs,ev]
   show exs (ab defs (n+1)) [_] [sv (ofR R),some (.ownD (.k d)),sv (ofS s),y]=_;rw[au,dY J,show bL [.bor 2] [sv (ofR R),some (.ownD (.k d)),sv (ofS s),y]=[sv (ofR R),some (.ownD (.k d)),sv (ofS s),y]from rfl,e,dF,aX];simp[exs,aP])
  ⟨none,none,rfl⟩ sJ sK (by simp;omega)
 refine⟨d,?_,?_,?_,by simp at Y;omega⟩
 .rw[ae (d:=vP) rfl rfl];have J:(evs (ab defs (n+1)) [.bor 0] [sv (ofR R),some (.ownD (.k [])),none,none]).bind (bj .seq)=some (R.map ofS):=by simp[evs,ev]
  show bc (exs (ab defs (n+1)) (_::_::[_]) [sv (ofR R),none,none,none])=_;simp only[au];rw[show ex (ab defs (n+1)) (.newD false 1) [sv (ofR R),none,none,none]=.next [sv (ofR R),some (.ownD (.k [])),none,none]from by rw[ex];rfl,aX,dY J,show bL [.bor 0] [sv (ofR R),some (.ownD (.k [])),none,none]=[sv (ofR R),some (.ownD (.k [])),none,none]from rfl,e,dF,aX];simp[exs,ex,aP]
 .have ef:(λj=>(0:Int)+(R.map λs=>if j∈id s then wgt s else 0).sum)=aB R:=by funext j;rw[Int.zero_add];rfl
  rw[<- ef];exact hd
 .refine⟨U.1,λk=>?_⟩;rw[U.2 k];simp
def CV(n:Nat)(R:LL)(g:ax R):∃d,ab defs (n+2) 17 [.val (ofR R)]=some (.dI (.k d))/\h_ d (aB R)/\gK d (λk=>∃s∈R,k∈s):=by
 obtain⟨d,h1,h2,z,_⟩:=sN n R g;exact⟨d,h1,h2,z⟩
def sO(R)(h):((R.filter λs=>decide (h∈s)).map wgt).sum=aB R h:=by
 unfold aB
 induction R with
 |nil=>rfl
 |cons s R ih =>
  by_cases q:h∈s
  .simp_all
  .simp_all
def CW(cal)(R)(g:ax R)(h)(a b x):ev cal (.blt .sum [(.comp .seq [.bor 0] [3] (.cmp .isIn (.bor 1) (.bor 0)) (.bin .shr (.bin .pow (ci 2) (ci 60)) (.blt .len [.bor 0])))]) [sv (ofR R),a,b,sv (.int h),x]=some (.int (aB R h)):=by
 rw[FZ (ns:=(R.filter λs=>decide (h∈s)).map wgt) ?_,sO];rw[ev,show evs cal [.bor 0] [sv (ofR R),a,b,sv (.int h),x]=some [ofR R]from by simp[evs,ev],bind_some,CL,CF,bind_some,if_pos (by rw[nR];have:=g.2.2;omega),ce (p:=λs=>decide (h∈s)) (h:=λs=>.int (wgt s)),JT]
 .rfl
 .intro s _;simp[ev,cv,bH]
 .intro s hs _;exact Iu _ s (aL (g.1 s hs)) _
noncomputable def im(f:Int->Int)(p:Option Int×Int)(h:Int):Option Int×Int:=if p.2<f h then(some h,f h)else p
theorem pO(cal)(R)(g:ax R):∀(hs:List Int) p x y,∃z J,aw (λv l=>exs cal d9 (put l 3 (.val v))) (hs.map .int) [sv (ofR R),sv (cf p.1),sv (.int p.2),x,y]=.next [sv (ofR R),sv (cf (hs.foldl (im (aB R)) p).1),sv (.int (hs.foldl (im (aB R)) p).2),z,J]
 | [],p,x,y=>⟨x,y,rfl⟩
 |h::hs,p,x,y=>by
  have e:=CW cal R g h (sv (cf p.1)) (sv (.int p.2)) y;rw[JO,aw];have st:exs cal d9 (put [sv (ofR R),sv (cf p.1),sv (.int p.2),x,y] 3 (.val (.int h)))=.next [sv (ofR R),sv (cf (im (aB R) p h).1),sv (.int (im (aB R) p h).2),sv (.int h),sv (.int (aB R h))]:=by
   simp only[cI,cJ,d9];refine bN e ?_;simp only[cI,cJ,im];by_cases q:p.2<aB R h
   .simp[exs,ex,ev,evB,q,cf]
   .simp[exs,ex,ev,evB,q]
  rw[st];exact pO cal R g hs _ _ _
noncomputable def cE(R:LL):Option Int:=((aa R).foldl (im (aB R)) (none,0)).1
def F0(n:Nat)(R:LL)(g:ax R):ab defs (n+2) 39 [.val (ofR R)]=some (cf (cE R)):=by
 obtain⟨x,y,e⟩:=pO (ab defs (n+1)) R g (aa R) (none,0) none none;rw[ae (d:=pF) rfl rfl];have z:∀W:Rho,ev (ab defs (n+1)) (.call 38 [.bor 0]) (sv (ofR R)::W)=some (ofL (aa R)):=λW=>ac (vs:=[.val (ofR R)]) (by simp[evA]) (i6 n R g.1)
 show bc (exs (ab defs (n+1)) [.set 1 _,.set 2 _,.for1 3 .seq [(.call 38 [.bor 0])] d9,.ret _] [sv (ofR R),none,none,none,none])=_;refine aM (dy _ _ _) (aM (dy _ _ _) (eT (l:=[sv (ofR R),sv (cf (cE R)),sv (.int ((aa R).foldl (im (aB R)) (none,0)).2),x,y]) ?_ (gI (v:=cf (cE R)) ?_)))
 .simp only[cI,cJ];rw[dY (xs:=(aa R).map .int) (by rw[evs,z];rfl)];show(MM.R.back _ _ (aw _ _ [sv (ofR R),sv (cf none),sv (.int 0),none,none]))=_;rw[e]
  rfl
 .cases cE R<;>simp[ev,cf]
theorem pP :∀(hs:List Int) p,(hs.foldl (im f) p).1=some x->x∈hs\/p.1=some x
 | [],_,e=>.inr e
 |h::hs,p,e=>by
  rcases pP hs (im f p h) e with z|z
  .exact .inl (.tail _ z)
  .unfold im at z;split at z
   .simp_all
   .exact .inr z
def AG{R:LL}(e:cE R=some x):x∈aa R:=(pP _ _ e).resolve_right λz=>by cases z
def AH(n:Nat)(R:LL)(g:ax R)(p:Int):∃r:Option Int,pN r/\ab defs (n+3) 44 [.val (ofR R),.val (.int p)]=some (cf r):=by
 have e:=F0 n R g;rw[ae (d:=eA) rfl rfl];by_cases z:p % 8=0
 .exact⟨none,(λx e=>by cases e),by simp[eA,exs,ex,ev,evB,z,cf]⟩
 .by_cases h1:p % 8=1
  .exact⟨some (p / 8 % 60),(λx e=>by cases e;have:=Kw (p / 8) (b:=60) (by decide);have:=Kp (p / 8) (b:=60) (by decide);omega),by simp[eA,exs,ex,ev,evB,h1,cf]⟩
  .exact⟨cE R,(λx e=>(bm g.1).2 x (AG e)),by simp[eA,exs,ex,ev,evB,evA,z,h1,e]⟩
def AI(n:Nat)(R:LL)(t:Bool)(p:Int):∃v,AE v/\ab defs (n+3) 46 [.val (ofR R),.val (.str (ag t)),.val (.str (ag false)),.val (.int p)]=some v:=by
 rw[ae (d:=lC) rfl rfl];have k:∀b:Bool,isIn (ofS []) (R.map ofS)=some b->∀W:Rho,ev (ab defs (n+2)) (.idx (.lst [(.tup [(cs "weight")]),(.tup [(cs "whole")])]) (.blt .intOf [(.cmp .isIn (.tup []) (.bor 0))])) (sv (ofR R)::W)=some (.tup [.str ((if b=true then "whole" else "weight":String):PySem.Str)]):=λb z W=>(eR rfl (aS (Aq z rfl rfl))).trans (by cases b<;>rfl)
 refine⟨_,?_,cA rfl (k _ (jE [] R) _)⟩;cases decide ([]∈R)
 .exact .inr rfl
 .exact .inl rfl
theorem n6(cal:Cal)(a0 a2 a3 a6:Option MV)(base Y z U:Int)(hb:0<=base)(b1:base<=48)(ho:0<=Y)(hm:0<z)(hs:Y+z<=12)(hk:gp (.lst [.int 0,.int 4,.int 8,.int 0]) (.int U)=some (.int Y)):∀(xs:List PV) (left:Int) (J:List Int) (k ao:Option MV),J.Nodup->(∀x∈J,base<=x/\x<=base+11)->J.length+xs.length<=100 ->
  ∃(a1:Int) (Z:List Int) (k' a4:Option MV),aw (λx l=>exs cal bx (put l 9 (.val x))) xs [a0,sv (.int base),a2,a3,sv (.int left),sv (.int U),a6,sv (.int z),some (.own (J.map .int)),k,ao]=.next [a0,sv (.int base),a2,a3,sv (.int a1),sv (.int U),a6,sv (.int z),some (.own (Z.map .int)),k',a4]/\Z.Nodup/\(∀x∈Z,base<=x/\x<=base+11)/\Z.length<=J.length+xs.length
 | [],left,J,k,ao,h1,h2,_=>⟨left,J,k,ao,rfl,h1,h2,gx _⟩
 |x::xs,left,J,k,ao,h1,h2,h3=>by
  rw[length_cons]at h3;have m0:0<=left % z:=Kw _ (by omega);have m1:left % z<z:=Kp _ hm;have b4:J.length<10000:=by omega
  have aO:z<1073741824:=by omega
  rw[aw];have e:exs cal bx (put [a0,sv (.int base),a2,a3,sv (.int left),sv (.int U),a6,sv (.int z),some (.own (J.map .int)),k,ao] 9 (.val x))=.next [a0,sv (.int base),a2,a3,sv (.int (left / z)),sv (.int U),a6,sv (.int z),some (.own ((if base+Y+left % z∈J then J else J++[base+Y+left % z]).map .int)),sv x,sv (.int (base+Y+left % z))]:=by
   by_cases q:base+Y+left % z∈J
   .simp[bx,exs,ex,ev,evs,evB,hk,hm,aO,bH,q]
   .simp[bx,exs,ex,ev,evs,evB,hk,hm,aO,bH,q,b4]
  rw[e];obtain⟨l',Z,k',o',f1,f2,f3,f4⟩:=n6 cal a0 a2 a3 a6 base Y z U hb b1 ho hm hs hk xs (left / z) (if base+Y+left % z∈J then J else J++[base+Y+left % z]) (sv x) (sv (.int (base+Y+left % z))) (by
   split
   .exact h1
   .rename_i q;exact LQ.mpr ⟨h1,by simp,λa ha b hb e=>by rw[JY.mp hb]at e;exact q (e▸ha)⟩) (by
   split
   .exact h2
   .intro y hy;rcases La.mp hy with hy|hy
    .exact h2 y hy
    .rw[JY.mp hy];omega) (by
   split
   .omega
   .rw[wh,length_singleton];omega)
  refine⟨l',Z,k',o',f1,f2,f3,?_⟩;rw[length_cons];split at f4
  .omega
  .rw[wh,length_singleton]at f4;omega
def n8(h:(evs cal src W).bind (bj k)=some xs)(e:aw (λx l=>exs cal body (put l i (.val x))) xs (bL src W)=.next l)(q:exs cal ms (aP src W l)=r):exs cal (.for1 i k src body::ms) W=r:=by simp_all [au,dY]
def AJ(n:Nat)(c base z U:Int)(h1:0<=base)(h2:base<=48)(h3:3<=z)(h4:z<=4)(h5:0<=U)(h6:U<=2):∃s,(cm s/\s.length<=4)/\(∀h∈s,base<=h/\h<=base+11)/\ab defs (n+2) 41 [.val (.int c),.val (.int base),.val (.int z),.val (.int U)]=some (ofS s):=by
 rw[ae (d:=fQ) rfl rfl];have em:=mj n c 1181783497276652981;generalize fT c 1181783497276652981=l at em;have hp:0<z:=by omega
 have a7:z<1073741824:=by omega
 obtain⟨J,hs⟩:∃x,x=l % z:=⟨_,rfl⟩;obtain⟨size,hz⟩:∃x,x=U+l / z % 3:=⟨_,rfl⟩;have q0:0<=J:=by rw[hs];exact Kw _ (by omega)
 have q1:J<4:=by have:=Kp l hp;omega
 have s0:0<=size:=by omega
 have s1:size<=4:=by omega
 obtain⟨Y,ao,a1,a2,a3,a4,a5⟩:∃Y ao:Int,0<Y/\0<=ao/\ao+Y<=12/\gp (.lst [.int 4,.int 4,.int 4,.int 12]) (.int J)=some (.int Y)/\gp (.lst [.int 0,.int 4,.int 8,.int 0]) (.int J)=some (.int ao):=by
  obtain rfl|rfl|rfl|rfl:J=0\/J=1\/J=2\/J=3:=by omega
  .exact⟨4,0,by decide,by decide,by decide,rfl,rfl⟩
  .exact⟨4,4,by decide,by decide,by decide,rfl,rfl⟩
  .exact⟨4,8,by decide,by decide,by decide,rfl,rfl⟩
  .exact⟨12,0,by decide,by decide,by decide,rfl,rfl⟩
 obtain⟨l',Z,k',o',e,g1,g2,g3⟩:=n6 (ab defs (n+1)) (sv (.int c)) (sv (.int z)) (sv (.int U)) (sv (.int size)) base ao Y J h1 h2 a2 a1 a3 a5 ((range size.toNat).map λ(k:Nat)=>PV.int (k:Int)) (l / z / 3) [] none none K5 (λ_ h=>by cases h) (by simp;omega);have g3:Z.length<=4:=by rw[nR,Mu,length_nil]at g3;omega
 have aO:∀h∈sortI Z,base<=h/\h<=base+11:=λh hh=>g2 h (kZ.mp hh)
 refine⟨sortI Z,⟨⟨sA g1,λh hh=>⟨Lg h1 (aO h hh).1,Lg (aO h hh).2 (by omega)⟩⟩,by rw[sortI_len];exact g3⟩,aO,?_⟩;show bc (exs (ab defs (n+1)) (_::_::_::_::_::_::_::_::[_]) [sv (.int c),sv (.int base),sv (.int z),sv (.int U),none,none,none,none,none,none,none])=_;refine aM (v:=.int l) (ac (vs:=[.val (.int c),.val (.int 1181783497276652981)]) (by simp[evA,ev]) em) (aM (v:=.int J) (by simp[ev,hp,hs]) (aM (v:=.int (l / z)) (by simp[ev,hp,a7]) (aM (v:=.int size) (by simp[ev,hz]) (aM (v:=.int (l / z / 3)) (by simp[ev]) (aM (v:=.int Y) (by rw[eR (y:=.int J) rfl rfl];exact a4) ?_)))));simp only[cI,cJ];refine eT (dG (xs:=[]) (by simp[ev,evs])) ?_;simp only[cI,cJ];refine J5 bc (n8 (r:=.ret (ofS (sortI Z))) (xs:=(range size.toNat).map λ(k:Nat)=>PV.int (k:Int)) ?_ e ?_)
 .rw[show evs (ab defs (n+1)) [.bor 6] [sv (.int c),sv (.int base),sv (.int z),sv (.int U),sv (.int (l / z / 3)),sv (.int J),sv (.int size),sv (.int Y),some (.own []),none,none]=some [.int size]from by simp[evs,ev],bind_some,g_ s0 (by omega)]
 .rw[au,eQ (v:=ofS (sortI Z))]
  .rfl
  .refine(aS (v:=ofL (sortI Z)) ?_).trans rfl;rw[aS (v:=ofL Z) rfl,jF,mi,bind_some,pB (by omega)]
noncomputable abbrev pG(G:LL):PV:=.lst (G.map ofS)
def CY(cal)(z a1 J U)(s)(G)(hG:G.length<=60)(Y:∀t∈G,t.length<=60):ev cal (.blt .any [(.comp .seq [.bor 5] [2] (.cst (.bl true)) (.blt .any [(.comp .seq [.bor 0] [1] (.cst (.bl true)) (.cmp .isIn (.bor 0) (.bor 1)))]))]) [z,a1,sv (ofS s),J,U,sv (pG G)]=some (.bl ((G.map λt=>(t.map λx=>decide (x∈s)).any id).any id)):=by
 have e:∀(xs:List Bool),av .any [.lst (xs.map .bl)]=some (.bl (xs.any id)):=λxs=>by rw[CG,jD];rfl
 rw[aS (v:=.lst ((G.map λt=>(t.map λx=>decide (x∈s)).any id).map .bl)),e];rw[JT];refine dw (vs:=[pG G]) (xs:=G) (g:=ofS) rfl rfl (by omega) λt Z=>?_
 rw[aS (v:=.lst ((t.map λx=>decide (x∈s)).map .bl)),e]
 .rfl
 rw[JT];refine dw (vs:=[ofS t]) (xs:=t) (g:=.int) rfl rfl (by have:=Y t Z;omega) λx _=>?_
 simp[ev,cv,bH]
theorem iR(cal)(Z a1)(s):∀(D:List (LL)) (z:LL) (J:List (LL)) (y:Option MV),(∀t∈D.flatten,t.length<=60)->z.length+D.flatten.length<=60->J.length+D.length<=60 ->
  ∃(U:LL) (Y:List (LL)) (y':Option MV),aw (λx l=>exs cal dW (put l 5 (.val x))) (D.map pG) [Z,a1,sv (ofS s),sv (pG z),some (.own (J.map pG)),y]=.next [Z,a1,sv (ofS s),sv (pG U),some (.own (Y.map pG)),y']/\(U++Y.flatten).Perm (z++J.flatten++D.flatten)/\Y.length<=J.length+D.length
 | [],z,J,y,_,_,_=>⟨z,J,y,rfl,by simp,gx _⟩
 |G::D,z,J,y,h1,h2,h3=>by
  rw[flatten_cons]at h1 h2;rw[wh]at h2;rw[length_cons]at h3;rw[JO,aw];have et:=CY cal Z a1 (sv (pG z)) (some (.own (J.map pG))) s G (by omega) λt ht=>h1 t (Mn _ ht)
  generalize ((G.map λt=>(t.map λx=>decide (x∈s)).any id).any id)=b at et;have aO:∀t∈D.flatten,t.length<=60:=λt ht=>h1 t (Kq _ ht)
  cases b with
  |true =>
   have e:exs cal dW (put [Z,a1,sv (ofS s),sv (pG z),some (.own (J.map pG)),y] 5 (.val (pG G)))=.next [Z,a1,sv (ofS s),sv (pG (z++G)),some (.own (J.map pG)),sv (pG G)]:=by
    refine dD ?_;simp only[cI,cJ];rw[bi et,if_pos rfl];refine dD (iN ?_);rw[bW rfl rfl,qK,if_pos (by rw[nR,nR];omega),<- Ko]
   rw[e];obtain⟨n',f',y',q1,q2,q3⟩:=iR cal Z a1 s D (z++G) J (sv (pG G)) aO (by rw[wh];omega) (by omega);refine⟨n',f',y',q1,q2.trans ?_,by rw[length_cons];omega⟩;rw[flatten_cons,<- KS];refine Perm.append_right _ ?_;rw[KS,KS];exact Perm.append_left _ LU
  |false =>
   have e:exs cal dW (put [Z,a1,sv (ofS s),sv (pG z),some (.own (J.map pG)),y] 5 (.val (pG G)))=.next [Z,a1,sv (ofS s),sv (pG z),some (.own ((J++[G]).map pG)),sv (pG G)]:=by
    refine dD ?_;simp only[cI,cJ];rw[bi et,if_neg (by decide)];have a8:J.length<10000:=by omega
    simp[exs,ex,ev,a8]
   rw[e];obtain⟨n',f',y',q1,q2,q3⟩:=iR cal Z a1 s D z (J++[G]) (sv (pG G)) aO (by omega) (by rw[wh,length_singleton];omega);rw[wh,length_singleton]at q3;refine⟨n',f',y',q1,q2.trans ?_,by rw[length_cons];omega⟩;simp
theorem lF(cal)(U):∀R A (P:List (LL)) Z x3 x4 Y,P.flatten.Perm A->P.length<=A.length->A.length+R.length<=50->(∀t∈A++R,t.length<=60) ->
  ∃(P':List (LL)) (y2 y3 y4 y5:Option MV),aw (λx l=>exs cal dX (put l 2 (.val x))) (R.map ofS) [U,sv (.lst (P.map pG)),Z,x3,x4,Y]=.next [U,sv (.lst (P'.map pG)),y2,y3,y4,y5]/\P'.flatten.Perm (A++R)/\P'.length<=(A++R).length
 | [],A,P,Z,x3,x4,Y,p,hl,_,_=>⟨P,Z,x3,x4,Y,rfl,by simpa using p,by simpa using hl⟩
 |s::R,A,P,Z,x3,x4,Y,p,hl,h1,h2=>by
  rw[length_cons]at h1;rw[JO,aw];refine aC λZq kq=>?_
  have hP:=p.length_eq;obtain⟨z,J,y,e1,e2,e3⟩:=iR cal U (sv (.lst (P.map pG))) s P [] [] Y (λt ht=>h2 t (Mn _ (p.mem_iff.mp ht))) (by rw[length_nil,hP];omega) (by rw[length_nil];omega);simp only[nil_append,flatten_nil]at e2;have hn:=e2.length_eq;rw[wh]at hn;rw[length_nil,Lp]at e3;have e:exs cal dX (put [U,sv (.lst (P.map pG)),Z,x3,x4,Y] 2 (.val (ofS s)))=.next [U,sv (.lst ((J++[z++[s]]).map pG)),sv (ofS s),sv (pG z),some (.own (J.map pG)),y]:=by
   refine bN (v:=pG []) (by simp[ev,evs]) (dH (dG (xs:=[]) (by simp[ev,evs])) (n8 (xs:=P.map pG) (by simp[evs,ev]) e1 (dD (iN ?_))));have q:ev cal (.bin .add (.bor 3) (.lst [.var 2])) [U,sv (.lst (P.map pG)),sv (ofS s),sv (pG z),some (.own (J.map pG)),y]=some (pG (z++[s])):=by
    rw[bW (x:=pG z) (y:=.lst [ofS s]) rfl (by simp[ev,evs]),qK,if_pos (by simp;omega)];simp
   show ev cal _ [U,sv (.lst (P.map pG)),sv (ofS s),sv (pG z),some (.own (J.map pG)),y]=_;rw[bW (x:=.lst (J.map pG)) (y:=.lst [pG (z++[s])]) rfl (by rw[ev,evs,q];simp[evs]),qK,if_pos (by simp;omega)];simp
  refine kq ?_;rw[e];obtain⟨P',y2,y3,y4,y5,f1,f2,f3⟩:=lF cal U R (A++[s]) (J++[z++[s]]) (sv (ofS s)) (sv (pG z)) (some (.own (J.map pG))) y (by
   rw[flatten_append,flatten_singleton,<- KS];exact Perm.append_right _ ((LU.trans e2).trans p)) (by simp;omega) (by simp;omega) (by simpa using h2)
  exact⟨P',y2,y3,y4,y5,f1,by simpa using f2,by simpa using f3⟩
def SmR(R:LL):Prop:=ax R/\R.length<=8/\R.flatten.length<=60
def qQ{R:LL}(g:SmR R)(r):SmR (bhd h R r):=by
 refine⟨bU g.1 r,r4 ?_ g.2.1,r4 (eE h R r) g.2.2⟩;cases r<;>first|exact gx _|(cases h<;>first|exact LW _ _|(show(sortT _).length<=_;rw[sortT_len,nR];exact gx _))
def sP(n:Nat)(R:LL)(g:SmR R):∃D:List (LL),ab defs (n+1) 45 [.val (ofR R)]=some (.lst (D.map ofR))/\D.length<=8/\D.flatten.length<=8/\D.flatten.flatten.length<=60/\(∀Q∈D,SmR Q)/\∀Q∈D,∀t∈Q,t∈R:=by
 obtain⟨P,y2,y3,y4,y5,e1,Y,e3⟩:=lF (ab defs n) (sv (ofR R)) R [] [] none none none none (by simp) (gx _) (by have:=g.2.1;simp;omega) (λt J=>aL (g.1.1 t (by simpa using J)));rw[nil_append]at Y e3;have U:(P.map sortT).flatten.Perm R:=by
  refine Perm.trans ?_ Y;clear e1 Y e3
  induction P with
  |nil=>exact .nil
  |cons G P ih=>simp only[JO,flatten_cons];exact(sortT_perm G).append ih
 have hf:=U.flatten.length_eq;have Z:∀Q∈P.map sortT,Q.Sublist (P.map sortT).flatten:=λQ z=>sublist_flatten_of_mem z
 have hb:∀Q∈P.map sortT,SmR Q:=λQ z=>by
  have l1:=(Z Q z).length_le;have l2:=(sublist_flatten_of_mem (MC (f:=flatten) z)).length_le;rw[<- flatten_flatten]at l2;rw[U.length_eq]at l1;rw[hf]at l2;have:=g.2.1;have:=g.2.2;refine⟨⟨λt J=>g.1.1 t (U.mem_iff.mp ((Z Q z).subset J)),?_,by omega⟩,by omega,by omega⟩;obtain⟨G,_,rfl⟩:=mem_map.mp z;exact sortT_rises G
 refine⟨P.map sortT,?_,by rw[nR];have:=g.2.1;omega,by rw[U.length_eq];exact g.2.1,by rw[hf];exact g.2.2,hb,λQ z t J=>U.mem_iff.mp ((Z Q z).subset J)⟩;rw[ae (d:=lB) rfl rfl];show bc (exs (ab defs n) [.set 1 _,.for1 2 .seq [.bor 0] dX,.ret _] [sv (ofR R),none,none,none,none,none])=_;refine aM (v:=.lst []) (by simp[ev,evs]) (J5 bc (n8 (r:=.ret (.lst ((P.map sortT).map ofR))) (xs:=R.map ofS) (by simp[evs,ev]) e1 ?_));rw[au,eQ (v:=.lst ((P.map sortT).map ofR))]
 .rfl
 rw[JT];refine dw (vs:=[.lst (P.map pG)]) (xs:=P) (g:=pG) rfl rfl (by have:=g.2.1;omega) λG hG=>?_
 have hl:G.length<64:=by
  have:=(hb (sortT G) (MC hG)).2.1;rw[sortT_len]at this;omega
 refine(aS (v:=.lst ((sortT G).map ofS)) ?_).trans rfl;rw[aS (v:=pG G) rfl,jF,mi,bind_some,i4 hl]
def v5:∀(a b:List Int),a.Nodup->a ⊆ b->a.length<=b.length:=λa=>by
 induction a with
 |nil=>intro b _ _;exact J2 _
 |cons x a ih =>
  intro b Y hs;obtain⟨Z,n2⟩:=Kh.mp Y;have z:=hs (.head _);have:=ih (b.erase x) n2 λy U=>by
   have J:y≠x:=λe=>Z (e▸U)
   exact(mem_erase_of_ne J).mpr (hs (.tail _ U))
  rw[length_erase_of_mem z]at this;have:=length_pos_of_mem z;rw[length_cons];omega
def k_{l:List Int}(h:l.Pairwise (· < ·)):l.Nodup:=h.imp λh e=>by omega
def qR{R:LL} :(∃s∈bhd t R (some h),k∈s)->(∃s∈R,k∈s)/\k≠h:=by
 rintro ⟨s,hs,z⟩;cases t with
 |true =>
  obtain⟨h1,h2⟩:=JU.mp (show s∈R.filter _ from hs);exact⟨⟨s,h1,z⟩,λe=>by subst e;simp[z]at h2⟩
 |false =>
  obtain⟨t,J,rfl⟩:=mem_map.mp (da.mp (show s∈sortT _ from hs));obtain⟨h1,h2⟩:=JU.mp z;exact⟨⟨t,J,h1⟩,by simpa using h2⟩
def dL{R:LL}(U:h∈aa R):(aa (bhd t R (some h))).length+1<=(aa R).length:=by
 have:=v5 (h::aa (bhd t R _)) _ (Kh.mpr ⟨λz=>(qR (ay.mp z)).2 rfl,k_ (cU _)⟩) λy J=>by
  rcases tf.mp J with rfl|J
  .exact U
  .exact ay.mpr (qR (ay.mp J)).1
 simpa using this
def sQ(h:0<=a/\a<=59):pN (some a):=λx e=>by cases e;exact h
theorem WP.le{d b:Nat}{R:LL}{v:PV}(h:WP d b R v):∀{e c:Nat},d<=e->b<=c->WP e c R v:=by
 induction h with
 |leaf h z=>exact λ_ hc=>.leaf h (r4 z hc)
 |one r hk hc _ ih=>intro e c J z;obtain⟨e,rfl,hx⟩:=up1 J;exact .one r hk (r4 hc z) (ih hx (gx _))
 |cases rows hl Z _ ih=>intro e c J z;obtain⟨e,rfl,hx⟩:=up1 J;exact .cases rows hl (λr U=>⟨(Z r U).1,r4 (Z r U).2 z⟩) λr U=>ih r U hx (gx _)
 |fewer A a b _ ih=>intro e c J z;obtain⟨e,rfl,hx⟩:=up1 J;exact .fewer A a b (ih hx z)
 |either A B a1 a2 a3 a4 _ _ ih Y=>intro e c J z;obtain⟨e,rfl,hx⟩:=up1 J;exact .either A B a1 a2 a3 a4 (ih hx z) (Y hx z)
def qS(k:Nat)(R:LL)(t w:Bool)(v:PV):Prop:=
 (w=t/\∃(h:Int) (s:PV),v=.tup [.str (if t=true then "bite" else "knot"),.int h,s]/\(t=false->(0<=h/\h<=59)/\∃c,c+1<=(aa R).length/\WP k c (bhd false R (some h)) s))\/(w=false/\[]∈R/\v=.tup [.str "whole"])\/(w=true/\R=[]/\v=.tup [.str "bare"])\/(w=(!t)/\(w=false->WP (k+1) (aa R).length R v))
theorem qS.wp{k:Nat}{R:LL}{t:Bool}{v:PV}(h:qS k R t false v):WP (k+1) (aa R).length R v:=by
 rcases h with⟨rfl,a,s,rfl,h⟩|⟨_,_,rfl⟩|⟨z,_⟩|⟨_,h⟩
 .obtain⟨J,c,hc,h⟩:=h rfl;exact .one (some a) (sQ J) hc h
 .exact .leaf (.inl rfl) (gx _)
 .cases z
 .exact h rfl
def AK(cal:Cal)(k:Nat):Prop:=∀R t,SmR R->(aa R).length<=k->∃w v,qS k R t w v/\cal 40 [.val (ofR R),.val (.str (ag t))]=some (.tup [.str (ag w),v])
def v6(k:Nat)(R:LL)(r:Int×Option Int×PV):Prop:=pN r.2.1/\(aa R).length-1+1<=(aa R).length/\WP k ((aa R).length-1) (bh2 false R r.1 r.2.1) r.2.2
theorem n9(cal:Cal){k:Nat}(hT:AK cal k)(R:LL)(g:SmR R)(hw:¬ []∈R)(hb:R≠[])(hk:(aa R).length<=k+1)(t:Bool)(eK:∀h,cal 36 [.val (ofR R),.val (.int h)]=some (ofR (bT h R)))(eB:∀h,cal 37 [.val (ofR R),.val (.int h)]=some (ofR (bg h R))):∀(hs:List Int) (J:List (Int×Option Int×PV)) (x y:Option MV),(∀h∈hs,h∈aa R)->J.length+hs.length<=100->(∀r∈J,t=true->v6 k R r) ->
  (∃h s,(t=false->(0<=h/\h<=59)/\∃c,c+1<=(aa R).length/\WP (k+1) c (bhd false R (some h)) s)/\aw (λv l=>exs cal cM (put l 3 (.val v))) (hs.map .int) [sv (ofR R),sv (.str (ag t)),some (.own (J.map aY)),x,y]=.ret (.tup [.str (ag t),.tup [.str (if t=true then "bite" else "knot"),.int h,s]])) \/
  ∃(U:List (Int×Option Int×PV)) (x' y':Option MV),aw (λv l=>exs cal cM (put l 3 (.val v))) (hs.map .int) [sv (ofR R),sv (.str (ag t)),some (.own (J.map aY)),x,y]=.next [sv (ofR R),sv (.str (ag t)),some (.own (U.map aY)),x',y']/\U.length<=100/\∀r∈U,t=true->v6 k R r
 | [],J,x,y,_,Z,hr=>.inr ⟨J,x,y,rfl,by simpa using Z,hr⟩
 |h::hs,J,x,y,hm,Z,hr=>by
  rw[length_cons]at Z;have Y:=hm h (.head _);obtain⟨w,v,ok,e⟩:=hT (bhd t R (some h)) (!t) (qQ g _) (by have:=dL (t:=t) Y;omega);rw[JO,aw];have e1:ex cal (.ite (.cmp .eq (.bor 1) (cs "weaver")) [.set 4 (.call 40 [(.call 36 [.bor 0,.bor 3]),(cs "moth")])] [.set 4 (.call 40 [(.call 37 [.bor 0,.bor 3]),(cs "weaver")])]) [sv (ofR R),sv (.str (ag t)),some (.own (J.map aY)),sv (.int h),y]=.next [sv (ofR R),sv (.str (ag t)),some (.own (J.map aY)),sv (.int h),sv (.tup [.str (ag w),v])]:=by
   cases t
   .rw[bi (p:=true) rfl];exact dD (iN (ac (dJ (ac rfl (eK h)) rfl) e))
   .rw[bi (p:=false) rfl];exact dD (iN (ac (dJ (ac rfl (eB h)) rfl) e))
  by_cases q:w=t
  .subst q;refine .inl ⟨h,v,λq=>⟨(bm g.1.1).2 h Y,by subst q;exact⟨_,dL (t:=false) Y,ok.wp⟩⟩,?_⟩;rw[show exs cal cM (put [sv (ofR R),sv (.str (ag w)),some (.own (J.map aY)),x,y] 3 (.val (.int h)))=.ret (.tup [.str (ag w),.tup [.str (if w=true then "bite" else "knot"),.int h,v]])from dH e1 (by cases w<;>exact Du rfl rfl)]
  .obtain rfl:w=(!t):=by cases w<;>cases t<;>simp_all
   obtain⟨a,s,rfl,aO⟩:∃(a:Int) (s:PV),v=.tup [.str (if (!t)=true then "bite" else "knot"),.int a,s]/\((!t)=false->(0<=a/\a<=59)/\∃c,c+1<=(aa (bhd t R (some h))).length/\WP k c (bhd false (bhd t R (some h)) (some a)) s):=by
    rcases ok with⟨_,z⟩|⟨a,b,_⟩|⟨a,b,_⟩|⟨a,_⟩
    .exact z
    .cases t with
     |false=>cases a
     |true=>exact absurd (JU.mp b).1 hw
    .cases t with
     |true=>cases a
     |false =>
      have:=J5 List.length b;rw[show(bhd false R (some h)).length=R.length from by show(sortT _).length=_;rw[sortT_len,nR]]at this;exact absurd (Kn.mp this) hb
    .cases t<;>cases a
   have a0:(J.map aY).length<10000:=by rw[nR];omega
   have e2:exs cal cM (put [sv (ofR R),sv (.str (ag t)),some (.own (J.map aY)),x,y] 3 (.val (.int h)))=.next [sv (ofR R),sv (.str (ag t)),some (.own ((J++[(h,some a,s)]).map aY)),sv (.int h),sv (.tup [.str (ag (!t)),.tup [.str (if (!t)=true then "bite" else "knot"),.int a,s]])]:=dH e1 (by
    rw[Ko];cases t<;>exact CO rfl (dD (nL (v:=aY (h,some a,s)) rfl rfl a0)))
   rw[e2];exact n9 cal hT R g hw hb hk t eK eB hs (J++[(h,some a,s)]) _ _ (λy hy=>hm y (.tail _ hy)) (by rw[wh,length_singleton];omega) λr a1=>by
    rcases La.mp a1 with z|z
    .exact hr r z
    .intro q;subst q;obtain⟨ha,c,hc,w⟩:=aO rfl;have:=dL (t:=true) Y;rw[JY.mp z];exact⟨sQ ha,by omega,w.le (gx _) (by omega)⟩
theorem v7(n:Nat):∀k,AK (ab defs (n+k+2)) k
 |k,R,t,g,Z=>by
  by_cases hw:[]∈R
  .refine⟨false,_,.inr (.inl ⟨rfl,hw,rfl⟩),?_⟩;rw[ae (d:=d_) rfl rfl];exact cA (Aq ((jE [] R).trans (by rw[JS hw])) rfl rfl) rfl
  .have hi:isIn (ofS []) (R.map ofS)=some false:=(jE [] R).trans (by rw[J0 hw]);by_cases Y:R=[]
   .refine⟨true,_,.inr (.inr (.inl ⟨rfl,Y,rfl⟩)),?_⟩;rw[ae (d:=d_) rfl rfl];subst Y
    rfl
   .match k,Z with
    |0,Z =>
     obtain⟨s,hs⟩:=Mx R Y;obtain⟨x,hx⟩:=Mx s λz=>hw (z▸hs)
     have:=ay.mpr ⟨s,hs,hx⟩;rw[Kn.mp (by omega:(aa R).length=0)]at this;cases this
    |k+1,Z =>
     have J:((R.length:Int)==0)=false:=by
      cases R with
      |nil=>exact absurd rfl Y
      |cons _ _=>simp;omega
     have ao:=aL (bm g.1.1);rcases n9 (ab defs (n+k+2)) (v7 n k) R g hw Y Z t (λh=>dZ (n+k+1) R h g.1) (λh=>ib (n+k+1) R h (by have:=g.2.1;omega)) (aa R) [] none none (λh hh=>hh) (by simp;omega) (λr U=>by cases U)with⟨h,s,hs,e⟩|⟨rows,x,y,e,h1,h2⟩
     .refine⟨t,_,.inl ⟨rfl,h,s,rfl,hs⟩,?_⟩;rw[ae (d:=d_) rfl rfl];refine aV (Aq hi rfl rfl) (aV (vW (xs:=R.map ofS) (by rw[nR,J]) rfl) (eT (dG (xs:=[]) rfl) ?_));exact J5 bc (Ar (xs:=(aa R).map .int) (As (ac rfl (i6 (n+(k+1)) R g.1.1))) e)
     .refine⟨!t,.tup [.str "cases",.tup (rows.map aY)],.inr (.inr (.inr ⟨rfl,λq=>?_⟩)),?_⟩
      .have q:t=true:=by cases t<;>first|rfl|cases q
       exact .cases rows (by omega) (λr U=>⟨(h2 r U q).1,(h2 r U q).2.1⟩) λr U=>(h2 r U q).2.2.le (by omega) (gx _)
      rw[ae (d:=d_) rfl rfl];refine aV (Aq hi rfl rfl) (aV (vW (xs:=R.map ofS) (by rw[nR,J]) rfl) (eT (dG (xs:=[]) rfl) ?_));exact J5 bc (n8 (r:=.ret (.tup [.str (ag !t),.tup [.str "cases",.tup (rows.map aY)]])) (xs:=(aa R).map .int) (As (ac rfl (i6 (n+(k+1)) R g.1.1))) e (by cases t<;>exact pI rfl))
def F2(h1:ev cal e W=some w)(h2:evX cal x W=some (y,l))(z:cal g [.val w,.val y]=some r):evX cal (.fn2 g e x) W=some (r,l):=by simp_all [evX]
def F3(z:(W[i]?).join=some (.own ys))(h:evX cal x W=some (v,l))(ho:(l[i]?).join=some (.own xs))(J:xs.length<10000)(k:exs cal ms (put l i (.own (xs++[v])))=r):exs cal (.appX i x::ms) W=r:=by
 rw[au,ex,z]
 simp_all
structure lG(cal:Cal):Prop where
 next:AF cal
 hol:∀R,SmR R->cal 38 [.val (ofR R)]=some (ofL (aa R))
 deed:∀R h r,SmR R->cal 43 [.val (ofR R),.val (.str (ag h)),.val (cf r)]=some (ofR (bhd h R r))
 reply:∀R p,SmR R->∃r,pN r/\cal 44 [.val (ofR R),.val (.int p)]=some (cf r)
 split:∀R,SmR R->∃D:List (LL),cal 45 [.val (ofR R)]=some (.lst (D.map ofR))/\D.length<=8/\D.flatten.length<=8/\D.flatten.flatten.length<=60/\(∀Q∈D,SmR Q)/\∀Q∈D,∀t∈Q,t∈R
 tried:AK cal 4
 plain:∀R t p,∃v,AE v/\cal 46 [.val (ofR R),.val (.str (ag t)),.val (.str (ag false)),.val (.int p)]=some v
def n_(n:Nat):lG (ab defs (n+6)):=⟨FX (n+4),λR g=>i6 (n+5) R g.1.1,λR h r g=>CU (n+4) R g.1 h r,λR p g=>AH (n+3) R g.1 p,λR g=>sP (n+5) R g,v7 n 4,λR t p=>AI (n+3) R t p⟩
noncomputable def wst(t:Bool)(j:Nat):Nat:=(j+(if t=true then 0 else 1)) / 2
def lb(cal:Cal)(j:Nat):Prop:=∀ns R (t:Bool),SmR R->∃v z,cal (49+2000) [.mutD (.p ns),.val (ofR R),.val (.str (ag t)),.val (.str (ag false)),.val (.int j)]=some (.tup [v,.dI (.p z)])/\WP (7+j) ((aa R).length+wst t j) R v
def mr{A R:LL}(h:∀k,(∃s∈A,k∈s)->∃s∈R,k∈s):(aa A).length<=(aa R).length:=v5 _ _ (k_ (cU _)) λk z=>ay.mpr (h k (ay.mp z))
def v8(R:LL)(r:Option Int):(aa (bhd false R r)).length<=(aa R).length:=by
 cases r with
 |none=>exact gx _
 |some h=>exact mr λk z=>(qR z).1
theorem lH(cal:Cal)(C:lG cal)(G:lb cal 0)(R:LL)(g:SmR R):∀(hs ns:List Int) (J:List (Int×Option Int×PV)) (Y Z x7:Option MV),(∀h∈hs,h∈aa R)->J.length+hs.length<=100->(∀r∈J,v6 7 R r) ->
  ∃(aO:List Int) (U:List (Int×Option Int×PV)) (y5 y6 y7:Option MV),aw (λx l=>exs cal fZ (put l 5 (.val x))) (hs.map .int) [some (.mutD (.p ns)),sv (ofR R),sv (.str (ag false)),some (.own (J.map aY)),sv (.str (ag true)),Y,Z,x7]=.next [some (.mutD (.p aO)),sv (ofR R),sv (.str (ag false)),some (.own (U.map aY)),sv (.str (ag true)),y5,y6,y7]/\U.length<=100/\∀r∈U,v6 7 R r
 | [],ns,J,Y,Z,x7,_,hl,hr=>⟨ns,J,Y,Z,x7,rfl,by simpa using hl,hr⟩
 |a::hs,ns,J,Y,Z,x7,hm,hl,hr=>by
  rw[length_cons]at hl;obtain⟨y,n1,_,e1⟩:=C.next ns;have g1:=qQ (h:=true) g (some a);obtain⟨r,rk,e2⟩:=C.reply (bhd true R (some a)) y g1;obtain⟨v,n2,e3,hv⟩:=G n1 (bhd false (bhd true R (some a)) r) true (qQ g1 r);have a3:(J.map aY).length<10000:=by rw[nR];omega
  have e:exs cal fZ (put [some (.mutD (.p ns)),sv (ofR R),sv (.str (ag false)),some (.own (J.map aY)),sv (.str (ag true)),Y,Z,x7] 5 (.val (.int a)))=.next [some (.mutD (.p n2)),sv (ofR R),sv (.str (ag false)),some (.own (J.map aY++[aY (a,r,v)])),sv (.str (ag true)),sv (.int a),sv (ofR (bhd true R (some a))),sv (cf r)]:=
   bN (ac rfl (C.deed R true (some a) g)) (nY (F2 rfl (xc1 e1) e2) (F3 rfl (nZ (dz rfl (dz rfl (i_ (xc5 (dJ (ac rfl (C.deed _ false r g1)) rfl) rfl rfl rfl e3))))) rfl a3 rfl))
  rw[JO,aw,e];have:=lH cal C G R g hs n2 (J++[(a,r,v)]) (sv (.int a)) (sv (ofR (bhd true R (some a)))) (sv (cf r)) (λh hh=>hm h (.tail _ hh)) (by rw[wh,length_singleton];omega) λq hq=>by
   rcases La.mp hq with z|z
   .exact hr q z
   .have l1:=dL (t:=true) (hm a (.head _));have l2:=v8 (bhd true R (some a)) r;rw[JY.mp z];exact⟨rk,by omega,hv.le (gx _) (by show _+0<=_;omega)⟩
  rw[Ko]at this;exact this
def AL(n:Nat)(C:lG (ab defs n))(G:lb (ab defs n) 0)(ns:List Int)(R:LL)(g:SmR R):∃v U,ab defs (n+1) (47+2000) [.mutD (.p ns),.val (ofR R),.val (.str (ag false))]=some (.tup [v,.dI (.p U)])/\WP 8 (aa R).length R v:=by
 obtain⟨U,J,Z,y6,y7,e,h1,h2⟩:=lH (ab defs n) C G R g (aa R) ns [] none none none (λ_ z=>z) (by have:=aL (bm g.1.1);simp;omega) (λr Y=>by cases Y);refine⟨.tup [.str "cases",.tup (J.map aY)],U,?_,.cases J (by omega) (λr Y=>⟨(h2 r Y).1,(h2 r Y).2.1⟩) λr Y=>(h2 r Y).2.2⟩;rw[i5 (d:=iM) (by decide) rfl rfl];have k:exs (ab defs n) iM.body [some (.mutD (.p ns)),sv (ofR R),sv (.str (ag false)),none,none,none,none,none]=.retM (.tup [.str "cases",.tup (J.map aY)]) [some (.mutD (.p U)),sv (ofR R),sv (.str (ag false)),some (.own (J.map aY)),sv (.str (ag true)),Z,y6,y7]:=dH (dG (xs:=[]) rfl) (bN (v:=.str (ag true)) rfl (n8 (As (ac rfl (C.hol R g))) e (nX rfl)));exact J5 (sx _) k
def AM{cal:Cal}(C:lG cal){R:LL}(g:SmR R){a:ME}{W:Rho}{p:Bool}(z:ev cal a W=some (.bl p))(U:ev cal (.bor 1) W=some (ofR R))(J:evA cal [.bor 1] W=some [.val (ofR R)]):∃b,ev cal (.and a (.cmp .lt (.blt .len [(.call 38 [.bor 1])]) (ci 5))) W=some (.bl b)/\(b=true->(aa R).length<=4):=by
 refine⟨p&&decide ((((aa R).map PV.int).length:Int)<5),cV z λ_=>(cw (aS (ac J (C.hol R g))) (dy _ _ _)).trans rfl,λh=>?_⟩;have:=Kc (g4.mp h).2;rw[nR]at this;omega
def AN(cal:Cal)(f j:Nat):Prop:=∀ns R (t:Bool) (p:Int),0<=p->SmR R->∃v z,cal (f+2000) [.mutD (.p ns),.val (ofR R),.val (.str (ag t)),.val (.int p),.val (.int j)]=some (.tup [v,.dI (.p z)])/\WP (8+j) ((aa R).length+wst t (j+1)) R v
def AO{A R:LL}(h:A.Sublist R):A.flatten.length<=R.flatten.length:=by
 induction h with
 |slnil=>exact gx _
 |cons a _ ih=>rw[flatten_cons,wh];omega
 |cons_cons a _ ih=>rw[flatten_cons,wh,flatten_cons,wh];omega
def F4{A R:LL}(g:SmR R)(h:A.Sublist R):SmR A:=by
 have J:=h.length_le;have U:=AO h;have:=g.2.1;have:=g.2.2;exact⟨⟨λt z=>g.1.1 t (h.subset z),g.1.2.1.sublist h,by omega⟩,by omega,by omega⟩
def CZ(cal:Cal)(J U Y:Option MV)(W:Rho)(R:LL)(g:SmR R)(p:Int):∃A,SmR A/\(aa A).length<=(aa R).length/\ev cal (.blt .tupleOf [(.comp .rng [(.blt .len [.bor 1])] [1,3] (.cmp .gt (.bin .mod (.bin .shr (.bor 2) (.bin .add (.bor 0) (ci 8))) (ci 4)) (ci 0)) (.idx (.bor 1) (.bor 0)))]) (J::sv (ofR R)::U::sv (.int p)::Y::W)=some (ofR A):=by
 let q:Nat->Bool:=λk=>decide (0<p / 2 ^ (k+8) % 4)
 have Z:(((range R.length).filter q).map λk=>R.getD k []).Sublist R:=by
  have h1:((range R.length).map λk=>R.getD k [])=R:=by
   refine ext_getElem (by simp) λi h1 h2=>?_
   simp at h1;simp[h1]
  have:=(filter_sublist (p:=q) (l:=range R.length)).map λk=>R.getD k []
  rw[h1]at this;exact this
 refine⟨((range R.length).filter q).map λk=>R.getD k [],F4 g Z,mr λk ⟨s,hs,z⟩=>⟨s,Z.subset hs,z⟩,?_⟩
 .have hR:R.length<=8:=g.2.1;have e1:ev cal (.blt .len [.bor 1]) (J::sv (ofR R)::U::sv (.int p)::Y::W)=some (.int ((R.map ofS).length:Int)):=rfl;rw[nR]at e1;refine(aS (v:=.lst ((((range R.length).filter q).map λk=>R.getD k []).map ofS)) ?_).trans rfl;rw[ev,evs,e1,bind_some,evs,map_some,bind_some,g_ (by omega) (by omega),bind_some,if_pos (by simp;omega),Int.toNat_natCast,ce (p:=q) (h:=λk=>ofS (R.getD k [])),JT]
  .rfl
  .intro k _;have z:((k:Int)+8).toNat=k+8:=by omega
   have h0:(0:Int)<=(k:Int)+8:=by omega
   have s1:fm .shr (.int p) (.int ((k:Int)+8))=some (.int (p / 2 ^ (k+8))):=by
    show(if (0:Int)<=(k:Int)+8 then some (PV.int (p / 2 ^ ((k:Int)+8).toNat))else none)=_;rw[if_pos h0,z]
   exact uL ((cw ((bW ((bW (y:=.int ((k:Int)+8)) rfl rfl).trans s1) rfl).trans rfl) rfl).trans rfl)
  .intro k z _;have z:k<R.length:=by simpa using z
   simp[ev,cv,ofR,gE,z]
def v9{D:List (LL)}{i:Int}(z:0<=i)(h1:i<D.length):∃Q∈D,gp (.lst (D.map ofR)) (.int i)=some (ofR Q):=by
 have h2:i.toNat<D.length:=by omega
 refine⟨D[i.toNat],ML _,?_⟩;rw[Am,gE z (by rw[nR];exact h1)];simp[h2]
def sR(n j:Nat)(C:lG (ab defs n))(G:lb (ab defs n) j)(K:∀ns R,SmR R->∃v z,ab defs n (47+2000) [.mutD (.p ns),.val (ofR R),.val (.str (ag false))]=some (.tup [v,.dI (.p z)])/\WP 8 (aa R).length R v):AN (ab defs (n+1)) 48 j:=λns R t p hp g=>by
 suffices h:∃v z x1 x2 x3 x4 W,exs (ab defs n) eP.body [some (.mutD (.p ns)),sv (ofR R),sv (.str (ag t)),sv (.int p),sv (.int j),none,none,none,none,none,none]=.retM v (some (.mutD (.p z))::x1::x2::x3::x4::W)/\WP (8+j) ((aa R).length+wst t (j+1)) R v by
  obtain⟨v,z,x1,x2,x3,x4,W,e,hv⟩:=h;exact⟨v,z,by rw[i5 (d:=eP) (by decide) rfl rfl];exact J5 (sx _) e,hv⟩
 have U:ev (ab defs n) (.cmp .eq (.bin .mod (.bor 3) (ci 3)) (ci 0)) [some (.mutD (.p ns)),sv (ofR R),sv (.str (ag t)),sv (.int p),sv (.int j),none,none,none,none,none,none]=some (.bl (p % 3==0)):=iO rfl (by decide);by_cases q0:(p % 3==0)=true
 .rw[q0]at U;obtain⟨A,gA,lA,J⟩:=CZ (ab defs n) (some (.mutD (.p ns))) (sv (.str (ag t))) (sv (.int j)) [none,none,none,none,none,none] R g p;obtain⟨v,n1,e2,hv⟩:=G ns A t gA;exact⟨_,_,_,_,_,_,_,lE U (bN J (k9 (nZ (dz rfl (dz rfl (i_ (xc5 rfl rfl rfl rfl e2))))))),(WP.fewer A gA.1 (r4 gA.2.2 (by decide)) hv).le (by omega) (by unfold wst;omega)⟩
 .rw[Mm]at q0;rw[q0]at U;cases t with
  |false =>
   obtain⟨r,rk,J⟩:=C.reply R (p / 3) g;obtain⟨v,n1,e2,hv⟩:=G ns (bhd false R r) true (qQ g r);exact⟨_,_,_,_,_,_,_,ku U (lE rfl (bN (ac rfl J) (k9 (nZ (dz rfl (dz rfl (i_ (xc5 (dJ (ac rfl (C.deed R false r g)) rfl) rfl rfl rfl e2)))))))),(WP.one r rk (gx _) hv).le (by omega) (by have:=v8 R r;unfold wst;simp;omega)⟩
  |true =>
   obtain⟨b,hb,_⟩:=AM (cal:=ab defs n) C g (a:=.cmp .eq (.bin .mod (.bor 3) (ci 3)) (ci 1)) (W:=[some (.mutD (.p ns)),sv (ofR R),sv (.str (ag true)),sv (.int p),sv (.int j),none,none,none,none,none,none]) (iO rfl (by decide)) rfl rfl;cases b with
   |true =>
    obtain⟨v,n1,J,hv⟩:=K ns R g;exact⟨_,_,_,_,_,_,_,ku U (ku rfl (lE hb (k9 (xc3 rfl rfl J)))),hv.le (by omega) (by omega)⟩
   |false =>
    obtain⟨D,J,h1,h2,h3,Y,h5⟩:=C.split R g;have c2:ev (ab defs n) (.cmp .lt (.blt .len [.bor 7]) (ci 2)) [some (.mutD (.p ns)),sv (ofR R),sv (.str (ag true)),sv (.int p),sv (.int j),none,none,sv (.lst (D.map ofR)),none,none,none]=some (.bl (decide (((D.map ofR).length:Int)<2))):=rfl;rw[nR]at c2;by_cases q2:(D.length:Int)<2
    .rw[JS q2]at c2;exact⟨_,_,_,_,_,_,_,ku U (ku rfl (ku hb (bN (ac rfl J) (lE c2 (nX rfl))))),.leaf (.inr rfl) (by omega)⟩
    .rw[J0 q2]at c2;have hd:(0:Int)<D.length:=by omega
     obtain⟨Z,m1,i1⟩:=v9 (D:=D) (i:=p / 3 % D.length) (Kw _ (by omega)) (Kp _ hd);obtain⟨Q2,m2,i2⟩:=v9 (D:=D) (i:=(p / 3+1) % D.length) (Kw _ (by omega)) (Kp _ hd);obtain⟨v1,n1,e2,a6⟩:=G ns Z false (Y Z m1);obtain⟨v2,n2,e3,a7⟩:=G n1 Q2 false (Y Q2 m2);have md:∀x:Int,fm .mod (.int x) (.int ((D.map ofR).length:Int))=some (.int (x % D.length)):=λx=>by
      rw[nR,mh,if_pos hd]
     exact⟨_,_,_,_,_,_,_,ku U (ku rfl (ku hb (bN (ac rfl J) (ku c2 (bN ((eR rfl ((bW rfl rfl).trans (md _))).trans i1) (bN ((eR rfl ((bW rfl rfl).trans (md _))).trans i2) (nY (xc5 rfl rfl rfl rfl e2) (k9 (nZ (dz rfl (dz rfl (dz rfl (dz rfl (i_ (xc5 rfl rfl rfl rfl e3))))))))))))))),(WP.either Z Q2 (Y Z m1).1 (Y Q2 m2).1 (r4 (Y Z m1).2.2 (by decide)) (r4 (Y Q2 m2).2.2 (by decide)) (a6.le (gx _) (LX (mr λk ⟨s,hs,hk⟩=>⟨s,h5 Z m1 s hs,hk⟩) _)) (a7.le (gx _) (LX (mr λk ⟨s,hs,hk⟩=>⟨s,h5 Q2 m2 s hs,hk⟩) _))).le (by omega) (gx _)⟩
def sS(n j:Nat)(C:lG (ab defs n))(M:∀i,j=i+1->AN (ab defs n) 48 i):lb (ab defs (n+1)) j:=λns R t g=>by
 suffices z:∃v J U Y Z x4 W,exs (ab defs n) fR.body [some (.mutD (.p ns)),sv (ofR R),sv (.str (ag t)),sv (.str (ag false)),sv (.int j),none,none]=.retM v (some (.mutD (.p J))::U::Y::Z::x4::W)/\WP (7+j) ((aa R).length+wst t j) R v by
  obtain⟨v,J,U,Y,Z,x4,W,e,hv⟩:=z;exact⟨v,J,by rw[i5 (d:=fR) (by decide) rfl rfl];exact J5 (sx _) e,hv⟩
 obtain⟨p,n1,hp,e0⟩:=C.next ns;have bP:∀x6:Option MV,∃v J U Y Z x4 W,exs (ab defs n) (fR.body.drop 2) [some (.mutD (.p n1)),sv (ofR R),sv (.str (ag t)),sv (.str (ag false)),sv (.int j),sv (.int p),x6]=.retM v (some (.mutD (.p J))::U::Y::Z::x4::W)/\WP (7+j) ((aa R).length+wst t j) R v:=λx6=>by
  have c1:ev (ab defs n) (.or (.cmp .eq (.bor 4) (ci 0)) (.cmp .eq (.bin .mod (.bin .fdiv (.bor 5) (ci 2)) (ci 8)) (ci 0))) [some (.mutD (.p n1)),sv (ofR R),sv (.str (ag t)),sv (.str (ag false)),sv (.int j),sv (.int p),x6]=some (.bl (((j:Int)==0)||(p / 2 % 8==0))):=FT rfl λ_=>iO rfl (by decide)
  by_cases q1:(((j:Int)==0)||(p / 2 % 8==0))=true
  .rw[q1]at c1;obtain⟨v,hv,e1⟩:=C.plain R t (p / 16);exact⟨_,_,_,_,_,_,_,lE c1 (nX (ac rfl e1)),.leaf hv (by omega)⟩
  .rw[Mm]at q1;rw[q1]at c1;obtain⟨i,rfl⟩:∃i,j=i+1:=⟨j-1,by
    have:=(Bool.or_eq_false_iff.mp q1).1;have:(j:Int)≠0:=by simpa using this
    omega⟩
   have hd:ev (ab defs n) (.bin .sub (.bor 4) (ci 1)) [some (.mutD (.p n1)),sv (ofR R),sv (.str (ag t)),sv (.str (ag false)),sv (.int (i+1:Nat)),sv (.int p),x6]=some (.int i):=J5 (λx=>some (PV.int x)) (show((i+1:Nat):Int)-1=i by omega);have a5:(0:Int)<=p / 16:=Int.ediv_nonneg hp (by decide);obtain⟨v,n2,e1,hv⟩:=M i rfl n1 R t (p / 16) a5 g;exact⟨_,_,_,_,_,_,_,ku c1 (ku rfl (k9 (xc5 rfl rfl rfl (vU (λi z=>by cases z) hd) e1))),hv.le (by omega) (gx _)⟩
 obtain⟨b,hb,hf⟩:=AM (cal:=ab defs n) C g (a:=.cmp .eq (.bin .mod (.bor 5) (ci 2)) (ci 0)) (W:=[some (.mutD (.p n1)),sv (ofR R),sv (.str (ag t)),sv (.str (ag false)),sv (.int j),sv (.int p),none]) (iO rfl (by decide)) rfl rfl;cases b with
 |false =>
  obtain⟨v,J,U,Y,Z,x4,W,e,hv⟩:=bP none;exact⟨v,J,U,Y,Z,x4,W,nY (xc1 e0) (ku hb e),hv⟩
 |true =>
  obtain⟨w,v,ok,e1⟩:=C.tried R t g (hf rfl);by_cases q:w=false
  .subst q;refine⟨_,_,_,_,_,_,_,nY (xc1 e0) (lE hb (bN (ac rfl e1) (lE rfl (nX rfl)))),ok.wp.le (by omega) (by omega)⟩
  .obtain⟨v',J,U,Y,Z,x4,W,e,hv⟩:=bP (sv (.tup [.str (ag w),v]));exact⟨v',J,U,Y,Z,x4,W,nY (xc1 e0) (dH (l:=[some (.mutD (.p n1)),sv (ofR R),sv (.str (ag t)),sv (.str (ag false)),sv (.int j),sv (.int p),sv (.tup [.str (ag w),v])]) (by refine(bi hb).trans ?_;exact bN (ac rfl e1) (CO (by cases w<;>first|rfl|exact absurd rfl q) rfl)) e),hv⟩
theorem qT:∀(j n:Nat),lb (ab defs (n+3*j+8)) j
 |0,n=>sS (n+7) 0 (n_ (n+1)) λi h=>by cases h
 |j+1,n=>by
  have k:∀ns R,SmR R->∃v z,ab defs (n+3*j+9) (47+2000) [.mutD (.p ns),.val (ofR R),.val (.str (ag false))]=some (.tup [v,.dI (.p z)])/\WP 8 (aa R).length R v:=λns R g=>AL (n+3*j+8) (n_ (n+3*j+2)) (qT 0 (n+3*j)) ns R g
  exact sS (n+3*j+10) (j+1) (n_ (n+3*j+4)) λi h=>by
   cases h;have G:lb (ab defs (n+3*j+9)) j:=by have:=qT j (n+1);rwa[show n+1+3*j+8=n+3*j+9 by omega]at this
   exact sR (n+3*j+9) j (n_ (n+3*j+3)) G k
def iS(R)(h):0<=aB R h:=by
 unfold aB
 induction R with
 |nil=>simp
 |cons s R ih =>
  rw[JO,sum_cons];have:0<=(if h∈s then wgt s else 0):=by
   split
   .exact Int.le_of_lt (Int.pow_pos (by decide))
   .exact L0 _
  omega
def iT{R:LL} :0<aB R h ↔ ∃s∈R,h∈s:=by
 unfold aB
 induction R with
 |nil=>simp
 |cons s R ih =>
  rw[JO,sum_cons];have z:0<=(R.map λs=>if h∈s then wgt s else 0).sum:=iS R h;have wp:0<wgt s:=Int.pow_pos (by decide);by_cases hs:h∈s
  .rw[if_pos hs];exact⟨λ_=>⟨s,.head _,hs⟩,λ_=>by omega⟩
  .simp_all
noncomputable def qU:Option Int->PV
 |none=>.non
 |some i=>.int i
noncomputable def bz(f:Int->Int)(b:Option Int)(h:Int):Option Int:=match b with
 |none=>some h
 |some c=>if f c<f h then some h else some c
noncomputable def dA(f:Int->Int):List Int:=((range 60).map λ(k:Nat)=>(k:Int)).filter λh=>decide (0<f h)
def gN(f):(dA f).Pairwise (· < ·):=by
 refine Pairwise.filter _ (pairwise_map.mpr (pairwise_lt_range.imp λ{a b} q=>by omega))
def sT{R:LL}(g:∀s∈R,cm s)(h:gK d (λk=>∃s∈R,k∈s)):sortI (d.map (·.1))=dA (aB R):=by
 have p:(d.map (·.1)).Perm (dA (aB R)):=by
  refine(KY h.1 (dq (gN _))).mpr λk=>?_
  rw[h.2 k];unfold dA;rw[JU,Kb,iT];refine⟨λq=>⟨?_,q⟩,λq=>q.2⟩;obtain⟨s,hs,z⟩:=q;have:=(g s hs).2 k z;exact mem_map.mpr ⟨k.toNat,K4.mpr (by omega),by omega⟩
 rw[sortI_of_perm p,sortI_id ((gN _).imp λ{a b} q=>by omega)]
theorem jo(cal)(a)(d)(f)(hd:h_ d f):∀(xs:List Int) b y,(∀x∈xs,bM d x≠none)->(∀c,b=some c->bM d c≠none) ->
  ∃y',aw (λx l=>exs cal cz (put l 3 (.val x))) (xs.map .int) [a,sv (.dI (.k d)),sv (qU b),y]=.next [a,sv (.dI (.k d)),sv (qU (xs.foldl (bz f) b)),y']
 | [],b,y,_,_=>⟨y,rfl⟩
 |x::xs,b,y,hx,U=>by
  have Y:∀z,bM d z≠none->bM d z=some (.int (f z)):=λz q=>by
   cases e:bM d z with
   |none=>exact absurd e q
   |some s=>rw[hd.2 z s e]
  have Z:=Y x (hx x (.head _));rw[JO,aw];have e:exs cal cz (put [a,sv (.dI (.k d)),sv (qU b),y] 3 (.val (.int x)))=.next [a,sv (.dI (.k d)),sv (qU (bz f b x)),sv (.int x)]:=by
   cases b with
   |none=>simp[cz,exs,ex,ev,evB,qU,bz,jk]
   |some c =>
    have e2:=Y c (U c rfl);by_cases q:f c<f x
    .simp[cz,exs,ex,ev,evB,qU,bz,jk,Z,e2,q]
    .simp[cz,exs,ex,ev,evB,qU,bz,jk,Z,e2,q]
  rw[e];refine jo cal a d f hd xs (bz f b x) _ (λz hz=>hx z (.tail _ hz)) λc hc=>?_
  cases b with
  |none=>cases hc;exact hx x (.head _)
  |some J =>
   have hc:(if f J<f x then some x else some J)=some c:=hc;by_cases q:f J<f x
   .rw[if_pos q]at hc;cases hc;exact hx x (.head _)
   .rw[if_neg q]at hc;cases hc;exact U _ rfl
def uQ(n:Nat)(R:LL)(g:ax R):ab defs (n+3) 18 [.val (ofR R)]=some (qU ((dA (aB R)).foldl (bz (aB R)) none)):=by
 obtain⟨d,e,hd,Z⟩:=CV n R g;have J:=sT g.1 Z;have hl:d.length<64:=by
  have:d.length=(dA (aB R)).length:=by rw[<- J,sortI_len,nR]
  rw[this];have aO:(dA (aB R)).length<=60:=nA 60 _ (dq (gN _)) λx hx=>by
   unfold dA at hx;obtain⟨k,J,rfl⟩:=mem_map.mp (JU.mp hx).1;have:=K4.mp J;omega
  omega
 rw[ae (d:=nD) rfl rfl];have U:∀x∈dA (aB R),bM d x≠none:=λx hx z=>by
  rw[<- J,kZ]at hx;exact Av.mp z hx
 obtain⟨y,Y⟩:=jo (ab defs (n+2)) (sv (ofR R)) d (aB R) hd (dA (aB R)) none none U (λc z=>by cases z);rw[show qU none=.non from rfl]at Y;have hs:(evs (ab defs (n+2)) [.blt .sortedKeys [.bor 1]] [sv (ofR R),sv (.dI (.k d)),sv .non,none]).bind (bj .seq)=some ((dA (aB R)).map .int):=by
  simp[evs,ev,hl,J]
 show bc (exs (ab defs (n+2)) (_::_::_::[_]) [sv (ofR R),none,none,none])=_;simp only[au];rw[iN (ac (vs:=[.val (ofR R)]) (by simp[evA]) e),aX];simp only[cI,cJ];rw[iN (v:=.non) (by simp[ev]),aX];simp only[cI,cJ];rw[dY hs,show ∀W:Rho,bL [.blt .sortedKeys [.bor 1]] W=W from λ_=>rfl,Y,dF,aX];simp[exs,ex,ev,aP]
theorem pQ(f):∀xs b,(xs.foldl (bz f) b=none/\xs=[]/\b=none)\/∃r,xs.foldl (bz f) b=some r/\(r∈xs\/b=some r)/\(∀x∈xs,f x<=f r)/\∀c,b=some c->f c<=f r
 | [],none=>.inl ⟨rfl,rfl,rfl⟩
 | [],some c=>.inr ⟨c,rfl,.inr rfl,λx hx=>(by cases hx),λd e=>by cases e;exact L0 _⟩
 |x::xs,b=>by
  rw[foldl_cons];rcases pQ f xs (bz f b x)with⟨_,_,h⟩|⟨r,h1,h2,U,z⟩
  .cases b with
   |none=>cases h
   |some c =>
    have h:(if f c<f x then some x else some c)=none:=h;split at h<;>cases h
  .refine .inr ⟨r,h1,?_,?_,?_⟩
   .rcases h2 with h2|h2
    .exact .inl (.tail _ h2)
    .cases b with
     |none=>cases h2;exact .inl (.head _)
     |some c =>
      have h2:(if f c<f x then some x else some c)=some r:=h2;split at h2
      .cases h2;exact .inl (.head _)
      .exact .inr h2
   .intro y J;rcases tf.mp J with rfl|J
    .cases b with
     |none=>exact z _ rfl
     |some c =>
      by_cases q:f c<f y
      .exact z y (if_pos q)
      .have:=z c (if_neg q);omega
    .exact U y J
   .intro c e;subst e;by_cases q:f c<f x
    .have:=z x (if_pos q);omega
    .exact z c (if_neg q)
def qV{R:LL}(g:∀s∈R,cm s):dA (aB R)=aa R:=by
 have p:(aa R).Perm (dA (aB R)):=by
  refine(KY (dq (cU R)) (dq (gN _))).mpr λk=>?_
  unfold dA;rw[ay,JU,Kb,iT];refine⟨λq=>⟨?_,q⟩,λq=>q.2⟩;obtain⟨s,hs,z⟩:=q;have:=(g s hs).2 k z;exact mem_map.mpr ⟨k.toNat,K4.mpr (by omega),by omega⟩
 rw[<- sortI_id ((gN (aB R)).imp λ{a b} q=>by omega),<- sortI_of_perm p,sortI_id ((cU R).imp λ{a b} q=>by omega)]
theorem jK(f):∀(hs:List Int) r,(∀h∈hs,0<f h)->(hs.foldl (im f) (r,r.elim 0 f)).1=hs.foldl (bz f) r
 | [],_,_=>rfl
 |h::hs,r,z=>by
  rw[foldl_cons,foldl_cons,<- jK f hs (bz f r h) λx hx=>z x (.tail _ hx)];have:im f (r,r.elim 0 f) h=(bz f r h,(bz f r h).elim 0 f):=by
   cases r with
   |none=>exact if_pos (z h (.head _))
   |some c =>
    show(if f c<f h then(some h,f h)else(some c,f c))=(if f c<f h then some h else some c,(if f c<f h then some h else some c).elim 0 f);split<;>rfl
  rw[this]
def v_(n:Nat)(R:LL)(g:ax R):ab defs (n+3) 18 [.val (ofR R)]=some (cf (cE R)):=by
 rw[uQ n R g,qV g.1];have:cE R=(aa R).foldl (bz (aB R)) none:=jK (aB R) (aa R) none λh z=>iT.mpr (ay.mp z)
 rw[this];cases (aa R).foldl (bz (aB R)) none<;>rfl
def pR(R):(cE R=none/\aa R=[])\/∃r,cE R=some r/\r∈aa R/\∀x,aB R x<=aB R r:=by
 have e:=jK (aB R) (aa R) none λh J=>iT.mpr (ay.mp J)
 rcases pQ (aB R) _ none with⟨h1,h2,_⟩|⟨r,h1,h2,U,_⟩
 .exact .inl ⟨e.trans h1,h2⟩
 .refine .inr ⟨r,e.trans h1,h2.resolve_right (λz=>by cases z),λx=>?_⟩;by_cases q:x∈aa R
  .exact U x q
  .have:=iS R r;have:¬ 0<aB R x:=λz=>q (ay.mpr (iT.mp z))
   omega
def sU:∀{a b:List Int},a.Perm b->a.sum=b.sum:=by
 intro a b p
 induction p with
 |nil=>rfl
 |cons x _ ih=>rw[sum_cons,sum_cons,ih]
 |swap x y l=>simp[sum_cons];omega
 |trans _ _ h1 h2=>rw[h1,h2]
def qW(hs:h∉s):drp h s=s:=
 K9.mpr λx hx=>by
  have:¬ x=h:=λe=>hs (e▸hx)
  simp[this]
theorem wc :∀{s},s.Nodup->h∈s->(drp h s).length+1=s.length
 |x::s,J,U=>by
  obtain⟨h1,h2⟩:=Kh.mp J;by_cases e:x=h
  .subst e;unfold drp;rw[Kz (by simp)];have:=qW h1;unfold drp at this;rw[this,length_cons]
  .unfold drp;rw[KW (by simpa using e),length_cons,length_cons];have:=wc h2 ((tf.mp U).resolve_left λz=>e z.symm);unfold drp at this;omega
def wd(g:cm s)(z:h∈s):wgt (drp h s)=wgt s+wgt s:=by
 have h1:=wc (dq g.1) z;have h2:=aL g;unfold wgt;rw[show 60-(drp h s).length=(60-s.length)+1 by omega,Int.pow_succ];omega
def lI{R:LL}(g:∀s∈R,cm s)(h):((bT h R).map wgt).sum=(R.map wgt).sum+aB R h:=by
 unfold bT aB;rw[sU ((sortT_perm _).map wgt),JT]
 induction R with
 |nil=>rfl
 |cons s R ih =>
  rw[JO,sum_cons,JO,sum_cons,JO,sum_cons,ih λt J=>g t (.tail _ J)];have:wgt (drp h s)=wgt s+if h∈s then wgt s else 0:=by
   by_cases z:h∈s
   .rw[if_pos z,wd (g s (.head _)) z]
   .rw[if_neg z,qW z,Nc]
  show wgt (drp h s)+_=_;omega
def sV(R)(h):((bg h R).map wgt).sum+aB R h=(R.map wgt).sum:=by
 unfold bg aB
 induction R with
 |nil=>rfl
 |cons s R ih =>
  rw[JO,sum_cons,JO,sum_cons]
  grind
def og{R:LL}{h k:Int}:(∃s∈bT h R,k∈s)->(∃s∈R,k∈s)/\k≠h:=by
 rintro ⟨s,hs,z⟩;obtain⟨t,J,rfl⟩:=mem_map.mp (da.mp hs);obtain⟨h1,h2⟩:=JU.mp z;exact⟨⟨t,J,h1⟩,by simpa using h2⟩
def xw(R:LL)(a b:Int):gL R a b=gL R b a:=by
 unfold gL;refine J5 (λl:LL=>(l.length:Int)) (filter_congr λs _=>Bool.and_comm _ _)
def AQ{R:LL}{M:Int}(h:lR R M){a b:Int}(z:a≠b):gL R a b<=M:=by
 by_cases q:a<b
 .exact h.2.2 a b q
 .rw[xw];exact h.2.2 b a (by omega)
def we{R J:LL}{M U:Int}(h:lR R M)(h':lR J U)(hc:∀a b,a<b->gL J a b<=gL R a b):U<=M:=by
 rcases h'.2.1 with e|⟨a,b,z,_,e⟩
 .have:=h.1;omega
 .have:=hc a b z;have:=h.2.2 a b z;omega
def pS(R:LL)(h a b:Int):gL (bT h R) a b<=gL R a b:=by
 unfold gL bT;rw[((sortT_perm _).filter _).length_eq,List.filter_map,nR];have:∀R:LL,(R.filter ((λs=>decide (a∈s)&&decide (b∈s))∘drp h)).length<=(R.filter λs=>decide (a∈s)&&decide (b∈s)).length:=λR=>by
  induction R with
  |nil=>exact gx _
  |cons s R ih =>
   by_cases q:((λs=>decide (a∈s)&&decide (b∈s))∘drp h) s=true
   .have z:(decide (a∈s)&&decide (b∈s))=true:=by
     have:(decide (a∈drp h s)&&decide (b∈drp h s))=true:=q;rw[il,Kb,Kb]at this ⊢;exact⟨(JU.mp this.1).1,(JU.mp this.2).1⟩
    rw[KW q,KW (p:=λs=>decide (a∈s)&&decide (b∈s)) z,length_cons,length_cons];omega
   .rw[Kz q];by_cases z:(decide (a∈s)&&decide (b∈s))=true
    .rw[KW (p:=λs=>decide (a∈s)&&decide (b∈s)) z,length_cons];omega
    .rw[Kz (p:=λs=>decide (a∈s)&&decide (b∈s)) z];exact ih
 have:=this R;omega
def xy(R:LL)(x a b:Int):gL (bg x R) a b<=gL R a b:=by
 unfold gL bg;have:=(Sublist.filter (λs=>decide (a∈s)&&decide (b∈s)) (filter_sublist (l:=R) (p:=λz=>!decide (x∈z)))).length_le;omega
noncomputable def wf(R:LL)(x h:Int):Int:=(R.map λs=>if x∈s/\h∈s then wgt s else 0).sum
def xz{R:LL}(g:∀s∈R,cm s){x h:Int}(hx:x≠h):aB (bT h R) x=aB R x+wf R x h:=by
 unfold bT aB wf;rw[sU ((sortT_perm _).map _),JT]
 induction R with
 |nil=>rfl
 |cons s R ih =>
  rw[JO,sum_cons,JO,sum_cons,JO,sum_cons,ih λt Y=>g t (.tail _ Y)];have e:(if x∈drp h s then wgt (drp h s)else 0)=(if x∈s then wgt s else 0)+if x∈s/\h∈s then wgt s else 0:=by
   have U:x∈drp h s ↔ x∈s:=by
    unfold drp;rw[JU];simp[hx]
   by_cases q:x∈s
   .rw[if_pos (U.mpr q),if_pos q];by_cases J:h∈s
    .rw[if_pos ⟨q,J⟩,wd (g s (.head _)) J]
    .rw[if_neg λz=>J z.2,qW J,Nc]
   .rw[if_neg λz=>q (U.mp z),if_neg q,if_neg λz=>q z.1,Nc]
  show(if x∈drp h s then wgt (drp h s)else 0)+_=_;omega
def C0{s:List Int}{x h:Int}(hx:x∈s)(z:h∈s)(J:x≠h):wgt s<=288230376151711744:=by
 have Z:2<=s.length:=by
  match s,hx,z with
  | [y],hx,z =>
   have U:=JY.mp hx;have Y:=JY.mp z;exact absurd (U.trans Y.symm) J
  | _::_::_,_,_=>simp
 unfold wgt;have e:(288230376151711744:Int)=2 ^ 58:=by decide
 rw[e];have:(2:Nat) ^ (60-s.length)<=2 ^ 58:=Nat.pow_le_pow_right (by decide) (by omega);have h2:((2 ^ (60-s.length):Nat):Int)<=((2 ^ 58:Nat):Int):=by omega
 rw[Int.natCast_pow,Int.natCast_pow]at h2;exact h2
def AR(R:LL){x h:Int}(z:x≠h):wf R x h<=288230376151711744*gL R x h:=by
 unfold wf gL
 induction R with
 |nil=>simp
 |cons s R ih =>
  rw[JO,sum_cons];by_cases q:x∈s/\h∈s
  .rw[if_pos q,KW (by simpa using q),length_cons];have:=C0 q.1 q.2 z;omega
  .rw[if_neg q,Kz (by simpa using q)];omega
def pT{R J:LL}{k:Nat}(xs:List Int)(hx:xs.Nodup)(h1:∀x∈xs,∃s∈R,x∈s)(h2:∀y,(∃s∈J,y∈s)->(∃s∈R,y∈s)/\y∉xs)(hk:xs.length=k):(aa J).length+k<=(aa R).length:=by
 have p:(aa J++xs).Nodup:=LQ.mpr ⟨dq (cU J),hx,λa ha b hb e=>by subst e;exact(h2 a (ay.mp ha)).2 hb⟩;have sub:aa J++xs ⊆ aa R:=λy z=>by
  rcases La.mp z with z|z
  .exact ay.mpr (h2 y (ay.mp z)).1
  .exact ay.mpr (h1 y z)
 have gen:∀(a b:List Int),a.Nodup->a ⊆ b->a.length<=b.length:=λa=>by
  induction a with
  |nil=>intro b _ _;exact J2 _
  |cons x a ih =>
   intro b hn hs;obtain⟨n1,n2⟩:=Kh.mp hn;have U:x∈b:=hs (.head _);have:=ih (b.erase x) n2 λy z=>by
    have Y:y≠x:=λe=>n1 (e▸z)
    exact(mem_erase_of_ne Y).mpr (hs (.tail _ z))
   rw[length_erase_of_mem U]at this;have Z:=length_pos_of_mem U;rw[length_cons];omega
 have:=gen _ _ p sub;rw[wh,hk]at this;exact this
def sW{a b c d:Int}(h1:a<=b)(h2:c<=d)(z:0<=c)(J:0<=b):a*c<=b*d:=Int.mul_le_mul h1 h2 z J
def oh{R:LL}{h J:Int}(g:ax R)(H:nQ R)(z:lR (bT h R) J):nQ (bT h R):=by
 obtain⟨M,U,hw⟩:=H;refine⟨J,z,?_⟩;rw[lI g.1 h];have Z:=iS R h;have m1:=we U z λa b _=>pS R h a b
 have m0:=U.1;have m2:=z.1;have hh:(aa (bT h R)).length+0<=(aa R).length:=pT [] K5 (λx hx=>by cases hx) (λy Y=>⟨(og Y).1,by simp⟩) rfl;have q1:1152921504606846976*J*(((aa (bT h R)).length:Int) / 2)<=1152921504606846976*M*(((aa R).length:Int) / 2):=sW (by omega) (by omega) (by omega) (by omega);omega
def uR{R:LL}{h x M' M2:Int}(g:ax R)(H:nQ R)(hh:∃s∈R,h∈s)(U:∀y,aB R y<=aB R h)(a0:lR (bT h R) M')(Y:lR (bg x (bT h R)) M2):nQ (bg x (bT h R)):=by
 by_cases hx:∃s∈bT h R,x∈s
 .obtain⟨a1,J⟩:=og hx;obtain⟨M,hM,hw⟩:=H;refine⟨M2,Y,?_⟩;have w1:=sV (bT h R) x;have w2:=lI g.1 h;have w3:=xz g.1 J;have w4:=AR R J;have w5:=AQ hM J;have w6:=U x;have m1:=we hM Y λa b _=>Lg (xy _ x a b) (pS R h a b)
  have m0:=hM.1;have m2:=Y.1;have hl:(aa (bg x (bT h R))).length+2<=(aa R).length:=pT [h,x] (by simp;exact λe=>J e.symm) (λy hy=>by
    simp only[tf,Lb,LV]at hy;rcases hy with rfl|rfl
    .exact hh
    .exact a1) (λy hy=>by
    obtain⟨s,hs,Z⟩:=hy;obtain⟨a3,ao⟩:=JU.mp hs;obtain⟨r1,r2⟩:=og ⟨s,a3,Z⟩;refine⟨r1,?_⟩;simp only[tf,Lb,LV,not_or];refine⟨r2,λe=>?_⟩;subst e;simp at ao;exact ao Z) rfl
  have q1:1152921504606846976*M2*(((aa (bg x (bT h R))).length:Int) / 2)<=1152921504606846976*M*(((aa R).length:Int) / 2-1):=sW (by omega) (by omega) (by omega) (by omega);rw[Int.mul_sub,Int.mul_one]at q1;omega
 .have e:bg x (bT h R)=bT h R:=K9.mpr λs hs=>by
   have:x∉s:=λz=>hx ⟨s,hs,z⟩
   simpa using this
  rw[e];exact oh g H a0
def wg{R:LL}(g:ax R)(H:hv R=true):(decide ([]∈bhd false R (cE R))||(hv (bhd false R (cE R))&&(aa (bhd false R (cE R))).all λh=>hv (bg h (bhd false R (cE R)))))=true:=by
 have H:=k8.mp H;rcases pR R with⟨e,U⟩|⟨r,e,Z,hb⟩
 .rw[e];obtain⟨M,_,hw⟩:=H;rw[U]at hw;cases R with
  |nil=>simp at hw
  |cons s R =>
   cases s with
   |nil=>rw[JS (show []∈bhd false ([]::R) none from .head _)];rfl
   |cons x s =>
    have:=ay.mpr ⟨x::s,.head R,.head s⟩;rw[U]at this;cases this
 .rw[e];have Y:ax (bT r R):=i8 g;obtain⟨M',_,z⟩:=f_ 0 (bT r R) Y;show(decide ([]∈bT r R)||(hv (bT r R)&&(aa (bT r R)).all λh=>hv (bg h (bT r R))))=true;rw[k8.mpr (oh g H z),Lo.mpr λx _=>?_]
  .simp
  .obtain⟨M2,_,J⟩:=f_ 0 (bg x (bT r R)) (ff Y);exact k8.mpr (uR g H (ay.mp Z) hb z J)
def GAt(v:PV)(R:LL)(t h:Bool)(N:Nat)(b:Bool):Prop:=ab defs N 29 [.val v,.val (ofR R),.val (.str (ag t)),.val (.str (ag h))]=some (.bl b)
def kw{d b:Nat}{R:LL}{v:PV}(p:WP d b R v):ax R->R.flatten.length<=4000->∀t:Bool,∃b:Bool,∀N,3*d+8<=N->GAt v R t false N b:=by
 induction p with
 | @leaf d b R v hv _ =>
  intro g J t;rcases hv with rfl|rfl
  .refine⟨decide ([]∈R),λN z=>?_⟩;obtain⟨n,rfl⟩:=upN 3 z;exact i9 n R t
  .refine⟨uN R t,λN z=>?_⟩;obtain⟨n,rfl⟩:=upN 6 z;exact gM n R g J t
 | @one d b c R v r hk hc hv ih =>
  intro g J t;obtain⟨b,a⟩:=ih (bU g r) (r4 (eE false R r) J) true;refine⟨!t&&b,λN z=>?_⟩;obtain⟨n,rfl⟩:=upN 6 z;exact qO g r t (a (n+3) (by omega))
 | @cases d b c R rows hl hq hr ih =>
  intro g J t;cases t with
  |false =>
   refine⟨false,λN z=>?_⟩;obtain⟨n,rfl⟩:=upN 3 z;exact nW n _ _
  |true =>
   obtain⟨b,hb⟩:=v4 λr Y=>ih r Y (iP g _ _) (r4 (iQ false R _ _) J) true
   refine⟨!decide (aa R=[])&&(decide (rows.map (·.1)=aa R)&&rows.all b),λN z=>?_⟩;obtain⟨n,rfl⟩:=upN 7 z;exact v3 g J hl λr Y=>hb r Y (n+4) (by omega)
 | @fewer d b R v A gA U hv ih =>
  intro g J t;obtain⟨b,a⟩:=ih gA U t;refine⟨below A R&&b,λN z=>?_⟩;obtain⟨n,rfl⟩:=upN 6 z;exact mn gA g t (a (n+4) (by omega))
 | @either d b R v w A B gA gB U fB hv hw ih Z =>
  intro g J t;obtain⟨x,a⟩:=ih gA U false;obtain⟨y,c⟩:=Z gB fB false;refine⟨t&&(decide (aa A++aa B).Nodup&&below A R&&below B R&&(x&&y)),λN z=>?_⟩;obtain⟨n,rfl⟩:=upN 7 z;exact kr gA gB g U fB t (a (n+4) (by omega)) (c (n+4) (by omega))
def dM(R):below R R=true:=eF λs hs=>⟨s,hs,bZ.mpr λ_ z=>z⟩
def eG{A B C:LL}(h:below A B=true)(h':below B C=true):below A C=true:=eF λs hs=>by
 obtain⟨t,z,q⟩:=cN h s hs;obtain⟨u,J,U⟩:=cN h' t z;exact⟨u,J,bZ.mpr λx hx=>bZ.mp q x (bZ.mp U x hx)⟩
def db(k)(h:below A B=true)(r):below (bhd k A r) (bhd k B r)=true:=by
 cases r with
 |none=>exact h
 |some x =>
  refine eF λs hs=>?_
  cases k with
  |true =>
   obtain⟨h1,h2⟩:=JU.mp hs;obtain⟨t,J,q⟩:=cN h s h1;exact⟨t,JU.mpr ⟨J,by simp at h2 ⊢;exact λz=>h2 (bZ.mp q x z)⟩,q⟩
  |false =>
   obtain⟨U,h1,rfl⟩:=mem_map.mp (da.mp hs);obtain⟨t,J,q⟩:=cN h U h1;refine⟨drp x t,da.mpr (mem_map.mpr ⟨t,J,rfl⟩),bZ.mpr λy Y=>?_⟩;obtain⟨Z,y2⟩:=JU.mp Y;exact JU.mpr ⟨bZ.mp q y Z,y2⟩
def tru{x:Option PV}(h:x=some (.bl a))(h':x=some (.bl b)):a=b:=by simp_all
theorem qX :∀{R:LL},(∀t∈R,t.length<=m)->R.flatten.length<=R.length*m
 | [],_=>by simp
 |t::R,h=>by
  have h1:=h t (.head _);have h2:=qX (R:=R) λt z=>h t (.tail _ z)
  rw[flatten_cons,wh,length_cons,Nat.succ_mul];omega
noncomputable def lim(t:Bool):Nat:=if t=true then 13 else 14
def F5(t:Bool):13<=lim t:=by cases t<;>decide
def StP(t:Bool)(x:LL×PV):Prop:=ax x.1/\x.1.flatten.length<=4000/\WP 10 (lim t) x.1 x.2
def wj{α:Type}{P:α->Prop}{xs:List α}{x:α}(h:∀y∈xs,P y)(hx:P x):∀y∈xs++[x],P y:=λy J=>by
 rcases La.mp J with z|z
 .exact h y z
 .rw[JY.mp z];exact hx
noncomputable abbrev fS(R:LL)(t:Bool)(a0 a3 a4 a5 a6 a7 a9 z J:Option MV)(fs Z:List (LL×PV))(U Y:Option MV):Rho:=[a0,sv (.str (ag t)),sv (.str (ag false)),a3,a4,a5,a6,a7,sv (ofR R),a9,some (.own (fs.map bY)),some (.own (Z.map bY)),sv (.lst ((Z.map (·.1)).flatten.map ofS)),U,Y,z,J]
def sX(cal:Cal)(C:lG cal)(R:LL)(g:SmR R)(t:Bool)(a0 a3 a4 a5 a6 a7 a9 J U:Option MV)(Q:LL)(gQ:SmR Q)(fs Y:List (LL×PV))(ck cl:Option MV)(hf:fs.length<=100)(ok:∀x∈fs,StP t x)(hr:Y.length<=100)(hh:(Y.map (·.1)).flatten.length<=100) :
  ∃(fs' aO:List (LL×PV)) (cr:Option MV),exs cal dv (put (fS R t a0 a3 a4 a5 a6 a7 a9 J U fs Y ck cl) 13 (.val (ofR Q)))=.next (fS R t a0 a3 a4 a5 a6 a7 a9 J U fs' aO (sv (ofR Q)) cr)/\(fs.length<=fs'.length/\fs'.length<=fs.length+2)/\(∀x∈fs',StP t x)/\(aO=Y\/∃v,aO=Y++[(Q,v)]):=by
 have hc:∀W:Rho,evA cal [.bor 13] W=some [.val (ofR Q)]->ev cal (.cmp .lt (.blt .len [(.call 38 [.bor 13])]) (ci 5)) W=some (.bl (decide ((((aa Q).map PV.int).length:Int)<5))):=λW hA=>(cw (aS (ac hA (C.hol Q gQ))) (dy _ _ _)).trans rfl
 by_cases q:(((aa Q).map PV.int).length:Int)<5
 .rw[JS q]at hc;rw[nR]at q;obtain⟨w,v,b4,e1⟩:=C.tried Q t gQ (by omega);obtain⟨w2,v2,c3,e2⟩:=C.tried Q false gQ (by omega);have lm:=F5 t;have p1:w=false->StP t (R,.tup [.str "fewer",ofR Q,v])/\StP t (Q,v):=λz=>by
   subst z;exact⟨⟨g.1,r4 g.2.2 (by decide),(WP.fewer Q gQ.1 (r4 gQ.2.2 (by decide)) b4.wp).le (by decide) (by omega)⟩,gQ.1,r4 gQ.2.2 (by decide),b4.wp.le (by decide) (by omega)⟩
  have a1:∀xs:List (LL×PV),xs.length<=101->(xs.map bY).length<10000:=λxs hx=>by rw[nR];omega
  have s2:∃Z:List (LL×PV),(fs.length<=Z.length/\Z.length<=fs.length+1)/\(∀x∈Z,StP t x)/\ex cal (.ite (.and (.cmp .eq (ix 14 0) (.bor 2)) (.cmp .eq (.bor 2) (cs "weaver"))) [.append 10 (.tup [.var 8,(.tup [(cs "fewer"),.var 13,(ix 14 1)])])] []) (fS R t a0 a3 a4 a5 a6 a7 a9 J U fs Y (sv (ofR Q)) (sv (.tup [.str (ag w),v])))=.next (fS R t a0 a3 a4 a5 a6 a7 a9 J U Z Y (sv (ofR Q)) (sv (.tup [.str (ag w),v]))):=by
   cases w with
   |false =>
    refine⟨fs++[(R,.tup [.str "fewer",ofR Q,v])],by rw[wh,length_singleton];omega,wj ok (p1 rfl).1,(bi (p:=true) rfl).trans ?_⟩;unfold fS;rw[Ko];exact dD (nL rfl rfl (a1 fs (by omega)))
   |true=>exact⟨fs,by omega,ok,(bi (p:=false) rfl).trans rfl⟩
  obtain⟨Z,l1,k1,s2⟩:=s2;have s3:∃f2:List (LL×PV),(fs.length<=f2.length/\f2.length<=fs.length+2)/\(∀x∈f2,StP t x)/\ex cal (.ite (.cmp .eq (ix 14 0) (.bor 2)) [.append 10 (.tup [.var 13,(ix 14 1)])] []) (fS R t a0 a3 a4 a5 a6 a7 a9 J U Z Y (sv (ofR Q)) (sv (.tup [.str (ag w),v])))=.next (fS R t a0 a3 a4 a5 a6 a7 a9 J U f2 Y (sv (ofR Q)) (sv (.tup [.str (ag w),v]))):=by
   cases w with
   |false =>
    refine⟨Z++[(Q,v)],by rw[wh,length_singleton];omega,wj k1 (p1 rfl).2,(bi (p:=true) rfl).trans ?_⟩;unfold fS;rw[Ko];exact dD (nL rfl rfl (a1 Z (by omega)))
   |true=>exact⟨Z,by omega,k1,(bi (p:=false) rfl).trans rfl⟩
  obtain⟨f2,l2,k2,s3⟩:=s3;have ci:∀W:Rho,evA cal [.bor 13,cs "weaver"] W=some [.val (ofR Q),.val (.str (ag false))]->∀i:Int,ev cal (.idx (.call 40 [.bor 13,(cs "weaver")]) (ci i)) W=gp (.tup [.str (ag w2),v2]) (.int i):=λW hA i=>eR (ac hA e2) rfl
  cases w2 with
  |false =>
   refine⟨f2,Y,_,dD ((bi (hc _ rfl)).trans (bN (ac rfl e1) (dH s2 (dH s3 (dD ((bi (p:=false) ((cw ((ci _ rfl 0).trans rfl) rfl).trans rfl)).trans rfl)))))),l2,k2,.inl rfl⟩
  |true =>
   refine⟨f2,Y++[(Q,v2)],sv (.tup [.str (ag w),v]),dD ((bi (hc _ rfl)).trans (bN (ac rfl e1) (dH s2 (dH s3 (dD ((bi (p:=true) ((cw ((ci _ rfl 0).trans rfl) rfl).trans rfl)).trans ?_)))))),l2,k2,.inr ⟨v2,rfl⟩⟩;unfold fS;rw[Ko,Ko,flatten_append,Ko];refine dH (nL rfl (i7 (bX rfl (bX ((ci _ rfl 1).trans rfl) rfl))) (a1 Y (by omega))) (bN ((bW rfl rfl).trans ?_) rfl);show(if _ then _ else _)=_;rw[if_pos (by have:=gQ.2.1;simp only[nR];omega)];simp
 .rw[J0 q]at hc;exact⟨fs,Y,_,dD ((bi (hc _ rfl)).trans rfl),by omega,ok,.inl rfl⟩
def F6(h:evXs cal xs W=some (vs,l))(z:vs.length<=10000):ex cal (.ownX i xs) W=.next (put l i (.own vs)):=by
 rw[ex,h];exact if_pos z
theorem lJ(cal:Cal)(C:lG cal)(R:LL)(g:SmR R)(t:Bool)(a0 a3 a4 a5 a6 a7 a9 U Y:Option MV):∀(D:List (LL)) (fs Z:List (LL×PV)) (z J:Option MV),(∀Q∈D,SmR Q)->fs.length+2*D.length<=100->(∀x∈fs,StP t x)->Z.length+D.length<=50->(Z.map (·.1)).flatten.length+D.flatten.length<=50 ->
  ∃(fs' aO:List (LL×PV)) (b2 ao:Option MV),aw (λx l=>exs cal dv (put l 13 (.val x))) (D.map ofR) (fS R t a0 a3 a4 a5 a6 a7 a9 U Y fs Z z J)=.next (fS R t a0 a3 a4 a5 a6 a7 a9 U Y fs' aO b2 ao)/\fs'.length<=100/\(∀x∈fs',StP t x)/\fs.length<=fs'.length/\aO.length<=50
 | [],fs,Z,z,J,_,hf,ok,hr,_=>⟨fs,Z,z,J,rfl,by simpa using hf,ok,gx _,hr⟩
 |Q::D,fs,Z,z,J,hD,hf,ok,hr,hh=>by
  rw[length_cons]at hf hr;rw[flatten_cons,wh]at hh;obtain⟨f1,r1,ao,e,l1,k1,q⟩:=sX cal C R g t a0 a3 a4 a5 a6 a7 a9 U Y Q (hD Q (.head _)) fs Z z J (by omega) ok (by omega) (by omega);have b:r1.length+D.length<=50/\(r1.map (·.1)).flatten.length+D.flatten.length<=50:=by
   rcases q with rfl|⟨v,rfl⟩
   .exact⟨by omega,by omega⟩
   .refine⟨by rw[wh,length_singleton];omega,?_⟩;rw[Ko,flatten_append,wh];simp;simp at hh;omega
  obtain⟨f2,r2,b5,cd,e2,l2,k2,l3,l4⟩:=lJ cal C R g t a0 a3 a4 a5 a6 a7 a9 U Y D f1 r1 (sv (ofR Q)) ao (λq hq=>hD q (.tail _ hq)) (by omega) k1 b.1 b.2;refine⟨f2,r2,b5,cd,?_,l2,k2,by omega,l4⟩;rw[JO,aw,e];exact e2
noncomputable abbrev f9(ns:List Int)(t:Bool)(z J room:Int)(cells:List Int)(S:List PV)(R:LL)(p:List Int)(r:Rho):Rho:=some (.brw (ns.map .int))::sv (.str (ag t))::sv (.str (ag false))::sv (.int z)::sv (.int J)::sv (.int room)::sv (ofL cells)::sv (.lst S)::sv (ofR R)::some (.ownD (.p p))::r
def xA(ns:List Int)(hl:ns.length<=63)(t:Bool):∃xs:List (LL×PV),ab defs 79 50 [.brw (ns.map .int),.val (.str (ag t)),.val (.str (ag false))]=some (.lst (xs.map bY))/\xs≠[]/\∀x∈xs,StP t x:=by
 have w0:0<=fT (cellOf ns 0) 1865811235122147685:=fb _ _;have b0:0<=fT (cellOf ns 1) 1442695040888963407:=fb _ _;have e1:=uP 76 ns 0 1865811235122147685 (by decide);have e2:=uP 76 ns 1 1442695040888963407 (by decide);generalize fT (cellOf ns 0) 1865811235122147685=U at w0 e1;generalize fT (cellOf ns 1) 1442695040888963407=J at b0 e2;obtain⟨room,r0,r1,e3⟩:∃room:Int,0<=room/\room<=8/\∀(a0 Y Z:Option MV) (W:Rho),ev (ab defs 78) (.idx (.lst [(ci 3),(ci 8)]) (.bin .mod (.bor 3) (ci 2))) (a0::Y::Z::sv (.int U)::W)=some (.int room):=by
  have e:∀(a0 Y Z:Option MV) (W:Rho),ev (ab defs 78) (.idx (.lst [(ci 3),(ci 8)]) (.bin .mod (.bor 3) (ci 2))) (a0::Y::Z::sv (.int U)::W)=gp (.lst [.int 3,.int 8]) (.int (U % 2)):=λ_ _ _ W=>eR rfl ((bW rfl rfl).trans rfl)
  obtain q|q:U % 2=0\/U % 2=1:=by omega
  .exact⟨3,by decide,by decide,λ_ _ _ W=>(e _ _ _ W).trans (by rw[q];rfl)⟩
  .exact⟨8,by decide,by decide,λ_ _ _ W=>(e _ _ _ W).trans (by rw[q];rfl)⟩
 have hc:=An ns (a:=2) (b:=2+room) (by decide) (by omega);have e4:∀(Y Z a3 a4:Option MV) (W:Rho),ev (ab defs 78) (.slice (.bor 0) (ci 2) (.bin .add (ci 2) (.bor 5))) (some (.brw (ns.map .int))::Y::Z::a3::a4::sv (.int room)::W)=some (ofL (qL ns (some 2) (some (2+room)))):=λ_ _ _ _ W=>by
  show some (PV.lst (cut (ns.map .int) (some 2) (some (2+room))))=_;rw[sB]
 generalize qL ns (some 2) (some (2+room))=cells at hc e4;have c4:cells.length<=8:=by omega
 have m1:=Kw J (b:=49) (by decide);have m2:=Kp J (b:=49) (by decide);have key:∀c:Int,∃s,(cm s/\s.length<=4)/\(∀k∈s,J % 49<=k/\k<=J % 49+11)/\ab defs 78 41 [.val (.int c),.val (.int (J % 49)),.val (.int (3+J / 49 % 2)),.val (.int (J / 98 % 3))]=some (ofS s):=λc=>AJ 76 c _ _ _ m1 (by omega) (by omega) (by omega) (by omega) (by omega)
 obtain⟨f,hf⟩:=Classical.axiomOfChoice key;have gS:∀t∈sortT (cells.map f),cm t/\t.length<=4:=λt ht=>by
  obtain⟨c,_,rfl⟩:=mem_map.mp (da.mp ht);exact(hf c).1
 have gP:∀t∈sortT (cells.map f),∀k∈t,J % 49<=k/\k<=J % 49+11:=λt ht k hk=>by
  obtain⟨c,_,rfl⟩:=mem_map.mp (da.mp ht);exact(hf c).2.1 k hk
 have hL:(sortT (cells.map f)).length=cells.length:=by rw[sortT_len,nR]
 have g:SmR (sortT (cells.map f)):=by
  have:=qX (R:=sortT (cells.map f)) (m:=4) λt ht=>(gS t ht).2
  exact⟨⟨λt ht=>(gS t ht).1,sortT_rises _,by omega⟩,by omega,by omega⟩
 have e5:∀(a0 Y Z a3 a5:Option MV) (W:Rho),ev (ab defs 78) (.comp .seq [.bor 6] [4] (.cst (.bl true)) (.call 41 [.bor 0,(.bin .mod (.bor 1) (ci 49)),(.bin .add (ci 3) (.bin .mod (.bin .fdiv (.bor 1) (ci 49)) (ci 2))),(.bin .mod (.bin .fdiv (.bor 1) (ci 98)) (ci 3))])) (a0::Y::Z::a3::sv (.int J)::a5::sv (ofL cells)::W)=some (.lst ((cells.map f).map ofS)):=λ_ _ _ _ _ W=>by
  rw[JT];exact dw (vs:=[ofL cells]) (g:=PV.int) (h:=ofS∘f) rfl rfl (by omega) λc _=>ac rfl (hf c).2.2
 have e6:∀(a0 Y Z a3 a4 a5 a6:Option MV) (W:Rho),ev (ab defs 78) (.blt .tupleOf [(.blt .sorted [.bor 7])]) (a0::Y::Z::a3::a4::a5::a6::sv (.lst ((cells.map f).map ofS))::W)=some (ofR (sortT (cells.map f))):=λ_ _ _ _ _ _ _ W=>by
  refine(aS (v:=.lst ((sortT (cells.map f)).map ofS)) ?_).trans rfl;rw[aS (v:=.lst ((cells.map f).map ofS)) rfl,jF,mi,bind_some,i4 (by rw[nR];omega)]
 generalize sortT (cells.map f)=R at g e6 gP;generalize (cells.map f).map ofS=S at e5 e6;obtain⟨v,n1,b4,hv⟩:=qT 3 61 (qL ns (some (2+room)) none).reverse R t g;have e7:∀(Y Z a3 a4:Option MV) (W:Rho),ev (ab defs 78) (.slice (.bor 0) (.bin .add (ci 2) (.bor 5)) (.cst .non)) (some (.brw (ns.map .int))::Y::Z::a3::a4::sv (.int room)::W)=some (.lst ((qL ns (some (2+room)) none).map .int)):=λ_ _ _ _ W=>by
  rw[<- sB];rfl
 have hol:(aa R).length<=12:=by
  have:=v5 (aa R) ((range 12).map λ(k:Nat)=>J % 49+(k:Int)) (k_ (cU _)) λk hk=>by
   obtain⟨s,hs,hk⟩:=ay.mp hk;have:=gP s hs k hk;exact mem_map.mpr ⟨(k-J % 49).toNat,K4.mpr (by omega),by omega⟩
  simpa using this
 have hb:(aa R).length+wst t 3<=lim t:=by
  cases t
  .exact LX hol 2
  .exact LX hol 1
 obtain⟨D,eD,d1,d2,d3,gD,_⟩:=sP 77 R g;obtain⟨fs,rs,b5,cd,eL,l1,k1,l3,l4⟩:=lJ (ab defs 78) (n_ 72) R g t (some (.brw (ns.map .int))) (sv (.int U)) (sv (.int J)) (sv (.int room)) (sv (ofL cells)) (sv (.lst S)) (some (.ownD (.p n1))) none none D [(R,v)] [] none none gD (by simp;omega) (λx hx=>by rw[JY.mp hx];exact⟨g.1,r4 g.2.2 (by decide),hv.le (gx _) hb⟩) (by simp;omega) (by simp;simp at d2;omega);refine⟨fs,?_,(λz=>by rw[z]at l3;cases l3),k1⟩;rw[ae (d:=e_) rfl rfl];have q2:bc (exs (ab defs 78) (e_.body.drop 11) (fS R t (some (.brw (ns.map .int))) (sv (.int U)) (sv (.int J)) (sv (.int room)) (sv (ofL cells)) (sv (.lst S)) (some (.ownD (.p n1))) none none fs rs b5 cd))=some (.lst (fs.map bY)):=aM (v:=.tup [.str "parts",.tup (rs.map bY)]) rfl (aV rfl (aV rfl (aV rfl rfl)));have q3:bc (exs (ab defs 78) (e_.body.drop 10) (fS R t (some (.brw (ns.map .int))) (sv (.int U)) (sv (.int J)) (sv (.int room)) (sv (ofL cells)) (sv (.lst S)) (some (.ownD (.p n1))) none none [(R,v)] [] none none))=some (.lst (fs.map bY)):=by
  refine eT (m:=.for1 13 .seq [(.call 45 [.bor 8])] dv) ?_ q2;rw[dY (xs:=D.map ofR) (As (ac rfl eD))];show MM.R.back _ _ (aw _ _ (fS R t (some (.brw (ns.map .int))) (sv (.int U)) (sv (.int J)) (sv (.int room)) (sv (ofL cells)) (sv (.lst S)) (some (.ownD (.p n1))) none none [(R,v)] [] none none))=_;rw[eL]
  rfl
 have bB:evXs (ab defs 78) [(.tup [(.pure (.var 8)),(.call 49 [true,false,false,false,false] [.bor 9,.bor 8,.bor 1,.bor 2,(ci 3)])])] (f9 ns t U J room cells S R (qL ns (some (2+room)) none).reverse [none,none,none,none,none,none,none])=some ([bY (R,v)],(f9 ns t U J room cells S R n1 [none,none,none,none,none,none,none])):=i_ (nZ (dz rfl (i_ (xcO rfl rfl rfl rfl rfl b4))));refine aM (e1 _) (aM (e2 _) (aM (e3 _ _ _ _) (aM (e4 _ _ _ _ _) (aM (e5 _ _ _ _ _ _) (aM (e6 _ _ _ _ _ _ _ _) (eT (FY (e7 _ _ _ _ _)) (eT (F6 bB (Nat.le_of_ble_eq_true rfl)) ?_)))))));exact eT (m:=.setOwn 11 (.lst [])) rfl (aM (v:=.lst []) rfl q3)
def lc :x∈drp h s ↔ x∈s/\x≠h:=by
 unfold drp
 simp_all
def ic :u∈bT h A ↔ ∃s∈A,drp h s=u:=by
 unfold bT;rw[da,mem_map]
def Iv{cal:Cal}{c:PV}{es:List ME}{W:Rho}{vs:List MV}{m:MV}(h:evA cal [.cst c] W=some [m])(k:evA cal es W=some vs):evA cal (.cst c::es) W=some (m::vs):=by
 rw[evA,ev,bind_some,evA]at h;rw[evA,ev,bind_some,k]
 .simp at h ⊢;exact h
 all_goals exact nofun
def AAt(v:PV)(R:LL)(h:Bool)(N:Nat)(x:Int)(r:Option Int)(z:LL)(J:PV):Prop:=ab defs N 24 [.val v,.val (ofR R),.val (.str (ag h)),.val (.int x)]=some (.tup [cf r,ofR z,J])
def AS (n) (R) (g:ax R) (h) (x):AAt (.tup [.str "weight"]) R h (n+5) x (cE (bhd (!h) R (some x))) (bh2 h R x (cE (bhd (!h) R (some x)))) (.tup [.str "weight"]):=by
 unfold AAt;rw[ae (d:=kh) rfl rfl];have z:=v_ (n+1) (bhd (!h) R (some x)) (bU g _);have J:=fD (n+1) R g (!h) (some x);have U:=ml (n+3) h;generalize cE (bhd (!h) R (some x))=r at z ⊢;have Y:=mq n R g h x r;cases r<;>exact aM rfl (FS rfl (bN (ac (dJ (ac (ik rfl (dJ (ac rfl U) rfl)) J) rfl) z) (pI (i7 (bX rfl (bX (ac rfl Y) (bX rfl rfl)))))))
theorem sY(cal)(J)(x):∀(z:List (Int×Option Int×PV)) y,∃U,aw (λv l=>exs cal eZ (put l 2 (.val v))) (z.map aY) [J,sv (.int x),y]=match z.find? λr=>decide (r.1=x)with
  |some r=>.ret (aY r)
  |none=>.next [J,sv (.int x),U]
 | [],y=>⟨y,rfl⟩
 |r::z,y=>by
  obtain⟨U,e⟩:=sY cal J x z (sv (aY r));refine⟨U,?_⟩;rw[JO,aw];have c:ev cal (.cmp .eq (ix 2 0) (.bor 1)) [J,sv (.int x),sv (aY r)]=some (.bl (r.1==x)):=(cw (x:=.int r.1) (y:=.int x) rfl rfl).trans (by rw[z7,mf];rfl);rw[find?_cons];by_cases q:r.1=x
  .rw[JQ.mpr q]at c;rw[show exs cal eZ (put [J,sv (.int x),y] 2 (.val (aY r)))=.ret (aY r)from Du c rfl,JS q]
  .rw[K7.mpr q]at c;rw[show exs cal eZ (put [J,sv (.int x),y] 2 (.val (aY r)))=.next [J,sv (.int x),sv (aY r)]from CO c rfl,J0 q];exact e
def Iw(n:Nat)(z:List (Int×Option Int×PV))(x:Int):ab defs (n+1) 25 [.val (.tup (z.map aY)),.val (.int x)]=some (((z.find? λr=>decide (r.1=x)).map aY).getD .non):=by
 rw[ae (d:=nG) rfl rfl];obtain⟨y,e⟩:=sY (ab defs n) (sv (.tup (z.map aY))) x z none;cases hf:z.find? λr=>decide (r.1=x)with
 |some r =>
  rw[hf]at e;exact J5 bc (Ar (xs:=z.map aY) rfl e)
 |none =>
  rw[hf]at e;exact J5 bc (n8 (xs:=z.map aY) rfl e (pI rfl))
def NAt(v:PV)(R:LL)(N:Nat)(m:Int):Prop:=ab defs N 28 [.val v,.val (ofR R)]=some (.int m)
def qY (n:Nat) (R:LL):NAt (.tup [.str "whole"]) R (n+1) 0:=by
 unfold NAt;rw[ae (d:=bK) rfl rfl];exact aM rfl (aV rfl (aV rfl (aV rfl (aV rfl (aV rfl (gI rfl))))))
def iU (n:Nat) (R:LL) (g:ax R) (z:R.flatten.length<=4000):NAt (.tup [.str "weight"]) R (n+3) (aa R).length:=by
 unfold NAt;rw[ae (d:=bK) rfl rfl];refine aM rfl (cA rfl ((aS (ac rfl (cW n R g.1 z))).trans ?_));show some (PV.int (((aa R).map PV.int).length:Nat))=_;rw[nR]
def AT {n:Nat}{R:LL} (g:ax R) (r:Option Int) {p:PV}{m:Int} (h:NAt p (bhd false R r) (n+3) m):NAt (.tup [.str "knot",cf r,p]) R (n+4) (1+m):=by
 have z:=fD n R g false r;unfold NAt;rw[ae (d:=bK) rfl rfl];exact aM rfl (aV rfl (cA rfl ((bW (x:=.int 1) (y:=.int m) rfl (ac (cx rfl (dJ (ac rfl z) rfl)) h)).trans rfl)))
def qZ {n:Nat}{A R:LL}{p:PV}{m:Int} (h:NAt p A n m):NAt (.tup [.str "fewer",ofR A,p]) R (n+1) m:=by
 unfold NAt;rw[ae (d:=bK) rfl rfl];exact aM rfl (aV rfl (aV rfl (cA rfl (ac rfl h))))
def sZ {n:Nat}{A B R:LL}{p q:PV}{m k:Int} (h:NAt p A n m) (h':NAt q B n k):NAt (.tup [.str "either",ofR A,p,ofR B,q]) R (n+1) (if k > m then k else m):=by
 have z:∀{cal:Cal}{a b:ME}{W:Rho},ev cal a W=some (.int m)->ev cal b W=some (.int k)->ev cal (.blt .max2 [a,b]) W=some (.int (if k > m then k else m)):=λh h'=>by
  rw[ev,bX h (bX h' rfl)]
  rfl
 unfold NAt;rw[ae (d:=bK) rfl rfl];exact aM rfl (aV rfl (aV rfl (aV rfl (aV rfl (cA rfl (z (ac rfl h) (ac rfl h')))))))
def wk {n:Nat}{R:LL} (g:ax R) (f:Int×Option Int×PV->Int) {z:List (Int×Option Int×PV)} (U:z.length<=10000) {m:Int} (Y:ua (z.map f)=some m) (h:∀r∈z,NAt r.2.2 (bh2 false R r.1 r.2.1) (n+4) (f r)):NAt (.tup [.str "cases",.tup (z.map aY)]) R (n+5) (1+m):=by
 have Z:∀{a:ME}{W:Rho},ev (ab defs (n+4)) a W=some (.lst ((z.map f).map .int))->ev (ab defs (n+4)) (.bin .add (ci 1) (.blt .max1 [a])) W=some (.int (1+m)):=λ{a W} h=>by
  rw[bW (x:=.int 1) (y:=.int m) rfl (by rw[aS h,sy,br,bind_some,Y];rfl)]
  rfl
 unfold NAt;rw[ae (d:=bK) rfl rfl];have c1:∀J a3,ev (ab defs (n+4)) (.comp .seq [(ix 0 1)] [1] (.cst (.bl true)) (.tup [(ix 0 2),(.call 9 [.bor 1,(cs "weaver"),(ix 0 0),(ix 0 1)])])) [sv (.tup [.str "cases",.tup (z.map aY)]),sv (ofR R),J,a3]=some (.lst (z.map λr=>.tup [r.2.2,ofR (bh2 false R r.1 r.2.1)])):=λ_ _=>dw (vs:=[.tup (z.map aY)]) (g:=aY) rfl rfl U λr _=>i7 (bX rfl (bX (ac (ik rfl (Iv rfl (cx rfl (cx rfl rfl)))) (mq n R g false r.1 r.2.1)) rfl))
 have c2:∀a0 a1 J,ev (ab defs (n+4)) (.comp .seq [.bor 3] [] (.cst (.bl true)) (.call 28 [(ix 0 0),(ix 0 1)])) [a0,a1,J,sv (.lst (z.map λr=>.tup [r.2.2,ofR (bh2 false R r.1 r.2.1)]))]=some (.lst ((z.map f).map .int)):=λ_ _ _=>by
  rw[JT];exact dw (vs:=[.lst (z.map λr=>.tup [r.2.2,ofR (bh2 false R r.1 r.2.1)])]) rfl rfl U λr hr=>ac (cx rfl (cx rfl rfl)) (show ab defs (n+4) 28 [.val r.2.2,.val (ofR (bh2 false R r.1 r.2.1))]=_ from h r hr)
 exact aM rfl (aV rfl (aV rfl (aV rfl (FS rfl (bN (c1 _ _) (pI (Z (c2 _ _ _))))))))
def s_{R:LL}(h:hv R=true):R≠[]:=λz=>by
 subst z;obtain⟨M,_,h⟩:=k8.mp h;rw[show aa []=[]from rfl]at h;simp at h
def ti:∀{l},l≠[]->∃m,ua l=some m
 | [],h=>absurd rfl h
 | _::_,_=>⟨_,rfl⟩
def oj{A R:LL}(h:below A R=true)(J:A≠[]):R≠[]:=λz=>by
 subst z;obtain⟨s,hs⟩:=Mx A J;obtain⟨t,U,_⟩:=cN h s hs;cases U
def dc{A R:LL}(h:below A R=true)(z:[]∈A):[]∈R:=by
 obtain⟨t,J,q⟩:=cN h [] z;have:=eq_nil_iff_forall_not_mem.mpr λy U=>by cases bZ.mp q y U
 exact this▸J
def ol {d b:Nat}{z:List (Int×Option Int×PV)} (Z:z.length<=10000) {R:LL} (hr:∀r∈z,WP d b (bh2 false R r.1 r.2.1) r.2.2) (g:ax R) (U:R.flatten.length<=4000) {t:Bool} (G:GAt (.tup [.str "cases",.tup (z.map aY)]) R t false (3*(d+1)+8) true):t=true/\aa R≠[]/\z.map (·.1)=aa R/\∀r∈z,∀N,3*d+8<=N->GAt r.2.2 (bh2 false R r.1 r.2.1) true false N true:=by
 cases t with
 |false=>cases tru (nW (3*(d+1)+5) _ _) G
 |true =>
  obtain⟨b,Y⟩:=v4 λr J=>kw (hr r J) (iP g _ _) (r4 (iQ false R _ _) U) true
  have e:=tru (v3 (n:=3*d+4) g U Z λr J=>Y r J _ (by omega)) G;simp only[il,JX,Ks,decide_eq_false_iff_not]at e;obtain⟨e1,e2,e3⟩:=e;exact⟨rfl,e1,e2,λr J N hN=>(Y r J N hN).trans (by rw[Lo.mp e3 r J])⟩
def lK{R:LL}(e:hv R=true):[]∈R\/((aa (bhd false R (cE R))).length:Int)<(aa R).length:=by
 rcases pR R with⟨q,z⟩|⟨x,q,hx,_⟩
 .obtain⟨M,_,hw⟩:=k8.mp e;rw[z]at hw;cases R with
  |nil=>simp at hw
  |cons s R =>
   cases s with
   |nil=>exact .inl (.head _)
   |cons y s =>
    have:=ay.mpr ⟨y::s,.head R,.head s⟩
    simp_all
 .rw[q];have:=dL (t:=false) hx;exact .inr (by omega)
def need{d b:Nat}{R:LL}{v:PV}(p:WP d b R v):ax R->R.flatten.length<=4000->∀t:Bool,GAt v R t false (3*d+8) true->R≠[]/\∃m:Int,(0<=m/\m<=b)/\∀N,3*d+6<=N->NAt v R N m:=by
 induction p with
 | @leaf d b R v hv hb =>
  intro g U t G;rcases hv with rfl|rfl
  .have e:decide ([]∈R)=true:=tru (i9 (3*d+5) R t) G;refine⟨λz=>(by rw[z]at e;cases e),0,by omega,λN J=>?_⟩;obtain⟨n,rfl⟩:=upN 1 J;exact qY n R
  .have e:=tru (gM (3*d+2) R g U t) G;refine⟨?_,(aa R).length,by omega,λN J=>?_⟩
   .cases t with
    |false=>exact s_ e
    |true =>
     have e:(decide ([]∈R)||(hv R&&(aa R).all λh=>hv (bg h R)))=true:=e;intro z;subst z;rw[show hv []=false from Bool.eq_false_iff.mpr λz=>s_ z rfl]at e;cases e
   .obtain⟨n,rfl⟩:=upN 3 J;exact iU n R g U
 | @one d b c R v r hk hc hv ih =>
  intro g U t G;have ao:=r4 (eE false R r) U;obtain⟨b,a⟩:=kw hv (bU g r) ao true;have e:=tru (qO (n:=3*d+5) g r t (a _ (by omega))) G;simp only[il]at e;obtain⟨_,rfl⟩:=e;obtain⟨h1,m,h3,h2⟩:=ih (bU g r) ao true (a _ (gx _));refine⟨λz=>h1 (by rw[z];cases r<;>rfl),1+m,by omega,λN J=>?_⟩;obtain⟨n,rfl⟩:=upN 4 J;exact AT g r (h2 _ (by omega))
 | @cases d b c R rows hl hq Y ih =>
  intro g U t G;obtain⟨rfl,e1,e2,e3⟩:=ol hl Y g U G;obtain⟨f,hF⟩:=v4 λr hm=>(ih r hm (iP g _ _) (r4 (iQ false R _ _) U) true (e3 r hm _ (gx _))).2
  have rn:rows≠[]:=λz=>e1 (by rw[<- e2,z];rfl)
  obtain⟨m,hm⟩:=ti (l:=rows.map f) (by simpa using rn);have mb:0<=m/\1+m<=c:=by
   obtain⟨r,Y,e⟩:=mem_map.mp (iY hm).1;have h1:=(hF r Y).1;have h2:=(hq r Y).2;omega
  refine⟨λz=>e1 (by rw[z];rfl),1+m,by omega,λN J=>?_⟩;obtain⟨n,rfl⟩:=upN 5 J;exact wk g f hl hm λr Y=>(hF r Y).2 _ (by omega)
 | @fewer d b R v A gA Z hv ih =>
  intro g U t G;obtain⟨b,a⟩:=kw hv gA Z t;have e:=tru (mn (n:=3*d+5) gA g t (a _ (by omega))) G;simp only[il]at e;obtain⟨hb,rfl⟩:=e;obtain⟨h1,m,h3,h2⟩:=ih gA Z t (a _ (gx _));refine⟨oj hb h1,m,h3,λN J=>?_⟩;obtain⟨n,rfl⟩:=upN 1 J;exact qZ (h2 _ (by omega))
 | @either d b R v w A B gA gB Z fB hv hw ih a4 =>
  intro g U t G;obtain⟨x,a⟩:=kw hv gA Z false;obtain⟨y,c⟩:=kw hw gB fB false;have e:=tru (kr (n:=3*d+4) gA gB g Z fB t (a _ (by omega)) (c _ (by omega))) G;simp only[il]at e;obtain⟨_,⟨⟨_,hb⟩,_⟩,rfl,rfl⟩:=e;obtain⟨h1,m,h5,h2⟩:=ih gA Z false (a _ (gx _));obtain⟨_,k,h6,h3⟩:=a4 gB fB false (c _ (gx _));refine⟨oj hb h1,if k > m then k else m,by split<;>omega,λN J=>?_⟩;obtain⟨n,rfl⟩:=upN 1 J;exact sZ (h2 _ (by omega)) (h3 _ (by omega))
def F1(v:PV)(R:LL)(N:Nat)(r:Option Int)(z:LL)(J:PV):Prop:=ab defs N 23 [.val v,.val (ofR R),.val (.str (ag false))]=some (.tup [cf r,ofR z,J])
def AU (n) (R):F1 (.tup [.str "whole"]) R (n+1) none R (.tup [.str "whole"]):=rfl
def xB (n) (R) (g:ax R):F1 (.tup [.str "weight"]) R (n+4) (cE R) (bhd false R (cE R)) (.tup [.str "weight"]):=by
 have z:=v_ n R g;generalize cE R=r at z ⊢;have J:=fD n R g false r;unfold F1;rw[ae (d:=qM) rfl rfl];cases r<;>exact aM rfl (aV rfl (FS rfl (bN (ac rfl z) (pI (i7 (bX rfl (bX (ac rfl J) (bX rfl rfl))))))))
def F7 (n) (R) (g:ax R) (r) (p):F1 (.tup [.str "knot",cf r,p]) R (n+4) r (bhd false R r) p:=by
 have z:=fD n R g false r;unfold F1;rw[ae (d:=qM) rfl rfl];cases r<;>exact aM rfl (aV rfl (aV rfl (cA rfl (i7 (bX rfl (bX (ac rfl z) (bX rfl rfl)))))))
def AV {A R z:LL} (e:F1 v A N r z J):F1 (.tup [.str "fewer",ofR A,v]) R (N+1) r z J:=
  aM rfl (cA rfl (ac rfl e))
structure Ix(d:Nat)(v:PV)(R:LL)(r:Option Int)(R':LL)(v':PV):Prop where
 good:ax R'
 keep:∀N,3*d+8<=N->GAt v' R' true false N true
 need:∃m m',(∀N,3*d+6<=N->NAt v R N m)/\(∀N,3*d+6<=N->NAt v' R' N m')/\0<=m'/\([]∈R\/m'<m)
 wp:∃b,WP d b R' v'
def AW{d b:Nat}{R:LL}{v:PV}(p:WP d b R v):ax R->R.flatten.length<=4000->GAt v R false false (3*d+8) true ->
  ∃r Y v',Ix d v R r Y v'/\(∀N,d+4<=N->F1 v R N r Y v')/\below Y (bhd false R r)=true:=by
 induction p with
 | @leaf d b R v hv _ =>
  intro g U G;have Z:=hv;rcases hv with rfl|rfl
  .have e:decide ([]∈R)=true:=tru (i9 (3*d+5) R false) G;have n0:∀N,3*d+6<=N->NAt (.tup [.str "whole"]) R N 0:=λN z=>by
    obtain⟨n,rfl⟩:=upN 1 z;exact qY n R
   refine⟨none,R,.tup [.str "whole"],⟨g,λN z=>?_,⟨0,0,n0,n0,L0 _,.inl (Kc e)⟩,_,.leaf Z (gx _)⟩,λN z=>?_,dM _⟩
   .obtain⟨n,rfl⟩:=upN 3 z;exact(i9 n R true).trans (by rw[e])
   .obtain⟨n,rfl⟩:=upN 1 z;exact AU n R
  .have e:hv R=true:=tru (gM (3*d+2) R g U false) G;have g':=bU (h:=false) g (cE R);have J:=r4 (eE false R (cE R)) U;refine⟨cE R,bhd false R (cE R),.tup [.str "weight"],⟨g',λN z=>?_,⟨(aa R).length,(aa (bhd false R (cE R))).length,λN z=>?_,λN z=>?_,by omega,lK e⟩,_,.leaf Z (gx _)⟩,λN z=>?_,dM _⟩
   .obtain⟨n,rfl⟩:=upN 6 z;exact(gM n _ g' J true).trans (J5 (λb=>some (PV.bl b)) (wg g e))
   .obtain⟨n,rfl⟩:=upN 3 z;exact iU n R g U
   .obtain⟨n,rfl⟩:=upN 3 z;exact iU n _ g' J
   .obtain⟨n,rfl⟩:=upN 4 z;exact xB n R g
 | @one d b c R v r hk hc hv ih =>
  intro g U G;have J:=r4 (eE false R r) U;obtain⟨b,a⟩:=kw hv (bU g r) J true;obtain rfl:b=true:=tru (qO (n:=3*d+5) g r false (a _ (by omega))) G;obtain⟨_,m,h3,h2⟩:=need hv (bU g r) J true (a _ (gx _));refine⟨r,bhd false R r,v,⟨bU g r,λN z=>a N (by omega),⟨1+m,m,λN z=>?_,λN z=>h2 N (by omega),h3.1,.inr (by omega)⟩,_,hv.le (Kr _) (gx _)⟩,λN z=>?_,dM _⟩
  .obtain⟨n,rfl⟩:=upN 4 z;exact AT g r (h2 _ (by omega))
  .obtain⟨n,rfl⟩:=upN 4 z;exact F7 n R g r v
 | @cases d b c R rows hl hq hr ih =>
  intro g U G;cases (ol hl hr g U G).1
 | @fewer d b R v A gA fA hv ih =>
  intro g U G;obtain⟨b,a⟩:=kw hv gA fA false;have e:=tru (mn (n:=3*d+5) gA g false (a _ (by omega))) G;simp only[il]at e;obtain⟨hb,rfl⟩:=e;obtain⟨r,Y,v',f,e1,lo⟩:=ih gA fA (a _ (gx _));obtain⟨m,m',n1,n2,n0,n3⟩:=f.need;obtain⟨b',w'⟩:=f.wp;refine⟨r,Y,v',⟨f.good,λN z=>f.keep N (by omega),⟨m,m',λN z=>?_,λN z=>n2 N (by omega),n0,n3.imp_left (dc hb)⟩,b',w'.le (Kr _) (gx _)⟩,λN z=>?_,eG lo (db false hb r)⟩
  .obtain⟨n,rfl⟩:=upN 1 z;exact qZ (n1 _ (by omega))
  .obtain⟨n,rfl⟩:=upN 1 z;exact AV (e1 n (by omega))
 | @either d b R v w A B gA gB fA fB hv hw ih b2 =>
  intro g U G;obtain⟨x,a⟩:=kw hv gA fA false;obtain⟨y,c⟩:=kw hw gB fB false;cases tru (kr (n:=3*d+4) gA gB g fA fB false (a _ (by omega)) (c _ (by omega))) G
def C1 (n) (R) (h) (x):AAt (.tup [.str "whole"]) R h (n+1) x none R (.tup [.str "whole"]):=rfl
def C2 {A R z:LL} (e:AAt v A h N x r z J):AAt (.tup [.str "fewer",ofR A,v]) R h (N+1) x r z J:=by
 unfold AAt;rw[ae rfl rfl];exact aM rfl (aV rfl (aV rfl (aV rfl (aV rfl (cA rfl (ac rfl e))))))
def tj {n:Nat}{A B R z:LL}{v w J:PV}{x:Int}{r:Option Int} (gA:ax A) (U:A.flatten.length<=4000) (e:if x∈aa A then F1 w B (n+2) r z J else F1 v A (n+2) r z J):AAt (.tup [.str "either",ofR A,v,ofR B,w]) R false (n+4) x r z J:=by
 unfold AAt;rw[ae (d:=kh) rfl rfl];refine aM rfl (aV rfl (aV rfl (aV rfl (aV rfl (aV rfl (cA rfl (ac rfl ?_)))))));rw[ae (d:=fC) rfl rfl];have c:ev (ab defs (n+2)) (.cmp .isIn (.bor 2) (.call 5 [(ix 0 1)])) [sv (.tup [.str "either",ofR A,v,ofR B,w]),sv (.str (ag false)),sv (.int x)]=some (.bl (decide (x∈aa A))):=by
  rw[cw (x:=.int x) rfl (ac (cx rfl rfl) (cW n A gA.1 U))];show Option.map PV.bl (isIn _ _)=_;rw[bH]
  rfl
 by_cases q:x∈aa A
 .rw[JS q]at c;rw[if_pos q]at e;exact cA c (ac rfl e)
 .rw[J0 q]at c;rw[if_neg q]at e;exact aV c (gI (ac rfl e))
def AX (n:Nat) (R:LL) (g:ax R) {z:List (Int×Option Int×PV)}{q:Int×Option Int×PV}{x:Int} (Y:z.find? (λr=>decide (r.1=x))=some q\/z.find? (λr=>decide (r.1=x))=none/\z.head?=some q):AAt (.tup [.str "cases",.tup (z.map aY)]) R false (n+6) x q.2.1 (bh2 false R q.1 q.2.1) q.2.2:=by
 unfold AAt;rw[ae (d:=kh) rfl rfl];refine aM rfl (aV rfl (aV rfl (cA rfl (ac rfl ?_))));rw[ae (d:=fP) rfl rfl];have U:=Iw (n+3) z x;have e2:=mq n R g false q.1 q.2.1;have J:∀{W:Rho},W=[sv (.tup [.str "cases",.tup (z.map aY)]),sv (ofR R),sv (.str (ag false)),sv (.int x),sv (aY q)]->bc (exs (ab defs (n+4)) [.ret (.tup [(ix 4 1),(.call 9 [.bor 1,.bor 2,(ix 4 0),(ix 4 1)]),(ix 4 2)])] W)=some (PV.tup [cf q.2.1,ofR (bh2 false R q.1 q.2.1),q.2.2]):=λ{W} h=>by
  subst h;exact gI (i7 (bX rfl (bX (ac (ik rfl (ik rfl (cx rfl (cx rfl rfl)))) e2) (bX rfl rfl))))
 rcases Y with Y|⟨hn,Z⟩
 .rw[Y]at U;exact aM (ac (cx rfl rfl) U) (aV rfl (aV rfl (J rfl)))
 .rw[hn]at U;cases z with
  |nil=>cases Z
  |cons r z =>
   cases Z;refine aM (ac (cx rfl rfl) U) (aV rfl (eT ((bi (p:=true) rfl).trans (bN (v:=aY q) ((eR (x:=.tup ((q::z).map aY)) rfl rfl).trans ?_) rfl)) (J rfl)));rw[Ik,gE (by decide) (by rw[nR,length_cons];omega)]
   rfl
def oq{R:LL}(h:x∉aa R):bg x R=R:=K9.mpr λs hs=>by
 have:x∉s:=λz=>h (ay.mpr ⟨s,hs,z⟩)
 simpa using this
def xC{A R:LL}(h:∀s∈A,s∈R):below A R=true:=eF λs hs=>⟨s,h s hs,bZ.mpr λ_ z=>z⟩
def pU{B R:LL}(h:below B R=true)(hx:x∉aa B):below B (bg x R)=true:=eF λs hs=>by
 obtain⟨t,J,q⟩:=cN h s hs;refine⟨t,JU.mpr ⟨J,?_⟩,q⟩;have:x∉t:=λz=>hx (ay.mpr ⟨s,hs,bZ.mp q x z⟩)
 simpa using this
def C3{R:LL}(h:[]∈R)(r):[]∈bhd false R r:=by
 cases r<;>first|exact h|exact ic.mpr ⟨[],h,rfl⟩
def xD(x)(R):(aa (bg x R)).length<=(aa R).length:=by
 by_cases h:x∈aa R
 .have:=dL (t:=true) h;exact r4 (Kr _) this
 .rw[oq h];exact gx _
def Iy{d b:Nat}{R:LL}{v:PV}(p:WP d b R v):ax R->R.flatten.length<=4000->GAt v R true false (3*d+8) true->∀x:Int,
  ∃r R' v',Ix d v R r R' v'/\(∀N,2*d+6<=N->AAt v R false N x r R' v')/\below R' (bhd false (bg x R) r)=true:=by
 induction p with
 | @leaf d b R v hv _ =>
  intro g Y G x;have a3:=hv;rcases hv with rfl|rfl
  .have e:decide ([]∈R)=true:=tru (i9 (3*d+5) R true) G;have e0:=Kc e;have n0:∀N,3*d+6<=N->NAt (.tup [.str "whole"]) R N 0:=λN J=>by
    obtain⟨n,rfl⟩:=upN 1 J;exact qY n R
   refine⟨none,R,.tup [.str "whole"],⟨g,λN J=>?_,⟨0,0,n0,n0,L0 _,.inl e0⟩,_,.leaf a3 (gx _)⟩,λN J=>?_,eF λs _=>⟨[],JU.mpr ⟨e0,by simp⟩,rfl⟩⟩
   .obtain⟨n,rfl⟩:=upN 3 J;exact(i9 n R true).trans (by rw[e])
   .obtain⟨n,rfl⟩:=upN 1 J;exact C1 n R false x
  .have e:(decide ([]∈R)||(hv R&&(aa R).all λh=>hv (bg h R)))=true:=tru (gM (3*d+2) R g Y true) G;have g1:ax (bg x R):=ff g;have g':=bU (h:=false) g1 (cE (bg x R));have a4:=r4 (iQ false R x (cE (bg x R))) Y;have hb:[]∈R\/hv (bg x R)=true:=by
    by_cases q:[]∈R
    .exact .inl q
    .rw[J0 q,Bool.false_or,il]at e;by_cases z:x∈aa R
     .exact .inr (Lo.mp e.2 x z)
     .rw[oq z];exact .inr e.1
   have w:uN (bhd false (bg x R) (cE (bg x R))) true=true:=by
    show(decide ([]∈bhd false (bg x R) (cE (bg x R)))||_)=true;rcases hb with q|q
    .rw[JS (C3 (show []∈bg x R from JU.mpr ⟨q,by simp⟩) _)];rfl
    .exact wg g1 q
   refine⟨cE (bg x R),bhd false (bg x R) (cE (bg x R)),.tup [.str "weight"],⟨g',λN J=>?_,⟨(aa R).length,(aa (bhd false (bg x R) (cE (bg x R)))).length,λN J=>?_,λN J=>?_,by omega,?_⟩,_,.leaf a3 (gx _)⟩,λN J=>?_,dM _⟩
   .obtain⟨n,rfl⟩:=upN 6 J;exact(gM n _ g' a4 true).trans (by rw[w])
   .obtain⟨n,rfl⟩:=upN 3 J;exact iU n R g Y
   .obtain⟨n,rfl⟩:=upN 3 J;exact iU n _ g' a4
   .rcases hb with q|q
    .exact .inl q
    .rcases lK q with z|z
     .exact .inl (JU.mp z).1
     .have:=xD x R;exact .inr (by omega)
   .obtain⟨n,rfl⟩:=upN 5 J;exact AS n R g false x
 | @one d b c R v r hk hc hv ih =>
  intro g Y G x;obtain⟨b,a⟩:=kw hv (bU g r) (r4 (eE false R r) Y) true;cases tru (qO (n:=3*d+5) g r true (a _ (by omega))) G
 | @cases d b c R U hl hq hr ih =>
  intro g Y G x;obtain⟨_,e1,e2,e3⟩:=ol hl hr g Y G;obtain⟨f,hF⟩:=v4 λr Z=>(need (hr r Z) (iP g _ _) (r4 (iQ false R _ _) Y) true (e3 r Z _ (gx _))).2
  have rn:U≠[]:=λz=>e1 (by rw[<- e2,z];rfl)
  obtain⟨m,Z⟩:=ti (l:=U.map f) (by simpa using rn);obtain⟨q,q1,q2,q3⟩:∃q∈U,(U.find? (λr=>decide (r.1=x))=some q\/U.find? (λr=>decide (r.1=x))=none/\U.head?=some q)/\(q.1=x\/x∉aa R):=by
   cases hx:U.find? λr=>decide (r.1=x)with
   |some q=>exact⟨q,mem_of_find?_eq_some hx,.inl rfl,.inl (by have:=find?_some hx;simpa using this)⟩
   |none =>
    refine⟨U.head rn,head_mem rn,.inr ⟨rfl,head?_eq_some_head rn⟩,.inr λz=>?_⟩;rw[<- e2]at z;obtain⟨r,Z,rfl⟩:=mem_map.mp z;have:=MR.mp hx r Z;simp at this
  have lt:=(iY Z).2 (f q) (MC q1);refine⟨q.2.1,bh2 false R q.1 q.2.1,q.2.2,⟨iP g _ _,λN J=>e3 q q1 N (by omega),⟨1+m,f q,λN J=>?_,λN J=>(hF q q1).2 N (by omega),(hF q q1).1.1,.inr (by omega)⟩,_,(hr q q1).le (Kr _) (gx _)⟩,λN J=>?_,?_⟩
  .obtain⟨n,rfl⟩:=upN 5 J;exact wk g f hl Z λr hr=>(hF r hr).2 _ (by omega)
  .obtain⟨n,rfl⟩:=upN 6 J;exact AX n R g q2
  .rcases q3 with z|z
   .rw[z];exact dM _
   .rw[oq z];exact db false (xC λs hs=>(JU.mp hs).1) _
 | @fewer d b R v A gA fA hv ih =>
  intro g Y G x;obtain⟨b,a⟩:=kw hv gA fA true;have e:=tru (mn (n:=3*d+5) gA g true (a _ (by omega))) G;simp only[il]at e;obtain⟨hb,rfl⟩:=e;obtain⟨r,R',v',f,e1,lo⟩:=ih gA fA (a _ (gx _)) x;obtain⟨m,m',n1,n2,n0,n3⟩:=f.need;obtain⟨b',w'⟩:=f.wp;refine⟨r,R',v',⟨f.good,λN J=>f.keep N (by omega),⟨m,m',λN J=>?_,λN J=>n2 N (by omega),n0,n3.imp_left (dc hb)⟩,b',w'.le (Kr _) (gx _)⟩,λN J=>?_,eG lo (db false (db true hb (some x)) r)⟩
  .obtain⟨n,rfl⟩:=upN 1 J;exact qZ (n1 _ (by omega))
  .obtain⟨n,rfl⟩:=upN 1 J;exact C2 (e1 n (by omega))
 | @either d b R v w A B gA gB fA fB hv hw ih c6 =>
  intro g Y G x;obtain⟨p,a⟩:=kw hv gA fA false;obtain⟨q,c⟩:=kw hw gB fB false;have e:=tru (kr (n:=3*d+4) gA gB g fA fB true (a _ (by omega)) (c _ (by omega))) G;simp only[il,Ks]at e;obtain⟨_,⟨⟨nd,bA⟩,bB⟩,rfl,rfl⟩:=e;obtain⟨_,m,_,Z⟩:=need hv gA fA false (a _ (gx _));obtain⟨_,k,_,hk⟩:=need hw gB fB false (c _ (gx _));have nE:∀N,3*(d+1)+6<=N->NAt (.tup [.str "either",ofR A,v,ofR B,w]) R N (if k > m then k else m):=λN J=>by
   obtain⟨n,rfl⟩:=upN 1 J;exact sZ (Z _ (by omega)) (hk _ (by omega))
  have df:m<=(if k > m then k else m):=by split<;>omega
  have dm:k<=(if k > m then k else m):=by split<;>omega
  by_cases hx:x∈aa A
  .obtain⟨r,R',v',f,e1,lo⟩:=AW hw gB fB (c _ (gx _));obtain⟨m1,m',n1,n2,n0,n3⟩:=f.need;obtain⟨b',w'⟩:=f.wp;have em:m1=k:=by have:=(n1 (3*d+6) (gx _)).symm.trans (hk _ (gx _));simpa using this
   have no:x∉aa B:=λz=>(LQ.mp nd).2.2 x hx x z rfl
   refine⟨r,R',v',⟨f.good,λN J=>f.keep N (by omega),⟨_,m',nE,λN J=>n2 N (by omega),n0,n3.imp (dc bB) λz=>by omega⟩,b',w'.le (Kr _) (gx _)⟩,λN J=>?_,eG lo (db false (pU bB no) r)⟩;obtain⟨n,rfl⟩:=upN 4 J;exact tj gA fA (by rw[if_pos hx];exact e1 _ (by omega))
  .obtain⟨r,R',v',f,e1,lo⟩:=AW hv gA fA (a _ (gx _));obtain⟨m1,m',n1,n2,n0,n3⟩:=f.need;obtain⟨b',w'⟩:=f.wp;have em:m1=m:=by have:=(n1 (3*d+6) (gx _)).symm.trans (Z _ (gx _));simpa using this
   refine⟨r,R',v',⟨f.good,λN J=>f.keep N (by omega),⟨_,m',nE,λN J=>n2 N (by omega),n0,n3.imp (dc bA) λz=>by omega⟩,b',w'.le (Kr _) (gx _)⟩,λN J=>?_,eG lo (db false (pU bA hx) r)⟩;obtain⟨n,rfl⟩:=upN 4 J;exact tj gA fA (by rw[if_neg hx];exact e1 _ (by omega))
def pV{K:List Int}(h:K.length<60):∃k:Nat,k<60/\(k:Int)∉K:=by
 refine M3 λz=>?_
 have hs:((range 60).map λ(k:Nat)=>(k:Int)) ⊆ K:=λj J=>by
  obtain⟨k,U,rfl⟩:=mem_map.mp J;exact M3 λw=>z ⟨k,K4.mp U,w⟩
 have:=v5 _ _ (by decide) hs;rw[nR,Mu]at this;omega
def Iz{cal:Cal}{op:Cp}{a b:ME}{W:Rho}{v:PV}(h:ev cal (.cmp op a b) W=some v):evA cal [.cmp op a b] W=some [.val v]:=by
 rw[evA,h,bind_some,evA]
 .rfl
 .exact nofun
def IA{cal:Cal}{op:Op2}{a b:ME}{W:Rho}{v:PV}(h:ev cal (.bin op a b) W=some v):evA cal [.bin op a b] W=some [.val v]:=by
 rw[evA,h,bind_some,evA]
 .rfl
 .exact nofun
def C4{T:LL}(h:aa T=[])(n:[]∉T):T=[]:=by
 cases T with
 |nil=>rfl
 |cons s T =>
  cases s with
  |nil=>exact absurd (.head _) n
  |cons x s =>
   have:x∈aa ((x::s)::T):=ay.mpr ⟨x::s,.head _,.head _⟩;rw[h]at this;cases this
def AY(n:Nat)(r:Option Int)(T:List Int)(h:∃k:Nat,k<60/\(k:Int)∉T):∃y,ab defs (n+1) 52 [.val (cf r),.brw (T.map .int)]=some (.int y)/\y∉T/\(r=some y\/(0<=y/\y<=59))/\∀x,r=some x->x∉T->y=x:=by
 rw[ae (d:=nI) rfl rfl];have hm:∃y:Int,(∀J,ev (ab defs n) (.blt .min1 [(.comp .rng [(ci 60)] [1] (.cmp .notIn (.bor 0) (.bor 1)) (.var 0))]) [J,some (.brw (T.map .int))]=some (.int y))/\y∉T/\0<=y/\y<=59:=by
  have hc:∀J,ev (ab defs n) (.comp .rng [(ci 60)] [1] (.cmp .notIn (.bor 0) (.bor 1)) (.var 0)) [J,some (.brw (T.map .int))]=some (.lst ((((range 60).map λ(k:Nat)=>(k:Int)).filter λk=>!decide (k∈T)).map .int)):=λJ=>by
   have e0:evs (ab defs n) [ci 60] [J,some (.brw (T.map .int))]=some [.int 60]:=by simp[evs,ev]
   have e1:bj .rng [.int 60]=some (((range 60).map λ(k:Nat)=>(k:Int)).map .int):=by
    rw[g_ (by decide) (by decide),JT]
    rfl
   rw[ev,e0,bind_some,e1,bind_some,if_pos (by simp),ce (p:=λk=>!decide (k∈T)) (h:=PV.int)]
   .rfl
   .intro k _;simp[ev,cv,bH]
   .intro k _ _;simp[ev,cv]
  generalize hG:(((range 60).map λ(k:Nat)=>(k:Int)).filter λk=>!decide (k∈T))=G at hc;obtain⟨k,hk,hT⟩:=h;have U:(k:Int)∈G:=by
   rw[<- hG,JU];exact⟨mem_map.mpr ⟨k,K4.mpr hk,rfl⟩,by simp[hT]⟩
  cases Y:BT G with
  |none =>
   cases G with
   |nil=>cases U
   |cons=>cases Y
  |some y =>
   have Z:=(po Y).1;rw[<- hG,JU]at Z;obtain⟨j,hj,rfl⟩:=mem_map.mp Z.1;have:=K4.mp hj;refine⟨_,λJ=>?_,by simpa using Z.2,by omega,by omega⟩;rw[aS (hc J),Ak,br,bind_some,Y]
   rfl
 obtain⟨y,e,h1,h2⟩:=hm;cases r with
 |none=>exact⟨y,aV (cV (p:=false) (q:=false) rfl nofun) (gI (e _)),h1,.inr h2,nofun⟩
 |some x =>
  have hi:ev (ab defs n) (.and (.cmp .notN (.bor 0) (.cst .non)) (.cmp .notIn (.bor 0) (.bor 1))) [sv (.int x),some (.brw (T.map .int))]=some (.bl (true&&!decide (x∈T))):=cV rfl λ_=>by
   simp[ev,bH]
  by_cases z:x∈T
  .rw[JS z]at hi;exact⟨y,aV hi (gI (e _)),h1,.inr h2,λw hw hn=>absurd z (by rw[JP hw];exact hn)⟩
  .rw[J0 z]at hi;exact⟨x,cA hi rfl,z,.inl rfl,λw hw _=>JP hw⟩
def AZ(n:Nat)(H T:List Int)(m:Int)(J:Bool)(hm:0<=m)(h0:H≠[])(hl:H.length<=60):∃y,ab defs (n+1) 51 [.val (ofL H),.brw (T.map .int),.val (.int m),.val (.bl J)]=some (.int y)/\(y∈H\/(J=true/\y∉T/\0<=y/\y<=59)):=by
 rw[ae (d:=kj) rfl rfl];have Y:ev (ab defs n) (.bin .fdiv (.bor 2) (ci 4)) [sv (ofL H),some (.brw (T.map .int)),sv (.int m),sv (.bl J)]=some (.int (m / 4)):=vT rfl (by decide);have Z:ev (ab defs n) (.bin .mod (.bin .fdiv (.bor 2) (ci 4)) (ci 60)) [sv (ofL H),some (.brw (T.map .int)),sv (.int m),sv (.bl J)]=some (.int (m / 4 % 60)):=(bW Y (dy _ _ _)).trans rfl;have hb:=Kw (m / 4) (b:=60) (by decide);have a1:=Kp (m / 4) (b:=60) (by decide);have d3:ev (ab defs n) (.cmp .notIn (.bin .mod (.bin .fdiv (.bor 2) (ci 4)) (ci 60)) (.bor 1)) [sv (ofL H),some (.brw (T.map .int)),sv (.int m),sv (.bl J)]=some (.bl (!decide (m / 4 % 60∈T))):=by
  rw[cw Z (y:=.lst (T.map .int)) rfl,z8,bH]
  rfl
 have hp:0<H.length:=Me.mpr h0;have hk:=Kw (m / 4) (b:=H.length) (by omega);have U:=Kp (m / 4) (b:=H.length) (by omega);have d4:ev (ab defs n) (.idx (.bor 0) (.bin .mod (.bin .fdiv (.bor 2) (ci 4)) (.blt .len [.bor 0]))) [sv (ofL H),some (.brw (T.map .int)),sv (.int m),sv (.bl J)]=some (.int (H[(m / 4 % H.length).toNat]'(by omega))):=by
  have d5:ev (ab defs n) (.blt .len [.bor 0]) [sv (ofL H),some (.brw (T.map .int)),sv (.int m),sv (.bl J)]=some (.int H.length):=by
   rw[aS (v:=ofL H) rfl];simp
  rw[eR (x:=ofL H) (y:=.int (m / 4 % H.length)) rfl ((bW Y d5).trans (by rw[mh,if_pos (by omega)])),Am,gE hk (by rw[nR];exact U),bind_some,JZ,JR (by omega)]
  rfl
 obtain⟨b,hc,hT⟩:∃b:Bool,ev (ab defs n) (.and (.bor 3) (.and (.cmp .eq (.bin .mod (.bor 2) (ci 4)) (ci 0)) (.cmp .notIn (.bin .mod (.bin .fdiv (.bor 2) (ci 4)) (ci 60)) (.bor 1)))) [sv (ofL H),some (.brw (T.map .int)),sv (.int m),sv (.bl J)]=some (.bl b)/\(b=true->J=true/\m / 4 % 60∉T):=
  ⟨_,cV (p:=J) rfl λ_=>cV (iO rfl (by decide)) λ_=>d3,λz=>by
   simp only[il,JX,decide_eq_false_iff_not]at z;exact⟨z.1,z.2.2⟩⟩
 cases b with
 |true=>exact⟨_,cA hc Z,.inr ⟨(hT rfl).1,(hT rfl).2,hb,by omega⟩⟩
 |false=>exact⟨_,aV hc (gI d4),.inl (ML _)⟩
def pW{R:LL}(h:∀t∈R,cm t)(J:R.length<=60):R.flatten.length<=4000:=by
 have:=qX (R:=R) (m:=60) λt z=>aL (h t z)
 omega
def C5{T A B:LL}{x y:Int}{r:Option Int}{K:List Int}(hb:below A T=true)(hl:below B (bhd false (bg x A) r)=true)(ht:∀s∈T,∀k∈s,k∉K)(hy:∀z,r=some z->z∉K++[x]->y=z) :
  below B (bT y (bg x T))=true/\∀s∈bT y (bg x T),∀k∈s,k∉K++[x]++[y]:=by
 have h2:=eG hl (db false (db true hb (some x)) r);have h3:∀s∈bg x T,∀k∈s,k∉K++[x]:=λs hs k J z=>by
  obtain⟨U,Y⟩:=JU.mp hs;rcases La.mp z with z|z
  .exact ht s U k J z
  .rw[JY.mp z]at J;simp at Y;exact Y J
 refine⟨eF λs hs=>?_,λs hs k J z=>?_⟩
 .obtain⟨t,h4,h5⟩:=cN h2 s hs;have h5:=bZ.mp h5;cases r with
  |none=>exact⟨drp y t,ic.mpr ⟨t,h4,rfl⟩,bZ.mpr λk J=>h5 k (lc.mp J).1⟩
  |some z =>
   obtain⟨Z,h6,rfl⟩:=ic.mp (show t∈bT z (bg x T)from h4);refine⟨drp y Z,ic.mpr ⟨Z,h6,rfl⟩,bZ.mpr λk J=>?_⟩;obtain⟨U,Y⟩:=lc.mp J;by_cases e:k=z
   .subst e;exact absurd (hy k rfl (h3 Z h6 k U)).symm Y
   .exact h5 k (lc.mpr ⟨U,e⟩)
 .obtain⟨Z,h6,rfl⟩:=ic.mp hs;obtain⟨U,Y⟩:=lc.mp J;rcases La.mp z with z|z
  .exact h3 Z h6 k U z
  .exact Y (JY.mp z)
structure S40(m0:Int)(k:Nat)(T A:LL)(v:PV)(K:List Int)(q:Int):Prop where
 gA:ax A
 wp:∃b,WP 10 b A v
 gd:∀N,38<=N->GAt v A true false N true
 low:below A T=true
 fre:∀s∈T,∀j∈s,j∉K
 len:K.length<=2*k+1
 nd:∃m:Int,(∀N,36<=N->NAt v A N m)/\0<=m/\m+k<=13/\q+m<=m0
noncomputable abbrev f40(ns:List Int)(U Y:Option MV)(T A:LL)(v:PV)(r:Option Int)(K:List Int)(q Z:Int)(x8 x9 z J:Option MV):Rho:=[some (.brw (ns.map .int)),U,Y,sv (ofR T),sv (.tup [cf r,ofR A,v]),some (.own (K.map .int)),sv (.int q),sv (.int Z),x8,x9,z,J]
def wl{cal:Cal}{T:LL}{W:Rho}(h:ev cal (.bor 3) W=some (ofR T)):ev cal (.cmp .notIn (.tup []) (.bor 3)) W=some (.bl (!decide ([]∈T))):=by
 rw[cw (x:=ofS []) (y:=ofR T) rfl h];show Option.map PV.bl (Option.map (λb=>!b) (isIn (ofS []) (T.map ofS)))=_;rw[jE]
 rfl
def F8(ns:List Int)(Z a2:Option MV){Y:Int}{k:Nat}{T A:LL}{v:PV}{K:List Int}{q:Int}(gT:ax T)(S:S40 Y k T A v K q)(hk:k<=12)(nT:[]∉T)(r:Option Int)(x8 x9 a5 a6:Option MV) :
  ∃(T' A':LL) (v':PV) (r':Option Int) (K':List Int) (y9 a8 bA:Option MV),exs (ab defs 78) eC (put (f40 ns Z a2 T A v r K q Y x8 x9 a5 a6) 8 (.val (.int k)))=.next (f40 ns Z a2 T' A' v' r' K' (q+1) Y (sv (.int k)) y9 a8 bA)/\ax T'/\S40 Y (k+1) T' A' v' K' (q+1):=by
 obtain⟨b,wp⟩:=S.wp;have hf:=pW S.gA.1 S.gA.2.2;have hT:aa T≠[]:=λz=>by
  have:=C4 z nT;subst this;have hA:=(need wp S.gA hf true (S.gd 38 (by decide))).1;exact oj S.low hA rfl
 have e1:=i6 77 T gT.1;have hl:=aL (bm gT.1);have hp:0<(aa T).length:=Me.mpr hT;have e2:∀a9 J U,ev (ab defs 78) (.call 35 [(.call 34 [.bor 0,(.bin .add (ci 10) (.bor 8))]),(ci 1283712873162387911)]) (f40 ns Z a2 T A v r K q Y (sv (.int k)) a9 J U)=some (.int (fT (cellOf ns (10+k)) 1283712873162387911)):=λ_ _ _=>ac (dJ (ac (ik rfl (IA ((bW rfl rfl).trans rfl))) (Ap 77 _ ns (10+k) rfl (by omega))) rfl) (mj 77 _ _)
 have p0:=fb (cellOf ns (10+k)) 1283712873162387911;generalize fT (cellOf ns (10+k)) 1283712873162387911=p at e2 p0;obtain⟨x,e3,_⟩:=AZ 77 (aa T) K p (decide ((k:Int)<4)) p0 hT hl;obtain⟨rr,A',v',f,AA,lo⟩:=Iy wp S.gA hf (S.gd 38 (by decide)) x;have e4:=ib 77 T x (by have:=gT.2.2;omega);have cd:=S.len;obtain⟨y,e5,_,_,hy⟩:=AY 77 rr (K++[x]) (pV (by rw[wh,length_singleton];omega));obtain⟨n2,n3⟩:=C5 (y:=y) S.low lo S.fre hy;have e6:=dZ 77 (bg x T) y (ff gT);have c0:∀a9 J U,ev (ab defs 78) (.cmp .notIn (.tup []) (.bor 3)) (f40 ns Z a2 T A v r K q Y (sv (.int k)) a9 J U)=some (.bl true):=λ_ _ _=>(wl (T:=T) rfl).trans (by rw[J0 nT];rfl)
 have c1:∀J U,ev (ab defs 78) (.cmp .gt (.blt .len [.bor 9]) (ci 0)) (f40 ns Z a2 T A v r K q Y (sv (.int k)) (sv (ofL (aa T))) J U)=some (.bl true):=λ_ _=>by
  rw[cw (aS (v:=ofL (aa T)) rfl) (dy _ _ _)];show some (PV.bl (decide ((0:Int)<(((aa T).map PV.int).length:Nat))))=_;rw[JS (by rw[nR];omega)]
 have mm:∀(L:List Int) (z:Int),(L++[z]).map PV.int=L.map PV.int++[PV.int z]:=λ_ _=>Ko
 refine⟨bT y (bg x T),A',v',rr,K++[x]++[y],sv (ofL (aa T)),sv (.int x),sv (.int y),?_,i8 (ff gT),?_⟩
 .refine bN (ac rfl e1) (dD ((bi (cV (p:=true) (q:=true) (c0 _ _ _) λ_=>c1 _ _)).trans ?_));refine bN (ac (ik rfl (ik rfl (dJ (e2 _ _ _) (Iz ((cw rfl rfl).trans rfl))))) e3) (dH (nL rfl rfl (by rw[nR];omega)) (bN (ac rfl e4) (bN (ac (cx rfl (cx rfl rfl)) (AA 78 (by decide))) ?_)));refine bN (ac (cx rfl (ik rfl rfl)) (by rw[mm]at e5;exact e5)) (dH (nL rfl rfl (by simp;omega)) (bN (ac rfl e6) (bN ((bW rfl rfl).trans rfl) ?_)));unfold f40;rw[mm,mm]
  rfl
 .obtain⟨m,d1,d2,d3,d4⟩:=S.nd;obtain⟨m1,m',n1,n4,n0,n5⟩:=f.need;have em:m1=m:=by have:=(n1 36 (by decide)).symm.trans (d1 36 (by decide));simpa using this
  have lt:m'<m:=by
   rcases n5 with z|z
   .exact absurd (dc S.low z) nT
   .omega
  exact⟨f.good,f.wp,f.keep,n2,n3,by simp only[wh,length_singleton];omega,m',n4,n0,by omega,by omega⟩
def F9(ns:List Int)(Y Z:Option MV){m0 q:Int}{k:Nat}{T A:LL}{v:PV}{K:List Int}(gT:ax T)(h:[]∈T)(r:Option Int)(x8 x9 J U:Option MV):exs (ab defs 78) eC (put (f40 ns Y Z T A v r K q m0 x8 x9 J U) 8 (.val (.int k)))=.next (f40 ns Y Z T A v r K q m0 (sv (.int k)) (sv (ofL (aa T))) J U):=
 bN (ac rfl (i6 77 T gT.1)) (dD ((bi (p:=false) (cV (p:=false) (q:=false) ((wl (T:=T) rfl).trans (by rw[JS h];rfl)) λz=>by cases z)).trans rfl))
theorem jL(ns:List Int)(Y Z:Option MV){m0:Int}:∀(n k:Nat),k+n=13->∀(T A:LL) (v:PV) (K:List Int) (q:Int) (r:Option Int) (x8 x9 J U:Option MV),ax T->([]∈T/\q<=m0\/S40 m0 k T A v K q) ->
  ∃(T' A':LL) (v':PV) (r':Option Int) (K':List Int) (q':Int) (y8 y9 a3 a4:Option MV),aw (λx l=>exs (ab defs 78) eC (put l 8 (.val x))) ((range' k n).map λ(k:Nat)=>PV.int (k:Int)) (f40 ns Y Z T A v r K q m0 x8 x9 J U)=.next (f40 ns Y Z T' A' v' r' K' q' m0 y8 y9 a3 a4)/\[]∈T'/\q'<=m0
 |0,k,hk,T,A,v,K,q,r,x8,x9,J,U,gT,h=>by
  refine⟨T,A,v,r,K,q,x8,x9,J,U,rfl,?_⟩;rcases h with h|S
  .exact h
  .obtain⟨m,d1,d2,d3,d4⟩:=S.nd;obtain⟨b,wp⟩:=S.wp;obtain⟨_,_,_,f,_,_⟩:=Iy wp S.gA (pW S.gA.1 S.gA.2.2) (S.gd 38 (by decide)) 0;obtain⟨m1,m',n1,n4,n0,n5⟩:=f.need;have em:m1=m:=by have:=(n1 36 (by decide)).symm.trans (d1 36 (by decide));simpa using this
   rcases n5 with z|z
   .exact⟨dc S.low z,by omega⟩
   .omega
 |n+1,k,hk,T,A,v,K,q,r,x8,x9,J,U,gT,h=>by
  rw[range'_succ,JO,aw];by_cases nT:[]∈T
  .have h':q<=m0:=h.elim (·.2) λS=>by obtain⟨m,_,_,_,_⟩:=S.nd;omega
   rw[F9 ns Y Z gT nT];exact jL ns Y Z n (k+1) (by omega) T A v K q r _ _ _ _ gT (.inl ⟨nT,h'⟩)
  .rcases h with h|S
   .exact absurd h.1 nT
   .obtain⟨T',A',v',r',K',y9,a3,a4,e,g',S'⟩:=F8 ns Y Z gT S (by omega) nT r x8 x9 J U;rw[e];exact jL ns Y Z n (k+1) (by omega) T' A' v' K' (q+1) r' _ _ _ _ g' (.inr S')
def IB(ns:List Int){x:LL×PV}(t:Bool)(ok:StP t x)(G:∀N,38<=N->GAt x.2 x.1 t false N true):ab defs 79 53 [.brw (ns.map .int),.val (bY x),.val (.str (ag t))]=some (.bl true):=by
 obtain⟨R,v⟩:=x;obtain⟨g,hf,w⟩:=ok;obtain⟨_,J,U,nd⟩:=need w g hf t (G 38 (by decide));have lm:lim t<=14:=by cases t<;>decide
 have e0:=nd 78 (by decide);have fin:∀{T A:LL}{u:PV}{K:List Int}{r:Option Int}{q:Int},ax T->([]∈T/\q<=J\/S40 J 0 T A u K q)->bc (exs (ab defs 78) [.for1 8 .rng [(ci 13)] eC,.ret (.and (.cmp .isIn (.tup []) (.bor 3)) (.cmp .le (.bor 6) (.bor 7)))] (f40 ns (sv (bY (R,v))) (sv (.str (ag t))) T A u r K q J none none none none))=some (.bl true):=λ{T A u K r q} gT S=>by
  obtain⟨T',A',v',r',K',q',y8,y9,a7,bA,e,h1,h2⟩:=jL ns (sv (bY (R,v))) (sv (.str (ag t))) 13 0 (by decide) T A u K q r none none none none gT S;refine J5 bc (n8 (r:=.ret (.bl true)) (xs:=(range' 0 13).map λ(k:Nat)=>PV.int (k:Int)) ?_ e ?_)
  .rw[show evs (ab defs 78) [ci 13] (f40 ns (sv (bY (R,v))) (sv (.str (ag t))) T A u r K q J none none none none)=some [.int 13]from by simp[evs,ev],bind_some,g_ (by decide) (by decide),range_eq_range']
   rfl
  .exact pI (cV (p:=true) (q:=true) (Aq ((jE [] T').trans (by rw[JS h1])) rfl rfl) λ_=>(cw (x:=.int q') (y:=.int J) rfl rfl).trans (J5 (λb=>some (PV.bl b)) (JS h2)))
 rw[ae (d:=pH) rfl rfl];refine aM (v:=ofR R) rfl (aM (v:=.tup [.non,ofR R,v]) rfl (eT (dG (xs:=[]) rfl) (aM (v:=.int 0) rfl (aM (ac (cx rfl (cx rfl rfl)) e0) ?_))));cases t with
 |true=>exact aV rfl (fin (K:=[]) (r:=none) g (.inr ⟨g,⟨_,w⟩,G,dM R,(λ_ _ _ _ z=>by cases z),by decide,J,nd,U.1,Lg (Int.le_of_eq (Nc J)) U.2,by omega⟩))
 |false =>
  by_cases Y:[]∈R
  .exact aV (cV (p:=true) (q:=false) rfl λ_=>(wl (T:=R) rfl).trans (by rw[JS Y];rfl)) (fin (K:=[]) (r:=none) g (.inl ⟨Y,U.1⟩))
  .obtain⟨r,A,u,f,F,lo⟩:=AW w g hf (G 38 (by decide));obtain⟨m1,Z,n1,n4,n0,n5⟩:=f.need;have em:m1=J:=by have:=(n1 36 (by decide)).symm.trans (nd 36 (by decide));simpa using this
   have lt:Z<J:=by
    rcases n5 with z|z
    .exact absurd z Y
    .omega
   obtain⟨y,e5,_,_,hy⟩:=AY 77 r [] (pV (by decide));have ao:below A (bT y R)=true:=eF λs hs=>by
    cases r with
    |none =>
     obtain⟨t,h4,h5⟩:=cN lo s hs;exact⟨drp y t,ic.mpr ⟨t,h4,rfl⟩,bZ.mpr λk hk=>bZ.mp h5 k (lc.mp hk).1⟩
    |some i=>rw[hy i rfl (by simp)];exact cN lo s hs
   have e6:=dZ 77 R y g;have c0:∀a8 a9 aO a0,ev (ab defs 78) (.and (.cmp .eq (.bor 2) (cs "weaver")) (.cmp .notIn (.tup []) (.bor 3))) (f40 ns (sv (bY (R,v))) (sv (.str (ag false))) R R v none [] 0 J a8 a9 aO a0)=some (.bl true):=λ_ _ _ _=>cV (p:=true) (q:=true) rfl λ_=>(wl (T:=R) rfl).trans (by rw[J0 Y];rfl)
   refine eT ((bi (c0 _ _ _ _)).trans (bN (ac (cx rfl (cx rfl rfl)) (F 78 (by decide))) (dH (nL rfl (ac (cx rfl (ik rfl rfl)) e5) (by decide)) (bN (ac (ik rfl (cx rfl rfl)) e6) (bN (v:=.int 1) rfl rfl))))) ?_;refine fin (K:=[y]) (r:=r) (i8 g) (.inr ⟨f.good,f.wp,f.keep,ao,λs hs j hj z=>?_,gx 1,Z,n4,n0,?_,by omega⟩)
   .rw[JY.mp z]at hj;obtain⟨t0,_,rfl⟩:=ic.mp hs;exact(lc.mp hj).2 rfl
   .have:=U.2;show Z+0<=13;omega
def C6{x:LL×PV}{xs:List (LL×PV)}(ns:List Int)(t:Bool)(ok:StP t x)(i:Int)(Y:0<=i)(Z:i<xs.length)(hx:xs[i.toNat]?=some x)(z x4:Option MV):exs (ab defs 79) qN (put [some (.brw (ns.map .int)),z,sv (.str (ag t)),sv (.lst (xs.map bY)),x4] 4 (.val (.int i)))=.next [some (.brw (ns.map .int)),z,sv (.str (ag t)),sv (.lst (xs.map bY)),sv (.int i)]:=by
 obtain⟨b,G⟩:=kw ok.2.2 ok.1 ok.2.1 t;have U:∀{e:ME}{y:PV},ev (ab defs 79) e [some (.brw (ns.map .int)),z,sv (.str (ag t)),sv (.lst (xs.map bY)),sv (.int i)]=some y->∀k:Int,ev (ab defs 79) (.idx e (ci k)) [some (.brw (ns.map .int)),z,sv (.str (ag t)),sv (.lst (xs.map bY)),sv (.int i)]=gp y (.int k):=λh k=>eR h (dy _ _ _)
 have J:ev (ab defs 79) (.idx (.bor 3) (.bor 4)) [some (.brw (ns.map .int)),z,sv (.str (ag t)),sv (.lst (xs.map bY)),sv (.int i)]=some (bY x):=by
  rw[eR (x:=.lst (xs.map bY)) (y:=.int i) rfl rfl,Am,gE Y (by rw[nR];exact Z),bind_some,JZ,hx]
  rfl
 have c:ev (ab defs 79) (.call 29 [(.idx (.idx (.bor 3) (.bor 4)) (ci 1)),(.idx (.idx (.bor 3) (.bor 4)) (ci 0)),.bor 2,(cs "weaver")]) [some (.brw (ns.map .int)),z,sv (.str (ag t)),sv (.lst (xs.map bY)),sv (.int i)]=some (.bl b):=ac (cx (U J 1) (cx (U J 0) rfl)) (G 79 (by decide));cases b with
 |false=>exact dD ((bi c).trans rfl)
 |true=>exact dD ((bi c).trans (CO (vV (ac (ik rfl (cx J rfl)) (IB ns t ok λN h=>G N (by omega)))) rfl))
theorem wm{xs:List (LL×PV)}(ns:List Int)(t:Bool)(ok:∀x∈xs,StP t x)(J:Option MV):∀(is:List Int),(∀i∈is,0<=i/\i<xs.length)->∀z,∃U,aw (λv l=>exs (ab defs 79) qN (put l 4 (.val v))) (is.map .int) [some (.brw (ns.map .int)),J,sv (.str (ag t)),sv (.lst (xs.map bY)),z]=.next [some (.brw (ns.map .int)),J,sv (.str (ag t)),sv (.lst (xs.map bY)),U]
 | [],_,z=>⟨z,rfl⟩
 |i::is,hi,z=>by
  obtain⟨Y,Z⟩:=hi i (.head _);have hx:xs[i.toNat]?=some xs[i.toNat]:=JR (by omega);have k:=ok _ (K1 hx);rw[JO,aw,C6 ns t k i Y Z hx J z];exact wm ns t ok J is (λj hj=>hi j (.tail _ hj)) _
def A0(ns:List Int)(hl:ns.length<=63):ab defs 80 54 [.brw (ns.map .int)]=some (.bl true):=by
 rw[ae (d:=vQ) rfl rfl];have Z:=uP 77 ns 0 2049848353892358983 (by decide);generalize fT (cellOf ns 0) 2049848353892358983=p at Z;obtain⟨t,ht⟩:∃t:Bool,∀J U z,ev (ab defs 79) (.idx (.lst [(cs "moth"),(cs "weaver")]) (.bin .mod (.bor 1) (ci 2))) [some (.brw (ns.map .int)),sv (.int p),J,U,z]=some (.str (ag t)):=by
  have em:∀J U z,ev (ab defs 79) (.bin .mod (.bor 1) (ci 2)) [some (.brw (ns.map .int)),sv (.int p),J,U,z]=some (.int (p % 2)):=λ_ _ _=>(bW (x:=.int p) rfl (dy _ _ _)).trans rfl
  rcases Int.emod_two_eq p with h|h
  .rw[h]at em;exact⟨true,λ_ _ _=>(eR (x:=.lst [.str "moth",.str "weaver"]) rfl (em _ _ _)).trans rfl⟩
  .rw[h]at em;exact⟨false,λ_ _ _=>(eR (x:=.lst [.str "moth",.str "weaver"]) rfl (em _ _ _)).trans rfl⟩
 obtain⟨xs,eS,ne,ok⟩:=xA ns hl t;have n0:0<xs.length:=Me.mpr ne;obtain⟨y4,e⟩:=wm ns t ok (sv (.int p)) [0,xs.length-1,p / 2 % xs.length] (λi hi=>by
  rcases tf.mp hi with rfl|hi
  .omega
  rcases tf.mp hi with rfl|hi
  .omega
  rw[JY.mp hi];exact⟨Kw _ (by omega),Kp _ (by omega)⟩) none
 have eL:∀z,ev (ab defs 79) (.blt .len [.bor 3]) [some (.brw (ns.map .int)),sv (.int p),sv (.str (ag t)),sv (.lst (xs.map bY)),z]=some (.int xs.length):=λ_=>by
  rw[aS (v:=.lst (xs.map bY)) rfl,z9,nR]
 have Y:ev (ab defs 79) (.lst [(ci 0),(.bin .sub (.blt .len [.bor 3]) (ci 1)),(.bin .mod (.bin .fdiv (.bor 1) (ci 2)) (.blt .len [.bor 3]))]) [some (.brw (ns.map .int)),sv (.int p),sv (.str (ag t)),sv (.lst (xs.map bY)),none]=some (.lst [.int 0,.int (xs.length-1),.int (p / 2 % xs.length)]):=by
  rw[ev,bX rfl (bX ((bW (eL _) (dy _ _ _)).trans rfl) (bX ((bW (vT (x:=p) rfl (by decide)) (eL _)).trans ((mh _ _).trans (if_pos (by omega)))) rfl))]
  rfl
 refine aM (Z _) (aM (ht _ _ _) (aM (ac rfl eS) (eT (l:=[some (.brw (ns.map .int)),sv (.int p),sv (.str (ag t)),sv (.lst (xs.map bY)),y4]) ((dY (xs:=([0,xs.length-1,p / 2 % xs.length]:List Int).map .int) (As Y)).trans ?_) (gI rfl))));show MM.R.back _ _ (aw _ (([0,xs.length-1,p / 2 % xs.length]:List Int).map .int) [some (.brw (ns.map .int)),sv (.int p),sv (.str (ag t)),sv (.lst (xs.map bY)),none])=_;rw[e]
 rfl
noncomputable def top(i:Nat):Stmt:=PySem.Challenge.pw_mothloom_k40_whole_a_stand_of_the_weaver.main.body.getD i (.Pass ⟨0,0,0,0⟩)
def F_ {l:PySem.W.OpenLaw}{w:World}{K:Nl}{h:Heap}{mg:Str->Option Value}{fa:Addr} (X:K.In h) (G:h.Ns mainGlobals mg) (U:mg "law"=some (.ref fa))
  (hs:uH K top defs [1,2,3,4,5,6,7,10,11,12,14,15,16,17,24,27,28,29,30,32,33,35,36,38,39,40,41,43,44,46,48,49,50,53,55,56,57,58,59,62,63,64,65,66,67,68,69,70,72,73,74,75,76,77,78] tab.ds) (hL:HD K "law" (top 78) vQ λfd=>∀(s:Shared) (v:Value),BindsTo s fd ⟨[v],[]⟩ [("script",v)])
  (zs:∀x∈j7,PySem.W.nsIn K mainGlobals x=some none)
  {z:Value} (g0:PySem.W.nsIn K mainGlobals "UNIT"=some (some z)) (r0:aE (toV (.int 1152921504606846976)) z)
 :∃fd:FuncData,(∀(s:Shared) (v:Value),BindsTo s fd ⟨[v],[]⟩ [("script",v)])/\∀base:Heap,K.In base->base.Ns mainGlobals mg->jq l.prog w K mg base CX0 80 fa fd ["script"] (spM K (ab defs 80) 54):=by
 obtain⟨_,Y,J,Z⟩:=z5 (T:=tab) X G hL (by kernel_rfl);cases U.symm.trans J.named;have pr:Fz tab K mg defs:=by
  refine⟨rfl,Fy X G hs (by kernel_rfl),λx hx=>PySem.W.mg_none_of X G (zs x hx),λp hp=>?_⟩
  .simp only[tab,tf,Lb,LV]at hp;rcases hp with rfl
   .exact⟨_,PySem.W.mg_of X G g0,r0⟩
 exact⟨Y,Z,λbase _ _=>HZ (by decide) pr 80 54 vQ rfl _ _ _ J⟩
def JK{l:PySem.W.OpenLaw}{q:Program}{J:List Str}{XP:(Str->Option Value)->Heap->Prop}{Y:World->Heap->Prop}{d:DefRec}{K:Params->Nl}(hn:l.most=some 63)(U:d.params.defaults=[])
  (hY:∀(w:World) (h:Heap),Y w h->(K w.params).In h)
  (F:∀(w:World) (mg:Str->Option Value) (Z:Addr) (h:Heap),(K w.params).In h->h.Ns mainGlobals mg->mg d.name=some (.ref Z) ->
   ∃fd:FuncData,(∀(s:Shared) (u:Value),BindsTo s fd ⟨[u],[]⟩ [("script",u)])/\∀base:Heap,(K w.params).In base->base.Ns mainGlobals mg->jq l.prog w (K w.params) mg base CX0 80 Z fd ["script"] (spM (K w.params) (ab defs 80) 54)) :
  PySem.W.WalkO q J XP Y l.row.toRowW d [] (λf vs=>PySem.call f vs):=
 L2.By (n:=63) (k:=80) (x:="script") (CX:=λ_=>CX0) (sp:=λw=>spM (K w.params) (ab defs 80) 54) hn (by decide) U ⟨rfl,by decide,by decide⟩ hY F (λ_ _ a ns hl _ hS=>FA (A0 ns hl) hS) λ_ _ _ _ _ z=>z
end My
open PySem PySem.W PyProof.Rows List Option
set_option maxRecDepth 100000 in
set_option maxHeartbeats 0 in
theorem PySem.Challenge.cw_mothloom_k40_whole_a_stand_of_the_weaver_holds : PySem.Challenge.rw_mothloom_k40_whole_a_stand_of_the_weaver.Holds := by
 w_on;o_law;k_head;(case hw=>w_witness2)
 k_fill
 refine My.JK (l:=PySem.Challenge.rw_mothloom_k40_whole_a_stand_of_the_weaver) rfl rfl (λw h Y=>PySem.W.kIn_of Y) ?F
 case F =>
  intro w mg fa h KX G hmg
  refine' My.F_ KX G hmg ?hs ?hL ?zs ?gq0 ?rq0
  (case hs =>
   repeat' first|exact MM.uH.nil|apply MM.uH.cons
   all_goals (conv=>arg 2;whnf)
   all_goals first
    | (refine' ⟨rfl,_,_,?ka,.mk' (d0:=.none) ?kl ?kc ?kk,MM.bn1 λ_=>rfl,trivial⟩;(case ka=>k_is);(case kl=>k_is);(case kc=>k_is);(case kk=>k_is))
    | (refine' ⟨rfl,_,_,?ka,.mk' (d0:=.none) ?kl ?kc ?kk,MM.bn2 λ_ _=>rfl,trivial⟩;(case ka=>k_is);(case kl=>k_is);(case kc=>k_is);(case kk=>k_is))
    | (refine' ⟨rfl,_,_,?ka,.mk' (d0:=.none) ?kl ?kc ?kk,MM.bn3 λ_ _ _=>rfl,trivial⟩;(case ka=>k_is);(case kl=>k_is);(case kc=>k_is);(case kk=>k_is))
    | (refine' ⟨rfl,_,_,?ka,.mk' (d0:=.none) ?kl ?kc ?kk,MM.bn4 λ_ _ _ _=>rfl,trivial⟩;(case ka=>k_is);(case kl=>k_is);(case kc=>k_is);(case kk=>k_is))
    | (refine' ⟨rfl,_,_,?ka,.mk' (d0:=.none) ?kl ?kc ?kk,MM.bn5 λ_ _ _ _ _=>rfl,trivial⟩;(case ka=>k_is);(case kl=>k_is);(case kc=>k_is);(case kk=>k_is))
    | (refine' ⟨rfl,_,_,?ka,.mkd ?kl ?kc ?kk,?kb,trivial⟩;(case ka=>k_is);(case kl=>k_is);(case kc=>k_is);(case kk=>k_is);(case kb=>refine' MM.uG rfl ?kx ?ky;(case kx=>k_is);(case ky=>exact λus hl=>match us,hl with|[_,_],_=>⟨_,rfl,rfl⟩))))
  (case hL=>refine' ⟨rfl,_,_,?ka,.mk' (d0:=.none) ?kl ?kc ?kk,MM.bn1 λ_=>rfl,λs v=>.of_eq rfl⟩;(case ka=>k_is);(case kl=>k_is);(case kc=>k_is);(case kk=>k_is))
  (case zs=>intro x hx;simp only[MM.j7,tf,Lb,LV]at hx;rcases hx with rfl|rfl|rfl|rfl|rfl|rfl|rfl|rfl|rfl|rfl|rfl|rfl|rfl|rfl|rfl|rfl|rfl<;>k_is)
  (case gq0=>k_is);(case rq0=>exact⟨_,rfl⟩)
