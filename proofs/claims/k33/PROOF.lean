import PyProof.Rows.All
import Wide.All
import OpenK.AllK
import Wide.FinOn
import Lean
import PyProof.EqAt
import PyProof.EqKinds
import PyProof.TupleCall
import PySem.Challenge.RW_mothloom_k33_papers_within_papers
set_option Elab.async false
set_option linter.all false
set_option maxRecDepth 100000
set_option genSizeOf false
set_option backward.eqns.nonrecursive false
set_option bootstrap.genMatcherCode false
def ez:=@PySem.wpAny_bind
def gf:=@Option.bind_eq_some_iff
def g4:=@PySem.wpAny_pure
def mu:=@PySem.Heap.get?_push_of_some
def oe:=@Bool.and_eq_true_iff
def pb:=@Bool.and_eq_true
def pd:=@Bool.false_ne_true
def pe:=@Nat.le_refl
def tf:=@List.length_map
def ti:=@Option.map_eq_some_iff
def tr:=@List.size_toArray
def uw:=@PySem.Heap.lt_size
def u0:=@Option.some.injEq
def wh:=@PySem.Heap.get?_push_size
def Iz:=@Nat.ne_of_lt
def IA:=@List.getElem?_eq_some_iff
def IB:=@List.mem_cons
def IC:=@List.length_append
def ID:=@List.map_map
def IE:=@beq_iff_eq
def IF:=@Nat.lt_of_lt_of_le
def IG:=@List.map_cons
def IH:=@Nat.le_trans
def II:=@Option.some.inj
def IJ:=@List.getElem?_eq_getElem
def IK:=@Bool.false_eq_true
def IL:=@PySem.wpAny_loadPart'
def IM:=@Bool.not_eq_true'
def IP:=@decide_eq_true
def IQ:=@PySem.wpAny_setState_of
def IS:=@List.getElem?_map
def IT:=@Bool.eq_iff_iff
def IU:=@PySem.wpAny_ite_split
def IV:=@PySem.Heap.size_push
def IW:=@congrArg
def IX:=@List.getElem?_set_ne
def IY:=@PySem.wpAny_call_entry
def IZ:=@PySem.wpAny_holding
def I0:=@List.mem_singleton
def Ja:=@PySem.Heap.SameBut.update
def Jb:=@Nat.lt_succ_of_lt
def Jc:=@decide_eq_true_iff
def Jd:=@decide_eq_false
def Je:=@PySem.wpAny_mono
def Jf:=@PySem.Heap.get?_update_self
def Jg:=@Array.getElem?_toList
def Jh:=@PySem.wpAny_newObj_type
def Ji:=@Nat.zero_le
def Jj:=@PyProof.Rows.slot_tuple_getitem
def Jk:=@PySem.wpAny_callSpecial?_slot
def Jl:=@List.nodup_cons
def Jm:=@List.append_assoc
def Jn:=@List.mem_append_right
def Jo:=@PySem.sizeLine_eq
def Jp:=@List.any_eq_true
def Jq:=@decide_eq_true_eq
def Jr:=@Nat.lt_irrefl
def Js:=@List.mem_cons_of_mem
def Jt:=@PyProof.Rows.callWith_type1
def Ju:=@List.getElem?_append_left
def Jv:=@PySem.Heap.get?_update_other
def Jw:=@List.map_congr_left
def Jx:=@of_decide_eq_true
def Jy:=@List.mem_append_left
def Jz:=@if_false
def JA:=@Nat.add_right_comm
def JB:=@PySem.wpAny_isInstance
def JC:=@List.mem_cons_self
def JD:=@List.append_nil
def JE:=@PySem.wpAny_truthy_bool
def JF:=@PyProof.Rows.KeyOrd.kle_refl
def JG:=@List.mem_filter
def JH:=@List.map_append
def JI:=@Bool.not_eq_true
def JJ:=@List.getElem?_append_right
def JK:=@Int.emod_lt_of_pos
def JL:=@Nat.ne_of_gt
def JM:=@Nat.not_lt
def JN:=@Int.emod_nonneg
def JO:=@List.getElem?_set_self
def JP:=@PySem.fits_of_scanBound
def JQ:=@List.all_eq_true
def JR:=@List.mem_append
def JS:=@Nat.le_of_lt
def JT:=@PySem.wpAny_Call_Name_kw
def JU:=@List.nodup_nil
def JV:=@Array.getD_eq_getD_getElem?
def JW:=@Nat.lt_of_le_of_lt
def JX:=@Nat.add_sub_cancel
def JY:=@Nat.zero_add
def JZ:=@PySem.wpAny_setField_rec
def J0:=@List.mem_of_getElem?
def J1:=@List.getD_eq_getElem?_getD
def J2:=@List.perm_ext_iff_of_nodup
def J3:=@Bool.not_true
def J4:=@Bool.true_and
def J5:=@PySem.Heap.SameBut.refl
def J6:=@PySem.wpAny_storeSet_of
def J7:=@PySem.wpAny_setEpoch_of
def J8:=@List.find?_cons_of_neg
def J9:=@List.length_set
def Ka:=@PySem.wpAny_rule
def Kb:=@Nat.le_succ
def Kc:=@List.isEmpty_iff
def Kd:=@beq_self_eq_true
def Ke:=@Nat.lt_succ_self
def Kf:=@beq_eq_false_iff_ne
def Kg:=@Ne.symm
def Kh:=@List.pairwise_cons
def Ki:=@PySem.tupleKind_room_in1
def Kj:=@Nat.le_antisymm
def Kk:=@List.length_eq_zero_iff
def Kl:=@Array.size_extract
def Km:=@Nat.min_eq_left
def Kn:=@List.filter_cons_of_neg
def Ko:=@PySem.F.slot_dict_valueiterator_next
def Kp:=@PySem.richCompare_meets_room
def Kq:=@PySem.Calls.callWith_builtin
def Kr:=@Array.getElem?_eq_none
def Ks:=@List.not_mem_nil
def Kt:=@PySem.wpAny_pyIter_list
def Ku:=@Nat.le_of_lt_succ
def Kv:=@PyProof.Rows.KeyOrd.kle_of_klt
def Kw:=@bne_self_eq_false
def Kx:=@List.length_eq_one_iff
def Ky:=@PySem.codeAny_mono
def Kz:=@PySem.wpAny_typeOf
def KA:=@PySem.builtinLookup_eq_fast
def KC:=@List.length_eraseIdx_of_lt
def KD:=@List.nodup_append
def KG:=@PyProof.Rows.KeyOrd.kle_trans
def KH:=@List.perm_append_comm
def KI:=@List.length_filter_le
def KJ:=@List.mem_or_eq_of_mem_set
def KL:=@Array.perm_iff_toList_perm
def KN:=@List.eraseIdx_eq_take_drop_succ
def KP:=@List.filterMap_cons_some
def KQ:=@List.mem_of_mem_eraseIdx
def KR:=@List.mem_map_of_mem
def KS:=@PySem.wpAny_passesOwn
def KU:=@PySem.W.KasT.kasWp_bind
def KW:=@Nat.le_add_left
def KY:=@Array.getElem?_eq_getElem
def KZ:=@PySem.wpAny_pyIter_tuple
def K0:=@PySem.Calls.spliced_cons
def K1:=@List.getElem?_replicate
def K2:=@PySem.AutoSeq1.sub_tuple_tuple
def K3:=@List.all_map
def K4:=@List.eq_nil_of_length_eq_zero
def K5:=@Array.size_map
def K6:=@List.filter_eq_self
def K7:=@List.length_flatten
def K8:=@Nat.exists_eq_add_of_lt
def K9:=@Classical.axiomOfChoice
def La:=@Nat.le_of_succ_le
def Lb:=@PySem.wpAny_collect_seq
def Lc:=@List.find?_cons_of_pos
def Ld:=@LawfulMonad.bind_assoc
def Le:=@List.map_flatten
def Lf:=@List.mem_flatten
def Lg:=@PySem.plainId_quiet
def Lh:=@PySem.wpAny_attempt
def Li:=@List.find?_eq_none
def Lj:=@or_false
def Lk:=@PySem.call_meets
def Ll:=@Nat.le_of_eq
def Lm:=@Nat.lt_trans
def Ln:=@PySem.wpAny_specialOf
def Lo:=@PySem.codeAny_builtin
def Lp:=@PySem.Around.under_plainId
def Lq:=@PySem.typeLookup_type
def Lr:=@PySem.wpAny_updateSeq
def Ls:=@List.cons.injEq
def Lu:=@List.drop_eq_getElem_cons
def Lv:=@List.mem_of_find?_eq_some
def Lw:=@Int.zero_add
def Lx:=@PySem.wpAny_setEntries_of
def Ly:=@List.filterMap_cons_none
def Lz:=@Bool.false_and
def LA:=@PySem.isSubtype_type
def LB:=@PySem.wpAny_fieldsOf
def LC:=@Option.map_map
def LD:=@PySem.wpAny_of_eq
def LF:=@List.getElem_mem
def LG:=@List.mem_range
def LH:=@PySem.wpAny_forIn_array'
def LI:=@Int.fdiv_eq_ediv_of_nonneg
def LJ:=@Array.getElem?_append_left
def LK:=@PySem.Value.isInt_shape
def LM:=@PySem.Calls.spliced_nil
def LN:=@List.take_of_length_le
def LO:=@PySem.wpAny_pyIter_slot
def LP:=@List.filter_eq_nil_iff
def LQ:=@Nat.sub_le
def LR:=@PySem.intKind_is
def LS:=@PySem.concat_meets
def LU:=@PySem.noFill_tuple_add
def LV:=@List.ext_getElem?
def LW:=@map_eq_pure_bind
def LX:=@Nat.min_self
def LY:=@PySem.wpAny_askSetting
def LZ:=@List.length_range
def L0:=@decide_eq_decide
def L1:=@Int.le_trans
def L3:=@Bool.or_eq_true
def L4:=@List.length_take
def L5:=@List.mem_reverse
def L6:=@Bool.not_false
def L7:=@Nat.mod_lt
abbrev L8:=PySem.W.Frag
def ax{P:Prop}(h:∀Q:Prop,(P->Q)->Q):P:=h P id
namespace L2
open PySem PySem.Spec PyProof.Rows List Option
noncomputable abbrev Key:=Sum Int Str
noncomputable def oB:Key->Value->Bool
 | .inl k,v=>Value.isInt k v
 | .inr x,v=>Value.isStrOf x v
noncomputable def HE(w:World):Key->Int
 | .inl k=>hashInt k
 | .inr x=>hashStr w x
def bU:∀{k}{v},oB k v=true->(∃i t,k=Sum.inl i/\v=Value.int i t)\/(∃x t,k=Sum.inr x/\v=Value.str x t)
 | .inl i,v,h=>by
  obtain⟨t,e⟩:=LK (k:=i) (v:=v) h;exact .inl ⟨i,t,rfl,e⟩
 | .inr x,v,h=>by
  obtain⟨t,e⟩:=Value.isStrOf_shape (x:=x) (v:=v) h;exact .inr ⟨x,t,rfl,e⟩
def vY(i)(t):oB (.inl i) (.int i t)=true:=by simp[oB,Value.isInt]
def vZ(x)(t):oB (.inr x) (.str x t)=true:=by simp[oB,Value.isStrOf]
def CA(a b):decide ((Sum.inl a:Key)=Sum.inl b)=(a==b):=by
 by_cases e:a=b
 .subst e;simp
 .simp_all
def CB(a b):decide ((Sum.inr a:Key)=Sum.inr b)=decide (a=b):=by simp
def CC(a)(b):decide ((Sum.inl a:Key)=Sum.inr b)=false:=rfl
def CD(a)(b):decide ((Sum.inr a:Key)=Sum.inl b)=false:=rfl
noncomputable def ca(prog)(w):PySem.KeyKind prog w Key where
 is:=oB
 hash:=HE w
 inj:=λv a b U J=>by
  rcases bU U with⟨i,t,rfl,rfl⟩|⟨x,t,rfl,rfl⟩
  .rcases bU J with⟨j,u,rfl,e⟩|⟨y,u,rfl,e⟩
   .injection e with z _;rw[z]
   .exact nomatch e
  .rcases bU J with⟨j,u,rfl,e⟩|⟨y,u,rfl,e⟩
   .exact nomatch e
   .injection e with z _;rw[z]
 byValue:=λk v h=>by
  rcases bU h with⟨i,t,rfl,rfl⟩|⟨x,t,rfl,rfl⟩<;>rfl
 pyHash:=λhv h=>by
  rcases bU hv with⟨i,t,rfl,rfl⟩|⟨x,t,rfl,rfl⟩
  .exact wpAny_pyHash_int h
  .exact wpAny_pyHash_str h
 eqBool:=λY hv h=>by
  rcases bU Y with⟨i,t,rfl,rfl⟩|⟨x,t,rfl,rfl⟩
  .rcases bU hv with⟨j,u,rfl,rfl⟩|⟨y,u,rfl,rfl⟩
   .rw[CA]at h;exact wpAny_eqBool_int h
   .rw[CC]at h;exact SeqAt.EqAt.int_str i t y u _ _ _ _ h
  .rcases bU hv with⟨j,u,rfl,rfl⟩|⟨y,u,rfl,rfl⟩
   .rw[CD]at h;exact SeqAt.EqAt.str_int x t j u _ _ _ _ h
   .rw[CB]at h;exact wpAny_eqBool_str h
 «strs»:=λk x t v h=>by
  rcases bU h with⟨i,u,rfl,e⟩|⟨y,u,rfl,e⟩
  .exact nomatch e
  .injection e with z _
   subst z;cases v<;>rfl
def qF(prog)(w)(i)(t):(ca prog w).is (.inl i) (.int i t)=true:=vY i t
def qG(prog)(w)(x)(t):(ca prog w).is (.inr x) (.str x t)=true:=vZ x t
inductive V where
 | non|bl (b:Bool)|int (i:Int)|str (x:Str)|byt (b:Array UInt8)|flt (b:UInt64)|ref (a:Addr)|ty (n:String)
 deriving DecidableEq
def aF:V->Value->Prop
 | .non,u=>u=Value.none
 | .bl b,u=>u=Value.bool b
 | .int i,u=>∃t,u=Value.int i t
 | .str x,u=>∃t,u=Value.str x t
 | .byt b,u=>∃t,u=Value.bytes b t
 | .flt b,u=>∃t,u=Value.float b t
 | .ref a,u=>u=Value.ref a
 | .ty n,u=>u=Value.type n
abbrev aI:List V->List Value->Prop:=Paired aF
theorem aI.length(r:aI xs us):xs.length=us.length:=Paired.length r
theorem aI.get:∀{xs}{us}{i:Nat}{x},aI xs us->xs[i]?=some x->∃u,us[i]?=some u/\aF x u
 | _,_,_,_,.nil,e=>by simp at e
 | _,_,0,_,.cons r _,e=>by simp at e;subst e;exact⟨_,rfl,r⟩
 | _,_,i+1,x,.cons _ t,e=>by
  obtain⟨u,h1,h2⟩:=aI.get (i:=i) (x:=x) t (by simpa using e);exact⟨u,by simpa using h1,h2⟩
theorem aI.set(r:aF x u):∀{xs}{us} i,aI xs us->aI (xs.set i x) (us.set i u)
 | _,_,_,.nil=>.nil
 | _,_,0,.cons _ t=>.cons r t
 | _,_,i+1,.cons q t=>.cons q (aI.set r i t)
theorem aI.append:∀{xs ys}{us z},aI xs us->aI ys z->aI (xs++ys) (us++z)
 | _,_,_,_,.nil,s=>s
 | _,_,_,_,.cons r t,s=>.cons r (aI.append t s)
theorem aI.take:∀{xs}{us} n,aI xs us->aI (xs.take n) (us.take n)
 | _,_,0,_=>.nil
 | _,_,_+1,.nil=>.nil
 | _,_,n+1,.cons r t=>.cons r (aI.take n t)
theorem aI.drop:∀{xs}{us} n,aI xs us->aI (xs.drop n) (us.drop n)
 | _,_,0,r=>r
 | _,_,_+1,.nil=>.nil
 | _,_,n+1,.cons _ t=>aI.drop n t
def lF:Option V->Option Value->Prop
 |some v,some u=>aF v u
 |none,none=>True
 | _,_=>False
def KV :List (g×V)->List (g×Value)->Prop:=Paired λp q=>p.1=q.1/\aF p.2 q.2
noncomputable def kV:Key->V
 | .inl i=>.int i
 | .inr x=>.str x
inductive HO where
 | lst (xs:List V)
 | tup (xs:List V)
 | dK (kvs:List (Key×V))|dT (kvs:List (List Key×V))
 | set (S:Int->Bool) (n:Nat)
 | ins (C dx:Addr) (fs:List (Str×V))
 | own (x:Addr)
 | xd (fs:List (Str×V))
 | met (f x:Addr)
 | rng (lo hi:Int)
 | frz (o:Obj) (u:HO)
 | tbl (ps:Array Value)
 | ext (φ:Heap->Prop)
noncomputable abbrev Hp:=Addr->Option HO
noncomputable def upd(H:Hp)(a:Addr)(o:HO):Hp:=λb=>if b=a then some o else H b
def aC :upd H a o a=some o:=by unfold upd;rw[if_pos rfl]
def aZ(h:b≠a):upd H a o b=H b:=by unfold upd;rw[if_neg h]
def Fy{H:Hp}{a b:Addr}{o u:HO}(h:H a=some o)(h':H b=some u)(d:o≠u):a≠b:=by
 intro e;subst e;rw[h]at h';exact d (II h')
def cJ{H:Hp}{a b:Addr}{o:HO}(h:H a=some o)(h':H b=none):a≠b:=by
 intro e;subst e;rw[h]at h';cases h'
section
variable(P:Program)(w:World)
def bQ(H:Hp)(h:Heap)(a:Addr):HO->Prop
 | .lst xs=>xs.length<=sizeLine/\∃its n,aI xs its/\h.get? a=some { cls:=.type "list",data:=.seq its.toArray n }
 | .tup xs=>xs.length<=sizeLine/\∃its,aI xs its/\IsTup h a its.toArray
 | .dK kvs=>kvs.length<=sizeLine/\(a==sysModules)=false/\∃vs,KV kvs vs/\h.DictOf (ca P w) a vs
 | .dT kvs=>kvs.length<=sizeLine/\(a==sysModules)=false/\∃xs,
   Paired (λp q=>p.1=q.1/\H q.2.1=some (.tup (p.1.map kV))/\aF p.2 q.2.2) kvs xs /\
   ∃o es ep,h.get? a=some o/\o.ExactDict/\o.data=.dict es ep/\es.toList=xs.map (entryOfKey (tupleKind (ca P w)))/\(xs.map (·.1)).Nodup
 | .set S n=>h.SetOf (intKind P w) a S n
 | .ins C dx fs=>H dx=some (.own a)/\fs.length<=1000/\dx≠a/\h.get? a=some (PySem.W.instObj C dx) /\
   ∃mA,h.Ns1 dx mA/\(∀f,lF (fs.lookup f) (mA f))/\PySem.Within mA (fs.map (·.1))
 | .own _=>∃o,h.get? a=some o
 | .xd fs=>∃mA,h.Ns1 a mA/\∀f,lF (fs.lookup f) (mA f)
 | .rng lo hi=>∃t u v,h.get? a=some { cls:=.type "range",data:=.fields #[.int lo t,.int hi u,.int 1 v] }
 | .frz o u=>h.get? a=some o/\bQ H h a u
 | .tbl ps=>h.get? a=some { cls:=.none,data:=.fields ps }
 | .met f x=>h.get? a=some (PySem.W.methodObj (.ref f) (.ref x))
 | .ext z=>z h/\(∃o,h.get? a=some o)/\∀h1 h2,z h1->(∀o,h1.get? a=some o->h2.get? a=some o)->z h2
def HOk(H:Hp)(h:Heap):Prop:=∀a o,H a=some o->bQ P w H h a o
end
section
variable{P:Program}{w:World}{H H':Hp}{h h':Heap}{a:Addr}{o:HO}
theorem bQ.lt(x:bQ P w H h a o):a<h.objs.size:=by
 cases o with
 |own y=>obtain⟨_,e⟩:=x;exact uw e
 |xd fs=>obtain⟨_,⟨_,_,_,e,_⟩,_⟩:=x;exact uw e
 |ext z=>obtain⟨_,⟨_,e⟩,_⟩:=x;exact uw e
 |lst xs=>obtain⟨_,_,_,_,e⟩:=x;exact uw e
 |tup xs=>obtain⟨_,_,_,p⟩:=x;exact p.lt
 |set S n=>obtain⟨o,_,_,_,e,_⟩:=x;exact uw e
 |frz J u=>obtain⟨e,_⟩:=x;exact uw e
 |rng lo hi=>obtain⟨_,_,_,e⟩:=x;exact uw e
 |ins C dx fs=>obtain⟨_,_,_,e,_⟩:=x;exact uw e
 |dK kvs|dT kvs=>obtain⟨_,_,_,_,o,_,_,e,_⟩:=x;exact uw e
 | _=>exact uw (show h.get? a=some _ from x)
theorem Paired.mapP :∀{l₁}{z},Paired F l₁ z->(∀a b,F a b->G a b)->Paired G l₁ z
 | _,_,.nil,_=>.nil
 | _,_,.cons r t,f=>.cons (f _ _ r) (Paired.mapP t f)
def bQ.stay(x:bQ P w H h a o)(k:∀b u,(b=a\/H b=some (.own a))->h.get? b=some u->h'.get? b=some u)
  (ho:∀b,H b=some (.own a)->H' b=some (.own a)) (Y:∀b xs,H b=some (.tup xs)->H' b=some (.tup xs)):bQ P w H' h' a o:=by
 induction o with
 |lst xs=>obtain⟨z,its,n,r,e⟩:=x;exact⟨z,its,n,r,k _ _ (.inl rfl) e⟩
 |tup xs=>obtain⟨z,its,r,J,e,c⟩:=x;exact⟨z,its,r,J,k _ _ (.inl rfl) e,c⟩
 |dK kvs=>obtain⟨z,y,vs,r,J,es,ep,e,c⟩:=x;exact⟨z,y,vs,r,J,es,ep,k _ _ (.inl rfl) e,c⟩
 |dT kvs =>
  obtain⟨z,y,xs,r,J,es,ep,e,c⟩:=x;exact⟨z,y,xs,Paired.mapP r λp q z=>⟨z.1,Y _ _ z.2.1,z.2.2⟩,J,es,ep,k _ _ (.inl rfl) e,c⟩
 |set S n=>obtain⟨J,es,ep,t,e,c⟩:=x;exact⟨J,es,ep,t,k _ _ (.inl rfl) e,c⟩
 |ins C dx fs =>
  obtain⟨d,z,ne,e,mA,⟨U,es,ep,Z,c⟩,r⟩:=x;exact⟨ho _ d,z,ne,k _ _ (.inl rfl) e,mA,⟨U,es,ep,k _ _ (.inr d) Z,c⟩,r⟩
 |own y=>obtain⟨J,e⟩:=x;exact⟨J,k _ _ (.inl rfl) e⟩
 |xd fs=>obtain⟨mA,⟨U,es,ep,e,c⟩,r⟩:=x;exact⟨mA,⟨U,es,ep,k _ _ (.inl rfl) e,c⟩,r⟩
 |rng lo hi=>obtain⟨t,u,v,e⟩:=x;exact⟨t,u,v,k _ _ (.inl rfl) e⟩
 |frz J u ih=>obtain⟨e,q⟩:=x;exact⟨k _ _ (.inl rfl) e,ih q⟩
 |tbl ps =>
  have e:=x;exact k a _ (.inl rfl) e
 |met f y =>
  have e:=x;exact k a _ (.inl rfl) e
 |ext φ=>obtain⟨p,⟨o,e⟩,st⟩:=x;exact⟨st _ _ p λo q=>k _ _ (.inl rfl) q,⟨o,k _ _ (.inl rfl) e⟩,st⟩
theorem HOk.lt(x:HOk P w H h)(e:H a=some o):a<h.objs.size:=(x a o e).lt
def HOk.fresh(x:HOk P w H h)(e:h.objs.size<=a):H a=none:=by
 cases q:H a<;>first|rfl|exact absurd (IF (x.lt q) e) (Jr _)
theorem HOk.kept(x:HOk P w H h)(k:∀b u,h.get? b=some u->h'.get? b=some u):HOk P w H h':=λa o e =>
 (x a o e).stay (λb u _ q=>k b u q) (λ_ q=>q) λ_ _ q=>q
theorem HOk.laid(x:HOk P w H h)(k:∀b u,h.get? b=some u->h'.get? b=some u)(U:h.objs.size<=a)(new:bQ P w (upd H a o) h' a o):HOk P w (upd H a o) h':=λb u e=>by
 have z:=x.fresh U;by_cases J:b=a
 .subst J;rw[aC]at e;cases e;exact new
 .rw[aZ J]at e;exact(x b u e).stay (λc v _ q=>k c v q) (λc q=>by rw[aZ (cJ q z)];exact q) λc xs q=>by rw[aZ (cJ q z)];exact q
end
def Rd(H:Hp)(a:Addr)(u:HO):Prop:=H a=some u\/∃o,H a=some (.frz o u)
theorem Rd.ok(r:Rd H a u)(x:HOk P w H h):bQ P w H h a u:=by
 rcases r with r|⟨o,r⟩
 .exact x a u r
 .obtain⟨_,q⟩:=x a _ r;exact q
def Mut:Option HO->Prop
 |some (.lst _)=>True
 |some (.dK _)=>True
 |some (.dT _)=>True
 |some (.set _ _)=>True
 |some (.ins _ _ _)=>True
 |some (.ext _)=>True
 | _=>False
section
variable{P:Program}{w:World}{H:Hp}{h h':Heap}{x e:Addr}{o':HO}
def HOk.write(ok:HOk P w H h)(Z:Mut (H x))(he:e=x\/H e=some (.own x))(k:∀b u,b≠e->h.get? b=some u->h'.get? b=some u)(ao:∃u,h'.get? e=some u)
  (new:bQ P w (upd H x o') h' x o'):HOk P w (upd H x o') h':=λb u q=>by
 have U:∀c y,H c=some (.own y)->c≠x:=λc y r z=>by subst z;rw[r]at Z;exact Z
 have Y:∀c xs,H c=some (.tup xs)->c≠x:=λc xs r z=>by subst z;rw[r]at Z;exact Z
 by_cases hb:b=x
 .subst hb;rw[aC]at q;cases q;exact new
 .rw[aZ hb]at q;by_cases J:b=e
  .have q':H b=some (.own x):=by
    rcases he with z|z
    .exact absurd (J.trans z) hb
    .rw[J];exact z
   rw[q]at q';cases q'
   obtain⟨v,hv⟩:=ao;exact⟨v,by rw[J];exact hv⟩
  .refine(ok b u q).stay (λc v hc r=>k c v ?_ r) (λc r=>by rw[aZ (U c b r)];exact r) λc xs r=>by rw[aZ (Y c xs r)];exact r
   rcases hc with rfl|hc
   .exact J
   .rintro rfl
    simp_all
end
structure Un(fs ex:List Addr)(H H':Hp)(h h':Heap):Prop where
 keep:∀b o,h.get? b=some o->H b=none->b∉fs->b∉ex->h'.get? b=some o
 slot:∀b o,h.get? b=some o->H b=none->b∈fs->b∉ex->∃sl,h'.get? b=some { o with slots:=sl }
 free:∀b o,h.get? b=some o->H b=none->b∉ex->H' b=none
 there:∀b o,h.get? b=some o->b∉ex->∃o',h'.get? b=some o'
 tups:∀b xs,H b=some (.tup xs)->H' b=some (.tup xs)
 frzs:∀b o u,H b=some (.frz o u)->H' b=some (.frz o u)
 tbls:∀b ps,H b=some (.tbl ps)->∃more,H' b=some (.tbl (ps++more))
section
variable{fs fs' ex ex':List Addr}{H H1 H2:Hp}{h h1 h2 h':Heap}{a x e:Addr}{o:HO}
theorem Un.any(u:Un fs ex H H1 h h1)(q:h.get? b=some z)(n:H b=none)(hx:b∉ex):∃U,h1.get? b=some { z with slots:=U }:=by
 by_cases J:b∈fs
 .exact u.slot b z q n J hx
 .exact⟨z.slots,u.keep b z q n J hx⟩
def Un.kept(k:∀b u,h.get? b=some u->h'.get? b=some u):Un fs ex H H h h':=
 ⟨λb z q _ _ _=>k b z q,λb z q _ _ _=>⟨z.slots,k b z q⟩,λ_ _ _ n _=>n,λb z q _=>⟨z,k b z q⟩,λ_ _ q=>q,λ_ _ _ q=>q,λ_ ps q=>⟨#[],by rw[q];simp⟩⟩
def Un.refl:Un fs ex H H h h:=Un.kept λ_ _ q=>q
def Un.laid(k:∀b u,h.get? b=some u->h'.get? b=some u)(J:h.objs.size<=a)(z:H a=none):Un fs ex H (upd H a o) h h' where
 keep:=λb u q _ _ _=>k b u q
 slot:=λb u q _ _ _=>⟨u.slots,k b u q⟩
 free:=λb u q n _=>by rw[aZ (Iz (IF (uw q) J))];exact n
 there:=λb u q _=>⟨u,k b u q⟩
 tups:=λb xs q=>by rw[aZ (cJ q z)];exact q
 frzs:=λb u xs q=>by rw[aZ (cJ q z)];exact q
 tbls:=λb ps q=>⟨#[],by rw[aZ (cJ q z),q];simp⟩
def Un.write(U:Mut (H x))(he:e=x\/H e=some (.own x))(k:∀b u,b≠e->h.get? b=some u->h'.get? b=some u)(Y:∃u,h'.get? e=some u):Un fs ex H (upd H x o) h h':=by
 have hx:∀b,H b=none->b≠x:=λb n z=>by subst z;rw[n]at U;exact U
 have hb:∀b,H b=none->b≠e:=λb n z=>by
  simp_all
 have Z:∀b u,H b=some u->¬ Mut (some u)->b≠x:=λb u q nm z=>by subst z;rw[q]at U;exact nm U
 refine⟨λb u q n _ _=>k b u (hb b n) q,λb u q n _ _=>⟨u.slots,k b u (hb b n) q⟩,λb u q n _=>by rw[aZ (hx b n)];exact n,λb u q _=>?_,
  λb xs q=>by rw[aZ (Z b _ q λz=>z)];exact q,λb u xs q=>by rw[aZ (Z b _ q λz=>z)];exact q,λb ps q=>⟨#[],by rw[aZ (Z b _ q λz=>z),q];simp⟩⟩
 by_cases J:b=e
 .subst J;exact Y
 .exact⟨u,k b u J q⟩
end
noncomputable def trk(h:Heap)(H:Hp):List Addr:=(range h.objs.size).filter λa=>(H a).isSome
noncomputable def pC(h:Heap)(H:Hp):Heap:=PySem.W.hideAll h (trk h H)
def v0(h)(H):(pC h H).objs.size=h.objs.size:=PySem.W.hideAll_size _ _
def xo{H:Hp}{b:Addr}{o:Obj}(e:h.get? b=some o)(n:H b=none):(pC h H).get? b=some o:=
 PySem.W.hideAll_get _ e λhm=>by
  have q:=(JG.mp hm).2;rw[n]at q;simp at q
def Ao(e:(pC h H).get? b=some o):h.get? b=some o/\H b=none:=by
 have J:=PySem.W.of_hideAll _ e;refine⟨J,?_⟩;cases q:H b with
 |none=>rfl
 |some x =>
  have U:b∈trk h H:=JG.mpr ⟨LG.mpr (uw J),by simp[q]⟩;have z:(pC h H).get? b=none:=PySem.W.hideAll_none _ U;rw[z]at e;cases e
noncomputable def Ap(g h:Heap)(L:Addr):List (Addr×Obj):=(range h.objs.size).filterMap λa=>if a=L\/(g.get? a).isSome=true then none else(h.get? a).map λo=>(a,o)
noncomputable def bV(g h:Heap)(L d:Addr):List (Addr×Obj):=(Ap g h L).filter λp=>decide (p.1≠d)
structure Mod(K:L8)(mg:Str->Option Value)(base:Heap):Prop where
 kin:K.In base
 glob:base.Ns mainGlobals mg
 blt:∃mb,base.Ns builtinsNs mb/\∀x:Str,x ≠ "__name__"->mb x=bootBuiltins x
 nolimit:base.NoLimit
structure Cx where
 prog:Program
 w:World
 K:L8
 mg:Str->Option Value
 base:Heap
 A:Around
 N:List Str
 s₀:Shared
 H₀:Hp
 env:Env
 outer:List Env
 stack:List Env
 ex:List Addr
 fn:Str->Bool
 calm:Bool
 pn:List (Addr×Obj)
 xe:Value->Shared->Prop
noncomputable def frs(l:List Env):List Addr:=l.filterMap (·.frame)
noncomputable abbrev Cx.fs(X:Cx):List Addr:=frs X.outer
def Vis(sc:Scope)(x:Str):Prop:=sc.names.lookup x=some .local\/sc.names.lookup x=some .cell\/sc.names.lookup x=some .free
def Loc(sc:Scope)(x:Str):Prop:=sc.names.lookup x=some .local\/sc.names.lookup x=some .cell
def HF(env:Env)(h:Heap)(m:Str->Option Value)(x:Str)(u:Value):Prop:=
 (env.kindOf x=some .local/\m x=some u)\/((env.kindOf x=some .cell\/env.kindOf x=some .free)/\∃c,env.cells.lookup x=some c/\h.IsCell c (some u))
structure Cx.Ok(X:Cx):Prop where
 mod:Mod X.K X.mg X.base
 kind:X.env.scope.kind=.function
 glob:X.env.globals=mainGlobals
 blt:X.env.builtins=builtinsNs
 above:X.s₀.heap.objs.size<=X.env.locals
 inj:∀x y c,X.env.cells.lookup x=some c->X.env.cells.lookup y=some c->x=y
 has:∀x,(X.env.kindOf x=some .cell\/X.env.kindOf x=some .free)->∃c,X.env.cells.lookup x=some c
 cab:∀x c,X.fn x=true->X.env.cells.lookup x=some c->X.s₀.heap.objs.size<=c
 hd:X.calm=true->X.A.handled=none
 frames:X.A.frames=some X.stack
 stk:X.stack=X.outer\/(X.stack=X.env::X.outer/\X.env.frame=some X.env.locals)
 exf:∀b∈X.ex,b≠X.env.locals/\∀x c,X.env.cells.lookup x=some c->c≠b
 bs:∀b o,X.base.get? b=some o->X.s₀.heap.get? b=some o/\X.H₀ b=none
 bsz:X.base.objs.size<=X.s₀.heap.objs.size
 noex:∀b o,X.base.get? b=some o->b∉X.ex
 exfs:∀b∈X.ex,b∉X.fs
 funs:X.s₀.heap.FunFrames X.base X.outer
 frf:∀b∈X.fs,X.H₀ b=none
structure Inv(X:Cx)(pins:List (Addr×Obj))(σ:List (Option V))(H:Hp)(s:Shared):Prop where
 ok:X.Ok
 os:s.os=X.s₀.os
 bare:AllBare s.gens
 base:Un X.fs X.ex X.H₀ H X.s₀.heap s.heap
 loc:∃m,s.heap.Ns X.env.locals m/\∀(i:Nat) (x:Str) (v:V),X.N[i]?=some x->σ[i]?=some (some v)->Vis X.env.scope x->∃u,aF v u/\HF X.env s.heap m x u
 cell:∀x c,X.env.cells.lookup x=some c->∃v,s.heap.IsCell c v
 free:H X.env.locals=none
 freeC:∀x c,X.env.cells.lookup x=some c->H c=none
 pin:∀p∈X.pn++pins,s.heap.get? p.1=some p.2/\H p.1=none/\p.1≠X.env.locals/\p.1∉X.fs/\∀v,p.2.data≠.cell v
 hok:HOk X.prog X.w H s.heap
 len:σ.length=X.N.length
section
variable{X:Cx}{pins:List (Addr×Obj)}{σ:List (Option V)}{H H':Hp}{s:Shared}{h':Heap}
theorem Cx.Ok.nofr(ok:X.Ok)(e:X.base.get? b=some o):b∉X.fs:=λz=>by
 have:=(ok.funs.mem z).1;rw[e]at this;cases this
theorem Inv.bs(I:Inv X pins σ H s):∀b o,X.base.get? b=some o->s.heap.get? b=some o/\H b=none:=λb o e =>
 ⟨I.base.keep b o (I.ok.bs b o e).1 (I.ok.bs b o e).2 (I.ok.nofr e) (I.ok.noex b o e),I.base.free b o (I.ok.bs b o e).1 (I.ok.bs b o e).2 (I.ok.noex b o e)⟩
theorem Inv.bk(I:Inv X pins σ H s):∀b o,X.base.get? b=some o->s.heap.get? b=some o:=λb o e=>(I.bs b o e).1
theorem Inv.mod(I:Inv X pins σ H s):Mod X.K X.mg X.base:=I.ok.mod
theorem Inv.kIn(I:Inv X pins σ H s):X.K.In s.heap:=I.ok.mod.kin.keeps I.bk
theorem Inv.lt(I:Inv X pins σ H s):X.env.locals<s.heap.objs.size:=let ⟨_,z,_⟩:=I.loc;z.lt
theorem Inv.sz(I:Inv X pins σ H s):X.s₀.heap.objs.size<=s.heap.objs.size:=IH I.ok.above (JS I.lt)
theorem Inv.nofs(I:Inv X pins σ H s)(h:s.heap.objs.size<=a):a∉X.fs:=λz=>by
 obtain⟨_,o,ho,_⟩:=I.ok.funs.mem z;exact absurd (IF (uw ho) (IH I.sz h)) (Jr _)
theorem Inv.cne(I:Inv X pins σ H s):∀x c,X.env.cells.lookup x=some c->c≠X.env.locals:=λx c e z=>by
 obtain⟨v,o,ho,hd⟩:=I.cell x c e;obtain⟨m,⟨o',es,ep,J,U,_⟩,_⟩:=I.loc
 simp_all
theorem Inv.funs(I:Inv X pins σ H s):s.heap.FunFrames X.base X.outer:=by
 have all:∀l,(∀b∈frs l,b∈X.fs)->X.s₀.heap.FunFrames X.base l->s.heap.FunFrames X.base l:=by
  intro l
  induction l with
  |nil=>intro _ _;trivial
  |cons env r ih =>
   intro hs Y;obtain⟨Z,⟨L,o,J,hn,ho,hd⟩,hr⟩:=Y;have hL:=hs L (by unfold frs;rw[filterMap_cons,J];exact JC);obtain⟨sl,e⟩:=I.base.slot L o ho (I.ok.frf L hL) hL λz=>I.ok.exfs L z hL
   exact⟨Z,⟨L,_,J,hn,e,hd⟩,ih (λb U=>hs b (by unfold frs;rw[filterMap_cons,J];exact Js _ U)) hr⟩
 exact all X.outer (λ_ U=>U) I.ok.funs
theorem Inv.stack(I:Inv X pins σ H s):s.heap.FunFrames X.base X.stack:=by
 rcases I.ok.stk with e|⟨e,z⟩
 .rw[e];exact I.funs
 .rw[e];obtain⟨m,J,_⟩:=I.loc;refine .cons (by rw[I.ok.kind];decide) z J ?_ I.funs;exact Heap.get?_none_of_le (IH I.ok.bsz I.ok.above)
def Inv.stkSub(I:Inv X pins σ H s):∀b∈frs X.stack,b∈X.env.locals::X.fs:=λb z=>by
 rcases I.ok.stk with e|⟨e,J⟩
 .rw[e]at z;exact Js _ z
 .rw[e]at z;unfold frs at z;rw[filterMap_cons,J]at z;exact z
def Inv.stkFree(I:Inv X pins σ H s):∀b∈frs X.stack,H b=none:=λb J=>by
 rcases IB.mp (I.stkSub b J)with e|J
 .rw[e];exact I.free
 .obtain⟨_,o,ho,_⟩:=I.ok.funs.mem J;exact I.base.free b o ho (I.ok.frf b J) λz=>I.ok.exfs b z J
theorem Inv.step{ch:List Addr}(I:Inv X pins σ H s)
  (J:∀b∈ch,(b∈X.ex\/X.s₀.heap.objs.size<=b)/\b≠X.env.locals/\(∀x c,X.env.cells.lookup x=some c->c≠b)/\∀p∈X.pn++pins,p.1≠b)
  (keep:∀b o,b≠X.env.locals->b∉X.fs->b∉ch->s.heap.get? b=some o->H b=none->h'.get? b=some o)
  (slot:∀b o,b≠X.env.locals->b∈X.fs->b∉ch->s.heap.get? b=some o->H b=none->∃sl,h'.get? b=some { o with slots:=sl }) (free:∀b o,b∉ch->s.heap.get? b=some o->H b=none->H' b=none)
  (there:∀b o,b∉ch->s.heap.get? b=some o->∃o',h'.get? b=some o')
  (tups:∀b xs,H b=some (.tup xs)->H' b=some (.tup xs)) (frzs:∀b o u,H b=some (.frz o u)->H' b=some (.frz o u)) (tbls:∀b ps,H b=some (.tbl ps)->∃aO,H' b=some (.tbl (ps++aO)))
  (ns:∀m,s.heap.Ns X.env.locals m->h'.Ns X.env.locals m) (hok:HOk X.prog X.w H' h') (hg:AllBare g') :
  Inv X pins σ H' { s with heap:=h',gens:=g',drawn:=d',toks:=t' }:=by
 have a0:∀b o,X.s₀.heap.get? b=some o->b≠X.env.locals:=λb o e=>Iz (IF (uw e) I.ok.above)
 have Z:∀b o,X.s₀.heap.get? b=some o->b∉X.ex->b∉ch:=λb o e hx hb=>by
  rcases(J b hb).1 with z|z
  .exact hx z
  .exact absurd (IF (uw e) z) (Jr _)
 have U:∀x c,X.env.cells.lookup x=some c->∀v,s.heap.IsCell c v->h'.IsCell c v:=λx c e v ⟨o,ho,hd⟩=>by
  have Y:c∉ch:=λz=>(J c z).2.2.1 x c e rfl
  by_cases hc:c∈X.fs
  .obtain⟨sl,q⟩:=slot c o (I.cne x c e) hc Y ho (I.freeC x c e);exact⟨_,q,hd⟩
  .exact⟨o,keep c o (I.cne x c e) hc Y ho (I.freeC x c e),hd⟩
 refine⟨I.ok,I.os,hg,⟨λb o e n hb hx=>?_,λb o e n hb hx=>?_,λb o e n hx=>?_,λb o e hx=>?_,λb xs e=>tups b xs (I.base.tups b xs e),λb o xs e=>frzs b o xs (I.base.frzs b o xs e),λb ps e=>?_⟩,?_,λx c e=>?_,?_,λx c e=>?_,λp hp=>?_,hok,I.len⟩
 .exact keep b o (a0 b o e) hb (Z b o e hx) (I.base.keep b o e n hb hx) (I.base.free b o e n hx)
 .obtain⟨sl,e1⟩:=I.base.slot b o e n hb hx;obtain⟨a3,e2⟩:=slot b _ (a0 b o e) hb (Z b o e hx) e1 (I.base.free b o e n hx);exact⟨a3,e2⟩
 .obtain⟨o',e1⟩:=I.base.there b o e hx;exact free b o' (Z b o e hx) e1 (I.base.free b o e n hx)
 .obtain⟨o',e1⟩:=I.base.there b o e hx;exact there b o' (Z b o e hx) e1
 .obtain⟨m1,e1⟩:=I.base.tbls b ps e;obtain⟨m2,e2⟩:=tbls b _ e1;exact⟨m1++m2,by rw[e2,Array.append_assoc]⟩
 .obtain⟨m,hn,hl⟩:=I.loc;refine⟨m,ns m hn,λi x v e1 e2 e3=>?_⟩;obtain⟨u,r,l⟩:=hl i x v e1 e2 e3;refine⟨u,r,?_⟩;rcases l with l|⟨k,c,e,z⟩
  .exact .inl l
  .exact .inr ⟨k,c,e,U x c e _ z⟩
 .obtain⟨v,z⟩:=I.cell x c e;exact⟨v,U x c e v z⟩
 .obtain⟨m,⟨o,_,_,ho,_⟩,_⟩:=I.loc;exact free _ o (λz=>(J _ z).2.1 rfl) ho I.free
 .obtain⟨v,o,ho,hd⟩:=I.cell x c e;exact free c o (λz=>(J c z).2.2.1 x c e rfl) ho (I.freeC x c e)
 .obtain⟨e,n,ne,nf,d⟩:=I.pin p hp;have Y:p.1∉ch:=λz=>(J p.1 z).2.2.2 p hp rfl
  exact⟨keep p.1 p.2 ne nf Y e n,free p.1 p.2 Y e n,ne,nf,d⟩
theorem Inv.un(I:Inv X pins σ H s)(u:Un X.fs [] H H' s.heap h')(hok:HOk X.prog X.w H' h'):Inv X pins σ H' { s with heap:=h',toks:=t' }:=by
 obtain⟨m,⟨o,es,ep,ho,r⟩,_⟩:=id I.loc;obtain⟨sl,hL⟩:=u.any ho I.free (by simp);exact I.step (ch:=[]) (λ_ z=>nomatch z) (λb o _ U _ e n=>u.keep b o e n U (by simp)) (λb o _ U _ e n=>u.slot b o e n U (by simp)) (λb o _ e n=>u.free b o e n (by simp)) (λb o _ e=>u.there b o e (by simp)) u.tups u.frzs u.tbls (λm' hm=>by
  obtain⟨o',Y,Z,J,r'⟩:=hm;rw[ho]at J;cases J
  exact⟨_,Y,Z,hL,r'⟩) hok I.bare
theorem Inv.call(I:Inv X pins σ H s)(u:Un (frs X.stack) ch H H' s.heap h')(hok:HOk X.prog X.w H' h')(hg:AllBare g')
  (J:∀b∈ch,(b∈X.ex\/X.s₀.heap.objs.size<=b)/\b≠X.env.locals/\(∀x c,X.env.cells.lookup x=some c->c≠b)/\∀p∈X.pn++pins,p.1≠b) :
  Inv X pins σ H' { s with heap:=h',gens:=g',drawn:=d',toks:=t' }:=by
 obtain⟨m,⟨o,es,ep,ho,r⟩,_⟩:=id I.loc;obtain⟨sl,hL⟩:=u.any ho I.free λz=>(J _ z).2.1 rfl
 exact I.step J (λb o hL hb hc e n=>u.keep b o e n (λz=>(IB.mp (I.stkSub b z)).elim hL hb) hc) (λb o _ _ hc e n=>u.any e n hc) (λb o hc e n=>u.free b o e n hc) (λb o hc e=>u.there b o e hc) u.tups u.frzs u.tbls (λm' hm=>by
  obtain⟨o',Y,Z,U,r'⟩:=hm;rw[ho]at U;cases U
  exact⟨_,Y,Z,hL,r'⟩) hok hg
def Inv.turned(I:Inv X pins σ H s)(k:∀b o,b≠it->s.heap.get? b=some o->h'.get? b=some o)(U:H it=none)(hL:it≠X.env.locals)
  (h1:it∈X.ex\/X.s₀.heap.objs.size<=it) (h2:∀x c,X.env.cells.lookup x=some c->c≠it) (Y:∀p∈X.pn++pins,p.1≠it):Inv X pins σ H { s with heap:=h',toks:=t' }:=by
 have J:∀b u,H b=some u->b≠it:=λb u e z=>by rw[z,U]at e;cases e
 refine I.step (ch:=[it]) (λb Z=>?_) (λb o _ _ hc e _=>k b o (λz=>hc (by simp[z])) e) (λb o _ _ hc e _=>⟨o.slots,k b o (λz=>hc (by simp[z])) e⟩) (λ_ _ _ _ n=>n)
  (λb o hc e=>⟨o,k b o (λz=>hc (by simp[z])) e⟩) (λ_ _ e=>e) (λ_ _ _ e=>e) (λb ps e=>⟨#[],by rw[e];simp⟩) (λm hm=>?_) (λb u e=>?_) I.bare
 .have e:b=it:=by simpa using Z
  subst e;exact⟨h1,hL,h2,Y⟩
 .obtain⟨o,es,ep,ho,r⟩:=hm;exact⟨o,es,ep,k _ o (Kg hL) ho,r⟩
 .refine(I.hok b u e).stay (λc v hc q=>k c v ?_ q) (λ_ q=>q) λ_ _ q=>q
  rcases hc with z|z
  .rw[z];exact J b u e
  .exact J c _ z
theorem Inv.tok(I:Inv X pins σ H s)(t):Inv X pins σ H { s with toks:=t }:=I.un (h':=s.heap) (t':=t) Un.refl I.hok
theorem Inv.kept(I:Inv X pins σ H s)(k:∀b u,s.heap.get? b=some u->h'.get? b=some u):Inv X pins σ H { s with heap:=h',toks:=t' }:=I.un (Un.kept k) (I.hok.kept k)
theorem Inv.laid(I:Inv X pins σ H s)(k:∀b u,s.heap.get? b=some u->h'.get? b=some u)(z:s.heap.objs.size<=a)(new:bQ X.prog X.w (upd H a o) h' a o) :
  Inv X pins σ (upd H a o) { s with heap:=h',toks:=t' }:=I.un (Un.laid k z (I.hok.fresh z)) (I.hok.laid k z new)
theorem Inv.write(I:Inv X pins σ H s)(J:Mut (H x))(U:e=x\/H e=some (.own x))(k:∀b u,b≠e->s.heap.get? b=some u->h'.get? b=some u)(z:∃u,h'.get? e=some u)
  (new:bQ X.prog X.w (upd H x o) h' x o):Inv X pins σ (upd H x o) { s with heap:=h',toks:=t' }:=I.un (Un.write J U k z) (I.hok.write J U k z new)
def Inv.pins_of(I:Inv X pins σ H s)(h:∀p∈J,s.heap.get? p.1=some p.2/\H p.1=none/\p.1≠X.env.locals/\p.1∉X.fs/\∀v,p.2.data≠.cell v):Inv X J σ H s:=
 ⟨I.ok,I.os,I.bare,I.base,I.loc,I.cell,I.free,I.freeC,λp U=>(JR.mp U).elim (λz=>I.pin p (Jy _ z)) (h p),I.hok,I.len⟩
def qH{N:List Str}(z:N.Nodup){i j:Nat}(a:N[i]?=some x)(b:N[j]?=some x):i=j:=by
 obtain⟨h1,J⟩:=IA.mp a;obtain⟨h2,U⟩:=IA.mp b;exact(getElem_inj z).mp (J.trans U.symm)
def oC{i:Nat}{x:Str}{v:V}{u:Value}{Q:Unit->Shared->Prop}(I:Inv X pins σ H s)(hN:X.N.Nodup)(hi:X.N[i]?=some x)(hx:Loc X.env.scope x)(r:aF v u)
  (h:∀s',Inv X pins (σ.set i (some v)) H s'->(∃a,Heap.SameBut a s.heap s'.heap/\(a=X.env.locals\/X.env.cells.lookup x=some a))->Q () s') (hf:X.fn x=true\/X.env.scope.names.lookup x=some .local:=by first|exact .inl rfl|exact .inr rfl|assumption):wpAny M A (storeName X.env x u) Q E s:=by
 obtain⟨m,hn,hl⟩:=id I.loc;have a2:(X.env.scope.kind==.class||(X.env.scope.kind==.module&&X.env.locals != X.env.globals))=false:=by rw[I.ok.kind];rfl
 have ao:i<σ.length:=by rw[I.len];exact(IA.mp hi).1
 have cne:=I.cne;have J:∀{a}{h'},(∃o,s.heap.get? a=some o/\H a=none)->Heap.SameBut a s.heap h'->HOk X.prog X.w H h':=λ{a h'} ha hs b ob e=>by
  obtain⟨_,_,Y⟩:=ha;refine(I.hok b ob e).stay (λc w' hc q=>(hs.2 c ?_).trans q) (λ_ q=>q) λ_ _ q=>q
  rintro rfl;rcases hc with rfl|hc
  .rw[Y]at e;cases e
  .rw[Y]at hc;cases hc
 rcases hx with hk|hk
 .refine wpAny_storeName_local hk hn (λh' b0 hs=>?_) a2;obtain⟨oL,_,_,b1,_⟩:=id hn;refine h _ ⟨I.ok,I.os,I.bare,⟨λb o e n hb hx=>?_,λb o e n hb hx=>?_,I.base.free,λb o e hx=>?_,I.base.tups,I.base.frzs,I.base.tbls⟩,⟨_,b0,λj y v' U Z e3=>?_⟩,λy c e=>?_,I.free,I.freeC,λp hp=>?_,J ⟨oL,b1,I.free⟩ hs,by simpa using I.len⟩ ⟨_,hs,.inl rfl⟩
  .exact(hs.2 b (Iz (IF (uw e) I.ok.above))).trans (I.base.keep b o e n hb hx)
  .obtain⟨sl,U⟩:=I.base.slot b o e n hb hx;exact⟨sl,(hs.2 b (Iz (IF (uw e) I.ok.above))).trans U⟩
  .obtain⟨o',U⟩:=I.base.there b o e hx;exact⟨o',(hs.2 b (Iz (IF (uw e) I.ok.above))).trans U⟩
  .by_cases hj:j=i
   .subst hj;rw[hi]at U;cases U
    rw[JO ao]at Z;cases Z;exact⟨u,r,.inl ⟨hk,by simp⟩⟩
   .rw[IX (Kg hj)]at Z;obtain⟨u',r',q⟩:=hl j y v' U Z e3;refine⟨u',r',?_⟩;rcases q with⟨k,e⟩|⟨k,c,e,z⟩
    .refine .inl ⟨k,?_⟩;have:y≠x:=λe=>hj (qH hN U (e▸hi))
     simp[this,e]
    .exact .inr ⟨k,c,e,z.sameBut hs (cne y c e)⟩
  .obtain⟨w',z⟩:=I.cell y c e;exact⟨w',z.sameBut hs (cne y c e)⟩
  .obtain⟨e,n,ne,nf,d⟩:=I.pin p hp;exact⟨(hs.2 p.1 ne).trans e,n,ne,nf,d⟩
 .have a1:X.fn x=true:=by
   rcases hf with z|z
   .exact z
   .rw[z]at hk;cases hk
  obtain⟨c,hc⟩:=I.ok.has x (.inl hk);obtain⟨w',z⟩:=I.cell x c hc;refine wpAny_storeName_cell I.ok.kind hk hc z (λh' a3 hs=>?_);obtain⟨oc,a4,a5⟩:=id z;refine h { s with heap:=h' } ⟨I.ok,I.os,I.bare,⟨λb o e n hb hx=>?_,λb o e n hb hx=>?_,I.base.free,λb o e hx=>?_,I.base.tups,I.base.frzs,I.base.tbls⟩,⟨m,hn.sameBut hs (Kg (cne x c hc)),λj y v' U Z e3=>?_⟩,λy c' e=>?_,I.free,I.freeC,λp hp=>?_,J ⟨oc,a4,I.freeC x c hc⟩ hs,by simpa using I.len⟩ ⟨c,hs,.inr hc⟩
  .exact(hs.2 b (Iz (IF (uw e) (I.ok.cab x c a1 hc)))).trans (I.base.keep b o e n hb hx)
  .obtain⟨sl,U⟩:=I.base.slot b o e n hb hx;exact⟨sl,(hs.2 b (Iz (IF (uw e) (I.ok.cab x c a1 hc)))).trans U⟩
  .obtain⟨o',U⟩:=I.base.there b o e hx;exact⟨o',(hs.2 b (Iz (IF (uw e) (I.ok.cab x c a1 hc)))).trans U⟩
  .by_cases hj:j=i
   .subst hj;rw[hi]at U;cases U
    rw[JO ao]at Z;cases Z;exact⟨u,r,.inr ⟨.inl hk,c,hc,a3⟩⟩
   .rw[IX (Kg hj)]at Z;obtain⟨u',r',q⟩:=hl j y v' U Z e3;refine⟨u',r',?_⟩;rcases q with q|⟨k,c',e,z'⟩
    .exact .inl q
    .refine .inr ⟨k,c',e,z'.sameBut hs ?_⟩;rintro rfl;exact hj (qH hN U (I.ok.inj _ _ _ e hc▸hi))
  .by_cases a6:c'=c
   .subst a6;exact⟨_,a3⟩
   .obtain⟨w2,z2⟩:=I.cell y c' e;exact⟨w2,z2.sameBut hs a6⟩
  .obtain⟨e,n,ne,nf,d⟩:=I.pin p hp;refine⟨(hs.2 p.1 ?_).trans e,n,ne,nf,d⟩;intro q;rw[q,a4]at e;have q':=II e;exact d w' (by rw[<- q'];exact a5)
def qI{i:Nat}{x:Str}{v:V}{u:Value}{Q:Unit->Shared->Prop}(I:Inv X pins σ H s)(z:X.N.Nodup)(hi:X.N[i]?=some x)(hx:Loc X.env.scope x)(r:aF v u)
  (h:∀s',Inv X pins (σ.set i (some v)) H s'->Q () s') (J:X.fn x=true\/X.env.scope.names.lookup x=some .local:=by first|exact .inl rfl|exact .inr rfl|assumption):wpAny M A (storeName X.env x u) Q E s:=
 oC I z hi hx r (λs' U _=>h s' U) J
def Inv.call'(I:Inv X pins σ H s)(ho:s'.os=s.os)(u:Un (frs X.stack) ch H H' s.heap s'.heap)(hok:HOk X.prog X.w H' s'.heap)(J:AllBare s'.gens)
  (z:∀b∈ch,(b∈X.ex\/X.s₀.heap.objs.size<=b)/\b≠X.env.locals/\(∀x c,X.env.cells.lookup x=some c->c≠b)/\∀p∈X.pn++pins,p.1≠b):Inv X pins σ H' s':=by
 obtain⟨h',g',d',t',o'⟩:=s';have e:=ho;subst e;exact I.call u hok J z
end
noncomputable abbrev XK:=Value->Option Addr->Hp->Prop
noncomputable abbrev St:=List (Option V)
noncomputable abbrev VK:=V->Hp->Prop
noncomputable abbrev TE:=St->Hp->VK->Prop
noncomputable abbrev TT:=St->Hp->(Bool->Hp->Prop)->Prop
noncomputable abbrev TA:=St->Hp->(List V->Hp->Prop)->Prop
structure CF where
 nx:St->Hp->Prop
 rt:VK
 bk:St->Hp->Prop:=λ_ _=>False
 ct:St->Hp->Prop:=λ_ _=>False
noncomputable abbrev TS:=CF->St->Hp->Prop
def EP(X:Cx)(pins:List (Addr×Obj))(σ:St)(Q:VK)(u:Value)(s':Shared):Prop:=∃v H',Inv X pins σ H' s'/\aF v u/\Q v H'
def TP(X:Cx)(pins:List (Addr×Obj))(σ:St)(Q:Bool->Hp->Prop)(b:Bool)(s':Shared):Prop:=∃H',Inv X pins σ H' s'/\Q b H'
def AP(X:Cx)(pins:List (Addr×Obj))(σ:St)(Q:List V->Hp->Prop)(us:List Value)(s':Shared):Prop:=∃vs H',Inv X pins σ H' s'/\aI vs us/\Q vs H'
def SP(X:Cx)(pins:List (Addr×Obj))(D:CF)(f:Flow)(s':Shared):Prop:=
 match f with
 | .next=>∃F H',Inv X pins F H' s'/\D.nx F H'
 | .brk=>∃F H',Inv X pins F H' s'/\D.bk F H'
 | .cont=>∃F H',Inv X pins F H' s'/\D.ct F H'
 | .ret u=>∃v F H',Inv X pins F H' s'/\aF v u/\D.rt v H'
def PE(X:Cx)(e:Expr)(t:TE):Prop:=
 ∀pins s (σ:St) H Q,Inv X pins σ H s->t σ H Q->wpAny (model X.prog X.w) X.A (eval e X.env) (EP X pins σ Q) X.xe s
def PT(X:Cx)(e:Expr)(t:TT):Prop:=
 ∀pins s (σ:St) H Q,Inv X pins σ H s->t σ H Q->wpAny (model X.prog X.w) X.A (isTrue e X.env (eval e X.env)) (TP X pins σ Q) X.xe s
def PW(X:Cx)(e:Expr)(t:TT):Prop:=
 ∀whole pins s (σ:St) H Q,Inv X pins σ H s->t σ H Q->wpAny (model X.prog X.w) X.A (isTrue e X.env whole) (TP X pins σ Q) X.xe s
theorem PW.pt(h:PW X e t):PT X e t:=h _
def PA(X:Cx)(es:List Expr)(t:TA):Prop:=
 ∀pos pins s (σ:St) H Q,Inv X pins σ H s->t σ H Q->wpAny (model X.prog X.w) X.A (spliced (backTo pos (starEach es X.env))) (AP X pins σ Q) X.xe s
def PS(X:Cx)(st:Stmt)(t:TS):Prop:=
 ∀pins s (σ:St) H D,Inv X pins σ H s->t D σ H->wpAny (model X.prog X.w) X.A (exec st X.env) (SP X pins D) X.xe s
def PSs(X:Cx)(st:List Stmt)(t:TS):Prop:=
 ∀pins s (σ:St) H D,Inv X pins σ H s->t D σ H->wpAny (model X.prog X.w) X.A (execs st X.env) (SP X pins D) X.xe s
def thn(h:wpAny M A t Q E s)(z:∀a s,Q a s->J a s):wpAny M A t J E s:=Je h z λ_ _ x=>x
section
variable{X:Cx}
def bin(Y:PE X a ta)(Z:PE X b tb){σ:St}{R:V->V->Hp->Prop}(I:Inv X pins σ H s)(h:ta σ H λx H1=>tb σ H1 λy H2=>R x y H2)
  {f:Value->Value->Sem α}
  (hf:∀v u U x y H2,Inv X pins σ H2 U->aF x v->aF y u->R x y H2->wpAny (model X.prog X.w) X.A (f v u) Q X.xe U) :
  wpAny (model X.prog X.w) X.A (eval a X.env) (λv z=>wpAny (model X.prog X.w) X.A (eval b X.env) (λu J=>wpAny (model X.prog X.w) X.A (f v u) Q X.xe J) X.xe z) X.xe s:=by
 refine thn (Y pins s σ H _ I h) λv s1 ⟨x,H1,I1,r1,q1⟩=>?_
 refine thn (Z pins s1 σ H1 _ I1 q1) λu U ⟨y,H2,I2,r2,q2⟩=>?_
 exact hf v u U x y H2 I2 r1 r2 q2
noncomputable def Fz(i:Nat):TE:=λσ H Q=>∃v,σ[i]?=some (some v)/\Q v H
noncomputable def tC(v:V):TE:=λ_ H Q=>Q v H
def CG (Y:X.N[i]?=some x) (hv:Vis X.env.scope x) (hd:(x==("__debug__":Str))=false:=by decide) (U:(x==("__classdict__":Str))=false:=by decide):PE X (.Name x pos) (Fz i):=by
 intro pins s σ H Q I h;obtain⟨v,e,h⟩:=h;obtain⟨m,Z,hl⟩:=I.loc;obtain⟨u,r,l⟩:=hl i x v Y e hv;have fin:EP X pins σ Q u s:=⟨v,H,I,r,h⟩;rcases l with⟨J,hm⟩|⟨J,c,hc,z⟩
 .exact wpAny_Name (wpAny_loadName_local I.ok.kind J Z hm fin) hd
 .rcases J with J|J
  .exact wpAny_Name (wpAny_loadName_cell I.ok.kind J hc z fin) hd
  .exact wpAny_Name (wpAny_loadName_free I.ok.kind J hc z fin U) hd
def CH{i j pos}:PE X (.Constant (.int i) j pos) (tC (.int i)):=λ_ _ _ H _ I h=>wpAny_Constant_int ⟨.int i,H,I.tok _,⟨_,rfl⟩,h⟩
def FA{b j pos}:PE X (.Constant (.bool b) j pos) (tC (.bl b)):=λ_ _ _ H _ I h=>Constant_bool ⟨.bl b,H,I,rfl,h⟩
def CI{j pos}:PE X (.Constant .none j pos) (tC .non):=λ_ _ _ H _ I h=>Constant_none ⟨.non,H,I,rfl,h⟩
def sD{x j pos}:PE X (.Constant (.str x) j pos) (tC (.str x)):=λ_ _ _ H _ I h=>Calls.Constant_str ⟨.str x,H,I.tok _,⟨_,rfl⟩,h⟩
def Gl(X:Cx)(x:Str):Prop:=X.env.kindOf x=some .globalImplicit
def pD{pins:List (Addr×Obj)}{s:Shared}{σ:St}{H:Hp}{x:Str}{u:Value}{pos:Pos}{Q:Value->Shared->Prop}(I:Inv X pins σ H s)(z:Gl X x)(J:X.mg x=some u)(h:Q u s)
  (hd:(x==("__debug__":Str))=false:=by decide):wpAny (model X.prog X.w) X.A (eval (.Name x pos) X.env) Q E s:=
 Calls.Name_function_global I.ok.kind z (Calls.loadGlobal_global (by rw[I.ok.glob];exact I.mod.glob.keeps I.bk) J h) hd
def ij{E:Value->Shared->Prop}{pins:List (Addr×Obj)}{s:Shared}{σ:St}{H:Hp}{x:Str}{u:Value}{pos:Pos}{Q:Value->Shared->Prop}(I:Inv X pins σ H s)(z:Gl X x)(J:X.mg x=none)(hv:bootBuiltins x=some u)(h:Q u s)
  (U:x ≠ "__name__":=by decide) (hd:(x==("__debug__":Str))=false:=by decide):wpAny (model X.prog X.w) X.A (eval (.Name x pos) X.env) Q E s:=by
 obtain⟨Y,h1,h2⟩:=I.mod.blt;exact Calls.Name_function_global I.ok.kind z (Calls.loadGlobal_builtin (by rw[I.ok.glob];exact I.mod.glob.keeps I.bk) J (by rw[I.ok.blt];exact h1.keeps I.bk) ((h2 x U).trans hv) h) hd
def Aq (z:Gl X x) (J:X.mg x=some u) (r:aF v u) (hd:(x==("__debug__":Str))=false:=by decide):PE X (.Name x pos) (tC v):=
 λ_ _ _ H _ I h=>pD I z J ⟨v,H,I,r,h⟩ hd
def Ar (z:Gl X x) (J:X.mg x=none) (hv:bootBuiltins x=some u) (r:aF v u) (U:x ≠ "__name__":=by decide) (hd:(x==("__debug__":Str))=false:=by decide):PE X (.Name x pos) (tC v):=
 λ_ _ _ H _ I h=>ij I z J hv ⟨v,H,I,r,h⟩ U hd
variable{a b:Expr}{ta tb:TE}{pos:Pos}
def PC(X:Cx)(op:CmpOp)(a b:Expr)(t:TE):Prop:=
 ∀pins s (σ:St) H Q,Inv X pins σ H s->t σ H Q ->
  wpAny (model X.prog X.w) X.A (eval a X.env) (λv z=>wpAny (model X.prog X.w) X.A (eval b X.env) (λu J=>wpAny (model X.prog X.w) X.A (compareOp op v u) (EP X pins σ Q) X.xe J) X.xe z) X.xe s
noncomputable def tB(t:TE):TT:=λσ H Q=>t σ H λx H1=>∃c,x=.bl c/\Q c H1
def xp(h:PC X op a b t)(h1:behindInMarks op b=false:=by first|exact z _ (by decide) (by decide)|rfl):PE X (.Compare a [op] [b] pos) t:=λpins s σ H Q I hw=>wpAny_Compare1 (h pins s σ H Q I hw) h1
def xq(h:PC X op a b t)(h1:behindInMarks op b=false:=by first|exact z _ (by decide) (by decide)|rfl):PT X (.Compare a [op] [b] pos) (tB t):=by
 intro pins s σ H Q I hw;refine wpAny_isTrue_Compare1 (thn (h pins s σ H _ I hw) λv Z h1=>thn h1 λu s2 h2=>thn h2 λc s3 ⟨x,H1,J,U,Y⟩=>?_) h1;obtain⟨d,rfl,q⟩:=Y;cases U;exact JE ⟨H1,J,q⟩
def CJ(h:PE X e t)(z:∀whole,isTrue e X.env whole=(do let v <- whole;standAt e.pos;holding [v] (truthy v)):=by intro _;rfl):PT X e (tB t):=by
 intro pins s σ H Q I hw;refine isTrue_plain (thn (h pins s σ H _ I hw) λv Z ⟨x,H1,J,U,Y⟩=>?_) (z _);obtain⟨d,rfl,q⟩:=Y;cases U;exact JE ⟨H1,J,q⟩
variable{tA tB':TT}{bV:List Expr}
noncomputable def HG(t u:TT):TT:=λσ H Q=>t σ H λc H1=>if c=true then u σ H1 Q else Q false H1
noncomputable def tOr(t u:TT):TT:=λσ H Q=>t σ H λc H1=>if c=true then Q true H1 else u σ H1 Q
noncomputable def HH(t:TT):TT:=λσ H Q=>t σ H λc H1=>Q (!c) H1
def As(z:PT X a tA):PW X (.BoolOp .And [a] pos) tA:=by
 intro J pins s σ H Q I h;refine isTrue_and (thn (z pins s σ H Q I h) λc U e=>?_);cases c<;>first|exact isTrue_and_nil e|exact e
def CK(z:PT X a tA):PW X (.BoolOp .Or [a] pos) tA:=by
 intro J pins s σ H Q I h;refine isTrue_or (thn (z pins s σ H Q I h) λc U e=>?_);cases c<;>first|exact isTrue_or_nil e|exact e
def CL(U:PT X a tA)(Y:PW X (.BoolOp .And (b::bV) pos) tB'):PW X (.BoolOp .And (a::b::bV) pos) (HG tA tB'):=by
 intro Z pins s σ H Q I h;refine isTrue_and (thn (U pins s σ H _ I h) λc s1 ⟨H1,z,J⟩=>?_);cases c<;>first|exact Y Z pins s1 σ H1 Q z J|exact⟨H1,z,J⟩
def FB(U:PT X a tA)(Y:PW X (.BoolOp .Or (b::bV) pos) tB'):PW X (.BoolOp .Or (a::b::bV) pos) (tOr tA tB'):=by
 intro Z pins s σ H Q I h;refine isTrue_or (thn (U pins s σ H _ I h) λc s1 ⟨H1,z,J⟩=>?_);cases c<;>first|exact⟨H1,z,J⟩|exact Y Z pins s1 σ H1 Q z J
def CM(z:PT X a tA):PT X (.UnaryOp .Not a pos) (HH tA):=by
 intro pins s σ H Q I h;exact isTrue_not (z pins s σ H (λc H1=>Q _ H1) I h)
noncomputable def FC(ta tb:TE):TE:=λσ H Q=>ta σ H λx H1=>∃c,x=.bl c/\if c=true then tb σ H1 Q else Q (.bl false) H1
noncomputable def HI(ta tb:TE):TE:=λσ H Q=>ta σ H λx H1=>∃c,x=.bl c/\if c=true then Q (.bl true) H1 else tb σ H1 Q
noncomputable def FD(ta:TE):TE:=λσ H Q=>ta σ H λx H1=>∃c,x=.bl c/\Q (.bl (!c)) H1
def xr{op}(h:PE X a t):PE X (.BoolOp op [a] pos) t:=λpins s σ H Q I hw=>BoolOp_one (h pins s σ H Q I hw)
def CN(U:PE X a ta)(Y:PE X (.BoolOp .And (b::bV) pos) tb):PE X (.BoolOp .And (a::b::bV) pos) (FC ta tb):=by
 intro pins s σ H Q I h;refine BoolOp_and (thn (U pins s σ H _ I h) λv Z ⟨x,H1,J,r1,z⟩=>?_);obtain⟨c,rfl,z⟩:=z;cases r1;refine JE ?_;cases c<;>first|exact Y pins Z σ H1 Q J z|exact⟨.bl false,H1,J,rfl,z⟩
def FE(U:PE X a ta)(Y:PE X (.BoolOp .Or (b::bV) pos) tb):PE X (.BoolOp .Or (a::b::bV) pos) (HI ta tb):=by
 intro pins s σ H Q I h;refine BoolOp_or (thn (U pins s σ H _ I h) λv Z ⟨x,H1,J,r1,z⟩=>?_);obtain⟨c,rfl,z⟩:=z;cases r1;refine JE ?_;cases c<;>first|exact Y pins Z σ H1 Q J z|exact⟨.bl true,H1,J,rfl,z⟩
def CO(J:PE X a ta):PE X (.UnaryOp .Not a pos) (FD ta):=by
 intro pins s σ H Q I h;refine UnaryOp_ (thn (J pins s σ H _ I h) λv Z ⟨x,H1,U,Y,z⟩=>?_);obtain⟨c,rfl,z⟩:=z;cases Y;exact not_of (JE ⟨.bl _,H1,U,rfl,z⟩)
noncomputable def tIf(t:TT)(ta tb:TE):TE:=λσ H Q=>t σ H λc H1=>if c=true then ta σ H1 Q else tb σ H1 Q
def xt(hc:PT X c tA)(Y:PE X a ta)(Z:PE X b tb):PE X (.IfExp c a b pos) (tIf tA ta tb):=by
 intro pins s σ H Q I h;refine wpAny_IfExp (thn (hc pins s σ H _ I h) λd z ⟨H1,J,U⟩=>?_);cases d<;>first|exact Y pins z σ H1 Q J U|exact Z pins z σ H1 Q J U
end
def SqL(K:L8)(H:Hp)(a:Addr)(xs:List V):Prop:=
 Rd H a (.lst xs) \/
  ∃o its n,K.lookup a=some o/\o.cls=.type "list"/\o.dict=none/\o.data=.seq its n/\its.size<=sizeLine/\aI xs its.toList
def SqT(K:L8)(H:Hp)(a:Addr)(xs:List V):Prop:=
 Rd H a (.tup xs) \/
  ∃o its n,K.lookup a=some o/\o.cls=.type "tuple"/\o.data=.seq its n/\its.size<=sizeLine/\aI xs its.toList
noncomputable def HJ:Value->Option V
 | .none=>some .non
 | .bool b=>some (.bl b)
 | .int i _=>some (.int i)
 | .str x _=>some (.str x)
 | .bytes b _=>some (.byt b)
 | .float b _=>some (.flt b)
 | .ref a=>some (.ref a)
 | .type n=>some (.ty n)
 | _=>none
theorem aF.abs(r:aF x u):HJ u=some x:=by
 cases x<;>first|(cases r;rfl)|(obtain⟨t,rfl⟩:=r;rfl)
theorem aF.inj(r:aF x u)(q:aF y u):x=y:=II (r.abs.symm.trans q.abs)
theorem aI.inj:∀{xs ys}{us},aI xs us->aI ys us->xs=ys
 | _,_,_,.nil,.nil=>rfl
 | _,_,_,.cons r t,.cons z t'=>by rw[r.inj z,aI.inj t t']
section
variable{X:Cx}{pins:List (Addr×Obj)}{σ:St}{H:Hp}{s:Shared}{a:Addr}{xs ys:List V}
theorem SqL.of{K:L8}(h:H a=some (.lst xs)):SqL K H a xs:=.inl (.inl h)
theorem SqT.of{K:L8}(h:H a=some (.tup xs)):SqT K H a xs:=.inl (.inl h)
theorem Inv.list(I:Inv X pins σ H s)(h:SqL X.K H a xs):∃its,aI xs its/\PlainL s.heap a its.toArray/\xs.length<=sizeLine:=by
 rcases h with h|⟨o,its,n,J,hc,hd,hs,hz,r⟩
 .obtain⟨z,its,n,r,e⟩:=h.ok I.hok;exact⟨its,r,⟨_,n,e,rfl,rfl,rfl⟩,z⟩
 .refine⟨its.toList,r,⟨o,n,I.kIn a o J,hc,hd,by simpa using hs⟩,?_⟩;have e:=r.length
  simp_all
def Inv.tuple(I:Inv X pins σ H s)(h:SqT X.K H a xs):∃its,aI xs its/\IsTup s.heap a its.toArray/\xs.length<=sizeLine:=by
 rcases h with h|⟨o,its,n,J,hc,hs,hz,r⟩
 .obtain⟨z,its,r,p⟩:=h.ok I.hok;exact⟨its,r,p,z⟩
 .refine⟨its.toList,r,⟨o,I.kIn a o J,hc,n,by simpa using hs⟩,?_⟩;have e:=r.length
  simp_all
def Inv.list_inj(I:Inv X pins σ H s)(h:SqL X.K H a xs)(h':SqL X.K H a ys):xs=ys:=by
 obtain⟨its,r,⟨o,n,e,_,_,d⟩,_⟩:=I.list h;obtain⟨its',J,⟨o',Y,z,_,_,d'⟩,_⟩:=I.list h';rw[e]at z;cases z
 rw[d]at d';injection d' with U _
 have:its=its':=by simpa using IW Array.toList U
 subst this;exact r.inj J
def Inv.tuple_inj(I:Inv X pins σ H s)(h:SqT X.K H a xs)(h':SqT X.K H a ys):xs=ys:=by
 obtain⟨its,r,⟨o,e,_,n,d⟩,_⟩:=I.tuple h;obtain⟨its',J,⟨o',z,_,Y,d'⟩,_⟩:=I.tuple h';rw[e]at z;cases z
 rw[d]at d';injection d' with U _
 have:its=its':=by simpa using IW Array.toList U
 subst this;exact r.inj J
end
noncomputable abbrev Cx.wish(X:Cx)(E:Value->Shared->Prop):Cx:={ X with xe:=E }
noncomputable abbrev Cx.nox(X:Cx):Cx:=X.wish λ_ _=>False
theorem Cx.Ok.wish{X:Cx}(ok:X.Ok)(E:Value->Shared->Prop):(X.wish E).Ok:=
 ⟨ok.mod,ok.kind,ok.glob,ok.blt,ok.above,ok.inj,ok.has,ok.cab,ok.hd,ok.frames,ok.stk,ok.exf,ok.bs,ok.bsz,ok.noex,ok.exfs,ok.funs,ok.frf⟩
theorem Cx.Ok.unwish{X:Cx}{E:Value->Shared->Prop}(ok:(X.wish E).Ok):X.Ok:=
 ⟨ok.mod,ok.kind,ok.glob,ok.blt,ok.above,ok.inj,ok.has,ok.cab,ok.hd,ok.frames,ok.stk,ok.exf,ok.bs,ok.bsz,ok.noex,ok.exfs,ok.funs,ok.frf⟩
section
variable{X:Cx}{pins:List (Addr×Obj)}{σ:St}{H:Hp}{s:Shared}{E:Value->Shared->Prop}
theorem Inv.wish(I:Inv X pins σ H s)(E):Inv (X.wish E) pins σ H s:=⟨I.ok.wish E,I.os,I.bare,I.base,I.loc,I.cell,I.free,I.freeC,I.pin,I.hok,I.len⟩
theorem Inv.unwish(I:Inv (X.wish E) pins σ H s):Inv X pins σ H s:=⟨I.ok.unwish,I.os,I.bare,I.base,I.loc,I.cell,I.free,I.freeC,I.pin,I.hok,I.len⟩
theorem SP.unwish(h:SP (X.wish E) pins D f s'):SP X pins D f s':=by
 cases f<;>first|(obtain⟨F,H',I,q⟩:=h;exact⟨F,H',I.unwish,q⟩)|(obtain⟨v,F,H',I,r,q⟩:=h;exact⟨v,F,H',I.unwish,r,q⟩)
theorem PSs.nox{st:List Stmt}(h:PSs X.nox st t):PSs X st t:=λpins s σ H D I hw =>
 Je (h pins s σ H D (I.wish _) hw) (λ_ _ q=>q.unwish) λ_ _ z=>False.elim z
end
section
variable{X:Cx}{st:Stmt}{bV:List Stmt}{t u:TS}{e:Expr}{te:TE}{pos:Pos}
noncomputable def FF:TS:=λD σ H=>D.nx σ H
noncomputable def HK(t u:TS):TS:=λD σ H=>t { D with nx:=u D } σ H
def At:PSs X [] FF:=λ_ _ σ H _ I h=>wpAny_execs_nil ⟨σ,H,I,h⟩
def xu(h1:PS X st t)(h2:PSs X bV u):PSs X (st::bV) (HK t u):=by
 intro pins s σ H D I h;refine wpAny_execs_cons (thn (h1 pins s σ H { D with nx:=u D } I h) λf z q=>?_);cases f with
 |next =>
  obtain⟨F,H',J,q⟩:=q;exact h2 pins z F H' D J q
 | _=>exact q
def Inv.quiet(I:Inv X pins σ H s):interactive X.env=false:=by simp[interactive,I.ok.kind]
noncomputable def FG(te:TE):TS:=λD σ H=>te σ H λ_ H1=>D.nx σ H1
def lM(z:PE X e te)(hs:swapsWith e none pos.line X.env=pure false:=by rfl):PS X (.Expr e pos) (FG te):=by
 intro pins s σ H D I h;exact wpAny_Expr_any (thn (z pins s σ H _ I h) λv Y ⟨x,H1,J,Z,U⟩=>⟨σ,H1,J,U⟩) I.quiet hs
noncomputable def HL(te:TE):TS:=λD σ H=>te σ H D.rt
def pE(z:PE X e te):PS X (.Return (some e) pos) (HL te):=by
 intro pins s σ H D I h;exact wpAny_Return_some (thn (z pins s σ H _ I h) λv Z ⟨x,H1,J,U,Y⟩=>⟨x,σ,H1,J,U,Y⟩)
noncomputable def HM(c:TT)(t u:TS):TS:=λD σ H=>c σ H λb H1=>if b=true then t D σ H1 else u D σ H1
def FH(hc:PT X c tc)(Y:PSs X a t)(Z:PSs X b u):PS X (.If c a b pos) (HM tc t u):=by
 intro pins s σ H D I h;refine wpAny_If (thn (hc pins s σ H _ I h) λd z ⟨H1,J,U⟩=>?_);cases d<;>first|exact Y pins z σ H1 D J U|exact Z pins z σ H1 D J U
noncomputable def CP:TS:=λ_ _ _=>False
def xv:PS X st CP:=λ_ _ _ _ _ _ h=>h.elim
end
noncomputable abbrev TG:=V->St->Hp->(St->Hp->Prop)->Prop
noncomputable abbrev TGs:=List V->St->Hp->(St->Hp->Prop)->Prop
def PG(X:Cx)(target:Expr)(t:TG):Prop:=
 ∀pins s (σ:St) H v u Q,Inv X pins σ H s->aF v u->t v σ H Q ->
  wpAny (model X.prog X.w) X.A (assign target X.env u) (λ_ s'=>∃F H',Inv X pins F H' s'/\Q F H') X.xe s
def PGs(X:Cx)(z:List Expr)(t:TGs):Prop:=
 ∀pins s (σ:St) H vs us Q,Inv X pins σ H s->aI vs us->t vs σ H Q ->
  wpAny (model X.prog X.w) X.A (assignInOrder ((assignEach z X.env).map (·.2)) us) (λ_ s'=>∃F H',Inv X pins F H' s'/\Q F H') X.xe s
noncomputable abbrev FI:=V->V->V->Hp->(Hp->Prop)->Prop
def FJ(X:Cx)(t:FI):Prop:=
 ∀pins s (σ:St) H o i v z J u Q,Inv X pins σ H s->aF o z->aF i J->aF v u->t o i v H Q ->
  wpAny (model X.prog X.w) X.A (setItem z J u) (λ_ s'=>∃H',Inv X pins σ H' s'/\Q H') X.xe s
section
variable{X:Cx}{pos:Pos}
noncomputable def iZ(i:Nat):TG:=λv σ H Q=>Q (σ.set i (some v)) H
def lN(z:X.N.Nodup)(hi:X.N[i]?=some x)(hx:Loc X.env.scope x)(J:X.fn x=true\/X.env.scope.names.lookup x=some .local:=by first|exact .inl rfl|exact .inr rfl|assumption):PG X (.Name x pos) (iZ i):=by
 intro pins s σ H v u Q I r h;exact wpAny_assign_Name (qI I z hi hx r (λs' U=>⟨_,H,U,h⟩) J)
noncomputable def FK:TGs:=λvs σ H Q=>vs=[]/\Q σ H
noncomputable def Ca(t:TG)(u:TGs):TGs:=λvs σ H Q=>∃v r,vs=v::r/\t v σ H λF H'=>u r F H' Q
def Au:PGs X [] FK:=by
 intro pins s σ H vs us Q I r h;obtain⟨e,h⟩:=h;subst e;cases r;exact assignInOrder_nil ⟨σ,H,I,h⟩
def xw(h1:PG X e t)(h2:PGs X es u)
  (hs:(assignEach (e::es) X.env).map (·.2)=assign e X.env::(assignEach es X.env).map (·.2):=by rfl):PGs X (e::es) (Ca t u):=by
 intro pins s σ H vs us Q I r h;obtain⟨v,vr,J,h⟩:=h;subst J;cases r with
 |cons r U =>
  rw[hs];refine assignInOrder_cons (thn (h1 pins s σ H _ _ _ I r h) λ_ Y ⟨z,H1,Z,q1⟩=>?_);exact h2 pins Y z H1 _ _ Q Z U q1
noncomputable def FL(K:L8)(n:Nat)(t:TGs):TG:=λv σ H Q=>∃a xs,v=.ref a/\SqT K H a xs/\xs.length=n/\t xs σ H Q
def CQ{k:Nat}(hc:X.calm=true)(h:PGs X es t)
  (U:(assignEach es X.env).length=n:=by rfl) (z:(assignEach es X.env).findIdx? (·.1)=none:=by rfl):PG X (.Tuple es k pos) (FL X.K n t):=by
 intro pins s σ H v u Q I r hw;refine ax λZq Y=>?_
 obtain⟨a,xs,Z,hq,hl,hw⟩:=hw;subst Z;cases r;obtain⟨its,J,ht,hz⟩:=I.tuple hq;refine Y ?_;refine assign_Tuple_tuple (I.ok.hd hc) ht (by simp[U,<- hl,J.length]) z λh' hx=>?_
 have I1:=I.kept (t':=s.toks) λb o e=>hx b o (Iz (uw e)) e
 exact h pins _ σ H xs _ Q I1 (by simpa using J) hw
noncomputable def HN(to z:TE)(t:FI):TG:=λv σ H Q=>to σ H λo H1=>z σ H1 λi H2=>t o i v H2 λJ=>Q σ J
def CS(ho:PE X o to)(hi:PE X i U)(hs:FJ X t)
  (Y:∀v,assign (.Subscript o i pos) X.env v=(do
   let z <- holding [v] (eval o X.env)
   let J <- holding [v,z] (eval i X.env)
   standAt pos
   holding [v,z,J] (setItem z J v)
   release [v,z,J] []):=by intro _;rfl):PG X (.Subscript o i pos) (HN to U t):=by
 intro pins s σ H v u Q I r h;rw[Y];refine ez (IZ (thn (ho pins s σ H _ I h) λz Z ⟨x,H1,I1,r1,q1⟩=>?_));refine ez (IZ (thn (hi pins Z σ H1 _ I1 q1) λJ s2 ⟨y,H2,I2,r2,q2⟩=>?_));refine ez (wpAny_standAt (ez (IZ (thn (hs pins s2 σ H2 x y v z J u _ I2 r1 r2 r q2) λ_ s3 ⟨H3,I3,q3⟩=>?_))));exact wpAny_release ⟨σ,H3,I3,q3⟩
noncomputable def v3(te:TE)(g:TG):TS:=λD σ H=>te σ H λx H1=>g x σ H1 D.nx
def CT(z:PE X e te)(J:PG X tg g)(hs:swapsWithSole [tg] e pos.line X.env=pure false:=by rfl)(hw:swappedStores [tg] e X.env=pure none:=by rfl)
  (h1:(assignEach [tg] X.env).map (·.2)=[assign tg X.env]:=by rfl):PS X (.Assign [tg] e pos) (v3 te g):=by
 intro pins s σ H D I h;refine wpAny_Assign_stores (thn (z pins s σ H _ I h) λv U ⟨x,H1,Y,Z,q1⟩=>?_) hs hw;rw[h1];exact thn (J pins U σ H1 x v _ Y Z q1) λ_ s2 q=>q
def kd(z:X.N.Nodup)(hi:X.N[i]?=some x)(hx:Loc X.env.scope x)(J:PE X e te)(hs:swapsWith e (some (.Name x pos')) pos.line X.env=pure false:=by rfl)(U:X.fn x=true\/X.env.scope.names.lookup x=some .local:=by first|exact .inl rfl|exact .inr rfl|assumption) :
  PS X (.Assign [.Name x pos'] e pos) (v3 te (iZ i)):=by
 intro pins s σ H D I h;refine wpAny_Assign_Name (thn (J pins s σ H _ I h) λv s1 ⟨y,H1,Y,Z,q1⟩=>?_) hs;exact qI Y z hi hx Z (λs2 I2=>⟨_,H1,I2,q1⟩) U
end
structure It where
 go:Nat->Hp->Prop
 yld:Nat->Hp->V->Hp->Prop
 stop:Nat->Hp->Prop
def kf(X:Cx)(pins:List (Addr×Obj))(H:Hp)(b:Addr):Prop:=
 H b=none/\b≠X.env.locals/\b∉X.fs/\(b∈X.ex\/X.s₀.heap.objs.size<=b)/\(∀x c,X.env.cells.lookup x=some c->c≠b)/\∀p∈X.pn++pins,p.1≠b
theorem Inv.fpOk{σ:St}{H H':Hp}{s:Shared}{b:Addr}(I:Inv X pins σ H s)(J:s.heap.objs.size<=b)(U:H' b=none):kf X pins H' b:=by
 refine⟨U,JL (IF I.lt J),I.nofs J,.inr (IH I.sz J),λx c e z=>?_,λp Y z=>?_⟩
 .obtain⟨v,q⟩:=I.cell x c e;exact absurd (IF q.lt (by rw[z];exact J)) (Jr _)
 .exact absurd (IF (uw (I.pin p Y).1) (by rw[z];exact J)) (Jr _)
structure sE(P:Program)(w:World)(K:L8)(tg:Expr)(J:It)(fp:List Addr)(it:Addr)(tn:Nat->Heap->Prop):Prop where
 mem:it∈fp
 obj:∀i h,tn i h->∀b∈fp,∃o,h.get? b=some o/\∀v,o.data≠.cell v
 keep:∀i h h',tn i h->(∀b∈fp,∀o,h.get? b=some o->h'.get? b=some o)->tn i h'
 item:∀(X:Cx),X.prog=P->X.w=w->X.K=K->X.calm=true->∀(i:Nat) (pins:List (Addr×Obj)) (s:Shared) (σ:St) (H:Hp) (E:Value->Shared->Prop),Inv X pins σ H s->(∀b∈fp,kf X pins H b)->tn i s.heap->J.go i H ->
  wpAny (model P w) X.A (pyNext (.ref it)) (λr s1=>∃u,r=some u /\
   wpAny (model P w) X.A (letOwnedTupleGo tg (.ref it) u) (λ_ s2=>∃x H',Inv X pins σ H' s2/\aF x u/\J.yld i H x H'/\tn (i+1) s2.heap/\∀b∈fp,H' b=none) E s1) E s
 done:∀(X:Cx),X.prog=P->X.w=w->X.K=K->X.calm=true->∀(i:Nat) (pins:List (Addr×Obj)) (s:Shared) (σ:St) (H:Hp) (E:Value->Shared->Prop),Inv X pins σ H s->(∀b∈fp,kf X pins H b)->tn i s.heap->J.stop i H ->
  wpAny (model P w) X.A (pyNext (.ref it)) (λr s1=>r=none/\Inv X pins σ H s1) E s
 self:∀(A:Around) (i:Nat) (s:Shared) (Q:Value->Shared->Prop) (E:Value->Shared->Prop),tn i s.heap->Q (.ref it) s->wpAny (model P w) A (pyIter (.ref it)) Q E s
noncomputable abbrev TI:=St->Hp->(It->Hp->Prop)->Prop
def PIE(X:Cx)(pins:List (Addr×Obj))(σ:St)(tg:Expr)(R:It->Hp->Prop)(z:Value)(U:Shared):Prop:=
 ∃it fp Y J H',z=.ref it/\Inv X pins σ H' U/\sE X.prog X.w X.K tg J fp it Y/\Y 0 U.heap/\(∀b∈fp,kf X pins H' b)/\R J H'
def PI(X:Cx)(tg iter:Expr)(wi:TI):Prop:=
 ∀pins s (σ:St) H R,Inv X pins σ H s->wi σ H R ->
  wpAny (model X.prog X.w) X.A (eval iter X.env) (λv z=>wpAny (model X.prog X.w) X.A (pyIter v) (PIE X pins σ tg R) X.xe z) X.xe s
def xx{s:Shared}{tg:Expr}{it:Addr}{u:Value}{o:Obj}{n:String}{vs:Array Value}{Q:Unit->Shared->Prop}(ho:s.heap.get? it=some o)(hc:o.cls=.type n)(hd:o.data=.fields vs)
    (hn:["enumerate","zip","dict_itemiterator","dict_reverseitemiterator","odict_iterator","itertools.zip_longest","itertools.pairwise"].contains n=false) (hQ:Q () s):wpAny M A (letOwnedTupleGo tg (.ref it) u) Q E s:=by
  unfold letOwnedTupleGo;cases tg<;>first
    | exact g4 hQ
    | (cases u<;>first
        | exact g4 hQ
        | (refine ez (wpAny_load ho ?_)
           rw[hc,hd];show wpAny M A (if (["enumerate","zip","dict_itemiterator","dict_reverseitemiterator","odict_iterator","itertools.zip_longest","itertools.pairwise"].contains n&&vs[0]?==some (rawInt _))=true then _ else _) Q E s;rw[if_neg (by intro h;rw[hn,Lz]at h;cases h)];exact g4 hQ))
noncomputable def Itl(K:L8)(a:Addr):It:=
 ⟨λi H=>∃xs x,SqL K H a xs/\xs[i]?=some x,λi H x H'=>H'=H/\∀xs,SqL K H a xs->xs[i]?=some x,λi H=>∃xs,SqL K H a xs/\xs.length<=i⟩
noncomputable def Itt(K:L8)(a:Addr):It:=
 ⟨λi H=>∃xs x,SqT K H a xs/\xs[i]?=some x,λi H x H'=>H'=H/\∀xs,SqT K H a xs->xs[i]?=some x,λi H=>∃xs,SqT K H a xs/\xs.length<=i⟩
noncomputable def Itr(lo:Int)(n:Nat):It:=⟨λi _=>i<n,λi H x H'=>H'=H/\x=.int (lo+i),λi _=>n<=i⟩
def v4{K:L8}(a it):sE P w K tg (Itl K a) [it] it (λi h=>h.IsListIter it a i) where
 mem:=by simp
 obj:=λi h st b z=>by
  obtain⟨o,e,c,d⟩:=st
  simp_all
 keep:=λi h h' st k=>st.at λo e=>k it (by simp) o e
 item:=by
  intro X Z hw hK hc i pins s σ H E I U st hg;refine ax λZq kq=>?_
  subst Z hw hK;obtain⟨xs,x,Y,hx⟩:=hg;obtain⟨its,rv,p,hz⟩:=I.list Y;obtain⟨u,hu,ru⟩:=rv.get hx;obtain⟨f0,f1,f2,f3,f4,f5⟩:=U it (by simp);refine kq ?_;refine wpAny_pyNext_list_item st p.isList (by simpa using hu) λh' J sb=>?_
  have I1:=I.turned (t':=s.toks) (λb o z e=>(sb.2 b z).trans e) f0 f1 f3 f4 f5;obtain⟨o,e,c,d⟩:=id J;exact⟨u,rfl,xx e c d (by decide) ⟨x,H,I1,ru,⟨rfl,λys hy=>by rw[I.list_inj hy Y];exact hx⟩,J,λb z=>(U b z).1⟩⟩
 done:=by
  intro X Z hw hK hc i pins s σ H E I U st hg;refine ax λZq kq=>?_
  subst Z hw hK;obtain⟨xs,Y,hx⟩:=hg;obtain⟨its,rv,p,hz⟩:=I.list Y;obtain⟨f0,f1,f2,f3,f4,f5⟩:=U it (by simp);have hl:=rv.length;refine kq ?_;exact wpAny_pyNext_list_end (I.ok.hd hc) st p.isList (by simp;omega) λh' eb=>⟨rfl,I.turned (λb o z e=>eb b o z e) f0 f1 f3 f4 f5⟩
 self:=λ_ _ _ _ _ st h=>wpAny_pyIter_listiter st h
def sF{K:L8}(a it):sE P w K tg (Itt K a) [it] it (λi h=>h.IsTupleIter it a i) where
 mem:=by simp
 obj:=λi h st b z=>by
  obtain⟨o,e,c,d⟩:=st
  simp_all
 keep:=λi h h' st k=>st.at λo e=>k it (by simp) o e
 item:=by
  intro X Z hw hK hc i pins s σ H E I U st hg;refine ax λZq kq=>?_
  subst Z hw hK;obtain⟨xs,x,Y,hx⟩:=hg;obtain⟨its,rv,p,hz⟩:=I.tuple Y;obtain⟨u,hu,ru⟩:=rv.get hx;obtain⟨f0,f1,f2,f3,f4,f5⟩:=U it (by simp);refine kq ?_;refine wpAny_pyNext_tuple_item st (show s.heap.IsTuple a its.toArray from p) (by simpa using hu) λh' J sb=>?_
  have I1:=I.turned (t':=s.toks) (λb o z e=>(sb.2 b z).trans e) f0 f1 f3 f4 f5;obtain⟨o,e,c,d⟩:=id J;exact⟨u,rfl,xx e c d (by decide) ⟨x,H,I1,ru,⟨rfl,λys hy=>by rw[I.tuple_inj hy Y];exact hx⟩,J,λb z=>(U b z).1⟩⟩
 done:=by
  intro X Z hw hK hc i pins s σ H E I U st hg;refine ax λZq kq=>?_
  subst Z hw hK;obtain⟨xs,Y,hx⟩:=hg;obtain⟨its,rv,p,hz⟩:=I.tuple Y;obtain⟨f0,f1,f2,f3,f4,f5⟩:=U it (by simp);have hl:=rv.length;refine kq ?_;exact wpAny_pyNext_tuple_end (I.ok.hd hc) st (show s.heap.IsTuple a its.toArray from p) (by simp;omega) λh' eb=>⟨rfl,I.turned (λb o z e=>eb b o z e) f0 f1 f3 f4 f5⟩
 self:=λ_ _ _ _ _ st h=>wpAny_pyIter_tupleiter st h
def sH{K:L8}(it)(lo)(n):sE P w K tg (Itr lo n) [it] it (λi h=>IsRangeIter h it (lo+(i:Nat)*1) ((n:Int)-(i:Nat)) 1) where
 mem:=by simp
 obj:=λi h st b z=>by
  simp_all
 keep:=λi h h' st k=>k it (by simp) _ st
 item:=by
  intro X hP hw hK hc i pins s σ H E I U st Y;subst hP hw hK;obtain⟨Z,f1,f2,f3,f4,f5⟩:=U it (by simp);have W:=Walks.range (prog:=X.prog) (w:=X.w) (I.ok.hd hc) it lo 1 n;refine W.item i s _ _ Y st λv h' tk hv J kk=>?_
  obtain⟨t,rfl⟩:=hv;have I1:Inv X pins σ H { s with heap:=h',toks:=tk }:=I.turned (λb o z e=>kk b o (by simpa using z) e) Z f1 f3 f4 f5;refine⟨_,rfl,xx J rfl rfl (by decide) ⟨.int _,H,I1,⟨t,?_⟩,⟨rfl,rfl⟩,J,λb z=>(U b z).1⟩⟩;rw[Int.mul_one]
 done:=by
  intro X hP hw hK hc i pins s σ H E I U st Y;obtain⟨Z,f1,f2,f3,f4,f5⟩:=U it (by simp);exact wpAny_pyNext_range_end (I.ok.hd hc) st (by have:n<=i:=Y;omega) λh' eb=>⟨rfl,I.turned (λb o z e=>eb b o z e) Z f1 f3 f4 f5⟩
 self:=λ_ _ _ _ _ st h=>wpAny_pyIter_rangeiter st h
section
variable{X:Cx}{tg:Expr}
noncomputable def FM(K:L8)(tl:TE):TI:=λσ H R=>tl σ H λx H1=>∃a,x=.ref a/\(∃xs,SqL K H1 a xs)/\R (Itl K a) H1
noncomputable def HP(K:L8)(tl:TE):TI:=λσ H R=>tl σ H λx H1=>∃a,x=.ref a/\(∃xs,SqT K H1 a xs)/\R (Itt K a) H1
def uG(U:PE X l tl):PI X tg l (FM X.K tl):=by
 intro pins s σ H R I h;refine thn (U pins s σ H _ I h) λv J ⟨x,H1,z,Y,Z⟩=>?_
 obtain⟨a,e,⟨xs,hq⟩,q⟩:=Z;subst e;cases Y;obtain⟨its,rv,p,hz⟩:=z.list hq;refine Kt p.isList ?_;refine⟨J.heap.objs.size,[J.heap.objs.size],_,_,H1,rfl,z.kept λb o e=>mu _ e,v4 a _,⟨_,wh _ rfl,rfl,rfl⟩,λb hb=>?_,q⟩;have e:b=J.heap.objs.size:=by simpa using hb
 subst e;exact z.fpOk (pe _) (z.hok.fresh (pe _))
def xy(U:PE X l tl):PI X tg l (HP X.K tl):=by
 intro pins s σ H R I h;refine thn (U pins s σ H _ I h) λv z ⟨x,H1,J,Y,Z⟩=>?_
 obtain⟨a,e,⟨xs,hq⟩,q⟩:=Z;subst e;cases Y;obtain⟨its,rv,p,hz⟩:=J.tuple hq;refine KZ (show z.heap.IsTuple a its.toArray from p) ?_;refine⟨z.heap.objs.size,[z.heap.objs.size],_,_,H1,rfl,J.kept λb o e=>mu _ e,sF a _,⟨_,wh _ rfl,rfl,rfl⟩,λb hb=>?_,q⟩;have e:b=z.heap.objs.size:=by simpa using hb
 subst e;exact J.fpOk (pe _) (J.hok.fresh (pe _))
def qJ{σ:St}{H:Hp}{s:Shared}{R:It->Hp->Prop}{E:Value->Shared->Prop}{lo hi:Int}{t u v:Tok}{tk:Nat}(I:Inv X pins σ H s)(h1:-(2 ^ 62)<=lo)(h2:lo<2 ^ 62)(J:-(2 ^ 62)<=hi)(U:hi<2 ^ 62)
  (q:R (Itr lo (hi-lo).toNat) H):wpAny (model X.prog X.w) X.A (pyIter (.ref s.heap.objs.size)) (PIE X pins σ tg R) E { s with heap:=s.heap.push { cls:=.type "range",data:=.fields #[.int lo t,.int hi u,.int 1 v] },toks:=tk }:=by
 refine wpAny_pyIter_range (IsRange.new ..) (small_one h1 h2 J U) ?_;have z:Inv X pins σ H { s with heap:=s.heap.push { cls:=.type "range",data:=.fields #[.int lo t,.int hi u,.int 1 v] },toks:=tk }:=I.kept λb o e=>mu _ e
 refine⟨(s.heap.push { cls:=.type "range",data:=.fields #[.int lo t,.int hi u,.int 1 v] }).objs.size,[(s.heap.push { cls:=.type "range",data:=.fields #[.int lo t,.int hi u,.int 1 v] }).objs.size],_,_,H,rfl,
  z.kept (t':=tk) λb o e=>mu _ e,sH _ lo (hi-lo).toNat,?_,λb Y=>?_,q⟩
 .have Z:lo+((0:Nat):Int)*1=lo:=by simp
  have e2:(((hi-lo).toNat:Nat):Int)-((0:Nat):Int)=Builtin.Range.rangeSize lo hi 1:=by rw[rangeSize_one];split<;>omega
  show IsRangeIter _ _ (lo+((0:Nat):Int)*1) ((((hi-lo).toNat:Nat):Int)-((0:Nat):Int)) 1;rw[Z,e2];exact wh _ rfl
 .have e:b=(s.heap.push { cls:=.type "range",data:=.fields #[.int lo t,.int hi u,.int 1 v] }).objs.size:=by simpa using Y
  subst e;exact z.fpOk (pe _) (z.hok.fresh (pe _))
noncomputable def FN(ta:TA):TI:=λσ H R=>ta σ H λvs H1=>∃j,vs=[.int j]/\-(2 ^ 62)<=j/\j<2 ^ 62/\R (Itr 0 j.toNat) H1
noncomputable def FO(ta:TA):TI:=λσ H R=>ta σ H λvs H1=>∃i j,vs=[.int i,.int j]/\(-(2 ^ 62)<=i/\i<2 ^ 62/\-(2 ^ 62)<=j/\j<2 ^ 62)/\R (Itr i (j-i).toNat) H1
def oD (J:Gl X "range") (U:X.mg "range"=none) (Y:PA X [a] ta) (hs:starEach [a] X.env=[(false,eval a X.env)]:=by rfl):PI X tg (.Call (.Name "range" p) [a] [] pos) (FN ta):=by
 intro pins s σ H R I h;refine Call_ (ij I J U boot_range (Jt (thn (Y pos pins s σ H _ I h) λus s1 ⟨vs,H1,Z,r1,z⟩=>?_) hs rfl));obtain⟨j,e,z,q2,q⟩:=z;subst e;cases r1 with
 |cons r rr =>
  cases rr;obtain⟨t,rfl⟩:=r;exact call_range_1 (qJ Z (by omega) (by omega) z q2 (by simpa using q))
def v5 (Y:Gl X "range") (Z:X.mg "range"=none) (ha:PA X [a,b] ta) (hs:starEach [a,b] X.env=[(false,eval a X.env),(false,eval b X.env)]:=by rfl) (z:starEach [b] X.env=[(false,eval b X.env)]:=by rfl) :
  PI X tg (.Call (.Name "range" p) [a,b] [] pos) (FO ta):=by
 intro pins s σ H R I h;refine Call_ (ij I Y Z boot_range (Jt (thn (ha pos pins s σ H _ I h) λus s1 ⟨vs,H1,I1,r1,J⟩=>?_) (by rw[hs,z]) (by rw[z];rfl)));obtain⟨i,j,e,⟨J,q2,q3,q4⟩,q⟩:=J;subst e;cases r1 with
 |cons r U =>
  cases U with
  |cons r' U =>
   cases U;obtain⟨t,rfl⟩:=r;obtain⟨t',rfl⟩:=r';exact call_range_2 (qJ I1 J q2 q3 q4 q)
noncomputable def CU(wi:TI)(g:TG)(tb:TS):TS:=λD σ H=>wi σ H λJ H1=>∃W:Nat->Nat->St->Hp->Prop,(∃m,W 0 m σ H1)/\∀i m σ H,W i m σ H ->
 (J.stop i H/\D.nx σ H)\/(J.go i H/\∃N,(∀F H',N F H'->∃U,U<m/\W (i+1) U F H')/\∀x H',J.yld i H x H'->g x σ H' λz H2=>tb { D with nx:=N,ct:=N,bk:=D.nx } z H2)
noncomputable def l8(fp:List Addr)(h:Heap):List (Addr×Obj):=fp.filterMap λb=>(h.get? b).map λo=>(b,o)
def gH(z:b∈fp)(e:h.get? b=some o):(b,o)∈l8 fp h:=mem_filterMap.mpr ⟨b,z,by rw[e];rfl⟩
def v6(z:p∈l8 fp h):p.1∈fp/\h.get? p.1=some p.2:=by
 obtain⟨b,J,e⟩:=mem_filterMap.mp z;cases q:h.get? b with
 |none=>rw[q]at e;cases e
 |some o =>
  rw[q]at e;have U:=II e;subst U;exact⟨J,q⟩
def Inv.pinned(I:Inv X pins σ H s)(U:∀b∈fp,kf X pins H b)(ho:∀b∈fp,∃o,s.heap.get? b=some o/\∀v,o.data≠.cell v):Inv X (pins++l8 fp s.heap) σ H s:=
 I.pins_of λp Y=>(JR.mp Y).elim (λz=>I.pin p (Jn _ z)) λz=>by
  obtain⟨J,e⟩:=v6 z;obtain⟨Z,f1,f2,_⟩:=U p.1 J;obtain⟨o,e',d⟩:=ho p.1 J
  simp_all
def Inv.unpinned(I:Inv X (pins++J) σ H s):Inv X pins σ H s:=I.pins_of λp z=>I.pin p (Jn _ (Jy _ z))
def sI{iter:Expr}(hp:PassesOwn (model X.prog X.w) X.A X.env X.xe)(hc:X.calm=true)(hi:PI X tg iter wi)(hg:PG X tg g)(U:PSs X body tb)(hs:∀x,foldedSetIterable iter X.env x=pure x:=by intro _;rfl):PS X (.For tg iter body [] pos) (CU wi g tb):=by
 intro pins s σ H D I h;refine wpAny_For (thn (hi pins s σ H _ I h) λv s1 h1=>thn h1 λcr s2 h2=>?_) hs;refine ax λZq kq=>?_
 obtain⟨it,fp,tn,J,H2,e,I2,T,a5,f2,W,⟨m0,w0⟩,turn⟩:=h2;subst e;have Y:∀{H'},(∀b∈fp,H' b=none)->∀b∈fp,kf X pins H' b:=λhn b U=>⟨hn b U,(f2 b U).2⟩
 refine kq ?_;refine codeAny_forLoop_any (λn s'=>∃i F H',Inv X pins F H' s'/\tn i s'.heap/\(∀b∈fp,H' b=none)/\W i n F H') ?_ m0 ⟨0,σ,H2,I2,a5,λb U=>(f2 b U).1,w0⟩;rintro n s3 ⟨i,Z,H3,I3,a2,a3,w3⟩;rcases turn i n Z H3 w3 with⟨stop,qn⟩|⟨go,N,hN,step⟩
 .refine KS hp (thn (T.done X rfl rfl rfl hc i pins s3 Z H3 X.xe I3 (Y a3) a2 stop) λr s4 ⟨hr,I4⟩=>?_);subst hr;exact wpAny_execs_nil ⟨Z,H3,I4,qn⟩
 .refine KS hp (thn (T.item X rfl rfl rfl hc i pins s3 Z H3 X.xe I3 (Y a3) a2 go) λr s4 ⟨u,hr,h4⟩=>?_);subst hr;refine KS hp (thn h4 λ_ s5 ⟨x,H5,I5,r5,y5,aO,a7⟩=>?_);have a8:=I5.pinned (Y a7) (T.obj _ _ aO);refine KS hp (thn (hg _ s5 Z H5 x u _ a8 r5 (step x H5 y5)) λ_ s6 ⟨a9,H6,I6,q6⟩=>?_);refine KS hp (thn (U _ s6 a9 H6 _ I6 q6) λf s7 q7=>?_);have again:∀{z}{H7},Inv X (pins++l8 fp s5.heap) z H7 s7->N z H7->∃m,m<n/\∃i F H',Inv X pins F H' s7/\tn i s7.heap/\(∀b∈fp,H' b=none)/\W i m F H':=λ{z H7} I7 n7=>by
   obtain⟨m',hm,w7⟩:=hN z H7 n7;refine⟨m',hm,i+1,z,H7,I7.unpinned,T.keep _ _ _ aO λb U o e=>(I7.pin (b,o) (Jn _ (Jn _ (gH U e)))).1,λb U=>?_,w7⟩;obtain⟨o,e,d⟩:=T.obj _ _ aO b U;exact(I7.pin (b,o) (Jn _ (Jn _ (gH U e)))).2.1
  cases f<;>first|(obtain⟨z,H7,I7,n7⟩:=q7;exact again I7 n7)|(obtain⟨z,H7,I7,q7⟩:=q7;exact⟨z,H7,I7.unpinned,q7⟩)|(obtain⟨x7,z,H7,I7,r7,q7⟩:=q7;exact⟨x7,z,H7,I7.unpinned,r7,q7⟩)
end
noncomputable abbrev R2:=V->V->Hp->VK->Prop
def OpR(X:Cx)(f:Value->Value->Sem Value)(r:R2):Prop:=
 ∀pins s (σ:St) H x y v u Q,Inv X pins σ H s->aF x v->aF y u->r x y H Q ->
  wpAny (model X.prog X.w) X.A (f v u) (EP X pins σ Q) X.xe s
def b_(X:Cx)(f:Value)(r:List V->Hp->VK->Prop):Prop:=
 ∀pins s (σ:St) H xs us Q,Inv X pins σ H s->aI xs us->r xs H Q ->
  wpAny (model X.prog X.w) X.A (call f us) (EP X pins σ Q) X.xe s
noncomputable def tOp(r:R2)(ta tb:TE):TE:=λσ H Q=>ta σ H λx H1=>tb σ H1 λy H2=>r x y H2 Q
noncomputable def rI(C:Int->Int->Prop)(g:Int->Int->V):R2:=λx y H Q=>∃i j,x=.int i/\y=.int j/\C i j/\Q (g i j) H
noncomputable def rI0(g:Int->Int->V):R2:=λx y H Q=>∃i j,x=.int i/\y=.int j/\Q (g i j) H
section
variable{X:Cx}{a b c:Expr}{ta tb tc:TE}{pos:Pos}
def CV(Y:PE X a ta)(Z:PE X b tb){R:V->V->Hp->Prop}(I:Inv X pins σ H s)
  (h:ta σ H λx H1=>tb σ H1 λy H2=>R x y H2) {f:Value->Value->Sem Value}
  (hf:∀v u U x y H2,Inv X pins σ H2 U->aF x v->aF y u->R x y H2->wpAny (model X.prog X.w) X.A (f v u) Q X.xe U) :
  wpAny (model X.prog X.w) X.A (eval a X.env) (λv z=>wpAny (model X.prog X.w) X.A (eval b X.env) (λu J=>wpAny (model X.prog X.w) X.A (f v u) Q X.xe J) X.xe z) X.xe s:=by
 refine thn (Y pins s σ H _ I h) λv s1 ⟨x,H1,I1,r1,q1⟩=>?_
 refine thn (Z pins s1 σ H1 _ I1 q1) λu U ⟨y,H2,I2,r2,q2⟩=>?_
 exact hf v u U x y H2 I2 r1 r2 q2
def uH(ho:OpR X (binaryOp op) r)(z:PE X a ta)(J:PE X b tb):PE X (.BinOp a op b pos) (tOp r ta tb):=by
 intro pins s σ H Q I h;exact wpAny_BinOp (CV z J I h λv u U x y H2 Y Z ry q=>ho pins U σ H2 x y v u Q Y Z ry q)
def opI{C:Int->Int->Prop}{g:Int->Int->Int}
  (rule:∀i j t u s Q E,C i j->Q (.int (g i j) s.toks) { s with toks:=s.toks+1 }->wpAny (model X.prog X.w) X.A (f (.int i t) (.int j u)) Q E s) :
  OpR X f (rI C λi j=>.int (g i j)):=by
 intro pins s σ H x y v u Q I z J h;obtain⟨i,j,rfl,rfl,hc,q⟩:=h;obtain⟨t,rfl⟩:=z;obtain⟨t',rfl⟩:=J;exact rule i j t t' s _ _ hc ⟨.int (g i j),H,I.tok _,⟨_,rfl⟩,q⟩
def FP{g:Int->Int->Int}
  (rule:∀i j t u s Q E,Q (.int (g i j) s.toks) { s with toks:=s.toks+1 }->wpAny (model X.prog X.w) X.A (f (.int i t) (.int j u)) Q E s) :
  OpR X f (rI0 λi j=>.int (g i j)):=by
 intro pins s σ H x y v u Q I z J h;obtain⟨i,j,rfl,rfl,q⟩:=h;obtain⟨t,rfl⟩:=z;obtain⟨t',rfl⟩:=J;exact rule i j t t' s _ _ ⟨.int _,H,I.tok _,⟨_,rfl⟩,q⟩
def Av{g:Int->Int->Bool}
  (rule:∀i j t u s Q E,Q (.bool (g i j)) s->wpAny (model X.prog X.w) X.A (f (.int i t) (.int j u)) Q E s) :
  OpR X f (rI0 λi j=>.bl (g i j)):=by
 intro pins s σ H x y v u Q I z J h;obtain⟨i,j,rfl,rfl,q⟩:=h;obtain⟨t,rfl⟩:=z;obtain⟨t',rfl⟩:=J;exact rule i j t t' s _ _ ⟨.bl _,H,I,rfl,q⟩
def HR(i j:Int):Prop:=0<j/\j<1073741824
def HS(i j:Int):Prop:=0<=j/\j<=1000000/\i.natAbs<2 ^ 64
def CW(i j:Int):Prop:=(-(2 ^ 64)<i/\i<2 ^ 64)\/(-(2 ^ 64)<j/\j<2 ^ 64)
theorem CW.ok(h:CW i j):IntMulOk i j:=by
 rcases h with⟨h1,h2⟩|⟨h1,h2⟩
 .exact .of_left (intBits_le_64 h1 h2)
 .exact .of_right (intBits_le_64 h1 h2)
def sJ(k):(0:Int)<=2 ^ k:=
  Int.natCast_nonneg _
def CY:OpR X (binaryOp .Add) (rI0 λi j=>.int (i+j)):=FP λ_ _ _ _ _ _ _ q=>add_int q
def CZ:OpR X (binaryOp .Sub) (rI0 λi j=>.int (i-j)):=FP λ_ _ _ _ _ _ _ q=>sub_int q
def C0:OpR X (binaryOp .Mult) (rI CW λi j=>.int (i*j)):=opI λ_ _ _ _ _ _ _ hc q=>mul_int q hc.ok
def Aw:OpR X (binaryOp .FloorDiv) (rI HR λi j=>.int (i / j)):=opI λi j _ _ _ _ _ hc q=>by
 have h1:=hc.1;have h2:=hc.2;exact floordiv_int (by omega) (by rw[LI i (by omega)];exact q) (.inl (PyProof.noPylong_small (by omega)))
def C1:OpR X (binaryOp .Mod) (rI (λ_ j=>0<j) λi j=>.int (i % j)):=opI λi j _ _ _ _ _ hc q=>by
 exact mod_int' (by omega) (by rw[Int.fmod_eq_emod_of_nonneg i (by omega)];exact q)
def C2:OpR X (binaryOp .Pow) (rI HS λi j=>.int (i ^ j.toNat)):=opI λ_ _ _ _ _ _ _ hc q=>pow_int_small hc.1 hc.2.1 hc.2.2 q
def C3:OpR X (binaryOp .RShift) (rI (λ_ j=>0<=j) λi j=>.int (i / 2 ^ j.toNat)):=opI λi j _ _ _ _ _ hc q =>
 rshift_int hc (by rw[LI i (sJ _)];exact q)
end
noncomputable def scal:V->V->Bool
 | .non,.non=>true|.non,.int _=>true|.int _,.non=>true|.non,.bl _=>true|.bl _,.non=>true|.non,.str _=>true|.str _,.non=>true
 | .int _,.int _=>true|.bl _,.bl _=>true|.str _,.str _=>true|.byt _,.byt _=>true
 | .int _,.str _=>true|.str _,.int _=>true|.bl _,.str _=>true|.str _,.bl _=>true
 | _,_=>false
noncomputable def rNe:R2:=λx y H Q=>scal x y=true/\Q (.bl (!decide (x=y))) H
def uI :decide (V.int i=V.int j)=(i==j):=by
 rw[IT];simp
def xz :decide (V.bl i=V.bl j)=(i==j):=by
 rw[IT];simp
def uJ :decide (V.str i=V.str j)=(i==j):=by
 rw[IT];simp
def Ax :decide (V.byt i=V.byt j)=(i.toList==j.toList):=by
 rw[IT];cases i;cases j;simp
section
variable{X:Cx}{a b c:Expr}{ta tb tc:TE}{pos:Pos}
def cn{σ:St}{H:Hp}{s:Shared}{Q:VK}{k z:Bool}(I:Inv X pins σ H s)(q:Q (.bl k) H)(e:k=z):EP X pins σ Q (.bool z) s:=by
 subst e;exact⟨.bl k,H,I,rfl,q⟩
def FQ:OpR X (compareOp .NotEq) rNe:=by
 intro pins s σ H x y v u Q I J z h;obtain⟨hs,q⟩:=h;cases x with
 |non =>
  cases J;cases y with
  |non=>cases z;exact PySem.EqNone.ne_none_none (cn I q (by simp))
  |bl j=>cases z;exact PySem.EqNone.ne_none_bool (cn I q (by simp))
  |int j=>obtain⟨t',rfl⟩:=z;exact PySem.EqNone.ne_none_int (cn I q (by simp))
  |str j=>obtain⟨t',rfl⟩:=z;exact PySem.EqNone.ne_none_str (cn I q (by simp))
  | _=>exact absurd (show false=true from hs) pd
 |bl i =>
  cases J;cases y with
  |non=>cases z;exact PySem.EqNone.ne_bool_none (cn I q (by simp))
  |bl j=>cases z;exact ne_bool (cn I q (IW not xz))
  |str j=>obtain⟨t',rfl⟩:=z;exact PySem.EqMixed.ne_bool_str (cn I q (by simp))
  | _=>exact absurd (show false=true from hs) pd
 |int i =>
  obtain⟨t,rfl⟩:=J;cases y with
  |non=>cases z;exact PySem.EqNone.ne_int_none (cn I q (by simp))
  |int j=>obtain⟨t',rfl⟩:=z;exact ne_int (cn I q (IW not uI))
  |str j=>obtain⟨t',rfl⟩:=z;exact PySem.EqMixed.ne_int_str (cn I q (by simp))
  | _=>exact absurd (show false=true from hs) pd
 |str i =>
  obtain⟨t,rfl⟩:=J;cases y with
  |non=>cases z;exact PySem.EqNone.ne_str_none (cn I q (by simp))
  |bl j=>cases z;exact PySem.EqMixed.ne_str_bool (cn I q (by simp))
  |int j=>obtain⟨t',rfl⟩:=z;exact PySem.EqMixed.ne_str_int (cn I q (by simp))
  |str j=>obtain⟨t',rfl⟩:=z;exact ne_str (cn I q (IW not uJ))
  | _=>exact absurd (show false=true from hs) pd
 |byt i =>
  obtain⟨t,rfl⟩:=J;cases y with
  |byt j=>obtain⟨t',rfl⟩:=z;exact PySem.W.ne_bytes (cn I q (IW not Ax))
  | _=>exact absurd (show false=true from hs) pd
 | _=>cases y<;>exact absurd (show false=true from hs) pd
def FR:OpR X (compareOp .Lt) (rI0 λi j=>.bl (decide (i<j))):=Av λ_ _ _ _ _ _ _ q=>lt_int q
def FS:OpR X (compareOp .LtE) (rI0 λi j=>.bl (decide (i<=j))):=Av λ_ _ _ _ _ _ _ q=>le_int q
def FT:OpR X (compareOp .Gt) (rI0 λi j=>.bl (decide (j<i))):=Av λ_ _ _ _ _ _ _ q=>gt_int q
def FU:OpR X (compareOp .GtE) (rI0 λi j=>.bl (decide (j<=i))):=Av λ_ _ _ _ _ _ _ q=>ge_int q
def C4:OpR X (compareOp .Is) (λx y H Q=>y=.non/\Q (.bl (decide (x=.non))) H):=by
 intro pins s σ H x y v u Q I z J h;obtain⟨rfl,q⟩:=h;cases J;refine is_none_gen (cn I q ?_);cases x<;>first
  | (cases z;rfl)
  | (obtain⟨t,rfl⟩:=z;rfl)
def Ay:OpR X (compareOp .IsNot) (λx y H Q=>y=.non/\Q (.bl (!decide (x=.non))) H):=by
 intro pins s σ H x y v u Q I z J h;obtain⟨rfl,q⟩:=h;cases J;refine isnot_none_gen (cn I q ?_);cases x<;>first
  | (cases z;rfl)
  | (obtain⟨t,rfl⟩:=z;rfl)
def Az(ho:OpR X (compareOp op) r)(z:PE X a ta)(J:PE X b tb)(U:behindInMarks op b=false):PE X (.Compare a [op] [b] pos) (tOp r ta tb):=by
 intro pins s σ H Q I h;exact wpAny_Compare1 (CV z J I h λv u Y x y H2 Z rx ry q=>ho pins Y σ H2 x y v u Q Z rx ry q) U
noncomputable def FV(t:TE):TT:=λσ H Q=>t σ H λx H'=>∃k,x=.bl k/\Q k H'
def AA(ho:OpR X (compareOp op) r)(J:PE X a ta)(U:PE X b tb)(Y:behindInMarks op b=false):PT X (.Compare a [op] [b] pos) (FV (tOp r ta tb)):=by
 intro pins s σ H Q I h;refine wpAny_isTrue_Compare1 (thn (J pins s σ H _ I h) λv Z ⟨x,H1,I1,r1,q1⟩=>thn (U pins Z σ H1 _ I1 q1) λu s2 ⟨y,H2,I2,r2,q2⟩ =>
  thn (ho pins s2 σ H2 x y v u _ I2 r1 r2 q2) λc s3 ⟨z,H3,I3,r3,k,e,q3⟩=>?_) Y
 subst e;cases r3;exact JE ⟨H3,I3,q3⟩
def kg:(sizeLine:Nat)<2 ^ 63:=by simp_all [Jo]
def sK:OpR X (binaryOp .Add) (λx y H Q=>∃i j,x=.str i/\y=.str j/\i.length+j.length<=sizeLine/\Q (.str (i++j)) H):=by
 intro pins s σ H x y v u Q I z J h;obtain⟨i,j,rfl,rfl,hz,q⟩:=h;obtain⟨t,rfl⟩:=z;obtain⟨t',rfl⟩:=J;exact add_str (λt' tk=>⟨.str _,H,I.tok _,⟨_,rfl⟩,q⟩) hz
def eC(r:aI [x] us):∃u,us=[u]/\aF x u:=by
 cases r with
 |cons z J=>cases J;exact⟨_,rfl,z⟩
def FW(r:aI [x,y] us):∃u z,us=[u,z]/\aF x u/\aF y z:=by
 cases r with
 |cons J U =>
  cases U with
  |cons Y Z=>cases Z;exact⟨_,_,rfl,J,Y⟩
def oE:b_ X (.type "int") (λxs H Q=>(∃i,xs=[.int i]/\Q (.int i) H)\/∃k,xs=[.bl k]/\Q (.int (if k then 1 else 0)) H):=by
 intro pins s σ H xs us Q I r h;rcases h with⟨i,rfl,q⟩|⟨k,rfl,q⟩
 .obtain⟨u,rfl,t,rfl⟩:=eC r;exact call_int_int ⟨.int i,H,I,⟨_,rfl⟩,q⟩
 .obtain⟨u,rfl,z⟩:=eC r;cases z;exact call_int_bool ⟨.int _,H,I.tok _,⟨_,rfl⟩,q⟩
end
section
variable{prog:Program}{w:World}{A:Around}{E:Value->Shared->Prop}{s:Shared}{K:L8}{x dx C f:Addr}{mA:Str->Option Value}{name:Str}{v:Value}
end
def lF.some_of(r:lF (some v) o):∃u,o=some u/\aF v u:=by
 cases o with
 |none=>exact(show False from r).elim
 |some u=>exact⟨u,rfl,r⟩
section
variable{P:Program}{w:World}{H H':Hp}{h h':Heap}{a C dx:Addr}{fs fs':List (Str×V)}
end
section
variable{X:Cx}{pins:List (Addr×Obj)}{σ:St}{H:Hp}{s:Shared}{a C dx:Addr}{fs:List (Str×V)}{f:Str}{v:V}{A:Around}{E:Value->Shared->Prop}
end
section
variable{X:Cx}{o e value:Expr}{f:Str}{pos pos' tpos:Pos}{ta tv:TE}
end
section
variable{X:Cx}{pins:List (Addr×Obj)}{σ:St}{H:Hp}{s:Shared}{A:Around}{E:Value->Shared->Prop}{Q:Value->Shared->Prop}{c:Value}{b:Bool}
end
structure kh(k:Nat)(A:Around):Prop where
 hd:A.handled=none
 dp:A.depth+3*k+5<recursionLimit
 un:A.units+16*k+200<cLine
theorem kh.deeper(r:kh (k+1) A)(env):kh k (A.deeper env):=
 ⟨r.hd,by have:=r.dp;show A.depth+1+3*k+5<_;omega,by have:=r.un;show A.units+3+16*k+200<_;omega⟩
theorem kh.depth(r:kh k A):A.depth<recursionLimit:=by have:=r.dp;omega
noncomputable def FX:TA:=λ_ H Q=>Q [] H
noncomputable def FY(ta:TE)(z:TA):TA:=λσ H Q=>ta σ H λx H1=>z σ H1 λxs H2=>Q (x::xs) H2
section
variable{X:Cx}{e:Expr}{es:List Expr}{te:TE}{t:TA}{pos:Pos}
def bJ:PA X [] FX:=λ_ _ _ _ H Q I h=>LM ⟨[],H,I,.nil,h⟩
def aM(z:PE X e te)(J:PA X es t)(hs:starEach (e::es) X.env=(false,eval e X.env)::starEach es X.env:=by rfl):PA X (e::es) (FY te t):=by
 intro pos pins s σ H Q I h;rw[hs];show wpAny _ _ (spliced ((false,eval e X.env)::backTo pos _)) _ _ s;refine K0 (thn (z pins s σ H _ I h) λu U ⟨x,H1,Y,Z,q1⟩=>?_);exact thn (J pos pins U σ H1 _ Y q1) λus s2 ⟨xs,H2,I2,r2,q2⟩=>⟨x::xs,H2,I2,.cons Z r2,q2⟩
noncomputable def HU(t:TA):TE:=λσ H Q=>t σ H λxs H1=>xs.length<=sizeLine/\∀p,H1 p=none->Q (.ref p) (upd H1 p (.tup xs))
noncomputable def HV(t:TA):TE:=λσ H Q=>t σ H λxs H1=>xs.length<=sizeLine/\∀p,H1 p=none->Q (.ref p) (upd H1 p (.lst xs))
def sL{Y}(h:PA X es t):PE X (.Tuple es Y pos) (HU t):=by
 intro pins s σ H Q I Z;refine wpAny_Tuple_spliced (thn (h pos pins s σ H _ I Z) λus J ⟨xs,H1,U,r,z,q⟩=>⟨by rw[<- r.length];exact z,?_⟩);have hf:=U.hok.fresh (pe _);refine⟨.ref J.heap.objs.size,upd H1 J.heap.objs.size _,U.laid (λb u e=>mu _ e) (pe _) ?_,rfl,q _ hf⟩;exact⟨z,us,r,⟨_,wh _ rfl,rfl,_,rfl⟩⟩
def xA(h:PA X es t):PE X (.List es pos) (HV t):=by
 intro pins s σ H Q I Y;refine wpAny_List_spliced (thn (h pos pins s σ H _ I Y) λus J ⟨xs,H1,U,r,z,q⟩=>⟨by rw[<- r.length];exact z,?_⟩);have Z:=U.hok.fresh (pe _);refine⟨.ref J.heap.objs.size,upd H1 J.heap.objs.size _,U.laid (λb u e=>mu _ e) (pe _) ?_,rfl,q _ Z⟩;exact⟨z,us,0,r,wh _ rfl⟩
end
noncomputable abbrev Sp:=List V->Hp->VK->XK->Prop
noncomputable abbrev CXT:=List Env->Hp->Shared->XK->Value->Shared->Prop
structure AB(P:Program)(w:World)(K:L8)(mg:Str->Option Value)(base:Heap)(A:Around)(outer:List Env)(s:Shared)(H:Hp):Prop where
 frames:A.frames=some outer
 mod:Mod K mg base
 bs:∀b o,base.get? b=some o->s.heap.get? b=some o/\H b=none
 bsz:base.objs.size<=s.heap.objs.size
 funs:s.heap.FunFrames base outer
 frf:∀b∈frs outer,H b=none
 hok:HOk P w H s.heap
 bare:AllBare s.gens
def CE(outer:List Env)(P:Program)(w:World)(H:Hp)(s:Shared)(Q:VK)(u:Value)(s':Shared):Prop:=
 ∃v H',s'.os=s.os/\AllBare s'.gens/\Un (frs outer) [] H H' s.heap s'.heap/\HOk P w H' s'.heap/\aF v u/\Q v H'
def CR(CX:CXT)(outer:List Env)(P:Program)(w:World)(H:Hp)(s:Shared)(Q:VK)(E:XK)(r:Result)(s':Shared):Prop:=
 match r with
 | .ok (.ret u)=>CE outer P w H s Q u s'
 | .ok _=>False
 | .error e=>CX outer H s E e s'
structure jd(P:Program)(w:World)(K:L8)(mg:Str->Option Value)(base:Heap)(CX:CXT)(k:Nat)(f:Addr)(fd:FuncData)(ps:List Str)(sp:Sp):Prop where
 len:∀vs H Q E,sp vs H Q E->vs.length=ps.length
 run:∀(A:Around) (outer:List Env) (s:Shared) (H:Hp) (args:Args) (us:List Value) (vs:List V) (Q:VK) (E:XK),kh k A->AB P w K mg base A outer s H->BindsTo s fd args (ps.zip us)->aI vs us->sp vs H Q E ->
  codeAny (model P w) A (.call (.ref f) args) (CR CX outer P w H s Q E) s
section
variable{X:Cx}{pins:List (Addr×Obj)}{σ:St}{H:Hp}{s s':Shared}
theorem Inv.env0(I:Inv X pins σ H s):AB X.prog X.w X.K X.mg X.base X.A X.stack s H:=
 ⟨I.ok.frames,I.ok.mod,I.bs,IH I.ok.bsz I.sz,I.stack,I.stkFree,I.hok,I.bare⟩
def Inv.after(I:Inv X pins σ H s)(h:CE X.stack X.prog X.w H s Q u s'):EP X pins σ Q u s':=by
 obtain⟨v,H',os,bare,un,hok,r,q⟩:=h;obtain⟨U,g,d,t,J⟩:=s';obtain rfl:J=s.os:=os;exact⟨v,H',I.call un hok bare (λb z=>absurd z (by simp)),r,q⟩
end
noncomputable def xB(sp:Sp)(dvs:List V)(E:XK)(t:TA):TE:=λσ H Q=>t σ H λvs H1=>sp (vs++dvs) H1 Q E
def db(K:L8)(fd:FuncData)(ps:List Str)(ds:List Value):Prop:=
 ∀s us,K.In s.heap->(us++ds).length=ps.length->BindsTo s fd ⟨us,[]⟩ (ps.zip (us++ds))
theorem db.all{K:L8}(h:∀us,us.length=ps.length->bindArgs fd ⟨us,[]⟩=pure (ps.zip us)):db K fd ps []:=λs us _ z=>by
 rw[JD]at z ⊢;exact .of_eq (h us z)
def pF(CX:CXT)(X:Cx)(E:XK):Prop:=∀pins (σ:St) H s e s',Inv X pins σ H s->CX X.stack H s E e s'->X.xe e s'
section
variable{X:Cx}{CX:CXT}{k:Nat}{f C:Addr}{fd:FuncData}{ps:List Str}{sp:Sp}{dvs:List V}{ds:List Value}{E:XK}{x m:Str}{p pos apos:Pos}{e o:Expr}{es:List Expr}{ta:TE}{t:TA}
def xC(F:jd X.prog X.w X.K X.mg X.base CX k f fd ps sp)(U:kh k X.A)(Y:db X.K fd ps ds)(hd:aI dvs ds)(hx:pF CX X E)
  (I:Inv X pins σ H s) (r:aI vs us) (h:sp (vs++dvs) H Q E):wpAny (model X.prog X.w) X.A (call (.ref f) us) (EP X pins σ Q) X.xe s:=by
 have J:=r.append hd;have Z:(us++ds).length=ps.length:=by rw[<- J.length];exact F.len _ _ _ _ h
 refine wpAny_call (Ky (F.run X.A X.stack s H ⟨us,[]⟩ (us++ds) (vs++dvs) Q E U I.env0 (Y s us I.kIn Z) J h) λr s' z=>?_);cases r with
 |error e=>exact hx pins σ H s e s' I z
 |ok fl =>
  cases fl with
  |ret u=>exact I.after z
  |next=>exact False.elim z
  |brk=>exact False.elim z
  |cont=>exact False.elim z
def lO(F:jd X.prog X.w X.K X.mg X.base CX k f fd ps sp)(Y:kh k X.A)(Z:Gl X x)(hm:X.mg x=some (.ref f))(hk:PySem.W.keepIn X.K (.ref f)=true)(hb:db X.K fd ps ds)(hd:aI dvs ds)(hx:pF CX X E)
  (ha:PA X (e::es) t) (z:(x==("__debug__":Str))=false:=by decide) (he:starEach (e::es) X.env=(false,eval e X.env)::starEach es X.env:=by rfl) (J:(backTo pos (starEach es X.env)).any (·.1)=false:=by rfl) :
  PE X (.Call (.Name x p) (e::es) [] pos) (xB sp dvs E t):=by
 intro pins s σ H Q I h;refine JT (pD I Z hm ?_ z);refine PySem.W.callWith_K I.ok.mod.kin hk (thn (ha pos pins s σ H _ I h) λus s1 ⟨vs,H1,U,r,q⟩=>⟨U.kIn,?_⟩) he J;exact xC F Y hb hd hx U r q
def xD(F:jd X.prog X.w X.K X.mg X.base CX k f fd ps sp)(J:kh k X.A)(U:Gl X x)(Y:X.mg x=some (.ref f))(Z:PySem.W.keepIn X.K (.ref f)=true)(hb:db X.K fd ps ds)(hd:aI dvs ds)(hx:pF CX X E)
  (z:(x==("__debug__":Str))=false:=by decide):PE X (.Call (.Name x p) [] [] pos) (xB sp dvs E FX):=by
 intro pins s σ H Q I h;refine JT (pD I U Y ?_ z);exact PySem.W.callWith_K0 I.kIn Z (xC (us:=[]) F J hb hd hx I .nil h)
end
section
variable{X:Cx}{CX:CXT}{k:Nat}{f C:Addr}{fd:FuncData}{ps ks:List Str}{sp:Sp}{E:XK}{x m:Str}{p pos apos kpos:Pos}{e o:Expr}{es:List Expr}{kws:List Keyword}{te ta:TE}{t tk:TA}{nm:Option Str}
variable{g:List Value->List Value->List Value}{gV:List V->List V->List V}
end
structure pH(N P:List Str)(sc:Scope):Prop where
 kind:sc.kind=.function
 co:sc.isCoroutine=false
 gen:sc.isGenerator=false
 nd:N.Nodup
 pre:N.take P.length=P
 par:∀x∈P,sc.names.lookup x=some .local\/sc.names.lookup x=some .cell
 nofree:∀y∈sc.names,y.2≠.free
theorem oF{kindOf:Str->Option NameKind} :∀{binds}{m},(∀v,(x,v)∉binds)->bindL kindOf binds m x=m x
 | [],_,_=>rfl
 | (n,v)::r,m,h=>by
  unfold bindL;rw[oF λw hw=>h w (Js _ hw)];split
  .have:x≠n:=by rintro rfl;exact h v JC
   simp[this]
  .rfl
theorem oG{kindOf:Str->Option NameKind} :∀{binds}{m},(∀v,(x,v)∉binds)->bindC kindOf binds m x=m x
 | [],_,_=>rfl
 | (n,v)::r,m,h=>by
  unfold bindC;rw[oG λw hw=>h w (Js _ hw)];split
  .rfl
  .have:x≠n:=by rintro rfl;exact h v JC
   simp[this]
theorem oH{kindOf:Str->Option NameKind}{x:Str}{v:Value}:∀{P:List Str}{vs}{i:Nat}{m},P.Nodup->P[i]?=some x->vs[i]?=some v->kindOf x=some .local ->
  bindL kindOf (P.zip vs) m x=some v
 | [],_,_,_,_,h,_,_=>by simp at h
 | _::_,[],_,_,_,_,h,_=>by simp at h
 |p::P,w::vs,0,m,nd,h1,h2,z=>by
  simp at h1 h2;subst h1;subst h2
  show bindL kindOf ((p,w)::P.zip vs) m p=_;unfold bindL;rw[oF λv hv=>(Jl.mp nd).1 (of_mem_zip hv).1,if_pos z];simp
 |p::P,w::vs,i+1,m,nd,h1,h2,z=>by
  show bindL kindOf ((p,w)::P.zip vs) m x=_;exact oH (i:=i) (Jl.mp nd).2 (by simpa using h1) (by simpa using h2) z
theorem oI{kindOf:Str->Option NameKind}{x:Str}{v:Value}:∀{P:List Str}{vs}{i:Nat}{m},P.Nodup->P[i]?=some x->vs[i]?=some v->kindOf x≠some .local ->
  bindC kindOf (P.zip vs) m x=some v
 | [],_,_,_,_,h,_,_=>by simp at h
 | _::_,[],_,_,_,_,h,_=>by simp at h
 |p::P,w::vs,0,m,nd,h1,h2,z=>by
  simp at h1 h2;subst h1;subst h2
  show bindC kindOf ((p,w)::P.zip vs) m p=_;unfold bindC;rw[oG λv hv=>(Jl.mp nd).1 (of_mem_zip hv).1,if_neg z];simp
 |p::P,w::vs,i+1,m,nd,h1,h2,z=>by
  show bindC kindOf ((p,w)::P.zip vs) m x=_;exact oI (i:=i) (Jl.mp nd).2 (by simpa using h1) (by simpa using h2) z
noncomputable def eD(N:List Str)(vs:List V):St:=vs.map some++replicate (N.length-vs.length) none
noncomputable def qK(CX:CXT)(P:Program)(w:World)(K:L8)(mg:Str->Option Value)(base:Heap)(N:List Str)(qual:Str)(scope:Scope)(f:Addr)(J:Value)(A:Around)(outer:List Env)(s:Shared)(H:Hp)(E:XK):Cx where
 prog:=P
 w:=w
 K:=K
 mg:=mg
 base:=base
 A:=A.deeper (envOfC qual scope s.heap.objs.size f J)
 N:=N
 s₀:=s
 H₀:=H
 env:=envOfC qual scope s.heap.objs.size f J
 outer:=outer
 stack:=envOfC qual scope s.heap.objs.size f J::outer
 ex:=[]
 calm:=true
 fn:=λ_=>true
 pn:=[]
 xe:=λe s'=>wpAny (model P w) (A.deeper (envOfC qual scope s.heap.objs.size f J)) (leaving (envOfC qual scope s.heap.objs.size f J) e) (λ_ z=>CX outer H s E e z) (λU z=>CX outer H s E U z) s'
def qL{sc:Scope}(h:sc.names.lookup x=some .cell):∃c,(cellsFrom n sc.names []).lookup x=some c:=by
 have q:=PySem.W.cellsFrom_some sc.names n [] (.inl h);exact isSome_iff_exists.mp q
def v7{K:L8} 
  (S:pH N ps scope) (hd:A.handled=none) (J:AB P w K mg base A outer s H) (hl:vs.length=ps.length) (r:aI vs us)
  (x:InCallC s s.heap.objs.size (bindL (envOfC qual scope s.heap.objs.size f cd).kindOf (ps.zip us) λ_=>none) (cellsFrom (s.heap.objs.size+1) scope.names []) (bindC (envOfC qual scope s.heap.objs.size f cd).kindOf (ps.zip us) λ_=>none) s1) :
  Inv (qK CX P w K mg base N qual scope f cd A outer s H E) [] (eD N vs) H s1:=by
 have a0:ps.length<=N.length:=by have:=IW List.length S.pre;rw[L4]at this;omega
 obtain⟨h1,tk,rfl,hk⟩:=x.done;have U:∀b,b∉(qK CX P w K mg base N qual scope f cd A outer s H E).ex:=λb z=>absurd (show b∈([]:List Addr)from z) (by simp)
 refine⟨⟨J.mod,S.kind,rfl,rfl,pe _,λy z c h1 h2=>?_,λy Y=>?_,λy c _ h=>?_,λ_=>hd,Around.frames_deeper J.frames,.inr ⟨rfl,rfl⟩,λb z=>absurd z (U b),J.bs,J.bsz,λb _ _=>U b,λb z=>absurd z (U b),J.funs,J.frf⟩,
  rfl,J.bare,Un.kept hk,⟨_,x.toInCall.ns,λi y v h1 h2 h3=>?_⟩,λy c h=>⟨_,x.cell y c h⟩,J.hok.fresh (pe _),λy c h=>?_,λp Z=>absurd (show p∈([]:List (Addr×Obj))from Z) (by simp),J.hok.kept hk,?_⟩
 .exact name_of_addr x.apart (PySem.mem_of_lookup h1) (PySem.mem_of_lookup h2)
 .have Y:=Y;rcases Y with Y|Y
  .exact qL Y
  .exact absurd rfl (S.nofree _ (PySem.mem_of_lookup Y))
 .exact JS (x.above y c (PySem.mem_of_lookup h))
 .have hi:i<vs.length:=by
   unfold eD at h2;by_cases hi:i<vs.length
   .exact hi
   .rw[JJ (by simpa using hi)]at h2;rw[K1]at h2;split at h2<;>cases h2
  have ha:vs[i]?=some v:=by
   unfold eD at h2;rw[Ju (by simpa using hi),IS]at h2;cases e:vs[i]?<;>simp_all
  obtain⟨u,hu,rv⟩:=r.get ha;have Z:ps[i]?=some y:=by
   rw[<- S.pre,getElem?_take_of_lt (by omega)];exact h1
  have ao:ps.Nodup:=by rw[<- S.pre];exact S.nd.sublist (take_sublist _ _)
  refine⟨u,rv,?_⟩;rcases S.par y (J0 Z)with k|k
  .exact .inl ⟨k,oH ao Z hu k⟩
  .obtain⟨c,e⟩:=qL (n:=s.heap.objs.size+1) k;refine .inr ⟨.inl k,c,e,?_⟩;have q:=x.cell y c e;rw[oI ao Z hu (by show scope.names.lookup y≠_;rw[k];decide)]at q;exact q
 .exact J.hok.fresh (JS (x.above y c (PySem.mem_of_lookup h)))
 .unfold eD;show _=N.length;rw[IC,tf,length_replicate];omega
def xE{K:L8}{dV kV Z pm z ct oc:Value} 
  (lk:K.lookup f=some ⟨oc,od,.func (PySem.W.fnOf name qual params body scope dV kV Z pm an z ct),a7⟩) (aO:PySem.W.codeIn K z qual=true) (S:pH N ps scope)
  (len:∀vs H Q E,sp vs H Q E->vs.length=ps.length)
  (U:∀A outer s H vs Q E,kh k (A.deeper (envOfC qual scope s.heap.objs.size f z))->sp vs H Q E ->
   ∃t,PSs (qK CX P w K mg base N qual scope f z A outer s H E) body t/\t { nx:=λ_ H'=>Q .non H',rt:=Q } (eD N vs) H) :
  jd P w K mg base CX (k+1) f (PySem.W.fnOf name qual params body scope dV kV Z pm an z ct) ps sp:=by
 refine⟨len,λA outer s H args us vs Q E hr e0 hb r ar=>?_⟩;have hl:=len _ _ _ _ ar;have KX:=e0.mod.kin.keeps λb o e=>(e0.bs b o e).1
 have a1:=e0.mod.nolimit.keeps λb o e=>(e0.bs b o e).1
 have Y:∀y∈ps.zip us,scope.names.lookup y.1=some .local\/(scope.names.lookup y.1=some .cell/\((cellsFrom (s.heap.objs.size+1) scope.names []).lookup y.1).isSome=true):=λ⟨n,v⟩ hy=>by
  rcases S.par n (of_mem_zip hy).1 with q|q
  .exact .inl q
  .exact .inr ⟨q,PySem.W.cellsFrom_some _ _ _ (.inl q)⟩
 refine codeAny_call_function hr.depth (KX _ _ lk) rfl S.co S.gen rfl (PySem.W.codeRec_of KX aO) (hb _ _ _ _ ?_);refine wpAny_newFunctionEnv_cells S.kind Y λenv he s1 x=>?_
 subst he;refine⟨a1.keeps x.toInCall.keep,codeAny_func ?_⟩;obtain⟨t,ht,hq⟩:=U A outer s H vs Q E (hr.deeper _) ar;have I:Inv (qK CX P w K mg base N qual scope f z A outer s H E) [] _ H s1:=v7 S hr.hd e0 hl r x;refine Je (ht [] s1 _ H _ I hq) (λfl s' hs=>?_) λe s' hs=>hs
 have fin:∀{F}{H'}{v}{u},Inv (qK CX P w K mg base N qual scope f z A outer s H E) [] F H' s'->aF v u->Q v H'->CE outer P w H s Q u s':=
  λ{F H' v u} J rv q=>⟨v,H',J.os,J.bare,J.base,J.hok,rv,q⟩
 cases fl with
 |next =>
  obtain⟨F,H',J,q⟩:=hs;exact fin (v:=V.non) J rfl q
 |ret u =>
  obtain⟨v,F,H',J,rv,q⟩:=hs;exact fin J rv q
 | _ =>
  obtain⟨_,_,_,q⟩:=hs;exact False.elim q
section
variable{X:Cx}{x:Str}{p pos:Pos}{e:Expr}{es:List Expr}{t:TA}{id T:String}{r:List V->Hp->VK->Prop}
noncomputable def tCB(r:List V->Hp->VK->Prop)(t:TA):TE:=λσ H Q=>t σ H λvs H1=>r vs H1 Q
def eR (hc:b_ X (.builtin id) r) (U:Gl X x) (Y:X.mg x=none) (hv:bootBuiltins x=some (.builtin id)) (Z:PA X (e::es) t) (hn:x ≠ "__name__":=by decide) (z:(x==("__debug__":Str))=false:=by decide)
  (he:starEach (e::es) X.env=(false,eval e X.env)::starEach es X.env:=by rfl) (J:(backTo pos (starEach es X.env)).any (·.1)=false:=by rfl):PE X (.Call (.Name x p) (e::es) [] pos) (tCB r t):=by
 intro pins s σ H Q I h;refine JT (ij I U Y hv ?_ hn z);exact PyProof.Rows.callWith_builtin1 (thn (Z pos pins s σ H _ I h) λus s1 ⟨vs,H1,I1,r1,q1⟩=>hc pins s1 σ H1 vs us Q I1 r1 q1) he J
def dc (hc:b_ X (.type T) r) (U:Gl X x) (Y:X.mg x=none) (hv:bootBuiltins x=some (.type T)) (Z:PA X (e::es) t) (hn:x ≠ "__name__":=by decide) (z:(x==("__debug__":Str))=false:=by decide)
  (he:starEach (e::es) X.env=(false,eval e X.env)::starEach es X.env:=by rfl) (J:(backTo pos (starEach es X.env)).any (·.1)=false:=by rfl):PE X (.Call (.Name x p) (e::es) [] pos) (tCB r t):=by
 intro pins s σ H Q I h;refine JT (ij I U Y hv ?_ hn z);exact Jt (thn (Z pos pins s σ H _ I h) λus s1 ⟨vs,H1,I1,r1,q1⟩=>hc pins s1 σ H1 vs us Q I1 r1 q1) he J
end
end L2
namespace HT
open PySem PyProof.Rows List Option
noncomputable def lexLt:List Int->List Int->Bool
 | [],[]=>false
 | [],_::_=>true
 | _::_,[]=>false
 |x::xs,y::ys=>if x=y then lexLt xs ys else decide (x<y)
def lexLt_cons(x y)(xs ys):lexLt (x::xs) (y::ys)=if x=y then lexLt xs ys else decide (x<y):=rfl
def nY:lexLt [] []=false:=rfl
def l9(y)(ys):lexLt [] (y::ys)=true:=rfl
def l_(x)(xs):lexLt (x::xs) []=false:=rfl
def xF(A)(s)(a)(t)(c)(u):∃e,SeqAt.EqAt A s (.int a t) (.int c u) e/\(e=true ↔ a=c):=
 ⟨(a==c),SeqAt.EqAt.int_int a t c u,by simp⟩
def xG(A)(s)(a)(t)(c)(u)(prog)(w)(E)(Q)(h:Q (.bool (decide (a<c))) s) :
  wpAny (model prog w) A (richCompare .Lt (.int a t) (.int c u)) Q E s:=
 (PyProof.Rows.lt_int h:wpAny (model prog w) A (compareOp .Lt (.int a t) (.int c u)) Q E s)
section
open PySem.SeqAt List Option
open PySem.AutoSeq1 (wpAny_loadPart')
open PySem.MeetsSeq PySem.MeetsSeq2 PySem.MeetsSeq3 List Option
def tuple_lt_ints(l b)(items z)(n n2)(dd a6)(sl a7)(ns ms)(hi:IntsAre items.toList ns)(hj:IntsAre z.toList ms) :
  Meets (Builtin.«tuple.__lt__» ⟨[.ref l,.ref b],[]⟩)
   (λ_ R s=>s.heap.get? l=some { cls:=.type "tuple",dict:=dd,data:=.seq items n,slots:=sl }/\s.heap.get? b=some { cls:=.type "tuple",dict:=a6,data:=.seq z n2,slots:=a7 } /\
    R (.ok (.ret (.bool (lexLt ns ms)))) s):=
 .of_wp λprog w A R s h=>by
  obtain⟨hp,g,d,tk,os⟩:=s;obtain⟨hl,hb,h⟩:=h
  have f2:=K2;have z1:items.size=ns.length:=by rw[<- hi.length];simp
  have z2:z.size=ms.length:=by rw[<- hj.length];simp
  wp_walk using wpAny_loadPart' hl,wpAny_loadPart' hb,wpAny_forIn_list _ (λbV b s'=>b.1=none/\s'=⟨hp,g,d,tk,os⟩/\∃vs ws U Y,bV=vs.zip ws /\
   IntsAre vs U/\IntsAre ws Y/\U.length+z.size=Y.length+items.size/\R (.ok (.ret (.bool (lexLt U Y)))) ⟨hp,g,d,tk,os⟩) _
  case turn =>
   rintro ⟨y,x⟩ bV b s' ⟨aO,rfl,vs,ws,U,Y,hz,a0,Z,J,hR⟩;cases a0 with
   |nil=>rw[zip_nil_left]at hz;cases hz
   |cons a t a2 =>
    cases Z with
    |nil=>rw[zip_nil_right]at hz;cases hz
    |cons c u a3 =>
     rw[zip_cons_cons]at hz;injection hz with a8 a1
     injection a8 with hy hx
     subst hy hx;rw[lexLt_cons]at hR;simp only[length_cons]at J;obtain⟨e,he,ar⟩:=xF A.in1 ⟨hp,g,d,tk,os⟩ a t c u;refine ez (he prog w _ _ ?_);cases e with
     |true =>
      rw[if_pos (ar.mp rfl)]at hR
      wp_walk
      exact⟨rfl,rfl,_,_,_,_,a1,a2,a3,by omega,hR⟩
     |false =>
      rw[if_neg (λq=>absurd (ar.mpr q) pd)]at hR;have a9:=xG A.in1 ⟨hp,g,d,tk,os⟩ a t c u prog w
      wp_walk using a9
      exact⟨_,rfl,by simpa using hR⟩
  case fin =>
   rintro ⟨b1,b2⟩ s' ⟨aO,rfl,vs,ws,U,Y,hz,a0,Z,J,hR⟩;simp only at aO;subst aO;have hv:lexLt U Y=decide (items.size<z.size):=by
    cases a0 with
    |nil =>
     cases Z with
     |nil =>
      simp only[length_nil]at J;rw[nY];exact(Jd (by omega)).symm
     |cons c u hw =>
      simp only[length_nil,length_cons]at J;rw[l9];exact(IP (by omega)).symm
    |cons a t hv =>
     cases Z with
     |nil =>
      simp only[length_nil,length_cons]at J;rw[l_];exact(Jd (by omega)).symm
     |cons c u hw =>
      rw[zip_cons_cons]at hz;cases hz
   rw[hv]at hR
   wp_walk
   exact⟨_,rfl,by simpa[Builtin.Tuple.tupleCompareSizes]using hR⟩
  case h =>
   exact⟨rfl,rfl,items.toList,z.toList,ns,ms,rfl,hi,hj,by omega,h⟩
end
section
variable{prog:Program}{w:World}{A:Around}{E:Value->Shared->Prop}{s:Shared}
def lt_tupInts{items z:Array Value}{ns ms:List Int}{Q:Value->Shared->Prop}(hl:IsTup s.heap l items)(hb:IsTup s.heap b z)(hi:IntsAre items.toList ns)(hj:IntsAre z.toList ms)
  (hu:A.units<cLine) (h:Q (.bool (lexLt ns ms)) s):wpAny (model prog w) A (compareOp .Lt (.ref l) (.ref b)) Q E s:=by
 refine ax λZq kq=>?_
 obtain⟨⟨cls,dd,data,sl⟩,ho,hc,n,hd⟩:=id hl;obtain⟨⟨ar,Z,data2,ao⟩,J,U,n2,Y⟩:=id hb;simp only at hc hd U Y;subst hc hd U Y;refine kq ?_;exact Kp (op:=.Lt) ⟨_,ho,rfl⟩ ⟨_,J,rfl⟩ PySem.F.slot_tuple_lt PySem.F.entry_tuple_lt (PySem.F.args_tuple_lt_2 _ _) (tuple_lt_ints l b items z n n2 dd Z sl ao ns ms hi hj)
  ⟨ho,J,show Value.bool _≠Value.notImplemented/\Q _ s from⟨(λx=>nomatch x),h⟩⟩ hu
def cat_tup(ht:IsTup s.heap t vs.toArray)(hb:IsTup s.heap b ws.toArray)(hv:vs≠[])
  (h1:ws=[]->Q (.ref t) s) (h2:ws≠[]->Q (.ref s.heap.objs.size) { s with heap:=s.heap.push { cls:=.type "tuple",data:=.seq (vs++ws).toArray } })
  (ao:vs.length+ws.length<=sizeLine):wpAny (model prog w) A (binaryOp .Add (.ref t) (.ref b)) Q E s:=by
 refine ax λZq kq=>?_
 obtain⟨⟨cls,dd,data,sl⟩,ho,hc,n,hd⟩:=id ht;obtain⟨⟨aO,J,data2,U⟩,z,Y,n2,Z⟩:=id hb;simp only at hc hd Y Z;subst hc hd Y Z;have e:vs.toArray++ws.toArray=(vs++ws).toArray:=by simp
 refine kq ?_;by_cases hw:ws=[]
 .exact LS ⟨_,ho,rfl⟩ ⟨_,z,rfl⟩ LU seq_tuple_add PySem.F.slot_tuple_add PySem.F.entry_tuple_add (PySem.F.args_tuple_add_2 _ _)
   (tuple_addW1 t b vs.toArray ws.toArray n n2 dd J sl U (by simpa using hv) (by simp[hw])) ⟨ho,z,h1 hw⟩
 .refine LS ⟨_,ho,rfl⟩ ⟨_,z,rfl⟩ LU seq_tuple_add PySem.F.slot_tuple_add PySem.F.entry_tuple_add (PySem.F.args_tuple_add_2 _ _)
   (tuple_addW2 t b vs.toArray ws.toArray n n2 dd J sl U (by simpa using hv) (by simpa using hw) (by rw[tr,tr];exact ao)) ⟨ho,z,?_⟩
  rw[e];exact h2 hw
noncomputable def sIx(n d:Nat):Option Int->Nat
 |none=>d
 |some v=>if v<0 then(v+(n:Int)).toNat else min v.toNat n
def C5(n d)(hd:d<=n)(o):sIx n d o<=n:=by
 cases o with
 |none=>exact hd
 |some v =>
  show(if v<0 then(v+_).toNat else min v.toNat n)<=n
  grind
def uK(v)(n d:Nat):(if v<0 then max (v+(n:Int)) 0 else min v (n:Int))=((sIx n d (some v):Nat):Int):=by
 show(if v<0 then max _ 0 else min v _)=(((if v<0 then(v+_).toNat else min v.toNat n):Nat):Int)
 grind
def sM(lo hi)(n:Nat):Builtin.Slice.sliceAdjust lo hi 1 (n:Int)=(((sIx n 0 lo:Nat):Int),((sIx n n hi:Nat):Int)):=by
 refine Prod.ext ?_ ?_
 .cases lo with
  |none=>rfl
  |some v=>exact uK v n 0
 .cases hi with
  |none=>rfl
  |some v=>exact uK v n n
def sN(i j:Nat):Builtin.Slice.slicePlaces (i:Int) (j:Int) 1=j-i:=by
 unfold Builtin.Slice.slicePlaces
 grind
def mf(p:IsPart v o)(h:Q o s):wpAny (model prog w) A (Builtin.Slice.slicePartIndex v) Q E s:=by
 cases p<;>first|exact slicePart_none h|exact slicePart_int h
def fW{lo hi:Option Int}{n:Nat}{Q:Int×Int×Nat->Shared->Prop}(hs:s.heap.IsSliceOf Z U Y .none)(pl:IsPart U lo)(pu:IsPart Y hi)
  (h:Q (((sIx n 0 lo:Nat):Int),1,sIx n n hi-sIx n 0 lo) s):wpAny (model prog w) A (Builtin.Slice.sliceApplied (.ref Z) (pure (n:Int))) Q E s:=by
 obtain⟨os,z,aO,J⟩:=id hs;refine ez (ez (wpAny_field z J (x:=U) rfl (ez (wpAny_field z J (x:=Y) rfl (ez (wpAny_field z J (x:=.none) rfl (g4 ?_)))))));refine ez (slicePart_none ?_);refine ez (mf pl (ez (mf pu (ez (g4 ?_)))));show wpAny _ _ (match Builtin.Slice.sliceAdjust lo hi 1 _ with|(lo,hi)=>pure (lo,_,Builtin.Slice.slicePlaces lo hi 1)) _ _ s;rw[sM lo hi n];show wpAny _ _ (pure (((sIx n 0 lo:Nat):Int),_,Builtin.Slice.slicePlaces _ _ 1)) _ _ s;rw[sN];exact g4 h
def xH(xs:Array Value)(i k:Nat):((range k).filterMap λ(m:Nat)=>xs[((i:Int)+(m:Int)*1).toNat]?).toArray=((xs.toList.drop i).take k).toArray:=by
 have e:(λ(m:Nat)=>xs[((i:Int)+(m:Int)*1).toNat]?)=λm=>xs[i+m]?:=by
  funext m
  have:((i:Int)+(m:Int)*1).toNat=i+m:=by omega
  rw[this]
 rw[e];have:=pick_run xs i k;rw[filterMap_map]at this;have z:((λx=>xs[x]?)∘λx=>i+x)=λm=>xs[i+m]?:=rfl
 rw[z]at this;rw[this]
def getItem_tuple_cut{items:Array Value}{vl vu:Value}{lo hi:Option Int}{Q:Value->Shared->Prop}(J:IsTup s.heap t items)(hs:s.heap.IsSliceOf sl vl vu .none)(pl:IsPart vl lo)(pu:IsPart vu hi)
  (hw:¬ (sIx items.size 0 lo=0/\sIx items.size items.size hi=items.size))
  (h:Q (.ref s.heap.objs.size) { s with heap:=s.heap.push { cls:=.type "tuple",data:=.seq ((items.toList.drop (sIx items.size 0 lo)).take (sIx items.size items.size hi-sIx items.size 0 lo)).toArray } })
  (a3:items.size<=sizeLine):wpAny (model prog w) A (getItem (.ref t) (.ref sl)) Q E s:=by
 have z:sizeOk (.seq ((items.toList.drop (sIx items.size 0 lo)).take (sIx items.size items.size hi-sIx items.size 0 lo)).toArray):=by
  show((items.toList.drop (sIx items.size 0 lo)).take (sIx items.size items.size hi-sIx items.size 0 lo)).toArray.size<=sizeLine;rw[tr,L4,length_drop,Array.length_toList];omega
 have hj:sIx items.size items.size hi<=items.size:=C5 _ _ (pe _) hi;obtain⟨os,U,Y,a4⟩:=id hs;have Z:s.TypeIs (.ref sl) "slice":=⟨os,U,Y⟩;unfold getItem
 try with_reducible refine IZ ?_
 first|refine ez (g4 ?_)|skip
 refine ez (wpAny_sequenceKey J.typeIs (by decide) ?_);refine ez (Jk (name:=Str.ofString "__getitem__") J.typeIs Jj
  (IY Jj J.typeIs entry_tuple_getitem ?_ (args_tuple_getitem _ _)))
 show wpAny _ _ (Builtin.Tuple.tupleItemsOf (.ref t) >>= _) _ _ s;refine ez (tupleItemsOf_ J ?_);refine ez (Kz Z ?_);rw[if_pos (by decide)];refine ez (fW hs pl pu ?_);have ao:¬ ((((sIx items.size 0 lo:Nat):Int)==0&&(1:Int)==1&&(sIx items.size items.size hi-sIx items.size 0 lo)==items.size)=true):=by
  simp_all
 show wpAny _ _ (if (((sIx items.size 0 lo:Nat):Int)==0&&_==1&&_==items.size)=true then _ else _) _ _ s;rw[if_neg ao,xH]
 first
  | exact ez (Jh (g4 ⟨_,rfl,g4 h⟩) z)
  | exact ez (Jh (ez (g4 _)) z)
  | exact ez (ez (Jh (g4 _) z))
  | exact ez (ez (Jh _ z))
end
end HT
namespace L2
open PySem PySem.Spec PyProof.Rows List Option
noncomputable abbrev TO:=St->Hp->(Option Int->Hp->Prop)->Prop
def PO(X:Cx)(e:Option Expr)(t:TO):Prop:=
 ∀pins s (σ:St) H Q,Inv X pins σ H s->t σ H Q ->
  wpAny (model X.prog X.w) X.A (evalPart e X.env) (λu s'=>∃o H',Inv X pins σ H' s'/\IsPart u o/\Q o H') X.xe s
noncomputable def AC:TO:=λ_ H Q=>Q none H
noncomputable def FZ(t:TE):TO:=λσ H Q=>t σ H λx H1=>∃i,x=.int i/\Q (some i) H1
def c_ :∀{us},aI (ns.map V.int) us->IntsAre us ns:=by
 induction ns with
 |nil=>intro us r;rw[map_nil]at r;cases r;exact .nil
 |cons n ns ih =>
  intro us r;cases r with
  |cons z J =>
   obtain⟨t,e⟩:=z;subst e;exact .cons n t (ih J)
section
variable{X:Cx}{e:Expr}{te:TE}{lo hi:Option Expr}{tl th:TO}{pos p2:Pos}
def AD:PO X none AC:=by
 intro pins s σ H Q I h;exact g4 ⟨none,H,I,.none,h⟩
def AE(h:PE X e te):PO X (some e) (FZ te):=by
 intro pins s σ H Q I hw;refine thn (h pins s σ H _ I hw) λu Y ⟨x,H1,z,J,U⟩=>?_
 obtain⟨i,rfl,q⟩:=U;obtain⟨t,rfl⟩:=J;exact⟨some i,H1,z,.int i t,q⟩
def SlR(X:Cx)(r:V->Option Int->Option Int->Hp->VK->Prop):Prop:=
 ∀pins s (σ:St) H x v z J lo hi U Q,Inv X pins σ H s->aF x v->s.heap.IsSliceOf U z J .none->IsPart z lo->IsPart J hi->r x lo hi H Q ->
  ∃T id,typeLookup (.type T) "__getitem__"=pure (some (.builtin id))/\s.TypeIs v T/\wpAny (model X.prog X.w) X.A (getItem v (.ref U)) (EP X pins σ Q) X.xe s
noncomputable def tSl(r:V->Option Int->Option Int->Hp->VK->Prop)(te:TE)(tl th:TO):TE:=λσ H Q=>te σ H λx H1=>tl σ H1 λl H2=>th σ H2 λu z=>r x l u z Q
def xI(Z:SlR X r)(he:PE X e te)(hl:PO X lo tl)(hu:PO X hi th):PE X (.Subscript e (.Slice lo hi none p2) pos) (tSl r te tl th):=by
 intro pins s σ H Q I h;refine Subscript_ (thn (he pins s σ H _ I h) λv s1 ⟨x,H1,I1,r1,q1⟩=>?_);refine wpAny_Slice (thn (hl pins s1 σ H1 _ I1 q1) λJ s2 ⟨l,H2,I2,pl,q2⟩=>thn (hu pins s2 σ H2 _ I2 q2) λU z ⟨u,Y,I3,pu,q3⟩=>?_);refine g4 ?_;have I4:Inv X pins σ Y { z with heap:=z.heap.push { cls:=.type "slice",data:=.fields #[J,U,.none] } }:=I3.kept λb ob q=>mu _ q
 obtain⟨T,id,hT,ht,hg⟩:=Z pins { z with heap:=z.heap.push { cls:=.type "slice",data:=.fields #[J,U,.none] } } σ Y x v J U l u z.heap.objs.size Q I4 r1 (Heap.IsSliceOf.new ..) pl pu q3;exact tail_any ht hT hg (by with_unfolding_all rfl)
noncomputable def v8(xs:List V)(lo hi:Option Int):List V:=(xs.drop (HT.sIx xs.length 0 lo)).take (HT.sIx xs.length xs.length hi-HT.sIx xs.length 0 lo)
def k7(xs)(lo hi):(v8 xs lo hi).length<=xs.length:=by
 unfold v8;rw[L4,length_drop];omega
def HW(K:L8):V->Option Int->Option Int->Hp->VK->Prop:=λx lo hi H Q=>∃a xs,x=.ref a/\SqT K H a xs /\
 ¬ (HT.sIx xs.length 0 lo=0/\HT.sIx xs.length xs.length hi=xs.length)/\∀p,H p=none->Q (.ref p) (upd H p (.tup (v8 xs lo hi)))
def C6:SlR X (HW X.K):=by
 intro pins s σ H x v vl vu lo hi sl Q I U hs Y Z h;obtain⟨a,xs,rfl,hx,hw,q⟩:=h;cases U;obtain⟨its,r,J,hz⟩:=I.tuple hx;have z:its.toArray.size=xs.length:=by rw[tr];exact r.length.symm
 refine⟨"tuple",_,Jj.lookup,J.typeIs,?_⟩;refine HT.getItem_tuple_cut J hs Y Z (by rw[z];exact hw) ?_ (by rw[z];exact hz);rw[z];refine⟨.ref s.heap.objs.size,_,I.laid (o:=.tup _) (λb ob q=>mu _ q) (pe _) ?_,rfl,q _ (I.hok.fresh (pe _))⟩;exact⟨IH (k7 xs lo hi) hz,_,(r.drop _).take _,IsTup.new _ _⟩
noncomputable def F0(K:L8):R2:=λx y H Q=>∃a b xs ys,x=.ref a/\y=.ref b/\SqT K H a xs/\SqT K H b ys/\xs≠[]/\xs.length+ys.length<=sizeLine /\
 (ys=[]->Q (.ref a) H)/\(ys≠[]->∀p,H p=none->Q (.ref p) (upd H p (.tup (xs++ys))))
def aI.nil_iff(r:aI xs us):us=[] ↔ xs=[]:=by
 cases r<;>simp_all
def AF:OpR X (binaryOp .Add) (F0 X.K):=by
 intro pins s σ H x y v u Q I Z ry h;refine ax λZq kq=>?_
 obtain⟨a,b,xs,ys,rfl,rfl,ha,hb,hx,hz,q1,q2⟩:=h;cases Z;cases ry;obtain⟨its,U,p1,_⟩:=I.tuple ha;obtain⟨Y,J,p2,_⟩:=I.tuple hb;refine kq ?_;refine HT.cat_tup p1 p2 (λz=>hx (U.nil_iff.mp z)) (λz=>⟨.ref a,H,I,rfl,q1 (J.nil_iff.mp z)⟩) (λz=>?_) (by rw[<- U.length,<- J.length];exact hz);refine⟨.ref s.heap.objs.size,_,I.laid (o:=.tup _) (λb ob q=>mu _ q) (pe _) ?_,rfl,q2 (λw=>z (J.nil_iff.mpr w)) _ (I.hok.fresh (pe _))⟩;exact⟨by rw[IC];exact hz,_,U.append J,IsTup.new _ _⟩
end
noncomputable def ixN(n:Nat)(i:Int):Option Nat:=if 0<=i then(if i<n then some i.toNat else none)else if -(n:Int)<=i then some (i+n).toNat else none
noncomputable def atI{α:Type}(xs:List α)(i:Int):Option α:=(ixN xs.length i).bind λj=>xs[j]?
def uL(h:ixN n i=some j):seqIndex? i n=some j/\j<n/\-(n:Int)<=i/\i<n:=by
 unfold ixN at h;by_cases z:0<=i
 .rw[if_pos z]at h;by_cases h1:i<n
  .rw[if_pos h1]at h;have e:=II h;exact⟨by rw[seqIndex_of z h1,e],by omega,by omega,h1⟩
  .simp_all
 .rw[if_neg z]at h;by_cases h1:-(n:Int)<=i
  .rw[if_pos h1]at h;have e:=II h;exact⟨by rw[seqIndex_neg (by omega) h1,e],by omega,h1,by omega⟩
  .simp_all
def pI(h:atI xs i=some v):∃j,seqIndex? i xs.length=some j/\xs[j]?=some v/\j<xs.length/\-(xs.length:Int)<=i/\i<xs.length:=by
 unfold atI at h;cases e:ixN xs.length i with
 |none=>rw[e]at h;cases h
 |some j =>
  rw[e]at h;obtain⟨h1,h2,z,J⟩:=uL e;exact⟨j,h1,h,h2,z,J⟩
def uM(b:Expr):Prop:=∀o i,subscripted b false o i=operate [o,i] (getItem o i)
def IxR(X:Cx)(r:R2):Prop:=
 ∀value slice pins s (σ:St) H x y v u Q,Inv X pins σ H s->aF x v->aF y u->r x y H Q ->
  subscripted slice false v u=operate [v,u] (getItem v u)->wpAny (model X.prog X.w) X.A (subscriptTail value slice v u) (EP X pins σ Q) X.xe s
def MtR(X:Cx)(id:String)(r:V->List V->Hp->VK->Prop):Prop:=
 ∀pins s (σ:St) H x xs v us Q,Inv X pins σ H s->aF x v->aI xs us->r x xs H Q ->
  wpAny (model X.prog X.w) X.A (call (.builtin id) (v::us)) (EP X pins σ Q) X.xe s
section
variable{X:Cx}{a b:Expr}{ta tb:TE}{pos:Pos}
theorem IxR.or(h:IxR X r)(h':IxR X U):IxR X (λx y H Q=>r x y H Q\/U x y H Q):=by
 intro value slice pins s σ H x y v u Q I z J q hs;rcases q with q|q
 .exact h value slice pins s σ H x y v u Q I z J q hs
 .exact h' value slice pins s σ H x y v u Q I z J q hs
def F1(z:IxR X r)(J:PE X a ta)(U:PE X b tb)(hs:uM b):PE X (.Subscript a b pos) (tOp r ta tb):=by
 intro pins s σ H Q I h;exact Subscript_ (CV J U I h λv u Y x y H2 Z rx ry q=>z a b pins Y σ H2 x y v u Q Z rx ry q (hs _ _))
noncomputable def F2(K:L8):R2:=λx y H Q=>∃p xs i v,x=.ref p/\y=.int i/\SqL K H p xs/\atI xs i=some v/\Q v H
noncomputable def F3(K:L8):R2:=λx y H Q=>∃p xs i v,x=.ref p/\y=.int i/\SqT K H p xs/\atI xs i=some v/\Q v H
noncomputable def F4:R2:=λx y H Q=>∃z i c,x=.str z/\y=.int i/\z.length<=sizeLine/\atI z.cps.toList i=some c/\Q (.str ⟨#[c]⟩) H
def AG:IxR X (F2 X.K):=by
 intro value slice pins s σ H x y v u Q I rx ry h hs;refine ax λZq kq=>?_
 obtain⟨p,xs,i,z,rfl,rfl,hq,he,q⟩:=h;cases rx;obtain⟨t,rfl⟩:=ry;obtain⟨its,r,J,hz⟩:=I.list hq;obtain⟨j,h1,h2,h3,h4,h5⟩:=pI he;obtain⟨w,Z,U⟩:=r.get h2;have hl:=r.length;have hn:=kg;have fin:EP X pins σ Q w s:=⟨z,H,I,U,q⟩;refine kq ?_;by_cases h0:0<=i
 .have Y:i.toNat=j:=by
   rw[seqIndex_of h0 h5]at h1;exact II h1
  exact item_listR J.isList h0 (by omega) (by rw[Y];simpa using Z) fin hs
 .have Y:(i+(its.toArray.size:Int)).toNat=j:=by
   rw[seqIndex_neg (by omega) h4]at h1;rw[tr,<- hl];exact II h1
  exact subscriptTail_builtinR J.isList.typeIs slot_list_getitem.lookup
   (wpAny_getItem_list_neg J.isList (by omega) (by rw[tr]<;>omega) (by omega) (by rw[Y];simpa using Z) ⟨rfl,fin⟩) hs
def C7:IxR X (F3 X.K):=by
 intro value slice pins s σ H x y v u Q I Y Z h hs;refine ax λZq kq=>?_
 obtain⟨p,xs,i,z,rfl,rfl,hq,he,q⟩:=h;cases Y;obtain⟨t,rfl⟩:=Z;obtain⟨its,r,U,hz⟩:=I.tuple hq;obtain⟨j,h1,h2,h3,h4,h5⟩:=pI he;obtain⟨w,ew,J⟩:=r.get h2;have hl:=r.length;have hn:=kg;have fin:EP X pins σ Q w s:=⟨z,H,I,J,q⟩;refine kq ?_;exact subscriptTail_builtinR U.typeIs slot_tuple_getitem.lookup
  (getItem_tuple U (by omega) (by omega) (by rw[tr,<- hl];exact h1) (by simpa using ew) ⟨rfl,fin⟩) hs
def C8:IxR X F4:=by
 intro value slice pins s σ H x y v u Q I J U h hs;refine ax λZq Y=>?_
 obtain⟨z,i,c,rfl,rfl,hz,Z,q⟩:=h;obtain⟨t,rfl⟩:=J;obtain⟨t',rfl⟩:=U;obtain⟨j,h1,h2,h3,h4,h5⟩:=pI Z;have hl:z.cps.toList.length=z.length:=by simp[Str.length]
 rw[hl]at h1 h4 h5;have hn:=kg;refine Y ?_;exact tail_any (typeIs_str s z t) slot_str_getitem.lookup (getItem_str (by
  have e1:decide (i < -(2 ^ 63:Int))=false:=Jd (by omega);have e2:decide (i>=2 ^ 63)=false:=Jd (by omega);rw[e1,e2,Bool.or_false]) (by rw[h1];simpa using h2) ⟨.str ⟨#[c]⟩,H,I.tok _,⟨_,rfl⟩,q⟩) hs
noncomputable def rIx(K:L8):R2:=λx y H Q=>F2 K x y H Q\/F3 K x y H Q\/F4 x y H Q
def xJ:IxR X (rIx X.K):=AG.or (C7.or C8)
def sO (its:List Value) (n j) (u):Obj.mapSeq (·.setIfInBounds j u) { cls:=.type "list",data:=.seq its.toArray n }={ cls:=.type "list",data:=.seq (its.set j u).toArray n }:=by
 simp[Obj.mapSeq]
theorem Inv.lst(I:Inv X pins σ H s)(h:H p=some (.lst xs)) :
  ∃its n,aI xs its/\s.heap.get? p=some { cls:=.type "list",data:=.seq its.toArray n }/\xs.length<=sizeLine:=by
 obtain⟨z,its,n,r,e⟩:=I.hok p _ h;exact⟨its,n,r,e,z⟩
def Inv.lstUpd{σ:St}{H:Hp}{s:Shared}{p:Addr}{xs ys:List V}{its its':List Value}{n z:Nat}{f:Obj->Obj}(I:Inv X pins σ H s)(h:H p=some (.lst xs))
  (ho:s.heap.get? p=some { cls:=.type "list",data:=.seq its.toArray n }) (J:f { cls:=.type "list",data:=.seq its.toArray n }={ cls:=.type "list",data:=.seq its'.toArray z }) (r:aI ys its') (hz:ys.length<=sizeLine) (t) :
  Inv X pins σ (upd H p (.lst ys)) { s with heap:=s.heap.update p f,toks:=t }:=by
 have e:(s.heap.update p f).get? p=some { cls:=.type "list",data:=.seq its'.toArray z }:=by
  rw[Jf f ho (by rw[J]<;>rfl),J]
 refine I.write (by rw[h];trivial) (.inl rfl) (λb u U q=>(Jv _ _ (Kg U)).trans q) ⟨_,e⟩ ?_;exact⟨hz,its',z,r,e⟩
def F5:V->V->V->Hp->(Hp->Prop)->Prop:=λo i v H Q=>∃p xs k j,o=.ref p/\i=.int k/\H p=some (.lst xs)/\ixN xs.length k=some j/\Q (upd H p (.lst (xs.set j v)))
def set_list:FJ X F5:=by
 intro pins s σ H o i v ov iv u Q I ro ri rv h;refine ax λZq kq=>?_
 obtain⟨p,xs,k,j,rfl,rfl,U,hj,q⟩:=h;cases ro;obtain⟨t,rfl⟩:=ri;obtain⟨its,n,r,ho,hz⟩:=I.lst U;obtain⟨h1,h2,Y,Z⟩:=uL hj;have z:=r.length;have hn:=kg;have I':Inv X pins σ (upd H p (.lst _)) { s with heap:=s.heap.update p (Obj.mapSeq _) }:=
  I.lstUpd U ho (sO its n j u) (r.set rv j) (by rw[J9];exact hz) s.toks
 refine kq ?_;by_cases h0:0<=k
 .have J:k.toNat=j:=by
   rw[seqIndex_of h0 Z]at h1;exact II h1
  exact PySem.W.ki_setAt ho h0 (by omega) (by rw[tr,<- z];exact Z) (by rw[J];exact⟨_,I',q⟩)
 .have J:(k+(its.toArray.size:Int)).toNat=j:=by
   rw[seqIndex_neg (by omega) Y]at h1;rw[tr,<- z];exact II h1
  exact PySem.W.ki_setBack ho (by omega) (by rw[tr,<- z];exact Y) (by omega) (by rw[J];exact⟨_,I',q⟩)
def pJ(lo hi)(n):(sliceBounds lo hi none n).1=((HT.sIx n 0 lo:Nat):Int)/\(sliceBounds lo hi none n).2.1=((HT.sIx n n hi:Nat):Int)/\(sliceBounds lo hi none n).2.2=1:=by
 refine⟨?_,?_,rfl⟩
 .cases lo with
  |none=>simp[sliceBounds,HT.sIx]
  |some i =>
   simp[sliceBounds,HT.sIx,getD_none,show(1:Int) > 0 by decide,if_true];by_cases h:i<0
   .simp[h,if_true]<;>omega
   .simp[h,Jz]<;>omega
 .cases hi with
  |none=>simp[sliceBounds,HT.sIx]
  |some i =>
   simp[sliceBounds,HT.sIx,getD_none,show(1:Int) > 0 by decide,if_true];by_cases h:i<0
   .simp[h,if_true]<;>omega
   .simp[h,Jz]<;>omega
def nZ(its:List Value)(lo hi):slicePick its.toArray lo hi none=((its.drop (HT.sIx its.length 0 lo)).take (HT.sIx its.length its.length hi-HT.sIx its.length 0 lo)).toArray:=by
 obtain⟨h1,h2,z⟩:=pJ lo hi its.toArray.size;unfold slicePick;rw[h1,h2,z];simp only[sliceRange_one,pick_run]<;>rfl
def HX(K:L8):V->Option Int->Option Int->Hp->VK->Prop:=λx lo hi H Q=>∃a xs,x=.ref a/\SqL K H a xs/\∀p,H p=none->Q (.ref p) (upd H p (.lst (v8 xs lo hi)))
def AH:SlR X (HX X.K):=by
 intro pins s σ H x v vl vu lo hi sl Q I U hs Y Z h;obtain⟨a,xs,rfl,hx,q⟩:=h;cases U;obtain⟨its,r,J,hz⟩:=I.list hx;have z:=r.length;refine⟨"list",_,slot_list_getitem.lookup,J.isList.typeIs,?_⟩;refine wpAny_getItem_list_slice J.isList hs Y Z .none (by simp) ?_ (by rw[tr]<;>omega);rw[nZ,<- z];refine⟨.ref s.heap.objs.size,_,I.laid (o:=.lst _) (λb ob q=>mu _ q) (pe _) ?_,rfl,q _ (I.hok.fresh (pe _))⟩;exact⟨IH (k7 xs lo hi) hz,_,0,(r.drop _).take _,wh _ rfl⟩
noncomputable def ik:V->Bool
 | .non=>true
 | .bl _=>true
 | .int _=>true
 | .str _=>true
 | _=>false
noncomputable def eqV:V->V->Bool
 | .non,.non=>true
 | .bl a,.bl b=>a==b
 | .bl a,.int b=>(if a then 1 else 0)==b
 | .int a,.bl b=>a==(if b then 1 else 0)
 | .int a,.int b=>a==b
 | .str a,.str b=>a==b
 | _,_=>false
def xK(J:aF y u)(z:aF x v)(Y:ik y=true)(U:ik x=true):SeqAt.EqAt A s u v (eqV y x):=by
 cases y with
 |non =>
  cases J;cases x with
  |non=>cases z;exact SeqAt.EqAt.same _
  |bl b=>cases z;exact SeqAt.EqAt.none_bool b
  |int b=>obtain⟨t,rfl⟩:=z;exact SeqAt.EqAt.none_int b t
  |str b=>obtain⟨t,rfl⟩:=z;exact SeqAt.EqAt.none_str b t
  | _=>exact absurd (show false=true from U) pd
 |bl a =>
  cases J;cases x with
  |non=>cases z;exact SeqAt.EqAt.bool_none a
  |bl b=>cases z;exact SeqAt.EqAt.bool_bool a b
  |int b=>obtain⟨t,rfl⟩:=z;exact SeqAt.EqAt.bool_int a b t
  |str b=>obtain⟨t,rfl⟩:=z;exact SeqAt.EqAt.bool_str a b t
  | _=>exact absurd (show false=true from U) pd
 |int a =>
  obtain⟨t',rfl⟩:=J;cases x with
  |non=>cases z;exact SeqAt.EqAt.int_none a t'
  |bl b=>cases z;exact SeqAt.EqAt.int_bool a t' b
  |int b=>obtain⟨t,rfl⟩:=z;exact SeqAt.EqAt.int_int a t' b t
  |str b=>obtain⟨t,rfl⟩:=z;exact SeqAt.EqAt.int_str a t' b t
  | _=>exact absurd (show false=true from U) pd
 |str a =>
  obtain⟨t',rfl⟩:=J;cases x with
  |non=>cases z;exact SeqAt.EqAt.str_none a t'
  |bl b=>cases z;exact SeqAt.EqAt.str_bool a t' b
  |int b=>obtain⟨t,rfl⟩:=z;exact SeqAt.EqAt.str_int a t' b t
  |str b=>obtain⟨t,rfl⟩:=z;exact SeqAt.EqAt.str_str a t' b t
  | _=>exact absurd (show false=true from U) pd
 | _=>exact absurd (show false=true from Y) pd
def gI:b_ X (.builtin "len") (λxs H Q=>∃p ys,xs=[.ref p]/\(SqL X.K H p ys\/SqT X.K H p ys)/\Q (.int ys.length) H):=by
 intro pins s σ H xs us Q I r h;obtain⟨p,ys,rfl,J,q⟩:=h;obtain⟨u,rfl,Z⟩:=eC r;cases Z;have hn:=kg;rcases J with J|J
 .obtain⟨its,U,Y,hz⟩:=I.list J;have z:=U.length;exact Calls.call_len_list Y.isList (by simp[tr]<;>omega) ⟨.int ys.length,H,I.tok _,⟨s.toks+1,by rw[tr,z]⟩,q⟩
 .obtain⟨its,U,Y,hz⟩:=I.tuple J;have z:=U.length;exact len_tuple Y (by simp[tr]<;>omega) ⟨.int ys.length,H,I.tok _,⟨s.toks+1,by rw[tr,z]⟩,q⟩
def pK:b_ X (.type "list") (λxs H Q=>∃p ys,xs=[.ref p]/\(SqL X.K H p ys\/SqT X.K H p ys)/\∀l,H l=none->Q (.ref l) (upd H l (.lst ys))):=by
 intro pins s σ H xs us Q I r h;obtain⟨p,ys,rfl,U,q⟩:=h;obtain⟨u,rfl,rx⟩:=eC r;cases rx;have fin:∀its,aI ys its->ys.length<=sizeLine->∀h' z,(∀b o',s.heap.get? b=some o'->h'.get? b=some o') ->
   h'.get? s.heap.objs.size=some { cls:=.type "list",dict:=none,data:=.seq its.toArray z,slots:=#[] }->EP X pins σ Q (.ref s.heap.objs.size) { s with heap:=h' }:=λits J hz h' z kp e =>
  ⟨.ref s.heap.objs.size,_,I.laid (t':=s.toks) kp (pe _) (show bQ X.prog X.w _ h' _ (.lst ys)from⟨hz,its,z,J,e⟩),rfl,q _ (I.hok.fresh (pe _))⟩
 rcases U with U|U
 .obtain⟨its,J,Z,hz⟩:=I.list U;have Y:=J.length;obtain⟨o,ho,hc,n,hd⟩:=Z.isList;exact call_list_seq p (.inl rfl) ho hc hd (λh' z kp e=>fin its J hz h' z kp e) (by simp only[tr]<;>omega)
 .obtain⟨its,J,Z,hz⟩:=I.tuple U;have Y:=J.length;obtain⟨o,ho,hc,n,hd⟩:=Z;exact call_list_seq p (.inr rfl) ho hc hd (λh' z kp e=>fin its J hz h' z kp e) (by simp only[tr]<;>omega)
def i3:b_ X (.type "tuple") (λxs H Q=>∃p ys,xs=[.ref p]/\((SqL X.K H p ys/\∀l,H l=none->Q (.ref l) (upd H l (.tup ys)))\/(SqT X.K H p ys/\Q (.ref p) H))):=by
 intro pins s σ H xs us Q I r h;obtain⟨p,ys,rfl,h⟩:=h;obtain⟨u,rfl,rx⟩:=eC r;cases rx;rcases h with⟨z,q⟩|⟨z,q⟩
 .obtain⟨its,J,U,hz⟩:=I.list z;have Y:=J.length;refine call_tuple_list U.isList (λh' kp=>?_) (by simp[tr]<;>omega);have Z:=I.kept (t':=s.toks) kp;have I2:Inv X pins σ (upd H h'.objs.size (.tup ys)) { s with heap:=h'.push { cls:=.type "tuple",data:=.seq its.toArray } }:=
   Z.laid (λb o e=>mu _ e) (pe _) (show bQ X.prog X.w _ _ _ _ from⟨hz,its,J,IsTup.new _ _⟩)
  exact⟨.ref h'.objs.size,_,I2,rfl,q _ (Z.hok.fresh (pe _))⟩
 .obtain⟨its,J,U,hz⟩:=I.tuple z;exact call_tuple_same U ⟨.ref p,H,I,rfl,q⟩
def tyV(K:L8)(T:String)(x:V)(H:Hp):Prop:=match x with
 | .str _=>T="str"
 | .int _=>T="int"
 | .ref p=>(T="list"/\∃xs,SqL K H p xs)\/(T="tuple"/\∃o,K.lookup p=some o/\o.cls=.type "tuple"/\o.dict=none) \/
   (T="dict"/\((∃kvs,H p=some (.dK kvs))\/∃kvs,H p=some (.dT kvs)))\/(T="set"/\∃S n,H p=some (.set S n))
 | _=>False
def xL(I:Inv X pins σ H s)(r:aF x v)(ty:tyV X.K T x H) :
  s.TypeIs v T/\∀a,v=.ref a->∃Y,s.heap.get? a=some Y/\Y.dict=none:=by
 cases x with
 |str z =>
  obtain⟨t,rfl⟩:=r;cases (show T="str" from ty);exact⟨typeIs_str s z t,λ_ e=>nomatch e⟩
 |int i =>
  obtain⟨t,rfl⟩:=r;cases (show T="int" from ty);exact⟨typeIs_int s i t,λ_ e=>nomatch e⟩
 |ref p =>
  cases r;rcases ty with⟨rfl,xs,hq⟩|⟨rfl,o,J,hc,hd⟩|⟨rfl,J⟩|⟨rfl,S,n,J⟩
  .obtain⟨its,_,Z,_⟩:=I.list hq;refine⟨Z.isList.typeIs,λa e=>?_⟩;cases e;obtain⟨o,n,e,c,hd,_⟩:=Z;exact⟨o,e,hd⟩
  .refine⟨⟨o,I.kIn p o J,hc⟩,λa e=>?_⟩;cases e;exact⟨o,I.kIn _ o J,hd⟩
  .have z:∃o,s.heap.get? p=some o/\o.ExactDict:=by
    rcases J with⟨kvs,J⟩|⟨kvs,J⟩
    .obtain⟨_,_,_,_,o,_,_,e,ex,_⟩:=I.hok p _ J;exact⟨o,e,ex⟩
    .obtain⟨_,_,_,_,o,_,_,e,ex,_⟩:=I.hok p _ J;exact⟨o,e,ex⟩
   obtain⟨o,e,ex⟩:=z;refine⟨⟨o,e,ex.1⟩,λa U=>?_⟩;cases U;exact⟨o,e,ex.2.1⟩
  .obtain⟨o,_,_,_,e,ex,_⟩:=I.hok p _ J;refine⟨⟨o,e,ex.1⟩,λa U=>?_⟩;cases U;exact⟨o,e,ex.2.1⟩
 | _=>exact False.elim ty
noncomputable def HY(K:L8)(T:String)(r:V->List V->Hp->VK->Prop)(to:TE):TE:=λσ H Q=>to σ H λx H1=>tyV K T x H1/\r x [] H1 Q
noncomputable def tBM(K:L8)(T:String)(r:V->List V->Hp->VK->Prop)(to:TE)(t:TA):TE:=λσ H Q=>to σ H λx H1=>tyV K T x H1/\t σ H1 λxs H2=>r x xs H2 Q
variable{o e:Expr}{es:List Expr}{to:TE}{t:TA}{name:Str}{apos cpos:Pos}{T id:String}{r:V->List V->Hp->VK->Prop}
def C9 (pa:PlainAttrs T) (slot:Slot T name id) (U:typeOf (.builtin id)=pure (.type "method_descriptor")) (hm:MtR X id r) (ho:PE X o to)
  (z:attributeBase o name X.env (eval o X.env)=eval o X.env:=by rfl) (J:(apos.endLine==cpos.line)=true:=by rfl):PE X (.Call (.Attribute o name apos) [] [] cpos) (HY X.K T r to):=by
 intro pins s σ H Q I h;refine wpAny_Call_method0_late z J (thn (ho pins s σ H _ I h) λv s1 ⟨x,H1,Y,Z,ty,q1⟩=>?_);obtain⟨h1,h2⟩:=xL Y Z ty;exact⟨T,id,pa,slot,U,h1,h2,Kq rfl (PySem.evalArgs_none (hm pins s1 σ H1 x [] v [] Q Y Z .nil q1))⟩
def uN (pa:PlainAttrs T) (slot:Slot T name id) (Z:typeOf (.builtin id)=pure (.type "method_descriptor")) (hm:MtR X id r) (ho:PE X o to) (ha:PA X (e::es) t)
  (J:attributeBase o name X.env (eval o X.env)=eval o X.env:=by rfl)
  (Y:((backTo cpos (starEach (e::es) X.env)).all (λx=>!x.1)&&(backToKw cpos (keywordEach [] X.env)).all (λx=>x.1.isSome)
  &&decide ((e::es).length+([]:List Keyword).length+(if ([]:List Keyword).isEmpty then 0 else 1)<30))=true:=by rfl)
  (U:(apos.endLine==cpos.line)=true:=by rfl) (hs:starEach (e::es) X.env=(false,eval e X.env)::starEach es X.env:=by rfl) (z:(backTo cpos (starEach es X.env)).any (·.1)=false:=by rfl) :
  PE X (.Call (.Attribute o name apos) (e::es) [] cpos) (tBM X.K T r to t):=by
 intro pins s σ H Q I h;refine wpAny_Call_method_late J Y U rfl (thn (ho pins s σ H _ I h) λv s1 ⟨x,H1,I1,r1,ty,q1⟩=>?_);obtain⟨h1,h2⟩:=xL I1 r1 ty;refine⟨T,id,pa,slot,Z,h1,h2,?_⟩;have hA:=ha cpos pins s1 σ H1 _ I1 q1;rw[hs]at hA ⊢;refine Kq (by show(false||(backTo cpos _).any _)=false;rw[z]<;>rfl) (Calls.evalArgs_plain ?_);exact thn hA λus s2 ⟨vs,H2,I2,r2,q2⟩=>hm pins s2 σ H2 x vs v us Q I2 r1 r2 q2
end
def MtM(X:Cx)(id:String)(r:V->List V->Hp->VK->Prop):Prop:=
 ∀pins s (σ:St) H x xs v us Q,Inv X pins σ H s->aF x v->aI xs us->r x xs H Q ->
  wpAny (model X.prog X.w) X.A (call (.builtin id) (v::us)) (EP X pins σ Q) X.xe s
theorem aI.one:∀{x}{us},aI [x] us->∃u,us=[u]/\aF x u
 | _,_,.cons r .nil=>⟨_,rfl,r⟩
def aI.zero:∀{us},aI [] us->us=[]
 | _,.nil=>rfl
theorem aI.dropLast(h:aI xs us):aI xs.dropLast us.dropLast:=by
 induction h with
 |nil=>exact .nil
 |cons r t ih =>
  cases t<;>first|exact .nil|exact .cons r ih
theorem aI.reverse(h:aI xs us):aI xs.reverse us.reverse:=by
 induction h with
 |nil=>exact .nil
 |cons r t ih=>rw[reverse_cons,reverse_cons];exact aI.append ih (.cons r .nil)
section
variable{X:Cx}{pins:List (Addr×Obj)}{σ:St}{H:Hp}{s:Shared}{l b:Addr}{xs ys zs:List V}
theorem Inv.lset{its its':List Value}{n:Nat}{f:Array Value->Array Value}{t':Nat}(I:Inv X pins σ H s)(z:H l=some (.lst xs))
  (e:s.heap.get? l=some { cls:=.type "list",data:=.seq its.toArray n }) (J:f its.toArray=its'.toArray) (hv:aI ys its') (hz:ys.length<=sizeLine) :
  Inv X pins σ (upd H l (.lst ys)) { s with heap:=s.heap.update l (Obj.mapSeq f),toks:=t' }:=by
 have q:=PySem.IsL.update e f;rw[J]at q;refine I.write (by rw[z];exact trivial) (.inl rfl) (λZ u U Y=>(Jv s.heap _ (Kg U)).trans Y) ⟨_,q⟩ ?_;exact⟨hz,its',_,hv,q⟩
theorem Inv.lnew(I:Inv X pins σ H s)(hv:aI ys its)(hz:ys.length<=sizeLine) :
  Inv X pins σ (upd H s.heap.objs.size (.lst ys)) { s with heap:=s.heap.push { cls:=.type "list",data:=.seq its.toArray },toks:=t' }:=
 I.laid (λ_ _ q=>mu _ q) (pe _) ⟨hz,its,0,hv,wh _ rfl⟩
theorem Inv.fresh(I:Inv X pins σ H s):H s.heap.objs.size=none:=I.hok.fresh (pe _)
theorem Inv.lstM (I:Inv X pins σ H s) (J:H l=some (.lst xs)):xs.length<=sizeLine/\∃its n,aI xs its/\xs.length=its.length/\s.heap.get? l=some { cls:=.type "list",data:=.seq its.toArray n }:=by
 obtain⟨z,its,n,r,e⟩:=I.hok l _ J;exact⟨z,its,n,r,r.length,e⟩
def qM(h:n<=sizeLine):Builtin.List.listTooLong n=false:=by simp_all [Builtin.List.listTooLong]
end
section
variable{X:Cx}
def AI:V->List V->Hp->VK->Prop:=λx vs H Q=>∃l xs y,x=.ref l/\vs=[y]/\H l=some (.lst xs)/\xs.length<sizeLine/\Q .non (upd H l (.lst (xs++[y])))
def kj:MtM X "list.append" AI:=by
 intro pins s σ H x vs v us Q I U Y h;refine ax λZq Z=>?_
 obtain⟨l,xs,y,rfl,rfl,J,hz,q⟩:=h;cases U;obtain⟨u,rfl,ru⟩:=Y.one;obtain⟨z,its,n,r,hl,e⟩:=I.lstM J;refine Z ?_;refine Lk F.slot_list_append ⟨_,e,rfl⟩ F.entry_list_append (F.args_list_append_2 _ _) (PySem.list_append l its.toArray n u (by rw[tr];omega)) ⟨e,?_⟩;refine⟨.non,_,I.lset J e (by simp) (r.append (.cons ru .nil)) ?_,rfl,q⟩
 grind
def HZ:V->List V->Hp->VK->Prop:=λx vs H Q=>∃l xs y,x=.ref l/\vs=[]/\H l=some (.lst xs)/\xs[xs.length-1]?=some y/\Q y (upd H l (.lst xs.dropLast))
def C_:MtM X "list.pop" HZ:=by
 intro pins s σ H x vs v us Q I Z rv h;refine ax λZq kq=>?_
 obtain⟨l,xs,y,rfl,rfl,Y,hy,q⟩:=h;cases Z;have J:=rv.zero;subst J;obtain⟨z,its,n,r,hl,e⟩:=I.lstM Y;obtain⟨u,hu,ru⟩:=r.get hy;have U:its.toArray[its.toArray.size-1]?=some u:=by
  simp_all
 refine kq ?_;refine Lk F.slot_list_pop ⟨_,e,rfl⟩ F.entry_list_pop (F.args_list_pop_1 _) (MeetsSeq.list_pop_last l its.toArray n u U (by rw[tr];omega)) ⟨e,?_⟩;refine⟨y,_,I.lset Y e ?_ r.dropLast ?_,ru,q⟩
 .simp_all
 .rw[length_dropLast];omega
def rPopAt:V->List V->Hp->VK->Prop:=λx vs H Q=>∃l xs i k y,x=.ref l/\vs=[.int i]/\H l=some (.lst xs)/\-(2 ^ 63)<=i/\i<2 ^ 63/\seqIndex? i xs.length=some k/\xs[k]?=some y/\Q y (upd H l (.lst (xs.eraseIdx k)))
end
section
variable{prog:Program}{w:World}{A:Around}{E:Value->Shared->Prop}{s:Shared}
end
section
variable{X:Cx}
end
end L2
namespace Att
open PySem PySem.W PySem.Calls PyProof.Rows List Option
def lG :∀ns vs,WellAll P h vs (ns.map WData.int)->IntsAre vs ns:=by
 intro ns
 induction ns with
 |nil =>
  intro vs w;cases w;exact .nil
 |cons n ns ih =>
  intro vs w;cases w with
  |cons a b =>
   cases a;exact .cons _ _ (ih _ b)
def v9{l:OpenLaw}(hn:l.most=some n) 
  (z:l.row.toRowW.claim.pre args=true) (Z:WellAll P h vals args) :
  ∃a vs ns,vals=[Value.ref a]/\args=[WData.list (ns.map WData.int)]/\h.get? a=some { cls:=.type "list",data:=.seq vs.toArray }/\IntsAre vs ns/\ns.length<=n:=by
 have ao:WShape.hasAll [] args [.list .int]=true:=(pre_splitW z).1;have hc:l.pre.holds [] { args:=args }=true:=(pre_splitW z).2;obtain⟨d,r,rfl,h1,h2⟩:=hasAllW_cons ao;obtain rfl:=hasAllW_nil h2;obtain⟨xs,rfl,h3⟩:=hasW_list h1;obtain⟨ns,rfl⟩:=items_int h3;have J:ns.length<=n:=by
  have Y:(WTm.not (.lt (.lit (.int (n:Int))) (.len (.arg 0)))).holds [] { args:=[.list (ns.map .int)] }=true:=by
   have Y:=(holds_andW hc).1;rw[hn]at Y;exact Y
  have h5:=condW_of Y (w_not (w_lt w_lit (w_len_list (w_arg rfl))))
  simp_all
 cases Z with
 |cons w1 w2 =>
  cases w2;cases w1 with
  |list ho U=>exact⟨_,_,ns,rfl,rfl,ho,lG ns _ U,J⟩
def v_(l:OpenLaw)(args):l.row.toRowW.claim.post args (.bool true) args=true:=
 postW_of (r:=l.row.toRowW) (X:=(true==true))
  (show WShape.has [] (.bool true) .bool=true by first|rfl|decide|simp[WShape.arms])
  (show(WTm.eq .res (.lit (.bool true))).value [] { args:=args,res:=some (.bool true),after:=args }=some (.bool (true==true))from w_eq_bool (w_res rfl) w_lit) rfl
def attach_call{l:OpenLaw}{n:Nat}{q:Program}{J:List Str}{XP:(Str->Option Value)->Heap->Prop}{YP:World->Heap->Prop}{d:DefRec}
  (hn:l.most=some n) (a2:d.params.defaults=[])
  (call:∀w s₀ z mg mb fa o pm cd U a vs ns,
   Ground q J [] XP w s₀ mg mb z.heap->YP w z.heap ->
   z.heap.get? fa=some o->o.data=.func (docDef d.name d.params d.body d.scope pm cd U)->z.heap.CodeRec cd d.name->mg d.name=some (.ref fa) ->
   z.heap.get? a=some { cls:=.type "list",data:=.seq vs.toArray }->IntsAre vs ns->ns.length<=n->z.gens=#[] ->
   codeAny (model l.prog w) callerA (.call (.ref fa) ⟨[.ref a],[]⟩) (λr s'=>r=.ok (.ret (.bool true))/\OldK z.heap s'.heap/\s'.os=z.os/\AllBare s'.gens) z) :
  WalkO q J XP YP l.row.toRowW d [] (λf vs=>PySem.call f vs):=by
 intro w s₀ z mg mb G Y fa o pm cd U dV kV ho hd a4 hD a5 hg args vals as ar b0 b4 a6 b5;obtain rfl:dV=.none:=Dflts.none hD a2;obtain rfl:kV=.none:=Dflts.noKw hD;obtain⟨a,vs,ns,rfl,rfl,aO,Z,a0⟩:=v9 hn ar a6;refine enter_call (Ky (call w s₀ z mg mb fa o pm cd U a vs ns G Y ho (fd_plain hd) a4 a5 aO Z a0 hg) λr s' hq=>?_);obtain⟨rfl,h2,h3,h4⟩:=hq;exact⟨.inl ⟨.bool true,.bool true,[],rfl,λ_=>rfl,.bool true,v_ l _,λ_=>⟨Pairwise.nil,λ_ hm=>(nomatch hm)⟩⟩,h2,h3,h4⟩
section
variable{prog:Program}{w:World}{A:Around}{E:Value->Shared->Prop}{s:Shared}{K:Frag}
end
end Att
namespace L2
open PySem PySem.Spec PyProof.Rows List Option
theorem km:∀{vs}{ns},IntsAre vs ns->aI (ns.map V.int) vs
 | _,_,.nil=>.nil
 | _,_,.cons n t h=>.cons ⟨t,rfl⟩ (km h)
def Da(H:Hp):Prop:=∀b,H b=none\/∃o xs,H b=some (.frz o (.lst xs))
def xM{K:L8} 
  (KX:K.In J.heap) (ar:J.heap.Ns mainGlobals mg) (U:J.heap.Ns builtinsNs mb) (a5:∀x:Str,x ≠ "__name__"->mb x=bootBuiltins x) (aO:J.heap.NoLimit) (hg:J.gens=#[])
  (ha:J.heap.get? a=some { cls:=.type "list",data:=.seq vs.toArray }) (hi:IntsAre vs ns) (hl:ns.length<=sizeLine) (hr:kh k callerA)
  (F:∀base,K.In base->base.Ns mainGlobals mg->jd P w K mg base CX k fa fd [x] sp) (ao:∀s u,BindsTo s fd ⟨[u],[]⟩ [(x,u)])
  (a6:∀H,Da H->SqL K H a (ns.map V.int)->sp [.ref a] H (λv _=>v=.bl true) λ_ _ _=>False)
  (a7:∀H e s',CX [] H J (λ_ _ _=>False) e s'->False) :
  codeAny (model P w) callerA (.call (.ref fa) ⟨[.ref a],[]⟩) (λr s'=>r=.ok (.ret (.bool true))/\OldK J.heap s'.heap/\s'.os=J.os/\AllBare s'.gens) J:=by
 have rv:=km hi;have a0:=hi.length;have Z:∀H,Da H->SqL K H a (ns.map V.int)->HOk P w H J.heap->(∀b,H b≠none->b=a)->(H a≠none->K.lookup a=none) ->
   codeAny (model P w) callerA (.call (.ref fa) ⟨[.ref a],[]⟩) (λr s'=>r=.ok (.ret (.bool true))/\OldK J.heap s'.heap/\s'.os=J.os/\AllBare s'.gens) J:=by
  intro H hO hS hok hA hK;have base_of:∀{b}{o},J.heap.get? b=some o->H b=none->(pC J.heap H).get? b=some o:=λe n=>xo e n
  have a8:∀{b}{o}{es}{ep},J.heap.get? b=some o->o.data=.dict es ep->H b=none:=λ{b o es ep} e d=>by
   cases q:H b with
   |none=>rfl
   |some u =>
    have e':=hA b (by rw[q];simp);subst e';rw[ha]at e;cases e
    have d':=d;cases d'
  have Y:∀{b}{m},J.heap.Ns b m->(pC J.heap H).Ns b m:=λ{b m} ⟨o,es,ep,e,d,r⟩=>⟨o,es,ep,base_of e (a8 e d),d,r⟩
  have a1:K.In (pC J.heap H):=λb o e=>base_of (KX b o e) (by
   cases q:H b with
   |none=>rfl
   |some u =>
    have e':=hA b (by rw[q];simp);subst e';rw[hK (by rw[q];simp)]at e;cases e)
  have hM:Mod K mg (pC J.heap H):=⟨a1,Y ar,⟨mb,Y U,a5⟩,let ⟨mc,h1,h2⟩:=aO;⟨mc,Y h1,h2⟩⟩;have e0:AB P w K mg (pC J.heap H) callerA [] J H:=⟨rfl,hM,λb o e=>Ao e,Ll (v0 _ _),trivial,λb U=>absurd (show b∈([]:List Addr)from U) (by simp),hok,.of_eq hg⟩;refine Ky ((F _ a1 (Y ar)).run callerA [] J H ⟨[.ref a],[]⟩ [.ref a] [.ref a] _ _ hr e0 (ao J (.ref a)) (.cons rfl .nil) (a6 H hO hS)) λr s' h=>?_
  cases r with
  |error e=>exact(a7 H e s' h).elim
  |ok fl =>
   cases fl with
   |ret u =>
    obtain⟨v,H',os,bare,un,a2,r',q⟩:=h;have q':=q;subst q';obtain rfl:u=Value.bool true:=r';refine⟨rfl,OldK.of_keep λb o e=>?_,os,bare⟩;cases q:H b with
    |none=>exact un.keep b o e q (by intro z;exact absurd (show b∈([]:List Addr)from z) (by simp)) (by simp)
    |some u =>
     rcases hO b with z|⟨ob,xs,z⟩
     .rw[q]at z;cases z
     .have z2:=un.frzs b ob _ z;obtain⟨e1,_⟩:=hok b _ z;obtain⟨e2,_⟩:=a2 b _ z2;rw[e]at e1;cases e1
      exact e2
   | _=>exact False.elim h
 cases hk:K.lookup a with
 |some o =>
  have e:=KX a o hk;rw[ha]at e;cases e;refine Z (λ_=>none) (λ_=>.inl rfl) (.inr ⟨_,vs.toArray,_,hk,rfl,rfl,rfl,by rw[tr,a0];exact hl,by simpa using rv⟩) (λb u z=>by have z':=z;cases z') (λb z=>absurd rfl z) λz=>absurd rfl z
 |none =>
  refine Z (λb=>if b=a then some (.frz { cls:=.type "list",data:=.seq vs.toArray } (.lst (ns.map V.int)))else none) (λb=>?_) (.inl (.inr ⟨{ cls:=.type "list",data:=.seq vs.toArray },if_pos rfl⟩)) (λb u z=>?_) (λb z=>?_) λ_=>hk
  .by_cases U:b=a
   .exact .inr ⟨_,_,if_pos U⟩
   .exact .inl (if_neg U)
  .by_cases U:b=a
   .have z':=(if_pos U).symm.trans z;cases z';subst U;exact⟨ha,by rw[tf];exact hl,vs,_,rv,ha⟩
   .have z':=(if_neg U).symm.trans z;cases z'
  .by_cases U:b=a
   .exact U
   .exact absurd (if_neg U) z
def AJ{l:PySem.W.OpenLaw}{n k:Nat}{q:Program}{J:List Str}{XP:(Str->Option Value)->Heap->Prop}{YP:World->Heap->Prop}{d:DefRec}{K:Params->L8}{CX:World->CXT}{sp:World->Sp}{x:Str}
  (hn:l.most=some n) (aO:n<=sizeLine) (a0:d.params.defaults=[]) (hr:kh k callerA)
  (hY:∀w h,YP w h->(K w.params).In h)
  (F:∀w mg fa h,(K w.params).In h->h.Ns mainGlobals mg->mg d.name=some (.ref fa) ->
   ∃fd,(∀s u,BindsTo s fd ⟨[u],[]⟩ [(x,u)]) /\
    ∀base,(K w.params).In base->base.Ns mainGlobals mg->jd l.prog w (K w.params) mg base (CX w) k fa fd [x] (sp w))
  (a1:∀w H a (ns:List Int),ns.length<=n->Da H->SqL (K w.params) H a (ns.map V.int)->sp w [.ref a] H (λv _=>v=.bl true) λ_ _ _=>False)
  (a2:∀w H s e s',CX w [] H s (λ_ _ _=>False) e s'->False) :
  PySem.W.WalkO q J XP YP l.row.toRowW d [] (λf vs=>PySem.call f vs):=by
 refine Att.attach_call hn a0 λw s₀ Z mg mb fa o pm cd b0 a vs ns G Y ho hd b1 a3 ao U z hg=>?_
 have KX:=hY w _ Y;obtain⟨fd,hb,hF⟩:=F w mg fa _ KX G.T.g a3;exact xM KX G.T.g G.T.b G.T.builtins G.T.nolimit hg ao U (IH z aO) hr hF hb (λH hO hS=>a1 w H a ns z hO hS) λH e s'=>a2 w H Z e s'
noncomputable def jz(s:Stmt):Arguments:=match s with
 | .FunctionDef _ a _ _ _ _ _ _ _ _=>a
 | _=>{ posonlyargs:=[],args:=[],vararg:=none,kwonlyargs:=[],kw_defaults:=[],kwarg:=none,defaults:=[] }
noncomputable def dF(s:Stmt):List Stmt:=match s with
 | .FunctionDef _ _ b _ _ _ _ _ _ _=>b
 | _=>[]
noncomputable def bu(s:Stmt):Scope:=match s with
 | .FunctionDef _ _ _ _ _ _ sc _ _ _=>sc
 | _=>{ kind:=.function,names:=[],isGenerator:=false,isCoroutine:=false }
noncomputable abbrev CX0:CXT:=λ_ _ _ _ _ _=>False
noncomputable abbrev E0:XK:=λ_ _ _=>False
def qN :pF CX0 X E0:=λ_ _ _ _ _ _ _ h=>h.elim
section
variable{P:Program}{w:World}{K:L8}{mg:Str->Option Value}{base:Heap}
end
section
variable{X:Cx}
end
def aj(H H':Hp):Prop:=∀b o,H b=some o->H' b=some o
def aj.refl(H):aj H H:=λ_ _ h=>h
def aj.trans(a:aj H H1)(b:aj H1 H2):aj H H2:=λc o h=>b c o (a c o h)
def aj.free(e:aj H H')(h:H' l=Option.none):H l=Option.none:=by
 cases q:H l with
 |none=>rfl
 |some o =>
  rw[e l o q]at h;cases h
theorem aj.seq{K:L8}(e:aj H H')(h:SqL K H a xs):SqL K H' a xs:=by
 rcases h with(h|⟨o,h⟩)|h
 .exact .inl (.inl (e _ _ h))
 .exact .inl (.inr ⟨o,e _ _ h⟩)
 .exact .inr h
section
variable{g:Type} [DecidableEq g]
noncomputable def iW(kvs:List (g×V))(k:g):Option V:=(kvs.find? λz=>decide (z.1=k)).map (·.2)
noncomputable def fX(kvs:List (g×V))(k:g)(v:V):List (g×V):=
 if (kvs.any λz=>decide (z.1=k))=true then kvs.map (λz=>if z.1=k then(z.1,v)else z)else kvs++[(k,v)]
noncomputable def Iw(kvs:List (g×V))(k:g):List (g×V):=kvs.filter λz=>decide (z.1≠k)
def mh{k:g}(e:p.1=k):iW (p::r) k=some p.2:=by simp_all [iW]
def mi{k:g}(e:¬ p.1=k):iW (p::r) k=iW r k:=by simp_all [iW]
theorem qO(k):∀kvs:List (g×V),(kvs.any λz=>decide (z.1=k))=(iW kvs k).isSome
 | []=>rfl
 |p::r=>by
  rw[any_cons];by_cases e:p.1=k
  .simp[mh e,IP e]
  .rw[mi e,Jd e,Bool.false_or];exact qO k r
def il(kvs)(k:g)(v):(fX kvs k v).length<=kvs.length+1:=by grind [fX,length_map,length_append,length_cons,length_nil]
def lF.isSome_eq(r:lF o u):o.isSome=u.isSome:=by
 cases o<;>first|(cases u<;>first|rfl|exact(show False from r).elim)|(cases u<;>first|exact(show False from r).elim|rfl)
theorem lF.getD(r:lF o u)(rd:aF d d'):aF (o.getD d) (u.getD d'):=by
 cases o<;>first|(cases u<;>first|exact rd|exact(show False from r).elim)|(cases u<;>first|exact(show False from r).elim|exact r)
theorem KV.val(r:KV kvs vs)(k:g):lF (iW kvs k) (valueAt vs k):=by
 induction r with
 |nil=>exact True.intro
 | @cons p q ps J h t ih =>
  obtain⟨h1,h2⟩:=h;by_cases e:p.1=k
  .have U:=h1.symm.trans e;have b:valueAt (q::J) k=some q.2:=by simp[valueAt,find?_cons,U]
   rw[mh e,b];exact h2
  .have U:¬ q.1=k:=λz=>e (h1.trans z)
   have b:valueAt (q::J) k=valueAt J k:=by simp[valueAt,find?_cons,U]
   rw[mi e,b];exact ih
theorem KV.any(r:KV kvs vs)(k:g):(kvs.any λz=>decide (z.1=k))=vs.any λz=>decide (z.1=k):=by
 induction r with
 |nil=>rfl
 |cons h t ih=>rw[any_cons,any_cons,ih,h.1]
def KV.repl(r:KV kvs vs)(k:g)(U:aF y u) :
  KV (kvs.map λJ=>if J.1=k then(J.1,y)else J) (vs.map λJ=>if J.1=k then(J.1,u)else J):=by
 induction r with
 |nil=>exact .nil
 | @cons p q ps Y h t ih =>
  rw[IG,IG];refine .cons ?_ ih;obtain⟨h1,h2⟩:=h;by_cases e:p.1=k
  .rw[if_pos e,if_pos (h1.symm.trans e)];exact⟨h1,U⟩
  .rw[if_neg e,if_neg (λz=>e (h1.trans z))];exact⟨h1,h2⟩
theorem KV.put(r:KV kvs vs)(k:g)(z:aF y u):KV (fX kvs k y) (stored vs k u):=by
 unfold fX stored;rw[r.any k];by_cases e:(vs.any λJ=>decide (J.1=k))=true
 .rw[if_pos e,if_pos e];exact r.repl k z
 .rw[if_neg e,if_neg e];exact Paired.snoc r ⟨rfl,z⟩
def KV.keys{vs:List (g×Value)}(r:KV kvs vs):kvs.map (·.1)=vs.map (·.1):=by
 induction r with
 |nil=>rfl
 |cons h t ih=>rw[IG,IG,ih,h.1]
theorem KV.length(r:KV kvs vs):kvs.length=vs.length:=Paired.length r
end
def mj(r:aF (kV k) u):(ca P w).is k u=true:=by
 cases k with
 |inl i=>obtain⟨t,e⟩:=(show ∃t,u=Value.int i t from r);subst e;exact qF P w i t
 |inr x=>obtain⟨t,e⟩:=(show ∃t,u=Value.str x t from r);subst e;exact qG P w x t
theorem oJ :∀{ks}{us},aI (ks.map kV) us->ItemsAre (ca P w) ks us
 | [],_,r=>by rw[map_nil]at r;cases r;exact .nil
 |k::ks,_,r=>by
  cases r with
  |cons h t=>exact .cons (mj h) (oJ t)
abbrev KT(H:Hp):List (List Key×V)->List (List Key×Addr×Value)->Prop:=Paired λp q=>p.1=q.1/\H q.2.1=some (.tup (p.1.map kV))/\aF p.2 q.2.2
theorem KT.val(r:KT H kvs xs)(k):lF (iW kvs k) ((atKey xs k).map (·.2)):=by
 induction r with
 |nil=>exact True.intro
 | @cons p q ps J h t ih =>
  obtain⟨h1,_,h2⟩:=h;by_cases e:p.1=k
  .have U:=h1.symm.trans e;have b:atKey (q::J) k=some q.2:=by simp[atKey,find?_cons,U]
   rw[mh e,b];exact h2
  .have U:¬ q.1=k:=λz=>e (h1.trans z)
   have b:atKey (q::J) k=atKey J k:=by simp[atKey,find?_cons,U]
   rw[mi e,b];exact ih
def KT.repl(r:KT H kvs xs)(k)(U:aF y u) :
  KT H (kvs.map λJ=>if J.1=k then(J.1,y)else J) (xs.map (putAt k u)):=by
 induction r with
 |nil=>exact .nil
 | @cons p q ps Z h t ih =>
  rw[IG,IG];refine .cons ?_ ih;obtain⟨h1,h2,Y⟩:=h;unfold putAt;by_cases e:p.1=k
  .rw[if_pos e,if_pos (h1.symm.trans e)];exact⟨h1,h2,U⟩
  .rw[if_neg e,if_neg (λz=>e (h1.trans z))];exact⟨h1,h2,Y⟩
theorem KT.put(r:KT H kvs xs)(k)(J:H b=some (.tup (k.map kV)))(z:aF y u) :
  KT H (fX kvs k y) (storedH xs k b u):=by
 have e:(kvs.any λU=>decide (U.1=k))=(atKey xs k).isSome:=by
  rw[qO,(r.val k).isSome_eq,isSome_map]
 unfold fX storedH;rw[e];by_cases q:(atKey xs k).isSome=true
 .rw[if_pos q,if_pos q];exact r.repl k z
 .rw[if_neg q,if_neg q];exact Paired.snoc r ⟨rfl,J,z⟩
def KT.keeps(r:KT H kvs xs)(J:∀b ys,H b=some (.tup ys)->H' b=some (.tup ys)):KT H' kvs xs:=
 Paired.mapP r λ_ _ z=>⟨z.1,J _ _ z.2.1,z.2.2⟩
section
variable{P:Program}{w:World}{H:Hp}{h:Heap}{a:Addr}
def Cb(ok:HOk P w H h)(e:Rd H a u):bQ P w H h a u:=e.ok ok
def jA(ok:HOk P w H h)(e:Rd H a (.dK kvs)):kvs.length<=sizeLine/\(a==sysModules)=false/\∃vs,KV kvs vs/\h.DictOf (ca P w) a vs:=
 show bQ P w H h a (.dK kvs)from Cb ok e
def Cc(ok:HOk P w H h)(e:H a=some (.dK kvs)):kvs.length<=sizeLine/\(a==sysModules)=false/\∃vs,KV kvs vs/\h.DictOf (ca P w) a vs:=jA ok (.inl e)
def kn(ok:HOk P w H h)(e:H a=some (.tup (ks.map kV))):(tupleKind (ca P w)).is h ks a:=by
 obtain⟨_,its,r,o,h1,h2,n,z⟩:=(show bQ P w H h a _ from ok a _ e);exact⟨o,its.toArray,n,h1,h2,z,by simpa using oJ r⟩
def k8(ok:HOk P w H h)(e:Rd H a (.dT kvs)):kvs.length<=sizeLine/\(a==sysModules)=false /\
  ∃xs,KT H kvs xs/\h.DictOfH (tupleKind (ca P w)) a xs:=by
 refine ax λZq U=>?_
 obtain⟨z,y,xs,r,o,es,ep,h1,h2,Y,Z,h5⟩:=(show bQ P w H h a _ from Cb ok e);refine U ?_;refine⟨z,y,xs,r,o,es,ep,h1,h2,Y,Z,λx hx=>?_,h5⟩;have all:∀{l}{m},KT H l m->∀x∈m,(tupleKind (ca P w)).is h x.1 x.2.1:=by
  intro l m q
  induction q with
  |nil=>intro x hx;exact nomatch hx
  | @cons p q ps qs J t ih =>
   intro x hx;rcases IB.mp hx with e|hx
   .subst e;exact kn ok (by rw[<- J.1];exact J.2.1)
   .exact ih x hx
 exact all r x hx
def F6(ok:HOk P w H h)(e:H a=some (.dT kvs)):kvs.length<=sizeLine/\(a==sysModules)=false /\
  ∃xs,KT H kvs xs/\h.DictOfH (tupleKind (ca P w)) a xs:=k8 ok (.inl e)
end
def ml(H:Hp)(a:Addr)(y:V)(r:Option V):Prop:=
 (∃kvs k,Rd H a (.dK kvs)/\y=kV k/\r=iW kvs k)\/∃kvs k b,Rd H a (.dT kvs)/\y=.ref b/\H b=some (.tup (k.map kV))/\r=iW kvs k
def mn(H:Hp)(a:Addr)(y v:V)(H':Hp):Prop:=
 (∃kvs k,H a=some (.dK kvs)/\y=kV k/\kvs.length<sizeLine/\H'=upd H a (.dK (fX kvs k v))) \/
 ∃kvs k b,H a=some (.dT kvs)/\y=.ref b/\H b=some (.tup (k.map kV))/\kvs.length<sizeLine/\H'=upd H a (.dT (fX kvs k v))
theorem mn.k{k:Key}{v:V}(e:H a=some (.dK kvs))(z:kvs.length<sizeLine):mn H a (kV k) v (upd H a (.dK (fX kvs k v))):=.inl ⟨kvs,k,e,rfl,z,rfl⟩
theorem mn.t{k:List Key}{v:V}(e:H a=some (.dT kvs))(z:H b=some (.tup (k.map kV)))(J:kvs.length<sizeLine) :
  mn H a (.ref b) v (upd H a (.dT (fX kvs k v))):=.inr ⟨kvs,k,b,e,rfl,z,J,rfl⟩
section
variable{X:Cx}{pins:List (Addr×Obj)}{σ:St}{H:Hp}{s:Shared}{a:Addr}{y v:V}{u r:Value}{o:Option V}{A:Around}{E:Value->Shared->Prop}
theorem Inv.big(I:Inv X pins σ H s):sysModules<s.heap.objs.size:=by
 have h:=(I.mod.glob.keeps I.bk).lt;exact Lm (by decide) h
def wc(hu:A.units+1<cLine)(I:Inv X pins σ H s)(g:ml H a y (some v))(ry:aF y u)(h:∀Y s',Inv X pins σ H s'->aF v Y->Q Y s') :
  wpAny (model X.prog X.w) A (getItem (.ref a) u) Q E s:=by
 rcases g with⟨kvs,k,e,Z,l⟩|⟨kvs,k,b,e,Z,eb,l⟩
 .subst Z;obtain⟨z,hd,vs,J,dd⟩:=jA I.hok e;obtain⟨Y,hw,U⟩:=lF.some_of (by rw[l];exact J.val k);exact wpAny_getItem_of (mj ry) dd.mapOf hw (h Y _ (I.tok _) U)
 .subst Z;cases (show u=Value.ref b from ry);obtain⟨z,hd,xs,J,dd⟩:=k8 I.hok e;obtain⟨Y,hw,U⟩:=lF.some_of (o:=(atKey xs k).map _) (by rw[l];exact J.val k);obtain⟨p,hp,ao⟩:=ti.mp hw;refine wpAny_getItem_heap (Ki hu) (kn I.hok eb) dd hp ?_;rw[ao];exact h Y _ (I.tok _) U
def H0(Z:A.units+1<cLine)(I:Inv X pins σ H s)(g:ml H a y o)(Y:aF y u)(h:∀s',Inv X pins σ H s'->Q (.bool o.isSome) s') :
  wpAny (model X.prog X.w) A (compareOp .In u (.ref a)) Q E s:=by
 rcases g with⟨kvs,k,e,U,l⟩|⟨kvs,k,b,e,U,eb,l⟩
 .subst U;obtain⟨z,hd,vs,J,dd⟩:=jA I.hok e;refine wpAny_in_of (mj Y) hd dd.mapOf ?_;rw[<- (J.val k).isSome_eq,<- l];exact h _ (I.tok _)
 .subst U;cases (show u=Value.ref b from Y);obtain⟨z,hd,xs,J,dd⟩:=k8 I.hok e;refine wpAny_in_heap (Ki Z) (kn I.hok eb) hd dd ?_;have q:=(J.val k).isSome_eq;rw[isSome_map]at q;rw[<- q,<- l];exact h _ (I.tok _)
def AK(Z:A.units+1<cLine)(I:Inv X pins σ H s)(g:ml H a y o)(Y:aF y u)(h:∀s',Inv X pins σ H s'->Q (.bool (!o.isSome)) s') :
  wpAny (model X.prog X.w) A (compareOp .NotIn u (.ref a)) Q E s:=by
 rcases g with⟨kvs,k,e,U,l⟩|⟨kvs,k,b,e,U,eb,l⟩
 .subst U;obtain⟨z,hd,vs,J,dd⟩:=jA I.hok e;refine wpAny_notIn_of (mj Y) hd dd.mapOf ?_;rw[<- (J.val k).isSome_eq,<- l];exact h _ (I.tok _)
 .subst U;cases (show u=Value.ref b from Y);obtain⟨z,hd,xs,J,dd⟩:=k8 I.hok e;refine wpAny_notIn_heap (Ki Z) (kn I.hok eb) hd dd ?_;have q:=(J.val k).isSome_eq;rw[isSome_map]at q;rw[<- q,<- l];exact h _ (I.tok _)
def pL(I:Inv X pins σ H s)(U:Mut (H a))(hs:Heap.SameBut a s.heap h')(Y:∃q,h'.get? a=some q)(new:bQ X.prog X.w (upd H a J) h' a J) :
  Inv X pins σ (upd H a J) { s with heap:=h',toks:=t' }:=
 I.write (x:=a) (e:=a) U (.inl rfl) (λb q Z z=>(hs.2 b Z).trans z) Y new
def xN(z:kvs.length<=sizeLine)(hd:(a==sysModules)=false)(J:KV kvs vs)(dd:h'.DictOf (ca P w) a vs) :
  bQ P w H' h' a (.dK kvs):=⟨z,hd,vs,J,dd⟩
def wd(hu:A.units+1<cLine)(I:Inv X pins σ H s)(g:mn H a y v H')(ry:aF y u)(rv:aF v r)(h:∀s',Inv X pins σ H' s'->Q () s') :
  wpAny (model X.prog X.w) A (setItem (.ref a) u r) Q E s:=by
 rcases g with⟨kvs,k,e,Z,l,eH⟩|⟨kvs,k,b,e,Z,eb,l,eH⟩
 .subst Z eH;obtain⟨z,hd,vs,J,dd⟩:=Cc I.hok e;have hz:vs.length<=sizeLine:=by rw[<- J.length];exact z
  have hl:(fX kvs k v).length<=sizeLine:=by have:=il kvs k v;omega
  refine wpAny_setItem_pairs (mj ry) dd λh' U hs=>h _ ?_
  have he:∃q,h'.get? a=some q:=let ⟨q,_,_,Y,_⟩:=U;⟨q,Y⟩
  exact pL I (by rw[e];exact True.intro) hs he (xN hl hd (J.put k rv) U)
 .subst Z eH;cases (show u=Value.ref b from ry);obtain⟨z,hd,xs,J,dd⟩:=F6 I.hok e;have hz:xs.length<=sizeLine:=by rw[<- Paired.length J];exact z
  have hl:(fX kvs k v).length<=sizeLine:=by have:=il kvs k v;omega
  refine wpAny_setItem_heap (Ki hu) (kn I.hok eb) dd λh' U hs=>h _ ?_
  refine ax λZq kq=>?_
  obtain⟨q,es,ep,Y,h2,h3,h4,_,h5⟩:=U;refine kq ?_;refine pL I (by rw[e];exact True.intro) hs ⟨q,Y⟩ ⟨hl,hd,_,(J.put k eb rv).keeps λc ys ec=>?_,q,es,ep,Y,h2,h3,h4,h5⟩;rw[aZ (Fy ec e (λz=>nomatch z))];exact ec
end
section
variable{X:Cx}{pins:List (Addr×Obj)}{σ:St}{H:Hp}{s:Shared}{a:Addr}{kvs:List (Key×V)}{k:Key}{u:Value}{A:Around}{E:Value->Shared->Prop}
end
def F7(i:Expr):Prop:=∀z J,subscripted i false z J=operate [z,J] (getItem z J)
def AL{T id:String} 
  (hl:typeLookup (.type T) "__getitem__"=pure (some (.builtin id))) (hs:F7 slice)
  (h:wpAny (model prog w) A (eval value env) (λo U=>wpAny (model prog w) A (eval slice env) (λi z=>z.TypeIs o T/\wpAny (model prog w) A (getItem o i) Q E z) E U) E s) :
  wpAny (model prog w) A (eval (.Subscript value slice pos) env) Q E s:=by
 refine Subscript_ (Je h (λo U Z=>Je Z (λi z J=>?_) λ_ _ x=>x) λ_ _ x=>x);obtain⟨hT,J⟩:=J;refine ez ?_;refine ez (Ln hT hl ?_);have fin:wpAny (model prog w) A (subscripted slice false o i) (λr Y=>wpAny (model prog w) A (letTemporaryGo value o r >>= λ_=>pure r) Q E Y) E z:=by
  rw[hs o i];exact wpAny_operating (Je J (λr Y ao=>ez (wpAny_letTemporaryGo (g4 ao))) λ_ _ x=>x)
 first
  | exact g4 (ez fin)
  | exact ez (g4 _)
  | exact ez fin
def qP (I:Inv X pins σ H s) (g:ml H a y o):s.TypeIs (.ref a) "dict":=by
 rcases g with⟨kvs,k,e,_,_⟩|⟨kvs,k,b,e,_,_,_⟩
 .obtain⟨_,_,vs,_,dd⟩:=jA I.hok e;exact dd.typeIs
 .obtain⟨_,_,xs,_,dd⟩:=k8 I.hok e;exact dd.typeIs
noncomputable def F8(td ty:TE):TE:=λσ H Q=>td σ H λx H1=>ty σ H1 λy H2=>∃a v,x=.ref a/\ml H2 a y (some v)/\Q v H2
noncomputable def H_(ty td:TE):TE:=λσ H Q=>ty σ H λy H1=>td σ H1 λx H2=>∃a o,x=.ref a/\ml H2 a y o/\Q (.bl o.isSome) H2
noncomputable def AM(ty td:TE):TE:=λσ H Q=>ty σ H λy H1=>td σ H1 λx H2=>∃a o,x=.ref a/\ml H2 a y o/\Q (.bl (!o.isSome)) H2
noncomputable def F9(td ty tv:TE):TS:=λD σ H=>tv σ H λv H1=>td σ H1 λx H2=>ty σ H2 λy J=>∃a z,x=.ref a/\mn J a y v z/\D.nx σ z
section
variable{X:Cx}{o i e value:Expr}{pos pos' tpos:Pos}{td ty tv:TE}
def uO(U:X.A.units+1<cLine)(ho:PE X o td)(hi:PE X i ty)(hs:F7 i):PE X (.Subscript o i pos) (F8 td ty):=by
 intro pins s σ H Q I h;refine AL PySem.F.slot_dict_getitem.lookup hs (thn (ho pins s σ H _ I h) λu Y ⟨x,H1,Z,rx,q1⟩=>thn (hi pins Y σ H1 _ Z q1) λiv s2 ⟨y,H2,J,ry,a,v,ex,g,q2⟩=>?_);subst ex;obtain rfl:u=Value.ref a:=rx;exact⟨qP J g,wc U J g ry λw' s3 I3 z=>⟨v,H2,I3,z,q2⟩⟩
def xO(z:X.A.units+1<cLine)(hi:PE X i ty)(ho:PE X o td):PC X .In i o (H_ ty td):=by
 intro pins s σ H Q I h;refine thn (hi pins s σ H _ I h) λiv J ⟨y,H1,U,Y,Z⟩=>thn (ho pins J σ H1 _ U Z) λu s2 ⟨x,H2,I2,rx,a,ov,ex,g,q2⟩=>?_
 subst ex;obtain rfl:u=Value.ref a:=rx;exact H0 z I2 g Y λs3 I3=>⟨.bl ov.isSome,H2,I3,rfl,q2⟩
def oK(z:X.A.units+1<cLine)(hi:PE X i ty)(ho:PE X o td):PC X .NotIn i o (AM ty td):=by
 intro pins s σ H Q I h;refine thn (hi pins s σ H _ I h) λiv J ⟨y,H1,U,Y,Z⟩=>thn (ho pins J σ H1 _ U Z) λu s2 ⟨x,H2,I2,rx,a,ov,ex,g,q2⟩=>?_
 subst ex;obtain rfl:u=Value.ref a:=rx;exact AK z I2 g Y λs3 I3=>⟨.bl _,H2,I3,rfl,q2⟩
def AN(z:X.A.units+1<cLine)(ho:PE X o td)(hi:PE X i ty)(hv:PE X value tv)(hs:swapsWith value (some (.Subscript o i pos')) pos.line X.env=pure false) :
  PS X (.Assign [.Subscript o i pos'] value pos) (F9 td ty tv):=by
 intro pins s σ H D I h;refine wpAny_Assign_Subscript (thn (hv pins s σ H _ I h) λr J ⟨v,H1,U,Y,Z⟩=>thn (ho pins J σ H1 _ U Z) λu s2 ⟨x,H2,I2,rx,q2⟩=>thn (hi pins s2 σ H2 _ I2 q2) λiv s3 ⟨y,H3,I3,ry,a,H4,ex,g,q3⟩=>?_) hs;subst ex;obtain rfl:u=Value.ref a:=rx;exact wd z I3 g ry Y λs4 I4=>⟨σ,H4,I4,q3⟩
end
def qQ (h:Heap) (z:sysModules<h.objs.size):bQ P w H (h.push { cls:=.type "dict",data:=.dict #[] }) h.objs.size (.dK []):=
 ⟨Ji _,Kf.mpr (Kg (Iz z)),[],.nil,Heap.DictOf.new h⟩
def xP (h:Heap) (z:sysModules<h.objs.size):bQ P w H (h.push { cls:=.type "dict",data:=.dict #[] }) h.objs.size (.dT []):=
 ⟨Ji _,Kf.mpr (Kg (Iz z)),[],.nil,_,#[],0,wh _ rfl,⟨rfl,rfl,rfl⟩,rfl,rfl,JU⟩
noncomputable def Db:TE:=λ_ H Q=>∀p,H p=none->Q (.ref p) (upd H p (.dK []))
noncomputable def Dc:TE:=λ_ H Q=>∀p,H p=none->Q (.ref p) (upd H p (.dT []))
section
variable{X:Cx}{pos:Pos}
def xQ:PE X (.Dict [] [] pos) Db:=λpins s σ H Q I h =>
 wpAny_Dict_empty ⟨.ref s.heap.objs.size,_,I.laid (a:=s.heap.objs.size) (o:=.dK []) (t':=s.toks) (λ_ _ q=>mu _ q) (pe _) (qQ s.heap I.big),rfl,h _ (I.hok.fresh (pe _))⟩
def xR:PE X (.Dict [] [] pos) Dc:=λpins s σ H Q I h =>
 wpAny_Dict_empty ⟨.ref s.heap.objs.size,_,I.laid (a:=s.heap.objs.size) (o:=.dT []) (t':=s.toks) (λ_ _ q=>mu _ q) (pe _) (xP s.heap I.big),rfl,h _ (I.hok.fresh (pe _))⟩
end
def pM:List (TE×TE)->St->Hp->(List (V×V)->Hp->Prop)->Prop
 | [],_,H,Q=>Q [] H
 | (tk,tv)::r,σ,H,Q=>tk σ H λx H1=>tv σ H1 λy H2=>pM r σ H2 λps z=>Q ((x,y)::ps) z
abbrev VV:List (V×V)->List (Value×Value)->Prop:=Paired λp q=>aF p.1 q.1/\aF p.2 q.2
def PPs(X:Cx)(pos:Pos)(keys:List (Option Expr))(z:List Expr)(J:List (TE×TE)):Prop:=
 ∀pins s (σ:St) H Q,Inv X pins σ H s->pM J σ H Q ->
  wpAny (model X.prog X.w) X.A (evalPairs (pairTrees keys z X.env pos)) (λvs s'=>∃ps H',Inv X pins σ H' s'/\VV ps vs/\Q ps H') X.xe s
def AO :PPs X pos [] [] []:=λpins s σ H Q I h=>pairTrees_nil_walk ⟨[],H,I,.nil,h⟩
def xS(U:PE X k tk)(hv:PE X v tv)(Y:PPs X pos ks vs z) :
  PPs X pos (some k::ks) (v::vs) ((tk,tv)::z):=λpins s σ H Q I h =>
 pairTrees_cons_walk (thn (U pins s σ H _ I h) λu Z ⟨x,H1,I1,rx,q1⟩=>thn (hv pins Z σ H1 _ I1 q1) λw2 s2 ⟨y,H2,I2,ry,q2⟩ =>
  thn (Y pins s2 σ H2 _ I2 q2) λws s3 ⟨ps,H3,I3,J,q3⟩=>⟨(x,y)::ps,H3,I3,.cons ⟨rx,ry⟩ J,q3⟩)
noncomputable def im(kvs z:List (Key×V)):List (Key×V):=z.foldl (λacc J=>fX acc J.1 J.2) kvs
def KV.merge:∀{z}{J}{kvs}{vs},KV z J->KV kvs vs->KV (im kvs z) (merged vs J):=by
 intro z J kvs vs r
 induction r generalizing kvs vs with
 |nil=>intro q;exact q
 | @cons p q ps Y h t ih =>
  intro U;have e:KV (fX kvs p.1 p.2) (stored vs q.1 q.2):=by
   have:=U.put p.1 h.2;rw[<- h.1];exact this
  exact ih e
theorem i4:∀z kvs,(im kvs z).length<=kvs.length+z.length
 | [],kvs=>by show kvs.length<=kvs.length+0;omega
 |p::r,kvs=>by
  have h1:=i4 r (fX kvs p.1 p.2);have h2:=il kvs p.1 p.2;show(im (fX kvs p.1 p.2) r).length<=_
  grind
theorem mq :∀{kvs}{J},VV (kvs.map λU=>(kV U.1,U.2)) J->∃z,Carries (ca P w) J z/\KV kvs z
 | [],_,r=>by rw[map_nil]at r;cases r;exact⟨[],True.intro,.nil⟩
 |p::kvs,_,r=>by
  cases r with
  | @cons a b as bs h t =>
   obtain⟨z,c,q⟩:=mq (P:=P) (w:=w) t;obtain⟨Z,Y⟩:=b;exact⟨(p.1,Y)::z,⟨mj h.1,rfl,c⟩,.cons ⟨rfl,h.2⟩ q⟩
noncomputable def F_(z:List (TE×TE)):TE:=λσ H Q=>∀p,H p=none->pM z σ (upd H p (.dK [])) λps H2=>H2 p=some (.dK [])/\∃kvs,ps=kvs.map (λJ=>(kV J.1,J.2))/\kvs.length<=15/\Q (.ref p) (upd H2 p (.dK (im [] kvs)))
def AQ(h:PPs X pos keys values Y)(J:keys.all (·.isSome)=true)(hl:keys.length=values.length)(h0:keys≠[])
  (Z:keys.length<=15):PE X (.Dict keys values pos) (F_ Y):=by
 intro pins s σ H Q I q;have hn:=I.hok.fresh (pe s.heap.objs.size);have I1:=I.laid (t':=s.toks) (λ_ _ q=>mu _ q) (pe _) (qQ s.heap I.big);refine wpAny_Dict_walk (knd:=ca X.prog X.w) J hl h0 Z (thn (h pins _ σ _ _ I1 (q _ hn)) λws s2 ⟨ps,H2,I2,ao,e,kvs,ep,lk,q2⟩=>?_);refine ax λZq kq=>?_
 subst ep;obtain⟨rs,c,rk⟩:=mq ao;obtain⟨z,hd,a7,r0,dd⟩:=Cc I2.hok e;cases r0;refine kq ?_;refine⟨rs,c,dd,λh' U hs=>⟨.ref s.heap.objs.size,_,?_,rfl,q2⟩⟩;have hz:(im [] kvs).length<=sizeLine:=by
  have h1:=i4 kvs [];rw[length_nil]at h1;rw[Jo];omega
 have he:∃q,h'.get? s.heap.objs.size=some q:=let ⟨q,_,_,hq,_⟩:=U;⟨q,hq⟩
 exact pL I2 (by rw[e];exact True.intro) hs he (xN hz hd (rk.merge .nil) U)
structure M2(X:Cx)(o:Expr)(m:Str)(apos:Pos)(e f:Expr)(cpos:Pos):Prop where
 base:attributeBase o m X.env (eval o X.env)=eval o X.env
 few:((backTo cpos (starEach [e,f] X.env)).all (λx=>!x.1)&&(backToKw cpos (keywordEach [] X.env)).all (λx=>x.1.isSome)
 &&decide (([e,f]:List Expr).length+([]:List Keyword).length+(if ([]:List Keyword).isEmpty then 0 else 1)<30))=true
 line:(apos.endLine==cpos.line)=true
 trees:backTo cpos (starEach [e,f] X.env)=[(false,eval e X.env),(false,eval f X.env)]
def IsD(H:Hp)(a:Addr):Prop:=(∃kvs,Rd H a (.dK kvs))\/∃kvs,Rd H a (.dT kvs)
def sP(I:Inv X pins σ H s)(d:IsD H a) :
  s.TypeIs (.ref a) "dict"/\(∀b,Value.ref a=.ref b->∃z,s.heap.get? b=some z/\z.dict=none)/\(a==sysModules)=false:=by
 rcases d with⟨kvs,e⟩|⟨kvs,e⟩
 .obtain⟨_,hd,vs,_,dd⟩:=jA I.hok e;refine⟨dd.typeIs,λb q=>?_,hd⟩;cases q;obtain⟨z,_,_,h1,h2,_⟩:=dd;exact⟨z,h1,h2.2.1⟩
 .obtain⟨_,hd,xs,_,dd⟩:=k8 I.hok e;refine⟨dd.typeIs,λb q=>?_,hd⟩;cases q;obtain⟨z,_,_,h1,h2,_⟩:=dd;exact⟨z,h1,h2.2.1⟩
section
variable{X:Cx}{pins:List (Addr×Obj)}{σ:St}{H:Hp}{s:Shared}{a:Addr}{y d:V}{u r:Value}{o:Option V}{A:Around}{E:Value->Shared->Prop}
def Dd(hu:A.units+1<cLine)(I:Inv X pins σ H s)(g:ml H a y o)(Y:aF y u)(rd:aF d r)(h:∀Z s',Inv X pins σ H s'->aF (o.getD d) Z->Q Z s') :
  wpAny (model X.prog X.w) A (call (.builtin "dict.get") [.ref a,u,r]) Q E s:=by
 rcases g with⟨kvs,k,e,U,l⟩|⟨kvs,k,b,e,U,eb,l⟩
 .subst U;obtain⟨z,hd,vs,J,dd⟩:=jA I.hok e;refine call_meetsIn PySem.F.slot_dict_get dd.typeIs PySem.F.entry_dict_get (PySem.F.args_dict_get_3 _ _ _) (meets_dict_get_default _ a (mj Y) hd r) ⟨_,dd.mapOf,h _ _ (I.tok _) ?_⟩;rw[l];exact(J.val k).getD rd
 .subst U;cases (show u=Value.ref b from Y);obtain⟨z,hd,xs,J,dd⟩:=k8 I.hok e;refine call_meetsIn PySem.F.slot_dict_get dd.typeIs PySem.F.entry_dict_get (PySem.F.args_dict_get_3 _ _ _) (meetsH_dict_get_default (tupleKind _) a b hd r) ⟨Ki hu,k,xs,kn I.hok eb,dd,h _ _ (I.tok _) ?_⟩;rw[l];exact(J.val k).getD rd
end
noncomputable def De(td ty tx:TE):TE:=λσ H Q=>td σ H λx H1=>∃a,x=.ref a/\IsD H1 a/\ty σ H1 λy H2=>tx σ H2 λz J=>∃o,ml J a y o/\Q (o.getD z) J
section
variable{X:Cx}{o e f:Expr}{apos cpos:Pos}{td ty tx:TE}
def xT (Y:X.A.units+1<cLine) (ho:PE X o td) (Z:PE X e ty) (hf:PE X f tx) (m:M2 X o "get" apos e f cpos):PE X (.Call (.Attribute o "get" apos) [e,f] [] cpos) (De td ty tx):=by
 intro pins s σ H Q I h;refine wpAny_Call_method m.base m.few m.line PySem.F.plainAttrs_dict PySem.F.slot_dict_get PySem.F.type_dict_get (thn (ho pins s σ H _ I h) λu s1 ⟨x,H1,U,rx,a,ex,d,q1⟩=>?_);subst ex;obtain rfl:u=Value.ref a:=rx;obtain⟨t1,t2,_⟩:=sP U d;refine⟨t1,t2,?_⟩;rw[m.trees];refine Kq rfl (Calls.evalArgs_plain (K0 (thn (Z pins s1 σ H1 _ U q1) λiv s2 ⟨y,H2,I2,ry,q2⟩ =>
  K0 (thn (hf pins s2 σ H2 _ I2 q2) λfv s3 ⟨z,H3,I3,rz,ov,g,q3⟩=>LM ?_))))
 exact Dd Y I3 g ry rz λw' s4 I4 J=>⟨_,H3,I4,J,q3⟩
end
section
variable{X:Cx}{pins:List (Addr×Obj)}{σ:St}{H:Hp}{s:Shared}{a:Addr}{kvs:List (Key×V)}{A:Around}{E:Value->Shared->Prop}
end
section
variable{X:Cx}{pins:List (Addr×Obj)}{σ:St}{H:Hp}{s:Shared}{a:Addr}{y:V}{u:Value}{A:Around}{E:Value->Shared->Prop}
end
end L2
namespace L2.Srt
open PySem PySem.W PyProof.Rows List Option
section
variable{O:KeyOrd}{key:Nat->O.α}{N:Nat}{cmp:Nat->Nat->(Bool->Shared->Prop)->Shared->Prop}{s:Shared}
noncomputable def kk(key:Nat->O.α)(p:Array Nat)(i:Nat):O.α:=key (p.getD i 0)
def fu(key:Nat->O.α)(p:Array Nat)(k:Nat):Prop:=∀i j,i<=j->j<k->O.kle (kk key p i) (kk key p j)
def qR(key:Nat->O.α)(p:Array Nat)(k:Nat):Prop:=∀i j,i<=j->j<k->O.kle (kk key p j) (kk key p i)
def PB(N:Nat)(p:Array Nat):Prop:=p.Perm (range N).toArray
theorem PB.size(h:PB N p):p.size=N:=by have:=h.size_eq;simpa using this
theorem PB.lt(h:PB N p)(hi:i<N):p.getD i 0<N:=by
 have hs:i<p.size:=by rw[h.size];exact hi
 have z:p[i]∈(range N):=by
  have e:=(KL.mp h).mem_iff (a:=p[i])
  simp_all
 simp_all
theorem PB.rev(h:PB N p)(i j):PB N (kas_rev p i j):=(mirror_perm _ _ _ _).trans h
theorem PB.bub(h:PB N p)(i j):PB N (bubble p i j):=(bubble_perm _ _ _).trans h
def ip(h:p[i]?=q[j]?):kk key p i=kk key q j:=by
 unfold kk;rw[JV,JV,h]
def we(hs:src<p.size)(hd:d<=src)(k) :
  kk key (bubble p src d) k=if k=src-d then kk key p src else if src-d<k/\k<=src then kk key p (k-1)else kk key p k:=by
 have e:=getElem?_bubble hs d hd k;by_cases h1:k=src-d
 .rw[if_pos h1]at e ⊢;exact ip e
 .rw[if_neg h1]at e ⊢;by_cases h2:src-d<k/\k<=src
  .rw[if_pos h2]at e ⊢;exact ip e
  .rw[if_neg h2]at e ⊢;exact ip e
def sQ(z:j<=p.size)(k) :
  kk key (kas_rev p i j) k=if i<=k/\k<j then kk key p (i+j-1-k)else kk key p k:=by
 have e:=getElem?_mirror_all (i:=i) z k;by_cases h1:i<=k/\k<j
 .rw[if_pos h1]at e ⊢;exact ip e
 .rw[if_neg h1]at e ⊢;exact ip e
def dk(z:j<=p.size)(J:∀k,i<=k->k<j->kk key p k=kk key p (j-1))(k) :
  kk key (kas_rev p i j) k=kk key p k:=by
 rw[sQ z]
 grind
variable(hc:∀a b C,a<N->b<N->C (O.blt (key a) (key b)) s->cmp a b C s)
include hc
def qS{Q:α->Shared->Prop}(z:PB N p)(hi:i<N)(J:j<N)
  (h:(k (O.blt (kk key p i) (kk key p j))).kasWp cmp Q s):(KasT.ask (p.getD i 0) (p.getD j 0) k).kasWp cmp Q s:=
 hc _ _ _ (z.lt hi) (z.lt J) h
theorem xU(hp:PB N p)(hn:z<=N):∀f n,n+f=z->1<=n->fu key p n ->
  (∀m,n<=m->m<=z->fu key p m->(m=z\/O.klt (kk key p m) (kk key p (m-1)))->Q m s)->(kas_asc p f n).kasWp cmp Q s
 |0,n,e,h1,hs,h=>h n (pe _) (by omega) hs (.inl (by omega))
 |f+1,n,e,h1,hs,h=>by
  refine qS hc hp (by omega) (by omega) ?_;cases J:O.blt (kk key p n) (kk key p (n-1))with
  |true =>
   exact h n (pe _) (by omega) hs (.inr J)
  |false =>
   refine xU hp hn f (n+1) (by omega) (by omega) (λi j U hj=>?_) λm a b c d=>h m (by omega) b c d
   by_cases Y:j<n
   .exact hs i j U Y
   .have Z:j=n:=by omega
    subst Z;by_cases ao:i=j
    .subst ao;exact JF _
    .exact KG (hs i _ (by omega) (by omega)) J
def uP{n z:Nat}{Q:Nat×Array Nat->Shared->Prop}(J:PB N p)(Y:z<=N)(h1:1<=n)(Z:n<=z)(hs:qR key p n)
  (h:∀m U,PB N U->1<=m->m<=z->fu key U m->Q (m,U) s):(kas_tail3 n z p).kasWp cmp Q s:=by
 unfold kas_tail3;rw[KU];have hz:n<=p.size:=by rw[J.size];omega
 refine xU hc (J.rev 0 n) Y _ n (by omega) h1 (λi j ao hj=>?_) λm a b c _=>h m _ (J.rev 0 n) (by omega) b c
 rw[sQ hz,sQ hz,if_pos (by omega),if_pos (by omega)];exact hs _ _ (by omega) (by omega)
theorem pN{J:Nat}{Q:Array Nat×Nat×Nat->Shared->Prop}(hn:J<=N):∀(f:Nat) (p:Array Nat) (n q:Nat),n+f=J->PB N p->qR key p n->q+1<=n ->
  (∀i,n-(q+1)<=i->i<n->kk key p i=kk key p (n-1)) ->
  (∀z m q',n<=m->m<=J->PB N z->qR key z m->q'+1<=m->(∀i,m-(q'+1)<=i->i<m->kk key z i=kk key z (m-1))->Q (z,m,q') s) ->
  (kas_desc f p n q).kasWp cmp Q s
 |0,p,n,q,e,hp,hs,hq,he,h=>h p n q (pe _) (by omega) hp hs hq he
 |f+1,p,n,q,e,hp,hs,hq,he,h=>by
  show(KasT.ask (p.getD n 0) (p.getD (n-1) 0) λc =>
   if c=true then(if q > 0 then kas_desc f (kas_rev p (n-(q+1)) n) (n+1) 0 else kas_desc f p (n+1) 0)
   else .ask (p.getD (n-1) 0) (p.getD n 0) λd=>if d=true then .ret (p,n,q)else kas_desc f p (n+1) (q+1)).kasWp cmp Q s
  have nN:n<N:=by omega
  have hz:n<=p.size:=by rw[hp.size];exact JS nN
  refine qS hc hp nN (JW (LQ n 1) nN) ?_;cases U:O.blt (kk key p n) (kk key p (n-1))with
  |true =>
   rw[if_pos rfl];have Y:∀z:Array Nat,(∀k,kk key z k=kk key p k)->qR key z (n+1):=by
    intro z hk i j Z hj;rw[hk,hk];by_cases ao:j<n
    .exact hs i j Z ao
    .have a4:j=n:=Kj (Ku hj) (JM.mp ao);subst a4;by_cases ar:i=j
     .subst ar;exact JF _
     .exact KG (Kv U) (hs i (j-1) (Nat.le_sub_one_of_lt (Nat.lt_of_le_of_ne Z ar)) (Nat.sub_lt (IF (Nat.succ_pos q) hq) Nat.one_pos))
   by_cases a2:q > 0
   .rw[if_pos a2];exact pN hn f _ (n+1) 0 ((JA n 1 f).trans e) (hp.rev _ _) (Y _ (dk hz he)) (KW 1 n) (λi a b=>by congr 1;omega)
     λz m q' a=>h z m q' (La a)
   .rw[if_neg a2];exact pN hn f p (n+1) 0 ((JA n 1 f).trans e) hp (Y _ λ_=>rfl) (KW 1 n) (λi a b=>by congr 1;omega) λz m q' a=>h z m q' (La a)
  |false =>
   rw[if_neg (by simp)];refine qS hc hp (JW (LQ n 1) nN) nN ?_;cases aO:O.blt (kk key p (n-1)) (kk key p n)with
   |true =>
    rw[if_pos rfl];exact h p n q (pe _) (by omega) hp hs hq he
   |false =>
    rw[if_neg (by simp)];have a3:kk key p n=kk key p (n-1):=KeyOrd.kle_antisymm aO U;refine pN hn f p (n+1) (q+1) ((JA n 1 f).trans e) hp (λi j Z hj=>?_) (Nat.succ_le_succ hq) (λi a b=>?_) λz m q' a=>h z m q' (La a)
    .by_cases ao:j<n
     .exact hs i j Z ao
     .have a4:j=n:=Kj (Ku hj) (JM.mp ao);subst a4;by_cases ar:i=j
      .subst ar;exact JF _
      .rw[a3];exact hs i (j-1) (Nat.le_sub_one_of_lt (Nat.lt_of_le_of_ne Z ar)) (Nat.sub_lt (IF (Nat.succ_pos q) hq) Nat.one_pos)
    .rw[JX];by_cases a9:i=n
     .subst a9;rfl
     .rw[a3];exact he i (by omega) (by omega)
def mr{n z:Nat}{Q:Nat×Array Nat->Shared->Prop}(hp:PB N p)(hn:z<=N)(a2:n+1<=z)(hs:qR key p (n+1))
  (h:∀m Y,PB N Y->1<=m->m<=z->fu key Y m->Q (m,Y) s):(kas_descPart n z p).kasWp cmp Q s:=by
 unfold kas_descPart;rw[KU];refine pN hc hn (z-_) p _ 0 (by omega) hp hs (by omega) (λi a b=>by congr 1;omega) λY m q' a4 Z U ao hq he=>?_
 dsimp only;have hz:m<=Y.size:=by rw[U.size];omega
 by_cases J:q' > 0
 .rw[if_pos J];refine uP hc (U.rev _ _) hn (by omega) Z (λi j aO hj=>?_) h;rw[dk hz he,dk hz he];exact ao i j aO hj
 .rw[if_neg J];exact uP hc U hn (by omega) Z ao h
def AR(Y:PB N p)(hn:z<=N)(h1:1<=z)
  (h:∀m p',PB N p'->1<=m->m<=z->fu key p' m->Q (m,p') s):(kas_count z p).kasWp cmp Q s:=by
 unfold kas_count;rw[KU];refine xU hc Y hn (z-1) 1 (by omega) (pe _) (λi j aO hj=>by have:i=j:=(by omega);subst this;exact JF _) λn a0 a3 U b0=>?_
 by_cases Z:n=z
 .rw[if_pos (by simpa using Z)];exact h n p Y a0 a3 U
 .rw[if_neg (by simpa using Z)];have a4:=b0.resolve_left Z;by_cases a5:n > 1
  .rw[if_pos a5];refine qS hc Y (by omega) (by omega) ?_;cases ao:O.blt (kk key p 0) (kk key p (n-1))with
   |true =>
    rw[if_pos rfl];exact h n p Y a0 a3 U
   |false =>
    rw[if_neg (by simp)];have a6:n<=p.size:=by rw[Y.size];omega
    have J:∀k,0<=k->k<n->kk key p k=kk key p (n-1):=by
     intro k _ hk;have a1:=U 0 k (by omega) hk;have a2:=U k (n-1) (by omega) (by omega);exact KeyOrd.kle_antisymm a2 (KG ao a1)
    refine mr hc (Y.rev _ _) hn (by omega) (λi j aO hj=>?_) h;rw[dk a6 J,dk a6 J];by_cases b1:j<n
    .rw[J i (by omega) (by omega),J j (by omega) b1];exact JF _
    .have b2:j=n:=by omega
     subst b2;by_cases ar:i=j
     .subst ar;exact JF _
     .rw[J i (by omega) (by omega)];exact Kv a4
  .rw[if_neg a5];have a7:n=1:=by omega
   subst a7;refine mr hc Y hn (by omega) (λi j aO hj=>?_) h;by_cases ar:i=j
   .subst ar;exact JF _
   .have b3:i=0:=by omega
    have b4:j=1:=by omega
    subst b3;subst b4
    exact Kv a4
theorem pO{p:Array Nat}{k:Nat}{Q:Nat->Shared->Prop}(hp:PB N p)(hk:k<N)(hs:fu key p k):∀(f l r:Nat),r<=l+f->l<=r->r<=k ->
  (∀i,i<l->O.kle (kk key p i) (kk key p k))->(∀i,r<=i->i<k->O.klt (kk key p k) (kk key p i)) ->
  (∀l,l<=k->(∀i,i<l->O.kle (kk key p i) (kk key p k))->(∀i,l<=i->i<k->O.klt (kk key p k) (kk key p i))->Q l s)->(kas_place p k f l r).kasWp cmp Q s
 |0,l,r,hf,Z,z,U,Y,h=>by
  have:l=r:=Kj Z hf;subst this;exact h l z U Y
 |f+1,l,r,hf,Z,z,U,Y,h=>by
  show(if l>=r then KasT.ret l else .ask (p.getD k 0) (p.getD ((l+r) / 2) 0) λc=>if c=true then kas_place p k f l ((l+r) / 2)else kas_place p k f ((l+r) / 2+1) r).kasWp cmp Q s;by_cases ao:l>=r
  .rw[if_pos ao];have:l=r:=Kj Z ao;subst this;exact h l z U Y
  .rw[if_neg ao];obtain⟨m,em,m1,m2⟩:∃m,(l+r) / 2=m/\l<=m/\m<r:=⟨_,rfl,by omega,by omega⟩;rw[em];have mk:=IF m2 z;refine qS hc hp hk (Lm mk hk) ?_;cases J:O.blt (kk key p k) (kk key p m)with
   |true =>
    rw[if_pos rfl];exact pO hp hk hs f l m (by omega) m1 (JS mk) U (λi a b=>KeyOrd.klt_of_klt_of_kle J (hs _ _ a b)) h
   |false =>
    rw[if_neg (by simp)];exact pO hp hk hs f (m+1) r (by omega) m2 z (λi a=>KG (hs i m (Ku a) mk) (show O.kle _ _ from J)) Y h
theorem Cd{Q:Array Nat->Shared->Prop}:∀(f:Nat) (p:Array Nat) (k:Nat),k+f=N->PB N p->fu key p k->(∀p',PB N p'->fu key p' N->Q p' s)->(kas_bin f p k).kasWp cmp Q s
 |0,p,k,e,Z,hs,h=>by
  have:k=N:=by omega
  subst this;exact h p Z hs
 |f+1,p,k,e,Z,hs,h=>by
  show((kas_place p k k 0 k).bind λl=>kas_bin f (bubble p k (k-l)) (k+1)).kasWp cmp Q s;rw[KU];refine pO hc Z (by omega) hs k 0 k (KW k 0) (Ji k) (pe k) (λi a=>absurd a (Nat.not_lt_zero i)) (λi a b=>absurd b (JM.mpr a)) λl hl aO a0=>?_
  refine Cd f _ (k+1) (by omega) (Z.bub _ _) (λi j J hj=>?_) h;have a1:k<p.size:=by rw[Z.size];omega
  have val:∀i,i<k+1->(i<l/\kk key (bubble p k (k-l)) i=kk key p i)\/(i=l/\kk key (bubble p k (k-l)) i=kk key p k)\/∃U,i=U+1/\l<=U/\U<k/\kk key (bubble p k (k-l)) i=kk key p U:=λi hi=>by
   rw[we a1 (LQ k l),Nat.sub_sub_self hl];rcases Nat.lt_trichotomy i l with q|q|q
   .exact .inl ⟨q,by rw[if_neg (Iz q),if_neg λz=>Nat.lt_asymm q z.1]⟩
   .exact .inr (.inl ⟨q,by rw[if_pos q]⟩)
   .obtain⟨c,rfl⟩:=K8 q;exact .inr (.inr ⟨l+c,rfl,Nat.le_add_right _ _,Nat.lt_of_succ_lt_succ hi,by rw[if_neg (JL q),if_pos ⟨q,Ku hi⟩];rfl⟩)
  rcases val i (JW J hj)with⟨a,e1⟩|⟨a,e1⟩|⟨U,a,b,c,e1⟩<;>rcases val j hj with⟨Y,e2⟩|⟨Y,e2⟩|⟨j',Y,b',c',e2⟩<;>rw[e1,e2]
  .exact hs i j J (IF Y hl)
  .exact aO i a
  .exact hs i j' (IH (JS a) b') c'
  .exact absurd Y (JM.mpr (a▸J))
  .exact JF _
  .exact Kv (a0 j' b' c')
  .exact absurd (JW (a▸J:U+1<=j) Y) (JM.mpr (Nat.le_succ_of_le b))
  .exact absurd (Y▸a▸J:U+1<=l) (Nat.not_le.mpr (Nat.lt_succ_of_le b))
  .exact hs U j' (Nat.le_of_succ_le_succ (Y▸a▸J:U+1<=j'+1)) c'
def Dg(h1:1<=N)(h:∀p,PB N p->fu key p N->Q p s):(kas_sort N).kasWp cmp Q s:=by
 unfold kas_sort;rw[KU];refine AR hc (Array.Perm.refl _) (pe _) h1 λm Y z Z ao J=>?_
 by_cases U:m<N
 .rw[if_pos U,show max m 1=m by omega];exact Cd hc _ _ _ (by omega) z J h
 .rw[if_neg U];have:m=N:=by omega
  subst this;exact h Y z J
end
end L2.Srt
namespace L2.Srt
open PySem PyProof.Rows List Option
theorem mw:∀a,HT.lexLt a a=false
 | []=>rfl
 |x::r=>by rw[HT.lexLt_cons,if_pos rfl];exact mw r
theorem ko:∀a b c,HT.lexLt a b=true->HT.lexLt b c=true->HT.lexLt a c=true
 | [],[],_,h,_=>by cases h
 | [],_::_,[],_,h=>by cases h
 | [],_::_,_::_,_,_=>rfl
 | _::_,[],_,h,_=>by cases h
 | _::_,_::_,[],_,h=>by cases h
 |x::a,y::b,z::c,h1,h2=>by
  rw[HT.lexLt_cons]at h1 h2 ⊢;by_cases J:x=y
  .rw[if_pos J]at h1;by_cases U:y=z
   .rw[if_pos U]at h2;rw[if_pos (J.trans U)];exact ko a b c h1 h2
   .simp_all
  .grind
theorem kr:∀a b,HT.lexLt a b=false->HT.lexLt b a=false->a=b
 | [],[],_,_=>rfl
 | [],_::_,h,_=>by cases h
 | _::_,[],_,h=>by cases h
 |x::a,y::b,h1,h2=>by
  rw[HT.lexLt_cons]at h1 h2;by_cases e:x=y
  .rw[if_pos e]at h1;rw[if_pos e.symm]at h2;rw[e,kr a b h1 h2]
  .grind
def AS(a b c)(h:HT.lexLt a c=true):HT.lexLt a b=true\/HT.lexLt b c=true:=by
 cases h1:HT.lexLt a b with
 |true=>exact .inl rfl
 |false =>
  cases h2:HT.lexLt b a<;>first|exact .inr (ko b a c h2 h)|(rw[kr a b h1 h2]at h;exact .inr h)
noncomputable def eS:KeyOrd:=⟨List Int,HT.lexLt,mw,ko,AS,kr⟩
noncomputable def dC:KeyOrd:=⟨Int,λa b=>decide (a<b),λa=>Jd (by omega),λa b c h1 h2=>IP (by have:=Jx h1;have:=Jx h2;omega),
 λa b c h=>by
  have:=Jx h;by_cases q:a<b
  .exact .inl (IP q)
  .exact .inr (IP (by omega)),
 λa b h1 h2=>by have:=of_decide_eq_false h1;have:=of_decide_eq_false h2;omega⟩
section
variable(O:KeyOrd)
noncomputable def lH(x:O.α):List O.α->List O.α
 | []=>[x]
 |y::r=>if O.blt y x then y::lH x r else x::y::r
noncomputable def iq:List O.α->List O.α
 | []=>[]
 |x::r=>lH O x (iq r)
theorem ku(x):∀l,(lH O x l).Perm (x::l)
 | []=>.refl _
 |y::r=>by
  show(if O.blt y x then y::lH O x r else x::y::r).Perm _;split
  .exact(Perm.cons y (ku x r)).trans (.swap x y r)
  .exact .refl _
theorem eT:∀l,(iq O l).Perm l
 | []=>.refl _
 |x::r=>(ku O x _).trans (.cons x (eT r))
theorem mx(x):∀l,l.Pairwise O.kle->(lH O x l).Pairwise O.kle
 | [],_=>pairwise_singleton _ _
 |y::r,h=>by
  show(if O.blt y x then y::lH O x r else x::y::r).Pairwise O.kle;obtain⟨h1,h2⟩:=Kh.mp h;by_cases q:O.blt y x=true
  .rw[if_pos q];refine Kh.mpr ⟨λz hz=>?_,mx x r h2⟩;rcases IB.mp ((ku O x r).mem_iff.mp hz)with e|e
   .rw[e];exact Kv q
   .exact h1 z e
  .rw[if_neg q];have J:=Bool.eq_false_iff.mpr q;refine Kh.mpr ⟨λz hz=>?_,h⟩;rcases IB.mp hz with e|e
   .rw[e];exact J
   .exact KG J (h1 z e)
theorem dP:∀l,(iq O l).Pairwise O.kle
 | []=>Pairwise.nil
 |x::r=>mx O x _ (dP r)
theorem jB:∀{a b:List O.α},a.Perm b->a.Pairwise O.kle->b.Pairwise O.kle->a=b
 | [],b,p,_,_=>p.nil_eq
 |x::a,[],p,_,_=>by have:=p.length_eq;simp at this
 |x::a,y::b,p,J,U=>by
  obtain⟨Y,Z⟩:=Kh.mp J;obtain⟨b1,b2⟩:=Kh.mp U;have e:x=y:=by
   have hx:=p.mem_iff.mp (.head _);have hy:=p.mem_iff.mpr (.head _);rcases IB.mp hx with q|q
   .exact q
   .rcases IB.mp hy with z|z
    .exact z.symm
    .exact KeyOrd.kle_antisymm (Y y z) (b1 x q)
  subst e;rw[jB (p.cons_inv) Z b2]
def my(p:a.Perm l)(h:a.Pairwise O.kle):a=iq O l:=jB O (p.trans (eT O l).symm) h (dP O l)
def n0(p:a.Perm b):iq O a=iq O b:=my O ((eT O a).trans p) (dP O a)
end
def iM{α:Type}(xs)(d:α):(range xs.length).map (λi=>xs.getD i d)=xs:=by
 apply LV;intro i;rw[IS];by_cases q:i<xs.length
 .simp_all
 .simp_all
def Dh(J:PB xs.length p)(Y:fu (λi=>xs.getD i d) p xs.length):p.toList.map (λi=>xs.getD i d)=iq O xs:=by
 refine my O ?_ ?_
 .have h:=(KL.mp J).map λi=>xs.getD i d
  have e:=iM xs d;rw[e]at h;exact h
 .rw[pairwise_iff_getElem];intro i j hi U z;rw[tf,Array.length_toList]at hi U;have hz:=J.size;have q:=Y i j (JS z) (by omega);simp only[getElem_map];have Z:p.getD i 0=p[i]:=by simp[hi]
  have ej:p.getD j 0=p[j]:=by simp[U]
  unfold kk at q;rw[Z,ej]at q;exact q
end L2.Srt
namespace L2.Srt
open PySem PySem.W PySem.Calls PyProof.Rows List Option
section
variable{prog:Program}{w:World}{A:Around}{E:Value->Shared->Prop}{s:Shared}
def KOk(g:SortKind):Prop:=g=tuples' true\/g=general'\/g=oneType'
def pP {KO:SortKind->Prop}{O:KeyOrd}{key:Nat->O.α}{a:Addr}{vs:List Value}{n:Nat}{R:PySem.Fin->Shared->Prop} (ho:s.heap.get? a=some (seqObj "list" vs.toArray n)) (aO:vs.length<64)
  (hk:2<=vs.length->∀s' Q,(∀b o,b≠a->s.heap.get? b=some o->s'.heap.get? b=some o)->(∀g,KO g->Q g s')->wpAny (model prog w) A (keyKind' vs.toArray) Q (λ_ _=>False) s')
  (hc:∀g,KO g->∀s' i j C,(∀b o,b≠a->s.heap.get? b=some o->s'.heap.get? b=some o)->i<vs.length->j<vs.length->C (O.blt (key i) (key j)) s' ->
   wpAny (model prog w) A (keyLt' g (vs.getD i Value.none) (vs.getD j Value.none)) C (λ_ _=>False) s')
  (h:∀p,PB vs.length p->fu key p vs.length->R (.done (.ret .none)) { s with heap:=sortedHeap s.heap a vs (p.toList.map λi=>vs.getD i Value.none).toArray }) :
  wpAny (model prog w) A (Builtin.«list.sort» ⟨[.ref a],[]⟩) R E s:=by
 rw[list_sort_plain];have ha:=uw ho;refine ez (listItems_at ho rfl ?_);refine ez (listUpdate_at ho rfl ?_ (by rw[tr,Jo];omega) (Ji _));obtain⟨e1,Z⟩:∃e1,(s.heap.update a (Obj.mapSeq λ_=>(#[]:Array Value))).get? a=some (seqObj "list" #[] e1):=⟨_,get?_update_seq ho λ_=>#[]⟩;refine ez (seqEpoch_at Z rfl ?_);refine ez (wpAny_newTuple ?_ (by show vs.length<=_;rw[Jo];omega));refine ez (wpAny_newList ?_ (Ji _));refine IZ ?_;have J:(((s.heap.update a (Obj.mapSeq λ_=>(#[]:Array Value))).push (seqObj "tuple" vs.toArray 0)).push (seqObj "list" #[] 0)).get? a=some (seqObj "list" #[] e1):=mu _ (mu _ Z);have kp:∀b o,b≠a->s.heap.get? b=some o->(((s.heap.update a (Obj.mapSeq λ_=>(#[]:Array Value))).push (seqObj "tuple" vs.toArray 0)).push (seqObj "list" #[] 0)).get? b=some o:=λb o hb e =>
  mu _ (mu _ ((Jv _ _ (Kg hb)).trans e))
 show wpAny (model prog w) A _ R E { s with heap:=((s.heap.update a (Obj.mapSeq λ_=>(#[]:Array Value))).push (seqObj "tuple" vs.toArray 0)).push (seqObj "list" #[] 0) };dsimp only;have b3:vs.toArray.size=vs.length:=by simp
 by_cases h2:vs.toArray.size<2
 .rw[if_pos h2,if_pos h2];refine ez (g4 ?_);rw[StateT.run_pure];refine ez (g4 ?_);dsimp only;refine ez (seqEpoch_at J rfl ?_);refine ez (listUpdate_at J rfl ?_ (Ji _) (by rw[K5];show(pairsOf vs).size<=_;rw[pairsOf_size,Jo];omega));simp only[Kw,IK,Jz];have e:((arrOf (SortSt.mk' general' (vs.toArray.zip vs.toArray) #[] 7 none)).map (·.2))=((range vs.length).toArray.toList.map λi=>vs.getD i Value.none).toArray:=by
   have e2:(arrOf (SortSt.mk' general' (vs.toArray.zip vs.toArray) #[] 7 none))=vs.toArray.zip vs.toArray:=rfl;rw[e2];apply Array.toList_inj.mp;rw[iM];simp[map_snd_zip]
  refine g4 ?_;have q:=h (range vs.length).toArray (Array.Perm.refl _) (λi j b5 hj=>by
   have:i=j:=by omega
   subst this;exact JF _)
  rw[<- e]at q;exact q
 .rw[if_neg h2,if_neg h2];have ao:2<=vs.length:=by omega
  refine ez (Je (hk ao _ (λg s0=>KO g/\s0={ s with heap:=((s.heap.update a (Obj.mapSeq λ_=>(#[]:Array Value))).push (seqObj "tuple" vs.toArray 0)).push (seqObj "list" #[] 0) }) kp λg z=>⟨z,rfl⟩) (λg s0 z=>?_) λ_ _ x=>x.elim);obtain⟨z,rfl⟩:=z;refine ez (Je (kat_run (Q:=λU s'=>∃p,p.size=vs.length/\arrOf U=p.map (kas_item (vs.toArray.zip vs.toArray))/\failedOf U=none/\PB vs.length p/\fu key p vs.length/\s'={ s with heap:=((s.heap.update a (Obj.mapSeq λ_=>(#[]:Array Value))).push (seqObj "tuple" vs.toArray 0)).push (seqObj "list" #[] 0) })
   (G:=λp s'=>PB vs.length p/\fu key p vs.length/\s'={ s with heap:=((s.heap.update a (Obj.mapSeq λ_=>(#[]:Array Value))).push (seqObj "tuple" vs.toArray 0)).push (seqObj "list" #[] 0) })
   rfl ao aO (λp' U s' a1 a2 a3 a4=>⟨p',a1,a2,a3,a4⟩)
   (Dg (key:=key) (λi j C hi hj q=>hc g z _ i j C kp hi hj q) (by omega) λp hp hr=>⟨hp,hr,rfl⟩)) ?_ λ_ _ e=>e)
  rintro ⟨⟨⟩,U⟩ s' ⟨p,hp,a6,hf,a7,a8,rfl⟩;dsimp only;have Y:=kat_snds rfl a6;refine ez (seqEpoch_at J rfl ?_);refine ez (listUpdate_at J rfl ?_ (Ji _) (by rw[Y];refine IH (Ll ?_) (show vs.length<=_ by rw[Jo];omega);simp[hp]));rw[hf,Y];simp only[Kw,IK,Jz];exact g4 (h p a7 a8)
theorem k9 :∀{vs z}{ns ms} i,IntsAre vs ns->IntsAre z ms->fin=decide (ns.length<ms.length)->C (HT.lexLt ns ms) s->KatLex prog w A true fin C (vs.zip z) i s
 | _,_,_,_,i,.nil,.nil,hf,h=>by
  refine kat_nil ?_;rw[hf];exact h
 | _,_,_,_,i,.nil,.cons c u hw,hf,h=>by
  refine kat_nil ?_;rw[hf,IP (by simp)];exact h
 | _,_,_,_,i,.cons a t hv,.nil,hf,h=>by
  refine kat_nil ?_;rw[hf,Jd (by simp)];exact h
 | _,_,_,_,i,.cons (ns:=ns) a t hv,.cons (ns:=ms) c u hw,hf,h=>by
  rw[HT.lexLt_cons]at h;refine kat_cons (wpAny_eqBool_int ?_);by_cases e:a=c
  .rw[if_pos e]at h;have q:(a==c)=true:=by rw[e];exact Kd c
   rw[q];refine kat_yes (k9 _ hv hw ?_ h);rw[hf];simp
  .rw[if_neg e]at h;have q:=Kf.mpr e;rw[q];refine kat_no ?_;cases i with
   |zero=>exact oneLt_int h
   |succ i=>exact kat_one _ _ (lt_int h)
def AT(hk:KOk g){a b:Addr}{its z:Array Value}{ns ms:List Int}{C:Bool->Shared->Prop}(ha:IsTup s.heap a its)(hb:IsTup s.heap b z)(hi:IntsAre its.toList ns)(Z:IntsAre z.toList ms)
  (hu:A.units<cLine) (h:C (HT.lexLt ns ms) s):wpAny (model prog w) A (keyLt' g (.ref a) (.ref b)) C E s:=by
 rcases hk with rfl|rfl|rfl
 .obtain⟨o,ho,_,n,hd⟩:=id ha;obtain⟨o2,U,_,n2,J⟩:=id hb;refine kat_lt ho hd U J (k9 0 hi Z ?_ h);have z1:its.size=ns.length:=by rw[<- hi.length];simp
  have z2:z.size=ms.length:=by rw[<- Z.length];simp
  rw[z1,z2]
 .show wpAny _ _ (oneLt' false _ _) _ _ _;exact kat_one _ _ (HT.lt_tupInts ha hb hi Z hu h)
 .rw[keyLt'_oneType,oneLt'_eq];refine ez (wpAny_cRoomFor hu ?_);refine ax λZq kq=>?_
  obtain⟨⟨cls,dd,data,sl⟩,ho,hc,n,hd⟩:=id ha;obtain⟨⟨a3,aO,data2,a0⟩,U,Y,n2,J⟩:=id hb;simp only at hc hd Y J;subst hc hd Y J;refine kq ?_;refine ez (wpAny_callSpecialIfBound?_slot ⟨_,ho,rfl⟩ PySem.F.slot_tuple_lt (Lk PySem.F.slot_tuple_lt ⟨_,ho,rfl⟩ PySem.F.entry_tuple_lt (PySem.F.args_tuple_lt_2 _ _) (HT.tuple_lt_ints a b its z n n2 dd aO sl a0 ns ms hi Z) ⟨ho,U,?_⟩));exact JE h
theorem k_:∀(vs:List Value) {Q},(∀v∈vs,∃a its ns,v=.ref a/\IsTup s.heap a its/\IntsAre its.toList ns) ->
  (∀fs,fs.length=vs.length->(∀f∈fs,∀v,f=some v->∃n t,v=Value.int n t)->Q fs s)->wpAny (model prog w) A (vs.mapM firstOfTuple') Q E s
 | [],Q,_,h=>by rw[mapM_nil];exact g4 (h [] rfl (by simp))
 |v::vs,Q,hv,h=>by
  obtain⟨a,its,ns,rfl,⟨o,ho,hc,n,hd⟩,hi⟩:=hv v (.head _);rw[mapM_cons];refine ez ?_;refine ez (Looks.here (show Looks (model prog w) s.heap (typeOf (.ref a)) o.cls from(Looks.ld ho).andThen .now) ?_);rw[hc,if_neg (by first|decide|simp)];refine ez (listItems_at ho hd (g4 ?_));refine ez (k_ vs (Q:=λbs s'=>wpAny (model prog w) A (pure (its[0]?::bs)) Q E s') (λu U=>hv u (.tail _ U)) λfs Y Z=>?_);refine g4 (h _ (by simp[Y]) λf hm u e=>?_);rcases IB.mp hm with z|z
  .rw[z]at e;have J:u∈its.toList:=by
    rw[<- Jg]at e;exact J0 e
   exact hi.all u J
  .exact Z f z u e
def wf{vs:List Value}{Q:SortKind->Shared->Prop}(h2:2<=vs.length)(hv:∀v∈vs,∃a its ns,v=.ref a/\IsTup s.heap a its/\IntsAre its.toList ns)(h:∀g,KOk g->Q g s) :
  wpAny (model prog w) A (keyKind' vs.toArray) Q E s:=by
 rw[kat_kind_eq,mapM_toArray,LW];refine ez (ez (k_ vs hv λfs hl hf=>g4 ?_));by_cases z:(fs.toArray.all λx=>x.isSome)=true
 .rw[if_pos z];refine ez (Ka ?_);have ar:(fs.toArray.filterMap id)=(fs.filterMap id).toArray:=by simp
  rw[ar,oneTypeOnly'_eq,mapM_toArray,LW];have U:∀v∈fs.filterMap id,∃n t,v=Value.int n t:=λv Y=>by
   obtain⟨f,aO,e⟩:=mem_filterMap.mp Y;exact hf f aO v e
  have a0:0<(fs.filterMap id).length:=by
   match fs,hl,z with
   | [],hl,_=>simp at hl;omega
   |f::r,_,z =>
    have:f.isSome=true:=by simp at z;exact z.1
    obtain⟨u,rfl⟩:=isSome_iff_exists.mp this;simp
  refine ez (ez (ez (kas_mapM (r:=Value.type "int") _ (λv Y Q' hq=>?_) (g4 ?_))))
  .obtain⟨n,t,rfl⟩:=U v Y;exact g4 hq
  .have h0:(map (λ_=>Value.type "int") (fs.filterMap id)).toArray[0]?=some (Value.type "int"):=by
    simp[a0]
   rw[h0];have J:((map (λ_=>Value.type "int") (fs.filterMap id)).toArray.all λx=>x==Value.type "int")=true:=by
    simp only[all_toArray,K3,JQ];intro _ _
    rfl
   simp only[J,if_true];exact g4 (g4 (h _ (.inl rfl)))
 .rw[if_neg z];by_cases Z:((fs.toArray[0]?).bind id).isSome=true
  .rw[if_pos Z];exact g4 (h _ (.inr (.inl rfl)))
  .rw[if_neg Z];rw[oneTypeOnly'_eq,mapM_toArray,LW];refine ez (ez (ez (kas_mapM (r:=Value.type "tuple") _ (λv Y Q' hq=>?_) (g4 ?_))))
   .obtain⟨a,its,ns,rfl,⟨o,ho,hc,n,hd⟩,hi⟩:=hv v Y;have q:Looks (model prog w) s.heap (typeOf (.ref a)) o.cls:=(Looks.ld ho).andThen .now;rw[hc]at q;exact q.here hq
   .have h0:(map (λ_=>Value.type "tuple") vs).toArray[0]?=some (Value.type "tuple"):=by
     have:0<vs.length:=by omega
     simp[this]
    rw[h0];have J:((map (λ_=>Value.type "tuple") vs).toArray.all λx=>x==Value.type "tuple")=true:=by
     simp only[all_toArray,K3,JQ];intro _ _
     rfl
    simp only[J,if_true];exact g4 (g4 (h _ (.inr (.inr rfl))))
end
end L2.Srt
namespace L2.St
open PySem PyProof.Rows List Option
section
variable{P:Program}{w:World}{A:Around}{E:Value->Shared->Prop}{s:Shared}
def lP{items:Array Value}(hi:IntsAre items.toList ns):∀i (v:Value),items[i]?=some v->∃t,v=.int (ns.getD i 0) t:=
 λi v e=>IntsAre.int_at hi i v (by rw[Jg];exact e)
def kw{v:Value}{vs:Array Value}{it:Addr}{Q:Option Value->Shared->Prop}(z:A.handled=none){R:Value->Shared->Prop}
  (J:∀e s',(∀b o,s.heap.get? b=some o->s'.heap.get? b=some o)->(∃h',s'={ s with heap:=h' })->s'.TypeIs e "StopIteration"->R e s') {U:PySem.Fin->Shared->Prop} :
  wpAny (model P w) A (newExc (.type "StopIteration") [] >>= λe=>(raiseNew e:Sem PySem.Fin)) U R s:=by
 refine wpAny_bind ?_;simp only[newExc,newTuple];refine wpAny_bind (wpAny_newObj_type ?_ (by size_fits));refine wpAny_bind (m:=firstArgMember _ _) (wpAny_of_eq (a:=Value.none) (by first|rfl|(simp only[firstArgMember];rfl)) ?_);refine wpAny_newObj_type ?_ (by size_fits);simp only[raiseNew];refine wpAny_bind (wpAny_handled ?_);rw[z];refine wpAny_bind (wpAny_pure (wpAny_throw ?_));exact J _ _ (λb o e=>Heap.get?_push_of_some _ (Heap.get?_push_of_some _ e)) ⟨_,rfl⟩ ⟨_,Heap.get?_push_size _ rfl,rfl⟩
def n4(h:ItemsOf (λi v=>∃t,v=Value.int (order.getD i 0) t) acc order.length):IntsAre acc.toList order:=by
 obtain⟨hz,hv⟩:=h;have J:acc.toList.length=order.length:=by simpa using hz
 have z:∀j v,acc.toList[j]?=some v->∃t,v=Value.int _ t:=λj v e=>hv j v (by rw[<- Jg];exact e)
 clear hv hz;generalize acc.toList=vs at J z
 induction vs generalizing order with
 |nil =>
  have:=Kk.mp J.symm;rw[this];exact .nil
 |cons v r ih =>
  match order,J,z with
  | [],J,_=>simp at J
  |k::ks,J,z =>
   obtain⟨t,e⟩:=z 0 v rfl;have U:=e;rw[U];exact .cons k t (ih (by simpa using J) λj u q=>z (j+1) u (by simpa using q))
end
end L2.St
namespace L2.St
open PySem List Option
def n5(xs:Array Nat):Prop:=∀i j,i<j->j<xs.size->xs.getD i 0<xs.getD j 0
def xV{xs:Array Nat}(h:i<xs.size)(d e):xs.getD i d=xs.getD i e:=by simp[Array.getD,h]
theorem mz{xs:Array Nat}{j:Nat}(Z:n5 xs):∀(J lo hi:Nat),hi<=lo+J->lo<=hi->hi<=xs.size->(∀i,i<lo->xs.getD i 0<j)->(∀i,hi<=i->i<xs.size->j<=xs.getD i 0) ->
  (SetTable.below.go xs j J lo hi<=xs.size/\(∀i,i<SetTable.below.go xs j J lo hi->xs.getD i 0<j)/\∀i,SetTable.below.go xs j J lo hi<=i->i<xs.size->j<=xs.getD i 0)
 |0,lo,hi,hf,h1,h2,a,b=>by
  have e:SetTable.below.go xs j 0 lo hi=lo:=rfl;rw[e];have:lo=hi:=Kj h1 hf;subst this;exact⟨h2,a,b⟩
 |J+1,lo,hi,hf,h1,h2,a,b=>by
  have e:SetTable.below.go xs j (J+1) lo hi=if lo<hi then(if xs.getD ((lo+hi) / 2) j<j then SetTable.below.go xs j J ((lo+hi) / 2+1) hi else SetTable.below.go xs j J lo ((lo+hi) / 2))else lo:=rfl
  rw[e];by_cases hl:lo<hi
  .rw[if_pos hl];obtain⟨m,em,m1,m2⟩:∃m,(lo+hi) / 2=m/\lo<=m/\m<hi:=⟨_,rfl,by omega,by omega⟩;rw[em];have hm:m<xs.size:=IF m2 h2;rw[xV hm j 0];by_cases Y:xs.getD m 0<j
   .rw[if_pos Y];refine mz Z J _ hi (by omega) m2 h2 (λi U=>?_) b;rcases Nat.lt_or_eq_of_le (Ku U)with z|z
    .exact Lm (Z i m z hm) Y
    .rw[z];exact Y
   .rw[if_neg Y];refine mz Z J lo _ (by omega) m1 (JS hm) a λi U hz=>?_
    rcases Nat.lt_or_eq_of_le U with z|z
    .exact IH (JM.mp Y) (JS (Z m i z hz))
    .rw[<- z];exact JM.mp Y
  .rw[if_neg hl];have:lo=hi:=Kj h1 (JM.mp hl);subst this;exact⟨h2,a,b⟩
def je{xs:Array Nat}(z:n5 xs)(j:Nat):SetTable.below xs j<=xs.size/\(∀i,i<SetTable.below xs j->xs.getD i 0<j)/\∀i,SetTable.below xs j<=i->i<xs.size->j<=xs.getD i 0:=
 mz z xs.size 0 xs.size (KW _ _) (Ji _) (pe _) (λi h=>absurd h (Nat.not_lt_zero i)) λi h1 h2=>absurd h2 (JM.mpr h1)
def n6(xs)(p)(x:α)(z:p<=xs.size):(SetTable.insertAt xs p x).size=xs.size+1:=by grind [SetTable.insertAt]
def jC{α:Type}(xs:Array α)(p:Nat)(x:α)(z:p<=xs.size)(i:Nat):(SetTable.insertAt xs p x)[i]?=if i<p then xs[i]? else if i=p then some x else xs[i-1]?:=by
 unfold SetTable.insertAt;have hz:((xs.extract 0 p).push x).size=p+1:=by rw[Array.size_push,Kl,Km z,Nat.sub_zero]
 rcases Nat.lt_trichotomy i p with h1|h1|h1
 .rw[if_pos h1,LJ (by rw[hz];exact Jb h1)];rw[Array.getElem?_push,if_neg (by rw[Kl,Km z];exact Iz h1),Array.getElem?_extract,if_pos (by rw[Km z];exact h1),JY]
 .subst h1;rw[if_neg (Jr _),if_pos rfl,LJ (by rw[hz];exact Ke _)];rw[Array.getElem?_push,if_pos (by rw[Kl,Km z];rfl)]
 .obtain⟨k,rfl⟩:=K8 h1;rw[if_neg (Nat.lt_asymm h1),if_neg (JL h1),Array.getElem?_append_right (by rw[hz];exact h1),hz,Array.getElem?_extract,JA,Nat.add_sub_cancel_left,LX,JA,JX];by_cases J:k<xs.size-p
  .rw[if_pos J]
  .rw[if_neg J,Kr (Nat.sub_le_iff_le_add'.mp (JM.mp J))]
def eE{xs:Array Nat} :xs.getD i 0=(xs[i]?).getD 0:=JV
def qT(J:n5 xs)(hn:xs[SetTable.below xs j]?≠some j):n5 (SetTable.insertAt xs (SetTable.below xs j) j):=by
 obtain⟨U,ha,hb⟩:=je J j;have Y:∀i,SetTable.below xs j<=i->i<xs.size->j<xs.getD i 0:=λi h1 h2=>by
  have q:=hb i h1 h2;by_cases z:i=SetTable.below xs j
  .subst z;have e:xs[SetTable.below xs j]?=some (xs.getD (SetTable.below xs j) 0):=by rw[KY h2];simp[Array.getD,h2]
   grind
  .have q':=hb _ (pe _) (by omega:SetTable.below xs j<xs.size);have:=J _ i (by omega:SetTable.below xs j<i) h2;omega
 intro i k Z hk;rw[n6 _ _ _ U]at hk;rw[eE,eE,jC _ _ _ U,jC _ _ _ U];by_cases h1:k<SetTable.below xs j
 .rw[if_pos h1,if_pos (by omega),<- eE,<- eE];exact J i k Z (by omega)
 .rw[if_neg h1];by_cases h2:k=SetTable.below xs j
  .simp_all
  .rw[if_neg h2];by_cases h3:i<SetTable.below xs j
   .rw[if_pos h3,<- eE,<- eE];exact J i (k-1) (by omega) (by omega)
   .rw[if_neg h3];by_cases h4:i=SetTable.below xs j
    .rw[if_pos h4,<- eE];exact Y (k-1) (by omega) (by omega)
    .rw[if_neg h4,<- eE,<- eE];exact J (i-1) (k-1) (by omega) (by omega)
def sR(n):n5 (Array.range n):=λi j h1 h2=>by
 rw[Array.size_range]at h2;simp[Array.getD,h2,Lm h1 h2];exact h1
def xW:n5 #[]:=λi j _ h=>by simp at h
structure Gd(L:Bool)(t:SetTable):Prop where
 led:t.led=L
 dum:t.dummies=#[]
 rise:n5 t.place
theorem Gd.fresh(L):Gd L (.fresh 0 0 L):=⟨rfl,rfl,xW⟩
theorem Gd.standIn(h:Gd L t)(n):Gd L (t.standIn n):=⟨h.led,rfl,sR n⟩
theorem Gd.orStandIn(h:Gd L t)(n):Gd L (t.orStandIn n):=by
 unfold SetTable.orStandIn;split
 .exact h
 .exact h.standIn n
def Gd.unplain(h:Gd L t):Gd L { t with plain:=false }:=⟨h.led,h.dum,h.rise⟩
def pQ{t:SetTable}(hd:t.dummies=#[])(j):t.slot j≠.dummy:=by
 unfold SetTable.slot SetTable.has;rw[hd];dsimp only;split
 .simp
 .simp
def sS{t:SetTable}(h:t.slot j=.empty):t.place[SetTable.below t.place j]?≠some j:=by
 intro e;unfold SetTable.slot at h
 simp_all
theorem qU(hd:t.dummies=#[]) :∀z p,p.dummy=none->∀j d,SetTable.probe.go t J h z p=some (.empty j d)->d=none/\t.slot j=.empty
 |0,p,U,j,d,e=>by
  have:SetTable.probe.go t J h 0 p=none:=rfl;rw[this]at e;cases e
 |z+1,p,U,j,d,e=>by
  have step:SetTable.probe.go t J h (z+1) p=(match t.slot p.j with
   | .empty=>some (.empty p.j p.dummy)
   | .dummy=>SetTable.probe.go t J h z (t.advance { p with dummy:=some p.j })
   | .live i=>if J i==h then some (.candidate p.j i (t.advance p))else SetTable.probe.go t J h z (t.advance p)):=rfl
  rw[step]at e;have Y:(t.advance p).dummy=none:=by unfold SetTable.advance;split<;>simp[U]
  cases hs:t.slot p.j with
  |empty =>
   rw[hs]at e;dsimp only at e;cases e;exact⟨U,hs⟩
  |dummy=>exact absurd hs (pQ hd _)
  |live i =>
   rw[hs]at e;dsimp only at e;split at e
   .cases e
   .exact qU hd z _ Y j d e
def wg{t:SetTable}(hd:t.dummies=#[])(e:t.freeSlot h=some (j,b)):t.slot j=.empty:=by
 unfold SetTable.freeSlot at e;split at e
 .rename_i z d J;obtain⟨rfl,hs⟩:=qU hd _ _ rfl z d J
  simp_all
 .cases e
theorem Gd.put(h:Gd L t)(hs:t.slot j=.empty):Gd L (t.put j).1:=by
 refine⟨h.led,?_,qT h.rise (sS hs)⟩;show(if SetTable.has t.dummies j then _ else t.dummies)=#[];rw[if_neg (by unfold SetTable.has;rw[h.dum];simp)];exact h.dum
theorem Gd.layNew(g:Gd L t)(es)(h)(x):Gd L (layNew t es h x).2.1:=by
 unfold PySem.layNew;cases e:t.freeSlot h with
 |none=>exact g.standIn _
 |some q =>
  exact(g.put (wg g.dum e)).orStandIn _
def xX(f:Nat->Option Nat)(n):n5 ((((range n).filterMap λj=>(f j).map λi=>(j,i)).map λq:Nat×Nat=>q.1).toArray):=by
 have e:((range n).filterMap λj=>(f j).map λi=>(j,i)).map (λq:Nat×Nat=>q.1)=(range n).filter λj=>(f j).isSome:=by
  generalize range n=l
  induction l with
  |nil=>rfl
  |cons a l ih =>
   cases h:f a<;>simp[filterMap_cons,filter_cons,h,ih]
 rw[e];have Y:((range n).filter λj=>(f j).isSome).Pairwise (· < ·):=Pairwise.filter _ pairwise_lt_range;intro i j J Z;have z:j<((range n).filter λj=>(f j).isSome).length:=by simpa using Z
 have U:i<((range n).filter λj=>(f j).isSome).length:=Lm J z;have:=pairwise_iff_getElem.mp Y i j U z J;simpa[Array.getD,z,U]using this
theorem Gd.relaid(g:Gd L t)(e:t.relaid hs n=some (t',o)):Gd L t':=by
 unfold SetTable.relaid SetTable.laid at e;cases h:SetTable.layClean (SetTable.sizeAbove n-1) hs with
 |none=>rw[h]at e;cases e
 |some ow =>
  rw[h]at e;cases e;exact⟨g.led,rfl,xX (λj=>ow.getD j none) _⟩
theorem Gd.relayAll(g:Gd L t)(es)(n):Gd L (relayAll t es n).2.1:=by
 unfold PySem.relayAll;cases e:t.relaid (es.map _) n with
 |none=>exact g.standIn _
 |some q =>
  dsimp only;split
  .exact g.relaid e
  .exact g.standIn _
end L2.St
namespace L2.St
open PySem PyProof.Rows List Option
noncomputable def byT (w:World):Bool:=w.params.followText "set-order"
structure Arr(P:Program)(w:World)(ks:List Int)(es:Array (Int×Value))(t:SetTable):Prop where
 el:ElemsOf (intKind P w) es.toList
 pm:(es.toList.map λe=>numOf e.2).Perm ks
 nd:ks.Nodup
 bd:es.size<scanBound
 fi:t.fits es.size=true
 gd:Gd (!byT w) t
def cm(P:Program)(w:World)(h:Heap)(a:Addr)(ks:List Int):Prop:=
 ∃o es ep t,h.get? a=some o/\o.ExactSet/\o.data=.set es ep t/\ElemsOf (intKind P w) es.toList/\(es.toList.map λe=>numOf e.2).Perm ks/\ks.Nodup/\es.size<scanBound/\t.fits es.size=true/\Gd (!byT w) t
section
variable{P:Program}{w:World}{h h':Heap}{a:Addr}{ks ks':List Int}{o:Obj}{es:Array (Int×Value)}{ep:Nat}{t:SetTable}
theorem cm.arr(g:cm P w h a ks):∃o es ep t,(h.get? a=some o/\o.ExactSet/\o.data=.set es ep t)/\Arr P w ks es t:=by
 refine ax λZq J=>?_
 obtain⟨o,es,ep,t,ho,z,hd,U,Y,Z,c4,c5,c6⟩:=g;refine J ?_;exact⟨o,es,ep,t,⟨ho,z,hd⟩,⟨U,Y,Z,c4,c5,c6⟩⟩
theorem Arr.set(r:Arr P w ks es t)(ho:h.get? a=some o)(z:o.ExactSet)(hd:o.data=.set es ep t):cm P w h a ks:=
 ⟨o,es,ep,t,ho,z,hd,r.el,r.pm,r.nd,r.bd,r.fi,r.gd⟩
theorem Arr.len(r:Arr P w ks es t):es.size=ks.length:=by simpa using r.pm.length_eq
theorem Arr.bare(r:Arr P w ks es t)(b):Arr P w ks es (if b=true then t else { t with plain:=false }):=by
 cases b
 .exact⟨r.el,r.pm,r.nd,r.bd,SetTable.fits_plain_off r.fi,r.gd.unplain⟩
 .exact r
theorem Arr.lay(r:Arr P w ks es t)(tk)(J:k∉ks)(U:ks.length+1<scanBound):Arr P w (k::ks) (layNew t es (hashInt k) (.int k tk)).1 (layNew t es (hashInt k) (.int k tk)).2.1:=by
 have p:(layNew t es (hashInt k) (.int k tk)).1.toList.Perm (es.toList++[(hashInt k,.int k tk)]):=by simpa using layNew_perm t es _ _
 have z:=p.length_eq;have l:=r.len;constructor
 .exact ElemsOf.perm (r.el.push (LR _ _ _ _) rfl) p
 .have q:((es.toList++[(hashInt k,Value.int k tk)]).map λe=>numOf e.2).Perm (k::ks):=by
   rw[JH];exact KH.trans (r.pm.cons k)
  exact(p.map _).trans q
 .exact Jl.mpr ⟨J,r.nd⟩
 .simp at z;omega
 .exact layNew_fits _ _ _ _
 .exact r.gd.layNew _ _ _
def Arr.relay(r:Arr P w ks es t)(n):Arr P w ks (relayAll t es n).1 (relayAll t es n).2.1:=by
 have p:=relayAll_perm t es n;have z:=p.length_eq;have b:=r.bd;exact⟨r.el.perm p,(p.map _).trans r.pm,r.nd,by simp at z;omega,relayAll_fits t es n,r.gd.relayAll es n⟩
theorem cm.at(g:cm P w h a ks)(k:∀o,h.get? a=some o->h'.get? a=some o):cm P w h' a ks:=by
 obtain⟨o,es,ep,t,⟨ho,z,hd⟩,r⟩:=g.arr;exact r.set (k o ho) z hd
end
def eN(h:ElemsOf (intKind P w) es):∀e∈es,∃t,e.2=.int (numOf e.2) t:=λe z=>by
 obtain⟨⟨k,J,_⟩,_⟩:=h e z;obtain⟨t,q⟩:=LK (show Value.isInt k e.2=true from J);exact⟨t,by rw[q];rfl⟩
def jf(h:ElemsOf (intKind P w) es)(J:e∈es)(k):(intKind P w).is k e.2=true ↔ numOf e.2=k:=by
 obtain⟨t,q⟩:=eN h e J;constructor
 .intro z;obtain⟨t',U⟩:=LK (show Value.isInt k e.2=true from z);rw[U];rfl
 .intro z;rw[q,z];exact LR _ _ _ _
section
variable{P:Program}{w:World}{A:Around}{E:Value->Shared->Prop}{s:Shared}
def Now(P:Program)(w:World)(a:Addr)(s:Shared)(ks:List Int)(s':Shared):Prop:=
 ∃h',s'={ s with heap:=h' }/\Heap.SameBut a s.heap h'/\cm P w h' a ks
theorem Now.stay(g:cm P w s.heap a ks):Now P w a s ks s:=⟨s.heap,rfl,J5 a s.heap,g⟩
def uQ{h:Heap}(ho:h.get? a=some o)(J:o.ExactSet)(hd:o.data=.set es ep t)
  (r:Arr P w ks z t'):cm P w (h.update a (Obj.putSet z t')) a ks:=by
 refine r.set (o:={ o with data:=.set z (ep+1) t' }) (ep:=ep+1) ?_ J rfl;have e:=putSet_of z t' hd;rw[<- e];exact Jf _ ho (by rw[e];rfl)
theorem Now.put{s':Shared}(n:Now P w a s ks s'){es:Array (Int×Value)}{t:SetTable}(r:Arr P w ks' es t){Q:Unit->Shared->Prop}(h:∀z,Now P w a s ks' z->Q () z) :
  wpAny (model P w) A (storeSet a es t) Q E s':=by
 refine ax λZ U=>?_
 obtain⟨h',rfl,Y,g⟩:=n;obtain⟨o,_,_,_,⟨ho,J,hd⟩,_⟩:=g.arr;refine U ?_;exact J6 ho hd (h _ ⟨_,rfl,Y.trans (Ja h' a _),uQ ho J hd r⟩) (JP r.bd)
def Ga{Q:Unit->Shared->Prop}(z:m=pure ()\/∃n,m=rule n)(h:Q () s'):wpAny (model P w) A m Q E s':=by
 rcases z with rfl|⟨n,rfl⟩
 .exact g4 h
 .exact Ka h
def Gb(k)(tk)(c)(h:∀b,wpAny (model P w) A (f b) Q E s') :
  wpAny (model P w) A (if c=true then hashByValue 8 (.int k tk) >>= f else(pure true:Sem Bool) >>= f) Q E s':=by
 cases c
 .exact ez (g4 (h true))
 .rw[if_pos rfl,hashByValue_scannable 8 (show(Value.int k tk).scannable=true from rfl)];exact ez (g4 (h _))
def oM{Q:Bool->Shared->Prop}(hS:cm P w s.heap a ks)(J:ks.length+1<scanBound)
  (h:∀h' b,Heap.SameBut a s.heap h'->cm P w h' a (if k∈ks then ks else k::ks)->Q b { s with heap:=h' }) :
  wpAny (model P w) A (setAddHashed a (.int k tk) (hashInt k)) Q E s:=by
 have fin:∀b s',Now P w a s (if k∈ks then ks else k::ks) s'->Q b s':=by
  rintro b _ ⟨h',rfl,sb,g⟩;exact h h' b sb g
 have now:=Now.stay hS;obtain⟨o,es,ep,t,⟨ho,a5,hd⟩,r⟩:=hS.arr;have here:k∈ks ↔ ((es.toList.findIdx? λe=>(intKind P w).is k e.2).isSome=true):=by
  rw[findIdx?_isSome,Jp,<- r.pm.mem_iff,mem_map];exact⟨λ⟨e,Y,q⟩=>⟨e,Y,(jf r.el Y k).mpr q⟩,λ⟨e,Y,q⟩=>⟨e,Y,(jf r.el Y k).mp q⟩⟩
 unfold setAddHashed setAddHashedIn;refine IZ (ez (IQ ho hd r.fi ?_));dsimp only;rw[byScan_of (x:=.int k tk) rfl r.bd r.el,if_pos rfl];refine ez ?_;unfold setAddByScan;refine ez (Ka (ez (wpAny_setScan_of (knd:=intKind P w) (LR _ _ _ _) ho hd r.fi r.el ?_)));rcases Z:es.toList.findIdx? λe=>(intKind P w).is k e.2 with _|j
 .rw[Z];have hk:k∉ks:=λz=>by rw[here,Z]at z;exact Bool.noConfusion z
  rw[if_neg hk]at fin;have r1:=r.lay tk hk J;rcases hl:layNew t es (hashInt k) (.int k tk)with⟨U,t1,dm,gv⟩
  rw[hl]at r1;dsimp only at r1 ⊢;refine ez (Ga ?_ ?_)
  .cases gv
   .exact .inl rfl
   .exact .inr ⟨_,rfl⟩
  refine Gb k tk _ λb=>?_
  have r2:=r1.bare b;generalize (if b=true then t1 else _)=t2 at r2 ⊢;refine ez (now.put r2 λs2 n2=>?_);refine IU (λ_=>?_) (λ_=>g4 (g4 (fin _ _ n2)));have r3:=r2.relay (SetTable.grown U.size);rcases hm:relayAll t2 U (SetTable.grown U.size)with⟨b1,t3,a1⟩
  rw[hm]at r3;dsimp only at r3 ⊢;refine ez (Ga ?_ ?_)
  .cases a1
   .exact .inl rfl
   .exact .inr ⟨_,rfl⟩
  exact ez (n2.put r3 λs3 n3=>g4 (g4 (fin _ _ n3)))
 .rw[Z];have hk:=here.mpr (by rw[Z];rfl);rw[if_pos hk]at fin;exact g4 (g4 (fin _ _ now))
end
noncomputable def dd:List Int->List Int
 | []=>[]
 |k::r=>if k∈dd r then dd r else k::dd r
theorem fM :∀{l},k∈dd l ↔ k∈l
 | []=>Iff.rfl
 |x::r=>by
  show k∈(if x∈dd r then dd r else x::dd r) ↔ _;have ih:=@fM k r;by_cases h:x∈dd r
  .rw[if_pos h,ih,IB];exact⟨.inr,λz=>z.elim (λe=>by rw[e];exact fM.mp h) id⟩
  .simp_all
theorem dd_nodup:∀l,(dd l).Nodup
 | []=>JU
 |x::r=>by
  show(if x∈dd r then dd r else x::dd r).Nodup;by_cases h:x∈dd r
  .rw[if_pos h];exact dd_nodup r
  .rw[if_neg h];exact Jl.mpr ⟨h,dd_nodup r⟩
theorem xY:∀l,(dd l).length<=l.length
 | []=>pe _
 |x::r=>by
  show(if x∈dd r then dd r else x::dd r).length<=_;have:=xY r
  grind
def AU(xs:List Int):(range xs.length).map (λi=>xs.getD i 0)=xs:=by
 apply LV;intro i;by_cases q:i<xs.length
 .simp_all
 .simp_all
def But(z:List Addr)(s s':Shared):Prop:=
 ∃h' tk,s'={ s with heap:=h',toks:=tk }/\∀b o,b∉z->s.heap.get? b=some o->h'.get? b=some o
theorem But.on(x:But Y s s')(y:But vs s' J)(hs:∀b∈Y,b∈vs):But vs s J:=by
 obtain⟨h1,t1,rfl,Z⟩:=x;obtain⟨h2,t2,rfl,k2⟩:=y;exact⟨h2,t2,rfl,λb o U e=>k2 b o U (Z b o (λz=>U (hs b z)) e)⟩
section
variable{P:Program}{w:World}{A:Around}{R:Result->Shared->Prop}{I S:Addr}{fp wr:List Addr}{n:Nat}{Pv:Nat->Value->Prop}{St:Nat->Heap->Prop}
noncomputable abbrev upd (S I:Addr):Code:=.builtin "set.update.loop" ⟨[.ref S,.ref I],[]⟩
def qV (h:wpAny (model P w) A.in1 (pyNext (.ref I)) (λv s'=>match v with
   |none=>R (.ok (.ret .none)) s'
   |some x=>wpAny (model P w) A.in1 (setAdd S x) (λ_ z=>codeAny (model P w) A (upd S I) R z) (λe z=>R (.error e) z) s') (λe s'=>R (.error e) s') s) :
  codeAny (model P w) A (upd S I) R s:=by
 have J:=PyProof.Rows.F.plain_set_update_loop;apply Lo PyProof.Rows.F.entry_set_update_loop;rw[Lp J];apply ez (m:=pyNext _);refine Je h (λv s' hv=>?_) λ_ _ x=>x
 cases v with
 |none=>exact g4 hv
 |some x =>
  refine ez (IZ (Je hv (λ_ z hc=>?_) λ_ _ x=>x));exact g4 ⟨Lg J _,hc⟩
def add_int(g:cm P w s.heap S ks)(room:ks.length+1<scanBound) 
  (h:∀b s',But [S] s s'->cm P w s'.heap S (if k∈ks then ks else k::ks)->(∀b,b≠S->s'.heap.get? b=s.heap.get? b)->Q b s'):wpAny (model P w) B (setAdd S (.int k t)) Q E s:=by
 refine IZ (ez ((intKind P w).pyHash (LR _ _ _ _) ?_));refine oM g room λh' b z g'=>h b _ ⟨h',_,rfl,λc o hc e=>?_⟩ g' λc hc=>?_
 .rw[z.2 c (by simpa using hc)];exact e
 .exact z.2 c hc
theorem uR(W:Walks P w A.in1 I fp wr n Pv St)(Y:S∉fp)(xs:List Int)(hn:xs.length=n)(hv:∀i v,Pv i v->∃t,v=.int (xs.getD i 0) t)(hb:n+1<scanBound) :
  ∀m i s,i+m=n->St i s.heap->cm P w s.heap S (dd (xs.take i).reverse)->(∀s',But (S::wr) s s'->cm P w s'.heap S (dd xs.reverse)->R (.ok (.ret .none)) s') ->
   codeAny (model P w) A (upd S I) R s
 |0,i,s,e,st,g,h=>by
  have hi:i=n:=e;subst hi;refine qV (W.done s _ _ st λh' tk kp=>h _ ⟨h',tk,rfl,λb o J=>kp b o λz=>J (.tail _ z)⟩ ?_);rw[LN (by omega)]at g;exact g.at λo=>kp S o λz=>Y (W.sub S z)
 |m+1,i,s,e,st,g,h=>by
  have hi:i<n:=by omega
  refine qV (W.item i s _ _ hi st λv h1 U pv Z kp=>?_);obtain⟨t,rfl⟩:=hv i v pv;have b1:But wr s { s with heap:=h1,toks:=U }:=⟨h1,U,rfl,kp⟩;have l:(dd (xs.take i).reverse).length+1<scanBound:=by
   have:=xY (xs.take i).reverse;simp at this;omega
  refine add_int (g.at λo=>kp S o λz=>Y (W.sub S z)) l λ_ s2 b2 g2 ao=>?_
  refine uR W Y xs hn hv hb m _ s2 (by omega) (W.frame _ h1 _ Z λb J o e'=>?_) ?_ λs3 b3 g3=>h s3 ?_ g3
  .rw[ao b λz=>Y (z▸J)];exact e'
  .have:xs.take (i+1)=xs.take i++[xs.getD i 0]:=by
    simp_all
   rw[this,reverse_append];exact g2
  .exact(b1.on (b2.on b3 (by simp)) λb z=>.tail _ z)
end
section
variable{P:Program}{w:World}{A:Around}{E:Value->Shared->Prop}{s:Shared}
def de(h:Q (byT w) s):wpAny (model P w) A setsByText Q E s:=
  ez (LY (g4 h))
noncomputable abbrev bz (w:World):Obj:={ cls:=.type "set",dict:=none,data:=.set #[] 0 (.fresh 0 0 (!byT w)) }
noncomputable abbrev bo(w:World)(s:Shared):Shared:={ s with heap:=s.heap.push (bz w) }
def pR (h:Q (.ref s.heap.objs.size) (bo w s)):wpAny (model P w) A (newSet (.type "set")) Q E s:=by
 refine ez (de ?_);exact ez (wpAny_alloc (g4 h))
def qW(h:Heap):cm P w (h.push (bz w)) h.objs.size []:=
 Arr.set (es:=#[]) (ep:=0) ⟨λe z=>by simp at z,by simp,JU,by decide,rfl,Gd.fresh _⟩ (wh _ rfl) ⟨rfl,rfl,rfl⟩ rfl
def AV (x) {Q:Value->Shared->Prop} (h:Q (.ref s.heap.objs.size) (bo w s)):codeAny (model P w) A (.call (.builtin "set.__new__") ⟨[.type "set",x],[]⟩) (wants Q E) s:=by
 refine codeAny_call_builtin PySem.F.plain_set_new PySem.F.entry_set_new (LD (PySem.F.newCall_set_1 x) ?_);have cls:∀{R}{F},R (.type "set",[x]) s->wpAny (model P w) A.in1 (Builtin.Frozenset.newClass "set" ⟨[.type "set",x],[]⟩) R F s:=by
  intro R F J;have z:=sub_set_self
  wp_walk
  exact J
 exact ez (cls (ez (pR (g4 h))))
def xZ(x){Q:Value->Shared->Prop}
  (hU:∀B,B.handled=A.handled->wpAny (model P w) B (Builtin.Frozenset.updateFrom "set.__init__" s.heap.objs.size x) (λ_ s'=>Q (.ref s.heap.objs.size) s') E (bo w s)) :
  wpAny (model P w) A (call (.type "set") [x]) Q E s:=by
 have Y:(bo w s).heap.get? s.heap.objs.size=some (bz w):=wh _ rfl;have init:codeAny (model P w) A.in1 (.call (.builtin "set.__init__") ⟨[.ref s.heap.objs.size,x],[]⟩) (wants (λr s'=>r=.none/\Q (.ref s.heap.objs.size) s') E) (bo w s):=by
  refine codeAny_call_builtin PySem.F.called_set.init.plain PySem.F.entry_set_init (check_set_init_1 ⟨_,Y,rfl⟩ ?_);have hu:=hU A.in1.in1 (by simp);generalize hw:bo w s=s1 at Y hu ⊢;generalize s.heap.objs.size=S at Y hu ⊢;obtain⟨hp,g,d,tk,os⟩:=s1;unfold Builtin.«set.__init__» noKeywords;generalize Builtin.Frozenset.updateFrom=U at hu ⊢
  wp_walk
  exact Je hu (λ_ s' hq=>g4 ⟨rfl,hq⟩) λ_ _ z=>z
 have Z:=PySem.F.called_set;refine wpAny_call (codeAny_of_tree (g4 ⟨Code.quiet_builtin _ (by decide +kernel),Lo PySem.F.entry_type_call ?_⟩));rw[Around.under_plain (weight_type_call_type "set" [x] []) rfl];have f1:=Z.notType;have f2:=Z.canCreate;have f3:=Z.made;have f4:=Z.sub
 have f5:=PySem.F.typeCall_set_1 x;obtain⟨c,tl,f6⟩:=Z.mro
 repeat (any_goals (first|assumption|wp_step))
 refine Ky (AV x (E:=E) (Q:=λv s'=>v=.ref s.heap.objs.size/\s'=bo w s) ⟨rfl,rfl⟩) λr s1 J=>?_
 match r,J with
 | .error e,J=>exact J
 | .ok (.ret v),J =>
  obtain⟨rfl,rfl⟩:=J;have f7:Shared.TypeIs (bo w s) (.ref s.heap.objs.size) "set":=⟨_,Y,rfl⟩;have f8:=Z.init.lookup;have f9:=Z.init.bind (.ref s.heap.objs.size)
  repeat (any_goals (first|assumption|wp_step))
  refine Ky init λr s2 J=>?_
  match r,J with
  | .error e,J=>exact J
  | .ok (.ret v),J =>
   obtain⟨rfl,hq⟩:=J;show wpAny _ A.in1 (pure (some Value.none)) _ _ _;exact g4 (g4 hq)
def mB {o:Obj} (x:s.heap.get? l=some o) (hc:o.cls=.type z) (hd:(Value.type z==.type "dict")=false)
  (U:isSubtype (.type z) (.type "set")=pure false) (Y:isSubtype (.type z) (.type "frozenset")=pure false)
  {ns:List Int}{Pv:Nat->Value->Prop}{St:Nat->Heap->Prop} (hv:∀i v,Pv i v->∃t,v=.int (ns.getD i 0) t) (J:ns.length+1<scanBound) {Z:Obj}
  (W:∀B,B.handled=A.handled->Walks P w B ((bo w s).heap.objs.size) [(bo w s).heap.objs.size,l] [(bo w s).heap.objs.size] ns.length Pv St)
  (it:∀B E' R,R (.ref (bo w s).heap.objs.size) { s with heap:=(bo w s).heap.push Z }->wpAny (model P w) B (pyIter (.ref l)) R E' (bo w s))
  (st:St 0 ((bo w s).heap.push Z)) {Q:Value->Shared->Prop}
  (h:∀h' tk,cm P w h' s.heap.objs.size (dd ns.reverse)->(∀b o,s.heap.get? b=some o->h'.get? b=some o)->Q (.ref s.heap.objs.size) { s with heap:=h',toks:=tk }) :
  wpAny (model P w) A (call (.type "set") [.ref l]) Q E s:=by
 have z1:(bo w s).heap.objs.size=s.heap.objs.size+1:=IV ..;have ao:∀b,b<s.heap.objs.size->b∉[s.heap.objs.size,(bo w s).heap.objs.size]:=λb J=>by
  rw[z1];simp only[IB,Ks,Lj,not_or];exact⟨Iz J,Iz (Jb J)⟩
 have kept:∀b o,s.heap.get? b=some o->((bo w s).heap.push Z).get? b=some o:=λb o e=>mu _ (mu _ e)
 refine xZ _ λB hB=>?_
 have hT:(bo w s).TypeIs (.ref l) z:=⟨o,mu _ x,hc⟩;unfold Builtin.Frozenset.updateFrom Builtin.Frozenset.isAnySet;refine ez (ez (JB hT U ?_));show wpAny _ _ (isInstance (.ref l) (.type "frozenset")) _ _ _;refine JB hT Y ?_;rw[if_neg pd];refine ez (Kz hT ?_);rw[hd,if_neg pd];refine ez (it _ _ _ (ez (wpAny_runValue ?_)));have hS:s.heap.objs.size∉[(bo w s).heap.objs.size,l]:=by
  have:=uw x;rw[z1];simp only[IB,Ks,Lj,not_or];exact⟨Iz (Ke _),JL this⟩
 refine uR (W _ (by simpa using hB)) hS ns rfl hv J ns.length 0 _ (by omega) st ((qW s.heap).at λo e=>mu _ e) ?_;rintro s' ⟨h',tk,rfl,kp⟩ g;exact g4 (h h' tk g λb o e=>kp b o (ao b (uw e)) (kept b o e))
def set_list 
  (U:A.handled=none) (Y:s.heap.IsList l items) (hi:IntsAre items.toList ns) (Z:items.size+1<scanBound)
  (h:∀h' tk,cm P w h' s.heap.objs.size (dd ns.reverse)->(∀b o,s.heap.get? b=some o->h'.get? b=some o)->Q (.ref s.heap.objs.size) { s with heap:=h',toks:=tk }) :
  wpAny (model P w) A (call (.type "set") [.ref l]) Q E s:=by
 have z:items.size=ns.length:=by simpa using IntsAre.length hi
 obtain⟨o,ho,hc,hr⟩:=Y;have J:(bo w s).heap.IsList l items:=⟨o,mu _ ho,hc,hr⟩;refine mB ho hc (by decide) PySem.F.sub_list_set PySem.F.sub_list_frozenset (lP hi) (z▸Z) (λB hB=>z▸Walks.list (hB.trans U) _ l ?_ items)
  (λB E' R=>Kt J) ⟨⟨_,wh _ rfl,rfl,rfl⟩,J.push _⟩ h
 exact Iz (Nat.lt_of_lt_of_eq (Jb (uw ho)) (IV ..).symm)
def wj 
  (U:A.handled=none) (Y:s.heap.IsTuple l items) (hi:IntsAre items.toList ns) (Z:items.size+1<scanBound)
  (h:∀h' tk,cm P w h' s.heap.objs.size (dd ns.reverse)->(∀b o,s.heap.get? b=some o->h'.get? b=some o)->Q (.ref s.heap.objs.size) { s with heap:=h',toks:=tk }) :
  wpAny (model P w) A (call (.type "set") [.ref l]) Q E s:=by
 have z:items.size=ns.length:=by simpa using IntsAre.length hi
 obtain⟨o,ho,hc,hr⟩:=Y;have J:(bo w s).heap.IsTuple l items:=⟨o,mu _ ho,hc,hr⟩;refine mB ho hc (by decide) PySem.F.sub_tuple_set PySem.F.sub_tuple_frozenset (lP hi) (z▸Z) (λB hB=>z▸Walks.tuple (hB.trans U) _ l ?_ items)
  (λB E' R=>KZ J) ⟨⟨_,wh _ rfl,rfl,rfl⟩,J.push _⟩ h
 exact Iz (Nat.lt_of_lt_of_eq (Jb (uw ho)) (IV ..).symm)
end
set_option maxRecDepth 100000 in
def mC:entryFor table "set.__iter__"=some Builtin.«frozenset.__iter__»:=
 entryFor_alias (id':="frozenset.__iter__") (by kernel_rfl) rfl (by decide +kernel) (by kernel_rfl)
set_option maxRecDepth 100000 in
def oN:Manifest.owners.lookup (String.ofList ['r','o','t','a','r','e','t','i','_','t','e','s'].reverse)=some Manifest.sig_set_iterator:=by kernel_rfl
set_option maxRecDepth 100000 in
def aV:Slot "set_iterator" "__next__" "set_iterator.__next__":=
 .of (owner:="set_iterator") (n:="__next__") (by rw[Lq,KA];kernel_rfl) (by decide +kernel) (by decide +kernel) (by decide +kernel)
  (by first|exact .inl (by decide +kernel)|exact .inr (by decide +kernel)) (by rw[LA];kernel_rfl)
set_option maxRecDepth 100000 in
def dl:entryFor table "set_iterator.__next__"=some Builtin.«set_iterator.__next__»:=entryFor_of_tree (by kernel_rfl)
set_option maxRecDepth 100000 in
def dG (a):argsOk "set_iterator.__next__" ⟨[a],[]⟩:=by
 unfold argsOk;rw[signature?_of (n:=['_','_','t','x','e','n','_','_']) (by kernel_rfl) oN];kernel_rfl
set_option maxRecDepth 100000 in
def i5:Slot "set_iterator" "__iter__" "set_iterator.__iter__":=
 .of (owner:="set_iterator") (n:="__iter__") (by rw[Lq,KA];kernel_rfl) (by decide +kernel) (by decide +kernel) (by decide +kernel)
  (by first|exact .inl (by decide +kernel)|exact .inr (by decide +kernel)) (by rw[LA];kernel_rfl)
set_option maxRecDepth 100000 in
def mD:entryFor table "set_iterator.__iter__"=some Builtin.«dict_keyiterator.__iter__»:=
 entryFor_alias (id':="dict_keyiterator.__iter__") (by kernel_rfl) rfl (by decide +kernel) (by kernel_rfl)
set_option maxRecDepth 100000 in
def n8 (a):argsOk "set_iterator.__iter__" ⟨[a],[]⟩:=by
 unfold argsOk;rw[signature?_of (n:=['_','_','r','e','t','i','_','_']) (by kernel_rfl) oN];kernel_rfl
def x0 {s:Shared}{I:Addr}{Q:Value->Shared->Prop} (z:s.TypeIs (.ref I) "set_iterator") (h:Q (.ref I) s):wpAny (model P w) A (pyIter (.ref I)) Q E s:=by
 refine LO z i5 (IY i5 z mD ?_ (n8 _));exact g4 ⟨_,rfl,"set_iterator",_,z,aV.lookup,h⟩
theorem gJ{α:Type}:∀{l}{i}{x:α},l[i]?=some x->(x::l.eraseIdx i).Perm l
 | [],i,x,h=>by simp at h
 |a::l,0,x,h=>by
  simp_all
 |a::l,i+1,x,h=>by
  have h':l[i]?=some x:=by simpa using h
  exact(Perm.swap a x _).trans (.cons a (gJ h'))
theorem uS(next):∀z k left (out:Array α),z=left.length->(pickOrder.go next z k left out).toList.Perm (out.toList++left)
 |0,k,left,out,h=>by
  have:=Kk.mp h.symm;subst this;rw[JD];exact .refl _
 |z+1,k,left,out,h=>by
  have J:next k % left.length<left.length:=L7 _ (by omega);obtain⟨x,hx⟩:∃x,left[next k % left.length]?=some x:=⟨_,IJ J⟩;have e:pickOrder.go next (z+1) k left out=pickOrder.go next z (k+1) (left.eraseIdx (next k % left.length)) (out.push x):=by
   show(match left[next k % left.length]? with
    |some x=>pickOrder.go next z _ _ _
    |none=>out)=_
   rw[hx]
  rw[e];refine(uS next z _ _ _ (by rw[KC J];omega)).trans ?_;rw[Array.toList_push,Jm];exact Perm.append_left _ (gJ hx)
def oO(next)(xs:Array α):(pickOrder next xs).toList.Perm xs.toList:=by
 have:=uS next xs.size 0 xs.toList #[] (by simp);simpa[pickOrder]using this
section
variable{M:Model}{A:Around}{E:Value->Shared->Prop}{s:Shared}
def sT{n:Nat}{Q:Nat->Shared->Prop}(z:n≠0)(h:∀i d',i<n->Q i { s with drawn:=d' }):wpAny M A (choose src n) Q E s:=λ_ _ _ =>
 ⟨z,h _ _ (L7 _ (Nat.pos_of_ne_zero z))⟩
theorem jg :∀n xs s {Q:List α->Shared->Prop},n=xs.length->(∀ys d',ys.Perm xs->Q ys { s with drawn:=d' })->wpAny M A (drawOrder n xs) Q E s
 |0,xs,s,Q,h,q=>by
  have:=Kk.mp h.symm;subst this;exact g4 (q [] s.drawn (.refl _))
 |n+1,[],s,Q,h,q=>by simp at h
 |n+1,x::r,s,Q,h,q=>by
  refine ez (sT (by simp) λi d' hi=>?_);obtain⟨y,J⟩:∃y,(x::r)[i]?=some y:=⟨_,IJ hi⟩;rw[J];refine ez (jg n _ _ (by rw[KC hi];simp at h ⊢;omega) λys z U=>g4 ?_);exact q (y::ys) z ((Perm.cons y U).trans (gJ J))
end
def SIt(h:Heap)(I S:Addr)(o:Obj)(f:Value)(i n ep:Nat):Prop:=
 h.get? I=some { cls:=.type "set_iterator",dict:=none,data:=.fields #[f,.int i 0,.ref S,.int n 0,.int ep 0],slots:=#[] }/\h.get? S=some o
theorem SIt.type {s:Shared} (h:SIt s.heap I S o f i n ep):s.TypeIs (.ref I) "set_iterator":=⟨_,h.1,rfl⟩
section
variable{P:Program}{w:World}{A:Around}{E:Value->Shared->Prop}{s:Shared}
def eU(ho:s.heap.get? S=some o)(hd:o.data=.set es ep t)(z:t.fits es.size=true)(h:Q es s) :
  wpAny (model P w) A (setEntries S) Q E s:=Lx ho hd z h
def oP{ep slot i:Nat}{t:SetTable}{Q:Option (Value×Nat)->Shared->Prop}(ho:s.heap.get? S=some o)(hd:o.data=.set es ep t)(z:t.fits es.size=true)(J:byT w=true)
  (h:Q (((pickOrder (w.params.setOrder S ep) es)[i]?).map λe=>(e.2,slot)) s):wpAny (model P w) A (setNext S slot i ep) Q E s:=by
 unfold setNext;refine ez (IQ ho hd z ?_);dsimp only;refine ez (de ?_);rw[if_pos J];simp only[Kw,IK,Jz];refine ez ?_;unfold setWalk;refine ez (IQ ho hd z ?_);dsimp only;refine ez (de ?_);rw[if_pos J];refine ez (LY (g4 ?_));exact g4 h
def mE{t:SetTable}{Q:Option (Value×Nat)->Shared->Prop}(ho:s.heap.get? S=some o)(hd:o.data=.set es ep t)(Y:t.fits es.size=true)(Z:byT w=false)
  (J:(!t.plain&&decide (es.size > 1))=false) (z:t.led=true)
  (h:Q (match es[SetTable.below t.place slot]?,t.place[SetTable.below t.place slot]? with|some (_,x),some j=>some (x,j+1)|_,_=>none) s):wpAny (model P w) A (setNext S slot i ep) Q E s:=by
 unfold setNext;refine ez (IQ ho hd Y ?_);dsimp only;refine ez (de ?_);rw[if_neg (by rw[Z];simp)];refine IU (λU=>absurd (show(!t.plain&&decide (es.size > 1))=true from U) (by rw[J];simp)) (λ_=>?_);refine ez ?_;show wpAny _ _ (if (!t.led&&!es.isEmpty)=true then _ else _) _ _ s;rw[if_neg (by rw[z];simp)];exact g4 (g4 h)
def x9(z:n5 xs)(hi:i<xs.size):SetTable.below xs (xs.getD i 0+1)=i+1:=by
 obtain⟨h1,h2,J⟩:=je z _;have a:i<SetTable.below xs (xs.getD i 0+1):=by
  by_cases q:SetTable.below xs (xs.getD i 0+1)<=i
  .have:=J i q hi;omega
  .omega
 have b:SetTable.below xs (xs.getD i 0+1)<=i+1:=by
  by_cases q:i+1<SetTable.below xs (xs.getD i 0+1)
  .have:=h2 _ q;have:=z i (i+1) (by omega) (by omega);omega
  .omega
 omega
def sU(xs)(z:n5 xs):SetTable.below xs 0=0:=by
 obtain⟨h1,h2,J⟩:=je z 0;by_cases q:0<SetTable.below xs 0
 .have:=h2 0 q;omega
 .omega
end
section
variable{P:Program}{w:World}{A:Around}{E:Value->Shared->Prop}{s:Shared}{I S:Addr}{o:Obj}{es:Array (Int×Value)}{t:SetTable}{i n ep:Nat}
def n9{slot nx:Nat}{x:Value}{Q:Option Value->Shared->Prop}(z:SIt s.heap I S o (.int slot 0) i n ep)(hd:o.data=.set es ep t)(hf:t.fits es.size=true)(hn:es.size=n)(Y:S≠I)
  (Z:∀A' s' Q' E',s'.heap.get? S=some o->Q' (some (x,nx)) s'->wpAny (model P w) A' (setNext S slot i ep) Q' E' s')
  (hQ:∀h',SIt h' I S o (.int nx 0) (i+1) n ep->Heap.SameBut I s.heap h'->Q (some x) { s with heap:=h' }):wpAny (model P w) A (pyNext (.ref I)) Q E s:=by
 unfold pyNext;refine ez (Lh (Jk (name:=Str.ofString "__next__") z.type aV (IY aV z.type dl ?_ (dG _))));unfold Builtin.«set_iterator.__next__»;refine ez (m:=slotArgs "__next__" 0 _) (g4 ?_);refine ez (LB z.1 rfl ?_);dsimp only;refine ez (eU z.2 hd hf ?_);rw[if_neg (by simp[hn])]
 try dsimp only
 simp only[Int.toNat_natCast];refine ez (Z _ _ _ _ z.2 ?_);dsimp only;refine ez (JZ z.1 (by simp) λh1 e1 J=>?_);refine ez (JZ e1 (by simp) λh2 e2 U=>?_);refine g4 ⟨x,rfl,g4 (hQ h2 ⟨?_,?_⟩ (J.trans U))⟩
 .simpa[rawInt]using e2
 .exact((J.trans U).2 S Y).trans z.2
def n_{slot:Nat}{Q:Option Value->Shared->Prop}(Y:A.handled=none)(z:SIt s.heap I S o (.int slot 0) i n ep)(hd:o.data=.set es ep t)(hf:t.fits es.size=true)(hn:es.size=n)
  (J:∀A' s' Z E',s'.heap.get? S=some o->Z none s'->wpAny (model P w) A' (setNext S slot i ep) Z E' s')
  (hQ:∀h',(∀b o,b≠I->s.heap.get? b=some o->h'.get? b=some o)->Q none { s with heap:=h' }):wpAny (model P w) A (pyNext (.ref I)) Q E s:=by
 unfold pyNext;refine ez (Lh (Jk (name:=Str.ofString "__next__") z.type aV (IY aV z.type dl ?_ (dG _))));unfold Builtin.«set_iterator.__next__»;refine ez (m:=slotArgs "__next__" 0 _) (g4 ?_);refine ez (LB z.1 rfl ?_);dsimp only;refine ez (eU z.2 hd hf ?_);rw[if_neg (by simp[hn])]
 try dsimp only
 simp[Int.toNat_natCast];refine ez (J _ _ _ _ z.2 ?_);dsimp only;refine ez (JZ z.1 (by simp) λh1 e1 U=>?_);refine kw (v:=.none) (vs:=#[]) (it:=0) (Q:=λ_ _=>True) (by first|exact Y|simpa using Y) λe s' kp ⟨h',eq⟩ hT=>?_
 subst eq;refine ez (JB hT isSubtype_stop ?_);exact g4 (hQ h' λb o hb q=>kp b o ((U.2 b hb).trans q))
def mF{pn place:Nat}{pt:Tok}{hx:Int}{x:Value}{Q:Option Value->Shared->Prop}(z:SIt s.heap I S o (.ref Tp) i n ep)(hd:o.data=.set es ep t)(hf:t.fits es.size=true)(hn:es.size=n)(U:S≠I)
  (Y:s.heap.get? Tp=some ot) (Z:ot.data=.seq ps pn) (hp:ps[i]?=some (.int place pt)) (ao:es[place]?=some (hx,x))
  (hQ:∀h',SIt h' I S o (.ref Tp) (i+1) n ep->Heap.SameBut I s.heap h'->Q (some x) { s with heap:=h' }):wpAny (model P w) A (pyNext (.ref I)) Q E s:=by
 unfold pyNext;refine ez (Lh (Jk (name:=Str.ofString "__next__") z.type aV (IY aV z.type dl ?_ (dG _))));unfold Builtin.«set_iterator.__next__»;refine ez (m:=slotArgs "__next__" 0 _) (g4 ?_);refine ez (LB z.1 rfl ?_);dsimp only;refine ez (eU z.2 hd hf ?_);rw[if_neg (by simp[hn])]
 try dsimp only
 refine ez (wpAny_seqItems Y Z ?_);dsimp only;simp only[Int.toNat_natCast,hp];refine ez ?_;unfold setNextDrawn;refine ez (IQ z.2 hd hf ?_);dsimp only;simp only[Kw,IK,Jz,Int.toNat_natCast,ao];refine g4 ?_;refine ez (JZ z.1 (by simp) λh1 e1 J=>?_);refine g4 ⟨x,rfl,g4 (hQ h1 ⟨?_,?_⟩ J)⟩
 .simpa[rawInt]using e1
 .exact(J.2 S U).trans z.2
def mG(hh:A.handled=none)(z:SIt s.heap I S o (.ref Tp) i n ep)(hd:o.data=.set es ep t)(hf:t.fits es.size=true)(hn:es.size=n)
  (J:s.heap.get? Tp=some ot) (U:ot.data=.seq ps pn) (hp:ps[i]?=none)
  (hQ:∀h',(∀b o,b≠I->s.heap.get? b=some o->h'.get? b=some o)->Q none { s with heap:=h' }):wpAny (model P w) A (pyNext (.ref I)) Q E s:=by
 refine ez (Lh (Jk z.type aV (IY aV z.type dl ?_ (dG _))));refine ez (g4 ?_);refine ez (LB z.1 rfl ?_);dsimp only;refine ez (eU z.2 hd hf ?_);rw[if_neg (by simp[hn])]
 try dsimp only
 refine ez (wpAny_seqItems J U ?_);simp[Int.toNat_natCast,hp];refine ez (JZ z.1 (by simp) λh1 e1 Y=>?_);refine ez (JZ e1 (by simp) λh2 e2 Z=>?_);refine kw (v:=.none) (vs:=#[]) (it:=0) (Q:=λ_ _=>True) (by first|exact hh|simpa using hh) λe s' kp ⟨h',eq⟩ hT=>?_
 subst eq;refine ez (JB hT isSubtype_stop ?_);exact g4 (hQ h' λb o hb q=>kp b o (((Y.trans Z).2 b hb).trans q))
end
structure pS(P:Program)(w:World)(I:Addr)(fp:List Addr)(order:List Int)(St:Nat->Heap->Prop):Prop where
 mem:I∈fp
 ty:∀i h,St i h->∃o,h.get? I=some o/\o.cls=.type "set_iterator"
 frame:∀i h h',St i h->(∀b∈fp,∀o,h.get? b=some o->h'.get? b=some o)->St i h'
 item:∀(A:Around) i (s:Shared) (Q:Option Value->Shared->Prop) (E:Value->Shared->Prop),i<order.length->St i s.heap ->
  (∀t h',St (i+1) h'->(∀b o,b≠I->s.heap.get? b=some o->h'.get? b=some o)->Q (some (.int (order.getD i 0) t)) { s with heap:=h' })->wpAny (model P w) A (pyNext (.ref I)) Q E s
 done:∀(A:Around) (s:Shared) (Q:Option Value->Shared->Prop) (E:Value->Shared->Prop),A.handled=none->St order.length s.heap ->
  (∀h',(∀b o,b≠I->s.heap.get? b=some o->h'.get? b=some o)->Q none { s with heap:=h' })->wpAny (model P w) A (pyNext (.ref I)) Q E s
def pS.walks{St:Nat->Heap->Prop}(W:pS P w I fp order St)(Z:A.handled=none) :
  Walks P w A I fp [I] order.length (λi v=>∃t,v=.int (order.getD i 0) t) St where
 sub:=λb J=>by rw[I0.mp J];exact W.mem
 frame:=W.frame
 item:=λi s Q E hi st U=>W.item A i s Q E hi st λt h' Y kp=>U _ h' s.toks ⟨t,rfl⟩ Y λb o J e=>kp b o (λz=>J (by rw[z];exact I0.mpr rfl)) e
 done:=λs Q E st U=>W.done A s Q E Z st λh' kp=>U h' s.toks λb o J e=>kp b o (λz=>J (by rw[z];exact I0.mpr rfl)) e
 self:=λi s Q E st h=>by
  obtain⟨o,e,c⟩:=W.ty i _ st;exact x0 ⟨o,e,c⟩ h
section
variable{P:Program}{w:World}{A:Around}{E:Value->Shared->Prop}{s:Shared}
def jD{l:List (Int×Value)}(h:l[i]?=some e):(l.map λe=>numOf e.2).getD i 0=numOf e.2:=by simp_all
set_option maxRecDepth 100000 in
def x_(g:cm P w s.heap S ks)
  (hQ:∀(I:Addr) h' d' fp J St,J.Perm ks->(∀b o,s.heap.get? b=some o->h'.get? b=some o)->s.heap.objs.size<=I->(∀b∈fp,b=S\/s.heap.objs.size<=b)->(∀b∈fp,b<h'.objs.size) ->
   pS P w I fp J St->St 0 h'->Q (.ref I) { s with heap:=h',drawn:=d' }):wpAny (model P w) A (pyIter (.ref S)) Q E s:=by
 obtain⟨o,es,ep,t,ho,cP,hd,cr,b0,df,hb,Z,b1⟩:=g;have hT:s.TypeIs (.ref S) "set":=⟨o,ho,cP.1⟩;have ar:=uw ho;have cS:t.place.size=es.size:=by simp[SetTable.fits]at Z;exact Z.1
 have c6:es.size=ks.length:=by have:=b0.length_eq;simpa using this
 refine LO hT PySem.F.slot_set_iter (IY PySem.F.slot_set_iter hT mC ?_ (PySem.F.args_set_iter_1 _));unfold Builtin.«frozenset.__iter__»;refine ez (m:=Builtin.Frozenset.slot0 "__iter__" _) (g4 ?_);refine ez (m:=Builtin.Frozenset.sizeOf S) (ez (eU ho hd Z (g4 ?_)));refine ez (m:=setDrawn S) ?_;unfold setDrawn;refine ez (IQ ho hd Z ?_);dsimp only;refine ez (de (g4 ?_));have Y:∀(J:List (Int×Value)) (fs:Nat->Nat),J.Perm es.toList->fs 0=0 ->
   (∀A' i (s':Shared) (Q':Option (Value×Nat)->Shared->Prop) (E':Value->Shared->Prop) e,J[i]?=some e->s'.heap.get? S=some o->Q' (some (e.2,fs (i+1))) s'->wpAny (model P w) A' (setNext S (fs i) i ep) Q' E' s') ->
   (∀A' s' Q' E',s'.heap.get? S=some o->Q' none s'->wpAny (model P w) A' (setNext S (fs J.length) J.length ep) Q' E' s') ->
   Q (.ref s.heap.objs.size) { s with heap:=s.heap.push { cls:=.type "set_iterator",data:=.fields #[.int 0 0,.int 0 0,.ref S,.int (es.size:Nat) 0,.int (ep:Nat) 0] } }:=by
  intro J fs hp h0 b2 cu;have hol:J.length=es.size:=by have:=hp.length_eq;simpa using this
  refine hQ s.heap.objs.size _ s.drawn [s.heap.objs.size,S] (J.map λe=>numOf e.2) (λi h=>SIt h s.heap.objs.size S o (.int (fs i) 0) i es.size ep) ((hp.map _).trans b0) (λb o e=>mu _ e) (pe _) (λb hb=>?_) (λb hb=>?_) ?_ ?_
  .rcases IB.mp hb with e|e
   .exact .inr (Ll e.symm)
   .exact .inl (I0.mp e)
  .rw[IV];rcases IB.mp hb with e|e
   .rw[e];exact Ke _
   .rw[I0.mp e];exact Jb ar
  .refine⟨.head _,λi h st=>⟨_,st.1,rfl⟩,λi h h' st k=>⟨k _ (.head _) _ st.1,k _ (.tail _ (.head _)) _ st.2⟩,λA' i s' Q' E' hi st hq=>?_,λA' s' Q' E' hh st hq=>?_⟩
   .rw[tf]at hi;obtain⟨e,he⟩:∃e,J[i]?=some e:=⟨_,IJ hi⟩;have hm:=hp.mem_iff.mp (J0 he);obtain⟨tk,hv⟩:=eN cr e hm;rw[jD he]at hq;refine n9 (slot:=fs i) (nx:=fs (i+1)) (x:=e.2) st hd Z rfl (Iz ar) (λb3 b4 b5 cd a4 q=>b2 b3 i b4 b5 cd e he a4 q) λh' ck sb=>?_
    rw[hv];exact hq tk h' ck λb o hb q=>(sb.2 b hb).trans q
   .rw[tf]at st;exact n_ (slot:=fs J.length) hh st hd Z rfl (λb3 b4 b5 cd a4 q=>cu b3 b4 b5 cd a4 q) hq
  .refine⟨?_,mu _ ho⟩;rw[h0];exact wh _ rfl
 cases a5:byT w with
 |true =>
  simp only[J3,Lz,IK,Jz];refine ez (g4 ?_);refine ez (J7 ho hd Z ?_);refine ez (Jh (g4 ⟨_,rfl,"set_iterator",_,⟨_,wh _ rfl,rfl⟩,aV.lookup,?_⟩));have q:=Y (pickOrder (w.params.setOrder S ep) es).toList (λ_=>0) (oO _ _) rfl
   (λA' i s' Q' E' e he ao q=>oP ao hd Z a5 (by rw[<- Jg,he];exact q))
   (λA' s' Q' E' ao q=>oP ao hd Z a5 (by rw[Kr (by simp)];exact q))
  simpa[rawInt]using q
 |false =>
  cases a8:(!t.plain&&decide (es.size > 1))with
  |false =>
   refine IU (λcl=>absurd (show(!false&&(!t.plain&&decide (es.size > 1)))=true from cl) (by rw[a8];simp)) (λ_=>?_);refine ez (g4 ?_);refine ez (J7 ho hd Z ?_);refine ez (Jh (g4 ⟨_,rfl,"set_iterator",_,⟨_,wh _ rfl,rfl⟩,aV.lookup,?_⟩));have a9:t.led=true:=by rw[b1.led,a5];rfl
   have cC:∀i,i<=t.place.size->SetTable.below t.place (match i with|0=>0|j+1=>t.place.getD j 0+1)=i:=λi hi=>by
    cases i<;>first|exact sU _ b1.rise|exact x9 b1.rise (by omega)
   have q:=Y es.toList (λi=>match i with|0=>0|j+1=>t.place.getD j 0+1) (.refl _) rfl
    (λA' i s' Q' E' e he ao q=>mE ao hd Z a5 a8 a9 (by
     have hi:i<es.size:=by have:=(IA.mp he).1;simpa using this
     rw[cC i (by omega)];rw[<- Jg,he,KY (by omega:i<t.place.size)];have e2:t.place.getD i 0=t.place[i]:=by simp[Array.getD,(by omega:i<t.place.size)]
     dsimp only at q ⊢;rw[e2]at q;exact q))
    (λA' s' Q' E' ao q=>mE ao hd Z a5 a8 a9 (by
     rw[cC _ (by simp[cS]),Kr (by simp)];exact q))
   simpa[rawInt]using q
  |true =>
   refine IU (λ_=>?_) (λcl=>absurd (show(!false&&(!t.plain&&decide (es.size > 1)))=true by rw[a8];rfl) cl);refine ez (jg _ _ _ (by simp) λz d' U=>?_);refine ez (wpAny_newTuple ?_ (by simp;have:=U.length_eq;simp at this;rw[this,Jo];unfold scanBound at hb;omega));refine ez (J7 (mu _ ho) hd Z ?_);refine ez (Jh (g4 ⟨_,rfl,"set_iterator",_,⟨_,wh _ rfl,rfl⟩,aV.lookup,?_⟩));have dt:z.length=es.size:=by have:=U.length_eq;simpa using this
   have c1:∀p∈z,p<es.size:=λp hp=>by have:=U.mem_iff.mp hp;simpa using this
   have c2:((s.heap.push { cls:=.type "tuple",data:=.seq (map (λ(i:Nat)=>rawInt i) z).toArray }).push { cls:=.type "set_iterator",data:=.fields #[.ref s.heap.objs.size,.int 0 0,.ref S,.int (es.size:Nat) 0,.int (ep:Nat) 0] }).get? s.heap.objs.size=some { cls:=.type "tuple",data:=.seq (map (λ(i:Nat)=>rawInt i) z).toArray }:=
    mu _ (wh _ rfl)
   have q:=hQ (s.heap.push { cls:=.type "tuple",data:=.seq (map (λ(i:Nat)=>rawInt i) z).toArray }).objs.size
    ((s.heap.push { cls:=.type "tuple",data:=.seq (map (λ(i:Nat)=>rawInt i) z).toArray }).push { cls:=.type "set_iterator",data:=.fields #[.ref s.heap.objs.size,.int 0 0,.ref S,.int (es.size:Nat) 0,.int (ep:Nat) 0] }) d'
    [(s.heap.push { cls:=.type "tuple",data:=.seq (map (λ(i:Nat)=>rawInt i) z).toArray }).objs.size,S,s.heap.objs.size]
    (z.map λp=>(es.toList.map λe=>numOf e.2).getD p 0)
    (λi h=>SIt h (s.heap.push { cls:=.type "tuple",data:=.seq (map (λ(i:Nat)=>rawInt i) z).toArray }).objs.size S o (.ref s.heap.objs.size) i es.size ep/\h.get? s.heap.objs.size=some { cls:=.type "tuple",data:=.seq (map (λ(i:Nat)=>rawInt i) z).toArray })
    ?p1 (λb o e=>mu _ (mu _ e)) (by rw[IV];exact Kb _) ?p2 ?p3 ?p4 ⟨⟨wh _ rfl,mu _ (mu _ ho)⟩,c2⟩
   .simpa[rawInt]using q
   case p1 =>
    have e1:(es.toList.map λe=>numOf e.2).length=es.size:=by simp
    have h1:=U.map λp=>(es.toList.map λe=>numOf e.2).getD p 0
    rw[<- e1,AU]at h1;exact h1.trans b0
   case p2 =>
    simp_all
   case p3 =>
    intro b hb;rw[IV];simp only[IB,Ks,Lj]at hb;rcases hb with e|e|e
    .rw[e];exact Ke _
    .rw[e,IV];exact Jb (Jb ar)
    .rw[e,IV];exact Jb (Ke _)
   case p4 =>
    refine⟨.head _,λi h st=>⟨_,st.1.1,rfl⟩,λi h h' st k=>⟨⟨k _ (.head _) _ st.1.1,k _ (.tail _ (.head _)) _ st.1.2⟩,k _ (.tail _ (.tail _ (.head _))) _ st.2⟩,λA' i s' Q' E' hi st hq=>?_,λA' s' Q' E' hh st hq=>?_⟩
    .rw[tf]at hi;obtain⟨p,hp⟩:∃p,z[i]?=some p:=⟨_,IJ hi⟩;have c3:=c1 p (J0 hp);obtain⟨e,he⟩:∃e,es.toList[p]?=some e:=⟨_,IJ (by simpa using c3)⟩;obtain⟨tk,hv⟩:=eN cr e (J0 he);have e3:(z.map λp=>(es.toList.map λe=>numOf e.2).getD p 0).getD i 0=numOf e.2:=by
      rw[J1,IS,hp];exact jD he
     rw[e3]at hq;refine mF (place:=p) (pt:=0) (hx:=e.1) (x:=e.2) st.1 hd Z rfl (by rw[IV];exact Iz (Jb ar)) st.2 rfl (by simp[hp,rawInt]) (by rw[<- Jg,he]) λh' ck sb=>?_
     rw[hv];exact hq tk h' ⟨ck,(sb.2 _ (by rw[IV];exact Iz (Ke _))).trans st.2⟩ λb o hb q=>(sb.2 b hb).trans q
    .rw[tf]at st;exact mG hh st.1 hd Z rfl st.2 rfl (by simp) hq
def ya (U:s.TypeIs (.ref r) "set") (h:Q false s):wpAny (model P w) A (Builtin.List.listLengthHint (.ref r)) Q E s:=by
 unfold Builtin.List.listLengthHint;refine ez (Ln U PySem.F.slot_set_len.lookup ?_);generalize J:("set.__len__":String)=Y
 wp_delta
 rw[show splitId Y=some ("set","__len__")from by subst J;decide +kernel];subst J;refine ez (JB (T:="set") (b:=true) U (by rw[LA];kernel_rfl) ?_);refine IU (λz=>absurd z (by decide)) (λ_=>?_);refine IU (λ_=>?_) (λz=>absurd (by decide +kernel) z);refine ez (Kz U ?_);exact g4 h
set_option maxRecDepth 100000 in
def qX(hh:A.handled=none)(g:cm P w s.heap S ks)
  (h:∀h' tk d' a3 J,(∀b o,s.heap.get? b=some o->h'.get? b=some o)->J.Perm ks->IntsAre a3 J->R a3 { s with heap:=h',toks:=tk,drawn:=d' }) :
  wpAny (model P w) A (collect (.ref S)) R E s:=by
 have b3:ks.length<scanBound:=by
  obtain⟨o,es,ep,t,ho,a4,hd,c0,hp,hn,hb,_⟩:=g;have:=hp.length_eq
  simp_all
 have Y:S<s.heap.objs.size:=by
  obtain⟨o,es,ep,t,ho,_⟩:=g;exact uw ho
 unfold collect;refine ez (wpAny_runValue (Lo entry_proto_collect' ?_));rw[Lp PySem.F.plain_proto_collect _];show wpAny _ A.in1 (newList [] >>= λl=>again (.builtin "list.__iadd__" ⟨[l,.ref S],[]⟩)) _ _ s;refine ez (Jh ?_);refine g4 ⟨Lg PySem.F.plain_list_iadd _,Lo entry_list_iadd' ?_⟩;rw[Lp PySem.F.plain_list_iadd _];have b4:(s.heap.push { cls:=.type "list",data:=.seq ([]:List Value).toArray }).get? s.heap.objs.size=some { cls:=.type "list",data:=.seq #[] }:=wh _ rfl;show wpAny _ A.in1 (Builtin.List.listExtendWith (.ref s.heap.objs.size) (.ref S) (.ref s.heap.objs.size)) _ _ _;have g1:cm P w (s.heap.push { cls:=.type "list",data:=.seq ([]:List Value).toArray }) S ks:=g.at λo e=>mu _ e
 have hT:Shared.TypeIs { s with heap:=s.heap.push { cls:=.type "list",data:=.seq ([]:List Value).toArray } } (.ref S) "set":=by
  obtain⟨o,es,ep,t,ho,a4,_⟩:=g1;exact⟨o,ho,a4.1⟩
 unfold Builtin.List.listExtendWith;refine ez (Kz (T:="set") hT ?_);have q1:Builtin.List.listSameRef (.ref s.heap.objs.size) (.ref S)=false:=by simp[Builtin.List.listSameRef,JL Y]
 have q2:(Value.type "set" == Value.type "list")=false:=by decide
 have q3:(Value.type "set" == Value.type "tuple")=false:=by decide
 simp only[q1,q2,q3,Bool.or_false,IK,Jz];refine ez (x_ g1 λI h1 d1 fp J St Z kp hI b5 df W st=>?_);have a6:(s.heap.push { cls:=.type "list",data:=.seq ([]:List Value).toArray }).objs.size=s.heap.objs.size+1:=IV ..;have a7:s.heap.objs.size∉fp:=λhm=>by
  rcases b5 _ hm with e|e
  .exact Jr _ (by rw[<- e]at Y;exact Y)
  .dsimp only at e;rw[a6]at e;exact Nat.not_succ_le_self _ e
 have hol:J.length<=sizeLine:=by
  have:=Z.length_eq;rw[this];exact JP b3
 have cd:Shared.TypeIs { s with heap:=h1,drawn:=d1 } (.ref S) "set":=by
  obtain⟨o,e,c⟩:=hT;exact⟨o,kp S o e,c⟩
 refine ez (IZ (ya cd ?_));have WS:=(W.walks (A:=A.in1) (by first|exact hh|simpa using hh)).toS;have fin:∀h2 c1,St 0 h2->(∀b o,b≠s.heap.objs.size->h1.get? b=some o->h2.get? b=some o)->h2.get? s.heap.objs.size=some { cls:=.type "list",dict:=none,data:=.seq #[] c1,slots:=#[] } ->
   codeAny (model P w) A (.builtin "list.extend.loop" ⟨[.ref s.heap.objs.size,.ref I,.ref s.heap.objs.size],[]⟩)
    (λr s'=>∃h' tk U c',r=.ok (.ret (.ref s.heap.objs.size))/\s'={ s with heap:=h',toks:=tk,drawn:=d1 }/\(∀b o,s.heap.get? b=some o->h'.get? b=some o) /\
     h'.get? s.heap.objs.size=some { cls:=.type "list",dict:=none,data:=.seq U c',slots:=#[] }/\IntsAre U.toList J) { s with heap:=h2,drawn:=d1 }:=by
  intro h2 c1 cl k2 ao;refine codeAny_extend_loopS WS hol s.heap.objs.size a7 _ J.length 0 _ #[] c1 rfl (Ji _) cl ao (ItemsOf.nil _) λs' U c' hm ar a8=>?_
  refine⟨s'.heap,s'.toks,U,c',rfl,(by
   obtain⟨h',g',cr,dr,dt⟩:=s';have eg:g'=s.gens:=hm.gens;have ed:cr=d1:=hm.drawn;have eo:=hm.os;subst eg;subst ed;subst eo;rfl),λb o e=>?_,ar,n4 a8⟩
  have a9:=Iz (uw e);refine hm.heap b o (λb0=>?_) (k2 b o a9 (kp b o (mu _ e)));rcases IB.mp b0 with z|z
  .exact a9 z
  .have cu:=I0.mp z;rw[cu]at e;have b1:=hI;rw[a6]at b1;exact absurd (IF (uw e) (La b1)) (Jr _)
 have done:∀r s',(∃h' tk U c',r=.ok (.ret (.ref s.heap.objs.size))/\s'={ s with heap:=h',toks:=tk,drawn:=d1 }/\(∀b o,s.heap.get? b=some o->h'.get? b=some o) /\
     h'.get? s.heap.objs.size=some { cls:=.type "list",dict:=none,data:=.seq U c',slots:=#[] }/\IntsAre U.toList J) ->
   wants (λv s'=>wpAny (model P w) A (match v with
    |Value.ref a=>do
     match (<- load a).data with
      |Data.seq xs _=>pure xs.toList
      | _=>unsupported "internal:collect"
    | _=>unsupported "internal:collect") R E s') E r s':=by
  rintro r s' ⟨h',tk,U,c',rfl,rfl,k',ar,hi⟩;show wpAny _ A (load s.heap.objs.size >>= _) _ _ _;refine ez (wpAny_load ar ?_);exact g4 (h h' tk d1 U.toList J k' Z hi)
 have aO:=kp _ _ b4;refine IU (λ_=>?_) (λ_=>g4 ⟨Lg PySem.F.plain_extend_loop _,Ky (fin h1 0 st (λ_ _ _ e=>e) aO) done⟩);refine ez (Ka ?_);refine ez ?_;show wpAny _ _ (updateSeq s.heap.objs.size (·.push .none) >>= λ_=>updateSeq s.heap.objs.size (·.pop)) _ _ _;refine ez (Lr aO rfl ?_);have ao:=Jf (Obj.mapSeq (·.push Value.none)) aO rfl;refine Lr (hz:=by seq_fits) ao rfl ?_;have cC:=Jf (Obj.mapSeq (·.pop)) ao rfl;refine g4 ⟨Lg PySem.F.plain_extend_loop _,Ky (fin _ _ ?_ (λb o hb e=>?_) cC) done⟩
 .refine W.frame 0 _ _ st λb hb o e=>?_
  have b2:b≠s.heap.objs.size:=λz=>a7 (z▸hb)
  exact(Jv _ _ (Kg b2)).trans ((Jv _ _ (Kg b2)).trans e)
 .exact(Jv _ _ (Kg hb)).trans ((Jv _ _ (Kg hb)).trans e)
end
end L2.St
namespace L2
open PySem PySem.Spec PyProof.Rows List Option
noncomputable def lI(scope osc:Scope):Scope:=
 { scope with names:=scope.names.map λ(n,k)=>if (k==.free&&osc.kind==.function&&osc.names.lookup n==some .cell)then(n,.cell)else(n,k) }
noncomputable def og(osc:Scope)(n:Str)(k:NameKind):NameKind:=if (k==.free&&osc.kind==.function&&osc.names.lookup n==some .cell)then .cell else k
def jh(scope osc):(lI scope osc).names=scope.names.map λq=>(q.1,og osc q.1 q.2):=by
 refine Jw λq _=>?_
 obtain⟨n,k⟩:=q;show(if _=true then _ else _)=(n,og osc n k);unfold og;split<;>rfl
theorem fw{α z:Type}(g:Str->α->z)(y):∀names:List (Str×α),(names.map λq=>(q.1,g q.1 q.2)).lookup y=(names.lookup y).map (g y)
 | []=>rfl
 | (n,k)::r=>by
  cases hx:y==n with
  |true =>
   simp[lookup_cons,hx,map_some];rw[eq_of_beq hx]
  |false =>
   simp[lookup_cons,hx];exact fw g y r
def wk(osc)(n):og osc n .free=.cell\/og osc n .free=.free:=by
 unfold og;split
 .exact .inl rfl
 .exact .inr rfl
def wl(z:k≠.cell)(h:og osc n k=.cell\/og osc n k=.free):k=.free:=by
 unfold og at h;by_cases hc:(k==NameKind.free&&osc.kind==.function&&osc.names.lookup n==some .cell)=true
 .simp_all
 .simp_all
theorem ji{α:Type}{k:α}:∀{l:List (Str×α)},l.lookup y=some k->(y,k)∈l
 | [],h=>by simp at h
 | (n,z)::r,h=>by
  cases hx:y==n with
  |true =>
   simp only[lookup_cons,hx]at h;rw[eq_of_beq hx,II h];exact .head _
  |false =>
   simp[lookup_cons,hx]at h;exact .tail _ (ji h)
def wm(h:scope.names.lookup y=some .free):(lI scope osc).names.lookup y=some .cell\/(lI scope osc).names.lookup y=some .free:=by
 rw[jh,fw,h,map_some];rcases wk osc y with e|e
 .exact .inl (by rw[e])
 .exact .inr (by rw[e])
def wn(U:∀z∈scope.names,z.2=.cell->z.1=x)(h:(lI scope osc).names.lookup y=some .cell\/(lI scope osc).names.lookup y=some .free):(y,NameKind.free)∈scope.names\/(y=x/\scope.names.lookup x=some .cell):=by
 rw[jh,fw]at h;cases e:scope.names.lookup y with
 |none=>rw[e]at h;rcases h with h|h<;>cases h
 |some k =>
  rw[e,map_some]at h;have J:=ji e;by_cases hc:k=.cell
  .subst hc;have q:=U _ J rfl;exact .inr ⟨q,by rw[<- q];exact e⟩
  .have Y:=wl hc (h.elim (λz=>.inl (II z)) λz=>.inr (II z));rw[Y]at J;exact .inl J
def wo(h:scope.names.lookup y=some .cell):(lI scope osc).names.lookup y=some .cell:=by
 rw[jh,fw,h,map_some];unfold og;split
 .rfl
 .rfl
noncomputable def fN(env:Env):List (Str×NameKind)->List (Str×Addr)->List (Str×Addr)
 | [],acc=>acc
 | (n,k)::r,acc=>if k==.free then fN env r ((n,(env.cells.lookup n).getD 0)::acc)else fN env r acc
theorem kz :∀names z,(∀y∈names,y.2=.free->∃c,env.cells.lookup y.1=some c) ->
  (forIn names z λx r=>(match x with|(name,kind)=>if (kind==NameKind.free)=true then do let c <- cellOf env name;pure (ForInStep.yield ((name,c)::r))else pure (ForInStep.yield r)):Sem (List (Str×Addr)))=pure (fN env names z)
 | [],z,_=>rfl
 | (n,k)::r,z,h=>by
  rw[forIn_cons];have U:∀y∈r,y.2=.free->∃c,env.cells.lookup y.1=some c:=λy Y=>h y (.tail _ Y)
  by_cases J:(k==NameKind.free)=true
  .obtain⟨c,hc⟩:=h (n,k) (.head _) (eq_of_beq J);dsimp only;rw[if_pos J];have Z:cellOf env n=pure c:=by unfold cellOf;rw[hc]
   rw[Z];simp only[pure_bind];rw[kz r _ U];show _=pure (if _=true then _ else _);rw[if_pos J,hc]
   all_goals rfl
  .dsimp only;rw[if_neg J];simp only[pure_bind];rw[kz r _ U];show _=pure (if _=true then _ else _);rw[if_neg J]
def mH(h:∀y∈scope.names,y.2=.free->∃c,env.cells.lookup y.1=some c):closureFor scope env=pure (fN env scope.names []):=by
 unfold closureFor;have:=kz scope.names [] h
 first
  | exact this
  | (rw[bind_pure];exact this)
  | simpa using this
theorem mI :∀names J,(∀z∈names,z.2=.free->∃c,env.cells.lookup z.1=some c)->(∀c,J.lookup y=some c->env.cells.lookup y=some c) ->
  (fN env names J).lookup y=some c->env.cells.lookup y=some c
 | [],J,_,U,e=>U c e
 | (n,k)::r,J,h,U,e=>by
  have hr:∀y∈r,y.2=.free->∃c,env.cells.lookup y.1=some c:=λy hy=>h y (.tail _ hy)
  have Y:(if (k==NameKind.free)=true then fN env r ((n,(env.cells.lookup n).getD 0)::J)else fN env r J).lookup y=some c:=e;by_cases Z:(k==NameKind.free)=true
  .rw[if_pos Z]at Y;refine mI r _ hr (λc' q=>?_) Y;cases hx:y==n with
   |true =>
    obtain⟨c0,a0⟩:=h (n,k) (.head _) (eq_of_beq Z)
    simp_all
   |false =>
    simp[lookup_cons,hx]at q;exact U c' q
  .rw[if_neg Z]at Y;exact mI r _ hr U Y
theorem jE :∀names J,((y,NameKind.free)∈names\/∃c,J.lookup y=some c)->∃c,(fN env names J).lookup y=some c
 | [],J,h=>by
  rcases h with h|h
  .simp at h
  .exact h
 | (n,k)::r,J,h=>by
  show ∃c,(if (k==NameKind.free)=true then fN env r ((n,(env.cells.lookup n).getD 0)::J)else fN env r J).lookup y=some c;by_cases U:(k==NameKind.free)=true
  .rw[if_pos U];refine jE r _ ?_;cases hx:y==n with
   |true=>exact .inr ⟨(env.cells.lookup n).getD 0,by simp[lookup_cons,hx]⟩
   |false =>
    rcases h with h|⟨c,h⟩
    .simp_all
    .exact .inr ⟨c,by simp[lookup_cons,hx];exact h⟩
  .rw[if_neg U];refine jE r _ ?_;rcases h with h|h
   .rcases IB.mp h with z|z
    .have:=(Prod.mk.inj z).2
     simp_all
    .exact .inl z
   .exact .inr h
structure kA(osc:Scope)(N:List Str)(scope:Scope)(x:Str)(fvs:List Str)(js:List Nat):Prop where
 cells:∀y∈scope.names,y.2=.cell->y.1=x
 once:scope.names.lookup x=some .local/\(scope.names.filter λy=>y.2==.cell)=[]\/scope.names.lookup x=some .cell/\(scope.names.filter λy=>y.2==.cell)=[(x,.cell)]
 xf:∀y∈scope.names,y.2=.free->y.1≠x
 kind:scope.kind=.function
 names:∀y∈scope.names,y.2=.local->scope.names.lookup y.1=some .local
 nd:(x::fvs).Nodup
 out:∀y∈scope.names,y.2=.free->osc.names.lookup y.1=some .cell\/osc.names.lookup y.1=some .free
 slots:(js.map λj=>N[j]?)=fvs.map some
 free:∀y∈fvs,scope.names.lookup y=some .free
structure uT(osc:Scope)(N:List Str)(scope:Scope)(x:Str)(ys fvs:List Str)(js:List Nat):Prop where
 cells:∀y∈scope.names,y.2=.cell->y.1=x
 once:scope.names.lookup x=some .local/\(scope.names.filter λy=>y.2==.cell)=[]\/scope.names.lookup x=some .cell/\(scope.names.filter λy=>y.2==.cell)=[(x,.cell)]
 xf:∀y∈scope.names,y.2=.free->y.1≠x
 kind:scope.kind=.function
 names:∀y∈scope.names,y.2=.local->scope.names.lookup y.1=some .local
 nd:(x::(ys++fvs)).Nodup
 out:∀y∈scope.names,y.2=.free->osc.names.lookup y.1=some .cell\/osc.names.lookup y.1=some .free
 slots:(js.map λj=>N[j]?)=fvs.map some
 free:∀y∈fvs,scope.names.lookup y=some .free
theorem kA.g(h:kA osc N scope x fvs js):uT osc N scope x [] fvs js:=⟨h.cells,h.once,h.xf,h.kind,h.names,h.nd,h.out,h.slots,h.free⟩
noncomputable def kB(scope:Scope)(x:Str)(C:Addr):List (Str×Addr):=if scope.names.lookup x=some .cell then [(x,C+1)]else []
noncomputable def Cx.blk(X:Cx)(x:Str)(fvs:List Str)(scope:Scope)(z:Shared)(J:Hp)(C:Addr)(fp:List Addr):Cx:=
 { X with N:=x::fvs,s₀:=z,H₀:=J,env:=compEnvC scope (kB scope x C++fN X.env scope.names []) C X.env,outer:=X.stack,ex:=fp,fn:=λy=>decide (y=x/\scope.names.lookup x=some .cell),pn:=[],xe:=λ_ _=>False }
theorem mJ :∀{names:List (Str×NameKind)}{z}{s}{Q},(names.filter λy=>y.2==.cell)=[]->Q z s ->
  wpAny M A (forIn names z λx r=>(match x with|(name,kind)=>if (kind==NameKind.cell)=true then do let c <- alloc { cls:=.type "cell",data:=.cell none };pure (ForInStep.yield ((name,c)::r))else pure (ForInStep.yield r)):Sem (List (Str×Addr))) Q E s
 | [],_,_,_,_,h=>g4 h
 | (n,k)::r,z,s,Q,hf,h=>by
  rw[forIn_cons];have J:(k==NameKind.cell)=false:=by
   simp_all
  rw[Kn (by rw[J];decide)]at hf;dsimp only;rw[if_neg (by rw[J];decide)];exact ez (g4 (mJ hf h))
theorem oQ{x:Str}:∀{names:List (Str×NameKind)}{z}{s}{Q},(names.filter λy=>y.2==.cell)=[(x,.cell)] ->
  Q ((x,s.heap.objs.size)::z) { s with heap:=s.heap.push { cls:=.type "cell",data:=.cell none } } ->
  wpAny M A (forIn names z λx r=>(match x with|(name,kind)=>if (kind==NameKind.cell)=true then do let c <- alloc { cls:=.type "cell",data:=.cell none };pure (ForInStep.yield ((name,c)::r))else pure (ForInStep.yield r)):Sem (List (Str×Addr))) Q E s
 | [],_,_,_,hf,_=>by cases hf
 | (n,k)::r,z,s,Q,hf,h=>by
  rw[forIn_cons];dsimp only;cases J:(k==NameKind.cell)with
  |false =>
   rw[Kn (by rw[J];decide)]at hf;exact ez (g4 (oQ hf h))
  |true =>
   rw[filter_cons_of_pos (by exact J)]at hf;obtain⟨U,Y⟩:=List.cons.inj hf;cases U;exact ez (ez (wpAny_alloc (g4 (mJ Y h))))
def sV{scope:Scope}{x:Str}{globals:Addr}{Z:List (Str×Addr)}{qual:Str}{env:Env}{s:Shared}{Q:Env->Shared->Prop}(hk:scope.kind=.function)
  (ho:scope.names.lookup x=some .local/\(scope.names.filter λy=>y.2==.cell)=[]\/scope.names.lookup x=some .cell/\(scope.names.filter λy=>y.2==.cell)=[(x,.cell)])
  (h:∀h' m,h'.Ns s.heap.objs.size m->(∀b u,s.heap.get? b=some u->h'.get? b=some u)->(scope.names.lookup x=some .cell->h'.IsCell (s.heap.objs.size+1) none)->Q (newEnv scope s.heap.objs.size globals (kB scope x s.heap.objs.size++Z) qual none .none (some env) builtinsNs) { s with heap:=h' }) :
  wpAny M A (newFunctionEnv scope globals Z [] qual none .none (some env)) Q E s:=by
 rcases ho with⟨h1,h2⟩|⟨h1,h2⟩
 .refine wpAny_newFunctionEnv (λy J z=>?_) (by intro y J;simp at J) (λh' U Y=>?_) hk
  .have:y∈scope.names.filter λy=>y.2==.cell:=JG.mpr ⟨J,by rw[z];rfl⟩
   rw[h2]at this;cases this
  .have q:=h h' _ U (λb u e=>Y.extBut b u (Iz (uw e)) (mu _ e)) λz=>by rw[h1]at z;cases z
   unfold kB at q
   simp_all
 .unfold newFunctionEnv;refine ez (wpAny_alloc (ez (oQ h2 ?_)));have hn:=Heap.Ns.new s.heap (.type "dict");have hs:(s.heap.push { cls:=.type "dict",data:=.dict #[] }).objs.size=s.heap.objs.size+1:=IV _ _;have q:=h ((s.heap.push { cls:=.type "dict",data:=.dict #[] }).push { cls:=.type "cell",data:=.cell none }) _ (hn.keeps λb o e=>mu _ e) (λb u e=>mu _ (mu _ e)) λ_=>⟨_,by rw[<- hs];exact wh _ rfl,rfl⟩
  unfold kB at q;rw[if_pos h1]at q;rw[<- hs]at q;exact ez (g4 (g4 q))
noncomputable def fh(js:List Nat)(σ:St):St:=none::js.map λj=>(σ[j]?).join
noncomputable def wq(n:Nat)(js:List Nat)(σ:St):St:=none::(replicate n none++js.map λj=>(σ[j]?).join)
def PF(X:Cx)(ifs:List Expr)(t:TT):Prop:=
 ∀pins s (σ:St) H Q,Inv X pins σ H s->t σ H Q ->
  wpAny (model X.prog X.w) X.A (forIn ifs true λc r=>if r=true then do let ok <- isTrue c X.env (eval c X.env);pure (ForInStep.yield ok)else pure (ForInStep.yield r)) (TP X pins σ Q) X.xe s
noncomputable def Ia:TT:=λ_ H Q=>Q true H
def Di :PF X [] Ia:=λ_ _ _ H _ I h=>wpAny_tests_nil ⟨H,I,h⟩
def Dj(h:PT X c t):PF X [c] t:=λpins s σ H Q I q=>wpAny_tests_one (h pins s σ H Q I q)
section
variable{prog:Program}{w:World}{A:Around}{R:Result->Shared->Prop}{s:Shared}
def wt{elt target iter:Expr}{ifs:List Expr}{scope:Scope}{pos:Pos}{it U:Value}{env:Env}(J:Nat->Shared->Prop)
  (turn:∀n s,J n s->wpAny (model prog w) A (pyNext it) (λr Z=>match r with
   |none=>R (.ok .next) Z
   |some v=>wpAny (model prog w) A (letOwnedTupleGo target it v) (λ_ s2=>wpAny (model prog w) A (assign target env v) (λ_ s3 =>
     wpAny (model prog w) A (forIn ifs true λc r=>if r=true then do let ok <- isTrue c env (eval c env);pure (ForInStep.yield ok)else pure (ForInStep.yield r)) (λok s4 =>
      if ok=true then wpAny (model prog w) A (eval elt env) (λx s5 =>
       wpAny (model prog w) A (call (.builtin "list.append") [U,x]) (λ_ s6=>∃m,m<n/\J m s6) (λ_ _=>False) s5) (λ_ _=>False) s4
      else ∃m,m<n/\J m s4) (λ_ _=>False) s3) (λ_ _=>False) s2) (λ_ _=>False) Z) (λ_ _=>False) s)
  (n) (h:J n s):codeAny (model prog w) A (.compLoop (.ListComp elt [⟨target,iter,ifs,0⟩] scope pos) 0 it U env) R s:=by
 have Y:∀{α}{t}{Q:α->Shared->Prop}{E}{s},wpAny (model prog w) A t Q (λ_ _=>False) s->wpAny (model prog w) A t Q E s:=λq=>Je q (λ_ _ z=>z) λ_ _ z=>z.elim
 refine codeAny_loop rfl J (λn s hJ=>?_) n h;show wpAny _ A ((compTurn (.ListComp elt [⟨target,iter,ifs,0⟩] scope pos) 0 it U env).onRaise (λx=>do noteFrame x env;theTreesLotGoes x)) _ _ s;refine wpAny_noted ?_;rw[compTurn_list];refine ez (wpAny_standAt (ez (Je (Y (turn n s hJ)) (λr Z h1=>?_) λ_ _ z=>z)));cases r with
 |none=>exact g4 h1
 |some v =>
  refine ez (Je (Y h1) (λ_ s2 h2=>?_) λ_ _ z=>z);refine ez (Je (Y h2) (λ_ s3 h3=>ez (Je (Y h3) (λok s4 h4=>?_) λ_ _ z=>z)) λ_ _ z=>z);cases ok<;>first|exact g4 ⟨rfl,h4⟩|exact ez (ez (Je (Y h4) (λx s5 h5=>ez (Je (Y h5) (λ_ s6 h6=>g4 (g4 ⟨rfl,h6⟩)) λ_ _ z=>z)) λ_ _ z=>z))
end
def qY(J:It)(U:St)(H1:Hp)(tt:TT)(te:TE)(D:Addr)(Q:VK):Prop:=
 ∃W:Nat->Nat->St->Hp->Prop,(∃m,W 0 m U (upd H1 D (.lst [])))/\∀i m F H',W i m F H' ->
  (J.stop i H'/\Q (.ref D) H')\/(J.go i H'/\∃N:St->Hp->Prop,(∀z H2,N z H2->∃Y,Y<m/\W (i+1) Y z H2)/\∀x H2,J.yld i H' x H2 ->
   tt (F.set 0 (some x)) H2 λb Z=>if b=true then te (F.set 0 (some x)) Z λy H4=>∃ys,H4 D=some (.lst ys)/\ys.length<sizeLine/\N (F.set 0 (some x)) (upd H4 D (.lst (ys++[y])))else N (F.set 0 (some x)) Z)
def yb(J:It)(g:TG)(Y:St)(H1:Hp)(tt:TT)(te:TE)(D:Addr)(Q:VK):Prop:=
 ∃W:Nat->Nat->St->Hp->Prop,(∃m,W 0 m Y (upd H1 D (.lst [])))/\∀i m F H',W i m F H' ->
  (J.stop i H'/\Q (.ref D) H')\/(J.go i H'/\∃N:St->Hp->Prop,(∀U H2,N U H2->∃Z,Z<m/\W (i+1) Z U H2)/\∀x H2,J.yld i H' x H2 ->
   g x F H2 λz H3=>tt z H3 λb H4=>if b=true then te z H4 λy H5=>∃ys,H5 D=some (.lst ys)/\ys.length<sizeLine/\N z (upd H5 D (.lst (ys++[y])))else N z H4)
theorem qY.g(h:qY J z H1 tt te D Q):yb J (iZ 0) z H1 tt te D Q:=h
noncomputable def yc(wi:TI)(js:List Nat)(tt:TT)(te:TE):TE:=λσ H Q=>wi σ H λJ H1=>∀D,H1 D=none->qY J (fh js σ) H1 tt te D Q
section
variable{X:Cx}{elt iter:Expr}{x:Str}{px:Pos}{ifs:List Expr}{scope:Scope}{pos:Pos}{fvs:List Str}{js:List Nat}{wi:TI}{tt:TT}{te:TE}
def sW{ys:List Str}(Z:uT X.env.scope X.N scope x ys fvs js)(hc:X.calm=true)(hg:∀aO a0 C fp,PG (X.blk x (ys++fvs) scope aO a0 C fp) tg g)
  (ht:∀aO a0 C fp,PF (X.blk x (ys++fvs) scope aO a0 C fp) ifs tt) (he:∀aO a0 C fp,PE (X.blk x (ys++fvs) scope aO a0 C fp) elt te)
  {pins:List (Addr×Obj)}{σ:St}{H2:Hp}{U:Shared}{Q:VK}{it:Addr}{fp:List Addr}{tn:Nat->Heap->Prop}{J:It}{RR:Value->Addr->Result->Shared->Prop}
  (I2:Inv X pins σ H2 U) (T:sE X.prog X.w X.K tg J fp it tn) (dt:tn 0 U.heap) (f2:∀b∈fp,kf X pins H2 b)
  (hh:∀D,H2 D=none->yb J g (wq ys.length js σ) H2 tt te D Q)
  (fin:∀D C H' s',Inv X pins σ H' s'->(∃m,s'.heap.Ns C m)->H' C=none->C≠X.env.locals->X.s₀.heap.objs.size<=C->(∀y c,X.env.cells.lookup y=some c->c≠C)->(∀p∈X.pn++pins,p.1≠C)->Q (.ref D) H' ->
   RR (.ref D) C (.ok .next) s') {E:Value->Shared->Prop} :
  wpAny (model X.prog X.w) X.A (newList []) (λacc s3=>wpAny (model X.prog X.w) X.A (newFunctionEnv scope X.env.globals (fN X.env scope.names []) [] X.env.qual none .none (some X.env)) (λcr s4 =>
   codeAny (model X.prog X.w) X.A (.compStart (.ListComp elt [⟨tg,iter,ifs,0⟩] scope pos) 0 (.ref it) acc { cr with scope:=relabel scope X.env }) (RR acc cr.locals) s4) E s3) E U:=by
 have fr:∀y∈scope.names,y.2=.free->∃c,X.env.cells.lookup y.1=some c:=λy hy hk=>I2.ok.has y.1 (Z.out y hy hk)
 have sub:∀y c,(fN X.env scope.names []).lookup y=some c->X.env.cells.lookup y=some c:=λy c e=>mI scope.names [] fr (λ_ q=>by simp at q) e
 refine Jh (sV (x:=x) Z.kind Z.once λh1 m1 a5 a6 a7=>?_);dsimp only at a5 a6 a7 ⊢;have Y:Inv X pins σ (upd H2 U.heap.objs.size (.lst [])) { U with heap:=U.heap.push { cls:=.type "list",data:=.seq ([]:List Value).toArray },toks:=U.toks }:=I2.lnew (ys:=[]) (its:=[]) .nil (Ji _);generalize hG:U.heap.push { cls:=.type "list",dict:=none,data:=.seq ([]:List Value).toArray }=G at a5 a6 a7 Y ⊢;have hC:G.objs.size=U.heap.objs.size+1:=by rw[<- hG,IV]
 obtain⟨W,⟨m0,w0⟩,turn⟩:=hh U.heap.objs.size I2.fresh;have up:=a6;have ar:∀{y}{c},(kB scope x G.objs.size++fN X.env scope.names []).lookup y=some c->(y=x/\scope.names.lookup x=some .cell/\c=G.objs.size+1)\/(fN X.env scope.names []).lookup y=some c:=λ{y c} e=>by
  unfold kB at e;by_cases q:scope.names.lookup x=some .cell
  .rw[if_pos q]at e;by_cases z:(y==x)=true
   .rw[cons_append,lookup_cons,z]at e;exact .inl ⟨eq_of_beq z,q,(II e).symm⟩
   .rw[cons_append,lookup_cons,(JI _).mp z]at e;exact .inr e
  .rw[if_neg q]at e;exact .inr e
 have gA:∀{H'}{s'},Inv X pins σ H' s'->True:=λ_=>trivial
 have nC:=Y.hok.fresh (pe _);have cL:=JL Y.lt;have cS:=Y.sz;have cC:∀y c,X.env.cells.lookup y=some c->c≠G.objs.size:=λy c e z=>by
  obtain⟨v,q⟩:=Y.cell y c e;exact absurd (show c<G.objs.size from q.lt) (by rw[z];exact Jr _)
 have cP:∀p∈X.pn++pins,p.1≠G.objs.size:=λp hp z=>absurd (show p.1<G.objs.size from uw (Y.pin p hp).1) (by rw[z];exact Jr _)
 have c1:∀b∈fp,b<U.heap.objs.size:=λb hb=>by
  obtain⟨o,e,_⟩:=T.obj 0 _ dt b hb;exact uw e
 have ok:(X.blk x (ys++fvs) scope { U with heap:=G,toks:=U.toks } (upd H2 U.heap.objs.size (.lst [])) G.objs.size fp).Ok:=by
  have hb:∀b∈fp,b∉frs X.stack:=λb hb z=>(IB.mp (I2.stkSub b z)).elim (f2 b hb).2.1 (f2 b hb).2.2.1
  exact {
   mod:=Y.ok.mod
   kind:=by show(relabel scope X.env).kind=_;exact Z.kind
   glob:=Y.ok.glob
   blt:=Y.ok.blt
   above:=pe _
   inj:=λy z c e1 e2=>by
    have lt:∀{y},(fN X.env scope.names []).lookup y=some c->c<G.objs.size:=λ{y} e=>by
     obtain⟨v,q⟩:=Y.cell y c (sub y c e);exact q.lt
    rcases ar e1 with⟨a1,_,a2⟩|a1
    .rcases ar e2 with⟨b1,_,_⟩|b1
     .rw[a1,b1]
     .exact absurd (lt b1) (by rw[a2];exact JM.mpr (Kb _))
    .rcases ar e2 with⟨_,_,b2⟩|b1
     .exact absurd (lt a1) (by rw[b2];exact JM.mpr (Kb _))
     .exact Y.ok.inj y z c (sub y c a1) (sub z c b1)
   has:=λy hy=>by
    show ∃c,(kB scope x G.objs.size++fN X.env scope.names []).lookup y=some c;unfold kB;rcases wn Z.cells hy with hm|⟨e,q⟩
    .obtain⟨c,ec⟩:=jE (env:=X.env) scope.names [] (.inl hm);by_cases q:scope.names.lookup x=some .cell
     .have z:=Kf.mpr (Z.xf _ hm rfl);exact⟨c,by rw[if_pos q,cons_append,lookup_cons,z];exact ec⟩
     .exact⟨c,by rw[if_neg q];exact ec⟩
    .subst e;exact⟨G.objs.size+1,by rw[if_pos q,cons_append,lookup_cons,Kd]⟩
   cab:=λy c h e=>by
    obtain⟨h1,h2⟩:=Jx h;have e':(kB scope x G.objs.size++fN X.env scope.names []).lookup y=some c:=e;unfold kB at e';rw[if_pos h2,h1,cons_append,lookup_cons,Kd]at e';rw[<- II e'];exact Kb _
   hd:=Y.ok.hd
   frames:=Y.ok.frames
   stk:=.inl rfl
   exf:=λb a8=>⟨Iz (show b<G.objs.size from IF (c1 b a8) (by rw[hC];exact Kb _)),λy c e=>by
    rcases ar e with⟨_,_,a⟩|a
    .rw[a,hC];exact JL (IF (c1 b a8) (IH (Kb _) (Kb _)))
    .exact(f2 b a8).2.2.2.2.1 y c (sub y c a)⟩
   bs:=Y.bs
   bsz:=IH Y.ok.bsz Y.sz
   noex:=λb o e a8=>by
    have q:=(f2 b a8).2.2.2.1;rcases q with q|q
    .exact Y.ok.noex b o e q
    .exact absurd (IF (uw e) (IH Y.ok.bsz q)) (Jr _)
   exfs:=hb
   funs:=Y.stack
   frf:=Y.stkFree }
 have ea:(wq ys.length js σ).length=(x::(ys++fvs)).length:=by
  have e:=IW List.length Z.slots;simp only[tf]at e;simp[wq,e]
 have I4:Inv (X.blk x (ys++fvs) scope { U with heap:=G,toks:=U.toks } (upd H2 U.heap.objs.size (.lst [])) G.objs.size fp) [] (wq ys.length js σ) (upd H2 U.heap.objs.size (.lst [])) { U with heap:=h1,toks:=U.toks }:=by
  refine⟨ok,rfl,Y.bare,Un.kept up,⟨_,a5,λi y v e1 e2 e3=>?_⟩,λy c e=>?_,nC,λy c e=>(ar e).elim (λ⟨_,_,a⟩=>by rw[a];exact Y.hok.fresh (Kb _)) λa=>Y.freeC y c (sub y c a),λp hp=>by simp[Cx.blk]at hp,Y.hok.kept up,ea⟩
  .cases i with
   |zero=>simp[wq]at e2
   |succ i0 =>
    have c2:(ys++fvs)[i0]?=some y:=e1;have a9:(replicate ys.length none++js.map λj=>(σ[j]?).join)[i0]?=some (some v):=by simpa[wq]using e2
    by_cases b5:i0<ys.length
    .rw[Ju (by simpa using b5),K1,if_pos b5]at a9;cases a9
    rw[JJ (by simpa using Nat.le_of_not_lt b5),length_replicate]at a9;rw[JJ (Nat.le_of_not_lt b5)]at c2;generalize i0-ys.length=i at c2 a9;have eb:=c2;have hm:=J0 eb;have ed:=Z.free y hm;have c3:=ji ed;have b0:=a9;rw[IS]at b0;cases ej:js[i]? with
    |none=>rw[ej]at b0;cases b0
    |some j =>
     rw[ej]at b0;have cd:(σ[j]?).join=some v:=II b0;have e4:σ[j]?=some (some v):=by
      cases q:σ[j]? with
      |none=>rw[q]at cd;cases cd
      |some z=>rw[q]at cd;exact IW some cd
     have e5:X.N[j]?=some y:=by
      have q:=IW (λl=>l[i]?) Z.slots;simp only[IS,ej,eb,map_some]at q;exact II q
     obtain⟨m,hn,hl⟩:=Y.loc;have cu:=Z.out (y,.free) c3 rfl;obtain⟨u,ru,lk⟩:=hl j y v e5 e4 (.inr cu);refine⟨u,ru,.inr ⟨?_,?_⟩⟩
     .show(relabel scope X.env).names.lookup y=_\/(relabel scope X.env).names.lookup y=_;exact wm (osc:=X.env.scope) ed
     .obtain⟨c,ec⟩:=jE (env:=X.env) scope.names [] (.inl c3);have nx:=Kf.mpr (Z.xf _ c3 rfl);refine⟨c,?_,?_⟩
      .show(kB scope x G.objs.size++fN X.env scope.names []).lookup y=some c;unfold kB;split
       .rw[cons_append,lookup_cons,nx];exact ec
       .exact ec
      rcases lk with⟨z,_⟩|⟨_,c',eL,q⟩
      .have z':X.env.scope.names.lookup y=some .local:=z;rcases cu with w|w
       .rw[show X.env.scope.names.lookup y=some .cell from w]at z';cases z'
       .rw[show X.env.scope.names.lookup y=some .free from w]at z';cases z'
      .have:=sub y c ec;rw[eL]at this;cases this;obtain⟨o,ho,hd⟩:=q;exact⟨o,up _ _ ho,hd⟩
  .rcases ar e with⟨_,q,a⟩|a
   .exact⟨none,by rw[a];exact a7 q⟩
   .obtain⟨v,o,ho,hd⟩:=Y.cell y c (sub y c a);exact⟨v,o,up _ _ ho,hd⟩
 have ee:=T.keep 0 _ _ dt λb hb o e=>up b o (by rw[<- hG];exact mu _ e)
 have e0:∀b∈fp,(upd H2 U.heap.objs.size (.lst [])) b=none:=λb hb=>by
  rw[aZ (Iz (c1 b hb))];exact(f2 b hb).1
 have b3:∀{H'},(∀b∈fp,H' b=none)->∀b∈fp,kf (X.blk x (ys++fvs) scope { U with heap:=G,toks:=U.toks } (upd H2 U.heap.objs.size (.lst [])) G.objs.size fp) [] H' b:=λhn b hb =>
  ⟨hn b hb,(ok.exf b hb).1,ok.exfs b hb,.inl hb,(ok.exf b hb).2,λp hp=>by simp[Cx.blk]at hp⟩
 have e6:∀b∈fp,(b∈X.ex\/X.s₀.heap.objs.size<=b)/\b≠X.env.locals/\(∀x c,X.env.cells.lookup x=some c->c≠b)/\∀p∈X.pn++pins,p.1≠b:=λb hb =>
  let ⟨_,q1,_,q2,q3,q4⟩:=f2 b hb;⟨q2,q1,q3,q4⟩
 have c0:∀s5,s5={ U with heap:=h1,toks:=U.toks } ->
   codeAny (model X.prog X.w) X.A (.compLoop (.ListComp elt [⟨tg,iter,ifs,0⟩] scope pos) 0 (.ref it) (.ref U.heap.objs.size) (compEnvC scope (kB scope x G.objs.size++fN X.env scope.names []) G.objs.size X.env)) (RR (.ref U.heap.objs.size) G.objs.size) s5:=by
  rintro s5 rfl;refine wt (λn s'=>∃i F H',Inv (X.blk x (ys++fvs) scope { U with heap:=G,toks:=U.toks } (upd H2 U.heap.objs.size (.lst [])) G.objs.size fp) [] F H' s'/\tn i s'.heap/\(∀b∈fp,H' b=none)/\W i n F H') ?_ m0 ⟨0,_,_,I4,ee,e0,w0⟩;rintro n s6 ⟨i,ck,H6,I6,ef,eg,w6⟩;rcases turn i n ck H6 w6 with⟨stop,qn⟩|⟨go,N,hN,step⟩
  .refine thn (T.done (X.blk x (ys++fvs) scope { U with heap:=G,toks:=U.toks } (upd H2 U.heap.objs.size (.lst [])) G.objs.size fp) rfl rfl rfl hc i [] s6 ck H6 _ I6 (b3 eg) ef stop) λr s7 ⟨hr,I7⟩=>?_
   subst hr;have I8:=Y.call' (ch:=fp) I7.os I7.base I7.hok I7.bare e6;obtain⟨m,hn,_⟩:=I7.loc;exact fin _ _ H6 s7 I8 ⟨m,hn⟩ I7.free cL cS cC cP qn
  .refine thn (T.item (X.blk x (ys++fvs) scope { U with heap:=G,toks:=U.toks } (upd H2 U.heap.objs.size (.lst [])) G.objs.size fp) rfl rfl rfl hc i [] s6 ck H6 _ I6 (b3 eg) ef go) λr s7 ⟨u,hr,h7⟩=>?_
   subst hr;refine thn h7 λ_ s8 ⟨x8,H8,I8,r8,y8,c4,fa⟩=>?_
   have fe:=I8.pinned (b3 fa) (T.obj _ _ c4);refine thn (hg _ _ _ _ _ s8 ck H8 x8 u _ fe r8 (step x8 H8 y8)) λ_ s9 ⟨c5,H9,I9,q9⟩=>?_
   refine thn (ht _ _ _ _ _ s9 _ H9 _ I9 q9) λff fl ⟨ft,eh,cl⟩=>?_
   have again:∀{a4}{a3},Inv (X.blk x (ys++fvs) scope { U with heap:=G,toks:=U.toks } (upd H2 U.heap.objs.size (.lst [])) G.objs.size fp) ([]++l8 fp s8.heap) c5 a3 a4->N c5 a3 ->
     ∃m,m<n/\∃i F H',Inv (X.blk x (ys++fvs) scope { U with heap:=G,toks:=U.toks } (upd H2 U.heap.objs.size (.lst [])) G.objs.size fp) [] F H' a4/\tn i a4.heap/\(∀b∈fp,H' b=none)/\W i m F H':=λ{a4 a3} b4 c6=>by
    obtain⟨m',hm,fv⟩:=hN _ a3 c6;refine⟨m',hm,i+1,_,a3,b4.unpinned,T.keep _ _ _ c4 λb hb o e=>(b4.pin (b,o) (Jn _ (Jn _ (gH hb e)))).1,λb hb=>?_,fv⟩;obtain⟨o,e,d⟩:=T.obj _ _ c4 b hb;exact(b4.pin (b,o) (Jn _ (Jn _ (gH hb e)))).2.1
   cases ff with
   |false =>
    rw[if_neg (by simp)]at cl ⊢;exact again eh cl
   |true =>
    rw[if_pos rfl]at cl ⊢;refine thn (he _ _ _ _ _ fl _ ft _ eh cl) λy a4 ⟨yv,a3,b4,ry,ys,fx,hl,c6⟩=>?_
    refine thn (kj _ a4 _ a3 (.ref U.heap.objs.size) [yv] (.ref U.heap.objs.size) [y] (λ_ ei=>N c5 ei) b4 rfl (.cons ry .nil) ⟨_,ys,yv,rfl,rfl,fx,hl,c6⟩) λ_ hQ ⟨_,ei,fy,_,fA⟩=>again fy fA
 exact codeAny_compStart_list (c0 _ rfl) (T.self _ 0 _ _ _ ee (c0 _ rfl))
def oR(Y:kA X.env.scope X.N scope x fvs js)(hc:X.calm=true)
  (ht:∀z U C fp,PF (X.blk x fvs scope z U C fp) ifs tt) (he:∀z U C fp,PE (X.blk x fvs scope z U C fp) elt te)
  {pins:List (Addr×Obj)}{σ:St}{H2:Hp}{s2:Shared}{Q:VK}{it:Addr}{fp:List Addr}{tn:Nat->Heap->Prop}{J:It}{RR:Value->Addr->Result->Shared->Prop}
  (I2:Inv X pins σ H2 s2) (T:sE X.prog X.w X.K (.Name x px) J fp it tn) (ar:tn 0 s2.heap) (f2:∀b∈fp,kf X pins H2 b)
  (hh:∀D,H2 D=none->qY J (fh js σ) H2 tt te D Q)
  (fin:∀(D C:Addr) (H':Hp) (s':Shared),Inv X pins σ H' s'->(∃m,s'.heap.Ns C m)->H' C=none->C≠X.env.locals->X.s₀.heap.objs.size<=C->(∀y c,X.env.cells.lookup y=some c->c≠C)->(∀p∈X.pn++pins,p.1≠C)->Q (.ref D) H' ->
   RR (.ref D) C (.ok .next) s') {E:Value->Shared->Prop} :
  wpAny (model X.prog X.w) X.A (newList []) (λacc s3=>wpAny (model X.prog X.w) X.A (newFunctionEnv scope X.env.globals (fN X.env scope.names []) [] X.env.qual none .none (some X.env)) (λZ s4 =>
   codeAny (model X.prog X.w) X.A (.compStart (.ListComp elt [⟨.Name x px,iter,ifs,0⟩] scope pos) 0 (.ref it) acc { Z with scope:=relabel scope X.env }) (RR acc Z.locals) s4) E s3) E s2:=
 sW (ys:=[]) Y.g hc (λz U C fp=>lN (X:=X.blk x fvs scope z U C fp) (i:=0) (x:=x) (pos:=px) Y.nd rfl (Y.once.elim (λq=>.inl (lookup_relabel_local q.1)) λq=>.inr (wo q.1)) (Y.once.elim (λq=>.inr (lookup_relabel_local q.1)) λq=>.inl (IP ⟨rfl,q.1⟩))) ht he I2 T ar f2 (λD hD=>(hh D hD).g) fin
def uU(Y:kA X.env.scope X.N scope x fvs js)(hc:X.calm=true)(hi:PI X (.Name x px) iter wi)
  (ht:∀z U C fp,PF (X.blk x fvs scope z U C fp) ifs tt) (he:∀z U C fp,PE (X.blk x fvs scope z U C fp) elt te)
  (hs:∀v,foldedSetIterable iter X.env v=pure v:=by intro _;rfl):PE X (.ListComp elt [⟨.Name x px,iter,ifs,0⟩] scope pos) (yc wi js tt te):=by
 intro pins s σ H Q I h;have fr:∀y∈scope.names,y.2=.free->∃c,X.env.cells.lookup y.1=some c:=λy hy hk=>I.ok.has y.1 (Y.out y hy hk)
 rw[eval_ListComp];refine wpAny_comprehension_free rfl hs (mH fr) Y.kind Y.names (thn (hi pins s σ H _ I h) λv s1 h1=>thn h1 λa3 s2 h2=>?_);refine ax λZq kq=>?_
 obtain⟨it,fp,tn,J,H2,e,I2,T,Z,f2,hh⟩:=h2;subst e;refine kq ?_;refine oR (RR:=λacc C=>compPost _ X.A X.xe none _ acc C) Y hc ht he I2 T Z f2 hh λD C H' s' I' hn nC cL cS cC cP q=>?_
 obtain⟨m,hn⟩:=hn;refine⟨m,hn,λh' sb=>⟨.ref D,H',?_,rfl,q⟩⟩;exact I'.turned (λb o hb e=>(sb.2 b hb).trans e) nC cL (.inr cS) cC cP
def sX{py ao:Pos}(hN:X.N.Nodup)(aO:X.N[i]?=some y)(hy:Loc X.env.scope y)(Z:kA X.env.scope X.N scope x fvs js)(hc:X.calm=true)(hi:PI X (.Name x px) iter wi)
  (ht:∀U Y C fp,PF (X.blk x fvs scope U Y C fp) ifs tt) (he:∀U Y C fp,PE (X.blk x fvs scope U Y C fp) elt te)
  (a1:swapsWith (.ListComp elt [⟨.Name x px,iter,ifs,0⟩] scope pos) (some (.Name y py)) ao.line X.env=pure true:=by rfl)
  (hs:∀v,foldedSetIterable iter X.env v=pure v:=by intro _;rfl) (hf:X.fn y=true\/X.env.scope.names.lookup y=some .local:=by first|exact .inl rfl|exact .inr rfl|assumption) :
  PS X (.Assign [.Name y py] (.ListComp elt [⟨.Name x px,iter,ifs,0⟩] scope pos) ao) (v3 (yc wi js tt te) (iZ i)):=by
 intro pins s σ H D I h;have fr:∀y∈scope.names,y.2=.free->∃c,X.env.cells.lookup y.1=some c:=λy hy hk=>I.ok.has y.1 (Z.out y hy hk)
 rw[exec_Assign_Name_used _ _ _ _ a1];refine ez (wpAny_standAt (ez ?_));show wpAny _ X.A (do let _ <- comprehension (.ListComp elt [⟨.Name x px,iter,ifs,0⟩] scope pos) scope X.env _ (newList []) false (eval iter X.env) (some (assign (.Name y py) X.env))) _ _ s;refine ez (thn (wpAny_comprehension_free (use:=some (assign (.Name y py) X.env)) (Q:=λ_ s'=>SP X pins D .next s') rfl hs (mH fr) Z.kind Z.names (thn (hi pins s σ H _ I h) λv s1 h1=>thn h1 λcd s2 h2=>?_)) λ_ s' q=>?_)
 .refine ax λZq kq=>?_
  obtain⟨it,fp,tn,J,H2,e,I2,T,a2,f2,hh⟩:=h2;subst e;refine kq ?_;refine oR (RR:=λacc C=>compPost (model X.prog X.w) X.A X.xe (some (assign (.Name y py) X.env)) (λ_ s'=>SP X pins D .next s') acc C) (Q:=λv H'=>iZ i v σ H' D.nx) Z hc ht he I2 T a2 f2 hh λD' C H' s' I' hn nC cL cS cC cP q=>?_
  obtain⟨m,hn⟩:=hn;show wpAny _ _ (assign (.Name y py) X.env (.ref D')) _ _ s';refine wpAny_assign_Name (oC I' hN aO hy (v:=.ref D') rfl (λa4 a5 ⟨a,sb,ha⟩=>?_) hf);have ne:C≠a:=by
   rcases ha with z|z
   .rw[z];exact cL
   .exact λw=>cC y a z w.symm
  refine⟨m,hn.sameBut sb ne,λh' a6=>?_⟩;exact⟨_,H',a5.turned (t':=a4.toks) (λb o hb e=>(a6.2 b hb).trans e) nC cL (.inr cS) cC cP,q⟩
 .exact g4 (g4 q)
end
abbrev sY(K:L8)(H:Hp):List V->List (List Int)->Prop:=Paired λx z=>∃a,x=V.ref a/\SqT K H a (z.map V.int)
theorem sY.len{K:L8}(h:sY K H xs z):xs.length=z.length:=Paired.length h
def aE(h:H p=none)(o):aj H (upd H p o):=λb u q=>by rw[aZ (cJ q h)];exact q
def aj.seqT{K:L8}(e:aj H H')(h:SqT K H a xs):SqT K H' a xs:=by
 rcases h with(h|⟨o,h⟩)|h
 .exact .inl (.inl (e _ _ h))
 .exact .inl (.inr ⟨o,e _ _ h⟩)
 .exact .inr h
section
variable{X:Cx}{pins:List (Addr×Obj)}{σ:St}{H:Hp}{s:Shared}
def Inv.laidD(I:Inv X pins σ H s)(k:∀b u,s.heap.get? b=some u->h'.get? b=some u)(J:s.heap.objs.size<=a)(new:bQ X.prog X.w (upd H a o) h' a o) :
  Inv X pins σ (upd H a o) { s with heap:=h',toks:=t',drawn:=d' }:=
 I.call (g':=s.gens) (d':=d') (t':=t') (ch:=[]) (Un.laid k J (I.hok.fresh J)) (I.hok.laid k J new) I.bare λ_ z=>nomatch z
def Inv.tupInts(I:Inv X pins σ H s)(h:SqT X.K H a (ns.map V.int)):∃its,IsTup s.heap a its.toArray/\IntsAre its ns:=by
 obtain⟨its,r,p,_⟩:=I.tuple h;exact⟨its,p,c_ r⟩
theorem Inv.tupsAt(I:Inv X pins σ H s):∀{xs}{us}{z},sY X.K H xs z->aI xs us->Paired (λu J=>∃a its,u=Value.ref a/\IsTup s.heap a its/\IntsAre its.toList J) us z
 | _,_,_,.nil,.nil=>.nil
 | _,_,_,.cons ⟨a,U,Y⟩ t,.cons r q=>by
  obtain⟨its,p,hi⟩:=I.tupInts Y;rw[U]at r;exact .cons ⟨a,its.toArray,r,p,by simpa using hi⟩ (I.tupsAt t q)
end
noncomputable def i6(P:Program)(w:World)(a:Addr)(ks:List Int):HO:=.ext λh=>St.cm P w h a ks
def qZ(g:St.cm P w h a ks):bQ P w H h a (i6 P w a ks):=by
 obtain⟨o,es,ep,t,ho,r⟩:=id g;exact⟨g,⟨o,ho⟩,λh1 h2 z k=>z.at k⟩
theorem Inv.set(I:Inv X pins σ H s)(h:H a=some (i6 X.prog X.w a ks)):St.cm X.prog X.w s.heap a ks:=
 (show bQ X.prog X.w H s.heap a (i6 X.prog X.w a ks)from I.hok a _ h).1
section
variable{X:Cx}
def yd (hc:X.calm=true):b_ X (.type "set") (λxs H Q=>∃(p:Addr) (ns:List Int),xs=[.ref p]/\(SqL X.K H p (ns.map V.int)\/SqT X.K H p (ns.map V.int))/\ns.length<=1000/\∀l,H l=none->Q (.ref l) (upd H l (i6 X.prog X.w l (St.dd ns.reverse)))):=by
 intro pins s σ H xs us Q I r h;obtain⟨p,ns,rfl,z,hz,q⟩:=h;obtain⟨u,rfl,Z⟩:=eC r;cases Z;have Y:=I.ok.hd hc;rcases z with z|z
 .obtain⟨its,J,U,_⟩:=I.list z;have hi:=c_ J;have hl:=hi.length;refine St.set_list Y U.isList (ns:=ns) (by simpa using hi) (by simp;unfold scanBound;omega) λh' tk g kp=>?_
  exact⟨.ref s.heap.objs.size,_,I.laidD (d':=s.drawn) kp (pe _) (qZ g),rfl,q _ (I.hok.fresh (pe _))⟩
 .obtain⟨its,J,U,_⟩:=I.tuple z;have hi:=c_ J;have hl:=hi.length;refine St.wj Y (show s.heap.IsTuple p its.toArray from U) (ns:=ns) (by simpa using hi) (by simp;unfold scanBound;omega) λh' tk g kp=>?_
  exact⟨.ref s.heap.objs.size,_,I.laidD (d':=s.drawn) kp (pe _) (qZ g),rfl,q _ (I.hok.fresh (pe _))⟩
end
namespace Srt
noncomputable def sortI(l:List Int):List Int:=iq dC l
noncomputable def sortT(l:List (List Int)):List (List Int):=iq eS l
def leT(a b:List Int):Prop:=HT.lexLt b a=false
def sortI_perm(l):(sortI l).Perm l:=eT dC l
def sortT_perm(l):(sortT l).Perm l:=eT eS l
def sortI_len(l):(sortI l).length=l.length:=(sortI_perm l).length_eq
def sortT_len(l):(sortT l).length=l.length:=(sortT_perm l).length_eq
def sortT_rises(l):(sortT l).Pairwise leT:=dP eS l
def sortI_of_perm(p:a.Perm b):sortI a=sortI b:=n0 dC p
def AW{a b:Int}:dC.kle a b ↔ a<=b:=by
 show decide _=false ↔ a<=b
 simp_all
def sortI_rises(l):(sortI l).Pairwise (· <= ·):=(dP dC l).imp λh=>AW.mp h
section
variable{P:Program}{w:World}{A:Around}{E:Value->Shared->Prop}{s:Shared}
def q8(z:ns.Perm ks)(hs:ns.Pairwise (· <= ·)):ns=sortI ks:=by
 refine my dC z (hs.imp λ{a b} h=>?_);show decide _=false
 simp_all
def mK(a2:ks.length<64)
  (Y:∀Q',(∀h' tk d' J z,(∀b o,s.heap.get? b=some o->h'.get? b=some o)->z.Perm ks->IntsAre J z->Q' J { s with heap:=h',toks:=tk,drawn:=d' }) ->
   wpAny (model P w) A.in1 (collect x) Q' E s)
  (h:∀(h1 h':Heap) tk d' out c,(∀b o,s.heap.get? b=some o->h1.get? b=some o)->(∀b o,h1.get? b=some o->h'.get? b=some o)->h'.get? h1.objs.size=some { cls:=.type "list",data:=.seq out.toArray c } ->
   IntsAre out (sortI ks)->Q (.ref h1.objs.size) { s with heap:=h',toks:=tk,drawn:=d' }) :
  wpAny (model P w) A (call (.builtin "sorted") [x]) Q E s:=by
 refine Calls.call_function_entry kind_sorted plain_sorted entry_sorted (args_sorted1 _) ?_;unfold Builtin.«sorted»;refine ez (g4 ?_);refine ez (Y _ λh1 tk d1 J z kp hp hi=>?_);have a4:=hi.length;have a5:=hp.length_eq;refine ez (wpAny_newList ?_ (by rw[Jo];omega));have U:(h1.push (seqObj "list" J.toArray 0)).get? h1.objs.size=some _:=wh _ rfl;refine ez (IZ (IY slot_list_sort ⟨_,U,rfl⟩ entry_list_sort (list_sort_tree U hi (by omega) λout a6 Z ao ar=>⟨_,rfl,?_⟩) (args_list_sort _)));obtain⟨c,hc⟩:=sortedHeap_at (out:=out) U;refine g4 ⟨_,rfl,h h1 _ tk d1 out.toList c kp (λb o e=>?_) ?_ ?_⟩
 .have hb:=uw e;rw[sortedHeap_old (Iz hb) (by rw[IV];exact Jb hb)];exact mu _ e
 .simp_all
 .rw[<- q8 (ao.trans hp) ar];exact Z
def mL{vs:List Value}{z:List (List Int)}{Q:Value->Shared->Prop}(a0:vs.length<64)(hu:A.units+2<cLine)
  (hv:Paired (λu ts=>∃a its,u=Value.ref a/\IsTup s.heap a its/\IntsAre its.toList ts) vs z)
  (ao:∀Q',(∀h',(∀b o,s.heap.get? b=some o->h'.get? b=some o)->Q' vs { s with heap:=h' })->wpAny (model P w) A.in1 (collect x) Q' E s)
  (h:∀(h1 h':Heap) (p:Array Nat) (c:Nat),(∀b o,s.heap.get? b=some o->h1.get? b=some o)->(∀b o,h1.get? b=some o->h'.get? b=some o)->h'.get? h1.objs.size=some { cls:=.type "list",data:=.seq (p.toList.map λi=>vs.getD i Value.none).toArray c } ->
   PB vs.length p->p.toList.map (λi=>z.getD i [])=sortT z->Q (.ref h1.objs.size) { s with heap:=h' }) :
  wpAny (model P w) A (call (.builtin "sorted") [x]) Q E s:=by
 have J:vs.length=z.length:=Paired.length hv;refine Calls.call_function_entry kind_sorted plain_sorted entry_sorted (args_sorted1 _) ?_;unfold Builtin.«sorted»;refine ez (m:=checkCount "sorted" 1 1 _) (g4 ?_);refine ez (ao _ λh1 kp=>?_);refine ez (wpAny_newList ?_ (by rw[Jo];omega));have U:(h1.push (seqObj "list" vs.toArray 0)).get? h1.objs.size=some (seqObj "list" vs.toArray 0):=wh _ rfl;have Y:∀(s':Shared),(∀b o,b≠h1.objs.size->(h1.push (seqObj "list" vs.toArray 0)).get? b=some o->s'.heap.get? b=some o)->∀i,i<vs.length->∃a its,vs.getD i Value.none=.ref a/\IsTup s'.heap a its/\IntsAre its.toList (z.getD i []):=λs' k i hi=>by
  have gen:∀{us:List Value}{Z:List (List Int)},Paired (λu ts=>∃a its,u=Value.ref a/\IsTup s.heap a its/\IntsAre its.toList ts) us Z->∀i,i<us.length->∃a its,us.getD i Value.none=.ref a/\IsTup s.heap a its/\IntsAre its.toList (Z.getD i []):=by
   intro us Z hp
   induction hp with
   |nil=>intro i hi;simp at hi
   |cons q _ ih =>
    intro i hi;cases i with
    |zero=>obtain⟨a,its,e,r⟩:=q;exact⟨a,its,by simpa using e,by simpa using r⟩
    |succ i=>obtain⟨a,its,e,r⟩:=ih i (by simpa using hi);exact⟨a,its,by simpa using e,by simpa using r⟩
  obtain⟨a,its,e,⟨o,ho,r⟩,a3⟩:=gen hv i hi;have ar:=kp a o ho;exact⟨a,its,e,⟨o,k a o (Iz (uw ar)) (mu _ ar),r⟩,a3⟩
 refine ez (IZ (IY slot_list_sort ⟨_,U,rfl⟩ entry_list_sort (pP (O:=eS) (key:=λi=>z.getD i []) U a0 (λh2 s' Q' k q=>wf h2 (λv hm=>?_) q) (λg a4 s' i j C k hi hj q=>?_) λp hp hr=>⟨_,rfl,?_⟩) (args_list_sort _)))
 .obtain⟨i,hi,e⟩:=getElem_of_mem hm;obtain⟨a,its,e',r1,r2⟩:=Y s' k i hi;exact⟨a,its,_,by rw[<- e',<- e];simp[hi],r1,r2⟩
 .obtain⟨a,its,e,r1,r2⟩:=Y s' k i hi;obtain⟨a',its',e',a8,a9⟩:=Y s' k j hj;rw[e,e'];exact AT a4 r1 a8 r2 a9 (show A.units+1+1<cLine from hu) q
 .obtain⟨c,hc⟩:=sortedHeap_at (out:=(p.toList.map λi=>vs.getD i Value.none).toArray) (vs:=vs) U;have b0:PB z.length p:=by rw[<- J];exact hp
  have b1:fu (O:=eS) (λi=>z.getD i []) p z.length:=by rw[<- J];exact hr
  refine g4 ⟨_,rfl,h h1 _ p c kp (λb o e=>?_) hc hp (Dh (O:=eS) (d:=([]:List Int)) (xs:=z) b0 b1)⟩;have hb:b<h1.objs.size:=uw e;rw[sortedHeap_old (Iz hb) (by rw[IV];exact Jb hb)];exact mu _ e
end
end Srt
section
variable{X:Cx}
def Inv.keptD(I:Inv X pins σ H s)(k:∀b u,s.heap.get? b=some u->h'.get? b=some u):Inv X pins σ H { s with heap:=h',toks:=t',drawn:=d' }:=
 I.call (g':=s.gens) (d':=d') (t':=t') (ch:=[]) (Un.kept k) (I.hok.kept k) I.bare λ_ z=>nomatch z
def wu:∀{vs}{ns},IntsAre vs ns->aI (ns.map V.int) vs:=km
def Dk(X:Cx):List V->Hp->VK->Prop:=λxs H Q=>∃p ks,xs=[.ref p]/\(SqL X.K H p (ks.map V.int)\/SqT X.K H p (ks.map V.int)\/H p=some (i6 X.prog X.w p ks))/\ks.length<64/\∀l,H l=none->Q (.ref l) (upd H l (.lst ((Srt.sortI ks).map V.int)))
def jF (hc:X.calm=true):b_ X (.builtin "sorted") (Dk X):=by
 intro pins s σ H xs us Q I r h;obtain⟨p,ks,rfl,z,ao,q⟩:=h;obtain⟨u,rfl,rx⟩:=eC r;cases rx;have hh:=I.ok.hd hc;refine Srt.mK (ks:=ks) ao (λQ' J=>?_) λh1 h' tk d' out c k1 k2 e hi=>?_
 .rcases z with z|z|z
  .obtain⟨its,Z,pl,hz⟩:=I.list z;obtain⟨o,ho,U,n,hd⟩:=pl.isList;refine Lb p (.inl rfl) ho U hd (λh' kp=>?_) (by have:=Z.length;simp[tr]<;>omega);exact J h' s.toks s.drawn _ ks kp (.refl _) (by simpa using c_ Z)
  .obtain⟨its,Z,pl,hz⟩:=I.tuple z;obtain⟨o,ho,U,n,hd⟩:=pl;refine Lb p (.inr rfl) ho U hd (λh' kp=>?_) (by have:=Z.length;simp[tr]<;>omega);exact J h' s.toks s.drawn _ ks kp (.refl _) (by simpa using c_ Z)
  .exact St.qX (by first|exact hh|simpa using hh) (I.set z) λh' tk d' aO Y kp hp hi=>J h' tk d' aO Y kp hp hi
 .have I1:Inv X pins σ H { s with heap:=h1,toks:=tk,drawn:=d' }:=I.keptD k1;have I2:Inv X pins σ (upd H h1.objs.size (.lst ((Srt.sortI ks).map V.int))) { s with heap:=h',toks:=tk,drawn:=d' }:=
   I1.laid k2 (pe _) (show bQ X.prog X.w _ h' _ _ from⟨by rw[tf,Srt.sortI_len,Jo];omega,out,c,wu hi,e⟩)
  exact⟨.ref h1.objs.size,_,I2,rfl,q _ (I1.hok.fresh (pe _))⟩
def Dl(X:Cx):List V->Hp->VK->Prop:=λxs H Q=>∃(p:Addr) (vs:List V) (z:List (List Int)),xs=[.ref p]/\(SqL X.K H p vs\/SqT X.K H p vs)/\sY X.K H vs z/\z.length<64 /\
 ∀l (pm:List Nat),H l=none->(∀i∈pm,i<vs.length)->pm.map (λi=>z.getD i [])=Srt.sortT z->Q (.ref l) (upd H l (.lst (pm.map λi=>vs.getD i .non)))
theorem oS(h:aI vs us):∀(l:List Nat),(∀i∈l,i<vs.length)->aI (l.map λi=>vs.getD i .non) (l.map λi=>us.getD i Value.none)
 | [],_=>.nil
 |i::l,z=>by
  have hi:=z i (.head _);obtain⟨u,U,Y⟩:=h.get (i:=i) (x:=vs[i]) (IJ hi);refine .cons ?_ (oS h l λj J=>z j (.tail _ J))
  simp_all
def pT (hu:X.A.units+64<cLine):b_ X (.builtin "sorted") (Dl X):=by
 intro pins s σ H xs us Q I r h;obtain⟨p,vs,a3,rfl,Y,ht,a4,q⟩:=h;obtain⟨u,rfl,rx⟩:=eC r;cases rx;have key:∀its,aI vs its->vs.length<=sizeLine->(∀Q',(∀h',(∀b o,s.heap.get? b=some o->h'.get? b=some o)->Q' its { s with heap:=h' })->wpAny (model X.prog X.w) X.A.in1 (collect _) Q' X.xe s) ->
   wpAny _ X.A (call _ [.ref p]) (EP X pins σ Q) X.xe s:=λits z hz Z=>by
  have hl:=z.length;have a6:=ht.len;refine Srt.mL (by omega) (by omega) (I.tupsAt ht z) Z λh1 h' pm c k1 k2 e hp ho=>?_
  have ao:∀i∈pm.toList,i<vs.length:=λi hi=>by
   have:=(KL.mp hp).mem_iff.mp hi
   simp_all
  have I1:=I.kept (t':=s.toks) k1;have I2:Inv X pins σ (upd H h1.objs.size (.lst _)) { s with heap:=h' }:=
   I1.laid k2 (pe _) (show bQ X.prog X.w _ h' _ _ from⟨by have:=hp.size;rw[tf,Array.length_toList,Jo];omega,_,c,oS z _ ao,e⟩)
  exact⟨.ref h1.objs.size,_,I2,rfl,q _ pm.toList (I1.hok.fresh (pe _)) ao ho⟩
 rcases Y with Y|Y
 .obtain⟨its,z,pl,hz⟩:=I.list Y;obtain⟨o,ho,J,n,hd⟩:=pl.isList;refine key its z hz λQ' U=>Lb p (.inl rfl) ho J hd (λh' kp=>?_) (by have:=z.length;simp[tr]<;>omega)
  have:=U h' kp;simpa using this
 .obtain⟨its,z,pl,hz⟩:=I.tuple Y;obtain⟨o,ho,J,n,hd⟩:=pl;refine key its z hz λQ' U=>Lb p (.inr rfl) ho J hd (λh' kp=>?_) (by have:=z.length;simp[tr]<;>omega)
  have:=U h' kp;simpa using this
end
end L2
namespace L2.St
open PySem PyProof.Rows List Option
structure cc(P:Program)(w:World)(h:Heap)(a:Addr)(ks:List Int)(o:Obj)(es:Array (Int×Value))(ep:Nat)(t:SetTable):Prop where
 ho:h.get? a=some o
 ex:o.ExactSet
 hd:o.data=.set es ep t
 el:ElemsOf (intKind P w) es.toList
 pm:(es.toList.map λe=>numOf e.2).Perm ks
 nd:ks.Nodup
 bd:es.size<scanBound
 fi:t.fits es.size=true
theorem cm.w{w:World}(g:cm P w h a ks):∃o es ep t,cc P w h a ks o es ep t/\Gd (!byT w) t:=by
 refine ax λZq U=>?_
 obtain⟨o,es,ep,t,ho,z,hd,J,Y,Z,hb,hf,hg⟩:=g;refine U ?_;exact⟨o,es,ep,t,⟨ho,z,hd,J,Y,Z,hb,hf⟩,hg⟩
theorem cc.len(g:cc P w h a ks o es ep t):es.size=ks.length:=by
 have:=g.pm.length_eq;simpa using this
theorem cc.at(g:cc P w h a ks o es ep t)(k:∀o,h.get? a=some o->h'.get? a=some o):cc P w h' a ks o es ep t:=
 ⟨k o g.ho,g.ex,g.hd,g.el,g.pm,g.nd,g.bd,g.fi⟩
section
variable{P:Program}{w:World}{A:Around}{E:Value->Shared->Prop}{s:Shared}
variable{a:Addr}{ks:List Int}{o:Obj}{es:Array (Int×Value)}{ep:Nat}{t:SetTable}
def ye(g:cc P w s.heap a ks o es ep t)(J:t.led=!byT w){Q:Array (Int×Value)->Shared->Prop}(h:∀z d',z.toList.Perm es.toList->Q z { s with drawn:=d' }):wpAny (model P w) A (setWalk a) Q E s:=by
 unfold setWalk;refine ez (IQ g.ho g.hd g.fi ?_);dsimp only;refine ez (de ?_);cases U:byT w with
 |true =>
  rw[if_pos rfl];refine ez (LY (g4 ?_));exact h _ s.drawn (oO _ _)
 |false =>
  rw[if_neg (by simp)];refine IU (λ_=>?_) (λ_=>?_)
  .refine ez (jg es.size es.toList s (by simp) λys d' Y=>?_);exact g4 (h _ d' (by simpa using Y))
  .refine ez ?_;rw[U]at J;show wpAny _ _ (if (!t.led&&decide _)=true then _ else _) _ _ s;rw[if_neg (by rw[J];simp)];exact g4 (g4 (h es s.drawn (.refl _)))
def uV:∀z,(∀b∈z,∃ks o es ep t,cc P w s.heap b ks o es ep t)->∀{Q},Q true s->wpAny (model P w) A (setsQuiet z) Q E s:=by
 intro z hs Q hq;unfold setsQuiet;refine ez (wpAny_forIn_list _ (λbV b s'=>(∀c∈bV,c∈z)/\b.1=none/\s'=s) _ ?_ ?_ z _ ⟨λc hc=>hc,rfl,rfl⟩)
 .rintro c bV b s' ⟨hc,hb,rfl⟩;obtain⟨ks,o,es,ep,t,g⟩:=hs c (hc c (.head _));refine ez (Lx g.ho g.hd g.fi ?_);refine ez (LH _ (λbV b J=>(∀e∈bV,e∈es.toList)/\b.1=none/\J=s') _ ?_ ?_ es _ ⟨λe Y=>Y,rfl,rfl⟩)
  .rintro e Z b' J ⟨Y,U,rfl⟩;obtain⟨t',q⟩:=eN g.el e (Y e (.head _));obtain⟨hx,x⟩:=e;dsimp only at q ⊢;rw[q];exact g4 ⟨λe' ao=>Y e' (.tail _ ao),rfl,rfl⟩
  .rintro b' J ⟨_,U,rfl⟩;dsimp only;rw[U];exact g4 ⟨λc' ar=>hc c' (.tail _ ar),rfl,rfl⟩
 .rintro b s' ⟨_,hb,rfl⟩;dsimp only;rw[hb];exact g4 hq
def yf(g:cc P w s.heap a ks o es ep t)(U:t.led=!byT w){others:List Addr}(hs:∀b∈others,∃ks o es ep t,cc P w s.heap b ks o es ep t){Q:Array (Int×Value)->Shared->Prop}
  (h:∀z d',z.toList.Perm es.toList->Q z { s with drawn:=d' }):wpAny (model P w) A (setWalkUnseen a others none) Q E s:=by
 refine ez (IQ g.ho g.hd g.fi ?_);dsimp only;refine ez (de ?_);refine IU (λ_=>?_) (λ_=>?_)
 .exact ye g U h
 .refine ez (uV _ (λb J=>?_) ?_)
  .rcases IB.mp J with rfl|J
   .exact⟨_,_,_,_,_,g⟩
   .exact hs b J
  .simp only[J3,IK];refine ez (Ka ?_);exact g4 (h es s.drawn (.refl _))
def yg(g:cc P w s.heap a ks o es ep t)(hl:t.led=!byT w){others:List Addr}(hs:∀b∈others,∃ks o es ep t,cc P w s.heap b ks o es ep t){f:Addr}(Y:cm P w s.heap f []){Q:Array (Int×Value)->Shared->Prop}
  (h:∀J d' h',J.toList.Perm es.toList->Heap.SameBut f s.heap h'->cm P w h' f []->Q J { s with drawn:=d',heap:=h' }):wpAny (model P w) A (setWalkUnseen a others (some f)) Q E s:=by
 unfold setWalkUnseen;refine ez (IQ g.ho g.hd g.fi ?_);dsimp only;refine ez (de ?_);refine IU (λ_=>?_) (λ_=>?_)
 .exact ye g hl λJ d' hp=>h J d' s.heap hp (J5 f s.heap) Y
 .refine ez (uV (a::others) (λb Z=>?_) ?_)
  .rcases IB.mp Z with rfl|Z
   .exact⟨_,_,_,_,_,g⟩
   .exact hs b Z
  .simp only[J3,IK,Jz];refine ez (Ka ?_);obtain⟨of,ef,a2,U,z,gd⟩:=Y.w;refine ez (IQ z.ho z.hd z.fi ?_);dsimp only;refine IU (λ_=>?_) (λ_=>?_)
   .have ao:({ U with led:=U.led&&t.led,plain:=U.plain&&t.plain }:SetTable).fits ef.size=true:=z.fi;have ar:Gd (!byT w) ({ U with led:=U.led&&t.led,plain:=U.plain&&t.plain }:SetTable):=⟨by show(U.led&&t.led)=_;rw[gd.led,hl];simp,gd.dum,gd.rise⟩;refine ez (J6 z.ho z.hd ?_ (JP z.bd));have g2:=uQ (P:=P) (w:=w) z.ho z.ex z.hd ⟨z.el,z.pm,z.nd,z.bd,ao,ar⟩;exact g4 (h es s.drawn _ (.refl _) (Ja _ f _) g2)
   .exact g4 (h es s.drawn s.heap (.refl _) (J5 f s.heap) Y)
def yh(g:cc P w s.heap a ks o es ep t){k:Int}{tk:Tok}{Q:Option Nat->Shared->Prop}(h:Q (es.toList.findIdx? λe=>(intKind P w).is k e.2) s):wpAny (model P w) A (setFind a (.int k tk) (hashInt k)) Q E s:=by
 have z:(intKind P w).is k (.int k tk)=true:=LR _ _ _ _;have J:(Value.int k tk).scannable=true:=rfl;unfold setFind setFindIn;refine ez (IQ g.ho g.hd g.fi ?_);dsimp only;rw[byScan_of J g.bd g.el];simp only[↓reduceIte];refine ez (Ka ?_);refine ez (wpAny_setScan_of (knd:=intKind P w) z g.ho g.hd g.fi g.el ?_);cases U:findIdx? (λe=>(intKind P w).is k e.2) es.toList with
 |some j =>
  rw[U]at h;dsimp only;rw[JY];exact g4 h
 |none =>
  rw[U]at h;exact g4 h
theorem cc.mem(g:cc P w s.heap a ks o es ep t) :k∈ks ↔ ∃e∈es.toList,(intKind P w).is k e.2=true:=by
 rw[<- g.pm.mem_iff,mem_map];constructor
 .rintro ⟨e,z,q⟩;exact⟨e,z,(jf g.el z k).mpr q⟩
 .rintro ⟨e,z,q⟩;exact⟨e,z,(jf g.el z k).mp q⟩
def q_(g:cc P w s.heap a ks o es ep t)(k):(es.toList.findIdx? λe=>(intKind P w).is k e.2).isSome=decide (k∈ks):=by
 rw[IT,Jc,g.mem,findIdx?_isSome,Jp]
end
section
variable{P:Program}{w:World}{A:Around}{E:Value->Shared->Prop}{s:Shared}
def cc.type (g:cc P w s.heap a ks o es ep t):s.TypeIs (.ref a) "set":=⟨o,g.ho,g.ex.1⟩
def jG (z:s.TypeIs (.ref a) "set") {Q:Bool->Shared->Prop} (h:Q true s):wpAny (model P w) A (Builtin.Frozenset.isAnySet (.ref a)) Q E s:=by
 refine ez (JB z F.sub_set_set ?_);exact g4 h
def ra (z:s.TypeIs (.ref a) "set") {Q:Value->Shared->Prop} (h:Q (.type "set") s):wpAny (model P w) A (Builtin.Frozenset.baseOf a) Q E s:=by
 refine ez (JB z F.sub_set_set ?_);exact g4 h
def fY(g:cc P w s.heap a ks o es ep t){Q:Nat->Shared->Prop}(h:Q ks.length s):wpAny (model P w) A (Builtin.Frozenset.sizeOf a) Q E s:=by
 refine ez (Lx g.ho g.hd g.fi ?_);rw[<- g.len]at h;exact g4 h
def Dm{id:String}{a:Addr}{ks:List Int}{o:Obj}{es:Array (Int×Value)}{ep:Nat}{t:SetTable}(g:cc P w s.heap a ks o es ep t){α:Type}{x:α}{R:α->Shared->Prop}(h:R x s):wpAny (model P w) A (Builtin.Frozenset.unchanged id a ep >>= λ_=>pure x) R E s:=by
 unfold Builtin.Frozenset.unchanged;refine ez (ez (J7 g.ho g.hd g.fi ?_));simp only[Kw,IK,Jz];exact g4 (g4 h)
def Dn{id:String}{a b:Addr}{ks js:List Int}{Q:Value->Shared->Prop}(ga:cm P w s.heap a ks)(gb:cm P w s.heap b js)(b5:¬ ks.length / 4 > js.length)
  (h:∀h' d' J,(∀c o,s.heap.get? c=some o->h'.get? c=some o)->J.Perm (ks.filter λk=>!decide (k∈js))->cm P w h' s.heap.objs.size J->Q (.ref s.heap.objs.size) { s with heap:=h',drawn:=d' }) :
  wpAny (model P w) A (Builtin.Frozenset.difference id a (.ref b)) Q E s:=by
 obtain⟨oa,ea,c5,ta,Z,cd⟩:=ga.w;obtain⟨ob,eb,c6,tb,wb,df⟩:=gb.w;unfold Builtin.Frozenset.difference;refine ez (jG wb.type ?_);simp only[J3,IK,Jz,Lz,if_true,Builtin.Frozenset.addrOf,pure_bind];refine ez (fY wb ?_);refine ez (fY Z ?_);rw[if_neg b5];refine ez (ra Z.type ?_);refine ez (pR ?_);have keep:∀c o,s.heap.get? c=some o->(s.heap.push (bz w)).get? c=some o:=λc o e=>mu _ e
 have ao:=Z.at (keep a);have ck:=wb.at (keep b);have gn:cm P w (s.heap.push (bz w)) s.heap.objs.size []:=qW _;have ha:=Iz (uw Z.ho);have hb:=Iz (uw wb.ho);refine ez (g4 ?_);refine ez (J7 (s:={ s with heap:=s.heap.push (bz w) }) ao.ho ao.hd ao.fi ?_);refine ez (IZ ?_);refine ez (yg (s:={ s with heap:=s.heap.push (bz w) }) ao cd.led (others:=[b,s.heap.objs.size]) (λc hc=>?_) gn λar d0 h0 hp cr g0=>?_)
 .rcases IB.mp hc with rfl|hc
  .exact⟨_,_,_,_,_,ck⟩
  .rw[I0.mp hc];obtain⟨_,_,_,_,q,_⟩:=gn.w;exact⟨_,_,_,_,_,q⟩
 have a1:=Z.el.perm hp;have hK:=(hp.map _).trans Z.pm;have a6:=hK.nodup_iff.mpr Z.nd;refine ez (LH _ (λbV _ s'=>∃dn h' d' J,dn++bV=ar.toList/\s'={ s with heap:=h',drawn:=d' }/\Heap.SameBut s.heap.objs.size (s.heap.push (bz w)) h'/\cm P w h' s.heap.objs.size J/\J.Perm ((dn.map λe:Int×Value=>numOf e.2).filter λk=>!decide (k∈js))) _ ?_ ?_ ar _ ⟨[],h0,d0,[],rfl,rfl,cr,g0,by simp⟩)
 .rintro ⟨hx,x⟩ bV u s' ⟨dn,h',d',J,e1,rfl,sb,gl,pl⟩;have U:(hx,x)∈ar.toList:=by rw[<- e1];simp
  obtain⟨t',q⟩:=eN a1 _ U;obtain⟨⟨k0,cu,aO⟩,_⟩:=a1 _ U;have a3:=(jf a1 U k0).mp cu;dsimp only at q a3 aO;generalize numOf x=k at q a3;subst q a3;have aO:=aO;subst aO;have Y:∀c o,c≠s.heap.objs.size->s.heap.get? c=some o->h'.get? c=some o:=λc o hc e=>(sb.2 c hc).trans (keep c o e)
  have a9:=Z.at λo e=>Y a o ha e
  have b0:=wb.at λo e=>Y b o hb e
  dsimp only;have b1:numOf (Value.int k t')=k:=rfl;have cC:k∉J:=λz=>by
   have:=pl.mem_iff.mp z;have:=(JG.mp this).1;rw[<- e1,JH,IG]at a6;exact(KD.mp a6).2.2 k this k (by rw[b1];exact .head _) rfl
  refine ez (IZ ?_);refine ez (yh (s:={ s with heap:=h',drawn:=d' }) b0 ?_);rw[q_ (s:={ s with heap:=h',drawn:=d' }) b0 k];by_cases hj:k∈js
  .simp only[hj,decide_true,J3,IK,Jz];refine g4 (Dm (s:={ s with heap:=h',drawn:=d' }) a9 ⟨dn++[(hashInt k,Value.int k t')],h',d',J,by rw[Jm];exact e1,rfl,sb,gl,?_⟩)
   simp_all
  .simp only[hj,decide_false,L6,if_true];have a4:J.length+1<scanBound:=by
    have h1:=pl.length_eq;have h2:=KI (λk=>!decide (k∈js)) (dn.map λe:Int×Value=>numOf e.2);rw[tf]at h2;have h3:ar.toList.length<scanBound:=by rw[hp.length_eq,Array.length_toList];exact Z.bd
    rw[<- e1,IC,length_cons]at h3;omega
   refine ez (oM (s:={ s with heap:=h',drawn:=d' }) gl a4 λb2 b' b3 g2=>?_);rw[if_neg cC]at g2;have cP:=a9.at λo e=>(b3.2 a ha).trans e
   refine g4 (Dm (s:={ s with heap:=b2,drawn:=d' }) cP ⟨dn++[(hashInt k,Value.int k t')],b2,d',k::J,by rw[Jm];exact e1,rfl,sb.trans b3,g2,?_⟩);rw[JH,filter_append];have:filter (λk=>!decide (k∈js)) (map (λe:Int×Value=>numOf e.2) [(hashInt k,Value.int k t')])=[k]:=by simp[b1,hj]
   rw[this];exact(Perm.cons k pl).trans (KH (l₁:=[k]))
 .rintro u s' ⟨dn,h',d',J,e1,rfl,sb,gl,pl⟩;rw[JD]at e1;subst e1;refine g4 (g4 (h h' d' J (λc o e=>?_) (pl.trans (hK.filter _)) gl));exact(sb.2 c (Iz (uw e))).trans (keep c o e)
end
noncomputable def itL(m:Nat):Nat->Nat->Nat
 |0,i=>i
 |t+1,i=>itL m t ((i*5+1) % (m+1))
theorem lQ(m):∀a b i,itL m (a+b) i=itL m b (itL m a i)
 |0,b,i=>by rw[JY];rfl
 |a+1,b,i=>by rw[JA];exact lQ m a b _
noncomputable def fZ(m:Nat):Bool:=itL m (m+1) 0==0&&(range (m+1)).all λj=>(range (m+1)).any λt=>itL m t 0==j
theorem uW(h:itL m (m+1) 0=0):∀q r,itL m (q*(m+1)+r) 0=itL m r 0
 |0,r=>by simp
 |q+1,r=>by
  have e:(q+1)*(m+1)+r=(m+1)+(q*(m+1)+r):=by rw[Nat.succ_mul];omega
  rw[e,lQ,h,uW h q r]
def cov{m:Nat}(h:fZ m=true){i j:Nat}(hi:i<=m)(Y:j<=m):∃t,t<=m/\itL m t i=j:=by
 unfold fZ at h;rw[pb,IE,JQ]at h;obtain⟨Z,h1⟩:=h;have z:∀x,x<=m->∃t,t<=m/\itL m t 0=x:=λx hx=>by
  have:=h1 x (LG.mpr (by omega));rw[Jp]at this;obtain⟨t,ht,e⟩:=this;exact⟨t,by have:=LG.mp ht;omega,by simpa using e⟩
 obtain⟨a,ha,J⟩:=z i hi;obtain⟨b,hb,U⟩:=z j Y;rcases Nat.lt_or_ge b a with c|c
 .obtain⟨k,rfl⟩:=K8 c;refine⟨m-k,LQ m k,?_⟩;rw[<- J,<- lQ,show b+k+1+(m-k)=1*(m+1)+b by omega,uW Z,U]
 .refine⟨b-a,IH (LQ b a) hb,?_⟩;rw[<- J,<- lQ,Nat.add_sub_cancel' c,U]
def Ce:fZ 7=true:=rfl
def Do:fZ 15=true:=rfl
def Dp:fZ 31=true:=rfl
def Dq:fZ 63=true:=by decide +kernel
def AX:fZ 127=true:=by decide +kernel
def AY:fZ 255=true:=by decide +kernel
noncomputable def lp(m:Nat):Nat->Nat×Nat->Nat×Nat
 |0,p=>p
 |t+1,p=>lp m t (SetTable.leap m p.1 p.2)
theorem yi(m):∀a b p,lp m (a+b) p=lp m b (lp m a p)
 |0,b,p=>by rw[JY];rfl
 |a+1,b,p=>by rw[JA];exact yi m a b _
theorem uX(m):∀t i,lp m t (i,0)=(itL m t i,0)
 |0,_=>rfl
 |t+1,i=>by
  show lp m t (SetTable.leap m i 0)=_;have:SetTable.leap m i 0=((i*5+1) % (m+1),0):=by simp[SetTable.leap]
  rw[this,uX m t]
  rfl
theorem Cf(m):∀t p,p.1<=m->(lp m t p).1<=m
 |0,_,h=>h
 |t+1,p,_=>Cf m t _ (by
  show(p.1*5+1+p.2 / 32) % (m+1)<=m;have:=L7 (p.1*5+1+p.2 / 32) (show 0<m+1 by omega);omega)
theorem uY(m):∀t p,(lp m t p).2=p.2 / 32 ^ t
 |0,p=>by simp[lp]
 |t+1,p=>by
  show(lp m t (SetTable.leap m p.1 p.2)).2=_;rw[uY m t];show p.2 / 32 / 32 ^ t=_;rw[Nat.div_div_eq_div_mul,Nat.pow_succ,Nat.mul_comm]
theorem oT :∀z i p,SetTable.layClean.free m ow z i p=none->∀t,t<z->(ow.getD (lp m t (i,p)).1 (some 0)).isNone=false
 |0,_,_,_,t,h=>absurd h (by omega)
 |z+1,i,p,e,t,h=>by
  rw[SetTable.layClean.free]at e;split at e
  .cases e
  .rename_i q;cases t with
   |zero =>
    have:=Li.mp q 0 (LG.mpr (by unfold SetTable.runEnd;split<;>omega));exact(JI _).mp this
   |succ t=>exact oT z _ _ e t (by omega)
theorem oU :∀z i p k,SetTable.layClean.free m ow z i p=some k->(ow.getD k (some 0)).isNone=true
 |0,_,_,_,e=>by cases e
 |z+1,i,p,k,e=>by
  rw[SetTable.layClean.free]at e;split at e
  .rename_i q;cases e;exact find?_some (p:=λk=>(ow.getD (i+k) (some 0)).isNone) q
  .exact oU z _ _ k e
def AZ(U:fZ m=true)(Y:j<=m)(Z:(ow.getD j (some 0)).isNone=true)(hi:i<=m)(hp:p<2 ^ 64):∃k,SetTable.layClean.free m ow (SetTable.turns m) i p=some k/\(ow.getD k (some 0)).isNone=true:=by
 cases e:SetTable.layClean.free m ow (SetTable.turns m) i p with
 |some k=>exact⟨k,rfl,oU _ _ _ _ e⟩
 |none =>
  exfalso;have q:=oT _ _ _ e;obtain⟨t,ht,et⟩:=cov U (Cf m 13 (i,p) hi) Y;have z:(lp m 13 (i,p)).2=0:=by
   rw[uY];exact Nat.div_eq_of_lt (IF hp (by decide))
  have J:lp m 13 (i,p)=((lp m 13 (i,p)).1,0):=by rw[<- z]
  have:=q (13+t) (by unfold SetTable.turns;omega);rw[yi,J,uX,et]at this;rw[Z]at this;cases this
noncomputable def vals(m:Nat)(ow:Array (Option Nat)):List Nat:=(range (m+1)).filterMap λj=>ow.getD j none
theorem yj{j k:Nat}(h1:g j=none)(h2:g' j=some k)(U:∀x,x≠j->g' x=g x):∀l:List Nat,l.Nodup->j∈l->(l.filterMap g').Perm (k::l.filterMap g)
 | [],_,h=>by cases h
 |x::l,Y,h=>by
  obtain⟨Z,n2⟩:=Jl.mp Y;by_cases e:x=j
  .subst e;rw[Ly h1,KP h2];have:∀J:List Nat,x∉J->J.filterMap g'=J.filterMap g:=by
    intro J
    induction J with
    |nil=>intro _;rfl
    |cons y J ih =>
     intro hx;have hy:y≠x:=λz=>hx (z ▸ .head _)
     rw[filterMap_cons,filterMap_cons,U y hy,ih λz=>hx (.tail _ z)]
   rw[this l Z]
  .have hm:=(IB.mp h).resolve_left λz=>e z.symm
   have ih:=yj h1 h2 U l n2 hm;cases q:g x with
   |none =>
    rw[Ly q,Ly ((U x e).trans q)];exact ih
   |some v =>
    rw[KP q,KP ((U x e).trans q)];exact(Perm.cons v ih).trans (Perm.swap k v _)
theorem yk{g:Nat->Option Nat}:∀l:List Nat,(∀x∈l,g x≠none)->(l.filterMap g).length=l.length
 | [],_=>rfl
 |x::l,h=>by
  cases q:g x with
  |none=>exact absurd q (h x (.head _))
  |some v =>
   rw[KP q,length_cons,length_cons,yk l λy z=>h y (.tail _ z)]
def yl(hs:ow.size=m+1)(h:(vals m ow).length<=m):∃j,j<=m/\(ow.getD j (some 0)).isNone=true:=by
 cases Classical.em (∃j,j<=m/\ow.getD j none=none)with
 |inl q =>
  obtain⟨j,U,e⟩:=q;refine⟨j,U,?_⟩;have J:j<ow.size:=by omega
  simp[Array.getD,J]at e ⊢;exact e
 |inr q =>
  have:=yk (g:=λj=>ow.getD j none) (range (m+1)) λx hx z=>q ⟨x,by have:=LG.mp hx;omega,z⟩
  unfold vals at h;rw[this,LZ]at h;omega
noncomputable abbrev Dr(m:Nat):Option (Array (Option Nat)×Nat)->Int->Option (Array (Option Nat)×Nat):=λacc h=>do
  let (owner,k) <- acc
  let j <- SetTable.layClean.free m owner (SetTable.turns m) (SetTable.bits h % (m+1)) (SetTable.bits h)
  pure (owner.setIfInBounds j (some k),k+1)
def A0(h):SetTable.bits h<2 ^ 64:=by grind [SetTable.bits]
theorem ym(hg:fZ m=true):∀(hs:List Int) ow k,ow.size=m+1->(vals m ow).Perm (range k)->k+hs.length<=m ->
  ∃J,hs.foldl (Dr m) (some (ow,k))=some (J,k+hs.length)/\J.size=m+1/\(vals m J).Perm (range (k+hs.length))
 | [],ow,k,h1,h2,_=>⟨ow,rfl,h1,h2⟩
 |h::hs,ow,k,h1,h2,h3=>by
  refine ax λZq kq=>?_
  rw[length_cons]at h3;have hl:=h2.length_eq;rw[LZ]at hl;obtain⟨j0,Y,Z⟩:=yl h1 (by omega);obtain⟨j,ej,hj⟩:=AZ hg (ow:=ow) (i:=SetTable.bits h % (m+1)) (p:=SetTable.bits h) Y Z (by have:=L7 (SetTable.bits h) (show 0<m+1 by omega);omega) (A0 h);have U:j<ow.size:=by
   refine Decidable.byContradiction λz=>?_
   simp[Array.getD,z]at hj
  have e1:Dr m (some (ow,k)) h=some (ow.setIfInBounds j (some k),k+1):=by
   show(Option.bind (SetTable.layClean.free m ow (SetTable.turns m) (SetTable.bits h % (m+1)) (SetTable.bits h)) _)=_;rw[ej]
   rfl
  have hv:(vals m (ow.setIfInBounds j (some k))).Perm (range (k+1)):=by
   refine(yj (g:=λj=>ow.getD j none) (j:=j) (k:=k) ?_ ?_ ?_ (range (m+1)) nodup_range (LG.mpr (by omega))).trans ?_
   .simp[Array.getD,U]at hj ⊢;exact hj
   .simp[Array.getD,U]
   .intro x hx;simp only[JV,Array.getElem?_setIfInBounds];rw[if_neg λz=>hx z.symm]
   .rw[range_succ (n:=k)];exact(Perm.cons k h2).trans (KH (l₁:=[k]))
  obtain⟨J,q1,q2,q3⟩:=ym hg hs (ow.setIfInBounds j (some k)) (k+1) (by rw[Array.size_setIfInBounds];exact h1) hv (by omega);refine kq ?_;refine⟨J,?_,q2,?_⟩
  .rw[foldl_cons,e1,q1,length_cons]
   congr 2;omega
  .rw[length_cons]
   grind
def uZ(Y:fZ m=true){led plain:Bool}(h:hs.size<=m):∃t z,SetTable.laid m f mv led plain hs=some (t,z)/\z.toList.Perm (range hs.size)/\t.place.size=hs.size/\t.mask=m/\t.dummies=#[]:=by
 have Z:(vals m (Array.replicate (m+1) none)).Perm (range 0):=by
  have:vals m (Array.replicate (m+1) none)=[]:=by
   unfold vals
   simp_all
  rw[this];simp
 obtain⟨ow,U,e2,J⟩:=ym Y hs.toList (Array.replicate (m+1) none) 0 (by simp) Z (by simpa using h);rw[JY,Array.length_toList]at U J;have ec:SetTable.layClean m hs=some ow:=by
  unfold SetTable.layClean;rw[<- Array.foldl_toList];show Option.map _ (hs.toList.foldl (Dr m) _)=_;rw[U]
  rfl
 have el:((range (m+1)).filterMap λj=>(ow.getD j none).map (j,·)).map (·.2)=vals m ow:=by
  unfold vals;rw[map_filterMap]
  congr 1
  funext j
  cases ow.getD j none<;>rfl
 refine⟨_,_,by unfold SetTable.laid;rw[ec];rfl,?_,?_,rfl,rfl⟩
 .show(map _ _).Perm _;rw[el];exact J
 .show(map _ _).toArray.size=_;rw[tr,tf];have:=IW List.length el;rw[tf]at this;rw[this,J.length_eq,LZ]
def Gc:∀n,n<241->(SetTable.sizeAbove n=8\/SetTable.sizeAbove n=16\/SetTable.sizeAbove n=32\/SetTable.sizeAbove n=64\/SetTable.sizeAbove n=128\/SetTable.sizeAbove n=256)/\n<SetTable.sizeAbove n:=by decide +kernel
def u3(h:n<241):fZ (SetTable.sizeAbove n-1)=true/\n<=SetTable.sizeAbove n-1/\SetTable.sizeAbove n<=256:=by
 obtain⟨h1,h2⟩:=Gc n h;refine⟨?_,by omega,by omega⟩;rcases h1 with e|e|e|e|e|e<;>rw[e]
 .exact Ce
 .exact Do
 .exact Dp
 .exact Dq
 .exact AX
 .exact AY
def mM{es:Array (Int×Value)}{z:Array Nat}(h:z.toList.Perm (range es.size)):(z.filterMap (es[·]?)).toList.Perm es.toList:=by
 rw[Array.toList_filterMap];refine(h.filterMap _).trans ?_;have:=PySem.List.filterMap_getElem?_range_length es.toList
 simp_all
section
variable{P:Program}{w:World}{A:Around}{E:Value->Shared->Prop}{s:Shared}
variable{a:Addr}{ks:List Int}{o:Obj}{es:Array (Int×Value)}{ep:Nat}{t:SetTable}
def lR(g:cc P w h a ks o es ep t)(J:ElemsOf (intKind P w) z.toList)(U:(z.toList.map λe=>numOf e.2).Perm ks')(Y:ks'.Nodup)(Z:z.size<scanBound)(hf:t'.fits z.size=true) :
  cc P w (h.update a (Obj.putSet z t')) a ks' { o with data:=.set z (ep+1) t' } z (ep+1) t':=by
 have hq:(h.update a (Obj.putSet z t')).get? a=some { o with data:=.set z (ep+1) t' }:=by
  have:=Jf (Obj.putSet z t') g.ho (by rw[putSet_of z t' g.hd];rfl);rw[putSet_of z t' g.hd]at this;exact this
 exact⟨hq,g.ex,rfl,J,U,Y,Z,hf⟩
def A1:(256:Nat)<=sizeLine:=by simp_all [Jo]
def u4(g:cc P w s.heap a ks o es ep t){z:Nat}(hw:z<241)(hn:es.size<=z){Q:Unit->Shared->Prop}
  (h:∀h' o' ao ar t',Heap.SameBut a s.heap h'->cc P w h' a ks o' ao ar t'->t'.dummies=#[]->t'.mask=SetTable.sizeAbove z-1->Q () { s with heap:=h' }):wpAny (model P w) A (setRelay a z) Q E s:=by
 obtain⟨hg,a6,hz⟩:=u3 hw;unfold setRelay;refine ez (IQ g.ho g.hd g.fi ?_);dsimp only;rw[if_neg (by have:=A1;omega)];obtain⟨t',J,e1,e2,e3,e4,e5⟩:=uZ hg (f:=t.finger) (mv:=t.movedTo (SetTable.sizeAbove z-1)) (led:=t.led) (plain:=t.plain) (hs:=es.map (·.1)) (by rw[K5];omega);have a0:t.relaid (es.map (·.1)) z=some (t',J):=e1;rw[K5]at e2 e3;have hp:=mM e2;have Y:(J.filterMap (es[·]?)).size=es.size:=by rw[<- Array.length_toList,hp.length_eq,Array.length_toList]
 rw[a0];refine ez (LD (a:=(J.filterMap (es[·]?),t')) ?_ ?_)
 .show(if ((J.filterMap (es[·]?)).size != es.size)=true then _ else _)=_
  simp_all
 .dsimp only;have Z:(J.filterMap (es[·]?)).size<scanBound:=by rw[Y];exact g.bd
  have a2:t'.fits (J.filterMap (es[·]?)).size=true:=by
   have U:t'.fill=es.size:=by unfold SetTable.fill;rw[e5,e3];simp
   simp only[SetTable.fits,U,pb,IE,Jq];exact⟨by rw[e3,Y],by omega⟩
  refine J6 g.ho g.hd ?_ (JP Z);exact h _ _ _ _ _ (Ja _ a _) (lR g (g.el.perm hp) ((hp.map _).trans g.pm) g.nd Z a2) e5 e4
def Ds(g:cc P w s.heap a [] o es ep t)(hd:t.dummies=#[])(Z:t.mask=7){n:Nat}(hn:n<=60){Q:Unit->Shared->Prop}
  (h:∀h' o' J U t',Heap.SameBut a s.heap h'->cc P w h' a [] o' J U t'->t'.dummies=#[]->fZ t'.mask=true->n<=t'.mask->Q () { s with heap:=h' }):wpAny (model P w) A (setRoomFor a n) Q E s:=by
 have hz:es.size=0:=g.len;have Y:t.place.size=0:=by
  have:=g.fi;simp only[SetTable.fits,pb,IE]at this;omega
 have z:t.fill=0:=by unfold SetTable.fill;rw[hd,Y];rfl
 unfold setRoomFor;refine ez (IQ g.ho g.hd g.fi ?_);have er:t.roomFor n=if (0+n)*5>=7*3 then some ((0+n)*2)else none:=by
  unfold SetTable.roomFor;rw[z,Y,Z]
 dsimp only;rw[er];by_cases c:(0+n)*5>=7*3
 .rw[if_pos c];dsimp only;have hw:(0+n)*2<241:=by omega
  refine u4 g hw (by omega) λh' o' J U t' sb g' h1 h2=>?_
  obtain⟨q1,q2,_⟩:=u3 hw
  grind
 .rw[if_neg c];exact g4 (h s.heap o es ep t (J5 a s.heap) g hd (by rw[Z];exact Ce) (by omega))
def Dt(g:cc P w s.heap a ks o es ep t)(h0:0<ks.length)(hn:ks.length<=60){Q:Value->Shared->Prop}
  (h:∀h' o' U Z t',(∀c o,s.heap.get? c=some o->h'.get? c=some o)->cc P w h' s.heap.objs.size ks o' U Z t'->Q (.ref s.heap.objs.size) { s with heap:=h' }):wpAny (model P w) A (Builtin.Frozenset.copyOf a) Q E s:=by
 have keep:∀c o,s.heap.get? c=some o->(s.heap.push (bz w)).get? c=some o:=λc o e=>mu _ e
 have ha:=Iz (uw g.ho);unfold Builtin.Frozenset.copyOf;refine ez (ra g.type ?_);refine ez (pR ?_);simp only[Builtin.Frozenset.addrOf,pure_bind];have g1:cc P w (s.heap.push (bz w)) s.heap.objs.size [] (bz w) #[] 0 (.fresh 0 0 (!byT w)):=⟨wh _ rfl,⟨rfl,rfl,rfl⟩,rfl,λe he=>by simp at he,by simp,JU,by decide,by rfl⟩;have a1:(s.heap.objs.size==a)=false:=by simpa using λz=>ha z.symm
 have ga:=g.at (keep a);have a3:es.isEmpty=false:=by
  have:=g.len;rw[Array.isEmpty_eq_false_iff];intro z
  simp_all
 unfold setMerge;rw[a1];simp only[IK,Jz,Ld];refine ez (IQ (s:={ s with heap:=s.heap.push (bz w) }) ga.ho ga.hd ga.fi ?_);simp only[a3,IK,Jz,Ld];refine ez (Ds (s:={ s with heap:=s.heap.push (bz w) }) g1 rfl rfl (n:=es.size) (by have:=g.len;omega) λh' o' U Z t' sb g' hd hm b4=>?_);have fin:∀h' o' U Z t',Heap.SameBut s.heap.objs.size (s.heap.push (bz w)) h'->cc P w h' s.heap.objs.size ks o' U Z t'->Q (.ref s.heap.objs.size) { s with heap:=h' }:=λh' o' U Z t' sb g' =>
  h h' o' U Z t' (λc o e=>(sb.2 c (Iz (uw e))).trans (keep c o e)) g'
 refine ez (IQ (s:={ s with heap:=h' }) g'.ho g'.hd g'.fi ?_);have hz:U.size=0:=g'.len;have a4:t'.place.size=0:=by
  have:=g'.fi;simp only[SetTable.fits,pb,IE]at this;omega
 have Y:t'.fill=0:=by unfold SetTable.fill;rw[hd,a4];rfl
 have ao:t'.road t=if (t'.mask==t.mask&&t.dummies.isEmpty)=true then .slotForSlot else .clean:=by
  unfold SetTable.road;rw[Y]
  rfl
 dsimp only;rw[ao];by_cases c:(t'.mask==t.mask&&t.dummies.isEmpty)=true
 .rw[if_pos c];dsimp only;refine ez (J6 (s:={ s with heap:=h' }) g'.ho g'.hd ?_ (JP g.bd));refine g4 (fin _ _ _ _ _ (sb.trans (Ja _ _ _)) (lR g' g.el g.pm g.nd g.bd ?_));exact g.fi
 .rw[if_neg c];dsimp only;refine ax λZq kq=>?_
  obtain⟨t2,J,e1,e2,e3,e4,e5⟩:=uZ hm (f:=t'.finger) (mv:=t'.moves) (led:=t'.led&&t.led) (plain:=t'.plain&&t.plain) (hs:=es.map (·.1)) (by rw[K5];have:=g.len;omega);rw[K5]at e2 e3;have hp:=mM e2;have ar:(J.filterMap (es[·]?)).size=es.size:=by rw[<- Array.length_toList,hp.length_eq,Array.length_toList]
  have aO:(J.filterMap (es[·]?)).size<scanBound:=by rw[ar];exact g.bd
  refine kq ?_;rw[e1];simp only[Ld];refine ez (LD (a:=(J.filterMap (es[·]?),t2)) ?_ ?_)
  .show(if ((J.filterMap (es[·]?)).size != es.size)=true then _ else _)=_;rw[if_neg (by rw[ar];simp)]
  .dsimp only;have a7:t2.fits (J.filterMap (es[·]?)).size=true:=by
    have Y:t2.fill=es.size:=by unfold SetTable.fill;rw[e5,e3];simp
    simp only[SetTable.fits,Y,pb,IE,Jq]
    simp_all
   refine ez (J6 (s:={ s with heap:=h' }) g'.ho g'.hd ?_ (JP aO));exact g4 (fin _ _ _ _ _ (sb.trans (Ja _ _ _)) (lR g' (g.el.perm hp) ((hp.map _).trans g.pm) g.nd aO a7))
def eF(xs:Array α)(i):(SetTable.eraseAt xs i).toList=xs.toList.eraseIdx i:=by
 unfold SetTable.eraseAt;rw[Array.toList_append,Array.toList_extract,Array.toList_extract,KN,extract_eq_take_drop,extract_eq_take_drop];simp;exact LN (by simp)
def wv(g:cc P w s.heap a ks o es ep t){k:Int}{tk:Tok}{Q:Bool->Shared->Prop}
  (h:∀b h' o' a1 a2 t',Heap.SameBut a s.heap h'->cc P w h' a (ks.filter λx=>!decide (x=k)) o' a1 a2 t'->Q b { s with heap:=h' }):wpAny (model P w) A (setDiscardHashed a (.int k tk) (hashInt k)) Q E s:=by
 unfold setDiscardHashed;refine ez (yh g ?_);cases hr:findIdx? (λe=>(intKind P w).is k e.2) es.toList with
 |none =>
  have hk:k∉ks:=λz=>by
   have:=q_ (s:=s) g k;rw[hr]at this;simp[z]at this
  have e:ks.filter (λx=>!decide (x=k))=ks:=K6.mpr λx hx=>by
   have:x≠k:=λz=>hk (z▸hx)
   simpa using this
  have e2:s={ s with heap:=s.heap }:=by cases s;rfl
  rw[e]at h;have:=h false s.heap o es ep t (J5 a s.heap) g;exact g4 this
 |some i =>
  obtain⟨hi,a3,_⟩:=findIdx?_eq_some_iff_getElem.mp hr;dsimp only;refine ez (IQ g.ho g.hd g.fi ?_);dsimp only;have U:numOf (es.toList[i]).2=k:=(jf g.el (LF hi) k).mp a3;have a4:=gJ (IJ hi);have Y:(SetTable.eraseAt es i).size=es.size-1:=by
   rw[<- Array.length_toList,eF,KC hi,Array.length_toList]
  have a9:i<es.size:=by simpa using hi
  have Z:(SetTable.eraseAt es i).size<scanBound:=by rw[Y];have:=g.bd;omega
  have J:=g.fi;simp only[SetTable.fits,pb,IE,Jq]at J;have ao:i<t.place.size:=by omega
  have a5:(t.drop i).fits (SetTable.eraseAt es i).size=true:=by
   have ed:t.drop i={ t with place:=SetTable.eraseAt t.place i,dummies:=SetTable.insertAt t.dummies (SetTable.below t.dummies (t.place[i])) (t.place[i]) }:=by
    unfold SetTable.drop;rw[KY ao]
   rw[ed];have h1:(SetTable.eraseAt t.place i).size=t.place.size-1:=by
    rw[<- Array.length_toList,eF,KC (by simpa using ao),Array.length_toList]
   have h2:(SetTable.insertAt t.dummies (SetTable.below t.dummies (t.place[i])) (t.place[i])).size<=t.dummies.size+1:=by
    unfold SetTable.insertAt;generalize SetTable.below t.dummies (t.place[i])=p;rw[Array.size_append,Array.size_push,Kl,Kl,LX,Nat.sub_zero];rcases Nat.le_total p t.dummies.size with q|q
    .rw[Km q,JA,Nat.add_sub_cancel' q];exact pe _
    .rw[Nat.min_eq_right q,Nat.sub_eq_zero_of_le q];exact pe _
   have h3:(⟨t.mask,SetTable.eraseAt t.place i,SetTable.insertAt t.dummies (SetTable.below t.dummies (t.place[i])) (t.place[i]),t.finger,t.led,t.moves,t.plain⟩:SetTable).fill<=t.mask:=by
    show(SetTable.eraseAt t.place i).size+(SetTable.insertAt t.dummies (SetTable.below t.dummies (t.place[i])) (t.place[i])).size<=t.mask;have:t.place.size+t.dummies.size<=t.mask:=J.2;omega
   simp only[SetTable.fits,pb,IE,Jq];exact⟨by rw[h1,Y,J.1],h3⟩
  have ar:ElemsOf (intKind P w) (SetTable.eraseAt es i).toList:=λe he=>g.el e (by rw[eF]at he;exact KQ he)
  have aO:((SetTable.eraseAt es i).toList.map λe=>numOf e.2).Perm (ks.filter λx=>!decide (x=k)):=by
   rw[eF];have h1:(k::(es.toList.eraseIdx i).map λe=>numOf e.2).Perm ks:=by
    have:=(a4.map λe=>numOf e.2).trans g.pm;rwa[IG,U]at this
   have h2:=h1.nodup_iff.mpr g.nd;obtain⟨n1,_⟩:=Jl.mp h2;have h3:=h1.filter λx=>!decide (x=k)
   rw[Kn (by simp)]at h3;refine Perm.trans (Perm.of_eq ?_) h3;refine(K6.mpr λx hx=>?_).symm;have:x≠k:=λz=>n1 (z▸hx)
   simpa using this
  refine ez (J6 g.ho g.hd ?_ (JP Z));refine ez (wpAny_point ?_);exact g4 (h true _ _ _ _ _ (Ja _ _ _) (lR g ar aO (g.nd.filter _) Z a5))
def Ge{id:String}{r b:Addr}{js:List Int}{ob:Obj}{eb:Array (Int×Value)}{a9:Nat}{tb:SetTable}(g:cc P w s.heap r ks o es ep t)(Y:cc P w s.heap b js ob eb a9 tb)(hl:tb.led=!byT w)(a1:b≠r)(b0:¬ js.length / 8 > ks.length)(hn:ks.length<=60){Q:Unit->Shared->Prop}
  (h:∀h' d' o' z J t' ls,Heap.SameBut r s.heap h'->cc P w h' r ls o' z J t'->ls=(ks.filter λk=>!decide (k∈js))->Q () { s with heap:=h',drawn:=d' }):wpAny (model P w) A (Builtin.Frozenset.differenceUpdate id r (.ref b)) Q E s:=by
 unfold Builtin.Frozenset.differenceUpdate;have b1:(Value.ref b==Value.ref r)=false:=by
  simpa using a1
 rw[b1];simp only[IK,Jz];refine ez (jG Y.type ?_);simp only[if_true,Builtin.Frozenset.addrOf,pure_bind];refine ez (fY Y ?_);refine ez (fY g ?_);rw[if_neg b0];refine ez (J7 Y.ho Y.hd Y.fi ?_);refine ez (IZ ?_);refine ez (yf Y hl (others:=[r]) (λc hc=>?_) λZ d0 hp=>?_)
 .rw[I0.mp hc];exact⟨_,_,_,_,_,g⟩
 have a2:=Y.el.perm hp;have hK:=(hp.map _).trans Y.pm;refine ez (LH _ (λbV _ s'=>∃dn h' d' o' z J t',dn++bV=Z.toList/\s'={ s with heap:=h',drawn:=d' }/\Heap.SameBut r s.heap h'/\cc P w h' r (ks.filter λk=>!decide (k∈dn.map λe:Int×Value=>numOf e.2)) o' z J t') _ ?_ ?_ Z _ ⟨[],s.heap,d0,o,es,ep,t,rfl,rfl,J5 r s.heap,by
  have:ks.filter (λk=>!decide (k∈([]:List (Int×Value)).map λe=>numOf e.2))=ks:=K6.mpr λx _=>by simp
  rw[this];exact g⟩)
 .rintro ⟨hx,x⟩ bV u s' ⟨dn,h',d',o',z,J,t',e1,rfl,sb,gl⟩;have U:(hx,x)∈Z.toList:=by rw[<- e1];simp
  obtain⟨a3,q⟩:=eN a2 _ U;obtain⟨⟨k0,b2,ar⟩,_⟩:=a2 _ U;have a4:=(jf a2 U k0).mp b2;dsimp only at q a4 ar;generalize numOf x=k at q a4;subst q a4;have ar:=ar;subst ar;dsimp only;refine ez (IZ (wv (s:={ s with heap:=h',drawn:=d' }) gl λb' h2 o2 a5 a6 t2 aO g2=>?_));have cd:=Y.at λo e=>(aO.2 b a1).trans ((sb.2 b a1).trans e)
  refine Dm (s:={ s with heap:=h2,drawn:=d' }) cd ⟨dn++[(hashInt k,Value.int k a3)],h2,d',o2,a5,a6,t2,by rw[Jm];exact e1,rfl,sb.trans aO,?_⟩;have:(ks.filter λx=>!decide (x∈(dn++[(hashInt k,Value.int k a3)]).map λe:Int×Value=>numOf e.2))=(ks.filter λk=>!decide (k∈dn.map λe:Int×Value=>numOf e.2)).filter λx=>!decide (x=k):=by
   rw[List.filter_filter]
   congr 1
   funext x
   have ck:numOf (Value.int k a3)=k:=rfl;rw[JH,IG,map_nil,ck];by_cases h1:x=k<;>by_cases h2:x∈dn.map (λe:Int×Value=>numOf e.2)<;>simp[h1,h2]
  rw[this];exact g2
 .rintro u s' ⟨dn,h',d',o',z,J,t',e1,rfl,sb,gl⟩;rw[JD]at e1;subst e1;have e3:(ks.filter λk=>!decide (k∈Z.toList.map λe:Int×Value=>numOf e.2))=ks.filter λk=>!decide (k∈js):=by
   congr 1
   funext k
   congr 1
   rw[L0];exact hK.mem_iff
  rw[e3]at gl;refine g4 ?_;unfold setTidy;refine ez (IQ (s:={ s with heap:=h',drawn:=d' }) gl.ho gl.hd gl.fi ?_);dsimp only;refine IU (λ_=>?_) (λ_=>?_)
  .have c3:z.size<=60:=by
    rw[gl.len];exact IH (KI _ _) hn
   have cl:SetTable.grown z.size=z.size*4:=by unfold SetTable.grown;rw[if_neg (by omega)]
   rw[cl];exact u4 (s:={ s with heap:=h',drawn:=d' }) gl (by omega) (by omega) λh2 o2 a5 a6 t2 aO g2 _ _=>h h2 d' o2 a5 a6 t2 _ (sb.trans aO) g2 rfl
  .exact g4 (h h' d' o' z J t' _ sb gl rfl)
def Du{id:String}{b:Addr}{js:List Int}{Q:Value->Shared->Prop}(ga:cm P w s.heap a ks)(gb:cm P w s.heap b js)(U:ks.length / 4 > js.length)(hn:ks.length<=60)
  (h:∀h' d' z o' Y Z t',(∀c o,s.heap.get? c=some o->h'.get? c=some o)->z.length=(ks.filter λk=>!decide (k∈js)).length->cc P w h' s.heap.objs.size z o' Y Z t'->Q (.ref s.heap.objs.size) { s with heap:=h',drawn:=d' }) :
  wpAny (model P w) A (Builtin.Frozenset.difference id a (.ref b)) Q E s:=by
 obtain⟨oa,ea,a7,ta,wa,a8⟩:=ga.w;obtain⟨ob,eb,a9,tb,J,ao⟩:=gb.w;have hb:=Iz (uw J.ho);unfold Builtin.Frozenset.difference;refine ez (jG J.type ?_);simp[IK,Lz,Builtin.Frozenset.addrOf,pure_bind];refine ez (fY J ?_);refine ez (fY wa ?_);rw[if_pos U];refine ez (Ka ?_);refine ez (Dt wa (by omega) hn λh1 o1 b1 b2 t1 k1 g1=>?_);refine ez (g4 ?_);have ar:=J.at (k1 b);refine ez (IZ (Ge (s:={ s with heap:=h1 }) g1 ar ao.led hb (by omega) hn λh2 d2 o2 aO a0 t2 z a1 g2 e2=>?_));exact g4 (h h2 d2 z o2 aO a0 t2 (λc o e=>(a1.2 c (Iz (uw e))).trans (k1 c o e)) (by rw[e2]) g2)
def yn{id:String}{b:Addr}{js:List Int}{Q:Value->Shared->Prop}(Y:cm P w s.heap a ks)(Z:cm P w s.heap b js)(hn:ks.length<=60)
  (h:∀h' d' U o' z J t',(∀c o,s.heap.get? c=some o->h'.get? c=some o)->U.length=(ks.filter λk=>!decide (k∈js)).length->cc P w h' s.heap.objs.size U o' z J t'->Q (.ref s.heap.objs.size) { s with heap:=h',drawn:=d' }) :
  wpAny (model P w) A (Builtin.Frozenset.difference id a (.ref b)) Q E s:=by
 by_cases c:ks.length / 4 > js.length
 .exact Du Y Z c hn h
 .refine Dn Y Z c λh' d' U k p g=>?_
  obtain⟨o',z,J,t',g',_⟩:=g.w;exact h h' d' U o' z J t' k p.length_eq g'
end
def oh:entryFor table "set.__sub__"=some Builtin.«frozenset.__sub__»:=
 entryFor_alias (id':="frozenset.__sub__") (by kernel_rfl) (by first|rfl|decide +kernel|(unfold String.splitOn;simp +decide [String.splitOnAux])) (by decide +kernel) (by kernel_rfl)
section
variable{P:Program}{w:World}{A:Around}{E:Value->Shared->Prop}{s:Shared}
def yo{ks js:List Int}{Q:Value->Shared->Prop}(Z:cm P w s.heap a ks)(gb:cm P w s.heap b js)(hn:ks.length<=60)
  (h:∀h' d' U o' z J t',(∀c o,s.heap.get? c=some o->h'.get? c=some o)->U.length=(ks.filter λk=>!decide (k∈js)).length->cc P w h' s.heap.objs.size U o' z J t'->Q (.ref s.heap.objs.size) { s with heap:=h',drawn:=d' }) :
  wpAny (model P w) A (binaryOp .Sub (.ref a) (.ref b)) Q E s:=by
 obtain⟨oa,ea,a0,ta,Y,a1⟩:=Z.w;obtain⟨ob,eb,a2,tb,wb,a3⟩:=gb.w;refine wpAny_binaryOp_same Y.type wb.type F.fills_set_sub F.slot_set_sub ?_;refine IY F.slot_set_sub Y.type oh ?_ (F.args_set_sub_2 _ _);show wpAny _ _ (do
  let (self,other) <- Builtin.Frozenset.slot1 "__sub__" ⟨[.ref a,.ref b],[]⟩
  let (l,r):=if false then(other,self)else(self,other)
  if !(<- Builtin.Frozenset.isAnySet l <&&> Builtin.Frozenset.isAnySet r)then rule s!"frozenset.{"__sub__"}.declined";return <- ret .notImplemented
  ret (<- Builtin.Frozenset.difference s!"frozenset.{"__sub__"}" _ r)) _ _ s
 refine ez (LD (a:=_) rfl ?_);refine ez (ez (jG Y.type ?_));refine jG wb.type ?_;refine ez (yn Z gb hn λh' d' U o' z J t' k hl g=>?_);exact g4 ⟨_,rfl,by simp,h h' d' U o' z J t' k hl g⟩
end
end L2.St
namespace L2
open PySem PySem.Spec PyProof.Rows List Option
noncomputable def sZ(P:Program)(w:World)(a:Addr)(n:Nat):HO:=.ext λh=>∃ks o es ep t,St.cc P w h a ks o es ep t/\ks.length=n
def ww(g:St.cc P w h a ks o es ep t)(e:ks.length=n):bQ P w H h a (sZ P w a n):=
 ⟨⟨ks,o,es,ep,t,g,e⟩,⟨o,g.ho⟩,λh1 h2 ⟨ks,o,es,ep,t,g,e⟩ k=>⟨ks,o,es,ep,t,g.at k,e⟩⟩
section
variable{X:Cx}
def wz:OpR X (binaryOp .Sub) (λx y H Q=>∃a b ks js,x=.ref a/\y=.ref b/\H a=some (i6 X.prog X.w a ks)/\H b=some (i6 X.prog X.w b js)/\ks.length<=60/\∀p,H p=none->Q (.ref p) (upd H p (sZ X.prog X.w p (ks.filter λk=>!decide (k∈js)).length))):=by
 intro pins s σ H x y v u Q I z J h;obtain⟨a,b,ks,js,rfl,rfl,U,Y,Z,q⟩:=h;cases z;cases J;refine St.yo (I.set U) (I.set Y) Z λh' d' ls o' ao ar t' kp hl g=>?_
 exact⟨.ref s.heap.objs.size,_,I.laidD kp (pe _) (ww g hl),rfl,q _ (I.hok.fresh (pe _))⟩
def rb:b_ X (.builtin "len") (λxs H Q=>∃a n,xs=[.ref a]/\H a=some (sZ X.prog X.w a n)/\Q (.int n) H):=by
 intro pins s σ H xs us Q I r h;refine ax λZq z=>?_
 obtain⟨a,n,rfl,e,q⟩:=h;obtain⟨u,rfl,J⟩:=eC r;cases J;obtain⟨ks,o,es,ep,t,g,U⟩:=(show bQ X.prog X.w H s.heap a _ from I.hok a _ e).1;have Y:=g.len;have hb:=g.bd;have Z:scanBound=4096:=rfl;refine z ?_;refine call_len_set g.ho g.ex g.hd g.fi (by omega) ⟨.int n,H,I.tok _,⟨s.toks+1,?_⟩,q⟩;rw[Y,U]
def pU:b_ X (.builtin "len") (λxs H Q=>∃a ks,xs=[.ref a]/\H a=some (i6 X.prog X.w a ks)/\Q (.int ks.length) H):=by
 intro pins s σ H xs us Q I r h;obtain⟨a,ks,rfl,e,q⟩:=h;obtain⟨u,rfl,z⟩:=eC r;cases z;obtain⟨o,es,ep,t,g,_⟩:=(I.set e).w;have U:=g.bd;have J:scanBound=4096:=rfl;refine call_len_set g.ho g.ex g.hd g.fi (by omega) ⟨.int ks.length,H,I.tok _,⟨s.toks+1,?_⟩,q⟩;rw[g.len]
end
end L2
namespace L2.En
open PySem PyProof.Rows List Option
open AutoSeq1 (wpAny_loadPart')
section
variable{P:Program}{w:World}{A:Around}{E:Value->Shared->Prop}{s:Shared}
def s_(J:s.heap.IsTupleIter it t i)
  (h:wpAny (model P w) A.in1 (Builtin.«tuple_iterator.__next__» ⟨[.ref it],[]⟩) (λfin s'=>∃v,fin=.done (.ret v)/\Q v s') E s):wpAny (model P w) A (Builtin.SmallTypes.nextOf (.ref it)) Q E s:=by
 refine ez (Jk J.typeIs F.slot_tuple_iterator_next ?_);refine IY F.slot_tuple_iterator_next J.typeIs F.entry_tuple_iterator_next ?_ (F.args_tuple_iterator_next_1 _);refine Je h (λfin s' hv=>?_) λ_ _ z=>z
 obtain⟨v,rfl,q⟩:=hv;exact⟨v,rfl,g4 q⟩
def Gg (z:A.handled=none) (h:∀h' e,(∀b o,s.heap.get? b=some o->h'.get? b=some o)->(∃o,h'.get? e=some o/\o.cls=.type "StopIteration")->E (.ref e) { s with heap:=h' }) :
  wpAny (model P w) A (Builtin.SmallTypes.stopIteration:Sem α) Q E s:=by
 wp_walk
 exact wpAny_raiseNew_none z (h _ _ (λb o q=>mu _ (mu _ q)) ⟨_,wh _ rfl,rfl⟩)
def oV(U:A.handled=none)(z:s.heap.IsTupleIter it t i)(Y:s.heap.IsTuple t items)
  (Z:∀x h',items[i]?=some x->h'.IsTupleIter it t (i+1)->Heap.SameBut it s.heap h'->Q x { s with heap:=h' })
  (hE:∀h' e,items[i]?=none->Heap.ExtBut it s.heap h'->(∃o,h'.get? e=some o/\o.cls=.type "StopIteration")->E (.ref e) { s with heap:=h' }):wpAny (model P w) A (Builtin.SmallTypes.nextOf (.ref it)) Q E s:=by
 refine s_ z ?_;refine ax λZq kq=>?_
 obtain⟨⟨c1,d1,t1,l1⟩,h1,e1,e2⟩:=z;obtain⟨⟨c2,d2,t2,l2⟩,h2,e3,n2,e4⟩:=Y;cases e1;cases e2;cases e3;cases e4;obtain⟨J,g,d,tk,os⟩:=s;refine kq ?_
 wp_walk using wpAny_loadPart' h1,wpAny_loadPart' h2
 have self:∀k v,(J.update it (Obj.mapFields (·.setIfInBounds k v))).get? it=some { cls:=.type "tuple_iterator",dict:=d1,data:=.fields _,slots:=l1 }:=λk v=>Jf _ h1 rfl
 rw[Int.toNat_natCast];cases hx:items[i]? with
 |some x =>
  refine ez (wpAny_setField h1 rfl (by simp) (g4 ⟨x,rfl,Z x _ hx ⟨_,self 1 _,rfl,?_⟩ (Ja ..)⟩));simp[rawInt]
 |none =>
  refine ez (Ka (ez (wpAny_setField h1 rfl (by simp) (Gg (by simpa using U) λh' e k st=>?_))));exact hE h' e hx (λb o hb q=>k b o ((Ja J it _).extBut b o hb q)) st
def draws(U:A.handled=none)(it t)(z:t≠it)(items):Draws P w A it [it,t] items.size (λi v=>items[i]?=some v) (λi h=>h.IsTupleIter it t i/\h.IsTuple t items) where
 live:=λ_ _ ⟨⟨o,ho,_⟩,_⟩=>⟨o,ho⟩
 frame:=λi h h' ⟨⟨o,ho,r⟩,⟨Y,J,r2⟩⟩ k=>⟨⟨o,k it (.head _) o ho,r⟩,⟨Y,k t (.tail _ (.head _)) Y J,r2⟩⟩
 item:=λi s Q E hi ⟨h1,h2⟩ hQ=>oV U h1 h2 (λx h' hx h3 Z=>hQ x h' s.toks hx ⟨h3,h2.extBut Z.extBut z⟩ Z) λh' e hx _ _=>absurd hx (by simp;omega)
 done:=λs Q E ⟨h1,h2⟩ hE=>oV U h1 h2 (λx h' hx _ _=>absurd hx (by simp)) λh' e _ eb st=>hE h' e eb st
def yq{Q:Bool->Shared->Prop}(h:∀c,Q c s):wpAny (model P w) A (pure b) Q E s:=g4 (h b)
def A2(l)(items)(n)(z)(J) :
  Meets (Builtin.«enumerate.__new__» ⟨[.type "enumerate",.ref l],[]⟩) (λ_ R s=>s.heap.get? l=some { cls:=.type "tuple",dict:=z,data:=.seq items n,slots:=J } /\
   R (.ok (.ret (.ref (s.heap.push { cls:=.type "tuple_iterator",data:=.fields #[.ref l,.int 0 0] }).objs.size)))
    { s with heap:=(s.heap.push { cls:=.type "tuple_iterator",data:=.fields #[.ref l,.int 0 0] }).push { cls:=.type "enumerate",data:=.fields #[.none,.bool false,.ref s.heap.objs.size,rawInt 0,.none,.none] } }):=by
 refine .of_wp λP w A R s h=>?_
 have tl:Heap.IsTuple _ l items:=⟨_,h.1,rfl,n,rfl⟩;have U:=sub_enumerate
 wp_walk using wpAny_loadPart' h.1
 apply wpAny_stack_any;intro st;refine yq λc=>?_
 cases c
 .wp_walk using wpAny_pyIter_tuple tl
  exact⟨_,rfl,h.2⟩
 .wp_walk using wpAny_pyIter_tuple tl
  exact⟨_,rfl,h.2⟩
def call_tup(Z:s.heap.IsTuple l items)
  (h:∀h',IsEnum h' (s.heap.objs.size+1) s.heap.objs.size 0 .none->h'.IsTupleIter s.heap.objs.size l 0->h'.objs.size=s.heap.objs.size+2 ->
   (∀b o,s.heap.get? b=some o->h'.get? b=some o)->Q (.ref (s.heap.objs.size+1)) { s with heap:=h' }):wpAny (model P w) A (call (.type "enumerate") [.ref l]) Q E s:=by
 obtain⟨⟨c,J,dt,sl⟩,hl,hc,n,hd⟩:=Z;cases hc;cases hd;have made:=A2 l items n J sl;refine callType_new F.called_enumerate (by decide) (F.typeCall_enumerate_1 _) (F.newCall_enumerate_1 _) (λv=>F.args_object_init_2 v _) F.entry_enumerate_new made ⟨hl,?_⟩;generalize hi:({ cls:=.type "tuple_iterator",data:=.fields #[.ref l,.int 0 0] }:Obj)=io;generalize ho:({ cls:=.type "enumerate",data:=.fields #[.none,.bool false,.ref s.heap.objs.size,rawInt 0,.none,.none] }:Obj)=U;have z:(s.heap.push io).objs.size=s.heap.objs.size+1:=IV ..;have Y:((s.heap.push io).push U).get? (s.heap.objs.size+1)=some U:=by
  rw[<- z];exact wh _ (by rw[<- ho];rfl)
 have g2:((s.heap.push io).push U).get? s.heap.objs.size=some io:=mu _ (wh _ (by rw[<- hi];rfl));rw[z];refine⟨⟨_,Y,by rw[<- ho]⟩,h _ (by rw[<- ho]at Y;rw[<- ho];exact Y) ⟨_,g2,by rw[<- hi],by rw[<- hi];rfl⟩ (by rw[IV,z]) λb o q=>mu _ (mu _ q)⟩
end
end L2.En
namespace L2.Dv
open PySem PyProof.Rows List Option
open AutoSeq1 (wpAny_loadPart')
section
variable{P:Program}{w:World}{A:Around}{E:Value->Shared->Prop}{s:Shared}
def Ents(h:Heap)(d:Addr)(es:Array DictEntry)(ep:Nat):Prop:=∃o,h.get? d=some o/\o.ExactDict/\o.data=.dict es ep
theorem Ents.at(x:Ents h d es ep)(k:∀o,h.get? d=some o->h'.get? d=some o):Ents h' d es ep:=by
 obtain⟨o,ho,r⟩:=x;exact⟨o,k o ho,r⟩
theorem Ents.type (x:Ents s.heap d es ep):s.TypeIs (.ref d) "dict":=by
 obtain⟨o,ho,r,_⟩:=x;exact⟨o,ho,r.1⟩
def values_of(hd:(d==sysModules)=false)(x:Ents s.heap d es ep)
  (h:Q (.ref s.heap.objs.size) { s with heap:=s.heap.push { cls:=.type "dict_values",data:=.fields #[.ref d] } }):wpAny (model P w) A (call (.builtin "dict.values") [.ref d]) Q E s:=by
 refine IY F.slot_dict_values x.type F.entry_dict_values ?_ (F.args_dict_values_1 _);refine ax λY z=>?_
 obtain⟨⟨Z,d1,t1,l1⟩,h1,hx,J⟩:=x;have U:=hx.1;cases U;cases J;refine z ?_
 wp_walk using wpAny_loadPart' h1
 exact⟨_,rfl,h⟩
def A3(hv:s.heap.IsValuesView v d)(x:Ents s.heap d es ep)
  (h:Q (.ref s.heap.objs.size) { s with heap:=s.heap.push { cls:=.type "dict_valueiterator",data:=.fields #[.ref d,.int 0 0,.int es.size 0,.int ep 0] } }):wpAny (model P w) A (pyIter (.ref v)) Q E s:=by
 refine LO hv.typeIs F.slot_dict_values_iter (IY F.slot_dict_values_iter hv.typeIs F.entry_dict_values_iter ?_ (F.args_dict_values_iter_1 _));refine ax λZq z=>?_
 obtain⟨⟨c1,d1,t1,l1⟩,h1,hx,J⟩:=x;have U:=hx.1;cases U;cases J;obtain⟨⟨c3,d3,t3,l3⟩,Y,Z,e4⟩:=hv;cases Z;cases e4;refine z ?_
 wp_walk using wpAny_loadPart' h1,wpAny_loadPart' Y
 exact⟨_,rfl,_,_,⟨_,wh _ rfl,rfl⟩,Ko.lookup,h⟩
def u5{ep:Nat}{Q:Option Value->Shared->Prop}(Z:A.handled=none)(hv:s.heap.IsValIter it d i es.size ep)(x:Ents s.heap d es ep)
  (h1:∀e h',es[i]?=some e->h'.IsValIter it d (i+1) es.size ep->Heap.SameBut it s.heap h'->Q (some e.val) { s with heap:=h' })
  (h2:∀h',es[i]?=none->Heap.ExtBut it s.heap h'->Q none { s with heap:=h' }):wpAny (model P w) A (pyNext (.ref it)) Q E s:=by
 have ty:=hv.typeIs;obtain⟨⟨c1,d1,t1,l1⟩,g1,hx,e2⟩:=x;have e1:=hx.1;cases e1;cases e2;obtain⟨⟨c3,d3,t3,l3⟩,J,e3,e4⟩:=hv;cases e3;cases e4;obtain⟨U,g,dr,tk,os⟩:=s;unfold pyNext;refine ez (Lh (Jk (name:=Str.ofString "__next__") ty Ko (IY Ko ty F.entry_dict_valueiterator_next ?_ (F.args_dict_valueiterator_next_1 _))));unfold Builtin.«dict_valueiterator.__next__»
 wp_walk using wpAny_loadPart' g1,wpAny_loadPart' J
 rw[if_neg (by omega),Int.toNat_natCast];have self:∀k v,(U.update it (Obj.mapFields (·.setIfInBounds k v))).get? it=some { cls:=.type "dict_valueiterator",dict:=d3,data:=.fields ((#[.ref d,.int (i:Int) 0,.int (es.size:Int) 0,.int (ep:Int) 0]:Array Value).setIfInBounds k v),slots:=l3 }:=λk v=>Jf _ J rfl
 cases hx:es[i]? with
 |some e =>
  have Y:=self 1 (rawInt ((i:Int)+1))
  wp_walk using wpAny_loadPart' J,wpAny_loadPart' Y
  exact⟨_,rfl,g4 (h1 e _ hx ⟨_,Y,rfl,rfl⟩ (Ja ..))⟩
 |none =>
  refine ez (Je (Q:=λn s'=>n=0/\s'=⟨U,g,dr,tk,os⟩) (E:=λ_ _=>False) ?_ (λn s' q=>?_) λ_ _ z=>z.elim)
  .wp_walk using wpAny_loadPart' J
   exact⟨by decide +kernel,rfl⟩
  obtain⟨rfl,rfl⟩:=q;refine ez (wpAny_setField J rfl (by simp) ?_);refine St.kw (v:=.none) (vs:=#[]) (it:=0) (Q:=λ_ _=>True) (by simpa using Z) λe s' kp ⟨h',eq⟩ hT=>?_
  subst eq;refine ez (JB (T:="StopIteration") (b:=true) hT isSubtype_stop ?_);exact g4 (h2 h' hx λb o hb q=>kp b o ((Ja U it _).extBut b o hb q))
def src :PySem.W.KdlSrc P w "dict_values" r d es.size (λi v=>∃e,es[i]?=some e/\v=e.val) (λh=>h.IsValuesView r d/\Ents h d es ep) where
 type:=λ_ q=>q.1.typeIs
 there:=λ_ ⟨⟨o,ho,_⟩,⟨o',Z,_⟩⟩=>⟨uw ho,uw Z⟩
 keep:=λ_ _ ⟨⟨o,ho,z⟩,x⟩ k=>⟨⟨o,k r (.inl rfl) o ho,z⟩,x.at λo e=>k d (.inr rfl) o e⟩
 notList:=by decide
 notTuple:=by decide
 hint:=λ_ _ _ _ q z=>PySem.W.kdl_hint_values q.1.typeIs z
 iter:=λA s hh ⟨q,x⟩=>by
  have lt:d<s.heap.objs.size:=by obtain⟨o,ho,_⟩:=x;exact uw ho
  have ne:=Iz lt;refine⟨{ cls:=.type "dict_valueiterator",data:=.fields #[.ref d,.int 0 0,.int es.size 0,.int ep 0] },λi h=>h.IsValIter s.heap.objs.size d i es.size ep/\Ents h d es ep,λE Q z=>A3 q x z,?_,⟨_,wh _ rfl,rfl,rfl⟩,x.at λo e=>mu _ e⟩;refine⟨λb J=>by simp at J;simp[J],λi h h' ⟨⟨o,ho,z⟩,y⟩ k=>⟨⟨o,k _ (by simp) o ho,z⟩,y.at λo e=>k d (by simp) o e⟩,λi s' Q E hi ⟨y,z⟩ U=>?_,λs' Q E ⟨y,z⟩ U=>?_,λi s' Q E ⟨y,z⟩ U=>?_⟩
  .refine u5 hh y z (λe h' Y y' sb=>?_) λh' Y _=>absurd Y (by simp;omega)
   exact U _ h' s'.toks ⟨e,Y,rfl⟩ ⟨y',z.at λo q=>sb.extBut d o ne q⟩ λb o J q=>sb.extBut b o (λw=>J (by simp[w])) q
  .refine u5 hh y z (λe h' Y _ _=>absurd Y (by simp)) λh' _ eb=>?_
   exact U h' s'.toks λb o J q=>eb b o (λw=>J (by simp[w])) q
  .exact wpAny_pyIter_valiter y U
end
end L2.Dv
namespace HT
open PySem PyProof.Rows List Option
section
variable{prog:Program}{w:World}{A:Around}{E:Value->Shared->Prop}{s:Shared}
def getItem_tuple_whole{items:Array Value}{Z vu:Value}{lo hi:Option Int}{Q:Value->Shared->Prop}(z:IsTup s.heap t items)(hs:s.heap.IsSliceOf sl Z vu .none)(pl:IsPart Z lo)(pu:IsPart vu hi)
  (h0:sIx items.size 0 lo=0) (h1:sIx items.size items.size hi=items.size) (h:Q (.ref t) s):wpAny (model prog w) A (getItem (.ref t) (.ref sl)) Q E s:=by
 have J:s.TypeIs (.ref sl) "slice":=by obtain⟨os,U,Y,_⟩:=hs;exact⟨os,U,Y⟩
 unfold getItem
 try with_reducible refine IZ ?_
 first|refine ez (g4 ?_)|skip
 refine ez (wpAny_sequenceKey z.typeIs (by decide) ?_);refine ez (Jk (name:=Str.ofString "__getitem__") z.typeIs Jj
  (IY Jj z.typeIs entry_tuple_getitem ?_ (args_tuple_getitem _ _)))
 show wpAny _ _ (Builtin.Tuple.tupleItemsOf _ >>= _) _ _ s;refine ez (tupleItemsOf_ z ?_);refine ez (Kz J ?_);rw[if_pos (by decide)];refine ez (fW hs pl pu ?_);show wpAny _ _ (if (((sIx items.size 0 lo:Nat):Int)==0&&_==1&&_==items.size)=true then _ else _) _ _ s;rw[h0,h1,if_pos (by simp)];unfold Builtin.Tuple.tupleIsExact;refine ez (ez (Kz z.typeIs (g4 ?_)));rw[if_pos (by decide)];refine ez (Ka ?_);exact g4 ⟨_,rfl,g4 h⟩
end
end HT
namespace L2
open PySem PySem.Spec PyProof.Rows List Option
section
variable{X:Cx}
def A4:SlR X (λx lo hi H Q=>∃a xs,x=.ref a/\SqT X.K H a xs/\HT.sIx xs.length 0 lo=0/\HT.sIx xs.length xs.length hi=xs.length/\Q (.ref a) H):=by
 intro pins s σ H x v vl vu lo hi sl Q I U hs Y Z h;refine ax λZq kq=>?_
 obtain⟨a,xs,rfl,hx,h0,h1,q⟩:=h;cases U;obtain⟨its,r,J,hz⟩:=I.tuple hx;have z:its.toArray.size=xs.length:=by rw[tr];exact r.length.symm
 refine kq ?_;refine⟨"tuple",_,Jj.lookup,J.typeIs,?_⟩;exact HT.getItem_tuple_whole J hs Y Z (by rw[z];exact h0) (by rw[z];exact h1) ⟨.ref a,H,I,rfl,q⟩
end
end L2
namespace L2.Rv
open PySem PyProof.Rows List Option
section
variable{P:Program}{w:World}{A:Around}{E:Value->Shared->Prop}{s:Shared}
def Dw:typeLookup (.type "list_reverseiterator") "__len__"=pure none:=by rw[Lq,KA];kernel_rfl
def yr:typeLookup (.type "list_reverseiterator") "__length_hint__"=pure (some (.builtin "list_reverseiterator.__length_hint__")):=by rw[Lq,KA];kernel_rfl
def yt (U:s.TypeIs (.ref it) "list_reverseiterator") (h:Q false s):wpAny (model P w) A (Builtin.List.listLengthHint (.ref it)) Q E s:=by
 unfold Builtin.List.listLengthHint;refine ez (Ln U Dw ?_);refine IU (λz=>absurd z (by decide)) (λ_=>?_);refine IU (λz=>absurd z (by decide)) (λ_=>?_);refine ez (Ln U yr ?_);generalize J:("list_reverseiterator.__length_hint__":String)=Y
 wp_delta
 rw[show splitId Y=some ("list_reverseiterator","__length_hint__")from by subst J;decide +kernel];subst J;refine ez (JB (T:="list_reverseiterator") (b:=true) U (by rw[LA];kernel_rfl) ?_);refine IU (λz=>absurd z (by decide)) (λ_=>?_);refine IU (λ_=>?_) (λz=>absurd (by decide +kernel) z);refine IU (λz=>absurd z (by decide +kernel)) (λ_=>?_);exact g4 h
def Drawn(items:Array Value)(i:Nat)(v:Value):Prop:=items[items.size-1-i]?=some v
def tj{it l S:Addr}{items:Array Value}(hh:A.handled=none)(ao:l≠it)(U:s.heap.IsRevIter it l ((items.size:Int)-1))(hl:s.heap.IsList l items)(hn:items.size<=sizeLine)(Y:S≠it)(ar:S≠l)(res)
  (hS:s.heap.get? S=some { cls:=.type "list",data:=.seq #[] })
  (hR:∀h' tk J c,(∀b o,b≠S->b≠it->s.heap.get? b=some o->h'.get? b=some o)->h'.get? S=some { cls:=.type "list",dict:=none,data:=.seq J c,slots:=#[] }->ItemsOf (Drawn items) J items.size->R (.ok (.ret res)) { s with heap:=h',toks:=tk }) :
  wpAny (model P w) A.in1 (Builtin.List.listExtendWith (.ref S) (.ref it) res)
   (λfin s'=>match fin with|.done f=>R (.ok f) s'|.again c'=>c'.quiet=true/\codeAny (model P w) A c' R s') (λe s'=>R (.error e) s') s:=by
 have hT:=U.typeIs;have W:=Walks.listRev (prog:=P) (w:=w) (A:=A.in1) (by simpa using hh) it l ao items;have aO:S∉[it,l]:=by simp[Y,ar]
 unfold Builtin.List.listExtendWith;refine ez (Kz hT ?_);have h1:Builtin.List.listSameRef (.ref S) (.ref it)=false:=by simp[Builtin.List.listSameRef,Y]
 rw[if_neg (by rw[h1];decide)];refine ez (wpAny_pyIter_revIter U ?_);refine ez (IZ (yt hT ?_));refine IU (λa0=>absurd a0 (by decide)) (λ_=>?_);refine g4 ⟨Lg PySem.F.plain_extend_loop _,?_⟩;refine codeAny_extend_loopS W.toS hn S aO res items.size 0 s #[] 0 rfl (Ji _) ⟨Ji _,by simpa using U,hl⟩ hS (ItemsOf.nil _) λs' J c hm a1 Z=>?_
 rw[Moved.eq_with hm];refine hR s'.heap s'.toks J c (λb o hb b0 e=>hm.heap b o (λz=>?_) e) a1 Z
 simp_all
end
end L2.Rv
namespace L2
open PySem PySem.Spec PyProof.Rows List Option
section
variable{X:Cx}
def tm{its:List Value}(h:ItemsOf (Rv.Drawn its.toArray) acc its.toArray.size):acc.toList=its.reverse:=by
 have hs:acc.size=its.length:=by rw[h.1,tr]
 refine LV λi=>?_
 rw[Jg];by_cases hi:i<its.length
 .cases e:acc[i]? with
  |none=>rw[Array.getElem?_eq_none_iff]at e;omega
  |some v =>
   have:=h.2 i v e;unfold Rv.Drawn at this;rw[tr,getElem?_toArray]at this;rw[getElem?_reverse hi,<- this]
 .simp_all
end
end L2
namespace L2.Rg
open PySem PyProof.Rows List Option
section
variable{P:Program}{w:World}{A:Around}{E:Value->Shared->Prop}{s:Shared}
end
end L2.Rg
namespace L2
open PySem PySem.Spec PyProof.Rows List Option
section
variable{X:Cx}
end
end L2
namespace L2.Rv
open PySem PyProof.Rows List Option
open AutoSeq1 (wpAny_loadPart')
section
variable{P:Program}{w:World}{A:Around}{E:Value->Shared->Prop}{s:Shared}
def list_rev{it l:Addr}{items:Array Value}(hh:A.handled=none)(U:l≠it)(J:s.heap.IsRevIter it l ((items.size:Int)-1))(hl:s.heap.IsList l items)(hn:items.size<=sizeLine)
  (h:∀h' tk z c,(∀b o,b≠it->s.heap.get? b=some o->h'.get? b=some o)->h'.get? s.heap.objs.size=some { cls:=.type "list",dict:=none,data:=.seq z c,slots:=#[] }->ItemsOf (Drawn items) z items.size->Q (.ref s.heap.objs.size) { s with heap:=h',toks:=tk }) :
  wpAny (model P w) A (call (.type "list") [.ref it]) Q E s:=by
 have li:it<s.heap.objs.size:=by obtain⟨o,ho,_⟩:=J;exact uw ho
 have ll:l<s.heap.objs.size:=by obtain⟨o,ho,_⟩:=hl;exact uw ho
 refine callType_codes F.called_list (F.typeCall_list_1 _) F.entry_list_init (code_list_new (.ref it) (Q₁:=λobj s1=>obj=.ref s.heap.objs.size/\s1={ s with heap:=s.heap.push { cls:=.type "list",data:=.seq #[] } }) ⟨rfl,rfl⟩) λobj s1 h1=>?_
 obtain⟨rfl,rfl⟩:=h1;have Y:(s.heap.push { cls:=.type "list",data:=.seq #[] }).get? s.heap.objs.size=some { cls:=.type "list",data:=.seq #[] }:=wh _ rfl;refine⟨⟨_,Y,rfl⟩,F.args_list_init_2 _ _,?_⟩;unfold Builtin.«list.__init__»;generalize hX:Builtin.List.listExtendWith=X
 wp_walk using wpAny_loadPart' Y
 subst hX;have g1:((s.heap.push { cls:=.type "list",data:=.seq #[] }).update s.heap.objs.size (Obj.mapSeq λ_=>#[])).get? s.heap.objs.size=some { cls:=.type "list",data:=.seq #[] }:=Jf _ Y rfl;have kp:∀b o,b≠s.heap.objs.size->s.heap.get? b=some o->((s.heap.push { cls:=.type "list",data:=.seq #[] }).update s.heap.objs.size (Obj.mapSeq λ_=>#[])).get? b=some o:=λb o Z e=>(Ja ..).extBut b o Z (mu _ e)
 refine tj (A:=A.in1) (by simpa using hh) U (J.at λo e=>kp _ o (Iz li) e) (hl.at λo e=>kp _ o (Iz ll) e) hn (JL li) (JL ll) .none g1 λh' tk z c k e i=>?_
 exact⟨rfl,h h' tk z c (λb o Z q=>k b o (Iz (uw q)) Z (kp b o (Iz (uw q)) q)) e i⟩
end
end L2.Rv
namespace L2
open PySem PySem.Spec PyProof.Rows List Option
section
variable{X:Cx}
def tq (hc:X.calm=true) (hg:Gl X "list") (hm:X.mg "list"=none) (hv:bootBuiltins "list"=some (.type "list")) (a0:Gl X "reversed") (a1:X.mg "reversed"=none) (hl:PE X l tl) (hs:starEach [l] X.env=[(false,eval l X.env)]:=by rfl) :
  PE X (.Call (.Name "list" p) [.Call (.Name "reversed" p2) [l] [] pos2] [] pos) (λσ H Q=>tl σ H λx H1=>∃a xs,x=.ref a/\SqL X.K H1 a xs/\∀q,H1 q=none->Q (.ref q) (upd H1 q (.lst xs.reverse))):=by
 intro pins s σ H Q I h;refine JT (ij I hg hm hv ?_);refine Jt (K0 ?_) rfl rfl;refine JT (ij I a0 a1 PyProof.Rows.boot_reversed ?_);refine Jt (thn (aM hl bJ hs pos2 pins s σ H (λvs H1=>match vs with|[x]=>∃a xs,x=.ref a/\SqL X.K H1 a xs/\∀q,H1 q=none->Q (.ref q) (upd H1 q (.lst xs.reverse))|_=>False) I h) λus J ⟨vs,H1,I1,r1,q1⟩=>?_) hs rfl;cases r1 with
 |nil=>exact q1.elim
 |cons r rr =>
  cases rr with
  |cons _ _=>exact q1.elim
  |nil =>
   refine ax λZq kq=>?_
   obtain⟨a,xs,e,hq,q⟩:=q1;subst e;cases r;obtain⟨its,rv,pl,hz⟩:=I1.list hq;have la:a<J.heap.objs.size:=by obtain⟨o,ho,_⟩:=pl.isList;exact uw ho
   have aO:its.toArray.size=xs.length:=by rw[tr];exact rv.length.symm
   refine kq ?_;refine call_reversed_list pl.isList (LM ?_);generalize Z:revObj a ((its.toArray.size:Int)-1)=U;have a4:(J.heap.push U).get? J.heap.objs.size=some U:=wh _ (by rw[<- Z];rfl);have I2:Inv X pins σ H1 { J with heap:=J.heap.push U }:=I1.kept (t':=J.toks) λb o e=>mu _ e
   have hn:=I1.hok.fresh (pe _);obtain⟨_,f1,_,f3,f4,f5⟩:=I1.fpOk (pe _) hn;refine Rv.list_rev (s:={ J with heap:=J.heap.push U }) (it:=J.heap.objs.size) (l:=a) (items:=its.toArray) (I1.ok.hd hc) (Iz la) ⟨_,a4,by rw[<- Z];rfl,by rw[<- Z];rfl⟩ (pl.isList.at λo e=>mu _ e) (by rw[aO];exact hz) λh' tk Y c k e it=>?_
   have z:(J.heap.push U).objs.size=J.heap.objs.size+1:=IV ..;have ne:(J.heap.push U).objs.size≠J.heap.objs.size:=by omega
   have g2:((J.heap.push U).push { cls:=.type "list",data:=.seq Y c }).get? (J.heap.push U).objs.size=some { cls:=.type "list",data:=.seq Y c }:=wh _ rfl;have I3:Inv X pins σ (upd H1 (J.heap.push U).objs.size (.lst xs.reverse)) { J with heap:=(J.heap.push U).push { cls:=.type "list",data:=.seq Y c },toks:=J.toks }:=I2.laid (λb o e=>mu _ e) (pe _) ⟨by rw[length_reverse];exact hz,Y.toList,c,by rw[tm it];exact rv.reverse,by rw[Array.toArray_toList];exact g2⟩;have a5:H1 (J.heap.push U).objs.size=none:=I1.hok.fresh (by omega);have I4:=I3.turned (t':=tk) (it:=J.heap.objs.size) (h':=h') (λb o hb e1=>by
    by_cases eb:b=(J.heap.push U).objs.size
    .subst eb;have e1:=e1;rw[g2]at e1;cases e1;exact e
    .refine k b o hb ?_;have e1:=e1;show(J.heap.push U).get? b=some o;rw[<- Heap.get?_push_ne _ _ _ eb];exact e1) (by rw[aZ ne.symm];exact hn) f1 f3 f4 f5
   exact⟨.ref (J.heap.push U).objs.size,_,I4,rfl,q _ a5⟩
end
end L2
namespace MM
open PySem List Option
inductive Sc where
 | non|bl (b:Bool)|int (i:Int)|str (x:Str)
 deriving Inhabited,DecidableEq
inductive DD where
 | k (kvs:List (Int×Sc))|t (kvs:List (List Int×Sc))
 | p (ns:List Int)
 deriving Inhabited
inductive PV where
 | non|bl (b:Bool)|int (i:Int)|str (x:Str)|tup (xs:List PV)|lst (xs:List PV)|dI (d:DD)
 deriving Inhabited
noncomputable def Sc.pv:Sc->PV
 | .non=>.non
 | .bl b=>.bl b
 | .int i=>.int i
 | .str x=>.str x
noncomputable def sc?:PV->Option Sc
 | .non=>some .non
 | .bl b=>some (.bl b)
 | .int i=>some (.int i)
 | .str x=>some (.str x)
 | _=>none
noncomputable def cT{α:Type} [DecidableEq α] (kvs:List (α×Sc)) (k:α):Option Sc:=(kvs.find? λp=>decide (p.1=k)).map (·.2)
noncomputable def cy{α:Type} [DecidableEq α] (kvs:List (α×Sc)) (k:α) (v:Sc):List (α×Sc):=
 if (kvs.any λp=>decide (p.1=k))=true then kvs.map (λp=>if p.1=k then(p.1,v)else p)else kvs++[(k,v)]
noncomputable def eqL(f:PV->PV->Option Bool):List PV->List PV->Option Bool
 | [],[]=>some true
 |x::xs,y::ys=>(f x y).bind λp=>(eqL f xs ys).map λq=>p&&q
 | _,_=>some false
noncomputable def eqF:Nat->PV->PV->Option Bool
 | _,.non,.non=>some true
 | _,.bl a,.bl b=>some (a==b)
 | _,.bl a,.int b=>some ((if a then 1 else 0)==b)
 | _,.int a,.bl b=>some (a==(if b then 1 else 0))
 | _,.int a,.int b=>some (a==b)
 | _,.str a,.str b=>some (a==b)
 |0,.tup _,.tup _=>none
 |0,.lst _,.lst _=>none
 | _,.dI _,_=>none
 | _,_,.dI _=>none
 |n+1,.tup a,.tup b=>eqL (eqF n) a b
 |n+1,.lst a,.lst b=>if a.length=b.length then eqL (eqF n) a b else some false
 | _,_,_=>some false
noncomputable def re:PV->PV->Bool
 | .tup _,.tup _=>true
 | .lst _,.lst _=>true
 | .tup _,_=>false
 | _,.tup _=>false
 | .lst _,_=>false
 | _,.lst _=>false
 | .bl _,.int _=>false
 | .int _,.bl _=>false
 | .dI _,_=>false
 | _,.dI _=>false
 | _,_=>true
noncomputable def inL(f:PV->Option Bool):List PV->Option Bool
 | []=>some false
 |y::ys=>(f y).bind λp=>(inL f ys).map λq=>p||q
inductive MV where
 | val (v:PV)|own (xs:List PV)|brw (xs:List PV)|ownD (d:DD)|brwD (d:DD)
 | mutD (d:DD)
 deriving Inhabited
noncomputable abbrev Rho:=List (Option MV)
inductive Op2 where
 | add|sub|mul|fdiv|mod|pow|shr
 deriving DecidableEq
inductive Cp where
 | eq|ne|lt|le|gt|ge|isN|notN|isIn|notIn
 deriving DecidableEq
inductive Blt where
 | len|tupleOf|listOf|sorted|any|all|sum|max1|min1|max2|min2|intOf|boolOf|isInt|isBool|isStr|isList|isTuple
 | sortedSet|lenSet|lenSetSub|sortedKeys|valuesOf|tupleRev
 deriving DecidableEq
inductive Sk where
 | seq|rng|enm|rev
 deriving DecidableEq
set_option genInjectivity false in
inductive ME where
 | var (i:Nat)
 | bor (i:Nat)
 | cst (v:PV)
 | glob (x:Str) (v:PV)
 | bin (op:Op2) (a b:ME)
 | neg (a:ME)
 | not (a:ME)
 | and (a b:ME)
 | or (a b:ME)
 | ite (c a b:ME)
 | cmp (op:Cp) (a b:ME)
 | chain (op op':Cp) (a b c:ME)
 | tup (es:List ME)
 | lst (es:List ME)
 | idx (a i:ME)
 | slice (a lo hi:ME)
 | blt (b:Blt) (es:List ME)
 | call (f:Nat) (es:List ME)
 | callD (f:Nat) (es:List ME) (d:List Sc)
 | comp (k:Sk) (src:List ME) (js:List Nat) (cond elt:ME)
 | dget (a k d:ME)
 | dat (a k:ME)
 | dIn (neg:Bool) (k a:ME)
 | lenP (i:Nat)
 | disp (kvs:List (Str×Str)) (e:ME)
 deriving Inhabited
noncomputable def bf:List PV->Option (List Int)
 | []=>some []
 | .int i::r=>(bf r).map (i::·)
 | _=>none
noncomputable def f_:List PV->Option (List (List Int))
 | []=>some []
 | .tup xs::r=>(bf xs).bind λx=>(f_ r).map (x::·)
 | _=>none
noncomputable def cU:List PV->Option (List Bool)
 | []=>some []
 | .bl i::r=>(cU r).map (i::·)
 | _=>none
noncomputable def oW(kvs:List (Str×Str)):List (L2.Key×L2.V):=kvs.map λp=>(Sum.inr p.1,L2.V.str p.2)
noncomputable def u6(kvs:List (Str×Str)):PV->Option PV
 | .str x=>(L2.iW (L2.im [] (oW kvs)) (Sum.inr x)).bind λv=>match v with|.str y=>some (.str y)|_=>none
 | _=>none
noncomputable def wA:PV->PV->Option (Option Sc)
 | .dI (.k kvs),.int i=>some (cT kvs i)
 | .dI (.t kvs),.tup xs=>(bf xs).map (cT kvs)
 | _,_=>none
noncomputable def oj:DD->PV->Sc->Option DD
 | .k kvs,.int i,s=>if kvs.length<10000 then some (.k (cy kvs i s))else none
 | .t kvs,.tup xs,s=>(bf xs).bind λk=>if kvs.length<10000 then some (.t (cy kvs k s))else none
 | _,_,_=>none
noncomputable def dSc:DD->List Sc
 | .k kvs=>kvs.map (·.2)
 | .t kvs=>kvs.map (·.2)
 | .p _=>[]
noncomputable def i7(d:DD):List PV:=(dSc d).map Sc.pv
noncomputable def lexLt:List Int->List Int->Bool
 | [],[]=>false
 | [],_::_=>true
 | _::_,[]=>false
 |x::xs,y::ys=>if x=y then lexLt xs ys else decide (x<y)
noncomputable def yu(x:Int):List Int->List Int
 | []=>[x]
 |y::r=>if y<x then y::yu x r else x::y::r
noncomputable def sortI:List Int->List Int
 | []=>[]
 |x::r=>yu x (sortI r)
noncomputable def yw(x:List Int):List (List Int)->List (List Int)
 | []=>[x]
 |y::r=>if lexLt y x=true then y::yw x r else x::y::r
noncomputable def sortT:List (List Int)->List (List Int)
 | []=>[]
 |x::r=>yw x (sortT r)
noncomputable def dd:List Int->List Int
 | []=>[]
 |x::r=>if x∈dd r then dd r else x::dd r
noncomputable def jH{α:Type}(f:Int->Int->Option α):PV->PV->Option α
 | .int i,.int j=>f i j
 | _,_=>none
noncomputable def yx:PV->PV->Option PV
 | .int i,.int j=>some (.int (i+j))
 | .lst a,.lst b=>if a.length+b.length<=10000 then some (.lst (a++b))else none
 | .tup a,.tup b=>if a.length+b.length<=10000 then some (.tup (a++b))else none
 | .str a,.str b=>if a.length+b.length<=1000000 then some (.str (a++b))else none
 | _,_=>none
noncomputable def dQ(op:Op2):PV->PV->Option PV:=match op with
 | .add=>yx
 | .sub=>jH λi j=>some (.int (i-j))
 | .mul=>jH λi j=>if (-(2 ^ 64)<i/\i<2 ^ 64)\/(-(2 ^ 64)<j/\j<2 ^ 64)then some (.int (i*j))else none
 | .fdiv=>jH λi j=>if 0<j/\j<1073741824 then some (.int (i / j))else none
 | .mod=>jH λi j=>if 0<j then some (.int (i % j))else none
 | .pow=>jH λi j=>if 0<=j/\j<=1000000/\i.natAbs<2 ^ 64 then some (.int (i ^ j.toNat))else none
 | .shr=>jH λi j=>if 0<=j then some (.int (i / 2 ^ j.toNat))else none
noncomputable def mN:PV->Bool
 | .non=>true
 | _=>false
noncomputable def isIn(x:PV)(xs:List PV):Option Bool:=inL (λy=>eqF 100 y x) xs
noncomputable def Gh(a b:PV):Option Bool:=match b with
 | .non=>some (mN a)
 | .bl q=>(match a with|.bl p=>some (p==q)|_=>none)
 | _=>none
noncomputable def aX:PV->Option (List PV)
 | .tup xs=>some xs
 | .lst xs=>some xs
 | _=>none
noncomputable def ie:PV->Option (List PV)
 | .lst xs=>some xs
 | _=>none
noncomputable def cK(op:Cp):PV->PV->Option Bool:=match op with
 | .eq=>eqF 100
 | .ne=>λa b=>if re a b=true then(eqF 100 a b).map λp=>!p else none
 | .lt=>jH λi j=>some (decide (i<j))
 | .le=>jH λi j=>some (decide (i<=j))
 | .gt=>jH λi j=>some (decide (j<i))
 | .ge=>jH λi j=>some (decide (j<=i))
 | .isN=>Gh
 | .notN=>λa b=>(Gh a b).map λp=>!p
 | .isIn=>λa b=>(aX b).bind (isIn a)
 | .notIn=>λa b=>((aX b).bind (isIn a)).map λp=>!p
noncomputable def place(n:Nat)(i:Int):Option Nat:=
 if 0<=i then(if i<n then some i.toNat else none)else if -(n:Int)<=i then some (i+n).toNat else none
noncomputable def dR:PV->PV->Option PV
 | .tup xs,.int i=>(place xs.length i).bind λj=>xs[j]?
 | .lst xs,.int i=>(place xs.length i).bind λj=>xs[j]?
 | _,_=>none
noncomputable def gc(n d:Nat):Option Int->Nat
 |none=>d
 |some i=>if i<0 then(i+n).toNat else min i.toNat n
noncomputable def cut(xs:List PV)(lo hi:Option Int):List PV:=(xs.drop (gc xs.length 0 lo)).take (gc xs.length xs.length hi-gc xs.length 0 lo)
noncomputable def iN:PV->Option Int->Option Int->Option PV
 | .lst xs,lo,hi=>some (.lst (cut xs lo hi))
 | .tup xs,lo,hi=>some (.tup (cut xs lo hi))
 | _,_,_=>none
noncomputable def bnd:ME->PV->Option (Option Int)
 | .cst .non,_=>some none
 | _,.int i=>some (some i)
 | _,_=>none
noncomputable def wB:List Int->Option Int
 | []=>none
 |x::r=>some (r.foldl (λa b=>if a<b then b else a) x)
noncomputable def ir(xs:List PV):Option PV:=
 if xs.length<64 then
  match bf xs with
  |some ns=>some (.lst ((sortI ns).map .int))
  |none=>(f_ xs).map λz=>.lst ((sortT z).map λt=>.tup (t.map .int))
 else none
noncomputable def isT(b:Blt):PV->Bool
 | .int _=>b==.isInt
 | .bl _=>b==.isInt||b==.isBool
 | .str _=>b==.isStr
 | .lst _=>b==.isList
 | .tup _=>b==.isTuple
 | .non=>false
 | .dI _=>false
noncomputable def isD:PV->Bool
 | .dI _=>true
 | _=>false
noncomputable def cz(vs:List PV)(f:PV->Option PV):Option PV:=match vs with
 | [a]=>f a
 | _=>none
noncomputable def mO(vs:List PV)(f:PV->PV->Option PV):Option PV:=match vs with
 | [a,b]=>f a b
 | _=>none
noncomputable def iX(b:Blt)(vs:List PV):Option PV:=cz vs λa=>if isD a=true then none else some (.bl (isT b a))
noncomputable def Gi:PV->Option PV
 | .tup xs=>some (.int xs.length)
 | .lst xs=>some (.int xs.length)
 | .dI (.k kvs)=>some (.int kvs.length)
 | _=>none
noncomputable def aG(b:Blt)(vs:List PV):Option PV:=match b with
 | .len=>cz vs Gi
 | .tupleOf=>cz vs λa=>(aX a).map .tup
 | .listOf=>cz vs λa=>(aX a).map .lst
 | .sorted=>cz vs λa=>(aX a).bind ir
 | .any=>cz vs λa=>(ie a).bind λxs=>(cU xs).map λbs=>.bl (bs.any id)
 | .all=>cz vs λa=>(ie a).bind λxs=>(cU xs).map λbs=>.bl (bs.all id)
 | .sum=>cz vs λa=>(ie a).bind λxs=>(bf xs).map λns=>.int ns.sum
 | .max1=>cz vs λa=>(ie a).bind λxs=>(bf xs).bind λns=>(wB ns).map .int
 | .min1=>none
 | .max2=>mO vs (jH λi j=>some (.int (if j > i then j else i)))
 | .min2=>mO vs (jH λi j=>some (.int (if j<i then j else i)))
 | .intOf=>cz vs λa=>match a with|.int i=>some (.int i)|.bl b=>some (.int (if b then 1 else 0))|_=>none
 | .boolOf=>cz vs λa=>match a with|.bl b=>some (.bl b)|_=>none
 | .isInt=>iX .isInt vs
 | .isBool=>iX .isBool vs
 | .isStr=>iX .isStr vs
 | .isList=>iX .isList vs
 | .isTuple=>iX .isTuple vs
 | .sortedSet=>cz vs λa=>(aX a).bind λxs=>(bf xs).bind λns=>if ns.length<=1000/\(dd ns).length<64 then some (.lst ((sortI (dd ns)).map .int))else none
 | .lenSet=>cz vs λa=>(aX a).bind λxs=>(bf xs).bind λns=>if ns.length<=1000 then some (.int (dd ns).length)else none
 | .lenSetSub=>mO vs λa b=>(aX a).bind λxs=>(bf xs).bind λns=>(aX b).bind λys=>(bf ys).bind λms =>
   if ns.length<=1000/\ms.length<=1000/\(dd ns).length<=60 then some (.int ((dd ns).filter λn=>!decide (n∈ms)).length)else none
 | .sortedKeys=>cz vs λa=>match a with|.dI (.k kvs)=>if kvs.length<64 then some (.lst ((sortI (kvs.map (·.1))).map .int))else none|_=>none
 | .tupleRev=>cz vs λa=>(ie a).map λxs=>.tup xs.reverse
 | .valuesOf=>cz vs λa=>match a with|.dI d=>if (i7 d).length<=10000 then some (.lst (i7 d))else none|_=>none
noncomputable def bG(n:Nat):List PV->List PV
 | []=>[]
 |x::r=>.tup [.int (n:Nat),x]::bG (n+1) r
noncomputable def aW:Sk->List PV->Option (List PV)
 | .seq,[a]=>aX a
 | .rng,[.int j]=>if -(2 ^ 62)<=j/\j<2 ^ 62 then some ((range j.toNat).map λ(k:Nat)=>.int ((0:Int)+k))else none
 | .rng,[.int i,.int j]=>if -(2 ^ 62)<=i/\i<2 ^ 62/\-(2 ^ 62)<=j/\j<2 ^ 62 then some ((range (j-i).toNat).map λ(k:Nat)=>.int (i+k))else none
 | .enm,[a]=>(aX a).map (bG 0)
 | .rev,[.lst xs]=>some xs.reverse
 | _,_=>none
noncomputable def fO(c:PV->Option Bool)(f:PV->Option PV):List PV->Option (List PV)
 | []=>some []
 |x::r=>(c x).bind λb=>if b=true then(f x).bind λy=>(fO c f r).map (y::·)else fO c f r
noncomputable def bc:PV->Option Bool
 | .bl b=>some b
 | _=>none
noncomputable abbrev Cal:=Nat->List MV->Option PV
noncomputable def yy:Option MV->Option PV
 |some (.val v)=>some v
 | _=>none
noncomputable def rf:DD->Bool
 | .p _=>false
 | _=>true
noncomputable def bA:Option MV->Option PV
 |some (.val v)=>some v
 |some (.own xs)=>some (.lst xs)
 |some (.brw xs)=>some (.lst xs)
 |some (.ownD kvs)=>if rf kvs=true then some (.dI kvs)else none
 |some (.brwD kvs)=>if rf kvs=true then some (.dI kvs)else none
 |some (.mutD kvs)=>if rf kvs=true then some (.dI kvs)else none
 |none=>none
noncomputable def gh:Option MV->Option MV
 |some (.val v)=>some (.val v)
 |some (.own xs)=>some (.brw xs)
 |some (.brw xs)=>some (.brw xs)
 |some (.ownD xs)=>some (.brwD xs)
 |some (.brwD xs)=>some (.brwD xs)
 |some (.mutD xs)=>some (.brwD xs)
 |none=>none
noncomputable def fz:Option MV->Option MV
 |some (.own xs)=>some (.brw xs)
 |some (.ownD xs)=>some (.brwD xs)
 |some (.mutD xs)=>some (.brwD xs)
 |o=>o
noncomputable def bC(js:List Nat)(W:Rho)(x:PV):Rho:=some (.val x)::js.map λj=>fz (W[j]?).join
noncomputable def tu:Option MV->Option PV
 |some (.ownD (.p ns))=>some (.int ns.length)
 |some (.mutD (.p ns))=>some (.int ns.length)
 | _=>none
mutual
noncomputable def ev(cal:Cal):ME->Rho->Option PV
 | .var i,W=>yy (W[i]?).join
 | .bor i,W=>bA (W[i]?).join
 | .cst v,_=>some v
 | .glob _ v,_=>some v
 | .bin op a b,W=>(ev cal a W).bind λx=>(ev cal b W).bind λy=>dQ op x y
 | .neg a,W=>(ev cal a W).bind λx=>match x with|.int i=>some (.int (-i))|_=>none
 | .not a,W=>((ev cal a W).bind bc).map λb=>.bl (!b)
 | .and a b,W=>((ev cal a W).bind bc).bind λc=>if c=true then(ev cal b W).bind λy=>(bc y).map .bl else some (.bl false)
 | .or a b,W=>((ev cal a W).bind bc).bind λc=>if c=true then some (.bl true)else(ev cal b W).bind λy=>(bc y).map .bl
 | .ite c a b,W=>((ev cal c W).bind bc).bind λk=>if k=true then ev cal a W else ev cal b W
 | .cmp op a b,W=>(ev cal a W).bind λx=>(ev cal b W).bind λy=>(cK op x y).map .bl
 | .chain op J a b c,W=>(ev cal a W).bind λx=>(ev cal b W).bind λy=>(cK op x y).bind λk=>if k=true then(ev cal c W).bind λz=>(cK J y z).map .bl else some (.bl false)
 | .tup es,W=>(evs cal es W).bind λvs=>if vs.length<=10000 then some (.tup vs)else none
 | .lst es,W=>(evs cal es W).bind λvs=>if vs.length<=10000 then some (.lst vs)else none
 | .idx a i,W=>(ev cal a W).bind λx=>(ev cal i W).bind λy=>dR x y
 | .slice a lo hi,W=>(ev cal a W).bind λx=>((ev cal lo W).bind λl=>bnd lo l).bind λl=>((ev cal hi W).bind λh=>bnd hi h).bind λh=>iN x l h
 | .blt b es,W=>(evs cal es W).bind λvs=>aG b vs
 | .call f es,W=>(evA cal es W).bind λvs=>cal f vs
 | .callD f es d,W=>(evA cal es W).bind λvs=>cal f (vs++d.map λx=>.val x.pv)
 | .comp k src js cond elt,W=>(evs cal src W).bind λvs=>(aW k vs).bind λxs =>
   if xs.length<=10000 then(fO (λx=>(ev cal cond (bC js W x)).bind bc) (λx=>ev cal elt (bC js W x)) xs).map .lst else none
 | .dget a k d,W=>(ev cal a W).bind λx=>(ev cal k W).bind λy=>(ev cal d W).bind λz=>(wA x y).bind λo=>(sc? z).map λs=>(o.getD s).pv
 | .dat a k,W=>(ev cal a W).bind λx=>(ev cal k W).bind λy=>(wA x y).bind λo=>o.map Sc.pv
 | .dIn neg k a,W=>(ev cal k W).bind λy=>(ev cal a W).bind λx=>(wA x y).map λo=>.bl (if neg=true then !o.isSome else o.isSome)
 | .lenP i,W=>tu (W[i]?).join
 | .disp kvs e,W=>(ev cal e W).bind (u6 kvs)
noncomputable def evs(cal:Cal):List ME->Rho->Option (List PV)
 | [],_=>some []
 |e::es,W=>(ev cal e W).bind λv=>(evs cal es W).map (v::·)
noncomputable def evA(cal:Cal):List ME->Rho->Option (List MV)
 | [],_=>some []
 | .bor i::es,W=>(gh (W[i]?).join).bind λv=>(evA cal es W).map (v::·)
 |e::es,W=>(ev cal e W).bind λv=>(evA cal es W).map (MV.val v::·)
end
noncomputable def evB(cal:Cal)(e:ME)(W:Rho):Option Bool:=(ev cal e W).bind bc
noncomputable def gi:Option MV->Option DD
 |some (.ownD d)=>some d
 |some (.mutD d)=>some d
 | _=>none
noncomputable def evM(cal:Cal):List Bool->List ME->Rho->Option (List MV)
 | [],[],_=>some []
 |true::bs,.bor i::es,W=>(gi (W[i]?).join).bind λd=>(evM cal bs es W).map (MV.mutD d::·)
 |false::bs,e::es,W=>(evA cal [e] W).bind λa=>match a with|[.val v]=>(evM cal bs es W).map (MV.val v::·)|_=>none
 | _,_,_=>none
noncomputable def fj(W:Rho)(i:Nat)(d:DD):Rho:=match (W[i]?).join with
 |some (.ownD _)=>W.set i (some (.ownD d))
 | _=>W.set i (some (.mutD d))
noncomputable def jI:List Bool->List ME->List PV->Rho->Option Rho
 | [],[],[],W=>some W
 |true::bs,.bor i::es,.dI d::ds,W=>jI bs es ds (fj W i d)
 |false::bs,_::es,ds,W=>jI bs es ds W
 | _,_,_,_=>none
noncomputable def rg(cal:Cal)(f:Nat)(mask:List Bool)(es:List ME)(W:Rho):Option (PV×Rho):=
 match (evM cal mask es W).bind λvs=>cal (f+2000) vs with
 |some (.tup (v::ds))=>(jI mask es ds W).map λl=>(v,l)
 | _=>none
inductive SK where
 | one|cat|pair
 deriving DecidableEq
noncomputable def Cg:SK->PV->PV->Option PV
 | .one,_,v=>some v
 | .cat,w,v=>dQ .add w v
 | .pair,w,v=>some (.tup [w,v])
noncomputable def A5:Option MV->Option MV
 |some (.val v)=>some (.val v)
 |some (.brw xs)=>some (.brw xs)
 |some (.ownD d)=>some (.mutD d)
 |some (.mutD d)=>some (.mutD d)
 |some (.brwD d)=>some (.brwD d)
 | _=>none
noncomputable def kC(js:List Nat)(W:Rho)(x:PV):Rho:=some (.val x)::js.map λj=>A5 (W[j]?).join
noncomputable def Dx(js:List Nat):ME->ME
 | .bor i=>.bor (if i=0 then 0 else js.getD (i-1) 0)
 |e=>e
noncomputable def dq(cal:Cal)(js:List Nat)(k:SK)(e:ME)(f:Nat)(mask:List Bool)(es:List ME):List PV->Rho->Option (List PV×Rho)
 | [],W=>some ([],W)
 |x::xs,W=>(ev cal e (kC js W x)).bind λw=>match (evM cal mask es (kC js W x)).bind λvs=>cal (f+2000) vs with
  |some (.tup (v::ds))=>(Cg k w v).bind λr=>(jI mask (es.map (Dx js)) ds W).bind λl=>(dq cal js k e f mask es xs l).map λp=>(r::p.1,p.2)
  | _=>none
inductive XE where
 | pure (e:ME)
 | call (f:Nat) (mask:List Bool) (es:List ME)
 | pop (i:Nat)
 | bin (op:Op2) (a:XE) (b:ME)
 | fn (g:Nat) (a:XE) (es:List ME)
 | tup (xs:List XE)
 | tupOf (a:XE)
 | lst (xs:List XE)
 | fn2 (g:Nat) (e:ME) (a:XE)
 | compS (src:ME) (js:List Nat) (k:SK) (e:ME) (f:Nat) (mask:List Bool) (es:List ME)
 deriving Inhabited
noncomputable def A6(i:Nat)(W:Rho):Option (PV×Rho):=match gi (W[i]?).join with
 |some (.p ns)=>(ns.getLast?).map λn=>(.int n,fj W i (.p ns.dropLast))
 | _=>none
mutual
noncomputable def evX(cal:Cal):XE->Rho->Option (PV×Rho)
 | .pure e,W=>(ev cal e W).map λv=>(v,W)
 | .call f mask es,W=>rg cal f mask es W
 | .pop i,W=>A6 i W
 | .bin op a b,W=>(evX cal a W).bind λp=>(ev cal b p.2).bind λy=>(dQ op p.1 y).map λr=>(r,p.2)
 | .fn g a es,W=>(evX cal a W).bind λp=>(evA cal es p.2).bind λvs=>(cal g (.val p.1::vs)).map λr=>(r,p.2)
 | .tup xs,W=>(evXs cal xs W).bind λp=>if p.1.length<=10000 then some (.tup p.1,p.2)else none
 | .lst xs,W=>(evXs cal xs W).bind λp=>if p.1.length<=10000 then some (.lst p.1,p.2)else none
 | .fn2 g e a,W=>(ev cal e W).bind λw=>(evX cal a W).bind λp=>(cal g [.val w,.val p.1]).map λr=>(r,p.2)
 | .tupOf a,W=>(evX cal a W).bind λp=>(aG .tupleOf [p.1]).map λr=>(r,p.2)
 | .compS src js k e f mask es,W=>(evs cal [src] W).bind λvs=>(aW .seq vs).bind λxs=>if xs.length<=10000 then(dq cal js k e f mask es xs W).map λp=>(.lst p.1,p.2)else none
noncomputable def evXs(cal:Cal):List XE->Rho->Option (List PV×Rho)
 | [],W=>some ([],W)
 |x::xs,W=>(evX cal x W).bind λp=>(evXs cal xs p.2).map λq=>(p.1::q.1,q.2)
end
set_option genInjectivity false in
inductive MS where
 | set (i:Nat) (e:ME)
 | setOwn (i:Nat) (e:ME)
 | freeze (i:Nat)
 | append (i:Nat) (e:ME)
 | extend (i:Nat) (e:ME)
 | popAt (i:Nat) (k:ME)
 | setIdx (i:Nat) (k v:ME)
 | unpack (is:List Nat) (e:ME)
 | expr (e:ME)
 | ite (c:ME) (a b:List MS)
 | for1 (i:Nat) (k:Sk) (src:List ME) (body:List MS)
 | forT (is:List Nat) (k:Sk) (src:List ME) (body:List MS)
 | while (n:Nat) (c:ME) (body:List MS)
 | ret (e:ME)
 | retOwn (i:Nat)
 | retN
 | brk
 | cont
 | pass
 | never
 | newD (m:Bool) (i:Nat)
 | retM (e:ME)
 | retF (e:ME)
 | setCall (i f:Nat) (es:List ME)
 | clear (i:Nat)
 | setP (i:Nat) (e:ME)
 | setX (i:Nat) (x:XE)
 | appX (i:Nat) (x:XE)
 | retXE (x:XE)
 | forX (i:Nat) (x:XE) (body:List MS)
 | dput (i:Nat) (k v:ME)
 deriving Inhabited
inductive R where
 | next (W:Rho)|brk (W:Rho)|cont (W:Rho)|ret (v:PV)|bad
 | retF (xs:List PV)
 | retM (v:PV) (W:Rho)
 deriving Inhabited
noncomputable def R.andThen:R->(Rho->R)->R
 | .next W,k=>k W
 |r,_=>r
noncomputable def put(W:Rho)(i:Nat)(v:MV):Rho:=W.set i (some v)
noncomputable def dS(o:Option PV)(k:PV->R):R:=match o with
 |some v=>k v
 |none=>.bad
noncomputable def yz(o:Option Bool)(k:Bool->R):R:=match o with
 |some v=>k v
 |none=>.bad
noncomputable def mP:List Nat->List PV->Rho->Option Rho
 | [],[],W=>some W
 |i::is,v::vs,W=>mP is vs (put W i (.val v))
 | _,_,_=>none
noncomputable def cW(is:List Nat):PV->Rho->Option Rho
 | .tup vs,W=>mP is vs W
 | _,_=>none
noncomputable def cA(o:Option Rho)(f:Rho->R):R:=match o with
 |some W=>f W
 |none=>.bad
noncomputable def aw(body:PV->Rho->R):List PV->Rho->R
 | [],W=>.next W
 |x::r,W=>match body x W with
  | .next l=>aw body r l
  | .cont l=>aw body r l
  | .brk l=>.next l
  | .ret v=>.ret v
  | .bad=>.bad
  | .retF xs=>.retF xs
  | .retM v l=>.retM v l
noncomputable def pV(c:Rho->Option Bool)(body:Rho->R):Nat->Rho->R
 |0,_=>.bad
 |n+1,W=>match c W with
  |none=>.bad
  |some false=>.next W
  |some true=>match body W with
   | .next l=>pV c body n l
   | .cont l=>pV c body n l
   | .brk l=>.next l
   | .ret v=>.ret v
   | .bad=>.bad
   | .retF xs=>.retF xs
   | .retM v l=>.retM v l
noncomputable def bh(src:List ME)(W:Rho):Rho:=match src with
 | [.bor i]=>(match (W[i]?).join with|some (.own xs)=>put W i (.brw xs)|_=>W)
 | _=>W
noncomputable def aJ(src:List ME)(z W:Rho):Rho:=match src with
 | [.bor i]=>(match (z[i]?).join,(W[i]?).join with|some (.own _),some (.brw xs)=>put W i (.own xs)|_,_=>W)
 | _=>W
noncomputable def R.back(src:List ME)(z:Rho):R->R
 | .next W=>.next (aJ src z W)
 | .brk W=>.brk (aJ src z W)
 | .cont W=>.cont (aJ src z W)
 | .retM v W=>.retM v (aJ src z W)
 |r=>r
mutual
noncomputable def ex(cal:Cal):MS->Rho->R
 | .set i e,W=>dS (ev cal e W) λv=>.next (put W i (.val v))
 | .setOwn i e,W=>dS (ev cal e W) λv=>match v with|.lst xs=>.next (put W i (.own xs))|_=>.bad
 | .freeze i,W=>match (W[i]?).join with|some (.own xs)=>.next (put W i (.val (.lst xs)))|some _=>.next W|none=>.bad
 | .append i e,W=>dS (ev cal e W) λv=>match (W[i]?).join with
  |some (.own xs)=>if xs.length<10000 then .next (put W i (.own (xs++[v])))else .bad
  | _=>.bad
 | .extend i e,W=>dS (ev cal e W) λv=>match (W[i]?).join,aX v with
  |some (.own xs),some ys=>if xs.length+ys.length<=10000 then .next (put W i (.own (xs++ys)))else .bad
  | _,_=>.bad
 | .popAt i k,W=>dS (ev cal k W) λk=>match (W[i]?).join,k with
  |some (.own xs),.int j=>if 0<=j/\j<xs.length/\xs.length<=10000 then .next (put W i (.own (xs.eraseIdx j.toNat)))else .bad
  | _,_=>.bad
 | .setIdx i k v,W=>dS (ev cal v W) λv=>dS (ev cal k W) λk=>match (W[i]?).join,k with
  |some (.own xs),.int k=>(match place xs.length k with|some j=>.next (put W i (.own (xs.set j v)))|none=>.bad)
  | _,_=>.bad
 | .unpack is e,W=>dS (ev cal e W) λv=>cA (cW is v W) .next
 | .expr e,W=>dS (ev cal e W) λ_=>.next W
 | .ite c a b,W=>yz (evB cal c W) λk=>if k=true then exs cal a W else exs cal b W
 | .for1 i k src body,W=>match (evs cal src W).bind (aW k)with
  |some xs=>(aw (λx l=>exs cal body (put l i (.val x))) xs (bh src W)).back src W
  |none=>.bad
 | .forT is k src body,W=>match (evs cal src W).bind (aW k)with
  |some xs=>(aw (λx l=>cA (cW is x l) λz=>exs cal body z) xs (bh src W)).back src W
  |none=>.bad
 | .while n c body,W=>pV (evB cal c) (λl=>exs cal body l) n W
 | .ret e,W=>dS (ev cal e W) .ret
 | .retOwn i,W=>match (W[i]?).join with|some (.own xs)=>.ret (.lst xs)|some (.ownD kvs)=>if rf kvs=true then .ret (.dI kvs)else .bad|some (.val v)=>.ret v|_=>.bad
 | .newD m i,W=>.next (put W i (.ownD (if m=true then .t []else .k [])))
 | .dput i k v,W=>dS (ev cal v W) λv=>dS (ev cal k W) λk=>match (W[i]?).join,sc? v with
  |some (.ownD d),some s=>match oj d k s with|some d'=>.next (put W i (.ownD d'))|none=>.bad
  |some (.mutD d),some s=>match oj d k s with|some d'=>.next (put W i (.mutD d'))|none=>.bad
  | _,_=>.bad
 | .retM e,W=>dS (ev cal e W) λv=>.retM v W
 | .retF e,W=>dS (ev cal e W) λv=>match v with|.lst xs=>.retF xs|_=>.bad
 | .setCall i f es,W=>dS ((evA cal es W).bind λvs=>cal (f+1000) vs) λv=>match v with|.lst xs=>.next (put W i (.own xs))|_=>.bad
 | .clear i,W=>match (W[i]?).join with|some (.own _)=>.next (put W i (.own []))|_=>.bad
 | .setP i e,W=>match ev cal e W with
  |some (.lst xs)=>(match bf xs with
   |some ns=>.next (put W i (.ownD (.p ns.reverse)))
   |none=>.bad)
  | _=>.bad
 | .setX i x,W=>match evX cal x W with
  |some (v,l)=>.next (put l i (.val v))
  |none=>.bad
 | .appX i x,W=>match (W[i]?).join with
  |some (.own _)=>(match evX cal x W with
   |some (v,l)=>(match (l[i]?).join with
    |some (.own xs)=>if xs.length<10000 then .next (put l i (.own (xs++[v])))else .bad
    | _=>.bad)
   |none=>.bad)
  | _=>.bad
 | .retXE x,W=>match evX cal x W with
  |some (v,l)=>.retM v l
  |none=>.bad
 | .forX i x body,W=>match evX cal x W with
  |some (v,l)=>(match aW .rng [v]with
   |some xs=>aw (λy z=>exs cal body (put z i (.val y))) xs l
   |none=>.bad)
  |none=>.bad
 | .retN,_=>.ret .non
 | .brk,W=>.brk W
 | .cont,W=>.cont W
 | .pass,W=>.next W
 | .never,_=>.bad
noncomputable def exs(cal:Cal):List MS->Rho->R
 | [],W=>.next W
 |s::ss,W=>(ex cal s W).andThen λl=>exs cal ss l
end
structure MD where
 name:Str
 params:List Str
 names:List Str
 body:List MS
 deriving Inhabited
noncomputable def d5:List MV->Rho->Option (List PV)
 | [],_=>some []
 | .mutD _::as,some (.mutD d)::W=>(d5 as W).map (.dI d::·)
 | .val _::as,_::W=>d5 as W
 | _,_=>none
noncomputable def aa(ds:List MD):Nat->Cal
 |0,_,_=>none
 |n+1,f,args=>match ds[f]? with
  |none=>if 2000<=f then(
   match ds[f-2000]? with
   |none=>none
   |some d=>if args.length=d.params.length then
     (match exs (aa ds n) d.body (args.map some++replicate (d.names.length-args.length) none)with
     | .retM v W=>(d5 args W).map λds=>.tup (v::ds)
     | _=>none)else none)else
   (match ds[f-1000]? with
   |none=>none
   |some d=>if args.length=d.params.length then
     (match exs (aa ds n) d.body (args.map some++replicate (d.names.length-args.length) none)with
     | .retF xs=>some (.lst xs)
     | _=>none)else none)
  |some d=>if args.length=d.params.length then
    (match exs (aa ds n) d.body (args.map some++replicate (d.names.length-args.length) none)with
    | .next _=>some .non
    | .ret v=>some v
    | .retF xs=>some (.lst xs)
    | _=>none)else none
end MM
namespace MM
open PySem PySem.Spec PyProof.Rows L2 List Option
noncomputable abbrev St:=L2.St
noncomputable def az(H:Hp)(O:List Addr):Hp:=λb=>if b∈O then none else H b
def eG(h:b∈O):az H O b=none:=if_pos h
def ba(h:b∉O):az H O b=H b:=if_neg h
theorem aj.rd(s:aj H H')(h:Rd H a u):Rd H' a u:=h.elim (λe=>.inl (s a _ e)) λ⟨o,e⟩=>.inr ⟨o,s a _ e⟩
def bW(H)(O):aj (az H O) H:=λb u e=>by
 unfold az at e
 simp_all
def ce(s:aj H H')(h:∀b∈U,b∈O\/H b=none):aj (az H O) (az H' U):=λb u e=>by
 have J:b∉O:=λz=>by rw[eG z]at e;cases e
 rw[ba J]at e;rw[ba]
 .exact s b u e
 .intro z;rcases h b z with q|q
  .exact J q
  .rw[q]at e;cases e
def ak(s:aj H H'):aj (az H O) (az H' O):=ce s λ_ h=>.inl h
noncomputable def Sc.v:Sc->V
 | .non=>.non
 | .bl b=>.bl b
 | .int i=>.int i
 | .str x=>.str x
noncomputable def iu(kvs:List (Int×Sc)):List (Key×V):=kvs.map λp=>(Sum.inl p.1,p.2.v)
noncomputable def jk(kvs:List (List Int×Sc)):List (List Key×V):=kvs.map λp=>(p.1.map Sum.inl,p.2.v)
noncomputable def iw:DD->HO
 | .k kvs=>.dK (iu kvs)
 | .t kvs=>.dT (jk kvs)
 | .p ns=>.lst (ns.map V.int)
def RdD(F:Hp)(a:Addr)(d:DD):Prop:=Rd F a (iw d)/\rf d=true
theorem RdD.rd(h:RdD F a d):Rd F a (iw d):=h.1
theorem aj.rdD(s:aj H H')(h:RdD H a d):RdD H' a d:=⟨aj.rd s h.1,h.2⟩
mutual
noncomputable def Rep(K:L8)(F:Hp):PV->V->Prop
 | .non,u=>u=.non
 | .bl b,u=>u=.bl b
 | .int i,u=>u=.int i
 | .str x,u=>u=.str x
 | .tup xs,u=>∃a us,u=.ref a/\F a=some (.tup us)/\Reps K F xs us
 | .lst xs,u=>∃a us,u=.ref a/\SqL K F a us/\Reps K F xs us
 | .dI kvs,u=>∃a,u=.ref a/\RdD F a kvs
noncomputable def Reps(K:L8)(F:Hp):List PV->List V->Prop
 | [],us=>us=[]
 |x::xs,us=>∃u r,us=u::r/\Rep K F x u/\Reps K F xs r
end
section
variable{K:L8}{F F':Hp}
mutual
theorem Rep.mono(s:aj F F'):∀(x:PV) {u:V},Rep K F x u->Rep K F' x u
 | .non,_,h=>by simpa only[Rep]using h
 | .bl _,_,h=>by simpa only[Rep]using h
 | .int _,_,h=>by simpa only[Rep]using h
 | .str _,_,h=>by simpa only[Rep]using h
 | .tup xs,_,h=>by
  rw[Rep]at h ⊢;obtain⟨a,us,e,q,r⟩:=h;exact⟨a,us,e,s a _ q,Reps.mono s xs r⟩
 | .lst xs,_,h=>by
  rw[Rep]at h ⊢;obtain⟨a,us,e,q,r⟩:=h;exact⟨a,us,e,s.seq q,Reps.mono s xs r⟩
 | .dI kvs,_,h=>by
  rw[Rep]at h ⊢;obtain⟨a,e,q⟩:=h;exact⟨a,e,aj.rdD s q⟩
theorem Reps.mono(s:aj F F'):∀(xs:List PV) {us:List V},Reps K F xs us->Reps K F' xs us
 | [],_,h=>by simpa only[Reps]using h
 |x::xs,_,h=>by
  rw[Reps]at h ⊢;obtain⟨u,r,e,q,t⟩:=h;exact⟨u,r,e,Rep.mono s x q,Reps.mono s xs t⟩
end
theorem Reps.nil:Reps K F [] []:=rfl
theorem Reps.cons{u:V}{us:List V}(h:Rep K F x u)(t:Reps K F xs us):Reps K F (x::xs) (u::us):=by
 rw[Reps];exact⟨u,us,rfl,h,t⟩
theorem Reps.length:∀{xs}{us},Reps K F xs us->xs.length=us.length
 | [],_,h=>by rw[Reps]at h;subst h;rfl
 |x::xs,_,h=>by
  obtain⟨u,r,e,_,t⟩:=h;subst e;simp[Reps.length t]
theorem Reps.get:∀{xs}{us}{i:Nat}{x},Reps K F xs us->xs[i]?=some x->∃u,us[i]?=some u/\Rep K F x u
 | [],_,_,_,_,e=>by simp at e
 |x::xs,_,i,y,h,e=>by
  obtain⟨u,r,rfl,q,t⟩:=h;cases i with
  |zero=>simp at e;subst e;exact⟨u,by simp,q⟩
  |succ i=>obtain⟨w,h1,h2⟩:=Reps.get (i:=i) t (by simpa using e);exact⟨w,by simpa using h1,h2⟩
theorem Reps.get':∀{xs}{us}{i:Nat}{u},Reps K F xs us->us[i]?=some u->∃x,xs[i]?=some x/\Rep K F x u
 | [],_,i,_,h,e=>by rw[Reps]at h;subst h;simp at e
 |x::xs,_,i,y,h,e=>by
  obtain⟨u,r,rfl,q,t⟩:=h;cases i with
  |zero=>simp at e;subst e;exact⟨x,by simp,q⟩
  |succ i=>obtain⟨w,h1,h2⟩:=Reps.get' (i:=i) t (by simpa using e);exact⟨w,by simpa using h1,h2⟩
theorem Reps.append:∀{xs ys}{us z},Reps K F xs us->Reps K F ys z->Reps K F (xs++ys) (us++z)
 | [],_,_,_,h,g=>by rw[Reps]at h;subst h;exact g
 |x::xs,_,_,_,h,g=>by
  obtain⟨u,r,rfl,q,t⟩:=h;exact .cons q (Reps.append t g)
theorem Reps.snoc(h:Reps K F xs us)(g:Rep K F x u):Reps K F (xs++[x]) (us++[u]):=h.append (.cons g .nil)
theorem Reps.take:∀{xs}{us} n,Reps K F xs us->Reps K F (xs.take n) (us.take n)
 | _,_,0,_=>by simpa using Reps.nil
 | [],_,n+1,h=>by rw[Reps]at h;subst h;simpa using Reps.nil
 |x::xs,_,n+1,h=>by
  obtain⟨u,r,rfl,q,t⟩:=h;exact .cons q (Reps.take n t)
theorem Reps.drop:∀{xs}{us} n,Reps K F xs us->Reps K F (xs.drop n) (us.drop n)
 | _,_,0,h=>h
 | [],_,n+1,h=>by rw[Reps]at h;subst h;simpa using Reps.nil
 |x::xs,_,n+1,h=>by
  obtain⟨u,r,rfl,q,t⟩:=h;exact Reps.drop n t
theorem Reps.set:∀{xs}{us}{x}{u} n,Reps K F xs us->Rep K F x u->Reps K F (xs.set n x) (us.set n u)
 | [],_,_,_,n,h,_=>by rw[Reps]at h;subst h;simpa using Reps.nil
 |x::xs,_,_,_,0,h,g=>by
  obtain⟨u,r,rfl,q,t⟩:=h;exact .cons g t
 |x::xs,_,_,_,n+1,h,g=>by
  obtain⟨u,r,rfl,q,t⟩:=h;exact .cons q (Reps.set n t g)
theorem Reps.dropLast(h:Reps K F xs us):Reps K F xs.dropLast us.dropLast:=by
 rw[dropLast_eq_take,dropLast_eq_take,<- h.length];exact h.take _
theorem Reps.ints:∀{ns:List Int}{us},Reps K F (ns.map .int) us->us=ns.map V.int
 | [],_,h=>by simpa[Reps]using h
 |n::ns,_,h=>by
  obtain⟨u,r,rfl,q,t⟩:=h;rw[q,Reps.ints t];rfl
theorem Reps.of_ints:∀(ns:List Int),Reps K F (ns.map .int) (ns.map V.int)
 | []=>.nil
 |n::ns=>.cons (by rw[Rep]) (Reps.of_ints ns)
theorem dU:∀{xs}{ns},bf xs=some ns->xs=ns.map .int
 | [],_,h=>by simp[bf]at h;subst h;rfl
 | .int i::r,ns,h=>by
  simp[bf]at h;obtain⟨ms,h1,rfl⟩:=h;rw[dU h1];rfl
 | .non::_,_,h=>by simp[bf]at h
 | .bl _::_,_,h=>by simp[bf]at h
 | .str _::_,_,h=>by simp[bf]at h
 | .tup _::_,_,h=>by simp[bf]at h
 | .lst _::_,_,h=>by simp[bf]at h
 | .dI _::_,_,h=>by simp[bf]at h
theorem rh:∀{xs}{ns},f_ xs=some ns->xs=ns.map λt=>.tup (t.map .int)
 | [],_,h=>by simp[f_]at h;subst h;rfl
 | .tup i::r,ns,h=>by
  simp[f_,gf]at h;obtain⟨t,z,ms,h1,rfl⟩:=h;rw[rh h1,dU z];rfl
 | .non::_,_,h=>by simp[f_]at h
 | .bl _::_,_,h=>by simp[f_]at h
 | .str _::_,_,h=>by simp[f_]at h
 | .int _::_,_,h=>by simp[f_]at h
 | .lst _::_,_,h=>by simp[f_]at h
 | .dI _::_,_,h=>by simp[f_]at h
theorem kD:∀{xs}{ns},cU xs=some ns->xs=ns.map .bl
 | [],_,h=>by simp[cU]at h;subst h;rfl
 | .bl i::r,ns,h=>by
  simp[cU]at h;obtain⟨ms,h1,rfl⟩:=h;rw[kD h1];rfl
 | .non::_,_,h=>by simp[cU]at h
 | .int _::_,_,h=>by simp[cU]at h
 | .str _::_,_,h=>by simp[cU]at h
 | .tup _::_,_,h=>by simp[cU]at h
 | .lst _::_,_,h=>by simp[cU]at h
 | .dI _::_,_,h=>by simp[cU]at h
end
def d6{K:L8}{H:Hp}{a:Addr}{us:List V}(h:H a=some (.tup us)):SqT K H a us:=SqT.of h
def bK(K:L8)(H:Hp)(O:List Addr)(v:PV)(u:V):Prop:=
 Rep K (az H O) v u\/(∃xs a us,v=.lst xs/\u=.ref a/\SqL K H a us/\Reps K (az H O) xs us)\/∃kvs a,v=.dI kvs/\u=.ref a/\RdD H a kvs
section
variable{K:L8}{H H':Hp}{O:List Addr}
theorem bK.of(h:Rep K (az H O) v u):bK K H O v u:=.inl h
theorem bK.mono(s:aj H H')(h:bK K H O v u):bK K H' O v u:=by
 rcases h with h|⟨xs,a,us,z,J,q,r⟩|⟨kvs,a,z,J,q⟩
 .exact .inl (Rep.mono (ak s) _ h)
 .exact .inr (.inl ⟨xs,a,us,z,J,s.seq q,Reps.mono (ak s) _ r⟩)
 .exact .inr (.inr ⟨kvs,a,z,J,aj.rdD s q⟩)
theorem bK.lst(h:bK K H O (.lst xs) u):∃a us,u=.ref a/\SqL K H a us/\Reps K (az H O) xs us:=by
 rcases h with h|⟨ys,a,us,z,J,q,r⟩|⟨kvs,a,z,J,q⟩
 .rw[Rep]at h;obtain⟨a,us,e,q,r⟩:=h;exact⟨a,us,e,(bW H O).seq q,r⟩
 .cases z;exact⟨a,us,J,q,r⟩
 .cases z
def bK.tupH(h:bK K H O (.tup xs) u):∃a us,u=.ref a/\H a=some (.tup us)/\Reps K (az H O) xs us:=by
 rcases h with h|⟨ys,a,us,z,J,q,r⟩|⟨kvs,a,z,J,q⟩
 .rw[Rep]at h;obtain⟨a,us,e,q,r⟩:=h;exact⟨a,us,e,bW H O a _ q,r⟩
 .cases z
 .cases z
theorem bK.tup(h:bK K H O (.tup xs) u):∃a us,u=.ref a/\SqT K H a us/\Reps K (az H O) xs us:=by
 obtain⟨a,us,e,q,r⟩:=h.tupH;exact⟨a,us,e,SqT.of q,r⟩
def bK.tupR(h:bK K H O (.tup xs) u):Rep K (az H O) (.tup xs) u:=by
 rcases h with h|⟨ys,a,us,z,J,q,r⟩|⟨kvs,a,z,J,q⟩
 .exact h
 .cases z
 .cases z
theorem bK.dI(h:bK K H O (.dI kvs) u):∃a,u=.ref a/\RdD H a kvs:=by
 rcases h with h|⟨ys,a,us,z,J,q,r⟩|⟨kvs,a,z,J,q⟩
 .rw[Rep]at h;obtain⟨a,e,q⟩:=h;exact⟨a,e,aj.rdD (bW H O) q⟩
 .cases z
 .simp_all
theorem bK.int(h:bK K H O (.int i) u):u=.int i:=by
 rcases h with h|⟨ys,a,us,z,J,q,r⟩|⟨kvs,a,z,J,q⟩
 .rw[Rep]at h;exact h
 .cases z
 .cases z
theorem bK.bl(h:bK K H O (.bl i) u):u=.bl i:=by
 rcases h with h|⟨ys,a,us,z,J,q,r⟩|⟨kvs,a,z,J,q⟩
 .rw[Rep]at h;exact h
 .cases z
 .cases z
theorem bK.str(h:bK K H O (.str i) u):u=.str i:=by
 rcases h with h|⟨ys,a,us,z,J,q,r⟩|⟨kvs,a,z,J,q⟩
 .rw[Rep]at h;exact h
 .cases z
 .cases z
theorem bK.non(h:bK K H O .non u):u=.non:=by
 rcases h with h|⟨ys,a,us,z,J,q,r⟩|⟨kvs,a,z,J,q⟩
 .rw[Rep]at h;exact h
 .cases z
 .cases z
theorem bK.seq(h:bK K H O v u)(e:aX v=some xs):∃a us,u=.ref a/\(SqL K H a us\/SqT K H a us)/\Reps K (az H O) xs us:=by
 cases v<;>first|(simp[aX]at e;subst e;obtain⟨a,us,e,q,r⟩:=h.lst;exact⟨a,us,e,.inl q,r⟩)|(simp[aX]at e;subst e;obtain⟨a,us,e,q,r⟩:=h.tup;exact⟨a,us,e,.inr q,r⟩)|simp[aX]at e
def bK.whole(h:bK K H O v u):Rep K H v u:=by
 rcases h with h|⟨xs,a,us,rfl,z,q,r⟩|⟨kvs,a,rfl,z,q⟩
 .exact Rep.mono (bW H O) _ h
 .rw[Rep];exact⟨a,us,z,q,Reps.mono (bW H O) _ r⟩
 .rw[Rep];exact⟨a,z,q⟩
end
abbrev DAt(_:L8)(H:Hp)(_:List Addr)(a:Addr)(d:DD):Prop:=H a=some (iw d)
theorem DAt.here{K:L8}(h:DAt K H O a d):∃o,H a=some o:=⟨_,h⟩
theorem DAt.put1{K:L8}(_:oj d y s=some d')(h:DAt K H O a d):H a=some (iw d):=h
theorem DAt.put2{K:L8}{H:Hp}{O:List Addr}{a:Addr}{d d':DD}{y:PV}{s:Sc}(_:oj d y s=some d')(h:H a=some (iw d')):DAt K H O a d':=h
theorem DAt.np{K:L8}(h:DAt K H O a d)(_:rf d=true):H a=some (iw d):=h
theorem DAt.move{K:L8}{H H':Hp}{O z:List Addr}{a:Addr}{d:DD}(h:DAt K H O a d)(e:∀o,H a=some o->H' a=some o)(_:aj (az H O) (az H' z)):DAt K H' z a d:=e _ h
def eV(K:L8)(B:Hp)(O:List Addr)(H:Hp):MV->V->Prop
 | .val v,u=>Rep K (az H O) v u
 | .own xs,u=>∃a us,u=.ref a/\H a=some (.lst us)/\Reps K (az H O) xs us/\a∈O/\B a=none
 | .brw xs,u=>∃a us,u=.ref a/\SqL K B a us/\Reps K (az H O) xs us
 | .ownD kvs,u=>∃a,u=.ref a/\DAt K H O a kvs/\a∈O/\B a=none
 | .mutD kvs,u=>∃a,u=.ref a/\DAt K H O a kvs/\a∈O/\B a=none
 | .brwD kvs,u=>∃a,u=.ref a/\Rd B a (iw kvs)
noncomputable def ix:MV->Bool
 | .own _=>true
 | .ownD _=>true
 | .mutD _=>true
 | _=>false
structure aH(K:L8)(B:Hp)(E O:List Addr)(H:Hp)(W:Rho)(σ:St):Prop where
 keep:aj B H
 here:∀a∈O,H a≠none
 sub:∀a∈E,a∈O
 old:∀a∈E,B a≠none
 len:W.length=σ.length
 slot:∀(i:Nat) (m:MV),W[i]?=some (some m)->∃u,σ[i]?=some (some u)/\eV K B O H m u
 apart:∀(i j:Nat) (m m':MV) (a:Addr),i≠j->W[i]?=some (some m)->W[j]?=some (some m')->ix m=true->ix m'=true->σ[i]?=some (some (.ref a))->σ[j]?≠some (some (.ref a))
section
variable{K:L8}{B H H':Hp}{E O:List Addr}{W:Rho}{σ:St}
theorem eV.mono(s:aj H H')(h:eV K B O H m u):eV K B O H' m u:=by
 cases m with
 |val v=>exact Rep.mono (ak s) _ h
 |own xs=>obtain⟨a,us,e,q,r,h1,h2⟩:=h;exact⟨a,us,e,s _ _ q,Reps.mono (ak s) _ r,h1,h2⟩
 |brw xs=>obtain⟨a,us,e,q,r⟩:=h;exact⟨a,us,e,q,Reps.mono (ak s) _ r⟩
 |brwD kvs=>exact h
 | _=>obtain⟨a,e,q,h1,h2⟩:=h;exact⟨a,e,q.move (s _) (ak s),h1,h2⟩
theorem aH.mono(s:aj H H')(h:aH K B E O H W σ):aH K B E O H' W σ where
 keep:=h.keep.trans s
 here:=λa z e=>h.here a z (s.free e)
 sub:=h.sub
 old:=h.old
 len:=h.len
 slot:=λi m e=>let ⟨u,J,q⟩:=h.slot i m e;⟨u,J,q.mono s⟩
 apart:=h.apart
theorem eV.bor(z:aj B H)(h:eV K B O H m u)(e:bA (some m)=some v):bK K H O v u:=by
 cases m with
 |val w=>simp[bA]at e;subst e;exact .inl h
 |own xs=>simp[bA]at e;subst e;obtain⟨a,us,e,q,r,_⟩:=h;exact .inr (.inl ⟨xs,a,us,rfl,e,SqL.of q,r⟩)
 |brw xs=>simp[bA]at e;subst e;obtain⟨a,us,e,q,r⟩:=h;exact .inr (.inl ⟨xs,a,us,rfl,e,z.seq q,r⟩)
 |ownD kvs|mutD kvs=>simp[bA]at e;obtain⟨np,rfl⟩:=e;obtain⟨a,e,q,_⟩:=h;exact .inr (.inr ⟨kvs,a,rfl,e,.inl (q.np np),np⟩)
 |brwD kvs=>simp[bA]at e;obtain⟨np,rfl⟩:=e;obtain⟨a,e,q⟩:=h;exact .inr (.inr ⟨kvs,a,rfl,e,aj.rd z q,np⟩)
end
def join_some{α:Type}{o:Option (Option α)}{x:α}(h:o.join=some x):o=some (some x):=by
 cases o<;>simp_all
def u7(h:bA (some (.ownD d))=some v):v=.dI d:=by simp_all [bA]
def u8(h:bA (some (.brwD d))=some v):v=.dI d:=by simp_all [bA]
def u9(h:bA (some (.mutD d))=some v):v=.dI d:=by simp_all [bA]
structure Tab where
 fs:List Str
 gs:List (Str×PV)
 ds:List (List Sc)
noncomputable def Dy(sc:Scope)(x:Str):Bool:=sc.names.lookup x==some .local||sc.names.lookup x==some .cell||sc.names.lookup x==some .free
noncomputable def gj(sc:Scope)(x:Str):Bool:=sc.names.lookup x==some .local||sc.names.lookup x==some .cell
noncomputable def glB(sc:Scope)(x:Str):Bool:=sc.names.lookup x==some .globalImplicit
noncomputable def aq (x:Str):Bool:=!(x==("__debug__":Str))&&!(x==("__classdict__":Str))&&!(x==("__name__":Str))
noncomputable def aS(N:List Str)(sc:Scope)(i:Nat)(x:Str):Bool:=N[i]?==some x&&Dy sc x&&aq x
noncomputable def onQ{α:Type}:Option α->(α->Bool)->Bool
 |some a,f=>f a
 |none,_=>false
def am(h:onQ o f=true):∃a,o=some a/\f a=true:=by
 cases o with
 |none=>cases h
 |some a=>exact⟨a,rfl,h⟩
def bX{α z:Type}{o:Option α}{f:α->Option z}{b:z}(h:o.bind f=some b):∃a,o=some a/\f a=some b:=gf.mp h
noncomputable def okQ{α:Type}(b:Bool)(x:α):Option α:=if b=true then some x else none
def jl(h:okQ b x=some y):b=true/\x=y:=by
 cases b with
 |false=>cases h
 |true=>cases h;exact⟨rfl,rfl⟩
noncomputable def jm{α:Type}:List α->Option α
 | [x]=>some x
 | _=>none
def cO(h:jm l=some x):l=[x]:=by
 rcases l with _|⟨a,_|⟨b,l⟩⟩<;>cases h
 rfl
noncomputable def yA{α:Type}:List α->Option (α×α)
 | [x,y]=>some (x,y)
 | _=>none
def lS(h:yA l=some q):l=[q.1,q.2]:=by
 rcases l with _|⟨a,_|⟨b,_|⟨c,l⟩⟩⟩<;>cases h
 rfl
noncomputable def nmP:Expr->Option (Str×Pos)
 | .Name x p=>some (x,p)
 | _=>none
def d7(h:nmP e=some q):e=.Name q.1 q.2:=by
 cases e<;>cases h
 rfl
noncomputable def caP:Expr->Option (Expr×List Expr×List Keyword×Pos)
 | .Call f as ks p=>some (f,as,ks,p)
 | _=>none
def yB(h:caP e=some q):e=.Call q.1 q.2.1 q.2.2.1 q.2.2.2:=by
 cases e<;>cases h
 rfl
noncomputable def atP:Expr->Option (Expr×Str×Pos)
 | .Attribute o m p=>some (o,m,p)
 | _=>none
def Dz(h:atP e=some q):e=.Attribute q.1 q.2.1 q.2.2:=by
 cases e<;>cases h
 rfl
noncomputable def biP:Expr->Option (Expr×Operator×Expr×Pos)
 | .BinOp l o r p=>some (l,o,r,p)
 | _=>none
def pW(h:biP e=some q):e=.BinOp q.1 q.2.1 q.2.2.1 q.2.2.2:=by
 cases e<;>cases h
 rfl
noncomputable def suP:Expr->Option (Expr×Expr×Pos)
 | .Subscript v s p=>some (v,s,p)
 | _=>none
def mQ(h:suP e=some q):e=.Subscript q.1 q.2.1 q.2.2:=by
 cases e<;>cases h
 rfl
noncomputable def lcP:Expr->Option (Expr×List Comprehension×Scope×Pos)
 | .ListComp e g s p=>some (e,g,s,p)
 | _=>none
def tz(h:lcP e=some q):e=.ListComp q.1 q.2.1 q.2.2.1 q.2.2.2:=by
 cases e<;>cases h
 rfl
noncomputable def coP:Expr->Option (Expr×List CmpOp×List Expr×Pos)
 | .Compare l o r p=>some (l,o,r,p)
 | _=>none
def DA(h:coP e=some q):e=.Compare q.1 q.2.1 q.2.2.1 q.2.2.2:=by
 cases e<;>cases h
 rfl
noncomputable def ctP:Expr->Option (Const×Nat×Pos)
 | .Constant c j p=>some (c,j,p)
 | _=>none
def yC(h:ctP e=some q):e=.Constant q.1 q.2.1 q.2.2:=by
 cases e<;>cases h
 rfl
noncomputable def tuP:Expr->Option (List Expr×Nat×Pos)
 | .Tuple xs j p=>some (xs,j,p)
 | _=>none
def tD(h:tuP e=some q):e=.Tuple q.1 q.2.1 q.2.2:=by
 cases e<;>cases h
 rfl
noncomputable def liP:Expr->Option (List Expr×Pos)
 | .List xs p=>some (xs,p)
 | _=>none
def tG(h:liP e=some q):e=.List q.1 q.2:=by
 cases e<;>cases h
 rfl
noncomputable def unP:Expr->Option (UnaryOp×Expr×Pos)
 | .UnaryOp o e p=>some (o,e,p)
 | _=>none
def DB(h:unP e=some q):e=.UnaryOp q.1 q.2.1 q.2.2:=by
 cases e<;>cases h
 rfl
noncomputable def boP:Expr->Option (BoolOp×List Expr×Pos)
 | .BoolOp o vs p=>some (o,vs,p)
 | _=>none
def yD(h:boP e=some q):e=.BoolOp q.1 q.2.1 q.2.2:=by
 cases e<;>cases h
 rfl
noncomputable def ifP:Expr->Option (Expr×Expr×Expr×Pos)
 | .IfExp t x y p=>some (t,x,y,p)
 | _=>none
def DC(h:ifP e=some q):e=.IfExp q.1 q.2.1 q.2.2.1 q.2.2.2:=by
 cases e<;>cases h
 rfl
noncomputable def slP:Expr->Option (Option Expr×Option Expr×Option Expr×Pos)
 | .Slice l u s p=>some (l,u,s,p)
 | _=>none
def DE(h:slP e=some q):e=.Slice q.1 q.2.1 q.2.2.1 q.2.2.2:=by
 cases e<;>cases h
 rfl
noncomputable def asP:Stmt->Option (List Expr×Expr×Pos)
 | .Assign z v p=>some (z,v,p)
 | _=>none
def yE(h:asP s=some q):s=.Assign q.1 q.2.1 q.2.2:=by
 cases s<;>cases h
 rfl
noncomputable def rj(e:Expr):Option (Str×List Expr):=(caP e).bind λc=>(nmP c.1).bind λx=>okQ c.2.2.1.isEmpty (x.1,c.2.1)
def fC(h:rj e=some q):∃p cp,e=.Call (.Name q.1 p) q.2 [] cp:=by
 obtain⟨c,h1,h⟩:=bX h;obtain⟨x,h2,h⟩:=bX h;obtain⟨z,rfl⟩:=jl h;exact⟨_,_,by rw[yB h1,d7 h2,Kc.mp z]⟩
noncomputable def rl(e:Expr):Option (Str×Expr):=(rj e).bind λc=>(jm c.2).bind λa=>some (c.1,a)
def gK(h:rl e=some q):∃p cp,e=.Call (.Name q.1 p) [q.2] [] cp:=by
 obtain⟨c,h1,h⟩:=bX h;obtain⟨a,h2,h⟩:=bX h;cases h;obtain⟨p,cp,rfl⟩:=fC h1;exact⟨p,cp,by rw[cO h2]⟩
noncomputable def maP(e:Expr):Option (Expr×Str×Pos×List Expr×Pos):=(caP e).bind λc=>(atP c.1).bind λa=>okQ c.2.2.1.isEmpty (a.1,a.2.1,a.2.2,c.2.1,c.2.2.2)
def tH(h:maP e=some q):e=.Call (.Attribute q.1 q.2.1 q.2.2.1) q.2.2.2.1 [] q.2.2.2.2:=by
 obtain⟨c,h1,h⟩:=bX h;obtain⟨x,h2,h⟩:=bX h;obtain⟨z,rfl⟩:=jl h;rw[yB h1,Dz h2,Kc.mp z]
noncomputable def maN(e:Expr):Option (Str×Str×Pos×List Expr×Pos):=(maP e).bind λa=>(nmP a.1).bind λx=>some (x.1,a.2.1,a.2.2.1,a.2.2.2.1,a.2.2.2.2)
def yF(h:maN e=some q):∃p,e=.Call (.Attribute (.Name q.1 p) q.2.1 q.2.2.1) q.2.2.2.1 [] q.2.2.2.2:=by
 obtain⟨c,h1,h⟩:=bX h;obtain⟨x,h2,h⟩:=bX h;cases h;exact⟨x.2,by rw[tH h1,d7 h2]⟩
noncomputable def DF(e:Expr):Option (Expr×CmpOp×Expr):=(coP e).bind λc=>(jm c.2.1).bind λo=>(jm c.2.2.1).bind λr=>some (c.1,o,r)
def u_(h:DF e=some q):∃pos,e=.Compare q.1 [q.2.1] [q.2.2] pos:=by
 obtain⟨c,h1,h⟩:=bX h;obtain⟨x,h2,h⟩:=bX h;obtain⟨y,z,h⟩:=bX h;cases h;exact⟨c.2.2.2,by rw[DA h1,cO h2,cO z]⟩
noncomputable def Gj(e:Expr):Option (Expr×Option Expr×Option Expr):=(suP e).bind λc=>(slP c.2.1).bind λs=>okQ s.2.2.1.isNone (c.1,s.1,s.2.1)
def A7(h:Gj e=some q):∃p pos,e=.Subscript q.1 (.Slice q.2.1 q.2.2 none p) pos:=by
 obtain⟨c,h1,h⟩:=bX h;obtain⟨x,h2,h⟩:=bX h;obtain⟨z,rfl⟩:=jl h;exact⟨_,_,by rw[mQ h1,DE h2,isNone_iff_eq_none.mp z]⟩
noncomputable def lcX(e:Expr):Option (Expr×Scope×(Str×Pos)×Expr×List Expr):=(lcP e).bind λc=>(jm c.2.1).bind λg=>(nmP g.target).bind λx=>okQ (g.is_async==0) (c.1,c.2.2.1,x,g.iter,g.ifs)
def yG(h:lcX e=some q):∃pos,e=.ListComp q.1 [⟨.Name q.2.2.1.1 q.2.2.1.2,q.2.2.2.1,q.2.2.2.2,0⟩] q.2.1 pos:=by
 obtain⟨c,h1,h⟩:=bX h;obtain⟨⟨tg,it,is,as⟩,h2,h⟩:=bX h;obtain⟨x,z,h⟩:=bX h;obtain⟨J,rfl⟩:=jl h;exact⟨c.2.2.2,by rw[tz h1,cO h2,d7 (e:=tg) z,show as=0 from eq_of_beq J]⟩
noncomputable def diP:Expr->Option (List (Option Expr)×List Expr×Pos)
 | .Dict ks vs p=>some (ks,vs,p)
 | _=>none
def yH(h:diP e=some q):e=.Dict q.1 q.2.1 q.2.2:=by
 cases e<;>cases h
 rfl
noncomputable def exP:Stmt->Option (Expr×Pos)
 | .Expr e p=>some (e,p)
 | _=>none
def DG(h:exP s=some q):s=.Expr q.1 q.2:=by
 cases s<;>cases h
 rfl
noncomputable def reP:Stmt->Option (Option Expr×Pos)
 | .Return v p=>some (v,p)
 | _=>none
def DH(h:reP s=some q):s=.Return q.1 q.2:=by
 cases s<;>cases h
 rfl
noncomputable def Gk:Const->Option Str
 | .str x=>some x
 | _=>none
def A8(h:Gk c=some x):c=.str x:=by
 cases c<;>cases h
 rfl
noncomputable def DI(e:Expr):Option Str:=(ctP e).bind λc=>Gk c.1
def va(h:DI e=some x):∃j p,e=.Constant (.str x) j p:=by
 obtain⟨c,h1,h⟩:=bX h;exact⟨c.2.1,c.2.2,by rw[yC h1,A8 h]⟩
noncomputable def hdQ{α:Type}:List α->Option (α×List α)
 |x::l=>some (x,l)
 | _=>none
def DJ(h:hdQ l=some q):l=q.1::q.2:=by
 cases l<;>cases h
 rfl
noncomputable def aK:ME->Bool
 | .bor _=>true
 | _=>false
noncomputable def tI:Op2->Operator
 | .add=>.Add|.sub=>.Sub|.mul=>.Mult|.fdiv=>.FloorDiv|.mod=>.Mod|.pow=>.Pow|.shr=>.RShift
noncomputable def yI:Cp->CmpOp
 | .eq=>.Eq|.ne=>.NotEq|.lt=>.Lt|.le=>.LtE|.gt=>.Gt|.ge=>.GtE|.isN=>.Is|.notN=>.IsNot|.isIn=>.In|.notIn=>.NotIn
noncomputable def tJ:PV->Const->Bool
 | .non,.none=>true
 | .bl a,.bool b=>a==b
 | .int a,.int b=>a==b
 | .str a,.str b=>a==b
 | _,_=>false
noncomputable def Ch:PV->PV->Bool
 | .non,.non=>true
 | .bl a,.bl b=>a==b
 | .int a,.int b=>a==b
 | .str a,.str b=>a==b
 | _,_=>false
noncomputable def Ci(gs:List (Str×PV))(x:Str)(v:PV):Bool:=gs.any λp=>p.1==x&&Ch p.2 v
noncomputable def ah:Expr->Bool
 | .Starred ..=>false
 | _=>true
noncomputable def eW:Expr->Bool
 | .Set ..=>false
 | _=>true
noncomputable def bv:Expr->Bool
 | .Slice ..=>false
 | _=>true
noncomputable def br:Expr->Bool
 | .ListComp ..=>false
 | .SetComp ..=>false
 | .DictComp ..=>false
 | _=>true
noncomputable def kE:Expr->Bool
 | .UnaryOp .Not _ _=>false
 | .BoolOp ..=>false
 | .IfExp ..=>false
 | .Compare ..=>false
 | _=>true
noncomputable def rm:Blt->String
 | .len=>"len" | .tupleOf=>"tuple" | .listOf=>"list" | .sorted=>"sorted" | .any=>"any" | .all=>"all" | .sum=>"sum" | .max1=>"max" | .min1=>"min" | .max2=>"max" | .min2=>"min"
 | .intOf=>"int" | .boolOf=>"bool" | .isInt=>"isinstance" | .isBool=>"isinstance" | .isStr=>"isinstance" | .isList=>"isinstance" | .isTuple=>"isinstance" | .sortedKeys=>"sorted" | .valuesOf=>"list" | .sortedSet=>"sorted" | .lenSet=>"len" | .lenSetSub=>"len" | .tupleRev=>"tuple"
noncomputable def du:Blt->Option String
 | .isInt=>some "int" | .isBool=>some "bool" | .isStr=>some "str" | .isList=>some "list" | .isTuple=>some "tuple"
 | _=>none
noncomputable def kF:Blt->Option Nat
 | .len|.tupleOf|.listOf|.sorted|.any|.all|.sum|.intOf|.boolOf|.max1|.sortedKeys=>some 1
 | .max2|.min2=>some 2
 | _=>none
noncomputable def fD(osc:Scope)(N:List Str)(scope:Scope)(x:Str)(fvs:List Str)(js:List Nat):Bool:=
 decide (∀y∈scope.names,y.2=.cell->y.1=x)&&decide (scope.names.lookup x=some .local/\(scope.names.filter λy=>y.2==.cell)=[]\/scope.names.lookup x=some .cell/\(scope.names.filter λy=>y.2==.cell)=[(x,.cell)])
 &&decide (∀y∈scope.names,y.2=.free->y.1≠x)&&scope.kind==.function&&decide (∀y∈scope.names,y.2=.local->scope.names.lookup y.1=some .local)
 &&decide ((x::fvs).Nodup)&&decide (∀y∈scope.names,y.2=.free->osc.names.lookup y.1=some .cell\/osc.names.lookup y.1=some .free)&&decide ((js.map λj=>N[j]?)=fvs.map some)
 &&decide (∀y∈fvs,scope.names.lookup y=some .free)
noncomputable def dB(N:List Str)(js:List Nat):List Str:=js.map λj=>(N[j]?).getD Str.empty
noncomputable def mR(sc:Scope)(tup:Bool)(f:List Expr->Bool):Sk->Expr->Bool
 | .seq,it=>eW it&&f [it]
 | .rng,it=>onQ (rj it) λc=>c.1==("range":Str)&&glB sc c.1&&f c.2&&(c.2.length==1||c.2.length==2)
 | .rev,_=>false
 | .enm,it=>onQ (rl it) λc=>tup&&c.1==("enumerate":Str)&&glB sc c.1&&f [c.2]&&ah c.2
noncomputable def rn(sc:Scope)(f:List Expr->Bool)(n:Nat)(c:String)(args:List Expr):Bool:=onQ (yA args) λa=>onQ (nmP a.2) λt=>t.1==(c:Str)&&glB sc t.1&&f [a.1]&&n==1
noncomputable def tK(sc:Scope)(f:List Expr->Bool)(n:Nat)(g:Str)(args:List Expr):Bool:=onQ (jm args) λa=>onQ (rl a) λc=>c.1==g&&glB sc c.1&&f [c.2]&&n==1
noncomputable def oX:Expr->Bool
 | .Name _ _=>true
 | .Call _ (_::_) _ _=>true
 | _=>false
noncomputable def lT(sc:Scope)(f:List Expr->Bool)(n:Nat)(b:Blt)(args:List Expr):Bool:=match b with
 | .sortedSet=>tK sc f n "set" args
 | .lenSet=>tK sc f n "set" args
 | .lenSetSub=>onQ (jm args) λa=>onQ (biP a) λb=>onQ (rl b.1) λc=>onQ (rl b.2.2.1) λd=>b.2.1==.Sub&&c.1==("set":Str)&&glB sc c.1&&d.1==("set":Str)&&glB sc d.1&&f [c.2,d.2]&&n==2
 | .tupleRev=>false
 | .valuesOf=>onQ (jm args) λa=>onQ (maP a) λc=>c.2.2.2.1.isEmpty&&c.2.1==("values":Str)&&oX c.1&&c.2.2.1.endLine==c.2.2.2.2.line&&f [c.1]&&n==1
 | .sortedKeys=>false
 | .max2=>false
 | .min2=>false
 | .boolOf=>false
 | .isStr=>false
 | .isList=>false
 |b=>match du b with
  |some c=>rn sc f n c args
  |none=>kF b==some n&&f args
noncomputable def jn:ME->Bool
 | .cst .non=>true
 | _=>false
noncomputable def pX(f:Expr->Bool)(non:Bool):Option Expr->Bool
 |none=>non
 |some l=>f l&&!non
noncomputable def rq(f:Expr->Bool)(m:ME):List Expr->Bool
 | []=>(match m with|.cst (.bl true)=>true|_=>false)
 | [c]=>f c
 | _=>false
noncomputable def Gm(f:Expr->Bool)(op:BoolOp)(pos:Pos)(y:Expr):List Expr->Bool
 | []=>f y
 |z::r=>f (.BoolOp op (y::z::r) pos)
noncomputable def DK(g f:Expr->Bool)(op:BoolOp)(pos:Pos):List Expr->Bool
 |x::y::r=>g x&&Gm f op pos y r
 | _=>false
def vb(h:DK g f op pos vs=true):(∃x y,vs=[x,y]/\g x=true/\f y=true)\/∃x y z r,vs=x::y::z::r/\g x=true/\f (.BoolOp op (y::z::r) pos)=true:=by
 rcases vs with _|⟨x,_|⟨y,_|⟨z,r⟩⟩⟩
 .cases h
 .cases h
 .exact .inl ⟨x,y,rfl,oe.mp h⟩
 .exact .inr ⟨x,y,z,r,rfl,oe.mp h⟩
noncomputable def yJ(e:Expr):Option (List (Option Expr)×List Expr×Expr):=(suP e).bind λc=>(diP c.1).bind λd=>some (d.1,d.2.1,c.2.1)
def yK(h:yJ e=some q):∃p pos,e=.Subscript (.Dict q.1 q.2.1 p) q.2.2 pos:=by
 obtain⟨c,h1,h⟩:=bX h;obtain⟨d,h2,h⟩:=bX h;cases h;exact⟨d.2.2,c.2.2,by rw[mQ h1,yH h2]⟩
noncomputable def rA:List (Str×Str)->List (Option Expr)->List Expr->Bool
 | [],[],[]=>true
 |p::r,k::ks,v::vs=>k.bind DI==some p.1&&DI v==some p.2&&rA r ks vs
 | _,_,_=>false
noncomputable def Cj(e:Expr):Option (Str×Str):=(rl e).bind λc=>(nmP c.2).bind λy=>some (c.1,y.1)
def A9(h:Cj e=some q):∃p p2 pos,e=.Call (.Name q.1 p) [.Name q.2 p2] [] pos:=by
 obtain⟨c,h1,h⟩:=bX h;obtain⟨y,h2,h⟩:=bX h;cases h;obtain⟨p,pos,rfl⟩:=gK h1;exact⟨p,y.2,pos,by rw[d7 h2]⟩
mutual
noncomputable def chk(T:Tab):ME->List Str->Scope->Expr->Bool
 | .var i,N,sc,J=>onQ (nmP J) λx=>aS N sc i x.1
 | .bor i,N,sc,J=>onQ (nmP J) λx=>aS N sc i x.1
 | .cst v,_,_,J=>onQ (ctP J) λc=>tJ v c.1
 | .glob x v,_,sc,J=>onQ (nmP J) λy=>x==y.1&&glB sc x&&Ci T.gs x v&&aq x
 | .bin op a b,N,sc,J=>onQ (biP J) λq=>q.2.1==tI op&&chk T a N sc q.1&&chk T b N sc q.2.2.1
 | .neg _,_,_,_=>false
 | .not a,N,sc,J=>onQ (unP J) λq=>q.1==.Not&&chk T a N sc q.2.1
 | .and a b,N,sc,J=>onQ (boP J) λq=>q.1==.And&&DK (λe=>chk T a N sc e) (λe=>chk T b N sc e) .And q.2.2 q.2.1
 | .or a b,N,sc,J=>onQ (boP J) λq=>q.1==.Or&&DK (λe=>chk T a N sc e) (λe=>chk T b N sc e) .Or q.2.2 q.2.1
 | .ite c a b,N,sc,J=>onQ (ifP J) λq=>chk T c N sc q.1&&chk T a N sc q.2.1&&chk T b N sc q.2.2.1&&!aK a&&!aK b
 | .cmp op a b,N,sc,J=>onQ (DF J) λq=>q.2.1==yI op&&chk T a N sc q.1&&chk T b N sc q.2.2&&!behindInMarks q.2.1 q.2.2
 | .chain _ _ _ _ _,_,_,_=>false
 | .tup es,N,sc,J=>onQ (tuP J) λq=>chks T es N sc q.1&&es.all (λe=>!aK e)
 | .lst es,N,sc,J=>onQ (liP J) λq=>chks T es N sc q.1&&es.all (λe=>!aK e)
 | .idx a i,N,sc,J=>onQ (suP J) λq=>chk T a N sc q.1&&chk T i N sc q.2.1&&bv q.2.1
 | .slice a lo hi,N,sc,J=>onQ (Gj J) λq=>chk T a N sc q.1&&pX (λe=>chk T lo N sc e) (jn lo) q.2.1&&pX (λe=>chk T hi N sc e) (jn hi) q.2.2
 | .blt b es,N,sc,J=>onQ (rj J) λq=>q.1==(rm b:Str)&&glB sc q.1&&lT sc (λxs=>chks T es N sc xs) es.length b q.2
 | .call f es,N,sc,J=>onQ (rj J) λq=>T.fs[f]?==some q.1&&glB sc q.1&&aq q.1&&chks T es N sc q.2
 | .callD _ _ _,_,_,_=>false
 | .comp k src js cond elt,N,sc,J=>onQ (lcX J) λq=>fD sc N q.2.1 q.2.2.1.1 (dB N js) js&&mR sc false (λxs=>chks T src N sc xs) k q.2.2.2.1&&rq (λc=>chk T cond (q.2.2.1.1::dB N js) (lI q.2.1 sc) c) cond q.2.2.2.2&&chk T elt (q.2.2.1.1::dB N js) (lI q.2.1 sc) q.1&&!aK elt
 | .dget a k d,N,sc,J=>onQ (maP J) λc=>onQ (yA c.2.2.2.1) λz=>c.2.1==("get":Str)&&oX c.1&&c.2.2.1.endLine==c.2.2.2.2.line&&chk T a N sc c.1&&chk T k N sc z.1&&chk T d N sc z.2&&ah z.1&&ah z.2
 | .dat a k,N,sc,J=>onQ (suP J) λq=>chk T a N sc q.1&&chk T k N sc q.2.1&&bv q.2.1
 | .dIn neg k a,N,sc,J=>onQ (DF J) λq=>q.2.1==(if neg=true then CmpOp.NotIn else CmpOp.In)&&chk T k N sc q.1&&chk T a N sc q.2.2&&!behindInMarks q.2.1 q.2.2
 | .disp kvs e,N,sc,J=>onQ (yJ J) λq=>rA kvs q.1 q.2.1&&chk T e N sc q.2.2&&bv q.2.2&&decide (kvs.length<=15)&&!kvs.isEmpty
 | .lenP i,N,sc,J=>onQ (Cj J) λq=>q.1==("len":Str)&&glB sc q.1&&aS N sc i q.2
noncomputable def chks(T:Tab):List ME->List Str->Scope->List Expr->Bool
 | [],_,_,[]=>true
 |m::ms,N,sc,e::es=>chk T m N sc e&&ah e&&chks T ms N sc es
 | _,_,_,_=>false
end
def jJ(h:chk T (.bor i) N sc e=true):∃x p,e=.Name x p/\aS N sc i x=true:=by
 replace h:=am h
 obtain⟨x,h1,h⟩:=h;exact⟨x.1,x.2,d7 h1,h⟩
def cf(h:chks T (m::ms) N sc (e::es)=true):(chk T m N sc e=true/\ah e=true)/\chks T ms N sc es=true:=by
 obtain⟨a,b⟩:=oe.mp h;exact⟨oe.mp a,b⟩
def kG{cond elt:ME}(h:chk T (.comp z src js cond elt) N sc J=true):∃e x px it ifs scope pos,J=.ListComp e [⟨.Name x px,it,ifs,0⟩] scope pos /\
  (fD sc N scope x (dB N js) js&&mR sc false (λxs=>chks T src N sc xs) z it&&rq (λc=>chk T cond (x::dB N js) (lI scope sc) c) cond ifs&&chk T elt (x::dB N js) (lI scope sc) e&&!aK elt)=true:=by
 replace h:=am h
 obtain⟨q,w,h⟩:=h;obtain⟨pos,rfl⟩:=yG w;exact⟨_,_,_,_,_,_,_,rfl,h⟩
def mS(h:aK m=true):∃i,m=.bor i:=by
 cases m<;>first|(cases h;done)|exact⟨_,rfl⟩
noncomputable def iy:ME->Bool
 | .lst _=>true
 | .comp ..=>true
 | .blt .listOf _=>true
 | .blt .sorted _=>true
 | .blt .sortedSet _=>true
 | .blt .sortedKeys _=>true
 | .blt .valuesOf _=>true
 | _=>false
noncomputable def Ck(sc:Scope)(t:Str)(tpos:Pos)(e:Expr):Bool:=onQ (lcP e) λq=>sc.names.lookup t==some .local&&tpos.line==q.2.2.2.line&&!(q.2.2.1.names.any λ(n,k)=>n==t&&(k==.local||k==.cell))
noncomputable def oY(sc:Scope)(t:Str)(tpos:Pos)(v:Expr)(e:ME):Bool:=Ck sc t tpos v
noncomputable def dH(N:List Str)(sc:Scope):List Nat->List Expr->Bool
 | [],[]=>true
 |i::is,.Name x _::es=>N[i]?==some x&&gj sc x&&aq x&&dH N sc is es
 | _,_=>false
def pY(N)(sc)(i)(is)(x)(p)(es):dH N sc (i::is) (.Name x p::es)=(N[i]?==some x&&gj sc x&&aq x&&dH N sc is es):=rfl
noncomputable def jo:List Bool->List ME->Bool
 | [],[]=>true
 |true::bs,e::es=>aK e&&jo bs es
 |false::bs,_::es=>jo bs es
 | _,_=>false
noncomputable def eX:List Bool->List ME->List Nat
 |true::bs,.bor i::es=>i::eX bs es
 | _::bs,_::es=>eX bs es
 | _,_=>[]
noncomputable def fE(T:Tab)(f:Nat)(mask:List Bool)(es:List ME)(N:List Str)(sc:Scope)(x:Expr):Bool:=onQ (rj x) λc=>T.fs[f]?==some c.1&&glB sc c.1&&aq c.1&&chks T es N sc c.2&&jo mask es&&decide (eX mask es).Nodup&&!c.2.isEmpty
def mT(h:fE T f mask es N sc e=true):∃g p args cp,e=.Call (.Name g p) args [] cp/\(T.fs[f]?==some g&&glB sc g&&aq g&&chks T es N sc args&&jo mask es&&decide (eX mask es).Nodup&&!args.isEmpty)=true:=by
 replace h:=am h
 obtain⟨c,w,h⟩:=h;obtain⟨p,cp,rfl⟩:=fC w;exact⟨c.1,p,c.2,cp,rfl,h⟩
noncomputable def Gn(e:Expr):Option (Expr×Expr):=(biP e).bind λc=>okQ (c.2.1==.Add) (c.1,c.2.2.1)
def A_(h:Gn e=some q):∃pos,e=.BinOp q.1 .Add q.2 pos:=by
 obtain⟨c,h1,h⟩:=bX h;obtain⟨h2,rfl⟩:=jl h;exact⟨c.2.2.2,by rw[pW h1,eq_of_beq h2]⟩
noncomputable def Go(e:Expr):Option (Expr×Expr):=(tuP e).bind λc=>yA c.1
def Ba(h:Go e=some q):∃j pos,e=.Tuple [q.1,q.2] j pos:=by
 obtain⟨c,h1,h⟩:=bX h;exact⟨c.2.1,c.2.2,by rw[tD h1,lS h]⟩
noncomputable def tL:ME->Bool
 | .cst .non=>true
 | _=>false
noncomputable def yL(T:Tab)(k:SK)(e:ME)(f:Nat)(mask:List Bool)(es:List ME)(N:List Str)(sc:Scope)(x:Expr):Bool:=match k with
 | .one=>tL e&&fE T f mask es N sc x
 | .cat=>match Gn x with|some q=>chk T e N sc q.1&&!aK e&&fE T f mask es N sc q.2|none=>false
 | .pair=>match Go x with|some q=>chk T e N sc q.1&&!aK e&&ah q.1&&fE T f mask es N sc q.2|none=>false
noncomputable def yM(e:Expr):Option (Expr×Scope×Str×Expr):=(lcX e).bind λc=>okQ c.2.2.2.2.isEmpty (c.1,c.2.1,c.2.2.1.1,c.2.2.2.1)
def yN(h:yM e=some q):∃z pos,e=.ListComp q.1 [⟨.Name q.2.2.1 z,q.2.2.2,[],0⟩] q.2.1 pos:=by
 obtain⟨c,h1,h⟩:=bX h;obtain⟨h2,rfl⟩:=jl h;obtain⟨pos,rfl⟩:=yG h1;exact⟨_,pos,by rw[Kc.mp h2]⟩
noncomputable def DL(e:Expr):Option (Str×Str×Expr):=(rl e).bind λc=>(rl c.2).bind λd=>some (c.1,d.1,d.2)
def Bb(h:DL e=some q):∃p p2 pos2 pos,e=.Call (.Name q.1 p) [.Call (.Name q.2.1 p2) [q.2.2] [] pos2] [] pos:=by
 obtain⟨c,h1,h⟩:=bX h;obtain⟨d,h2,h⟩:=bX h;cases h;obtain⟨p,pos,rfl⟩:=gK h1;obtain⟨p2,pos2,e⟩:=gK h2;exact⟨p,p2,pos2,pos,by rw[e]⟩
noncomputable def DM(e:Expr):Option (Str×Str×Pos×Pos):=(maN e).bind λa=>okQ a.2.2.2.1.isEmpty (a.1,a.2.1,a.2.2.1,a.2.2.2.2)
def Bc(h:DM e=some q):∃p,e=.Call (.Attribute (.Name q.1 p) q.2.1 q.2.2.1) [] [] q.2.2.2:=by
 obtain⟨x,h1,h⟩:=bX h;obtain⟨h2,rfl⟩:=jl h;obtain⟨p,rfl⟩:=yF h1;exact⟨p,by rw[Kc.mp h2]⟩
noncomputable def DN(e:Expr):Option (Expr×Operator×Expr):=(biP e).bind λc=>some (c.1,c.2.1,c.2.2.1)
def Bd(h:DN e=some q):∃pos,e=.BinOp q.1 q.2.1 q.2.2 pos:=by
 obtain⟨c,h1,h⟩:=bX h;cases h;exact⟨c.2.2.2,pW h1⟩
noncomputable def fnQ(e:Expr):Option (Str×Expr×List Expr):=(rj e).bind λc=>(hdQ c.2).bind λa=>some (c.1,a.1,a.2)
def tM(h:fnQ e=some q):∃p pos,e=.Call (.Name q.1 p) (q.2.1::q.2.2) [] pos:=by
 obtain⟨c,h1,h⟩:=bX h;obtain⟨a,h2,h⟩:=bX h;cases h;obtain⟨p,pos,rfl⟩:=fC h1;exact⟨p,pos,by rw[DJ h2]⟩
noncomputable def DO(e:Expr):Option (List Expr):=(tuP e).bind λc=>some c.1
def Be(h:DO e=some q):∃j pos,e=.Tuple q j pos:=by
 obtain⟨c,h1,h⟩:=bX h;cases h;exact⟨c.2.1,c.2.2,tD h1⟩
noncomputable def DP(e:Expr):Option (List Expr):=(liP e).bind λc=>some c.1
def Bf(h:DP e=some q):∃pos,e=.List q pos:=by
 obtain⟨c,h1,h⟩:=bX h;cases h;exact⟨c.2,tG h1⟩
noncomputable def DQ(e:Expr):Option (Str×Expr×Expr):=(rj e).bind λc=>(yA c.2).bind λa=>some (c.1,a.1,a.2)
def Bg(h:DQ e=some q):∃p pos,e=.Call (.Name q.1 p) [q.2.1,q.2.2] [] pos:=by
 obtain⟨c,h1,h⟩:=bX h;obtain⟨a,h2,h⟩:=bX h;cases h;obtain⟨p,pos,rfl⟩:=fC h1;exact⟨p,pos,by rw[lS h2]⟩
mutual
noncomputable def dg(T:Tab):XE->List Str->Scope->Expr->Bool
 | .pure e,N,sc,x=>chk T e N sc x&&!aK e&&br x
 | .call f mask es,N,sc,x=>fE T f mask es N sc x
 | .pop i,N,sc,x=>onQ (DM x) λq=>aS N sc i q.1&&q.2.1==("pop":Str)&&q.2.2.1.endLine==q.2.2.2.line
 | .bin op a b,N,sc,x=>onQ (DN x) λq=>q.2.1==tI op&&dg T a N sc q.1&&chk T b N sc q.2.2
 | .fn g a es,N,sc,x=>onQ (fnQ x) λq=>T.fs[g]?==some q.1&&glB sc q.1&&aq q.1&&dg T a N sc q.2.1&&ah q.2.1&&chks T es N sc q.2.2
 | .tup xs,N,sc,x=>onQ (DO x) λq=>chkXEs T xs N sc q
 | .lst xs,N,sc,x=>onQ (DP x) λq=>chkXEs T xs N sc q
 | .fn2 g e a,N,sc,x=>onQ (DQ x) λq=>T.fs[g]?==some q.1&&glB sc q.1&&aq q.1&&chk T e N sc q.2.1&&!aK e&&ah q.2.1&&dg T a N sc q.2.2&&ah q.2.2
 | .tupOf a,N,sc,x=>onQ (fnQ x) λq=>q.1==("tuple":Str)&&glB sc q.1&&q.2.2.isEmpty&&dg T a N sc q.2.1&&ah q.2.1
 | .compS src js k e f mask es,N,sc,x=>onQ (yM x) λc=>fD sc N c.2.1 c.2.2.1 (dB N js) js&&mR sc false (λxs=>chks T [src] N sc xs) .seq c.2.2.2&&!aK src&&yL T k e f mask es (c.2.2.1::dB N js) (lI c.2.1 sc) c.1&&decide js.Nodup
noncomputable def chkXEs(T:Tab):List XE->List Str->Scope->List Expr->Bool
 | [],_,_,[]=>true
 |x::xs,N,sc,e::es=>dg T x N sc e&&ah e&&chkXEs T xs N sc es
 | _,_,_,_=>false
end
noncomputable def rB(s:Stmt):Option (Str×Pos×Expr):=(asP s).bind λc=>(jm c.1).bind λu=>(nmP u).bind λx=>some (x.1,x.2,c.2.1)
def jK(h:rB s=some q):∃pos,s=.Assign [.Name q.1 q.2.1] q.2.2 pos:=by
 obtain⟨c,h1,h⟩:=bX h;obtain⟨u,h2,h⟩:=bX h;obtain⟨x,z,h⟩:=bX h;cases h;exact⟨c.2.2,by rw[yE h1,cO h2,d7 z]⟩
noncomputable def wC(s:Stmt):Option (Str×Str×Pos×List Expr×Pos):=(exP s).bind λa=>maN a.1
def lU(h:wC s=some q):∃p pos,s=.Expr (.Call (.Attribute (.Name q.1 p) q.2.1 q.2.2.1) q.2.2.2.1 [] q.2.2.2.2) pos:=by
 obtain⟨x,h1,h⟩:=bX h;obtain⟨p,e⟩:=yF h;exact⟨p,x.2,by rw[DG h1,e]⟩
noncomputable def DR(s:Stmt):Option (Str×Expr×Expr):=(asP s).bind λc=>(jm c.1).bind λu=>(suP u).bind λw=>(nmP w.1).bind λx=>some (x.1,w.2.1,c.2.1)
def vc(h:DR s=some q):∃p sp pos,s=.Assign [.Subscript (.Name q.1 p) q.2.1 sp] q.2.2 pos:=by
 refine ax λY z=>?_
 obtain⟨c,h1,h⟩:=bX h;obtain⟨u,h2,h⟩:=bX h;obtain⟨w,J,h⟩:=bX h;obtain⟨x,U,h⟩:=bX h;cases h;refine z ?_;exact⟨x.2,w.2.2,c.2.2,by rw[yE h1,cO h2,mQ J,d7 U]⟩
noncomputable def wD(s:Stmt):Option (Expr):=(reP s).bind λc=>c.1
def lV(h:wD s=some v):∃pos,s=.Return (some v) pos:=by
 obtain⟨c,h1,h⟩:=bX h;exact⟨c.2,by rw[DH h1,h]⟩
noncomputable def Cl(e:Expr):Option (Str):=(nmP e).bind λx=>some x.1
def yO(h:Cl e=some x):∃p,e=.Name x p:=by
 obtain⟨x,h1,h⟩:=bX h;cases h;exact⟨x.2,d7 h1⟩
noncomputable def Cm(e:Expr):Bool:=onQ (diP e) λd=>d.1.isEmpty&&d.2.1.isEmpty
def yP(h:Cm e=true):∃p,e=.Dict [] [] p:=by
 replace h:=am h
 obtain⟨d,h1,h⟩:=h;obtain⟨h2,z⟩:=oe.mp h;exact⟨d.2.2,by rw[yH h1,Kc.mp h2,Kc.mp z]⟩
mutual
noncomputable def fk(T:Tab)(N:List Str)(sc:Scope):MS->Stmt->Bool
 | .set i e,s0=>onQ (rB s0) λq=>N[i]?==some q.1&&gj sc q.1&&aq q.1&&chk T e N sc q.2.2&&!aK e&&(br q.2.2||oY sc q.1 q.2.1 q.2.2 e)
 | .setOwn i e,s0=>onQ (rB s0) λq=>N[i]?==some q.1&&gj sc q.1&&aq q.1&&chk T e N sc q.2.2&&iy e&&(br q.2.2||oY sc q.1 q.2.1 q.2.2 e)
 | .append i e,s0=>onQ (wC s0) λq=>onQ (jm q.2.2.2.1) λv=>aS N sc i q.1&&q.2.1==("append":Str)&&chk T e N sc v&&!aK e&&ah v&&q.2.2.1.endLine==q.2.2.2.2.line
 | .extend i e,s0=>onQ (wC s0) λq=>onQ (jm q.2.2.2.1) λv=>aS N sc i q.1&&q.2.1==("extend":Str)&&chk T e N sc v&&ah v&&q.2.2.1.endLine==q.2.2.2.2.line
 | .setIdx i k e,s0=>onQ (DR s0) λq=>aS N sc i q.1&&chk T k N sc q.2.1&&bv q.2.1&&chk T e N sc q.2.2&&!aK e&&br q.2.2
 | .unpack _ _,_=>false
 | .ite c a b,s0=>(match s0 with|.If t x y _=>chk T c N sc t&&chkSs T N sc a x&&chkSs T N sc b y|_=>false)
 | .for1 i k src body,s0=>(match s0 with|.For (.Name x _) it b [] _=>N[i]?==some x&&gj sc x&&aq x&&mR sc false (λxs=>chks T src N sc xs) k it&&chkSs T N sc body b|_=>false)
 | .forT is k src body,s0=>(match s0 with|.For (.Tuple z _ _) it b [] _=>dH N sc is z&&mR sc true (λxs=>chks T src N sc xs) k it&&chkSs T N sc body b|_=>false)
 | .ret e,s0=>onQ (wD s0) λv=>chk T e N sc v&&!aK e
 | .popAt i k,s0=>onQ (wC s0) λq=>onQ (jm q.2.2.2.1) λv=>aS N sc i q.1&&q.2.1==("pop":Str)&&chk T k N sc v&&ah v&&q.2.2.1.endLine==q.2.2.2.2.line
 | .retOwn i,s0=>onQ (wD s0) λv=>onQ (Cl v) λx=>aS N sc i x
 | .retM e,s0=>onQ (wD s0) λv=>chk T e N sc v&&!aK e
 | .setP i e,s0=>onQ (rB s0) λq=>N[i]?==some q.1&&gj sc q.1&&aq q.1&&onQ (DL q.2.2) λr=>r.1==("list":Str)&&r.2.1==("reversed":Str)&&glB sc r.1&&glB sc r.2.1&&chk T e N sc r.2.2&&ah r.2.2
 | .setX i x,s0=>onQ (rB s0) λq=>N[i]?==some q.1&&gj sc q.1&&aq q.1&&dg T x N sc q.2.2&&br q.2.2
 | .appX i x,s0=>onQ (wC s0) λq=>onQ (jm q.2.2.2.1) λv=>aS N sc i q.1&&q.2.1==("append":Str)&&dg T x N sc v&&ah v&&q.2.2.1.endLine==q.2.2.2.2.line
 | .retXE x,s0=>onQ (wD s0) λv=>dg T x N sc v
 | .forX i x body,s0=>(match s0 with|.For (.Name y _) it b [] _=>N[i]?==some y&&gj sc y&&aq y&&onQ (fnQ it) (λq=>q.1==("range":Str)&&glB sc q.1&&q.2.2.isEmpty&&dg T x N sc q.2.1&&ah q.2.1)&&chkSs T N sc body b|_=>false)
 | .never,_=>true
 | .newD _ i,s0=>onQ (rB s0) λq=>Cm q.2.2&&(N[i]?==some q.1&&gj sc q.1&&aq q.1)
 | .dput i k e,s0=>onQ (DR s0) λq=>aS N sc i q.1&&chk T k N sc q.2.1&&bv q.2.1&&chk T e N sc q.2.2&&!aK e&&br q.2.2
 | _,_=>false
noncomputable def chkSs(T:Tab)(N:List Str)(sc:Scope):List MS->List Stmt->Bool
 | [],[]=>true
 | .freeze _::_,_=>false
 |m::ms,s::ss=>fk T N sc m s&&chkSs T N sc ms ss
 | _,_=>false
end
def Bh (T) (N) (sc) (i) (x) (body) (s0):fk T N sc (.forX i x body) s0=(match s0 with|.For (.Name y _) it b [] _=>N[i]?==some y&&gj sc y&&aq y&&onQ (fnQ it) (λq=>q.1==("range":Str)&&glB sc q.1&&q.2.2.isEmpty&&dg T x N sc q.2.1&&ah q.2.1)&&chkSs T N sc body b|_=>false):=rfl
def Bi(T)(N)(sc)(i)(k)(src)(body)(s0):fk T N sc (.for1 i k src body) s0=(match s0 with|.For (.Name x _) it b [] _=>N[i]?==some x&&gj sc x&&aq x&&mR sc false (λxs=>chks T src N sc xs) k it&&chkSs T N sc body b|_=>false):=rfl
def Bj(T)(N)(sc)(is)(k)(src)(body)(s0):fk T N sc (.forT is k src body) s0=(match s0 with|.For (.Tuple z _ _) it b [] _=>dH N sc is z&&mR sc true (λxs=>chks T src N sc xs) k it&&chkSs T N sc body b|_=>false):=rfl
theorem mU(z:∀x b,f x x=some b->b=true):∀xs {b},eqL f xs xs=some b->b=true
 | [],b,h=>by simp[eqL]at h;exact h
 |x::xs,b,h=>by
  simp only[eqL,gf,ti]at h;obtain⟨p,h1,q,h2,rfl⟩:=h;rw[z x p h1,mU z xs h2];rfl
theorem jL:∀(n:Nat) (x:PV) {b:Bool},eqF n x x=some b->b=true
 |n,.non,b,h=>by cases n<;>cases h<;>rfl
 |n,.bl x,b,h=>by cases n<;>cases h<;>exact Kd x
 |n,.int x,b,h=>by cases n<;>cases h<;>exact Kd x
 |n,.str x,b,h=>by cases n<;>cases h<;>exact Kd x
 |0,.tup _,b,h=>by cases h
 |0,.lst _,b,h=>by cases h
 |n+1,.tup xs,b,h=>mU (λx b=>jL n x) xs h
 |n+1,.lst xs,b,h=>mU (λx b=>jL n x) xs ((if_pos rfl).symm.trans h)
 |n,.dI _,b,h=>by cases n<;>cases h
def fP{n:Nat}{x y:PV}{b:Bool}(h:eqF n x y=some b):isD x=false/\isD y=false:=by
 cases x<;>cases y<;>first|exact⟨rfl,rfl⟩|(cases n<;>cases h)
noncomputable def DS:PV->Bool
 | .tup _=>true
 | .lst _=>true
 | _=>false
def fF{n:Nat}{x y:PV}{b:Bool}(h:eqF n x y=some b)(e:DS x=!DS y):b=false:=by
 cases x<;>cases y<;>first|(cases e;done)|(cases n<;>cases h<;>rfl)
theorem jM :∀xs ys {b},eqL f xs ys=some b ->
  (∀(j:Nat) x y,xs[j]?=some x->ys[j]?=some y->∃c,f x y=some c) /\
   b=((range (min xs.length ys.length)).all (λj=>(f (xs.getD j .non) (ys.getD j .non)).getD false)&&xs.length==ys.length)
 | [],[],b,h=>by simp[eqL]at h;subst h;simp
 | [],y::ys,b,h=>by simp[eqL]at h;subst h;simp
 |x::xs,[],b,h=>by simp[eqL]at h;subst h;simp
 |x::xs,y::ys,b,h=>by
  simp only[eqL,gf,ti]at h;obtain⟨p,h1,q,h2,rfl⟩:=h;obtain⟨z,J⟩:=jM xs ys h2;refine⟨λj Z y' U Y=>?_,?_⟩
  .cases j with
   |zero=>simp at U Y;subst U Y;exact⟨p,h1⟩
   |succ j=>exact z j Z y' (by simpa using U) (by simpa using Y)
  .rw[J];have hm:min (x::xs).length (y::ys).length=min xs.length ys.length+1:=by simp only[length_cons];omega
   rw[hm,range_succ_eq_map,all_cons,K3];have hl:((x::xs).length==(y::ys).length)=(xs.length==ys.length):=by
    simp_all
   rw[hl,Bool.and_assoc];simp only[getD_cons_zero,h1,getD_some,Function.comp_def,getD_cons_succ]
theorem vd :∀xs {b},inL f xs=some b->(∀x∈xs,∃c,f x=some c)/\b=xs.any λx=>(f x).getD false
 | [],b,h=>by simp[inL]at h;subst h;simp
 |x::xs,b,h=>by
  simp only[inL,gf,ti]at h;obtain⟨p,h1,q,h2,rfl⟩:=h;obtain⟨z,U⟩:=vd xs h2;refine⟨λy J=>?_,?_⟩
  .rcases IB.mp J with rfl|J
   .exact⟨p,h1⟩
   .exact z y J
  .simp_all
section
variable{X:Cx}{pins:List (Addr×Obj)}{σ:St}{H:Hp}{s:Shared}
def rC(I:Inv X pins σ H s)(h1:SqL X.K H a xs)(h2:SqT X.K H a ys):False:=by
 obtain⟨its,_,p,_⟩:=I.list h1;obtain⟨z,_,q,_⟩:=I.tuple h2;exact SeqAt.ne_of_list_tuple p.isList (show s.heap.IsTuple a z.toArray from q) rfl
def pZ(h:RdD H a d):IsD H a:=by
 cases d<;>first|exact .inl ⟨_,h.rd⟩|exact .inr ⟨_,h.rd⟩|exact absurd h.2 pd
def lW(I:Inv X pins σ H s)(h1:SqL X.K H a xs\/SqT X.K H a xs)(h2:RdD H a d):False:=by
 obtain⟨o,ho,hc⟩:=(sP I (pZ h2)).1;rcases h1 with h1|h1
 .obtain⟨its,_,p,_⟩:=I.list h1;obtain⟨o',z,J,_⟩:=p.isList;rw[ho]at z;cases z;rw[hc]at J;exact absurd J (by decide)
 .obtain⟨its,_,⟨o',z,J,_⟩,_⟩:=I.tuple h1;rw[ho]at z;cases z;rw[hc]at J;exact absurd J (by decide)
def Sc.v_inj:∀{a b:Sc},a.v=b.v->a=b:=by
 intro a b h;cases a<;>cases b<;>simp[Sc.v]at h ⊢<;>exact h
theorem rD:∀{a b},iu a=iu b->a=b
 | [],[],_=>rfl
 | [],_::_,h=>by cases h
 | _::_,[],h=>by cases h
 | (k,v)::a,(J,U)::b,h=>by
  simp[iu,IG,Prod.mk.injEq]at h;obtain⟨⟨h1,h2⟩,z⟩:=h;rw[h1,Sc.v_inj h2,rD z]
theorem lX:∀{a b:List Int},(a.map Sum.inl:List Key)=b.map Sum.inl->a=b
 | [],[],_=>rfl
 | [],_::_,h=>by cases h
 | _::_,[],h=>by cases h
 |x::a,y::b,h=>by
  simp[Ls]at h;rw[h.1,lX h.2]
theorem rE:∀{a b},jk a=jk b->a=b
 | [],[],_=>rfl
 | [],_::_,h=>by cases h
 | _::_,[],h=>by cases h
 | (k,v)::a,(J,U)::b,h=>by
  simp[jk,IG]at h;obtain⟨⟨h1,h2⟩,z⟩:=h;rw[lX h1,Sc.v_inj h2,rE z]
theorem mV:∀{a b:List Int},a.map V.int=b.map V.int->a=b
 | [],[],_=>rfl
 | [],_::_,h=>by cases h
 | _::_,[],h=>by cases h
 |x::a,y::b,h=>by
  simp only[IG,Ls]at h;rw[V.int.inj h.1,mV h.2]
def rF(h:iw a=iw b):a=b:=by
 cases a<;>cases b<;>first
  | (cases h;done)
  | (rw[rD (HO.dK.inj h)];done)
  | (rw[rE (HO.dT.inj h)];done)
  | rw[mV (HO.lst.inj h)]
def DT(h:RdD H a x)(g:RdD H a y):x=y:=by
 have h:=h.rd;have g:=g.rd;have ne:∀x o u,iw x≠.frz o u:=λx o u e=>by cases x<;>cases e
 rcases h with h|⟨o,h⟩<;>rcases g with g|⟨o',g⟩
 .rw[h]at g;exact rF (II g)
 .rw[h]at g;exact absurd (II g) (ne x _ _)
 .simp_all
 .rw[h]at g;exact rF (HO.frz.inj (II g)).2
mutual
theorem lY(I:Inv X pins σ H s):∀(x y:PV) {u:V},Rep X.K H x u->Rep X.K H y u->x=y
 | .non,y,u,h,g=>by rw[Rep]at h;subst h;cases y<;>simp[Rep]at g ⊢
 | .bl b,y,u,h,g=>by rw[Rep]at h;subst h;cases y<;>simp[Rep]at g ⊢;exact g
 | .int b,y,u,h,g=>by rw[Rep]at h;subst h;cases y<;>simp[Rep]at g ⊢;exact g
 | .str b,y,u,h,g=>by rw[Rep]at h;subst h;cases y<;>simp[Rep]at g ⊢;exact g
 | .tup xs,y,u,h,g=>by
  rw[Rep]at h;obtain⟨a,us,rfl,q,r⟩:=h;cases y with
  |tup ys =>
   rw[Rep]at g;obtain⟨b,vs,e,z,J⟩:=g;cases e;have:=I.tuple_inj (d6 q) (d6 z);subst this;rw[reps_inj I xs ys r J]
  |lst ys =>
   rw[Rep]at g;obtain⟨b,vs,e,z,J⟩:=g;cases e;exact(rC I z (d6 q)).elim
  |dI kvs =>
   rw[Rep]at g;obtain⟨b,e,z⟩:=g;cases e;exact(lW I (.inr (d6 q)) z).elim
  | _=>simp[Rep]at g
 | .lst xs,y,u,h,g=>by
  rw[Rep]at h;obtain⟨a,us,rfl,q,r⟩:=h;cases y with
  |lst ys =>
   rw[Rep]at g;obtain⟨b,vs,e,z,J⟩:=g;cases e;have:=I.list_inj q z;subst this;rw[reps_inj I xs ys r J]
  |tup ys =>
   rw[Rep]at g;obtain⟨b,vs,e,z,J⟩:=g;cases e;exact(rC I q (d6 z)).elim
  |dI kvs =>
   rw[Rep]at g;obtain⟨b,e,z⟩:=g;cases e;exact(lW I (.inl q) z).elim
  | _=>simp[Rep]at g
 | .dI kvs,y,u,h,g=>by
  rw[Rep]at h;obtain⟨a,rfl,q⟩:=h;cases y with
  |dI ks =>
   rw[Rep]at g;obtain⟨b,e,z⟩:=g;cases e;rw[DT q z]
  |tup ys =>
   rw[Rep]at g;obtain⟨b,vs,e,z,J⟩:=g;cases e;exact(lW I (.inr (d6 z)) q).elim
  |lst ys =>
   rw[Rep]at g;obtain⟨b,vs,e,z,J⟩:=g;cases e;exact(lW I (.inl z) q).elim
  | _=>simp[Rep]at g
theorem reps_inj(I:Inv X pins σ H s):∀(xs ys:List PV) {us:List V},Reps X.K H xs us->Reps X.K H ys us->xs=ys
 | [],ys,us,h,g=>by
  rw[Reps]at h;subst h
  cases ys with
  |nil=>rfl
  |cons y ys=>rw[Reps]at g;obtain⟨_,_,e,_⟩:=g;cases e
 |x::xs,ys,us,h,g=>by
  rw[Reps]at h;obtain⟨u,r,rfl,q,t⟩:=h;cases ys with
  |nil=>rw[Reps]at g;cases g
  |cons y ys =>
   rw[Reps]at g;obtain⟨J,U,e,z,t'⟩:=g;cases e;rw[lY I x y q z,reps_inj I xs ys t t']
end
def Rep.tupAt(I:Inv X pins σ H s)(h:Rep X.K H (.tup xs) u)(r:aF u v) :
  ∃a us its,u=.ref a/\v=.ref a/\Reps X.K H xs us/\aI us its/\s.heap.IsTuple a its.toArray/\xs.length=its.length:=by
 obtain⟨a,us,rfl,q,t⟩:=h;obtain⟨its,z,p,_⟩:=I.tuple (d6 q);exact⟨a,us,its,rfl,r,t,z,p,t.length.trans z.length⟩
def Rep.lstAt(I:Inv X pins σ H s)(h:Rep X.K H (.lst xs) u)(r:aF u v) :
  ∃a us its,u=.ref a/\v=.ref a/\Reps X.K H xs us/\aI us its/\s.heap.IsList a its.toArray/\xs.length=its.length:=by
 obtain⟨a,us,rfl,q,t⟩:=h;obtain⟨its,z,p,_⟩:=I.list q;exact⟨a,us,its,rfl,r,t,z,p.isList,t.length.trans z.length⟩
def jN{A:Around}(ih:∀x y {Y Z}{J U}{b}{A},A.units+n<cLine->eqF n x y=some b->Rep X.K H x Y->Rep X.K H y Z->aF Y J->aF Z U->SeqAt.EqAt A s J U b)
  (hu:A.units+(n+1)<cLine) (rx:Reps X.K H xs us) (ry:Reps X.K H ys ws) (J:aI us its) (U:aI ws z)
  (hs:∀(j:Nat) x y,xs[j]?=some x->ys[j]?=some y->∃c,eqF n x y=some c) :
  ∀j (h1:j<its.toArray.size) (h2:j<z.toArray.size),SeqAt.EqAt A.in1 s its.toArray[j] z.toArray[j] ((eqF n (xs.getD j .non) (ys.getD j .non)).getD false):=λj h1 h2=>by
 refine ax λZq kq=>?_
 have l1:=rx.length.trans J.length;have l2:=ry.length.trans U.length;simp[tr]at h1 h2;have e1:xs[j]?=some xs[j]:=IJ (by omega);have e2:ys[j]?=some ys[j]:=IJ (by omega);obtain⟨Y,q1,p1⟩:=rx.get e1;obtain⟨Z,q2,p2⟩:=ry.get e2;obtain⟨wx,q3,p3⟩:=J.get q1;obtain⟨wy,q4,p4⟩:=U.get q2;obtain⟨c,hc⟩:=hs j _ _ e1 e2;have d1:xs.getD j .non=xs[j]:=by simp[List.getD,e1]
 have d2:ys.getD j .non=ys[j]:=by simp[List.getD,e2]
 have g1:its.toArray[j]=wx:=by
  simp_all
 have g2:z.toArray[j]=wy:=by
  simp_all
 refine kq ?_;rw[d1,d2,hc,g1,g2];exact ih _ _ (show A.units+1+n<cLine by omega) hc p1 p2 p3 p4
def Bk{A:Around}{n:Nat}(I:Inv X pins σ H s)(ih:∀(x y:PV) {z J:V}{U Y:Value}{b:Bool}{A:Around},A.units+n<cLine->eqF n x y=some b->Rep X.K H x z->Rep X.K H y J->aF z U->aF J Y->SeqAt.EqAt A s U Y b)
  (hu:A.units+(n+1)<cLine):(∀{xs ys:List PV}{z J:V}{U Y:Value}{b:Bool},eqF (n+1) (.tup xs) (.tup ys)=some b->Rep X.K H (.tup xs) z->Rep X.K H (.tup ys) J->aF z U->aF J Y->SeqAt.RcAt A s U Y b) /\
   (∀{xs ys:List PV}{z J:V}{U Y:Value}{b:Bool},eqF (n+1) (.lst xs) (.lst ys)=some b->Rep X.K H (.lst xs) z->Rep X.K H (.lst ys) J->aF z U->aF J Y->SeqAt.RcAt A s U Y b):=by
 refine⟨λ{xs ys z J U Y b} h rx ry r1 r2=>?_,λ{xs ys z J U Y b} h rx ry r1 r2=>?_⟩
 .obtain⟨a,us,its,rfl,rfl,t1,w1,p1,l1⟩:=rx.tupAt I r1;obtain⟨c,ws,Z,rfl,rfl,t2,w2,p2,l2⟩:=ry.tupAt I r2;have h:eqL (eqF n) xs ys=some b:=h;obtain⟨hs,hb⟩:=jM xs ys h;have q:=SeqAt.RcAt.tuples (A:=A) p1 p2 (by omega) (jN ih hu t1 t2 w1 w2 hs);rw[hb];simpa[l1,l2]using q
 .obtain⟨a,us,its,rfl,rfl,t1,w1,p1,l1⟩:=rx.lstAt I r1;obtain⟨c,ws,Z,rfl,rfl,t2,w2,p2,l2⟩:=ry.lstAt I r2;have h:(if xs.length=ys.length then eqL (eqF n) xs ys else some false)=some b:=h;by_cases hl:xs.length=ys.length
  .rw[if_pos hl]at h;obtain⟨hs,hb⟩:=jM xs ys h;have q:=SeqAt.RcAt.lists (A:=A) p1 p2 (by simp only[tr];omega) (by omega) (jN ih hu t1 t2 w1 w2 hs);rw[hb,hl,LX];simpa[<- l1,hl]using q
  .rw[if_neg hl]at h;cases h;exact SeqAt.RcAt.lists_lengths (A:=A) p1 p2 (by simp only[tr,bne_iff_ne];omega) (by omega)
def cX(hd:isD x=false)(h:Rep X.K H x u):(∃xs,x=.tup xs)\/(∃xs,x=.lst xs)\/ik u=true:=by
 cases x with
 |dI _=>cases hd
 |tup xs=>exact .inl ⟨xs,rfl⟩
 |lst xs=>exact .inr (.inl ⟨xs,rfl⟩)
 | _=>rw[Rep]at h;subst h;exact .inr (.inr rfl)
def gL(z:A.units<cLine)(f:ik u=true)(r:aF u v)(p:s.heap.IsTuple a its) :
  SeqAt.EqAt A s v (.ref a) false/\SeqAt.EqAt A s (.ref a) v false/\SeqAt.RcAt A s v (.ref a) false/\SeqAt.RcAt A s (.ref a) v false:=by
 cases u with
 |non=>cases r;exact⟨.none_tuple p z,.tuple_none p z,.none_tuple p z,.tuple_none p z⟩
 |bl b=>cases r;exact⟨.bool_tuple b p z,.tuple_bool b p z,.bool_tuple b p z,.tuple_bool b p z⟩
 |int b=>obtain⟨t,rfl⟩:=r;exact⟨.int_tuple b t p z,.tuple_int b t p z,.int_tuple b t p z,.tuple_int b t p z⟩
 |str b=>obtain⟨t,rfl⟩:=r;exact⟨.str_tuple b t p z,.tuple_str b t p z,.str_tuple b t p z,.tuple_str b t p z⟩
 | _=>exact absurd (show false=true from f) pd
def iO(z:A.units<cLine)(f:ik u=true)(r:aF u v)(p:s.heap.IsList a its) :
  SeqAt.EqAt A s v (.ref a) false/\SeqAt.EqAt A s (.ref a) v false/\SeqAt.RcAt A s v (.ref a) false/\SeqAt.RcAt A s (.ref a) v false:=by
 cases u with
 |non=>cases r;exact⟨.none_list p z,.list_none p z,.none_list p z,.list_none p z⟩
 |bl b=>cases r;exact⟨.bool_list b p z,.list_bool b p z,.bool_list b p z,.list_bool b p z⟩
 |int b=>obtain⟨t,rfl⟩:=r;exact⟨.int_list b t p z,.list_int b t p z,.int_list b t p z,.list_int b t p z⟩
 |str b=>obtain⟨t,rfl⟩:=r;exact⟨.str_list b t p z,.list_str b t p z,.str_list b t p z,.list_str b t p z⟩
 | _=>exact absurd (show false=true from f) pd
def yQ(J:aF y u)(z:aF x v)(Y:ik y=true)(U:ik x=true):SeqAt.RcAt A s u v (eqV y x):=by
 cases y with
 |non =>
  cases J;cases x with
  |non=>cases z;exact SeqAt.RcAt.none_none
  |bl b=>cases z;exact SeqAt.RcAt.none_bool b
  |int b=>obtain⟨t,rfl⟩:=z;exact SeqAt.RcAt.none_int b t
  |str b=>obtain⟨t,rfl⟩:=z;exact SeqAt.RcAt.none_str b t
  | _=>exact absurd (show false=true from U) pd
 |bl a =>
  cases J;cases x with
  |non=>cases z;exact SeqAt.RcAt.bool_none a
  |bl b=>cases z;exact SeqAt.RcAt.bool_bool a b
  |int b=>obtain⟨t,rfl⟩:=z;exact SeqAt.RcAt.bool_int a b t
  |str b=>obtain⟨t,rfl⟩:=z;exact SeqAt.RcAt.bool_str a b t
  | _=>exact absurd (show false=true from U) pd
 |int a =>
  obtain⟨t',rfl⟩:=J;cases x with
  |non=>cases z;exact SeqAt.RcAt.int_none a t'
  |bl b=>cases z;exact SeqAt.RcAt.int_bool a t' b
  |int b=>obtain⟨t,rfl⟩:=z;exact SeqAt.RcAt.int_int a t' b t
  |str b=>obtain⟨t,rfl⟩:=z;exact SeqAt.RcAt.int_str a t' b t
  | _=>exact absurd (show false=true from U) pd
 |str a =>
  obtain⟨t',rfl⟩:=J;cases x with
  |non=>cases z;exact SeqAt.RcAt.str_none a t'
  |bl b=>cases z;exact SeqAt.RcAt.str_bool a t' b
  |int b=>obtain⟨t,rfl⟩:=z;exact SeqAt.RcAt.str_int a t' b t
  |str b=>obtain⟨t,rfl⟩:=z;exact SeqAt.RcAt.str_str a t' b t
  | _=>exact absurd (show false=true from U) pd
 | _=>exact absurd (show false=true from Y) pd
def mW{n:Nat}{x y:PV}{u v:V}{b:Bool}(z:Rep X.K H x u)(J:Rep X.K H y v)(U:ik u=true)(Y:ik v=true)(h:eqF n x y=some b):b=eqV u v:=by
 cases x<;>cases y<;>simp only[Rep]at z J
 all_goals first
  | (obtain⟨_,_,rfl,_⟩:=z;exact absurd (show false=true from U) pd)
  | (obtain⟨_,_,rfl,_⟩:=J;exact absurd (show false=true from Y) pd)
  | (obtain⟨_,rfl,_⟩:=z;exact absurd (show false=true from U) pd)
  | (obtain⟨_,rfl,_⟩:=J;exact absurd (show false=true from Y) pd)
  | (subst z J;cases n<;>cases h<;>rfl)
def fG{y:PV}{v:V}(r:Rep X.K H y v)(f:ik v=true):DS y=false:=by
 cases y with
 |tup _=>obtain⟨_,_,rfl,_⟩:=r;cases f
 |lst _=>obtain⟨_,_,rfl,_⟩:=r;cases f
 | _=>rfl
def p0(I:Inv X pins σ H s):∀(n:Nat) (x y:PV) {ux uy:V}{vx vy:Value}{b:Bool}{A:Around},A.units+n<cLine->eqF n x y=some b->Rep X.K H x ux->Rep X.K H y uy->aF ux vx->aF uy vy ->
  SeqAt.EqAt A s vx vy b/\SeqAt.RcAt A s vx vy b:=by
 intro n
 induction n with
 |zero =>
  intro x y ux uy vx vy b A hu h rx U r1 Y;have z:A.units<cLine:=by omega
  rcases cX (fP h).1 rx with⟨xs,rfl⟩|⟨xs,rfl⟩|fx
  .obtain⟨a,us,its,rfl,rfl,t1,w1,p1,l1⟩:=rx.tupAt I r1;rcases cX (fP h).2 U with⟨ys,rfl⟩|⟨ys,rfl⟩|Z
   .cases h
   .obtain⟨c,ws,J,rfl,rfl,t2,w2,p2,l2⟩:=U.lstAt I Y;cases h;exact⟨.tuple_list p1 p2 z,.tuple_list p1 p2 z⟩
   .obtain⟨z1,z2,z3,z4⟩:=gL z Z Y p1;have:b=false:=fF h (by rw[fG U Z];rfl);subst this;exact⟨z2,z4⟩
  .obtain⟨a,us,its,rfl,rfl,t1,w1,p1,l1⟩:=rx.lstAt I r1;rcases cX (fP h).2 U with⟨ys,rfl⟩|⟨ys,rfl⟩|Z
   .obtain⟨c,ws,J,rfl,rfl,t2,w2,p2,l2⟩:=U.tupAt I Y;cases h;exact⟨.list_tuple p1 p2 z,.list_tuple p1 p2 z⟩
   .cases h
   .obtain⟨z1,z2,z3,z4⟩:=iO z Z Y p1;have:b=false:=fF h (by rw[fG U Z];rfl);subst this;exact⟨z2,z4⟩
  .rcases cX (fP h).2 U with⟨ys,rfl⟩|⟨ys,rfl⟩|Z
   .obtain⟨c,ws,J,rfl,rfl,t2,w2,p2,l2⟩:=U.tupAt I Y;obtain⟨z1,z2,z3,z4⟩:=gL z fx r1 p2;have:b=false:=fF h (by rw[fG rx fx];rfl);subst this;exact⟨z1,z3⟩
   .obtain⟨c,ws,J,rfl,rfl,t2,w2,p2,l2⟩:=U.lstAt I Y;obtain⟨z1,z2,z3,z4⟩:=iO z fx r1 p2;have:b=false:=fF h (by rw[fG rx fx];rfl);subst this;exact⟨z1,z3⟩
   .rw[mW rx U fx Z h];exact⟨xK r1 Y fx Z,yQ r1 Y fx Z⟩
 |succ n ih =>
  intro x y ux uy vx vy b A hu h rx U r1 Y;have z:A.units<cLine:=by omega
  obtain⟨kt,kl⟩:=Bk I (λx y {_ _ _ _ _ _} a1 a2 a3 a4 a5 a6=>(ih x y a1 a2 a3 a4 a5 a6).1) hu;rcases cX (fP h).1 rx with⟨xs,rfl⟩|⟨xs,rfl⟩|fx
  .obtain⟨a,us,its,e1,a0,t1,w1,p1,l1⟩:=rx.tupAt I r1;rcases cX (fP h).2 U with⟨ys,rfl⟩|⟨ys,rfl⟩|Z
   .have q:=kt h rx U r1 Y;obtain⟨c,ws,J,e2,a7,t2,w2,p2,l2⟩:=U.tupAt I Y;subst e1 a0 e2 a7;refine⟨?_,q⟩;by_cases b2:a=c
    .subst b2;have e:=lY I _ _ rx U;rw[e]at h;rw[jL _ _ h];exact .same _
    .exact .of_refs b2 q
   .obtain⟨c,ws,J,e2,a7,t2,w2,p2,l2⟩:=U.lstAt I Y;subst e1 a0 e2 a7;cases h;exact⟨.tuple_list p1 p2 z,.tuple_list p1 p2 z⟩
   .subst e1 a0;obtain⟨z1,z2,z3,z4⟩:=gL z Z Y p1;have:b=false:=fF h (by rw[fG U Z];rfl);subst this;exact⟨z2,z4⟩
  .obtain⟨a,us,its,e1,a0,t1,w1,p1,l1⟩:=rx.lstAt I r1;rcases cX (fP h).2 U with⟨ys,rfl⟩|⟨ys,rfl⟩|Z
   .obtain⟨c,ws,J,e2,a7,t2,w2,p2,l2⟩:=U.tupAt I Y;subst e1 a0 e2 a7;cases h;exact⟨.list_tuple p1 p2 z,.list_tuple p1 p2 z⟩
   .have q:=kl h rx U r1 Y;obtain⟨c,ws,J,e2,a7,t2,w2,p2,l2⟩:=U.lstAt I Y;subst e1 a0 e2 a7;refine⟨?_,q⟩;by_cases b2:a=c
    .subst b2;have e:=lY I _ _ rx U;rw[e]at h;rw[jL _ _ h];exact .same _
    .exact .of_refs b2 q
   .subst e1 a0;obtain⟨z1,z2,z3,z4⟩:=iO z Z Y p1;have:b=false:=fF h (by rw[fG U Z];rfl);subst this;exact⟨z2,z4⟩
  .rcases cX (fP h).2 U with⟨ys,rfl⟩|⟨ys,rfl⟩|Z
   .obtain⟨c,ws,J,rfl,rfl,t2,w2,p2,l2⟩:=U.tupAt I Y;obtain⟨z1,z2,z3,z4⟩:=gL z fx r1 p2;have:b=false:=fF h (by rw[fG rx fx];rfl);subst this;exact⟨z1,z3⟩
   .obtain⟨c,ws,J,rfl,rfl,t2,w2,p2,l2⟩:=U.lstAt I Y;obtain⟨z1,z2,z3,z4⟩:=iO z fx r1 p2;have:b=false:=fF h (by rw[fG rx fx];rfl);subst this;exact⟨z1,z3⟩
   .rw[mW rx U fx Z h];exact⟨xK r1 Y fx Z,yQ r1 Y fx Z⟩
end
section
variable{X:Cx}
def DU(hu:X.A.units+101<cLine):OpR X (compareOp .Eq) (λz J H Q=>∃x y b,Rep X.K H x z/\Rep X.K H y J/\eqF 100 x y=some b/\Q (.bl b) H):=by
 intro pins s σ H z J v u Q I U Y h;obtain⟨x,y,b,Z,r2,e,q⟩:=h;exact(p0 I 100 x y (by omega) e Z r2 U Y).2 _ _ _ _ ⟨.bl b,H,I,rfl,q⟩
def DV(hu:X.A.units+101<cLine):OpR X (compareOp .NotEq) (λux uy H Q=>∃x y b,Rep X.K H x ux/\Rep X.K H y uy/\re x y=true/\eqF 100 x y=some b/\Q (.bl (!b)) H):=by
 intro pins s σ H ux uy v u Q I rx ry h;obtain⟨x,y,b,Y,r2,ok,e,q⟩:=h;rcases cX (fP e).1 Y with⟨xs,rfl⟩|⟨xs,rfl⟩|fx
 .cases y with
  |tup ys =>
   refine ax λZq kq=>?_
   obtain⟨a,us,its,rfl,rfl,t1,w1,p1,l1⟩:=Y.tupAt I rx;obtain⟨c,ws,U,rfl,rfl,t2,w2,p2,l2⟩:=r2.tupAt I ry;have e:eqL (eqF 99) xs ys=some b:=e;obtain⟨hs,hb⟩:=jM xs ys e;obtain⟨⟨cls,dd,data,sl⟩,ho,hc,n,hd⟩:=id p1;obtain⟨⟨b1,ar,data2,aO⟩,J,Z,n2,ao⟩:=id p2;simp only at hc hd Z ao;subst hc hd Z ao;refine kq ?_;refine Kp (op:=.NotEq) ⟨_,ho,rfl⟩ ⟨_,J,rfl⟩ PySem.F.slot_tuple_ne PySem.F.entry_tuple_ne (PySem.F.args_tuple_ne_2 _ _) (SeqAt.tuple_neAt a c its.toArray U.toArray n n2 dd ar sl aO _)
    ⟨ho,J,jN (n:=99) (λx y {_ _ _ _ _ _} a1 a2 a3 a4 a5 a6=>(p0 I 99 x y a1 a2 a3 a4 a5 a6).1) (by omega) t1 t2 w1 w2 hs,?_⟩ (by omega)
   refine⟨(λx=>nomatch x),⟨.bl (!b),H,I,?_,q⟩⟩;rw[hb];simp[l1,l2,L2.aF]
  | _=>cases ok
 .cases y with
  |lst ys =>
   refine ax λZq kq=>?_
   obtain⟨a,us,its,rfl,rfl,t1,w1,p1,l1⟩:=Y.lstAt I rx;obtain⟨c,ws,U,rfl,rfl,t2,w2,p2,l2⟩:=r2.lstAt I ry;have e:(if xs.length=ys.length then eqL (eqF 99) xs ys else some false)=some b:=e;obtain⟨⟨cls,dd,data,sl⟩,ho,hc,n,hd⟩:=id p1;obtain⟨⟨b1,ar,data2,aO⟩,J,Z,n2,ao⟩:=id p2;simp only at hc hd Z ao;subst hc hd Z ao;refine kq ?_;by_cases hl:xs.length=ys.length
   .rw[if_pos hl]at e;obtain⟨hs,hb⟩:=jM xs ys e;refine Kp (op:=.NotEq) ⟨_,ho,rfl⟩ ⟨_,J,rfl⟩ PySem.F.slot_list_ne PySem.F.entry_list_ne (PySem.F.args_list_ne_2 _ _) (SeqAt.list_neAt a c its.toArray U.toArray n n2 dd ar sl aO (by simp only[tr];omega) _)
     ⟨ho,J,jN (n:=99) (λx y {_ _ _ _ _ _} a1 a2 a3 a4 a5 a6=>(p0 I 99 x y a1 a2 a3 a4 a5 a6).1) (by omega) t1 t2 w1 w2 hs,?_⟩ (by omega)
    refine⟨(λx=>nomatch x),⟨.bl (!b),H,I,?_,q⟩⟩;rw[hb,hl,LX];simp[<- l1,hl,L2.aF]
   .rw[if_neg hl]at e;cases e;refine Kp (op:=.NotEq) ⟨_,ho,rfl⟩ ⟨_,J,rfl⟩ PySem.F.slot_list_ne PySem.F.entry_list_ne (PySem.F.args_list_ne_2 _ _) (SeqAt.list_ne_lengthsAt a c its.toArray U.toArray n n2 dd ar sl aO (by simp only[tr,bne_iff_ne];omega)) ⟨ho,J,?_⟩ (by omega);exact⟨(λx=>nomatch x),⟨.bl true,H,I,rfl,q⟩⟩
  | _=>cases ok
 .have fy:ik uy=true:=by
   rcases cX (fP e).2 r2 with⟨ys,rfl⟩|⟨ys,rfl⟩|fy
   .cases x<;>cases ok
    obtain⟨_,_,rfl,_⟩:∃a us,ux=V.ref a/\_:=by rw[Rep]at Y;exact Y
    exact absurd (show false=true from fx) pd
   .cases x<;>cases ok
    obtain⟨_,_,rfl,_⟩:∃a us,ux=V.ref a/\_:=by rw[Rep]at Y;exact Y
    exact absurd (show false=true from fx) pd
   .exact fy
  have hb:=mW Y r2 fx fy e;subst hb;refine FQ pins s σ H ux uy v u Q I rx ry ?_;have key:scal ux uy=true/\decide (ux=uy)=eqV ux uy:=by
   cases x<;>cases y<;>simp only[Rep]at Y r2<;>first
    | (obtain⟨_,_,rfl,_⟩:=Y;exact absurd (show false=true from fx) pd)
    | (obtain⟨_,_,rfl,_⟩:=r2;exact absurd (show false=true from fy) pd)
    | (obtain⟨_,rfl,_⟩:=Y;exact absurd (show false=true from fx) pd)
    | (obtain⟨_,rfl,_⟩:=r2;exact absurd (show false=true from fy) pd)
    | (subst Y r2;first|(cases ok;done)|exact⟨rfl,by first|exact uI|exact xz|exact uJ|exact IP rfl|exact Jd (λz=>by cases z)⟩)
  exact⟨key.1,by rw[key.2];exact q⟩
def jO(I:Inv X pins σ H s)(hu:X.A.units+101<cLine)(rx:Rep X.K H x ux)(r1:aF ux vx)(t:Reps X.K H xs us)(w:aI us its)(h:isIn x xs=some b) :
  ∃e,(∀y,y∈its.toArray->SeqAt.EqAt X.A.in1 s y vx (e y))/\its.toArray.any e=b:=by
 obtain⟨h1,h2⟩:=vd xs h
 classical
 have J:∀z u y,aF u y->Rep X.K H z u->∀p:(∃z u,aF u y/\Rep X.K H z u),p.choose=z:=λz u y r q p=>by
  obtain⟨u',r',q'⟩:=p.choose_spec;have e:=r.inj r';subst e;exact lY I _ _ q' q
 refine⟨λy=>if p:∃z u,aF u y/\Rep X.K H z u then(eqF 100 p.choose x).getD false else false,?_,?_⟩
 .intro y hy;refine ax λZq kq=>?_
  obtain⟨j,hj,e⟩:=getElem_of_mem (by simpa using hy:y∈its);have ej:its[j]?=some y:=by rw[IJ hj,e]
  have l1:=w.length;obtain⟨U,e1⟩:∃U,us[j]?=some U:=⟨_,IJ (by omega)⟩;obtain⟨wy,e2,Y⟩:=w.get e1;rw[ej]at e2;cases e2;obtain⟨z,e3,Z⟩:=t.get' e1;obtain⟨c,hc⟩:=h1 z (J0 e3);have q:=(p0 I 100 z x (A:=X.A.in1) (show X.A.units+1+100<cLine by omega) hc Z rx Y r1).1;have p:∃z u,aF u y/\Rep X.K H z u:=⟨z,U,Y,Z⟩;have e4:=J z U y Y Z p;refine kq ?_
  simp_all
 .rw[h2];simp only[any_toArray];clear h h1 h2
  induction xs generalizing us its with
  |nil =>
   rw[Reps]at t;subst t;cases w
   rfl
  |cons z zs ih =>
   rw[Reps]at t;obtain⟨u,r,rfl,q,t⟩:=t;cases w with
   |cons rv w =>
    rename_i y ys;have p:∃z u,aF u y/\Rep X.K H z u:=⟨z,u,rv,q⟩;have e4:=J z u y rv q p;rw[any_cons,any_cons,ih t w];simp only[p,dite_true,e4]
def DW(U:X.A.units+101<cLine):OpR X (compareOp .In) (λY Z H Q=>∃x xs a us b,Rep X.K H x Y/\Z=.ref a/\(SqL X.K H a us\/SqT X.K H a us)/\Reps X.K H xs us/\isIn x xs=some b/\Q (.bl b) H):=by
 intro pins s σ H Y Z v u Q I rx ry h;obtain⟨x,xs,a,us,b,r1,rfl,z,r2,e,q⟩:=h;cases ry;rcases z with z|z
 .obtain⟨its,r,J,hz⟩:=I.list z;obtain⟨f,h1,h2⟩:=jO I U r1 rx r2 r e;refine SeqAt.in_listAt f J.isList h1 ?_;rw[h2];exact⟨.bl b,H,I,rfl,q⟩
 .obtain⟨its,r,J,hz⟩:=I.tuple z;obtain⟨f,h1,h2⟩:=jO I U r1 rx r2 r e;refine SeqAt.in_tupleAt f J h1 ?_;rw[h2];exact⟨.bl b,H,I,rfl,q⟩
def wE(U:X.A.units+101<cLine):OpR X (compareOp .NotIn) (λY Z H Q=>∃x xs a us b,Rep X.K H x Y/\Z=.ref a/\(SqL X.K H a us\/SqT X.K H a us)/\Reps X.K H xs us/\isIn x xs=some b/\Q (.bl (!b)) H):=by
 intro pins s σ H Y Z v u Q I rx ry h;obtain⟨x,xs,a,us,b,r1,rfl,z,r2,e,q⟩:=h;cases ry;rcases z with z|z
 .obtain⟨its,r,J,hz⟩:=I.list z;obtain⟨f,h1,h2⟩:=jO I U r1 rx r2 r e;refine SeqAt.notIn_listAt f J.isList h1 ?_;rw[h2];exact⟨.bl _,H,I,rfl,q⟩
 .obtain⟨its,r,J,hz⟩:=I.tuple z;obtain⟨f,h1,h2⟩:=jO I U r1 rx r2 r e;refine SeqAt.notIn_tupleAt f J h1 ?_;rw[h2];exact⟨.bl _,H,I,rfl,q⟩
end
end MM
namespace L2
open PySem PySem.Spec PyProof.Rows List Option
theorem PE.imp(h:PE X e t)(i:∀σ H Q,t' σ H Q->t σ H Q):PE X e t':=λpins s σ H Q I q=>h pins s σ H Q I (i σ H Q q)
theorem PT.imp(h:PT X e t)(i:∀σ H Q,t' σ H Q->t σ H Q):PT X e t':=λpins s σ H Q I q=>h pins s σ H Q I (i σ H Q q)
theorem PA.imp(h:PA X e t)(i:∀σ H Q,t' σ H Q->t σ H Q):PA X e t':=λpos pins s σ H Q I q=>h pos pins s σ H Q I (i σ H Q q)
theorem PS.imp(h:PS X e t)(i:∀D σ H,t' D σ H->t D σ H):PS X e t':=λpins s σ H D I q=>h pins s σ H D I (i D σ H q)
theorem PSs.imp(h:PSs X e t)(i:∀D σ H,t' D σ H->t D σ H):PSs X e t':=λpins s σ H D I q=>h pins s σ H D I (i D σ H q)
theorem PI.imp(h:PI X tg e t)(i:∀σ H R,t' σ H R->t σ H R):PI X tg e t':=λpins s σ H R I q=>h pins s σ H R I (i σ H R q)
end L2
namespace MM
open PySem PySem.Spec PyProof.Rows L2 List Option
noncomputable def i8(H:Hp)(ms:List Addr):Hp:=λb=>if b∈ms then none else H b
def lb(K:L8)(O:List Addr)(H:Hp):MV->V->Prop
 | .val v,u=>Rep K (az H O) v u
 | .brw xs,u=>∃a us,u=.ref a/\SqL K H a us/\Reps K (az H O) xs us
 | .own _,_=>False
 | .ownD _,_=>False
 | .mutD _,_=>False
 | .brwD kvs,u=>∃a,u=.ref a/\Rd H a (iw kvs)
noncomputable def spM(K:L8)(cal:Cal)(f:Nat):Sp:=λvs H Q _ =>
 ∃O args r,(∀a∈O,H a≠none)/\Paired (lb K O H) args vs/\cal f args=some r/\∀u H',aj H H'->Rep K (az H' O) r u->Q u H'
noncomputable def spF(K:L8)(cal:Cal)(f:Nat):Sp:=λvs H Q _ =>
 ∃O args xs,(∀a∈O,H a≠none)/\Paired (lb K O H) args vs/\cal (f+1000) args=some (.lst xs)/\∀p us H',aj H H'->H p=none->H' p=some (.lst us)->Reps K (az H' (p::O)) xs us->Q (.ref p) H'
def DX(K:L8)(O:List Addr)(H:Hp):MV->V->Prop
 | .val v,u=>Rep K (az H O) v u
 | .mutD d,u=>∃a,u=.ref a/\DAt K H O a d/\a∈O
 | _,_=>False
inductive cG(K:L8)(O:List Addr)(H':Hp):List MV->List V->List PV->List Addr->Prop where
 | nil:cG K O H' [] [] [] []
 | mutd {d d':DD}{a:Addr}{as:List MV}{vs:List V}{ds:List PV}{ms:List Addr} (h:DAt K H' O a d') (hn:a∉ms) (t:cG K O H' as vs ds ms):cG K O H' (.mutD d::as) (.ref a::vs) (.dI d'::ds) (a::ms)
 | other {m:MV}{v:V}{as:List MV}{vs:List V}{ds:List PV}{ms:List Addr} (h:∀d,m≠.mutD d) (t:cG K O H' as vs ds ms):cG K O H' (m::as) (v::vs) ds ms
noncomputable def spD(K:L8)(cal:Cal)(f:Nat):Sp:=λvs H Q _ =>
 ∃O args v ds z ms,(∀a∈O,H a≠none)/\Paired (DX K O H) args vs/\cG K O H args vs z ms/\cal (f+2000) args=some (.tup (v::ds)) /\
  ∀u H',(∀b o,b∉ms->H b=some o->H' b=some o)->cG K O H' args vs ds ms->Rep K (az H' O) v u->Q u H'
noncomputable def jP:List String:=["len","tuple","list","sorted","any","all","sum","max","min","int","bool","str","isinstance","set","range","enumerate","reversed"
 ]
noncomputable def toV:PV->V
 | .non=>.non
 | .bl b=>.bl b
 | .int i=>.int i
 | .str x=>.str x
 | _=>.non
structure Gf(X:Cx)(T:Tab)(k:Nat)(cal:Cal):Prop where
 calm:X.calm=true
 room:kh k X.A
 fns:∀(f:Nat) (x:Str),T.fs[f]?=some x->∃(fa:Addr) (fd:FuncData) (ps:List Str),X.mg x=some (.ref fa)/\PySem.W.keepIn X.K (.ref fa)=true/\db X.K fd ps []/\jd X.prog X.w X.K X.mg X.base CX0 k fa fd ps (spM X.K cal f)/\∀l,T.ds[f]?=some l->∃vs,db X.K fd ps vs/\aI (l.map Sc.v) vs
 blt:∀x∈jP,X.mg (x:Str)=none
 gs:∀p∈T.gs,∃u,X.mg p.1=some u/\aF (toV p.2) u
 fnsF:∀(f:Nat) (x:Str),T.fs[f]?=some x->∃(fa:Addr) (fd:FuncData) (ps:List Str),X.mg x=some (.ref fa)/\PySem.W.keepIn X.K (.ref fa)=true/\db X.K fd ps []/\jd X.prog X.w X.K X.mg X.base CX0 k fa fd ps (spF X.K cal f)
 fnsD:∀(f:Nat) (x:Str),T.fs[f]?=some x->∃(fa:Addr) (fd:FuncData) (ps:List Str),X.mg x=some (.ref fa)/\PySem.W.keepIn X.K (.ref fa)=true/\db X.K fd ps []/\jd X.prog X.w X.K X.mg X.base CX0 k fa fd ps (spD X.K cal f)
theorem Gf.units(g:Gf X T k cal):X.A.units+200<cLine:=by have:=g.room.un;omega
def Got(K:L8)(H:Hp)(O:List Addr)(z:ME)(v:PV)(u:V):Prop:=bK K H O v u/\(aK z=false->Rep K (az H O) v u)
noncomputable def tE(K:L8)(cal:Cal)(z:ME):TE:=λσ H Q=>∃B E O W v,aH K B E O H W σ/\ev cal z W=some v/\∀u H',aj H H'->Got K H' O z v u->Q u H'
noncomputable def tT(K:L8)(cal:Cal)(z:ME):TT:=λσ H Q=>∃B E O W b,aH K B E O H W σ/\evB cal z W=some b/\∀H',aj H H'->Q b H'
def Ib(K:L8)(H:Hp)(O:List Addr)(ms:List ME)(vs:List PV)(us:List V):Prop:=Paired (bK K H O) vs us/\((ms.all λm=>!aK m)=true->Reps K (az H O) vs us)
noncomputable def tEs(K:L8)(cal:Cal)(ms:List ME):TA:=λσ H Q=>∃B E O W vs,aH K B E O H W σ/\evs cal ms W=some vs/\∀us H',aj H H'->Ib K H' O ms vs us->Q us H'
noncomputable def tAs(K:L8)(cal:Cal)(ms:List ME):TA:=λσ H Q=>∃B E O W vs,aH K B E O H W σ/\evA cal ms W=some vs/\∀us H',aj H H'->Paired (lb K O H') vs us->Q us H'
section
variable{K:L8}{H H':Hp}{O:List Addr}
theorem Got.of(h:Rep K (az H O) v u):Got K H O z v u:=⟨.inl h,λ_=>h⟩
theorem Got.scal(h:∀F,Rep K F v u):Got K H O z v u:=.of (h _)
theorem Got.mono(s:aj H H')(h:Got K H O z v u):Got K H' O z v u:=⟨h.1.mono s,λe=>Rep.mono (ak s) _ (h.2 e)⟩
def d8(F)(b):Rep K F (.bl b) (.bl b):=rfl
def cb(F)(b):Rep K F (.int b) (.int b):=rfl
def lZ(F)(b):Rep K F (.str b) (.str b):=rfl
def p5(F):Rep K F .non .non:=rfl
def gk(U:∀a∈O,H1 a≠none)(J:H1 p=none)(h:Reps K (az H1 O) xs us):Rep K (az (upd H1 p (.tup us)) O) (.tup xs) (.ref p):=by
 refine⟨p,us,rfl,?_,Reps.mono (ak (aE J _)) _ h⟩;rw[ba (λz=>U p z J)];exact aC
def mX(U:∀a∈O,H1 a≠none)(J:H1 p=none)(h:Reps K (az H1 O) xs us):Rep K (az (upd H1 p (.lst us)) O) (.lst xs) (.ref p):=by
 refine⟨p,us,rfl,SqL.of ?_,Reps.mono (ak (aE J _)) _ h⟩;rw[ba (λz=>U p z J)];exact aC
def bB(s:aj H H')(h:∀a∈O,H a≠none):∀a∈O,H' a≠none:=λa z e=>h a z (s.free e)
def dh(h:n<=10000):n<=sizeLine:=IH h (by decide)
end
section
variable{X:Cx}{T:Tab}{k:Nat}{cal:Cal}
def Gp(h:Dy sc x=true):Vis sc x:=by
 unfold Dy at h;simp[IE]at h;rcases h with(h|h)|h
 .exact .inl h
 .exact .inr (.inl h)
 .exact .inr (.inr h)
def i9(h:gj sc x=true):Loc sc x:=by
 unfold gj at h;simp[IE]at h;exact h
def gN (h:aq x=true):(x==("__debug__":Str))=false/\(x==("__classdict__":Str))=false/\x ≠ "__name__":=by simp_all [aq]
def dv(h:glB X.env.scope x=true):Gl X x:=by
 unfold glB at h;simp at h;exact h
def bY(h:aS X.N X.env.scope i x=true):PE X (.Name x pos) (Fz i):=by
 unfold aS at h;simp[pb,IE]at h;obtain⟨⟨h1,h2⟩,z⟩:=h;obtain⟨p1,p2,_⟩:=gN z;exact CG h1 (Gp h2) p1 p2
def aT{K:L8}(st:aH K B E O H W σ){i:Nat}(e:(W[i]?).join=some m):∃u,σ[i]?=some (some u)/\eV K B O H m u:=st.slot i m (join_some e)
def Cn(h:aS X.N X.env.scope i x=true):PE X (.Name x pos) (tE X.K cal (.var i)):=by
 refine(bY h).imp λσ H Q U=>?_
 obtain⟨B,E,O,W,v,st,z,q⟩:=U;rw[ev]at z;cases J:(W[i]?).join with
 |none=>rw[J]at z;cases z
 |some m =>
  rw[J]at z;cases m with
  |val w =>
   simp[yy]at z;subst z;obtain⟨u,Y,r⟩:=aT st J;exact⟨u,Y,q u H (aj.refl H) (.of r)⟩
  | _=>cases z
def Co(h:aS X.N X.env.scope i x=true):PE X (.Name x pos) (tE X.K cal (.bor i)):=by
 refine(bY h).imp λσ H Q Y=>?_
 obtain⟨B,E,O,W,v,st,J,q⟩:=Y;rw[ev]at J;cases U:(W[i]?).join with
 |none=>rw[U]at J;cases J
 |some m =>
  rw[U]at J;obtain⟨u,Z,r⟩:=aT st U;exact⟨u,Z,q u H (aj.refl H) ⟨r.bor st.keep J,λz=>by cases z⟩⟩
def Cq(h:tJ v c=true):PE X (.Constant c j pos) (tE X.K cal (.cst v)):=by
 have key:∀u,_->PE X (.Constant c j pos) _->PE X _ (tE X.K cal (.cst v)):=λu r p=>p.imp λσ H Q z=>by
  obtain⟨B,E,O,W,w,st,J,q⟩:=z;cases J;exact q u H (aj.refl H) (.scal r)
 cases v<;>cases c<;>simp[tJ,IK,IE]at h
 .exact key .non (λF=>p5 F) CI
 .subst h;exact key _ (λF=>d8 F _) FA
 .subst h;exact key _ (λF=>cb F _) CH
 .subst h;exact key _ (λF=>lZ F _) sD
def yR(g:Gf X T k cal)(h:(x==y&&glB X.env.scope x&&Ci T.gs x v&&aq x)=true):PE X (.Name y pos) (tE X.K cal (.glob x v)):=by
 simp[pb,IE]at h;obtain⟨⟨⟨rfl,Y⟩,hs⟩,Z⟩:=h;obtain⟨p,U,J⟩:=Jp.mp hs;simp[pb,IE]at J;obtain⟨rfl,hv⟩:=J;obtain⟨u,e1,r⟩:=g.gs p U;have e:p.2=v/\∀F,Rep X.K F v (toV v):=by
  revert hv;generalize p.2=z;intro hv;cases z<;>cases v<;>simp[Ch,IK,IE]at hv
  .exact⟨rfl,λF=>p5 F⟩
  .subst hv;exact⟨rfl,λF=>d8 F _⟩
  .subst hv;exact⟨rfl,λF=>cb F _⟩
  .subst hv;exact⟨rfl,λF=>lZ F _⟩
 rw[e.1]at r;refine(Aq (dv Y) e1 r (gN Z).1).imp λσ H Q hq=>?_
 obtain⟨B,E,O,W,w,st,he,q⟩:=hq;cases he;exact q _ H (aj.refl H) (.scal e.2)
end
section
variable{X:Cx}
noncomputable def R2M(K:L8)(f:PV->PV->Option PV):R2:=λz J H Q =>
 ∃O x y v,(∀a∈O,H a≠none)/\bK K H O x z/\bK K H O y J/\f x y=some v/\∀u H',aj H H'->Rep K (az H' O) v u->Q u H'
def kH{g:Int->Int->Int}(h:OpR X (binaryOp op) (rI C λi j=>.int (g i j)))
  (z:∀x y v,f x y=some v->∃i j,x=.int i/\y=.int j/\C i j/\v=.int (g i j)):OpR X (binaryOp op) (R2M X.K f):=by
 intro pins s σ H ux uy v u Q I J U Y;refine ax λZq Z=>?_
 obtain⟨O,x,y,w,hO,r1,r2,e,q⟩:=Y;obtain⟨i,j,rfl,rfl,c,rfl⟩:=z x y w e;have e1:=r1.int;have e2:=r2.int;subst e1 e2;refine Z ?_;exact h pins s σ H _ _ v u Q I J U ⟨i,j,rfl,rfl,c,q _ H (aj.refl H) (cb _ _)⟩
def Bl:OpR X (binaryOp .Add) (λx y H Q=>∃l b xs zs,x=.ref l/\y=.ref b/\SqL X.K H l xs/\SqL X.K H b zs/\xs.length+zs.length<=sizeLine/\∀p,H p=none->Q (.ref p) (upd H p (.lst (xs++zs)))):=by
 intro pins s σ H x y v u Q I rx ry h;refine ax λZq kq=>?_
 obtain⟨l,b,xs,zs,rfl,rfl,hH,hB,hz,q⟩:=h;cases rx;cases ry;obtain⟨its,r,pl,_⟩:=I.list hH;obtain⟨z,r2,Z,_⟩:=I.list hB;have l1:=r.length;have l2:=r2.length;obtain⟨⟨cls,dd,data,sl⟩,ho,hc,n,hd⟩:=pl.isList;obtain⟨⟨a0,ao,data2,ar⟩,J,U,n2,Y⟩:=Z.isList;simp only at hc hd U Y;subst hc hd U Y;have e:its.toArray++z.toArray=(its++z).toArray:=by simp
 refine kq ?_;refine LS ⟨_,ho,rfl⟩ ⟨_,J,rfl⟩ noFill_list_add seq_list_add PySem.F.slot_list_add PySem.F.entry_list_add (PySem.F.args_list_add_2 _ _) (list_addW l b its.toArray z.toArray n n2 dd ao sl ar (by rw[tr,tr];omega)) ⟨ho,J,?_⟩;rw[e];exact⟨.ref _,_,I.lnew (r.append r2) (by rw[IC];omega),rfl,q _ I.fresh⟩
def Bm:OpR X (binaryOp .Add) (λx y H Q=>∃a b ys,x=.ref a/\y=.ref b/\SqT X.K H a []/\SqT X.K H b ys/\Q (.ref b) H):=by
 intro pins s σ H x y v u Q I rx ry h;refine ax λZq kq=>?_
 obtain⟨a,b,ys,rfl,rfl,ha,hb,q⟩:=h;cases rx;cases ry;obtain⟨its,r1,⟨⟨c1,d1,t1,l1⟩,ho,hc,n,hd⟩,_⟩:=I.tuple ha;obtain⟨U,r2,⟨⟨c2,d2,t2,l2⟩,Y,Z,n2,ao⟩,_⟩:=I.tuple hb;cases hc;cases hd;cases Z;cases ao;have z:=r1.nil_iff.mpr rfl;have J:=tuple_addW0 a b its.toArray U.toArray n n2 d1 d2 l1 l2 (by simp[z]);refine kq ?_;exact LS ⟨_,ho,rfl⟩ ⟨_,Y,rfl⟩ LU seq_tuple_add PySem.F.slot_tuple_add PySem.F.entry_tuple_add (PySem.F.args_tuple_add_2 _ _) J ⟨ho,Y,.ref b,H,I,rfl,q⟩
def eO(h:jH f x y=some v):∃i j,x=.int i/\y=.int j/\f i j=some v:=by
 cases x<;>try (cases h;done)
 cases y<;>try (cases h;done)
 exact⟨_,_,rfl,rfl,h⟩
def jQ{C:Int->Int->Prop} [∀i j,Decidable (C i j)] {g:Int->Int->Int}{x y v:PV} (h:jH (λi j=>if C i j then some (.int (g i j))else none) x y=some v):∃i j,x=.int i/\y=.int j/\C i j/\v=.int (g i j):=by
 obtain⟨i,j,z,J,U⟩:=eO h
 simp_all
def tO(op):OpR X (binaryOp (tI op)) (R2M X.K (dQ op)):=by
 cases op with
 |sub=>exact kH (C:=λ_ _=>True) (g:=λi j=>i-j) (λpins s σ H x y v u Q I J U h=>CZ pins s σ H x y v u Q I J U (by obtain⟨i,j,Y,Z,_,q⟩:=h;exact⟨i,j,Y,Z,q⟩)) (λx y v h=>by
   obtain⟨i,j,Y,Z,e3⟩:=eO h;exact⟨i,j,Y,Z,trivial,(II e3).symm⟩)
 |mul=>exact kH C0 λx y v h=>by have q:=jQ h;exact q
 |fdiv=>exact kH Aw λx y v h=>by have q:=jQ h;exact q
 |mod=>exact kH C1 λx y v h=>by have q:=jQ h;exact q
 |pow=>exact kH C2 λx y v h=>by have q:=jQ h;exact q
 |shr=>exact kH C3 λx y v h=>by have q:=jQ h;exact q
 |add =>
  intro pins s σ H ux uy v u Q I J U hq;obtain⟨O,x,y,w,hO,r1,r2,e,q⟩:=hq;cases x<;>try (cases e;done)
  all_goals (cases y<;>simp only[dQ,yx]at e<;>try (cases e;done))
  .cases e;have Y:=r1.int;have Z:=r2.int;subst Y Z;exact CY pins s σ H _ _ v u Q I J U ⟨_,_,rfl,rfl,q _ H (aj.refl H) (cb _ _)⟩
  .split at e
   .rename_i c;cases e;have Y:=r1.str;have Z:=r2.str;subst Y Z;exact sK pins s σ H _ _ v u Q I J U ⟨_,_,rfl,rfl,IH c (by decide),q _ H (aj.refl H) (lZ _ _)⟩
   .cases e
  .split at e
   .rename_i c;cases e;obtain⟨a,us,rfl,s1,t1⟩:=r1.tup;obtain⟨b,ws,rfl,s2,t2⟩:=r2.tup;have l1:=t1.length;have l2:=t2.length;have w1:=r1.tupR;have w2:=r2.tupR;by_cases z0:us=[]
    .subst z0;have z1:=K4 l1;subst z1;exact Bm pins s σ H _ _ v u Q I J U ⟨a,b,ws,rfl,rfl,s1,s2,q _ H (aj.refl H) w2⟩
    refine AF pins s σ H _ _ v u Q I J U ⟨a,b,us,ws,rfl,rfl,s1,s2,z0,dh (by omega),λz=>?_,λz p hp=>?_⟩
    .rw[z,length_nil]at l2;have z1:=K4 l2;subst z1;rw[JD]at q;exact q _ H (aj.refl H) w1
    .exact q _ _ (aE hp _) (gk hO hp (t1.append t2))
   .cases e
  .split at e
   .rename_i c;cases e;obtain⟨a,us,rfl,s1,t1⟩:=r1.lst;obtain⟨b,ws,rfl,s2,t2⟩:=r2.lst;have l1:=t1.length;have l2:=t2.length;exact Bl pins s σ H _ _ v u Q I J U ⟨a,b,us,ws,rfl,rfl,s1,s2,dh (by omega),λp hp=>q _ _ (aE hp _) (mX hO hp (t1.append t2))⟩
   .cases e
noncomputable def R2C(K:L8)(f:PV->PV->Option Bool):R2:=λz J H Q =>
 ∃O x y b,bK K H O x z/\bK K H O y J/\f x y=some b/\Q (.bl b) H
def l0{g:Int->Int->Bool}(h:OpR X (compareOp op) (rI0 λi j=>.bl (g i j)))
  (z:∀x y v,f x y=some v->∃i j,x=.int i/\y=.int j/\v=g i j):OpR X (compareOp op) (R2C X.K f):=by
 intro pins s σ H ux uy v u Q I J U Y;refine ax λZq Z=>?_
 obtain⟨O,x,y,w,r1,r2,e,q⟩:=Y;obtain⟨i,j,rfl,rfl,rfl⟩:=z x y w e;have e1:=r1.int;have e2:=r2.int;subst e1 e2;refine Z ?_;exact h pins s σ H _ _ v u Q I J U ⟨i,j,rfl,rfl,q⟩
def DY:OpR X (compareOp .Is) (λx y H Q=>∃p q,x=.bl p/\y=.bl q/\Q (.bl (p==q)) H):=by
 rintro pins s σ H x y v u Q I z J ⟨p,q,rfl,rfl,U⟩;cases z;cases J;exact g4 (cn I U (by cases p<;>cases q<;>rfl))
def wF:OpR X (compareOp .IsNot) (λx y H Q=>∃p q,x=.bl p/\y=.bl q/\Q (.bl (!(p==q))) H):=by
 rintro pins s σ H x y v u Q I z J ⟨p,q,rfl,rfl,U⟩;cases z;cases J;exact g4 (cn I U (by cases p<;>cases q<;>rfl))
def ve{K:L8}(r:bK K H O x u):decide (u=.non)=mN x:=by
 cases x with
 |non=>rw[r.non];rfl
 |bl b=>rw[r.bl];rfl
 |int b=>rw[r.int];rfl
 |str b=>rw[r.str];rfl
 |tup xs=>obtain⟨a,us,rfl,_⟩:=r.tup;rfl
 |lst xs=>obtain⟨a,us,rfl,_⟩:=r.lst;rfl
 |dI kvs=>obtain⟨a,rfl,_⟩:=r.dI;rfl
def yS(hu:X.A.units+200<cLine)(op):OpR X (compareOp (yI op)) (R2C X.K (cK op)):=by
 cases op with
 |lt=>exact l0 FR λx y v h=>by obtain⟨i,j,J,z,e3⟩:=eO h;exact⟨i,j,J,z,(II e3).symm⟩
 |le=>exact l0 FS λx y v h=>by obtain⟨i,j,J,z,e3⟩:=eO h;exact⟨i,j,J,z,(II e3).symm⟩
 |gt=>exact l0 FT λx y v h=>by obtain⟨i,j,J,z,e3⟩:=eO h;exact⟨i,j,J,z,(II e3).symm⟩
 |ge=>exact l0 FU λx y v h=>by obtain⟨i,j,J,z,e3⟩:=eO h;exact⟨i,j,J,z,(II e3).symm⟩
 |eq =>
  intro pins s σ H ux uy v u Q I U Y hq;obtain⟨O,x,y,w,Z,r2,e,q⟩:=hq;exact DU (by omega) pins s σ H ux uy v u Q I U Y ⟨x,y,w,Z.whole,r2.whole,e,q⟩
 |ne =>
  intro pins s σ H ux uy v u Q I U Y hq;obtain⟨O,x,y,w,Z,r2,e,q⟩:=hq;simp only[cK]at e;split at e
  .rename_i c;simp only[ti]at e;obtain⟨b,e,rfl⟩:=e;exact DV (by omega) pins s σ H ux uy v u Q I U Y ⟨x,y,b,Z.whole,r2.whole,c,e,q⟩
  .cases e
 |isN =>
  intro pins s σ H ux uy v u Q I U Y hq;obtain⟨O,x,y,w,Z,r2,e,q⟩:=hq;cases y<;>try (cases e;done)
  .have z:=r2.non;subst z;refine C4 pins s σ H ux _ v u Q I U Y ⟨rfl,?_⟩;have e:=e;rw[ve Z,II e];exact q
  .cases x<;>try (cases e;done)
   have J:=Z.bl;have z:=r2.bl;subst J z;exact DY pins s σ H _ _ v u Q I U Y ⟨_,_,rfl,rfl,by rw[II e];exact q⟩
 |notN =>
  intro pins s σ H ux uy v u Q I U Y hq;obtain⟨O,x,y,w,Z,r2,e,q⟩:=hq;cases y<;>try (cases e;done)
  .have z:=r2.non;subst z;refine Ay pins s σ H ux _ v u Q I U Y ⟨rfl,?_⟩;have e:some (!mN x)=some w:=e;rw[ve Z,II e];exact q
  .cases x<;>try (cases e;done)
   have J:=Z.bl;have z:=r2.bl;subst J z;cases e;exact wF pins s σ H _ _ v u Q I U Y ⟨_,_,rfl,rfl,q⟩
 |isIn =>
  intro pins s σ H ux uy v u Q I U Y hq;obtain⟨O,x,y,w,Z,r2,e,q⟩:=hq;simp only[cK,gf]at e;obtain⟨xs,J,z⟩:=e;obtain⟨a,us,rfl,s2,t2⟩:=r2.seq J;exact DW (by omega) pins s σ H ux _ v u Q I U Y ⟨x,_,a,us,w,Z.whole,rfl,s2,Reps.mono (bW H O) _ t2,z,q⟩
 |notIn =>
  intro pins s σ H ux uy v u Q I U Y hq;obtain⟨O,x,y,w,Z,r2,e,q⟩:=hq;simp only[cK,gf,ti]at e;obtain⟨b,⟨xs,J,z⟩,rfl⟩:=e;obtain⟨a,us,rfl,s2,t2⟩:=r2.seq J;exact wE (by omega) pins s σ H ux _ v u Q I U Y ⟨x,_,a,us,b,Z.whole,rfl,s2,Reps.mono (bW H O) _ t2,z,q⟩
def mY(n)(i):place n i=ixN n i:=rfl
def DZ:IxR X (R2M X.K dR):=by
 intro value slice pins s σ H ux uy v u Q I rx ry hq z;obtain⟨O,x,y,w,hO,r1,r2,e,q⟩:=hq;cases x<;>cases y<;>simp[dR]at e<;>try (cases e;done)
 .simp[gf]at e;obtain⟨j,Z,e2⟩:=e;obtain⟨a,us,rfl,s1,U⟩:=r1.tup;have e3:=r2.int;subst e3;obtain⟨Y,e4,J⟩:=U.get e2;refine xJ value slice pins s σ H _ _ v u Q I rx ry (.inr (.inl ⟨a,us,_,Y,rfl,rfl,s1,?_,q Y H (aj.refl H) J⟩)) z;unfold atI;rw[<- U.length,<- mY,Z];exact e4
 .simp[gf]at e;obtain⟨j,Z,e2⟩:=e;obtain⟨a,us,rfl,s1,U⟩:=r1.lst;have e3:=r2.int;subst e3;obtain⟨Y,e4,J⟩:=U.get e2;refine xJ value slice pins s σ H _ _ v u Q I rx ry (.inl ⟨a,us,_,Y,rfl,rfl,s1,?_,q Y H (aj.refl H) J⟩) z;unfold atI;rw[<- U.length,<- mY,Z];exact e4
def tP(h:bv b=true):uM b:=by
 intro o i;cases b<;>first|rfl|(simp[bv]at h)
def rG{K:L8}(h:Reps K F xs us)(lo hi):Reps K F (cut xs lo hi) (v8 us lo hi):=by
 have z:=h.length;have e:∀n d o,gc n d o=HT.sIx n d o:=λn d o=>by cases o<;>rfl
 unfold cut v8;rw[e,e,z];exact(h.drop _).take _
def D0:SlR X (λx lo hi H Q=>∃O v w,(∀a∈O,H a≠none)/\bK X.K H O v x/\iN v lo hi=some w/\∀u H',aj H H'->Rep X.K (az H' O) w u->Q u H'):=by
 intro pins s σ H x v Z vu lo hi sl Q I rx hs pl pu hq;obtain⟨O,pv,w,hO,r1,e,q⟩:=hq;cases pv<;>simp only[iN]at e<;>try (cases e;done)
 .rename_i xs;cases e;obtain⟨a,us,rfl,Y,z⟩:=r1.tup;have e:∀n d o,gc n d o=HT.sIx n d o:=λn d o=>by cases o<;>rfl
  by_cases J:HT.sIx us.length 0 lo=0/\HT.sIx us.length us.length hi=us.length
  .refine A4 pins s σ H _ v Z vu lo hi sl Q I rx hs pl pu ⟨a,us,rfl,Y,J.1,J.2,q _ _ (aj.refl H) ?_⟩;have:cut xs lo hi=xs:=by
    unfold cut;rw[e,e,z.length,J.1,J.2,drop_zero,<- z.length,Nat.sub_zero,take_length]
   rw[this];exact r1.tupR
  .exact C6 pins s σ H _ v Z vu lo hi sl Q I rx hs pl pu ⟨a,us,rfl,Y,J,λp U=>q _ _ (aE U _) (gk hO U (rG z lo hi))⟩
 .cases e;obtain⟨a,us,rfl,Y,z⟩:=r1.lst;exact AH pins s σ H _ v Z vu lo hi sl Q I rx hs pl pu ⟨a,us,rfl,Y,λp U=>q _ _ (aE U _) (mX hO U (rG z lo hi))⟩
end
theorem vf(x):∀l,yu x l=Srt.lH Srt.dC x l
 | []=>rfl
 |y::r=>by
  show(if y<x then y::yu x r else x::y::r)=(if Srt.dC.blt y x=true then y::Srt.lH Srt.dC x r else x::y::r);rw[vf x r];by_cases h:y<x
  .have e:Srt.dC.blt y x=true:=IP h;rw[if_pos h,if_pos e]
  .have e:Srt.dC.blt y x=false:=Jd h;rw[if_neg h,if_neg (by rw[e];exact pd)]
theorem eY:∀l,sortI l=Srt.sortI l
 | []=>rfl
 |x::r=>by
  show yu x (sortI r)=Srt.lH Srt.dC x (Srt.iq Srt.dC r);rw[eY r,vf];rfl
theorem mZ:∀a b,lexLt a b=HT.lexLt a b
 | [],[]=>rfl
 | [],_::_=>rfl
 | _::_,[]=>rfl
 |x::xs,y::ys=>by
  rw[lexLt,HT.lexLt_cons,mZ xs ys]
theorem vg(x):∀l,yw x l=Srt.lH Srt.eS x l
 | []=>rfl
 |y::r=>by
  show(if lexLt y x=true then y::yw x r else x::y::r)=(if Srt.eS.blt y x=true then y::Srt.lH Srt.eS x r else x::y::r);rw[vg x r,mZ]
  rfl
theorem jR:∀l,sortT l=Srt.sortT l
 | []=>rfl
 |x::r=>by
  show yw x (sortT r)=Srt.lH Srt.eS x (Srt.iq Srt.eS r);rw[jR r,vg];rfl
theorem oZ:∀l,dd l=St.dd l
 | []=>rfl
 |x::r=>by
  unfold dd St.dd;rw[oZ r]
def Bn(ns):Srt.sortI (St.dd ns.reverse)=sortI (dd ns):=by
 rw[eY,oZ];refine Srt.sortI_of_perm ?_;refine(J2 (St.dd_nodup _) (St.dd_nodup _)).mpr λa=>?_
 rw[St.fM,St.fM,L5]
def tQ(ns):(St.dd ns.reverse).length=(dd ns).length:=by
 rw[oZ];refine Perm.length_eq ((J2 (St.dd_nodup _) (St.dd_nodup _)).mpr λa=>?_);rw[St.fM,St.fM,L5]
section
variable{X:Cx}{T:Tab}{k:Nat}{cal:Cal}
def RBM(K:L8)(f:List PV->Option PV):List V->Hp->VK->Prop:=λus H Q =>
 ∃O vs v,(∀a∈O,H a≠none)/\Paired (bK K H O) vs us/\f vs=some v/\∀u H',aj H H'->Rep K (az H' O) v u->Q u H'
def p1{K:L8}(h:Paired (bK K H O) [x] us):∃u,us=[u]/\bK K H O x u:=by
 cases h with
 |cons r t=>cases t;exact⟨_,rfl,r⟩
def p2{K:L8}(h:Paired (bK K H O) [x,y] us):∃u w,us=[u,w]/\bK K H O x u/\bK K H O y w:=by
 cases h with
 |cons r t=>cases t with
  |cons z t'=>cases t';exact⟨_,_,rfl,r,z⟩
def dw(h:aG f vs=some v)(z:kF f=some 1\/(du f).isSome=true\/f=.sortedSet\/f=.lenSet\/f=.valuesOf):∃x,vs=[x]:=by
 cases vs with
 |nil=>cases f<;>simp[aG,cz,mO,iX]at h
 |cons x r=>cases r<;>first|exact⟨x,rfl⟩|(cases f<;>simp[aG,cz,iX,kF,du]at h z)
def Gq:b_ X (.builtin "len") (RBM X.K (aG .len)):=by
 intro pins s σ H xs us Q I r h;obtain⟨O,vs,v,hO,rs,e,q⟩:=h;obtain⟨x,rfl⟩:=dw e (.inl rfl);obtain⟨u,rfl,U⟩:=p1 rs;cases x<;>simp[aG,cz]at e<;>try (cases e;done)
 .cases e;obtain⟨a,J,rfl,Y,Z⟩:=U.tup;exact gI pins s σ H _ us Q I r ⟨a,J,rfl,.inr Y,by rw[<- Z.length];exact q _ H (aj.refl H) (cb _ _)⟩
 .cases e;obtain⟨a,J,rfl,Y,Z⟩:=U.lst;exact gI pins s σ H _ us Q I r ⟨a,J,rfl,.inl Y,by rw[<- Z.length];exact q _ H (aj.refl H) (cb _ _)⟩
 .rename_i d;cases d with
  |k kvs =>
   cases e;obtain⟨a,rfl,ha⟩:=U.dI;obtain⟨u,rfl,ru⟩:=eC r;cases ru;obtain⟨hz,hs,J,ao,dd⟩:=jA I.hok (show Rd H a (.dK _)from ha.rd);have z:J.length=kvs.length:=by rw[<- ao.length];unfold iu;rw[tf]
   have hz:kvs.length<=sizeLine:=by unfold iu at hz;rw[tf]at hz;exact hz
   have hn:=kg;exact call_len_dict hs dd (by rw[z];omega) ⟨.int kvs.length,H,I.tok _,⟨s.toks+1,by rw[z]⟩,q _ H (aj.refl H) (cb _ _)⟩
  | _=>cases e
def vh:b_ X (.type "tuple") (RBM X.K (aG .tupleOf)):=by
 intro pins s σ H xs us Q I r h;refine ax λZq kq=>?_
 obtain⟨O,vs,v,hO,rs,e,q⟩:=h;obtain⟨x,rfl⟩:=dw e (.inl rfl);obtain⟨u,rfl,z⟩:=p1 rs;simp[aG,cz,ie,ti]at e;obtain⟨ys,e,rfl⟩:=e;refine kq ?_;cases x<;>simp[aX]at e
 .subst e;obtain⟨a,J,rfl,U,Y⟩:=z.tup;refine i3 pins s σ H _ us Q I r ⟨a,J,rfl,.inr ⟨U,q _ H (aj.refl H) ?_⟩⟩;exact z.tupR
 .subst e;obtain⟨a,J,rfl,U,Y⟩:=z.lst;exact i3 pins s σ H _ us Q I r ⟨a,J,rfl,.inl ⟨U,λl Z=>q _ _ (aE Z _) (gk hO Z Y)⟩⟩
def RBF(K:L8)(f:List PV->Option PV):List V->Hp->VK->Prop:=λus H Q =>
 ∃O vs xs,(∀a∈O,H a≠none)/\Paired (bK K H O) vs us/\f vs=some (.lst xs)/\∀l z,H l=none->Reps K (az H O) xs z->Q (.ref l) (upd H l (.lst z))
def D1:b_ X (.type "list") (RBF X.K (aG .listOf)):=by
 intro pins s σ H xs us Q I r h;refine ax λZq J=>?_
 obtain⟨O,vs,v,hO,U,e,q⟩:=h;obtain⟨x,rfl⟩:=dw e (.inl rfl);obtain⟨u,rfl,Y⟩:=p1 U;simp[aG,cz,ie,ti,PV.lst.injEq,exists_eq_right]at e;obtain⟨a,z,rfl,Z,t1⟩:=Y.seq e;refine J ?_;exact pK pins s σ H _ us Q I r ⟨a,z,rfl,Z,λl hl=>q l z hl t1⟩
theorem o3{K:L8} :∀{J}{us},Reps K F (J.map λt=>.tup (t.map .int)) us->sY K F us J
 | [],_,h=>by rw[map_nil,Reps]at h;subst h;exact .nil
 |t::J,_,h=>by
  obtain⟨u,r,rfl,q,z⟩:=h;obtain⟨a,vs,e,U,Y⟩:=q;rw[Y.ints]at U;exact .cons ⟨a,e,d6 U⟩ (o3 z)
theorem o4{K:L8}(s:aj F F'):∀{us}{z},sY K F us z->sY K F' us z
 | _,_,.nil=>.nil
 | _,_,.cons ⟨a,J,U⟩ t=>.cons ⟨a,J,s.seqT U⟩ (o4 s t)
theorem o5{K:L8}(h:Reps K F xs us):∀(l:List Nat),(∀i∈l,i<us.length)->Reps K F (l.map λi=>xs.getD i .non) (l.map λi=>us.getD i .non)
 | [],_=>.nil
 |i::l,z=>by
  have hi:=z i (.head _);have hx:i<xs.length:=by rw[h.length];exact hi
  obtain⟨u,U,Y⟩:=h.get (IJ hx);refine .cons ?_ (o5 h l λj J=>z j (.tail _ J))
  simp_all
def yT (g:Gf X T k cal):b_ X (.builtin "sorted") (RBF X.K (aG .sorted)):=by
 intro pins s σ H xs us Q I r h;refine ax λZq kq=>?_
 obtain⟨O,vs,v,hO,rs,e,q⟩:=h;obtain⟨x,rfl⟩:=dw e (.inl rfl);obtain⟨u,rfl,rx⟩:=p1 rs;simp only[aG,cz,mO,ie,iX,gf]at e;obtain⟨ys,e,J⟩:=e;obtain⟨a,ws,rfl,s1,U⟩:=rx.seq e;unfold ir at J;refine kq ?_;split at J
 .rename_i z;split at J
  .rename_i ns hn;cases J;have:=dU hn;subst this;have Z:=U.ints;subst Z;rw[tf]at z;refine jF g.calm pins s σ H _ us Q I r ⟨a,ns,rfl,s1.imp id .inl,z,λl hl=>?_⟩;rw[<- eY];exact q l _ hl (.of_ints _)
  .simp only[ti,PV.lst.injEq]at J;obtain⟨Y,Z,rfl⟩:=J;have:=rh Z;subst this;rw[tf]at z;refine pT (by have:=g.units;omega) pins s σ H _ us Q I r ⟨a,ws,Y,rfl,s1,o4 (bW H O) (o3 U),z,λl pm hl hp e=>q l _ hl ?_⟩;have q2:=o5 U pm hp;have e4:(pm.map λi=>(Y.map λt=>PV.tup (t.map .int)).getD i .non)=(sortT Y).map λt=>.tup (t.map .int):=by
    rw[jR,<- e,ID];refine Jw λi hi=>?_
    have ar:i<Y.length:=by have:=hp i hi;rw[<- U.length,tf]at this;exact this
    simp[ar]
   rw[e4]at q2;exact q2
 .cases J
def Gr:b_ X (.type "int") (RBM X.K (aG .intOf)):=by
 intro pins s σ H xs us Q I r h;refine ax λY J=>?_
 obtain⟨O,vs,v,Z,U,e,q⟩:=h;obtain⟨x,rfl⟩:=dw e (.inl rfl);obtain⟨u,rfl,z⟩:=p1 U;refine J ?_;cases x<;>simp[aG,cz,ie]at e<;>try (cases e;done)
 .cases e;have:=z.bl;subst this;exact oE pins s σ H _ us Q I r (.inr ⟨_,rfl,q _ H (aj.refl H) (cb _ _)⟩)
 .cases e;have:=z.int;subst this;exact oE pins s σ H _ us Q I r (.inl ⟨_,rfl,q _ H (aj.refl H) (cb _ _)⟩)
def l4(h:ie x=some ys):x=.lst ys:=by
 cases x<;>cases h
 rfl
def D3 (J:du b=some c):b_ X (.builtin "isinstance") (λus H Q=>∃O v u,us=[u,.ty c]/\isD v=false/\bK X.K H O v u/\Q (.bl (isT b v)) H):=by
 intro pins s σ H xs us Q I r h;obtain⟨O,v,x,rfl,nd,U,q⟩:=h;obtain⟨u,t,rfl,Y,rc⟩:=FW r;have Z:=rc;subst Z;have fin:∀z tk,z=isT b v->EP X pins σ Q (.bool z) { s with toks:=tk }:=λz tk e=>⟨.bl z,H,I.tok tk,rfl,by rw[e];exact q⟩
 cases v with
 |dI _=>cases nd
 |non =>
  have e:=U.non;subst e;cases (show u=Value.none from Y);cases b<;>simp only[du,u0,reduceCtorEq]at J<;>subst J <;>
   exact PySem.W.kia_one PySem.W.kitx_none I.kIn True.intro (b:=false) (by first|rfl|kernel_rfl|decide) (λz=>nomatch z) λtk=>fin _ tk rfl
 |bl y =>
  have e:=U.bl;subst e;cases (show u=Value.bool y from Y);cases b<;>simp only[du,u0,reduceCtorEq]at J<;>subst J<;>first
   |exact PySem.W.kia_one PySem.W.kitx_bool I.kIn True.intro (b:=true) (by first|rfl|kernel_rfl|decide) (λz=>nomatch z) λtk=>fin _ tk rfl
   |exact PySem.W.kia_one PySem.W.kitx_bool I.kIn True.intro (b:=false) (by first|rfl|kernel_rfl|decide) (λz=>nomatch z) λtk=>fin _ tk rfl
 |int y =>
  have e:=U.int;subst e;obtain⟨t,z⟩:=(show ∃t,u=Value.int y t from Y);cases z;cases b<;>simp only[du,u0,reduceCtorEq]at J<;>subst J<;>first
   |exact PySem.W.kia_one PySem.W.kitx_int I.kIn True.intro (b:=true) (by first|rfl|kernel_rfl|decide) (λz=>nomatch z) λtk=>fin _ tk rfl
   |exact PySem.W.kia_one PySem.W.kitx_int I.kIn True.intro (b:=false) (by first|rfl|kernel_rfl|decide) (λz=>nomatch z) λtk=>fin _ tk rfl
 |str y =>
  have e:=U.str;subst e;obtain⟨t,z⟩:=(show ∃t,u=Value.str y t from Y);cases z;cases b<;>simp only[du,u0,reduceCtorEq]at J<;>subst J<;>first
   |exact PySem.W.kia_one PySem.W.kitx_str I.kIn True.intro (b:=true) (by first|rfl|kernel_rfl|decide) (λz=>nomatch z) λtk=>fin _ tk rfl
   |exact PySem.W.kia_one PySem.W.kitx_str I.kIn True.intro (b:=false) (by first|rfl|kernel_rfl|decide) (λz=>nomatch z) λtk=>fin _ tk rfl
 |lst ys =>
  obtain⟨a,us,rfl,s1,t1⟩:=U.lst;cases (show u=Value.ref a from Y);obtain⟨its,_,p,_⟩:=I.list s1;obtain⟨o,h1,h2,_⟩:=p.isList;cases b<;>simp only[du,u0,reduceCtorEq]at J<;>subst J<;>first
   |exact PySem.W.kia_one PySem.W.kitx_list I.kIn ⟨o,h1,h2⟩ (b:=true) (by first|rfl|kernel_rfl|decide) (λz=>nomatch z) λtk=>fin _ tk rfl
   |exact PySem.W.kia_one PySem.W.kitx_list I.kIn ⟨o,h1,h2⟩ (b:=false) (by first|rfl|kernel_rfl|decide) (λz=>nomatch z) λtk=>fin _ tk rfl
 |tup ys =>
  obtain⟨a,us,rfl,s1,t1⟩:=U.tup;cases (show u=Value.ref a from Y);obtain⟨its,_,p,_⟩:=I.tuple s1;obtain⟨o,h1,h2,_⟩:=p;cases b<;>simp only[du,u0,reduceCtorEq]at J<;>subst J<;>first
   |exact PySem.W.kia_one PySem.W.kitx_tuple I.kIn ⟨o,h1,h2⟩ (b:=true) (by first|rfl|kernel_rfl|decide) (λz=>nomatch z) λtk=>fin _ tk rfl
   |exact PySem.W.kia_one PySem.W.kitx_tuple I.kIn ⟨o,h1,h2⟩ (b:=false) (by first|rfl|kernel_rfl|decide) (λz=>nomatch z) λtk=>fin _ tk rfl
theorem jp{K:L8} :∀{bs:List Bool}{us}{its},Reps K F (bs.map .bl) us->aI us its->its=bs.map Value.bool
 | [],_,_,h,w=>by rw[map_nil,Reps]at h;subst h;cases w;rfl
 |b::bs,_,_,h,w=>by
  obtain⟨u,r,rfl,q,t⟩:=h;subst q;cases w with
  |cons z J =>
   cases z;rw[jp t J];rfl
def wG(bs:List Bool):(range bs.length).all (λi=>bs.getD i false)=bs.all id:=by
 conv=>rhs;rw[<- Srt.iM bs false]
 rw[K3]
 rfl
def wH(bs:List Bool):(range bs.length).any (λi=>bs.getD i false)=bs.any id:=by
 conv=>rhs;rw[<- Srt.iM bs false]
 rw[List.any_map]
 rfl
def lc(bs:List Bool):TruthOf P w A (λi v=>(bs.map Value.bool).toArray[i]?=some v) (λi=>bs.getD i false):=by
 intro i v s Q E h q;simp only[getElem?_toArray,IS,ti]at h;obtain⟨b,e,rfl⟩:=h;have:bs.getD i false=b:=by rw[J1,e];rfl
 have z:Q (bs.getD i false) s:=q;rw[this]at z;exact JE z
def Gs (hc:X.calm=true):b_ X (.builtin "any") (RBM X.K (aG .any)):=by
 intro pins s σ H xs us Q I r h;refine ax λZq U=>?_
 obtain⟨O,vs,v,hO,Y,e,q⟩:=h;obtain⟨x,rfl⟩:=dw e (.inl rfl);obtain⟨u,rfl,Z⟩:=p1 Y;simp[aG,cz,gf,ti]at e;obtain⟨ys,e0,bs,e,rfl⟩:=e;obtain rfl:=l4 e0;have:=kD e;subst this;obtain⟨a,ws,rfl,s1,t1⟩:=Z.lst;obtain⟨u,rfl,ru⟩:=eC r;cases ru;obtain⟨its,r',z,hz⟩:=I.list s1;have:=jp t1 r';subst this;have J:a<s.heap.objs.size:=by obtain⟨o,ho,_⟩:=z.isList;exact uw ho
 refine U ?_;refine call_any_walk (Kt z.isList ?_);refine⟨s.heap.objs.size,_,_,_,_,_,λi=>bs.getD i false,rfl,Walks.list (by first|exact I.ok.hd hc|simpa using I.ok.hd hc) s.heap.objs.size a (Iz J) (bs.map Value.bool).toArray,⟨⟨_,wh _ rfl,rfl,rfl⟩,z.isList.push _⟩,lc bs,λh' tk hk=>?_⟩;have e2:(range (bs.map Value.bool).toArray.size).any (λi=>bs.getD i false)=bs.any id:=by
  rw[tr,tf];exact wH bs
 rw[e2];refine⟨.bl _,H,?_,rfl,q _ H (aj.refl H) (d8 _ _)⟩;refine I.kept λb o e=>hk b o ?_ (mu _ e)
 intro hm;have hb:=uw e
 simp_all
def Gu (hc:X.calm=true):b_ X (.builtin "all") (RBM X.K (aG .all)):=by
 intro pins s σ H xs us Q I r h;refine ax λZq U=>?_
 obtain⟨O,vs,v,hO,Y,e,q⟩:=h;obtain⟨x,rfl⟩:=dw e (.inl rfl);obtain⟨u,rfl,Z⟩:=p1 Y;simp only[aG,cz,gf,ti]at e;obtain⟨ys,e0,bs,e,rfl⟩:=e;obtain rfl:=l4 e0;have:=kD e;subst this;obtain⟨a,ws,rfl,s1,t1⟩:=Z.lst;obtain⟨u,rfl,ru⟩:=eC r;cases ru;obtain⟨its,r',z,hz⟩:=I.list s1;have:=jp t1 r';subst this;have J:a<s.heap.objs.size:=by obtain⟨o,ho,_⟩:=z.isList;exact uw ho
 refine U ?_;refine call_all_walk (Kt z.isList ?_);refine⟨s.heap.objs.size,_,_,_,_,_,λi=>bs.getD i false,rfl,Walks.list (by first|exact I.ok.hd hc|simpa using I.ok.hd hc) s.heap.objs.size a (Iz J) (bs.map Value.bool).toArray,⟨⟨_,wh _ rfl,rfl,rfl⟩,z.isList.push _⟩,lc bs,λh' tk hk=>?_⟩;have e2:(range (bs.map Value.bool).toArray.size).all (λi=>bs.getD i false)=bs.all id:=by
  rw[tr,tf];exact wG bs
 rw[e2];refine⟨.bl _,H,?_,rfl,q _ H (aj.refl H) (d8 _ _)⟩;refine I.kept (t':=tk) λb o e=>hk b o ?_ (mu _ e)
 intro hm;have hb:=uw e
 simp_all
theorem lf(ns:List Int):∀k,k<=ns.length->preSum (λi=>ns.getD i 0) k=(ns.take k).sum
 |0,_=>by simp[preSum]
 |k+1,h=>by
  have e:ns.take (k+1)=ns.take k++[ns.getD k 0]:=by
   rw[take_succ,J1,IJ (by omega)]
   rfl
  rw[preSum,lf ns k (by omega),e,sum_append];simp
def Gv (hc:X.calm=true):b_ X (.builtin "sum") (RBM X.K (aG .sum)):=by
 intro pins s σ H xs us Q I r h;obtain⟨O,vs,v,hO,rs,e,q⟩:=h;obtain⟨x,rfl⟩:=dw e (.inl rfl)
 .refine ax λZq kq=>?_
  simp only[aG,cz,gf,ti]at e;obtain⟨ys,e9,ns,e0,rfl⟩:=e;obtain rfl:=l4 e9;have:=dU e0;subst this;obtain⟨u,rfl,rx⟩:=p1 rs;obtain⟨a,ws,rfl,s1,t1⟩:=rx.lst;have:=t1.ints;subst this;obtain⟨u,rfl,ru⟩:=eC r;cases ru;obtain⟨its,r',Y,hz⟩:=I.list s1;have ia:=c_ r';have hl:=r'.length;rw[tf]at hl;have J:a<s.heap.objs.size:=by obtain⟨o,ho,_⟩:=Y.isList;exact uw ho
  have hh:X.A.in1.handled=none:=by simpa using I.ok.hd hc
  refine kq ?_;refine call_sum_walkAnyS (Kt Y.isList ⟨s.heap.objs.size,_,_,_,_,_,_,λi=>ns.getD i 0,rfl,(Walks.list hh s.heap.objs.size a (Iz J) its.toArray).toS,⟨⟨_,wh _ rfl,rfl,rfl⟩,Y.isList.push _⟩,λb hb=>?_,λi v hv=>St.lP (items:=its.toArray) (by simpa using ia) i v hv,λs' t' U=>?_⟩)
  .simp only[IB,Ks,Lj]at hb;rw[IV];rcases hb with rfl|rfl
   .simp_all
   .exact Jb J
  .obtain⟨h',g',d',tk,Z⟩:=s';have e1:g'=s.gens:=U.gens;have e2:d'=s.drawn:=U.drawn;have e3:Z=s.os:=U.os;subst e1 e2 e3;rw[tr,<- hl,lf ns ns.length (pe _),take_length];refine⟨.int ns.sum,H,I.kept (t':=tk) λb o eb=>U.heap b o (λz=>?_) (mu _ eb),⟨_,rfl⟩,q _ H (aj.refl H) (cb _ _)⟩;rw[I0.mp z]at eb;exact absurd (uw eb) (Jr _)
def kI:∀{ns}{m},wB ns=some m->m∈ns/\∀x∈ns,x<=m
 |n::ns,m,h=>by
  have gen:∀l (a:Int),(l.foldl (λa b=>if a<b then b else a) a∈a::l)/\a<=l.foldl (λa b=>if a<b then b else a) a/\∀x∈l,x<=l.foldl (λa b=>if a<b then b else a) a:=by
   intro l
   induction l with
   |nil=>intro a;exact⟨.head _,Int.le_refl _,λx hx=>by cases hx⟩
   |cons b l ih =>
    intro a;obtain⟨h1,h2,z⟩:=ih (if a<b then b else a);rw[foldl_cons];refine⟨?_,?_,λx hx=>?_⟩
    .rcases IB.mp h1 with e|e
     .rw[e];split
      .exact .tail _ (.head _)
      .exact .head _
     .exact .tail _ (.tail _ e)
    .exact L1 (by split<;>omega) h2
    .rcases IB.mp hx with rfl|hx
     .exact L1 (by split<;>omega) h2
     .exact z x hx
  obtain⟨h1,h2,z⟩:=gen ns n;cases h;exact⟨h1,λx hx=>by
   rcases IB.mp hx with rfl|hx
   .exact h2
   .exact z x hx⟩
def D4 (hc:X.calm=true):b_ X (.builtin "max") (RBM X.K (aG .max1)):=by
 intro pins s σ H xs us Q I r h;refine ax λZq kq=>?_
 obtain⟨O,vs,v,hO,rs,e,q⟩:=h;obtain⟨x,rfl⟩:=dw e (.inl rfl);simp only[aG,cz,gf,ti]at e;obtain⟨ys,e9,ns,e0,m,em,rfl⟩:=e;obtain rfl:=l4 e9;have:=dU e0;subst this;obtain⟨u,rfl,rx⟩:=p1 rs;obtain⟨a,ws,rfl,s1,t1⟩:=rx.lst;have:=t1.ints;subst this;obtain⟨u,rfl,ru⟩:=eC r;cases ru;obtain⟨its,Z,pl,hz⟩:=I.list s1;have ia:=c_ Z;have hl:=Z.length;rw[tf]at hl;obtain⟨J,b4⟩:=kI em;have ar:=length_pos_iff.mpr (ne_nil_of_mem J);obtain⟨zs,U⟩:=ia.allInts.items;have b5:zs.size=ns.length:=by
  have:=IW Array.size U;simp[intItems]at this;omega
 have num:∀i,i<ns.length->numAt zs i=ns.getD i 0:=λi hi=>by
  have h1:(intItems zs)[i]?=some (.int (zs[i]'(by omega)).1 (zs[i]'(by omega)).2):=by simp[intItems,show i<zs.size by omega]
  obtain⟨t,e1⟩:=intItems_at h1;obtain⟨t',e2⟩:=St.lP (items:=its.toArray) (by simpa using ia) i _ (by rw[U];exact h1)
  simp_all
 have z:s.heap.IsList a (intItems zs):=by rw[<- U];exact pl.isList
 refine kq ?_;refine max_intList (I.ok.hd hc) z (by omega) λv h' tk hv hk=>?_
 obtain⟨t,rfl⟩:=intItems_at hv;obtain⟨b1,b2⟩:=argBest_gt (numAt zs) (zs.size-1);generalize argBest (λi j=>decide (numAt zs i > numAt zs j)) (zs.size-1)=k at b1 b2;have Y:k<ns.length:=by omega
 have e1:numAt zs k=m:=by
  refine Int.le_antisymm ?_ ?_
  .rw[num k Y]
   simp_all
  .obtain⟨j,hj,rfl⟩:=getElem_of_mem J;have:=b2 j (by omega);rw[num j hj,J1,IJ hj]at this;exact this
 rw[e1];exact⟨.int m,H,I.kept (t':=tk) hk,⟨_,rfl⟩,q _ H (aj.refl H) (cb _ _)⟩
def vi (hc:X.calm=true):b_ X (.type "set") (λus H Q=>∃O v u ns,us=[u]/\bK X.K H O v u/\((aX v).bind bf)=some ns/\ns.length<=1000/\∀l,H l=none->Q (.ref l) (upd H l (i6 X.prog X.w l (St.dd ns.reverse)))):=by
 intro pins s σ H xs us Q I r h;refine ax λZq J=>?_
 obtain⟨O,v,u,ns,rfl,U,e,z,q⟩:=h;simp[gf]at e;obtain⟨ys,Y,Z⟩:=e;obtain⟨a,ws,rfl,s1,t1⟩:=U.seq Y;have:=dU Z;subst this;have e3:=t1.ints;subst e3;refine J ?_;exact yd hc pins s σ H _ us Q I r ⟨a,ns,rfl,s1,z,λl hl=>q l hl⟩
def rH (hc:X.calm=true):b_ X (.builtin "sorted") (λus H Q=>∃l ks,us=[.ref l]/\H l=some (i6 X.prog X.w l ks)/\ks.length<64/\∀p,H p=none->Q (.ref p) (upd H p (.lst ((Srt.sortI ks).map V.int)))):=by
 intro pins s σ H xs us Q I r h;obtain⟨l,ks,rfl,e,z,q⟩:=h;exact jF hc pins s σ H _ us Q I r ⟨l,ks,rfl,.inr (.inr e),z,q⟩
end
end MM
namespace L2
open PySem PySem.Spec PyProof.Rows List Option
def Inv.turned2(I:Inv X pins σ H s)(he:s.heap.get? e=some J)(hf:J.isFreed=false)(Z:∃o,h'.get? e=some o)
  (k:∀b o,b≠e->b≠it->s.heap.get? b=some o->h'.get? b=some o) (fe:kf X pins H e) (fi:kf X pins H it):Inv X pins σ H { s with heap:=h',toks:=t' }:=by
 obtain⟨o',ao⟩:=Z;obtain⟨a0,a1,a2,a3,a4,a5⟩:=fe;obtain⟨b0,b1,b2,b3,b4,b5⟩:=fi;have ar:(h'.update e λ_=>J).get? e=some J:=Jf _ ao hf;have U:∀b,b≠e->(h'.update e λ_=>J).get? b=h'.get? b:=λb Y=>(Ja h' e _).2 b Y
 have I1:Inv X pins σ H { s with heap:=h'.update e λ_=>J,toks:=t' }:=I.turned (it:=it) (λb o Y q=>by
  by_cases z:b=e
  .subst z;rw[ar,<- he];exact q
  .rw[U b z];exact k b o z Y q) b0 b1 b3 b4 b5
 exact Inv.turned (s:={ s with heap:=h'.update e λ_=>J,toks:=t' }) (it:=e) I1 (λb o Y q=>by
  have q:=q;rw[U b Y]at q;exact q) a0 a1 a3 a4 a5
noncomputable def Ite(q:Hp->List V->Prop):It:=
 ⟨λi H=>∃xs,q H xs/\i<xs.length,λi H x H'=>∃p,x=.ref p/\H p=none/\∃u,H'=upd H p (.tup [.int i,u])/\∀xs,q H xs->xs[i]?=some u,λi H=>∃xs,q H xs/\i=xs.length⟩
structure Src(P:Program)(w:World)(K:L8)(a it:Addr)(q:Hp->List V->Prop)(r:Nat->Heap->Prop):Prop where
 ne:a≠it
 keep:∀i h h',r i h->(∀o,h.get? it=some o->h'.get? it=some o)->r i h'
 live:∀i h,r i h->∃o,h.get? it=some o/\∀v,o.data≠.cell v
 one:∀(X:Cx),X.K=K->∀(pins:List (Addr×Obj)) (s:Shared) (σ:St) (H:Hp) (xs ys:List V),Inv X pins σ H s->q H xs->q H ys->xs=ys
 row:∀(X:Cx),X.prog=P->X.w=w->X.K=K->∀(pins:List (Addr×Obj)) (s:Shared) (σ:St) (H:Hp) (xs:List V),Inv X pins σ H s->q H xs->∃(its:List Value),aI xs its/\∀(A:Around),A.handled=none ->
  ∃St:Nat->Heap->Prop,Draws P w A it [it,a] its.length (λi v=>its[i]?=some v) St/\(∀i,r i s.heap->St i s.heap)/\∀i h,St i h->r i h
def yU{K:L8}(S:Src P w K a it q r)(ao:e≠it)(a8:e≠a) :
  sE P w K (.Tuple ts j tp) (Ite q) [e,it] e (λi h=>(∃old,IsEnum h e it (i:Nat) old)/\r i h) where
 mem:=.head _
 obj:=λi h st b J=>by
  obtain⟨⟨old,U⟩,Y⟩:=st;rcases IB.mp J with rfl|J
  .exact⟨_,U,λv z=>by cases z⟩
  .have z:b=it:=by simpa using J
   subst z;exact S.live i h Y
 keep:=λi h h' ⟨⟨old,U⟩,Y⟩ k=>⟨⟨old,k e (.head _) _ U⟩,S.keep i h h' Y (k it (.tail _ (.head _)))⟩
 item:=by
  intro X hP hw hK hc i pins s σ H E I hf st hg;obtain⟨⟨old,U⟩,Y⟩:=st;obtain⟨xs,hq,hi⟩:=hg;obtain⟨its,rv,dr⟩:=S.row X hP hw hK pins s σ H xs I hq;have hh:=I.ok.hd hc;obtain⟨St,D,Z,ar⟩:=dr X.A.in1 (by simpa using hh);have hl:=rv.length;have fe:=hf e (.head _);have fi:=hf it (.tail _ (.head _));refine wpAny_pyNext_enum_itemD D U (Z i Y) (by omega) ao (by simp only[IB,Ks,Lj,not_or];exact⟨ao,a8⟩) λx h' tk px eo b3 tup sz kp=>?_
  refine⟨_,rfl,wpAny_letOwnedTupleGo_enum eo λh2 aO a0=>?_⟩;have hx:=hi;obtain⟨u,hu,ru⟩:=rv.get (IJ hx);have ex:x=u:=by
   have:=px.symm.trans hu;simpa using this
  subst ex;have fresh:=I.hok.fresh (pe _);have ne:∀b o,s.heap.get? b=some o->b≠s.heap.objs.size:=λb o q z=>Jr _ (by have:=uw q;rw[z]at this;exact this)
  have en:=ne _ _ U;obtain⟨oi,b4,_⟩:=S.live i _ Y;have a1:=ne _ _ b4;have I1:Inv X pins σ (upd H s.heap.objs.size (.tup [.int i,xs[i]])) { s with heap:=s.heap.push { cls:=.type "tuple",data:=.seq #[.int i tk,x] } }:=
   I.laid (t':=s.toks) (λb o q=>mu _ q) (pe _) ⟨by show 2<=sizeLine;decide,_,.cons ⟨_,rfl⟩ (.cons ru .nil),IsTup.new _ _⟩
  have up:∀b,b≠s.heap.objs.size->kf X pins H b->kf X pins (upd H s.heap.objs.size (.tup [.int i,xs[i]])) b:=λb J ⟨z,r⟩=>⟨by rw[aZ J];exact z,r⟩
  have I2:=I1.turned2 (h':=h2) (t':=tk+1) (e:=e) (it:=it) (mu _ U) rfl ⟨_,aO⟩ (λb o a2 b5 q=>?_) (up e en fe) (up it a1 fi)
  .refine⟨.ref s.heap.objs.size,_,I2,rfl,⟨_,rfl,fresh,_,rfl,λys hy=>?_⟩,⟨⟨_,by simpa using aO⟩,?_⟩,λb J=>?_⟩
   .rw[S.one X hK pins s σ H ys xs I hy hq];exact IJ hx
   .refine ar _ _ (D.frame _ _ _ b3 λb J o q=>?_);rw[a0.2 b λz=>?_]
    .exact q
    .simp_all
   .rcases IB.mp J with rfl|J
    .exact(up b en fe).1
    .have z:b=it:=by simpa using J
     subst z;exact(up b a1 fi).1
  .rw[a0.2 b a2];rcases Heap.get?_push_cases q with⟨rfl,rfl⟩|q
   .exact tup
   .exact kp b o a2 b5 q
 done:=by
  intro X hP hw hK hc i pins s σ H E I hf st hg;obtain⟨⟨old,U⟩,Y⟩:=st;obtain⟨xs,hq,hi⟩:=hg;obtain⟨its,rv,dr⟩:=S.row X hP hw hK pins s σ H xs I hq;have hh:=I.ok.hd hc;obtain⟨St,D,Z,ar⟩:=dr X.A.in1 (by simpa using hh);have hl:=rv.length;obtain⟨f0,f1,f2,f3,f4,f5⟩:=hf it (.tail _ (.head _));have e:i=its.length:=by omega
  subst e;exact wpAny_pyNext_enum_endD D U (Z _ Y) λh' eb=>⟨rfl,I.turned (t':=s.toks) (λb o J q=>eb b o J q) f0 f1 f3 f4 f5⟩
 self:=λ_ i s Q E ⟨⟨old,U⟩,_⟩ h=>wpAny_pyIter_enum U h
def yV{K:L8}(ne:a≠it):Src P w K a it (λH xs=>SqL K H a xs) (λi h=>h.IsListIter it a i) where
 ne:=ne
 keep:=λi h h' ⟨o,ho,r⟩ k=>⟨o,k o ho,r⟩
 live:=λi h ⟨o,ho,_,hd⟩=>⟨o,ho,λv z=>by rw[hd]at z;cases z⟩
 one:=λX J pins s σ H xs ys I h h'=>by subst J;exact I.list_inj h h'
 row:=λX U hw J pins s σ H xs I h=>by
  subst U hw J;obtain⟨its,Y,p,_⟩:=I.list h;refine⟨its,Y,λA Z=>⟨λi h=>h.IsListIter it a i/\h.IsList a its.toArray,?_,λi st=>⟨st,p.isList⟩,λi h' st=>st.1⟩⟩;simpa using Draws.list (prog:=X.prog) (w:=X.w) Z it a ne its.toArray
def Bo{K:L8}(ne:a≠it):Src P w K a it (λH xs=>SqT K H a xs) (λi h=>h.IsTupleIter it a i) where
 ne:=ne
 keep:=λi h h' ⟨o,ho,r⟩ k=>⟨o,k o ho,r⟩
 live:=λi h ⟨o,ho,_,hd⟩=>⟨o,ho,λv z=>by rw[hd]at z;cases z⟩
 one:=λX J pins s σ H xs ys I h h'=>by subst J;exact I.tuple_inj h h'
 row:=λX U hw J pins s σ H xs I h=>by
  subst U hw J;obtain⟨its,Y,p,_⟩:=I.tuple h;refine⟨its,Y,λA Z=>⟨λi h=>h.IsTupleIter it a i/\h.IsTuple a its.toArray,?_,λi st=>⟨st,(show s.heap.IsTuple a its.toArray from p)⟩,λi h' st=>st.1⟩⟩;simpa using En.draws (P:=X.prog) (w:=X.w) Z it a ne its.toArray
noncomputable def Ic(K:L8)(tl:TE):TI:=λσ H R=>tl σ H λx H1=>∃a,x=.ref a/\(((∃xs,SqL K H1 a xs)/\R (Ite λH xs=>SqL K H a xs) H1)\/((∃xs,SqT K H1 a xs)/\R (Ite λH xs=>SqT K H a xs) H1))
def rJ{σ:St}{H:Hp}{s:Shared}{E:Value->Shared->Prop}{h':Heap}{U:List Expr}{j:Nat}{Y:Pos}{a:Addr}{q:Hp->List V->Prop}{r:Nat->Heap->Prop}{R:It->Hp->Prop}(I:Inv X pins σ H s)(Z:a<s.heap.objs.size)
  (S:Src X.prog X.w X.K a s.heap.objs.size q r) (J:IsEnum h' (s.heap.objs.size+1) s.heap.objs.size 0 .none) (hr:r 0 h') (k:∀b o,s.heap.get? b=some o->h'.get? b=some o) (hR:R (Ite q) H) :
  wpAny (model X.prog X.w) X.A (pyIter (.ref (s.heap.objs.size+1))) (PIE X pins σ (.Tuple U j Y) R) E { s with heap:=h' }:=by
 have I1:=I.kept (t':=s.toks) k;refine wpAny_pyIter_enum (s:={ s with heap:=h' }) J ⟨s.heap.objs.size+1,[s.heap.objs.size+1,s.heap.objs.size],_,_,H,rfl,I1,yU S (Nat.succ_ne_self _) (JL (Jb Z)),⟨⟨_,J⟩,hr⟩,λb z=>?_,hR⟩;have z:s.heap.objs.size<=b:=by
  simp only[IB,Ks,Lj]at z;rcases z with rfl|rfl
  .exact Kb _
  .exact pe _
 exact I.fpOk z (I.hok.fresh z)
def yW (hg:Gl X "enumerate") (hm:X.mg "enumerate"=none) (hl:PE X l tl) (hs:starEach [l] X.env=[(false,eval l X.env)]:=by rfl) :
  PI X (.Tuple ts j tp) (.Call (.Name "enumerate" p) [l] [] pos) (Ic X.K tl):=by
 intro pins s σ H R I h;refine Call_ (ij I hg hm PyProof.Rows.boot_enumerate (Jt (thn (aM hl bJ hs pos pins s σ H (λvs H1=>match vs with
  | [x]=>∃a,x=.ref a/\(((∃xs,SqL X.K H1 a xs)/\R (Ite λH xs=>SqL X.K H a xs) H1)\/((∃xs,SqT X.K H1 a xs)/\R (Ite λH xs=>SqT X.K H a xs) H1))
  | _=>False) I h) λus s1 ⟨vs,H1,J,r1,U⟩=>?_) hs rfl))
 cases r1 with
 |nil=>exact U.elim
 |cons r rr =>
  cases rr with
  |cons _ _=>exact U.elim
  |nil =>
   obtain⟨a,e,q⟩:=U;subst e;cases r;rcases q with⟨⟨xs,Y⟩,q⟩|⟨⟨xs,Y⟩,q⟩
   .obtain⟨its,_,pl,_⟩:=J.list Y;have z:=let ⟨o,ho,_⟩:=pl.isList;uw ho
    exact call_enumerate_list pl.isList λh' Z it _ k=>rJ J z (yV (Iz z)) Z it k q
   .obtain⟨its,_,pt,_⟩:=J.tuple Y;have z:=let ⟨o,ho,_⟩:=pt;uw ho
    exact En.call_tup pt λh' Z it _ k=>rJ J z (Bo (Iz z)) Z it k q
end L2
namespace MM
open PySem PySem.Spec PyProof.Rows L2 List Option
structure m3(K:L8)(J:It)(xs:List PV)(V G:Hp):Prop where
 stop:∀H',aj G H'->J.stop xs.length H'
 go:∀(i:Nat) x H',aj G H'->xs[i]?=some x->J.go i H'
 yld:∀(i:Nat) x H' u H2,aj G H'->xs[i]?=some x->J.yld i H' u H2->aj H' H2/\∀O',(∀a∈O',H' a≠none)->aj V (az H2 O')->Rep K (az H2 O') x u
def m3.weak{K:L8}{V G z:Hp}(h:m3 K J xs V G)(s:aj G z):m3 K J xs V z:=
 ⟨λH' s'=>h.stop H' (s.trans s'),λi x H' s'=>h.go i x H' (s.trans s'),λi x H' u H2 s'=>h.yld i x H' u H2 (s.trans s')⟩
noncomputable def bq(ms:List ME)(W:Rho)(σ:St):List Addr:=match ms with
 | [.bor i]=>(match (W[i]?).join,(σ[i]?).join with|some (.own _),some (.ref a)=>[a]|_,_=>[])
 | _=>[]
noncomputable def bg(B:Hp)(O:List Addr)(H:Hp)(L:List Addr):Hp:=λb=>if b∈O then(if b∈L then H b else B b)else H b
section
variable{K:L8}{B H:Hp}{O L:List Addr}
def m4(s:aj B H):aj (bg B O H L) H:=λb u e=>by
 unfold bg at e;split at e
 .split at e
  .exact e
  .exact s b u e
 .exact e
def dW(s:aj B H):aj B (bg B O H L):=λb u e=>by
 unfold bg;split
 .split
  .exact s b u e
  .exact e
 .exact s b u e
def cq:aj (az H O) (bg B O H L):=λb u e=>by
 have J:b∉O:=λz=>by rw[eG z]at e;cases e
 unfold bg;rw[if_neg J];rw[ba J]at e;exact e
end
def l5{K:L8}{V G:Hp}(h:SqL K G a us)(r:Reps K V xs us):m3 K (Itl K a) xs V G where
 stop:=λH' s=>⟨us,s.seq h,Ll r.length.symm⟩
 go:=λi x H' s e=>by
  obtain⟨u,z,_⟩:=r.get e;exact⟨us,u,s.seq h,z⟩
 yld:=λi x H' u H2 s e y=>by
  obtain⟨rfl,y⟩:=y;obtain⟨w,z,q⟩:=r.get e;have J:=y us (s.seq h);rw[z]at J;cases J;exact⟨aj.refl _,λU _ sv=>Rep.mono sv _ q⟩
def yX{K:L8}{V G:Hp}(h:SqT K G a us)(r:Reps K V xs us):m3 K (Itt K a) xs V G where
 stop:=λH' s=>⟨us,s.seqT h,Ll r.length.symm⟩
 go:=λi x H' s e=>by
  obtain⟨u,z,_⟩:=r.get e;exact⟨us,u,s.seqT h,z⟩
 yld:=λi x H' u H2 s e y=>by
  obtain⟨rfl,y⟩:=y;obtain⟨w,z,q⟩:=r.get e;have J:=y us (s.seqT h);rw[z]at J;cases J;exact⟨aj.refl _,λU _ sv=>Rep.mono sv _ q⟩
def m5{K:L8}{V G:Hp}{lo:Int} :m3 K (Itr lo n) ((range n).map λ(k:Nat)=>.int (lo+k)) V G where
 stop:=λH' s=>by simp[Itr]
 go:=λi x H' s e=>by
  have:=(IA.mp e).1;simpa[Itr]using this
 yld:=λi x H' u H2 s e y=>by
  obtain⟨rfl,rfl⟩:=y;refine⟨aj.refl _,λz _ sv=>?_⟩;have hi:i<n:=by have:=(IA.mp e).1;simpa using this
  rw[IS,getElem?_range hi]at e;cases e;rw[Rep]
def D5{K:L8}(J:∀a∈O,H a≠none)(U:H p=none)(h:Reps K (az (upd H p (.tup us)) O) xs us):Rep K (az (upd H p (.tup us)) O) (.tup xs) (.ref p):=by
 refine⟨p,us,rfl,?_,h⟩;rw[ba λz=>J p z U];exact aC ..
theorem vj:∀xs (k i:Nat),(bG k xs)[i]?=(xs[i]?).map λx=>.tup [.int ((k+i:Nat):Int),x]
 | [],k,i=>by simp[bG]
 |x::xs,k,0=>by simp[bG]
 |x::xs,k,i+1=>by
  rw[bG,getElem?_cons_succ,getElem?_cons_succ,vj xs (k+1) i,show k+1+i=k+(i+1)by omega]
theorem m6:∀xs k,(bG k xs).length=xs.length
 | [],_=>rfl
 |x::xs,k=>by rw[bG,length_cons,length_cons,m6 xs]
def kJ{K:L8}{V G:Hp}{q:Hp->List L2.V->Prop}{xs:List PV}{us:List L2.V}(h:∀H',aj G H'->q H' us)(r:Reps K V xs us):m3 K (Ite q) (bG 0 xs) V G where
 stop:=λH' s=>⟨us,h H' s,by rw[m6];exact r.length⟩
 go:=λi x H' s e=>by
  refine⟨us,h H' s,?_⟩;have:=(IA.mp e).1;rw[m6]at this;rw[<- r.length];exact this
 yld:=λi x H' u H2 s e y=>by
  refine ax λZq Y=>?_
  obtain⟨p,rfl,J,v,rfl,y⟩:=y;rw[vj]at e;obtain⟨z,Z,rfl⟩:=ti.mp e;obtain⟨w,e2,rz⟩:=r.get Z;have U:=y us (h H' s);rw[e2]at U;cases U;refine Y ?_;refine⟨aE J _,λO' hO sv=>?_⟩;rw[JY];refine D5 hO J (.cons (cb _ _) (.cons (Rep.mono sv _ rz) .nil))
noncomputable def tW(K:L8)(cal:Cal)(k:Sk)(ms:List ME):TI:=λσ H R =>
 ∃B E O W vs xs,aH K B E O H W σ/\evs cal ms W=some vs/\aW k vs=some xs/\∀J H1,aj H H1->m3 K J xs (az H1 O) (bg B O H1 (bq ms W σ))->R J H1
section
variable{X:Cx}{cal:Cal}{tg:Expr}
theorem PI.or(h:PI X tg e t)(g:PI X tg e u):PI X tg e (λσ H R=>t σ H R\/u σ H R):=λpins s σ H R I q=>q.elim (h pins s σ H R I) (g pins s σ H R I)
theorem p6:∀{ms}{W}{vs},evs cal ms W=some vs->vs.length=ms.length
 | [],_,_,h=>by simp[evs]at h;subst h;rfl
 |m::ms,_,_,h=>by
  simp[evs,gf]at h;obtain⟨v,_,w,z,rfl⟩:=h;simp[p6 z]
def rK(h:evs cal [m] W=some vs):∃v,vs=[v]/\ev cal m W=some v:=by
 simp[evs,gf]at h;obtain⟨v,e,w,z,rfl⟩:=h
 simp_all
def p7{K:L8}(h:Rep K F v u)(e:aX v=some xs):∃a us,u=.ref a/\Reps K F xs us/\((v=.lst xs/\SqL K F a us)\/(v=.tup xs/\SqT K F a us)):=by
 cases v<;>first|(simp[aX]at e;subst e;rw[Rep]at h;obtain⟨a,us,e,q,r⟩:=h;exact⟨a,us,e,r,.inl ⟨rfl,q⟩⟩)|(simp[aX]at e;subst e;rw[Rep]at h;obtain⟨a,us,e,q,r⟩:=h;exact⟨a,us,e,r,.inr ⟨rfl,d6 q⟩⟩)|simp[aX]at e
def Gw(U:aK m=false)(h:PE X e (tE X.K cal m)):PI X tg e (tW X.K cal .seq [m]):=by
 refine(PI.or (uG h) (xy h)).imp λσ H R q=>?_
 obtain⟨B,E,O,W,vs,xs,st,e1,e2,q⟩:=q;obtain⟨v,rfl,Z⟩:=rK e1;have z:aX v=some xs:=e2;have hl:bq [m] W σ=[]:=by cases m<;>first|rfl|cases U
 rw[hl]at q;cases v with
 |lst ys =>
  simp[aX]at z;subst z
  refine .inl ⟨B,E,O,W,_,st,Z,λu H' s g=>?_⟩;have r:=g.2 U;rw[Rep]at r;obtain⟨a,us,rfl,J,Y⟩:=r;exact⟨a,rfl,⟨us,(bW H' O).seq J⟩,q _ _ s (l5 (cq.seq J) Y)⟩
 |tup ys =>
  simp[aX]at z;subst z
  refine .inr ⟨B,E,O,W,_,st,Z,λu H' s g=>?_⟩;have r:=g.2 U;obtain⟨a,us,rfl,J,Y⟩:=r;exact⟨a,rfl,⟨us,(bW H' O).seqT (d6 J)⟩,q _ _ s (yX (cq.seqT (d6 J)) Y)⟩
 | _=>simp[aX]at z
def Gx(h:aS X.N X.env.scope i x=true):PI X tg (.Name x pos) (tW X.K cal .seq [.bor i]):=by
 refine(PI.or (uG (bY h)) (xy (bY h))).imp λσ H R q=>?_
 refine ax λZq kq=>?_
 obtain⟨B,E,O,W,vs,xs,st,e1,e2,q⟩:=q;obtain⟨v,rfl,J⟩:=rK e1;have U:aX v=some xs:=e2;rw[ev]at J;refine kq ?_;cases hj:(W[i]?).join with
 |none=>rw[hj]at J;cases J
 |some m =>
  rw[hj]at J;obtain⟨u,eu,so⟩:=aT st hj;cases m with
  |val w =>
   simp only[bA,u0]at J;subst J;have a0:=so;obtain⟨a,us,rfl,Z,z⟩:=p7 a0 U;rcases z with⟨rfl,Y⟩|⟨rfl,Y⟩
   .exact .inl ⟨_,eu,a,rfl,⟨us,(bW H O).seq Y⟩,q _ _ (aj.refl H) (l5 (cq.seq Y) Z)⟩
   .exact .inr ⟨_,eu,a,rfl,⟨us,(bW H O).seqT Y⟩,q _ _ (aj.refl H) (yX (cq.seqT Y) Z)⟩
  |own ys =>
   simp only[bA,u0]at J;subst J;simp[aX]at U;subst U
   obtain⟨a,us,rfl,ha,Z,hO,_⟩:=so;refine .inl ⟨_,eu,a,rfl,⟨us,SqL.of ha⟩,q _ _ (aj.refl H) (l5 (SqL.of ?_) Z)⟩;have hl:bq [.bor i] W σ=[a]:=by simp[bq,hj,eu]
   unfold bg
   simp_all
  |brw ys =>
   simp only[bA,u0]at J;subst J;simp[aX]at U;subst U
   obtain⟨a,us,rfl,Y,Z⟩:=so;exact .inl ⟨_,eu,a,rfl,⟨us,st.keep.seq Y⟩,q _ _ (aj.refl H) (l5 ((dW st.keep).seq Y) Z)⟩
  |ownD ys =>
   have J:=u7 J;subst J;simp[aX]at U
  |mutD ys =>
   have J:=u9 J;subst J;simp[aX]at U
  |brwD ys =>
   have J:=u8 J;subst J;simp[aX]at U
def Gy (g:Gf X T k cal) (hf:f=("enumerate":Str)) (hg:glB X.env.scope f=true) (hs:ah e=true) (hb:aK m=false) (h:PE X e (tE X.K cal m)):PI X (.Tuple ts j tp) (.Call (.Name f p) [e] [] pos) (tW X.K cal .enm [m]):=by
 subst hf;have J:starEach [e] X.env=[(false,eval e X.env)]:=by cases e<;>first|rfl|(simp[ah]at hs)
 refine(yW (dv hg) (g.blt "enumerate" (by decide)) h J).imp λσ H R q=>?_
 obtain⟨B,E,O,W,vs,xs,st,e1,Z,q⟩:=q;obtain⟨v,rfl,e3⟩:=rK e1;simp[aW,ti]at Z;obtain⟨ys,e4,rfl⟩:=Z;refine⟨B,E,O,W,_,st,e3,λu H' s g=>?_⟩;obtain⟨a,us,rfl,rs,z⟩:=p7 (g.2 hb) e4;rcases z with⟨_,U⟩|⟨_,U⟩
 .exact⟨a,rfl,.inl ⟨⟨us,(bW H' O).seq U⟩,q _ _ s (kJ (λH2 Y=>Y.seq (cq.seq U)) rs)⟩⟩
 .exact⟨a,rfl,.inr ⟨⟨us,(bW H' O).seqT U⟩,q _ _ s (kJ (λH2 Y=>Y.seqT (cq.seqT U)) rs)⟩⟩
def D6 (g:Gf X T k cal) (hf:f=("enumerate":Str)) (hg:glB X.env.scope f=true) (h:aS X.N X.env.scope i x=true):PI X (.Tuple ts j tp) (.Call (.Name f p) [.Name x px] [] pos) (tW X.K cal .enm [.bor i]):=by
 subst hf;refine(yW (dv hg) (g.blt "enumerate" (by decide)) (bY h) rfl).imp λσ H R q=>?_
 obtain⟨B,E,O,W,vs,xs,st,e1,e2,q⟩:=q;obtain⟨v,rfl,J⟩:=rK e1;simp only[aW,ti]at e2;obtain⟨zs,U,rfl⟩:=e2;rw[ev]at J;cases hj:(W[i]?).join with
 |none=>rw[hj]at J;cases J
 |some m =>
  rw[hj]at J;obtain⟨u,eu,so⟩:=aT st hj;cases m with
  |val w =>
   simp only[bA,u0]at J;subst J;have a1:=so;obtain⟨a,us,rfl,rs,z⟩:=p7 a1 U;rcases z with⟨rfl,Y⟩|⟨rfl,Y⟩
   .exact⟨_,eu,a,rfl,.inl ⟨⟨us,(bW H O).seq Y⟩,q _ _ (aj.refl H) (kJ (λH2 Z=>Z.seq (cq.seq Y)) rs)⟩⟩
   .exact⟨_,eu,a,rfl,.inr ⟨⟨us,(bW H O).seqT Y⟩,q _ _ (aj.refl H) (kJ (λH2 Z=>Z.seqT (cq.seqT Y)) rs)⟩⟩
  |own ys =>
   simp only[bA,u0]at J;subst J;simp[aX]at U;subst U
   obtain⟨a,us,rfl,ha,rs,hO,_⟩:=so;have hl:bq [.bor i] W σ=[a]:=by simp[bq,hj,eu]
   have hG:bg B O H (bq [.bor i] W σ) a=some (.lst us):=by
    unfold bg
    simp_all
   exact⟨_,eu,a,rfl,.inl ⟨⟨us,SqL.of ha⟩,q _ _ (aj.refl H) (kJ (λH2 Z=>Z.seq (SqL.of hG)) rs)⟩⟩
  |brw ys =>
   simp only[bA,u0]at J;subst J;simp[aX]at U;subst U
   obtain⟨a,us,rfl,Y,rs⟩:=so;exact⟨_,eu,a,rfl,.inl ⟨⟨us,st.keep.seq Y⟩,q _ _ (aj.refl H) (kJ (λH2 Z=>Z.seq ((dW st.keep).seq Y)) rs)⟩⟩
  |ownD ys =>
   have J:=u7 J;subst J;simp[aX]at U
  |mutD ys =>
   have J:=u9 J;subst J;simp[aX]at U
  |brwD ys =>
   have J:=u8 J;subst J;simp[aX]at U
def Bp (g:Gf X T k cal) (hf:f=("range":Str)) (hg:glB X.env.scope f=true) (ha:PA X args (tEs X.K cal ms)) (hn:args.length=1\/args.length=2) (hs:args.all ah=true) (hm:ms.length=args.length) :
  PI X tg (.Call (.Name f p) args [] pos) (tW X.K cal .rng ms):=by
 subst hf;have J:∀e,ah e=true->∀es env,starEach (e::es) env=(false,eval e env)::starEach es env:=λe he es env=>by
  cases e<;>first|rfl|(simp[ah]at he)
 match args,hn with
 | [a],_ =>
  simp only[all_cons,all_nil,Bool.and_true]at hs;refine(oD (dv hg) (g.blt "range" (by decide)) ha (by rw[J a hs];rfl)).imp λσ H R q=>?_
  obtain⟨B,E,O,W,vs,xs,st,U,z,q⟩:=q;refine⟨B,E,O,W,vs,st,U,λus H' s gs=>?_⟩
  match vs,z,gs with
  | [.int j],z,gs =>
   simp only[aW]at z;split at z
   .rename_i c;cases z;obtain⟨u,rfl,Y⟩:=p1 gs.1;have Z:=Y.int;subst Z;exact⟨j,rfl,c.1,c.2,q _ _ s m5⟩
   .cases z
  | [.int j,.int j'],z,gs =>
   have:=p6 U
   simp_all
 | [a,b],_ =>
  simp only[all_cons,all_nil,Bool.and_true,pb]at hs;refine(v5 (dv hg) (g.blt "range" (by decide)) ha (by rw[J a hs.1,J b hs.2];rfl) (by rw[J b hs.2];rfl)).imp λσ H R q=>?_
  obtain⟨B,E,O,W,vs,xs,st,U,z,q⟩:=q;refine⟨B,E,O,W,vs,st,U,λus H' s gs=>?_⟩
  match vs,z,gs with
  | [.int i,.int j],z,gs =>
   simp only[aW]at z;split at z
   .rename_i c;cases z;obtain⟨u,u',rfl,Y,ao⟩:=p2 gs.1;have Z:=Y.int;have e4:=ao.int;subst Z e4;exact⟨i,j,rfl,c,q _ _ s m5⟩
   .cases z
  | [.int j],z,gs =>
   have:=p6 U
   simp_all
end
noncomputable def tF(K:L8)(cal:Cal)(z:ME):TE:=λσ H Q=>∃B E O W xs,aH K B E O H W σ/\ev cal z W=some (.lst xs) /\
 ∀p us H',aj H H'->H p=none->H' p=some (.lst us)->Reps K (az H' (p::O)) xs us->Q (.ref p) H'
def gP :aj (az H (p::O)) (az H O):=ce (aj.refl H) λb z=>.inl (Js _ z)
def iz(h:p∈O):az (upd H p o) O=az H O:=by
 funext b
 unfold az;split
 .rfl
 .rename_i J;exact aZ λz=>J (by rw[z];exact h)
def vk{K:L8}{H H':Hp}{O:List Addr}{J:ME}{xs:List PV}{p:Addr}{us:List V}(U:∀a∈O,H a≠none)(Y:H p=none)(e:H' p=some (.lst us))(r:Reps K (az H' (p::O)) xs us):Got K H' O J (.lst xs) (.ref p):=by
 refine .of ?_;refine⟨p,us,rfl,SqL.of ?_,Reps.mono gP _ r⟩;rw[ba λz=>U p z Y];exact e
section
variable{X:Cx}{T:Tab}{k:Nat}{cal:Cal}
def eP(U:∀W v,ev cal z W=some v->∃xs,v=.lst xs)(h:PE X e (tF X.K cal z)):PE X e (tE X.K cal z):=by
 refine h.imp λσ H Q q=>?_
 obtain⟨B,E,O,W,v,st,J,q⟩:=q;obtain⟨xs,rfl⟩:=U W v J;exact⟨B,E,O,W,xs,st,J,λp us H' s Y Z r=>q _ _ s (vk st.here Y Z r)⟩
theorem Gf.blk(g:Gf X T k cal)(x)(fvs)(scope)(z)(J)(C)(fp):Gf (X.blk x fvs scope z J C fp) T k cal:={ g with }
def kK(h:fD osc N scope x fvs js=true):kA osc N scope x fvs js:=by
 unfold fD at h;simp only[pb,IE,Jq]at h;obtain⟨⟨⟨⟨⟨⟨⟨⟨h1,h2⟩,z⟩,J⟩,U⟩,Y⟩,Z⟩,h8⟩,h9⟩:=h;exact⟨h1,h2,z,J,U,Y,Z,h8,h9⟩
def D7{K:L8}{σ F:St}(st:aH K B E O H W σ)(U:aj H H1)(s2:aj H1 H2)(hD:H1 D=none)(a0:H2 D≠none)
  (a1:∀z,F.set 0 z=(fh js σ).set 0 z) (hl:0<F.length) (hx:Rep K (az H2 (D::O)) x ux):aH K H1 [] (D::O) H2 (bC js W x) (F.set 0 (some ux)):=by
 have hv:aj (az H O) (az H2 (D::O)):=ce (U.trans s2) λb hb=>by
  rcases IB.mp hb with rfl|hb
  .exact .inr (U.free hD)
  .exact .inl hb
 rw[a1];have Y:∀(i:Nat) m,ix m=true->(bC js W x)[i]?≠some (some m):=λi m hm e=>by
  unfold bC at e;cases i with
  |zero =>
   simp at e;subst e;cases hm
  |succ i =>
   simp only[getElem?_cons_succ,IS,ti]at e;obtain⟨j,_,e⟩:=e;cases Z:(W[j]?).join with
   |none=>rw[Z]at e;cases e
   |some mm =>
    rw[Z]at e;cases mm<;>first|(simp[fz]at e;done)|(simp only[fz,u0]at e;subst e;cases hm)
 refine⟨s2,λa J=>?_,λa J=>by simp at J,λa J=>by simp at J,?_,λi m e=>?_,λi j m m' a _ e _ hm=>absurd e (Y i m hm)
  ⟩
 .rcases IB.mp J with rfl|J
  .exact a0
  .exact λe=>st.here a J ((U.trans s2).free e)
 .simp[bC,fh]
 .cases i with
  |zero =>
   simp only[bC,getElem?_cons_zero,u0]at e;subst e;exact⟨ux,by simp[fh],hx⟩
  |succ i =>
   simp only[bC,getElem?_cons_succ,IS,ti]at e;obtain⟨j,ej,e⟩:=e;cases Z:(W[j]?).join with
   |none=>rw[Z]at e;cases e
   |some mm =>
    rw[Z]at e;obtain⟨u,eu,so⟩:=aT st Z;have a4:((fh js σ).set 0 (some ux))[i+1]?=some (some u):=by
     simp[fh,ej,eu]
    refine⟨u,a4,?_⟩;cases mm with
    |val w =>
     simp only[fz,u0]at e;subst e;exact Rep.mono hv _ so
    |own ys =>
     simp only[fz,u0]at e;subst e;obtain⟨a,us,rfl,J,rs,hO,_⟩:=so;exact⟨a,us,rfl,SqL.of (U _ _ J),Reps.mono hv _ rs⟩
    |brw ys =>
     simp only[fz,u0]at e;subst e;obtain⟨a,us,rfl,sq,rs⟩:=so;exact⟨a,us,rfl,(st.keep.trans U).seq sq,Reps.mono hv _ rs⟩
    |brwD kvs =>
     simp only[fz,u0]at e;subst e;obtain⟨a,rfl,J⟩:=so;exact⟨a,rfl,aj.rd (st.keep.trans U) J⟩
    | _ =>
     simp only[fz,u0]at e;subst e;obtain⟨a,rfl,J,_⟩:=so;exact⟨a,rfl,.inl (U _ _ J)⟩
def tR{cond elt:ME}(g:Gf X T k cal)(U:fD X.env.scope X.N scope x (dB X.N js) js=true)
  (hw:PI X (.Name x px) it (tW X.K cal Z ms)) (Y:eW it=true)
  (hc:∀z J C fp,PF (X.blk x (dB X.N js) scope z J C fp) ifs (tT X.K cal cond)) (he:∀z J C fp,PE (X.blk x (dB X.N js) scope z J C fp) e (tE X.K cal elt)) (hb:aK elt=false) :
  PE X (.ListComp e [⟨.Name x px,it,ifs,0⟩] scope pos) (tF X.K cal (.comp Z ms js cond elt)):=by
 refine(uU (kK U) g.calm hw hc he (by intro v;cases it<;>first|rfl|(simp[eW]at Y))).imp λσ H Q q=>?_
 exact comp_go hb q
where
 comp_go {k':Sk}{ms:List ME}{js:List Nat}{cond elt:ME}{K:L8}{σ:St}{H:Hp}{Q:VK} (hb:aK elt=false) (q:tF K cal (.comp k' ms js cond elt) σ H Q):yc (tW K cal k' ms) js (tT K cal cond) (tE K cal elt) σ H Q:=by
  refine ax λZq kq=>?_
  obtain⟨B,E,O,W,ws,st,e1,q⟩:=q;rw[ev]at e1;simp only[gf]at e1;obtain⟨vs,e1,xs,e2,e3⟩:=e1;refine kq ?_;split at e3
  .rename_i hlen;simp only[ti,PV.lst.injEq,exists_eq_right]at e3;refine⟨B,E,O,W,vs,xs,st,e1,e2,λJ H1 s1 it D hD=>?_⟩;have hDO:D∉O:=λz=>bB s1 st.here D z hD
   have it1:=it.weak (m4 (st.keep.trans s1));refine⟨λi m F H'=>m=xs.length-i/\i<=xs.length/\aj H1 H'/\(∀z,F.set 0 z=(fh js σ).set 0 z)/\0<F.length/\∃done bV ys,fO (λx=>(ev cal cond (bC js W x)).bind bc) (λx=>ev cal elt (bC js W x)) (xs.drop i)=some bV/\ws=done++bV/\done.length<=i/\H' D=some (.lst ys)/\Reps K (az H' (D::O)) done ys,⟨xs.length,by simp,Ji _,aE hD _,λ_=>rfl,by simp[fh],[],ws,[],by simpa using e3,rfl,pe _,aC,.nil⟩,?_⟩;rintro i m F H' ⟨rfl,hi,s2,hσ,hl,done,bV,ys,eg,ew,hdl,hDy,rs⟩;by_cases hlt:i<xs.length
   .right;have ex:=IJ hlt;refine⟨it1.go i _ H' s2 ex,λσ2 H2=>∃m',m'<xs.length-i/\(m'=xs.length-(i+1)/\i+1<=xs.length/\aj H1 H2/\(∀z,σ2.set 0 z=(fh js σ).set 0 z)/\0<σ2.length/\∃done bV ys,fO (λx=>(ev cal cond (bC js W x)).bind bc) (λx=>ev cal elt (bC js W x)) (xs.drop (i+1))=some bV/\ws=done++bV/\done.length<=i+1/\H2 D=some (.lst ys)/\Reps K (az H2 (D::O)) done ys),λσ2 H2 z=>z,λux H2 y=>?_⟩;obtain⟨s3,hr⟩:=it1.yld i _ H' ux H2 s2 ex y;have sv:aj (az H1 O) (az H2 (D::O)):=ce (s2.trans s3) λb hb=>by
     rcases IB.mp hb with rfl|hb
     .exact .inr hD
     .exact .inl hb
    have hx:=hr (D::O) (λa ha=>by
     rcases IB.mp ha with rfl|ha
     .rw[hDy];simp
     .exact λz=>bB s1 st.here a ha (s2.free z)) sv
    have hD2:=s3 _ _ hDy;have stb:=D7 (js:=js) (W:=W) st s1 (s2.trans s3) hD (by rw[hD2];simp) hσ hl hx;rw[Lu hlt,fO]at eg;simp only[gf]at eg;obtain⟨b,eb,eg⟩:=eg;refine⟨H1,[],D::O,_,b,stb,by simpa[evB,gf]using eb,λH3 s4=>?_⟩;have hσ2:∀z,(F.set 0 (some ux)).set 0 z=(fh js σ).set 0 z:=λz=>by rw[set_set];exact hσ z
    have hl2:0<(F.set 0 (some ux)).length:=by rw[J9];exact hl
    cases b with
    |false =>
     rw[if_neg (by simp)]at eg;dsimp only;rw[if_neg (by simp)];refine⟨_,by omega,rfl,hlt,(s2.trans s3).trans s4,hσ2,hl2,done,bV,ys,eg,ew,by omega,s4 _ _ hD2,Reps.mono ?_ _ rs⟩;exact(ak s3).trans (ak s4)
    |true =>
     rw[if_pos rfl]at eg;dsimp only;rw[if_pos rfl];refine ax λZq kq=>?_
     simp only[gf,ti]at eg;obtain⟨y',ey,rest',eg,rfl⟩:=eg;refine kq ?_;refine⟨H1,[],D::O,_,y',stb.mono s4,ey,λuy H4 s5 gy=>?_⟩;have hD4:=s5 _ _ (s4 _ _ hD2);have ry:=gy.2 hb;have rs4:=Reps.mono (((ak s3).trans (ak s4)).trans (ak s5)) _ rs;have hyl:ys.length<=10000:=by rw[<- rs.length];omega
     refine⟨ys,hD4,JW hyl (by decide),_,by omega,rfl,hlt,?_,hσ2,hl2,done++[y'],rest',ys++[uy],eg,by simp[ew],by simp;omega,aC,?_⟩
     .intro b u eb;rw[aZ (cJ eb hD)];exact s5 _ _ (s4 _ _ ((s2.trans s3) _ _ eb))
     .rw[iz (JC)];exact rs4.snoc ry
   .left;have ei:i=xs.length:=by omega
    subst ei;rw[drop_length,fO]at eg;cases eg;rw[JD]at ew;subst ew;exact⟨it1.stop H' s2,q D ys H' (s1.trans s2) (s1.free hD) hDy rs⟩
  .cases e3
def aU(z:ah e=true)(es)(env):starEach (e::es) env=(false,eval e env)::starEach es env:=by
 cases e<;>first|rfl|(simp[ah]at z)
theorem b7 :∀{es},es.all ah=true->(backTo pos (starEach es env)).any (·.1)=false
 | [],_=>rfl
 |e::es,h=>by
  simp only[all_cons,pb]at h;rw[aU h.1];show(false||(backTo pos (starEach es env)).any (·.1))=false;rw[b7 h.2];rfl
theorem bM:∀{ms}{N}{sc}{es},chks T ms N sc es=true->es.all ah=true/\ms.length=es.length
 | [],_,_,[],_=>⟨rfl,rfl⟩
 | [],_,_,_::_,h=>by simp[chks]at h
 | _::_,_,_,[],h=>by simp[chks]at h
 |m::ms,N,sc,e::es,h=>by
  simp[chks]at h;obtain⟨h1,h2⟩:=bM h.2;exact⟨by simp[h.1.2,h1],by simp[h2]⟩
def bH(h:PE X e (tE X.K cal Y))(J:kE e=true):PT X e (tT X.K cal Y):=by
 refine(CJ h (by intro w;cases e<;>first|rfl|(simp[kE]at J;done)|(rename_i op _ _;cases op<;>first|rfl|(simp[kE]at J)))).imp λσ H Q q=>?_
 obtain⟨B,E,O,W,b,st,z,q⟩:=q;simp[evB,gf]at z;obtain⟨v,z,U⟩:=z;refine⟨B,E,O,W,v,st,z,λu H' s g=>?_⟩;cases v<;>simp[bc]at U
 subst U;exact⟨_,g.1.bl,q H' s⟩
def yY(h:PE X e (tE X.K cal m))(hs:PA X es (tEs X.K cal ms))(hn:ah e=true):PA X (e::es) (tEs X.K cal (m::ms)):=by
 refine(aM h hs (aU hn es _)).imp λσ H Q q=>?_
 obtain⟨B,E,O,W,vs,st,z,q⟩:=q;simp[evs,gf,ti]at z;obtain⟨v,z,ws,e2,rfl⟩:=z;refine⟨B,E,O,W,v,st,z,λu H1 Y Z=>⟨B,E,O,W,ws,st.mono Y,e2,λus H2 J g2=>q _ H2 (Y.trans J) ⟨.cons (Z.1.mono J) g2.1,λU=>?_⟩⟩⟩;simp only[all_cons,pb,IM]at U;exact .cons ((Z.mono J).2 U.1) (g2.2 U.2)
def Bq:PA X [] (tEs X.K cal []):=by
 refine bJ.imp λσ H Q q=>?_
 obtain⟨B,E,O,W,vs,st,z,q⟩:=q;simp only[evs,u0]at z;subst z;exact q [] H (aj.refl H) ⟨.nil,λ_=>.nil⟩
def yZ:PA X [] (tAs X.K cal []):=by
 refine bJ.imp λσ H Q q=>?_
 obtain⟨B,E,O,W,vs,st,z,q⟩:=q;simp only[evA,u0]at z;subst z;exact q [] H (aj.refl H) .nil
def y0{K:L8}(s:aj H H')(h:lb K O H m u):lb K O H' m u:=by
 cases m<;>first|exact Rep.mono (ak s) _ h|exact h|(obtain⟨a,us,e,q,r⟩:=h;exact⟨a,us,e,s.seq q,Reps.mono (ak s) _ r⟩)|(obtain⟨a,e,q⟩:=h;exact⟨a,e,aj.rd s q⟩)
def wI(J:aK m=false)(h:PE X e (tE X.K cal m))(hs:PA X es (tAs X.K cal ms))(Z:ah e=true):PA X (e::es) (tAs X.K cal (m::ms)):=by
 refine(aM h hs (aU Z es _)).imp λσ H Q q=>?_
 obtain⟨B,E,O,W,vs,st,e1,q⟩:=q;have z:(ev cal m W).bind (λv=>(evA cal ms W).map (MV.val v::·))=some vs:=by
  rw[<- e1];cases m<;>first|(cases J;done)|(simp;done)|rfl
 simp[gf]at z;obtain⟨v,e9,ws,e2,rfl⟩:=z;exact⟨B,E,O,W,v,st,e9,λu H1 U g1=>⟨B,E,O,W,ws,st.mono U,e2,λus H2 Y g2=>q _ H2 (U.trans Y) (.cons ((g1.mono Y).2 J) g2)⟩⟩
def y9(h:aS X.N X.env.scope i x=true)(hs:PA X es (tAs X.K cal ms)):PA X (.Name x pos::es) (tAs X.K cal (.bor i::ms)):=by
 refine(aM (bY h) hs rfl).imp λσ H Q q=>?_
 obtain⟨B,E,O,W,vs,st,z,q⟩:=q;rw[evA]at z;simp[gf,ti]at z;obtain⟨m',z,ws,e2,rfl⟩:=z;cases Y:(W[i]?).join with
 |none=>rw[Y]at z;cases z
 |some m =>
  rw[Y]at z;obtain⟨u,eu,J⟩:=aT st Y;have ao:lb X.K O H m' u:=by
   cases m with
   |val w=>simp[gh,u0]at z;subst z;exact J
   |own ys=>simp[gh,u0]at z;subst z;obtain⟨a,us,rfl,U,Z,_⟩:=J;exact⟨a,us,rfl,SqL.of U,Z⟩
   |brw ys=>simp[gh,u0]at z;subst z;obtain⟨a,us,rfl,sq,Z⟩:=J;exact⟨a,us,rfl,st.keep.seq sq,Z⟩
   |brwD kvs=>simp[gh,u0]at z;subst z;obtain⟨a,rfl,U⟩:=J;exact⟨a,rfl,aj.rd st.keep U⟩
   | _=>simp[gh,u0]at z;subst z;obtain⟨a,rfl,U,_⟩:=J;exact⟨a,rfl,.inl U⟩
  exact⟨u,eu,⟨B,E,O,W,ws,st,e2,λus H2 s2 g2=>q _ H2 s2 (.cons (y0 s2 ao) g2)⟩⟩
def Gz(Y:PE X l (tE X.K cal a))(Z:PE X r (tE X.K cal b)):PE X (.BinOp l (tI op) r pos) (tE X.K cal (.bin op a b)):=by
 refine(uH (tO op) Y Z).imp λσ H Q q=>?_
 obtain⟨B,E,O,W,v,st,z,q⟩:=q;rw[ev]at z;simp[gf]at z;obtain⟨x,z,y,e2,e3⟩:=z;exact⟨B,E,O,W,x,st,z,λux H1 J g1=>⟨B,E,O,W,y,st.mono J,e2,λuy H2 U g2=>⟨O,x,y,v,bB (J.trans U) st.here,g1.1.mono U,g2.1,e3,λu H3 s3 r=>q u H3 ((J.trans U).trans s3) (.of r)⟩⟩⟩
def GA(U:PE X e (tE X.K cal a)):PE X (.UnaryOp .Not e pos) (tE X.K cal (.not a)):=by
 refine(CO U).imp λσ H Q q=>?_
 obtain⟨B,E,O,W,v,st,z,q⟩:=q;rw[ev]at z;simp only[gf,ti]at z;obtain⟨b,⟨x,z,J⟩,rfl⟩:=z;cases x<;>simp[bc,u0,reduceCtorEq]at J
 subst J;exact⟨B,E,O,W,_,st,z,λux H1 Y Z=>⟨_,Z.1.bl,q _ H1 Y (.of (d8 _ _))⟩⟩
def GB(U:PT X e (tT X.K cal a)):PT X (.UnaryOp .Not e pos) (tT X.K cal (.not a)):=by
 refine(CM U).imp λσ H Q q=>?_
 obtain⟨B,E,O,W,b,st,z,q⟩:=q;simp only[evB,ev,gf,ti]at z;obtain⟨v,⟨c,⟨x,z,Y⟩,rfl⟩,J⟩:=z;simp only[bc,u0]at J;subst J;exact⟨B,E,O,W,c,st,by simp[evB,z,Y],λH' s=>q H' s⟩
def Cr(ha:PE X x (tE X.K cal a))(hb:PE X (.BoolOp .And (y::r) pos) (tE X.K cal b)):PE X (.BoolOp .And (x::y::r) pos) (tE X.K cal (.and a b)):=by
 refine(CN ha hb).imp λσ H Q q=>?_
 obtain⟨B,E,O,W,v,st,U,q⟩:=q;rw[ev]at U;simp only[gf]at U;obtain⟨c,⟨z,U,Z⟩,J⟩:=U;cases z<;>simp[bc,u0,reduceCtorEq]at Z
 subst Z;refine⟨B,E,O,W,_,st,U,λux H1 Y g1=>⟨_,g1.1.bl,?_⟩⟩;split at J
 .rename_i h;rw[if_pos h];simp only[gf,ti]at J;obtain⟨z',J,c',e4,rfl⟩:=J;cases z'<;>simp[bc,u0,reduceCtorEq]at e4
  subst e4;exact⟨B,E,O,W,_,st.mono Y,J,λu H2 s2 g2=>q u H2 (Y.trans s2) (by rw[g2.1.bl];exact .of (d8 _ _))⟩
 .rename_i h;rw[if_neg h];cases J;exact q _ H1 Y (.of (d8 _ _))
def GC(ha:PE X x (tE X.K cal a))(hb:PE X (.BoolOp .Or (y::r) pos) (tE X.K cal b)):PE X (.BoolOp .Or (x::y::r) pos) (tE X.K cal (.or a b)):=by
 refine(FE ha hb).imp λσ H Q q=>?_
 obtain⟨B,E,O,W,v,st,U,q⟩:=q;rw[ev]at U;simp only[gf]at U;obtain⟨c,⟨z,U,Z⟩,J⟩:=U;cases z<;>simp[bc,u0,reduceCtorEq]at Z
 subst Z;refine⟨B,E,O,W,_,st,U,λux H1 Y g1=>⟨_,g1.1.bl,?_⟩⟩;split at J
 .rename_i h;rw[if_pos h];cases J;exact q _ H1 Y (.of (d8 _ _))
 .rename_i h;rw[if_neg h];simp only[gf,ti]at J;obtain⟨z',J,c',e4,rfl⟩:=J;cases z'<;>simp[bc,u0,reduceCtorEq]at e4
  subst e4;exact⟨B,E,O,W,_,st.mono Y,J,λu H2 s2 g2=>q u H2 (Y.trans s2) (by rw[g2.1.bl];exact .of (d8 _ _))⟩
def Cs(h:PT X (.BoolOp op vs pos) t):PW X (.BoolOp op vs pos) t:=λw pins s σ H Q I q=>by
 have:=h pins s σ H Q I q;exact this
def Ct(ha:PT X x (tT X.K cal a))(hb:PW X (.BoolOp .And (y::r) pos) (tT X.K cal b)):PT X (.BoolOp .And (x::y::r) pos) (tT X.K cal (.and a b)):=by
 refine(CL ha hb).pt.imp λσ H Q q=>?_
 obtain⟨B,E,O,W,v,st,U,q⟩:=q;simp only[evB,ev,gf]at U;obtain⟨w,⟨c,⟨z,U,e2⟩,J⟩,Y⟩:=U;refine⟨B,E,O,W,c,st,by simp[evB,U,e2],λH1 Z=>?_⟩;split at J
 .rename_i h;rw[if_pos h];simp only[gf,ti]at J;obtain⟨z',J,c',e5,rfl⟩:=J;simp only[bc,u0]at Y;subst Y;exact⟨B,E,O,W,_,st.mono Z,by simp[evB,J,e5],λH2 s2=>q H2 (Z.trans s2)⟩
 .rename_i h;rw[if_neg h];cases J;cases Y;exact q H1 Z
def GD(ha:PT X x (tT X.K cal a))(hb:PW X (.BoolOp .Or (y::r) pos) (tT X.K cal b)):PT X (.BoolOp .Or (x::y::r) pos) (tT X.K cal (.or a b)):=by
 refine(FB ha hb).pt.imp λσ H Q q=>?_
 obtain⟨B,E,O,W,v,st,U,q⟩:=q;simp only[evB,ev,gf]at U;obtain⟨w,⟨c,⟨z,U,e2⟩,J⟩,Y⟩:=U;refine⟨B,E,O,W,c,st,by simp[evB,U,e2],λH1 Z=>?_⟩;split at J
 .rename_i h;rw[if_pos h];cases J;cases Y;exact q H1 Z
 .rename_i h;rw[if_neg h];simp only[gf,ti]at J;obtain⟨z',J,c',e5,rfl⟩:=J;simp[bc,u0]at Y;subst Y;exact⟨B,E,O,W,_,st.mono Z,by simp[evB,J,e5],λH2 s2=>q H2 (Z.trans s2)⟩
def GE(hc:PT X t (tT X.K cal c))(ha:PE X x (tE X.K cal a))(hb:PE X y (tE X.K cal b))(na:aK a=false)(nb:aK b=false):PE X (.IfExp t x y pos) (tE X.K cal (.ite c a b)):=by
 refine(xt hc ha hb).imp λσ H Q q=>?_
 obtain⟨B,E,O,W,v,st,z,q⟩:=q;rw[ev]at z;simp only[gf]at z;obtain⟨k',z,U⟩:=z;refine⟨B,E,O,W,k',st,by simpa[evB,gf]using z,λH1 J=>?_⟩;split at U
 .rename_i h;rw[if_pos h];exact⟨B,E,O,W,v,st.mono J,U,λu H2 Y Z=>q u H2 (J.trans Y) (.of (Z.2 na))⟩
 .rename_i h;rw[if_neg h];exact⟨B,E,O,W,v,st.mono J,U,λu H2 Y Z=>q u H2 (J.trans Y) (.of (Z.2 nb))⟩
def GF(hc:PT X t (tT X.K cal c))(ha:PT X x (tT X.K cal a))(hb:PT X y (tT X.K cal b)):PT X (.IfExp t x y pos) (tT X.K cal (.ite c a b)):=by
 intro pins s σ H Q I q;refine ax λZq kq=>?_
 obtain⟨B,E,O,W,v,st,z,q⟩:=q;simp only[evB,ev,gf]at z;obtain⟨w,⟨Z,z,U⟩,e4⟩:=z;refine kq ?_;refine isTrue_IfExp (thn (hc pins s σ H (λb H1=>b=Z/\aj H H1) I ⟨B,E,O,W,Z,st,by simpa[evB,gf]using z,λH1 J=>⟨rfl,J⟩⟩) λb J ⟨H1,I1,eb,hs⟩=>?_);subst eb;split at U
 .rename_i h;subst h;exact ha pins J σ H1 Q I1 ⟨B,E,O,W,v,st.mono hs,by simp[evB,U,e4],λH2 Y=>q H2 (hs.trans Y)⟩
 .rename_i h;have:b=false:=by cases b<;>simp at h ⊢
  subst this;exact hb pins J σ H1 Q I1 ⟨B,E,O,W,v,st.mono hs,by simp[evB,U,e4],λH2 Y=>q H2 (hs.trans Y)⟩
def GG(g:Gf X T k cal)(ha:PE X l (tE X.K cal a))(hb:PE X r (tE X.K cal b))(hm:behindInMarks (yI op) r=false):PE X (.Compare l [yI op] [r] pos) (tE X.K cal (.cmp op a b))/\PT X (.Compare l [yI op] [r] pos) (tT X.K cal (.cmp op a b)):=by
 refine⟨(Az (yS g.units op) ha hb hm).imp λσ H Q q=>?_,(AA (yS g.units op) ha hb hm).imp λσ H Q q=>?_⟩
 .obtain⟨B,E,O,W,v,st,z,q⟩:=q;rw[ev]at z;simp only[gf,ti]at z;obtain⟨x,z,y,Y,c,Z,rfl⟩:=z;exact⟨B,E,O,W,x,st,z,λux H1 J g1=>⟨B,E,O,W,y,st.mono J,Y,λuy H2 U g2=>⟨O,x,y,c,g1.1.mono U,g2.1,Z,q _ H2 (J.trans U) (.of (d8 _ _))⟩⟩⟩
 .obtain⟨B,E,O,W,v,st,z,q⟩:=q;simp only[evB,ev,gf,ti]at z;obtain⟨w,⟨x,z,y,Y,c,Z,rfl⟩,e4⟩:=z;simp[bc,u0]at e4;subst e4;exact⟨B,E,O,W,x,st,z,λux H1 J g1=>⟨B,E,O,W,y,st.mono J,Y,λuy H2 U g2=>⟨O,x,y,c,g1.1.mono U,g2.1,Z,_,rfl,q H2 (J.trans U)⟩⟩⟩
def GH(h:PA X es (tEs X.K cal ms))(U:(ms.all λm=>!aK m)=true):PE X (.Tuple es j pos) (tE X.K cal (.tup ms)):=by
 refine(sL h).imp λσ H Q q=>?_
 obtain⟨B,E,O,W,v,st,z,q⟩:=q;rw[ev]at z;simp only[gf]at z;obtain⟨vs,z,J⟩:=z;split at J
 .rename_i hl;cases J;refine⟨B,E,O,W,vs,st,z,λus H1 Y Z=>⟨?_,λp hp=>?_⟩⟩
  .rw[<- (Z.2 U).length];exact dh hl
  .exact q _ _ (Y.trans (aE hp _)) (.of (gk (bB Y st.here) hp (Z.2 U)))
 .cases J
def Cu(h:PA X es (tEs X.K cal ms))(z:(ms.all λm=>!aK m)=true):PE X (.List es pos) (tF X.K cal (.lst ms)):=by
 refine(xA h).imp λσ H Q q=>?_
 obtain⟨B,E,O,W,xs,st,J,q⟩:=q;rw[ev]at J;simp only[gf]at J;obtain⟨vs,J,U⟩:=J;split at U
 .rename_i hl;cases U;refine⟨B,E,O,W,xs,st,J,λus H1 Z g1=>⟨?_,λp Y=>?_⟩⟩
  .rw[<- (g1.2 z).length];exact dh hl
  .refine q p us _ (Z.trans (aE Y _)) (Z.free Y) aC ?_;rw[iz (JC)];refine Reps.mono (ce (aj.refl H1) λb z=>?_) _ (g1.2 z);rcases IB.mp z with rfl|z
   .exact .inr Y
   .exact .inl z
 .cases U
def GI(Y:PE X v (tE X.K cal a))(hi:PE X s (tE X.K cal i))(hs:bv s=true):PE X (.Subscript v s pos) (tE X.K cal (.idx a i)):=by
 refine(F1 DZ Y hi (tP hs)).imp λσ H Q q=>?_
 obtain⟨B,E,O,W,v,st,z,q⟩:=q;rw[ev]at z;simp[gf]at z;obtain⟨x,z,y,Z,e3⟩:=z;exact⟨B,E,O,W,x,st,z,λux H1 J g1=>⟨B,E,O,W,y,st.mono J,Z,λuy H2 U g2=>⟨O,x,y,v,bB (J.trans U) st.here,g1.1.mono U,g2.1,e3,λu H3 s3 r=>q u H3 ((J.trans U).trans s3) (.of r)⟩⟩⟩
noncomputable def tB1(K:L8)(cal:Cal)(z:ME):TO:=λσ H Q=>∃B E O W o,aH K B E O H W σ/\((ev cal z W).bind λv=>bnd z v)=some o/\∀H',aj H H'->Q o H'
def D8(h:jn m=true):PO X none (tB1 X.K cal m):=by
 have e:m=.cst .non:=by
  unfold jn at h;split at h
  .rfl
  .cases h
 subst e;intro pins s σ H Q I q;refine ax λU J=>?_
 obtain⟨B,E,O,W,o,st,z,q⟩:=q;simp[ev,bind_some,bnd]at z;subst z;refine J ?_;exact AD pins s σ H Q I (q H (aj.refl H))
def D9(h:PE X l (tE X.K cal m))(U:jn m=false):PO X (some l) (tB1 X.K cal m):=by
 intro pins s σ H Q I q;refine ax λZ Y=>?_
 obtain⟨B,E,O,W,o,st,z,q⟩:=q;simp[gf]at z;obtain⟨v,z,J⟩:=z;obtain⟨i,rfl,rfl⟩:∃i,v=.int i/\o=some i:=by
  unfold bnd at J;split at J
  .simp[jn]at U
  .simp_all
  .cases J
 refine Y ?_;exact AE h pins s σ H Q I ⟨B,E,O,W,_,st,z,λu H' s' g=>⟨i,g.1.int,q H' s'⟩⟩
def Br{a lo hi:ME}{p2 pos:Pos}(ha:PE X v (tE X.K cal a))(hl:PO X l (tB1 X.K cal lo))(hu:PO X u (tB1 X.K cal hi)):PE X (.Subscript v (.Slice l u none p2) pos) (tE X.K cal (.slice a lo hi)):=by
 refine(xI D0 ha hl hu).imp λσ H Q q=>?_
 refine ax λZq kq=>?_
 obtain⟨B,E,O,W,w,st,z,q⟩:=q;rw[ev,gf]at z;obtain⟨x,z,J⟩:=z;rw[gf]at J;obtain⟨ao,J,U⟩:=J;rw[gf]at U;obtain⟨ar,U,e4⟩:=U;refine kq ?_;exact⟨B,E,O,W,x,st,z,λux H1 Y g1=>⟨B,E,O,W,ao,st.mono Y,J,λH2 Z=>⟨B,E,O,W,ar,(st.mono Y).mono Z,U,λH3 s3 =>
  ⟨O,x,w,bB ((Y.trans Z).trans s3) st.here,g1.1.mono (Z.trans s3),e4,λu H4 s4 r=>q u H4 (((Y.trans Z).trans s3).trans s4) (.of r)⟩⟩⟩⟩
def rL {id:String} (hc:b_ X (.builtin id) (RBM X.K (aG f))) (U:glB X.env.scope x=true) (Y:X.mg x=none) (hv:bootBuiltins x=some (.builtin id)) (Z:x ≠ "__name__") (hd:(x==("__debug__":Str))=false)
  (ha:PA X (e::es) (tEs X.K cal ms)) (hs:(e::es).all ah=true):PE X (.Call (.Name x p) (e::es) [] pos) (tE X.K cal (.blt f ms)):=by
 simp only[all_cons,pb]at hs;refine(eR hc (dv U) Y hv ha Z hd (aU hs.1 es _) (b7 hs.2)).imp λσ H Q q=>?_
 obtain⟨B,E,O,W,v,st,z,q⟩:=q;rw[ev,gf]at z;obtain⟨vs,z,e2⟩:=z;exact⟨B,E,O,W,vs,st,z,λus H1 J g1=>⟨O,vs,v,bB J st.here,g1.1,e2,λu H2 s2 r=>q u H2 (J.trans s2) (.of r)⟩⟩
def y_ {id:String} (hc:b_ X (.type id) (RBM X.K (aG f))) (U:glB X.env.scope x=true) (Y:X.mg x=none) (hv:bootBuiltins x=some (.type id)) (Z:x ≠ "__name__") (hd:(x==("__debug__":Str))=false)
  (ha:PA X (e::es) (tEs X.K cal ms)) (hs:(e::es).all ah=true):PE X (.Call (.Name x p) (e::es) [] pos) (tE X.K cal (.blt f ms)):=by
 simp only[all_cons,pb]at hs;refine(dc hc (dv U) Y hv ha Z hd (aU hs.1 es _) (b7 hs.2)).imp λσ H Q q=>?_
 obtain⟨B,E,O,W,v,st,z,q⟩:=q;rw[ev,gf]at z;obtain⟨vs,z,e2⟩:=z;exact⟨B,E,O,W,vs,st,z,λus H1 J g1=>⟨O,vs,v,bB J st.here,g1.1,e2,λu H2 s2 r=>q u H2 (J.trans s2) (.of r)⟩⟩
def o6{K:L8}(q:tF K cal (.blt f ms) σ H Q):tCB (RBF K (aG f)) (tEs K cal ms) σ H Q:=by
 obtain⟨B,E,O,W,xs,st,z,q⟩:=q;rw[ev,gf]at z;obtain⟨vs,z,Z⟩:=z;refine⟨B,E,O,W,vs,st,z,λus H1 J g1=>⟨O,vs,xs,bB J st.here,g1.1,Z,λl ws U r=>q l ws _ (J.trans (aE U _)) (J.free U) aC ?_⟩⟩;rw[iz (JC)];refine Reps.mono (ce (aj.refl H1) λb Y=>?_) _ r;rcases IB.mp Y with rfl|Y
 .exact .inr U
 .exact .inl Y
def D_ {id:String} (hc:b_ X (.builtin id) (RBF X.K (aG f))) (z:glB X.env.scope x=true) (J:X.mg x=none) (hv:bootBuiltins x=some (.builtin id)) (U:x ≠ "__name__") (hd:(x==("__debug__":Str))=false)
  (Y:PA X (e::es) (tEs X.K cal ms)) (hs:(e::es).all ah=true):PE X (.Call (.Name x p) (e::es) [] pos) (tF X.K cal (.blt f ms)):=by
 simp only[all_cons,pb]at hs;exact(eR hc (dv z) J hv Y U hd (aU hs.1 es _) (b7 hs.2)).imp λσ H Q q=>o6 q
def Bs {id:String} (hc:b_ X (.type id) (RBF X.K (aG f))) (z:glB X.env.scope x=true) (J:X.mg x=none) (hv:bootBuiltins x=some (.type id)) (U:x ≠ "__name__") (hd:(x==("__debug__":Str))=false)
  (Y:PA X (e::es) (tEs X.K cal ms)) (hs:(e::es).all ah=true):PE X (.Call (.Name x p) (e::es) [] pos) (tF X.K cal (.blt f ms)):=by
 simp only[all_cons,pb]at hs;exact(dc hc (dv z) J hv Y U hd (aU hs.1 es _) (b7 hs.2)).imp λσ H Q q=>o6 q
def Ea(g:Gf X T k cal)(hf:T.fs[f]?=some x)(J:glB X.env.scope x=true)(U:aq x=true)(ha:PA X es (tAs X.K cal ms))(hs:es.all ah=true)(hl:ms.length=es.length):PE X (.Call (.Name x p) es [] pos) (tE X.K cal (.call f ms)):=by
 obtain⟨fa,fd,ps,h1,h2,Y,F,_⟩:=g.fns f x hf;have key:∀σ H Q,tE X.K cal (.call f ms) σ H Q->xB (spM X.K cal f) [] E0 (tAs X.K cal ms) σ H Q:=λσ H Q q=>by
  obtain⟨B,E,O,W,v,st,z,q⟩:=q;rw[ev,gf]at z;obtain⟨vs,z,e2⟩:=z;refine⟨B,E,O,W,vs,st,z,λus H1 Z g1=>⟨O,vs,v,bB Z st.here,?_,e2,λu H2 s2 r=>q u H2 (Z.trans s2) (.of r)⟩⟩
  simp_all
 cases es with
 |nil =>
  refine(xD F g.room (dv J) h1 h2 Y .nil qN (gN U).1).imp λσ H Q q=>?_
  obtain⟨B,E,O,W,vs,st,z,q⟩:=key σ H Q q;cases ms with
  |nil =>
   simp only[evA,u0]at z;subst z;exact q [] H (aj.refl H) .nil
  |cons m ms=>simp at hl
 |cons e es =>
  simp only[all_cons,pb]at hs;exact(lO F g.room (dv J) h1 h2 Y .nil qN ha (gN U).1 (aU hs.1 es _) (b7 hs.2)).imp key
end
section
variable{K:L8}{H:Hp}{O:List Addr}
def za(kvs)(i):iW (iu kvs) (Sum.inl i:Key)=(cT kvs i).map Sc.v:=by
 unfold iW iu cT;rw[find?_map,LC,LC];have e:((λz:Key×V=>decide (z.1=(Sum.inl i:Key)))∘λp:Int×Sc=>((Sum.inl p.1:Key),p.2.v))=λp:Int×Sc=>decide (p.1=i):=by
  funext p
  simp
 rw[e]
 rfl
def zb(kvs)(k):iW (jk kvs) (k.map Sum.inl)=(cT kvs k).map Sc.v:=by
 unfold iW jk cT;rw[find?_map,LC,LC];have e:((λz:List Key×V=>decide (z.1=k.map Sum.inl))∘λp:List Int×Sc=>((p.1.map Sum.inl:List Key),p.2.v))=λp:List Int×Sc=>decide (p.1=k):=by
  funext p
  exact L0.mpr ⟨lX,λe=>IW _ e⟩
 rw[e]
 rfl
def Bt(ns:List Int):(ns.map Sum.inl:List Key).map kV=ns.map V.int:=by
 rw[ID]
 rfl
def vm(e:bf xs=some ns)(r:bK K H O (.tup xs) u):∃b,u=.ref b/\H b=some (.tup ((ns.map Sum.inl:List Key).map kV)):=by
 have z:=dU e;subst z;obtain⟨b,us,rfl,h,t⟩:=r.tupH;have J:=t.ints;subst J;exact⟨b,rfl,by rw[Bt];exact h⟩
def p8(e:wA (.dI d) y=some o)(U:RdD H a d)(r:bK K H O y u):ml H a u (o.map Sc.v):=by
 cases d with
 |k kvs =>
  cases y<;>try (cases e;done)
  rename_i i;have z:=r.int;subst z;have J:=II e;rw[<- J,<- za];exact .inl ⟨_,Sum.inl i,U.rd,rfl,rfl⟩
 |p ns=>cases y<;>cases e
 |t kvs =>
  cases y<;>try (cases e;done)
  rename_i xs;have e:(bf xs).map _=some o:=e;rw[ti]at e;obtain⟨ns,z,J⟩:=e;obtain⟨b,rfl,Y⟩:=vm z r;rw[<- J,<- zb];exact .inr ⟨_,_,b,U.rd,rfl,Y,rfl⟩
def zc(kvs)(k)(s):fX (iu kvs) (Sum.inl k:Key) s.v=iu (cy kvs k s):=by
 have z:((iu kvs).any λJ=>decide (J.1=(Sum.inl k:Key)))=kvs.any λp=>decide (p.1=k):=by
  unfold iu;rw[List.any_map]
  congr 1
  funext p
  simp
 unfold fX cy;rw[z];split
 .unfold iu;rw[ID,ID];refine Jw λp _=>?_
  by_cases h:p.1=k<;>simp[h]
 .unfold iu;rw[JH]
  rfl
def zd(kvs)(k)(s):fX (jk kvs) (k.map Sum.inl:List Key) s.v=jk (cy kvs k s):=by
 have J:∀q,_ ↔ q=k:=λq=>⟨lX,λe=>by rw[e]⟩
 have U:((jk kvs).any λY=>decide (Y.1=(k.map Sum.inl:List Key)))=kvs.any λp=>decide (p.1=k):=by
  unfold jk;rw[List.any_map]
  congr 1
  funext p
  simp_all
 unfold fX cy;rw[U];split
 .unfold jk;rw[ID,ID];refine Jw λp _=>?_
  by_cases h:p.1=k
  .have h2:=(J p.1).mpr h;simp[h]
  .have h2:¬ _=k.map Sum.inl:=λz=>h ((J p.1).mp z)
   simp[h,h2]
 .unfold jk;rw[JH]
  rfl
def vn{y:PV}{s:Sc}{a:Addr}{u:V}(e:oj d y s=some d')(U:H a=some (iw d))(r:bK K H O y u):mn H a u s.v (upd H a (iw d')):=by
 cases d with
 |p ns=>cases y<;>cases e
 |k kvs =>
  cases y<;>try (cases e;done)
  rename_i i;have J:=r.int;subst J;have z:(if kvs.length<10000 then some (DD.k (cy kvs i s))else none)=some d':=e;split at z
  .rename_i Y;cases z;show mn H a (.int i) s.v (upd H a (.dK (iu (cy kvs i s))));rw[<- zc];exact mn.k (k:=Sum.inl i) U (by unfold iu;rw[tf,Jo];omega)
  .cases z
 |t kvs =>
  cases y<;>try (cases e;done)
  rename_i xs;have e:((bf xs).bind λk=>if kvs.length<10000 then some (DD.t (cy kvs k s))else none)=some d':=e;rw[gf]at e;obtain⟨ns,J,z⟩:=e;obtain⟨b,rfl,Z⟩:=vm J r;split at z
  .rename_i Y;cases z;show mn H a (.ref b) s.v (upd H a (.dT (jk (cy kvs ns s))));rw[<- zd];exact mn.t U Z (by unfold jk;rw[tf,Jo];omega)
  .cases z
end
section
variable{X:Cx}{pins:List (Addr×Obj)}{σ:St}{H:Hp}{s:Shared}
def vo(I:Inv X pins σ H s)(h:RdD H a d):(a==sysModules)=false/\∃es ep,Dv.Ents s.heap a es ep/\aI ((dSc d).map Sc.v) (es.toList.map (·.val)):=by
 cases d with
 |k kvs =>
  obtain⟨_,hs,vs,r,o,es,ep,ho,hx,hd,_,z,_⟩:=jA I.hok h.rd;refine⟨hs,es,ep,⟨o,ho,hx,hd⟩,?_⟩;have gen:∀kvs vs l,KV (iu kvs) vs->Pairs (ca X.prog X.w) l vs->aI ((kvs.map (·.2)).map Sc.v) (l.map (·.val)):=by
   intro kvs
   induction kvs with
   |nil =>
    intro vs l r p;cases r;cases p;exact .nil
   |cons q kvs ih =>
    intro vs l r p;cases r with
    |cons J U =>
     cases p with
     |cons p1 p2 p3=>exact .cons (by have h:=J.2;rw[<- p2]at h;exact h) (ih _ _ U p3)
  exact gen kvs vs es.toList r z
 |p ns=>exact absurd h.2 pd
 |t kvs =>
  obtain⟨_,hs,xs,r,o,es,ep,ho,hx,hd,z,_⟩:=k8 I.hok h.rd;refine⟨hs,es,ep,⟨o,ho,hx,hd⟩,?_⟩;rw[z,ID];have gen:∀kvs xs,KT H (jk kvs) xs->aI ((kvs.map (·.2)).map Sc.v) (xs.map (·.2.2)):=by
   intro kvs
   induction kvs with
   |nil =>
    intro xs r;cases r;exact .nil
   |cons q kvs ih =>
    intro xs r;cases r with
    |cons J U=>exact .cons J.2.2 (ih _ U)
  exact gen kvs xs r
noncomputable def GJ(p a:Addr):HO:=.ext λh=>h.IsValuesView p a
def tU{es:Array DictEntry}(h:ItemsOf (λi v=>∃e,es[i]?=some e/\v=e.val) acc es.size):acc.toList=es.toList.map (·.val):=by
 refine LV λi=>?_
 rw[IS,Jg,Jg];cases e:acc[i]? with
 |none =>
  have:acc.size<=i:=by simpa using e
  rw[Kr (by rw[<- h.1];exact this)]
  rfl
 |some v =>
  obtain⟨q,z,rfl⟩:=h.2 i v e;rw[z]
  rfl
end
section
variable{X:Cx}{T:Tab}{k:Nat}{cal:Cal}
def Bu (J:attributeBase o "values" X.env (eval o X.env)=eval o X.env) (U:(ap.endLine==cp.line)=true) (ho:PE X o td) :
  PE X (.Call (.Attribute o "values" ap) [] [] cp) (λσ H Q=>td σ H λx H1=>∃a d,x=.ref a/\RdD H1 a d/\∀p,H1 p=none->Q (.ref p) (upd H1 p (GJ p a))):=by
 intro pins s σ H Q I h;refine wpAny_Call_method J rfl U PySem.F.plainAttrs_dict PySem.F.slot_dict_values PySem.F.type_dict_values (thn (ho pins s σ H _ I h) λu Y ⟨x,H1,z,Z,a,d,ex,hd,q1⟩=>?_);subst ex;obtain rfl:u=Value.ref a:=Z;obtain⟨t1,t2,_⟩:=sP z (pZ hd);refine⟨t1,t2,?_⟩;refine Kq rfl (PyProof.Rows.evalArgs_empty ?_);obtain⟨hs,es,ep,x,_⟩:=vo z hd;refine Dv.values_of hs x ⟨.ref Y.heap.objs.size,_,z.laid (λb o e=>mu _ e) (pe _) ?_,rfl,q1 _ (z.hok.fresh (pe _))⟩;exact⟨⟨_,wh _ rfl,rfl,rfl⟩,⟨_,wh _ rfl⟩,λh1 h2 ⟨o,ho,r⟩ k=>⟨o,k o ho,r⟩⟩
def tV (hc:X.calm=true):b_ X (.type "list") (λus H Q=>∃p a d,us=[.ref p]/\H p=some (GJ p a)/\RdD H a d/\(dSc d).length<=10000/\∀l,H l=none->Q (.ref l) (upd H l (.lst ((dSc d).map Sc.v)))):=by
 intro pins s σ H xs us Q I r h;refine ax λZq U=>?_
 obtain⟨p,a,d,rfl,Y,Z,hl,q⟩:=h;obtain⟨u,rfl,ru⟩:=eC r;cases ru;obtain⟨_,es,ep,x,vs⟩:=vo I Z;have hv:=(show bQ X.prog X.w H s.heap p _ from I.hok p _ Y).1;have z:es.size=(dSc d).length:=by have:=vs.length;simp at this;omega
 refine U ?_;refine PySem.W.kdl_call (Dv.src) (I.ok.hd hc) ⟨hv,x⟩ (by rw[z,Jo];omega) λh' tk J c kp e it=>?_
 refine⟨.ref s.heap.objs.size,_,I.laid kp (pe _) (o:=.lst _) ⟨by rw[tf,Jo];omega,J.toList,c,?_,by rw[Array.toArray_toList];exact e⟩,rfl,q _ (I.hok.fresh (pe _))⟩;rw[tU it];exact vs
end
def p9:bootBuiltins "len"=some (.builtin "len"):=by decide +kernel
def m7:bootBuiltins "tuple"=some (.type "tuple"):=by decide +kernel
def p_:bootBuiltins "list"=some (.type "list"):=by decide +kernel
def o7:bootBuiltins "sorted"=some (.builtin "sorted"):=by decide +kernel
def Eb:bootBuiltins "any"=some (.builtin "any"):=by decide +kernel
def Ec:bootBuiltins "all"=some (.builtin "all"):=by decide +kernel
def Ed:bootBuiltins "max"=some (.builtin "max"):=by decide +kernel
def ze:bootBuiltins "int"=some (.type "int"):=by decide +kernel
def Bv:bootBuiltins "bool"=some (.type "bool"):=by decide +kernel
def qa:bootBuiltins "set"=some (.type "set"):=by decide +kernel
def ol:bootBuiltins "isinstance"=some (.builtin "isinstance"):=by decide +kernel
section
variable{X:Cx}{T:Tab}{k:Nat}{cal:Cal}
def Ee {p p2 pos:Pos} (g:Gf X T k cal) (U:du f=some c) (hg:glB X.env.scope "isinstance"=true) (ht:t=(c:Str)) (Y:glB X.env.scope t=true)
  (Z:bootBuiltins c=some (.type c)) (ao:X.mg c=none) (hn:(c:Str) ≠ "__name__") (hd:((c:Str)==("__debug__":Str))=false) (h:PE X e (tE X.K cal m)) (hs:ah e=true):PE X (.Call (.Name "isinstance" p) [e,.Name t p2] [] pos) (tE X.K cal (.blt f [m])):=by
 subst ht;refine(eR (D3 U) (dv hg) (g.blt "isinstance" (by decide)) ol (aM h (aM (Ar (v:=.ty c) (dv Y) ao Z rfl hn hd) bJ rfl) (aU hs _ _)) (by decide) (by decide) (aU hs _ _) rfl).imp λσ H Q q=>?_
 obtain⟨B,E,O,W,v,st,z,q⟩:=q;rw[ev,gf]at z;obtain⟨vs,z,J⟩:=z;obtain⟨w,rfl,e3⟩:=rK z;have e5:isD w=false/\v=.bl (isT f w):=by
  cases hd:isD w with
  |true=>cases f<;>simp[du,reduceCtorEq]at U<;>(simp only[aG,cz,ie,iX,hd]at J;cases J)
  |false=>cases f<;>simp[du,reduceCtorEq]at U<;>(simp[aG,cz,ie,iX,hd,IK,Jz,u0]at J;exact⟨rfl,J.symm⟩)
 obtain⟨e5,rfl⟩:=e5;refine⟨B,E,O,W,w,st,e3,λu H1 s1 g1=>⟨O,w,u,rfl,e5,g1.1,q _ H1 s1 (.of (d8 _ _))⟩⟩
def rM {p p2 pos pos2:Pos} (g:Gf X T k cal) (hx:x=("sorted":Str)) (hy:y=("set":Str)) (hg:glB X.env.scope x=true) (U:glB X.env.scope y=true) (h:PE X e (tE X.K cal m)) (hs:ah e=true):PE X (.Call (.Name x p) [.Call (.Name y p2) [e] [] pos2] [] pos) (tF X.K cal (.blt .sortedSet [m])):=by
 subst hx hy;refine(eR (rH g.calm) (dv hg) (g.blt "sorted" (by decide)) o7 (aM (dc (vi g.calm) (dv U) (g.blt "set" (by decide)) qa (aM h bJ (aU hs _ _)) (by decide) (by decide) (aU hs _ _) rfl) bJ rfl) (by decide) (by decide) rfl rfl).imp λσ H Q q=>?_
 refine ax λZq kq=>?_
 obtain⟨B,E,O,W,xs,st,J,q⟩:=q;rw[ev,gf]at J;obtain⟨vs,J,Z⟩:=J;obtain⟨w,rfl,e3⟩:=rK J;simp only[aG,cz,mO,ie,iX,gf]at Z;obtain⟨ys,e4,ns,e5,Y⟩:=Z;refine kq ?_;split at Y
 .rename_i hc;cases Y;refine⟨B,E,O,W,w,st,e3,λu H1 s1 g1=>⟨O,w,u,ns,rfl,g1.1,by simp[e4,e5],hc.1,λl hl=>⟨l,_,rfl,aC,?_,λp' z=>?_⟩⟩⟩
  .rw[tQ];exact hc.2
  .rw[Bn];refine q p' _ _ ((s1.trans (aE hl _)).trans (aE z _)) (s1.free ((aE hl _).free z)) aC (.of_ints _)
 .cases Y
def zf {p p2 pos pos2:Pos} (g:Gf X T k cal) (hx:x=("len":Str)) (Z:y=("set":Str)) (hg:glB X.env.scope x=true) (J:glB X.env.scope y=true) (h:PE X e (tE X.K cal m)) (hs:ah e=true):PE X (.Call (.Name x p) [.Call (.Name y p2) [e] [] pos2] [] pos) (tE X.K cal (.blt .lenSet [m])):=by
 subst hx Z;refine(eR pU (dv hg) (g.blt "len" (by decide)) p9 (aM (dc (vi g.calm) (dv J) (g.blt "set" (by decide)) qa (aM h bJ (aU hs _ _)) (by decide) (by decide) (aU hs _ _) rfl) bJ rfl) (by decide) (by decide) rfl rfl).imp λσ H Q q=>?_
 refine ax λZq kq=>?_
 obtain⟨B,E,O,W,v,st,z,q⟩:=q;rw[ev,gf]at z;obtain⟨vs,z,Y⟩:=z;obtain⟨w,rfl,e3⟩:=rK z;simp only[aG,cz,mO,ie,iX,gf]at Y;obtain⟨ys,e4,ns,e5,U⟩:=Y;refine kq ?_;split at U
 .rename_i hc;cases U;refine⟨B,E,O,W,w,st,e3,λu H1 s1 g1=>⟨O,w,u,ns,rfl,g1.1,by simp[e4,e5],hc,λl hl=>⟨l,_,rfl,aC,?_⟩⟩⟩;rw[tQ];exact q _ _ (s1.trans (aE hl _)) (.of (cb _ _))
 .cases U
def rN {p p2 p3 q2 q3 q4 pos:Pos} (g:Gf X T k cal) (hx:x=("len":Str)) (hy:y=("set":Str)) (hz:z=("set":Str)) (hg:glB X.env.scope x=true) (ao:glB X.env.scope y=true) (ar:glB X.env.scope z=true) (ha:PE X a (tE X.K cal m1)) (hb:PE X b (tE X.K cal m2)) (J:ah a=true) (U:ah b=true) :
  PE X (.Call (.Name x p) [.BinOp (.Call (.Name y p2) [a] [] q2) .Sub (.Call (.Name z p3) [b] [] q3) q4] [] pos) (tE X.K cal (.blt .lenSetSub [m1,m2])):=by
 subst hx hy hz;refine(eR rb (dv hg) (g.blt "len" (by decide)) p9 (aM (uH wz (dc (vi g.calm) (dv ao) (g.blt "set" (by decide)) qa (aM ha bJ (aU J _ _)) (by decide) (by decide) (aU J _ _) rfl) (dc (vi g.calm) (dv ar) (g.blt "set" (by decide)) qa (aM hb bJ (aU U _ _)) (by decide) (by decide) (aU U _ _) rfl)) bJ rfl) (by decide) (by decide) rfl rfl).imp λσ H Q q=>?_
 refine ax λZq kq=>?_
 obtain⟨B,E,O,W,v,st,Y,q⟩:=q;rw[ev,gf]at Y;obtain⟨vs,Y,e2⟩:=Y;simp only[evs,gf,ti]at Y;obtain⟨v1,e3,w1,⟨v2,e4,w2,e5,rfl⟩,rfl⟩:=Y;cases e5;simp only[aG,cz,mO,ie,iX,gf]at e2;obtain⟨xs,f1,ns,f2,ys,f3,ms,f4,f5⟩:=e2;refine kq ?_;split at f5
 .rename_i hc;cases f5;refine⟨B,E,O,W,v1,st,e3,λu H1 s1 g1=>⟨O,v1,u,ns,rfl,g1.1,by simp[f1,f2],hc.1,λl hl=>?_⟩⟩;refine⟨B,E,O,W,v2,st.mono (s1.trans (aE hl _)),e4,λu2 H2 s2 g2=>⟨O,v2,u2,ms,rfl,g2.1,by simp[f3,f4],hc.2.1,λl2 Z=>?_⟩⟩;refine⟨l,l2,_,_,rfl,rfl,(aE Z _) l _ (s2 l _ aC),aC,by rw[tQ];exact hc.2.2,λp' a0=>⟨p',_,rfl,aC,?_⟩⟩;have e6:((St.dd ns.reverse).filter λk=>!decide (k∈St.dd ms.reverse)).length=((dd ns).filter λn=>!decide (n∈ms)).length:=by
   rw[oZ];have e7:(λk=>!decide (k∈St.dd ms.reverse))=λn=>!decide (n∈ms):=by
    funext k
    congr 1
    rw[L0,St.fM,L5]
   rw[e7];refine Perm.length_eq (Perm.filter _ ((J2 (St.dd_nodup _) (St.dd_nodup _)).mpr λa=>?_));rw[St.fM,St.fM,L5]
  rw[e6];exact q _ _ ((s1.trans (aE hl _)).trans (s2.trans ((aE Z _).trans (aE a0 _)))) (.of (cb _ _))
 .cases f5
theorem rO :∀{kvs}{ks}{vs},rA kvs ks vs=true->PPs X kpos ks vs (kvs.map λp=>(tC (.str p.1),tC (.str p.2)))/\ks.all (·.isSome)=true/\ks.length=vs.length/\ks.length=kvs.length
 | [],[],[],_=>⟨AO,rfl,rfl,rfl⟩
 |p::r,k::ks,v::vs,h=>by
  obtain⟨a,z⟩:=oe.mp h;obtain⟨h1,h2⟩:=oe.mp a;obtain⟨J,U,Y,Z⟩:=rO (kpos:=kpos) z;cases k with
  |none=>cases h1
  |some k =>
   obtain⟨j,kp,rfl⟩:=va (eq_of_beq h1);obtain⟨j2,vp,rfl⟩:=va (eq_of_beq h2);exact⟨xS sD sD J,by rw[all_cons,U];rfl,by rw[length_cons,length_cons,Y],by rw[length_cons,length_cons,Z]⟩
 | [],_::_,_,h=>by cases h
 | [],[],_::_,h=>by cases h
 | _::_,[],_,h=>by cases h
 | _::_,_::_,[],h=>by cases h
theorem m8{σ:St}:∀{kvs:List (Str×Str)}{H}{Q},Q (kvs.map λp=>(V.str p.1,V.str p.2)) H->pM (kvs.map λp=>(tC (.str p.1),tC (.str p.2))) σ H Q
 | [],_,_,h=>h
 |p::r,H,Q,h=>m8 (kvs:=r) (Q:=λps z=>Q ((V.str p.1,V.str p.2)::ps) z) h
def Ef(g:Gf X T k cal)(hd:rA kvs ks vs=true)(hl:kvs.length<=15)(h0:kvs.isEmpty=false)(hk:PE X i (tE X.K cal m))(hs:bv i=true):PE X (.Subscript (.Dict ks vs dp) i pos) (tE X.K cal (.disp kvs m)):=by
 have hu:X.A.units+1<cLine:=by have:=g.units;omega
 obtain⟨q1,q2,q3,q4⟩:=rO (X:=X) (kpos:=dp) hd;have hn:ks≠[]:=λz=>by
  grind
 refine(uO hu (AQ q1 q2 q3 hn (by omega)) hk (by cases i<;>first|(intro _ _;rfl)|(simp[bv]at hs))).imp λσ H Q q=>?_
 obtain⟨B,E,O,W,v,st,J,q⟩:=q;rw[ev,gf]at J;obtain⟨w,J,Y⟩:=J;cases w with
 |str x =>
  have U:(iW (im [] (oW kvs)) (Sum.inr x)).bind (λv=>match v with|.str y=>some (PV.str y)|_=>none)=some v:=Y;rw[gf]at U;obtain⟨u,U,Z⟩:=U;cases u with
  |str y =>
   cases Z;intro p hp;refine m8 ⟨aC,oW kvs,by unfold oW;rw[ID];rfl,by unfold oW;rw[tf];exact hl,?_⟩;have s1:aj H (upd (upd H p (.dK [])) p (.dK (im [] (oW kvs)))):=λb o e=>by
    have hb:b≠p:=λz=>by rw[z,hp]at e;cases e
    rw[aZ hb,aZ hb];exact e
   refine⟨B,E,O,W,_,st.mono s1,J,λuy H2 s2 g2=>?_⟩;have ey:=g2.1.str;subst ey;exact⟨p,V.str y,rfl,.inl ⟨_,Sum.inr x,.inl (s2 _ _ aC),rfl,U.symm⟩,q _ H2 (s1.trans s2) (.of (lZ _ _))⟩
  | _=>cases Z
 | _=>cases Y
def Eg (g:Gf X T k cal) (hg:glB X.env.scope ("len":Str)=true) (hn:aS X.N X.env.scope i y=true):PE X (.Call (.Name ("len":Str) p) [.Name y yp] [] pos) (tE X.K cal (.lenP i)):=by
 refine(eR gI (dv hg) (g.blt "len" (by decide)) p9 (aM (bY hn) bJ rfl) (by decide) (by decide) rfl rfl).imp λσ H Q q=>?_
 refine ax λZq kq=>?_
 obtain⟨B,E,O,W,v,st,z,q⟩:=q;rw[ev]at z;have fin:∀ns a,H a=some (iw (.p ns))->v=.int ns.length->σ[i]?=some (some (.ref a))->∃u,σ[i]?=some (some u)/\∃a J,[u]=[V.ref a]/\(SqL X.K H a J\/SqT X.K H a J)/\Q (.int J.length) H:=λns a U hv Y=>by
  refine⟨_,Y,a,ns.map V.int,rfl,.inl (SqL.of U),?_⟩;rw[tf];subst hv;exact q _ H (aj.refl H) (.of (cb _ _))
 refine kq ?_;cases Z:(W[i]?).join with
 |none=>rw[Z]at z;cases z
 |some m =>
  rw[Z]at z;obtain⟨u,Y,so⟩:=aT st Z;cases m with
  |ownD d|mutD d =>
   cases d with
   |p ns =>
    cases z;obtain⟨a,rfl,U,_⟩:=so;exact fin ns a U rfl Y
   | _=>cases z
  | _=>cases z
def rP{cond elt:ME}:∀W v,ev cal (.comp z src js cond elt) W=some v->∃xs,v=.lst xs:=λW v hv=>by
 rw[ev,gf]at hv;obtain⟨vs,_,hv⟩:=hv;rw[gf]at hv;obtain⟨xs,_,hv⟩:=hv;split at hv
 .simp at hv;obtain⟨ys,_,rfl⟩:=hv;exact⟨_,rfl⟩
 .cases hv
def eI(z:f=.listOf\/f=.sorted\/f=.sortedSet\/f=.sortedKeys\/f=.valuesOf) :∀W v,ev cal (.blt f ms) W=some v->∃xs,v=.lst xs:=λW v hv=>by
 rw[ev,gf]at hv;obtain⟨vs,_,hv⟩:=hv;rcases z with rfl|rfl|rfl|rfl|rfl
 .obtain⟨x,rfl⟩:=dw hv (.inl rfl);simp only[aG,cz,mO,ie,iX,ti]at hv;obtain⟨ys,_,rfl⟩:=hv;exact⟨_,rfl⟩
 .obtain⟨x,rfl⟩:=dw hv (.inl rfl);simp only[aG,cz,mO,ie,iX,gf]at hv;obtain⟨ys,_,hv⟩:=hv;unfold ir at hv;split at hv
  .split at hv
   .cases hv;exact⟨_,rfl⟩
   .simp only[ti]at hv;obtain⟨J,_,rfl⟩:=hv;exact⟨_,rfl⟩
  .cases hv
 .obtain⟨x,rfl⟩:=dw hv (.inr (.inr (.inl rfl)));simp only[aG,cz,mO,ie,iX,gf]at hv;obtain⟨ys,_,ns,_,hv⟩:=hv;split at hv
  .cases hv;exact⟨_,rfl⟩
  .cases hv
 .obtain⟨x,rfl⟩:=dw hv (.inl rfl);simp only[aG,cz]at hv;split at hv
  .split at hv
   .cases hv;exact⟨_,rfl⟩
   .cases hv
  .cases hv
 .obtain⟨x,rfl⟩:=dw hv (.inr (.inr (.inr (.inr rfl))));simp only[aG,cz]at hv;split at hv
  .grind
  .cases hv
def qb{cond:ME}(h:rq f cond ifs=true)(hc:∀c,f c=true->PT X c (tT X.K cal cond)):PF X ifs (tT X.K cal cond):=by
 match ifs,h with
 | [],h =>
  have e:cond=.cst (.bl true):=by
   simp[rq]at h;split at h
   .rfl
   .cases h
  subst e;intro pins s σ H Q I q;refine ax λU J=>?_
  obtain⟨B,E,O,W,b,st,z,q⟩:=q;simp only[evB,ev,bind_some,bc,u0]at z;subst z;refine J ?_;exact Di pins s σ H Q I (q H (aj.refl H))
 | [c],h=>exact Dj (hc c h)
def kL(ao:tup=true->∃ts j tp,tg=.Tuple ts j tp)(g:Gf X T k cal)(h:mR X.env.scope tup (λxs=>chks T src X.N X.env.scope xs) k' it=true)(hs:∀xs,chks T src X.N X.env.scope xs=true->PA X xs (tEs X.K cal src)/\xs.all ah=true/\src.length=xs.length)
  (h1:∀m x,src=[m]->chks T src X.N X.env.scope [x]=true->PE X x (tE X.K cal m)):PI X tg it (tW X.K cal k' src)/\eW it=true:=by
 cases k' with
 |seq =>
  replace h:=oe.mp h
  obtain⟨z,h⟩:=h;refine⟨?_,z⟩;obtain⟨_,_,J⟩:=hs _ h;obtain⟨m,rfl⟩:=Kx.mp J;cases U:aK m with
  |false=>exact Gw U (h1 m it rfl h)
  |true =>
   have q1:=(cf h).1.1;obtain⟨i,rfl⟩:=mS U;obtain⟨x,p,rfl,q⟩:=jJ q1;exact Gx q
 |rng =>
  replace h:=am h
  obtain⟨c,e1,h⟩:=h;obtain⟨p,pos,rfl⟩:=fC e1;simp only[pb,IE,L3]at h;obtain⟨⟨⟨hx,Z⟩,Y⟩,z⟩:=h;obtain⟨q,a0,J⟩:=hs _ Y;exact⟨Bp g hx Z q z a0 J,rfl⟩
 |enm =>
  replace h:=am h
  obtain⟨⟨x,a⟩,e1,h⟩:=h;obtain⟨p,pos,rfl⟩:=gK e1;simp only[pb,IE]at h;obtain⟨⟨⟨⟨ht,hx⟩,Z⟩,Y⟩,z⟩:=h;obtain⟨ts,j,tp,rfl⟩:=ao ht;obtain⟨_,_,J⟩:=hs _ Y;refine⟨?_,rfl⟩;obtain⟨m,rfl⟩:=Kx.mp J;cases U:aK m with
  |false=>exact Gy g hx Z z U (h1 m a rfl Y)
  |true =>
   have q1:=(cf Y).1.1;obtain⟨i,rfl⟩:=mS U;obtain⟨y,p,rfl,q⟩:=jJ q1;exact D6 g hx Z q
 |rev=>cases h
def tY(K)(F)(s:Sc):Rep K F s.pv s.v:=by cases s<;>simp[Sc.pv,Sc.v,Rep]
def tZ{K:L8}(e:sc? x=some s)(r:bK K H O x u):u=s.v:=by
 cases x<;>simp[sc?,u0,reduceCtorEq]at e<;>subst e
 .exact r.non
 .exact r.bl
 .exact r.int
 .exact r.str
def base_of(z:oX o=true):attributeBase o n X.env (eval o X.env)=eval o X.env:=by
 cases o<;>first|rfl|(simp at z;done)|skip
 rename_i fn args kws pos;cases args with
 |nil=>simp[oX]at z
 |cons _ _=>cases fn<;>rfl
theorem vq(K)(F):∀ss:List Sc,Reps K F (ss.map Sc.pv) (ss.map Sc.v)
 | []=>rfl
 |s::ss=>⟨_,_,rfl,tY K F s,vq K F ss⟩
def zg (g:Gf X T k cal) (hx:x=("list":Str)) (hg:glB X.env.scope x=true) (h:PE X o (tE X.K cal m)) (hb:attributeBase o "values" X.env (eval o X.env)=eval o X.env) (J:(ap.endLine==cp.line)=true) :
  PE X (.Call (.Name x p) [.Call (.Attribute o "values" ap) [] [] cp] [] pos) (tF X.K cal (.blt .valuesOf [m])):=by
 subst hx;refine(dc (tV g.calm) (dv hg) (g.blt "list" (by decide)) p_ (aM (Bu hb J h) bJ rfl) (by decide) (by decide) rfl rfl).imp λσ H Q q=>?_
 refine ax λZq kq=>?_
 obtain⟨B,E,O,W,xs,st,Y,q⟩:=q;rw[ev,gf]at Y;obtain⟨vs,Y,U⟩:=Y;obtain⟨w,rfl,e3⟩:=rK Y;have hd:∃d,w=.dI d/\(i7 d).length<=10000/\xs=i7 d:=by
  simp[aG,cz]at U;split at U
  .split at U
   .rename_i d J
    simp_all
   .cases U
  .cases U
 obtain⟨d,rfl,hz,rfl⟩:=hd;have Z:(dSc d).length<=10000:=by unfold i7 at hz;rw[tf]at hz;exact hz
 refine kq ?_;refine⟨B,E,O,W,_,st,e3,λu H1 s1 g1=>?_⟩;obtain⟨a,rfl,ha⟩:=g1.1.dI;refine⟨a,d,rfl,ha,λp' z=>⟨p',a,d,rfl,aC,aj.rdD (aE z _) ha,Z,λl J=>?_⟩⟩;refine q l _ _ ((s1.trans (aE z _)).trans (aE J _)) (s1.free ((aE z _).free J)) aC ?_;exact vq _ _ _
def Bw{α:Type}:∀{es:List α},es.length=2->∃m z,es=[m,z]
 | [_,_],_=>⟨_,_,rfl⟩
def Eh {sc:Scope}{f:List Expr->Bool}{n:Nat}{args:List Expr} (J:lT sc f n .lenSetSub args=true):∃U y z Y p2 Z p3 q3 q4,args=[.BinOp (.Call (.Name U p2) [y] [] Z) .Sub (.Call (.Name z p3) [Y] [] q3) q4]/\U="set"/\glB sc U=true/\z="set"/\glB sc z=true/\f [y,Y]=true/\n=2:=by
 refine ax λZq kq=>?_
 obtain⟨a,e1,J⟩:=am J;obtain⟨⟨l,o,r,q4⟩,e2,J⟩:=am J;obtain⟨⟨U,y⟩,e3,J⟩:=am J;obtain⟨⟨z,Y⟩,e4,J⟩:=am J;simp only[pb,IE]at J;obtain⟨⟨⟨⟨⟨⟨a0,a1⟩,a2⟩,a3⟩,a4⟩,a5⟩,a6⟩:=J;obtain⟨p2,Z,e3⟩:=gK e3;obtain⟨p3,q3,e4⟩:=gK e4;refine kq ?_;exact⟨U,y,z,Y,p2,Z,p3,q3,q4,by rw[cO e1,pW e2,e3,e4,a0],a1,a2,a3,a4,a5,a6⟩
def Bx {sc:Scope}{f:List Expr->Bool}{n:Nat}{args:List Expr} (z:lT sc f n .valuesOf args=true):∃y ap cp,args=[.Call (.Attribute y "values" ap) [] [] cp]/\oX y=true/\ap.endLine=cp.line/\f [y]=true/\n=1:=by
 refine ax λZq J=>?_
 obtain⟨a,U,z⟩:=am z;obtain⟨⟨y,mm,ap,as,cp⟩,Y,z⟩:=am z;simp only[pb,IE,Kc]at z;obtain⟨⟨⟨⟨⟨Z,a1⟩,h3⟩,h4⟩,h5⟩,h6⟩:=z;refine J ?_;exact⟨y,ap,cp,by rw[cO U,tH Y,Z,a1],h3,h4,h5,h6⟩
def rQ{b:Blt}{es:List ME}{x:Str}{args:List Expr}{p pos:Pos}(g:Gf X T k cal)(hx:x=(rm b:Str))(Y:glB X.env.scope x=true)(J:lT X.env.scope (λxs=>chks T es X.N X.env.scope xs) es.length b args=true)
  (hs:∀xs,chks T es X.N X.env.scope xs=true->PA X xs (tEs X.K cal es)/\xs.all ah=true/\es.length=xs.length)
  (h1:∀m x,es=[m]->chks T es X.N X.env.scope [x]=true->PE X x (tE X.K cal m))
  (cd:∀m m' x x',es=[m,m']->chks T es X.N X.env.scope [x,x']=true->PE X x (tE X.K cal m)/\PE X x' (tE X.K cal m')) :
  (iy (.blt b es)=true->PE X (.Call (.Name x p) args [] pos) (tF X.K cal (.blt b es)))/\PE X (.Call (.Name x p) args [] pos) (tE X.K cal (.blt b es)):=by
 subst hx;have inst:∀{b:Blt}{args:List Expr} (c:String),glB X.env.scope (rm b)=true->du b=some c->rm b="isinstance"->bootBuiltins c=some (.type c)->X.mg c=none->(c:Str) ≠ "__name__"->((c:Str)==("__debug__":Str))=false->rn X.env.scope (λxs=>chks T es X.N X.env.scope xs) es.length c args=true ->
   PE X (.Call (.Name (rm b) p) args [] pos) (tE X.K cal (.blt b es)):=λ{b args} c Y hc hb ck hm hn hd J=>by
  replace J:=am J
  obtain⟨⟨y,t0⟩,e1,J⟩:=J
  replace J:=am J
  obtain⟨⟨t,p2⟩,e2,J⟩:=J;obtain rfl:=lS e1;obtain rfl:=d7 (e:=t0) e2;simp only[pb,IE]at J;obtain⟨⟨⟨h2,h3⟩,h4⟩,h5⟩:=J;obtain⟨m,rfl⟩:=Kx.mp h5;rw[hb]at Y ⊢;exact Ee g hc Y h2 h3 ck hm hn hd (h1 m y rfl h4) (cf h4).1.2
 have c1:∀{nm:Str},tK X.env.scope (λxs=>chks T es X.N X.env.scope xs) es.length nm args=true->∃m y gg p2 pos2,es=[m]/\args=[.Call (.Name gg p2) [y] [] pos2]/\gg=nm/\glB X.env.scope gg=true/\PE X y (tE X.K cal m)/\ah y=true:=λ{nm} J=>by
  refine ax λZq kq=>?_
  replace J:=am J
  obtain⟨a,e1,J⟩:=J
  replace J:=am J
  obtain⟨⟨gg,y⟩,e2,J⟩:=J;obtain⟨p2,pos2,rfl⟩:=gK e2;simp only[pb,IE]at J;obtain⟨⟨⟨h2,h3⟩,h4⟩,h5⟩:=J;obtain⟨m,rfl⟩:=Kx.mp h5;refine kq ?_;exact⟨m,y,gg,p2,pos2,rfl,cO e1,h2,h3,h1 m y rfl h4,(cf h4).1.2⟩
 have plain:∀{args:List Expr} (n:Nat),0<n->(some n==some es.length&&chks T es X.N X.env.scope args)=true->∃e r,args=e::r/\PA X (e::r) (tEs X.K cal es)/\(e::r).all ah=true:=λ{args} n c0 J=>by
  simp only[pb,IE,u0]at J;obtain⟨Z,U,q3⟩:=hs _ J.2;cases args with
  |nil=>rw[<- J.1]at q3;simp at q3;omega
  |cons e r=>exact⟨e,r,rfl,Z,U⟩
 cases b with
 |len =>
  obtain⟨e,r,er,Z,U⟩:=plain 1 (by decide) J;rw[er];exact⟨λz=>(by cases z),rL Gq Y (g.blt "len" (by decide)) p9 (by decide) (by decide) Z U⟩
 |tupleOf =>
  obtain⟨e,r,er,Z,U⟩:=plain 1 (by decide) J;rw[er];exact⟨λz=>(by cases z),y_ vh Y (g.blt "tuple" (by decide)) m7 (by decide) (by decide) Z U⟩
 |listOf =>
  obtain⟨e,r,er,Z,U⟩:=plain 1 (by decide) J;rw[er];have q:=Bs (p:=p) (pos:=pos) D1 Y (g.blt "list" (by decide)) p_ (by decide) (by decide) Z U;exact⟨λ_=>q,eP (eI (.inl rfl)) q⟩
 |sorted =>
  obtain⟨e,r,er,Z,U⟩:=plain 1 (by decide) J;rw[er];have q:=D_ (p:=p) (pos:=pos) (yT g) Y (g.blt "sorted" (by decide)) o7 (by decide) (by decide) Z U;exact⟨λ_=>q,eP (eI (.inr (.inl rfl))) q⟩
 |any =>
  obtain⟨e,r,er,Z,U⟩:=plain 1 (by decide) J;rw[er];exact⟨λz=>(by cases z),rL (Gs g.calm) Y (g.blt "any" (by decide)) Eb (by decide) (by decide) Z U⟩
 |all =>
  obtain⟨e,r,er,Z,U⟩:=plain 1 (by decide) J;rw[er];exact⟨λz=>(by cases z),rL (Gu g.calm) Y (g.blt "all" (by decide)) Ec (by decide) (by decide) Z U⟩
 |intOf =>
  obtain⟨e,r,er,Z,U⟩:=plain 1 (by decide) J;rw[er];exact⟨λz=>(by cases z),y_ Gr Y (g.blt "int" (by decide)) ze (by decide) (by decide) Z U⟩
 |boolOf=>exact absurd J pd
 |max2=>exact absurd J pd
 |min2=>exact absurd J pd
 |isInt=>exact⟨λz=>(by cases z),inst "int" Y rfl rfl ze (g.blt "int" (by decide)) (by decide) (by decide) J⟩
 |isBool=>exact⟨λz=>(by cases z),inst "bool" Y rfl rfl Bv (g.blt "bool" (by decide)) (by decide) (by decide) J⟩
 |isStr=>exact absurd J pd
 |isList=>exact absurd J pd
 |isTuple=>exact⟨λz=>(by cases z),inst "tuple" Y rfl rfl m7 (g.blt "tuple" (by decide)) (by decide) (by decide) J⟩
 |sortedSet =>
  obtain⟨m,y,gg,p2,pos2,ee,ea,h2,h3,hp,a9⟩:=c1 J;rw[ee,ea];have q:=rM (p:=p) (p2:=p2) (pos:=pos) (pos2:=pos2) g rfl h2 Y h3 hp a9;exact⟨λ_=>q,eP (eI (.inr (.inr (.inl rfl)))) q⟩
 |sum =>
  obtain⟨e,r,er,Z,U⟩:=plain 1 (by decide) J;rw[er];exact⟨λz=>(by cases z),rL (Gv g.calm) Y (g.blt "sum" (by decide)) PyProof.Rows.boot_sum (by decide) (by decide) Z U⟩
 |max1 =>
  obtain⟨e,r,er,Z,U⟩:=plain 1 (by decide) J;rw[er];exact⟨λz=>(by cases z),rL (D4 g.calm) Y (g.blt "max" (by decide)) Ed (by decide) (by decide) Z U⟩
 |sortedKeys=>exact absurd J pd
 |valuesOf =>
  refine ax λZq kq=>?_
  obtain⟨y,ap,cp,ea,h3,h4,h5,h6⟩:=Bx J;obtain⟨m,ee⟩:=Kx.mp h6;have hy:=h1 m y ee h5;refine kq ?_;rw[ee,ea];have q:=zg (p:=p) (ap:=ap) (cp:=cp) (pos:=pos) g rfl Y hy (base_of h3) (by rw[h4];simp);exact⟨λ_=>q,eP (eI (.inr (.inr (.inr (.inr rfl))))) q⟩
 |min1=>cases J
 |tupleRev=>cases J
 |lenSet =>
  obtain⟨m,y,gg,p2,pos2,ee,ea,h2,h3,hp,a9⟩:=c1 J;rw[ee,ea];exact⟨λz=>(by cases z),zf g rfl h2 Y h3 hp a9⟩
 |lenSetSub =>
  refine ax λZq kq=>?_
  obtain⟨gg,y,dm,y',p2,U,p3,q3,q4,ea,a1,a2,a3,a4,a5,a6⟩:=Eh J;obtain⟨m,m',ee⟩:=Bw a6;obtain⟨b1,b2⟩:=cd m m' y y' ee a5;refine kq ?_;rw[ee]at a5 ⊢;rw[ea];exact⟨λz=>(by cases z),rN g rfl a1 a3 Y a2 a4 b1 b2 (cf a5).1.2 (cf (cf a5).2).1.2⟩
def GK(g:Gf X T k cal)(hk:PE X l (tE X.K cal mk))(Y:PE X r (tE X.K cal J))(hm:behindInMarks (if neg=true then CmpOp.NotIn else CmpOp.In) r=false) :
  PE X (.Compare l [if neg=true then CmpOp.NotIn else CmpOp.In] [r] pos) (tE X.K cal (.dIn neg mk J))/\PT X (.Compare l [if neg=true then CmpOp.NotIn else CmpOp.In] [r] pos) (tT X.K cal (.dIn neg mk J)):=by
 have hu:X.A.units+1<cLine:=by have:=g.units;omega
 have go:∀{σ}{H}{Q:Bool->Hp->Prop},(∃B E O W b,aH X.K B E O H W σ/\ev cal (.dIn neg mk J) W=some (.bl b)/\∀H',aj H H'->Q b H') ->
   tE X.K cal mk σ H λy H1=>tE X.K cal J σ H1 λx H2=>∃a o,x=.ref a/\ml H2 a y o/\Q (if neg=true then !o.isSome else o.isSome) H2:=λ{σ H Q} q=>by
  refine ax λZq Z=>?_
  obtain⟨B,E,O,W,b,st,z,q⟩:=q;rw[ev]at z;simp only[gf]at z;obtain⟨y,z,x,e2,U⟩:=z;refine Z ?_;refine⟨B,E,O,W,y,st,z,λuy H1 s1 g1=>⟨B,E,O,W,x,st.mono s1,e2,λux H2 s2 g2=>?_⟩⟩;rw[ti]at U;obtain⟨o,U,e4⟩:=U;cases x<;>try (cases U;done)
  obtain⟨a,rfl,Y⟩:=g2.1.dI;refine⟨a,_,rfl,p8 U Y (g1.1.mono s2),?_⟩;rw[isSome_map,PV.bl.inj e4];exact q H2 (s1.trans s2)
 have ao:∀{σ}{H}{Q},tE X.K cal (.dIn neg mk J) σ H Q->∃B E O W b,aH X.K B E O H W σ/\ev cal (.dIn neg mk J) W=some (.bl b)/\∀H',aj H H'->Q (.bl b) H':=λ{σ H Q} q=>by
  refine ax λZq Z=>?_
  obtain⟨B,E,O,W,v,st,z,q⟩:=q;have hb:∃b,v=.bl b:=by
   rw[ev]at z;simp only[gf]at z;obtain⟨y,_,x,_,U⟩:=z;rw[ti]at U;obtain⟨o,_,e4⟩:=U;exact⟨_,e4.symm⟩
  obtain⟨b,rfl⟩:=hb;refine Z ?_;exact⟨B,E,O,W,b,st,z,λH' s=>q _ H' s (.of (d8 _ _))⟩
 have ar:∀{σ}{H}{Q},tT X.K cal (.dIn neg mk J) σ H Q->∃B E O W b,aH X.K B E O H W σ/\ev cal (.dIn neg mk J) W=some (.bl b)/\∀H',aj H H'->Q b H':=λ{σ H Q} q=>by
  refine ax λZq Z=>?_
  obtain⟨B,E,O,W,b,st,z,q⟩:=q;unfold evB at z;simp only[gf]at z;obtain⟨v,z,e2⟩:=z;refine Z ?_;cases v<;>simp only[bc,reduceCtorEq,u0]at e2
  subst e2;exact⟨B,E,O,W,_,st,z,q⟩
 cases neg with
 |false =>
  refine⟨(xp (xO hu hk Y) hm).imp λσ H Q q=>?_,(xq (xO hu hk Y) hm).imp λσ H Q q=>?_⟩
  .exact go (Q:=λb H'=>Q (.bl b) H') (ao q)
  .exact go (Q:=λb H'=>∃c,V.bl b=.bl c/\Q c H') (by
    obtain⟨B,E,O,W,b,st,z,q⟩:=ar q;exact⟨B,E,O,W,b,st,z,λH' s=>⟨b,rfl,q H' s⟩⟩)
 |true =>
  refine⟨(xp (oK hu hk Y) hm).imp λσ H Q q=>?_,(xq (oK hu hk Y) hm).imp λσ H Q q=>?_⟩
  .exact go (Q:=λb H'=>Q (.bl b) H') (ao q)
  .exact go (Q:=λb H'=>∃c,V.bl b=.bl c/\Q c H') (by
    obtain⟨B,E,O,W,b,st,z,q⟩:=ar q;exact⟨B,E,O,W,b,st,z,λH' s=>⟨b,rfl,q H' s⟩⟩)
def Ei{ma mk md:ME}{o e f:Expr}{ap cp:Pos}(g:Gf X T k cal)(ha:PE X o (tE X.K cal ma))(hk:PE X e (tE X.K cal mk))(hd:PE X f (tE X.K cal md))(hb:oX o=true)(hl:(ap.endLine==cp.line)=true)(h1:ah e=true)(h2:ah f=true) :
  PE X (.Call (.Attribute o "get" ap) [e,f] [] cp) (tE X.K cal (.dget ma mk md)):=by
 have hu:X.A.units+1<cLine:=by have:=g.units;omega
 have J:starEach [e,f] X.env=[(false,eval e X.env),(false,eval f X.env)]:=by rw[aU h1,aU h2];rfl
 have m:M2 X o "get" ap e f cp:=by
  refine⟨base_of hb,?_,hl,?_⟩
  .rw[J];rfl
  .rw[J];rfl
 refine(xT hu ha hk hd m).imp λσ H Q q=>?_
 refine ax λZq kq=>?_
 obtain⟨B,E,O,W,v,st,U,q⟩:=q;rw[ev]at U;simp only[gf,ti]at U;obtain⟨x,U,y,e2,z,e3,Y,e4,sz,e5,e6⟩:=U;refine kq ?_;cases x<;>try (cases e4;done)
 refine⟨B,E,O,W,_,st,U,λux H1 Z g1=>?_⟩;obtain⟨a,rfl,hH⟩:=g1.1.dI;refine⟨a,rfl,pZ hH,B,E,O,W,_,st.mono Z,e2,λuy H2 s2 g2=>⟨B,E,O,W,z,st.mono (Z.trans s2),e3,λuz H3 s3 g3=>?_⟩⟩;refine⟨_,p8 e4 (aj.rdD s3 (aj.rdD s2 hH)) (g2.1.mono s3),?_⟩;rw[tZ e5 g3.1];have e7:(Y.map Sc.v).getD sz.v=(Y.getD sz).v:=by cases Y<;>rfl
 rw[e7];refine q _ H3 (Z.trans (s2.trans s3)) ?_;rw[<- e6];exact .of (tY _ _ _)
def GL(g:Gf X T k cal)(Z:PE X o (tE X.K cal ma))(hk:PE X i (tE X.K cal mk))(hs:bv i=true):PE X (.Subscript o i pos) (tE X.K cal (.dat ma mk)):=by
 have hu:X.A.units+1<cLine:=by have:=g.units;omega
 refine(uO hu Z hk (by cases i<;>first|(intro _ _;rfl)|(simp[bv]at hs))).imp λσ H Q q=>?_
 refine ax λZq kq=>?_
 obtain⟨B,E,O,W,v,st,z,q⟩:=q;rw[ev]at z;simp[gf,ti]at z;obtain⟨x,z,y,e2,oo,J,sz,rfl,e6⟩:=z;refine kq ?_;cases x<;>try (cases J;done)
 refine⟨B,E,O,W,_,st,z,λux H1 U g1=>?_⟩;obtain⟨a,rfl,hH⟩:=g1.1.dI;refine⟨B,E,O,W,_,st.mono U,e2,λuy H2 Y g2=>?_⟩;refine⟨a,_,rfl,p8 J (aj.rdD Y hH) g2.1,q _ H2 (U.trans Y) ?_⟩;rw[<- e6];exact .of (tY _ _ _)
end
mutual
theorem av{T:Tab}{k:Nat}{cal:Cal}:∀(me:ME) {X:Cx}{e:Expr},Gf X T k cal->chk T me X.N X.env.scope e=true->PE X e (tE X.K cal me)/\PT X e (tT X.K cal me)
 | .var i,X,e,g,h=>by
  replace h:=am h
  obtain⟨x,w,h⟩:=h;obtain rfl:=d7 w;exact⟨Cn h,bH (Cn h) rfl⟩
 | .bor i,X,e,g,h=>by
  replace h:=am h
  obtain⟨x,w,h⟩:=h;obtain rfl:=d7 w;exact⟨Co h,bH (Co h) rfl⟩
 | .cst v,X,e,g,h=>by
  replace h:=am h
  obtain⟨x,w,h⟩:=h;obtain rfl:=yC w;exact⟨Cq h,bH (Cq h) rfl⟩
 | .glob x v,X,e,g,h=>by
  replace h:=am h
  obtain⟨y,w,h⟩:=h;obtain rfl:=d7 w;exact⟨yR g h,bH (yR g h) rfl⟩
 | .bin op a b,X,e,g,h=>by
  replace h:=am h
  obtain⟨⟨l,o,r,pos⟩,w,h⟩:=h;obtain rfl:=pW w;simp only[pb,IE]at h;obtain⟨⟨rfl,h1⟩,h2⟩:=h;have p:=Gz (op:=op) (pos:=pos) (av a g h1).1 (av b g h2).1;exact⟨p,bH p rfl⟩
 | .neg _,X,e,g,h=>absurd (show false=true from h) pd
 | .not a,X,e,g,h=>by
  replace h:=am h
  obtain⟨⟨o,x,pos⟩,w,h⟩:=h;obtain rfl:=DB w
  replace h:=oe.mp h
  obtain⟨h2,h⟩:=h;obtain rfl:=eq_of_beq h2;exact⟨GA (av a g h).1,GB (av a g h).2⟩
 | .and a b,X,e,g,h=>by
  replace h:=am h
  obtain⟨⟨o,vs,pos⟩,w,h⟩:=h;obtain rfl:=yD w
  replace h:=oe.mp h
  obtain⟨h2,h⟩:=h;obtain rfl:=eq_of_beq h2;rcases vb h with⟨x,y,rfl,h1,h2⟩|⟨x,y,z,r,rfl,h1,h2⟩
  .exact⟨Cr (av a g h1).1 (xr (av b g h2).1),Ct (av a g h1).2 (As (av b g h2).2)⟩
  .exact⟨Cr (av a g h1).1 (av b g h2).1,Ct (av a g h1).2 (Cs (av b g h2).2)⟩
 | .or a b,X,e,g,h=>by
  replace h:=am h
  obtain⟨⟨o,vs,pos⟩,w,h⟩:=h;obtain rfl:=yD w
  replace h:=oe.mp h
  obtain⟨h2,h⟩:=h;obtain rfl:=eq_of_beq h2;rcases vb h with⟨x,y,rfl,h1,h2⟩|⟨x,y,z,r,rfl,h1,h2⟩
  .exact⟨GC (av a g h1).1 (xr (av b g h2).1),GD (av a g h1).2 (CK (av b g h2).2)⟩
  .exact⟨GC (av a g h1).1 (av b g h2).1,GD (av a g h1).2 (Cs (av b g h2).2)⟩
 | .ite c a b,X,e,g,h=>by
  replace h:=am h
  obtain⟨q,w,h⟩:=h;obtain rfl:=DC w;simp only[pb,IM]at h;obtain⟨⟨⟨⟨h1,h2⟩,J⟩,h4⟩,h5⟩:=h;exact⟨GE (av c g h1).2 (av a g h2).1 (av b g J).1 h4 h5,GF (av c g h1).2 (av a g h2).2 (av b g J).2⟩
 | .cmp op a b,X,e,g,h=>by
  replace h:=am h
  obtain⟨⟨l,o,r⟩,w,h⟩:=h;obtain⟨pos,rfl⟩:=u_ w;simp only[pb,IE,IM]at h;obtain⟨⟨⟨rfl,h1⟩,h2⟩,J⟩:=h;exact GG g (av a g h1).1 (av b g h2).1 J
 | .chain _ _ _ _ _,X,e,g,h=>absurd (show false=true from h) pd
 | .tup es,X,e,g,h=>by
  replace h:=am h
  obtain⟨q,w,h⟩:=h;obtain rfl:=tD w;obtain⟨h1,h2⟩:=oe.mp h;have p:=GH (j:=q.2.1) (pos:=q.2.2) (sounds es g h1) h2;exact⟨p,bH p rfl⟩
 | .lst es,X,e,g,h=>by
  replace h:=am h
  obtain⟨q,w,h⟩:=h;obtain rfl:=tG w
  replace h:=oe.mp h
  have p:=λ(pos:Pos)=>eP (λW v hv=>by
   rw[ev,gf]at hv;obtain⟨vs,_,hv⟩:=hv;split at hv
   .cases hv;exact⟨_,rfl⟩
   .cases hv) (Cu (pos:=pos) (sounds es g h.1) h.2)
  exact⟨p _,bH (p _) rfl⟩
 | .idx a i,X,e,g,h=>by
  replace h:=am h
  obtain⟨q,w,h⟩:=h;obtain rfl:=mQ w;simp only[pb]at h;have p:=GI (pos:=q.2.2) (av a g h.1.1).1 (av i g h.1.2).1 h.2;exact⟨p,bH p rfl⟩
 | .slice a lo hi,X,e,g,h=>by
  replace h:=am h
  obtain⟨⟨v,l,u⟩,w,h⟩:=h;obtain⟨p2,pos,rfl⟩:=A7 w;simp only[pb]at h;obtain⟨⟨h1,h2⟩,J⟩:=h;have bd:∀{b:ME}{o:Option Expr},(∀e,chk T b X.N X.env.scope e=true->PE X e (tE X.K cal b))->pX (λe=>chk T b X.N X.env.scope e) (jn b) o=true->PO X o (tB1 X.K cal b):=λ{b o} hb h2=>by
   cases o with
   |none=>exact D8 h2
   |some l =>
    simp only[pX,pb,IM]at h2;exact D9 (hb l h2.1) h2.2
  have p:=Br (p2:=p2) (pos:=pos) (av a g h1).1 (bd (λe he=>(av lo g he).1) h2) (bd (λe he=>(av hi g he).1) J);exact⟨p,bH p rfl⟩
 | .blt b es,X,e,g,h=>by
  replace h:=am h
  obtain⟨⟨x,args⟩,w,h⟩:=h;obtain⟨p,pos,rfl⟩:=fC w;simp only[pb,IE]at h;obtain⟨⟨hx,hg⟩,ha⟩:=h;have q:=(rQ (p:=p) (pos:=pos) g hx hg ha (λxs U=>⟨sounds es g U,bM U⟩) (λm x hm hx=>match es,hm with|[m'],rfl=>(av m' g (cf hx).1.1).1) (λa b x x' hm hx=>match es,hm with|[m1,m2],rfl=>⟨(av m1 g (cf hx).1.1).1,(av m2 g (cf (cf hx).2).1.1).1⟩)).2;exact⟨q,bH q rfl⟩
 | .call f es,X,e,g,h=>by
  replace h:=am h
  obtain⟨⟨x,args⟩,w,h⟩:=h;obtain⟨p,pos,rfl⟩:=fC w;simp only[pb,IE]at h;obtain⟨⟨⟨h1,h2⟩,J⟩,h4⟩:=h;obtain⟨hs,hl⟩:=bM h4;have q:=Ea (p:=p) (pos:=pos) g h1 h2 J (soundA es g h4) hs hl;exact⟨q,bH q rfl⟩
 | .callD _ _ _,X,e,g,h=>absurd (show false=true from h) pd
 | .disp kvs m,X,e,g,h=>by
  obtain⟨q,e1,h⟩:=am (show onQ (yJ e) (λq=>rA kvs q.1 q.2.1&&chk T m X.N X.env.scope q.2.2&&bv q.2.2&&decide (kvs.length<=15)&&!kvs.isEmpty)=true from h);obtain⟨ks,vs,a⟩:=q;obtain⟨p,pos,rfl⟩:=yK e1;obtain⟨a0,h5⟩:=oe.mp h;obtain⟨a1,h4⟩:=oe.mp a0;obtain⟨a2,J⟩:=oe.mp a1;obtain⟨h1,h2⟩:=oe.mp a2;have q:PE X (.Subscript (.Dict ks vs p) a pos) (tE X.K cal (.disp kvs m)):=Ef g h1 (Jx h4) (by simpa using h5) (av m g h2).1 J;exact⟨q,bH q rfl⟩
 | .lenP i,X,e,g,h=>by
  replace h:=am h
  obtain⟨⟨x,y⟩,w,h⟩:=h;obtain⟨p,yp,pos,rfl⟩:=A9 w;simp only[pb,IE]at h;obtain⟨⟨rfl,h2⟩,J⟩:=h;have q:PE X (.Call (.Name ("len":Str) p) [.Name y yp] [] pos) (tE X.K cal (.lenP i)):=Eg g h2 J;exact⟨q,bH q rfl⟩
 | .dIn neg mk ma,X,e,g,h=>by
  replace h:=am h
  obtain⟨⟨l,o,r⟩,w,h⟩:=h;obtain⟨pos,rfl⟩:=u_ w;simp only[pb,IE,IM]at h;obtain⟨⟨⟨rfl,h1⟩,h2⟩,J⟩:=h;exact GK g (av mk g h1).1 (av ma g h2).1 J
 | .dat ma mk,X,e,g,h=>by
  replace h:=am h
  obtain⟨q,w,h⟩:=h;obtain rfl:=mQ w;simp only[pb]at h;have p:=GL (pos:=q.2.2) g (av ma g h.1.1).1 (av mk g h.1.2).1 h.2;exact⟨p,bH p rfl⟩
 | .dget ma mk md,X,e,g,h=>by
  replace h:=am h
  obtain⟨⟨o,m,ap,args,cp⟩,w,h⟩:=h;obtain rfl:=tH w
  replace h:=am h
  obtain⟨⟨x,y⟩,w,h⟩:=h;obtain rfl:=lS w;simp only[pb,IE]at h;obtain⟨⟨⟨⟨⟨⟨⟨rfl,h1⟩,h2⟩,J⟩,h4⟩,h5⟩,h6⟩,h7⟩:=h;have p:=Ei (ap:=ap) (cp:=cp) g (av ma g J).1 (av mk g h4).1 (av md g h5).1 h1 (by rw[h2];simp) h6 h7;exact⟨p,bH p rfl⟩
 | .comp k' src js cond elt,X,e,g,h=>by
  replace h:=kG h
  obtain⟨e,x,px,it,ifs,scope,pos,rfl,h⟩:=h;simp only[pb,IM]at h;obtain⟨⟨⟨⟨h1,h2⟩,J⟩,h4⟩,h5⟩:=h;have hw:=kL (tg:=.Name x px) (λz=>by cases z) g h2 (λxs U=>⟨sounds src g U,bM U⟩) (λm x hm hx=>match src,hm with|[m'],rfl=>(av m' g (cf hx).1.1).1);have q:=eP rP (tR (pos:=pos) g h1 hw.1 hw.2 (λY Z C fp=>qb J λc hc=>(av cond (g.blk x (dB X.N js) scope Y Z C fp) hc).2) (λY Z C fp=>(av elt (g.blk x (dB X.N js) scope Y Z C fp) h4).1) h5);exact⟨q,bH q rfl⟩
theorem sounds{T:Tab}{k:Nat}{cal:Cal}:∀(ms:List ME) {X:Cx}{es:List Expr},Gf X T k cal->chks T ms X.N X.env.scope es=true->PA X es (tEs X.K cal ms)
 | [],X,es,g,h=>by
  cases es with
  |nil=>exact Bq
  |cons _ _=>cases h
 |m::ms,X,es,g,h=>by
  cases es with
  |nil=>cases h
  |cons e es =>
   replace h:=cf h
   exact yY (av m g h.1.1).1 (sounds ms g h.2) h.1.2
theorem soundA{T:Tab}{k:Nat}{cal:Cal}:∀(ms:List ME) {X:Cx}{es:List Expr},Gf X T k cal->chks T ms X.N X.env.scope es=true->PA X es (tAs X.K cal ms)
 | [],X,es,g,h=>by
  cases es with
  |nil=>exact yZ
  |cons _ _=>cases h
 |m::ms,X,es,g,h=>by
  cases es with
  |nil=>cases h
  |cons e es =>
   replace h:=cf h
   have hs:=soundA ms g h.2;cases z:aK m with
   |false=>exact wI z (av m g h.1.1).1 hs h.1.2
   |true =>
    obtain⟨i,rfl⟩:=mS z;obtain⟨x,p,rfl,h1⟩:=jJ h.1.1;exact y9 h1 hs
end
def Ej(g:Gf X T k cal)(h:chk T me X.N X.env.scope e=true)(hf:iy me=true):PE X e (tF X.K cal me):=by
 cases me with
 |lst es =>
  replace h:=am h
  obtain⟨q,w,h⟩:=h;obtain rfl:=tG w
  replace h:=oe.mp h
  exact Cu (sounds es g h.1) h.2
 |blt b es =>
  replace h:=am h
  obtain⟨⟨x,args⟩,w,h⟩:=h;obtain⟨p,pos,rfl⟩:=fC w;simp[pb,IE]at h;obtain⟨⟨hx,hg⟩,ha⟩:=h;exact(rQ (p:=p) (pos:=pos) g hx hg ha (λxs J=>⟨sounds es g J,bM J⟩) (λm x Z hx=>match es,Z with|[m'],rfl=>(av m' g (cf hx).1.1).1) (λa b x x' Z hx=>match es,Z with|[m1,m2],rfl=>⟨(av m1 g (cf hx).1.1).1,(av m2 g (cf (cf hx).2).1.1).1⟩)).1 hf
 |comp k' src js cond elt =>
  replace h:=kG h
  obtain⟨e,x,px,it,ifs,scope,pos,rfl,h⟩:=h;simp only[pb,IM]at h;obtain⟨⟨⟨⟨h1,h2⟩,h3⟩,h4⟩,h5⟩:=h;have hw:=kL (tg:=.Name x px) (λz=>by cases z) g h2 (λxs J=>⟨sounds src g J,bM J⟩) (λm x Z hx=>match src,Z with|[m'],rfl=>(av m' g (cf hx).1.1).1);exact tR g h1 hw.1 hw.2 (λU Y C fp=>qb h3 λc hc=>(av cond (g.blk x _ scope U Y C fp) hc).2) (λU Y C fp=>(av elt (g.blk x _ scope U Y C fp) h4).1) h5
 | _=>cases hf
noncomputable def GM:MV->Bool
 | .brw _=>true
 | .brwD _=>true
 | _=>false
def vt(h1:ix m=true)(h2:GM m=true):False:=by cases m<;>first|(cases h2;done)|(cases h1;done)
structure bp(B:Hp)(O O':List Addr)(W l:Rho)(σ F:St):Prop where
 stay:∀a,B a≠none->a∈O->a∈O'
 new:∀a∈O',a∈O\/B a=none
 brw:∀(i:Nat) (m:MV),GM m=true->l[i]?=some (some m)->W[i]?=some (some m)/\F[i]?=σ[i]?
 len:l.length=W.length
 mutK:∀(i:Nat) (d':DD),l[i]?=some (some (.mutD d'))->(∃d,W[i]?=some (some (.mutD d)))/\F[i]?=σ[i]?
def bp.refl :bp B O O W W σ σ:=⟨λ_ _ h=>h,λ_ h=>.inl h,λ_ _ _ h=>⟨h,rfl⟩,rfl,λ_ d' h=>⟨⟨d',h⟩,rfl⟩⟩
theorem bp.trans(a:bp B O O1 W z σ J)(b:bp B O1 O2 z U J Y):bp B O O2 W U σ Y where
 stay:=λx h1 h2=>b.stay x h1 (a.stay x h1 h2)
 new:=λx h=>(b.new x h).elim (a.new x) .inr
 brw:=λi xs hm h=>by
  obtain⟨h1,Z⟩:=b.brw i xs hm h;obtain⟨h2,e2⟩:=a.brw i xs hm h1;exact⟨h2,Z.trans e2⟩
 len:=b.len.trans a.len
 mutK:=λi d' h=>by
  obtain⟨⟨d1,h1⟩,Z⟩:=b.mutK i d' h;obtain⟨h2,e2⟩:=a.mutK i d1 h1;exact⟨h2,Z.trans e2⟩
def gm(K:L8)(B:Hp)(E O:List Addr)(W:Rho)(σ:St)(D:CF):R->Prop
 | .next l=>∀F H' z,aH K B E z H' l F->bp B O z W l σ F->D.nx F H'
 | .brk l=>∀F H' z,aH K B E z H' l F->bp B O z W l σ F->D.bk F H'
 | .cont l=>∀F H' z,aH K B E z H' l F->bp B O z W l σ F->D.ct F H'
 | .ret v=>∀u H',aj B H'->Rep K (az H' E) v u->D.rt u H'
 | .retM v l=>∀u F H' z,aH K B E z H' l F->bp B O z W l σ F->Rep K (az H' z) v u->D.rt u H'
 | .retF xs=>∀p us H',aj B H'->B p=none->H' p=some (.lst us)->Reps K (az H' (p::E)) xs us->D.rt (.ref p) H'
 | .bad=>False
theorem gm.trans{K:L8}(h:gm K B E O W σ D r)(k:bp B O Y W l σ F):gm K B E Y l F D r:=by
 cases r<;>first|exact λz H2 J st U=>h z H2 J st (k.trans U)|exact h|exact λu z H2 J st U=>h u z H2 J st (k.trans U)
noncomputable def tS(K:L8)(cal:Cal)(m:MS):TS:=λD σ H=>∃B E O W,aH K B E O H W σ/\gm K B E O W σ D (ex cal m W)
noncomputable def tSs(K:L8)(cal:Cal)(ms:List MS):TS:=λD σ H=>∃B E O W,aH K B E O H W σ/\gm K B E O W σ D (exs cal ms W)
section
variable{K:L8}{B H H':Hp}{E O:List Addr}{W:Rho}{σ:St}
def al(h:i<W.length):(put W i m)[i]?=some (some m):=by unfold put;exact JO h
def ai(h:i≠j):(put W i m)[j]?=W[j]?:=by unfold put;exact IX h
def put_len :(put W i m).length=W.length:=by unfold put;exact J9
def aH.store(st:aH K B E O H W σ)(hi:i<σ.length)(r:Rep K (az H O) v u):aH K B E O H (put W i (.val v)) (σ.set i (some u))/\bp B O O W (put W i (.val v)) σ (σ.set i (some u)):=by
 have J:i<W.length:=by rw[st.len];exact hi
 refine⟨⟨st.keep,st.here,st.sub,st.old,by rw[put_len,J9];exact st.len,λj m e=>?_,λa b xs ys ad ao Y Z o1 o2 e3 e4=>?_
  ⟩,⟨λ_ _ h=>h,λ_ h=>.inl h,λj xs ar e=>?_,put_len
  ,λj d' e=>?_
  ⟩⟩
 .by_cases U:i=j
  .subst U;rw[al J]at e;cases e;exact⟨u,JO hi,r⟩
  .rw[ai U]at e;obtain⟨w,Y,q⟩:=st.slot j m e;exact⟨w,by rw[IX U];exact Y,q⟩
 .have h1:i≠a:=λz=>by subst z;rw[al J]at Y;cases Y;cases o1
  have h2:i≠b:=λz=>by subst z;rw[al J]at Z;cases Z;cases o2
  rw[ai h1]at Y;rw[ai h2]at Z;rw[IX h1]at e3;rw[IX h2]at e4;exact st.apart a b xs ys ad ao Y Z o1 o2 e3 e4
 .have U:i≠j:=λz=>by subst z;rw[al J]at e;cases e;cases ar
  rw[ai U]at e;exact⟨e,IX U⟩
 .have U:i≠j:=λz=>by subst z;rw[al J]at e;cases e
  rw[ai U]at e;exact⟨⟨d',e⟩,IX U⟩
def aH.storeM(st:aH K B E O H W σ)(hi:i<σ.length)(s:aj H H')(hp:H p=none)(e:H' p≠none)(hm:ix mm=true)
  (a7:∀d,mm≠.mutD d)
  (r:B p=none->eV K B (p::O) H' mm (.ref p))
  :
  aH K B E (p::O) H' (put W i mm) (σ.set i (some (.ref p)))/\bp B O (p::O) W (put W i mm) σ (σ.set i (some (.ref p))):=by
 have a0:i<W.length:=by rw[st.len];exact hi
 have a3:=st.keep.free hp;have ao:aj (az H O) (az H' (p::O)):=ce s λb Z=>by
  rcases IB.mp Z with rfl|Z
  .exact .inr hp
  .exact .inl Z
 refine⟨⟨st.keep.trans s,λa J=>?_,λa J=>Js _ (st.sub a J),st.old,by rw[put_len,J9];exact st.len,λj m U=>?_,λa b xs ys ad a4 e1 Y o1 o2 e3 e4=>?_
  ⟩,⟨λ_ _ h=>Js _ h,λa J=>?_,λj xs a8 U=>?_,put_len
  ,λj d' U=>?_
  ⟩⟩
 .rcases IB.mp J with rfl|J
  .exact e
  .exact λz=>st.here a J (s.free z)
 .by_cases hj:i=j
  .subst hj;rw[al a0]at U;cases U;exact⟨_,JO hi,r a3⟩
  .rw[ai hj]at U;obtain⟨w,e1,q⟩:=st.slot j m U;refine⟨w,by rw[IX hj];exact e1,?_⟩;cases m with
   |val v=>exact Rep.mono ao _ q
   |own ys=>obtain⟨a,ws,Y,h1,h2,h3,h4⟩:=q;exact⟨a,ws,Y,s _ _ h1,Reps.mono ao _ h2,Js _ h3,h4⟩
   |brw ys=>obtain⟨a,ws,Y,h1,h2⟩:=q;exact⟨a,ws,Y,h1,Reps.mono ao _ h2⟩
   |brwD ys=>exact q
   | _=>obtain⟨a,Y,h1,h3,h4⟩:=q;exact⟨a,Y,h1.move (s _) ao,Js _ h3,h4⟩
 .have other:∀(j:Nat) zs ad,W[j]?=some (some zs)->ix zs=true->σ[j]?=some (some (.ref ad))->ad≠p:=λj zs ad h1 ho h2 z=>by
   obtain⟨w,e1,q⟩:=st.slot j _ h1;rw[h2]at e1;cases e1;cases zs with
   |own zs =>
    obtain⟨a,ws,Y,h1,_⟩:=q;cases Y;rw[z,hp]at h1;cases h1
   |ownD zs|mutD zs =>
    obtain⟨a,Y,h1,_⟩:=q;cases Y;obtain⟨o,h1⟩:=h1.here;rw[z,hp]at h1;cases h1
   | _=>cases ho
  by_cases J:i=a
  .subst J;have Z:=a4;rw[JO hi]at e3;rw[ai Z]at Y;rw[IX Z]at e4;cases e3;exact other b ys _ Y o2 e4 rfl
  .by_cases Z:i=b
   .subst Z;rw[JO hi]at e4;rw[ai J]at e1;rw[IX J]at e3;cases e4;exact other a xs _ e1 o1 e3 rfl
   .rw[ai J]at e1;rw[ai Z]at Y;rw[IX J]at e3;rw[IX Z]at e4;exact st.apart a b _ _ ad a4 e1 Y o1 o2 e3 e4
 .rcases IB.mp J with rfl|J
  .exact .inr a3
  .exact .inl J
 .have hj:i≠j:=λz=>by subst z;rw[al a0]at U;cases U;exact vt hm a8
  rw[ai hj]at U;exact⟨U,IX hj⟩
 .have hj:i≠j:=λz=>by subst z;rw[al a0]at U;cases U;exact a7 d' rfl
  rw[ai hj]at U;exact⟨⟨d',U⟩,IX hj⟩
def aH.storeOwn(st:aH K B E O H W σ)(hi:i<σ.length)(s:aj H H')(J:H p=none)(e:H' p=some (.lst us))(r:Reps K (az H' (p::O)) xs us) :
  aH K B E (p::O) H' (put W i (.own xs)) (σ.set i (some (.ref p)))/\bp B O (p::O) W (put W i (.own xs)) σ (σ.set i (some (.ref p))):=
 st.storeM hi s J (by rw[e];simp) rfl (λ_ z=>by cases z) λU=>⟨p,us,rfl,e,r,JC,U⟩
def aH.changeM(st:aH K B E O H W σ)(e:W[i]?=some (some m0))(o0:ix m0=true)(o1:ix m1=true)
  (om:∀d',m1=.mutD d'->∃d,m0=.mutD d)
  (es:σ[i]?=some (some (.ref a))) (h3:a∈O) (h4:B a=none) (r:az (upd H a ob) O=az H O->eV K B O (upd H a ob) m1 (.ref a))
  :
  aH K B E O (upd H a ob) (put W i m1) σ/\bp B O O W (put W i m1) σ σ:=by
 have ao:=(IA.mp e).1;have Y:az (upd H a ob) O=az H O:=iz h3;have other:∀j zs ad,i≠j->W[j]?=some (some zs)->ix zs=true->σ[j]?=some (some (.ref ad))->ad≠a:=λj zs ad U Z o2 q2 z=>by
  subst z;exact st.apart i j m0 zs ad U e Z o0 o2 es q2
 refine⟨⟨λb u eb=>?_,λb hb=>?_,st.sub,st.old,by rw[put_len];exact st.len,λj m J=>?_,λc d ps qs ad a4 e1 e2 p1 p2 e3 e4=>?_
  ⟩,⟨λ_ _ h=>h,λ_ h=>.inl h,λj zs a7 J=>?_,put_len
  ,λj d' J=>?_
  ⟩⟩
 .rw[aZ (cJ eb h4)];exact st.keep b u eb
 .unfold upd;split
  .simp
  .exact st.here b hb
 .by_cases U:i=j
  .subst U;rw[al ao]at J;cases J;exact⟨_,es,r Y⟩
  .rw[ai U]at J;obtain⟨w,ew,q⟩:=st.slot j m J;refine⟨w,ew,?_⟩;cases m with
   |val v=>show Rep K (az (upd H a ob) O) v w;rw[Y];exact q
   |own zs =>
    obtain⟨ad,ws,rfl,Z,q2,q3,q4⟩:=q;refine⟨ad,ws,rfl,?_,by rw[Y];exact q2,q3,q4⟩;rw[aZ (other j (.own zs) ad U J rfl ew)];exact Z
   |ownD zs =>
    obtain⟨ad,rfl,Z,q3,q4⟩:=q;refine⟨ad,rfl,Z.move (λo eo=>?_) (by rw[Y];exact aj.refl _),q3,q4⟩;rw[aZ (other j (.ownD zs) ad U J rfl ew)];exact eo
   |mutD zs =>
    obtain⟨ad,rfl,Z,q3,q4⟩:=q;refine⟨ad,rfl,Z.move (λo eo=>?_) (by rw[Y];exact aj.refl _),q3,q4⟩;rw[aZ (other j (.mutD zs) ad U J rfl ew)];exact eo
   |brwD zs=>exact q
   |brw zs=>obtain⟨ad,ws,rfl,Z,q2⟩:=q;exact⟨ad,ws,rfl,Z,by rw[Y];exact q2⟩
 .have h1:∀j zs,(put W i m1)[j]?=some (some zs)->ix zs=true->∃zs,W[j]?=some (some zs)/\ix zs=true:=λj zs q oz=>by
   by_cases U:i=j
   .subst U;exact⟨m0,e,o0⟩
   .rw[ai U]at q;exact⟨zs,q,oz⟩
  obtain⟨Z,e1,p1⟩:=h1 c ps e1 p1;obtain⟨q2,e2,p2⟩:=h1 d qs e2 p2;exact st.apart c d Z q2 ad a4 e1 e2 p1 p2 e3 e4
 .have U:i≠j:=λz=>by subst z;rw[al ao]at J;cases J;exact vt o1 a7
  rw[ai U]at J;exact⟨J,rfl⟩
 .by_cases U:i=j
  .subst U;rw[al ao]at J;cases J;obtain⟨d,rfl⟩:=om d' rfl;exact⟨⟨d,e⟩,rfl⟩
  .rw[ai U]at J;exact⟨⟨d',J⟩,rfl⟩
def aH.change(st:aH K B E O H W σ)(e:W[i]?=some (some (.own xs)))(es:σ[i]?=some (some (.ref a)))(r:Reps K (az H O) ys us) :
  aH K B E O (upd H a (.lst us)) (put W i (.own ys)) σ/\bp B O O W (put W i (.own ys)) σ σ:=by
 refine ax λZq kq=>?_
 obtain⟨w,U,a',ar,e2,h1,h2,Y,Z⟩:=st.slot i _ e;rw[es]at U;cases U;cases e2;refine kq ?_;exact st.changeM e rfl rfl (λ_ z=>by cases z) es Y Z λJ=>⟨a,us,rfl,aC,by rw[J];exact r,Y,Z⟩
def aH.changeD(st:aH K B E O H W σ)(e:W[i]?=some (some (.ownD xs)))(es:σ[i]?=some (some (.ref a)))(hd:az (upd H a U) O=az H O->DAt K (upd H a U) O a ys) :
  aH K B E O (upd H a U) (put W i (.ownD ys)) σ/\bp B O O W (put W i (.ownD ys)) σ σ:=by
 refine ax λZq kq=>?_
 obtain⟨w,Y,a',e2,h1,Z,h4⟩:=st.slot i _ e;rw[es]at Y;cases Y;cases e2;refine kq ?_;exact st.changeM e rfl rfl (λ_ z=>by cases z) es Z h4 λJ=>⟨a,rfl,hd J,Z,h4⟩
def aH.changeU(st:aH K B E O H W σ)(e:W[i]?=some (some (.mutD xs)))(es:σ[i]?=some (some (.ref a)))(hd:az (upd H a J) O=az H O->DAt K (upd H a J) O a ys) :
  aH K B E O (upd H a J) (put W i (.mutD ys)) σ/\bp B O O W (put W i (.mutD ys)) σ σ:=by
 refine ax λZq kq=>?_
 obtain⟨w,U,a',e2,h1,Y,Z⟩:=st.slot i _ e;rw[es]at U;cases U;cases e2;refine kq ?_;exact st.changeM e rfl rfl (λ_ _=>⟨_,rfl⟩) es Y Z λz=>⟨a,rfl,hd z,Y,Z⟩
end
section
open AutoSeq1 (wpAny_loadPart')
open MeetsSeq MeetsSeq2 MeetsSeq3 SeqRoads2 AutoSeq1
def qc(l)(items)(n)(b)(z)(n2)(J)(U)(ar:¬(!items.isEmpty&&Builtin.List.listTooLong (items.size+z.size))=true)(Y:items.size<=sizeLine)(aO:items.size+z.size<=sizeLine+1) :
  Meets (Builtin.«list.extend» ⟨[.ref l,.ref b],[]⟩) (λ_ R s=>s.heap.get? l=some { cls:=.type "list",dict:=none,data:=.seq items n,slots:=#[] }/\s.heap.get? b=some { cls:=.type "tuple",dict:=J,data:=.seq z n2,slots:=U }/\R (.ok (.ret Value.none)) { s with heap:=s.heap.update l (Obj.mapSeq λx=>x++z),toks:=s.toks }):=
 .of_wp λprog w A R s h=>by
  obtain⟨hp,g,d,tk,os⟩:=s;obtain⟨Z,hb,h⟩:=h;have f1:=AutoSeq1.idx_int;have f2:=K2;have f3:=AutoSeq1.sub_list_list;have f4:=AutoSeq1.sub_tuple_list;have f5:=AutoSeq1.sub_list_tuple;
  wp_walk using (wpAny_updateSeq Z rfl (hz:=Y)),wpAny_loadPart' Z,wpAny_loadPart' hb;exact⟨_,rfl,h⟩
def qd(l)(items)(n)(b)(z)(n2)(J)(U)(ar:¬(!items.isEmpty&&Builtin.List.listTooLong (items.size+z.size))=true)(Y:items.size<=sizeLine)(aO:items.size+z.size<=sizeLine+1) :
  Meets (Builtin.«list.extend» ⟨[.ref l,.ref b],[]⟩) (λ_ R s=>s.heap.get? l=some { cls:=.type "list",dict:=none,data:=.seq items n,slots:=#[] }/\s.heap.get? b=some { cls:=.type "list",dict:=J,data:=.seq z n2,slots:=U }/\R (.ok (.ret Value.none)) { s with heap:=s.heap.update l (Obj.mapSeq λx=>x++z),toks:=s.toks }):=
 .of_wp λprog w A R s h=>by
  obtain⟨hp,g,d,tk,os⟩:=s;obtain⟨Z,hb,h⟩:=h;have f1:=AutoSeq1.idx_int;have f2:=K2;have f3:=AutoSeq1.sub_list_list;have f4:=AutoSeq1.sub_tuple_list;have f5:=AutoSeq1.sub_list_tuple;
  wp_walk using (wpAny_updateSeq Z rfl (hz:=Y)),wpAny_loadPart' Z,wpAny_loadPart' hb;exact⟨_,rfl,h⟩
end
section
variable{X:Cx}{T:Tab}{k:Nat}{cal:Cal}
def t4:MtM X "list.extend" (λx vs H Q=>∃l b xs zs,x=.ref l/\vs=[.ref b]/\H l=some (.lst xs)/\(SqL X.K H b zs\/SqT X.K H b zs)/\xs.length+zs.length<=sizeLine/\Q .non (upd H l (.lst (xs++zs)))):=by
 intro pins s σ H x vs v us Q I rx rv h;refine ax λZq kq=>?_
 obtain⟨l,b,xs,zs,rfl,rfl,hH,hB,hz,q⟩:=h;cases rx;obtain⟨u,rfl,ru⟩:=rv.one;cases ru;obtain⟨z,its,n,r,hl,e⟩:=I.lstM hH;have fin:∀J,aI zs J->EP X pins σ Q .none { s with heap:=s.heap.update l (Obj.mapSeq λx=>x++J.toArray),toks:=s.toks }:=λJ Y =>
  ⟨.non,_,I.lset (its':=its++J) hH e (by simp) (r.append Y) (by rw[IC];omega),rfl,q⟩
 refine kq ?_;rcases hB with hB|hB
 .obtain⟨J,Y,pl,z2⟩:=I.list hB;have aO:=Y.length;have Z:its.toArray.size+J.toArray.size<=sizeLine:=by rw[tr,tr];omega
  have U:¬ (!its.toArray.isEmpty&&Builtin.List.listTooLong (its.toArray.size+J.toArray.size))=true:=by
   rw[qM Z,Bool.and_false];exact pd
  obtain⟨⟨cls,dd,data,sl⟩,ho,hc,n2,hd⟩:=pl.isList;simp only at hc hd;subst hc hd;exact Lk PySem.F.slot_list_extend ⟨_,e,rfl⟩ PySem.F.entry_list_extend (PySem.F.args_list_extend_2 _ _) (qd l its.toArray n b J.toArray n2 dd sl U (by rw[tr];omega) (by omega)) ⟨e,ho,fin J Y⟩
 .obtain⟨J,Y,pl,z2⟩:=I.tuple hB;have aO:=Y.length;have Z:its.toArray.size+J.toArray.size<=sizeLine:=by rw[tr,tr];omega
  have U:¬ (!its.toArray.isEmpty&&Builtin.List.listTooLong (its.toArray.size+J.toArray.size))=true:=by
   rw[qM Z,Bool.and_false];exact pd
  obtain⟨⟨cls,dd,data,sl⟩,ho,hc,n2,hd⟩:=pl;simp only at hc hd;subst hc hd;exact Lk PySem.F.slot_list_extend ⟨_,e,rfl⟩ PySem.F.entry_list_extend (PySem.F.args_list_extend_2 _ _) (qc l its.toArray n b J.toArray n2 dd sl U (by rw[tr];omega) (by omega)) ⟨e,ho,fin J Y⟩
structure Df(X:Cx):Prop where
 nd:X.N.Nodup
 fn:∀x,X.fn x=true
 own:PassesOwn (model X.prog X.w) X.A X.env X.xe
 blk:(X.env.blockKind==.function)=true
def dD(h:br v=true)(t)(n)(env):swapsWith v t n env=pure false:=by
 cases v<;>first|rfl|(simp[br]at h)
def wJ(d:Df X)(h:Ck X.env.scope x px v=true):swapsWith v (some (.Name x px)) n X.env=pure true:=by
 obtain⟨⟨e,gs,s,p⟩,w,h⟩:=am h;obtain rfl:=tz w;show pure _=pure true;rw[d.blk,J4];exact IW pure h
def PS.imp'(h:PS X e t)(i:∀D σ H,σ.length=X.N.length->t' D σ H->t D σ H):PS X e t':=λpins s σ H D I q=>h pins s σ H D I (i D σ H I.len q)
def ltN{N:List Str}{σ:St}(h:N[i]?=some x)(z:σ.length=N.length):i<σ.length:=by rw[z];exact(IA.mp h).1
def cg{K:L8}(h:gm K B E O W σ D (dS o f)):∃v,o=some v/\gm K B E O W σ D (f v):=by
 cases o with
 |none=>exact(show False from h).elim
 |some v=>exact⟨v,rfl,h⟩
def wK{K:L8}(h:gm K B E O W σ D (yz o f)):∃v,o=some v/\gm K B E O W σ D (f v):=by
 cases o with
 |none=>exact(show False from h).elim
 |some v=>exact⟨v,rfl,h⟩
def zh{K:L8}(hi:i<σ.length)(U:aK J=false)(q:tS K cal (.set i J) D σ H):v3 (tE K cal J) (iZ i) D σ H:=by
 obtain⟨B,E,O,W,st,q⟩:=q;obtain⟨w,e,q⟩:=cg q;refine⟨B,E,O,W,w,st,e,λu H' s g=>?_⟩;obtain⟨z,Y⟩:=(st.mono s).store hi (g.2 U);exact q _ H' O z Y
def GN(d:Df X)(hi:X.N[i]?=some x)(hx:Loc X.env.scope x)(h:PE X v (tE X.K cal z))(J:aK z=false)(hc:br v=true):PS X (.Assign [.Name x px] v pos) (tS X.K cal (.set i z)):=
 PS.imp' (kd d.nd hi hx h (dD hc _ _ _) (.inl (d.fn x))) λD σ H U q=>zh (ltN hi U) J q
def zi{K:L8}(hi:i<σ.length)(q:tS K cal (.setOwn i J) D σ H):v3 (tF K cal J) (iZ i) D σ H:=by
 obtain⟨B,E,O,W,st,q⟩:=q;obtain⟨w,e,q⟩:=cg q;cases w with
 |lst xs =>
  refine⟨B,E,O,W,xs,st,e,λp us H' s U Y r=>?_⟩;obtain⟨z,Z⟩:=st.storeOwn hi s U Y r;exact q _ H' _ z Z
 | _=>exact(show False from q).elim
def GO(d:Df X)(hi:X.N[i]?=some x)(hx:Loc X.env.scope x)(h:PE X v (tF X.K cal z))(hc:br v=true):PS X (.Assign [.Name x px] v pos) (tS X.K cal (.setOwn i z)):=
 PS.imp' (kd d.nd hi hx h (dD hc _ _ _) (.inl (d.fn x))) λD σ H J q=>zi (ltN hi J) q
def rPopAt:V->List V->Hp->VK->Prop:=λx vs H Q=>∃l xs,∃k,∃w,x=.ref l/\vs=[.int k]/\H l=some (.lst xs)/\0<=k/\xs[k.toNat]?=some w/\xs.length<=10000/\Q w (upd H l (.lst (xs.eraseIdx k.toNat)))
theorem rR{K:L8} :∀{xs}{us},Reps K F xs us->∀k,Reps K F (xs.eraseIdx k) (us.eraseIdx k)
 | [],us,r,k=>by
  have e:us=[]:=by simpa only[Reps]using r
  simp_all
 |x::xs,us,r,0=>by
  obtain⟨v,t,rfl,h1,h2⟩:=r;simpa using h2
 |x::xs,us,r,k+1=>by
  obtain⟨v,t,rfl,h1,h2⟩:=r;simpa using Reps.cons h1 (rR h2 k)
def zj:MtM X "list.pop" rPopAt:=by
 intro pins s σ H x vs v us Q I rx rv h;refine ax λZq kq=>?_
 obtain⟨l,xs,k,w,rfl,rfl,hH,h0,hk,hz,q⟩:=h;cases rx;obtain⟨J,rfl,U⟩:∃J,us=[J]/\aF (.int k) J:=by
  cases rv with
  |cons U r2 =>
   cases r2;exact⟨_,rfl,U⟩
 obtain⟨t,rfl⟩:=U;obtain⟨z,its,n,r,hl,e⟩:=I.lstM hH;have a6:(10000:Nat)<=sizeLine:=by decide
 obtain⟨y,hy,ry⟩:=aI.get r hk;have a8:=(IA.mp hy).1;have ff:Builtin.List.listFitsIndex k=true:=fitsIndex_both (by omega) (by omega);have Y:its.toArray.size<=sizeLine:=by rw[tr];omega
 have Z:seqIndex? k its.toArray.size=some k.toNat:=by
  have h1:¬ k<0:=by omega
  have h2:k<(its.length:Int):=by omega
  simp[seqIndex?,h1,h2,h0]
 have M:=PySem.MeetsSeq.list_pop_at l its.toArray n k t k.toNat y ff Z (by simpa using hy) Y;have ar:=PySem.F.args_list_pop_2 (.ref l) (.int k t);refine kq ?_;refine Lk PySem.F.slot_list_pop ⟨_,e,rfl⟩ PySem.F.entry_list_pop ar M ⟨e,?_⟩;refine⟨w,_,I.lset (its':=its.eraseIdx k.toNat) hH e ?_ ?_ ?_,ry,q⟩
 .simp_all
 .rw[KN,KN];exact(r.take k.toNat).append (r.drop _)
 .grind
def By(hk:PE X a (tE X.K cal ke))(hn:aS X.N X.env.scope i x=true)(z:ah a=true)(J:(apos.endLine==cpos.line)=true) :
  PS X (.Expr (.Call (.Attribute (.Name x p) "pop" apos) [a] [] cpos) pos) (tS X.K cal (.popAt i ke)):=by
 refine(lM (uN PySem.F.plainAttrs_list PySem.F.slot_list_pop PySem.F.type_list_pop zj (bY hn) (aM hk bJ (aU z _ _)) rfl (by rw[aU z];rfl) J (aU z _ _) rfl) rfl).imp λD σ H q=>?_
 obtain⟨B,E,O,W,st,q⟩:=q;obtain⟨kv,e0,q⟩:=cg q;cases U:(W[i]?).join with
 |none=>rw[U]at q;exact(show False from q).elim
 |some m =>
  rw[U]at q;cases m with
  |own xs =>
   cases kv with
   |int j =>
    dsimp only at q;split at q
    .rename_i hl;obtain⟨u,eu,b,us,rfl,ha,Y,hO,hB⟩:=aT st U;obtain⟨w,hw⟩:∃w,us[j.toNat]?=some w:=⟨_,IJ (by rw[<- Y.length];omega)⟩;refine⟨_,eu,.inl ⟨rfl,us,SqL.of ha⟩,B,E,O,W,.int j,st,e0,λu1 H1 Z g1=>⟨b,us,j,w,rfl,?_,Z _ _ ha,hl.1,hw,?_,?_⟩⟩
     .rw[g1.1.int]
     .rw[<- Y.length];exact hl.2.2
     .have ao:=Reps.mono (ak Z) _ Y;obtain⟨ar,k'⟩:=(st.mono Z).change (join_some U) eu (rR ao _);exact q _ _ _ ar k'
    .exact(show False from q).elim
   | _=>exact(show False from q).elim
  | _=>exact(show False from q).elim
def zk(h:PE X v (tE X.K cal Y))(hn:aS X.N X.env.scope i x=true)(hb:aK Y=false)(hs:ah v=true)(z:(apos.endLine==cpos.line)=true) :
  PS X (.Expr (.Call (.Attribute (.Name x p) "append" apos) [v] [] cpos) pos) (tS X.K cal (.append i Y)):=by
 refine(lM (uN PySem.F.plainAttrs_list PySem.F.slot_list_append PySem.F.type_list_append kj (bY hn) (aM h bJ (aU hs _ _)) rfl (by rw[aU hs];rfl) z (aU hs _ _) rfl) rfl).imp λD σ H q=>?_
 obtain⟨B,E,O,W,st,q⟩:=q;obtain⟨w,e,q⟩:=cg q;cases J:(W[i]?).join with
 |none=>rw[J]at q;exact(show False from q).elim
 |some m =>
  rw[J]at q;cases m with
  |own xs =>
   dsimp only at q;split at q
   .rename_i hl;obtain⟨u,Z,a,us,rfl,ha,rs,hO,hB⟩:=aT st J;refine⟨_,Z,.inl ⟨rfl,us,SqL.of ha⟩,B,E,O,W,w,st,e,λu H1 s g=>⟨a,us,u,rfl,rfl,s _ _ ha,?_,?_⟩⟩
    .rw[<- rs.length];exact IF hl (by decide)
    .obtain⟨U,k'⟩:=(st.mono s).change (join_some J) Z ((Reps.mono (ak s) _ rs).snoc (g.2 hb));exact q _ _ _ U k'
   .exact(show False from q).elim
  | _=>exact(show False from q).elim
def zl(h:PE X v (tE X.K cal me))(hn:aS X.N X.env.scope i x=true)(hs:ah v=true)(z:(apos.endLine==cpos.line)=true) :
  PS X (.Expr (.Call (.Attribute (.Name x p) "extend" apos) [v] [] cpos) pos) (tS X.K cal (.extend i me)):=by
 refine(lM (uN PySem.F.plainAttrs_list PySem.F.slot_list_extend PySem.F.type_list_extend t4 (bY hn) (aM h bJ (aU hs _ _)) rfl (by rw[aU hs];rfl) z (aU hs _ _) rfl) rfl).imp λD σ H q=>?_
 refine ax λZq Y=>?_
 obtain⟨B,E,O,W,st,q⟩:=q;rw[ex]at q;obtain⟨w,e,q⟩:=cg q;refine Y ?_;cases U:(W[i]?).join with
 |none=>rw[U]at q;exact(show False from q).elim
 |some m =>
  rw[U]at q;cases m with
  |own xs =>
   cases hw:aX w with
   |none=>rw[hw]at q;exact(show False from q).elim
   |some ys =>
    rw[hw]at q;dsimp only at q;split at q
    .refine ax λZq Y=>?_
     rename_i hl;obtain⟨u,eu,a,us,rfl,ha,rs,hO,hB⟩:=aT st U;refine Y ?_;refine⟨_,eu,.inl ⟨rfl,us,SqL.of ha⟩,B,E,O,W,w,st,e,λu H1 s g=>?_⟩;obtain⟨b,ws,rfl,sq,J⟩:=g.1.seq hw;refine⟨a,b,us,ws,rfl,rfl,s _ _ ha,sq,?_,?_⟩
     .rw[<- rs.length,<- J.length];exact dh hl
     .obtain⟨Z,k'⟩:=(st.mono s).change (join_some U) eu ((Reps.mono (ak s) _ rs).append J);exact q _ _ _ Z k'
    .exact(show False from q).elim
  | _=>exact(show False from q).elim
def zm{v s:Expr}(hk:PE X s (tE X.K cal mk))(h:PE X v (tE X.K cal me))(hn:aS X.N X.env.scope i x=true)(hb:aK me=false)(hc:br v=true)(Y:bv s=true) :
  PS X (.Assign [.Subscript (.Name x p) s ar] v pos) (tS X.K cal (.setIdx i mk me)):=by
 refine(CT h (CS (bY hn) hk set_list (by intro v';cases s<;>first|rfl|(simp[bv]at Y))) (by cases v<;>first|rfl|(simp[br]at hc)) (by cases v<;>rfl) rfl).imp λD σ H q=>?_
 obtain⟨B,E,O,W,st,q⟩:=q;rw[ex]at q;obtain⟨w,e,q⟩:=cg q;obtain⟨kv,ek,q⟩:=cg q;cases z:(W[i]?).join with
 |none=>rw[z]at q;exact(show False from q).elim
 |some m =>
  rw[z]at q;cases m with
  |own xs =>
   cases kv with
   |int kk =>
    dsimp only at q;split at q
    .rename_i j hp;obtain⟨u,eu,a,us,rfl,ha,rs,hO,hB⟩:=aT st z;refine⟨B,E,O,W,w,st,e,λu H1 J g=>⟨_,eu,B,E,O,W,_,st.mono J,ek,λuk H2 U g2=>⟨a,us,kk,j,rfl,g2.1.int,U _ _ (J _ _ ha),?_,?_⟩⟩⟩
     .rw[<- rs.length,<- mY];exact hp
     .obtain⟨Z,k'⟩:=((st.mono J).mono U).change (us:=us.set j u) (ys:=xs.set j w) (join_some z) eu ((Reps.mono (ak (J.trans U)) _ rs).set j (Rep.mono (ak U) _ (g.2 hb)));exact q _ _ _ Z k'
    .exact(show False from q).elim
   | _=>exact(show False from q).elim
  | _=>exact(show False from q).elim
def Ek(d:Df X)(hi:X.N[i]?=some x)(hx:Loc X.env.scope x):PS X (.Assign [.Name x px] (.Dict [] [] dp) pos) (tS X.K cal (.newD m i)):=by
 cases m with
 |false =>
  refine PS.imp' (kd d.nd hi hx xQ (dD rfl _ _ _) (.inl (d.fn x))) λD σ H Y q=>?_
  obtain⟨B,E,O,W,st,q⟩:=q;intro p U;obtain⟨J,Z⟩:=st.storeM (mm:=.ownD _) (ltN hi Y) (aE U _) U (by rw[aC];simp) rfl (λ_ z=>by cases z) λhB=>⟨p,rfl,aC,JC,hB⟩
  exact q _ _ _ J Z
 |true =>
  refine PS.imp' (kd d.nd hi hx xR (dD rfl _ _ _) (.inl (d.fn x))) λD σ H Y q=>?_
  obtain⟨B,E,O,W,st,q⟩:=q;intro p U;obtain⟨J,Z⟩:=st.storeM (mm:=.ownD _) (ltN hi Y) (aE U _) U (by rw[aC];simp) rfl (λ_ z=>by cases z) λhB=>⟨p,rfl,aC,JC,hB⟩
  exact q _ _ _ J Z
def El(g0:Gf X T k cal)(hk:PE X s (tE X.K cal mk))(h:PE X v (tE X.K cal me))(hn:aS X.N X.env.scope i x=true)(hc:br v=true) :
  PS X (.Assign [.Subscript (.Name x p) s a1] v pos) (tS X.K cal (.dput i mk me)):=by
 have hu:X.A.units+1<cLine:=by have:=g0.units;omega
 refine(AN hu (bY hn) hk h (by cases v<;>first|rfl|(simp[br]at hc))).imp λD σ H q=>?_
 obtain⟨B,E,O,W,st,q⟩:=q;rw[ex]at q;obtain⟨w,e,q⟩:=cg q;obtain⟨kv,ek,q⟩:=cg q;cases U:(W[i]?).join with
 |none=>rw[U]at q;exact(show False from q).elim
 |some m =>
  rw[U]at q;cases m with
  |ownD d =>
   cases hz:sc? w with
   |none=>rw[hz]at q;exact(show False from q).elim
   |some sz =>
    rw[hz]at q;dsimp only at q;cases hd:oj d kv sz with
    |none=>rw[hd]at q;exact(show False from q).elim
    |some d' =>
     rw[hd]at q;obtain⟨u,Y,a,rfl,ha,hO,hB⟩:=aT st U;refine⟨B,E,O,W,w,st,e,λu H1 z g1=>⟨_,Y,B,E,O,W,_,st.mono z,ek,λuk H2 Z g2=>?_⟩⟩;refine⟨a,_,rfl,by rw[tZ hz g1.1];exact vn hd (Z _ _ (z _ _ (ha.put1 hd))) g2.1,?_⟩;obtain⟨J,k'⟩:=((st.mono z).mono Z).changeD (ys:=d') (join_some U) Y λ_=>.put2 hd aC
     exact q _ _ _ J k'
  |mutD d =>
   cases hz:sc? w with
   |none=>rw[hz]at q;exact(show False from q).elim
   |some sz =>
    rw[hz]at q;dsimp only at q;cases hd:oj d kv sz with
    |none=>rw[hd]at q;exact(show False from q).elim
    |some d' =>
     rw[hd]at q;obtain⟨u,Y,a,rfl,ha,hO,hB⟩:=aT st U;refine⟨B,E,O,W,w,st,e,λu H1 z g1=>⟨_,Y,B,E,O,W,_,st.mono z,ek,λuk H2 Z g2=>?_⟩⟩;refine⟨a,_,rfl,by rw[tZ hz g1.1];exact vn hd (Z _ _ (z _ _ (ha.put1 hd))) g2.1,?_⟩;obtain⟨J,k'⟩:=((st.mono z).mono Z).changeU (ys:=d') (join_some U) Y λ_=>.put2 hd aC
     exact q _ _ _ J k'
  | _=>exact(show False from q).elim
def GP(h:PE X v (tE X.K cal J))(z:aK J=false):PS X (.Return (some v) pos) (tS X.K cal (.ret J)):=by
 refine(pE h).imp λD σ H q=>?_
 obtain⟨B,E,O,W,st,q⟩:=q;obtain⟨w,e,q⟩:=cg q;exact⟨B,E,O,W,w,st,e,λu H' s g=>q u H' (st.keep.trans s) (Rep.mono (ce (aj.refl H') λb z=>.inl (st.sub b z)) _ (g.2 z))⟩
def Em(h:PE X v (tE X.K cal z))(J:aK z=false):PS X (.Return (some v) pos) (tS X.K cal (.retM z)):=by
 refine(pE h).imp λD σ H q=>?_
 obtain⟨B,E,O,W,st,q⟩:=q;obtain⟨w,e,q⟩:=cg q;exact⟨B,E,O,W,w,st,e,λu H' s g=>q u σ H' O (st.mono s) .refl (g.2 J)⟩
def zn(hn:aS X.N X.env.scope i x=true):PS X (.Return (some (.Name x p)) pos) (tS X.K cal (.retOwn i)):=by
 refine(pE (bY hn)).imp λD σ H q=>?_
 obtain⟨B,E,O,W,st,q⟩:=q;rw[ex]at q;have J:=ce (aj.refl H) λb hb=>.inl (st.sub b hb)
 cases U:(W[i]?).join with
 |none=>rw[U]at q;exact(show False from q).elim
 |some m =>
  rw[U]at q;cases m with
  |val v =>
   obtain⟨u,Y,so⟩:=aT st U;exact⟨_,Y,q _ H st.keep (Rep.mono J _ so)⟩
  |own xs =>
   obtain⟨u,Y,a,us,rfl,Z,rs,hO,hB⟩:=aT st U;refine⟨_,Y,q _ H st.keep ?_⟩;rw[Rep];refine⟨a,us,rfl,SqL.of ?_,Reps.mono J _ rs⟩;rw[ba λz=>st.old a z hB];exact Z
  |ownD kvs =>
   dsimp only at q;split at q
   .rename_i np;obtain⟨u,Y,a,rfl,Z,hO,hB⟩:=aT st U;refine⟨_,Y,q _ H st.keep ?_⟩;rw[Rep];refine⟨a,rfl,.inl ?_,np⟩;rw[ba λz=>st.old a z hB];exact Z.np np
   .exact(show False from q).elim
  | _=>exact(show False from q).elim
def Ie(hc:PT X t (tT X.K cal c))(z:PSs X x (tSs X.K cal a))(J:PSs X y (tSs X.K cal b)):PS X (.If t x y pos) (tS X.K cal (.ite c a b)):=by
 refine(FH hc z J).imp λD σ H q=>?_
 obtain⟨B,E,O,W,st,q⟩:=q;obtain⟨w,e,q⟩:=wK q;refine⟨B,E,O,W,w,st,e,λH' s=>?_⟩;cases w<;>first|(rw[if_pos rfl]at q ⊢;exact⟨B,E,O,W,st.mono s,q⟩)|(rw[if_neg (by simp)]at q ⊢;exact⟨B,E,O,W,st.mono s,q⟩)
def Eo{st:Stmt}(h1:PS X st (tS X.K cal m))(h2:PSs X ss (tSs X.K cal ms)):PSs X (st::ss) (tSs X.K cal (m::ms)):=by
 refine(xu h1 h2).imp λD σ H q=>?_
 obtain⟨B,E,O,W,st,q⟩:=q;refine⟨B,E,O,W,st,?_⟩;rw[exs]at q;cases e:ex cal m W with
 |next l=>rw[e]at q;exact λF H' J z k=>⟨B,E,J,l,z,gm.trans q k⟩
 | _=>rw[e]at q;exact q
def GQ:PSs X [] (tSs X.K cal []):=by
 refine At.imp λD σ H q=>?_
 obtain⟨B,E,O,W,st,q⟩:=q;exact q σ H O st .refl
end
inductive cH(σ:St)(W:Rho):List Bool->List ME->List MV->List V->List Addr->List Nat->Prop where
 | nil:cH σ W [] [] [] [] [] []
 | mutd {i:Nat}{d:DD}{a:Addr}{bs:List Bool}{es:List ME}{as:List MV}{vs:List V}{ms:List Addr}{is:List Nat} (hd:gi (W[i]?).join=some d) (hσ:σ[i]?=some (some (.ref a))) (hi:i∉is) (ha:a∉ms) (t:cH σ W bs es as vs ms is):cH σ W (true::bs) (.bor i::es) (.mutD d::as) (.ref a::vs) (a::ms) (i::is)
 | other {e:ME}{m:MV}{v:V}{bs:List Bool}{es:List ME}{as:List MV}{vs:List V}{ms:List Addr}{is:List Nat} (hm:∀d,m≠.mutD d) (t:cH σ W bs es as vs ms is):cH σ W (false::bs) (e::es) (m::as) (v::vs) ms is
def eZ(h:gi o=some d):o=some (.ownD d)\/o=some (.mutD d):=by
 match o,h with
 |some (.ownD _),rfl=>exact .inl rfl
 |some (.mutD _),rfl=>exact .inr rfl
section
variable{σ:St}{W:Rho}{bs:List Bool}{es:List ME}{as:List MV}{vs:List V}{ms:List Addr}{is:List Nat}
def cH.addr(h:cH σ W bs es as vs ms is):∀a∈ms,∃j∈is,σ[j]?=some (some (.ref a))/\∃d,gi (W[j]?).join=some d:=by
 induction h with
 |nil=>intro a U;cases U
 |mutd hd z hi U t ih =>
  intro b J;rcases IB.mp J with rfl|J
  .exact⟨_,.head _,z,_,hd⟩
  .obtain⟨j,h1,h2⟩:=ih b J;exact⟨j,.tail _ h1,h2⟩
 |other hm t ih=>exact ih
theorem cH.put(h:cH σ W bs es as vs ms is)(hi:i∉is):cH σ (fj W i d) bs es as vs ms is:=by
 induction h with
 |nil=>exact .nil
 |mutd hd J U Z t ih =>
  rename_i j _ _ _ _ _ _ _ is;refine .mutd ?_ J U Z (ih λz=>hi (.tail _ z));have Y:i≠j:=λz=>hi (z ▸ .head _)
  have:(fj W i d)[j]?=W[j]?:=by
   unfold fj;split<;>exact IX Y
  rw[this];exact hd
 |other hm t ih=>exact .other hm (ih hi)
theorem cH.at{K:L8}(st:aH K B E O H W σ)(h:cH σ W bs es as vs ms is):∃ds,cG K O H as vs ds ms:=by
 induction h with
 |nil=>exact⟨[],.nil⟩
 |mutd hd z hi Y t ih =>
  obtain⟨ds,q⟩:=ih;rename_i i d a bs es as vs ms is;refine⟨.dI d::ds,.mutd ?_ Y q⟩;rcases eZ hd with e|e
  .obtain⟨u,J,Z,U,h1,_⟩:=st.slot _ _ (join_some e);rw[z]at J;cases J;cases U;exact h1
  .obtain⟨u,J,Z,U,h1,_⟩:=st.slot _ _ (join_some e);rw[z]at J;cases J;cases U;exact h1
 |other hm t ih =>
  obtain⟨ds,q⟩:=ih;exact⟨ds,.other hm q⟩
theorem cH.inO{K:L8}(st:aH K B E O H W σ)(h:cH σ W bs es as vs ms is):∀a∈ms,a∈O:=λa U=>by
 obtain⟨j,_,J,d,Y⟩:=h.addr a U;rcases eZ Y with e|e
 .obtain⟨u,z,Z,rfl,_,h2,_⟩:=aT st e;rw[J]at z;cases z;exact h2
 .obtain⟨u,z,Z,rfl,_,h2,_⟩:=aT st e;rw[J]at z;cases z;exact h2
theorem m9{K:L8} :∀{bs}{es}{as}{vs}{ms}{is}{W l}{H}{ds},cH σ W bs es as vs ms is->aH K B E O H W σ->(∀b,b∉ms->H b=H' b)->cG K O H' as vs ds ms->jI bs es ds W=some l->aH K B E O H' l σ/\bp B O O W l σ σ
 | _,_,_,_,_,_,W,l,H,ds,.nil,st,U,hm,e=>by
  cases hm;rw[jI]at e;cases e;have hh:=funext λb=>U b λz=>nomatch z
  subst hh;exact⟨st,.refl⟩
 | _,_,_,_,_,_,W,l,H,ds,.other hn t,st,U,hm,e=>by
  cases hm with
  |mutd=>exact absurd rfl (hn _)
  |other _ hm =>
   rw[jI]at e;exact m9 t st U hm e
 | _,_,_,_,_,_,W,l,H,ds,.mutd (i:=i) (a:=a) hd J hi ha t,st,U,hm,e=>by
  cases hm with
  |other h0=>exact absurd rfl (h0 _)
  |mutd h1 h2 hm =>
   rename_i d' ds;rw[jI]at e;obtain⟨o,ho⟩:=h1.here;have inO:=t.inO st;have aO:=(cH.mutd hd J hi ha t).inO st a (.head _);have dd:DAt K (upd H a o) O a d':=h1.move (λu eu=>by rw[ho]at eu;cases eu;exact aC) λb u Z=>by
    have Y:b∉O:=λz=>by rw[eG z]at Z;cases Z
    rw[ba Y]at Z ⊢;have ne:b≠a:=λz=>Y (by rw[z];exact aO)
    rw[aZ ne,U b λw=>(IB.mp w).elim ne λz=>Y (inO b z)];exact Z
   have key:aH K B E O (upd H a o) (fj W i d') σ/\bp B O O W (fj W i d') σ σ:=by
    rcases eZ hd with q|q
    .have e1:fj W i d'=put W i (.ownD d'):=by unfold fj;rw[q];rfl
     rw[e1];exact st.changeD (join_some q) J λ_=>dd
    .have e1:fj W i d'=put W i (.mutD d'):=by unfold fj;rw[q];rfl
     rw[e1];exact st.changeU (join_some q) J λ_=>dd
   obtain⟨ar,k1⟩:=key;obtain⟨a0,k2⟩:=m9 (t.put hi) ar (λb Y=>by
    by_cases z:b=a
    .simp_all
    .rw[aZ z];exact U b λw=>(IB.mp w).elim z Y) hm e
   exact⟨a0,k1.trans k2⟩
def vv{K:L8}(U:cH σ W bs es as vs ms is)(st:aH K B E O H W σ)(Y:∀b o,b∉ms->H b=some o->H' b=some o)(Z:cG K O H' as vs ds ms)(e:jI bs es ds W=some l):aH K B E O H' l σ/\bp B O O W l σ σ:=
 m9 U (st.mono (H':=λb=>if b∈ms then H b else H' b) λb o J=>by
  by_cases z:b∈ms
  .exact(if_pos z).trans J
  .exact(if_neg z).trans (Y b o z J)) (λb hb=>if_neg hb) Z e
end
noncomputable def tAM(K:L8)(cal:Cal)(mask:List Bool)(ms:List ME):TA:=λσ H Q=>∃B E O W vs,aH K B E O H W σ/\evM cal mask ms W=some vs/\∀us H' as,aj H H'->Paired (DX K O H') vs us->cH σ W mask ms vs us as (eX mask ms)->Q us H'
section
variable{X:Cx}{T:Tab}{k:Nat}{cal:Cal}
def wL:PA X [] (tAM X.K cal [] []):=by
 refine bJ.imp λσ H Q q=>?_
 obtain⟨B,E,O,W,vs,st,z,q⟩:=q;cases z;exact q [] H [] (aj.refl H) .nil .nil
def zo(h:aS X.N X.env.scope i x=true)(hi:i∉eX bs ms)(hs:PA X es (tAM X.K cal bs ms)):PA X (.Name x pos::es) (tAM X.K cal (true::bs) (.bor i::ms)):=by
 refine(aM (bY h) hs rfl).imp λσ H Q q=>?_
 refine ax λZq kq=>?_
 obtain⟨B,E,O,W,vs,st,U,q⟩:=q;rw[evM]at U;simp[gf,ti]at U;obtain⟨d,U,ws,e2,rfl⟩:=U;obtain⟨m,hj,om,so⟩:∃m,(W[i]?).join=some m/\ix m=true/\∃a,σ[i]?=some (some (.ref a))/\DAt X.K H O a d/\a∈O:=by
  rcases eZ U with e|e
  .obtain⟨u,J,a,rfl,h1,h2,_⟩:=aT st e;exact⟨_,e,rfl,a,J,h1,h2⟩
  .obtain⟨u,J,a,rfl,h1,h2,_⟩:=aT st e;exact⟨_,e,rfl,a,J,h1,h2⟩
 obtain⟨a,J,h1,h2⟩:=so;refine kq ?_;refine⟨_,J,B,E,O,W,ws,st,e2,λus H2 as Z g2 ma=>q _ H2 _ Z (.cons ⟨a,rfl,h1.move (Z _) (ak Z),h2⟩ g2) (.mutd U J hi (λz=>?_) ma)⟩;obtain⟨j,ao,ej,d2,ar⟩:=ma.addr a z;have Y:i≠j:=λw=>hi (w▸ao)
 rcases eZ ar with e|e
 .exact st.apart i j m _ a Y (join_some hj) (join_some e) om rfl J ej
 .exact st.apart i j m _ a Y (join_some hj) (join_some e) om rfl J ej
def t5(Y:aK m=false)(h:PE X e (tE X.K cal m))(hs:PA X es (tAM X.K cal bs ms))(hn:ah e=true):PA X (e::es) (tAM X.K cal (false::bs) (m::ms)):=by
 refine(aM h hs (aU hn es _)).imp λσ H Q q=>?_
 obtain⟨B,E,O,W,vs,st,J,q⟩:=q;rw[evM,gf]at J;obtain⟨a,e0,J⟩:=J;have U:(ev cal m W).bind (λv=>some [MV.val v])=some a:=by
  rw[<- e0];cases m<;>first|(cases Y;done)|(simp only[evA];rfl)
 rw[gf]at U;obtain⟨v,e9,e8⟩:=U;cases e8;rw[ti]at J;obtain⟨ws,e2,rfl⟩:=J;exact⟨B,E,O,W,v,st,e9,λu H1 Z g1=>⟨B,E,O,W,ws,st.mono Z,e2,λus H2 as s2 g2 ma=>q _ H2 as (Z.trans s2) (.cons (show Rep X.K _ v u from(g1.mono s2).2 Y) g2) (.other (λ_ z=>by cases z) ma)⟩⟩
def wM(h:aS X.N X.env.scope i x=true)(hs:PA X es (tAM X.K cal bs ms)):PA X (.Name x pos::es) (tAM X.K cal (false::bs) (.bor i::ms)):=by
 refine(aM (bY h) hs rfl).imp λσ H Q q=>?_
 obtain⟨B,E,O,W,vs,st,J,q⟩:=q;rw[evM,gf]at J;obtain⟨a,U,J⟩:=J;rw[evA,evA]at U;cases Y:(W[i]?).join with
 |none=>rw[Y]at U;cases U
 |some m =>
  rw[Y]at U;obtain⟨u,eu,so⟩:=aT st Y;cases m with
  |val w =>
   cases U;dsimp only at J;rw[ti]at J;obtain⟨ws,e2,rfl⟩:=J;exact⟨u,eu,⟨B,E,O,W,ws,st,e2,λus H2 as Z g2 ma=>q (u::us) H2 as Z (.cons (show Rep X.K (az H2 O) w u from Rep.mono (ak Z) _ so) g2) (.other (λ_ z=>by cases z) ma)⟩⟩
  | _=>cases U;cases J
theorem qe(g:Gf X T k cal):∀bs ms es,chks T ms X.N X.env.scope es=true->jo bs ms=true->(eX bs ms).Nodup->PA X es (tAM X.K cal bs ms)
 | [],[],es,h,_,_=>by
  cases es<;>first|exact wL|simp[chks]at h
 | [],_::_,_,_,h2,_=>by cases h2
 |true::_,[],_,_,h2,_=>by cases h2
 |false::_,[],_,_,h2,_=>by cases h2
 |b::bs,m::ms,es,h,h2,U=>by
  cases es with
  |nil=>simp[chks]at h
  |cons e es =>
   simp[chks,pb]at h;cases b with
   |true =>
    have z:(aK m&&jo bs ms)=true:=h2;rw[pb]at z;have J:=z.1;obtain⟨i,rfl⟩:=mS J;obtain⟨x,p,rfl,h1⟩:=jJ h.1.1;obtain⟨Y,Z⟩:=Jl.mp (show(_::eX bs ms).Nodup from U);exact zo h1 Y (qe g bs ms es h.2 z.2 Z)
   |false =>
    have hs:=qe g bs ms es h.2 (show jo bs ms=true from h2) (show(eX bs ms).Nodup from U);cases J:aK m with
    |false=>exact t5 J (av m g h.1.1).1 hs h.1.2
    |true =>
     obtain⟨i,rfl⟩:=mS J;obtain⟨x,p,rfl,h1⟩:=jJ h.1.1;exact wM h1 hs
end
def wN(h:rg cal f mask ms W=some (v,l)):∃ds,((evM cal mask ms W).bind λvs=>cal (f+2000) vs)=some (.tup (v::ds))/\jI mask ms ds W=some l:=by
 unfold rg at h;split at h
 .rename_i v ds e
  simp_all
 .cases h
section
variable{X:Cx}{T:Tab}{k:Nat}{cal:Cal}
noncomputable def tMr(K:L8)(cal:Cal)(f:Nat)(mask:List Bool)(ms:List ME):TE:=λσ H Q=>∃B E O W vs v ds,aH K B E O H W σ/\evM cal mask ms W=some vs/\cal (f+2000) vs=some (.tup (v::ds)) /\
 ∀u us as H1 H',aj H H1->cH σ W mask ms vs us as (eX mask ms)->(∀b o,b∉as->H1 b=some o->H' b=some o)->cG K O H' vs us ds as->Rep K (az H' O) v u->Q u H'
def vz(g:Gf X T k cal)(Z:T.fs[f]?=some x)(hg:glB X.env.scope x=true)(hn:aq x=true)(ha:PA X (e::es) (tAM X.K cal mask ms))(hs:(e::es).all ah=true):PE X (.Call (.Name x p) (e::es) [] pos) (tMr X.K cal f mask ms):=by
 obtain⟨fa,fd,ps,h1,h2,h3,F⟩:=g.fnsD f x Z;simp only[all_cons,pb]at hs;refine(lO F g.room (dv hg) h1 h2 h3 .nil qN ha (gN hn).1 (aU hs.1 es _) (b7 hs.2)).imp λσ H Q q=>?_
 obtain⟨B,E,O,W,vs,v,ds,st,e1,e3,q⟩:=q;refine⟨B,E,O,W,vs,st,e1,λus H1 as J g1 Y=>?_⟩;show spD X.K cal f (us++[]) H1 Q E0;rw[JD];obtain⟨z,U⟩:=Y.at (st.mono J);exact⟨O,vs,v,ds,z,as,bB J st.here,g1,U,e3,λu H' hk hm ru=>q u us as H1 H' J Y hk hm ru⟩
end
def cG.mono{K:L8}(h:cG K O H args vs ds ms)(s:∀a∈ms,∀o,H a=some o->H' a=some o)(v:aj (az H O) (az H' z)):cG K z H' args vs ds ms:=by
 induction h with
 |nil=>exact .nil
 |mutd h J t ih=>exact .mutd (h.move (s _ (.head _)) v) J (ih λa U=>s a (.tail _ U))
 |other h t ih=>exact .other h (ih s)
def cG.here{K:L8}(h:cG K O H args vs ds ms):∀a∈ms,H a≠none:=by
 induction h with
 |nil=>intro a z;cases z
 |mutd h J t ih =>
  simp_all
 |other h t ih=>exact ih
theorem cH.own{K:L8}(st:aH K B E O H W σ)(h:cH σ W bs es as vs ms is):∀a∈ms,a∈O/\B a=none/\∃o,H a=some o:=λa Y=>by
 obtain⟨j,_,U,d,Z⟩:=h.addr a Y;rcases eZ Z with e|e
 .obtain⟨u,z,a',rfl,h1,h2,J⟩:=aT st e;rw[U]at z;cases z;exact⟨h2,J,h1.here⟩
 .obtain⟨u,z,a',rfl,h1,h2,J⟩:=aT st e;rw[U]at z;cases z;exact⟨h2,J,h1.here⟩
def iP{O as:List Addr}(h:∀a∈as,a∈O)(U:∀b o,b∉as->H1 b=some o->H' b=some o):aj (az H1 O) (az H' O):=λb o e=>by
 have J:b∉O:=λz=>by rw[eG z]at e;cases e
 rw[ba J]at e ⊢;exact U b o (λz=>J (h b z)) e
section
variable{X:Cx}{T:Tab}{k:Nat}{cal:Cal}
noncomputable def tSr(K:L8)(cal:Cal)(j:SK)(e:ME)(f:Nat)(mask:List Bool)(ms:List ME):TE:=λσ H Q=>∃B E O W w vs v ds r,aH K B E O H W σ/\ev cal e W=some w/\evM cal mask ms W=some vs/\cal (f+2000) vs=some (.tup (v::ds))/\Cg j w v=some r /\
 ∀u us as H1 H',aj H H1->cH σ W mask ms vs us as (eX mask ms)->(∀b o,b∉as->H1 b=some o->H' b=some o)->cG K O H' vs us ds as->Rep K (az H' O) r u->Q u H'
def o8{K:L8}(st:aH K B E O H W σ)(J:aj H H1)(U:∀b o,b∉as->H1 b=some o->H' b=some o)(Y:cG K O H' args vs ds as):∀a∈O,H' a≠none:=λa Z=>by
 by_cases z:a∈as
 .exact Y.here a z
 .cases e:H1 a with
  |none=>exact absurd (J.free e) (st.here a Z)
  |some o=>rw[U a o z e];simp
def GR(h:PE X c (tMr X.K cal f mask ms)):PE X c (tSr X.K cal .one (.cst .non) f mask ms):=by
 refine h.imp λσ H Q q=>?_
 obtain⟨B,E,O,W,w,vs,v,ds,r,st,Y,z,J,U,q⟩:=q;cases U;exact⟨B,E,O,W,vs,v,ds,st,z,J,q⟩
def Ep(J:aK e=false)(ha:PE X l (tE X.K cal e))(h:PE X c (tMr X.K cal f mask ms)):PE X (.BinOp l .Add c pos) (tSr X.K cal .cat e f mask ms):=by
 refine(uH (tO .add) ha h).imp λσ H Q q=>?_
 refine ax λZq kq=>?_
 obtain⟨B,E,O,W,w,vs,v,ds,r,st,e1,e2,e3,e4,q⟩:=q;refine kq ?_;refine⟨B,E,O,W,w,st,e1,λux H1 z g1=>⟨B,E,O,W,vs,v,ds,st.mono z,e2,e3,λuy us as H2 H' U ma Y hm ry=>?_⟩⟩;have own:=ma.own (st.mono z);have rx:=Rep.mono ((ak U).trans (iP (λa h=>(own a h).1) Y)) _ (g1.2 J);exact⟨O,w,v,r,o8 (st.mono z) U Y hm,.inl rx,.inl ry,e4,λu H3 Z ru=>q u us as H2 H3 (z.trans U) ma (λb o J eb=>Z b o (Y b o J eb)) (hm.mono (λa _ o e=>Z a o e) (ak Z)) ru⟩
def Bz(J:aK e=false)(hl:ah l=true)(hc:ah c=true)(ha:PE X l (tE X.K cal e))(h:PE X c (tMr X.K cal f mask ms)):PE X (.Tuple [l,c] j pos) (tSr X.K cal .pair e f mask ms):=by
 refine(sL (aM ha (aM h bJ (aU hc _ _)) (aU hl _ _))).imp λσ H Q q=>?_
 refine ax λZq kq=>?_
 obtain⟨B,E,O,W,w,vs,v,ds,r,st,e1,e2,e3,e4,q⟩:=q;cases e4;refine kq ?_;refine⟨B,E,O,W,w,st,e1,λux H1 z g1=>⟨B,E,O,W,vs,v,ds,st.mono z,e2,e3,λuy us as H2 H' U ma Y hm ry=>⟨dh (show 2<=10000 by decide),λp hp=>?_⟩⟩⟩;have own:=ma.own (st.mono z);have rx:=Rep.mono ((ak U).trans (iP (λa h=>(own a h).1) Y)) _ (g1.2 J);have Z:aj H' (upd H' p (.tup [ux,uy])):=aE hp _;exact q _ us as H2 _ (z.trans U) ma (λb o J eb=>Z b o (Y b o J eb)) (hm.mono (λa _ o e=>Z a o e) (ak Z)) (gk (o8 (st.mono z) U Y hm) hp (.cons rx (.cons ry .nil)))
def Er(g:Gf X T k cal)(h:yL T j e f mask ms X.N X.env.scope v=true):PE X v (tSr X.K cal j e f mask ms):=by
 have call:∀c,fE T f mask ms X.N X.env.scope c=true->PE X c (tMr X.K cal f mask ms)/\ah c=true:=λc hc=>by
  obtain⟨y,p,args,cp,rfl,z⟩:=mT hc;simp only[pb,IE,Jq,IM]at z;obtain⟨⟨⟨⟨⟨⟨U,Y⟩,Z⟩,J⟩,q5⟩,q6⟩,q7⟩:=z;cases args with
  |nil=>cases q7
  |cons a args=>exact⟨vz g U Y Z (qe g mask ms (a::args) J q5 q6) (bM J).1,rfl⟩
 cases j with
 |one =>
  have h:(tL e&&fE T f mask ms X.N X.env.scope v)=true:=h;rw[pb]at h;have e0:e=.cst .non:=by
   have h1:=h.1;unfold tL at h1;split at h1
   .rfl
   .cases h1
  subst e0;exact GR (call v h.2).1
 |cat =>
  unfold yL at h;dsimp only at h;split at h
  .rename_i q z;obtain⟨pos,rfl⟩:=A_ z;simp only[pb,IM]at h;exact Ep h.1.2 (av e g h.1.1).1 (call _ h.2).1
  .cases h
 |pair =>
  unfold yL at h;dsimp only at h;split at h
  .rename_i q z;obtain⟨i,pos,rfl⟩:=Ba z;simp only[pb,IM]at h;exact Bz h.1.1.2 h.1.2 (call _ h.2).2 (av e g h.1.1.1).1 (call _ h.2).1
  .cases h
noncomputable def di(H:Hp)(D:Addr):Hp:=λb=>if b=D then none else H b
def jS(H)(D):aj (di H D) H:=λb o e=>by
 unfold di at e
 simp_all
def m_(h:b≠D):di H D b=H b:=if_neg h
def t6(s:aj H H'):aj (di H D) (di H' D):=λb o e=>by
 unfold di at e ⊢;split at e
 .cases e
 .rename_i z;rw[if_neg z];exact s b o e
def iQ :di (upd H D o) D=di H D:=by
 funext b
 unfold di;split
 .rfl
 .rename_i z;exact aZ z
def nc(h:H D=none):di H D=H:=by
 funext b
 unfold di
 simp_all
def wO(Z:js.Nodup)(ao:∀i J u,js[i]?=some J->ar[i+1]?=some (some u)->σ[J]?=some (some u))(h:cH ar (kC js W x) bs es as vs ms is) :
  ∃U,cH σ W bs (es.map (Dx js)) as vs ms U/\∀J∈U,∃i,i+1∈is/\js[i]?=some J:=by
 induction h with
 |nil=>exact⟨[],.nil,λJ h=>by cases h⟩
 |mutd hd hs hi ha t ih =>
  rename_i i d a bs es as vs ms is;obtain⟨U,m',h'⟩:=ih;cases i with
  |zero=>cases hd
  |succ i =>
   unfold kC at hd;rw[getElem?_cons_succ,IS]at hd;cases Y:js[i]? with
   |none=>rw[Y]at hd;cases hd
   |some J =>
    rw[Y]at hd;have e1:gi (W[J]?).join=some d:=by
     have hd:gi (A5 (W[J]?).join)=some d:=hd;cases hj:(W[J]?).join with
     |none=>rw[hj]at hd;cases hd
     |some m=>rw[hj]at hd;cases m<;>first|(cases hd;done)|exact hd
    have e2:js.getD i 0=J:=by rw[J1,Y];rfl
    refine⟨J::U,?_,λj2 h2=>?_⟩
    .rw[IG,show Dx js (.bor (i+1))=.bor J from by show ME.bor (if i+1=0 then 0 else js.getD (i+1-1) 0)=.bor J;rw[if_neg (by omega),JX,e2]];refine .mutd e1 (ao i J _ Y hs) (λz=>?_) ha m';obtain⟨i2,h3,h4⟩:=h' J z;have hl:=(IA.mp Y).1;have:=(getElem?_inj hl Z).mp (Y.trans h4.symm);exact hi (this▸h3)
    .rcases IB.mp h2 with rfl|h2
     .exact⟨i,.head _,Y⟩
     .obtain⟨i2,h3,h4⟩:=h' j2 h2;exact⟨i2,.tail _ h3,h4⟩
 |other hm t ih =>
  obtain⟨U,m',h'⟩:=ih;exact⟨U,.other hm m',h'⟩
def BA{K:L8}{σ F:St}(a4:js.Nodup)(st:aH K B E O H W σ)(s:aj H H2)(hG:aj G H2)(hB:aj B G)(hO:∀a∈O,B a=none->G a=none)(hD:H D=none)(a5:H2 D≠none)
  (a6:∀z,F.set 0 z=(fh js σ).set 0 z) (hx:Rep K (az H2 (D::O)) x ux):aH K G [] (D::O) H2 (kC js W x) (F.set 0 (some ux)):=by
 have hv:aj (az H O) (az H2 (D::O)):=ce s λb hb=>by
  rcases IB.mp hb with rfl|hb
  .exact .inr hD
  .exact .inl hb
 rw[a6];have get:∀i m,(kC js W x)[i+1]?=some (some m)->∃jj U u,js[i]?=some jj/\(W[jj]?).join=some U/\A5 (some U)=some m/\σ[jj]?=some (some u)/\eV K B O H U u/\((fh js σ).set 0 (some ux))[i+1]?=some (some u):=λi m e=>by
  simp only[kC,getElem?_cons_succ,IS,ti]at e;obtain⟨j,ej,e⟩:=e;cases hj:(W[j]?).join with
  |none=>rw[hj]at e;cases e
  |some mm =>
   rw[hj]at e;obtain⟨u,eu,Z⟩:=aT st hj;exact⟨j,mm,u,ej,hj,e,eu,Z,by simp[fh,ej,eu]⟩
 refine⟨hG,λa J=>?_,λa J=>by simp at J,λa J=>by simp at J,by simp[kC,fh],λi m e=>?_,λi i2 m m' a b2 e e' om ar es aO=>?_⟩
 .rcases IB.mp J with rfl|J
  .exact a5
  .exact λe=>st.here a J (s.free e)
 .cases i with
  |zero =>
   simp only[kC,getElem?_cons_zero,u0]at e;subst e;exact⟨ux,by simp[fh],hx⟩
  |succ i =>
   obtain⟨jj,U,u,ej,hj,e,eu,Z,b3⟩:=get i m e;refine⟨u,b3,?_⟩;cases U with
   |val w =>
    cases e;exact Rep.mono hv _ Z
   |own ys=>cases e
   |brw ys =>
    cases e;obtain⟨a,us,rfl,sq,rs⟩:=Z;exact⟨a,us,rfl,hB.seq sq,Reps.mono hv _ rs⟩
   |brwD kvs =>
    cases e;obtain⟨a,rfl,J⟩:=Z;exact⟨a,rfl,aj.rd hB J⟩
   | _ =>
    cases e;obtain⟨a,rfl,J,h1,h2⟩:=Z;exact⟨a,rfl,J.move (s _) hv,Js _ h1,hO a h1 h2⟩
 .have zero:∀m,(kC js W x)[0]?=some (some m)->ix m=true->False:=λm e o=>by
   simp only[kC,getElem?_cons_zero,u0]at e;subst e;cases o
  have Y:∀U m,A5 (some U)=some m->ix m=true->ix U=true:=λU m e o=>by
   cases U<;>first|rfl|(cases e;cases o;done)|(cases e;done)
  cases i with
  |zero=>exact zero m e om
  |succ i =>
   cases i2 with
   |zero=>exact zero m' e' ar
   |succ i2 =>
    obtain⟨j1,n1,u1,a0,b4,c1,b5,_,a1⟩:=get i m e;obtain⟨j2,n2,u2,cd,ck,c2,cl,_,a2⟩:=get i2 m' e';rw[a1]at es;rw[a2]at aO;cases es;cases aO;refine st.apart j1 j2 n1 n2 a (λz=>b2 ?_) (join_some b4) (join_some ck) (Y _ _ c1 om) (Y _ _ c2 ar) b5 cl;subst z;have hl:=(IA.mp a0).1;rw[(getElem?_inj hl a4).mp (a0.trans cd.symm)]
def rS{K:L8}{B H H1:Hp}{E O:List Addr}{W l:Rho}{σ:St}{J:It}{xs ws:List PV}{D:Addr}{Q:VK}(b3:js.Nodup)(st:aH K B E O H W σ)(s1:aj H H1)(a3:m3 K J xs (az H1 O) (bg B O H1 []))(dt:xs.length<=10000)
  (e3:dq cal js j e f mask ms xs W=some (ws,l)) (hD:H1 D=none) (q:∀H',aj (az H O) (az H' O)->aH K B E O H' l σ->bp B O O W l σ σ->Rep K (az H' O) (.lst ws) (.ref D)->Q (.ref D) H'):qY J (fh js σ) H1 (tT K cal (.cst (.bl true))) (tSr K cal j e f mask ms) D Q:=by
 have a4:D∉O:=λz=>bB s1 st.here D z hD
 have ar:=st.keep.trans s1;have gB:aj B (bg B O H1 []):=dW ar;have gO:∀a∈O,B a=none->bg B O H1 [] a=none:=λa ha Z=>by
  unfold bg;rw[if_pos ha,if_neg (λz=>nomatch z)];exact Z
 have gD:bg B O H1 [] D=none:=by
  unfold bg;rw[if_neg a4];exact hD
 refine⟨λi m F H'=>m=xs.length-i/\i<=xs.length/\(∀z,F.set 0 z=(fh js σ).set 0 z)/\0<F.length/\∃Y done bV ys,aH K B E O (di H' D) Y σ/\bp B O O W Y σ σ/\aj (bg B O H1 []) (di H' D)/\dq cal js j e f mask ms (xs.drop i) Y=some (bV,l)/\ws=done++bV/\done.length<=i/\H' D=some (.lst ys)/\Reps K (az H' (D::O)) done ys,⟨xs.length,by simp,Ji _,λ_=>rfl,by simp[fh],W,[],ws,[],?_,.refl,?_,by simpa using e3,rfl,pe _,aC,.nil⟩,?_⟩
 .rw[iQ,nc hD];exact st.mono s1
 .rw[iQ,nc hD];exact m4 ar
 rintro i m F H' ⟨rfl,hi,a5,hl,Y,done,bV,ys,a0,ki,sG,eg,ew,ey,a6,rs⟩;have ao:=sG.trans (jS H' D);by_cases a7:i<xs.length
 .right;have ex:=IJ a7;refine⟨a3.go i _ H' ao ex,λa8 H2=>∃m',m'<xs.length-i/\(m'=xs.length-(i+1)/\i+1<=xs.length/\(∀z,a8.set 0 z=(fh js σ).set 0 z)/\0<a8.length/\∃Y done bV ys,aH K B E O (di H2 D) Y σ/\bp B O O W Y σ σ/\aj (bg B O H1 []) (di H2 D)/\dq cal js j e f mask ms (xs.drop (i+1)) Y=some (bV,l)/\ws=done++bV/\done.length<=i+1/\H2 D=some (.lst ys)/\Reps K (az H2 (D::O)) done ys),λa8 H2 z=>z,λux H2 y=>?_⟩;obtain⟨s3,hr⟩:=a3.yld i _ H' ux H2 ao ex y;have sv:aj (az H1 O) (az H2 (D::O)):=λb o U=>by
   have Z:b∉O:=λz=>by rw[eG z]at U;cases U
   rw[ba Z]at U;have a9:b≠D:=λz=>by rw[z,hD]at U;cases U
   rw[ba λz=>(IB.mp z).elim a9 Z];refine s3 b o (ao b o ?_);unfold bg;rw[if_neg Z];exact U
  have hx:=hr (D::O) (λa ha=>by
   rcases IB.mp ha with rfl|ha
   .rw[a6];simp
   .exact λz=>a0.here a ha ((jS H' D).free z)) sv
  have b5:=s3 _ _ a6;have c1:=(jS H' D).trans s3;have b0:=BA (F:=F) b3 a0 c1 (ao.trans s3) gB gO (if_pos rfl) (by rw[b5];simp) a5 hx;rw[Lu a7,dq]at eg;simp only[gf]at eg;obtain⟨w,e1,eg⟩:=eg;refine⟨_,[],D::O,_,true,b0,by simp[evB,ev,bc],λH3 s4=>?_⟩;dsimp only;rw[if_pos rfl];split at eg
  .refine ax λZq kq=>?_
   rename_i v ds ec;simp only[gf,ti]at eg ec;obtain⟨r,e4,c2,e5,⟨c3,e0⟩,e6,e7⟩:=eg;obtain⟨vs,e2,ec⟩:=ec;cases e7;refine kq ?_;refine⟨_,[],D::O,_,w,vs,v,ds,r,b0.mono s4,e1,e2,ec,e4,λu us as H4 H5 s5 ma hk hm ru=>?_⟩;have own:=ma.own (b0.mono s4);obtain⟨fl,mo,_⟩:=wO (σ:=σ) (W:=Y) (js:=js) b3 (λi jj u ej eu=>by
    rw[a5]at eu;have:(σ[jj]?).join=some u:=by simpa[fh,ej]using eu
    exact join_some this) ma
   have aO:∀a∈as,a∈O:=λa ha=>(mo.own a0 a ha).1
   have ck:D∉as:=λz=>a4 (aO D z)
   have c6:=hk D _ ck (s5 _ _ (s4 _ _ b5));have cl:∀z,(F.set 0 (some ux)).set 0 z=(fh js σ).set 0 z:=λz=>by rw[set_set];exact a5 z
   have df:0<(F.set 0 (some ux)).length:=by rw[J9];exact hl
   have vw:aj (az H' (D::O)) (az H5 (D::O)):=((ak s3).trans ((ak s4).trans (ak s5))).trans (iP (λa h=>Js _ (aO a h)) hk);have dm:ys.length<=10000:=by rw[<- rs.length];omega
   have cr:∀b o,b∉as->di H4 D b=some o->di H5 D b=some o:=λb o Z U=>by
    have a9:b≠D:=λz=>by rw[z]at U;unfold di at U;rw[if_pos rfl]at U;cases U
    rw[m_ a9]at U ⊢;exact hk b o Z U
   have cu:aj (di H' D) (di H4 D):=t6 ((s3.trans s4).trans s5);obtain⟨dn,k6⟩:=vv mo (a0.mono cu) cr (hm.mono (λa ha o eo=>by
    have dr:a≠D:=λz=>by rw[z]at ha;exact ck ha
    rw[m_ dr];exact eo) λb o U=>by
    have Z:b∉D::O:=λz=>by rw[eG z]at U;cases U
    rw[ba Z]at U;rw[ba λz=>Z (.tail _ z),m_ (show b≠D from λz=>Z (by rw[z];exact .head _))];exact U) e5
   refine⟨ys,c6,JW dm (by decide),_,by omega,rfl,a7,cl,df,c2,done++[r],c3,ys++[u],?_,ki.trans k6,?_,e6,by rw[ew];simp,by simp;omega,aC,?_⟩
   .rw[iQ];exact dn
   .rw[iQ];intro b o U;refine cr b o (λz=>?_) (cu b o (sG b o U));have:=(own b z).2.1;rw[this]at U;cases U
   .rw[iz (JC)];exact(Reps.mono vw _ rs).snoc ru
  .cases eg
 .left;have ei:i=xs.length:=by omega
  subst ei;rw[drop_length,dq]at eg;cases eg;rw[JD]at ew;subst ew;refine⟨a3.stop H' ao,q H' (λb o U=>?_) (a0.mono (jS H' D)) ki ?_⟩
  .have Z:b∉O:=λz=>by rw[eG z]at U;cases U
   rw[ba Z]at U ⊢;refine ao b o ?_;unfold bg;rw[if_neg Z];exact s1 b o U
  rw[Rep];refine⟨D,ys,rfl,SqL.of ?_,Reps.mono gP _ rs⟩;rw[ba a4];exact a6
noncomputable def tX(K:L8)(cal:Cal)(x:XE):TE:=λσ H Q=>∃B E O W v l,aH K B E O H W σ/\evX cal x W=some (v,l) /\
 ∀u H',aj (az H O) (az H' O)->aH K B E O H' l σ->bp B O O W l σ σ->Rep K (az H' O) v u->Q u H'
noncomputable def tXs(K:L8)(cal:Cal)(xs:List XE):TA:=λσ H Q=>∃B E O W vs l,aH K B E O H W σ/\evXs cal xs W=some (vs,l) /\
 ∀us H',aj (az H O) (az H' O)->aH K B E O H' l σ->bp B O O W l σ σ->Reps K (az H' O) vs us->Q us H'
def Es(J:aK m=false)(h:PE X e (tE X.K cal m)):PE X e (tX X.K cal (.pure m)):=by
 refine h.imp λσ H Q q=>?_
 obtain⟨B,E,O,W,v,l,st,z,q⟩:=q;rw[evX,ti]at z;obtain⟨w,z,U⟩:=z;cases U;exact⟨B,E,O,W,v,st,z,λu H' s g=>q u H' (ak s) (st.mono s) .refl (g.2 J)⟩
def Et(h:PE X e (tMr X.K cal f mask ms)):PE X e (tX X.K cal (.call f mask ms)):=by
 refine h.imp λσ H Q q=>?_
 obtain⟨B,E,O,W,v,l,st,e0,q⟩:=q;obtain⟨ds,z,e2⟩:=wN (show rg cal f mask ms W=some _ from e0);rw[gf]at z;obtain⟨vs,z,e3⟩:=z;refine⟨B,E,O,W,vs,v,ds,st,z,e3,λu us as H1 H' J Y Z hm ru=>?_⟩;obtain⟨U,k'⟩:=vv Y (st.mono J) Z hm e2;have own:=Y.own (st.mono J);exact q u H' ((ak J).trans (iP (λa h=>(own a h).1) Z)) U k' ru
def zp:∀{ns:List Int}{n},ns.getLast?=some n->(ns.map V.int).getLast?=some (V.int n):=by
 intro ns n h
 simp_all
def GS (hn:aS X.N X.env.scope i x=true) (U:(apos.endLine==cpos.line)=true):PE X (.Call (.Attribute (.Name x p) "pop" apos) [] [] cpos) (tX X.K cal (.pop i)):=by
 refine(C9 PySem.F.plainAttrs_list PySem.F.slot_list_pop PySem.F.type_list_pop C_ (bY hn) rfl U).imp λσ H Q q=>?_
 obtain⟨B,E,O,W,v,l,st,J,q⟩:=q;have J:A6 i W=some (v,l):=J;unfold A6 at J;cases hd:gi (W[i]?).join with
 |none=>rw[hd]at J;cases J
 |some d =>
  rw[hd]at J;cases d with
  |p ns =>
   rw[ti]at J;obtain⟨n,el,Z⟩:=J;cases Z;obtain⟨a,Y,ha,hO,key⟩:∃a,σ[i]?=some (some (.ref a))/\H a=some (iw (.p ns))/\a∈O/\(aH X.K B E O (upd H a (iw (.p ns.dropLast))) (fj W i (.p ns.dropLast)) σ/\bp B O O W (fj W i (.p ns.dropLast)) σ σ):=by
    rcases eZ hd with e|e
    .obtain⟨u,Y,a,rfl,h1,h2,h3⟩:=aT st e;refine⟨a,Y,h1,h2,?_⟩;have Z:fj W i (.p ns.dropLast)=put W i (.ownD (.p ns.dropLast)):=by unfold fj;rw[e];rfl
     rw[Z];exact st.changeD (join_some e) Y λ_=>aC
    .obtain⟨u,Y,a,rfl,h1,h2,h3⟩:=aT st e;refine⟨a,Y,h1,h2,?_⟩;have Z:fj W i (.p ns.dropLast)=put W i (.mutD (.p ns.dropLast)):=by unfold fj;rw[e];rfl
     rw[Z];exact st.changeU (join_some e) Y λ_=>aC
   have ao:aj (az H O) (az (upd H a (iw (.p ns.dropLast))) O):=λb o e=>by
    have hb:b∉O:=λz=>by rw[eG z]at e;cases e
    rw[ba hb]at e ⊢;rw[aZ (show b≠a from λz=>hb (z▸hO))];exact e
   have fin:=q (.int n) _ ao key.1 key.2 (cb _ _);have ar:(ns.map V.int)[(ns.map V.int).length-1]?=some (V.int n):=by
    rw[<- getLast?_eq_getElem?];exact zp el
   refine⟨_,Y,.inl ⟨rfl,ns.map V.int,SqL.of ha⟩,a,ns.map V.int,.int n,rfl,rfl,ha,ar,?_⟩;have e9:(ns.map V.int).dropLast=ns.dropLast.map V.int:=map_dropLast.symm;rw[e9];exact fin
  | _=>cases J
def GT(ha:PE X l (tX X.K cal a))(hb:PE X r (tE X.K cal b)):PE X (.BinOp l (tI op) r pos) (tX X.K cal (.bin op a b)):=by
 refine(uH (tO op) ha hb).imp λσ H Q q=>?_
 refine ax λZq kq=>?_
 obtain⟨B,E,O,W,v,ρ',st,J,q⟩:=q;rw[evX]at J;simp only[gf,ti]at J;obtain⟨⟨x,U⟩,J,y,e2,r,e3,e4⟩:=J;cases e4;refine kq ?_;exact⟨B,E,O,W,x,U,st,J,λux H1 v1 z k1 rx=>⟨B,E,O,U,y,z,e2,λuy H2 Y g2=>⟨O,x,y,v,bB Y z.here,.inl (Rep.mono (ak Y) _ rx),g2.1,e3,λu H3 Z ru=>q u H3 (v1.trans (ak (Y.trans Z))) (z.mono (Y.trans Z)) k1 ru⟩⟩⟩
def Ig(g:Gf X T k cal)(hf:T.fs[f]?=some x)(hg:glB X.env.scope x=true)(hn:aq x=true)(ha:PE X e (tX X.K cal a))(has:PA X es (tAs X.K cal ms))(J:ah e=true)(hs:es.all ah=true):PE X (.Call (.Name x p) (e::es) [] pos) (tX X.K cal (.fn f a ms)):=by
 obtain⟨fa,fd,ps,h1,h2,h3,F,_⟩:=g.fns f x hf;refine(lO F g.room (dv hg) h1 h2 h3 .nil qN (aM ha has (aU J es _)) (gN hn).1 (aU J es _) (b7 hs)).imp λσ H Q q=>?_
 refine ax λZq kq=>?_
 obtain⟨B,E,O,W,v,l,st,U,q⟩:=q;rw[evX]at U;simp only[gf,ti]at U;obtain⟨⟨w,Y⟩,U,vs,e2,r,e3,e4⟩:=U;cases e4;refine kq ?_;refine⟨B,E,O,W,w,Y,st,U,λux H1 v1 z k1 rx=>⟨B,E,O,Y,vs,z,e2,λus H2 Z g2=>⟨O,.val w::vs,v,bB Z z.here,?_,e3,λu H3 s3 ru=>q u H3 (v1.trans (ak (Z.trans s3))) (z.mono (Z.trans s3)) k1 ru⟩⟩⟩;rw[JD];exact .cons (show Rep X.K (az H2 O) w ux from Rep.mono (ak Z) _ rx) g2
def GU:PA X [] (tXs X.K cal []):=by
 refine bJ.imp λσ H Q q=>?_
 obtain⟨B,E,O,W,vs,l,st,z,q⟩:=q;cases z;exact q [] H (aj.refl _) st .refl .nil
def Eu(h:PE X e (tX X.K cal x))(hs:PA X es (tXs X.K cal xs))(hn:ah e=true):PA X (e::es) (tXs X.K cal (x::xs)):=by
 refine(aM h hs (aU hn es _)).imp λσ H Q q=>?_
 refine ax λZq kq=>?_
 obtain⟨B,E,O,W,vs,l,st,z,q⟩:=q;rw[evXs]at z;simp only[gf,ti]at z;obtain⟨⟨v,J⟩,z,⟨ws,a0⟩,e2,e3⟩:=z;cases e3;refine kq ?_;exact⟨B,E,O,W,v,J,st,z,λu H1 v1 U k1 ru=>⟨B,E,O,J,ws,_,U,e2,λus H2 Z Y k2 rs=>q _ H2 (v1.trans Z) Y (k1.trans k2) (.cons (Rep.mono Z _ ru) rs)⟩⟩
def GV(h:PA X es (tXs X.K cal xs)):PE X (.Tuple es j pos) (tX X.K cal (.tup xs)):=by
 refine(sL h).imp λσ H Q q=>?_
 obtain⟨B,E,O,W,v,l,st,J,q⟩:=q;rw[evX,gf]at J;obtain⟨⟨vs,ar⟩,J,U⟩:=J;dsimp only at U;split at U
 .rename_i hl;cases U;refine⟨B,E,O,W,vs,_,st,J,λus H1 v1 z k1 Y=>⟨?_,λp Z=>?_⟩⟩
  .rw[<- Y.length];exact dh hl
  .have s2:aj H1 (upd H1 p (.tup us)):=aE Z _;exact q _ _ (v1.trans (ak s2)) (z.mono s2) k1 (gk z.here Z Y)
 .cases U
def x_tupOf (g:Gf X T k cal) (Z:glB X.env.scope ("tuple":Str)=true) (ha:PE X e (tX X.K cal a)) (hs:ah e=true):PE X (.Call (.Name ("tuple":Str) p) [e] [] pos) (tX X.K cal (.tupOf a)):=by
 refine(dc vh (dv Z) (g.blt "tuple" (by decide)) m7 (aM ha bJ (aU hs _ _)) (by decide) (by decide) (aU hs [] _) (b7 rfl)).imp λσ H Q q=>?_
 refine ax λZq kq=>?_
 obtain⟨B,E,O,W,v,l,st,z,q⟩:=q;rw[evX]at z;simp only[gf,ti]at z;obtain⟨⟨w,U⟩,z,r,e2,e3⟩:=z;cases e3;refine kq ?_;exact⟨B,E,O,W,w,U,st,z,λu H1 v1 J k1 ru=>⟨O,[w],_,J.here,.cons (.inl ru) .nil,e2,λu2 H2 Y r2=>q u2 H2 (v1.trans (ak Y)) (J.mono Y) k1 r2⟩⟩
def GW(h:PA X es (tXs X.K cal xs)):PE X (.List es pos) (tX X.K cal (.lst xs)):=by
 refine(xA h).imp λσ H Q q=>?_
 obtain⟨B,E,O,W,v,l,st,J,q⟩:=q;rw[evX,gf]at J;obtain⟨⟨vs,ar⟩,J,U⟩:=J;dsimp only at U;split at U
 .rename_i hl;cases U;refine⟨B,E,O,W,vs,_,st,J,λus H1 v1 z k1 Y=>⟨?_,λp Z=>?_⟩⟩
  .rw[<- Y.length];exact dh hl
  .have s2:aj H1 (upd H1 p (.lst us)):=aE Z _;exact q _ _ (v1.trans (ak s2)) (z.mono s2) k1 (mX z.here Z Y)
 .cases U
def GX(g:Gf X T k cal)(hf:T.fs[f]?=some x)(hg:glB X.env.scope x=true)(hn:aq x=true)(hm:PE X l (tE X.K cal m))(hb:aK m=false)(ha:PE X r (tX X.K cal a))(z:ah l=true)(J:ah r=true):PE X (.Call (.Name x p) [l,r] [] pos) (tX X.K cal (.fn2 f m a)):=by
 obtain⟨fa,fd,ps,h1,h2,h3,F,_⟩:=g.fns f x hf;refine(lO F g.room (dv hg) h1 h2 h3 .nil qN (aM hm (aM ha bJ (aU J _ _)) (aU z _ _)) (gN hn).1 (aU z [r] _) (b7 (by rw[all_cons,J];rfl))).imp λσ H Q q=>?_
 refine ax λZq kq=>?_
 obtain⟨B,E,O,W,v,ρ',st,U,q⟩:=q;rw[evX]at U;simp only[gf,ti]at U;obtain⟨w,U,⟨Z,a8⟩,e2,r,e3,e4⟩:=U;cases e4;refine kq ?_;refine⟨B,E,O,W,w,st,U,λux H1 s1 g1=>⟨B,E,O,W,Z,_,st.mono s1,e2,λuy H2 v2 Y k2 ry=>⟨O,[.val w,.val Z],v,Y.here,?_,e3,λu H3 s3 ru=>q u H3 ((ak s1).trans (v2.trans (ak s3))) (Y.mono s3) k2 ru⟩⟩⟩;rw[JD];exact .cons (show Rep X.K _ w ux from Rep.mono v2 _ (g1.2 hb)) (.cons (show Rep X.K _ Z uy from ry) .nil)
def x_compS(g:Gf X T k cal)
  (aO:fD X.env.scope X.N scope y (dB X.N js) js=true) (hw:PI X (.Name y py) it (tW X.K cal .seq [src])) (a0:eW it=true) (hb:aK src=false) (a1:js.Nodup) (he:∀z U C fp,PE (X.blk y (dB X.N js) scope z U C fp) el (tSr X.K cal j e f mask ms)) :
  PE X (.ListComp el [⟨.Name y py,it,[],0⟩] scope cpos) (tX X.K cal (.compS src js j e f mask ms)):=by
 refine(uU (tt:=tT X.K cal (.cst (.bl true))) (kK aO) g.calm hw (λz U C fp=>qb (show rq (λ_=>false) (.cst _) []=true from rfl) λc hc=>nomatch hc) he (by intro v;cases it<;>first|rfl|(simp[eW]at a0))).imp λσ H Q q=>?_
 obtain⟨B,E,O,W,v,l,st,Y,q⟩:=q;rw[evX]at Y;simp only[gf]at Y;obtain⟨vs,e2,xs,e3,Y⟩:=Y;split at Y
 .rename_i Z;rw[ti]at Y;obtain⟨⟨ws,a7⟩,e1,e4⟩:=Y;cases e4;have ao:bq [src] W σ=[]:=by
   cases src<;>first|rfl|(cases hb;done)
  refine⟨B,E,O,W,vs,xs,st,e2,e3,λJ H1 s1 ar D' hD=>?_⟩;rw[ao]at ar;exact rS a1 st s1 ar Z e1 hD λH' v' a2 k' ru=>q _ H' v' a2 k' ru
 .cases Y
noncomputable def tWX(K:L8)(cal:Cal)(y:XE):TI:=λσ H R =>
 ∃B E O W v l xs,aH K B E O H W σ/\evX cal y W=some (v,l)/\aW .rng [v]=some xs/\∀J H1,aj (az H O) (az H1 O)->aH K B E O H1 l σ->bp B O O W l σ σ->m3 K J xs (az H1 O) (bg B O H1 (bq [.cst v] l σ))->R J H1
def zq (g:Gf X T k cal) (Y:glB X.env.scope ("range":Str)=true) (h:PE X e (tX X.K cal y)) (hs:ah e=true):PI X tg (.Call (.Name ("range":Str) p) [e] [] pos) (tWX X.K cal y):=by
 refine(oD (dv Y) (g.blt "range" (by decide)) (aM h bJ (aU hs _ _)) (aU hs _ _)).imp λσ H R q=>?_
 obtain⟨B,E,O,W,v,l,xs,st,Z,z,q⟩:=q;refine⟨B,E,O,W,v,l,st,Z,λu H1 v1 J k1 U=>?_⟩;cases v with
 |int j =>
  simp only[aW]at z;split at z
  .rename_i c;cases z;rw[Rep]at U;subst U;exact⟨j,rfl,c.1,c.2,q _ _ v1 J k1 m5⟩
  .cases z
 | _=>simp[aW]at z
mutual
theorem eJ(g:Gf X T k cal):∀(x:XE) (e:Expr),dg T x X.N X.env.scope e=true->PE X e (tX X.K cal x)
 | .pure m,e,h=>by
  have h:(chk T m X.N X.env.scope e&&!aK m&&br e)=true:=h;simp only[pb,IM]at h;exact Es h.1.2 (av m g h.1.1).1
 | .call f mask ms,e,h=>by
  obtain⟨y,p,args,cp,rfl,hq⟩:=mT (show fE T f mask ms X.N X.env.scope e=true from h);simp only[pb,IE,Jq,IM]at hq;obtain⟨⟨⟨⟨⟨⟨q1,q2⟩,q3⟩,q4⟩,q5⟩,q6⟩,q7⟩:=hq;cases args with
  |nil=>cases q7
  |cons a args=>exact Et (vz g q1 q2 q3 (qe g mask ms (a::args) q4 q5 q6) (bM q4).1)
 | .pop i,e,h=>by
  obtain⟨q,J,h⟩:=am (show onQ (DM e) (λq=>aS X.N X.env.scope i q.1&&q.2.1==("pop":Str)&&q.2.2.1.endLine==q.2.2.2.line)=true from h);obtain⟨y,m,ap,cp⟩:=q;obtain⟨p,rfl⟩:=Bc J;obtain⟨U,Y⟩:=oe.mp h;obtain⟨h1,h2⟩:=oe.mp U;obtain rfl:m=("pop":Str):=eq_of_beq h2;exact GS h1 Y
 | .bin op a b,e,h=>by
  obtain⟨q,J,h⟩:=am (show onQ (DN e) (λq=>q.2.1==tI op&&dg T a X.N X.env.scope q.1&&chk T b X.N X.env.scope q.2.2)=true from h);obtain⟨l,o,r⟩:=q;obtain⟨pos,rfl⟩:=Bd J;obtain⟨U,Y⟩:=oe.mp h;obtain⟨h1,h2⟩:=oe.mp U;obtain rfl:o=tI op:=eq_of_beq h1;exact GT (eJ g a l h2) (av b g Y).1
 | .fn f a ms,e,h=>by
  obtain⟨q,J,h⟩:=am (show onQ (fnQ e) (λq=>T.fs[f]?==some q.1&&glB X.env.scope q.1&&aq q.1&&dg T a X.N X.env.scope q.2.1&&ah q.2.1&&chks T ms X.N X.env.scope q.2.2)=true from h);obtain⟨y,l,r⟩:=q;obtain⟨p,pos,rfl⟩:=tM J;obtain⟨U,h6⟩:=oe.mp h;obtain⟨a2,Z⟩:=oe.mp U;obtain⟨a3,h4⟩:=oe.mp a2;obtain⟨a4,Y⟩:=oe.mp a3;obtain⟨h1,h2⟩:=oe.mp a4;exact Ig g (eq_of_beq h1) h2 Y (eJ g a l h4) (soundA ms g h6) Z (bM h6).1
 | .tup xs,e,h=>by
  obtain⟨q,J,h⟩:=am (show onQ (DO e) (λq=>chkXEs T xs X.N X.env.scope q)=true from h);obtain⟨j,pos,rfl⟩:=Be J;exact GV (soundXEs g xs q h)
 | .lst xs,e,h=>by
  obtain⟨q,J,h⟩:=am (show onQ (DP e) (λq=>chkXEs T xs X.N X.env.scope q)=true from h);obtain⟨pos,rfl⟩:=Bf J;exact GW (soundXEs g xs q h)
 | .fn2 f m a,e,h=>by
  obtain⟨q,J,h⟩:=am (show onQ (DQ e) (λq=>T.fs[f]?==some q.1&&glB X.env.scope q.1&&aq q.1&&chk T m X.N X.env.scope q.2.1&&!aK m&&ah q.2.1&&dg T a X.N X.env.scope q.2.2&&ah q.2.2)=true from h);obtain⟨y,l,r⟩:=q;obtain⟨p,pos,rfl⟩:=Bg J;obtain⟨U,h8⟩:=oe.mp h;obtain⟨a2,h7⟩:=oe.mp U;obtain⟨a3,h6⟩:=oe.mp a2;obtain⟨a4,Z⟩:=oe.mp a3;obtain⟨a5,h4⟩:=oe.mp a4;obtain⟨a6,Y⟩:=oe.mp a5;obtain⟨h1,h2⟩:=oe.mp a6;exact GX g (eq_of_beq h1) h2 Y (av m g h4).1 (by simpa using Z) (eJ g a r h7) h6 h8
 | .tupOf a,e,h=>by
  obtain⟨q,J,h⟩:=am (show onQ (fnQ e) (λq=>q.1==("tuple":Str)&&glB X.env.scope q.1&&q.2.2.isEmpty&&dg T a X.N X.env.scope q.2.1&&ah q.2.1)=true from h);obtain⟨y,l,r⟩:=q;obtain⟨p,pos,rfl⟩:=tM J;obtain⟨U,Z⟩:=oe.mp h;obtain⟨a2,h4⟩:=oe.mp U;obtain⟨a3,Y⟩:=oe.mp a2;obtain⟨h1,h2⟩:=oe.mp a3;obtain rfl:y=("tuple":Str):=eq_of_beq h1;obtain rfl:r=[]:=Kc.mp Y;exact x_tupOf g h2 (eJ g a l h4) Z
 | .compS src js j m f mask ms,e,h=>by
  obtain⟨c,e2,h2⟩:=am (show onQ (yM e) (λc=>fD X.env.scope X.N c.2.1 c.2.2.1 (dB X.N js) js&&mR X.env.scope false (λxs=>chks T [src] X.N X.env.scope xs) .seq c.2.2.2&&!aK src&&yL T j m f mask ms (c.2.2.1::dB X.N js) (lI c.2.1 X.env.scope) c.1&&decide js.Nodup)=true from h);obtain⟨py,cpos,rfl⟩:=yN e2;obtain⟨el,scope,y,it⟩:=c;simp only[pb,IM,Jq]at h2;obtain⟨⟨⟨⟨Z,h6⟩,h7⟩,h8⟩,h9⟩:=h2;have hw:=kL (tg:=.Name y py) (λz=>by cases z) g h6 (λxs a7=>⟨sounds [src] g a7,bM a7⟩) (λm x hm hx=>by cases hm;exact(av src g (by simp only[chks,pb]at hx;exact hx.1.1)).1);exact x_compS g Z hw.1 hw.2 h7 h9 λa8 a9 C fp=>Er (g.blk y (dB X.N js) scope a8 a9 C fp) h8
theorem soundXEs(g:Gf X T k cal):∀(xs:List XE) (es:List Expr),chkXEs T xs X.N X.env.scope es=true->PA X es (tXs X.K cal xs)
 | [],es,h=>by
  cases es with
  |nil=>exact GU
  |cons _ _=>cases h
 |x::xs,es,h=>by
  cases es with
  |nil=>cases h
  |cons e es =>
   have h:(dg T x X.N X.env.scope e&&ah e&&chkXEs T xs X.N X.env.scope es)=true:=h;simp only[pb]at h;exact Eu (eJ g x e h.1.1) (soundXEs g xs es h.2) h.1.2
end
def Ev(d:Df X)(hi:X.N[i]?=some x)(hx:Loc X.env.scope x)(h:PE X v (tX X.K cal y))(hc:br v=true):PS X (.Assign [.Name x px] v pos) (tS X.K cal (.setX i y)):=
 PS.imp' (kd d.nd hi hx h (dD hc _ _ _) (.inl (d.fn x))) λD σ H U q=>by
  obtain⟨B,E,O,W,st,q⟩:=q;rw[ex]at q;cases e:evX cal y W with
  |none=>rw[e]at q;exact(show False from q).elim
  |some cr =>
   obtain⟨s,l⟩:=cr;rw[e]at q;refine⟨B,E,O,W,s,l,st,e,λu H' _ z Y Z=>?_⟩;obtain⟨J,k2⟩:=z.store (ltN hi U) Z;exact q _ H' O J (Y.trans k2)
def BB(h:PE X v (tX X.K cal y)):PS X (.Return (some v) pos) (tS X.K cal (.retXE y)):=by
 refine(pE h).imp λD σ H q=>?_
 obtain⟨B,E,O,W,st,q⟩:=q;rw[ex]at q;cases e:evX cal y W with
 |none=>rw[e]at q;exact(show False from q).elim
 |some cr =>
  obtain⟨s,l⟩:=cr;rw[e]at q;exact⟨B,E,O,W,s,l,st,e,λu H' _ z J U=>q u σ H' O z J U⟩
def Ew(h:PE X v (tX X.K cal y))(hn:aS X.N X.env.scope i x=true)(hs:ah v=true)(J:(apos.endLine==cpos.line)=true) :
  PS X (.Expr (.Call (.Attribute (.Name x p) "append" apos) [v] [] cpos) pos) (tS X.K cal (.appX i y)):=by
 refine(lM (uN PySem.F.plainAttrs_list PySem.F.slot_list_append PySem.F.type_list_append kj (bY hn) (aM h bJ (aU hs _ _)) rfl (by rw[aU hs];rfl) J (aU hs _ _) rfl) rfl).imp λD σ H q=>?_
 obtain⟨B,E,O,W,st,q⟩:=q;rw[ex]at q;cases hj:(W[i]?).join with
 |none=>rw[hj]at q;exact(show False from q).elim
 |some m =>
  rw[hj]at q;cases m with
  |own ar =>
   dsimp only at q;obtain⟨a3,eu,a,U,rfl,ha,_,hO,_⟩:=aT st hj;cases e:evX cal y W with
   |none=>rw[e]at q;exact(show False from q).elim
   |some cr =>
    obtain⟨w,l⟩:=cr;rw[e]at q;dsimp only at q;cases z:(l[i]?).join with
    |none=>rw[z]at q;exact(show False from q).elim
    |some m' =>
     rw[z]at q;cases m' with
     |own xs =>
      dsimp only at q;split at q
      .rename_i hl;refine⟨_,eu,.inl ⟨rfl,U,SqL.of ha⟩,B,E,O,W,w,l,st,e,λu H1 v1 Y k1 ru=>?_⟩;refine ax λZq kq=>?_
       obtain⟨u1,Z,a1,us,e5,a0,rs,_,_⟩:=aT Y z;rw[eu]at Z;cases Z;cases e5;refine kq ?_;refine⟨a,us,u,rfl,rfl,a0,?_,?_⟩
       .rw[<- rs.length];exact IF hl (by decide)
       .obtain⟨a2,k2⟩:=Y.change (us:=us++[u]) (ys:=xs++[w]) (join_some z) eu (rs.snoc ru);exact q _ _ _ a2 (k1.trans k2)
      .exact(show False from q).elim
     | _=>exact(show False from q).elim
  | _=>exact(show False from q).elim
def aH.storeP{K:L8}(st:aH K B E O H W σ)(hi:i<σ.length)(s:aj H H')(U:H p=none)(J:H' p=some (.lst us))(r:Reps K (az H' (p::O)) (ns.map .int) us):aH K B E (p::O) H' (put W i (.ownD (.p ns))) (σ.set i (some (.ref p)))/\bp B O (p::O) W (put W i (.ownD (.p ns))) σ (σ.set i (some (.ref p))):=by
 have Y:=r.ints;subst Y;exact st.storeM hi s U (by rw[J];simp) rfl (λ_ z=>by cases z) λZ=>⟨p,rfl,J,JC,Z⟩
def Ex {px p p2 pos2 cp pos:Pos} (g:Gf X T k cal) (d:Df X) (hi:X.N[i]?=some x) (hx:Loc X.env.scope x) (h1:glB X.env.scope ("list":Str)=true) (h2:glB X.env.scope ("reversed":Str)=true) (h:PE X e (tE X.K cal Z)) (hs:ah e=true):PS X (.Assign [.Name x px] (.Call (.Name ("list":Str) p) [.Call (.Name ("reversed":Str) p2) [e] [] pos2] [] cp) pos) (tS X.K cal (.setP i Z)):=by
 refine PS.imp' (kd d.nd hi hx (tq g.calm (dv h1) (g.blt "list" (by decide)) p_ (dv h2) (g.blt "reversed" (by decide)) h (aU hs _ _)) (dD (v:=.Call _ _ _ _) rfl _ _ _) (.inl (d.fn x))) λD σ H hl q=>?_
 obtain⟨B,E,O,W,st,q⟩:=q;rw[ex]at q;cases J:ev cal Z W with
 |none=>rw[J]at q;exact(show False from q).elim
 |some w =>
  rw[J]at q;cases w with
  |lst xs =>
   dsimp only at q;cases U:bf xs with
   |none=>rw[U]at q;exact(show False from q).elim
   |some ns =>
    rw[U]at q;have e3:=dU U;subst e3;refine⟨B,E,O,W,_,st,J,λu H1 s1 g1=>?_⟩;obtain⟨a,us,rfl,sq,rs⟩:=g1.1.lst;have e4:=rs.ints;subst e4;refine⟨a,_,rfl,sq,λl z=>?_⟩;rw[show(ns.map V.int).reverse=ns.reverse.map V.int from map_reverse.symm];obtain⟨Y,k'⟩:=st.storeP (ns:=ns.reverse) (ltN hi hl) (s1.trans (aE z (.lst (ns.reverse.map V.int)))) (s1.free z) aC (Reps.of_ints _);exact q _ _ _ Y k'
  | _=>exact(show False from q).elim
end
section
variable{K:L8}{B H:Hp}{E O:List Addr}{W:Rho}{σ:St}
def GY(J:aH K (bg B O H1 L) E U H' l F)(k:bp (bg B O H1 L) O U W l σ F):aj (az H1 O) (az H' U):=λb u e=>by
 have Z:b∉O:=λz=>by rw[eG z]at e;cases e
 have Y:bg B O H1 L b=some u:=cq b u e;rw[ba]
 .exact J.keep b u Y
 .intro z;rcases k.new b z with q|q
  .exact Z q
  .rw[Y]at q;cases q
def BC(st:aH K B E O H W σ):aH K (bg B O H (bq ms W σ)) E O H (bh ms W) σ/\(bh ms W).length=W.length:=by
 have base:∀L,(∀a∈L,∀(j:Nat) ys,(bh ms W)[j]?=some (some ys)->ix ys=true->σ[j]?≠some (some (.ref a)))->(∀(j:Nat) m,(bh ms W)[j]?=some (some m)->(∃ys,m=.brw ys/\W[j]?=some (some (.own ys))/\∃a,σ[j]?=some (some (.ref a))/\a∈L)\/W[j]?=some (some m))->(bh ms W).length=W.length ->
   aH K (bg B O H L) E O H (bh ms W) σ:=λL h1 h2 h3=>by
  have gl:=m4 (O:=O) (L:=L) st.keep;have lg:=dW (O:=O) (L:=L) st.keep;refine⟨gl,st.here,st.sub,λa ha z=>st.old a ha (lg.free z),h3.trans st.len,λj m e=>?_,λc d ps qs ad a8 e1 e2 p1 p2 e3 e4=>?_
   ⟩
  .rcases h2 j m e with⟨ys,rfl,e2,a,ea,J⟩|e2
   .obtain⟨u,Y,a',us,rfl,U,q2,Z,q4⟩:=st.slot j _ e2;rw[ea]at Y;cases Y;refine⟨_,ea,a,us,rfl,SqL.of ?_,q2⟩;unfold bg;rw[if_pos Z,if_pos J];exact U
   .obtain⟨u,Y,q⟩:=st.slot j m e2;refine⟨u,Y,?_⟩;cases m with
    |val v=>exact q
    |own ys =>
     obtain⟨a,us,rfl,U,q2,Z,q4⟩:=q;refine⟨a,us,rfl,U,q2,Z,?_⟩;unfold bg;rw[if_pos Z,if_neg λJ=>h1 a J j (.own ys) e rfl Y];exact q4
    |ownD ys =>
     obtain⟨a,rfl,U,Z,q4⟩:=q;refine⟨a,rfl,U,Z,?_⟩;unfold bg;rw[if_pos Z,if_neg λJ=>h1 a J j (.ownD ys) e rfl Y];exact q4
    |mutD ys =>
     obtain⟨a,rfl,U,Z,q4⟩:=q;refine⟨a,rfl,U,Z,?_⟩;unfold bg;rw[if_pos Z,if_neg λJ=>h1 a J j (.mutD ys) e rfl Y];exact q4
    |brwD ys=>obtain⟨a,rfl,U⟩:=q;exact⟨a,rfl,aj.rd lg U⟩
    |brw ys=>obtain⟨a,us,rfl,U,q2⟩:=q;exact⟨a,us,rfl,lg.seq U,q2⟩
  .rcases h2 c _ e1 with⟨_,rfl,_⟩|e1
   .cases p1
   .rcases h2 d _ e2 with⟨_,rfl,_⟩|e2
    .cases p2
    .exact st.apart c d ps qs ad a8 e1 e2 p1 p2 e3 e4
 have plain:bh ms W=W->bq ms W σ=[]->aH K (bg B O H (bq ms W σ)) E O H (bh ms W) σ/\(bh ms W).length=W.length:=λe1 e2=>by
  rw[e2];exact⟨base [] (λa ha=>by simp at ha) (λj m e=>.inr (by rw[e1]at e;exact e)) (by rw[e1]),by rw[e1]⟩
 match ms with
 | []|.var _::_|.cst _::_|.glob _ _::_|.bin _ _ _::_|.neg _::_|.not _::_|.and _ _::_|.or _ _::_|.ite _ _ _::_|.cmp _ _ _::_|.chain _ _ _ _ _::_|.tup _::_|.lst _::_|.idx _ _::_|.slice _ _ _::_|.blt _ _::_|.call _ _::_|.callD _ _ _::_|.comp _ _ _ _ _::_|.dget _ _ _::_|.dat _ _::_|.dIn _ _ _::_|.lenP _::_|.disp _ _::_|.bor _::_::_=>exact plain rfl rfl
 | [.bor i] =>
  cases hj:(W[i]?).join with
  |none=>exact plain (by simp[bh,hj]) (by simp[bq,hj])
  |some m =>
   cases m with
   |own xs =>
    refine ax λZq kq=>?_
    have el:bh [.bor i] W=put W i (.brw xs):=by simp[bh,hj]
    have e0:=join_some hj;obtain⟨u,Y,a,us,rfl,U,q2,Z,q4⟩:=st.slot i _ e0;have eL:bq [.bor i] W σ=[a]:=by simp[bq,hj,Y]
    have a2:=(IA.mp e0).1;refine kq ?_;rw[eL];refine⟨base [a] (λb hb j ys e oy z=>?_) (λj m e=>?_) (by rw[el,put_len]),by rw[el,put_len]⟩
    .have:b=a:=by simpa using hb
     subst this;rw[el]at e;have a3:i≠j:=λz=>by subst z;rw[al a2]at e;cases e;cases oy
     rw[ai a3]at e;exact st.apart i j (.own xs) ys b a3 e0 e rfl oy Y z
    .rw[el]at e;by_cases a4:i=j
     .subst a4;rw[al a2]at e;cases e;exact .inl ⟨xs,rfl,e0,a,Y,by simp⟩
     .rw[ai a4]at e;exact .inr e
   | _=>exact plain (by simp[bh,hj]) (by simp[bq,hj])
def jT(h:(bh ms W)[j]?=some (some (.brw ys))):W[j]?=some (some (.brw ys))\/(ms=[.bor j]/\W[j]?=some (some (.own ys))):=by
 unfold bh at h;split at h
 .rename_i i;split at h
  .rename_i xs U;have Y:=join_some U;have J:=(IA.mp Y).1;by_cases z:i=j
   .subst z;rw[al J]at h
    simp_all
   .rw[ai z]at h;exact .inl h
  .exact .inl h
 .exact .inl h
def kM{j:Nat}(h:(bh ms W)[j]?=some (some (.brwD ys))):W[j]?=some (some (.brwD ys)):=by
 unfold bh at h;split at h
 .rename_i i;split at h
  .rename_i xs U;have Y:=join_some U;have J:=(IA.mp Y).1;by_cases z:i=j
   .subst z;rw[al J]at h;cases h
   .rw[ai z]at h;exact h
  .exact h
 .exact h
def wP{j:Nat}(h:(bh ms W)[j]?=some (some (.mutD ys))):W[j]?=some (some (.mutD ys)):=by
 unfold bh at h;split at h
 .rename_i i;split at h
  .rename_i xs U;have Y:=join_some U;have J:=(IA.mp Y).1;by_cases z:i=j
   .subst z;rw[al J]at h;cases h
   .rw[ai z]at h;exact h
  .exact h
 .exact h
def ng :(bh ms W).length=W.length:=by
 unfold bh;split
 .split
  .exact put_len
  .rfl
 .rfl
def qf(st:aH K B E O H1 W σ)(J:aH K (bg B O H1 (bq ms W σ)) E O' H' l F)(k:bp (bg B O H1 (bq ms W σ)) O O' (bh ms W) l σ F) :
  aH K B E O' H' (aJ ms W l) F/\bp B O O' W (aJ ms W l) σ F:=by
 have lg:=dW (O:=O) (L:=bq ms W σ) st.keep;have a7:=GY J k;have stay:∀a,B a≠none->a∈O->a∈O':=λa h1 h2=>k.stay a (λz=>h1 (lg.free z)) h2
 have new:∀a∈O',a∈O\/B a=none:=λa h=>(k.new a h).imp id lg.free
 have mutK:∀(j:Nat) d',l[j]?=some (some (.mutD d'))->(∃d,W[j]?=some (some (.mutD d)))/\F[j]?=σ[j]?:=λj d' e=>by
  obtain⟨⟨d,e1⟩,U⟩:=k.mutK j d' e;exact⟨⟨d,wP e1⟩,U⟩
 have slot:∀j m,l[j]?=some (some m)->(∀ys,m=.brw ys->¬ (ms=[.bor j]/\W[j]?=some (some (.own ys))))->∃u,F[j]?=some (some u)/\eV K B O' H' m u:=λj m e hn=>by
  obtain⟨u,eu,q⟩:=J.slot j m e;refine⟨u,eu,?_⟩;cases m with
  |val v=>exact q
  |own ys=>obtain⟨a,us,rfl,q1,q2,q3,q4⟩:=q;exact⟨a,us,rfl,q1,q2,q3,lg.free q4⟩
  |brw ys =>
   obtain⟨e1,U⟩:=k.brw j (.brw ys) rfl e;rcases jT e1 with Z|Z
   .obtain⟨w,ew,a,us,rfl,q1,q2⟩:=st.slot j _ Z;rw[eu,ew]at U;cases U;exact⟨a,us,rfl,q1,Reps.mono a7 _ q2⟩
   .exact absurd Z (hn ys rfl)
  |brwD ys =>
   obtain⟨e1,U⟩:=k.brw j (.brwD ys) rfl e;obtain⟨w,ew,a,rfl,q1⟩:=st.slot j _ (kM e1);rw[eu,ew]at U;cases U;exact⟨a,rfl,q1⟩
  | _=>obtain⟨a,rfl,q1,q3,q4⟩:=q;exact⟨a,rfl,q1,q3,lg.free q4⟩
 by_cases hA:∃i aO xs,ms=[.bor i]/\(W[i]?).join=some (.own aO)/\(l[i]?).join=some (.brw xs)
 .obtain⟨i,aO,xs,rfl,h0,h1⟩:=hA;have eb:aJ [.bor i] W l=put l i (.own xs):=by simp[aJ,h0,h1]
  rw[eb];have e0:=join_some h0;have e1:=join_some h1;have a2:=(IA.mp e1).1;obtain⟨el,es⟩:=k.brw i (.brw xs) rfl e1;have exs:xs=aO:=by
   rcases jT el with Z|⟨_,Z⟩
   .rw[e0]at Z;cases Z
   .rw[e0]at Z;cases Z;rfl
  subst exs;obtain⟨w,ew,a,us,rfl,q1,q2,q3,q4⟩:=st.slot i _ e0;have eL:bq [.bor i] W σ=[a]:=by simp[bq,h0,ew]
  have ga:bg B O H1 (bq [.bor i] W σ) a=some (.lst us):=by
   unfold bg;rw[eL,if_pos q3,if_pos (by simp)];exact q1
  have other:∀(j:Nat) ys ad,l[j]?=some (some ys)->ix ys=true->F[j]?=some (some (.ref ad))->ad≠a:=λj ys ad h1 oy h2 z=>by
   obtain⟨u,eu,qq⟩:=J.slot j _ h1;rw[h2]at eu;cases eu;cases ys with
   |own ys =>
    obtain⟨b,_,U,_,_,_,q⟩:=qq;cases U;rw[z,ga]at q;cases q
   |ownD ys|mutD ys =>
    obtain⟨b,U,_,_,q⟩:=qq;cases U;rw[z,ga]at q;cases q
   | _=>cases oy
  refine⟨⟨lg.trans J.keep,J.here,J.sub,st.old,by rw[put_len];exact J.len,λj m e=>?_,λc d ps qs ad b1 e1 U p1 p2 Z e4=>?_
   ⟩,⟨stay,new,λj ys ar e=>?_,by rw[put_len];exact k.len.trans ng
   ,λj d' e=>?_
   ⟩⟩
  .by_cases Y:i=j
   .subst Y;rw[al a2]at e;cases e;refine⟨_,by rw[es];exact ew,a,us,rfl,J.keep _ _ ga,Reps.mono a7 _ q2,k.stay a (by rw[ga];simp) q3,q4⟩
   .rw[ai Y]at e;exact slot j m e λys _ ⟨z,_⟩=>Y (by cases z;rfl)
  .by_cases hc:i=c
   .subst hc;rw[es,ew]at Z;cases Z;rw[ai b1]at U;exact other d qs _ U p2 e4 rfl
   .rw[ai hc]at e1;by_cases hd:i=d
    .subst hd;rw[es,ew]at e4;cases e4;exact other c ps _ e1 p1 Z rfl
    .rw[ai hd]at U;exact J.apart c d ps qs ad b1 e1 U p1 p2 Z e4
  .by_cases Y:i=j
   .subst Y;rw[al a2]at e;cases e;cases ar
   .rw[ai Y]at e;obtain⟨e1,U⟩:=k.brw j ys ar e;cases ys with
    |brw ys =>
     rcases jT e1 with Z|⟨z,_⟩
     .exact⟨Z,U⟩
     .cases z;exact absurd rfl Y
    |brwD ys=>exact⟨kM e1,U⟩
    | _=>cases ar
  .by_cases Y:i=j
   .subst Y;rw[al a2]at e;cases e
   .rw[ai Y]at e;exact mutK j d' e
 .have eb:aJ ms W l=l:=by
   unfold aJ;split
   .rename_i i;split
    .rename_i aO xs h0 h1;exact absurd ⟨i,aO,xs,rfl,h0,h1⟩ hA
    .rfl
   .rfl
  rw[eb];have no:∀j ys,l[j]?=some (some (.brw ys))->¬ (ms=[.bor j]/\W[j]?=some (some (.own ys))):=λj ys e ⟨h1,h2⟩=>hA ⟨j,ys,ys,h1,by rw[h2];rfl,by rw[e];rfl⟩
  refine⟨⟨lg.trans J.keep,J.here,J.sub,st.old,J.len,λj m e=>slot j m e λys z=>no j ys (by rw[e,z]),J.apart
   ⟩,⟨stay,new,λj ys ar e=>?_,k.len.trans ng
   ,λj d' e=>mutK j d' e
   ⟩⟩
  obtain⟨e1,U⟩:=k.brw j ys ar e;cases ys with
  |brw ys =>
   rcases jT e1 with Z|Z
   .exact⟨Z,U⟩
   .exact absurd Z (no j ys e)
  |brwD ys=>exact⟨kM e1,U⟩
  | _=>cases ar
end
section
variable{X:Cx}{T:Tab}{k:Nat}{cal:Cal}
def BD(K:L8)(n:Nat)(g:TG)(tk:PV->Rho->Option Rho):Prop:=
 ∀B E O H W l σ x u (Q:St->Hp->Prop),σ.length=n->aH K B E O H W σ->Rep K (az H O) x u->tk x W=some l ->
  (∀F,aH K B E O H l F->bp B O O W l σ F->Q F H)->g u σ H Q
def rT{K:L8}(hn:σ.length=n)(hg:BD K n g tk)(Y:aH K B E O H1 W σ)(it:m3 K J xs (az H1 O) (bg B O H1 (bq ms W σ)))
  (q:gm K B E O W σ D ((aw (λx l=>cA (tk x l) λU=>exs cal body U) xs (bh ms W)).back ms W)):CU (λ_ _ R=>R J H1) g (tSs K cal body) D σ H1:=by
 obtain⟨b1,_⟩:=BC (ms:=ms) Y;refine⟨λi m F H'=>m=xs.length-i/\i<=xs.length/\∃l O',aH K (bg B O H1 (bq ms W σ)) E O' H' l F/\bp (bg B O H1 (bq ms W σ)) O O' (bh ms W) l σ F /\
  aw (λx l=>cA (tk x l) λU=>exs cal body U) (xs.drop i) l=aw (λx l=>cA (tk x l) λU=>exs cal body U) xs (bh ms W),⟨xs.length,by simp,Ji _,bh ms W,O,b1,.refl,by simp⟩,?_⟩
 rintro i m F H' ⟨rfl,hi,l,O',Z,k',eq⟩;by_cases a5:i<xs.length
 .right;have ex:=IJ a5;refine⟨it.go i _ H' Z.keep ex,λa1 H2=>∃m',m'<xs.length-i/\(m'=xs.length-(i+1)/\i+1<=xs.length/\∃l O',aH K (bg B O H1 (bq ms W σ)) E O' H2 l a1/\bp (bg B O H1 (bq ms W σ)) O O' (bh ms W) l σ a1 /\
   aw (λx l=>cA (tk x l) λU=>exs cal body U) (xs.drop (i+1)) l=aw (λx l=>cA (tk x l) λU=>exs cal body U) xs (bh ms W)),λa1 H2 z=>z,λu H2 y=>?_⟩
  obtain⟨s2,hr⟩:=it.yld i _ H' u H2 Z.keep ex y;have b2:=GY Z k';have hx:=hr O' Z.here (b2.trans (ak s2));rw[Lu a5,aw]at eq;cases et:tk xs[i] l with
  |none =>
   rw[et]at eq;rw[<- eq]at q;exact(show False from q).elim
  |some ao =>
   rw[et,show cA (some ao) (λU=>exs cal body U)=exs cal body ao from rfl]at eq;have a7:F.length=n:=by rw[<- Z.len,k'.len,ng,Y.len];exact hn
   refine hg _ E O' H2 l ao F _ u _ a7 (Z.mono s2) hx et λa1 b4 k2=>?_
   refine⟨_,E,O',ao,b4,?_⟩;have kk:=k'.trans k2;cases er:exs cal body ao with
   |next a2|cont a2 =>
    rw[er]at eq;exact λa3 H3 O3 ar k3=>⟨_,by omega,rfl,a5,a2,O3,ar,kk.trans k3,eq⟩
   |brk a2 =>
    rw[er]at eq;rw[<- eq]at q;exact λa3 H3 O3 ar k3=>by
     obtain⟨aO,kb⟩:=qf Y ar (kk.trans k3);exact q a3 H3 O3 aO kb
   |ret v =>
    rw[er]at eq;rw[<- eq]at q;exact λw H3 s3 r=>q w H3 ((dW Y.keep).trans s3) r
   |retM v a2 =>
    rw[er]at eq;rw[<- eq]at q;exact λu a3 H3 O3 ar k3 ru=>by
     obtain⟨aO,kb⟩:=qf Y ar (kk.trans k3);exact q u a3 H3 O3 aO kb ru
   |retF ys =>
    rw[er]at eq;rw[<- eq]at q;exact λp us H3 s3 hp he r=>q p us H3 ((dW Y.keep).trans s3) ((dW Y.keep).free hp) he r
   |bad =>
    rw[er]at eq;rw[<- eq]at q;exact(show False from q).elim
 .left;have ei:i=xs.length:=by omega
  subst ei;rw[drop_length,aw]at eq;rw[<- eq]at q;obtain⟨aO,kb⟩:=qf Y Z k';exact⟨it.stop H' Z.keep,q F H' O' aO kb⟩
def zr{K:L8}(U:σ.length=n)(Y:BD K n g tk)(st:aH K B E O H W σ)(Z:evs cal ms W=some vs)(e2:aW k' vs=some xs)
  (q:gm K B E O W σ D ((aw (λx l=>cA (tk x l) λz=>exs cal body z) xs (bh ms W)).back ms W)):CU (tW K cal k' ms) g (tSs K cal body) D σ H:=by
 exact⟨B,E,O,W,vs,xs,st,Z,e2,λJ H1 s1 it=>rT U Y (st.mono s1) it q⟩
def vA{K:L8}(hi:i<n):BD K n (iZ i) (λx W=>some (put W i (.val x))):=by
 intro B E O H W l σ x u Q U st r e q;cases e;obtain⟨z,J⟩:=st.store (i:=i) (by omega) r;exact q _ z J
def Ey(g:Gf X T k cal)(d:Df X)(hi:X.N[i]?=some x)(hx:Loc X.env.scope x)(hw:PI X (.Name x px) it (tW X.K cal J src))(z:eW it=true)(U:PSs X b (tSs X.K cal body)) :
  PS X (.For (.Name x px) it b [] pos) (tS X.K cal (.for1 i J src body)):=by
 refine PS.imp' (sI d.own g.calm hw (lN d.nd hi hx (.inl (d.fn x))) U (by intro v;cases it<;>first|rfl|(simp[eW]at z))) λD σ H Y q=>?_
 obtain⟨B,E,O,W,st,q⟩:=q;rw[ex]at q;cases e:(evs cal src W).bind (aW J)with
 |none=>rw[e]at q;exact(show False from q).elim
 |some xs =>
  rw[e]at q;simp only[gf]at e;obtain⟨vs,Z,e2⟩:=e;exact zr (tk:=λx W=>some (put W i (.val x))) rfl (vA (ltN hi Y)) st Z e2 q
def Ez (g:Gf X T k cal) (d:Df X) (hi:X.N[i]?=some x) (hx:Loc X.env.scope x) (Z:glB X.env.scope ("range":Str)=true) (h:PE X e (tX X.K cal y)) (hs:ah e=true) (hb:PSs X b (tSs X.K cal body)) :
  PS X (.For (.Name x px) (.Call (.Name ("range":Str) p) [e] [] rp) b [] pos) (tS X.K cal (.forX i y body)):=by
 refine PS.imp' (sI d.own g.calm (zq g Z h hs) (lN d.nd hi hx (.inl (d.fn x))) hb (by intro v;rfl)) λD σ H hl q=>?_
 obtain⟨B,E,O,W,st,q⟩:=q;rw[ex]at q;cases z:evX cal y W with
 |none=>rw[z]at q;exact(show False from q).elim
 |some pr =>
  obtain⟨v,l⟩:=pr;rw[z]at q;dsimp only at q;cases U:aW .rng [v]with
  |none=>rw[U]at q;exact(show False from q).elim
  |some xs =>
   rw[U]at q;refine⟨B,E,O,W,v,l,xs,st,z,U,λJ H1 _ Y k1 it=>?_⟩;refine rT (ms:=[.cst v]) (tk:=λx W=>some (put W i (.val x))) rfl (vA (ltN hi hl)) Y it ?_;have q2:=gm.trans q k1;have back:∀r:R,r.back [.cst v] l=r:=λr=>by cases r<;>rfl
   rw[back];exact q2
end
noncomputable def qg:List Nat->TGs
 | []=>FK
 |i::is=>Ca (iZ i) (qg is)
section
variable{X:Cx}{T:Tab}{k:Nat}{cal:Cal}
theorem nh:∀{is}{z},dH X.N X.env.scope is z=true->(assignEach z X.env).length=is.length/\(assignEach z X.env).findIdx? (·.1)=none
 | [],[],_=>⟨rfl,rfl⟩
 | [],_::_,h=>by cases h
 | _::_,[],h=>by cases h
 |i::is,e::z,h=>by
  cases e<;>first|(cases h;done)|skip
  simp only[pY,pb]at h;rename_i x p;obtain⟨h1,h2⟩:=nh h.2;refine⟨?_,?_⟩
  .show((false,assign (.Name x p) X.env)::assignEach z X.env).length=_;simp[h1]
  .show((false,assign (.Name x p) X.env)::assignEach z X.env).findIdx? (·.1)=none;rw[findIdx?_cons];simp[h2]
theorem o9(d:Df X):∀{is}{z},dH X.N X.env.scope is z=true->PGs X z (qg is)
 | [],[],_=>Au
 | [],_::_,h=>by cases h
 | _::_,[],h=>by cases h
 |i::is,e::z,h=>by
  cases e<;>first|(cases h;done)|skip
  simp[pY,pb]at h;rename_i x p;exact xw (lN d.nd h.1.1.1 (i9 h.1.1.2) (.inl (d.fn x))) (o9 d h.2) rfl
theorem rU:∀{is}{J},dH X.N X.env.scope is J=true->∀i∈is,i<X.N.length
 | [],[],_=>λi hi=>by simp at hi
 | [],_::_,h=>by cases h
 | _::_,[],h=>by cases h
 |i::is,e::J,h=>λj z=>by
  cases e<;>first|(cases h;done)|skip
  simp[pY,pb]at h;rcases IB.mp z with rfl|z
  .exact(IA.mp h.1.1.1).1
  .exact rU h.2 j z
theorem vB{K:L8}:∀{is}{vs}{us}{B}{E O}{H}{W l}{σ}{Q:St->Hp->Prop},(∀i∈is,i<σ.length)->aH K B E O H W σ->Reps K (az H O) vs us->mP is vs W=some l ->
  (∀F,aH K B E O H l F->bp B O O W l σ F->Q F H)->qg is us σ H Q
 | [],[],us,_,_,_,_,_,_,_,_,_,st,r,e,q=>by
  subst r;cases e;exact⟨rfl,q _ st .refl⟩
 | [],_::_,_,_,_,_,_,_,_,_,_,_,_,_,e,_=>by simp[mP]at e
 | _::_,[],_,_,_,_,_,_,_,_,_,_,_,_,e,_=>by simp[mP]at e
 |i::is,v::vs,us,B,E,O,H,W,l,σ,Q,hi,st,r,e,q=>by
  obtain⟨u,U,rfl,Y,Z⟩:=r;obtain⟨z,k1⟩:=st.store (i:=i) (hi i (.head _)) Y;refine⟨u,U,rfl,?_⟩;exact vB (λj hj=>by rw[J9];exact hi j (.tail _ hj)) z Z e λF J k'=>q F J (k1.trans k')
def EA{K:L8}(hi:∀i∈is,i<n):BD K n (FL K is.length (qg is)) (cW is):=by
 intro B E O H W l σ x u Q J st r e q;cases x with
 |tup vs =>
  obtain⟨a,us,rfl,U,z⟩:=r;have Y:∀{is}{vs}{W l},mP is vs W=some l->vs.length=is.length:=by
   intro is
   induction is with
   |nil=>intro vs W l h;cases vs<;>simp[mP]at h ⊢
   |cons i is ih=>intro vs W l h;cases vs<;>simp[mP]at h ⊢;exact ih h
  exact⟨a,us,rfl,(bW H O).seqT (d6 U),by rw[<- z.length];exact Y e,vB (λi h=>by rw[J];exact hi i h) st z e q⟩
 | _=>cases e
def EB(g:Gf X T k cal)(d:Df X)(hi:dH X.N X.env.scope is J=true)(hw:PI X (.Tuple J j Y) it (tW X.K cal U src))(z:eW it=true)(Z:PSs X b (tSs X.K cal body)) :
  PS X (.For (.Tuple J j Y) it b [] pos) (tS X.K cal (.forT is U src body)):=by
 obtain⟨h1,h2⟩:=nh hi;refine PS.imp' (sI d.own g.calm hw (CQ g.calm (o9 d hi) h1 h2) Z (by intro v;cases it<;>first|rfl|(simp[eW]at z))) λD σ H hl q=>?_
 obtain⟨B,E,O,W,st,q⟩:=q;rw[ex]at q;cases e:(evs cal src W).bind (aW U)with
 |none=>rw[e]at q;exact(show False from q).elim
 |some xs =>
  rw[e]at q;simp only[gf]at e;obtain⟨vs,e1,e2⟩:=e;exact zr (tk:=cW is) hl (EA (rU hi)) st e1 e2 q
def vC(g:Gf X T k cal)(d:Df X)(hi:X.N[i]?=some x)(hx:Loc X.env.scope x)(hc:chk T Z X.N X.env.scope v=true)(hs:oY X.env.scope x px v Z=true):∃t,PS X (.Assign [.Name x px] v pos) (v3 t (iZ i))/\(∀σ H Q,tF X.K cal Z σ H Q->t σ H Q)/\iy Z=true:=by
 unfold oY at hs;have hl:=am hs;obtain⟨c,w,_⟩:=hl;obtain rfl:=tz w;cases Z with
 |comp k' src js cond elt =>
  obtain⟨e,y,py,it,ifs,scope,cpos,e0,h⟩:=kG hc;rw[e0]at hs ⊢;simp only[pb,IM]at h;obtain⟨⟨⟨⟨h1,h2⟩,h3⟩,h4⟩,h5⟩:=h;have hw:=kL (tg:=.Name y py) (λz=>by cases z) g h2 (λxs Y=>⟨sounds src g Y,bM Y⟩) (λm x hm hx=>match src,hm with|[m'],rfl=>(av m' g (cf hx).1.1).1);exact⟨_,sX d.nd hi hx (kK h1) g.calm hw.1 (λJ U C fp=>qb h3 λc hc=>(av cond (g.blk y _ scope J U C fp) hc).2) (λJ U C fp=>(av elt (g.blk y _ scope J U C fp) h4).1) (wJ d hs) (by have:=hw.2;intro v;cases it<;>first|rfl|(simp[eW]at this)) (.inl (d.fn x)),
   λσ H Q q=>tR.comp_go h5 q,rfl⟩
 | _=>cases (show false=true from hc)
def GZ(U:iy J=true){K:L8}(q:tE K cal J σ H Q):tF K cal J σ H Q:=by
 obtain⟨B,E,O,W,v,st,z,q⟩:=q;have hv:∃xs,v=.lst xs:=by
  cases J with
  |lst es =>
   rw[ev,gf]at z;obtain⟨vs,_,hv⟩:=z;split at hv
   .cases hv;exact⟨_,rfl⟩
   .cases hv
  |comp _ _ _ _ _=>exact rP W v z
  |blt b es=>cases b<;>first|exact eI (.inl rfl) W v z|exact eI (.inr (.inl rfl)) W v z|exact eI (.inr (.inr (.inl rfl))) W v z|exact eI (.inr (.inr (.inr (.inl rfl)))) W v z|exact eI (.inr (.inr (.inr (.inr rfl)))) W v z|(simp[iy]at U)
  | _=>simp[iy]at U
 obtain⟨xs,rfl⟩:=hv;exact⟨B,E,O,W,xs,st,z,λp us H' s Y Z r=>q _ _ s (vk st.here Y Z r)⟩
end
section
variable{T:Tab}{N:List Str}{sc:Scope}
def BE(h:fk T N sc (.set i e) s=true):∃x px v pos,s=.Assign [.Name x px] v pos/\(N[i]?==some x&&gj sc x&&aq x&&chk T e N sc v&&!aK e&&(br v||oY sc x px v e))=true:=by
 obtain⟨q,z,h1⟩:=am h;obtain⟨pos,rfl⟩:=jK z;exact⟨_,_,_,_,rfl,h1⟩
def BF(h:fk T N sc (.setOwn i e) s=true):∃x px v pos,s=.Assign [.Name x px] v pos/\(N[i]?==some x&&gj sc x&&aq x&&chk T e N sc v&&iy e&&(br v||oY sc x px v e))=true:=by
 obtain⟨q,z,h1⟩:=am h;obtain⟨pos,rfl⟩:=jK z;exact⟨_,_,_,_,rfl,h1⟩
def t7 (h:fk T N sc (.append i e) s=true):∃x p m ap v cp pos,s=.Expr (.Call (.Attribute (.Name x p) m ap) [v] [] cp) pos/\(aS N sc i x&&m==("append":Str)&&chk T e N sc v&&!aK e&&ah v&&ap.endLine==cp.line)=true:=by
 obtain⟨q,z,h1⟩:=am h;obtain⟨v,J,h2⟩:=am h1;obtain⟨p,pos,rfl⟩:=lU z;rw[cO J];exact⟨_,_,_,_,_,_,_,rfl,h2⟩
def wQ (h:fk T N sc (.popAt i e) s=true):∃x p m ap v cp pos,s=.Expr (.Call (.Attribute (.Name x p) m ap) [v] [] cp) pos/\(aS N sc i x&&m==("pop":Str)&&chk T e N sc v&&ah v&&ap.endLine==cp.line)=true:=by
 obtain⟨q,z,h1⟩:=am h;obtain⟨v,J,h2⟩:=am h1;obtain⟨p,pos,rfl⟩:=lU z;rw[cO J];exact⟨_,_,_,_,_,_,_,rfl,h2⟩
def t8 (h:fk T N sc (.extend i e) s=true):∃x p m ap v cp pos,s=.Expr (.Call (.Attribute (.Name x p) m ap) [v] [] cp) pos/\(aS N sc i x&&m==("extend":Str)&&chk T e N sc v&&ah v&&ap.endLine==cp.line)=true:=by
 obtain⟨q,z,h1⟩:=am h;obtain⟨v,J,h2⟩:=am h1;obtain⟨p,pos,rfl⟩:=lU z;rw[cO J];exact⟨_,_,_,_,_,_,_,rfl,h2⟩
def t9(h:fk T N sc (.setIdx i k e) s=true):∃x p s' sp v pos,s=.Assign [.Subscript (.Name x p) s' sp] v pos/\(aS N sc i x&&chk T k N sc s'&&bv s'&&chk T e N sc v&&!aK e&&br v)=true:=by
 obtain⟨q,z,h1⟩:=am h;obtain⟨p,sp,pos,rfl⟩:=vc z;exact⟨_,_,_,_,_,_,rfl,h1⟩
def zt(h:fk T N sc (.dput i k e) s=true):∃x p s' sp v pos,s=.Assign [.Subscript (.Name x p) s' sp] v pos/\(aS N sc i x&&chk T k N sc s'&&bv s'&&chk T e N sc v&&!aK e&&br v)=true:=by
 obtain⟨q,z,h1⟩:=am h;obtain⟨p,sp,pos,rfl⟩:=vc z;exact⟨_,_,_,_,_,_,rfl,h1⟩
def zu(h:fk T N sc (.newD m i) s=true):∃x p dp pos,s=.Assign [.Name x p] (.Dict [] [] dp) pos/\(N[i]?==some x&&gj sc x&&aq x)=true:=by
 obtain⟨q,z,h1⟩:=am h;rw[pb]at h1;obtain⟨pos,rfl⟩:=jK z;obtain⟨p,J⟩:=yP h1.1;rw[J];exact⟨_,_,_,_,rfl,h1.2⟩
def BG(h:fk T N sc (.ite c a b) s=true):∃t x y pos,s=.If t x y pos/\(chk T c N sc t&&chkSs T N sc a x&&chkSs T N sc b y)=true:=by
 cases s with
 |If t x y pos=>exact⟨t,x,y,pos,rfl,h⟩
 | _=>cases (show false=true from h)
def zv (h:fk T N sc (.forX i y body) s=true):∃x px it b pos,s=.For (.Name x px) it b [] pos/\(N[i]?==some x&&gj sc x&&aq x&&onQ (fnQ it) (λq=>q.1==("range":Str)&&glB sc q.1&&q.2.2.isEmpty&&dg T y N sc q.2.1&&ah q.2.1)&&chkSs T N sc body b)=true:=by
 rw[Bh]at h;split at h
 .exact⟨_,_,_,_,_,rfl,h⟩
 .cases h
def zw(h:fk T N sc (.for1 i k src body) s=true):∃x px it b pos,s=.For (.Name x px) it b [] pos/\(N[i]?==some x&&gj sc x&&aq x&&mR sc false (λxs=>chks T src N sc xs) k it&&chkSs T N sc body b)=true:=by
 simp[Bi]at h;split at h<;>first|(cases h;done)|(rename_i z;cases z;exact⟨_,_,_,_,_,rfl,h⟩)|(injections;done)|(injections;subst_vars;exact⟨_,_,_,_,_,rfl,h⟩)
def zx(h:fk T N sc (.forT is k src body) s=true):∃J j U it b pos,s=.For (.Tuple J j U) it b [] pos/\(dH N sc is J&&mR sc true (λxs=>chks T src N sc xs) k it&&chkSs T N sc body b)=true:=by
 simp[Bj]at h;split at h<;>first|(cases h;done)|(rename_i z;cases z;exact⟨_,_,_,_,_,_,rfl,h⟩)|(injections;done)|(injections;subst_vars;exact⟨_,_,_,_,_,_,rfl,h⟩)
def zy(h:fk T N sc (.retM e) s=true):∃v pos,s=.Return (some v) pos/\(chk T e N sc v&&!aK e)=true:=by
 obtain⟨v,z,h1⟩:=am h;obtain⟨pos,rfl⟩:=lV z;exact⟨_,_,rfl,h1⟩
def BH(h:fk T N sc (.ret e) s=true):∃v pos,s=.Return (some v) pos/\(chk T e N sc v&&!aK e)=true:=by
 obtain⟨v,z,h1⟩:=am h;obtain⟨pos,rfl⟩:=lV z;exact⟨_,_,rfl,h1⟩
def t_(h:fk T N sc (.retOwn i) s=true):∃x p pos,s=.Return (some (.Name x p)) pos/\(aS N sc i x)=true:=by
 obtain⟨v,z,h1⟩:=am h;obtain⟨x,J,h2⟩:=am h1;obtain⟨pos,rfl⟩:=lV z;obtain⟨p,rfl⟩:=yO J;exact⟨_,_,_,rfl,h2⟩
end
def wR(g:Gf X T k cal)(d:Df X)(h:fk T X.N X.env.scope (.set i e) s=true):PS X s (tS X.K cal (.set i e)):=by
 obtain⟨x,px,v,pos,rfl,hc⟩:=BE h;simp only[pb,L3,IE,IM]at hc;obtain⟨⟨⟨⟨⟨h1,h2⟩,h3⟩,J⟩,U⟩,z⟩:=hc;rcases z with z|z
 .exact GN d h1 (i9 h2) (av e g J).1 U z
 .obtain⟨t,p,Y,Z⟩:=vC (pos:=pos) g d h1 (i9 h2) J z;exact PS.imp' p λD σ H hl q=>Y _ _ _ (GZ Z (zh (ltN h1 hl) U q))
noncomputable def EC:MS->Bool
 | .freeze _=>true
 | _=>false
mutual
theorem ED{T:Tab}{k:Nat}{cal:Cal}{X:Cx}(g:Gf X T k cal)(d:Df X):∀(m:MS) (s:Stmt),fk T X.N X.env.scope m s=true->PS X s (tS X.K cal m)
 | .set i e,s,h=>wR g d h
 | .setOwn i e,s,h=>by
  obtain⟨x,px,v,pos,rfl,hc⟩:=BF h;simp only[pb,L3,IE]at hc;obtain⟨⟨⟨⟨⟨h1,h2⟩,Y⟩,U⟩,J⟩,Z⟩:=hc;rcases Z with Z|Z
  .exact GO d h1 (i9 h2) (Ej g U J) Z
  .obtain⟨t,p,hp,hf⟩:=vC (pos:=pos) g d h1 (i9 h2) U Z;exact PS.imp' p λD σ H hl q=>hp _ _ _ (zi (ltN h1 hl) q)
 | .append i e,s,h=>by
  obtain⟨x,p,m,ap,v,cp,pos,rfl,hc⟩:=t7 h;simp only[pb,IE,IM]at hc;obtain⟨⟨⟨⟨⟨h1,rfl⟩,Y⟩,U⟩,J⟩,Z⟩:=hc;exact zk (av e g Y).1 h1 U J (IE.mpr Z)
 | .extend i e,s,h=>by
  obtain⟨x,p,m,ap,v,cp,pos,rfl,hc⟩:=t8 h;simp only[pb,IE]at hc;obtain⟨⟨⟨⟨h1,rfl⟩,Y⟩,J⟩,Z⟩:=hc;exact zl (av e g Y).1 h1 J (IE.mpr Z)
 | .setIdx i kk e,s,h=>by
  obtain⟨x,p,s',sp,v,pos,rfl,hc⟩:=t9 h;simp only[pb,IM]at hc;obtain⟨⟨⟨⟨⟨h1,h2⟩,Y⟩,U⟩,J⟩,Z⟩:=hc;exact zm (av kk g h2).1 (av e g U).1 h1 J Z Y
 | .unpack _ _,s,h=>absurd (show false=true from h) pd
 | .expr _,s,h=>absurd (show false=true from h) pd
 | .ite c a b,s,h=>by
  obtain⟨t,x,y,pos,rfl,hc⟩:=BG h;simp only[pb]at hc;exact Ie (av c g hc.1.1).2 (soundSs g d a x hc.1.2) (soundSs g d b y hc.2)
 | .for1 i k' src body,s,h=>by
  obtain⟨x,px,it,b,pos,rfl,hc⟩:=zw h;simp only[pb,IE]at hc;obtain⟨⟨⟨⟨h1,h2⟩,Y⟩,U⟩,J⟩:=hc;have hw:=kL (tg:=.Name x px) (λz=>by cases z) g U (λxs ao=>⟨sounds src g ao,bM ao⟩) (λm x hm hx=>match src,hm with|[m'],rfl=>(av m' g (by simp only[chks,pb]at hx;exact hx.1.1)).1);exact Ey g d h1 (i9 h2) hw.1 hw.2 (soundSs g d body b J)
 | .forT is k' src body,s,h=>by
  obtain⟨ts,j,tp,it,b,pos,rfl,hc⟩:=zx h;simp only[pb]at hc;obtain⟨⟨h1,U⟩,J⟩:=hc;have hw:=kL (tg:=.Tuple ts j tp) (λ_=>⟨_,_,_,rfl⟩) g U (λxs ao=>⟨sounds src g ao,bM ao⟩) (λm x hm hx=>match src,hm with|[m'],rfl=>(av m' g (by simp only[chks,pb]at hx;exact hx.1.1)).1);exact EB g d h1 hw.1 hw.2 (soundSs g d body b J)
 | .while _ _ _,s,h=>absurd (show false=true from h) pd
 | .ret e,s,h=>by
  obtain⟨v,pos,rfl,hc⟩:=BH h;simp only[pb,IM]at hc;exact GP (av e g hc.1).1 hc.2
 | .setP i e,s,h=>by
  obtain⟨q,e1,hc⟩:=am (show onQ (rB s) (λq=>X.N[i]?==some q.1&&gj X.env.scope q.1&&aq q.1&&onQ (DL q.2.2) λr=>r.1==("list":Str)&&r.2.1==("reversed":Str)&&glB X.env.scope r.1&&glB X.env.scope r.2.1&&chk T e X.N X.env.scope r.2.2&&ah r.2.2)=true from h);obtain⟨x,px,v⟩:=q;obtain⟨pos,rfl⟩:=jK e1;obtain⟨a1,U⟩:=oe.mp hc;obtain⟨a2,Y⟩:=oe.mp a1;obtain⟨h1,h2⟩:=oe.mp a2;obtain⟨r,e2,hr⟩:=am U;obtain⟨f,f2,w⟩:=r;obtain⟨p,p2,pos2,cp,rfl⟩:=Bb e2;obtain⟨b1,c6⟩:=oe.mp hr;obtain⟨b2,c5⟩:=oe.mp b1;obtain⟨b3,c4⟩:=oe.mp b2;obtain⟨b4,c3⟩:=oe.mp b3;obtain⟨c1,c2⟩:=oe.mp b4;obtain rfl:f=("list":Str):=eq_of_beq c1;obtain rfl:f2=("reversed":Str):=eq_of_beq c2;exact Ex g d (eq_of_beq h1) (i9 h2) c3 c4 (av e g c5).1 c6
 | .setX i y,s,h=>by
  obtain⟨q,e1,hc⟩:=am (show onQ (rB s) (λq=>X.N[i]?==some q.1&&gj X.env.scope q.1&&aq q.1&&dg T y X.N X.env.scope q.2.2&&br q.2.2)=true from h);obtain⟨pos,rfl⟩:=jK e1;obtain⟨a2,J⟩:=oe.mp hc;obtain⟨a3,U⟩:=oe.mp a2;obtain⟨a4,Y⟩:=oe.mp a3;obtain⟨h1,h2⟩:=oe.mp a4;exact Ev d (eq_of_beq h1) (i9 h2) (eJ g y _ U) J
 | .appX i y,s,h=>by
  obtain⟨q,e1,hc⟩:=am (show onQ (wC s) (λq=>onQ (jm q.2.2.2.1) λv=>aS X.N X.env.scope i q.1&&q.2.1==("append":Str)&&dg T y X.N X.env.scope v&&ah v&&q.2.2.1.endLine==q.2.2.2.2.line)=true from h);obtain⟨v,e2,hc⟩:=am hc;obtain⟨x,m,ap,as,cp⟩:=q;obtain⟨p,pos,rfl⟩:=lU e1;have e3:as=[v]:=cO e2;subst e3;obtain⟨a2,J⟩:=oe.mp hc;obtain⟨a3,U⟩:=oe.mp a2;obtain⟨a4,Y⟩:=oe.mp a3;obtain⟨h1,h2⟩:=oe.mp a4;obtain rfl:m=("append":Str):=eq_of_beq h2;exact Ew (eJ g y _ Y) h1 U J
 | .retXE y,s,h=>by
  obtain⟨v,e1,hc⟩:=am (show onQ (wD s) (λv=>dg T y X.N X.env.scope v)=true from h);obtain⟨pos,rfl⟩:=lV e1;exact BB (eJ g y _ hc)
 | .forX i y body,s,h=>by
  obtain⟨x,px,it,b,pos,rfl,h⟩:=zv h;obtain⟨a1,J⟩:=oe.mp h;obtain⟨a2,U⟩:=oe.mp a1;obtain⟨a3,Y⟩:=oe.mp a2;obtain⟨h1,h2⟩:=oe.mp a3;obtain⟨q,e1,hc⟩:=am U;obtain⟨f,e,es⟩:=q;obtain⟨p,rp,rfl⟩:=tM e1;obtain⟨b1,c5⟩:=oe.mp hc;obtain⟨b2,c4⟩:=oe.mp b1;obtain⟨b3,c3⟩:=oe.mp b2;obtain⟨c1,c2⟩:=oe.mp b3;obtain rfl:f=("range":Str):=eq_of_beq c1;have e3:es=[]:=Kc.mp c3;subst e3;exact Ez g d (eq_of_beq h1) (i9 h2) c2 (eJ g y _ c4) c5 (soundSs g d body b J)
 | .retM e,s,h=>by
  obtain⟨v,pos,rfl,hc⟩:=zy h;simp only[pb,IM]at hc;exact Em (av e g hc.1).1 hc.2
 | .retF _,s,h=>absurd (show false=true from h) pd
 | .setCall _ _ _,s,h=>absurd (show false=true from h) pd
 | .clear _,s,h=>absurd (show false=true from h) pd
 | .retOwn i,s,h=>by
  obtain⟨x,p,pos,rfl,hc⟩:=t_ h;exact zn hc
 | .retN,s,h=>absurd (show false=true from h) pd
 | .brk,s,h=>absurd (show false=true from h) pd
 | .cont,s,h=>absurd (show false=true from h) pd
 | .pass,s,h=>absurd (show false=true from h) pd
 | .never,s,h=>by
  refine xv.imp λD σ H q=>?_
  obtain⟨B,E,O,W,st,q⟩:=q;rw[ex]at q;exact q
 | .newD m i,s,h=>by
  obtain⟨x,p,dp,pos,rfl,hc⟩:=zu h;simp only[pb,IE]at hc;exact Ek d hc.1.1 (i9 hc.1.2)
 | .dput i mk me,s,h=>by
  obtain⟨x,p,s',sp,v,pos,rfl,hc⟩:=zt h;simp only[pb]at hc;exact El g (av mk g hc.1.1.1.1.2).1 (av me g hc.1.1.2).1 hc.1.1.1.1.1 hc.2
 | .freeze _,s,h=>absurd (show false=true from h) pd
 | .popAt i k,s,h=>by
  obtain⟨x,p,m,ap,a,cp,pos,rfl,hc⟩:=wQ h;simp only[pb,IE]at hc;obtain⟨⟨⟨⟨h1,rfl⟩,h2⟩,J⟩,h7⟩:=hc;exact By (av k g h2).1 h1 J (IE.mpr h7)
theorem soundSs{T:Tab}{k:Nat}{cal:Cal}{X:Cx}(g:Gf X T k cal)(d:Df X):∀(ms:List MS) (ss:List Stmt),chkSs T X.N X.env.scope ms ss=true->PSs X ss (tSs X.K cal ms)
 | [],ss,h=>by
  cases ss with
  |nil=>exact GQ
  |cons _ _=>cases h
 |m::ms,ss,h=>by
  cases hm:EC m with
  |true =>
   cases m<;>simp[EC]at hm
   cases h
  |false =>
   cases ss with
   |nil=>cases m<;>first|(cases h;done)|cases hm
   |cons s ss =>
    have h:(fk T X.N X.env.scope m s&&chkSs T X.N X.env.scope ms ss)=true:=by cases m<;>first|exact h|(simp[EC]at hm)
    simp only[pb]at h;exact Eo (ED g d m s h.1) (soundSs g d ms ss h.2)
end
structure FnD(K:L8)(x y:Str)(st:Stmt)(fa:Addr)(fd:FuncData):Prop where
 it:∃(c0 d0 k0 o0 m0:Value) (a0:Option Addr) (c1 t1:Value) (a1:Option Addr) (sl:Array (Option Value)),
  K.lookup fa=some ⟨c0,a1,.func fd,sl⟩/\PySem.W.codeIn K c1 y=true/\fd=PySem.W.fnOf x y (jz st) (dF st) (bu st) d0 k0 o0 m0 a0 c1 t1
 kp:PySem.W.keepIn K (.ref fa)=true
theorem FnD.mk'{K:L8}{st:Stmt} 
  (l:K.lookup z=some ⟨Z,a1,.func (PySem.W.fnOf x y (jz st) (dF st) (bu st) d0 U o0 m0 Y J t1),sl⟩) (c:PySem.W.codeIn K J y=true) (k:PySem.W.keepIn K (.ref z)=true) :
  FnD K x y st z (PySem.W.fnOf x y (jz st) (dF st) (bu st) d0 U o0 m0 Y J t1):=⟨⟨_,_,_,_,_,_,_,_,_,_,l,c,rfl⟩,k⟩
theorem FnD.mkd{K:L8}{st:Stmt} 
  (l:K.lookup z=some ⟨Z,a1,.func (PySem.W.fnOf x y (jz st) (dF st) (bu st) (.ref T) U o0 m0 Y J t1),sl⟩) (c:PySem.W.codeIn K J y=true) (k:PySem.W.keepIn K (.ref z)=true) :
  FnD K x y st z (PySem.W.fnOf x y (jz st) (dF st) (bu st) (.ref T) U o0 m0 Y J t1):=.mk' l c k
structure rV(T:Tab)(K:L8)(mg:Str->Option Value)(st:Stmt)(d:MD)(fa:Addr)(fd:FuncData):Prop where
 fn:FnD K d.name d.name st fa fd
 binds:db K fd d.params []
 named:mg d.name=some (.ref fa)
 scope:pH d.names d.params (bu st)
 body:chkSs T d.names (bu st) d.body (dF st)=true
def bn1{K:L8}(h:∀a,bindArgs fd ⟨[a],[]⟩=pure [(z,a)]):db K fd [z] []:=.all λus J=>match us,J with|[a],_=>h a
def bn2{K:L8}(h:∀a b,bindArgs fd ⟨[a,b],[]⟩=pure [(z,a),(J,b)]):db K fd [z,J] []:=.all λus U=>match us,U with|[a,b],_=>h a b
def bn3{K:L8}(h:∀a b c,bindArgs fd ⟨[a,b,c],[]⟩=pure [(z,a),(J,b),(pc,c)]):db K fd [z,J,pc] []:=.all λus U=>match us,U with|[a,b,c],_=>h a b c
def bn4{K:L8}(h:∀a b c d,bindArgs fd ⟨[a,b,c,d],[]⟩=pure [(z,a),(J,b),(pc,c),(U,d)]):db K fd [z,J,pc,U] []:=.all λus Y=>match us,Y with|[a,b,c,d],_=>h a b c d
def bn5{K:L8}(h:∀a b c d e,bindArgs fd ⟨[a,b,c,d,e],[]⟩=pure [(z,a),(J,b),(pc,c),(U,d),(Y,e)]):db K fd [z,J,pc,U,Y] []:=.all λus Z=>match us,Z with|[a,b,c,d,e],_=>h a b c d e
def ua{K:L8}(hd:fd.defaults=.ref T)(l:K.lookup T=some ⟨c,o,.seq vs n,J⟩)
  (h:∀us,us.length=ps.length->∃k,bindArgs fd ⟨us,[]⟩=seqItems? fd.defaults >>= k/\k (some vs)=pure (ps.zip us)):db K fd ps []:=λs us X z=>by
 rw[JD]at z ⊢;obtain⟨k,h1,h2⟩:=h us z;exact .of_defaults hd (X _ _ l) rfl h1 h2
def HD(K:L8)(x:Str)(st:Stmt)(d:MD)(q:FuncData->Prop:=λ_=>True):Prop:=d.name=x/\∃z fd,PySem.W.nsIn K mainGlobals x=some (some (.ref z))/\FnD K x x st z fd/\db K fd d.params []/\q fd
noncomputable def okD(T:Tab)(st:Stmt)(d:MD):Bool:=
 decide ((bu st).kind=.function/\(bu st).isCoroutine=false/\(bu st).isGenerator=false/\d.names.Nodup/\d.names.take d.params.length=d.params/\(∀x∈d.params,(bu st).names.lookup x=some .local\/(bu st).names.lookup x=some .cell)/\∀y∈(bu st).names,y.2≠.free)
 &&chkSs T d.names (bu st) d.body (dF st)
def zz{K:L8}{st:Stmt}(X:K.In h)(G:h.Ns mainGlobals mg)(hd:HD K x st d q)(J:okD T st d=true):∃U fd,rV T K mg st d U fd/\q fd:=by
 refine ax λZq Y=>?_
 obtain⟨e,_,_,n,f,b,z⟩:=hd;obtain⟨Z,c2⟩:=oe.mp J;obtain⟨s1,s2,s3,s4,s5,s6,s7⟩:=Jx Z;subst e;refine Y ?_;exact⟨_,_,⟨f,b,PySem.W.mg_of X G n,⟨s1,s2,s3,s4,s5,s6,s7⟩,c2⟩,z⟩
def wS(T:Tab)(K:L8)(mg:Str->Option Value):List MD->List (List Sc)->Prop
 | [],[]=>True
 |d::ds,l::ls=>(∃st z fd,rV T K mg st d z fd/\∃vs,db K fd d.params vs/\aI (l.map Sc.v) vs)/\wS T K mg ds ls
 | _,_=>False
theorem wS.get{K:L8} :∀{ds}{J}{f:Nat}{d},wS T K mg ds J->ds[f]?=some d->∃l st z fd,J[f]?=some l/\rV T K mg st d z fd/\∃vs,db K fd d.params vs/\aI (l.map Sc.v) vs
 | [],_,f,d,_,e=>by simp at e
 | _::_,[],f,d,h,e=>h.elim
 |d0::ds,l::J,0,d,h,e=>by
  cases e;obtain⟨⟨st,z,fd,r⟩,_⟩:=h;exact⟨l,st,z,fd,rfl,r⟩
 |d0::ds,l::J,f+1,d,h,e=>by
  obtain⟨k,st,z,fd,q,r⟩:=wS.get h.2 (show ds[f]?=some d from by simpa using e);exact⟨k,st,z,fd,by simpa using q,r⟩
def HQ(K:L8)(d:MD)(fd:FuncData):List Sc->Prop
 | []=>True
 |l=>∃vs,db K fd d.params vs/\aI (l.map Sc.v) vs
inductive ub(K:L8)(tp:Nat->Stmt):List MD->List Nat->List (List Sc)->Prop
 | nil:ub K tp [] [] []
 |cons {d:MD}{ds:List MD}{i:Nat}{is:List Nat}{l:List Sc}{ls:List (List Sc)}:HD K d.name (tp i) d (λfd=>HQ K d fd l)->ub K tp ds is ls->ub K tp (d::ds) (i::is) (l::ls)
noncomputable def G0(T:Tab)(z:Nat->Stmt):List MD->List Nat->Bool
 |d::ds,i::is=>okD T (z i) d&&G0 T z ds is
 | _,_=>true
def EE{T:Tab}{K:L8}{mg:Str->Option Value}{h:Heap}{J:Nat->Stmt}{ds:List MD}{is:List Nat}{z:List (List Sc)}(X:K.In h)(G:h.Ns mainGlobals mg)(a:ub K J ds is z)(U:G0 T J ds is=true):wS T K mg ds z:=by
 induction a with
 |nil=>trivial
 | @cons d ds i is l z hd _ ih =>
  obtain⟨Y,Z⟩:=oe.mp U;obtain⟨fa,fd,D,q⟩:=zz X G hd Y;refine⟨⟨_,fa,fd,D,?_⟩,ih Z⟩;cases l with
  |nil=>exact⟨_,D.binds,.nil⟩
  |cons _ _=>exact q
structure EF(T:Tab)(K:L8)(mg:Str->Option Value)(ds:List MD)
 :Prop where
 tab:T.fs=ds.map (·.name)
 defs:wS T K mg ds T.ds
 blt:∀x∈jP,mg (x:Str)=none
 gs:∀p∈T.gs,∃u,mg p.1=some u/\aF (toV p.2) u
def ni(hd:ds[f]?=some d)(h:aa ds (n+1) f args=some r):args.length=d.params.length /\
  ((∃W,exs (aa ds n) d.body (args.map some++replicate (d.names.length-args.length) none)=.next W/\r=.non)\/exs (aa ds n) d.body (args.map some++replicate (d.names.length-args.length) none)=.ret r \/
   ∃xs,exs (aa ds n) d.body (args.map some++replicate (d.names.length-args.length) none)=.retF xs/\r=.lst xs):=by
 rw[aa,hd]at h;dsimp only at h;by_cases z:args.length=d.params.length
 .rw[if_pos z]at h;refine⟨z,?_⟩;cases he:exs _ d.body _<;>simp_all
 .simp_all
def lh(U:f<1000)(J:ds[f+1000]?=none)(hd:ds[f]?=some d)(h:aa ds (n+1) (f+1000) args=some r):args.length=d.params.length /\
  ∃xs,exs (aa ds n) d.body (args.map some++replicate (d.names.length-args.length) none)=.retF xs/\r=.lst xs:=by
 rw[aa,J]at h;dsimp only at h;rw[if_neg (by omega),JX,hd]at h;dsimp only at h;by_cases z:args.length=d.params.length
 .rw[if_pos z]at h;refine⟨z,?_⟩;cases he:exs (aa ds n) d.body (args.map some++replicate _ none)<;>simp_all
 .simp_all
def o_(Z:f<1000)(J:ds[f+2000]?=none)(hd:ds[f]?=some d)(h:aa ds (n+1) (f+2000) args=some r):args.length=d.params.length /\
  ∃v W ms,exs (aa ds n) d.body (args.map some++replicate (d.names.length-args.length) none)=.retM v W/\d5 args W=some ms/\r=.tup (v::ms):=by
 rw[aa,J]at h;dsimp only at h;rw[if_pos (by omega)]at h;rw[JX,hd]at h;dsimp only at h;by_cases z:args.length=d.params.length
 .rw[if_pos z]at h;refine⟨z,?_⟩;cases he:exs (aa ds n) d.body (args.map some++replicate (d.names.length-args.length) none)with
  |retM v W =>
   rw[he]at h;dsimp only at h;rw[ti]at h;obtain⟨ms,U,Y⟩:=h;exact⟨v,W,ms,rfl,U,Y.symm⟩
  | _=>rw[he]at h;cases h
 .simp_all
def kN{K:L8}(h:cG K O H args vs ds ms):∀(i:Nat) d a,args[i]?=some (.mutD d)->vs[i]?=some (.ref a)->a∈ms:=by
 induction h with
 |nil=>intro i d a e;simp at e
 |mutd h U t ih =>
  intro i d a z J;cases i with
  |zero=>simp at J;subst J;exact .head _
  |succ i=>exact .tail _ (ih i d a (by simpa using z) (by simpa using J))
 |other hm t ih =>
  intro i d a z J;cases i with
  |zero=>simp at z;exact absurd z (hm d)
  |succ i=>exact ih i d a (by simpa using z) (by simpa using J)
def rW{K:L8}(h:cG K O H args vs ds ms):∀(i j:Nat) d d' a,i≠j->args[i]?=some (.mutD d)->args[j]?=some (.mutD d')->vs[i]?=some (.ref a)->vs[j]?≠some (.ref a):=by
 induction h with
 |nil=>intro i j d d' a _ e;simp at e
 |mutd h hn t ih =>
  intro i j d d' a Z z J U Y;cases i with
  |zero =>
   cases j with
   |zero=>exact Z rfl
   |succ j =>
    simp at U;subst U;exact hn (kN t j d' _ (by simpa using J) (by simpa using Y))
  |succ i =>
   cases j with
   |zero =>
    simp at Y;subst Y;exact hn (kN t i d _ (by simpa using z) (by simpa using U))
   |succ j=>exact ih i j d d' a (by omega) (by simpa using z) (by simpa using J) (by simpa using U) (by simpa using Y)
 |other hm t ih =>
  intro i j d d' a Z z J U Y;cases i with
  |zero=>simp at z;exact hm d z
  |succ i =>
   cases j with
   |zero=>simp at J;exact hm d' J
   |succ j=>exact ih i j d d' a (by omega) (by simpa using z) (by simpa using J) (by simpa using U) (by simpa using Y)
def uc{K:L8}(h:cG K O H args vs ds ms):∀{W}{z},d5 args W=some z->∀a∈ms,∃(i:Nat) (d:DD),vs[i]?=some (.ref a)/\W[i]?=some (some (.mutD d)):=by
 induction h with
 |nil=>intro W z _ a U;cases U
 |mutd h hn t ih =>
  intro W z e b J
  match W,e with
  |some (.mutD d')::W,e =>
   rw[d5,ti]at e;obtain⟨Y,Z,rfl⟩:=e;rcases IB.mp J with rfl|J
   .exact⟨0,d',rfl,rfl⟩
   .obtain⟨i,d,h1,h2⟩:=ih Z b J;exact⟨i+1,d,by simpa using h1,by simpa using h2⟩
 |other hm t ih =>
  intro W z e b J;rename_i m v as vs ds ms
  match m,W,e,hm with
  | .val _,r::W,e,hm =>
   obtain⟨i,d,h1,h2⟩:=ih e b J;exact⟨i+1,d,by simpa using h1,by simpa using h2⟩
  | .mutD d,_,_,hm=>exact absurd rfl (hm d)
def wT{K:L8}(h:cG K O H args vs ds ms):∀{W}{z},d5 args W=some z->(∀(i:Nat) d d' a,args[i]?=some (.mutD d)->W[i]?=some (some (.mutD d'))->vs[i]?=some (.ref a)->DAt K H' O' a d')->cG K O' H' args vs z ms:=by
 induction h with
 |nil=>intro W z e _;rw[d5]at e;cases e;exact .nil
 |mutd h hn t ih =>
  intro W z e J
  match W,e with
  |some (.mutD d')::W,e =>
   rw[d5,ti]at e;obtain⟨a0,e0,rfl⟩:=e;exact .mutd (J 0 _ d' _ rfl rfl rfl) hn (ih e0 λi d U a Y Z e3=>J (i+1) d U a (by simpa using Y) (by simpa using Z) (by simpa using e3))
 |other hm t ih =>
  intro W z e J;rename_i m v as vs ds ms
  match m,W,e,hm with
  | .val _,r::W,e,hm =>
   exact .other hm (ih e λi d U a Y Z e3=>J (i+1) d U a (by simpa using Y) (by simpa using Z) (by simpa using e3))
  | .mutD d,_,_,hm=>exact absurd rfl (hm d)
theorem jq :∀{xs}{ys}{i:Nat}{x},Paired F xs ys->xs[i]?=some x->∃y,ys[i]?=some y/\F x y
 | _,_,_,_,.nil,e=>by simp at e
 | _,_,0,_,.cons r _,e=>by simp at e;subst e;exact⟨_,rfl,r⟩
 | _,_,i+1,x,.cons _ t,e=>by
  obtain⟨u,h1,h2⟩:=jq (i:=i) (x:=x) t (by simpa using e);exact⟨u,by simpa using h1,h2⟩
def rX{K:L8}(U:∀a∈O,H a≠none)(h:Paired (lb K O H) args vs):aH K H O O H (args.map some++replicate (N.length-args.length) none) (eD N vs):=by
 have Y:=Paired.length h;have get:∀i m,(args.map some++replicate (N.length-args.length) none)[i]?=some (some m)->∃u,(eD N vs)[i]?=some (some u)/\lb K O H m u:=λi m e=>by
  by_cases hi:i<args.length
  .rw[Ju (by simpa using hi),IS]at e;cases J:args[i]? with
   |none=>rw[J]at e;cases e
   |some m' =>
    rw[J]at e;cases e;obtain⟨u,z,q⟩:=jq h J;refine⟨u,?_,q⟩;unfold L2.eD;rw[Ju (by rw[tf,<- Y];exact hi),IS,z]
    rfl
  .rw[JJ (by simpa using hi),K1]at e;split at e<;>cases e
 refine⟨aj.refl H,U,λa Z=>Z,U,by unfold L2.eD;simp[Y],λi m e=>?_,λi j xs ys a _ e _ ox _=>?_
  ⟩
 .obtain⟨u,z,q⟩:=get i m e;refine⟨u,z,?_⟩;cases m<;>first|exact q|exact q.elim
 .obtain⟨u,z,q⟩:=get i _ e;cases xs<;>first|exact q.elim|cases ox
def kO(h:Paired F args vs):∀(i:Nat) m,(args.map some++replicate (N.length-args.length) none)[i]?=some (some m)->args[i]?=some m/\∃u,vs[i]?=some u/\(eD N vs)[i]?=some (some u)/\F m u:=λi m e=>by
 have U:=Paired.length h;by_cases hi:i<args.length
 .rw[Ju (by simpa using hi),IS]at e;cases z:args[i]? with
  |none=>rw[z]at e;cases e
  |some Y =>
   rw[z]at e;cases e;obtain⟨u,J,q⟩:=jq h z;refine⟨rfl,u,J,?_,q⟩;unfold L2.eD;rw[Ju (by rw[tf,<- U];exact hi),IS,J]
   rfl
 .rw[JJ (by simpa using hi),K1]at e;split at e<;>cases e
def wU{K:L8}(hO:∀a∈O,H a≠none)(h:Paired (DX K O H) args vs)(hm:cG K O H args vs ds ms):aH K (i8 H ms) (O.filter λb=>decide (b∉ms)) O H (args.map some++replicate (N.length-args.length) none) (eD N vs):=by
 have hl:=Paired.length h;have le:aj (i8 H ms) H:=λb u e=>by
  unfold i8 at e;split at e
  .cases e
  .exact e
 refine⟨le,hO,λa z=>(JG.mp z).1,λa z=>?_,by unfold L2.eD;simp[hl],λi m e=>?_,λi j x y a J e1 e2 ox oy s1 s2=>?_
  ⟩
 .obtain⟨h1,h2⟩:=JG.mp z;unfold i8;rw[if_neg (Jx h2)];exact hO a h1
 .obtain⟨U,u,Y,Z,q⟩:=kO h i m e;refine⟨u,Z,?_⟩;cases m with
  |val v=>exact q
  |mutD d =>
   obtain⟨a,rfl,h1,h2⟩:=q;refine⟨a,rfl,h1,h2,?_⟩;unfold i8;rw[if_pos (kN hm i d a U Y)]
  | _=>exact q.elim
 .obtain⟨U,u,ao,Z,q⟩:=kO h i x e1;obtain⟨eb,w,ar,ew,q'⟩:=kO h j y e2;rw[Z]at s1;cases s1;rw[ew]at s2;cases s2;cases x with
  |val _=>cases ox
  |mutD d =>
   cases y with
   |val _=>cases oy
   |mutD d'=>exact rW hm i j d d' a J U eb ao ar
   | _=>exact q'.elim
  | _=>exact q.elim
section
variable{T:Tab}{P:Program}{w:World}{K:L8}{mg:Str->Option Value}{base:Heap}{ds:List MD}
structure G1(T:Tab)(P:Program)(w:World)(K:L8)(mg:Str->Option Value)(base:Heap)(ds:List MD)(n g:Nat)(fa:Addr)(fd:FuncData)(ps:List Str):Prop where
 m:jd P w K mg base CX0 n fa fd ps (spM K (aa ds n) g)
 f:jd P w K mg base CX0 n fa fd ps (spF K (aa ds n) g)
 d:jd P w K mg base CX0 n fa fd ps (spD K (aa ds n) g)
theorem l6(ao:ds.length<=1000)
  (pr:EF T K mg ds)
 :∀n f d,ds[f]?=some d->∀st fa fd,rV T K mg st d fa fd->G1 T P w K mg base ds n f fa fd d.params
 |0,f,d,hd,st,fa,fd,D=>{
   m:=⟨λvs H Q E h=>(by obtain⟨O,args,r,_,_,e,_⟩:=h;exact absurd e (by simp[aa])),λA outer s H args us vs Q E _ _ _ _ h=>(by obtain⟨O,args,r,_,_,e,_⟩:=h;exact absurd e (by simp[aa]))⟩
   f:=⟨λvs H Q E h=>(by obtain⟨O,args,r,_,_,e,_⟩:=h;exact absurd e (by simp[aa])),λA outer s H args us vs Q E _ _ _ _ h=>(by obtain⟨O,args,r,_,_,e,_⟩:=h;exact absurd e (by simp[aa]))⟩
   d:=⟨λvs H Q E h=>(by obtain⟨O,args,v,ds,Y,ms,_,_,_,e,_⟩:=h;exact absurd e (by simp[aa])),λA outer s H args us vs Q E _ _ _ _ h=>(by obtain⟨O,args,v,ds,Y,ms,_,_,_,e,_⟩:=h;exact absurd e (by simp[aa]))⟩
   }
 |n+1,f,d,hd,st,fa,fd,D=>by
  refine ax λZq kq=>?_
  obtain⟨c0,d0,k0,o0,m0,a0,a8,t1,a1,sl,lk,hc,rfl⟩:=D.fn.it;have hf:=IF (IA.mp hd).1 ao;have hn:ds[f+1000]?=none:=getElem?_eq_none (by omega);have b4:ds[f+2000]?=none:=getElem?_eq_none (by omega);have gg:∀{CX}{A}{outer}{s}{H}{E},_->Gf (qK CX P w K mg base d.names d.name (bu st) fa a8 A outer s H E).nox T n (aa ds n):=λ{CX A outer s H E} hr=>{
   calm:=rfl
   room:=hr
   fns:=λf' x hx=>by
    rw[pr.tab,IS]at hx;cases hd2:ds[f']? with
    |none=>rw[hd2]at hx;cases hx
    |some d2 =>
     rw[hd2]at hx;cases hx;obtain⟨l2,a2,J,U,el,D2,bd⟩:=pr.defs.get hd2;exact⟨J,U,d2.params,D2.named,D2.fn.kp,D2.binds,(l6 ao pr n f' d2 hd2 a2 J U D2).m,λl hl=>by rw[el]at hl;cases hl;exact bd⟩
   blt:=pr.blt
   gs:=pr.gs
   fnsF:=λf' x hx=>by
    rw[pr.tab,IS]at hx;cases hd2:ds[f']? with
    |none=>rw[hd2]at hx;cases hx
    |some d2 =>
     rw[hd2]at hx;cases hx;obtain⟨l2,a2,J,U,el,D2,bd⟩:=pr.defs.get hd2;exact⟨J,U,d2.params,D2.named,D2.fn.kp,D2.binds,(l6 ao pr n f' d2 hd2 a2 J U D2).f⟩
   fnsD:=λf' x hx=>by
    rw[pr.tab,IS]at hx;cases hd2:ds[f']? with
    |none=>rw[hd2]at hx;cases hx
    |some d2 =>
     rw[hd2]at hx;cases hx;obtain⟨l2,a2,J,U,el,D2,bd⟩:=pr.defs.get hd2;exact⟨J,U,d2.params,D2.named,D2.fn.kp,D2.binds,(l6 ao pr n f' d2 hd2 a2 J U D2).d⟩
   }
  have df:∀{CX}{A}{outer}{s}{H}{E},Df (qK CX P w K mg base d.names d.name (bu st) fa a8 A outer s H E).nox:=λ{CX A outer s H E}=>⟨D.scope.nd,λ_=>rfl,PassesOwn.never,by
    have hk:(qK CX P w K mg base d.names d.name (bu st) fa a8 A outer s H E).nox.env.scope.kind=.function:=D.scope.kind;unfold Env.blockKind;rw[hk]
    rfl
    ⟩
  refine kq ?_;refine {
   m:=?_
   f:=?_
   d:=?_
   }
  .refine xE lk hc D.scope (λvs H Q E h=>?_) (λA outer s H vs Q E hr h=>?_)
   .obtain⟨O,args,r,_,hp,e,_⟩:=h;rw[<- (ni hd e).1];exact(Paired.length hp).symm
   .obtain⟨O,args,r,hO,hp,e,q⟩:=h;obtain⟨hl,c2⟩:=ni hd e;refine⟨_,(soundSs (gg hr) df d.body (dF st) D.body).nox,H,O,O,_,rX hO hp,?_⟩;rcases c2 with⟨W,he,rfl⟩|he|⟨xs,he,rfl⟩
    .rw[he];exact λF H' O' Z _=>q _ H' Z.keep (p5 _)
    .rw[he];exact λu H' s' r'=>q u H' s' r'
    .rw[he];refine λp us H' s' b2 b3 r'=>q _ H' s' ?_
     rw[Rep];refine⟨p,us,rfl,SqL.of ?_,Reps.mono gP _ r'⟩;rw[ba λz=>hO p z b2];exact b3
  .refine xE lk hc D.scope (λvs H Q E h=>?_) (λA outer s H vs Q E hr h=>?_)
   .obtain⟨O,args,r,_,hp,e,_⟩:=h;rw[<- (lh hf hn hd e).1];exact(Paired.length hp).symm
   .obtain⟨O,args,xs,hO,hp,e,q⟩:=h;obtain⟨hl,ys,he,ey⟩:=lh hf hn hd e;cases ey;refine⟨_,(soundSs (gg hr) df d.body (dF st) D.body).nox,H,O,O,_,rX hO hp,?_⟩;rw[he];exact λp us H' s' b2 b3 r'=>q p us H' s' b2 b3 r'
  .refine xE lk hc D.scope (λvs H Q E h=>?_) (λA outer s H vs Q E hr h=>?_)
   .obtain⟨O,args,v,es,Y,ms,_,hp,_,e,_⟩:=h;rw[<- (o_ hf b4 hd e).1];exact(Paired.length hp).symm
   .refine ax λZq kq=>?_
    obtain⟨O,args,v,es,Y,ms,hO,hp,hm,e,q⟩:=h;obtain⟨hl,v',W,d3,he,ck,ey⟩:=o_ hf b4 hd e;cases ey;refine kq ?_;refine⟨_,(soundSs (gg hr) df d.body (dF st) D.body).nox,i8 H ms,_,O,_,wU hO hp hm,?_⟩;rw[he];have key:∀{F}{H'}{O'},aH K (i8 H ms) (O.filter λb=>decide (b∉ms)) O' H' W F->bp (i8 H ms) O O' (args.map some++replicate (d.names.length-args.length) none) W (eD d.names vs) F->∀(i:Nat) d' a,W[i]?=some (some (.mutD d'))->vs[i]?=some (.ref a)->DAt K H' O' a d'/\a∈O':=λ{F H' O'} Z k' i d' a e2 e3=>by
     obtain⟨_,c5⟩:=k'.mutK i d' e2;obtain⟨u,eu,a',rfl,h1,h2,_⟩:=Z.slot i _ e2;have ei:(eD d.names vs)[i]?=some (some (.ref a)):=by
      have hi:=(IA.mp e3).1;unfold L2.eD;rw[Ju (by simpa using hi),IS,e3]
      rfl
     rw[c5,ei]at eu;cases eu;exact⟨h1,h2⟩
    refine λu F H' O' Z k' ru=>?_
    have vw:=ce (aj.refl H') λb hb=>.inl (by
     by_cases z:b∈ms
     .obtain⟨i,d',h1,h2⟩:=uc hm ck b z;exact(key Z k' i d' b h2 h1).2
     .refine k'.stay b ?_ hb;unfold i8;rw[if_neg z];exact hO b hb)
    refine q u H' (λb o hb eb=>Z.keep b o ?_) (wT hm ck λi d1 d' a e1 e2 e3=>(key Z k' i d' a e2 e3).1.move (λ_ z=>z) vw) (Rep.mono vw _ ru);unfold i8;rw[if_neg hb];exact eb
def G2(z:ds.length<=1000)
  (U:EF T K mg ds)
  (n f) (d) (hd:ds[f]?=some d) (st) (J) (fd) (D:rV T K mg st d J fd):jd P w K mg base CX0 n J fd d.params (spM K (aa ds n) f):=(l6 z U n f d hd st J fd D).m
end
def EG{K:L8}{ns:List Int}(h:aa ds n li [.brw (ns.map .int)]=some (.bl true))(J:SqL K H a (ns.map V.int)):spM K (aa ds n) li [.ref a] H (λv _=>v=.bl true) λ_ _ _=>False:=
 ⟨[],[.brw (ns.map .int)],.bl true,λ_ z=>by simp at z,.cons ⟨a,_,rfl,J,.of_ints ns⟩ .nil,h,λu H' _ r=>by rw[Rep]at r;exact r⟩
end MM
namespace MM
open PySem List Option
noncomputable abbrev ofS(z:List Int):PV:=.tup (z.map .int)
noncomputable abbrev ofR(R:List (List Int)):PV:=.tup (R.map ofS)
noncomputable abbrev ofL(ns:List Int):PV:=.lst (ns.map .int)
theorem bb:∀ns,bf (ns.map .int)=some ns
 | []=>rfl
 |n::ns=>by simp[bf,bb ns]
theorem pf:∀R,f_ (R.map ofS)=some R
 | []=>rfl
 |t::R=>by simp[f_,bb,pf R]
theorem bD:∀ns,cU (ns.map .bl)=some ns
 | []=>rfl
 |n::ns=>by simp[cU,bD ns]
def pg(h:ns.length<64):ir (ns.map .int)=some (ofL (sortI ns)):=by
 unfold ir;rw[if_pos (by simpa using h),bb]
def gp{R:List (List Int)}(h:R.length<64):ir (R.map ofS)=some (.lst ((sortT R).map ofS)):=by
 unfold ir;rw[if_pos (by simpa using h)];cases R with
 |nil=>rfl
 |cons t R =>
  have:bf ((t::R).map ofS)=none:=rfl;rw[this];simp only[pf,map_some]
theorem b8{α:Type}{g:α->PV}{c:PV->Option Bool}{f:PV->Option PV}{p:α->Bool}{h:α->PV}:∀{xs:List α},(∀x∈xs,c (g x)=some (p x))->(∀x∈xs,p x=true->f (g x)=some (h x))->fO c f (xs.map g)=some ((xs.filter p).map h)
 | [],_,_=>rfl
 |x::xs,hc,hf=>by
  rw[IG,fO,hc x (.head _),bind_some];have ih:=b8 (xs:=xs) (λy z=>hc y (.tail _ z)) (λy z=>hf y (.tail _ z));cases J:p x<;>simp_all
def gQ{α:Type}{g:α->PV}{c:PV->Option Bool}{f:PV->Option PV}{h:α->PV}{xs:List α}(hc:∀x∈xs,c (g x)=some true)(z:∀x∈xs,f (g x)=some (h x)):fO c f (xs.map g)=some (xs.map h):=by
 rw[b8 hc (λx hx _=>z x hx),K6.mpr λ_ _=>rfl]
def EH(a b)(z:List Int):((b==a)||decide (a∈z))=decide (a=b\/a∈z):=by grind
def EI(a b)(z:List (List Int)):(decide (b=a)||decide (a∈z))=decide (a=b\/a∈z):=by grind
@[simp] theorem qh(n)(i j):eqF n (.int i) (.int j)=some (i==j):=by cases n<;>rfl
theorem bn(h:Int):∀z:List Int,isIn (.int h) (z.map .int)=some (decide (h∈z))
 | []=>rfl
 |t::z=>by
  have ih:=bn h z;unfold isIn at ih ⊢;rw[IG,inL,ih];simp only[qh,bind_some,map_some,IB,EH]
theorem nj(n:Nat):∀a b:List Int,eqL (eqF n) (a.map .int) (b.map .int)=some (decide (a=b))
 | [],[]=>rfl
 | [],_::_=>rfl
 | _::_,[]=>rfl
 |x::a,y::b=>by
  rw[IG,IG,eqL,nj n a b];simp only[qh,bind_some,map_some,Ls]
  congr 1
  rw[IT];simp
def G3(n:Nat)(a b:List Int):eqF (n+1) (ofS a) (ofS b)=some (decide (a=b)):=nj n a b
def G4(n:Nat)(a b:List Int):eqF (n+1) (ofL a) (ofL b)=some (decide (a=b)):=by
 show(if (a.map PV.int).length=(b.map PV.int).length then eqL (eqF n) (a.map .int) (b.map .int)else some false)=_;rw[nj];split
 .rfl
 .rename_i h
  congr 1
  exact(Jd λe=>h (by rw[e])).symm
theorem iA(h):∀z:List (List Int),isIn (ofS h) (z.map ofS)=some (decide (h∈z))
 | []=>rfl
 |t::z=>by
  have ih:=iA h z;unfold isIn at ih ⊢;rw[IG,inL,ih,G3 99];simp only[bind_some,map_some,IB,EI]
noncomputable def aQ:R->Option PV
 | .next _=>some .non
 | .ret v=>some v
 | .retF xs=>some (.lst xs)
 | _=>none
def ae(hd:ds[f]?=some d)(z:args.length=d.params.length):aa ds (n+1) f args=aQ (exs (aa ds n) d.body (args.map some++replicate (d.names.length-args.length) none)):=by
 rw[aa,hd];simp[z]
 rfl
noncomputable def rY(args:List MV):R->Option PV
 | .retM v W=>(d5 args W).map λds=>.tup (v::ds)
 | _=>none
def gq(z:ds[f+2000]?=none)(hd:ds[f]?=some d)(J:args.length=d.params.length)
 :aa ds (n+1) (f+2000) args=rY args (exs (aa ds n) d.body (args.map some++replicate (d.names.length-args.length) none)):=by
 rw[aa,z];rw[JX,hd];simp[J]
 rfl
@[simp] theorem Fj(v)(W)(k):(R.retM v W).andThen k=.retM v W:=rfl
@[simp] theorem EJ(v):gh (some (.mutD v))=some (.brwD v):=rfl
@[simp] theorem EK(v):fz (some (.mutD v))=some (.brwD v):=rfl
@[simp] theorem Fk(xs)(k):(R.retF xs).andThen k=.retF xs:=rfl
@[simp] theorem ph(v):bA (some (.val v))=some v:=rfl
@[simp] theorem Fl(v):bA (some (.own v))=some (.lst v):=rfl
@[simp] theorem Fm(v):bA (some (.brw v))=some (.lst v):=rfl
@[simp] theorem EL(v):bA (some (.ownD (.k v)))=some (.dI (.k v)):=rfl
@[simp] theorem EM(v):bA (some (.ownD (.t v)))=some (.dI (.t v)):=rfl
@[simp] theorem EN(v):bA (some (.brwD (.k v)))=some (.dI (.k v)):=rfl
def ud(v):bA (some (.ownD (.t v)))=some (.dI (.t v)):=rfl
@[simp] theorem Ih(v):rf (.k v)=true:=rfl
@[simp] theorem Ii(v):rf (.t v)=true:=rfl
@[simp] theorem EO(v):bA (some (.brwD (.t v)))=some (.dI (.t v)):=rfl
@[simp] theorem EQ(v):gh (some (.ownD v))=some (.brwD v):=rfl
@[simp] theorem ER(v):gh (some (.brwD v))=some (.brwD v):=rfl
@[simp] theorem ES(v):fz (some (.ownD v))=some (.brwD v):=rfl
@[simp] theorem ET(v):fz (some (.brwD v))=some (.brwD v):=rfl
@[simp] theorem EU(i):sc? (.int i)=some (.int i):=rfl
@[simp] theorem Ix(i):sc? (.bl i)=some (.bl i):=rfl
@[simp] theorem Ij:sc? .non=some .non:=rfl
@[simp] theorem Ik(i):(Sc.int i).pv=.int i:=rfl
@[simp] theorem Iy(i):(Sc.bl i).pv=.bl i:=rfl
@[simp] theorem Fn(v):yy (some (.val v))=some v:=rfl
@[simp] theorem Fo(v):gh (some (.val v))=some (.val v):=rfl
@[simp] theorem Fp(v):gh (some (.own v))=some (.brw v):=rfl
@[simp] theorem Fq(v):gh (some (.brw v))=some (.brw v):=rfl
@[simp] theorem Fr(v):fz (some (.val v))=some (.val v):=rfl
@[simp] theorem Fs(v):fz (some (.own v))=some (.brw v):=rfl
@[simp] theorem Ft(v):fz (some (.brw v))=some (.brw v):=rfl
@[simp] theorem Fu(b):bc (.bl b)=some b:=rfl
@[simp] theorem BI(i j):dQ .add (.int i) (.int j)=some (.int (i+j)):=rfl
@[simp] theorem Hs(i j):dQ .sub (.int i) (.int j)=some (.int (i-j)):=rfl
@[simp] theorem qi(i j):dQ .mul (.int i) (.int j)=if (-(2 ^ 64)<i/\i<2 ^ 64)\/(-(2 ^ 64)<j/\j<2 ^ 64)then some (.int (i*j))else none:=rfl
@[simp] theorem zA(i j):dQ .fdiv (.int i) (.int j)=if 0<j/\j<1073741824 then some (.int (i / j))else none:=rfl
@[simp] theorem qj(i j):dQ .mod (.int i) (.int j)=if 0<j then some (.int (i % j))else none:=rfl
@[simp] theorem iR(x y):dQ .add (.lst x) (.lst y)=if x.length+y.length<=10000 then some (.lst (x++y))else none:=rfl
@[simp] theorem zB(i j):cK .lt (.int i) (.int j)=some (decide (i<j)):=rfl
@[simp] theorem Il(i j):cK .le (.int i) (.int j)=some (decide (i<=j)):=rfl
@[simp] theorem ue(i j):cK .gt (.int i) (.int j)=some (decide (j<i)):=rfl
@[simp] theorem Im(i j):cK .ge (.int i) (.int j)=some (decide (j<=i)):=rfl
@[simp] theorem EV(x y):cK .eq x y=eqF 100 x y:=rfl
@[simp] theorem EW(x y):cK .ne x y=if re x y=true then(eqF 100 x y).map (λp=>!p)else none:=rfl
@[simp] theorem Ht(x):cK .isN x .non=some (mN x):=rfl
@[simp] theorem G5(x):cK .notN x .non=some (!mN x):=rfl
@[simp] theorem vD(x)(xs):cK .isIn x (.tup xs)=isIn x xs:=rfl
@[simp] theorem Hu(x)(xs):cK .isIn x (.lst xs)=isIn x xs:=rfl
@[simp] theorem G6(x)(xs):cK .notIn x (.tup xs)=(isIn x xs).map λp=>!p:=rfl
@[simp] theorem G7(x)(xs):cK .notIn x (.lst xs)=(isIn x xs).map λp=>!p:=rfl
@[simp] theorem Io(n)(i j):eqF n (.bl i) (.bl j)=some (i==j):=by cases n<;>rfl
@[simp] theorem Hv(n)(i j):eqF n (.str i) (.str j)=some (i==j):=by cases n<;>rfl
@[simp] theorem Hw(x y):re (.tup x) (.tup y)=true:=rfl
@[simp] theorem Hx(x y):re (.lst x) (.lst y)=true:=rfl
@[simp] theorem Hy(x y):re (.int x) (.int y)=true:=rfl
@[simp] theorem qk(x):aX (.tup x)=some x:=rfl
@[simp] theorem iS(x):aX (.lst x)=some x:=rfl
@[simp] theorem G8(x):aG .len [.tup x]=some (.int x.length):=rfl
@[simp] theorem zC(x):aG .len [.lst x]=some (.int x.length):=rfl
@[simp] theorem G9(x):aG .len [.dI (.k x)]=some (.int x.length):=rfl
@[simp] theorem Hz(x):aG .tupleOf [x]=(aX x).map .tup:=rfl
@[simp] theorem G_(x):aG .listOf [x]=(aX x).map .lst:=rfl
@[simp] theorem gR(x):aG .sorted [x]=(aX x).bind ir:=rfl
@[simp] theorem iT(x):aG .any [.lst x]=(cU x).map λbs=>.bl (bs.any id):=rfl
@[simp] theorem jU(x):aG .all [.lst x]=(cU x).map λbs=>.bl (bs.all id):=rfl
@[simp] theorem Ha(i):aG .intOf [.int i]=some (.int i):=rfl
@[simp] theorem Hb(b):aG .intOf [.bl b]=some (.int (if b then 1 else 0)):=rfl
@[simp] theorem jV(xs):aG .max1 [.lst xs]=(bf xs).bind λns=>(wB ns).map .int:=rfl
@[simp] theorem jr(d):aG .valuesOf [.dI d]=if (i7 d).length<=10000 then some (.lst (i7 d))else none:=rfl
@[simp] theorem zD(kvs):aG .sortedKeys [.dI (.k kvs)]=if kvs.length<64 then some (ofL (sortI (kvs.map (·.1))))else none:=rfl
@[simp] theorem Ip(kvs)(i):wA (.dI (.k kvs)) (.int i)=some (cT kvs i):=rfl
@[simp] theorem EX(kvs)(ns):wA (.dI (.t kvs)) (.tup (ns.map .int))=some (cT kvs ns):=by
 show(bf _).map _=_;rw[bb]
 rfl
@[simp] theorem Iq(kvs)(i)(s):oj (.k kvs) (.int i) s=if kvs.length<10000 then some (.k (cy kvs i s))else none:=rfl
@[simp] theorem EY(kvs)(ns)(s):oj (.t kvs) (.tup (ns.map .int)) s=if kvs.length<10000 then some (.t (cy kvs ns s))else none:=by
 show((bf _).bind λk=>if kvs.length<10000 then some _ else none)=_;rw[bb]
 rfl
@[simp] theorem HA(p q):cK .isN (.bl p) (.bl q)=some (p==q):=rfl
@[simp] theorem Hc(p q):cK .notN (.bl p) (.bl q)=some (!(p==q)):=rfl
@[simp] theorem BJ(xs):aG .tupleRev [.lst xs]=some (.tup xs.reverse):=rfl
@[simp] theorem An(x):aG .sortedSet [x]=(aX x).bind λxs=>(bf xs).bind λns=>if ns.length<=1000/\(dd ns).length<64 then some (.lst ((sortI (dd ns)).map .int))else none:=rfl
@[simp] theorem zE(x)(i):dR (.lst x) (.int i)=(place x.length i).bind λj=>x[j]?:=rfl
@[simp] theorem Hd(x)(i):dR (.tup x) (.int i)=(place x.length i).bind λj=>x[j]?:=rfl
@[simp] theorem HB(x)(lo hi):iN (.lst x) lo hi=some (.lst (cut x lo hi)):=rfl
@[simp] theorem HC(i j):bnd (.cst (.int i)) (.int j)=some (some j):=rfl
@[simp] theorem ql(x):aW .seq [x]=aX x:=rfl
def BK(j):aW .rng [.int j]=if -(2 ^ 62)<=j/\j<2 ^ 62 then some ((range j.toNat).map λk=>.int ((0:Int)+k))else none:=rfl
@[simp] theorem au(W)(k):(R.next W).andThen k=k W:=rfl
@[simp] theorem He(v)(k):(R.ret v).andThen k=.ret v:=rfl
@[simp] theorem Hf(k):R.bad.andThen k=.bad:=rfl
@[simp] theorem Hg(W)(k):(R.brk W).andThen k=.brk W:=rfl
@[simp] theorem Fv(W)(k):(R.cont W).andThen k=.cont W:=rfl
@[simp] theorem dE(v)(k):dS (some v) k=k v:=rfl
@[simp] theorem b9(v)(k):yz (some v) k=k v:=rfl
@[simp] theorem EZ(v)(k):cA (some v) k=k v:=rfl
@[simp] theorem Fw(v):aQ (.ret v)=some v:=rfl
@[simp] theorem E1(W):aQ (.next W)=some .non:=rfl
@[simp] theorem bi(a)(l)(m):put (a::l) 0 m=some m::l:=rfl
@[simp] theorem bj(a)(l)(n)(m):put (a::l) (n+1) m=a::put l n m:=rfl
@[simp] theorem bS(src)(z W):(R.next W).back src z=.next (aJ src z W):=rfl
@[simp] theorem Hh(src)(z)(v):(R.ret v).back src z=.ret v:=rfl
@[simp] theorem Fx(body)(W):aw body [] W=.next W:=rfl
def gU(z:0<=j)(h1:j<4611686018427387904):aW .rng [.int j]=some ((range j.toNat).map λk=>.int (k:Int)):=by
 rw[BK,if_pos ⟨by omega,by omega⟩]
 congr 1
 simp_all
def dX{n:Nat}{i:Int}(z:0<=i)(h:i<n):place n i=some i.toNat:=by unfold place;rw[if_pos z,if_pos h]
def leT(a b:List Int):Prop:=lexLt b a=false
theorem sortI_perm(l):(sortI l).Perm l:=by rw[eY];exact L2.Srt.sortI_perm l
theorem sortT_perm(l):(sortT l).Perm l:=by rw[jR];exact L2.Srt.sortT_perm l
def sortI_len(l):(sortI l).length=l.length:=(sortI_perm l).length_eq
def sortT_len(l):(sortT l).length=l.length:=(sortT_perm l).length_eq
def pi :x∈sortI l ↔ x∈l:=(sortI_perm l).mem_iff
def eQ :x∈sortT l ↔ x∈l:=(sortT_perm l).mem_iff
theorem sortI_rises(l):(sortI l).Pairwise (· <= ·):=by rw[eY];exact L2.Srt.sortI_rises l
theorem sortT_rises(l):(sortT l).Pairwise leT:=by
 rw[jR];exact(L2.Srt.sortT_rises l).imp λh=>by unfold leT;rw[mZ];exact h
theorem sortI_of_perm(p:a.Perm b):sortI a=sortI b:=by rw[eY,eY];exact L2.Srt.sortI_of_perm p
def rZ(h:l.Nodup):(sortI l).Pairwise (· < ·):=by
 have h1:=sortI_rises l;have h2:=(sortI_perm l).nodup_iff.mpr h;exact(h1.and h2).imp λ⟨a,b⟩=>by omega
def jt :k∈dd l ↔ k∈l:=by rw[oZ];exact L2.St.fM
theorem dd_nodup(l):(dd l).Nodup:=by rw[oZ];exact L2.St.dd_nodup l
theorem Cv:∀{l},l.Nodup->dd l=l
 | [],_=>rfl
 |x::r,h=>by
  rw[dd,Cv (Jl.mp h).2,if_neg (Jl.mp h).1]
def jW{l:List Int}(h:l.Pairwise (· < ·)):l.Nodup:=h.imp λ{a b} q=>by omega
def cM(z:List Int):Prop:=z.Pairwise (· < ·)/\∀h∈z,0<=h/\h<=59
def ay(R:List (List Int)):Prop:=(∀z∈R,cM z)/\R.Pairwise leT/\R.length<=60
theorem qm:∀(n:Nat) (l:List Int),l.Nodup->(∀x∈l,0<=x/\x<(n:Int))->l.length<=n
 |0,l,_,h=>by
  cases l with
  |nil=>simp
  |cons x r=>have:=h x (.head _);omega
 |n+1,l,J,h=>by
  have h1:=qm n (l.filter λx=>decide (x≠(n:Int))) (J.filter _) (λx hx=>by
   obtain⟨h2,U⟩:=JG.mp hx;have h4:=Jx U;have:=h x h2;omega)
  have h2:∀l:List Int,l.Nodup->l.length<=(l.filter λx=>decide (x≠(n:Int))).length+1:=by
   intro l
   induction l with
   |nil=>intro _;simp
   |cons x r ih =>
    intro J;by_cases e:x=(n:Int)
    .have Y:r.filter (λx=>decide (x≠(n:Int)))=r:=K6.mpr λy Z=>IP λz=>(Jl.mp J).1 (by rw[e,<- z];exact Z)
     rw[Kn (by simp[e]),Y];simp
    .simp_all
  have:=h2 l J;omega
def aA(h:cM z):z.length<=60:=qm 60 z (jW h.1) λx hx=>by have:=h.2 x hx;omega
noncomputable def r6(ns:List Int)(lo hi:Option Int):List Int:=(ns.drop (gc ns.length 0 lo)).take (gc ns.length ns.length hi-gc ns.length 0 lo)
@[simp] theorem r9(ns)(lo hi):cut (ns.map .int) lo hi=(r6 ns lo hi).map .int:=by
 unfold cut r6
 simp_all
def zF(ns:List Int){a b:Int}(z:0<=a)(J:0<=b):(r6 ns (some a) (some b)).length<=(b-a).toNat:=by
 unfold r6;rw[L4,length_drop];have U:gc ns.length ns.length (some b)=min b.toNat ns.length:=by show(if b<0 then _ else _)=_;rw[if_neg (Int.not_lt.mpr J)]
 have Y:gc ns.length 0 (some a)=min a.toNat ns.length:=by show(if a<0 then _ else _)=_;rw[if_neg (Int.not_lt.mpr z)]
 rw[U,Y];obtain⟨A,rfl⟩:=Int.eq_ofNat_of_zero_le z;obtain⟨B,rfl⟩:=Int.eq_ofNat_of_zero_le J;rw[Int.toNat_sub,Int.toNat_natCast,Int.toNat_natCast];refine IH (Nat.min_le_left _ _) ?_;rcases Nat.le_total A ns.length with h|h
 .rw[Km h];exact Nat.sub_le_sub_right (Nat.min_le_left _ _) A
 .rw[Nat.min_eq_right h,Nat.sub_eq_zero_of_le (Nat.min_le_right _ _)];exact Ji _
end MM
structure PySem.W.Fast:Prop where (tw15656878786718584423 tw17883476490951383507 tw16188254972071078944 tw6289623651643225039 tw15713331604752099864 tw4129660174716658758 tw6477768378832285030 tw17534892205794444146 tw14404500403780312413 tw16210546176401908008 tw6233297328169934825 tw7231144601528783968 tw465366991329638017 tw2839039110300234147 tw12377517597249570880 tw9378263158876586239 tw4643433037500908216 tw595874131343177071 tw5412883773260494727 tw12048606456799729705 tw6806027534858807802 tw13939319663132066172 tw5406814277926301248 tw16872530621399229450 tw296019958971012285 tw13014154454522215770 tw7652540621525940727 tw17673143904050788095 tw12777517728509597640 tw13380936128230240842 tw12251105179133598452 tw10561869781952794026 tw13401614388372080885 tw10761968241484639750 tw10478807668337066032 tw14675325022904117695 tw17758144645897599289 tw5367425514734093622 tw15120618564234130273 tw4765071173008632206 tw7267400426501313450 tw11480547779238960626 tw1793371246677432147 tw15299507213609553027 tw18252921951611814203 tw13478030314791164917 tw16551715729893000731 tw9888872942707356390 tw16003865340157067171 tw6513182440193674436 tw1709919395808239454 tw15599938860105117799 tw13151026733524657075 tw4267823603467603814 tw1636413866072026508 tw4910663582397039978 tw5946786841206817838 tw3721839520269448300 tw11509479257723721365 tw16868303568268125733 tw2724221936755703946 tw16309021922269441410 tw10450475665914047335 tw5775154656256435778 tw4059824476695421219 tw13917148293368014451 tw12501190230548118770 tw10447037157406663430 tw15581552990795960076 tw13832612368456975330 tw12699933481364367504 tw604961598630414893 tw9463412612976034136 tw12476015148297887883 tw14347876939140504645 tw4932787714745802696 tw17145404424468270690 tw18341261964455907447 tw9507330743619878936 tw10303878987216532172 tw12055215892840023018 tw7153890957090507809 tw11020838524797823629 tw10891947209704506186 tw17538632427124690828 tw16753824338800280834 tw17097208629692093094 tw14741606167023287346 tw12418843690289782358 tw1421591416253663611 tw1789214785898591876 tw15908767861586126609 tw17628405256984545338 tw13282467231612991152 tw15367881233730072643 tw2306474298113415570 tw10703625202888374230 tw10193778847411306019 tw3104921607500935591 tw4102475859921781915 tw16593308667047654802 tw16002246521642199871 tw3337265898003942555 tw15083891237706586188 tw16134156576528801358 tw10205662011096486969 tw9271763481387267311 tw3430147590735679501 tw4387578851169236499 tw13612919411005452384 tw2955393504480203628 tw7465073483278858636 tw4954598329164280034 tw720396426325989232 tw6006965273493703421 tw12468602222197267835 tw8374764069299196925 tw5417288118852389546 tw10489655044870129160 tw16980487750883525223 tw14878101751757065348 tw10246539027196262221 tw15501597099473767555 tw1556793919548812545 tw15200229344490260220 tw14510596006069213479 tw17822330908980962502 tw11736344766580162273 tw11780486049978278969 tw945209725144087651 tw15621852732710046766 tw12228943401047275325 tw18374580108081861876 tw15421525286578486085 tw16389991894038825499 tw6280293886194672889 tw1732586204821598409 tw4873089864700300794 tw8716217830150862164 tw11175879109398782330 tw809825178798243194 tw9928704228872287218 tw1326787723481308043 tw5203021942003523965 tw2299394713817932000 tw10677153542877027924 tw8710854033533592675 tw6123819842727428974 tw11699047321151502686 tw5838487266282990500 tw13100006838212183026 tw6765670912510057774 tw14217568799069751675 tw3506376151315562207 tw17997692660916848324 tw10979562111561866932 tw18384837707804194197 tw8979843721009594054 tw11542885486278259445 tw8083095624116666235 tw12670387314467985289 tw14117077764062787332 tw8478087378099444493 tw16475545430814654330 tw2533387766088828249 tw17395273628326683872 tw9920866510899365965 tw4942269140867217140 tw270749470620751560 tw14699260024759696870 tw3179367715542439771 tw1106286629745991499 tw10090488187164672001 tw7165175961381859757 tw8450166298187284968 tw9176190218969795126 tw5320947780323744310 tw6836419723614022027 tw10114322168345007822 tw10913412548795831649 tw17798086002844141544 tw2687556715291736748 tw12454679006511552712 tw2224066569819910181 tw7655635183595314779 tw3349868326065860838 tw7463204160725013646 tw16886558725071678422 tw8494959741601978198 tw16286104640711181563 tw1489626935438911877 tw12637032273770530416 tw11217490604173445394 tw16958104209096165711 tw10872098609497473671 tw5936297097760640307 tw10493603267967568923 tw13816280471746200417 tw15076050678991920882 tw7642974620893231070 tw13796945949761073195 tw15430164353527292666 tw4861825659309856997 tw6237648559624507606 tw11720524937961411386 tw15996949134059514914 tw17881350927764199849 tw6342334497440007159 tw13493760399096709936 tw141662745015281087 tw14814790863562767236 tw7416186205937520495 tw1482090137584421480 tw6666051750355030619 tw6939610625625450127 tw14614627436959276217 tw8932947852890278694 tw5002404715699244898 tw8477782928030795776 tw7129130744858332642 tw3775511624513813502 tw9259331432440420314 tw14578056108143856974 tw13209896486060983235 tw12221194506607474302 tw2860988533948826460 tw8721693648790753022 tw17952128191931156606 tw15568537686888677471 tw13208630846855593753 tw15196131239647924786 tw17113957028778507475 tw3999218062810681153 tw1840326625405712807 tw12149231336254985723 tw3577350600453330387 tw2252487544684601410 tw17651765327114513986 tw2952594031961923328 tw18310693320542584717 tw9598461679837561172 tw2988672747456977568 tw4095866589886661099 tw9406490601667307021 tw14053679196046409959 tw15742382704213461950 tw619827154891255177 tw3199189305706974657 tw5832173630259610970 tw5993880662571172263 tw7546039814805495672 tw6798451725104789620 tw7856068967789910520 tw11512212396155911020 tw1227622853299932710 tw3503518281311737872 tw5204557408184867059 tw2053387002324546631 tw3075831804835822207 tw17161118953006397586 tw16191880906223151779 tw16721229810975626780 tw574644163129270809 tw4468710594321452441 tw17020407923689181415 tw15980950067841731240 tw17457727478582019237 tw2241099774829334600 tw11878693210042356958 tw13827497931733850156 tw4853422823918010866 tw5228006354273503889 tw5494349245325195673 tw10912348812717673446 tw2866710269130950981 tw13905116224285128955 tw8239963966020686401 tw1701828844755943985 tw6724079412212225693 tw16492107904146192825 tw5393150258811809381 tw15166907884514780109 tw12223647944545433428 tw18048564836816091121 tw14567195708827554741 tw8877340184872529664 tw3722218401329701929 tw8080304875530953806 tw17153903160286675557 tw11994325587170454481 tw1771482421249106461 tw7603174163887807987 tw7712950526413231184 tw10430131880005800646 tw6422828422022539037 tw4100461383694460375 tw8769703201819179027 tw5983767807709073635 tw4205569282162875975 tw13771136540067541462 tw6063108751291352156 tw10991703626347373574 tw9076935856748173422 tw13502022257374529978 tw14558996095240839612 tw5398478209753632522 tw12297125776608349909 tw13154498632216756875 tw17365534991618676868 tw9154085733096161572 tw4023287441941962664 tw1984723518577795591 tw9976482681381434960 tw6230729569255151915 tw3237001264074628968 tw11493930656479331537 tw3098954248845686419 tw13193108717166226036 tw13884380822542192927 tw417146792496320397 tw7545907582543946043 tw12758304581480816539 tw7052024402378970842 tw14640336492283869162 tw13317785109057251286 tw2929543396688817746 tw14779540319991212749 tw2214307077516819069 tw2549136535678355773 tw17905373424423562469 tw3035822242658702348 tw11526938684110815909 tw15060993191571369357 tw10330944067265800775 tw15583854266040829261 tw4369460494988094374 tw9234019238339459341 tw5769392984253546127 tw11074483377070857844 tw17273932196358008226 tw11990551672793046679 tw2896302219289934872 tw15879599256624894297 tw7292650619628210103 tw5512977427024375002 tw12121333188041129475 tw9221601062558171779 tw4314353523079221421 tw164374598853064361 tw4388010094659292251 tw3044457895703159176 tw13989478384118810161 tw17919048457250012981 tw14539564005021475634 tw846279189816210600 tw10176461711895073534 tw8939517484549232246 tw14320241677895934598 tw8242590862537606535 tw12086074470604450584 tw8972181814464471366 tw14368985355154960136 tw11653457324914097000 tw10814796627798074356 tw4985465978153617186 tw5296996928812601066 tw9259583271818356315 tw5366232312392078315 tw2157885820293794807 tw1230330943739016292 tw14995650541239449252 tw2454411271579867413 tw16396928375187239365 tw4745096989836935794 tw3612275432059227584 tw1604542482449228054 tw11493640272543004232 tw18186643723524633724 tw9522207155442015338 tw10671750308752761629 tw17933475423225406724 tw15369871733249311413 tw9636128478028294326 tw14008160059983017336 tw4497306430881000679 tw5648188838790942771 tw1976199148442978569 tw5151817945308517160 tw15077930439349154253 tw7942885185131485146 tw17307360845720312158 tw4352394781402350715 tw1303314452221744002:True)
namespace My
open PySem L2 MM List Option
noncomputable abbrev sv(x:PV):Option MV:=some (.val x)
abbrev LL:=List (List Int)
noncomputable abbrev ci(x:Int):ME:=.cst (.int x)
noncomputable abbrev cs(x:Str):ME:=.cst (.str x)
noncomputable def bN:List MS:=[.extend 1 (.bor 2)]
noncomputable def gX:MD:=⟨"members_of",["rows"],["rows","members","row"],
  [.setOwn 1 (.lst []),
  .for1 2 .seq [.bor 0] bN,
  .retOwn 1]⟩
noncomputable def lj:MD:=⟨"each_once",["members"],["members"],
  [.ret (.cmp .eq (.blt .lenSet [.bor 0]) (.blt .len [.bor 0]))]⟩
noncomputable def d9:MD:=⟨"strip_without",["strip","hole"],["strip","hole"],
  [.ret (.blt .tupleOf [(.comp .seq [.bor 0] [1] (.cmp .ne (.bor 0) (.bor 1)) (.var 0))])]⟩
noncomputable def kP:MD:=⟨"knotted",["rest","hole"],["rest","hole"],
  [.ret (.blt .tupleOf [(.blt .sorted [(.comp .seq [.bor 0] [1] (.cst (.bl true)) (.call 2 [.bor 0,.bor 1]))])])]⟩
noncomputable def r_:MD:=⟨"bitten",["rest","hole"],["rest","hole"],
  [.ret (.blt .tupleOf [(.comp .seq [.bor 0] [1] (.cmp .notIn (.bor 1) (.bor 0)) (.var 0))])]⟩
noncomputable def nk:MD:=⟨"holes_of",["rest"],["rest"],
  [.ret (.blt .sortedSet [(.call 0 [.bor 0])])]⟩
noncomputable def nl:MD:=⟨"is_whole",["rest"],["rest"],
  [.ret (.cmp .isIn (.tup []) (.bor 0))]⟩
noncomputable def kQ:MD:=⟨"is_bare",["rest"],["rest"],
  [.ret (.cmp .eq (.blt .len [.bor 0]) (ci 0))]⟩
noncomputable def jX:MD:=⟨"other_hand",["hand"],["hand"],
  [.ret (.ite (.cmp .eq (.bor 0) (cs "weaver")) (cs "moth") (cs "weaver"))]⟩
noncomputable def jY:MD:=⟨"behind",["rest","hand","reply"],["rest","hand","reply"],
  [.ite (.cmp .isN (.bor 2) (.cst .non))
   [.ret (.var 0)]
   [],
  .ret (.ite (.cmp .eq (.bor 1) (cs "weaver")) (.call 3 [.bor 0,.bor 2]) (.call 4 [.bor 0,.bor 2]))]⟩
noncomputable def i_:MD:=⟨"behind_both",["rest","hand","hole","reply"],["rest","hand","hole","reply"],
  [.ret (.call 9 [(.call 9 [.bor 0,(.call 8 [.bor 1]),.bor 2]),.bor 1,.bor 3])]⟩
noncomputable def kR:MD:=⟨"has_all",["strip","other"],["strip","other"],
  [.ret (.cmp .eq (.blt .lenSetSub [.bor 1,.bor 0]) (ci 0))]⟩
noncomputable def bE:List MS:=[.ite (.call 11 [.bor 0,.bor 3])
   [.ret (.var 2)]
   []]
noncomputable def dJ:MD:=⟨"least_place",["strip","rest"],["strip","rest","place","other"],
  [.forT [2,3] .enm [.bor 1] bE,
  .ret (.cst .non)]⟩
noncomputable def kS:MD:=⟨"footing",["rest","other"],["rest","other"],
  [.ret (.comp .seq [.bor 0] [1] (.cst (.bl true)) (.call 12 [.bor 0,.bor 1]))]⟩
noncomputable def ju:MD:=⟨"is_below",["rest","other"],["rest","other"],
  [.ret (.cmp .notIn (.cst .non) (.call 13 [.bor 0,.bor 1]))]⟩
noncomputable def jZ:MD:=⟨"has_a_pair",["strip","pairs"],["strip","pairs"],
  [.ret (.blt .any [(.comp .seq [.bor 1] [0] (.cst (.bl true)) (.call 11 [.bor 1,.bor 0]))])]⟩
noncomputable def j3:MD:=⟨"pairs_hold",["pairs","rest"],["pairs","rest"],
  [.ite (.not (.call 1 [(.call 0 [.bor 0])]))
   [.ret (.cst (.bl false))]
   [],
  .ret (.blt .all [(.comp .seq [.bor 1] [0] (.cst (.bl true)) (.call 15 [.bor 0,.bor 1]))])]⟩
noncomputable def nn:MD:=⟨"together",["rests"],["rests"],
  [.ret (.blt .tupleOf [(.blt .sorted [(.call 0 [.bor 0])])])]⟩
noncomputable def lm:MD:=⟨"are_apart",["rests"],["rests"],
  [.ret (.call 1 [(.call 0 [(.comp .seq [.bor 0] [] (.cst (.bl true)) (.call 5 [.bor 0]))])])]⟩
noncomputable def iB:MD:=⟨"strip_weight",["strip"],["strip"],
  [.ret (.bin .shr (.glob "UNIT" (.int 1152921504606846976)) (.blt .len [.bor 0]))]⟩
noncomputable def sa:MD:=⟨"weight",["rest"],["rest"],
  [.ret (.blt .sum [(.comp .seq [.bor 0] [] (.cst (.bl true)) (.call 19 [.bor 0]))])]⟩
noncomputable def pj:List MS:=[.dput 1 (.bor 3) (.bin .add (.dget (.bor 1) (.bor 3) (ci 0)) (.call 19 [.bor 2]))]
noncomputable def pk:List MS:=[.for1 3 .seq [.bor 2] pj]
noncomputable def vE:MD:=⟨"pulls",["rest"],["rest","pull_of","strip","hole"],
  [.newD false 1,
  .for1 2 .seq [.bor 0] pk,
  .retOwn 1]⟩
noncomputable def lJ:MD:=⟨"greatest_pull",["rest"],["rest"],
  [.ret (.blt .max1 [(.bin .add (.lst [(ci 0)]) (.blt .valuesOf [(.call 21 [.bor 0])]))])]⟩
noncomputable def iC:List MS:=[.extend 1 (.comp .seq [(.slice (.bor 0) (.bin .add (.bor 2) (ci 1)) (.cst .non))] [3] (.cst (.bl true)) (.tup [.var 1,.var 0]))]
noncomputable def wV:MD:=⟨"twos_of",["strip"],["strip","twos","place","low"],
  [.setOwn 1 (.lst []),
  .forT [2,3] .enm [.bor 0] iC,
  .retOwn 1]⟩
noncomputable def h_:List MS:=[.dput 1 (.bor 3) (.bin .add (.dget (.bor 1) (.bor 3) (ci 0)) (ci 1))]
noncomputable def ib:List MS:=[.for1 3 .seq [(.call 23 [.bor 2])] h_]
noncomputable def ja:MD:=⟨"most_shared",["rest"],["rest","count_of","strip","two"],
  [.newD true 1,
  .for1 2 .seq [.bor 0] ib,
  .ret (.blt .max1 [(.bin .add (.lst [(ci 0)]) (.blt .valuesOf [.bor 1]))])]⟩
noncomputable def cY:MD:=⟨"moth_weighs",["rest","turn"],["rest","turn"],
  [.ite (.cmp .eq (.bor 1) (cs "moth"))
   [.ret (.cmp .lt (.call 20 [.bor 0]) (.glob "UNIT" (.int 1152921504606846976)))]
   [],
  .ret (.cmp .lt (.bin .add (.call 20 [.bor 0]) (.call 22 [.bor 0])) (.glob "UNIT" (.int 1152921504606846976)))]⟩
noncomputable def nq:MD:=⟨"is_heavy",["rest"],["rest"],
  [.ret (.cmp .gt (.bin .mul (ci 4) (.call 20 [.bor 0])) (.bin .mul (.bin .mul (.glob "UNIT" (.int 1152921504606846976)) (.call 24 [.bor 0])) (.bin .fdiv (.blt .len [(.call 5 [.bor 0])]) (ci 2))))]⟩
noncomputable def c9:MD:=⟨"weaver_weighs",["rest","turn"],["rest","turn"],
  [.ite (.cmp .eq (.bor 1) (cs "weaver"))
   [.ret (.call 26 [.bor 0])]
   [],
  .ite (.call 6 [.bor 0])
   [.ret (.cst (.bl true))]
   [],
  .ret (.and (.call 26 [.bor 0]) (.blt .all [(.comp .seq [(.call 5 [.bor 0])] [0] (.cst (.bl true)) (.call 26 [(.call 4 [.bor 1,.bor 0])]))]))]⟩
noncomputable def E2:MD:=⟨"good",["paper","rest","turn","hand"],["paper","rest","turn","hand"],
  [.ite (.cmp .eq (.bor 3) (cs "moth"))
   [.ret (.call 29 [.bor 0,.bor 1,.bor 2])]
   [],
  .ret (.call 30 [.bor 0,.bor 1,.bor 2])]⟩
noncomputable def bT:MD:=⟨"good_for_moth",["paper","rest","turn"],["paper","rest","turn","word"],
  [.set 3 (.idx (.bor 0) (ci 0)),
  .ite (.cmp .eq (.bor 3) (cs "bare"))
   [.ret (.call 7 [.bor 1])]
   [],
  .ite (.cmp .eq (.bor 3) (cs "weight"))
   [.ret (.call 25 [.bor 1,.bor 2])]
   [],
  .ite (.cmp .eq (.bor 2) (cs "moth"))
   [.ret (.and (.cmp .eq (.bor 3) (cs "bite")) (.call 31 [.bor 0,.bor 1,(cs "moth")]))]
   [],
  .ite (.cmp .eq (.bor 3) (cs "pairs"))
   [.ret (.call 16 [(.idx (.bor 0) (ci 1)),.bor 1])]
   [],
  .ite (.cmp .eq (.bor 3) (cs "cases"))
   [.ret (.and (.not (.call 6 [.bor 1])) (.call 32 [(.idx (.bor 0) (ci 1)),.bor 1,(cs "moth")]))]
   [],
  .ite (.cmp .eq (.bor 3) (cs "parts"))
   [.ret (.and (.call 33 [(.idx (.bor 0) (ci 1)),.bor 1]) (.call 34 [(.idx (.bor 0) (ci 1))]))]
   [],
  .ret (.cst (.bl false))]⟩
noncomputable def bm:MD:=⟨"good_for_weaver",["paper","rest","turn"],["paper","rest","turn","word"],
  [.set 3 (.idx (.bor 0) (ci 0)),
  .ite (.cmp .eq (.bor 3) (cs "whole"))
   [.ret (.call 6 [.bor 1])]
   [],
  .ite (.cmp .eq (.bor 3) (cs "weight"))
   [.ret (.call 27 [.bor 1,.bor 2])]
   [],
  .ite (.cmp .eq (.bor 3) (cs "fewer"))
   [.ret (.and (.call 14 [(.idx (.bor 0) (ci 1)),.bor 1]) (.call 28 [(.idx (.bor 0) (ci 2)),(.idx (.bor 0) (ci 1)),.bor 2,(cs "weaver")]))]
   [],
  .ite (.cmp .eq (.bor 2) (cs "weaver"))
   [.ret (.and (.cmp .eq (.bor 3) (cs "knot")) (.call 31 [.bor 0,.bor 1,(cs "weaver")]))]
   [],
  .ite (.cmp .eq (.bor 3) (cs "cases"))
   [.ret (.and (.cmp .gt (.blt .len [(.call 5 [.bor 1])]) (ci 0)) (.call 32 [(.idx (.bor 0) (ci 1)),.bor 1,(cs "weaver")]))]
   [],
  .ite (.cmp .eq (.bor 3) (cs "either"))
   [.ret (.call 35 [.bor 0,.bor 1])]
   [],
  .ret (.cst (.bl false))]⟩
noncomputable def iD:MD:=⟨"move_is_good",["paper","rest","hand"],["paper","rest","hand"],
  [.ret (.call 28 [(.idx (.bor 0) (ci 2)),(.call 9 [.bor 1,.bor 2,(.idx (.bor 0) (ci 1))]),(.call 8 [.bor 2]),.bor 2])]⟩
noncomputable def aN:List MS:=[.ite (.not (.call 28 [.bor 5,(.call 10 [.bor 1,.bor 2,.bor 3,.bor 4]),(.call 8 [.bor 2]),.bor 2]))
   [.ret (.cst (.bl false))]
   []]
noncomputable def gu:MD:=⟨"cases_are_good",["rows","rest","hand"],["rows","rest","hand","hole","reply","paper"],
  [.ite (.cmp .ne (.comp .seq [.bor 0] [] (.cst (.bl true)) (.idx (.bor 0) (ci 0))) (.call 5 [.bor 1]))
   [.ret (.cst (.bl false))]
   [],
  .forT [3,4,5] .seq [.bor 0] aN,
  .ret (.cst (.bl true))]⟩
noncomputable def fH:MD:=⟨"parts_stand_for",["rows","rest"],["rows","rest","rests","strips"],
  [.set 2 (.comp .seq [.bor 0] [] (.cst (.bl true)) (.idx (.bor 0) (ci 0))),
  .set 3 (.call 17 [.bor 2]),
  .ite (.or (.cmp .gt (.blt .len [.bor 3]) (.blt .len [.bor 1])) (.not (.call 18 [.bor 2])))
   [.ret (.cst (.bl false))]
   [],
  .ret (.and (.call 11 [(.call 5 [.bor 1]),(.call 5 [.bor 3])]) (.call 14 [.bor 1,.bor 3]))]⟩
noncomputable def bO:List MS:=[.ite (.not (.call 28 [.bor 2,.bor 1,(cs "weaver"),(cs "moth")]))
   [.ret (.cst (.bl false))]
   []]
noncomputable def gw:MD:=⟨"parts_are_good",["rows"],["rows","rest","paper"],
  [.forT [1,2] .seq [.bor 0] bO,
  .ret (.cst (.bl true))]⟩
noncomputable def gx:MD:=⟨"either_is_good",["paper","rest"],["paper","rest","one","two"],
  [.set 2 (.idx (.bor 0) (ci 1)),
  .set 3 (.idx (.bor 0) (ci 3)),
  .ite (.or (.not (.call 18 [(.lst [.var 2,.var 3])])) (.or (.not (.call 14 [.bor 2,.bor 1])) (.not (.call 14 [.bor 3,.bor 1]))))
   [.ret (.cst (.bl false))]
   [],
  .ret (.and (.call 28 [(.idx (.bor 0) (ci 2)),.bor 2,(cs "weaver"),(cs "weaver")]) (.call 28 [(.idx (.bor 0) (ci 4)),.bor 3,(cs "weaver"),(cs "weaver")]))]⟩
noncomputable def nr:MD:=⟨"_law_cell",["script","k"],["script","k"],
  [.ite (.cmp .lt (.bor 1) (.blt .len [.bor 0]))
   [.ret (.idx (.bor 0) (.bor 1))]
   [],
  .ret (ci 0)]⟩
noncomputable def ln:MD:=⟨"_law_mixed",["cell","by"],["cell","by"],
  [.ret (.bin .mod (.bin .mul (.bin .mod (.bor 0) (ci 2305843009213693951)) (.bor 1)) (ci 2305843009213693951))]⟩
noncomputable def fQ:MD:=⟨"_law_knotted",["rest","hole"],["rest","hole"],
  [.ret (.blt .tupleOf [(.blt .sorted [(.comp .seq [.bor 0] [1] (.cst (.bl true)) (.blt .tupleOf [(.comp .seq [.bor 0] [1] (.cmp .ne (.bor 0) (.bor 1)) (.var 0))]))])])]⟩
noncomputable def j4:MD:=⟨"_law_bitten",["rest","hole"],["rest","hole"],
  [.ret (.blt .tupleOf [(.comp .seq [.bor 0] [1] (.cmp .notIn (.bor 1) (.bor 0)) (.var 0))])]⟩
noncomputable def cZ:List MS:=[.ite (.cmp .notIn (.bor 3) (.bor 1))
   [.append 1 (.var 3)]
   []]
noncomputable def dL:List MS:=[.for1 3 .seq [.bor 2] cZ]
noncomputable def iE:MD:=⟨"_law_holes",["rest"],["rest","found","strip","hole"],
  [.setOwn 1 (.lst []),
  .for1 2 .seq [.bor 0] dL,
  .ret (.blt .sorted [.bor 1])]⟩
noncomputable def bP:List MS:=[.ite (.cmp .notIn (.bor 2) (.bor 1))
   [.ret (.cst (.bl false))]
   []]
noncomputable def cv:MD:=⟨"_law_within",["some","others"],["some","others","hole"],
  [.for1 2 .seq [.bor 0] bP,
  .ret (.cst (.bl true))]⟩
noncomputable def e_:List MS:=[.ite (.not (.blt .any [(.comp .seq [.bor 1] [3] (.cst (.bl true)) (.call 41 [.bor 0,.bor 1]))]))
   [.set 4 (.comp .seq [.bor 3] [2] (.cmp .notIn (.bor 0) (.bor 1)) (.var 0)),
   .ite (.cmp .gt (.blt .len [.bor 4]) (ci 1))
    [.append 1 (.tup [(.idx (.bor 4) (ci 0)),(.idx (.bor 4) (ci 1))]),
    .set 2 (.bin .add (.bor 2) (.slice (.bor 4) (.cst .non) (ci 2)))]
    []]
   []]
noncomputable def j5:MD:=⟨"_law_greedy",["rest"],["rest","pairs","used","strip","fresh"],
  [.setOwn 1 (.lst []),
  .set 2 (.lst []),
  .for1 3 .seq [.bor 0] e_,
  .ret (.blt .tupleOf [.bor 1])]⟩
noncomputable def dY:List MS:=[.set 4 (.blt .sum [(.comp .seq [.bor 0] [3] (.cmp .isIn (.bor 1) (.bor 0)) (.bin .shr (.bin .pow (ci 2) (ci 60)) (.blt .len [.bor 0])))]),
  .ite (.cmp .gt (.bor 4) (.bor 2))
   [.set 2 (.var 4),
   .set 1 (.var 3)]
   []]
noncomputable def po:MD:=⟨"_law_top",["rest"],["rest","best","most","hole","pulled"],
  [.set 1 (.cst .non),
  .set 2 (ci 0),
  .for1 3 .seq [(.call 40 [.bor 0])] dY,
  .ret (.var 1)]⟩
noncomputable def c7:List MS:=[.ite (.cmp .eq (.bor 1) (cs "weaver"))
   [.set 4 (.call 44 [(.call 38 [.bor 0,.bor 3]),(cs "moth")])]
   [.set 4 (.call 44 [(.call 39 [.bor 0,.bor 3]),(cs "weaver")])],
  .ite (.cmp .eq (.idx (.bor 4) (ci 0)) (.bor 1))
   [.ret (.tup [.var 1,(.tup [(.disp [("weaver","knot"),("moth","bite")] (.bor 1)),.var 3,(.idx (.bor 4) (ci 1))])])]
   [],
  .append 2 (.tup [.var 3,(.idx (.idx (.bor 4) (ci 1)) (ci 1)),(.idx (.idx (.bor 4) (ci 1)) (ci 2))])]
noncomputable def dZ:MD:=⟨"_law_tried",["rest","turn"],["rest","turn","rows","hole","found"],
  [.ite (.cmp .isIn (.tup []) (.bor 0))
   [.ret (.tup [(cs "weaver"),(.tup [(cs "whole")])])]
   [],
  .ite (.cmp .eq (.blt .len [.bor 0]) (ci 0))
   [.ret (.tup [(cs "moth"),(.tup [(cs "bare")])])]
   [],
  .setOwn 2 (.lst []),
  .for1 3 .seq [(.call 40 [.bor 0])] c7,
  .ret (.tup [(.disp [("weaver","moth"),("moth","weaver")] (.bor 1)),(.tup [(cs "cases"),(.blt .tupleOf [.bor 2])])])]⟩
noncomputable def bI:List MS:=[.set 10 (.bin .add (.bin .add (.bor 1) (.idx (.lst [(ci 0),(ci 4),(ci 8),(ci 0)]) (.bor 5))) (.bin .mod (.bor 4) (.bor 7))),
  .ite (.cmp .notIn (.bor 10) (.bor 8))
   [.append 8 (.var 10)]
   [],
  .set 4 (.bin .fdiv (.bor 4) (.bor 7))]
noncomputable def fI:MD:=⟨"_law_block_strip",["cell","base","blocks","least"],["cell","base","blocks","least","left","block","size","many","strip","k","hole"],
  [.set 4 (.call 37 [.bor 0,(ci 1181783497276652981)]),
  .set 5 (.bin .mod (.bor 4) (.bor 2)),
  .set 4 (.bin .fdiv (.bor 4) (.bor 2)),
  .set 6 (.bin .add (.bor 3) (.bin .mod (.bor 4) (ci 3))),
  .set 4 (.bin .fdiv (.bor 4) (ci 3)),
  .set 7 (.idx (.lst [(ci 4),(ci 4),(ci 4),(ci 12)]) (.bor 5)),
  .setOwn 8 (.lst []),
  .for1 9 .rng [.bor 6] bI,
  .ret (.blt .tupleOf [(.blt .sorted [.bor 8])])]⟩
noncomputable def gY:MD:=⟨"_law_next",["tape"],["tape"],
  [.ite (.cmp .gt (.lenP 0) (ci 0))
   [.retXE (.fn 37 (.pop 0) [(ci 2049848353892358983)])]
   [],
  .retM (ci 0)]⟩
noncomputable def nt:MD:=⟨"_law_deed",["rest","hand","reply"],["rest","hand","reply"],
  [.ite (.cmp .isN (.bor 2) (.cst .non))
   [.ret (.var 0)]
   [],
  .ite (.cmp .eq (.bor 1) (cs "moth"))
   [.ret (.call 39 [.bor 0,.bor 2])]
   [],
  .ret (.call 38 [.bor 0,.bor 2])]⟩
noncomputable def d4:MD:=⟨"_law_reply",["rest","pick"],["rest","pick"],
  [.ite (.cmp .eq (.bin .mod (.bor 1) (ci 8)) (ci 0))
   [.ret (.cst .non)]
   [],
  .ite (.cmp .eq (.bin .mod (.bor 1) (ci 8)) (ci 1))
   [.ret (.bin .mod (.bin .fdiv (.bor 1) (ci 8)) (ci 60))]
   [],
  .ret (.call 43 [.bor 0])]⟩
noncomputable def dM:List MS:=[.ite (.blt .any [(.comp .seq [.bor 5] [2] (.cst (.bl true)) (.blt .any [(.comp .seq [.bor 0] [1] (.cst (.bl true)) (.cmp .isIn (.bor 0) (.bor 1)))]))])
   [.set 3 (.bin .add (.bor 3) (.bor 5))]
   [.append 4 (.var 5)]]
noncomputable def dN:List MS:=[.set 3 (.lst []),
  .setOwn 4 (.lst []),
  .for1 5 .seq [.bor 1] dM,
  .set 1 (.bin .add (.bor 4) (.lst [(.bin .add (.bor 3) (.lst [.var 2]))]))]
noncomputable def lq:MD:=⟨"_law_split",["rest"],["rest","parts","strip","near","far","part"],
  [.set 1 (.lst []),
  .for1 2 .seq [.bor 0] dN,
  .ret (.comp .seq [.bor 1] [] (.cst (.bl true)) (.blt .tupleOf [(.blt .sorted [.bor 0])]))]⟩
noncomputable def lr:MD:=⟨"_law_plain",["rest","turn","hand","pick"],["rest","turn","hand","pick"],
  [.ite (.cmp .eq (.bor 2) (cs "weaver"))
   [.ret (.idx (.lst [(.tup [(cs "weight")]),(.tup [(cs "whole")])]) (.blt .intOf [(.cmp .isIn (.tup []) (.bor 0))]))]
   [],
  .ite (.cmp .eq (.blt .len [.bor 0]) (ci 0))
   [.ret (.tup [(cs "bare")])]
   [],
  .ite (.and (.cmp .eq (.bor 1) (cs "weaver")) (.cmp .eq (.bin .mod (.bor 3) (ci 2)) (ci 0)))
   [.ret (.tup [(cs "pairs"),(.call 42 [.bor 0])])]
   [],
  .ret (.tup [(cs "weight")])]⟩
noncomputable def fR:List MS:=[.set 6 (.call 47 [.bor 1,.bor 4,.bor 5]),
  .setX 7 (.fn2 48 (.var 6) (.call 46 [true] [.bor 0])),
  .appX 3 (.tup [(.pure (.var 5)),(.pure (.var 7)),(.call 54 [true,false,false,false,false] [.bor 0,(.call 47 [.bor 6,.bor 2,.bor 7]),.bor 4,.bor 2,(ci 0)])])]
noncomputable def iF:MD:=⟨"_law_cases",["tape","rest","hand"],["tape","rest","hand","rows","other","hole","behind_v","reply"],
  [.setOwn 3 (.lst []),
  .set 4 (.disp [("weaver","moth"),("moth","weaver")] (.bor 2)),
  .for1 5 .seq [(.call 40 [.bor 1])] fR,
  .retM (.tup [(cs "cases"),(.blt .tupleOf [.bor 3])])]⟩
noncomputable def fS:MD:=⟨"_law_of_moth",["tape","rest","turn","pick","deep"],["tape","rest","turn","pick","deep","reply","parts"],
  [.ite (.cmp .eq (.bor 2) (cs "moth"))
   [.set 5 (.call 48 [.bor 1,.bor 3]),
   .retXE (.tup [(.pure (cs "bite")),(.pure (.var 5)),(.call 54 [true,false,false,false,false] [.bor 0,(.call 47 [.bor 1,(cs "moth"),.bor 5]),(cs "weaver"),(cs "moth"),.bor 4])])]
   [],
  .ite (.and (.cmp .eq (.bin .mod (.bor 3) (ci 2)) (ci 0)) (.cmp .lt (.blt .len [(.call 40 [.bor 1])]) (ci 5)))
   [.retXE (.call 51 [true,false,false] [.bor 0,.bor 1,(cs "moth")])]
   [],
  .set 6 (.call 49 [.bor 1]),
  .retXE (.tup [(.pure (cs "parts")),(.tupOf (.compS (.var 6) [0,4] .pair (.var 0) 54 [true,false,false,false,false] [.bor 1,.bor 0,(cs "weaver"),(cs "moth"),.bor 2]))])]⟩
noncomputable def d_:MD:=⟨"_law_of_weaver",["tape","rest","turn","pick","deep"],["tape","rest","turn","pick","deep","some","reply","parts","one","two","left"],
  [.ite (.cmp .eq (.bin .mod (.bor 3) (ci 3)) (ci 0))
   [.set 5 (.blt .tupleOf [(.comp .rng [(.blt .len [.bor 1])] [1,3] (.cmp .gt (.bin .mod (.bin .shr (.bor 2) (.bin .add (.bor 0) (ci 8))) (ci 4)) (ci 0)) (.idx (.bor 1) (.bor 0)))]),
   .retXE (.tup [(.pure (cs "fewer")),(.pure (.var 5)),(.call 54 [true,false,false,false,false] [.bor 0,.bor 5,.bor 2,(cs "weaver"),.bor 4])])]
   [],
  .ite (.cmp .eq (.bor 2) (cs "weaver"))
   [.set 6 (.call 48 [.bor 1,(.bin .fdiv (.bor 3) (ci 3))]),
   .retXE (.tup [(.pure (cs "knot")),(.pure (.var 6)),(.call 54 [true,false,false,false,false] [.bor 0,(.call 47 [.bor 1,(cs "weaver"),.bor 6]),(cs "moth"),(cs "weaver"),.bor 4])])]
   [],
  .ite (.and (.cmp .eq (.bin .mod (.bor 3) (ci 3)) (ci 1)) (.cmp .lt (.blt .len [(.call 40 [.bor 1])]) (ci 5)))
   [.retXE (.call 51 [true,false,false] [.bor 0,.bor 1,(cs "weaver")])]
   [],
  .set 7 (.call 49 [.bor 1]),
  .ite (.cmp .lt (.blt .len [.bor 7]) (ci 2))
   [.retM (.tup [(cs "weight")])]
   [],
  .set 8 (.idx (.bor 7) (.bin .mod (.bin .fdiv (.bor 3) (ci 3)) (.blt .len [.bor 7]))),
  .set 9 (.idx (.bor 7) (.bin .mod (.bin .add (.bin .fdiv (.bor 3) (ci 3)) (ci 1)) (.blt .len [.bor 7]))),
  .setX 10 (.call 54 [true,false,false,false,false] [.bor 0,.bor 8,(cs "weaver"),(cs "weaver"),.bor 4]),
  .retXE (.tup [(.pure (cs "either")),(.pure (.var 8)),(.pure (.var 10)),(.pure (.var 9)),(.call 54 [true,false,false,false,false] [.bor 0,.bor 9,(cs "weaver"),(cs "weaver"),.bor 4])])]⟩
noncomputable def fJ:MD:=⟨"_law_paper",["tape","rest","turn","hand","deep"],["tape","rest","turn","hand","deep","pick","found"],
  [.setX 5 (.call 46 [true] [.bor 0]),
  .ite (.and (.cmp .eq (.bin .mod (.bor 5) (ci 2)) (ci 0)) (.cmp .lt (.blt .len [(.call 40 [.bor 1])]) (ci 5)))
   [.set 6 (.call 44 [.bor 1,.bor 2]),
   .ite (.cmp .eq (.idx (.bor 6) (ci 0)) (.bor 3))
    [.retM (.idx (.bor 6) (ci 1))]
    []]
   [],
  .ite (.or (.cmp .eq (.bor 4) (ci 0)) (.cmp .eq (.bin .mod (.bin .fdiv (.bor 5) (ci 2)) (ci 8)) (ci 0)))
   [.retM (.call 50 [.bor 1,.bor 2,.bor 3,(.bin .fdiv (.bor 5) (ci 16))])]
   [],
  .ite (.cmp .eq (.bor 3) (cs "moth"))
   [.retXE (.call 52 [true,false,false,false,false] [.bor 0,.bor 1,.bor 2,(.bin .fdiv (.bor 5) (ci 16)),(.bin .sub (.bor 4) (ci 1))])]
   [],
  .retXE (.call 53 [true,false,false,false,false] [.bor 0,.bor 1,.bor 2,(.bin .fdiv (.bor 5) (ci 16)),(.bin .sub (.bor 4) (ci 1))])]⟩
noncomputable def dO:List MS:=[.ite (.not (.blt .any [(.comp .seq [.bor 1] [2] (.cst (.bl true)) (.call 41 [.bor 0,.bor 1]))]))
   [.ret (.cst (.bl false))]
   []]
noncomputable def lu:MD:=⟨"_law_below",["rest","other"],["rest","other","strip"],
  [.for1 2 .seq [.bor 0] dO,
  .ret (.cst (.bl true))]⟩
noncomputable def wW:MD:=⟨"_law_sum",["rest"],["rest"],
  [.ret (.blt .sum [(.comp .seq [.bor 0] [] (.cst (.bl true)) (.bin .shr (.bin .pow (ci 2) (ci 60)) (.blt .len [.bor 0])))])]⟩
noncomputable def qo:MD:=⟨"_law_pulled",["rest","hole"],["rest","hole"],
  [.ret (.blt .sum [(.comp .seq [.bor 0] [1] (.cmp .isIn (.bor 1) (.bor 0)) (.bin .shr (.bin .pow (ci 2) (ci 60)) (.blt .len [.bor 0])))])]⟩
noncomputable def fb:List MS:=[.set 5 (.tup [(.idx (.bor 2) (.bor 4)),(.idx (.bor 2) (.bor 3))]),
  .dput 1 (.bor 5) (.bin .add (.dget (.bor 1) (.bor 5) (ci 0)) (ci 1))]
noncomputable def dy:List MS:=[.for1 4 .rng [.bor 3] fb]
noncomputable def iG:List MS:=[.for1 3 .rng [(.blt .len [.bor 2])] dy]
noncomputable def j6:MD:=⟨"_law_shared",["rest"],["rest","counts","strip","k","j","pair"],
  [.newD true 1,
  .for1 2 .seq [.bor 0] iG,
  .ret (.blt .max1 [(.bin .add (.lst [(ci 0)]) (.blt .valuesOf [.bor 1]))])]⟩
noncomputable def dz:MD:=⟨"_law_moth_weighs",["rest","turn"],["rest","turn","top"],
  [.ite (.cmp .eq (.bor 1) (cs "moth"))
   [.ret (.cmp .lt (.call 56 [.bor 0]) (.bin .pow (ci 2) (ci 60)))]
   [],
  .set 2 (.blt .max1 [(.bin .add (.lst [(ci 0)]) (.comp .seq [(.call 40 [.bor 0])] [0] (.cst (.bl true)) (.call 57 [.bor 1,.bor 0])))]),
  .ret (.cmp .lt (.bin .add (.call 56 [.bor 0]) (.bor 2)) (.bin .pow (ci 2) (ci 60)))]⟩
noncomputable def gz:MD:=⟨"_law_weaver_now",["rest"],["rest"],
  [.ret (.cmp .gt (.bin .mul (ci 4) (.call 56 [.bor 0])) (.bin .mul (.bin .mul (.bin .pow (ci 2) (ci 60)) (.call 58 [.bor 0])) (.bin .fdiv (.blt .len [(.call 40 [.bor 0])]) (ci 2))))]⟩
noncomputable def cV:MD:=⟨"_law_weaver_weighs",["rest","turn"],["rest","turn"],
  [.ite (.cmp .eq (.bor 1) (cs "weaver"))
   [.ret (.call 60 [.bor 0])]
   [],
  .ite (.cmp .isIn (.tup []) (.bor 0))
   [.ret (.cst (.bl true))]
   [],
  .ite (.not (.call 60 [.bor 0]))
   [.ret (.cst (.bl false))]
   [],
  .ret (.blt .all [(.comp .seq [(.call 40 [.bor 0])] [0] (.cst (.bl true)) (.call 60 [(.call 39 [.bor 1,.bor 0])]))])]⟩
noncomputable def lv:MD:=⟨"_law_pairs",["pairs","rest"],["pairs","rest","flat"],
  [.set 2 (.bin .add (.comp .seq [.bor 0] [] (.cst (.bl true)) (.idx (.bor 0) (ci 0))) (.comp .seq [.bor 0] [] (.cst (.bl true)) (.idx (.bor 0) (ci 1)))),
  .ite (.cmp .ne (.blt .lenSet [.bor 2]) (.blt .len [.bor 2]))
   [.ret (.cst (.bl false))]
   [],
  .ret (.blt .all [(.comp .seq [.bor 1] [0] (.cst (.bl true)) (.blt .any [(.comp .seq [.bor 1] [0] (.cst (.bl true)) (.call 41 [.bor 0,.bor 1]))]))])]⟩
noncomputable def jv:MD:=⟨"_law_leaf",["paper","rest","turn","hand"],["paper","rest","turn","hand","word"],
  [.set 4 (.idx (.bor 0) (ci 0)),
  .ite (.cmp .eq (.bor 4) (cs "bare"))
   [.ret (.and (.cmp .eq (.bor 3) (cs "moth")) (.cmp .eq (.blt .len [.bor 1]) (ci 0)))]
   [],
  .ite (.cmp .eq (.bor 4) (cs "whole"))
   [.ret (.and (.cmp .eq (.bor 3) (cs "weaver")) (.cmp .isIn (.tup []) (.bor 1)))]
   [],
  .ite (.and (.cmp .eq (.bor 4) (cs "weight")) (.cmp .eq (.bor 3) (cs "moth")))
   [.ret (.call 59 [.bor 1,.bor 2])]
   [],
  .ite (.cmp .eq (.bor 4) (cs "weight"))
   [.ret (.call 61 [.bor 1,.bor 2])]
   [],
  .ret (.and (.cmp .eq (.bor 3) (cs "moth")) (.and (.cmp .eq (.bor 2) (cs "weaver")) (.call 62 [(.idx (.bor 0) (ci 1)),.bor 1])))]⟩
noncomputable def bt:MD:=⟨"_law_spoilt",["paper","way"],["paper","way","word","rows","at","last"],
  [.set 2 (.idx (.bor 0) (ci 0)),
  .ite (.or (.cmp .eq (.bor 2) (cs "bite")) (.cmp .eq (.bor 2) (cs "knot")))
   [.ite (.cmp .eq (.bin .mod (.bor 1) (ci 3)) (ci 0))
    [.ret (.tup [.var 2,(.bin .mod (.bin .fdiv (.bor 1) (ci 3)) (ci 60)),(.idx (.bor 0) (ci 2))])]
    [],
   .ret (.tup [.var 2,(.idx (.bor 0) (ci 1)),(.call 64 [(.idx (.bor 0) (ci 2)),(.bin .fdiv (.bor 1) (ci 3))])])]
   [],
  .ite (.cmp .eq (.bor 2) (cs "fewer"))
   [.ret (.tup [.var 2,(.idx (.bor 0) (ci 1)),(.call 64 [(.idx (.bor 0) (ci 2)),(.bin .fdiv (.bor 1) (ci 3))])])]
   [],
  .ite (.cmp .eq (.bor 2) (cs "either"))
   [.ite (.cmp .eq (.bin .mod (.bor 1) (ci 3)) (ci 0))
    [.ret (.tup [.var 2,(.idx (.bor 0) (ci 1)),(.idx (.bor 0) (ci 2)),(.idx (.bor 0) (ci 1)),(.idx (.bor 0) (ci 2))])]
    [],
   .ret (.tup [.var 2,(.idx (.bor 0) (ci 1)),(.call 64 [(.idx (.bor 0) (ci 2)),(.bin .fdiv (.bor 1) (ci 3))]),(.idx (.bor 0) (ci 3)),(.idx (.bor 0) (ci 4))])]
   [],
  .ite (.and (.or (.cmp .eq (.bor 2) (cs "cases")) (.cmp .eq (.bor 2) (cs "parts"))) (.cmp .gt (.blt .len [(.idx (.bor 0) (ci 1))]) (ci 0)))
   [.setOwn 3 (.blt .listOf [(.idx (.bor 0) (ci 1))]),
   .set 4 (.bin .mod (.bin .fdiv (.bor 1) (ci 3)) (.blt .len [.bor 3])),
   .ite (.cmp .eq (.bin .mod (.bor 1) (ci 3)) (ci 0))
    [.popAt 3 (.bor 4)]
    [.ite (.and (.cmp .eq (.bin .mod (.bor 1) (ci 3)) (ci 1)) (.cmp .eq (.bor 2) (cs "cases")))
     [.setIdx 3 (.bor 4) (.tup [(.idx (.idx (.bor 3) (.bor 4)) (ci 0)),(.bin .mod (.bin .fdiv (.bor 1) (ci 64)) (ci 60)),(.idx (.idx (.bor 3) (.bor 4)) (ci 2))])]
     [.set 5 (.bin .sub (.blt .len [(.idx (.bor 3) (.bor 4))]) (ci 1)),
     .setIdx 3 (.bor 4) (.bin .add (.slice (.idx (.bor 3) (.bor 4)) (.cst .non) (.bor 5)) (.tup [(.call 64 [(.idx (.idx (.bor 3) (.bor 4)) (.bor 5)),(.bin .fdiv (.bor 1) (ci 64))])]))]],
   .ret (.tup [.var 2,(.blt .tupleOf [.bor 3])])]
   [],
  .ret (.idx (.lst [(.tup [(cs "weight")]),(.tup [(cs "whole")]),(.tup [(cs "bare")]),(.tup [(cs "pairs"),(.tup [])])]) (.bin .mod (.bor 1) (ci 4)))]⟩
noncomputable def bZ:List MS:=[.set 5 (.call 47 [(.call 47 [.bor 1,.bor 3,(.idx (.bor 4) (ci 0))]),.bor 2,(.idx (.bor 4) (ci 1))]),
  .ite (.not (.call 68 [(.idx (.bor 4) (ci 2)),.bor 5,.bor 3,.bor 2]))
   [.ret (.cst (.bl false))]
   []]
noncomputable def ic:MD:=⟨"_law_good_rows",["rows","rest","hand"],["rows","rest","hand","other","row","behind_v"],
  [.set 3 (.disp [("weaver","moth"),("moth","weaver")] (.bor 2)),
  .ite (.cmp .ne (.comp .seq [.bor 0] [] (.cst (.bl true)) (.idx (.bor 0) (ci 0))) (.call 40 [.bor 1]))
   [.ret (.cst (.bl false))]
   [],
  .for1 4 .seq [.bor 0] bZ,
  .ret (.cst (.bl true))]⟩
noncomputable def cw:List MS:=[.set 2 (.bin .add (.bor 2) (.call 40 [(.idx (.bor 4) (ci 0))])),
  .set 3 (.bin .add (.bor 3) (.blt .listOf [(.idx (.bor 4) (ci 0))]))]
noncomputable def gC:MD:=⟨"_law_good_parts",["rows","rest"],["rows","rest","holes","strips","row"],
  [.set 2 (.lst []),
  .set 3 (.lst []),
  .for1 4 .seq [.bor 0] cw,
  .ite (.or (.cmp .ne (.blt .lenSet [.bor 2]) (.blt .len [.bor 2])) (.not (.call 41 [.bor 2,(.call 40 [.bor 1])])))
   [.ret (.cst (.bl false))]
   [],
  .ite (.or (.cmp .gt (.blt .len [.bor 3]) (.blt .len [.bor 1])) (.not (.call 55 [.bor 1,.bor 3])))
   [.ret (.cst (.bl false))]
   [],
  .ret (.blt .all [(.comp .seq [.bor 0] [] (.cst (.bl true)) (.call 68 [(.idx (.bor 0) (ci 1)),(.idx (.bor 0) (ci 0)),(cs "weaver"),(cs "moth")]))])]⟩
noncomputable def fK:MD:=⟨"_law_good_either",["paper","rest"],["paper","rest"],
  [.ite (.blt .any [(.comp .seq [(.call 40 [(.idx (.bor 0) (ci 1))])] [0] (.cst (.bl true)) (.cmp .isIn (.bor 0) (.call 40 [(.idx (.bor 1) (ci 3))])))])
   [.ret (.cst (.bl false))]
   [],
  .ite (.not (.call 55 [(.bin .add (.idx (.bor 0) (ci 1)) (.idx (.bor 0) (ci 3))),.bor 1]))
   [.ret (.cst (.bl false))]
   [],
  .ret (.and (.call 68 [(.idx (.bor 0) (ci 2)),(.idx (.bor 0) (ci 1)),(cs "weaver"),(cs "weaver")]) (.call 68 [(.idx (.bor 0) (ci 4)),(.idx (.bor 0) (ci 3)),(cs "weaver"),(cs "weaver")]))]⟩
noncomputable def nu:MD:=⟨"_law_good",["paper","rest","turn","hand"],["paper","rest","turn","hand","word","other"],
  [.set 4 (.idx (.bor 0) (ci 0)),
  .ite (.cmp .isIn (.bor 4) (.lst [(cs "bare"),(cs "whole"),(cs "weight"),(cs "pairs")]))
   [.ret (.call 63 [.bor 0,.bor 1,.bor 2,.bor 3])]
   [],
  .ite (.or (.cmp .eq (.bor 4) (cs "bite")) (.cmp .eq (.bor 4) (cs "knot")))
   [.ite (.or (.cmp .ne (.bor 3) (.bor 2)) (.cmp .ne (.cmp .eq (.bor 4) (cs "bite")) (.cmp .eq (.bor 3) (cs "moth"))))
    [.ret (.cst (.bl false))]
    [],
   .set 5 (.disp [("weaver","moth"),("moth","weaver")] (.bor 3)),
   .ret (.call 68 [(.idx (.bor 0) (ci 2)),(.call 47 [.bor 1,.bor 3,(.idx (.bor 0) (ci 1))]),.bor 5,.bor 3])]
   [],
  .ite (.cmp .eq (.bor 4) (cs "fewer"))
   [.ret (.and (.cmp .eq (.bor 3) (cs "weaver")) (.and (.call 55 [(.idx (.bor 0) (ci 1)),.bor 1]) (.call 68 [(.idx (.bor 0) (ci 2)),(.idx (.bor 0) (ci 1)),.bor 2,.bor 3])))]
   [],
  .ite (.cmp .eq (.bor 3) (.bor 2))
   [.ret (.cst (.bl false))]
   [],
  .ite (.cmp .eq (.bor 4) (cs "cases"))
   [.ite (.or (.and (.cmp .eq (.bor 3) (cs "moth")) (.cmp .isIn (.tup []) (.bor 1))) (.and (.cmp .eq (.bor 3) (cs "weaver")) (.cmp .eq (.blt .len [(.call 40 [.bor 1])]) (ci 0))))
    [.ret (.cst (.bl false))]
    [],
   .ret (.call 65 [(.idx (.bor 0) (ci 1)),.bor 1,.bor 3])]
   [],
  .ite (.cmp .eq (.bor 4) (cs "parts"))
   [.ret (.and (.cmp .eq (.bor 3) (cs "moth")) (.call 66 [(.idx (.bor 0) (ci 1)),.bor 1]))]
   [],
  .ret (.and (.cmp .eq (.bor 3) (cs "weaver")) (.call 67 [.bor 0,.bor 1]))]⟩
noncomputable def vF:List MS:=[.set 14 (.call 28 [.bor 11,.bor 6,.bor 13,.bor 12]),
  .ite (.or (.not (.blt .isBool [.bor 14])) (.cmp .ne (.bor 14) (.call 68 [.bor 11,.bor 6,.bor 13,.bor 12])))
   [.ret (.cst (.bl false))]
   []]
noncomputable def vG:List MS:=[.for1 13 .seq [(.lst [(cs "moth"),(cs "weaver")])] vF]
noncomputable def vH:List MS:=[.for1 12 .seq [(.lst [(cs "weaver"),(cs "moth")])] vG]
noncomputable def vI:MD:=⟨"law",["script"],["script","way","by","room","cells","strips","rest","tape","hand","turn","paper","asked","whose","now","found"],
  [.set 1 (.call 37 [(.call 36 [.bor 0,(ci 0)]),(ci 1865811235122147685)]),
  .set 2 (.call 37 [(.call 36 [.bor 0,(ci 1)]),(ci 1442695040888963407)]),
  .set 3 (.idx (.lst [(ci 3),(ci 8)]) (.bin .mod (.bor 1) (ci 2))),
  .set 4 (.slice (.bor 0) (ci 2) (.bin .add (ci 2) (.bor 3))),
  .set 5 (.comp .seq [.bor 4] [2] (.cst (.bl true)) (.call 45 [.bor 0,(.bin .mod (.bor 1) (ci 49)),(.bin .add (ci 3) (.bin .mod (.bin .fdiv (.bor 1) (ci 49)) (ci 2))),(.bin .mod (.bin .fdiv (.bor 1) (ci 98)) (ci 3))])),
  .set 6 (.blt .tupleOf [(.blt .sorted [.bor 5])]),
  .setP 7 (.slice (.bor 0) (.bin .add (ci 2) (.bor 3)) (.cst .non)),
  .set 8 (.idx (.lst [(cs "moth"),(cs "weaver")]) (.bin .mod (.bin .fdiv (.bor 1) (ci 2)) (ci 2))),
  .set 9 (.idx (.lst [(cs "moth"),(cs "weaver")]) (.bin .mod (.bin .fdiv (.bor 1) (ci 4)) (ci 2))),
  .setX 10 (.call 54 [true,false,false,false,false] [.bor 7,.bor 6,.bor 9,.bor 8,(ci 3)]),
  .for1 11 .seq [(.lst [.var 10,(.call 64 [.bor 10,(.bin .fdiv (.bor 1) (ci 8))])])] vH,
  .ret (.cst (.bl true))]⟩
noncomputable def defs:List MD:=[gX,lj,d9,kP,r_,nk,nl,kQ,jX,jY,i_,kR,dJ,kS,ju,jZ,j3,nn,lm,iB,sa,vE,lJ,wV,ja,cY,nq,c9,E2,bT,bm,iD,gu,fH,gw,gx,nr,ln,fQ,j4,iE,cv,j5,po,dZ,fI,gY,nt,d4,lq,lr,iF,fS,d_,fJ,lu,wW,qo,j6,dz,gz,cV,lv,jv,bt,ic,gC,fK,nu,vI]
noncomputable def tab:Tab:=⟨defs.map (·.name),[("UNIT",(.int 1152921504606846976))],[[],[],[],[],[],[],[],[],[],[],[],[],[],[],[],[],[],[],[],[],[],[],[],[],[],[],[],[],[],[],[],[],[],[],[],[],[],[],[],[],[],[],[],[],[],[],[],[],[],[],[],[],[],[],[],[],[],[],[],[],[],[],[],[],[],[],[],[],[],[]]⟩
noncomputable def cellOf(ns:List Int)(k:Int):Int:=ns.getD k.toNat 0
def E3(n)(m)(ns)(k)(z:bA (some m)=some (ofL ns))(J:0<=k):aa defs (n+1) 36 [m,.val (.int k)]=some (.int (cellOf ns k)):=by
 rw[ae rfl rfl];unfold cellOf;simp[nr,exs,ex,ev,evs,evB,z];by_cases h:k<(ns.length:Int)
 .have h2:k.toNat<ns.length:=by omega
  simp[h,dX J h,h2]
 .have h2:ns.length<=k.toNat:=by omega
  simp[h,h2]
noncomputable def iH(c b:Int):Int:=c % 2305843009213693951*b % 2305843009213693951
def gZ(c b):0<=iH c b:=JN _ (by decide)
def qp(n)(c b):aa defs (n+1) 37 [.val (.int c),.val (.int b)]=some (.int (iH c b)):=by
 rw[ae rfl rfl];have z:(-18446744073709551616<c % 2305843009213693951/\c % 2305843009213693951<18446744073709551616\/-18446744073709551616<b/\b<18446744073709551616):=.inl ⟨by omega,by omega⟩;simp[ln,exs,ex,ev,z,iH]
theorem g5{α:Type}{g:α->PV}{body:PV->Rho->R}{I:Rho->Prop}{p:α->Bool}{r:α->PV}:∀{xs:List α}{W},I W ->
  (∀x∈xs,∀W,I W->(p x=true->body (g x) W=.ret (r x))/\(p x=false->∃l,I l/\body (g x) W=.next l)) ->
  (∀x,xs.find? p=some x->aw body (xs.map g) W=.ret (r x))/\(xs.find? p=none->∃l,I l/\aw body (xs.map g) W=.next l)
 | [],W,J,_=>⟨λx h=>(by cases h),λ_=>⟨W,J,rfl⟩⟩
 |x::xs,W,J,h=>by
  obtain⟨h1,h2⟩:=h x (.head _) W J;rw[IG,aw];cases z:p x with
  |true =>
   rw[h1 z,Lc z];exact⟨λy e=>(by cases e;rfl),λe=>(by cases e)⟩
  |false =>
   obtain⟨l,U,e⟩:=h2 z;rw[e,J8 (by simp[z])];exact g5 (xs:=xs) U λy Y=>h y (.tail _ Y)
def cx(h:(evs cal src W).bind (aW k)=some xs):ex cal (.for1 i k src body) W=(aw (λx l=>exs cal body (put l i (.val x))) xs (bh src W)).back src W:=by
 rw[ex,h]
def qr(h:(evs cal src W).bind (aW k)=some xs):ex cal (.forT is k src body) W=(aw (λx l=>cA (cW is x l) λz=>exs cal body z) xs (bh src W)).back src W:=by
 rw[ex,h]
def ag(cal)(m)(ms)(W):exs cal (m::ms) W=(ex cal m W).andThen λl=>exs cal ms l:=rfl
def aB(h:ev cal e W=some v):ev cal (.blt b [e]) W=aG b [v]:=by
 rw[ev,evs,h,bind_some,evs,map_some,bind_some]
def fT(h:ev cal e W=some v):ex cal (.set i e) W=.next (put W i (.val v)):=by
 rw[ex,h];rfl
def bF(h:ev cal a W=some (.bl p))(h':p=true->ev cal b W=some (.bl q)):ev cal (.and a b) W=some (.bl (p&&q)):=by
 rw[ev,h];cases p<;>first|rfl|simp[h' rfl]
def bw(h:ev cal e W=some v):ex cal (.ret e) W=.ret v:=by
 rw[ex,h];rfl
def ac(h:evA cal es W=some vs)(h':cal f vs=some v):ev cal (.call f es) W=some v:=by
 rw[ev,h,bind_some,h']
def dj(h:ev cal e W=some (.lst xs)):ex cal (.setOwn i e) W=.next (put W i (.own xs)):=by
 rw[ex,h];rfl
def be{α:Type}{xs:List α}{g h:α->PV}(h1:evs cal src W=some vs)(h2:aW k vs=some (xs.map g))(z:xs.length<=10000)
  (J:∀x∈xs,ev cal elt (bC js W (g x))=some (h x)):ev cal (.comp k src js (.cst (.bl true)) elt) W=some (.lst (xs.map h)):=by
 rw[ev,h1,bind_some,h2,bind_some,if_pos (by simpa using z),gQ (h:=h) (λx _=>by simp[ev]) J]
 rfl
def fc(cal)(v)(W):ev cal (.cst v) W=some v:=rfl
def bx(h:ev cal a W=some x)(h':ev cal b W=some y):ev cal (.bin op a b) W=dQ op x y:=by
 rw[ev,h,bind_some,h',bind_some]
def cD(h:ev cal a W=some x)(h':ev cal b W=some y):ev cal (.cmp op a b) W=(cK op x y).map .bl:=by
 rw[ev,h,bind_some,h',bind_some]
def c8(h:ev cal a W=some (.int x))(z:0<k):ev cal (.cmp .eq (.bin .mod a (ci k)) (ci j)) W=some (.bl (x % k==j)):=by
 rw[cD (bx h (fc _ _ _) |>.trans (by rw[qj,if_pos z])) (fc _ _ _),EV,qh]
 rfl
def vJ(h:ev cal a W=some (.int x))(z:0<k/\k<1073741824):ev cal (.bin .fdiv a (ci k)) W=some (.int (x / k)):=by
 rw[bx h (fc _ _ _),zA,if_pos z]
def kT(h:ev cal a W=some (.bl b)):evB cal a W=some b:=by simp_all [evB]
def qt(z:∀i,e≠.bor i)(h:ev cal e W=some v):evA cal [e] W=some [.val v]:=by simp_all [evA]
def gE(z:∀i,e≠.bor i)(h:ev cal e W=some v)(h':cal f [.val v]=some r):ev cal (.call f [e]) W=some r:=ac (qt z h) h'
def dA(h:ev cal a W=some x)(h':ev cal i W=some y):ev cal (.idx a i) W=dR x y:=by
 rw[ev,h,bind_some,h',bind_some]
def g6(h:body x W=.next z):aw body (x::xs) W=aw body xs z:=by rw[aw,h]
noncomputable def sub(a b:List Int):Bool:=a.all λx=>decide (x∈b)
def g7 :sub a b=true ↔ ∀x∈a,x∈b:=by simp[sub]
def kU(n)(m U)(a b)(J:(bA (some m)).bind aX=some (a.map .int))(z:(bA (some U)).bind aX=some (b.map .int))(Z:a.length<=1000)(hb:b.length<=1000)(hd:(dd b).length<=60):aa defs (n+1) 11 [m,U]=some (.bl (sub b a)):=by
 rw[ae (d:=kR) rfl rfl];have h:((((dd b).filter λx=>!decide (x∈a)).length:Int)==0)=sub b a:=by
  rw[IT,IE,g7];constructor
  .intro h x hx;have h2:(dd b).filter (λx=>!decide (x∈a))=[]:=K4 (by omega);have:=LP.mp h2 x (jt.mpr hx);simpa using this
  .intro h;have h2:(dd b).filter (λx=>!decide (x∈a))=[]:=LP.mpr λx hx=>by simpa using h x (jt.mp hx)
   rw[h2];rfl
 cases h1:bA (some m)with
 |none=>rw[h1]at J;cases J
 |some v =>
  cases h2:bA (some U)with
  |none=>rw[h2]at z;cases z
  |some Y =>
   rw[h1]at J;rw[h2]at z;have J:aX v=some (a.map .int):=J;have z:aX Y=some (b.map .int):=z;have e:aG .lenSetSub [Y,v]=some (.int ((dd b).filter λx=>!decide (x∈a)).length):=by
    show((aX Y).bind λxs=>(bf xs).bind λns=>(aX v).bind λys=>(bf ys).bind λms=>if ns.length<=1000/\ms.length<=1000/\(dd ns).length<=60 then some (PV.int ((dd ns).filter λn=>!decide (n∈ms)).length)else none)=_;rw[z,J];simp[bb,Z,hb,hd]
   simp[kR,exs,ex,ev,evs,h1,h2,e,h]
theorem j7(cal)(a):∀(R:LL) g (z:∀t,aX (g t)=some (t.map .int)) acc s,acc.length+R.flatten.length<=10000 ->
  ∃s',aw (λx l=>exs cal bN (put l 2 (.val x))) (R.map g) [some a,some (.own (acc.map .int)),s]=.next [some a,some (.own ((acc++R.flatten).map .int)),s']
 | [],g,z,acc,s,_=>⟨s,by simp⟩
 |t::R,g,z,acc,s,h=>by
  rw[IG,aw];rw[flatten_cons,IC]at h;have h2:acc.length+t.length<=10000:=by omega
  have e:exs cal bN (put [some a,some (.own (acc.map .int)),s] 2 (.val (g t)))=.next [some a,some (.own ((acc++t).map .int)),sv (g t)]:=by
   simp[bN,exs,ex,ev,z,h2]
  rw[e];obtain⟨s',J⟩:=j7 cal a R g z (acc++t) (sv _) (by rw[IC];omega);exact⟨s',by rw[flatten_cons,<- Jm];exact J⟩
def kW(n)(m)(ho:∀xs,m≠.own xs)(R:LL)(g)(U:∀t,aX (g t)=some (t.map .int))(z:(bA (some m)).bind aX=some (R.map g))(Y:R.flatten.length<=10000):aa defs (n+1) 0 [m]=some (ofL R.flatten):=by
 rw[ae rfl rfl];obtain⟨s',e⟩:=j7 (aa defs n) m R g U [] none (by simpa using Y);simp only[map_nil]at e;cases J:bA _ with
 |none=>rw[J]at z;cases z
 |some v =>
  rw[J]at z;have z:aX v=some _:=z;cases m<;>first|exact absurd rfl (ho _)|simp[gX,exs,ex,ev,evs,bh,J,z,e,aJ,-map_flatten]
theorem iU:∀l,(dd l).length<=l.length
 | []=>pe _
 |x::r=>by
  have:=iU r;rw[dd]
  grind
theorem eM:∀l,(dd l).length=l.length ↔ l.Nodup
 | []=>by simp[dd]
 |x::r=>by
  have h:=iU r;have ih:=eM r;rw[dd,Jl,<- ih];by_cases q:x∈dd r
  .rw[if_pos q,length_cons];exact⟨λz=>by omega,λz=>absurd (jt.mp q) z.1⟩
  .rw[if_neg q,length_cons,length_cons];exact⟨λz=>⟨λw=>q (jt.mpr w),by omega⟩,λz=>by omega⟩
def zG(n)(l)(z:l.length<=1000):aa defs (n+1) 1 [.val (ofL l)]=some (.bl (decide l.Nodup)):=by
 rw[ae rfl rfl];have e:aG .lenSet [ofL l]=some (.int (dd l).length):=by
  show((aX (ofL l)).bind λxs=>(bf xs).bind λns=>if ns.length<=1000 then some (PV.int (dd ns).length)else none)=_;rw[iS,bind_some,bb,bind_some,if_pos z]
 have h:(((dd l).length:Int)==(l.length:Int))=decide l.Nodup:=by
  rw[IT,IE,Jc,<- eM];omega
 simp[lj,exs,ex,ev,evs,e,h]
def OkP(R:LL):Prop:=∀t∈R,∃x y,t=[x,y]/\(0<=x/\x<=59)/\0<=y/\y<=59
def BL(h:t.length<=2):(dd t).length<=60:=IH (iU t) (by omega)
def qu{R:LL}(h:OkP R):∀t∈R,t.length=2:=λt z=>by obtain⟨x,y,rfl,_⟩:=h t z;rfl
theorem Cw:∀{R},OkP R->R.flatten.length=2*R.length
 | [],_=>rfl
 |t::R,h=>by
  rw[flatten_cons,IC,qu h t (.head _),Cw λu z=>h u (.tail _ z),length_cons];omega
def uf(n)(s)(v)(R)(hv:aX v=some (R.map ofS))(z:OkP R)(Y:R.length<=60)(hs:s.length<=1000):aa defs (n+2) 15 [.val (ofS s),.val v]=some (.bl (R.any λt=>sub t s)):=by
 rw[ae (d:=jZ) rfl rfl];have U:ev (aa defs (n+1)) (.comp .seq [.bor 1] [0] (.cst (.bl true)) (.call 11 [.bor 1,.bor 0])) [sv (ofS s),sv v]=some (.lst (R.map λt=>.bl (sub t s))):=by
  refine be (vs:=[v]) (by simp[evs,ev]) hv (by omega) λt J=>?_
  refine ac (vs:=[.val (ofS s),.val (ofS t)]) (by simp[evA,bC]) (kU n _ _ s t rfl rfl hs (by have:=qu z t J;omega) (BL (by have:=qu z t J;omega)))
 show aQ (exs _ [.ret _] _)=_;rw[ag,bw (v:=.bl _)]
 .rfl
 .show ev (aa defs _) _ [sv _,some _]=_;rw[aB U,iT,show(R.map λt=>PV.bl _)=(R.map λt=>sub t s).map PV.bl from by rw[ID];rfl,bD];simp
noncomputable def nv(R A:LL):Bool:=decide R.flatten.Nodup&&A.all λs=>R.any λt=>sub t s
def qv(n)(v)(R A)(hv:aX v=some (R.map ofS))(J:OkP R)(Y:R.length<=60)(Z:∀t∈A,cM t)(hA:A.length<=60):aa defs (n+3) 16 [.val v,.val (ofR A)]=some (.bl (nv R A)):=by
 rw[ae (d:=j3) rfl rfl];have hf:=Cw J;have em:=kW (n+1) (.val v) (λ_ z=>by cases z) R ofS (λ_=>rfl) (by simpa using hv) (by omega);simp only[Nat.add_assoc,Nat.reduceAdd]at em;have U:=zG (n+1) R.flatten (by omega);simp only[Nat.add_assoc,Nat.reduceAdd]at U;show aQ (exs (aa defs (n+2)) (_::[_]) [sv v,sv (ofR A)])=_;have e1:ev (aa defs (n+2)) (.call 1 [(.call 0 [.bor 0])]) [sv v,sv (ofR A)]=some (.bl (decide R.flatten.Nodup)):=
  ac (vs:=[.val (ofL R.flatten)]) (by
   have a1:ev (aa defs (n+2)) (.call 0 [.bor 0]) [sv v,sv (ofR A)]=some (ofL R.flatten):=ac (vs:=[.val v]) (by simp[evA]) em;simp only[evA,a1]
   rfl) U
 have ec:ev (aa defs (n+2)) (.comp .seq [.bor 1] [0] (.cst (.bl true)) (.call 15 [.bor 0,.bor 1])) [sv v,sv (ofR A)]=some (.lst (A.map λs=>.bl (R.any λt=>sub t s))):=by
  refine be (g:=ofS) (vs:=[ofR A]) (by simp[evs,ev]) rfl (by omega) λs hs=>?_
  exact ac (vs:=[.val (ofS s),.val v]) (by simp[evA,bC]) (uf n s v R hv J Y (by have:=aA (Z s hs);omega))
 have e2:ev (aa defs (n+2)) (.blt .all [(.comp .seq [.bor 1] [0] (.cst (.bl true)) (.call 15 [.bor 0,.bor 1]))]) [sv v,sv (ofR A)]=some (.bl (A.all λs=>R.any λt=>sub t s)):=by
  rw[aB ec,jU,show(A.map λs=>PV.bl (R.any λt=>sub t s))=(A.map λs=>R.any λt=>sub t s).map PV.bl from by rw[ID];rfl,bD];simp
 rw[ag];have e3:ex (aa defs (n+2)) (.ite (.not (.call 1 [(.call 0 [.bor 0])])) [.ret (.cst (.bl false))] []) [sv v,sv (ofR A)]=if R.flatten.Nodup then .next [sv v,sv (ofR A)]else .ret (.bl false):=by
  rw[ex,evB,ev,e1];by_cases q:R.flatten.Nodup
  .simp[q,exs]
  .simp[q,exs,ex,ev]
 rw[e3];unfold nv;by_cases q:R.flatten.Nodup
 .rw[if_pos q,au,ag,bw e2,IP q,J4]
  rfl
 .simp_all
def nw (v:PV):Prop:=v=.tup [.str "bare"]\/v=.tup [.str "whole"]\/v=.tup [.str "weight"]\/∃P,OkP P/\P.length<=60/\v=.tup [.str "pairs",ofR P]
def ny(n)(a b):aa defs (n+1) 41 [.val (ofS a),.val (ofS b)]=some (.bl (sub a b)):=by
 rw[ae (d:=cv) rfl rfl];have key:=g5 (g:=PV.int) (xs:=a) (body:=λx l=>exs (aa defs n) bP (put l 2 (.val x))) (I:=λW=>∃kk,W=[sv (ofS a),sv (ofS b),kk]) (p:=λx=>!decide (x∈b)) (r:=λ_=>.bl false)
  (W:=[sv (ofS a),sv (ofS b),none]) ⟨_,rfl⟩ (by
   rintro x hx W ⟨kk,rfl⟩;constructor
   .intro h;simp at h;simp[bP,exs,ex,ev,evB,bn,h]
   .intro h;simp at h;exact⟨[sv (ofS a),sv (ofS b),sv (.int x)],⟨_,rfl⟩,by simp[bP,exs,ex,ev,evs,evB,bn,h]⟩)
 cases hf:a.find? (λx=>!decide (x∈b))with
 |some x =>
  have e:=key.1 x hf;have hx:=find?_some hf;have z:=Lv hf;have:sub a b=false:=by
   cases hs:sub a b<;>first|rfl|simp[g7.mp hs x z]at hx
  simp[cv,exs,ex,ev,evs,bh,e,this]
 |none =>
  obtain⟨l,⟨kk,rfl⟩,e⟩:=key.2 hf;have:=g7.mpr λx hx=>by
   have:=Li.mp hf x hx;simpa using this
  simp[cv,exs,ex,ev,evs,bh,e,this,aJ]
theorem lw:∀{P},OkP P->((P.map λt=>t.getD 0 0)++(P.map λt=>t.getD 1 0)).Perm P.flatten
 | [],_=>Perm.refl _
 |t::P,h=>by
  obtain⟨x,y,rfl,_⟩:=h t (.head _);have ih:=lw (P:=P) λt z=>h t (.tail _ z)
  exact .cons x ((perm_middle (a:=y)).trans (.cons y ih))
def zH(n)(P R)(J:OkP P)(hl:P.length<=60)(hR:R.length<=60):aa defs (n+2) 62 [.val (ofR P),.val (ofR R)]=some (.bl (nv P R)):=by
 rw[ae (d:=lv) rfl rfl];have Z:∀W,ev (aa defs (n+1)) (.comp .seq [.bor 0] [] (.cst (.bl true)) (.idx (.bor 0) (ci 0))) (sv (ofR P)::W)=some (ofL (P.map λt=>t.getD 0 0)):=λW=>by
  refine(be (g:=ofS) (h:=λt=>.int (t.getD 0 0)) (vs:=[ofR P]) (by simp[evs,ev]) rfl (by omega) λt z=>?_).trans (by unfold ofL;rw[ID];rfl);obtain⟨x,y,rfl,_⟩:=J t z;simp[ev,place,bC,ofS]
 have c1:∀W,ev (aa defs (n+1)) (.comp .seq [.bor 0] [] (.cst (.bl true)) (.idx (.bor 0) (ci 1))) (sv (ofR P)::W)=some (ofL (P.map λt=>t.getD 1 0)):=λW=>by
  refine(be (g:=ofS) (h:=λt=>.int (t.getD 1 0)) (vs:=[ofR P]) (by simp[evs,ev]) rfl (by omega) λt z=>?_).trans (by unfold ofL;rw[ID];rfl);obtain⟨x,y,rfl,_⟩:=J t z;simp[ev,place,bC,ofS]
 have Y:=(lw J).nodup_iff;obtain⟨F,U⟩:∃F,F=(P.map λt=>t.getD 0 0)++(P.map λt=>t.getD 1 0):=⟨_,rfl⟩;have ar:F.length=2*P.length:=by rw[U];simp;omega
 have ef:∀W,ev (aa defs (n+1)) (.bin .add (.comp .seq [.bor 0] [] (.cst (.bl true)) (.idx (.bor 0) (ci 0))) (.comp .seq [.bor 0] [] (.cst (.bl true)) (.idx (.bor 0) (ci 1)))) (sv (ofR P)::W)=some (ofL F):=λW=>by
  rw[bx (Z W) (c1 W)];show(if _ then _ else _)=_;rw[if_pos (by simp;omega),U];simp[ofL]
 rw[<- U]at Y;have es:aG .lenSet [ofL F]=some (.int (dd F).length):=by
  show((aX (ofL F)).bind λxs=>(bf xs).bind λns=>if ns.length<=1000 then some (PV.int (dd ns).length)else none)=_;rw[iS,bind_some,bb,bind_some,if_pos (by omega)]
 have ec:∀W,evB (aa defs (n+1)) (.cmp .ne (.blt .lenSet [.bor 2]) (.blt .len [.bor 2])) (sv (ofR P)::sv (ofR R)::sv (ofL F)::W)=some (!decide P.flatten.Nodup):=λW=>by
  have:(((dd F).length:Int)==(F.length:Int))=decide P.flatten.Nodup:=by
   rw[IT,IE,Jc,<- Y,<- eM];omega
  simp[evB,ev,evs,es,this]
 have ea:∀W,ev (aa defs (n+1)) (.blt .all [(.comp .seq [.bor 1] [0] (.cst (.bl true)) (.blt .any [(.comp .seq [.bor 1] [0] (.cst (.bl true)) (.call 41 [.bor 0,.bor 1]))]))]) (sv (ofR P)::sv (ofR R)::W)=some (.bl (R.all λs=>P.any λt=>sub t s)):=λW=>by
  rw[aB (v:=.lst ((R.map λs=>P.any λt=>sub t s).map .bl)),jU,bD]
  .simp
  .refine(be (g:=ofS) (h:=λs=>.bl (P.any λt=>sub t s)) (vs:=[ofR R]) (by simp[evs,ev]) rfl (by omega) λs hs=>?_).trans (by rw[ID];rfl);rw[aB (v:=.lst ((P.map λt=>sub t s).map .bl)),iT,bD]
   .simp
   .refine(be (g:=ofS) (h:=λt=>.bl (sub t s)) (vs:=[ofR P]) (by simp[evs,ev,bC]) rfl (by omega) λt z=>?_).trans (by rw[ID];rfl);exact ac (vs:=[.val (ofS t),.val (ofS s)]) (by simp[evA,bC]) (ny n t s)
 show aQ (exs (aa defs (n+1)) (_::_::[_]) [sv (ofR P),sv (ofR R),none])=_;rw[ag,fT (ef _),au];simp only[bi,bj];rw[ag,ex,ec];unfold nv;cases decide P.flatten.Nodup with
 |false=>rfl
 |true =>
  rw[J3,b9,if_neg (by decide),exs,au,ag,bw (ea _),J4]
  rfl
noncomputable def wgt(s:List Int):Int:=2 ^ (60-s.length)
def sd:∀n,n<=60->(1152921504606846976:Int) / 2 ^ n=2 ^ (60-n):=by decide +kernel
def vK(n)(s)(z:s.length<=60):aa defs (n+1) 19 [.val (ofS s)]=some (.int (wgt s)):=by
 rw[ae rfl rfl];have e:dQ .shr (.int 1152921504606846976) (.int (s.length:Int))=some (.int (wgt s)):=by
  show(if 0<=(s.length:Int)then some _ else none)=_;rw[if_pos (by omega),Int.toNat_natCast,sd _ z]
  rfl
 simp[iB,exs,ex,ev,evs,e]
def fm  [DecidableEq α] (d:List (α×Sc)) (f:α->Int):Prop:=(∀k,cT d k=none->f k=0)/\∀k s,cT d k=some s->s=.int (f k)
def fo{α:Type}(d:List (α×Sc))(P:α->Prop):Prop:=(d.map (·.1)).Nodup/\∀k,k∈d.map (·.1) ↔ P k
section
variable{α:Type} [DecidableEq α]
def zI(d)(k:α)(v):(cy d k v).map (·.1)=if k∈d.map (·.1)then d.map (·.1)else d.map (·.1)++[k]:=by
 have e:(d.any λp=>decide (p.1=k))=decide (k∈d.map (·.1)):=by
  rw[IT,Jp,Jc,mem_map]
  simp_all
 unfold cy;rw[e];by_cases h:k∈d.map (·.1)
 .rw[if_pos (IP h),if_pos h,ID];refine Jw λp _=>?_
  show(if p.1=k then _ else p).1=p.1;split<;>rfl
 .rw[if_neg (by simpa using h),if_neg h,JH]
  rfl
def vL(d)(k j:α)(v):cT (cy d k v) j=if j=k then some v else cT d j:=by
 have gen:∀d,(d.any λp=>decide (p.1=k))=true->cT (d.map λp=>if p.1=k then(p.1,v)else p) j=if j=k then some v else cT d j:=by
  intro d
  induction d with
  |nil=>intro h;cases h
  |cons p d ih =>
   intro h;by_cases U:p.1=k
   .by_cases J:j=k
    .subst J;simp[cT,U]
    .rw[if_neg J];have:¬ p.1=j:=λz=>J (by rw[<- z,U])
     unfold cT;rw[IG,if_pos U,J8 (by simpa using this),J8 (by simpa using this)];by_cases Y:(d.any λp=>decide (p.1=k))=true
     .have:=ih Y;rw[if_neg J]at this;exact this
     .have e:(d.map λp=>if p.1=k then(p.1,v)else p)=d:=by
       conv=>rhs;rw[<- List.map_id d]
       refine Jw λq Z=>?_
       rw[if_neg λz=>Y (Jp.mpr ⟨q,Z,IP z⟩)]
       rfl
      rw[e]
   .have Y:(d.any λp=>decide (p.1=k))=true:=by simpa[U]using h
    have ih:=ih Y;unfold cT at ih ⊢;rw[IG,if_neg U];by_cases J:p.1=j
    .have:¬ j=k:=λz=>U (J.trans z)
     rw[Lc (by simpa using J),Lc (by simpa using J),if_neg this]
    .rw[J8 (by simpa using J),J8 (by simpa using J)];exact ih
 unfold cy;by_cases h:(d.any λp=>decide (p.1=k))=true
 .rw[if_pos h];exact gen d h
 .rw[if_neg h];have no:∀p∈d,¬ p.1=k:=λp U z=>h (Jp.mpr ⟨p,U,IP z⟩)
  unfold cT;rw[find?_append];by_cases J:j=k
  .subst J;have:d.find? (λp=>decide (p.1=j))=none:=Li.mpr λp U=>by simpa using no p U
   rw[this,if_pos rfl];simp
  .rw[if_neg J];have:¬ k=j:=λz=>J z.symm
   cases d.find? (λp=>decide (p.1=j))<;>first|rfl|simp[this]
def put_len(d)(k:α)(v):(cy d k v).length<=d.length+1:=by
 unfold cy;split
 .simp_all
 .simp_all
def nz(h:fm d f)(k:α):((cT d k).getD (.int 0)).pv=.int (f k):=by
 cases e:cT d k with
 |none=>rw[h.1 k e];rfl
 |some s=>rw[h.2 k s e];rfl
def se(h:fm d f)(k:α)(w):fm (cy d k (.int (f k+w))) (λj=>if j=k then f j+w else f j):=by
 refine⟨λj e=>?_,λj s e=>?_⟩
 .rw[vL]at e;by_cases z:j=k
  .simp_all
  .rw[if_neg z]at e;dsimp only;rw[if_neg z];exact h.1 j e
 .rw[vL]at e;by_cases z:j=k
  .simp_all
  .rw[if_neg z]at e;dsimp only;rw[if_neg z];exact h.2 j s e
def nA:fm ([]:List (α×Sc)) λ_=>0:=⟨λ_ _=>rfl,λk s z=>by cases z⟩
def nB:fo ([]:List (α×Sc)) λ_=>False:=⟨JU,λk=>by simp⟩
def sf(h:fo d P)(k:α)(v):fo (cy d k v) (λj=>P j\/j=k):=by
 unfold fo;rw[zI];by_cases J:k∈d.map (·.1)
 .rw[if_pos J];refine⟨h.1,λj=>?_⟩;rw[h.2 j];refine⟨.inl,λz=>z.elim id λe=>?_⟩;rw[e];exact(h.2 k).mp J
 .rw[if_neg J];refine⟨KD.mpr ⟨h.1,by simp,λa U b Y=>by rw[I0.mp Y];exact λe=>J (e▸U)⟩,λj=>?_⟩;rw[JR,I0,h.2 j]
theorem E4{body:PV->Rho->R}{I:List (α×Sc)->Rho->Prop}{w:Int}:∀{xs:List α},(∀x∈xs,∀d W (f:α->Int),I d W->fm d f->d.length<9500->∃l,I (cy d x (.int (f x+w))) l/\body (g x) W=.next l) ->
  xs.Nodup->∀{d}{W}{f}{P},I d W->fm d f->fo d P->d.length+xs.length<=9000 ->
  ∃d' l,aw body (xs.map g) W=.next l/\I d' l/\fm d' (λj=>f j+if j∈xs then w else 0)/\fo d' (λk=>P k\/k∈xs)/\d'.length<=d.length+xs.length
 | [],_,_,d,W,f,P,J,hd,U,_=>⟨d,W,rfl,J,by simpa using hd,by simpa using U,by simp⟩
 |x::xs,hb,Y,d,W,f,P,J,hd,U,hl=>by
  refine ax λZq kq=>?_
  rw[length_cons]at hl;obtain⟨hx,Y⟩:=Jl.mp Y;obtain⟨a2,Z,e1⟩:=hb x (.head _) d W f J hd (by omega);have a4:=put_len d x (.int (f x+w));obtain⟨d',l,e2,ao,ar,z,a6⟩:=E4 (xs:=xs) (λy hy=>hb y (.tail _ hy)) Y Z (se hd x w) (sf U x _) (by omega);refine kq ?_;rw[IG,aw,e1];refine⟨d',l,e2,ao,?_,?_,by rw[length_cons];omega⟩
  .have ef:(λj=>(if j=x then f j+w else f j)+if j∈xs then w else 0)=λj=>f j+if j∈x::xs then w else 0:=by
    funext j
    by_cases hj:j=x
    .simp_all
    .simp[hj]
   rw[<- ef];exact ar
  .refine⟨z.1,λk=>?_⟩;rw[z.2 k];simp[IB,_root_.or_assoc]
theorem Hi{J:Type}{ge:J->PV}{m:J->List α}{w:J->Int}{body:PV->Rho->R}{I:List (α×Sc)->Rho->Prop}{top:Nat}:∀{R:List J},(∀s∈R,∀d W (f:α->Int) (P:α->Prop),I d W->fm d f->fo d P->d.length<=8000 ->
   ∃d' l,body (ge s) W=.next l/\I d' l/\fm d' (λj=>f j+if j∈m s then w s else 0)/\fo d' (λk=>P k\/k∈m s)/\d'.length<=d.length+top) ->
  ∀{d}{W}{f}{P},I d W->fm d f->fo d P->d.length+top*R.length<=8000 ->
  ∃d' l,aw body (R.map ge) W=.next l/\I d' l/\fm d' (λj=>f j+(R.map λs=>if j∈m s then w s else 0).sum)/\fo d' (λk=>P k\/∃s∈R,k∈m s)/\d'.length<=d.length+top*R.length
 | [],_,d,W,f,P,U,hd,Y,_=>⟨d,W,rfl,U,by simpa using hd,by simpa using Y,by simp⟩
 |s::R,hb,d,W,f,P,U,hd,Y,hl=>by
  refine ax λZq kq=>?_
  rw[length_cons,Nat.mul_succ]at hl;obtain⟨d1,a3,e1,Z,ao,ar,a5⟩:=hb s (.head _) d W f P U hd Y (by omega);obtain⟨d',l,e2,aO,a7,z,a8⟩:=Hi (R:=R) (λy hy=>hb y (.tail _ hy)) Z ao ar (by omega);refine kq ?_;rw[IG,aw,e1];refine⟨d',l,e2,aO,?_,⟨z.1,λk=>?_⟩,by rw[length_cons,Nat.mul_succ];omega⟩
  .grind
  .rw[z.2 k];simp only[IB,exists_eq_or_imp,_root_.or_assoc]
end
noncomputable def cj(R:LL)(h:Int):Int:=(R.map λs=>if h∈s then wgt s else 0).sum
def sg(n)(R)(g:ay R):∃d,aa defs (n+2) 21 [.val (ofR R)]=some (.dI (.k d))/\fm d (cj R)/\fo d (λk=>∃s∈R,k∈s)/\d.length<=3600:=by
 refine ax λZq kq=>?_
 have hl:=g.2.2;obtain⟨d,l,e,⟨x,y,rfl⟩,hd,hp,U⟩:=Hi (R:=R) (ge:=ofS) (m:=id) (w:=wgt) (top:=60) (body:=λv l=>exs (aa defs (n+1)) pk (put l 2 (.val v))) (I:=λd W=>∃x y,W=[sv (ofR R),some (.ownD (.k d)),x,y]) (d:=[]) (W:=[sv (ofR R),some (.ownD (.k [])),none,none]) (f:=λ_=>0) (P:=λ_=>False)
  (by
   rintro s hs d W f P ⟨x,y,rfl⟩ hd hp hl;have gs:=g.1 s hs;have Y:=aA gs;have ew:=vK n s Y;obtain⟨d',l,e,⟨y',rfl⟩,r⟩:=E4 (xs:=s) (g:=.int) (w:=wgt s) (body:=λv l=>exs (aa defs (n+1)) pj (put l 3 (.val v))) (I:=λd W=>∃y,W=[sv (ofR R),some (.ownD (.k d)),sv (ofS s),y]) (d:=d) (W:=[sv (ofR R),some (.ownD (.k d)),sv (ofS s),y])
    (by
     rintro z _ d W f ⟨y,rfl⟩ hd hl;have eg:ev (aa defs (n+1)) (.dget (.bor 1) (.bor 3) (ci 0)) [sv (ofR R),some (.ownD (.k d)),sv (ofS s),sv (.int z)]=some (.int (f z)):=by
      rw[<- nz hd z];simp[ev]
     have es:ev (aa defs (n+1)) (.bin .add (.dget (.bor 1) (.bor 3) (ci 0)) (.call 19 [.bor 2])) [sv (ofR R),some (.ownD (.k d)),sv (ofS s),sv (.int z)]=some (.int (f z+wgt s)):=by
      rw[ev,eg,ac (vs:=[.val (ofS s)]) (by simp[evA]) ew]
      rfl
     have Z:d.length<10000:=by omega
     refine⟨_,⟨sv (.int z),rfl⟩,?_⟩;show exs (aa defs (n+1)) [_] [sv (ofR R),some (.ownD (.k d)),sv (ofS s),sv (.int z)]=_;rw[ag,ex,es];simp[ev,Z,exs])
    (jW gs.1) ⟨y,rfl⟩ hd hp (by omega)
   refine⟨d',_,?_,⟨sv (ofS s),y',rfl⟩,r.1,r.2.1,by have:=r.2.2;omega⟩;have J:(evs (aa defs (n+1)) [.bor 2] [sv (ofR R),some (.ownD (.k d)),sv (ofS s),y]).bind (aW .seq)=some (s.map .int):=by simp[evs,ev]
   show exs (aa defs (n+1)) [_] [sv (ofR R),some (.ownD (.k d)),sv (ofS s),y]=_;rw[ag,cx J,show bh [.bor 2] [sv (ofR R),some (.ownD (.k d)),sv (ofS s),y]=[sv (ofR R),some (.ownD (.k d)),sv (ofS s),y]from rfl,e,bS,au];simp[exs,aJ])
  ⟨none,none,rfl⟩ nA nB (by simp;omega)
 refine kq ?_;refine⟨d,?_,?_,?_,by simp at U;omega⟩
 .rw[ae (d:=vE) rfl rfl];have J:(evs (aa defs (n+1)) [.bor 0] [sv (ofR R),some (.ownD (.k [])),none,none]).bind (aW .seq)=some (R.map ofS):=by simp[evs,ev]
  show aQ (exs (aa defs (n+1)) (_::_::[_]) [sv (ofR R),none,none,none])=_;simp only[ag];rw[show ex (aa defs (n+1)) (.newD false 1) [sv (ofR R),none,none,none]=.next [sv (ofR R),some (.ownD (.k [])),none,none]from by rw[ex];rfl,au,cx J,show bh [.bor 0] [sv (ofR R),some (.ownD (.k [])),none,none]=[sv (ofR R),some (.ownD (.k [])),none,none]from rfl,e,bS,au];simp[exs,ex,aJ]
 .have ef:(λj=>(0:Int)+(R.map λs=>if j∈id s then wgt s else 0).sum)=cj R:=by funext j;rw[Lw];rfl
  rw[<- ef];exact hd
 .simp_all
def ug  [DecidableEq α] {P:α->Prop} (hd:fm d f) (J:fo d P):∃M ns,(d.map (·.2)).map Sc.pv=ns.map .int/\ns.length=d.length/\wB (0::ns)=some M/\0<=M/\(M=0\/∃k,P k/\f k=M)/\∀k,P k->f k<=M:=by
 have U:∀p∈d,p.2=.int (f p.1):=λp z=>by
  have e:cT d p.1=some p.2:=by
   unfold cT;have gen:∀(l:List (α×Sc)),(l.map (·.1)).Nodup->p∈l->l.find? (λq=>decide (q.1=p.1))=some p:=by
    intro l
    induction l with
    |nil=>intro _ h;cases h
    |cons q l ih =>
     intro Y h;rw[IG,Jl]at Y;rcases IB.mp h with rfl|h
     .exact Lc (IP rfl)
     .rw[J8 (by
       simp only[Jc];intro e;exact Y.1 (mem_map.mpr ⟨p,h,e.symm⟩))]
      exact ih Y.2 h
   rw[gen d J.1 z]
   rfl
  exact hd.2 p.1 p.2 e
 have Z:wB (0::d.map λp=>f p.1)=some ((d.map λp=>f p.1).foldl (λa b=>if a<b then b else a) 0):=rfl;obtain⟨h1,h2⟩:=kI Z;refine⟨_,d.map λp=>f p.1,?_,by simp,Z,h2 0 (.head _),?_,λk hk=>?_⟩
 .rw[ID,ID];refine Jw λp z=>?_
  show(p.2).pv=_;rw[U p z]
  rfl
 .rcases IB.mp h1 with h|h
  .exact .inl h
  .obtain⟨p,z,e⟩:=mem_map.mp h;exact .inr ⟨p.1,(J.2 p.1).mp (mem_map.mpr ⟨p,z,rfl⟩),e⟩
 .obtain⟨p,z,rfl⟩:=mem_map.mp ((J.2 k).mpr hk);exact h2 _ (.tail _ (mem_map.mpr ⟨p,z,rfl⟩))
def Top(R:LL)(M:Int):Prop:=0<=M/\(M=0\/∃k,(∃s∈R,k∈s)/\cj R k=M)/\∀k,(∃s∈R,k∈s)->cj R k<=M
def nD(n)(R)(g:ay R):∃M,aa defs (n+3) 22 [.val (ofR R)]=some (.int M)/\Top R M:=by
 refine ax λZq U=>?_
 obtain⟨d,e,hd,Y,Z⟩:=sg n R g;obtain⟨M,ns,e1,ar,e2,h0,h1,h2⟩:=ug hd Y;refine U ?_;refine⟨M,?_,h0,h1,h2⟩;rw[ae rfl rfl];have z:ev (aa defs (n+2)) (.blt .valuesOf [(.call 21 [.bor 0])]) [sv (ofR R)]=some (.lst (ns.map .int)):=by
  rw[aB (ac (vs:=[.val _]) (by simp[evA]) e),jr,if_pos (by unfold i7 dSc;rw[tf,tf];omega)];show some (PV.lst ((d.map _).map Sc.pv))=_;rw[e1]
 have J:ev (aa defs (n+2)) (.bin .add (.lst [(ci 0)]) (.blt .valuesOf [(.call 21 [.bor 0])])) [sv (ofR R)]=some (.lst ((0::ns).map .int)):=by
  rw[ev,z];simp[ev,evs];omega
 show aQ (exs (aa defs _) [_] [sv _])=_;rw[ag,bw]
 .rfl
 .rw[aB J,jV,bb,bind_some,e2]
  rfl
def sh{R:LL}(h:Top R M)(h':Top R N):M=N:=by
 have key:∀{M N},Top R M->Top R N->M<=N:=λ{M N} h h'=>by
  rcases h.2.1 with e|⟨k,z,e⟩
  .rw[e];exact h'.1
  .rw[<- e];exact h'.2.2 k z
 grind
def si(n)(R)(g:∀t∈R,cM t)(z:R.length<=10000):aa defs (n+2) 20 [.val (ofR R)]=some (.int (R.map wgt).sum):=by
 rw[ae (d:=sa) rfl rfl];have J:ev (aa defs (n+1)) (.comp .seq [.bor 0] [] (.cst (.bl true)) (.call 19 [.bor 0])) [sv (ofR R)]=some (.lst ((R.map wgt).map .int)):=by
  refine(be (h:=λs=>.int _) (vs:=[ofR R]) (by simp[evs,ev]) rfl z λs hs=>?_).trans (by rw[ID];rfl);exact ac (vs:=[.val _]) (by simp[evA,bC]) (vK n s (aA (g s hs)))
 show aQ (exs (aa defs _) [_] [sv _])=_;rw[ag,bw]
 .rfl
 .rw[aB J];show((bf _).map λns=>PV.int ns.sum)=_;rw[bb]
  rfl
noncomputable def cE:List Int->LL
 | []=>[]
 |x::s=>s.map (λy=>[x,y])++cE s
theorem nE:∀s,(cE s).length<=s.length*s.length
 | []=>pe _
 |x::s=>by
  have:=nE s;rw[cE,IC,tf,length_cons,Nat.mul_succ,Nat.succ_mul];omega
theorem b6 :∀{s},s.Pairwise (· < ·)->(t∈cE s ↔ ∃a b,t=[a,b]/\a<b/\a∈s/\b∈s)
 | [],_=>⟨λh=>(by cases h),λ⟨_,_,_,_,h,_⟩=>by cases h⟩
 |x::s,hs=>by
  obtain⟨h1,h2⟩:=Kh.mp hs;rw[cE,JR,b6 h2,mem_map];constructor
  .rintro (⟨y,z,rfl⟩|⟨a,b,e,q,J,U⟩)
   .exact⟨x,y,rfl,h1 y z,.head _,.tail _ z⟩
   .exact⟨a,b,e,q,.tail _ J,.tail _ U⟩
  .rintro ⟨a,b,e,q,J,U⟩
   grind
theorem nF:∀{s},s.Pairwise (· < ·)->(cE s).Nodup
 | [],_=>JU
 |x::s,hs=>by
  obtain⟨h1,h2⟩:=Kh.mp hs;refine KD.mpr ⟨?_,nF h2,λt z u J e=>?_⟩
  .unfold Nodup;rw[pairwise_map];exact h2.imp λ{a b} q e=>by cases e;omega
  .obtain⟨y,U,rfl⟩:=mem_map.mp z;obtain⟨a,b,rfl,q,Y,Z⟩:=(b6 h2).mp J
   grind
theorem pp(cal)(s):∀r p A J U,s=p++r->A.length+(cE r).length<=10000->s.length<=1000 ->
  ∃Y Z,aw (λx l=>cA (cW [2,3] x l) λz=>exs cal iC z) (bG p.length (r.map .int)) [sv (ofS s),some (.own (A.map ofS)),J,U]=.next [sv (ofS s),some (.own ((A++cE r).map ofS)),Y,Z]
 | [],p,A,J,U,_,_,_=>⟨J,U,by simp[bG,cE]⟩
 |x::r,p,A,J,U,hs,hl,h3=>by
  rw[cE,IC,tf]at hl;have hp:p.length<s.length:=by rw[hs,IC,length_cons];omega
  have a3:s.length=p.length+(r.length+1):=by rw[hs,IC,length_cons]
  have ec:gc s.length 0 (some ((p.length:Int)+1))=p.length+1:=by
   show(if (p.length:Int)+1<0 then((p.length:Int)+1+(s.length:Int)).toNat else min ((p.length:Int)+1).toNat s.length)=_
   grind
  have ao:iN (ofS s) (some ((p.length:Int)+1)) none=some (ofS r):=by
   show some (PV.tup (cut (s.map .int) (some ((p.length:Int)+1)) none))=_;have e1:cut (s.map PV.int) (some ((p.length:Int)+1)) none=r.map .int:=by
    unfold cut;rw[tf,ec,show gc s.length s.length none=s.length from rfl,hs,JH,IG,drop_append,drop_eq_nil_of_le (by rw[tf];omega),nil_append,tf,show p.length+1-p.length=1 by omega,drop_one,tail_cons,LN (by rw[tf,IC,length_cons];omega)]
   rw[e1]
  have ar:ev cal (.comp .seq [(.slice (.bor 0) (.bin .add (.bor 2) (ci 1)) (.cst .non))] [3] (.cst (.bl true)) (.tup [.var 1,.var 0])) [sv (ofS s),some (.own (A.map ofS)),sv (.int (p.length:Int)),sv (.int x)]=some (.lst ((r.map λy=>[x,y]).map ofS)):=by
   refine(be (g:=.int) (h:=λy=>ofS [x,y]) (vs:=[ofS r]) ?_ rfl (by omega) λy _=>?_).trans (by rw[ID];rfl)
   .simp[evs,ev,bnd,ao]
   .simp[ev,evs,bC]
  have e:cA (cW [2,3] (.tup [.int (p.length:Nat),.int x]) [sv (ofS s),some (.own (A.map ofS)),J,U]) (λz=>exs cal iC z)=.next [sv (ofS s),some (.own ((A++r.map λy=>[x,y]).map ofS)),sv (.int (p.length:Int)),sv (.int x)]:=by
   show exs cal [_] [sv (ofS s),some (.own (A.map ofS)),sv (.int (p.length:Int)),sv (.int x)]=_;have aO:A.length+r.length<=10000:=by omega
   rw[ag,ex,ar,dE];simp[exs,aO]
  rw[IG,bG,aw,e];obtain⟨Y,Z,e2⟩:=pp cal s r (p++[x]) (A++r.map λy=>[x,y]) (sv (.int (p.length:Int))) (sv (.int x)) (by rw[hs,Jm];rfl) (by rw[IC,tf];omega) h3;rw[IC,length_singleton]at e2;refine⟨Y,Z,?_⟩;rw[cE,<- Jm];exact e2
def wX(n)(s)(J:s.length<=60):aa defs (n+1) 23 [.val (ofS s)]=some (.lst ((cE s).map ofS)):=by
 have h1:=nE s;have h2:=Nat.mul_le_mul J J;obtain⟨U,Y,e⟩:=pp _ s s [] [] none none rfl (by simp;omega) (by omega);have z:(evs (aa defs n) [.bor 0] [sv (ofS s),some (.own []),none,none]).bind (aW .enm)=some (bG 0 (s.map .int)):=by simp[evs,ev,aW]
 show aQ (exs _ (_::_::[_]) [sv _,none,none,none])=_;simp[ag];rw[dj (xs:=[]) (by simp[ev,evs]),au];simp[bi,bj];rw[qr z,show bh [.bor 0] [sv _,some _,none,none]=[sv _,some _,none,none]from rfl];rw[length_nil,map_nil,nil_append]at e;rw[e,bS,au];simp[ex,aJ]
section
variable{α:Type} [DecidableEq α]
theorem zJ{U:Type}{ge:U->PV}{m:U->List α}{w:U->Int}{body:PV->Rho->R}{I:List (α×Sc)->Rho->Prop}{B:Nat}{Q:α->Prop}(Z:∀d P,fo d P->(∀k,P k->Q k)->d.length<=B):∀{R:List U},(∀s∈R,∀d W (f:α->Int) (P:α->Prop),I d W->fm d f->fo d P->d.length<=B ->
   ∃d' l,body (ge s) W=.next l/\I d' l/\fm d' (λj=>f j+if j∈m s then w s else 0)/\fo d' (λk=>P k\/k∈m s))->(∀s∈R,∀k∈m s,Q k) ->
  ∀{d}{W}{f}{P},I d W->fm d f->fo d P->(∀k,P k->Q k) ->
  ∃d' l,aw body (R.map ge) W=.next l/\I d' l/\fm d' (λj=>f j+(R.map λs=>if j∈m s then w s else 0).sum)/\fo d' (λk=>P k\/∃s∈R,k∈m s)/\d'.length<=B
 | [],_,_,d,W,f,P,hI,hd,z,Y=>⟨d,W,rfl,hI,by simpa using hd,by simpa using z,Z d P z Y⟩
 |s::R,hb,hm,d,W,f,P,hI,hd,z,Y=>by
  refine ax λZq kq=>?_
  obtain⟨d1,a6,e1,ar,aO,a0⟩:=hb s (.head _) d W f P hI hd z (Z d P z Y);obtain⟨d',l,e2,a1,a9,J,a2⟩:=zJ Z (R:=R) (λy hy=>hb y (.tail _ hy)) (λy hy=>hm y (.tail _ hy)) ar aO a0 (λk hk=>hk.elim (Y k) (hm s (.head _) k));refine kq ?_;rw[IG,aw,e1];refine⟨d',l,e2,a1,?_,⟨J.1,λk=>?_⟩,a2⟩
  .grind
  .rw[J.2 k];simp[IB,exists_eq_or_imp,_root_.or_assoc]
end
def lx(t:List Int):Prop:=∃a b,t=[a,b]/\0<=a/\a<=59/\0<=b/\b<=59
def nG(d)(P)(J:fo d P)(U:∀k,P k->lx k):d.length<=3600:=by
 have h1:∀t∈d.map _,lx t:=λt z=>U t ((J.2 t).mp z)
 have h2:((d.map (·.1)).map λt=>t.getD 0 0*60+t.getD 1 0).Nodup:=by
  unfold Nodup;rw[pairwise_map];refine J.1.imp_of_mem λ{t u} z Y q e=>?_
  obtain⟨a,b,rfl,_⟩:=h1 t z;obtain⟨x,y,rfl,_⟩:=h1 u Y;have e:a*60+b=x*60+y:=e;have e1:a=x:=by omega
  simp_all
 have Z:=qm 3600 _ h2 λx hx=>by
  obtain⟨t,z,rfl⟩:=mem_map.mp hx;obtain⟨a,b,rfl,_⟩:=h1 t z;show 0<=a*60+b/\a*60+b<_;omega
 simpa using Z
noncomputable def wY(R:LL)(a b:Int):Int:=((R.filter λs=>decide (a∈s)&&decide (b∈s)).length:Int)
def qw{R:LL}(U:∀s∈R,s.Pairwise (· < ·))(J:a<b):(R.map λs=>if [a,b]∈cE s then(1:Int)else 0).sum=wY R a b:=by
 unfold wY
 induction R with
 |nil=>rfl
 |cons s R ih =>
  rw[IG,sum_cons,ih λt Z=>U t (.tail _ Z)];have Y:=b6 (t:=[a,b]) (U s (.head _));by_cases q:a∈s/\b∈s
  .rw[if_pos (Y.mpr ⟨a,b,rfl,J,q.1,q.2⟩),filter_cons_of_pos (by simpa using q),length_cons];omega
  .rw[if_neg λz=>q (by obtain⟨x,y,e,_,hx,hy⟩:=Y.mp z;cases e;exact⟨hx,hy⟩),Kn (by simpa using q)];omega
def uh(R:LL)(M:Int):Prop:=0<=M/\(M=0\/∃a b,a<b/\(∃s∈R,a∈s/\b∈s)/\wY R a b=M)/\∀a b,a<b->wY R a b<=M
def pq{R:LL}(h:¬ ∃s∈R,a∈s/\b∈s):wY R a b=0:=by
 unfold wY;rw[LP.mpr]
 .rfl
 .intro s hs q;exact h ⟨s,hs,by simpa using q⟩
def oq(n)(R)(g:ay R):∃M,aa defs (n+2) 24 [.val (ofR R)]=some (.int M)/\uh R M:=by
 refine ax λZq kq=>?_
 obtain⟨d,l,e,⟨x,y,rfl⟩,hd,hp,a5⟩:=zJ (R:=R) (ge:=ofS) (m:=cE) (w:=λ_=>1) (Q:=lx) (B:=3600) nG (body:=λv l=>exs (aa defs (n+1)) ib (put l 2 (.val v))) (I:=λd W=>∃x y,W=[sv (ofR R),some (.ownD (.t d)),x,y]) (d:=[]) (W:=[sv (ofR R),some (.ownD (.t [])),none,none]) (f:=λ_=>0) (P:=λ_=>False)
  (by
   rintro s hs d W f P ⟨x,y,rfl⟩ hd hp hl;have gs:=g.1 s hs;have Y:=aA gs;have et:=wX n s Y;have a8:=nE s;have a9:=Nat.mul_le_mul Y Y;obtain⟨d',l,e,⟨y',rfl⟩,r⟩:=E4 (xs:=cE s) (g:=ofS) (w:=1) (body:=λv l=>exs (aa defs (n+1)) h_ (put l 3 (.val v))) (I:=λd W=>∃y,W=[sv (ofR R),some (.ownD (.t d)),sv (ofS s),y]) (d:=d) (W:=[sv (ofR R),some (.ownD (.t d)),sv (ofS s),y])
    (by
     rintro z _ d W f ⟨y,rfl⟩ hd hl;have eg:ev (aa defs (n+1)) (.dget (.bor 1) (.bor 3) (ci 0)) [sv (ofR R),some (.ownD (.t d)),sv (ofS s),sv (ofS z)]=some (.int (f z)):=by
      rw[<- nz hd z];simp[ev]
     have es:ev (aa defs (n+1)) (.bin .add (.dget (.bor 1) (.bor 3) (ci 0)) (ci 1)) [sv (ofR R),some (.ownD (.t d)),sv (ofS s),sv (ofS z)]=some (.int (f z+1)):=by
      rw[ev,eg];simp[ev]
     have a0:d.length<10000:=by omega
     refine⟨_,⟨sv (ofS z),rfl⟩,?_⟩;show exs (aa defs (n+1)) [_] [sv (ofR R),some (.ownD (.t d)),sv (ofS s),sv (ofS z)]=_;rw[ag,ex,es];simp[ev,a0,exs])
    (nF gs.1) ⟨y,rfl⟩ hd hp (by omega)
   refine⟨d',_,?_,⟨sv (ofS s),y',rfl⟩,r.1,r.2.1⟩;have J:(evs (aa defs (n+1)) [.call 23 [.bor 2]] [sv (ofR R),some (.ownD (.t d)),sv (ofS s),y]).bind (aW .seq)=some ((cE s).map ofS):=by
    rw[evs,ac (vs:=[.val (ofS s)]) (by simp[evA]) et];simp[evs]
   show exs (aa defs (n+1)) [_] [sv (ofR R),some (.ownD (.t d)),sv (ofS s),y]=_;rw[ag,cx J,show ∀W,bh [.call 23 [.bor 2]] W=W from λ_=>rfl,e,bS,au];simp[exs,aJ])
  (λs hs k Z=>by
   obtain⟨a,b,rfl,_,ha,hb⟩:=(b6 (g.1 s hs).1).mp Z;have:=(g.1 s hs).2 a ha;have:=(g.1 s hs).2 b hb;exact⟨a,b,rfl,by omega,by omega,by omega,by omega⟩)
  ⟨none,none,rfl⟩ nA nB (λk z=>z.elim)
 obtain⟨M,ns,e1,b3,e2,h0,h1,h2⟩:=ug hd hp;refine kq ?_;refine⟨M,?_,h0,?_,?_⟩
 .rw[ae (d:=ja) rfl rfl];have J:(evs (aa defs (n+1)) [.bor 0] [sv (ofR R),some (.ownD (.t [])),none,none]).bind (aW .seq)=some (R.map ofS):=by simp[evs,ev]
  have a1:ev (aa defs (n+1)) (.blt .valuesOf [.bor 1]) [sv (ofR R),some (.ownD (.t d)),x,y]=some (.lst (ns.map .int)):=by
   rw[aB (v:=.dI (.t d)) (by simp[ev]),jr,if_pos (by unfold i7 dSc;rw[tf,tf];omega)];show some (PV.lst ((d.map (·.2)).map Sc.pv))=_;rw[e1]
  have a2:ev (aa defs (n+1)) (.bin .add (.lst [(ci 0)]) (.blt .valuesOf [.bor 1])) [sv (ofR R),some (.ownD (.t d)),x,y]=some (.lst ((0::ns).map .int)):=by
   rw[ev,a1];simp[ev,evs];omega
  show aQ (exs (aa defs (n+1)) (_::_::[_]) [sv (ofR R),none,none,none])=_;simp only[ag];rw[show ex (aa defs (n+1)) (.newD true 1) [sv (ofR R),none,none,none]=.next [sv (ofR R),some (.ownD (.t [])),none,none]from by rw[ex];rfl,au,cx J,show bh [.bor 0] [sv (ofR R),some (.ownD (.t [])),none,none]=[sv (ofR R),some (.ownD (.t [])),none,none]from rfl,e,bS,au];rw[show ∀W,aJ [.bor 0] [sv (ofR R),some (.ownD (.t [])),none,none] W=W from λ_=>rfl,bw (v:=.int M)]
  .rfl
  .rw[aB a2,jV,bb,bind_some,e2]
   rfl
 .refine h1.imp id λ⟨k,Z,ek⟩=>?_
  obtain⟨s,hs,Z⟩:=Z.resolve_left id;obtain⟨a,b,rfl,U,ha,hb⟩:=(b6 (g.1 s hs).1).mp Z;refine⟨a,b,U,⟨s,hs,ha,hb⟩,?_⟩;rw[<- qw (λs hs=>(g.1 s hs).1) U,<- ek];rw[Lw];exact IW List.sum (Jw λs _=>by by_cases q:[a,b]∈cE s<;>simp[q])
 .intro a b U;by_cases q:∃s∈R,a∈s/\b∈s
  .obtain⟨s,hs,ha,hb⟩:=q;have:=h2 [a,b] (.inr ⟨s,hs,(b6 (g.1 s hs).1).mpr ⟨a,b,rfl,U,ha,hb⟩⟩);rw[<- qw (λs hs=>(g.1 s hs).1) U];refine L1 (Int.le_of_eq ?_) this;rw[Lw];exact IW List.sum (Jw λs _=>by by_cases q:[a,b]∈cE s<;>simp[q])
  .rw[pq q];exact h0
noncomputable def ig(z:List Int)(h:Int):List Int:=if h∈z then z else z++[h]
noncomputable def j8(R:LL):List Int:=R.foldl (λacc z=>z.foldl ig acc) []
noncomputable def ab(R:LL):List Int:=sortI (j8 R)
def vM(J:acc.Nodup):(ig acc h).Nodup/\∀x,x∈ig acc h ↔ x∈acc\/x=h:=by
 unfold ig;by_cases q:h∈acc
 .simp_all
 .rw[if_neg q];refine⟨KD.mpr ⟨J,by simp,λx hx y U=>by rw[I0.mp U];exact λz=>q (z▸hx)⟩,λx=>?_⟩
  simp_all
theorem nH:∀(J z:List Int),z.Nodup->(J.foldl ig z).Nodup/\∀x,x∈J.foldl ig z ↔ x∈z\/x∈J
 | [],z,U=>⟨U,λx=>by simp⟩
 |t::J,z,U=>by
  obtain⟨h1,h2⟩:=vM (h:=t) U;obtain⟨Y,Z⟩:=nH J (ig z t) h1;refine⟨Y,λx=>?_⟩;rw[foldl_cons,Z,h2,IB,_root_.or_assoc]
theorem gF:∀(R:LL) z,z.Nodup->(R.foldl (λz J=>J.foldl ig z) z).Nodup/\∀x,x∈R.foldl (λz J=>J.foldl ig z) z ↔ x∈z\/∃J∈R,x∈J
 | [],z,U=>⟨U,λx=>by simp⟩
 |t::J,z,U=>by
  obtain⟨h1,h2⟩:=nH t z U;obtain⟨Y,Z⟩:=gF J (t.foldl ig z) h1;refine⟨Y,λx=>?_⟩;rw[foldl_cons,Z,h2];simp[_root_.or_assoc]
def bL{R:LL} :x∈ab R ↔ ∃z∈R,x∈z:=by
 unfold ab;rw[pi];have:=(gF R [] JU).2 x;unfold j8;rw[this];simp
def g8(R):(ab R).Pairwise (· < ·):=rZ (gF R [] JU).1
def aP{R:LL}(g:∀z∈R,cM z):cM (ab R):=⟨g8 R,λh J=>by
 obtain⟨z,h1,h2⟩:=bL.mp J;exact(g z h1).2 h h2⟩
def wZ{R:LL}(g:∀z∈R,cM z):(j8 R).length<=60:=by
 have:=aA (aP g);unfold ab at this;rw[sortI_len]at this;exact this
def BM{R:LL}{z:List Int}(J:z.Nodup)(h:∀x∈z,0<=x/\x<=59):z.length<=60:=qm 60 z J λx hx=>by have:=h x hx;omega
def j9(R):sortI (dd R.flatten)=ab R:=by
 refine sortI_of_perm ((J2 (dd_nodup _) (gF R [] JU).1).mpr λx=>?_);rw[jt,(gF R [] JU).2 x,Lf];simp
def da(n)(R)(g:∀J∈R,cM J)(U:R.flatten.length<=1000):aa defs (n+2) 5 [.val (ofR R)]=some (ofL (ab R)):=by
 rw[ae rfl rfl];have e:=kW n (.val (ofR R)) (λ_ z=>by cases z) R ofS (λ_=>rfl) rfl (by omega);have hd:(dd R.flatten).length<64:=by
  have:=aA (aP g);rw[<- j9,sortI_len]at this;omega
 simp[nk,exs,ex,ev,evs,evA,e,-map_flatten,bb,-length_flatten,U,hd,j9]
noncomputable def fq(h:Int)(R:LL):LL:=R.filter λz=>!decide (h∈z)
def kX{R:LL}(g:ay R):ay (fq h R):=⟨λz J=>g.1 z (JG.mp J).1,g.2.1.filter _,IH (KI _ _) g.2.2⟩
def sj(n)(R)(h)(J:R.length<=10000):aa defs (n+1) 4 [.val (ofR R),.val (.int h)]=some (ofR (fq h R)):=by
 rw[ae rfl rfl];simp[r_,exs,ex,ev,evs,J];rw[b8 (p:=λz=>!decide (h∈z)) (h:=ofS)]
 .simp[fq]
 .intro z _;simp[bC,bn]
 .intro z _ _;simp[bC]
def pw(h)(R):(fq h R).flatten.length<=R.flatten.length:=by
 unfold fq
 induction R with
 |nil=>exact pe _
 |cons s R ih =>
  by_cases q:h∈s
  .grind
  .simp_all
def jw(n)(R):aa defs (n+1) 6 [.val (ofR R)]=some (.bl (decide ([]∈R))):=by
 rw[ae rfl rfl];have z:isIn (.tup []) _=some _:=iA [] R;simp[nl,exs,ex,ev,evs,z]
def zK(R:LL):Prop:=∃M,uh R M/\1152921504606846976*M*(((ab R).length:Int) / 2)<4*(R.map wgt).sum
noncomputable def hv(R:LL):Bool:=@decide (zK R) (Classical.propDecidable _)
def zL{R:LL}:hv R=true ↔ zK R:=@Jc (zK R) (Classical.propDecidable _)
def pz{R:LL}(h:uh R M)(h':uh R N):M=N:=by
 have gen:∀{M N},uh R M->uh R N->M<=N:=λ{M N} h h'=>by
  rcases h.2.1 with e|⟨a,b,z,_,e⟩
  .have:=h'.1;omega
  .have:=h'.2.2 a b z;omega
 exact Int.le_antisymm (gen h h') (gen h' h)
def nI(n)(R)(g:ay R)(Z:R.flatten.length<=1000):aa defs (n+3) 26 [.val (ofR R)]=some (.bl (hv R)):=by
 obtain⟨M,em,J⟩:=oq n R g;have U:=si n R g.1 (by have:=g.2.2;omega);have Y:=da n R g.1 Z;have z:=aA (aP g.1);have hb:hv R=decide (1152921504606846976*M*(((ab R).length:Int) / 2)<4*(R.map wgt).sum):=by
  rw[IT,zL,Jc];exact⟨λ⟨N,hN,h⟩=>by rw[pz J hN];exact h,λh=>⟨M,J,h⟩⟩
 rw[hb,ae (d:=nq) rfl rfl];generalize (R.map wgt).sum=w at U;generalize ab R=ks at Y z;have b1:(-18446744073709551616<(4:Int)/\(4:Int)<18446744073709551616\/-18446744073709551616<w/\w<18446744073709551616):=.inl ⟨by decide,by decide⟩;have b2:(-18446744073709551616<(1152921504606846976:Int)/\(1152921504606846976:Int)<18446744073709551616\/-18446744073709551616<M/\M<18446744073709551616):=.inl ⟨by decide,by decide⟩;have b3:(-18446744073709551616<1152921504606846976*M/\1152921504606846976*M<18446744073709551616\/-18446744073709551616<(ks.length:Int) / 2/\(ks.length:Int) / 2<18446744073709551616):=.inr ⟨by omega,by omega⟩;have e1:ev (aa defs (n+2)) (.bin .mul (ci 4) (.call 20 [.bor 0])) [sv (ofR R)]=some (.int (4*w)):=by
  rw[ev,ac (vs:=[.val (ofR R)]) (by simp[evA]) U];simp[ev,b1]
 have e2:ev (aa defs (n+2)) (.bin .mul (.bin .mul (.glob "UNIT" (.int 1152921504606846976)) (.call 24 [.bor 0])) (.bin .fdiv (.blt .len [(.call 5 [.bor 0])]) (ci 2))) [sv (ofR R)]=some (.int (1152921504606846976*M*((ks.length:Int) / 2))):=by
  have e3:ev (aa defs (n+2)) (.bin .mul (.glob "UNIT" (.int 1152921504606846976)) (.call 24 [.bor 0])) [sv (ofR R)]=some (.int (1152921504606846976*M)):=by
   rw[ev,ac (vs:=[.val (ofR R)]) (by simp[evA]) em];simp[ev,b2]
  have e4:ev (aa defs (n+2)) (.bin .fdiv (.blt .len [(.call 5 [.bor 0])]) (ci 2)) [sv (ofR R)]=some (.int ((ks.length:Int) / 2)):=by
   rw[ev,aB (ac (vs:=[.val (ofR R)]) (by simp[evA]) Y)];simp[ev]
  rw[ev,e3,e4]
  simp_all
 show aQ (exs (aa defs (n+2)) [_] [sv (ofR R)])=_;rw[ag,bw (v:=.bl (decide (1152921504606846976*M*((ks.length:Int) / 2)<4*w)))]
 .rfl
 .rw[ev,e1,e2]
  rfl
def lK (n) (R) (g:ay R) (J:R.flatten.length<=1000):aa defs (n+4) 27 [.val (ofR R),.val (.str "weaver")]=some (.bl (hv R)) /\
  aa defs (n+4) 27 [.val (ofR R),.val (.str "moth")]=some (.bl (decide ([]∈R)||(hv R&&(ab R).all λh=>hv (fq h R)))):=by
 have U:=nI n R g J;have z:=jw (n+2) R;have Y:=da (n+1) R g.1 J;have Z:=aA (aP g.1);constructor
 .rw[ae (d:=c9) rfl rfl];have h:((("weaver":Str)==("weaver":Str)))=true:=by decide
  simp[c9,exs,ex,ev,evA,evB,h,U]
 .rw[ae (d:=c9) rfl rfl];have h:((("moth":Str)==("weaver":Str)))=false:=by decide
  have ec:ev (aa defs (n+3)) (.comp .seq [(.call 5 [.bor 0])] [0] (.cst (.bl true)) (.call 26 [(.call 4 [.bor 1,.bor 0])])) [sv (ofR R),sv (.str "moth")]=some (.lst (((ab R).map λh=>hv (fq h R)).map .bl)):=by
   refine(be (g:=.int) (h:=λh=>.bl (hv (fq h R))) (vs:=[ofL (ab R)]) ?_ rfl (by omega) λh _=>?_).trans (by rw[ID];rfl)
   .rw[evs,ac (vs:=[.val (ofR R)]) (by simp[evA]) Y];simp[evs]
   .have eb:ev (aa defs (n+3)) (.call 4 [.bor 1,.bor 0]) (bC [0] [sv (ofR R),sv (.str "moth")] (.int h))=some (ofR (fq h R)):=ac (vs:=[.val (ofR R),.val (.int h)]) (by simp[evA,bC]) (sj (n+2) R h (by have:=g.2.2;omega));exact ac (vs:=[.val (ofR (fq h R))]) (by simp only[evA,eb];simp) (nI n (fq h R) (kX g) (IH (pw h R) J))
  have ea:ev (aa defs (n+3)) (.and (.call 26 [.bor 0]) (.blt .all [(.comp .seq [(.call 5 [.bor 0])] [0] (.cst (.bl true)) (.call 26 [(.call 4 [.bor 1,.bor 0])]))])) [sv (ofR R),sv (.str "moth")]=some (.bl (hv R&&(ab R).all λh=>hv (fq h R))):=by
   refine bF (ac (vs:=[.val (ofR R)]) (by simp[evA]) U) λ_=>?_
   rw[aB ec,jU,bD,map_some,K3]
   rfl
  show aQ (exs (aa defs (n+3)) (_::_::[_]) [sv (ofR R),sv (.str "moth")])=_;simp only[ag];rw[show ex (aa defs (n+3)) (.ite (.cmp .eq (.bor 1) (cs "weaver")) [.ret (.call 26 [.bor 0])] []) [sv (ofR R),sv (.str "moth")]=.next [sv (ofR R),sv (.str "moth")]from by simp[ex,exs,ev,evB,h],au];by_cases q:[]∈R
  .rw[IP q]at z ⊢;simp[ex,exs,ev,evA,evB,z]
  .rw[Jd q]at z ⊢;rw[show ex (aa defs (n+3)) (.ite (.call 6 [.bor 0]) [.ret (.cst (.bl true))] []) [sv (ofR R),sv (.str "moth")]=.next [sv (ofR R),sv (.str "moth")]from by simp[ex,exs,ev,evA,evB,z],au,bw ea]
   rfl
def ou (n) (R) (g:ay R):∃M,Top R M/\aa defs (n+4) 25 [.val (ofR R),.val (.str "weaver")]=some (.bl (decide ((R.map wgt).sum+M<1152921504606846976)))/\aa defs (n+4) 25 [.val (ofR R),.val (.str "moth")]=some (.bl (decide ((R.map wgt).sum<1152921504606846976))):=by
 obtain⟨M,em,J⟩:=nD n R g;have z:=si (n+1) R g.1 (by have:=g.2.2;omega);refine⟨M,J,?_,?_⟩
 .rw[ae (d:=cY) rfl rfl];have h:((("weaver":Str)==("moth":Str)))=false:=by decide
  simp[cY,exs,ex,ev,evA,evB,h,z,em]
 .rw[ae (d:=cY) rfl rfl];simp[cY,exs,ex,ev,evA,evB,z]
theorem ly(cal)(a s):∀(U J:List Int) (kk:Option MV),J.Nodup->(∀x∈J,0<=x/\x<=59)->(∀x∈U,0<=x/\x<=59) ->
  ∃Y,aw (λx l=>exs cal cZ (put l 3 (.val x))) (U.map .int) [some a,some (.own (J.map .int)),some s,kk]=.next [some a,some (.own ((U.foldl ig J).map .int)),some s,Y]
 | [],J,kk,_,_,_=>⟨kk,rfl⟩
 |t::U,J,kk,h1,h2,Z=>by
  rw[IG,aw];have hl:J.length<10000:=by have:=BM (R:=[]) h1 h2;omega
  have e:exs cal cZ (put [some a,some (.own (J.map .int)),some s,kk] 3 (.val (.int t)))=.next [some a,some (.own ((ig J t).map .int)),some s,sv (.int t)]:=by
   by_cases q:t∈J
   .simp[cZ,exs,ex,ev,evB,bn,ig,q]
   .simp[cZ,exs,ex,ev,evB,bn,ig,q,hl]
  rw[e];obtain⟨q1,q2⟩:=vM (h:=t) h1;exact ly cal a s U (ig J t) _ q1 (λx hx=>((q2 x).mp hx).elim (h2 x) λz=>z▸Z t (.head _)) λx hx=>Z x (.tail _ hx)
theorem nJ(cal)(a):∀(R:LL) (J:List Int) (s kk:Option MV),J.Nodup->(∀x∈J,0<=x/\x<=59)->(∀U∈R,∀x∈U,0<=x/\x<=59) ->
  ∃s' Y,aw (λx l=>exs cal dL (put l 2 (.val x))) (R.map ofS) [some a,some (.own (J.map .int)),s,kk]=.next [some a,some (.own ((R.foldl (λJ U=>U.foldl ig J) J).map .int)),s',Y]
 | [],J,s,kk,_,_,_=>⟨s,kk,rfl⟩
 |t::R,J,s,kk,h1,h2,Z=>by
  rw[IG,aw];obtain⟨k',e2⟩:=ly cal a (.val (ofS t)) t J kk h1 h2 (Z t (.head _));have e:exs cal dL (put [some a,some (.own (J.map .int)),s,kk] 2 (.val (ofS t)))=.next [some a,some (.own ((t.foldl ig J).map .int)),sv (ofS t),k']:=by
   simp[dL,exs,ex,ev,evs,bh,e2,aJ]
  rw[e];obtain⟨q1,q2⟩:=nH t J h1;exact nJ cal a R _ _ _ q1 (λx hx=>((q2 x).mp hx).elim (h2 x) λz=>Z t (.head _) x z) λU ao=>Z U (.tail _ ao)
def cQ(n)(R)(g:∀z∈R,cM z):aa defs (n+1) 40 [.val (ofR R)]=some (ofL (ab R)):=by
 rw[ae (d:=iE) rfl rfl];obtain⟨s',Z,e⟩:=nJ (aa defs n) (.val (ofR R)) R [] none none JU (λx h=>by cases h) λz J=>(g z J).2
 have U:(j8 R).length<64:=by have:=wZ g;omega
 simp[map_nil]at e;have Y:R.foldl (λacc z=>z.foldl ig acc) []=j8 R:=rfl;rw[Y]at e;simp[iE,exs,ex,ev,evs,bh,e,aJ,pg U,ab]
def g9(n)(R)(h)(J:R.length<=10000):aa defs (n+1) 39 [.val (ofR R),.val (.int h)]=some (ofR (fq h R)):=by
 rw[ae rfl rfl];simp[j4,exs,ex,ev,evs,J];rw[b8 (p:=λz=>!decide (h∈z)) (h:=ofS)]
 .simp[fq]
 .intro z _;simp[bC,bn]
 .intro z _ _;simp[bC]
def w8(h:(p++[x]).Pairwise (· < ·))(t):(t∈cE (p++[x]) ↔ t∈cE p\/t∈p.map (λy=>[y,x]))/\¬ (t∈cE p/\t∈p.map (λy=>[y,x])):=by
 obtain⟨Y,_,hx⟩:=pairwise_append.mp h;have hx:∀a∈p,a<x:=λa z=>hx a z x (by simp)
 rw[b6 h,b6 Y,mem_map];constructor
 .constructor
  .rintro ⟨a,b,rfl,U,z,J⟩;rcases JR.mp z with z|z
   .rcases JR.mp J with J|J
    .exact .inl ⟨a,b,rfl,U,z,J⟩
    .rw[I0.mp J];exact .inr ⟨a,z,rfl⟩
   .have Z:=I0.mp z;rcases JR.mp J with J|J
    .have:=hx b J;omega
    .simp_all
  .rintro (⟨a,b,rfl,U,z,J⟩|⟨a,z,rfl⟩)
   .exact⟨a,b,rfl,U,Jy _ z,Jy _ J⟩
   .exact⟨a,x,rfl,hx a z,Jy _ z,by simp⟩
 .rintro ⟨⟨a,b,rfl,U,z,J⟩,y,hy,e⟩;cases e;have:=hx x J;omega
def vN(cal)(W):ev cal (.bin .pow (ci 2) (ci 60)) W=some (.int 1152921504606846976):=rfl
def zM(cal)(s)(z:s.length<=60)(r):ev cal (.bin .shr (.bin .pow (ci 2) (ci 60)) (.blt .len [.bor 0])) (sv (ofS s)::r)=some (.int (wgt s)):=by
 rw[bx (vN _ _) (y:=.int (s.length:Int)) (by simp[ev,evs])];show(if 0<=(s.length:Int)then some _ else none)=_;rw[if_pos (by omega),Int.toNat_natCast,sd _ z]
 rfl
def ui{ns:List Int}(h:ev cal e W=some (.lst (ns.map .int))):ev cal (.blt .sum [e]) W=some (.int ns.sum):=by
 rw[aB h];show((bf _).map λns=>PV.int ns.sum)=_;rw[bb]
 rfl
def zN(n)(R)(g:ay R):aa defs (n+1) 56 [.val (ofR R)]=some (.int (R.map wgt).sum):=by
 show aQ (exs _ [.ret _] [some _])=_;rw[ag,bw (ui ((be (vs:=[ofR R]) (by simp[evs,ev]) rfl (by have:=g.2.2;omega) λs hs=>zM _ s (aA (g.1 s hs)) _).trans (by rw[ID];rfl)))]
 rfl
def lz(R)(h):((R.filter λs=>decide (h∈s)).map wgt).sum=cj R h:=by
 unfold cj
 induction R with
 |nil=>rfl
 |cons s R ih =>
  by_cases q:h∈s
  .simp_all
  .simp_all
def w9(n)(R)(h)(g:ay R):aa defs (n+1) 57 [.val (ofR R),.val (.int h)]=some (.int (cj R h)):=by
 rw[ae rfl rfl];show aQ (exs _ [.ret _] [sv _,sv _])=_;rw[ag,bw (ui ?_),lz]
 .rfl
 .rw[ev,show evs _ [.bor 0] [sv _,sv _]=some [ofR R]from by simp[evs,ev],bind_some,ql,qk,bind_some,if_pos (by rw[tf];have:=g.2.2;omega),b8 (h:=λs=>.int _),ID]
  .rfl
  .intro s _;simp[ev,bC,bn]
  .intro s hs _;exact zM _ s (aA (g.1 s hs)) _
theorem Hj(cal)(s)(k)(x)(hk:dR (ofS s) (.int k)=some (.int x))(hx:0<=x/\x<=59)(J):∀(ys:List Int) i,(∀m y,ys[m]?=some y->s[i+m]?=some y)->ys.Nodup->(∀y∈ys,0<=y/\y<=59)->∀d f P Y U,fm d f->fo d P->(∀t,P t->lx t) ->
  ∃d' f' z4 z5,aw (λv l=>exs cal fb (put l 4 (.val v))) ((range' i ys.length).map λ(j:Nat)=>PV.int (j:Int)) [J,some (.ownD (.t d)),sv (ofS s),sv (.int k),Y,U]=.next [J,some (.ownD (.t d')),sv (ofS s),sv (.int k),z4,z5]/\fm d' f'/\fo d' (λt=>P t\/t∈ys.map λy=>[y,x])/\∀j,f' j=f j+if j∈ys.map (λy=>[y,x])then 1 else 0
 | [],i,_,_,_,d,f,P,Y,U,hd,hp,ht=>⟨d,f,Y,U,rfl,hd,by simpa using hp,λj=>by simp⟩
 |y::ys,i,hi,hn,Z,d,f,P,Y,U,hd,hp,ht=>by
  obtain⟨hy,hn⟩:=Jl.mp hn;rw[length_cons,range'_succ,IG,aw];have a4:d.length<10000:=by have:=nG d P hp ht;omega
  have ei:dR (ofS s) (.int (i:Int))=some (.int y):=by
   have h0:=hi 0 y rfl;rw[Nat.add_zero]at h0;have hl:=(IA.mp h0).1;show(place (s.map PV.int).length (i:Int)).bind _=_;rw[tf,dX (by omega) (by omega),bind_some,Int.toNat_natCast,IS,h0]
   rfl
  have e1:ev cal (.tup [(.idx (.bor 2) (.bor 4)),(.idx (.bor 2) (.bor 3))]) [J,some (.ownD (.t d)),sv (ofS s),sv (.int k),sv (.int (i:Int)),U]=some (ofS [y,x]):=by
   simp[ev,evs,ei,hk,-Hd]
  have eg:ev cal (.dget (.bor 1) (.bor 5) (ci 0)) [J,some (.ownD (.t d)),sv (ofS s),sv (.int k),sv (.int (i:Int)),sv (ofS [y,x])]=some (.int (f [y,x])):=by
   rw[<- nz hd [y,x]];simp only[ev,ph,ud,getElem?_cons_succ,getElem?_cons_zero,Option.join_some,bind_some,ofS,EX]
   rfl
  have es:ev cal (.bin .add (.dget (.bor 1) (.bor 5) (ci 0)) (ci 1)) [J,some (.ownD (.t d)),sv (ofS s),sv (.int k),sv (.int (i:Int)),sv (ofS [y,x])]=some (.int (f [y,x]+1)):=by
   rw[bx eg (fc _ _ _),BI]
  have e2:ex cal (.dput 1 (.bor 5) (.bin .add (.dget (.bor 1) (.bor 5) (ci 0)) (ci 1))) [J,some (.ownD (.t d)),sv (ofS s),sv (.int k),sv (.int (i:Int)),sv (ofS [y,x])]=.next [J,some (.ownD (.t (cy d [y,x] (.int (f [y,x]+1))))),sv (ofS s),sv (.int k),sv (.int (i:Int)),sv (ofS [y,x])]:=by
   rw[ex,es,dE];have:oj (.t d) (ofS [y,x]) (.int (f [y,x]+1))=some (.t (cy d [y,x] (.int (f [y,x]+1)))):=by
    unfold ofS;rw[EY,if_pos a4]
   simp only[ev,ph,getElem?_cons_succ,getElem?_cons_zero,Option.join_some,dE,EU,this]
   rfl
  have e:exs cal fb (put [J,some (.ownD (.t d)),sv (ofS s),sv (.int k),Y,U] 4 (.val (.int (i:Int))))=.next [J,some (.ownD (.t (cy d [y,x] (.int (f [y,x]+1))))),sv (ofS s),sv (.int k),sv (.int (i:Int)),sv (ofS [y,x])]:=by
   show exs cal (_::[_]) [J,some (.ownD (.t d)),sv (ofS s),sv (.int k),sv (.int (i:Int)),U]=_;rw[ag,fT e1,au];simp only[bi,bj];rw[ag,e2]
   rfl
  rw[e];refine ax λZq kq=>?_
  have h9:=Z y (.head _);obtain⟨d',f',z4,z5,q1,q2,q3,q4⟩:=Hj cal s k x hk hx J ys (i+1) (λm z hz=>by have:=hi (m+1) z (by simpa using hz);rwa[show i+(m+1)=i+1+m from by omega]at this) hn (λz hz=>Z z (.tail _ hz)) (cy d [y,x] (.int (f [y,x]+1))) (λj=>if j=[y,x]then f j+1 else f j) (λt=>P t\/t=[y,x]) (sv (.int (i:Int))) (sv (ofS [y,x])) (se hd [y,x] 1) (sf hp [y,x] _) (λt h=>h.elim (ht t) λe=>⟨y,x,e,h9.1,h9.2,hx.1,hx.2⟩);refine kq ?_;refine⟨d',f',z4,z5,q1,q2,⟨q3.1,λt=>?_⟩,λj=>?_⟩
  .rw[q3.2 t,IG];show(P t\/t=[y,x])\/t∈ys.map (λy=>[y,x]) ↔ P t\/t∈[y,x]::ys.map λy=>[y,x]
   rw[IB,_root_.or_assoc]
  .rw[q4 j,IG];by_cases q:j=[y,x]
   .simp_all
   .simp_all
theorem Hk(cal)(s)(gs:cM s)(J):∀r p,s=p++r->∀d f P y3 U Y,fm d f->fo d P->(∀t,P t->lx t) ->
  ∃d' f' z3 z4 z5,aw (λv l=>exs cal dy (put l 3 (.val v))) ((range' p.length r.length).map λ(j:Nat)=>PV.int (j:Int)) [J,some (.ownD (.t d)),sv (ofS s),y3,U,Y]=.next [J,some (.ownD (.t d')),sv (ofS s),z3,z4,z5]/\fm d' f'/\fo d' (λt=>P t\/(t∈cE s/\t∉cE p))/\∀j,f' j=f j+if j∈cE s/\j∉cE p then 1 else 0
 | [],p,hs,d,f,P,y3,U,Y,hd,hp,ht=>⟨d,f,y3,U,Y,by simp,hd,⟨hp.1,λt=>by rw[hp.2 t,hs,JD];simp⟩,λj=>by rw[hs,JD];simp⟩
 |x::r,p,hs,d,f,P,y3,U,Y,hd,hp,ht=>by
  rw[length_cons,range'_succ,IG];refine ax λZq kq=>?_
  have Z:s=(p++[x])++r:=by rw[hs,Jm];rfl
  have hl:p.length<s.length:=by rw[hs,IC,length_cons];omega
  have cu:=aA gs;have a9:s[p.length]?=some x:=by rw[hs,JJ (pe _),Nat.sub_self];rfl
  have ek:dR (ofS s) (.int (p.length:Int))=some (.int x):=by
   show(place (s.map PV.int).length (p.length:Int)).bind _=_;rw[tf,dX (by omega) (by omega),bind_some,Int.toNat_natCast,IS,a9]
   rfl
  have ar:∀y∈p,y∈s:=λy hy=>by rw[hs];exact Jy _ hy
  have b0:p.Nodup:=by
   have:=jW gs.1;rw[hs]at this;exact(KD.mp this).1
  obtain⟨d1,f1,w4,w5,q1,q2,q3,q4⟩:=Hj cal s (p.length:Int) x ek (gs.2 x (by rw[hs];simp)) J p 0 (λm y hm=>by
   rw[JY,hs,Ju (IA.mp hm).1];exact hm) b0 (λy hy=>gs.2 y (ar y hy)) d f P U Y hd hp ht
  have e:exs cal dy (put [J,some (.ownD (.t d)),sv (ofS s),y3,U,Y] 3 (.val (.int (p.length:Int))))=.next [J,some (.ownD (.t d1)),sv (ofS s),sv (.int (p.length:Int)),w4,w5]:=by
   show exs cal [_] [J,some (.ownD (.t d)),sv (ofS s),sv (.int (p.length:Int)),U,Y]=_;have a1:(evs cal [.bor 3] [J,some (.ownD (.t d)),sv (ofS s),sv (.int (p.length:Int)),U,Y]).bind (aW .rng)=some ((range' 0 p.length).map λ(j:Nat)=>PV.int (j:Int)):=by
    rw[show evs cal [.bor 3] [J,some (.ownD (.t d)),sv (ofS s),sv (.int (p.length:Int)),U,Y]=some [.int (p.length:Int)]from by simp[evs,ev],bind_some,gU (by omega) (by omega),Int.toNat_natCast,range_eq_range']
   rw[ag,cx a1,show bh [.bor 3] [J,some (.ownD (.t d)),sv (ofS s),sv (.int (p.length:Int)),U,Y]=[J,some (.ownD (.t d)),sv (ofS s),sv (.int (p.length:Int)),U,Y]from rfl,q1,bS,au,exs,show ∀b d e x f l,aJ [.bor 3] (b::d::e::sv (.int x)::f) l=l from λ_ _ _ _ _ _=>rfl]
  have tw:=λt=>w8 (p:=p) (x:=x) (by
   have:=gs.1;rw[Z]at this;exact(pairwise_append.mp this).1) t
  have b1:∀t,t∈p.map (λy=>[y,x])->lx t:=λt h=>by
   obtain⟨y,hy,rfl⟩:=mem_map.mp h;have a:=gs.2 y (ar y hy);have b:=gs.2 x (by rw[hs];simp);exact⟨y,x,rfl,a.1,a.2,b.1,b.2⟩
  obtain⟨d',f',z3,z4,z5,r1,r2,r3,r4⟩:=Hk cal s gs J r (p++[x]) Z d1 f1 (λt=>P t\/t∈p.map λy=>[y,x]) (sv (.int (p.length:Int))) w4 w5 q2 q3 (λt h=>h.elim (ht t) (b1 t));rw[IC,length_singleton]at r1;have sub:∀t,t∈cE (p++[x])->t∈cE s:=λt h=>by
   rw[Z];have hg:=gs.1;rw[Z]at hg;obtain⟨a,b,e,h1,h2,h3⟩:=(b6 (pairwise_append.mp hg).1).mp h;exact(b6 hg).mpr ⟨a,b,e,h1,Jy _ h2,Jy _ h3⟩
  refine kq ?_;refine⟨d',f',z3,z4,z5,(g6 (body:=λv l=>exs cal dy (put l 3 (.val v))) e).trans r1,r2,⟨r3.1,λt=>?_⟩,λj=>?_⟩
  .rw[r3.2 t];have a:=(tw t).1;have b:=(tw t).2;have c:=sub t;constructor
   .rintro ((h|h)|⟨h,h'⟩)
    .exact .inl h
    .exact .inr ⟨c (a.mpr (.inr h)),λz=>b ⟨z,h⟩⟩
    .exact .inr ⟨h,λz=>h' (a.mpr (.inl z))⟩
   .rintro (h|⟨h,h'⟩)
    .exact .inl (.inl h)
    .by_cases z:t∈cE (p++[x])
     .exact .inl (.inr ((a.mp z).resolve_left h'))
     .exact .inr ⟨h,z⟩
  .rw[r4 j,q4 j];have a:=(tw j).1;have b:=(tw j).2;have c:=sub j;by_cases z:j∈p.map λy=>[y,x]
   .simp_all
   .by_cases w:j∈cE s/\j∉cE p
    .rw[if_neg z,if_pos w,if_pos ⟨w.1,λv=>(a.mp v).elim w.2 z⟩];omega
    .rw[if_neg z,if_neg w,if_neg λv=>w ⟨v.1,λu=>v.2 (a.mpr (.inl u))⟩];omega
def w_(n)(R)(g:ay R):∃M,aa defs (n+1) 58 [.val (ofR R)]=some (.int M)/\uh R M:=by
 refine ax λZq kq=>?_
 obtain⟨d,l,e,⟨_,x,y,z,w,rfl⟩,hd,Z,a7⟩:=zJ (R:=R) (ge:=ofS) (m:=cE) (w:=λ_=>1) (Q:=lx) (B:=3600) nG (body:=λv l=>exs (aa defs n) iG (put l 2 (.val v))) (I:=λd W=>(∀t∈d.map (·.1),lx t)/\∃x y z w,W=[sv (ofR R),some (.ownD (.t d)),x,y,z,w]) (d:=[]) (W:=[sv (ofR R),some (.ownD (.t [])),none,none,none,none]) (f:=λ_=>0) (P:=λ_=>False)
  (by
   rintro s hs d W f P ⟨hI,x,y,z,w,rfl⟩ hd Z hl;have gs:=g.1 s hs;have a8:=aA gs;obtain⟨d',f',z3,z4,z5,q1,q2,q3,q4⟩:=Hk (aa defs n) s gs (sv (ofR R)) s [] rfl d f P y z w hd Z (λt Y=>hI t ((Z.2 t).mpr Y));have en:∀t,(t∈cE s/\t∉cE []) ↔ t∈cE s:=λt=>⟨λh=>h.1,λh=>⟨h,λz=>by cases z⟩⟩
   refine⟨d',_,?_,⟨λt Y=>?_,sv (ofS s),z3,z4,z5,rfl⟩,?_,⟨q3.1,λt=>(q3.2 t).trans (or_congr Iff.rfl (en t))⟩⟩
   .show exs (aa defs n) [_] [sv (ofR R),some (.ownD (.t d)),sv (ofS s),y,z,w]=_;have J:(evs (aa defs n) [(.blt .len [.bor 2])] [sv (ofR R),some (.ownD (.t d)),sv (ofS s),y,z,w]).bind (aW .rng)=some ((range' 0 s.length).map λ(j:Nat)=>PV.int (j:Int)):=by
     rw[show evs (aa defs n) [(.blt .len [.bor 2])] [sv (ofR R),some (.ownD (.t d)),sv (ofS s),y,z,w]=some [.int (s.length:Int)]from by simp[evs,ev],bind_some,gU (by omega) (by omega),Int.toNat_natCast,range_eq_range']
    rw[ag,cx J,show ∀W,bh [(.blt .len [.bor 2])] W=W from λ_=>rfl,show([]:List Int).length=0 from rfl]at *
    rw[q1,bS]
    rfl
   .rcases(q3.2 t).mp Y with h|h
    .exact hI t ((Z.2 t).mpr h)
    .obtain⟨a,b,rfl,_,h1,h2⟩:=(b6 gs.1).mp h.1;have p1:=gs.2 a h1;have p2:=gs.2 b h2;exact⟨a,b,rfl,p1.1,p1.2,p2.1,p2.2⟩
   .refine Eq.mp (IW (fm d') ?_) q2
    funext j
    rw[q4 j];by_cases q:j∈cE s
    .rw[if_pos ((en j).mpr q)];simp[q]
    .rw[if_neg λz=>q z.1];simp[q])
  (λs hs t Y=>by
   have gs:=g.1 s hs;obtain⟨a,b,rfl,_,h1,h2⟩:=(b6 gs.1).mp Y;have p1:=gs.2 a h1;have p2:=gs.2 b h2;exact⟨a,b,rfl,p1.1,p1.2,p2.1,p2.2⟩) ⟨(λt Y=>by cases Y),none,none,none,none,rfl⟩ nA nB (λ_ z=>z.elim)
 obtain⟨M,ns,e1,cd,e2,h0,h1,h2⟩:=ug hd Z;refine kq ?_;refine⟨M,?_,h0,?_,?_⟩
 .rw[ae (d:=j6) rfl rfl];have J:(evs (aa defs n) [.bor 0] [sv (ofR R),some (.ownD (.t [])),none,none,none,none]).bind (aW .seq)=some (R.map ofS):=by simp[evs,ev]
  have ar:ev (aa defs n) (.blt .valuesOf [.bor 1]) [sv (ofR R),some (.ownD (.t d)),x,y,z,w]=some (.lst (ns.map .int)):=by
   rw[aB (v:=.dI (.t d)) (by simp[ev]),jr,if_pos (by unfold i7 dSc;rw[tf,tf];omega)];show some (PV.lst ((d.map (·.2)).map Sc.pv))=_;rw[e1]
  have aO:ev (aa defs n) (.bin .add (.lst [(ci 0)]) (.blt .valuesOf [.bor 1])) [sv (ofR R),some (.ownD (.t d)),x,y,z,w]=some (.lst ((0::ns).map .int)):=by
   rw[bx (x:=.lst [.int 0]) (by simp[ev,evs]) ar,iR,if_pos (by simp;omega)]
   rfl
  show aQ (exs (aa defs n) (_::_::[_]) [sv (ofR R),none,none,none,none,none])=_;simp only[ag];rw[show ex (aa defs n) (.newD true 1) [sv (ofR R),none,none,none,none,none]=.next [sv (ofR R),some (.ownD (.t [])),none,none,none,none]from by rw[ex];rfl,au,cx J,show bh [.bor 0] [sv (ofR R),some (.ownD (.t [])),none,none,none,none]=[sv (ofR R),some (.ownD (.t [])),none,none,none,none]from rfl,e,bS,au];rw[show ∀W,aJ [.bor 0] [sv (ofR R),some (.ownD (.t [])),none,none,none,none] W=W from λ_=>rfl,bw (v:=.int M)]
  .rfl
  .rw[aB aO,jV,bb,bind_some,e2]
   rfl
 .refine h1.imp id λ⟨k,hk,ek⟩=>?_
  obtain⟨s,hs,hk⟩:=hk.resolve_left id;obtain⟨a,b,rfl,U,ha,hb⟩:=(b6 (g.1 s hs).1).mp hk;refine⟨a,b,U,⟨s,hs,ha,hb⟩,?_⟩;rw[<- qw (λs hs=>(g.1 s hs).1) U,<- ek];rw[Lw];exact IW List.sum (Jw λs _=>by by_cases q:[a,b]∈cE s<;>simp[q])
 .intro a b U;by_cases q:∃s∈R,a∈s/\b∈s
  .obtain⟨s,hs,ha,hb⟩:=q;have:=h2 [a,b] (.inr ⟨s,hs,(b6 (g.1 s hs).1).mpr ⟨a,b,rfl,U,ha,hb⟩⟩);rw[<- qw (λs hs=>(g.1 s hs).1) U];refine L1 (Int.le_of_eq ?_) this;rw[Lw];exact IW List.sum (Jw λs _=>by by_cases q:[a,b]∈cE s<;>simp[q])
  .rw[pq q];exact h0
def BN (n) (R) (g:ay R) (Y:Top R M):aa defs (n+2) 59 [.val (ofR R),.val (.str "weaver")]=some (.bl (decide ((R.map wgt).sum+M<1152921504606846976)))/\aa defs (n+2) 59 [.val (ofR R),.val (.str "moth")]=some (.bl (decide ((R.map wgt).sum<1152921504606846976))):=by
 have es:=zN n R g;have Z:=cQ n R g.1;have ao:=aA (aP g.1);constructor
 .rw[ae (d:=dz) rfl rfl];show aQ (exs (aa defs (n+1)) (.ite _ _ []::_::[_]) [sv (ofR R),sv (.str "weaver"),none])=_;simp only[ag];rw[show ex (aa defs (n+1)) (.ite (.cmp .eq (.bor 1) (cs "moth")) [.ret (.cmp .lt (.call 56 [.bor 0]) (.bin .pow (ci 2) (ci 60)))] []) [sv (ofR R),sv (.str "weaver"),none]=.next [sv (ofR R),sv (.str "weaver"),none]from by
   have h:((("weaver":PySem.Str)==("moth":PySem.Str)))=false:=by decide
   rw[ex,show evB (aa defs (n+1)) (.cmp .eq (.bor 1) (cs "moth")) [sv (ofR R),sv (.str "weaver"),none]=some false from by simp[evB,ev,h],b9,if_neg (by decide),exs],au]
  have ec:ev (aa defs (n+1)) (.comp .seq [(.call 40 [.bor 0])] [0] (.cst (.bl true)) (.call 57 [.bor 1,.bor 0])) [sv (ofR R),sv (.str "weaver"),none]=some (.lst (((ab R).map (cj R)).map .int)):=by
   refine(be (g:=PV.int) (h:=λh=>.int (cj R h)) (vs:=[ofL (ab R)]) ?_ rfl (by omega) λh _=>?_).trans (by rw[ID];rfl)
   .rw[evs,ac (vs:=[.val (ofR R)]) (by simp[evA]) Z];simp[evs]
   .exact ac (vs:=[.val (ofR R),.val (.int h)]) (by simp[evA,bC]) (w9 n R h g)
  obtain⟨N,J⟩:∃N,wB (0::(ab R).map (cj R))=some N:=⟨_,rfl⟩;obtain⟨m1,U⟩:=kI J;have tN:Top R N:=by
   refine⟨U 0 (.head _),?_,λk z=>U _ (.tail _ (mem_map.mpr ⟨k,bL.mpr z,rfl⟩))⟩;rcases IB.mp m1 with e|e
   .exact .inl e
   .obtain⟨k,z,e⟩:=mem_map.mp e;exact .inr ⟨k,bL.mp z,e⟩
  rw[sh Y tN];rw[fT (v:=.int N) (by
   rw[aB (v:=.lst ((0::(ab R).map (cj R)).map .int)) (by
    rw[bx (x:=.lst [.int 0]) (by simp[ev,evs]) ec,iR,if_pos (by simp;omega)]
    rfl),jV,bb,bind_some,J]
   rfl),au]
  simp only[bi,bj];rw[bw (v:=.bl (decide ((R.map wgt).sum+N<1152921504606846976)))]
  .rfl
  .rw[cD (bx (ac (vs:=[.val (ofR R)]) (by simp[evA]) es) (y:=.int N) (by simp[ev])) (vN _ _),zB]
   rfl
 .rw[ae (d:=dz) rfl rfl];show aQ (exs (aa defs (n+1)) (.ite _ [_] []::_::[_]) [sv (ofR R),sv (.str "moth"),none])=_;rw[ag,ex,show evB (aa defs (n+1)) (.cmp .eq (.bor 1) (cs "moth")) [sv (ofR R),sv (.str "moth"),none]=some true from by simp[evB,ev],b9,if_pos rfl,ag,bw (v:=.bl (decide ((R.map wgt).sum<1152921504606846976)))]
  .rfl
  .rw[cD (ac (vs:=[.val (ofR R)]) (by simp[evA]) es) (vN _ _),zB]
   rfl
def zO(n)(R)(g:ay R):aa defs (n+2) 60 [.val (ofR R)]=some (.bl (hv R)):=by
 rw[ae (d:=gz) rfl rfl];have es:=zN n R g;have J:=cQ n R g.1;obtain⟨M,em,z⟩:=w_ n R g;have U:=aA (aP g.1);have Y:ev (aa defs (n+1)) (.bin .mul (ci 4) (.call 56 [.bor 0])) [sv (ofR R)]=some (.int (4*(R.map wgt).sum)):=by
  rw[bx (fc _ _ _) (ac (vs:=[.val (ofR R)]) (by simp[evA]) es),qi,if_pos (.inl ⟨by decide,by decide⟩)]
 have Z:ev (aa defs (n+1)) (.bin .mul (.bin .pow (ci 2) (ci 60)) (.call 58 [.bor 0])) [sv (ofR R)]=some (.int (1152921504606846976*M)):=by
  rw[bx (vN _ _) (ac (vs:=[.val (ofR R)]) (by simp[evA]) em),qi,if_pos (.inl ⟨by decide,by decide⟩)]
 have ed:ev (aa defs (n+1)) (.bin .fdiv (.blt .len [(.call 40 [.bor 0])]) (ci 2)) [sv (ofR R)]=some (.int (((ab R).length:Int) / 2)):=by
  refine vJ ?_ (by decide);rw[aB (ac (vs:=[.val (ofR R)]) (by simp[evA]) J),zC,tf]
 show aQ (exs (aa defs (n+1)) [.ret _] [sv (ofR R)])=_;rw[ag,bw (v:=.bl (hv R))]
 .rfl
 .rw[cD Y (bx Z ed |>.trans (by rw[qi,if_pos (.inr ⟨by omega,by omega⟩)])),ue];have:decide (1152921504606846976*M*(((ab R).length:Int) / 2)<4*(R.map wgt).sum)=hv R:=by
   rw[IT,zL,Jc];constructor
   .exact λh=>⟨M,z,h⟩
   .rintro ⟨N,hN,h⟩;rw[pz z hN];exact h
  rw[this]
  rfl
def xa (n) (R) (g:ay R):aa defs (n+3) 61 [.val (ofR R),.val (.str "weaver")]=some (.bl (hv R))/\aa defs (n+3) 61 [.val (ofR R),.val (.str "moth")]=some (.bl (decide ([]∈R)||(hv R&&(ab R).all λh=>hv (fq h R)))):=by
 have J:=zO n R g;have U:=cQ (n+1) R g.1;have Y:=aA (aP g.1);constructor
 .rw[ae (d:=cV) rfl rfl];show aQ (exs (aa defs (n+2)) (.ite _ [_] []::_) [sv (ofR R),sv (.str "weaver")])=_;rw[ag,ex,show evB (aa defs (n+2)) (.cmp .eq (.bor 1) (cs "weaver")) [sv (ofR R),sv (.str "weaver")]=some true from by simp[evB,ev],b9,if_pos rfl,ag,bw (ac (vs:=[.val (ofR R)]) (by simp[evA]) J)]
  rfl
 .rw[ae (d:=cV) rfl rfl];show aQ (exs (aa defs (n+2)) (.ite _ _ []::.ite _ [_] []::.ite _ [_] []::[_]) [sv (ofR R),sv (.str "moth")])=_;simp only[ag];have h:((("moth":PySem.Str)==("weaver":PySem.Str)))=false:=by decide
  rw[ex,show evB (aa defs (n+2)) (.cmp .eq (.bor 1) (cs "weaver")) [sv (ofR R),sv (.str "moth")]=some false from by simp[evB,ev,h],b9,if_neg (by decide),exs,au];have Z:evB (aa defs (n+2)) (.cmp .isIn (.tup []) (.bor 0)) [sv (ofR R),sv (.str "moth")]=some (decide ([]∈R)):=by
   refine kT ((cD (x:=ofS []) (y:=ofR R) (by simp[ev,evs]) (by simp[ev])).trans ?_);rw[vD,iA]
   rfl
  rw[ex,Z,b9];by_cases q:[]∈R
  .rw[IP q,if_pos rfl,ag,bw (v:=.bl true) (by simp[ev])]
   rfl
  .rw[Jd q,if_neg (by decide),exs,au,Bool.false_or];have en:evB (aa defs (n+2)) (.not (.call 60 [.bor 0])) [sv (ofR R),sv (.str "moth")]=some (!hv R):=by
    refine kT ?_;rw[ev,ac (vs:=[.val (ofR R)]) (by simp[evA]) J]
    rfl
   rw[ex,en,b9];cases hv R with
   |false =>
    rw[if_pos (by decide),ag,bw (v:=.bl false) (by simp[ev])]
    rfl
   |true =>
    rw[if_neg (by decide),exs,au,J4];have ec:ev (aa defs (n+2)) (.comp .seq [(.call 40 [.bor 0])] [0] (.cst (.bl true)) (.call 60 [(.call 39 [.bor 1,.bor 0])])) [sv (ofR R),sv (.str "moth")]=some (.lst (((ab R).map λh=>hv (fq h R)).map .bl)):=by
     refine(be (g:=PV.int) (h:=λh=>.bl (hv (fq h R))) (vs:=[ofL (ab R)]) ?_ rfl (by omega) λh _=>?_).trans (by rw[ID];rfl)
     .rw[evs,ac (vs:=[.val (ofR R)]) (by simp[evA]) U];simp[evs]
     .exact gE (λ_ z=>by cases z) (ac (vs:=[.val (ofR R),.val (.int h)]) (by simp[evA,bC]) (g9 (n+1) R h (by have:=g.2.2;omega))) (zO n (fq h R) (kX g))
    rw[bw (v:=.bl ((ab R).all λh=>hv (fq h R)))]
    .rfl
    .rw[aB ec,jU,bD,map_some,K3]
     rfl
noncomputable def af (b:Bool):PySem.Str:=if b=true then "moth" else "weaver"
def qx(a b):((PySem.Str.ofString a)==(PySem.Str.ofString b))=(a==b):=by
 rw[IT,IE,IE];refine⟨λh=>?_,λh=>by rw[h]⟩;rw[PySem.Str.ofString_eq_byList]at h;unfold PySem.Str.ofStringByList at h;have h1:(a.toList.map Char.toNat).toArray=(b.toList.map Char.toNat).toArray:=by injection h
 have h2:a.toList.map Char.toNat=b.toList.map Char.toNat:=by simpa using h1
 have key:∀xs ys:List Char,xs.map Char.toNat=ys.map Char.toNat->xs=ys:=by
  intro xs
  induction xs with
  |nil=>intro ys h;cases ys with|nil=>rfl|cons=>simp at h
  |cons x xs ih=>intro ys h;cases ys with
   |nil=>simp at h
   |cons y ys =>
    simp only[IG,Ls]at h;rw[ih ys h.2,Char.toNat_inj.mp h.1]
 exact String.toList_inj.mp (key _ _ h2)
def aL(h:ev cal e W=some v)(k:aQ (exs cal ms (put W i (.val v)))=X):aQ (exs cal (.set i e::ms) W)=X:=by simp_all [ag,fT]
def kY(h:ex cal m W=.next l)(k:aQ (exs cal ms l)=X):aQ (exs cal (m::ms) W)=X:=by simp_all [ag]
def fg(h:ev cal e W=some v):aQ (exs cal (.ret e::ms) W)=some v:=by
 rw[ag,bw h];rfl
def cI(h:ev cal e W=some v)(k:exs cal ms (put W i (.val v))=r):exs cal (.set i e::ms) W=r:=by
 rw[ag,fT h,au,k]
def eA(h:ex cal m W=.next l)(k:exs cal ms l=r):exs cal (m::ms) W=r:=by simp_all [ag]
def cN(h:ex cal m W=.next l):exs cal [m] W=.next l:=by
 rw[ag,h,au,exs]
def uj{W z J:Rho}(h1:body x W=.next z)(h2:body y z=.next J):aw body [x,y] W=.next J:=by
 rw[g6 h1,g6 h2,aw]
def jx(h:ev cal (.lst es) W=some (.lst xs))(k:aw (λx l=>exs cal body (put l i (.val x))) xs W=.next l):ex cal (.for1 i .seq [.lst es] body) W=.next l:=by
 rw[cx (by rw[evs,h];rfl),show bh [.lst es] W=W from rfl,k]
 rfl
def aY(h:ev cal c W=some (.bl p)):ex cal (.ite c a b) W=if p=true then exs cal a W else exs cal b W:=by
 rw[ex,kT h,b9]
def aD(h:ev cal c W=some (.bl false))(k:aQ (exs cal ms W)=X):aQ (exs cal (.ite c a []::ms) W)=X:=by simp_all [aY,exs]
def cB(h:ev cal c W=some (.bl true))(k:ev cal e W=some v):aQ (exs cal (.ite c [.ret e] b::ms) W)=some v:=by
 rw[ag,aY h,if_pos rfl,ag,bw k];rfl
def fU(h:ev cal (.call f as) W=some v)(k:evA cal es W=some vs):evA cal (.call f as::es) W=some (.val v::vs):=by simp_all [evA]
def vO(h:ev cal (.idx a i) W=some v)(k:evA cal es W=some vs):evA cal (.idx a i::es) W=some (.val v::vs):=by simp_all [evA]
def Hl(h:gh (W[i]?).join=some m)(k:evA cal es W=some vs):evA cal (.bor i::es) W=some (m::vs):=by simp_all [evA]
def sk(h:ev cal a W=some (.bl p)):ev cal (.not a) W=some (.bl (!p)):=by
 rw[ev,h];rfl
def Ir(h:ev cal c W=some (.bl p))(k:ev cal e W=some v)(z:p=false->aQ (exs cal ms W)=some w):aQ (exs cal (.ite c [.ret e] []::ms) W)=some (if p=true then v else w):=by
 cases p<;>first|exact cB h k|exact aD h (z rfl)
def sm(h:ev cal c W=some (.bl true))(k:exs cal a W=.ret v):aQ (exs cal (.ite c a b::ms) W)=some v:=by
 rw[ag,aY h,if_pos rfl,k];rfl
def ul(h:ev cal c W=some (.bl false))(k:exs cal ms W=r):exs cal (.ite c a []::ms) W=r:=by simp_all [aY,exs]
def iI(h:ev cal e W=some v):exs cal (.ret e::ms) W=.ret v:=by
 rw[ag,bw h];rfl
def sn(h:ev cal c W=some (.bl true))(k:ev cal e W=some v):exs cal (.ite c [.ret e] b::ms) W=.ret v:=by
 rw[ag,aY h,if_pos rfl,ag,bw k];rfl
def sr(h:ev cal a W=some (.bl p))(h':p=false->ev cal b W=some (.bl q)):ev cal (.or a b) W=some (.bl (p||q)):=by
 rw[ev,h];cases p<;>first|rfl|simp[h' rfl]
def um(h:isIn x xs=some p)(z:ev cal a W=some x)(J:ev cal b W=some (.tup xs)):ev cal (.cmp .isIn a b) W=some (.bl p):=by
 rw[cD z J,vD,h];rfl
def zP(h:((xs.length:Int)==0)=p)(z:ev cal a W=some (.lst xs)):ev cal (.cmp .eq (.blt .len [a]) (ci 0)) W=some (.bl p):=by
 rw[cD (aB z) (fc _ _ _),<- h];rfl
def Cy(ho:(W[i]?).join=some (.own xs))(h:ev cal e W=some v)(z:xs.length<10000):ex cal (.append i e) W=.next (put W i (.own (xs++[v]))):=by
 rw[ex,ho,h];simp[z]
def qy(h:((xs.length:Int)==0)=p)(z:ev cal a W=some (.tup xs)):ev cal (.cmp .eq (.blt .len [a]) (ci 0)) W=some (.bl p):=by
 rw[cD (aB z) (fc _ _ _),<- h];rfl
def E5(h:(evs cal src W).bind (aW k)=some xs)(e:aw (λx l=>exs cal body (put l i (.val x))) xs (bh src W)=.ret v):exs cal (.for1 i k src body::ms) W=.ret v:=by
 rw[ag,cx h,e];rfl
def E6(h:ev cal e W=some (.lst xs)):(evs cal [e] W).bind (aW .seq)=some xs:=by simp_all [evs]
def bR(h:ev cal e W=some v)(k:evs cal es W=some vs):evs cal (e::es) W=some (v::vs):=by simp_all [evs]
def fL(h:evs cal es W=some vs)(z:vs.length<=10000:=by simp):ev cal (.tup es) W=some (.tup vs):=by
 rw[ev,h,bind_some,if_pos z]
def vP{cal:Cal}{a lo hi:ME}{W:Rho}{x y:PV}{l h:Option Int}(z:ev cal a W=some x)(J:((ev cal lo W).bind λl=>bnd lo l)=some l)(U:((ev cal hi W).bind λv=>bnd hi v)=some h)(hs:iN x l h=some y):ev cal (.slice a lo hi) W=some y:=by
 rw[ev,z,bind_some,J,bind_some,U,bind_some,hs]
def xb(n)(R):aa defs (n+1) 7 [.val (ofR R)]=some (.bl (decide (R=[]))):=by
 rw[ae rfl rfl];cases R with
 |nil=>simp[kQ,exs,ex,ev,evs]
 |cons t R =>
  have:¬ ((R.length:Int)+1=0):=by omega
  simp[kQ,exs,ex,ev,evs,this]
noncomputable def cF:Option Int->PV
 |none=>.non
 |some i=>.int i
def vQ(x h:Int):(x==h)=decide (x=h):=rfl
noncomputable def drp(h:Int)(z:List Int):List Int:=z.filter λx=>!decide (x=h)
noncomputable def oA(h:Int)(R:LL):LL:=sortT (R.map (drp h))
def zQ(g:cM z):cM (drp h z):=⟨g.1.filter _,λx hx=>g.2 x (JG.mp hx).1⟩
def xc{R:LL}(g:ay R):ay (oA h R):=by
 refine⟨λU z=>?_,sortT_rises _,by unfold oA;rw[sortT_len,tf];exact g.2.2⟩;obtain⟨t,J,rfl⟩:=mem_map.mp (eQ.mp z);exact zQ (g.1 t J)
def lL(n)(z)(h)(J:z.length<=10000):aa defs (n+1) 2 [.val (ofS z),.val (.int h)]=some (ofS (drp h z)):=by
 rw[ae (d:=d9) rfl rfl];simp[d9,exs,ex,ev,evs,J];rw[b8 (p:=λx=>!decide (x=h)) (h:=PV.int)]
 .simp[drp]
 .intro x _;simp[bC,vQ]
 .intro x _ _;simp[bC]
def xg(n)(R)(h)(g:ay R):aa defs (n+2) 3 [.val (ofR R),.val (.int h)]=some (ofR (oA h R)):=by
 rw[ae (d:=kP) rfl rfl];have J:R.length<=10000:=by have:=g.2.2;omega
 simp[kP,exs,ex,ev,evs,J];rw[gQ (h:=λU=>ofS (drp h U))]
 .have e:(R.map λc=>ofS (drp h c))=(R.map (drp h)).map ofS:=by rw[ID];rfl
  have z:(R.map (drp h)).length<64:=by rw[tf];have:=g.2.2;omega
  rw[e];simp[-List.map_map,gp z,oA]
 .intro c _;simp[ev]
 .intro c hc;have J:=aA (g.1 c hc);simp[ev,evA,bC,lL n c h (by omega)]
def xh(h)(R):(oA h R).flatten.length<=R.flatten.length:=by
 have p:(oA h R).flatten.length=(R.map _).flatten.length:=((sortT_perm (R.map _)).flatten).length_eq;rw[p]
 induction R with
 |nil=>exact pe _
 |cons s R ih =>
  rw[IG,flatten_cons,flatten_cons,IC,IC];have:(drp h s).length<=s.length:=KI _ _;have:=ih (by exact((sortT_perm _).flatten).length_eq);omega
noncomputable def bhd(h:Bool)(R:LL):Option Int->LL
 |none=>R
 |some k=>if h=true then fq k R else oA k R
def gG{R:LL}(g:ay R)(r):ay (bhd h R r):=by
 cases r<;>first|exact g|cases h with|true=>exact kX g|false=>exact xc g
def qz(n)(h):aa defs (n+1) 8 [.val (.str (af h))]=some (.str (af (!h))):=by
 rw[ae rfl rfl];cases h<;>simp[jX,exs,ex,ev,qx,af]
def nK(n)(R)(g:ay R)(h)(r):aa defs (n+3) 9 [.val (ofR R),.val (.str (af h)),.val (cF r)]=some (ofR (bhd h R r)):=by
 rw[ae (d:=jY) rfl rfl];cases r with
 |none=>simp[jY,exs,ex,ev,evB,cF,bhd,mN]
 |some k =>
  have z:=xg n R k g;have J:=λn=>sj n R k (by have:=g.2.2;omega)
  cases h<;>simp[jY,exs,ex,ev,evB,evA,cF,bhd,qx,af,mN,z,J]
def j_(h)(R)(r):(bhd h R r).flatten.length<=R.flatten.length:=by
 cases r with
 |none=>exact pe _
 |some k=>cases h with|true=>exact pw k R|false=>exact xh k R
def gM {R:PV} (h:aa defs n 29 [.val v,.val R,.val (.str t)]=some r):aa defs (n+1) 28 [.val v,.val R,.val (.str t),.val (.str "moth")]=some r:=
  cB rfl (ac rfl h)
def gW {R:PV} (h:aa defs n 30 [.val v,.val R,.val (.str t)]=some r):aa defs (n+1) 28 [.val v,.val R,.val (.str t),.val (.str "weaver")]=some r:=
  aD rfl (fg (ac rfl h))
def E7 (n) (R) (t h):aa defs (n+3) 28 [.val (.tup [.str "bare"]),.val (ofR R),.val (.str (af t)),.val (.str (af h))]=some (.bl (h&&decide (R=[]))):=by
 cases h
 .refine gW ?_;cases t<;>rfl
 .refine gM ?_;rw[ae rfl rfl];exact aL rfl (cB rfl (ac rfl (xb n R)))
def BO (n) (R) (t h):aa defs (n+3) 28 [.val (.tup [.str "whole"]),.val (ofR R),.val (.str (af t)),.val (.str (af h))]=some (.bl (!h&&decide ([]∈R))):=by
 cases h
 .refine gW ?_;exact aL rfl (cB rfl (ac rfl (jw n R)))
 .refine gM ?_;cases t<;>rfl
noncomputable def zR(R:LL)(M:Int)(t h:Bool):Bool:=
 if h=true then(if t=true then decide ((R.map wgt).sum<1152921504606846976)else decide ((R.map wgt).sum+M<1152921504606846976))
 else(if t=true then decide ([]∈R)||(hv R&&(ab R).all λh=>hv (fq h R))else hv R)
def zS (n) (R) (g:ay R) (U:R.flatten.length<=1000) (Y:Top R M) (t h):aa defs (n+6) 28 [.val (.tup [.str "weight"]),.val (ofR R),.val (.str (af t)),.val (.str (af h))]=some (.bl (zR R M t h)):=by
 cases h
 .obtain⟨z,J⟩:=lK n R g U;refine gW ?_;rw[ae (d:=bm) rfl rfl];refine aL rfl (aD rfl (cB rfl (ac rfl ?_)));cases t
  .exact z
  .exact J
 .obtain⟨N,Z,z,J⟩:=ou n R g;rw[sh Z Y]at z;refine gM ?_;rw[ae (d:=bT) rfl rfl];refine aL rfl (aD rfl (cB rfl (ac rfl ?_)));cases t
  .exact z
  .exact J
def BP (n) (R P) (z:OkP P) (J:P.length<=60) (g:ay R) (t h):aa defs (n+5) 28 [.val (.tup [.str "pairs",ofR P]),.val (ofR R),.val (.str (af t)),.val (.str (af h))]=some (.bl (h&&!t&&nv P R)):=by
 cases h
 .refine gW ?_;rw[ae rfl rfl];cases t<;>rfl
 .refine gM ?_;cases t
  .exact aL rfl (aD rfl (aD rfl (aD rfl (cB rfl (ac rfl (qv n _ P R rfl z J g.1 g.2.2))))))
  .rfl
def E8{R:LL}(g:ay R)(k)(r)(t h)(J:aa defs (n+3) 28 [.val p,.val (ofR (bhd k R r)),.val (.str (af (!k))),.val (.str (af k))]=some (.bl b)) :
  aa defs (n+6) 28 [.val (.tup [.str (if k=true then "bite" else "knot"),cF r,p]),.val (ofR R),.val (.str (af t)),.val (.str (af h))]=some (.bl ((h==k)&&(t==k)&&b)):=by
 have z:aa defs (n+4) 31 [.val (.tup [.str (if k=true then "bite" else "knot"),cF r,p]),.val (ofR R),.val (.str (af k))]=some (.bl b):=by
  rw[ae (d:=iD) rfl rfl];exact fg (ac (vO rfl (fU (ac rfl (nK n R g k r)) (fU (ac rfl (qz (n+2) k)) rfl))) J)
 cases h
 .refine gW ?_;rw[ae (d:=bm) rfl rfl];cases k<;>cases t<;>first|rfl|exact aL rfl (aD rfl (aD rfl (aD rfl (cB rfl (bF rfl λ_=>ac rfl z)))))
 .refine gM ?_;rw[ae (d:=bT) rfl rfl];cases k<;>cases t<;>first|rfl|exact aL rfl (aD rfl (aD rfl (cB rfl (bF rfl λ_=>ac rfl z))))
def E9 (n) (R) (t h):aa defs (n+1) 63 [.val (.tup [.str "bare"]),.val (ofR R),.val (.str (af t)),.val (.str (af h))]=some (.bl (h&&decide (R=[]))):=by
 rw[ae rfl rfl];have q:(((R.length:Int))==0)=decide (R=[]):=by
  rw[IT,IE,Jc,<- Kk];omega
 cases h<;>simp[jv,exs,ex,ev,evs,evB,place,qx,af,q]
def BQ (n) (R) (t h):aa defs (n+1) 63 [.val (.tup [.str "whole"]),.val (ofR R),.val (.str (af t)),.val (.str (af h))]=some (.bl (!h&&decide ([]∈R))):=by
 cases h
 .exact aL rfl (aD rfl (cB rfl (bF rfl λ_=>um (iA [] R) rfl rfl)))
 .rfl
def zT (n) (R) (g:ay R) (z:Top R M) (t h):aa defs (n+4) 63 [.val (.tup [.str "weight"]),.val (ofR R),.val (.str (af t)),.val (.str (af h))]=some (.bl (zR R M t h)):=by
 rw[ae (d:=jv) rfl rfl];obtain⟨J,U⟩:=BN (n+1) R g z;obtain⟨Y,Z⟩:=xa n R g;cases h
 .refine aL rfl (aD rfl (aD rfl (aD rfl (cB rfl (ac rfl ?_)))));cases t
  .exact Y
  .exact Z
 .refine aL rfl (aD rfl (aD rfl (cB rfl (ac rfl ?_))));cases t
  .exact J
  .exact U
def BR (n) (R P) (z:OkP P) (J:P.length<=60) (U:R.length<=60) (t h):aa defs (n+3) 63 [.val (.tup [.str "pairs",ofR P]),.val (ofR R),.val (.str (af t)),.val (.str (af h))]=some (.bl (h&&!t&&nv P R)):=by
 rw[ae rfl rfl];cases h<;>cases t<;>first|rfl|exact aL rfl (aD rfl (aD rfl (aD rfl (aD rfl (fg (bF rfl λ_=>bF (p:=true) (q:=nv P R) rfl λ_=>ac rfl (zH n P R z J U)))))))
def Hm(v:PV)(R:LL)(t h:Bool)(b:Bool):Prop:=∀n,aa defs (n+6) 28 [.val v,.val (ofR R),.val (.str (af t)),.val (.str (af h))]=some (.bl b)/\aa defs (n+6) 63 [.val v,.val (ofR R),.val (.str (af t)),.val (.str (af h))]=some (.bl b)
def uo(hv:nw v)(R)(g:ay R)(Y:R.flatten.length<=1000)(t h):∃b,Hm v R t h b:=by
 rcases hv with rfl|rfl|rfl|⟨P,z,J,rfl⟩
 .exact⟨_,λn=>⟨E7 (n+3) R t h,E9 (n+5) R t h⟩⟩
 .exact⟨_,λn=>⟨BO (n+3) R t h,BQ (n+5) R t h⟩⟩
 .obtain⟨M,_,U⟩:=nD 30 R g;exact⟨_,λn=>⟨zS n R g Y U t h,zT (n+2) R g U t h⟩⟩
 .exact⟨_,λn=>⟨BP (n+1) R P z J g t h,BR (n+3) R P z J g.2.2 t h⟩⟩
def vR(n)(Rs:List (LL))(J:∀R∈Rs,(∀t∈R,cM t)/\R.flatten.length<=1000)(hl:Rs.length<=16):aa defs (n+3) 18 [.val (.lst (Rs.map ofR))]=some (.bl (decide (Rs.map ab).flatten.Nodup)):=by
 rw[ae (d:=lm) rfl rfl];have Y:∀Rs:List (LL),(∀R∈Rs,(∀t∈R,cM t)/\R.flatten.length<=1000)->(Rs.map ab).flatten.length<=60*Rs.length:=λRs=>by
  induction Rs with
  |nil=>intro _;simp
  |cons R Rs ih =>
   intro J;have h1:=aA (aP (J R (.head _)).1);have h2:=ih λR U=>J R (.tail _ U)
   rw[IG,flatten_cons,IC,length_cons];omega
 have hF:=Y Rs J;have Z:ev (aa defs (n+2)) (.comp .seq [.bor 0] [] (.cst (.bl true)) (.call 5 [.bor 0])) [sv (.lst (Rs.map ofR))]=some (.lst ((Rs.map ab).map ofL)):=by
  refine(be (g:=ofR) (h:=λR=>ofL (ab R)) (vs:=[.lst (Rs.map ofR)]) (by simp[evs,ev]) rfl (by omega) λR U=>?_).trans (by rw[ID];rfl);exact ac (vs:=[.val (ofR R)]) (by simp[evA,bC]) (da n R (J R U).1 (J R U).2)
 have e1:=kW (n+1) (.val (.lst ((Rs.map ab).map ofL))) (λ_ z=>by cases z) (Rs.map ab) ofL (λ_=>rfl) rfl (by omega);have e2:=zG (n+1) (Rs.map ab).flatten (by omega);show aQ (exs (aa defs (n+2)) [.ret _] [sv (.lst (Rs.map ofR))])=_;rw[ag,bw (gE (λ_ z=>by cases z) (gE (λ_ z=>by cases z) Z e1) e2)]
 rfl
def BS(h:cM t):(dd t).length<=60:=by rw[Cv (jW h.1)];exact aA h
noncomputable def uq:Option Nat->PV
 |none=>.non
 |some i=>.int i
noncomputable def qA(s:List Int)(R:LL):Option Nat:=R.findIdx? λt=>sub t s
theorem nL(n)(s)(a b)(hs:s.length<=1000)(Y:a=sv (ofS s)):∀R k x y,(∀t∈R,cM t) ->
  (∀i,qA s R=some i->aw (λx l=>cA (cW [2,3] x l) λz=>exs (aa defs (n+1)) bE z) (bG k (R.map ofS)) [a,b,x,y]=.ret (.int ((k+i:Nat):Int))) /\
  (qA s R=none->∃Z y',aw (λx l=>cA (cW [2,3] x l) λz=>exs (aa defs (n+1)) bE z) (bG k (R.map ofS)) [a,b,x,y]=.next [a,b,Z,y'])
 | [],k,x,y,_=>⟨λi h=>(by cases h),λ_=>⟨x,y,rfl⟩⟩
 |t::R,k,x,y,h=>by
  subst Y;have e:=kU n (.val (ofS s)) (.val (ofS t)) s t rfl rfl hs (by have:=aA (h t (.head _));omega) (BS (h t (.head _)));rw[IG,bG,aw];unfold qA;rw[findIdx?_cons];cases U:sub t s with
  |true =>
   rw[U]at e;have J:(cA (cW [2,3] (.tup [.int (k:Nat),ofS t]) [sv (ofS s),b,x,y]) λz=>exs (aa defs (n+1)) bE z)=.ret (.int (k:Nat)):=by
    simp[cW,mP,bE,exs,ex,ev,evs,evB,evA,e]
   rw[J];exact⟨λi hi=>(by simp at hi;subst hi;rfl),λhi=>(by simp at hi)⟩
  |false =>
   rw[U]at e;have J:(cA (cW [2,3] (.tup [.int (k:Nat),ofS t]) [sv (ofS s),b,x,y]) λz=>exs (aa defs (n+1)) bE z)=.next [sv (ofS s),b,sv (.int (k:Nat)),sv (ofS t)]:=by
    simp[cW,mP,bE,exs,ex,ev,evs,evB,evA,e]
   rw[J];obtain⟨h1,h2⟩:=nL n s (sv (ofS s)) b hs rfl R (k+1) (sv (.int (k:Nat))) (sv (ofS t)) λu hu=>h u (.tail _ hu)
   constructor
   .intro i hi;simp only[IK,Jz,ti]at hi;obtain⟨j,hj,rfl⟩:=hi;rw[show k+(j+1)=k+1+j by omega];exact h1 j hj
   .intro hi;simp only[IK,Jz,map_eq_none_iff]at hi;exact h2 hi
def BT(n)(s)(R)(hs:s.length<=1000)(g:∀t∈R,cM t):aa defs (n+2) 12 [.val (ofS s),.val (ofR R)]=some (uq (qA s R)):=by
 rw[ae (d:=dJ) rfl rfl];obtain⟨h1,h2⟩:=nL n s (sv (ofS s)) (sv (ofR R)) hs rfl R 0 none none g;cases hf:qA s R with
 |some i =>
  have e:=h1 i hf;rw[JY]at e;simp[dJ,exs,ex,ev,evs,aW,bh,e,uq]
 |none =>
  obtain⟨z,J,e⟩:=h2 hf;simp[dJ,exs,ex,ev,evs,aW,bh,e,uq,aJ]
noncomputable def zU(A B:LL):List (Option Nat):=A.map λs=>qA s B
def xi(n)(A B)(z:ay A)(J:ay B):aa defs (n+3) 13 [.val (ofR A),.val (ofR B)]=some (.lst ((zU A B).map uq)):=by
 rw[ae (d:=kS) rfl rfl];have U:A.length<=10000:=by have:=z.2.2;omega
 simp[kS,exs,ex,ev,evs,U];rw[gQ (h:=λs=>uq (qA s B))]
 .simp[zU]
 .intro c _;simp[ev]
 .intro c hc;simp[ev,evA,bC,BT n c B (by have:=aA (z.1 c hc);omega) J.1]
theorem sw:∀F:List (Option Nat),isIn .non (F.map uq)=some (decide (none∈F))
 | []=>rfl
 |o::F=>by
  have ih:=sw F;unfold isIn at ih ⊢;rw[IG,inL,ih];cases o<;>simp[uq,show ∀v,eqF 100 (.int v) .non=some false from λ_=>rfl,show eqF 100 PV.non .non=some true from rfl]
noncomputable def below(A B:LL):Bool:=decide (none∉zU A B)
def g_(n)(A B)(z:ay A)(J:ay B):aa defs (n+4) 14 [.val (ofR A),.val (ofR B)]=some (.bl (below A B)):=by
 rw[ae (d:=ju) rfl rfl];simp[ju,exs,ex,ev,evs,evA,xi n A B z J,sw,below]
def BU {A R:LL} (z:ay A) (g:ay R) (t h) (J:aa defs (n+4) 28 [.val p,.val (ofR A),.val (.str (af t)),.val (.str "weaver")]=some (.bl x)) :
  aa defs (n+6) 28 [.val (.tup [.str "fewer",ofR A,p]),.val (ofR R),.val (.str (af t)),.val (.str (af h))]=some (.bl (!h&&below A R&&x)):=by
 cases h
 .refine gW ?_;exact aL rfl (aD rfl (aD rfl (cB rfl (bF (ac rfl (g_ n A R z g)) λ_=>ac rfl J))))
 .refine gM ?_;cases t<;>rfl
def zV{A B R:LL}(U:ay A)(Y:ay B)(g:ay R)(fA:A.flatten.length<=1000)(fB:B.flatten.length<=1000)(t h)
  (hp:aa defs (n+4) 28 [.val p,.val (ofR A),.val (.str "weaver"),.val (.str "weaver")]=some (.bl x)) (hq:aa defs (n+4) 28 [.val q,.val (ofR B),.val (.str "weaver"),.val (.str "weaver")]=some (.bl y)) :
  aa defs (n+7) 28 [.val (.tup [.str "either",ofR A,p,ofR B,q]),.val (ofR R),.val (.str (af t)),.val (.str (af h))]=some (.bl (!h&&t&&(decide (ab A++ab B).Nodup&&below A R&&below B R&&(x&&y)))):=by
 cases h with
 |true =>
  refine gM ?_;rw[ae (d:=bT) rfl rfl];cases t<;>rfl
 |false =>
  refine gW ?_;cases t with
  |false =>
   rw[ae (d:=bm) rfl rfl]
   rfl
  |true =>
   have J:=vR (n+1) [A,B] (λR z=>by
    rcases IB.mp z with rfl|z
    .exact⟨U.1,fA⟩
    .rcases IB.mp z with rfl|z
     .exact⟨Y.1,fB⟩
     .cases z) (by simp)
   simp only[IG,map_nil,flatten_cons,flatten_nil,JD]at J;have Z:=g_ n A R U g;have e2:=g_ n B R Y g;have e3:aa defs (n+5) 35 [.val (.tup [.str "either",ofR A,p,ofR B,q]),.val (ofR R)]=some (.bl (decide (ab A++ab B).Nodup&&below A R&&below B R&&(x&&y))):=by
    rw[ae (d:=gx) rfl rfl];generalize decide (ab A++ab B).Nodup=b0 at J ⊢;generalize below A R=b1 at Z ⊢;generalize below B R=b2 at e2 ⊢;refine(aL rfl (aL rfl (Ir (sr (sk (ac rfl J)) λ_=>sr (sk (ac rfl Z)) λ_=>sk (ac rfl e2)) rfl λ_=>fg (bF (ac rfl hp) λ_=>ac rfl hq)))).trans ?_;cases b0<;>cases b1<;>cases b2<;>rfl
   rw[ae (d:=bm) rfl rfl];exact aL rfl (aD rfl (aD rfl (aD rfl (aD rfl (aD rfl (cB rfl (ac rfl e3)))))))
noncomputable def a_(r:Int×Option Int×PV):PV:=.tup [.int r.1,cF r.2.1,r.2.2]
noncomputable def bh2(h:Bool)(R:LL)(a:Int)(r:Option Int):LL:=bhd h (bhd (!h) R (some a)) r
def zW{R:LL}(g:ay R)(a)(r):ay (bh2 h R a r):=gG (gG g _) _
def BV(n)(R)(g:ay R)(h)(a)(r):aa defs (n+4) 10 [.val (ofR R),.val (.str (af h)),.val (.int a),.val (cF r)]=some (ofR (bh2 h R a r)):=by
 rw[ae (d:=i_) rfl rfl];exact fg (ac (fU (ac (Hl rfl (fU (ac rfl (qz (n+2) h)) rfl)) (nK n R g (!h) (some a))) rfl) (nK n _ (gG g _) h r))
theorem nM(n)(R)(g:ay R)(h)(U)(b):∀(z:List (Int×Option Int×PV)),(∀r∈z,aa defs (n+4) 28 [.val r.2.2,.val (ofR (bh2 h R r.1 r.2.1)),.val (.str (af (!h))),.val (.str (af h))]=some (.bl (b r)))->∀Y Z x5,
  (z.all b=true/\∃y3 y4 y5,aw (λx l=>cA (cW [3,4,5] x l) λJ=>exs (aa defs (n+4)) aN J) (z.map a_) [U,sv (ofR R),sv (.str (af h)),Y,Z,x5]=.next [U,sv (ofR R),sv (.str (af h)),y3,y4,y5]) \/
  (z.all b=false/\aw (λx l=>cA (cW [3,4,5] x l) λJ=>exs (aa defs (n+4)) aN J) (z.map a_) [U,sv (ofR R),sv (.str (af h)),Y,Z,x5]=.ret (.bl false))
 | [],_,Y,Z,x5=>.inl ⟨rfl,Y,Z,x5,rfl⟩
 |r::z,hr,Y,Z,x5=>by
  have e1:=hr r (.head _);have e2:=BV n R g h r.1 r.2.1;have e3:=qz (n+3) h;have turn:∀k,(cA (cW [3,4,5] (a_ r) [U,sv (ofR R),sv (.str (af h)),Y,Z,x5]) k)=k [U,sv (ofR R),sv (.str (af h)),sv (.int r.1),sv (cF r.2.1),sv r.2.2]:=λk=>rfl
  rw[IG,all_cons];cases hb:b r with
  |false =>
   rw[hb]at e1;refine .inr ⟨rfl,?_⟩;rw[aw,turn,show exs (aa defs (n+4)) aN [U,sv (ofR R),sv (.str (af h)),sv (.int r.1),sv (cF r.2.1),sv r.2.2]=.ret (.bl false)from by simp[aN,exs,ex,ev,evB,evA,e1,e2,e3]]
  |true =>
   rw[hb]at e1;have eb:exs (aa defs (n+4)) aN [U,sv (ofR R),sv (.str (af h)),sv (.int r.1),sv (cF r.2.1),sv r.2.2]=.next [U,sv (ofR R),sv (.str (af h)),sv (.int r.1),sv (cF r.2.1),sv r.2.2]:=by simp[aN,exs,ex,ev,evB,evA,e1,e2,e3]
   have st:=g6 (body:=λx l=>cA (cW [3,4,5] x l) λJ=>exs (aa defs (n+4)) aN J) (x:=a_ r) (xs:=z.map a_) ((turn _).trans eb);rw[st,J4];exact nM n R g h U b z (λr aO=>hr r (.tail _ aO)) _ _ _
def Hn(a b):cK .ne (ofL a) (ofL b)=some (!decide (a=b)):=by
 rw[EW,if_pos (show re _ _=true from rfl),G4]
 rfl
def BW(n)(R)(g:ay R)(U:R.flatten.length<=1000)(h:Bool)(b:Int×Option Int×PV->Bool)(z:List (Int×Option Int×PV))(Y:z.length<=10000)(Z:∀r∈z,aa defs (n+4) 28 [.val r.2.2,.val (ofR (bh2 h R r.1 r.2.1)),.val (.str (af (!h))),.val (.str (af h))]=some (.bl (b r))) :
  aa defs (n+5) 32 [.val (.tup (z.map a_)),.val (ofR R),.val (.str (af h))]=some (.bl (decide (z.map (·.1)=ab R)&&z.all b)):=by
 rw[ae (d:=gu) rfl rfl];have c1:∀W:Rho,ev (aa defs (n+4)) (.comp .seq [.bor 0] [] (.cst (.bl true)) (.idx (.bor 0) (ci 0))) (sv (.tup (z.map a_))::W)=some (ofL (z.map (·.1))):=λW=>by
  refine(be (g:=a_) (h:=λr=>.int r.1) (vs:=[.tup (z.map a_)]) (by simp[evs,ev]) rfl Y λr _=>?_).trans (by unfold ofL;rw[ID];rfl);simp[ev,place,bC,a_]
 have e1:ev (aa defs (n+4)) (.cmp .ne (.comp .seq [.bor 0] [] (.cst (.bl true)) (.idx (.bor 0) (ci 0))) (.call 5 [.bor 1])) [sv (.tup (z.map a_)),sv (ofR R),sv (.str (af h)),none,none,none]=some (.bl (!decide (z.map (·.1)=ab R))):=by
  rw[cD (c1 _) (ac (vs:=[.val (ofR R)]) (by simp[evA]) (da (n+2) R g.1 U)),Hn]
  rfl
 show aQ (exs (aa defs (n+4)) [.ite _ [.ret _] [],.forT [3,4,5] .seq [.bor 0] aN,.ret _] [sv (.tup (z.map a_)),sv (ofR R),sv (.str (af h)),none,none,none])=_;rw[ag,ex,kT e1,b9];cases decide (z.map (·.1)=ab R)with
 |false=>rfl
 |true =>
  rw[J3,if_neg (by decide),exs,au,ag,qr (xs:=z.map a_) (by simp[evs,ev]),J4];show aQ ((MM.R.back _ _ (aw _ _ [sv (.tup (z.map a_)),sv (ofR R),sv (.str (af h)),none,none,none])).andThen _)=_;rcases nM n R g h (sv (.tup (z.map a_))) b z Z none none none with⟨J,y3,y4,y5,e⟩|⟨J,e⟩
  .rw[e,J,bS,au,ag,bw (fc _ _ _)]
   rfl
  .rw[e,J]
   rfl
def BX{R:LL}(g:ay R)(Z:R.flatten.length<=1000)(h){J:List (Int×Option Int×PV)}(hl:J.length<=10000)(hr:∀r∈J,aa defs (n+4) 28 [.val r.2.2,.val (ofR (bh2 h R r.1 r.2.1)),.val (.str (af (!h))),.val (.str (af h))]=some (.bl (b r))) :
  aa defs (n+7) 28 [.val (.tup [.str "cases",.tup (J.map a_)]),.val (ofR R),.val (.str (af (!h))),.val (.str (af h))]=some (.bl ((if h=true then !decide ([]∈R)else !decide (ab R=[]))&&(decide (J.map (·.1)=ab R)&&J.all b))):=by
 have U:=BW n R g Z h b J hl hr;generalize J.all b=y at U ⊢;generalize decide (J.map (·.1)=ab R)=z at U ⊢;generalize J.map a_=V at U ⊢;cases h with
 |true =>
  refine gM ?_;rw[ae (d:=bT) rfl rfl];have Y:=jw (n+4) R;exact aL rfl (aD rfl (aD rfl (aD rfl (aD rfl (cB rfl (bF (sk (ac rfl Y)) λ_=>ac rfl U))))))
 |false =>
  refine gW ?_;rw[ae (d:=bm) rfl rfl];have Y:=da (n+3) R g.1 Z;have hz:decide ((0:Int)<((ab R).map PV.int).length)=!decide (ab R=[]):=by
   cases ab R<;>simp
  refine(aL rfl (aD rfl (aD rfl (aD rfl (aD rfl (cB rfl (bF ((cD (aB (ac rfl Y)) rfl).trans rfl) λ_=>ac rfl U))))))).trans ?_;rw[hz]
  rfl
def ur (n) (R V) (h):aa defs (n+3) 28 [.val (.tup [.str "cases",V]),.val R,.val (.str (af h)),.val (.str (af h))]=some (.bl false):=by
 cases h
 .refine gW ?_
  rfl
 .refine gM ?_
  rfl
def xj{R:LL}(h:∃t∈R,sub t s=true):qA s R≠none:=λz=>by
 obtain⟨t,J,q⟩:=h;have:=findIdx?_eq_none_iff.mp z t J
 simp_all
def zX(h:∀s∈A,∃t∈B,sub t s=true):below A B=true:=by
 unfold below zU;rw[Jc,mem_map];rintro ⟨s,hs,e⟩;exact xj (h s hs) e
noncomputable def iY(A R:LL):Bool:=A.all λs=>R.any λo=>sub o s
def pA(n)(A R)(v)(hv:aX v=some (R.map ofS))(z:R.length<=10000):aa defs (n+2) 55 [.val (ofR A),.val v]=some (.bl (iY A R)):=by
 rw[ae (d:=lu) rfl rfl];have key:=g5 (g:=ofS) (xs:=A) (body:=λx l=>exs (aa defs (n+1)) dO (put l 2 (.val x))) (I:=λW=>∃kk,W=[sv (ofR A),sv v,kk]) (p:=λs=>!R.any λo=>sub o s) (r:=λ_=>.bl false)
  (W:=[sv (ofR A),sv v,none]) ⟨_,rfl⟩ (by
   rintro s hs W ⟨kk,rfl⟩;have J:ev (aa defs (n+1)) (.comp .seq [.bor 1] [2] (.cst (.bl true)) (.call 41 [.bor 0,.bor 1])) [sv (ofR A),sv v,sv (ofS s)]=some (.lst ((R.map λo=>sub o s).map .bl)):=by
    rw[ID];refine be (vs:=[v]) (g:=ofS) (by simp[evs,ev]) (by simp[aW,hv]) z λo _=>?_
    exact ac (vs:=[.val (ofS o),.val (ofS s)]) (by simp[evA,bC]) (ny n o s)
   have U:ev (aa defs (n+1)) (.not (.blt .any [(.comp .seq [.bor 1] [2] (.cst (.bl true)) (.call 41 [.bor 0,.bor 1]))])) [sv (ofR A),sv v,sv (ofS s)]=some (.bl (!R.any λo=>sub o s)):=by
    have:ev (aa defs (n+1)) (.blt .any [(.comp .seq [.bor 1] [2] (.cst (.bl true)) (.call 41 [.bor 0,.bor 1]))]) [sv (ofR A),sv v,sv (ofS s)]=some (.bl (R.any λo=>sub o s)):=by
     rw[aB J,iT,bD];simp
    rw[ev,this]
    rfl
   have st:exs (aa defs (n+1)) dO (put [sv (ofR A),sv v,kk] 2 (.val (ofS s)))=if (!R.any λo=>sub o s)=true then .ret (.bl false)else .next [sv (ofR A),sv v,sv (ofS s)]:=by
    show exs (aa defs (n+1)) [.ite _ [.ret _] []] [sv (ofR A),sv v,sv (ofS s)]=_;rw[ag,ex,kT U,b9];split
    .simp[exs,ex,ev]
    .simp[exs]
   exact⟨λh=>by rw[st,if_pos h],λh=>⟨_,⟨_,rfl⟩,by rw[st,if_neg (by rw[h];decide)]⟩⟩)
 show aQ (exs (aa defs (n+1)) [.for1 2 .seq [.bor 0] dO,.ret _] [sv (ofR A),sv v,none])=_;rw[ag,cx (xs:=A.map ofS) (by simp[evs,ev]),show bh [.bor 0] [sv (ofR A),sv v,none]=[sv (ofR A),sv v,none]from rfl];unfold iY;cases hf:A.find? (λs=>!R.any λo=>sub o s)with
 |some s =>
  rw[key.1 s hf];have:(A.all λs=>R.any λo=>sub o s)=false:=by
   cases q:A.all λs=>R.any λo=>sub o s with
   |false=>rfl
   |true =>
    have h1:=JQ.mp q s (Lv hf);have h2:=find?_some hf;rw[h1]at h2;cases h2
  rw[this]
  rfl
 |none =>
  obtain⟨l,⟨kk,rfl⟩,e⟩:=key.2 hf;have:(A.all λs=>R.any λo=>sub o s)=true:=JQ.mpr λs hs=>by
   have:=Li.mp hf s hs;simpa using this
  rw[e,this];simp[exs,ex,ev,aJ]
def sx(n)(A R)(z:R.length<=10000):aa defs (n+2) 55 [.val (ofR A),.val (ofR R)]=some (.bl (iY A R)):=pA n A R (ofR R) rfl z
def zY(h:below A B=true):∀s∈A,∃t∈B,sub t s=true:=λs hs=>by
 cases e:qA s B with
 |none =>
  unfold below zU at h;rw[Jc]at h;exact absurd (mem_map.mpr ⟨s,hs,e⟩) h
 |some k =>
  obtain⟨z,q,_⟩:=findIdx?_eq_some_iff_getElem.mp e;exact⟨_,LF z,q⟩
def hV(A R):iY A R=below A R:=by
 cases h:iY A R with
 |true=>exact(zX λs hs=>by
   obtain⟨o,ho,e⟩:=Jp.mp (JQ.mp h s hs);exact⟨o,ho,e⟩).symm
 |false =>
  cases h2:below A R with
  |false=>rfl
  |true =>
   have:iY A R=true:=JQ.mpr λs hs=>Jp.mpr (by
    obtain⟨o,ho,e⟩:=zY h2 s hs;exact⟨o,ho,e⟩)
   simp_all
def zZ(n)(ns)(k b)(z:0<=k)(r):ev (aa defs (n+2)) (.call 37 [(.call 36 [.bor 0,(ci k)]),(ci b)]) (some (.brw (ns.map .int))::r)=some (.int (iH (cellOf ns k) b)):=by
 have J:ev (aa defs (n+2)) (.call 36 [.bor 0,(ci k)]) (some (.brw (ns.map .int))::r)=some (.int _):=ac (vs:=[.brw _,.val _]) (by simp[evA,ev]) (E3 _ (.brw _) ns k rfl z);exact ac (vs:=[.val (.int _),.val _]) (by simp only[evA];rw[J];simp[ev]) (qp _ _ b)
def z6(h)(R)(a)(r):(bh2 h R a r).flatten.length<=R.flatten.length:=IH (j_ _ _ _) (j_ _ _ _)
theorem kZ{α z:Type}(f:α->z):∀(l:List α) k,(l.map f).eraseIdx k=(l.eraseIdx k).map f
 | [],_=>rfl
 | _::_,0=>rfl
 |x::l,k+1=>by simp[kZ f l k]
def jb(n)(R)(h)(g:ay R):aa defs (n+1) 38 [.val (ofR R),.val (.int h)]=some (ofR (oA h R)):=by
 rw[ae (d:=fQ) rfl rfl];have U:R.length<=10000:=by have:=g.2.2;omega
 simp[fQ,exs,ex,ev,evs,U];rw[gQ (h:=λY=>ofS (drp h Y))]
 .have e:(R.map λc=>ofS (drp h c))=(R.map (drp h)).map ofS:=by rw[ID];rfl
  have z:(R.map (drp h)).length<64:=by rw[tf];have:=g.2.2;omega
  rw[e];simp[-List.map_map,gp z,oA]
 .intro c _;simp[ev]
 .intro c hc;have U:=aA (g.1 c hc);have J:c.length<=10000:=by omega
  simp[ev,evs,evA,bC,J];rw[b8 (p:=λx=>!decide (x=h)) (h:=PV.int)]
  .simp[drp]
  .intro x _;simp[ev,bC,vQ]
  .intro x _ _;simp[ev,bC]
def ut (h):u6 [("weaver","moth"),("moth","weaver")] (.str (af h))=some (.str (af (!h))):=by
 cases h<;>rfl
def l7(n)(R)(g:ay R)(h)(r):aa defs (n+2) 47 [.val (ofR R),.val (.str (af h)),.val (cF r)]=some (ofR (bhd h R r)):=by
 rw[ae (d:=nt) rfl rfl];cases r with
 |none=>rfl
 |some i =>
  cases h
  .exact aD rfl (aD rfl (fg (ac rfl (jb n R i g))))
  .exact aD rfl (cB rfl (ac rfl (g9 n R i (by have:=g.2.2;omega))))
def E_{R:PV}(hv:nw v)(z:aa defs n 63 [.val v,.val R,.val (.str (af t)),.val (.str (af h))]=some (.bl b)):aa defs (n+1) 68 [.val v,.val R,.val (.str (af t)),.val (.str (af h))]=some (.bl b):=by
 rw[ae rfl rfl];rcases hv with rfl|rfl|rfl|⟨P,_,_,rfl⟩<;>exact aL rfl (cB rfl (ac rfl z))
def Fa{R:LL}(g:ay R)(k)(r)(t h)(z:aa defs (n+2) 68 [.val p,.val (ofR (bhd k R r)),.val (.str (af (!k))),.val (.str (af k))]=some (.bl b)) :
  aa defs (n+3) 68 [.val (.tup [.str (if k=true then "bite" else "knot"),cF r,p]),.val (ofR R),.val (.str (af t)),.val (.str (af h))]=some (.bl ((h==k)&&(t==k)&&b)):=by
 rw[ae rfl rfl];have J:=l7 n R g k r;cases k<;>cases h<;>cases t<;>first|rfl|exact aL rfl (aD rfl (sm rfl (ul rfl (cI rfl (iI (ac (vO rfl (fU (ac rfl J) rfl)) z))))))
def BY {A R:LL} (g:ay R) (t h) (z:aa defs (n+2) 68 [.val p,.val (ofR A),.val (.str (af t)),.val (.str "weaver")]=some (.bl x)) :
  aa defs (n+3) 68 [.val (.tup [.str "fewer",ofR A,p]),.val (ofR R),.val (.str (af t)),.val (.str (af h))]=some (.bl (!h&&below A R&&x)):=by
 rw[ae rfl rfl];have e:=sx n A R (by have:=g.2.2;omega);rw[hV]at e;cases h
 .exact aL rfl (aD rfl (aD rfl (cB rfl (bF (p:=true) rfl λ_=>bF (ac rfl e) λ_=>ac rfl z))))
 .rfl
theorem nO(n)(R)(g:ay R)(h)(U)(b):∀(J:List (Int×Option Int×PV)),(∀r∈J,aa defs (n+2) 68 [.val r.2.2,.val (ofR (bh2 h R r.1 r.2.1)),.val (.str (af (!h))),.val (.str (af h))]=some (.bl (b r)))->∀Y Z,
  (J.all b=true->∃y4 y5,aw (λx l=>exs (aa defs (n+2)) bZ (put l 4 (.val x))) (J.map a_) [U,sv (ofR R),sv (.str (af h)),sv (.str (af (!h))),Y,Z]=.next [U,sv (ofR R),sv (.str (af h)),sv (.str (af (!h))),y4,y5]) /\
  (J.all b=false->aw (λx l=>exs (aa defs (n+2)) bZ (put l 4 (.val x))) (J.map a_) [U,sv (ofR R),sv (.str (af h)),sv (.str (af (!h))),Y,Z]=.ret (.bl false))
 | [],_,Y,Z=>⟨λ_=>⟨Y,Z,rfl⟩,λz=>by cases z⟩
 |r::J,hr,Y,Z=>by
  have e0:=hr r (.head _);have e1:=l7 n R g (!h) (some r.1);have e2:=l7 n (bhd (!h) R (some r.1)) (gG g _) h r.2.1;have e3:exs (aa defs (n+2)) bZ (put [U,sv (ofR R),sv (.str (af h)),sv (.str (af (!h))),Y,Z] 4 (.val (a_ r)))=if b r=true then .next [U,sv (ofR R),sv (.str (af h)),sv (.str (af (!h))),sv (a_ r),sv (ofR (bh2 h R r.1 r.2.1))]else .ret (.bl false):=by
   simp only[cF]at e1;unfold bh2 at e0 ⊢;cases hb:b r<;>rw[hb]at e0<;>simp[bZ,a_,exs,ex,ev,evs,evB,evA,place,e0,e1,e2]
  rw[IG,aw,e3,all_cons];obtain⟨i1,i2⟩:=nO n R g h U b J (λq hq=>hr q (.tail _ hq)) (sv (a_ r)) (sv (ofR (bh2 h R r.1 r.2.1)));cases hb:b r<;>first|exact⟨λz=>(by cases z),λ_=>rfl⟩|exact⟨λz=>i1 z,λz=>i2 z⟩
def BZ(n)(R)(g:ay R)(h:Bool)(b:Int×Option Int×PV->Bool)(z:List (Int×Option Int×PV))(Y:z.length<=10000)(Z:∀r∈z,aa defs (n+2) 68 [.val r.2.2,.val (ofR (bh2 h R r.1 r.2.1)),.val (.str (af (!h))),.val (.str (af h))]=some (.bl (b r))) :
  aa defs (n+3) 65 [.val (.tup (z.map a_)),.val (ofR R),.val (.str (af h))]=some (.bl (decide (z.map (·.1)=ab R)&&z.all b)):=by
 rw[ae (d:=ic) rfl rfl];have e1:=cQ (n+1) R g.1;have e2:=ut h;have ec:ev (aa defs (n+2)) (.comp .seq [.bor 0] [] (.cst (.bl true)) (.idx (.bor 0) (ci 0))) [sv (.tup (z.map a_)),sv (ofR R),sv (.str (af h)),sv (.str (af (!h))),none,none]=some (ofL (z.map (·.1))):=by
  rw[show ofL (z.map (·.1))=.lst (z.map λr=>.int r.1)from by simp[ofL,Function.comp_def]];exact be (vs:=[.tup (z.map a_)]) (xs:=z) (g:=a_) (by simp[evs,ev]) (by simp[aW]) Y λr _=>by simp[ev,a_,place,bC]
 refine aL (W:=[sv (.tup (z.map a_)),sv (ofR R),sv (.str (af h)),none,none,none]) (v:=.str (af (!h))) (by simp[ev,e2]) ?_;simp only[bi,bj];have J:ev (aa defs (n+2)) (.cmp .ne (.comp .seq [.bor 0] [] (.cst (.bl true)) (.idx (.bor 0) (ci 0))) (.call 40 [.bor 1])) [sv (.tup (z.map a_)),sv (ofR R),sv (.str (af h)),sv (.str (af (!h))),none,none]=some (.bl (!decide (z.map (·.1)=ab R))):=by
  rw[cD ec (ac (vs:=[.val (ofR R)]) (by simp[evA]) e1),Hn]
  rfl
 cases hd:decide (z.map (·.1)=ab R)with
 |false =>
  rw[hd]at J;show aQ (exs _ (.ite _ _ _::_) _)=_;rw[ag,aY J,if_pos (by decide)];simp[exs,ex,ev]
 |true =>
  rw[hd]at J;show aQ (exs _ (.ite _ _ _::_) _)=_;rw[ag,aY J,if_neg (by decide),exs,au];obtain⟨i1,i2⟩:=nO n R g h (sv (.tup (z.map a_))) b z Z none none;show aQ (exs _ [.for1 _ _ _ _,.ret _] _)=_;rw[ag,cx (xs:=z.map a_) (by simp[evs,ev,aW])];rw[show bh [ME.bor 0] [some (MV.val (.tup (z.map a_))),sv (ofR R),sv (.str (af h)),sv (.str (af (!h))),none,none]=[sv (.tup (z.map a_)),sv (ofR R),sv (.str (af h)),sv (.str (af (!h))),none,none]from rfl];cases U:z.all b with
  |false =>
   rw[i2 U]
   rfl
  |true =>
   obtain⟨y4,y5,e⟩:=i1 U;rw[e];simp[bS,aJ,exs,ex,ev]
def B0{R:LL}(g:ay R)(h){J:List (Int×Option Int×PV)}(hl:J.length<=10000)(hr:∀r∈J,aa defs (n+2) 68 [.val r.2.2,.val (ofR (bh2 h R r.1 r.2.1)),.val (.str (af (!h))),.val (.str (af h))]=some (.bl (b r))) :
  aa defs (n+4) 68 [.val (.tup [.str "cases",.tup (J.map a_)]),.val (ofR R),.val (.str (af (!h))),.val (.str (af h))]=some (.bl ((if h=true then !decide ([]∈R)else !decide (ab R=[]))&&(decide (J.map (·.1)=ab R)&&J.all b))):=by
 have U:=BZ n R g h b J hl hr;have e2:=cQ (n+2) R g.1;generalize J.all b=y at U ⊢;generalize decide (J.map (·.1)=ab R)=z at U ⊢;generalize J.map a_=V at U ⊢;rw[ae (d:=nu) rfl rfl];have Y:=iA [] R;have Z:(((ab R).length:Int)==0)=decide (ab R=[]):=by
  cases ab R<;>simp
  omega
 cases h
 .refine(aL rfl (aD rfl (aD rfl (aD rfl (aD rfl (sm (v:=if decide (ab R=[])=true then .bl false else .bl (z&&y)) rfl ?_)))))).trans (by cases decide (ab R=[])<;>rfl);cases hd:decide (ab R=[])<;>rw[hd]at Z
  .exact ul (sr (p:=false) (q:=false) rfl λ_=>bF (p:=true) rfl λ_=>zP (by rw[tf,Z]) (ac rfl e2)) (iI (ac rfl U))
  .exact sn (sr (p:=false) (q:=true) rfl λ_=>bF (p:=true) rfl λ_=>zP (by rw[tf,Z]) (ac rfl e2)) rfl
 .refine(aL rfl (aD rfl (aD rfl (aD rfl (aD rfl (sm (v:=if decide ([]∈R)=true then .bl false else .bl (z&&y)) rfl ?_)))))).trans (by cases decide ([]∈R)<;>rfl);cases hd:decide ([]∈R)<;>rw[hd]at Y
  .exact ul (sr (p:=false) (q:=false) (bF (p:=true) rfl λ_=>um Y rfl rfl) λ_=>rfl) (iI (ac rfl U))
  .exact sn (sr (p:=true) (q:=false) (bF (p:=true) rfl λ_=>um Y rfl rfl) λ_=>rfl) rfl
def uu (n) (R V) (h):aa defs (n+1) 68 [.val (.tup [.str "cases",V]),.val R,.val (.str (af h)),.val (.str (af h))]=some (.bl false):=by
 cases h<;>rfl
def z7(A B R):iY (A++B) R=(iY A R&&iY B R):=by
 unfold iY;rw[all_append]
def Fb{a b:List Int}(J:a.Nodup)(U:b.Nodup):decide (a++b).Nodup=!(a.any λx=>decide (x∈b)):=by
 rw[IT];simp only[Jq,IM,List.any_eq_false,Jq];rw[KD];exact⟨λh x hx z=>h.2.2 x hx x z rfl,λh=>⟨J,U,λx hx y z e=>h x hx (e▸z)⟩⟩
def vS{l:List Int}(h:l.Pairwise (· < ·)):l.Nodup:=h.imp λh e=>by omega
def xk(n){A B R:LL}(J:ay A)(U:ay B)(g:ay R) 
  (Z:aa defs (n+2) 68 [.val p,.val (ofR A),.val (.str "weaver"),.val (.str "weaver")]=some (.bl x)) (hq:aa defs (n+2) 68 [.val q,.val (ofR B),.val (.str "weaver"),.val (.str "weaver")]=some (.bl y)) :
  aa defs (n+3) 67 [.val (.tup [.str "either",ofR A,p,ofR B,q]),.val (ofR R)]=some (.bl (decide (ab A++ab B).Nodup&&below A R&&below B R&&(x&&y))):=by
 rw[ae (d:=fK) rfl rfl];have e1:=cQ (n+1) A J.1;have e2:=cQ (n+1) B U.1;have Y:=sx n (A++B) R (by have:=g.2.2;omega);rw[z7,hV,hV]at Y;have hA:=J.2.2;have hB:=U.2.2;have hl:=aA (aP J.1);rw[Fb (vS (g8 A)) (vS (g8 B))];have c1:ev (aa defs (n+2)) (.blt .any [(.comp .seq [(.call 40 [(.idx (.bor 0) (ci 1))])] [0] (.cst (.bl true)) (.cmp .isIn (.bor 0) (.call 40 [(.idx (.bor 1) (ci 3))])))]) [sv (.tup [.str "either",ofR A,p,ofR B,q]),sv (ofR R)]=some (.bl ((ab A).any λx=>decide (x∈ab B))):=by
  rw[aB (v:=.lst (((ab A).map λx=>decide (x∈ab B)).map .bl)),iT,bD]
  .simp
  .rw[ID];refine be (vs:=[ofL (ab A)]) (xs:=ab A) (g:=PV.int) ?_ rfl (by omega) λh _=>?_
   .rw[evs,gE (v:=ofR A) (λi z=>by cases z) (by simp[ev,place]) e1];rfl
   .rw[cD (x:=.int h) (by simp[ev,bC]) (gE (v:=ofR B) (λi z=>by cases z) (by simp[ev,place,bC]) e2)];simp[ofL,bn]
 have c2:ev (aa defs (n+2)) (.not (.call 55 [(.bin .add (.idx (.bor 0) (ci 1)) (.idx (.bor 0) (ci 3))),.bor 1])) [sv (.tup [.str "either",ofR A,p,ofR B,q]),sv (ofR R)]=some (.bl (!(below A R&&below B R))):=by
  have:ev (aa defs (n+2)) (.call 55 [(.bin .add (.idx (.bor 0) (ci 1)) (.idx (.bor 0) (ci 3))),.bor 1]) [sv (.tup [.str "either",ofR A,p,ofR B,q]),sv (ofR R)]=some (.bl (below A R&&below B R)):=by
   refine ac (vs:=[.val (ofR (A++B)),.val (ofR R)]) ?_ Y;have h2:A.length+B.length<=10000:=by omega
   simp[evA,ev,place,ofR,dQ,yx,h2]
  rw[ev,this]
  rfl
 refine(show aQ (exs (aa defs (n+2)) (.ite _ [.ret (.cst (.bl false))] []::.ite _ [.ret (.cst (.bl false))] []::[.ret _]) [sv (.tup [.str "either",ofR A,p,ofR B,q]),sv (ofR R)])=_ from ?_);rw[ag,aY c1];cases h1:(ab A).any λx=>decide (x∈ab B)with
 |true=>rfl
 |false =>
  rw[if_neg (by decide),exs,au,ag,aY c2];cases h2:(below A R&&below B R)with
  |false =>
   rw[L6,J4,h2]
   rfl
  |true =>
   rw[L6,J4,h2,J3,if_neg (by decide),exs,au];exact(fg (bF (ac rfl Z) λ_=>ac rfl hq)).trans (by simp)
def z8{A B R:LL}(z:ay A)(J:ay B)(g:ay R)(t h)
  (U:aa defs (n+2) 68 [.val p,.val (ofR A),.val (.str "weaver"),.val (.str "weaver")]=some (.bl x)) (Y:aa defs (n+2) 68 [.val q,.val (ofR B),.val (.str "weaver"),.val (.str "weaver")]=some (.bl y)) :
  aa defs (n+4) 68 [.val (.tup [.str "either",ofR A,p,ofR B,q]),.val (ofR R),.val (.str (af t)),.val (.str (af h))]=some (.bl (!h&&t&&(decide (ab A++ab B).Nodup&&below A R&&below B R&&(x&&y)))):=by
 have e:=xk n z J g U Y;rw[ae rfl rfl];cases h<;>cases t<;>first|rfl|exact aL rfl (aD rfl (aD rfl (aD rfl (aD rfl (aD rfl (aD rfl (fg (bF rfl λ_=>ac rfl e))))))))
theorem jc{α:Type}(f)(g)(cal)(a):∀(W:List α) z s,(∀w∈W,aX (f w)=some (g w))->z.length+(W.map g).flatten.length<=10000 ->
  ∃s',aw (λx l=>exs cal bN (put l 2 (.val x))) (W.map f) [some a,some (.own z),s]=.next [some a,some (.own (z++(W.map g).flatten)),s']
 | [],z,s,_,_=>⟨s,by simp⟩
 |w::W,z,s,J,h=>by
  rw[IG,IG,aw];rw[IG,flatten_cons,IC]at h;have h2:z.length+(g w).length<=10000:=by omega
  have e:exs cal bN (put [some a,some (.own z),s] 2 (.val (f w)))=.next [some a,some (.own (z++g w)),sv (f w)]:=by
   simp[bN,exs,ex,ev,J w (.head _),h2]
  rw[e];obtain⟨s',U⟩:=jc f g cal a W (z++g w) (sv (f w)) (λw hw=>J w (.tail _ hw)) (by rw[IC];omega);exact⟨s',by rw[flatten_cons,<- Jm];exact U⟩
def uv{α:Type}(f)(g)(n)(v:PV)(W:List α)(hv:aX v=some (W.map f))(z:∀w∈W,aX (f w)=some (g w))(J:(W.map g).flatten.length<=10000):aa defs (n+1) 0 [.val v]=some (.lst (W.map g).flatten):=by
 rw[ae (d:=gX) rfl rfl];obtain⟨s',e⟩:=jc f g (aa defs n) (.val v) W [] none z (by simpa using J);rw[nil_append]at e;show aQ (exs (aa defs n) (_::_::[_]) [sv v,none,none])=_;simp only[ag];rw[dj (xs:=[]) (by simp[ev,evs]),au];simp only[bi,bj];rw[cx (xs:=W.map f) (by simp[evs,ev,hv]),show bh [.bor 0] [sv v,some (.own []),none]=[sv v,some (.own []),none]from rfl,e,bS,au]
 rfl
def uA(h:ev cal a W=some (.bl p))(h':ev cal b W=some (.bl q)):ev cal (.or a b) W=some (.bl (p||q)):=by
 rw[ev,h];cases p<;>first|rfl|simp[h']
noncomputable def aR(r:LL×PV):PV:=.tup [ofR r.1,r.2]
def z9(n)(D:List (LL))(J:D.flatten.length<64):aa defs (n+2) 17 [.val (.lst (D.map ofR))]=some (ofR (sortT D.flatten)):=by
 rw[ae (d:=nn) rfl rfl];have z:(D.map λG=>G.map ofS).flatten=D.flatten.map ofS:=by rw[Le]
 have em:=uv ofR (λG=>G.map ofS) n (.lst (D.map ofR)) D rfl (λ_ _=>rfl) (by rw[z,tf];omega);rw[z]at em;refine fg (W:=[sv (.lst (D.map ofR))]) ((aB (v:=.lst ((sortT D.flatten).map ofS)) ?_).trans rfl);rw[aB (ac (vs:=[.val (.lst (D.map ofR))]) (by simp[evA]) em),gR,iS,bind_some,gp J]
def uB(h:∀t∈F,cM t)(z:F.length<=60):ay (sortT F):=⟨λt J=>h t (eQ.mp J),sortT_rises F,by rw[sortT_len];exact z⟩
def uC(F):(sortT F).flatten.length=F.flatten.length:=(sortT_perm F).flatten.length_eq
noncomputable def hW(D:List (LL))(R:LL):Bool:=!decide (R.length<D.flatten.length)&&decide (D.map ab).flatten.Nodup&&(sub (ab D.flatten) (ab R)&&below R (sortT D.flatten))
def sy(F):ab (sortT F)=ab F:=by
 rw[<- j9,<- j9];exact sortI_of_perm ((J2 (dd_nodup _) (dd_nodup _)).mpr λx=>by rw[jt,jt];exact(sortT_perm F).flatten.mem_iff)
def B1(n)(z:List (LL×PV))(R)(g:ay R)(hf:R.flatten.length<=1000)(hl:z.length<=16)(hs:(z.map (·.1)).flatten.length<=60)(Y:(z.map (·.1)).flatten.flatten.length<=1000)(Z:∀r∈z,ay r.1/\r.1.flatten.length<=1000) :
  aa defs (n+5) 33 [.val (.tup (z.map aR)),.val (ofR R)]=some (.bl (hW (z.map (·.1)) R)):=by
 rw[ae (d:=fH) rfl rfl];have J:∀t∈(z.map (·.1)).flatten,cM t:=λt ht=>by
  obtain⟨G,J,ht⟩:=Lf.mp ht;obtain⟨r,U,rfl⟩:=mem_map.mp J;exact(Z r U).1.1 t ht
 have e1:=z9 (n+2) (z.map (·.1)) (by omega);have e2:=vR (n+1) (z.map (·.1)) (λG J=>by
  obtain⟨r,U,rfl⟩:=mem_map.mp J;exact⟨(Z r U).1.1,(Z r U).2⟩) (by rw[tf];exact hl)
 have gT:=uB J hs;have e3:=da (n+2) R g.1 hf;have e4:=da (n+2) (sortT (z.map (·.1)).flatten) gT.1 (by rw[uC];exact Y);have e5:=g_ n R (sortT (z.map (·.1)).flatten) g gT;rw[sy]at e4;have l1:=aA (aP g.1);have l2:=aA (aP J);have e6:=kU (n+3) (.val (ofL (ab R))) (.val (ofL (ab (z.map (·.1)).flatten))) (ab R) (ab (z.map (·.1)).flatten) rfl rfl (by omega) (by omega) (IH (iU _) l2);have c0:ev (aa defs (n+4)) (.comp .seq [.bor 0] [] (.cst (.bl true)) (.idx (.bor 0) (ci 0))) [sv (.tup (z.map aR)),sv (ofR R),none,none]=some (.lst ((z.map (·.1)).map ofR)):=by
  rw[ID];exact be (vs:=[.tup (z.map aR)]) (xs:=z) (g:=aR) (by simp[evs,ev]) (by simp[aW]) (by omega) λr _=>by simp[ev,aR,place,bC]
 refine aL (W:=[sv (.tup (z.map aR)),sv (ofR R),none,none]) c0 ?_;simp only[bi,bj];generalize z.map (·.1)=D at *
 refine aL (v:=ofR (sortT D.flatten)) (ac (vs:=[.val (.lst (D.map ofR))]) (by simp[evA]) e1) ?_;simp only[bi,bj];have c1:ev (aa defs (n+4)) (.or (.cmp .gt (.blt .len [.bor 3]) (.blt .len [.bor 1])) (.not (.call 18 [.bor 2]))) [sv (.tup (z.map aR)),sv (ofR R),sv (.lst (D.map ofR)),sv (ofR (sortT D.flatten))]=some (.bl (decide (R.length<D.flatten.length)||!decide (D.map ab).flatten.Nodup)):=by
  have q1:ev (aa defs (n+4)) (.cmp .gt (.blt .len [.bor 3]) (.blt .len [.bor 1])) [sv (.tup (z.map aR)),sv (ofR R),sv (.lst (D.map ofR)),sv (ofR (sortT D.flatten))]=some (.bl (decide (R.length<D.flatten.length))):=by
   simp[ev,evs,ofR,sortT_len,-length_flatten]
  have q2:ev (aa defs (n+4)) (.not (.call 18 [.bor 2])) [sv (.tup (z.map aR)),sv (ofR R),sv (.lst (D.map ofR)),sv (ofR (sortT D.flatten))]=some (.bl (!decide (D.map ab).flatten.Nodup)):=by
   rw[ev,ac (vs:=[.val (.lst (D.map ofR))]) (by simp[evA]) e2]
   rfl
  exact uA q1 q2
 have c2:ev (aa defs (n+4)) (.and (.call 11 [(.call 5 [.bor 1]),(.call 5 [.bor 3])]) (.call 14 [.bor 1,.bor 3])) [sv (.tup (z.map aR)),sv (ofR R),sv (.lst (D.map ofR)),sv (ofR (sortT D.flatten))]=some (.bl (sub (ab D.flatten) (ab R)&&below R (sortT D.flatten))):=by
  refine bF (ac (vs:=[.val (ofL (ab R)),.val (ofL (ab D.flatten))]) ?_ e6) λ_=>ac (vs:=[.val (ofR R),.val (ofR (sortT D.flatten))]) (by simp[evA]) e5
  simp[evA,ev,e3,e4]
 show aQ (exs (aa defs (n+4)) (.ite _ [.ret (.cst (.bl false))] []::[.ret _]) _)=_;rw[ag,aY c1];unfold hW;cases h1:decide (R.length<D.flatten.length)with
 |true=>simp[exs,ex,ev]
 |false =>
  cases h2:decide (D.map ab).flatten.Nodup with
  |false=>simp[exs,ex,ev]
  |true =>
   rw[if_neg (by decide),exs,au,fg c2]
   rfl
theorem lA (n) (Y) (b):∀(J:List (LL×PV)),(∀r∈J,aa defs n 28 [.val r.2,.val (ofR r.1),.val (.str "weaver"),.val (.str "moth")]=some (.bl (b r)))->∀Z x2,
  (J.all b=true->∃y1 y2,aw (λx l=>cA (cW [1,2] x l) λU=>exs (aa defs n) bO U) (J.map aR) [Y,Z,x2]=.next [Y,y1,y2]) /\
  (J.all b=false->aw (λx l=>cA (cW [1,2] x l) λU=>exs (aa defs n) bO U) (J.map aR) [Y,Z,x2]=.ret (.bl false))
 | [],_,Z,x2=>⟨λ_=>⟨Z,x2,rfl⟩,λz=>by cases z⟩
 |r::J,hr,Z,x2=>by
  have e0:=hr r (.head _);have e3:(cA (cW [1,2] (aR r) [Y,Z,x2]) λU=>exs (aa defs n) bO U)=if b r=true then .next [Y,sv (ofR r.1),sv r.2]else .ret (.bl false):=by
   cases hb:b r<;>rw[hb]at e0<;>simp[bO,aR,cW,mP,cA,exs,ex,ev,evs,evB,evA,e0]
  rw[IG,aw,e3,all_cons];obtain⟨i1,i2⟩:=lA n Y b J (λq hq=>hr q (.tail _ hq)) (sv (ofR r.1)) (sv r.2);cases hb:b r<;>first|exact⟨λz=>(by cases z),λ_=>rfl⟩|exact⟨λz=>i1 z,λz=>i2 z⟩
def z_ (n) (b) (z:List (LL×PV)) (U:∀r∈z,aa defs n 28 [.val r.2,.val (ofR r.1),.val (.str "weaver"),.val (.str "moth")]=some (.bl (b r))) :
  aa defs (n+1) 34 [.val (.tup (z.map aR))]=some (.bl (z.all b)):=by
 rw[ae (d:=gw) rfl rfl];obtain⟨Y,Z⟩:=lA n (sv (.tup (z.map aR))) b z U none none;show aQ (exs _ [.forT _ _ _ _,.ret _] [sv (.tup (z.map aR)),none,none])=_;rw[ag,qr (xs:=z.map aR) (by simp[evs,ev,aW])];rw[show bh [ME.bor 0] [some (MV.val (.tup (z.map aR))),none,none]=[sv (.tup (z.map aR)),none,none]from rfl];cases J:z.all b with
 |false =>
  rw[Z J]
  rfl
 |true =>
  obtain⟨y1,y2,e⟩:=Y J;rw[e];simp[bS,aJ,exs,ex,ev]
def xl(n)(a b):aa defs (n+1) 41 [.val (ofL a),.val (ofL b)]=some (.bl (sub a b)):=by
 rw[ae (d:=cv) rfl rfl];have key:=g5 (g:=PV.int) (xs:=a) (body:=λx l=>exs (aa defs n) bP (put l 2 (.val x))) (I:=λW=>∃kk,W=[sv (ofL a),sv (ofL b),kk]) (p:=λx=>!decide (x∈b)) (r:=λ_=>.bl false)
  (W:=[sv (ofL a),sv (ofL b),none]) ⟨_,rfl⟩ (by
   rintro x hx W ⟨kk,rfl⟩;constructor
   .intro h;simp at h;simp[bP,exs,ex,ev,evs,evB,bn,h,ofL]
   .intro h;simp at h;exact⟨[sv (ofL a),sv (ofL b),sv (.int x)],⟨_,rfl⟩,by simp[bP,exs,ex,ev,evs,evB,bn,h,ofL]⟩)
 cases hf:a.find? (λx=>!decide (x∈b))with
 |some x =>
  have e:=key.1 x hf;have hx:=find?_some hf;have z:=Lv hf;have:sub a b=false:=by
   cases hs:sub a b<;>first|rfl|simp[g7.mp hs x z]at hx
  simp[cv,exs,ex,ev,evs,bh,e,this,aW,ofL]at e ⊢
 |none =>
  obtain⟨l,⟨kk,rfl⟩,e⟩:=key.2 hf;have:=g7.mpr λx hx=>by
   have:=Li.mp hf x hx;simpa using this
  simp[cv,exs,ex,ev,evs,bh,e,this,aW,ofL]at e ⊢
theorem lB(n)(U a1):∀(J:List (LL×PV)) (hs:List Int) (F:LL) (Y:Option MV),(∀r∈J,ay r.1)->hs.length+60*J.length<=5000->F.length+60*J.length<=5000 ->
  ∃Z,aw (λx l=>exs (aa defs (n+1)) cw (put l 4 (.val x))) (J.map aR) [U,a1,sv (ofL hs),sv (.lst (F.map ofS)),Y]=.next [U,a1,sv (ofL (hs++((J.map (·.1)).map ab).flatten)),sv (.lst ((F++(J.map (·.1)).flatten).map ofS)),Z]
 | [],hs,F,Y,_,_,_=>⟨Y,by simp⟩
 |r::J,hs,F,Y,hg,h1,h2=>by
  have gr:=hg r (.head _);have e1:=cQ n r.1 gr.1;have l1:=aA (aP gr.1);have l2:=gr.2.2;rw[length_cons]at h1 h2;have q1:hs.length+(ab r.1).length<=10000:=by omega
  have q2:F.length+r.1.length<=10000:=by omega
  have e:exs (aa defs (n+1)) cw (put [U,a1,sv (ofL hs),sv (.lst (F.map ofS)),Y] 4 (.val (aR r)))=.next [U,a1,sv (ofL (hs++ab r.1)),sv (.lst ((F++r.1).map ofS)),sv (aR r)]:=by
   have c1:ev (aa defs (n+1)) (.call 40 [(.idx (.bor 4) (ci 0))]) [U,a1,sv (ofL hs),sv (.lst (F.map ofS)),sv (aR r)]=some (ofL (ab r.1)):=gE (v:=ofR r.1) (λi z=>by cases z) (by simp[ev,aR,place]) e1;simp only[bi,bj,cw];refine cI (v:=ofL (hs++ab r.1)) (by rw[ev,c1];simp[ev,ofL,q1]) ?_;simp only[bi,bj];refine cI (v:=.lst ((F++r.1).map ofS)) (by simp[ev,evs,aR,place,ofR,q2]) ?_;simp[exs]
  rw[IG,aw,e];obtain⟨Z,e2⟩:=lB n U a1 J (hs++ab r.1) (F++r.1) (sv (aR r)) (λq hq=>hg q (.tail _ hq)) (by rw[IC];omega) (by rw[IC];omega);refine⟨Z,?_⟩;rw[IG,IG,flatten_cons,flatten_cons,<- Jm,<- Jm];exact e2
def Aa (n) (b) (z:List (LL×PV)) (R) (g:ay R) (hl:z.length<=16) (U:∀r∈z,ay r.1) (Z:∀r∈z,aa defs (n+2) 68 [.val r.2,.val (ofR r.1),.val (.str "weaver"),.val (.str "moth")]=some (.bl (b r))) :
  aa defs (n+3) 66 [.val (.tup (z.map aR)),.val (ofR R)]=some (.bl ((decide ((z.map (·.1)).map ab).flatten.Nodup&&sub ((z.map (·.1)).map ab).flatten (ab R))&&(!decide (R.length<(z.map (·.1)).flatten.length)&&iY R (z.map (·.1)).flatten)&&z.all b)):=by
 rw[ae (d:=gC) rfl rfl];have Y:∀z:List (LL×PV),(∀r∈z,ay r.1)->((z.map (·.1)).map ab).flatten.length<=60*z.length/\(z.map (·.1)).flatten.length<=60*z.length:=λz=>by
  induction z with
  |nil=>intro _;exact⟨pe _,pe _⟩
  |cons r z ih =>
   intro h;have h1:=ih λq hq=>h q (.tail _ hq)
   have h2:=aA (aP (h r (.head _)).1);have h3:=(h r (.head _)).2.2;simp only[IG,flatten_cons,IC,length_cons];omega
 have Y:=Y z U;obtain⟨J,e⟩:=lB (n+1) (sv (.tup (z.map aR))) (sv (ofR R)) z [] [] none U (by simp only[length_nil];omega) (by simp only[length_nil];omega);simp only[nil_append]at e;have ea:ev (aa defs (n+2)) (.blt .all [(.comp .seq [.bor 0] [] (.cst (.bl true)) (.call 68 [(.idx (.bor 0) (ci 1)),(.idx (.bor 0) (ci 0)),(cs "weaver"),(cs "moth")]))]) [sv (.tup (z.map aR)),sv (ofR R),sv (ofL ((z.map (·.1)).map ab).flatten),sv (.lst ((z.map (·.1)).flatten.map ofS)),J]=some (.bl (z.all b)):=by
  rw[aB (v:=.lst ((z.map b).map .bl)),jU,bD]
  .simp[Function.comp_def]
  .rw[show(z.map b).map PV.bl=z.map λr=>PV.bl (b r)from by rw[ID];rfl];refine be (vs:=[.tup (z.map aR)]) (xs:=z) (g:=aR) ?_ rfl (by omega) λr h=>?_
   .simp[evs,ev]
   exact ac (vs:=[.val r.2,.val (ofR r.1),.val (.str "weaver"),.val (.str "moth")]) (by simp[evA,ev,aR,place,bC]) (Z r h)
 have e1:=cQ (n+1) R g.1;generalize hD:z.map (·.1)=D at *
 have e2:=xl (n+1) (D.map ab).flatten (ab R);have e3:=pA n R D.flatten (.lst (D.flatten.map ofS)) rfl (by omega);refine aL (W:=[sv (.tup (z.map aR)),sv (ofR R),none,none,none]) (v:=ofL []) (by simp[ev,evs,ofL]) ?_;simp only[bi,bj];refine aL (v:=.lst (([]:LL).map ofS)) (by simp[ev,evs]) ?_;simp only[bi,bj];refine kY (l:=[sv (.tup (z.map aR)),sv (ofR R),sv (ofL (D.map ab).flatten),sv (.lst (D.flatten.map ofS)),J]) ?_ ?_
 .rw[cx (xs:=z.map aR) (by rw[evs,show ∀r,ev (aa defs (n+2)) (.bor 0) (sv (.tup (z.map aR))::r)=some (.tup (z.map aR))from λr=>by simp[ev]];rfl)];rw[show ∀b c d e,bh [ME.bor 0] [sv (.tup (z.map aR)),b,c,d,e]=[sv (.tup (z.map aR)),b,c,d,e]from λ_ _ _ _=>rfl,e]
  rfl
 have es:aG .lenSet [ofL (D.map ab).flatten]=some (.int (dd (D.map ab).flatten).length):=by
  show((aX (ofL (D.map ab).flatten)).bind λxs=>(bf xs).bind λns=>if ns.length<=1000 then some (PV.int (dd ns).length)else none)=_;rw[show aX (ofL (D.map ab).flatten)=some ((D.map ab).flatten.map .int)from rfl,bind_some,bb,bind_some,if_pos (by omega)]
 have c1:ev (aa defs (n+2)) (.or (.cmp .ne (.blt .lenSet [.bor 2]) (.blt .len [.bor 2])) (.not (.call 41 [.bor 2,(.call 40 [.bor 1])]))) [sv (.tup (z.map aR)),sv (ofR R),sv (ofL (D.map ab).flatten),sv (.lst (D.flatten.map ofS)),J]=some (.bl (!decide (D.map ab).flatten.Nodup||!sub (D.map ab).flatten (ab R))):=by
  refine uA ?_ ?_
  .have:(((dd (D.map ab).flatten).length:Int)==((D.map ab).flatten.length:Int))=decide (D.map ab).flatten.Nodup:=by
    rw[IT,IE,Jc,<- eM];omega
   have el:ev (aa defs (n+2)) (.blt .len [.bor 2]) [sv (.tup (z.map aR)),sv (ofR R),sv (ofL (D.map ab).flatten),sv (.lst (D.flatten.map ofS)),J]=some (.int (D.map ab).flatten.length):=by
    rw[aB (v:=ofL (D.map ab).flatten) (by simp[ev])];simp[ofL,-length_flatten,-map_flatten]
   rw[cD (x:=.int (dd (D.map ab).flatten).length) (by rw[aB (v:=ofL (D.map ab).flatten) (by simp[ev]),es]) el];simp[this,re,-length_flatten,-map_flatten]
  .rw[ev,ac (vs:=[.val (ofL (D.map ab).flatten),.val (ofL (ab R))]) (by simp[evA,ev,e1]) e2]
   rfl
 have c2:ev (aa defs (n+2)) (.or (.cmp .gt (.blt .len [.bor 3]) (.blt .len [.bor 1])) (.not (.call 55 [.bor 1,.bor 3]))) [sv (.tup (z.map aR)),sv (ofR R),sv (ofL (D.map ab).flatten),sv (.lst (D.flatten.map ofS)),J]=some (.bl (decide (R.length<D.flatten.length)||!iY R D.flatten)):=by
  refine uA ?_ ?_
  .simp[ev,evs,ofR,-length_flatten,-map_flatten]
  .rw[ev,ac (vs:=[.val (ofR R),.val (.lst (D.flatten.map ofS))]) (by simp[evA]) e3]
   rfl
 refine(show aQ (exs (aa defs (n+2)) (.ite _ [.ret (.cst (.bl false))] []::.ite _ [.ret (.cst (.bl false))] []::[.ret _]) _)=_ from ?_);rw[ag,aY c1];generalize decide (D.map ab).flatten.Nodup=p1 at *
 generalize sub (D.map ab).flatten (ab R)=p2 at *
 generalize decide (R.length<D.flatten.length)=p3 at *
 generalize iY R D.flatten=p4 at *
 cases p1<;>cases p2<;>try (simp[exs,ex,ev];done)
 rw[if_neg (by decide),exs,au,ag,aY c2];cases p3<;>cases p4<;>try (simp[exs,ex,ev];done)
 rw[if_neg (by decide),exs,au,fg ea]
 rfl
def Ab(h:∀x,x∈a ↔ x∈b):sub a c=sub b c:=by
 rw[IT,g7,g7];exact⟨λk x hx=>k x ((h x).mpr hx),λk x hx=>k x ((h x).mp hx)⟩
def uD(D)(R):((decide (D.map ab).flatten.Nodup&&sub (D.map ab).flatten (ab R))&&(!decide (R.length<D.flatten.length)&&iY R D.flatten))=hW D R:=by
 have h1:sub (D.map ab).flatten (ab R)=sub (ab D.flatten) (ab R):=Ab λx=>by
  rw[bL];constructor
  .intro h;obtain⟨l,h1,h2⟩:=Lf.mp h;obtain⟨G,z,rfl⟩:=mem_map.mp h1;obtain⟨t,J,U⟩:=bL.mp h2;exact⟨t,Lf.mpr ⟨G,z,J⟩,U⟩
  .rintro ⟨t,h1,h2⟩;obtain⟨G,z,J⟩:=Lf.mp h1;exact Lf.mpr ⟨_,KR z,bL.mpr ⟨t,J,h2⟩⟩
 have h2:iY R D.flatten=below R (sortT D.flatten):=by
  rw[<- hV];unfold iY
  congr 1
  funext s
  rw[IT,Jp,Jp];exact⟨λ⟨t,a,b⟩=>⟨t,eQ.mpr a,b⟩,λ⟨t,a,b⟩=>⟨t,eQ.mp a,b⟩⟩
 rw[h1,h2];unfold hW;generalize decide (D.map ab).flatten.Nodup=p1;generalize sub (ab D.flatten) (ab R)=p2;generalize decide (R.length<D.flatten.length)=p3;generalize below R (sortT D.flatten)=p4;cases p1<;>cases p2<;>cases p3<;>cases p4<;>rfl
def B2 {J:List (LL×PV)}{R:LL} (g:ay R) (U:J.length<=16) (Y:∀r∈J,ay r.1) (t h) (Z:∀r∈J,aa defs (n+2) 68 [.val r.2,.val (ofR r.1),.val (.str "weaver"),.val (.str "moth")]=some (.bl (b r))) :
  aa defs (n+4) 68 [.val (.tup [.str "parts",.tup (J.map aR)]),.val (ofR R),.val (.str (af t)),.val (.str (af h))]=some (.bl (h&&!t&&(hW (J.map (·.1)) R&&J.all b))):=by
 have e:=Aa n b J R g U Y Z;rw[uD]at e;generalize (hW (J.map _) R&&J.all b)=z at e ⊢;rw[ae rfl rfl];cases h<;>cases t<;>first|rfl|exact aL rfl (aD rfl (aD rfl (aD rfl (aD rfl (aD rfl (cB rfl (bF rfl λ_=>ac rfl e)))))))
def B3 {n:Nat}{b:LL×PV->Bool}{J:List (LL×PV)}{R:LL} (g:ay R) (hf:R.flatten.length<=1000) (hl:J.length<=16) (hs:(J.map (·.1)).flatten.length<=60) (U:(J.map (·.1)).flatten.flatten.length<=1000) (hg:∀r∈J,ay r.1/\r.1.flatten.length<=1000) (t h:Bool) (hr:∀r∈J,aa defs (n+4) 28 [.val r.2,.val (ofR r.1),.val (.str "weaver"),.val (.str "moth")]=some (.bl (b r))) :
  aa defs (n+7) 28 [.val (.tup [.str "parts",.tup (J.map aR)]),.val (ofR R),.val (.str (af t)),.val (.str (af h))]=some (.bl (h&&!t&&(hW (J.map (·.1)) R&&J.all b))):=by
 have Y:=B1 n J R g hf hl hs U hg;have Z:=z_ (n+4) b J hr;generalize J.all b=y at Z ⊢;generalize hW (J.map (·.1)) R=z at Y ⊢;generalize J.map aR=V at Y Z ⊢;cases h with
 |true =>
  refine gM ?_;rw[ae (d:=bT) rfl rfl];cases t
  .exact aL rfl (aD rfl (aD rfl (aD rfl (aD rfl (aD rfl (cB rfl (bF (p:=z) (q:=y) (ac rfl Y) λ_=>ac rfl Z)))))))
  .rfl
 |false =>
  refine gW ?_;rw[ae (d:=bm) rfl rfl];cases t<;>rfl
inductive WP:Nat->PV->Prop where
 | leaf {d:Nat}{v:PV} (h:nw v):WP d v
 | one {d:Nat}{v:PV} (k:Bool) (r:Option Int) (h:WP d v):WP (d+1) (.tup [.str (if k=true then "bite" else "knot"),cF r,v])
 | cases {d:Nat} (rows:List (Int×Option Int×PV)) (hl:rows.length<=10000) (h:∀r∈rows,WP d r.2.2):WP (d+1) (.tup [.str "cases",.tup (rows.map a_)])
 | parts {d:Nat} (rows:List (LL×PV)) (hl:rows.length<=16) (hs:(rows.map (·.1)).flatten.length<=60) (hff:(rows.map (·.1)).flatten.flatten.length<=1000) (hg:∀r∈rows,ay r.1/\r.1.flatten.length<=1000) (h:∀r∈rows,WP d r.2):WP (d+1) (.tup [.str "parts",.tup (rows.map aR)])
 | fewer {d:Nat}{v:PV} (A:LL) (gA:ay A) (fA:A.flatten.length<=1000) (h:WP d v):WP (d+1) (.tup [.str "fewer",ofR A,v])
 | either {d:Nat}{v w:PV} (A B:LL) (gA:ay A) (gB:ay B) (fA:A.flatten.length<=1000) (fB:B.flatten.length<=1000) (h:WP d v) (h':WP d w):WP (d+1) (.tup [.str "either",ofR A,v,ofR B,w])
def up1 :∀{e},d+1<=e->∃x,e=x+1/\d<=x
 |x+1,h=>⟨x,rfl,Nat.le_of_succ_le_succ h⟩
def upN(k:Nat)(h:m+c<=N)(z:k<=c:=by decide):∃n,N=n+k:=⟨N-k,(Nat.sub_add_cancel (IH z (IH (KW c m) h))).symm⟩
def jy(v:PV)(R:LL)(t h:Bool)(N:Nat)(b:Bool):Prop:=aa defs N 28 [.val v,.val (ofR R),.val (.str (af t)),.val (.str (af h))]=some (.bl b)/\aa defs N 68 [.val v,.val (ofR R),.val (.str (af t)),.val (.str (af h))]=some (.bl b)
def Iu{d:Nat}{v:PV}(p:WP d v):∀(R:LL),ay R->R.flatten.length<=1000->∀t h:Bool,∃b:Bool,∀N,3*d+8<=N->jy v R t h N b:=by
 induction p with
 | @leaf d v hv =>
  intro R g Y t h;obtain⟨b,a⟩:=uo hv R g Y t h;refine⟨b,λN U=>?_⟩;obtain⟨n,rfl⟩:=upN 7 U;exact⟨(a (n+1)).1,E_ hv (a n).2⟩
 | @one d v k r hv ih =>
  intro R g Y t h;obtain⟨b,a⟩:=ih (bhd k R r) (gG g r) (IH (j_ k R r) Y) (!k) k;refine⟨(h==k)&&(t==k)&&b,λN U=>?_⟩;obtain⟨n,rfl⟩:=upN 6 U;exact⟨E8 g k r t h (a (n+3) (by omega)).1,Fa g k r t h (a (n+5) (by omega)).2⟩
 | @cases d rows hl hr ih =>
  intro R g Y t h;by_cases e:t=h
  .subst e;refine⟨false,λN U=>?_⟩;obtain⟨n,rfl⟩:=upN 3 U;exact⟨ur n _ _ t,uu (n+2) _ _ t⟩
  .obtain rfl:t=!h:=by cases t<;>cases h<;>simp_all
   have key:∀r:Int×Option Int×PV,∃b:Bool,r∈rows->∀N,3*d+8<=N->jy r.2.2 (bh2 h R r.1 r.2.1) (!h) h N b:=λr=>by
    by_cases J:r∈rows
    .obtain⟨b,a⟩:=ih r J (bh2 h R r.1 r.2.1) (zW g _ _) (IH (z6 h R _ _) Y) (!h) h;exact⟨b,λ_=>a⟩
    .exact⟨false,λz=>absurd z J⟩
   obtain⟨b,hb⟩:=K9 key;refine⟨(if h=true then !decide ([]∈R)else !decide (ab R=[]))&&(decide (rows.map (·.1)=ab R)&&rows.all b),λN U=>?_⟩;obtain⟨n,rfl⟩:=upN 7 U;exact⟨BX g Y h hl λr J=>(hb r J (n+4) (by omega)).1,B0 (n:=n+3) g h hl λr J=>(hb r J (n+5) (by omega)).2⟩
 | @parts d rows hl hs a1 hg hr ih =>
  intro R g Y t h;have key:∀r:LL×PV,∃b:Bool,r∈rows->∀N,3*d+8<=N->jy r.2 r.1 false true N b:=λr=>by
   by_cases J:r∈rows
   .obtain⟨b,a⟩:=ih r J r.1 (hg r J).1 (hg r J).2 false true;exact⟨b,λ_=>a⟩
   .exact⟨false,λz=>absurd z J⟩
  obtain⟨b,hb⟩:=K9 key;refine⟨h&&!t&&(hW (rows.map (·.1)) R&&rows.all b),λN U=>?_⟩;obtain⟨n,rfl⟩:=upN 7 U;exact⟨B3 g Y hl hs a1 hg t h λr J=>(hb r J (n+4) (by omega)).1,B2 (n:=n+3) g hl (λr J=>(hg r J).1) t h λr J=>(hb r J (n+5) (by omega)).2⟩
 | @fewer d v A Z fA hv ih =>
  intro R g Y t h;obtain⟨b,a⟩:=ih A Z fA t false;refine⟨!h&&below A R&&b,λN U=>?_⟩;obtain⟨n,rfl⟩:=upN 6 U;exact⟨BU Z g t h (a (n+4) (by omega)).1,BY (n:=n+3) g t h (a (n+5) (by omega)).2⟩
 | @either d v w A B Z gB fA fB hv hw ih a3 =>
  intro R g Y t h;obtain⟨x,a⟩:=ih A Z fA false false;obtain⟨y,c⟩:=a3 B gB fB false false;refine⟨!h&&t&&(decide (ab A++ab B).Nodup&&below A R&&below B R&&(x&&y)),λN U=>?_⟩;obtain⟨n,rfl⟩:=upN 7 U;exact⟨zV Z gB g fA fB t h (a (n+4) (by omega)).1 (c (n+4) (by omega)).1,z8 (n:=n+3) Z gB g t h (a (n+5) (by omega)).2 (c (n+5) (by omega)).2⟩
def xc1{v:PV}{r:Rho}(h:cal (f+2000) [.mutD (.p ns)]=some (.tup [v,.dI (.p z)])):evX cal (.call f [true] [.bor 0]) (some (.mutD (.p ns))::r)=some (v,some (.mutD (.p z))::r):=by simp_all [evX,rg,evM,gi,jI,fj]
def xc3(Z:evA cal [e] (some (.mutD (.p ns))::r)=some [.val w])(J:evA cal [U] (some (.mutD (.p ns))::r)=some [.val Y])(h:cal (f+2000) [.mutD (.p ns),.val w,.val Y]=some (.tup [v,.dI (.p z)])):evX cal (.call f [true,false,false] [.bor 0,e,U]) (some (.mutD (.p ns))::r)=some (v,some (.mutD (.p z))::r):=by simp_all [evX,rg,evM,gi,jI,fj]
def nP(h:ev cal e W=some v):exs cal (.retM e::ms) W=.retM v W:=by
 rw[ag,ex,h];rfl
def fV(h:evX cal x W=some (v,l)):exs cal (.retXE x::ms) W=.retM v l:=by
 rw[ag,ex,h];rfl
def ii(h:ev cal c W=some (.bl false))(k:exs cal ms W=r):exs cal (.ite c a []::ms) W=r:=by simp_all [aY,exs]
def iJ(h:ev cal c W=some (.bl true))(k:exs cal a W=.retM v l):exs cal (.ite c a b::ms) W=.retM v l:=by
 rw[ag,aY h,if_pos rfl,k];rfl
def k4(h:evX cal x W=some (v,l))(k:exs cal ms (put l i (.val v))=r):exs cal (.setX i x::ms) W=r:=by
 rw[ag,ex,h];exact k
def Ac(cal:Cal):Prop:=∀ns,∃x z,0<=x/\cal (46+2000) [.mutD (.p ns)]=some (.tup [.int x,.dI (.p z)])
def Fc(n):Ac (aa defs (n+2)):=λns=>by
 rw[gq (d:=gY) (by decide) rfl rfl];by_cases z:ns=[]
 .subst z;refine⟨0,[],Int.le_refl _,?_⟩;have e:exs (aa defs (n+1)) gY.body [some (.mutD (.p []))]=.retM (.int 0) [some (.mutD (.p []))]:=ii (by simp[ev,tu]) (nP (by simp[ev]));show rY _ (exs _ _ [some (.mutD (.p []))])=_;rw[e];simp[rY,d5]
 .obtain⟨l,x,rfl⟩:∃l x,ns=l++[x]:=⟨ns.dropLast,ns.getLast z,(dropLast_concat_getLast z).symm⟩;refine⟨iH x 2049848353892358983,l,gZ _ _,?_⟩;have em:=qp n x 2049848353892358983;have e:exs (aa defs (n+1)) gY.body [some (.mutD (.p (l++[x])))]=.retM (.int (iH x 2049848353892358983)) [some (.mutD (.p l))]:=iJ (by simp[ev,tu]) (fV (by simp[evX,A6,gi,fj,evA,ev,em]));show rY _ (exs _ _ [some (.mutD (.p (l++[x])))])=_;rw[e];simp[rY,d5]
def cR(h:ev cal e W=some v)(k:evXs cal xs W=some (vs,l)):evXs cal (.pure e::xs) W=some (v::vs,l):=by simp_all [evXs,evX]
def iV(h:evX cal x W=some (v,l)):evXs cal [x] W=some ([v],l):=by simp_all [evXs]
def k5(h:evXs cal xs W=some (vs,l))(z:vs.length<=10000:=by simp):evX cal (.tup xs) W=some (.tup vs,l):=by simp_all [evX]
def xc5(h1:evA cal [J] (some (.mutD (.p ns))::r)=some [.val U])(h2:evA cal [Y] (some (.mutD (.p ns))::r)=some [.val Z])(h3:evA cal [e3] (some (.mutD (.p ns))::r)=some [.val w3])(h4:evA cal [e4] (some (.mutD (.p ns))::r)=some [.val w4])(h:cal (f+2000) [.mutD (.p ns),.val U,.val Z,.val w3,.val w4]=some (.tup [v,.dI (.p z)])):evX cal (.call f [true,false,false,false,false] [.bor 0,J,Y,e3,e4]) (some (.mutD (.p ns))::r)=some (v,some (.mutD (.p z))::r):=by simp_all [evX,rg,evM,gi,jI,fj]
def xcO(hi:(W[i]?).join=some (.ownD (.p ns)))(h1:evA cal [J] W=some [.val U])(h2:evA cal [Y] W=some [.val Z])(h3:evA cal [e3] W=some [.val w3])(h4:evA cal [e4] W=some [.val w4])(h:cal (f+2000) [.mutD (.p ns),.val U,.val Z,.val w3,.val w4]=some (.tup [v,.dI (.p z)])):evX cal (.call f [true,false,false,false,false] [.bor i,J,Y,e3,e4]) W=some (v,W.set i (some (.ownD (.p z)))):=by simp_all [evX,rg,evM,gi,jI,fj]
def Fd{ns:List Int}(h:ev cal e W=some (.lst (ns.map .int))):ex cal (.setP i e) W=.next (put W i (.ownD (.p ns.reverse))):=by
 rw[ex,h];simp[bb]
theorem lC(n)(a):∀(S P:LL) U x y,OkP P->(∀t∈S,cM t)->P.length+S.length<=60->U.length<=2*P.length ->
  ∃P' U' x' y',OkP P'/\P'.length<=P.length+S.length/\aw (λv l=>exs (aa defs (n+1)) e_ (put l 3 (.val v))) (S.map ofS) [a,some (.own (P.map ofS)),sv (ofL U),x,y]=.next [a,some (.own (P'.map ofS)),sv (ofL U'),x',y']
 | [],P,U,x,y,Y,_,hl,_=>⟨P,U,x,y,Y,by simp,rfl⟩
 |s::S,P,U,x,y,Y,hS,hl,hU=>by
  simp only[length_cons]at hl;have gs:=hS s (.head _);have ea:ev (aa defs (n+1)) (.blt .any [(.comp .seq [.bor 1] [3] (.cst (.bl true)) (.call 41 [.bor 0,.bor 1]))]) [a,some (.own (P.map ofS)),sv (ofL U),sv (ofS s),y]=some (.bl (P.any λt=>sub t s)):=by
   rw[aB (v:=.lst ((P.map λt=>sub t s).map .bl)),iT,bD]
   .simp
   .refine(be (g:=ofS) (h:=λt=>.bl (sub t s)) (vs:=[.lst (P.map ofS)]) (by simp[evs,ev]) rfl (by omega) λt ht=>?_).trans (by rw[ID];rfl);exact ac (vs:=[.val (ofS t),.val (ofS s)]) (by simp[evA,bC]) (ny n t s)
  obtain⟨F,hF⟩:∃F,F=s.filter λh=>!decide (h∈U):=⟨_,rfl⟩
  have hm:∀h∈F,0<=h/\h<=59:=λh hh=>gs.2 h (by rw[hF]at hh;exact(JG.mp hh).1)
  have J:ev (aa defs (n+1)) (.comp .seq [.bor 3] [2] (.cmp .notIn (.bor 0) (.bor 1)) (.var 0)) [a,some (.own (P.map ofS)),sv (ofL U),sv (ofS s),y]=some (ofL F):=by
   rw[ev,show evs (aa defs (n+1)) [.bor 3] [a,some (.own (P.map ofS)),sv (ofL U),sv (ofS s),y]=some [ofS s]from by simp[evs,ev],bind_some,ql,qk,bind_some,if_pos (by rw[tf];have:=aA gs;omega),b8 (p:=λh=>!decide (h∈U)) (h:=PV.int),hF]
   .rfl
   .intro h _;simp[ev,bC,bn]
   .intro h _ _;simp[ev,bC]
  rw[IG,aw];refine ax λZq kq=>?_
  have st:∃Z U1 y1,OkP Z/\Z.length<=P.length+1/\U1.length<=2*Z.length/\exs (aa defs (n+1)) e_ (put [a,some (.own (P.map ofS)),sv (ofL U),x,y] 3 (.val (ofS s)))=.next [a,some (.own (Z.map ofS)),sv (ofL U1),sv (ofS s),y1]:=by
   have c:=sk ea;cases hq:P.any λt=>sub t s with
   |true =>
    rw[hq]at c;exact⟨P,U,y,Y,by omega,hU,cN ((aY c).trans rfl)⟩
   |false =>
    rw[hq]at c
    match F,hm,J with
    | [],_,J=>exact⟨P,U,sv (ofL []),Y,by omega,hU,cN ((aY c).trans (cI J rfl))⟩
    | [z],_,J=>exact⟨P,U,sv (ofL [z]),Y,by omega,hU,cN ((aY c).trans (cI J rfl))⟩
    |z::w::r,hm,J =>
     refine⟨P++[[z,w]],U++[z,w],sv (ofL (z::w::r)),λt ht=>?_,by simp,by simp;omega,?_⟩
     .rcases JR.mp ht with h|h
      .exact Y t h
      .exact⟨z,w,by simpa using h,hm z (.head _),hm w (.tail _ (.head _))⟩
     .have hn:(((z::w::r).map PV.int).length:Int)=(r.length:Int)+1+1:=by simp
      have ar:∀k v,0<=k->k<=1->((z::w::r).map PV.int)[k.toNat]?=some v->dR (ofL (z::w::r)) (.int k)=some v:=λk v h0 h1 e=>by
       rw[zE,dX h0 (by omega)];exact e
      have cu:cut ((z::w::r).map .int) none (some 2)=[.int z,.int w]:=by
       have h4:min 2 (r.length+1+1)=2:=by omega
       simp[cut,gc,h4]
      rw[JH,show ofL (U++[z,w])=.lst (U.map .int++[.int z,.int w])from IW PV.lst JH];exact cN ((aY c).trans (cI J (cN ((aY (p:=true) ((cD (x:=.int ((((z::w::r).map PV.int).length:Nat):Int)) (y:=.int 1) rfl rfl).trans (by rw[ue,hn,IP (by omega)];rfl))).trans (eA (Cy rfl (fL (bR ((dA rfl rfl).trans (ar 0 (.int z) (by decide) (by decide) rfl)) (bR ((dA rfl rfl).trans (ar 1 (.int w) (by decide) (by decide) rfl)) rfl))) (by rw[tf];omega)) (cN (fT ((bx rfl (show _=some (PV.lst (cut ((z::w::r).map .int) none (some 2)))from rfl)).trans (by rw[cu,iR,if_pos (by rw[tf];simp;omega)])))))))))
  obtain⟨Z,U1,y1,q1,q2,q3,e⟩:=st;refine kq ?_;rw[e];obtain⟨P',U',x',y',r1,r2,r3⟩:=lC n a S Z U1 (sv (ofS s)) y1 q1 (λt ht=>hS t (.tail _ ht)) (by omega) q3;exact⟨P',U',x',y',r1,by rw[length_cons];omega,r3⟩
def Ad(n)(R)(g:ay R):∃P,OkP P/\P.length<=60/\aa defs (n+2) 42 [.val (ofR R)]=some (ofR P):=by
 obtain⟨P,U,x,y,h1,h2,e⟩:=lC n (sv (ofR R)) R [] [] none none (λ_ h=>by cases h) g.1 (by have:=g.2.2;simpa using this) (by simp);refine⟨P,h1,by have:=g.2.2;simp at h2;omega,?_⟩;rw[ae rfl rfl];simp[map_nil]at e;rw[show ofL []=PV.lst []from rfl]at e;simp[j5,exs,ex,ev,evs,evA,bh,aJ,e]
def B4(cal)(R)(g:ay R)(h)(a b x):ev cal (.blt .sum [(.comp .seq [.bor 0] [3] (.cmp .isIn (.bor 1) (.bor 0)) (.bin .shr (.bin .pow (ci 2) (ci 60)) (.blt .len [.bor 0])))]) [sv (ofR R),a,b,sv (.int h),x]=some (.int (cj R h)):=by
 rw[ui (ns:=(R.filter λs=>decide (h∈s)).map wgt) ?_,lz];rw[ev,show evs cal [.bor 0] [sv (ofR R),a,b,sv (.int h),x]=some [ofR R]from by simp[evs,ev],bind_some,ql,qk,bind_some,if_pos (by rw[tf];have:=g.2.2;omega),b8 (p:=λs=>decide (h∈s)) (h:=λs=>.int (wgt s)),ID]
 .rfl
 .intro s _;simp[ev,bC,bn]
 .intro s hs _;exact zM _ s (aA (g.1 s hs)) _
noncomputable def nQ(f:Int->Int)(p:Option Int×Int)(h:Int):Option Int×Int:=if p.2<f h then(some h,f h)else p
theorem pB(cal)(R)(g:ay R):∀(hs:List Int) p x y,∃z J,aw (λv l=>exs cal dY (put l 3 (.val v))) (hs.map .int) [sv (ofR R),sv (cF p.1),sv (.int p.2),x,y]=.next [sv (ofR R),sv (cF (hs.foldl (nQ (cj R)) p).1),sv (.int (hs.foldl (nQ (cj R)) p).2),z,J]
 | [],p,x,y=>⟨x,y,rfl⟩
 |h::hs,p,x,y=>by
  have e:=B4 cal R g h (sv (cF p.1)) (sv (.int p.2)) y;rw[IG,aw];have st:exs cal dY (put [sv (ofR R),sv (cF p.1),sv (.int p.2),x,y] 3 (.val (.int h)))=.next [sv (ofR R),sv (cF (nQ (cj R) p h).1),sv (.int (nQ (cj R) p h).2),sv (.int h),sv (.int (cj R h))]:=by
   simp only[bi,bj,dY];refine cI e ?_;simp only[bi,bj,nQ];by_cases q:p.2<cj R h
   .simp[exs,ex,ev,evB,q,cF]
   .simp[exs,ex,ev,evB,q]
  rw[st];exact pB cal R g hs _ _ _
noncomputable def Ae(R:LL):Option Int:=((ab R).foldl (nQ (cj R)) (none,0)).1
def Fe(n:Nat)(R:LL)(g:ay R):aa defs (n+2) 43 [.val (ofR R)]=some (cF (Ae R)):=by
 obtain⟨x,y,e⟩:=pB (aa defs (n+1)) R g (ab R) (none,0) none none;rw[ae (d:=po) rfl rfl];have z:∀W:Rho,ev (aa defs (n+1)) (.call 40 [.bor 0]) (sv (ofR R)::W)=some (ofL (ab R)):=λW=>ac (vs:=[.val (ofR R)]) (by simp[evA]) (cQ n R g.1)
 show aQ (exs (aa defs (n+1)) [.set 1 _,.set 2 _,.for1 3 .seq [(.call 40 [.bor 0])] dY,.ret _] [sv (ofR R),none,none,none,none])=_;refine aL (fc _ _ _) (aL (fc _ _ _) (kY (l:=[sv (ofR R),sv (cF (Ae R)),sv (.int ((ab R).foldl (nQ (cj R)) (none,0)).2),x,y]) ?_ (fg (v:=cF (Ae R)) ?_)))
 .simp only[bi,bj];rw[cx (xs:=(ab R).map .int) (by rw[evs,z];rfl)];show(MM.R.back _ _ (aw _ _ [sv (ofR R),sv (cF none),sv (.int 0),none,none]))=_;rw[e]
  rfl
 .cases Ae R<;>simp[ev,cF]
def Af(n:Nat)(R:LL)(g:ay R)(p:Int):∃r:Option Int,aa defs (n+3) 48 [.val (ofR R),.val (.int p)]=some (cF r):=by
 have e:=Fe n R g;rw[ae (d:=d4) rfl rfl];by_cases z:p % 8=0
 .exact⟨none,by simp[d4,exs,ex,ev,evB,z,cF]⟩
 .by_cases h1:p % 8=1
  .exact⟨some (p / 8 % 60),by simp[d4,exs,ex,ev,evB,h1,cF]⟩
  .exact⟨Ae R,by simp[d4,exs,ex,ev,evB,evA,z,h1,e]⟩
def hZ (h:k="bare" \/ k="whole" \/ k="weight"):nw (.tup [.str k]):=by
 rcases h with rfl|rfl|rfl
 .exact .inl rfl
 .exact .inr (.inl rfl)
 .exact .inr (.inr (.inl rfl))
def Ag(n)(R)(g:ay R)(t h)(p):∃v,nw v/\aa defs (n+3) 50 [.val (ofR R),.val (.str (af t)),.val (.str (af h)),.val (.int p)]=some v:=by
 obtain⟨P,h1,h2,e⟩:=Ad n R g;rw[ae (d:=lr) rfl rfl];cases h with
 |false =>
  have k:∀b,isIn (ofS []) (R.map ofS)=some b->∀W,ev (aa defs (n+2)) (.idx (.lst [(.tup [(cs "weight")]),(.tup [(cs "whole")])]) (.blt .intOf [(.cmp .isIn (.tup []) (.bor 0))])) (sv (ofR R)::W)=some (.tup [.str ((if b=true then "whole" else "weight":String):PySem.Str)]):=λb z W=>(dA rfl (aB (um z rfl rfl))).trans (by cases b<;>rfl)
  exact⟨_,hZ (k:=if decide ([]∈R)=true then "whole" else "weight") (by cases decide ([]∈R)<;>simp),cB rfl (k _ (iA [] R) _)⟩
 |true =>
  by_cases J:R=[]
  .subst J;exact⟨_,hZ (.inl rfl),rfl⟩
  .have U:((R.length:Int)==0)=false:=by
    simp_all
   have c:∀W,ev (aa defs (n+2)) (.cmp .eq (.blt .len [.bor 0]) (ci 0)) (sv (ofR R)::W)=some (.bl false):=λW=>qy (xs:=R.map ofS) (by rw[tf];exact U) rfl
   have d:∀W,ev (aa defs (n+2)) (.and (.cmp .eq (.bor 1) (cs "weaver")) (.cmp .eq (.bin .mod (.bor 3) (ci 2)) (ci 0))) (sv (ofR R)::sv (.str (af t))::sv (.str (af true))::sv (.int p)::W)=some (.bl (!t&&(p % 2==0))):=λW=>bF (by cases t<;>rfl) λ_=>c8 rfl (by decide)
   cases q:(!t&&(p % 2==0))with
   |true =>
    rw[q]at d;exact⟨.tup [.str "pairs",ofR P],.inr (.inr (.inr ⟨P,h1,h2,rfl⟩)),aD rfl (aD (c _) (cB (d _) (fL (bR rfl (bR (ac rfl e) rfl)))))⟩
   |false =>
    rw[q]at d;exact⟨_,hZ (.inr (.inr rfl)),aD rfl (aD (c _) (aD (d _) rfl))⟩
theorem nR(cal)(a0 a2 a3 a6)(base off many block)(hb:0<=base)(a8:base<=48)(ho:0<=off)(hm:0<many)(hs:off+many<=12)(hk:dR (.lst [.int 0,.int 4,.int 8,.int 0]) (.int block)=some (.int off)):∀xs left (z:List Int) k U,z.Nodup->(∀x∈z,0<=x/\x<=59)->z.length+xs.length<=100 ->
  ∃(Z:Int) (J:List Int) (k' ao:Option MV),aw (λx l=>exs cal bI (put l 9 (.val x))) xs [a0,sv (.int base),a2,a3,sv (.int left),sv (.int block),a6,sv (.int many),some (.own (z.map .int)),k,U]=.next [a0,sv (.int base),a2,a3,sv (.int Z),sv (.int block),a6,sv (.int many),some (.own (J.map .int)),k',ao]/\J.Nodup/\(∀x∈J,0<=x/\x<=59)/\J.length<=z.length+xs.length
 | [],left,z,k,U,h1,h2,_=>⟨left,z,k,U,rfl,h1,h2,pe _⟩
 |x::xs,left,z,k,U,h1,h2,h3=>by
  rw[length_cons]at h3;have m0:0<=left % many:=JN _ (by omega);have m1:left % many<many:=JK _ hm;have b1:z.length<10000:=by omega
  have Y:many<1073741824:=by omega
  rw[aw];have e:exs cal bI (put [a0,sv (.int base),a2,a3,sv (.int left),sv (.int block),a6,sv (.int many),some (.own (z.map .int)),k,U] 9 (.val x))=.next [a0,sv (.int base),a2,a3,sv (.int (left / many)),sv (.int block),a6,sv (.int many),some (.own ((if base+off+left % many∈z then z else z++[base+off+left % many]).map .int)),sv x,sv (.int (base+off+left % many))]:=by
   by_cases q:base+off+left % many∈z
   .simp[bI,exs,ex,ev,evs,evB,hk,hm,Y,bn,q]
   .simp[bI,exs,ex,ev,evs,evB,hk,hm,Y,bn,q,b1]
  rw[e];refine ax λZq kq=>?_
  obtain⟨l',J,k',o',f1,f2,f3,f4⟩:=nR cal a0 a2 a3 a6 base off many block hb a8 ho hm hs hk xs (left / many) (if base+off+left % many∈z then z else z++[base+off+left % many]) (sv x) (sv (.int (base+off+left % many))) (by
   split
   .exact h1
   .rename_i q;exact KD.mpr ⟨h1,by simp,λa ha b hb e=>by rw[I0.mp hb]at e;exact q (e▸ha)⟩) (by
   split
   .exact h2
   .intro y hy;rcases JR.mp hy with hy|hy
    .exact h2 y hy
    .rw[I0.mp hy];omega) (by
   split
   .omega
   .rw[IC,length_singleton];omega)
  refine kq ?_;refine⟨l',J,k',o',f1,f2,f3,?_⟩;rw[length_cons];split at f4
  .omega
  .rw[IC,length_singleton]at f4;omega
def sA(h:(evs cal src W).bind (aW k)=some xs)(e:aw (λx l=>exs cal body (put l i (.val x))) xs (bh src W)=.next l)(q:exs cal ms (aJ src W l)=r):exs cal (.for1 i k src body::ms) W=r:=by simp_all [ag,cx]
def B5(n)(c base blocks least)(h1:0<=base)(h2:base<=48)(h3:3<=blocks)(h4:blocks<=4)(h5:0<=least)(h6:least<=2):∃s,(cM s/\s.length<=4)/\aa defs (n+2) 45 [.val (.int c),.val (.int base),.val (.int blocks),.val (.int least)]=some (ofS s):=by
 rw[ae (d:=fI) rfl rfl];refine ax λZq kq=>?_
 have em:=qp n c 1181783497276652981;generalize iH c 1181783497276652981=l at em;have Z:0<blocks:=by omega
 have ao:blocks<1073741824:=by omega
 obtain⟨z,hs⟩:∃x,x=l % blocks:=⟨_,rfl⟩;obtain⟨size,hz⟩:∃x,x=least+l / blocks % 3:=⟨_,rfl⟩;have q0:0<=z:=by rw[hs];exact JN _ (by omega)
 have q1:z<4:=by have:=JK l Z;omega
 have s0:0<=size:=by omega
 have s1:size<=4:=by omega
 obtain⟨J,Y,a1,a2,a3,a4,a5⟩:∃J Y,0<J/\0<=Y/\Y+J<=12/\dR (.lst [.int 4,.int 4,.int 4,.int 12]) (.int z)=some (.int J)/\dR (.lst [.int 0,.int 4,.int 8,.int 0]) (.int z)=some (.int Y):=by
  obtain rfl|rfl|rfl|rfl:z=0\/z=1\/z=2\/z=3:=by omega
  .exact⟨4,0,by decide,by decide,by decide,rfl,rfl⟩
  .exact⟨4,4,by decide,by decide,by decide,rfl,rfl⟩
  .exact⟨4,8,by decide,by decide,by decide,rfl,rfl⟩
  .exact⟨12,0,by decide,by decide,by decide,rfl,rfl⟩
 obtain⟨l',U,k',o',e,g1,g2,g3⟩:=nR (aa defs (n+1)) (sv (.int c)) (sv (.int blocks)) (sv (.int least)) (sv (.int size)) base Y J z h1 h2 a2 a1 a3 a5 ((range size.toNat).map λ(k:Nat)=>PV.int (k:Int)) (l / blocks / 3) [] none none JU (λ_ h=>by cases h) (by simp;omega);have g3:U.length<=4:=by rw[tf,LZ,length_nil]at g3;omega
 refine kq ?_;refine⟨sortI U,⟨⟨rZ g1,λh hh=>g2 h (pi.mp hh)⟩,by rw[sortI_len];exact g3⟩,?_⟩;show aQ (exs (aa defs (n+1)) (_::_::_::_::_::_::_::_::[_]) [sv (.int c),sv (.int base),sv (.int blocks),sv (.int least),none,none,none,none,none,none,none])=_;refine aL (v:=.int l) (ac (vs:=[.val (.int c),.val (.int 1181783497276652981)]) (by simp[evA,ev]) em) (aL (v:=.int z) (by simp[ev,Z,hs]) (aL (v:=.int (l / blocks)) (by simp[ev,Z,ao]) (aL (v:=.int size) (by simp[ev,hz]) (aL (v:=.int (l / blocks / 3)) (by simp[ev]) (aL (v:=.int J) (by rw[dA (y:=.int z) rfl rfl];exact a4) ?_)))));simp only[bi,bj];refine kY (dj (xs:=[]) (by simp[ev,evs])) ?_;simp only[bi,bj];refine IW aQ (sA (r:=.ret (ofS (sortI U))) (xs:=(range size.toNat).map λ(k:Nat)=>PV.int (k:Int)) ?_ e ?_)
 .rw[show evs (aa defs (n+1)) [.bor 6] [sv (.int c),sv (.int base),sv (.int blocks),sv (.int least),sv (.int (l / blocks / 3)),sv (.int z),sv (.int size),sv (.int J),some (.own []),none,none]=some [.int size]from by simp[evs,ev],bind_some,gU s0 (by omega)]
 .rw[ag,bw (v:=ofS (sortI U))]
  .rfl
  .refine(aB (v:=ofL (sortI U)) ?_).trans rfl;rw[aB (v:=ofL U) rfl,gR,iS,bind_some,pg (by omega)]
noncomputable abbrev pG(G:LL):PV:=.lst (G.map ofS)
def B6(cal)(z a1 J U)(s)(G)(hG:G.length<=60)(Y:∀t∈G,t.length<=60):ev cal (.blt .any [(.comp .seq [.bor 5] [2] (.cst (.bl true)) (.blt .any [(.comp .seq [.bor 0] [1] (.cst (.bl true)) (.cmp .isIn (.bor 0) (.bor 1)))]))]) [z,a1,sv (ofS s),J,U,sv (pG G)]=some (.bl ((G.map λt=>(t.map λx=>decide (x∈s)).any id).any id)):=by
 have e:∀(xs:List Bool),aG .any [.lst (xs.map .bl)]=some (.bl (xs.any id)):=λxs=>by rw[iT,bD];rfl
 rw[aB (v:=.lst ((G.map λt=>(t.map λx=>decide (x∈s)).any id).map .bl)),e];rw[ID];refine be (vs:=[pG G]) (xs:=G) (g:=ofS) rfl rfl (by omega) λt Z=>?_
 rw[aB (v:=.lst ((t.map λx=>decide (x∈s)).map .bl)),e]
 .rfl
 rw[ID];refine be (vs:=[ofS t]) (xs:=t) (g:=.int) rfl rfl (by have:=Y t Z;omega) λx _=>?_
 simp[ev,bC,bn]
theorem iK(cal)(Z a1)(s):∀(D:List (LL)) (z:LL) (J:List (LL)) (y:Option MV),(∀t∈D.flatten,t.length<=60)->z.length+D.flatten.length<=60->J.length+D.length<=60 ->
  ∃(U:LL) (Y:List (LL)) (y':Option MV),aw (λx l=>exs cal dM (put l 5 (.val x))) (D.map pG) [Z,a1,sv (ofS s),sv (pG z),some (.own (J.map pG)),y]=.next [Z,a1,sv (ofS s),sv (pG U),some (.own (Y.map pG)),y']/\(U++Y.flatten).Perm (z++J.flatten++D.flatten)/\Y.length<=J.length+D.length
 | [],z,J,y,_,_,_=>⟨z,J,y,rfl,by simp,pe _⟩
 |G::D,z,J,y,h1,h2,h3=>by
  rw[flatten_cons]at h1 h2;rw[IC]at h2;rw[length_cons]at h3;rw[IG,aw];have et:=B6 cal Z a1 (sv (pG z)) (some (.own (J.map pG))) s G (by omega) λt ht=>h1 t (Jy _ ht)
  generalize ((G.map λt=>(t.map λx=>decide (x∈s)).any id).any id)=b at et;have ar:∀t∈D.flatten,t.length<=60:=λt ht=>h1 t (Jn _ ht)
  cases b with
  |true =>
   have e:exs cal dM (put [Z,a1,sv (ofS s),sv (pG z),some (.own (J.map pG)),y] 5 (.val (pG G)))=.next [Z,a1,sv (ofS s),sv (pG (z++G)),some (.own (J.map pG)),sv (pG G)]:=by
    refine cN ?_;simp only[bi,bj];rw[aY et,if_pos rfl];refine cN (fT ?_);rw[bx rfl rfl,iR,if_pos (by rw[tf,tf];omega),<- JH]
   rw[e];obtain⟨n',f',y',q1,q2,q3⟩:=iK cal Z a1 s D (z++G) J (sv (pG G)) ar (by rw[IC];omega) (by omega);refine⟨n',f',y',q1,q2.trans ?_,by rw[length_cons];omega⟩;rw[flatten_cons,<- Jm];refine Perm.append_right _ ?_;rw[Jm,Jm];exact Perm.append_left _ KH
  |false =>
   have e:exs cal dM (put [Z,a1,sv (ofS s),sv (pG z),some (.own (J.map pG)),y] 5 (.val (pG G)))=.next [Z,a1,sv (ofS s),sv (pG z),some (.own ((J++[G]).map pG)),sv (pG G)]:=by
    refine cN ?_;simp only[bi,bj];rw[aY et,if_neg (by decide)];have a7:J.length<10000:=by omega
    simp[exs,ex,ev,a7]
   rw[e];obtain⟨n',f',y',q1,q2,q3⟩:=iK cal Z a1 s D z (J++[G]) (sv (pG G)) ar (by omega) (by rw[IC,length_singleton];omega);rw[IC,length_singleton]at q3;refine⟨n',f',y',q1,q2.trans ?_,by rw[length_cons];omega⟩;simp
theorem lD(cal)(U):∀R A (P:List (LL)) Z x3 x4 Y,P.flatten.Perm A->P.length<=A.length->A.length+R.length<=50->(∀t∈A++R,t.length<=60) ->
  ∃(P':List (LL)) (y2 y3 y4 y5:Option MV),aw (λx l=>exs cal dN (put l 2 (.val x))) (R.map ofS) [U,sv (.lst (P.map pG)),Z,x3,x4,Y]=.next [U,sv (.lst (P'.map pG)),y2,y3,y4,y5]/\P'.flatten.Perm (A++R)/\P'.length<=(A++R).length
 | [],A,P,Z,x3,x4,Y,p,hl,_,_=>⟨P,Z,x3,x4,Y,rfl,by simpa using p,by simpa using hl⟩
 |s::R,A,P,Z,x3,x4,Y,p,hl,h1,h2=>by
  rw[length_cons]at h1;rw[IG,aw];refine ax λZq kq=>?_
  have hP:=p.length_eq;obtain⟨z,J,y,e1,e2,e3⟩:=iK cal U (sv (.lst (P.map pG))) s P [] [] Y (λt ht=>h2 t (Jy _ (p.mem_iff.mp ht))) (by rw[length_nil,hP];omega) (by rw[length_nil];omega);simp only[nil_append,flatten_nil]at e2;have hn:=e2.length_eq;rw[IC]at hn;rw[length_nil,JY]at e3;have e:exs cal dN (put [U,sv (.lst (P.map pG)),Z,x3,x4,Y] 2 (.val (ofS s)))=.next [U,sv (.lst ((J++[z++[s]]).map pG)),sv (ofS s),sv (pG z),some (.own (J.map pG)),y]:=by
   refine cI (v:=pG []) (by simp[ev,evs]) (eA (dj (xs:=[]) (by simp[ev,evs])) (sA (xs:=P.map pG) (by simp[evs,ev]) e1 (cN (fT ?_))));have q:ev cal (.bin .add (.bor 3) (.lst [.var 2])) [U,sv (.lst (P.map pG)),sv (ofS s),sv (pG z),some (.own (J.map pG)),y]=some (pG (z++[s])):=by
    rw[bx (x:=pG z) (y:=.lst [ofS s]) rfl (by simp[ev,evs]),iR,if_pos (by simp;omega)];simp
   show ev cal _ [U,sv (.lst (P.map pG)),sv (ofS s),sv (pG z),some (.own (J.map pG)),y]=_;rw[bx (x:=.lst (J.map pG)) (y:=.lst [pG (z++[s])]) rfl (by rw[ev,evs,q];simp[evs]),iR,if_pos (by simp;omega)];simp
  refine kq ?_;rw[e];obtain⟨P',y2,y3,y4,y5,f1,f2,f3⟩:=lD cal U R (A++[s]) (J++[z++[s]]) (sv (ofS s)) (sv (pG z)) (some (.own (J.map pG))) y (by
   rw[flatten_append,flatten_singleton,<- Jm];exact Perm.append_right _ ((KH.trans e2).trans p)) (by simp;omega) (by simp;omega) (by simpa using h2)
  exact⟨P',y2,y3,y4,y5,f1,by simpa using f2,by simpa using f3⟩
def SmR(R:LL):Prop:=ay R/\R.length<=8/\R.flatten.length<=60
def nS{R:LL}(g:SmR R)(r):SmR (bhd h R r):=by
 refine⟨gG g.1 r,IH ?_ g.2.1,IH (j_ h R r) g.2.2⟩;cases r<;>first|exact pe _|(cases h<;>first|exact KI _ _|(show(sortT _).length<=_;rw[sortT_len,tf];exact pe _))
def B7(n)(R)(g:SmR R):∃D:List (LL),aa defs (n+1) 49 [.val (ofR R)]=some (.lst (D.map ofR))/\D.length<=8/\D.flatten.length<=8/\D.flatten.flatten.length<=60/\∀Q∈D,SmR Q:=by
 obtain⟨P,y2,y3,y4,y5,Z,U,e3⟩:=lD (aa defs n) (sv (ofR R)) R [] [] none none none none (by simp) (pe _) (by have:=g.2.1;simp;omega) (λt Y=>aA (g.1.1 t (by simpa using Y)));rw[nil_append]at U e3;have J:(P.map sortT).flatten.Perm R:=by
  refine Perm.trans ?_ U;clear Z U e3
  induction P with
  |nil=>exact .nil
  |cons G P ih=>simp only[IG,flatten_cons];exact(sortT_perm G).append ih
 have hf:=J.flatten.length_eq;have hm:∀Q∈P.map sortT,Q.Sublist (P.map sortT).flatten:=λQ z=>sublist_flatten_of_mem z
 have hb:∀Q∈P.map sortT,SmR Q:=λQ z=>by
  have l1:=(hm Q z).length_le;have l2:=(sublist_flatten_of_mem (KR (f:=flatten) z)).length_le;rw[<- flatten_flatten]at l2;rw[J.length_eq]at l1;rw[hf]at l2;have:=g.2.1;have:=g.2.2;refine⟨⟨λt Y=>g.1.1 t (J.mem_iff.mp ((hm Q z).subset Y)),?_,by omega⟩,by omega,by omega⟩;obtain⟨G,_,rfl⟩:=mem_map.mp z;exact sortT_rises G
 refine⟨P.map sortT,?_,by rw[tf];have:=g.2.1;omega,by rw[J.length_eq];exact g.2.1,by rw[hf];exact g.2.2,hb⟩;rw[ae (d:=lq) rfl rfl];show aQ (exs (aa defs n) [.set 1 _,.for1 2 .seq [.bor 0] dN,.ret _] [sv (ofR R),none,none,none,none,none])=_;refine aL (v:=.lst []) (by simp[ev,evs]) (IW aQ (sA (r:=.ret (.lst ((P.map sortT).map ofR))) (xs:=R.map ofS) (by simp[evs,ev]) Z ?_));rw[ag,bw (v:=.lst ((P.map sortT).map ofR))]
 .rfl
 rw[ID];refine be (vs:=[.lst (P.map pG)]) (xs:=P) (g:=pG) rfl rfl (by have:=g.2.1;omega) λG hG=>?_
 have hl:G.length<64:=by
  have:=(hb (sortT G) (KR hG)).2.1;rw[sortT_len]at this;omega
 refine(aB (v:=.lst ((sortT G).map ofS)) ?_).trans rfl;rw[aB (v:=pG G) rfl,gR,iS,bind_some,gp hl]
def Ho:∀(a b:List Int),a.Nodup->a ⊆ b->a.length<=b.length:=λa=>by
 induction a with
 |nil=>intro b _ _;exact Ji _
 |cons x a ih =>
  intro b Y hs;obtain⟨Z,n2⟩:=Jl.mp Y;have z:=hs (.head _);have:=ih (b.erase x) n2 λy U=>by
   have J:y≠x:=λe=>Z (e▸U)
   exact(mem_erase_of_ne J).mpr (hs (.tail _ U))
  rw[length_erase_of_mem z]at this;have:=length_pos_of_mem z;rw[length_cons];omega
def xm{l:List Int}(h:l.Pairwise (· < ·)):l.Nodup:=h.imp λh e=>by omega
def vT{R:LL} :(∃s∈bhd t R (some h),k∈s)->(∃s∈R,k∈s)/\k≠h:=by
 rintro ⟨s,hs,z⟩;cases t with
 |true =>
  obtain⟨h1,h2⟩:=JG.mp (show s∈R.filter _ from hs);exact⟨⟨s,h1,z⟩,λe=>by subst e;simp[z]at h2⟩
 |false =>
  obtain⟨t,J,rfl⟩:=mem_map.mp (eQ.mp (show s∈sortT _ from hs));obtain⟨h1,h2⟩:=JG.mp z;exact⟨⟨t,J,h1⟩,by simpa using h2⟩
def uE{R:LL}(U:h∈ab R):(ab (bhd t R (some h))).length+1<=(ab R).length:=by
 have:=Ho (h::ab (bhd t R _)) _ (Jl.mpr ⟨λz=>(vT (bL.mp z)).2 rfl,xm (g8 _)⟩) λy J=>by
  rcases IB.mp J with rfl|J
  .exact U
  .exact bL.mpr (vT (bL.mp J)).1
 simpa using this
theorem WP.le{d:Nat}{v:PV}(h:WP d v):∀{e:Nat},d<=e->WP e v:=by
 induction h with
 |leaf h=>exact λ_=>.leaf h
 |one k r _ ih=>intro e z;obtain⟨e,rfl,hx⟩:=up1 z;exact .one k r (ih hx)
 |cases rows Y _ ih=>intro e z;obtain⟨e,rfl,hx⟩:=up1 z;exact .cases rows Y λr J=>ih r J hx
 |parts rows a b c d _ ih=>intro e z;obtain⟨e,rfl,hx⟩:=up1 z;exact .parts rows a b c d λr J=>ih r J hx
 |fewer A a b _ ih=>intro e z;obtain⟨e,rfl,hx⟩:=up1 z;exact .fewer A a b (ih hx)
 |either A B a b c d _ _ ih U=>intro e z;obtain⟨e,rfl,hx⟩:=up1 z;exact .either A B a b c d (ih hx) (U hx)
def qB(k:Nat)(R:LL)(t w:Bool)(v:PV):Prop:=
 (w=t/\∃h s,v=.tup [.str (if t=true then "bite" else "knot"),.int h,s]/\WP k s)\/(w=false/\[]∈R/\v=.tup [.str "whole"])\/(w=true/\R=[]/\v=.tup [.str "bare"])\/(w=(!t)/\WP (k+1) v)
theorem qB.wp{R:LL}(h:qB k R t w v):WP (k+1) v:=by
 rcases h with⟨_,a,s,rfl,h⟩|⟨_,_,rfl⟩|⟨_,_,rfl⟩|⟨_,h⟩
 .exact .one t (some a) h
 .exact .leaf (hZ (.inr (.inl rfl)))
 .exact .leaf (hZ (.inl rfl))
 .exact h
def Ah(cal:Cal)(k:Nat):Prop:=∀R t,SmR R->(ab R).length<=k->∃w v,qB k R t w v/\cal 44 [.val (ofR R),.val (.str (af t))]=some (.tup [.str (af w),v])
theorem nT(cal)(hT:Ah cal k)(R)(g:SmR R)(hw:¬ []∈R)(hb:R≠[])(hk:(ab R).length<=k+1)(t)(eK:∀h,cal 38 [.val (ofR R),.val (.int h)]=some (ofR (oA h R)))(eB:∀h,cal 39 [.val (ofR R),.val (.int h)]=some (ofR (fq h R))):∀(hs:List Int) (J:List (Int×Option Int×PV)) x y,(∀h∈hs,h∈ab R)->J.length+hs.length<=100->(∀r∈J,WP k r.2.2) ->
  (∃h s,WP (k+1) s/\aw (λv l=>exs cal c7 (put l 3 (.val v))) (hs.map .int) [sv (ofR R),sv (.str (af t)),some (.own (J.map a_)),x,y]=.ret (.tup [.str (af t),.tup [.str (if t=true then "bite" else "knot"),.int h,s]])) \/
  ∃(U:List (Int×Option Int×PV)) (x' y':Option MV),aw (λv l=>exs cal c7 (put l 3 (.val v))) (hs.map .int) [sv (ofR R),sv (.str (af t)),some (.own (J.map a_)),x,y]=.next [sv (ofR R),sv (.str (af t)),some (.own (U.map a_)),x',y']/\U.length<=100/\∀r∈U,WP k r.2.2
 | [],J,x,y,_,Y,Z=>.inr ⟨J,x,y,rfl,by simpa using Y,Z⟩
 |h::hs,J,x,y,hm,Y,Z=>by
  rw[length_cons]at Y;have hh:=hm h (.head _);obtain⟨w,v,ok,e⟩:=hT (bhd t R (some h)) (!t) (nS g _) (by have:=uE (t:=t) hh;omega);rw[IG,aw];have e1:ex cal (.ite (.cmp .eq (.bor 1) (cs "weaver")) [.set 4 (.call 44 [(.call 38 [.bor 0,.bor 3]),(cs "moth")])] [.set 4 (.call 44 [(.call 39 [.bor 0,.bor 3]),(cs "weaver")])]) [sv (ofR R),sv (.str (af t)),some (.own (J.map a_)),sv (.int h),y]=.next [sv (ofR R),sv (.str (af t)),some (.own (J.map a_)),sv (.int h),sv (.tup [.str (af w),v])]:=by
   cases t
   .rw[aY (p:=true) rfl];exact cN (fT (ac (fU (ac rfl (eK h)) rfl) e))
   .rw[aY (p:=false) rfl];exact cN (fT (ac (fU (ac rfl (eB h)) rfl) e))
  by_cases q:w=t
  .subst q;refine .inl ⟨h,v,ok.wp,?_⟩;rw[show exs cal c7 (put [sv (ofR R),sv (.str (af w)),some (.own (J.map a_)),x,y] 3 (.val (.int h)))=.ret (.tup [.str (af w),.tup [.str (if w=true then "bite" else "knot"),.int h,v]])from eA e1 (by cases w<;>exact sn rfl rfl)]
  .obtain rfl:w=(!t):=by cases w<;>cases t<;>simp_all
   obtain⟨a,s,rfl,ao⟩:∃(a:Int) (s:PV),v=.tup [.str (if (!t)=true then "bite" else "knot"),.int a,s]/\WP k s:=by
    rcases ok with⟨_,z⟩|⟨a,b,_⟩|⟨a,b,_⟩|⟨a,_⟩
    .exact z
    .cases t with
     |false=>cases a
     |true=>exact absurd (JG.mp b).1 hw
    .cases t with
     |true=>cases a
     |false =>
      have:=IW List.length b;rw[show(bhd false R (some h)).length=R.length from by show(sortT _).length=_;rw[sortT_len,tf]]at this;exact absurd (Kk.mp this) hb
    .cases t<;>cases a
   have ar:(J.map a_).length<10000:=by rw[tf];omega
   have e2:exs cal c7 (put [sv (ofR R),sv (.str (af t)),some (.own (J.map a_)),x,y] 3 (.val (.int h)))=.next [sv (ofR R),sv (.str (af t)),some (.own ((J++[(h,some a,s)]).map a_)),sv (.int h),sv (.tup [.str (af (!t)),.tup [.str (if (!t)=true then "bite" else "knot"),.int a,s]])]:=eA e1 (by
    rw[JH];cases t<;>exact ul rfl (cN (Cy (v:=a_ (h,some a,s)) rfl rfl ar)))
   rw[e2];exact nT cal hT R g hw hb hk t eK eB hs (J++[(h,some a,s)]) _ _ (λy hy=>hm y (.tail _ hy)) (by rw[IC,length_singleton];omega) λr aO=>by
    rcases JR.mp aO with z|z
    .exact Z r z
    .rw[I0.mp z];exact ao
theorem vU(n):∀k,Ah (aa defs (n+k+2)) k
 |k,R,t,g,U=>by
  by_cases hw:[]∈R
  .refine⟨false,_,.inr (.inl ⟨rfl,hw,rfl⟩),?_⟩;rw[ae (d:=dZ) rfl rfl];exact cB (um ((iA [] R).trans (by rw[IP hw])) rfl rfl) rfl
  .have hi:=(iA [] R).trans (by rw[Jd hw]);by_cases Y:R=[]
   .refine⟨true,_,.inr (.inr (.inl ⟨rfl,Y,rfl⟩)),?_⟩;rw[ae (d:=dZ) rfl rfl];subst Y
    rfl
   .match k,U with
    |0,U =>
     obtain⟨s,hs⟩:=exists_mem_of_ne_nil R Y;obtain⟨x,hx⟩:=exists_mem_of_ne_nil s λz=>hw (z▸hs)
     have:=bL.mpr ⟨s,hs,hx⟩
     simp_all
    |k+1,U =>
     have J:((R.length:Int)==0)=false:=by
      cases R<;>grind
     have ao:=aA (aP g.1.1);rcases nT (aa defs (n+k+2)) (vU n k) R g hw Y U t (λh=>jb (n+k+1) R h g.1) (λh=>g9 (n+k+1) R h (by have:=g.2.1;omega)) (ab R) [] none none (λh hh=>hh) (by simp;omega) (λr Z=>by cases Z)with⟨h,s,hs,e⟩|⟨rows,x,y,e,h1,h2⟩
     .refine⟨t,_,.inl ⟨rfl,h,s,rfl,hs⟩,?_⟩;rw[ae (d:=dZ) rfl rfl];refine aD (um hi rfl rfl) (aD (qy (xs:=R.map ofS) (by rw[tf,J]) rfl) (kY (dj (xs:=[]) rfl) ?_));exact IW aQ (E5 (xs:=(ab R).map .int) (E6 (ac rfl (cQ (n+(k+1)) R g.1.1))) e)
     .refine⟨!t,.tup [.str "cases",.tup (rows.map a_)],.inr (.inr (.inr ⟨rfl,.cases rows (by omega) λr Z=>(h2 r Z).le (by omega)⟩)),?_⟩;rw[ae (d:=dZ) rfl rfl];refine aD (um hi rfl rfl) (aD (qy (xs:=R.map ofS) (by rw[tf,J]) rfl) (kY (dj (xs:=[]) rfl) ?_));exact IW aQ (sA (r:=.ret (.tup [.str (af !t),.tup [.str "cases",.tup (rows.map a_)]])) (xs:=(ab R).map .int) (E6 (ac rfl (cQ (n+(k+1)) R g.1.1))) e (by cases t<;>exact iI rfl))
def Ff(h1:ev cal e W=some w)(h2:evX cal x W=some (y,l))(z:cal g [.val w,.val y]=some r):evX cal (.fn2 g e x) W=some (r,l):=by simp_all [evX]
def Fg(z:(W[i]?).join=some (.own ys))(h:evX cal x W=some (v,l))(ho:(l[i]?).join=some (.own xs))(J:xs.length<10000)(k:exs cal ms (put l i (.own (xs++[v])))=r):exs cal (.appX i x::ms) W=r:=by
 rw[ag,ex,z]
 simp_all
structure nU(cal:Cal):Prop where
 next:Ac cal
 hol:∀R,SmR R->cal 40 [.val (ofR R)]=some (ofL (ab R))
 deed:∀R h r,SmR R->cal 47 [.val (ofR R),.val (.str (af h)),.val (cF r)]=some (ofR (bhd h R r))
 reply:∀R p,SmR R->∃r,cal 48 [.val (ofR R),.val (.int p)]=some (cF r)
 split:∀R,SmR R->∃D:List (LL),cal 49 [.val (ofR R)]=some (.lst (D.map ofR))/\D.length<=8/\D.flatten.length<=8/\D.flatten.flatten.length<=60/\∀Q∈D,SmR Q
 tried:Ah cal 4
 plain:∀R t h p,SmR R->∃v,nw v/\cal 50 [.val (ofR R),.val (.str (af t)),.val (.str (af h)),.val (.int p)]=some v
def nV(n):nU (aa defs (n+6)):=⟨Fc (n+4),λR g=>cQ (n+5) R g.1.1,λR h r g=>l7 (n+4) R g.1 h r,λR p g=>Af (n+3) R g.1 p,λR g=>B7 (n+5) R g,vU n 4,λR t h p g=>Ag (n+3) R g.1 t h p⟩
def iL(cal:Cal)(j:Nat):Prop:=∀ns R (t h:Bool),SmR R->∃v z,cal (54+2000) [.mutD (.p ns),.val (ofR R),.val (.str (af t)),.val (.str (af h)),.val (.int j)]=some (.tup [v,.dI (.p z)])/\WP (7+j) v
theorem lE(cal)(C:nU cal)(G:iL cal 0)(R)(g:SmR R)(h):∀(hs ns:List Int) (J:List (Int×Option Int×PV)) (Y Z x7:Option MV),J.length+hs.length<=100->(∀r∈J,WP 7 r.2.2) ->
  ∃(ar:List Int) (U:List (Int×Option Int×PV)) (y5 y6 y7:Option MV),aw (λx l=>exs cal fR (put l 5 (.val x))) (hs.map .int) [some (.mutD (.p ns)),sv (ofR R),sv (.str (af h)),some (.own (J.map a_)),sv (.str (af !h)),Y,Z,x7]=.next [some (.mutD (.p ar)),sv (ofR R),sv (.str (af h)),some (.own (U.map a_)),sv (.str (af !h)),y5,y6,y7]/\U.length<=100/\∀r∈U,WP 7 r.2.2
 | [],ns,J,Y,Z,x7,hl,hr=>⟨ns,J,Y,Z,x7,rfl,by simpa using hl,hr⟩
 |a::hs,ns,J,Y,Z,x7,hl,hr=>by
  refine ax λZq kq=>?_
  rw[length_cons]at hl;obtain⟨y,n1,_,e1⟩:=C.next ns;have g1:=nS (h:=!h) g (some a);obtain⟨r,e2⟩:=C.reply (bhd (!h) R (some a)) y g1;obtain⟨v,n2,e3,hv⟩:=G n1 (bhd h (bhd (!h) R (some a)) r) (!h) h (nS g1 r);have a2:(J.map a_).length<10000:=by rw[tf];omega
  have e:exs cal fR (put [some (.mutD (.p ns)),sv (ofR R),sv (.str (af h)),some (.own (J.map a_)),sv (.str (af !h)),Y,Z,x7] 5 (.val (.int a)))=.next [some (.mutD (.p n2)),sv (ofR R),sv (.str (af h)),some (.own (J.map a_++[a_ (a,r,v)])),sv (.str (af !h)),sv (.int a),sv (ofR (bhd (!h) R (some a))),sv (cF r)]:=
   cI (ac rfl (C.deed R (!h) (some a) g)) (k4 (Ff rfl (xc1 e1) e2) (Fg rfl (k5 (cR rfl (cR rfl (iV (xc5 (fU (ac rfl (C.deed _ h r g1)) rfl) rfl rfl rfl e3))))) rfl a2 rfl))
  refine kq ?_;rw[IG,aw,e];have:=lE cal C G R g h hs n2 (J++[(a,r,v)]) (sv (.int a)) (sv (ofR (bhd (!h) R (some a)))) (sv (cF r)) (by rw[IC,length_singleton];omega) λq hq=>by
   rcases JR.mp hq with z|z
   .exact hr q z
   .rw[I0.mp z];exact hv
  rw[JH]at this;exact this
def Ai(n)(C:nU (aa defs n))(G:iL (aa defs n) 0)(ns)(R)(g:SmR R)(h):∃v J,aa defs (n+1) (51+2000) [.mutD (.p ns),.val (ofR R),.val (.str (af h))]=some (.tup [v,.dI (.p J)])/\WP 8 v:=by
 obtain⟨J,z,U,Y,Z,e,h1,h2⟩:=lE (aa defs n) C G R g h (ab R) ns [] none none none (by have:=aA (aP g.1.1);simp;omega) (λr hr=>by cases hr);refine⟨.tup [.str "cases",.tup (z.map a_)],J,?_,.cases z (by omega) h2⟩;rw[gq (d:=iF) (by decide) rfl rfl];have k:exs (aa defs n) iF.body [some (.mutD (.p ns)),sv (ofR R),sv (.str (af h)),none,none,none,none,none]=.retM (.tup [.str "cases",.tup (z.map a_)]) [some (.mutD (.p J)),sv (ofR R),sv (.str (af h)),some (.own (z.map a_)),sv (.str (af !h)),U,Y,Z]:=eA (dj (xs:=[]) rfl) (cI (v:=.str _) (by cases h<;>rfl) (sA (E6 (ac rfl (C.hol R g))) e (nP rfl)));exact IW _ k
def x_tupOf(h:evX cal x W=some (.lst xs,l)):evX cal (.tupOf x) W=some (.tup xs,l):=by simp_all [evX]
def x_compS(h:(evs cal [src] W).bind (aW .seq)=some xs)(z:xs.length<=10000)(h2:dq cal js k e f mask es xs W=some (ws,l)):evX cal (.compS src js k e f mask es) W=some (.lst ws,l):=by
 obtain⟨vs,J,U⟩:=gf.mp h;rw[evX,J,bind_some,U,bind_some,if_pos z,h2];rfl
theorem Cz (cal) (G:iL cal j) (a1 a2 J U Y):∀D ns,(∀Q∈D,SmR Q)->∃(z:List (LL×PV)) (ao:List Int),dq cal [0,4] .pair (.var 0) 54 [true,false,false,false,false] [.bor 1,.bor 0,(cs "weaver"),(cs "moth"),.bor 2] (D.map ofR) [some (.mutD (.p ns)),a1,a2,J,sv (.int j),U,Y]=some (z.map aR,[some (.mutD (.p ao)),a1,a2,J,sv (.int j),U,Y])/\z.map (·.1)=D/\∀r∈z,WP (7+j) r.2
 | [],ns,_=>⟨[],ns,rfl,rfl,λr Z=>by cases Z⟩
 |Q::D,ns,hD=>by
  refine ax λZq kq=>?_
  obtain⟨v,n1,e,hv⟩:=G ns Q false true (hD Q (.head _));obtain⟨z,n2,e2,h1,h2⟩:=Cz cal G a1 a2 J U Y D n1 λq hq=>hD q (.tail _ hq)
  refine kq ?_;refine⟨(Q,v)::z,n2,?_,by rw[IG,h1],λr Z=>?_⟩
  .rw[IG,dq,show evM cal [true,false,false,false,false] [.bor 1,.bor 0,(cs "weaver"),(cs "moth"),.bor 2] (kC [0,4] [some (.mutD (.p ns)),a1,a2,J,sv (.int j),U,Y] (ofR Q))=some [.mutD (.p ns),.val (ofR Q),.val (.str (af false)),.val (.str (af true)),.val (.int j)]from rfl,show ev cal (.var 0) (kC [0,4] [some (.mutD (.p ns)),a1,a2,J,sv (.int j),U,Y] (ofR Q))=some (ofR Q)from rfl,bind_some,bind_some,e];show(Option.bind (some (.tup [ofR Q,v])) λr=>(Option.bind (some [some (.mutD (.p n1)),a1,a2,J,sv (.int j),U,Y]) λl=>(dq cal _ _ _ _ _ _ _ l).map λp=>(r::p.1,p.2)))=_;rw[bind_some,bind_some,e2]
   rfl
  .rcases IB.mp Z with rfl|Z
   .exact hv
   .exact h2 r Z
def uF(C:nU cal){R:LL}(g:SmR R)(z:ev cal a W=some (.bl p))(U:ev cal (.bor 1) W=some (ofR R))(J:evA cal [.bor 1] W=some [.val (ofR R)]):∃b,ev cal (.and a (.cmp .lt (.blt .len [(.call 40 [.bor 1])]) (ci 5))) W=some (.bl b)/\(b=true->(ab R).length<=4):=by
 refine⟨p&&decide ((((ab R).map PV.int).length:Int)<5),bF z λ_=>(cD (aB (ac J (C.hol R g))) (fc _ _ _)).trans rfl,λh=>?_⟩;have:=Jx (oe.mp h).2;rw[tf]at this;omega
def qC(cal:Cal)(f j:Nat):Prop:=∀ns R (t:Bool) (p:Int),0<=p->SmR R->∃v z,cal (f+2000) [.mutD (.p ns),.val (ofR R),.val (.str (af t)),.val (.int p),.val (.int j)]=some (.tup [v,.dI (.p z)])/\WP (8+j) v
def xn(n j)(C:nU (aa defs n))(G:iL (aa defs n) j)(K:∀ns R h,SmR R->∃v z,aa defs n (51+2000) [.mutD (.p ns),.val (ofR R),.val (.str (af h))]=some (.tup [v,.dI (.p z)])/\WP 8 v):qC (aa defs (n+1)) 52 j:=λns R t p hp g=>by
 suffices h:∃v z x1 x2 x3 x4 W,exs (aa defs n) fS.body [some (.mutD (.p ns)),sv (ofR R),sv (.str (af t)),sv (.int p),sv (.int j),none,none]=.retM v (some (.mutD (.p z))::x1::x2::x3::x4::W)/\WP (8+j) v by
  refine ax λZq kq=>?_
  obtain⟨v,z,x1,x2,x3,x4,W,e,hv⟩:=h;refine kq ?_;exact⟨v,z,by rw[gq (d:=fS) (by decide) rfl rfl];exact IW (rY _) e,hv⟩
 cases t with
 |true =>
  obtain⟨r,U⟩:=C.reply R p g;obtain⟨v,Z,e2,hv⟩:=G ns (bhd true R r) false true (nS g r);exact⟨_,_,_,_,_,_,_,iJ rfl (cI (ac rfl U) (fV (k5 (cR rfl (cR rfl (iV (xc5 (fU (ac rfl (C.deed R true r g)) rfl) rfl rfl rfl e2))))))),(WP.one true r hv).le (by omega)⟩
 |false =>
  obtain⟨b,hb,_⟩:=uF (cal:=aa defs n) C g (a:=.cmp .eq (.bin .mod (.bor 3) (ci 2)) (ci 0)) (W:=[some (.mutD (.p ns)),sv (ofR R),sv (.str (af false)),sv (.int p),sv (.int j),none,none]) (c8 rfl (by decide)) rfl rfl;cases b with
  |true =>
   obtain⟨v,Z,U,hv⟩:=K ns R true g;exact⟨_,_,_,_,_,_,_,ii rfl (iJ hb (fV (xc3 rfl rfl U))),hv.le (by omega)⟩
  |false =>
   obtain⟨D,U,h1,h2,h3,h4⟩:=C.split R g;obtain⟨J,Z,e2,Y,h6⟩:=Cz (aa defs n) G (sv (ofR R)) (sv (.str (af false))) (sv (.int p)) none (sv (.lst (D.map ofR))) D ns h4;have hl:J.length=D.length:=by rw[<- Y,tf]
   refine⟨.tup [.str "parts",.tup (J.map aR)],Z,_,_,_,_,_,ii rfl (ii hb (cI (ac rfl U) (fV (k5 (cR rfl (iV (x_tupOf (x_compS (xs:=D.map ofR) rfl (by rw[tf];omega) e2)))))))),(WP.parts J (by omega) (by rw[Y];omega) (by rw[Y];omega) (λr hr=>?_) h6).le (by omega)⟩;have:=h4 r.1 (Y▸KR hr);exact⟨this.1,IH this.2.2 (by decide)⟩
def Aj{A R:LL}(h:A.Sublist R):A.flatten.length<=R.flatten.length:=by
 induction h with
 |slnil=>exact pe _
 |cons a _ ih=>rw[flatten_cons,IC];omega
 |cons_cons a _ ih=>rw[flatten_cons,IC,flatten_cons,IC];omega
def Fh{A R:LL}(g:SmR R)(h:A.Sublist R):SmR A:=by
 have J:=h.length_le;have U:=Aj h;have:=g.2.1;have:=g.2.2;exact⟨⟨λt z=>g.1.1 t (h.subset z),g.1.2.1.sublist h,by omega⟩,by omega,by omega⟩
def B8(cal)(J a2 U)(W)(R)(g:SmR R)(p):∃A,SmR A/\ev cal (.blt .tupleOf [(.comp .rng [(.blt .len [.bor 1])] [1,3] (.cmp .gt (.bin .mod (.bin .shr (.bor 2) (.bin .add (.bor 0) (ci 8))) (ci 4)) (ci 0)) (.idx (.bor 1) (.bor 0)))]) (J::sv (ofR R)::a2::sv (.int p)::U::W)=some (ofR A):=by
 let q:Nat->Bool:=λk=>decide (0<p / 2 ^ (k+8) % 4)
 refine⟨((range R.length).filter q).map λk=>R.getD k [],Fh g ?_,?_⟩
 .have h1:((range R.length).map λk=>R.getD k [])=R:=by
   refine ext_getElem (by simp) λi h1 h2=>?_
   simp_all
  have:=(filter_sublist (p:=q) (l:=range R.length)).map λk=>R.getD k []
  rw[h1]at this;exact this
 .have hR:=g.2.1;have Y:ev cal (.blt .len [.bor 1]) (J::sv (ofR R)::a2::sv (.int p)::U::W)=some (.int ((R.map ofS).length:Int)):=rfl;rw[tf]at Y;refine(aB (v:=.lst ((((range R.length).filter q).map λk=>R.getD k []).map ofS)) ?_).trans rfl;rw[ev,evs,Y,bind_some,evs,map_some,bind_some,gU (by omega) (by omega),bind_some,if_pos (by simp;omega),Int.toNat_natCast,b8 (p:=q) (h:=λk=>ofS (R.getD k [])),ID]
  .rfl
  .intro k _;have z:((k:Int)+8).toNat=k+8:=by omega
   have Z:(0:Int)<=(k:Int)+8:=by omega
   have s1:dQ .shr (.int p) (.int ((k:Int)+8))=some (.int (p / 2 ^ (k+8))):=by
    show(if (0:Int)<=(k:Int)+8 then some (PV.int (p / 2 ^ ((k:Int)+8).toNat))else none)=_;rw[if_pos Z,z]
   exact kT ((cD ((bx ((bx (y:=.int ((k:Int)+8)) rfl rfl).trans s1) rfl).trans rfl) rfl).trans rfl)
  .intro k z _;have z:k<R.length:=by simpa using z
   simp[ev,bC,ofR,dX,z]
def vV{D:List (LL)}{i:Int}(z:0<=i)(h1:i<D.length):∃Q∈D,dR (.lst (D.map ofR)) (.int i)=some (ofR Q):=by
 have h2:i.toNat<D.length:=by omega
 refine⟨D[i.toNat],LF _,?_⟩;rw[zE,dX z (by rw[tf];exact h1)];simp[h2]
def sB(n j)(C:nU (aa defs n))(G:iL (aa defs n) j)(K:∀ns R h,SmR R->∃v z,aa defs n (51+2000) [.mutD (.p ns),.val (ofR R),.val (.str (af h))]=some (.tup [v,.dI (.p z)])/\WP 8 v):qC (aa defs (n+1)) 53 j:=λns R t p hp g=>by
 suffices h:∃v z x1 x2 x3 x4 W,exs (aa defs n) d_.body [some (.mutD (.p ns)),sv (ofR R),sv (.str (af t)),sv (.int p),sv (.int j),none,none,none,none,none,none]=.retM v (some (.mutD (.p z))::x1::x2::x3::x4::W)/\WP (8+j) v by
  refine ax λZq kq=>?_
  obtain⟨v,z,x1,x2,x3,x4,W,e,hv⟩:=h;refine kq ?_;exact⟨v,z,by rw[gq (d:=d_) (by decide) rfl rfl];exact IW (rY _) e,hv⟩
 have U:ev (aa defs n) (.cmp .eq (.bin .mod (.bor 3) (ci 3)) (ci 0)) [some (.mutD (.p ns)),sv (ofR R),sv (.str (af t)),sv (.int p),sv (.int j),none,none,none,none,none,none]=some (.bl (p % 3==0)):=c8 rfl (by decide);by_cases q0:(p % 3==0)=true
 .rw[q0]at U;obtain⟨A,gA,J⟩:=B8 (aa defs n) (some (.mutD (.p ns))) (sv (.str (af t))) (sv (.int j)) [none,none,none,none,none,none] R g p;obtain⟨v,n1,Z,hv⟩:=G ns A t false gA;exact⟨_,_,_,_,_,_,_,iJ U (cI J (fV (k5 (cR rfl (cR rfl (iV (xc5 rfl rfl rfl rfl Z))))))),(WP.fewer A gA.1 (IH gA.2.2 (by decide)) hv).le (by omega)⟩
 .rw[JI]at q0;rw[q0]at U;cases t with
  |false =>
   obtain⟨r,J⟩:=C.reply R (p / 3) g;obtain⟨v,n1,Z,hv⟩:=G ns (bhd false R r) true false (nS g r);exact⟨_,_,_,_,_,_,_,ii U (iJ rfl (cI (ac rfl J) (fV (k5 (cR rfl (cR rfl (iV (xc5 (fU (ac rfl (C.deed R false r g)) rfl) rfl rfl rfl Z)))))))),(WP.one false r hv).le (by omega)⟩
  |true =>
   obtain⟨b,hb,_⟩:=uF (cal:=aa defs n) C g (a:=.cmp .eq (.bin .mod (.bor 3) (ci 3)) (ci 1)) (W:=[some (.mutD (.p ns)),sv (ofR R),sv (.str (af true)),sv (.int p),sv (.int j),none,none,none,none,none,none]) (c8 rfl (by decide)) rfl rfl;cases b with
   |true =>
    obtain⟨v,n1,J,hv⟩:=K ns R false g;exact⟨_,_,_,_,_,_,_,ii U (ii rfl (iJ hb (fV (xc3 rfl rfl J)))),hv.le (by omega)⟩
   |false =>
    obtain⟨D,J,h1,h2,h3,Y⟩:=C.split R g;have c2:ev (aa defs n) (.cmp .lt (.blt .len [.bor 7]) (ci 2)) [some (.mutD (.p ns)),sv (ofR R),sv (.str (af true)),sv (.int p),sv (.int j),none,none,sv (.lst (D.map ofR)),none,none,none]=some (.bl (decide (((D.map ofR).length:Int)<2))):=rfl;rw[tf]at c2;by_cases q2:(D.length:Int)<2
    .rw[IP q2]at c2;exact⟨_,_,_,_,_,_,_,ii U (ii rfl (ii hb (cI (ac rfl J) (iJ c2 (nP rfl))))),.leaf (hZ (.inr (.inr rfl)))⟩
    .refine ax λZq kq=>?_
     rw[Jd q2]at c2;have hd:(0:Int)<D.length:=by omega
     obtain⟨Q1,m1,i1⟩:=vV (D:=D) (i:=p / 3 % D.length) (JN _ (by omega)) (JK _ hd);obtain⟨Q2,m2,i2⟩:=vV (D:=D) (i:=(p / 3+1) % D.length) (JN _ (by omega)) (JK _ hd);obtain⟨v1,n1,Z,a7⟩:=G ns Q1 false false (Y Q1 m1);obtain⟨v2,n2,e3,a8⟩:=G n1 Q2 false false (Y Q2 m2);have md:∀x,dQ .mod (.int x) (.int ((D.map ofR).length:Int))=some (.int (x % D.length)):=λx=>by
      rw[tf,qj,if_pos hd]
     refine kq ?_;exact⟨_,_,_,_,_,_,_,ii U (ii rfl (ii hb (cI (ac rfl J) (ii c2 (cI ((dA rfl ((bx rfl rfl).trans (md _))).trans i1) (cI ((dA rfl ((bx rfl rfl).trans (md _))).trans i2) (k4 (xc5 rfl rfl rfl rfl Z) (fV (k5 (cR rfl (cR rfl (cR rfl (cR rfl (iV (xc5 rfl rfl rfl rfl e3))))))))))))))),(WP.either Q1 Q2 (Y Q1 m1).1 (Y Q2 m2).1 (IH (Y Q1 m1).2.2 (by decide)) (IH (Y Q2 m2).2.2 (by decide)) a7 a8).le (by omega)⟩
def sC(n j)(C:nU (aa defs n))(M:∀i,j=i+1->qC (aa defs n) 52 i/\qC (aa defs n) 53 i):iL (aa defs (n+1)) j:=λns R t h g=>by
 suffices z:∃v J U Y Z x4 W,exs (aa defs n) fJ.body [some (.mutD (.p ns)),sv (ofR R),sv (.str (af t)),sv (.str (af h)),sv (.int j),none,none]=.retM v (some (.mutD (.p J))::U::Y::Z::x4::W)/\WP (7+j) v by
  obtain⟨v,J,U,Y,Z,x4,W,e,hv⟩:=z;exact⟨v,J,by rw[gq (d:=fJ) (by decide) rfl rfl];exact IW (rY _) e,hv⟩
 obtain⟨p,n1,hp,e0⟩:=C.next ns;have bV:∀x6,∃v J U Y Z x4 W,exs (aa defs n) (fJ.body.drop 2) [some (.mutD (.p n1)),sv (ofR R),sv (.str (af t)),sv (.str (af h)),sv (.int j),sv (.int p),x6]=.retM v (some (.mutD (.p J))::U::Y::Z::x4::W)/\WP (7+j) v:=λx6=>by
  have c1:ev (aa defs n) (.or (.cmp .eq (.bor 4) (ci 0)) (.cmp .eq (.bin .mod (.bin .fdiv (.bor 5) (ci 2)) (ci 8)) (ci 0))) [some (.mutD (.p n1)),sv (ofR R),sv (.str (af t)),sv (.str (af h)),sv (.int j),sv (.int p),x6]=some (.bl (((j:Int)==0)||(p / 2 % 8==0))):=sr rfl λ_=>c8 rfl (by decide)
  by_cases q1:(((j:Int)==0)||(p / 2 % 8==0))=true
  .rw[q1]at c1;obtain⟨v,hv,e1⟩:=C.plain R t h (p / 16) g;exact⟨_,_,_,_,_,_,_,iJ c1 (nP (ac rfl e1)),.leaf hv⟩
  .rw[JI]at q1;rw[q1]at c1;obtain⟨i,rfl⟩:∃i,j=i+1:=⟨j-1,by
    have:=(Bool.or_eq_false_iff.mp q1).1;have:(j:Int)≠0:=by simpa using this
    omega⟩
   have hd:=IW (λx=>some (PV.int x)) (show((i+1:Nat):Int)-1=i by omega);have a1:(0:Int)<=p / 16:=Int.ediv_nonneg hp (by decide);cases h with
   |true =>
    obtain⟨v,n2,e1,hv⟩:=(M i rfl).1 n1 R t (p / 16) a1 g;exact⟨_,_,_,_,_,_,_,ii c1 (iJ rfl (fV (xc5 rfl rfl rfl (qt (λi z=>by cases z) hd) e1))),hv.le (by omega)⟩
   |false =>
    obtain⟨v,n2,e1,hv⟩:=(M i rfl).2 n1 R t (p / 16) a1 g;exact⟨_,_,_,_,_,_,_,ii c1 (ii rfl (fV (xc5 rfl rfl rfl (qt (λi z=>by cases z) hd) e1))),hv.le (by omega)⟩
 obtain⟨b,hb,hf⟩:=uF (cal:=aa defs n) C g (a:=.cmp .eq (.bin .mod (.bor 5) (ci 2)) (ci 0)) (W:=[some (.mutD (.p n1)),sv (ofR R),sv (.str (af t)),sv (.str (af h)),sv (.int j),sv (.int p),none]) (c8 rfl (by decide)) rfl rfl;cases b with
 |false =>
  obtain⟨v,J,U,Y,Z,x4,W,e,hv⟩:=bV none;exact⟨v,J,U,Y,Z,x4,W,k4 (xc1 e0) (ii hb e),hv⟩
 |true =>
  obtain⟨w,v,ok,e1⟩:=C.tried R t g (hf rfl);by_cases q:w=h
  .subst q;refine⟨_,_,_,_,_,_,_,k4 (xc1 e0) (iJ hb (cI (ac rfl e1) (iJ (by cases w<;>rfl) (nP rfl)))),ok.wp.le (by omega)⟩
  .obtain⟨v',J,U,Y,Z,x4,W,e,hv⟩:=bV (sv (.tup [.str (af w),v]));exact⟨v',J,U,Y,Z,x4,W,k4 (xc1 e0) (eA (l:=[some (.mutD (.p n1)),sv (ofR R),sv (.str (af t)),sv (.str (af h)),sv (.int j),sv (.int p),sv (.tup [.str (af w),v])]) (by refine(aY hb).trans ?_;exact cI (ac rfl e1) (ul (by cases w<;>cases h<;>first|rfl|exact absurd rfl q) rfl)) e),hv⟩
theorem qD:∀j n,iL (aa defs (n+3*j+8)) j
 |0,n=>sC (n+7) 0 (nV (n+1)) λi h=>by cases h
 |j+1,n=>by
  have k:∀ns R h,SmR R->∃v z,aa defs (n+3*j+9) (51+2000) [.mutD (.p ns),.val (ofR R),.val (.str (af h))]=some (.tup [v,.dI (.p z)])/\WP 8 v:=λns R h g=>Ai (n+3*j+8) (nV (n+3*j+2)) (qD 0 (n+3*j)) ns R g h
  exact sC (n+3*j+10) (j+1) (nV (n+3*j+4)) λi h=>by
   cases h;have G:iL (aa defs (n+3*j+9)) j:=by have:=qD j (n+1);rwa[show n+1+3*j+8=n+3*j+9 by omega]at this
   exact⟨xn _ j (nV _) G k,sB _ j (nV _) G k⟩
def B9(ho:(W[i]?).join=some (.own xs))(z:ev cal k W=some (.int j))(J:0<=j)(h1:j<xs.length)(U:xs.length<=10000):ex cal (.popAt i k) W=.next (put W i (.own (xs.eraseIdx j.toNat))):=by
 rw[ex,z,dE,ho];exact if_pos ⟨J,h1,U⟩
def nW(ho:(W[i]?).join=some (.own xs))(hv:ev cal e W=some y)(z:ev cal k W=some (.int j))(J:0<=j)(h1:j<xs.length):ex cal (.setIdx i k e) W=.next (put W i (.own (xs.set j.toNat y))):=by
 rw[ex,hv,dE,z,dE,ho];simp[dX J h1]
def nX{α:Type}{A R:List (List α)}(h:A.Sublist R):A.flatten.Sublist R.flatten:=by
 induction h with
 |slnil=>exact .slnil
 |cons a _ ih=>exact ih.trans (sublist_append_right _ _)
 |cons_cons a _ ih=>exact Sublist.append_left ih _
noncomputable def spS:List MS:=[.ite (.cmp .eq (.bin .mod (.bor 1) (ci 3)) (ci 0))
    [.popAt 3 (.bor 4)]
    [.ite (.and (.cmp .eq (.bin .mod (.bor 1) (ci 3)) (ci 1)) (.cmp .eq (.bor 2) (cs "cases")))
     [.setIdx 3 (.bor 4) (.tup [(.idx (.idx (.bor 3) (.bor 4)) (ci 0)),(.bin .mod (.bin .fdiv (.bor 1) (ci 64)) (ci 60)),(.idx (.idx (.bor 3) (.bor 4)) (ci 2))])]
     [.set 5 (.bin .sub (.blt .len [(.idx (.bor 3) (.bor 4))]) (ci 1)),
     .setIdx 3 (.bor 4) (.bin .add (.slice (.idx (.bor 3) (.bor 4)) (.cst .non) (.bor 5)) (.tup [(.call 64 [(.idx (.idx (.bor 3) (.bor 4)) (.bor 5)),(.bin .fdiv (.bor 1) (ci 64))])]))]],
   .ret (.tup [.var 2,(.blt .tupleOf [.bor 3])])]
def B_(cal:Cal)(v:PV)(z:Int)(b:Bool)(xs:List PV)(hl:xs.length<=10000)(i:Int)(Y:0<=i)(h1:i<xs.length)(a:List PV)(p Z:PV)(hx:xs[i.toNat]?=some (.tup (a++[p])))(J:a=[a.headD .non]\/a=[a.headD .non,a.getD 1 .non]/\b=true)(hb:b=true->a.length=2)(e:cal 64 [.val p,.val (.int (z / 64))]=some Z) :
  ∃ys,exs cal spS [sv v,sv (.int z),sv (.str (if b=true then "cases" else "parts")),some (.own xs),sv (.int i),none]=.ret (.tup [.str (if b=true then "cases" else "parts"),.tup ys])/\(ys=xs.eraseIdx i.toNat\/ys=xs.set i.toNat (.tup (a++[Z]))\/b=true/\ys=xs.set i.toNat (.tup [a.headD .non,.int (z / 64 % 60),p])):=by
 have hi:∀x5:Option MV,ev cal (.idx (.bor 3) (.bor 4)) [sv v,sv (.int z),sv (.str (if b=true then "cases" else "parts")),some (.own xs),sv (.int i),x5]=some (.tup (a++[p])):=λx5=>(dA rfl rfl).trans (by rw[zE,dX Y h1];exact hx)
 have U:ev cal (.cmp .eq (.bin .mod (.bor 1) (ci 3)) (ci 0)) [sv v,sv (.int z),sv (.str (if b=true then "cases" else "parts")),some (.own xs),sv (.int i),none]=some (.bl (z % 3==0)):=c8 rfl (by decide);have c1:ev cal (.and (.cmp .eq (.bin .mod (.bor 1) (ci 3)) (ci 1)) (.cmp .eq (.bor 2) (cs "cases"))) [sv v,sv (.int z),sv (.str (if b=true then "cases" else "parts")),some (.own xs),sv (.int i),none]=some (.bl (z % 3==1&&b)):=bF (c8 rfl (by decide)) λ_=>by cases b<;>rfl
 by_cases q0:(z % 3==0)=true
 .rw[q0]at U;exact⟨_,eA ((aY U).trans (cN (B9 rfl rfl Y h1 hl))) (iI rfl),.inl rfl⟩
 .rw[JI]at q0;rw[q0]at U;by_cases q1:(z % 3==1&&b)=true
  .rw[q1]at c1;obtain rfl:=(oe.mp q1).2;rcases J with J|⟨J,_⟩
   .have:=hb rfl;rw[J]at this;cases this
   .generalize a.headD .non=u at J ⊢;generalize a.getD 1 .non=u2 at J;subst J;exact⟨_,eA ((aY U).trans (cN ((aY c1).trans (cN (nW rfl (fL (bR ((dA (hi _) rfl).trans rfl) (bR rfl (bR ((dA (hi _) rfl).trans rfl) rfl)))) rfl Y h1))))) (iI rfl),.inr (.inr ⟨rfl,rfl⟩)⟩
  .rw[JI]at q1;rw[q1]at c1;refine⟨xs.set i.toNat (.tup (a++[Z])),?_,.inr (.inl rfl)⟩;rcases J with J|⟨J,_⟩
   .generalize a.headD .non=u at J;subst J;exact eA ((aY U).trans (cN ((aY c1).trans (cI (v:=.int 1) ((bx (aB (hi _)) rfl).trans rfl) (cN (nW rfl ((bx (x:=.tup [u]) (y:=.tup [Z]) (vP (hi _) rfl rfl rfl) (fL (bR (ac (vO ((dA (hi _) rfl).trans rfl) rfl) e) rfl))).trans rfl) rfl Y h1)))))) (iI rfl)
   .generalize a.headD .non=u at J;generalize a.getD 1 .non=u2 at J;subst J;exact eA ((aY U).trans (cN ((aY c1).trans (cI (v:=.int 2) ((bx (aB (hi _)) rfl).trans rfl) (cN (nW rfl ((bx (x:=.tup [u,u2]) (y:=.tup [Z]) (vP (hi _) rfl rfl rfl) (fL (bR (ac (vO ((dA (hi _) rfl).trans rfl) rfl) e) rfl))).trans rfl) rfl Y h1)))))) (iI rfl)
def qE (cal) (v) (z) (W):∃J,nw J/\ev cal (.idx (.lst [(.tup [(cs "weight")]),(.tup [(cs "whole")]),(.tup [(cs "bare")]),(.tup [(cs "pairs"),(.tup [])])]) (.bin .mod (.bor 1) (ci 4))) (sv v::sv (.int z)::W)=some J:=by
 have U:=JN z (b:=4) (by decide);have h1:=JK z (b:=4) (by decide);have e:ev cal (.idx (.lst [(.tup [(cs "weight")]),(.tup [(cs "whole")]),(.tup [(cs "bare")]),(.tup [(cs "pairs"),(.tup [])])]) (.bin .mod (.bor 1) (ci 4))) (sv v::sv (.int z)::W)=dR (.lst [.tup [.str "weight"],.tup [.str "whole"],.tup [.str "bare"],.tup [.str "pairs",.tup []]]) (.int (z % 4)):=dA rfl rfl;rw[e];generalize z % 4=x at U h1;obtain rfl|rfl|rfl|rfl:x=0\/x=1\/x=2\/x=3:=by omega
 .exact⟨_,hZ (.inr (.inr rfl)),rfl⟩
 .exact⟨_,hZ (.inr (.inl rfl)),rfl⟩
 .exact⟨_,hZ (.inl rfl),rfl⟩
 .exact⟨_,.inr (.inr (.inr ⟨[],(λt Y=>by cases Y),by decide,rfl⟩)),rfl⟩
def Ak (N:Nat) (b:Bool) (xs:List PV) (h0:xs≠[]) (hl:xs.length<=10000) (z:Int):∃i:Nat,i<xs.length/\∀(a:List PV) (p J:PV),xs[i]?=some (.tup (a++[p]))->(a=[a.headD .non]\/a=[a.headD .non,a.getD 1 .non]/\b=true)->(b=true->a.length=2)->aa defs N 64 [.val p,.val (.int (z / 64))]=some J->∃ys,aa defs (N+1) 64 [.val (.tup [.str (if b=true then "cases" else "parts"),.tup xs]),.val (.int z)]=some (.tup [.str (if b=true then "cases" else "parts"),.tup ys])/\(ys=xs.eraseIdx i\/ys=xs.set i (.tup (a++[J]))\/b=true/\ys=xs.set i (.tup [a.headD .non,.int (z / 64 % 60),p])):=by
 have U:(0:Int)<xs.length:=by have:=length_pos_iff.mpr h0;omega
 have Y:=JN (z / 3) (b:=(xs.length:Int)) (by omega);have Z:=JK (z / 3) U;generalize hi:z / 3 % (xs.length:Int)=i at Y Z;refine⟨i.toNat,by omega,λa p J hx ha hb e=>?_⟩;obtain⟨ys,e2,h2⟩:=B_ (aa defs N) (.tup [.str (if b=true then "cases" else "parts"),.tup xs]) z b xs hl i Y Z a p J hx ha hb e;refine⟨ys,?_,h2⟩;rw[ae (d:=bt) rfl rfl];have c4:∀W:Rho,ev (aa defs N) (.and (.or (.cmp .eq (.bor 2) (cs "cases")) (.cmp .eq (.bor 2) (cs "parts"))) (.cmp .gt (.blt .len [(.idx (.bor 0) (ci 1))]) (ci 0))) (sv (.tup [.str (if b=true then "cases" else "parts"),.tup xs])::sv (.int z)::sv (.str (if b=true then "cases" else "parts"))::W)=some (.bl true):=λW=>bF (p:=true) (q:=true) (by cases b<;>rfl) λ_=>(cD (aB (v:=.tup xs) rfl) rfl).trans (by rw[ue,IP U];rfl)
 have md:dQ .mod (.int (z / 3)) (.int (xs.length:Int))=some (.int i):=by rw[qj,if_pos U,hi]
 cases b<;>exact aL rfl (aD rfl (aD rfl (aD rfl (sm (c4 _) (eA (dj (xs:=xs) rfl) (cI ((bx rfl rfl).trans md) e2))))))
def Al{d:Nat}{v:PV}(w:WP d v):∀(n:Nat) (U:Int),∃v',WP d v'/\aa defs (n+d+1) 64 [.val v,.val (.int U)]=some v':=by
 induction w with
 | @leaf d v hv =>
  intro n U;rw[ae (d:=bt) rfl rfl];rcases hv with rfl|rfl|rfl|⟨P,_,_,rfl⟩
  all_goals
   obtain⟨v',h1,e⟩:=qE (aa defs (n+d)) _ U _;exact⟨v',.leaf h1,aL rfl (aD rfl (aD rfl (aD rfl (aD rfl (fg e)))))⟩
 | @one d v k r hv ih =>
  intro n U;obtain⟨v',h1,e⟩:=ih n (U / 3);have c0:∀W:Rho,ev (aa defs (n+(d+1))) (.cmp .eq (.bin .mod (.bor 1) (ci 3)) (ci 0)) (sv (.tup [.str (if k=true then "bite" else "knot"),cF r,v])::sv (.int U)::W)=some (.bl (U % 3==0)):=λW=>c8 rfl (by decide)
  by_cases q:(U % 3==0)=true
  .rw[q]at c0;refine⟨_,.one k (some (U / 3 % 60)) hv,?_⟩;rw[ae (d:=bt) rfl rfl];cases k<;>exact aL rfl (sm rfl (sn (c0 _) rfl))
  .rw[JI]at q;rw[q]at c0;refine⟨_,.one k r h1,?_⟩;rw[ae (d:=bt) rfl rfl];cases k<;>exact aL rfl (sm rfl (ul (c0 _) (iI (fL (bR rfl (bR rfl (bR (ac rfl e) rfl)))))))
 | @fewer d v A gA fA hv ih =>
  intro n U;obtain⟨v',h1,e⟩:=ih n (U / 3);refine⟨_,.fewer A gA fA h1,?_⟩;rw[ae (d:=bt) rfl rfl];exact aL rfl (aD rfl (cB rfl (fL (bR rfl (bR rfl (bR (ac rfl e) rfl))))))
 | @either d v w A B gA gB fA fB hv hw ih _ =>
  intro n U;obtain⟨v',h1,e⟩:=ih n (U / 3);have c0:∀W:Rho,ev (aa defs (n+(d+1))) (.cmp .eq (.bin .mod (.bor 1) (ci 3)) (ci 0)) (sv (.tup [.str "either",ofR A,v,ofR B,w])::sv (.int U)::W)=some (.bl (U % 3==0)):=λW=>c8 rfl (by decide)
  by_cases q:(U % 3==0)=true
  .rw[q]at c0;refine⟨_,.either A A gA gA fA fA hv hv,?_⟩;rw[ae (d:=bt) rfl rfl];exact aL rfl (aD rfl (aD rfl (sm rfl (sn (c0 _) rfl))))
  .rw[JI]at q;rw[q]at c0;refine⟨_,.either A B gA gB fA fB h1 hw,?_⟩;rw[ae (d:=bt) rfl rfl];exact aL rfl (aD rfl (aD rfl (sm rfl (ul (c0 _) (iI (fL (bR rfl (bR rfl (bR (ac rfl e) (bR rfl (bR rfl rfl)))))))))))
 | @cases d J hl hr ih =>
  intro n U;by_cases h0:J=[]
  .subst h0;obtain⟨v',h1,e⟩:=qE (aa defs (n+(d+1))) (.tup [.str "cases",.tup []]) U [sv (.str "cases"),none,none,none];exact⟨v',.leaf h1,by rw[ae (d:=bt) rfl rfl];exact aL rfl (aD rfl (aD rfl (aD rfl (aD rfl (fg e)))))⟩
  .obtain⟨i,hk,key⟩:=Ak (n+(d+1)) true (J.map a_) (by simpa using h0) (by rw[tf];exact hl) U;rw[tf]at hk;rcases Z:J[i]with⟨r,a,p⟩
   have Y:(r,a,p)∈J:=Z▸LF hk;obtain⟨p',h1,e⟩:=ih _ Y n (U / 64);obtain⟨ys,key,h2⟩:=key [.int r,cF a] p p' (by rw[IS,IJ hk,Z];rfl) (.inr ⟨rfl,rfl⟩) (λ_=>rfl) e;rcases h2 with rfl|rfl|⟨_,rfl⟩
   .rw[kZ]at key;exact⟨_,.cases _ (IH (length_eraseIdx_le _ _) hl) λq hq=>hr q (KQ hq),key⟩
   .rw[show(J.map a_).set i (.tup ([.int r,cF a]++[p']))=(J.set i (r,a,p')).map a_ from by rw[map_set];rfl]at key;exact⟨_,.cases (J.set i (r,a,p')) (by rw[J9];exact hl) λq hq=>(KJ hq).elim (hr q) λz=>(by rw[z];exact h1),key⟩
   .rw[show(J.map a_).set i (.tup [([.int r,cF a]:List PV).headD .non,.int (U / 64 % 60),p])=(J.set i (r,some (U / 64 % 60),p)).map a_ from by rw[map_set];rfl]at key;exact⟨_,.cases (J.set i (r,some (U / 64 % 60),p)) (by rw[J9];exact hl) λq hq=>(KJ hq).elim (hr q) λz=>(by rw[z];exact hr (r,a,p) Y),key⟩
 | @parts d J hl hs a7 hg hr ih =>
  intro n U;by_cases h0:J=[]
  .subst h0;obtain⟨v',h1,e⟩:=qE (aa defs (n+(d+1))) (.tup [.str "parts",.tup []]) U [sv (.str "parts"),none,none,none];exact⟨v',.leaf h1,by rw[ae (d:=bt) rfl rfl];exact aL rfl (aD rfl (aD rfl (aD rfl (aD rfl (fg e)))))⟩
  .obtain⟨i,hk,key⟩:=Ak (n+(d+1)) false (J.map aR) (by simpa using h0) (by rw[tf];omega) U;rw[tf]at hk;rcases Z:J[i]with⟨A,p⟩
   have Y:(A,p)∈J:=Z▸LF hk;obtain⟨p',h1,e⟩:=ih _ Y n (U / 64);obtain⟨ys,key,h2⟩:=key [ofR A] p p' (by rw[IS,IJ hk,Z];rfl) (.inl rfl) (λz=>by cases z) e;rcases h2 with rfl|rfl|⟨z,_⟩
   .rw[kZ]at key;have su:=(eraseIdx_sublist J i).map (·.1);exact⟨_,.parts _ (IH (length_eraseIdx_le _ _) hl) (IH (nX su).length_le hs) (IH (nX (nX su)).length_le a7) (λq hq=>hg q (KQ hq)) λq hq=>hr q (KQ hq),key⟩
   .rw[show(J.map aR).set i (.tup ([ofR A]++[p']))=(J.set i (A,p')).map aR from by rw[map_set];rfl]at key;have em:(J.set i (A,p')).map (·.1)=J.map (·.1):=by
     rw[map_set,show A=(J.map (·.1))[i]'(by rw[tf];exact hk)from by rw[getElem_map,Z],set_getElem_self]
    exact⟨_,.parts (J.set i (A,p')) (by rw[J9];exact hl) (by rw[em];exact hs) (by rw[em];exact a7) (λq hq=>(KJ hq).elim (hg q) λz=>(by rw[z];exact hg (A,p) Y)) λq hq=>(KJ hq).elim (hr q) λz=>(by rw[z];exact h1),key⟩
   .cases z
theorem vW :∀{R:LL},(∀t∈R,t.length<=m)->R.flatten.length<=R.length*m
 | [],_=>by simp
 |t::R,h=>by
  have h1:=h t (.head _);have h2:=vW (R:=R) λt z=>h t (.tail _ z)
  rw[flatten_cons,IC,length_cons,Nat.succ_mul];omega
def Hq(R)(s:jy v R t h 79 b)(U a1 a2 Y Z a5 a7 a8 a9 z J):exs (aa defs 79) vF [U,a1,a2,Y,Z,a5,sv (ofR R),a7,a8,a9,z,sv v,sv (.str (af h)),sv (.str (af t)),J]=.next [U,a1,a2,Y,Z,a5,sv (ofR R),a7,a8,a9,z,sv v,sv (.str (af h)),sv (.str (af t)),sv (.bl b)]:=
 cI (ac rfl s.1) (cN ((aY (p:=false) (sr (p:=false) (q:=false) rfl λ_=>(cD (x:=.bl b) (y:=.bl b) rfl (ac rfl s.2)).trans (by cases b<;>rfl))).trans rfl))
def Hr(R)(g:SmR R)(w:WP 10 v)(Z a1 a2 a3 a4 a5 a7 a8 a9 z cd U Y J):∃ck cl cr,exs (aa defs 79) vH (put [Z,a1,a2,a3,a4,a5,sv (ofR R),a7,a8,a9,z,cd,U,Y,J] 11 (.val v))=.next [Z,a1,a2,a3,a4,a5,sv (ofR R),a7,a8,a9,z,sv v,ck,cl,cr]:=by
 have s:∀t h,∃b,jy v R t h 79 b:=λt h=>by
  obtain⟨b,e⟩:=Iu w R g.1 (IH g.2.2 (by decide)) t h;exact⟨b,e 79 (by decide)⟩
 obtain⟨b1,s1⟩:=s true false;obtain⟨b2,s2⟩:=s false false;obtain⟨b3,s3⟩:=s true true;obtain⟨b4,s4⟩:=s false true;have k:∀{h b b'},jy v R true h 79 b->jy v R false h 79 b'->∀U Y J,exs (aa defs 79) vG (put [Z,a1,a2,a3,a4,a5,sv (ofR R),a7,a8,a9,z,sv v,U,Y,J] 12 (.val (.str (af h))))=.next [Z,a1,a2,a3,a4,a5,sv (ofR R),a7,a8,a9,z,sv v,sv (.str (af h)),sv (.str "weaver"),sv (.bl b')]:=λ{h b b'} t1 t2 U Y J =>
  cN (jx (xs:=[.str "moth",.str "weaver"]) rfl (uj (Hq R t1 Z a1 a2 a3 a4 a5 a7 a8 a9 z J) (Hq R t2 Z a1 a2 a3 a4 a5 a7 a8 a9 z (sv (.bl b)))))
 exact⟨_,_,_,cN (jx (xs:=[.str "weaver",.str "moth"]) rfl (uj (k (h:=false) s1 s2 _ _ _) (k (h:=true) s3 s4 _ _ _)))⟩
def vX (cal:Cal) (z:Option MV) (d x:Int) (hd:0<d/\d<1073741824):∃b,∀W:Rho,ev cal (.idx (.lst [(cs "moth"),(cs "weaver")]) (.bin .mod (.bin .fdiv (.bor 1) (ci d)) (ci 2))) (z::sv (.int x)::W)=some (.str (af b)):=by
 have J:∀W:Rho,ev cal (.idx (.lst [(cs "moth"),(cs "weaver")]) (.bin .mod (.bin .fdiv (.bor 1) (ci d)) (ci 2))) (z::sv (.int x)::W)=dR (.lst [.str "moth",.str "weaver"]) (.int (x / d % 2)):=λW=>dA rfl ((bx (vJ rfl hd) rfl).trans rfl)
 obtain q|q:x / d % 2=0\/x / d % 2=1:=by omega
 .exact⟨true,λW=>(J W).trans (by rw[q];rfl)⟩
 .exact⟨false,λW=>(J W).trans (by rw[q];rfl)⟩
def Am(ns:List Int)(hl:ns.length<=63):aa defs 80 69 [.brw (ns.map .int)]=some (.bl true):=by
 rw[ae (d:=vI) rfl rfl];refine ax λZq kq=>?_
 have w0:0<=iH (cellOf ns 0) 1865811235122147685:=gZ _ _;have b0:0<=iH (cellOf ns 1) 1442695040888963407:=gZ _ _;have e1:=zZ 77 ns 0 1865811235122147685 (by decide);have e2:=zZ 77 ns 1 1442695040888963407 (by decide);generalize iH (cellOf ns 0) 1865811235122147685=z at w0 e1;generalize iH (cellOf ns 1) 1442695040888963407=J at b0 e2;obtain⟨room,r0,r1,e3⟩:∃room:Int,0<=room/\room<=8/\∀W:Rho,ev (aa defs 79) (.idx (.lst [(ci 3),(ci 8)]) (.bin .mod (.bor 1) (ci 2))) (some (.brw (ns.map .int))::sv (.int z)::W)=some (.int room):=by
  have e:∀W:Rho,ev (aa defs 79) (.idx (.lst [(ci 3),(ci 8)]) (.bin .mod (.bor 1) (ci 2))) (some (.brw (ns.map .int))::sv (.int z)::W)=dR (.lst [.int 3,.int 8]) (.int (z % 2)):=λW=>dA rfl ((bx rfl rfl).trans rfl)
  obtain q|q:z % 2=0\/z % 2=1:=by omega
  .exact⟨3,by decide,by decide,λW=>(e W).trans (by rw[q];rfl)⟩
  .exact⟨8,by decide,by decide,λW=>(e W).trans (by rw[q];rfl)⟩
 have hc:=zF ns (a:=2) (b:=2+room) (by decide) (by omega);have e4:∀W:Rho,ev (aa defs 79) (.slice (.bor 0) (ci 2) (.bin .add (ci 2) (.bor 3))) (some (.brw (ns.map .int))::sv (.int z)::sv (.int J)::sv (.int room)::W)=some (ofL (r6 ns (some 2) (some (2+room)))):=λW=>by
  show some (PV.lst (cut (ns.map .int) (some 2) (some (2+room))))=_;rw[r9]
 generalize r6 ns (some 2) (some (2+room))=cells at hc e4;have ck:cells.length<=8:=by omega
 have m1:=JN J (b:=49) (by decide);have m2:=JK J (b:=49) (by decide);have key:∀c:Int,∃s,(cM s/\s.length<=4)/\aa defs 79 45 [.val (.int c),.val (.int (J % 49)),.val (.int (3+J / 49 % 2)),.val (.int (J / 98 % 3))]=some (ofS s):=λc=>B5 77 c _ _ _ m1 (by omega) (by omega) (by omega) (by omega) (by omega)
 obtain⟨f,hf⟩:=K9 key;have gS:∀t∈sortT (cells.map f),cM t/\t.length<=4:=λt Y=>by
  obtain⟨c,_,rfl⟩:=mem_map.mp (eQ.mp Y);exact(hf c).1
 have hL:(sortT (cells.map f)).length=cells.length:=by rw[sortT_len,tf]
 have g:SmR (sortT (cells.map f)):=by
  have:=vW (R:=sortT (cells.map f)) (m:=4) λt Y=>(gS t Y).2
  exact⟨⟨λt Y=>(gS t Y).1,sortT_rises _,by omega⟩,by omega,by omega⟩
 have e5:∀W:Rho,ev (aa defs 79) (.comp .seq [.bor 4] [2] (.cst (.bl true)) (.call 45 [.bor 0,(.bin .mod (.bor 1) (ci 49)),(.bin .add (ci 3) (.bin .mod (.bin .fdiv (.bor 1) (ci 49)) (ci 2))),(.bin .mod (.bin .fdiv (.bor 1) (ci 98)) (ci 3))])) (some (.brw (ns.map .int))::sv (.int z)::sv (.int J)::sv (.int room)::sv (ofL cells)::W)=some (.lst ((cells.map f).map ofS)):=λW=>by
  rw[ID];exact be (vs:=[ofL cells]) (g:=PV.int) (h:=ofS∘f) rfl rfl (by omega) λc _=>ac rfl (hf c).2
 have Z:∀W:Rho,ev (aa defs 79) (.blt .tupleOf [(.blt .sorted [.bor 5])]) (some (.brw (ns.map .int))::sv (.int z)::sv (.int J)::sv (.int room)::sv (ofL cells)::sv (.lst ((cells.map f).map ofS))::W)=some (ofR (sortT (cells.map f))):=λW=>by
  refine(aB (v:=.lst ((sortT (cells.map f)).map ofS)) ?_).trans rfl;rw[aB (v:=.lst ((cells.map f).map ofS)) rfl,gR,iS,bind_some,gp (by rw[tf];omega)]
 generalize sortT (cells.map f)=R at g Z;generalize (cells.map f).map ofS=S at e5 Z;obtain⟨h,e8⟩:=vX (aa defs 79) (some (.brw (ns.map .int))) 2 z (by decide);obtain⟨t,e9⟩:=vX (aa defs 79) (some (.brw (ns.map .int))) 4 z (by decide);obtain⟨v,n1,ao,hv⟩:=qD 3 62 (r6 ns (some (2+room)) none).reverse R t h g;obtain⟨v',ar,U⟩:=Al hv 68 (z / 8);have e7:∀W:Rho,ev (aa defs 79) (.slice (.bor 0) (.bin .add (ci 2) (.bor 3)) (.cst .non)) (some (.brw (ns.map .int))::sv (.int z)::sv (.int J)::sv (.int room)::W)=some (.lst ((r6 ns (some (2+room)) none).map .int)):=λW=>by
  rw[<- r9];rfl
 obtain⟨aO,a0,a1,a2⟩:=Hr R g hv (some (.brw (ns.map .int))) (sv (.int z)) (sv (.int J)) (sv (.int room)) (sv (ofL cells)) (sv (.lst S)) (some (.ownD (.p n1))) (sv (.str (af h))) (sv (.str (af t))) (sv v) none none none none;obtain⟨cL,cP,cS,a3⟩:=Hr R g ar (some (.brw (ns.map .int))) (sv (.int z)) (sv (.int J)) (sv (.int room)) (sv (ofL cells)) (sv (.lst S)) (some (.ownD (.p n1))) (sv (.str (af h))) (sv (.str (af t))) (sv v) (sv v) aO a0 a1;have U:aa defs 79 64 [.val v,.val (.int (z / 8))]=some v':=U;refine kq ?_;refine aL (e1 _) (aL ?_ (aL (e3 _) (aL (e4 _) (aL (e5 _) (aL (Z _) (kY (Fd (e7 _)) (aL (e8 _) (aL (e9 _) (IW aQ (k4 (r:=.ret (.bl true)) (xcO rfl rfl rfl rfl rfl ao) (eA (jx (xs:=[v,v']) ?_ (uj a2 a3)) (iI rfl))))))))))))
 .exact e2 _
 .rw[ev,bR rfl (bR (ac rfl U) rfl)];rfl
noncomputable def top(i:Nat):Stmt:=PySem.Challenge.pw_mothloom_k33_papers_within_papers.main.body.getD i (.Pass ⟨0,0,0,0⟩)
def Fi {l:PySem.W.OpenLaw}{w:World}{K:L8}{h:Heap}{mg:Str->Option Value}{fa:Addr} (X:K.In h) (G:h.Ns mainGlobals mg) (U:mg "law"=some (.ref fa))
  (hs:ub K top defs [1,2,3,4,5,6,7,8,10,11,12,14,15,16,17,19,20,22,23,26,27,28,29,30,31,32,33,34,36,37,38,39,40,41,42,43,45,46,47,48,49,50,51,52,53,54,55,56,57,58,59,60,61,62,63,64,65,66,67,68,69,70,71,72,73,74,75,76,77,78] tab.ds) (hL:HD K "law" (top 78) vI λfd=>∀(s:Shared) (v:Value),BindsTo s fd ⟨[v],[]⟩ [("script",v)])
  (zs:∀x∈jP,PySem.W.nsIn K mainGlobals x=some none)
  {z:Value} (g0:PySem.W.nsIn K mainGlobals "UNIT"=some (some z)) (r0:aF (toV (.int 1152921504606846976)) z)
 :∃fd:FuncData,(∀(s:Shared) (v:Value),BindsTo s fd ⟨[v],[]⟩ [("script",v)])/\∀base:Heap,K.In base->base.Ns mainGlobals mg->jd l.prog w K mg base CX0 80 fa fd ["script"] (spM K (aa defs 80) 69):=by
 obtain⟨_,Y,J,Z⟩:=zz (T:=tab) X G hL (by kernel_rfl);cases U.symm.trans J.named;have pr:EF tab K mg defs:=by
  refine⟨rfl,EE X G hs (by kernel_rfl),λx hx=>PySem.W.mg_none_of X G (zs x hx),λp hp=>?_⟩
  .simp only[tab,IB,Ks,Lj]at hp;rcases hp with rfl
   .exact⟨_,PySem.W.mg_of X G g0,r0⟩
 exact⟨Y,Z,λbase _ _=>G2 (by decide) pr 80 69 vI rfl _ _ _ J⟩
def Iv{l:PySem.W.OpenLaw}{q:Program}{J:List Str}{XP:(Str->Option Value)->Heap->Prop}{Y:World->Heap->Prop}{d:DefRec}{K:Params->L8}(hn:l.most=some 63)(U:d.params.defaults=[])
  (hY:∀w h,Y w h->(K w.params).In h)
  (F:∀w mg Z h,(K w.params).In h->h.Ns mainGlobals mg->mg d.name=some (.ref Z) ->
   ∃fd,(∀s u,BindsTo s fd ⟨[u],[]⟩ [("script",u)])/\∀base,(K w.params).In base->base.Ns mainGlobals mg->jd l.prog w (K w.params) mg base CX0 80 Z fd ["script"] (spM (K w.params) (aa defs 80) 69)) :
  PySem.W.WalkO q J XP Y l.row.toRowW d [] (λf vs=>PySem.call f vs):=
 L2.AJ (n:=63) (k:=80) (x:="script") (CX:=λ_=>CX0) (sp:=λw=>spM (K w.params) (aa defs 80) 69) hn (by decide) U ⟨rfl,by decide,by decide⟩ hY F (λ_ _ a ns hl _ hS=>EG (Am ns hl) hS) λ_ _ _ _ _ z=>z
end My
open PySem PySem.W PyProof.Rows List Option
set_option maxRecDepth 100000 in
set_option maxHeartbeats 0 in
theorem PySem.Challenge.cw_mothloom_k33_papers_within_papers_holds : PySem.Challenge.rw_mothloom_k33_papers_within_papers.Holds := by
 w_on;o_law;k_head;(case hw=>w_witness2)
 k_fill
 refine My.Iv (l:=PySem.Challenge.rw_mothloom_k33_papers_within_papers) rfl rfl (λw h Y=>PySem.W.kIn_of Y) ?F
 case F =>
  intro w mg fa h KX G hmg
  refine' My.Fi KX G hmg ?hs ?hL ?zs ?gq0 ?rq0
  (case hs =>
   repeat' first|exact MM.ub.nil|apply MM.ub.cons
   all_goals (conv=>arg 2;whnf)
   all_goals first
    | (refine' ⟨rfl,_,_,?ka,.mk' (d0:=.none) ?kl ?kc ?kk,MM.bn2 λ_ _=>rfl,trivial⟩;(case ka=>k_is);(case kl=>k_is);(case kc=>k_is);(case kk=>k_is))
    | (refine' ⟨rfl,_,_,?ka,.mk' (d0:=.none) ?kl ?kc ?kk,MM.bn1 λ_=>rfl,trivial⟩;(case ka=>k_is);(case kl=>k_is);(case kc=>k_is);(case kk=>k_is))
    | (refine' ⟨rfl,_,_,?ka,.mk' (d0:=.none) ?kl ?kc ?kk,MM.bn3 λ_ _ _=>rfl,trivial⟩;(case ka=>k_is);(case kl=>k_is);(case kc=>k_is);(case kk=>k_is))
    | (refine' ⟨rfl,_,_,?ka,.mk' (d0:=.none) ?kl ?kc ?kk,MM.bn4 λ_ _ _ _=>rfl,trivial⟩;(case ka=>k_is);(case kl=>k_is);(case kc=>k_is);(case kk=>k_is))
    | (refine' ⟨rfl,_,_,?ka,.mk' (d0:=.none) ?kl ?kc ?kk,MM.bn5 λ_ _ _ _ _=>rfl,trivial⟩;(case ka=>k_is);(case kl=>k_is);(case kc=>k_is);(case kk=>k_is))
    | (refine' ⟨rfl,_,_,?ka,.mkd ?kl ?kc ?kk,?kb,trivial⟩;(case ka=>k_is);(case kl=>k_is);(case kc=>k_is);(case kk=>k_is);(case kb=>refine' MM.ua rfl ?kx ?ky;(case kx=>k_is);(case ky=>exact λus hl=>match us,hl with|[_,_],_=>⟨_,rfl,rfl⟩))))
  (case hL=>refine' ⟨rfl,_,_,?ka,.mk' (d0:=.none) ?kl ?kc ?kk,MM.bn1 λ_=>rfl,λs v=>.of_eq rfl⟩;(case ka=>k_is);(case kl=>k_is);(case kc=>k_is);(case kk=>k_is))
  (case zs=>intro x hx;simp only[MM.jP,IB,Ks,Lj]at hx;rcases hx with rfl|rfl|rfl|rfl|rfl|rfl|rfl|rfl|rfl|rfl|rfl|rfl|rfl|rfl|rfl|rfl|rfl<;>k_is)
  (case gq0=>k_is);(case rq0=>exact⟨_,rfl⟩)
