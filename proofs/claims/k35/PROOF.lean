import PyProof.Rows.All
import Wide.All
import OpenK.AllK
import Wide.FinOn
import Lean
import PyProof.EqAt
import PyProof.EqKinds
import PyProof.TupleCall
import PySem.Challenge.RW_mothloom_k35_first_moves
set_option Elab.async false
set_option linter.all false
set_option maxRecDepth 100000
set_option genSizeOf false
set_option backward.eqns.nonrecursive false
set_option bootstrap.genMatcherCode false
def gf:=@PySem.wpAny_bind
def gk:=@Option.bind_eq_some_iff
def gQ:=@PySem.wpAny_pure
def g4:=@PySem.Heap.get?_push_of_some
def mu:=@Bool.and_eq_true_iff
def oe:=@Bool.and_eq_true
def pb:=@Bool.false_ne_true
def pd:=@Nat.le_refl
def pe:=@List.length_map
def p0:=@Option.map_eq_some_iff
def r4:=@List.size_toArray
def tf:=@PySem.Heap.lt_size
def tr:=@Option.some.injEq
def uw:=@PySem.Heap.get?_push_size
def wh:=@List.length_append
def Jp:=@List.mem_cons
def Jq:=@List.map_cons
def Jr:=@Nat.ne_of_lt
def Js:=@Nat.le_trans
def Jt:=@List.getElem?_eq_some_iff
def Ju:=@beq_iff_eq
def Jv:=@Option.some.inj
def Jw:=@Nat.lt_of_lt_of_le
def Jx:=@List.map_map
def Jy:=@List.getElem?_eq_getElem
def Jz:=@Bool.false_eq_true
def JA:=@decide_eq_true
def JB:=@PySem.wpAny_loadPart'
def JC:=@Bool.not_eq_true'
def JD:=@PySem.wpAny_setState_of
def JE:=@List.mem_singleton
def JF:=@List.getElem?_map
def JG:=@PySem.wpAny_ite_split
def JH:=@PySem.Heap.size_push
def JI:=@List.mem_filter
def JJ:=@List.getElem?_set_ne
def JK:=@congrArg
def JL:=@PySem.wpAny_call_entry
def JM:=@List.map_append
def JN:=@PySem.Heap.SameBut.update
def JO:=@Nat.lt_succ_of_lt
def JP:=@decide_eq_true_iff
def JQ:=@decide_eq_false
def JR:=@PySem.wpAny_mono
def JS:=@PySem.sizeLine_eq
def JT:=@List.filter_cons_of_neg
def JU:=@PySem.wpAny_holding
def JV:=@List.nodup_cons
def JW:=@PySem.Heap.get?_update_self
def JX:=@Array.getElem?_toList
def JY:=@PySem.wpAny_newObj_type
def JZ:=@Nat.zero_le
def J0:=@of_decide_eq_true
def J1:=@PyProof.Rows.slot_tuple_getitem
def J2:=@PySem.wpAny_callSpecial?_slot
def J3:=@Bool.eq_iff_iff
def J4:=@List.mem_append_right
def J5:=@Nat.lt_irrefl
def J6:=@List.mem_cons_of_mem
def J7:=@PyProof.Rows.callWith_type1
def J8:=@List.filter_cons_of_pos
def J9:=@List.append_assoc
def Ka:=@PySem.Heap.get?_update_other
def Kb:=@List.perm_ext_iff_of_nodup
def Kc:=@if_false
def Kd:=@beq_self_eq_true
def Ke:=@PySem.wpAny_isInstance
def Kf:=@List.mem_cons_self
def Kg:=@List.getElem?_append_left
def Kh:=@PySem.wpAny_truthy_bool
def Ki:=@decide_eq_true_eq
def Kj:=@PyProof.Rows.KeyOrd.kle_refl
def Kk:=@List.all_eq_true
def Kl:=@List.any_eq_true
def Km:=@List.getD_eq_getElem?_getD
def Kn:=@List.map_congr_left
def Ko:=@Int.emod_lt_of_pos
def Kp:=@Nat.le_succ
def Kq:=@List.append_nil
def Kr:=@Int.emod_nonneg
def Ks:=@List.getElem?_set_self
def Kt:=@PySem.fits_of_scanBound
def Ku:=@List.nodup_nil
def Kv:=@List.mem_append
def Kw:=@List.not_mem_nil
def Kx:=@Nat.ne_of_gt
def Ky:=@PySem.wpAny_Call_Name_kw
def Kz:=@Array.getD_eq_getD_getElem?
def KA:=@PySem.wpAny_setField_rec
def KC:=@List.getElem?_append_right
def KD:=@List.mem_of_getElem?
def KG:=@PySem.Heap.SameBut.refl
def KH:=@PySem.wpAny_storeSet_of
def KI:=@PySem.wpAny_setEpoch_of
def KJ:=@List.find?_cons_of_neg
def KL:=@PySem.wpAny_rule
def KN:=@List.isEmpty_iff
def KP:=@List.filter_eq_self
def KQ:=@Nat.zero_add
def KR:=@Nat.lt_succ_self
def KS:=@beq_eq_false_iff_ne
def KU:=@Classical.axiomOfChoice
def KW:=@Ne.symm
def KY:=@List.pairwise_cons
def KZ:=@PySem.tupleKind_room_in1
def K0:=@Array.size_extract
def K1:=@Nat.add_sub_cancel
def K2:=@PySem.F.slot_dict_valueiterator_next
def K3:=@PySem.richCompare_meets_room
def K4:=@PySem.Calls.callWith_builtin
def K5:=@Array.getElem?_eq_none
def K6:=@PySem.wpAny_pyIter_list
def K7:=@PyProof.Rows.KeyOrd.kle_of_klt
def K8:=@bne_self_eq_false
def K9:=@List.length_eq_one_iff
def La:=@PySem.codeAny_mono
def Lb:=@PySem.wpAny_typeOf
def Lc:=@PySem.builtinLookup_eq_fast
def Ld:=@List.length_eraseIdx_of_lt
def Le:=@PyProof.Rows.KeyOrd.kle_trans
def Lf:=@List.perm_append_comm
def Lg:=@or_false
def Lh:=@List.length_filter_le
def Li:=@Array.perm_iff_toList_perm
def Lj:=@Bool.not_true
def Lk:=@List.filterMap_cons_some
def Ll:=@PySem.wpAny_passesOwn
def Lm:=@PySem.W.KasT.kasWp_bind
def Ln:=@Nat.min_eq_left
def Lo:=@Array.getElem?_eq_getElem
def Lp:=@List.cons.injEq
def Lq:=@List.mem_range
def Lr:=@Nat.le_of_lt
def Ls:=@PySem.wpAny_pyIter_tuple
def Lu:=@PySem.Calls.spliced_cons
def Lv:=@List.getElem?_replicate
def Lw:=@PySem.AutoSeq1.sub_tuple_tuple
def Lx:=@List.length_eq_zero_iff
def Ly:=@Nat.add_right_comm
def Lz:=@List.nodup_append
def LA:=@List.eq_nil_of_length_eq_zero
def LB:=@List.length_set
def LC:=@Array.size_map
def LD:=@Nat.not_lt
def LF:=@PySem.wpAny_collect_seq
def LG:=@List.find?_cons_of_pos
def LH:=@LawfulMonad.bind_assoc
def LI:=@PySem.plainId_quiet
def LJ:=@PySem.wpAny_attempt
def LK:=@List.find?_eq_none
def LM:=@Bool.not_eq_true
def LN:=@List.mem_append_left
def LO:=@Nat.le_of_eq
def LP:=@PySem.wpAny_specialOf
def LQ:=@List.all_map
def LR:=@PySem.codeAny_builtin
def LS:=@PySem.Around.under_plainId
def LU:=@PySem.typeLookup_type
def LV:=@PySem.wpAny_updateSeq
def LW:=@List.drop_eq_getElem_cons
def LX:=@PySem.wpAny_setEntries_of
def LY:=@List.filterMap_cons_none
def LZ:=@List.mem_map_of_mem
def L0:=@Bool.false_and
def L1:=@PySem.isSubtype_type
def L3:=@PySem.wpAny_fieldsOf
def L4:=@Option.map_map
def L5:=@List.flatten_append
def L6:=@PySem.wpAny_of_eq
def L7:=@Int.le_refl
def L8:=@PySem.wpAny_forIn_array'
def L9:=@Int.fdiv_eq_ediv_of_nonneg
def Ma:=@Array.getElem?_append_left
def Mb:=@Bool.true_and
def Mc:=@PySem.Value.isInt_shape
def Md:=@PySem.Calls.spliced_nil
def Me:=@List.take_of_length_le
def Mf:=@PySem.wpAny_pyIter_slot
def Mg:=@List.filter_eq_nil_iff
def Mh:=@PySem.call_meets
def Mi:=@PySem.intKind_is
def Mj:=@Nat.mod_lt
def Mk:=@PySem.concat_meets
def Ml:=@PySem.noFill_tuple_add
def Mm:=@Nat.lt_trans
def Mn:=@List.ext_getElem?
def Mo:=@map_eq_pure_bind
def Mp:=@PySem.wpAny_askSetting
def Mq:=@List.length_range
def Mr:=@decide_eq_decide
def Ms:=@Int.le_trans
def Mt:=@Int.zero_add
def Mu:=@Bool.or_eq_true
def Mv:=@List.length_take
def Mw:=@List.mem_reverse
abbrev Mx:=PySem.W.Frag
def az{P:Prop}(h:∀Q:Prop,(P->Q)->Q):P:=h P id
namespace L2
open PySem PySem.Spec PyProof.Rows List Option
noncomputable abbrev Key:=Sum Int Str
noncomputable def lu:Key->Value->Bool
 | .inl k,v=>Value.isInt k v
 | .inr x,v=>Value.isStrOf x v
noncomputable def Iv(w:World):Key->Int
 | .inl k=>hashInt k
 | .inr x=>hashStr w x
def bM:∀{k}{v},lu k v=true->(∃i t,k=Sum.inl i/\v=Value.int i t)\/(∃x t,k=Sum.inr x/\v=Value.str x t)
 | .inl i,v,h=>by
  obtain⟨t,e⟩:=Mc (k:=i) (v:=v) h;exact .inl ⟨i,t,rfl,e⟩
 | .inr x,v,h=>by
  obtain⟨t,e⟩:=Value.isStrOf_shape (x:=x) (v:=v) h;exact .inr ⟨x,t,rfl,e⟩
def wf(i)(t):lu (.inl i) (.int i t)=true:=by simp[lu,Value.isInt]
def wg(x)(t):lu (.inr x) (.str x t)=true:=by simp[lu,Value.isStrOf]
def Dc(a b):decide ((Sum.inl a:Key)=Sum.inl b)=(a==b):=by
 by_cases e:a=b
 .subst e;simp
 .simp_all
def Dd(a b):decide ((Sum.inr a:Key)=Sum.inr b)=decide (a=b):=by simp
def De(a)(b):decide ((Sum.inl a:Key)=Sum.inr b)=false:=rfl
def Dg(a)(b):decide ((Sum.inr a:Key)=Sum.inl b)=false:=rfl
noncomputable def bz(prog)(w):PySem.KeyKind prog w Key where
 is:=lu
 hash:=Iv w
 inj:=λv a b U J=>by
  rcases bM U with⟨i,t,rfl,rfl⟩|⟨x,t,rfl,rfl⟩
  .rcases bM J with⟨j,u,rfl,e⟩|⟨y,u,rfl,e⟩
   .injection e with z _;rw[z]
   .exact nomatch e
  .rcases bM J with⟨j,u,rfl,e⟩|⟨y,u,rfl,e⟩
   .exact nomatch e
   .injection e with z _;rw[z]
 byValue:=λk v h=>by
  rcases bM h with⟨i,t,rfl,rfl⟩|⟨x,t,rfl,rfl⟩<;>rfl
 pyHash:=λhv h=>by
  rcases bM hv with⟨i,t,rfl,rfl⟩|⟨x,t,rfl,rfl⟩
  .exact wpAny_pyHash_int h
  .exact wpAny_pyHash_str h
 eqBool:=λY hv h=>by
  rcases bM Y with⟨i,t,rfl,rfl⟩|⟨x,t,rfl,rfl⟩
  .rcases bM hv with⟨j,u,rfl,rfl⟩|⟨y,u,rfl,rfl⟩
   .rw[Dc]at h;exact wpAny_eqBool_int h
   .rw[De]at h;exact SeqAt.EqAt.int_str i t y u _ _ _ _ h
  .rcases bM hv with⟨j,u,rfl,rfl⟩|⟨y,u,rfl,rfl⟩
   .rw[Dg]at h;exact SeqAt.EqAt.str_int x t j u _ _ _ _ h
   .rw[Dd]at h;exact wpAny_eqBool_str h
 «strs»:=λk x t v h=>by
  rcases bM h with⟨i,u,rfl,e⟩|⟨y,u,rfl,e⟩
  .exact nomatch e
  .injection e with z _
   subst z;cases v<;>rfl
def s_(prog:Program)(w:World)(k:Key)(v:Value):(bz prog w).is k v=lu k v:=rfl
def qV(prog)(w)(i)(t):(bz prog w).is (.inl i) (.int i t)=true:=wf i t
def qW(prog)(w)(x)(t):(bz prog w).is (.inr x) (.str x t)=true:=wg x t
inductive V where
 | non|bl (b:Bool)|int (i:Int)|str (x:Str)|byt (b:Array UInt8)|flt (b:UInt64)|ref (a:Addr)|ty (n:String)
 deriving DecidableEq
def aD:V->Value->Prop
 | .non,u=>u=Value.none
 | .bl b,u=>u=Value.bool b
 | .int i,u=>∃t,u=Value.int i t
 | .str x,u=>∃t,u=Value.str x t
 | .byt b,u=>∃t,u=Value.bytes b t
 | .flt b,u=>∃t,u=Value.float b t
 | .ref a,u=>u=Value.ref a
 | .ty n,u=>u=Value.type n
abbrev aG:List V->List Value->Prop:=Paired aD
theorem aG.length(r:aG xs us):xs.length=us.length:=Paired.length r
theorem aG.get:∀{xs}{us}{i:Nat}{x},aG xs us->xs[i]?=some x->∃u,us[i]?=some u/\aD x u
 | _,_,_,_,.nil,e=>by simp at e
 | _,_,0,_,.cons r _,e=>by simp at e;subst e;exact⟨_,rfl,r⟩
 | _,_,i+1,x,.cons _ t,e=>by
  obtain⟨u,h1,h2⟩:=aG.get (i:=i) (x:=x) t (by simpa using e);exact⟨u,by simpa using h1,h2⟩
theorem aG.set(r:aD x u):∀{xs}{us} i,aG xs us->aG (xs.set i x) (us.set i u)
 | _,_,_,.nil=>.nil
 | _,_,0,.cons _ t=>.cons r t
 | _,_,i+1,.cons q t=>.cons q (aG.set r i t)
theorem aG.append:∀{xs ys}{us z},aG xs us->aG ys z->aG (xs++ys) (us++z)
 | _,_,_,_,.nil,s=>s
 | _,_,_,_,.cons r t,s=>.cons r (aG.append t s)
theorem aG.take:∀{xs}{us} n,aG xs us->aG (xs.take n) (us.take n)
 | _,_,0,_=>.nil
 | _,_,_+1,.nil=>.nil
 | _,_,n+1,.cons r t=>.cons r (aG.take n t)
theorem aG.drop:∀{xs}{us} n,aG xs us->aG (xs.drop n) (us.drop n)
 | _,_,0,r=>r
 | _,_,_+1,.nil=>.nil
 | _,_,n+1,.cons _ t=>aG.drop n t
def lS:Option V->Option Value->Prop
 |some v,some u=>aD v u
 |none,none=>True
 | _,_=>False
def KV :List (g×V)->List (g×Value)->Prop:=Paired λp q=>p.1=q.1/\aD p.2 q.2
noncomputable def kV:Key->V
 | .inl i=>.int i
 | .inr x=>.str x
inductive HO where
 | lst (xs:List V)
 | tup (xs:List V)
 | dK (kvs:List (Key×V))|dT (kvs:List (List Key×V))
 | set (S:Int->Bool) (n:Nat)
 | ins (C dx:Addr) (fs:List (Str×V))
 | own (x:Addr)
 | xd (fs:List (Str×V))
 | met (f x:Addr)
 | rng (lo hi:Int)
 | frz (o:Obj) (u:HO)
 | tbl (ps:Array Value)
 | ext (φ:Heap->Prop)
noncomputable abbrev Hp:=Addr->Option HO
noncomputable def upd(H:Hp)(a:Addr)(o:HO):Hp:=λb=>if b=a then some o else H b
def ax :upd H a o a=some o:=by unfold upd;rw[if_pos rfl]
def aZ(h:b≠a):upd H a o b=H b:=by unfold upd;rw[if_neg h]
def F3{H:Hp}{a b:Addr}{o u:HO}(h:H a=some o)(h':H b=some u)(d:o≠u):a≠b:=by
 intro e;subst e;rw[h]at h';exact d (Jv h')
def cx{H:Hp}{a b:Addr}{o:HO}(h:H a=some o)(h':H b=none):a≠b:=by
 intro e;subst e;rw[h]at h';cases h'
section
variable(P:Program)(w:World)
def bE(H:Hp)(h:Heap)(a:Addr):HO->Prop
 | .lst xs=>xs.length<=sizeLine/\∃its n,aG xs its/\h.get? a=some { cls:=.type "list",data:=.seq its.toArray n }
 | .tup xs=>xs.length<=sizeLine/\∃its,aG xs its/\IsTup h a its.toArray
 | .dK kvs=>kvs.length<=sizeLine/\(a==sysModules)=false/\∃vs,KV kvs vs/\h.DictOf (bz P w) a vs
 | .dT kvs=>kvs.length<=sizeLine/\(a==sysModules)=false/\∃xs,
   Paired (λp q=>p.1=q.1/\H q.2.1=some (.tup (p.1.map kV))/\aD p.2 q.2.2) kvs xs /\
   ∃o es ep,h.get? a=some o/\o.ExactDict/\o.data=.dict es ep/\es.toList=xs.map (entryOfKey (tupleKind (bz P w)))/\(xs.map (·.1)).Nodup
 | .set S n=>h.SetOf (intKind P w) a S n
 | .ins C dx fs=>H dx=some (.own a)/\fs.length<=1000/\dx≠a/\h.get? a=some (PySem.W.instObj C dx) /\
   ∃mA,h.Ns1 dx mA/\(∀f,lS (fs.lookup f) (mA f))/\PySem.Within mA (fs.map (·.1))
 | .own _=>∃o,h.get? a=some o
 | .xd fs=>∃mA,h.Ns1 a mA/\∀f,lS (fs.lookup f) (mA f)
 | .rng lo hi=>∃t u v,h.get? a=some { cls:=.type "range",data:=.fields #[.int lo t,.int hi u,.int 1 v] }
 | .frz o u=>h.get? a=some o/\bE H h a u
 | .tbl ps=>h.get? a=some { cls:=.none,data:=.fields ps }
 | .met f x=>h.get? a=some (PySem.W.methodObj (.ref f) (.ref x))
 | .ext z=>z h/\(∃o,h.get? a=some o)/\∀h1 h2,z h1->(∀o,h1.get? a=some o->h2.get? a=some o)->z h2
def HOk(H:Hp)(h:Heap):Prop:=∀a o,H a=some o->bE P w H h a o
end
section
variable{P:Program}{w:World}{H H':Hp}{h h':Heap}{a:Addr}{o:HO}
theorem bE.lt(x:bE P w H h a o):a<h.objs.size:=by
 cases o with
 |own y=>obtain⟨_,e⟩:=x;exact tf e
 |xd fs=>obtain⟨_,⟨_,_,_,e,_⟩,_⟩:=x;exact tf e
 |ext z=>obtain⟨_,⟨_,e⟩,_⟩:=x;exact tf e
 |lst xs=>obtain⟨_,_,_,_,e⟩:=x;exact tf e
 |tup xs=>obtain⟨_,_,_,p⟩:=x;exact p.lt
 |set S n=>obtain⟨o,_,_,_,e,_⟩:=x;exact tf e
 |frz J u=>obtain⟨e,_⟩:=x;exact tf e
 |rng lo hi=>obtain⟨_,_,_,e⟩:=x;exact tf e
 |ins C dx fs=>obtain⟨_,_,_,e,_⟩:=x;exact tf e
 |dK kvs|dT kvs=>obtain⟨_,_,_,_,o,_,_,e,_⟩:=x;exact tf e
 | _=>exact tf (show h.get? a=some _ from x)
theorem Paired.mapP :∀{l₁}{l₂},Paired F l₁ l₂->(∀a b,F a b->G a b)->Paired G l₁ l₂
 | _,_,.nil,_=>.nil
 | _,_,.cons r t,f=>.cons (f _ _ r) (Paired.mapP t f)
def bE.stay(x:bE P w H h a o)(k:∀b u,(b=a\/H b=some (.own a))->h.get? b=some u->h'.get? b=some u)
  (ho:∀b,H b=some (.own a)->H' b=some (.own a)) (Y:∀b xs,H b=some (.tup xs)->H' b=some (.tup xs)):bE P w H' h' a o:=by
 induction o with
 |lst xs=>obtain⟨z,its,n,r,e⟩:=x;exact⟨z,its,n,r,k _ _ (.inl rfl) e⟩
 |tup xs=>obtain⟨z,its,r,J,e,c⟩:=x;exact⟨z,its,r,J,k _ _ (.inl rfl) e,c⟩
 |dK kvs=>obtain⟨z,y,vs,r,J,es,ep,e,c⟩:=x;exact⟨z,y,vs,r,J,es,ep,k _ _ (.inl rfl) e,c⟩
 |dT kvs =>
  obtain⟨z,y,xs,r,J,es,ep,e,c⟩:=x;exact⟨z,y,xs,Paired.mapP r λp q z=>⟨z.1,Y _ _ z.2.1,z.2.2⟩,J,es,ep,k _ _ (.inl rfl) e,c⟩
 |set S n=>obtain⟨J,es,ep,t,e,c⟩:=x;exact⟨J,es,ep,t,k _ _ (.inl rfl) e,c⟩
 |ins C dx fs =>
  obtain⟨d,z,ne,e,mA,⟨U,es,ep,Z,c⟩,r⟩:=x;exact⟨ho _ d,z,ne,k _ _ (.inl rfl) e,mA,⟨U,es,ep,k _ _ (.inr d) Z,c⟩,r⟩
 |own y=>obtain⟨J,e⟩:=x;exact⟨J,k _ _ (.inl rfl) e⟩
 |xd fs=>obtain⟨mA,⟨U,es,ep,e,c⟩,r⟩:=x;exact⟨mA,⟨U,es,ep,k _ _ (.inl rfl) e,c⟩,r⟩
 |rng lo hi=>obtain⟨t,u,v,e⟩:=x;exact⟨t,u,v,k _ _ (.inl rfl) e⟩
 |frz J u ih=>obtain⟨e,q⟩:=x;exact⟨k _ _ (.inl rfl) e,ih q⟩
 |tbl ps =>
  have e:=x;exact k a _ (.inl rfl) e
 |met f y =>
  have e:=x;exact k a _ (.inl rfl) e
 |ext φ=>obtain⟨p,⟨o,e⟩,st⟩:=x;exact⟨st _ _ p λo q=>k _ _ (.inl rfl) q,⟨o,k _ _ (.inl rfl) e⟩,st⟩
theorem HOk.lt(x:HOk P w H h)(e:H a=some o):a<h.objs.size:=(x a o e).lt
def HOk.fresh(x:HOk P w H h)(e:h.objs.size<=a):H a=none:=by
 cases q:H a<;>first|rfl|exact absurd (Jw (x.lt q) e) (J5 _)
theorem HOk.kept(x:HOk P w H h)(k:∀b u,h.get? b=some u->h'.get? b=some u):HOk P w H h':=λa o e =>
 (x a o e).stay (λb u _ q=>k b u q) (λ_ q=>q) λ_ _ q=>q
theorem HOk.laid(x:HOk P w H h)(k:∀b u,h.get? b=some u->h'.get? b=some u)(U:h.objs.size<=a)(new:bE P w (upd H a o) h' a o):HOk P w (upd H a o) h':=λb u e=>by
 have z:=x.fresh U;by_cases J:b=a
 .subst J;rw[ax]at e;cases e;exact new
 .rw[aZ J]at e;exact(x b u e).stay (λc v _ q=>k c v q) (λc q=>by rw[aZ (cx q z)];exact q) λc xs q=>by rw[aZ (cx q z)];exact q
end
def Rd(H:Hp)(a:Addr)(u:HO):Prop:=H a=some u\/∃o,H a=some (.frz o u)
theorem Rd.ok(r:Rd H a u)(x:HOk P w H h):bE P w H h a u:=by
 rcases r with r|⟨o,r⟩
 .exact x a u r
 .obtain⟨_,q⟩:=x a _ r;exact q
def Mut:Option HO->Prop
 |some (.lst _)=>True
 |some (.dK _)=>True
 |some (.dT _)=>True
 |some (.set _ _)=>True
 |some (.ins _ _ _)=>True
 |some (.ext _)=>True
 | _=>False
section
variable{P:Program}{w:World}{H:Hp}{h h':Heap}{x e:Addr}{o':HO}
def HOk.write(ok:HOk P w H h)(Z:Mut (H x))(he:e=x\/H e=some (.own x))(k:∀b u,b≠e->h.get? b=some u->h'.get? b=some u)(ao:∃u,h'.get? e=some u)
  (new:bE P w (upd H x o') h' x o'):HOk P w (upd H x o') h':=λb u q=>by
 have U:∀c y,H c=some (.own y)->c≠x:=λc y r z=>by subst z;rw[r]at Z;exact Z
 have Y:∀c xs,H c=some (.tup xs)->c≠x:=λc xs r z=>by subst z;rw[r]at Z;exact Z
 by_cases hb:b=x
 .subst hb;rw[ax]at q;cases q;exact new
 .rw[aZ hb]at q;by_cases J:b=e
  .have q':H b=some (.own x):=by
    rcases he with z|z
    .exact absurd (J.trans z) hb
    .rw[J];exact z
   rw[q]at q';cases q'
   obtain⟨v,hv⟩:=ao;exact⟨v,by rw[J];exact hv⟩
  .refine(ok b u q).stay (λc v hc r=>k c v ?_ r) (λc r=>by rw[aZ (U c b r)];exact r) λc xs r=>by rw[aZ (Y c xs r)];exact r
   rcases hc with rfl|hc
   .exact J
   .rintro rfl
    simp_all
end
structure Un(fs ex:List Addr)(H H':Hp)(h h':Heap):Prop where
 keep:∀b o,h.get? b=some o->H b=none->b∉fs->b∉ex->h'.get? b=some o
 slot:∀b o,h.get? b=some o->H b=none->b∈fs->b∉ex->∃sl,h'.get? b=some { o with slots:=sl }
 free:∀b o,h.get? b=some o->H b=none->b∉ex->H' b=none
 there:∀b o,h.get? b=some o->b∉ex->∃o',h'.get? b=some o'
 tups:∀b xs,H b=some (.tup xs)->H' b=some (.tup xs)
 frzs:∀b o u,H b=some (.frz o u)->H' b=some (.frz o u)
 tbls:∀b ps,H b=some (.tbl ps)->∃more,H' b=some (.tbl (ps++more))
section
variable{fs fs' ex ex':List Addr}{H H1 H2:Hp}{h h1 h2 h':Heap}{a x e:Addr}{o:HO}
theorem Un.any(u:Un fs ex H H1 h h1)(q:h.get? b=some z)(n:H b=none)(hx:b∉ex):∃U,h1.get? b=some { z with slots:=U }:=by
 by_cases J:b∈fs
 .exact u.slot b z q n J hx
 .exact⟨z.slots,u.keep b z q n J hx⟩
def Un.kept(k:∀b u,h.get? b=some u->h'.get? b=some u):Un fs ex H H h h':=
 ⟨λb z q _ _ _=>k b z q,λb z q _ _ _=>⟨z.slots,k b z q⟩,λ_ _ _ n _=>n,λb z q _=>⟨z,k b z q⟩,λ_ _ q=>q,λ_ _ _ q=>q,λ_ ps q=>⟨#[],by rw[q];simp⟩⟩
def Un.refl:Un fs ex H H h h:=Un.kept λ_ _ q=>q
def Un.laid(k:∀b u,h.get? b=some u->h'.get? b=some u)(J:h.objs.size<=a)(z:H a=none):Un fs ex H (upd H a o) h h' where
 keep:=λb u q _ _ _=>k b u q
 slot:=λb u q _ _ _=>⟨u.slots,k b u q⟩
 free:=λb u q n _=>by rw[aZ (Jr (Jw (tf q) J))];exact n
 there:=λb u q _=>⟨u,k b u q⟩
 tups:=λb xs q=>by rw[aZ (cx q z)];exact q
 frzs:=λb u xs q=>by rw[aZ (cx q z)];exact q
 tbls:=λb ps q=>⟨#[],by rw[aZ (cx q z),q];simp⟩
def Un.write(U:Mut (H x))(he:e=x\/H e=some (.own x))(k:∀b u,b≠e->h.get? b=some u->h'.get? b=some u)(Y:∃u,h'.get? e=some u):Un fs ex H (upd H x o) h h':=by
 have hx:∀b,H b=none->b≠x:=λb n z=>by subst z;rw[n]at U;exact U
 have hb:∀b,H b=none->b≠e:=λb n z=>by
  simp_all
 have Z:∀b u,H b=some u->¬ Mut (some u)->b≠x:=λb u q nm z=>by subst z;rw[q]at U;exact nm U
 refine⟨λb u q n _ _=>k b u (hb b n) q,λb u q n _ _=>⟨u.slots,k b u (hb b n) q⟩,λb u q n _=>by rw[aZ (hx b n)];exact n,λb u q _=>?_,
  λb xs q=>by rw[aZ (Z b _ q λz=>z)];exact q,λb u xs q=>by rw[aZ (Z b _ q λz=>z)];exact q,λb ps q=>⟨#[],by rw[aZ (Z b _ q λz=>z),q];simp⟩⟩
 by_cases J:b=e
 .subst J;exact Y
 .exact⟨u,k b u J q⟩
end
noncomputable def trk(h:Heap)(H:Hp):List Addr:=(range h.objs.size).filter λa=>(H a).isSome
noncomputable def pN(h:Heap)(H:Hp):Heap:=PySem.W.hideAll h (trk h H)
def wj(h)(H):(pN h H).objs.size=h.objs.size:=PySem.W.hideAll_size _ _
def xD{H:Hp}{b:Addr}{o:Obj}(e:h.get? b=some o)(n:H b=none):(pN h H).get? b=some o:=
 PySem.W.hideAll_get _ e λhm=>by
  have q:=(JI.mp hm).2;rw[n]at q;simp at q
def AU(e:(pN h H).get? b=some o):h.get? b=some o/\H b=none:=by
 have J:=PySem.W.of_hideAll _ e;refine⟨J,?_⟩;cases q:H b with
 |none=>rfl
 |some x =>
  have U:b∈trk h H:=JI.mpr ⟨Lq.mpr (tf J),by simp[q]⟩;have z:(pN h H).get? b=none:=PySem.W.hideAll_none _ U;rw[z]at e;cases e
noncomputable def AV(g h:Heap)(L:Addr):List (Addr×Obj):=(range h.objs.size).filterMap λa=>if a=L\/(g.get? a).isSome=true then none else(h.get? a).map λo=>(a,o)
noncomputable def bN(g h:Heap)(L d:Addr):List (Addr×Obj):=(AV g h L).filter λp=>decide (p.1≠d)
structure Mod(K:Mx)(mg:Str->Option Value)(base:Heap):Prop where
 kin:K.In base
 glob:base.Ns mainGlobals mg
 blt:∃mb,base.Ns builtinsNs mb/\∀x:Str,x ≠ "__name__"->mb x=bootBuiltins x
 nolimit:base.NoLimit
structure Cx where
 prog:Program
 w:World
 K:Mx
 mg:Str->Option Value
 base:Heap
 A:Around
 N:List Str
 s₀:Shared
 H₀:Hp
 env:Env
 outer:List Env
 stack:List Env
 ex:List Addr
 fn:Str->Bool
 calm:Bool
 pn:List (Addr×Obj)
 xe:Value->Shared->Prop
noncomputable def frs(l:List Env):List Addr:=l.filterMap (·.frame)
noncomputable abbrev Cx.fs(X:Cx):List Addr:=frs X.outer
def Vis(sc:Scope)(x:Str):Prop:=sc.names.lookup x=some .local\/sc.names.lookup x=some .cell\/sc.names.lookup x=some .free
def Loc(sc:Scope)(x:Str):Prop:=sc.names.lookup x=some .local\/sc.names.lookup x=some .cell
def Iw(env:Env)(h:Heap)(m:Str->Option Value)(x:Str)(u:Value):Prop:=
 (env.kindOf x=some .local/\m x=some u)\/((env.kindOf x=some .cell\/env.kindOf x=some .free)/\∃c,env.cells.lookup x=some c/\h.IsCell c (some u))
structure Cx.Ok(X:Cx):Prop where
 mod:Mod X.K X.mg X.base
 kind:X.env.scope.kind=.function
 glob:X.env.globals=mainGlobals
 blt:X.env.builtins=builtinsNs
 above:X.s₀.heap.objs.size<=X.env.locals
 inj:∀x y c,X.env.cells.lookup x=some c->X.env.cells.lookup y=some c->x=y
 has:∀x,(X.env.kindOf x=some .cell\/X.env.kindOf x=some .free)->∃c,X.env.cells.lookup x=some c
 cab:∀x c,X.fn x=true->X.env.cells.lookup x=some c->X.s₀.heap.objs.size<=c
 hd:X.calm=true->X.A.handled=none
 frames:X.A.frames=some X.stack
 stk:X.stack=X.outer\/(X.stack=X.env::X.outer/\X.env.frame=some X.env.locals)
 exf:∀b∈X.ex,b≠X.env.locals/\∀x c,X.env.cells.lookup x=some c->c≠b
 bs:∀b o,X.base.get? b=some o->X.s₀.heap.get? b=some o/\X.H₀ b=none
 bsz:X.base.objs.size<=X.s₀.heap.objs.size
 noex:∀b o,X.base.get? b=some o->b∉X.ex
 exfs:∀b∈X.ex,b∉X.fs
 funs:X.s₀.heap.FunFrames X.base X.outer
 frf:∀b∈X.fs,X.H₀ b=none
structure Inv(X:Cx)(pins:List (Addr×Obj))(σ:List (Option V))(H:Hp)(s:Shared):Prop where
 ok:X.Ok
 os:s.os=X.s₀.os
 bare:AllBare s.gens
 base:Un X.fs X.ex X.H₀ H X.s₀.heap s.heap
 loc:∃m,s.heap.Ns X.env.locals m/\∀(i:Nat) (x:Str) (v:V),X.N[i]?=some x->σ[i]?=some (some v)->Vis X.env.scope x->∃u,aD v u/\Iw X.env s.heap m x u
 cell:∀x c,X.env.cells.lookup x=some c->∃v,s.heap.IsCell c v
 free:H X.env.locals=none
 freeC:∀x c,X.env.cells.lookup x=some c->H c=none
 pin:∀p∈X.pn++pins,s.heap.get? p.1=some p.2/\H p.1=none/\p.1≠X.env.locals/\p.1∉X.fs/\∀v,p.2.data≠.cell v
 hok:HOk X.prog X.w H s.heap
 len:σ.length=X.N.length
section
variable{X:Cx}{pins:List (Addr×Obj)}{σ:List (Option V)}{H H':Hp}{s:Shared}{h':Heap}
theorem Cx.Ok.nofr(ok:X.Ok)(e:X.base.get? b=some o):b∉X.fs:=λz=>by
 have:=(ok.funs.mem z).1;rw[e]at this;cases this
theorem Inv.bs(I:Inv X pins σ H s):∀b o,X.base.get? b=some o->s.heap.get? b=some o/\H b=none:=λb o e =>
 ⟨I.base.keep b o (I.ok.bs b o e).1 (I.ok.bs b o e).2 (I.ok.nofr e) (I.ok.noex b o e),I.base.free b o (I.ok.bs b o e).1 (I.ok.bs b o e).2 (I.ok.noex b o e)⟩
theorem Inv.bk(I:Inv X pins σ H s):∀b o,X.base.get? b=some o->s.heap.get? b=some o:=λb o e=>(I.bs b o e).1
theorem Inv.mod(I:Inv X pins σ H s):Mod X.K X.mg X.base:=I.ok.mod
theorem Inv.kIn(I:Inv X pins σ H s):X.K.In s.heap:=I.ok.mod.kin.keeps I.bk
theorem Inv.lt(I:Inv X pins σ H s):X.env.locals<s.heap.objs.size:=let ⟨_,z,_⟩:=I.loc;z.lt
theorem Inv.sz(I:Inv X pins σ H s):X.s₀.heap.objs.size<=s.heap.objs.size:=Js I.ok.above (Lr I.lt)
theorem Inv.nofs(I:Inv X pins σ H s)(h:s.heap.objs.size<=a):a∉X.fs:=λz=>by
 obtain⟨_,o,ho,_⟩:=I.ok.funs.mem z;exact absurd (Jw (tf ho) (Js I.sz h)) (J5 _)
theorem Inv.cne(I:Inv X pins σ H s):∀x c,X.env.cells.lookup x=some c->c≠X.env.locals:=λx c e z=>by
 obtain⟨v,o,ho,hd⟩:=I.cell x c e;obtain⟨m,⟨o',es,ep,J,U,_⟩,_⟩:=I.loc
 simp_all
theorem Inv.funs(I:Inv X pins σ H s):s.heap.FunFrames X.base X.outer:=by
 have all:∀l,(∀b∈frs l,b∈X.fs)->X.s₀.heap.FunFrames X.base l->s.heap.FunFrames X.base l:=by
  intro l
  induction l with
  |nil=>intro _ _;trivial
  |cons env r ih =>
   intro hs Y;obtain⟨Z,⟨L,o,J,hn,ho,hd⟩,hr⟩:=Y;have hL:=hs L (by unfold frs;rw[filterMap_cons,J];exact Kf);obtain⟨sl,e⟩:=I.base.slot L o ho (I.ok.frf L hL) hL λz=>I.ok.exfs L z hL
   exact⟨Z,⟨L,_,J,hn,e,hd⟩,ih (λb U=>hs b (by unfold frs;rw[filterMap_cons,J];exact J6 _ U)) hr⟩
 exact all X.outer (λ_ U=>U) I.ok.funs
theorem Inv.stack(I:Inv X pins σ H s):s.heap.FunFrames X.base X.stack:=by
 rcases I.ok.stk with e|⟨e,z⟩
 .rw[e];exact I.funs
 .rw[e];obtain⟨m,J,_⟩:=I.loc;refine .cons (by rw[I.ok.kind];decide) z J ?_ I.funs;exact Heap.get?_none_of_le (Js I.ok.bsz I.ok.above)
def Inv.stkSub(I:Inv X pins σ H s):∀b∈frs X.stack,b∈X.env.locals::X.fs:=λb z=>by
 rcases I.ok.stk with e|⟨e,J⟩
 .rw[e]at z;exact J6 _ z
 .rw[e]at z;unfold frs at z;rw[filterMap_cons,J]at z;exact z
def Inv.stkFree(I:Inv X pins σ H s):∀b∈frs X.stack,H b=none:=λb J=>by
 rcases Jp.mp (I.stkSub b J)with e|J
 .rw[e];exact I.free
 .obtain⟨_,o,ho,_⟩:=I.ok.funs.mem J;exact I.base.free b o ho (I.ok.frf b J) λz=>I.ok.exfs b z J
theorem Inv.step{ch:List Addr}(I:Inv X pins σ H s)
  (J:∀b∈ch,(b∈X.ex\/X.s₀.heap.objs.size<=b)/\b≠X.env.locals/\(∀x c,X.env.cells.lookup x=some c->c≠b)/\∀p∈X.pn++pins,p.1≠b)
  (keep:∀b o,b≠X.env.locals->b∉X.fs->b∉ch->s.heap.get? b=some o->H b=none->h'.get? b=some o)
  (slot:∀b o,b≠X.env.locals->b∈X.fs->b∉ch->s.heap.get? b=some o->H b=none->∃sl,h'.get? b=some { o with slots:=sl }) (free:∀b o,b∉ch->s.heap.get? b=some o->H b=none->H' b=none)
  (there:∀b o,b∉ch->s.heap.get? b=some o->∃o',h'.get? b=some o')
  (tups:∀b xs,H b=some (.tup xs)->H' b=some (.tup xs)) (frzs:∀b o u,H b=some (.frz o u)->H' b=some (.frz o u)) (tbls:∀b ps,H b=some (.tbl ps)->∃a0,H' b=some (.tbl (ps++a0)))
  (ns:∀m,s.heap.Ns X.env.locals m->h'.Ns X.env.locals m) (hok:HOk X.prog X.w H' h') (hg:AllBare g') :
  Inv X pins σ H' { s with heap:=h',gens:=g',drawn:=d',toks:=t' }:=by
 have a1:∀b o,X.s₀.heap.get? b=some o->b≠X.env.locals:=λb o e=>Jr (Jw (tf e) I.ok.above)
 have Z:∀b o,X.s₀.heap.get? b=some o->b∉X.ex->b∉ch:=λb o e hx hb=>by
  rcases(J b hb).1 with z|z
  .exact hx z
  .exact absurd (Jw (tf e) z) (J5 _)
 have U:∀x c,X.env.cells.lookup x=some c->∀v,s.heap.IsCell c v->h'.IsCell c v:=λx c e v ⟨o,ho,hd⟩=>by
  have Y:c∉ch:=λz=>(J c z).2.2.1 x c e rfl
  by_cases hc:c∈X.fs
  .obtain⟨sl,q⟩:=slot c o (I.cne x c e) hc Y ho (I.freeC x c e);exact⟨_,q,hd⟩
  .exact⟨o,keep c o (I.cne x c e) hc Y ho (I.freeC x c e),hd⟩
 refine⟨I.ok,I.os,hg,⟨λb o e n hb hx=>?_,λb o e n hb hx=>?_,λb o e n hx=>?_,λb o e hx=>?_,λb xs e=>tups b xs (I.base.tups b xs e),λb o xs e=>frzs b o xs (I.base.frzs b o xs e),λb ps e=>?_⟩,?_,λx c e=>?_,?_,λx c e=>?_,λp hp=>?_,hok,I.len⟩
 .exact keep b o (a1 b o e) hb (Z b o e hx) (I.base.keep b o e n hb hx) (I.base.free b o e n hx)
 .obtain⟨sl,e1⟩:=I.base.slot b o e n hb hx;obtain⟨a4,e2⟩:=slot b _ (a1 b o e) hb (Z b o e hx) e1 (I.base.free b o e n hx);exact⟨a4,e2⟩
 .obtain⟨o',e1⟩:=I.base.there b o e hx;exact free b o' (Z b o e hx) e1 (I.base.free b o e n hx)
 .obtain⟨o',e1⟩:=I.base.there b o e hx;exact there b o' (Z b o e hx) e1
 .obtain⟨m1,e1⟩:=I.base.tbls b ps e;obtain⟨m2,e2⟩:=tbls b _ e1;exact⟨m1++m2,by rw[e2,Array.append_assoc]⟩
 .obtain⟨m,hn,hl⟩:=I.loc;refine⟨m,ns m hn,λi x v e1 e2 e3=>?_⟩;obtain⟨u,r,l⟩:=hl i x v e1 e2 e3;refine⟨u,r,?_⟩;rcases l with l|⟨k,c,e,z⟩
  .exact .inl l
  .exact .inr ⟨k,c,e,U x c e _ z⟩
 .obtain⟨v,z⟩:=I.cell x c e;exact⟨v,U x c e v z⟩
 .obtain⟨m,⟨o,_,_,ho,_⟩,_⟩:=I.loc;exact free _ o (λz=>(J _ z).2.1 rfl) ho I.free
 .obtain⟨v,o,ho,hd⟩:=I.cell x c e;exact free c o (λz=>(J c z).2.2.1 x c e rfl) ho (I.freeC x c e)
 .obtain⟨e,n,ne,nf,d⟩:=I.pin p hp;have Y:p.1∉ch:=λz=>(J p.1 z).2.2.2 p hp rfl
  exact⟨keep p.1 p.2 ne nf Y e n,free p.1 p.2 Y e n,ne,nf,d⟩
theorem Inv.un(I:Inv X pins σ H s)(u:Un X.fs [] H H' s.heap h')(hok:HOk X.prog X.w H' h'):Inv X pins σ H' { s with heap:=h',toks:=t' }:=by
 obtain⟨m,⟨o,es,ep,ho,r⟩,_⟩:=id I.loc;obtain⟨sl,hL⟩:=u.any ho I.free (by simp);exact I.step (ch:=[]) (λ_ z=>nomatch z) (λb o _ U _ e n=>u.keep b o e n U (by simp)) (λb o _ U _ e n=>u.slot b o e n U (by simp)) (λb o _ e n=>u.free b o e n (by simp)) (λb o _ e=>u.there b o e (by simp)) u.tups u.frzs u.tbls (λm' hm=>by
  obtain⟨o',Y,Z,J,r'⟩:=hm;rw[ho]at J;cases J
  exact⟨_,Y,Z,hL,r'⟩) hok I.bare
theorem Inv.call(I:Inv X pins σ H s)(u:Un (frs X.stack) ch H H' s.heap h')(hok:HOk X.prog X.w H' h')(hg:AllBare g')
  (J:∀b∈ch,(b∈X.ex\/X.s₀.heap.objs.size<=b)/\b≠X.env.locals/\(∀x c,X.env.cells.lookup x=some c->c≠b)/\∀p∈X.pn++pins,p.1≠b) :
  Inv X pins σ H' { s with heap:=h',gens:=g',drawn:=d',toks:=t' }:=by
 obtain⟨m,⟨o,es,ep,ho,r⟩,_⟩:=id I.loc;obtain⟨sl,hL⟩:=u.any ho I.free λz=>(J _ z).2.1 rfl
 exact I.step J (λb o hL hb hc e n=>u.keep b o e n (λz=>(Jp.mp (I.stkSub b z)).elim hL hb) hc) (λb o _ _ hc e n=>u.any e n hc) (λb o hc e n=>u.free b o e n hc) (λb o hc e=>u.there b o e hc) u.tups u.frzs u.tbls (λm' hm=>by
  obtain⟨o',Y,Z,U,r'⟩:=hm;rw[ho]at U;cases U
  exact⟨_,Y,Z,hL,r'⟩) hok hg
def Inv.turned(I:Inv X pins σ H s)(k:∀b o,b≠it->s.heap.get? b=some o->h'.get? b=some o)(U:H it=none)(hL:it≠X.env.locals)
  (h1:it∈X.ex\/X.s₀.heap.objs.size<=it) (h2:∀x c,X.env.cells.lookup x=some c->c≠it) (Y:∀p∈X.pn++pins,p.1≠it):Inv X pins σ H { s with heap:=h',toks:=t' }:=by
 have J:∀b u,H b=some u->b≠it:=λb u e z=>by rw[z,U]at e;cases e
 refine I.step (ch:=[it]) (λb Z=>?_) (λb o _ _ hc e _=>k b o (λz=>hc (by simp[z])) e) (λb o _ _ hc e _=>⟨o.slots,k b o (λz=>hc (by simp[z])) e⟩) (λ_ _ _ _ n=>n)
  (λb o hc e=>⟨o,k b o (λz=>hc (by simp[z])) e⟩) (λ_ _ e=>e) (λ_ _ _ e=>e) (λb ps e=>⟨#[],by rw[e];simp⟩) (λm hm=>?_) (λb u e=>?_) I.bare
 .have e:b=it:=by simpa using Z
  subst e;exact⟨h1,hL,h2,Y⟩
 .obtain⟨o,es,ep,ho,r⟩:=hm;exact⟨o,es,ep,k _ o (KW hL) ho,r⟩
 .refine(I.hok b u e).stay (λc v hc q=>k c v ?_ q) (λ_ q=>q) λ_ _ q=>q
  rcases hc with z|z
  .rw[z];exact J b u e
  .exact J c _ z
theorem Inv.tok(I:Inv X pins σ H s)(t):Inv X pins σ H { s with toks:=t }:=I.un (h':=s.heap) (t':=t) Un.refl I.hok
theorem Inv.kept(I:Inv X pins σ H s)(k:∀b u,s.heap.get? b=some u->h'.get? b=some u):Inv X pins σ H { s with heap:=h',toks:=t' }:=I.un (Un.kept k) (I.hok.kept k)
theorem Inv.laid(I:Inv X pins σ H s)(k:∀b u,s.heap.get? b=some u->h'.get? b=some u)(z:s.heap.objs.size<=a)(new:bE X.prog X.w (upd H a o) h' a o) :
  Inv X pins σ (upd H a o) { s with heap:=h',toks:=t' }:=I.un (Un.laid k z (I.hok.fresh z)) (I.hok.laid k z new)
theorem Inv.write(I:Inv X pins σ H s)(J:Mut (H x))(U:e=x\/H e=some (.own x))(k:∀b u,b≠e->s.heap.get? b=some u->h'.get? b=some u)(z:∃u,h'.get? e=some u)
  (new:bE X.prog X.w (upd H x o) h' x o):Inv X pins σ (upd H x o) { s with heap:=h',toks:=t' }:=I.un (Un.write J U k z) (I.hok.write J U k z new)
def Inv.pins_of(I:Inv X pins σ H s)(h:∀p∈J,s.heap.get? p.1=some p.2/\H p.1=none/\p.1≠X.env.locals/\p.1∉X.fs/\∀v,p.2.data≠.cell v):Inv X J σ H s:=
 ⟨I.ok,I.os,I.bare,I.base,I.loc,I.cell,I.free,I.freeC,λp U=>(Kv.mp U).elim (λz=>I.pin p (LN _ z)) (h p),I.hok,I.len⟩
def qX{N:List Str}(z:N.Nodup){i j:Nat}(a:N[i]?=some x)(b:N[j]?=some x):i=j:=by
 obtain⟨h1,J⟩:=Jt.mp a;obtain⟨h2,U⟩:=Jt.mp b;exact(getElem_inj z).mp (J.trans U.symm)
def oJ{i:Nat}{x:Str}{v:V}{u:Value}{Q:Unit->Shared->Prop}(I:Inv X pins σ H s)(hN:X.N.Nodup)(hi:X.N[i]?=some x)(hx:Loc X.env.scope x)(r:aD v u)
  (h:∀s',Inv X pins (σ.set i (some v)) H s'->(∃a,Heap.SameBut a s.heap s'.heap/\(a=X.env.locals\/X.env.cells.lookup x=some a))->Q () s') (hf:X.fn x=true\/X.env.scope.names.lookup x=some .local:=by first|exact .inl rfl|exact .inr rfl|assumption):wpAny M A (storeName X.env x u) Q E s:=by
 obtain⟨m,hn,hl⟩:=id I.loc;have a3:(X.env.scope.kind==.class||(X.env.scope.kind==.module&&X.env.locals != X.env.globals))=false:=by rw[I.ok.kind];rfl
 have ao:i<σ.length:=by rw[I.len];exact(Jt.mp hi).1
 have cne:=I.cne;have J:∀{a}{h'},(∃o,s.heap.get? a=some o/\H a=none)->Heap.SameBut a s.heap h'->HOk X.prog X.w H h':=λ{a h'} ha hs b ob e=>by
  obtain⟨_,_,Y⟩:=ha;refine(I.hok b ob e).stay (λc w' hc q=>(hs.2 c ?_).trans q) (λ_ q=>q) λ_ _ q=>q
  rintro rfl;rcases hc with rfl|hc
  .rw[Y]at e;cases e
  .rw[Y]at hc;cases hc
 rcases hx with hk|hk
 .refine wpAny_storeName_local hk hn (λh' b1 hs=>?_) a3;obtain⟨oL,_,_,b2,_⟩:=id hn;refine h _ ⟨I.ok,I.os,I.bare,⟨λb o e n hb hx=>?_,λb o e n hb hx=>?_,I.base.free,λb o e hx=>?_,I.base.tups,I.base.frzs,I.base.tbls⟩,⟨_,b1,λj y v' U Z e3=>?_⟩,λy c e=>?_,I.free,I.freeC,λp hp=>?_,J ⟨oL,b2,I.free⟩ hs,by simpa using I.len⟩ ⟨_,hs,.inl rfl⟩
  .exact(hs.2 b (Jr (Jw (tf e) I.ok.above))).trans (I.base.keep b o e n hb hx)
  .obtain⟨sl,U⟩:=I.base.slot b o e n hb hx;exact⟨sl,(hs.2 b (Jr (Jw (tf e) I.ok.above))).trans U⟩
  .obtain⟨o',U⟩:=I.base.there b o e hx;exact⟨o',(hs.2 b (Jr (Jw (tf e) I.ok.above))).trans U⟩
  .by_cases hj:j=i
   .subst hj;rw[hi]at U;cases U
    rw[Ks ao]at Z;cases Z;exact⟨u,r,.inl ⟨hk,by simp⟩⟩
   .rw[JJ (KW hj)]at Z;obtain⟨u',r',q⟩:=hl j y v' U Z e3;refine⟨u',r',?_⟩;rcases q with⟨k,e⟩|⟨k,c,e,z⟩
    .refine .inl ⟨k,?_⟩;have:y≠x:=λe=>hj (qX hN U (e▸hi))
     simp[this,e]
    .exact .inr ⟨k,c,e,z.sameBut hs (cne y c e)⟩
  .obtain⟨w',z⟩:=I.cell y c e;exact⟨w',z.sameBut hs (cne y c e)⟩
  .obtain⟨e,n,ne,nf,d⟩:=I.pin p hp;exact⟨(hs.2 p.1 ne).trans e,n,ne,nf,d⟩
 .have a2:X.fn x=true:=by
   rcases hf with z|z
   .exact z
   .rw[z]at hk;cases hk
  obtain⟨c,hc⟩:=I.ok.has x (.inl hk);obtain⟨w',z⟩:=I.cell x c hc;refine wpAny_storeName_cell I.ok.kind hk hc z (λh' a4 hs=>?_);obtain⟨oc,a5,a6⟩:=id z;refine h { s with heap:=h' } ⟨I.ok,I.os,I.bare,⟨λb o e n hb hx=>?_,λb o e n hb hx=>?_,I.base.free,λb o e hx=>?_,I.base.tups,I.base.frzs,I.base.tbls⟩,⟨m,hn.sameBut hs (KW (cne x c hc)),λj y v' U Z e3=>?_⟩,λy c' e=>?_,I.free,I.freeC,λp hp=>?_,J ⟨oc,a5,I.freeC x c hc⟩ hs,by simpa using I.len⟩ ⟨c,hs,.inr hc⟩
  .exact(hs.2 b (Jr (Jw (tf e) (I.ok.cab x c a2 hc)))).trans (I.base.keep b o e n hb hx)
  .obtain⟨sl,U⟩:=I.base.slot b o e n hb hx;exact⟨sl,(hs.2 b (Jr (Jw (tf e) (I.ok.cab x c a2 hc)))).trans U⟩
  .obtain⟨o',U⟩:=I.base.there b o e hx;exact⟨o',(hs.2 b (Jr (Jw (tf e) (I.ok.cab x c a2 hc)))).trans U⟩
  .by_cases hj:j=i
   .subst hj;rw[hi]at U;cases U
    rw[Ks ao]at Z;cases Z;exact⟨u,r,.inr ⟨.inl hk,c,hc,a4⟩⟩
   .rw[JJ (KW hj)]at Z;obtain⟨u',r',q⟩:=hl j y v' U Z e3;refine⟨u',r',?_⟩;rcases q with q|⟨k,c',e,z'⟩
    .exact .inl q
    .refine .inr ⟨k,c',e,z'.sameBut hs ?_⟩;rintro rfl;exact hj (qX hN U (I.ok.inj _ _ _ e hc▸hi))
  .by_cases a7:c'=c
   .subst a7;exact⟨_,a4⟩
   .obtain⟨w2,z2⟩:=I.cell y c' e;exact⟨w2,z2.sameBut hs a7⟩
  .obtain⟨e,n,ne,nf,d⟩:=I.pin p hp;refine⟨(hs.2 p.1 ?_).trans e,n,ne,nf,d⟩;intro q;rw[q,a5]at e;have q':=Jv e;exact d w' (by rw[<- q'];exact a6)
def qY{i:Nat}{x:Str}{v:V}{u:Value}{Q:Unit->Shared->Prop}(I:Inv X pins σ H s)(z:X.N.Nodup)(hi:X.N[i]?=some x)(hx:Loc X.env.scope x)(r:aD v u)
  (h:∀s',Inv X pins (σ.set i (some v)) H s'->Q () s') (J:X.fn x=true\/X.env.scope.names.lookup x=some .local:=by first|exact .inl rfl|exact .inr rfl|assumption):wpAny M A (storeName X.env x u) Q E s:=
 oJ I z hi hx r (λs' U _=>h s' U) J
def Inv.call'(I:Inv X pins σ H s)(ho:s'.os=s.os)(u:Un (frs X.stack) ch H H' s.heap s'.heap)(hok:HOk X.prog X.w H' s'.heap)(J:AllBare s'.gens)
  (z:∀b∈ch,(b∈X.ex\/X.s₀.heap.objs.size<=b)/\b≠X.env.locals/\(∀x c,X.env.cells.lookup x=some c->c≠b)/\∀p∈X.pn++pins,p.1≠b):Inv X pins σ H' s':=by
 obtain⟨h',g',d',t',o'⟩:=s';have e:=ho;subst e;exact I.call u hok J z
end
noncomputable abbrev XK:=Value->Option Addr->Hp->Prop
noncomputable abbrev St:=List (Option V)
noncomputable abbrev VK:=V->Hp->Prop
noncomputable abbrev TE:=St->Hp->VK->Prop
noncomputable abbrev TT:=St->Hp->(Bool->Hp->Prop)->Prop
noncomputable abbrev TA:=St->Hp->(List V->Hp->Prop)->Prop
structure Dh where
 nx:St->Hp->Prop
 rt:VK
 bk:St->Hp->Prop:=λ_ _=>False
 ct:St->Hp->Prop:=λ_ _=>False
noncomputable abbrev TS:=Dh->St->Hp->Prop
def EP(X:Cx)(pins:List (Addr×Obj))(σ:St)(Q:VK)(u:Value)(s':Shared):Prop:=∃v H',Inv X pins σ H' s'/\aD v u/\Q v H'
def TP(X:Cx)(pins:List (Addr×Obj))(σ:St)(Q:Bool->Hp->Prop)(b:Bool)(s':Shared):Prop:=∃H',Inv X pins σ H' s'/\Q b H'
def AP(X:Cx)(pins:List (Addr×Obj))(σ:St)(Q:List V->Hp->Prop)(us:List Value)(s':Shared):Prop:=∃vs H',Inv X pins σ H' s'/\aG vs us/\Q vs H'
def SP(X:Cx)(pins:List (Addr×Obj))(D:Dh)(f:Flow)(s':Shared):Prop:=
 match f with
 | .next=>∃F H',Inv X pins F H' s'/\D.nx F H'
 | .brk=>∃F H',Inv X pins F H' s'/\D.bk F H'
 | .cont=>∃F H',Inv X pins F H' s'/\D.ct F H'
 | .ret u=>∃v F H',Inv X pins F H' s'/\aD v u/\D.rt v H'
def PE(X:Cx)(e:Expr)(t:TE):Prop:=
 ∀pins s (σ:St) H Q,Inv X pins σ H s->t σ H Q->wpAny (model X.prog X.w) X.A (eval e X.env) (EP X pins σ Q) X.xe s
def PT(X:Cx)(e:Expr)(t:TT):Prop:=
 ∀pins s (σ:St) H Q,Inv X pins σ H s->t σ H Q->wpAny (model X.prog X.w) X.A (isTrue e X.env (eval e X.env)) (TP X pins σ Q) X.xe s
def PW(X:Cx)(e:Expr)(t:TT):Prop:=
 ∀whole pins s (σ:St) H Q,Inv X pins σ H s->t σ H Q->wpAny (model X.prog X.w) X.A (isTrue e X.env whole) (TP X pins σ Q) X.xe s
theorem PW.pt(h:PW X e t):PT X e t:=h _
def PA(X:Cx)(es:List Expr)(t:TA):Prop:=
 ∀pos pins s (σ:St) H Q,Inv X pins σ H s->t σ H Q->wpAny (model X.prog X.w) X.A (spliced (backTo pos (starEach es X.env))) (AP X pins σ Q) X.xe s
def PS(X:Cx)(st:Stmt)(t:TS):Prop:=
 ∀pins s (σ:St) H D,Inv X pins σ H s->t D σ H->wpAny (model X.prog X.w) X.A (exec st X.env) (SP X pins D) X.xe s
def PSs(X:Cx)(st:List Stmt)(t:TS):Prop:=
 ∀pins s (σ:St) H D,Inv X pins σ H s->t D σ H->wpAny (model X.prog X.w) X.A (execs st X.env) (SP X pins D) X.xe s
def thn(h:wpAny M A t Q E s)(z:∀a s,Q a s->J a s):wpAny M A t J E s:=JR h z λ_ _ x=>x
section
variable{X:Cx}
def bin(Y:PE X a ta)(Z:PE X b tb){σ:St}{R:V->V->Hp->Prop}(I:Inv X pins σ H s)(h:ta σ H λx H1=>tb σ H1 λy H2=>R x y H2)
  {f:Value->Value->Sem α}
  (hf:∀v u U x y H2,Inv X pins σ H2 U->aD x v->aD y u->R x y H2->wpAny (model X.prog X.w) X.A (f v u) Q X.xe U) :
  wpAny (model X.prog X.w) X.A (eval a X.env) (λv z=>wpAny (model X.prog X.w) X.A (eval b X.env) (λu J=>wpAny (model X.prog X.w) X.A (f v u) Q X.xe J) X.xe z) X.xe s:=by
 refine thn (Y pins s σ H _ I h) λv s1 ⟨x,H1,I1,r1,q1⟩=>?_
 refine thn (Z pins s1 σ H1 _ I1 q1) λu U ⟨y,H2,I2,r2,q2⟩=>?_
 exact hf v u U x y H2 I2 r1 r2 q2
noncomputable def F4(i:Nat):TE:=λσ H Q=>∃v,σ[i]?=some (some v)/\Q v H
noncomputable def tC(v:V):TE:=λ_ H Q=>Q v H
def Di (Y:X.N[i]?=some x) (hv:Vis X.env.scope x) (hd:(x==("__debug__":Str))=false:=by decide) (U:(x==("__classdict__":Str))=false:=by decide):PE X (.Name x pos) (F4 i):=by
 intro pins s σ H Q I h;obtain⟨v,e,h⟩:=h;obtain⟨m,Z,hl⟩:=I.loc;obtain⟨u,r,l⟩:=hl i x v Y e hv;have fin:EP X pins σ Q u s:=⟨v,H,I,r,h⟩;rcases l with⟨J,hm⟩|⟨J,c,hc,z⟩
 .exact wpAny_Name (wpAny_loadName_local I.ok.kind J Z hm fin) hd
 .rcases J with J|J
  .exact wpAny_Name (wpAny_loadName_cell I.ok.kind J hc z fin) hd
  .exact wpAny_Name (wpAny_loadName_free I.ok.kind J hc z fin U) hd
def Dj{i j pos}:PE X (.Constant (.int i) j pos) (tC (.int i)):=λ_ _ _ H _ I h=>wpAny_Constant_int ⟨.int i,H,I.tok _,⟨_,rfl⟩,h⟩
def F5{b j pos}:PE X (.Constant (.bool b) j pos) (tC (.bl b)):=λ_ _ _ H _ I h=>Constant_bool ⟨.bl b,H,I,rfl,h⟩
def Dk{j pos}:PE X (.Constant .none j pos) (tC .non):=λ_ _ _ H _ I h=>Constant_none ⟨.non,H,I,rfl,h⟩
def ti{x j pos}:PE X (.Constant (.str x) j pos) (tC (.str x)):=λ_ _ _ H _ I h=>Calls.Constant_str ⟨.str x,H,I.tok _,⟨_,rfl⟩,h⟩
def Gl(X:Cx)(x:Str):Prop:=X.env.kindOf x=some .globalImplicit
def pO{pins:List (Addr×Obj)}{s:Shared}{σ:St}{H:Hp}{x:Str}{u:Value}{pos:Pos}{Q:Value->Shared->Prop}(I:Inv X pins σ H s)(z:Gl X x)(J:X.mg x=some u)(h:Q u s)
  (hd:(x==("__debug__":Str))=false:=by decide):wpAny (model X.prog X.w) X.A (eval (.Name x pos) X.env) Q E s:=
 Calls.Name_function_global I.ok.kind z (Calls.loadGlobal_global (by rw[I.ok.glob];exact I.mod.glob.keeps I.bk) J h) hd
def iA{E:Value->Shared->Prop}{pins:List (Addr×Obj)}{s:Shared}{σ:St}{H:Hp}{x:Str}{u:Value}{pos:Pos}{Q:Value->Shared->Prop}(I:Inv X pins σ H s)(z:Gl X x)(J:X.mg x=none)(hv:bootBuiltins x=some u)(h:Q u s)
  (U:x ≠ "__name__":=by decide) (hd:(x==("__debug__":Str))=false:=by decide):wpAny (model X.prog X.w) X.A (eval (.Name x pos) X.env) Q E s:=by
 obtain⟨Y,h1,h2⟩:=I.mod.blt;exact Calls.Name_function_global I.ok.kind z (Calls.loadGlobal_builtin (by rw[I.ok.glob];exact I.mod.glob.keeps I.bk) J (by rw[I.ok.blt];exact h1.keeps I.bk) ((h2 x U).trans hv) h) hd
def AW (z:Gl X x) (J:X.mg x=some u) (r:aD v u) (hd:(x==("__debug__":Str))=false:=by decide):PE X (.Name x pos) (tC v):=
 λ_ _ _ H _ I h=>pO I z J ⟨v,H,I,r,h⟩ hd
def AX (z:Gl X x) (J:X.mg x=none) (hv:bootBuiltins x=some u) (r:aD v u) (U:x ≠ "__name__":=by decide) (hd:(x==("__debug__":Str))=false:=by decide):PE X (.Name x pos) (tC v):=
 λ_ _ _ H _ I h=>iA I z J hv ⟨v,H,I,r,h⟩ U hd
variable{a b:Expr}{ta tb:TE}{pos:Pos}
def PC(X:Cx)(op:CmpOp)(a b:Expr)(t:TE):Prop:=
 ∀pins s (σ:St) H Q,Inv X pins σ H s->t σ H Q ->
  wpAny (model X.prog X.w) X.A (eval a X.env) (λv z=>wpAny (model X.prog X.w) X.A (eval b X.env) (λu J=>wpAny (model X.prog X.w) X.A (compareOp op v u) (EP X pins σ Q) X.xe J) X.xe z) X.xe s
noncomputable def tB(t:TE):TT:=λσ H Q=>t σ H λx H1=>∃c,x=.bl c/\Q c H1
def xE(h:PC X op a b t)(h1:behindInMarks op b=false:=by first|exact z _ (by decide) (by decide)|rfl):PE X (.Compare a [op] [b] pos) t:=λpins s σ H Q I hw=>wpAny_Compare1 (h pins s σ H Q I hw) h1
def xF(h:PC X op a b t)(h1:behindInMarks op b=false:=by first|exact z _ (by decide) (by decide)|rfl):PT X (.Compare a [op] [b] pos) (tB t):=by
 intro pins s σ H Q I hw;refine wpAny_isTrue_Compare1 (thn (h pins s σ H _ I hw) λv Z h1=>thn h1 λu s2 h2=>thn h2 λc s3 ⟨x,H1,J,U,Y⟩=>?_) h1;obtain⟨d,rfl,q⟩:=Y;cases U;exact Kh ⟨H1,J,q⟩
def Dl(h:PE X e t)(z:∀whole,isTrue e X.env whole=(do let v <- whole;standAt e.pos;holding [v] (truthy v)):=by intro _;rfl):PT X e (tB t):=by
 intro pins s σ H Q I hw;refine isTrue_plain (thn (h pins s σ H _ I hw) λv Z ⟨x,H1,J,U,Y⟩=>?_) (z _);obtain⟨d,rfl,q⟩:=Y;cases U;exact Kh ⟨H1,J,q⟩
variable{tA tB':TT}{bN:List Expr}
noncomputable def Ix(t u:TT):TT:=λσ H Q=>t σ H λc H1=>if c=true then u σ H1 Q else Q false H1
noncomputable def tOr(t u:TT):TT:=λσ H Q=>t σ H λc H1=>if c=true then Q true H1 else u σ H1 Q
noncomputable def Iy(t:TT):TT:=λσ H Q=>t σ H λc H1=>Q (!c) H1
def AY(z:PT X a tA):PW X (.BoolOp .And [a] pos) tA:=by
 intro J pins s σ H Q I h;refine isTrue_and (thn (z pins s σ H Q I h) λc U e=>?_);cases c<;>first|exact isTrue_and_nil e|exact e
def Dm(z:PT X a tA):PW X (.BoolOp .Or [a] pos) tA:=by
 intro J pins s σ H Q I h;refine isTrue_or (thn (z pins s σ H Q I h) λc U e=>?_);cases c<;>first|exact isTrue_or_nil e|exact e
def Dn(U:PT X a tA)(Y:PW X (.BoolOp .And (b::bN) pos) tB'):PW X (.BoolOp .And (a::b::bN) pos) (Ix tA tB'):=by
 intro Z pins s σ H Q I h;refine isTrue_and (thn (U pins s σ H _ I h) λc s1 ⟨H1,z,J⟩=>?_);cases c<;>first|exact Y Z pins s1 σ H1 Q z J|exact⟨H1,z,J⟩
def F6(U:PT X a tA)(Y:PW X (.BoolOp .Or (b::bN) pos) tB'):PW X (.BoolOp .Or (a::b::bN) pos) (tOr tA tB'):=by
 intro Z pins s σ H Q I h;refine isTrue_or (thn (U pins s σ H _ I h) λc s1 ⟨H1,z,J⟩=>?_);cases c<;>first|exact⟨H1,z,J⟩|exact Y Z pins s1 σ H1 Q z J
def Do(z:PT X a tA):PT X (.UnaryOp .Not a pos) (Iy tA):=by
 intro pins s σ H Q I h;exact isTrue_not (z pins s σ H (λc H1=>Q _ H1) I h)
noncomputable def F7(ta tb:TE):TE:=λσ H Q=>ta σ H λx H1=>∃c,x=.bl c/\if c=true then tb σ H1 Q else Q (.bl false) H1
noncomputable def Iz(ta tb:TE):TE:=λσ H Q=>ta σ H λx H1=>∃c,x=.bl c/\if c=true then Q (.bl true) H1 else tb σ H1 Q
noncomputable def F9(ta:TE):TE:=λσ H Q=>ta σ H λx H1=>∃c,x=.bl c/\Q (.bl (!c)) H1
def xG{op}(h:PE X a t):PE X (.BoolOp op [a] pos) t:=λpins s σ H Q I hw=>BoolOp_one (h pins s σ H Q I hw)
def Dp(U:PE X a ta)(Y:PE X (.BoolOp .And (b::bN) pos) tb):PE X (.BoolOp .And (a::b::bN) pos) (F7 ta tb):=by
 intro pins s σ H Q I h;refine BoolOp_and (thn (U pins s σ H _ I h) λv Z ⟨x,H1,J,r1,z⟩=>?_);obtain⟨c,rfl,z⟩:=z;cases r1;refine Kh ?_;cases c<;>first|exact Y pins Z σ H1 Q J z|exact⟨.bl false,H1,J,rfl,z⟩
def F_(U:PE X a ta)(Y:PE X (.BoolOp .Or (b::bN) pos) tb):PE X (.BoolOp .Or (a::b::bN) pos) (Iz ta tb):=by
 intro pins s σ H Q I h;refine BoolOp_or (thn (U pins s σ H _ I h) λv Z ⟨x,H1,J,r1,z⟩=>?_);obtain⟨c,rfl,z⟩:=z;cases r1;refine Kh ?_;cases c<;>first|exact Y pins Z σ H1 Q J z|exact⟨.bl true,H1,J,rfl,z⟩
def Dq(J:PE X a ta):PE X (.UnaryOp .Not a pos) (F9 ta):=by
 intro pins s σ H Q I h;refine UnaryOp_ (thn (J pins s σ H _ I h) λv Z ⟨x,H1,U,Y,z⟩=>?_);obtain⟨c,rfl,z⟩:=z;cases Y;exact not_of (Kh ⟨.bl _,H1,U,rfl,z⟩)
noncomputable def tIf(t:TT)(ta tb:TE):TE:=λσ H Q=>t σ H λc H1=>if c=true then ta σ H1 Q else tb σ H1 Q
def xH(hc:PT X c tA)(Y:PE X a ta)(Z:PE X b tb):PE X (.IfExp c a b pos) (tIf tA ta tb):=by
 intro pins s σ H Q I h;refine wpAny_IfExp (thn (hc pins s σ H _ I h) λd z ⟨H1,J,U⟩=>?_);cases d<;>first|exact Y pins z σ H1 Q J U|exact Z pins z σ H1 Q J U
end
def SqL(K:Mx)(H:Hp)(a:Addr)(xs:List V):Prop:=
 Rd H a (.lst xs) \/
  ∃o its n,K.lookup a=some o/\o.cls=.type "list"/\o.dict=none/\o.data=.seq its n/\its.size<=sizeLine/\aG xs its.toList
def SqT(K:Mx)(H:Hp)(a:Addr)(xs:List V):Prop:=
 Rd H a (.tup xs) \/
  ∃o its n,K.lookup a=some o/\o.cls=.type "tuple"/\o.data=.seq its n/\its.size<=sizeLine/\aG xs its.toList
noncomputable def IA:Value->Option V
 | .none=>some .non
 | .bool b=>some (.bl b)
 | .int i _=>some (.int i)
 | .str x _=>some (.str x)
 | .bytes b _=>some (.byt b)
 | .float b _=>some (.flt b)
 | .ref a=>some (.ref a)
 | .type n=>some (.ty n)
 | _=>none
theorem aD.abs(r:aD x u):IA u=some x:=by
 cases x<;>first|(cases r;rfl)|(obtain⟨t,rfl⟩:=r;rfl)
theorem aD.inj(r:aD x u)(q:aD y u):x=y:=Jv (r.abs.symm.trans q.abs)
theorem aG.inj:∀{xs ys}{us},aG xs us->aG ys us->xs=ys
 | _,_,_,.nil,.nil=>rfl
 | _,_,_,.cons r t,.cons z t'=>by rw[r.inj z,aG.inj t t']
section
variable{X:Cx}{pins:List (Addr×Obj)}{σ:St}{H:Hp}{s:Shared}{a:Addr}{xs ys:List V}
theorem SqL.of{K:Mx}(h:H a=some (.lst xs)):SqL K H a xs:=.inl (.inl h)
theorem SqT.of{K:Mx}(h:H a=some (.tup xs)):SqT K H a xs:=.inl (.inl h)
theorem Inv.list(I:Inv X pins σ H s)(h:SqL X.K H a xs):∃its,aG xs its/\PlainL s.heap a its.toArray/\xs.length<=sizeLine:=by
 rcases h with h|⟨o,its,n,J,hc,hd,hs,hz,r⟩
 .obtain⟨z,its,n,r,e⟩:=h.ok I.hok;exact⟨its,r,⟨_,n,e,rfl,rfl,rfl⟩,z⟩
 .refine⟨its.toList,r,⟨o,n,I.kIn a o J,hc,hd,by simpa using hs⟩,?_⟩;have e:=r.length
  simp_all
def Inv.tuple(I:Inv X pins σ H s)(h:SqT X.K H a xs):∃its,aG xs its/\IsTup s.heap a its.toArray/\xs.length<=sizeLine:=by
 rcases h with h|⟨o,its,n,J,hc,hs,hz,r⟩
 .obtain⟨z,its,r,p⟩:=h.ok I.hok;exact⟨its,r,p,z⟩
 .refine⟨its.toList,r,⟨o,I.kIn a o J,hc,n,by simpa using hs⟩,?_⟩;have e:=r.length
  simp_all
def Inv.list_inj(I:Inv X pins σ H s)(h:SqL X.K H a xs)(h':SqL X.K H a ys):xs=ys:=by
 obtain⟨its,r,⟨o,n,e,_,_,d⟩,_⟩:=I.list h;obtain⟨its',J,⟨o',Y,z,_,_,d'⟩,_⟩:=I.list h';rw[e]at z;cases z
 rw[d]at d';injection d' with U _
 have:its=its':=by simpa using JK Array.toList U
 subst this;exact r.inj J
def Inv.tuple_inj(I:Inv X pins σ H s)(h:SqT X.K H a xs)(h':SqT X.K H a ys):xs=ys:=by
 obtain⟨its,r,⟨o,e,_,n,d⟩,_⟩:=I.tuple h;obtain⟨its',J,⟨o',z,_,Y,d'⟩,_⟩:=I.tuple h';rw[e]at z;cases z
 rw[d]at d';injection d' with U _
 have:its=its':=by simpa using JK Array.toList U
 subst this;exact r.inj J
end
noncomputable abbrev Cx.wish(X:Cx)(E:Value->Shared->Prop):Cx:={ X with xe:=E }
noncomputable abbrev Cx.nox(X:Cx):Cx:=X.wish λ_ _=>False
theorem Cx.Ok.wish{X:Cx}(ok:X.Ok)(E:Value->Shared->Prop):(X.wish E).Ok:=
 ⟨ok.mod,ok.kind,ok.glob,ok.blt,ok.above,ok.inj,ok.has,ok.cab,ok.hd,ok.frames,ok.stk,ok.exf,ok.bs,ok.bsz,ok.noex,ok.exfs,ok.funs,ok.frf⟩
theorem Cx.Ok.unwish{X:Cx}{E:Value->Shared->Prop}(ok:(X.wish E).Ok):X.Ok:=
 ⟨ok.mod,ok.kind,ok.glob,ok.blt,ok.above,ok.inj,ok.has,ok.cab,ok.hd,ok.frames,ok.stk,ok.exf,ok.bs,ok.bsz,ok.noex,ok.exfs,ok.funs,ok.frf⟩
section
variable{X:Cx}{pins:List (Addr×Obj)}{σ:St}{H:Hp}{s:Shared}{E:Value->Shared->Prop}
theorem Inv.wish(I:Inv X pins σ H s)(E):Inv (X.wish E) pins σ H s:=⟨I.ok.wish E,I.os,I.bare,I.base,I.loc,I.cell,I.free,I.freeC,I.pin,I.hok,I.len⟩
theorem Inv.unwish(I:Inv (X.wish E) pins σ H s):Inv X pins σ H s:=⟨I.ok.unwish,I.os,I.bare,I.base,I.loc,I.cell,I.free,I.freeC,I.pin,I.hok,I.len⟩
theorem SP.unwish(h:SP (X.wish E) pins D f s'):SP X pins D f s':=by
 cases f<;>first|(obtain⟨F,H',I,q⟩:=h;exact⟨F,H',I.unwish,q⟩)|(obtain⟨v,F,H',I,r,q⟩:=h;exact⟨v,F,H',I.unwish,r,q⟩)
theorem PSs.nox{st:List Stmt}(h:PSs X.nox st t):PSs X st t:=λpins s σ H D I hw =>
 JR (h pins s σ H D (I.wish _) hw) (λ_ _ q=>q.unwish) λ_ _ z=>False.elim z
end
section
variable{X:Cx}{st:Stmt}{bN:List Stmt}{t u:TS}{e:Expr}{te:TE}{pos:Pos}
noncomputable def Ga:TS:=λD σ H=>D.nx σ H
noncomputable def IB(t u:TS):TS:=λD σ H=>t { D with nx:=u D } σ H
def AZ:PSs X [] Ga:=λ_ _ σ H _ I h=>wpAny_execs_nil ⟨σ,H,I,h⟩
def xI(h1:PS X st t)(h2:PSs X bN u):PSs X (st::bN) (IB t u):=by
 intro pins s σ H D I h;refine wpAny_execs_cons (thn (h1 pins s σ H { D with nx:=u D } I h) λf z q=>?_);cases f with
 |next =>
  obtain⟨F,H',J,q⟩:=q;exact h2 pins z F H' D J q
 | _=>exact q
def Inv.quiet(I:Inv X pins σ H s):interactive X.env=false:=by simp[interactive,I.ok.kind]
noncomputable def Gb(te:TE):TS:=λD σ H=>te σ H λ_ H1=>D.nx σ H1
def pP(z:PE X e te)(hs:swapsWith e none pos.line X.env=pure false:=by rfl):PS X (.Expr e pos) (Gb te):=by
 intro pins s σ H D I h;exact wpAny_Expr_any (thn (z pins s σ H _ I h) λv Y ⟨x,H1,J,Z,U⟩=>⟨σ,H1,J,U⟩) I.quiet hs
noncomputable def IC(te:TE):TS:=λD σ H=>te σ H D.rt
def pQ(z:PE X e te):PS X (.Return (some e) pos) (IC te):=by
 intro pins s σ H D I h;exact wpAny_Return_some (thn (z pins s σ H _ I h) λv Z ⟨x,H1,J,U,Y⟩=>⟨x,σ,H1,J,U,Y⟩)
noncomputable def ID(c:TT)(t u:TS):TS:=λD σ H=>c σ H λb H1=>if b=true then t D σ H1 else u D σ H1
def Gc(hc:PT X c tc)(Y:PSs X a t)(Z:PSs X b u):PS X (.If c a b pos) (ID tc t u):=by
 intro pins s σ H D I h;refine wpAny_If (thn (hc pins s σ H _ I h) λd z ⟨H1,J,U⟩=>?_);cases d<;>first|exact Y pins z σ H1 D J U|exact Z pins z σ H1 D J U
noncomputable def Dr:TS:=λ_ _ _=>False
def xJ:PS X st Dr:=λ_ _ _ _ _ _ h=>h.elim
end
noncomputable abbrev TG:=V->St->Hp->(St->Hp->Prop)->Prop
noncomputable abbrev TGs:=List V->St->Hp->(St->Hp->Prop)->Prop
def PG(X:Cx)(target:Expr)(t:TG):Prop:=
 ∀pins s (σ:St) H v u Q,Inv X pins σ H s->aD v u->t v σ H Q ->
  wpAny (model X.prog X.w) X.A (assign target X.env u) (λ_ s'=>∃F H',Inv X pins F H' s'/\Q F H') X.xe s
def PGs(X:Cx)(z:List Expr)(t:TGs):Prop:=
 ∀pins s (σ:St) H vs us Q,Inv X pins σ H s->aG vs us->t vs σ H Q ->
  wpAny (model X.prog X.w) X.A (assignInOrder ((assignEach z X.env).map (·.2)) us) (λ_ s'=>∃F H',Inv X pins F H' s'/\Q F H') X.xe s
noncomputable abbrev IE:=V->V->V->Hp->(Hp->Prop)->Prop
def IF(X:Cx)(t:IE):Prop:=
 ∀pins s (σ:St) H o i v z J u Q,Inv X pins σ H s->aD o z->aD i J->aD v u->t o i v H Q ->
  wpAny (model X.prog X.w) X.A (setItem z J u) (λ_ s'=>∃H',Inv X pins σ H' s'/\Q H') X.xe s
section
variable{X:Cx}{pos:Pos}
noncomputable def jd(i:Nat):TG:=λv σ H Q=>Q (σ.set i (some v)) H
def l0(z:X.N.Nodup)(hi:X.N[i]?=some x)(hx:Loc X.env.scope x)(J:X.fn x=true\/X.env.scope.names.lookup x=some .local:=by first|exact .inl rfl|exact .inr rfl|assumption):PG X (.Name x pos) (jd i):=by
 intro pins s σ H v u Q I r h;exact wpAny_assign_Name (qY I z hi hx r (λs' U=>⟨_,H,U,h⟩) J)
noncomputable def Ge:TGs:=λvs σ H Q=>vs=[]/\Q σ H
noncomputable def CJ(t:TG)(u:TGs):TGs:=λvs σ H Q=>∃v r,vs=v::r/\t v σ H λF H'=>u r F H' Q
def A0:PGs X [] Ge:=by
 intro pins s σ H vs us Q I r h;obtain⟨e,h⟩:=h;subst e;cases r;exact assignInOrder_nil ⟨σ,H,I,h⟩
def xK(h1:PG X e t)(h2:PGs X es u)
  (hs:(assignEach (e::es) X.env).map (·.2)=assign e X.env::(assignEach es X.env).map (·.2):=by rfl):PGs X (e::es) (CJ t u):=by
 intro pins s σ H vs us Q I r h;obtain⟨v,vr,J,h⟩:=h;subst J;cases r with
 |cons r U =>
  rw[hs];refine assignInOrder_cons (thn (h1 pins s σ H _ _ _ I r h) λ_ Y ⟨z,H1,Z,q1⟩=>?_);exact h2 pins Y z H1 _ _ Q Z U q1
noncomputable def Gg(K:Mx)(n:Nat)(t:TGs):TG:=λv σ H Q=>∃a xs,v=.ref a/\SqT K H a xs/\xs.length=n/\t xs σ H Q
def Ds{k:Nat}(hc:X.calm=true)(h:PGs X es t)
  (U:(assignEach es X.env).length=n:=by rfl) (z:(assignEach es X.env).findIdx? (·.1)=none:=by rfl):PG X (.Tuple es k pos) (Gg X.K n t):=by
 intro pins s σ H v u Q I r hw;refine az λZq Y=>?_
 obtain⟨a,xs,Z,hq,hl,hw⟩:=hw;subst Z;cases r;obtain⟨its,J,ht,hz⟩:=I.tuple hq;refine Y ?_;refine assign_Tuple_tuple (I.ok.hd hc) ht (by simp[U,<- hl,J.length]) z λh' hx=>?_
 have I1:=I.kept (t':=s.toks) λb o e=>hx b o (Jr (tf e)) e
 exact h pins _ σ H xs _ Q I1 (by simpa using J) hw
noncomputable def xL(te:TE)(g:TG):TS:=λD σ H=>te σ H λx H1=>g x σ H1 D.nx
def ju(z:X.N.Nodup)(hi:X.N[i]?=some x)(hx:Loc X.env.scope x)(J:PE X e te)(hs:swapsWith e (some (.Name x pos')) pos.line X.env=pure false:=by rfl)(U:X.fn x=true\/X.env.scope.names.lookup x=some .local:=by first|exact .inl rfl|exact .inr rfl|assumption) :
  PS X (.Assign [.Name x pos'] e pos) (xL te (jd i)):=by
 intro pins s σ H D I h;refine wpAny_Assign_Name (thn (J pins s σ H _ I h) λv s1 ⟨y,H1,Y,Z,q1⟩=>?_) hs;exact qY Y z hi hx Z (λs2 I2=>⟨_,H1,I2,q1⟩) U
end
structure It where
 go:Nat->Hp->Prop
 yld:Nat->Hp->V->Hp->Prop
 stop:Nat->Hp->Prop
def kF(X:Cx)(pins:List (Addr×Obj))(H:Hp)(b:Addr):Prop:=
 H b=none/\b≠X.env.locals/\b∉X.fs/\(b∈X.ex\/X.s₀.heap.objs.size<=b)/\(∀x c,X.env.cells.lookup x=some c->c≠b)/\∀p∈X.pn++pins,p.1≠b
theorem Inv.fpOk{σ:St}{H H':Hp}{s:Shared}{b:Addr}(I:Inv X pins σ H s)(J:s.heap.objs.size<=b)(U:H' b=none):kF X pins H' b:=by
 refine⟨U,Kx (Jw I.lt J),I.nofs J,.inr (Js I.sz J),λx c e z=>?_,λp Y z=>?_⟩
 .obtain⟨v,q⟩:=I.cell x c e;exact absurd (Jw q.lt (by rw[z];exact J)) (J5 _)
 .exact absurd (Jw (tf (I.pin p Y).1) (by rw[z];exact J)) (J5 _)
structure tj(P:Program)(w:World)(K:Mx)(tg:Expr)(J:It)(fp:List Addr)(it:Addr)(tn:Nat->Heap->Prop):Prop where
 mem:it∈fp
 obj:∀i h,tn i h->∀b∈fp,∃o,h.get? b=some o/\∀v,o.data≠.cell v
 keep:∀i h h',tn i h->(∀b∈fp,∀o,h.get? b=some o->h'.get? b=some o)->tn i h'
 item:∀(X:Cx),X.prog=P->X.w=w->X.K=K->X.calm=true->∀(i:Nat) (pins:List (Addr×Obj)) (s:Shared) (σ:St) (H:Hp) (E:Value->Shared->Prop),Inv X pins σ H s->(∀b∈fp,kF X pins H b)->tn i s.heap->J.go i H ->
  wpAny (model P w) X.A (pyNext (.ref it)) (λr s1=>∃u,r=some u /\
   wpAny (model P w) X.A (letOwnedTupleGo tg (.ref it) u) (λ_ s2=>∃x H',Inv X pins σ H' s2/\aD x u/\J.yld i H x H'/\tn (i+1) s2.heap/\∀b∈fp,H' b=none) E s1) E s
 done:∀(X:Cx),X.prog=P->X.w=w->X.K=K->X.calm=true->∀(i:Nat) (pins:List (Addr×Obj)) (s:Shared) (σ:St) (H:Hp) (E:Value->Shared->Prop),Inv X pins σ H s->(∀b∈fp,kF X pins H b)->tn i s.heap->J.stop i H ->
  wpAny (model P w) X.A (pyNext (.ref it)) (λr s1=>r=none/\Inv X pins σ H s1) E s
 self:∀(A:Around) (i:Nat) (s:Shared) (Q:Value->Shared->Prop) (E:Value->Shared->Prop),tn i s.heap->Q (.ref it) s->wpAny (model P w) A (pyIter (.ref it)) Q E s
noncomputable abbrev TI:=St->Hp->(It->Hp->Prop)->Prop
def PIE(X:Cx)(pins:List (Addr×Obj))(σ:St)(tg:Expr)(R:It->Hp->Prop)(z:Value)(U:Shared):Prop:=
 ∃it fp Y J H',z=.ref it/\Inv X pins σ H' U/\tj X.prog X.w X.K tg J fp it Y/\Y 0 U.heap/\(∀b∈fp,kF X pins H' b)/\R J H'
def PI(X:Cx)(tg iter:Expr)(wi:TI):Prop:=
 ∀pins s (σ:St) H R,Inv X pins σ H s->wi σ H R ->
  wpAny (model X.prog X.w) X.A (eval iter X.env) (λv z=>wpAny (model X.prog X.w) X.A (pyIter v) (PIE X pins σ tg R) X.xe z) X.xe s
def xM{s:Shared}{tg:Expr}{it:Addr}{u:Value}{o:Obj}{n:String}{vs:Array Value}{Q:Unit->Shared->Prop}(ho:s.heap.get? it=some o)(hc:o.cls=.type n)(hd:o.data=.fields vs)
    (hn:["enumerate","zip","dict_itemiterator","dict_reverseitemiterator","odict_iterator","itertools.zip_longest","itertools.pairwise"].contains n=false) (hQ:Q () s):wpAny M A (letOwnedTupleGo tg (.ref it) u) Q E s:=by
  unfold letOwnedTupleGo;cases tg<;>first
    | exact gQ hQ
    | (cases u<;>first
        | exact gQ hQ
        | (refine gf (wpAny_load ho ?_)
           rw[hc,hd];show wpAny M A (if (["enumerate","zip","dict_itemiterator","dict_reverseitemiterator","odict_iterator","itertools.zip_longest","itertools.pairwise"].contains n&&vs[0]?==some (rawInt _))=true then _ else _) Q E s;rw[if_neg (by intro h;rw[hn,L0]at h;cases h)];exact gQ hQ))
noncomputable def Itl(K:Mx)(a:Addr):It:=
 ⟨λi H=>∃xs x,SqL K H a xs/\xs[i]?=some x,λi H x H'=>H'=H/\∀xs,SqL K H a xs->xs[i]?=some x,λi H=>∃xs,SqL K H a xs/\xs.length<=i⟩
noncomputable def Itt(K:Mx)(a:Addr):It:=
 ⟨λi H=>∃xs x,SqT K H a xs/\xs[i]?=some x,λi H x H'=>H'=H/\∀xs,SqT K H a xs->xs[i]?=some x,λi H=>∃xs,SqT K H a xs/\xs.length<=i⟩
noncomputable def Itr(lo:Int)(n:Nat):It:=⟨λi _=>i<n,λi H x H'=>H'=H/\x=.int (lo+i),λi _=>n<=i⟩
def wk{K:Mx}(a it):tj P w K tg (Itl K a) [it] it (λi h=>h.IsListIter it a i) where
 mem:=by simp
 obj:=λi h st b z=>by
  obtain⟨o,e,c,d⟩:=st
  simp_all
 keep:=λi h h' st k=>st.at λo e=>k it (by simp) o e
 item:=by
  intro X Z hw hK hc i pins s σ H E I U st hg;refine az λZq kq=>?_
  subst Z hw hK;obtain⟨xs,x,Y,hx⟩:=hg;obtain⟨its,rv,p,hz⟩:=I.list Y;obtain⟨u,hu,ru⟩:=rv.get hx;obtain⟨f0,f1,f2,f3,f4,f5⟩:=U it (by simp);refine kq ?_;refine wpAny_pyNext_list_item st p.isList (by simpa using hu) λh' J sb=>?_
  have I1:=I.turned (t':=s.toks) (λb o z e=>(sb.2 b z).trans e) f0 f1 f3 f4 f5;obtain⟨o,e,c,d⟩:=id J;exact⟨u,rfl,xM e c d (by decide) ⟨x,H,I1,ru,⟨rfl,λys hy=>by rw[I.list_inj hy Y];exact hx⟩,J,λb z=>(U b z).1⟩⟩
 done:=by
  intro X Z hw hK hc i pins s σ H E I U st hg;refine az λZq kq=>?_
  subst Z hw hK;obtain⟨xs,Y,hx⟩:=hg;obtain⟨its,rv,p,hz⟩:=I.list Y;obtain⟨f0,f1,f2,f3,f4,f5⟩:=U it (by simp);have hl:=rv.length;refine kq ?_;exact wpAny_pyNext_list_end (I.ok.hd hc) st p.isList (by simp;omega) λh' eb=>⟨rfl,I.turned (λb o z e=>eb b o z e) f0 f1 f3 f4 f5⟩
 self:=λ_ _ _ _ _ st h=>wpAny_pyIter_listiter st h
def tm{K:Mx}(a it):tj P w K tg (Itt K a) [it] it (λi h=>h.IsTupleIter it a i) where
 mem:=by simp
 obj:=λi h st b z=>by
  obtain⟨o,e,c,d⟩:=st
  simp_all
 keep:=λi h h' st k=>st.at λo e=>k it (by simp) o e
 item:=by
  intro X Z hw hK hc i pins s σ H E I U st hg;refine az λZq kq=>?_
  subst Z hw hK;obtain⟨xs,x,Y,hx⟩:=hg;obtain⟨its,rv,p,hz⟩:=I.tuple Y;obtain⟨u,hu,ru⟩:=rv.get hx;obtain⟨f0,f1,f2,f3,f4,f5⟩:=U it (by simp);refine kq ?_;refine wpAny_pyNext_tuple_item st (show s.heap.IsTuple a its.toArray from p) (by simpa using hu) λh' J sb=>?_
  have I1:=I.turned (t':=s.toks) (λb o z e=>(sb.2 b z).trans e) f0 f1 f3 f4 f5;obtain⟨o,e,c,d⟩:=id J;exact⟨u,rfl,xM e c d (by decide) ⟨x,H,I1,ru,⟨rfl,λys hy=>by rw[I.tuple_inj hy Y];exact hx⟩,J,λb z=>(U b z).1⟩⟩
 done:=by
  intro X Z hw hK hc i pins s σ H E I U st hg;refine az λZq kq=>?_
  subst Z hw hK;obtain⟨xs,Y,hx⟩:=hg;obtain⟨its,rv,p,hz⟩:=I.tuple Y;obtain⟨f0,f1,f2,f3,f4,f5⟩:=U it (by simp);have hl:=rv.length;refine kq ?_;exact wpAny_pyNext_tuple_end (I.ok.hd hc) st (show s.heap.IsTuple a its.toArray from p) (by simp;omega) λh' eb=>⟨rfl,I.turned (λb o z e=>eb b o z e) f0 f1 f3 f4 f5⟩
 self:=λ_ _ _ _ _ st h=>wpAny_pyIter_tupleiter st h
def tq{K:Mx}(it)(lo)(n):tj P w K tg (Itr lo n) [it] it (λi h=>IsRangeIter h it (lo+(i:Nat)*1) ((n:Int)-(i:Nat)) 1) where
 mem:=by simp
 obj:=λi h st b z=>by
  simp_all
 keep:=λi h h' st k=>k it (by simp) _ st
 item:=by
  intro X hP hw hK hc i pins s σ H E I U st Y;subst hP hw hK;obtain⟨Z,f1,f2,f3,f4,f5⟩:=U it (by simp);have W:=Walks.range (prog:=X.prog) (w:=X.w) (I.ok.hd hc) it lo 1 n;refine W.item i s _ _ Y st λv h' tk hv J kk=>?_
  obtain⟨t,rfl⟩:=hv;have I1:Inv X pins σ H { s with heap:=h',toks:=tk }:=I.turned (λb o z e=>kk b o (by simpa using z) e) Z f1 f3 f4 f5;refine⟨_,rfl,xM J rfl rfl (by decide) ⟨.int _,H,I1,⟨t,?_⟩,⟨rfl,rfl⟩,J,λb z=>(U b z).1⟩⟩;rw[Int.mul_one]
 done:=by
  intro X hP hw hK hc i pins s σ H E I U st Y;obtain⟨Z,f1,f2,f3,f4,f5⟩:=U it (by simp);exact wpAny_pyNext_range_end (I.ok.hd hc) st (by have:n<=i:=Y;omega) λh' eb=>⟨rfl,I.turned (λb o z e=>eb b o z e) Z f1 f3 f4 f5⟩
 self:=λ_ _ _ _ _ st h=>wpAny_pyIter_rangeiter st h
section
variable{X:Cx}{tg:Expr}
noncomputable def Gh(K:Mx)(tl:TE):TI:=λσ H R=>tl σ H λx H1=>∃a,x=.ref a/\(∃xs,SqL K H1 a xs)/\R (Itl K a) H1
noncomputable def IG(K:Mx)(tl:TE):TI:=λσ H R=>tl σ H λx H1=>∃a,x=.ref a/\(∃xs,SqT K H1 a xs)/\R (Itt K a) H1
def uU(U:PE X l tl):PI X tg l (Gh X.K tl):=by
 intro pins s σ H R I h;refine thn (U pins s σ H _ I h) λv J ⟨x,H1,z,Y,Z⟩=>?_
 obtain⟨a,e,⟨xs,hq⟩,q⟩:=Z;subst e;cases Y;obtain⟨its,rv,p,hz⟩:=z.list hq;refine K6 p.isList ?_;refine⟨J.heap.objs.size,[J.heap.objs.size],_,_,H1,rfl,z.kept λb o e=>g4 _ e,wk a _,⟨_,uw _ rfl,rfl,rfl⟩,λb hb=>?_,q⟩;have e:b=J.heap.objs.size:=by simpa using hb
 subst e;exact z.fpOk (pd _) (z.hok.fresh (pd _))
def xN(U:PE X l tl):PI X tg l (IG X.K tl):=by
 intro pins s σ H R I h;refine thn (U pins s σ H _ I h) λv z ⟨x,H1,J,Y,Z⟩=>?_
 obtain⟨a,e,⟨xs,hq⟩,q⟩:=Z;subst e;cases Y;obtain⟨its,rv,p,hz⟩:=J.tuple hq;refine Ls (show z.heap.IsTuple a its.toArray from p) ?_;refine⟨z.heap.objs.size,[z.heap.objs.size],_,_,H1,rfl,J.kept λb o e=>g4 _ e,tm a _,⟨_,uw _ rfl,rfl,rfl⟩,λb hb=>?_,q⟩;have e:b=z.heap.objs.size:=by simpa using hb
 subst e;exact J.fpOk (pd _) (J.hok.fresh (pd _))
def qZ{σ:St}{H:Hp}{s:Shared}{R:It->Hp->Prop}{E:Value->Shared->Prop}{lo hi:Int}{t u v:Tok}{tk:Nat}(I:Inv X pins σ H s)(h1:-(2 ^ 62)<=lo)(h2:lo<2 ^ 62)(J:-(2 ^ 62)<=hi)(U:hi<2 ^ 62)
  (q:R (Itr lo (hi-lo).toNat) H):wpAny (model X.prog X.w) X.A (pyIter (.ref s.heap.objs.size)) (PIE X pins σ tg R) E { s with heap:=s.heap.push { cls:=.type "range",data:=.fields #[.int lo t,.int hi u,.int 1 v] },toks:=tk }:=by
 refine wpAny_pyIter_range (IsRange.new ..) (small_one h1 h2 J U) ?_;have z:Inv X pins σ H { s with heap:=s.heap.push { cls:=.type "range",data:=.fields #[.int lo t,.int hi u,.int 1 v] },toks:=tk }:=I.kept λb o e=>g4 _ e
 refine⟨(s.heap.push { cls:=.type "range",data:=.fields #[.int lo t,.int hi u,.int 1 v] }).objs.size,[(s.heap.push { cls:=.type "range",data:=.fields #[.int lo t,.int hi u,.int 1 v] }).objs.size],_,_,H,rfl,
  z.kept (t':=tk) λb o e=>g4 _ e,tq _ lo (hi-lo).toNat,?_,λb Y=>?_,q⟩
 .have Z:lo+((0:Nat):Int)*1=lo:=by simp
  have e2:(((hi-lo).toNat:Nat):Int)-((0:Nat):Int)=Builtin.Range.rangeSize lo hi 1:=by rw[rangeSize_one];split<;>omega
  show IsRangeIter _ _ (lo+((0:Nat):Int)*1) ((((hi-lo).toNat:Nat):Int)-((0:Nat):Int)) 1;rw[Z,e2];exact uw _ rfl
 .have e:b=(s.heap.push { cls:=.type "range",data:=.fields #[.int lo t,.int hi u,.int 1 v] }).objs.size:=by simpa using Y
  subst e;exact z.fpOk (pd _) (z.hok.fresh (pd _))
noncomputable def Gi(ta:TA):TI:=λσ H R=>ta σ H λvs H1=>∃j,vs=[.int j]/\-(2 ^ 62)<=j/\j<2 ^ 62/\R (Itr 0 j.toNat) H1
noncomputable def Gj(ta:TA):TI:=λσ H R=>ta σ H λvs H1=>∃i j,vs=[.int i,.int j]/\(-(2 ^ 62)<=i/\i<2 ^ 62/\-(2 ^ 62)<=j/\j<2 ^ 62)/\R (Itr i (j-i).toNat) H1
def oK (J:Gl X "range") (U:X.mg "range"=none) (Y:PA X [a] ta) (hs:starEach [a] X.env=[(false,eval a X.env)]:=by rfl):PI X tg (.Call (.Name "range" p) [a] [] pos) (Gi ta):=by
 intro pins s σ H R I h;refine Call_ (iA I J U boot_range (J7 (thn (Y pos pins s σ H _ I h) λus s1 ⟨vs,H1,Z,r1,z⟩=>?_) hs rfl));obtain⟨j,e,z,q2,q⟩:=z;subst e;cases r1 with
 |cons r rr =>
  cases rr;obtain⟨t,rfl⟩:=r;exact call_range_1 (qZ Z (by omega) (by omega) z q2 (by simpa using q))
def wl (Y:Gl X "range") (Z:X.mg "range"=none) (ha:PA X [a,b] ta) (hs:starEach [a,b] X.env=[(false,eval a X.env),(false,eval b X.env)]:=by rfl) (z:starEach [b] X.env=[(false,eval b X.env)]:=by rfl) :
  PI X tg (.Call (.Name "range" p) [a,b] [] pos) (Gj ta):=by
 intro pins s σ H R I h;refine Call_ (iA I Y Z boot_range (J7 (thn (ha pos pins s σ H _ I h) λus s1 ⟨vs,H1,I1,r1,J⟩=>?_) (by rw[hs,z]) (by rw[z];rfl)));obtain⟨i,j,e,⟨J,q2,q3,q4⟩,q⟩:=J;subst e;cases r1 with
 |cons r U =>
  cases U with
  |cons r' U =>
   cases U;obtain⟨t,rfl⟩:=r;obtain⟨t',rfl⟩:=r';exact call_range_2 (qZ I1 J q2 q3 q4 q)
noncomputable def Dt(wi:TI)(g:TG)(tb:TS):TS:=λD σ H=>wi σ H λJ H1=>∃W:Nat->Nat->St->Hp->Prop,(∃m,W 0 m σ H1)/\∀i m σ H,W i m σ H ->
 (J.stop i H/\D.nx σ H)\/(J.go i H/\∃N,(∀F H',N F H'->∃U,U<m/\W (i+1) U F H')/\∀x H',J.yld i H x H'->g x σ H' λz H2=>tb { D with nx:=N,ct:=N,bk:=D.nx } z H2)
noncomputable def mz(fp:List Addr)(h:Heap):List (Addr×Obj):=fp.filterMap λb=>(h.get? b).map λo=>(b,o)
def gY(z:b∈fp)(e:h.get? b=some o):(b,o)∈mz fp h:=mem_filterMap.mpr ⟨b,z,by rw[e];rfl⟩
def wm(z:p∈mz fp h):p.1∈fp/\h.get? p.1=some p.2:=by
 obtain⟨b,J,e⟩:=mem_filterMap.mp z;cases q:h.get? b with
 |none=>rw[q]at e;cases e
 |some o =>
  rw[q]at e;have U:=Jv e;subst U;exact⟨J,q⟩
def Inv.pinned(I:Inv X pins σ H s)(U:∀b∈fp,kF X pins H b)(ho:∀b∈fp,∃o,s.heap.get? b=some o/\∀v,o.data≠.cell v):Inv X (pins++mz fp s.heap) σ H s:=
 I.pins_of λp Y=>(Kv.mp Y).elim (λz=>I.pin p (J4 _ z)) λz=>by
  obtain⟨J,e⟩:=wm z;obtain⟨Z,f1,f2,_⟩:=U p.1 J;obtain⟨o,e',d⟩:=ho p.1 J
  simp_all
def Inv.unpinned(I:Inv X (pins++J) σ H s):Inv X pins σ H s:=I.pins_of λp z=>I.pin p (J4 _ (LN _ z))
def tu{iter:Expr}(hp:PassesOwn (model X.prog X.w) X.A X.env X.xe)(hc:X.calm=true)(hi:PI X tg iter wi)(hg:PG X tg g)(U:PSs X body tb)(hs:∀x,foldedSetIterable iter X.env x=pure x:=by intro _;rfl):PS X (.For tg iter body [] pos) (Dt wi g tb):=by
 intro pins s σ H D I h;refine wpAny_For (thn (hi pins s σ H _ I h) λv s1 h1=>thn h1 λcu s2 h2=>?_) hs;refine az λZq kq=>?_
 obtain⟨it,fp,tn,J,H2,e,I2,T,a6,f2,W,⟨m0,w0⟩,turn⟩:=h2;subst e;have Y:∀{H'},(∀b∈fp,H' b=none)->∀b∈fp,kF X pins H' b:=λhn b U=>⟨hn b U,(f2 b U).2⟩
 refine kq ?_;refine codeAny_forLoop_any (λn s'=>∃i F H',Inv X pins F H' s'/\tn i s'.heap/\(∀b∈fp,H' b=none)/\W i n F H') ?_ m0 ⟨0,σ,H2,I2,a6,λb U=>(f2 b U).1,w0⟩;rintro n s3 ⟨i,Z,H3,I3,a3,a4,w3⟩;rcases turn i n Z H3 w3 with⟨stop,qn⟩|⟨go,N,hN,step⟩
 .refine Ll hp (thn (T.done X rfl rfl rfl hc i pins s3 Z H3 X.xe I3 (Y a4) a3 stop) λr s4 ⟨hr,I4⟩=>?_);subst hr;exact wpAny_execs_nil ⟨Z,H3,I4,qn⟩
 .refine Ll hp (thn (T.item X rfl rfl rfl hc i pins s3 Z H3 X.xe I3 (Y a4) a3 go) λr s4 ⟨u,hr,h4⟩=>?_);subst hr;refine Ll hp (thn h4 λ_ s5 ⟨x,H5,I5,r5,y5,a0,a8⟩=>?_);have a9:=I5.pinned (Y a8) (T.obj _ _ a0);refine Ll hp (thn (hg _ s5 Z H5 x u _ a9 r5 (step x H5 y5)) λ_ s6 ⟨b0,H6,I6,q6⟩=>?_);refine Ll hp (thn (U _ s6 b0 H6 _ I6 q6) λf s7 q7=>?_);have again:∀{z}{H7},Inv X (pins++mz fp s5.heap) z H7 s7->N z H7->∃m,m<n/\∃i F H',Inv X pins F H' s7/\tn i s7.heap/\(∀b∈fp,H' b=none)/\W i m F H':=λ{z H7} I7 n7=>by
   obtain⟨m',hm,w7⟩:=hN z H7 n7;refine⟨m',hm,i+1,z,H7,I7.unpinned,T.keep _ _ _ a0 λb U o e=>(I7.pin (b,o) (J4 _ (J4 _ (gY U e)))).1,λb U=>?_,w7⟩;obtain⟨o,e,d⟩:=T.obj _ _ a0 b U;exact(I7.pin (b,o) (J4 _ (J4 _ (gY U e)))).2.1
  cases f<;>first|(obtain⟨z,H7,I7,n7⟩:=q7;exact again I7 n7)|(obtain⟨z,H7,I7,q7⟩:=q7;exact⟨z,H7,I7.unpinned,q7⟩)|(obtain⟨x7,z,H7,I7,r7,q7⟩:=q7;exact⟨x7,z,H7,I7.unpinned,r7,q7⟩)
end
noncomputable abbrev R2:=V->V->Hp->VK->Prop
def OpR(X:Cx)(f:Value->Value->Sem Value)(r:R2):Prop:=
 ∀pins s (σ:St) H x y v u Q,Inv X pins σ H s->aD x v->aD y u->r x y H Q ->
  wpAny (model X.prog X.w) X.A (f v u) (EP X pins σ Q) X.xe s
def bO(X:Cx)(f:Value)(r:List V->Hp->VK->Prop):Prop:=
 ∀pins s (σ:St) H xs us Q,Inv X pins σ H s->aG xs us->r xs H Q ->
  wpAny (model X.prog X.w) X.A (call f us) (EP X pins σ Q) X.xe s
noncomputable def tOp(r:R2)(ta tb:TE):TE:=λσ H Q=>ta σ H λx H1=>tb σ H1 λy H2=>r x y H2 Q
noncomputable def rI(C:Int->Int->Prop)(g:Int->Int->V):R2:=λx y H Q=>∃i j,x=.int i/\y=.int j/\C i j/\Q (g i j) H
noncomputable def rI0(g:Int->Int->V):R2:=λx y H Q=>∃i j,x=.int i/\y=.int j/\Q (g i j) H
section
variable{X:Cx}{a b c:Expr}{ta tb tc:TE}{pos:Pos}
def Du(Y:PE X a ta)(Z:PE X b tb){R:V->V->Hp->Prop}(I:Inv X pins σ H s)
  (h:ta σ H λx H1=>tb σ H1 λy H2=>R x y H2) {f:Value->Value->Sem Value}
  (hf:∀v u U x y H2,Inv X pins σ H2 U->aD x v->aD y u->R x y H2->wpAny (model X.prog X.w) X.A (f v u) Q X.xe U) :
  wpAny (model X.prog X.w) X.A (eval a X.env) (λv z=>wpAny (model X.prog X.w) X.A (eval b X.env) (λu J=>wpAny (model X.prog X.w) X.A (f v u) Q X.xe J) X.xe z) X.xe s:=by
 refine thn (Y pins s σ H _ I h) λv s1 ⟨x,H1,I1,r1,q1⟩=>?_
 refine thn (Z pins s1 σ H1 _ I1 q1) λu U ⟨y,H2,I2,r2,q2⟩=>?_
 exact hf v u U x y H2 I2 r1 r2 q2
def uV(ho:OpR X (binaryOp op) r)(z:PE X a ta)(J:PE X b tb):PE X (.BinOp a op b pos) (tOp r ta tb):=by
 intro pins s σ H Q I h;exact wpAny_BinOp (Du z J I h λv u U x y H2 Y Z ry q=>ho pins U σ H2 x y v u Q Y Z ry q)
def opI{C:Int->Int->Prop}{g:Int->Int->Int}
  (rule:∀i j t u s Q E,C i j->Q (.int (g i j) s.toks) { s with toks:=s.toks+1 }->wpAny (model X.prog X.w) X.A (f (.int i t) (.int j u)) Q E s) :
  OpR X f (rI C λi j=>.int (g i j)):=by
 intro pins s σ H x y v u Q I z J h;obtain⟨i,j,rfl,rfl,hc,q⟩:=h;obtain⟨t,rfl⟩:=z;obtain⟨t',rfl⟩:=J;exact rule i j t t' s _ _ hc ⟨.int (g i j),H,I.tok _,⟨_,rfl⟩,q⟩
def Gk{g:Int->Int->Int}
  (rule:∀i j t u s Q E,Q (.int (g i j) s.toks) { s with toks:=s.toks+1 }->wpAny (model X.prog X.w) X.A (f (.int i t) (.int j u)) Q E s) :
  OpR X f (rI0 λi j=>.int (g i j)):=by
 intro pins s σ H x y v u Q I z J h;obtain⟨i,j,rfl,rfl,q⟩:=h;obtain⟨t,rfl⟩:=z;obtain⟨t',rfl⟩:=J;exact rule i j t t' s _ _ ⟨.int _,H,I.tok _,⟨_,rfl⟩,q⟩
def A1{g:Int->Int->Bool}
  (rule:∀i j t u s Q E,Q (.bool (g i j)) s->wpAny (model X.prog X.w) X.A (f (.int i t) (.int j u)) Q E s) :
  OpR X f (rI0 λi j=>.bl (g i j)):=by
 intro pins s σ H x y v u Q I z J h;obtain⟨i,j,rfl,rfl,q⟩:=h;obtain⟨t,rfl⟩:=z;obtain⟨t',rfl⟩:=J;exact rule i j t t' s _ _ ⟨.bl _,H,I,rfl,q⟩
def IH(i j:Int):Prop:=0<j/\j<1073741824
def II(i j:Int):Prop:=0<=j/\j<=1000000/\i.natAbs<2 ^ 64
def Dw(i j:Int):Prop:=(-(2 ^ 64)<i/\i<2 ^ 64)\/(-(2 ^ 64)<j/\j<2 ^ 64)
theorem Dw.ok(h:Dw i j):IntMulOk i j:=by
 rcases h with⟨h1,h2⟩|⟨h1,h2⟩
 .exact .of_left (intBits_le_64 h1 h2)
 .exact .of_right (intBits_le_64 h1 h2)
theorem tw(k):(0:Int)<=2 ^ k:=
  Int.natCast_nonneg _
def Dx:OpR X (binaryOp .Add) (rI0 λi j=>.int (i+j)):=Gk λ_ _ _ _ _ _ _ q=>add_int q
def Dy:OpR X (binaryOp .Sub) (rI0 λi j=>.int (i-j)):=Gk λ_ _ _ _ _ _ _ q=>sub_int q
def Dz:OpR X (binaryOp .Mult) (rI Dw λi j=>.int (i*j)):=opI λ_ _ _ _ _ _ _ hc q=>mul_int q hc.ok
def A2:OpR X (binaryOp .FloorDiv) (rI IH λi j=>.int (i / j)):=opI λi j _ _ _ _ _ hc q=>by
 have h1:=hc.1;have h2:=hc.2;exact floordiv_int (by omega) (by rw[L9 i (by omega)];exact q) (.inl (PyProof.noPylong_small (by omega)))
def DA:OpR X (binaryOp .Mod) (rI (λ_ j=>0<j) λi j=>.int (i % j)):=opI λi j _ _ _ _ _ hc q=>by
 exact mod_int' (by omega) (by rw[Int.fmod_eq_emod_of_nonneg i (by omega)];exact q)
def DB:OpR X (binaryOp .Pow) (rI II λi j=>.int (i ^ j.toNat)):=opI λ_ _ _ _ _ _ _ hc q=>pow_int_small hc.1 hc.2.1 hc.2.2 q
def DC:OpR X (binaryOp .RShift) (rI (λ_ j=>0<=j) λi j=>.int (i / 2 ^ j.toNat)):=opI λi j _ _ _ _ _ hc q =>
 rshift_int hc (by rw[L9 i (tw _)];exact q)
end
noncomputable def scal:V->V->Bool
 | .non,.non=>true|.non,.int _=>true|.int _,.non=>true|.non,.bl _=>true|.bl _,.non=>true|.non,.str _=>true|.str _,.non=>true
 | .int _,.int _=>true|.bl _,.bl _=>true|.str _,.str _=>true|.byt _,.byt _=>true
 | .int _,.str _=>true|.str _,.int _=>true|.bl _,.str _=>true|.str _,.bl _=>true
 | _,_=>false
noncomputable def rNe:R2:=λx y H Q=>scal x y=true/\Q (.bl (!decide (x=y))) H
def uW :decide (V.int i=V.int j)=(i==j):=by
 rw[J3];simp
def xO :decide (V.bl i=V.bl j)=(i==j):=by
 rw[J3];simp
def uX :decide (V.str i=V.str j)=(i==j):=by
 rw[J3];simp
def A3 :decide (V.byt i=V.byt j)=(i.toList==j.toList):=by
 rw[J3];cases i;cases j;simp
section
variable{X:Cx}{a b c:Expr}{ta tb tc:TE}{pos:Pos}
def b9{σ:St}{H:Hp}{s:Shared}{Q:VK}{k z:Bool}(I:Inv X pins σ H s)(q:Q (.bl k) H)(e:k=z):EP X pins σ Q (.bool z) s:=by
 subst e;exact⟨.bl k,H,I,rfl,q⟩
def Gm:OpR X (compareOp .NotEq) rNe:=by
 intro pins s σ H x y v u Q I J z h;obtain⟨hs,q⟩:=h;cases x with
 |non =>
  cases J;cases y with
  |non=>cases z;exact PySem.EqNone.ne_none_none (b9 I q (by simp))
  |bl j=>cases z;exact PySem.EqNone.ne_none_bool (b9 I q (by simp))
  |int j=>obtain⟨t',rfl⟩:=z;exact PySem.EqNone.ne_none_int (b9 I q (by simp))
  |str j=>obtain⟨t',rfl⟩:=z;exact PySem.EqNone.ne_none_str (b9 I q (by simp))
  | _=>exact absurd (show false=true from hs) pb
 |bl i =>
  cases J;cases y with
  |non=>cases z;exact PySem.EqNone.ne_bool_none (b9 I q (by simp))
  |bl j=>cases z;exact ne_bool (b9 I q (JK not xO))
  |str j=>obtain⟨t',rfl⟩:=z;exact PySem.EqMixed.ne_bool_str (b9 I q (by simp))
  | _=>exact absurd (show false=true from hs) pb
 |int i =>
  obtain⟨t,rfl⟩:=J;cases y with
  |non=>cases z;exact PySem.EqNone.ne_int_none (b9 I q (by simp))
  |int j=>obtain⟨t',rfl⟩:=z;exact ne_int (b9 I q (JK not uW))
  |str j=>obtain⟨t',rfl⟩:=z;exact PySem.EqMixed.ne_int_str (b9 I q (by simp))
  | _=>exact absurd (show false=true from hs) pb
 |str i =>
  obtain⟨t,rfl⟩:=J;cases y with
  |non=>cases z;exact PySem.EqNone.ne_str_none (b9 I q (by simp))
  |bl j=>cases z;exact PySem.EqMixed.ne_str_bool (b9 I q (by simp))
  |int j=>obtain⟨t',rfl⟩:=z;exact PySem.EqMixed.ne_str_int (b9 I q (by simp))
  |str j=>obtain⟨t',rfl⟩:=z;exact ne_str (b9 I q (JK not uX))
  | _=>exact absurd (show false=true from hs) pb
 |byt i =>
  obtain⟨t,rfl⟩:=J;cases y with
  |byt j=>obtain⟨t',rfl⟩:=z;exact PySem.W.ne_bytes (b9 I q (JK not A3))
  | _=>exact absurd (show false=true from hs) pb
 | _=>cases y<;>exact absurd (show false=true from hs) pb
def Gn:OpR X (compareOp .Lt) (rI0 λi j=>.bl (decide (i<j))):=A1 λ_ _ _ _ _ _ _ q=>lt_int q
def Go:OpR X (compareOp .LtE) (rI0 λi j=>.bl (decide (i<=j))):=A1 λ_ _ _ _ _ _ _ q=>le_int q
def Gp:OpR X (compareOp .Gt) (rI0 λi j=>.bl (decide (j<i))):=A1 λ_ _ _ _ _ _ _ q=>gt_int q
def Gq:OpR X (compareOp .GtE) (rI0 λi j=>.bl (decide (j<=i))):=A1 λ_ _ _ _ _ _ _ q=>ge_int q
def DE:OpR X (compareOp .Is) (λx y H Q=>y=.non/\Q (.bl (decide (x=.non))) H):=by
 intro pins s σ H x y v u Q I z J h;obtain⟨rfl,q⟩:=h;cases J;refine is_none_gen (b9 I q ?_);cases x<;>first
  | (cases z;rfl)
  | (obtain⟨t,rfl⟩:=z;rfl)
def A4:OpR X (compareOp .IsNot) (λx y H Q=>y=.non/\Q (.bl (!decide (x=.non))) H):=by
 intro pins s σ H x y v u Q I z J h;obtain⟨rfl,q⟩:=h;cases J;refine isnot_none_gen (b9 I q ?_);cases x<;>first
  | (cases z;rfl)
  | (obtain⟨t,rfl⟩:=z;rfl)
def A5(ho:OpR X (compareOp op) r)(z:PE X a ta)(J:PE X b tb)(U:behindInMarks op b=false):PE X (.Compare a [op] [b] pos) (tOp r ta tb):=by
 intro pins s σ H Q I h;exact wpAny_Compare1 (Du z J I h λv u Y x y H2 Z rx ry q=>ho pins Y σ H2 x y v u Q Z rx ry q) U
noncomputable def Gr(t:TE):TT:=λσ H Q=>t σ H λx H'=>∃k,x=.bl k/\Q k H'
def A6(ho:OpR X (compareOp op) r)(J:PE X a ta)(U:PE X b tb)(Y:behindInMarks op b=false):PT X (.Compare a [op] [b] pos) (Gr (tOp r ta tb)):=by
 intro pins s σ H Q I h;refine wpAny_isTrue_Compare1 (thn (J pins s σ H _ I h) λv Z ⟨x,H1,I1,r1,q1⟩=>thn (U pins Z σ H1 _ I1 q1) λu s2 ⟨y,H2,I2,r2,q2⟩ =>
  thn (ho pins s2 σ H2 x y v u _ I2 r1 r2 q2) λc s3 ⟨z,H3,I3,r3,k,e,q3⟩=>?_) Y
 subst e;cases r3;exact Kh ⟨H3,I3,q3⟩
def kG:(sizeLine:Nat)<2 ^ 63:=by simp_all [JS]
def tz:OpR X (binaryOp .Add) (λx y H Q=>∃i j,x=.str i/\y=.str j/\i.length+j.length<=sizeLine/\Q (.str (i++j)) H):=by
 intro pins s σ H x y v u Q I z J h;obtain⟨i,j,rfl,rfl,hz,q⟩:=h;obtain⟨t,rfl⟩:=z;obtain⟨t',rfl⟩:=J;exact add_str (λt' tk=>⟨.str _,H,I.tok _,⟨_,rfl⟩,q⟩) hz
def dU(r:aG [x] us):∃u,us=[u]/\aD x u:=by
 cases r with
 |cons z J=>cases J;exact⟨_,rfl,z⟩
def Gs(r:aG [x,y] us):∃u z,us=[u,z]/\aD x u/\aD y z:=by
 cases r with
 |cons J U =>
  cases U with
  |cons Y Z=>cases Z;exact⟨_,_,rfl,J,Y⟩
def oM:bO X (.type "int") (λxs H Q=>(∃i,xs=[.int i]/\Q (.int i) H)\/∃k,xs=[.bl k]/\Q (.int (if k then 1 else 0)) H):=by
 intro pins s σ H xs us Q I r h;rcases h with⟨i,rfl,q⟩|⟨k,rfl,q⟩
 .obtain⟨u,rfl,t,rfl⟩:=dU r;exact call_int_int ⟨.int i,H,I,⟨_,rfl⟩,q⟩
 .obtain⟨u,rfl,z⟩:=dU r;cases z;exact call_int_bool ⟨.int _,H,I.tok _,⟨_,rfl⟩,q⟩
end
section
variable{prog:Program}{w:World}{A:Around}{E:Value->Shared->Prop}{s:Shared}{K:Mx}{x dx C f:Addr}{mA:Str->Option Value}{name:Str}{v:Value}
end
def lS.some_of(r:lS (some v) o):∃u,o=some u/\aD v u:=by
 cases o with
 |none=>exact(show False from r).elim
 |some u=>exact⟨u,rfl,r⟩
section
variable{P:Program}{w:World}{H H':Hp}{h h':Heap}{a C dx:Addr}{fs fs':List (Str×V)}
end
section
variable{X:Cx}{pins:List (Addr×Obj)}{σ:St}{H:Hp}{s:Shared}{a C dx:Addr}{fs:List (Str×V)}{f:Str}{v:V}{A:Around}{E:Value->Shared->Prop}
end
section
variable{X:Cx}{o e value:Expr}{f:Str}{pos pos' tpos:Pos}{ta tv:TE}
end
section
variable{X:Cx}{pins:List (Addr×Obj)}{σ:St}{H:Hp}{s:Shared}{A:Around}{E:Value->Shared->Prop}{Q:Value->Shared->Prop}{c:Value}{b:Bool}
end
structure kH(k:Nat)(A:Around):Prop where
 hd:A.handled=none
 dp:A.depth+3*k+5<recursionLimit
 un:A.units+16*k+200<cLine
theorem kH.deeper(r:kH (k+1) A)(env):kH k (A.deeper env):=
 ⟨r.hd,by have:=r.dp;show A.depth+1+3*k+5<_;omega,by have:=r.un;show A.units+3+16*k+200<_;omega⟩
theorem kH.depth(r:kH k A):A.depth<recursionLimit:=by have:=r.dp;omega
noncomputable def Gu:TA:=λ_ H Q=>Q [] H
noncomputable def Gv(ta:TE)(z:TA):TA:=λσ H Q=>ta σ H λx H1=>z σ H1 λxs H2=>Q (x::xs) H2
section
variable{X:Cx}{e:Expr}{es:List Expr}{te:TE}{t:TA}{pos:Pos}
def bF:PA X [] Gu:=λ_ _ _ _ H Q I h=>Md ⟨[],H,I,.nil,h⟩
def aP(z:PE X e te)(J:PA X es t)(hs:starEach (e::es) X.env=(false,eval e X.env)::starEach es X.env:=by rfl):PA X (e::es) (Gv te t):=by
 intro pos pins s σ H Q I h;rw[hs];show wpAny _ _ (spliced ((false,eval e X.env)::backTo pos _)) _ _ s;refine Lu (thn (z pins s σ H _ I h) λu U ⟨x,H1,Y,Z,q1⟩=>?_);exact thn (J pos pins U σ H1 _ Y q1) λus s2 ⟨xs,H2,I2,r2,q2⟩=>⟨x::xs,H2,I2,.cons Z r2,q2⟩
noncomputable def IJ(t:TA):TE:=λσ H Q=>t σ H λxs H1=>xs.length<=sizeLine/\∀p,H1 p=none->Q (.ref p) (upd H1 p (.tup xs))
noncomputable def IK(t:TA):TE:=λσ H Q=>t σ H λxs H1=>xs.length<=sizeLine/\∀p,H1 p=none->Q (.ref p) (upd H1 p (.lst xs))
def tD{Y}(h:PA X es t):PE X (.Tuple es Y pos) (IJ t):=by
 intro pins s σ H Q I Z;refine wpAny_Tuple_spliced (thn (h pos pins s σ H _ I Z) λus J ⟨xs,H1,U,r,z,q⟩=>⟨by rw[<- r.length];exact z,?_⟩);have hf:=U.hok.fresh (pd _);refine⟨.ref J.heap.objs.size,upd H1 J.heap.objs.size _,U.laid (λb u e=>g4 _ e) (pd _) ?_,rfl,q _ hf⟩;exact⟨z,us,r,⟨_,uw _ rfl,rfl,_,rfl⟩⟩
def tG(h:PA X es t):PE X (.List es pos) (IK t):=by
 intro pins s σ H Q I Y;refine wpAny_List_spliced (thn (h pos pins s σ H _ I Y) λus J ⟨xs,H1,U,r,z,q⟩=>⟨by rw[<- r.length];exact z,?_⟩);have Z:=U.hok.fresh (pd _);refine⟨.ref J.heap.objs.size,upd H1 J.heap.objs.size _,U.laid (λb u e=>g4 _ e) (pd _) ?_,rfl,q _ Z⟩;exact⟨z,us,0,r,uw _ rfl⟩
end
noncomputable abbrev Sp:=List V->Hp->VK->XK->Prop
noncomputable abbrev CXT:=List Env->Hp->Shared->XK->Value->Shared->Prop
structure A7(P:Program)(w:World)(K:Mx)(mg:Str->Option Value)(base:Heap)(A:Around)(outer:List Env)(s:Shared)(H:Hp):Prop where
 frames:A.frames=some outer
 mod:Mod K mg base
 bs:∀b o,base.get? b=some o->s.heap.get? b=some o/\H b=none
 bsz:base.objs.size<=s.heap.objs.size
 funs:s.heap.FunFrames base outer
 frf:∀b∈frs outer,H b=none
 hok:HOk P w H s.heap
 bare:AllBare s.gens
def CE(outer:List Env)(P:Program)(w:World)(H:Hp)(s:Shared)(Q:VK)(u:Value)(s':Shared):Prop:=
 ∃v H',s'.os=s.os/\AllBare s'.gens/\Un (frs outer) [] H H' s.heap s'.heap/\HOk P w H' s'.heap/\aD v u/\Q v H'
def CR(CX:CXT)(outer:List Env)(P:Program)(w:World)(H:Hp)(s:Shared)(Q:VK)(E:XK)(r:Result)(s':Shared):Prop:=
 match r with
 | .ok (.ret u)=>CE outer P w H s Q u s'
 | .ok _=>False
 | .error e=>CX outer H s E e s'
structure jv(P:Program)(w:World)(K:Mx)(mg:Str->Option Value)(base:Heap)(CX:CXT)(k:Nat)(f:Addr)(fd:FuncData)(ps:List Str)(sp:Sp):Prop where
 len:∀vs H Q E,sp vs H Q E->vs.length=ps.length
 run:∀(A:Around) (outer:List Env) (s:Shared) (H:Hp) (args:Args) (us:List Value) (vs:List V) (Q:VK) (E:XK),kH k A->A7 P w K mg base A outer s H->BindsTo s fd args (ps.zip us)->aG vs us->sp vs H Q E ->
  codeAny (model P w) A (.call (.ref f) args) (CR CX outer P w H s Q E) s
section
variable{X:Cx}{pins:List (Addr×Obj)}{σ:St}{H:Hp}{s s':Shared}
theorem Inv.env0(I:Inv X pins σ H s):A7 X.prog X.w X.K X.mg X.base X.A X.stack s H:=
 ⟨I.ok.frames,I.ok.mod,I.bs,Js I.ok.bsz I.sz,I.stack,I.stkFree,I.hok,I.bare⟩
def Inv.after(I:Inv X pins σ H s)(h:CE X.stack X.prog X.w H s Q u s'):EP X pins σ Q u s':=by
 obtain⟨v,H',os,bare,un,hok,r,q⟩:=h;obtain⟨U,g,d,t,J⟩:=s';obtain rfl:J=s.os:=os;exact⟨v,H',I.call un hok bare (λb z=>absurd z (by simp)),r,q⟩
end
noncomputable def xP(sp:Sp)(dvs:List V)(E:XK)(t:TA):TE:=λσ H Q=>t σ H λvs H1=>sp (vs++dvs) H1 Q E
def cY(K:Mx)(fd:FuncData)(ps:List Str)(ds:List Value):Prop:=
 ∀s us,K.In s.heap->(us++ds).length=ps.length->BindsTo s fd ⟨us,[]⟩ (ps.zip (us++ds))
theorem cY.all{K:Mx}(h:∀us,us.length=ps.length->bindArgs fd ⟨us,[]⟩=pure (ps.zip us)):cY K fd ps []:=λs us _ z=>by
 rw[Kq]at z ⊢;exact .of_eq (h us z)
def pR(CX:CXT)(X:Cx)(E:XK):Prop:=∀pins (σ:St) H s e s',Inv X pins σ H s->CX X.stack H s E e s'->X.xe e s'
section
variable{X:Cx}{CX:CXT}{k:Nat}{f C:Addr}{fd:FuncData}{ps:List Str}{sp:Sp}{dvs:List V}{ds:List Value}{E:XK}{x m:Str}{p pos apos:Pos}{e o:Expr}{es:List Expr}{ta:TE}{t:TA}
def xQ(F:jv X.prog X.w X.K X.mg X.base CX k f fd ps sp)(U:kH k X.A)(Y:cY X.K fd ps ds)(hd:aG dvs ds)(hx:pR CX X E)
  (I:Inv X pins σ H s) (r:aG vs us) (h:sp (vs++dvs) H Q E):wpAny (model X.prog X.w) X.A (call (.ref f) us) (EP X pins σ Q) X.xe s:=by
 have J:=r.append hd;have Z:(us++ds).length=ps.length:=by rw[<- J.length];exact F.len _ _ _ _ h
 refine wpAny_call (La (F.run X.A X.stack s H ⟨us,[]⟩ (us++ds) (vs++dvs) Q E U I.env0 (Y s us I.kIn Z) J h) λr s' z=>?_);cases r with
 |error e=>exact hx pins σ H s e s' I z
 |ok fl =>
  cases fl with
  |ret u=>exact I.after z
  |next=>exact False.elim z
  |brk=>exact False.elim z
  |cont=>exact False.elim z
def l4(F:jv X.prog X.w X.K X.mg X.base CX k f fd ps sp)(Y:kH k X.A)(Z:Gl X x)(hm:X.mg x=some (.ref f))(hk:PySem.W.keepIn X.K (.ref f)=true)(hb:cY X.K fd ps ds)(hd:aG dvs ds)(hx:pR CX X E)
  (ha:PA X (e::es) t) (z:(x==("__debug__":Str))=false:=by decide) (he:starEach (e::es) X.env=(false,eval e X.env)::starEach es X.env:=by rfl) (J:(backTo pos (starEach es X.env)).any (·.1)=false:=by rfl) :
  PE X (.Call (.Name x p) (e::es) [] pos) (xP sp dvs E t):=by
 intro pins s σ H Q I h;refine Ky (pO I Z hm ?_ z);refine PySem.W.callWith_K I.ok.mod.kin hk (thn (ha pos pins s σ H _ I h) λus s1 ⟨vs,H1,U,r,q⟩=>⟨U.kIn,?_⟩) he J;exact xQ F Y hb hd hx U r q
def xR(F:jv X.prog X.w X.K X.mg X.base CX k f fd ps sp)(J:kH k X.A)(U:Gl X x)(Y:X.mg x=some (.ref f))(Z:PySem.W.keepIn X.K (.ref f)=true)(hb:cY X.K fd ps ds)(hd:aG dvs ds)(hx:pR CX X E)
  (z:(x==("__debug__":Str))=false:=by decide):PE X (.Call (.Name x p) [] [] pos) (xP sp dvs E Gu):=by
 intro pins s σ H Q I h;refine Ky (pO I U Y ?_ z);exact PySem.W.callWith_K0 I.kIn Z (xQ (us:=[]) F J hb hd hx I .nil h)
end
section
variable{X:Cx}{CX:CXT}{k:Nat}{f C:Addr}{fd:FuncData}{ps ks:List Str}{sp:Sp}{E:XK}{x m:Str}{p pos apos kpos:Pos}{e o:Expr}{es:List Expr}{kws:List Keyword}{te ta:TE}{t tk:TA}{nm:Option Str}
variable{g:List Value->List Value->List Value}{gV:List V->List V->List V}
end
structure pS(N P:List Str)(sc:Scope):Prop where
 kind:sc.kind=.function
 co:sc.isCoroutine=false
 gen:sc.isGenerator=false
 nd:N.Nodup
 pre:N.take P.length=P
 par:∀x∈P,sc.names.lookup x=some .local\/sc.names.lookup x=some .cell
 nofree:∀y∈sc.names,y.2≠.free
theorem oN{kindOf:Str->Option NameKind} :∀{binds}{m},(∀v,(x,v)∉binds)->bindL kindOf binds m x=m x
 | [],_,_=>rfl
 | (n,v)::r,m,h=>by
  unfold bindL;rw[oN λw hw=>h w (J6 _ hw)];split
  .have:x≠n:=by rintro rfl;exact h v Kf
   simp[this]
  .rfl
theorem oO{kindOf:Str->Option NameKind} :∀{binds}{m},(∀v,(x,v)∉binds)->bindC kindOf binds m x=m x
 | [],_,_=>rfl
 | (n,v)::r,m,h=>by
  unfold bindC;rw[oO λw hw=>h w (J6 _ hw)];split
  .rfl
  .have:x≠n:=by rintro rfl;exact h v Kf
   simp[this]
theorem oP{kindOf:Str->Option NameKind}{x:Str}{v:Value}:∀{P:List Str}{vs}{i:Nat}{m},P.Nodup->P[i]?=some x->vs[i]?=some v->kindOf x=some .local ->
  bindL kindOf (P.zip vs) m x=some v
 | [],_,_,_,_,h,_,_=>by simp at h
 | _::_,[],_,_,_,_,h,_=>by simp at h
 |p::P,w::vs,0,m,nd,h1,h2,z=>by
  simp at h1 h2;subst h1;subst h2
  show bindL kindOf ((p,w)::P.zip vs) m p=_;unfold bindL;rw[oN λv hv=>(JV.mp nd).1 (of_mem_zip hv).1,if_pos z];simp
 |p::P,w::vs,i+1,m,nd,h1,h2,z=>by
  show bindL kindOf ((p,w)::P.zip vs) m x=_;exact oP (i:=i) (JV.mp nd).2 (by simpa using h1) (by simpa using h2) z
theorem oQ{kindOf:Str->Option NameKind}{x:Str}{v:Value}:∀{P:List Str}{vs}{i:Nat}{m},P.Nodup->P[i]?=some x->vs[i]?=some v->kindOf x≠some .local ->
  bindC kindOf (P.zip vs) m x=some v
 | [],_,_,_,_,h,_,_=>by simp at h
 | _::_,[],_,_,_,_,h,_=>by simp at h
 |p::P,w::vs,0,m,nd,h1,h2,z=>by
  simp at h1 h2;subst h1;subst h2
  show bindC kindOf ((p,w)::P.zip vs) m p=_;unfold bindC;rw[oO λv hv=>(JV.mp nd).1 (of_mem_zip hv).1,if_neg z];simp
 |p::P,w::vs,i+1,m,nd,h1,h2,z=>by
  show bindC kindOf ((p,w)::P.zip vs) m x=_;exact oQ (i:=i) (JV.mp nd).2 (by simpa using h1) (by simpa using h2) z
noncomputable def eC(N:List Str)(vs:List V):St:=vs.map some++replicate (N.length-vs.length) none
noncomputable def q8(CX:CXT)(P:Program)(w:World)(K:Mx)(mg:Str->Option Value)(base:Heap)(N:List Str)(qual:Str)(scope:Scope)(f:Addr)(J:Value)(A:Around)(outer:List Env)(s:Shared)(H:Hp)(E:XK):Cx where
 prog:=P
 w:=w
 K:=K
 mg:=mg
 base:=base
 A:=A.deeper (envOfC qual scope s.heap.objs.size f J)
 N:=N
 s₀:=s
 H₀:=H
 env:=envOfC qual scope s.heap.objs.size f J
 outer:=outer
 stack:=envOfC qual scope s.heap.objs.size f J::outer
 ex:=[]
 calm:=true
 fn:=λ_=>true
 pn:=[]
 xe:=λe s'=>wpAny (model P w) (A.deeper (envOfC qual scope s.heap.objs.size f J)) (leaving (envOfC qual scope s.heap.objs.size f J) e) (λ_ z=>CX outer H s E e z) (λU z=>CX outer H s E U z) s'
def q_{sc:Scope}(h:sc.names.lookup x=some .cell):∃c,(cellsFrom n sc.names []).lookup x=some c:=by
 have q:=PySem.W.cellsFrom_some sc.names n [] (.inl h);exact isSome_iff_exists.mp q
def wn{K:Mx} 
  (S:pS N ps scope) (hd:A.handled=none) (J:A7 P w K mg base A outer s H) (hl:vs.length=ps.length) (r:aG vs us)
  (x:InCallC s s.heap.objs.size (bindL (envOfC qual scope s.heap.objs.size f cd).kindOf (ps.zip us) λ_=>none) (cellsFrom (s.heap.objs.size+1) scope.names []) (bindC (envOfC qual scope s.heap.objs.size f cd).kindOf (ps.zip us) λ_=>none) s1) :
  Inv (q8 CX P w K mg base N qual scope f cd A outer s H E) [] (eC N vs) H s1:=by
 have a1:ps.length<=N.length:=by have:=JK List.length S.pre;rw[Mv]at this;omega
 obtain⟨h1,tk,rfl,hk⟩:=x.done;have U:∀b,b∉(q8 CX P w K mg base N qual scope f cd A outer s H E).ex:=λb z=>absurd (show b∈([]:List Addr)from z) (by simp)
 refine⟨⟨J.mod,S.kind,rfl,rfl,pd _,λy z c h1 h2=>?_,λy Y=>?_,λy c _ h=>?_,λ_=>hd,Around.frames_deeper J.frames,.inr ⟨rfl,rfl⟩,λb z=>absurd z (U b),J.bs,J.bsz,λb _ _=>U b,λb z=>absurd z (U b),J.funs,J.frf⟩,
  rfl,J.bare,Un.kept hk,⟨_,x.toInCall.ns,λi y v h1 h2 h3=>?_⟩,λy c h=>⟨_,x.cell y c h⟩,J.hok.fresh (pd _),λy c h=>?_,λp Z=>absurd (show p∈([]:List (Addr×Obj))from Z) (by simp),J.hok.kept hk,?_⟩
 .exact name_of_addr x.apart (PySem.mem_of_lookup h1) (PySem.mem_of_lookup h2)
 .have Y:=Y;rcases Y with Y|Y
  .exact q_ Y
  .exact absurd rfl (S.nofree _ (PySem.mem_of_lookup Y))
 .exact Lr (x.above y c (PySem.mem_of_lookup h))
 .have hi:i<vs.length:=by
   unfold eC at h2;by_cases hi:i<vs.length
   .exact hi
   .rw[KC (by simpa using hi)]at h2;rw[Lv]at h2;split at h2<;>cases h2
  have ha:vs[i]?=some v:=by
   unfold eC at h2;rw[Kg (by simpa using hi),JF]at h2;cases e:vs[i]?<;>simp_all
  obtain⟨u,hu,rv⟩:=r.get ha;have Z:ps[i]?=some y:=by
   rw[<- S.pre,getElem?_take_of_lt (by omega)];exact h1
  have ao:ps.Nodup:=by rw[<- S.pre];exact S.nd.sublist (take_sublist _ _)
  refine⟨u,rv,?_⟩;rcases S.par y (KD Z)with k|k
  .exact .inl ⟨k,oP ao Z hu k⟩
  .obtain⟨c,e⟩:=q_ (n:=s.heap.objs.size+1) k;refine .inr ⟨.inl k,c,e,?_⟩;have q:=x.cell y c e;rw[oQ ao Z hu (by show scope.names.lookup y≠_;rw[k];decide)]at q;exact q
 .exact J.hok.fresh (Lr (x.above y c (PySem.mem_of_lookup h)))
 .unfold eC;show _=N.length;rw[wh,pe,length_replicate];omega
def xS{K:Mx}{dV kV Z pm z ct oc:Value} 
  (lk:K.lookup f=some ⟨oc,od,.func (PySem.W.fnOf name qual params body scope dV kV Z pm an z ct),a8⟩) (a0:PySem.W.codeIn K z qual=true) (S:pS N ps scope)
  (len:∀vs H Q E,sp vs H Q E->vs.length=ps.length)
  (U:∀A outer s H vs Q E,kH k (A.deeper (envOfC qual scope s.heap.objs.size f z))->sp vs H Q E ->
   ∃t,PSs (q8 CX P w K mg base N qual scope f z A outer s H E) body t/\t { nx:=λ_ H'=>Q .non H',rt:=Q } (eC N vs) H) :
  jv P w K mg base CX (k+1) f (PySem.W.fnOf name qual params body scope dV kV Z pm an z ct) ps sp:=by
 refine⟨len,λA outer s H args us vs Q E hr e0 hb r aO=>?_⟩;have hl:=len _ _ _ _ aO;have KX:=e0.mod.kin.keeps λb o e=>(e0.bs b o e).1
 have a2:=e0.mod.nolimit.keeps λb o e=>(e0.bs b o e).1
 have Y:∀y∈ps.zip us,scope.names.lookup y.1=some .local\/(scope.names.lookup y.1=some .cell/\((cellsFrom (s.heap.objs.size+1) scope.names []).lookup y.1).isSome=true):=λ⟨n,v⟩ hy=>by
  rcases S.par n (of_mem_zip hy).1 with q|q
  .exact .inl q
  .exact .inr ⟨q,PySem.W.cellsFrom_some _ _ _ (.inl q)⟩
 refine codeAny_call_function hr.depth (KX _ _ lk) rfl S.co S.gen rfl (PySem.W.codeRec_of KX a0) (hb _ _ _ _ ?_);refine wpAny_newFunctionEnv_cells S.kind Y λenv he s1 x=>?_
 subst he;refine⟨a2.keeps x.toInCall.keep,codeAny_func ?_⟩;obtain⟨t,ht,hq⟩:=U A outer s H vs Q E (hr.deeper _) aO;have I:Inv (q8 CX P w K mg base N qual scope f z A outer s H E) [] _ H s1:=wn S hr.hd e0 hl r x;refine JR (ht [] s1 _ H _ I hq) (λfl s' hs=>?_) λe s' hs=>hs
 have fin:∀{F}{H'}{v}{u},Inv (q8 CX P w K mg base N qual scope f z A outer s H E) [] F H' s'->aD v u->Q v H'->CE outer P w H s Q u s':=
  λ{F H' v u} J rv q=>⟨v,H',J.os,J.bare,J.base,J.hok,rv,q⟩
 cases fl with
 |next =>
  obtain⟨F,H',J,q⟩:=hs;exact fin (v:=V.non) J rfl q
 |ret u =>
  obtain⟨v,F,H',J,rv,q⟩:=hs;exact fin J rv q
 | _ =>
  obtain⟨_,_,_,q⟩:=hs;exact False.elim q
section
variable{X:Cx}{x:Str}{p pos:Pos}{e:Expr}{es:List Expr}{t:TA}{id T:String}{r:List V->Hp->VK->Prop}
noncomputable def tCB(r:List V->Hp->VK->Prop)(t:TA):TE:=λσ H Q=>t σ H λvs H1=>r vs H1 Q
def eT (hc:bO X (.builtin id) r) (U:Gl X x) (Y:X.mg x=none) (hv:bootBuiltins x=some (.builtin id)) (Z:PA X (e::es) t) (hn:x ≠ "__name__":=by decide) (z:(x==("__debug__":Str))=false:=by decide)
  (he:starEach (e::es) X.env=(false,eval e X.env)::starEach es X.env:=by rfl) (J:(backTo pos (starEach es X.env)).any (·.1)=false:=by rfl):PE X (.Call (.Name x p) (e::es) [] pos) (tCB r t):=by
 intro pins s σ H Q I h;refine Ky (iA I U Y hv ?_ hn z);exact PyProof.Rows.callWith_builtin1 (thn (Z pos pins s σ H _ I h) λus s1 ⟨vs,H1,I1,r1,q1⟩=>hc pins s1 σ H1 vs us Q I1 r1 q1) he J
def cZ (hc:bO X (.type T) r) (U:Gl X x) (Y:X.mg x=none) (hv:bootBuiltins x=some (.type T)) (Z:PA X (e::es) t) (hn:x ≠ "__name__":=by decide) (z:(x==("__debug__":Str))=false:=by decide)
  (he:starEach (e::es) X.env=(false,eval e X.env)::starEach es X.env:=by rfl) (J:(backTo pos (starEach es X.env)).any (·.1)=false:=by rfl):PE X (.Call (.Name x p) (e::es) [] pos) (tCB r t):=by
 intro pins s σ H Q I h;refine Ky (iA I U Y hv ?_ hn z);exact J7 (thn (Z pos pins s σ H _ I h) λus s1 ⟨vs,H1,I1,r1,q1⟩=>hc pins s1 σ H1 vs us Q I1 r1 q1) he J
end
end L2
namespace HT
open PySem PyProof.Rows List Option
noncomputable def lexLt:List Int->List Int->Bool
 | [],[]=>false
 | [],_::_=>true
 | _::_,[]=>false
 |x::xs,y::ys=>if x=y then lexLt xs ys else decide (x<y)
def lexLt_cons(x y)(xs ys):lexLt (x::xs) (y::ys)=if x=y then lexLt xs ys else decide (x<y):=rfl
def oj:lexLt [] []=false:=rfl
def mB(y)(ys):lexLt [] (y::ys)=true:=rfl
def mC(x)(xs):lexLt (x::xs) []=false:=rfl
def xT(A)(s)(a)(t)(c)(u):∃e,SeqAt.EqAt A s (.int a t) (.int c u) e/\(e=true ↔ a=c):=
 ⟨(a==c),SeqAt.EqAt.int_int a t c u,by simp⟩
def xU(A)(s)(a)(t)(c)(u)(prog)(w)(E)(Q)(h:Q (.bool (decide (a<c))) s) :
  wpAny (model prog w) A (richCompare .Lt (.int a t) (.int c u)) Q E s:=
 (PyProof.Rows.lt_int h:wpAny (model prog w) A (compareOp .Lt (.int a t) (.int c u)) Q E s)
section
open PySem.SeqAt List Option
open PySem.AutoSeq1 (wpAny_loadPart')
open PySem.MeetsSeq PySem.MeetsSeq2 PySem.MeetsSeq3 List Option
def tuple_lt_ints(l b)(items z)(n n2)(dd a7)(sl a8)(ns ms)(hi:IntsAre items.toList ns)(hj:IntsAre z.toList ms) :
  Meets (Builtin.«tuple.__lt__» ⟨[.ref l,.ref b],[]⟩)
   (λ_ R s=>s.heap.get? l=some { cls:=.type "tuple",dict:=dd,data:=.seq items n,slots:=sl }/\s.heap.get? b=some { cls:=.type "tuple",dict:=a7,data:=.seq z n2,slots:=a8 } /\
    R (.ok (.ret (.bool (lexLt ns ms)))) s):=
 .of_wp λprog w A R s h=>by
  obtain⟨hp,g,d,tk,os⟩:=s;obtain⟨hl,hb,h⟩:=h
  have f2:=Lw;have z1:items.size=ns.length:=by rw[<- hi.length];simp
  have z2:z.size=ms.length:=by rw[<- hj.length];simp
  wp_walk using wpAny_loadPart' hl,wpAny_loadPart' hb,wpAny_forIn_list _ (λbN b s'=>b.1=none/\s'=⟨hp,g,d,tk,os⟩/\∃vs ws U Y,bN=vs.zip ws /\
   IntsAre vs U/\IntsAre ws Y/\U.length+z.size=Y.length+items.size/\R (.ok (.ret (.bool (lexLt U Y)))) ⟨hp,g,d,tk,os⟩) _
  case turn =>
   rintro ⟨y,x⟩ bN b s' ⟨a0,rfl,vs,ws,U,Y,hz,a1,Z,J,hR⟩;cases a1 with
   |nil=>rw[zip_nil_left]at hz;cases hz
   |cons a t a3 =>
    cases Z with
    |nil=>rw[zip_nil_right]at hz;cases hz
    |cons c u a4 =>
     rw[zip_cons_cons]at hz;injection hz with a9 a2
     injection a9 with hy hx
     subst hy hx;rw[lexLt_cons]at hR;simp only[length_cons]at J;obtain⟨e,he,aO⟩:=xT A.in1 ⟨hp,g,d,tk,os⟩ a t c u;refine gf (he prog w _ _ ?_);cases e with
     |true =>
      rw[if_pos (aO.mp rfl)]at hR
      wp_walk
      exact⟨rfl,rfl,_,_,_,_,a2,a3,a4,by omega,hR⟩
     |false =>
      rw[if_neg (λq=>absurd (aO.mpr q) pb)]at hR;have b0:=xU A.in1 ⟨hp,g,d,tk,os⟩ a t c u prog w
      wp_walk using b0
      exact⟨_,rfl,by simpa using hR⟩
  case fin =>
   rintro ⟨b1,b2⟩ s' ⟨a0,rfl,vs,ws,U,Y,hz,a1,Z,J,hR⟩;simp only at a0;subst a0;have hv:lexLt U Y=decide (items.size<z.size):=by
    cases a1 with
    |nil =>
     cases Z with
     |nil =>
      simp only[length_nil]at J;rw[oj];exact(JQ (by omega)).symm
     |cons c u hw =>
      simp only[length_nil,length_cons]at J;rw[mB];exact(JA (by omega)).symm
    |cons a t hv =>
     cases Z with
     |nil =>
      simp only[length_nil,length_cons]at J;rw[mC];exact(JQ (by omega)).symm
     |cons c u hw =>
      rw[zip_cons_cons]at hz;cases hz
   rw[hv]at hR
   wp_walk
   exact⟨_,rfl,by simpa[Builtin.Tuple.tupleCompareSizes]using hR⟩
  case h =>
   exact⟨rfl,rfl,items.toList,z.toList,ns,ms,rfl,hi,hj,by omega,h⟩
end
section
variable{prog:Program}{w:World}{A:Around}{E:Value->Shared->Prop}{s:Shared}
def lt_tupInts{items z:Array Value}{ns ms:List Int}{Q:Value->Shared->Prop}(hl:IsTup s.heap l items)(hb:IsTup s.heap b z)(hi:IntsAre items.toList ns)(hj:IntsAre z.toList ms)
  (hu:A.units<cLine) (h:Q (.bool (lexLt ns ms)) s):wpAny (model prog w) A (compareOp .Lt (.ref l) (.ref b)) Q E s:=by
 refine az λZq kq=>?_
 obtain⟨⟨cls,dd,data,sl⟩,ho,hc,n,hd⟩:=id hl;obtain⟨⟨aO,Z,data2,ao⟩,J,U,n2,Y⟩:=id hb;simp only at hc hd U Y;subst hc hd U Y;refine kq ?_;exact K3 (op:=.Lt) ⟨_,ho,rfl⟩ ⟨_,J,rfl⟩ PySem.F.slot_tuple_lt PySem.F.entry_tuple_lt (PySem.F.args_tuple_lt_2 _ _) (tuple_lt_ints l b items z n n2 dd Z sl ao ns ms hi hj)
  ⟨ho,J,show Value.bool _≠Value.notImplemented/\Q _ s from⟨(λx=>nomatch x),h⟩⟩ hu
def cat_tup(ht:IsTup s.heap t vs.toArray)(hb:IsTup s.heap b ws.toArray)(hv:vs≠[])
  (h1:ws=[]->Q (.ref t) s) (h2:ws≠[]->Q (.ref s.heap.objs.size) { s with heap:=s.heap.push { cls:=.type "tuple",data:=.seq (vs++ws).toArray } })
  (ao:vs.length+ws.length<=sizeLine):wpAny (model prog w) A (binaryOp .Add (.ref t) (.ref b)) Q E s:=by
 refine az λZq kq=>?_
 obtain⟨⟨cls,dd,data,sl⟩,ho,hc,n,hd⟩:=id ht;obtain⟨⟨a0,J,data2,U⟩,z,Y,n2,Z⟩:=id hb;simp only at hc hd Y Z;subst hc hd Y Z;have e:vs.toArray++ws.toArray=(vs++ws).toArray:=by simp
 refine kq ?_;by_cases hw:ws=[]
 .exact Mk ⟨_,ho,rfl⟩ ⟨_,z,rfl⟩ Ml seq_tuple_add PySem.F.slot_tuple_add PySem.F.entry_tuple_add (PySem.F.args_tuple_add_2 _ _)
   (tuple_addW1 t b vs.toArray ws.toArray n n2 dd J sl U (by simpa using hv) (by simp[hw])) ⟨ho,z,h1 hw⟩
 .refine Mk ⟨_,ho,rfl⟩ ⟨_,z,rfl⟩ Ml seq_tuple_add PySem.F.slot_tuple_add PySem.F.entry_tuple_add (PySem.F.args_tuple_add_2 _ _)
   (tuple_addW2 t b vs.toArray ws.toArray n n2 dd J sl U (by simpa using hv) (by simpa using hw) (by rw[r4,r4];exact ao)) ⟨ho,z,?_⟩
  rw[e];exact h2 hw
noncomputable def sIx(n d:Nat):Option Int->Nat
 |none=>d
 |some v=>if v<0 then(v+(n:Int)).toNat else min v.toNat n
def DF(n d)(hd:d<=n)(o):sIx n d o<=n:=by
 cases o with
 |none=>exact hd
 |some v =>
  show(if v<0 then(v+_).toNat else min v.toNat n)<=n
  grind
def uY(v)(n d:Nat):(if v<0 then max (v+(n:Int)) 0 else min v (n:Int))=((sIx n d (some v):Nat):Int):=by
 show(if v<0 then max _ 0 else min v _)=(((if v<0 then(v+_).toNat else min v.toNat n):Nat):Int)
 grind
def tH(lo hi)(n:Nat):Builtin.Slice.sliceAdjust lo hi 1 (n:Int)=(((sIx n 0 lo:Nat):Int),((sIx n n hi:Nat):Int)):=by
 refine Prod.ext ?_ ?_
 .cases lo with
  |none=>rfl
  |some v=>exact uY v n 0
 .cases hi with
  |none=>rfl
  |some v=>exact uY v n n
def tI(i j:Nat):Builtin.Slice.slicePlaces (i:Int) (j:Int) 1=j-i:=by
 unfold Builtin.Slice.slicePlaces
 grind
def mD(p:IsPart v o)(h:Q o s):wpAny (model prog w) A (Builtin.Slice.slicePartIndex v) Q E s:=by
 cases p<;>first|exact slicePart_none h|exact slicePart_int h
def fZ{lo hi:Option Int}{n:Nat}{Q:Int×Int×Nat->Shared->Prop}(hs:s.heap.IsSliceOf Z U Y .none)(pl:IsPart U lo)(pu:IsPart Y hi)
  (h:Q (((sIx n 0 lo:Nat):Int),1,sIx n n hi-sIx n 0 lo) s):wpAny (model prog w) A (Builtin.Slice.sliceApplied (.ref Z) (pure (n:Int))) Q E s:=by
 obtain⟨os,z,a0,J⟩:=id hs;refine gf (gf (wpAny_field z J (x:=U) rfl (gf (wpAny_field z J (x:=Y) rfl (gf (wpAny_field z J (x:=.none) rfl (gQ ?_)))))));refine gf (slicePart_none ?_);refine gf (mD pl (gf (mD pu (gf (gQ ?_)))));show wpAny _ _ (match Builtin.Slice.sliceAdjust lo hi 1 _ with|(lo,hi)=>pure (lo,_,Builtin.Slice.slicePlaces lo hi 1)) _ _ s;rw[tH lo hi n];show wpAny _ _ (pure (((sIx n 0 lo:Nat):Int),_,Builtin.Slice.slicePlaces _ _ 1)) _ _ s;rw[tI];exact gQ h
def xV(xs:Array Value)(i k:Nat):((range k).filterMap λ(m:Nat)=>xs[((i:Int)+(m:Int)*1).toNat]?).toArray=((xs.toList.drop i).take k).toArray:=by
 have e:(λ(m:Nat)=>xs[((i:Int)+(m:Int)*1).toNat]?)=λm=>xs[i+m]?:=by
  funext m
  have:((i:Int)+(m:Int)*1).toNat=i+m:=by omega
  rw[this]
 rw[e];have:=pick_run xs i k;rw[filterMap_map]at this;have z:((λx=>xs[x]?)∘λx=>i+x)=λm=>xs[i+m]?:=rfl
 rw[z]at this;rw[this]
def getItem_tuple_cut{items:Array Value}{vl vu:Value}{lo hi:Option Int}{Q:Value->Shared->Prop}(J:IsTup s.heap t items)(hs:s.heap.IsSliceOf sl vl vu .none)(pl:IsPart vl lo)(pu:IsPart vu hi)
  (hw:¬ (sIx items.size 0 lo=0/\sIx items.size items.size hi=items.size))
  (h:Q (.ref s.heap.objs.size) { s with heap:=s.heap.push { cls:=.type "tuple",data:=.seq ((items.toList.drop (sIx items.size 0 lo)).take (sIx items.size items.size hi-sIx items.size 0 lo)).toArray } })
  (a4:items.size<=sizeLine):wpAny (model prog w) A (getItem (.ref t) (.ref sl)) Q E s:=by
 have z:sizeOk (.seq ((items.toList.drop (sIx items.size 0 lo)).take (sIx items.size items.size hi-sIx items.size 0 lo)).toArray):=by
  show((items.toList.drop (sIx items.size 0 lo)).take (sIx items.size items.size hi-sIx items.size 0 lo)).toArray.size<=sizeLine;rw[r4,Mv,length_drop,Array.length_toList];omega
 have hj:sIx items.size items.size hi<=items.size:=DF _ _ (pd _) hi;obtain⟨os,U,Y,a5⟩:=id hs;have Z:s.TypeIs (.ref sl) "slice":=⟨os,U,Y⟩;unfold getItem
 try with_reducible refine JU ?_
 first|refine gf (gQ ?_)|skip
 refine gf (wpAny_sequenceKey J.typeIs (by decide) ?_);refine gf (J2 (name:=Str.ofString "__getitem__") J.typeIs J1
  (JL J1 J.typeIs entry_tuple_getitem ?_ (args_tuple_getitem _ _)))
 show wpAny _ _ (Builtin.Tuple.tupleItemsOf (.ref t) >>= _) _ _ s;refine gf (tupleItemsOf_ J ?_);refine gf (Lb Z ?_);rw[if_pos (by decide)];refine gf (fZ hs pl pu ?_);have ao:¬ ((((sIx items.size 0 lo:Nat):Int)==0&&(1:Int)==1&&(sIx items.size items.size hi-sIx items.size 0 lo)==items.size)=true):=by
  simp_all
 show wpAny _ _ (if (((sIx items.size 0 lo:Nat):Int)==0&&_==1&&_==items.size)=true then _ else _) _ _ s;rw[if_neg ao,xV]
 first
  | exact gf (JY (gQ ⟨_,rfl,gQ h⟩) z)
  | exact gf (JY (gf (gQ _)) z)
  | exact gf (gf (JY (gQ _) z))
  | exact gf (gf (JY _ z))
end
end HT
namespace L2
open PySem PySem.Spec PyProof.Rows List Option
noncomputable abbrev TO:=St->Hp->(Option Int->Hp->Prop)->Prop
def PO(X:Cx)(e:Option Expr)(t:TO):Prop:=
 ∀pins s (σ:St) H Q,Inv X pins σ H s->t σ H Q ->
  wpAny (model X.prog X.w) X.A (evalPart e X.env) (λu s'=>∃o H',Inv X pins σ H' s'/\IsPart u o/\Q o H') X.xe s
noncomputable def A8:TO:=λ_ H Q=>Q none H
noncomputable def Gw(t:TE):TO:=λσ H Q=>t σ H λx H1=>∃i,x=.int i/\Q (some i) H1
def cR :∀{us},aG (ns.map V.int) us->IntsAre us ns:=by
 induction ns with
 |nil=>intro us r;rw[map_nil]at r;cases r;exact .nil
 |cons n ns ih =>
  intro us r;cases r with
  |cons z J =>
   obtain⟨t,e⟩:=z;subst e;exact .cons n t (ih J)
section
variable{X:Cx}{e:Expr}{te:TE}{lo hi:Option Expr}{tl th:TO}{pos p2:Pos}
def A9:PO X none A8:=by
 intro pins s σ H Q I h;exact gQ ⟨none,H,I,.none,h⟩
def A_(h:PE X e te):PO X (some e) (Gw te):=by
 intro pins s σ H Q I hw;refine thn (h pins s σ H _ I hw) λu Y ⟨x,H1,z,J,U⟩=>?_
 obtain⟨i,rfl,q⟩:=U;obtain⟨t,rfl⟩:=J;exact⟨some i,H1,z,.int i t,q⟩
def SlR(X:Cx)(r:V->Option Int->Option Int->Hp->VK->Prop):Prop:=
 ∀pins s (σ:St) H x v z J lo hi U Q,Inv X pins σ H s->aD x v->s.heap.IsSliceOf U z J .none->IsPart z lo->IsPart J hi->r x lo hi H Q ->
  ∃T id,typeLookup (.type T) "__getitem__"=pure (some (.builtin id))/\s.TypeIs v T/\wpAny (model X.prog X.w) X.A (getItem v (.ref U)) (EP X pins σ Q) X.xe s
noncomputable def tSl(r:V->Option Int->Option Int->Hp->VK->Prop)(te:TE)(tl th:TO):TE:=λσ H Q=>te σ H λx H1=>tl σ H1 λl H2=>th σ H2 λu z=>r x l u z Q
def xW(Z:SlR X r)(he:PE X e te)(hl:PO X lo tl)(hu:PO X hi th):PE X (.Subscript e (.Slice lo hi none p2) pos) (tSl r te tl th):=by
 intro pins s σ H Q I h;refine Subscript_ (thn (he pins s σ H _ I h) λv s1 ⟨x,H1,I1,r1,q1⟩=>?_);refine wpAny_Slice (thn (hl pins s1 σ H1 _ I1 q1) λJ s2 ⟨l,H2,I2,pl,q2⟩=>thn (hu pins s2 σ H2 _ I2 q2) λU z ⟨u,Y,I3,pu,q3⟩=>?_);refine gQ ?_;have I4:Inv X pins σ Y { z with heap:=z.heap.push { cls:=.type "slice",data:=.fields #[J,U,.none] } }:=I3.kept λb ob q=>g4 _ q
 obtain⟨T,id,hT,ht,hg⟩:=Z pins { z with heap:=z.heap.push { cls:=.type "slice",data:=.fields #[J,U,.none] } } σ Y x v J U l u z.heap.objs.size Q I4 r1 (Heap.IsSliceOf.new ..) pl pu q3;exact tail_any ht hT hg (by with_unfolding_all rfl)
noncomputable def wo(xs:List V)(lo hi:Option Int):List V:=(xs.drop (HT.sIx xs.length 0 lo)).take (HT.sIx xs.length xs.length hi-HT.sIx xs.length 0 lo)
def lv(xs)(lo hi):(wo xs lo hi).length<=xs.length:=by
 unfold wo;rw[Mv,length_drop];omega
def IL(K:Mx):V->Option Int->Option Int->Hp->VK->Prop:=λx lo hi H Q=>∃a xs,x=.ref a/\SqT K H a xs /\
 ¬ (HT.sIx xs.length 0 lo=0/\HT.sIx xs.length xs.length hi=xs.length)/\∀p,H p=none->Q (.ref p) (upd H p (.tup (wo xs lo hi)))
def DG:SlR X (IL X.K):=by
 intro pins s σ H x v vl vu lo hi sl Q I U hs Y Z h;obtain⟨a,xs,rfl,hx,hw,q⟩:=h;cases U;obtain⟨its,r,J,hz⟩:=I.tuple hx;have z:its.toArray.size=xs.length:=by rw[r4];exact r.length.symm
 refine⟨"tuple",_,J1.lookup,J.typeIs,?_⟩;refine HT.getItem_tuple_cut J hs Y Z (by rw[z];exact hw) ?_ (by rw[z];exact hz);rw[z];refine⟨.ref s.heap.objs.size,_,I.laid (o:=.tup _) (λb ob q=>g4 _ q) (pd _) ?_,rfl,q _ (I.hok.fresh (pd _))⟩;exact⟨Js (lv xs lo hi) hz,_,(r.drop _).take _,IsTup.new _ _⟩
noncomputable def Gx(K:Mx):R2:=λx y H Q=>∃a b xs ys,x=.ref a/\y=.ref b/\SqT K H a xs/\SqT K H b ys/\xs≠[]/\xs.length+ys.length<=sizeLine /\
 (ys=[]->Q (.ref a) H)/\(ys≠[]->∀p,H p=none->Q (.ref p) (upd H p (.tup (xs++ys))))
def aG.nil_iff(r:aG xs us):us=[] ↔ xs=[]:=by
 cases r<;>simp_all
def Ba:OpR X (binaryOp .Add) (Gx X.K):=by
 intro pins s σ H x y v u Q I Z ry h;refine az λZq kq=>?_
 obtain⟨a,b,xs,ys,rfl,rfl,ha,hb,hx,hz,q1,q2⟩:=h;cases Z;cases ry;obtain⟨its,U,p1,_⟩:=I.tuple ha;obtain⟨Y,J,p2,_⟩:=I.tuple hb;refine kq ?_;refine HT.cat_tup p1 p2 (λz=>hx (U.nil_iff.mp z)) (λz=>⟨.ref a,H,I,rfl,q1 (J.nil_iff.mp z)⟩) (λz=>?_) (by rw[<- U.length,<- J.length];exact hz);refine⟨.ref s.heap.objs.size,_,I.laid (o:=.tup _) (λb ob q=>g4 _ q) (pd _) ?_,rfl,q2 (λw=>z (J.nil_iff.mpr w)) _ (I.hok.fresh (pd _))⟩;exact⟨by rw[wh];exact hz,_,U.append J,IsTup.new _ _⟩
end
noncomputable def ixN(n:Nat)(i:Int):Option Nat:=if 0<=i then(if i<n then some i.toNat else none)else if -(n:Int)<=i then some (i+n).toNat else none
noncomputable def atI{α:Type}(xs:List α)(i:Int):Option α:=(ixN xs.length i).bind λj=>xs[j]?
def uZ(h:ixN n i=some j):seqIndex? i n=some j/\j<n/\-(n:Int)<=i/\i<n:=by
 unfold ixN at h;by_cases z:0<=i
 .rw[if_pos z]at h;by_cases h1:i<n
  .rw[if_pos h1]at h;have e:=Jv h;exact⟨by rw[seqIndex_of z h1,e],by omega,by omega,h1⟩
  .simp_all
 .rw[if_neg z]at h;by_cases h1:-(n:Int)<=i
  .rw[if_pos h1]at h;have e:=Jv h;exact⟨by rw[seqIndex_neg (by omega) h1,e],by omega,h1,by omega⟩
  .simp_all
def pT(h:atI xs i=some v):∃j,seqIndex? i xs.length=some j/\xs[j]?=some v/\j<xs.length/\-(xs.length:Int)<=i/\i<xs.length:=by
 unfold atI at h;cases e:ixN xs.length i with
 |none=>rw[e]at h;cases h
 |some j =>
  rw[e]at h;obtain⟨h1,h2,z,J⟩:=uZ e;exact⟨j,h1,h,h2,z,J⟩
def u0(b:Expr):Prop:=∀o i,subscripted b false o i=operate [o,i] (getItem o i)
def IxR(X:Cx)(r:R2):Prop:=
 ∀value slice pins s (σ:St) H x y v u Q,Inv X pins σ H s->aD x v->aD y u->r x y H Q ->
  subscripted slice false v u=operate [v,u] (getItem v u)->wpAny (model X.prog X.w) X.A (subscriptTail value slice v u) (EP X pins σ Q) X.xe s
def MtR(X:Cx)(id:String)(r:V->List V->Hp->VK->Prop):Prop:=
 ∀pins s (σ:St) H x xs v us Q,Inv X pins σ H s->aD x v->aG xs us->r x xs H Q ->
  wpAny (model X.prog X.w) X.A (call (.builtin id) (v::us)) (EP X pins σ Q) X.xe s
section
variable{X:Cx}{a b:Expr}{ta tb:TE}{pos:Pos}
theorem IxR.or(h:IxR X r)(h':IxR X U):IxR X (λx y H Q=>r x y H Q\/U x y H Q):=by
 intro value slice pins s σ H x y v u Q I z J q hs;rcases q with q|q
 .exact h value slice pins s σ H x y v u Q I z J q hs
 .exact h' value slice pins s σ H x y v u Q I z J q hs
def Gy(z:IxR X r)(J:PE X a ta)(U:PE X b tb)(hs:u0 b):PE X (.Subscript a b pos) (tOp r ta tb):=by
 intro pins s σ H Q I h;exact Subscript_ (Du J U I h λv u Y x y H2 Z rx ry q=>z a b pins Y σ H2 x y v u Q Z rx ry q (hs _ _))
noncomputable def Gz(K:Mx):R2:=λx y H Q=>∃p xs i v,x=.ref p/\y=.int i/\SqL K H p xs/\atI xs i=some v/\Q v H
noncomputable def GA(K:Mx):R2:=λx y H Q=>∃p xs i v,x=.ref p/\y=.int i/\SqT K H p xs/\atI xs i=some v/\Q v H
noncomputable def GB:R2:=λx y H Q=>∃z i c,x=.str z/\y=.int i/\z.length<=sizeLine/\atI z.cps.toList i=some c/\Q (.str ⟨#[c]⟩) H
def Bb:IxR X (Gz X.K):=by
 intro value slice pins s σ H x y v u Q I rx ry h hs;refine az λZq kq=>?_
 obtain⟨p,xs,i,z,rfl,rfl,hq,he,q⟩:=h;cases rx;obtain⟨t,rfl⟩:=ry;obtain⟨its,r,J,hz⟩:=I.list hq;obtain⟨j,h1,h2,h3,h4,h5⟩:=pT he;obtain⟨w,Z,U⟩:=r.get h2;have hl:=r.length;have hn:=kG;have fin:EP X pins σ Q w s:=⟨z,H,I,U,q⟩;refine kq ?_;by_cases h0:0<=i
 .have Y:i.toNat=j:=by
   rw[seqIndex_of h0 h5]at h1;exact Jv h1
  exact item_listR J.isList h0 (by omega) (by rw[Y];simpa using Z) fin hs
 .have Y:(i+(its.toArray.size:Int)).toNat=j:=by
   rw[seqIndex_neg (by omega) h4]at h1;rw[r4,<- hl];exact Jv h1
  exact subscriptTail_builtinR J.isList.typeIs slot_list_getitem.lookup
   (wpAny_getItem_list_neg J.isList (by omega) (by rw[r4]<;>omega) (by omega) (by rw[Y];simpa using Z) ⟨rfl,fin⟩) hs
def DH:IxR X (GA X.K):=by
 intro value slice pins s σ H x y v u Q I Y Z h hs;refine az λZq kq=>?_
 obtain⟨p,xs,i,z,rfl,rfl,hq,he,q⟩:=h;cases Y;obtain⟨t,rfl⟩:=Z;obtain⟨its,r,U,hz⟩:=I.tuple hq;obtain⟨j,h1,h2,h3,h4,h5⟩:=pT he;obtain⟨w,ew,J⟩:=r.get h2;have hl:=r.length;have hn:=kG;have fin:EP X pins σ Q w s:=⟨z,H,I,J,q⟩;refine kq ?_;exact subscriptTail_builtinR U.typeIs slot_tuple_getitem.lookup
  (getItem_tuple U (by omega) (by omega) (by rw[r4,<- hl];exact h1) (by simpa using ew) ⟨rfl,fin⟩) hs
def DI:IxR X GB:=by
 intro value slice pins s σ H x y v u Q I J U h hs;refine az λZq Y=>?_
 obtain⟨z,i,c,rfl,rfl,hz,Z,q⟩:=h;obtain⟨t,rfl⟩:=J;obtain⟨t',rfl⟩:=U;obtain⟨j,h1,h2,h3,h4,h5⟩:=pT Z;have hl:z.cps.toList.length=z.length:=by simp[Str.length]
 rw[hl]at h1 h4 h5;have hn:=kG;refine Y ?_;exact tail_any (typeIs_str s z t) slot_str_getitem.lookup (getItem_str (by
  have e1:decide (i < -(2 ^ 63:Int))=false:=JQ (by omega);have e2:decide (i>=2 ^ 63)=false:=JQ (by omega);rw[e1,e2,Bool.or_false]) (by rw[h1];simpa using h2) ⟨.str ⟨#[c]⟩,H,I.tok _,⟨_,rfl⟩,q⟩) hs
noncomputable def rIx(K:Mx):R2:=λx y H Q=>Gz K x y H Q\/GA K x y H Q\/GB x y H Q
def xX:IxR X (rIx X.K):=Bb.or (DH.or DI)
def tJ (its:List Value) (n j) (u):Obj.mapSeq (·.setIfInBounds j u) { cls:=.type "list",data:=.seq its.toArray n }={ cls:=.type "list",data:=.seq (its.set j u).toArray n }:=by
 simp[Obj.mapSeq]
theorem Inv.lst(I:Inv X pins σ H s)(h:H p=some (.lst xs)) :
  ∃its n,aG xs its/\s.heap.get? p=some { cls:=.type "list",data:=.seq its.toArray n }/\xs.length<=sizeLine:=by
 obtain⟨z,its,n,r,e⟩:=I.hok p _ h;exact⟨its,n,r,e,z⟩
def Inv.lstUpd{σ:St}{H:Hp}{s:Shared}{p:Addr}{xs ys:List V}{its its':List Value}{n z:Nat}{f:Obj->Obj}(I:Inv X pins σ H s)(h:H p=some (.lst xs))
  (ho:s.heap.get? p=some { cls:=.type "list",data:=.seq its.toArray n }) (J:f { cls:=.type "list",data:=.seq its.toArray n }={ cls:=.type "list",data:=.seq its'.toArray z }) (r:aG ys its') (hz:ys.length<=sizeLine) (t) :
  Inv X pins σ (upd H p (.lst ys)) { s with heap:=s.heap.update p f,toks:=t }:=by
 have e:(s.heap.update p f).get? p=some { cls:=.type "list",data:=.seq its'.toArray z }:=by
  rw[JW f ho (by rw[J]<;>rfl),J]
 refine I.write (by rw[h];trivial) (.inl rfl) (λb u U q=>(Ka _ _ (KW U)).trans q) ⟨_,e⟩ ?_;exact⟨hz,its',z,r,e⟩
def GC:V->V->V->Hp->(Hp->Prop)->Prop:=λo i v H Q=>∃p xs k j,o=.ref p/\i=.int k/\H p=some (.lst xs)/\ixN xs.length k=some j/\Q (upd H p (.lst (xs.set j v)))
def set_list:IF X GC:=by
 intro pins s σ H o i v ov iv u Q I ro ri rv h;refine az λZq kq=>?_
 obtain⟨p,xs,k,j,rfl,rfl,U,hj,q⟩:=h;cases ro;obtain⟨t,rfl⟩:=ri;obtain⟨its,n,r,ho,hz⟩:=I.lst U;obtain⟨h1,h2,Y,Z⟩:=uZ hj;have z:=r.length;have hn:=kG;have I':Inv X pins σ (upd H p (.lst _)) { s with heap:=s.heap.update p (Obj.mapSeq _) }:=
  I.lstUpd U ho (tJ its n j u) (r.set rv j) (by rw[LB];exact hz) s.toks
 refine kq ?_;by_cases h0:0<=k
 .have J:k.toNat=j:=by
   rw[seqIndex_of h0 Z]at h1;exact Jv h1
  exact PySem.W.ki_setAt ho h0 (by omega) (by rw[r4,<- z];exact Z) (by rw[J];exact⟨_,I',q⟩)
 .have J:(k+(its.toArray.size:Int)).toNat=j:=by
   rw[seqIndex_neg (by omega) Y]at h1;rw[r4,<- z];exact Jv h1
  exact PySem.W.ki_setBack ho (by omega) (by rw[r4,<- z];exact Y) (by omega) (by rw[J];exact⟨_,I',q⟩)
def pU(lo hi)(n):(sliceBounds lo hi none n).1=((HT.sIx n 0 lo:Nat):Int)/\(sliceBounds lo hi none n).2.1=((HT.sIx n n hi:Nat):Int)/\(sliceBounds lo hi none n).2.2=1:=by
 refine⟨?_,?_,rfl⟩
 .cases lo with
  |none=>simp[sliceBounds,HT.sIx]
  |some i =>
   simp[sliceBounds,HT.sIx,getD_none,show(1:Int) > 0 by decide,if_true];by_cases h:i<0
   .simp[h,if_true]<;>omega
   .simp[h,Kc]<;>omega
 .cases hi with
  |none=>simp[sliceBounds,HT.sIx]
  |some i =>
   simp[sliceBounds,HT.sIx,getD_none,show(1:Int) > 0 by decide,if_true];by_cases h:i<0
   .simp[h,if_true]<;>omega
   .simp[h,Kc]<;>omega
def ol(its:List Value)(lo hi):slicePick its.toArray lo hi none=((its.drop (HT.sIx its.length 0 lo)).take (HT.sIx its.length its.length hi-HT.sIx its.length 0 lo)).toArray:=by
 obtain⟨h1,h2,z⟩:=pU lo hi its.toArray.size;unfold slicePick;rw[h1,h2,z];simp only[sliceRange_one,pick_run]<;>rfl
def IM(K:Mx):V->Option Int->Option Int->Hp->VK->Prop:=λx lo hi H Q=>∃a xs,x=.ref a/\SqL K H a xs/\∀p,H p=none->Q (.ref p) (upd H p (.lst (wo xs lo hi)))
def Bc:SlR X (IM X.K):=by
 intro pins s σ H x v vl vu lo hi sl Q I U hs Y Z h;obtain⟨a,xs,rfl,hx,q⟩:=h;cases U;obtain⟨its,r,J,hz⟩:=I.list hx;have z:=r.length;refine⟨"list",_,slot_list_getitem.lookup,J.isList.typeIs,?_⟩;refine wpAny_getItem_list_slice J.isList hs Y Z .none (by simp) ?_ (by rw[r4]<;>omega);rw[ol,<- z];refine⟨.ref s.heap.objs.size,_,I.laid (o:=.lst _) (λb ob q=>g4 _ q) (pd _) ?_,rfl,q _ (I.hok.fresh (pd _))⟩;exact⟨Js (lv xs lo hi) hz,_,0,(r.drop _).take _,uw _ rfl⟩
noncomputable def iB:V->Bool
 | .non=>true
 | .bl _=>true
 | .int _=>true
 | .str _=>true
 | _=>false
noncomputable def eqV:V->V->Bool
 | .non,.non=>true
 | .bl a,.bl b=>a==b
 | .bl a,.int b=>(if a then 1 else 0)==b
 | .int a,.bl b=>a==(if b then 1 else 0)
 | .int a,.int b=>a==b
 | .str a,.str b=>a==b
 | _,_=>false
def xY(J:aD y u)(z:aD x v)(Y:iB y=true)(U:iB x=true):SeqAt.EqAt A s u v (eqV y x):=by
 cases y with
 |non =>
  cases J;cases x with
  |non=>cases z;exact SeqAt.EqAt.same _
  |bl b=>cases z;exact SeqAt.EqAt.none_bool b
  |int b=>obtain⟨t,rfl⟩:=z;exact SeqAt.EqAt.none_int b t
  |str b=>obtain⟨t,rfl⟩:=z;exact SeqAt.EqAt.none_str b t
  | _=>exact absurd (show false=true from U) pb
 |bl a =>
  cases J;cases x with
  |non=>cases z;exact SeqAt.EqAt.bool_none a
  |bl b=>cases z;exact SeqAt.EqAt.bool_bool a b
  |int b=>obtain⟨t,rfl⟩:=z;exact SeqAt.EqAt.bool_int a b t
  |str b=>obtain⟨t,rfl⟩:=z;exact SeqAt.EqAt.bool_str a b t
  | _=>exact absurd (show false=true from U) pb
 |int a =>
  obtain⟨t',rfl⟩:=J;cases x with
  |non=>cases z;exact SeqAt.EqAt.int_none a t'
  |bl b=>cases z;exact SeqAt.EqAt.int_bool a t' b
  |int b=>obtain⟨t,rfl⟩:=z;exact SeqAt.EqAt.int_int a t' b t
  |str b=>obtain⟨t,rfl⟩:=z;exact SeqAt.EqAt.int_str a t' b t
  | _=>exact absurd (show false=true from U) pb
 |str a =>
  obtain⟨t',rfl⟩:=J;cases x with
  |non=>cases z;exact SeqAt.EqAt.str_none a t'
  |bl b=>cases z;exact SeqAt.EqAt.str_bool a t' b
  |int b=>obtain⟨t,rfl⟩:=z;exact SeqAt.EqAt.str_int a t' b t
  |str b=>obtain⟨t,rfl⟩:=z;exact SeqAt.EqAt.str_str a t' b t
  | _=>exact absurd (show false=true from U) pb
 | _=>exact absurd (show false=true from Y) pb
def gZ:bO X (.builtin "len") (λxs H Q=>∃p ys,xs=[.ref p]/\(SqL X.K H p ys\/SqT X.K H p ys)/\Q (.int ys.length) H):=by
 intro pins s σ H xs us Q I r h;obtain⟨p,ys,rfl,J,q⟩:=h;obtain⟨u,rfl,Z⟩:=dU r;cases Z;have hn:=kG;rcases J with J|J
 .obtain⟨its,U,Y,hz⟩:=I.list J;have z:=U.length;exact Calls.call_len_list Y.isList (by simp[r4]<;>omega) ⟨.int ys.length,H,I.tok _,⟨s.toks+1,by rw[r4,z]⟩,q⟩
 .obtain⟨its,U,Y,hz⟩:=I.tuple J;have z:=U.length;exact len_tuple Y (by simp[r4]<;>omega) ⟨.int ys.length,H,I.tok _,⟨s.toks+1,by rw[r4,z]⟩,q⟩
def pV:bO X (.type "list") (λxs H Q=>∃p ys,xs=[.ref p]/\(SqL X.K H p ys\/SqT X.K H p ys)/\∀l,H l=none->Q (.ref l) (upd H l (.lst ys))):=by
 intro pins s σ H xs us Q I r h;obtain⟨p,ys,rfl,U,q⟩:=h;obtain⟨u,rfl,rx⟩:=dU r;cases rx;have fin:∀its,aG ys its->ys.length<=sizeLine->∀h' z,(∀b o',s.heap.get? b=some o'->h'.get? b=some o') ->
   h'.get? s.heap.objs.size=some { cls:=.type "list",dict:=none,data:=.seq its.toArray z,slots:=#[] }->EP X pins σ Q (.ref s.heap.objs.size) { s with heap:=h' }:=λits J hz h' z kp e =>
  ⟨.ref s.heap.objs.size,_,I.laid (t':=s.toks) kp (pd _) (show bE X.prog X.w _ h' _ (.lst ys)from⟨hz,its,z,J,e⟩),rfl,q _ (I.hok.fresh (pd _))⟩
 rcases U with U|U
 .obtain⟨its,J,Z,hz⟩:=I.list U;have Y:=J.length;obtain⟨o,ho,hc,n,hd⟩:=Z.isList;exact call_list_seq p (.inl rfl) ho hc hd (λh' z kp e=>fin its J hz h' z kp e) (by simp only[r4]<;>omega)
 .obtain⟨its,J,Z,hz⟩:=I.tuple U;have Y:=J.length;obtain⟨o,ho,hc,n,hd⟩:=Z;exact call_list_seq p (.inr rfl) ho hc hd (λh' z kp e=>fin its J hz h' z kp e) (by simp only[r4]<;>omega)
def je:bO X (.type "tuple") (λxs H Q=>∃p ys,xs=[.ref p]/\((SqL X.K H p ys/\∀l,H l=none->Q (.ref l) (upd H l (.tup ys)))\/(SqT X.K H p ys/\Q (.ref p) H))):=by
 intro pins s σ H xs us Q I r h;obtain⟨p,ys,rfl,h⟩:=h;obtain⟨u,rfl,rx⟩:=dU r;cases rx;rcases h with⟨z,q⟩|⟨z,q⟩
 .obtain⟨its,J,U,hz⟩:=I.list z;have Y:=J.length;refine call_tuple_list U.isList (λh' kp=>?_) (by simp[r4]<;>omega);have Z:=I.kept (t':=s.toks) kp;have I2:Inv X pins σ (upd H h'.objs.size (.tup ys)) { s with heap:=h'.push { cls:=.type "tuple",data:=.seq its.toArray } }:=
   Z.laid (λb o e=>g4 _ e) (pd _) (show bE X.prog X.w _ _ _ _ from⟨hz,its,J,IsTup.new _ _⟩)
  exact⟨.ref h'.objs.size,_,I2,rfl,q _ (Z.hok.fresh (pd _))⟩
 .obtain⟨its,J,U,hz⟩:=I.tuple z;exact call_tuple_same U ⟨.ref p,H,I,rfl,q⟩
def tyV(K:Mx)(T:String)(x:V)(H:Hp):Prop:=match x with
 | .str _=>T="str"
 | .int _=>T="int"
 | .ref p=>(T="list"/\∃xs,SqL K H p xs)\/(T="tuple"/\∃o,K.lookup p=some o/\o.cls=.type "tuple"/\o.dict=none) \/
   (T="dict"/\((∃kvs,H p=some (.dK kvs))\/∃kvs,H p=some (.dT kvs)))\/(T="set"/\∃S n,H p=some (.set S n))
 | _=>False
def xZ(I:Inv X pins σ H s)(r:aD x v)(ty:tyV X.K T x H) :
  s.TypeIs v T/\∀a,v=.ref a->∃Y,s.heap.get? a=some Y/\Y.dict=none:=by
 cases x with
 |str z =>
  obtain⟨t,rfl⟩:=r;cases (show T="str" from ty);exact⟨typeIs_str s z t,λ_ e=>nomatch e⟩
 |int i =>
  obtain⟨t,rfl⟩:=r;cases (show T="int" from ty);exact⟨typeIs_int s i t,λ_ e=>nomatch e⟩
 |ref p =>
  cases r;rcases ty with⟨rfl,xs,hq⟩|⟨rfl,o,J,hc,hd⟩|⟨rfl,J⟩|⟨rfl,S,n,J⟩
  .obtain⟨its,_,Z,_⟩:=I.list hq;refine⟨Z.isList.typeIs,λa e=>?_⟩;cases e;obtain⟨o,n,e,c,hd,_⟩:=Z;exact⟨o,e,hd⟩
  .refine⟨⟨o,I.kIn p o J,hc⟩,λa e=>?_⟩;cases e;exact⟨o,I.kIn _ o J,hd⟩
  .have z:∃o,s.heap.get? p=some o/\o.ExactDict:=by
    rcases J with⟨kvs,J⟩|⟨kvs,J⟩
    .obtain⟨_,_,_,_,o,_,_,e,ex,_⟩:=I.hok p _ J;exact⟨o,e,ex⟩
    .obtain⟨_,_,_,_,o,_,_,e,ex,_⟩:=I.hok p _ J;exact⟨o,e,ex⟩
   obtain⟨o,e,ex⟩:=z;refine⟨⟨o,e,ex.1⟩,λa U=>?_⟩;cases U;exact⟨o,e,ex.2.1⟩
  .obtain⟨o,_,_,_,e,ex,_⟩:=I.hok p _ J;refine⟨⟨o,e,ex.1⟩,λa U=>?_⟩;cases U;exact⟨o,e,ex.2.1⟩
 | _=>exact False.elim ty
noncomputable def IN(K:Mx)(T:String)(r:V->List V->Hp->VK->Prop)(to:TE):TE:=λσ H Q=>to σ H λx H1=>tyV K T x H1/\r x [] H1 Q
noncomputable def tBM(K:Mx)(T:String)(r:V->List V->Hp->VK->Prop)(to:TE)(t:TA):TE:=λσ H Q=>to σ H λx H1=>tyV K T x H1/\t σ H1 λxs H2=>r x xs H2 Q
variable{o e:Expr}{es:List Expr}{to:TE}{t:TA}{name:Str}{apos cpos:Pos}{T id:String}{r:V->List V->Hp->VK->Prop}
def DJ (pa:PlainAttrs T) (slot:Slot T name id) (U:typeOf (.builtin id)=pure (.type "method_descriptor")) (hm:MtR X id r) (ho:PE X o to)
  (z:attributeBase o name X.env (eval o X.env)=eval o X.env:=by rfl) (J:(apos.endLine==cpos.line)=true:=by rfl):PE X (.Call (.Attribute o name apos) [] [] cpos) (IN X.K T r to):=by
 intro pins s σ H Q I h;refine wpAny_Call_method0_late z J (thn (ho pins s σ H _ I h) λv s1 ⟨x,H1,Y,Z,ty,q1⟩=>?_);obtain⟨h1,h2⟩:=xZ Y Z ty;exact⟨T,id,pa,slot,U,h1,h2,K4 rfl (PySem.evalArgs_none (hm pins s1 σ H1 x [] v [] Q Y Z .nil q1))⟩
def x0 (pa:PlainAttrs T) (slot:Slot T name id) (Z:typeOf (.builtin id)=pure (.type "method_descriptor")) (hm:MtR X id r) (ho:PE X o to) (ha:PA X (e::es) t)
  (J:attributeBase o name X.env (eval o X.env)=eval o X.env:=by rfl)
  (Y:((backTo cpos (starEach (e::es) X.env)).all (λx=>!x.1)&&(backToKw cpos (keywordEach [] X.env)).all (λx=>x.1.isSome)
  &&decide ((e::es).length+([]:List Keyword).length+(if ([]:List Keyword).isEmpty then 0 else 1)<30))=true:=by rfl)
  (U:(apos.endLine==cpos.line)=true:=by rfl) (hs:starEach (e::es) X.env=(false,eval e X.env)::starEach es X.env:=by rfl) (z:(backTo cpos (starEach es X.env)).any (·.1)=false:=by rfl) :
  PE X (.Call (.Attribute o name apos) (e::es) [] cpos) (tBM X.K T r to t):=by
 intro pins s σ H Q I h;refine wpAny_Call_method_late J Y U rfl (thn (ho pins s σ H _ I h) λv s1 ⟨x,H1,I1,r1,ty,q1⟩=>?_);obtain⟨h1,h2⟩:=xZ I1 r1 ty;refine⟨T,id,pa,slot,Z,h1,h2,?_⟩;have hA:=ha cpos pins s1 σ H1 _ I1 q1;rw[hs]at hA ⊢;refine K4 (by show(false||(backTo cpos _).any _)=false;rw[z]<;>rfl) (Calls.evalArgs_plain ?_);exact thn hA λus s2 ⟨vs,H2,I2,r2,q2⟩=>hm pins s2 σ H2 x vs v us Q I2 r1 r2 q2
end
def MtM(X:Cx)(id:String)(r:V->List V->Hp->VK->Prop):Prop:=
 ∀pins s (σ:St) H x xs v us Q,Inv X pins σ H s->aD x v->aG xs us->r x xs H Q ->
  wpAny (model X.prog X.w) X.A (call (.builtin id) (v::us)) (EP X pins σ Q) X.xe s
theorem aG.one:∀{x}{us},aG [x] us->∃u,us=[u]/\aD x u
 | _,_,.cons r .nil=>⟨_,rfl,r⟩
def aG.zero:∀{us},aG [] us->us=[]
 | _,.nil=>rfl
theorem aG.dropLast(h:aG xs us):aG xs.dropLast us.dropLast:=by
 induction h with
 |nil=>exact .nil
 |cons r t ih =>
  cases t<;>first|exact .nil|exact .cons r ih
theorem aG.reverse(h:aG xs us):aG xs.reverse us.reverse:=by
 induction h with
 |nil=>exact .nil
 |cons r t ih=>rw[reverse_cons,reverse_cons];exact aG.append ih (.cons r .nil)
section
variable{X:Cx}{pins:List (Addr×Obj)}{σ:St}{H:Hp}{s:Shared}{l b:Addr}{xs ys zs:List V}
theorem Inv.lset{its its':List Value}{n:Nat}{f:Array Value->Array Value}{t':Nat}(I:Inv X pins σ H s)(z:H l=some (.lst xs))
  (e:s.heap.get? l=some { cls:=.type "list",data:=.seq its.toArray n }) (J:f its.toArray=its'.toArray) (hv:aG ys its') (hz:ys.length<=sizeLine) :
  Inv X pins σ (upd H l (.lst ys)) { s with heap:=s.heap.update l (Obj.mapSeq f),toks:=t' }:=by
 have q:=PySem.IsL.update e f;rw[J]at q;refine I.write (by rw[z];exact trivial) (.inl rfl) (λZ u U Y=>(Ka s.heap _ (KW U)).trans Y) ⟨_,q⟩ ?_;exact⟨hz,its',_,hv,q⟩
theorem Inv.lnew(I:Inv X pins σ H s)(hv:aG ys its)(hz:ys.length<=sizeLine) :
  Inv X pins σ (upd H s.heap.objs.size (.lst ys)) { s with heap:=s.heap.push { cls:=.type "list",data:=.seq its.toArray },toks:=t' }:=
 I.laid (λ_ _ q=>g4 _ q) (pd _) ⟨hz,its,0,hv,uw _ rfl⟩
theorem Inv.fresh(I:Inv X pins σ H s):H s.heap.objs.size=none:=I.hok.fresh (pd _)
theorem Inv.lstM (I:Inv X pins σ H s) (J:H l=some (.lst xs)):xs.length<=sizeLine/\∃its n,aG xs its/\xs.length=its.length/\s.heap.get? l=some { cls:=.type "list",data:=.seq its.toArray n }:=by
 obtain⟨z,its,n,r,e⟩:=I.hok l _ J;exact⟨z,its,n,r,r.length,e⟩
def ra(h:n<=sizeLine):Builtin.List.listTooLong n=false:=by simp_all [Builtin.List.listTooLong]
end
section
variable{X:Cx}
def Bd:V->List V->Hp->VK->Prop:=λx vs H Q=>∃l xs y,x=.ref l/\vs=[y]/\H l=some (.lst xs)/\xs.length<sizeLine/\Q .non (upd H l (.lst (xs++[y])))
def kI:MtM X "list.append" Bd:=by
 intro pins s σ H x vs v us Q I U Y h;refine az λZq Z=>?_
 obtain⟨l,xs,y,rfl,rfl,J,hz,q⟩:=h;cases U;obtain⟨u,rfl,ru⟩:=Y.one;obtain⟨z,its,n,r,hl,e⟩:=I.lstM J;refine Z ?_;refine Mh F.slot_list_append ⟨_,e,rfl⟩ F.entry_list_append (F.args_list_append_2 _ _) (PySem.list_append l its.toArray n u (by rw[r4];omega)) ⟨e,?_⟩;refine⟨.non,_,I.lset J e (by simp) (r.append (.cons ru .nil)) ?_,rfl,q⟩
 grind
def IP:V->List V->Hp->VK->Prop:=λx vs H Q=>∃l xs y,x=.ref l/\vs=[]/\H l=some (.lst xs)/\xs[xs.length-1]?=some y/\Q y (upd H l (.lst xs.dropLast))
def DK:MtM X "list.pop" IP:=by
 intro pins s σ H x vs v us Q I Z rv h;refine az λZq kq=>?_
 obtain⟨l,xs,y,rfl,rfl,Y,hy,q⟩:=h;cases Z;have J:=rv.zero;subst J;obtain⟨z,its,n,r,hl,e⟩:=I.lstM Y;obtain⟨u,hu,ru⟩:=r.get hy;have U:its.toArray[its.toArray.size-1]?=some u:=by
  simp_all
 refine kq ?_;refine Mh F.slot_list_pop ⟨_,e,rfl⟩ F.entry_list_pop (F.args_list_pop_1 _) (MeetsSeq.list_pop_last l its.toArray n u U (by rw[r4];omega)) ⟨e,?_⟩;refine⟨y,_,I.lset Y e ?_ r.dropLast ?_,ru,q⟩
 .simp_all
 .rw[length_dropLast];omega
end
section
variable{prog:Program}{w:World}{A:Around}{E:Value->Shared->Prop}{s:Shared}
end
section
variable{X:Cx}
end
end L2
namespace Att
open PySem PySem.W PySem.Calls PyProof.Rows List Option
def lT :∀ns vs,WellAll P h vs (ns.map WData.int)->IntsAre vs ns:=by
 intro ns
 induction ns with
 |nil =>
  intro vs w;cases w;exact .nil
 |cons n ns ih =>
  intro vs w;cases w with
  |cons a b =>
   cases a;exact .cons _ _ (ih _ b)
def wq{l:OpenLaw}(hn:l.most=some n) 
  (z:l.row.toRowW.claim.pre args=true) (Z:WellAll P h vals args) :
  ∃a vs ns,vals=[Value.ref a]/\args=[WData.list (ns.map WData.int)]/\h.get? a=some { cls:=.type "list",data:=.seq vs.toArray }/\IntsAre vs ns/\ns.length<=n:=by
 have ao:WShape.hasAll [] args [.list .int]=true:=(pre_splitW z).1;have hc:l.pre.holds [] { args:=args }=true:=(pre_splitW z).2;obtain⟨d,r,rfl,h1,h2⟩:=hasAllW_cons ao;obtain rfl:=hasAllW_nil h2;obtain⟨xs,rfl,h3⟩:=hasW_list h1;obtain⟨ns,rfl⟩:=items_int h3;have J:ns.length<=n:=by
  have Y:(WTm.not (.lt (.lit (.int (n:Int))) (.len (.arg 0)))).holds [] { args:=[.list (ns.map .int)] }=true:=by
   have Y:=(holds_andW hc).1;rw[hn]at Y;exact Y
  have h5:=condW_of Y (w_not (w_lt w_lit (w_len_list (w_arg rfl))))
  simp_all
 cases Z with
 |cons w1 w2 =>
  cases w2;cases w1 with
  |list ho U=>exact⟨_,_,ns,rfl,rfl,ho,lT ns _ U,J⟩
def wt(l:OpenLaw)(args):l.row.toRowW.claim.post args (.bool true) args=true:=
 postW_of (r:=l.row.toRowW) (X:=(true==true))
  (show WShape.has [] (.bool true) .bool=true by first|rfl|decide|simp[WShape.arms])
  (show(WTm.eq .res (.lit (.bool true))).value [] { args:=args,res:=some (.bool true),after:=args }=some (.bool (true==true))from w_eq_bool (w_res rfl) w_lit) rfl
def attach_call{l:OpenLaw}{n:Nat}{q:Program}{J:List Str}{XP:(Str->Option Value)->Heap->Prop}{YP:World->Heap->Prop}{d:DefRec}
  (hn:l.most=some n) (a3:d.params.defaults=[])
  (call:∀w s₀ z mg mb fa o pm cd U a vs ns,
   Ground q J [] XP w s₀ mg mb z.heap->YP w z.heap ->
   z.heap.get? fa=some o->o.data=.func (docDef d.name d.params d.body d.scope pm cd U)->z.heap.CodeRec cd d.name->mg d.name=some (.ref fa) ->
   z.heap.get? a=some { cls:=.type "list",data:=.seq vs.toArray }->IntsAre vs ns->ns.length<=n->z.gens=#[] ->
   codeAny (model l.prog w) callerA (.call (.ref fa) ⟨[.ref a],[]⟩) (λr s'=>r=.ok (.ret (.bool true))/\OldK z.heap s'.heap/\s'.os=z.os/\AllBare s'.gens) z) :
  WalkO q J XP YP l.row.toRowW d [] (λf vs=>PySem.call f vs):=by
 intro w s₀ z mg mb G Y fa o pm cd U dV kV ho hd a5 hD a6 hg args vals as aO b1 b5 a7 ck;obtain rfl:dV=.none:=Dflts.none hD a3;obtain rfl:kV=.none:=Dflts.noKw hD;obtain⟨a,vs,ns,rfl,rfl,a0,Z,a1⟩:=wq hn aO a7;refine enter_call (La (call w s₀ z mg mb fa o pm cd U a vs ns G Y ho (fd_plain hd) a5 a6 a0 Z a1 hg) λr s' hq=>?_);obtain⟨rfl,h2,h3,h4⟩:=hq;exact⟨.inl ⟨.bool true,.bool true,[],rfl,λ_=>rfl,.bool true,wt l _,λ_=>⟨Pairwise.nil,λ_ hm=>(nomatch hm)⟩⟩,h2,h3,h4⟩
section
variable{prog:Program}{w:World}{A:Around}{E:Value->Shared->Prop}{s:Shared}{K:Frag}
end
end Att
namespace L2
open PySem PySem.Spec PyProof.Rows List Option
theorem kJ:∀{vs}{ns},IntsAre vs ns->aG (ns.map V.int) vs
 | _,_,.nil=>.nil
 | _,_,.cons n t h=>.cons ⟨t,rfl⟩ (kJ h)
def DL(H:Hp):Prop:=∀b,H b=none\/∃o xs,H b=some (.frz o (.lst xs))
def x9{K:Mx} 
  (KX:K.In J.heap) (aO:J.heap.Ns mainGlobals mg) (U:J.heap.Ns builtinsNs mb) (a6:∀x:Str,x ≠ "__name__"->mb x=bootBuiltins x) (a0:J.heap.NoLimit) (hg:J.gens=#[])
  (ha:J.heap.get? a=some { cls:=.type "list",data:=.seq vs.toArray }) (hi:IntsAre vs ns) (hl:ns.length<=sizeLine) (hr:kH k callerA)
  (F:∀base,K.In base->base.Ns mainGlobals mg->jv P w K mg base CX k fa fd [x] sp) (ao:∀s u,BindsTo s fd ⟨[u],[]⟩ [(x,u)])
  (a7:∀H,DL H->SqL K H a (ns.map V.int)->sp [.ref a] H (λv _=>v=.bl true) λ_ _ _=>False)
  (a8:∀H e s',CX [] H J (λ_ _ _=>False) e s'->False) :
  codeAny (model P w) callerA (.call (.ref fa) ⟨[.ref a],[]⟩) (λr s'=>r=.ok (.ret (.bool true))/\OldK J.heap s'.heap/\s'.os=J.os/\AllBare s'.gens) J:=by
 have rv:=kJ hi;have a1:=hi.length;have Z:∀H,DL H->SqL K H a (ns.map V.int)->HOk P w H J.heap->(∀b,H b≠none->b=a)->(H a≠none->K.lookup a=none) ->
   codeAny (model P w) callerA (.call (.ref fa) ⟨[.ref a],[]⟩) (λr s'=>r=.ok (.ret (.bool true))/\OldK J.heap s'.heap/\s'.os=J.os/\AllBare s'.gens) J:=by
  intro H hO hS hok hA hK;have base_of:∀{b}{o},J.heap.get? b=some o->H b=none->(pN J.heap H).get? b=some o:=λe n=>xD e n
  have a9:∀{b}{o}{es}{ep},J.heap.get? b=some o->o.data=.dict es ep->H b=none:=λ{b o es ep} e d=>by
   cases q:H b with
   |none=>rfl
   |some u =>
    have e':=hA b (by rw[q];simp);subst e';rw[ha]at e;cases e
    have d':=d;cases d'
  have Y:∀{b}{m},J.heap.Ns b m->(pN J.heap H).Ns b m:=λ{b m} ⟨o,es,ep,e,d,r⟩=>⟨o,es,ep,base_of e (a9 e d),d,r⟩
  have a2:K.In (pN J.heap H):=λb o e=>base_of (KX b o e) (by
   cases q:H b with
   |none=>rfl
   |some u =>
    have e':=hA b (by rw[q];simp);subst e';rw[hK (by rw[q];simp)]at e;cases e)
  have hM:Mod K mg (pN J.heap H):=⟨a2,Y aO,⟨mb,Y U,a6⟩,let ⟨mc,h1,h2⟩:=a0;⟨mc,Y h1,h2⟩⟩;have e0:A7 P w K mg (pN J.heap H) callerA [] J H:=⟨rfl,hM,λb o e=>AU e,LO (wj _ _),trivial,λb U=>absurd (show b∈([]:List Addr)from U) (by simp),hok,.of_eq hg⟩;refine La ((F _ a2 (Y aO)).run callerA [] J H ⟨[.ref a],[]⟩ [.ref a] [.ref a] _ _ hr e0 (ao J (.ref a)) (.cons rfl .nil) (a7 H hO hS)) λr s' h=>?_
  cases r with
  |error e=>exact(a8 H e s' h).elim
  |ok fl =>
   cases fl with
   |ret u =>
    obtain⟨v,H',os,bare,un,a3,r',q⟩:=h;have q':=q;subst q';obtain rfl:u=Value.bool true:=r';refine⟨rfl,OldK.of_keep λb o e=>?_,os,bare⟩;cases q:H b with
    |none=>exact un.keep b o e q (by intro z;exact absurd (show b∈([]:List Addr)from z) (by simp)) (by simp)
    |some u =>
     rcases hO b with z|⟨ob,xs,z⟩
     .rw[q]at z;cases z
     .have z2:=un.frzs b ob _ z;obtain⟨e1,_⟩:=hok b _ z;obtain⟨e2,_⟩:=a3 b _ z2;rw[e]at e1;cases e1
      exact e2
   | _=>exact False.elim h
 cases hk:K.lookup a with
 |some o =>
  have e:=KX a o hk;rw[ha]at e;cases e;refine Z (λ_=>none) (λ_=>.inl rfl) (.inr ⟨_,vs.toArray,_,hk,rfl,rfl,rfl,by rw[r4,a1];exact hl,by simpa using rv⟩) (λb u z=>by have z':=z;cases z') (λb z=>absurd rfl z) λz=>absurd rfl z
 |none =>
  refine Z (λb=>if b=a then some (.frz { cls:=.type "list",data:=.seq vs.toArray } (.lst (ns.map V.int)))else none) (λb=>?_) (.inl (.inr ⟨{ cls:=.type "list",data:=.seq vs.toArray },if_pos rfl⟩)) (λb u z=>?_) (λb z=>?_) λ_=>hk
  .by_cases U:b=a
   .exact .inr ⟨_,_,if_pos U⟩
   .exact .inl (if_neg U)
  .by_cases U:b=a
   .have z':=(if_pos U).symm.trans z;cases z';subst U;exact⟨ha,by rw[pe];exact hl,vs,_,rv,ha⟩
   .have z':=(if_neg U).symm.trans z;cases z'
  .by_cases U:b=a
   .exact U
   .exact absurd (if_neg U) z
def Be{l:PySem.W.OpenLaw}{n k:Nat}{q:Program}{J:List Str}{XP:(Str->Option Value)->Heap->Prop}{YP:World->Heap->Prop}{d:DefRec}{K:Params->Mx}{CX:World->CXT}{sp:World->Sp}{x:Str}
  (hn:l.most=some n) (a0:n<=sizeLine) (a1:d.params.defaults=[]) (hr:kH k callerA)
  (hY:∀w h,YP w h->(K w.params).In h)
  (F:∀w mg fa h,(K w.params).In h->h.Ns mainGlobals mg->mg d.name=some (.ref fa) ->
   ∃fd,(∀s u,BindsTo s fd ⟨[u],[]⟩ [(x,u)]) /\
    ∀base,(K w.params).In base->base.Ns mainGlobals mg->jv l.prog w (K w.params) mg base (CX w) k fa fd [x] (sp w))
  (a2:∀w H a (ns:List Int),ns.length<=n->DL H->SqL (K w.params) H a (ns.map V.int)->sp w [.ref a] H (λv _=>v=.bl true) λ_ _ _=>False)
  (a3:∀w H s e s',CX w [] H s (λ_ _ _=>False) e s'->False) :
  PySem.W.WalkO q J XP YP l.row.toRowW d [] (λf vs=>PySem.call f vs):=by
 refine Att.attach_call hn a1 λw s₀ Z mg mb fa o pm cd b1 a vs ns G Y ho hd b2 a4 ao U z hg=>?_
 have KX:=hY w _ Y;obtain⟨fd,hb,hF⟩:=F w mg fa _ KX G.T.g a4;exact x9 KX G.T.g G.T.b G.T.builtins G.T.nolimit hg ao U (Js z a0) hr hF hb (λH hO hS=>a2 w H a ns z hO hS) λH e s'=>a3 w H Z e s'
noncomputable def jQ(s:Stmt):Arguments:=match s with
 | .FunctionDef _ a _ _ _ _ _ _ _ _=>a
 | _=>{ posonlyargs:=[],args:=[],vararg:=none,kwonlyargs:=[],kw_defaults:=[],kwarg:=none,defaults:=[] }
noncomputable def dG(s:Stmt):List Stmt:=match s with
 | .FunctionDef _ _ b _ _ _ _ _ _ _=>b
 | _=>[]
noncomputable def bm(s:Stmt):Scope:=match s with
 | .FunctionDef _ _ _ _ _ _ sc _ _ _=>sc
 | _=>{ kind:=.function,names:=[],isGenerator:=false,isCoroutine:=false }
noncomputable abbrev CX0:CXT:=λ_ _ _ _ _ _=>False
noncomputable abbrev E0:XK:=λ_ _ _=>False
def rb :pR CX0 X E0:=λ_ _ _ _ _ _ _ h=>h.elim
section
variable{P:Program}{w:World}{K:Mx}{mg:Str->Option Value}{base:Heap}
end
section
variable{X:Cx}
end
def ai(H H':Hp):Prop:=∀b o,H b=some o->H' b=some o
def ai.refl(H):ai H H:=λ_ _ h=>h
def ai.trans(a:ai H H1)(b:ai H1 H2):ai H H2:=λc o h=>b c o (a c o h)
def ai.free(e:ai H H')(h:H' l=Option.none):H l=Option.none:=by
 cases q:H l with
 |none=>rfl
 |some o =>
  rw[e l o q]at h;cases h
theorem ai.seq{K:Mx}(e:ai H H')(h:SqL K H a xs):SqL K H' a xs:=by
 rcases h with(h|⟨o,h⟩)|h
 .exact .inl (.inl (e _ _ h))
 .exact .inl (.inr ⟨o,e _ _ h⟩)
 .exact .inr h
section
variable{g:Type} [DecidableEq g]
noncomputable def ja(kvs:List (g×V))(k:g):Option V:=(kvs.find? λz=>decide (z.1=k)).map (·.2)
noncomputable def f_(kvs:List (g×V))(k:g)(v:V):List (g×V):=
 if (kvs.any λz=>decide (z.1=k))=true then kvs.map (λz=>if z.1=k then(z.1,v)else z)else kvs++[(k,v)]
def mE{k:g}(e:p.1=k):ja (p::r) k=some p.2:=by simp_all [ja]
def mF{k:g}(e:¬ p.1=k):ja (p::r) k=ja r k:=by simp_all [ja]
theorem re(k):∀kvs:List (g×V),(kvs.any λz=>decide (z.1=k))=(ja kvs k).isSome
 | []=>rfl
 |p::r=>by
  rw[any_cons];by_cases e:p.1=k
  .simp[mE e,JA e]
  .rw[mF e,JQ e,Bool.false_or];exact re k r
def iC(kvs)(k:g)(v):(f_ kvs k v).length<=kvs.length+1:=by grind [f_,length_map,length_append,length_cons,length_nil]
def lS.isSome_eq(r:lS o u):o.isSome=u.isSome:=by
 cases o<;>first|(cases u<;>first|rfl|exact(show False from r).elim)|(cases u<;>first|exact(show False from r).elim|rfl)
theorem lS.getD(r:lS o u)(rd:aD d d'):aD (o.getD d) (u.getD d'):=by
 cases o<;>first|(cases u<;>first|exact rd|exact(show False from r).elim)|(cases u<;>first|exact(show False from r).elim|exact r)
theorem KV.val(r:KV kvs vs)(k:g):lS (ja kvs k) (valueAt vs k):=by
 induction r with
 |nil=>exact True.intro
 | @cons p q ps J h t ih =>
  obtain⟨h1,h2⟩:=h;by_cases e:p.1=k
  .have U:=h1.symm.trans e;have b:valueAt (q::J) k=some q.2:=by simp[valueAt,find?_cons,U]
   rw[mE e,b];exact h2
  .have U:¬ q.1=k:=λz=>e (h1.trans z)
   have b:valueAt (q::J) k=valueAt J k:=by simp[valueAt,find?_cons,U]
   rw[mF e,b];exact ih
theorem KV.any(r:KV kvs vs)(k:g):(kvs.any λz=>decide (z.1=k))=vs.any λz=>decide (z.1=k):=by
 induction r with
 |nil=>rfl
 |cons h t ih=>rw[any_cons,any_cons,ih,h.1]
def KV.repl(r:KV kvs vs)(k:g)(U:aD y u) :
  KV (kvs.map λJ=>if J.1=k then(J.1,y)else J) (vs.map λJ=>if J.1=k then(J.1,u)else J):=by
 induction r with
 |nil=>exact .nil
 | @cons p q ps Y h t ih =>
  rw[Jq,Jq];refine .cons ?_ ih;obtain⟨h1,h2⟩:=h;by_cases e:p.1=k
  .rw[if_pos e,if_pos (h1.symm.trans e)];exact⟨h1,U⟩
  .rw[if_neg e,if_neg (λz=>e (h1.trans z))];exact⟨h1,h2⟩
theorem KV.put(r:KV kvs vs)(k:g)(z:aD y u):KV (f_ kvs k y) (stored vs k u):=by
 unfold f_ stored;rw[r.any k];by_cases e:(vs.any λJ=>decide (J.1=k))=true
 .rw[if_pos e,if_pos e];exact r.repl k z
 .rw[if_neg e,if_neg e];exact Paired.snoc r ⟨rfl,z⟩
def KV.keys{vs:List (g×Value)}(r:KV kvs vs):kvs.map (·.1)=vs.map (·.1):=by
 induction r with
 |nil=>rfl
 |cons h t ih=>rw[Jq,Jq,ih,h.1]
theorem KV.length(r:KV kvs vs):kvs.length=vs.length:=Paired.length r
end
def mG(r:aD (kV k) u):(bz P w).is k u=true:=by
 cases k with
 |inl i=>obtain⟨t,e⟩:=(show ∃t,u=Value.int i t from r);subst e;exact qV P w i t
 |inr x=>obtain⟨t,e⟩:=(show ∃t,u=Value.str x t from r);subst e;exact qW P w x t
theorem oR :∀{ks}{us},aG (ks.map kV) us->ItemsAre (bz P w) ks us
 | [],_,r=>by rw[map_nil]at r;cases r;exact .nil
 |k::ks,_,r=>by
  cases r with
  |cons h t=>exact .cons (mG h) (oR t)
abbrev KT(H:Hp):List (List Key×V)->List (List Key×Addr×Value)->Prop:=Paired λp q=>p.1=q.1/\H q.2.1=some (.tup (p.1.map kV))/\aD p.2 q.2.2
theorem KT.val(r:KT H kvs xs)(k):lS (ja kvs k) ((atKey xs k).map (·.2)):=by
 induction r with
 |nil=>exact True.intro
 | @cons p q ps J h t ih =>
  obtain⟨h1,_,h2⟩:=h;by_cases e:p.1=k
  .have U:=h1.symm.trans e;have b:atKey (q::J) k=some q.2:=by simp[atKey,find?_cons,U]
   rw[mE e,b];exact h2
  .have U:¬ q.1=k:=λz=>e (h1.trans z)
   have b:atKey (q::J) k=atKey J k:=by simp[atKey,find?_cons,U]
   rw[mF e,b];exact ih
def KT.repl(r:KT H kvs xs)(k)(U:aD y u) :
  KT H (kvs.map λJ=>if J.1=k then(J.1,y)else J) (xs.map (putAt k u)):=by
 induction r with
 |nil=>exact .nil
 | @cons p q ps Z h t ih =>
  rw[Jq,Jq];refine .cons ?_ ih;obtain⟨h1,h2,Y⟩:=h;unfold putAt;by_cases e:p.1=k
  .rw[if_pos e,if_pos (h1.symm.trans e)];exact⟨h1,h2,U⟩
  .rw[if_neg e,if_neg (λz=>e (h1.trans z))];exact⟨h1,h2,Y⟩
theorem KT.put(r:KT H kvs xs)(k)(J:H b=some (.tup (k.map kV)))(z:aD y u) :
  KT H (f_ kvs k y) (storedH xs k b u):=by
 have e:(kvs.any λU=>decide (U.1=k))=(atKey xs k).isSome:=by
  rw[re,(r.val k).isSome_eq,isSome_map]
 unfold f_ storedH;rw[e];by_cases q:(atKey xs k).isSome=true
 .rw[if_pos q,if_pos q];exact r.repl k z
 .rw[if_neg q,if_neg q];exact Paired.snoc r ⟨rfl,J,z⟩
def KT.keeps(r:KT H kvs xs)(J:∀b ys,H b=some (.tup ys)->H' b=some (.tup ys)):KT H' kvs xs:=
 Paired.mapP r λ_ _ z=>⟨z.1,J _ _ z.2.1,z.2.2⟩
section
variable{P:Program}{w:World}{H:Hp}{h:Heap}{a:Addr}
def CK(ok:HOk P w H h)(e:Rd H a u):bE P w H h a u:=e.ok ok
def jf(ok:HOk P w H h)(e:Rd H a (.dK kvs)):kvs.length<=sizeLine/\(a==sysModules)=false/\∃vs,KV kvs vs/\h.DictOf (bz P w) a vs:=
 show bE P w H h a (.dK kvs)from CK ok e
def CL(ok:HOk P w H h)(e:H a=some (.dK kvs)):kvs.length<=sizeLine/\(a==sysModules)=false/\∃vs,KV kvs vs/\h.DictOf (bz P w) a vs:=jf ok (.inl e)
def kK(ok:HOk P w H h)(e:H a=some (.tup (ks.map kV))):(tupleKind (bz P w)).is h ks a:=by
 obtain⟨_,its,r,o,h1,h2,n,z⟩:=(show bE P w H h a _ from ok a _ e);exact⟨o,its.toArray,n,h1,h2,z,by simpa using oR r⟩
def lw(ok:HOk P w H h)(e:Rd H a (.dT kvs)):kvs.length<=sizeLine/\(a==sysModules)=false /\
  ∃xs,KT H kvs xs/\h.DictOfH (tupleKind (bz P w)) a xs:=by
 refine az λZq U=>?_
 obtain⟨z,y,xs,r,o,es,ep,h1,h2,Y,Z,h5⟩:=(show bE P w H h a _ from CK ok e);refine U ?_;refine⟨z,y,xs,r,o,es,ep,h1,h2,Y,Z,λx hx=>?_,h5⟩;have all:∀{l}{m},KT H l m->∀x∈m,(tupleKind (bz P w)).is h x.1 x.2.1:=by
  intro l m q
  induction q with
  |nil=>intro x hx;exact nomatch hx
  | @cons p q ps qs J t ih =>
   intro x hx;rcases Jp.mp hx with e|hx
   .subst e;exact kK ok (by rw[<- J.1];exact J.2.1)
   .exact ih x hx
 exact all r x hx
def GD(ok:HOk P w H h)(e:H a=some (.dT kvs)):kvs.length<=sizeLine/\(a==sysModules)=false /\
  ∃xs,KT H kvs xs/\h.DictOfH (tupleKind (bz P w)) a xs:=lw ok (.inl e)
end
def mH(H:Hp)(a:Addr)(y:V)(r:Option V):Prop:=
 (∃kvs k,Rd H a (.dK kvs)/\y=kV k/\r=ja kvs k)\/∃kvs k b,Rd H a (.dT kvs)/\y=.ref b/\H b=some (.tup (k.map kV))/\r=ja kvs k
def mI(H:Hp)(a:Addr)(y v:V)(H':Hp):Prop:=
 (∃kvs k,H a=some (.dK kvs)/\y=kV k/\kvs.length<sizeLine/\H'=upd H a (.dK (f_ kvs k v))) \/
 ∃kvs k b,H a=some (.dT kvs)/\y=.ref b/\H b=some (.tup (k.map kV))/\kvs.length<sizeLine/\H'=upd H a (.dT (f_ kvs k v))
theorem mI.k{k:Key}{v:V}(e:H a=some (.dK kvs))(z:kvs.length<sizeLine):mI H a (kV k) v (upd H a (.dK (f_ kvs k v))):=.inl ⟨kvs,k,e,rfl,z,rfl⟩
theorem mI.t{k:List Key}{v:V}(e:H a=some (.dT kvs))(z:H b=some (.tup (k.map kV)))(J:kvs.length<sizeLine) :
  mI H a (.ref b) v (upd H a (.dT (f_ kvs k v))):=.inr ⟨kvs,k,b,e,rfl,z,J,rfl⟩
section
variable{X:Cx}{pins:List (Addr×Obj)}{σ:St}{H:Hp}{s:Shared}{a:Addr}{y v:V}{u r:Value}{o:Option V}{A:Around}{E:Value->Shared->Prop}
theorem Inv.big(I:Inv X pins σ H s):sysModules<s.heap.objs.size:=by
 have h:=(I.mod.glob.keeps I.bk).lt;exact Mm (by decide) h
def wu(hu:A.units+1<cLine)(I:Inv X pins σ H s)(g:mH H a y (some v))(ry:aD y u)(h:∀Y s',Inv X pins σ H s'->aD v Y->Q Y s') :
  wpAny (model X.prog X.w) A (getItem (.ref a) u) Q E s:=by
 rcases g with⟨kvs,k,e,Z,l⟩|⟨kvs,k,b,e,Z,eb,l⟩
 .subst Z;obtain⟨z,hd,vs,J,dd⟩:=jf I.hok e;obtain⟨Y,hw,U⟩:=lS.some_of (by rw[l];exact J.val k);exact wpAny_getItem_of (mG ry) dd.mapOf hw (h Y _ (I.tok _) U)
 .subst Z;cases (show u=Value.ref b from ry);obtain⟨z,hd,xs,J,dd⟩:=lw I.hok e;obtain⟨Y,hw,U⟩:=lS.some_of (o:=(atKey xs k).map _) (by rw[l];exact J.val k);obtain⟨p,hp,ao⟩:=p0.mp hw;refine wpAny_getItem_heap (KZ hu) (kK I.hok eb) dd hp ?_;rw[ao];exact h Y _ (I.tok _) U
def IQ(Z:A.units+1<cLine)(I:Inv X pins σ H s)(g:mH H a y o)(Y:aD y u)(h:∀s',Inv X pins σ H s'->Q (.bool o.isSome) s') :
  wpAny (model X.prog X.w) A (compareOp .In u (.ref a)) Q E s:=by
 rcases g with⟨kvs,k,e,U,l⟩|⟨kvs,k,b,e,U,eb,l⟩
 .subst U;obtain⟨z,hd,vs,J,dd⟩:=jf I.hok e;refine wpAny_in_of (mG Y) hd dd.mapOf ?_;rw[<- (J.val k).isSome_eq,<- l];exact h _ (I.tok _)
 .subst U;cases (show u=Value.ref b from Y);obtain⟨z,hd,xs,J,dd⟩:=lw I.hok e;refine wpAny_in_heap (KZ Z) (kK I.hok eb) hd dd ?_;have q:=(J.val k).isSome_eq;rw[isSome_map]at q;rw[<- q,<- l];exact h _ (I.tok _)
def Bf(Z:A.units+1<cLine)(I:Inv X pins σ H s)(g:mH H a y o)(Y:aD y u)(h:∀s',Inv X pins σ H s'->Q (.bool (!o.isSome)) s') :
  wpAny (model X.prog X.w) A (compareOp .NotIn u (.ref a)) Q E s:=by
 rcases g with⟨kvs,k,e,U,l⟩|⟨kvs,k,b,e,U,eb,l⟩
 .subst U;obtain⟨z,hd,vs,J,dd⟩:=jf I.hok e;refine wpAny_notIn_of (mG Y) hd dd.mapOf ?_;rw[<- (J.val k).isSome_eq,<- l];exact h _ (I.tok _)
 .subst U;cases (show u=Value.ref b from Y);obtain⟨z,hd,xs,J,dd⟩:=lw I.hok e;refine wpAny_notIn_heap (KZ Z) (kK I.hok eb) hd dd ?_;have q:=(J.val k).isSome_eq;rw[isSome_map]at q;rw[<- q,<- l];exact h _ (I.tok _)
def pW(I:Inv X pins σ H s)(U:Mut (H a))(hs:Heap.SameBut a s.heap h')(Y:∃q,h'.get? a=some q)(new:bE X.prog X.w (upd H a J) h' a J) :
  Inv X pins σ (upd H a J) { s with heap:=h',toks:=t' }:=
 I.write (x:=a) (e:=a) U (.inl rfl) (λb q Z z=>(hs.2 b Z).trans z) Y new
def x_(z:kvs.length<=sizeLine)(hd:(a==sysModules)=false)(J:KV kvs vs)(dd:h'.DictOf (bz P w) a vs) :
  bE P w H' h' a (.dK kvs):=⟨z,hd,vs,J,dd⟩
def wv(hu:A.units+1<cLine)(I:Inv X pins σ H s)(g:mI H a y v H')(ry:aD y u)(rv:aD v r)(h:∀s',Inv X pins σ H' s'->Q () s') :
  wpAny (model X.prog X.w) A (setItem (.ref a) u r) Q E s:=by
 rcases g with⟨kvs,k,e,Z,l,eH⟩|⟨kvs,k,b,e,Z,eb,l,eH⟩
 .subst Z eH;obtain⟨z,hd,vs,J,dd⟩:=CL I.hok e;have hz:vs.length<=sizeLine:=by rw[<- J.length];exact z
  have hl:(f_ kvs k v).length<=sizeLine:=by have:=iC kvs k v;omega
  refine wpAny_setItem_pairs (mG ry) dd λh' U hs=>h _ ?_
  have he:∃q,h'.get? a=some q:=let ⟨q,_,_,Y,_⟩:=U;⟨q,Y⟩
  exact pW I (by rw[e];exact True.intro) hs he (x_ hl hd (J.put k rv) U)
 .subst Z eH;cases (show u=Value.ref b from ry);obtain⟨z,hd,xs,J,dd⟩:=GD I.hok e;have hz:xs.length<=sizeLine:=by rw[<- Paired.length J];exact z
  have hl:(f_ kvs k v).length<=sizeLine:=by have:=iC kvs k v;omega
  refine wpAny_setItem_heap (KZ hu) (kK I.hok eb) dd λh' U hs=>h _ ?_
  refine az λZq kq=>?_
  obtain⟨q,es,ep,Y,h2,h3,h4,_,h5⟩:=U;refine kq ?_;refine pW I (by rw[e];exact True.intro) hs ⟨q,Y⟩ ⟨hl,hd,_,(J.put k eb rv).keeps λc ys ec=>?_,q,es,ep,Y,h2,h3,h4,h5⟩;rw[aZ (F3 ec e (λz=>nomatch z))];exact ec
end
section
variable{X:Cx}{pins:List (Addr×Obj)}{σ:St}{H:Hp}{s:Shared}{a:Addr}{kvs:List (Key×V)}{k:Key}{u:Value}{A:Around}{E:Value->Shared->Prop}
end
def GE(i:Expr):Prop:=∀z J,subscripted i false z J=operate [z,J] (getItem z J)
def Bg{T id:String} 
  (hl:typeLookup (.type T) "__getitem__"=pure (some (.builtin id))) (hs:GE slice)
  (h:wpAny (model prog w) A (eval value env) (λo U=>wpAny (model prog w) A (eval slice env) (λi z=>z.TypeIs o T/\wpAny (model prog w) A (getItem o i) Q E z) E U) E s) :
  wpAny (model prog w) A (eval (.Subscript value slice pos) env) Q E s:=by
 refine Subscript_ (JR h (λo U Z=>JR Z (λi z J=>?_) λ_ _ x=>x) λ_ _ x=>x);obtain⟨hT,J⟩:=J;refine gf ?_;refine gf (LP hT hl ?_);have fin:wpAny (model prog w) A (subscripted slice false o i) (λr Y=>wpAny (model prog w) A (letTemporaryGo value o r >>= λ_=>pure r) Q E Y) E z:=by
  rw[hs o i];exact wpAny_operating (JR J (λr Y ao=>gf (wpAny_letTemporaryGo (gQ ao))) λ_ _ x=>x)
 first
  | exact gQ (gf fin)
  | exact gf (gQ _)
  | exact gf fin
def rf (I:Inv X pins σ H s) (g:mH H a y o):s.TypeIs (.ref a) "dict":=by
 rcases g with⟨kvs,k,e,_,_⟩|⟨kvs,k,b,e,_,_,_⟩
 .obtain⟨_,_,vs,_,dd⟩:=jf I.hok e;exact dd.typeIs
 .obtain⟨_,_,xs,_,dd⟩:=lw I.hok e;exact dd.typeIs
noncomputable def GF(td ty:TE):TE:=λσ H Q=>td σ H λx H1=>ty σ H1 λy H2=>∃a v,x=.ref a/\mH H2 a y (some v)/\Q v H2
noncomputable def IR(ty td:TE):TE:=λσ H Q=>ty σ H λy H1=>td σ H1 λx H2=>∃a o,x=.ref a/\mH H2 a y o/\Q (.bl o.isSome) H2
noncomputable def Bh(ty td:TE):TE:=λσ H Q=>ty σ H λy H1=>td σ H1 λx H2=>∃a o,x=.ref a/\mH H2 a y o/\Q (.bl (!o.isSome)) H2
noncomputable def GG(td ty tv:TE):TS:=λD σ H=>tv σ H λv H1=>td σ H1 λx H2=>ty σ H2 λy J=>∃a z,x=.ref a/\mI J a y v z/\D.nx σ z
section
variable{X:Cx}{o i e value:Expr}{pos pos' tpos:Pos}{td ty tv:TE}
def u3(U:X.A.units+1<cLine)(ho:PE X o td)(hi:PE X i ty)(hs:GE i):PE X (.Subscript o i pos) (GF td ty):=by
 intro pins s σ H Q I h;refine Bg PySem.F.slot_dict_getitem.lookup hs (thn (ho pins s σ H _ I h) λu Y ⟨x,H1,Z,rx,q1⟩=>thn (hi pins Y σ H1 _ Z q1) λiv s2 ⟨y,H2,J,ry,a,v,ex,g,q2⟩=>?_);subst ex;obtain rfl:u=Value.ref a:=rx;exact⟨rf J g,wu U J g ry λw' s3 I3 z=>⟨v,H2,I3,z,q2⟩⟩
def ya(z:X.A.units+1<cLine)(hi:PE X i ty)(ho:PE X o td):PC X .In i o (IR ty td):=by
 intro pins s σ H Q I h;refine thn (hi pins s σ H _ I h) λiv J ⟨y,H1,U,Y,Z⟩=>thn (ho pins J σ H1 _ U Z) λu s2 ⟨x,H2,I2,rx,a,ov,ex,g,q2⟩=>?_
 subst ex;obtain rfl:u=Value.ref a:=rx;exact IQ z I2 g Y λs3 I3=>⟨.bl ov.isSome,H2,I3,rfl,q2⟩
def oS(z:X.A.units+1<cLine)(hi:PE X i ty)(ho:PE X o td):PC X .NotIn i o (Bh ty td):=by
 intro pins s σ H Q I h;refine thn (hi pins s σ H _ I h) λiv J ⟨y,H1,U,Y,Z⟩=>thn (ho pins J σ H1 _ U Z) λu s2 ⟨x,H2,I2,rx,a,ov,ex,g,q2⟩=>?_
 subst ex;obtain rfl:u=Value.ref a:=rx;exact Bf z I2 g Y λs3 I3=>⟨.bl _,H2,I3,rfl,q2⟩
def Bi(z:X.A.units+1<cLine)(ho:PE X o td)(hi:PE X i ty)(hv:PE X value tv)(hs:swapsWith value (some (.Subscript o i pos')) pos.line X.env=pure false) :
  PS X (.Assign [.Subscript o i pos'] value pos) (GG td ty tv):=by
 intro pins s σ H D I h;refine wpAny_Assign_Subscript (thn (hv pins s σ H _ I h) λr J ⟨v,H1,U,Y,Z⟩=>thn (ho pins J σ H1 _ U Z) λu s2 ⟨x,H2,I2,rx,q2⟩=>thn (hi pins s2 σ H2 _ I2 q2) λiv s3 ⟨y,H3,I3,ry,a,H4,ex,g,q3⟩=>?_) hs;subst ex;obtain rfl:u=Value.ref a:=rx;exact wv z I3 g ry Y λs4 I4=>⟨σ,H4,I4,q3⟩
end
def rg (h:Heap) (z:sysModules<h.objs.size):bE P w H (h.push { cls:=.type "dict",data:=.dict #[] }) h.objs.size (.dK []):=
 ⟨JZ _,KS.mpr (KW (Jr z)),[],.nil,Heap.DictOf.new h⟩
def yb (h:Heap) (z:sysModules<h.objs.size):bE P w H (h.push { cls:=.type "dict",data:=.dict #[] }) h.objs.size (.dT []):=
 ⟨JZ _,KS.mpr (KW (Jr z)),[],.nil,_,#[],0,uw _ rfl,⟨rfl,rfl,rfl⟩,rfl,rfl,Ku⟩
noncomputable def DM:TE:=λ_ H Q=>∀p,H p=none->Q (.ref p) (upd H p (.dK []))
noncomputable def DN:TE:=λ_ H Q=>∀p,H p=none->Q (.ref p) (upd H p (.dT []))
section
variable{X:Cx}{pos:Pos}
def yc:PE X (.Dict [] [] pos) DM:=λpins s σ H Q I h =>
 wpAny_Dict_empty ⟨.ref s.heap.objs.size,_,I.laid (a:=s.heap.objs.size) (o:=.dK []) (t':=s.toks) (λ_ _ q=>g4 _ q) (pd _) (rg s.heap I.big),rfl,h _ (I.hok.fresh (pd _))⟩
def yd:PE X (.Dict [] [] pos) DN:=λpins s σ H Q I h =>
 wpAny_Dict_empty ⟨.ref s.heap.objs.size,_,I.laid (a:=s.heap.objs.size) (o:=.dT []) (t':=s.toks) (λ_ _ q=>g4 _ q) (pd _) (yb s.heap I.big),rfl,h _ (I.hok.fresh (pd _))⟩
end
def pX:List (TE×TE)->St->Hp->(List (V×V)->Hp->Prop)->Prop
 | [],_,H,Q=>Q [] H
 | (tk,tv)::r,σ,H,Q=>tk σ H λx H1=>tv σ H1 λy H2=>pX r σ H2 λps z=>Q ((x,y)::ps) z
abbrev VV:List (V×V)->List (Value×Value)->Prop:=Paired λp q=>aD p.1 q.1/\aD p.2 q.2
def PPs(X:Cx)(pos:Pos)(keys:List (Option Expr))(z:List Expr)(J:List (TE×TE)):Prop:=
 ∀pins s (σ:St) H Q,Inv X pins σ H s->pX J σ H Q ->
  wpAny (model X.prog X.w) X.A (evalPairs (pairTrees keys z X.env pos)) (λvs s'=>∃ps H',Inv X pins σ H' s'/\VV ps vs/\Q ps H') X.xe s
def Bj :PPs X pos [] [] []:=λpins s σ H Q I h=>pairTrees_nil_walk ⟨[],H,I,.nil,h⟩
def ye(U:PE X k tk)(hv:PE X v tv)(Y:PPs X pos ks vs z) :
  PPs X pos (some k::ks) (v::vs) ((tk,tv)::z):=λpins s σ H Q I h =>
 pairTrees_cons_walk (thn (U pins s σ H _ I h) λu Z ⟨x,H1,I1,rx,q1⟩=>thn (hv pins Z σ H1 _ I1 q1) λw2 s2 ⟨y,H2,I2,ry,q2⟩ =>
  thn (Y pins s2 σ H2 _ I2 q2) λws s3 ⟨ps,H3,I3,J,q3⟩=>⟨(x,y)::ps,H3,I3,.cons ⟨rx,ry⟩ J,q3⟩)
noncomputable def iD(kvs z:List (Key×V)):List (Key×V):=z.foldl (λacc J=>f_ acc J.1 J.2) kvs
def KV.merge:∀{z}{J}{kvs}{vs},KV z J->KV kvs vs->KV (iD kvs z) (merged vs J):=by
 intro z J kvs vs r
 induction r generalizing kvs vs with
 |nil=>intro q;exact q
 | @cons p q ps Y h t ih =>
  intro U;have e:KV (f_ kvs p.1 p.2) (stored vs q.1 q.2):=by
   have:=U.put p.1 h.2;rw[<- h.1];exact this
  exact ih e
theorem jg:∀z kvs,(iD kvs z).length<=kvs.length+z.length
 | [],kvs=>by show kvs.length<=kvs.length+0;omega
 |p::r,kvs=>by
  have h1:=jg r (f_ kvs p.1 p.2);have h2:=iC kvs p.1 p.2;show(iD (f_ kvs p.1 p.2) r).length<=_
  grind
theorem mJ :∀{kvs}{J},VV (kvs.map λU=>(kV U.1,U.2)) J->∃z,Carries (bz P w) J z/\KV kvs z
 | [],_,r=>by rw[map_nil]at r;cases r;exact⟨[],True.intro,.nil⟩
 |p::kvs,_,r=>by
  cases r with
  | @cons a b as bs h t =>
   obtain⟨z,c,q⟩:=mJ (P:=P) (w:=w) t;obtain⟨Z,Y⟩:=b;exact⟨(p.1,Y)::z,⟨mG h.1,rfl,c⟩,.cons ⟨rfl,h.2⟩ q⟩
noncomputable def GH(z:List (TE×TE)):TE:=λσ H Q=>∀p,H p=none->pX z σ (upd H p (.dK [])) λps H2=>H2 p=some (.dK [])/\∃kvs,ps=kvs.map (λJ=>(kV J.1,J.2))/\kvs.length<=15/\Q (.ref p) (upd H2 p (.dK (iD [] kvs)))
def Bk(h:PPs X pos keys values Y)(J:keys.all (·.isSome)=true)(hl:keys.length=values.length)(h0:keys≠[])
  (Z:keys.length<=15):PE X (.Dict keys values pos) (GH Y):=by
 intro pins s σ H Q I q;have hn:=I.hok.fresh (pd s.heap.objs.size);have I1:=I.laid (t':=s.toks) (λ_ _ q=>g4 _ q) (pd _) (rg s.heap I.big);refine wpAny_Dict_walk (knd:=bz X.prog X.w) J hl h0 Z (thn (h pins _ σ _ _ I1 (q _ hn)) λws s2 ⟨ps,H2,I2,ao,e,kvs,ep,lk,q2⟩=>?_);refine az λZq kq=>?_
 subst ep;obtain⟨rs,c,rk⟩:=mJ ao;obtain⟨z,hd,a8,r0,dd⟩:=CL I2.hok e;cases r0;refine kq ?_;refine⟨rs,c,dd,λh' U hs=>⟨.ref s.heap.objs.size,_,?_,rfl,q2⟩⟩;have hz:(iD [] kvs).length<=sizeLine:=by
  have h1:=jg kvs [];rw[length_nil]at h1;rw[JS];omega
 have he:∃q,h'.get? s.heap.objs.size=some q:=let ⟨q,_,_,hq,_⟩:=U;⟨q,hq⟩
 exact pW I2 (by rw[e];exact True.intro) hs he (x_ hz hd (rk.merge .nil) U)
structure M2(X:Cx)(o:Expr)(m:Str)(apos:Pos)(e f:Expr)(cpos:Pos):Prop where
 base:attributeBase o m X.env (eval o X.env)=eval o X.env
 few:((backTo cpos (starEach [e,f] X.env)).all (λx=>!x.1)&&(backToKw cpos (keywordEach [] X.env)).all (λx=>x.1.isSome)
 &&decide (([e,f]:List Expr).length+([]:List Keyword).length+(if ([]:List Keyword).isEmpty then 0 else 1)<30))=true
 line:(apos.endLine==cpos.line)=true
 trees:backTo cpos (starEach [e,f] X.env)=[(false,eval e X.env),(false,eval f X.env)]
def IsD(H:Hp)(a:Addr):Prop:=(∃kvs,Rd H a (.dK kvs))\/∃kvs,Rd H a (.dT kvs)
def tK(I:Inv X pins σ H s)(d:IsD H a) :
  s.TypeIs (.ref a) "dict"/\(∀b,Value.ref a=.ref b->∃z,s.heap.get? b=some z/\z.dict=none)/\(a==sysModules)=false:=by
 rcases d with⟨kvs,e⟩|⟨kvs,e⟩
 .obtain⟨_,hd,vs,_,dd⟩:=jf I.hok e;refine⟨dd.typeIs,λb q=>?_,hd⟩;cases q;obtain⟨z,_,_,h1,h2,_⟩:=dd;exact⟨z,h1,h2.2.1⟩
 .obtain⟨_,hd,xs,_,dd⟩:=lw I.hok e;refine⟨dd.typeIs,λb q=>?_,hd⟩;cases q;obtain⟨z,_,_,h1,h2,_⟩:=dd;exact⟨z,h1,h2.2.1⟩
section
variable{X:Cx}{pins:List (Addr×Obj)}{σ:St}{H:Hp}{s:Shared}{a:Addr}{y d:V}{u r:Value}{o:Option V}{A:Around}{E:Value->Shared->Prop}
def DO(hu:A.units+1<cLine)(I:Inv X pins σ H s)(g:mH H a y o)(Y:aD y u)(rd:aD d r)(h:∀Z s',Inv X pins σ H s'->aD (o.getD d) Z->Q Z s') :
  wpAny (model X.prog X.w) A (call (.builtin "dict.get") [.ref a,u,r]) Q E s:=by
 rcases g with⟨kvs,k,e,U,l⟩|⟨kvs,k,b,e,U,eb,l⟩
 .subst U;obtain⟨z,hd,vs,J,dd⟩:=jf I.hok e;refine call_meetsIn PySem.F.slot_dict_get dd.typeIs PySem.F.entry_dict_get (PySem.F.args_dict_get_3 _ _ _) (meets_dict_get_default _ a (mG Y) hd r) ⟨_,dd.mapOf,h _ _ (I.tok _) ?_⟩;rw[l];exact(J.val k).getD rd
 .subst U;cases (show u=Value.ref b from Y);obtain⟨z,hd,xs,J,dd⟩:=lw I.hok e;refine call_meetsIn PySem.F.slot_dict_get dd.typeIs PySem.F.entry_dict_get (PySem.F.args_dict_get_3 _ _ _) (meetsH_dict_get_default (tupleKind _) a b hd r) ⟨KZ hu,k,xs,kK I.hok eb,dd,h _ _ (I.tok _) ?_⟩;rw[l];exact(J.val k).getD rd
end
noncomputable def DP(td ty tx:TE):TE:=λσ H Q=>td σ H λx H1=>∃a,x=.ref a/\IsD H1 a/\ty σ H1 λy H2=>tx σ H2 λz J=>∃o,mH J a y o/\Q (o.getD z) J
section
variable{X:Cx}{o e f:Expr}{apos cpos:Pos}{td ty tx:TE}
def yf (Y:X.A.units+1<cLine) (ho:PE X o td) (Z:PE X e ty) (hf:PE X f tx) (m:M2 X o "get" apos e f cpos):PE X (.Call (.Attribute o "get" apos) [e,f] [] cpos) (DP td ty tx):=by
 intro pins s σ H Q I h;refine wpAny_Call_method m.base m.few m.line PySem.F.plainAttrs_dict PySem.F.slot_dict_get PySem.F.type_dict_get (thn (ho pins s σ H _ I h) λu s1 ⟨x,H1,U,rx,a,ex,d,q1⟩=>?_);subst ex;obtain rfl:u=Value.ref a:=rx;obtain⟨t1,t2,_⟩:=tK U d;refine⟨t1,t2,?_⟩;rw[m.trees];refine K4 rfl (Calls.evalArgs_plain (Lu (thn (Z pins s1 σ H1 _ U q1) λiv s2 ⟨y,H2,I2,ry,q2⟩ =>
  Lu (thn (hf pins s2 σ H2 _ I2 q2) λfv s3 ⟨z,H3,I3,rz,ov,g,q3⟩=>Md ?_))))
 exact DO Y I3 g ry rz λw' s4 I4 J=>⟨_,H3,I4,J,q3⟩
end
section
variable{X:Cx}{pins:List (Addr×Obj)}{σ:St}{H:Hp}{s:Shared}{a:Addr}{kvs:List (Key×V)}{A:Around}{E:Value->Shared->Prop}
end
section
variable{X:Cx}{pins:List (Addr×Obj)}{σ:St}{H:Hp}{s:Shared}{a:Addr}{y:V}{u:Value}{A:Around}{E:Value->Shared->Prop}
end
end L2
namespace L2.Srt
open PySem PySem.W PyProof.Rows List Option
section
variable{O:KeyOrd}{key:Nat->O.α}{N:Nat}{cmp:Nat->Nat->(Bool->Shared->Prop)->Shared->Prop}{s:Shared}
noncomputable def kk(key:Nat->O.α)(p:Array Nat)(i:Nat):O.α:=key (p.getD i 0)
def fw(key:Nat->O.α)(p:Array Nat)(k:Nat):Prop:=∀i j,i<=j->j<k->O.kle (kk key p i) (kk key p j)
def rh(key:Nat->O.α)(p:Array Nat)(k:Nat):Prop:=∀i j,i<=j->j<k->O.kle (kk key p j) (kk key p i)
def PB(N:Nat)(p:Array Nat):Prop:=p.Perm (range N).toArray
theorem PB.size(h:PB N p):p.size=N:=by have:=h.size_eq;simpa using this
theorem PB.lt(h:PB N p)(hi:i<N):p.getD i 0<N:=by
 have hs:i<p.size:=by rw[h.size];exact hi
 have z:p[i]∈(range N):=by
  have e:=(Li.mp h).mem_iff (a:=p[i])
  simp_all
 simp_all
theorem PB.rev(h:PB N p)(i j):PB N (kas_rev p i j):=(mirror_perm _ _ _ _).trans h
theorem PB.bub(h:PB N p)(i j):PB N (bubble p i j):=(bubble_perm _ _ _).trans h
def iE(h:p[i]?=q[j]?):kk key p i=kk key q j:=by
 unfold kk;rw[Kz,Kz,h]
def oT(hs:src<p.size)(hd:d<=src)(k) :
  kk key (bubble p src d) k=if k=src-d then kk key p src else if src-d<k/\k<=src then kk key p (k-1)else kk key p k:=by
 have e:=getElem?_bubble hs d hd k;by_cases h1:k=src-d
 .rw[if_pos h1]at e ⊢;exact iE e
 .rw[if_neg h1]at e ⊢;by_cases h2:src-d<k/\k<=src
  .rw[if_pos h2]at e ⊢;exact iE e
  .rw[if_neg h2]at e ⊢;exact iE e
def tL(z:j<=p.size)(k) :
  kk key (kas_rev p i j) k=if i<=k/\k<j then kk key p (i+j-1-k)else kk key p k:=by
 have e:=getElem?_mirror_all (i:=i) z k;by_cases h1:i<=k/\k<j
 .rw[if_pos h1]at e ⊢;exact iE e
 .rw[if_neg h1]at e ⊢;exact iE e
def db(z:j<=p.size)(J:∀k,i<=k->k<j->kk key p k=kk key p (j-1))(k) :
  kk key (kas_rev p i j) k=kk key p k:=by
 rw[tL z]
 grind
variable(hc:∀a b C,a<N->b<N->C (O.blt (key a) (key b)) s->cmp a b C s)
include hc
def rj{Q:α->Shared->Prop}(z:PB N p)(hi:i<N)(J:j<N)
  (h:(k (O.blt (kk key p i) (kk key p j))).kasWp cmp Q s):(KasT.ask (p.getD i 0) (p.getD j 0) k).kasWp cmp Q s:=
 hc _ _ _ (z.lt hi) (z.lt J) h
theorem yg(hp:PB N p)(hn:z<=N):∀f n,n+f=z->1<=n->fw key p n ->
  (∀m,n<=m->m<=z->fw key p m->(m=z\/O.klt (kk key p m) (kk key p (m-1)))->Q m s)->(kas_asc p f n).kasWp cmp Q s
 |0,n,e,h1,hs,h=>h n (pd _) (by omega) hs (.inl (by omega))
 |f+1,n,e,h1,hs,h=>by
  refine rj hc hp (by omega) (by omega) ?_;cases J:O.blt (kk key p n) (kk key p (n-1))with
  |true =>
   exact h n (pd _) (by omega) hs (.inr J)
  |false =>
   refine yg hp hn f (n+1) (by omega) (by omega) (λi j U hj=>?_) λm a b c d=>h m (by omega) b c d
   by_cases Y:j<n
   .exact hs i j U Y
   .have Z:j=n:=by omega
    subst Z;by_cases ao:i=j
    .subst ao;exact Kj _
    .exact Le (hs i _ (by omega) (by omega)) J
def u4{n z:Nat}{Q:Nat×Array Nat->Shared->Prop}(J:PB N p)(Y:z<=N)(h1:1<=n)(Z:n<=z)(hs:rh key p n)
  (h:∀m U,PB N U->1<=m->m<=z->fw key U m->Q (m,U) s):(kas_tail3 n z p).kasWp cmp Q s:=by
 unfold kas_tail3;rw[Lm];have hz:n<=p.size:=by rw[J.size];omega
 refine yg hc (J.rev 0 n) Y _ n (by omega) h1 (λi j ao hj=>?_) λm a b c _=>h m _ (J.rev 0 n) (by omega) b c
 rw[tL hz,tL hz,if_pos (by omega),if_pos (by omega)];exact hs _ _ (by omega) (by omega)
theorem pY(hn:aO<=N):∀f p n q,n+f=aO->PB N p->rh key p n->q+1<=n ->
  (∀i,n-(q+1)<=i->i<n->kk key p i=kk key p (n-1)) ->
  (∀z m Z,n<=m->m<=aO->PB N z->rh key z m->Z+1<=m->(∀i,m-(Z+1)<=i->i<m->kk key z i=kk key z (m-1))->Q (z,m,Z) s) ->
  (kas_desc f p n q).kasWp cmp Q s
 |0,p,n,q,e,hp,hs,hq,he,h=>h p n q (pd _) (by omega) hp hs hq he
 |f+1,p,n,q,e,hp,hs,hq,he,h=>by
  show(KasT.ask (p.getD n 0) (p.getD (n-1) 0) λc =>
   if c=true then(if q > 0 then kas_desc f (kas_rev p (n-(q+1)) n) (n+1) 0 else kas_desc f p (n+1) 0)
   else .ask (p.getD (n-1) 0) (p.getD n 0) λd=>if d=true then .ret (p,n,q)else kas_desc f p (n+1) (q+1)).kasWp cmp Q s
  have hz:n<=p.size:=by rw[hp.size];omega
  refine rj hc hp (by omega) (by omega) ?_;cases J:O.blt (kk key p n) (kk key p (n-1))with
  |true =>
   rw[if_pos rfl];have U:∀z,(∀k,kk key z k=kk key p k)->rh key z (n+1):=by
    intro z hk i j a1 hj;rw[hk,hk];by_cases a2:j<n
    .exact hs i j a1 a2
    .have a3:j=n:=by omega
     subst a3;by_cases a4:i=j
     .subst a4;exact Kj _
     .exact Le (K7 J) (hs i (j-1) (by omega) (by omega))
   by_cases a0:q > 0
   .rw[if_pos a0];exact pY hn f _ (n+1) 0 (by omega) (hp.rev _ _) (U _ (db hz he)) (by omega) (λi a b=>by congr 1;omega)
     λz m Z a=>h z m Z (by omega)
   .rw[if_neg a0];exact pY hn f p (n+1) 0 (by omega) hp (U _ λ_=>rfl) (by omega) (λi a b=>by congr 1;omega) λz m Z a=>h z m Z (by omega)
  |false =>
   rw[if_neg (by simp)];refine rj hc hp (by omega) (by omega) ?_;cases Y:O.blt (kk key p (n-1)) (kk key p n)with
   |true =>
    rw[if_pos rfl];exact h p n q (pd _) (by omega) hp hs hq he
   |false =>
    rw[if_neg (by simp)];have a5:=KeyOrd.kle_antisymm Y J;refine pY hn f p (n+1) (q+1) (by omega) hp (λi j a1 hj=>?_) (by omega) (λi a b=>?_) λz m Z a=>h z m Z (by omega)
    .by_cases a2:j<n
     .exact hs i j a1 a2
     .have a3:j=n:=by omega
      subst a3;by_cases a4:i=j
      .subst a4;exact Kj _
      .rw[a5];exact hs i (j-1) (by omega) (by omega)
    .grind
def mK{n z:Nat}{Q:Nat×Array Nat->Shared->Prop}(hp:PB N p)(hn:z<=N)(a3:n+1<=z)(hs:rh key p (n+1))
  (h:∀m Y,PB N Y->1<=m->m<=z->fw key Y m->Q (m,Y) s):(kas_descPart n z p).kasWp cmp Q s:=by
 unfold kas_descPart;rw[Lm];refine pY hc hn (z-_) p _ 0 (by omega) hp hs (by omega) (λi a b=>by congr 1;omega) λY m q' a5 Z U ao hq he=>?_
 dsimp only;have hz:m<=Y.size:=by rw[U.size];omega
 by_cases J:q' > 0
 .rw[if_pos J];refine u4 hc (U.rev _ _) hn (by omega) Z (λi j a0 hj=>?_) h;rw[db hz he,db hz he];exact ao i j a0 hj
 .rw[if_neg J];exact u4 hc U hn (by omega) Z ao h
def Bl(Y:PB N p)(hn:z<=N)(h1:1<=z)
  (h:∀m p',PB N p'->1<=m->m<=z->fw key p' m->Q (m,p') s):(kas_count z p).kasWp cmp Q s:=by
 unfold kas_count;rw[Lm];refine yg hc Y hn (z-1) 1 (by omega) (pd _) (λi j a0 hj=>by have:i=j:=(by omega);subst this;exact Kj _) λn a3 a4 U b1=>?_
 by_cases Z:n=z
 .rw[if_pos (by simpa using Z)];exact h n p Y a3 a4 U
 .rw[if_neg (by simpa using Z)];have a5:=b1.resolve_left Z;by_cases a6:n > 1
  .rw[if_pos a6];refine rj hc Y (by omega) (by omega) ?_;cases ao:O.blt (kk key p 0) (kk key p (n-1))with
   |true =>
    rw[if_pos rfl];exact h n p Y a3 a4 U
   |false =>
    rw[if_neg (by simp)];have a7:n<=p.size:=by rw[Y.size];omega
    have J:∀k,0<=k->k<n->kk key p k=kk key p (n-1):=by
     intro k _ hk;have a1:=U 0 k (by omega) hk;have a2:=U k (n-1) (by omega) (by omega);exact KeyOrd.kle_antisymm a2 (Le ao a1)
    refine mK hc (Y.rev _ _) hn (by omega) (λi j a0 hj=>?_) h;rw[db a7 J,db a7 J];by_cases b2:j<n
    .rw[J i (by omega) (by omega),J j (by omega) b2];exact Kj _
    .have b3:j=n:=by omega
     subst b3;by_cases aO:i=j
     .subst aO;exact Kj _
     .rw[J i (by omega) (by omega)];exact K7 a5
  .rw[if_neg a6];have a8:n=1:=by omega
   subst a8;refine mK hc Y hn (by omega) (λi j a0 hj=>?_) h;by_cases aO:i=j
   .subst aO;exact Kj _
   .have b4:i=0:=by omega
    have b5:j=1:=by omega
    subst b4;subst b5
    exact K7 a5
theorem pZ(hp:PB N p)(hk:k<N)(hs:fw key p k):∀f l r,r-l<=f->l<=r->r<=k ->
  (∀i,i<l->O.kle (kk key p i) (kk key p k))->(∀i,r<=i->i<k->O.klt (kk key p k) (kk key p i)) ->
  (∀l,l<=k->(∀i,i<l->O.kle (kk key p i) (kk key p k))->(∀i,l<=i->i<k->O.klt (kk key p k) (kk key p i))->Q l s)->(kas_place p k f l r).kasWp cmp Q s
 |0,l,r,hf,a0,Y,J,U,h=>by
  have:l=r:=by omega
  subst this;exact h l Y J U
 |f+1,l,r,hf,a0,Y,J,U,h=>by
  show(if l>=r then KasT.ret l else .ask _ (p.getD _ 0) λc=>if c=true then kas_place p k f l _ else kas_place p k f _ r).kasWp cmp Q s;by_cases Z:l>=r
  .rw[if_pos Z];have:l=r:=by omega
   subst this;exact h l Y J U
  .rw[if_neg Z];refine rj hc hp hk (by omega) ?_;cases z:O.blt _ (kk key p _)with
   |true =>
    exact pZ hp hk hs f l _ (by omega) (by omega) (by omega) J (λi a b=>KeyOrd.klt_of_klt_of_kle z (hs _ _ a b)) h
   |false =>
    exact pZ hp hk hs f _ r (by omega) (by omega) (by omega) (λi a=>Le (hs i _ (by omega) (by omega)) (show O.kle _ _ from z)) U h
theorem CM :∀f p k,k+f=N->PB N p->fw key p k->(∀U,PB N U->fw key U N->Q U s)->(kas_bin f p k).kasWp cmp Q s
 |0,p,k,e,z,hs,h=>by
  have:k=N:=by omega
  subst this;exact h p z hs
 |f+1,p,k,e,z,hs,h=>by
  show((kas_place p k k 0 k).bind λl=>kas_bin f _ _).kasWp cmp Q s;rw[Lm];refine pZ hc z (by omega) hs k 0 k (by omega) (by omega) (by omega) (λi a=>by omega) (λi a b=>by omega) λl hl Y Z=>?_
  refine CM f _ _ (by omega) (z.bub _ _) (λi j ao hj=>?_) h;have J:k<p.size:=by rw[z.size];omega
  rw[oT J (by omega),oT J (by omega),show k-_=l by omega]
  repeat' split
  all_goals first
   | (exfalso;omega)
   | exact Kj _
   | exact Y _ (by omega)
   | exact K7 (Z _ (by omega) (by omega))
   | exact hs _ _ (by omega) (by omega)
def DQ(h1:1<=N)(h:∀p,PB N p->fw key p N->Q p s):(kas_sort N).kasWp cmp Q s:=by
 unfold kas_sort;rw[Lm];refine Bl hc (Array.Perm.refl _) (pd _) h1 λm Y z Z ao J=>?_
 by_cases U:m<N
 .rw[if_pos U,show max m 1=m by omega];exact CM hc _ _ _ (by omega) z J h
 .rw[if_neg U];have:m=N:=by omega
  subst this;exact h Y z J
end
end L2.Srt
namespace L2.Srt
open PySem PyProof.Rows List Option
theorem mL:∀a,HT.lexLt a a=false
 | []=>rfl
 |x::r=>by rw[HT.lexLt_cons,if_pos rfl];exact mL r
theorem kL:∀a b c,HT.lexLt a b=true->HT.lexLt b c=true->HT.lexLt a c=true
 | [],[],_,h,_=>by cases h
 | [],_::_,[],_,h=>by cases h
 | [],_::_,_::_,_,_=>rfl
 | _::_,[],_,h,_=>by cases h
 | _::_,_::_,[],_,h=>by cases h
 |x::a,y::b,z::c,h1,h2=>by
  rw[HT.lexLt_cons]at h1 h2 ⊢;by_cases J:x=y
  .rw[if_pos J]at h1;by_cases U:y=z
   .rw[if_pos U]at h2;rw[if_pos (J.trans U)];exact kL a b c h1 h2
   .simp_all
  .grind
theorem kM:∀a b,HT.lexLt a b=false->HT.lexLt b a=false->a=b
 | [],[],_,_=>rfl
 | [],_::_,h,_=>by cases h
 | _::_,[],_,h=>by cases h
 |x::a,y::b,h1,h2=>by
  rw[HT.lexLt_cons]at h1 h2;by_cases e:x=y
  .rw[if_pos e]at h1;rw[if_pos e.symm]at h2;rw[e,kM a b h1 h2]
  .grind
def Bm(a b c)(h:HT.lexLt a c=true):HT.lexLt a b=true\/HT.lexLt b c=true:=by
 cases h1:HT.lexLt a b with
 |true=>exact .inl rfl
 |false =>
  cases h2:HT.lexLt b a<;>first|exact .inr (kL b a c h2 h)|(rw[kM a b h1 h2]at h;exact .inr h)
noncomputable def eU:KeyOrd:=⟨List Int,HT.lexLt,mL,kL,Bm,kM⟩
noncomputable def dc:KeyOrd:=⟨Int,λa b=>decide (a<b),λa=>JQ (by omega),λa b c h1 h2=>JA (by have:=J0 h1;have:=J0 h2;omega),
 λa b c h=>by
  have:=J0 h;by_cases q:a<b
  .exact .inl (JA q)
  .exact .inr (JA (by omega)),
 λa b h1 h2=>by have:=of_decide_eq_false h1;have:=of_decide_eq_false h2;omega⟩
section
variable(O:KeyOrd)
noncomputable def lU(x:O.α):List O.α->List O.α
 | []=>[x]
 |y::r=>if O.blt y x then y::lU x r else x::y::r
noncomputable def im:List O.α->List O.α
 | []=>[]
 |x::r=>lU O x (im r)
theorem kN(x):∀l,(lU O x l).Perm (x::l)
 | []=>.refl _
 |y::r=>by
  show(if O.blt y x then y::lU O x r else x::y::r).Perm _;split
  .exact(Perm.cons y (kN x r)).trans (.swap x y r)
  .exact .refl _
theorem eV:∀l,(im O l).Perm l
 | []=>.refl _
 |x::r=>(kN O x _).trans (.cons x (eV r))
theorem mM(x):∀l,l.Pairwise O.kle->(lU O x l).Pairwise O.kle
 | [],_=>pairwise_singleton _ _
 |y::r,h=>by
  show(if O.blt y x then y::lU O x r else x::y::r).Pairwise O.kle;obtain⟨h1,h2⟩:=KY.mp h;by_cases q:O.blt y x=true
  .rw[if_pos q];refine KY.mpr ⟨λz hz=>?_,mM x r h2⟩;rcases Jp.mp ((kN O x r).mem_iff.mp hz)with e|e
   .rw[e];exact K7 q
   .exact h1 z e
  .rw[if_neg q];have J:=Bool.eq_false_iff.mpr q;refine KY.mpr ⟨λz hz=>?_,h⟩;rcases Jp.mp hz with e|e
   .rw[e];exact J
   .exact Le J (h1 z e)
theorem dW:∀l,(im O l).Pairwise O.kle
 | []=>Pairwise.nil
 |x::r=>mM O x _ (dW r)
theorem jR:∀{a b:List O.α},a.Perm b->a.Pairwise O.kle->b.Pairwise O.kle->a=b
 | [],b,p,_,_=>p.nil_eq
 |x::a,[],p,_,_=>by have:=p.length_eq;simp at this
 |x::a,y::b,p,J,U=>by
  obtain⟨Y,Z⟩:=KY.mp J;obtain⟨b1,b2⟩:=KY.mp U;have e:x=y:=by
   have hx:=p.mem_iff.mp (.head _);have hy:=p.mem_iff.mpr (.head _);rcases Jp.mp hx with q|q
   .exact q
   .rcases Jp.mp hy with z|z
    .exact z.symm
    .exact KeyOrd.kle_antisymm (Y y z) (b1 x q)
  subst e;rw[jR (p.cons_inv) Z b2]
def jS(p:a.Perm l)(h:a.Pairwise O.kle):a=im O l:=jR O (p.trans (eV O l).symm) h (dW O l)
def oq(p:a.Perm b):im O a=im O b:=jS O ((eV O a).trans p) (dW O a)
def yh{a:List O.α}(h:a.Pairwise O.kle):im O a=a:=(jS O (.refl a) h).symm
end
def i3{α:Type}(xs)(d:α):(range xs.length).map (λi=>xs.getD i d)=xs:=by
 apply Mn;intro i;rw[JF];by_cases q:i<xs.length
 .simp_all
 .simp_all
def DR(J:PB xs.length p)(Y:fw (λi=>xs.getD i d) p xs.length):p.toList.map (λi=>xs.getD i d)=im O xs:=by
 refine jS O ?_ ?_
 .have h:=(Li.mp J).map λi=>xs.getD i d
  have e:=i3 xs d;rw[e]at h;exact h
 .rw[pairwise_iff_getElem];intro i j hi U z;rw[pe,Array.length_toList]at hi U;have hz:=J.size;have q:=Y i j (Lr z) (by omega);simp only[getElem_map];have Z:p.getD i 0=p[i]:=by simp[hi]
  have ej:p.getD j 0=p[j]:=by simp[U]
  unfold kk at q;rw[Z,ej]at q;exact q
end L2.Srt
namespace L2.Srt
open PySem PySem.W PySem.Calls PyProof.Rows List Option
section
variable{prog:Program}{w:World}{A:Around}{E:Value->Shared->Prop}{s:Shared}
def KOk(g:SortKind):Prop:=g=tuples' true\/g=general'\/g=oneType'
def p5 {KO:SortKind->Prop}{O:KeyOrd}{key:Nat->O.α}{a:Addr}{vs:List Value}{n:Nat}{R:PySem.Fin->Shared->Prop} (ho:s.heap.get? a=some (seqObj "list" vs.toArray n)) (a0:vs.length<64)
  (hk:2<=vs.length->∀s' Q,(∀b o,b≠a->s.heap.get? b=some o->s'.heap.get? b=some o)->(∀g,KO g->Q g s')->wpAny (model prog w) A (keyKind' vs.toArray) Q (λ_ _=>False) s')
  (hc:∀g,KO g->∀s' i j C,(∀b o,b≠a->s.heap.get? b=some o->s'.heap.get? b=some o)->i<vs.length->j<vs.length->C (O.blt (key i) (key j)) s' ->
   wpAny (model prog w) A (keyLt' g (vs.getD i Value.none) (vs.getD j Value.none)) C (λ_ _=>False) s')
  (h:∀p,PB vs.length p->fw key p vs.length->R (.done (.ret .none)) { s with heap:=sortedHeap s.heap a vs (p.toList.map λi=>vs.getD i Value.none).toArray }) :
  wpAny (model prog w) A (Builtin.«list.sort» ⟨[.ref a],[]⟩) R E s:=by
 rw[list_sort_plain];have ha:=tf ho;refine gf (listItems_at ho rfl ?_);refine gf (listUpdate_at ho rfl ?_ (by rw[r4,JS];omega) (JZ _));obtain⟨e1,Z⟩:∃e1,(s.heap.update a (Obj.mapSeq λ_=>(#[]:Array Value))).get? a=some (seqObj "list" #[] e1):=⟨_,get?_update_seq ho λ_=>#[]⟩;refine gf (seqEpoch_at Z rfl ?_);refine gf (wpAny_newTuple ?_ (by show vs.length<=_;rw[JS];omega));refine gf (wpAny_newList ?_ (JZ _));refine JU ?_;have J:(((s.heap.update a (Obj.mapSeq λ_=>(#[]:Array Value))).push (seqObj "tuple" vs.toArray 0)).push (seqObj "list" #[] 0)).get? a=some (seqObj "list" #[] e1):=g4 _ (g4 _ Z);have kp:∀b o,b≠a->s.heap.get? b=some o->(((s.heap.update a (Obj.mapSeq λ_=>(#[]:Array Value))).push (seqObj "tuple" vs.toArray 0)).push (seqObj "list" #[] 0)).get? b=some o:=λb o hb e =>
  g4 _ (g4 _ ((Ka _ _ (KW hb)).trans e))
 show wpAny (model prog w) A _ R E { s with heap:=((s.heap.update a (Obj.mapSeq λ_=>(#[]:Array Value))).push (seqObj "tuple" vs.toArray 0)).push (seqObj "list" #[] 0) };dsimp only;have b4:vs.toArray.size=vs.length:=by simp
 by_cases h2:vs.toArray.size<2
 .rw[if_pos h2,if_pos h2];refine gf (gQ ?_);rw[StateT.run_pure];refine gf (gQ ?_);dsimp only;refine gf (seqEpoch_at J rfl ?_);refine gf (listUpdate_at J rfl ?_ (JZ _) (by rw[LC];show(pairsOf vs).size<=_;rw[pairsOf_size,JS];omega));simp only[K8,Jz,Kc];have e:((arrOf (SortSt.mk' general' (vs.toArray.zip vs.toArray) #[] 7 none)).map (·.2))=((range vs.length).toArray.toList.map λi=>vs.getD i Value.none).toArray:=by
   have e2:(arrOf (SortSt.mk' general' (vs.toArray.zip vs.toArray) #[] 7 none))=vs.toArray.zip vs.toArray:=rfl;rw[e2];apply Array.toList_inj.mp;rw[i3];simp[map_snd_zip]
  refine gQ ?_;have q:=h (range vs.length).toArray (Array.Perm.refl _) (λi j cd hj=>by
   have:i=j:=by omega
   subst this;exact Kj _)
  rw[<- e]at q;exact q
 .rw[if_neg h2,if_neg h2];have ao:2<=vs.length:=by omega
  refine gf (JR (hk ao _ (λg s0=>KO g/\s0={ s with heap:=((s.heap.update a (Obj.mapSeq λ_=>(#[]:Array Value))).push (seqObj "tuple" vs.toArray 0)).push (seqObj "list" #[] 0) }) kp λg z=>⟨z,rfl⟩) (λg s0 z=>?_) λ_ _ x=>x.elim);obtain⟨z,rfl⟩:=z;refine gf (JR (kat_run (Q:=λU s'=>∃p,p.size=vs.length/\arrOf U=p.map (kas_item (vs.toArray.zip vs.toArray))/\failedOf U=none/\PB vs.length p/\fw key p vs.length/\s'={ s with heap:=((s.heap.update a (Obj.mapSeq λ_=>(#[]:Array Value))).push (seqObj "tuple" vs.toArray 0)).push (seqObj "list" #[] 0) })
   (G:=λp s'=>PB vs.length p/\fw key p vs.length/\s'={ s with heap:=((s.heap.update a (Obj.mapSeq λ_=>(#[]:Array Value))).push (seqObj "tuple" vs.toArray 0)).push (seqObj "list" #[] 0) })
   rfl ao a0 (λp' U s' a1 a2 a3 a4=>⟨p',a1,a2,a3,a4⟩)
   (DQ (key:=key) (λi j C hi hj q=>hc g z _ i j C kp hi hj q) (by omega) λp hp hr=>⟨hp,hr,rfl⟩)) ?_ λ_ _ e=>e)
  rintro ⟨⟨⟩,U⟩ s' ⟨p,hp,a7,hf,a8,a9,rfl⟩;dsimp only;have Y:=kat_snds rfl a7;refine gf (seqEpoch_at J rfl ?_);refine gf (listUpdate_at J rfl ?_ (JZ _) (by rw[Y];refine Js (LO ?_) (show vs.length<=_ by rw[JS];omega);simp[hp]));rw[hf,Y];simp only[K8,Jz,Kc];exact gQ (h p a8 a9)
theorem lx :∀{vs z}{ns ms} i,IntsAre vs ns->IntsAre z ms->fin=decide (ns.length<ms.length)->C (HT.lexLt ns ms) s->KatLex prog w A true fin C (vs.zip z) i s
 | _,_,_,_,i,.nil,.nil,hf,h=>by
  refine kat_nil ?_;rw[hf];exact h
 | _,_,_,_,i,.nil,.cons c u hw,hf,h=>by
  refine kat_nil ?_;rw[hf,JA (by simp)];exact h
 | _,_,_,_,i,.cons a t hv,.nil,hf,h=>by
  refine kat_nil ?_;rw[hf,JQ (by simp)];exact h
 | _,_,_,_,i,.cons (ns:=ns) a t hv,.cons (ns:=ms) c u hw,hf,h=>by
  rw[HT.lexLt_cons]at h;refine kat_cons (wpAny_eqBool_int ?_);by_cases e:a=c
  .rw[if_pos e]at h;have q:(a==c)=true:=by rw[e];exact Kd c
   rw[q];refine kat_yes (lx _ hv hw ?_ h);rw[hf];simp
  .rw[if_neg e]at h;have q:=KS.mpr e;rw[q];refine kat_no ?_;cases i with
   |zero=>exact oneLt_int h
   |succ i=>exact kat_one _ _ (lt_int h)
def Bn(hk:KOk g){a b:Addr}{its z:Array Value}{ns ms:List Int}{C:Bool->Shared->Prop}(ha:IsTup s.heap a its)(hb:IsTup s.heap b z)(hi:IntsAre its.toList ns)(Z:IntsAre z.toList ms)
  (hu:A.units<cLine) (h:C (HT.lexLt ns ms) s):wpAny (model prog w) A (keyLt' g (.ref a) (.ref b)) C E s:=by
 rcases hk with rfl|rfl|rfl
 .obtain⟨o,ho,_,n,hd⟩:=id ha;obtain⟨o2,U,_,n2,J⟩:=id hb;refine kat_lt ho hd U J (lx 0 hi Z ?_ h);have z1:its.size=ns.length:=by rw[<- hi.length];simp
  have z2:z.size=ms.length:=by rw[<- Z.length];simp
  rw[z1,z2]
 .show wpAny _ _ (oneLt' false _ _) _ _ _;exact kat_one _ _ (HT.lt_tupInts ha hb hi Z hu h)
 .rw[keyLt'_oneType,oneLt'_eq];refine gf (wpAny_cRoomFor hu ?_);refine az λZq kq=>?_
  obtain⟨⟨cls,dd,data,sl⟩,ho,hc,n,hd⟩:=id ha;obtain⟨⟨a4,a0,data2,a1⟩,U,Y,n2,J⟩:=id hb;simp only at hc hd Y J;subst hc hd Y J;refine kq ?_;refine gf (wpAny_callSpecialIfBound?_slot ⟨_,ho,rfl⟩ PySem.F.slot_tuple_lt (Mh PySem.F.slot_tuple_lt ⟨_,ho,rfl⟩ PySem.F.entry_tuple_lt (PySem.F.args_tuple_lt_2 _ _) (HT.tuple_lt_ints a b its z n n2 dd a0 sl a1 ns ms hi Z) ⟨ho,U,?_⟩));exact Kh h
theorem ly:∀(vs:List Value) {Q},(∀v∈vs,∃a its ns,v=.ref a/\IsTup s.heap a its/\IntsAre its.toList ns) ->
  (∀fs,fs.length=vs.length->(∀f∈fs,∀v,f=some v->∃n t,v=Value.int n t)->Q fs s)->wpAny (model prog w) A (vs.mapM firstOfTuple') Q E s
 | [],Q,_,h=>by rw[mapM_nil];exact gQ (h [] rfl (by simp))
 |v::vs,Q,hv,h=>by
  obtain⟨a,its,ns,rfl,⟨o,ho,hc,n,hd⟩,hi⟩:=hv v (.head _);rw[mapM_cons];refine gf ?_;refine gf (Looks.here (show Looks (model prog w) s.heap (typeOf (.ref a)) o.cls from(Looks.ld ho).andThen .now) ?_);rw[hc,if_neg (by first|decide|simp)];refine gf (listItems_at ho hd (gQ ?_));refine gf (ly vs (Q:=λbs s'=>wpAny (model prog w) A (pure (its[0]?::bs)) Q E s') (λu U=>hv u (.tail _ U)) λfs Y Z=>?_);refine gQ (h _ (by simp[Y]) λf hm u e=>?_);rcases Jp.mp hm with z|z
  .rw[z]at e;have J:u∈its.toList:=by
    rw[<- JX]at e;exact KD e
   exact hi.all u J
  .exact Z f z u e
def ww{vs:List Value}{Q:SortKind->Shared->Prop}(h2:2<=vs.length)(hv:∀v∈vs,∃a its ns,v=.ref a/\IsTup s.heap a its/\IntsAre its.toList ns)(h:∀g,KOk g->Q g s) :
  wpAny (model prog w) A (keyKind' vs.toArray) Q E s:=by
 rw[kat_kind_eq,mapM_toArray,Mo];refine gf (gf (ly vs hv λfs hl hf=>gQ ?_));by_cases z:(fs.toArray.all λx=>x.isSome)=true
 .rw[if_pos z];refine gf (KL ?_);have aO:(fs.toArray.filterMap id)=(fs.filterMap id).toArray:=by simp
  rw[aO,oneTypeOnly'_eq,mapM_toArray,Mo];have U:∀v∈fs.filterMap id,∃n t,v=Value.int n t:=λv Y=>by
   obtain⟨f,a0,e⟩:=mem_filterMap.mp Y;exact hf f a0 v e
  have a1:0<(fs.filterMap id).length:=by
   match fs,hl,z with
   | [],hl,_=>simp at hl;omega
   |f::r,_,z =>
    have:f.isSome=true:=by simp at z;exact z.1
    obtain⟨u,rfl⟩:=isSome_iff_exists.mp this;simp
  refine gf (gf (gf (kas_mapM (r:=Value.type "int") _ (λv Y Q' hq=>?_) (gQ ?_))))
  .obtain⟨n,t,rfl⟩:=U v Y;exact gQ hq
  .have h0:(map (λ_=>Value.type "int") (fs.filterMap id)).toArray[0]?=some (Value.type "int"):=by
    simp[a1]
   rw[h0];have J:((map (λ_=>Value.type "int") (fs.filterMap id)).toArray.all λx=>x==Value.type "int")=true:=by
    simp only[all_toArray,LQ,Kk];intro _ _
    rfl
   simp only[J,if_true];exact gQ (gQ (h _ (.inl rfl)))
 .rw[if_neg z];by_cases Z:((fs.toArray[0]?).bind id).isSome=true
  .rw[if_pos Z];exact gQ (h _ (.inr (.inl rfl)))
  .rw[if_neg Z];rw[oneTypeOnly'_eq,mapM_toArray,Mo];refine gf (gf (gf (kas_mapM (r:=Value.type "tuple") _ (λv Y Q' hq=>?_) (gQ ?_))))
   .obtain⟨a,its,ns,rfl,⟨o,ho,hc,n,hd⟩,hi⟩:=hv v Y;have q:Looks (model prog w) s.heap (typeOf (.ref a)) o.cls:=(Looks.ld ho).andThen .now;rw[hc]at q;exact q.here hq
   .have h0:(map (λ_=>Value.type "tuple") vs).toArray[0]?=some (Value.type "tuple"):=by
     have:0<vs.length:=by omega
     simp[this]
    rw[h0];have J:((map (λ_=>Value.type "tuple") vs).toArray.all λx=>x==Value.type "tuple")=true:=by
     simp only[all_toArray,LQ,Kk];intro _ _
     rfl
    simp only[J,if_true];exact gQ (gQ (h _ (.inr (.inr rfl))))
end
end L2.Srt
namespace L2.St
open PySem PyProof.Rows List Option
section
variable{P:Program}{w:World}{A:Around}{E:Value->Shared->Prop}{s:Shared}
def l5{items:Array Value}(hi:IntsAre items.toList ns):∀i (v:Value),items[i]?=some v->∃t,v=.int (ns.getD i 0) t:=
 λi v e=>IntsAre.int_at hi i v (by rw[JX];exact e)
def kO{v:Value}{vs:Array Value}{it:Addr}{Q:Option Value->Shared->Prop}(z:A.handled=none){R:Value->Shared->Prop}
  (J:∀e s',(∀b o,s.heap.get? b=some o->s'.heap.get? b=some o)->(∃h',s'={ s with heap:=h' })->s'.TypeIs e "StopIteration"->R e s') {U:PySem.Fin->Shared->Prop} :
  wpAny (model P w) A (newExc (.type "StopIteration") [] >>= λe=>(raiseNew e:Sem PySem.Fin)) U R s:=by
 refine wpAny_bind ?_;simp only[newExc,newTuple];refine wpAny_bind (wpAny_newObj_type ?_ (by size_fits));refine wpAny_bind (m:=firstArgMember _ _) (wpAny_of_eq (a:=Value.none) (by first|rfl|(simp only[firstArgMember];rfl)) ?_);refine wpAny_newObj_type ?_ (by size_fits);simp only[raiseNew];refine wpAny_bind (wpAny_handled ?_);rw[z];refine wpAny_bind (wpAny_pure (wpAny_throw ?_));exact J _ _ (λb o e=>Heap.get?_push_of_some _ (Heap.get?_push_of_some _ e)) ⟨_,rfl⟩ ⟨_,Heap.get?_push_size _ rfl,rfl⟩
def jh(h:ItemsOf (λi v=>∃t,v=Value.int (order.getD i 0) t) acc order.length):IntsAre acc.toList order:=by
 obtain⟨hz,hv⟩:=h;have J:acc.toList.length=order.length:=by simpa using hz
 have z:∀j v,acc.toList[j]?=some v->∃t,v=Value.int _ t:=λj v e=>hv j v (by rw[<- JX];exact e)
 clear hv hz;generalize acc.toList=vs at J z
 induction vs generalizing order with
 |nil =>
  have:=Lx.mp J.symm;rw[this];exact .nil
 |cons v r ih =>
  match order,J,z with
  | [],J,_=>simp at J
  |k::ks,J,z =>
   obtain⟨t,e⟩:=z 0 v rfl;have U:=e;rw[U];exact .cons k t (ih (by simpa using J) λj u q=>z (j+1) u (by simpa using q))
end
end L2.St
namespace L2.St
open PySem List Option
def ou(xs:Array Nat):Prop:=∀i j,i<j->j<xs.size->xs.getD i 0<xs.getD j 0
def yi{xs:Array Nat}(h:i<xs.size)(d e):xs.getD i d=xs.getD i e:=by simp[Array.getD,h]
theorem mN{xs:Array Nat}{j:Nat}(Z:ou xs):∀(J lo hi:Nat),hi<=lo+J->lo<=hi->hi<=xs.size->(∀i,i<lo->xs.getD i 0<j)->(∀i,hi<=i->i<xs.size->j<=xs.getD i 0) ->
  (SetTable.below.go xs j J lo hi<=xs.size/\(∀i,i<SetTable.below.go xs j J lo hi->xs.getD i 0<j)/\∀i,SetTable.below.go xs j J lo hi<=i->i<xs.size->j<=xs.getD i 0)
 |0,lo,hi,hf,h1,h2,a,b=>by
  have e:SetTable.below.go xs j 0 lo hi=lo:=rfl;rw[e];have:lo=hi:=Nat.le_antisymm h1 hf;subst this;exact⟨h2,a,b⟩
 |J+1,lo,hi,hf,h1,h2,a,b=>by
  have e:SetTable.below.go xs j (J+1) lo hi=if lo<hi then(if xs.getD ((lo+hi) / 2) j<j then SetTable.below.go xs j J ((lo+hi) / 2+1) hi else SetTable.below.go xs j J lo ((lo+hi) / 2))else lo:=rfl
  rw[e];by_cases hl:lo<hi
  .rw[if_pos hl];obtain⟨m,em,m1,m2⟩:∃m,(lo+hi) / 2=m/\lo<=m/\m<hi:=⟨_,rfl,by omega,by omega⟩;rw[em];have hm:m<xs.size:=Jw m2 h2;rw[yi hm j 0];by_cases Y:xs.getD m 0<j
   .rw[if_pos Y];refine mN Z J _ hi (by omega) m2 h2 (λi U=>?_) b;rcases Nat.lt_or_eq_of_le (Nat.le_of_lt_succ U)with z|z
    .exact Mm (Z i m z hm) Y
    .rw[z];exact Y
   .rw[if_neg Y];refine mN Z J lo _ (by omega) m1 (Lr hm) a λi U hz=>?_
    rcases Nat.lt_or_eq_of_le U with z|z
    .exact Js (LD.mp Y) (Lr (Z m i z hz))
    .rw[<- z];exact LD.mp Y
  .rw[if_neg hl];have:lo=hi:=Nat.le_antisymm h1 (LD.mp hl);subst this;exact⟨h2,a,b⟩
def jw{xs:Array Nat}(z:ou xs)(j:Nat):SetTable.below xs j<=xs.size/\(∀i,i<SetTable.below xs j->xs.getD i 0<j)/\∀i,SetTable.below xs j<=i->i<xs.size->j<=xs.getD i 0:=
 mN z xs.size 0 xs.size (Nat.le_add_left _ _) (JZ _) (pd _) (λi h=>absurd h (Nat.not_lt_zero i)) λi h1 h2=>absurd h2 (LD.mpr h1)
def oA(xs)(p)(x:α)(z:p<=xs.size):(SetTable.insertAt xs p x).size=xs.size+1:=by grind [SetTable.insertAt]
def jT{α:Type}(xs:Array α)(p:Nat)(x:α)(z:p<=xs.size)(i:Nat):(SetTable.insertAt xs p x)[i]?=if i<p then xs[i]? else if i=p then some x else xs[i-1]?:=by
 unfold SetTable.insertAt;have hz:((xs.extract 0 p).push x).size=p+1:=by rw[Array.size_push,K0,Ln z,Nat.sub_zero]
 rcases Nat.lt_trichotomy i p with h1|h1|h1
 .rw[if_pos h1,Ma (by rw[hz];exact JO h1)];rw[Array.getElem?_push,if_neg (by rw[K0,Ln z];exact Jr h1),Array.getElem?_extract,if_pos (by rw[Ln z];exact h1),KQ]
 .subst h1;rw[if_neg (J5 _),if_pos rfl,Ma (by rw[hz];exact KR _)];rw[Array.getElem?_push,if_pos (by rw[K0,Ln z];rfl)]
 .obtain⟨k,rfl⟩:=Nat.exists_eq_add_of_lt h1;rw[if_neg (Nat.lt_asymm h1),if_neg (Kx h1),Array.getElem?_append_right (by rw[hz];exact h1),hz,Array.getElem?_extract,Ly,Nat.add_sub_cancel_left,Nat.min_self,Ly,K1];by_cases J:k<xs.size-p
  .rw[if_pos J]
  .rw[if_neg J,K5 (Nat.sub_le_iff_le_add'.mp (LD.mp J))]
def eF{xs:Array Nat} :xs.getD i 0=(xs[i]?).getD 0:=Kz
def rl(J:ou xs)(hn:xs[SetTable.below xs j]?≠some j):ou (SetTable.insertAt xs (SetTable.below xs j) j):=by
 obtain⟨U,ha,hb⟩:=jw J j;have Y:∀i,SetTable.below xs j<=i->i<xs.size->j<xs.getD i 0:=λi h1 h2=>by
  have q:=hb i h1 h2;by_cases z:i=SetTable.below xs j
  .subst z;have e:xs[SetTable.below xs j]?=some (xs.getD (SetTable.below xs j) 0):=by rw[Lo h2];simp[Array.getD,h2]
   grind
  .have q':=hb _ (pd _) (by omega:SetTable.below xs j<xs.size);have:=J _ i (by omega:SetTable.below xs j<i) h2;omega
 intro i k Z hk;rw[oA _ _ _ U]at hk;rw[eF,eF,jT _ _ _ U,jT _ _ _ U];by_cases h1:k<SetTable.below xs j
 .rw[if_pos h1,if_pos (by omega),<- eF,<- eF];exact J i k Z (by omega)
 .rw[if_neg h1];by_cases h2:k=SetTable.below xs j
  .simp_all
  .rw[if_neg h2];by_cases h3:i<SetTable.below xs j
   .rw[if_pos h3,<- eF,<- eF];exact J i (k-1) (by omega) (by omega)
   .rw[if_neg h3];by_cases h4:i=SetTable.below xs j
    .rw[if_pos h4,<- eF];exact Y (k-1) (by omega) (by omega)
    .rw[if_neg h4,<- eF,<- eF];exact J (i-1) (k-1) (by omega) (by omega)
def tM(n):ou (Array.range n):=λi j h1 h2=>by
 rw[Array.size_range]at h2;simp[Array.getD,h2,Mm h1 h2];exact h1
def yj:ou #[]:=λi j _ h=>by simp at h
structure Gd(L:Bool)(t:SetTable):Prop where
 led:t.led=L
 dum:t.dummies=#[]
 rise:ou t.place
theorem Gd.fresh(L):Gd L (.fresh 0 0 L):=⟨rfl,rfl,yj⟩
theorem Gd.standIn(h:Gd L t)(n):Gd L (t.standIn n):=⟨h.led,rfl,tM n⟩
theorem Gd.orStandIn(h:Gd L t)(n):Gd L (t.orStandIn n):=by
 unfold SetTable.orStandIn;split
 .exact h
 .exact h.standIn n
def Gd.unplain(h:Gd L t):Gd L { t with plain:=false }:=⟨h.led,h.dum,h.rise⟩
def p6{t:SetTable}(hd:t.dummies=#[])(j):t.slot j≠.dummy:=by
 unfold SetTable.slot SetTable.has;rw[hd];dsimp only;split
 .simp
 .simp
def tN{t:SetTable}(h:t.slot j=.empty):t.place[SetTable.below t.place j]?≠some j:=by
 intro e;unfold SetTable.slot at h
 simp_all
theorem rm(hd:t.dummies=#[]) :∀z p,p.dummy=none->∀j d,SetTable.probe.go t J h z p=some (.empty j d)->d=none/\t.slot j=.empty
 |0,p,U,j,d,e=>by
  have:SetTable.probe.go t J h 0 p=none:=rfl;rw[this]at e;cases e
 |z+1,p,U,j,d,e=>by
  have step:SetTable.probe.go t J h (z+1) p=(match t.slot p.j with
   | .empty=>some (.empty p.j p.dummy)
   | .dummy=>SetTable.probe.go t J h z (t.advance { p with dummy:=some p.j })
   | .live i=>if J i==h then some (.candidate p.j i (t.advance p))else SetTable.probe.go t J h z (t.advance p)):=rfl
  rw[step]at e;have Y:(t.advance p).dummy=none:=by unfold SetTable.advance;split<;>simp[U]
  cases hs:t.slot p.j with
  |empty =>
   rw[hs]at e;dsimp only at e;cases e;exact⟨U,hs⟩
  |dummy=>exact absurd hs (p6 hd _)
  |live i =>
   rw[hs]at e;dsimp only at e;split at e
   .cases e
   .exact rm hd z _ Y j d e
def wz{t:SetTable}(hd:t.dummies=#[])(e:t.freeSlot h=some (j,b)):t.slot j=.empty:=by
 unfold SetTable.freeSlot at e;split at e
 .rename_i z d J;obtain⟨rfl,hs⟩:=rm hd _ _ rfl z d J
  simp_all
 .cases e
theorem Gd.put(h:Gd L t)(hs:t.slot j=.empty):Gd L (t.put j).1:=by
 refine⟨h.led,?_,rl h.rise (tN hs)⟩;show(if SetTable.has t.dummies j then _ else t.dummies)=#[];rw[if_neg (by unfold SetTable.has;rw[h.dum];simp)];exact h.dum
theorem Gd.layNew(g:Gd L t)(es)(h)(x):Gd L (layNew t es h x).2.1:=by
 unfold PySem.layNew;cases e:t.freeSlot h with
 |none=>exact g.standIn _
 |some q =>
  exact(g.put (wz g.dum e)).orStandIn _
def yk(f:Nat->Option Nat)(n):ou ((((range n).filterMap λj=>(f j).map λi=>(j,i)).map λq:Nat×Nat=>q.1).toArray):=by
 have e:((range n).filterMap λj=>(f j).map λi=>(j,i)).map (λq:Nat×Nat=>q.1)=(range n).filter λj=>(f j).isSome:=by
  generalize range n=l
  induction l with
  |nil=>rfl
  |cons a l ih =>
   cases h:f a<;>simp[filterMap_cons,filter_cons,h,ih]
 rw[e];have Y:((range n).filter λj=>(f j).isSome).Pairwise (· < ·):=Pairwise.filter _ pairwise_lt_range;intro i j J Z;have z:j<((range n).filter λj=>(f j).isSome).length:=by simpa using Z
 have U:i<((range n).filter λj=>(f j).isSome).length:=Mm J z;have:=pairwise_iff_getElem.mp Y i j U z J;simpa[Array.getD,z,U]using this
theorem Gd.relaid(g:Gd L t)(e:t.relaid hs n=some (t',o)):Gd L t':=by
 unfold SetTable.relaid SetTable.laid at e;cases h:SetTable.layClean (SetTable.sizeAbove n-1) hs with
 |none=>rw[h]at e;cases e
 |some ow =>
  rw[h]at e;cases e;exact⟨g.led,rfl,yk (λj=>ow.getD j none) _⟩
theorem Gd.relayAll(g:Gd L t)(es)(n):Gd L (relayAll t es n).2.1:=by
 unfold PySem.relayAll;cases e:t.relaid (es.map _) n with
 |none=>exact g.standIn _
 |some q =>
  dsimp only;split
  .exact g.relaid e
  .exact g.standIn _
end L2.St
namespace L2.St
open PySem PyProof.Rows List Option
noncomputable def byT (w:World):Bool:=w.params.followText "set-order"
structure Arr(P:Program)(w:World)(ks:List Int)(es:Array (Int×Value))(t:SetTable):Prop where
 el:ElemsOf (intKind P w) es.toList
 pm:(es.toList.map λe=>numOf e.2).Perm ks
 nd:ks.Nodup
 bd:es.size<scanBound
 fi:t.fits es.size=true
 gd:Gd (!byT w) t
def b6(P:Program)(w:World)(h:Heap)(a:Addr)(ks:List Int):Prop:=
 ∃o es ep t,h.get? a=some o/\o.ExactSet/\o.data=.set es ep t/\ElemsOf (intKind P w) es.toList/\(es.toList.map λe=>numOf e.2).Perm ks/\ks.Nodup/\es.size<scanBound/\t.fits es.size=true/\Gd (!byT w) t
section
variable{P:Program}{w:World}{h h':Heap}{a:Addr}{ks ks':List Int}{o:Obj}{es:Array (Int×Value)}{ep:Nat}{t:SetTable}
theorem b6.arr(g:b6 P w h a ks):∃o es ep t,(h.get? a=some o/\o.ExactSet/\o.data=.set es ep t)/\Arr P w ks es t:=by
 refine az λZq J=>?_
 obtain⟨o,es,ep,t,ho,z,hd,U,Y,Z,c4,c5,c6⟩:=g;refine J ?_;exact⟨o,es,ep,t,⟨ho,z,hd⟩,⟨U,Y,Z,c4,c5,c6⟩⟩
theorem Arr.set(r:Arr P w ks es t)(ho:h.get? a=some o)(z:o.ExactSet)(hd:o.data=.set es ep t):b6 P w h a ks:=
 ⟨o,es,ep,t,ho,z,hd,r.el,r.pm,r.nd,r.bd,r.fi,r.gd⟩
theorem Arr.len(r:Arr P w ks es t):es.size=ks.length:=by simpa using r.pm.length_eq
theorem Arr.bare(r:Arr P w ks es t)(b):Arr P w ks es (if b=true then t else { t with plain:=false }):=by
 cases b
 .exact⟨r.el,r.pm,r.nd,r.bd,SetTable.fits_plain_off r.fi,r.gd.unplain⟩
 .exact r
theorem Arr.lay(r:Arr P w ks es t)(tk)(J:k∉ks)(U:ks.length+1<scanBound):Arr P w (k::ks) (layNew t es (hashInt k) (.int k tk)).1 (layNew t es (hashInt k) (.int k tk)).2.1:=by
 have p:(layNew t es (hashInt k) (.int k tk)).1.toList.Perm (es.toList++[(hashInt k,.int k tk)]):=by simpa using layNew_perm t es _ _
 have z:=p.length_eq;have l:=r.len;constructor
 .exact ElemsOf.perm (r.el.push (Mi _ _ _ _) rfl) p
 .have q:((es.toList++[(hashInt k,Value.int k tk)]).map λe=>numOf e.2).Perm (k::ks):=by
   rw[JM];exact Lf.trans (r.pm.cons k)
  exact(p.map _).trans q
 .exact JV.mpr ⟨J,r.nd⟩
 .simp at z;omega
 .exact layNew_fits _ _ _ _
 .exact r.gd.layNew _ _ _
def Arr.relay(r:Arr P w ks es t)(n):Arr P w ks (relayAll t es n).1 (relayAll t es n).2.1:=by
 have p:=relayAll_perm t es n;have z:=p.length_eq;have b:=r.bd;exact⟨r.el.perm p,(p.map _).trans r.pm,r.nd,by simp at z;omega,relayAll_fits t es n,r.gd.relayAll es n⟩
theorem b6.at(g:b6 P w h a ks)(k:∀o,h.get? a=some o->h'.get? a=some o):b6 P w h' a ks:=by
 obtain⟨o,es,ep,t,⟨ho,z,hd⟩,r⟩:=g.arr;exact r.set (k o ho) z hd
end
def eO(h:ElemsOf (intKind P w) es):∀e∈es,∃t,e.2=.int (numOf e.2) t:=λe z=>by
 obtain⟨⟨k,J,_⟩,_⟩:=h e z;obtain⟨t,q⟩:=Mc (show Value.isInt k e.2=true from J);exact⟨t,by rw[q];rfl⟩
def jx(h:ElemsOf (intKind P w) es)(J:e∈es)(k):(intKind P w).is k e.2=true ↔ numOf e.2=k:=by
 obtain⟨t,q⟩:=eO h e J;constructor
 .intro z;obtain⟨t',U⟩:=Mc (show Value.isInt k e.2=true from z);rw[U];rfl
 .intro z;rw[q,z];exact Mi _ _ _ _
section
variable{P:Program}{w:World}{A:Around}{E:Value->Shared->Prop}{s:Shared}
def Now(P:Program)(w:World)(a:Addr)(s:Shared)(ks:List Int)(s':Shared):Prop:=
 ∃h',s'={ s with heap:=h' }/\Heap.SameBut a s.heap h'/\b6 P w h' a ks
theorem Now.stay(g:b6 P w s.heap a ks):Now P w a s ks s:=⟨s.heap,rfl,KG a s.heap,g⟩
def u5{h:Heap}(ho:h.get? a=some o)(J:o.ExactSet)(hd:o.data=.set es ep t)
  (r:Arr P w ks z t'):b6 P w (h.update a (Obj.putSet z t')) a ks:=by
 refine r.set (o:={ o with data:=.set z (ep+1) t' }) (ep:=ep+1) ?_ J rfl;have e:=putSet_of z t' hd;rw[<- e];exact JW _ ho (by rw[e];rfl)
theorem Now.put{s':Shared}(n:Now P w a s ks s'){es:Array (Int×Value)}{t:SetTable}(r:Arr P w ks' es t){Q:Unit->Shared->Prop}(h:∀z,Now P w a s ks' z->Q () z) :
  wpAny (model P w) A (storeSet a es t) Q E s':=by
 refine az λZ U=>?_
 obtain⟨h',rfl,Y,g⟩:=n;obtain⟨o,_,_,_,⟨ho,J,hd⟩,_⟩:=g.arr;refine U ?_;exact KH ho hd (h _ ⟨_,rfl,Y.trans (JN h' a _),u5 ho J hd r⟩) (Kt r.bd)
def GI{Q:Unit->Shared->Prop}(z:m=pure ()\/∃n,m=rule n)(h:Q () s'):wpAny (model P w) A m Q E s':=by
 rcases z with rfl|⟨n,rfl⟩
 .exact gQ h
 .exact KL h
def GJ(k)(tk)(c)(h:∀b,wpAny (model P w) A (f b) Q E s') :
  wpAny (model P w) A (if c=true then hashByValue 8 (.int k tk) >>= f else(pure true:Sem Bool) >>= f) Q E s':=by
 cases c
 .exact gf (gQ (h true))
 .rw[if_pos rfl,hashByValue_scannable 8 (show(Value.int k tk).scannable=true from rfl)];exact gf (gQ (h _))
def oU{Q:Bool->Shared->Prop}(hS:b6 P w s.heap a ks)(J:ks.length+1<scanBound)
  (h:∀h' b,Heap.SameBut a s.heap h'->b6 P w h' a (if k∈ks then ks else k::ks)->Q b { s with heap:=h' }) :
  wpAny (model P w) A (setAddHashed a (.int k tk) (hashInt k)) Q E s:=by
 have fin:∀b s',Now P w a s (if k∈ks then ks else k::ks) s'->Q b s':=by
  rintro b _ ⟨h',rfl,sb,g⟩;exact h h' b sb g
 have now:=Now.stay hS;obtain⟨o,es,ep,t,⟨ho,a6,hd⟩,r⟩:=hS.arr;have here:k∈ks ↔ ((es.toList.findIdx? λe=>(intKind P w).is k e.2).isSome=true):=by
  rw[findIdx?_isSome,Kl,<- r.pm.mem_iff,mem_map];exact⟨λ⟨e,Y,q⟩=>⟨e,Y,(jx r.el Y k).mpr q⟩,λ⟨e,Y,q⟩=>⟨e,Y,(jx r.el Y k).mp q⟩⟩
 unfold setAddHashed setAddHashedIn;refine JU (gf (JD ho hd r.fi ?_));dsimp only;rw[byScan_of (x:=.int k tk) rfl r.bd r.el,if_pos rfl];refine gf ?_;unfold setAddByScan;refine gf (KL (gf (wpAny_setScan_of (knd:=intKind P w) (Mi _ _ _ _) ho hd r.fi r.el ?_)));rcases Z:es.toList.findIdx? λe=>(intKind P w).is k e.2 with _|j
 .rw[Z];have hk:k∉ks:=λz=>by rw[here,Z]at z;exact Bool.noConfusion z
  rw[if_neg hk]at fin;have r1:=r.lay tk hk J;rcases hl:layNew t es (hashInt k) (.int k tk)with⟨U,t1,dm,gv⟩
  rw[hl]at r1;dsimp only at r1 ⊢;refine gf (GI ?_ ?_)
  .cases gv
   .exact .inl rfl
   .exact .inr ⟨_,rfl⟩
  refine GJ k tk _ λb=>?_
  have r2:=r1.bare b;generalize (if b=true then t1 else _)=t2 at r2 ⊢;refine gf (now.put r2 λs2 n2=>?_);refine JG (λ_=>?_) (λ_=>gQ (gQ (fin _ _ n2)));have r3:=r2.relay (SetTable.grown U.size);rcases hm:relayAll t2 U (SetTable.grown U.size)with⟨b2,t3,a2⟩
  rw[hm]at r3;dsimp only at r3 ⊢;refine gf (GI ?_ ?_)
  .cases a2
   .exact .inl rfl
   .exact .inr ⟨_,rfl⟩
  exact gf (n2.put r3 λs3 n3=>gQ (gQ (fin _ _ n3)))
 .rw[Z];have hk:=here.mpr (by rw[Z];rfl);rw[if_pos hk]at fin;exact gQ (gQ (fin _ _ now))
end
noncomputable def dd:List Int->List Int
 | []=>[]
 |k::r=>if k∈dd r then dd r else k::dd r
theorem fO :∀{l},k∈dd l ↔ k∈l
 | []=>Iff.rfl
 |x::r=>by
  show k∈(if x∈dd r then dd r else x::dd r) ↔ _;have ih:=@fO k r;by_cases h:x∈dd r
  .rw[if_pos h,ih,Jp];exact⟨.inr,λz=>z.elim (λe=>by rw[e];exact fO.mp h) id⟩
  .simp_all
theorem dd_nodup:∀l,(dd l).Nodup
 | []=>Ku
 |x::r=>by
  show(if x∈dd r then dd r else x::dd r).Nodup;by_cases h:x∈dd r
  .rw[if_pos h];exact dd_nodup r
  .rw[if_neg h];exact JV.mpr ⟨h,dd_nodup r⟩
theorem yl:∀l,(dd l).length<=l.length
 | []=>pd _
 |x::r=>by
  show(if x∈dd r then dd r else x::dd r).length<=_;have:=yl r
  grind
def Bo(xs:List Int):(range xs.length).map (λi=>xs.getD i 0)=xs:=by
 apply Mn;intro i;by_cases q:i<xs.length
 .simp_all
 .simp_all
def But(z:List Addr)(s s':Shared):Prop:=
 ∃h' tk,s'={ s with heap:=h',toks:=tk }/\∀b o,b∉z->s.heap.get? b=some o->h'.get? b=some o
theorem But.on(x:But Y s s')(y:But vs s' J)(hs:∀b∈Y,b∈vs):But vs s J:=by
 obtain⟨h1,t1,rfl,Z⟩:=x;obtain⟨h2,t2,rfl,k2⟩:=y;exact⟨h2,t2,rfl,λb o U e=>k2 b o U (Z b o (λz=>U (hs b z)) e)⟩
section
variable{P:Program}{w:World}{A:Around}{R:Result->Shared->Prop}{I S:Addr}{fp wr:List Addr}{n:Nat}{Pv:Nat->Value->Prop}{St:Nat->Heap->Prop}
noncomputable abbrev upd (S I:Addr):Code:=.builtin "set.update.loop" ⟨[.ref S,.ref I],[]⟩
def rn (h:wpAny (model P w) A.in1 (pyNext (.ref I)) (λv s'=>match v with
   |none=>R (.ok (.ret .none)) s'
   |some x=>wpAny (model P w) A.in1 (setAdd S x) (λ_ z=>codeAny (model P w) A (upd S I) R z) (λe z=>R (.error e) z) s') (λe s'=>R (.error e) s') s) :
  codeAny (model P w) A (upd S I) R s:=by
 have J:=PyProof.Rows.F.plain_set_update_loop;apply LR PyProof.Rows.F.entry_set_update_loop;rw[LS J];apply gf (m:=pyNext _);refine JR h (λv s' hv=>?_) λ_ _ x=>x
 cases v with
 |none=>exact gQ hv
 |some x =>
  refine gf (JU (JR hv (λ_ z hc=>?_) λ_ _ x=>x));exact gQ ⟨LI J _,hc⟩
def add_int(g:b6 P w s.heap S ks)(room:ks.length+1<scanBound) 
  (h:∀b s',But [S] s s'->b6 P w s'.heap S (if k∈ks then ks else k::ks)->(∀b,b≠S->s'.heap.get? b=s.heap.get? b)->Q b s'):wpAny (model P w) B (setAdd S (.int k t)) Q E s:=by
 refine JU (gf ((intKind P w).pyHash (Mi _ _ _ _) ?_));refine oU g room λh' b z g'=>h b _ ⟨h',_,rfl,λc o hc e=>?_⟩ g' λc hc=>?_
 .rw[z.2 c (by simpa using hc)];exact e
 .exact z.2 c hc
theorem u6(W:Walks P w A.in1 I fp wr n Pv St)(Y:S∉fp)(xs:List Int)(hn:xs.length=n)(hv:∀i v,Pv i v->∃t,v=.int (xs.getD i 0) t)(hb:n+1<scanBound) :
  ∀m i s,i+m=n->St i s.heap->b6 P w s.heap S (dd (xs.take i).reverse)->(∀s',But (S::wr) s s'->b6 P w s'.heap S (dd xs.reverse)->R (.ok (.ret .none)) s') ->
   codeAny (model P w) A (upd S I) R s
 |0,i,s,e,st,g,h=>by
  have hi:i=n:=e;subst hi;refine rn (W.done s _ _ st λh' tk kp=>h _ ⟨h',tk,rfl,λb o J=>kp b o λz=>J (.tail _ z)⟩ ?_);rw[Me (by omega)]at g;exact g.at λo=>kp S o λz=>Y (W.sub S z)
 |m+1,i,s,e,st,g,h=>by
  have hi:i<n:=by omega
  refine rn (W.item i s _ _ hi st λv h1 U pv Z kp=>?_);obtain⟨t,rfl⟩:=hv i v pv;have b1:But wr s { s with heap:=h1,toks:=U }:=⟨h1,U,rfl,kp⟩;have l:(dd (xs.take i).reverse).length+1<scanBound:=by
   have:=yl (xs.take i).reverse;simp at this;omega
  refine add_int (g.at λo=>kp S o λz=>Y (W.sub S z)) l λ_ s2 b2 g2 ao=>?_
  refine u6 W Y xs hn hv hb m _ s2 (by omega) (W.frame _ h1 _ Z λb J o e'=>?_) ?_ λs3 b3 g3=>h s3 ?_ g3
  .rw[ao b λz=>Y (z▸J)];exact e'
  .have:xs.take (i+1)=xs.take i++[xs.getD i 0]:=by
    simp_all
   rw[this,reverse_append];exact g2
  .exact(b1.on (b2.on b3 (by simp)) λb z=>.tail _ z)
end
section
variable{P:Program}{w:World}{A:Around}{E:Value->Shared->Prop}{s:Shared}
def c7(h:Q (byT w) s):wpAny (model P w) A setsByText Q E s:=
  gf (Mp (gQ h))
noncomputable abbrev bp (w:World):Obj:={ cls:=.type "set",dict:=none,data:=.set #[] 0 (.fresh 0 0 (!byT w)) }
noncomputable abbrev bh(w:World)(s:Shared):Shared:={ s with heap:=s.heap.push (bp w) }
def p7 (h:Q (.ref s.heap.objs.size) (bh w s)):wpAny (model P w) A (newSet (.type "set")) Q E s:=by
 refine gf (c7 ?_);exact gf (wpAny_alloc (gQ h))
def rq(h:Heap):b6 P w (h.push (bp w)) h.objs.size []:=
 Arr.set (es:=#[]) (ep:=0) ⟨λe z=>by simp at z,by simp,Ku,by decide,rfl,Gd.fresh _⟩ (uw _ rfl) ⟨rfl,rfl,rfl⟩ rfl
def Bp (x) {Q:Value->Shared->Prop} (h:Q (.ref s.heap.objs.size) (bh w s)):codeAny (model P w) A (.call (.builtin "set.__new__") ⟨[.type "set",x],[]⟩) (wants Q E) s:=by
 refine codeAny_call_builtin PySem.F.plain_set_new PySem.F.entry_set_new (L6 (PySem.F.newCall_set_1 x) ?_);have cls:∀{R}{F},R (.type "set",[x]) s->wpAny (model P w) A.in1 (Builtin.Frozenset.newClass "set" ⟨[.type "set",x],[]⟩) R F s:=by
  intro R F J;have z:=sub_set_self
  wp_walk
  exact J
 exact gf (cls (gf (p7 (gQ h))))
def ym(x){Q:Value->Shared->Prop}
  (hU:∀B,B.handled=A.handled->wpAny (model P w) B (Builtin.Frozenset.updateFrom "set.__init__" s.heap.objs.size x) (λ_ s'=>Q (.ref s.heap.objs.size) s') E (bh w s)) :
  wpAny (model P w) A (call (.type "set") [x]) Q E s:=by
 have Y:(bh w s).heap.get? s.heap.objs.size=some (bp w):=uw _ rfl;have init:codeAny (model P w) A.in1 (.call (.builtin "set.__init__") ⟨[.ref s.heap.objs.size,x],[]⟩) (wants (λr s'=>r=.none/\Q (.ref s.heap.objs.size) s') E) (bh w s):=by
  refine codeAny_call_builtin PySem.F.called_set.init.plain PySem.F.entry_set_init (check_set_init_1 ⟨_,Y,rfl⟩ ?_);have hu:=hU A.in1.in1 (by simp);generalize hw:bh w s=s1 at Y hu ⊢;generalize s.heap.objs.size=S at Y hu ⊢;obtain⟨hp,g,d,tk,os⟩:=s1;unfold Builtin.«set.__init__» noKeywords;generalize Builtin.Frozenset.updateFrom=U at hu ⊢
  wp_walk
  exact JR hu (λ_ s' hq=>gQ ⟨rfl,hq⟩) λ_ _ z=>z
 have Z:=PySem.F.called_set;refine wpAny_call (codeAny_of_tree (gQ ⟨Code.quiet_builtin _ (by decide +kernel),LR PySem.F.entry_type_call ?_⟩));rw[Around.under_plain (weight_type_call_type "set" [x] []) rfl];have f1:=Z.notType;have f2:=Z.canCreate;have f3:=Z.made;have f4:=Z.sub
 have f5:=PySem.F.typeCall_set_1 x;obtain⟨c,tl,f6⟩:=Z.mro
 repeat (any_goals (first|assumption|wp_step))
 refine La (Bp x (E:=E) (Q:=λv s'=>v=.ref s.heap.objs.size/\s'=bh w s) ⟨rfl,rfl⟩) λr s1 J=>?_
 match r,J with
 | .error e,J=>exact J
 | .ok (.ret v),J =>
  obtain⟨rfl,rfl⟩:=J;have f7:Shared.TypeIs (bh w s) (.ref s.heap.objs.size) "set":=⟨_,Y,rfl⟩;have f8:=Z.init.lookup;have f9:=Z.init.bind (.ref s.heap.objs.size)
  repeat (any_goals (first|assumption|wp_step))
  refine La init λr s2 J=>?_
  match r,J with
  | .error e,J=>exact J
  | .ok (.ret v),J =>
   obtain⟨rfl,hq⟩:=J;show wpAny _ A.in1 (pure (some Value.none)) _ _ _;exact gQ (gQ hq)
def mO {o:Obj} (x:s.heap.get? l=some o) (hc:o.cls=.type z) (hd:(Value.type z==.type "dict")=false)
  (U:isSubtype (.type z) (.type "set")=pure false) (Y:isSubtype (.type z) (.type "frozenset")=pure false)
  {ns:List Int}{Pv:Nat->Value->Prop}{St:Nat->Heap->Prop} (hv:∀i v,Pv i v->∃t,v=.int (ns.getD i 0) t) (J:ns.length+1<scanBound) {Z:Obj}
  (W:∀B,B.handled=A.handled->Walks P w B ((bh w s).heap.objs.size) [(bh w s).heap.objs.size,l] [(bh w s).heap.objs.size] ns.length Pv St)
  (it:∀B E' R,R (.ref (bh w s).heap.objs.size) { s with heap:=(bh w s).heap.push Z }->wpAny (model P w) B (pyIter (.ref l)) R E' (bh w s))
  (st:St 0 ((bh w s).heap.push Z)) {Q:Value->Shared->Prop}
  (h:∀h' tk,b6 P w h' s.heap.objs.size (dd ns.reverse)->(∀b o,s.heap.get? b=some o->h'.get? b=some o)->Q (.ref s.heap.objs.size) { s with heap:=h',toks:=tk }) :
  wpAny (model P w) A (call (.type "set") [.ref l]) Q E s:=by
 have z1:(bh w s).heap.objs.size=s.heap.objs.size+1:=JH ..;have ao:∀b,b<s.heap.objs.size->b∉[s.heap.objs.size,(bh w s).heap.objs.size]:=λb J=>by
  rw[z1];simp only[Jp,Kw,Lg,not_or];exact⟨Jr J,Jr (JO J)⟩
 have kept:∀b o,s.heap.get? b=some o->((bh w s).heap.push Z).get? b=some o:=λb o e=>g4 _ (g4 _ e)
 refine ym _ λB hB=>?_
 have hT:(bh w s).TypeIs (.ref l) z:=⟨o,g4 _ x,hc⟩;unfold Builtin.Frozenset.updateFrom Builtin.Frozenset.isAnySet;refine gf (gf (Ke hT U ?_));show wpAny _ _ (isInstance (.ref l) (.type "frozenset")) _ _ _;refine Ke hT Y ?_;rw[if_neg pb];refine gf (Lb hT ?_);rw[hd,if_neg pb];refine gf (it _ _ _ (gf (wpAny_runValue ?_)));have hS:s.heap.objs.size∉[(bh w s).heap.objs.size,l]:=by
  have:=tf x;rw[z1];simp only[Jp,Kw,Lg,not_or];exact⟨Jr (KR _),Kx this⟩
 refine u6 (W _ (by simpa using hB)) hS ns rfl hv J ns.length 0 _ (by omega) st ((rq s.heap).at λo e=>g4 _ e) ?_;rintro s' ⟨h',tk,rfl,kp⟩ g;exact gQ (h h' tk g λb o e=>kp b o (ao b (tf e)) (kept b o e))
def set_list 
  (U:A.handled=none) (Y:s.heap.IsList l items) (hi:IntsAre items.toList ns) (Z:items.size+1<scanBound)
  (h:∀h' tk,b6 P w h' s.heap.objs.size (dd ns.reverse)->(∀b o,s.heap.get? b=some o->h'.get? b=some o)->Q (.ref s.heap.objs.size) { s with heap:=h',toks:=tk }) :
  wpAny (model P w) A (call (.type "set") [.ref l]) Q E s:=by
 have z:items.size=ns.length:=by simpa using IntsAre.length hi
 obtain⟨o,ho,hc,hr⟩:=Y;have J:(bh w s).heap.IsList l items:=⟨o,g4 _ ho,hc,hr⟩;refine mO ho hc (by decide) PySem.F.sub_list_set PySem.F.sub_list_frozenset (l5 hi) (z▸Z) (λB hB=>z▸Walks.list (hB.trans U) _ l ?_ items)
  (λB E' R=>K6 J) ⟨⟨_,uw _ rfl,rfl,rfl⟩,J.push _⟩ h
 exact Jr (Nat.lt_of_lt_of_eq (JO (tf ho)) (JH ..).symm)
def wA 
  (U:A.handled=none) (Y:s.heap.IsTuple l items) (hi:IntsAre items.toList ns) (Z:items.size+1<scanBound)
  (h:∀h' tk,b6 P w h' s.heap.objs.size (dd ns.reverse)->(∀b o,s.heap.get? b=some o->h'.get? b=some o)->Q (.ref s.heap.objs.size) { s with heap:=h',toks:=tk }) :
  wpAny (model P w) A (call (.type "set") [.ref l]) Q E s:=by
 have z:items.size=ns.length:=by simpa using IntsAre.length hi
 obtain⟨o,ho,hc,hr⟩:=Y;have J:(bh w s).heap.IsTuple l items:=⟨o,g4 _ ho,hc,hr⟩;refine mO ho hc (by decide) PySem.F.sub_tuple_set PySem.F.sub_tuple_frozenset (l5 hi) (z▸Z) (λB hB=>z▸Walks.tuple (hB.trans U) _ l ?_ items)
  (λB E' R=>Ls J) ⟨⟨_,uw _ rfl,rfl,rfl⟩,J.push _⟩ h
 exact Jr (Nat.lt_of_lt_of_eq (JO (tf ho)) (JH ..).symm)
end
set_option maxRecDepth 100000 in
def mP:entryFor table "set.__iter__"=some Builtin.«frozenset.__iter__»:=
 entryFor_alias (id':="frozenset.__iter__") (by kernel_rfl) rfl (by decide +kernel) (by kernel_rfl)
set_option maxRecDepth 100000 in
def oV:Manifest.owners.lookup (String.ofList ['r','o','t','a','r','e','t','i','_','t','e','s'].reverse)=some Manifest.sig_set_iterator:=by kernel_rfl
set_option maxRecDepth 100000 in
def aR:Slot "set_iterator" "__next__" "set_iterator.__next__":=
 .of (owner:="set_iterator") (n:="__next__") (by rw[LU,Lc];kernel_rfl) (by decide +kernel) (by decide +kernel) (by decide +kernel)
  (by first|exact .inl (by decide +kernel)|exact .inr (by decide +kernel)) (by rw[L1];kernel_rfl)
set_option maxRecDepth 100000 in
def de:entryFor table "set_iterator.__next__"=some Builtin.«set_iterator.__next__»:=entryFor_of_tree (by kernel_rfl)
set_option maxRecDepth 100000 in
def dH (a):argsOk "set_iterator.__next__" ⟨[a],[]⟩:=by
 unfold argsOk;rw[signature?_of (n:=['_','_','t','x','e','n','_','_']) (by kernel_rfl) oV];kernel_rfl
set_option maxRecDepth 100000 in
def ji:Slot "set_iterator" "__iter__" "set_iterator.__iter__":=
 .of (owner:="set_iterator") (n:="__iter__") (by rw[LU,Lc];kernel_rfl) (by decide +kernel) (by decide +kernel) (by decide +kernel)
  (by first|exact .inl (by decide +kernel)|exact .inr (by decide +kernel)) (by rw[L1];kernel_rfl)
set_option maxRecDepth 100000 in
def mQ:entryFor table "set_iterator.__iter__"=some Builtin.«dict_keyiterator.__iter__»:=
 entryFor_alias (id':="dict_keyiterator.__iter__") (by kernel_rfl) rfl (by decide +kernel) (by kernel_rfl)
set_option maxRecDepth 100000 in
def oB (a):argsOk "set_iterator.__iter__" ⟨[a],[]⟩:=by
 unfold argsOk;rw[signature?_of (n:=['_','_','r','e','t','i','_','_']) (by kernel_rfl) oV];kernel_rfl
def yn {s:Shared}{I:Addr}{Q:Value->Shared->Prop} (z:s.TypeIs (.ref I) "set_iterator") (h:Q (.ref I) s):wpAny (model P w) A (pyIter (.ref I)) Q E s:=by
 refine Mf z ji (JL ji z mQ ?_ (oB _));exact gQ ⟨_,rfl,"set_iterator",_,z,aR.lookup,h⟩
theorem g5{α:Type}:∀{l}{i}{x:α},l[i]?=some x->(x::l.eraseIdx i).Perm l
 | [],i,x,h=>by simp at h
 |a::l,0,x,h=>by
  simp_all
 |a::l,i+1,x,h=>by
  have h':l[i]?=some x:=by simpa using h
  exact(Perm.swap a x _).trans (.cons a (g5 h'))
theorem u7(next):∀z k left (out:Array α),z=left.length->(pickOrder.go next z k left out).toList.Perm (out.toList++left)
 |0,k,left,out,h=>by
  have:=Lx.mp h.symm;subst this;rw[Kq];exact .refl _
 |z+1,k,left,out,h=>by
  have J:next k % left.length<left.length:=Mj _ (by omega);obtain⟨x,hx⟩:∃x,left[next k % left.length]?=some x:=⟨_,Jy J⟩;have e:pickOrder.go next (z+1) k left out=pickOrder.go next z (k+1) (left.eraseIdx (next k % left.length)) (out.push x):=by
   show(match left[next k % left.length]? with
    |some x=>pickOrder.go next z _ _ _
    |none=>out)=_
   rw[hx]
  rw[e];refine(u7 next z _ _ _ (by rw[Ld J];omega)).trans ?_;rw[Array.toList_push,J9];exact Perm.append_left _ (g5 hx)
def oW(next)(xs:Array α):(pickOrder next xs).toList.Perm xs.toList:=by
 have:=u7 next xs.size 0 xs.toList #[] (by simp);simpa[pickOrder]using this
section
variable{M:Model}{A:Around}{E:Value->Shared->Prop}{s:Shared}
def tO{n:Nat}{Q:Nat->Shared->Prop}(z:n≠0)(h:∀i d',i<n->Q i { s with drawn:=d' }):wpAny M A (choose src n) Q E s:=λ_ _ _ =>
 ⟨z,h _ _ (Mj _ (Nat.pos_of_ne_zero z))⟩
theorem jy :∀n xs s {Q:List α->Shared->Prop},n=xs.length->(∀ys d',ys.Perm xs->Q ys { s with drawn:=d' })->wpAny M A (drawOrder n xs) Q E s
 |0,xs,s,Q,h,q=>by
  have:=Lx.mp h.symm;subst this;exact gQ (q [] s.drawn (.refl _))
 |n+1,[],s,Q,h,q=>by simp at h
 |n+1,x::r,s,Q,h,q=>by
  refine gf (tO (by simp) λi d' hi=>?_);obtain⟨y,J⟩:∃y,(x::r)[i]?=some y:=⟨_,Jy hi⟩;rw[J];refine gf (jy n _ _ (by rw[Ld hi];simp at h ⊢;omega) λys z U=>gQ ?_);exact q (y::ys) z ((Perm.cons y U).trans (g5 J))
end
def SIt(h:Heap)(I S:Addr)(o:Obj)(f:Value)(i n ep:Nat):Prop:=
 h.get? I=some { cls:=.type "set_iterator",dict:=none,data:=.fields #[f,.int i 0,.ref S,.int n 0,.int ep 0],slots:=#[] }/\h.get? S=some o
theorem SIt.type {s:Shared} (h:SIt s.heap I S o f i n ep):s.TypeIs (.ref I) "set_iterator":=⟨_,h.1,rfl⟩
section
variable{P:Program}{w:World}{A:Around}{E:Value->Shared->Prop}{s:Shared}
def eW(ho:s.heap.get? S=some o)(hd:o.data=.set es ep t)(z:t.fits es.size=true)(h:Q es s) :
  wpAny (model P w) A (setEntries S) Q E s:=LX ho hd z h
def oX{ep slot i:Nat}{t:SetTable}{Q:Option (Value×Nat)->Shared->Prop}(ho:s.heap.get? S=some o)(hd:o.data=.set es ep t)(z:t.fits es.size=true)(J:byT w=true)
  (h:Q (((pickOrder (w.params.setOrder S ep) es)[i]?).map λe=>(e.2,slot)) s):wpAny (model P w) A (setNext S slot i ep) Q E s:=by
 unfold setNext;refine gf (JD ho hd z ?_);dsimp only;refine gf (c7 ?_);rw[if_pos J];simp only[K8,Jz,Kc];refine gf ?_;unfold setWalk;refine gf (JD ho hd z ?_);dsimp only;refine gf (c7 ?_);rw[if_pos J];refine gf (Mp (gQ ?_));exact gQ h
def mR{t:SetTable}{Q:Option (Value×Nat)->Shared->Prop}(ho:s.heap.get? S=some o)(hd:o.data=.set es ep t)(Y:t.fits es.size=true)(Z:byT w=false)
  (J:(!t.plain&&decide (es.size > 1))=false) (z:t.led=true)
  (h:Q (match es[SetTable.below t.place slot]?,t.place[SetTable.below t.place slot]? with|some (_,x),some j=>some (x,j+1)|_,_=>none) s):wpAny (model P w) A (setNext S slot i ep) Q E s:=by
 unfold setNext;refine gf (JD ho hd Y ?_);dsimp only;refine gf (c7 ?_);rw[if_neg (by rw[Z];simp)];refine JG (λU=>absurd (show(!t.plain&&decide (es.size > 1))=true from U) (by rw[J];simp)) (λ_=>?_);refine gf ?_;show wpAny _ _ (if (!t.led&&!es.isEmpty)=true then _ else _) _ _ s;rw[if_neg (by rw[z];simp)];exact gQ (gQ h)
def yo(z:ou xs)(hi:i<xs.size):SetTable.below xs (xs.getD i 0+1)=i+1:=by
 obtain⟨h1,h2,J⟩:=jw z _;have a:i<SetTable.below xs (xs.getD i 0+1):=by
  by_cases q:SetTable.below xs (xs.getD i 0+1)<=i
  .have:=J i q hi;omega
  .omega
 have b:SetTable.below xs (xs.getD i 0+1)<=i+1:=by
  by_cases q:i+1<SetTable.below xs (xs.getD i 0+1)
  .have:=h2 _ q;have:=z i (i+1) (by omega) (by omega);omega
  .omega
 omega
def tP(xs)(z:ou xs):SetTable.below xs 0=0:=by
 obtain⟨h1,h2,J⟩:=jw z 0;by_cases q:0<SetTable.below xs 0
 .have:=h2 0 q;omega
 .omega
end
section
variable{P:Program}{w:World}{A:Around}{E:Value->Shared->Prop}{s:Shared}{I S:Addr}{o:Obj}{es:Array (Int×Value)}{t:SetTable}{i n ep:Nat}
def oC{slot nx:Nat}{x:Value}{Q:Option Value->Shared->Prop}(z:SIt s.heap I S o (.int slot 0) i n ep)(hd:o.data=.set es ep t)(hf:t.fits es.size=true)(hn:es.size=n)(Y:S≠I)
  (Z:∀A' s' Q' E',s'.heap.get? S=some o->Q' (some (x,nx)) s'->wpAny (model P w) A' (setNext S slot i ep) Q' E' s')
  (hQ:∀h',SIt h' I S o (.int nx 0) (i+1) n ep->Heap.SameBut I s.heap h'->Q (some x) { s with heap:=h' }):wpAny (model P w) A (pyNext (.ref I)) Q E s:=by
 unfold pyNext;refine gf (LJ (J2 (name:=Str.ofString "__next__") z.type aR (JL aR z.type de ?_ (dH _))));unfold Builtin.«set_iterator.__next__»;refine gf (m:=slotArgs "__next__" 0 _) (gQ ?_);refine gf (L3 z.1 rfl ?_);dsimp only;refine gf (eW z.2 hd hf ?_);rw[if_neg (by simp[hn])]
 try dsimp only
 simp only[Int.toNat_natCast];refine gf (Z _ _ _ _ z.2 ?_);dsimp only;refine gf (KA z.1 (by simp) λh1 e1 J=>?_);refine gf (KA e1 (by simp) λh2 e2 U=>?_);refine gQ ⟨x,rfl,gQ (hQ h2 ⟨?_,?_⟩ (J.trans U))⟩
 .simpa[rawInt]using e2
 .exact((J.trans U).2 S Y).trans z.2
def oD{slot:Nat}{Q:Option Value->Shared->Prop}(Y:A.handled=none)(z:SIt s.heap I S o (.int slot 0) i n ep)(hd:o.data=.set es ep t)(hf:t.fits es.size=true)(hn:es.size=n)
  (J:∀A' s' Z E',s'.heap.get? S=some o->Z none s'->wpAny (model P w) A' (setNext S slot i ep) Z E' s')
  (hQ:∀h',(∀b o,b≠I->s.heap.get? b=some o->h'.get? b=some o)->Q none { s with heap:=h' }):wpAny (model P w) A (pyNext (.ref I)) Q E s:=by
 unfold pyNext;refine gf (LJ (J2 (name:=Str.ofString "__next__") z.type aR (JL aR z.type de ?_ (dH _))));unfold Builtin.«set_iterator.__next__»;refine gf (m:=slotArgs "__next__" 0 _) (gQ ?_);refine gf (L3 z.1 rfl ?_);dsimp only;refine gf (eW z.2 hd hf ?_);rw[if_neg (by simp[hn])]
 try dsimp only
 simp[Int.toNat_natCast];refine gf (J _ _ _ _ z.2 ?_);dsimp only;refine gf (KA z.1 (by simp) λh1 e1 U=>?_);refine kO (v:=.none) (vs:=#[]) (it:=0) (Q:=λ_ _=>True) (by first|exact Y|simpa using Y) λe s' kp ⟨h',eq⟩ hT=>?_
 subst eq;refine gf (Ke hT isSubtype_stop ?_);exact gQ (hQ h' λb o hb q=>kp b o ((U.2 b hb).trans q))
def mS{pn place:Nat}{pt:Tok}{hx:Int}{x:Value}{Q:Option Value->Shared->Prop}(z:SIt s.heap I S o (.ref Tp) i n ep)(hd:o.data=.set es ep t)(hf:t.fits es.size=true)(hn:es.size=n)(U:S≠I)
  (Y:s.heap.get? Tp=some ot) (Z:ot.data=.seq ps pn) (hp:ps[i]?=some (.int place pt)) (ao:es[place]?=some (hx,x))
  (hQ:∀h',SIt h' I S o (.ref Tp) (i+1) n ep->Heap.SameBut I s.heap h'->Q (some x) { s with heap:=h' }):wpAny (model P w) A (pyNext (.ref I)) Q E s:=by
 unfold pyNext;refine gf (LJ (J2 (name:=Str.ofString "__next__") z.type aR (JL aR z.type de ?_ (dH _))));unfold Builtin.«set_iterator.__next__»;refine gf (m:=slotArgs "__next__" 0 _) (gQ ?_);refine gf (L3 z.1 rfl ?_);dsimp only;refine gf (eW z.2 hd hf ?_);rw[if_neg (by simp[hn])]
 try dsimp only
 refine gf (wpAny_seqItems Y Z ?_);dsimp only;simp only[Int.toNat_natCast,hp];refine gf ?_;unfold setNextDrawn;refine gf (JD z.2 hd hf ?_);dsimp only;simp only[K8,Jz,Kc,Int.toNat_natCast,ao];refine gQ ?_;refine gf (KA z.1 (by simp) λh1 e1 J=>?_);refine gQ ⟨x,rfl,gQ (hQ h1 ⟨?_,?_⟩ J)⟩
 .simpa[rawInt]using e1
 .exact(J.2 S U).trans z.2
def mT(hh:A.handled=none)(z:SIt s.heap I S o (.ref Tp) i n ep)(hd:o.data=.set es ep t)(hf:t.fits es.size=true)(hn:es.size=n)
  (J:s.heap.get? Tp=some ot) (U:ot.data=.seq ps pn) (hp:ps[i]?=none)
  (hQ:∀h',(∀b o,b≠I->s.heap.get? b=some o->h'.get? b=some o)->Q none { s with heap:=h' }):wpAny (model P w) A (pyNext (.ref I)) Q E s:=by
 refine gf (LJ (J2 z.type aR (JL aR z.type de ?_ (dH _))));refine gf (gQ ?_);refine gf (L3 z.1 rfl ?_);dsimp only;refine gf (eW z.2 hd hf ?_);rw[if_neg (by simp[hn])]
 try dsimp only
 refine gf (wpAny_seqItems J U ?_);simp[Int.toNat_natCast,hp];refine gf (KA z.1 (by simp) λh1 e1 Y=>?_);refine gf (KA e1 (by simp) λh2 e2 Z=>?_);refine kO (v:=.none) (vs:=#[]) (it:=0) (Q:=λ_ _=>True) (by first|exact hh|simpa using hh) λe s' kp ⟨h',eq⟩ hT=>?_
 subst eq;refine gf (Ke hT isSubtype_stop ?_);exact gQ (hQ h' λb o hb q=>kp b o (((Y.trans Z).2 b hb).trans q))
end
structure p8(P:Program)(w:World)(I:Addr)(fp:List Addr)(order:List Int)(St:Nat->Heap->Prop):Prop where
 mem:I∈fp
 ty:∀i h,St i h->∃o,h.get? I=some o/\o.cls=.type "set_iterator"
 frame:∀i h h',St i h->(∀b∈fp,∀o,h.get? b=some o->h'.get? b=some o)->St i h'
 item:∀(A:Around) i (s:Shared) (Q:Option Value->Shared->Prop) (E:Value->Shared->Prop),i<order.length->St i s.heap ->
  (∀t h',St (i+1) h'->(∀b o,b≠I->s.heap.get? b=some o->h'.get? b=some o)->Q (some (.int (order.getD i 0) t)) { s with heap:=h' })->wpAny (model P w) A (pyNext (.ref I)) Q E s
 done:∀(A:Around) (s:Shared) (Q:Option Value->Shared->Prop) (E:Value->Shared->Prop),A.handled=none->St order.length s.heap ->
  (∀h',(∀b o,b≠I->s.heap.get? b=some o->h'.get? b=some o)->Q none { s with heap:=h' })->wpAny (model P w) A (pyNext (.ref I)) Q E s
def p8.walks{St:Nat->Heap->Prop}(W:p8 P w I fp order St)(Z:A.handled=none) :
  Walks P w A I fp [I] order.length (λi v=>∃t,v=.int (order.getD i 0) t) St where
 sub:=λb J=>by rw[JE.mp J];exact W.mem
 frame:=W.frame
 item:=λi s Q E hi st U=>W.item A i s Q E hi st λt h' Y kp=>U _ h' s.toks ⟨t,rfl⟩ Y λb o J e=>kp b o (λz=>J (by rw[z];exact JE.mpr rfl)) e
 done:=λs Q E st U=>W.done A s Q E Z st λh' kp=>U h' s.toks λb o J e=>kp b o (λz=>J (by rw[z];exact JE.mpr rfl)) e
 self:=λi s Q E st h=>by
  obtain⟨o,e,c⟩:=W.ty i _ st;exact yn ⟨o,e,c⟩ h
section
variable{P:Program}{w:World}{A:Around}{E:Value->Shared->Prop}{s:Shared}
def jU{l:List (Int×Value)}(h:l[i]?=some e):(l.map λe=>numOf e.2).getD i 0=numOf e.2:=by simp_all
set_option maxRecDepth 100000 in
def yq(g:b6 P w s.heap S ks)
  (hQ:∀(I:Addr) h' d' fp J St,J.Perm ks->(∀b o,s.heap.get? b=some o->h'.get? b=some o)->s.heap.objs.size<=I->(∀b∈fp,b=S\/s.heap.objs.size<=b)->(∀b∈fp,b<h'.objs.size) ->
   p8 P w I fp J St->St 0 h'->Q (.ref I) { s with heap:=h',drawn:=d' }):wpAny (model P w) A (pyIter (.ref S)) Q E s:=by
 obtain⟨o,es,ep,t,ho,cS,hd,cu,b1,dm,hb,Z,b2⟩:=g;have hT:s.TypeIs (.ref S) "set":=⟨o,ho,cS.1⟩;have aO:=tf ho;have c0:t.place.size=es.size:=by simp[SetTable.fits]at Z;exact Z.1
 have df:es.size=ks.length:=by have:=b1.length_eq;simpa using this
 refine Mf hT PySem.F.slot_set_iter (JL PySem.F.slot_set_iter hT mP ?_ (PySem.F.args_set_iter_1 _));unfold Builtin.«frozenset.__iter__»;refine gf (m:=Builtin.Frozenset.slot0 "__iter__" _) (gQ ?_);refine gf (m:=Builtin.Frozenset.sizeOf S) (gf (eW ho hd Z (gQ ?_)));refine gf (m:=setDrawn S) ?_;unfold setDrawn;refine gf (JD ho hd Z ?_);dsimp only;refine gf (c7 (gQ ?_));have Y:∀(J:List (Int×Value)) (fs:Nat->Nat),J.Perm es.toList->fs 0=0 ->
   (∀A' i (s':Shared) (Q':Option (Value×Nat)->Shared->Prop) (E':Value->Shared->Prop) e,J[i]?=some e->s'.heap.get? S=some o->Q' (some (e.2,fs (i+1))) s'->wpAny (model P w) A' (setNext S (fs i) i ep) Q' E' s') ->
   (∀A' s' Q' E',s'.heap.get? S=some o->Q' none s'->wpAny (model P w) A' (setNext S (fs J.length) J.length ep) Q' E' s') ->
   Q (.ref s.heap.objs.size) { s with heap:=s.heap.push { cls:=.type "set_iterator",data:=.fields #[.int 0 0,.int 0 0,.ref S,.int (es.size:Nat) 0,.int (ep:Nat) 0] } }:=by
  intro J fs hp h0 b3 cC;have hol:J.length=es.size:=by have:=hp.length_eq;simpa using this
  refine hQ s.heap.objs.size _ s.drawn [s.heap.objs.size,S] (J.map λe=>numOf e.2) (λi h=>SIt h s.heap.objs.size S o (.int (fs i) 0) i es.size ep) ((hp.map _).trans b1) (λb o e=>g4 _ e) (pd _) (λb hb=>?_) (λb hb=>?_) ?_ ?_
  .rcases Jp.mp hb with e|e
   .exact .inr (LO e.symm)
   .exact .inl (JE.mp e)
  .rw[JH];rcases Jp.mp hb with e|e
   .rw[e];exact KR _
   .rw[JE.mp e];exact JO aO
  .refine⟨.head _,λi h st=>⟨_,st.1,rfl⟩,λi h h' st k=>⟨k _ (.head _) _ st.1,k _ (.tail _ (.head _)) _ st.2⟩,λA' i s' Q' E' hi st hq=>?_,λA' s' Q' E' hh st hq=>?_⟩
   .rw[pe]at hi;obtain⟨e,he⟩:∃e,J[i]?=some e:=⟨_,Jy hi⟩;have hm:=hp.mem_iff.mp (KD he);obtain⟨tk,hv⟩:=eO cu e hm;rw[jU he]at hq;refine oC (slot:=fs i) (nx:=fs (i+1)) (x:=e.2) st hd Z rfl (Jr aO) (λb4 b5 cd ck a5 q=>b3 b4 i b5 cd ck e he a5 q) λh' cl sb=>?_
    rw[hv];exact hq tk h' cl λb o hb q=>(sb.2 b hb).trans q
   .rw[pe]at st;exact oD (slot:=fs J.length) hh st hd Z rfl (λb4 b5 cd ck a5 q=>cC b4 b5 cd ck a5 q) hq
  .refine⟨?_,g4 _ ho⟩;rw[h0];exact uw _ rfl
 cases a6:byT w with
 |true =>
  simp only[Lj,L0,Jz,Kc];refine gf (gQ ?_);refine gf (KI ho hd Z ?_);refine gf (JY (gQ ⟨_,rfl,"set_iterator",_,⟨_,uw _ rfl,rfl⟩,aR.lookup,?_⟩));have q:=Y (pickOrder (w.params.setOrder S ep) es).toList (λ_=>0) (oW _ _) rfl
   (λA' i s' Q' E' e he ao q=>oX ao hd Z a6 (by rw[<- JX,he];exact q))
   (λA' s' Q' E' ao q=>oX ao hd Z a6 (by rw[K5 (by simp)];exact q))
  simpa[rawInt]using q
 |false =>
  cases a9:(!t.plain&&decide (es.size > 1))with
  |false =>
   refine JG (λcr=>absurd (show(!false&&(!t.plain&&decide (es.size > 1)))=true from cr) (by rw[a9];simp)) (λ_=>?_);refine gf (gQ ?_);refine gf (KI ho hd Z ?_);refine gf (JY (gQ ⟨_,rfl,"set_iterator",_,⟨_,uw _ rfl,rfl⟩,aR.lookup,?_⟩));have b0:t.led=true:=by rw[b2.led,a6];rfl
   have cL:∀i,i<=t.place.size->SetTable.below t.place (match i with|0=>0|j+1=>t.place.getD j 0+1)=i:=λi hi=>by
    cases i<;>first|exact tP _ b2.rise|exact yo b2.rise (by omega)
   have q:=Y es.toList (λi=>match i with|0=>0|j+1=>t.place.getD j 0+1) (.refl _) rfl
    (λA' i s' Q' E' e he ao q=>mR ao hd Z a6 a9 b0 (by
     have hi:i<es.size:=by have:=(Jt.mp he).1;simpa using this
     rw[cL i (by omega)];rw[<- JX,he,Lo (by omega:i<t.place.size)];have e2:t.place.getD i 0=t.place[i]:=by simp[Array.getD,(by omega:i<t.place.size)]
     dsimp only at q ⊢;rw[e2]at q;exact q))
    (λA' s' Q' E' ao q=>mR ao hd Z a6 a9 b0 (by
     rw[cL _ (by simp[c0]),K5 (by simp)];exact q))
   simpa[rawInt]using q
  |true =>
   refine JG (λ_=>?_) (λcr=>absurd (show(!false&&(!t.plain&&decide (es.size > 1)))=true by rw[a9];rfl) cr);refine gf (jy _ _ _ (by simp) λz d' U=>?_);refine gf (wpAny_newTuple ?_ (by simp;have:=U.length_eq;simp at this;rw[this,JS];unfold scanBound at hb;omega));refine gf (KI (g4 _ ho) hd Z ?_);refine gf (JY (gQ ⟨_,rfl,"set_iterator",_,⟨_,uw _ rfl,rfl⟩,aR.lookup,?_⟩));have dV:z.length=es.size:=by have:=U.length_eq;simpa using this
   have c2:∀p∈z,p<es.size:=λp hp=>by have:=U.mem_iff.mp hp;simpa using this
   have c3:((s.heap.push { cls:=.type "tuple",data:=.seq (map (λ(i:Nat)=>rawInt i) z).toArray }).push { cls:=.type "set_iterator",data:=.fields #[.ref s.heap.objs.size,.int 0 0,.ref S,.int (es.size:Nat) 0,.int (ep:Nat) 0] }).get? s.heap.objs.size=some { cls:=.type "tuple",data:=.seq (map (λ(i:Nat)=>rawInt i) z).toArray }:=
    g4 _ (uw _ rfl)
   have q:=hQ (s.heap.push { cls:=.type "tuple",data:=.seq (map (λ(i:Nat)=>rawInt i) z).toArray }).objs.size
    ((s.heap.push { cls:=.type "tuple",data:=.seq (map (λ(i:Nat)=>rawInt i) z).toArray }).push { cls:=.type "set_iterator",data:=.fields #[.ref s.heap.objs.size,.int 0 0,.ref S,.int (es.size:Nat) 0,.int (ep:Nat) 0] }) d'
    [(s.heap.push { cls:=.type "tuple",data:=.seq (map (λ(i:Nat)=>rawInt i) z).toArray }).objs.size,S,s.heap.objs.size]
    (z.map λp=>(es.toList.map λe=>numOf e.2).getD p 0)
    (λi h=>SIt h (s.heap.push { cls:=.type "tuple",data:=.seq (map (λ(i:Nat)=>rawInt i) z).toArray }).objs.size S o (.ref s.heap.objs.size) i es.size ep/\h.get? s.heap.objs.size=some { cls:=.type "tuple",data:=.seq (map (λ(i:Nat)=>rawInt i) z).toArray })
    ?p1 (λb o e=>g4 _ (g4 _ e)) (by rw[JH];exact Kp _) ?p2 ?p3 ?p4 ⟨⟨uw _ rfl,g4 _ (g4 _ ho)⟩,c3⟩
   .simpa[rawInt]using q
   case p1 =>
    have e1:(es.toList.map λe=>numOf e.2).length=es.size:=by simp
    have h1:=U.map λp=>(es.toList.map λe=>numOf e.2).getD p 0
    rw[<- e1,Bo]at h1;exact h1.trans b1
   case p2 =>
    simp_all
   case p3 =>
    intro b hb;rw[JH];simp only[Jp,Kw,Lg]at hb;rcases hb with e|e|e
    .rw[e];exact KR _
    .rw[e,JH];exact JO (JO aO)
    .rw[e,JH];exact JO (KR _)
   case p4 =>
    refine⟨.head _,λi h st=>⟨_,st.1.1,rfl⟩,λi h h' st k=>⟨⟨k _ (.head _) _ st.1.1,k _ (.tail _ (.head _)) _ st.1.2⟩,k _ (.tail _ (.tail _ (.head _))) _ st.2⟩,λA' i s' Q' E' hi st hq=>?_,λA' s' Q' E' hh st hq=>?_⟩
    .rw[pe]at hi;obtain⟨p,hp⟩:∃p,z[i]?=some p:=⟨_,Jy hi⟩;have c4:=c2 p (KD hp);obtain⟨e,he⟩:∃e,es.toList[p]?=some e:=⟨_,Jy (by simpa using c4)⟩;obtain⟨tk,hv⟩:=eO cu e (KD he);have e3:(z.map λp=>(es.toList.map λe=>numOf e.2).getD p 0).getD i 0=numOf e.2:=by
      rw[Km,JF,hp];exact jU he
     rw[e3]at hq;refine mS (place:=p) (pt:=0) (hx:=e.1) (x:=e.2) st.1 hd Z rfl (by rw[JH];exact Jr (JO aO)) st.2 rfl (by simp[hp,rawInt]) (by rw[<- JX,he]) λh' cl sb=>?_
     rw[hv];exact hq tk h' ⟨cl,(sb.2 _ (by rw[JH];exact Jr (KR _))).trans st.2⟩ λb o hb q=>(sb.2 b hb).trans q
    .rw[pe]at st;exact mT hh st.1 hd Z rfl st.2 rfl (by simp) hq
def yr (U:s.TypeIs (.ref r) "set") (h:Q false s):wpAny (model P w) A (Builtin.List.listLengthHint (.ref r)) Q E s:=by
 unfold Builtin.List.listLengthHint;refine gf (LP U PySem.F.slot_set_len.lookup ?_);generalize J:("set.__len__":String)=Y
 wp_delta
 rw[show splitId Y=some ("set","__len__")from by subst J;decide +kernel];subst J;refine gf (Ke (T:="set") (b:=true) U (by rw[L1];kernel_rfl) ?_);refine JG (λz=>absurd z (by decide)) (λ_=>?_);refine JG (λ_=>?_) (λz=>absurd (by decide +kernel) z);refine gf (Lb U ?_);exact gQ h
set_option maxRecDepth 100000 in
def rA(hh:A.handled=none)(g:b6 P w s.heap S ks)
  (h:∀h' tk d' a4 J,(∀b o,s.heap.get? b=some o->h'.get? b=some o)->J.Perm ks->IntsAre a4 J->R a4 { s with heap:=h',toks:=tk,drawn:=d' }) :
  wpAny (model P w) A (collect (.ref S)) R E s:=by
 have b4:ks.length<scanBound:=by
  obtain⟨o,es,ep,t,ho,a5,hd,c2,hp,hn,hb,_⟩:=g;have:=hp.length_eq
  simp_all
 have Y:S<s.heap.objs.size:=by
  obtain⟨o,es,ep,t,ho,_⟩:=g;exact tf ho
 unfold collect;refine gf (wpAny_runValue (LR entry_proto_collect' ?_));rw[LS PySem.F.plain_proto_collect _];show wpAny _ A.in1 (newList [] >>= λl=>again (.builtin "list.__iadd__" ⟨[l,.ref S],[]⟩)) _ _ s;refine gf (JY ?_);refine gQ ⟨LI PySem.F.plain_list_iadd _,LR entry_list_iadd' ?_⟩;rw[LS PySem.F.plain_list_iadd _];have b5:(s.heap.push { cls:=.type "list",data:=.seq ([]:List Value).toArray }).get? s.heap.objs.size=some { cls:=.type "list",data:=.seq #[] }:=uw _ rfl;show wpAny _ A.in1 (Builtin.List.listExtendWith (.ref s.heap.objs.size) (.ref S) (.ref s.heap.objs.size)) _ _ _;have g1:b6 P w (s.heap.push { cls:=.type "list",data:=.seq ([]:List Value).toArray }) S ks:=g.at λo e=>g4 _ e
 have hT:Shared.TypeIs { s with heap:=s.heap.push { cls:=.type "list",data:=.seq ([]:List Value).toArray } } (.ref S) "set":=by
  obtain⟨o,es,ep,t,ho,a5,_⟩:=g1;exact⟨o,ho,a5.1⟩
 unfold Builtin.List.listExtendWith;refine gf (Lb (T:="set") hT ?_);have q1:Builtin.List.listSameRef (.ref s.heap.objs.size) (.ref S)=false:=by simp[Builtin.List.listSameRef,Kx Y]
 have q2:(Value.type "set" == Value.type "list")=false:=by decide
 have q3:(Value.type "set" == Value.type "tuple")=false:=by decide
 simp only[q1,q2,q3,Bool.or_false,Jz,Kc];refine gf (yq g1 λI h1 d1 fp J St Z kp hI cd dm W st=>?_);have a7:(s.heap.push { cls:=.type "list",data:=.seq ([]:List Value).toArray }).objs.size=s.heap.objs.size+1:=JH ..;have a8:s.heap.objs.size∉fp:=λhm=>by
  rcases cd _ hm with e|e
  .exact J5 _ (by rw[<- e]at Y;exact Y)
  .dsimp only at e;rw[a7]at e;exact Nat.not_succ_le_self _ e
 have hol:J.length<=sizeLine:=by
  have:=Z.length_eq;rw[this];exact Kt b4
 have ck:Shared.TypeIs { s with heap:=h1,drawn:=d1 } (.ref S) "set":=by
  obtain⟨o,e,c⟩:=hT;exact⟨o,kp S o e,c⟩
 refine gf (JU (yr ck ?_));have WS:=(W.walks (A:=A.in1) (by first|exact hh|simpa using hh)).toS;have fin:∀h2 c1,St 0 h2->(∀b o,b≠s.heap.objs.size->h1.get? b=some o->h2.get? b=some o)->h2.get? s.heap.objs.size=some { cls:=.type "list",dict:=none,data:=.seq #[] c1,slots:=#[] } ->
   codeAny (model P w) A (.builtin "list.extend.loop" ⟨[.ref s.heap.objs.size,.ref I,.ref s.heap.objs.size],[]⟩)
    (λr s'=>∃h' tk U c',r=.ok (.ret (.ref s.heap.objs.size))/\s'={ s with heap:=h',toks:=tk,drawn:=d1 }/\(∀b o,s.heap.get? b=some o->h'.get? b=some o) /\
     h'.get? s.heap.objs.size=some { cls:=.type "list",dict:=none,data:=.seq U c',slots:=#[] }/\IntsAre U.toList J) { s with heap:=h2,drawn:=d1 }:=by
  intro h2 c1 cr k2 ao;refine codeAny_extend_loopS WS hol s.heap.objs.size a8 _ J.length 0 _ #[] c1 rfl (JZ _) cr ao (ItemsOf.nil _) λs' U c' hm aO a9=>?_
  refine⟨s'.heap,s'.toks,U,c',rfl,(by
   obtain⟨h',g',cu,dt,dV⟩:=s';have eg:g'=s.gens:=hm.gens;have ed:cu=d1:=hm.drawn;have eo:=hm.os;subst eg;subst ed;subst eo;rfl),λb o e=>?_,aO,jh a9⟩
  have b0:=Jr (tf e);refine hm.heap b o (λb1=>?_) (k2 b o b0 (kp b o (g4 _ e)));rcases Jp.mp b1 with z|z
  .exact b0 z
  .have cC:=JE.mp z;rw[cC]at e;have b2:=hI;rw[a7]at b2;exact absurd (Jw (tf e) (Nat.le_of_succ_le b2)) (J5 _)
 have done:∀r s',(∃h' tk U c',r=.ok (.ret (.ref s.heap.objs.size))/\s'={ s with heap:=h',toks:=tk,drawn:=d1 }/\(∀b o,s.heap.get? b=some o->h'.get? b=some o) /\
     h'.get? s.heap.objs.size=some { cls:=.type "list",dict:=none,data:=.seq U c',slots:=#[] }/\IntsAre U.toList J) ->
   wants (λv s'=>wpAny (model P w) A (match v with
    |Value.ref a=>do
     match (<- load a).data with
      |Data.seq xs _=>pure xs.toList
      | _=>unsupported "internal:collect"
    | _=>unsupported "internal:collect") R E s') E r s':=by
  rintro r s' ⟨h',tk,U,c',rfl,rfl,k',aO,hi⟩;show wpAny _ A (load s.heap.objs.size >>= _) _ _ _;refine gf (wpAny_load aO ?_);exact gQ (h h' tk d1 U.toList J k' Z hi)
 have a0:=kp _ _ b5;refine JG (λ_=>?_) (λ_=>gQ ⟨LI PySem.F.plain_extend_loop _,La (fin h1 0 st (λ_ _ _ e=>e) a0) done⟩);refine gf (KL ?_);refine gf ?_;show wpAny _ _ (updateSeq s.heap.objs.size (·.push .none) >>= λ_=>updateSeq s.heap.objs.size (·.pop)) _ _ _;refine gf (LV a0 rfl ?_);have ao:=JW (Obj.mapSeq (·.push Value.none)) a0 rfl;refine LV (hz:=by seq_fits) ao rfl ?_;have cL:=JW (Obj.mapSeq (·.pop)) ao rfl;refine gQ ⟨LI PySem.F.plain_extend_loop _,La (fin _ _ ?_ (λb o hb e=>?_) cL) done⟩
 .refine W.frame 0 _ _ st λb hb o e=>?_
  have b3:b≠s.heap.objs.size:=λz=>a8 (z▸hb)
  exact(Ka _ _ (KW b3)).trans ((Ka _ _ (KW b3)).trans e)
 .exact(Ka _ _ (KW hb)).trans ((Ka _ _ (KW hb)).trans e)
end
end L2.St
namespace L2
open PySem PySem.Spec PyProof.Rows List Option
noncomputable def lV(scope osc:Scope):Scope:=
 { scope with names:=scope.names.map λ(n,k)=>if (k==.free&&osc.kind==.function&&osc.names.lookup n==some .cell)then(n,.cell)else(n,k) }
noncomputable def oE(osc:Scope)(n:Str)(k:NameKind):NameKind:=if (k==.free&&osc.kind==.function&&osc.names.lookup n==some .cell)then .cell else k
def jz(scope osc):(lV scope osc).names=scope.names.map λq=>(q.1,oE osc q.1 q.2):=by
 refine Kn λq _=>?_
 obtain⟨n,k⟩:=q;show(if _=true then _ else _)=(n,oE osc n k);unfold oE;split<;>rfl
theorem fz{α z:Type}(g:Str->α->z)(y):∀names:List (Str×α),(names.map λq=>(q.1,g q.1 q.2)).lookup y=(names.lookup y).map (g y)
 | []=>rfl
 | (n,k)::r=>by
  cases hx:y==n with
  |true =>
   simp[lookup_cons,hx,map_some];rw[eq_of_beq hx]
  |false =>
   simp[lookup_cons,hx];exact fz g y r
def wB(osc)(n):oE osc n .free=.cell\/oE osc n .free=.free:=by
 unfold oE;split
 .exact .inl rfl
 .exact .inr rfl
def wC(z:k≠.cell)(h:oE osc n k=.cell\/oE osc n k=.free):k=.free:=by
 unfold oE at h;by_cases hc:(k==NameKind.free&&osc.kind==.function&&osc.names.lookup n==some .cell)=true
 .simp_all
 .simp_all
theorem jA{α:Type}{k:α}:∀{l:List (Str×α)},l.lookup y=some k->(y,k)∈l
 | [],h=>by simp at h
 | (n,z)::r,h=>by
  cases hx:y==n with
  |true =>
   simp only[lookup_cons,hx]at h;rw[eq_of_beq hx,Jv h];exact .head _
  |false =>
   simp[lookup_cons,hx]at h;exact .tail _ (jA h)
def wD(h:scope.names.lookup y=some .free):(lV scope osc).names.lookup y=some .cell\/(lV scope osc).names.lookup y=some .free:=by
 rw[jz,fz,h,map_some];rcases wB osc y with e|e
 .exact .inl (by rw[e])
 .exact .inr (by rw[e])
def wE(U:∀z∈scope.names,z.2=.cell->z.1=x)(h:(lV scope osc).names.lookup y=some .cell\/(lV scope osc).names.lookup y=some .free):(y,NameKind.free)∈scope.names\/(y=x/\scope.names.lookup x=some .cell):=by
 rw[jz,fz]at h;cases e:scope.names.lookup y with
 |none=>rw[e]at h;rcases h with h|h<;>cases h
 |some k =>
  rw[e,map_some]at h;have J:=jA e;by_cases hc:k=.cell
  .subst hc;have q:=U _ J rfl;exact .inr ⟨q,by rw[<- q];exact e⟩
  .have Y:=wC hc (h.elim (λz=>.inl (Jv z)) λz=>.inr (Jv z));rw[Y]at J;exact .inl J
def wF(h:scope.names.lookup y=some .cell):(lV scope osc).names.lookup y=some .cell:=by
 rw[jz,fz,h,map_some];unfold oE;split
 .rfl
 .rfl
noncomputable def fP(env:Env):List (Str×NameKind)->List (Str×Addr)->List (Str×Addr)
 | [],acc=>acc
 | (n,k)::r,acc=>if k==.free then fP env r ((n,(env.cells.lookup n).getD 0)::acc)else fP env r acc
theorem kP :∀names z,(∀y∈names,y.2=.free->∃c,env.cells.lookup y.1=some c) ->
  (forIn names z λx r=>(match x with|(name,kind)=>if (kind==NameKind.free)=true then do let c <- cellOf env name;pure (ForInStep.yield ((name,c)::r))else pure (ForInStep.yield r)):Sem (List (Str×Addr)))=pure (fP env names z)
 | [],z,_=>rfl
 | (n,k)::r,z,h=>by
  rw[forIn_cons];have U:∀y∈r,y.2=.free->∃c,env.cells.lookup y.1=some c:=λy Y=>h y (.tail _ Y)
  by_cases J:(k==NameKind.free)=true
  .obtain⟨c,hc⟩:=h (n,k) (.head _) (eq_of_beq J);dsimp only;rw[if_pos J];have Z:cellOf env n=pure c:=by unfold cellOf;rw[hc]
   rw[Z];simp only[pure_bind];rw[kP r _ U];show _=pure (if _=true then _ else _);rw[if_pos J,hc]
   all_goals rfl
  .dsimp only;rw[if_neg J];simp only[pure_bind];rw[kP r _ U];show _=pure (if _=true then _ else _);rw[if_neg J]
def mU(h:∀y∈scope.names,y.2=.free->∃c,env.cells.lookup y.1=some c):closureFor scope env=pure (fP env scope.names []):=by
 unfold closureFor;have:=kP scope.names [] h
 first
  | exact this
  | (rw[bind_pure];exact this)
  | simpa using this
theorem mV :∀names J,(∀z∈names,z.2=.free->∃c,env.cells.lookup z.1=some c)->(∀c,J.lookup y=some c->env.cells.lookup y=some c) ->
  (fP env names J).lookup y=some c->env.cells.lookup y=some c
 | [],J,_,U,e=>U c e
 | (n,k)::r,J,h,U,e=>by
  have hr:∀y∈r,y.2=.free->∃c,env.cells.lookup y.1=some c:=λy hy=>h y (.tail _ hy)
  have Y:(if (k==NameKind.free)=true then fP env r ((n,(env.cells.lookup n).getD 0)::J)else fP env r J).lookup y=some c:=e;by_cases Z:(k==NameKind.free)=true
  .rw[if_pos Z]at Y;refine mV r _ hr (λc' q=>?_) Y;cases hx:y==n with
   |true =>
    obtain⟨c0,a1⟩:=h (n,k) (.head _) (eq_of_beq Z)
    simp_all
   |false =>
    simp[lookup_cons,hx]at q;exact U c' q
  .rw[if_neg Z]at Y;exact mV r _ hr U Y
theorem jV :∀names J,((y,NameKind.free)∈names\/∃c,J.lookup y=some c)->∃c,(fP env names J).lookup y=some c
 | [],J,h=>by
  rcases h with h|h
  .simp at h
  .exact h
 | (n,k)::r,J,h=>by
  show ∃c,(if (k==NameKind.free)=true then fP env r ((n,(env.cells.lookup n).getD 0)::J)else fP env r J).lookup y=some c;by_cases U:(k==NameKind.free)=true
  .rw[if_pos U];refine jV r _ ?_;cases hx:y==n with
   |true=>exact .inr ⟨(env.cells.lookup n).getD 0,by simp[lookup_cons,hx]⟩
   |false =>
    rcases h with h|⟨c,h⟩
    .simp_all
    .exact .inr ⟨c,by simp[lookup_cons,hx];exact h⟩
  .rw[if_neg U];refine jV r _ ?_;rcases h with h|h
   .rcases Jp.mp h with z|z
    .have:=(Prod.mk.inj z).2
     simp_all
    .exact .inl z
   .exact .inr h
structure kQ(osc:Scope)(N:List Str)(scope:Scope)(x:Str)(fvs:List Str)(js:List Nat):Prop where
 cells:∀y∈scope.names,y.2=.cell->y.1=x
 once:scope.names.lookup x=some .local/\(scope.names.filter λy=>y.2==.cell)=[]\/scope.names.lookup x=some .cell/\(scope.names.filter λy=>y.2==.cell)=[(x,.cell)]
 xf:∀y∈scope.names,y.2=.free->y.1≠x
 kind:scope.kind=.function
 names:∀y∈scope.names,y.2=.local->scope.names.lookup y.1=some .local
 nd:(x::fvs).Nodup
 out:∀y∈scope.names,y.2=.free->osc.names.lookup y.1=some .cell\/osc.names.lookup y.1=some .free
 slots:(js.map λj=>N[j]?)=fvs.map some
 free:∀y∈fvs,scope.names.lookup y=some .free
structure u8(osc:Scope)(N:List Str)(scope:Scope)(x:Str)(ys fvs:List Str)(js:List Nat):Prop where
 cells:∀y∈scope.names,y.2=.cell->y.1=x
 once:scope.names.lookup x=some .local/\(scope.names.filter λy=>y.2==.cell)=[]\/scope.names.lookup x=some .cell/\(scope.names.filter λy=>y.2==.cell)=[(x,.cell)]
 xf:∀y∈scope.names,y.2=.free->y.1≠x
 kind:scope.kind=.function
 names:∀y∈scope.names,y.2=.local->scope.names.lookup y.1=some .local
 nd:(x::(ys++fvs)).Nodup
 out:∀y∈scope.names,y.2=.free->osc.names.lookup y.1=some .cell\/osc.names.lookup y.1=some .free
 slots:(js.map λj=>N[j]?)=fvs.map some
 free:∀y∈fvs,scope.names.lookup y=some .free
theorem kQ.g(h:kQ osc N scope x fvs js):u8 osc N scope x [] fvs js:=⟨h.cells,h.once,h.xf,h.kind,h.names,h.nd,h.out,h.slots,h.free⟩
noncomputable def kR(scope:Scope)(x:Str)(C:Addr):List (Str×Addr):=if scope.names.lookup x=some .cell then [(x,C+1)]else []
noncomputable def Cx.blk(X:Cx)(x:Str)(fvs:List Str)(scope:Scope)(z:Shared)(J:Hp)(C:Addr)(fp:List Addr):Cx:=
 { X with N:=x::fvs,s₀:=z,H₀:=J,env:=compEnvC scope (kR scope x C++fP X.env scope.names []) C X.env,outer:=X.stack,ex:=fp,fn:=λy=>decide (y=x/\scope.names.lookup x=some .cell),pn:=[],xe:=λ_ _=>False }
theorem mW :∀{names:List (Str×NameKind)}{z}{s}{Q},(names.filter λy=>y.2==.cell)=[]->Q z s ->
  wpAny M A (forIn names z λx r=>(match x with|(name,kind)=>if (kind==NameKind.cell)=true then do let c <- alloc { cls:=.type "cell",data:=.cell none };pure (ForInStep.yield ((name,c)::r))else pure (ForInStep.yield r)):Sem (List (Str×Addr))) Q E s
 | [],_,_,_,_,h=>gQ h
 | (n,k)::r,z,s,Q,hf,h=>by
  rw[forIn_cons];have J:(k==NameKind.cell)=false:=by
   simp_all
  rw[JT (by rw[J];decide)]at hf;dsimp only;rw[if_neg (by rw[J];decide)];exact gf (gQ (mW hf h))
theorem oY{x:Str}:∀{names:List (Str×NameKind)}{z}{s}{Q},(names.filter λy=>y.2==.cell)=[(x,.cell)] ->
  Q ((x,s.heap.objs.size)::z) { s with heap:=s.heap.push { cls:=.type "cell",data:=.cell none } } ->
  wpAny M A (forIn names z λx r=>(match x with|(name,kind)=>if (kind==NameKind.cell)=true then do let c <- alloc { cls:=.type "cell",data:=.cell none };pure (ForInStep.yield ((name,c)::r))else pure (ForInStep.yield r)):Sem (List (Str×Addr))) Q E s
 | [],_,_,_,hf,_=>by cases hf
 | (n,k)::r,z,s,Q,hf,h=>by
  rw[forIn_cons];dsimp only;cases J:(k==NameKind.cell)with
  |false =>
   rw[JT (by rw[J];decide)]at hf;exact gf (gQ (oY hf h))
  |true =>
   rw[J8 (by exact J)]at hf;obtain⟨U,Y⟩:=List.cons.inj hf;cases U;exact gf (gf (wpAny_alloc (gQ (mW Y h))))
def tQ{scope:Scope}{x:Str}{globals:Addr}{Z:List (Str×Addr)}{qual:Str}{env:Env}{s:Shared}{Q:Env->Shared->Prop}(hk:scope.kind=.function)
  (ho:scope.names.lookup x=some .local/\(scope.names.filter λy=>y.2==.cell)=[]\/scope.names.lookup x=some .cell/\(scope.names.filter λy=>y.2==.cell)=[(x,.cell)])
  (h:∀h' m,h'.Ns s.heap.objs.size m->(∀b u,s.heap.get? b=some u->h'.get? b=some u)->(scope.names.lookup x=some .cell->h'.IsCell (s.heap.objs.size+1) none)->Q (newEnv scope s.heap.objs.size globals (kR scope x s.heap.objs.size++Z) qual none .none (some env) builtinsNs) { s with heap:=h' }) :
  wpAny M A (newFunctionEnv scope globals Z [] qual none .none (some env)) Q E s:=by
 rcases ho with⟨h1,h2⟩|⟨h1,h2⟩
 .refine wpAny_newFunctionEnv (λy J z=>?_) (by intro y J;simp at J) (λh' U Y=>?_) hk
  .have:y∈scope.names.filter λy=>y.2==.cell:=JI.mpr ⟨J,by rw[z];rfl⟩
   rw[h2]at this;cases this
  .have q:=h h' _ U (λb u e=>Y.extBut b u (Jr (tf e)) (g4 _ e)) λz=>by rw[h1]at z;cases z
   unfold kR at q
   simp_all
 .unfold newFunctionEnv;refine gf (wpAny_alloc (gf (oY h2 ?_)));have hn:=Heap.Ns.new s.heap (.type "dict");have hs:(s.heap.push { cls:=.type "dict",data:=.dict #[] }).objs.size=s.heap.objs.size+1:=JH _ _;have q:=h ((s.heap.push { cls:=.type "dict",data:=.dict #[] }).push { cls:=.type "cell",data:=.cell none }) _ (hn.keeps λb o e=>g4 _ e) (λb u e=>g4 _ (g4 _ e)) λ_=>⟨_,by rw[<- hs];exact uw _ rfl,rfl⟩
  unfold kR at q;rw[if_pos h1]at q;rw[<- hs]at q;exact gf (gQ (gQ q))
noncomputable def fo(js:List Nat)(σ:St):St:=none::js.map λj=>(σ[j]?).join
noncomputable def wG(n:Nat)(js:List Nat)(σ:St):St:=none::(replicate n none++js.map λj=>(σ[j]?).join)
def PF(X:Cx)(ifs:List Expr)(t:TT):Prop:=
 ∀pins s (σ:St) H Q,Inv X pins σ H s->t σ H Q ->
  wpAny (model X.prog X.w) X.A (forIn ifs true λc r=>if r=true then do let ok <- isTrue c X.env (eval c X.env);pure (ForInStep.yield ok)else pure (ForInStep.yield r)) (TP X pins σ Q) X.xe s
noncomputable def IS:TT:=λ_ H Q=>Q true H
def DS :PF X [] IS:=λ_ _ _ H _ I h=>wpAny_tests_nil ⟨H,I,h⟩
def DT(h:PT X c t):PF X [c] t:=λpins s σ H Q I q=>wpAny_tests_one (h pins s σ H Q I q)
section
variable{prog:Program}{w:World}{A:Around}{R:Result->Shared->Prop}{s:Shared}
def wH{elt target iter:Expr}{ifs:List Expr}{scope:Scope}{pos:Pos}{it U:Value}{env:Env}(J:Nat->Shared->Prop)
  (turn:∀n s,J n s->wpAny (model prog w) A (pyNext it) (λr Z=>match r with
   |none=>R (.ok .next) Z
   |some v=>wpAny (model prog w) A (letOwnedTupleGo target it v) (λ_ s2=>wpAny (model prog w) A (assign target env v) (λ_ s3 =>
     wpAny (model prog w) A (forIn ifs true λc r=>if r=true then do let ok <- isTrue c env (eval c env);pure (ForInStep.yield ok)else pure (ForInStep.yield r)) (λok s4 =>
      if ok=true then wpAny (model prog w) A (eval elt env) (λx s5 =>
       wpAny (model prog w) A (call (.builtin "list.append") [U,x]) (λ_ s6=>∃m,m<n/\J m s6) (λ_ _=>False) s5) (λ_ _=>False) s4
      else ∃m,m<n/\J m s4) (λ_ _=>False) s3) (λ_ _=>False) s2) (λ_ _=>False) Z) (λ_ _=>False) s)
  (n) (h:J n s):codeAny (model prog w) A (.compLoop (.ListComp elt [⟨target,iter,ifs,0⟩] scope pos) 0 it U env) R s:=by
 have Y:∀{α}{t}{Q:α->Shared->Prop}{E}{s},wpAny (model prog w) A t Q (λ_ _=>False) s->wpAny (model prog w) A t Q E s:=λq=>JR q (λ_ _ z=>z) λ_ _ z=>z.elim
 refine codeAny_loop rfl J (λn s hJ=>?_) n h;show wpAny _ A ((compTurn (.ListComp elt [⟨target,iter,ifs,0⟩] scope pos) 0 it U env).onRaise (λx=>do noteFrame x env;theTreesLotGoes x)) _ _ s;refine wpAny_noted ?_;rw[compTurn_list];refine gf (wpAny_standAt (gf (JR (Y (turn n s hJ)) (λr Z h1=>?_) λ_ _ z=>z)));cases r with
 |none=>exact gQ h1
 |some v =>
  refine gf (JR (Y h1) (λ_ s2 h2=>?_) λ_ _ z=>z);refine gf (JR (Y h2) (λ_ s3 h3=>gf (JR (Y h3) (λok s4 h4=>?_) λ_ _ z=>z)) λ_ _ z=>z);cases ok<;>first|exact gQ ⟨rfl,h4⟩|exact gf (gf (JR (Y h4) (λx s5 h5=>gf (JR (Y h5) (λ_ s6 h6=>gQ (gQ ⟨rfl,h6⟩)) λ_ _ z=>z)) λ_ _ z=>z))
end
def rB(J:It)(U:St)(H1:Hp)(tt:TT)(te:TE)(D:Addr)(Q:VK):Prop:=
 ∃W:Nat->Nat->St->Hp->Prop,(∃m,W 0 m U (upd H1 D (.lst [])))/\∀i m F H',W i m F H' ->
  (J.stop i H'/\Q (.ref D) H')\/(J.go i H'/\∃N:St->Hp->Prop,(∀z H2,N z H2->∃Y,Y<m/\W (i+1) Y z H2)/\∀x H2,J.yld i H' x H2 ->
   tt (F.set 0 (some x)) H2 λb Z=>if b=true then te (F.set 0 (some x)) Z λy H4=>∃ys,H4 D=some (.lst ys)/\ys.length<sizeLine/\N (F.set 0 (some x)) (upd H4 D (.lst (ys++[y])))else N (F.set 0 (some x)) Z)
def yt(J:It)(g:TG)(Y:St)(H1:Hp)(tt:TT)(te:TE)(D:Addr)(Q:VK):Prop:=
 ∃W:Nat->Nat->St->Hp->Prop,(∃m,W 0 m Y (upd H1 D (.lst [])))/\∀i m F H',W i m F H' ->
  (J.stop i H'/\Q (.ref D) H')\/(J.go i H'/\∃N:St->Hp->Prop,(∀U H2,N U H2->∃Z,Z<m/\W (i+1) Z U H2)/\∀x H2,J.yld i H' x H2 ->
   g x F H2 λz H3=>tt z H3 λb H4=>if b=true then te z H4 λy H5=>∃ys,H5 D=some (.lst ys)/\ys.length<sizeLine/\N z (upd H5 D (.lst (ys++[y])))else N z H4)
theorem rB.g(h:rB J z H1 tt te D Q):yt J (jd 0) z H1 tt te D Q:=h
noncomputable def yu(wi:TI)(js:List Nat)(tt:TT)(te:TE):TE:=λσ H Q=>wi σ H λJ H1=>∀D,H1 D=none->rB J (fo js σ) H1 tt te D Q
section
variable{X:Cx}{elt iter:Expr}{x:Str}{px:Pos}{ifs:List Expr}{scope:Scope}{pos:Pos}{fvs:List Str}{js:List Nat}{wi:TI}{tt:TT}{te:TE}
def tR{ys:List Str}(Z:u8 X.env.scope X.N scope x ys fvs js)(hc:X.calm=true)(hg:∀a0 a3 C fp,PG (X.blk x (ys++fvs) scope a0 a3 C fp) tg g)
  (ht:∀a0 a3 C fp,PF (X.blk x (ys++fvs) scope a0 a3 C fp) ifs tt) (he:∀a0 a3 C fp,PE (X.blk x (ys++fvs) scope a0 a3 C fp) elt te)
  {pins:List (Addr×Obj)}{σ:St}{H2:Hp}{U:Shared}{Q:VK}{it:Addr}{fp:List Addr}{tn:Nat->Heap->Prop}{J:It}{RR:Value->Addr->Result->Shared->Prop}
  (I2:Inv X pins σ H2 U) (T:tj X.prog X.w X.K tg J fp it tn) (dV:tn 0 U.heap) (f2:∀b∈fp,kF X pins H2 b)
  (hh:∀D,H2 D=none->yt J g (wG ys.length js σ) H2 tt te D Q)
  (fin:∀D C H' s',Inv X pins σ H' s'->(∃m,s'.heap.Ns C m)->H' C=none->C≠X.env.locals->X.s₀.heap.objs.size<=C->(∀y c,X.env.cells.lookup y=some c->c≠C)->(∀p∈X.pn++pins,p.1≠C)->Q (.ref D) H' ->
   RR (.ref D) C (.ok .next) s') {E:Value->Shared->Prop} :
  wpAny (model X.prog X.w) X.A (newList []) (λacc s3=>wpAny (model X.prog X.w) X.A (newFunctionEnv scope X.env.globals (fP X.env scope.names []) [] X.env.qual none .none (some X.env)) (λcu s4 =>
   codeAny (model X.prog X.w) X.A (.compStart (.ListComp elt [⟨tg,iter,ifs,0⟩] scope pos) 0 (.ref it) acc { cu with scope:=relabel scope X.env }) (RR acc cu.locals) s4) E s3) E U:=by
 have fr:∀y∈scope.names,y.2=.free->∃c,X.env.cells.lookup y.1=some c:=λy hy hk=>I2.ok.has y.1 (Z.out y hy hk)
 have sub:∀y c,(fP X.env scope.names []).lookup y=some c->X.env.cells.lookup y=some c:=λy c e=>mV scope.names [] fr (λ_ q=>by simp at q) e
 refine JY (tQ (x:=x) Z.kind Z.once λh1 m1 a6 a7 a8=>?_);dsimp only at a6 a7 a8 ⊢;have Y:Inv X pins σ (upd H2 U.heap.objs.size (.lst [])) { U with heap:=U.heap.push { cls:=.type "list",data:=.seq ([]:List Value).toArray },toks:=U.toks }:=I2.lnew (ys:=[]) (its:=[]) .nil (JZ _);generalize hG:U.heap.push { cls:=.type "list",dict:=none,data:=.seq ([]:List Value).toArray }=G at a6 a7 a8 Y ⊢;have hC:G.objs.size=U.heap.objs.size+1:=by rw[<- hG,JH]
 obtain⟨W,⟨m0,w0⟩,turn⟩:=hh U.heap.objs.size I2.fresh;have up:=a7;have aO:∀{y}{c},(kR scope x G.objs.size++fP X.env scope.names []).lookup y=some c->(y=x/\scope.names.lookup x=some .cell/\c=G.objs.size+1)\/(fP X.env scope.names []).lookup y=some c:=λ{y c} e=>by
  unfold kR at e;by_cases q:scope.names.lookup x=some .cell
  .rw[if_pos q]at e;by_cases z:(y==x)=true
   .rw[cons_append,lookup_cons,z]at e;exact .inl ⟨eq_of_beq z,q,(Jv e).symm⟩
   .rw[cons_append,lookup_cons,(LM _).mp z]at e;exact .inr e
  .rw[if_neg q]at e;exact .inr e
 have gx:∀{H'}{s'},Inv X pins σ H' s'->True:=λ_=>trivial
 have nC:=Y.hok.fresh (pd _);have cL:=Kx Y.lt;have cS:=Y.sz;have cC:∀y c,X.env.cells.lookup y=some c->c≠G.objs.size:=λy c e z=>by
  obtain⟨v,q⟩:=Y.cell y c e;exact absurd (show c<G.objs.size from q.lt) (by rw[z];exact J5 _)
 have cP:∀p∈X.pn++pins,p.1≠G.objs.size:=λp hp z=>absurd (show p.1<G.objs.size from tf (Y.pin p hp).1) (by rw[z];exact J5 _)
 have c2:∀b∈fp,b<U.heap.objs.size:=λb hb=>by
  obtain⟨o,e,_⟩:=T.obj 0 _ dV b hb;exact tf e
 have ok:(X.blk x (ys++fvs) scope { U with heap:=G,toks:=U.toks } (upd H2 U.heap.objs.size (.lst [])) G.objs.size fp).Ok:=by
  have hb:∀b∈fp,b∉frs X.stack:=λb hb z=>(Jp.mp (I2.stkSub b z)).elim (f2 b hb).2.1 (f2 b hb).2.2.1
  exact {
   mod:=Y.ok.mod
   kind:=by show(relabel scope X.env).kind=_;exact Z.kind
   glob:=Y.ok.glob
   blt:=Y.ok.blt
   above:=pd _
   inj:=λy z c e1 e2=>by
    have lt:∀{y},(fP X.env scope.names []).lookup y=some c->c<G.objs.size:=λ{y} e=>by
     obtain⟨v,q⟩:=Y.cell y c (sub y c e);exact q.lt
    rcases aO e1 with⟨a1,_,a2⟩|a1
    .rcases aO e2 with⟨b1,_,_⟩|b1
     .rw[a1,b1]
     .exact absurd (lt b1) (by rw[a2];exact LD.mpr (Kp _))
    .rcases aO e2 with⟨_,_,b2⟩|b1
     .exact absurd (lt a1) (by rw[b2];exact LD.mpr (Kp _))
     .exact Y.ok.inj y z c (sub y c a1) (sub z c b1)
   has:=λy hy=>by
    show ∃c,(kR scope x G.objs.size++fP X.env scope.names []).lookup y=some c;unfold kR;rcases wE Z.cells hy with hm|⟨e,q⟩
    .obtain⟨c,ec⟩:=jV (env:=X.env) scope.names [] (.inl hm);by_cases q:scope.names.lookup x=some .cell
     .have z:=KS.mpr (Z.xf _ hm rfl);exact⟨c,by rw[if_pos q,cons_append,lookup_cons,z];exact ec⟩
     .exact⟨c,by rw[if_neg q];exact ec⟩
    .subst e;exact⟨G.objs.size+1,by rw[if_pos q,cons_append,lookup_cons,Kd]⟩
   cab:=λy c h e=>by
    obtain⟨h1,h2⟩:=J0 h;have e':(kR scope x G.objs.size++fP X.env scope.names []).lookup y=some c:=e;unfold kR at e';rw[if_pos h2,h1,cons_append,lookup_cons,Kd]at e';rw[<- Jv e'];exact Kp _
   hd:=Y.ok.hd
   frames:=Y.ok.frames
   stk:=.inl rfl
   exf:=λb a9=>⟨Jr (show b<G.objs.size from Jw (c2 b a9) (by rw[hC];exact Kp _)),λy c e=>by
    rcases aO e with⟨_,_,a⟩|a
    .rw[a,hC];exact Kx (Jw (c2 b a9) (Js (Kp _) (Kp _)))
    .exact(f2 b a9).2.2.2.2.1 y c (sub y c a)⟩
   bs:=Y.bs
   bsz:=Js Y.ok.bsz Y.sz
   noex:=λb o e a9=>by
    have q:=(f2 b a9).2.2.2.1;rcases q with q|q
    .exact Y.ok.noex b o e q
    .exact absurd (Jw (tf e) (Js Y.ok.bsz q)) (J5 _)
   exfs:=hb
   funs:=Y.stack
   frf:=Y.stkFree }
 have eb:(wG ys.length js σ).length=(x::(ys++fvs)).length:=by
  have e:=JK List.length Z.slots;simp only[pe]at e;simp[wG,e]
 have I4:Inv (X.blk x (ys++fvs) scope { U with heap:=G,toks:=U.toks } (upd H2 U.heap.objs.size (.lst [])) G.objs.size fp) [] (wG ys.length js σ) (upd H2 U.heap.objs.size (.lst [])) { U with heap:=h1,toks:=U.toks }:=by
  refine⟨ok,rfl,Y.bare,Un.kept up,⟨_,a6,λi y v e1 e2 e3=>?_⟩,λy c e=>?_,nC,λy c e=>(aO e).elim (λ⟨_,_,a⟩=>by rw[a];exact Y.hok.fresh (Kp _)) λa=>Y.freeC y c (sub y c a),λp hp=>by simp[Cx.blk]at hp,Y.hok.kept up,eb⟩
  .cases i with
   |zero=>simp[wG]at e2
   |succ i0 =>
    have c3:(ys++fvs)[i0]?=some y:=e1;have b0:(replicate ys.length none++js.map λj=>(σ[j]?).join)[i0]?=some (some v):=by simpa[wG]using e2
    by_cases cd:i0<ys.length
    .rw[Kg (by simpa using cd),Lv,if_pos cd]at b0;cases b0
    rw[KC (by simpa using Nat.le_of_not_lt cd),length_replicate]at b0;rw[KC (Nat.le_of_not_lt cd)]at c3;generalize i0-ys.length=i at c3 b0;have ed:=c3;have hm:=KD ed;have ee:=Z.free y hm;have c4:=jA ee;have b3:=b0;rw[JF]at b3;cases ej:js[i]? with
    |none=>rw[ej]at b3;cases b3
    |some j =>
     rw[ej]at b3;have ck:(σ[j]?).join=some v:=Jv b3;have e4:σ[j]?=some (some v):=by
      cases q:σ[j]? with
      |none=>rw[q]at ck;cases ck
      |some z=>rw[q]at ck;exact JK some ck
     have e5:X.N[j]?=some y:=by
      have q:=JK (λl=>l[i]?) Z.slots;simp only[JF,ej,ed,map_some]at q;exact Jv q
     obtain⟨m,hn,hl⟩:=Y.loc;have c0:=Z.out (y,.free) c4 rfl;obtain⟨u,ru,lk⟩:=hl j y v e5 e4 (.inr c0);refine⟨u,ru,.inr ⟨?_,?_⟩⟩
     .show(relabel scope X.env).names.lookup y=_\/(relabel scope X.env).names.lookup y=_;exact wD (osc:=X.env.scope) ee
     .obtain⟨c,ec⟩:=jV (env:=X.env) scope.names [] (.inl c4);have nx:=KS.mpr (Z.xf _ c4 rfl);refine⟨c,?_,?_⟩
      .show(kR scope x G.objs.size++fP X.env scope.names []).lookup y=some c;unfold kR;split
       .rw[cons_append,lookup_cons,nx];exact ec
       .exact ec
      rcases lk with⟨z,_⟩|⟨_,c',eL,q⟩
      .have z':X.env.scope.names.lookup y=some .local:=z;rcases c0 with w|w
       .rw[show X.env.scope.names.lookup y=some .cell from w]at z';cases z'
       .rw[show X.env.scope.names.lookup y=some .free from w]at z';cases z'
      .have:=sub y c ec;rw[eL]at this;cases this;obtain⟨o,ho,hd⟩:=q;exact⟨o,up _ _ ho,hd⟩
  .rcases aO e with⟨_,q,a⟩|a
   .exact⟨none,by rw[a];exact a8 q⟩
   .obtain⟨v,o,ho,hd⟩:=Y.cell y c (sub y c a);exact⟨v,o,up _ _ ho,hd⟩
 have ef:=T.keep 0 _ _ dV λb hb o e=>up b o (by rw[<- hG];exact g4 _ e)
 have eP:∀b∈fp,(upd H2 U.heap.objs.size (.lst [])) b=none:=λb hb=>by
  rw[aZ (Jr (c2 b hb))];exact(f2 b hb).1
 have b4:∀{H'},(∀b∈fp,H' b=none)->∀b∈fp,kF (X.blk x (ys++fvs) scope { U with heap:=G,toks:=U.toks } (upd H2 U.heap.objs.size (.lst [])) G.objs.size fp) [] H' b:=λhn b hb =>
  ⟨hn b hb,(ok.exf b hb).1,ok.exfs b hb,.inl hb,(ok.exf b hb).2,λp hp=>by simp[Cx.blk]at hp⟩
 have eS:∀b∈fp,(b∈X.ex\/X.s₀.heap.objs.size<=b)/\b≠X.env.locals/\(∀x c,X.env.cells.lookup x=some c->c≠b)/\∀p∈X.pn++pins,p.1≠b:=λb hb =>
  let ⟨_,q1,_,q2,q3,q4⟩:=f2 b hb;⟨q2,q1,q3,q4⟩
 have c1:∀s5,s5={ U with heap:=h1,toks:=U.toks } ->
   codeAny (model X.prog X.w) X.A (.compLoop (.ListComp elt [⟨tg,iter,ifs,0⟩] scope pos) 0 (.ref it) (.ref U.heap.objs.size) (compEnvC scope (kR scope x G.objs.size++fP X.env scope.names []) G.objs.size X.env)) (RR (.ref U.heap.objs.size) G.objs.size) s5:=by
  rintro s5 rfl;refine wH (λn s'=>∃i F H',Inv (X.blk x (ys++fvs) scope { U with heap:=G,toks:=U.toks } (upd H2 U.heap.objs.size (.lst [])) G.objs.size fp) [] F H' s'/\tn i s'.heap/\(∀b∈fp,H' b=none)/\W i n F H') ?_ m0 ⟨0,_,_,I4,ef,eP,w0⟩;rintro n s6 ⟨i,cl,H6,I6,eg,eh,w6⟩;rcases turn i n cl H6 w6 with⟨stop,qn⟩|⟨go,N,hN,step⟩
  .refine thn (T.done (X.blk x (ys++fvs) scope { U with heap:=G,toks:=U.toks } (upd H2 U.heap.objs.size (.lst [])) G.objs.size fp) rfl rfl rfl hc i [] s6 cl H6 _ I6 (b4 eh) eg stop) λr s7 ⟨hr,I7⟩=>?_
   subst hr;have I8:=Y.call' (ch:=fp) I7.os I7.base I7.hok I7.bare eS;obtain⟨m,hn,_⟩:=I7.loc;exact fin _ _ H6 s7 I8 ⟨m,hn⟩ I7.free cL cS cC cP qn
  .refine thn (T.item (X.blk x (ys++fvs) scope { U with heap:=G,toks:=U.toks } (upd H2 U.heap.objs.size (.lst [])) G.objs.size fp) rfl rfl rfl hc i [] s6 cl H6 _ I6 (b4 eh) eg go) λr s7 ⟨u,hr,h7⟩=>?_
   subst hr;refine thn h7 λ_ s8 ⟨x8,H8,I8,r8,y8,c5,e8⟩=>?_
   have e9:=I8.pinned (b4 e8) (T.obj _ _ c5);refine thn (hg _ _ _ _ _ s8 cl H8 x8 u _ e9 r8 (step x8 H8 y8)) λ_ s9 ⟨c6,H9,I9,q9⟩=>?_
   refine thn (ht _ _ _ _ _ s9 _ H9 _ I9 q9) λfa fe ⟨fl,ei,cr⟩=>?_
   have again:∀{a5}{a4},Inv (X.blk x (ys++fvs) scope { U with heap:=G,toks:=U.toks } (upd H2 U.heap.objs.size (.lst [])) G.objs.size fp) ([]++mz fp s8.heap) c6 a4 a5->N c6 a4 ->
     ∃m,m<n/\∃i F H',Inv (X.blk x (ys++fvs) scope { U with heap:=G,toks:=U.toks } (upd H2 U.heap.objs.size (.lst [])) G.objs.size fp) [] F H' a5/\tn i a5.heap/\(∀b∈fp,H' b=none)/\W i m F H':=λ{a5 a4} b5 df=>by
    obtain⟨m',hm,ft⟩:=hN _ a4 df;refine⟨m',hm,i+1,_,a4,b5.unpinned,T.keep _ _ _ c5 λb hb o e=>(b5.pin (b,o) (J4 _ (J4 _ (gY hb e)))).1,λb hb=>?_,ft⟩;obtain⟨o,e,d⟩:=T.obj _ _ c5 b hb;exact(b5.pin (b,o) (J4 _ (J4 _ (gY hb e)))).2.1
   cases fa with
   |false =>
    rw[if_neg (by simp)]at cr ⊢;exact again ei cr
   |true =>
    rw[if_pos rfl]at cr ⊢;refine thn (he _ _ _ _ _ fe _ fl _ ei cr) λy a5 ⟨yv,a4,b5,ry,ys,fv,hl,df⟩=>?_
    refine thn (kI _ a5 _ a4 (.ref U.heap.objs.size) [yv] (.ref U.heap.objs.size) [y] (λ_ ek=>N c6 ek) b5 rfl (.cons ry .nil) ⟨_,ys,yv,rfl,rfl,fv,hl,df⟩) λ_ hJ ⟨_,ek,fx,_,fy⟩=>again fx fy
 exact codeAny_compStart_list (c1 _ rfl) (T.self _ 0 _ _ _ ef (c1 _ rfl))
def oZ(Y:kQ X.env.scope X.N scope x fvs js)(hc:X.calm=true)
  (ht:∀z U C fp,PF (X.blk x fvs scope z U C fp) ifs tt) (he:∀z U C fp,PE (X.blk x fvs scope z U C fp) elt te)
  {pins:List (Addr×Obj)}{σ:St}{H2:Hp}{s2:Shared}{Q:VK}{it:Addr}{fp:List Addr}{tn:Nat->Heap->Prop}{J:It}{RR:Value->Addr->Result->Shared->Prop}
  (I2:Inv X pins σ H2 s2) (T:tj X.prog X.w X.K (.Name x px) J fp it tn) (aO:tn 0 s2.heap) (f2:∀b∈fp,kF X pins H2 b)
  (hh:∀D,H2 D=none->rB J (fo js σ) H2 tt te D Q)
  (fin:∀(D C:Addr) (H':Hp) (s':Shared),Inv X pins σ H' s'->(∃m,s'.heap.Ns C m)->H' C=none->C≠X.env.locals->X.s₀.heap.objs.size<=C->(∀y c,X.env.cells.lookup y=some c->c≠C)->(∀p∈X.pn++pins,p.1≠C)->Q (.ref D) H' ->
   RR (.ref D) C (.ok .next) s') {E:Value->Shared->Prop} :
  wpAny (model X.prog X.w) X.A (newList []) (λacc s3=>wpAny (model X.prog X.w) X.A (newFunctionEnv scope X.env.globals (fP X.env scope.names []) [] X.env.qual none .none (some X.env)) (λZ s4 =>
   codeAny (model X.prog X.w) X.A (.compStart (.ListComp elt [⟨.Name x px,iter,ifs,0⟩] scope pos) 0 (.ref it) acc { Z with scope:=relabel scope X.env }) (RR acc Z.locals) s4) E s3) E s2:=
 tR (ys:=[]) Y.g hc (λz U C fp=>l0 (X:=X.blk x fvs scope z U C fp) (i:=0) (x:=x) (pos:=px) Y.nd rfl (Y.once.elim (λq=>.inl (lookup_relabel_local q.1)) λq=>.inr (wF q.1)) (Y.once.elim (λq=>.inr (lookup_relabel_local q.1)) λq=>.inl (JA ⟨rfl,q.1⟩))) ht he I2 T aO f2 (λD hD=>(hh D hD).g) fin
def u9(Y:kQ X.env.scope X.N scope x fvs js)(hc:X.calm=true)(hi:PI X (.Name x px) iter wi)
  (ht:∀z U C fp,PF (X.blk x fvs scope z U C fp) ifs tt) (he:∀z U C fp,PE (X.blk x fvs scope z U C fp) elt te)
  (hs:∀v,foldedSetIterable iter X.env v=pure v:=by intro _;rfl):PE X (.ListComp elt [⟨.Name x px,iter,ifs,0⟩] scope pos) (yu wi js tt te):=by
 intro pins s σ H Q I h;have fr:∀y∈scope.names,y.2=.free->∃c,X.env.cells.lookup y.1=some c:=λy hy hk=>I.ok.has y.1 (Y.out y hy hk)
 rw[eval_ListComp];refine wpAny_comprehension_free rfl hs (mU fr) Y.kind Y.names (thn (hi pins s σ H _ I h) λv s1 h1=>thn h1 λa4 s2 h2=>?_);refine az λZq kq=>?_
 obtain⟨it,fp,tn,J,H2,e,I2,T,Z,f2,hh⟩:=h2;subst e;refine kq ?_;refine oZ (RR:=λacc C=>compPost _ X.A X.xe none _ acc C) Y hc ht he I2 T Z f2 hh λD C H' s' I' hn nC cL cS cC cP q=>?_
 obtain⟨m,hn⟩:=hn;refine⟨m,hn,λh' sb=>⟨.ref D,H',?_,rfl,q⟩⟩;exact I'.turned (λb o hb e=>(sb.2 b hb).trans e) nC cL (.inr cS) cC cP
def tU{py ao:Pos}(hN:X.N.Nodup)(a0:X.N[i]?=some y)(hy:Loc X.env.scope y)(Z:kQ X.env.scope X.N scope x fvs js)(hc:X.calm=true)(hi:PI X (.Name x px) iter wi)
  (ht:∀U Y C fp,PF (X.blk x fvs scope U Y C fp) ifs tt) (he:∀U Y C fp,PE (X.blk x fvs scope U Y C fp) elt te)
  (a2:swapsWith (.ListComp elt [⟨.Name x px,iter,ifs,0⟩] scope pos) (some (.Name y py)) ao.line X.env=pure true:=by rfl)
  (hs:∀v,foldedSetIterable iter X.env v=pure v:=by intro _;rfl) (hf:X.fn y=true\/X.env.scope.names.lookup y=some .local:=by first|exact .inl rfl|exact .inr rfl|assumption) :
  PS X (.Assign [.Name y py] (.ListComp elt [⟨.Name x px,iter,ifs,0⟩] scope pos) ao) (xL (yu wi js tt te) (jd i)):=by
 intro pins s σ H D I h;have fr:∀y∈scope.names,y.2=.free->∃c,X.env.cells.lookup y.1=some c:=λy hy hk=>I.ok.has y.1 (Z.out y hy hk)
 rw[exec_Assign_Name_used _ _ _ _ a2];refine gf (wpAny_standAt (gf ?_));show wpAny _ X.A (do let _ <- comprehension (.ListComp elt [⟨.Name x px,iter,ifs,0⟩] scope pos) scope X.env _ (newList []) false (eval iter X.env) (some (assign (.Name y py) X.env))) _ _ s;refine gf (thn (wpAny_comprehension_free (use:=some (assign (.Name y py) X.env)) (Q:=λ_ s'=>SP X pins D .next s') rfl hs (mU fr) Z.kind Z.names (thn (hi pins s σ H _ I h) λv s1 h1=>thn h1 λck s2 h2=>?_)) λ_ s' q=>?_)
 .refine az λZq kq=>?_
  obtain⟨it,fp,tn,J,H2,e,I2,T,a3,f2,hh⟩:=h2;subst e;refine kq ?_;refine oZ (RR:=λacc C=>compPost (model X.prog X.w) X.A X.xe (some (assign (.Name y py) X.env)) (λ_ s'=>SP X pins D .next s') acc C) (Q:=λv H'=>jd i v σ H' D.nx) Z hc ht he I2 T a3 f2 hh λD' C H' s' I' hn nC cL cS cC cP q=>?_
  obtain⟨m,hn⟩:=hn;show wpAny _ _ (assign (.Name y py) X.env (.ref D')) _ _ s';refine wpAny_assign_Name (oJ I' hN a0 hy (v:=.ref D') rfl (λa5 a6 ⟨a,sb,ha⟩=>?_) hf);have ne:C≠a:=by
   rcases ha with z|z
   .rw[z];exact cL
   .exact λw=>cC y a z w.symm
  refine⟨m,hn.sameBut sb ne,λh' a7=>?_⟩;exact⟨_,H',a6.turned (t':=a5.toks) (λb o hb e=>(a7.2 b hb).trans e) nC cL (.inr cS) cC cP,q⟩
 .exact gQ (gQ q)
end
abbrev tV(K:Mx)(H:Hp):List V->List (List Int)->Prop:=Paired λx z=>∃a,x=V.ref a/\SqT K H a (z.map V.int)
theorem tV.len{K:Mx}(h:tV K H xs z):xs.length=z.length:=Paired.length h
def ay(h:H p=none)(o):ai H (upd H p o):=λb u q=>by rw[aZ (cx q h)];exact q
def ai.seqT{K:Mx}(e:ai H H')(h:SqT K H a xs):SqT K H' a xs:=by
 rcases h with(h|⟨o,h⟩)|h
 .exact .inl (.inl (e _ _ h))
 .exact .inl (.inr ⟨o,e _ _ h⟩)
 .exact .inr h
section
variable{X:Cx}{pins:List (Addr×Obj)}{σ:St}{H:Hp}{s:Shared}
def Inv.laidD(I:Inv X pins σ H s)(k:∀b u,s.heap.get? b=some u->h'.get? b=some u)(J:s.heap.objs.size<=a)(new:bE X.prog X.w (upd H a o) h' a o) :
  Inv X pins σ (upd H a o) { s with heap:=h',toks:=t',drawn:=d' }:=
 I.call (g':=s.gens) (d':=d') (t':=t') (ch:=[]) (Un.laid k J (I.hok.fresh J)) (I.hok.laid k J new) I.bare λ_ z=>nomatch z
def Inv.tupInts(I:Inv X pins σ H s)(h:SqT X.K H a (ns.map V.int)):∃its,IsTup s.heap a its.toArray/\IntsAre its ns:=by
 obtain⟨its,r,p,_⟩:=I.tuple h;exact⟨its,p,cR r⟩
theorem Inv.tupsAt(I:Inv X pins σ H s):∀{xs}{us}{z},tV X.K H xs z->aG xs us->Paired (λu J=>∃a its,u=Value.ref a/\IsTup s.heap a its/\IntsAre its.toList J) us z
 | _,_,_,.nil,.nil=>.nil
 | _,_,_,.cons ⟨a,U,Y⟩ t,.cons r q=>by
  obtain⟨its,p,hi⟩:=I.tupInts Y;rw[U]at r;exact .cons ⟨a,its.toArray,r,p,by simpa using hi⟩ (I.tupsAt t q)
end
noncomputable def jk(P:Program)(w:World)(a:Addr)(ks:List Int):HO:=.ext λh=>St.b6 P w h a ks
def rC(g:St.b6 P w h a ks):bE P w H h a (jk P w a ks):=by
 obtain⟨o,es,ep,t,ho,r⟩:=id g;exact⟨g,⟨o,ho⟩,λh1 h2 z k=>z.at k⟩
theorem Inv.set(I:Inv X pins σ H s)(h:H a=some (jk X.prog X.w a ks)):St.b6 X.prog X.w s.heap a ks:=
 (show bE X.prog X.w H s.heap a (jk X.prog X.w a ks)from I.hok a _ h).1
section
variable{X:Cx}
def yw (hc:X.calm=true):bO X (.type "set") (λxs H Q=>∃(p:Addr) (ns:List Int),xs=[.ref p]/\(SqL X.K H p (ns.map V.int)\/SqT X.K H p (ns.map V.int))/\ns.length<=1000/\∀l,H l=none->Q (.ref l) (upd H l (jk X.prog X.w l (St.dd ns.reverse)))):=by
 intro pins s σ H xs us Q I r h;obtain⟨p,ns,rfl,z,hz,q⟩:=h;obtain⟨u,rfl,Z⟩:=dU r;cases Z;have Y:=I.ok.hd hc;rcases z with z|z
 .obtain⟨its,J,U,_⟩:=I.list z;have hi:=cR J;have hl:=hi.length;refine St.set_list Y U.isList (ns:=ns) (by simpa using hi) (by simp;unfold scanBound;omega) λh' tk g kp=>?_
  exact⟨.ref s.heap.objs.size,_,I.laidD (d':=s.drawn) kp (pd _) (rC g),rfl,q _ (I.hok.fresh (pd _))⟩
 .obtain⟨its,J,U,_⟩:=I.tuple z;have hi:=cR J;have hl:=hi.length;refine St.wA Y (show s.heap.IsTuple p its.toArray from U) (ns:=ns) (by simpa using hi) (by simp;unfold scanBound;omega) λh' tk g kp=>?_
  exact⟨.ref s.heap.objs.size,_,I.laidD (d':=s.drawn) kp (pd _) (rC g),rfl,q _ (I.hok.fresh (pd _))⟩
end
namespace Srt
noncomputable def sortI(l:List Int):List Int:=im dc l
noncomputable def sortT(l:List (List Int)):List (List Int):=im eU l
def leT(a b:List Int):Prop:=HT.lexLt b a=false
def sortI_perm(l):(sortI l).Perm l:=eV dc l
def sortT_perm(l):(sortT l).Perm l:=eV eU l
def sortI_len(l):(sortI l).length=l.length:=(sortI_perm l).length_eq
def sortT_len(l):(sortT l).length=l.length:=(sortT_perm l).length_eq
def sortT_rises(l):(sortT l).Pairwise leT:=dW eU l
def sortI_of_perm(p:a.Perm b):sortI a=sortI b:=oq dc p
def u_{a b:Int}:dc.kle a b ↔ a<=b:=by
 show decide _=false ↔ a<=b
 simp_all
def sortI_rises(l):(sortI l).Pairwise (· <= ·):=(dW dc l).imp λh=>u_.mp h
def sortI_id{l:List Int}(h:l.Pairwise (· <= ·)):sortI l=l:=yh dc (h.imp λq=>u_.mpr q)
section
variable{P:Program}{w:World}{A:Around}{E:Value->Shared->Prop}{s:Shared}
def rD(z:ns.Perm ks)(hs:ns.Pairwise (· <= ·)):ns=sortI ks:=by
 refine jS dc z (hs.imp λ{a b} h=>?_);show decide _=false
 simp_all
def iF(a3:ks.length<64)
  (Y:∀Q',(∀h' tk d' J z,(∀b o,s.heap.get? b=some o->h'.get? b=some o)->z.Perm ks->IntsAre J z->Q' J { s with heap:=h',toks:=tk,drawn:=d' }) ->
   wpAny (model P w) A.in1 (collect x) Q' E s)
  (h:∀(h1 h':Heap) tk d' out c,(∀b o,s.heap.get? b=some o->h1.get? b=some o)->(∀b o,h1.get? b=some o->h'.get? b=some o)->h'.get? h1.objs.size=some { cls:=.type "list",data:=.seq out.toArray c } ->
   IntsAre out (sortI ks)->Q (.ref h1.objs.size) { s with heap:=h',toks:=tk,drawn:=d' }) :
  wpAny (model P w) A (call (.builtin "sorted") [x]) Q E s:=by
 refine Calls.call_function_entry kind_sorted plain_sorted entry_sorted (args_sorted1 _) ?_;unfold Builtin.«sorted»;refine gf (gQ ?_);refine gf (Y _ λh1 tk d1 J z kp hp hi=>?_);have a5:=hi.length;have a6:=hp.length_eq;refine gf (wpAny_newList ?_ (by rw[JS];omega));have U:(h1.push (seqObj "list" J.toArray 0)).get? h1.objs.size=some _:=uw _ rfl;refine gf (JU (JL slot_list_sort ⟨_,U,rfl⟩ entry_list_sort (list_sort_tree U hi (by omega) λout a7 Z ao aO=>⟨_,rfl,?_⟩) (args_list_sort _)));obtain⟨c,hc⟩:=sortedHeap_at (out:=out) U;refine gQ ⟨_,rfl,h h1 _ tk d1 out.toList c kp (λb o e=>?_) ?_ ?_⟩
 .have hb:=tf e;rw[sortedHeap_old (Jr hb) (by rw[JH];exact JO hb)];exact g4 _ e
 .simp_all
 .rw[<- rD (ao.trans hp) aO];exact Z
def mX{vs:List Value}{z:List (List Int)}{Q:Value->Shared->Prop}(a1:vs.length<64)(hu:A.units+2<cLine)
  (hv:Paired (λu ts=>∃a its,u=Value.ref a/\IsTup s.heap a its/\IntsAre its.toList ts) vs z)
  (ao:∀Q',(∀h',(∀b o,s.heap.get? b=some o->h'.get? b=some o)->Q' vs { s with heap:=h' })->wpAny (model P w) A.in1 (collect x) Q' E s)
  (h:∀(h1 h':Heap) (p:Array Nat) (c:Nat),(∀b o,s.heap.get? b=some o->h1.get? b=some o)->(∀b o,h1.get? b=some o->h'.get? b=some o)->h'.get? h1.objs.size=some { cls:=.type "list",data:=.seq (p.toList.map λi=>vs.getD i Value.none).toArray c } ->
   PB vs.length p->p.toList.map (λi=>z.getD i [])=sortT z->Q (.ref h1.objs.size) { s with heap:=h' }) :
  wpAny (model P w) A (call (.builtin "sorted") [x]) Q E s:=by
 have J:vs.length=z.length:=Paired.length hv;refine Calls.call_function_entry kind_sorted plain_sorted entry_sorted (args_sorted1 _) ?_;unfold Builtin.«sorted»;refine gf (m:=checkCount "sorted" 1 1 _) (gQ ?_);refine gf (ao _ λh1 kp=>?_);refine gf (wpAny_newList ?_ (by rw[JS];omega));have U:(h1.push (seqObj "list" vs.toArray 0)).get? h1.objs.size=some (seqObj "list" vs.toArray 0):=uw _ rfl;have Y:∀(s':Shared),(∀b o,b≠h1.objs.size->(h1.push (seqObj "list" vs.toArray 0)).get? b=some o->s'.heap.get? b=some o)->∀i,i<vs.length->∃a its,vs.getD i Value.none=.ref a/\IsTup s'.heap a its/\IntsAre its.toList (z.getD i []):=λs' k i hi=>by
  have gen:∀{us:List Value}{Z:List (List Int)},Paired (λu ts=>∃a its,u=Value.ref a/\IsTup s.heap a its/\IntsAre its.toList ts) us Z->∀i,i<us.length->∃a its,us.getD i Value.none=.ref a/\IsTup s.heap a its/\IntsAre its.toList (Z.getD i []):=by
   intro us Z hp
   induction hp with
   |nil=>intro i hi;simp at hi
   |cons q _ ih =>
    intro i hi;cases i with
    |zero=>obtain⟨a,its,e,r⟩:=q;exact⟨a,its,by simpa using e,by simpa using r⟩
    |succ i=>obtain⟨a,its,e,r⟩:=ih i (by simpa using hi);exact⟨a,its,by simpa using e,by simpa using r⟩
  obtain⟨a,its,e,⟨o,ho,r⟩,a4⟩:=gen hv i hi;have aO:=kp a o ho;exact⟨a,its,e,⟨o,k a o (Jr (tf aO)) (g4 _ aO),r⟩,a4⟩
 refine gf (JU (JL slot_list_sort ⟨_,U,rfl⟩ entry_list_sort (p5 (O:=eU) (key:=λi=>z.getD i []) U a1 (λh2 s' Q' k q=>ww h2 (λv hm=>?_) q) (λg a5 s' i j C k hi hj q=>?_) λp hp hr=>⟨_,rfl,?_⟩) (args_list_sort _)))
 .obtain⟨i,hi,e⟩:=getElem_of_mem hm;obtain⟨a,its,e',r1,r2⟩:=Y s' k i hi;exact⟨a,its,_,by rw[<- e',<- e];simp[hi],r1,r2⟩
 .obtain⟨a,its,e,r1,r2⟩:=Y s' k i hi;obtain⟨a',its',e',a9,b0⟩:=Y s' k j hj;rw[e,e'];exact Bn a5 r1 a9 r2 b0 (show A.units+1+1<cLine from hu) q
 .obtain⟨c,hc⟩:=sortedHeap_at (out:=(p.toList.map λi=>vs.getD i Value.none).toArray) (vs:=vs) U;have b1:PB z.length p:=by rw[<- J];exact hp
  have b2:fw (O:=eU) (λi=>z.getD i []) p z.length:=by rw[<- J];exact hr
  refine gQ ⟨_,rfl,h h1 _ p c kp (λb o e=>?_) hc hp (DR (O:=eU) (d:=([]:List Int)) (xs:=z) b1 b2)⟩;have hb:b<h1.objs.size:=tf e;rw[sortedHeap_old (Jr hb) (by rw[JH];exact JO hb)];exact g4 _ e
end
end Srt
section
variable{X:Cx}
def Inv.keptD(I:Inv X pins σ H s)(k:∀b u,s.heap.get? b=some u->h'.get? b=some u):Inv X pins σ H { s with heap:=h',toks:=t',drawn:=d' }:=
 I.call (g':=s.gens) (d':=d') (t':=t') (ch:=[]) (Un.kept k) (I.hok.kept k) I.bare λ_ z=>nomatch z
def o3:∀{vs}{ns},IntsAre vs ns->aG (ns.map V.int) vs:=kJ
def DU(X:Cx):List V->Hp->VK->Prop:=λxs H Q=>∃p ks,xs=[.ref p]/\(SqL X.K H p (ks.map V.int)\/SqT X.K H p (ks.map V.int)\/H p=some (jk X.prog X.w p ks))/\ks.length<64/\∀l,H l=none->Q (.ref l) (upd H l (.lst ((Srt.sortI ks).map V.int)))
def jW (hc:X.calm=true):bO X (.builtin "sorted") (DU X):=by
 intro pins s σ H xs us Q I r h;obtain⟨p,ks,rfl,z,ao,q⟩:=h;obtain⟨u,rfl,rx⟩:=dU r;cases rx;have hh:=I.ok.hd hc;refine Srt.iF (ks:=ks) ao (λQ' J=>?_) λh1 h' tk d' out c k1 k2 e hi=>?_
 .rcases z with z|z|z
  .obtain⟨its,Z,pl,hz⟩:=I.list z;obtain⟨o,ho,U,n,hd⟩:=pl.isList;refine LF p (.inl rfl) ho U hd (λh' kp=>?_) (by have:=Z.length;simp[r4]<;>omega);exact J h' s.toks s.drawn _ ks kp (.refl _) (by simpa using cR Z)
  .obtain⟨its,Z,pl,hz⟩:=I.tuple z;obtain⟨o,ho,U,n,hd⟩:=pl;refine LF p (.inr rfl) ho U hd (λh' kp=>?_) (by have:=Z.length;simp[r4]<;>omega);exact J h' s.toks s.drawn _ ks kp (.refl _) (by simpa using cR Z)
  .exact St.rA (by first|exact hh|simpa using hh) (I.set z) λh' tk d' a0 Y kp hp hi=>J h' tk d' a0 Y kp hp hi
 .have I1:Inv X pins σ H { s with heap:=h1,toks:=tk,drawn:=d' }:=I.keptD k1;have I2:Inv X pins σ (upd H h1.objs.size (.lst ((Srt.sortI ks).map V.int))) { s with heap:=h',toks:=tk,drawn:=d' }:=
   I1.laid k2 (pd _) (show bE X.prog X.w _ h' _ _ from⟨by rw[pe,Srt.sortI_len,JS];omega,out,c,o3 hi,e⟩)
  exact⟨.ref h1.objs.size,_,I2,rfl,q _ (I1.hok.fresh (pd _))⟩
def DV(X:Cx):List V->Hp->VK->Prop:=λxs H Q=>∃(p:Addr) (vs:List V) (z:List (List Int)),xs=[.ref p]/\(SqL X.K H p vs\/SqT X.K H p vs)/\tV X.K H vs z/\z.length<64 /\
 ∀l (pm:List Nat),H l=none->(∀i∈pm,i<vs.length)->pm.map (λi=>z.getD i [])=Srt.sortT z->Q (.ref l) (upd H l (.lst (pm.map λi=>vs.getD i .non)))
theorem o4(h:aG vs us):∀(l:List Nat),(∀i∈l,i<vs.length)->aG (l.map λi=>vs.getD i .non) (l.map λi=>us.getD i Value.none)
 | [],_=>.nil
 |i::l,z=>by
  have hi:=z i (.head _);obtain⟨u,U,Y⟩:=h.get (i:=i) (x:=vs[i]) (Jy hi);refine .cons ?_ (o4 h l λj J=>z j (.tail _ J))
  simp_all
def p9 (hu:X.A.units+64<cLine):bO X (.builtin "sorted") (DV X):=by
 intro pins s σ H xs us Q I r h;obtain⟨p,vs,a4,rfl,Y,ht,a5,q⟩:=h;obtain⟨u,rfl,rx⟩:=dU r;cases rx;have key:∀its,aG vs its->vs.length<=sizeLine->(∀Q',(∀h',(∀b o,s.heap.get? b=some o->h'.get? b=some o)->Q' its { s with heap:=h' })->wpAny (model X.prog X.w) X.A.in1 (collect _) Q' X.xe s) ->
   wpAny _ X.A (call _ [.ref p]) (EP X pins σ Q) X.xe s:=λits z hz Z=>by
  have hl:=z.length;have a7:=ht.len;refine Srt.mX (by omega) (by omega) (I.tupsAt ht z) Z λh1 h' pm c k1 k2 e hp ho=>?_
  have ao:∀i∈pm.toList,i<vs.length:=λi hi=>by
   have:=(Li.mp hp).mem_iff.mp hi
   simp_all
  have I1:=I.kept (t':=s.toks) k1;have I2:Inv X pins σ (upd H h1.objs.size (.lst _)) { s with heap:=h' }:=
   I1.laid k2 (pd _) (show bE X.prog X.w _ h' _ _ from⟨by have:=hp.size;rw[pe,Array.length_toList,JS];omega,_,c,o4 z _ ao,e⟩)
  exact⟨.ref h1.objs.size,_,I2,rfl,q _ pm.toList (I1.hok.fresh (pd _)) ao ho⟩
 rcases Y with Y|Y
 .obtain⟨its,z,pl,hz⟩:=I.list Y;obtain⟨o,ho,J,n,hd⟩:=pl.isList;refine key its z hz λQ' U=>LF p (.inl rfl) ho J hd (λh' kp=>?_) (by have:=z.length;simp[r4]<;>omega)
  have:=U h' kp;simpa using this
 .obtain⟨its,z,pl,hz⟩:=I.tuple Y;obtain⟨o,ho,J,n,hd⟩:=pl;refine key its z hz λQ' U=>LF p (.inr rfl) ho J hd (λh' kp=>?_) (by have:=z.length;simp[r4]<;>omega)
  have:=U h' kp;simpa using this
end
end L2
namespace L2.St
open PySem PyProof.Rows List Option
structure bV(P:Program)(w:World)(h:Heap)(a:Addr)(ks:List Int)(o:Obj)(es:Array (Int×Value))(ep:Nat)(t:SetTable):Prop where
 ho:h.get? a=some o
 ex:o.ExactSet
 hd:o.data=.set es ep t
 el:ElemsOf (intKind P w) es.toList
 pm:(es.toList.map λe=>numOf e.2).Perm ks
 nd:ks.Nodup
 bd:es.size<scanBound
 fi:t.fits es.size=true
theorem b6.w{w:World}(g:b6 P w h a ks):∃o es ep t,bV P w h a ks o es ep t/\Gd (!byT w) t:=by
 refine az λZq U=>?_
 obtain⟨o,es,ep,t,ho,z,hd,J,Y,Z,hb,hf,hg⟩:=g;refine U ?_;exact⟨o,es,ep,t,⟨ho,z,hd,J,Y,Z,hb,hf⟩,hg⟩
theorem bV.len(g:bV P w h a ks o es ep t):es.size=ks.length:=by
 have:=g.pm.length_eq;simpa using this
theorem bV.at(g:bV P w h a ks o es ep t)(k:∀o,h.get? a=some o->h'.get? a=some o):bV P w h' a ks o es ep t:=
 ⟨k o g.ho,g.ex,g.hd,g.el,g.pm,g.nd,g.bd,g.fi⟩
section
variable{P:Program}{w:World}{A:Around}{E:Value->Shared->Prop}{s:Shared}
variable{a:Addr}{ks:List Int}{o:Obj}{es:Array (Int×Value)}{ep:Nat}{t:SetTable}
def yx(g:bV P w s.heap a ks o es ep t)(J:t.led=!byT w){Q:Array (Int×Value)->Shared->Prop}(h:∀z d',z.toList.Perm es.toList->Q z { s with drawn:=d' }):wpAny (model P w) A (setWalk a) Q E s:=by
 unfold setWalk;refine gf (JD g.ho g.hd g.fi ?_);dsimp only;refine gf (c7 ?_);cases U:byT w with
 |true =>
  rw[if_pos rfl];refine gf (Mp (gQ ?_));exact h _ s.drawn (oW _ _)
 |false =>
  rw[if_neg (by simp)];refine JG (λ_=>?_) (λ_=>?_)
  .refine gf (jy es.size es.toList s (by simp) λys d' Y=>?_);exact gQ (h _ d' (by simpa using Y))
  .refine gf ?_;rw[U]at J;show wpAny _ _ (if (!t.led&&decide _)=true then _ else _) _ _ s;rw[if_neg (by rw[J];simp)];exact gQ (gQ (h es s.drawn (.refl _)))
def va:∀z,(∀b∈z,∃ks o es ep t,bV P w s.heap b ks o es ep t)->∀{Q},Q true s->wpAny (model P w) A (setsQuiet z) Q E s:=by
 intro z hs Q hq;unfold setsQuiet;refine gf (wpAny_forIn_list _ (λbN b s'=>(∀c∈bN,c∈z)/\b.1=none/\s'=s) _ ?_ ?_ z _ ⟨λc hc=>hc,rfl,rfl⟩)
 .rintro c bN b s' ⟨hc,hb,rfl⟩;obtain⟨ks,o,es,ep,t,g⟩:=hs c (hc c (.head _));refine gf (LX g.ho g.hd g.fi ?_);refine gf (L8 _ (λbN b J=>(∀e∈bN,e∈es.toList)/\b.1=none/\J=s') _ ?_ ?_ es _ ⟨λe Y=>Y,rfl,rfl⟩)
  .rintro e Z b' J ⟨Y,U,rfl⟩;obtain⟨t',q⟩:=eO g.el e (Y e (.head _));obtain⟨hx,x⟩:=e;dsimp only at q ⊢;rw[q];exact gQ ⟨λe' ao=>Y e' (.tail _ ao),rfl,rfl⟩
  .rintro b' J ⟨_,U,rfl⟩;dsimp only;rw[U];exact gQ ⟨λc' aO=>hc c' (.tail _ aO),rfl,rfl⟩
 .rintro b s' ⟨_,hb,rfl⟩;dsimp only;rw[hb];exact gQ hq
def yy(g:bV P w s.heap a ks o es ep t)(U:t.led=!byT w){others:List Addr}(hs:∀b∈others,∃ks o es ep t,bV P w s.heap b ks o es ep t){Q:Array (Int×Value)->Shared->Prop}
  (h:∀z d',z.toList.Perm es.toList->Q z { s with drawn:=d' }):wpAny (model P w) A (setWalkUnseen a others none) Q E s:=by
 refine gf (JD g.ho g.hd g.fi ?_);dsimp only;refine gf (c7 ?_);refine JG (λ_=>?_) (λ_=>?_)
 .exact yx g U h
 .refine gf (va _ (λb J=>?_) ?_)
  .rcases Jp.mp J with rfl|J
   .exact⟨_,_,_,_,_,g⟩
   .exact hs b J
  .simp only[Lj,Jz];refine gf (KL ?_);exact gQ (h es s.drawn (.refl _))
def yz(g:bV P w s.heap a ks o es ep t)(hl:t.led=!byT w){others:List Addr}(hs:∀b∈others,∃ks o es ep t,bV P w s.heap b ks o es ep t){f:Addr}(Y:b6 P w s.heap f []){Q:Array (Int×Value)->Shared->Prop}
  (h:∀J d' h',J.toList.Perm es.toList->Heap.SameBut f s.heap h'->b6 P w h' f []->Q J { s with drawn:=d',heap:=h' }):wpAny (model P w) A (setWalkUnseen a others (some f)) Q E s:=by
 unfold setWalkUnseen;refine gf (JD g.ho g.hd g.fi ?_);dsimp only;refine gf (c7 ?_);refine JG (λ_=>?_) (λ_=>?_)
 .exact yx g hl λJ d' hp=>h J d' s.heap hp (KG f s.heap) Y
 .refine gf (va (a::others) (λb Z=>?_) ?_)
  .rcases Jp.mp Z with rfl|Z
   .exact⟨_,_,_,_,_,g⟩
   .exact hs b Z
  .simp only[Lj,Jz,Kc];refine gf (KL ?_);obtain⟨of,ef,a3,U,z,gd⟩:=Y.w;refine gf (JD z.ho z.hd z.fi ?_);dsimp only;refine JG (λ_=>?_) (λ_=>?_)
   .have ao:({ U with led:=U.led&&t.led,plain:=U.plain&&t.plain }:SetTable).fits ef.size=true:=z.fi;have aO:Gd (!byT w) ({ U with led:=U.led&&t.led,plain:=U.plain&&t.plain }:SetTable):=⟨by show(U.led&&t.led)=_;rw[gd.led,hl];simp,gd.dum,gd.rise⟩;refine gf (KH z.ho z.hd ?_ (Kt z.bd));have g2:=u5 (P:=P) (w:=w) z.ho z.ex z.hd ⟨z.el,z.pm,z.nd,z.bd,ao,aO⟩;exact gQ (h es s.drawn _ (.refl _) (JN _ f _) g2)
   .exact gQ (h es s.drawn s.heap (.refl _) (KG f s.heap) Y)
def yA(g:bV P w s.heap a ks o es ep t){k:Int}{tk:Tok}{Q:Option Nat->Shared->Prop}(h:Q (es.toList.findIdx? λe=>(intKind P w).is k e.2) s):wpAny (model P w) A (setFind a (.int k tk) (hashInt k)) Q E s:=by
 have z:(intKind P w).is k (.int k tk)=true:=Mi _ _ _ _;have J:(Value.int k tk).scannable=true:=rfl;unfold setFind setFindIn;refine gf (JD g.ho g.hd g.fi ?_);dsimp only;rw[byScan_of J g.bd g.el];simp only[↓reduceIte];refine gf (KL ?_);refine gf (wpAny_setScan_of (knd:=intKind P w) z g.ho g.hd g.fi g.el ?_);cases U:findIdx? (λe=>(intKind P w).is k e.2) es.toList with
 |some j =>
  rw[U]at h;dsimp only;rw[KQ];exact gQ h
 |none =>
  rw[U]at h;exact gQ h
theorem bV.mem(g:bV P w s.heap a ks o es ep t) :k∈ks ↔ ∃e∈es.toList,(intKind P w).is k e.2=true:=by
 rw[<- g.pm.mem_iff,mem_map];constructor
 .rintro ⟨e,z,q⟩;exact⟨e,z,(jx g.el z k).mpr q⟩
 .rintro ⟨e,z,q⟩;exact⟨e,z,(jx g.el z k).mp q⟩
def rE(g:bV P w s.heap a ks o es ep t)(k):(es.toList.findIdx? λe=>(intKind P w).is k e.2).isSome=decide (k∈ks):=by
 rw[J3,JP,g.mem,findIdx?_isSome,Kl]
end
section
variable{P:Program}{w:World}{A:Around}{E:Value->Shared->Prop}{s:Shared}
def bV.type (g:bV P w s.heap a ks o es ep t):s.TypeIs (.ref a) "set":=⟨o,g.ho,g.ex.1⟩
def jX (z:s.TypeIs (.ref a) "set") {Q:Bool->Shared->Prop} (h:Q true s):wpAny (model P w) A (Builtin.Frozenset.isAnySet (.ref a)) Q E s:=by
 refine gf (Ke z F.sub_set_set ?_);exact gQ h
def rF (z:s.TypeIs (.ref a) "set") {Q:Value->Shared->Prop} (h:Q (.type "set") s):wpAny (model P w) A (Builtin.Frozenset.baseOf a) Q E s:=by
 refine gf (Ke z F.sub_set_set ?_);exact gQ h
def gc(g:bV P w s.heap a ks o es ep t){Q:Nat->Shared->Prop}(h:Q ks.length s):wpAny (model P w) A (Builtin.Frozenset.sizeOf a) Q E s:=by
 refine gf (LX g.ho g.hd g.fi ?_);rw[<- g.len]at h;exact gQ h
def DW{id:String}{a:Addr}{ks:List Int}{o:Obj}{es:Array (Int×Value)}{ep:Nat}{t:SetTable}(g:bV P w s.heap a ks o es ep t){α:Type}{x:α}{R:α->Shared->Prop}(h:R x s):wpAny (model P w) A (Builtin.Frozenset.unchanged id a ep >>= λ_=>pure x) R E s:=by
 unfold Builtin.Frozenset.unchanged;refine gf (gf (KI g.ho g.hd g.fi ?_));simp only[K8,Jz,Kc];exact gQ (gQ h)
def DX{id:String}{a b:Addr}{ks js:List Int}{Q:Value->Shared->Prop}(ga:b6 P w s.heap a ks)(gb:b6 P w s.heap b js)(cd:¬ ks.length / 4 > js.length)
  (h:∀h' d' J,(∀c o,s.heap.get? c=some o->h'.get? c=some o)->J.Perm (ks.filter λk=>!decide (k∈js))->b6 P w h' s.heap.objs.size J->Q (.ref s.heap.objs.size) { s with heap:=h',drawn:=d' }) :
  wpAny (model P w) A (Builtin.Frozenset.difference id a (.ref b)) Q E s:=by
 obtain⟨oa,ea,c6,ta,Z,ck⟩:=ga.w;obtain⟨ob,eb,df,tb,wb,dm⟩:=gb.w;unfold Builtin.Frozenset.difference;refine gf (jX wb.type ?_);simp only[Lj,Jz,Kc,L0,if_true,Builtin.Frozenset.addrOf,pure_bind];refine gf (gc wb ?_);refine gf (gc Z ?_);rw[if_neg cd];refine gf (rF Z.type ?_);refine gf (p7 ?_);have keep:∀c o,s.heap.get? c=some o->(s.heap.push (bp w)).get? c=some o:=λc o e=>g4 _ e
 have ao:=Z.at (keep a);have cl:=wb.at (keep b);have gn:b6 P w (s.heap.push (bp w)) s.heap.objs.size []:=rq _;have ha:=Jr (tf Z.ho);have hb:=Jr (tf wb.ho);refine gf (gQ ?_);refine gf (KI (s:={ s with heap:=s.heap.push (bp w) }) ao.ho ao.hd ao.fi ?_);refine gf (JU ?_);refine gf (yz (s:={ s with heap:=s.heap.push (bp w) }) ao ck.led (others:=[b,s.heap.objs.size]) (λc hc=>?_) gn λaO d0 h0 hp cu g0=>?_)
 .rcases Jp.mp hc with rfl|hc
  .exact⟨_,_,_,_,_,cl⟩
  .rw[JE.mp hc];obtain⟨_,_,_,_,q,_⟩:=gn.w;exact⟨_,_,_,_,_,q⟩
 have a2:=Z.el.perm hp;have hK:=(hp.map _).trans Z.pm;have a7:=hK.nodup_iff.mpr Z.nd;refine gf (L8 _ (λbN _ s'=>∃dn h' d' J,dn++bN=aO.toList/\s'={ s with heap:=h',drawn:=d' }/\Heap.SameBut s.heap.objs.size (s.heap.push (bp w)) h'/\b6 P w h' s.heap.objs.size J/\J.Perm ((dn.map λe:Int×Value=>numOf e.2).filter λk=>!decide (k∈js))) _ ?_ ?_ aO _ ⟨[],h0,d0,[],rfl,rfl,cu,g0,by simp⟩)
 .rintro ⟨hx,x⟩ bN u s' ⟨dn,h',d',J,e1,rfl,sb,gl,pl⟩;have U:(hx,x)∈aO.toList:=by rw[<- e1];simp
  obtain⟨t',q⟩:=eO a2 _ U;obtain⟨⟨k0,cC,a0⟩,_⟩:=a2 _ U;have a4:=(jx a2 U k0).mp cC;dsimp only at q a4 a0;generalize numOf x=k at q a4;subst q a4;have a0:=a0;subst a0;have Y:∀c o,c≠s.heap.objs.size->s.heap.get? c=some o->h'.get? c=some o:=λc o hc e=>(sb.2 c hc).trans (keep c o e)
  have b0:=Z.at λo e=>Y a o ha e
  have b1:=wb.at λo e=>Y b o hb e
  dsimp only;have b2:numOf (Value.int k t')=k:=rfl;have cL:k∉J:=λz=>by
   have:=pl.mem_iff.mp z;have:=(JI.mp this).1;rw[<- e1,JM,Jq]at a7;exact(Lz.mp a7).2.2 k this k (by rw[b2];exact .head _) rfl
  refine gf (JU ?_);refine gf (yA (s:={ s with heap:=h',drawn:=d' }) b1 ?_);rw[rE (s:={ s with heap:=h',drawn:=d' }) b1 k];by_cases hj:k∈js
  .simp only[hj,decide_true,Lj,Jz,Kc];refine gQ (DW (s:={ s with heap:=h',drawn:=d' }) b0 ⟨dn++[(hashInt k,Value.int k t')],h',d',J,by rw[J9];exact e1,rfl,sb,gl,?_⟩)
   simp_all
  .simp only[hj,decide_false,Bool.not_false,if_true];have a5:J.length+1<scanBound:=by
    have h1:=pl.length_eq;have h2:=Lh (λk=>!decide (k∈js)) (dn.map λe:Int×Value=>numOf e.2);rw[pe]at h2;have h3:aO.toList.length<scanBound:=by rw[hp.length_eq,Array.length_toList];exact Z.bd
    rw[<- e1,wh,length_cons]at h3;omega
   refine gf (oU (s:={ s with heap:=h',drawn:=d' }) gl a5 λb3 b' b4 g2=>?_);rw[if_neg cL]at g2;have cS:=b0.at λo e=>(b4.2 a ha).trans e
   refine gQ (DW (s:={ s with heap:=b3,drawn:=d' }) cS ⟨dn++[(hashInt k,Value.int k t')],b3,d',k::J,by rw[J9];exact e1,rfl,sb.trans b4,g2,?_⟩);rw[JM,filter_append];have:filter (λk=>!decide (k∈js)) (map (λe:Int×Value=>numOf e.2) [(hashInt k,Value.int k t')])=[k]:=by simp[b2,hj]
   rw[this];exact(Perm.cons k pl).trans (Lf (l₁:=[k]))
 .rintro u s' ⟨dn,h',d',J,e1,rfl,sb,gl,pl⟩;rw[Kq]at e1;subst e1;refine gQ (gQ (h h' d' J (λc o e=>?_) (pl.trans (hK.filter _)) gl));exact(sb.2 c (Jr (tf e))).trans (keep c o e)
end
noncomputable def itL(m:Nat):Nat->Nat->Nat
 |0,i=>i
 |t+1,i=>itL m t ((i*5+1) % (m+1))
theorem p_(m):∀a b i,itL m (a+b) i=itL m b (itL m a i)
 |0,b,i=>by rw[KQ];rfl
 |a+1,b,i=>by rw[Ly];exact p_ m a b _
noncomputable def gh(m:Nat):Bool:=itL m (m+1) 0==0&&(range (m+1)).all λj=>(range (m+1)).any λt=>itL m t 0==j
theorem vb(h:itL m (m+1) 0=0):∀q r,itL m (q*(m+1)+r) 0=itL m r 0
 |0,r=>by simp
 |q+1,r=>by
  have e:(q+1)*(m+1)+r=(m+1)+(q*(m+1)+r):=by rw[Nat.succ_mul];omega
  rw[e,p_,h,vb h q r]
def cov(h:gh m=true)(hi:i<=m)(J:j<=m):∃t,t<=m/\itL m t i=j:=by
 unfold gh at h;rw[oe,Ju,Kk]at h;obtain⟨U,h1⟩:=h;have z:∀x,x<=m->∃t,t<=m/\itL m t 0=x:=λx hx=>by
  have:=h1 x (Lq.mpr (by omega))
  grind
 obtain⟨a,ha,Y⟩:=z i hi;obtain⟨b,hb,Z⟩:=z j J;refine⟨(b+(m+1)-a) % (m+1),by have:=Mj (b+(m+1)-a) (show 0<m+1 by omega);omega,?_⟩;have e2:itL m ((b+(m+1)-a) % (m+1)) i=itL m (a+(b+(m+1)-a) % (m+1)) 0:=by rw[p_,Y]
 rw[e2,<- Z];by_cases c:a<=b
 .have:(b+(m+1)-a) % (m+1)=b-a:=by
   have:b+(m+1)-a=(b-a)+(m+1):=by omega
   rw[this,Nat.add_mod_right,Nat.mod_eq_of_lt (by omega)]
  simp_all
 .have:(b+(m+1)-a) % (m+1)=b+_-a:=Nat.mod_eq_of_lt (by omega);rw[this];have e3:a+(b+(m+1)-a)=1*(m+1)+b:=by omega
  rw[e3,vb U]
def CN:gh 7=true:=rfl
def DY:gh 15=true:=rfl
def DZ:gh 31=true:=rfl
def D0:gh 63=true:=by decide +kernel
def Bq:gh 127=true:=by decide +kernel
def Br:gh 255=true:=by decide +kernel
noncomputable def lp(m:Nat):Nat->Nat×Nat->Nat×Nat
 |0,p=>p
 |t+1,p=>lp m t (SetTable.leap m p.1 p.2)
theorem yB(m):∀a b p,lp m (a+b) p=lp m b (lp m a p)
 |0,b,p=>by rw[KQ];rfl
 |a+1,b,p=>by rw[Ly];exact yB m a b _
theorem vc(m):∀t i,lp m t (i,0)=(itL m t i,0)
 |0,_=>rfl
 |t+1,i=>by
  show lp m t (SetTable.leap m i 0)=_;have:SetTable.leap m i 0=((i*5+1) % (m+1),0):=by simp[SetTable.leap]
  rw[this,vc m t]
  rfl
theorem CO(m):∀t p,p.1<=m->(lp m t p).1<=m
 |0,_,h=>h
 |t+1,p,_=>CO m t _ (by
  show(p.1*5+1+p.2 / 32) % (m+1)<=m;have:=Mj (p.1*5+1+p.2 / 32) (show 0<m+1 by omega);omega)
theorem vd(m):∀t p,(lp m t p).2=p.2 / 32 ^ t
 |0,p=>by simp[lp]
 |t+1,p=>by
  show(lp m t (SetTable.leap m p.1 p.2)).2=_;rw[vd m t];show p.2 / 32 / 32 ^ t=_;rw[Nat.div_div_eq_div_mul,Nat.pow_succ,Nat.mul_comm]
theorem o5 :∀z i p,SetTable.layClean.free m ow z i p=none->∀t,t<z->(ow.getD (lp m t (i,p)).1 (some 0)).isNone=false
 |0,_,_,_,t,h=>absurd h (by omega)
 |z+1,i,p,e,t,h=>by
  rw[SetTable.layClean.free]at e;split at e
  .cases e
  .rename_i q;cases t with
   |zero =>
    have:=LK.mp q 0 (Lq.mpr (by unfold SetTable.runEnd;split<;>omega));exact(LM _).mp this
   |succ t=>exact o5 z _ _ e t (by omega)
theorem o6 :∀z i p k,SetTable.layClean.free m ow z i p=some k->(ow.getD k (some 0)).isNone=true
 |0,_,_,_,e=>by cases e
 |z+1,i,p,k,e=>by
  rw[SetTable.layClean.free]at e;split at e
  .rename_i q;cases e;exact find?_some (p:=λk=>(ow.getD (i+k) (some 0)).isNone) q
  .exact o6 z _ _ k e
def Bs(U:gh m=true)(Y:j<=m)(Z:(ow.getD j (some 0)).isNone=true)(hi:i<=m)(hp:p<2 ^ 64):∃k,SetTable.layClean.free m ow (SetTable.turns m) i p=some k/\(ow.getD k (some 0)).isNone=true:=by
 cases e:SetTable.layClean.free m ow (SetTable.turns m) i p with
 |some k=>exact⟨k,rfl,o6 _ _ _ _ e⟩
 |none =>
  exfalso;have q:=o5 _ _ _ e;obtain⟨t,ht,et⟩:=cov U (CO m 13 (i,p) hi) Y;have z:(lp m 13 (i,p)).2=0:=by
   rw[vd];exact Nat.div_eq_of_lt (Jw hp (by decide))
  have J:lp m 13 (i,p)=((lp m 13 (i,p)).1,0):=by rw[<- z]
  have:=q (13+t) (by unfold SetTable.turns;omega);rw[yB,J,vc,et]at this;rw[Z]at this;cases this
noncomputable def vals(m:Nat)(ow:Array (Option Nat)):List Nat:=(range (m+1)).filterMap λj=>ow.getD j none
theorem yC{j k:Nat}(h1:g j=none)(h2:g' j=some k)(U:∀x,x≠j->g' x=g x):∀l:List Nat,l.Nodup->j∈l->(l.filterMap g').Perm (k::l.filterMap g)
 | [],_,h=>by cases h
 |x::l,Y,h=>by
  obtain⟨Z,n2⟩:=JV.mp Y;by_cases e:x=j
  .subst e;rw[LY h1,Lk h2];have:∀J:List Nat,x∉J->J.filterMap g'=J.filterMap g:=by
    intro J
    induction J with
    |nil=>intro _;rfl
    |cons y J ih =>
     intro hx;have hy:y≠x:=λz=>hx (z ▸ .head _)
     rw[filterMap_cons,filterMap_cons,U y hy,ih λz=>hx (.tail _ z)]
   rw[this l Z]
  .have hm:=(Jp.mp h).resolve_left λz=>e z.symm
   have ih:=yC h1 h2 U l n2 hm;cases q:g x with
   |none =>
    rw[LY q,LY ((U x e).trans q)];exact ih
   |some v =>
    rw[Lk q,Lk ((U x e).trans q)];exact(Perm.cons v ih).trans (Perm.swap k v _)
theorem yD{g:Nat->Option Nat}:∀l:List Nat,(∀x∈l,g x≠none)->(l.filterMap g).length=l.length
 | [],_=>rfl
 |x::l,h=>by
  cases q:g x with
  |none=>exact absurd q (h x (.head _))
  |some v =>
   rw[Lk q,length_cons,length_cons,yD l λy z=>h y (.tail _ z)]
def yE(hs:ow.size=m+1)(h:(vals m ow).length<=m):∃j,j<=m/\(ow.getD j (some 0)).isNone=true:=by
 cases Classical.em (∃j,j<=m/\ow.getD j none=none)with
 |inl q =>
  obtain⟨j,U,e⟩:=q;refine⟨j,U,?_⟩;have J:j<ow.size:=by omega
  simp[Array.getD,J]at e ⊢;exact e
 |inr q =>
  have:=yD (g:=λj=>ow.getD j none) (range (m+1)) λx hx z=>q ⟨x,by have:=Lq.mp hx;omega,z⟩
  unfold vals at h;rw[this,Mq]at h;omega
noncomputable abbrev D1(m:Nat):Option (Array (Option Nat)×Nat)->Int->Option (Array (Option Nat)×Nat):=λacc h=>do
  let (owner,k) <- acc
  let j <- SetTable.layClean.free m owner (SetTable.turns m) (SetTable.bits h % (m+1)) (SetTable.bits h)
  pure (owner.setIfInBounds j (some k),k+1)
def Bt(h):SetTable.bits h<2 ^ 64:=by grind [SetTable.bits]
theorem yF(hg:gh m=true):∀(hs:List Int) ow k,ow.size=m+1->(vals m ow).Perm (range k)->k+hs.length<=m ->
  ∃J,hs.foldl (D1 m) (some (ow,k))=some (J,k+hs.length)/\J.size=m+1/\(vals m J).Perm (range (k+hs.length))
 | [],ow,k,h1,h2,_=>⟨ow,rfl,h1,h2⟩
 |h::hs,ow,k,h1,h2,h3=>by
  refine az λZq kq=>?_
  rw[length_cons]at h3;have hl:=h2.length_eq;rw[Mq]at hl;obtain⟨j0,Y,Z⟩:=yE h1 (by omega);obtain⟨j,ej,hj⟩:=Bs hg (ow:=ow) (i:=SetTable.bits h % (m+1)) (p:=SetTable.bits h) Y Z (by have:=Mj (SetTable.bits h) (show 0<m+1 by omega);omega) (Bt h);have U:j<ow.size:=by
   refine Decidable.byContradiction λz=>?_
   simp[Array.getD,z]at hj
  have e1:D1 m (some (ow,k)) h=some (ow.setIfInBounds j (some k),k+1):=by
   show(Option.bind (SetTable.layClean.free m ow (SetTable.turns m) (SetTable.bits h % (m+1)) (SetTable.bits h)) _)=_;rw[ej]
   rfl
  have hv:(vals m (ow.setIfInBounds j (some k))).Perm (range (k+1)):=by
   refine(yC (g:=λj=>ow.getD j none) (j:=j) (k:=k) ?_ ?_ ?_ (range (m+1)) nodup_range (Lq.mpr (by omega))).trans ?_
   .simp[Array.getD,U]at hj ⊢;exact hj
   .simp[Array.getD,U]
   .intro x hx;simp only[Kz,Array.getElem?_setIfInBounds];rw[if_neg λz=>hx z.symm]
   .rw[range_succ (n:=k)];exact(Perm.cons k h2).trans (Lf (l₁:=[k]))
  obtain⟨J,q1,q2,q3⟩:=yF hg hs (ow.setIfInBounds j (some k)) (k+1) (by rw[Array.size_setIfInBounds];exact h1) hv (by omega);refine kq ?_;refine⟨J,?_,q2,?_⟩
  .rw[foldl_cons,e1,q1,length_cons]
   congr 2;omega
  .rw[length_cons]
   grind
def ve(Y:gh m=true){led plain:Bool}(h:hs.size<=m):∃t z,SetTable.laid m f mv led plain hs=some (t,z)/\z.toList.Perm (range hs.size)/\t.place.size=hs.size/\t.mask=m/\t.dummies=#[]:=by
 have Z:(vals m (Array.replicate (m+1) none)).Perm (range 0):=by
  have:vals m (Array.replicate (m+1) none)=[]:=by
   unfold vals
   simp_all
  rw[this];simp
 obtain⟨ow,U,e2,J⟩:=yF Y hs.toList (Array.replicate (m+1) none) 0 (by simp) Z (by simpa using h);rw[KQ,Array.length_toList]at U J;have ec:SetTable.layClean m hs=some ow:=by
  unfold SetTable.layClean;rw[<- Array.foldl_toList];show Option.map _ (hs.toList.foldl (D1 m) _)=_;rw[U]
  rfl
 have el:((range (m+1)).filterMap λj=>(ow.getD j none).map (j,·)).map (·.2)=vals m ow:=by
  unfold vals;rw[map_filterMap]
  congr 1
  funext j
  cases ow.getD j none<;>rfl
 refine⟨_,_,by unfold SetTable.laid;rw[ec];rfl,?_,?_,rfl,rfl⟩
 .show(map _ _).Perm _;rw[el];exact J
 .show(map _ _).toArray.size=_;rw[r4,pe];have:=JK List.length el;rw[pe]at this;rw[this,J.length_eq,Mq]
def GK:∀n,n<241->(SetTable.sizeAbove n=8\/SetTable.sizeAbove n=16\/SetTable.sizeAbove n=32\/SetTable.sizeAbove n=64\/SetTable.sizeAbove n=128\/SetTable.sizeAbove n=256)/\n<SetTable.sizeAbove n:=by decide +kernel
def vf(h:n<241):gh (SetTable.sizeAbove n-1)=true/\n<=SetTable.sizeAbove n-1/\SetTable.sizeAbove n<=256:=by
 obtain⟨h1,h2⟩:=GK n h;refine⟨?_,by omega,by omega⟩;rcases h1 with e|e|e|e|e|e<;>rw[e]
 .exact CN
 .exact DY
 .exact DZ
 .exact D0
 .exact Bq
 .exact Br
def mY{es:Array (Int×Value)}{z:Array Nat}(h:z.toList.Perm (range es.size)):(z.filterMap (es[·]?)).toList.Perm es.toList:=by
 rw[Array.toList_filterMap];refine(h.filterMap _).trans ?_;have:=PySem.List.filterMap_getElem?_range_length es.toList
 simp_all
section
variable{P:Program}{w:World}{A:Around}{E:Value->Shared->Prop}{s:Shared}
variable{a:Addr}{ks:List Int}{o:Obj}{es:Array (Int×Value)}{ep:Nat}{t:SetTable}
def l6(g:bV P w h a ks o es ep t)(J:ElemsOf (intKind P w) z.toList)(U:(z.toList.map λe=>numOf e.2).Perm ks')(Y:ks'.Nodup)(Z:z.size<scanBound)(hf:t'.fits z.size=true) :
  bV P w (h.update a (Obj.putSet z t')) a ks' { o with data:=.set z (ep+1) t' } z (ep+1) t':=by
 have hq:(h.update a (Obj.putSet z t')).get? a=some { o with data:=.set z (ep+1) t' }:=by
  have:=JW (Obj.putSet z t') g.ho (by rw[putSet_of z t' g.hd];rfl);rw[putSet_of z t' g.hd]at this;exact this
 exact⟨hq,g.ex,rfl,J,U,Y,Z,hf⟩
def Bu:(256:Nat)<=sizeLine:=by simp_all [JS]
def vg(g:bV P w s.heap a ks o es ep t){z:Nat}(hw:z<241)(hn:es.size<=z){Q:Unit->Shared->Prop}
  (h:∀h' o' ao aO t',Heap.SameBut a s.heap h'->bV P w h' a ks o' ao aO t'->t'.dummies=#[]->t'.mask=SetTable.sizeAbove z-1->Q () { s with heap:=h' }):wpAny (model P w) A (setRelay a z) Q E s:=by
 obtain⟨hg,a7,hz⟩:=vf hw;unfold setRelay;refine gf (JD g.ho g.hd g.fi ?_);dsimp only;rw[if_neg (by have:=Bu;omega)];obtain⟨t',J,e1,e2,e3,e4,e5⟩:=ve hg (f:=t.finger) (mv:=t.movedTo (SetTable.sizeAbove z-1)) (led:=t.led) (plain:=t.plain) (hs:=es.map (·.1)) (by rw[LC];omega);have a1:t.relaid (es.map (·.1)) z=some (t',J):=e1;rw[LC]at e2 e3;have hp:=mY e2;have Y:(J.filterMap (es[·]?)).size=es.size:=by rw[<- Array.length_toList,hp.length_eq,Array.length_toList]
 rw[a1];refine gf (L6 (a:=(J.filterMap (es[·]?),t')) ?_ ?_)
 .show(if ((J.filterMap (es[·]?)).size != es.size)=true then _ else _)=_
  simp_all
 .dsimp only;have Z:(J.filterMap (es[·]?)).size<scanBound:=by rw[Y];exact g.bd
  have a3:t'.fits (J.filterMap (es[·]?)).size=true:=by
   have U:t'.fill=es.size:=by unfold SetTable.fill;rw[e5,e3];simp
   simp only[SetTable.fits,U,oe,Ju,Ki];exact⟨by rw[e3,Y],by omega⟩
  refine KH g.ho g.hd ?_ (Kt Z);exact h _ _ _ _ _ (JN _ a _) (l6 g (g.el.perm hp) ((hp.map _).trans g.pm) g.nd Z a3) e5 e4
def D3(g:bV P w s.heap a [] o es ep t)(hd:t.dummies=#[])(Z:t.mask=7){n:Nat}(hn:n<=60){Q:Unit->Shared->Prop}
  (h:∀h' o' J U t',Heap.SameBut a s.heap h'->bV P w h' a [] o' J U t'->t'.dummies=#[]->gh t'.mask=true->n<=t'.mask->Q () { s with heap:=h' }):wpAny (model P w) A (setRoomFor a n) Q E s:=by
 have hz:es.size=0:=g.len;have Y:t.place.size=0:=by
  have:=g.fi;simp only[SetTable.fits,oe,Ju]at this;omega
 have z:t.fill=0:=by unfold SetTable.fill;rw[hd,Y];rfl
 unfold setRoomFor;refine gf (JD g.ho g.hd g.fi ?_);have er:t.roomFor n=if (0+n)*5>=7*3 then some ((0+n)*2)else none:=by
  unfold SetTable.roomFor;rw[z,Y,Z]
 dsimp only;rw[er];by_cases c:(0+n)*5>=7*3
 .rw[if_pos c];dsimp only;have hw:(0+n)*2<241:=by omega
  refine vg g hw (by omega) λh' o' J U t' sb g' h1 h2=>?_
  obtain⟨q1,q2,_⟩:=vf hw
  grind
 .rw[if_neg c];exact gQ (h s.heap o es ep t (KG a s.heap) g hd (by rw[Z];exact CN) (by omega))
def D4(g:bV P w s.heap a ks o es ep t)(h0:0<ks.length)(hn:ks.length<=60){Q:Value->Shared->Prop}
  (h:∀h' o' U Z t',(∀c o,s.heap.get? c=some o->h'.get? c=some o)->bV P w h' s.heap.objs.size ks o' U Z t'->Q (.ref s.heap.objs.size) { s with heap:=h' }):wpAny (model P w) A (Builtin.Frozenset.copyOf a) Q E s:=by
 have keep:∀c o,s.heap.get? c=some o->(s.heap.push (bp w)).get? c=some o:=λc o e=>g4 _ e
 have ha:=Jr (tf g.ho);unfold Builtin.Frozenset.copyOf;refine gf (rF g.type ?_);refine gf (p7 ?_);simp only[Builtin.Frozenset.addrOf,pure_bind];have g1:bV P w (s.heap.push (bp w)) s.heap.objs.size [] (bp w) #[] 0 (.fresh 0 0 (!byT w)):=⟨uw _ rfl,⟨rfl,rfl,rfl⟩,rfl,λe he=>by simp at he,by simp,Ku,by decide,by rfl⟩;have a2:(s.heap.objs.size==a)=false:=by simpa using λz=>ha z.symm
 have ga:=g.at (keep a);have a4:es.isEmpty=false:=by
  have:=g.len;rw[Array.isEmpty_eq_false_iff];intro z
  simp_all
 unfold setMerge;rw[a2];simp only[Jz,Kc,LH];refine gf (JD (s:={ s with heap:=s.heap.push (bp w) }) ga.ho ga.hd ga.fi ?_);simp only[a4,Jz,Kc,LH];refine gf (D3 (s:={ s with heap:=s.heap.push (bp w) }) g1 rfl rfl (n:=es.size) (by have:=g.len;omega) λh' o' U Z t' sb g' hd hm b5=>?_);have fin:∀h' o' U Z t',Heap.SameBut s.heap.objs.size (s.heap.push (bp w)) h'->bV P w h' s.heap.objs.size ks o' U Z t'->Q (.ref s.heap.objs.size) { s with heap:=h' }:=λh' o' U Z t' sb g' =>
  h h' o' U Z t' (λc o e=>(sb.2 c (Jr (tf e))).trans (keep c o e)) g'
 refine gf (JD (s:={ s with heap:=h' }) g'.ho g'.hd g'.fi ?_);have hz:U.size=0:=g'.len;have a5:t'.place.size=0:=by
  have:=g'.fi;simp only[SetTable.fits,oe,Ju]at this;omega
 have Y:t'.fill=0:=by unfold SetTable.fill;rw[hd,a5];rfl
 have ao:t'.road t=if (t'.mask==t.mask&&t.dummies.isEmpty)=true then .slotForSlot else .clean:=by
  unfold SetTable.road;rw[Y]
  rfl
 dsimp only;rw[ao];by_cases c:(t'.mask==t.mask&&t.dummies.isEmpty)=true
 .rw[if_pos c];dsimp only;refine gf (KH (s:={ s with heap:=h' }) g'.ho g'.hd ?_ (Kt g.bd));refine gQ (fin _ _ _ _ _ (sb.trans (JN _ _ _)) (l6 g' g.el g.pm g.nd g.bd ?_));exact g.fi
 .rw[if_neg c];dsimp only;refine az λZq kq=>?_
  obtain⟨t2,J,e1,e2,e3,e4,e5⟩:=ve hm (f:=t'.finger) (mv:=t'.moves) (led:=t'.led&&t.led) (plain:=t'.plain&&t.plain) (hs:=es.map (·.1)) (by rw[LC];have:=g.len;omega);rw[LC]at e2 e3;have hp:=mY e2;have aO:(J.filterMap (es[·]?)).size=es.size:=by rw[<- Array.length_toList,hp.length_eq,Array.length_toList]
  have a0:(J.filterMap (es[·]?)).size<scanBound:=by rw[aO];exact g.bd
  refine kq ?_;rw[e1];simp only[LH];refine gf (L6 (a:=(J.filterMap (es[·]?),t2)) ?_ ?_)
  .show(if ((J.filterMap (es[·]?)).size != es.size)=true then _ else _)=_;rw[if_neg (by rw[aO];simp)]
  .dsimp only;have a8:t2.fits (J.filterMap (es[·]?)).size=true:=by
    have Y:t2.fill=es.size:=by unfold SetTable.fill;rw[e5,e3];simp
    simp only[SetTable.fits,Y,oe,Ju,Ki]
    simp_all
   refine gf (KH (s:={ s with heap:=h' }) g'.ho g'.hd ?_ (Kt a0));exact gQ (fin _ _ _ _ _ (sb.trans (JN _ _ _)) (l6 g' (g.el.perm hp) ((hp.map _).trans g.pm) g.nd a0 a8))
def eG(xs:Array α)(i):(SetTable.eraseAt xs i).toList=xs.toList.eraseIdx i:=by
 unfold SetTable.eraseAt;rw[Array.toList_append,Array.toList_extract,Array.toList_extract,eraseIdx_eq_take_drop_succ,extract_eq_take_drop,extract_eq_take_drop];simp;exact Me (by simp)
def wI(g:bV P w s.heap a ks o es ep t){k:Int}{tk:Tok}{Q:Bool->Shared->Prop}
  (h:∀b h' o' a0 a1 t',Heap.SameBut a s.heap h'->bV P w h' a (ks.filter λx=>!decide (x=k)) o' a0 a1 t'->Q b { s with heap:=h' }):wpAny (model P w) A (setDiscardHashed a (.int k tk) (hashInt k)) Q E s:=by
 unfold setDiscardHashed;refine gf (yA g ?_);cases hr:findIdx? (λe=>(intKind P w).is k e.2) es.toList with
 |none =>
  have hk:k∉ks:=λz=>by
   have:=rE (s:=s) g k;rw[hr]at this;simp[z]at this
  have e:ks.filter (λx=>!decide (x=k))=ks:=KP.mpr λx hx=>by
   have:x≠k:=λz=>hk (z▸hx)
   simpa using this
  have e2:s={ s with heap:=s.heap }:=by cases s;rfl
  rw[e]at h;have:=h false s.heap o es ep t (KG a s.heap) g;exact gQ this
 |some i =>
  obtain⟨hi,a2,_⟩:=findIdx?_eq_some_iff_getElem.mp hr;dsimp only;refine gf (JD g.ho g.hd g.fi ?_);dsimp only;have J:=(jx g.el (getElem_mem hi) k).mp a2;have a3:=g5 (Jy hi);have a4:(SetTable.eraseAt es i).size=es.size-1:=by
   rw[<- Array.length_toList,eG,Ld hi,Array.length_toList]
  have b0:i<es.size:=by simpa using hi
  have U:(SetTable.eraseAt es i).size<scanBound:=by rw[a4];have:=g.bd;omega
  have Y:=g.fi;simp only[SetTable.fits,oe,Ju,Ki]at Y;have Z:i<t.place.size:=by omega
  have a5:(t.drop i).fits (SetTable.eraseAt es i).size=true:=by
   have ed:t.drop i={ t with place:=SetTable.eraseAt t.place i,dummies:=SetTable.insertAt t.dummies (SetTable.below t.dummies (t.place[i])) (t.place[i]) }:=by
    unfold SetTable.drop;rw[Lo Z]
   rw[ed];have h1:(SetTable.eraseAt t.place i).size=t.place.size-1:=by
    rw[<- Array.length_toList,eG,Ld (by simpa using Z),Array.length_toList]
   have h2:(SetTable.insertAt t.dummies (SetTable.below t.dummies (t.place[i])) (t.place[i])).size<=t.dummies.size+1:=by
    unfold SetTable.insertAt;rw[Array.size_append,Array.size_push,K0,K0];omega
   have h3:(⟨t.mask,SetTable.eraseAt t.place i,SetTable.insertAt t.dummies (SetTable.below t.dummies (t.place[i])) (t.place[i]),t.finger,t.led,t.moves,t.plain⟩:SetTable).fill<=t.mask:=by
    show(SetTable.eraseAt t.place i).size+(SetTable.insertAt t.dummies (SetTable.below t.dummies (t.place[i])) (t.place[i])).size<=t.mask;have:t.place.size+t.dummies.size<=t.mask:=Y.2;omega
   simp only[SetTable.fits,oe,Ju,Ki]
   simp_all
  have ao:ElemsOf (intKind P w) (SetTable.eraseAt es i).toList:=λe he=>g.el e (by rw[eG]at he;exact mem_of_mem_eraseIdx he)
  have aO:((SetTable.eraseAt es i).toList.map λe=>numOf e.2).Perm (ks.filter λx=>!decide (x=k)):=by
   rw[eG];have h1:(k::(es.toList.eraseIdx i).map λe=>numOf e.2).Perm ks:=by
    have:=(a3.map λe=>numOf e.2).trans g.pm;rwa[Jq,J]at this
   have h2:=h1.nodup_iff.mpr g.nd;obtain⟨n1,_⟩:=JV.mp h2;have h3:=h1.filter λx=>!decide (x=k)
   rw[JT (by simp)]at h3;refine Perm.trans (Perm.of_eq ?_) h3;refine(KP.mpr λx hx=>?_).symm;have:x≠k:=λz=>n1 (z▸hx)
   simpa using this
  refine gf (KH g.ho g.hd ?_ (Kt U));refine gf (wpAny_point ?_);exact gQ (h true _ _ _ _ _ (JN _ _ _) (l6 g ao aO (g.nd.filter _) U a5))
def GL{id:String}{r b:Addr}{js:List Int}{ob:Obj}{eb:Array (Int×Value)}{b0:Nat}{tb:SetTable}(g:bV P w s.heap r ks o es ep t)(Y:bV P w s.heap b js ob eb b0 tb)(hl:tb.led=!byT w)(a2:b≠r)(b1:¬ js.length / 8 > ks.length)(hn:ks.length<=60){Q:Unit->Shared->Prop}
  (h:∀h' d' o' z J t' ls,Heap.SameBut r s.heap h'->bV P w h' r ls o' z J t'->ls=(ks.filter λk=>!decide (k∈js))->Q () { s with heap:=h',drawn:=d' }):wpAny (model P w) A (Builtin.Frozenset.differenceUpdate id r (.ref b)) Q E s:=by
 unfold Builtin.Frozenset.differenceUpdate;have b2:(Value.ref b==Value.ref r)=false:=by
  simpa using a2
 rw[b2];simp only[Jz,Kc];refine gf (jX Y.type ?_);simp only[if_true,Builtin.Frozenset.addrOf,pure_bind];refine gf (gc Y ?_);refine gf (gc g ?_);rw[if_neg b1];refine gf (KI Y.ho Y.hd Y.fi ?_);refine gf (JU ?_);refine gf (yy Y hl (others:=[r]) (λc hc=>?_) λZ d0 hp=>?_)
 .rw[JE.mp hc];exact⟨_,_,_,_,_,g⟩
 have a3:=Y.el.perm hp;have hK:=(hp.map _).trans Y.pm;refine gf (L8 _ (λbN _ s'=>∃dn h' d' o' z J t',dn++bN=Z.toList/\s'={ s with heap:=h',drawn:=d' }/\Heap.SameBut r s.heap h'/\bV P w h' r (ks.filter λk=>!decide (k∈dn.map λe:Int×Value=>numOf e.2)) o' z J t') _ ?_ ?_ Z _ ⟨[],s.heap,d0,o,es,ep,t,rfl,rfl,KG r s.heap,by
  have:ks.filter (λk=>!decide (k∈([]:List (Int×Value)).map λe=>numOf e.2))=ks:=KP.mpr λx _=>by simp
  rw[this];exact g⟩)
 .rintro ⟨hx,x⟩ bN u s' ⟨dn,h',d',o',z,J,t',e1,rfl,sb,gl⟩;have U:(hx,x)∈Z.toList:=by rw[<- e1];simp
  obtain⟨a4,q⟩:=eO a3 _ U;obtain⟨⟨k0,b3,aO⟩,_⟩:=a3 _ U;have a5:=(jx a3 U k0).mp b3;dsimp only at q a5 aO;generalize numOf x=k at q a5;subst q a5;have aO:=aO;subst aO;dsimp only;refine gf (JU (wI (s:={ s with heap:=h',drawn:=d' }) gl λb' h2 o2 a6 a7 t2 a0 g2=>?_));have ck:=Y.at λo e=>(a0.2 b a2).trans ((sb.2 b a2).trans e)
  refine DW (s:={ s with heap:=h2,drawn:=d' }) ck ⟨dn++[(hashInt k,Value.int k a4)],h2,d',o2,a6,a7,t2,by rw[J9];exact e1,rfl,sb.trans a0,?_⟩;have:(ks.filter λx=>!decide (x∈(dn++[(hashInt k,Value.int k a4)]).map λe:Int×Value=>numOf e.2))=(ks.filter λk=>!decide (k∈dn.map λe:Int×Value=>numOf e.2)).filter λx=>!decide (x=k):=by
   rw[List.filter_filter]
   congr 1
   funext x
   have cl:numOf (Value.int k a4)=k:=rfl;rw[JM,Jq,map_nil,cl];by_cases h1:x=k<;>by_cases h2:x∈dn.map (λe:Int×Value=>numOf e.2)<;>simp[h1,h2]
  rw[this];exact g2
 .rintro u s' ⟨dn,h',d',o',z,J,t',e1,rfl,sb,gl⟩;rw[Kq]at e1;subst e1;have e3:(ks.filter λk=>!decide (k∈Z.toList.map λe:Int×Value=>numOf e.2))=ks.filter λk=>!decide (k∈js):=by
   congr 1
   funext k
   congr 1
   rw[Mr];exact hK.mem_iff
  rw[e3]at gl;refine gQ ?_;unfold setTidy;refine gf (JD (s:={ s with heap:=h',drawn:=d' }) gl.ho gl.hd gl.fi ?_);dsimp only;refine JG (λ_=>?_) (λ_=>?_)
  .have c4:z.size<=60:=by
    rw[gl.len];exact Js (Lh _ _) hn
   have cr:SetTable.grown z.size=z.size*4:=by unfold SetTable.grown;rw[if_neg (by omega)]
   rw[cr];exact vg (s:={ s with heap:=h',drawn:=d' }) gl (by omega) (by omega) λh2 o2 a6 a7 t2 a0 g2 _ _=>h h2 d' o2 a6 a7 t2 _ (sb.trans a0) g2 rfl
  .exact gQ (h h' d' o' z J t' _ sb gl rfl)
def D5{id:String}{b:Addr}{js:List Int}{Q:Value->Shared->Prop}(ga:b6 P w s.heap a ks)(gb:b6 P w s.heap b js)(U:ks.length / 4 > js.length)(hn:ks.length<=60)
  (h:∀h' d' z o' Y Z t',(∀c o,s.heap.get? c=some o->h'.get? c=some o)->z.length=(ks.filter λk=>!decide (k∈js)).length->bV P w h' s.heap.objs.size z o' Y Z t'->Q (.ref s.heap.objs.size) { s with heap:=h',drawn:=d' }) :
  wpAny (model P w) A (Builtin.Frozenset.difference id a (.ref b)) Q E s:=by
 obtain⟨oa,ea,a8,ta,wa,a9⟩:=ga.w;obtain⟨ob,eb,b0,tb,J,ao⟩:=gb.w;have hb:=Jr (tf J.ho);unfold Builtin.Frozenset.difference;refine gf (jX J.type ?_);simp[Jz,L0,Builtin.Frozenset.addrOf,pure_bind];refine gf (gc J ?_);refine gf (gc wa ?_);rw[if_pos U];refine gf (KL ?_);refine gf (D4 wa (by omega) hn λh1 o1 b2 b3 t1 k1 g1=>?_);refine gf (gQ ?_);have aO:=J.at (k1 b);refine gf (JU (GL (s:={ s with heap:=h1 }) g1 aO ao.led hb (by omega) hn λh2 d2 o2 a0 a1 t2 z a2 g2 e2=>?_));exact gQ (h h2 d2 z o2 a0 a1 t2 (λc o e=>(a2.2 c (Jr (tf e))).trans (k1 c o e)) (by rw[e2]) g2)
def yG{id:String}{b:Addr}{js:List Int}{Q:Value->Shared->Prop}(Y:b6 P w s.heap a ks)(Z:b6 P w s.heap b js)(hn:ks.length<=60)
  (h:∀h' d' U o' z J t',(∀c o,s.heap.get? c=some o->h'.get? c=some o)->U.length=(ks.filter λk=>!decide (k∈js)).length->bV P w h' s.heap.objs.size U o' z J t'->Q (.ref s.heap.objs.size) { s with heap:=h',drawn:=d' }) :
  wpAny (model P w) A (Builtin.Frozenset.difference id a (.ref b)) Q E s:=by
 by_cases c:ks.length / 4 > js.length
 .exact D5 Y Z c hn h
 .refine DX Y Z c λh' d' U k p g=>?_
  obtain⟨o',z,J,t',g',_⟩:=g.w;exact h h' d' U o' z J t' k p.length_eq g'
end
def oF:entryFor table "set.__sub__"=some Builtin.«frozenset.__sub__»:=
 entryFor_alias (id':="frozenset.__sub__") (by kernel_rfl) (by first|rfl|decide +kernel|(unfold String.splitOn;simp +decide [String.splitOnAux])) (by decide +kernel) (by kernel_rfl)
section
variable{P:Program}{w:World}{A:Around}{E:Value->Shared->Prop}{s:Shared}
def yH{ks js:List Int}{Q:Value->Shared->Prop}(Z:b6 P w s.heap a ks)(gb:b6 P w s.heap b js)(hn:ks.length<=60)
  (h:∀h' d' U o' z J t',(∀c o,s.heap.get? c=some o->h'.get? c=some o)->U.length=(ks.filter λk=>!decide (k∈js)).length->bV P w h' s.heap.objs.size U o' z J t'->Q (.ref s.heap.objs.size) { s with heap:=h',drawn:=d' }) :
  wpAny (model P w) A (binaryOp .Sub (.ref a) (.ref b)) Q E s:=by
 obtain⟨oa,ea,a1,ta,Y,a2⟩:=Z.w;obtain⟨ob,eb,a3,tb,wb,a4⟩:=gb.w;refine wpAny_binaryOp_same Y.type wb.type F.fills_set_sub F.slot_set_sub ?_;refine JL F.slot_set_sub Y.type oF ?_ (F.args_set_sub_2 _ _);show wpAny _ _ (do
  let (self,other) <- Builtin.Frozenset.slot1 "__sub__" ⟨[.ref a,.ref b],[]⟩
  let (l,r):=if false then(other,self)else(self,other)
  if !(<- Builtin.Frozenset.isAnySet l <&&> Builtin.Frozenset.isAnySet r)then rule s!"frozenset.{"__sub__"}.declined";return <- ret .notImplemented
  ret (<- Builtin.Frozenset.difference s!"frozenset.{"__sub__"}" _ r)) _ _ s
 refine gf (L6 (a:=_) rfl ?_);refine gf (gf (jX Y.type ?_));refine jX wb.type ?_;refine gf (yG Z gb hn λh' d' U o' z J t' k hl g=>?_);exact gQ ⟨_,rfl,by simp,h h' d' U o' z J t' k hl g⟩
end
end L2.St
namespace L2
open PySem PySem.Spec PyProof.Rows List Option
noncomputable def tY(P:Program)(w:World)(a:Addr)(n:Nat):HO:=.ext λh=>∃ks o es ep t,St.bV P w h a ks o es ep t/\ks.length=n
def wJ(g:St.bV P w h a ks o es ep t)(e:ks.length=n):bE P w H h a (tY P w a n):=
 ⟨⟨ks,o,es,ep,t,g,e⟩,⟨o,g.ho⟩,λh1 h2 ⟨ks,o,es,ep,t,g,e⟩ k=>⟨ks,o,es,ep,t,g.at k,e⟩⟩
section
variable{X:Cx}
def wK:OpR X (binaryOp .Sub) (λx y H Q=>∃a b ks js,x=.ref a/\y=.ref b/\H a=some (jk X.prog X.w a ks)/\H b=some (jk X.prog X.w b js)/\ks.length<=60/\∀p,H p=none->Q (.ref p) (upd H p (tY X.prog X.w p (ks.filter λk=>!decide (k∈js)).length))):=by
 intro pins s σ H x y v u Q I z J h;obtain⟨a,b,ks,js,rfl,rfl,U,Y,Z,q⟩:=h;cases z;cases J;refine St.yH (I.set U) (I.set Y) Z λh' d' ls o' ao aO t' kp hl g=>?_
 exact⟨.ref s.heap.objs.size,_,I.laidD kp (pd _) (wJ g hl),rfl,q _ (I.hok.fresh (pd _))⟩
def rG:bO X (.builtin "len") (λxs H Q=>∃a n,xs=[.ref a]/\H a=some (tY X.prog X.w a n)/\Q (.int n) H):=by
 intro pins s σ H xs us Q I r h;refine az λZq z=>?_
 obtain⟨a,n,rfl,e,q⟩:=h;obtain⟨u,rfl,J⟩:=dU r;cases J;obtain⟨ks,o,es,ep,t,g,U⟩:=(show bE X.prog X.w H s.heap a _ from I.hok a _ e).1;have Y:=g.len;have hb:=g.bd;have Z:scanBound=4096:=rfl;refine z ?_;refine call_len_set g.ho g.ex g.hd g.fi (by omega) ⟨.int n,H,I.tok _,⟨s.toks+1,?_⟩,q⟩;rw[Y,U]
def qa:bO X (.builtin "len") (λxs H Q=>∃a ks,xs=[.ref a]/\H a=some (jk X.prog X.w a ks)/\Q (.int ks.length) H):=by
 intro pins s σ H xs us Q I r h;obtain⟨a,ks,rfl,e,q⟩:=h;obtain⟨u,rfl,z⟩:=dU r;cases z;obtain⟨o,es,ep,t,g,_⟩:=(I.set e).w;have U:=g.bd;have J:scanBound=4096:=rfl;refine call_len_set g.ho g.ex g.hd g.fi (by omega) ⟨.int ks.length,H,I.tok _,⟨s.toks+1,?_⟩,q⟩;rw[g.len]
end
end L2
namespace L2.En
open PySem PyProof.Rows List Option
open AutoSeq1 (wpAny_loadPart')
section
variable{P:Program}{w:World}{A:Around}{E:Value->Shared->Prop}{s:Shared}
def tZ(J:s.heap.IsTupleIter it t i)
  (h:wpAny (model P w) A.in1 (Builtin.«tuple_iterator.__next__» ⟨[.ref it],[]⟩) (λfin s'=>∃v,fin=.done (.ret v)/\Q v s') E s):wpAny (model P w) A (Builtin.SmallTypes.nextOf (.ref it)) Q E s:=by
 refine gf (J2 J.typeIs F.slot_tuple_iterator_next ?_);refine JL F.slot_tuple_iterator_next J.typeIs F.entry_tuple_iterator_next ?_ (F.args_tuple_iterator_next_1 _);refine JR h (λfin s' hv=>?_) λ_ _ z=>z
 obtain⟨v,rfl,q⟩:=hv;exact⟨v,rfl,gQ q⟩
def GM (z:A.handled=none) (h:∀h' e,(∀b o,s.heap.get? b=some o->h'.get? b=some o)->(∃o,h'.get? e=some o/\o.cls=.type "StopIteration")->E (.ref e) { s with heap:=h' }) :
  wpAny (model P w) A (Builtin.SmallTypes.stopIteration:Sem α) Q E s:=by
 wp_walk
 exact wpAny_raiseNew_none z (h _ _ (λb o q=>g4 _ (g4 _ q)) ⟨_,uw _ rfl,rfl⟩)
def o7(U:A.handled=none)(z:s.heap.IsTupleIter it t i)(Y:s.heap.IsTuple t items)
  (Z:∀x h',items[i]?=some x->h'.IsTupleIter it t (i+1)->Heap.SameBut it s.heap h'->Q x { s with heap:=h' })
  (hE:∀h' e,items[i]?=none->Heap.ExtBut it s.heap h'->(∃o,h'.get? e=some o/\o.cls=.type "StopIteration")->E (.ref e) { s with heap:=h' }):wpAny (model P w) A (Builtin.SmallTypes.nextOf (.ref it)) Q E s:=by
 refine tZ z ?_;refine az λZq kq=>?_
 obtain⟨⟨c1,d1,t1,l1⟩,h1,e1,e2⟩:=z;obtain⟨⟨c2,d2,t2,l2⟩,h2,e3,n2,e4⟩:=Y;cases e1;cases e2;cases e3;cases e4;obtain⟨J,g,d,tk,os⟩:=s;refine kq ?_
 wp_walk using wpAny_loadPart' h1,wpAny_loadPart' h2
 have self:∀k v,(J.update it (Obj.mapFields (·.setIfInBounds k v))).get? it=some { cls:=.type "tuple_iterator",dict:=d1,data:=.fields _,slots:=l1 }:=λk v=>JW _ h1 rfl
 rw[Int.toNat_natCast];cases hx:items[i]? with
 |some x =>
  refine gf (wpAny_setField h1 rfl (by simp) (gQ ⟨x,rfl,Z x _ hx ⟨_,self 1 _,rfl,?_⟩ (JN ..)⟩));simp[rawInt]
 |none =>
  refine gf (KL (gf (wpAny_setField h1 rfl (by simp) (GM (by simpa using U) λh' e k st=>?_))));exact hE h' e hx (λb o hb q=>k b o ((JN J it _).extBut b o hb q)) st
def draws(U:A.handled=none)(it t)(z:t≠it)(items):Draws P w A it [it,t] items.size (λi v=>items[i]?=some v) (λi h=>h.IsTupleIter it t i/\h.IsTuple t items) where
 live:=λ_ _ ⟨⟨o,ho,_⟩,_⟩=>⟨o,ho⟩
 frame:=λi h h' ⟨⟨o,ho,r⟩,⟨Y,J,r2⟩⟩ k=>⟨⟨o,k it (.head _) o ho,r⟩,⟨Y,k t (.tail _ (.head _)) Y J,r2⟩⟩
 item:=λi s Q E hi ⟨h1,h2⟩ hQ=>o7 U h1 h2 (λx h' hx h3 Z=>hQ x h' s.toks hx ⟨h3,h2.extBut Z.extBut z⟩ Z) λh' e hx _ _=>absurd hx (by simp;omega)
 done:=λs Q E ⟨h1,h2⟩ hE=>o7 U h1 h2 (λx h' hx _ _=>absurd hx (by simp)) λh' e _ eb st=>hE h' e eb st
def yI{Q:Bool->Shared->Prop}(h:∀c,Q c s):wpAny (model P w) A (pure b) Q E s:=gQ (h b)
def Bv(l)(items)(n)(z)(J) :
  Meets (Builtin.«enumerate.__new__» ⟨[.type "enumerate",.ref l],[]⟩) (λ_ R s=>s.heap.get? l=some { cls:=.type "tuple",dict:=z,data:=.seq items n,slots:=J } /\
   R (.ok (.ret (.ref (s.heap.push { cls:=.type "tuple_iterator",data:=.fields #[.ref l,.int 0 0] }).objs.size)))
    { s with heap:=(s.heap.push { cls:=.type "tuple_iterator",data:=.fields #[.ref l,.int 0 0] }).push { cls:=.type "enumerate",data:=.fields #[.none,.bool false,.ref s.heap.objs.size,rawInt 0,.none,.none] } }):=by
 refine .of_wp λP w A R s h=>?_
 have tl:Heap.IsTuple _ l items:=⟨_,h.1,rfl,n,rfl⟩;have U:=sub_enumerate
 wp_walk using wpAny_loadPart' h.1
 apply wpAny_stack_any;intro st;refine yI λc=>?_
 cases c
 .wp_walk using wpAny_pyIter_tuple tl
  exact⟨_,rfl,h.2⟩
 .wp_walk using wpAny_pyIter_tuple tl
  exact⟨_,rfl,h.2⟩
def call_tup(Z:s.heap.IsTuple l items)
  (h:∀h',IsEnum h' (s.heap.objs.size+1) s.heap.objs.size 0 .none->h'.IsTupleIter s.heap.objs.size l 0->h'.objs.size=s.heap.objs.size+2 ->
   (∀b o,s.heap.get? b=some o->h'.get? b=some o)->Q (.ref (s.heap.objs.size+1)) { s with heap:=h' }):wpAny (model P w) A (call (.type "enumerate") [.ref l]) Q E s:=by
 obtain⟨⟨c,J,dt,sl⟩,hl,hc,n,hd⟩:=Z;cases hc;cases hd;have made:=Bv l items n J sl;refine callType_new F.called_enumerate (by decide) (F.typeCall_enumerate_1 _) (F.newCall_enumerate_1 _) (λv=>F.args_object_init_2 v _) F.entry_enumerate_new made ⟨hl,?_⟩;generalize hi:({ cls:=.type "tuple_iterator",data:=.fields #[.ref l,.int 0 0] }:Obj)=io;generalize ho:({ cls:=.type "enumerate",data:=.fields #[.none,.bool false,.ref s.heap.objs.size,rawInt 0,.none,.none] }:Obj)=U;have z:(s.heap.push io).objs.size=s.heap.objs.size+1:=JH ..;have Y:((s.heap.push io).push U).get? (s.heap.objs.size+1)=some U:=by
  rw[<- z];exact uw _ (by rw[<- ho];rfl)
 have g2:((s.heap.push io).push U).get? s.heap.objs.size=some io:=g4 _ (uw _ (by rw[<- hi];rfl));rw[z];refine⟨⟨_,Y,by rw[<- ho]⟩,h _ (by rw[<- ho]at Y;rw[<- ho];exact Y) ⟨_,g2,by rw[<- hi],by rw[<- hi];rfl⟩ (by rw[JH,z]) λb o q=>g4 _ (g4 _ q)⟩
end
end L2.En
namespace L2.Dv
open PySem PyProof.Rows List Option
open AutoSeq1 (wpAny_loadPart')
section
variable{P:Program}{w:World}{A:Around}{E:Value->Shared->Prop}{s:Shared}
def Ents(h:Heap)(d:Addr)(es:Array DictEntry)(ep:Nat):Prop:=∃o,h.get? d=some o/\o.ExactDict/\o.data=.dict es ep
theorem Ents.at(x:Ents h d es ep)(k:∀o,h.get? d=some o->h'.get? d=some o):Ents h' d es ep:=by
 obtain⟨o,ho,r⟩:=x;exact⟨o,k o ho,r⟩
theorem Ents.type (x:Ents s.heap d es ep):s.TypeIs (.ref d) "dict":=by
 obtain⟨o,ho,r,_⟩:=x;exact⟨o,ho,r.1⟩
def values_of(hd:(d==sysModules)=false)(x:Ents s.heap d es ep)
  (h:Q (.ref s.heap.objs.size) { s with heap:=s.heap.push { cls:=.type "dict_values",data:=.fields #[.ref d] } }):wpAny (model P w) A (call (.builtin "dict.values") [.ref d]) Q E s:=by
 refine JL F.slot_dict_values x.type F.entry_dict_values ?_ (F.args_dict_values_1 _);refine az λY z=>?_
 obtain⟨⟨Z,d1,t1,l1⟩,h1,hx,J⟩:=x;have U:=hx.1;cases U;cases J;refine z ?_
 wp_walk using wpAny_loadPart' h1
 exact⟨_,rfl,h⟩
def Bw(hv:s.heap.IsValuesView v d)(x:Ents s.heap d es ep)
  (h:Q (.ref s.heap.objs.size) { s with heap:=s.heap.push { cls:=.type "dict_valueiterator",data:=.fields #[.ref d,.int 0 0,.int es.size 0,.int ep 0] } }):wpAny (model P w) A (pyIter (.ref v)) Q E s:=by
 refine Mf hv.typeIs F.slot_dict_values_iter (JL F.slot_dict_values_iter hv.typeIs F.entry_dict_values_iter ?_ (F.args_dict_values_iter_1 _));refine az λZq z=>?_
 obtain⟨⟨c1,d1,t1,l1⟩,h1,hx,J⟩:=x;have U:=hx.1;cases U;cases J;obtain⟨⟨c3,d3,t3,l3⟩,Y,Z,e4⟩:=hv;cases Z;cases e4;refine z ?_
 wp_walk using wpAny_loadPart' h1,wpAny_loadPart' Y
 exact⟨_,rfl,_,_,⟨_,uw _ rfl,rfl⟩,K2.lookup,h⟩
def vh{ep:Nat}{Q:Option Value->Shared->Prop}(Z:A.handled=none)(hv:s.heap.IsValIter it d i es.size ep)(x:Ents s.heap d es ep)
  (h1:∀e h',es[i]?=some e->h'.IsValIter it d (i+1) es.size ep->Heap.SameBut it s.heap h'->Q (some e.val) { s with heap:=h' })
  (h2:∀h',es[i]?=none->Heap.ExtBut it s.heap h'->Q none { s with heap:=h' }):wpAny (model P w) A (pyNext (.ref it)) Q E s:=by
 have ty:=hv.typeIs;obtain⟨⟨c1,d1,t1,l1⟩,g1,hx,e2⟩:=x;have e1:=hx.1;cases e1;cases e2;obtain⟨⟨c3,d3,t3,l3⟩,J,e3,e4⟩:=hv;cases e3;cases e4;obtain⟨U,g,dr,tk,os⟩:=s;unfold pyNext;refine gf (LJ (J2 (name:=Str.ofString "__next__") ty K2 (JL K2 ty F.entry_dict_valueiterator_next ?_ (F.args_dict_valueiterator_next_1 _))));unfold Builtin.«dict_valueiterator.__next__»
 wp_walk using wpAny_loadPart' g1,wpAny_loadPart' J
 rw[if_neg (by omega),Int.toNat_natCast];have self:∀k v,(U.update it (Obj.mapFields (·.setIfInBounds k v))).get? it=some { cls:=.type "dict_valueiterator",dict:=d3,data:=.fields ((#[.ref d,.int (i:Int) 0,.int (es.size:Int) 0,.int (ep:Int) 0]:Array Value).setIfInBounds k v),slots:=l3 }:=λk v=>JW _ J rfl
 cases hx:es[i]? with
 |some e =>
  have Y:=self 1 (rawInt ((i:Int)+1))
  wp_walk using wpAny_loadPart' J,wpAny_loadPart' Y
  exact⟨_,rfl,gQ (h1 e _ hx ⟨_,Y,rfl,rfl⟩ (JN ..))⟩
 |none =>
  refine gf (JR (Q:=λn s'=>n=0/\s'=⟨U,g,dr,tk,os⟩) (E:=λ_ _=>False) ?_ (λn s' q=>?_) λ_ _ z=>z.elim)
  .wp_walk using wpAny_loadPart' J
   exact⟨by decide +kernel,rfl⟩
  obtain⟨rfl,rfl⟩:=q;refine gf (wpAny_setField J rfl (by simp) ?_);refine St.kO (v:=.none) (vs:=#[]) (it:=0) (Q:=λ_ _=>True) (by simpa using Z) λe s' kp ⟨h',eq⟩ hT=>?_
  subst eq;refine gf (Ke (T:="StopIteration") (b:=true) hT isSubtype_stop ?_);exact gQ (h2 h' hx λb o hb q=>kp b o ((JN U it _).extBut b o hb q))
def src :PySem.W.KdlSrc P w "dict_values" r d es.size (λi v=>∃e,es[i]?=some e/\v=e.val) (λh=>h.IsValuesView r d/\Ents h d es ep) where
 type:=λ_ q=>q.1.typeIs
 there:=λ_ ⟨⟨o,ho,_⟩,⟨o',Z,_⟩⟩=>⟨tf ho,tf Z⟩
 keep:=λ_ _ ⟨⟨o,ho,z⟩,x⟩ k=>⟨⟨o,k r (.inl rfl) o ho,z⟩,x.at λo e=>k d (.inr rfl) o e⟩
 notList:=by decide
 notTuple:=by decide
 hint:=λ_ _ _ _ q z=>PySem.W.kdl_hint_values q.1.typeIs z
 iter:=λA s hh ⟨q,x⟩=>by
  have lt:d<s.heap.objs.size:=by obtain⟨o,ho,_⟩:=x;exact tf ho
  have ne:=Jr lt;refine⟨{ cls:=.type "dict_valueiterator",data:=.fields #[.ref d,.int 0 0,.int es.size 0,.int ep 0] },λi h=>h.IsValIter s.heap.objs.size d i es.size ep/\Ents h d es ep,λE Q z=>Bw q x z,?_,⟨_,uw _ rfl,rfl,rfl⟩,x.at λo e=>g4 _ e⟩;refine⟨λb J=>by simp at J;simp[J],λi h h' ⟨⟨o,ho,z⟩,y⟩ k=>⟨⟨o,k _ (by simp) o ho,z⟩,y.at λo e=>k d (by simp) o e⟩,λi s' Q E hi ⟨y,z⟩ U=>?_,λs' Q E ⟨y,z⟩ U=>?_,λi s' Q E ⟨y,z⟩ U=>?_⟩
  .refine vh hh y z (λe h' Y y' sb=>?_) λh' Y _=>absurd Y (by simp;omega)
   exact U _ h' s'.toks ⟨e,Y,rfl⟩ ⟨y',z.at λo q=>sb.extBut d o ne q⟩ λb o J q=>sb.extBut b o (λw=>J (by simp[w])) q
  .refine vh hh y z (λe h' Y _ _=>absurd Y (by simp)) λh' _ eb=>?_
   exact U h' s'.toks λb o J q=>eb b o (λw=>J (by simp[w])) q
  .exact wpAny_pyIter_valiter y U
end
end L2.Dv
namespace HT
open PySem PyProof.Rows List Option
section
variable{prog:Program}{w:World}{A:Around}{E:Value->Shared->Prop}{s:Shared}
def getItem_tuple_whole{items:Array Value}{Z vu:Value}{lo hi:Option Int}{Q:Value->Shared->Prop}(z:IsTup s.heap t items)(hs:s.heap.IsSliceOf sl Z vu .none)(pl:IsPart Z lo)(pu:IsPart vu hi)
  (h0:sIx items.size 0 lo=0) (h1:sIx items.size items.size hi=items.size) (h:Q (.ref t) s):wpAny (model prog w) A (getItem (.ref t) (.ref sl)) Q E s:=by
 have J:s.TypeIs (.ref sl) "slice":=by obtain⟨os,U,Y,_⟩:=hs;exact⟨os,U,Y⟩
 unfold getItem
 try with_reducible refine JU ?_
 first|refine gf (gQ ?_)|skip
 refine gf (wpAny_sequenceKey z.typeIs (by decide) ?_);refine gf (J2 (name:=Str.ofString "__getitem__") z.typeIs J1
  (JL J1 z.typeIs entry_tuple_getitem ?_ (args_tuple_getitem _ _)))
 show wpAny _ _ (Builtin.Tuple.tupleItemsOf _ >>= _) _ _ s;refine gf (tupleItemsOf_ z ?_);refine gf (Lb J ?_);rw[if_pos (by decide)];refine gf (fZ hs pl pu ?_);show wpAny _ _ (if (((sIx items.size 0 lo:Nat):Int)==0&&_==1&&_==items.size)=true then _ else _) _ _ s;rw[h0,h1,if_pos (by simp)];unfold Builtin.Tuple.tupleIsExact;refine gf (gf (Lb z.typeIs (gQ ?_)));rw[if_pos (by decide)];refine gf (KL ?_);exact gQ ⟨_,rfl,gQ h⟩
end
end HT
namespace L2
open PySem PySem.Spec PyProof.Rows List Option
section
variable{X:Cx}
def Bx:SlR X (λx lo hi H Q=>∃a xs,x=.ref a/\SqT X.K H a xs/\HT.sIx xs.length 0 lo=0/\HT.sIx xs.length xs.length hi=xs.length/\Q (.ref a) H):=by
 intro pins s σ H x v vl vu lo hi sl Q I U hs Y Z h;refine az λZq kq=>?_
 obtain⟨a,xs,rfl,hx,h0,h1,q⟩:=h;cases U;obtain⟨its,r,J,hz⟩:=I.tuple hx;have z:its.toArray.size=xs.length:=by rw[r4];exact r.length.symm
 refine kq ?_;refine⟨"tuple",_,J1.lookup,J.typeIs,?_⟩;exact HT.getItem_tuple_whole J hs Y Z (by rw[z];exact h0) (by rw[z];exact h1) ⟨.ref a,H,I,rfl,q⟩
end
end L2
namespace L2.Rv
open PySem PyProof.Rows List Option
section
variable{P:Program}{w:World}{A:Around}{E:Value->Shared->Prop}{s:Shared}
def D6:typeLookup (.type "list_reverseiterator") "__len__"=pure none:=by rw[LU,Lc];kernel_rfl
def yJ:typeLookup (.type "list_reverseiterator") "__length_hint__"=pure (some (.builtin "list_reverseiterator.__length_hint__")):=by rw[LU,Lc];kernel_rfl
def yK (U:s.TypeIs (.ref it) "list_reverseiterator") (h:Q false s):wpAny (model P w) A (Builtin.List.listLengthHint (.ref it)) Q E s:=by
 unfold Builtin.List.listLengthHint;refine gf (LP U D6 ?_);refine JG (λz=>absurd z (by decide)) (λ_=>?_);refine JG (λz=>absurd z (by decide)) (λ_=>?_);refine gf (LP U yJ ?_);generalize J:("list_reverseiterator.__length_hint__":String)=Y
 wp_delta
 rw[show splitId Y=some ("list_reverseiterator","__length_hint__")from by subst J;decide +kernel];subst J;refine gf (Ke (T:="list_reverseiterator") (b:=true) U (by rw[L1];kernel_rfl) ?_);refine JG (λz=>absurd z (by decide)) (λ_=>?_);refine JG (λ_=>?_) (λz=>absurd (by decide +kernel) z);refine JG (λz=>absurd z (by decide +kernel)) (λ_=>?_);exact gQ h
def Drawn(items:Array Value)(i:Nat)(v:Value):Prop:=items[items.size-1-i]?=some v
def t4{it l S:Addr}{items:Array Value}(hh:A.handled=none)(ao:l≠it)(U:s.heap.IsRevIter it l ((items.size:Int)-1))(hl:s.heap.IsList l items)(hn:items.size<=sizeLine)(Y:S≠it)(aO:S≠l)(res)
  (hS:s.heap.get? S=some { cls:=.type "list",data:=.seq #[] })
  (hR:∀h' tk J c,(∀b o,b≠S->b≠it->s.heap.get? b=some o->h'.get? b=some o)->h'.get? S=some { cls:=.type "list",dict:=none,data:=.seq J c,slots:=#[] }->ItemsOf (Drawn items) J items.size->R (.ok (.ret res)) { s with heap:=h',toks:=tk }) :
  wpAny (model P w) A.in1 (Builtin.List.listExtendWith (.ref S) (.ref it) res)
   (λfin s'=>match fin with|.done f=>R (.ok f) s'|.again c'=>c'.quiet=true/\codeAny (model P w) A c' R s') (λe s'=>R (.error e) s') s:=by
 have hT:=U.typeIs;have W:=Walks.listRev (prog:=P) (w:=w) (A:=A.in1) (by simpa using hh) it l ao items;have a0:S∉[it,l]:=by simp[Y,aO]
 unfold Builtin.List.listExtendWith;refine gf (Lb hT ?_);have h1:Builtin.List.listSameRef (.ref S) (.ref it)=false:=by simp[Builtin.List.listSameRef,Y]
 rw[if_neg (by rw[h1];decide)];refine gf (wpAny_pyIter_revIter U ?_);refine gf (JU (yK hT ?_));refine JG (λa1=>absurd a1 (by decide)) (λ_=>?_);refine gQ ⟨LI PySem.F.plain_extend_loop _,?_⟩;refine codeAny_extend_loopS W.toS hn S a0 res items.size 0 s #[] 0 rfl (JZ _) ⟨JZ _,by simpa using U,hl⟩ hS (ItemsOf.nil _) λs' J c hm a2 Z=>?_
 rw[Moved.eq_with hm];refine hR s'.heap s'.toks J c (λb o hb b1 e=>hm.heap b o (λz=>?_) e) a2 Z
 simp_all
end
end L2.Rv
namespace L2
open PySem PySem.Spec PyProof.Rows List Option
section
variable{X:Cx}
def t5{its:List Value}(h:ItemsOf (Rv.Drawn its.toArray) acc its.toArray.size):acc.toList=its.reverse:=by
 have hs:acc.size=its.length:=by rw[h.1,r4]
 refine Mn λi=>?_
 rw[JX];by_cases hi:i<its.length
 .cases e:acc[i]? with
  |none=>rw[Array.getElem?_eq_none_iff]at e;omega
  |some v =>
   have:=h.2 i v e;unfold Rv.Drawn at this;rw[r4,getElem?_toArray]at this;rw[getElem?_reverse hi,<- this]
 .simp_all
end
end L2
namespace L2.Rg
open PySem PyProof.Rows List Option
section
variable{P:Program}{w:World}{A:Around}{E:Value->Shared->Prop}{s:Shared}
end
end L2.Rg
namespace L2
open PySem PySem.Spec PyProof.Rows List Option
section
variable{X:Cx}
end
end L2
namespace L2.Rv
open PySem PyProof.Rows List Option
open AutoSeq1 (wpAny_loadPart')
section
variable{P:Program}{w:World}{A:Around}{E:Value->Shared->Prop}{s:Shared}
def list_rev{it l:Addr}{items:Array Value}(hh:A.handled=none)(U:l≠it)(J:s.heap.IsRevIter it l ((items.size:Int)-1))(hl:s.heap.IsList l items)(hn:items.size<=sizeLine)
  (h:∀h' tk z c,(∀b o,b≠it->s.heap.get? b=some o->h'.get? b=some o)->h'.get? s.heap.objs.size=some { cls:=.type "list",dict:=none,data:=.seq z c,slots:=#[] }->ItemsOf (Drawn items) z items.size->Q (.ref s.heap.objs.size) { s with heap:=h',toks:=tk }) :
  wpAny (model P w) A (call (.type "list") [.ref it]) Q E s:=by
 have li:it<s.heap.objs.size:=by obtain⟨o,ho,_⟩:=J;exact tf ho
 have ll:l<s.heap.objs.size:=by obtain⟨o,ho,_⟩:=hl;exact tf ho
 refine callType_codes F.called_list (F.typeCall_list_1 _) F.entry_list_init (code_list_new (.ref it) (Q₁:=λobj s1=>obj=.ref s.heap.objs.size/\s1={ s with heap:=s.heap.push { cls:=.type "list",data:=.seq #[] } }) ⟨rfl,rfl⟩) λobj s1 h1=>?_
 obtain⟨rfl,rfl⟩:=h1;have Y:(s.heap.push { cls:=.type "list",data:=.seq #[] }).get? s.heap.objs.size=some { cls:=.type "list",data:=.seq #[] }:=uw _ rfl;refine⟨⟨_,Y,rfl⟩,F.args_list_init_2 _ _,?_⟩;unfold Builtin.«list.__init__»;generalize hX:Builtin.List.listExtendWith=X
 wp_walk using wpAny_loadPart' Y
 subst hX;have g1:((s.heap.push { cls:=.type "list",data:=.seq #[] }).update s.heap.objs.size (Obj.mapSeq λ_=>#[])).get? s.heap.objs.size=some { cls:=.type "list",data:=.seq #[] }:=JW _ Y rfl;have kp:∀b o,b≠s.heap.objs.size->s.heap.get? b=some o->((s.heap.push { cls:=.type "list",data:=.seq #[] }).update s.heap.objs.size (Obj.mapSeq λ_=>#[])).get? b=some o:=λb o Z e=>(JN ..).extBut b o Z (g4 _ e)
 refine t4 (A:=A.in1) (by simpa using hh) U (J.at λo e=>kp _ o (Jr li) e) (hl.at λo e=>kp _ o (Jr ll) e) hn (Kx li) (Kx ll) .none g1 λh' tk z c k e i=>?_
 exact⟨rfl,h h' tk z c (λb o Z q=>k b o (Jr (tf q)) Z (kp b o (Jr (tf q)) q)) e i⟩
end
end L2.Rv
namespace L2
open PySem PySem.Spec PyProof.Rows List Option
section
variable{X:Cx}
def t6 (hc:X.calm=true) (hg:Gl X "list") (hm:X.mg "list"=none) (hv:bootBuiltins "list"=some (.type "list")) (a1:Gl X "reversed") (a2:X.mg "reversed"=none) (hl:PE X l tl) (hs:starEach [l] X.env=[(false,eval l X.env)]:=by rfl) :
  PE X (.Call (.Name "list" p) [.Call (.Name "reversed" p2) [l] [] pos2] [] pos) (λσ H Q=>tl σ H λx H1=>∃a xs,x=.ref a/\SqL X.K H1 a xs/\∀q,H1 q=none->Q (.ref q) (upd H1 q (.lst xs.reverse))):=by
 intro pins s σ H Q I h;refine Ky (iA I hg hm hv ?_);refine J7 (Lu ?_) rfl rfl;refine Ky (iA I a1 a2 PyProof.Rows.boot_reversed ?_);refine J7 (thn (aP hl bF hs pos2 pins s σ H (λvs H1=>match vs with|[x]=>∃a xs,x=.ref a/\SqL X.K H1 a xs/\∀q,H1 q=none->Q (.ref q) (upd H1 q (.lst xs.reverse))|_=>False) I h) λus J ⟨vs,H1,I1,r1,q1⟩=>?_) hs rfl;cases r1 with
 |nil=>exact q1.elim
 |cons r rr =>
  cases rr with
  |cons _ _=>exact q1.elim
  |nil =>
   refine az λZq kq=>?_
   obtain⟨a,xs,e,hq,q⟩:=q1;subst e;cases r;obtain⟨its,rv,pl,hz⟩:=I1.list hq;have la:a<J.heap.objs.size:=by obtain⟨o,ho,_⟩:=pl.isList;exact tf ho
   have a0:its.toArray.size=xs.length:=by rw[r4];exact rv.length.symm
   refine kq ?_;refine call_reversed_list pl.isList (Md ?_);generalize Z:revObj a ((its.toArray.size:Int)-1)=U;have a5:(J.heap.push U).get? J.heap.objs.size=some U:=uw _ (by rw[<- Z];rfl);have I2:Inv X pins σ H1 { J with heap:=J.heap.push U }:=I1.kept (t':=J.toks) λb o e=>g4 _ e
   have hn:=I1.hok.fresh (pd _);obtain⟨_,f1,_,f3,f4,f5⟩:=I1.fpOk (pd _) hn;refine Rv.list_rev (s:={ J with heap:=J.heap.push U }) (it:=J.heap.objs.size) (l:=a) (items:=its.toArray) (I1.ok.hd hc) (Jr la) ⟨_,a5,by rw[<- Z];rfl,by rw[<- Z];rfl⟩ (pl.isList.at λo e=>g4 _ e) (by rw[a0];exact hz) λh' tk Y c k e it=>?_
   have z:(J.heap.push U).objs.size=J.heap.objs.size+1:=JH ..;have ne:(J.heap.push U).objs.size≠J.heap.objs.size:=by omega
   have g2:((J.heap.push U).push { cls:=.type "list",data:=.seq Y c }).get? (J.heap.push U).objs.size=some { cls:=.type "list",data:=.seq Y c }:=uw _ rfl;have I3:Inv X pins σ (upd H1 (J.heap.push U).objs.size (.lst xs.reverse)) { J with heap:=(J.heap.push U).push { cls:=.type "list",data:=.seq Y c },toks:=J.toks }:=I2.laid (λb o e=>g4 _ e) (pd _) ⟨by rw[length_reverse];exact hz,Y.toList,c,by rw[t5 it];exact rv.reverse,by rw[Array.toArray_toList];exact g2⟩;have a6:H1 (J.heap.push U).objs.size=none:=I1.hok.fresh (by omega);have I4:=I3.turned (t':=tk) (it:=J.heap.objs.size) (h':=h') (λb o hb e1=>by
    by_cases eb:b=(J.heap.push U).objs.size
    .subst eb;have e1:=e1;rw[g2]at e1;cases e1;exact e
    .refine k b o hb ?_;have e1:=e1;show(J.heap.push U).get? b=some o;rw[<- Heap.get?_push_ne _ _ _ eb];exact e1) (by rw[aZ ne.symm];exact hn) f1 f3 f4 f5
   exact⟨.ref (J.heap.push U).objs.size,_,I4,rfl,q _ a6⟩
end
end L2
namespace MM
open PySem List Option
inductive Sc where
 | non|bl (b:Bool)|int (i:Int)|str (x:Str)
 deriving Inhabited,DecidableEq
inductive DD where
 | k (kvs:List (Int×Sc))|t (kvs:List (List Int×Sc))
 | p (ns:List Int)
 deriving Inhabited
inductive PV where
 | non|bl (b:Bool)|int (i:Int)|str (x:Str)|tup (xs:List PV)|lst (xs:List PV)|dI (d:DD)
 deriving Inhabited
noncomputable def Sc.pv:Sc->PV
 | .non=>.non
 | .bl b=>.bl b
 | .int i=>.int i
 | .str x=>.str x
noncomputable def sc?:PV->Option Sc
 | .non=>some .non
 | .bl b=>some (.bl b)
 | .int i=>some (.int i)
 | .str x=>some (.str x)
 | _=>none
noncomputable def bI{α:Type} [DecidableEq α] (kvs:List (α×Sc)) (k:α):Option Sc:=(kvs.find? λp=>decide (p.1=k)).map (·.2)
noncomputable def cG{α:Type} [DecidableEq α] (kvs:List (α×Sc)) (k:α) (v:Sc):List (α×Sc):=
 if (kvs.any λp=>decide (p.1=k))=true then kvs.map (λp=>if p.1=k then(p.1,v)else p)else kvs++[(k,v)]
noncomputable def eqL(f:PV->PV->Option Bool):List PV->List PV->Option Bool
 | [],[]=>some true
 |x::xs,y::ys=>(f x y).bind λp=>(eqL f xs ys).map λq=>p&&q
 | _,_=>some false
noncomputable def eqF:Nat->PV->PV->Option Bool
 | _,.non,.non=>some true
 | _,.bl a,.bl b=>some (a==b)
 | _,.bl a,.int b=>some ((if a then 1 else 0)==b)
 | _,.int a,.bl b=>some (a==(if b then 1 else 0))
 | _,.int a,.int b=>some (a==b)
 | _,.str a,.str b=>some (a==b)
 |0,.tup _,.tup _=>none
 |0,.lst _,.lst _=>none
 | _,.dI _,_=>none
 | _,_,.dI _=>none
 |n+1,.tup a,.tup b=>eqL (eqF n) a b
 |n+1,.lst a,.lst b=>if a.length=b.length then eqL (eqF n) a b else some false
 | _,_,_=>some false
noncomputable def rH:PV->PV->Bool
 | .tup _,.tup _=>true
 | .lst _,.lst _=>true
 | .tup _,_=>false
 | _,.tup _=>false
 | .lst _,_=>false
 | _,.lst _=>false
 | .bl _,.int _=>false
 | .int _,.bl _=>false
 | .dI _,_=>false
 | _,.dI _=>false
 | _,_=>true
noncomputable def inL(f:PV->Option Bool):List PV->Option Bool
 | []=>some false
 |y::ys=>(f y).bind λp=>(inL f ys).map λq=>p||q
inductive MV where
 | val (v:PV)|own (xs:List PV)|brw (xs:List PV)|ownD (d:DD)|brwD (d:DD)
 | mutD (d:DD)
 deriving Inhabited
noncomputable abbrev Rho:=List (Option MV)
inductive Op2 where
 | add|sub|mul|fdiv|mod|pow|shr
 deriving DecidableEq
inductive Cp where
 | eq|ne|lt|le|gt|ge|isN|notN|isIn|notIn
 deriving DecidableEq
inductive Blt where
 | len|tupleOf|listOf|sorted|any|all|sum|max1|min1|max2|min2|intOf|boolOf|isInt|isBool|isStr|isList|isTuple
 | sortedSet|lenSet|lenSetSub|sortedKeys|valuesOf|tupleRev
 deriving DecidableEq
inductive Sk where
 | seq|rng|enm|rev
 deriving DecidableEq
set_option genInjectivity false in
inductive ME where
 | var (i:Nat)
 | bor (i:Nat)
 | cst (v:PV)
 | glob (x:Str) (v:PV)
 | bin (op:Op2) (a b:ME)
 | neg (a:ME)
 | not (a:ME)
 | and (a b:ME)
 | or (a b:ME)
 | ite (c a b:ME)
 | cmp (op:Cp) (a b:ME)
 | chain (op op':Cp) (a b c:ME)
 | tup (es:List ME)
 | lst (es:List ME)
 | idx (a i:ME)
 | slice (a lo hi:ME)
 | blt (b:Blt) (es:List ME)
 | call (f:Nat) (es:List ME)
 | callD (f:Nat) (es:List ME) (d:List Sc)
 | comp (k:Sk) (src:List ME) (js:List Nat) (cond elt:ME)
 | dget (a k d:ME)
 | dat (a k:ME)
 | dIn (neg:Bool) (k a:ME)
 | lenP (i:Nat)
 | disp (kvs:List (Str×Str)) (e:ME)
 deriving Inhabited
noncomputable def bg:List PV->Option (List Int)
 | []=>some []
 | .int i::r=>(bg r).map (i::·)
 | _=>none
noncomputable def gi:List PV->Option (List (List Int))
 | []=>some []
 | .tup xs::r=>(bg xs).bind λx=>(gi r).map (x::·)
 | _=>none
noncomputable def cE:List PV->Option (List Bool)
 | []=>some []
 | .bl i::r=>(cE r).map (i::·)
 | _=>none
noncomputable def o8(kvs:List (Str×Str)):List (L2.Key×L2.V):=kvs.map λp=>(Sum.inr p.1,L2.V.str p.2)
noncomputable def By(kvs:List (Str×Str)):PV->Option PV
 | .str x=>(L2.ja (L2.iD [] (o8 kvs)) (Sum.inr x)).bind λv=>match v with|.str y=>some (.str y)|_=>none
 | _=>none
noncomputable def wL:PV->PV->Option (Option Sc)
 | .dI (.k kvs),.int i=>some (bI kvs i)
 | .dI (.t kvs),.tup xs=>(bg xs).map (bI kvs)
 | _,_=>none
noncomputable def qb:DD->PV->Sc->Option DD
 | .k kvs,.int i,s=>if kvs.length<10000 then some (.k (cG kvs i s))else none
 | .t kvs,.tup xs,s=>(bg xs).bind λk=>if kvs.length<10000 then some (.t (cG kvs k s))else none
 | _,_,_=>none
noncomputable def dSc:DD->List Sc
 | .k kvs=>kvs.map (·.2)
 | .t kvs=>kvs.map (·.2)
 | .p _=>[]
noncomputable def jY(d:DD):List PV:=(dSc d).map Sc.pv
noncomputable def lexLt:List Int->List Int->Bool
 | [],[]=>false
 | [],_::_=>true
 | _::_,[]=>false
 |x::xs,y::ys=>if x=y then lexLt xs ys else decide (x<y)
noncomputable def yL(x:Int):List Int->List Int
 | []=>[x]
 |y::r=>if y<x then y::yL x r else x::y::r
noncomputable def sortI:List Int->List Int
 | []=>[]
 |x::r=>yL x (sortI r)
noncomputable def yM(x:List Int):List (List Int)->List (List Int)
 | []=>[x]
 |y::r=>if lexLt y x=true then y::yM x r else x::y::r
noncomputable def sortT:List (List Int)->List (List Int)
 | []=>[]
 |x::r=>yM x (sortT r)
noncomputable def dd:List Int->List Int
 | []=>[]
 |x::r=>if x∈dd r then dd r else x::dd r
noncomputable def jZ{α:Type}(f:Int->Int->Option α):PV->PV->Option α
 | .int i,.int j=>f i j
 | _,_=>none
noncomputable def CP:PV->PV->Option PV
 | .int i,.int j=>some (.int (i+j))
 | .lst a,.lst b=>if a.length+b.length<=10000 then some (.lst (a++b))else none
 | .tup a,.tup b=>if a.length+b.length<=10000 then some (.tup (a++b))else none
 | .str a,.str b=>if a.length+b.length<=1000000 then some (.str (a++b))else none
 | _,_=>none
noncomputable def eX(op:Op2):PV->PV->Option PV:=match op with
 | .add=>CP
 | .sub=>jZ λi j=>some (.int (i-j))
 | .mul=>jZ λi j=>if (-(2 ^ 64)<i/\i<2 ^ 64)\/(-(2 ^ 64)<j/\j<2 ^ 64)then some (.int (i*j))else none
 | .fdiv=>jZ λi j=>if 0<j/\j<1073741824 then some (.int (i / j))else none
 | .mod=>jZ λi j=>if 0<j then some (.int (i % j))else none
 | .pow=>jZ λi j=>if 0<=j/\j<=1000000/\i.natAbs<2 ^ 64 then some (.int (i ^ j.toNat))else none
 | .shr=>jZ λi j=>if 0<=j then some (.int (i / 2 ^ j.toNat))else none
noncomputable def jl:PV->Bool
 | .non=>true
 | _=>false
noncomputable def isIn(x:PV)(xs:List PV):Option Bool:=inL (λy=>eqF 100 y x) xs
noncomputable def GN(a b:PV):Option Bool:=match b with
 | .non=>some (jl a)
 | .bl q=>(match a with|.bl p=>some (p==q)|_=>none)
 | _=>none
noncomputable def a_:PV->Option (List PV)
 | .tup xs=>some xs
 | .lst xs=>some xs
 | _=>none
noncomputable def iw:PV->Option (List PV)
 | .lst xs=>some xs
 | _=>none
noncomputable def cj(op:Cp):PV->PV->Option Bool:=match op with
 | .eq=>eqF 100
 | .ne=>λa b=>if rH a b=true then(eqF 100 a b).map λp=>!p else none
 | .lt=>jZ λi j=>some (decide (i<j))
 | .le=>jZ λi j=>some (decide (i<=j))
 | .gt=>jZ λi j=>some (decide (j<i))
 | .ge=>jZ λi j=>some (decide (j<=i))
 | .isN=>GN
 | .notN=>λa b=>(GN a b).map λp=>!p
 | .isIn=>λa b=>(a_ b).bind (isIn a)
 | .notIn=>λa b=>((a_ b).bind (isIn a)).map λp=>!p
noncomputable def place(n:Nat)(i:Int):Option Nat:=
 if 0<=i then(if i<n then some i.toNat else none)else if -(n:Int)<=i then some (i+n).toNat else none
noncomputable def fC:PV->PV->Option PV
 | .tup xs,.int i=>(place xs.length i).bind λj=>xs[j]?
 | .lst xs,.int i=>(place xs.length i).bind λj=>xs[j]?
 | _,_=>none
noncomputable def gj(n d:Nat):Option Int->Nat
 |none=>d
 |some i=>if i<0 then(i+n).toNat else min i.toNat n
noncomputable def cut(xs:List PV)(lo hi:Option Int):List PV:=(xs.drop (gj xs.length 0 lo)).take (gj xs.length xs.length hi-gj xs.length 0 lo)
noncomputable def j3:PV->Option Int->Option Int->Option PV
 | .lst xs,lo,hi=>some (.lst (cut xs lo hi))
 | .tup xs,lo,hi=>some (.tup (cut xs lo hi))
 | _,_,_=>none
noncomputable def bnd:ME->PV->Option (Option Int)
 | .cst .non,_=>some none
 | _,.int i=>some (some i)
 | _,_=>none
noncomputable def yN:List Int->Option Int
 | []=>none
 |x::r=>some (r.foldl (λa b=>if a<b then b else a) x)
noncomputable def iG(xs:List PV):Option PV:=
 if xs.length<64 then
  match bg xs with
  |some ns=>some (.lst ((sortI ns).map .int))
  |none=>(gi xs).map λz=>.lst ((sortT z).map λt=>.tup (t.map .int))
 else none
noncomputable def isT(b:Blt):PV->Bool
 | .int _=>b==.isInt
 | .bl _=>b==.isInt||b==.isBool
 | .str _=>b==.isStr
 | .lst _=>b==.isList
 | .tup _=>b==.isTuple
 | .non=>false
 | .dI _=>false
noncomputable def isD:PV->Bool
 | .dI _=>true
 | _=>false
noncomputable def b_(vs:List PV)(f:PV->Option PV):Option PV:=match vs with
 | [a]=>f a
 | _=>none
noncomputable def mZ(vs:List PV)(f:PV->PV->Option PV):Option PV:=match vs with
 | [a,b]=>f a b
 | _=>none
noncomputable def jb(b:Blt)(vs:List PV):Option PV:=b_ vs λa=>if isD a=true then none else some (.bl (isT b a))
noncomputable def GO:PV->Option PV
 | .tup xs=>some (.int xs.length)
 | .lst xs=>some (.int xs.length)
 | .dI (.k kvs)=>some (.int kvs.length)
 | _=>none
noncomputable def aA(b:Blt)(vs:List PV):Option PV:=match b with
 | .len=>b_ vs GO
 | .tupleOf=>b_ vs λa=>(a_ a).map .tup
 | .listOf=>b_ vs λa=>(a_ a).map .lst
 | .sorted=>b_ vs λa=>(a_ a).bind iG
 | .any=>b_ vs λa=>(iw a).bind λxs=>(cE xs).map λbs=>.bl (bs.any id)
 | .all=>b_ vs λa=>(iw a).bind λxs=>(cE xs).map λbs=>.bl (bs.all id)
 | .sum=>b_ vs λa=>(iw a).bind λxs=>(bg xs).map λns=>.int ns.sum
 | .max1=>b_ vs λa=>(iw a).bind λxs=>(bg xs).bind λns=>(yN ns).map .int
 | .min1=>none
 | .max2=>mZ vs (jZ λi j=>some (.int (if j > i then j else i)))
 | .min2=>mZ vs (jZ λi j=>some (.int (if j<i then j else i)))
 | .intOf=>b_ vs λa=>match a with|.int i=>some (.int i)|.bl b=>some (.int (if b then 1 else 0))|_=>none
 | .boolOf=>b_ vs λa=>match a with|.bl b=>some (.bl b)|_=>none
 | .isInt=>jb .isInt vs
 | .isBool=>jb .isBool vs
 | .isStr=>jb .isStr vs
 | .isList=>jb .isList vs
 | .isTuple=>jb .isTuple vs
 | .sortedSet=>b_ vs λa=>(a_ a).bind λxs=>(bg xs).bind λns=>if ns.length<=1000/\(dd ns).length<64 then some (.lst ((sortI (dd ns)).map .int))else none
 | .lenSet=>b_ vs λa=>(a_ a).bind λxs=>(bg xs).bind λns=>if ns.length<=1000 then some (.int (dd ns).length)else none
 | .lenSetSub=>mZ vs λa b=>(a_ a).bind λxs=>(bg xs).bind λns=>(a_ b).bind λys=>(bg ys).bind λms =>
   if ns.length<=1000/\ms.length<=1000/\(dd ns).length<=60 then some (.int ((dd ns).filter λn=>!decide (n∈ms)).length)else none
 | .sortedKeys=>b_ vs λa=>match a with|.dI (.k kvs)=>if kvs.length<64 then some (.lst ((sortI (kvs.map (·.1))).map .int))else none|_=>none
 | .tupleRev=>b_ vs λa=>(iw a).map λxs=>.tup xs.reverse
 | .valuesOf=>b_ vs λa=>match a with|.dI d=>if (jY d).length<=10000 then some (.lst (jY d))else none|_=>none
noncomputable def bu(n:Nat):List PV->List PV
 | []=>[]
 |x::r=>.tup [.int (n:Nat),x]::bu (n+1) r
noncomputable def bf:Sk->List PV->Option (List PV)
 | .seq,[a]=>a_ a
 | .rng,[.int j]=>if -(2 ^ 62)<=j/\j<2 ^ 62 then some ((range j.toNat).map λ(k:Nat)=>.int ((0:Int)+k))else none
 | .rng,[.int i,.int j]=>if -(2 ^ 62)<=i/\i<2 ^ 62/\-(2 ^ 62)<=j/\j<2 ^ 62 then some ((range (j-i).toNat).map λ(k:Nat)=>.int (i+k))else none
 | .enm,[a]=>(a_ a).map (bu 0)
 | .rev,[.lst xs]=>some xs.reverse
 | _,_=>none
noncomputable def fQ(c:PV->Option Bool)(f:PV->Option PV):List PV->Option (List PV)
 | []=>some []
 |x::r=>(c x).bind λb=>if b=true then(f x).bind λy=>(fQ c f r).map (y::·)else fQ c f r
noncomputable def bb:PV->Option Bool
 | .bl b=>some b
 | _=>none
noncomputable abbrev Cal:=Nat->List MV->Option PV
noncomputable def yO:Option MV->Option PV
 |some (.val v)=>some v
 | _=>none
noncomputable def rJ:DD->Bool
 | .p _=>false
 | _=>true
noncomputable def bv:Option MV->Option PV
 |some (.val v)=>some v
 |some (.own xs)=>some (.lst xs)
 |some (.brw xs)=>some (.lst xs)
 |some (.ownD kvs)=>if rJ kvs=true then some (.dI kvs)else none
 |some (.brwD kvs)=>if rJ kvs=true then some (.dI kvs)else none
 |some (.mutD kvs)=>if rJ kvs=true then some (.dI kvs)else none
 |none=>none
noncomputable def gm:Option MV->Option MV
 |some (.val v)=>some (.val v)
 |some (.own xs)=>some (.brw xs)
 |some (.brw xs)=>some (.brw xs)
 |some (.ownD xs)=>some (.brwD xs)
 |some (.brwD xs)=>some (.brwD xs)
 |some (.mutD xs)=>some (.brwD xs)
 |none=>none
noncomputable def fD:Option MV->Option MV
 |some (.own xs)=>some (.brw xs)
 |some (.ownD xs)=>some (.brwD xs)
 |some (.mutD xs)=>some (.brwD xs)
 |o=>o
noncomputable def b7(js:List Nat)(W:Rho)(x:PV):Rho:=some (.val x)::js.map λj=>fD (W[j]?).join
noncomputable def t7:Option MV->Option PV
 |some (.ownD (.p ns))=>some (.int ns.length)
 |some (.mutD (.p ns))=>some (.int ns.length)
 | _=>none
mutual
noncomputable def ev(cal:Cal):ME->Rho->Option PV
 | .var i,W=>yO (W[i]?).join
 | .bor i,W=>bv (W[i]?).join
 | .cst v,_=>some v
 | .glob _ v,_=>some v
 | .bin op a b,W=>(ev cal a W).bind λx=>(ev cal b W).bind λy=>eX op x y
 | .neg a,W=>(ev cal a W).bind λx=>match x with|.int i=>some (.int (-i))|_=>none
 | .not a,W=>((ev cal a W).bind bb).map λb=>.bl (!b)
 | .and a b,W=>((ev cal a W).bind bb).bind λc=>if c=true then(ev cal b W).bind λy=>(bb y).map .bl else some (.bl false)
 | .or a b,W=>((ev cal a W).bind bb).bind λc=>if c=true then some (.bl true)else(ev cal b W).bind λy=>(bb y).map .bl
 | .ite c a b,W=>((ev cal c W).bind bb).bind λk=>if k=true then ev cal a W else ev cal b W
 | .cmp op a b,W=>(ev cal a W).bind λx=>(ev cal b W).bind λy=>(cj op x y).map .bl
 | .chain op J a b c,W=>(ev cal a W).bind λx=>(ev cal b W).bind λy=>(cj op x y).bind λk=>if k=true then(ev cal c W).bind λz=>(cj J y z).map .bl else some (.bl false)
 | .tup es,W=>(evs cal es W).bind λvs=>if vs.length<=10000 then some (.tup vs)else none
 | .lst es,W=>(evs cal es W).bind λvs=>if vs.length<=10000 then some (.lst vs)else none
 | .idx a i,W=>(ev cal a W).bind λx=>(ev cal i W).bind λy=>fC x y
 | .slice a lo hi,W=>(ev cal a W).bind λx=>((ev cal lo W).bind λl=>bnd lo l).bind λl=>((ev cal hi W).bind λh=>bnd hi h).bind λh=>j3 x l h
 | .blt b es,W=>(evs cal es W).bind λvs=>aA b vs
 | .call f es,W=>(evA cal es W).bind λvs=>cal f vs
 | .callD f es d,W=>(evA cal es W).bind λvs=>cal f (vs++d.map λx=>.val x.pv)
 | .comp k src js cond elt,W=>(evs cal src W).bind λvs=>(bf k vs).bind λxs =>
   if xs.length<=10000 then(fQ (λx=>(ev cal cond (b7 js W x)).bind bb) (λx=>ev cal elt (b7 js W x)) xs).map .lst else none
 | .dget a k d,W=>(ev cal a W).bind λx=>(ev cal k W).bind λy=>(ev cal d W).bind λz=>(wL x y).bind λo=>(sc? z).map λs=>(o.getD s).pv
 | .dat a k,W=>(ev cal a W).bind λx=>(ev cal k W).bind λy=>(wL x y).bind λo=>o.map Sc.pv
 | .dIn neg k a,W=>(ev cal k W).bind λy=>(ev cal a W).bind λx=>(wL x y).map λo=>.bl (if neg=true then !o.isSome else o.isSome)
 | .lenP i,W=>t7 (W[i]?).join
 | .disp kvs e,W=>(ev cal e W).bind (By kvs)
noncomputable def evs(cal:Cal):List ME->Rho->Option (List PV)
 | [],_=>some []
 |e::es,W=>(ev cal e W).bind λv=>(evs cal es W).map (v::·)
noncomputable def evA(cal:Cal):List ME->Rho->Option (List MV)
 | [],_=>some []
 | .bor i::es,W=>(gm (W[i]?).join).bind λv=>(evA cal es W).map (v::·)
 |e::es,W=>(ev cal e W).bind λv=>(evA cal es W).map (MV.val v::·)
end
noncomputable def evB(cal:Cal)(e:ME)(W:Rho):Option Bool:=(ev cal e W).bind bb
noncomputable def gp:Option MV->Option DD
 |some (.ownD d)=>some d
 |some (.mutD d)=>some d
 | _=>none
noncomputable def evM(cal:Cal):List Bool->List ME->Rho->Option (List MV)
 | [],[],_=>some []
 |true::bs,.bor i::es,W=>(gp (W[i]?).join).bind λd=>(evM cal bs es W).map (MV.mutD d::·)
 |false::bs,e::es,W=>(evA cal [e] W).bind λa=>match a with|[.val v]=>(evM cal bs es W).map (MV.val v::·)|_=>none
 | _,_,_=>none
noncomputable def fq(W:Rho)(i:Nat)(d:DD):Rho:=match (W[i]?).join with
 |some (.ownD _)=>W.set i (some (.ownD d))
 | _=>W.set i (some (.mutD d))
noncomputable def j4:List Bool->List ME->List PV->Rho->Option Rho
 | [],[],[],W=>some W
 |true::bs,.bor i::es,.dI d::ds,W=>j4 bs es ds (fq W i d)
 |false::bs,_::es,ds,W=>j4 bs es ds W
 | _,_,_,_=>none
noncomputable def rK(cal:Cal)(f:Nat)(mask:List Bool)(es:List ME)(W:Rho):Option (PV×Rho):=
 match (evM cal mask es W).bind λvs=>cal (f+2000) vs with
 |some (.tup (v::ds))=>(j4 mask es ds W).map λl=>(v,l)
 | _=>none
inductive SK where
 | one|cat|pair
 deriving DecidableEq
noncomputable def CQ:SK->PV->PV->Option PV
 | .one,_,v=>some v
 | .cat,w,v=>eX .add w v
 | .pair,w,v=>some (.tup [w,v])
noncomputable def Bz:Option MV->Option MV
 |some (.val v)=>some (.val v)
 |some (.brw xs)=>some (.brw xs)
 |some (.ownD d)=>some (.mutD d)
 |some (.mutD d)=>some (.mutD d)
 |some (.brwD d)=>some (.brwD d)
 | _=>none
noncomputable def kS(js:List Nat)(W:Rho)(x:PV):Rho:=some (.val x)::js.map λj=>Bz (W[j]?).join
noncomputable def D7(js:List Nat):ME->ME
 | .bor i=>.bor (if i=0 then 0 else js.getD (i-1) 0)
 |e=>e
noncomputable def dg(cal:Cal)(js:List Nat)(k:SK)(e:ME)(f:Nat)(mask:List Bool)(es:List ME):List PV->Rho->Option (List PV×Rho)
 | [],W=>some ([],W)
 |x::xs,W=>(ev cal e (kS js W x)).bind λw=>match (evM cal mask es (kS js W x)).bind λvs=>cal (f+2000) vs with
  |some (.tup (v::ds))=>(CQ k w v).bind λr=>(j4 mask (es.map (D7 js)) ds W).bind λl=>(dg cal js k e f mask es xs l).map λp=>(r::p.1,p.2)
  | _=>none
inductive XE where
 | pure (e:ME)
 | call (f:Nat) (mask:List Bool) (es:List ME)
 | pop (i:Nat)
 | bin (op:Op2) (a:XE) (b:ME)
 | fn (g:Nat) (a:XE) (es:List ME)
 | tup (xs:List XE)
 | tupOf (a:XE)
 | lst (xs:List XE)
 | fn2 (g:Nat) (e:ME) (a:XE)
 | compS (src:ME) (js:List Nat) (k:SK) (e:ME) (f:Nat) (mask:List Bool) (es:List ME)
 deriving Inhabited
noncomputable def BA(i:Nat)(W:Rho):Option (PV×Rho):=match gp (W[i]?).join with
 |some (.p ns)=>(ns.getLast?).map λn=>(.int n,fq W i (.p ns.dropLast))
 | _=>none
mutual
noncomputable def evX(cal:Cal):XE->Rho->Option (PV×Rho)
 | .pure e,W=>(ev cal e W).map λv=>(v,W)
 | .call f mask es,W=>rK cal f mask es W
 | .pop i,W=>BA i W
 | .bin op a b,W=>(evX cal a W).bind λp=>(ev cal b p.2).bind λy=>(eX op p.1 y).map λr=>(r,p.2)
 | .fn g a es,W=>(evX cal a W).bind λp=>(evA cal es p.2).bind λvs=>(cal g (.val p.1::vs)).map λr=>(r,p.2)
 | .tup xs,W=>(evXs cal xs W).bind λp=>if p.1.length<=10000 then some (.tup p.1,p.2)else none
 | .lst xs,W=>(evXs cal xs W).bind λp=>if p.1.length<=10000 then some (.lst p.1,p.2)else none
 | .fn2 g e a,W=>(ev cal e W).bind λw=>(evX cal a W).bind λp=>(cal g [.val w,.val p.1]).map λr=>(r,p.2)
 | .tupOf a,W=>(evX cal a W).bind λp=>(aA .tupleOf [p.1]).map λr=>(r,p.2)
 | .compS src js k e f mask es,W=>(evs cal [src] W).bind λvs=>(bf .seq vs).bind λxs=>if xs.length<=10000 then(dg cal js k e f mask es xs W).map λp=>(.lst p.1,p.2)else none
noncomputable def evXs(cal:Cal):List XE->Rho->Option (List PV×Rho)
 | [],W=>some ([],W)
 |x::xs,W=>(evX cal x W).bind λp=>(evXs cal xs p.2).map λq=>(p.1::q.1,q.2)
end
set_option genInjectivity false in
inductive MS where
 | set (i:Nat) (e:ME)
 | setOwn (i:Nat) (e:ME)
 | freeze (i:Nat)
 | append (i:Nat) (e:ME)
 | extend (i:Nat) (e:ME)
 | setIdx (i:Nat) (k v:ME)
 | unpack (is:List Nat) (e:ME)
 | expr (e:ME)
 | ite (c:ME) (a b:List MS)
 | for1 (i:Nat) (k:Sk) (src:List ME) (body:List MS)
 | forT (is:List Nat) (k:Sk) (src:List ME) (body:List MS)
 | while (n:Nat) (c:ME) (body:List MS)
 | ret (e:ME)
 | retOwn (i:Nat)
 | retN
 | brk
 | cont
 | pass
 | never
 | newD (m:Bool) (i:Nat)
 | retM (e:ME)
 | retF (e:ME)
 | setCall (i f:Nat) (es:List ME)
 | clear (i:Nat)
 | setP (i:Nat) (e:ME)
 | setX (i:Nat) (x:XE)
 | appX (i:Nat) (x:XE)
 | ownX (i:Nat) (xs:List XE)
 | retXE (x:XE)
 | forX (i:Nat) (x:XE) (body:List MS)
 | dput (i:Nat) (k v:ME)
 deriving Inhabited
inductive R where
 | next (W:Rho)|brk (W:Rho)|cont (W:Rho)|ret (v:PV)|bad
 | retF (xs:List PV)
 | retM (v:PV) (W:Rho)
 deriving Inhabited
noncomputable def R.andThen:R->(Rho->R)->R
 | .next W,k=>k W
 |r,_=>r
noncomputable def put(W:Rho)(i:Nat)(v:MV):Rho:=W.set i (some v)
noncomputable def eE(o:Option PV)(k:PV->R):R:=match o with
 |some v=>k v
 |none=>.bad
noncomputable def yP(o:Option Bool)(k:Bool->R):R:=match o with
 |some v=>k v
 |none=>.bad
noncomputable def m3:List Nat->List PV->Rho->Option Rho
 | [],[],W=>some W
 |i::is,v::vs,W=>m3 is vs (put W i (.val v))
 | _,_,_=>none
noncomputable def cH(is:List Nat):PV->Rho->Option Rho
 | .tup vs,W=>m3 is vs W
 | _,_=>none
noncomputable def cf(o:Option Rho)(f:Rho->R):R:=match o with
 |some W=>f W
 |none=>.bad
noncomputable def aw(body:PV->Rho->R):List PV->Rho->R
 | [],W=>.next W
 |x::r,W=>match body x W with
  | .next l=>aw body r l
  | .cont l=>aw body r l
  | .brk l=>.next l
  | .ret v=>.ret v
  | .bad=>.bad
  | .retF xs=>.retF xs
  | .retM v l=>.retM v l
noncomputable def qc(c:Rho->Option Bool)(body:Rho->R):Nat->Rho->R
 |0,_=>.bad
 |n+1,W=>match c W with
  |none=>.bad
  |some false=>.next W
  |some true=>match body W with
   | .next l=>qc c body n l
   | .cont l=>qc c body n l
   | .brk l=>.next l
   | .ret v=>.ret v
   | .bad=>.bad
   | .retF xs=>.retF xs
   | .retM v l=>.retM v l
noncomputable def bo(src:List ME)(W:Rho):Rho:=match src with
 | [.bor i]=>(match (W[i]?).join with|some (.own xs)=>put W i (.brw xs)|_=>W)
 | _=>W
noncomputable def aJ(src:List ME)(z W:Rho):Rho:=match src with
 | [.bor i]=>(match (z[i]?).join,(W[i]?).join with|some (.own _),some (.brw xs)=>put W i (.own xs)|_,_=>W)
 | _=>W
noncomputable def R.back(src:List ME)(z:Rho):R->R
 | .next W=>.next (aJ src z W)
 | .brk W=>.brk (aJ src z W)
 | .cont W=>.cont (aJ src z W)
 | .retM v W=>.retM v (aJ src z W)
 |r=>r
mutual
noncomputable def ex(cal:Cal):MS->Rho->R
 | .set i e,W=>eE (ev cal e W) λv=>.next (put W i (.val v))
 | .setOwn i e,W=>eE (ev cal e W) λv=>match v with|.lst xs=>.next (put W i (.own xs))|_=>.bad
 | .freeze i,W=>match (W[i]?).join with|some (.own xs)=>.next (put W i (.val (.lst xs)))|some _=>.next W|none=>.bad
 | .append i e,W=>eE (ev cal e W) λv=>match (W[i]?).join with
  |some (.own xs)=>if xs.length<10000 then .next (put W i (.own (xs++[v])))else .bad
  | _=>.bad
 | .extend i e,W=>eE (ev cal e W) λv=>match (W[i]?).join,a_ v with
  |some (.own xs),some ys=>if xs.length+ys.length<=10000 then .next (put W i (.own (xs++ys)))else .bad
  | _,_=>.bad
 | .setIdx i k v,W=>eE (ev cal v W) λv=>eE (ev cal k W) λk=>match (W[i]?).join,k with
  |some (.own xs),.int k=>(match place xs.length k with|some j=>.next (put W i (.own (xs.set j v)))|none=>.bad)
  | _,_=>.bad
 | .unpack is e,W=>eE (ev cal e W) λv=>cf (cH is v W) .next
 | .expr e,W=>eE (ev cal e W) λ_=>.next W
 | .ite c a b,W=>yP (evB cal c W) λk=>if k=true then exs cal a W else exs cal b W
 | .for1 i k src body,W=>match (evs cal src W).bind (bf k)with
  |some xs=>(aw (λx l=>exs cal body (put l i (.val x))) xs (bo src W)).back src W
  |none=>.bad
 | .forT is k src body,W=>match (evs cal src W).bind (bf k)with
  |some xs=>(aw (λx l=>cf (cH is x l) λz=>exs cal body z) xs (bo src W)).back src W
  |none=>.bad
 | .while n c body,W=>qc (evB cal c) (λl=>exs cal body l) n W
 | .ret e,W=>eE (ev cal e W) .ret
 | .retOwn i,W=>match (W[i]?).join with|some (.own xs)=>.ret (.lst xs)|some (.ownD kvs)=>if rJ kvs=true then .ret (.dI kvs)else .bad|some (.val v)=>.ret v|_=>.bad
 | .newD m i,W=>.next (put W i (.ownD (if m=true then .t []else .k [])))
 | .dput i k v,W=>eE (ev cal v W) λv=>eE (ev cal k W) λk=>match (W[i]?).join,sc? v with
  |some (.ownD d),some s=>match qb d k s with|some d'=>.next (put W i (.ownD d'))|none=>.bad
  |some (.mutD d),some s=>match qb d k s with|some d'=>.next (put W i (.mutD d'))|none=>.bad
  | _,_=>.bad
 | .retM e,W=>eE (ev cal e W) λv=>.retM v W
 | .retF e,W=>eE (ev cal e W) λv=>match v with|.lst xs=>.retF xs|_=>.bad
 | .setCall i f es,W=>eE ((evA cal es W).bind λvs=>cal (f+1000) vs) λv=>match v with|.lst xs=>.next (put W i (.own xs))|_=>.bad
 | .clear i,W=>match (W[i]?).join with|some (.own _)=>.next (put W i (.own []))|_=>.bad
 | .setP i e,W=>match ev cal e W with
  |some (.lst xs)=>(match bg xs with
   |some ns=>.next (put W i (.ownD (.p ns.reverse)))
   |none=>.bad)
  | _=>.bad
 | .setX i x,W=>match evX cal x W with
  |some (v,l)=>.next (put l i (.val v))
  |none=>.bad
 | .ownX i xs,W=>match evXs cal xs W with
  |some (vs,l)=>if vs.length<=10000 then .next (put l i (.own vs))else .bad
  |none=>.bad
 | .appX i x,W=>match (W[i]?).join with
  |some (.own _)=>(match evX cal x W with
   |some (v,l)=>(match (l[i]?).join with
    |some (.own xs)=>if xs.length<10000 then .next (put l i (.own (xs++[v])))else .bad
    | _=>.bad)
   |none=>.bad)
  | _=>.bad
 | .retXE x,W=>match evX cal x W with
  |some (v,l)=>.retM v l
  |none=>.bad
 | .forX i x body,W=>match evX cal x W with
  |some (v,l)=>(match bf .rng [v]with
   |some xs=>aw (λy z=>exs cal body (put z i (.val y))) xs l
   |none=>.bad)
  |none=>.bad
 | .retN,_=>.ret .non
 | .brk,W=>.brk W
 | .cont,W=>.cont W
 | .pass,W=>.next W
 | .never,_=>.bad
noncomputable def exs(cal:Cal):List MS->Rho->R
 | [],W=>.next W
 |s::ss,W=>(ex cal s W).andThen λl=>exs cal ss l
end
structure MD where
 name:Str
 params:List Str
 names:List Str
 body:List MS
 deriving Inhabited
noncomputable def d6:List MV->Rho->Option (List PV)
 | [],_=>some []
 | .mutD _::as,some (.mutD d)::W=>(d6 as W).map (.dI d::·)
 | .val _::as,_::W=>d6 as W
 | _,_=>none
noncomputable def aa(ds:List MD):Nat->Cal
 |0,_,_=>none
 |n+1,f,args=>match ds[f]? with
  |none=>if 2000<=f then(
   match ds[f-2000]? with
   |none=>none
   |some d=>if args.length=d.params.length then
     (match exs (aa ds n) d.body (args.map some++replicate (d.names.length-args.length) none)with
     | .retM v W=>(d6 args W).map λds=>.tup (v::ds)
     | _=>none)else none)else
   (match ds[f-1000]? with
   |none=>none
   |some d=>if args.length=d.params.length then
     (match exs (aa ds n) d.body (args.map some++replicate (d.names.length-args.length) none)with
     | .retF xs=>some (.lst xs)
     | _=>none)else none)
  |some d=>if args.length=d.params.length then
    (match exs (aa ds n) d.body (args.map some++replicate (d.names.length-args.length) none)with
    | .next _=>some .non
    | .ret v=>some v
    | .retF xs=>some (.lst xs)
    | _=>none)else none
end MM
namespace MM
open PySem PySem.Spec PyProof.Rows L2 List Option
noncomputable abbrev St:=L2.St
noncomputable def av(H:Hp)(O:List Addr):Hp:=λb=>if b∈O then none else H b
def eI(h:b∈O):av H O b=none:=if_pos h
def ba(h:b∉O):av H O b=H b:=if_neg h
theorem ai.rd(s:ai H H')(h:Rd H a u):Rd H' a u:=h.elim (λe=>.inl (s a _ e)) λ⟨o,e⟩=>.inr ⟨o,s a _ e⟩
def bP(H)(O):ai (av H O) H:=λb u e=>by
 unfold av at e
 simp_all
def bK(s:ai H H')(h:∀b∈U,b∈O\/H b=none):ai (av H O) (av H' U):=λb u e=>by
 have J:b∉O:=λz=>by rw[eI z]at e;cases e
 rw[ba J]at e;rw[ba]
 .exact s b u e
 .intro z;rcases h b z with q|q
  .exact J q
  .rw[q]at e;cases e
def am(s:ai H H'):ai (av H O) (av H' O):=bK s λ_ h=>.inl h
noncomputable def Sc.v:Sc->V
 | .non=>.non
 | .bl b=>.bl b
 | .int i=>.int i
 | .str x=>.str x
noncomputable def gq(kvs:List (Int×Sc)):List (Key×V):=kvs.map λp=>(Sum.inl p.1,p.2.v)
noncomputable def jB(kvs:List (List Int×Sc)):List (List Key×V):=kvs.map λp=>(p.1.map Sum.inl,p.2.v)
noncomputable def iH:DD->HO
 | .k kvs=>.dK (gq kvs)
 | .t kvs=>.dT (jB kvs)
 | .p ns=>.lst (ns.map V.int)
def RdD(F:Hp)(a:Addr)(d:DD):Prop:=Rd F a (iH d)/\rJ d=true
theorem RdD.rd(h:RdD F a d):Rd F a (iH d):=h.1
theorem ai.rdD(s:ai H H')(h:RdD H a d):RdD H' a d:=⟨ai.rd s h.1,h.2⟩
mutual
noncomputable def Rep(K:Mx)(F:Hp):PV->V->Prop
 | .non,u=>u=.non
 | .bl b,u=>u=.bl b
 | .int i,u=>u=.int i
 | .str x,u=>u=.str x
 | .tup xs,u=>∃a us,u=.ref a/\F a=some (.tup us)/\Reps K F xs us
 | .lst xs,u=>∃a us,u=.ref a/\SqL K F a us/\Reps K F xs us
 | .dI kvs,u=>∃a,u=.ref a/\RdD F a kvs
noncomputable def Reps(K:Mx)(F:Hp):List PV->List V->Prop
 | [],us=>us=[]
 |x::xs,us=>∃u r,us=u::r/\Rep K F x u/\Reps K F xs r
end
section
variable{K:Mx}{F F':Hp}
mutual
theorem Rep.mono(s:ai F F'):∀(x:PV) {u:V},Rep K F x u->Rep K F' x u
 | .non,_,h=>by simpa only[Rep]using h
 | .bl _,_,h=>by simpa only[Rep]using h
 | .int _,_,h=>by simpa only[Rep]using h
 | .str _,_,h=>by simpa only[Rep]using h
 | .tup xs,_,h=>by
  rw[Rep]at h ⊢;obtain⟨a,us,e,q,r⟩:=h;exact⟨a,us,e,s a _ q,Reps.mono s xs r⟩
 | .lst xs,_,h=>by
  rw[Rep]at h ⊢;obtain⟨a,us,e,q,r⟩:=h;exact⟨a,us,e,s.seq q,Reps.mono s xs r⟩
 | .dI kvs,_,h=>by
  rw[Rep]at h ⊢;obtain⟨a,e,q⟩:=h;exact⟨a,e,ai.rdD s q⟩
theorem Reps.mono(s:ai F F'):∀(xs:List PV) {us:List V},Reps K F xs us->Reps K F' xs us
 | [],_,h=>by simpa only[Reps]using h
 |x::xs,_,h=>by
  rw[Reps]at h ⊢;obtain⟨u,r,e,q,t⟩:=h;exact⟨u,r,e,Rep.mono s x q,Reps.mono s xs t⟩
end
theorem Reps.nil:Reps K F [] []:=rfl
theorem Reps.cons{u:V}{us:List V}(h:Rep K F x u)(t:Reps K F xs us):Reps K F (x::xs) (u::us):=by
 rw[Reps];exact⟨u,us,rfl,h,t⟩
theorem Reps.length:∀{xs}{us},Reps K F xs us->xs.length=us.length
 | [],_,h=>by rw[Reps]at h;subst h;rfl
 |x::xs,_,h=>by
  obtain⟨u,r,e,_,t⟩:=h;subst e;simp[Reps.length t]
theorem Reps.get:∀{xs}{us}{i:Nat}{x},Reps K F xs us->xs[i]?=some x->∃u,us[i]?=some u/\Rep K F x u
 | [],_,_,_,_,e=>by simp at e
 |x::xs,_,i,y,h,e=>by
  obtain⟨u,r,rfl,q,t⟩:=h;cases i with
  |zero=>simp at e;subst e;exact⟨u,by simp,q⟩
  |succ i=>obtain⟨w,h1,h2⟩:=Reps.get (i:=i) t (by simpa using e);exact⟨w,by simpa using h1,h2⟩
theorem Reps.get':∀{xs}{us}{i:Nat}{u},Reps K F xs us->us[i]?=some u->∃x,xs[i]?=some x/\Rep K F x u
 | [],_,i,_,h,e=>by rw[Reps]at h;subst h;simp at e
 |x::xs,_,i,y,h,e=>by
  obtain⟨u,r,rfl,q,t⟩:=h;cases i with
  |zero=>simp at e;subst e;exact⟨x,by simp,q⟩
  |succ i=>obtain⟨w,h1,h2⟩:=Reps.get' (i:=i) t (by simpa using e);exact⟨w,by simpa using h1,h2⟩
theorem Reps.append:∀{xs ys}{us z},Reps K F xs us->Reps K F ys z->Reps K F (xs++ys) (us++z)
 | [],_,_,_,h,g=>by rw[Reps]at h;subst h;exact g
 |x::xs,_,_,_,h,g=>by
  obtain⟨u,r,rfl,q,t⟩:=h;exact .cons q (Reps.append t g)
theorem Reps.snoc(h:Reps K F xs us)(g:Rep K F x u):Reps K F (xs++[x]) (us++[u]):=h.append (.cons g .nil)
theorem Reps.take:∀{xs}{us} n,Reps K F xs us->Reps K F (xs.take n) (us.take n)
 | _,_,0,_=>by simpa using Reps.nil
 | [],_,n+1,h=>by rw[Reps]at h;subst h;simpa using Reps.nil
 |x::xs,_,n+1,h=>by
  obtain⟨u,r,rfl,q,t⟩:=h;exact .cons q (Reps.take n t)
theorem Reps.drop:∀{xs}{us} n,Reps K F xs us->Reps K F (xs.drop n) (us.drop n)
 | _,_,0,h=>h
 | [],_,n+1,h=>by rw[Reps]at h;subst h;simpa using Reps.nil
 |x::xs,_,n+1,h=>by
  obtain⟨u,r,rfl,q,t⟩:=h;exact Reps.drop n t
theorem Reps.set:∀{xs}{us}{x}{u} n,Reps K F xs us->Rep K F x u->Reps K F (xs.set n x) (us.set n u)
 | [],_,_,_,n,h,_=>by rw[Reps]at h;subst h;simpa using Reps.nil
 |x::xs,_,_,_,0,h,g=>by
  obtain⟨u,r,rfl,q,t⟩:=h;exact .cons g t
 |x::xs,_,_,_,n+1,h,g=>by
  obtain⟨u,r,rfl,q,t⟩:=h;exact .cons q (Reps.set n t g)
theorem Reps.dropLast(h:Reps K F xs us):Reps K F xs.dropLast us.dropLast:=by
 rw[dropLast_eq_take,dropLast_eq_take,<- h.length];exact h.take _
theorem Reps.ints:∀{ns:List Int}{us},Reps K F (ns.map .int) us->us=ns.map V.int
 | [],_,h=>by simpa[Reps]using h
 |n::ns,_,h=>by
  obtain⟨u,r,rfl,q,t⟩:=h;rw[q,Reps.ints t];rfl
theorem Reps.of_ints:∀(ns:List Int),Reps K F (ns.map .int) (ns.map V.int)
 | []=>.nil
 |n::ns=>.cons (by rw[Rep]) (Reps.of_ints ns)
theorem dX:∀{xs}{ns},bg xs=some ns->xs=ns.map .int
 | [],_,h=>by simp[bg]at h;subst h;rfl
 | .int i::r,ns,h=>by
  simp[bg]at h;obtain⟨ms,h1,rfl⟩:=h;rw[dX h1];rfl
 | .non::_,_,h=>by simp[bg]at h
 | .bl _::_,_,h=>by simp[bg]at h
 | .str _::_,_,h=>by simp[bg]at h
 | .tup _::_,_,h=>by simp[bg]at h
 | .lst _::_,_,h=>by simp[bg]at h
 | .dI _::_,_,h=>by simp[bg]at h
theorem rL:∀{xs}{ns},gi xs=some ns->xs=ns.map λt=>.tup (t.map .int)
 | [],_,h=>by simp[gi]at h;subst h;rfl
 | .tup i::r,ns,h=>by
  simp[gi,gk]at h;obtain⟨t,z,ms,h1,rfl⟩:=h;rw[rL h1,dX z];rfl
 | .non::_,_,h=>by simp[gi]at h
 | .bl _::_,_,h=>by simp[gi]at h
 | .str _::_,_,h=>by simp[gi]at h
 | .int _::_,_,h=>by simp[gi]at h
 | .lst _::_,_,h=>by simp[gi]at h
 | .dI _::_,_,h=>by simp[gi]at h
theorem kT:∀{xs}{ns},cE xs=some ns->xs=ns.map .bl
 | [],_,h=>by simp[cE]at h;subst h;rfl
 | .bl i::r,ns,h=>by
  simp[cE]at h;obtain⟨ms,h1,rfl⟩:=h;rw[kT h1];rfl
 | .non::_,_,h=>by simp[cE]at h
 | .int _::_,_,h=>by simp[cE]at h
 | .str _::_,_,h=>by simp[cE]at h
 | .tup _::_,_,h=>by simp[cE]at h
 | .lst _::_,_,h=>by simp[cE]at h
 | .dI _::_,_,h=>by simp[cE]at h
end
def d7{K:Mx}{H:Hp}{a:Addr}{us:List V}(h:H a=some (.tup us)):SqT K H a us:=SqT.of h
def bA(K:Mx)(H:Hp)(O:List Addr)(v:PV)(u:V):Prop:=
 Rep K (av H O) v u\/(∃xs a us,v=.lst xs/\u=.ref a/\SqL K H a us/\Reps K (av H O) xs us)\/∃kvs a,v=.dI kvs/\u=.ref a/\RdD H a kvs
section
variable{K:Mx}{H H':Hp}{O:List Addr}
theorem bA.of(h:Rep K (av H O) v u):bA K H O v u:=.inl h
theorem bA.mono(s:ai H H')(h:bA K H O v u):bA K H' O v u:=by
 rcases h with h|⟨xs,a,us,z,J,q,r⟩|⟨kvs,a,z,J,q⟩
 .exact .inl (Rep.mono (am s) _ h)
 .exact .inr (.inl ⟨xs,a,us,z,J,s.seq q,Reps.mono (am s) _ r⟩)
 .exact .inr (.inr ⟨kvs,a,z,J,ai.rdD s q⟩)
theorem bA.lst(h:bA K H O (.lst xs) u):∃a us,u=.ref a/\SqL K H a us/\Reps K (av H O) xs us:=by
 rcases h with h|⟨ys,a,us,z,J,q,r⟩|⟨kvs,a,z,J,q⟩
 .rw[Rep]at h;obtain⟨a,us,e,q,r⟩:=h;exact⟨a,us,e,(bP H O).seq q,r⟩
 .cases z;exact⟨a,us,J,q,r⟩
 .cases z
def bA.tupH(h:bA K H O (.tup xs) u):∃a us,u=.ref a/\H a=some (.tup us)/\Reps K (av H O) xs us:=by
 rcases h with h|⟨ys,a,us,z,J,q,r⟩|⟨kvs,a,z,J,q⟩
 .rw[Rep]at h;obtain⟨a,us,e,q,r⟩:=h;exact⟨a,us,e,bP H O a _ q,r⟩
 .cases z
 .cases z
theorem bA.tup(h:bA K H O (.tup xs) u):∃a us,u=.ref a/\SqT K H a us/\Reps K (av H O) xs us:=by
 obtain⟨a,us,e,q,r⟩:=h.tupH;exact⟨a,us,e,SqT.of q,r⟩
def bA.tupR(h:bA K H O (.tup xs) u):Rep K (av H O) (.tup xs) u:=by
 rcases h with h|⟨ys,a,us,z,J,q,r⟩|⟨kvs,a,z,J,q⟩
 .exact h
 .cases z
 .cases z
theorem bA.dI(h:bA K H O (.dI kvs) u):∃a,u=.ref a/\RdD H a kvs:=by
 rcases h with h|⟨ys,a,us,z,J,q,r⟩|⟨kvs,a,z,J,q⟩
 .rw[Rep]at h;obtain⟨a,e,q⟩:=h;exact⟨a,e,ai.rdD (bP H O) q⟩
 .cases z
 .simp_all
theorem bA.int(h:bA K H O (.int i) u):u=.int i:=by
 rcases h with h|⟨ys,a,us,z,J,q,r⟩|⟨kvs,a,z,J,q⟩
 .rw[Rep]at h;exact h
 .cases z
 .cases z
theorem bA.bl(h:bA K H O (.bl i) u):u=.bl i:=by
 rcases h with h|⟨ys,a,us,z,J,q,r⟩|⟨kvs,a,z,J,q⟩
 .rw[Rep]at h;exact h
 .cases z
 .cases z
theorem bA.str(h:bA K H O (.str i) u):u=.str i:=by
 rcases h with h|⟨ys,a,us,z,J,q,r⟩|⟨kvs,a,z,J,q⟩
 .rw[Rep]at h;exact h
 .cases z
 .cases z
theorem bA.non(h:bA K H O .non u):u=.non:=by
 rcases h with h|⟨ys,a,us,z,J,q,r⟩|⟨kvs,a,z,J,q⟩
 .rw[Rep]at h;exact h
 .cases z
 .cases z
theorem bA.seq(h:bA K H O v u)(e:a_ v=some xs):∃a us,u=.ref a/\(SqL K H a us\/SqT K H a us)/\Reps K (av H O) xs us:=by
 cases v<;>first|(simp[a_]at e;subst e;obtain⟨a,us,e,q,r⟩:=h.lst;exact⟨a,us,e,.inl q,r⟩)|(simp[a_]at e;subst e;obtain⟨a,us,e,q,r⟩:=h.tup;exact⟨a,us,e,.inr q,r⟩)|simp[a_]at e
def bA.whole(h:bA K H O v u):Rep K H v u:=by
 rcases h with h|⟨xs,a,us,rfl,z,q,r⟩|⟨kvs,a,rfl,z,q⟩
 .exact Rep.mono (bP H O) _ h
 .rw[Rep];exact⟨a,us,z,q,Reps.mono (bP H O) _ r⟩
 .rw[Rep];exact⟨a,z,q⟩
end
abbrev DAt(_:Mx)(H:Hp)(_:List Addr)(a:Addr)(d:DD):Prop:=H a=some (iH d)
theorem DAt.here{K:Mx}(h:DAt K H O a d):∃o,H a=some o:=⟨_,h⟩
theorem DAt.put1{K:Mx}(_:qb d y s=some d')(h:DAt K H O a d):H a=some (iH d):=h
theorem DAt.put2{K:Mx}{H:Hp}{O:List Addr}{a:Addr}{d d':DD}{y:PV}{s:Sc}(_:qb d y s=some d')(h:H a=some (iH d')):DAt K H O a d':=h
theorem DAt.np{K:Mx}(h:DAt K H O a d)(_:rJ d=true):H a=some (iH d):=h
theorem DAt.move{K:Mx}{H H':Hp}{O z:List Addr}{a:Addr}{d:DD}(h:DAt K H O a d)(e:∀o,H a=some o->H' a=some o)(_:ai (av H O) (av H' z)):DAt K H' z a d:=e _ h
def eY(K:Mx)(B:Hp)(O:List Addr)(H:Hp):MV->V->Prop
 | .val v,u=>Rep K (av H O) v u
 | .own xs,u=>∃a us,u=.ref a/\H a=some (.lst us)/\Reps K (av H O) xs us/\a∈O/\B a=none
 | .brw xs,u=>∃a us,u=.ref a/\SqL K B a us/\Reps K (av H O) xs us
 | .ownD kvs,u=>∃a,u=.ref a/\DAt K H O a kvs/\a∈O/\B a=none
 | .mutD kvs,u=>∃a,u=.ref a/\DAt K H O a kvs/\a∈O/\B a=none
 | .brwD kvs,u=>∃a,u=.ref a/\Rd B a (iH kvs)
noncomputable def iI:MV->Bool
 | .own _=>true
 | .ownD _=>true
 | .mutD _=>true
 | _=>false
structure aE(K:Mx)(B:Hp)(E O:List Addr)(H:Hp)(W:Rho)(σ:St):Prop where
 keep:ai B H
 here:∀a∈O,H a≠none
 sub:∀a∈E,a∈O
 old:∀a∈E,B a≠none
 len:W.length=σ.length
 slot:∀(i:Nat) (m:MV),W[i]?=some (some m)->∃u,σ[i]?=some (some u)/\eY K B O H m u
 apart:∀(i j:Nat) (m m':MV) (a:Addr),i≠j->W[i]?=some (some m)->W[j]?=some (some m')->iI m=true->iI m'=true->σ[i]?=some (some (.ref a))->σ[j]?≠some (some (.ref a))
section
variable{K:Mx}{B H H':Hp}{E O:List Addr}{W:Rho}{σ:St}
theorem eY.mono(s:ai H H')(h:eY K B O H m u):eY K B O H' m u:=by
 cases m with
 |val v=>exact Rep.mono (am s) _ h
 |own xs=>obtain⟨a,us,e,q,r,h1,h2⟩:=h;exact⟨a,us,e,s _ _ q,Reps.mono (am s) _ r,h1,h2⟩
 |brw xs=>obtain⟨a,us,e,q,r⟩:=h;exact⟨a,us,e,q,Reps.mono (am s) _ r⟩
 |brwD kvs=>exact h
 | _=>obtain⟨a,e,q,h1,h2⟩:=h;exact⟨a,e,q.move (s _) (am s),h1,h2⟩
theorem aE.mono(s:ai H H')(h:aE K B E O H W σ):aE K B E O H' W σ where
 keep:=h.keep.trans s
 here:=λa z e=>h.here a z (s.free e)
 sub:=h.sub
 old:=h.old
 len:=h.len
 slot:=λi m e=>let ⟨u,J,q⟩:=h.slot i m e;⟨u,J,q.mono s⟩
 apart:=h.apart
theorem eY.bor(z:ai B H)(h:eY K B O H m u)(e:bv (some m)=some v):bA K H O v u:=by
 cases m with
 |val w=>simp[bv]at e;subst e;exact .inl h
 |own xs=>simp[bv]at e;subst e;obtain⟨a,us,e,q,r,_⟩:=h;exact .inr (.inl ⟨xs,a,us,rfl,e,SqL.of q,r⟩)
 |brw xs=>simp[bv]at e;subst e;obtain⟨a,us,e,q,r⟩:=h;exact .inr (.inl ⟨xs,a,us,rfl,e,z.seq q,r⟩)
 |ownD kvs|mutD kvs=>simp[bv]at e;obtain⟨np,rfl⟩:=e;obtain⟨a,e,q,_⟩:=h;exact .inr (.inr ⟨kvs,a,rfl,e,.inl (q.np np),np⟩)
 |brwD kvs=>simp[bv]at e;obtain⟨np,rfl⟩:=e;obtain⟨a,e,q⟩:=h;exact .inr (.inr ⟨kvs,a,rfl,e,ai.rd z q,np⟩)
end
def aF{α:Type}{o:Option (Option α)}{x:α}(h:o.join=some x):o=some (some x):=by
 cases o<;>simp_all
def vi(h:bv (some (.ownD d))=some v):v=.dI d:=by simp_all [bv]
def vj(h:bv (some (.brwD d))=some v):v=.dI d:=by simp_all [bv]
def vk(h:bv (some (.mutD d))=some v):v=.dI d:=by simp_all [bv]
structure Tab where
 fs:List Str
 gs:List (Str×PV)
 ds:List (List Sc)
noncomputable def D8(sc:Scope)(x:Str):Bool:=sc.names.lookup x==some .local||sc.names.lookup x==some .cell||sc.names.lookup x==some .free
noncomputable def fu(sc:Scope)(x:Str):Bool:=sc.names.lookup x==some .local||sc.names.lookup x==some .cell
noncomputable def glB(sc:Scope)(x:Str):Bool:=sc.names.lookup x==some .globalImplicit
noncomputable def aq (x:Str):Bool:=!(x==("__debug__":Str))&&!(x==("__classdict__":Str))&&!(x==("__name__":Str))
noncomputable def aW(N:List Str)(sc:Scope)(i:Nat)(x:Str):Bool:=N[i]?==some x&&D8 sc x&&aq x
noncomputable def onQ{α:Type}:Option α->(α->Bool)->Bool
 |some a,f=>f a
 |none,_=>false
def ak(h:onQ o f=true):∃a,o=some a/\f a=true:=by
 cases o with
 |none=>cases h
 |some a=>exact⟨a,rfl,h⟩
def bQ{α z:Type}{o:Option α}{f:α->Option z}{b:z}(h:o.bind f=some b):∃a,o=some a/\f a=some b:=gk.mp h
noncomputable def okQ{α:Type}(b:Bool)(x:α):Option α:=if b=true then some x else none
def jC(h:okQ b x=some y):b=true/\x=y:=by
 cases b with
 |false=>cases h
 |true=>cases h;exact⟨rfl,rfl⟩
noncomputable def j5{α:Type}:List α->Option α
 | [x]=>some x
 | _=>none
def cN(h:j5 l=some x):l=[x]:=by
 rcases l with _|⟨a,_|⟨b,l⟩⟩<;>cases h
 rfl
noncomputable def yQ{α:Type}:List α->Option (α×α)
 | [x,y]=>some (x,y)
 | _=>none
def l7(h:yQ l=some q):l=[q.1,q.2]:=by
 rcases l with _|⟨a,_|⟨b,_|⟨c,l⟩⟩⟩<;>cases h
 rfl
noncomputable def nmP:Expr->Option (Str×Pos)
 | .Name x p=>some (x,p)
 | _=>none
def d8(h:nmP e=some q):e=.Name q.1 q.2:=by
 cases e<;>cases h
 rfl
noncomputable def caP:Expr->Option (Expr×List Expr×List Keyword×Pos)
 | .Call f as ks p=>some (f,as,ks,p)
 | _=>none
def yR(h:caP e=some q):e=.Call q.1 q.2.1 q.2.2.1 q.2.2.2:=by
 cases e<;>cases h
 rfl
noncomputable def atP:Expr->Option (Expr×Str×Pos)
 | .Attribute o m p=>some (o,m,p)
 | _=>none
def D9(h:atP e=some q):e=.Attribute q.1 q.2.1 q.2.2:=by
 cases e<;>cases h
 rfl
noncomputable def biP:Expr->Option (Expr×Operator×Expr×Pos)
 | .BinOp l o r p=>some (l,o,r,p)
 | _=>none
def qd(h:biP e=some q):e=.BinOp q.1 q.2.1 q.2.2.1 q.2.2.2:=by
 cases e<;>cases h
 rfl
noncomputable def suP:Expr->Option (Expr×Expr×Pos)
 | .Subscript v s p=>some (v,s,p)
 | _=>none
def m4(h:suP e=some q):e=.Subscript q.1 q.2.1 q.2.2:=by
 cases e<;>cases h
 rfl
noncomputable def lcP:Expr->Option (Expr×List Comprehension×Scope×Pos)
 | .ListComp e g s p=>some (e,g,s,p)
 | _=>none
def t8(h:lcP e=some q):e=.ListComp q.1 q.2.1 q.2.2.1 q.2.2.2:=by
 cases e<;>cases h
 rfl
noncomputable def coP:Expr->Option (Expr×List CmpOp×List Expr×Pos)
 | .Compare l o r p=>some (l,o,r,p)
 | _=>none
def D_(h:coP e=some q):e=.Compare q.1 q.2.1 q.2.2.1 q.2.2.2:=by
 cases e<;>cases h
 rfl
noncomputable def ctP:Expr->Option (Const×Nat×Pos)
 | .Constant c j p=>some (c,j,p)
 | _=>none
def yS(h:ctP e=some q):e=.Constant q.1 q.2.1 q.2.2:=by
 cases e<;>cases h
 rfl
noncomputable def tuP:Expr->Option (List Expr×Nat×Pos)
 | .Tuple xs j p=>some (xs,j,p)
 | _=>none
def t9(h:tuP e=some q):e=.Tuple q.1 q.2.1 q.2.2:=by
 cases e<;>cases h
 rfl
noncomputable def liP:Expr->Option (List Expr×Pos)
 | .List xs p=>some (xs,p)
 | _=>none
def qe(h:liP e=some q):e=.List q.1 q.2:=by
 cases e<;>cases h
 rfl
noncomputable def unP:Expr->Option (UnaryOp×Expr×Pos)
 | .UnaryOp o e p=>some (o,e,p)
 | _=>none
def Ea(h:unP e=some q):e=.UnaryOp q.1 q.2.1 q.2.2:=by
 cases e<;>cases h
 rfl
noncomputable def boP:Expr->Option (BoolOp×List Expr×Pos)
 | .BoolOp o vs p=>some (o,vs,p)
 | _=>none
def yT(h:boP e=some q):e=.BoolOp q.1 q.2.1 q.2.2:=by
 cases e<;>cases h
 rfl
noncomputable def ifP:Expr->Option (Expr×Expr×Expr×Pos)
 | .IfExp t x y p=>some (t,x,y,p)
 | _=>none
def Eb(h:ifP e=some q):e=.IfExp q.1 q.2.1 q.2.2.1 q.2.2.2:=by
 cases e<;>cases h
 rfl
noncomputable def slP:Expr->Option (Option Expr×Option Expr×Option Expr×Pos)
 | .Slice l u s p=>some (l,u,s,p)
 | _=>none
def Ec(h:slP e=some q):e=.Slice q.1 q.2.1 q.2.2.1 q.2.2.2:=by
 cases e<;>cases h
 rfl
noncomputable def asP:Stmt->Option (List Expr×Expr×Pos)
 | .Assign z v p=>some (z,v,p)
 | _=>none
def yU(h:asP s=some q):s=.Assign q.1 q.2.1 q.2.2:=by
 cases s<;>cases h
 rfl
noncomputable def rM(e:Expr):Option (Str×List Expr):=(caP e).bind λc=>(nmP c.1).bind λx=>okQ c.2.2.1.isEmpty (x.1,c.2.1)
def fE(h:rM e=some q):∃p cp,e=.Call (.Name q.1 p) q.2 [] cp:=by
 obtain⟨c,h1,h⟩:=bQ h;obtain⟨x,h2,h⟩:=bQ h;obtain⟨z,rfl⟩:=jC h;exact⟨_,_,by rw[yR h1,d8 h2,KN.mp z]⟩
noncomputable def rN(e:Expr):Option (Str×Expr):=(rM e).bind λc=>(j5 c.2).bind λa=>some (c.1,a)
def g6(h:rN e=some q):∃p cp,e=.Call (.Name q.1 p) [q.2] [] cp:=by
 obtain⟨c,h1,h⟩:=bQ h;obtain⟨a,h2,h⟩:=bQ h;cases h;obtain⟨p,cp,rfl⟩:=fE h1;exact⟨p,cp,by rw[cN h2]⟩
noncomputable def maP(e:Expr):Option (Expr×Str×Pos×List Expr×Pos):=(caP e).bind λc=>(atP c.1).bind λa=>okQ c.2.2.1.isEmpty (a.1,a.2.1,a.2.2,c.2.1,c.2.2.2)
def t_(h:maP e=some q):e=.Call (.Attribute q.1 q.2.1 q.2.2.1) q.2.2.2.1 [] q.2.2.2.2:=by
 obtain⟨c,h1,h⟩:=bQ h;obtain⟨x,h2,h⟩:=bQ h;obtain⟨z,rfl⟩:=jC h;rw[yR h1,D9 h2,KN.mp z]
noncomputable def maN(e:Expr):Option (Str×Str×Pos×List Expr×Pos):=(maP e).bind λa=>(nmP a.1).bind λx=>some (x.1,a.2.1,a.2.2.1,a.2.2.2.1,a.2.2.2.2)
def yV(h:maN e=some q):∃p,e=.Call (.Attribute (.Name q.1 p) q.2.1 q.2.2.1) q.2.2.2.1 [] q.2.2.2.2:=by
 obtain⟨c,h1,h⟩:=bQ h;obtain⟨x,h2,h⟩:=bQ h;cases h;exact⟨x.2,by rw[t_ h1,d8 h2]⟩
noncomputable def Ed(e:Expr):Option (Expr×CmpOp×Expr):=(coP e).bind λc=>(j5 c.2.1).bind λo=>(j5 c.2.2.1).bind λr=>some (c.1,o,r)
def vm(h:Ed e=some q):∃pos,e=.Compare q.1 [q.2.1] [q.2.2] pos:=by
 obtain⟨c,h1,h⟩:=bQ h;obtain⟨x,h2,h⟩:=bQ h;obtain⟨y,z,h⟩:=bQ h;cases h;exact⟨c.2.2.2,by rw[D_ h1,cN h2,cN z]⟩
noncomputable def GP(e:Expr):Option (Expr×Option Expr×Option Expr):=(suP e).bind λc=>(slP c.2.1).bind λs=>okQ s.2.2.1.isNone (c.1,s.1,s.2.1)
def BB(h:GP e=some q):∃p pos,e=.Subscript q.1 (.Slice q.2.1 q.2.2 none p) pos:=by
 obtain⟨c,h1,h⟩:=bQ h;obtain⟨x,h2,h⟩:=bQ h;obtain⟨z,rfl⟩:=jC h;exact⟨_,_,by rw[m4 h1,Ec h2,isNone_iff_eq_none.mp z]⟩
noncomputable def lcX(e:Expr):Option (Expr×Scope×(Str×Pos)×Expr×List Expr):=(lcP e).bind λc=>(j5 c.2.1).bind λg=>(nmP g.target).bind λx=>okQ (g.is_async==0) (c.1,c.2.2.1,x,g.iter,g.ifs)
def yW(h:lcX e=some q):∃pos,e=.ListComp q.1 [⟨.Name q.2.2.1.1 q.2.2.1.2,q.2.2.2.1,q.2.2.2.2,0⟩] q.2.1 pos:=by
 obtain⟨c,h1,h⟩:=bQ h;obtain⟨⟨tg,it,is,as⟩,h2,h⟩:=bQ h;obtain⟨x,z,h⟩:=bQ h;obtain⟨J,rfl⟩:=jC h;exact⟨c.2.2.2,by rw[t8 h1,cN h2,d8 (e:=tg) z,show as=0 from eq_of_beq J]⟩
noncomputable def diP:Expr->Option (List (Option Expr)×List Expr×Pos)
 | .Dict ks vs p=>some (ks,vs,p)
 | _=>none
def yX(h:diP e=some q):e=.Dict q.1 q.2.1 q.2.2:=by
 cases e<;>cases h
 rfl
noncomputable def exP:Stmt->Option (Expr×Pos)
 | .Expr e p=>some (e,p)
 | _=>none
def Ee(h:exP s=some q):s=.Expr q.1 q.2:=by
 cases s<;>cases h
 rfl
noncomputable def reP:Stmt->Option (Option Expr×Pos)
 | .Return v p=>some (v,p)
 | _=>none
def Ef(h:reP s=some q):s=.Return q.1 q.2:=by
 cases s<;>cases h
 rfl
noncomputable def GQ:Const->Option Str
 | .str x=>some x
 | _=>none
def BC(h:GQ c=some x):c=.str x:=by
 cases c<;>cases h
 rfl
noncomputable def Eg(e:Expr):Option Str:=(ctP e).bind λc=>GQ c.1
def vn(h:Eg e=some x):∃j p,e=.Constant (.str x) j p:=by
 obtain⟨c,h1,h⟩:=bQ h;exact⟨c.2.1,c.2.2,by rw[yS h1,BC h]⟩
noncomputable def hdQ{α:Type}:List α->Option (α×List α)
 |x::l=>some (x,l)
 | _=>none
def Eh(h:hdQ l=some q):l=q.1::q.2:=by
 cases l<;>cases h
 rfl
noncomputable def aK:ME->Bool
 | .bor _=>true
 | _=>false
noncomputable def ua:Op2->Operator
 | .add=>.Add|.sub=>.Sub|.mul=>.Mult|.fdiv=>.FloorDiv|.mod=>.Mod|.pow=>.Pow|.shr=>.RShift
noncomputable def yY:Cp->CmpOp
 | .eq=>.Eq|.ne=>.NotEq|.lt=>.Lt|.le=>.LtE|.gt=>.Gt|.ge=>.GtE|.isN=>.Is|.notN=>.IsNot|.isIn=>.In|.notIn=>.NotIn
noncomputable def ub:PV->Const->Bool
 | .non,.none=>true
 | .bl a,.bool b=>a==b
 | .int a,.int b=>a==b
 | .str a,.str b=>a==b
 | _,_=>false
noncomputable def CS:PV->PV->Bool
 | .non,.non=>true
 | .bl a,.bl b=>a==b
 | .int a,.int b=>a==b
 | .str a,.str b=>a==b
 | _,_=>false
noncomputable def CT(gs:List (Str×PV))(x:Str)(v:PV):Bool:=gs.any λp=>p.1==x&&CS p.2 v
noncomputable def ah:Expr->Bool
 | .Starred ..=>false
 | _=>true
noncomputable def eZ:Expr->Bool
 | .Set ..=>false
 | _=>true
noncomputable def bW:Expr->Bool
 | .Slice ..=>false
 | _=>true
noncomputable def bR:Expr->Bool
 | .ListComp ..=>false
 | .SetComp ..=>false
 | .DictComp ..=>false
 | _=>true
noncomputable def kU:Expr->Bool
 | .UnaryOp .Not _ _=>false
 | .BoolOp ..=>false
 | .IfExp ..=>false
 | .Compare ..=>false
 | _=>true
noncomputable def rO:Blt->String
 | .len=>"len" | .tupleOf=>"tuple" | .listOf=>"list" | .sorted=>"sorted" | .any=>"any" | .all=>"all" | .sum=>"sum" | .max1=>"max" | .min1=>"min" | .max2=>"max" | .min2=>"min"
 | .intOf=>"int" | .boolOf=>"bool" | .isInt=>"isinstance" | .isBool=>"isinstance" | .isStr=>"isinstance" | .isList=>"isinstance" | .isTuple=>"isinstance" | .sortedKeys=>"sorted" | .valuesOf=>"list" | .sortedSet=>"sorted" | .lenSet=>"len" | .lenSetSub=>"len" | .tupleRev=>"tuple"
noncomputable def dh:Blt->Option String
 | .isInt=>some "int" | .isBool=>some "bool" | .isStr=>some "str" | .isList=>some "list" | .isTuple=>some "tuple"
 | _=>none
noncomputable def kW:Blt->Option Nat
 | .len|.tupleOf|.listOf|.sorted|.any|.all|.sum|.intOf|.boolOf|.max1|.sortedKeys=>some 1
 | .max2|.min2=>some 2
 | _=>none
noncomputable def fF(osc:Scope)(N:List Str)(scope:Scope)(x:Str)(fvs:List Str)(js:List Nat):Bool:=
 decide (∀y∈scope.names,y.2=.cell->y.1=x)&&decide (scope.names.lookup x=some .local/\(scope.names.filter λy=>y.2==.cell)=[]\/scope.names.lookup x=some .cell/\(scope.names.filter λy=>y.2==.cell)=[(x,.cell)])
 &&decide (∀y∈scope.names,y.2=.free->y.1≠x)&&scope.kind==.function&&decide (∀y∈scope.names,y.2=.local->scope.names.lookup y.1=some .local)
 &&decide ((x::fvs).Nodup)&&decide (∀y∈scope.names,y.2=.free->osc.names.lookup y.1=some .cell\/osc.names.lookup y.1=some .free)&&decide ((js.map λj=>N[j]?)=fvs.map some)
 &&decide (∀y∈fvs,scope.names.lookup y=some .free)
noncomputable def dA(N:List Str)(js:List Nat):List Str:=js.map λj=>(N[j]?).getD Str.empty
noncomputable def m5(sc:Scope)(tup:Bool)(f:List Expr->Bool):Sk->Expr->Bool
 | .seq,it=>eZ it&&f [it]
 | .rng,it=>onQ (rM it) λc=>c.1==("range":Str)&&glB sc c.1&&f c.2&&(c.2.length==1||c.2.length==2)
 | .rev,_=>false
 | .enm,it=>onQ (rN it) λc=>tup&&c.1==("enumerate":Str)&&glB sc c.1&&f [c.2]&&ah c.2
noncomputable def rP(sc:Scope)(f:List Expr->Bool)(n:Nat)(c:String)(args:List Expr):Bool:=onQ (yQ args) λa=>onQ (nmP a.2) λt=>t.1==(c:Str)&&glB sc t.1&&f [a.1]&&n==1
noncomputable def uc(sc:Scope)(f:List Expr->Bool)(n:Nat)(g:Str)(args:List Expr):Bool:=onQ (j5 args) λa=>onQ (rN a) λc=>c.1==g&&glB sc c.1&&f [c.2]&&n==1
noncomputable def o9:Expr->Bool
 | .Name _ _=>true
 | .Call _ (_::_) _ _=>true
 | _=>false
noncomputable def l8(sc:Scope)(f:List Expr->Bool)(n:Nat)(b:Blt)(args:List Expr):Bool:=match b with
 | .sortedSet=>uc sc f n "set" args
 | .lenSet=>uc sc f n "set" args
 | .lenSetSub=>onQ (j5 args) λa=>onQ (biP a) λb=>onQ (rN b.1) λc=>onQ (rN b.2.2.1) λd=>b.2.1==.Sub&&c.1==("set":Str)&&glB sc c.1&&d.1==("set":Str)&&glB sc d.1&&f [c.2,d.2]&&n==2
 | .tupleRev=>false
 | .valuesOf=>onQ (j5 args) λa=>onQ (maP a) λc=>c.2.2.2.1.isEmpty&&c.2.1==("values":Str)&&o9 c.1&&c.2.2.1.endLine==c.2.2.2.2.line&&f [c.1]&&n==1
 | .max2=>false
 | .min2=>false
 | .boolOf=>false
 | .isStr=>false
 | .isList=>false
 |b=>match dh b with
  |some c=>rP sc f n c args
  |none=>kW b==some n&&f args
noncomputable def jD:ME->Bool
 | .cst .non=>true
 | _=>false
noncomputable def qf(f:Expr->Bool)(non:Bool):Option Expr->Bool
 |none=>non
 |some l=>f l&&!non
noncomputable def rQ(f:Expr->Bool)(m:ME):List Expr->Bool
 | []=>(match m with|.cst (.bl true)=>true|_=>false)
 | [c]=>f c
 | _=>false
noncomputable def GR(f:Expr->Bool)(op:BoolOp)(pos:Pos)(y:Expr):List Expr->Bool
 | []=>f y
 |z::r=>f (.BoolOp op (y::z::r) pos)
noncomputable def Ei(g f:Expr->Bool)(op:BoolOp)(pos:Pos):List Expr->Bool
 |x::y::r=>g x&&GR f op pos y r
 | _=>false
def vo(h:Ei g f op pos vs=true):(∃x y,vs=[x,y]/\g x=true/\f y=true)\/∃x y z r,vs=x::y::z::r/\g x=true/\f (.BoolOp op (y::z::r) pos)=true:=by
 rcases vs with _|⟨x,_|⟨y,_|⟨z,r⟩⟩⟩
 .cases h
 .cases h
 .exact .inl ⟨x,y,rfl,mu.mp h⟩
 .exact .inr ⟨x,y,z,r,rfl,mu.mp h⟩
noncomputable def yZ(e:Expr):Option (List (Option Expr)×List Expr×Expr):=(suP e).bind λc=>(diP c.1).bind λd=>some (d.1,d.2.1,c.2.1)
def y0(h:yZ e=some q):∃p pos,e=.Subscript (.Dict q.1 q.2.1 p) q.2.2 pos:=by
 obtain⟨c,h1,h⟩:=bQ h;obtain⟨d,h2,h⟩:=bQ h;cases h;exact⟨d.2.2,c.2.2,by rw[m4 h1,yX h2]⟩
noncomputable def rR:List (Str×Str)->List (Option Expr)->List Expr->Bool
 | [],[],[]=>true
 |p::r,k::ks,v::vs=>k.bind Eg==some p.1&&Eg v==some p.2&&rR r ks vs
 | _,_,_=>false
noncomputable def CU(e:Expr):Option (Str×Str):=(rN e).bind λc=>(nmP c.2).bind λy=>some (c.1,y.1)
def BD(h:CU e=some q):∃p p2 pos,e=.Call (.Name q.1 p) [.Name q.2 p2] [] pos:=by
 obtain⟨c,h1,h⟩:=bQ h;obtain⟨y,h2,h⟩:=bQ h;cases h;obtain⟨p,pos,rfl⟩:=g6 h1;exact⟨p,y.2,pos,by rw[d8 h2]⟩
mutual
noncomputable def chk(T:Tab):ME->List Str->Scope->Expr->Bool
 | .var i,N,sc,J=>onQ (nmP J) λx=>aW N sc i x.1
 | .bor i,N,sc,J=>onQ (nmP J) λx=>aW N sc i x.1
 | .cst v,_,_,J=>onQ (ctP J) λc=>ub v c.1
 | .glob x v,_,sc,J=>onQ (nmP J) λy=>x==y.1&&glB sc x&&CT T.gs x v&&aq x
 | .bin op a b,N,sc,J=>onQ (biP J) λq=>q.2.1==ua op&&chk T a N sc q.1&&chk T b N sc q.2.2.1
 | .neg _,_,_,_=>false
 | .not a,N,sc,J=>onQ (unP J) λq=>q.1==.Not&&chk T a N sc q.2.1
 | .and a b,N,sc,J=>onQ (boP J) λq=>q.1==.And&&Ei (λe=>chk T a N sc e) (λe=>chk T b N sc e) .And q.2.2 q.2.1
 | .or a b,N,sc,J=>onQ (boP J) λq=>q.1==.Or&&Ei (λe=>chk T a N sc e) (λe=>chk T b N sc e) .Or q.2.2 q.2.1
 | .ite c a b,N,sc,J=>onQ (ifP J) λq=>chk T c N sc q.1&&chk T a N sc q.2.1&&chk T b N sc q.2.2.1&&!aK a&&!aK b
 | .cmp op a b,N,sc,J=>onQ (Ed J) λq=>q.2.1==yY op&&chk T a N sc q.1&&chk T b N sc q.2.2&&!behindInMarks q.2.1 q.2.2
 | .chain _ _ _ _ _,_,_,_=>false
 | .tup es,N,sc,J=>onQ (tuP J) λq=>chks T es N sc q.1&&es.all (λe=>!aK e)
 | .lst es,N,sc,J=>onQ (liP J) λq=>chks T es N sc q.1&&es.all (λe=>!aK e)
 | .idx a i,N,sc,J=>onQ (suP J) λq=>chk T a N sc q.1&&chk T i N sc q.2.1&&bW q.2.1
 | .slice a lo hi,N,sc,J=>onQ (GP J) λq=>chk T a N sc q.1&&qf (λe=>chk T lo N sc e) (jD lo) q.2.1&&qf (λe=>chk T hi N sc e) (jD hi) q.2.2
 | .blt b es,N,sc,J=>onQ (rM J) λq=>q.1==(rO b:Str)&&glB sc q.1&&l8 sc (λxs=>chks T es N sc xs) es.length b q.2
 | .call f es,N,sc,J=>onQ (rM J) λq=>T.fs[f]?==some q.1&&glB sc q.1&&aq q.1&&chks T es N sc q.2
 | .callD _ _ _,_,_,_=>false
 | .comp k src js cond elt,N,sc,J=>onQ (lcX J) λq=>fF sc N q.2.1 q.2.2.1.1 (dA N js) js&&m5 sc false (λxs=>chks T src N sc xs) k q.2.2.2.1&&rQ (λc=>chk T cond (q.2.2.1.1::dA N js) (lV q.2.1 sc) c) cond q.2.2.2.2&&chk T elt (q.2.2.1.1::dA N js) (lV q.2.1 sc) q.1&&!aK elt
 | .dget a k d,N,sc,J=>onQ (maP J) λc=>onQ (yQ c.2.2.2.1) λz=>c.2.1==("get":Str)&&o9 c.1&&c.2.2.1.endLine==c.2.2.2.2.line&&chk T a N sc c.1&&chk T k N sc z.1&&chk T d N sc z.2&&ah z.1&&ah z.2
 | .dat a k,N,sc,J=>onQ (suP J) λq=>chk T a N sc q.1&&chk T k N sc q.2.1&&bW q.2.1
 | .dIn neg k a,N,sc,J=>onQ (Ed J) λq=>q.2.1==(if neg=true then CmpOp.NotIn else CmpOp.In)&&chk T k N sc q.1&&chk T a N sc q.2.2&&!behindInMarks q.2.1 q.2.2
 | .disp kvs e,N,sc,J=>onQ (yZ J) λq=>rR kvs q.1 q.2.1&&chk T e N sc q.2.2&&bW q.2.2&&decide (kvs.length<=15)&&!kvs.isEmpty
 | .lenP i,N,sc,J=>onQ (CU J) λq=>q.1==("len":Str)&&glB sc q.1&&aW N sc i q.2
noncomputable def chks(T:Tab):List ME->List Str->Scope->List Expr->Bool
 | [],_,_,[]=>true
 |m::ms,N,sc,e::es=>chk T m N sc e&&ah e&&chks T ms N sc es
 | _,_,_,_=>false
end
def j6(h:chk T (.bor i) N sc e=true):∃x p,e=.Name x p/\aW N sc i x=true:=by
 replace h:=ak h
 obtain⟨x,h1,h⟩:=h;exact⟨x.1,x.2,d8 h1,h⟩
def bX(h:chks T (m::ms) N sc (e::es)=true):(chk T m N sc e=true/\ah e=true)/\chks T ms N sc es=true:=by
 obtain⟨a,b⟩:=mu.mp h;exact⟨mu.mp a,b⟩
def kX{cond elt:ME}(h:chk T (.comp z src js cond elt) N sc J=true):∃e x px it ifs scope pos,J=.ListComp e [⟨.Name x px,it,ifs,0⟩] scope pos /\
  (fF sc N scope x (dA N js) js&&m5 sc false (λxs=>chks T src N sc xs) z it&&rQ (λc=>chk T cond (x::dA N js) (lV scope sc) c) cond ifs&&chk T elt (x::dA N js) (lV scope sc) e&&!aK elt)=true:=by
 replace h:=ak h
 obtain⟨q,w,h⟩:=h;obtain⟨pos,rfl⟩:=yW w;exact⟨_,_,_,_,_,_,_,rfl,h⟩
def m6(h:aK m=true):∃i,m=.bor i:=by
 cases m<;>first|(cases h;done)|exact⟨_,rfl⟩
noncomputable def iJ:ME->Bool
 | .lst _=>true
 | .comp ..=>true
 | .blt .listOf _=>true
 | .blt .sorted _=>true
 | .blt .sortedSet _=>true
 | .blt .sortedKeys _=>true
 | .blt .valuesOf _=>true
 | _=>false
noncomputable def CV(sc:Scope)(t:Str)(tpos:Pos)(e:Expr):Bool:=onQ (lcP e) λq=>sc.names.lookup t==some .local&&tpos.line==q.2.2.2.line&&!(q.2.2.1.names.any λ(n,k)=>n==t&&(k==.local||k==.cell))
noncomputable def o_(sc:Scope)(t:Str)(tpos:Pos)(v:Expr)(e:ME):Bool:=CV sc t tpos v
noncomputable def dJ(N:List Str)(sc:Scope):List Nat->List Expr->Bool
 | [],[]=>true
 |i::is,.Name x _::es=>N[i]?==some x&&fu sc x&&aq x&&dJ N sc is es
 | _,_=>false
def qg(N)(sc)(i)(is)(x)(p)(es):dJ N sc (i::is) (.Name x p::es)=(N[i]?==some x&&fu sc x&&aq x&&dJ N sc is es):=rfl
noncomputable def jE:List Bool->List ME->Bool
 | [],[]=>true
 |true::bs,e::es=>aK e&&jE bs es
 |false::bs,_::es=>jE bs es
 | _,_=>false
noncomputable def e_:List Bool->List ME->List Nat
 |true::bs,.bor i::es=>i::e_ bs es
 | _::bs,_::es=>e_ bs es
 | _,_=>[]
noncomputable def fG(T:Tab)(f:Nat)(mask:List Bool)(es:List ME)(N:List Str)(sc:Scope)(x:Expr):Bool:=onQ (rM x) λc=>T.fs[f]?==some c.1&&glB sc c.1&&aq c.1&&chks T es N sc c.2&&jE mask es&&decide (e_ mask es).Nodup&&!c.2.isEmpty
def m7(h:fG T f mask es N sc e=true):∃g p args cp,e=.Call (.Name g p) args [] cp/\(T.fs[f]?==some g&&glB sc g&&aq g&&chks T es N sc args&&jE mask es&&decide (e_ mask es).Nodup&&!args.isEmpty)=true:=by
 replace h:=ak h
 obtain⟨c,w,h⟩:=h;obtain⟨p,cp,rfl⟩:=fE w;exact⟨c.1,p,c.2,cp,rfl,h⟩
noncomputable def GS(e:Expr):Option (Expr×Expr):=(biP e).bind λc=>okQ (c.2.1==.Add) (c.1,c.2.2.1)
def BE(h:GS e=some q):∃pos,e=.BinOp q.1 .Add q.2 pos:=by
 obtain⟨c,h1,h⟩:=bQ h;obtain⟨h2,rfl⟩:=jC h;exact⟨c.2.2.2,by rw[qd h1,eq_of_beq h2]⟩
noncomputable def GT(e:Expr):Option (Expr×Expr):=(tuP e).bind λc=>yQ c.1
def BF(h:GT e=some q):∃j pos,e=.Tuple [q.1,q.2] j pos:=by
 obtain⟨c,h1,h⟩:=bQ h;exact⟨c.2.1,c.2.2,by rw[t9 h1,l7 h]⟩
noncomputable def ud:ME->Bool
 | .cst .non=>true
 | _=>false
noncomputable def y9(T:Tab)(k:SK)(e:ME)(f:Nat)(mask:List Bool)(es:List ME)(N:List Str)(sc:Scope)(x:Expr):Bool:=match k with
 | .one=>ud e&&fG T f mask es N sc x
 | .cat=>match GS x with|some q=>chk T e N sc q.1&&!aK e&&fG T f mask es N sc q.2|none=>false
 | .pair=>match GT x with|some q=>chk T e N sc q.1&&!aK e&&ah q.1&&fG T f mask es N sc q.2|none=>false
noncomputable def y_(e:Expr):Option (Expr×Scope×Str×Expr):=(lcX e).bind λc=>okQ c.2.2.2.2.isEmpty (c.1,c.2.1,c.2.2.1.1,c.2.2.2.1)
def za(h:y_ e=some q):∃z pos,e=.ListComp q.1 [⟨.Name q.2.2.1 z,q.2.2.2,[],0⟩] q.2.1 pos:=by
 obtain⟨c,h1,h⟩:=bQ h;obtain⟨h2,rfl⟩:=jC h;obtain⟨pos,rfl⟩:=yW h1;exact⟨_,pos,by rw[KN.mp h2]⟩
noncomputable def Ej(e:Expr):Option (Str×Str×Expr):=(rN e).bind λc=>(rN c.2).bind λd=>some (c.1,d.1,d.2)
def BG(h:Ej e=some q):∃p p2 pos2 pos,e=.Call (.Name q.1 p) [.Call (.Name q.2.1 p2) [q.2.2] [] pos2] [] pos:=by
 obtain⟨c,h1,h⟩:=bQ h;obtain⟨d,h2,h⟩:=bQ h;cases h;obtain⟨p,pos,rfl⟩:=g6 h1;obtain⟨p2,pos2,e⟩:=g6 h2;exact⟨p,p2,pos2,pos,by rw[e]⟩
noncomputable def Ek(e:Expr):Option (Str×Str×Pos×Pos):=(maN e).bind λa=>okQ a.2.2.2.1.isEmpty (a.1,a.2.1,a.2.2.1,a.2.2.2.2)
def BH(h:Ek e=some q):∃p,e=.Call (.Attribute (.Name q.1 p) q.2.1 q.2.2.1) [] [] q.2.2.2:=by
 obtain⟨x,h1,h⟩:=bQ h;obtain⟨h2,rfl⟩:=jC h;obtain⟨p,rfl⟩:=yV h1;exact⟨p,by rw[KN.mp h2]⟩
noncomputable def El(e:Expr):Option (Expr×Operator×Expr):=(biP e).bind λc=>some (c.1,c.2.1,c.2.2.1)
def BI(h:El e=some q):∃pos,e=.BinOp q.1 q.2.1 q.2.2 pos:=by
 obtain⟨c,h1,h⟩:=bQ h;cases h;exact⟨c.2.2.2,qd h1⟩
noncomputable def fnQ(e:Expr):Option (Str×Expr×List Expr):=(rM e).bind λc=>(hdQ c.2).bind λa=>some (c.1,a.1,a.2)
def ue(h:fnQ e=some q):∃p pos,e=.Call (.Name q.1 p) (q.2.1::q.2.2) [] pos:=by
 obtain⟨c,h1,h⟩:=bQ h;obtain⟨a,h2,h⟩:=bQ h;cases h;obtain⟨p,pos,rfl⟩:=fE h1;exact⟨p,pos,by rw[Eh h2]⟩
noncomputable def Em(e:Expr):Option (List Expr):=(tuP e).bind λc=>some c.1
def BJ(h:Em e=some q):∃j pos,e=.Tuple q j pos:=by
 obtain⟨c,h1,h⟩:=bQ h;cases h;exact⟨c.2.1,c.2.2,t9 h1⟩
noncomputable def Eo(e:Expr):Option (List Expr):=(liP e).bind λc=>some c.1
def BK(h:Eo e=some q):∃pos,e=.List q pos:=by
 obtain⟨c,h1,h⟩:=bQ h;cases h;exact⟨c.2,qe h1⟩
noncomputable def Ep(e:Expr):Option (Str×Expr×Expr):=(rM e).bind λc=>(yQ c.2).bind λa=>some (c.1,a.1,a.2)
def BL(h:Ep e=some q):∃p pos,e=.Call (.Name q.1 p) [q.2.1,q.2.2] [] pos:=by
 obtain⟨c,h1,h⟩:=bQ h;obtain⟨a,h2,h⟩:=bQ h;cases h;obtain⟨p,pos,rfl⟩:=fE h1;exact⟨p,pos,by rw[l7 h2]⟩
mutual
noncomputable def c8(T:Tab):XE->List Str->Scope->Expr->Bool
 | .pure e,N,sc,x=>chk T e N sc x&&!aK e&&bR x
 | .call f mask es,N,sc,x=>fG T f mask es N sc x
 | .pop i,N,sc,x=>onQ (Ek x) λq=>aW N sc i q.1&&q.2.1==("pop":Str)&&q.2.2.1.endLine==q.2.2.2.line
 | .bin op a b,N,sc,x=>onQ (El x) λq=>q.2.1==ua op&&c8 T a N sc q.1&&chk T b N sc q.2.2
 | .fn g a es,N,sc,x=>onQ (fnQ x) λq=>T.fs[g]?==some q.1&&glB sc q.1&&aq q.1&&c8 T a N sc q.2.1&&ah q.2.1&&chks T es N sc q.2.2
 | .tup xs,N,sc,x=>onQ (Em x) λq=>chkXEs T xs N sc q
 | .lst xs,N,sc,x=>onQ (Eo x) λq=>chkXEs T xs N sc q
 | .fn2 g e a,N,sc,x=>onQ (Ep x) λq=>T.fs[g]?==some q.1&&glB sc q.1&&aq q.1&&chk T e N sc q.2.1&&!aK e&&ah q.2.1&&c8 T a N sc q.2.2&&ah q.2.2
 | .tupOf a,N,sc,x=>onQ (fnQ x) λq=>q.1==("tuple":Str)&&glB sc q.1&&q.2.2.isEmpty&&c8 T a N sc q.2.1&&ah q.2.1
 | .compS src js k e f mask es,N,sc,x=>onQ (y_ x) λc=>fF sc N c.2.1 c.2.2.1 (dA N js) js&&m5 sc false (λxs=>chks T [src] N sc xs) .seq c.2.2.2&&!aK src&&y9 T k e f mask es (c.2.2.1::dA N js) (lV c.2.1 sc) c.1&&decide js.Nodup
noncomputable def chkXEs(T:Tab):List XE->List Str->Scope->List Expr->Bool
 | [],_,_,[]=>true
 |x::xs,N,sc,e::es=>c8 T x N sc e&&ah e&&chkXEs T xs N sc es
 | _,_,_,_=>false
end
noncomputable def oG(s:Stmt):Option (Str×Pos×Expr):=(asP s).bind λc=>(j5 c.1).bind λu=>(nmP u).bind λx=>some (x.1,x.2,c.2.1)
def i4(h:oG s=some q):∃pos,s=.Assign [.Name q.1 q.2.1] q.2.2 pos:=by
 obtain⟨c,h1,h⟩:=bQ h;obtain⟨u,h2,h⟩:=bQ h;obtain⟨x,z,h⟩:=bQ h;cases h;exact⟨c.2.2,by rw[yU h1,cN h2,d8 z]⟩
noncomputable def zb(s:Stmt):Option (Str×Str×Pos×List Expr×Pos):=(exP s).bind λa=>maN a.1
def qh(h:zb s=some q):∃p pos,s=.Expr (.Call (.Attribute (.Name q.1 p) q.2.1 q.2.2.1) q.2.2.2.1 [] q.2.2.2.2) pos:=by
 obtain⟨x,h1,h⟩:=bQ h;obtain⟨p,e⟩:=yV h;exact⟨p,x.2,by rw[Ee h1,e]⟩
noncomputable def GU(s:Stmt):Option (Str×Expr×Expr):=(asP s).bind λc=>(j5 c.1).bind λu=>(suP u).bind λw=>(nmP w.1).bind λx=>some (x.1,w.2.1,c.2.1)
def BM(h:GU s=some q):∃p sp pos,s=.Assign [.Subscript (.Name q.1 p) q.2.1 sp] q.2.2 pos:=by
 refine az λY z=>?_
 obtain⟨c,h1,h⟩:=bQ h;obtain⟨u,h2,h⟩:=bQ h;obtain⟨w,J,h⟩:=bQ h;obtain⟨x,U,h⟩:=bQ h;cases h;refine z ?_;exact⟨x.2,w.2.2,c.2.2,by rw[yU h1,cN h2,m4 J,d8 U]⟩
noncomputable def wM(s:Stmt):Option (Expr):=(reP s).bind λc=>c.1
def l9(h:wM s=some v):∃pos,s=.Return (some v) pos:=by
 obtain⟨c,h1,h⟩:=bQ h;exact⟨c.2,by rw[Ef h1,h]⟩
noncomputable def CW(e:Expr):Option (Str):=(nmP e).bind λx=>some x.1
def zc(h:CW e=some x):∃p,e=.Name x p:=by
 obtain⟨x,h1,h⟩:=bQ h;cases h;exact⟨x.2,d8 h1⟩
noncomputable def CY(e:Expr):Bool:=onQ (diP e) λd=>d.1.isEmpty&&d.2.1.isEmpty
def zd(h:CY e=true):∃p,e=.Dict [] [] p:=by
 replace h:=ak h
 obtain⟨d,h1,h⟩:=h;obtain⟨h2,z⟩:=mu.mp h;exact⟨d.2.2,by rw[yX h1,KN.mp h2,KN.mp z]⟩
mutual
noncomputable def gr(T:Tab)(N:List Str)(sc:Scope):MS->Stmt->Bool
 | .set i e,s0=>onQ (oG s0) λq=>N[i]?==some q.1&&fu sc q.1&&aq q.1&&chk T e N sc q.2.2&&!aK e&&(bR q.2.2||o_ sc q.1 q.2.1 q.2.2 e)
 | .setOwn i e,s0=>onQ (oG s0) λq=>N[i]?==some q.1&&fu sc q.1&&aq q.1&&chk T e N sc q.2.2&&iJ e&&(bR q.2.2||o_ sc q.1 q.2.1 q.2.2 e)
 | .append i e,s0=>onQ (zb s0) λq=>onQ (j5 q.2.2.2.1) λv=>aW N sc i q.1&&q.2.1==("append":Str)&&chk T e N sc v&&!aK e&&ah v&&q.2.2.1.endLine==q.2.2.2.2.line
 | .extend i e,s0=>onQ (zb s0) λq=>onQ (j5 q.2.2.2.1) λv=>aW N sc i q.1&&q.2.1==("extend":Str)&&chk T e N sc v&&ah v&&q.2.2.1.endLine==q.2.2.2.2.line
 | .setIdx _ _ _,_=>false
 | .unpack _ _,_=>false
 | .ite c a b,s0=>(match s0 with|.If t x y _=>chk T c N sc t&&chkSs T N sc a x&&chkSs T N sc b y|_=>false)
 | .for1 i k src body,s0=>(match s0 with|.For (.Name x _) it b [] _=>N[i]?==some x&&fu sc x&&aq x&&m5 sc false (λxs=>chks T src N sc xs) k it&&chkSs T N sc body b|_=>false)
 | .forT is k src body,s0=>(match s0 with|.For (.Tuple z _ _) it b [] _=>dJ N sc is z&&m5 sc true (λxs=>chks T src N sc xs) k it&&chkSs T N sc body b|_=>false)
 | .ret e,s0=>onQ (wM s0) λv=>chk T e N sc v&&!aK e
 | .retOwn i,s0=>onQ (wM s0) λv=>onQ (CW v) λx=>aW N sc i x
 | .retM e,s0=>onQ (wM s0) λv=>chk T e N sc v&&!aK e
 | .setP i e,s0=>onQ (oG s0) λq=>N[i]?==some q.1&&fu sc q.1&&aq q.1&&onQ (Ej q.2.2) λr=>r.1==("list":Str)&&r.2.1==("reversed":Str)&&glB sc r.1&&glB sc r.2.1&&chk T e N sc r.2.2&&ah r.2.2
 | .setX i x,s0=>onQ (oG s0) λq=>N[i]?==some q.1&&fu sc q.1&&aq q.1&&c8 T x N sc q.2.2&&bR q.2.2
 | .ownX i xs,s0=>onQ (oG s0) λq=>onQ (liP q.2.2) λr=>N[i]?==some q.1&&fu sc q.1&&chkXEs T xs N sc r.1
 | .appX i x,s0=>onQ (zb s0) λq=>onQ (j5 q.2.2.2.1) λv=>aW N sc i q.1&&q.2.1==("append":Str)&&c8 T x N sc v&&ah v&&q.2.2.1.endLine==q.2.2.2.2.line
 | .retXE x,s0=>onQ (wM s0) λv=>c8 T x N sc v
 | .forX i x body,s0=>(match s0 with|.For (.Name y _) it b [] _=>N[i]?==some y&&fu sc y&&aq y&&onQ (fnQ it) (λq=>q.1==("range":Str)&&glB sc q.1&&q.2.2.isEmpty&&c8 T x N sc q.2.1&&ah q.2.1)&&chkSs T N sc body b|_=>false)
 | .never,_=>true
 | .newD _ i,s0=>onQ (oG s0) λq=>CY q.2.2&&(N[i]?==some q.1&&fu sc q.1&&aq q.1)
 | .dput i k e,s0=>onQ (GU s0) λq=>aW N sc i q.1&&chk T k N sc q.2.1&&bW q.2.1&&chk T e N sc q.2.2&&!aK e&&bR q.2.2
 | _,_=>false
noncomputable def chkSs(T:Tab)(N:List Str)(sc:Scope):List MS->List Stmt->Bool
 | [],[]=>true
 | .freeze _::_,_=>false
 |m::ms,s::ss=>gr T N sc m s&&chkSs T N sc ms ss
 | _,_=>false
end
def BN (T) (N) (sc) (i) (x) (body) (s0):gr T N sc (.forX i x body) s0=(match s0 with|.For (.Name y _) it b [] _=>N[i]?==some y&&fu sc y&&aq y&&onQ (fnQ it) (λq=>q.1==("range":Str)&&glB sc q.1&&q.2.2.isEmpty&&c8 T x N sc q.2.1&&ah q.2.1)&&chkSs T N sc body b|_=>false):=rfl
def BO(T)(N)(sc)(i)(k)(src)(body)(s0):gr T N sc (.for1 i k src body) s0=(match s0 with|.For (.Name x _) it b [] _=>N[i]?==some x&&fu sc x&&aq x&&m5 sc false (λxs=>chks T src N sc xs) k it&&chkSs T N sc body b|_=>false):=rfl
def BP(T)(N)(sc)(is)(k)(src)(body)(s0):gr T N sc (.forT is k src body) s0=(match s0 with|.For (.Tuple z _ _) it b [] _=>dJ N sc is z&&m5 sc true (λxs=>chks T src N sc xs) k it&&chkSs T N sc body b|_=>false):=rfl
theorem m8(z:∀x b,f x x=some b->b=true):∀xs {b},eqL f xs xs=some b->b=true
 | [],b,h=>by simp[eqL]at h;exact h
 |x::xs,b,h=>by
  simp only[eqL,gk,p0]at h;obtain⟨p,h1,q,h2,rfl⟩:=h;rw[z x p h1,m8 z xs h2];rfl
theorem j7:∀(n:Nat) (x:PV) {b:Bool},eqF n x x=some b->b=true
 |n,.non,b,h=>by cases n<;>cases h<;>rfl
 |n,.bl x,b,h=>by cases n<;>cases h<;>exact Kd x
 |n,.int x,b,h=>by cases n<;>cases h<;>exact Kd x
 |n,.str x,b,h=>by cases n<;>cases h<;>exact Kd x
 |0,.tup _,b,h=>by cases h
 |0,.lst _,b,h=>by cases h
 |n+1,.tup xs,b,h=>m8 (λx b=>j7 n x) xs h
 |n+1,.lst xs,b,h=>m8 (λx b=>j7 n x) xs ((if_pos rfl).symm.trans h)
 |n,.dI _,b,h=>by cases n<;>cases h
def fR{n:Nat}{x y:PV}{b:Bool}(h:eqF n x y=some b):isD x=false/\isD y=false:=by
 cases x<;>cases y<;>first|exact⟨rfl,rfl⟩|(cases n<;>cases h)
noncomputable def Er:PV->Bool
 | .tup _=>true
 | .lst _=>true
 | _=>false
def fH{n:Nat}{x y:PV}{b:Bool}(h:eqF n x y=some b)(e:Er x=!Er y):b=false:=by
 cases x<;>cases y<;>first|(cases e;done)|(cases n<;>cases h<;>rfl)
theorem j8 :∀xs ys {b},eqL f xs ys=some b ->
  (∀(j:Nat) x y,xs[j]?=some x->ys[j]?=some y->∃c,f x y=some c) /\
   b=((range (min xs.length ys.length)).all (λj=>(f (xs.getD j .non) (ys.getD j .non)).getD false)&&xs.length==ys.length)
 | [],[],b,h=>by simp[eqL]at h;subst h;simp
 | [],y::ys,b,h=>by simp[eqL]at h;subst h;simp
 |x::xs,[],b,h=>by simp[eqL]at h;subst h;simp
 |x::xs,y::ys,b,h=>by
  simp only[eqL,gk,p0]at h;obtain⟨p,h1,q,h2,rfl⟩:=h;obtain⟨z,J⟩:=j8 xs ys h2;refine⟨λj Z y' U Y=>?_,?_⟩
  .cases j with
   |zero=>simp at U Y;subst U Y;exact⟨p,h1⟩
   |succ j=>exact z j Z y' (by simpa using U) (by simpa using Y)
  .rw[J];have hm:min (x::xs).length (y::ys).length=min xs.length ys.length+1:=by simp only[length_cons];omega
   rw[hm,range_succ_eq_map,all_cons,LQ];have hl:((x::xs).length==(y::ys).length)=(xs.length==ys.length):=by
    simp_all
   rw[hl,Bool.and_assoc];simp only[getD_cons_zero,h1,getD_some,Function.comp_def,getD_cons_succ]
theorem vq :∀xs {b},inL f xs=some b->(∀x∈xs,∃c,f x=some c)/\b=xs.any λx=>(f x).getD false
 | [],b,h=>by simp[inL]at h;subst h;simp
 |x::xs,b,h=>by
  simp only[inL,gk,p0]at h;obtain⟨p,h1,q,h2,rfl⟩:=h;obtain⟨z,U⟩:=vq xs h2;refine⟨λy J=>?_,?_⟩
  .rcases Jp.mp J with rfl|J
   .exact⟨p,h1⟩
   .exact z y J
  .simp_all
section
variable{X:Cx}{pins:List (Addr×Obj)}{σ:St}{H:Hp}{s:Shared}
def rS(I:Inv X pins σ H s)(h1:SqL X.K H a xs)(h2:SqT X.K H a ys):False:=by
 obtain⟨its,_,p,_⟩:=I.list h1;obtain⟨z,_,q,_⟩:=I.tuple h2;exact SeqAt.ne_of_list_tuple p.isList (show s.heap.IsTuple a z.toArray from q) rfl
def qi(h:RdD H a d):IsD H a:=by
 cases d<;>first|exact .inl ⟨_,h.rd⟩|exact .inr ⟨_,h.rd⟩|exact absurd h.2 pb
def l_(I:Inv X pins σ H s)(h1:SqL X.K H a xs\/SqT X.K H a xs)(h2:RdD H a d):False:=by
 obtain⟨o,ho,hc⟩:=(tK I (qi h2)).1;rcases h1 with h1|h1
 .obtain⟨its,_,p,_⟩:=I.list h1;obtain⟨o',z,J,_⟩:=p.isList;rw[ho]at z;cases z;rw[hc]at J;exact absurd J (by decide)
 .obtain⟨its,_,⟨o',z,J,_⟩,_⟩:=I.tuple h1;rw[ho]at z;cases z;rw[hc]at J;exact absurd J (by decide)
def Sc.v_inj:∀{a b:Sc},a.v=b.v->a=b:=by
 intro a b h;cases a<;>cases b<;>simp[Sc.v]at h ⊢<;>exact h
theorem rT:∀{a b},gq a=gq b->a=b
 | [],[],_=>rfl
 | [],_::_,h=>by cases h
 | _::_,[],h=>by cases h
 | (k,v)::a,(J,U)::b,h=>by
  simp[gq,Jq,Prod.mk.injEq]at h;obtain⟨⟨h1,h2⟩,z⟩:=h;rw[h1,Sc.v_inj h2,rT z]
theorem mf:∀{a b:List Int},(a.map Sum.inl:List Key)=b.map Sum.inl->a=b
 | [],[],_=>rfl
 | [],_::_,h=>by cases h
 | _::_,[],h=>by cases h
 |x::a,y::b,h=>by
  simp[Lp]at h;rw[h.1,mf h.2]
theorem rU:∀{a b},jB a=jB b->a=b
 | [],[],_=>rfl
 | [],_::_,h=>by cases h
 | _::_,[],h=>by cases h
 | (k,v)::a,(J,U)::b,h=>by
  simp[jB,Jq]at h;obtain⟨⟨h1,h2⟩,z⟩:=h;rw[mf h1,Sc.v_inj h2,rU z]
theorem m_:∀{a b:List Int},a.map V.int=b.map V.int->a=b
 | [],[],_=>rfl
 | [],_::_,h=>by cases h
 | _::_,[],h=>by cases h
 |x::a,y::b,h=>by
  simp only[Jq,Lp]at h;rw[V.int.inj h.1,m_ h.2]
def rV(h:iH a=iH b):a=b:=by
 cases a<;>cases b<;>first
  | (cases h;done)
  | (rw[rT (HO.dK.inj h)];done)
  | (rw[rU (HO.dT.inj h)];done)
  | rw[m_ (HO.lst.inj h)]
def Es(h:RdD H a x)(g:RdD H a y):x=y:=by
 have h:=h.rd;have g:=g.rd;have ne:∀x o u,iH x≠.frz o u:=λx o u e=>by cases x<;>cases e
 rcases h with h|⟨o,h⟩<;>rcases g with g|⟨o',g⟩
 .rw[h]at g;exact rV (Jv g)
 .rw[h]at g;exact absurd (Jv g) (ne x _ _)
 .simp_all
 .rw[h]at g;exact rV (HO.frz.inj (Jv g)).2
mutual
theorem mh(I:Inv X pins σ H s):∀(x y:PV) {u:V},Rep X.K H x u->Rep X.K H y u->x=y
 | .non,y,u,h,g=>by rw[Rep]at h;subst h;cases y<;>simp[Rep]at g ⊢
 | .bl b,y,u,h,g=>by rw[Rep]at h;subst h;cases y<;>simp[Rep]at g ⊢;exact g
 | .int b,y,u,h,g=>by rw[Rep]at h;subst h;cases y<;>simp[Rep]at g ⊢;exact g
 | .str b,y,u,h,g=>by rw[Rep]at h;subst h;cases y<;>simp[Rep]at g ⊢;exact g
 | .tup xs,y,u,h,g=>by
  rw[Rep]at h;obtain⟨a,us,rfl,q,r⟩:=h;cases y with
  |tup ys =>
   rw[Rep]at g;obtain⟨b,vs,e,z,J⟩:=g;cases e;have:=I.tuple_inj (d7 q) (d7 z);subst this;rw[reps_inj I xs ys r J]
  |lst ys =>
   rw[Rep]at g;obtain⟨b,vs,e,z,J⟩:=g;cases e;exact(rS I z (d7 q)).elim
  |dI kvs =>
   rw[Rep]at g;obtain⟨b,e,z⟩:=g;cases e;exact(l_ I (.inr (d7 q)) z).elim
  | _=>simp[Rep]at g
 | .lst xs,y,u,h,g=>by
  rw[Rep]at h;obtain⟨a,us,rfl,q,r⟩:=h;cases y with
  |lst ys =>
   rw[Rep]at g;obtain⟨b,vs,e,z,J⟩:=g;cases e;have:=I.list_inj q z;subst this;rw[reps_inj I xs ys r J]
  |tup ys =>
   rw[Rep]at g;obtain⟨b,vs,e,z,J⟩:=g;cases e;exact(rS I q (d7 z)).elim
  |dI kvs =>
   rw[Rep]at g;obtain⟨b,e,z⟩:=g;cases e;exact(l_ I (.inl q) z).elim
  | _=>simp[Rep]at g
 | .dI kvs,y,u,h,g=>by
  rw[Rep]at h;obtain⟨a,rfl,q⟩:=h;cases y with
  |dI ks =>
   rw[Rep]at g;obtain⟨b,e,z⟩:=g;cases e;rw[Es q z]
  |tup ys =>
   rw[Rep]at g;obtain⟨b,vs,e,z,J⟩:=g;cases e;exact(l_ I (.inr (d7 z)) q).elim
  |lst ys =>
   rw[Rep]at g;obtain⟨b,vs,e,z,J⟩:=g;cases e;exact(l_ I (.inl z) q).elim
  | _=>simp[Rep]at g
theorem reps_inj(I:Inv X pins σ H s):∀(xs ys:List PV) {us:List V},Reps X.K H xs us->Reps X.K H ys us->xs=ys
 | [],ys,us,h,g=>by
  rw[Reps]at h;subst h
  cases ys with
  |nil=>rfl
  |cons y ys=>rw[Reps]at g;obtain⟨_,_,e,_⟩:=g;cases e
 |x::xs,ys,us,h,g=>by
  rw[Reps]at h;obtain⟨u,r,rfl,q,t⟩:=h;cases ys with
  |nil=>rw[Reps]at g;cases g
  |cons y ys =>
   rw[Reps]at g;obtain⟨J,U,e,z,t'⟩:=g;cases e;rw[mh I x y q z,reps_inj I xs ys t t']
end
def Rep.tupAt(I:Inv X pins σ H s)(h:Rep X.K H (.tup xs) u)(r:aD u v) :
  ∃a us its,u=.ref a/\v=.ref a/\Reps X.K H xs us/\aG us its/\s.heap.IsTuple a its.toArray/\xs.length=its.length:=by
 obtain⟨a,us,rfl,q,t⟩:=h;obtain⟨its,z,p,_⟩:=I.tuple (d7 q);exact⟨a,us,its,rfl,r,t,z,p,t.length.trans z.length⟩
def Rep.lstAt(I:Inv X pins σ H s)(h:Rep X.K H (.lst xs) u)(r:aD u v) :
  ∃a us its,u=.ref a/\v=.ref a/\Reps X.K H xs us/\aG us its/\s.heap.IsList a its.toArray/\xs.length=its.length:=by
 obtain⟨a,us,rfl,q,t⟩:=h;obtain⟨its,z,p,_⟩:=I.list q;exact⟨a,us,its,rfl,r,t,z,p.isList,t.length.trans z.length⟩
def j9{A:Around}(ih:∀x y {Y Z}{J U}{b}{A},A.units+n<cLine->eqF n x y=some b->Rep X.K H x Y->Rep X.K H y Z->aD Y J->aD Z U->SeqAt.EqAt A s J U b)
  (hu:A.units+(n+1)<cLine) (rx:Reps X.K H xs us) (ry:Reps X.K H ys ws) (J:aG us its) (U:aG ws z)
  (hs:∀(j:Nat) x y,xs[j]?=some x->ys[j]?=some y->∃c,eqF n x y=some c) :
  ∀j (h1:j<its.toArray.size) (h2:j<z.toArray.size),SeqAt.EqAt A.in1 s its.toArray[j] z.toArray[j] ((eqF n (xs.getD j .non) (ys.getD j .non)).getD false):=λj h1 h2=>by
 refine az λZq kq=>?_
 have l1:=rx.length.trans J.length;have l2:=ry.length.trans U.length;simp[r4]at h1 h2;have e1:xs[j]?=some xs[j]:=Jy (by omega);have e2:ys[j]?=some ys[j]:=Jy (by omega);obtain⟨Y,q1,p1⟩:=rx.get e1;obtain⟨Z,q2,p2⟩:=ry.get e2;obtain⟨wx,q3,p3⟩:=J.get q1;obtain⟨wy,q4,p4⟩:=U.get q2;obtain⟨c,hc⟩:=hs j _ _ e1 e2;have d1:xs.getD j .non=xs[j]:=by simp[List.getD,e1]
 have d2:ys.getD j .non=ys[j]:=by simp[List.getD,e2]
 have g1:its.toArray[j]=wx:=by
  simp_all
 have g2:z.toArray[j]=wy:=by
  simp_all
 refine kq ?_;rw[d1,d2,hc,g1,g2];exact ih _ _ (show A.units+1+n<cLine by omega) hc p1 p2 p3 p4
def BQ{A:Around}{n:Nat}(I:Inv X pins σ H s)(ih:∀(x y:PV) {z J:V}{U Y:Value}{b:Bool}{A:Around},A.units+n<cLine->eqF n x y=some b->Rep X.K H x z->Rep X.K H y J->aD z U->aD J Y->SeqAt.EqAt A s U Y b)
  (hu:A.units+(n+1)<cLine):(∀{xs ys:List PV}{z J:V}{U Y:Value}{b:Bool},eqF (n+1) (.tup xs) (.tup ys)=some b->Rep X.K H (.tup xs) z->Rep X.K H (.tup ys) J->aD z U->aD J Y->SeqAt.RcAt A s U Y b) /\
   (∀{xs ys:List PV}{z J:V}{U Y:Value}{b:Bool},eqF (n+1) (.lst xs) (.lst ys)=some b->Rep X.K H (.lst xs) z->Rep X.K H (.lst ys) J->aD z U->aD J Y->SeqAt.RcAt A s U Y b):=by
 refine⟨λ{xs ys z J U Y b} h rx ry r1 r2=>?_,λ{xs ys z J U Y b} h rx ry r1 r2=>?_⟩
 .obtain⟨a,us,its,rfl,rfl,t1,w1,p1,l1⟩:=rx.tupAt I r1;obtain⟨c,ws,Z,rfl,rfl,t2,w2,p2,l2⟩:=ry.tupAt I r2;have h:eqL (eqF n) xs ys=some b:=h;obtain⟨hs,hb⟩:=j8 xs ys h;have q:=SeqAt.RcAt.tuples (A:=A) p1 p2 (by omega) (j9 ih hu t1 t2 w1 w2 hs);rw[hb];simpa[l1,l2]using q
 .obtain⟨a,us,its,rfl,rfl,t1,w1,p1,l1⟩:=rx.lstAt I r1;obtain⟨c,ws,Z,rfl,rfl,t2,w2,p2,l2⟩:=ry.lstAt I r2;have h:(if xs.length=ys.length then eqL (eqF n) xs ys else some false)=some b:=h;by_cases hl:xs.length=ys.length
  .rw[if_pos hl]at h;obtain⟨hs,hb⟩:=j8 xs ys h;have q:=SeqAt.RcAt.lists (A:=A) p1 p2 (by simp only[r4];omega) (by omega) (j9 ih hu t1 t2 w1 w2 hs);rw[hb,hl,Nat.min_self];simpa[<- l1,hl]using q
  .rw[if_neg hl]at h;cases h;exact SeqAt.RcAt.lists_lengths (A:=A) p1 p2 (by simp only[r4,bne_iff_ne];omega) (by omega)
def cI(hd:isD x=false)(h:Rep X.K H x u):(∃xs,x=.tup xs)\/(∃xs,x=.lst xs)\/iB u=true:=by
 cases x with
 |dI _=>cases hd
 |tup xs=>exact .inl ⟨xs,rfl⟩
 |lst xs=>exact .inr (.inl ⟨xs,rfl⟩)
 | _=>rw[Rep]at h;subst h;exact .inr (.inr rfl)
def g7(z:A.units<cLine)(f:iB u=true)(r:aD u v)(p:s.heap.IsTuple a its) :
  SeqAt.EqAt A s v (.ref a) false/\SeqAt.EqAt A s (.ref a) v false/\SeqAt.RcAt A s v (.ref a) false/\SeqAt.RcAt A s (.ref a) v false:=by
 cases u with
 |non=>cases r;exact⟨.none_tuple p z,.tuple_none p z,.none_tuple p z,.tuple_none p z⟩
 |bl b=>cases r;exact⟨.bool_tuple b p z,.tuple_bool b p z,.bool_tuple b p z,.tuple_bool b p z⟩
 |int b=>obtain⟨t,rfl⟩:=r;exact⟨.int_tuple b t p z,.tuple_int b t p z,.int_tuple b t p z,.tuple_int b t p z⟩
 |str b=>obtain⟨t,rfl⟩:=r;exact⟨.str_tuple b t p z,.tuple_str b t p z,.str_tuple b t p z,.tuple_str b t p z⟩
 | _=>exact absurd (show false=true from f) pb
def i5(z:A.units<cLine)(f:iB u=true)(r:aD u v)(p:s.heap.IsList a its) :
  SeqAt.EqAt A s v (.ref a) false/\SeqAt.EqAt A s (.ref a) v false/\SeqAt.RcAt A s v (.ref a) false/\SeqAt.RcAt A s (.ref a) v false:=by
 cases u with
 |non=>cases r;exact⟨.none_list p z,.list_none p z,.none_list p z,.list_none p z⟩
 |bl b=>cases r;exact⟨.bool_list b p z,.list_bool b p z,.bool_list b p z,.list_bool b p z⟩
 |int b=>obtain⟨t,rfl⟩:=r;exact⟨.int_list b t p z,.list_int b t p z,.int_list b t p z,.list_int b t p z⟩
 |str b=>obtain⟨t,rfl⟩:=r;exact⟨.str_list b t p z,.list_str b t p z,.str_list b t p z,.list_str b t p z⟩
 | _=>exact absurd (show false=true from f) pb
def ze(J:aD y u)(z:aD x v)(Y:iB y=true)(U:iB x=true):SeqAt.RcAt A s u v (eqV y x):=by
 cases y with
 |non =>
  cases J;cases x with
  |non=>cases z;exact SeqAt.RcAt.none_none
  |bl b=>cases z;exact SeqAt.RcAt.none_bool b
  |int b=>obtain⟨t,rfl⟩:=z;exact SeqAt.RcAt.none_int b t
  |str b=>obtain⟨t,rfl⟩:=z;exact SeqAt.RcAt.none_str b t
  | _=>exact absurd (show false=true from U) pb
 |bl a =>
  cases J;cases x with
  |non=>cases z;exact SeqAt.RcAt.bool_none a
  |bl b=>cases z;exact SeqAt.RcAt.bool_bool a b
  |int b=>obtain⟨t,rfl⟩:=z;exact SeqAt.RcAt.bool_int a b t
  |str b=>obtain⟨t,rfl⟩:=z;exact SeqAt.RcAt.bool_str a b t
  | _=>exact absurd (show false=true from U) pb
 |int a =>
  obtain⟨t',rfl⟩:=J;cases x with
  |non=>cases z;exact SeqAt.RcAt.int_none a t'
  |bl b=>cases z;exact SeqAt.RcAt.int_bool a t' b
  |int b=>obtain⟨t,rfl⟩:=z;exact SeqAt.RcAt.int_int a t' b t
  |str b=>obtain⟨t,rfl⟩:=z;exact SeqAt.RcAt.int_str a t' b t
  | _=>exact absurd (show false=true from U) pb
 |str a =>
  obtain⟨t',rfl⟩:=J;cases x with
  |non=>cases z;exact SeqAt.RcAt.str_none a t'
  |bl b=>cases z;exact SeqAt.RcAt.str_bool a t' b
  |int b=>obtain⟨t,rfl⟩:=z;exact SeqAt.RcAt.str_int a t' b t
  |str b=>obtain⟨t,rfl⟩:=z;exact SeqAt.RcAt.str_str a t' b t
  | _=>exact absurd (show false=true from U) pb
 | _=>exact absurd (show false=true from Y) pb
def nc{n:Nat}{x y:PV}{u v:V}{b:Bool}(z:Rep X.K H x u)(J:Rep X.K H y v)(U:iB u=true)(Y:iB v=true)(h:eqF n x y=some b):b=eqV u v:=by
 cases x<;>cases y<;>simp only[Rep]at z J
 all_goals first
  | (obtain⟨_,_,rfl,_⟩:=z;exact absurd (show false=true from U) pb)
  | (obtain⟨_,_,rfl,_⟩:=J;exact absurd (show false=true from Y) pb)
  | (obtain⟨_,rfl,_⟩:=z;exact absurd (show false=true from U) pb)
  | (obtain⟨_,rfl,_⟩:=J;exact absurd (show false=true from Y) pb)
  | (subst z J;cases n<;>cases h<;>rfl)
def fI{y:PV}{v:V}(r:Rep X.K H y v)(f:iB v=true):Er y=false:=by
 cases y with
 |tup _=>obtain⟨_,_,rfl,_⟩:=r;cases f
 |lst _=>obtain⟨_,_,rfl,_⟩:=r;cases f
 | _=>rfl
def qj(I:Inv X pins σ H s):∀(n:Nat) (x y:PV) {ux uy:V}{vx vy:Value}{b:Bool}{A:Around},A.units+n<cLine->eqF n x y=some b->Rep X.K H x ux->Rep X.K H y uy->aD ux vx->aD uy vy ->
  SeqAt.EqAt A s vx vy b/\SeqAt.RcAt A s vx vy b:=by
 intro n
 induction n with
 |zero =>
  intro x y ux uy vx vy b A hu h rx U r1 Y;have z:A.units<cLine:=by omega
  rcases cI (fR h).1 rx with⟨xs,rfl⟩|⟨xs,rfl⟩|fx
  .obtain⟨a,us,its,rfl,rfl,t1,w1,p1,l1⟩:=rx.tupAt I r1;rcases cI (fR h).2 U with⟨ys,rfl⟩|⟨ys,rfl⟩|Z
   .cases h
   .obtain⟨c,ws,J,rfl,rfl,t2,w2,p2,l2⟩:=U.lstAt I Y;cases h;exact⟨.tuple_list p1 p2 z,.tuple_list p1 p2 z⟩
   .obtain⟨z1,z2,z3,z4⟩:=g7 z Z Y p1;have:b=false:=fH h (by rw[fI U Z];rfl);subst this;exact⟨z2,z4⟩
  .obtain⟨a,us,its,rfl,rfl,t1,w1,p1,l1⟩:=rx.lstAt I r1;rcases cI (fR h).2 U with⟨ys,rfl⟩|⟨ys,rfl⟩|Z
   .obtain⟨c,ws,J,rfl,rfl,t2,w2,p2,l2⟩:=U.tupAt I Y;cases h;exact⟨.list_tuple p1 p2 z,.list_tuple p1 p2 z⟩
   .cases h
   .obtain⟨z1,z2,z3,z4⟩:=i5 z Z Y p1;have:b=false:=fH h (by rw[fI U Z];rfl);subst this;exact⟨z2,z4⟩
  .rcases cI (fR h).2 U with⟨ys,rfl⟩|⟨ys,rfl⟩|Z
   .obtain⟨c,ws,J,rfl,rfl,t2,w2,p2,l2⟩:=U.tupAt I Y;obtain⟨z1,z2,z3,z4⟩:=g7 z fx r1 p2;have:b=false:=fH h (by rw[fI rx fx];rfl);subst this;exact⟨z1,z3⟩
   .obtain⟨c,ws,J,rfl,rfl,t2,w2,p2,l2⟩:=U.lstAt I Y;obtain⟨z1,z2,z3,z4⟩:=i5 z fx r1 p2;have:b=false:=fH h (by rw[fI rx fx];rfl);subst this;exact⟨z1,z3⟩
   .rw[nc rx U fx Z h];exact⟨xY r1 Y fx Z,ze r1 Y fx Z⟩
 |succ n ih =>
  intro x y ux uy vx vy b A hu h rx U r1 Y;have z:A.units<cLine:=by omega
  obtain⟨kt,kl⟩:=BQ I (λx y {_ _ _ _ _ _} a1 a2 a3 a4 a5 a6=>(ih x y a1 a2 a3 a4 a5 a6).1) hu;rcases cI (fR h).1 rx with⟨xs,rfl⟩|⟨xs,rfl⟩|fx
  .obtain⟨a,us,its,e1,a7,t1,w1,p1,l1⟩:=rx.tupAt I r1;rcases cI (fR h).2 U with⟨ys,rfl⟩|⟨ys,rfl⟩|Z
   .have q:=kt h rx U r1 Y;obtain⟨c,ws,J,e2,a8,t2,w2,p2,l2⟩:=U.tupAt I Y;subst e1 a7 e2 a8;refine⟨?_,q⟩;by_cases b3:a=c
    .subst b3;have e:=mh I _ _ rx U;rw[e]at h;rw[j7 _ _ h];exact .same _
    .exact .of_refs b3 q
   .obtain⟨c,ws,J,e2,a8,t2,w2,p2,l2⟩:=U.lstAt I Y;subst e1 a7 e2 a8;cases h;exact⟨.tuple_list p1 p2 z,.tuple_list p1 p2 z⟩
   .subst e1 a7;obtain⟨z1,z2,z3,z4⟩:=g7 z Z Y p1;have:b=false:=fH h (by rw[fI U Z];rfl);subst this;exact⟨z2,z4⟩
  .obtain⟨a,us,its,e1,a7,t1,w1,p1,l1⟩:=rx.lstAt I r1;rcases cI (fR h).2 U with⟨ys,rfl⟩|⟨ys,rfl⟩|Z
   .obtain⟨c,ws,J,e2,a8,t2,w2,p2,l2⟩:=U.tupAt I Y;subst e1 a7 e2 a8;cases h;exact⟨.list_tuple p1 p2 z,.list_tuple p1 p2 z⟩
   .have q:=kl h rx U r1 Y;obtain⟨c,ws,J,e2,a8,t2,w2,p2,l2⟩:=U.lstAt I Y;subst e1 a7 e2 a8;refine⟨?_,q⟩;by_cases b3:a=c
    .subst b3;have e:=mh I _ _ rx U;rw[e]at h;rw[j7 _ _ h];exact .same _
    .exact .of_refs b3 q
   .subst e1 a7;obtain⟨z1,z2,z3,z4⟩:=i5 z Z Y p1;have:b=false:=fH h (by rw[fI U Z];rfl);subst this;exact⟨z2,z4⟩
  .rcases cI (fR h).2 U with⟨ys,rfl⟩|⟨ys,rfl⟩|Z
   .obtain⟨c,ws,J,rfl,rfl,t2,w2,p2,l2⟩:=U.tupAt I Y;obtain⟨z1,z2,z3,z4⟩:=g7 z fx r1 p2;have:b=false:=fH h (by rw[fI rx fx];rfl);subst this;exact⟨z1,z3⟩
   .obtain⟨c,ws,J,rfl,rfl,t2,w2,p2,l2⟩:=U.lstAt I Y;obtain⟨z1,z2,z3,z4⟩:=i5 z fx r1 p2;have:b=false:=fH h (by rw[fI rx fx];rfl);subst this;exact⟨z1,z3⟩
   .rw[nc rx U fx Z h];exact⟨xY r1 Y fx Z,ze r1 Y fx Z⟩
end
section
variable{X:Cx}
def Et(hu:X.A.units+101<cLine):OpR X (compareOp .Eq) (λz J H Q=>∃x y b,Rep X.K H x z/\Rep X.K H y J/\eqF 100 x y=some b/\Q (.bl b) H):=by
 intro pins s σ H z J v u Q I U Y h;obtain⟨x,y,b,Z,r2,e,q⟩:=h;exact(qj I 100 x y (by omega) e Z r2 U Y).2 _ _ _ _ ⟨.bl b,H,I,rfl,q⟩
def Eu(hu:X.A.units+101<cLine):OpR X (compareOp .NotEq) (λux uy H Q=>∃x y b,Rep X.K H x ux/\Rep X.K H y uy/\rH x y=true/\eqF 100 x y=some b/\Q (.bl (!b)) H):=by
 intro pins s σ H ux uy v u Q I rx ry h;obtain⟨x,y,b,Y,r2,ok,e,q⟩:=h;rcases cI (fR e).1 Y with⟨xs,rfl⟩|⟨xs,rfl⟩|fx
 .cases y with
  |tup ys =>
   refine az λZq kq=>?_
   obtain⟨a,us,its,rfl,rfl,t1,w1,p1,l1⟩:=Y.tupAt I rx;obtain⟨c,ws,U,rfl,rfl,t2,w2,p2,l2⟩:=r2.tupAt I ry;have e:eqL (eqF 99) xs ys=some b:=e;obtain⟨hs,hb⟩:=j8 xs ys e;obtain⟨⟨cls,dd,data,sl⟩,ho,hc,n,hd⟩:=id p1;obtain⟨⟨b2,aO,data2,a0⟩,J,Z,n2,ao⟩:=id p2;simp only at hc hd Z ao;subst hc hd Z ao;refine kq ?_;refine K3 (op:=.NotEq) ⟨_,ho,rfl⟩ ⟨_,J,rfl⟩ PySem.F.slot_tuple_ne PySem.F.entry_tuple_ne (PySem.F.args_tuple_ne_2 _ _) (SeqAt.tuple_neAt a c its.toArray U.toArray n n2 dd aO sl a0 _)
    ⟨ho,J,j9 (n:=99) (λx y {_ _ _ _ _ _} a1 a2 a3 a4 a5 a6=>(qj I 99 x y a1 a2 a3 a4 a5 a6).1) (by omega) t1 t2 w1 w2 hs,?_⟩ (by omega)
   refine⟨(λx=>nomatch x),⟨.bl (!b),H,I,?_,q⟩⟩;rw[hb];simp[l1,l2,L2.aD]
  | _=>cases ok
 .cases y with
  |lst ys =>
   refine az λZq kq=>?_
   obtain⟨a,us,its,rfl,rfl,t1,w1,p1,l1⟩:=Y.lstAt I rx;obtain⟨c,ws,U,rfl,rfl,t2,w2,p2,l2⟩:=r2.lstAt I ry;have e:(if xs.length=ys.length then eqL (eqF 99) xs ys else some false)=some b:=e;obtain⟨⟨cls,dd,data,sl⟩,ho,hc,n,hd⟩:=id p1;obtain⟨⟨b2,aO,data2,a0⟩,J,Z,n2,ao⟩:=id p2;simp only at hc hd Z ao;subst hc hd Z ao;refine kq ?_;by_cases hl:xs.length=ys.length
   .rw[if_pos hl]at e;obtain⟨hs,hb⟩:=j8 xs ys e;refine K3 (op:=.NotEq) ⟨_,ho,rfl⟩ ⟨_,J,rfl⟩ PySem.F.slot_list_ne PySem.F.entry_list_ne (PySem.F.args_list_ne_2 _ _) (SeqAt.list_neAt a c its.toArray U.toArray n n2 dd aO sl a0 (by simp only[r4];omega) _)
     ⟨ho,J,j9 (n:=99) (λx y {_ _ _ _ _ _} a1 a2 a3 a4 a5 a6=>(qj I 99 x y a1 a2 a3 a4 a5 a6).1) (by omega) t1 t2 w1 w2 hs,?_⟩ (by omega)
    refine⟨(λx=>nomatch x),⟨.bl (!b),H,I,?_,q⟩⟩;rw[hb,hl,Nat.min_self];simp[<- l1,hl,L2.aD]
   .rw[if_neg hl]at e;cases e;refine K3 (op:=.NotEq) ⟨_,ho,rfl⟩ ⟨_,J,rfl⟩ PySem.F.slot_list_ne PySem.F.entry_list_ne (PySem.F.args_list_ne_2 _ _) (SeqAt.list_ne_lengthsAt a c its.toArray U.toArray n n2 dd aO sl a0 (by simp only[r4,bne_iff_ne];omega)) ⟨ho,J,?_⟩ (by omega);exact⟨(λx=>nomatch x),⟨.bl true,H,I,rfl,q⟩⟩
  | _=>cases ok
 .have fy:iB uy=true:=by
   rcases cI (fR e).2 r2 with⟨ys,rfl⟩|⟨ys,rfl⟩|fy
   .cases x<;>cases ok
    obtain⟨_,_,rfl,_⟩:∃a us,ux=V.ref a/\_:=by rw[Rep]at Y;exact Y
    exact absurd (show false=true from fx) pb
   .cases x<;>cases ok
    obtain⟨_,_,rfl,_⟩:∃a us,ux=V.ref a/\_:=by rw[Rep]at Y;exact Y
    exact absurd (show false=true from fx) pb
   .exact fy
  have hb:=nc Y r2 fx fy e;subst hb;refine Gm pins s σ H ux uy v u Q I rx ry ?_;have key:scal ux uy=true/\decide (ux=uy)=eqV ux uy:=by
   cases x<;>cases y<;>simp only[Rep]at Y r2<;>first
    | (obtain⟨_,_,rfl,_⟩:=Y;exact absurd (show false=true from fx) pb)
    | (obtain⟨_,_,rfl,_⟩:=r2;exact absurd (show false=true from fy) pb)
    | (obtain⟨_,rfl,_⟩:=Y;exact absurd (show false=true from fx) pb)
    | (obtain⟨_,rfl,_⟩:=r2;exact absurd (show false=true from fy) pb)
    | (subst Y r2;first|(cases ok;done)|exact⟨rfl,by first|exact uW|exact xO|exact uX|exact JA rfl|exact JQ (λz=>by cases z)⟩)
  exact⟨key.1,by rw[key.2];exact q⟩
def j_(I:Inv X pins σ H s)(hu:X.A.units+101<cLine)(rx:Rep X.K H x ux)(r1:aD ux vx)(t:Reps X.K H xs us)(w:aG us its)(h:isIn x xs=some b) :
  ∃e,(∀y,y∈its.toArray->SeqAt.EqAt X.A.in1 s y vx (e y))/\its.toArray.any e=b:=by
 obtain⟨h1,h2⟩:=vq xs h
 classical
 have J:∀z u y,aD u y->Rep X.K H z u->∀p:(∃z u,aD u y/\Rep X.K H z u),p.choose=z:=λz u y r q p=>by
  obtain⟨u',r',q'⟩:=p.choose_spec;have e:=r.inj r';subst e;exact mh I _ _ q' q
 refine⟨λy=>if p:∃z u,aD u y/\Rep X.K H z u then(eqF 100 p.choose x).getD false else false,?_,?_⟩
 .intro y hy;refine az λZq kq=>?_
  obtain⟨j,hj,e⟩:=getElem_of_mem (by simpa using hy:y∈its);have ej:its[j]?=some y:=by rw[Jy hj,e]
  have l1:=w.length;obtain⟨U,e1⟩:∃U,us[j]?=some U:=⟨_,Jy (by omega)⟩;obtain⟨wy,e2,Y⟩:=w.get e1;rw[ej]at e2;cases e2;obtain⟨z,e3,Z⟩:=t.get' e1;obtain⟨c,hc⟩:=h1 z (KD e3);have q:=(qj I 100 z x (A:=X.A.in1) (show X.A.units+1+100<cLine by omega) hc Z rx Y r1).1;have p:∃z u,aD u y/\Rep X.K H z u:=⟨z,U,Y,Z⟩;have e4:=J z U y Y Z p;refine kq ?_
  simp_all
 .rw[h2];simp only[any_toArray];clear h h1 h2
  induction xs generalizing us its with
  |nil =>
   rw[Reps]at t;subst t;cases w
   rfl
  |cons z zs ih =>
   rw[Reps]at t;obtain⟨u,r,rfl,q,t⟩:=t;cases w with
   |cons rv w =>
    rename_i y ys;have p:∃z u,aD u y/\Rep X.K H z u:=⟨z,u,rv,q⟩;have e4:=J z u y rv q p;rw[any_cons,any_cons,ih t w];simp only[p,dite_true,e4]
def Ev(U:X.A.units+101<cLine):OpR X (compareOp .In) (λY Z H Q=>∃x xs a us b,Rep X.K H x Y/\Z=.ref a/\(SqL X.K H a us\/SqT X.K H a us)/\Reps X.K H xs us/\isIn x xs=some b/\Q (.bl b) H):=by
 intro pins s σ H Y Z v u Q I rx ry h;obtain⟨x,xs,a,us,b,r1,rfl,z,r2,e,q⟩:=h;cases ry;rcases z with z|z
 .obtain⟨its,r,J,hz⟩:=I.list z;obtain⟨f,h1,h2⟩:=j_ I U r1 rx r2 r e;refine SeqAt.in_listAt f J.isList h1 ?_;rw[h2];exact⟨.bl b,H,I,rfl,q⟩
 .obtain⟨its,r,J,hz⟩:=I.tuple z;obtain⟨f,h1,h2⟩:=j_ I U r1 rx r2 r e;refine SeqAt.in_tupleAt f J h1 ?_;rw[h2];exact⟨.bl b,H,I,rfl,q⟩
def wN(U:X.A.units+101<cLine):OpR X (compareOp .NotIn) (λY Z H Q=>∃x xs a us b,Rep X.K H x Y/\Z=.ref a/\(SqL X.K H a us\/SqT X.K H a us)/\Reps X.K H xs us/\isIn x xs=some b/\Q (.bl (!b)) H):=by
 intro pins s σ H Y Z v u Q I rx ry h;obtain⟨x,xs,a,us,b,r1,rfl,z,r2,e,q⟩:=h;cases ry;rcases z with z|z
 .obtain⟨its,r,J,hz⟩:=I.list z;obtain⟨f,h1,h2⟩:=j_ I U r1 rx r2 r e;refine SeqAt.notIn_listAt f J.isList h1 ?_;rw[h2];exact⟨.bl _,H,I,rfl,q⟩
 .obtain⟨its,r,J,hz⟩:=I.tuple z;obtain⟨f,h1,h2⟩:=j_ I U r1 rx r2 r e;refine SeqAt.notIn_tupleAt f J h1 ?_;rw[h2];exact⟨.bl _,H,I,rfl,q⟩
end
end MM
namespace L2
open PySem PySem.Spec PyProof.Rows List Option
theorem PE.imp(h:PE X e t)(i:∀σ H Q,t' σ H Q->t σ H Q):PE X e t':=λpins s σ H Q I q=>h pins s σ H Q I (i σ H Q q)
theorem PT.imp(h:PT X e t)(i:∀σ H Q,t' σ H Q->t σ H Q):PT X e t':=λpins s σ H Q I q=>h pins s σ H Q I (i σ H Q q)
theorem PA.imp(h:PA X e t)(i:∀σ H Q,t' σ H Q->t σ H Q):PA X e t':=λpos pins s σ H Q I q=>h pos pins s σ H Q I (i σ H Q q)
theorem PS.imp(h:PS X e t)(i:∀D σ H,t' D σ H->t D σ H):PS X e t':=λpins s σ H D I q=>h pins s σ H D I (i D σ H q)
theorem PSs.imp(h:PSs X e t)(i:∀D σ H,t' D σ H->t D σ H):PSs X e t':=λpins s σ H D I q=>h pins s σ H D I (i D σ H q)
theorem PI.imp(h:PI X tg e t)(i:∀σ H R,t' σ H R->t σ H R):PI X tg e t':=λpins s σ H R I q=>h pins s σ H R I (i σ H R q)
end L2
namespace MM
open PySem PySem.Spec PyProof.Rows L2 List Option
noncomputable def jm(H:Hp)(ms:List Addr):Hp:=λb=>if b∈ms then none else H b
def lz(K:Mx)(O:List Addr)(H:Hp):MV->V->Prop
 | .val v,u=>Rep K (av H O) v u
 | .brw xs,u=>∃a us,u=.ref a/\SqL K H a us/\Reps K (av H O) xs us
 | .own _,_=>False
 | .ownD _,_=>False
 | .mutD _,_=>False
 | .brwD kvs,u=>∃a,u=.ref a/\Rd H a (iH kvs)
noncomputable def spM(K:Mx)(cal:Cal)(f:Nat):Sp:=λvs H Q _ =>
 ∃O args r,(∀a∈O,H a≠none)/\Paired (lz K O H) args vs/\cal f args=some r/\∀u H',ai H H'->Rep K (av H' O) r u->Q u H'
noncomputable def spF(K:Mx)(cal:Cal)(f:Nat):Sp:=λvs H Q _ =>
 ∃O args xs,(∀a∈O,H a≠none)/\Paired (lz K O H) args vs/\cal (f+1000) args=some (.lst xs)/\∀p us H',ai H H'->H p=none->H' p=some (.lst us)->Reps K (av H' (p::O)) xs us->Q (.ref p) H'
def Ew(K:Mx)(O:List Addr)(H:Hp):MV->V->Prop
 | .val v,u=>Rep K (av H O) v u
 | .mutD d,u=>∃a,u=.ref a/\DAt K H O a d/\a∈O
 | _,_=>False
inductive cm(K:Mx)(O:List Addr)(H':Hp):List MV->List V->List PV->List Addr->Prop where
 | nil:cm K O H' [] [] [] []
 | mutd {d d':DD}{a:Addr}{as:List MV}{vs:List V}{ds:List PV}{ms:List Addr} (h:DAt K H' O a d') (hn:a∉ms) (t:cm K O H' as vs ds ms):cm K O H' (.mutD d::as) (.ref a::vs) (.dI d'::ds) (a::ms)
 | other {m:MV}{v:V}{as:List MV}{vs:List V}{ds:List PV}{ms:List Addr} (h:∀d,m≠.mutD d) (t:cm K O H' as vs ds ms):cm K O H' (m::as) (v::vs) ds ms
noncomputable def spD(K:Mx)(cal:Cal)(f:Nat):Sp:=λvs H Q _ =>
 ∃O args v ds z ms,(∀a∈O,H a≠none)/\Paired (Ew K O H) args vs/\cm K O H args vs z ms/\cal (f+2000) args=some (.tup (v::ds)) /\
  ∀u H',(∀b o,b∉ms->H b=some o->H' b=some o)->cm K O H' args vs ds ms->Rep K (av H' O) v u->Q u H'
noncomputable def kd:List String:=["len","tuple","list","sorted","any","all","sum","max","min","int","bool","str","isinstance","set","range","enumerate","reversed"
 ]
noncomputable def toV:PV->V
 | .non=>.non
 | .bl b=>.bl b
 | .int i=>.int i
 | .str x=>.str x
 | _=>.non
structure Gf(X:Cx)(T:Tab)(k:Nat)(cal:Cal):Prop where
 calm:X.calm=true
 room:kH k X.A
 fns:∀(f:Nat) (x:Str),T.fs[f]?=some x->∃(fa:Addr) (fd:FuncData) (ps:List Str),X.mg x=some (.ref fa)/\PySem.W.keepIn X.K (.ref fa)=true/\cY X.K fd ps []/\jv X.prog X.w X.K X.mg X.base CX0 k fa fd ps (spM X.K cal f)/\∀l,T.ds[f]?=some l->∃vs,cY X.K fd ps vs/\aG (l.map Sc.v) vs
 blt:∀x∈kd,X.mg (x:Str)=none
 gs:∀p∈T.gs,∃u,X.mg p.1=some u/\aD (toV p.2) u
 fnsF:∀(f:Nat) (x:Str),T.fs[f]?=some x->∃(fa:Addr) (fd:FuncData) (ps:List Str),X.mg x=some (.ref fa)/\PySem.W.keepIn X.K (.ref fa)=true/\cY X.K fd ps []/\jv X.prog X.w X.K X.mg X.base CX0 k fa fd ps (spF X.K cal f)
 fnsD:∀(f:Nat) (x:Str),T.fs[f]?=some x->∃(fa:Addr) (fd:FuncData) (ps:List Str),X.mg x=some (.ref fa)/\PySem.W.keepIn X.K (.ref fa)=true/\cY X.K fd ps []/\jv X.prog X.w X.K X.mg X.base CX0 k fa fd ps (spD X.K cal f)
theorem Gf.units(g:Gf X T k cal):X.A.units+200<cLine:=by have:=g.room.un;omega
def Got(K:Mx)(H:Hp)(O:List Addr)(z:ME)(v:PV)(u:V):Prop:=bA K H O v u/\(aK z=false->Rep K (av H O) v u)
noncomputable def tE(K:Mx)(cal:Cal)(z:ME):TE:=λσ H Q=>∃B E O W v,aE K B E O H W σ/\ev cal z W=some v/\∀u H',ai H H'->Got K H' O z v u->Q u H'
noncomputable def tT(K:Mx)(cal:Cal)(z:ME):TT:=λσ H Q=>∃B E O W b,aE K B E O H W σ/\evB cal z W=some b/\∀H',ai H H'->Q b H'
def IT(K:Mx)(H:Hp)(O:List Addr)(ms:List ME)(vs:List PV)(us:List V):Prop:=Paired (bA K H O) vs us/\((ms.all λm=>!aK m)=true->Reps K (av H O) vs us)
noncomputable def tEs(K:Mx)(cal:Cal)(ms:List ME):TA:=λσ H Q=>∃B E O W vs,aE K B E O H W σ/\evs cal ms W=some vs/\∀us H',ai H H'->IT K H' O ms vs us->Q us H'
noncomputable def tAs(K:Mx)(cal:Cal)(ms:List ME):TA:=λσ H Q=>∃B E O W vs,aE K B E O H W σ/\evA cal ms W=some vs/\∀us H',ai H H'->Paired (lz K O H') vs us->Q us H'
section
variable{K:Mx}{H H':Hp}{O:List Addr}
theorem Got.of(h:Rep K (av H O) v u):Got K H O z v u:=⟨.inl h,λ_=>h⟩
theorem Got.scal(h:∀F,Rep K F v u):Got K H O z v u:=.of (h _)
theorem Got.mono(s:ai H H')(h:Got K H O z v u):Got K H' O z v u:=⟨h.1.mono s,λe=>Rep.mono (am s) _ (h.2 e)⟩
def d9(F)(b):Rep K F (.bl b) (.bl b):=rfl
def bU(F)(b):Rep K F (.int b) (.int b):=rfl
def mi(F)(b):Rep K F (.str b) (.str b):=rfl
def qk(F):Rep K F .non .non:=rfl
def gu(U:∀a∈O,H1 a≠none)(J:H1 p=none)(h:Reps K (av H1 O) xs us):Rep K (av (upd H1 p (.tup us)) O) (.tup xs) (.ref p):=by
 refine⟨p,us,rfl,?_,Reps.mono (am (ay J _)) _ h⟩;rw[ba (λz=>U p z J)];exact ax
def ng(U:∀a∈O,H1 a≠none)(J:H1 p=none)(h:Reps K (av H1 O) xs us):Rep K (av (upd H1 p (.lst us)) O) (.lst xs) (.ref p):=by
 refine⟨p,us,rfl,SqL.of ?_,Reps.mono (am (ay J _)) _ h⟩;rw[ba (λz=>U p z J)];exact ax
def bq(s:ai H H')(h:∀a∈O,H a≠none):∀a∈O,H' a≠none:=λa z e=>h a z (s.free e)
def cy(h:n<=10000):n<=sizeLine:=Js h (by decide)
end
section
variable{X:Cx}{T:Tab}{k:Nat}{cal:Cal}
def GV(h:D8 sc x=true):Vis sc x:=by
 unfold D8 at h;simp[Ju]at h;rcases h with(h|h)|h
 .exact .inl h
 .exact .inr (.inl h)
 .exact .inr (.inr h)
def iK(h:fu sc x=true):Loc sc x:=by
 unfold fu at h;simp[Ju]at h;exact h
def g8 (h:aq x=true):(x==("__debug__":Str))=false/\(x==("__classdict__":Str))=false/\x ≠ "__name__":=by simp_all [aq]
def di(h:glB X.env.scope x=true):Gl X x:=by
 unfold glB at h;simp at h;exact h
def ca(h:aW X.N X.env.scope i x=true):PE X (.Name x pos) (F4 i):=by
 unfold aW at h;simp[oe,Ju]at h;obtain⟨⟨h1,h2⟩,z⟩:=h;obtain⟨p1,p2,_⟩:=g8 z;exact Di h1 (GV h2) p1 p2
def aU{K:Mx}(st:aE K B E O H W σ){i:Nat}(e:(W[i]?).join=some m):∃u,σ[i]?=some (some u)/\eY K B O H m u:=st.slot i m (aF e)
def CZ(h:aW X.N X.env.scope i x=true):PE X (.Name x pos) (tE X.K cal (.var i)):=by
 refine(ca h).imp λσ H Q U=>?_
 obtain⟨B,E,O,W,v,st,z,q⟩:=U;rw[ev]at z;cases J:(W[i]?).join with
 |none=>rw[J]at z;cases z
 |some m =>
  rw[J]at z;cases m with
  |val w =>
   simp[yO]at z;subst z;obtain⟨u,Y,r⟩:=aU st J;exact⟨u,Y,q u H (ai.refl H) (.of r)⟩
  | _=>cases z
def C0(h:aW X.N X.env.scope i x=true):PE X (.Name x pos) (tE X.K cal (.bor i)):=by
 refine(ca h).imp λσ H Q Y=>?_
 obtain⟨B,E,O,W,v,st,J,q⟩:=Y;rw[ev]at J;cases U:(W[i]?).join with
 |none=>rw[U]at J;cases J
 |some m =>
  rw[U]at J;obtain⟨u,Z,r⟩:=aU st U;exact⟨u,Z,q u H (ai.refl H) ⟨r.bor st.keep J,λz=>by cases z⟩⟩
def C1(h:ub v c=true):PE X (.Constant c j pos) (tE X.K cal (.cst v)):=by
 have key:∀u,_->PE X (.Constant c j pos) _->PE X _ (tE X.K cal (.cst v)):=λu r p=>p.imp λσ H Q z=>by
  obtain⟨B,E,O,W,w,st,J,q⟩:=z;cases J;exact q u H (ai.refl H) (.scal r)
 cases v<;>cases c<;>simp[ub,Jz,Ju]at h
 .exact key .non (λF=>qk F) Dk
 .subst h;exact key _ (λF=>d9 F _) F5
 .subst h;exact key _ (λF=>bU F _) Dj
 .subst h;exact key _ (λF=>mi F _) ti
def zf(g:Gf X T k cal)(h:(x==y&&glB X.env.scope x&&CT T.gs x v&&aq x)=true):PE X (.Name y pos) (tE X.K cal (.glob x v)):=by
 simp[oe,Ju]at h;obtain⟨⟨⟨rfl,Y⟩,hs⟩,Z⟩:=h;obtain⟨p,U,J⟩:=Kl.mp hs;simp[oe,Ju]at J;obtain⟨rfl,hv⟩:=J;obtain⟨u,e1,r⟩:=g.gs p U;have e:p.2=v/\∀F,Rep X.K F v (toV v):=by
  revert hv;generalize p.2=z;intro hv;cases z<;>cases v<;>simp[CS,Jz,Ju]at hv
  .exact⟨rfl,λF=>qk F⟩
  .subst hv;exact⟨rfl,λF=>d9 F _⟩
  .subst hv;exact⟨rfl,λF=>bU F _⟩
  .subst hv;exact⟨rfl,λF=>mi F _⟩
 rw[e.1]at r;refine(AW (di Y) e1 r (g8 Z).1).imp λσ H Q hq=>?_
 obtain⟨B,E,O,W,w,st,he,q⟩:=hq;cases he;exact q _ H (ai.refl H) (.scal e.2)
end
section
variable{X:Cx}
noncomputable def R2M(K:Mx)(f:PV->PV->Option PV):R2:=λz J H Q =>
 ∃O x y v,(∀a∈O,H a≠none)/\bA K H O x z/\bA K H O y J/\f x y=some v/\∀u H',ai H H'->Rep K (av H' O) v u->Q u H'
def kY{g:Int->Int->Int}(h:OpR X (binaryOp op) (rI C λi j=>.int (g i j)))
  (z:∀x y v,f x y=some v->∃i j,x=.int i/\y=.int j/\C i j/\v=.int (g i j)):OpR X (binaryOp op) (R2M X.K f):=by
 intro pins s σ H ux uy v u Q I J U Y;refine az λZq Z=>?_
 obtain⟨O,x,y,w,hO,r1,r2,e,q⟩:=Y;obtain⟨i,j,rfl,rfl,c,rfl⟩:=z x y w e;have e1:=r1.int;have e2:=r2.int;subst e1 e2;refine Z ?_;exact h pins s σ H _ _ v u Q I J U ⟨i,j,rfl,rfl,c,q _ H (ai.refl H) (bU _ _)⟩
def BR:OpR X (binaryOp .Add) (λx y H Q=>∃l b xs zs,x=.ref l/\y=.ref b/\SqL X.K H l xs/\SqL X.K H b zs/\xs.length+zs.length<=sizeLine/\∀p,H p=none->Q (.ref p) (upd H p (.lst (xs++zs)))):=by
 intro pins s σ H x y v u Q I rx ry h;refine az λZq kq=>?_
 obtain⟨l,b,xs,zs,rfl,rfl,hH,hB,hz,q⟩:=h;cases rx;cases ry;obtain⟨its,r,pl,_⟩:=I.list hH;obtain⟨z,r2,Z,_⟩:=I.list hB;have l1:=r.length;have l2:=r2.length;obtain⟨⟨cls,dd,data,sl⟩,ho,hc,n,hd⟩:=pl.isList;obtain⟨⟨a1,ao,data2,aO⟩,J,U,n2,Y⟩:=Z.isList;simp only at hc hd U Y;subst hc hd U Y;have e:its.toArray++z.toArray=(its++z).toArray:=by simp
 refine kq ?_;refine Mk ⟨_,ho,rfl⟩ ⟨_,J,rfl⟩ noFill_list_add seq_list_add PySem.F.slot_list_add PySem.F.entry_list_add (PySem.F.args_list_add_2 _ _) (list_addW l b its.toArray z.toArray n n2 dd ao sl aO (by rw[r4,r4];omega)) ⟨ho,J,?_⟩;rw[e];exact⟨.ref _,_,I.lnew (r.append r2) (by rw[wh];omega),rfl,q _ I.fresh⟩
def BS:OpR X (binaryOp .Add) (λx y H Q=>∃a b ys,x=.ref a/\y=.ref b/\SqT X.K H a []/\SqT X.K H b ys/\Q (.ref b) H):=by
 intro pins s σ H x y v u Q I rx ry h;refine az λZq kq=>?_
 obtain⟨a,b,ys,rfl,rfl,ha,hb,q⟩:=h;cases rx;cases ry;obtain⟨its,r1,⟨⟨c1,d1,t1,l1⟩,ho,hc,n,hd⟩,_⟩:=I.tuple ha;obtain⟨U,r2,⟨⟨c2,d2,t2,l2⟩,Y,Z,n2,ao⟩,_⟩:=I.tuple hb;cases hc;cases hd;cases Z;cases ao;have z:=r1.nil_iff.mpr rfl;have J:=tuple_addW0 a b its.toArray U.toArray n n2 d1 d2 l1 l2 (by simp[z]);refine kq ?_;exact Mk ⟨_,ho,rfl⟩ ⟨_,Y,rfl⟩ Ml seq_tuple_add PySem.F.slot_tuple_add PySem.F.entry_tuple_add (PySem.F.args_tuple_add_2 _ _) J ⟨ho,Y,.ref b,H,I,rfl,q⟩
def eQ(h:jZ f x y=some v):∃i j,x=.int i/\y=.int j/\f i j=some v:=by
 cases x<;>try (cases h;done)
 cases y<;>try (cases h;done)
 exact⟨_,_,rfl,rfl,h⟩
def ke{C:Int->Int->Prop} [∀i j,Decidable (C i j)] {g:Int->Int->Int}{x y v:PV} (h:jZ (λi j=>if C i j then some (.int (g i j))else none) x y=some v):∃i j,x=.int i/\y=.int j/\C i j/\v=.int (g i j):=by
 obtain⟨i,j,z,J,U⟩:=eQ h
 simp_all
def uf(op):OpR X (binaryOp (ua op)) (R2M X.K (eX op)):=by
 cases op with
 |sub=>exact kY (C:=λ_ _=>True) (g:=λi j=>i-j) (λpins s σ H x y v u Q I J U h=>Dy pins s σ H x y v u Q I J U (by obtain⟨i,j,Y,Z,_,q⟩:=h;exact⟨i,j,Y,Z,q⟩)) (λx y v h=>by
   obtain⟨i,j,Y,Z,e3⟩:=eQ h;exact⟨i,j,Y,Z,trivial,(Jv e3).symm⟩)
 |mul=>exact kY Dz λx y v h=>by have q:=ke h;exact q
 |fdiv=>exact kY A2 λx y v h=>by have q:=ke h;exact q
 |mod=>exact kY DA λx y v h=>by have q:=ke h;exact q
 |pow=>exact kY DB λx y v h=>by have q:=ke h;exact q
 |shr=>exact kY DC λx y v h=>by have q:=ke h;exact q
 |add =>
  intro pins s σ H ux uy v u Q I J U hq;obtain⟨O,x,y,w,hO,r1,r2,e,q⟩:=hq;cases x<;>try (cases e;done)
  all_goals (cases y<;>simp only[eX,CP]at e<;>try (cases e;done))
  .cases e;have Y:=r1.int;have Z:=r2.int;subst Y Z;exact Dx pins s σ H _ _ v u Q I J U ⟨_,_,rfl,rfl,q _ H (ai.refl H) (bU _ _)⟩
  .split at e
   .rename_i c;cases e;have Y:=r1.str;have Z:=r2.str;subst Y Z;exact tz pins s σ H _ _ v u Q I J U ⟨_,_,rfl,rfl,Js c (by decide),q _ H (ai.refl H) (mi _ _)⟩
   .cases e
  .split at e
   .rename_i c;cases e;obtain⟨a,us,rfl,s1,t1⟩:=r1.tup;obtain⟨b,ws,rfl,s2,t2⟩:=r2.tup;have l1:=t1.length;have l2:=t2.length;have w1:=r1.tupR;have w2:=r2.tupR;by_cases z0:us=[]
    .subst z0;have z1:=LA l1;subst z1;exact BS pins s σ H _ _ v u Q I J U ⟨a,b,ws,rfl,rfl,s1,s2,q _ H (ai.refl H) w2⟩
    refine Ba pins s σ H _ _ v u Q I J U ⟨a,b,us,ws,rfl,rfl,s1,s2,z0,cy (by omega),λz=>?_,λz p hp=>?_⟩
    .rw[z,length_nil]at l2;have z1:=LA l2;subst z1;rw[Kq]at q;exact q _ H (ai.refl H) w1
    .exact q _ _ (ay hp _) (gu hO hp (t1.append t2))
   .cases e
  .split at e
   .rename_i c;cases e;obtain⟨a,us,rfl,s1,t1⟩:=r1.lst;obtain⟨b,ws,rfl,s2,t2⟩:=r2.lst;have l1:=t1.length;have l2:=t2.length;exact BR pins s σ H _ _ v u Q I J U ⟨a,b,us,ws,rfl,rfl,s1,s2,cy (by omega),λp hp=>q _ _ (ay hp _) (ng hO hp (t1.append t2))⟩
   .cases e
noncomputable def R2C(K:Mx)(f:PV->PV->Option Bool):R2:=λz J H Q =>
 ∃O x y b,bA K H O x z/\bA K H O y J/\f x y=some b/\Q (.bl b) H
def mj{g:Int->Int->Bool}(h:OpR X (compareOp op) (rI0 λi j=>.bl (g i j)))
  (z:∀x y v,f x y=some v->∃i j,x=.int i/\y=.int j/\v=g i j):OpR X (compareOp op) (R2C X.K f):=by
 intro pins s σ H ux uy v u Q I J U Y;refine az λZq Z=>?_
 obtain⟨O,x,y,w,r1,r2,e,q⟩:=Y;obtain⟨i,j,rfl,rfl,rfl⟩:=z x y w e;have e1:=r1.int;have e2:=r2.int;subst e1 e2;refine Z ?_;exact h pins s σ H _ _ v u Q I J U ⟨i,j,rfl,rfl,q⟩
def Ex:OpR X (compareOp .Is) (λx y H Q=>∃p q,x=.bl p/\y=.bl q/\Q (.bl (p==q)) H):=by
 rintro pins s σ H x y v u Q I z J ⟨p,q,rfl,rfl,U⟩;cases z;cases J;exact gQ (b9 I U (by cases p<;>cases q<;>rfl))
def wO:OpR X (compareOp .IsNot) (λx y H Q=>∃p q,x=.bl p/\y=.bl q/\Q (.bl (!(p==q))) H):=by
 rintro pins s σ H x y v u Q I z J ⟨p,q,rfl,rfl,U⟩;cases z;cases J;exact gQ (b9 I U (by cases p<;>cases q<;>rfl))
def vt{K:Mx}(r:bA K H O x u):decide (u=.non)=jl x:=by
 cases x with
 |non=>rw[r.non];rfl
 |bl b=>rw[r.bl];rfl
 |int b=>rw[r.int];rfl
 |str b=>rw[r.str];rfl
 |tup xs=>obtain⟨a,us,rfl,_⟩:=r.tup;rfl
 |lst xs=>obtain⟨a,us,rfl,_⟩:=r.lst;rfl
 |dI kvs=>obtain⟨a,rfl,_⟩:=r.dI;rfl
def zg(hu:X.A.units+200<cLine)(op):OpR X (compareOp (yY op)) (R2C X.K (cj op)):=by
 cases op with
 |lt=>exact mj Gn λx y v h=>by obtain⟨i,j,J,z,e3⟩:=eQ h;exact⟨i,j,J,z,(Jv e3).symm⟩
 |le=>exact mj Go λx y v h=>by obtain⟨i,j,J,z,e3⟩:=eQ h;exact⟨i,j,J,z,(Jv e3).symm⟩
 |gt=>exact mj Gp λx y v h=>by obtain⟨i,j,J,z,e3⟩:=eQ h;exact⟨i,j,J,z,(Jv e3).symm⟩
 |ge=>exact mj Gq λx y v h=>by obtain⟨i,j,J,z,e3⟩:=eQ h;exact⟨i,j,J,z,(Jv e3).symm⟩
 |eq =>
  intro pins s σ H ux uy v u Q I U Y hq;obtain⟨O,x,y,w,Z,r2,e,q⟩:=hq;exact Et (by omega) pins s σ H ux uy v u Q I U Y ⟨x,y,w,Z.whole,r2.whole,e,q⟩
 |ne =>
  intro pins s σ H ux uy v u Q I U Y hq;obtain⟨O,x,y,w,Z,r2,e,q⟩:=hq;simp only[cj]at e;split at e
  .rename_i c;simp only[p0]at e;obtain⟨b,e,rfl⟩:=e;exact Eu (by omega) pins s σ H ux uy v u Q I U Y ⟨x,y,b,Z.whole,r2.whole,c,e,q⟩
  .cases e
 |isN =>
  intro pins s σ H ux uy v u Q I U Y hq;obtain⟨O,x,y,w,Z,r2,e,q⟩:=hq;cases y<;>try (cases e;done)
  .have z:=r2.non;subst z;refine DE pins s σ H ux _ v u Q I U Y ⟨rfl,?_⟩;have e:=e;rw[vt Z,Jv e];exact q
  .cases x<;>try (cases e;done)
   have J:=Z.bl;have z:=r2.bl;subst J z;exact Ex pins s σ H _ _ v u Q I U Y ⟨_,_,rfl,rfl,by rw[Jv e];exact q⟩
 |notN =>
  intro pins s σ H ux uy v u Q I U Y hq;obtain⟨O,x,y,w,Z,r2,e,q⟩:=hq;cases y<;>try (cases e;done)
  .have z:=r2.non;subst z;refine A4 pins s σ H ux _ v u Q I U Y ⟨rfl,?_⟩;have e:some (!jl x)=some w:=e;rw[vt Z,Jv e];exact q
  .cases x<;>try (cases e;done)
   have J:=Z.bl;have z:=r2.bl;subst J z;cases e;exact wO pins s σ H _ _ v u Q I U Y ⟨_,_,rfl,rfl,q⟩
 |isIn =>
  intro pins s σ H ux uy v u Q I U Y hq;obtain⟨O,x,y,w,Z,r2,e,q⟩:=hq;simp only[cj,gk]at e;obtain⟨xs,J,z⟩:=e;obtain⟨a,us,rfl,s2,t2⟩:=r2.seq J;exact Ev (by omega) pins s σ H ux _ v u Q I U Y ⟨x,_,a,us,w,Z.whole,rfl,s2,Reps.mono (bP H O) _ t2,z,q⟩
 |notIn =>
  intro pins s σ H ux uy v u Q I U Y hq;obtain⟨O,x,y,w,Z,r2,e,q⟩:=hq;simp only[cj,gk,p0]at e;obtain⟨b,⟨xs,J,z⟩,rfl⟩:=e;obtain⟨a,us,rfl,s2,t2⟩:=r2.seq J;exact wN (by omega) pins s σ H ux _ v u Q I U Y ⟨x,_,a,us,b,Z.whole,rfl,s2,Reps.mono (bP H O) _ t2,z,q⟩
def rW(n)(i):place n i=ixN n i:=rfl
def Ey:IxR X (R2M X.K fC):=by
 intro value slice pins s σ H ux uy v u Q I rx ry hq z;obtain⟨O,x,y,w,hO,r1,r2,e,q⟩:=hq;cases x<;>cases y<;>simp[fC]at e<;>try (cases e;done)
 .simp[gk]at e;obtain⟨j,Z,e2⟩:=e;obtain⟨a,us,rfl,s1,U⟩:=r1.tup;have e3:=r2.int;subst e3;obtain⟨Y,e4,J⟩:=U.get e2;refine xX value slice pins s σ H _ _ v u Q I rx ry (.inr (.inl ⟨a,us,_,Y,rfl,rfl,s1,?_,q Y H (ai.refl H) J⟩)) z;unfold atI;rw[<- U.length,<- rW,Z];exact e4
 .simp[gk]at e;obtain⟨j,Z,e2⟩:=e;obtain⟨a,us,rfl,s1,U⟩:=r1.lst;have e3:=r2.int;subst e3;obtain⟨Y,e4,J⟩:=U.get e2;refine xX value slice pins s σ H _ _ v u Q I rx ry (.inl ⟨a,us,_,Y,rfl,rfl,s1,?_,q Y H (ai.refl H) J⟩) z;unfold atI;rw[<- U.length,<- rW,Z];exact e4
def ug(h:bW b=true):u0 b:=by
 intro o i;cases b<;>first|rfl|(simp[bW]at h)
def rX{K:Mx}(h:Reps K F xs us)(lo hi):Reps K F (cut xs lo hi) (wo us lo hi):=by
 have z:=h.length;have e:∀n d o,gj n d o=HT.sIx n d o:=λn d o=>by cases o<;>rfl
 unfold cut wo;rw[e,e,z];exact(h.drop _).take _
def Ez:SlR X (λx lo hi H Q=>∃O v w,(∀a∈O,H a≠none)/\bA X.K H O v x/\j3 v lo hi=some w/\∀u H',ai H H'->Rep X.K (av H' O) w u->Q u H'):=by
 intro pins s σ H x v Z vu lo hi sl Q I rx hs pl pu hq;obtain⟨O,pv,w,hO,r1,e,q⟩:=hq;cases pv<;>simp only[j3]at e<;>try (cases e;done)
 .rename_i xs;cases e;obtain⟨a,us,rfl,Y,z⟩:=r1.tup;have e:∀n d o,gj n d o=HT.sIx n d o:=λn d o=>by cases o<;>rfl
  by_cases J:HT.sIx us.length 0 lo=0/\HT.sIx us.length us.length hi=us.length
  .refine Bx pins s σ H _ v Z vu lo hi sl Q I rx hs pl pu ⟨a,us,rfl,Y,J.1,J.2,q _ _ (ai.refl H) ?_⟩;have:cut xs lo hi=xs:=by
    unfold cut;rw[e,e,z.length,J.1,J.2,drop_zero,<- z.length,Nat.sub_zero,take_length]
   rw[this];exact r1.tupR
  .exact DG pins s σ H _ v Z vu lo hi sl Q I rx hs pl pu ⟨a,us,rfl,Y,J,λp U=>q _ _ (ay U _) (gu hO U (rX z lo hi))⟩
 .cases e;obtain⟨a,us,rfl,Y,z⟩:=r1.lst;exact Bc pins s σ H _ v Z vu lo hi sl Q I rx hs pl pu ⟨a,us,rfl,Y,λp U=>q _ _ (ay U _) (ng hO U (rX z lo hi))⟩
end
theorem vv(x):∀l,yL x l=Srt.lU Srt.dc x l
 | []=>rfl
 |y::r=>by
  show(if y<x then y::yL x r else x::y::r)=(if Srt.dc.blt y x=true then y::Srt.lU Srt.dc x r else x::y::r);rw[vv x r];by_cases h:y<x
  .have e:Srt.dc.blt y x=true:=JA h;rw[if_pos h,if_pos e]
  .have e:Srt.dc.blt y x=false:=JQ h;rw[if_neg h,if_neg (by rw[e];exact pb)]
theorem dj:∀l,sortI l=Srt.sortI l
 | []=>rfl
 |x::r=>by
  show yL x (sortI r)=Srt.lU Srt.dc x (Srt.im Srt.dc r);rw[dj r,vv];rfl
theorem nh:∀a b,lexLt a b=HT.lexLt a b
 | [],[]=>rfl
 | [],_::_=>rfl
 | _::_,[]=>rfl
 |x::xs,y::ys=>by
  rw[lexLt,HT.lexLt_cons,nh xs ys]
theorem vz(x):∀l,yM x l=Srt.lU Srt.eU x l
 | []=>rfl
 |y::r=>by
  show(if lexLt y x=true then y::yM x r else x::y::r)=(if Srt.eU.blt y x=true then y::Srt.lU Srt.eU x r else x::y::r);rw[vz x r,nh]
  rfl
theorem kf:∀l,sortT l=Srt.sortT l
 | []=>rfl
 |x::r=>by
  show yM x (sortT r)=Srt.lU Srt.eU x (Srt.im Srt.eU r);rw[kf r,vz];rfl
theorem pf:∀l,dd l=St.dd l
 | []=>rfl
 |x::r=>by
  unfold dd St.dd;rw[pf r]
def BT(ns):Srt.sortI (St.dd ns.reverse)=sortI (dd ns):=by
 rw[dj,pf];refine Srt.sortI_of_perm ?_;refine(Kb (St.dd_nodup _) (St.dd_nodup _)).mpr λa=>?_
 rw[St.fO,St.fO,Mw]
def uh(ns):(St.dd ns.reverse).length=(dd ns).length:=by
 rw[pf];refine Perm.length_eq ((Kb (St.dd_nodup _) (St.dd_nodup _)).mpr λa=>?_);rw[St.fO,St.fO,Mw]
section
variable{X:Cx}{T:Tab}{k:Nat}{cal:Cal}
def RBM(K:Mx)(f:List PV->Option PV):List V->Hp->VK->Prop:=λus H Q =>
 ∃O vs v,(∀a∈O,H a≠none)/\Paired (bA K H O) vs us/\f vs=some v/\∀u H',ai H H'->Rep K (av H' O) v u->Q u H'
def p1{K:Mx}(h:Paired (bA K H O) [x] us):∃u,us=[u]/\bA K H O x u:=by
 cases h with
 |cons r t=>cases t;exact⟨_,rfl,r⟩
def p2{K:Mx}(h:Paired (bA K H O) [x,y] us):∃u w,us=[u,w]/\bA K H O x u/\bA K H O y w:=by
 cases h with
 |cons r t=>cases t with
  |cons z t'=>cases t';exact⟨_,_,rfl,r,z⟩
def cT(h:aA f vs=some v)(z:kW f=some 1\/(dh f).isSome=true\/f=.sortedSet\/f=.lenSet\/f=.valuesOf):∃x,vs=[x]:=by
 cases vs with
 |nil=>cases f<;>simp[aA,b_,mZ,jb]at h
 |cons x r=>cases r<;>first|exact⟨x,rfl⟩|(cases f<;>simp[aA,b_,jb,kW,dh]at h z)
def GW:bO X (.builtin "len") (RBM X.K (aA .len)):=by
 intro pins s σ H xs us Q I r h;obtain⟨O,vs,v,hO,rs,e,q⟩:=h;obtain⟨x,rfl⟩:=cT e (.inl rfl);obtain⟨u,rfl,U⟩:=p1 rs;cases x<;>simp[aA,b_]at e<;>try (cases e;done)
 .cases e;obtain⟨a,J,rfl,Y,Z⟩:=U.tup;exact gZ pins s σ H _ us Q I r ⟨a,J,rfl,.inr Y,by rw[<- Z.length];exact q _ H (ai.refl H) (bU _ _)⟩
 .cases e;obtain⟨a,J,rfl,Y,Z⟩:=U.lst;exact gZ pins s σ H _ us Q I r ⟨a,J,rfl,.inl Y,by rw[<- Z.length];exact q _ H (ai.refl H) (bU _ _)⟩
 .rename_i d;cases d with
  |k kvs =>
   cases e;obtain⟨a,rfl,ha⟩:=U.dI;obtain⟨u,rfl,ru⟩:=dU r;cases ru;obtain⟨hz,hs,J,ao,dd⟩:=jf I.hok (show Rd H a (.dK _)from ha.rd);have z:J.length=kvs.length:=by rw[<- ao.length];unfold gq;rw[pe]
   have hz:kvs.length<=sizeLine:=by unfold gq at hz;rw[pe]at hz;exact hz
   have hn:=kG;exact call_len_dict hs dd (by rw[z];omega) ⟨.int kvs.length,H,I.tok _,⟨s.toks+1,by rw[z]⟩,q _ H (ai.refl H) (bU _ _)⟩
  | _=>cases e
def vA:bO X (.type "tuple") (RBM X.K (aA .tupleOf)):=by
 intro pins s σ H xs us Q I r h;refine az λZq kq=>?_
 obtain⟨O,vs,v,hO,rs,e,q⟩:=h;obtain⟨x,rfl⟩:=cT e (.inl rfl);obtain⟨u,rfl,z⟩:=p1 rs;simp[aA,b_,iw,p0]at e;obtain⟨ys,e,rfl⟩:=e;refine kq ?_;cases x<;>simp[a_]at e
 .subst e;obtain⟨a,J,rfl,U,Y⟩:=z.tup;refine je pins s σ H _ us Q I r ⟨a,J,rfl,.inr ⟨U,q _ H (ai.refl H) ?_⟩⟩;exact z.tupR
 .subst e;obtain⟨a,J,rfl,U,Y⟩:=z.lst;exact je pins s σ H _ us Q I r ⟨a,J,rfl,.inl ⟨U,λl Z=>q _ _ (ay Z _) (gu hO Z Y)⟩⟩
def RBF(K:Mx)(f:List PV->Option PV):List V->Hp->VK->Prop:=λus H Q =>
 ∃O vs xs,(∀a∈O,H a≠none)/\Paired (bA K H O) vs us/\f vs=some (.lst xs)/\∀l z,H l=none->Reps K (av H O) xs z->Q (.ref l) (upd H l (.lst z))
def EA:bO X (.type "list") (RBF X.K (aA .listOf)):=by
 intro pins s σ H xs us Q I r h;refine az λZq J=>?_
 obtain⟨O,vs,v,hO,U,e,q⟩:=h;obtain⟨x,rfl⟩:=cT e (.inl rfl);obtain⟨u,rfl,Y⟩:=p1 U;simp[aA,b_,iw,p0,PV.lst.injEq,exists_eq_right]at e;obtain⟨a,z,rfl,Z,t1⟩:=Y.seq e;refine J ?_;exact pV pins s σ H _ us Q I r ⟨a,z,rfl,Z,λl hl=>q l z hl t1⟩
theorem pg{K:Mx} :∀{J}{us},Reps K F (J.map λt=>.tup (t.map .int)) us->tV K F us J
 | [],_,h=>by rw[map_nil,Reps]at h;subst h;exact .nil
 |t::J,_,h=>by
  obtain⟨u,r,rfl,q,z⟩:=h;obtain⟨a,vs,e,U,Y⟩:=q;rw[Y.ints]at U;exact .cons ⟨a,e,d7 U⟩ (pg z)
theorem ph{K:Mx}(s:ai F F'):∀{us}{z},tV K F us z->tV K F' us z
 | _,_,.nil=>.nil
 | _,_,.cons ⟨a,J,U⟩ t=>.cons ⟨a,J,s.seqT U⟩ (ph s t)
theorem pi{K:Mx}(h:Reps K F xs us):∀(l:List Nat),(∀i∈l,i<us.length)->Reps K F (l.map λi=>xs.getD i .non) (l.map λi=>us.getD i .non)
 | [],_=>.nil
 |i::l,z=>by
  have hi:=z i (.head _);have hx:i<xs.length:=by rw[h.length];exact hi
  obtain⟨u,U,Y⟩:=h.get (Jy hx);refine .cons ?_ (pi h l λj J=>z j (.tail _ J))
  simp_all
def zh (g:Gf X T k cal):bO X (.builtin "sorted") (RBF X.K (aA .sorted)):=by
 intro pins s σ H xs us Q I r h;refine az λZq kq=>?_
 obtain⟨O,vs,v,hO,rs,e,q⟩:=h;obtain⟨x,rfl⟩:=cT e (.inl rfl);obtain⟨u,rfl,rx⟩:=p1 rs;simp only[aA,b_,mZ,iw,jb,gk]at e;obtain⟨ys,e,J⟩:=e;obtain⟨a,ws,rfl,s1,U⟩:=rx.seq e;unfold iG at J;refine kq ?_;split at J
 .rename_i z;split at J
  .rename_i ns hn;cases J;have:=dX hn;subst this;have Z:=U.ints;subst Z;rw[pe]at z;refine jW g.calm pins s σ H _ us Q I r ⟨a,ns,rfl,s1.imp id .inl,z,λl hl=>?_⟩;rw[<- dj];exact q l _ hl (.of_ints _)
  .simp only[p0,PV.lst.injEq]at J;obtain⟨Y,Z,rfl⟩:=J;have:=rL Z;subst this;rw[pe]at z;refine p9 (by have:=g.units;omega) pins s σ H _ us Q I r ⟨a,ws,Y,rfl,s1,ph (bP H O) (pg U),z,λl pm hl hp e=>q l _ hl ?_⟩;have q2:=pi U pm hp;have e4:(pm.map λi=>(Y.map λt=>PV.tup (t.map .int)).getD i .non)=(sortT Y).map λt=>.tup (t.map .int):=by
    rw[kf,<- e,Jx];refine Kn λi hi=>?_
    have aO:i<Y.length:=by have:=hp i hi;rw[<- U.length,pe]at this;exact this
    simp[aO]
   rw[e4]at q2;exact q2
 .cases J
def GX:bO X (.type "int") (RBM X.K (aA .intOf)):=by
 intro pins s σ H xs us Q I r h;refine az λY J=>?_
 obtain⟨O,vs,v,Z,U,e,q⟩:=h;obtain⟨x,rfl⟩:=cT e (.inl rfl);obtain⟨u,rfl,z⟩:=p1 U;refine J ?_;cases x<;>simp[aA,b_,iw]at e<;>try (cases e;done)
 .cases e;have:=z.bl;subst this;exact oM pins s σ H _ us Q I r (.inr ⟨_,rfl,q _ H (ai.refl H) (bU _ _)⟩)
 .cases e;have:=z.int;subst this;exact oM pins s σ H _ us Q I r (.inl ⟨_,rfl,q _ H (ai.refl H) (bU _ _)⟩)
def ml(h:iw x=some ys):x=.lst ys:=by
 cases x<;>cases h
 rfl
def EB (J:dh b=some c):bO X (.builtin "isinstance") (λus H Q=>∃O v u,us=[u,.ty c]/\isD v=false/\bA X.K H O v u/\Q (.bl (isT b v)) H):=by
 intro pins s σ H xs us Q I r h;obtain⟨O,v,x,rfl,nd,U,q⟩:=h;obtain⟨u,t,rfl,Y,rc⟩:=Gs r;have Z:=rc;subst Z;have fin:∀z tk,z=isT b v->EP X pins σ Q (.bool z) { s with toks:=tk }:=λz tk e=>⟨.bl z,H,I.tok tk,rfl,by rw[e];exact q⟩
 cases v with
 |dI _=>cases nd
 |non =>
  have e:=U.non;subst e;cases (show u=Value.none from Y);cases b<;>simp only[dh,tr,reduceCtorEq]at J<;>subst J <;>
   exact PySem.W.kia_one PySem.W.kitx_none I.kIn True.intro (b:=false) (by first|rfl|kernel_rfl|decide) (λz=>nomatch z) λtk=>fin _ tk rfl
 |bl y =>
  have e:=U.bl;subst e;cases (show u=Value.bool y from Y);cases b<;>simp only[dh,tr,reduceCtorEq]at J<;>subst J<;>first
   |exact PySem.W.kia_one PySem.W.kitx_bool I.kIn True.intro (b:=true) (by first|rfl|kernel_rfl|decide) (λz=>nomatch z) λtk=>fin _ tk rfl
   |exact PySem.W.kia_one PySem.W.kitx_bool I.kIn True.intro (b:=false) (by first|rfl|kernel_rfl|decide) (λz=>nomatch z) λtk=>fin _ tk rfl
 |int y =>
  have e:=U.int;subst e;obtain⟨t,z⟩:=(show ∃t,u=Value.int y t from Y);cases z;cases b<;>simp only[dh,tr,reduceCtorEq]at J<;>subst J<;>first
   |exact PySem.W.kia_one PySem.W.kitx_int I.kIn True.intro (b:=true) (by first|rfl|kernel_rfl|decide) (λz=>nomatch z) λtk=>fin _ tk rfl
   |exact PySem.W.kia_one PySem.W.kitx_int I.kIn True.intro (b:=false) (by first|rfl|kernel_rfl|decide) (λz=>nomatch z) λtk=>fin _ tk rfl
 |str y =>
  have e:=U.str;subst e;obtain⟨t,z⟩:=(show ∃t,u=Value.str y t from Y);cases z;cases b<;>simp only[dh,tr,reduceCtorEq]at J<;>subst J<;>first
   |exact PySem.W.kia_one PySem.W.kitx_str I.kIn True.intro (b:=true) (by first|rfl|kernel_rfl|decide) (λz=>nomatch z) λtk=>fin _ tk rfl
   |exact PySem.W.kia_one PySem.W.kitx_str I.kIn True.intro (b:=false) (by first|rfl|kernel_rfl|decide) (λz=>nomatch z) λtk=>fin _ tk rfl
 |lst ys =>
  obtain⟨a,us,rfl,s1,t1⟩:=U.lst;cases (show u=Value.ref a from Y);obtain⟨its,_,p,_⟩:=I.list s1;obtain⟨o,h1,h2,_⟩:=p.isList;cases b<;>simp only[dh,tr,reduceCtorEq]at J<;>subst J<;>first
   |exact PySem.W.kia_one PySem.W.kitx_list I.kIn ⟨o,h1,h2⟩ (b:=true) (by first|rfl|kernel_rfl|decide) (λz=>nomatch z) λtk=>fin _ tk rfl
   |exact PySem.W.kia_one PySem.W.kitx_list I.kIn ⟨o,h1,h2⟩ (b:=false) (by first|rfl|kernel_rfl|decide) (λz=>nomatch z) λtk=>fin _ tk rfl
 |tup ys =>
  obtain⟨a,us,rfl,s1,t1⟩:=U.tup;cases (show u=Value.ref a from Y);obtain⟨its,_,p,_⟩:=I.tuple s1;obtain⟨o,h1,h2,_⟩:=p;cases b<;>simp only[dh,tr,reduceCtorEq]at J<;>subst J<;>first
   |exact PySem.W.kia_one PySem.W.kitx_tuple I.kIn ⟨o,h1,h2⟩ (b:=true) (by first|rfl|kernel_rfl|decide) (λz=>nomatch z) λtk=>fin _ tk rfl
   |exact PySem.W.kia_one PySem.W.kitx_tuple I.kIn ⟨o,h1,h2⟩ (b:=false) (by first|rfl|kernel_rfl|decide) (λz=>nomatch z) λtk=>fin _ tk rfl
theorem jF{K:Mx} :∀{bs:List Bool}{us}{its},Reps K F (bs.map .bl) us->aG us its->its=bs.map Value.bool
 | [],_,_,h,w=>by rw[map_nil,Reps]at h;subst h;cases w;rfl
 |b::bs,_,_,h,w=>by
  obtain⟨u,r,rfl,q,t⟩:=h;subst q;cases w with
  |cons z J =>
   cases z;rw[jF t J];rfl
def wP(bs:List Bool):(range bs.length).all (λi=>bs.getD i false)=bs.all id:=by
 conv=>rhs;rw[<- Srt.i3 bs false]
 rw[LQ]
 rfl
def wQ(bs:List Bool):(range bs.length).any (λi=>bs.getD i false)=bs.any id:=by
 conv=>rhs;rw[<- Srt.i3 bs false]
 rw[List.any_map]
 rfl
def lA(bs:List Bool):TruthOf P w A (λi v=>(bs.map Value.bool).toArray[i]?=some v) (λi=>bs.getD i false):=by
 intro i v s Q E h q;simp only[getElem?_toArray,JF,p0]at h;obtain⟨b,e,rfl⟩:=h;have:bs.getD i false=b:=by rw[Km,e];rfl
 have z:Q (bs.getD i false) s:=q;rw[this]at z;exact Kh z
def GY (hc:X.calm=true):bO X (.builtin "any") (RBM X.K (aA .any)):=by
 intro pins s σ H xs us Q I r h;refine az λZq U=>?_
 obtain⟨O,vs,v,hO,Y,e,q⟩:=h;obtain⟨x,rfl⟩:=cT e (.inl rfl);obtain⟨u,rfl,Z⟩:=p1 Y;simp[aA,b_,gk,p0]at e;obtain⟨ys,e0,bs,e,rfl⟩:=e;obtain rfl:=ml e0;have:=kT e;subst this;obtain⟨a,ws,rfl,s1,t1⟩:=Z.lst;obtain⟨u,rfl,ru⟩:=dU r;cases ru;obtain⟨its,r',z,hz⟩:=I.list s1;have:=jF t1 r';subst this;have J:a<s.heap.objs.size:=by obtain⟨o,ho,_⟩:=z.isList;exact tf ho
 refine U ?_;refine call_any_walk (K6 z.isList ?_);refine⟨s.heap.objs.size,_,_,_,_,_,λi=>bs.getD i false,rfl,Walks.list (by first|exact I.ok.hd hc|simpa using I.ok.hd hc) s.heap.objs.size a (Jr J) (bs.map Value.bool).toArray,⟨⟨_,uw _ rfl,rfl,rfl⟩,z.isList.push _⟩,lA bs,λh' tk hk=>?_⟩;have e2:(range (bs.map Value.bool).toArray.size).any (λi=>bs.getD i false)=bs.any id:=by
  rw[r4,pe];exact wQ bs
 rw[e2];refine⟨.bl _,H,?_,rfl,q _ H (ai.refl H) (d9 _ _)⟩;refine I.kept λb o e=>hk b o ?_ (g4 _ e)
 intro hm;have hb:=tf e
 simp_all
def GZ (hc:X.calm=true):bO X (.builtin "all") (RBM X.K (aA .all)):=by
 intro pins s σ H xs us Q I r h;refine az λZq U=>?_
 obtain⟨O,vs,v,hO,Y,e,q⟩:=h;obtain⟨x,rfl⟩:=cT e (.inl rfl);obtain⟨u,rfl,Z⟩:=p1 Y;simp only[aA,b_,gk,p0]at e;obtain⟨ys,e0,bs,e,rfl⟩:=e;obtain rfl:=ml e0;have:=kT e;subst this;obtain⟨a,ws,rfl,s1,t1⟩:=Z.lst;obtain⟨u,rfl,ru⟩:=dU r;cases ru;obtain⟨its,r',z,hz⟩:=I.list s1;have:=jF t1 r';subst this;have J:a<s.heap.objs.size:=by obtain⟨o,ho,_⟩:=z.isList;exact tf ho
 refine U ?_;refine call_all_walk (K6 z.isList ?_);refine⟨s.heap.objs.size,_,_,_,_,_,λi=>bs.getD i false,rfl,Walks.list (by first|exact I.ok.hd hc|simpa using I.ok.hd hc) s.heap.objs.size a (Jr J) (bs.map Value.bool).toArray,⟨⟨_,uw _ rfl,rfl,rfl⟩,z.isList.push _⟩,lA bs,λh' tk hk=>?_⟩;have e2:(range (bs.map Value.bool).toArray.size).all (λi=>bs.getD i false)=bs.all id:=by
  rw[r4,pe];exact wP bs
 rw[e2];refine⟨.bl _,H,?_,rfl,q _ H (ai.refl H) (d9 _ _)⟩;refine I.kept (t':=tk) λb o e=>hk b o ?_ (g4 _ e)
 intro hm;have hb:=tf e
 simp_all
theorem lB(ns:List Int):∀k,k<=ns.length->preSum (λi=>ns.getD i 0) k=(ns.take k).sum
 |0,_=>by simp[preSum]
 |k+1,h=>by
  have e:ns.take (k+1)=ns.take k++[ns.getD k 0]:=by
   rw[take_succ,Km,Jy (by omega)]
   rfl
  rw[preSum,lB ns k (by omega),e,sum_append];simp
def G0 (hc:X.calm=true):bO X (.builtin "sum") (RBM X.K (aA .sum)):=by
 intro pins s σ H xs us Q I r h;obtain⟨O,vs,v,hO,rs,e,q⟩:=h;obtain⟨x,rfl⟩:=cT e (.inl rfl)
 .refine az λZq kq=>?_
  simp only[aA,b_,gk,p0]at e;obtain⟨ys,e9,ns,e0,rfl⟩:=e;obtain rfl:=ml e9;have:=dX e0;subst this;obtain⟨u,rfl,rx⟩:=p1 rs;obtain⟨a,ws,rfl,s1,t1⟩:=rx.lst;have:=t1.ints;subst this;obtain⟨u,rfl,ru⟩:=dU r;cases ru;obtain⟨its,r',Y,hz⟩:=I.list s1;have ia:=cR r';have hl:=r'.length;rw[pe]at hl;have J:a<s.heap.objs.size:=by obtain⟨o,ho,_⟩:=Y.isList;exact tf ho
  have hh:X.A.in1.handled=none:=by simpa using I.ok.hd hc
  refine kq ?_;refine call_sum_walkAnyS (K6 Y.isList ⟨s.heap.objs.size,_,_,_,_,_,_,λi=>ns.getD i 0,rfl,(Walks.list hh s.heap.objs.size a (Jr J) its.toArray).toS,⟨⟨_,uw _ rfl,rfl,rfl⟩,Y.isList.push _⟩,λb hb=>?_,λi v hv=>St.l5 (items:=its.toArray) (by simpa using ia) i v hv,λs' t' U=>?_⟩)
  .simp only[Jp,Kw,Lg]at hb;rw[JH];rcases hb with rfl|rfl
   .simp_all
   .exact JO J
  .obtain⟨h',g',d',tk,Z⟩:=s';have e1:g'=s.gens:=U.gens;have e2:d'=s.drawn:=U.drawn;have e3:Z=s.os:=U.os;subst e1 e2 e3;rw[r4,<- hl,lB ns ns.length (pd _),take_length];refine⟨.int ns.sum,H,I.kept (t':=tk) λb o eb=>U.heap b o (λz=>?_) (g4 _ eb),⟨_,rfl⟩,q _ H (ai.refl H) (bU _ _)⟩;rw[JE.mp z]at eb;exact absurd (tf eb) (J5 _)
def pj:∀{ns}{m},yN ns=some m->m∈ns/\∀x∈ns,x<=m
 |n::ns,m,h=>by
  have gen:∀l (a:Int),(l.foldl (λa b=>if a<b then b else a) a∈a::l)/\a<=l.foldl (λa b=>if a<b then b else a) a/\∀x∈l,x<=l.foldl (λa b=>if a<b then b else a) a:=by
   intro l
   induction l with
   |nil=>intro a;exact⟨.head _,L7 _,λx hx=>by cases hx⟩
   |cons b l ih =>
    intro a;obtain⟨h1,h2,z⟩:=ih (if a<b then b else a);rw[foldl_cons];refine⟨?_,?_,λx hx=>?_⟩
    .rcases Jp.mp h1 with e|e
     .rw[e];split
      .exact .tail _ (.head _)
      .exact .head _
     .exact .tail _ (.tail _ e)
    .exact Ms (by split<;>omega) h2
    .rcases Jp.mp hx with rfl|hx
     .exact Ms (by split<;>omega) h2
     .exact z x hx
  obtain⟨h1,h2,z⟩:=gen ns n;cases h;exact⟨h1,λx hx=>by
   rcases Jp.mp hx with rfl|hx
   .exact h2
   .exact z x hx⟩
def EC (hc:X.calm=true):bO X (.builtin "max") (RBM X.K (aA .max1)):=by
 intro pins s σ H xs us Q I r h;refine az λZq kq=>?_
 obtain⟨O,vs,v,hO,rs,e,q⟩:=h;obtain⟨x,rfl⟩:=cT e (.inl rfl);simp only[aA,b_,gk,p0]at e;obtain⟨ys,e9,ns,e0,m,em,rfl⟩:=e;obtain rfl:=ml e9;have:=dX e0;subst this;obtain⟨u,rfl,rx⟩:=p1 rs;obtain⟨a,ws,rfl,s1,t1⟩:=rx.lst;have:=t1.ints;subst this;obtain⟨u,rfl,ru⟩:=dU r;cases ru;obtain⟨its,Z,pl,hz⟩:=I.list s1;have ia:=cR Z;have hl:=Z.length;rw[pe]at hl;obtain⟨J,b5⟩:=pj em;have aO:=length_pos_iff.mpr (ne_nil_of_mem J);obtain⟨zs,U⟩:=ia.allInts.items;have cd:zs.size=ns.length:=by
  have:=JK Array.size U;simp[intItems]at this;omega
 have num:∀i,i<ns.length->numAt zs i=ns.getD i 0:=λi hi=>by
  have h1:(intItems zs)[i]?=some (.int (zs[i]'(by omega)).1 (zs[i]'(by omega)).2):=by simp[intItems,show i<zs.size by omega]
  obtain⟨t,e1⟩:=intItems_at h1;obtain⟨t',e2⟩:=St.l5 (items:=its.toArray) (by simpa using ia) i _ (by rw[U];exact h1)
  simp_all
 have z:s.heap.IsList a (intItems zs):=by rw[<- U];exact pl.isList
 refine kq ?_;refine max_intList (I.ok.hd hc) z (by omega) λv h' tk hv hk=>?_
 obtain⟨t,rfl⟩:=intItems_at hv;obtain⟨b1,b2⟩:=argBest_gt (numAt zs) (zs.size-1);generalize argBest (λi j=>decide (numAt zs i > numAt zs j)) (zs.size-1)=k at b1 b2;have Y:k<ns.length:=by omega
 have e1:numAt zs k=m:=by
  refine Int.le_antisymm ?_ ?_
  .rw[num k Y]
   simp_all
  .obtain⟨j,hj,rfl⟩:=getElem_of_mem J;have:=b2 j (by omega);rw[num j hj,Km,Jy hj]at this;exact this
 rw[e1];exact⟨.int m,H,I.kept (t':=tk) hk,⟨_,rfl⟩,q _ H (ai.refl H) (bU _ _)⟩
def vB (hc:X.calm=true):bO X (.type "set") (λus H Q=>∃O v u ns,us=[u]/\bA X.K H O v u/\((a_ v).bind bg)=some ns/\ns.length<=1000/\∀l,H l=none->Q (.ref l) (upd H l (jk X.prog X.w l (St.dd ns.reverse)))):=by
 intro pins s σ H xs us Q I r h;refine az λZq J=>?_
 obtain⟨O,v,u,ns,rfl,U,e,z,q⟩:=h;simp[gk]at e;obtain⟨ys,Y,Z⟩:=e;obtain⟨a,ws,rfl,s1,t1⟩:=U.seq Y;have:=dX Z;subst this;have e3:=t1.ints;subst e3;refine J ?_;exact yw hc pins s σ H _ us Q I r ⟨a,ns,rfl,s1,z,λl hl=>q l hl⟩
def rY (hc:X.calm=true):bO X (.builtin "sorted") (λus H Q=>∃l ks,us=[.ref l]/\H l=some (jk X.prog X.w l ks)/\ks.length<64/\∀p,H p=none->Q (.ref p) (upd H p (.lst ((Srt.sortI ks).map V.int)))):=by
 intro pins s σ H xs us Q I r h;obtain⟨l,ks,rfl,e,z,q⟩:=h;exact jW hc pins s σ H _ us Q I r ⟨l,ks,rfl,.inr (.inr e),z,q⟩
end
end MM
namespace L2
open PySem PySem.Spec PyProof.Rows List Option
def Inv.turned2(I:Inv X pins σ H s)(he:s.heap.get? e=some J)(hf:J.isFreed=false)(Z:∃o,h'.get? e=some o)
  (k:∀b o,b≠e->b≠it->s.heap.get? b=some o->h'.get? b=some o) (fe:kF X pins H e) (fi:kF X pins H it):Inv X pins σ H { s with heap:=h',toks:=t' }:=by
 obtain⟨o',ao⟩:=Z;obtain⟨a0,a1,a2,a3,a4,a5⟩:=fe;obtain⟨b0,b1,b2,b3,b4,b5⟩:=fi;have aO:(h'.update e λ_=>J).get? e=some J:=JW _ ao hf;have U:∀b,b≠e->(h'.update e λ_=>J).get? b=h'.get? b:=λb Y=>(JN h' e _).2 b Y
 have I1:Inv X pins σ H { s with heap:=h'.update e λ_=>J,toks:=t' }:=I.turned (it:=it) (λb o Y q=>by
  by_cases z:b=e
  .subst z;rw[aO,<- he];exact q
  .rw[U b z];exact k b o z Y q) b0 b1 b3 b4 b5
 exact Inv.turned (s:={ s with heap:=h'.update e λ_=>J,toks:=t' }) (it:=e) I1 (λb o Y q=>by
  have q:=q;rw[U b Y]at q;exact q) a0 a1 a3 a4 a5
noncomputable def Ite(q:Hp->List V->Prop):It:=
 ⟨λi H=>∃xs,q H xs/\i<xs.length,λi H x H'=>∃p,x=.ref p/\H p=none/\∃u,H'=upd H p (.tup [.int i,u])/\∀xs,q H xs->xs[i]?=some u,λi H=>∃xs,q H xs/\i=xs.length⟩
structure Src(P:Program)(w:World)(K:Mx)(a it:Addr)(q:Hp->List V->Prop)(r:Nat->Heap->Prop):Prop where
 ne:a≠it
 keep:∀i h h',r i h->(∀o,h.get? it=some o->h'.get? it=some o)->r i h'
 live:∀i h,r i h->∃o,h.get? it=some o/\∀v,o.data≠.cell v
 one:∀(X:Cx),X.K=K->∀(pins:List (Addr×Obj)) (s:Shared) (σ:St) (H:Hp) (xs ys:List V),Inv X pins σ H s->q H xs->q H ys->xs=ys
 row:∀(X:Cx),X.prog=P->X.w=w->X.K=K->∀(pins:List (Addr×Obj)) (s:Shared) (σ:St) (H:Hp) (xs:List V),Inv X pins σ H s->q H xs->∃(its:List Value),aG xs its/\∀(A:Around),A.handled=none ->
  ∃St:Nat->Heap->Prop,Draws P w A it [it,a] its.length (λi v=>its[i]?=some v) St/\(∀i,r i s.heap->St i s.heap)/\∀i h,St i h->r i h
def zi{K:Mx}(S:Src P w K a it q r)(ao:e≠it)(a9:e≠a) :
  tj P w K (.Tuple ts j tp) (Ite q) [e,it] e (λi h=>(∃old,IsEnum h e it (i:Nat) old)/\r i h) where
 mem:=.head _
 obj:=λi h st b J=>by
  obtain⟨⟨old,U⟩,Y⟩:=st;rcases Jp.mp J with rfl|J
  .exact⟨_,U,λv z=>by cases z⟩
  .have z:b=it:=by simpa using J
   subst z;exact S.live i h Y
 keep:=λi h h' ⟨⟨old,U⟩,Y⟩ k=>⟨⟨old,k e (.head _) _ U⟩,S.keep i h h' Y (k it (.tail _ (.head _)))⟩
 item:=by
  intro X hP hw hK hc i pins s σ H E I hf st hg;obtain⟨⟨old,U⟩,Y⟩:=st;obtain⟨xs,hq,hi⟩:=hg;obtain⟨its,rv,dr⟩:=S.row X hP hw hK pins s σ H xs I hq;have hh:=I.ok.hd hc;obtain⟨St,D,Z,aO⟩:=dr X.A.in1 (by simpa using hh);have hl:=rv.length;have fe:=hf e (.head _);have fi:=hf it (.tail _ (.head _));refine wpAny_pyNext_enum_itemD D U (Z i Y) (by omega) ao (by simp only[Jp,Kw,Lg,not_or];exact⟨ao,a9⟩) λx h' tk px eo b4 tup sz kp=>?_
  refine⟨_,rfl,wpAny_letOwnedTupleGo_enum eo λh2 a0 a1=>?_⟩;have hx:=hi;obtain⟨u,hu,ru⟩:=rv.get (Jy hx);have ex:x=u:=by
   have:=px.symm.trans hu;simpa using this
  subst ex;have fresh:=I.hok.fresh (pd _);have ne:∀b o,s.heap.get? b=some o->b≠s.heap.objs.size:=λb o q z=>J5 _ (by have:=tf q;rw[z]at this;exact this)
  have en:=ne _ _ U;obtain⟨oi,b5,_⟩:=S.live i _ Y;have a2:=ne _ _ b5;have I1:Inv X pins σ (upd H s.heap.objs.size (.tup [.int i,xs[i]])) { s with heap:=s.heap.push { cls:=.type "tuple",data:=.seq #[.int i tk,x] } }:=
   I.laid (t':=s.toks) (λb o q=>g4 _ q) (pd _) ⟨by show 2<=sizeLine;decide,_,.cons ⟨_,rfl⟩ (.cons ru .nil),IsTup.new _ _⟩
  have up:∀b,b≠s.heap.objs.size->kF X pins H b->kF X pins (upd H s.heap.objs.size (.tup [.int i,xs[i]])) b:=λb J ⟨z,r⟩=>⟨by rw[aZ J];exact z,r⟩
  have I2:=I1.turned2 (h':=h2) (t':=tk+1) (e:=e) (it:=it) (g4 _ U) rfl ⟨_,a0⟩ (λb o a3 cd q=>?_) (up e en fe) (up it a2 fi)
  .refine⟨.ref s.heap.objs.size,_,I2,rfl,⟨_,rfl,fresh,_,rfl,λys hy=>?_⟩,⟨⟨_,by simpa using a0⟩,?_⟩,λb J=>?_⟩
   .rw[S.one X hK pins s σ H ys xs I hy hq];exact Jy hx
   .refine aO _ _ (D.frame _ _ _ b4 λb J o q=>?_);rw[a1.2 b λz=>?_]
    .exact q
    .simp_all
   .rcases Jp.mp J with rfl|J
    .exact(up b en fe).1
    .have z:b=it:=by simpa using J
     subst z;exact(up b a2 fi).1
  .rw[a1.2 b a3];rcases Heap.get?_push_cases q with⟨rfl,rfl⟩|q
   .exact tup
   .exact kp b o a3 cd q
 done:=by
  intro X hP hw hK hc i pins s σ H E I hf st hg;obtain⟨⟨old,U⟩,Y⟩:=st;obtain⟨xs,hq,hi⟩:=hg;obtain⟨its,rv,dr⟩:=S.row X hP hw hK pins s σ H xs I hq;have hh:=I.ok.hd hc;obtain⟨St,D,Z,aO⟩:=dr X.A.in1 (by simpa using hh);have hl:=rv.length;obtain⟨f0,f1,f2,f3,f4,f5⟩:=hf it (.tail _ (.head _));have e:i=its.length:=by omega
  subst e;exact wpAny_pyNext_enum_endD D U (Z _ Y) λh' eb=>⟨rfl,I.turned (t':=s.toks) (λb o J q=>eb b o J q) f0 f1 f3 f4 f5⟩
 self:=λ_ i s Q E ⟨⟨old,U⟩,_⟩ h=>wpAny_pyIter_enum U h
def zj{K:Mx}(ne:a≠it):Src P w K a it (λH xs=>SqL K H a xs) (λi h=>h.IsListIter it a i) where
 ne:=ne
 keep:=λi h h' ⟨o,ho,r⟩ k=>⟨o,k o ho,r⟩
 live:=λi h ⟨o,ho,_,hd⟩=>⟨o,ho,λv z=>by rw[hd]at z;cases z⟩
 one:=λX J pins s σ H xs ys I h h'=>by subst J;exact I.list_inj h h'
 row:=λX U hw J pins s σ H xs I h=>by
  subst U hw J;obtain⟨its,Y,p,_⟩:=I.list h;refine⟨its,Y,λA Z=>⟨λi h=>h.IsListIter it a i/\h.IsList a its.toArray,?_,λi st=>⟨st,p.isList⟩,λi h' st=>st.1⟩⟩;simpa using Draws.list (prog:=X.prog) (w:=X.w) Z it a ne its.toArray
def BU{K:Mx}(ne:a≠it):Src P w K a it (λH xs=>SqT K H a xs) (λi h=>h.IsTupleIter it a i) where
 ne:=ne
 keep:=λi h h' ⟨o,ho,r⟩ k=>⟨o,k o ho,r⟩
 live:=λi h ⟨o,ho,_,hd⟩=>⟨o,ho,λv z=>by rw[hd]at z;cases z⟩
 one:=λX J pins s σ H xs ys I h h'=>by subst J;exact I.tuple_inj h h'
 row:=λX U hw J pins s σ H xs I h=>by
  subst U hw J;obtain⟨its,Y,p,_⟩:=I.tuple h;refine⟨its,Y,λA Z=>⟨λi h=>h.IsTupleIter it a i/\h.IsTuple a its.toArray,?_,λi st=>⟨st,(show s.heap.IsTuple a its.toArray from p)⟩,λi h' st=>st.1⟩⟩;simpa using En.draws (P:=X.prog) (w:=X.w) Z it a ne its.toArray
noncomputable def IU(K:Mx)(tl:TE):TI:=λσ H R=>tl σ H λx H1=>∃a,x=.ref a/\(((∃xs,SqL K H1 a xs)/\R (Ite λH xs=>SqL K H a xs) H1)\/((∃xs,SqT K H1 a xs)/\R (Ite λH xs=>SqT K H a xs) H1))
def rZ{σ:St}{H:Hp}{s:Shared}{E:Value->Shared->Prop}{h':Heap}{U:List Expr}{j:Nat}{Y:Pos}{a:Addr}{q:Hp->List V->Prop}{r:Nat->Heap->Prop}{R:It->Hp->Prop}(I:Inv X pins σ H s)(Z:a<s.heap.objs.size)
  (S:Src X.prog X.w X.K a s.heap.objs.size q r) (J:IsEnum h' (s.heap.objs.size+1) s.heap.objs.size 0 .none) (hr:r 0 h') (k:∀b o,s.heap.get? b=some o->h'.get? b=some o) (hR:R (Ite q) H) :
  wpAny (model X.prog X.w) X.A (pyIter (.ref (s.heap.objs.size+1))) (PIE X pins σ (.Tuple U j Y) R) E { s with heap:=h' }:=by
 have I1:=I.kept (t':=s.toks) k;refine wpAny_pyIter_enum (s:={ s with heap:=h' }) J ⟨s.heap.objs.size+1,[s.heap.objs.size+1,s.heap.objs.size],_,_,H,rfl,I1,zi S (Nat.succ_ne_self _) (Kx (JO Z)),⟨⟨_,J⟩,hr⟩,λb z=>?_,hR⟩;have z:s.heap.objs.size<=b:=by
  simp only[Jp,Kw,Lg]at z;rcases z with rfl|rfl
  .exact Kp _
  .exact pd _
 exact I.fpOk z (I.hok.fresh z)
def zk (hg:Gl X "enumerate") (hm:X.mg "enumerate"=none) (hl:PE X l tl) (hs:starEach [l] X.env=[(false,eval l X.env)]:=by rfl) :
  PI X (.Tuple ts j tp) (.Call (.Name "enumerate" p) [l] [] pos) (IU X.K tl):=by
 intro pins s σ H R I h;refine Call_ (iA I hg hm PyProof.Rows.boot_enumerate (J7 (thn (aP hl bF hs pos pins s σ H (λvs H1=>match vs with
  | [x]=>∃a,x=.ref a/\(((∃xs,SqL X.K H1 a xs)/\R (Ite λH xs=>SqL X.K H a xs) H1)\/((∃xs,SqT X.K H1 a xs)/\R (Ite λH xs=>SqT X.K H a xs) H1))
  | _=>False) I h) λus s1 ⟨vs,H1,J,r1,U⟩=>?_) hs rfl))
 cases r1 with
 |nil=>exact U.elim
 |cons r rr =>
  cases rr with
  |cons _ _=>exact U.elim
  |nil =>
   obtain⟨a,e,q⟩:=U;subst e;cases r;rcases q with⟨⟨xs,Y⟩,q⟩|⟨⟨xs,Y⟩,q⟩
   .obtain⟨its,_,pl,_⟩:=J.list Y;have z:=let ⟨o,ho,_⟩:=pl.isList;tf ho
    exact call_enumerate_list pl.isList λh' Z it _ k=>rZ J z (zj (Jr z)) Z it k q
   .obtain⟨its,_,pt,_⟩:=J.tuple Y;have z:=let ⟨o,ho,_⟩:=pt;tf ho
    exact En.call_tup pt λh' Z it _ k=>rZ J z (BU (Jr z)) Z it k q
end L2
namespace MM
open PySem PySem.Spec PyProof.Rows L2 List Option
structure ni(K:Mx)(J:It)(xs:List PV)(V G:Hp):Prop where
 stop:∀H',ai G H'->J.stop xs.length H'
 go:∀(i:Nat) x H',ai G H'->xs[i]?=some x->J.go i H'
 yld:∀(i:Nat) x H' u H2,ai G H'->xs[i]?=some x->J.yld i H' u H2->ai H' H2/\∀O',(∀a∈O',H' a≠none)->ai V (av H2 O')->Rep K (av H2 O') x u
def ni.weak{K:Mx}{V G z:Hp}(h:ni K J xs V G)(s:ai G z):ni K J xs V z:=
 ⟨λH' s'=>h.stop H' (s.trans s'),λi x H' s'=>h.go i x H' (s.trans s'),λi x H' u H2 s'=>h.yld i x H' u H2 (s.trans s')⟩
noncomputable def bj(ms:List ME)(W:Rho)(σ:St):List Addr:=match ms with
 | [.bor i]=>(match (W[i]?).join,(σ[i]?).join with|some (.own _),some (.ref a)=>[a]|_,_=>[])
 | _=>[]
noncomputable def bc(B:Hp)(O:List Addr)(H:Hp)(L:List Addr):Hp:=λb=>if b∈O then(if b∈L then H b else B b)else H b
section
variable{K:Mx}{B H:Hp}{O L:List Addr}
def nj(s:ai B H):ai (bc B O H L) H:=λb u e=>by
 unfold bc at e;split at e
 .split at e
  .exact e
  .exact s b u e
 .exact e
def dY(s:ai B H):ai B (bc B O H L):=λb u e=>by
 unfold bc;split
 .split
  .exact s b u e
  .exact e
 .exact s b u e
def cb:ai (av H O) (bc B O H L):=λb u e=>by
 have J:b∉O:=λz=>by rw[eI z]at e;cases e
 unfold bc;rw[if_neg J];rw[ba J]at e;exact e
end
def mn{K:Mx}{V G:Hp}(h:SqL K G a us)(r:Reps K V xs us):ni K (Itl K a) xs V G where
 stop:=λH' s=>⟨us,s.seq h,LO r.length.symm⟩
 go:=λi x H' s e=>by
  obtain⟨u,z,_⟩:=r.get e;exact⟨us,u,s.seq h,z⟩
 yld:=λi x H' u H2 s e y=>by
  obtain⟨rfl,y⟩:=y;obtain⟨w,z,q⟩:=r.get e;have J:=y us (s.seq h);rw[z]at J;cases J;exact⟨ai.refl _,λU _ sv=>Rep.mono sv _ q⟩
def zl{K:Mx}{V G:Hp}(h:SqT K G a us)(r:Reps K V xs us):ni K (Itt K a) xs V G where
 stop:=λH' s=>⟨us,s.seqT h,LO r.length.symm⟩
 go:=λi x H' s e=>by
  obtain⟨u,z,_⟩:=r.get e;exact⟨us,u,s.seqT h,z⟩
 yld:=λi x H' u H2 s e y=>by
  obtain⟨rfl,y⟩:=y;obtain⟨w,z,q⟩:=r.get e;have J:=y us (s.seqT h);rw[z]at J;cases J;exact⟨ai.refl _,λU _ sv=>Rep.mono sv _ q⟩
def nk{K:Mx}{V G:Hp}{lo:Int} :ni K (Itr lo n) ((range n).map λ(k:Nat)=>.int (lo+k)) V G where
 stop:=λH' s=>by simp[Itr]
 go:=λi x H' s e=>by
  have:=(Jt.mp e).1;simpa[Itr]using this
 yld:=λi x H' u H2 s e y=>by
  obtain⟨rfl,rfl⟩:=y;refine⟨ai.refl _,λz _ sv=>?_⟩;have hi:i<n:=by have:=(Jt.mp e).1;simpa using this
  rw[JF,getElem?_range hi]at e;cases e;rw[Rep]
def ED{K:Mx}(J:∀a∈O,H a≠none)(U:H p=none)(h:Reps K (av (upd H p (.tup us)) O) xs us):Rep K (av (upd H p (.tup us)) O) (.tup xs) (.ref p):=by
 refine⟨p,us,rfl,?_,h⟩;rw[ba λz=>J p z U];exact ax ..
theorem vC:∀xs (k i:Nat),(bu k xs)[i]?=(xs[i]?).map λx=>.tup [.int ((k+i:Nat):Int),x]
 | [],k,i=>by simp[bu]
 |x::xs,k,0=>by simp[bu]
 |x::xs,k,i+1=>by
  rw[bu,getElem?_cons_succ,getElem?_cons_succ,vC xs (k+1) i,show k+1+i=k+(i+1)by omega]
theorem nl:∀xs k,(bu k xs).length=xs.length
 | [],_=>rfl
 |x::xs,k=>by rw[bu,length_cons,length_cons,nl xs]
def kZ{K:Mx}{V G:Hp}{q:Hp->List L2.V->Prop}{xs:List PV}{us:List L2.V}(h:∀H',ai G H'->q H' us)(r:Reps K V xs us):ni K (Ite q) (bu 0 xs) V G where
 stop:=λH' s=>⟨us,h H' s,by rw[nl];exact r.length⟩
 go:=λi x H' s e=>by
  refine⟨us,h H' s,?_⟩;have:=(Jt.mp e).1;rw[nl]at this;rw[<- r.length];exact this
 yld:=λi x H' u H2 s e y=>by
  refine az λZq Y=>?_
  obtain⟨p,rfl,J,v,rfl,y⟩:=y;rw[vC]at e;obtain⟨z,Z,rfl⟩:=p0.mp e;obtain⟨w,e2,rz⟩:=r.get Z;have U:=y us (h H' s);rw[e2]at U;cases U;refine Y ?_;refine⟨ay J _,λO' hO sv=>?_⟩;rw[KQ];refine ED hO J (.cons (bU _ _) (.cons (Rep.mono sv _ rz) .nil))
noncomputable def tW(K:Mx)(cal:Cal)(k:Sk)(ms:List ME):TI:=λσ H R =>
 ∃B E O W vs xs,aE K B E O H W σ/\evs cal ms W=some vs/\bf k vs=some xs/\∀J H1,ai H H1->ni K J xs (av H1 O) (bc B O H1 (bj ms W σ))->R J H1
section
variable{X:Cx}{cal:Cal}{tg:Expr}
theorem PI.or(h:PI X tg e t)(g:PI X tg e u):PI X tg e (λσ H R=>t σ H R\/u σ H R):=λpins s σ H R I q=>q.elim (h pins s σ H R I) (g pins s σ H R I)
theorem ql:∀{ms}{W}{vs},evs cal ms W=some vs->vs.length=ms.length
 | [],_,_,h=>by simp[evs]at h;subst h;rfl
 |m::ms,_,_,h=>by
  simp[evs,gk]at h;obtain⟨v,_,w,z,rfl⟩:=h;simp[ql z]
def r6(h:evs cal [m] W=some vs):∃v,vs=[v]/\ev cal m W=some v:=by
 simp[evs,gk]at h;obtain⟨v,e,w,z,rfl⟩:=h
 simp_all
def qm{K:Mx}(h:Rep K F v u)(e:a_ v=some xs):∃a us,u=.ref a/\Reps K F xs us/\((v=.lst xs/\SqL K F a us)\/(v=.tup xs/\SqT K F a us)):=by
 cases v<;>first|(simp[a_]at e;subst e;rw[Rep]at h;obtain⟨a,us,e,q,r⟩:=h;exact⟨a,us,e,r,.inl ⟨rfl,q⟩⟩)|(simp[a_]at e;subst e;rw[Rep]at h;obtain⟨a,us,e,q,r⟩:=h;exact⟨a,us,e,r,.inr ⟨rfl,d7 q⟩⟩)|simp[a_]at e
def G1(U:aK m=false)(h:PE X e (tE X.K cal m)):PI X tg e (tW X.K cal .seq [m]):=by
 refine(PI.or (uU h) (xN h)).imp λσ H R q=>?_
 obtain⟨B,E,O,W,vs,xs,st,e1,e2,q⟩:=q;obtain⟨v,rfl,Z⟩:=r6 e1;have z:a_ v=some xs:=e2;have hl:bj [m] W σ=[]:=by cases m<;>first|rfl|cases U
 rw[hl]at q;cases v with
 |lst ys =>
  simp[a_]at z;subst z
  refine .inl ⟨B,E,O,W,_,st,Z,λu H' s g=>?_⟩;have r:=g.2 U;rw[Rep]at r;obtain⟨a,us,rfl,J,Y⟩:=r;exact⟨a,rfl,⟨us,(bP H' O).seq J⟩,q _ _ s (mn (cb.seq J) Y)⟩
 |tup ys =>
  simp[a_]at z;subst z
  refine .inr ⟨B,E,O,W,_,st,Z,λu H' s g=>?_⟩;have r:=g.2 U;obtain⟨a,us,rfl,J,Y⟩:=r;exact⟨a,rfl,⟨us,(bP H' O).seqT (d7 J)⟩,q _ _ s (zl (cb.seqT (d7 J)) Y)⟩
 | _=>simp[a_]at z
def G2(h:aW X.N X.env.scope i x=true):PI X tg (.Name x pos) (tW X.K cal .seq [.bor i]):=by
 refine(PI.or (uU (ca h)) (xN (ca h))).imp λσ H R q=>?_
 refine az λZq kq=>?_
 obtain⟨B,E,O,W,vs,xs,st,e1,e2,q⟩:=q;obtain⟨v,rfl,J⟩:=r6 e1;have U:a_ v=some xs:=e2;rw[ev]at J;refine kq ?_;cases hj:(W[i]?).join with
 |none=>rw[hj]at J;cases J
 |some m =>
  rw[hj]at J;obtain⟨u,eu,so⟩:=aU st hj;cases m with
  |val w =>
   simp only[bv,tr]at J;subst J;have a1:=so;obtain⟨a,us,rfl,Z,z⟩:=qm a1 U;rcases z with⟨rfl,Y⟩|⟨rfl,Y⟩
   .exact .inl ⟨_,eu,a,rfl,⟨us,(bP H O).seq Y⟩,q _ _ (ai.refl H) (mn (cb.seq Y) Z)⟩
   .exact .inr ⟨_,eu,a,rfl,⟨us,(bP H O).seqT Y⟩,q _ _ (ai.refl H) (zl (cb.seqT Y) Z)⟩
  |own ys =>
   simp only[bv,tr]at J;subst J;simp[a_]at U;subst U
   obtain⟨a,us,rfl,ha,Z,hO,_⟩:=so;refine .inl ⟨_,eu,a,rfl,⟨us,SqL.of ha⟩,q _ _ (ai.refl H) (mn (SqL.of ?_) Z)⟩;have hl:bj [.bor i] W σ=[a]:=by simp[bj,hj,eu]
   unfold bc
   simp_all
  |brw ys =>
   simp only[bv,tr]at J;subst J;simp[a_]at U;subst U
   obtain⟨a,us,rfl,Y,Z⟩:=so;exact .inl ⟨_,eu,a,rfl,⟨us,st.keep.seq Y⟩,q _ _ (ai.refl H) (mn ((dY st.keep).seq Y) Z)⟩
  |ownD ys =>
   have J:=vi J;subst J;simp[a_]at U
  |mutD ys =>
   have J:=vk J;subst J;simp[a_]at U
  |brwD ys =>
   have J:=vj J;subst J;simp[a_]at U
def G3 (g:Gf X T k cal) (hf:f=("enumerate":Str)) (hg:glB X.env.scope f=true) (hs:ah e=true) (hb:aK m=false) (h:PE X e (tE X.K cal m)):PI X (.Tuple ts j tp) (.Call (.Name f p) [e] [] pos) (tW X.K cal .enm [m]):=by
 subst hf;have J:starEach [e] X.env=[(false,eval e X.env)]:=by cases e<;>first|rfl|(simp[ah]at hs)
 refine(zk (di hg) (g.blt "enumerate" (by decide)) h J).imp λσ H R q=>?_
 obtain⟨B,E,O,W,vs,xs,st,e1,Z,q⟩:=q;obtain⟨v,rfl,e3⟩:=r6 e1;simp[bf,p0]at Z;obtain⟨ys,e4,rfl⟩:=Z;refine⟨B,E,O,W,_,st,e3,λu H' s g=>?_⟩;obtain⟨a,us,rfl,rs,z⟩:=qm (g.2 hb) e4;rcases z with⟨_,U⟩|⟨_,U⟩
 .exact⟨a,rfl,.inl ⟨⟨us,(bP H' O).seq U⟩,q _ _ s (kZ (λH2 Y=>Y.seq (cb.seq U)) rs)⟩⟩
 .exact⟨a,rfl,.inr ⟨⟨us,(bP H' O).seqT U⟩,q _ _ s (kZ (λH2 Y=>Y.seqT (cb.seqT U)) rs)⟩⟩
def EE (g:Gf X T k cal) (hf:f=("enumerate":Str)) (hg:glB X.env.scope f=true) (h:aW X.N X.env.scope i x=true):PI X (.Tuple ts j tp) (.Call (.Name f p) [.Name x px] [] pos) (tW X.K cal .enm [.bor i]):=by
 subst hf;refine(zk (di hg) (g.blt "enumerate" (by decide)) (ca h) rfl).imp λσ H R q=>?_
 obtain⟨B,E,O,W,vs,xs,st,e1,e2,q⟩:=q;obtain⟨v,rfl,J⟩:=r6 e1;simp only[bf,p0]at e2;obtain⟨zs,U,rfl⟩:=e2;rw[ev]at J;cases hj:(W[i]?).join with
 |none=>rw[hj]at J;cases J
 |some m =>
  rw[hj]at J;obtain⟨u,eu,so⟩:=aU st hj;cases m with
  |val w =>
   simp only[bv,tr]at J;subst J;have a2:=so;obtain⟨a,us,rfl,rs,z⟩:=qm a2 U;rcases z with⟨rfl,Y⟩|⟨rfl,Y⟩
   .exact⟨_,eu,a,rfl,.inl ⟨⟨us,(bP H O).seq Y⟩,q _ _ (ai.refl H) (kZ (λH2 Z=>Z.seq (cb.seq Y)) rs)⟩⟩
   .exact⟨_,eu,a,rfl,.inr ⟨⟨us,(bP H O).seqT Y⟩,q _ _ (ai.refl H) (kZ (λH2 Z=>Z.seqT (cb.seqT Y)) rs)⟩⟩
  |own ys =>
   simp only[bv,tr]at J;subst J;simp[a_]at U;subst U
   obtain⟨a,us,rfl,ha,rs,hO,_⟩:=so;have hl:bj [.bor i] W σ=[a]:=by simp[bj,hj,eu]
   have hG:bc B O H (bj [.bor i] W σ) a=some (.lst us):=by
    unfold bc
    simp_all
   exact⟨_,eu,a,rfl,.inl ⟨⟨us,SqL.of ha⟩,q _ _ (ai.refl H) (kZ (λH2 Z=>Z.seq (SqL.of hG)) rs)⟩⟩
  |brw ys =>
   simp only[bv,tr]at J;subst J;simp[a_]at U;subst U
   obtain⟨a,us,rfl,Y,rs⟩:=so;exact⟨_,eu,a,rfl,.inl ⟨⟨us,st.keep.seq Y⟩,q _ _ (ai.refl H) (kZ (λH2 Z=>Z.seq ((dY st.keep).seq Y)) rs)⟩⟩
  |ownD ys =>
   have J:=vi J;subst J;simp[a_]at U
  |mutD ys =>
   have J:=vk J;subst J;simp[a_]at U
  |brwD ys =>
   have J:=vj J;subst J;simp[a_]at U
def BV (g:Gf X T k cal) (hf:f=("range":Str)) (hg:glB X.env.scope f=true) (ha:PA X args (tEs X.K cal ms)) (hn:args.length=1\/args.length=2) (hs:args.all ah=true) (hm:ms.length=args.length) :
  PI X tg (.Call (.Name f p) args [] pos) (tW X.K cal .rng ms):=by
 subst hf;have J:∀e,ah e=true->∀es env,starEach (e::es) env=(false,eval e env)::starEach es env:=λe he es env=>by
  cases e<;>first|rfl|(simp[ah]at he)
 match args,hn with
 | [a],_ =>
  simp only[all_cons,all_nil,Bool.and_true]at hs;refine(oK (di hg) (g.blt "range" (by decide)) ha (by rw[J a hs];rfl)).imp λσ H R q=>?_
  obtain⟨B,E,O,W,vs,xs,st,U,z,q⟩:=q;refine⟨B,E,O,W,vs,st,U,λus H' s gs=>?_⟩
  match vs,z,gs with
  | [.int j],z,gs =>
   simp only[bf]at z;split at z
   .rename_i c;cases z;obtain⟨u,rfl,Y⟩:=p1 gs.1;have Z:=Y.int;subst Z;exact⟨j,rfl,c.1,c.2,q _ _ s nk⟩
   .cases z
  | [.int j,.int j'],z,gs =>
   have:=ql U
   simp_all
 | [a,b],_ =>
  simp only[all_cons,all_nil,Bool.and_true,oe]at hs;refine(wl (di hg) (g.blt "range" (by decide)) ha (by rw[J a hs.1,J b hs.2];rfl) (by rw[J b hs.2];rfl)).imp λσ H R q=>?_
  obtain⟨B,E,O,W,vs,xs,st,U,z,q⟩:=q;refine⟨B,E,O,W,vs,st,U,λus H' s gs=>?_⟩
  match vs,z,gs with
  | [.int i,.int j],z,gs =>
   simp only[bf]at z;split at z
   .rename_i c;cases z;obtain⟨u,u',rfl,Y,ao⟩:=p2 gs.1;have Z:=Y.int;have e4:=ao.int;subst Z e4;exact⟨i,j,rfl,c,q _ _ s nk⟩
   .cases z
  | [.int j],z,gs =>
   have:=ql U
   simp_all
end
noncomputable def tF(K:Mx)(cal:Cal)(z:ME):TE:=λσ H Q=>∃B E O W xs,aE K B E O H W σ/\ev cal z W=some (.lst xs) /\
 ∀p us H',ai H H'->H p=none->H' p=some (.lst us)->Reps K (av H' (p::O)) xs us->Q (.ref p) H'
def g9 :ai (av H (p::O)) (av H O):=bK (ai.refl H) λb z=>.inl (J6 _ z)
def iL(h:p∈O):av (upd H p o) O=av H O:=by
 funext b
 unfold av;split
 .rfl
 .rename_i J;exact aZ λz=>J (by rw[z];exact h)
def vD{K:Mx}{H H':Hp}{O:List Addr}{J:ME}{xs:List PV}{p:Addr}{us:List V}(U:∀a∈O,H a≠none)(Y:H p=none)(e:H' p=some (.lst us))(r:Reps K (av H' (p::O)) xs us):Got K H' O J (.lst xs) (.ref p):=by
 refine .of ?_;refine⟨p,us,rfl,SqL.of ?_,Reps.mono g9 _ r⟩;rw[ba λz=>U p z Y];exact e
section
variable{X:Cx}{T:Tab}{k:Nat}{cal:Cal}
def dB(U:∀W v,ev cal z W=some v->∃xs,v=.lst xs)(h:PE X e (tF X.K cal z)):PE X e (tE X.K cal z):=by
 refine h.imp λσ H Q q=>?_
 obtain⟨B,E,O,W,v,st,J,q⟩:=q;obtain⟨xs,rfl⟩:=U W v J;exact⟨B,E,O,W,xs,st,J,λp us H' s Y Z r=>q _ _ s (vD st.here Y Z r)⟩
theorem Gf.blk(g:Gf X T k cal)(x)(fvs)(scope)(z)(J)(C)(fp):Gf (X.blk x fvs scope z J C fp) T k cal:={ g with }
def k4(h:fF osc N scope x fvs js=true):kQ osc N scope x fvs js:=by
 unfold fF at h;simp only[oe,Ju,Ki]at h;obtain⟨⟨⟨⟨⟨⟨⟨⟨h1,h2⟩,z⟩,J⟩,U⟩,Y⟩,Z⟩,h8⟩,h9⟩:=h;exact⟨h1,h2,z,J,U,Y,Z,h8,h9⟩
def EF{K:Mx}{σ F:St}(st:aE K B E O H W σ)(U:ai H H1)(s2:ai H1 H2)(hD:H1 D=none)(a1:H2 D≠none)
  (a2:∀z,F.set 0 z=(fo js σ).set 0 z) (hl:0<F.length) (hx:Rep K (av H2 (D::O)) x ux):aE K H1 [] (D::O) H2 (b7 js W x) (F.set 0 (some ux)):=by
 have hv:ai (av H O) (av H2 (D::O)):=bK (U.trans s2) λb hb=>by
  rcases Jp.mp hb with rfl|hb
  .exact .inr (U.free hD)
  .exact .inl hb
 rw[a2];have Y:∀(i:Nat) m,iI m=true->(b7 js W x)[i]?≠some (some m):=λi m hm e=>by
  unfold b7 at e;cases i with
  |zero =>
   simp at e;subst e;cases hm
  |succ i =>
   simp only[getElem?_cons_succ,JF,p0]at e;obtain⟨j,_,e⟩:=e;cases Z:(W[j]?).join with
   |none=>rw[Z]at e;cases e
   |some mm =>
    rw[Z]at e;cases mm<;>first|(simp[fD]at e;done)|(simp only[fD,tr]at e;subst e;cases hm)
 refine⟨s2,λa J=>?_,λa J=>by simp at J,λa J=>by simp at J,?_,λi m e=>?_,λi j m m' a _ e _ hm=>absurd e (Y i m hm)
  ⟩
 .rcases Jp.mp J with rfl|J
  .exact a1
  .exact λe=>st.here a J ((U.trans s2).free e)
 .simp[b7,fo]
 .cases i with
  |zero =>
   simp only[b7,getElem?_cons_zero,tr]at e;subst e;exact⟨ux,by simp[fo],hx⟩
  |succ i =>
   simp only[b7,getElem?_cons_succ,JF,p0]at e;obtain⟨j,ej,e⟩:=e;cases Z:(W[j]?).join with
   |none=>rw[Z]at e;cases e
   |some mm =>
    rw[Z]at e;obtain⟨u,eu,so⟩:=aU st Z;have a5:((fo js σ).set 0 (some ux))[i+1]?=some (some u):=by
     simp[fo,ej,eu]
    refine⟨u,a5,?_⟩;cases mm with
    |val w =>
     simp only[fD,tr]at e;subst e;exact Rep.mono hv _ so
    |own ys =>
     simp only[fD,tr]at e;subst e;obtain⟨a,us,rfl,J,rs,hO,_⟩:=so;exact⟨a,us,rfl,SqL.of (U _ _ J),Reps.mono hv _ rs⟩
    |brw ys =>
     simp only[fD,tr]at e;subst e;obtain⟨a,us,rfl,sq,rs⟩:=so;exact⟨a,us,rfl,(st.keep.trans U).seq sq,Reps.mono hv _ rs⟩
    |brwD kvs =>
     simp only[fD,tr]at e;subst e;obtain⟨a,rfl,J⟩:=so;exact⟨a,rfl,ai.rd (st.keep.trans U) J⟩
    | _ =>
     simp only[fD,tr]at e;subst e;obtain⟨a,rfl,J,_⟩:=so;exact⟨a,rfl,.inl (U _ _ J)⟩
def ui{cond elt:ME}(g:Gf X T k cal)(U:fF X.env.scope X.N scope x (dA X.N js) js=true)
  (hw:PI X (.Name x px) it (tW X.K cal Z ms)) (Y:eZ it=true)
  (hc:∀z J C fp,PF (X.blk x (dA X.N js) scope z J C fp) ifs (tT X.K cal cond)) (he:∀z J C fp,PE (X.blk x (dA X.N js) scope z J C fp) e (tE X.K cal elt)) (hb:aK elt=false) :
  PE X (.ListComp e [⟨.Name x px,it,ifs,0⟩] scope pos) (tF X.K cal (.comp Z ms js cond elt)):=by
 refine(u9 (k4 U) g.calm hw hc he (by intro v;cases it<;>first|rfl|(simp[eZ]at Y))).imp λσ H Q q=>?_
 exact comp_go hb q
where
 comp_go {k':Sk}{ms:List ME}{js:List Nat}{cond elt:ME}{K:Mx}{σ:St}{H:Hp}{Q:VK} (hb:aK elt=false) (q:tF K cal (.comp k' ms js cond elt) σ H Q):yu (tW K cal k' ms) js (tT K cal cond) (tE K cal elt) σ H Q:=by
  refine az λZq kq=>?_
  obtain⟨B,E,O,W,ws,st,e1,q⟩:=q;rw[ev]at e1;simp only[gk]at e1;obtain⟨vs,e1,xs,e2,e3⟩:=e1;refine kq ?_;split at e3
  .rename_i hlen;simp only[p0,PV.lst.injEq,exists_eq_right]at e3;refine⟨B,E,O,W,vs,xs,st,e1,e2,λJ H1 s1 it D hD=>?_⟩;have hDO:D∉O:=λz=>bq s1 st.here D z hD
   have it1:=it.weak (nj (st.keep.trans s1));refine⟨λi m F H'=>m=xs.length-i/\i<=xs.length/\ai H1 H'/\(∀z,F.set 0 z=(fo js σ).set 0 z)/\0<F.length/\∃done bN ys,fQ (λx=>(ev cal cond (b7 js W x)).bind bb) (λx=>ev cal elt (b7 js W x)) (xs.drop i)=some bN/\ws=done++bN/\done.length<=i/\H' D=some (.lst ys)/\Reps K (av H' (D::O)) done ys,⟨xs.length,by simp,JZ _,ay hD _,λ_=>rfl,by simp[fo],[],ws,[],by simpa using e3,rfl,pd _,ax,.nil⟩,?_⟩;rintro i m F H' ⟨rfl,hi,s2,hσ,hl,done,bN,ys,eg,ew,hdl,hDy,rs⟩;by_cases hlt:i<xs.length
   .right;have ex:=Jy hlt;refine⟨it1.go i _ H' s2 ex,λσ2 H2=>∃m',m'<xs.length-i/\(m'=xs.length-(i+1)/\i+1<=xs.length/\ai H1 H2/\(∀z,σ2.set 0 z=(fo js σ).set 0 z)/\0<σ2.length/\∃done bN ys,fQ (λx=>(ev cal cond (b7 js W x)).bind bb) (λx=>ev cal elt (b7 js W x)) (xs.drop (i+1))=some bN/\ws=done++bN/\done.length<=i+1/\H2 D=some (.lst ys)/\Reps K (av H2 (D::O)) done ys),λσ2 H2 z=>z,λux H2 y=>?_⟩;obtain⟨s3,hr⟩:=it1.yld i _ H' ux H2 s2 ex y;have sv:ai (av H1 O) (av H2 (D::O)):=bK (s2.trans s3) λb hb=>by
     rcases Jp.mp hb with rfl|hb
     .exact .inr hD
     .exact .inl hb
    have hx:=hr (D::O) (λa ha=>by
     rcases Jp.mp ha with rfl|ha
     .rw[hDy];simp
     .exact λz=>bq s1 st.here a ha (s2.free z)) sv
    have hD2:=s3 _ _ hDy;have stb:=EF (js:=js) (W:=W) st s1 (s2.trans s3) hD (by rw[hD2];simp) hσ hl hx;rw[LW hlt,fQ]at eg;simp only[gk]at eg;obtain⟨b,eb,eg⟩:=eg;refine⟨H1,[],D::O,_,b,stb,by simpa[evB,gk]using eb,λH3 s4=>?_⟩;have hσ2:∀z,(F.set 0 (some ux)).set 0 z=(fo js σ).set 0 z:=λz=>by rw[set_set];exact hσ z
    have hl2:0<(F.set 0 (some ux)).length:=by rw[LB];exact hl
    cases b with
    |false =>
     rw[if_neg (by simp)]at eg;dsimp only;rw[if_neg (by simp)];refine⟨_,by omega,rfl,hlt,(s2.trans s3).trans s4,hσ2,hl2,done,bN,ys,eg,ew,by omega,s4 _ _ hD2,Reps.mono ?_ _ rs⟩;exact(am s3).trans (am s4)
    |true =>
     rw[if_pos rfl]at eg;dsimp only;rw[if_pos rfl];refine az λZq kq=>?_
     simp only[gk,p0]at eg;obtain⟨y',ey,rest',eg,rfl⟩:=eg;refine kq ?_;refine⟨H1,[],D::O,_,y',stb.mono s4,ey,λuy H4 s5 gy=>?_⟩;have hD4:=s5 _ _ (s4 _ _ hD2);have ry:=gy.2 hb;have rs4:=Reps.mono (((am s3).trans (am s4)).trans (am s5)) _ rs;have hyl:ys.length<=10000:=by rw[<- rs.length];omega
     refine⟨ys,hD4,Nat.lt_of_le_of_lt hyl (by decide),_,by omega,rfl,hlt,?_,hσ2,hl2,done++[y'],rest',ys++[uy],eg,by simp[ew],by simp;omega,ax,?_⟩
     .intro b u eb;rw[aZ (cx eb hD)];exact s5 _ _ (s4 _ _ ((s2.trans s3) _ _ eb))
     .rw[iL (Kf)];exact rs4.snoc ry
   .left;have ei:i=xs.length:=by omega
    subst ei;rw[drop_length,fQ]at eg;cases eg;rw[Kq]at ew;subst ew;exact⟨it1.stop H' s2,q D ys H' (s1.trans s2) (s1.free hD) hDy rs⟩
  .cases e3
def aV(z:ah e=true)(es)(env):starEach (e::es) env=(false,eval e env)::starEach es env:=by
 cases e<;>first|rfl|(simp[ah]at z)
theorem bT :∀{es},es.all ah=true->(backTo pos (starEach es env)).any (·.1)=false
 | [],_=>rfl
 |e::es,h=>by
  simp only[all_cons,oe]at h;rw[aV h.1];show(false||(backTo pos (starEach es env)).any (·.1))=false;rw[bT h.2];rfl
theorem bD:∀{ms}{N}{sc}{es},chks T ms N sc es=true->es.all ah=true/\ms.length=es.length
 | [],_,_,[],_=>⟨rfl,rfl⟩
 | [],_,_,_::_,h=>by simp[chks]at h
 | _::_,_,_,[],h=>by simp[chks]at h
 |m::ms,N,sc,e::es,h=>by
  simp[chks]at h;obtain⟨h1,h2⟩:=bD h.2;exact⟨by simp[h.1.2,h1],by simp[h2]⟩
def bw(h:PE X e (tE X.K cal Y))(J:kU e=true):PT X e (tT X.K cal Y):=by
 refine(Dl h (by intro w;cases e<;>first|rfl|(simp[kU]at J;done)|(rename_i op _ _;cases op<;>first|rfl|(simp[kU]at J)))).imp λσ H Q q=>?_
 obtain⟨B,E,O,W,b,st,z,q⟩:=q;simp[evB,gk]at z;obtain⟨v,z,U⟩:=z;refine⟨B,E,O,W,v,st,z,λu H' s g=>?_⟩;cases v<;>simp[bb]at U
 subst U;exact⟨_,g.1.bl,q H' s⟩
def zm(h:PE X e (tE X.K cal m))(hs:PA X es (tEs X.K cal ms))(hn:ah e=true):PA X (e::es) (tEs X.K cal (m::ms)):=by
 refine(aP h hs (aV hn es _)).imp λσ H Q q=>?_
 obtain⟨B,E,O,W,vs,st,z,q⟩:=q;simp[evs,gk,p0]at z;obtain⟨v,z,ws,e2,rfl⟩:=z;refine⟨B,E,O,W,v,st,z,λu H1 Y Z=>⟨B,E,O,W,ws,st.mono Y,e2,λus H2 J g2=>q _ H2 (Y.trans J) ⟨.cons (Z.1.mono J) g2.1,λU=>?_⟩⟩⟩;simp only[all_cons,oe,JC]at U;exact .cons ((Z.mono J).2 U.1) (g2.2 U.2)
def BW:PA X [] (tEs X.K cal []):=by
 refine bF.imp λσ H Q q=>?_
 obtain⟨B,E,O,W,vs,st,z,q⟩:=q;simp only[evs,tr]at z;subst z;exact q [] H (ai.refl H) ⟨.nil,λ_=>.nil⟩
def zn:PA X [] (tAs X.K cal []):=by
 refine bF.imp λσ H Q q=>?_
 obtain⟨B,E,O,W,vs,st,z,q⟩:=q;simp only[evA,tr]at z;subst z;exact q [] H (ai.refl H) .nil
def zo{K:Mx}(s:ai H H')(h:lz K O H m u):lz K O H' m u:=by
 cases m<;>first|exact Rep.mono (am s) _ h|exact h|(obtain⟨a,us,e,q,r⟩:=h;exact⟨a,us,e,s.seq q,Reps.mono (am s) _ r⟩)|(obtain⟨a,e,q⟩:=h;exact⟨a,e,ai.rd s q⟩)
def wR(J:aK m=false)(h:PE X e (tE X.K cal m))(hs:PA X es (tAs X.K cal ms))(Z:ah e=true):PA X (e::es) (tAs X.K cal (m::ms)):=by
 refine(aP h hs (aV Z es _)).imp λσ H Q q=>?_
 obtain⟨B,E,O,W,vs,st,e1,q⟩:=q;have z:(ev cal m W).bind (λv=>(evA cal ms W).map (MV.val v::·))=some vs:=by
  rw[<- e1];cases m<;>first|(cases J;done)|(simp;done)|rfl
 simp[gk]at z;obtain⟨v,e9,ws,e2,rfl⟩:=z;exact⟨B,E,O,W,v,st,e9,λu H1 U g1=>⟨B,E,O,W,ws,st.mono U,e2,λus H2 Y g2=>q _ H2 (U.trans Y) (.cons ((g1.mono Y).2 J) g2)⟩⟩
def zp(h:aW X.N X.env.scope i x=true)(hs:PA X es (tAs X.K cal ms)):PA X (.Name x pos::es) (tAs X.K cal (.bor i::ms)):=by
 refine(aP (ca h) hs rfl).imp λσ H Q q=>?_
 obtain⟨B,E,O,W,vs,st,z,q⟩:=q;rw[evA]at z;simp[gk,p0]at z;obtain⟨m',z,ws,e2,rfl⟩:=z;cases Y:(W[i]?).join with
 |none=>rw[Y]at z;cases z
 |some m =>
  rw[Y]at z;obtain⟨u,eu,J⟩:=aU st Y;have ao:lz X.K O H m' u:=by
   cases m with
   |val w=>simp[gm,tr]at z;subst z;exact J
   |own ys=>simp[gm,tr]at z;subst z;obtain⟨a,us,rfl,U,Z,_⟩:=J;exact⟨a,us,rfl,SqL.of U,Z⟩
   |brw ys=>simp[gm,tr]at z;subst z;obtain⟨a,us,rfl,sq,Z⟩:=J;exact⟨a,us,rfl,st.keep.seq sq,Z⟩
   |brwD kvs=>simp[gm,tr]at z;subst z;obtain⟨a,rfl,U⟩:=J;exact⟨a,rfl,ai.rd st.keep U⟩
   | _=>simp[gm,tr]at z;subst z;obtain⟨a,rfl,U,_⟩:=J;exact⟨a,rfl,.inl U⟩
  exact⟨u,eu,⟨B,E,O,W,ws,st,e2,λus H2 s2 g2=>q _ H2 s2 (.cons (zo s2 ao) g2)⟩⟩
def G4(Y:PE X l (tE X.K cal a))(Z:PE X r (tE X.K cal b)):PE X (.BinOp l (ua op) r pos) (tE X.K cal (.bin op a b)):=by
 refine(uV (uf op) Y Z).imp λσ H Q q=>?_
 obtain⟨B,E,O,W,v,st,z,q⟩:=q;rw[ev]at z;simp[gk]at z;obtain⟨x,z,y,e2,e3⟩:=z;exact⟨B,E,O,W,x,st,z,λux H1 J g1=>⟨B,E,O,W,y,st.mono J,e2,λuy H2 U g2=>⟨O,x,y,v,bq (J.trans U) st.here,g1.1.mono U,g2.1,e3,λu H3 s3 r=>q u H3 ((J.trans U).trans s3) (.of r)⟩⟩⟩
def G5(U:PE X e (tE X.K cal a)):PE X (.UnaryOp .Not e pos) (tE X.K cal (.not a)):=by
 refine(Dq U).imp λσ H Q q=>?_
 obtain⟨B,E,O,W,v,st,z,q⟩:=q;rw[ev]at z;simp only[gk,p0]at z;obtain⟨b,⟨x,z,J⟩,rfl⟩:=z;cases x<;>simp[bb,tr,reduceCtorEq]at J
 subst J;exact⟨B,E,O,W,_,st,z,λux H1 Y Z=>⟨_,Z.1.bl,q _ H1 Y (.of (d9 _ _))⟩⟩
def G6(U:PT X e (tT X.K cal a)):PT X (.UnaryOp .Not e pos) (tT X.K cal (.not a)):=by
 refine(Do U).imp λσ H Q q=>?_
 obtain⟨B,E,O,W,b,st,z,q⟩:=q;simp only[evB,ev,gk,p0]at z;obtain⟨v,⟨c,⟨x,z,Y⟩,rfl⟩,J⟩:=z;simp only[bb,tr]at J;subst J;exact⟨B,E,O,W,c,st,by simp[evB,z,Y],λH' s=>q H' s⟩
def C2(ha:PE X x (tE X.K cal a))(hb:PE X (.BoolOp .And (y::r) pos) (tE X.K cal b)):PE X (.BoolOp .And (x::y::r) pos) (tE X.K cal (.and a b)):=by
 refine(Dp ha hb).imp λσ H Q q=>?_
 obtain⟨B,E,O,W,v,st,U,q⟩:=q;rw[ev]at U;simp only[gk]at U;obtain⟨c,⟨z,U,Z⟩,J⟩:=U;cases z<;>simp[bb,tr,reduceCtorEq]at Z
 subst Z;refine⟨B,E,O,W,_,st,U,λux H1 Y g1=>⟨_,g1.1.bl,?_⟩⟩;split at J
 .rename_i h;rw[if_pos h];simp only[gk,p0]at J;obtain⟨z',J,c',e4,rfl⟩:=J;cases z'<;>simp[bb,tr,reduceCtorEq]at e4
  subst e4;exact⟨B,E,O,W,_,st.mono Y,J,λu H2 s2 g2=>q u H2 (Y.trans s2) (by rw[g2.1.bl];exact .of (d9 _ _))⟩
 .rename_i h;rw[if_neg h];cases J;exact q _ H1 Y (.of (d9 _ _))
def G7(ha:PE X x (tE X.K cal a))(hb:PE X (.BoolOp .Or (y::r) pos) (tE X.K cal b)):PE X (.BoolOp .Or (x::y::r) pos) (tE X.K cal (.or a b)):=by
 refine(F_ ha hb).imp λσ H Q q=>?_
 obtain⟨B,E,O,W,v,st,U,q⟩:=q;rw[ev]at U;simp only[gk]at U;obtain⟨c,⟨z,U,Z⟩,J⟩:=U;cases z<;>simp[bb,tr,reduceCtorEq]at Z
 subst Z;refine⟨B,E,O,W,_,st,U,λux H1 Y g1=>⟨_,g1.1.bl,?_⟩⟩;split at J
 .rename_i h;rw[if_pos h];cases J;exact q _ H1 Y (.of (d9 _ _))
 .rename_i h;rw[if_neg h];simp only[gk,p0]at J;obtain⟨z',J,c',e4,rfl⟩:=J;cases z'<;>simp[bb,tr,reduceCtorEq]at e4
  subst e4;exact⟨B,E,O,W,_,st.mono Y,J,λu H2 s2 g2=>q u H2 (Y.trans s2) (by rw[g2.1.bl];exact .of (d9 _ _))⟩
def C3(h:PT X (.BoolOp op vs pos) t):PW X (.BoolOp op vs pos) t:=λw pins s σ H Q I q=>by
 have:=h pins s σ H Q I q;exact this
def C4(ha:PT X x (tT X.K cal a))(hb:PW X (.BoolOp .And (y::r) pos) (tT X.K cal b)):PT X (.BoolOp .And (x::y::r) pos) (tT X.K cal (.and a b)):=by
 refine(Dn ha hb).pt.imp λσ H Q q=>?_
 obtain⟨B,E,O,W,v,st,U,q⟩:=q;simp only[evB,ev,gk]at U;obtain⟨w,⟨c,⟨z,U,e2⟩,J⟩,Y⟩:=U;refine⟨B,E,O,W,c,st,by simp[evB,U,e2],λH1 Z=>?_⟩;split at J
 .rename_i h;rw[if_pos h];simp only[gk,p0]at J;obtain⟨z',J,c',e5,rfl⟩:=J;simp only[bb,tr]at Y;subst Y;exact⟨B,E,O,W,_,st.mono Z,by simp[evB,J,e5],λH2 s2=>q H2 (Z.trans s2)⟩
 .rename_i h;rw[if_neg h];cases J;cases Y;exact q H1 Z
def G8(ha:PT X x (tT X.K cal a))(hb:PW X (.BoolOp .Or (y::r) pos) (tT X.K cal b)):PT X (.BoolOp .Or (x::y::r) pos) (tT X.K cal (.or a b)):=by
 refine(F6 ha hb).pt.imp λσ H Q q=>?_
 obtain⟨B,E,O,W,v,st,U,q⟩:=q;simp only[evB,ev,gk]at U;obtain⟨w,⟨c,⟨z,U,e2⟩,J⟩,Y⟩:=U;refine⟨B,E,O,W,c,st,by simp[evB,U,e2],λH1 Z=>?_⟩;split at J
 .rename_i h;rw[if_pos h];cases J;cases Y;exact q H1 Z
 .rename_i h;rw[if_neg h];simp only[gk,p0]at J;obtain⟨z',J,c',e5,rfl⟩:=J;simp[bb,tr]at Y;subst Y;exact⟨B,E,O,W,_,st.mono Z,by simp[evB,J,e5],λH2 s2=>q H2 (Z.trans s2)⟩
def G9(hc:PT X t (tT X.K cal c))(ha:PE X x (tE X.K cal a))(hb:PE X y (tE X.K cal b))(na:aK a=false)(nb:aK b=false):PE X (.IfExp t x y pos) (tE X.K cal (.ite c a b)):=by
 refine(xH hc ha hb).imp λσ H Q q=>?_
 obtain⟨B,E,O,W,v,st,z,q⟩:=q;rw[ev]at z;simp only[gk]at z;obtain⟨k',z,U⟩:=z;refine⟨B,E,O,W,k',st,by simpa[evB,gk]using z,λH1 J=>?_⟩;split at U
 .rename_i h;rw[if_pos h];exact⟨B,E,O,W,v,st.mono J,U,λu H2 Y Z=>q u H2 (J.trans Y) (.of (Z.2 na))⟩
 .rename_i h;rw[if_neg h];exact⟨B,E,O,W,v,st.mono J,U,λu H2 Y Z=>q u H2 (J.trans Y) (.of (Z.2 nb))⟩
def G_(hc:PT X t (tT X.K cal c))(ha:PT X x (tT X.K cal a))(hb:PT X y (tT X.K cal b)):PT X (.IfExp t x y pos) (tT X.K cal (.ite c a b)):=by
 intro pins s σ H Q I q;refine az λZq kq=>?_
 obtain⟨B,E,O,W,v,st,z,q⟩:=q;simp only[evB,ev,gk]at z;obtain⟨w,⟨Z,z,U⟩,e4⟩:=z;refine kq ?_;refine isTrue_IfExp (thn (hc pins s σ H (λb H1=>b=Z/\ai H H1) I ⟨B,E,O,W,Z,st,by simpa[evB,gk]using z,λH1 J=>⟨rfl,J⟩⟩) λb J ⟨H1,I1,eb,hs⟩=>?_);subst eb;split at U
 .rename_i h;subst h;exact ha pins J σ H1 Q I1 ⟨B,E,O,W,v,st.mono hs,by simp[evB,U,e4],λH2 Y=>q H2 (hs.trans Y)⟩
 .rename_i h;have:b=false:=by cases b<;>simp at h ⊢
  subst this;exact hb pins J σ H1 Q I1 ⟨B,E,O,W,v,st.mono hs,by simp[evB,U,e4],λH2 Y=>q H2 (hs.trans Y)⟩
def Ha(g:Gf X T k cal)(ha:PE X l (tE X.K cal a))(hb:PE X r (tE X.K cal b))(hm:behindInMarks (yY op) r=false):PE X (.Compare l [yY op] [r] pos) (tE X.K cal (.cmp op a b))/\PT X (.Compare l [yY op] [r] pos) (tT X.K cal (.cmp op a b)):=by
 refine⟨(A5 (zg g.units op) ha hb hm).imp λσ H Q q=>?_,(A6 (zg g.units op) ha hb hm).imp λσ H Q q=>?_⟩
 .obtain⟨B,E,O,W,v,st,z,q⟩:=q;rw[ev]at z;simp only[gk,p0]at z;obtain⟨x,z,y,Y,c,Z,rfl⟩:=z;exact⟨B,E,O,W,x,st,z,λux H1 J g1=>⟨B,E,O,W,y,st.mono J,Y,λuy H2 U g2=>⟨O,x,y,c,g1.1.mono U,g2.1,Z,q _ H2 (J.trans U) (.of (d9 _ _))⟩⟩⟩
 .obtain⟨B,E,O,W,v,st,z,q⟩:=q;simp only[evB,ev,gk,p0]at z;obtain⟨w,⟨x,z,y,Y,c,Z,rfl⟩,e4⟩:=z;simp[bb,tr]at e4;subst e4;exact⟨B,E,O,W,x,st,z,λux H1 J g1=>⟨B,E,O,W,y,st.mono J,Y,λuy H2 U g2=>⟨O,x,y,c,g1.1.mono U,g2.1,Z,_,rfl,q H2 (J.trans U)⟩⟩⟩
def Hb(h:PA X es (tEs X.K cal ms))(U:(ms.all λm=>!aK m)=true):PE X (.Tuple es j pos) (tE X.K cal (.tup ms)):=by
 refine(tD h).imp λσ H Q q=>?_
 obtain⟨B,E,O,W,v,st,z,q⟩:=q;rw[ev]at z;simp only[gk]at z;obtain⟨vs,z,J⟩:=z;split at J
 .rename_i hl;cases J;refine⟨B,E,O,W,vs,st,z,λus H1 Y Z=>⟨?_,λp hp=>?_⟩⟩
  .rw[<- (Z.2 U).length];exact cy hl
  .exact q _ _ (Y.trans (ay hp _)) (.of (gu (bq Y st.here) hp (Z.2 U)))
 .cases J
def C5(h:PA X es (tEs X.K cal ms))(z:(ms.all λm=>!aK m)=true):PE X (.List es pos) (tF X.K cal (.lst ms)):=by
 refine(tG h).imp λσ H Q q=>?_
 obtain⟨B,E,O,W,xs,st,J,q⟩:=q;rw[ev]at J;simp only[gk]at J;obtain⟨vs,J,U⟩:=J;split at U
 .rename_i hl;cases U;refine⟨B,E,O,W,xs,st,J,λus H1 Z g1=>⟨?_,λp Y=>?_⟩⟩
  .rw[<- (g1.2 z).length];exact cy hl
  .refine q p us _ (Z.trans (ay Y _)) (Z.free Y) ax ?_;rw[iL (Kf)];refine Reps.mono (bK (ai.refl H1) λb z=>?_) _ (g1.2 z);rcases Jp.mp z with rfl|z
   .exact .inr Y
   .exact .inl z
 .cases U
def Hc(Y:PE X v (tE X.K cal a))(hi:PE X s (tE X.K cal i))(hs:bW s=true):PE X (.Subscript v s pos) (tE X.K cal (.idx a i)):=by
 refine(Gy Ey Y hi (ug hs)).imp λσ H Q q=>?_
 obtain⟨B,E,O,W,v,st,z,q⟩:=q;rw[ev]at z;simp[gk]at z;obtain⟨x,z,y,Z,e3⟩:=z;exact⟨B,E,O,W,x,st,z,λux H1 J g1=>⟨B,E,O,W,y,st.mono J,Z,λuy H2 U g2=>⟨O,x,y,v,bq (J.trans U) st.here,g1.1.mono U,g2.1,e3,λu H3 s3 r=>q u H3 ((J.trans U).trans s3) (.of r)⟩⟩⟩
noncomputable def tB1(K:Mx)(cal:Cal)(z:ME):TO:=λσ H Q=>∃B E O W o,aE K B E O H W σ/\((ev cal z W).bind λv=>bnd z v)=some o/\∀H',ai H H'->Q o H'
def EG(h:jD m=true):PO X none (tB1 X.K cal m):=by
 have e:m=.cst .non:=by
  unfold jD at h;split at h
  .rfl
  .cases h
 subst e;intro pins s σ H Q I q;refine az λU J=>?_
 obtain⟨B,E,O,W,o,st,z,q⟩:=q;simp[ev,bind_some,bnd]at z;subst z;refine J ?_;exact A9 pins s σ H Q I (q H (ai.refl H))
def EH(h:PE X l (tE X.K cal m))(U:jD m=false):PO X (some l) (tB1 X.K cal m):=by
 intro pins s σ H Q I q;refine az λZ Y=>?_
 obtain⟨B,E,O,W,o,st,z,q⟩:=q;simp[gk]at z;obtain⟨v,z,J⟩:=z;obtain⟨i,rfl,rfl⟩:∃i,v=.int i/\o=some i:=by
  unfold bnd at J;split at J
  .simp[jD]at U
  .simp_all
  .cases J
 refine Y ?_;exact A_ h pins s σ H Q I ⟨B,E,O,W,_,st,z,λu H' s' g=>⟨i,g.1.int,q H' s'⟩⟩
def BX{a lo hi:ME}{p2 pos:Pos}(ha:PE X v (tE X.K cal a))(hl:PO X l (tB1 X.K cal lo))(hu:PO X u (tB1 X.K cal hi)):PE X (.Subscript v (.Slice l u none p2) pos) (tE X.K cal (.slice a lo hi)):=by
 refine(xW Ez ha hl hu).imp λσ H Q q=>?_
 refine az λZq kq=>?_
 obtain⟨B,E,O,W,w,st,z,q⟩:=q;rw[ev,gk]at z;obtain⟨x,z,J⟩:=z;rw[gk]at J;obtain⟨ao,J,U⟩:=J;rw[gk]at U;obtain⟨aO,U,e4⟩:=U;refine kq ?_;exact⟨B,E,O,W,x,st,z,λux H1 Y g1=>⟨B,E,O,W,ao,st.mono Y,J,λH2 Z=>⟨B,E,O,W,aO,(st.mono Y).mono Z,U,λH3 s3 =>
  ⟨O,x,w,bq ((Y.trans Z).trans s3) st.here,g1.1.mono (Z.trans s3),e4,λu H4 s4 r=>q u H4 (((Y.trans Z).trans s3).trans s4) (.of r)⟩⟩⟩⟩
def r9 {id:String} (hc:bO X (.builtin id) (RBM X.K (aA f))) (U:glB X.env.scope x=true) (Y:X.mg x=none) (hv:bootBuiltins x=some (.builtin id)) (Z:x ≠ "__name__") (hd:(x==("__debug__":Str))=false)
  (ha:PA X (e::es) (tEs X.K cal ms)) (hs:(e::es).all ah=true):PE X (.Call (.Name x p) (e::es) [] pos) (tE X.K cal (.blt f ms)):=by
 simp only[all_cons,oe]at hs;refine(eT hc (di U) Y hv ha Z hd (aV hs.1 es _) (bT hs.2)).imp λσ H Q q=>?_
 obtain⟨B,E,O,W,v,st,z,q⟩:=q;rw[ev,gk]at z;obtain⟨vs,z,e2⟩:=z;exact⟨B,E,O,W,vs,st,z,λus H1 J g1=>⟨O,vs,v,bq J st.here,g1.1,e2,λu H2 s2 r=>q u H2 (J.trans s2) (.of r)⟩⟩
def zq {id:String} (hc:bO X (.type id) (RBM X.K (aA f))) (U:glB X.env.scope x=true) (Y:X.mg x=none) (hv:bootBuiltins x=some (.type id)) (Z:x ≠ "__name__") (hd:(x==("__debug__":Str))=false)
  (ha:PA X (e::es) (tEs X.K cal ms)) (hs:(e::es).all ah=true):PE X (.Call (.Name x p) (e::es) [] pos) (tE X.K cal (.blt f ms)):=by
 simp only[all_cons,oe]at hs;refine(cZ hc (di U) Y hv ha Z hd (aV hs.1 es _) (bT hs.2)).imp λσ H Q q=>?_
 obtain⟨B,E,O,W,v,st,z,q⟩:=q;rw[ev,gk]at z;obtain⟨vs,z,e2⟩:=z;exact⟨B,E,O,W,vs,st,z,λus H1 J g1=>⟨O,vs,v,bq J st.here,g1.1,e2,λu H2 s2 r=>q u H2 (J.trans s2) (.of r)⟩⟩
def pk{K:Mx}(q:tF K cal (.blt f ms) σ H Q):tCB (RBF K (aA f)) (tEs K cal ms) σ H Q:=by
 obtain⟨B,E,O,W,xs,st,z,q⟩:=q;rw[ev,gk]at z;obtain⟨vs,z,Z⟩:=z;refine⟨B,E,O,W,vs,st,z,λus H1 J g1=>⟨O,vs,xs,bq J st.here,g1.1,Z,λl ws U r=>q l ws _ (J.trans (ay U _)) (J.free U) ax ?_⟩⟩;rw[iL (Kf)];refine Reps.mono (bK (ai.refl H1) λb Y=>?_) _ r;rcases Jp.mp Y with rfl|Y
 .exact .inr U
 .exact .inl Y
def zr {id:String} (hc:bO X (.builtin id) (RBF X.K (aA f))) (z:glB X.env.scope x=true) (J:X.mg x=none) (hv:bootBuiltins x=some (.builtin id)) (U:x ≠ "__name__") (hd:(x==("__debug__":Str))=false)
  (Y:PA X (e::es) (tEs X.K cal ms)) (hs:(e::es).all ah=true):PE X (.Call (.Name x p) (e::es) [] pos) (tF X.K cal (.blt f ms)):=by
 simp only[all_cons,oe]at hs;exact(eT hc (di z) J hv Y U hd (aV hs.1 es _) (bT hs.2)).imp λσ H Q q=>pk q
def BY {id:String} (hc:bO X (.type id) (RBF X.K (aA f))) (z:glB X.env.scope x=true) (J:X.mg x=none) (hv:bootBuiltins x=some (.type id)) (U:x ≠ "__name__") (hd:(x==("__debug__":Str))=false)
  (Y:PA X (e::es) (tEs X.K cal ms)) (hs:(e::es).all ah=true):PE X (.Call (.Name x p) (e::es) [] pos) (tF X.K cal (.blt f ms)):=by
 simp only[all_cons,oe]at hs;exact(cZ hc (di z) J hv Y U hd (aV hs.1 es _) (bT hs.2)).imp λσ H Q q=>pk q
def EI(g:Gf X T k cal)(hf:T.fs[f]?=some x)(J:glB X.env.scope x=true)(U:aq x=true)(ha:PA X es (tAs X.K cal ms))(hs:es.all ah=true)(hl:ms.length=es.length):PE X (.Call (.Name x p) es [] pos) (tE X.K cal (.call f ms)):=by
 obtain⟨fa,fd,ps,h1,h2,Y,F,_⟩:=g.fns f x hf;have key:∀σ H Q,tE X.K cal (.call f ms) σ H Q->xP (spM X.K cal f) [] E0 (tAs X.K cal ms) σ H Q:=λσ H Q q=>by
  obtain⟨B,E,O,W,v,st,z,q⟩:=q;rw[ev,gk]at z;obtain⟨vs,z,e2⟩:=z;refine⟨B,E,O,W,vs,st,z,λus H1 Z g1=>⟨O,vs,v,bq Z st.here,?_,e2,λu H2 s2 r=>q u H2 (Z.trans s2) (.of r)⟩⟩
  simp_all
 cases es with
 |nil =>
  refine(xR F g.room (di J) h1 h2 Y .nil rb (g8 U).1).imp λσ H Q q=>?_
  obtain⟨B,E,O,W,vs,st,z,q⟩:=key σ H Q q;cases ms with
  |nil =>
   simp only[evA,tr]at z;subst z;exact q [] H (ai.refl H) .nil
  |cons m ms=>simp at hl
 |cons e es =>
  simp only[all_cons,oe]at hs;exact(l4 F g.room (di J) h1 h2 Y .nil rb ha (g8 U).1 (aV hs.1 es _) (bT hs.2)).imp key
end
section
variable{K:Mx}{H:Hp}{O:List Addr}
def zt(kvs)(i):ja (gq kvs) (Sum.inl i:Key)=(bI kvs i).map Sc.v:=by
 unfold ja gq bI;rw[find?_map,L4,L4];have e:((λz:Key×V=>decide (z.1=(Sum.inl i:Key)))∘λp:Int×Sc=>((Sum.inl p.1:Key),p.2.v))=λp:Int×Sc=>decide (p.1=i):=by
  funext p
  simp
 rw[e]
 rfl
def zu(kvs)(k):ja (jB kvs) (k.map Sum.inl)=(bI kvs k).map Sc.v:=by
 unfold ja jB bI;rw[find?_map,L4,L4];have e:((λz:List Key×V=>decide (z.1=k.map Sum.inl))∘λp:List Int×Sc=>((p.1.map Sum.inl:List Key),p.2.v))=λp:List Int×Sc=>decide (p.1=k):=by
  funext p
  exact Mr.mpr ⟨mf,λe=>JK _ e⟩
 rw[e]
 rfl
def BZ(ns:List Int):(ns.map Sum.inl:List Key).map kV=ns.map V.int:=by
 rw[Jx]
 rfl
def vE(e:bg xs=some ns)(r:bA K H O (.tup xs) u):∃b,u=.ref b/\H b=some (.tup ((ns.map Sum.inl:List Key).map kV)):=by
 have z:=dX e;subst z;obtain⟨b,us,rfl,h,t⟩:=r.tupH;have J:=t.ints;subst J;exact⟨b,rfl,by rw[BZ];exact h⟩
def qo(e:wL (.dI d) y=some o)(U:RdD H a d)(r:bA K H O y u):mH H a u (o.map Sc.v):=by
 cases d with
 |k kvs =>
  cases y<;>try (cases e;done)
  rename_i i;have z:=r.int;subst z;have J:=Jv e;rw[<- J,<- zt];exact .inl ⟨_,Sum.inl i,U.rd,rfl,rfl⟩
 |p ns=>cases y<;>cases e
 |t kvs =>
  cases y<;>try (cases e;done)
  rename_i xs;have e:(bg xs).map _=some o:=e;rw[p0]at e;obtain⟨ns,z,J⟩:=e;obtain⟨b,rfl,Y⟩:=vE z r;rw[<- J,<- zu];exact .inr ⟨_,_,b,U.rd,rfl,Y,rfl⟩
def zv(kvs)(k)(s):f_ (gq kvs) (Sum.inl k:Key) s.v=gq (cG kvs k s):=by
 have z:((gq kvs).any λJ=>decide (J.1=(Sum.inl k:Key)))=kvs.any λp=>decide (p.1=k):=by
  unfold gq;rw[List.any_map]
  congr 1
  funext p
  simp
 unfold f_ cG;rw[z];split
 .unfold gq;rw[Jx,Jx];refine Kn λp _=>?_
  by_cases h:p.1=k<;>simp[h]
 .unfold gq;rw[JM]
  rfl
def zw(kvs)(k)(s):f_ (jB kvs) (k.map Sum.inl:List Key) s.v=jB (cG kvs k s):=by
 have J:∀q,_ ↔ q=k:=λq=>⟨mf,λe=>by rw[e]⟩
 have U:((jB kvs).any λY=>decide (Y.1=(k.map Sum.inl:List Key)))=kvs.any λp=>decide (p.1=k):=by
  unfold jB;rw[List.any_map]
  congr 1
  funext p
  simp_all
 unfold f_ cG;rw[U];split
 .unfold jB;rw[Jx,Jx];refine Kn λp _=>?_
  by_cases h:p.1=k
  .have h2:=(J p.1).mpr h;simp[h]
  .have h2:¬ _=k.map Sum.inl:=λz=>h ((J p.1).mp z)
   simp[h,h2]
 .unfold jB;rw[JM]
  rfl
def vF{y:PV}{s:Sc}{a:Addr}{u:V}(e:qb d y s=some d')(U:H a=some (iH d))(r:bA K H O y u):mI H a u s.v (upd H a (iH d')):=by
 cases d with
 |p ns=>cases y<;>cases e
 |k kvs =>
  cases y<;>try (cases e;done)
  rename_i i;have J:=r.int;subst J;have z:(if kvs.length<10000 then some (DD.k (cG kvs i s))else none)=some d':=e;split at z
  .rename_i Y;cases z;show mI H a (.int i) s.v (upd H a (.dK (gq (cG kvs i s))));rw[<- zv];exact mI.k (k:=Sum.inl i) U (by unfold gq;rw[pe,JS];omega)
  .cases z
 |t kvs =>
  cases y<;>try (cases e;done)
  rename_i xs;have e:((bg xs).bind λk=>if kvs.length<10000 then some (DD.t (cG kvs k s))else none)=some d':=e;rw[gk]at e;obtain⟨ns,J,z⟩:=e;obtain⟨b,rfl,Z⟩:=vE J r;split at z
  .rename_i Y;cases z;show mI H a (.ref b) s.v (upd H a (.dT (jB (cG kvs ns s))));rw[<- zw];exact mI.t U Z (by unfold jB;rw[pe,JS];omega)
  .cases z
end
section
variable{X:Cx}{pins:List (Addr×Obj)}{σ:St}{H:Hp}{s:Shared}
def vG(I:Inv X pins σ H s)(h:RdD H a d):(a==sysModules)=false/\∃es ep,Dv.Ents s.heap a es ep/\aG ((dSc d).map Sc.v) (es.toList.map (·.val)):=by
 cases d with
 |k kvs =>
  obtain⟨_,hs,vs,r,o,es,ep,ho,hx,hd,_,z,_⟩:=jf I.hok h.rd;refine⟨hs,es,ep,⟨o,ho,hx,hd⟩,?_⟩;have gen:∀kvs vs l,KV (gq kvs) vs->Pairs (bz X.prog X.w) l vs->aG ((kvs.map (·.2)).map Sc.v) (l.map (·.val)):=by
   intro kvs
   induction kvs with
   |nil =>
    intro vs l r p;cases r;cases p;exact .nil
   |cons q kvs ih =>
    intro vs l r p;cases r with
    |cons J U =>
     cases p with
     |cons p1 p2 p3=>exact .cons (by have h:=J.2;rw[<- p2]at h;exact h) (ih _ _ U p3)
  exact gen kvs vs es.toList r z
 |p ns=>exact absurd h.2 pb
 |t kvs =>
  obtain⟨_,hs,xs,r,o,es,ep,ho,hx,hd,z,_⟩:=lw I.hok h.rd;refine⟨hs,es,ep,⟨o,ho,hx,hd⟩,?_⟩;rw[z,Jx];have gen:∀kvs xs,KT H (jB kvs) xs->aG ((kvs.map (·.2)).map Sc.v) (xs.map (·.2.2)):=by
   intro kvs
   induction kvs with
   |nil =>
    intro xs r;cases r;exact .nil
   |cons q kvs ih =>
    intro xs r;cases r with
    |cons J U=>exact .cons J.2.2 (ih _ U)
  exact gen kvs xs r
noncomputable def Hd(p a:Addr):HO:=.ext λh=>h.IsValuesView p a
def uj{es:Array DictEntry}(h:ItemsOf (λi v=>∃e,es[i]?=some e/\v=e.val) acc es.size):acc.toList=es.toList.map (·.val):=by
 refine Mn λi=>?_
 rw[JF,JX,JX];cases e:acc[i]? with
 |none =>
  have:acc.size<=i:=by simpa using e
  rw[K5 (by rw[<- h.1];exact this)]
  rfl
 |some v =>
  obtain⟨q,z,rfl⟩:=h.2 i v e;rw[z]
  rfl
end
section
variable{X:Cx}{T:Tab}{k:Nat}{cal:Cal}
def B0 (J:attributeBase o "values" X.env (eval o X.env)=eval o X.env) (U:(ap.endLine==cp.line)=true) (ho:PE X o td) :
  PE X (.Call (.Attribute o "values" ap) [] [] cp) (λσ H Q=>td σ H λx H1=>∃a d,x=.ref a/\RdD H1 a d/\∀p,H1 p=none->Q (.ref p) (upd H1 p (Hd p a))):=by
 intro pins s σ H Q I h;refine wpAny_Call_method J rfl U PySem.F.plainAttrs_dict PySem.F.slot_dict_values PySem.F.type_dict_values (thn (ho pins s σ H _ I h) λu Y ⟨x,H1,z,Z,a,d,ex,hd,q1⟩=>?_);subst ex;obtain rfl:u=Value.ref a:=Z;obtain⟨t1,t2,_⟩:=tK z (qi hd);refine⟨t1,t2,?_⟩;refine K4 rfl (PyProof.Rows.evalArgs_empty ?_);obtain⟨hs,es,ep,x,_⟩:=vG z hd;refine Dv.values_of hs x ⟨.ref Y.heap.objs.size,_,z.laid (λb o e=>g4 _ e) (pd _) ?_,rfl,q1 _ (z.hok.fresh (pd _))⟩;exact⟨⟨_,uw _ rfl,rfl,rfl⟩,⟨_,uw _ rfl⟩,λh1 h2 ⟨o,ho,r⟩ k=>⟨o,k o ho,r⟩⟩
def ul (hc:X.calm=true):bO X (.type "list") (λus H Q=>∃p a d,us=[.ref p]/\H p=some (Hd p a)/\RdD H a d/\(dSc d).length<=10000/\∀l,H l=none->Q (.ref l) (upd H l (.lst ((dSc d).map Sc.v)))):=by
 intro pins s σ H xs us Q I r h;refine az λZq U=>?_
 obtain⟨p,a,d,rfl,Y,Z,hl,q⟩:=h;obtain⟨u,rfl,ru⟩:=dU r;cases ru;obtain⟨_,es,ep,x,vs⟩:=vG I Z;have hv:=(show bE X.prog X.w H s.heap p _ from I.hok p _ Y).1;have z:es.size=(dSc d).length:=by have:=vs.length;simp at this;omega
 refine U ?_;refine PySem.W.kdl_call (Dv.src) (I.ok.hd hc) ⟨hv,x⟩ (by rw[z,JS];omega) λh' tk J c kp e it=>?_
 refine⟨.ref s.heap.objs.size,_,I.laid kp (pd _) (o:=.lst _) ⟨by rw[pe,JS];omega,J.toList,c,?_,by rw[Array.toArray_toList];exact e⟩,rfl,q _ (I.hok.fresh (pd _))⟩;rw[uj it];exact vs
def B1{P:Program}{w:World}{n:Int}{v:Value}(h:(bz P w).is (Sum.inl n) v=true):∃t,v=.int n t:=by
 rw[s_]at h;cases v<;>simp[lu,Value.isInt]at h
 subst h;exact⟨_,rfl⟩
def qp (hc:X.calm=true):bO X (.builtin "sorted") (RBF X.K (aA .sortedKeys)):=by
 intro pins s σ H xs us Q I r h;obtain⟨O,vs,ys,hO,rs,e,q⟩:=h;obtain⟨x,rfl⟩:=cT e (.inl rfl);obtain⟨u,rfl,rx⟩:=p1 rs;have hd:∃kvs,x=.dI (.k kvs)/\kvs.length<64/\ys=(sortI (kvs.map (·.1))).map .int:=by
  simp only[aA,b_]at e;split at e
  .split at e
   .rename_i kvs hl;cases e;exact⟨kvs,rfl,hl,rfl⟩
   .cases e
  .cases e
 obtain⟨kvs,rfl,Z,rfl⟩:=hd;obtain⟨a,rfl,ha⟩:=rx.dI;obtain⟨u,rfl,ru⟩:=dU r;cases ru;obtain⟨hz,hs,Y,U,dd⟩:=jf I.hok (show Rd H a (.dK (gq kvs))from ha.rd);obtain⟨ep,ao⟩:=dd.dictAt;have z:Y.length=kvs.length:=by rw[<- U.length];unfold gq;rw[pe]
 have J:Y.map (·.1)=kvs.map λp=>(Sum.inl p.1:Key):=by
  rw[<- U.keys];unfold gq;rw[Jx]
  rfl
 refine Srt.iF (ks:=kvs.map (·.1)) (by rw[pe];exact Z) (λQ' aO=>?_) λh1 h' tk d' out c k1 k2 e hi=>?_
 .refine PySem.W.kdu_collect (PySem.W.kdl_dict (knd:=bz X.prog X.w) (kvs:=Y) (ep:=ep) hs) (by simpa using I.ok.hd hc) ao (by rw[z,JS];omega) λh' tk a9 kp it=>?_
  refine aO h' tk s.drawn _ (kvs.map (·.1)) kp (.refl _) (St.jh ⟨by rw[it.1,z,pe],λj v ej=>?_⟩);obtain⟨kk,xx,e1,e2⟩:=it.2 j v ej;have e3:(Y.map (·.1))[j]?=some kk:=by rw[JF,e1];rfl
  rw[J,JF,p0]at e3;obtain⟨p,e4,rfl⟩:=e3;rw[Km,JF,e4];exact B1 e2
 .have I1:Inv X pins σ H { s with heap:=h1,toks:=tk,drawn:=d' }:=I.keptD k1;have I2:Inv X pins σ (upd H h1.objs.size (.lst ((Srt.sortI (kvs.map (·.1))).map V.int))) { s with heap:=h',toks:=tk,drawn:=d' }:=
   I1.laid (t':=tk) k2 (pd _) (show bE X.prog X.w _ h' _ (.lst _)from⟨by rw[pe,Srt.sortI_len,pe,JS];omega,out,c,o3 hi,e⟩)
  refine⟨.ref h1.objs.size,_,I2,rfl,q _ _ (I1.hok.fresh (pd _)) ?_⟩;rw[dj];exact .of_ints _
end
def qr:bootBuiltins "len"=some (.builtin "len"):=by decide +kernel
def nq:bootBuiltins "tuple"=some (.type "tuple"):=by decide +kernel
def qt:bootBuiltins "list"=some (.type "list"):=by decide +kernel
def k5:bootBuiltins "sorted"=some (.builtin "sorted"):=by decide +kernel
def EJ:bootBuiltins "any"=some (.builtin "any"):=by decide +kernel
def EK:bootBuiltins "all"=some (.builtin "all"):=by decide +kernel
def EL:bootBuiltins "max"=some (.builtin "max"):=by decide +kernel
def zx:bootBuiltins "int"=some (.type "int"):=by decide +kernel
def B2:bootBuiltins "bool"=some (.type "bool"):=by decide +kernel
def qu:bootBuiltins "set"=some (.type "set"):=by decide +kernel
def oH:bootBuiltins "isinstance"=some (.builtin "isinstance"):=by decide +kernel
section
variable{X:Cx}{T:Tab}{k:Nat}{cal:Cal}
def EM {p p2 pos:Pos} (g:Gf X T k cal) (U:dh f=some c) (hg:glB X.env.scope "isinstance"=true) (ht:t=(c:Str)) (Y:glB X.env.scope t=true)
  (Z:bootBuiltins c=some (.type c)) (ao:X.mg c=none) (hn:(c:Str) ≠ "__name__") (hd:((c:Str)==("__debug__":Str))=false) (h:PE X e (tE X.K cal m)) (hs:ah e=true):PE X (.Call (.Name "isinstance" p) [e,.Name t p2] [] pos) (tE X.K cal (.blt f [m])):=by
 subst ht;refine(eT (EB U) (di hg) (g.blt "isinstance" (by decide)) oH (aP h (aP (AX (v:=.ty c) (di Y) ao Z rfl hn hd) bF rfl) (aV hs _ _)) (by decide) (by decide) (aV hs _ _) rfl).imp λσ H Q q=>?_
 obtain⟨B,E,O,W,v,st,z,q⟩:=q;rw[ev,gk]at z;obtain⟨vs,z,J⟩:=z;obtain⟨w,rfl,e3⟩:=r6 z;have e5:isD w=false/\v=.bl (isT f w):=by
  cases hd:isD w with
  |true=>cases f<;>simp[dh,reduceCtorEq]at U<;>(simp only[aA,b_,iw,jb,hd]at J;cases J)
  |false=>cases f<;>simp[dh,reduceCtorEq]at U<;>(simp[aA,b_,iw,jb,hd,Jz,Kc,tr]at J;exact⟨rfl,J.symm⟩)
 obtain⟨e5,rfl⟩:=e5;refine⟨B,E,O,W,w,st,e3,λu H1 s1 g1=>⟨O,w,u,rfl,e5,g1.1,q _ H1 s1 (.of (d9 _ _))⟩⟩
def r_ {p p2 pos pos2:Pos} (g:Gf X T k cal) (hx:x=("sorted":Str)) (hy:y=("set":Str)) (hg:glB X.env.scope x=true) (U:glB X.env.scope y=true) (h:PE X e (tE X.K cal m)) (hs:ah e=true):PE X (.Call (.Name x p) [.Call (.Name y p2) [e] [] pos2] [] pos) (tF X.K cal (.blt .sortedSet [m])):=by
 subst hx hy;refine(eT (rY g.calm) (di hg) (g.blt "sorted" (by decide)) k5 (aP (cZ (vB g.calm) (di U) (g.blt "set" (by decide)) qu (aP h bF (aV hs _ _)) (by decide) (by decide) (aV hs _ _) rfl) bF rfl) (by decide) (by decide) rfl rfl).imp λσ H Q q=>?_
 refine az λZq kq=>?_
 obtain⟨B,E,O,W,xs,st,J,q⟩:=q;rw[ev,gk]at J;obtain⟨vs,J,Z⟩:=J;obtain⟨w,rfl,e3⟩:=r6 J;simp only[aA,b_,mZ,iw,jb,gk]at Z;obtain⟨ys,e4,ns,e5,Y⟩:=Z;refine kq ?_;split at Y
 .rename_i hc;cases Y;refine⟨B,E,O,W,w,st,e3,λu H1 s1 g1=>⟨O,w,u,ns,rfl,g1.1,by simp[e4,e5],hc.1,λl hl=>⟨l,_,rfl,ax,?_,λp' z=>?_⟩⟩⟩
  .rw[uh];exact hc.2
  .rw[BT];refine q p' _ _ ((s1.trans (ay hl _)).trans (ay z _)) (s1.free ((ay hl _).free z)) ax (.of_ints _)
 .cases Y
def zy {p p2 pos pos2:Pos} (g:Gf X T k cal) (hx:x=("len":Str)) (Z:y=("set":Str)) (hg:glB X.env.scope x=true) (J:glB X.env.scope y=true) (h:PE X e (tE X.K cal m)) (hs:ah e=true):PE X (.Call (.Name x p) [.Call (.Name y p2) [e] [] pos2] [] pos) (tE X.K cal (.blt .lenSet [m])):=by
 subst hx Z;refine(eT qa (di hg) (g.blt "len" (by decide)) qr (aP (cZ (vB g.calm) (di J) (g.blt "set" (by decide)) qu (aP h bF (aV hs _ _)) (by decide) (by decide) (aV hs _ _) rfl) bF rfl) (by decide) (by decide) rfl rfl).imp λσ H Q q=>?_
 refine az λZq kq=>?_
 obtain⟨B,E,O,W,v,st,z,q⟩:=q;rw[ev,gk]at z;obtain⟨vs,z,Y⟩:=z;obtain⟨w,rfl,e3⟩:=r6 z;simp only[aA,b_,mZ,iw,jb,gk]at Y;obtain⟨ys,e4,ns,e5,U⟩:=Y;refine kq ?_;split at U
 .rename_i hc;cases U;refine⟨B,E,O,W,w,st,e3,λu H1 s1 g1=>⟨O,w,u,ns,rfl,g1.1,by simp[e4,e5],hc,λl hl=>⟨l,_,rfl,ax,?_⟩⟩⟩;rw[uh];exact q _ _ (s1.trans (ay hl _)) (.of (bU _ _))
 .cases U
def sa {p p2 p3 q2 q3 q4 pos:Pos} (g:Gf X T k cal) (hx:x=("len":Str)) (hy:y=("set":Str)) (hz:z=("set":Str)) (hg:glB X.env.scope x=true) (ao:glB X.env.scope y=true) (aO:glB X.env.scope z=true) (ha:PE X a (tE X.K cal m1)) (hb:PE X b (tE X.K cal m2)) (J:ah a=true) (U:ah b=true) :
  PE X (.Call (.Name x p) [.BinOp (.Call (.Name y p2) [a] [] q2) .Sub (.Call (.Name z p3) [b] [] q3) q4] [] pos) (tE X.K cal (.blt .lenSetSub [m1,m2])):=by
 subst hx hy hz;refine(eT rG (di hg) (g.blt "len" (by decide)) qr (aP (uV wK (cZ (vB g.calm) (di ao) (g.blt "set" (by decide)) qu (aP ha bF (aV J _ _)) (by decide) (by decide) (aV J _ _) rfl) (cZ (vB g.calm) (di aO) (g.blt "set" (by decide)) qu (aP hb bF (aV U _ _)) (by decide) (by decide) (aV U _ _) rfl)) bF rfl) (by decide) (by decide) rfl rfl).imp λσ H Q q=>?_
 refine az λZq kq=>?_
 obtain⟨B,E,O,W,v,st,Y,q⟩:=q;rw[ev,gk]at Y;obtain⟨vs,Y,e2⟩:=Y;simp only[evs,gk,p0]at Y;obtain⟨v1,e3,w1,⟨v2,e4,w2,e5,rfl⟩,rfl⟩:=Y;cases e5;simp only[aA,b_,mZ,iw,jb,gk]at e2;obtain⟨xs,f1,ns,f2,ys,f3,ms,f4,f5⟩:=e2;refine kq ?_;split at f5
 .rename_i hc;cases f5;refine⟨B,E,O,W,v1,st,e3,λu H1 s1 g1=>⟨O,v1,u,ns,rfl,g1.1,by simp[f1,f2],hc.1,λl hl=>?_⟩⟩;refine⟨B,E,O,W,v2,st.mono (s1.trans (ay hl _)),e4,λu2 H2 s2 g2=>⟨O,v2,u2,ms,rfl,g2.1,by simp[f3,f4],hc.2.1,λl2 Z=>?_⟩⟩;refine⟨l,l2,_,_,rfl,rfl,(ay Z _) l _ (s2 l _ ax),ax,by rw[uh];exact hc.2.2,λp' a1=>⟨p',_,rfl,ax,?_⟩⟩;have e6:((St.dd ns.reverse).filter λk=>!decide (k∈St.dd ms.reverse)).length=((dd ns).filter λn=>!decide (n∈ms)).length:=by
   rw[pf];have e7:(λk=>!decide (k∈St.dd ms.reverse))=λn=>!decide (n∈ms):=by
    funext k
    congr 1
    rw[Mr,St.fO,Mw]
   rw[e7];refine Perm.length_eq (Perm.filter _ ((Kb (St.dd_nodup _) (St.dd_nodup _)).mpr λa=>?_));rw[St.fO,St.fO,Mw]
  rw[e6];exact q _ _ ((s1.trans (ay hl _)).trans (s2.trans ((ay Z _).trans (ay a1 _)))) (.of (bU _ _))
 .cases f5
theorem sd :∀{kvs}{ks}{vs},rR kvs ks vs=true->PPs X kpos ks vs (kvs.map λp=>(tC (.str p.1),tC (.str p.2)))/\ks.all (·.isSome)=true/\ks.length=vs.length/\ks.length=kvs.length
 | [],[],[],_=>⟨Bj,rfl,rfl,rfl⟩
 |p::r,k::ks,v::vs,h=>by
  obtain⟨a,z⟩:=mu.mp h;obtain⟨h1,h2⟩:=mu.mp a;obtain⟨J,U,Y,Z⟩:=sd (kpos:=kpos) z;cases k with
  |none=>cases h1
  |some k =>
   obtain⟨j,kp,rfl⟩:=vn (eq_of_beq h1);obtain⟨j2,vp,rfl⟩:=vn (eq_of_beq h2);exact⟨ye ti ti J,by rw[all_cons,U];rfl,by rw[length_cons,length_cons,Y],by rw[length_cons,length_cons,Z]⟩
 | [],_::_,_,h=>by cases h
 | [],[],_::_,h=>by cases h
 | _::_,[],_,h=>by cases h
 | _::_,_::_,[],h=>by cases h
theorem nr{σ:St}:∀{kvs:List (Str×Str)}{H}{Q},Q (kvs.map λp=>(V.str p.1,V.str p.2)) H->pX (kvs.map λp=>(tC (.str p.1),tC (.str p.2))) σ H Q
 | [],_,_,h=>h
 |p::r,H,Q,h=>nr (kvs:=r) (Q:=λps z=>Q ((V.str p.1,V.str p.2)::ps) z) h
def EN(g:Gf X T k cal)(hd:rR kvs ks vs=true)(hl:kvs.length<=15)(h0:kvs.isEmpty=false)(hk:PE X i (tE X.K cal m))(hs:bW i=true):PE X (.Subscript (.Dict ks vs dp) i pos) (tE X.K cal (.disp kvs m)):=by
 have hu:X.A.units+1<cLine:=by have:=g.units;omega
 obtain⟨q1,q2,q3,q4⟩:=sd (X:=X) (kpos:=dp) hd;have hn:ks≠[]:=λz=>by
  grind
 refine(u3 hu (Bk q1 q2 q3 hn (by omega)) hk (by cases i<;>first|(intro _ _;rfl)|(simp[bW]at hs))).imp λσ H Q q=>?_
 obtain⟨B,E,O,W,v,st,J,q⟩:=q;rw[ev,gk]at J;obtain⟨w,J,Y⟩:=J;cases w with
 |str x =>
  have U:(ja (iD [] (o8 kvs)) (Sum.inr x)).bind (λv=>match v with|.str y=>some (PV.str y)|_=>none)=some v:=Y;rw[gk]at U;obtain⟨u,U,Z⟩:=U;cases u with
  |str y =>
   cases Z;intro p hp;refine nr ⟨ax,o8 kvs,by unfold o8;rw[Jx];rfl,by unfold o8;rw[pe];exact hl,?_⟩;have s1:ai H (upd (upd H p (.dK [])) p (.dK (iD [] (o8 kvs)))):=λb o e=>by
    have hb:b≠p:=λz=>by rw[z,hp]at e;cases e
    rw[aZ hb,aZ hb];exact e
   refine⟨B,E,O,W,_,st.mono s1,J,λuy H2 s2 g2=>?_⟩;have ey:=g2.1.str;subst ey;exact⟨p,V.str y,rfl,.inl ⟨_,Sum.inr x,.inl (s2 _ _ ax),rfl,U.symm⟩,q _ H2 (s1.trans s2) (.of (mi _ _))⟩
  | _=>cases Z
 | _=>cases Y
def EO (g:Gf X T k cal) (hg:glB X.env.scope ("len":Str)=true) (hn:aW X.N X.env.scope i y=true):PE X (.Call (.Name ("len":Str) p) [.Name y yp] [] pos) (tE X.K cal (.lenP i)):=by
 refine(eT gZ (di hg) (g.blt "len" (by decide)) qr (aP (ca hn) bF rfl) (by decide) (by decide) rfl rfl).imp λσ H Q q=>?_
 refine az λZq kq=>?_
 obtain⟨B,E,O,W,v,st,z,q⟩:=q;rw[ev]at z;have fin:∀ns a,H a=some (iH (.p ns))->v=.int ns.length->σ[i]?=some (some (.ref a))->∃u,σ[i]?=some (some u)/\∃a J,[u]=[V.ref a]/\(SqL X.K H a J\/SqT X.K H a J)/\Q (.int J.length) H:=λns a U hv Y=>by
  refine⟨_,Y,a,ns.map V.int,rfl,.inl (SqL.of U),?_⟩;rw[pe];subst hv;exact q _ H (ai.refl H) (.of (bU _ _))
 refine kq ?_;cases Z:(W[i]?).join with
 |none=>rw[Z]at z;cases z
 |some m =>
  rw[Z]at z;obtain⟨u,Y,so⟩:=aU st Z;cases m with
  |ownD d|mutD d =>
   cases d with
   |p ns =>
    cases z;obtain⟨a,rfl,U,_⟩:=so;exact fin ns a U rfl Y
   | _=>cases z
  | _=>cases z
def se{cond elt:ME}:∀W v,ev cal (.comp z src js cond elt) W=some v->∃xs,v=.lst xs:=λW v hv=>by
 rw[ev,gk]at hv;obtain⟨vs,_,hv⟩:=hv;rw[gk]at hv;obtain⟨xs,_,hv⟩:=hv;split at hv
 .simp at hv;obtain⟨ys,_,rfl⟩:=hv;exact⟨_,rfl⟩
 .cases hv
def dL(z:f=.listOf\/f=.sorted\/f=.sortedSet\/f=.sortedKeys\/f=.valuesOf) :∀W v,ev cal (.blt f ms) W=some v->∃xs,v=.lst xs:=λW v hv=>by
 rw[ev,gk]at hv;obtain⟨vs,_,hv⟩:=hv;rcases z with rfl|rfl|rfl|rfl|rfl
 .obtain⟨x,rfl⟩:=cT hv (.inl rfl);simp only[aA,b_,mZ,iw,jb,p0]at hv;obtain⟨ys,_,rfl⟩:=hv;exact⟨_,rfl⟩
 .obtain⟨x,rfl⟩:=cT hv (.inl rfl);simp only[aA,b_,mZ,iw,jb,gk]at hv;obtain⟨ys,_,hv⟩:=hv;unfold iG at hv;split at hv
  .split at hv
   .cases hv;exact⟨_,rfl⟩
   .simp only[p0]at hv;obtain⟨J,_,rfl⟩:=hv;exact⟨_,rfl⟩
  .cases hv
 .obtain⟨x,rfl⟩:=cT hv (.inr (.inr (.inl rfl)));simp only[aA,b_,mZ,iw,jb,gk]at hv;obtain⟨ys,_,ns,_,hv⟩:=hv;split at hv
  .cases hv;exact⟨_,rfl⟩
  .cases hv
 .obtain⟨x,rfl⟩:=cT hv (.inl rfl);simp only[aA,b_]at hv;split at hv
  .split at hv
   .cases hv;exact⟨_,rfl⟩
   .cases hv
  .cases hv
 .obtain⟨x,rfl⟩:=cT hv (.inr (.inr (.inr (.inr rfl))));simp only[aA,b_]at hv;split at hv
  .grind
  .cases hv
def qv{cond:ME}(h:rQ f cond ifs=true)(hc:∀c,f c=true->PT X c (tT X.K cal cond)):PF X ifs (tT X.K cal cond):=by
 match ifs,h with
 | [],h =>
  have e:cond=.cst (.bl true):=by
   simp[rQ]at h;split at h
   .rfl
   .cases h
  subst e;intro pins s σ H Q I q;refine az λU J=>?_
  obtain⟨B,E,O,W,b,st,z,q⟩:=q;simp only[evB,ev,bind_some,bb,tr]at z;subst z;refine J ?_;exact DS pins s σ H Q I (q H (ai.refl H))
 | [c],h=>exact DT (hc c h)
def k7(ao:tup=true->∃ts j tp,tg=.Tuple ts j tp)(g:Gf X T k cal)(h:m5 X.env.scope tup (λxs=>chks T src X.N X.env.scope xs) k' it=true)(hs:∀xs,chks T src X.N X.env.scope xs=true->PA X xs (tEs X.K cal src)/\xs.all ah=true/\src.length=xs.length)
  (h1:∀m x,src=[m]->chks T src X.N X.env.scope [x]=true->PE X x (tE X.K cal m)):PI X tg it (tW X.K cal k' src)/\eZ it=true:=by
 cases k' with
 |seq =>
  replace h:=mu.mp h
  obtain⟨z,h⟩:=h;refine⟨?_,z⟩;obtain⟨_,_,J⟩:=hs _ h;obtain⟨m,rfl⟩:=K9.mp J;cases U:aK m with
  |false=>exact G1 U (h1 m it rfl h)
  |true =>
   have q1:=(bX h).1.1;obtain⟨i,rfl⟩:=m6 U;obtain⟨x,p,rfl,q⟩:=j6 q1;exact G2 q
 |rng =>
  replace h:=ak h
  obtain⟨c,e1,h⟩:=h;obtain⟨p,pos,rfl⟩:=fE e1;simp only[oe,Ju,Mu]at h;obtain⟨⟨⟨hx,Z⟩,Y⟩,z⟩:=h;obtain⟨q,a1,J⟩:=hs _ Y;exact⟨BV g hx Z q z a1 J,rfl⟩
 |enm =>
  replace h:=ak h
  obtain⟨⟨x,a⟩,e1,h⟩:=h;obtain⟨p,pos,rfl⟩:=g6 e1;simp only[oe,Ju]at h;obtain⟨⟨⟨⟨ht,hx⟩,Z⟩,Y⟩,z⟩:=h;obtain⟨ts,j,tp,rfl⟩:=ao ht;obtain⟨_,_,J⟩:=hs _ Y;refine⟨?_,rfl⟩;obtain⟨m,rfl⟩:=K9.mp J;cases U:aK m with
  |false=>exact G3 g hx Z z U (h1 m a rfl Y)
  |true =>
   have q1:=(bX Y).1.1;obtain⟨i,rfl⟩:=m6 U;obtain⟨y,p,rfl,q⟩:=j6 q1;exact EE g hx Z q
 |rev=>cases h
def um(K)(F)(s:Sc):Rep K F s.pv s.v:=by cases s<;>simp[Sc.pv,Sc.v,Rep]
def uo{K:Mx}(e:sc? x=some s)(r:bA K H O x u):u=s.v:=by
 cases x<;>simp[sc?,tr,reduceCtorEq]at e<;>subst e
 .exact r.non
 .exact r.bl
 .exact r.int
 .exact r.str
def base_of(z:o9 o=true):attributeBase o n X.env (eval o X.env)=eval o X.env:=by
 cases o<;>first|rfl|(simp at z;done)|skip
 rename_i fn args kws pos;cases args with
 |nil=>simp[o9]at z
 |cons _ _=>cases fn<;>rfl
theorem vH(K)(F):∀ss:List Sc,Reps K F (ss.map Sc.pv) (ss.map Sc.v)
 | []=>rfl
 |s::ss=>⟨_,_,rfl,um K F s,vH K F ss⟩
def zz (g:Gf X T k cal) (hx:x=("list":Str)) (hg:glB X.env.scope x=true) (h:PE X o (tE X.K cal m)) (hb:attributeBase o "values" X.env (eval o X.env)=eval o X.env) (J:(ap.endLine==cp.line)=true) :
  PE X (.Call (.Name x p) [.Call (.Attribute o "values" ap) [] [] cp] [] pos) (tF X.K cal (.blt .valuesOf [m])):=by
 subst hx;refine(cZ (ul g.calm) (di hg) (g.blt "list" (by decide)) qt (aP (B0 hb J h) bF rfl) (by decide) (by decide) rfl rfl).imp λσ H Q q=>?_
 refine az λZq kq=>?_
 obtain⟨B,E,O,W,xs,st,Y,q⟩:=q;rw[ev,gk]at Y;obtain⟨vs,Y,U⟩:=Y;obtain⟨w,rfl,e3⟩:=r6 Y;have hd:∃d,w=.dI d/\(jY d).length<=10000/\xs=jY d:=by
  simp[aA,b_]at U;split at U
  .split at U
   .rename_i d J
    simp_all
   .cases U
  .cases U
 obtain⟨d,rfl,hz,rfl⟩:=hd;have Z:(dSc d).length<=10000:=by unfold jY at hz;rw[pe]at hz;exact hz
 refine kq ?_;refine⟨B,E,O,W,_,st,e3,λu H1 s1 g1=>?_⟩;obtain⟨a,rfl,ha⟩:=g1.1.dI;refine⟨a,d,rfl,ha,λp' z=>⟨p',a,d,rfl,ax,ai.rdD (ay z _) ha,Z,λl J=>?_⟩⟩;refine q l _ _ ((s1.trans (ay z _)).trans (ay J _)) (s1.free ((ay z _).free J)) ax ?_;exact vH _ _ _
def B3{α:Type}:∀{es:List α},es.length=2->∃m z,es=[m,z]
 | [_,_],_=>⟨_,_,rfl⟩
def EQ {sc:Scope}{f:List Expr->Bool}{n:Nat}{args:List Expr} (J:l8 sc f n .lenSetSub args=true):∃U y z Y p2 Z p3 q3 q4,args=[.BinOp (.Call (.Name U p2) [y] [] Z) .Sub (.Call (.Name z p3) [Y] [] q3) q4]/\U="set"/\glB sc U=true/\z="set"/\glB sc z=true/\f [y,Y]=true/\n=2:=by
 refine az λZq kq=>?_
 obtain⟨a,e1,J⟩:=ak J;obtain⟨⟨l,o,r,q4⟩,e2,J⟩:=ak J;obtain⟨⟨U,y⟩,e3,J⟩:=ak J;obtain⟨⟨z,Y⟩,e4,J⟩:=ak J;simp only[oe,Ju]at J;obtain⟨⟨⟨⟨⟨⟨a0,a1⟩,a2⟩,a3⟩,a4⟩,a5⟩,a6⟩:=J;obtain⟨p2,Z,e3⟩:=g6 e3;obtain⟨p3,q3,e4⟩:=g6 e4;refine kq ?_;exact⟨U,y,z,Y,p2,Z,p3,q3,q4,by rw[cN e1,qd e2,e3,e4,a0],a1,a2,a3,a4,a5,a6⟩
def B4 {sc:Scope}{f:List Expr->Bool}{n:Nat}{args:List Expr} (z:l8 sc f n .valuesOf args=true):∃y ap cp,args=[.Call (.Attribute y "values" ap) [] [] cp]/\o9 y=true/\ap.endLine=cp.line/\f [y]=true/\n=1:=by
 refine az λZq J=>?_
 obtain⟨a,U,z⟩:=ak z;obtain⟨⟨y,mm,ap,as,cp⟩,Y,z⟩:=ak z;simp only[oe,Ju,KN]at z;obtain⟨⟨⟨⟨⟨Z,a1⟩,h3⟩,h4⟩,h5⟩,h6⟩:=z;refine J ?_;exact⟨y,ap,cp,by rw[cN U,t_ Y,Z,a1],h3,h4,h5,h6⟩
def sf{b:Blt}{es:List ME}{x:Str}{args:List Expr}{p pos:Pos}(g:Gf X T k cal)(hx:x=(rO b:Str))(Z:glB X.env.scope x=true)(J:l8 X.env.scope (λxs=>chks T es X.N X.env.scope xs) es.length b args=true)
  (hs:∀xs,chks T es X.N X.env.scope xs=true->PA X xs (tEs X.K cal es)/\xs.all ah=true/\es.length=xs.length)
  (h1:∀m x,es=[m]->chks T es X.N X.env.scope [x]=true->PE X x (tE X.K cal m))
  (cd:∀m m' x x',es=[m,m']->chks T es X.N X.env.scope [x,x']=true->PE X x (tE X.K cal m)/\PE X x' (tE X.K cal m')) :
  (iJ (.blt b es)=true->PE X (.Call (.Name x p) args [] pos) (tF X.K cal (.blt b es)))/\PE X (.Call (.Name x p) args [] pos) (tE X.K cal (.blt b es)):=by
 subst hx;have inst:∀{b:Blt}{args:List Expr} (c:String),glB X.env.scope (rO b)=true->dh b=some c->rO b="isinstance"->bootBuiltins c=some (.type c)->X.mg c=none->(c:Str) ≠ "__name__"->((c:Str)==("__debug__":Str))=false->rP X.env.scope (λxs=>chks T es X.N X.env.scope xs) es.length c args=true ->
   PE X (.Call (.Name (rO b) p) args [] pos) (tE X.K cal (.blt b es)):=λ{b args} c Z hc hb ck hm hn hd J=>by
  replace J:=ak J
  obtain⟨⟨y,t0⟩,e1,J⟩:=J
  replace J:=ak J
  obtain⟨⟨t,p2⟩,e2,J⟩:=J;obtain rfl:=l7 e1;obtain rfl:=d8 (e:=t0) e2;simp only[oe,Ju]at J;obtain⟨⟨⟨h2,h3⟩,h4⟩,h5⟩:=J;obtain⟨m,rfl⟩:=K9.mp h5;rw[hb]at Z ⊢;exact EM g hc Z h2 h3 ck hm hn hd (h1 m y rfl h4) (bX h4).1.2
 have c1:∀{nm:Str},uc X.env.scope (λxs=>chks T es X.N X.env.scope xs) es.length nm args=true->∃m y gg p2 pos2,es=[m]/\args=[.Call (.Name gg p2) [y] [] pos2]/\gg=nm/\glB X.env.scope gg=true/\PE X y (tE X.K cal m)/\ah y=true:=λ{nm} J=>by
  replace J:=ak J
  obtain⟨a,e1,J⟩:=J
  replace J:=ak J
  obtain⟨⟨gg,y⟩,e2,J⟩:=J;obtain⟨p2,pos2,rfl⟩:=g6 e2;simp only[oe,Ju]at J;obtain⟨⟨⟨h2,h3⟩,h4⟩,h5⟩:=J;obtain⟨m,rfl⟩:=K9.mp h5;exact⟨m,y,gg,p2,pos2,rfl,cN e1,h2,h3,h1 m y rfl h4,(bX h4).1.2⟩
 have plain:∀{args:List Expr} (n:Nat),0<n->(some n==some es.length&&chks T es X.N X.env.scope args)=true->∃e r,args=e::r/\PA X (e::r) (tEs X.K cal es)/\(e::r).all ah=true:=λ{args} n cS J=>by
  simp only[oe,Ju,tr]at J;obtain⟨Y,U,q3⟩:=hs _ J.2;cases args with
  |nil=>rw[<- J.1]at q3;simp at q3;omega
  |cons e r=>exact⟨e,r,rfl,Y,U⟩
 cases b with
 |len =>
  obtain⟨e,r,er,Y,U⟩:=plain 1 (by decide) J;rw[er];exact⟨λz=>(by cases z),r9 GW Z (g.blt "len" (by decide)) qr (by decide) (by decide) Y U⟩
 |tupleOf =>
  obtain⟨e,r,er,Y,U⟩:=plain 1 (by decide) J;rw[er];exact⟨λz=>(by cases z),zq vA Z (g.blt "tuple" (by decide)) nq (by decide) (by decide) Y U⟩
 |listOf =>
  obtain⟨e,r,er,Y,U⟩:=plain 1 (by decide) J;rw[er];have q:=BY (p:=p) (pos:=pos) EA Z (g.blt "list" (by decide)) qt (by decide) (by decide) Y U;exact⟨λ_=>q,dB (dL (.inl rfl)) q⟩
 |sorted =>
  obtain⟨e,r,er,Y,U⟩:=plain 1 (by decide) J;rw[er];have q:=zr (p:=p) (pos:=pos) (zh g) Z (g.blt "sorted" (by decide)) k5 (by decide) (by decide) Y U;exact⟨λ_=>q,dB (dL (.inr (.inl rfl))) q⟩
 |any =>
  obtain⟨e,r,er,Y,U⟩:=plain 1 (by decide) J;rw[er];exact⟨λz=>(by cases z),r9 (GY g.calm) Z (g.blt "any" (by decide)) EJ (by decide) (by decide) Y U⟩
 |all =>
  obtain⟨e,r,er,Y,U⟩:=plain 1 (by decide) J;rw[er];exact⟨λz=>(by cases z),r9 (GZ g.calm) Z (g.blt "all" (by decide)) EK (by decide) (by decide) Y U⟩
 |intOf =>
  obtain⟨e,r,er,Y,U⟩:=plain 1 (by decide) J;rw[er];exact⟨λz=>(by cases z),zq GX Z (g.blt "int" (by decide)) zx (by decide) (by decide) Y U⟩
 |boolOf=>exact absurd J pb
 |max2=>exact absurd J pb
 |min2=>exact absurd J pb
 |isInt=>exact⟨λz=>(by cases z),inst "int" Z rfl rfl zx (g.blt "int" (by decide)) (by decide) (by decide) J⟩
 |isBool=>exact⟨λz=>(by cases z),inst "bool" Z rfl rfl B2 (g.blt "bool" (by decide)) (by decide) (by decide) J⟩
 |isStr=>exact absurd J pb
 |isList=>exact absurd J pb
 |isTuple=>exact⟨λz=>(by cases z),inst "tuple" Z rfl rfl nq (g.blt "tuple" (by decide)) (by decide) (by decide) J⟩
 |sortedSet =>
  obtain⟨m,y,gg,p2,pos2,ee,ea,h2,h3,hp,b0⟩:=c1 J;rw[ee,ea];have q:=r_ (p:=p) (p2:=p2) (pos:=pos) (pos2:=pos2) g rfl h2 Z h3 hp b0;exact⟨λ_=>q,dB (dL (.inr (.inr (.inl rfl)))) q⟩
 |sum =>
  obtain⟨e,r,er,Y,U⟩:=plain 1 (by decide) J;rw[er];exact⟨λz=>(by cases z),r9 (G0 g.calm) Z (g.blt "sum" (by decide)) PyProof.Rows.boot_sum (by decide) (by decide) Y U⟩
 |max1 =>
  obtain⟨e,r,er,Y,U⟩:=plain 1 (by decide) J;rw[er];exact⟨λz=>(by cases z),r9 (EC g.calm) Z (g.blt "max" (by decide)) EL (by decide) (by decide) Y U⟩
 |sortedKeys =>
  obtain⟨e,r,er,Y,U⟩:=plain 1 (by decide) J;rw[er];have q:=zr (p:=p) (pos:=pos) (qp g.calm) Z (g.blt "sorted" (by decide)) k5 (by decide) (by decide) Y U;exact⟨λ_=>q,dB (dL (.inr (.inr (.inr (.inl rfl))))) q⟩
 |valuesOf =>
  obtain⟨y,ap,cp,ea,h3,h4,h5,h6⟩:=B4 J;obtain⟨m,ee⟩:=K9.mp h6;have hy:=h1 m y ee h5;rw[ee,ea];have q:=zz (p:=p) (ap:=ap) (cp:=cp) (pos:=pos) g rfl Z hy (base_of h3) (by rw[h4];simp);exact⟨λ_=>q,dB (dL (.inr (.inr (.inr (.inr rfl))))) q⟩
 |min1=>cases J
 |tupleRev=>cases J
 |lenSet =>
  obtain⟨m,y,gg,p2,pos2,ee,ea,h2,h3,hp,b0⟩:=c1 J;rw[ee,ea];exact⟨λz=>(by cases z),zy g rfl h2 Z h3 hp b0⟩
 |lenSetSub =>
  obtain⟨gg,y,df,y',p2,U,p3,q3,q4,ea,a1,a2,a3,a4,a5,a6⟩:=EQ J;obtain⟨m,m',ee⟩:=B3 a6;obtain⟨b1,b2⟩:=cd m m' y y' ee a5;rw[ee]at a5 ⊢;rw[ea];exact⟨λz=>(by cases z),sa g rfl a1 a3 Z a2 a4 b1 b2 (bX a5).1.2 (bX (bX a5).2).1.2⟩
def He(g:Gf X T k cal)(hk:PE X l (tE X.K cal mk))(Y:PE X r (tE X.K cal J))(hm:behindInMarks (if neg=true then CmpOp.NotIn else CmpOp.In) r=false) :
  PE X (.Compare l [if neg=true then CmpOp.NotIn else CmpOp.In] [r] pos) (tE X.K cal (.dIn neg mk J))/\PT X (.Compare l [if neg=true then CmpOp.NotIn else CmpOp.In] [r] pos) (tT X.K cal (.dIn neg mk J)):=by
 have hu:X.A.units+1<cLine:=by have:=g.units;omega
 have go:∀{σ}{H}{Q:Bool->Hp->Prop},(∃B E O W b,aE X.K B E O H W σ/\ev cal (.dIn neg mk J) W=some (.bl b)/\∀H',ai H H'->Q b H') ->
   tE X.K cal mk σ H λy H1=>tE X.K cal J σ H1 λx H2=>∃a o,x=.ref a/\mH H2 a y o/\Q (if neg=true then !o.isSome else o.isSome) H2:=λ{σ H Q} q=>by
  refine az λZq Z=>?_
  obtain⟨B,E,O,W,b,st,z,q⟩:=q;rw[ev]at z;simp only[gk]at z;obtain⟨y,z,x,e2,U⟩:=z;refine Z ?_;refine⟨B,E,O,W,y,st,z,λuy H1 s1 g1=>⟨B,E,O,W,x,st.mono s1,e2,λux H2 s2 g2=>?_⟩⟩;rw[p0]at U;obtain⟨o,U,e4⟩:=U;cases x<;>try (cases U;done)
  obtain⟨a,rfl,Y⟩:=g2.1.dI;refine⟨a,_,rfl,qo U Y (g1.1.mono s2),?_⟩;rw[isSome_map,PV.bl.inj e4];exact q H2 (s1.trans s2)
 have ao:∀{σ}{H}{Q},tE X.K cal (.dIn neg mk J) σ H Q->∃B E O W b,aE X.K B E O H W σ/\ev cal (.dIn neg mk J) W=some (.bl b)/\∀H',ai H H'->Q (.bl b) H':=λ{σ H Q} q=>by
  refine az λZq Z=>?_
  obtain⟨B,E,O,W,v,st,z,q⟩:=q;have hb:∃b,v=.bl b:=by
   rw[ev]at z;simp only[gk]at z;obtain⟨y,_,x,_,U⟩:=z;rw[p0]at U;obtain⟨o,_,e4⟩:=U;exact⟨_,e4.symm⟩
  obtain⟨b,rfl⟩:=hb;refine Z ?_;exact⟨B,E,O,W,b,st,z,λH' s=>q _ H' s (.of (d9 _ _))⟩
 have aO:∀{σ}{H}{Q},tT X.K cal (.dIn neg mk J) σ H Q->∃B E O W b,aE X.K B E O H W σ/\ev cal (.dIn neg mk J) W=some (.bl b)/\∀H',ai H H'->Q b H':=λ{σ H Q} q=>by
  refine az λZq Z=>?_
  obtain⟨B,E,O,W,b,st,z,q⟩:=q;unfold evB at z;simp only[gk]at z;obtain⟨v,z,e2⟩:=z;refine Z ?_;cases v<;>simp only[bb,reduceCtorEq,tr]at e2
  subst e2;exact⟨B,E,O,W,_,st,z,q⟩
 cases neg with
 |false =>
  refine⟨(xE (ya hu hk Y) hm).imp λσ H Q q=>?_,(xF (ya hu hk Y) hm).imp λσ H Q q=>?_⟩
  .exact go (Q:=λb H'=>Q (.bl b) H') (ao q)
  .exact go (Q:=λb H'=>∃c,V.bl b=.bl c/\Q c H') (by
    obtain⟨B,E,O,W,b,st,z,q⟩:=aO q;exact⟨B,E,O,W,b,st,z,λH' s=>⟨b,rfl,q H' s⟩⟩)
 |true =>
  refine⟨(xE (oS hu hk Y) hm).imp λσ H Q q=>?_,(xF (oS hu hk Y) hm).imp λσ H Q q=>?_⟩
  .exact go (Q:=λb H'=>Q (.bl b) H') (ao q)
  .exact go (Q:=λb H'=>∃c,V.bl b=.bl c/\Q c H') (by
    obtain⟨B,E,O,W,b,st,z,q⟩:=aO q;exact⟨B,E,O,W,b,st,z,λH' s=>⟨b,rfl,q H' s⟩⟩)
def ER{ma mk md:ME}{o e f:Expr}{ap cp:Pos}(g:Gf X T k cal)(ha:PE X o (tE X.K cal ma))(hk:PE X e (tE X.K cal mk))(hd:PE X f (tE X.K cal md))(hb:o9 o=true)(hl:(ap.endLine==cp.line)=true)(h1:ah e=true)(h2:ah f=true) :
  PE X (.Call (.Attribute o "get" ap) [e,f] [] cp) (tE X.K cal (.dget ma mk md)):=by
 have hu:X.A.units+1<cLine:=by have:=g.units;omega
 have J:starEach [e,f] X.env=[(false,eval e X.env),(false,eval f X.env)]:=by rw[aV h1,aV h2];rfl
 have m:M2 X o "get" ap e f cp:=by
  refine⟨base_of hb,?_,hl,?_⟩
  .rw[J];rfl
  .rw[J];rfl
 refine(yf hu ha hk hd m).imp λσ H Q q=>?_
 refine az λZq kq=>?_
 obtain⟨B,E,O,W,v,st,U,q⟩:=q;rw[ev]at U;simp only[gk,p0]at U;obtain⟨x,U,y,e2,z,e3,Y,e4,sz,e5,e6⟩:=U;refine kq ?_;cases x<;>try (cases e4;done)
 refine⟨B,E,O,W,_,st,U,λux H1 Z g1=>?_⟩;obtain⟨a,rfl,hH⟩:=g1.1.dI;refine⟨a,rfl,qi hH,B,E,O,W,_,st.mono Z,e2,λuy H2 s2 g2=>⟨B,E,O,W,z,st.mono (Z.trans s2),e3,λuz H3 s3 g3=>?_⟩⟩;refine⟨_,qo e4 (ai.rdD s3 (ai.rdD s2 hH)) (g2.1.mono s3),?_⟩;rw[uo e5 g3.1];have e7:(Y.map Sc.v).getD sz.v=(Y.getD sz).v:=by cases Y<;>rfl
 rw[e7];refine q _ H3 (Z.trans (s2.trans s3)) ?_;rw[<- e6];exact .of (um _ _ _)
def Hf(g:Gf X T k cal)(Z:PE X o (tE X.K cal ma))(hk:PE X i (tE X.K cal mk))(hs:bW i=true):PE X (.Subscript o i pos) (tE X.K cal (.dat ma mk)):=by
 have hu:X.A.units+1<cLine:=by have:=g.units;omega
 refine(u3 hu Z hk (by cases i<;>first|(intro _ _;rfl)|(simp[bW]at hs))).imp λσ H Q q=>?_
 refine az λZq kq=>?_
 obtain⟨B,E,O,W,v,st,z,q⟩:=q;rw[ev]at z;simp[gk,p0]at z;obtain⟨x,z,y,e2,oo,J,sz,rfl,e6⟩:=z;refine kq ?_;cases x<;>try (cases J;done)
 refine⟨B,E,O,W,_,st,z,λux H1 U g1=>?_⟩;obtain⟨a,rfl,hH⟩:=g1.1.dI;refine⟨B,E,O,W,_,st.mono U,e2,λuy H2 Y g2=>?_⟩;refine⟨a,_,rfl,qo J (ai.rdD Y hH) g2.1,q _ H2 (U.trans Y) ?_⟩;rw[<- e6];exact .of (um _ _ _)
end
mutual
theorem au{T:Tab}{k:Nat}{cal:Cal}:∀(me:ME) {X:Cx}{e:Expr},Gf X T k cal->chk T me X.N X.env.scope e=true->PE X e (tE X.K cal me)/\PT X e (tT X.K cal me)
 | .var i,X,e,g,h=>by
  replace h:=ak h
  obtain⟨x,w,h⟩:=h;obtain rfl:=d8 w;exact⟨CZ h,bw (CZ h) rfl⟩
 | .bor i,X,e,g,h=>by
  replace h:=ak h
  obtain⟨x,w,h⟩:=h;obtain rfl:=d8 w;exact⟨C0 h,bw (C0 h) rfl⟩
 | .cst v,X,e,g,h=>by
  replace h:=ak h
  obtain⟨x,w,h⟩:=h;obtain rfl:=yS w;exact⟨C1 h,bw (C1 h) rfl⟩
 | .glob x v,X,e,g,h=>by
  replace h:=ak h
  obtain⟨y,w,h⟩:=h;obtain rfl:=d8 w;exact⟨zf g h,bw (zf g h) rfl⟩
 | .bin op a b,X,e,g,h=>by
  replace h:=ak h
  obtain⟨⟨l,o,r,pos⟩,w,h⟩:=h;obtain rfl:=qd w;simp only[oe,Ju]at h;obtain⟨⟨rfl,h1⟩,h2⟩:=h;have p:=G4 (op:=op) (pos:=pos) (au a g h1).1 (au b g h2).1;exact⟨p,bw p rfl⟩
 | .neg _,X,e,g,h=>absurd (show false=true from h) pb
 | .not a,X,e,g,h=>by
  replace h:=ak h
  obtain⟨⟨o,x,pos⟩,w,h⟩:=h;obtain rfl:=Ea w
  replace h:=mu.mp h
  obtain⟨h2,h⟩:=h;obtain rfl:=eq_of_beq h2;exact⟨G5 (au a g h).1,G6 (au a g h).2⟩
 | .and a b,X,e,g,h=>by
  replace h:=ak h
  obtain⟨⟨o,vs,pos⟩,w,h⟩:=h;obtain rfl:=yT w
  replace h:=mu.mp h
  obtain⟨h2,h⟩:=h;obtain rfl:=eq_of_beq h2;rcases vo h with⟨x,y,rfl,h1,h2⟩|⟨x,y,z,r,rfl,h1,h2⟩
  .exact⟨C2 (au a g h1).1 (xG (au b g h2).1),C4 (au a g h1).2 (AY (au b g h2).2)⟩
  .exact⟨C2 (au a g h1).1 (au b g h2).1,C4 (au a g h1).2 (C3 (au b g h2).2)⟩
 | .or a b,X,e,g,h=>by
  replace h:=ak h
  obtain⟨⟨o,vs,pos⟩,w,h⟩:=h;obtain rfl:=yT w
  replace h:=mu.mp h
  obtain⟨h2,h⟩:=h;obtain rfl:=eq_of_beq h2;rcases vo h with⟨x,y,rfl,h1,h2⟩|⟨x,y,z,r,rfl,h1,h2⟩
  .exact⟨G7 (au a g h1).1 (xG (au b g h2).1),G8 (au a g h1).2 (Dm (au b g h2).2)⟩
  .exact⟨G7 (au a g h1).1 (au b g h2).1,G8 (au a g h1).2 (C3 (au b g h2).2)⟩
 | .ite c a b,X,e,g,h=>by
  replace h:=ak h
  obtain⟨q,w,h⟩:=h;obtain rfl:=Eb w;simp only[oe,JC]at h;obtain⟨⟨⟨⟨h1,h2⟩,J⟩,h4⟩,h5⟩:=h;exact⟨G9 (au c g h1).2 (au a g h2).1 (au b g J).1 h4 h5,G_ (au c g h1).2 (au a g h2).2 (au b g J).2⟩
 | .cmp op a b,X,e,g,h=>by
  replace h:=ak h
  obtain⟨⟨l,o,r⟩,w,h⟩:=h;obtain⟨pos,rfl⟩:=vm w;simp only[oe,Ju,JC]at h;obtain⟨⟨⟨rfl,h1⟩,h2⟩,J⟩:=h;exact Ha g (au a g h1).1 (au b g h2).1 J
 | .chain _ _ _ _ _,X,e,g,h=>absurd (show false=true from h) pb
 | .tup es,X,e,g,h=>by
  replace h:=ak h
  obtain⟨q,w,h⟩:=h;obtain rfl:=t9 w;obtain⟨h1,h2⟩:=mu.mp h;have p:=Hb (j:=q.2.1) (pos:=q.2.2) (sounds es g h1) h2;exact⟨p,bw p rfl⟩
 | .lst es,X,e,g,h=>by
  replace h:=ak h
  obtain⟨q,w,h⟩:=h;obtain rfl:=qe w
  replace h:=mu.mp h
  have p:=λ(pos:Pos)=>dB (λW v hv=>by
   rw[ev,gk]at hv;obtain⟨vs,_,hv⟩:=hv;split at hv
   .cases hv;exact⟨_,rfl⟩
   .cases hv) (C5 (pos:=pos) (sounds es g h.1) h.2)
  exact⟨p _,bw (p _) rfl⟩
 | .idx a i,X,e,g,h=>by
  replace h:=ak h
  obtain⟨q,w,h⟩:=h;obtain rfl:=m4 w;simp only[oe]at h;have p:=Hc (pos:=q.2.2) (au a g h.1.1).1 (au i g h.1.2).1 h.2;exact⟨p,bw p rfl⟩
 | .slice a lo hi,X,e,g,h=>by
  replace h:=ak h
  obtain⟨⟨v,l,u⟩,w,h⟩:=h;obtain⟨p2,pos,rfl⟩:=BB w;simp only[oe]at h;obtain⟨⟨h1,h2⟩,J⟩:=h;have bd:∀{b:ME}{o:Option Expr},(∀e,chk T b X.N X.env.scope e=true->PE X e (tE X.K cal b))->qf (λe=>chk T b X.N X.env.scope e) (jD b) o=true->PO X o (tB1 X.K cal b):=λ{b o} hb h2=>by
   cases o with
   |none=>exact EG h2
   |some l =>
    simp only[qf,oe,JC]at h2;exact EH (hb l h2.1) h2.2
  have p:=BX (p2:=p2) (pos:=pos) (au a g h1).1 (bd (λe he=>(au lo g he).1) h2) (bd (λe he=>(au hi g he).1) J);exact⟨p,bw p rfl⟩
 | .blt b es,X,e,g,h=>by
  replace h:=ak h
  obtain⟨⟨x,args⟩,w,h⟩:=h;obtain⟨p,pos,rfl⟩:=fE w;simp only[oe,Ju]at h;obtain⟨⟨hx,hg⟩,ha⟩:=h;have q:=(sf (p:=p) (pos:=pos) g hx hg ha (λxs U=>⟨sounds es g U,bD U⟩) (λm x hm hx=>match es,hm with|[m'],rfl=>(au m' g (bX hx).1.1).1) (λa b x x' hm hx=>match es,hm with|[m1,m2],rfl=>⟨(au m1 g (bX hx).1.1).1,(au m2 g (bX (bX hx).2).1.1).1⟩)).2;exact⟨q,bw q rfl⟩
 | .call f es,X,e,g,h=>by
  replace h:=ak h
  obtain⟨⟨x,args⟩,w,h⟩:=h;obtain⟨p,pos,rfl⟩:=fE w;simp only[oe,Ju]at h;obtain⟨⟨⟨h1,h2⟩,J⟩,h4⟩:=h;obtain⟨hs,hl⟩:=bD h4;have q:=EI (p:=p) (pos:=pos) g h1 h2 J (soundA es g h4) hs hl;exact⟨q,bw q rfl⟩
 | .callD _ _ _,X,e,g,h=>absurd (show false=true from h) pb
 | .disp kvs m,X,e,g,h=>by
  obtain⟨q,e1,h⟩:=ak (show onQ (yZ e) (λq=>rR kvs q.1 q.2.1&&chk T m X.N X.env.scope q.2.2&&bW q.2.2&&decide (kvs.length<=15)&&!kvs.isEmpty)=true from h);obtain⟨ks,vs,a⟩:=q;obtain⟨p,pos,rfl⟩:=y0 e1;obtain⟨a0,h5⟩:=mu.mp h;obtain⟨a1,h4⟩:=mu.mp a0;obtain⟨a2,J⟩:=mu.mp a1;obtain⟨h1,h2⟩:=mu.mp a2;have q:PE X (.Subscript (.Dict ks vs p) a pos) (tE X.K cal (.disp kvs m)):=EN g h1 (J0 h4) (by simpa using h5) (au m g h2).1 J;exact⟨q,bw q rfl⟩
 | .lenP i,X,e,g,h=>by
  replace h:=ak h
  obtain⟨⟨x,y⟩,w,h⟩:=h;obtain⟨p,yp,pos,rfl⟩:=BD w;simp only[oe,Ju]at h;obtain⟨⟨rfl,h2⟩,J⟩:=h;have q:PE X (.Call (.Name ("len":Str) p) [.Name y yp] [] pos) (tE X.K cal (.lenP i)):=EO g h2 J;exact⟨q,bw q rfl⟩
 | .dIn neg mk ma,X,e,g,h=>by
  replace h:=ak h
  obtain⟨⟨l,o,r⟩,w,h⟩:=h;obtain⟨pos,rfl⟩:=vm w;simp only[oe,Ju,JC]at h;obtain⟨⟨⟨rfl,h1⟩,h2⟩,J⟩:=h;exact He g (au mk g h1).1 (au ma g h2).1 J
 | .dat ma mk,X,e,g,h=>by
  replace h:=ak h
  obtain⟨q,w,h⟩:=h;obtain rfl:=m4 w;simp only[oe]at h;have p:=Hf (pos:=q.2.2) g (au ma g h.1.1).1 (au mk g h.1.2).1 h.2;exact⟨p,bw p rfl⟩
 | .dget ma mk md,X,e,g,h=>by
  replace h:=ak h
  obtain⟨⟨o,m,ap,args,cp⟩,w,h⟩:=h;obtain rfl:=t_ w
  replace h:=ak h
  obtain⟨⟨x,y⟩,w,h⟩:=h;obtain rfl:=l7 w;simp only[oe,Ju]at h;obtain⟨⟨⟨⟨⟨⟨⟨rfl,h1⟩,h2⟩,J⟩,h4⟩,h5⟩,h6⟩,h7⟩:=h;have p:=ER (ap:=ap) (cp:=cp) g (au ma g J).1 (au mk g h4).1 (au md g h5).1 h1 (by rw[h2];simp) h6 h7;exact⟨p,bw p rfl⟩
 | .comp k' src js cond elt,X,e,g,h=>by
  replace h:=kX h
  obtain⟨e,x,px,it,ifs,scope,pos,rfl,h⟩:=h;simp only[oe,JC]at h;obtain⟨⟨⟨⟨h1,h2⟩,J⟩,h4⟩,h5⟩:=h;have hw:=k7 (tg:=.Name x px) (λz=>by cases z) g h2 (λxs U=>⟨sounds src g U,bD U⟩) (λm x hm hx=>match src,hm with|[m'],rfl=>(au m' g (bX hx).1.1).1);have q:=dB se (ui (pos:=pos) g h1 hw.1 hw.2 (λY Z C fp=>qv J λc hc=>(au cond (g.blk x (dA X.N js) scope Y Z C fp) hc).2) (λY Z C fp=>(au elt (g.blk x (dA X.N js) scope Y Z C fp) h4).1) h5);exact⟨q,bw q rfl⟩
theorem sounds{T:Tab}{k:Nat}{cal:Cal}:∀(ms:List ME) {X:Cx}{es:List Expr},Gf X T k cal->chks T ms X.N X.env.scope es=true->PA X es (tEs X.K cal ms)
 | [],X,es,g,h=>by
  cases es with
  |nil=>exact BW
  |cons _ _=>cases h
 |m::ms,X,es,g,h=>by
  cases es with
  |nil=>cases h
  |cons e es =>
   replace h:=bX h
   exact zm (au m g h.1.1).1 (sounds ms g h.2) h.1.2
theorem soundA{T:Tab}{k:Nat}{cal:Cal}:∀(ms:List ME) {X:Cx}{es:List Expr},Gf X T k cal->chks T ms X.N X.env.scope es=true->PA X es (tAs X.K cal ms)
 | [],X,es,g,h=>by
  cases es with
  |nil=>exact zn
  |cons _ _=>cases h
 |m::ms,X,es,g,h=>by
  cases es with
  |nil=>cases h
  |cons e es =>
   replace h:=bX h
   have hs:=soundA ms g h.2;cases z:aK m with
   |false=>exact wR z (au m g h.1.1).1 hs h.1.2
   |true =>
    obtain⟨i,rfl⟩:=m6 z;obtain⟨x,p,rfl,h1⟩:=j6 h.1.1;exact zp h1 hs
end
def ES(g:Gf X T k cal)(h:chk T me X.N X.env.scope e=true)(hf:iJ me=true):PE X e (tF X.K cal me):=by
 cases me with
 |lst es =>
  replace h:=ak h
  obtain⟨q,w,h⟩:=h;obtain rfl:=qe w
  replace h:=mu.mp h
  exact C5 (sounds es g h.1) h.2
 |blt b es =>
  replace h:=ak h
  obtain⟨⟨x,args⟩,w,h⟩:=h;obtain⟨p,pos,rfl⟩:=fE w;simp[oe,Ju]at h;obtain⟨⟨hx,hg⟩,ha⟩:=h;exact(sf (p:=p) (pos:=pos) g hx hg ha (λxs J=>⟨sounds es g J,bD J⟩) (λm x Z hx=>match es,Z with|[m'],rfl=>(au m' g (bX hx).1.1).1) (λa b x x' Z hx=>match es,Z with|[m1,m2],rfl=>⟨(au m1 g (bX hx).1.1).1,(au m2 g (bX (bX hx).2).1.1).1⟩)).1 hf
 |comp k' src js cond elt =>
  replace h:=kX h
  obtain⟨e,x,px,it,ifs,scope,pos,rfl,h⟩:=h;simp only[oe,JC]at h;obtain⟨⟨⟨⟨h1,h2⟩,h3⟩,h4⟩,h5⟩:=h;have hw:=k7 (tg:=.Name x px) (λz=>by cases z) g h2 (λxs J=>⟨sounds src g J,bD J⟩) (λm x Z hx=>match src,Z with|[m'],rfl=>(au m' g (bX hx).1.1).1);exact ui g h1 hw.1 hw.2 (λU Y C fp=>qv h3 λc hc=>(au cond (g.blk x _ scope U Y C fp) hc).2) (λU Y C fp=>(au elt (g.blk x _ scope U Y C fp) h4).1) h5
 | _=>cases hf
noncomputable def Hg:MV->Bool
 | .brw _=>true
 | .brwD _=>true
 | _=>false
def vI(h1:iI m=true)(h2:Hg m=true):False:=by cases m<;>first|(cases h2;done)|(cases h1;done)
structure bi(B:Hp)(O O':List Addr)(W l:Rho)(σ F:St):Prop where
 stay:∀a,B a≠none->a∈O->a∈O'
 new:∀a∈O',a∈O\/B a=none
 brw:∀(i:Nat) (m:MV),Hg m=true->l[i]?=some (some m)->W[i]?=some (some m)/\F[i]?=σ[i]?
 len:l.length=W.length
 mutK:∀(i:Nat) (d':DD),l[i]?=some (some (.mutD d'))->(∃d,W[i]?=some (some (.mutD d)))/\F[i]?=σ[i]?
def bi.refl :bi B O O W W σ σ:=⟨λ_ _ h=>h,λ_ h=>.inl h,λ_ _ _ h=>⟨h,rfl⟩,rfl,λ_ d' h=>⟨⟨d',h⟩,rfl⟩⟩
theorem bi.trans(a:bi B O O1 W z σ J)(b:bi B O1 O2 z U J Y):bi B O O2 W U σ Y where
 stay:=λx h1 h2=>b.stay x h1 (a.stay x h1 h2)
 new:=λx h=>(b.new x h).elim (a.new x) .inr
 brw:=λi xs hm h=>by
  obtain⟨h1,Z⟩:=b.brw i xs hm h;obtain⟨h2,e2⟩:=a.brw i xs hm h1;exact⟨h2,Z.trans e2⟩
 len:=b.len.trans a.len
 mutK:=λi d' h=>by
  obtain⟨⟨d1,h1⟩,Z⟩:=b.mutK i d' h;obtain⟨h2,e2⟩:=a.mutK i d1 h1;exact⟨h2,Z.trans e2⟩
def gw(K:Mx)(B:Hp)(E O:List Addr)(W:Rho)(σ:St)(D:Dh):R->Prop
 | .next l=>∀F H' z,aE K B E z H' l F->bi B O z W l σ F->D.nx F H'
 | .brk l=>∀F H' z,aE K B E z H' l F->bi B O z W l σ F->D.bk F H'
 | .cont l=>∀F H' z,aE K B E z H' l F->bi B O z W l σ F->D.ct F H'
 | .ret v=>∀u H',ai B H'->Rep K (av H' E) v u->D.rt u H'
 | .retM v l=>∀u F H' z,aE K B E z H' l F->bi B O z W l σ F->Rep K (av H' z) v u->D.rt u H'
 | .retF xs=>∀p us H',ai B H'->B p=none->H' p=some (.lst us)->Reps K (av H' (p::E)) xs us->D.rt (.ref p) H'
 | .bad=>False
theorem gw.trans{K:Mx}(h:gw K B E O W σ D r)(k:bi B O Y W l σ F):gw K B E Y l F D r:=by
 cases r<;>first|exact λz H2 J st U=>h z H2 J st (k.trans U)|exact h|exact λu z H2 J st U=>h u z H2 J st (k.trans U)
noncomputable def tS(K:Mx)(cal:Cal)(m:MS):TS:=λD σ H=>∃B E O W,aE K B E O H W σ/\gw K B E O W σ D (ex cal m W)
noncomputable def tSs(K:Mx)(cal:Cal)(ms:List MS):TS:=λD σ H=>∃B E O W,aE K B E O H W σ/\gw K B E O W σ D (exs cal ms W)
section
variable{K:Mx}{B H H':Hp}{E O:List Addr}{W:Rho}{σ:St}
def aj(h:i<W.length):(put W i m)[i]?=some (some m):=by unfold put;exact Ks h
def ag(h:i≠j):(put W i m)[j]?=W[j]?:=by unfold put;exact JJ h
def put_len :(put W i m).length=W.length:=by unfold put;exact LB
def aE.store(st:aE K B E O H W σ)(hi:i<σ.length)(r:Rep K (av H O) v u):aE K B E O H (put W i (.val v)) (σ.set i (some u))/\bi B O O W (put W i (.val v)) σ (σ.set i (some u)):=by
 have J:i<W.length:=by rw[st.len];exact hi
 refine⟨⟨st.keep,st.here,st.sub,st.old,by rw[put_len,LB];exact st.len,λj m e=>?_,λa b xs ys ad ao Y Z o1 o2 e3 e4=>?_
  ⟩,⟨λ_ _ h=>h,λ_ h=>.inl h,λj xs aO e=>?_,put_len
  ,λj d' e=>?_
  ⟩⟩
 .by_cases U:i=j
  .subst U;rw[aj J]at e;cases e;exact⟨u,Ks hi,r⟩
  .rw[ag U]at e;obtain⟨w,Y,q⟩:=st.slot j m e;exact⟨w,by rw[JJ U];exact Y,q⟩
 .have h1:i≠a:=λz=>by subst z;rw[aj J]at Y;cases Y;cases o1
  have h2:i≠b:=λz=>by subst z;rw[aj J]at Z;cases Z;cases o2
  rw[ag h1]at Y;rw[ag h2]at Z;rw[JJ h1]at e3;rw[JJ h2]at e4;exact st.apart a b xs ys ad ao Y Z o1 o2 e3 e4
 .have U:i≠j:=λz=>by subst z;rw[aj J]at e;cases e;cases aO
  rw[ag U]at e;exact⟨e,JJ U⟩
 .have U:i≠j:=λz=>by subst z;rw[aj J]at e;cases e
  rw[ag U]at e;exact⟨⟨d',e⟩,JJ U⟩
def aE.storeM(st:aE K B E O H W σ)(hi:i<σ.length)(s:ai H H')(hp:H p=none)(e:H' p≠none)(hm:iI mm=true)
  (a8:∀d,mm≠.mutD d)
  (r:B p=none->eY K B (p::O) H' mm (.ref p))
  :
  aE K B E (p::O) H' (put W i mm) (σ.set i (some (.ref p)))/\bi B O (p::O) W (put W i mm) σ (σ.set i (some (.ref p))):=by
 have a1:i<W.length:=by rw[st.len];exact hi
 have a4:=st.keep.free hp;have ao:ai (av H O) (av H' (p::O)):=bK s λb Z=>by
  rcases Jp.mp Z with rfl|Z
  .exact .inr hp
  .exact .inl Z
 refine⟨⟨st.keep.trans s,λa J=>?_,λa J=>J6 _ (st.sub a J),st.old,by rw[put_len,LB];exact st.len,λj m U=>?_,λa b xs ys ad a5 e1 Y o1 o2 e3 e4=>?_
  ⟩,⟨λ_ _ h=>J6 _ h,λa J=>?_,λj xs a9 U=>?_,put_len
  ,λj d' U=>?_
  ⟩⟩
 .rcases Jp.mp J with rfl|J
  .exact e
  .exact λz=>st.here a J (s.free z)
 .by_cases hj:i=j
  .subst hj;rw[aj a1]at U;cases U;exact⟨_,Ks hi,r a4⟩
  .rw[ag hj]at U;obtain⟨w,e1,q⟩:=st.slot j m U;refine⟨w,by rw[JJ hj];exact e1,?_⟩;cases m with
   |val v=>exact Rep.mono ao _ q
   |own ys=>obtain⟨a,ws,Y,h1,h2,h3,h4⟩:=q;exact⟨a,ws,Y,s _ _ h1,Reps.mono ao _ h2,J6 _ h3,h4⟩
   |brw ys=>obtain⟨a,ws,Y,h1,h2⟩:=q;exact⟨a,ws,Y,h1,Reps.mono ao _ h2⟩
   |brwD ys=>exact q
   | _=>obtain⟨a,Y,h1,h3,h4⟩:=q;exact⟨a,Y,h1.move (s _) ao,J6 _ h3,h4⟩
 .have other:∀(j:Nat) zs ad,W[j]?=some (some zs)->iI zs=true->σ[j]?=some (some (.ref ad))->ad≠p:=λj zs ad h1 ho h2 z=>by
   obtain⟨w,e1,q⟩:=st.slot j _ h1;rw[h2]at e1;cases e1;cases zs with
   |own zs =>
    obtain⟨a,ws,Y,h1,_⟩:=q;cases Y;rw[z,hp]at h1;cases h1
   |ownD zs|mutD zs =>
    obtain⟨a,Y,h1,_⟩:=q;cases Y;obtain⟨o,h1⟩:=h1.here;rw[z,hp]at h1;cases h1
   | _=>cases ho
  by_cases J:i=a
  .subst J;have Z:=a5;rw[Ks hi]at e3;rw[ag Z]at Y;rw[JJ Z]at e4;cases e3;exact other b ys _ Y o2 e4 rfl
  .by_cases Z:i=b
   .subst Z;rw[Ks hi]at e4;rw[ag J]at e1;rw[JJ J]at e3;cases e4;exact other a xs _ e1 o1 e3 rfl
   .rw[ag J]at e1;rw[ag Z]at Y;rw[JJ J]at e3;rw[JJ Z]at e4;exact st.apart a b _ _ ad a5 e1 Y o1 o2 e3 e4
 .rcases Jp.mp J with rfl|J
  .exact .inr a4
  .exact .inl J
 .have hj:i≠j:=λz=>by subst z;rw[aj a1]at U;cases U;exact vI hm a9
  rw[ag hj]at U;exact⟨U,JJ hj⟩
 .have hj:i≠j:=λz=>by subst z;rw[aj a1]at U;cases U;exact a8 d' rfl
  rw[ag hj]at U;exact⟨⟨d',U⟩,JJ hj⟩
def aE.storeOwn(st:aE K B E O H W σ)(hi:i<σ.length)(s:ai H H')(J:H p=none)(e:H' p=some (.lst us))(r:Reps K (av H' (p::O)) xs us) :
  aE K B E (p::O) H' (put W i (.own xs)) (σ.set i (some (.ref p)))/\bi B O (p::O) W (put W i (.own xs)) σ (σ.set i (some (.ref p))):=
 st.storeM hi s J (by rw[e];simp) rfl (λ_ z=>by cases z) λU=>⟨p,us,rfl,e,r,Kf,U⟩
def aE.changeM(st:aE K B E O H W σ)(e:W[i]?=some (some m0))(o0:iI m0=true)(o1:iI m1=true)
  (om:∀d',m1=.mutD d'->∃d,m0=.mutD d)
  (es:σ[i]?=some (some (.ref a))) (h3:a∈O) (h4:B a=none) (r:av (upd H a ob) O=av H O->eY K B O (upd H a ob) m1 (.ref a))
  :
  aE K B E O (upd H a ob) (put W i m1) σ/\bi B O O W (put W i m1) σ σ:=by
 have ao:=(Jt.mp e).1;have Y:av (upd H a ob) O=av H O:=iL h3;have other:∀j zs ad,i≠j->W[j]?=some (some zs)->iI zs=true->σ[j]?=some (some (.ref ad))->ad≠a:=λj zs ad U Z o2 q2 z=>by
  subst z;exact st.apart i j m0 zs ad U e Z o0 o2 es q2
 refine⟨⟨λb u eb=>?_,λb hb=>?_,st.sub,st.old,by rw[put_len];exact st.len,λj m J=>?_,λc d ps qs ad a5 e1 e2 p1 p2 e3 e4=>?_
  ⟩,⟨λ_ _ h=>h,λ_ h=>.inl h,λj zs a8 J=>?_,put_len
  ,λj d' J=>?_
  ⟩⟩
 .rw[aZ (cx eb h4)];exact st.keep b u eb
 .unfold upd;split
  .simp
  .exact st.here b hb
 .by_cases U:i=j
  .subst U;rw[aj ao]at J;cases J;exact⟨_,es,r Y⟩
  .rw[ag U]at J;obtain⟨w,ew,q⟩:=st.slot j m J;refine⟨w,ew,?_⟩;cases m with
   |val v=>show Rep K (av (upd H a ob) O) v w;rw[Y];exact q
   |own zs =>
    obtain⟨ad,ws,rfl,Z,q2,q3,q4⟩:=q;refine⟨ad,ws,rfl,?_,by rw[Y];exact q2,q3,q4⟩;rw[aZ (other j (.own zs) ad U J rfl ew)];exact Z
   |ownD zs =>
    obtain⟨ad,rfl,Z,q3,q4⟩:=q;refine⟨ad,rfl,Z.move (λo eo=>?_) (by rw[Y];exact ai.refl _),q3,q4⟩;rw[aZ (other j (.ownD zs) ad U J rfl ew)];exact eo
   |mutD zs =>
    obtain⟨ad,rfl,Z,q3,q4⟩:=q;refine⟨ad,rfl,Z.move (λo eo=>?_) (by rw[Y];exact ai.refl _),q3,q4⟩;rw[aZ (other j (.mutD zs) ad U J rfl ew)];exact eo
   |brwD zs=>exact q
   |brw zs=>obtain⟨ad,ws,rfl,Z,q2⟩:=q;exact⟨ad,ws,rfl,Z,by rw[Y];exact q2⟩
 .have h1:∀j zs,(put W i m1)[j]?=some (some zs)->iI zs=true->∃zs,W[j]?=some (some zs)/\iI zs=true:=λj zs q oz=>by
   by_cases U:i=j
   .subst U;exact⟨m0,e,o0⟩
   .rw[ag U]at q;exact⟨zs,q,oz⟩
  obtain⟨Z,e1,p1⟩:=h1 c ps e1 p1;obtain⟨q2,e2,p2⟩:=h1 d qs e2 p2;exact st.apart c d Z q2 ad a5 e1 e2 p1 p2 e3 e4
 .have U:i≠j:=λz=>by subst z;rw[aj ao]at J;cases J;exact vI o1 a8
  rw[ag U]at J;exact⟨J,rfl⟩
 .by_cases U:i=j
  .subst U;rw[aj ao]at J;cases J;obtain⟨d,rfl⟩:=om d' rfl;exact⟨⟨d,e⟩,rfl⟩
  .rw[ag U]at J;exact⟨⟨d',J⟩,rfl⟩
def aE.change(st:aE K B E O H W σ)(e:W[i]?=some (some (.own xs)))(es:σ[i]?=some (some (.ref a)))(r:Reps K (av H O) ys us) :
  aE K B E O (upd H a (.lst us)) (put W i (.own ys)) σ/\bi B O O W (put W i (.own ys)) σ σ:=by
 refine az λZq kq=>?_
 obtain⟨w,U,a',aO,e2,h1,h2,Y,Z⟩:=st.slot i _ e;rw[es]at U;cases U;cases e2;refine kq ?_;exact st.changeM e rfl rfl (λ_ z=>by cases z) es Y Z λJ=>⟨a,us,rfl,ax,by rw[J];exact r,Y,Z⟩
def aE.changeD(st:aE K B E O H W σ)(e:W[i]?=some (some (.ownD xs)))(es:σ[i]?=some (some (.ref a)))(hd:av (upd H a U) O=av H O->DAt K (upd H a U) O a ys) :
  aE K B E O (upd H a U) (put W i (.ownD ys)) σ/\bi B O O W (put W i (.ownD ys)) σ σ:=by
 refine az λZq kq=>?_
 obtain⟨w,Y,a',e2,h1,Z,h4⟩:=st.slot i _ e;rw[es]at Y;cases Y;cases e2;refine kq ?_;exact st.changeM e rfl rfl (λ_ z=>by cases z) es Z h4 λJ=>⟨a,rfl,hd J,Z,h4⟩
def aE.changeU(st:aE K B E O H W σ)(e:W[i]?=some (some (.mutD xs)))(es:σ[i]?=some (some (.ref a)))(hd:av (upd H a J) O=av H O->DAt K (upd H a J) O a ys) :
  aE K B E O (upd H a J) (put W i (.mutD ys)) σ/\bi B O O W (put W i (.mutD ys)) σ σ:=by
 refine az λZq kq=>?_
 obtain⟨w,U,a',e2,h1,Y,Z⟩:=st.slot i _ e;rw[es]at U;cases U;cases e2;refine kq ?_;exact st.changeM e rfl rfl (λ_ _=>⟨_,rfl⟩) es Y Z λz=>⟨a,rfl,hd z,Y,Z⟩
end
section
open AutoSeq1 (wpAny_loadPart')
open MeetsSeq MeetsSeq2 MeetsSeq3 SeqRoads2 AutoSeq1
def qw(l)(items)(n)(b)(z)(n2)(J)(U)(aO:¬(!items.isEmpty&&Builtin.List.listTooLong (items.size+z.size))=true)(Y:items.size<=sizeLine)(a0:items.size+z.size<=sizeLine+1) :
  Meets (Builtin.«list.extend» ⟨[.ref l,.ref b],[]⟩) (λ_ R s=>s.heap.get? l=some { cls:=.type "list",dict:=none,data:=.seq items n,slots:=#[] }/\s.heap.get? b=some { cls:=.type "tuple",dict:=J,data:=.seq z n2,slots:=U }/\R (.ok (.ret Value.none)) { s with heap:=s.heap.update l (Obj.mapSeq λx=>x++z),toks:=s.toks }):=
 .of_wp λprog w A R s h=>by
  obtain⟨hp,g,d,tk,os⟩:=s;obtain⟨Z,hb,h⟩:=h;have f1:=AutoSeq1.idx_int;have f2:=Lw;have f3:=AutoSeq1.sub_list_list;have f4:=AutoSeq1.sub_tuple_list;have f5:=AutoSeq1.sub_list_tuple;
  wp_walk using (wpAny_updateSeq Z rfl (hz:=Y)),wpAny_loadPart' Z,wpAny_loadPart' hb;exact⟨_,rfl,h⟩
def qx(l)(items)(n)(b)(z)(n2)(J)(U)(aO:¬(!items.isEmpty&&Builtin.List.listTooLong (items.size+z.size))=true)(Y:items.size<=sizeLine)(a0:items.size+z.size<=sizeLine+1) :
  Meets (Builtin.«list.extend» ⟨[.ref l,.ref b],[]⟩) (λ_ R s=>s.heap.get? l=some { cls:=.type "list",dict:=none,data:=.seq items n,slots:=#[] }/\s.heap.get? b=some { cls:=.type "list",dict:=J,data:=.seq z n2,slots:=U }/\R (.ok (.ret Value.none)) { s with heap:=s.heap.update l (Obj.mapSeq λx=>x++z),toks:=s.toks }):=
 .of_wp λprog w A R s h=>by
  obtain⟨hp,g,d,tk,os⟩:=s;obtain⟨Z,hb,h⟩:=h;have f1:=AutoSeq1.idx_int;have f2:=Lw;have f3:=AutoSeq1.sub_list_list;have f4:=AutoSeq1.sub_tuple_list;have f5:=AutoSeq1.sub_list_tuple;
  wp_walk using (wpAny_updateSeq Z rfl (hz:=Y)),wpAny_loadPart' Z,wpAny_loadPart' hb;exact⟨_,rfl,h⟩
end
section
variable{X:Cx}{T:Tab}{k:Nat}{cal:Cal}
def uq:MtM X "list.extend" (λx vs H Q=>∃l b xs zs,x=.ref l/\vs=[.ref b]/\H l=some (.lst xs)/\(SqL X.K H b zs\/SqT X.K H b zs)/\xs.length+zs.length<=sizeLine/\Q .non (upd H l (.lst (xs++zs)))):=by
 intro pins s σ H x vs v us Q I rx rv h;refine az λZq kq=>?_
 obtain⟨l,b,xs,zs,rfl,rfl,hH,hB,hz,q⟩:=h;cases rx;obtain⟨u,rfl,ru⟩:=rv.one;cases ru;obtain⟨z,its,n,r,hl,e⟩:=I.lstM hH;have fin:∀J,aG zs J->EP X pins σ Q .none { s with heap:=s.heap.update l (Obj.mapSeq λx=>x++J.toArray),toks:=s.toks }:=λJ Y =>
  ⟨.non,_,I.lset (its':=its++J) hH e (by simp) (r.append Y) (by rw[wh];omega),rfl,q⟩
 refine kq ?_;rcases hB with hB|hB
 .obtain⟨J,Y,pl,z2⟩:=I.list hB;have a0:=Y.length;have Z:its.toArray.size+J.toArray.size<=sizeLine:=by rw[r4,r4];omega
  have U:¬ (!its.toArray.isEmpty&&Builtin.List.listTooLong (its.toArray.size+J.toArray.size))=true:=by
   rw[ra Z,Bool.and_false];exact pb
  obtain⟨⟨cls,dd,data,sl⟩,ho,hc,n2,hd⟩:=pl.isList;simp only at hc hd;subst hc hd;exact Mh PySem.F.slot_list_extend ⟨_,e,rfl⟩ PySem.F.entry_list_extend (PySem.F.args_list_extend_2 _ _) (qx l its.toArray n b J.toArray n2 dd sl U (by rw[r4];omega) (by omega)) ⟨e,ho,fin J Y⟩
 .obtain⟨J,Y,pl,z2⟩:=I.tuple hB;have a0:=Y.length;have Z:its.toArray.size+J.toArray.size<=sizeLine:=by rw[r4,r4];omega
  have U:¬ (!its.toArray.isEmpty&&Builtin.List.listTooLong (its.toArray.size+J.toArray.size))=true:=by
   rw[ra Z,Bool.and_false];exact pb
  obtain⟨⟨cls,dd,data,sl⟩,ho,hc,n2,hd⟩:=pl;simp only at hc hd;subst hc hd;exact Mh PySem.F.slot_list_extend ⟨_,e,rfl⟩ PySem.F.entry_list_extend (PySem.F.args_list_extend_2 _ _) (qw l its.toArray n b J.toArray n2 dd sl U (by rw[r4];omega) (by omega)) ⟨e,ho,fin J Y⟩
structure Df(X:Cx):Prop where
 nd:X.N.Nodup
 fn:∀x,X.fn x=true
 own:PassesOwn (model X.prog X.w) X.A X.env X.xe
 blk:(X.env.blockKind==.function)=true
def cU(h:bR v=true)(t)(n)(env):swapsWith v t n env=pure false:=by
 cases v<;>first|rfl|(simp[bR]at h)
def wS(d:Df X)(h:CV X.env.scope x px v=true):swapsWith v (some (.Name x px)) n X.env=pure true:=by
 obtain⟨⟨e,gs,s,p⟩,w,h⟩:=ak h;obtain rfl:=t8 w;show pure _=pure true;rw[d.blk,Mb];exact JK pure h
def PS.imp'(h:PS X e t)(i:∀D σ H,σ.length=X.N.length->t' D σ H->t D σ H):PS X e t':=λpins s σ H D I q=>h pins s σ H D I (i D σ H I.len q)
def ltN{N:List Str}{σ:St}(h:N[i]?=some x)(z:σ.length=N.length):i<σ.length:=by rw[z];exact(Jt.mp h).1
def c9{K:Mx}(h:gw K B E O W σ D (eE o f)):∃v,o=some v/\gw K B E O W σ D (f v):=by
 cases o with
 |none=>exact(show False from h).elim
 |some v=>exact⟨v,rfl,h⟩
def wT{K:Mx}(h:gw K B E O W σ D (yP o f)):∃v,o=some v/\gw K B E O W σ D (f v):=by
 cases o with
 |none=>exact(show False from h).elim
 |some v=>exact⟨v,rfl,h⟩
def zA{K:Mx}(hi:i<σ.length)(U:aK J=false)(q:tS K cal (.set i J) D σ H):xL (tE K cal J) (jd i) D σ H:=by
 obtain⟨B,E,O,W,st,q⟩:=q;obtain⟨w,e,q⟩:=c9 q;refine⟨B,E,O,W,w,st,e,λu H' s g=>?_⟩;obtain⟨z,Y⟩:=(st.mono s).store hi (g.2 U);exact q _ H' O z Y
def Hh(d:Df X)(hi:X.N[i]?=some x)(hx:Loc X.env.scope x)(h:PE X v (tE X.K cal z))(J:aK z=false)(hc:bR v=true):PS X (.Assign [.Name x px] v pos) (tS X.K cal (.set i z)):=
 PS.imp' (ju d.nd hi hx h (cU hc _ _ _) (.inl (d.fn x))) λD σ H U q=>zA (ltN hi U) J q
def zB{K:Mx}(hi:i<σ.length)(q:tS K cal (.setOwn i J) D σ H):xL (tF K cal J) (jd i) D σ H:=by
 obtain⟨B,E,O,W,st,q⟩:=q;obtain⟨w,e,q⟩:=c9 q;cases w with
 |lst xs =>
  refine⟨B,E,O,W,xs,st,e,λp us H' s U Y r=>?_⟩;obtain⟨z,Z⟩:=st.storeOwn hi s U Y r;exact q _ H' _ z Z
 | _=>exact(show False from q).elim
def Hi(d:Df X)(hi:X.N[i]?=some x)(hx:Loc X.env.scope x)(h:PE X v (tF X.K cal z))(hc:bR v=true):PS X (.Assign [.Name x px] v pos) (tS X.K cal (.setOwn i z)):=
 PS.imp' (ju d.nd hi hx h (cU hc _ _ _) (.inl (d.fn x))) λD σ H J q=>zB (ltN hi J) q
def zC(h:PE X v (tE X.K cal Y))(hn:aW X.N X.env.scope i x=true)(hb:aK Y=false)(hs:ah v=true)(z:(apos.endLine==cpos.line)=true) :
  PS X (.Expr (.Call (.Attribute (.Name x p) "append" apos) [v] [] cpos) pos) (tS X.K cal (.append i Y)):=by
 refine(pP (x0 PySem.F.plainAttrs_list PySem.F.slot_list_append PySem.F.type_list_append kI (ca hn) (aP h bF (aV hs _ _)) rfl (by rw[aV hs];rfl) z (aV hs _ _) rfl) rfl).imp λD σ H q=>?_
 obtain⟨B,E,O,W,st,q⟩:=q;obtain⟨w,e,q⟩:=c9 q;cases J:(W[i]?).join with
 |none=>rw[J]at q;exact(show False from q).elim
 |some m =>
  rw[J]at q;cases m with
  |own xs =>
   dsimp only at q;split at q
   .rename_i hl;obtain⟨u,Z,a,us,rfl,ha,rs,hO,hB⟩:=aU st J;refine⟨_,Z,.inl ⟨rfl,us,SqL.of ha⟩,B,E,O,W,w,st,e,λu H1 s g=>⟨a,us,u,rfl,rfl,s _ _ ha,?_,?_⟩⟩
    .rw[<- rs.length];exact Jw hl (by decide)
    .obtain⟨U,k'⟩:=(st.mono s).change (aF J) Z ((Reps.mono (am s) _ rs).snoc (g.2 hb));exact q _ _ _ U k'
   .exact(show False from q).elim
  | _=>exact(show False from q).elim
def zD(h:PE X v (tE X.K cal me))(hn:aW X.N X.env.scope i x=true)(hs:ah v=true)(z:(apos.endLine==cpos.line)=true) :
  PS X (.Expr (.Call (.Attribute (.Name x p) "extend" apos) [v] [] cpos) pos) (tS X.K cal (.extend i me)):=by
 refine(pP (x0 PySem.F.plainAttrs_list PySem.F.slot_list_extend PySem.F.type_list_extend uq (ca hn) (aP h bF (aV hs _ _)) rfl (by rw[aV hs];rfl) z (aV hs _ _) rfl) rfl).imp λD σ H q=>?_
 refine az λZq Y=>?_
 obtain⟨B,E,O,W,st,q⟩:=q;rw[ex]at q;obtain⟨w,e,q⟩:=c9 q;refine Y ?_;cases U:(W[i]?).join with
 |none=>rw[U]at q;exact(show False from q).elim
 |some m =>
  rw[U]at q;cases m with
  |own xs =>
   cases hw:a_ w with
   |none=>rw[hw]at q;exact(show False from q).elim
   |some ys =>
    rw[hw]at q;dsimp only at q;split at q
    .refine az λZq Y=>?_
     rename_i hl;obtain⟨u,eu,a,us,rfl,ha,rs,hO,hB⟩:=aU st U;refine Y ?_;refine⟨_,eu,.inl ⟨rfl,us,SqL.of ha⟩,B,E,O,W,w,st,e,λu H1 s g=>?_⟩;obtain⟨b,ws,rfl,sq,J⟩:=g.1.seq hw;refine⟨a,b,us,ws,rfl,rfl,s _ _ ha,sq,?_,?_⟩
     .rw[<- rs.length,<- J.length];exact cy hl
     .obtain⟨Z,k'⟩:=(st.mono s).change (aF U) eu ((Reps.mono (am s) _ rs).append J);exact q _ _ _ Z k'
    .exact(show False from q).elim
  | _=>exact(show False from q).elim
def ET(d:Df X)(hi:X.N[i]?=some x)(hx:Loc X.env.scope x):PS X (.Assign [.Name x px] (.Dict [] [] dp) pos) (tS X.K cal (.newD m i)):=by
 cases m with
 |false =>
  refine PS.imp' (ju d.nd hi hx yc (cU rfl _ _ _) (.inl (d.fn x))) λD σ H Y q=>?_
  obtain⟨B,E,O,W,st,q⟩:=q;intro p U;obtain⟨J,Z⟩:=st.storeM (mm:=.ownD _) (ltN hi Y) (ay U _) U (by rw[ax];simp) rfl (λ_ z=>by cases z) λhB=>⟨p,rfl,ax,Kf,hB⟩
  exact q _ _ _ J Z
 |true =>
  refine PS.imp' (ju d.nd hi hx yd (cU rfl _ _ _) (.inl (d.fn x))) λD σ H Y q=>?_
  obtain⟨B,E,O,W,st,q⟩:=q;intro p U;obtain⟨J,Z⟩:=st.storeM (mm:=.ownD _) (ltN hi Y) (ay U _) U (by rw[ax];simp) rfl (λ_ z=>by cases z) λhB=>⟨p,rfl,ax,Kf,hB⟩
  exact q _ _ _ J Z
def EU(g0:Gf X T k cal)(hk:PE X s (tE X.K cal mk))(h:PE X v (tE X.K cal me))(hn:aW X.N X.env.scope i x=true)(hc:bR v=true) :
  PS X (.Assign [.Subscript (.Name x p) s a2] v pos) (tS X.K cal (.dput i mk me)):=by
 have hu:X.A.units+1<cLine:=by have:=g0.units;omega
 refine(Bi hu (ca hn) hk h (by cases v<;>first|rfl|(simp[bR]at hc))).imp λD σ H q=>?_
 obtain⟨B,E,O,W,st,q⟩:=q;rw[ex]at q;obtain⟨w,e,q⟩:=c9 q;obtain⟨kv,ek,q⟩:=c9 q;cases U:(W[i]?).join with
 |none=>rw[U]at q;exact(show False from q).elim
 |some m =>
  rw[U]at q;cases m with
  |ownD d =>
   cases hz:sc? w with
   |none=>rw[hz]at q;exact(show False from q).elim
   |some sz =>
    rw[hz]at q;dsimp only at q;cases hd:qb d kv sz with
    |none=>rw[hd]at q;exact(show False from q).elim
    |some d' =>
     rw[hd]at q;obtain⟨u,Y,a,rfl,ha,hO,hB⟩:=aU st U;refine⟨B,E,O,W,w,st,e,λu H1 z g1=>⟨_,Y,B,E,O,W,_,st.mono z,ek,λuk H2 Z g2=>?_⟩⟩;refine⟨a,_,rfl,by rw[uo hz g1.1];exact vF hd (Z _ _ (z _ _ (ha.put1 hd))) g2.1,?_⟩;obtain⟨J,k'⟩:=((st.mono z).mono Z).changeD (ys:=d') (aF U) Y λ_=>.put2 hd ax
     exact q _ _ _ J k'
  |mutD d =>
   cases hz:sc? w with
   |none=>rw[hz]at q;exact(show False from q).elim
   |some sz =>
    rw[hz]at q;dsimp only at q;cases hd:qb d kv sz with
    |none=>rw[hd]at q;exact(show False from q).elim
    |some d' =>
     rw[hd]at q;obtain⟨u,Y,a,rfl,ha,hO,hB⟩:=aU st U;refine⟨B,E,O,W,w,st,e,λu H1 z g1=>⟨_,Y,B,E,O,W,_,st.mono z,ek,λuk H2 Z g2=>?_⟩⟩;refine⟨a,_,rfl,by rw[uo hz g1.1];exact vF hd (Z _ _ (z _ _ (ha.put1 hd))) g2.1,?_⟩;obtain⟨J,k'⟩:=((st.mono z).mono Z).changeU (ys:=d') (aF U) Y λ_=>.put2 hd ax
     exact q _ _ _ J k'
  | _=>exact(show False from q).elim
def Hj(h:PE X v (tE X.K cal J))(z:aK J=false):PS X (.Return (some v) pos) (tS X.K cal (.ret J)):=by
 refine(pQ h).imp λD σ H q=>?_
 obtain⟨B,E,O,W,st,q⟩:=q;obtain⟨w,e,q⟩:=c9 q;exact⟨B,E,O,W,w,st,e,λu H' s g=>q u H' (st.keep.trans s) (Rep.mono (bK (ai.refl H') λb z=>.inl (st.sub b z)) _ (g.2 z))⟩
def EV(h:PE X v (tE X.K cal z))(J:aK z=false):PS X (.Return (some v) pos) (tS X.K cal (.retM z)):=by
 refine(pQ h).imp λD σ H q=>?_
 obtain⟨B,E,O,W,st,q⟩:=q;obtain⟨w,e,q⟩:=c9 q;exact⟨B,E,O,W,w,st,e,λu H' s g=>q u σ H' O (st.mono s) .refl (g.2 J)⟩
def zE(hn:aW X.N X.env.scope i x=true):PS X (.Return (some (.Name x p)) pos) (tS X.K cal (.retOwn i)):=by
 refine(pQ (ca hn)).imp λD σ H q=>?_
 obtain⟨B,E,O,W,st,q⟩:=q;rw[ex]at q;have J:=bK (ai.refl H) λb hb=>.inl (st.sub b hb)
 cases U:(W[i]?).join with
 |none=>rw[U]at q;exact(show False from q).elim
 |some m =>
  rw[U]at q;cases m with
  |val v =>
   obtain⟨u,Y,so⟩:=aU st U;exact⟨_,Y,q _ H st.keep (Rep.mono J _ so)⟩
  |own xs =>
   obtain⟨u,Y,a,us,rfl,Z,rs,hO,hB⟩:=aU st U;refine⟨_,Y,q _ H st.keep ?_⟩;rw[Rep];refine⟨a,us,rfl,SqL.of ?_,Reps.mono J _ rs⟩;rw[ba λz=>st.old a z hB];exact Z
  |ownD kvs =>
   dsimp only at q;split at q
   .rename_i np;obtain⟨u,Y,a,rfl,Z,hO,hB⟩:=aU st U;refine⟨_,Y,q _ H st.keep ?_⟩;rw[Rep];refine⟨a,rfl,.inl ?_,np⟩;rw[ba λz=>st.old a z hB];exact Z.np np
   .exact(show False from q).elim
  | _=>exact(show False from q).elim
def IV(hc:PT X t (tT X.K cal c))(z:PSs X x (tSs X.K cal a))(J:PSs X y (tSs X.K cal b)):PS X (.If t x y pos) (tS X.K cal (.ite c a b)):=by
 refine(Gc hc z J).imp λD σ H q=>?_
 obtain⟨B,E,O,W,st,q⟩:=q;obtain⟨w,e,q⟩:=wT q;refine⟨B,E,O,W,w,st,e,λH' s=>?_⟩;cases w<;>first|(rw[if_pos rfl]at q ⊢;exact⟨B,E,O,W,st.mono s,q⟩)|(rw[if_neg (by simp)]at q ⊢;exact⟨B,E,O,W,st.mono s,q⟩)
def EW{st:Stmt}(h1:PS X st (tS X.K cal m))(h2:PSs X ss (tSs X.K cal ms)):PSs X (st::ss) (tSs X.K cal (m::ms)):=by
 refine(xI h1 h2).imp λD σ H q=>?_
 obtain⟨B,E,O,W,st,q⟩:=q;refine⟨B,E,O,W,st,?_⟩;rw[exs]at q;cases e:ex cal m W with
 |next l=>rw[e]at q;exact λF H' J z k=>⟨B,E,J,l,z,gw.trans q k⟩
 | _=>rw[e]at q;exact q
def Hk:PSs X [] (tSs X.K cal []):=by
 refine AZ.imp λD σ H q=>?_
 obtain⟨B,E,O,W,st,q⟩:=q;exact q σ H O st .refl
end
inductive cn(σ:St)(W:Rho):List Bool->List ME->List MV->List V->List Addr->List Nat->Prop where
 | nil:cn σ W [] [] [] [] [] []
 | mutd {i:Nat}{d:DD}{a:Addr}{bs:List Bool}{es:List ME}{as:List MV}{vs:List V}{ms:List Addr}{is:List Nat} (hd:gp (W[i]?).join=some d) (hσ:σ[i]?=some (some (.ref a))) (hi:i∉is) (ha:a∉ms) (t:cn σ W bs es as vs ms is):cn σ W (true::bs) (.bor i::es) (.mutD d::as) (.ref a::vs) (a::ms) (i::is)
 | other {e:ME}{m:MV}{v:V}{bs:List Bool}{es:List ME}{as:List MV}{vs:List V}{ms:List Addr}{is:List Nat} (hm:∀d,m≠.mutD d) (t:cn σ W bs es as vs ms is):cn σ W (false::bs) (e::es) (m::as) (v::vs) ms is
def fb(h:gp o=some d):o=some (.ownD d)\/o=some (.mutD d):=by
 match o,h with
 |some (.ownD _),rfl=>exact .inl rfl
 |some (.mutD _),rfl=>exact .inr rfl
section
variable{σ:St}{W:Rho}{bs:List Bool}{es:List ME}{as:List MV}{vs:List V}{ms:List Addr}{is:List Nat}
def cn.addr(h:cn σ W bs es as vs ms is):∀a∈ms,∃j∈is,σ[j]?=some (some (.ref a))/\∃d,gp (W[j]?).join=some d:=by
 induction h with
 |nil=>intro a U;cases U
 |mutd hd z hi U t ih =>
  intro b J;rcases Jp.mp J with rfl|J
  .exact⟨_,.head _,z,_,hd⟩
  .obtain⟨j,h1,h2⟩:=ih b J;exact⟨j,.tail _ h1,h2⟩
 |other hm t ih=>exact ih
theorem cn.put(h:cn σ W bs es as vs ms is)(hi:i∉is):cn σ (fq W i d) bs es as vs ms is:=by
 induction h with
 |nil=>exact .nil
 |mutd hd J U Z t ih =>
  rename_i j _ _ _ _ _ _ _ is;refine .mutd ?_ J U Z (ih λz=>hi (.tail _ z));have Y:i≠j:=λz=>hi (z ▸ .head _)
  have:(fq W i d)[j]?=W[j]?:=by
   unfold fq;split<;>exact JJ Y
  rw[this];exact hd
 |other hm t ih=>exact .other hm (ih hi)
theorem cn.at{K:Mx}(st:aE K B E O H W σ)(h:cn σ W bs es as vs ms is):∃ds,cm K O H as vs ds ms:=by
 induction h with
 |nil=>exact⟨[],.nil⟩
 |mutd hd z hi Y t ih =>
  obtain⟨ds,q⟩:=ih;rename_i i d a bs es as vs ms is;refine⟨.dI d::ds,.mutd ?_ Y q⟩;rcases fb hd with e|e
  .obtain⟨u,J,Z,U,h1,_⟩:=st.slot _ _ (aF e);rw[z]at J;cases J;cases U;exact h1
  .obtain⟨u,J,Z,U,h1,_⟩:=st.slot _ _ (aF e);rw[z]at J;cases J;cases U;exact h1
 |other hm t ih =>
  obtain⟨ds,q⟩:=ih;exact⟨ds,.other hm q⟩
theorem cn.inO{K:Mx}(st:aE K B E O H W σ)(h:cn σ W bs es as vs ms is):∀a∈ms,a∈O:=λa U=>by
 obtain⟨j,_,J,d,Y⟩:=h.addr a U;rcases fb Y with e|e
 .obtain⟨u,z,Z,rfl,_,h2,_⟩:=aU st e;rw[J]at z;cases z;exact h2
 .obtain⟨u,z,Z,rfl,_,h2,_⟩:=aU st e;rw[J]at z;cases z;exact h2
theorem nt{K:Mx} :∀{bs}{es}{as}{vs}{ms}{is}{W l}{H}{ds},cn σ W bs es as vs ms is->aE K B E O H W σ->(∀b,b∉ms->H b=H' b)->cm K O H' as vs ds ms->j4 bs es ds W=some l->aE K B E O H' l σ/\bi B O O W l σ σ
 | _,_,_,_,_,_,W,l,H,ds,.nil,st,U,hm,e=>by
  cases hm;rw[j4]at e;cases e;have hh:=funext λb=>U b λz=>nomatch z
  subst hh;exact⟨st,.refl⟩
 | _,_,_,_,_,_,W,l,H,ds,.other hn t,st,U,hm,e=>by
  cases hm with
  |mutd=>exact absurd rfl (hn _)
  |other _ hm =>
   rw[j4]at e;exact nt t st U hm e
 | _,_,_,_,_,_,W,l,H,ds,.mutd (i:=i) (a:=a) hd J hi ha t,st,U,hm,e=>by
  cases hm with
  |other h0=>exact absurd rfl (h0 _)
  |mutd h1 h2 hm =>
   rename_i d' ds;rw[j4]at e;obtain⟨o,ho⟩:=h1.here;have inO:=t.inO st;have aO:=(cn.mutd hd J hi ha t).inO st a (.head _);have dd:DAt K (upd H a o) O a d':=h1.move (λu eu=>by rw[ho]at eu;cases eu;exact ax) λb u Z=>by
    have Y:b∉O:=λz=>by rw[eI z]at Z;cases Z
    rw[ba Y]at Z ⊢;have ne:b≠a:=λz=>Y (by rw[z];exact aO)
    rw[aZ ne,U b λw=>(Jp.mp w).elim ne λz=>Y (inO b z)];exact Z
   have key:aE K B E O (upd H a o) (fq W i d') σ/\bi B O O W (fq W i d') σ σ:=by
    rcases fb hd with q|q
    .have e1:fq W i d'=put W i (.ownD d'):=by unfold fq;rw[q];rfl
     rw[e1];exact st.changeD (aF q) J λ_=>dd
    .have e1:fq W i d'=put W i (.mutD d'):=by unfold fq;rw[q];rfl
     rw[e1];exact st.changeU (aF q) J λ_=>dd
   obtain⟨a0,k1⟩:=key;obtain⟨a1,k2⟩:=nt (t.put hi) a0 (λb Y=>by
    by_cases z:b=a
    .simp_all
    .rw[aZ z];exact U b λw=>(Jp.mp w).elim z Y) hm e
   exact⟨a1,k1.trans k2⟩
def vJ{K:Mx}(U:cn σ W bs es as vs ms is)(st:aE K B E O H W σ)(Y:∀b o,b∉ms->H b=some o->H' b=some o)(Z:cm K O H' as vs ds ms)(e:j4 bs es ds W=some l):aE K B E O H' l σ/\bi B O O W l σ σ:=
 nt U (st.mono (H':=λb=>if b∈ms then H b else H' b) λb o J=>by
  by_cases z:b∈ms
  .exact(if_pos z).trans J
  .exact(if_neg z).trans (Y b o z J)) (λb hb=>if_neg hb) Z e
end
noncomputable def tAM(K:Mx)(cal:Cal)(mask:List Bool)(ms:List ME):TA:=λσ H Q=>∃B E O W vs,aE K B E O H W σ/\evM cal mask ms W=some vs/\∀us H' as,ai H H'->Paired (Ew K O H') vs us->cn σ W mask ms vs us as (e_ mask ms)->Q us H'
section
variable{X:Cx}{T:Tab}{k:Nat}{cal:Cal}
def wU:PA X [] (tAM X.K cal [] []):=by
 refine bF.imp λσ H Q q=>?_
 obtain⟨B,E,O,W,vs,st,z,q⟩:=q;cases z;exact q [] H [] (ai.refl H) .nil .nil
def zF(h:aW X.N X.env.scope i x=true)(hi:i∉e_ bs ms)(hs:PA X es (tAM X.K cal bs ms)):PA X (.Name x pos::es) (tAM X.K cal (true::bs) (.bor i::ms)):=by
 refine(aP (ca h) hs rfl).imp λσ H Q q=>?_
 refine az λZq kq=>?_
 obtain⟨B,E,O,W,vs,st,U,q⟩:=q;rw[evM]at U;simp[gk,p0]at U;obtain⟨d,U,ws,e2,rfl⟩:=U;obtain⟨m,hj,om,so⟩:∃m,(W[i]?).join=some m/\iI m=true/\∃a,σ[i]?=some (some (.ref a))/\DAt X.K H O a d/\a∈O:=by
  rcases fb U with e|e
  .obtain⟨u,J,a,rfl,h1,h2,_⟩:=aU st e;exact⟨_,e,rfl,a,J,h1,h2⟩
  .obtain⟨u,J,a,rfl,h1,h2,_⟩:=aU st e;exact⟨_,e,rfl,a,J,h1,h2⟩
 obtain⟨a,J,h1,h2⟩:=so;refine kq ?_;refine⟨_,J,B,E,O,W,ws,st,e2,λus H2 as Z g2 ma=>q _ H2 _ Z (.cons ⟨a,rfl,h1.move (Z _) (am Z),h2⟩ g2) (.mutd U J hi (λz=>?_) ma)⟩;obtain⟨j,ao,ej,d2,aO⟩:=ma.addr a z;have Y:i≠j:=λw=>hi (w▸ao)
 rcases fb aO with e|e
 .exact st.apart i j m _ a Y (aF hj) (aF e) om rfl J ej
 .exact st.apart i j m _ a Y (aF hj) (aF e) om rfl J ej
def ur(Y:aK m=false)(h:PE X e (tE X.K cal m))(hs:PA X es (tAM X.K cal bs ms))(hn:ah e=true):PA X (e::es) (tAM X.K cal (false::bs) (m::ms)):=by
 refine(aP h hs (aV hn es _)).imp λσ H Q q=>?_
 obtain⟨B,E,O,W,vs,st,J,q⟩:=q;rw[evM,gk]at J;obtain⟨a,e0,J⟩:=J;have U:(ev cal m W).bind (λv=>some [MV.val v])=some a:=by
  rw[<- e0];cases m<;>first|(cases Y;done)|(simp only[evA];rfl)
 rw[gk]at U;obtain⟨v,e9,e8⟩:=U;cases e8;rw[p0]at J;obtain⟨ws,e2,rfl⟩:=J;exact⟨B,E,O,W,v,st,e9,λu H1 Z g1=>⟨B,E,O,W,ws,st.mono Z,e2,λus H2 as s2 g2 ma=>q _ H2 as (Z.trans s2) (.cons (show Rep X.K _ v u from(g1.mono s2).2 Y) g2) (.other (λ_ z=>by cases z) ma)⟩⟩
def wV(h:aW X.N X.env.scope i x=true)(hs:PA X es (tAM X.K cal bs ms)):PA X (.Name x pos::es) (tAM X.K cal (false::bs) (.bor i::ms)):=by
 refine(aP (ca h) hs rfl).imp λσ H Q q=>?_
 obtain⟨B,E,O,W,vs,st,J,q⟩:=q;rw[evM,gk]at J;obtain⟨a,U,J⟩:=J;rw[evA,evA]at U;cases Y:(W[i]?).join with
 |none=>rw[Y]at U;cases U
 |some m =>
  rw[Y]at U;obtain⟨u,eu,so⟩:=aU st Y;cases m with
  |val w =>
   cases U;dsimp only at J;rw[p0]at J;obtain⟨ws,e2,rfl⟩:=J;exact⟨u,eu,⟨B,E,O,W,ws,st,e2,λus H2 as Z g2 ma=>q (u::us) H2 as Z (.cons (show Rep X.K (av H2 O) w u from Rep.mono (am Z) _ so) g2) (.other (λ_ z=>by cases z) ma)⟩⟩
  | _=>cases U;cases J
theorem qy(g:Gf X T k cal):∀bs ms es,chks T ms X.N X.env.scope es=true->jE bs ms=true->(e_ bs ms).Nodup->PA X es (tAM X.K cal bs ms)
 | [],[],es,h,_,_=>by
  cases es<;>first|exact wU|simp[chks]at h
 | [],_::_,_,_,h2,_=>by cases h2
 |true::_,[],_,_,h2,_=>by cases h2
 |false::_,[],_,_,h2,_=>by cases h2
 |b::bs,m::ms,es,h,h2,U=>by
  cases es with
  |nil=>simp[chks]at h
  |cons e es =>
   simp[chks,oe]at h;cases b with
   |true =>
    have z:(aK m&&jE bs ms)=true:=h2;rw[oe]at z;have J:=z.1;obtain⟨i,rfl⟩:=m6 J;obtain⟨x,p,rfl,h1⟩:=j6 h.1.1;obtain⟨Y,Z⟩:=JV.mp (show(_::e_ bs ms).Nodup from U);exact zF h1 Y (qy g bs ms es h.2 z.2 Z)
   |false =>
    have hs:=qy g bs ms es h.2 (show jE bs ms=true from h2) (show(e_ bs ms).Nodup from U);cases J:aK m with
    |false=>exact ur J (au m g h.1.1).1 hs h.1.2
    |true =>
     obtain⟨i,rfl⟩:=m6 J;obtain⟨x,p,rfl,h1⟩:=j6 h.1.1;exact wV h1 hs
end
def wW(h:rK cal f mask ms W=some (v,l)):∃ds,((evM cal mask ms W).bind λvs=>cal (f+2000) vs)=some (.tup (v::ds))/\j4 mask ms ds W=some l:=by
 unfold rK at h;split at h
 .rename_i v ds e
  simp_all
 .cases h
section
variable{X:Cx}{T:Tab}{k:Nat}{cal:Cal}
noncomputable def tMr(K:Mx)(cal:Cal)(f:Nat)(mask:List Bool)(ms:List ME):TE:=λσ H Q=>∃B E O W vs v ds,aE K B E O H W σ/\evM cal mask ms W=some vs/\cal (f+2000) vs=some (.tup (v::ds)) /\
 ∀u us as H1 H',ai H H1->cn σ W mask ms vs us as (e_ mask ms)->(∀b o,b∉as->H1 b=some o->H' b=some o)->cm K O H' vs us ds as->Rep K (av H' O) v u->Q u H'
def vK(g:Gf X T k cal)(Z:T.fs[f]?=some x)(hg:glB X.env.scope x=true)(hn:aq x=true)(ha:PA X (e::es) (tAM X.K cal mask ms))(hs:(e::es).all ah=true):PE X (.Call (.Name x p) (e::es) [] pos) (tMr X.K cal f mask ms):=by
 obtain⟨fa,fd,ps,h1,h2,h3,F⟩:=g.fnsD f x Z;simp only[all_cons,oe]at hs;refine(l4 F g.room (di hg) h1 h2 h3 .nil rb ha (g8 hn).1 (aV hs.1 es _) (bT hs.2)).imp λσ H Q q=>?_
 obtain⟨B,E,O,W,vs,v,ds,st,e1,e3,q⟩:=q;refine⟨B,E,O,W,vs,st,e1,λus H1 as J g1 Y=>?_⟩;show spD X.K cal f (us++[]) H1 Q E0;rw[Kq];obtain⟨z,U⟩:=Y.at (st.mono J);exact⟨O,vs,v,ds,z,as,bq J st.here,g1,U,e3,λu H' hk hm ru=>q u us as H1 H' J Y hk hm ru⟩
end
def cm.mono{K:Mx}(h:cm K O H args vs ds ms)(s:∀a∈ms,∀o,H a=some o->H' a=some o)(v:ai (av H O) (av H' z)):cm K z H' args vs ds ms:=by
 induction h with
 |nil=>exact .nil
 |mutd h J t ih=>exact .mutd (h.move (s _ (.head _)) v) J (ih λa U=>s a (.tail _ U))
 |other h t ih=>exact .other h (ih s)
def cm.here{K:Mx}(h:cm K O H args vs ds ms):∀a∈ms,H a≠none:=by
 induction h with
 |nil=>intro a z;cases z
 |mutd h J t ih =>
  simp_all
 |other h t ih=>exact ih
theorem cn.own{K:Mx}(st:aE K B E O H W σ)(h:cn σ W bs es as vs ms is):∀a∈ms,a∈O/\B a=none/\∃o,H a=some o:=λa Y=>by
 obtain⟨j,_,U,d,Z⟩:=h.addr a Y;rcases fb Z with e|e
 .obtain⟨u,z,a',rfl,h1,h2,J⟩:=aU st e;rw[U]at z;cases z;exact⟨h2,J,h1.here⟩
 .obtain⟨u,z,a',rfl,h1,h2,J⟩:=aU st e;rw[U]at z;cases z;exact⟨h2,J,h1.here⟩
def i6{O as:List Addr}(h:∀a∈as,a∈O)(U:∀b o,b∉as->H1 b=some o->H' b=some o):ai (av H1 O) (av H' O):=λb o e=>by
 have J:b∉O:=λz=>by rw[eI z]at e;cases e
 rw[ba J]at e ⊢;exact U b o (λz=>J (h b z)) e
section
variable{X:Cx}{T:Tab}{k:Nat}{cal:Cal}
noncomputable def tSr(K:Mx)(cal:Cal)(j:SK)(e:ME)(f:Nat)(mask:List Bool)(ms:List ME):TE:=λσ H Q=>∃B E O W w vs v ds r,aE K B E O H W σ/\ev cal e W=some w/\evM cal mask ms W=some vs/\cal (f+2000) vs=some (.tup (v::ds))/\CQ j w v=some r /\
 ∀u us as H1 H',ai H H1->cn σ W mask ms vs us as (e_ mask ms)->(∀b o,b∉as->H1 b=some o->H' b=some o)->cm K O H' vs us ds as->Rep K (av H' O) r u->Q u H'
def po{K:Mx}(st:aE K B E O H W σ)(J:ai H H1)(U:∀b o,b∉as->H1 b=some o->H' b=some o)(Y:cm K O H' args vs ds as):∀a∈O,H' a≠none:=λa Z=>by
 by_cases z:a∈as
 .exact Y.here a z
 .cases e:H1 a with
  |none=>exact absurd (J.free e) (st.here a Z)
  |some o=>rw[U a o z e];simp
def Hl(h:PE X c (tMr X.K cal f mask ms)):PE X c (tSr X.K cal .one (.cst .non) f mask ms):=by
 refine h.imp λσ H Q q=>?_
 obtain⟨B,E,O,W,w,vs,v,ds,r,st,Y,z,J,U,q⟩:=q;cases U;exact⟨B,E,O,W,vs,v,ds,st,z,J,q⟩
def EX(J:aK e=false)(ha:PE X l (tE X.K cal e))(h:PE X c (tMr X.K cal f mask ms)):PE X (.BinOp l .Add c pos) (tSr X.K cal .cat e f mask ms):=by
 refine(uV (uf .add) ha h).imp λσ H Q q=>?_
 refine az λZq kq=>?_
 obtain⟨B,E,O,W,w,vs,v,ds,r,st,e1,e2,e3,e4,q⟩:=q;refine kq ?_;refine⟨B,E,O,W,w,st,e1,λux H1 z g1=>⟨B,E,O,W,vs,v,ds,st.mono z,e2,e3,λuy us as H2 H' U ma Y hm ry=>?_⟩⟩;have own:=ma.own (st.mono z);have rx:=Rep.mono ((am U).trans (i6 (λa h=>(own a h).1) Y)) _ (g1.2 J);exact⟨O,w,v,r,po (st.mono z) U Y hm,.inl rx,.inl ry,e4,λu H3 Z ru=>q u us as H2 H3 (z.trans U) ma (λb o J eb=>Z b o (Y b o J eb)) (hm.mono (λa _ o e=>Z a o e) (am Z)) ru⟩
def B5(J:aK e=false)(hl:ah l=true)(hc:ah c=true)(ha:PE X l (tE X.K cal e))(h:PE X c (tMr X.K cal f mask ms)):PE X (.Tuple [l,c] j pos) (tSr X.K cal .pair e f mask ms):=by
 refine(tD (aP ha (aP h bF (aV hc _ _)) (aV hl _ _))).imp λσ H Q q=>?_
 refine az λZq kq=>?_
 obtain⟨B,E,O,W,w,vs,v,ds,r,st,e1,e2,e3,e4,q⟩:=q;cases e4;refine kq ?_;refine⟨B,E,O,W,w,st,e1,λux H1 z g1=>⟨B,E,O,W,vs,v,ds,st.mono z,e2,e3,λuy us as H2 H' U ma Y hm ry=>⟨cy (show 2<=10000 by decide),λp hp=>?_⟩⟩⟩;have own:=ma.own (st.mono z);have rx:=Rep.mono ((am U).trans (i6 (λa h=>(own a h).1) Y)) _ (g1.2 J);have Z:ai H' (upd H' p (.tup [ux,uy])):=ay hp _;exact q _ us as H2 _ (z.trans U) ma (λb o J eb=>Z b o (Y b o J eb)) (hm.mono (λa _ o e=>Z a o e) (am Z)) (gu (po (st.mono z) U Y hm) hp (.cons rx (.cons ry .nil)))
def EY(g:Gf X T k cal)(h:y9 T j e f mask ms X.N X.env.scope v=true):PE X v (tSr X.K cal j e f mask ms):=by
 have call:∀c,fG T f mask ms X.N X.env.scope c=true->PE X c (tMr X.K cal f mask ms)/\ah c=true:=λc hc=>by
  obtain⟨y,p,args,cp,rfl,z⟩:=m7 hc;simp only[oe,Ju,Ki,JC]at z;obtain⟨⟨⟨⟨⟨⟨U,Y⟩,Z⟩,J⟩,q5⟩,q6⟩,q7⟩:=z;cases args with
  |nil=>cases q7
  |cons a args=>exact⟨vK g U Y Z (qy g mask ms (a::args) J q5 q6) (bD J).1,rfl⟩
 cases j with
 |one =>
  have h:(ud e&&fG T f mask ms X.N X.env.scope v)=true:=h;rw[oe]at h;have e0:e=.cst .non:=by
   have h1:=h.1;unfold ud at h1;split at h1
   .rfl
   .cases h1
  subst e0;exact Hl (call v h.2).1
 |cat =>
  unfold y9 at h;dsimp only at h;split at h
  .rename_i q z;obtain⟨pos,rfl⟩:=BE z;simp only[oe,JC]at h;exact EX h.1.2 (au e g h.1.1).1 (call _ h.2).1
  .cases h
 |pair =>
  unfold y9 at h;dsimp only at h;split at h
  .rename_i q z;obtain⟨i,pos,rfl⟩:=BF z;simp only[oe,JC]at h;exact B5 h.1.1.2 h.1.2 (call _ h.2).2 (au e g h.1.1.1).1 (call _ h.2).1
  .cases h
noncomputable def c_(H:Hp)(D:Addr):Hp:=λb=>if b=D then none else H b
def kg(H)(D):ai (c_ H D) H:=λb o e=>by
 unfold c_ at e
 simp_all
def nu(h:b≠D):c_ H D b=H b:=if_neg h
def ut(s:ai H H'):ai (c_ H D) (c_ H' D):=λb o e=>by
 unfold c_ at e ⊢;split at e
 .cases e
 .rename_i z;rw[if_neg z];exact s b o e
def i7 :c_ (upd H D o) D=c_ H D:=by
 funext b
 unfold c_;split
 .rfl
 .rename_i z;exact aZ z
def nv(h:H D=none):c_ H D=H:=by
 funext b
 unfold c_
 simp_all
def wX(Z:js.Nodup)(ao:∀i J u,js[i]?=some J->aO[i+1]?=some (some u)->σ[J]?=some (some u))(h:cn aO (kS js W x) bs es as vs ms is) :
  ∃U,cn σ W bs (es.map (D7 js)) as vs ms U/\∀J∈U,∃i,i+1∈is/\js[i]?=some J:=by
 induction h with
 |nil=>exact⟨[],.nil,λJ h=>by cases h⟩
 |mutd hd hs hi ha t ih =>
  rename_i i d a bs es as vs ms is;obtain⟨U,m',h'⟩:=ih;cases i with
  |zero=>cases hd
  |succ i =>
   unfold kS at hd;rw[getElem?_cons_succ,JF]at hd;cases Y:js[i]? with
   |none=>rw[Y]at hd;cases hd
   |some J =>
    rw[Y]at hd;have e1:gp (W[J]?).join=some d:=by
     have hd:gp (Bz (W[J]?).join)=some d:=hd;cases hj:(W[J]?).join with
     |none=>rw[hj]at hd;cases hd
     |some m=>rw[hj]at hd;cases m<;>first|(cases hd;done)|exact hd
    have e2:js.getD i 0=J:=by rw[Km,Y];rfl
    refine⟨J::U,?_,λj2 h2=>?_⟩
    .rw[Jq,show D7 js (.bor (i+1))=.bor J from by show ME.bor (if i+1=0 then 0 else js.getD (i+1-1) 0)=.bor J;rw[if_neg (by omega),K1,e2]];refine .mutd e1 (ao i J _ Y hs) (λz=>?_) ha m';obtain⟨i2,h3,h4⟩:=h' J z;have hl:=(Jt.mp Y).1;have:=(getElem?_inj hl Z).mp (Y.trans h4.symm);exact hi (this▸h3)
    .rcases Jp.mp h2 with rfl|h2
     .exact⟨i,.head _,Y⟩
     .obtain⟨i2,h3,h4⟩:=h' j2 h2;exact⟨i2,.tail _ h3,h4⟩
 |other hm t ih =>
  obtain⟨U,m',h'⟩:=ih;exact⟨U,.other hm m',h'⟩
def B6{K:Mx}{σ F:St}(a5:js.Nodup)(st:aE K B E O H W σ)(s:ai H H2)(hG:ai G H2)(hB:ai B G)(hO:∀a∈O,B a=none->G a=none)(hD:H D=none)(a6:H2 D≠none)
  (a7:∀z,F.set 0 z=(fo js σ).set 0 z) (hx:Rep K (av H2 (D::O)) x ux):aE K G [] (D::O) H2 (kS js W x) (F.set 0 (some ux)):=by
 have hv:ai (av H O) (av H2 (D::O)):=bK s λb hb=>by
  rcases Jp.mp hb with rfl|hb
  .exact .inr hD
  .exact .inl hb
 rw[a7];have get:∀i m,(kS js W x)[i+1]?=some (some m)->∃jj U u,js[i]?=some jj/\(W[jj]?).join=some U/\Bz (some U)=some m/\σ[jj]?=some (some u)/\eY K B O H U u/\((fo js σ).set 0 (some ux))[i+1]?=some (some u):=λi m e=>by
  simp only[kS,getElem?_cons_succ,JF,p0]at e;obtain⟨j,ej,e⟩:=e;cases hj:(W[j]?).join with
  |none=>rw[hj]at e;cases e
  |some mm =>
   rw[hj]at e;obtain⟨u,eu,Z⟩:=aU st hj;exact⟨j,mm,u,ej,hj,e,eu,Z,by simp[fo,ej,eu]⟩
 refine⟨hG,λa J=>?_,λa J=>by simp at J,λa J=>by simp at J,by simp[kS,fo],λi m e=>?_,λi i2 m m' a b3 e e' om aO es a0=>?_⟩
 .rcases Jp.mp J with rfl|J
  .exact a6
  .exact λe=>st.here a J (s.free e)
 .cases i with
  |zero =>
   simp only[kS,getElem?_cons_zero,tr]at e;subst e;exact⟨ux,by simp[fo],hx⟩
  |succ i =>
   obtain⟨jj,U,u,ej,hj,e,eu,Z,b4⟩:=get i m e;refine⟨u,b4,?_⟩;cases U with
   |val w =>
    cases e;exact Rep.mono hv _ Z
   |own ys=>cases e
   |brw ys =>
    cases e;obtain⟨a,us,rfl,sq,rs⟩:=Z;exact⟨a,us,rfl,hB.seq sq,Reps.mono hv _ rs⟩
   |brwD kvs =>
    cases e;obtain⟨a,rfl,J⟩:=Z;exact⟨a,rfl,ai.rd hB J⟩
   | _ =>
    cases e;obtain⟨a,rfl,J,h1,h2⟩:=Z;exact⟨a,rfl,J.move (s _) hv,J6 _ h1,hO a h1 h2⟩
 .have zero:∀m,(kS js W x)[0]?=some (some m)->iI m=true->False:=λm e o=>by
   simp only[kS,getElem?_cons_zero,tr]at e;subst e;cases o
  have Y:∀U m,Bz (some U)=some m->iI m=true->iI U=true:=λU m e o=>by
   cases U<;>first|rfl|(cases e;cases o;done)|(cases e;done)
  cases i with
  |zero=>exact zero m e om
  |succ i =>
   cases i2 with
   |zero=>exact zero m' e' aO
   |succ i2 =>
    obtain⟨j1,n1,u1,a1,b5,c1,cd,_,a2⟩:=get i m e;obtain⟨j2,n2,u2,ck,cl,c2,cr,_,a3⟩:=get i2 m' e';rw[a2]at es;rw[a3]at a0;cases es;cases a0;refine st.apart j1 j2 n1 n2 a (λz=>b3 ?_) (aF b5) (aF cl) (Y _ _ c1 om) (Y _ _ c2 aO) cd cr;subst z;have hl:=(Jt.mp a1).1;rw[(getElem?_inj hl a5).mp (a1.trans ck.symm)]
def sg{K:Mx}{B H H1:Hp}{E O:List Addr}{W l:Rho}{σ:St}{J:It}{xs ws:List PV}{D:Addr}{Q:VK}(b4:js.Nodup)(st:aE K B E O H W σ)(s1:ai H H1)(a4:ni K J xs (av H1 O) (bc B O H1 []))(dV:xs.length<=10000)
  (e3:dg cal js j e f mask ms xs W=some (ws,l)) (hD:H1 D=none) (q:∀H',ai (av H O) (av H' O)->aE K B E O H' l σ->bi B O O W l σ σ->Rep K (av H' O) (.lst ws) (.ref D)->Q (.ref D) H'):rB J (fo js σ) H1 (tT K cal (.cst (.bl true))) (tSr K cal j e f mask ms) D Q:=by
 have a5:D∉O:=λz=>bq s1 st.here D z hD
 have a0:=st.keep.trans s1;have gB:ai B (bc B O H1 []):=dY a0;have gO:∀a∈O,B a=none->bc B O H1 [] a=none:=λa ha Z=>by
  unfold bc;rw[if_pos ha,if_neg (λz=>nomatch z)];exact Z
 have gD:bc B O H1 [] D=none:=by
  unfold bc;rw[if_neg a5];exact hD
 refine⟨λi m F H'=>m=xs.length-i/\i<=xs.length/\(∀z,F.set 0 z=(fo js σ).set 0 z)/\0<F.length/\∃Y done bN ys,aE K B E O (c_ H' D) Y σ/\bi B O O W Y σ σ/\ai (bc B O H1 []) (c_ H' D)/\dg cal js j e f mask ms (xs.drop i) Y=some (bN,l)/\ws=done++bN/\done.length<=i/\H' D=some (.lst ys)/\Reps K (av H' (D::O)) done ys,⟨xs.length,by simp,JZ _,λ_=>rfl,by simp[fo],W,[],ws,[],?_,.refl,?_,by simpa using e3,rfl,pd _,ax,.nil⟩,?_⟩
 .rw[i7,nv hD];exact st.mono s1
 .rw[i7,nv hD];exact nj a0
 rintro i m F H' ⟨rfl,hi,a6,hl,Y,done,bN,ys,a1,ki,sG,eg,ew,ez,a7,rs⟩;have ao:=sG.trans (kg H' D);by_cases a8:i<xs.length
 .right;have ex:=Jy a8;refine⟨a4.go i _ H' ao ex,λa9 H2=>∃m',m'<xs.length-i/\(m'=xs.length-(i+1)/\i+1<=xs.length/\(∀z,a9.set 0 z=(fo js σ).set 0 z)/\0<a9.length/\∃Y done bN ys,aE K B E O (c_ H2 D) Y σ/\bi B O O W Y σ σ/\ai (bc B O H1 []) (c_ H2 D)/\dg cal js j e f mask ms (xs.drop (i+1)) Y=some (bN,l)/\ws=done++bN/\done.length<=i+1/\H2 D=some (.lst ys)/\Reps K (av H2 (D::O)) done ys),λa9 H2 z=>z,λux H2 y=>?_⟩;obtain⟨s3,hr⟩:=a4.yld i _ H' ux H2 ao ex y;have sv:ai (av H1 O) (av H2 (D::O)):=λb o U=>by
   have Z:b∉O:=λz=>by rw[eI z]at U;cases U
   rw[ba Z]at U;have b0:b≠D:=λz=>by rw[z,hD]at U;cases U
   rw[ba λz=>(Jp.mp z).elim b0 Z];refine s3 b o (ao b o ?_);unfold bc;rw[if_neg Z];exact U
  have hx:=hr (D::O) (λa ha=>by
   rcases Jp.mp ha with rfl|ha
   .rw[a7];simp
   .exact λz=>a1.here a ha ((kg H' D).free z)) sv
  have cd:=s3 _ _ a7;have c2:=(kg H' D).trans s3;have b1:=B6 (F:=F) b4 a1 c2 (ao.trans s3) gB gO (if_pos rfl) (by rw[cd];simp) a6 hx;rw[LW a8,dg]at eg;simp only[gk]at eg;obtain⟨w,e1,eg⟩:=eg;refine⟨_,[],D::O,_,true,b1,by simp[evB,ev,bb],λH3 s4=>?_⟩;dsimp only;rw[if_pos rfl];split at eg
  .refine az λZq kq=>?_
   rename_i v ds ec;simp only[gk,p0]at eg ec;obtain⟨r,e4,c3,e5,⟨c4,eP⟩,e6,e7⟩:=eg;obtain⟨vs,e2,ec⟩:=ec;cases e7;refine kq ?_;refine⟨_,[],D::O,_,w,vs,v,ds,r,b1.mono s4,e1,e2,ec,e4,λu us as H4 H5 s5 ma hk hm ru=>?_⟩;have own:=ma.own (b1.mono s4);obtain⟨fe,mo,_⟩:=wX (σ:=σ) (W:=Y) (js:=js) b4 (λi jj u ej eu=>by
    rw[a6]at eu;have:(σ[jj]?).join=some u:=by simpa[fo,ej]using eu
    exact aF this) ma
   have aO:∀a∈as,a∈O:=λa ha=>(mo.own a1 a ha).1
   have cl:D∉as:=λz=>a5 (aO D z)
   have df:=hk D _ cl (s5 _ _ (s4 _ _ cd));have cr:∀z,(F.set 0 (some ux)).set 0 z=(fo js σ).set 0 z:=λz=>by rw[set_set];exact a6 z
   have dm:0<(F.set 0 (some ux)).length:=by rw[LB];exact hl
   have vw:ai (av H' (D::O)) (av H5 (D::O)):=((am s3).trans ((am s4).trans (am s5))).trans (i6 (λa h=>J6 _ (aO a h)) hk);have dn:ys.length<=10000:=by rw[<- rs.length];omega
   have cu:∀b o,b∉as->c_ H4 D b=some o->c_ H5 D b=some o:=λb o Z U=>by
    have b0:b≠D:=λz=>by rw[z]at U;unfold c_ at U;rw[if_pos rfl]at U;cases U
    rw[nu b0]at U ⊢;exact hk b o Z U
   have cC:ai (c_ H' D) (c_ H4 D):=ut ((s3.trans s4).trans s5);obtain⟨dr,k6⟩:=vJ mo (a1.mono cC) cu (hm.mono (λa ha o eo=>by
    have dt:a≠D:=λz=>by rw[z]at ha;exact cl ha
    rw[nu dt];exact eo) λb o U=>by
    have Z:b∉D::O:=λz=>by rw[eI z]at U;cases U
    rw[ba Z]at U;rw[ba λz=>Z (.tail _ z),nu (show b≠D from λz=>Z (by rw[z];exact .head _))];exact U) e5
   refine⟨ys,df,Nat.lt_of_le_of_lt dn (by decide),_,by omega,rfl,a8,cr,dm,c3,done++[r],c4,ys++[u],?_,ki.trans k6,?_,e6,by rw[ew];simp,by simp;omega,ax,?_⟩
   .rw[i7];exact dr
   .rw[i7];intro b o U;refine cu b o (λz=>?_) (cC b o (sG b o U));have:=(own b z).2.1;rw[this]at U;cases U
   .rw[iL (Kf)];exact(Reps.mono vw _ rs).snoc ru
  .cases eg
 .left;have ei:i=xs.length:=by omega
  subst ei;rw[drop_length,dg]at eg;cases eg;rw[Kq]at ew;subst ew;refine⟨a4.stop H' ao,q H' (λb o U=>?_) (a1.mono (kg H' D)) ki ?_⟩
  .have Z:b∉O:=λz=>by rw[eI z]at U;cases U
   rw[ba Z]at U ⊢;refine ao b o ?_;unfold bc;rw[if_neg Z];exact s1 b o U
  rw[Rep];refine⟨D,ys,rfl,SqL.of ?_,Reps.mono g9 _ rs⟩;rw[ba a5];exact a7
noncomputable def tX(K:Mx)(cal:Cal)(x:XE):TE:=λσ H Q=>∃B E O W v l,aE K B E O H W σ/\evX cal x W=some (v,l) /\
 ∀u H',ai (av H O) (av H' O)->aE K B E O H' l σ->bi B O O W l σ σ->Rep K (av H' O) v u->Q u H'
noncomputable def tXs(K:Mx)(cal:Cal)(xs:List XE):TA:=λσ H Q=>∃B E O W vs l,aE K B E O H W σ/\evXs cal xs W=some (vs,l) /\
 ∀us H',ai (av H O) (av H' O)->aE K B E O H' l σ->bi B O O W l σ σ->Reps K (av H' O) vs us->Q us H'
def EZ(J:aK m=false)(h:PE X e (tE X.K cal m)):PE X e (tX X.K cal (.pure m)):=by
 refine h.imp λσ H Q q=>?_
 obtain⟨B,E,O,W,v,l,st,z,q⟩:=q;rw[evX,p0]at z;obtain⟨w,z,U⟩:=z;cases U;exact⟨B,E,O,W,v,st,z,λu H' s g=>q u H' (am s) (st.mono s) .refl (g.2 J)⟩
def E1(h:PE X e (tMr X.K cal f mask ms)):PE X e (tX X.K cal (.call f mask ms)):=by
 refine h.imp λσ H Q q=>?_
 obtain⟨B,E,O,W,v,l,st,e0,q⟩:=q;obtain⟨ds,z,e2⟩:=wW (show rK cal f mask ms W=some _ from e0);rw[gk]at z;obtain⟨vs,z,e3⟩:=z;refine⟨B,E,O,W,vs,v,ds,st,z,e3,λu us as H1 H' J Y Z hm ru=>?_⟩;obtain⟨U,k'⟩:=vJ Y (st.mono J) Z hm e2;have own:=Y.own (st.mono J);exact q u H' ((am J).trans (i6 (λa h=>(own a h).1) Z)) U k' ru
def zG:∀{ns:List Int}{n},ns.getLast?=some n->(ns.map V.int).getLast?=some (V.int n):=by
 intro ns n h
 simp_all
def Hm (hn:aW X.N X.env.scope i x=true) (U:(apos.endLine==cpos.line)=true):PE X (.Call (.Attribute (.Name x p) "pop" apos) [] [] cpos) (tX X.K cal (.pop i)):=by
 refine(DJ PySem.F.plainAttrs_list PySem.F.slot_list_pop PySem.F.type_list_pop DK (ca hn) rfl U).imp λσ H Q q=>?_
 obtain⟨B,E,O,W,v,l,st,J,q⟩:=q;have J:BA i W=some (v,l):=J;unfold BA at J;cases hd:gp (W[i]?).join with
 |none=>rw[hd]at J;cases J
 |some d =>
  rw[hd]at J;cases d with
  |p ns =>
   rw[p0]at J;obtain⟨n,el,Z⟩:=J;cases Z;obtain⟨a,Y,ha,hO,key⟩:∃a,σ[i]?=some (some (.ref a))/\H a=some (iH (.p ns))/\a∈O/\(aE X.K B E O (upd H a (iH (.p ns.dropLast))) (fq W i (.p ns.dropLast)) σ/\bi B O O W (fq W i (.p ns.dropLast)) σ σ):=by
    rcases fb hd with e|e
    .obtain⟨u,Y,a,rfl,h1,h2,h3⟩:=aU st e;refine⟨a,Y,h1,h2,?_⟩;have Z:fq W i (.p ns.dropLast)=put W i (.ownD (.p ns.dropLast)):=by unfold fq;rw[e];rfl
     rw[Z];exact st.changeD (aF e) Y λ_=>ax
    .obtain⟨u,Y,a,rfl,h1,h2,h3⟩:=aU st e;refine⟨a,Y,h1,h2,?_⟩;have Z:fq W i (.p ns.dropLast)=put W i (.mutD (.p ns.dropLast)):=by unfold fq;rw[e];rfl
     rw[Z];exact st.changeU (aF e) Y λ_=>ax
   have ao:ai (av H O) (av (upd H a (iH (.p ns.dropLast))) O):=λb o e=>by
    have hb:b∉O:=λz=>by rw[eI z]at e;cases e
    rw[ba hb]at e ⊢;rw[aZ (show b≠a from λz=>hb (z▸hO))];exact e
   have fin:=q (.int n) _ ao key.1 key.2 (bU _ _);have aO:(ns.map V.int)[(ns.map V.int).length-1]?=some (V.int n):=by
    rw[<- getLast?_eq_getElem?];exact zG el
   refine⟨_,Y,.inl ⟨rfl,ns.map V.int,SqL.of ha⟩,a,ns.map V.int,.int n,rfl,rfl,ha,aO,?_⟩;have e9:(ns.map V.int).dropLast=ns.dropLast.map V.int:=map_dropLast.symm;rw[e9];exact fin
  | _=>cases J
def Hn(ha:PE X l (tX X.K cal a))(hb:PE X r (tE X.K cal b)):PE X (.BinOp l (ua op) r pos) (tX X.K cal (.bin op a b)):=by
 refine(uV (uf op) ha hb).imp λσ H Q q=>?_
 refine az λZq kq=>?_
 obtain⟨B,E,O,W,v,ρ',st,J,q⟩:=q;rw[evX]at J;simp only[gk,p0]at J;obtain⟨⟨x,U⟩,J,y,e2,r,e3,e4⟩:=J;cases e4;refine kq ?_;exact⟨B,E,O,W,x,U,st,J,λux H1 v1 z k1 rx=>⟨B,E,O,U,y,z,e2,λuy H2 Y g2=>⟨O,x,y,v,bq Y z.here,.inl (Rep.mono (am Y) _ rx),g2.1,e3,λu H3 Z ru=>q u H3 (v1.trans (am (Y.trans Z))) (z.mono (Y.trans Z)) k1 ru⟩⟩⟩
def IW(g:Gf X T k cal)(hf:T.fs[f]?=some x)(hg:glB X.env.scope x=true)(hn:aq x=true)(ha:PE X e (tX X.K cal a))(has:PA X es (tAs X.K cal ms))(J:ah e=true)(hs:es.all ah=true):PE X (.Call (.Name x p) (e::es) [] pos) (tX X.K cal (.fn f a ms)):=by
 obtain⟨fa,fd,ps,h1,h2,h3,F,_⟩:=g.fns f x hf;refine(l4 F g.room (di hg) h1 h2 h3 .nil rb (aP ha has (aV J es _)) (g8 hn).1 (aV J es _) (bT hs)).imp λσ H Q q=>?_
 refine az λZq kq=>?_
 obtain⟨B,E,O,W,v,l,st,U,q⟩:=q;rw[evX]at U;simp only[gk,p0]at U;obtain⟨⟨w,Y⟩,U,vs,e2,r,e3,e4⟩:=U;cases e4;refine kq ?_;refine⟨B,E,O,W,w,Y,st,U,λux H1 v1 z k1 rx=>⟨B,E,O,Y,vs,z,e2,λus H2 Z g2=>⟨O,.val w::vs,v,bq Z z.here,?_,e3,λu H3 s3 ru=>q u H3 (v1.trans (am (Z.trans s3))) (z.mono (Z.trans s3)) k1 ru⟩⟩⟩;rw[Kq];exact .cons (show Rep X.K (av H2 O) w ux from Rep.mono (am Z) _ rx) g2
def Ho:PA X [] (tXs X.K cal []):=by
 refine bF.imp λσ H Q q=>?_
 obtain⟨B,E,O,W,vs,l,st,z,q⟩:=q;cases z;exact q [] H (ai.refl _) st .refl .nil
def E2(h:PE X e (tX X.K cal x))(hs:PA X es (tXs X.K cal xs))(hn:ah e=true):PA X (e::es) (tXs X.K cal (x::xs)):=by
 refine(aP h hs (aV hn es _)).imp λσ H Q q=>?_
 refine az λZq kq=>?_
 obtain⟨B,E,O,W,vs,l,st,z,q⟩:=q;rw[evXs]at z;simp only[gk,p0]at z;obtain⟨⟨v,J⟩,z,⟨ws,a1⟩,e2,e3⟩:=z;cases e3;refine kq ?_;exact⟨B,E,O,W,v,J,st,z,λu H1 v1 U k1 ru=>⟨B,E,O,J,ws,_,U,e2,λus H2 Z Y k2 rs=>q _ H2 (v1.trans Z) Y (k1.trans k2) (.cons (Rep.mono Z _ ru) rs)⟩⟩
def Hq(h:PA X es (tXs X.K cal xs)):PE X (.Tuple es j pos) (tX X.K cal (.tup xs)):=by
 refine(tD h).imp λσ H Q q=>?_
 obtain⟨B,E,O,W,v,l,st,J,q⟩:=q;rw[evX,gk]at J;obtain⟨⟨vs,aO⟩,J,U⟩:=J;dsimp only at U;split at U
 .rename_i hl;cases U;refine⟨B,E,O,W,vs,_,st,J,λus H1 v1 z k1 Y=>⟨?_,λp Z=>?_⟩⟩
  .rw[<- Y.length];exact cy hl
  .have s2:ai H1 (upd H1 p (.tup us)):=ay Z _;exact q _ _ (v1.trans (am s2)) (z.mono s2) k1 (gu z.here Z Y)
 .cases U
def x_tupOf (g:Gf X T k cal) (Z:glB X.env.scope ("tuple":Str)=true) (ha:PE X e (tX X.K cal a)) (hs:ah e=true):PE X (.Call (.Name ("tuple":Str) p) [e] [] pos) (tX X.K cal (.tupOf a)):=by
 refine(cZ vA (di Z) (g.blt "tuple" (by decide)) nq (aP ha bF (aV hs _ _)) (by decide) (by decide) (aV hs [] _) (bT rfl)).imp λσ H Q q=>?_
 refine az λZq kq=>?_
 obtain⟨B,E,O,W,v,l,st,z,q⟩:=q;rw[evX]at z;simp only[gk,p0]at z;obtain⟨⟨w,U⟩,z,r,e2,e3⟩:=z;cases e3;refine kq ?_;exact⟨B,E,O,W,w,U,st,z,λu H1 v1 J k1 ru=>⟨O,[w],_,J.here,.cons (.inl ru) .nil,e2,λu2 H2 Y r2=>q u2 H2 (v1.trans (am Y)) (J.mono Y) k1 r2⟩⟩
def Hr(h:PA X es (tXs X.K cal xs)):PE X (.List es pos) (tX X.K cal (.lst xs)):=by
 refine(tG h).imp λσ H Q q=>?_
 obtain⟨B,E,O,W,v,l,st,J,q⟩:=q;rw[evX,gk]at J;obtain⟨⟨vs,aO⟩,J,U⟩:=J;dsimp only at U;split at U
 .rename_i hl;cases U;refine⟨B,E,O,W,vs,_,st,J,λus H1 v1 z k1 Y=>⟨?_,λp Z=>?_⟩⟩
  .rw[<- Y.length];exact cy hl
  .have s2:ai H1 (upd H1 p (.lst us)):=ay Z _;exact q _ _ (v1.trans (am s2)) (z.mono s2) k1 (ng z.here Z Y)
 .cases U
def Hs(g:Gf X T k cal)(hf:T.fs[f]?=some x)(hg:glB X.env.scope x=true)(hn:aq x=true)(hm:PE X l (tE X.K cal m))(hb:aK m=false)(ha:PE X r (tX X.K cal a))(z:ah l=true)(J:ah r=true):PE X (.Call (.Name x p) [l,r] [] pos) (tX X.K cal (.fn2 f m a)):=by
 obtain⟨fa,fd,ps,h1,h2,h3,F,_⟩:=g.fns f x hf;refine(l4 F g.room (di hg) h1 h2 h3 .nil rb (aP hm (aP ha bF (aV J _ _)) (aV z _ _)) (g8 hn).1 (aV z [r] _) (bT (by rw[all_cons,J];rfl))).imp λσ H Q q=>?_
 refine az λZq kq=>?_
 obtain⟨B,E,O,W,v,ρ',st,U,q⟩:=q;rw[evX]at U;simp only[gk,p0]at U;obtain⟨w,U,⟨Z,a9⟩,e2,r,e3,e4⟩:=U;cases e4;refine kq ?_;refine⟨B,E,O,W,w,st,U,λux H1 s1 g1=>⟨B,E,O,W,Z,_,st.mono s1,e2,λuy H2 v2 Y k2 ry=>⟨O,[.val w,.val Z],v,Y.here,?_,e3,λu H3 s3 ru=>q u H3 ((am s1).trans (v2.trans (am s3))) (Y.mono s3) k2 ru⟩⟩⟩;rw[Kq];exact .cons (show Rep X.K _ w ux from Rep.mono v2 _ (g1.2 hb)) (.cons (show Rep X.K _ Z uy from ry) .nil)
def x_compS(g:Gf X T k cal)
  (a0:fF X.env.scope X.N scope y (dA X.N js) js=true) (hw:PI X (.Name y py) it (tW X.K cal .seq [src])) (a1:eZ it=true) (hb:aK src=false) (a2:js.Nodup) (he:∀z U C fp,PE (X.blk y (dA X.N js) scope z U C fp) el (tSr X.K cal j e f mask ms)) :
  PE X (.ListComp el [⟨.Name y py,it,[],0⟩] scope cpos) (tX X.K cal (.compS src js j e f mask ms)):=by
 refine(u9 (tt:=tT X.K cal (.cst (.bl true))) (k4 a0) g.calm hw (λz U C fp=>qv (show rQ (λ_=>false) (.cst _) []=true from rfl) λc hc=>nomatch hc) he (by intro v;cases it<;>first|rfl|(simp[eZ]at a1))).imp λσ H Q q=>?_
 obtain⟨B,E,O,W,v,l,st,Y,q⟩:=q;rw[evX]at Y;simp only[gk]at Y;obtain⟨vs,e2,xs,e3,Y⟩:=Y;split at Y
 .rename_i Z;rw[p0]at Y;obtain⟨⟨ws,a8⟩,e1,e4⟩:=Y;cases e4;have ao:bj [src] W σ=[]:=by
   cases src<;>first|rfl|(cases hb;done)
  refine⟨B,E,O,W,vs,xs,st,e2,e3,λJ H1 s1 aO D' hD=>?_⟩;rw[ao]at aO;exact sg a2 st s1 aO Z e1 hD λH' v' a3 k' ru=>q _ H' v' a3 k' ru
 .cases Y
noncomputable def tWX(K:Mx)(cal:Cal)(y:XE):TI:=λσ H R =>
 ∃B E O W v l xs,aE K B E O H W σ/\evX cal y W=some (v,l)/\bf .rng [v]=some xs/\∀J H1,ai (av H O) (av H1 O)->aE K B E O H1 l σ->bi B O O W l σ σ->ni K J xs (av H1 O) (bc B O H1 (bj [.cst v] l σ))->R J H1
def zH (g:Gf X T k cal) (Y:glB X.env.scope ("range":Str)=true) (h:PE X e (tX X.K cal y)) (hs:ah e=true):PI X tg (.Call (.Name ("range":Str) p) [e] [] pos) (tWX X.K cal y):=by
 refine(oK (di Y) (g.blt "range" (by decide)) (aP h bF (aV hs _ _)) (aV hs _ _)).imp λσ H R q=>?_
 obtain⟨B,E,O,W,v,l,xs,st,Z,z,q⟩:=q;refine⟨B,E,O,W,v,l,st,Z,λu H1 v1 J k1 U=>?_⟩;cases v with
 |int j =>
  simp only[bf]at z;split at z
  .rename_i c;cases z;rw[Rep]at U;subst U;exact⟨j,rfl,c.1,c.2,q _ _ v1 J k1 nk⟩
  .cases z
 | _=>simp[bf]at z
mutual
theorem eJ(g:Gf X T k cal):∀(x:XE) (e:Expr),c8 T x X.N X.env.scope e=true->PE X e (tX X.K cal x)
 | .pure m,e,h=>by
  have h:(chk T m X.N X.env.scope e&&!aK m&&bR e)=true:=h;simp only[oe,JC]at h;exact EZ h.1.2 (au m g h.1.1).1
 | .call f mask ms,e,h=>by
  obtain⟨y,p,args,cp,rfl,hq⟩:=m7 (show fG T f mask ms X.N X.env.scope e=true from h);simp only[oe,Ju,Ki,JC]at hq;obtain⟨⟨⟨⟨⟨⟨q1,q2⟩,q3⟩,q4⟩,q5⟩,q6⟩,q7⟩:=hq;cases args with
  |nil=>cases q7
  |cons a args=>exact E1 (vK g q1 q2 q3 (qy g mask ms (a::args) q4 q5 q6) (bD q4).1)
 | .pop i,e,h=>by
  obtain⟨q,J,h⟩:=ak (show onQ (Ek e) (λq=>aW X.N X.env.scope i q.1&&q.2.1==("pop":Str)&&q.2.2.1.endLine==q.2.2.2.line)=true from h);obtain⟨y,m,ap,cp⟩:=q;obtain⟨p,rfl⟩:=BH J;obtain⟨U,Y⟩:=mu.mp h;obtain⟨h1,h2⟩:=mu.mp U;obtain rfl:m=("pop":Str):=eq_of_beq h2;exact Hm h1 Y
 | .bin op a b,e,h=>by
  obtain⟨q,J,h⟩:=ak (show onQ (El e) (λq=>q.2.1==ua op&&c8 T a X.N X.env.scope q.1&&chk T b X.N X.env.scope q.2.2)=true from h);obtain⟨l,o,r⟩:=q;obtain⟨pos,rfl⟩:=BI J;obtain⟨U,Y⟩:=mu.mp h;obtain⟨h1,h2⟩:=mu.mp U;obtain rfl:o=ua op:=eq_of_beq h1;exact Hn (eJ g a l h2) (au b g Y).1
 | .fn f a ms,e,h=>by
  obtain⟨q,J,h⟩:=ak (show onQ (fnQ e) (λq=>T.fs[f]?==some q.1&&glB X.env.scope q.1&&aq q.1&&c8 T a X.N X.env.scope q.2.1&&ah q.2.1&&chks T ms X.N X.env.scope q.2.2)=true from h);obtain⟨y,l,r⟩:=q;obtain⟨p,pos,rfl⟩:=ue J;obtain⟨U,h6⟩:=mu.mp h;obtain⟨a2,Z⟩:=mu.mp U;obtain⟨a3,h4⟩:=mu.mp a2;obtain⟨a4,Y⟩:=mu.mp a3;obtain⟨h1,h2⟩:=mu.mp a4;exact IW g (eq_of_beq h1) h2 Y (eJ g a l h4) (soundA ms g h6) Z (bD h6).1
 | .tup xs,e,h=>by
  obtain⟨q,J,h⟩:=ak (show onQ (Em e) (λq=>chkXEs T xs X.N X.env.scope q)=true from h);obtain⟨j,pos,rfl⟩:=BJ J;exact Hq (soundXEs g xs q h)
 | .lst xs,e,h=>by
  obtain⟨q,J,h⟩:=ak (show onQ (Eo e) (λq=>chkXEs T xs X.N X.env.scope q)=true from h);obtain⟨pos,rfl⟩:=BK J;exact Hr (soundXEs g xs q h)
 | .fn2 f m a,e,h=>by
  obtain⟨q,J,h⟩:=ak (show onQ (Ep e) (λq=>T.fs[f]?==some q.1&&glB X.env.scope q.1&&aq q.1&&chk T m X.N X.env.scope q.2.1&&!aK m&&ah q.2.1&&c8 T a X.N X.env.scope q.2.2&&ah q.2.2)=true from h);obtain⟨y,l,r⟩:=q;obtain⟨p,pos,rfl⟩:=BL J;obtain⟨U,h8⟩:=mu.mp h;obtain⟨a2,h7⟩:=mu.mp U;obtain⟨a3,h6⟩:=mu.mp a2;obtain⟨a4,Z⟩:=mu.mp a3;obtain⟨a5,h4⟩:=mu.mp a4;obtain⟨a6,Y⟩:=mu.mp a5;obtain⟨h1,h2⟩:=mu.mp a6;exact Hs g (eq_of_beq h1) h2 Y (au m g h4).1 (by simpa using Z) (eJ g a r h7) h6 h8
 | .tupOf a,e,h=>by
  obtain⟨q,J,h⟩:=ak (show onQ (fnQ e) (λq=>q.1==("tuple":Str)&&glB X.env.scope q.1&&q.2.2.isEmpty&&c8 T a X.N X.env.scope q.2.1&&ah q.2.1)=true from h);obtain⟨y,l,r⟩:=q;obtain⟨p,pos,rfl⟩:=ue J;obtain⟨U,Z⟩:=mu.mp h;obtain⟨a2,h4⟩:=mu.mp U;obtain⟨a3,Y⟩:=mu.mp a2;obtain⟨h1,h2⟩:=mu.mp a3;obtain rfl:y=("tuple":Str):=eq_of_beq h1;obtain rfl:r=[]:=KN.mp Y;exact x_tupOf g h2 (eJ g a l h4) Z
 | .compS src js j m f mask ms,e,h=>by
  obtain⟨c,e2,h2⟩:=ak (show onQ (y_ e) (λc=>fF X.env.scope X.N c.2.1 c.2.2.1 (dA X.N js) js&&m5 X.env.scope false (λxs=>chks T [src] X.N X.env.scope xs) .seq c.2.2.2&&!aK src&&y9 T j m f mask ms (c.2.2.1::dA X.N js) (lV c.2.1 X.env.scope) c.1&&decide js.Nodup)=true from h);obtain⟨py,cpos,rfl⟩:=za e2;obtain⟨el,scope,y,it⟩:=c;simp only[oe,JC,Ki]at h2;obtain⟨⟨⟨⟨Z,h6⟩,h7⟩,h8⟩,h9⟩:=h2;have hw:=k7 (tg:=.Name y py) (λz=>by cases z) g h6 (λxs a8=>⟨sounds [src] g a8,bD a8⟩) (λm x hm hx=>by cases hm;exact(au src g (by simp only[chks,oe]at hx;exact hx.1.1)).1);exact x_compS g Z hw.1 hw.2 h7 h9 λa9 b0 C fp=>EY (g.blk y (dA X.N js) scope a9 b0 C fp) h8
theorem soundXEs(g:Gf X T k cal):∀(xs:List XE) (es:List Expr),chkXEs T xs X.N X.env.scope es=true->PA X es (tXs X.K cal xs)
 | [],es,h=>by
  cases es with
  |nil=>exact Ho
  |cons _ _=>cases h
 |x::xs,es,h=>by
  cases es with
  |nil=>cases h
  |cons e es =>
   have h:(c8 T x X.N X.env.scope e&&ah e&&chkXEs T xs X.N X.env.scope es)=true:=h;simp only[oe]at h;exact E2 (eJ g x e h.1.1) (soundXEs g xs es h.2) h.1.2
end
def E3(d:Df X)(hi:X.N[i]?=some x)(hx:Loc X.env.scope x)(h:PE X v (tX X.K cal y))(hc:bR v=true):PS X (.Assign [.Name x px] v pos) (tS X.K cal (.setX i y)):=
 PS.imp' (ju d.nd hi hx h (cU hc _ _ _) (.inl (d.fn x))) λD σ H U q=>by
  obtain⟨B,E,O,W,st,q⟩:=q;rw[ex]at q;cases e:evX cal y W with
  |none=>rw[e]at q;exact(show False from q).elim
  |some cr =>
   obtain⟨s,l⟩:=cr;rw[e]at q;refine⟨B,E,O,W,s,l,st,e,λu H' _ z Y Z=>?_⟩;obtain⟨J,k2⟩:=z.store (ltN hi U) Z;exact q _ H' O J (Y.trans k2)
def E4{i:Nat}{xs:List XE}{x:Str}{es:List Expr}{px p pos:Pos}(d:Df X)(hi:X.N[i]?=some x)(hx:Loc X.env.scope x)(h:PA X es (tXs X.K cal xs)):PS X (.Assign [.Name x px] (.List es p) pos) (tS X.K cal (.ownX i xs)):=
 PS.imp' (ju d.nd hi hx (tG h) (cU rfl _ _ _) (.inl (d.fn x))) λD σ H hl q=>by
  obtain⟨B,E,O,W,st,q⟩:=q;rw[ex]at q;cases e:evXs cal xs W with
  |none=>rw[e]at q;exact(show False from q).elim
  |some cr =>
   obtain⟨vs,l⟩:=cr;rw[e]at q;dsimp only at q;split at q
   .rename_i z;refine⟨B,E,O,W,vs,l,st,e,λus H1 _ U k1 rs=>⟨by rw[<- rs.length];exact cy z,λa J=>?_⟩⟩;obtain⟨Y,k2⟩:=U.storeOwn (ltN hi hl) (ay J (.lst us)) J ax (Reps.mono (bK (ay J _) λb Z=>by
     rcases Jp.mp Z with rfl|Z
     .exact .inr J
     .exact .inl Z) _ rs)
    exact q _ _ _ Y (k1.trans k2)
   .exact(show False from q).elim
def B7(h:PE X v (tX X.K cal y)):PS X (.Return (some v) pos) (tS X.K cal (.retXE y)):=by
 refine(pQ h).imp λD σ H q=>?_
 obtain⟨B,E,O,W,st,q⟩:=q;rw[ex]at q;cases e:evX cal y W with
 |none=>rw[e]at q;exact(show False from q).elim
 |some cr =>
  obtain⟨s,l⟩:=cr;rw[e]at q;exact⟨B,E,O,W,s,l,st,e,λu H' _ z J U=>q u σ H' O z J U⟩
def E5(h:PE X v (tX X.K cal y))(hn:aW X.N X.env.scope i x=true)(hs:ah v=true)(J:(apos.endLine==cpos.line)=true) :
  PS X (.Expr (.Call (.Attribute (.Name x p) "append" apos) [v] [] cpos) pos) (tS X.K cal (.appX i y)):=by
 refine(pP (x0 PySem.F.plainAttrs_list PySem.F.slot_list_append PySem.F.type_list_append kI (ca hn) (aP h bF (aV hs _ _)) rfl (by rw[aV hs];rfl) J (aV hs _ _) rfl) rfl).imp λD σ H q=>?_
 obtain⟨B,E,O,W,st,q⟩:=q;rw[ex]at q;cases hj:(W[i]?).join with
 |none=>rw[hj]at q;exact(show False from q).elim
 |some m =>
  rw[hj]at q;cases m with
  |own aO =>
   dsimp only at q;obtain⟨a4,eu,a,U,rfl,ha,_,hO,_⟩:=aU st hj;cases e:evX cal y W with
   |none=>rw[e]at q;exact(show False from q).elim
   |some cr =>
    obtain⟨w,l⟩:=cr;rw[e]at q;dsimp only at q;cases z:(l[i]?).join with
    |none=>rw[z]at q;exact(show False from q).elim
    |some m' =>
     rw[z]at q;cases m' with
     |own xs =>
      dsimp only at q;split at q
      .rename_i hl;refine⟨_,eu,.inl ⟨rfl,U,SqL.of ha⟩,B,E,O,W,w,l,st,e,λu H1 v1 Y k1 ru=>?_⟩;refine az λZq kq=>?_
       obtain⟨u1,Z,a1,us,e5,a2,rs,_,_⟩:=aU Y z;rw[eu]at Z;cases Z;cases e5;refine kq ?_;refine⟨a,us,u,rfl,rfl,a2,?_,?_⟩
       .rw[<- rs.length];exact Jw hl (by decide)
       .obtain⟨a3,k2⟩:=Y.change (us:=us++[u]) (ys:=xs++[w]) (aF z) eu (rs.snoc ru);exact q _ _ _ a3 (k1.trans k2)
      .exact(show False from q).elim
     | _=>exact(show False from q).elim
  | _=>exact(show False from q).elim
def aE.storeP{K:Mx}(st:aE K B E O H W σ)(hi:i<σ.length)(s:ai H H')(U:H p=none)(J:H' p=some (.lst us))(r:Reps K (av H' (p::O)) (ns.map .int) us):aE K B E (p::O) H' (put W i (.ownD (.p ns))) (σ.set i (some (.ref p)))/\bi B O (p::O) W (put W i (.ownD (.p ns))) σ (σ.set i (some (.ref p))):=by
 have Y:=r.ints;subst Y;exact st.storeM hi s U (by rw[J];simp) rfl (λ_ z=>by cases z) λZ=>⟨p,rfl,J,Kf,Z⟩
def E6 {px p p2 pos2 cp pos:Pos} (g:Gf X T k cal) (d:Df X) (hi:X.N[i]?=some x) (hx:Loc X.env.scope x) (h1:glB X.env.scope ("list":Str)=true) (h2:glB X.env.scope ("reversed":Str)=true) (h:PE X e (tE X.K cal Z)) (hs:ah e=true):PS X (.Assign [.Name x px] (.Call (.Name ("list":Str) p) [.Call (.Name ("reversed":Str) p2) [e] [] pos2] [] cp) pos) (tS X.K cal (.setP i Z)):=by
 refine PS.imp' (ju d.nd hi hx (t6 g.calm (di h1) (g.blt "list" (by decide)) qt (di h2) (g.blt "reversed" (by decide)) h (aV hs _ _)) (cU (v:=.Call _ _ _ _) rfl _ _ _) (.inl (d.fn x))) λD σ H hl q=>?_
 obtain⟨B,E,O,W,st,q⟩:=q;rw[ex]at q;cases J:ev cal Z W with
 |none=>rw[J]at q;exact(show False from q).elim
 |some w =>
  rw[J]at q;cases w with
  |lst xs =>
   dsimp only at q;cases U:bg xs with
   |none=>rw[U]at q;exact(show False from q).elim
   |some ns =>
    rw[U]at q;have e3:=dX U;subst e3;refine⟨B,E,O,W,_,st,J,λu H1 s1 g1=>?_⟩;obtain⟨a,us,rfl,sq,rs⟩:=g1.1.lst;have e4:=rs.ints;subst e4;refine⟨a,_,rfl,sq,λl z=>?_⟩;rw[show(ns.map V.int).reverse=ns.reverse.map V.int from map_reverse.symm];obtain⟨Y,k'⟩:=st.storeP (ns:=ns.reverse) (ltN hi hl) (s1.trans (ay z (.lst (ns.reverse.map V.int)))) (s1.free z) ax (Reps.of_ints _);exact q _ _ _ Y k'
  | _=>exact(show False from q).elim
end
section
variable{K:Mx}{B H:Hp}{E O:List Addr}{W:Rho}{σ:St}
def Ht(J:aE K (bc B O H1 L) E U H' l F)(k:bi (bc B O H1 L) O U W l σ F):ai (av H1 O) (av H' U):=λb u e=>by
 have Z:b∉O:=λz=>by rw[eI z]at e;cases e
 have Y:bc B O H1 L b=some u:=cb b u e;rw[ba]
 .exact J.keep b u Y
 .intro z;rcases k.new b z with q|q
  .exact Z q
  .rw[Y]at q;cases q
def B8(st:aE K B E O H W σ):aE K (bc B O H (bj ms W σ)) E O H (bo ms W) σ/\(bo ms W).length=W.length:=by
 have base:∀L,(∀a∈L,∀(j:Nat) ys,(bo ms W)[j]?=some (some ys)->iI ys=true->σ[j]?≠some (some (.ref a)))->(∀(j:Nat) m,(bo ms W)[j]?=some (some m)->(∃ys,m=.brw ys/\W[j]?=some (some (.own ys))/\∃a,σ[j]?=some (some (.ref a))/\a∈L)\/W[j]?=some (some m))->(bo ms W).length=W.length ->
   aE K (bc B O H L) E O H (bo ms W) σ:=λL h1 h2 h3=>by
  have gl:=nj (O:=O) (L:=L) st.keep;have lg:=dY (O:=O) (L:=L) st.keep;refine⟨gl,st.here,st.sub,λa ha z=>st.old a ha (lg.free z),h3.trans st.len,λj m e=>?_,λc d ps qs ad a9 e1 e2 p1 p2 e3 e4=>?_
   ⟩
  .rcases h2 j m e with⟨ys,rfl,e2,a,ea,J⟩|e2
   .obtain⟨u,Y,a',us,rfl,U,q2,Z,q4⟩:=st.slot j _ e2;rw[ea]at Y;cases Y;refine⟨_,ea,a,us,rfl,SqL.of ?_,q2⟩;unfold bc;rw[if_pos Z,if_pos J];exact U
   .obtain⟨u,Y,q⟩:=st.slot j m e2;refine⟨u,Y,?_⟩;cases m with
    |val v=>exact q
    |own ys =>
     obtain⟨a,us,rfl,U,q2,Z,q4⟩:=q;refine⟨a,us,rfl,U,q2,Z,?_⟩;unfold bc;rw[if_pos Z,if_neg λJ=>h1 a J j (.own ys) e rfl Y];exact q4
    |ownD ys =>
     obtain⟨a,rfl,U,Z,q4⟩:=q;refine⟨a,rfl,U,Z,?_⟩;unfold bc;rw[if_pos Z,if_neg λJ=>h1 a J j (.ownD ys) e rfl Y];exact q4
    |mutD ys =>
     obtain⟨a,rfl,U,Z,q4⟩:=q;refine⟨a,rfl,U,Z,?_⟩;unfold bc;rw[if_pos Z,if_neg λJ=>h1 a J j (.mutD ys) e rfl Y];exact q4
    |brwD ys=>obtain⟨a,rfl,U⟩:=q;exact⟨a,rfl,ai.rd lg U⟩
    |brw ys=>obtain⟨a,us,rfl,U,q2⟩:=q;exact⟨a,us,rfl,lg.seq U,q2⟩
  .rcases h2 c _ e1 with⟨_,rfl,_⟩|e1
   .cases p1
   .rcases h2 d _ e2 with⟨_,rfl,_⟩|e2
    .cases p2
    .exact st.apart c d ps qs ad a9 e1 e2 p1 p2 e3 e4
 have plain:bo ms W=W->bj ms W σ=[]->aE K (bc B O H (bj ms W σ)) E O H (bo ms W) σ/\(bo ms W).length=W.length:=λe1 e2=>by
  rw[e2];exact⟨base [] (λa ha=>by simp at ha) (λj m e=>.inr (by rw[e1]at e;exact e)) (by rw[e1]),by rw[e1]⟩
 match ms with
 | []|.var _::_|.cst _::_|.glob _ _::_|.bin _ _ _::_|.neg _::_|.not _::_|.and _ _::_|.or _ _::_|.ite _ _ _::_|.cmp _ _ _::_|.chain _ _ _ _ _::_|.tup _::_|.lst _::_|.idx _ _::_|.slice _ _ _::_|.blt _ _::_|.call _ _::_|.callD _ _ _::_|.comp _ _ _ _ _::_|.dget _ _ _::_|.dat _ _::_|.dIn _ _ _::_|.lenP _::_|.disp _ _::_|.bor _::_::_=>exact plain rfl rfl
 | [.bor i] =>
  cases hj:(W[i]?).join with
  |none=>exact plain (by simp[bo,hj]) (by simp[bj,hj])
  |some m =>
   cases m with
   |own xs =>
    refine az λZq kq=>?_
    have el:bo [.bor i] W=put W i (.brw xs):=by simp[bo,hj]
    have e0:=aF hj;obtain⟨u,Y,a,us,rfl,U,q2,Z,q4⟩:=st.slot i _ e0;have eL:bj [.bor i] W σ=[a]:=by simp[bj,hj,Y]
    have a3:=(Jt.mp e0).1;refine kq ?_;rw[eL];refine⟨base [a] (λb hb j ys e oy z=>?_) (λj m e=>?_) (by rw[el,put_len]),by rw[el,put_len]⟩
    .have:b=a:=by simpa using hb
     subst this;rw[el]at e;have a4:i≠j:=λz=>by subst z;rw[aj a3]at e;cases e;cases oy
     rw[ag a4]at e;exact st.apart i j (.own xs) ys b a4 e0 e rfl oy Y z
    .rw[el]at e;by_cases a5:i=j
     .subst a5;rw[aj a3]at e;cases e;exact .inl ⟨xs,rfl,e0,a,Y,by simp⟩
     .rw[ag a5]at e;exact .inr e
   | _=>exact plain (by simp[bo,hj]) (by simp[bj,hj])
def kh(h:(bo ms W)[j]?=some (some (.brw ys))):W[j]?=some (some (.brw ys))\/(ms=[.bor j]/\W[j]?=some (some (.own ys))):=by
 unfold bo at h;split at h
 .rename_i i;split at h
  .rename_i xs U;have Y:=aF U;have J:=(Jt.mp Y).1;by_cases z:i=j
   .subst z;rw[aj J]at h
    simp_all
   .rw[ag z]at h;exact .inl h
  .exact .inl h
 .exact .inl h
def k8{j:Nat}(h:(bo ms W)[j]?=some (some (.brwD ys))):W[j]?=some (some (.brwD ys)):=by
 unfold bo at h;split at h
 .rename_i i;split at h
  .rename_i xs U;have Y:=aF U;have J:=(Jt.mp Y).1;by_cases z:i=j
   .subst z;rw[aj J]at h;cases h
   .rw[ag z]at h;exact h
  .exact h
 .exact h
def wY{j:Nat}(h:(bo ms W)[j]?=some (some (.mutD ys))):W[j]?=some (some (.mutD ys)):=by
 unfold bo at h;split at h
 .rename_i i;split at h
  .rename_i xs U;have Y:=aF U;have J:=(Jt.mp Y).1;by_cases z:i=j
   .subst z;rw[aj J]at h;cases h
   .rw[ag z]at h;exact h
  .exact h
 .exact h
def nw :(bo ms W).length=W.length:=by
 unfold bo;split
 .split
  .exact put_len
  .rfl
 .rfl
def qz(st:aE K B E O H1 W σ)(J:aE K (bc B O H1 (bj ms W σ)) E O' H' l F)(k:bi (bc B O H1 (bj ms W σ)) O O' (bo ms W) l σ F) :
  aE K B E O' H' (aJ ms W l) F/\bi B O O' W (aJ ms W l) σ F:=by
 have lg:=dY (O:=O) (L:=bj ms W σ) st.keep;have a8:=Ht J k;have stay:∀a,B a≠none->a∈O->a∈O':=λa h1 h2=>k.stay a (λz=>h1 (lg.free z)) h2
 have new:∀a∈O',a∈O\/B a=none:=λa h=>(k.new a h).imp id lg.free
 have mutK:∀(j:Nat) d',l[j]?=some (some (.mutD d'))->(∃d,W[j]?=some (some (.mutD d)))/\F[j]?=σ[j]?:=λj d' e=>by
  obtain⟨⟨d,e1⟩,U⟩:=k.mutK j d' e;exact⟨⟨d,wY e1⟩,U⟩
 have slot:∀j m,l[j]?=some (some m)->(∀ys,m=.brw ys->¬ (ms=[.bor j]/\W[j]?=some (some (.own ys))))->∃u,F[j]?=some (some u)/\eY K B O' H' m u:=λj m e hn=>by
  obtain⟨u,eu,q⟩:=J.slot j m e;refine⟨u,eu,?_⟩;cases m with
  |val v=>exact q
  |own ys=>obtain⟨a,us,rfl,q1,q2,q3,q4⟩:=q;exact⟨a,us,rfl,q1,q2,q3,lg.free q4⟩
  |brw ys =>
   obtain⟨e1,U⟩:=k.brw j (.brw ys) rfl e;rcases kh e1 with Z|Z
   .obtain⟨w,ew,a,us,rfl,q1,q2⟩:=st.slot j _ Z;rw[eu,ew]at U;cases U;exact⟨a,us,rfl,q1,Reps.mono a8 _ q2⟩
   .exact absurd Z (hn ys rfl)
  |brwD ys =>
   obtain⟨e1,U⟩:=k.brw j (.brwD ys) rfl e;obtain⟨w,ew,a,rfl,q1⟩:=st.slot j _ (k8 e1);rw[eu,ew]at U;cases U;exact⟨a,rfl,q1⟩
  | _=>obtain⟨a,rfl,q1,q3,q4⟩:=q;exact⟨a,rfl,q1,q3,lg.free q4⟩
 by_cases hA:∃i a0 xs,ms=[.bor i]/\(W[i]?).join=some (.own a0)/\(l[i]?).join=some (.brw xs)
 .obtain⟨i,a0,xs,rfl,h0,h1⟩:=hA;have eb:aJ [.bor i] W l=put l i (.own xs):=by simp[aJ,h0,h1]
  rw[eb];have e0:=aF h0;have e1:=aF h1;have a3:=(Jt.mp e1).1;obtain⟨el,es⟩:=k.brw i (.brw xs) rfl e1;have exs:xs=a0:=by
   rcases kh el with Z|⟨_,Z⟩
   .rw[e0]at Z;cases Z
   .rw[e0]at Z;cases Z;rfl
  subst exs;obtain⟨w,ew,a,us,rfl,q1,q2,q3,q4⟩:=st.slot i _ e0;have eL:bj [.bor i] W σ=[a]:=by simp[bj,h0,ew]
  have ga:bc B O H1 (bj [.bor i] W σ) a=some (.lst us):=by
   unfold bc;rw[eL,if_pos q3,if_pos (by simp)];exact q1
  have other:∀(j:Nat) ys ad,l[j]?=some (some ys)->iI ys=true->F[j]?=some (some (.ref ad))->ad≠a:=λj ys ad h1 oy h2 z=>by
   obtain⟨u,eu,qq⟩:=J.slot j _ h1;rw[h2]at eu;cases eu;cases ys with
   |own ys =>
    obtain⟨b,_,U,_,_,_,q⟩:=qq;cases U;rw[z,ga]at q;cases q
   |ownD ys|mutD ys =>
    obtain⟨b,U,_,_,q⟩:=qq;cases U;rw[z,ga]at q;cases q
   | _=>cases oy
  refine⟨⟨lg.trans J.keep,J.here,J.sub,st.old,by rw[put_len];exact J.len,λj m e=>?_,λc d ps qs ad b2 e1 U p1 p2 Z e4=>?_
   ⟩,⟨stay,new,λj ys aO e=>?_,by rw[put_len];exact k.len.trans nw
   ,λj d' e=>?_
   ⟩⟩
  .by_cases Y:i=j
   .subst Y;rw[aj a3]at e;cases e;refine⟨_,by rw[es];exact ew,a,us,rfl,J.keep _ _ ga,Reps.mono a8 _ q2,k.stay a (by rw[ga];simp) q3,q4⟩
   .rw[ag Y]at e;exact slot j m e λys _ ⟨z,_⟩=>Y (by cases z;rfl)
  .by_cases hc:i=c
   .subst hc;rw[es,ew]at Z;cases Z;rw[ag b2]at U;exact other d qs _ U p2 e4 rfl
   .rw[ag hc]at e1;by_cases hd:i=d
    .subst hd;rw[es,ew]at e4;cases e4;exact other c ps _ e1 p1 Z rfl
    .rw[ag hd]at U;exact J.apart c d ps qs ad b2 e1 U p1 p2 Z e4
  .by_cases Y:i=j
   .subst Y;rw[aj a3]at e;cases e;cases aO
   .rw[ag Y]at e;obtain⟨e1,U⟩:=k.brw j ys aO e;cases ys with
    |brw ys =>
     rcases kh e1 with Z|⟨z,_⟩
     .exact⟨Z,U⟩
     .cases z;exact absurd rfl Y
    |brwD ys=>exact⟨k8 e1,U⟩
    | _=>cases aO
  .by_cases Y:i=j
   .subst Y;rw[aj a3]at e;cases e
   .rw[ag Y]at e;exact mutK j d' e
 .have eb:aJ ms W l=l:=by
   unfold aJ;split
   .rename_i i;split
    .rename_i a0 xs h0 h1;exact absurd ⟨i,a0,xs,rfl,h0,h1⟩ hA
    .rfl
   .rfl
  rw[eb];have no:∀j ys,l[j]?=some (some (.brw ys))->¬ (ms=[.bor j]/\W[j]?=some (some (.own ys))):=λj ys e ⟨h1,h2⟩=>hA ⟨j,ys,ys,h1,by rw[h2];rfl,by rw[e];rfl⟩
  refine⟨⟨lg.trans J.keep,J.here,J.sub,st.old,J.len,λj m e=>slot j m e λys z=>no j ys (by rw[e,z]),J.apart
   ⟩,⟨stay,new,λj ys aO e=>?_,k.len.trans nw
   ,λj d' e=>mutK j d' e
   ⟩⟩
  obtain⟨e1,U⟩:=k.brw j ys aO e;cases ys with
  |brw ys =>
   rcases kh e1 with Z|Z
   .exact⟨Z,U⟩
   .exact absurd Z (no j ys e)
  |brwD ys=>exact⟨k8 e1,U⟩
  | _=>cases aO
end
section
variable{X:Cx}{T:Tab}{k:Nat}{cal:Cal}
def B9(K:Mx)(n:Nat)(g:TG)(tk:PV->Rho->Option Rho):Prop:=
 ∀B E O H W l σ x u (Q:St->Hp->Prop),σ.length=n->aE K B E O H W σ->Rep K (av H O) x u->tk x W=some l ->
  (∀F,aE K B E O H l F->bi B O O W l σ F->Q F H)->g u σ H Q
def sh{K:Mx}(hn:σ.length=n)(hg:B9 K n g tk)(Y:aE K B E O H1 W σ)(it:ni K J xs (av H1 O) (bc B O H1 (bj ms W σ)))
  (q:gw K B E O W σ D ((aw (λx l=>cf (tk x l) λU=>exs cal body U) xs (bo ms W)).back ms W)):Dt (λ_ _ R=>R J H1) g (tSs K cal body) D σ H1:=by
 obtain⟨b2,_⟩:=B8 (ms:=ms) Y;refine⟨λi m F H'=>m=xs.length-i/\i<=xs.length/\∃l O',aE K (bc B O H1 (bj ms W σ)) E O' H' l F/\bi (bc B O H1 (bj ms W σ)) O O' (bo ms W) l σ F /\
  aw (λx l=>cf (tk x l) λU=>exs cal body U) (xs.drop i) l=aw (λx l=>cf (tk x l) λU=>exs cal body U) xs (bo ms W),⟨xs.length,by simp,JZ _,bo ms W,O,b2,.refl,by simp⟩,?_⟩
 rintro i m F H' ⟨rfl,hi,l,O',Z,k',eq⟩;by_cases a6:i<xs.length
 .right;have ex:=Jy a6;refine⟨it.go i _ H' Z.keep ex,λa2 H2=>∃m',m'<xs.length-i/\(m'=xs.length-(i+1)/\i+1<=xs.length/\∃l O',aE K (bc B O H1 (bj ms W σ)) E O' H2 l a2/\bi (bc B O H1 (bj ms W σ)) O O' (bo ms W) l σ a2 /\
   aw (λx l=>cf (tk x l) λU=>exs cal body U) (xs.drop (i+1)) l=aw (λx l=>cf (tk x l) λU=>exs cal body U) xs (bo ms W)),λa2 H2 z=>z,λu H2 y=>?_⟩
  obtain⟨s2,hr⟩:=it.yld i _ H' u H2 Z.keep ex y;have b3:=Ht Z k';have hx:=hr O' Z.here (b3.trans (am s2));rw[LW a6,aw]at eq;cases et:tk xs[i] l with
  |none =>
   rw[et]at eq;rw[<- eq]at q;exact(show False from q).elim
  |some ao =>
   rw[et,show cf (some ao) (λU=>exs cal body U)=exs cal body ao from rfl]at eq;have a8:F.length=n:=by rw[<- Z.len,k'.len,nw,Y.len];exact hn
   refine hg _ E O' H2 l ao F _ u _ a8 (Z.mono s2) hx et λa2 b5 k2=>?_
   refine⟨_,E,O',ao,b5,?_⟩;have kk:=k'.trans k2;cases er:exs cal body ao with
   |next a3|cont a3 =>
    rw[er]at eq;exact λa4 H3 O3 aO k3=>⟨_,by omega,rfl,a6,a3,O3,aO,kk.trans k3,eq⟩
   |brk a3 =>
    rw[er]at eq;rw[<- eq]at q;exact λa4 H3 O3 aO k3=>by
     obtain⟨a0,kb⟩:=qz Y aO (kk.trans k3);exact q a4 H3 O3 a0 kb
   |ret v =>
    rw[er]at eq;rw[<- eq]at q;exact λw H3 s3 r=>q w H3 ((dY Y.keep).trans s3) r
   |retM v a3 =>
    rw[er]at eq;rw[<- eq]at q;exact λu a4 H3 O3 aO k3 ru=>by
     obtain⟨a0,kb⟩:=qz Y aO (kk.trans k3);exact q u a4 H3 O3 a0 kb ru
   |retF ys =>
    rw[er]at eq;rw[<- eq]at q;exact λp us H3 s3 hp he r=>q p us H3 ((dY Y.keep).trans s3) ((dY Y.keep).free hp) he r
   |bad =>
    rw[er]at eq;rw[<- eq]at q;exact(show False from q).elim
 .left;have ei:i=xs.length:=by omega
  subst ei;rw[drop_length,aw]at eq;rw[<- eq]at q;obtain⟨a0,kb⟩:=qz Y Z k';exact⟨it.stop H' Z.keep,q F H' O' a0 kb⟩
def zI{K:Mx}(U:σ.length=n)(Y:B9 K n g tk)(st:aE K B E O H W σ)(Z:evs cal ms W=some vs)(e2:bf k' vs=some xs)
  (q:gw K B E O W σ D ((aw (λx l=>cf (tk x l) λz=>exs cal body z) xs (bo ms W)).back ms W)):Dt (tW K cal k' ms) g (tSs K cal body) D σ H:=by
 exact⟨B,E,O,W,vs,xs,st,Z,e2,λJ H1 s1 it=>sh U Y (st.mono s1) it q⟩
def vL{K:Mx}(hi:i<n):B9 K n (jd i) (λx W=>some (put W i (.val x))):=by
 intro B E O H W l σ x u Q U st r e q;cases e;obtain⟨z,J⟩:=st.store (i:=i) (by omega) r;exact q _ z J
def E7(g:Gf X T k cal)(d:Df X)(hi:X.N[i]?=some x)(hx:Loc X.env.scope x)(hw:PI X (.Name x px) it (tW X.K cal J src))(z:eZ it=true)(U:PSs X b (tSs X.K cal body)) :
  PS X (.For (.Name x px) it b [] pos) (tS X.K cal (.for1 i J src body)):=by
 refine PS.imp' (tu d.own g.calm hw (l0 d.nd hi hx (.inl (d.fn x))) U (by intro v;cases it<;>first|rfl|(simp[eZ]at z))) λD σ H Y q=>?_
 obtain⟨B,E,O,W,st,q⟩:=q;rw[ex]at q;cases e:(evs cal src W).bind (bf J)with
 |none=>rw[e]at q;exact(show False from q).elim
 |some xs =>
  rw[e]at q;simp only[gk]at e;obtain⟨vs,Z,e2⟩:=e;exact zI (tk:=λx W=>some (put W i (.val x))) rfl (vL (ltN hi Y)) st Z e2 q
def E8 (g:Gf X T k cal) (d:Df X) (hi:X.N[i]?=some x) (hx:Loc X.env.scope x) (Z:glB X.env.scope ("range":Str)=true) (h:PE X e (tX X.K cal y)) (hs:ah e=true) (hb:PSs X b (tSs X.K cal body)) :
  PS X (.For (.Name x px) (.Call (.Name ("range":Str) p) [e] [] rp) b [] pos) (tS X.K cal (.forX i y body)):=by
 refine PS.imp' (tu d.own g.calm (zH g Z h hs) (l0 d.nd hi hx (.inl (d.fn x))) hb (by intro v;rfl)) λD σ H hl q=>?_
 obtain⟨B,E,O,W,st,q⟩:=q;rw[ex]at q;cases z:evX cal y W with
 |none=>rw[z]at q;exact(show False from q).elim
 |some pr =>
  obtain⟨v,l⟩:=pr;rw[z]at q;dsimp only at q;cases U:bf .rng [v]with
  |none=>rw[U]at q;exact(show False from q).elim
  |some xs =>
   rw[U]at q;refine⟨B,E,O,W,v,l,xs,st,z,U,λJ H1 _ Y k1 it=>?_⟩;refine sh (ms:=[.cst v]) (tk:=λx W=>some (put W i (.val x))) rfl (vL (ltN hi hl)) Y it ?_;have q2:=gw.trans q k1;have back:∀r:R,r.back [.cst v] l=r:=λr=>by cases r<;>rfl
   rw[back];exact q2
end
noncomputable def qA:List Nat->TGs
 | []=>Ge
 |i::is=>CJ (jd i) (qA is)
section
variable{X:Cx}{T:Tab}{k:Nat}{cal:Cal}
theorem ny:∀{is}{z},dJ X.N X.env.scope is z=true->(assignEach z X.env).length=is.length/\(assignEach z X.env).findIdx? (·.1)=none
 | [],[],_=>⟨rfl,rfl⟩
 | [],_::_,h=>by cases h
 | _::_,[],h=>by cases h
 |i::is,e::z,h=>by
  cases e<;>first|(cases h;done)|skip
  simp only[qg,oe]at h;rename_i x p;obtain⟨h1,h2⟩:=ny h.2;refine⟨?_,?_⟩
  .show((false,assign (.Name x p) X.env)::assignEach z X.env).length=_;simp[h1]
  .show((false,assign (.Name x p) X.env)::assignEach z X.env).findIdx? (·.1)=none;rw[findIdx?_cons];simp[h2]
theorem pp(d:Df X):∀{is}{z},dJ X.N X.env.scope is z=true->PGs X z (qA is)
 | [],[],_=>A0
 | [],_::_,h=>by cases h
 | _::_,[],h=>by cases h
 |i::is,e::z,h=>by
  cases e<;>first|(cases h;done)|skip
  simp[qg,oe]at h;rename_i x p;exact xK (l0 d.nd h.1.1.1 (iK h.1.1.2) (.inl (d.fn x))) (pp d h.2) rfl
theorem si:∀{is}{J},dJ X.N X.env.scope is J=true->∀i∈is,i<X.N.length
 | [],[],_=>λi hi=>by simp at hi
 | [],_::_,h=>by cases h
 | _::_,[],h=>by cases h
 |i::is,e::J,h=>λj z=>by
  cases e<;>first|(cases h;done)|skip
  simp[qg,oe]at h;rcases Jp.mp z with rfl|z
  .exact(Jt.mp h.1.1.1).1
  .exact si h.2 j z
theorem vM{K:Mx}:∀{is}{vs}{us}{B}{E O}{H}{W l}{σ}{Q:St->Hp->Prop},(∀i∈is,i<σ.length)->aE K B E O H W σ->Reps K (av H O) vs us->m3 is vs W=some l ->
  (∀F,aE K B E O H l F->bi B O O W l σ F->Q F H)->qA is us σ H Q
 | [],[],us,_,_,_,_,_,_,_,_,_,st,r,e,q=>by
  subst r;cases e;exact⟨rfl,q _ st .refl⟩
 | [],_::_,_,_,_,_,_,_,_,_,_,_,_,_,e,_=>by simp[m3]at e
 | _::_,[],_,_,_,_,_,_,_,_,_,_,_,_,e,_=>by simp[m3]at e
 |i::is,v::vs,us,B,E,O,H,W,l,σ,Q,hi,st,r,e,q=>by
  obtain⟨u,U,rfl,Y,Z⟩:=r;obtain⟨z,k1⟩:=st.store (i:=i) (hi i (.head _)) Y;refine⟨u,U,rfl,?_⟩;exact vM (λj hj=>by rw[LB];exact hi j (.tail _ hj)) z Z e λF J k'=>q F J (k1.trans k')
def E9{K:Mx}(hi:∀i∈is,i<n):B9 K n (Gg K is.length (qA is)) (cH is):=by
 intro B E O H W l σ x u Q J st r e q;cases x with
 |tup vs =>
  obtain⟨a,us,rfl,U,z⟩:=r;have Y:∀{is}{vs}{W l},m3 is vs W=some l->vs.length=is.length:=by
   intro is
   induction is with
   |nil=>intro vs W l h;cases vs<;>simp[m3]at h ⊢
   |cons i is ih=>intro vs W l h;cases vs<;>simp[m3]at h ⊢;exact ih h
  exact⟨a,us,rfl,(bP H O).seqT (d7 U),by rw[<- z.length];exact Y e,vM (λi h=>by rw[J];exact hi i h) st z e q⟩
 | _=>cases e
def E_(g:Gf X T k cal)(d:Df X)(hi:dJ X.N X.env.scope is J=true)(hw:PI X (.Tuple J j Y) it (tW X.K cal U src))(z:eZ it=true)(Z:PSs X b (tSs X.K cal body)) :
  PS X (.For (.Tuple J j Y) it b [] pos) (tS X.K cal (.forT is U src body)):=by
 obtain⟨h1,h2⟩:=ny hi;refine PS.imp' (tu d.own g.calm hw (Ds g.calm (pp d hi) h1 h2) Z (by intro v;cases it<;>first|rfl|(simp[eZ]at z))) λD σ H hl q=>?_
 obtain⟨B,E,O,W,st,q⟩:=q;rw[ex]at q;cases e:(evs cal src W).bind (bf U)with
 |none=>rw[e]at q;exact(show False from q).elim
 |some xs =>
  rw[e]at q;simp only[gk]at e;obtain⟨vs,e1,e2⟩:=e;exact zI (tk:=cH is) hl (E9 (si hi)) st e1 e2 q
def vN(g:Gf X T k cal)(d:Df X)(hi:X.N[i]?=some x)(hx:Loc X.env.scope x)(hc:chk T Z X.N X.env.scope v=true)(hs:o_ X.env.scope x px v Z=true):∃t,PS X (.Assign [.Name x px] v pos) (xL t (jd i))/\(∀σ H Q,tF X.K cal Z σ H Q->t σ H Q)/\iJ Z=true:=by
 unfold o_ at hs;have hl:=ak hs;obtain⟨c,w,_⟩:=hl;obtain rfl:=t8 w;cases Z with
 |comp k' src js cond elt =>
  obtain⟨e,y,py,it,ifs,scope,cpos,e0,h⟩:=kX hc;rw[e0]at hs ⊢;simp only[oe,JC]at h;obtain⟨⟨⟨⟨h1,h2⟩,h3⟩,h4⟩,h5⟩:=h;have hw:=k7 (tg:=.Name y py) (λz=>by cases z) g h2 (λxs Y=>⟨sounds src g Y,bD Y⟩) (λm x hm hx=>match src,hm with|[m'],rfl=>(au m' g (bX hx).1.1).1);exact⟨_,tU d.nd hi hx (k4 h1) g.calm hw.1 (λJ U C fp=>qv h3 λc hc=>(au cond (g.blk y _ scope J U C fp) hc).2) (λJ U C fp=>(au elt (g.blk y _ scope J U C fp) h4).1) (wS d hs) (by have:=hw.2;intro v;cases it<;>first|rfl|(simp[eZ]at this)) (.inl (d.fn x)),
   λσ H Q q=>ui.comp_go h5 q,rfl⟩
 | _=>cases (show false=true from hc)
def Hu(U:iJ J=true){K:Mx}(q:tE K cal J σ H Q):tF K cal J σ H Q:=by
 obtain⟨B,E,O,W,v,st,z,q⟩:=q;have hv:∃xs,v=.lst xs:=by
  cases J with
  |lst es =>
   rw[ev,gk]at z;obtain⟨vs,_,hv⟩:=z;split at hv
   .cases hv;exact⟨_,rfl⟩
   .cases hv
  |comp _ _ _ _ _=>exact se W v z
  |blt b es=>cases b<;>first|exact dL (.inl rfl) W v z|exact dL (.inr (.inl rfl)) W v z|exact dL (.inr (.inr (.inl rfl))) W v z|exact dL (.inr (.inr (.inr (.inl rfl)))) W v z|exact dL (.inr (.inr (.inr (.inr rfl)))) W v z|(simp[iJ]at U)
  | _=>simp[iJ]at U
 obtain⟨xs,rfl⟩:=hv;exact⟨B,E,O,W,xs,st,z,λp us H' s Y Z r=>q _ _ s (vD st.here Y Z r)⟩
end
section
variable{T:Tab}{N:List Str}{sc:Scope}
def B_(h:gr T N sc (.set i e) s=true):∃x px v pos,s=.Assign [.Name x px] v pos/\(N[i]?==some x&&fu sc x&&aq x&&chk T e N sc v&&!aK e&&(bR v||o_ sc x px v e))=true:=by
 obtain⟨q,z,h1⟩:=ak h;obtain⟨pos,rfl⟩:=i4 z;exact⟨_,_,_,_,rfl,h1⟩
def Ca(h:gr T N sc (.setOwn i e) s=true):∃x px v pos,s=.Assign [.Name x px] v pos/\(N[i]?==some x&&fu sc x&&aq x&&chk T e N sc v&&iJ e&&(bR v||o_ sc x px v e))=true:=by
 obtain⟨q,z,h1⟩:=ak h;obtain⟨pos,rfl⟩:=i4 z;exact⟨_,_,_,_,rfl,h1⟩
def uu (h:gr T N sc (.append i e) s=true):∃x p m ap v cp pos,s=.Expr (.Call (.Attribute (.Name x p) m ap) [v] [] cp) pos/\(aW N sc i x&&m==("append":Str)&&chk T e N sc v&&!aK e&&ah v&&ap.endLine==cp.line)=true:=by
 obtain⟨q,z,h1⟩:=ak h;obtain⟨v,J,h2⟩:=ak h1;obtain⟨p,pos,rfl⟩:=qh z;rw[cN J];exact⟨_,_,_,_,_,_,_,rfl,h2⟩
def uv (h:gr T N sc (.extend i e) s=true):∃x p m ap v cp pos,s=.Expr (.Call (.Attribute (.Name x p) m ap) [v] [] cp) pos/\(aW N sc i x&&m==("extend":Str)&&chk T e N sc v&&ah v&&ap.endLine==cp.line)=true:=by
 obtain⟨q,z,h1⟩:=ak h;obtain⟨v,J,h2⟩:=ak h1;obtain⟨p,pos,rfl⟩:=qh z;rw[cN J];exact⟨_,_,_,_,_,_,_,rfl,h2⟩
def zJ(h:gr T N sc (.dput i k e) s=true):∃x p s' sp v pos,s=.Assign [.Subscript (.Name x p) s' sp] v pos/\(aW N sc i x&&chk T k N sc s'&&bW s'&&chk T e N sc v&&!aK e&&bR v)=true:=by
 obtain⟨q,z,h1⟩:=ak h;obtain⟨p,sp,pos,rfl⟩:=BM z;exact⟨_,_,_,_,_,_,rfl,h1⟩
def zK(h:gr T N sc (.newD m i) s=true):∃x p dp pos,s=.Assign [.Name x p] (.Dict [] [] dp) pos/\(N[i]?==some x&&fu sc x&&aq x)=true:=by
 obtain⟨q,z,h1⟩:=ak h;rw[oe]at h1;obtain⟨pos,rfl⟩:=i4 z;obtain⟨p,J⟩:=zd h1.1;rw[J];exact⟨_,_,_,_,rfl,h1.2⟩
def Cb(h:gr T N sc (.ite c a b) s=true):∃t x y pos,s=.If t x y pos/\(chk T c N sc t&&chkSs T N sc a x&&chkSs T N sc b y)=true:=by
 cases s with
 |If t x y pos=>exact⟨t,x,y,pos,rfl,h⟩
 | _=>cases (show false=true from h)
def zL (h:gr T N sc (.forX i y body) s=true):∃x px it b pos,s=.For (.Name x px) it b [] pos/\(N[i]?==some x&&fu sc x&&aq x&&onQ (fnQ it) (λq=>q.1==("range":Str)&&glB sc q.1&&q.2.2.isEmpty&&c8 T y N sc q.2.1&&ah q.2.1)&&chkSs T N sc body b)=true:=by
 rw[BN]at h;split at h
 .exact⟨_,_,_,_,_,rfl,h⟩
 .cases h
def zM(h:gr T N sc (.for1 i k src body) s=true):∃x px it b pos,s=.For (.Name x px) it b [] pos/\(N[i]?==some x&&fu sc x&&aq x&&m5 sc false (λxs=>chks T src N sc xs) k it&&chkSs T N sc body b)=true:=by
 simp[BO]at h;split at h<;>first|(cases h;done)|(rename_i z;cases z;exact⟨_,_,_,_,_,rfl,h⟩)|(injections;done)|(injections;subst_vars;exact⟨_,_,_,_,_,rfl,h⟩)
def zN(h:gr T N sc (.forT is k src body) s=true):∃J j U it b pos,s=.For (.Tuple J j U) it b [] pos/\(dJ N sc is J&&m5 sc true (λxs=>chks T src N sc xs) k it&&chkSs T N sc body b)=true:=by
 simp[BP]at h;split at h<;>first|(cases h;done)|(rename_i z;cases z;exact⟨_,_,_,_,_,_,rfl,h⟩)|(injections;done)|(injections;subst_vars;exact⟨_,_,_,_,_,_,rfl,h⟩)
def zO(h:gr T N sc (.retM e) s=true):∃v pos,s=.Return (some v) pos/\(chk T e N sc v&&!aK e)=true:=by
 obtain⟨v,z,h1⟩:=ak h;obtain⟨pos,rfl⟩:=l9 z;exact⟨_,_,rfl,h1⟩
def Cc(h:gr T N sc (.ret e) s=true):∃v pos,s=.Return (some v) pos/\(chk T e N sc v&&!aK e)=true:=by
 obtain⟨v,z,h1⟩:=ak h;obtain⟨pos,rfl⟩:=l9 z;exact⟨_,_,rfl,h1⟩
def uA(h:gr T N sc (.retOwn i) s=true):∃x p pos,s=.Return (some (.Name x p)) pos/\(aW N sc i x)=true:=by
 obtain⟨v,z,h1⟩:=ak h;obtain⟨x,J,h2⟩:=ak h1;obtain⟨pos,rfl⟩:=l9 z;obtain⟨p,rfl⟩:=zc J;exact⟨_,_,_,rfl,h2⟩
end
def wZ(g:Gf X T k cal)(d:Df X)(h:gr T X.N X.env.scope (.set i e) s=true):PS X s (tS X.K cal (.set i e)):=by
 obtain⟨x,px,v,pos,rfl,hc⟩:=B_ h;simp only[oe,Mu,Ju,JC]at hc;obtain⟨⟨⟨⟨⟨h1,h2⟩,h3⟩,J⟩,U⟩,z⟩:=hc;rcases z with z|z
 .exact Hh d h1 (iK h2) (au e g J).1 U z
 .obtain⟨t,p,Y,Z⟩:=vN (pos:=pos) g d h1 (iK h2) J z;exact PS.imp' p λD σ H hl q=>Y _ _ _ (Hu Z (zA (ltN h1 hl) U q))
noncomputable def Fa:MS->Bool
 | .freeze _=>true
 | _=>false
mutual
theorem Fb{T:Tab}{k:Nat}{cal:Cal}{X:Cx}(g:Gf X T k cal)(d:Df X):∀(m:MS) (s:Stmt),gr T X.N X.env.scope m s=true->PS X s (tS X.K cal m)
 | .set i e,s,h=>wZ g d h
 | .setOwn i e,s,h=>by
  obtain⟨x,px,v,pos,rfl,hc⟩:=Ca h;simp only[oe,Mu,Ju]at hc;obtain⟨⟨⟨⟨⟨h1,h2⟩,h3⟩,J⟩,U⟩,h6⟩:=hc;rcases h6 with h6|h6
  .exact Hi d h1 (iK h2) (ES g J U) h6
  .obtain⟨t,p,hp,hf⟩:=vN (pos:=pos) g d h1 (iK h2) J h6;exact PS.imp' p λD σ H hl q=>hp _ _ _ (zB (ltN h1 hl) q)
 | .append i e,s,h=>by
  obtain⟨x,p,m,ap,v,cp,pos,rfl,hc⟩:=uu h;simp only[oe,Ju,JC]at hc;obtain⟨⟨⟨⟨⟨h1,rfl⟩,h3⟩,J⟩,U⟩,h6⟩:=hc;exact zC (au e g h3).1 h1 J U (Ju.mpr h6)
 | .extend i e,s,h=>by
  obtain⟨x,p,m,ap,v,cp,pos,rfl,hc⟩:=uv h;simp only[oe,Ju]at hc;obtain⟨⟨⟨⟨h1,rfl⟩,h3⟩,U⟩,h6⟩:=hc;exact zD (au e g h3).1 h1 U (Ju.mpr h6)
 | .setIdx _ _ _,s,h=>absurd (show false=true from h) pb
 | .unpack _ _,s,h=>absurd (show false=true from h) pb
 | .expr _,s,h=>absurd (show false=true from h) pb
 | .ite c a b,s,h=>by
  obtain⟨t,x,y,pos,rfl,hc⟩:=Cb h;simp only[oe]at hc;exact IV (au c g hc.1.1).2 (soundSs g d a x hc.1.2) (soundSs g d b y hc.2)
 | .for1 i k' src body,s,h=>by
  obtain⟨x,px,it,b,pos,rfl,hc⟩:=zM h;simp only[oe,Ju]at hc;obtain⟨⟨⟨⟨h1,h2⟩,h3⟩,J⟩,U⟩:=hc;have hw:=k7 (tg:=.Name x px) (λz=>by cases z) g J (λxs Y=>⟨sounds src g Y,bD Y⟩) (λm x hm hx=>match src,hm with|[m'],rfl=>(au m' g (by simp only[chks,oe]at hx;exact hx.1.1)).1);exact E7 g d h1 (iK h2) hw.1 hw.2 (soundSs g d body b U)
 | .forT is k' src body,s,h=>by
  obtain⟨ts,j,tp,it,b,pos,rfl,hc⟩:=zN h;simp only[oe]at hc;obtain⟨⟨h1,J⟩,U⟩:=hc;have hw:=k7 (tg:=.Tuple ts j tp) (λ_=>⟨_,_,_,rfl⟩) g J (λxs Y=>⟨sounds src g Y,bD Y⟩) (λm x hm hx=>match src,hm with|[m'],rfl=>(au m' g (by simp only[chks,oe]at hx;exact hx.1.1)).1);exact E_ g d h1 hw.1 hw.2 (soundSs g d body b U)
 | .while _ _ _,s,h=>absurd (show false=true from h) pb
 | .ret e,s,h=>by
  obtain⟨v,pos,rfl,hc⟩:=Cc h;simp only[oe,JC]at hc;exact Hj (au e g hc.1).1 hc.2
 | .setP i e,s,h=>by
  obtain⟨q,Z,hc⟩:=ak (show onQ (oG s) (λq=>X.N[i]?==some q.1&&fu X.env.scope q.1&&aq q.1&&onQ (Ej q.2.2) λr=>r.1==("list":Str)&&r.2.1==("reversed":Str)&&glB X.env.scope r.1&&glB X.env.scope r.2.1&&chk T e X.N X.env.scope r.2.2&&ah r.2.2)=true from h);obtain⟨x,px,v⟩:=q;obtain⟨pos,rfl⟩:=i4 Z;obtain⟨a1,J⟩:=mu.mp hc;obtain⟨a2,h3⟩:=mu.mp a1;obtain⟨h1,h2⟩:=mu.mp a2;obtain⟨r,e2,hr⟩:=ak J;obtain⟨f,f2,w⟩:=r;obtain⟨p,p2,pos2,cp,rfl⟩:=BG e2;obtain⟨b1,c6⟩:=mu.mp hr;obtain⟨b2,c5⟩:=mu.mp b1;obtain⟨b3,c4⟩:=mu.mp b2;obtain⟨b4,c3⟩:=mu.mp b3;obtain⟨c1,c2⟩:=mu.mp b4;obtain rfl:f=("list":Str):=eq_of_beq c1;obtain rfl:f2=("reversed":Str):=eq_of_beq c2;exact E6 g d (eq_of_beq h1) (iK h2) c3 c4 (au e g c5).1 c6
 | .setX i y,s,h=>by
  obtain⟨q,Z,hc⟩:=ak (show onQ (oG s) (λq=>X.N[i]?==some q.1&&fu X.env.scope q.1&&aq q.1&&c8 T y X.N X.env.scope q.2.2&&bR q.2.2)=true from h);obtain⟨pos,rfl⟩:=i4 Z;obtain⟨a2,U⟩:=mu.mp hc;obtain⟨a3,J⟩:=mu.mp a2;obtain⟨a4,h3⟩:=mu.mp a3;obtain⟨h1,h2⟩:=mu.mp a4;exact E3 d (eq_of_beq h1) (iK h2) (eJ g y _ J) U
 | .ownX i xs,s,h=>by
  obtain⟨q,Z,hc⟩:=ak (show onQ (oG s) (λq=>onQ (liP q.2.2) λr=>X.N[i]?==some q.1&&fu X.env.scope q.1&&chkXEs T xs X.N X.env.scope r.1)=true from h);obtain⟨pos,rfl⟩:=i4 Z;obtain⟨r,e2,hc⟩:=ak hc;obtain⟨a3,J⟩:=mu.mp hc;obtain⟨h1,h2⟩:=mu.mp a3;rw[qe e2];exact E4 d (eq_of_beq h1) (iK h2) (soundXEs g xs _ J)
 | .appX i y,s,h=>by
  obtain⟨q,Z,hc⟩:=ak (show onQ (zb s) (λq=>onQ (j5 q.2.2.2.1) λv=>aW X.N X.env.scope i q.1&&q.2.1==("append":Str)&&c8 T y X.N X.env.scope v&&ah v&&q.2.2.1.endLine==q.2.2.2.2.line)=true from h);obtain⟨v,e2,hc⟩:=ak hc;obtain⟨x,m,ap,as,cp⟩:=q;obtain⟨p,pos,rfl⟩:=qh Z;have e3:as=[v]:=cN e2;subst e3;obtain⟨a2,U⟩:=mu.mp hc;obtain⟨a3,J⟩:=mu.mp a2;obtain⟨a4,h3⟩:=mu.mp a3;obtain⟨h1,h2⟩:=mu.mp a4;obtain rfl:m=("append":Str):=eq_of_beq h2;exact E5 (eJ g y _ h3) h1 J U
 | .retXE y,s,h=>by
  obtain⟨v,Z,hc⟩:=ak (show onQ (wM s) (λv=>c8 T y X.N X.env.scope v)=true from h);obtain⟨pos,rfl⟩:=l9 Z;exact B7 (eJ g y _ hc)
 | .forX i y body,s,h=>by
  obtain⟨x,px,it,b,pos,rfl,h⟩:=zL h;obtain⟨a1,U⟩:=mu.mp h;obtain⟨a2,J⟩:=mu.mp a1;obtain⟨a3,h3⟩:=mu.mp a2;obtain⟨h1,h2⟩:=mu.mp a3;obtain⟨q,Z,hc⟩:=ak J;obtain⟨f,e,es⟩:=q;obtain⟨p,rp,rfl⟩:=ue Z;obtain⟨b1,c5⟩:=mu.mp hc;obtain⟨b2,c4⟩:=mu.mp b1;obtain⟨b3,c3⟩:=mu.mp b2;obtain⟨c1,c2⟩:=mu.mp b3;obtain rfl:f=("range":Str):=eq_of_beq c1;have e3:es=[]:=KN.mp c3;subst e3;exact E8 g d (eq_of_beq h1) (iK h2) c2 (eJ g y _ c4) c5 (soundSs g d body b U)
 | .retM e,s,h=>by
  obtain⟨v,pos,rfl,hc⟩:=zO h;simp only[oe,JC]at hc;exact EV (au e g hc.1).1 hc.2
 | .retF _,s,h=>absurd (show false=true from h) pb
 | .setCall _ _ _,s,h=>absurd (show false=true from h) pb
 | .clear _,s,h=>absurd (show false=true from h) pb
 | .retOwn i,s,h=>by
  obtain⟨x,p,pos,rfl,hc⟩:=uA h;exact zE hc
 | .retN,s,h=>absurd (show false=true from h) pb
 | .brk,s,h=>absurd (show false=true from h) pb
 | .cont,s,h=>absurd (show false=true from h) pb
 | .pass,s,h=>absurd (show false=true from h) pb
 | .never,s,h=>by
  refine xJ.imp λD σ H q=>?_
  obtain⟨B,E,O,W,st,q⟩:=q;rw[ex]at q;exact q
 | .newD m i,s,h=>by
  obtain⟨x,p,dp,pos,rfl,hc⟩:=zK h;simp only[oe,Ju]at hc;exact ET d hc.1.1 (iK hc.1.2)
 | .dput i mk me,s,h=>by
  obtain⟨x,p,s',sp,v,pos,rfl,hc⟩:=zJ h;simp only[oe]at hc;exact EU g (au mk g hc.1.1.1.1.2).1 (au me g hc.1.1.2).1 hc.1.1.1.1.1 hc.2
 | .freeze _,s,h=>absurd (show false=true from h) pb
theorem soundSs{T:Tab}{k:Nat}{cal:Cal}{X:Cx}(g:Gf X T k cal)(d:Df X):∀(ms:List MS) (ss:List Stmt),chkSs T X.N X.env.scope ms ss=true->PSs X ss (tSs X.K cal ms)
 | [],ss,h=>by
  cases ss with
  |nil=>exact Hk
  |cons _ _=>cases h
 |m::ms,ss,h=>by
  cases hm:Fa m with
  |true =>
   cases m<;>simp[Fa]at hm
   cases h
  |false =>
   cases ss with
   |nil=>cases m<;>first|(cases h;done)|cases hm
   |cons s ss =>
    have h:(gr T X.N X.env.scope m s&&chkSs T X.N X.env.scope ms ss)=true:=by cases m<;>first|exact h|(simp[Fa]at hm)
    simp only[oe]at h;exact EW (Fb g d m s h.1) (soundSs g d ms ss h.2)
end
structure FnD(K:Mx)(x y:Str)(st:Stmt)(fa:Addr)(fd:FuncData):Prop where
 it:∃(c0 d0 k0 o0 m0:Value) (a0:Option Addr) (c1 t1:Value) (a1:Option Addr) (sl:Array (Option Value)),
  K.lookup fa=some ⟨c0,a1,.func fd,sl⟩/\PySem.W.codeIn K c1 y=true/\fd=PySem.W.fnOf x y (jQ st) (dG st) (bm st) d0 k0 o0 m0 a0 c1 t1
 kp:PySem.W.keepIn K (.ref fa)=true
theorem FnD.mk'{K:Mx}{st:Stmt} 
  (l:K.lookup z=some ⟨Z,a1,.func (PySem.W.fnOf x y (jQ st) (dG st) (bm st) d0 U o0 m0 Y J t1),sl⟩) (c:PySem.W.codeIn K J y=true) (k:PySem.W.keepIn K (.ref z)=true) :
  FnD K x y st z (PySem.W.fnOf x y (jQ st) (dG st) (bm st) d0 U o0 m0 Y J t1):=⟨⟨_,_,_,_,_,_,_,_,_,_,l,c,rfl⟩,k⟩
theorem FnD.mkd{K:Mx}{st:Stmt} 
  (l:K.lookup z=some ⟨Z,a1,.func (PySem.W.fnOf x y (jQ st) (dG st) (bm st) (.ref T) U o0 m0 Y J t1),sl⟩) (c:PySem.W.codeIn K J y=true) (k:PySem.W.keepIn K (.ref z)=true) :
  FnD K x y st z (PySem.W.fnOf x y (jQ st) (dG st) (bm st) (.ref T) U o0 m0 Y J t1):=.mk' l c k
structure sj(T:Tab)(K:Mx)(mg:Str->Option Value)(st:Stmt)(d:MD)(fa:Addr)(fd:FuncData):Prop where
 fn:FnD K d.name d.name st fa fd
 binds:cY K fd d.params []
 named:mg d.name=some (.ref fa)
 scope:pS d.names d.params (bm st)
 body:chkSs T d.names (bm st) d.body (dG st)=true
def bn1{K:Mx}(h:∀a,bindArgs fd ⟨[a],[]⟩=pure [(z,a)]):cY K fd [z] []:=.all λus J=>match us,J with|[a],_=>h a
def bn2{K:Mx}(h:∀a b,bindArgs fd ⟨[a,b],[]⟩=pure [(z,a),(J,b)]):cY K fd [z,J] []:=.all λus U=>match us,U with|[a,b],_=>h a b
def bn3{K:Mx}(h:∀a b c,bindArgs fd ⟨[a,b,c],[]⟩=pure [(z,a),(J,b),(pc,c)]):cY K fd [z,J,pc] []:=.all λus U=>match us,U with|[a,b,c],_=>h a b c
def bn4{K:Mx}(h:∀a b c d,bindArgs fd ⟨[a,b,c,d],[]⟩=pure [(z,a),(J,b),(pc,c),(U,d)]):cY K fd [z,J,pc,U] []:=.all λus Y=>match us,Y with|[a,b,c,d],_=>h a b c d
def bn5{K:Mx}(h:∀a b c d e,bindArgs fd ⟨[a,b,c,d,e],[]⟩=pure [(z,a),(J,b),(pc,c),(U,d),(Y,e)]):cY K fd [z,J,pc,U,Y] []:=.all λus Z=>match us,Z with|[a,b,c,d,e],_=>h a b c d e
def uB{K:Mx}(hd:fd.defaults=.ref T)(l:K.lookup T=some ⟨c,o,.seq vs n,J⟩)
  (h:∀us,us.length=ps.length->∃k,bindArgs fd ⟨us,[]⟩=seqItems? fd.defaults >>= k/\k (some vs)=pure (ps.zip us)):cY K fd ps []:=λs us X z=>by
 rw[Kq]at z ⊢;obtain⟨k,h1,h2⟩:=h us z;exact .of_defaults hd (X _ _ l) rfl h1 h2
def HD(K:Mx)(x:Str)(st:Stmt)(d:MD)(q:FuncData->Prop:=λ_=>True):Prop:=d.name=x/\∃z fd,PySem.W.nsIn K mainGlobals x=some (some (.ref z))/\FnD K x x st z fd/\cY K fd d.params []/\q fd
noncomputable def okD(T:Tab)(st:Stmt)(d:MD):Bool:=
 decide ((bm st).kind=.function/\(bm st).isCoroutine=false/\(bm st).isGenerator=false/\d.names.Nodup/\d.names.take d.params.length=d.params/\(∀x∈d.params,(bm st).names.lookup x=some .local\/(bm st).names.lookup x=some .cell)/\∀y∈(bm st).names,y.2≠.free)
 &&chkSs T d.names (bm st) d.body (dG st)
def zP{K:Mx}{st:Stmt}(X:K.In h)(G:h.Ns mainGlobals mg)(hd:HD K x st d q)(J:okD T st d=true):∃U fd,sj T K mg st d U fd/\q fd:=by
 refine az λZq Y=>?_
 obtain⟨e,_,_,n,f,b,z⟩:=hd;obtain⟨Z,c2⟩:=mu.mp J;obtain⟨s1,s2,s3,s4,s5,s6,s7⟩:=J0 Z;subst e;refine Y ?_;exact⟨_,_,⟨f,b,PySem.W.mg_of X G n,⟨s1,s2,s3,s4,s5,s6,s7⟩,c2⟩,z⟩
def w8(T:Tab)(K:Mx)(mg:Str->Option Value):List MD->List (List Sc)->Prop
 | [],[]=>True
 |d::ds,l::ls=>(∃st z fd,sj T K mg st d z fd/\∃vs,cY K fd d.params vs/\aG (l.map Sc.v) vs)/\w8 T K mg ds ls
 | _,_=>False
theorem w8.get{K:Mx} :∀{ds}{J}{f:Nat}{d},w8 T K mg ds J->ds[f]?=some d->∃l st z fd,J[f]?=some l/\sj T K mg st d z fd/\∃vs,cY K fd d.params vs/\aG (l.map Sc.v) vs
 | [],_,f,d,_,e=>by simp at e
 | _::_,[],f,d,h,e=>h.elim
 |d0::ds,l::J,0,d,h,e=>by
  cases e;obtain⟨⟨st,z,fd,r⟩,_⟩:=h;exact⟨l,st,z,fd,rfl,r⟩
 |d0::ds,l::J,f+1,d,h,e=>by
  obtain⟨k,st,z,fd,q,r⟩:=w8.get h.2 (show ds[f]?=some d from by simpa using e);exact⟨k,st,z,fd,by simpa using q,r⟩
def HQ(K:Mx)(d:MD)(fd:FuncData):List Sc->Prop
 | []=>True
 |l=>∃vs,cY K fd d.params vs/\aG (l.map Sc.v) vs
inductive uC(K:Mx)(tp:Nat->Stmt):List MD->List Nat->List (List Sc)->Prop
 | nil:uC K tp [] [] []
 |cons {d:MD}{ds:List MD}{i:Nat}{is:List Nat}{l:List Sc}{ls:List (List Sc)}:HD K d.name (tp i) d (λfd=>HQ K d fd l)->uC K tp ds is ls->uC K tp (d::ds) (i::is) (l::ls)
noncomputable def Hv(T:Tab)(z:Nat->Stmt):List MD->List Nat->Bool
 |d::ds,i::is=>okD T (z i) d&&Hv T z ds is
 | _,_=>true
def Fc{T:Tab}{K:Mx}{mg:Str->Option Value}{h:Heap}{J:Nat->Stmt}{ds:List MD}{is:List Nat}{z:List (List Sc)}(X:K.In h)(G:h.Ns mainGlobals mg)(a:uC K J ds is z)(U:Hv T J ds is=true):w8 T K mg ds z:=by
 induction a with
 |nil=>trivial
 | @cons d ds i is l z hd _ ih =>
  obtain⟨Y,Z⟩:=mu.mp U;obtain⟨fa,fd,D,q⟩:=zP X G hd Y;refine⟨⟨_,fa,fd,D,?_⟩,ih Z⟩;cases l with
  |nil=>exact⟨_,D.binds,.nil⟩
  |cons _ _=>exact q
structure Fd(T:Tab)(K:Mx)(mg:Str->Option Value)(ds:List MD)
 :Prop where
 tab:T.fs=ds.map (·.name)
 defs:w8 T K mg ds T.ds
 blt:∀x∈kd,mg (x:Str)=none
 gs:∀p∈T.gs,∃u,mg p.1=some u/\aD (toV p.2) u
def nz(hd:ds[f]?=some d)(h:aa ds (n+1) f args=some r):args.length=d.params.length /\
  ((∃W,exs (aa ds n) d.body (args.map some++replicate (d.names.length-args.length) none)=.next W/\r=.non)\/exs (aa ds n) d.body (args.map some++replicate (d.names.length-args.length) none)=.ret r \/
   ∃xs,exs (aa ds n) d.body (args.map some++replicate (d.names.length-args.length) none)=.retF xs/\r=.lst xs):=by
 rw[aa,hd]at h;dsimp only at h;by_cases z:args.length=d.params.length
 .rw[if_pos z]at h;refine⟨z,?_⟩;cases he:exs _ d.body _<;>simp_all
 .simp_all
def lC(U:f<1000)(J:ds[f+1000]?=none)(hd:ds[f]?=some d)(h:aa ds (n+1) (f+1000) args=some r):args.length=d.params.length /\
  ∃xs,exs (aa ds n) d.body (args.map some++replicate (d.names.length-args.length) none)=.retF xs/\r=.lst xs:=by
 rw[aa,J]at h;dsimp only at h;rw[if_neg (by omega),K1,hd]at h;dsimp only at h;by_cases z:args.length=d.params.length
 .rw[if_pos z]at h;refine⟨z,?_⟩;cases he:exs (aa ds n) d.body (args.map some++replicate _ none)<;>simp_all
 .simp_all
def pq(Z:f<1000)(J:ds[f+2000]?=none)(hd:ds[f]?=some d)(h:aa ds (n+1) (f+2000) args=some r):args.length=d.params.length /\
  ∃v W ms,exs (aa ds n) d.body (args.map some++replicate (d.names.length-args.length) none)=.retM v W/\d6 args W=some ms/\r=.tup (v::ms):=by
 rw[aa,J]at h;dsimp only at h;rw[if_pos (by omega)]at h;rw[K1,hd]at h;dsimp only at h;by_cases z:args.length=d.params.length
 .rw[if_pos z]at h;refine⟨z,?_⟩;cases he:exs (aa ds n) d.body (args.map some++replicate (d.names.length-args.length) none)with
  |retM v W =>
   rw[he]at h;dsimp only at h;rw[p0]at h;obtain⟨ms,U,Y⟩:=h;exact⟨v,W,ms,rfl,U,Y.symm⟩
  | _=>rw[he]at h;cases h
 .simp_all
def k9{K:Mx}(h:cm K O H args vs ds ms):∀(i:Nat) d a,args[i]?=some (.mutD d)->vs[i]?=some (.ref a)->a∈ms:=by
 induction h with
 |nil=>intro i d a e;simp at e
 |mutd h U t ih =>
  intro i d a z J;cases i with
  |zero=>simp at J;subst J;exact .head _
  |succ i=>exact .tail _ (ih i d a (by simpa using z) (by simpa using J))
 |other hm t ih =>
  intro i d a z J;cases i with
  |zero=>simp at z;exact absurd z (hm d)
  |succ i=>exact ih i d a (by simpa using z) (by simpa using J)
def sk{K:Mx}(h:cm K O H args vs ds ms):∀(i j:Nat) d d' a,i≠j->args[i]?=some (.mutD d)->args[j]?=some (.mutD d')->vs[i]?=some (.ref a)->vs[j]?≠some (.ref a):=by
 induction h with
 |nil=>intro i j d d' a _ e;simp at e
 |mutd h hn t ih =>
  intro i j d d' a Z z J U Y;cases i with
  |zero =>
   cases j with
   |zero=>exact Z rfl
   |succ j =>
    simp at U;subst U;exact hn (k9 t j d' _ (by simpa using J) (by simpa using Y))
  |succ i =>
   cases j with
   |zero =>
    simp at Y;subst Y;exact hn (k9 t i d _ (by simpa using z) (by simpa using U))
   |succ j=>exact ih i j d d' a (by omega) (by simpa using z) (by simpa using J) (by simpa using U) (by simpa using Y)
 |other hm t ih =>
  intro i j d d' a Z z J U Y;cases i with
  |zero=>simp at z;exact hm d z
  |succ i =>
   cases j with
   |zero=>simp at J;exact hm d' J
   |succ j=>exact ih i j d d' a (by omega) (by simpa using z) (by simpa using J) (by simpa using U) (by simpa using Y)
def uD{K:Mx}(h:cm K O H args vs ds ms):∀{W}{z},d6 args W=some z->∀a∈ms,∃(i:Nat) (d:DD),vs[i]?=some (.ref a)/\W[i]?=some (some (.mutD d)):=by
 induction h with
 |nil=>intro W z _ a U;cases U
 |mutd h hn t ih =>
  intro W z e b J
  match W,e with
  |some (.mutD d')::W,e =>
   rw[d6,p0]at e;obtain⟨Y,Z,rfl⟩:=e;rcases Jp.mp J with rfl|J
   .exact⟨0,d',rfl,rfl⟩
   .obtain⟨i,d,h1,h2⟩:=ih Z b J;exact⟨i+1,d,by simpa using h1,by simpa using h2⟩
 |other hm t ih =>
  intro W z e b J;rename_i m v as vs ds ms
  match m,W,e,hm with
  | .val _,r::W,e,hm =>
   obtain⟨i,d,h1,h2⟩:=ih e b J;exact⟨i+1,d,by simpa using h1,by simpa using h2⟩
  | .mutD d,_,_,hm=>exact absurd rfl (hm d)
def w9{K:Mx}(h:cm K O H args vs ds ms):∀{W}{z},d6 args W=some z->(∀(i:Nat) d d' a,args[i]?=some (.mutD d)->W[i]?=some (some (.mutD d'))->vs[i]?=some (.ref a)->DAt K H' O' a d')->cm K O' H' args vs z ms:=by
 induction h with
 |nil=>intro W z e _;rw[d6]at e;cases e;exact .nil
 |mutd h hn t ih =>
  intro W z e J
  match W,e with
  |some (.mutD d')::W,e =>
   rw[d6,p0]at e;obtain⟨a1,e0,rfl⟩:=e;exact .mutd (J 0 _ d' _ rfl rfl rfl) hn (ih e0 λi d U a Y Z e3=>J (i+1) d U a (by simpa using Y) (by simpa using Z) (by simpa using e3))
 |other hm t ih =>
  intro W z e J;rename_i m v as vs ds ms
  match m,W,e,hm with
  | .val _,r::W,e,hm =>
   exact .other hm (ih e λi d U a Y Z e3=>J (i+1) d U a (by simpa using Y) (by simpa using Z) (by simpa using e3))
  | .mutD d,_,_,hm=>exact absurd rfl (hm d)
theorem jG :∀{xs}{ys}{i:Nat}{x},Paired F xs ys->xs[i]?=some x->∃y,ys[i]?=some y/\F x y
 | _,_,_,_,.nil,e=>by simp at e
 | _,_,0,_,.cons r _,e=>by simp at e;subst e;exact⟨_,rfl,r⟩
 | _,_,i+1,x,.cons _ t,e=>by
  obtain⟨u,h1,h2⟩:=jG (i:=i) (x:=x) t (by simpa using e);exact⟨u,by simpa using h1,h2⟩
def sm{K:Mx}(U:∀a∈O,H a≠none)(h:Paired (lz K O H) args vs):aE K H O O H (args.map some++replicate (N.length-args.length) none) (eC N vs):=by
 have Y:=Paired.length h;have get:∀i m,(args.map some++replicate (N.length-args.length) none)[i]?=some (some m)->∃u,(eC N vs)[i]?=some (some u)/\lz K O H m u:=λi m e=>by
  by_cases hi:i<args.length
  .rw[Kg (by simpa using hi),JF]at e;cases J:args[i]? with
   |none=>rw[J]at e;cases e
   |some m' =>
    rw[J]at e;cases e;obtain⟨u,z,q⟩:=jG h J;refine⟨u,?_,q⟩;unfold L2.eC;rw[Kg (by rw[pe,<- Y];exact hi),JF,z]
    rfl
  .rw[KC (by simpa using hi),Lv]at e;split at e<;>cases e
 refine⟨ai.refl H,U,λa Z=>Z,U,by unfold L2.eC;simp[Y],λi m e=>?_,λi j xs ys a _ e _ ox _=>?_
  ⟩
 .obtain⟨u,z,q⟩:=get i m e;refine⟨u,z,?_⟩;cases m<;>first|exact q|exact q.elim
 .obtain⟨u,z,q⟩:=get i _ e;cases xs<;>first|exact q.elim|cases ox
def k_(h:Paired F args vs):∀(i:Nat) m,(args.map some++replicate (N.length-args.length) none)[i]?=some (some m)->args[i]?=some m/\∃u,vs[i]?=some u/\(eC N vs)[i]?=some (some u)/\F m u:=λi m e=>by
 have U:=Paired.length h;by_cases hi:i<args.length
 .rw[Kg (by simpa using hi),JF]at e;cases z:args[i]? with
  |none=>rw[z]at e;cases e
  |some Y =>
   rw[z]at e;cases e;obtain⟨u,J,q⟩:=jG h z;refine⟨rfl,u,J,?_,q⟩;unfold L2.eC;rw[Kg (by rw[pe,<- U];exact hi),JF,J]
   rfl
 .rw[KC (by simpa using hi),Lv]at e;split at e<;>cases e
def w_{K:Mx}(hO:∀a∈O,H a≠none)(h:Paired (Ew K O H) args vs)(hm:cm K O H args vs ds ms):aE K (jm H ms) (O.filter λb=>decide (b∉ms)) O H (args.map some++replicate (N.length-args.length) none) (eC N vs):=by
 have hl:=Paired.length h;have le:ai (jm H ms) H:=λb u e=>by
  unfold jm at e;split at e
  .cases e
  .exact e
 refine⟨le,hO,λa z=>(JI.mp z).1,λa z=>?_,by unfold L2.eC;simp[hl],λi m e=>?_,λi j x y a J e1 e2 ox oy s1 s2=>?_
  ⟩
 .obtain⟨h1,h2⟩:=JI.mp z;unfold jm;rw[if_neg (J0 h2)];exact hO a h1
 .obtain⟨U,u,Y,Z,q⟩:=k_ h i m e;refine⟨u,Z,?_⟩;cases m with
  |val v=>exact q
  |mutD d =>
   obtain⟨a,rfl,h1,h2⟩:=q;refine⟨a,rfl,h1,h2,?_⟩;unfold jm;rw[if_pos (k9 hm i d a U Y)]
  | _=>exact q.elim
 .obtain⟨U,u,ao,Z,q⟩:=k_ h i x e1;obtain⟨eb,w,aO,ew,q'⟩:=k_ h j y e2;rw[Z]at s1;cases s1;rw[ew]at s2;cases s2;cases x with
  |val _=>cases ox
  |mutD d =>
   cases y with
   |val _=>cases oy
   |mutD d'=>exact sk hm i j d d' a J U eb ao aO
   | _=>exact q'.elim
  | _=>exact q.elim
section
variable{T:Tab}{P:Program}{w:World}{K:Mx}{mg:Str->Option Value}{base:Heap}{ds:List MD}
structure Hw(T:Tab)(P:Program)(w:World)(K:Mx)(mg:Str->Option Value)(base:Heap)(ds:List MD)(n g:Nat)(fa:Addr)(fd:FuncData)(ps:List Str):Prop where
 m:jv P w K mg base CX0 n fa fd ps (spM K (aa ds n) g)
 f:jv P w K mg base CX0 n fa fd ps (spF K (aa ds n) g)
 d:jv P w K mg base CX0 n fa fd ps (spD K (aa ds n) g)
theorem mq(ao:ds.length<=1000)
  (pr:Fd T K mg ds)
 :∀n f d,ds[f]?=some d->∀st fa fd,sj T K mg st d fa fd->Hw T P w K mg base ds n f fa fd d.params
 |0,f,d,hd,st,fa,fd,D=>{
   m:=⟨λvs H Q E h=>(by obtain⟨O,args,r,_,_,e,_⟩:=h;exact absurd e (by simp[aa])),λA outer s H args us vs Q E _ _ _ _ h=>(by obtain⟨O,args,r,_,_,e,_⟩:=h;exact absurd e (by simp[aa]))⟩
   f:=⟨λvs H Q E h=>(by obtain⟨O,args,r,_,_,e,_⟩:=h;exact absurd e (by simp[aa])),λA outer s H args us vs Q E _ _ _ _ h=>(by obtain⟨O,args,r,_,_,e,_⟩:=h;exact absurd e (by simp[aa]))⟩
   d:=⟨λvs H Q E h=>(by obtain⟨O,args,v,ds,Y,ms,_,_,_,e,_⟩:=h;exact absurd e (by simp[aa])),λA outer s H args us vs Q E _ _ _ _ h=>(by obtain⟨O,args,v,ds,Y,ms,_,_,_,e,_⟩:=h;exact absurd e (by simp[aa]))⟩
   }
 |n+1,f,d,hd,st,fa,fd,D=>by
  refine az λZq kq=>?_
  obtain⟨c0,d0,k0,o0,m0,a0,a9,t1,a1,sl,lk,hc,rfl⟩:=D.fn.it;have hf:=Jw (Jt.mp hd).1 ao;have hn:ds[f+1000]?=none:=getElem?_eq_none (by omega);have b5:ds[f+2000]?=none:=getElem?_eq_none (by omega);have gg:∀{CX}{A}{outer}{s}{H}{E},_->Gf (q8 CX P w K mg base d.names d.name (bm st) fa a9 A outer s H E).nox T n (aa ds n):=λ{CX A outer s H E} hr=>{
   calm:=rfl
   room:=hr
   fns:=λf' x hx=>by
    rw[pr.tab,JF]at hx;cases hd2:ds[f']? with
    |none=>rw[hd2]at hx;cases hx
    |some d2 =>
     rw[hd2]at hx;cases hx;obtain⟨l2,a3,J,U,el,D2,bd⟩:=pr.defs.get hd2;exact⟨J,U,d2.params,D2.named,D2.fn.kp,D2.binds,(mq ao pr n f' d2 hd2 a3 J U D2).m,λl hl=>by rw[el]at hl;cases hl;exact bd⟩
   blt:=pr.blt
   gs:=pr.gs
   fnsF:=λf' x hx=>by
    rw[pr.tab,JF]at hx;cases hd2:ds[f']? with
    |none=>rw[hd2]at hx;cases hx
    |some d2 =>
     rw[hd2]at hx;cases hx;obtain⟨l2,a3,J,U,el,D2,bd⟩:=pr.defs.get hd2;exact⟨J,U,d2.params,D2.named,D2.fn.kp,D2.binds,(mq ao pr n f' d2 hd2 a3 J U D2).f⟩
   fnsD:=λf' x hx=>by
    rw[pr.tab,JF]at hx;cases hd2:ds[f']? with
    |none=>rw[hd2]at hx;cases hx
    |some d2 =>
     rw[hd2]at hx;cases hx;obtain⟨l2,a3,J,U,el,D2,bd⟩:=pr.defs.get hd2;exact⟨J,U,d2.params,D2.named,D2.fn.kp,D2.binds,(mq ao pr n f' d2 hd2 a3 J U D2).d⟩
   }
  have df:∀{CX}{A}{outer}{s}{H}{E},Df (q8 CX P w K mg base d.names d.name (bm st) fa a9 A outer s H E).nox:=λ{CX A outer s H E}=>⟨D.scope.nd,λ_=>rfl,PassesOwn.never,by
    have hk:(q8 CX P w K mg base d.names d.name (bm st) fa a9 A outer s H E).nox.env.scope.kind=.function:=D.scope.kind;unfold Env.blockKind;rw[hk]
    rfl
    ⟩
  refine kq ?_;refine {
   m:=?_
   f:=?_
   d:=?_
   }
  .refine xS lk hc D.scope (λvs H Q E h=>?_) (λA outer s H vs Q E hr h=>?_)
   .obtain⟨O,args,r,_,hp,e,_⟩:=h;rw[<- (nz hd e).1];exact(Paired.length hp).symm
   .obtain⟨O,args,r,hO,hp,e,q⟩:=h;obtain⟨hl,c3⟩:=nz hd e;refine⟨_,(soundSs (gg hr) df d.body (dG st) D.body).nox,H,O,O,_,sm hO hp,?_⟩;rcases c3 with⟨W,he,rfl⟩|he|⟨xs,he,rfl⟩
    .rw[he];exact λF H' O' Z _=>q _ H' Z.keep (qk _)
    .rw[he];exact λu H' s' r'=>q u H' s' r'
    .rw[he];refine λp us H' s' b3 b4 r'=>q _ H' s' ?_
     rw[Rep];refine⟨p,us,rfl,SqL.of ?_,Reps.mono g9 _ r'⟩;rw[ba λz=>hO p z b3];exact b4
  .refine xS lk hc D.scope (λvs H Q E h=>?_) (λA outer s H vs Q E hr h=>?_)
   .obtain⟨O,args,r,_,hp,e,_⟩:=h;rw[<- (lC hf hn hd e).1];exact(Paired.length hp).symm
   .obtain⟨O,args,xs,hO,hp,e,q⟩:=h;obtain⟨hl,ys,he,ey⟩:=lC hf hn hd e;cases ey;refine⟨_,(soundSs (gg hr) df d.body (dG st) D.body).nox,H,O,O,_,sm hO hp,?_⟩;rw[he];exact λp us H' s' b3 b4 r'=>q p us H' s' b3 b4 r'
  .refine xS lk hc D.scope (λvs H Q E h=>?_) (λA outer s H vs Q E hr h=>?_)
   .obtain⟨O,args,v,es,Y,ms,_,hp,_,e,_⟩:=h;rw[<- (pq hf b5 hd e).1];exact(Paired.length hp).symm
   .refine az λZq kq=>?_
    obtain⟨O,args,v,es,Y,ms,hO,hp,hm,e,q⟩:=h;obtain⟨hl,v',W,ea,he,cl,ey⟩:=pq hf b5 hd e;cases ey;refine kq ?_;refine⟨_,(soundSs (gg hr) df d.body (dG st) D.body).nox,jm H ms,_,O,_,w_ hO hp hm,?_⟩;rw[he];have key:∀{F}{H'}{O'},aE K (jm H ms) (O.filter λb=>decide (b∉ms)) O' H' W F->bi (jm H ms) O O' (args.map some++replicate (d.names.length-args.length) none) W (eC d.names vs) F->∀(i:Nat) d' a,W[i]?=some (some (.mutD d'))->vs[i]?=some (.ref a)->DAt K H' O' a d'/\a∈O':=λ{F H' O'} Z k' i d' a e2 e3=>by
     obtain⟨_,c6⟩:=k'.mutK i d' e2;obtain⟨u,eu,a',rfl,h1,h2,_⟩:=Z.slot i _ e2;have ei:(eC d.names vs)[i]?=some (some (.ref a)):=by
      have hi:=(Jt.mp e3).1;unfold L2.eC;rw[Kg (by simpa using hi),JF,e3]
      rfl
     rw[c6,ei]at eu;cases eu;exact⟨h1,h2⟩
    refine λu F H' O' Z k' ru=>?_
    have vw:=bK (ai.refl H') λb hb=>.inl (by
     by_cases z:b∈ms
     .obtain⟨i,d',h1,h2⟩:=uD hm cl b z;exact(key Z k' i d' b h2 h1).2
     .refine k'.stay b ?_ hb;unfold jm;rw[if_neg z];exact hO b hb)
    refine q u H' (λb o hb eb=>Z.keep b o ?_) (w9 hm cl λi d1 d' a e1 e2 e3=>(key Z k' i d' a e2 e3).1.move (λ_ z=>z) vw) (Rep.mono vw _ ru);unfold jm;rw[if_neg hb];exact eb
def Hx(z:ds.length<=1000)
  (U:Fd T K mg ds)
  (n f) (d) (hd:ds[f]?=some d) (st) (J) (fd) (D:sj T K mg st d J fd):jv P w K mg base CX0 n J fd d.params (spM K (aa ds n) f):=(mq z U n f d hd st J fd D).m
end
def Fe{K:Mx}{ns:List Int}(h:aa ds n li [.brw (ns.map .int)]=some (.bl true))(J:SqL K H a (ns.map V.int)):spM K (aa ds n) li [.ref a] H (λv _=>v=.bl true) λ_ _ _=>False:=
 ⟨[],[.brw (ns.map .int)],.bl true,λ_ z=>by simp at z,.cons ⟨a,_,rfl,J,.of_ints ns⟩ .nil,h,λu H' _ r=>by rw[Rep]at r;exact r⟩
end MM
namespace MM
open PySem List Option
noncomputable abbrev ofS(z:List Int):PV:=.tup (z.map .int)
noncomputable abbrev ofR(R:List (List Int)):PV:=.tup (R.map ofS)
noncomputable abbrev ofL(ns:List Int):PV:=.lst (ns.map .int)
theorem br:∀ns,bg (ns.map .int)=some ns
 | []=>rfl
 |n::ns=>by simp[bg,br ns]
theorem pw:∀R,gi (R.map ofS)=some R
 | []=>rfl
 |t::R=>by simp[gi,br,pw R]
theorem cV:∀ns,cE (ns.map .bl)=some ns
 | []=>rfl
 |n::ns=>by simp[cE,cV ns]
def pz(h:ns.length<64):iG (ns.map .int)=some (ofL (sortI ns)):=by
 unfold iG;rw[if_pos (by simpa using h),br]
def eR{R:List (List Int)}(h:R.length<64):iG (R.map ofS)=some (.lst ((sortT R).map ofS)):=by
 unfold iG;rw[if_pos (by simpa using h)];cases R with
 |nil=>rfl
 |cons t R =>
  have:bg ((t::R).map ofS)=none:=rfl;rw[this];simp only[pw,map_some]
theorem cc{α:Type}{g:α->PV}{c:PV->Option Bool}{f:PV->Option PV}{p:α->Bool}{h:α->PV}:∀{xs:List α},(∀x∈xs,c (g x)=some (p x))->(∀x∈xs,p x=true->f (g x)=some (h x))->fQ c f (xs.map g)=some ((xs.filter p).map h)
 | [],_,_=>rfl
 |x::xs,hc,hf=>by
  rw[Jq,fQ,hc x (.head _),bind_some];have ih:=cc (xs:=xs) (λy z=>hc y (.tail _ z)) (λy z=>hf y (.tail _ z));cases J:p x<;>simp_all
def g_{α:Type}{g:α->PV}{c:PV->Option Bool}{f:PV->Option PV}{h:α->PV}{xs:List α}(hc:∀x∈xs,c (g x)=some true)(z:∀x∈xs,f (g x)=some (h x)):fQ c f (xs.map g)=some (xs.map h):=by
 rw[cc hc (λx hx _=>z x hx),KP.mpr λ_ _=>rfl]
def Ff(a b)(z:List Int):((b==a)||decide (a∈z))=decide (a=b\/a∈z):=by grind
def Fg(a b)(z:List (List Int)):(decide (b=a)||decide (a∈z))=decide (a=b\/a∈z):=by grind
@[simp] theorem kj(n)(i j):eqF n (.int i) (.int j)=some (i==j):=by cases n<;>rfl
theorem bL(h:Int):∀z:List Int,isIn (.int h) (z.map .int)=some (decide (h∈z))
 | []=>rfl
 |t::z=>by
  have ih:=bL h z;unfold isIn at ih ⊢;rw[Jq,inL,ih];simp only[kj,bind_some,map_some,Jp,Ff]
theorem nA(n:Nat):∀a b:List Int,eqL (eqF n) (a.map .int) (b.map .int)=some (decide (a=b))
 | [],[]=>rfl
 | [],_::_=>rfl
 | _::_,[]=>rfl
 |x::a,y::b=>by
  rw[Jq,Jq,eqL,nA n a b];simp only[kj,bind_some,map_some,Lp]
  congr 1
  rw[J3];simp
def C6(n:Nat)(a b:List Int):eqF (n+1) (ofS a) (ofS b)=some (decide (a=b)):=nA n a b
def Hy(n:Nat)(a b:List Int):eqF (n+1) (ofL a) (ofL b)=some (decide (a=b)):=by
 show(if (a.map PV.int).length=(b.map PV.int).length then eqL (eqF n) (a.map .int) (b.map .int)else some false)=_;rw[nA];split
 .rfl
 .rename_i h
  congr 1
  exact(JQ λe=>h (by rw[e])).symm
theorem C7(n:Nat):∀a b:List (List Int),eqL (eqF (n+1)) (a.map ofS) (b.map ofS)=some (decide (a=b))
 | [],[]=>rfl
 | [],_::_=>rfl
 | _::_,[]=>rfl
 |x::a,y::b=>by
  rw[Jq,Jq,eqL,C7 n a b,C6];simp only[bind_some,map_some,Lp]
  congr 1
  rw[J3];simp
def Hz(n:Nat)(a b:List (List Int)):eqF (n+2) (ofR a) (ofR b)=some (decide (a=b)):=C7 n a b
theorem nB(h):∀z:List (List Int),isIn (ofS h) (z.map ofS)=some (decide (h∈z))
 | []=>rfl
 |t::z=>by
  have ih:=nB h z;unfold isIn at ih ⊢;rw[Jq,inL,ih,C6 99];simp only[bind_some,map_some,Jp,Fg]
noncomputable def aY:R->Option PV
 | .next _=>some .non
 | .ret v=>some v
 | .retF xs=>some (.lst xs)
 | _=>none
def ab(hd:ds[f]?=some d)(z:args.length=d.params.length):aa ds (n+1) f args=aY (exs (aa ds n) d.body (args.map some++replicate (d.names.length-args.length) none)):=by
 rw[aa,hd];simp[z]
 rfl
noncomputable def qB(args:List MV):R->Option PV
 | .retM v W=>(d6 args W).map λds=>.tup (v::ds)
 | _=>none
def gz(z:ds[f+2000]?=none)(hd:ds[f]?=some d)(J:args.length=d.params.length)
 :aa ds (n+1) (f+2000) args=qB args (exs (aa ds n) d.body (args.map some++replicate (d.names.length-args.length) none)):=by
 rw[aa,z];rw[K1,hd];simp[J]
 rfl
@[simp] theorem FL(v)(W)(k):(R.retM v W).andThen k=.retM v W:=rfl
@[simp] theorem Fh(v):gm (some (.mutD v))=some (.brwD v):=rfl
@[simp] theorem Fi(v):fD (some (.mutD v))=some (.brwD v):=rfl
@[simp] theorem FM(xs)(k):(R.retF xs).andThen k=.retF xs:=rfl
@[simp] theorem FN(v):bv (some (.val v))=some v:=rfl
@[simp] theorem FO(v):bv (some (.own v))=some (.lst v):=rfl
@[simp] theorem FP(v):bv (some (.brw v))=some (.lst v):=rfl
@[simp] theorem Fj(v):bv (some (.ownD (.k v)))=some (.dI (.k v)):=rfl
@[simp] theorem Fk(v):bv (some (.ownD (.t v)))=some (.dI (.t v)):=rfl
@[simp] theorem Fl(v):bv (some (.brwD (.k v)))=some (.dI (.k v)):=rfl
@[simp] theorem IX(v):rJ (.k v)=true:=rfl
@[simp] theorem IY(v):rJ (.t v)=true:=rfl
@[simp] theorem Fm(v):bv (some (.brwD (.t v)))=some (.dI (.t v)):=rfl
@[simp] theorem Fn(v):gm (some (.ownD v))=some (.brwD v):=rfl
@[simp] theorem Fo(v):gm (some (.brwD v))=some (.brwD v):=rfl
@[simp] theorem Fp(v):fD (some (.ownD v))=some (.brwD v):=rfl
@[simp] theorem Fq(v):fD (some (.brwD v))=some (.brwD v):=rfl
@[simp] theorem IZ(i):sc? (.int i)=some (.int i):=rfl
@[simp] theorem Jm(i):sc? (.bl i)=some (.bl i):=rfl
@[simp] theorem I0:sc? .non=some .non:=rfl
@[simp] theorem I_(i):(Sc.int i).pv=.int i:=rfl
@[simp] theorem Jn(i):(Sc.bl i).pv=.bl i:=rfl
@[simp] theorem FQ(v):yO (some (.val v))=some v:=rfl
@[simp] theorem FR(v):gm (some (.val v))=some (.val v):=rfl
@[simp] theorem FS(v):gm (some (.own v))=some (.brw v):=rfl
@[simp] theorem FT(v):gm (some (.brw v))=some (.brw v):=rfl
@[simp] theorem FU(v):fD (some (.val v))=some (.val v):=rfl
@[simp] theorem FV(v):fD (some (.own v))=some (.brw v):=rfl
@[simp] theorem FW(v):fD (some (.brw v))=some (.brw v):=rfl
@[simp] theorem FX(b):bb (.bl b)=some b:=rfl
@[simp] theorem Ia(i j):eX .add (.int i) (.int j)=some (.int (i+j)):=rfl
@[simp] theorem Ib(i j):eX .sub (.int i) (.int j)=some (.int (i-j)):=rfl
@[simp] theorem Cd(i j):eX .mul (.int i) (.int j)=if (-(2 ^ 64)<i/\i<2 ^ 64)\/(-(2 ^ 64)<j/\j<2 ^ 64)then some (.int (i*j))else none:=rfl
@[simp] theorem HA(i j):eX .fdiv (.int i) (.int j)=if 0<j/\j<1073741824 then some (.int (i / j))else none:=rfl
@[simp] theorem vO(i j):eX .mod (.int i) (.int j)=if 0<j then some (.int (i % j))else none:=rfl
@[simp] theorem mr(x y):eX .add (.lst x) (.lst y)=if x.length+y.length<=10000 then some (.lst (x++y))else none:=rfl
@[simp] theorem Ja(i j):cj .lt (.int i) (.int j)=some (decide (i<j)):=rfl
@[simp] theorem Jb(i j):cj .le (.int i) (.int j)=some (decide (i<=j)):=rfl
@[simp] theorem Fr(i j):cj .gt (.int i) (.int j)=some (decide (j<i)):=rfl
@[simp] theorem Jc(i j):cj .ge (.int i) (.int j)=some (decide (j<=i)):=rfl
@[simp] theorem Fs(x y):cj .eq x y=eqF 100 x y:=rfl
@[simp] theorem zQ(x y):cj .ne x y=if rH x y=true then(eqF 100 x y).map (λp=>!p)else none:=rfl
@[simp] theorem Ic(x):cj .isN x .non=some (jl x):=rfl
@[simp] theorem HB(x):cj .notN x .non=some (!jl x):=rfl
@[simp] theorem Ce(x)(xs):cj .isIn x (.tup xs)=isIn x xs:=rfl
@[simp] theorem Ie(x)(xs):cj .isIn x (.lst xs)=isIn x xs:=rfl
@[simp] theorem HC(x)(xs):cj .notIn x (.tup xs)=(isIn x xs).map λp=>!p:=rfl
@[simp] theorem HE(x)(xs):cj .notIn x (.lst xs)=(isIn x xs).map λp=>!p:=rfl
@[simp] theorem Jd(n)(i j):eqF n (.bl i) (.bl j)=some (i==j):=by cases n<;>rfl
@[simp] theorem Cf(n)(i j):eqF n (.str i) (.str j)=some (i==j):=by cases n<;>rfl
@[simp] theorem Ig(x y):rH (.tup x) (.tup y)=true:=rfl
@[simp] theorem Ih(x y):rH (.lst x) (.lst y)=true:=rfl
@[simp] theorem Ii(x y):rH (.int x) (.int y)=true:=rfl
@[simp] theorem vP(x):a_ (.tup x)=some x:=rfl
@[simp] theorem hV(x):a_ (.lst x)=some x:=rfl
@[simp] theorem HF(x):aA .len [.tup x]=some (.int x.length):=rfl
@[simp] theorem HG(x):aA .len [.lst x]=some (.int x.length):=rfl
@[simp] theorem HH(x):aA .len [.dI (.k x)]=some (.int x.length):=rfl
@[simp] theorem Ij(x):aA .tupleOf [x]=(a_ x).map .tup:=rfl
@[simp] theorem HI(x):aA .listOf [x]=(a_ x).map .lst:=rfl
@[simp] theorem fc(x):aA .sorted [x]=(a_ x).bind iG:=rfl
@[simp] theorem mw(x):aA .any [.lst x]=(cE x).map λbs=>.bl (bs.any id):=rfl
@[simp] theorem vQ(x):aA .all [.lst x]=(cE x).map λbs=>.bl (bs.all id):=rfl
@[simp] theorem HJ(i):aA .intOf [.int i]=some (.int i):=rfl
@[simp] theorem HK(b):aA .intOf [.bl b]=some (.int (if b then 1 else 0)):=rfl
@[simp] theorem Ik(i):isD (.int i)=false:=rfl
@[simp] theorem Je(i):isD (.bl i)=false:=rfl
@[simp] theorem Il(i):isD (.str i)=false:=rfl
@[simp] theorem Im(i):isD (.tup i)=false:=rfl
@[simp] theorem Io(i):isD (.lst i)=false:=rfl
@[simp] theorem Ip:isD .non=false:=rfl
@[simp] theorem FY(x):aA .isInt [x]=if isD x=true then none else some (.bl (isT .isInt x)):=rfl
@[simp] theorem AH(i):isT .isInt (.int i)=true:=rfl
@[simp] theorem Cg(i):isT .isInt (.bl i)=true:=rfl
@[simp] theorem AI(i):isT .isInt (.str i)=false:=rfl
@[simp] theorem AJ(i):isT .isInt (.lst i)=false:=rfl
@[simp] theorem AK(i):isT .isInt (.tup i)=false:=rfl
@[simp] theorem AL:isT .isInt .non=false:=rfl
@[simp] theorem Ft(x):aA .isBool [x]=if isD x=true then none else some (.bl (isT .isBool x)):=rfl
@[simp] theorem zR(i):isT .isBool (.int i)=false:=rfl
@[simp] theorem AM(i):isT .isBool (.bl i)=true:=rfl
@[simp] theorem zS(i):isT .isBool (.str i)=false:=rfl
@[simp] theorem zT(i):isT .isBool (.lst i)=false:=rfl
@[simp] theorem zU(i):isT .isBool (.tup i)=false:=rfl
@[simp] theorem zV:isT .isBool .non=false:=rfl
@[simp] theorem FZ(x):aA .isStr [x]=if isD x=true then none else some (.bl (isT .isStr x)):=rfl
@[simp] theorem AN(i):isT .isStr (.int i)=false:=rfl
@[simp] theorem Ch(i):isT .isStr (.bl i)=false:=rfl
@[simp] theorem AO(i):isT .isStr (.str i)=true:=rfl
@[simp] theorem AQ(i):isT .isStr (.lst i)=false:=rfl
@[simp] theorem AR(i):isT .isStr (.tup i)=false:=rfl
@[simp] theorem AS:isT .isStr .non=false:=rfl
@[simp] theorem Fu(x):aA .isList [x]=if isD x=true then none else some (.bl (isT .isList x)):=rfl
@[simp] theorem zW(i):isT .isList (.int i)=false:=rfl
@[simp] theorem AT(i):isT .isList (.bl i)=false:=rfl
@[simp] theorem zX(i):isT .isList (.str i)=false:=rfl
@[simp] theorem zY(i):isT .isList (.lst i)=true:=rfl
@[simp] theorem zZ(i):isT .isList (.tup i)=false:=rfl
@[simp] theorem z5:isT .isList .non=false:=rfl
@[simp] theorem C8(x):aA .isTuple [x]=if isD x=true then none else some (.bl (isT .isTuple x)):=rfl
@[simp] theorem xy(i):isT .isTuple (.int i)=false:=rfl
@[simp] theorem z6(i):isT .isTuple (.bl i)=false:=rfl
@[simp] theorem xz(i):isT .isTuple (.str i)=false:=rfl
@[simp] theorem xA(i):isT .isTuple (.lst i)=false:=rfl
@[simp] theorem xB(i):isT .isTuple (.tup i)=true:=rfl
@[simp] theorem xC:isT .isTuple .non=false:=rfl
@[simp] theorem sn(xs):aA .max1 [.lst xs]=(bg xs).bind λns=>(yN ns).map .int:=rfl
@[simp] theorem nD(d):aA .valuesOf [.dI d]=if (jY d).length<=10000 then some (.lst (jY d))else none:=rfl
@[simp] theorem z7(kvs):aA .sortedKeys [.dI (.k kvs)]=if kvs.length<64 then some (ofL (sortI (kvs.map (·.1))))else none:=rfl
@[simp] theorem Jf(kvs)(i):wL (.dI (.k kvs)) (.int i)=some (bI kvs i):=rfl
@[simp] theorem Jg(kvs)(ns):wL (.dI (.t kvs)) (.tup (ns.map .int))=some (bI kvs ns):=by
 show(bg _).map _=_;rw[br]
 rfl
@[simp] theorem Jh(kvs)(i)(s):qb (.k kvs) (.int i) s=if kvs.length<10000 then some (.k (cG kvs i s))else none:=rfl
@[simp] theorem Ji(kvs)(ns)(s):qb (.t kvs) (.tup (ns.map .int)) s=if kvs.length<10000 then some (.t (cG kvs ns s))else none:=by
 show((bg _).bind λk=>if kvs.length<10000 then some _ else none)=_;rw[br]
 rfl
@[simp] theorem Iq(p q):cj .isN (.bl p) (.bl q)=some (p==q):=rfl
@[simp] theorem HL(p q):cj .notN (.bl p) (.bl q)=some (!(p==q)):=rfl
@[simp] theorem Ci(xs):aA .tupleRev [.lst xs]=some (.tup xs.reverse):=rfl
@[simp] theorem oI(x):aA .sortedSet [x]=(a_ x).bind λxs=>(bg xs).bind λns=>if ns.length<=1000/\(dd ns).length<64 then some (.lst ((sortI (dd ns)).map .int))else none:=rfl
@[simp] theorem z8(x)(i):fC (.lst x) (.int i)=(place x.length i).bind λj=>x[j]?:=rfl
@[simp] theorem Jo(x)(i):fC (.tup x) (.int i)=(place x.length i).bind λj=>x[j]?:=rfl
@[simp] theorem Ir(x)(lo hi):j3 (.lst x) lo hi=some (.lst (cut x lo hi)):=rfl
@[simp] theorem Iu(i j):bnd (.cst (.int i)) (.int j)=some (some j):=rfl
@[simp] theorem vR(x):bf .seq [x]=a_ x:=rfl
def Cj(j):bf .rng [.int j]=if -(2 ^ 62)<=j/\j<2 ^ 62 then some ((range j.toNat).map λk=>.int ((0:Int)+k))else none:=rfl
@[simp] theorem aL(W)(k):(R.next W).andThen k=k W:=rfl
@[simp] theorem HM(v)(k):(R.ret v).andThen k=.ret v:=rfl
@[simp] theorem HN(k):R.bad.andThen k=.bad:=rfl
@[simp] theorem HP(W)(k):(R.brk W).andThen k=.brk W:=rfl
@[simp] theorem F0(W)(k):(R.cont W).andThen k=.cont W:=rfl
@[simp] theorem uE(v)(k):eE (some v) k=k v:=rfl
@[simp] theorem jH(v)(k):yP (some v) k=k v:=rfl
@[simp] theorem Fv(v)(k):cf (some v) k=k v:=rfl
@[simp] theorem F1(v):aY (.ret v)=some v:=rfl
@[simp] theorem Fw(W):aY (.next W)=some .non:=rfl
@[simp] theorem bY(a)(l)(m):put (a::l) 0 m=some m::l:=rfl
@[simp] theorem bZ(a)(l)(n)(m):put (a::l) (n+1) m=a::put l n m:=rfl
@[simp] theorem cz(src)(z W):(R.next W).back src z=.next (aJ src z W):=rfl
@[simp] theorem HR(src)(z)(v):(R.ret v).back src z=.ret v:=rfl
@[simp] theorem F2(body)(W):aw body [] W=.next W:=rfl
def nE(z:0<=j)(h1:j<4611686018427387904):bf .rng [.int j]=some ((range j.toNat).map λk=>.int (k:Int)):=by
 rw[Cj,if_pos ⟨by omega,by omega⟩]
 congr 1
 simp_all
def iM{n:Nat}{i:Int}(z:0<=i)(h:i<n):place n i=some i.toNat:=by unfold place;rw[if_pos z,if_pos h]
def leT(a b:List Int):Prop:=lexLt b a=false
theorem sortI_perm(l):(sortI l).Perm l:=by rw[dj];exact L2.Srt.sortI_perm l
theorem sortT_perm(l):(sortT l).Perm l:=by rw[kf];exact L2.Srt.sortT_perm l
def sortI_len(l):(sortI l).length=l.length:=(sortI_perm l).length_eq
def sortT_len(l):(sortT l).length=l.length:=(sortT_perm l).length_eq
def i8 :x∈sortI l ↔ x∈l:=(sortI_perm l).mem_iff
def dC :x∈sortT l ↔ x∈l:=(sortT_perm l).mem_iff
theorem sortI_rises(l):(sortI l).Pairwise (· <= ·):=by rw[dj];exact L2.Srt.sortI_rises l
theorem sortT_rises(l):(sortT l).Pairwise leT:=by
 rw[kf];exact(L2.Srt.sortT_rises l).imp λh=>by unfold leT;rw[nh];exact h
theorem sortI_id{l:List Int}(h:l.Pairwise (· <= ·)):sortI l=l:=by rw[dj];exact L2.Srt.sortI_id h
theorem sortI_of_perm(p:a.Perm b):sortI a=sortI b:=by rw[dj,dj];exact L2.Srt.sortI_of_perm p
def nF(h:l.Nodup):(sortI l).Pairwise (· < ·):=by
 have h1:=sortI_rises l;have h2:=(sortI_perm l).nodup_iff.mpr h;exact(h1.and h2).imp λ⟨a,b⟩=>by omega
def iN :k∈dd l ↔ k∈l:=by rw[pf];exact L2.St.fO
theorem dd_nodup(l):(dd l).Nodup:=by rw[pf];exact L2.St.dd_nodup l
theorem C9:∀{l},l.Nodup->dd l=l
 | [],_=>rfl
 |x::r,h=>by
  rw[dd,C9 (JV.mp h).2,if_neg (JV.mp h).1]
def dk{l:List Int}(h:l.Pairwise (· < ·)):l.Nodup:=h.imp λ{a b} q=>by omega
def bJ(z:List Int):Prop:=z.Pairwise (· < ·)/\∀h∈z,0<=h/\h<=59
def aB(R:List (List Int)):Prop:=(∀z∈R,bJ z)/\R.Pairwise leT/\R.length<=60
theorem nG:∀(n:Nat) (l:List Int),l.Nodup->(∀x∈l,0<=x/\x<(n:Int))->l.length<=n
 |0,l,_,h=>by
  cases l with
  |nil=>simp
  |cons x r=>have:=h x (.head _);omega
 |n+1,l,J,h=>by
  have h1:=nG n (l.filter λx=>decide (x≠(n:Int))) (J.filter _) (λx hx=>by
   obtain⟨h2,U⟩:=JI.mp hx;have h4:=J0 U;have:=h x h2;omega)
  have h2:∀l:List Int,l.Nodup->l.length<=(l.filter λx=>decide (x≠(n:Int))).length+1:=by
   intro l
   induction l with
   |nil=>intro _;simp
   |cons x r ih =>
    intro J;by_cases e:x=(n:Int)
    .have Y:r.filter (λx=>decide (x≠(n:Int)))=r:=KP.mpr λy Z=>JA λz=>(JV.mp J).1 (by rw[e,<- z];exact Z)
     rw[JT (by simp[e]),Y];simp
    .simp_all
  have:=h2 l J;omega
def aI(h:bJ z):z.length<=60:=nG 60 z (dk h.1) λx hx=>by have:=h.2 x hx;omega
noncomputable def qC(ns:List Int)(lo hi:Option Int):List Int:=(ns.drop (gj ns.length 0 lo)).take (gj ns.length ns.length hi-gj ns.length 0 lo)
@[simp] theorem sr(ns)(lo hi):cut (ns.map .int) lo hi=(qC ns lo hi).map .int:=by
 unfold cut qC
 simp_all
def z9(ns:List Int){a b:Int}(z:0<=a)(J:0<=b):(qC ns (some a) (some b)).length<=(b-a).toNat:=by
 unfold qC;rw[Mv,length_drop];have U:gj ns.length ns.length (some b)=min b.toNat ns.length:=by show(if b<0 then _ else _)=_;rw[if_neg (Int.not_lt.mpr J)]
 have Y:gj ns.length 0 (some a)=min a.toNat ns.length:=by show(if a<0 then _ else _)=_;rw[if_neg (Int.not_lt.mpr z)]
 rw[U,Y];obtain⟨A,rfl⟩:=Int.eq_ofNat_of_zero_le z;obtain⟨B,rfl⟩:=Int.eq_ofNat_of_zero_le J;rw[Int.toNat_sub,Int.toNat_natCast,Int.toNat_natCast];refine Js (Nat.min_le_left _ _) ?_;rcases Nat.le_total A ns.length with h|h
 .rw[Ln h];exact Nat.sub_le_sub_right (Nat.min_le_left _ _) A
 .rw[Nat.min_eq_right h,Nat.sub_eq_zero_of_le (Nat.min_le_right _ _)];exact JZ _
end MM
structure PySem.W.Fast:Prop where (tw5298663401515989455 tw9808178446615038601 tw637992577076805665 tw3295592681072774665 tw12717187003089764761 tw9704490520908409399 tw9503969661239670029 tw5238049074444899031 tw2411290910689492891 tw5662169061958941689 tw7587186724131378634 tw2131920638138917526 tw8070048788452330542 tw5600844921259952923 tw8320606345179003305 tw3484507483521447100 tw6727944887210832128 tw2305344059568308158 tw12226704525227137103 tw6554878417890163767 tw16104240676827057688 tw6590601303546675390 tw13068740160328883913 tw3581130577339855063 tw2899031183387624712 tw11147189777577929961 tw785479637477390289 tw4564462273614243864 tw5961096424643231446 tw13025666468943829089 tw5079833935050348160 tw10902391214913340619 tw488121979595682265 tw2293879837718859190 tw16408369299907213442 tw7968466446443823377 tw8169005857019731908 tw15135312953757729858 tw9766566623109549131 tw10559169744976994435 tw15744819865949100563 tw11082242674922003560 tw8853272397797411679 tw13233915315368942688 tw8037410682790875340 tw15733377496282356164 tw16252310663750488425 tw1327458269968264911 tw7102032136121478838 tw4678454967802771014 tw5805877154383852022 tw8743984643762408398 tw14402052972620583155 tw18255877860013497522 tw18423573863550429572 tw13130889594440011924 tw10257930087327924609 tw11829863195708367500 tw3508545891619559998 tw5104434875200115102 tw4643501532706428914 tw1313424800056179851 tw1985309430391476789 tw14252161953764376014 tw10713964729866676565 tw9762050876456291112 tw13283380105826897992 tw15884145897222917860 tw12279776699345764664 tw13724765830437484854 tw18350392723615049295 tw13114075975082418471 tw15069354345267911668 tw13800843926566024660 tw51274685110225874 tw13959700110910669738 tw2923820145125387703 tw3412813377360995696 tw6639835091926439250 tw168682015253837756 tw7100887276628582379 tw9301473480756901510 tw18338504930807598327 tw16257612101619443098 tw3315785763417504838 tw17232552488368155701 tw2786437569510382643 tw17994287269715441492 tw14372940323256772353 tw2994727132114756969 tw14854973039206006719 tw7073864107634267783 tw7485704804146436310 tw551782544892312554 tw10928547495999270668 tw16507878474480301821 tw6891835790551815020 tw4080168957029415831 tw13928721847433677776 tw5330154029350458512 tw15703337965334007463 tw8979480803536267324 tw4538834106372891080 tw11585092944670952600 tw16179756120955616125 tw11773789320026193346 tw1552654875356584426 tw2237710739476672473 tw4491443071099031398 tw3501853528097281290 tw16417527037345721759 tw13457988320978157278 tw13502555762645280271 tw14822847098255742975 tw4961431160384669012 tw13740719127462994495 tw10187053232258172105 tw8724792198754315921 tw5184734362957381546 tw102834493853268049 tw15591974683084506734 tw12853588723593156002 tw674815730342840604 tw6997454150215237844 tw5973503143278962527 tw3645291148028271 tw7191200662866046336 tw4278974046038998719 tw5668853801423715522 tw13321443343523525359 tw9210863895966215264 tw9758572747643067816 tw6050388939825691000 tw5711109389625232994 tw9324124895343362356 tw10266372003889898739 tw13122996533209803286 tw2917048878878640164 tw18370669730696143699 tw14189010521834123052 tw7991735053213387380 tw924412466615775717 tw12598660129058860863 tw15420786364492626385 tw17590386769278617615 tw8070728693921306043 tw472703344838647289 tw12417158957013493629 tw17324263951477818218 tw12663906455029276503 tw6038885794249178470 tw7404847468421667846 tw10410364118418146527 tw7399284627427548205 tw15669795477975517033 tw15564500353964102446 tw11015999533950106360 tw13365357184745588178 tw374576192001921119 tw15808178538785087787 tw16548760994363125237 tw6977811227601084572 tw15038300444610355477 tw7056577919633803146 tw18166979647166300623 tw12118048786556489129 tw12921705372687362383 tw3450377561336421121 tw6412163696054931445 tw13483765167400080124 tw7825057033879898165 tw3941713423352625213 tw6026079388364713323 tw495768723594465195 tw13019491527323616321 tw14949295159768803900 tw1198573658960617664 tw12166350234602680332 tw6515983551979245508 tw663578583336229224 tw5158392248861941871 tw14228984093027748786 tw17885058193033011470 tw4676972016300613865 tw2754751769306944334 tw4710884286299030773 tw5031650410578090217 tw14397141862719792163 tw1160328870559262504 tw11644674895458376590 tw5519822076888731522 tw1458204835969702095 tw17329761415683791857 tw6738853323716691730 tw15589833685502393079 tw1215024133908716001 tw2896012893168483275 tw16062536592985816067 tw5971835993775071476 tw610073581829460329 tw12620353773968590358 tw3042833698664538337 tw18047466772223363543 tw13895853061693073083 tw11341003085041068671 tw10888868961998952649 tw14247492210599575568 tw14078429007081392072 tw9890731588722165839 tw12931266600202110506 tw2871118903050472149 tw3208347497507171184 tw16898526751712930635 tw9153094591907714663 tw1037712307749640634 tw954308299271221272 tw7855423110540207136 tw2758065614094242778 tw11692458660295832500 tw16308108244242016414 tw3143578811912391186 tw18330460396918303309 tw9372270081817745158 tw12372294675712184608 tw939480701179909631 tw15787814585711781324 tw1174184010881604938 tw13938117700923653093 tw871126406670929688 tw12595908618797771420 tw2285693119081657828 tw18333789125506577749 tw15496204144900214330 tw9261614939838435792 tw10459003832157493349 tw13425230121574034952 tw14948850803209835438 tw9945456189173470358 tw17073594923214022874 tw10308590212888290179 tw6886852165880633082 tw2070585118259881006 tw18399522741198151363 tw1415024884191445344 tw3729270922324356164 tw15527490955100044550 tw3706030074213364676 tw4990089988093712085 tw1239359492473668628 tw11059818069269312817 tw9131393923359136736 tw1872607201305293874 tw8720581402811765243 tw3708480963998647604 tw16333502025843188193 tw657801496794686230 tw11952149604628380687 tw17082657175627529377 tw8014285627367334089 tw1927336160289486048 tw9429993190749812498 tw6600090179420114160 tw16613019753507433745 tw12005886575080713834 tw17243852422456558157 tw17114443973273792546 tw1218348937662025482 tw10071026369307093263 tw8497970619576349972 tw16629469692041390149 tw615050145077526473 tw5198737298423042773 tw10253425345940778604 tw3169528735998119331 tw9076140553875191689 tw15733119311275692862 tw18123903524416054159 tw11813352001419988545 tw13320076240612008379 tw6131559118184991083 tw5214817534168289906 tw15540076903443833914 tw11930305219735711544 tw15447062236128349170 tw10558068457308829066 tw487635106964628539 tw561446601537437402 tw16705572566153318211 tw8826036065443515021 tw17104709027628859432 tw17210575263276870754 tw14776572183613372960 tw863065586364301411 tw8890530603631424911 tw5524700204651961706 tw15104298623724786710 tw17463228781197130969 tw6745520645336248867 tw18439894292432659412 tw9056161876750088592 tw15210071730752533486 tw9994196754836598424 tw17047597065088254499 tw7259354633532939116 tw8551824211760037588 tw5247450560893082232 tw11462821067405200028 tw6535262616046618283 tw9726260085478629105 tw4437841665231478096 tw13811022349233899471 tw10522500648415969015 tw8776884073928388157 tw3991294730088176820 tw4939109534391419526 tw7689186473942996492 tw1662344729987985265 tw7491465335367569249 tw7348266054873899832 tw4811479546462241433 tw9310845211540875157 tw9012612406493008788 tw9139522437754433429 tw10107258682820822467 tw18015598157559056597 tw789688412496479877 tw11539809247636771406 tw15336773537811029787 tw15870410296260923232 tw17690126715055315530 tw16355577940628698121 tw11713753673427558588 tw784608892159603425 tw9136271666790173839 tw77945395268067265 tw17208159358650093121 tw5943188964945356833 tw12830264698592710101 tw14091629632967342318 tw4900154663963048893 tw12788586497327638455 tw1367415388880770983 tw6183076540414955557 tw18037743129818323446 tw1052742511883897327 tw16110876683556069897 tw3144984398902326245 tw15923639099557544038 tw8078874904013420885 tw13861061455241913643 tw11160635198321610600 tw12575970141632407760:True)
namespace My
open PySem L2 MM List Option
noncomputable abbrev sv(x:PV):Option MV:=some (.val x)
abbrev LL:=List (List Int)
noncomputable abbrev ci(x:Int):ME:=.cst (.int x)
noncomputable abbrev cs(x:Str):ME:=.cst (.str x)
noncomputable def bG:List MS:=[.extend 1 (.bor 2)]
noncomputable def hW:MD:=⟨"members_of",["rows"],["rows","members","row"],
  [.setOwn 1 (.lst []),
  .for1 2 .seq [.bor 0] bG,
  .retOwn 1]⟩
noncomputable def lD:MD:=⟨"each_once",["members"],["members"],
  [.ret (.cmp .eq (.blt .lenSet [.bor 0]) (.blt .len [.bor 0]))]⟩
noncomputable def d_:MD:=⟨"strip_without",["strip","hole"],["strip","hole"],
  [.ret (.blt .tupleOf [(.comp .seq [.bor 0] [1] (.cmp .ne (.bor 0) (.bor 1)) (.var 0))])]⟩
noncomputable def lb:MD:=⟨"knotted",["rest","hole"],["rest","hole"],
  [.ret (.blt .tupleOf [(.blt .sorted [(.comp .seq [.bor 0] [1] (.cst (.bl true)) (.call 2 [.bor 0,.bor 1]))])])]⟩
noncomputable def su:MD:=⟨"bitten",["rest","hole"],["rest","hole"],
  [.ret (.blt .tupleOf [(.comp .seq [.bor 0] [1] (.cmp .notIn (.bor 1) (.bor 0)) (.var 0))])]⟩
noncomputable def nH:MD:=⟨"holes_of",["rest"],["rest"],
  [.ret (.blt .sortedSet [(.call 0 [.bor 0])])]⟩
noncomputable def nI:MD:=⟨"is_whole",["rest"],["rest"],
  [.ret (.cmp .isIn (.tup []) (.bor 0))]⟩
noncomputable def lc:MD:=⟨"is_bare",["rest"],["rest"],
  [.ret (.cmp .eq (.blt .len [.bor 0]) (ci 0))]⟩
noncomputable def km:MD:=⟨"other_hand",["hand"],["hand"],
  [.ret (.ite (.cmp .eq (.bor 0) (cs "weaver")) (cs "moth") (cs "weaver"))]⟩
noncomputable def kn:MD:=⟨"behind",["rest","hand","reply"],["rest","hand","reply"],
  [.ite (.cmp .isN (.bor 2) (.cst .non))
   [.ret (.var 0)]
   [],
  .ret (.ite (.cmp .eq (.bor 1) (cs "weaver")) (.call 3 [.bor 0,.bor 2]) (.call 4 [.bor 0,.bor 2]))]⟩
noncomputable def jn:MD:=⟨"behind_both",["rest","hand","hole","reply"],["rest","hand","hole","reply"],
  [.ret (.call 9 [(.call 9 [.bor 0,(.call 8 [.bor 1]),.bor 2]),.bor 1,.bor 3])]⟩
noncomputable def lf:MD:=⟨"has_all",["strip","other"],["strip","other"],
  [.ret (.cmp .eq (.blt .lenSetSub [.bor 1,.bor 0]) (ci 0))]⟩
noncomputable def bt:List MS:=[.ite (.call 11 [.bor 0,.bor 3])
   [.ret (.var 2)]
   []]
noncomputable def dM:MD:=⟨"least_place",["strip","rest"],["strip","rest","place","other"],
  [.forT [2,3] .enm [.bor 1] bt,
  .ret (.cst .non)]⟩
noncomputable def lh:MD:=⟨"footing",["rest","other"],["rest","other"],
  [.ret (.comp .seq [.bor 0] [1] (.cst (.bl true)) (.call 12 [.bor 0,.bor 1]))]⟩
noncomputable def jI:MD:=⟨"is_below",["rest","other"],["rest","other"],
  [.ret (.cmp .notIn (.cst .non) (.call 13 [.bor 0,.bor 1]))]⟩
noncomputable def ko:MD:=⟨"has_a_pair",["strip","pairs"],["strip","pairs"],
  [.ret (.blt .any [(.comp .seq [.bor 1] [0] (.cst (.bl true)) (.call 11 [.bor 1,.bor 0]))])]⟩
noncomputable def ku:MD:=⟨"pairs_hold",["pairs","rest"],["pairs","rest"],
  [.ite (.not (.call 1 [(.call 0 [.bor 0])]))
   [.ret (.cst (.bl false))]
   [],
  .ret (.blt .all [(.comp .seq [.bor 1] [0] (.cst (.bl true)) (.call 15 [.bor 0,.bor 1]))])]⟩
noncomputable def nJ:MD:=⟨"together",["rests"],["rests"],
  [.ret (.blt .tupleOf [(.blt .sorted [(.call 0 [.bor 0])])])]⟩
noncomputable def lE:MD:=⟨"are_apart",["rests"],["rests"],
  [.ret (.call 1 [(.call 0 [(.comp .seq [.bor 0] [] (.cst (.bl true)) (.call 5 [.bor 0]))])])]⟩
noncomputable def iO:MD:=⟨"strip_weight",["strip"],["strip"],
  [.ret (.bin .shr (.glob "UNIT" (.int 1152921504606846976)) (.blt .len [.bor 0]))]⟩
noncomputable def sw:MD:=⟨"weight",["rest"],["rest"],
  [.ret (.blt .sum [(.comp .seq [.bor 0] [] (.cst (.bl true)) (.call 19 [.bor 0]))])]⟩
noncomputable def pA:List MS:=[.dput 1 (.bor 3) (.bin .add (.dget (.bor 1) (.bor 3) (ci 0)) (.call 19 [.bor 2]))]
noncomputable def pB:List MS:=[.for1 3 .seq [.bor 2] pA]
noncomputable def vS:MD:=⟨"pulls",["rest"],["rest","pull_of","strip","hole"],
  [.newD false 1,
  .for1 2 .seq [.bor 0] pB,
  .retOwn 1]⟩
noncomputable def cA:List MS:=[.ite (.or (.cmp .isN (.bor 2) (.cst .non)) (.cmp .gt (.dat (.bor 1) (.bor 3)) (.dat (.bor 1) (.bor 2))))
   [.set 2 (.var 3)]
   []]
noncomputable def nK:MD:=⟨"heaviest",["rest"],["rest","pull_of","best","hole"],
  [.set 1 (.call 21 [.bor 0]),
  .set 2 (.cst .non),
  .for1 3 .seq [(.blt .sortedKeys [.bor 1])] cA,
  .ret (.var 2)]⟩
noncomputable def ip:MD:=⟨"greatest_pull",["rest"],["rest"],
  [.ret (.blt .max1 [(.bin .add (.lst [(ci 0)]) (.blt .valuesOf [(.call 21 [.bor 0])]))])]⟩
noncomputable def iP:List MS:=[.extend 1 (.comp .seq [(.slice (.bor 0) (.bin .add (.bor 2) (ci 1)) (.cst .non))] [3] (.cst (.bl true)) (.tup [.var 1,.var 0]))]
noncomputable def pC:MD:=⟨"twos_of",["strip"],["strip","twos","place","low"],
  [.setOwn 1 (.lst []),
  .forT [2,3] .enm [.bor 0] iP,
  .retOwn 1]⟩
noncomputable def iq:List MS:=[.dput 1 (.bor 3) (.bin .add (.dget (.bor 1) (.bor 3) (ci 0)) (ci 1))]
noncomputable def ir:List MS:=[.for1 3 .seq [(.call 24 [.bor 2])] iq]
noncomputable def jo:MD:=⟨"most_shared",["rest"],["rest","count_of","strip","two"],
  [.newD true 1,
  .for1 2 .seq [.bor 0] ir,
  .ret (.blt .max1 [(.bin .add (.lst [(ci 0)]) (.blt .valuesOf [.bor 1]))])]⟩
noncomputable def cJ:MD:=⟨"moth_weighs",["rest","turn"],["rest","turn"],
  [.ite (.cmp .eq (.bor 1) (cs "moth"))
   [.ret (.cmp .lt (.call 20 [.bor 0]) (.glob "UNIT" (.int 1152921504606846976)))]
   [],
  .ret (.cmp .lt (.bin .add (.call 20 [.bor 0]) (.call 23 [.bor 0])) (.glob "UNIT" (.int 1152921504606846976)))]⟩
noncomputable def nL:MD:=⟨"is_heavy",["rest"],["rest"],
  [.ret (.cmp .gt (.bin .mul (ci 4) (.call 20 [.bor 0])) (.bin .mul (.bin .mul (.glob "UNIT" (.int 1152921504606846976)) (.call 25 [.bor 0])) (.bin .fdiv (.blt .len [(.call 5 [.bor 0])]) (ci 2))))]⟩
noncomputable def cO:MD:=⟨"weaver_weighs",["rest","turn"],["rest","turn"],
  [.ite (.cmp .eq (.bor 1) (cs "weaver"))
   [.ret (.call 27 [.bor 0])]
   [],
  .ite (.call 6 [.bor 0])
   [.ret (.cst (.bl true))]
   [],
  .ret (.and (.call 27 [.bor 0]) (.blt .all [(.comp .seq [(.call 5 [.bor 0])] [0] (.cst (.bl true)) (.call 27 [(.call 4 [.bor 1,.bor 0])]))]))]⟩
noncomputable def i9:MD:=⟨"first",["paper","rest","hand"],["paper","rest","hand","word","reply"],
  [.set 3 (.idx (.bor 0) (ci 0)),
  .ite (.cmp .eq (.bor 3) (cs "fewer"))
   [.ret (.call 29 [(.idx (.bor 0) (ci 2)),(.idx (.bor 0) (ci 1)),.bor 2])]
   [],
  .ite (.cmp .eq (.bor 3) (cs "weight"))
   [.set 4 (.call 22 [.bor 1]),
   .ret (.tup [.var 4,(.call 9 [.bor 1,.bor 2,.bor 4]),.var 0])]
   [],
  .ite (.or (.cmp .eq (.bor 3) (cs "bite")) (.cmp .eq (.bor 3) (cs "knot")))
   [.ret (.tup [(.idx (.bor 0) (ci 1)),(.call 9 [.bor 1,.bor 2,(.idx (.bor 0) (ci 1))]),(.idx (.bor 0) (ci 2))])]
   [],
  .ret (.tup [.cst .non,.var 1,.var 0])]⟩
noncomputable def uF:MD:=⟨"good",["paper","rest","turn","hand"],["paper","rest","turn","hand"],
  [.ite (.cmp .eq (.bor 3) (cs "moth"))
   [.ret (.call 31 [.bor 0,.bor 1,.bor 2])]
   [],
  .ret (.call 32 [.bor 0,.bor 1,.bor 2])]⟩
noncomputable def aN:MD:=⟨"good_for_moth",["paper","rest","turn"],["paper","rest","turn","word"],
  [.set 3 (.idx (.bor 0) (ci 0)),
  .ite (.cmp .eq (.bor 3) (cs "bare"))
   [.ret (.call 7 [.bor 1])]
   [],
  .ite (.cmp .eq (.bor 3) (cs "weight"))
   [.ret (.call 26 [.bor 1,.bor 2])]
   [],
  .ite (.cmp .eq (.bor 2) (cs "moth"))
   [.ret (.and (.cmp .eq (.bor 3) (cs "bite")) (.call 33 [.bor 0,.bor 1,(cs "moth")]))]
   [],
  .ite (.cmp .eq (.bor 3) (cs "pairs"))
   [.ret (.call 16 [(.idx (.bor 0) (ci 1)),.bor 1])]
   [],
  .ite (.cmp .eq (.bor 3) (cs "cases"))
   [.ret (.and (.not (.call 6 [.bor 1])) (.call 34 [(.idx (.bor 0) (ci 1)),.bor 1,(cs "moth")]))]
   [],
  .ite (.cmp .eq (.bor 3) (cs "parts"))
   [.ret (.and (.call 35 [(.idx (.bor 0) (ci 1)),.bor 1]) (.call 36 [(.idx (.bor 0) (ci 1))]))]
   [],
  .ret (.cst (.bl false))]⟩
noncomputable def aC:MD:=⟨"good_for_weaver",["paper","rest","turn"],["paper","rest","turn","word"],
  [.set 3 (.idx (.bor 0) (ci 0)),
  .ite (.cmp .eq (.bor 3) (cs "whole"))
   [.ret (.call 6 [.bor 1])]
   [],
  .ite (.cmp .eq (.bor 3) (cs "weight"))
   [.ret (.call 28 [.bor 1,.bor 2])]
   [],
  .ite (.cmp .eq (.bor 3) (cs "fewer"))
   [.ret (.and (.call 14 [(.idx (.bor 0) (ci 1)),.bor 1]) (.call 30 [(.idx (.bor 0) (ci 2)),(.idx (.bor 0) (ci 1)),.bor 2,(cs "weaver")]))]
   [],
  .ite (.cmp .eq (.bor 2) (cs "weaver"))
   [.ret (.and (.cmp .eq (.bor 3) (cs "knot")) (.call 33 [.bor 0,.bor 1,(cs "weaver")]))]
   [],
  .ite (.cmp .eq (.bor 3) (cs "cases"))
   [.ret (.and (.cmp .gt (.blt .len [(.call 5 [.bor 1])]) (ci 0)) (.call 34 [(.idx (.bor 0) (ci 1)),.bor 1,(cs "weaver")]))]
   [],
  .ite (.cmp .eq (.bor 3) (cs "either"))
   [.ret (.call 37 [.bor 0,.bor 1])]
   [],
  .ret (.cst (.bl false))]⟩
noncomputable def iQ:MD:=⟨"move_is_good",["paper","rest","hand"],["paper","rest","hand"],
  [.ret (.call 30 [(.idx (.bor 0) (ci 2)),(.call 9 [.bor 1,.bor 2,(.idx (.bor 0) (ci 1))]),(.call 8 [.bor 2]),.bor 2])]⟩
noncomputable def aM:List MS:=[.ite (.not (.call 30 [.bor 5,(.call 10 [.bor 1,.bor 2,.bor 3,.bor 4]),(.call 8 [.bor 2]),.bor 2]))
   [.ret (.cst (.bl false))]
   []]
noncomputable def gC:MD:=⟨"cases_are_good",["rows","rest","hand"],["rows","rest","hand","hole","reply","paper"],
  [.ite (.cmp .ne (.comp .seq [.bor 0] [] (.cst (.bl true)) (.idx (.bor 0) (ci 0))) (.call 5 [.bor 1]))
   [.ret (.cst (.bl false))]
   [],
  .forT [3,4,5] .seq [.bor 0] aM,
  .ret (.cst (.bl true))]⟩
noncomputable def fJ:MD:=⟨"parts_stand_for",["rows","rest"],["rows","rest","rests","strips"],
  [.set 2 (.comp .seq [.bor 0] [] (.cst (.bl true)) (.idx (.bor 0) (ci 0))),
  .set 3 (.call 17 [.bor 2]),
  .ite (.or (.cmp .gt (.blt .len [.bor 3]) (.blt .len [.bor 1])) (.not (.call 18 [.bor 2])))
   [.ret (.cst (.bl false))]
   [],
  .ret (.and (.call 11 [(.call 5 [.bor 1]),(.call 5 [.bor 3])]) (.call 14 [.bor 1,.bor 3]))]⟩
noncomputable def bH:List MS:=[.ite (.not (.call 30 [.bor 2,.bor 1,(cs "weaver"),(cs "moth")]))
   [.ret (.cst (.bl false))]
   []]
noncomputable def gE:MD:=⟨"parts_are_good",["rows"],["rows","rest","paper"],
  [.forT [1,2] .seq [.bor 0] bH,
  .ret (.cst (.bl true))]⟩
noncomputable def gH:MD:=⟨"either_is_good",["paper","rest"],["paper","rest","one","two"],
  [.set 2 (.idx (.bor 0) (ci 1)),
  .set 3 (.idx (.bor 0) (ci 3)),
  .ite (.or (.not (.call 18 [(.lst [.var 2,.var 3])])) (.or (.not (.call 14 [.bor 2,.bor 1])) (.not (.call 14 [.bor 3,.bor 1]))))
   [.ret (.cst (.bl false))]
   [],
  .ret (.and (.call 30 [(.idx (.bor 0) (ci 2)),.bor 2,(cs "weaver"),(cs "weaver")]) (.call 30 [(.idx (.bor 0) (ci 4)),.bor 3,(cs "weaver"),(cs "weaver")]))]⟩
noncomputable def jJ:MD:=⟨"_law_cell",["script","k"],["script","k"],
  [.ite (.cmp .lt (.bor 1) (.blt .len [.bor 0]))
   [.ret (.idx (.bor 0) (.bor 1))]
   [],
  .ret (ci 0)]⟩
noncomputable def iR:MD:=⟨"_law_mixed",["cell","by"],["cell","by"],
  [.ret (.bin .mod (.bin .mul (.bin .mod (.bor 0) (ci 2305843009213693951)) (.bor 1)) (ci 2305843009213693951))]⟩
noncomputable def fT:MD:=⟨"_law_knotted",["rest","hole"],["rest","hole"],
  [.ret (.blt .tupleOf [(.blt .sorted [(.comp .seq [.bor 0] [1] (.cst (.bl true)) (.blt .tupleOf [(.comp .seq [.bor 0] [1] (.cmp .ne (.bor 0) (.bor 1)) (.var 0))]))])])]⟩
noncomputable def hZ:MD:=⟨"_law_bitten",["rest","hole"],["rest","hole"],
  [.ret (.blt .tupleOf [(.comp .seq [.bor 0] [1] (.cmp .notIn (.bor 1) (.bor 0)) (.var 0))])]⟩
noncomputable def cK:List MS:=[.ite (.cmp .notIn (.bor 3) (.bor 1))
   [.append 1 (.var 3)]
   []]
noncomputable def dN:List MS:=[.for1 3 .seq [.bor 2] cK]
noncomputable def iS:MD:=⟨"_law_holes",["rest"],["rest","found","strip","hole"],
  [.setOwn 1 (.lst []),
  .for1 2 .seq [.bor 0] dN,
  .ret (.blt .sorted [.bor 1])]⟩
noncomputable def dl:List MS:=[.ite (.cmp .notIn (.bor 2) (.bor 1))
   [.ret (.cst (.bl false))]
   []]
noncomputable def eM:MD:=⟨"_law_within",["some","others"],["some","others","hole"],
  [.for1 2 .seq [.bor 0] dl,
  .ret (.cst (.bl true))]⟩
noncomputable def ff:List MS:=[.ite (.not (.blt .any [(.comp .seq [.bor 1] [3] (.cst (.bl true)) (.call 43 [.bor 0,.bor 1]))]))
   [.set 4 (.comp .seq [.bor 3] [2] (.cmp .notIn (.bor 0) (.bor 1)) (.var 0)),
   .ite (.cmp .gt (.blt .len [.bor 4]) (ci 1))
    [.append 1 (.tup [(.idx (.bor 4) (ci 0)),(.idx (.bor 4) (ci 1))]),
    .set 2 (.bin .add (.bor 2) (.slice (.bor 4) (.cst .non) (ci 2)))]
    []]
   []]
noncomputable def h_:MD:=⟨"_law_greedy",["rest"],["rest","pairs","used","strip","fresh"],
  [.setOwn 1 (.lst []),
  .set 2 (.lst []),
  .for1 3 .seq [.bor 0] ff,
  .ret (.blt .tupleOf [.bor 1])]⟩
noncomputable def dZ:List MS:=[.set 4 (.blt .sum [(.comp .seq [.bor 0] [3] (.cmp .isIn (.bor 1) (.bor 0)) (.bin .shr (.bin .pow (ci 2) (ci 60)) (.blt .len [.bor 0])))]),
  .ite (.cmp .gt (.bor 4) (.bor 2))
   [.set 2 (.var 4),
   .set 1 (.var 3)]
   []]
noncomputable def pD:MD:=⟨"_law_top",["rest"],["rest","best","most","hole","pulled"],
  [.set 1 (.cst .non),
  .set 2 (ci 0),
  .for1 3 .seq [(.call 42 [.bor 0])] dZ,
  .ret (.var 1)]⟩
noncomputable def cM:List MS:=[.ite (.cmp .eq (.bor 1) (cs "weaver"))
   [.set 4 (.call 46 [(.call 40 [.bor 0,.bor 3]),(cs "moth")])]
   [.set 4 (.call 46 [(.call 41 [.bor 0,.bor 3]),(cs "weaver")])],
  .ite (.cmp .eq (.idx (.bor 4) (ci 0)) (.bor 1))
   [.ret (.tup [.var 1,(.tup [(.disp [("weaver","knot"),("moth","bite")] (.bor 1)),.var 3,(.idx (.bor 4) (ci 1))])])]
   [],
  .append 2 (.tup [.var 3,(.idx (.idx (.bor 4) (ci 1)) (ci 1)),(.idx (.idx (.bor 4) (ci 1)) (ci 2))])]
noncomputable def d4:MD:=⟨"_law_tried",["rest","turn"],["rest","turn","rows","hole","found"],
  [.ite (.cmp .isIn (.tup []) (.bor 0))
   [.ret (.tup [(cs "weaver"),(.tup [(cs "whole")])])]
   [],
  .ite (.cmp .eq (.blt .len [.bor 0]) (ci 0))
   [.ret (.tup [(cs "moth"),(.tup [(cs "bare")])])]
   [],
  .setOwn 2 (.lst []),
  .for1 3 .seq [(.call 42 [.bor 0])] cM,
  .ret (.tup [(.disp [("weaver","moth"),("moth","weaver")] (.bor 1)),(.tup [(cs "cases"),(.blt .tupleOf [.bor 2])])])]⟩
noncomputable def bx:List MS:=[.set 10 (.bin .add (.bin .add (.bor 1) (.idx (.lst [(ci 0),(ci 4),(ci 8),(ci 0)]) (.bor 5))) (.bin .mod (.bor 4) (.bor 7))),
  .ite (.cmp .notIn (.bor 10) (.bor 8))
   [.append 8 (.var 10)]
   [],
  .set 4 (.bin .fdiv (.bor 4) (.bor 7))]
noncomputable def fK:MD:=⟨"_law_block_strip",["cell","base","blocks","least"],["cell","base","blocks","least","left","block","size","many","strip","k","hole"],
  [.set 4 (.call 39 [.bor 0,(ci 1181783497276652981)]),
  .set 5 (.bin .mod (.bor 4) (.bor 2)),
  .set 4 (.bin .fdiv (.bor 4) (.bor 2)),
  .set 6 (.bin .add (.bor 3) (.bin .mod (.bor 4) (ci 3))),
  .set 4 (.bin .fdiv (.bor 4) (ci 3)),
  .set 7 (.idx (.lst [(ci 4),(ci 4),(ci 4),(ci 12)]) (.bor 5)),
  .setOwn 8 (.lst []),
  .for1 9 .rng [.bor 6] bx,
  .ret (.blt .tupleOf [(.blt .sorted [.bor 8])])]⟩
noncomputable def ib:MD:=⟨"_law_next",["tape"],["tape"],
  [.ite (.cmp .gt (.lenP 0) (ci 0))
   [.retXE (.fn 39 (.pop 0) [(ci 2049848353892358983)])]
   [],
  .retM (ci 0)]⟩
noncomputable def nM:MD:=⟨"_law_deed",["rest","hand","reply"],["rest","hand","reply"],
  [.ite (.cmp .isN (.bor 2) (.cst .non))
   [.ret (.var 0)]
   [],
  .ite (.cmp .eq (.bor 1) (cs "moth"))
   [.ret (.call 41 [.bor 0,.bor 2])]
   [],
  .ret (.call 40 [.bor 0,.bor 2])]⟩
noncomputable def d5:MD:=⟨"_law_reply",["rest","pick"],["rest","pick"],
  [.ite (.cmp .eq (.bin .mod (.bor 1) (ci 8)) (ci 0))
   [.ret (.cst .non)]
   [],
  .ite (.cmp .eq (.bin .mod (.bor 1) (ci 8)) (ci 1))
   [.ret (.bin .mod (.bin .fdiv (.bor 1) (ci 8)) (ci 60))]
   [],
  .ret (.call 45 [.bor 0])]⟩
noncomputable def dO:List MS:=[.ite (.blt .any [(.comp .seq [.bor 5] [2] (.cst (.bl true)) (.blt .any [(.comp .seq [.bor 0] [1] (.cst (.bl true)) (.cmp .isIn (.bor 0) (.bor 1)))]))])
   [.set 3 (.bin .add (.bor 3) (.bor 5))]
   [.append 4 (.var 5)]]
noncomputable def dP:List MS:=[.set 3 (.lst []),
  .setOwn 4 (.lst []),
  .for1 5 .seq [.bor 1] dO,
  .set 1 (.bin .add (.bor 4) (.lst [(.bin .add (.bor 3) (.lst [.var 2]))]))]
noncomputable def lF:MD:=⟨"_law_split",["rest"],["rest","parts","strip","near","far","part"],
  [.set 1 (.lst []),
  .for1 2 .seq [.bor 0] dP,
  .ret (.comp .seq [.bor 1] [] (.cst (.bl true)) (.blt .tupleOf [(.blt .sorted [.bor 0])]))]⟩
noncomputable def lG:MD:=⟨"_law_plain",["rest","turn","hand","pick"],["rest","turn","hand","pick"],
  [.ite (.cmp .eq (.bor 2) (cs "weaver"))
   [.ret (.idx (.lst [(.tup [(cs "weight")]),(.tup [(cs "whole")])]) (.blt .intOf [(.cmp .isIn (.tup []) (.bor 0))]))]
   [],
  .ite (.cmp .eq (.blt .len [.bor 0]) (ci 0))
   [.ret (.tup [(cs "bare")])]
   [],
  .ite (.and (.cmp .eq (.bor 1) (cs "weaver")) (.cmp .eq (.bin .mod (.bor 3) (ci 2)) (ci 0)))
   [.ret (.tup [(cs "pairs"),(.call 44 [.bor 0])])]
   [],
  .ret (.tup [(cs "weight")])]⟩
noncomputable def fU:List MS:=[.set 6 (.call 49 [.bor 1,.bor 4,.bor 5]),
  .setX 7 (.fn2 50 (.var 6) (.call 48 [true] [.bor 0])),
  .appX 3 (.tup [(.pure (.var 5)),(.pure (.var 7)),(.call 56 [true,false,false,false,false] [.bor 0,(.call 49 [.bor 6,.bor 2,.bor 7]),.bor 4,.bor 2,(ci 0)])])]
noncomputable def iT:MD:=⟨"_law_cases",["tape","rest","hand"],["tape","rest","hand","rows","other","hole","behind_v","reply"],
  [.setOwn 3 (.lst []),
  .set 4 (.disp [("weaver","moth"),("moth","weaver")] (.bor 2)),
  .for1 5 .seq [(.call 42 [.bor 1])] fU,
  .retM (.tup [(cs "cases"),(.blt .tupleOf [.bor 3])])]⟩
noncomputable def fV:MD:=⟨"_law_of_moth",["tape","rest","turn","pick","deep"],["tape","rest","turn","pick","deep","reply","parts"],
  [.ite (.cmp .eq (.bor 2) (cs "moth"))
   [.set 5 (.call 50 [.bor 1,.bor 3]),
   .retXE (.tup [(.pure (cs "bite")),(.pure (.var 5)),(.call 56 [true,false,false,false,false] [.bor 0,(.call 49 [.bor 1,(cs "moth"),.bor 5]),(cs "weaver"),(cs "moth"),.bor 4])])]
   [],
  .ite (.and (.cmp .eq (.bin .mod (.bor 3) (ci 2)) (ci 0)) (.cmp .lt (.blt .len [(.call 42 [.bor 1])]) (ci 5)))
   [.retXE (.call 53 [true,false,false] [.bor 0,.bor 1,(cs "moth")])]
   [],
  .set 6 (.call 51 [.bor 1]),
  .retXE (.tup [(.pure (cs "parts")),(.tupOf (.compS (.var 6) [0,4] .pair (.var 0) 56 [true,false,false,false,false] [.bor 1,.bor 0,(cs "weaver"),(cs "moth"),.bor 2]))])]⟩
noncomputable def eA:MD:=⟨"_law_of_weaver",["tape","rest","turn","pick","deep"],["tape","rest","turn","pick","deep","some","reply","parts","one","two","left"],
  [.ite (.cmp .eq (.bin .mod (.bor 3) (ci 3)) (ci 0))
   [.set 5 (.blt .tupleOf [(.comp .rng [(.blt .len [.bor 1])] [1,3] (.cmp .gt (.bin .mod (.bin .shr (.bor 2) (.bin .add (.bor 0) (ci 8))) (ci 4)) (ci 0)) (.idx (.bor 1) (.bor 0)))]),
   .retXE (.tup [(.pure (cs "fewer")),(.pure (.var 5)),(.call 56 [true,false,false,false,false] [.bor 0,.bor 5,.bor 2,(cs "weaver"),.bor 4])])]
   [],
  .ite (.cmp .eq (.bor 2) (cs "weaver"))
   [.set 6 (.call 50 [.bor 1,(.bin .fdiv (.bor 3) (ci 3))]),
   .retXE (.tup [(.pure (cs "knot")),(.pure (.var 6)),(.call 56 [true,false,false,false,false] [.bor 0,(.call 49 [.bor 1,(cs "weaver"),.bor 6]),(cs "moth"),(cs "weaver"),.bor 4])])]
   [],
  .ite (.and (.cmp .eq (.bin .mod (.bor 3) (ci 3)) (ci 1)) (.cmp .lt (.blt .len [(.call 42 [.bor 1])]) (ci 5)))
   [.retXE (.call 53 [true,false,false] [.bor 0,.bor 1,(cs "weaver")])]
   [],
  .set 7 (.call 51 [.bor 1]),
  .ite (.cmp .lt (.blt .len [.bor 7]) (ci 2))
   [.retM (.tup [(cs "weight")])]
   [],
  .set 8 (.idx (.bor 7) (.bin .mod (.bin .fdiv (.bor 3) (ci 3)) (.blt .len [.bor 7]))),
  .set 9 (.idx (.bor 7) (.bin .mod (.bin .add (.bin .fdiv (.bor 3) (ci 3)) (ci 1)) (.blt .len [.bor 7]))),
  .setX 10 (.call 56 [true,false,false,false,false] [.bor 0,.bor 8,(cs "weaver"),(cs "weaver"),.bor 4]),
  .retXE (.tup [(.pure (cs "either")),(.pure (.var 8)),(.pure (.var 10)),(.pure (.var 9)),(.call 56 [true,false,false,false,false] [.bor 0,.bor 9,(cs "weaver"),(cs "weaver"),.bor 4])])]⟩
noncomputable def fL:MD:=⟨"_law_paper",["tape","rest","turn","hand","deep"],["tape","rest","turn","hand","deep","pick","found"],
  [.setX 5 (.call 48 [true] [.bor 0]),
  .ite (.and (.cmp .eq (.bin .mod (.bor 5) (ci 2)) (ci 0)) (.cmp .lt (.blt .len [(.call 42 [.bor 1])]) (ci 5)))
   [.set 6 (.call 46 [.bor 1,.bor 2]),
   .ite (.cmp .eq (.idx (.bor 6) (ci 0)) (.bor 3))
    [.retM (.idx (.bor 6) (ci 1))]
    []]
   [],
  .ite (.or (.cmp .eq (.bor 4) (ci 0)) (.cmp .eq (.bin .mod (.bin .fdiv (.bor 5) (ci 2)) (ci 8)) (ci 0)))
   [.retM (.call 52 [.bor 1,.bor 2,.bor 3,(.bin .fdiv (.bor 5) (ci 16))])]
   [],
  .ite (.cmp .eq (.bor 3) (cs "moth"))
   [.retXE (.call 54 [true,false,false,false,false] [.bor 0,.bor 1,.bor 2,(.bin .fdiv (.bor 5) (ci 16)),(.bin .sub (.bor 4) (ci 1))])]
   [],
  .retXE (.call 55 [true,false,false,false,false] [.bor 0,.bor 1,.bor 2,(.bin .fdiv (.bor 5) (ci 16)),(.bin .sub (.bor 4) (ci 1))])]⟩
noncomputable def dq:List MS:=[.ite (.cmp .lt (.blt .len [(.call 42 [.bor 13])]) (ci 5))
   [.set 14 (.call 46 [.bor 13,.bor 1]),
   .ite (.and (.cmp .eq (.idx (.bor 14) (ci 0)) (.bor 2)) (.cmp .eq (.bor 2) (cs "weaver")))
    [.append 10 (.tup [.var 8,(.tup [(cs "fewer"),.var 13,(.idx (.bor 14) (ci 1))])])]
    [],
   .ite (.cmp .eq (.idx (.bor 14) (ci 0)) (.bor 2))
    [.append 10 (.tup [.var 13,(.idx (.bor 14) (ci 1))])]
    [],
   .ite (.cmp .eq (.idx (.call 46 [.bor 13,(cs "weaver")]) (ci 0)) (cs "moth"))
    [.append 11 (.tup [.var 13,(.idx (.call 46 [.bor 13,(cs "weaver")]) (ci 1))]),
    .set 12 (.bin .add (.bor 12) (.blt .listOf [.bor 13]))]
    []]
   []]
noncomputable def du:MD:=⟨"_law_stands",["script","turn","hand"],["script","turn","hand","way","by","room","cells","strips","rest","tape","found","rows","held","part","known","parts","longer"],
  [.set 3 (.call 39 [(.call 38 [.bor 0,(ci 0)]),(ci 1865811235122147685)]),
  .set 4 (.call 39 [(.call 38 [.bor 0,(ci 1)]),(ci 1442695040888963407)]),
  .set 5 (.idx (.lst [(ci 3),(ci 8)]) (.bin .mod (.bor 3) (ci 2))),
  .set 6 (.slice (.bor 0) (ci 2) (.bin .add (ci 2) (.bor 5))),
  .set 7 (.comp .seq [.bor 6] [4] (.cst (.bl true)) (.call 47 [.bor 0,(.bin .mod (.bor 1) (ci 49)),(.bin .add (ci 3) (.bin .mod (.bin .fdiv (.bor 1) (ci 49)) (ci 2))),(.bin .mod (.bin .fdiv (.bor 1) (ci 98)) (ci 3))])),
  .set 8 (.blt .tupleOf [(.blt .sorted [.bor 7])]),
  .setP 9 (.slice (.bor 0) (.bin .add (ci 2) (.bor 5)) (.cst .non)),
  .ownX 10 [(.tup [(.pure (.var 8)),(.call 56 [true,false,false,false,false] [.bor 9,.bor 8,.bor 1,.bor 2,(ci 3)])])],
  .setOwn 11 (.lst []),
  .set 12 (.lst []),
  .for1 13 .seq [(.call 51 [.bor 8])] dq,
  .set 15 (.tup [(cs "parts"),(.blt .tupleOf [.bor 11])]),
  .ite (.and (.cmp .eq (.bor 2) (cs "moth")) (.cmp .eq (.bor 1) (cs "moth")))
   [.set 15 (.tup [(cs "bite"),.cst .non,.var 15])]
   [],
  .ite (.cmp .eq (.bor 2) (cs "moth"))
   [.append 10 (.tup [(.blt .tupleOf [(.blt .sorted [.bor 12])]),.var 15])]
   [],
  .ite (.and (.cmp .eq (.bor 2) (cs "moth")) (.cmp .gt (.blt .len [.bor 12]) (ci 0)))
   [.set 16 (.blt .tupleOf [(.blt .sortedSet [(.bin .add (.blt .listOf [(.idx (.bor 12) (ci 0))]) (.lst [(.bin .mod (.bor 4) (ci 60))]))])]),
   .append 10 (.tup [(.blt .tupleOf [(.blt .sorted [(.bin .add (.bor 12) (.lst [.var 16]))])]),.var 15])]
   [],
  .retOwn 10]⟩
noncomputable def dQ:List MS:=[.ite (.not (.blt .any [(.comp .seq [.bor 1] [2] (.cst (.bl true)) (.call 43 [.bor 0,.bor 1]))]))
   [.ret (.cst (.bl false))]
   []]
noncomputable def lH:MD:=⟨"_law_below",["rest","other"],["rest","other","strip"],
  [.for1 2 .seq [.bor 0] dQ,
  .ret (.cst (.bl true))]⟩
noncomputable def da:MD:=⟨"_law_first",["paper","rest","hand"],["paper","rest","hand","reply"],
  [.ite (.or (.cmp .eq (.idx (.bor 0) (ci 0)) (cs "bite")) (.cmp .eq (.idx (.bor 0) (ci 0)) (cs "knot")))
   [.ret (.tup [(.idx (.bor 0) (ci 1)),(.call 49 [.bor 1,.bor 2,(.idx (.bor 0) (ci 1))]),(.idx (.bor 0) (ci 2))])]
   [],
  .ite (.cmp .eq (.idx (.bor 0) (ci 0)) (cs "weight"))
   [.set 3 (.call 45 [.bor 1]),
   .ret (.tup [.var 3,(.call 49 [.bor 1,.bor 2,.bor 3]),.var 0])]
   [],
  .ite (.cmp .eq (.idx (.bor 0) (ci 0)) (cs "fewer"))
   [.ret (.call 59 [(.idx (.bor 0) (ci 2)),(.idx (.bor 0) (ci 1)),.bor 2])]
   [],
  .ret (.tup [.cst .non,.var 1,.var 0])]⟩
noncomputable def qD:List MS:=[.ite (.call 30 [(.idx (.bor 3) (ci 1)),(.idx (.bor 3) (ci 0)),.bor 1,.bor 1])
   [.set 4 (.call 29 [(.idx (.bor 3) (ci 1)),(.idx (.bor 3) (ci 0)),.bor 1]),
   .ite (.or (.not (.blt .isTuple [.bor 4])) (.cmp .ne (.bor 4) (.call 59 [(.idx (.bor 3) (ci 1)),(.idx (.bor 3) (ci 0)),.bor 1])))
    [.ret (.cst (.bl false))]
    [],
   .ite (.or (.blt .isBool [(.idx (.bor 4) (ci 0))]) (.not (.call 30 [(.idx (.bor 4) (ci 2)),(.idx (.bor 4) (ci 1)),.bor 2,.bor 1])))
    [.ret (.cst (.bl false))]
    [],
   .set 5 (.call 49 [(.idx (.bor 3) (ci 0)),.bor 1,(.idx (.bor 4) (ci 0))]),
   .ite (.and (.cmp .eq (.bor 1) (cs "moth")) (.not (.call 58 [.bor 5,(.idx (.bor 4) (ci 1))])))
    [.ret (.cst (.bl false))]
    [],
   .ite (.and (.cmp .eq (.bor 1) (cs "weaver")) (.not (.call 58 [(.idx (.bor 4) (ci 1)),.bor 5])))
    [.ret (.cst (.bl false))]
    []]
   []]
noncomputable def vT:MD:=⟨"law",["script"],["script","hand","other","stand","found","behind_v"],
  [.set 1 (.idx (.lst [(cs "moth"),(cs "weaver")]) (.bin .mod (.call 39 [(.call 38 [.bor 0,(ci 0)]),(ci 2049848353892358983)]) (ci 2))),
  .set 2 (.disp [("weaver","moth"),("moth","weaver")] (.bor 1)),
  .for1 3 .seq [(.call 57 [.bor 0,.bor 1,.bor 1])] qD,
  .ret (.cst (.bl true))]⟩
noncomputable def defs:List MD:=[hW,lD,d_,lb,su,nH,nI,lc,km,kn,jn,lf,dM,lh,jI,ko,ku,nJ,lE,iO,sw,vS,nK,ip,pC,jo,cJ,nL,cO,i9,uF,aN,aC,iQ,gC,fJ,gE,gH,jJ,iR,fT,hZ,iS,eM,h_,pD,d4,fK,ib,nM,d5,lF,lG,iT,fV,eA,fL,du,lH,da,vT]
noncomputable def tab:Tab:=⟨defs.map (·.name),[("UNIT",(.int 1152921504606846976))],[[],[],[],[],[],[],[],[],[],[],[],[],[],[],[],[],[],[],[],[],[],[],[],[],[],[],[],[],[],[],[],[],[],[],[],[],[],[],[],[],[],[],[],[],[],[],[],[],[],[],[],[],[],[],[],[],[],[],[],[],[]]⟩
noncomputable def cellOf(ns:List Int)(k:Int):Int:=ns.getD k.toNat 0
def Fx(n:Nat)(m:MV)(ns:List Int)(k:Int)(z:bv (some m)=some (ofL ns))(J:0<=k):aa defs (n+1) 38 [m,.val (.int k)]=some (.int (cellOf ns k)):=by
 rw[ab (d:=jJ) rfl rfl];unfold cellOf;simp[jJ,exs,ex,ev,evs,evB,z];by_cases h:k<(ns.length:Int)
 .have h2:k.toNat<ns.length:=by omega
  simp[h,iM J h,h2]
 .have h2:ns.length<=k.toNat:=by omega
  simp[h,h2]
noncomputable def iu(c b:Int):Int:=c % 2305843009213693951*b % 2305843009213693951
def ic(c b):0<=iu c b:=Kr _ (by decide)
def qE(n:Nat)(c b:Int):aa defs (n+1) 39 [.val (.int c),.val (.int b)]=some (.int (iu c b)):=by
 rw[ab (d:=iR) rfl rfl];have h1:0<=c % 2305843009213693951:=Kr _ (by decide);have h2:c % 2305843009213693951<2305843009213693951:=Ko _ (by decide);have z:(-18446744073709551616<c % 2305843009213693951/\c % 2305843009213693951<18446744073709551616\/-18446744073709551616<b/\b<18446744073709551616):=.inl ⟨by omega,by omega⟩;simp[iR,exs,ex,ev,evs,z,iu]
theorem jK{α:Type}{g:α->PV}{body:PV->Rho->R}{I:Rho->Prop}{p:α->Bool}{r:α->PV}:∀{xs:List α}{W},I W ->
  (∀x∈xs,∀W,I W->(p x=true->body (g x) W=.ret (r x))/\(p x=false->∃l,I l/\body (g x) W=.next l)) ->
  (∀x,xs.find? p=some x->aw body (xs.map g) W=.ret (r x))/\(xs.find? p=none->∃l,I l/\aw body (xs.map g) W=.next l)
 | [],W,J,_=>⟨λx h=>(by cases h),λ_=>⟨W,J,rfl⟩⟩
 |x::xs,W,J,h=>by
  obtain⟨h1,h2⟩:=h x (.head _) W J;rw[Jq,aw];cases z:p x with
  |true =>
   rw[h1 z,LG z];exact⟨λy e=>(by cases e;rfl),λe=>(by cases e)⟩
  |false =>
   obtain⟨l,U,e⟩:=h2 z;rw[e,KJ (by simp[z])];exact jK (xs:=xs) U λy Y=>h y (.tail _ Y)
def cQ(h:(evs cal src W).bind (bf k)=some xs):ex cal (.for1 i k src body) W=(aw (λx l=>exs cal body (put l i (.val x))) xs (bo src W)).back src W:=by
 rw[ex,h]
def qF(h:(evs cal src W).bind (bf k)=some xs):ex cal (.forT is k src body) W=(aw (λx l=>cf (cH is x l) λz=>exs cal body z) xs (bo src W)).back src W:=by
 rw[ex,h]
def al(cal)(m)(ms)(W):exs cal (m::ms) W=(ex cal m W).andThen λl=>exs cal ms l:=rfl
def aH(h:ev cal e W=some v):ev cal (.blt b [e]) W=aA b [v]:=by
 rw[ev,evs,h,bind_some,evs,map_some,bind_some]
def ie(h:ev cal e W=some v):ex cal (.set i e) W=.next (put W i (.val v)):=by
 rw[ex,h];rfl
def dv(h:ev cal a W=some (.bl p))(h':p=true->ev cal b W=some (.bl q)):ev cal (.and a b) W=some (.bl (p&&q)):=by
 rw[ev,h];cases p<;>first|rfl|simp[h' rfl]
def cW(h:ev cal e W=some v):ex cal (.ret e) W=.ret v:=by
 rw[ex,h];rfl
def ae(h:evA cal es W=some vs)(h':cal f vs=some v):ev cal (.call f es) W=some v:=by
 rw[ev,h,bind_some,h']
def dD(h:ev cal e W=some (.lst xs)):ex cal (.setOwn i e) W=.next (put W i (.own xs)):=by
 rw[ex,h];rfl
def cq{α:Type}{xs:List α}{g h:α->PV}(h1:evs cal src W=some vs)(h2:bf k vs=some (xs.map g))(z:xs.length<=10000)
  (J:∀x∈xs,ev cal elt (b7 js W (g x))=some (h x)):ev cal (.comp k src js (.cst (.bl true)) elt) W=some (.lst (xs.map h)):=by
 rw[ev,h1,bind_some,h2,bind_some,if_pos (by simpa using z),g_ (h:=h) (λx _=>by simp[ev]) J]
 rfl
def fg(cal)(v)(W):ev cal (.cst v) W=some v:=rfl
def cF(h:ev cal a W=some x)(h':ev cal b W=some y):ev cal (.bin op a b) W=eX op x y:=by
 rw[ev,h,bind_some,h',bind_some]
def dE(h:ev cal a W=some x)(h':ev cal b W=some y):ev cal (.cmp op a b) W=(cj op x y).map .bl:=by
 rw[ev,h,bind_some,h',bind_some]
def gI(h:ev cal a W=some (.int x))(z:0<k):ev cal (.cmp .eq (.bin .mod a (ci k)) (ci j)) W=some (.bl (x % k==j)):=by
 rw[dE (cF h (fg _ _ _) |>.trans (by rw[vO,if_pos z])) (fg _ _ _),Fs,kj]
 rfl
def qG(h:ev cal a W=some (.bl b)):evB cal a W=some b:=by simp_all [evB]
def qH(z:∀i,e≠.bor i)(h:ev cal e W=some v):evA cal [e] W=some [.val v]:=by simp_all [evA]
def sx(z:∀i,e≠.bor i)(h:ev cal e W=some v)(h':cal f [.val v]=some r):ev cal (.call f [e]) W=some r:=ae (qH z h) h'
def fW(h:ev cal a W=some x)(h':ev cal i W=some y):ev cal (.idx a i) W=fC x y:=by
 rw[ev,h,bind_some,h',bind_some]
def uG(h:body x W=.next z):aw body (x::xs) W=aw body xs z:=by rw[aw,h]
noncomputable def sub(a b:List Int):Bool:=a.all λx=>decide (x∈b)
def dR :sub a b=true ↔ ∀x∈a,x∈b:=by simp[sub]
def lj(n)(m U)(a b)(J:(bv (some m)).bind a_=some (a.map .int))(z:(bv (some U)).bind a_=some (b.map .int))(Z:a.length<=1000)(hb:b.length<=1000)(hd:(dd b).length<=60):aa defs (n+1) 11 [m,U]=some (.bl (sub b a)):=by
 rw[ab (d:=lf) rfl rfl];have h:((((dd b).filter λx=>!decide (x∈a)).length:Int)==0)=sub b a:=by
  rw[J3,Ju,dR];constructor
  .intro h x hx;have h2:(dd b).filter (λx=>!decide (x∈a))=[]:=LA (by omega);have:=Mg.mp h2 x (iN.mpr hx);simpa using this
  .intro h;have h2:(dd b).filter (λx=>!decide (x∈a))=[]:=Mg.mpr λx hx=>by simpa using h x (iN.mp hx)
   rw[h2];rfl
 cases h1:bv (some m)with
 |none=>rw[h1]at J;cases J
 |some v =>
  cases h2:bv (some U)with
  |none=>rw[h2]at z;cases z
  |some Y =>
   rw[h1]at J;rw[h2]at z;have J:a_ v=some (a.map .int):=J;have z:a_ Y=some (b.map .int):=z;have e:aA .lenSetSub [Y,v]=some (.int ((dd b).filter λx=>!decide (x∈a)).length):=by
    show((a_ Y).bind λxs=>(bg xs).bind λns=>(a_ v).bind λys=>(bg ys).bind λms=>if ns.length<=1000/\ms.length<=1000/\(dd ns).length<=60 then some (PV.int ((dd ns).filter λn=>!decide (n∈ms)).length)else none)=_;rw[z,J];simp[br,Z,hb,hd]
   simp[lf,exs,ex,ev,evs,h1,h2,e,h]
theorem kw(cal)(a):∀(R:LL) g (z:∀t,a_ (g t)=some (t.map .int)) acc s,acc.length+R.flatten.length<=10000 ->
  ∃s',aw (λx l=>exs cal bG (put l 2 (.val x))) (R.map g) [some a,some (.own (acc.map .int)),s]=.next [some a,some (.own ((acc++R.flatten).map .int)),s']
 | [],g,z,acc,s,_=>⟨s,by simp⟩
 |t::R,g,z,acc,s,h=>by
  rw[Jq,aw];rw[flatten_cons,wh]at h;have h2:acc.length+t.length<=10000:=by omega
  have e:exs cal bG (put [some a,some (.own (acc.map .int)),s] 2 (.val (g t)))=.next [some a,some (.own ((acc++t).map .int)),sv (g t)]:=by
   simp[bG,exs,ex,ev,z,h2]
  rw[e];obtain⟨s',J⟩:=kw cal a R g z (acc++t) (sv _) (by rw[wh];omega);exact⟨s',by rw[flatten_cons,<- J9];exact J⟩
def lm(n)(m)(ho:∀xs,m≠.own xs)(R:LL)(g)(U:∀t,a_ (g t)=some (t.map .int))(z:(bv (some m)).bind a_=some (R.map g))(Y:R.flatten.length<=10000):aa defs (n+1) 0 [m]=some (ofL R.flatten):=by
 rw[ab rfl rfl];obtain⟨s',e⟩:=kw (aa defs n) m R g U [] none (by simpa using Y);simp only[map_nil]at e;cases J:bv _ with
 |none=>rw[J]at z;cases z
 |some v =>
  rw[J]at z;have z:a_ v=some _:=z;cases m<;>first|exact absurd rfl (ho _)|simp[hW,exs,ex,ev,evs,bo,J,z,e,aJ,-map_flatten]
theorem gJ:∀l,(dd l).length<=l.length
 | []=>pd _
 |x::r=>by
  have:=gJ r;rw[dd]
  grind
theorem kz:∀l,(dd l).length=l.length ↔ l.Nodup
 | []=>by simp[dd]
 |x::r=>by
  have h:=gJ r;have ih:=kz r;rw[dd,JV,<- ih];by_cases q:x∈dd r
  .rw[if_pos q,length_cons];exact⟨λz=>by omega,λz=>absurd (iN.mp q) z.1⟩
  .rw[if_neg q,length_cons,length_cons];exact⟨λz=>⟨λw=>q (iN.mpr w),by omega⟩,λz=>by omega⟩
def z_(n)(l)(z:l.length<=1000):aa defs (n+1) 1 [.val (ofL l)]=some (.bl (decide l.Nodup)):=by
 rw[ab rfl rfl];have e:aA .lenSet [ofL l]=some (.int (dd l).length):=by
  show((a_ (ofL l)).bind λxs=>(bg xs).bind λns=>if ns.length<=1000 then some (PV.int (dd ns).length)else none)=_;rw[hV,bind_some,br,bind_some,if_pos z]
 have h:(((dd l).length:Int)==(l.length:Int))=decide l.Nodup:=by
  rw[J3,Ju,JP,<- kz];omega
 simp[lD,exs,ex,ev,evs,e,h]
def OkP(R:LL):Prop:=∀t∈R,∃x y,t=[x,y]/\(0<=x/\x<=59)/\0<=y/\y<=59
def Ck(h:t.length<=2):(dd t).length<=60:=Js (gJ t) (by omega)
def qI{R:LL}(h:OkP R):∀t∈R,t.length=2:=λt z=>by obtain⟨x,y,rfl,_⟩:=h t z;rfl
theorem C_:∀{R},OkP R->R.flatten.length=2*R.length
 | [],_=>rfl
 |t::R,h=>by
  rw[flatten_cons,wh,qI h t (.head _),C_ λu z=>h u (.tail _ z),length_cons];omega
def uH(n)(s)(v)(R)(hv:a_ v=some (R.map ofS))(z:OkP R)(Y:R.length<=60)(hs:s.length<=1000):aa defs (n+2) 15 [.val (ofS s),.val v]=some (.bl (R.any λt=>sub t s)):=by
 rw[ab (d:=ko) rfl rfl];have U:ev (aa defs (n+1)) (.comp .seq [.bor 1] [0] (.cst (.bl true)) (.call 11 [.bor 1,.bor 0])) [sv (ofS s),sv v]=some (.lst (R.map λt=>.bl (sub t s))):=by
  refine cq (vs:=[v]) (by simp[evs,ev]) hv (by omega) λt J=>?_
  refine ae (vs:=[.val (ofS s),.val (ofS t)]) (by simp[evA,b7]) (lj n _ _ s t rfl rfl hs (by have:=qI z t J;omega) (Ck (by have:=qI z t J;omega)))
 show aY (exs _ [.ret _] _)=_;rw[al,cW (v:=.bl _)]
 .rfl
 .show ev (aa defs _) _ [sv _,some _]=_;rw[aH U,mw,show(R.map λt=>PV.bl _)=(R.map λt=>sub t s).map PV.bl from by rw[Jx];rfl,cV];simp
noncomputable def Aa(R A:LL):Bool:=decide R.flatten.Nodup&&A.all λs=>R.any λt=>sub t s
def qJ(n)(v)(R A)(hv:a_ v=some (R.map ofS))(J:OkP R)(Y:R.length<=60)(Z:∀t∈A,bJ t)(hA:A.length<=60):aa defs (n+3) 16 [.val v,.val (ofR A)]=some (.bl (Aa R A)):=by
 rw[ab (d:=ku) rfl rfl];have hf:=C_ J;have em:=lm (n+1) (.val v) (λ_ z=>by cases z) R ofS (λ_=>rfl) (by simpa using hv) (by omega);simp only[Nat.add_assoc,Nat.reduceAdd]at em;have U:=z_ (n+1) R.flatten (by omega);simp only[Nat.add_assoc,Nat.reduceAdd]at U;show aY (exs (aa defs (n+2)) (_::[_]) [sv v,sv (ofR A)])=_;have e1:ev (aa defs (n+2)) (.call 1 [(.call 0 [.bor 0])]) [sv v,sv (ofR A)]=some (.bl (decide R.flatten.Nodup)):=
  ae (vs:=[.val (ofL R.flatten)]) (by
   have a1:ev (aa defs (n+2)) (.call 0 [.bor 0]) [sv v,sv (ofR A)]=some (ofL R.flatten):=ae (vs:=[.val v]) (by simp[evA]) em;simp only[evA,a1]
   rfl) U
 have ec:ev (aa defs (n+2)) (.comp .seq [.bor 1] [0] (.cst (.bl true)) (.call 15 [.bor 0,.bor 1])) [sv v,sv (ofR A)]=some (.lst (A.map λs=>.bl (R.any λt=>sub t s))):=by
  refine cq (g:=ofS) (vs:=[ofR A]) (by simp[evs,ev]) rfl (by omega) λs hs=>?_
  exact ae (vs:=[.val (ofS s),.val v]) (by simp[evA,b7]) (uH n s v R hv J Y (by have:=aI (Z s hs);omega))
 have e2:ev (aa defs (n+2)) (.blt .all [(.comp .seq [.bor 1] [0] (.cst (.bl true)) (.call 15 [.bor 0,.bor 1]))]) [sv v,sv (ofR A)]=some (.bl (A.all λs=>R.any λt=>sub t s)):=by
  rw[aH ec,vQ,show(A.map λs=>PV.bl (R.any λt=>sub t s))=(A.map λs=>R.any λt=>sub t s).map PV.bl from by rw[Jx];rfl,cV];simp
 rw[al];have e3:ex (aa defs (n+2)) (.ite (.not (.call 1 [(.call 0 [.bor 0])])) [.ret (.cst (.bl false))] []) [sv v,sv (ofR A)]=if R.flatten.Nodup then .next [sv v,sv (ofR A)]else .ret (.bl false):=by
  rw[ex,evB,ev,e1];by_cases q:R.flatten.Nodup
  .simp[q,exs]
  .simp[q,exs,ex,ev]
 rw[e3];unfold Aa;by_cases q:R.flatten.Nodup
 .rw[if_pos q,aL,al,cW e2,JA q,Mb]
  rfl
 .simp_all
def sy (v:PV):Prop:=v=.tup [.str "bare"]\/v=.tup [.str "whole"]\/v=.tup [.str "weight"]\/∃P,OkP P/\P.length<=60/\v=.tup [.str "pairs",ofR P]
def sA(n:Nat)(a b:List Int):aa defs (n+1) 43 [.val (ofS a),.val (ofS b)]=some (.bl (sub a b)):=by
 rw[ab (d:=eM) rfl rfl];have key:=jK (g:=PV.int) (xs:=a) (body:=λx l=>exs (aa defs n) dl (put l 2 (.val x))) (I:=λW=>∃kk,W=[sv (ofS a),sv (ofS b),kk]) (p:=λx=>!decide (x∈b)) (r:=λ_=>.bl false)
  (W:=[sv (ofS a),sv (ofS b),none]) ⟨_,rfl⟩ (by
   rintro x hx W ⟨kk,rfl⟩;constructor
   .intro h;simp at h;simp[dl,exs,ex,ev,evs,evB,bL,h]
   .intro h;simp at h;exact⟨[sv (ofS a),sv (ofS b),sv (.int x)],⟨_,rfl⟩,by simp[dl,exs,ex,ev,evs,evB,bL,h]⟩)
 cases hf:a.find? (λx=>!decide (x∈b))with
 |some x =>
  have e:=key.1 x hf;have hx:=find?_some hf;have z:=mem_of_find?_eq_some hf;have:sub a b=false:=by
   cases hs:sub a b with
   |false=>rfl
   |true=>simp[dR.mp hs x z]at hx
  simp[eM,exs,ex,ev,evs,bo,e,this]
 |none =>
  obtain⟨l,⟨kk,rfl⟩,e⟩:=key.2 hf;have:sub a b=true:=dR.mpr λx hx=>by
   have:=LK.mp hf x hx;simpa using this
  simp[eM,exs,ex,ev,evs,bo,e,this,aJ]
noncomputable def wgt(s:List Int):Int:=2 ^ (60-s.length)
def sB:∀n,n<=60->(1152921504606846976:Int) / 2 ^ n=2 ^ (60-n):=by decide +kernel
def vU(n)(s)(z:s.length<=60):aa defs (n+1) 19 [.val (ofS s)]=some (.int (wgt s)):=by
 rw[ab rfl rfl];have e:eX .shr (.int 1152921504606846976) (.int (s.length:Int))=some (.int (wgt s)):=by
  show(if 0<=(s.length:Int)then some _ else none)=_;rw[if_pos (by omega),Int.toNat_natCast,sB _ z]
  rfl
 simp[iO,exs,ex,ev,evs,e]
def ig  [DecidableEq α] (d:List (α×Sc)) (f:α->Int):Prop:=(∀k,bI d k=none->f k=0)/\∀k s,bI d k=some s->s=.int (f k)
def gK{α:Type}(d:List (α×Sc))(P:α->Prop):Prop:=(d.map (·.1)).Nodup/\∀k,k∈d.map (·.1) ↔ P k
section
variable{α:Type} [DecidableEq α]
def Ab{d:List (α×Sc)}{k:α}:bI d k=none ↔ k∉d.map (·.1):=by
 unfold bI;rw[map_eq_none_iff,LK];constructor
 .intro h z;obtain⟨p,J,rfl⟩:=mem_map.mp z;exact h p J (JA rfl)
 .intro h p J e;exact h (mem_map.mpr ⟨p,J,J0 e⟩)
def Ac(d)(k:α)(v):(cG d k v).map (·.1)=if k∈d.map (·.1)then d.map (·.1)else d.map (·.1)++[k]:=by
 have e:(d.any λp=>decide (p.1=k))=decide (k∈d.map (·.1)):=by
  rw[J3,Kl,JP,mem_map]
  simp_all
 unfold cG;rw[e];by_cases h:k∈d.map (·.1)
 .rw[if_pos (JA h),if_pos h,Jx];refine Kn λp _=>?_
  show(if p.1=k then _ else p).1=p.1;split<;>rfl
 .rw[if_neg (by simpa using h),if_neg h,JM]
  rfl
def vV(d)(k j:α)(v):bI (cG d k v) j=if j=k then some v else bI d j:=by
 have gen:∀d,(d.any λp=>decide (p.1=k))=true->bI (d.map λp=>if p.1=k then(p.1,v)else p) j=if j=k then some v else bI d j:=by
  intro d
  induction d with
  |nil=>intro h;cases h
  |cons p d ih =>
   intro h;by_cases U:p.1=k
   .by_cases J:j=k
    .subst J;simp[bI,U]
    .rw[if_neg J];have:¬ p.1=j:=λz=>J (by rw[<- z,U])
     unfold bI;rw[Jq,if_pos U,KJ (by simpa using this),KJ (by simpa using this)];by_cases Y:(d.any λp=>decide (p.1=k))=true
     .have:=ih Y;rw[if_neg J]at this;exact this
     .have e:(d.map λp=>if p.1=k then(p.1,v)else p)=d:=by
       conv=>rhs;rw[<- List.map_id d]
       refine Kn λq Z=>?_
       rw[if_neg λz=>Y (Kl.mpr ⟨q,Z,JA z⟩)]
       rfl
      rw[e]
   .have Y:(d.any λp=>decide (p.1=k))=true:=by simpa[U]using h
    have ih:=ih Y;unfold bI at ih ⊢;rw[Jq,if_neg U];by_cases J:p.1=j
    .have:¬ j=k:=λz=>U (J.trans z)
     rw[LG (by simpa using J),LG (by simpa using J),if_neg this]
    .rw[KJ (by simpa using J),KJ (by simpa using J)];exact ih
 unfold cG;by_cases h:(d.any λp=>decide (p.1=k))=true
 .rw[if_pos h];exact gen d h
 .rw[if_neg h];have no:∀p∈d,¬ p.1=k:=λp U z=>h (Kl.mpr ⟨p,U,JA z⟩)
  unfold bI;rw[find?_append];by_cases J:j=k
  .subst J;have:d.find? (λp=>decide (p.1=j))=none:=LK.mpr λp U=>by simpa using no p U
   rw[this,if_pos rfl];simp
  .rw[if_neg J];have:¬ k=j:=λz=>J z.symm
   cases d.find? (λp=>decide (p.1=j))<;>first|rfl|simp[this]
def put_len(d)(k:α)(v):(cG d k v).length<=d.length+1:=by
 unfold cG;split
 .simp_all
 .simp_all
def sC(h:ig d f)(k:α):((bI d k).getD (.int 0)).pv=.int (f k):=by
 cases e:bI d k with
 |none=>rw[h.1 k e];rfl
 |some s=>rw[h.2 k s e];rfl
def Ad(h:ig d f)(k:α)(w):ig (cG d k (.int (f k+w))) (λj=>if j=k then f j+w else f j):=by
 refine⟨λj e=>?_,λj s e=>?_⟩
 .rw[vV]at e;by_cases z:j=k
  .simp_all
  .rw[if_neg z]at e;dsimp only;rw[if_neg z];exact h.1 j e
 .rw[vV]at e;by_cases z:j=k
  .simp_all
  .rw[if_neg z]at e;dsimp only;rw[if_neg z];exact h.2 j s e
def sD:ig ([]:List (α×Sc)) λ_=>0:=⟨λ_ _=>rfl,λk s z=>by cases z⟩
def sE:gK ([]:List (α×Sc)) λ_=>False:=⟨Ku,λk=>by simp⟩
def Ae(h:gK d P)(k:α)(v):gK (cG d k v) (λj=>P j\/j=k):=by
 unfold gK;rw[Ac];by_cases J:k∈d.map (·.1)
 .rw[if_pos J];refine⟨h.1,λj=>?_⟩;rw[h.2 j];refine⟨.inl,λz=>z.elim id λe=>?_⟩;rw[e];exact(h.2 k).mp J
 .rw[if_neg J];refine⟨Lz.mpr ⟨h.1,by simp,λa U b Y=>by rw[JE.mp Y];exact λe=>J (e▸U)⟩,λj=>?_⟩;rw[Kv,JE,h.2 j]
theorem Fy{body:PV->Rho->R}{I:List (α×Sc)->Rho->Prop}{w:Int}:∀{xs:List α},(∀x∈xs,∀d W (f:α->Int),I d W->ig d f->d.length<9500->∃l,I (cG d x (.int (f x+w))) l/\body (g x) W=.next l) ->
  xs.Nodup->∀{d}{W}{f}{P},I d W->ig d f->gK d P->d.length+xs.length<=9000 ->
  ∃d' l,aw body (xs.map g) W=.next l/\I d' l/\ig d' (λj=>f j+if j∈xs then w else 0)/\gK d' (λk=>P k\/k∈xs)/\d'.length<=d.length+xs.length
 | [],_,_,d,W,f,P,J,hd,U,_=>⟨d,W,rfl,J,by simpa using hd,by simpa using U,by simp⟩
 |x::xs,hb,Y,d,W,f,P,J,hd,U,hl=>by
  refine az λZq kq=>?_
  rw[length_cons]at hl;obtain⟨hx,Y⟩:=JV.mp Y;obtain⟨a3,Z,e1⟩:=hb x (.head _) d W f J hd (by omega);have a5:=put_len d x (.int (f x+w));obtain⟨d',l,e2,ao,aO,z,a7⟩:=Fy (xs:=xs) (λy hy=>hb y (.tail _ hy)) Y Z (Ad hd x w) (Ae U x _) (by omega);refine kq ?_;rw[Jq,aw,e1];refine⟨d',l,e2,ao,?_,?_,by rw[length_cons];omega⟩
  .have ef:(λj=>(if j=x then f j+w else f j)+if j∈xs then w else 0)=λj=>f j+if j∈x::xs then w else 0:=by
    funext j
    by_cases hj:j=x
    .simp_all
    .simp[hj]
   rw[<- ef];exact aO
  .refine⟨z.1,λk=>?_⟩;rw[z.2 k];simp[Jp,_root_.or_assoc]
theorem HS{J:Type}{ge:J->PV}{m:J->List α}{w:J->Int}{body:PV->Rho->R}{I:List (α×Sc)->Rho->Prop}{top:Nat}:∀{R:List J},(∀s∈R,∀d W (f:α->Int) (P:α->Prop),I d W->ig d f->gK d P->d.length<=8000 ->
   ∃d' l,body (ge s) W=.next l/\I d' l/\ig d' (λj=>f j+if j∈m s then w s else 0)/\gK d' (λk=>P k\/k∈m s)/\d'.length<=d.length+top) ->
  ∀{d}{W}{f}{P},I d W->ig d f->gK d P->d.length+top*R.length<=8000 ->
  ∃d' l,aw body (R.map ge) W=.next l/\I d' l/\ig d' (λj=>f j+(R.map λs=>if j∈m s then w s else 0).sum)/\gK d' (λk=>P k\/∃s∈R,k∈m s)/\d'.length<=d.length+top*R.length
 | [],_,d,W,f,P,U,hd,Y,_=>⟨d,W,rfl,U,by simpa using hd,by simpa using Y,by simp⟩
 |s::R,hb,d,W,f,P,U,hd,Y,hl=>by
  refine az λZq kq=>?_
  rw[length_cons,Nat.mul_succ]at hl;obtain⟨d1,a4,e1,Z,ao,aO,a6⟩:=hb s (.head _) d W f P U hd Y (by omega);obtain⟨d',l,e2,a0,a8,z,a9⟩:=HS (R:=R) (λy hy=>hb y (.tail _ hy)) Z ao aO (by omega);refine kq ?_;rw[Jq,aw,e1];refine⟨d',l,e2,a0,?_,⟨z.1,λk=>?_⟩,by rw[length_cons,Nat.mul_succ];omega⟩
  .grind
  .rw[z.2 k];simp only[Jp,exists_eq_or_imp,_root_.or_assoc]
end
noncomputable def ar(R:LL)(h:Int):Int:=(R.map λs=>if h∈s then wgt s else 0).sum
def lI(n)(R)(g:aB R):∃d,aa defs (n+2) 21 [.val (ofR R)]=some (.dI (.k d))/\ig d (ar R)/\gK d (λk=>∃s∈R,k∈s)/\d.length<=3600:=by
 refine az λZq kq=>?_
 have hl:=g.2.2;obtain⟨d,l,e,⟨x,y,rfl⟩,hd,hp,U⟩:=HS (R:=R) (ge:=ofS) (m:=id) (w:=wgt) (top:=60) (body:=λv l=>exs (aa defs (n+1)) pB (put l 2 (.val v))) (I:=λd W=>∃x y,W=[sv (ofR R),some (.ownD (.k d)),x,y]) (d:=[]) (W:=[sv (ofR R),some (.ownD (.k [])),none,none]) (f:=λ_=>0) (P:=λ_=>False)
  (by
   rintro s hs d W f P ⟨x,y,rfl⟩ hd hp hl;have gs:=g.1 s hs;have Y:=aI gs;have ew:=vU n s Y;obtain⟨d',l,e,⟨y',rfl⟩,r⟩:=Fy (xs:=s) (g:=.int) (w:=wgt s) (body:=λv l=>exs (aa defs (n+1)) pA (put l 3 (.val v))) (I:=λd W=>∃y,W=[sv (ofR R),some (.ownD (.k d)),sv (ofS s),y]) (d:=d) (W:=[sv (ofR R),some (.ownD (.k d)),sv (ofS s),y])
    (by
     rintro z _ d W f ⟨y,rfl⟩ hd hl;have eg:ev (aa defs (n+1)) (.dget (.bor 1) (.bor 3) (ci 0)) [sv (ofR R),some (.ownD (.k d)),sv (ofS s),sv (.int z)]=some (.int (f z)):=by
      rw[<- sC hd z];simp[ev]
     have es:ev (aa defs (n+1)) (.bin .add (.dget (.bor 1) (.bor 3) (ci 0)) (.call 19 [.bor 2])) [sv (ofR R),some (.ownD (.k d)),sv (ofS s),sv (.int z)]=some (.int (f z+wgt s)):=by
      rw[ev,eg,ae (vs:=[.val (ofS s)]) (by simp[evA]) ew]
      rfl
     have Z:d.length<10000:=by omega
     refine⟨_,⟨sv (.int z),rfl⟩,?_⟩;show exs (aa defs (n+1)) [_] [sv (ofR R),some (.ownD (.k d)),sv (ofS s),sv (.int z)]=_;rw[al,ex,es];simp[ev,Z,exs])
    (dk gs.1) ⟨y,rfl⟩ hd hp (by omega)
   refine⟨d',_,?_,⟨sv (ofS s),y',rfl⟩,r.1,r.2.1,by have:=r.2.2;omega⟩;have J:(evs (aa defs (n+1)) [.bor 2] [sv (ofR R),some (.ownD (.k d)),sv (ofS s),y]).bind (bf .seq)=some (s.map .int):=by simp[evs,ev]
   show exs (aa defs (n+1)) [_] [sv (ofR R),some (.ownD (.k d)),sv (ofS s),y]=_;rw[al,cQ J,show bo [.bor 2] [sv (ofR R),some (.ownD (.k d)),sv (ofS s),y]=[sv (ofR R),some (.ownD (.k d)),sv (ofS s),y]from rfl,e,cz,aL];simp[exs,aJ])
  ⟨none,none,rfl⟩ sD sE (by simp;omega)
 refine kq ?_;refine⟨d,?_,?_,?_,by simp at U;omega⟩
 .rw[ab (d:=vS) rfl rfl];have J:(evs (aa defs (n+1)) [.bor 0] [sv (ofR R),some (.ownD (.k [])),none,none]).bind (bf .seq)=some (R.map ofS):=by simp[evs,ev]
  show aY (exs (aa defs (n+1)) (_::_::[_]) [sv (ofR R),none,none,none])=_;simp only[al];rw[show ex (aa defs (n+1)) (.newD false 1) [sv (ofR R),none,none,none]=.next [sv (ofR R),some (.ownD (.k [])),none,none]from by rw[ex];rfl,aL,cQ J,show bo [.bor 0] [sv (ofR R),some (.ownD (.k [])),none,none]=[sv (ofR R),some (.ownD (.k [])),none,none]from rfl,e,cz,aL];simp[exs,ex,aJ]
 .have ef:(λj=>(0:Int)+(R.map λs=>if j∈id s then wgt s else 0).sum)=ar R:=by funext j;rw[Mt];rfl
  rw[<- ef];exact hd
 .simp_all
def Cl(n:Nat)(R:LL)(g:aB R):∃d,aa defs (n+2) 21 [.val (ofR R)]=some (.dI (.k d))/\ig d (ar R)/\gK d (λk=>∃s∈R,k∈s):=by
 obtain⟨d,h1,h2,z,_⟩:=lI n R g;exact⟨d,h1,h2,z⟩
def Af  [DecidableEq α] {P:α->Prop} (hd:ig d f) (J:gK d P):∃M ns,(d.map (·.2)).map Sc.pv=ns.map .int/\ns.length=d.length/\yN (0::ns)=some M/\0<=M/\(M=0\/∃k,P k/\f k=M)/\∀k,P k->f k<=M:=by
 have U:∀p∈d,p.2=.int (f p.1):=λp z=>by
  have e:bI d p.1=some p.2:=by
   unfold bI;have gen:∀(l:List (α×Sc)),(l.map (·.1)).Nodup->p∈l->l.find? (λq=>decide (q.1=p.1))=some p:=by
    intro l
    induction l with
    |nil=>intro _ h;cases h
    |cons q l ih =>
     intro Y h;rw[Jq,JV]at Y;rcases Jp.mp h with rfl|h
     .exact LG (JA rfl)
     .rw[KJ (by
       simp only[JP];intro e;exact Y.1 (mem_map.mpr ⟨p,h,e.symm⟩))]
      exact ih Y.2 h
   rw[gen d J.1 z]
   rfl
  exact hd.2 p.1 p.2 e
 have Z:yN (0::d.map λp=>f p.1)=some ((d.map λp=>f p.1).foldl (λa b=>if a<b then b else a) 0):=rfl;obtain⟨h1,h2⟩:=pj Z;refine⟨_,d.map λp=>f p.1,?_,by simp,Z,h2 0 (.head _),?_,λk hk=>?_⟩
 .rw[Jx,Jx];refine Kn λp z=>?_
  show(p.2).pv=_;rw[U p z]
  rfl
 .rcases Jp.mp h1 with h|h
  .exact .inl h
  .obtain⟨p,z,e⟩:=mem_map.mp h;exact .inr ⟨p.1,(J.2 p.1).mp (mem_map.mpr ⟨p,z,rfl⟩),e⟩
 .obtain⟨p,z,rfl⟩:=mem_map.mp ((J.2 k).mpr hk);exact h2 _ (.tail _ (mem_map.mpr ⟨p,z,rfl⟩))
def Top(R:LL)(M:Int):Prop:=0<=M/\(M=0\/∃k,(∃s∈R,k∈s)/\ar R k=M)/\∀k,(∃s∈R,k∈s)->ar R k<=M
def uI(n:Nat)(R:LL)(g:aB R):∃M,aa defs (n+3) 23 [.val (ofR R)]=some (.int M)/\Top R M:=by
 obtain⟨d,e,hd,U,Y⟩:=lI n R g;obtain⟨M,ns,Z,ao,e2,h0,h1,h2⟩:=Af hd U;refine⟨M,?_,h0,h1,h2⟩;rw[ab (d:=ip) rfl rfl];have z:ev (aa defs (n+2)) (.blt .valuesOf [(.call 21 [.bor 0])]) [sv (ofR R)]=some (.lst (ns.map .int)):=by
  rw[aH (ae (vs:=[.val (ofR R)]) (by simp[evA]) e),nD,if_pos (by unfold jY dSc;rw[pe,pe];omega)];show some (PV.lst ((d.map (·.2)).map Sc.pv))=_;rw[Z]
 have J:ev (aa defs (n+2)) (.bin .add (.lst [(ci 0)]) (.blt .valuesOf [(.call 21 [.bor 0])])) [sv (ofR R)]=some (.lst ((0::ns).map .int)):=by
  rw[ev,z];simp[ev,evs];omega
 show aY (exs (aa defs (n+2)) [_] [sv (ofR R)])=_;rw[al,cW (v:=.int M)]
 .rfl
 .rw[aH J,sn,br,bind_some,e2]
  rfl
def Ag{R:LL}(h:Top R M)(h':Top R N):M=N:=by
 have key:∀{M N},Top R M->Top R N->M<=N:=λ{M N} h h'=>by
  rcases h.2.1 with e|⟨k,z,e⟩
  .rw[e];exact h'.1
  .rw[<- e];exact h'.2.2 k z
 grind
def sH(n)(R)(g:∀t∈R,bJ t)(z:R.length<=10000):aa defs (n+2) 20 [.val (ofR R)]=some (.int (R.map wgt).sum):=by
 rw[ab (d:=sw) rfl rfl];have J:ev (aa defs (n+1)) (.comp .seq [.bor 0] [] (.cst (.bl true)) (.call 19 [.bor 0])) [sv (ofR R)]=some (.lst ((R.map wgt).map .int)):=by
  refine(cq (h:=λs=>.int _) (vs:=[ofR R]) (by simp[evs,ev]) rfl z λs hs=>?_).trans (by rw[Jx];rfl);exact ae (vs:=[.val _]) (by simp[evA,b7]) (vU n s (aI (g s hs)))
 show aY (exs (aa defs _) [_] [sv _])=_;rw[al,cW]
 .rfl
 .rw[aH J];show((bg _).map λns=>PV.int ns.sum)=_;rw[br]
  rfl
noncomputable def ix:List Int->LL
 | []=>[]
 |x::s=>s.map (λy=>[x,y])++ix s
theorem nN:∀s,(ix s).length<=s.length*s.length
 | []=>pd _
 |x::s=>by
  have:=nN s;rw[ix,wh,pe,length_cons,Nat.mul_succ,Nat.succ_mul];omega
theorem gL :∀{s},s.Pairwise (· < ·)->(t∈ix s ↔ ∃a b,t=[a,b]/\a<b/\a∈s/\b∈s)
 | [],_=>⟨λh=>(by cases h),λ⟨_,_,_,_,h,_⟩=>by cases h⟩
 |x::s,hs=>by
  obtain⟨h1,h2⟩:=KY.mp hs;rw[ix,Kv,gL h2,mem_map];constructor
  .rintro (⟨y,z,rfl⟩|⟨a,b,e,q,J,U⟩)
   .exact⟨x,y,rfl,h1 y z,.head _,.tail _ z⟩
   .exact⟨a,b,e,q,.tail _ J,.tail _ U⟩
  .rintro ⟨a,b,e,q,J,U⟩
   grind
theorem nO:∀{s},s.Pairwise (· < ·)->(ix s).Nodup
 | [],_=>Ku
 |x::s,hs=>by
  obtain⟨h1,h2⟩:=KY.mp hs;refine Lz.mpr ⟨?_,nO h2,λt z u J e=>?_⟩
  .unfold Nodup;rw[pairwise_map];exact h2.imp λ{a b} q e=>by cases e;omega
  .obtain⟨y,U,rfl⟩:=mem_map.mp z;obtain⟨a,b,rfl,q,Y,Z⟩:=(gL h2).mp J
   grind
theorem pE(cal)(s):∀r p A J U,s=p++r->A.length+(ix r).length<=10000->s.length<=1000 ->
  ∃Y Z,aw (λx l=>cf (cH [2,3] x l) λz=>exs cal iP z) (bu p.length (r.map .int)) [sv (ofS s),some (.own (A.map ofS)),J,U]=.next [sv (ofS s),some (.own ((A++ix r).map ofS)),Y,Z]
 | [],p,A,J,U,_,_,_=>⟨J,U,by simp[bu,ix]⟩
 |x::r,p,A,J,U,hs,hl,h3=>by
  rw[ix,wh,pe]at hl;have hp:p.length<s.length:=by rw[hs,wh,length_cons];omega
  have a4:s.length=p.length+(r.length+1):=by rw[hs,wh,length_cons]
  have ec:gj s.length 0 (some ((p.length:Int)+1))=p.length+1:=by
   show(if (p.length:Int)+1<0 then((p.length:Int)+1+(s.length:Int)).toNat else min ((p.length:Int)+1).toNat s.length)=_
   grind
  have ao:j3 (ofS s) (some ((p.length:Int)+1)) none=some (ofS r):=by
   show some (PV.tup (cut (s.map .int) (some ((p.length:Int)+1)) none))=_;have e1:cut (s.map PV.int) (some ((p.length:Int)+1)) none=r.map .int:=by
    unfold cut;rw[pe,ec,show gj s.length s.length none=s.length from rfl,hs,JM,Jq,drop_append,drop_eq_nil_of_le (by rw[pe];omega),nil_append,pe,show p.length+1-p.length=1 by omega,drop_one,tail_cons,Me (by rw[pe,wh,length_cons];omega)]
   rw[e1]
  have aO:ev cal (.comp .seq [(.slice (.bor 0) (.bin .add (.bor 2) (ci 1)) (.cst .non))] [3] (.cst (.bl true)) (.tup [.var 1,.var 0])) [sv (ofS s),some (.own (A.map ofS)),sv (.int (p.length:Int)),sv (.int x)]=some (.lst ((r.map λy=>[x,y]).map ofS)):=by
   refine(cq (g:=.int) (h:=λy=>ofS [x,y]) (vs:=[ofS r]) ?_ rfl (by omega) λy _=>?_).trans (by rw[Jx];rfl)
   .simp[evs,ev,bnd,ao]
   .simp[ev,evs,b7]
  have e:cf (cH [2,3] (.tup [.int (p.length:Nat),.int x]) [sv (ofS s),some (.own (A.map ofS)),J,U]) (λz=>exs cal iP z)=.next [sv (ofS s),some (.own ((A++r.map λy=>[x,y]).map ofS)),sv (.int (p.length:Int)),sv (.int x)]:=by
   show exs cal [_] [sv (ofS s),some (.own (A.map ofS)),sv (.int (p.length:Int)),sv (.int x)]=_;have a0:A.length+r.length<=10000:=by omega
   rw[al,ex,aO,uE];simp[exs,a0]
  rw[Jq,bu,aw,e];obtain⟨Y,Z,e2⟩:=pE cal s r (p++[x]) (A++r.map λy=>[x,y]) (sv (.int (p.length:Int))) (sv (.int x)) (by rw[hs,J9];rfl) (by rw[wh,pe];omega) h3;rw[wh,length_singleton]at e2;refine⟨Y,Z,?_⟩;rw[ix,<- J9];exact e2
def xa(n:Nat)(s:List Int)(J:s.length<=60):aa defs (n+1) 24 [.val (ofS s)]=some (.lst ((ix s).map ofS)):=by
 have h1:=nN s;have h2:s.length*s.length<=60*60:=Nat.mul_le_mul J J;obtain⟨U,Y,e⟩:=pE (aa defs n) s s [] [] none none rfl (by simp;omega) (by omega);rw[ab (d:=pC) rfl rfl];have z:(evs (aa defs n) [.bor 0] [sv (ofS s),some (.own []),none,none]).bind (bf .enm)=some (bu 0 (s.map .int)):=by simp[evs,ev,bf]
 show aY (exs (aa defs n) (_::_::[_]) [sv (ofS s),none,none,none])=_;simp only[al];rw[dD (xs:=[]) (by simp[ev,evs]),aL];simp only[bY,bZ];rw[qF z,show bo [.bor 0] [sv (ofS s),some (.own []),none,none]=[sv (ofS s),some (.own []),none,none]from rfl];rw[length_nil,map_nil,nil_append]at e;rw[e,cz,aL];simp[exs,ex,aJ]
section
variable{α:Type} [DecidableEq α]
theorem Da{U:Type}{ge:U->PV}{m:U->List α}{w:U->Int}{body:PV->Rho->R}{I:List (α×Sc)->Rho->Prop}{B:Nat}{Q:α->Prop}(Z:∀d P,gK d P->(∀k,P k->Q k)->d.length<=B):∀{R:List U},(∀s∈R,∀d W (f:α->Int) (P:α->Prop),I d W->ig d f->gK d P->d.length<=B ->
   ∃d' l,body (ge s) W=.next l/\I d' l/\ig d' (λj=>f j+if j∈m s then w s else 0)/\gK d' (λk=>P k\/k∈m s))->(∀s∈R,∀k∈m s,Q k) ->
  ∀{d}{W}{f}{P},I d W->ig d f->gK d P->(∀k,P k->Q k) ->
  ∃d' l,aw body (R.map ge) W=.next l/\I d' l/\ig d' (λj=>f j+(R.map λs=>if j∈m s then w s else 0).sum)/\gK d' (λk=>P k\/∃s∈R,k∈m s)/\d'.length<=B
 | [],_,_,d,W,f,P,hI,hd,z,Y=>⟨d,W,rfl,hI,by simpa using hd,by simpa using z,Z d P z Y⟩
 |s::R,hb,hm,d,W,f,P,hI,hd,z,Y=>by
  refine az λZq kq=>?_
  obtain⟨d1,a7,e1,aO,a0,a1⟩:=hb s (.head _) d W f P hI hd z (Z d P z Y);obtain⟨d',l,e2,a2,b0,J,a3⟩:=Da Z (R:=R) (λy hy=>hb y (.tail _ hy)) (λy hy=>hm y (.tail _ hy)) aO a0 a1 (λk hk=>hk.elim (Y k) (hm s (.head _) k));refine kq ?_;rw[Jq,aw,e1];refine⟨d',l,e2,a2,?_,⟨J.1,λk=>?_⟩,a3⟩
  .grind
  .rw[J.2 k];simp[Jp,exists_eq_or_imp,_root_.or_assoc]
end
def Ah(t:List Int):Prop:=∃a b,t=[a,b]/\0<=a/\a<=59/\0<=b/\b<=59
def Ai(d)(P)(J:gK d P)(U:∀k,P k->Ah k):d.length<=3600:=by
 have h1:∀t∈d.map _,Ah t:=λt z=>U t ((J.2 t).mp z)
 have h2:((d.map (·.1)).map λt=>t.getD 0 0*60+t.getD 1 0).Nodup:=by
  unfold Nodup;rw[pairwise_map];refine J.1.imp_of_mem λ{t u} z Y q e=>?_
  obtain⟨a,b,rfl,_⟩:=h1 t z;obtain⟨x,y,rfl,_⟩:=h1 u Y;have e:a*60+b=x*60+y:=e;have e1:a=x:=by omega
  simp_all
 have Z:=nG 3600 _ h2 λx hx=>by
  obtain⟨t,z,rfl⟩:=mem_map.mp hx;obtain⟨a,b,rfl,_⟩:=h1 t z;show 0<=a*60+b/\a*60+b<_;omega
 simpa using Z
noncomputable def gN(R:LL)(a b:Int):Int:=((R.filter λs=>decide (a∈s)&&decide (b∈s)).length:Int)
def Aj{R:LL}(U:∀s∈R,s.Pairwise (· < ·))(J:a<b):(R.map λs=>if [a,b]∈ix s then(1:Int)else 0).sum=gN R a b:=by
 unfold gN
 induction R with
 |nil=>rfl
 |cons s R ih =>
  rw[Jq,sum_cons,ih λt Z=>U t (.tail _ Z)];have Y:=gL (t:=[a,b]) (U s (.head _));by_cases q:a∈s/\b∈s
  .rw[if_pos (Y.mpr ⟨a,b,rfl,J,q.1,q.2⟩),J8 (by simpa using q),length_cons];omega
  .rw[if_neg λz=>q (by obtain⟨x,y,e,_,hx,hy⟩:=Y.mp z;cases e;exact⟨hx,hy⟩),JT (by simpa using q)];omega
def lW(R:LL)(M:Int):Prop:=0<=M/\(M=0\/∃a b,a<b/\(∃s∈R,a∈s/\b∈s)/\gN R a b=M)/\∀a b,a<b->gN R a b<=M
def xb{R:LL}(h:¬ ∃s∈R,a∈s/\b∈s):gN R a b=0:=by
 unfold gN;rw[Mg.mpr]
 .rfl
 .intro s hs q;exact h ⟨s,hs,by simpa using q⟩
def fX(n:Nat)(R:LL)(g:aB R):∃M,aa defs (n+2) 25 [.val (ofR R)]=some (.int M)/\lW R M:=by
 obtain⟨d,l,e,⟨x,y,rfl⟩,hd,hp,a5⟩:=Da (R:=R) (ge:=ofS) (m:=ix) (w:=λ_=>1) (Q:=Ah) (B:=3600) Ai (body:=λv l=>exs (aa defs (n+1)) ir (put l 2 (.val v))) (I:=λd W=>∃x y,W=[sv (ofR R),some (.ownD (.t d)),x,y]) (d:=[]) (W:=[sv (ofR R),some (.ownD (.t [])),none,none]) (f:=λ_=>0) (P:=λ_=>False)
  (by
   rintro s hs d W f P ⟨x,y,rfl⟩ hd hp hl;have gs:=g.1 s hs;have Y:=aI gs;have et:=xa n s Y;have a8:=nN s;have a9:s.length*s.length<=60*60:=Nat.mul_le_mul Y Y;obtain⟨d',l,e,⟨y',rfl⟩,r⟩:=Fy (xs:=ix s) (g:=ofS) (w:=1) (body:=λv l=>exs (aa defs (n+1)) iq (put l 3 (.val v))) (I:=λd W=>∃y,W=[sv (ofR R),some (.ownD (.t d)),sv (ofS s),y]) (d:=d) (W:=[sv (ofR R),some (.ownD (.t d)),sv (ofS s),y])
    (by
     rintro z _ d W f ⟨y,rfl⟩ hd hl;have eg:ev (aa defs (n+1)) (.dget (.bor 1) (.bor 3) (ci 0)) [sv (ofR R),some (.ownD (.t d)),sv (ofS s),sv (ofS z)]=some (.int (f z)):=by
      rw[<- sC hd z];simp[ev]
     have es:ev (aa defs (n+1)) (.bin .add (.dget (.bor 1) (.bor 3) (ci 0)) (ci 1)) [sv (ofR R),some (.ownD (.t d)),sv (ofS s),sv (ofS z)]=some (.int (f z+1)):=by
      rw[ev,eg];simp[ev]
     have a1:d.length<10000:=by omega
     refine⟨_,⟨sv (ofS z),rfl⟩,?_⟩;show exs (aa defs (n+1)) [_] [sv (ofR R),some (.ownD (.t d)),sv (ofS s),sv (ofS z)]=_;rw[al,ex,es];simp[ev,a1,exs])
    (nO gs.1) ⟨y,rfl⟩ hd hp (by omega)
   refine⟨d',_,?_,⟨sv (ofS s),y',rfl⟩,r.1,r.2.1⟩;have J:(evs (aa defs (n+1)) [.call 24 [.bor 2]] [sv (ofR R),some (.ownD (.t d)),sv (ofS s),y]).bind (bf .seq)=some ((ix s).map ofS):=by
    rw[evs,ae (vs:=[.val (ofS s)]) (by simp[evA]) et];simp[evs]
   show exs (aa defs (n+1)) [_] [sv (ofR R),some (.ownD (.t d)),sv (ofS s),y]=_;rw[al,cQ J,show ∀W:Rho,bo [.call 24 [.bor 2]] W=W from λ_=>rfl,e,cz,aL];simp[exs,aJ])
  (λs hs k Z=>by
   obtain⟨a,b,rfl,_,ha,hb⟩:=(gL (g.1 s hs).1).mp Z;have:=(g.1 s hs).2 a ha;have:=(g.1 s hs).2 b hb;exact⟨a,b,rfl,by omega,by omega,by omega,by omega⟩)
  ⟨none,none,rfl⟩ sD sE (λk z=>z.elim)
 obtain⟨M,ns,e1,b3,e2,h0,h1,h2⟩:=Af hd hp;refine⟨M,?_,h0,?_,?_⟩
 .rw[ab (d:=jo) rfl rfl];have J:(evs (aa defs (n+1)) [.bor 0] [sv (ofR R),some (.ownD (.t [])),none,none]).bind (bf .seq)=some (R.map ofS):=by simp[evs,ev]
  have a2:ev (aa defs (n+1)) (.blt .valuesOf [.bor 1]) [sv (ofR R),some (.ownD (.t d)),x,y]=some (.lst (ns.map .int)):=by
   rw[aH (v:=.dI (.t d)) (by simp[ev]),nD,if_pos (by unfold jY dSc;rw[pe,pe];omega)];show some (PV.lst ((d.map (·.2)).map Sc.pv))=_;rw[e1]
  have a3:ev (aa defs (n+1)) (.bin .add (.lst [(ci 0)]) (.blt .valuesOf [.bor 1])) [sv (ofR R),some (.ownD (.t d)),x,y]=some (.lst ((0::ns).map .int)):=by
   rw[ev,a2];simp[ev,evs];omega
  show aY (exs (aa defs (n+1)) (_::_::[_]) [sv (ofR R),none,none,none])=_;simp only[al];rw[show ex (aa defs (n+1)) (.newD true 1) [sv (ofR R),none,none,none]=.next [sv (ofR R),some (.ownD (.t [])),none,none]from by rw[ex];rfl,aL,cQ J,show bo [.bor 0] [sv (ofR R),some (.ownD (.t [])),none,none]=[sv (ofR R),some (.ownD (.t [])),none,none]from rfl,e,cz,aL];rw[show ∀W,aJ [.bor 0] [sv (ofR R),some (.ownD (.t [])),none,none] W=W from λ_=>rfl,cW (v:=.int M)]
  .rfl
  .rw[aH a3,sn,br,bind_some,e2]
   rfl
 .refine h1.imp id λ⟨k,Z,ek⟩=>?_
  obtain⟨s,hs,Z⟩:=Z.resolve_left id;obtain⟨a,b,rfl,U,ha,hb⟩:=(gL (g.1 s hs).1).mp Z;refine⟨a,b,U,⟨s,hs,ha,hb⟩,?_⟩;rw[<- Aj (λs hs=>(g.1 s hs).1) U,<- ek];rw[Mt];exact JK List.sum (Kn λs _=>by by_cases q:[a,b]∈ix s<;>simp[q])
 .intro a b U;by_cases q:∃s∈R,a∈s/\b∈s
  .obtain⟨s,hs,ha,hb⟩:=q;have:=h2 [a,b] (.inr ⟨s,hs,(gL (g.1 s hs).1).mpr ⟨a,b,rfl,U,ha,hb⟩⟩);rw[<- Aj (λs hs=>(g.1 s hs).1) U];refine Ms (Int.le_of_eq ?_) this;rw[Mt];exact JK List.sum (Kn λs _=>by by_cases q:[a,b]∈ix s<;>simp[q])
  .rw[xb q];exact h0
noncomputable def iy(z:List Int)(h:Int):List Int:=if h∈z then z else z++[h]
noncomputable def kA(R:LL):List Int:=R.foldl (λacc z=>z.foldl iy acc) []
noncomputable def ac(R:LL):List Int:=sortI (kA R)
def vW(J:acc.Nodup):(iy acc h).Nodup/\∀x,x∈iy acc h ↔ x∈acc\/x=h:=by
 unfold iy;by_cases q:h∈acc
 .simp_all
 .rw[if_neg q];refine⟨Lz.mpr ⟨J,by simp,λx hx y U=>by rw[JE.mp U];exact λz=>q (z▸hx)⟩,λx=>?_⟩
  simp_all
theorem nP:∀(J z:List Int),z.Nodup->(J.foldl iy z).Nodup/\∀x,x∈J.foldl iy z ↔ x∈z\/x∈J
 | [],z,U=>⟨U,λx=>by simp⟩
 |t::J,z,U=>by
  obtain⟨h1,h2⟩:=vW (h:=t) U;obtain⟨Y,Z⟩:=nP J (iy z t) h1;refine⟨Y,λx=>?_⟩;rw[foldl_cons,Z,h2,Jp,_root_.or_assoc]
theorem gP:∀(R:LL) z,z.Nodup->(R.foldl (λz J=>J.foldl iy z) z).Nodup/\∀x,x∈R.foldl (λz J=>J.foldl iy z) z ↔ x∈z\/∃J∈R,x∈J
 | [],z,U=>⟨U,λx=>by simp⟩
 |t::J,z,U=>by
  obtain⟨h1,h2⟩:=nP t z U;obtain⟨Y,Z⟩:=gP J (t.foldl iy z) h1;refine⟨Y,λx=>?_⟩;rw[foldl_cons,Z,h2];simp[_root_.or_assoc]
def aQ{R:LL} :x∈ac R ↔ ∃z∈R,x∈z:=by
 unfold ac;rw[i8];have:=(gP R [] Ku).2 x;unfold kA;rw[this];simp
def fh(R):(ac R).Pairwise (· < ·):=nF (gP R [] Ku).1
def bB{R:LL}(g:∀z∈R,bJ z):bJ (ac R):=⟨fh R,λh J=>by
 obtain⟨z,h1,h2⟩:=aQ.mp J;exact(g z h1).2 h h2⟩
def xc{R:LL}(g:∀z∈R,bJ z):(kA R).length<=60:=by
 have:=aI (bB g);unfold ac at this;rw[sortI_len]at this;exact this
def Cm{R:LL}{z:List Int}(J:z.Nodup)(h:∀x∈z,0<=x/\x<=59):z.length<=60:=nG 60 z J λx hx=>by have:=h x hx;omega
def kB(R):sortI (dd R.flatten)=ac R:=by
 refine sortI_of_perm ((Kb (dd_nodup _) (gP R [] Ku).1).mpr λx=>?_);rw[iN,(gP R [] Ku).2 x,mem_flatten];simp
def cX(n)(R)(g:∀J∈R,bJ J)(U:R.flatten.length<=1000):aa defs (n+2) 5 [.val (ofR R)]=some (ofL (ac R)):=by
 rw[ab rfl rfl];have e:=lm n (.val (ofR R)) (λ_ z=>by cases z) R ofS (λ_=>rfl) rfl (by omega);have hd:(dd R.flatten).length<64:=by
  have:=aI (bB g);rw[<- kB,sortI_len]at this;omega
 simp[nH,exs,ex,ev,evs,evA,e,-map_flatten,br,-length_flatten,U,hd,kB]
noncomputable def cB(h:Int)(R:LL):LL:=R.filter λz=>!decide (h∈z)
def ln{R:LL}(g:aB R):aB (cB h R):=⟨λz J=>g.1 z (JI.mp J).1,g.2.1.filter _,Js (Lh _ _) g.2.2⟩
def sI(n)(R)(h)(J:R.length<=10000):aa defs (n+1) 4 [.val (ofR R),.val (.int h)]=some (ofR (cB h R)):=by
 rw[ab rfl rfl];simp[su,exs,ex,ev,evs,J];rw[cc (p:=λz=>!decide (h∈z)) (h:=ofS)]
 .simp[cB]
 .intro z _;simp[b7,bL]
 .intro z _ _;simp[b7]
def pF(h)(R):(cB h R).flatten.length<=R.flatten.length:=by
 unfold cB
 induction R with
 |nil=>exact pd _
 |cons s R ih =>
  by_cases q:h∈s
  .grind
  .simp_all
def jL(n)(R):aa defs (n+1) 6 [.val (ofR R)]=some (.bl (decide ([]∈R))):=by
 rw[ab rfl rfl];have z:isIn (.tup []) _=some (decide _):=nB [] R;simp[nI,exs,ex,ev,evs,z]
def nQ(R:LL):Prop:=∃M,lW R M/\1152921504606846976*M*(((ac R).length:Int) / 2)<4*(R.map wgt).sum
noncomputable def hv(R:LL):Bool:=@decide (nQ R) (Classical.propDecidable _)
def qK{R:LL}:hv R=true ↔ nQ R:=@JP (nQ R) (Classical.propDecidable _)
def xg{R:LL}(h:lW R M)(h':lW R N):M=N:=by
 have gen:∀{M N},lW R M->lW R N->M<=N:=λ{M N} h h'=>by
  rcases h.2.1 with e|⟨a,b,z,_,e⟩
  .have:=h'.1;omega
  .have:=h'.2.2 a b z;omega
 exact Int.le_antisymm (gen h h') (gen h' h)
def nR(n:Nat)(R:LL)(g:aB R)(Z:R.flatten.length<=1000):aa defs (n+3) 27 [.val (ofR R)]=some (.bl (hv R)):=by
 obtain⟨M,em,J⟩:=fX n R g;have U:=sH n R g.1 (by have:=g.2.2;omega);have Y:=cX n R g.1 Z;have z:=aI (bB g.1);have hb:hv R=decide (1152921504606846976*M*(((ac R).length:Int) / 2)<4*(R.map wgt).sum):=by
  rw[J3,qK,JP];exact⟨λ⟨N,hN,h⟩=>by rw[xg J hN];exact h,λh=>⟨M,J,h⟩⟩
 rw[hb,ab (d:=nL) rfl rfl];generalize (R.map wgt).sum=w at U;generalize ac R=ks at Y z;have b1:(-18446744073709551616<(4:Int)/\(4:Int)<18446744073709551616\/-18446744073709551616<w/\w<18446744073709551616):=.inl ⟨by decide,by decide⟩;have b2:(-18446744073709551616<(1152921504606846976:Int)/\(1152921504606846976:Int)<18446744073709551616\/-18446744073709551616<M/\M<18446744073709551616):=.inl ⟨by decide,by decide⟩;have b3:(-18446744073709551616<1152921504606846976*M/\1152921504606846976*M<18446744073709551616\/-18446744073709551616<(ks.length:Int) / 2/\(ks.length:Int) / 2<18446744073709551616):=.inr ⟨by omega,by omega⟩;have e1:ev (aa defs (n+2)) (.bin .mul (ci 4) (.call 20 [.bor 0])) [sv (ofR R)]=some (.int (4*w)):=by
  rw[ev,ae (vs:=[.val (ofR R)]) (by simp[evA]) U];simp[ev,b1]
 have e2:ev (aa defs (n+2)) (.bin .mul (.bin .mul (.glob "UNIT" (.int 1152921504606846976)) (.call 25 [.bor 0])) (.bin .fdiv (.blt .len [(.call 5 [.bor 0])]) (ci 2))) [sv (ofR R)]=some (.int (1152921504606846976*M*((ks.length:Int) / 2))):=by
  have e3:ev (aa defs (n+2)) (.bin .mul (.glob "UNIT" (.int 1152921504606846976)) (.call 25 [.bor 0])) [sv (ofR R)]=some (.int (1152921504606846976*M)):=by
   rw[ev,ae (vs:=[.val (ofR R)]) (by simp[evA]) em];simp[ev,b2]
  have e4:ev (aa defs (n+2)) (.bin .fdiv (.blt .len [(.call 5 [.bor 0])]) (ci 2)) [sv (ofR R)]=some (.int ((ks.length:Int) / 2)):=by
   rw[ev,aH (ae (vs:=[.val (ofR R)]) (by simp[evA]) Y)];simp[ev]
  rw[ev,e3,e4];simp only[bind_some,Cd];rw[if_pos (by exact .inr ⟨by omega,by omega⟩)]
 show aY (exs (aa defs (n+2)) [_] [sv (ofR R)])=_;rw[al,cW (v:=.bl (decide (1152921504606846976*M*((ks.length:Int) / 2)<4*w)))]
 .rfl
 .rw[ev,e1,e2]
  rfl
def lX (n:Nat) (R:LL) (g:aB R) (J:R.flatten.length<=1000):aa defs (n+4) 28 [.val (ofR R),.val (.str "weaver")]=some (.bl (hv R)) /\
  aa defs (n+4) 28 [.val (ofR R),.val (.str "moth")]=some (.bl (decide ([]∈R)||(hv R&&(ac R).all λh=>hv (cB h R)))):=by
 have U:=nR n R g J;have z:=jL (n+2) R;have Y:=cX (n+1) R g.1 J;have Z:=aI (bB g.1);constructor
 .rw[ab (d:=cO) rfl rfl];have h:((("weaver":Str)==("weaver":Str)))=true:=by decide
  simp[cO,exs,ex,ev,evA,evB,h,U]
 .rw[ab (d:=cO) rfl rfl];have h:((("moth":Str)==("weaver":Str)))=false:=by decide
  have ec:ev (aa defs (n+3)) (.comp .seq [(.call 5 [.bor 0])] [0] (.cst (.bl true)) (.call 27 [(.call 4 [.bor 1,.bor 0])])) [sv (ofR R),sv (.str "moth")]=some (.lst (((ac R).map λh=>hv (cB h R)).map .bl)):=by
   refine(cq (g:=.int) (h:=λh=>.bl (hv (cB h R))) (vs:=[ofL (ac R)]) ?_ rfl (by omega) λh _=>?_).trans (by rw[Jx];rfl)
   .rw[evs,ae (vs:=[.val (ofR R)]) (by simp[evA]) Y];simp[evs]
   .have eb:ev (aa defs (n+3)) (.call 4 [.bor 1,.bor 0]) (b7 [0] [sv (ofR R),sv (.str "moth")] (.int h))=some (ofR (cB h R)):=ae (vs:=[.val (ofR R),.val (.int h)]) (by simp[evA,b7]) (sI (n+2) R h (by have:=g.2.2;omega));exact ae (vs:=[.val (ofR (cB h R))]) (by simp only[evA,eb];simp) (nR n (cB h R) (ln g) (Js (pF h R) J))
  have ea:ev (aa defs (n+3)) (.and (.call 27 [.bor 0]) (.blt .all [(.comp .seq [(.call 5 [.bor 0])] [0] (.cst (.bl true)) (.call 27 [(.call 4 [.bor 1,.bor 0])]))])) [sv (ofR R),sv (.str "moth")]=some (.bl (hv R&&(ac R).all λh=>hv (cB h R))):=by
   refine dv (ae (vs:=[.val (ofR R)]) (by simp[evA]) U) λ_=>?_
   rw[aH ec,vQ,cV,map_some,LQ]
   rfl
  show aY (exs (aa defs (n+3)) (_::_::[_]) [sv (ofR R),sv (.str "moth")])=_;simp only[al];rw[show ex (aa defs (n+3)) (.ite (.cmp .eq (.bor 1) (cs "weaver")) [.ret (.call 27 [.bor 0])] []) [sv (ofR R),sv (.str "moth")]=.next [sv (ofR R),sv (.str "moth")]from by simp[ex,exs,ev,evB,h],aL];by_cases q:[]∈R
  .rw[JA q]at z ⊢;simp[ex,exs,ev,evA,evB,z]
  .rw[JQ q]at z ⊢;rw[show ex (aa defs (n+3)) (.ite (.call 6 [.bor 0]) [.ret (.cst (.bl true))] []) [sv (ofR R),sv (.str "moth")]=.next [sv (ofR R),sv (.str "moth")]from by simp[ex,exs,ev,evA,evB,z],aL,cW ea]
   rfl
def dS (n:Nat) (R:LL) (g:aB R):∃M,Top R M/\aa defs (n+4) 26 [.val (ofR R),.val (.str "weaver")]=some (.bl (decide ((R.map wgt).sum+M<1152921504606846976)))/\aa defs (n+4) 26 [.val (ofR R),.val (.str "moth")]=some (.bl (decide ((R.map wgt).sum<1152921504606846976))):=by
 obtain⟨M,em,J⟩:=uI n R g;have z:=sH (n+1) R g.1 (by have:=g.2.2;omega);refine⟨M,J,?_,?_⟩
 .rw[ab (d:=cJ) rfl rfl];have h:((("weaver":Str)==("moth":Str)))=false:=by decide
  simp[cJ,exs,ex,ev,evA,evB,h,z,em]
 .rw[ab (d:=cJ) rfl rfl];simp[cJ,exs,ex,ev,evA,evB,z]
theorem lJ(cal)(a s):∀(U J:List Int) (kk:Option MV),J.Nodup->(∀x∈J,0<=x/\x<=59)->(∀x∈U,0<=x/\x<=59) ->
  ∃Y,aw (λx l=>exs cal cK (put l 3 (.val x))) (U.map .int) [some a,some (.own (J.map .int)),some s,kk]=.next [some a,some (.own ((U.foldl iy J).map .int)),some s,Y]
 | [],J,kk,_,_,_=>⟨kk,rfl⟩
 |t::U,J,kk,h1,h2,Z=>by
  rw[Jq,aw];have hl:J.length<10000:=by have:=Cm (R:=[]) h1 h2;omega
  have e:exs cal cK (put [some a,some (.own (J.map .int)),some s,kk] 3 (.val (.int t)))=.next [some a,some (.own ((iy J t).map .int)),some s,sv (.int t)]:=by
   by_cases q:t∈J
   .simp[cK,exs,ex,ev,evB,bL,iy,q]
   .simp[cK,exs,ex,ev,evB,bL,iy,q,hl]
  rw[e];obtain⟨q1,q2⟩:=vW (h:=t) h1;exact lJ cal a s U (iy J t) _ q1 (λx hx=>((q2 x).mp hx).elim (h2 x) λz=>z▸Z t (.head _)) λx hx=>Z x (.tail _ hx)
theorem nS(cal)(a):∀(R:LL) (J:List Int) (s kk:Option MV),J.Nodup->(∀x∈J,0<=x/\x<=59)->(∀U∈R,∀x∈U,0<=x/\x<=59) ->
  ∃s' Y,aw (λx l=>exs cal dN (put l 2 (.val x))) (R.map ofS) [some a,some (.own (J.map .int)),s,kk]=.next [some a,some (.own ((R.foldl (λJ U=>U.foldl iy J) J).map .int)),s',Y]
 | [],J,s,kk,_,_,_=>⟨s,kk,rfl⟩
 |t::R,J,s,kk,h1,h2,Z=>by
  rw[Jq,aw];obtain⟨k',e2⟩:=lJ cal a (.val (ofS t)) t J kk h1 h2 (Z t (.head _));have e:exs cal dN (put [some a,some (.own (J.map .int)),s,kk] 2 (.val (ofS t)))=.next [some a,some (.own ((t.foldl iy J).map .int)),sv (ofS t),k']:=by
   simp[dN,exs,ex,ev,evs,bo,e2,aJ]
  rw[e];obtain⟨q1,q2⟩:=nP t J h1;exact nS cal a R _ _ _ q1 (λx hx=>((q2 x).mp hx).elim (h2 x) λz=>Z t (.head _) x z) λU ao=>Z U (.tail _ ao)
def mx(n:Nat)(R:LL)(g:∀z∈R,bJ z):aa defs (n+1) 42 [.val (ofR R)]=some (ofL (ac R)):=by
 rw[ab (d:=iS) rfl rfl];obtain⟨s',Z,e⟩:=nS (aa defs n) (.val (ofR R)) R [] none none Ku (λx h=>by cases h) λz J=>(g z J).2
 have U:(kA R).length<64:=by have:=xc g;omega
 simp only[map_nil]at e;have Y:R.foldl (λacc z=>z.foldl iy acc) []=kA R:=rfl;rw[Y]at e;simp[iS,exs,ex,ev,evs,bo,e,aJ,pz U,ac]
def kC(n:Nat)(R:LL)(h:Int)(J:R.length<=10000):aa defs (n+1) 41 [.val (ofR R),.val (.int h)]=some (ofR (cB h R)):=by
 rw[ab (d:=hZ) rfl rfl];simp[hZ,exs,ex,ev,evs,J];rw[cc (p:=λz=>!decide (h∈z)) (h:=ofS)]
 .simp[cB]
 .intro z _;simp[ev,b7,bL]
 .intro z _ _;simp[ev,b7]
def HU(cal)(W):ev cal (.bin .pow (ci 2) (ci 60)) W=some (.int 1152921504606846976):=rfl
def HV(cal)(s)(z:s.length<=60)(r):ev cal (.bin .shr (.bin .pow (ci 2) (ci 60)) (.blt .len [.bor 0])) (sv (ofS s)::r)=some (.int (wgt s)):=by
 rw[cF (HU _ _) (y:=.int (s.length:Int)) (by simp[ev,evs])];show(if 0<=(s.length:Int)then some _ else none)=_;rw[if_pos (by omega),Int.toNat_natCast,sB _ z]
 rfl
def Fz{ns:List Int}(h:ev cal e W=some (.lst (ns.map .int))):ev cal (.blt .sum [e]) W=some (.int ns.sum):=by
 rw[aH h];show((bg _).map λns=>PV.int ns.sum)=_;rw[br]
 rfl
def sJ(R)(h):((R.filter λs=>decide (h∈s)).map wgt).sum=ar R h:=by
 unfold ar
 induction R with
 |nil=>rfl
 |cons s R ih =>
  by_cases q:h∈s
  .simp_all
  .simp_all
noncomputable def af (b:Bool):PySem.Str:=if b=true then "moth" else "weaver"
def vX(a b):((PySem.Str.ofString a)==(PySem.Str.ofString b))=(a==b):=by
 rw[J3,Ju,Ju];refine⟨λh=>?_,λh=>by rw[h]⟩;rw[PySem.Str.ofString_eq_byList]at h;unfold PySem.Str.ofStringByList at h;have h1:(a.toList.map Char.toNat).toArray=(b.toList.map Char.toNat).toArray:=by injection h
 have h2:a.toList.map Char.toNat=b.toList.map Char.toNat:=by simpa using h1
 have key:∀xs ys:List Char,xs.map Char.toNat=ys.map Char.toNat->xs=ys:=by
  intro xs
  induction xs with
  |nil=>intro ys h;cases ys with|nil=>rfl|cons=>simp at h
  |cons x xs ih=>intro ys h;cases ys with
   |nil=>simp at h
   |cons y ys =>
    simp only[Jq,Lp]at h;rw[ih ys h.2,Char.toNat_inj.mp h.1]
 exact String.toList_inj.mp (key _ _ h2)
def be(h:ev cal e W=some v)(k:aY (exs cal ms (put W i (.val v)))=X):aY (exs cal (.set i e::ms) W)=X:=by
 rw[al,ie h,aL,k]
def dF(h:ex cal m W=.next l)(k:aY (exs cal ms l)=X):aY (exs cal (m::ms) W)=X:=by simp_all [al]
def gR(h:ev cal e W=some v):aY (exs cal (.ret e::ms) W)=some v:=by
 rw[al,cW h];rfl
def b8(h:ev cal e W=some v)(k:exs cal ms (put W i (.val v))=r):exs cal (.set i e::ms) W=r:=by
 rw[al,ie h,aL,k]
def fj(h:ex cal m W=.next l)(k:exs cal ms l=r):exs cal (m::ms) W=r:=by simp_all [al]
def cv(h:ex cal m W=.next l):exs cal [m] W=.next l:=by
 rw[al,h,aL,exs]
def aT(h:ev cal c W=some (.bl p)):ex cal (.ite c a b) W=if p=true then exs cal a W else exs cal b W:=by
 rw[ex,qG h,jH]
def aX(h:ev cal c W=some (.bl false))(k:aY (exs cal ms W)=X):aY (exs cal (.ite c a []::ms) W)=X:=by simp_all [aT,exs]
def cD(h:ev cal c W=some (.bl true))(k:ev cal e W=some v):aY (exs cal (.ite c [.ret e] b::ms) W)=some v:=by
 rw[al,aT h,if_pos rfl,al,cW k];rfl
def ii(h:ev cal (.call f as) W=some v)(k:evA cal es W=some vs):evA cal (.call f as::es) W=some (.val v::vs):=by simp_all [evA]
def gU(h:ev cal (.idx a i) W=some v)(k:evA cal es W=some vs):evA cal (.idx a i::es) W=some (.val v::vs):=by simp_all [evA]
def vY(h:gm (W[i]?).join=some m)(k:evA cal es W=some vs):evA cal (.bor i::es) W=some (m::vs):=by simp_all [evA]
def lK(h:ev cal a W=some (.bl p)):ev cal (.not a) W=some (.bl (!p)):=by
 rw[ev,h];rfl
def Jj(h:ev cal c W=some (.bl p))(k:ev cal e W=some v)(z:p=false->aY (exs cal ms W)=some w):aY (exs cal (.ite c [.ret e] []::ms) W)=some (if p=true then v else w):=by
 cases p<;>first|exact cD h k|exact aX h (z rfl)
def HW(h:ev cal c W=some (.bl true))(k:exs cal a W=.ret v):aY (exs cal (.ite c a b::ms) W)=some v:=by
 rw[al,aT h,if_pos rfl,k];rfl
def sK(h:ev cal c W=some (.bl false))(k:exs cal ms W=r):exs cal (.ite c a []::ms) W=r:=by simp_all [aT,exs]
def Ak(h:ev cal e W=some v):exs cal (.ret e::ms) W=.ret v:=by
 rw[al,cW h];rfl
def HX(h:ev cal c W=some (.bl true))(k:ev cal e W=some v):exs cal (.ite c [.ret e] b::ms) W=.ret v:=by
 rw[al,aT h,if_pos rfl,al,cW k];rfl
def Al(h:ev cal a W=some (.bl p))(h':p=false->ev cal b W=some (.bl q)):ev cal (.or a b) W=some (.bl (p||q)):=by
 rw[ev,h];cases p<;>first|rfl|simp[h' rfl]
def Cn(h:isIn x xs=some p)(z:ev cal a W=some x)(J:ev cal b W=some (.tup xs)):ev cal (.cmp .isIn a b) W=some (.bl p):=by
 rw[dE z J,Ce,h];rfl
def nT(ho:(W[i]?).join=some (.own xs))(h:ev cal e W=some v)(z:xs.length<10000):ex cal (.append i e) W=.next (put W i (.own (xs++[v]))):=by
 rw[ex,ho,h];simp[z]
def qL(h:((xs.length:Int)==0)=p)(z:ev cal a W=some (.tup xs)):ev cal (.cmp .eq (.blt .len [a]) (ci 0)) W=some (.bl p):=by
 rw[dE (aH z) (fg _ _ _),<- h];rfl
def FA(h:(evs cal src W).bind (bf k)=some xs)(e:aw (λx l=>exs cal body (put l i (.val x))) xs (bo src W)=.ret v):exs cal (.for1 i k src body::ms) W=.ret v:=by
 rw[al,cQ h,e];rfl
def Am(h:ev cal e W=some (.lst xs)):(evs cal [e] W).bind (bf .seq)=some xs:=by simp_all [evs]
def bC(h:ev cal e W=some v)(k:evs cal es W=some vs):evs cal (e::es) W=some (v::vs):=by simp_all [evs]
def eN(h:evs cal es W=some vs)(z:vs.length<=10000:=by simp):ev cal (.tup es) W=some (.tup vs):=by
 rw[ev,h,bind_some,if_pos z]
def xh(n)(R):aa defs (n+1) 7 [.val (ofR R)]=some (.bl (decide (R=[]))):=by
 rw[ab rfl rfl];cases R with
 |nil=>simp[lc,exs,ex,ev,evs]
 |cons t R =>
  have:¬ ((R.length:Int)+1=0):=by omega
  simp[lc,exs,ex,ev,evs,this]
noncomputable def bS:Option Int->PV
 |none=>.non
 |some i=>.int i
def vZ(x h:Int):(x==h)=decide (x=h):=rfl
noncomputable def drp(h:Int)(z:List Int):List Int:=z.filter λx=>!decide (x=h)
noncomputable def cg(h:Int)(R:LL):LL:=sortT (R.map (drp h))
def An(g:bJ z):bJ (drp h z):=⟨g.1.filter _,λx hx=>g.2 x (JI.mp hx).1⟩
def pH{R:LL}(g:aB R):aB (cg h R):=by
 refine⟨λU z=>?_,sortT_rises _,by unfold cg;rw[sortT_len,pe];exact g.2.2⟩;obtain⟨t,J,rfl⟩:=mem_map.mp (dC.mp z);exact An (g.1 t J)
def lY(n)(z)(h)(J:z.length<=10000):aa defs (n+1) 2 [.val (ofS z),.val (.int h)]=some (ofS (drp h z)):=by
 rw[ab (d:=d_) rfl rfl];simp[d_,exs,ex,ev,evs,J];rw[cc (p:=λx=>!decide (x=h)) (h:=PV.int)]
 .simp[drp]
 .intro x _;simp[b7,vZ]
 .intro x _ _;simp[b7]
def xi(n)(R)(h)(g:aB R):aa defs (n+2) 3 [.val (ofR R),.val (.int h)]=some (ofR (cg h R)):=by
 rw[ab (d:=lb) rfl rfl];have J:R.length<=10000:=by have:=g.2.2;omega
 simp[lb,exs,ex,ev,evs,J];rw[g_ (h:=λU=>ofS (drp h U))]
 .have e:(R.map λc=>ofS (drp h c))=(R.map (drp h)).map ofS:=by rw[Jx];rfl
  have z:(R.map (drp h)).length<64:=by rw[pe];have:=g.2.2;omega
  rw[e];simp[-List.map_map,eR z,cg]
 .intro c _;simp[ev]
 .intro c hc;have J:=aI (g.1 c hc);simp[ev,evA,b7,lY n c h (by omega)]
def xj(h)(R):(cg h R).flatten.length<=R.flatten.length:=by
 have p:(cg h R).flatten.length=(R.map (drp h)).flatten.length:=((sortT_perm (R.map (drp h))).flatten).length_eq;rw[p]
 induction R with
 |nil=>exact pd _
 |cons s R ih =>
  rw[Jq,flatten_cons,flatten_cons,wh,wh];have:(drp h s).length<=s.length:=Lh _ _;have:=ih (by exact((sortT_perm (R.map _)).flatten).length_eq);omega
noncomputable def bhd(h:Bool)(R:LL):Option Int->LL
 |none=>R
 |some k=>if h=true then cB k R else cg k R
def dw{R:LL}(g:aB R)(r):aB (bhd h R r):=by
 cases r<;>first|exact g|cases h with|true=>exact ln g|false=>exact pH g
def qM(n)(h):aa defs (n+1) 8 [.val (.str (af h))]=some (.str (af (!h))):=by
 rw[ab rfl rfl];cases h<;>simp[km,exs,ex,ev,evB,vX,af]
def iU(n)(R)(g:aB R)(h)(r):aa defs (n+3) 9 [.val (ofR R),.val (.str (af h)),.val (bS r)]=some (ofR (bhd h R r)):=by
 rw[ab (d:=kn) rfl rfl];cases r with
 |none=>simp[kn,exs,ex,ev,evB,bS,bhd,jl]
 |some k =>
  have z:=xi n R k g;have J:=λn=>sI n R k (by have:=g.2.2;omega)
  cases h<;>simp[kn,exs,ex,ev,evB,evA,bS,bhd,vX,af,jl,z,J]
def fk(h)(R)(r):(bhd h R r).flatten.length<=R.flatten.length:=by
 cases r with
 |none=>exact pd _
 |some k=>cases h with|true=>exact pF k R|false=>exact xj k R
def gM {n:Nat}{v:PV}{R:PV}{t:PySem.Str}{r:PV} (h:aa defs n 31 [.val v,.val R,.val (.str t)]=some r):aa defs (n+1) 30 [.val v,.val R,.val (.str t),.val (.str "moth")]=some r:=by
 rw[ab (d:=uF) rfl rfl];exact cD rfl (ae rfl h)
def gW {n:Nat}{v:PV}{R:PV}{t:PySem.Str}{r:PV} (h:aa defs n 32 [.val v,.val R,.val (.str t)]=some r):aa defs (n+1) 30 [.val v,.val R,.val (.str t),.val (.str "weaver")]=some r:=by
 rw[ab (d:=uF) rfl rfl];exact aX rfl (gR (ae rfl h))
def uJ (n:Nat) (R:LL) (t h:Bool):aa defs (n+3) 30 [.val (.tup [.str "bare"]),.val (ofR R),.val (.str (af t)),.val (.str (af h))]=some (.bl (h&&decide (R=[]))):=by
 cases h
 .refine gW ?_;rw[ab (d:=aC) rfl rfl];cases t<;>rfl
 .refine gM ?_;rw[ab (d:=aN) rfl rfl];exact be rfl (cD rfl (ae rfl (xh n R)))
def qN (n:Nat) (R:LL) (t h:Bool):aa defs (n+3) 30 [.val (.tup [.str "whole"]),.val (ofR R),.val (.str (af t)),.val (.str (af h))]=some (.bl (!h&&decide ([]∈R))):=by
 cases h
 .refine gW ?_;rw[ab (d:=aC) rfl rfl];exact be rfl (cD rfl (ae rfl (jL n R)))
 .refine gM ?_;rw[ab (d:=aN) rfl rfl];cases t<;>rfl
noncomputable def FB(R:LL)(M:Int)(t h:Bool):Bool:=
 if h=true then(if t=true then decide ((R.map wgt).sum<1152921504606846976)else decide ((R.map wgt).sum+M<1152921504606846976))
 else(if t=true then decide ([]∈R)||(hv R&&(ac R).all λh=>hv (cB h R))else hv R)
def nU (n:Nat) (R:LL) (g:aB R) (U:R.flatten.length<=1000) {M:Int} (Y:Top R M) (t h:Bool):aa defs (n+6) 30 [.val (.tup [.str "weight"]),.val (ofR R),.val (.str (af t)),.val (.str (af h))]=some (.bl (FB R M t h)):=by
 cases h
 .obtain⟨z,J⟩:=lX n R g U;refine gW ?_;rw[ab (d:=aC) rfl rfl];refine be rfl (aX rfl (cD rfl (ae rfl ?_)));cases t
  .exact z
  .exact J
 .obtain⟨N,Z,z,J⟩:=dS n R g;rw[Ag Z Y]at z;refine gM ?_;rw[ab (d:=aN) rfl rfl];refine be rfl (aX rfl (cD rfl (ae rfl ?_)));cases t
  .exact z
  .exact J
def v0 (n:Nat) (R P:LL) (z:OkP P) (J:P.length<=60) (g:aB R) (t h:Bool):aa defs (n+5) 30 [.val (.tup [.str "pairs",ofR P]),.val (ofR R),.val (.str (af t)),.val (.str (af h))]=some (.bl (h&&!t&&Aa P R)):=by
 cases h
 .refine gW ?_;rw[ab (d:=aC) rfl rfl];cases t<;>rfl
 .refine gM ?_;rw[ab (d:=aN) rfl rfl];cases t
  .exact be rfl (aX rfl (aX rfl (aX rfl (cD rfl (ae rfl (qJ n (ofR P) P R rfl z J g.1 g.2.2))))))
  .rfl
def Ao{n:Nat}{R:LL}(g:aB R)(k:Bool)(r:Option Int){p:PV}{b:Bool}(t h:Bool)(J:aa defs (n+3) 30 [.val p,.val (ofR (bhd k R r)),.val (.str (af (!k))),.val (.str (af k))]=some (.bl b)) :
  aa defs (n+6) 30 [.val (.tup [.str (if k=true then "bite" else "knot"),bS r,p]),.val (ofR R),.val (.str (af t)),.val (.str (af h))]=some (.bl ((h==k)&&(t==k)&&b)):=by
 have z:aa defs (n+4) 33 [.val (.tup [.str (if k=true then "bite" else "knot"),bS r,p]),.val (ofR R),.val (.str (af k))]=some (.bl b):=by
  rw[ab (d:=iQ) rfl rfl];exact gR (ae (gU rfl (ii (ae rfl (iU n R g k r)) (ii (ae rfl (qM (n+2) k)) rfl))) J)
 cases h
 .refine gW ?_;rw[ab (d:=aC) rfl rfl];cases k<;>cases t<;>first|rfl|exact be rfl (aX rfl (aX rfl (aX rfl (cD rfl (dv rfl λ_=>ae rfl z)))))
 .refine gM ?_;rw[ab (d:=aN) rfl rfl];cases k<;>cases t<;>first|rfl|exact be rfl (aX rfl (aX rfl (cD rfl (dv rfl λ_=>ae rfl z))))
def v3(n)(Rs:List (LL))(J:∀R∈Rs,(∀t∈R,bJ t)/\R.flatten.length<=1000)(hl:Rs.length<=16):aa defs (n+3) 18 [.val (.lst (Rs.map ofR))]=some (.bl (decide (Rs.map ac).flatten.Nodup)):=by
 rw[ab (d:=lE) rfl rfl];have Y:∀Rs:List (LL),(∀R∈Rs,(∀t∈R,bJ t)/\R.flatten.length<=1000)->(Rs.map ac).flatten.length<=60*Rs.length:=λRs=>by
  induction Rs with
  |nil=>intro _;simp
  |cons R Rs ih =>
   intro J;have h1:=aI (bB (J R (.head _)).1);have h2:=ih λR U=>J R (.tail _ U)
   rw[Jq,flatten_cons,wh,length_cons];omega
 have hF:=Y Rs J;have Z:ev (aa defs (n+2)) (.comp .seq [.bor 0] [] (.cst (.bl true)) (.call 5 [.bor 0])) [sv (.lst (Rs.map ofR))]=some (.lst ((Rs.map ac).map ofL)):=by
  refine(cq (g:=ofR) (h:=λR=>ofL (ac R)) (vs:=[.lst (Rs.map ofR)]) (by simp[evs,ev]) rfl (by omega) λR U=>?_).trans (by rw[Jx];rfl);exact ae (vs:=[.val (ofR R)]) (by simp[evA,b7]) (cX n R (J R U).1 (J R U).2)
 have e1:=lm (n+1) (.val (.lst ((Rs.map ac).map ofL))) (λ_ z=>by cases z) (Rs.map ac) ofL (λ_=>rfl) rfl (by omega);have e2:=z_ (n+1) (Rs.map ac).flatten (by omega);show aY (exs (aa defs (n+2)) [.ret _] [sv (.lst (Rs.map ofR))])=_;rw[al,cW (sx (λ_ z=>by cases z) (sx (λ_ z=>by cases z) Z e1) e2)]
 rfl
def Co(h:bJ t):(dd t).length<=60:=by rw[C9 (dk h.1)];exact aI h
noncomputable def uK:Option Nat->PV
 |none=>.non
 |some i=>.int i
noncomputable def qO(s:List Int)(R:LL):Option Nat:=R.findIdx? λt=>sub t s
theorem nV(n)(s)(a b)(hs:s.length<=1000)(Y:a=sv (ofS s)):∀R k x y,(∀t∈R,bJ t) ->
  (∀i,qO s R=some i->aw (λx l=>cf (cH [2,3] x l) λz=>exs (aa defs (n+1)) bt z) (bu k (R.map ofS)) [a,b,x,y]=.ret (.int ((k+i:Nat):Int))) /\
  (qO s R=none->∃Z y',aw (λx l=>cf (cH [2,3] x l) λz=>exs (aa defs (n+1)) bt z) (bu k (R.map ofS)) [a,b,x,y]=.next [a,b,Z,y'])
 | [],k,x,y,_=>⟨λi h=>(by cases h),λ_=>⟨x,y,rfl⟩⟩
 |t::R,k,x,y,h=>by
  subst Y;have e:=lj n (.val (ofS s)) (.val (ofS t)) s t rfl rfl hs (by have:=aI (h t (.head _));omega) (Co (h t (.head _)));rw[Jq,bu,aw];unfold qO;rw[findIdx?_cons];cases U:sub t s with
  |true =>
   rw[U]at e;have J:(cf (cH [2,3] (.tup [.int (k:Nat),ofS t]) [sv (ofS s),b,x,y]) λz=>exs (aa defs (n+1)) bt z)=.ret (.int (k:Nat)):=by
    simp[cH,m3,bt,exs,ex,ev,evs,evB,evA,e]
   rw[J];exact⟨λi hi=>(by simp at hi;subst hi;rfl),λhi=>(by simp at hi)⟩
  |false =>
   rw[U]at e;have J:(cf (cH [2,3] (.tup [.int (k:Nat),ofS t]) [sv (ofS s),b,x,y]) λz=>exs (aa defs (n+1)) bt z)=.next [sv (ofS s),b,sv (.int (k:Nat)),sv (ofS t)]:=by
    simp[cH,m3,bt,exs,ex,ev,evs,evB,evA,e]
   rw[J];obtain⟨h1,h2⟩:=nV n s (sv (ofS s)) b hs rfl R (k+1) (sv (.int (k:Nat))) (sv (ofS t)) λu hu=>h u (.tail _ hu)
   constructor
   .intro i hi;simp only[Jz,Kc,p0]at hi;obtain⟨j,hj,rfl⟩:=hi;rw[show k+(j+1)=k+1+j by omega];exact h1 j hj
   .intro hi;simp only[Jz,Kc,map_eq_none_iff]at hi;exact h2 hi
def Cq(n)(s)(R)(hs:s.length<=1000)(g:∀t∈R,bJ t):aa defs (n+2) 12 [.val (ofS s),.val (ofR R)]=some (uK (qO s R)):=by
 rw[ab (d:=dM) rfl rfl];obtain⟨h1,h2⟩:=nV n s (sv (ofS s)) (sv (ofR R)) hs rfl R 0 none none g;cases hf:qO s R with
 |some i =>
  have e:=h1 i hf;rw[KQ]at e;simp[dM,exs,ex,ev,evs,bf,bo,e,uK]
 |none =>
  obtain⟨z,J,e⟩:=h2 hf;simp[dM,exs,ex,ev,evs,bf,bo,e,uK,aJ]
noncomputable def Ap(A B:LL):List (Option Nat):=A.map λs=>qO s B
def xk(n)(A B)(z:aB A)(J:aB B):aa defs (n+3) 13 [.val (ofR A),.val (ofR B)]=some (.lst ((Ap A B).map uK)):=by
 rw[ab (d:=lh) rfl rfl];have U:A.length<=10000:=by have:=z.2.2;omega
 simp[lh,exs,ex,ev,evs,U];rw[g_ (h:=λs=>uK (qO s B))]
 .simp[Ap]
 .intro c _;simp[ev]
 .intro c hc;simp[ev,evA,b7,Cq n c B (by have:=aI (z.1 c hc);omega) J.1]
theorem sL:∀F:List (Option Nat),isIn .non (F.map uK)=some (decide (none∈F))
 | []=>rfl
 |o::F=>by
  have ih:=sL F;unfold isIn at ih ⊢;rw[Jq,inL,ih];cases o<;>simp[uK,show ∀v:Int,eqF 100 (.int v) .non=some false from λ_=>rfl,show eqF 100 PV.non .non=some true from rfl]
noncomputable def below(A B:LL):Bool:=decide (none∉Ap A B)
def ij(n)(A B)(z:aB A)(J:aB B):aa defs (n+4) 14 [.val (ofR A),.val (ofR B)]=some (.bl (below A B)):=by
 rw[ab (d:=jI) rfl rfl];simp[jI,exs,ex,ev,evs,evA,xk n A B z J,sL,below]
def v4 {n:Nat}{A R:LL} (z:aB A) (g:aB R) {p:PV}{x:Bool} (t h:Bool) (J:aa defs (n+4) 30 [.val p,.val (ofR A),.val (.str (af t)),.val (.str "weaver")]=some (.bl x)) :
  aa defs (n+6) 30 [.val (.tup [.str "fewer",ofR A,p]),.val (ofR R),.val (.str (af t)),.val (.str (af h))]=some (.bl (!h&&below A R&&x)):=by
 cases h
 .refine gW ?_;rw[ab (d:=aC) rfl rfl];exact be rfl (aX rfl (aX rfl (cD rfl (dv (ae rfl (ij n A R z g)) λ_=>ae rfl J))))
 .refine gM ?_;rw[ab (d:=aN) rfl rfl];cases t<;>rfl
def sM{n:Nat}{A B R:LL}(U:aB A)(Y:aB B)(g:aB R)(fA:A.flatten.length<=1000)(fB:B.flatten.length<=1000){p q:PV}{x y:Bool}(t h:Bool)
  (hp:aa defs (n+4) 30 [.val p,.val (ofR A),.val (.str "weaver"),.val (.str "weaver")]=some (.bl x)) (hq:aa defs (n+4) 30 [.val q,.val (ofR B),.val (.str "weaver"),.val (.str "weaver")]=some (.bl y)) :
  aa defs (n+7) 30 [.val (.tup [.str "either",ofR A,p,ofR B,q]),.val (ofR R),.val (.str (af t)),.val (.str (af h))]=some (.bl (!h&&t&&(decide (ac A++ac B).Nodup&&below A R&&below B R&&(x&&y)))):=by
 cases h with
 |true =>
  refine gM ?_;rw[ab (d:=aN) rfl rfl];cases t<;>rfl
 |false =>
  refine gW ?_;cases t with
  |false =>
   rw[ab (d:=aC) rfl rfl]
   rfl
  |true =>
   have J:=v3 (n+1) [A,B] (λR z=>by
    rcases Jp.mp z with rfl|z
    .exact⟨U.1,fA⟩
    .rcases Jp.mp z with rfl|z
     .exact⟨Y.1,fB⟩
     .cases z) (by simp)
   simp only[Jq,map_nil,flatten_cons,flatten_nil,Kq]at J;have Z:=ij n A R U g;have e2:=ij n B R Y g;have e3:aa defs (n+5) 37 [.val (.tup [.str "either",ofR A,p,ofR B,q]),.val (ofR R)]=some (.bl (decide (ac A++ac B).Nodup&&below A R&&below B R&&(x&&y))):=by
    rw[ab (d:=gH) rfl rfl];generalize decide (ac A++ac B).Nodup=b0 at J ⊢;generalize below A R=b1 at Z ⊢;generalize below B R=b2 at e2 ⊢;refine(be rfl (be rfl (Jj (Al (lK (ae rfl J)) λ_=>Al (lK (ae rfl Z)) λ_=>lK (ae rfl e2)) rfl λ_=>gR (dv (ae rfl hp) λ_=>ae rfl hq)))).trans ?_;cases b0<;>cases b1<;>cases b2<;>rfl
   rw[ab (d:=aC) rfl rfl];exact be rfl (aX rfl (aX rfl (aX rfl (aX rfl (aX rfl (cD rfl (ae rfl e3)))))))
noncomputable def ce(r:Int×Option Int×PV):PV:=.tup [.int r.1,bS r.2.1,r.2.2]
noncomputable def bh2(h:Bool)(R:LL)(a:Int)(r:Option Int):LL:=bhd h (bhd (!h) R (some a)) r
def Aq{R:LL}(g:aB R)(a)(r):aB (bh2 h R a r):=dw (dw g _) _
def Cr(n)(R)(g:aB R)(h)(a)(r):aa defs (n+4) 10 [.val (ofR R),.val (.str (af h)),.val (.int a),.val (bS r)]=some (ofR (bh2 h R a r)):=by
 rw[ab (d:=jn) rfl rfl];exact gR (ae (ii (ae (vY rfl (ii (ae rfl (qM (n+2) h)) rfl)) (iU n R g (!h) (some a))) rfl) (iU n _ (dw g _) h r))
theorem nW(n:Nat)(R:LL)(g:aB R)(h:Bool)(U:Option MV)(b:Int×Option Int×PV->Bool):∀(z:List (Int×Option Int×PV)),(∀r∈z,aa defs (n+4) 30 [.val r.2.2,.val (ofR (bh2 h R r.1 r.2.1)),.val (.str (af (!h))),.val (.str (af h))]=some (.bl (b r)))->∀Y Z x5:Option MV,
  (z.all b=true/\∃y3 y4 y5,aw (λx l=>cf (cH [3,4,5] x l) λJ=>exs (aa defs (n+4)) aM J) (z.map ce) [U,sv (ofR R),sv (.str (af h)),Y,Z,x5]=.next [U,sv (ofR R),sv (.str (af h)),y3,y4,y5]) \/
  (z.all b=false/\aw (λx l=>cf (cH [3,4,5] x l) λJ=>exs (aa defs (n+4)) aM J) (z.map ce) [U,sv (ofR R),sv (.str (af h)),Y,Z,x5]=.ret (.bl false))
 | [],_,Y,Z,x5=>.inl ⟨rfl,Y,Z,x5,rfl⟩
 |r::z,hr,Y,Z,x5=>by
  have e1:=hr r (.head _);have e2:=Cr n R g h r.1 r.2.1;have e3:=qM (n+3) h;have turn:∀k,(cf (cH [3,4,5] (ce r) [U,sv (ofR R),sv (.str (af h)),Y,Z,x5]) k)=k [U,sv (ofR R),sv (.str (af h)),sv (.int r.1),sv (bS r.2.1),sv r.2.2]:=λk=>rfl
  rw[Jq,all_cons];cases hb:b r with
  |false =>
   rw[hb]at e1;refine .inr ⟨rfl,?_⟩;rw[aw,turn,show exs (aa defs (n+4)) aM [U,sv (ofR R),sv (.str (af h)),sv (.int r.1),sv (bS r.2.1),sv r.2.2]=.ret (.bl false)from by simp[aM,exs,ex,ev,evB,evA,e1,e2,e3]]
  |true =>
   rw[hb]at e1;have eb:exs (aa defs (n+4)) aM [U,sv (ofR R),sv (.str (af h)),sv (.int r.1),sv (bS r.2.1),sv r.2.2]=.next [U,sv (ofR R),sv (.str (af h)),sv (.int r.1),sv (bS r.2.1),sv r.2.2]:=by simp[aM,exs,ex,ev,evB,evA,e1,e2,e3]
   have st:=uG (body:=λx l=>cf (cH [3,4,5] x l) λJ=>exs (aa defs (n+4)) aM J) (x:=ce r) (xs:=z.map ce) ((turn _).trans eb);rw[st,Mb];exact nW n R g h U b z (λr a1=>hr r (.tail _ a1)) _ _ _
def Jk(a b):cj .ne (ofL a) (ofL b)=some (!decide (a=b)):=by
 rw[zQ,if_pos (show rH _ _=true from rfl),Hy]
 rfl
def Cs(n:Nat)(R:LL)(g:aB R)(U:R.flatten.length<=1000)(h:Bool)(b:Int×Option Int×PV->Bool)(z:List (Int×Option Int×PV))(Y:z.length<=10000)(Z:∀r∈z,aa defs (n+4) 30 [.val r.2.2,.val (ofR (bh2 h R r.1 r.2.1)),.val (.str (af (!h))),.val (.str (af h))]=some (.bl (b r))) :
  aa defs (n+5) 34 [.val (.tup (z.map ce)),.val (ofR R),.val (.str (af h))]=some (.bl (decide (z.map (·.1)=ac R)&&z.all b)):=by
 rw[ab (d:=gC) rfl rfl];have c1:∀W:Rho,ev (aa defs (n+4)) (.comp .seq [.bor 0] [] (.cst (.bl true)) (.idx (.bor 0) (ci 0))) (sv (.tup (z.map ce))::W)=some (ofL (z.map (·.1))):=λW=>by
  refine(cq (g:=ce) (h:=λr=>.int r.1) (vs:=[.tup (z.map ce)]) (by simp[evs,ev]) rfl Y λr _=>?_).trans (by unfold ofL;rw[Jx];rfl);simp[ev,place,b7,ce]
 have e1:ev (aa defs (n+4)) (.cmp .ne (.comp .seq [.bor 0] [] (.cst (.bl true)) (.idx (.bor 0) (ci 0))) (.call 5 [.bor 1])) [sv (.tup (z.map ce)),sv (ofR R),sv (.str (af h)),none,none,none]=some (.bl (!decide (z.map (·.1)=ac R))):=by
  rw[dE (c1 _) (ae (vs:=[.val (ofR R)]) (by simp[evA]) (cX (n+2) R g.1 U)),Jk]
  rfl
 show aY (exs (aa defs (n+4)) [.ite _ [.ret _] [],.forT [3,4,5] .seq [.bor 0] aM,.ret _] [sv (.tup (z.map ce)),sv (ofR R),sv (.str (af h)),none,none,none])=_;rw[al,ex,qG e1,jH];cases decide (z.map (·.1)=ac R)with
 |false=>rfl
 |true =>
  rw[Lj,if_neg (by decide),exs,aL,al,qF (xs:=z.map ce) (by simp[evs,ev]),Mb];show aY ((MM.R.back _ _ (aw _ _ [sv (.tup (z.map ce)),sv (ofR R),sv (.str (af h)),none,none,none])).andThen _)=_;rcases nW n R g h (sv (.tup (z.map ce))) b z Z none none none with⟨J,y3,y4,y5,e⟩|⟨J,e⟩
  .rw[e,J,cz,aL,al,cW (fg _ _ _)]
   rfl
  .rw[e,J]
   rfl
def Ct{n:Nat}{R:LL}(g:aB R)(Z:R.flatten.length<=1000)(h:Bool){b:Int×Option Int×PV->Bool}{J:List (Int×Option Int×PV)}(hl:J.length<=10000)(hr:∀r∈J,aa defs (n+4) 30 [.val r.2.2,.val (ofR (bh2 h R r.1 r.2.1)),.val (.str (af (!h))),.val (.str (af h))]=some (.bl (b r))) :
  aa defs (n+7) 30 [.val (.tup [.str "cases",.tup (J.map ce)]),.val (ofR R),.val (.str (af (!h))),.val (.str (af h))]=some (.bl ((if h=true then !decide ([]∈R)else !decide (ac R=[]))&&(decide (J.map (·.1)=ac R)&&J.all b))):=by
 have U:=Cs n R g Z h b J hl hr;generalize J.all b=y at U ⊢;generalize decide (J.map (·.1)=ac R)=z at U ⊢;generalize J.map ce=V at U ⊢;cases h with
 |true =>
  refine gM ?_;rw[ab (d:=aN) rfl rfl];have Y:=jL (n+4) R;exact be rfl (aX rfl (aX rfl (aX rfl (aX rfl (cD rfl (dv (lK (ae rfl Y)) λ_=>ae rfl U))))))
 |false =>
  refine gW ?_;rw[ab (d:=aC) rfl rfl];have Y:=cX (n+3) R g.1 Z;have hz:decide ((0:Int)<((ac R).map PV.int).length)=!decide (ac R=[]):=by
   cases ac R<;>simp
  refine(be rfl (aX rfl (aX rfl (aX rfl (aX rfl (cD rfl (dv ((dE (aH (ae rfl Y)) rfl).trans rfl) λ_=>ae rfl U))))))).trans ?_;rw[hz]
  rfl
def nX (n:Nat) (R V:PV) (h:Bool):aa defs (n+3) 30 [.val (.tup [.str "cases",V]),.val R,.val (.str (af h)),.val (.str (af h))]=some (.bl false):=by
 cases h
 .refine gW ?_;rw[ab (d:=aC) rfl rfl]
  rfl
 .refine gM ?_;rw[ab (d:=aN) rfl rfl]
  rfl
def xl{R:LL}(h:∃t∈R,sub t s=true):qO s R≠none:=λz=>by
 obtain⟨t,J,q⟩:=h;have:=findIdx?_eq_none_iff.mp z t J
 simp_all
def kD(h:∀s∈A,∃t∈B,sub t s=true):below A B=true:=by
 unfold below Ap;rw[JP,mem_map];rintro ⟨s,hs,e⟩;exact xl (h s hs) e
noncomputable def xm(A R:LL):Bool:=A.all λs=>R.any λo=>sub o s
def xn(n:Nat)(A R:LL)(v:PV)(hv:a_ v=some (R.map ofS))(z:R.length<=10000):aa defs (n+2) 58 [.val (ofR A),.val v]=some (.bl (xm A R)):=by
 rw[ab (d:=lH) rfl rfl];have key:=jK (g:=ofS) (xs:=A) (body:=λx l=>exs (aa defs (n+1)) dQ (put l 2 (.val x))) (I:=λW=>∃kk,W=[sv (ofR A),sv v,kk]) (p:=λs=>!R.any λo=>sub o s) (r:=λ_=>.bl false)
  (W:=[sv (ofR A),sv v,none]) ⟨_,rfl⟩ (by
   rintro s hs W ⟨kk,rfl⟩;have J:ev (aa defs (n+1)) (.comp .seq [.bor 1] [2] (.cst (.bl true)) (.call 43 [.bor 0,.bor 1])) [sv (ofR A),sv v,sv (ofS s)]=some (.lst ((R.map λo=>sub o s).map .bl)):=by
    rw[Jx];refine cq (vs:=[v]) (g:=ofS) (by simp[evs,ev]) (by simp[bf,hv]) z λo _=>?_
    exact ae (vs:=[.val (ofS o),.val (ofS s)]) (by simp[evA,b7]) (sA n o s)
   have U:ev (aa defs (n+1)) (.not (.blt .any [(.comp .seq [.bor 1] [2] (.cst (.bl true)) (.call 43 [.bor 0,.bor 1]))])) [sv (ofR A),sv v,sv (ofS s)]=some (.bl (!R.any λo=>sub o s)):=by
    have:ev (aa defs (n+1)) (.blt .any [(.comp .seq [.bor 1] [2] (.cst (.bl true)) (.call 43 [.bor 0,.bor 1]))]) [sv (ofR A),sv v,sv (ofS s)]=some (.bl (R.any λo=>sub o s)):=by
     rw[aH J,mw,cV];simp
    rw[ev,this]
    rfl
   have st:exs (aa defs (n+1)) dQ (put [sv (ofR A),sv v,kk] 2 (.val (ofS s)))=if (!R.any λo=>sub o s)=true then .ret (.bl false)else .next [sv (ofR A),sv v,sv (ofS s)]:=by
    show exs (aa defs (n+1)) [.ite _ [.ret _] []] [sv (ofR A),sv v,sv (ofS s)]=_;rw[al,ex,qG U,jH];split
    .simp[exs,ex,ev]
    .simp[exs]
   exact⟨λh=>by rw[st,if_pos h],λh=>⟨_,⟨_,rfl⟩,by rw[st,if_neg (by rw[h];decide)]⟩⟩)
 show aY (exs (aa defs (n+1)) [.for1 2 .seq [.bor 0] dQ,.ret _] [sv (ofR A),sv v,none])=_;rw[al,cQ (xs:=A.map ofS) (by simp[evs,ev]),show bo [.bor 0] [sv (ofR A),sv v,none]=[sv (ofR A),sv v,none]from rfl];unfold xm;cases hf:A.find? (λs=>!R.any λo=>sub o s)with
 |some s =>
  rw[key.1 s hf];have:(A.all λs=>R.any λo=>sub o s)=false:=by
   cases q:A.all λs=>R.any λo=>sub o s with
   |false=>rfl
   |true =>
    have h1:=Kk.mp q s (mem_of_find?_eq_some hf);have h2:=find?_some hf;rw[h1]at h2;cases h2
  rw[this]
  rfl
 |none =>
  obtain⟨l,⟨kk,rfl⟩,e⟩:=key.2 hf;have:(A.all λs=>R.any λo=>sub o s)=true:=Kk.mpr λs hs=>by
   have:=LK.mp hf s hs;simpa using this
  rw[e,this];simp[exs,ex,ev,aJ]
def sN(n:Nat)(A R:LL)(z:R.length<=10000):aa defs (n+2) 58 [.val (ofR A),.val (ofR R)]=some (.bl (xm A R)):=xn n A R (ofR R) rfl z
def iV(h:below A B=true):∀s∈A,∃t∈B,sub t s=true:=λs hs=>by
 cases e:qO s B with
 |none =>
  unfold below Ap at h;rw[JP]at h;exact absurd (mem_map.mpr ⟨s,hs,e⟩) h
 |some k =>
  obtain⟨z,q,_⟩:=findIdx?_eq_some_iff_getElem.mp e;exact⟨_,getElem_mem z,q⟩
def uL(A R):xm A R=below A R:=by
 cases h:xm A R with
 |true=>exact(kD λs hs=>by
   obtain⟨o,ho,e⟩:=Kl.mp (Kk.mp h s hs);exact⟨o,ho,e⟩).symm
 |false =>
  cases h2:below A R with
  |false=>rfl
  |true =>
   have:xm A R=true:=Kk.mpr λs hs=>Kl.mpr (by
    obtain⟨o,ho,e⟩:=iV h2 s hs;exact⟨o,ho,e⟩)
   simp_all
def uM(n:Nat)(ns:List Int)(k b:Int)(z:0<=k)(r:Rho):ev (aa defs (n+2)) (.call 39 [(.call 38 [.bor 0,(ci k)]),(ci b)]) (some (.brw (ns.map .int))::r)=some (.int (iu (cellOf ns k) b)):=by
 have J:ev (aa defs (n+2)) (.call 38 [.bor 0,(ci k)]) (some (.brw (ns.map .int))::r)=some (.int (cellOf ns k)):=ae (vs:=[.brw (ns.map .int),.val (.int k)]) (by simp[evA,ev]) (Fx (n+1) (.brw (ns.map .int)) ns k rfl z);exact ae (vs:=[.val (.int (cellOf ns k)),.val (.int b)]) (by simp only[evA];rw[J];simp[ev]) (qE (n+1) (cellOf ns k) b)
def Ar(h)(R)(a)(r):(bh2 h R a r).flatten.length<=R.flatten.length:=Js (fk _ _ _) (fk _ _ _)
def jp(n:Nat)(R:LL)(h:Int)(g:aB R):aa defs (n+1) 40 [.val (ofR R),.val (.int h)]=some (ofR (cg h R)):=by
 rw[ab (d:=fT) rfl rfl];have U:R.length<=10000:=by have:=g.2.2;omega
 simp[fT,exs,ex,ev,evs,U];rw[g_ (h:=λY=>ofS (drp h Y))]
 .have e:(R.map λc=>ofS (drp h c))=(R.map (drp h)).map ofS:=by rw[Jx];rfl
  have z:(R.map (drp h)).length<64:=by rw[pe];have:=g.2.2;omega
  rw[e];simp[-List.map_map,eR z,cg]
 .intro c _;simp[ev]
 .intro c hc;have U:=aI (g.1 c hc);have J:c.length<=10000:=by omega
  simp[ev,evs,evA,b7,J];rw[cc (p:=λx=>!decide (x=h)) (h:=PV.int)]
  .simp[drp]
  .intro x _;simp[ev,b7,vZ]
  .intro x _ _;simp[ev,b7]
def my(n:Nat)(R:LL)(g:aB R)(h:Bool)(r:Option Int):aa defs (n+2) 49 [.val (ofR R),.val (.str (af h)),.val (bS r)]=some (ofR (bhd h R r)):=by
 rw[ab (d:=nM) rfl rfl];cases r with
 |none=>rfl
 |some i =>
  cases h
  .exact aX rfl (aX rfl (gR (ae rfl (jp n R i g))))
  .exact aX rfl (cD rfl (ae rfl (kC n R i (by have:=g.2.2;omega))))
theorem jq{α:Type}(f)(g)(cal)(a):∀(W:List α) z s,(∀w∈W,a_ (f w)=some (g w))->z.length+(W.map g).flatten.length<=10000 ->
  ∃s',aw (λx l=>exs cal bG (put l 2 (.val x))) (W.map f) [some a,some (.own z),s]=.next [some a,some (.own (z++(W.map g).flatten)),s']
 | [],z,s,_,_=>⟨s,by simp⟩
 |w::W,z,s,J,h=>by
  rw[Jq,Jq,aw];rw[Jq,flatten_cons,wh]at h;have h2:z.length+(g w).length<=10000:=by omega
  have e:exs cal bG (put [some a,some (.own z),s] 2 (.val (f w)))=.next [some a,some (.own (z++g w)),sv (f w)]:=by
   simp[bG,exs,ex,ev,J w (.head _),h2]
  rw[e];obtain⟨s',U⟩:=jq f g cal a W (z++g w) (sv (f w)) (λw hw=>J w (.tail _ hw)) (by rw[wh];omega);exact⟨s',by rw[flatten_cons,<- J9];exact U⟩
def uN{α:Type}(f)(g)(n:Nat)(v:PV)(W:List α)(hv:a_ v=some (W.map f))(z:∀w∈W,a_ (f w)=some (g w))(J:(W.map g).flatten.length<=10000):aa defs (n+1) 0 [.val v]=some (.lst (W.map g).flatten):=by
 rw[ab (d:=hW) rfl rfl];obtain⟨s',e⟩:=jq f g (aa defs n) (.val v) W [] none z (by simpa using J);rw[nil_append]at e;show aY (exs (aa defs n) (_::_::[_]) [sv v,none,none])=_;simp only[al];rw[dD (xs:=[]) (by simp[ev,evs]),aL];simp only[bY,bZ];rw[cQ (xs:=W.map f) (by simp[evs,ev,hv]),show bo [.bor 0] [sv v,some (.own []),none]=[sv v,some (.own []),none]from rfl,e,cz,aL]
 rfl
def FC(h:ev cal a W=some (.bl p))(h':ev cal b W=some (.bl q)):ev cal (.or a b) W=some (.bl (p||q)):=by
 rw[ev,h];cases p<;>first|rfl|simp[h']
noncomputable def aS(r:LL×PV):PV:=.tup [ofR r.1,r.2]
def As(n)(D:List (LL))(J:D.flatten.length<64):aa defs (n+2) 17 [.val (.lst (D.map ofR))]=some (ofR (sortT D.flatten)):=by
 rw[ab (d:=nJ) rfl rfl];have z:(D.map λG=>G.map ofS).flatten=D.flatten.map ofS:=by rw[map_flatten]
 have em:=uN ofR (λG=>G.map ofS) n (.lst (D.map ofR)) D rfl (λ_ _=>rfl) (by rw[z,pe];omega);rw[z]at em;refine gR (W:=[sv (.lst (D.map ofR))]) ((aH (v:=.lst ((sortT D.flatten).map ofS)) ?_).trans rfl);rw[aH (ae (vs:=[.val (.lst (D.map ofR))]) (by simp[evA]) em),fc,hV,bind_some,eR J]
def jM(h:∀t∈F,bJ t)(z:F.length<=60):aB (sortT F):=⟨λt J=>h t (dC.mp J),sortT_rises F,by rw[sortT_len];exact z⟩
def jN(F):(sortT F).flatten.length=F.flatten.length:=(sortT_perm F).flatten.length_eq
noncomputable def nY(D:List (LL))(R:LL):Bool:=!decide (R.length<D.flatten.length)&&decide (D.map ac).flatten.Nodup&&(sub (ac D.flatten) (ac R)&&below R (sortT D.flatten))
def sO(F):ac (sortT F)=ac F:=by
 rw[<- kB,<- kB];exact sortI_of_perm ((Kb (dd_nodup _) (dd_nodup _)).mpr λx=>by rw[iN,iN];exact(sortT_perm F).flatten.mem_iff)
def Cu(n:Nat)(z:List (LL×PV))(R:LL)(g:aB R)(hf:R.flatten.length<=1000)(hl:z.length<=16)(hs:(z.map (·.1)).flatten.length<=60)(Y:(z.map (·.1)).flatten.flatten.length<=1000)(Z:∀r∈z,aB r.1/\r.1.flatten.length<=1000) :
  aa defs (n+5) 35 [.val (.tup (z.map aS)),.val (ofR R)]=some (.bl (nY (z.map (·.1)) R)):=by
 rw[ab (d:=fJ) rfl rfl];have J:∀t∈(z.map (·.1)).flatten,bJ t:=λt ht=>by
  obtain⟨G,J,ht⟩:=mem_flatten.mp ht;obtain⟨r,U,rfl⟩:=mem_map.mp J;exact(Z r U).1.1 t ht
 have e1:=As (n+2) (z.map (·.1)) (by omega);have e2:=v3 (n+1) (z.map (·.1)) (λG J=>by
  obtain⟨r,U,rfl⟩:=mem_map.mp J;exact⟨(Z r U).1.1,(Z r U).2⟩) (by rw[pe];exact hl)
 have gT:=jM J hs;have e3:=cX (n+2) R g.1 hf;have e4:=cX (n+2) (sortT (z.map (·.1)).flatten) gT.1 (by rw[jN];exact Y);have e5:=ij n R (sortT (z.map (·.1)).flatten) g gT;rw[sO]at e4;have l1:=aI (bB g.1);have l2:=aI (bB J);have e6:=lj (n+3) (.val (ofL (ac R))) (.val (ofL (ac (z.map (·.1)).flatten))) (ac R) (ac (z.map (·.1)).flatten) rfl rfl (by omega) (by omega) (Js (gJ _) l2);have c0:ev (aa defs (n+4)) (.comp .seq [.bor 0] [] (.cst (.bl true)) (.idx (.bor 0) (ci 0))) [sv (.tup (z.map aS)),sv (ofR R),none,none]=some (.lst ((z.map (·.1)).map ofR)):=by
  rw[Jx];exact cq (vs:=[.tup (z.map aS)]) (xs:=z) (g:=aS) (by simp[evs,ev]) (by simp[bf]) (by omega) λr _=>by simp[ev,aS,place,b7]
 refine be (W:=[sv (.tup (z.map aS)),sv (ofR R),none,none]) c0 ?_;simp only[bY,bZ];generalize z.map (·.1)=D at *
 refine be (v:=ofR (sortT D.flatten)) (ae (vs:=[.val (.lst (D.map ofR))]) (by simp[evA]) e1) ?_;simp only[bY,bZ];have c1:ev (aa defs (n+4)) (.or (.cmp .gt (.blt .len [.bor 3]) (.blt .len [.bor 1])) (.not (.call 18 [.bor 2]))) [sv (.tup (z.map aS)),sv (ofR R),sv (.lst (D.map ofR)),sv (ofR (sortT D.flatten))]=some (.bl (decide (R.length<D.flatten.length)||!decide (D.map ac).flatten.Nodup)):=by
  have q1:ev (aa defs (n+4)) (.cmp .gt (.blt .len [.bor 3]) (.blt .len [.bor 1])) [sv (.tup (z.map aS)),sv (ofR R),sv (.lst (D.map ofR)),sv (ofR (sortT D.flatten))]=some (.bl (decide (R.length<D.flatten.length))):=by
   simp[ev,evs,ofR,sortT_len,-length_flatten]
  have q2:ev (aa defs (n+4)) (.not (.call 18 [.bor 2])) [sv (.tup (z.map aS)),sv (ofR R),sv (.lst (D.map ofR)),sv (ofR (sortT D.flatten))]=some (.bl (!decide (D.map ac).flatten.Nodup)):=by
   rw[ev,ae (vs:=[.val (.lst (D.map ofR))]) (by simp[evA]) e2]
   rfl
  exact FC q1 q2
 have c2:ev (aa defs (n+4)) (.and (.call 11 [(.call 5 [.bor 1]),(.call 5 [.bor 3])]) (.call 14 [.bor 1,.bor 3])) [sv (.tup (z.map aS)),sv (ofR R),sv (.lst (D.map ofR)),sv (ofR (sortT D.flatten))]=some (.bl (sub (ac D.flatten) (ac R)&&below R (sortT D.flatten))):=by
  refine dv (ae (vs:=[.val (ofL (ac R)),.val (ofL (ac D.flatten))]) ?_ e6) λ_=>ae (vs:=[.val (ofR R),.val (ofR (sortT D.flatten))]) (by simp[evA]) e5
  simp[evA,ev,e3,e4]
 show aY (exs (aa defs (n+4)) (.ite _ [.ret (.cst (.bl false))] []::[.ret _]) _)=_;rw[al,aT c1];unfold nY;cases h1:decide (R.length<D.flatten.length)with
 |true=>simp[exs,ex,ev]
 |false =>
  cases h2:decide (D.map ac).flatten.Nodup with
  |false=>simp[exs,ex,ev]
  |true =>
   rw[if_neg (by decide),exs,aL,gR c2]
   rfl
theorem lL (n:Nat) (Y:Option MV) (b:LL×PV->Bool):∀(J:List (LL×PV)),(∀r∈J,aa defs n 30 [.val r.2,.val (ofR r.1),.val (.str "weaver"),.val (.str "moth")]=some (.bl (b r)))->∀Z x2:Option MV,
  (J.all b=true->∃y1 y2,aw (λx l=>cf (cH [1,2] x l) λU=>exs (aa defs n) bH U) (J.map aS) [Y,Z,x2]=.next [Y,y1,y2]) /\
  (J.all b=false->aw (λx l=>cf (cH [1,2] x l) λU=>exs (aa defs n) bH U) (J.map aS) [Y,Z,x2]=.ret (.bl false))
 | [],_,Z,x2=>⟨λ_=>⟨Z,x2,rfl⟩,λz=>by cases z⟩
 |r::J,hr,Z,x2=>by
  have e0:=hr r (.head _);have e3:(cf (cH [1,2] (aS r) [Y,Z,x2]) λU=>exs (aa defs n) bH U)=if b r=true then .next [Y,sv (ofR r.1),sv r.2]else .ret (.bl false):=by
   cases hb:b r<;>rw[hb]at e0<;>simp[bH,aS,cH,m3,cf,exs,ex,ev,evs,evB,evA,e0]
  rw[Jq,aw,e3,all_cons];obtain⟨i1,i2⟩:=lL n Y b J (λq hq=>hr q (.tail _ hq)) (sv (ofR r.1)) (sv r.2);cases hb:b r with
  |false=>exact⟨λz=>(by cases z),λ_=>rfl⟩
  |true=>exact⟨λz=>i1 z,λz=>i2 z⟩
def At (n:Nat) (b:LL×PV->Bool) (z:List (LL×PV)) (U:∀r∈z,aa defs n 30 [.val r.2,.val (ofR r.1),.val (.str "weaver"),.val (.str "moth")]=some (.bl (b r))) :
  aa defs (n+1) 36 [.val (.tup (z.map aS))]=some (.bl (z.all b)):=by
 rw[ab (d:=gE) rfl rfl];obtain⟨Y,Z⟩:=lL n (sv (.tup (z.map aS))) b z U none none;show aY (exs _ [.forT _ _ _ _,.ret _] [sv (.tup (z.map aS)),none,none])=_;rw[al,qF (xs:=z.map aS) (by simp[evs,ev,bf])];rw[show bo [ME.bor 0] [some (MV.val (.tup (z.map aS))),none,none]=[sv (.tup (z.map aS)),none,none]from rfl];cases J:z.all b with
 |false =>
  rw[Z J]
  rfl
 |true =>
  obtain⟨y1,y2,e⟩:=Y J;rw[e];simp[cz,aJ,exs,ex,ev]
def v5 {n:Nat}{b:LL×PV->Bool}{J:List (LL×PV)}{R:LL} (g:aB R) (hf:R.flatten.length<=1000) (hl:J.length<=16) (hs:(J.map (·.1)).flatten.length<=60) (U:(J.map (·.1)).flatten.flatten.length<=1000) (hg:∀r∈J,aB r.1/\r.1.flatten.length<=1000) (t h:Bool) (hr:∀r∈J,aa defs (n+4) 30 [.val r.2,.val (ofR r.1),.val (.str "weaver"),.val (.str "moth")]=some (.bl (b r))) :
  aa defs (n+7) 30 [.val (.tup [.str "parts",.tup (J.map aS)]),.val (ofR R),.val (.str (af t)),.val (.str (af h))]=some (.bl (h&&!t&&(nY (J.map (·.1)) R&&J.all b))):=by
 have Y:=Cu n J R g hf hl hs U hg;have Z:=At (n+4) b J hr;generalize J.all b=y at Z ⊢;generalize nY (J.map (·.1)) R=z at Y ⊢;generalize J.map aS=V at Y Z ⊢;cases h with
 |true =>
  refine gM ?_;rw[ab (d:=aN) rfl rfl];cases t
  .exact be rfl (aX rfl (aX rfl (aX rfl (aX rfl (aX rfl (cD rfl (dv (p:=z) (q:=y) (ae rfl Y) λ_=>ae rfl Z)))))))
  .rfl
 |false =>
  refine gW ?_;rw[ab (d:=aC) rfl rfl];cases t<;>rfl
inductive WP:Nat->PV->Prop where
 | leaf {d:Nat}{v:PV} (h:sy v):WP d v
 | one {d:Nat}{v:PV} (k:Bool) (r:Option Int) (h:WP d v):WP (d+1) (.tup [.str (if k=true then "bite" else "knot"),bS r,v])
 | cases {d:Nat} (rows:List (Int×Option Int×PV)) (hl:rows.length<=10000) (h:∀r∈rows,WP d r.2.2):WP (d+1) (.tup [.str "cases",.tup (rows.map ce)])
 | parts {d:Nat} (rows:List (LL×PV)) (hl:rows.length<=16) (hs:(rows.map (·.1)).flatten.length<=60) (hff:(rows.map (·.1)).flatten.flatten.length<=1000) (hg:∀r∈rows,aB r.1/\r.1.flatten.length<=1000) (h:∀r∈rows,WP d r.2):WP (d+1) (.tup [.str "parts",.tup (rows.map aS)])
 | fewer {d:Nat}{v:PV} (A:LL) (gA:aB A) (fA:A.flatten.length<=1000) (h:WP d v):WP (d+1) (.tup [.str "fewer",ofR A,v])
 | either {d:Nat}{v w:PV} (A B:LL) (gA:aB A) (gB:aB B) (fA:A.flatten.length<=1000) (fB:B.flatten.length<=1000) (h:WP d v) (h':WP d w):WP (d+1) (.tup [.str "either",ofR A,v,ofR B,w])
def up1{d:Nat}:∀{e:Nat},d+1<=e->∃x,e=x+1/\d<=x
 |x+1,h=>⟨x,rfl,Nat.le_of_succ_le_succ h⟩
def upN{m c N:Nat}(k:Nat)(h:m+c<=N)(z:k<=c:=by decide):∃n,N=n+k:=⟨N-k,(Nat.sub_add_cancel (Js z (Js (Nat.le_add_left c m) h))).symm⟩
def xc1{v:PV}{r:Rho}(h:cal (f+2000) [.mutD (.p ns)]=some (.tup [v,.dI (.p z)])):evX cal (.call f [true] [.bor 0]) (some (.mutD (.p ns))::r)=some (v,some (.mutD (.p z))::r):=by simp_all [evX,rK,evM,gp,j4,fq]
def xc3(Z:evA cal [e] (some (.mutD (.p ns))::r)=some [.val w])(J:evA cal [U] (some (.mutD (.p ns))::r)=some [.val Y])(h:cal (f+2000) [.mutD (.p ns),.val w,.val Y]=some (.tup [v,.dI (.p z)])):evX cal (.call f [true,false,false] [.bor 0,e,U]) (some (.mutD (.p ns))::r)=some (v,some (.mutD (.p z))::r):=by simp_all [evX,rK,evM,gp,j4,fq]
def nZ(h:ev cal e W=some v):exs cal (.retM e::ms) W=.retM v W:=by
 rw[al,ex,h];rfl
def fY(h:evX cal x W=some (v,l)):exs cal (.retXE x::ms) W=.retM v l:=by
 rw[al,ex,h];rfl
def iz(h:ev cal c W=some (.bl false))(k:exs cal ms W=r):exs cal (.ite c a []::ms) W=r:=by simp_all [aT,exs]
def iW(h:ev cal c W=some (.bl true))(k:exs cal a W=.retM v l):exs cal (.ite c a b::ms) W=.retM v l:=by
 rw[al,aT h,if_pos rfl,k];rfl
def n0(h:evX cal x W=some (v,l))(k:exs cal ms (put l i (.val v))=r):exs cal (.setX i x::ms) W=r:=by
 rw[al,ex,h];exact k
def Au(cal:Cal):Prop:=∀ns,∃(x:Int) (z:List Int),0<=x/\cal (48+2000) [.mutD (.p ns)]=some (.tup [.int x,.dI (.p z)])
def FD(n):Au (aa defs (n+2)):=λns=>by
 rw[gz (d:=ib) (by decide) rfl rfl];by_cases z:ns=[]
 .subst z;refine⟨0,[],L7 _,?_⟩;have e:exs (aa defs (n+1)) ib.body [some (.mutD (.p []))]=.retM (.int 0) [some (.mutD (.p []))]:=iz (by simp[ev,t7]) (nZ (by simp[ev]));show qB _ (exs _ _ [some (.mutD (.p []))])=_;rw[e];simp[qB,d6]
 .obtain⟨l,x,rfl⟩:∃l x,ns=l++[x]:=⟨ns.dropLast,ns.getLast z,(dropLast_concat_getLast z).symm⟩;refine⟨iu x 2049848353892358983,l,ic _ _,?_⟩;have em:=qE n x 2049848353892358983;have e:exs (aa defs (n+1)) ib.body [some (.mutD (.p (l++[x])))]=.retM (.int (iu x 2049848353892358983)) [some (.mutD (.p l))]:=iW (by simp[ev,t7]) (fY (by simp[evX,BA,gp,fq,evA,ev,em]));show qB _ (exs _ _ [some (.mutD (.p (l++[x])))])=_;rw[e];simp[qB,d6]
def cw(h:ev cal e W=some v)(k:evXs cal xs W=some (vs,l)):evXs cal (.pure e::xs) W=some (v::vs,l):=by simp_all [evXs,evX]
def fM(h:evX cal x W=some (v,l)):evXs cal [x] W=some ([v],l):=by simp_all [evXs]
def jO(h:evXs cal xs W=some (vs,l))(z:vs.length<=10000:=by simp):evX cal (.tup xs) W=some (.tup vs,l):=by simp_all [evX,bind_some]
def xc5(h1:evA cal [J] (some (.mutD (.p ns))::r)=some [.val U])(h2:evA cal [Y] (some (.mutD (.p ns))::r)=some [.val Z])(h3:evA cal [e3] (some (.mutD (.p ns))::r)=some [.val w3])(h4:evA cal [e4] (some (.mutD (.p ns))::r)=some [.val w4])(h:cal (f+2000) [.mutD (.p ns),.val U,.val Z,.val w3,.val w4]=some (.tup [v,.dI (.p z)])):evX cal (.call f [true,false,false,false,false] [.bor 0,J,Y,e3,e4]) (some (.mutD (.p ns))::r)=some (v,some (.mutD (.p z))::r):=by simp_all [evX,rK,evM,gp,j4,fq]
def xcO{cal:Cal}{f i:Nat}{W:Rho}{ns z:List Int}{v J U Y Z:PV}{e1 e2 e3 e4:ME}(hi:(W[i]?).join=some (.ownD (.p ns)))(h1:evA cal [e1] W=some [.val J])(h2:evA cal [e2] W=some [.val U])(h3:evA cal [e3] W=some [.val Y])(h4:evA cal [e4] W=some [.val Z])(h:cal (f+2000) [.mutD (.p ns),.val J,.val U,.val Y,.val Z]=some (.tup [v,.dI (.p z)])):evX cal (.call f [true,false,false,false,false] [.bor i,e1,e2,e3,e4]) W=some (v,W.set i (some (.ownD (.p z)))):=by
 simp[evX,rK,evM,gp,h1,h2,h3,h4,h,j4,fq,hi]
def FE{cal:Cal}{i:Nat}{e:ME}{W:Rho}{ns:List Int}(h:ev cal e W=some (.lst (ns.map .int))):ex cal (.setP i e) W=.next (put W i (.ownD (.p ns.reverse))):=by
 rw[ex,h];simp only[br]
theorem lM(n:Nat)(a:Option MV):∀(S P:LL) (U:List Int) (x y:Option MV),OkP P->(∀t∈S,bJ t)->P.length+S.length<=60->U.length<=2*P.length ->
  ∃P' U' x' y',OkP P'/\P'.length<=P.length+S.length/\aw (λv l=>exs (aa defs (n+1)) ff (put l 3 (.val v))) (S.map ofS) [a,some (.own (P.map ofS)),sv (ofL U),x,y]=.next [a,some (.own (P'.map ofS)),sv (ofL U'),x',y']
 | [],P,U,x,y,Y,_,hl,_=>⟨P,U,x,y,Y,by simp,rfl⟩
 |s::S,P,U,x,y,Y,hS,hl,hU=>by
  simp only[length_cons]at hl;have gs:=hS s (.head _);have ea:ev (aa defs (n+1)) (.blt .any [(.comp .seq [.bor 1] [3] (.cst (.bl true)) (.call 43 [.bor 0,.bor 1]))]) [a,some (.own (P.map ofS)),sv (ofL U),sv (ofS s),y]=some (.bl (P.any λt=>sub t s)):=by
   rw[aH (v:=.lst ((P.map λt=>sub t s).map .bl)),mw,cV]
   .simp
   .refine(cq (g:=ofS) (h:=λt=>.bl (sub t s)) (vs:=[.lst (P.map ofS)]) (by simp[evs,ev]) rfl (by omega) λt ht=>?_).trans (by rw[Jx];rfl);exact ae (vs:=[.val (ofS t),.val (ofS s)]) (by simp[evA,b7]) (sA n t s)
  obtain⟨F,hF⟩:∃F,F=s.filter λh=>!decide (h∈U):=⟨_,rfl⟩
  have hm:∀h∈F,0<=h/\h<=59:=λh hh=>gs.2 h (by rw[hF]at hh;exact(JI.mp hh).1)
  have J:ev (aa defs (n+1)) (.comp .seq [.bor 3] [2] (.cmp .notIn (.bor 0) (.bor 1)) (.var 0)) [a,some (.own (P.map ofS)),sv (ofL U),sv (ofS s),y]=some (ofL F):=by
   rw[ev,show evs (aa defs (n+1)) [.bor 3] [a,some (.own (P.map ofS)),sv (ofL U),sv (ofS s),y]=some [ofS s]from by simp[evs,ev],bind_some,vR,vP,bind_some,if_pos (by rw[pe];have:=aI gs;omega),cc (p:=λh=>!decide (h∈U)) (h:=PV.int),hF]
   .rfl
   .intro h _;simp[ev,b7,bL]
   .intro h _ _;simp[ev,b7]
  rw[Jq,aw];have st:∃Z U1 y1,OkP Z/\Z.length<=P.length+1/\U1.length<=2*Z.length/\exs (aa defs (n+1)) ff (put [a,some (.own (P.map ofS)),sv (ofL U),x,y] 3 (.val (ofS s)))=.next [a,some (.own (Z.map ofS)),sv (ofL U1),sv (ofS s),y1]:=by
   have c:ev (aa defs (n+1)) (.not (.blt .any [(.comp .seq [.bor 1] [3] (.cst (.bl true)) (.call 43 [.bor 0,.bor 1]))])) [a,some (.own (P.map ofS)),sv (ofL U),sv (ofS s),y]=some (.bl (!(P.any λt=>sub t s))):=lK ea;cases hq:P.any λt=>sub t s with
   |true =>
    rw[hq]at c;exact⟨P,U,y,Y,by omega,hU,cv ((aT c).trans rfl)⟩
   |false =>
    rw[hq]at c
    match F,hm,J with
    | [],_,J=>exact⟨P,U,sv (ofL []),Y,by omega,hU,cv ((aT c).trans (b8 J rfl))⟩
    | [z],_,J=>exact⟨P,U,sv (ofL [z]),Y,by omega,hU,cv ((aT c).trans (b8 J rfl))⟩
    |z::w::r,hm,J =>
     refine⟨P++[[z,w]],U++[z,w],sv (ofL (z::w::r)),λt ht=>?_,by simp,by simp;omega,?_⟩
     .rcases Kv.mp ht with h|h
      .exact Y t h
      .exact⟨z,w,by simpa using h,hm z (.head _),hm w (.tail _ (.head _))⟩
     .have hn:(((z::w::r).map PV.int).length:Int)=(r.length:Int)+1+1:=by simp
      have aO:∀(k:Int) (v:PV),0<=k->k<=1->((z::w::r).map PV.int)[k.toNat]?=some v->fC (ofL (z::w::r)) (.int k)=some v:=λk v h0 h1 e=>by
       rw[z8,iM h0 (by omega)];exact e
      have cu:cut ((z::w::r).map .int) none (some 2)=[.int z,.int w]:=by
       have h4:min 2 (r.length+1+1)=2:=by omega
       simp[cut,gj,h4]
      rw[JM,show ofL (U++[z,w])=.lst (U.map .int++[.int z,.int w])from JK PV.lst JM];exact cv ((aT c).trans (b8 J (cv ((aT (p:=true) ((dE (x:=.int ((((z::w::r).map PV.int).length:Nat):Int)) (y:=.int 1) rfl rfl).trans (by rw[Fr,hn,JA (by omega)];rfl))).trans (fj (nT rfl (eN (bC ((fW rfl rfl).trans (aO 0 (.int z) (by decide) (by decide) rfl)) (bC ((fW rfl rfl).trans (aO 1 (.int w) (by decide) (by decide) rfl)) rfl))) (by rw[pe];omega)) (cv (ie ((cF rfl (show _=some (PV.lst (cut ((z::w::r).map .int) none (some 2)))from rfl)).trans (by rw[cu,mr,if_pos (by rw[pe];simp;omega)])))))))))
  obtain⟨Z,U1,y1,q1,q2,q3,e⟩:=st;rw[e];obtain⟨P',U',x',y',r1,r2,r3⟩:=lM n a S Z U1 (sv (ofS s)) y1 q1 (λt ht=>hS t (.tail _ ht)) (by omega) q3;exact⟨P',U',x',y',r1,by rw[length_cons];omega,r3⟩
def Av(n:Nat)(R:LL)(g:aB R):∃P,OkP P/\P.length<=60/\aa defs (n+2) 44 [.val (ofR R)]=some (ofR P):=by
 obtain⟨P,U,x,y,h1,h2,e⟩:=lM n (sv (ofR R)) R [] [] none none (λ_ h=>by cases h) g.1 (by have:=g.2.2;simpa using this) (by simp);refine⟨P,h1,by have:=g.2.2;simp at h2;omega,?_⟩;rw[ab (d:=h_) rfl rfl];simp only[map_nil]at e;rw[show ofL []=PV.lst []from rfl]at e;simp[h_,exs,ex,ev,evs,evA,bo,aJ,ofR,e]
def Cv(cal)(R)(g:aB R)(h)(a b x):ev cal (.blt .sum [(.comp .seq [.bor 0] [3] (.cmp .isIn (.bor 1) (.bor 0)) (.bin .shr (.bin .pow (ci 2) (ci 60)) (.blt .len [.bor 0])))]) [sv (ofR R),a,b,sv (.int h),x]=some (.int (ar R h)):=by
 rw[Fz (ns:=(R.filter λs=>decide (h∈s)).map wgt) ?_,sJ];rw[ev,show evs cal [.bor 0] [sv (ofR R),a,b,sv (.int h),x]=some [ofR R]from by simp[evs,ev],bind_some,vR,vP,bind_some,if_pos (by rw[pe];have:=g.2.2;omega),cc (p:=λs=>decide (h∈s)) (h:=λs=>.int (wgt s)),Jx]
 .rfl
 .intro s _;simp[ev,b7,bL]
 .intro s hs _;exact HV _ s (aI (g.1 s hs)) _
noncomputable def kE(f:Int->Int)(p:Option Int×Int)(h:Int):Option Int×Int:=if p.2<f h then(some h,f h)else p
theorem pI(cal:Cal)(R:LL)(g:aB R):∀(hs:List Int) (p:Option Int×Int) (x y:Option MV),∃z J,aw (λv l=>exs cal dZ (put l 3 (.val v))) (hs.map .int) [sv (ofR R),sv (bS p.1),sv (.int p.2),x,y]=.next [sv (ofR R),sv (bS (hs.foldl (kE (ar R)) p).1),sv (.int (hs.foldl (kE (ar R)) p).2),z,J]
 | [],p,x,y=>⟨x,y,rfl⟩
 |h::hs,p,x,y=>by
  have e:=Cv cal R g h (sv (bS p.1)) (sv (.int p.2)) y;rw[Jq,aw];have st:exs cal dZ (put [sv (ofR R),sv (bS p.1),sv (.int p.2),x,y] 3 (.val (.int h)))=.next [sv (ofR R),sv (bS (kE (ar R) p h).1),sv (.int (kE (ar R) p h).2),sv (.int h),sv (.int (ar R h))]:=by
   simp only[bY,bZ,dZ];refine b8 e ?_;simp only[bY,bZ,kE];by_cases q:p.2<ar R h
   .simp[exs,ex,ev,evB,q,bS]
   .simp[exs,ex,ev,evB,q]
  rw[st];exact pI cal R g hs _ _ _
noncomputable def fm(R:LL):Option Int:=((ac R).foldl (kE (ar R)) (none,0)).1
def Aw(n:Nat)(R:LL)(g:aB R):aa defs (n+2) 45 [.val (ofR R)]=some (bS (fm R)):=by
 obtain⟨x,y,e⟩:=pI (aa defs (n+1)) R g (ac R) (none,0) none none;rw[ab (d:=pD) rfl rfl];have z:∀W:Rho,ev (aa defs (n+1)) (.call 42 [.bor 0]) (sv (ofR R)::W)=some (ofL (ac R)):=λW=>ae (vs:=[.val (ofR R)]) (by simp[evA]) (mx n R g.1)
 show aY (exs (aa defs (n+1)) [.set 1 _,.set 2 _,.for1 3 .seq [(.call 42 [.bor 0])] dZ,.ret _] [sv (ofR R),none,none,none,none])=_;refine be (fg _ _ _) (be (fg _ _ _) (dF (l:=[sv (ofR R),sv (bS (fm R)),sv (.int ((ac R).foldl (kE (ar R)) (none,0)).2),x,y]) ?_ (gR (v:=bS (fm R)) ?_)))
 .simp only[bY,bZ];rw[cQ (xs:=(ac R).map .int) (by rw[evs,z];rfl)];show(MM.R.back _ _ (aw _ _ [sv (ofR R),sv (bS none),sv (.int 0),none,none]))=_;rw[e]
  rfl
 .cases fm R<;>simp[ev,bS]
def Ax(n:Nat)(R:LL)(g:aB R)(p:Int):∃r:Option Int,aa defs (n+3) 50 [.val (ofR R),.val (.int p)]=some (bS r):=by
 have e:=Aw n R g;rw[ab (d:=d5) rfl rfl];by_cases z:p % 8=0
 .exact⟨none,by simp[d5,exs,ex,ev,evB,z,bS]⟩
 .by_cases h1:p % 8=1
  .exact⟨some (p / 8 % 60),by simp[d5,exs,ex,ev,evB,h1,bS]⟩
  .exact⟨fm R,by simp[d5,exs,ex,ev,evB,evA,z,h1,e]⟩
def lq (h:k="bare" \/ k="whole" \/ k="weight"):sy (.tup [.str k]):=by
 rcases h with rfl|rfl|rfl
 .exact .inl rfl
 .exact .inr (.inl rfl)
 .exact .inr (.inr (.inl rfl))
def Ay(n:Nat)(R:LL)(g:aB R)(t h:Bool)(p:Int):∃v,sy v/\aa defs (n+3) 52 [.val (ofR R),.val (.str (af t)),.val (.str (af h)),.val (.int p)]=some v:=by
 obtain⟨P,h1,h2,e⟩:=Av n R g;rw[ab (d:=lG) rfl rfl];cases h with
 |false =>
  have k:∀b:Bool,isIn (ofS []) (R.map ofS)=some b->∀W:Rho,ev (aa defs (n+2)) (.idx (.lst [(.tup [(cs "weight")]),(.tup [(cs "whole")])]) (.blt .intOf [(.cmp .isIn (.tup []) (.bor 0))])) (sv (ofR R)::W)=some (.tup [.str ((if b=true then "whole" else "weight":String):PySem.Str)]):=λb J W=>(fW rfl (aH (Cn J rfl rfl))).trans (by cases b<;>rfl)
  exact⟨_,lq (k:=if decide ([]∈R)=true then "whole" else "weight") (by cases decide ([]∈R)<;>simp),cD rfl (k _ (nB [] R) _)⟩
 |true =>
  by_cases z:R=[]
  .subst z;exact⟨_,lq (.inl rfl),rfl⟩
  .have U:((R.length:Int)==0)=false:=by
    cases R with
    |nil=>exact absurd rfl z
    |cons _ _=>simp;omega
   have c:∀W:Rho,ev (aa defs (n+2)) (.cmp .eq (.blt .len [.bor 0]) (ci 0)) (sv (ofR R)::W)=some (.bl false):=λW=>qL (xs:=R.map ofS) (by rw[pe];exact U) rfl
   have d:∀W:Rho,ev (aa defs (n+2)) (.and (.cmp .eq (.bor 1) (cs "weaver")) (.cmp .eq (.bin .mod (.bor 3) (ci 2)) (ci 0))) (sv (ofR R)::sv (.str (af t))::sv (.str (af true))::sv (.int p)::W)=some (.bl (!t&&(p % 2==0))):=λW=>dv (by cases t<;>rfl) λ_=>gI rfl (by decide)
   cases q:(!t&&(p % 2==0))with
   |true =>
    rw[q]at d;exact⟨.tup [.str "pairs",ofR P],.inr (.inr (.inr ⟨P,h1,h2,rfl⟩)),aX rfl (aX (c _) (cD (d _) (eN (bC rfl (bC (ae rfl e) rfl)))))⟩
   |false =>
    rw[q]at d;exact⟨_,lq (.inr (.inr rfl)),aX rfl (aX (c _) (aX (d _) rfl))⟩
theorem n4(cal)(a0 a2 a3 a6)(base off many block)(hb:0<=base)(a9:base<=48)(ho:0<=off)(hm:0<many)(hs:off+many<=12)(hk:fC (.lst [.int 0,.int 4,.int 8,.int 0]) (.int block)=some (.int off)):∀xs left (z:List Int) k U,z.Nodup->(∀x∈z,0<=x/\x<=59)->z.length+xs.length<=100 ->
  ∃(Z:Int) (J:List Int) (k' ao:Option MV),aw (λx l=>exs cal bx (put l 9 (.val x))) xs [a0,sv (.int base),a2,a3,sv (.int left),sv (.int block),a6,sv (.int many),some (.own (z.map .int)),k,U]=.next [a0,sv (.int base),a2,a3,sv (.int Z),sv (.int block),a6,sv (.int many),some (.own (J.map .int)),k',ao]/\J.Nodup/\(∀x∈J,0<=x/\x<=59)/\J.length<=z.length+xs.length
 | [],left,z,k,U,h1,h2,_=>⟨left,z,k,U,rfl,h1,h2,pd _⟩
 |x::xs,left,z,k,U,h1,h2,h3=>by
  rw[length_cons]at h3;have m0:0<=left % many:=Kr _ (by omega);have m1:left % many<many:=Ko _ hm;have b2:z.length<10000:=by omega
  have Y:many<1073741824:=by omega
  rw[aw];have e:exs cal bx (put [a0,sv (.int base),a2,a3,sv (.int left),sv (.int block),a6,sv (.int many),some (.own (z.map .int)),k,U] 9 (.val x))=.next [a0,sv (.int base),a2,a3,sv (.int (left / many)),sv (.int block),a6,sv (.int many),some (.own ((if base+off+left % many∈z then z else z++[base+off+left % many]).map .int)),sv x,sv (.int (base+off+left % many))]:=by
   by_cases q:base+off+left % many∈z
   .simp[bx,exs,ex,ev,evs,evB,hk,hm,Y,bL,q]
   .simp[bx,exs,ex,ev,evs,evB,hk,hm,Y,bL,q,b2]
  rw[e];refine az λZq kq=>?_
  obtain⟨l',J,k',o',f1,f2,f3,f4⟩:=n4 cal a0 a2 a3 a6 base off many block hb a9 ho hm hs hk xs (left / many) (if base+off+left % many∈z then z else z++[base+off+left % many]) (sv x) (sv (.int (base+off+left % many))) (by
   split
   .exact h1
   .rename_i q;exact Lz.mpr ⟨h1,by simp,λa ha b hb e=>by rw[JE.mp hb]at e;exact q (e▸ha)⟩) (by
   split
   .exact h2
   .intro y hy;rcases Kv.mp hy with hy|hy
    .exact h2 y hy
    .rw[JE.mp hy];omega) (by
   split
   .omega
   .rw[wh,length_singleton];omega)
  refine kq ?_;refine⟨l',J,k',o',f1,f2,f3,?_⟩;rw[length_cons];split at f4
  .omega
  .rw[wh,length_singleton]at f4;omega
def sP(h:(evs cal src W).bind (bf k)=some xs)(e:aw (λx l=>exs cal body (put l i (.val x))) xs (bo src W)=.next l)(q:exs cal ms (aJ src W l)=r):exs cal (.for1 i k src body::ms) W=r:=by simp_all [al,cQ]
def Cw(n:Nat)(c base z U:Int)(h1:0<=base)(h2:base<=48)(h3:3<=z)(h4:z<=4)(h5:0<=U)(h6:U<=2):∃s,(bJ s/\s.length<=4)/\aa defs (n+2) 47 [.val (.int c),.val (.int base),.val (.int z),.val (.int U)]=some (ofS s):=by
 rw[ab (d:=fK) rfl rfl];have em:=qE n c 1181783497276652981;generalize iu c 1181783497276652981=l at em;have hp:0<z:=by omega
 have a0:z<1073741824:=by omega
 obtain⟨J,hs⟩:∃x,x=l % z:=⟨_,rfl⟩;obtain⟨size,hz⟩:∃x,x=U+l / z % 3:=⟨_,rfl⟩;have q0:0<=J:=by rw[hs];exact Kr _ (by omega)
 have q1:J<4:=by have:=Ko l hp;omega
 have s0:0<=size:=by omega
 have s1:size<=4:=by omega
 obtain⟨Y,ao,a1,a2,a3,a4,a5⟩:∃Y ao:Int,0<Y/\0<=ao/\ao+Y<=12/\fC (.lst [.int 4,.int 4,.int 4,.int 12]) (.int J)=some (.int Y)/\fC (.lst [.int 0,.int 4,.int 8,.int 0]) (.int J)=some (.int ao):=by
  obtain rfl|rfl|rfl|rfl:J=0\/J=1\/J=2\/J=3:=by omega
  .exact⟨4,0,by decide,by decide,by decide,rfl,rfl⟩
  .exact⟨4,4,by decide,by decide,by decide,rfl,rfl⟩
  .exact⟨4,8,by decide,by decide,by decide,rfl,rfl⟩
  .exact⟨12,0,by decide,by decide,by decide,rfl,rfl⟩
 obtain⟨l',Z,k',o',e,g1,g2,g3⟩:=n4 (aa defs (n+1)) (sv (.int c)) (sv (.int z)) (sv (.int U)) (sv (.int size)) base ao Y J h1 h2 a2 a1 a3 a5 ((range size.toNat).map λ(k:Nat)=>PV.int (k:Int)) (l / z / 3) [] none none Ku (λ_ h=>by cases h) (by simp;omega);have g3:Z.length<=4:=by rw[pe,Mq,length_nil]at g3;omega
 refine⟨sortI Z,⟨⟨nF g1,λh hh=>g2 h (i8.mp hh)⟩,by rw[sortI_len];exact g3⟩,?_⟩;show aY (exs (aa defs (n+1)) (_::_::_::_::_::_::_::_::[_]) [sv (.int c),sv (.int base),sv (.int z),sv (.int U),none,none,none,none,none,none,none])=_;refine be (v:=.int l) (ae (vs:=[.val (.int c),.val (.int 1181783497276652981)]) (by simp[evA,ev]) em) (be (v:=.int J) (by simp[ev,hp,hs]) (be (v:=.int (l / z)) (by simp[ev,hp,a0]) (be (v:=.int size) (by simp[ev,hz]) (be (v:=.int (l / z / 3)) (by simp[ev]) (be (v:=.int Y) (by rw[fW (y:=.int J) rfl rfl];exact a4) ?_)))));simp only[bY,bZ];refine dF (dD (xs:=[]) (by simp[ev,evs])) ?_;simp only[bY,bZ];refine JK aY (sP (r:=.ret (ofS (sortI Z))) (xs:=(range size.toNat).map λ(k:Nat)=>PV.int (k:Int)) ?_ e ?_)
 .rw[show evs (aa defs (n+1)) [.bor 6] [sv (.int c),sv (.int base),sv (.int z),sv (.int U),sv (.int (l / z / 3)),sv (.int J),sv (.int size),sv (.int Y),some (.own []),none,none]=some [.int size]from by simp[evs,ev],bind_some,nE s0 (by omega)]
 .rw[al,cW (v:=ofS (sortI Z))]
  .rfl
  .refine(aH (v:=ofL (sortI Z)) ?_).trans rfl;rw[aH (v:=ofL Z) rfl,fc,hV,bind_some,pz (by omega)]
noncomputable abbrev pG(G:LL):PV:=.lst (G.map ofS)
def Cy(cal)(z a1 J U)(s)(G)(hG:G.length<=60)(Y:∀t∈G,t.length<=60):ev cal (.blt .any [(.comp .seq [.bor 5] [2] (.cst (.bl true)) (.blt .any [(.comp .seq [.bor 0] [1] (.cst (.bl true)) (.cmp .isIn (.bor 0) (.bor 1)))]))]) [z,a1,sv (ofS s),J,U,sv (pG G)]=some (.bl ((G.map λt=>(t.map λx=>decide (x∈s)).any id).any id)):=by
 have e:∀(xs:List Bool),aA .any [.lst (xs.map .bl)]=some (.bl (xs.any id)):=λxs=>by rw[mw,cV];rfl
 rw[aH (v:=.lst ((G.map λt=>(t.map λx=>decide (x∈s)).any id).map .bl)),e];rw[Jx];refine cq (vs:=[pG G]) (xs:=G) (g:=ofS) rfl rfl (by omega) λt Z=>?_
 rw[aH (v:=.lst ((t.map λx=>decide (x∈s)).map .bl)),e]
 .rfl
 rw[Jx];refine cq (vs:=[ofS t]) (xs:=t) (g:=.int) rfl rfl (by have:=Y t Z;omega) λx _=>?_
 simp[ev,b7,bL]
theorem iX(cal)(Z a1)(s):∀(D:List (LL)) (z:LL) (J:List (LL)) (y:Option MV),(∀t∈D.flatten,t.length<=60)->z.length+D.flatten.length<=60->J.length+D.length<=60 ->
  ∃(U:LL) (Y:List (LL)) (y':Option MV),aw (λx l=>exs cal dO (put l 5 (.val x))) (D.map pG) [Z,a1,sv (ofS s),sv (pG z),some (.own (J.map pG)),y]=.next [Z,a1,sv (ofS s),sv (pG U),some (.own (Y.map pG)),y']/\(U++Y.flatten).Perm (z++J.flatten++D.flatten)/\Y.length<=J.length+D.length
 | [],z,J,y,_,_,_=>⟨z,J,y,rfl,by simp,pd _⟩
 |G::D,z,J,y,h1,h2,h3=>by
  rw[flatten_cons]at h1 h2;rw[wh]at h2;rw[length_cons]at h3;rw[Jq,aw];have et:=Cy cal Z a1 (sv (pG z)) (some (.own (J.map pG))) s G (by omega) λt ht=>h1 t (LN _ ht)
  generalize ((G.map λt=>(t.map λx=>decide (x∈s)).any id).any id)=b at et;have aO:∀t∈D.flatten,t.length<=60:=λt ht=>h1 t (J4 _ ht)
  cases b with
  |true =>
   have e:exs cal dO (put [Z,a1,sv (ofS s),sv (pG z),some (.own (J.map pG)),y] 5 (.val (pG G)))=.next [Z,a1,sv (ofS s),sv (pG (z++G)),some (.own (J.map pG)),sv (pG G)]:=by
    refine cv ?_;simp only[bY,bZ];rw[aT et,if_pos rfl];refine cv (ie ?_);rw[cF rfl rfl,mr,if_pos (by rw[pe,pe];omega),<- JM]
   rw[e];obtain⟨n',f',y',q1,q2,q3⟩:=iX cal Z a1 s D (z++G) J (sv (pG G)) aO (by rw[wh];omega) (by omega);refine⟨n',f',y',q1,q2.trans ?_,by rw[length_cons];omega⟩;rw[flatten_cons,<- J9];refine Perm.append_right _ ?_;rw[J9,J9];exact Perm.append_left _ Lf
  |false =>
   have e:exs cal dO (put [Z,a1,sv (ofS s),sv (pG z),some (.own (J.map pG)),y] 5 (.val (pG G)))=.next [Z,a1,sv (ofS s),sv (pG z),some (.own ((J++[G]).map pG)),sv (pG G)]:=by
    refine cv ?_;simp only[bY,bZ];rw[aT et,if_neg (by decide)];have a8:J.length<10000:=by omega
    simp[exs,ex,ev,a8]
   rw[e];obtain⟨n',f',y',q1,q2,q3⟩:=iX cal Z a1 s D z (J++[G]) (sv (pG G)) aO (by omega) (by rw[wh,length_singleton];omega);rw[wh,length_singleton]at q3;refine⟨n',f',y',q1,q2.trans ?_,by rw[length_cons];omega⟩;simp
theorem lN(cal)(U):∀R A (P:List (LL)) Z x3 x4 Y,P.flatten.Perm A->P.length<=A.length->A.length+R.length<=50->(∀t∈A++R,t.length<=60) ->
  ∃(P':List (LL)) (y2 y3 y4 y5:Option MV),aw (λx l=>exs cal dP (put l 2 (.val x))) (R.map ofS) [U,sv (.lst (P.map pG)),Z,x3,x4,Y]=.next [U,sv (.lst (P'.map pG)),y2,y3,y4,y5]/\P'.flatten.Perm (A++R)/\P'.length<=(A++R).length
 | [],A,P,Z,x3,x4,Y,p,hl,_,_=>⟨P,Z,x3,x4,Y,rfl,by simpa using p,by simpa using hl⟩
 |s::R,A,P,Z,x3,x4,Y,p,hl,h1,h2=>by
  rw[length_cons]at h1;rw[Jq,aw];refine az λZq kq=>?_
  have hP:=p.length_eq;obtain⟨z,J,y,e1,e2,e3⟩:=iX cal U (sv (.lst (P.map pG))) s P [] [] Y (λt ht=>h2 t (LN _ (p.mem_iff.mp ht))) (by rw[length_nil,hP];omega) (by rw[length_nil];omega);simp only[nil_append,flatten_nil]at e2;have hn:=e2.length_eq;rw[wh]at hn;rw[length_nil,KQ]at e3;have e:exs cal dP (put [U,sv (.lst (P.map pG)),Z,x3,x4,Y] 2 (.val (ofS s)))=.next [U,sv (.lst ((J++[z++[s]]).map pG)),sv (ofS s),sv (pG z),some (.own (J.map pG)),y]:=by
   refine b8 (v:=pG []) (by simp[ev,evs]) (fj (dD (xs:=[]) (by simp[ev,evs])) (sP (xs:=P.map pG) (by simp[evs,ev]) e1 (cv (ie ?_))));have q:ev cal (.bin .add (.bor 3) (.lst [.var 2])) [U,sv (.lst (P.map pG)),sv (ofS s),sv (pG z),some (.own (J.map pG)),y]=some (pG (z++[s])):=by
    rw[cF (x:=pG z) (y:=.lst [ofS s]) rfl (by simp[ev,evs]),mr,if_pos (by simp;omega)];simp
   show ev cal _ [U,sv (.lst (P.map pG)),sv (ofS s),sv (pG z),some (.own (J.map pG)),y]=_;rw[cF (x:=.lst (J.map pG)) (y:=.lst [pG (z++[s])]) rfl (by rw[ev,evs,q];simp[evs]),mr,if_pos (by simp;omega)];simp
  refine kq ?_;rw[e];obtain⟨P',y2,y3,y4,y5,f1,f2,f3⟩:=lN cal U R (A++[s]) (J++[z++[s]]) (sv (ofS s)) (sv (pG z)) (some (.own (J.map pG))) y (by
   rw[L5,flatten_singleton,<- J9];exact Perm.append_right _ ((Lf.trans e2).trans p)) (by simp;omega) (by simp;omega) (by simpa using h2)
  exact⟨P',y2,y3,y4,y5,f1,by simpa using f2,by simpa using f3⟩
def SmR(R:LL):Prop:=aB R/\R.length<=8/\R.flatten.length<=60
def n5{R:LL}(g:SmR R)(r):SmR (bhd h R r):=by
 refine⟨dw g.1 r,Js ?_ g.2.1,Js (fk h R r) g.2.2⟩;cases r<;>first|exact pd _|(cases h<;>first|exact Lh _ _|(show(sortT _).length<=_;rw[sortT_len,pe];exact pd _))
def Cz(n:Nat)(R:LL)(g:SmR R):∃D:List (LL),aa defs (n+1) 51 [.val (ofR R)]=some (.lst (D.map ofR))/\D.length<=8/\D.flatten.length<=8/\D.flatten.flatten.length<=60/\∀Q∈D,SmR Q:=by
 obtain⟨P,y2,y3,y4,y5,Z,U,e3⟩:=lN (aa defs n) (sv (ofR R)) R [] [] none none none none (by simp) (pd _) (by have:=g.2.1;simp;omega) (λt Y=>aI (g.1.1 t (by simpa using Y)));rw[nil_append]at U e3;have J:(P.map sortT).flatten.Perm R:=by
  refine Perm.trans ?_ U;clear Z U e3
  induction P with
  |nil=>exact .nil
  |cons G P ih=>simp only[Jq,flatten_cons];exact(sortT_perm G).append ih
 have hf:=J.flatten.length_eq;have hm:∀Q∈P.map sortT,Q.Sublist (P.map sortT).flatten:=λQ z=>sublist_flatten_of_mem z
 have hb:∀Q∈P.map sortT,SmR Q:=λQ z=>by
  have l1:=(hm Q z).length_le;have l2:=(sublist_flatten_of_mem (LZ (f:=flatten) z)).length_le;rw[<- flatten_flatten]at l2;rw[J.length_eq]at l1;rw[hf]at l2;have:=g.2.1;have:=g.2.2;refine⟨⟨λt Y=>g.1.1 t (J.mem_iff.mp ((hm Q z).subset Y)),?_,by omega⟩,by omega,by omega⟩;obtain⟨G,_,rfl⟩:=mem_map.mp z;exact sortT_rises G
 refine⟨P.map sortT,?_,by rw[pe];have:=g.2.1;omega,by rw[J.length_eq];exact g.2.1,by rw[hf];exact g.2.2,hb⟩;rw[ab (d:=lF) rfl rfl];show aY (exs (aa defs n) [.set 1 _,.for1 2 .seq [.bor 0] dP,.ret _] [sv (ofR R),none,none,none,none,none])=_;refine be (v:=.lst []) (by simp[ev,evs]) (JK aY (sP (r:=.ret (.lst ((P.map sortT).map ofR))) (xs:=R.map ofS) (by simp[evs,ev]) Z ?_));rw[al,cW (v:=.lst ((P.map sortT).map ofR))]
 .rfl
 rw[Jx];refine cq (vs:=[.lst (P.map pG)]) (xs:=P) (g:=pG) rfl rfl (by have:=g.2.1;omega) λG hG=>?_
 have hl:G.length<64:=by
  have:=(hb (sortT G) (LZ hG)).2.1;rw[sortT_len]at this;omega
 refine(aH (v:=.lst ((sortT G).map ofS)) ?_).trans rfl;rw[aH (v:=pG G) rfl,fc,hV,bind_some,eR hl]
def HY:∀(a b:List Int),a.Nodup->a ⊆ b->a.length<=b.length:=λa=>by
 induction a with
 |nil=>intro b _ _;exact JZ _
 |cons x a ih =>
  intro b Y hs;obtain⟨Z,n2⟩:=JV.mp Y;have z:=hs (.head _);have:=ih (b.erase x) n2 λy U=>by
   have J:y≠x:=λe=>Z (e▸U)
   exact(mem_erase_of_ne J).mpr (hs (.tail _ U))
  rw[length_erase_of_mem z]at this;have:=length_pos_of_mem z;rw[length_cons];omega
def xo{l:List Int}(h:l.Pairwise (· < ·)):l.Nodup:=h.imp λh e=>by omega
def v6{R:LL} :(∃s∈bhd t R (some h),k∈s)->(∃s∈R,k∈s)/\k≠h:=by
 rintro ⟨s,hs,z⟩;cases t with
 |true =>
  obtain⟨h1,h2⟩:=JI.mp (show s∈R.filter _ from hs);exact⟨⟨s,h1,z⟩,λe=>by subst e;simp[z]at h2⟩
 |false =>
  obtain⟨t,J,rfl⟩:=mem_map.mp (dC.mp (show s∈sortT _ from hs));obtain⟨h1,h2⟩:=JI.mp z;exact⟨⟨t,J,h1⟩,by simpa using h2⟩
def uO{R:LL}(U:h∈ac R):(ac (bhd t R (some h))).length+1<=(ac R).length:=by
 have:=HY (h::ac (bhd t R _)) _ (JV.mpr ⟨λz=>(v6 (aQ.mp z)).2 rfl,xo (fh _)⟩) λy J=>by
  rcases Jp.mp J with rfl|J
  .exact U
  .exact aQ.mpr (v6 (aQ.mp J)).1
 simpa using this
theorem WP.le{d:Nat}{v:PV}(h:WP d v):∀{e:Nat},d<=e->WP e v:=by
 induction h with
 |leaf h=>exact λ_=>.leaf h
 |one k r _ ih=>intro e z;obtain⟨e,rfl,hx⟩:=up1 z;exact .one k r (ih hx)
 |cases rows Y _ ih=>intro e z;obtain⟨e,rfl,hx⟩:=up1 z;exact .cases rows Y λr J=>ih r J hx
 |parts rows a b c d _ ih=>intro e z;obtain⟨e,rfl,hx⟩:=up1 z;exact .parts rows a b c d λr J=>ih r J hx
 |fewer A a b _ ih=>intro e z;obtain⟨e,rfl,hx⟩:=up1 z;exact .fewer A a b (ih hx)
 |either A B a b c d _ _ ih U=>intro e z;obtain⟨e,rfl,hx⟩:=up1 z;exact .either A B a b c d (ih hx) (U hx)
def qP(k:Nat)(R:LL)(t w:Bool)(v:PV):Prop:=
 (w=t/\∃h s,v=.tup [.str (if t=true then "bite" else "knot"),.int h,s]/\WP k s)\/(w=false/\[]∈R/\v=.tup [.str "whole"])\/(w=true/\R=[]/\v=.tup [.str "bare"])\/(w=(!t)/\WP (k+1) v)
theorem qP.wp{R:LL}(h:qP k R t w v):WP (k+1) v:=by
 rcases h with⟨_,a,s,rfl,h⟩|⟨_,_,rfl⟩|⟨_,_,rfl⟩|⟨_,h⟩
 .exact .one t (some a) h
 .exact .leaf (lq (.inr (.inl rfl)))
 .exact .leaf (lq (.inl rfl))
 .exact h
def Az(cal:Cal)(k:Nat):Prop:=∀R t,SmR R->(ac R).length<=k->∃w v,qP k R t w v/\cal 46 [.val (ofR R),.val (.str (af t))]=some (.tup [.str (af w),v])
theorem n6(cal:Cal){k:Nat}(hT:Az cal k)(R:LL)(g:SmR R)(hw:¬ []∈R)(hb:R≠[])(hk:(ac R).length<=k+1)(t:Bool)(eK:∀h,cal 40 [.val (ofR R),.val (.int h)]=some (ofR (cg h R)))(eB:∀h,cal 41 [.val (ofR R),.val (.int h)]=some (ofR (cB h R))):∀(hs:List Int) (J:List (Int×Option Int×PV)) (x y:Option MV),(∀h∈hs,h∈ac R)->J.length+hs.length<=100->(∀r∈J,WP k r.2.2) ->
  (∃h s,WP (k+1) s/\aw (λv l=>exs cal cM (put l 3 (.val v))) (hs.map .int) [sv (ofR R),sv (.str (af t)),some (.own (J.map ce)),x,y]=.ret (.tup [.str (af t),.tup [.str (if t=true then "bite" else "knot"),.int h,s]])) \/
  ∃(U:List (Int×Option Int×PV)) (x' y':Option MV),aw (λv l=>exs cal cM (put l 3 (.val v))) (hs.map .int) [sv (ofR R),sv (.str (af t)),some (.own (J.map ce)),x,y]=.next [sv (ofR R),sv (.str (af t)),some (.own (U.map ce)),x',y']/\U.length<=100/\∀r∈U,WP k r.2.2
 | [],J,x,y,_,Y,Z=>.inr ⟨J,x,y,rfl,by simpa using Y,Z⟩
 |h::hs,J,x,y,hm,Y,Z=>by
  rw[length_cons]at Y;have hh:=hm h (.head _);obtain⟨w,v,ok,e⟩:=hT (bhd t R (some h)) (!t) (n5 g _) (by have:=uO (t:=t) hh;omega);rw[Jq,aw];have e1:ex cal (.ite (.cmp .eq (.bor 1) (cs "weaver")) [.set 4 (.call 46 [(.call 40 [.bor 0,.bor 3]),(cs "moth")])] [.set 4 (.call 46 [(.call 41 [.bor 0,.bor 3]),(cs "weaver")])]) [sv (ofR R),sv (.str (af t)),some (.own (J.map ce)),sv (.int h),y]=.next [sv (ofR R),sv (.str (af t)),some (.own (J.map ce)),sv (.int h),sv (.tup [.str (af w),v])]:=by
   cases t
   .rw[aT (p:=true) rfl];exact cv (ie (ae (ii (ae rfl (eK h)) rfl) e))
   .rw[aT (p:=false) rfl];exact cv (ie (ae (ii (ae rfl (eB h)) rfl) e))
  by_cases q:w=t
  .subst q;refine .inl ⟨h,v,ok.wp,?_⟩;rw[show exs cal cM (put [sv (ofR R),sv (.str (af w)),some (.own (J.map ce)),x,y] 3 (.val (.int h)))=.ret (.tup [.str (af w),.tup [.str (if w=true then "bite" else "knot"),.int h,v]])from fj e1 (by cases w<;>exact HX rfl rfl)]
  .obtain rfl:w=(!t):=by cases w<;>cases t<;>simp_all
   obtain⟨a,s,rfl,ao⟩:∃(a:Int) (s:PV),v=.tup [.str (if (!t)=true then "bite" else "knot"),.int a,s]/\WP k s:=by
    rcases ok with⟨_,z⟩|⟨a,b,_⟩|⟨a,b,_⟩|⟨a,_⟩
    .exact z
    .cases t with
     |false=>cases a
     |true=>exact absurd (JI.mp b).1 hw
    .cases t with
     |true=>cases a
     |false =>
      have:=JK List.length b;rw[show(bhd false R (some h)).length=R.length from by show(sortT _).length=_;rw[sortT_len,pe]]at this;exact absurd (Lx.mp this) hb
    .cases t<;>cases a
   have aO:(J.map ce).length<10000:=by rw[pe];omega
   have e2:exs cal cM (put [sv (ofR R),sv (.str (af t)),some (.own (J.map ce)),x,y] 3 (.val (.int h)))=.next [sv (ofR R),sv (.str (af t)),some (.own ((J++[(h,some a,s)]).map ce)),sv (.int h),sv (.tup [.str (af (!t)),.tup [.str (if (!t)=true then "bite" else "knot"),.int a,s]])]:=fj e1 (by
    rw[JM];cases t<;>exact sK rfl (cv (nT (v:=ce (h,some a,s)) rfl rfl aO)))
   rw[e2];exact n6 cal hT R g hw hb hk t eK eB hs (J++[(h,some a,s)]) _ _ (λy hy=>hm y (.tail _ hy)) (by rw[wh,length_singleton];omega) λr a0=>by
    rcases Kv.mp a0 with z|z
    .exact Z r z
    .rw[JE.mp z];exact ao
theorem v7(n):∀k,Az (aa defs (n+k+2)) k
 |k,R,t,g,U=>by
  by_cases hw:[]∈R
  .refine⟨false,_,.inr (.inl ⟨rfl,hw,rfl⟩),?_⟩;rw[ab (d:=d4) rfl rfl];exact cD (Cn ((nB [] R).trans (by rw[JA hw])) rfl rfl) rfl
  .have hi:=(nB [] R).trans (by rw[JQ hw]);by_cases Y:R=[]
   .refine⟨true,_,.inr (.inr (.inl ⟨rfl,Y,rfl⟩)),?_⟩;rw[ab (d:=d4) rfl rfl];subst Y
    rfl
   .match k,U with
    |0,U =>
     obtain⟨s,hs⟩:=exists_mem_of_ne_nil R Y;obtain⟨x,hx⟩:=exists_mem_of_ne_nil s λz=>hw (z▸hs)
     have:=aQ.mpr ⟨s,hs,hx⟩
     simp_all
    |k+1,U =>
     have J:((R.length:Int)==0)=false:=by
      cases R<;>grind
     have ao:=aI (bB g.1.1);rcases n6 (aa defs (n+k+2)) (v7 n k) R g hw Y U t (λh=>jp (n+k+1) R h g.1) (λh=>kC (n+k+1) R h (by have:=g.2.1;omega)) (ac R) [] none none (λh hh=>hh) (by simp;omega) (λr Z=>by cases Z)with⟨h,s,hs,e⟩|⟨rows,x,y,e,h1,h2⟩
     .refine⟨t,_,.inl ⟨rfl,h,s,rfl,hs⟩,?_⟩;rw[ab (d:=d4) rfl rfl];refine aX (Cn hi rfl rfl) (aX (qL (xs:=R.map ofS) (by rw[pe,J]) rfl) (dF (dD (xs:=[]) rfl) ?_));exact JK aY (FA (xs:=(ac R).map .int) (Am (ae rfl (mx (n+(k+1)) R g.1.1))) e)
     .refine⟨!t,.tup [.str "cases",.tup (rows.map ce)],.inr (.inr (.inr ⟨rfl,.cases rows (by omega) λr Z=>(h2 r Z).le (by omega)⟩)),?_⟩;rw[ab (d:=d4) rfl rfl];refine aX (Cn hi rfl rfl) (aX (qL (xs:=R.map ofS) (by rw[pe,J]) rfl) (dF (dD (xs:=[]) rfl) ?_));exact JK aY (sP (r:=.ret (.tup [.str (af !t),.tup [.str "cases",.tup (rows.map ce)]])) (xs:=(ac R).map .int) (Am (ae rfl (mx (n+(k+1)) R g.1.1))) e (by cases t<;>exact Ak rfl))
def FF(h1:ev cal e W=some w)(h2:evX cal x W=some (y,l))(z:cal g [.val w,.val y]=some r):evX cal (.fn2 g e x) W=some (r,l):=by simp_all [evX]
def FG(z:(W[i]?).join=some (.own ys))(h:evX cal x W=some (v,l))(ho:(l[i]?).join=some (.own xs))(J:xs.length<10000)(k:exs cal ms (put l i (.own (xs++[v])))=r):exs cal (.appX i x::ms) W=r:=by
 rw[al,ex,z]
 simp_all
structure jr(cal:Cal):Prop where
 next:Au cal
 hol:∀R,SmR R->cal 42 [.val (ofR R)]=some (ofL (ac R))
 deed:∀R h r,SmR R->cal 49 [.val (ofR R),.val (.str (af h)),.val (bS r)]=some (ofR (bhd h R r))
 reply:∀R p,SmR R->∃r,cal 50 [.val (ofR R),.val (.int p)]=some (bS r)
 split:∀R,SmR R->∃D:List (LL),cal 51 [.val (ofR R)]=some (.lst (D.map ofR))/\D.length<=8/\D.flatten.length<=8/\D.flatten.flatten.length<=60/\∀Q∈D,SmR Q
 tried:Az cal 4
 plain:∀R t h p,SmR R->∃v,sy v/\cal 52 [.val (ofR R),.val (.str (af t)),.val (.str (af h)),.val (.int p)]=some v
def lr(n):jr (aa defs (n+6)):=⟨FD (n+4),λR g=>mx (n+5) R g.1.1,λR h r g=>my (n+4) R g.1 h r,λR p g=>Ax (n+3) R g.1 p,λR g=>Cz (n+5) R g,v7 n 4,λR t h p g=>Ay (n+3) R g.1 t h p⟩
def iY(cal:Cal)(j:Nat):Prop:=∀ns R (t h:Bool),SmR R->∃v z,cal (56+2000) [.mutD (.p ns),.val (ofR R),.val (.str (af t)),.val (.str (af h)),.val (.int j)]=some (.tup [v,.dI (.p z)])/\WP (7+j) v
theorem lO(cal)(C:jr cal)(G:iY cal 0)(R)(g:SmR R)(h):∀(hs ns:List Int) (J:List (Int×Option Int×PV)) (Y Z x7:Option MV),J.length+hs.length<=100->(∀r∈J,WP 7 r.2.2) ->
  ∃(aO:List Int) (U:List (Int×Option Int×PV)) (y5 y6 y7:Option MV),aw (λx l=>exs cal fU (put l 5 (.val x))) (hs.map .int) [some (.mutD (.p ns)),sv (ofR R),sv (.str (af h)),some (.own (J.map ce)),sv (.str (af !h)),Y,Z,x7]=.next [some (.mutD (.p aO)),sv (ofR R),sv (.str (af h)),some (.own (U.map ce)),sv (.str (af !h)),y5,y6,y7]/\U.length<=100/\∀r∈U,WP 7 r.2.2
 | [],ns,J,Y,Z,x7,hl,hr=>⟨ns,J,Y,Z,x7,rfl,by simpa using hl,hr⟩
 |a::hs,ns,J,Y,Z,x7,hl,hr=>by
  refine az λZq kq=>?_
  rw[length_cons]at hl;obtain⟨y,n1,_,e1⟩:=C.next ns;have g1:=n5 (h:=!h) g (some a);obtain⟨r,e2⟩:=C.reply (bhd (!h) R (some a)) y g1;obtain⟨v,n2,e3,hv⟩:=G n1 (bhd h (bhd (!h) R (some a)) r) (!h) h (n5 g1 r);have a3:(J.map ce).length<10000:=by rw[pe];omega
  have e:exs cal fU (put [some (.mutD (.p ns)),sv (ofR R),sv (.str (af h)),some (.own (J.map ce)),sv (.str (af !h)),Y,Z,x7] 5 (.val (.int a)))=.next [some (.mutD (.p n2)),sv (ofR R),sv (.str (af h)),some (.own (J.map ce++[ce (a,r,v)])),sv (.str (af !h)),sv (.int a),sv (ofR (bhd (!h) R (some a))),sv (bS r)]:=
   b8 (ae rfl (C.deed R (!h) (some a) g)) (n0 (FF rfl (xc1 e1) e2) (FG rfl (jO (cw rfl (cw rfl (fM (xc5 (ii (ae rfl (C.deed _ h r g1)) rfl) rfl rfl rfl e3))))) rfl a3 rfl))
  refine kq ?_;rw[Jq,aw,e];have:=lO cal C G R g h hs n2 (J++[(a,r,v)]) (sv (.int a)) (sv (ofR (bhd (!h) R (some a)))) (sv (bS r)) (by rw[wh,length_singleton];omega) λq hq=>by
   rcases Kv.mp hq with z|z
   .exact hr q z
   .rw[JE.mp z];exact hv
  rw[JM]at this;exact this
def AA(n:Nat)(C:jr (aa defs n))(G:iY (aa defs n) 0)(ns:List Int)(R:LL)(g:SmR R)(h:Bool):∃v J,aa defs (n+1) (53+2000) [.mutD (.p ns),.val (ofR R),.val (.str (af h))]=some (.tup [v,.dI (.p J)])/\WP 8 v:=by
 obtain⟨J,z,U,Y,Z,e,h1,h2⟩:=lO (aa defs n) C G R g h (ac R) ns [] none none none (by have:=aI (bB g.1.1);simp;omega) (λr hr=>by cases hr);refine⟨.tup [.str "cases",.tup (z.map ce)],J,?_,.cases z (by omega) h2⟩;rw[gz (d:=iT) (by decide) rfl rfl];have k:exs (aa defs n) iT.body [some (.mutD (.p ns)),sv (ofR R),sv (.str (af h)),none,none,none,none,none]=.retM (.tup [.str "cases",.tup (z.map ce)]) [some (.mutD (.p J)),sv (ofR R),sv (.str (af h)),some (.own (z.map ce)),sv (.str (af !h)),U,Y,Z]:=fj (dD (xs:=[]) rfl) (b8 (v:=.str (af !h)) (by cases h<;>rfl) (sP (Am (ae rfl (C.hol R g))) e (nZ rfl)));exact JK (qB _) k
def x_tupOf(h:evX cal x W=some (.lst xs,l)):evX cal (.tupOf x) W=some (.tup xs,l):=by simp_all [evX]
def x_compS(h:(evs cal [src] W).bind (bf .seq)=some xs)(z:xs.length<=10000)(h2:dg cal js k e f mask es xs W=some (ws,l)):evX cal (.compS src js k e f mask es) W=some (.lst ws,l):=by
 obtain⟨vs,J,U⟩:=gk.mp h;rw[evX,J,bind_some,U,bind_some,if_pos z,h2];rfl
theorem Db (cal:Cal) {j:Nat} (G:iY cal j) (J U Y Z a6:Option MV):∀(D:List (LL)) (ns:List Int),(∀Q∈D,SmR Q)->∃(z:List (LL×PV)) (a0:List Int),dg cal [0,4] .pair (.var 0) 56 [true,false,false,false,false] [.bor 1,.bor 0,(cs "weaver"),(cs "moth"),.bor 2] (D.map ofR) [some (.mutD (.p ns)),J,U,Y,sv (.int j),Z,a6]=some (z.map aS,[some (.mutD (.p a0)),J,U,Y,sv (.int j),Z,a6])/\z.map (·.1)=D/\∀r∈z,WP (7+j) r.2
 | [],ns,_=>⟨[],ns,rfl,rfl,λr hr=>by cases hr⟩
 |Q::D,ns,hD=>by
  obtain⟨v,n1,e,hv⟩:=G ns Q false true (hD Q (.head _));obtain⟨z,n2,e2,h1,h2⟩:=Db cal G J U Y Z a6 D n1 λq hq=>hD q (.tail _ hq)
  refine⟨(Q,v)::z,n2,?_,by rw[Jq,h1],λr hr=>?_⟩
  .rw[Jq,dg,show evM cal [true,false,false,false,false] [.bor 1,.bor 0,(cs "weaver"),(cs "moth"),.bor 2] (kS [0,4] [some (.mutD (.p ns)),J,U,Y,sv (.int j),Z,a6] (ofR Q))=some [.mutD (.p ns),.val (ofR Q),.val (.str (af false)),.val (.str (af true)),.val (.int j)]from rfl,show ev cal (.var 0) (kS [0,4] [some (.mutD (.p ns)),J,U,Y,sv (.int j),Z,a6] (ofR Q))=some (ofR Q)from rfl,bind_some,bind_some,e];show(Option.bind (some (.tup [ofR Q,v])) λr=>(Option.bind (some [some (.mutD (.p n1)),J,U,Y,sv (.int j),Z,a6]) λl=>(dg cal _ _ _ _ _ _ _ l).map λp=>(r::p.1,p.2)))=_;rw[bind_some,bind_some,e2]
   rfl
  .rcases Jp.mp hr with rfl|hr
   .exact hv
   .exact h2 r hr
def uP{cal:Cal}(C:jr cal){R:LL}(g:SmR R){a:ME}{W:Rho}{p:Bool}(z:ev cal a W=some (.bl p))(U:ev cal (.bor 1) W=some (ofR R))(J:evA cal [.bor 1] W=some [.val (ofR R)]):∃b,ev cal (.and a (.cmp .lt (.blt .len [(.call 42 [.bor 1])]) (ci 5))) W=some (.bl b)/\(b=true->(ac R).length<=4):=by
 refine⟨p&&decide ((((ac R).map PV.int).length:Int)<5),dv z λ_=>(dE (aH (ae J (C.hol R g))) (fg _ _ _)).trans rfl,λh=>?_⟩;have:=J0 (mu.mp h).2;rw[pe]at this;omega
def qQ(cal:Cal)(f j:Nat):Prop:=∀ns R (t:Bool) (p:Int),0<=p->SmR R->∃v z,cal (f+2000) [.mutD (.p ns),.val (ofR R),.val (.str (af t)),.val (.int p),.val (.int j)]=some (.tup [v,.dI (.p z)])/\WP (8+j) v
def xp(n j:Nat)(C:jr (aa defs n))(G:iY (aa defs n) j)(K:∀ns R h,SmR R->∃v z,aa defs n (53+2000) [.mutD (.p ns),.val (ofR R),.val (.str (af h))]=some (.tup [v,.dI (.p z)])/\WP 8 v):qQ (aa defs (n+1)) 54 j:=λns R t p hp g=>by
 suffices h:∃v z x1 x2 x3 x4 W,exs (aa defs n) fV.body [some (.mutD (.p ns)),sv (ofR R),sv (.str (af t)),sv (.int p),sv (.int j),none,none]=.retM v (some (.mutD (.p z))::x1::x2::x3::x4::W)/\WP (8+j) v by
  obtain⟨v,z,x1,x2,x3,x4,W,e,hv⟩:=h;exact⟨v,z,by rw[gz (d:=fV) (by decide) rfl rfl];exact JK (qB _) e,hv⟩
 cases t with
 |true =>
  obtain⟨r,U⟩:=C.reply R p g;obtain⟨v,Z,e2,hv⟩:=G ns (bhd true R r) false true (n5 g r);exact⟨_,_,_,_,_,_,_,iW rfl (b8 (ae rfl U) (fY (jO (cw rfl (cw rfl (fM (xc5 (ii (ae rfl (C.deed R true r g)) rfl) rfl rfl rfl e2))))))),(WP.one true r hv).le (by omega)⟩
 |false =>
  obtain⟨b,hb,_⟩:=uP (cal:=aa defs n) C g (a:=.cmp .eq (.bin .mod (.bor 3) (ci 2)) (ci 0)) (W:=[some (.mutD (.p ns)),sv (ofR R),sv (.str (af false)),sv (.int p),sv (.int j),none,none]) (gI rfl (by decide)) rfl rfl;cases b with
  |true =>
   obtain⟨v,Z,U,hv⟩:=K ns R true g;exact⟨_,_,_,_,_,_,_,iz rfl (iW hb (fY (xc3 rfl rfl U))),hv.le (by omega)⟩
  |false =>
   obtain⟨D,U,h1,h2,h3,h4⟩:=C.split R g;obtain⟨J,Z,e2,Y,h6⟩:=Db (aa defs n) G (sv (ofR R)) (sv (.str (af false))) (sv (.int p)) none (sv (.lst (D.map ofR))) D ns h4;have hl:J.length=D.length:=by rw[<- Y,pe]
   refine⟨.tup [.str "parts",.tup (J.map aS)],Z,_,_,_,_,_,iz rfl (iz hb (b8 (ae rfl U) (fY (jO (cw rfl (fM (x_tupOf (x_compS (xs:=D.map ofR) rfl (by rw[pe];omega) e2)))))))),(WP.parts J (by omega) (by rw[Y];omega) (by rw[Y];omega) (λr hr=>?_) h6).le (by omega)⟩;have:=h4 r.1 (Y▸LZ hr);exact⟨this.1,Js this.2.2 (by decide)⟩
def AB{A R:LL}(h:A.Sublist R):A.flatten.length<=R.flatten.length:=by
 induction h with
 |slnil=>exact pd _
 |cons a _ ih=>rw[flatten_cons,wh];omega
 |cons_cons a _ ih=>rw[flatten_cons,wh,flatten_cons,wh];omega
def FH{A R:LL}(g:SmR R)(h:A.Sublist R):SmR A:=by
 have J:=h.length_le;have U:=AB h;have:=g.2.1;have:=g.2.2;exact⟨⟨λt z=>g.1.1 t (h.subset z),g.1.2.1.sublist h,by omega⟩,by omega,by omega⟩
def CA(cal)(J a2 U)(W)(R)(g:SmR R)(p):∃A,SmR A/\ev cal (.blt .tupleOf [(.comp .rng [(.blt .len [.bor 1])] [1,3] (.cmp .gt (.bin .mod (.bin .shr (.bor 2) (.bin .add (.bor 0) (ci 8))) (ci 4)) (ci 0)) (.idx (.bor 1) (.bor 0)))]) (J::sv (ofR R)::a2::sv (.int p)::U::W)=some (ofR A):=by
 let q:Nat->Bool:=λk=>decide (0<p / 2 ^ (k+8) % 4)
 refine⟨((range R.length).filter q).map λk=>R.getD k [],FH g ?_,?_⟩
 .have h1:((range R.length).map λk=>R.getD k [])=R:=by
   refine ext_getElem (by simp) λi h1 h2=>?_
   simp_all
  have:=(filter_sublist (p:=q) (l:=range R.length)).map λk=>R.getD k []
  rw[h1]at this;exact this
 .have hR:=g.2.1;have Y:ev cal (.blt .len [.bor 1]) (J::sv (ofR R)::a2::sv (.int p)::U::W)=some (.int ((R.map ofS).length:Int)):=rfl;rw[pe]at Y;refine(aH (v:=.lst ((((range R.length).filter q).map λk=>R.getD k []).map ofS)) ?_).trans rfl;rw[ev,evs,Y,bind_some,evs,map_some,bind_some,nE (by omega) (by omega),bind_some,if_pos (by simp;omega),Int.toNat_natCast,cc (p:=q) (h:=λk=>ofS (R.getD k [])),Jx]
  .rfl
  .intro k _;have z:((k:Int)+8).toNat=k+8:=by omega
   have Z:(0:Int)<=(k:Int)+8:=by omega
   have s1:eX .shr (.int p) (.int ((k:Int)+8))=some (.int (p / 2 ^ (k+8))):=by
    show(if (0:Int)<=(k:Int)+8 then some (PV.int (p / 2 ^ ((k:Int)+8).toNat))else none)=_;rw[if_pos Z,z]
   exact qG ((dE ((cF ((cF (y:=.int ((k:Int)+8)) rfl rfl).trans s1) rfl).trans rfl) rfl).trans rfl)
  .intro k z _;have z:k<R.length:=by simpa using z
   simp[ev,b7,ofR,iM,z]
def v8{D:List (LL)}{i:Int}(z:0<=i)(h1:i<D.length):∃Q∈D,fC (.lst (D.map ofR)) (.int i)=some (ofR Q):=by
 have h2:i.toNat<D.length:=by omega
 refine⟨D[i.toNat],getElem_mem _,?_⟩;rw[z8,iM z (by rw[pe];exact h1)];simp[h2]
def sS(n j:Nat)(C:jr (aa defs n))(G:iY (aa defs n) j)(K:∀ns R h,SmR R->∃v z,aa defs n (53+2000) [.mutD (.p ns),.val (ofR R),.val (.str (af h))]=some (.tup [v,.dI (.p z)])/\WP 8 v):qQ (aa defs (n+1)) 55 j:=λns R t p hp g=>by
 suffices h:∃v z x1 x2 x3 x4 W,exs (aa defs n) eA.body [some (.mutD (.p ns)),sv (ofR R),sv (.str (af t)),sv (.int p),sv (.int j),none,none,none,none,none,none]=.retM v (some (.mutD (.p z))::x1::x2::x3::x4::W)/\WP (8+j) v by
  obtain⟨v,z,x1,x2,x3,x4,W,e,hv⟩:=h;exact⟨v,z,by rw[gz (d:=eA) (by decide) rfl rfl];exact JK (qB _) e,hv⟩
 have U:ev (aa defs n) (.cmp .eq (.bin .mod (.bor 3) (ci 3)) (ci 0)) [some (.mutD (.p ns)),sv (ofR R),sv (.str (af t)),sv (.int p),sv (.int j),none,none,none,none,none,none]=some (.bl (p % 3==0)):=gI rfl (by decide);by_cases q0:(p % 3==0)=true
 .rw[q0]at U;obtain⟨A,gA,J⟩:=CA (aa defs n) (some (.mutD (.p ns))) (sv (.str (af t))) (sv (.int j)) [none,none,none,none,none,none] R g p;obtain⟨v,n1,Z,hv⟩:=G ns A t false gA;exact⟨_,_,_,_,_,_,_,iW U (b8 J (fY (jO (cw rfl (cw rfl (fM (xc5 rfl rfl rfl rfl Z))))))),(WP.fewer A gA.1 (Js gA.2.2 (by decide)) hv).le (by omega)⟩
 .rw[LM]at q0;rw[q0]at U;cases t with
  |false =>
   obtain⟨r,J⟩:=C.reply R (p / 3) g;obtain⟨v,n1,Z,hv⟩:=G ns (bhd false R r) true false (n5 g r);exact⟨_,_,_,_,_,_,_,iz U (iW rfl (b8 (ae rfl J) (fY (jO (cw rfl (cw rfl (fM (xc5 (ii (ae rfl (C.deed R false r g)) rfl) rfl rfl rfl Z)))))))),(WP.one false r hv).le (by omega)⟩
  |true =>
   obtain⟨b,hb,_⟩:=uP (cal:=aa defs n) C g (a:=.cmp .eq (.bin .mod (.bor 3) (ci 3)) (ci 1)) (W:=[some (.mutD (.p ns)),sv (ofR R),sv (.str (af true)),sv (.int p),sv (.int j),none,none,none,none,none,none]) (gI rfl (by decide)) rfl rfl;cases b with
   |true =>
    obtain⟨v,n1,J,hv⟩:=K ns R false g;exact⟨_,_,_,_,_,_,_,iz U (iz rfl (iW hb (fY (xc3 rfl rfl J)))),hv.le (by omega)⟩
   |false =>
    obtain⟨D,J,h1,h2,h3,Y⟩:=C.split R g;have c2:ev (aa defs n) (.cmp .lt (.blt .len [.bor 7]) (ci 2)) [some (.mutD (.p ns)),sv (ofR R),sv (.str (af true)),sv (.int p),sv (.int j),none,none,sv (.lst (D.map ofR)),none,none,none]=some (.bl (decide (((D.map ofR).length:Int)<2))):=rfl;rw[pe]at c2;by_cases q2:(D.length:Int)<2
    .rw[JA q2]at c2;exact⟨_,_,_,_,_,_,_,iz U (iz rfl (iz hb (b8 (ae rfl J) (iW c2 (nZ rfl))))),.leaf (lq (.inr (.inr rfl)))⟩
    .rw[JQ q2]at c2;have hd:(0:Int)<D.length:=by omega
     obtain⟨Q1,m1,i1⟩:=v8 (D:=D) (i:=p / 3 % D.length) (Kr _ (by omega)) (Ko _ hd);obtain⟨Q2,m2,i2⟩:=v8 (D:=D) (i:=(p / 3+1) % D.length) (Kr _ (by omega)) (Ko _ hd);obtain⟨v1,n1,Z,a7⟩:=G ns Q1 false false (Y Q1 m1);obtain⟨v2,n2,e3,a8⟩:=G n1 Q2 false false (Y Q2 m2);have md:∀x:Int,eX .mod (.int x) (.int ((D.map ofR).length:Int))=some (.int (x % D.length)):=λx=>by
      rw[pe,vO,if_pos hd]
     exact⟨_,_,_,_,_,_,_,iz U (iz rfl (iz hb (b8 (ae rfl J) (iz c2 (b8 ((fW rfl ((cF rfl rfl).trans (md _))).trans i1) (b8 ((fW rfl ((cF rfl rfl).trans (md _))).trans i2) (n0 (xc5 rfl rfl rfl rfl Z) (fY (jO (cw rfl (cw rfl (cw rfl (cw rfl (fM (xc5 rfl rfl rfl rfl e3))))))))))))))),(WP.either Q1 Q2 (Y Q1 m1).1 (Y Q2 m2).1 (Js (Y Q1 m1).2.2 (by decide)) (Js (Y Q2 m2).2.2 (by decide)) a7 a8).le (by omega)⟩
def sT(n j:Nat)(C:jr (aa defs n))(M:∀i,j=i+1->qQ (aa defs n) 54 i/\qQ (aa defs n) 55 i):iY (aa defs (n+1)) j:=λns R t h g=>by
 suffices z:∃v J U Y Z x4 W,exs (aa defs n) fL.body [some (.mutD (.p ns)),sv (ofR R),sv (.str (af t)),sv (.str (af h)),sv (.int j),none,none]=.retM v (some (.mutD (.p J))::U::Y::Z::x4::W)/\WP (7+j) v by
  obtain⟨v,J,U,Y,Z,x4,W,e,hv⟩:=z;exact⟨v,J,by rw[gz (d:=fL) (by decide) rfl rfl];exact JK (qB _) e,hv⟩
 obtain⟨p,n1,hp,e0⟩:=C.next ns;have bN:∀x6:Option MV,∃v J U Y Z x4 W,exs (aa defs n) (fL.body.drop 2) [some (.mutD (.p n1)),sv (ofR R),sv (.str (af t)),sv (.str (af h)),sv (.int j),sv (.int p),x6]=.retM v (some (.mutD (.p J))::U::Y::Z::x4::W)/\WP (7+j) v:=λx6=>by
  have c1:ev (aa defs n) (.or (.cmp .eq (.bor 4) (ci 0)) (.cmp .eq (.bin .mod (.bin .fdiv (.bor 5) (ci 2)) (ci 8)) (ci 0))) [some (.mutD (.p n1)),sv (ofR R),sv (.str (af t)),sv (.str (af h)),sv (.int j),sv (.int p),x6]=some (.bl (((j:Int)==0)||(p / 2 % 8==0))):=Al rfl λ_=>gI rfl (by decide)
  by_cases q1:(((j:Int)==0)||(p / 2 % 8==0))=true
  .rw[q1]at c1;obtain⟨v,hv,e1⟩:=C.plain R t h (p / 16) g;exact⟨_,_,_,_,_,_,_,iW c1 (nZ (ae rfl e1)),.leaf hv⟩
  .rw[LM]at q1;rw[q1]at c1;obtain⟨i,rfl⟩:∃i,j=i+1:=⟨j-1,by
    have:=(Bool.or_eq_false_iff.mp q1).1;have:(j:Int)≠0:=by simpa using this
    omega⟩
   have hd:ev (aa defs n) (.bin .sub (.bor 4) (ci 1)) [some (.mutD (.p n1)),sv (ofR R),sv (.str (af t)),sv (.str (af h)),sv (.int (i+1:Nat)),sv (.int p),x6]=some (.int i):=JK (λx=>some (PV.int x)) (show((i+1:Nat):Int)-1=i by omega);have a2:(0:Int)<=p / 16:=Int.ediv_nonneg hp (by decide);cases h with
   |true =>
    obtain⟨v,n2,e1,hv⟩:=(M i rfl).1 n1 R t (p / 16) a2 g;exact⟨_,_,_,_,_,_,_,iz c1 (iW rfl (fY (xc5 rfl rfl rfl (qH (λi z=>by cases z) hd) e1))),hv.le (by omega)⟩
   |false =>
    obtain⟨v,n2,e1,hv⟩:=(M i rfl).2 n1 R t (p / 16) a2 g;exact⟨_,_,_,_,_,_,_,iz c1 (iz rfl (fY (xc5 rfl rfl rfl (qH (λi z=>by cases z) hd) e1))),hv.le (by omega)⟩
 obtain⟨b,hb,hf⟩:=uP (cal:=aa defs n) C g (a:=.cmp .eq (.bin .mod (.bor 5) (ci 2)) (ci 0)) (W:=[some (.mutD (.p n1)),sv (ofR R),sv (.str (af t)),sv (.str (af h)),sv (.int j),sv (.int p),none]) (gI rfl (by decide)) rfl rfl;cases b with
 |false =>
  obtain⟨v,J,U,Y,Z,x4,W,e,hv⟩:=bN none;exact⟨v,J,U,Y,Z,x4,W,n0 (xc1 e0) (iz hb e),hv⟩
 |true =>
  obtain⟨w,v,ok,e1⟩:=C.tried R t g (hf rfl);by_cases q:w=h
  .subst q;refine⟨_,_,_,_,_,_,_,n0 (xc1 e0) (iW hb (b8 (ae rfl e1) (iW (by cases w<;>rfl) (nZ rfl)))),ok.wp.le (by omega)⟩
  .obtain⟨v',J,U,Y,Z,x4,W,e,hv⟩:=bN (sv (.tup [.str (af w),v]));exact⟨v',J,U,Y,Z,x4,W,n0 (xc1 e0) (fj (l:=[some (.mutD (.p n1)),sv (ofR R),sv (.str (af t)),sv (.str (af h)),sv (.int j),sv (.int p),sv (.tup [.str (af w),v])]) (by refine(aT hb).trans ?_;exact b8 (ae rfl e1) (sK (by cases w<;>cases h<;>first|rfl|exact absurd rfl q) rfl)) e),hv⟩
theorem qR:∀(j n:Nat),iY (aa defs (n+3*j+8)) j
 |0,n=>sT (n+7) 0 (lr (n+1)) λi h=>by cases h
 |j+1,n=>by
  have k:∀ns R h,SmR R->∃v z,aa defs (n+3*j+9) (53+2000) [.mutD (.p ns),.val (ofR R),.val (.str (af h))]=some (.tup [v,.dI (.p z)])/\WP 8 v:=λns R h g=>AA (n+3*j+8) (lr (n+3*j+2)) (qR 0 (n+3*j)) ns R g h
  exact sT (n+3*j+10) (j+1) (lr (n+3*j+4)) λi h=>by
   cases h;have G:iY (aa defs (n+3*j+9)) j:=by have:=qR j (n+1);rwa[show n+1+3*j+8=n+3*j+9 by omega]at this
   exact⟨xp (n+3*j+9) j (lr (n+3*j+3)) G k,sS (n+3*j+9) j (lr (n+3*j+3)) G k⟩
def fN(R:LL)(h:Int):0<=ar R h:=by
 unfold ar
 induction R with
 |nil=>simp
 |cons s R ih =>
  rw[Jq,sum_cons];have:0<=(if h∈s then wgt s else 0):=by
   split
   .exact Int.le_of_lt (Int.pow_pos (by decide))
   .exact L7 _
  omega
def iZ{R:LL}{h:Int}:0<ar R h ↔ ∃s∈R,h∈s:=by
 unfold ar
 induction R with
 |nil=>simp
 |cons s R ih =>
  rw[Jq,sum_cons];have J:0<=(R.map λs=>if h∈s then wgt s else 0).sum:=fN R h;have wp:0<wgt s:=Int.pow_pos (by decide);by_cases hs:h∈s
  .rw[if_pos hs];exact⟨λ_=>⟨s,.head _,hs⟩,λ_=>by omega⟩
  .rw[if_neg hs,Mt,ih];exact⟨λ⟨t,z,q⟩=>⟨t,.tail _ z,q⟩,λ⟨t,z,q⟩=>by
    rcases Jp.mp z with rfl|z
    .exact absurd q hs
    .exact⟨t,z,q⟩⟩
noncomputable def qS:Option Int->PV
 |none=>.non
 |some i=>.int i
noncomputable def bn(f:Int->Int)(b:Option Int)(h:Int):Option Int:=match b with
 |none=>some h
 |some c=>if f c<f h then some h else some c
noncomputable def dy(f:Int->Int):List Int:=((range 60).map λ(k:Nat)=>(k:Int)).filter λh=>decide (0<f h)
def gX(f:Int->Int):(dy f).Pairwise (· < ·):=by
 refine Pairwise.filter _ (pairwise_map.mpr (pairwise_lt_range.imp λ{a b} q=>by omega))
def sU{R:LL}{d:List (Int×Sc)}(g:∀s∈R,bJ s)(h:gK d (λk=>∃s∈R,k∈s)):sortI (d.map (·.1))=dy (ar R):=by
 have p:(d.map (·.1)).Perm (dy (ar R)):=by
  refine(Kb h.1 (dk (gX _))).mpr λk=>?_
  rw[h.2 k];unfold dy;rw[JI,JP,iZ];refine⟨λq=>⟨?_,q⟩,λq=>q.2⟩;obtain⟨s,hs,z⟩:=q;have:=(g s hs).2 k z;exact mem_map.mpr ⟨k.toNat,Lq.mpr (by omega),by omega⟩
 rw[sortI_of_perm p,sortI_id ((gX _).imp λ{a b} q=>by omega)]
theorem jt(cal:Cal)(a:Option MV)(d:List (Int×Sc))(f:Int->Int)(hd:ig d f):∀(xs:List Int) (b:Option Int) (y:Option MV),(∀x∈xs,bI d x≠none)->(∀c,b=some c->bI d c≠none) ->
  ∃y',aw (λx l=>exs cal cA (put l 3 (.val x))) (xs.map .int) [a,sv (.dI (.k d)),sv (qS b),y]=.next [a,sv (.dI (.k d)),sv (qS (xs.foldl (bn f) b)),y']
 | [],b,y,_,_=>⟨y,rfl⟩
 |x::xs,b,y,hx,U=>by
  have Y:∀z,bI d z≠none->bI d z=some (.int (f z)):=λz q=>by
   cases e:bI d z with
   |none=>exact absurd e q
   |some s=>rw[hd.2 z s e]
  have Z:=Y x (hx x (.head _));rw[Jq,aw];have e:exs cal cA (put [a,sv (.dI (.k d)),sv (qS b),y] 3 (.val (.int x)))=.next [a,sv (.dI (.k d)),sv (qS (bn f b x)),sv (.int x)]:=by
   cases b with
   |none=>simp[cA,exs,ex,ev,evB,qS,bn,jl]
   |some c =>
    have e2:=Y c (U c rfl);by_cases q:f c<f x
    .simp[cA,exs,ex,ev,evB,qS,bn,jl,Z,e2,q]
    .simp[cA,exs,ex,ev,evB,qS,bn,jl,Z,e2,q]
  rw[e];refine jt cal a d f hd xs (bn f b x) _ (λz hz=>hx z (.tail _ hz)) λc hc=>?_
  cases b with
  |none=>cases hc;exact hx x (.head _)
  |some J =>
   have hc:(if f J<f x then some x else some J)=some c:=hc;by_cases q:f J<f x
   .rw[if_pos q]at hc;cases hc;exact hx x (.head _)
   .rw[if_neg q]at hc;cases hc;exact U _ rfl
def uQ(n:Nat)(R:LL)(g:aB R):aa defs (n+3) 22 [.val (ofR R)]=some (qS ((dy (ar R)).foldl (bn (ar R)) none)):=by
 obtain⟨d,e,hd,Z⟩:=Cl n R g;have J:=sU g.1 Z;have hl:d.length<64:=by
  have:d.length=(dy (ar R)).length:=by rw[<- J,sortI_len,pe]
  rw[this];have aO:(dy (ar R)).length<=60:=nG 60 _ (dk (gX _)) λx hx=>by
   unfold dy at hx;obtain⟨k,J,rfl⟩:=mem_map.mp (JI.mp hx).1;have:=Lq.mp J;omega
  omega
 rw[ab (d:=nK) rfl rfl];have U:∀x∈dy (ar R),bI d x≠none:=λx hx z=>by
  rw[<- J,i8]at hx;exact Ab.mp z hx
 obtain⟨y,Y⟩:=jt (aa defs (n+2)) (sv (ofR R)) d (ar R) hd (dy (ar R)) none none U (λc z=>by cases z);rw[show qS none=.non from rfl]at Y;have hs:(evs (aa defs (n+2)) [.blt .sortedKeys [.bor 1]] [sv (ofR R),sv (.dI (.k d)),sv .non,none]).bind (bf .seq)=some ((dy (ar R)).map .int):=by
  simp[evs,ev,hl,J]
 show aY (exs (aa defs (n+2)) (_::_::_::[_]) [sv (ofR R),none,none,none])=_;simp only[al];rw[ie (ae (vs:=[.val (ofR R)]) (by simp[evA]) e),aL];simp only[bY,bZ];rw[ie (v:=.non) (by simp[ev]),aL];simp only[bY,bZ];rw[cQ hs,show ∀W:Rho,bo [.blt .sortedKeys [.bor 1]] W=W from λ_=>rfl,Y,cz,aL];simp[exs,ex,ev,aJ]
theorem pJ(f:Int->Int):∀(xs:List Int) (b:Option Int),(xs.foldl (bn f) b=none/\xs=[]/\b=none)\/∃r,xs.foldl (bn f) b=some r/\(r∈xs\/b=some r)/\(∀x∈xs,f x<=f r)/\∀c,b=some c->f c<=f r
 | [],none=>.inl ⟨rfl,rfl,rfl⟩
 | [],some c=>.inr ⟨c,rfl,.inr rfl,λx hx=>(by cases hx),λd e=>by cases e;exact L7 _⟩
 |x::xs,b=>by
  rw[foldl_cons];rcases pJ f xs (bn f b x)with⟨_,_,h⟩|⟨r,h1,h2,U,z⟩
  .cases b with
   |none=>cases h
   |some c =>
    have h:(if f c<f x then some x else some c)=none:=h;split at h<;>cases h
  .refine .inr ⟨r,h1,?_,?_,?_⟩
   .rcases h2 with h2|h2
    .exact .inl (.tail _ h2)
    .cases b with
     |none=>cases h2;exact .inl (.head _)
     |some c =>
      have h2:(if f c<f x then some x else some c)=some r:=h2;split at h2
      .cases h2;exact .inl (.head _)
      .exact .inr h2
   .intro y J;rcases Jp.mp J with rfl|J
    .cases b with
     |none=>exact z _ rfl
     |some c =>
      by_cases q:f c<f y
      .exact z y (if_pos q)
      .have:=z c (if_neg q);omega
    .exact U y J
   .intro c e;subst e;by_cases q:f c<f x
    .have:=z x (if_pos q);omega
    .exact z c (if_neg q)
def qT{R:LL}(g:∀s∈R,bJ s):dy (ar R)=ac R:=by
 have p:(ac R).Perm (dy (ar R)):=by
  refine(Kb (dk (fh R)) (dk (gX _))).mpr λk=>?_
  unfold dy;rw[aQ,JI,JP,iZ];refine⟨λq=>⟨?_,q⟩,λq=>q.2⟩;obtain⟨s,hs,z⟩:=q;have:=(g s hs).2 k z;exact mem_map.mpr ⟨k.toNat,Lq.mpr (by omega),by omega⟩
 rw[<- sortI_id ((gX (ar R)).imp λ{a b} q=>by omega),<- sortI_of_perm p,sortI_id ((fh R).imp λ{a b} q=>by omega)]
theorem jP(f:Int->Int):∀(hs:List Int) (r:Option Int),(∀h∈hs,0<f h)->(hs.foldl (kE f) (r,r.elim 0 f)).1=hs.foldl (bn f) r
 | [],_,_=>rfl
 |h::hs,r,z=>by
  rw[foldl_cons,foldl_cons,<- jP f hs (bn f r h) λx hx=>z x (.tail _ hx)];have:kE f (r,r.elim 0 f) h=(bn f r h,(bn f r h).elim 0 f):=by
   cases r with
   |none=>exact if_pos (z h (.head _))
   |some c =>
    show(if f c<f h then(some h,f h)else(some c,f c))=(if f c<f h then some h else some c,(if f c<f h then some h else some c).elim 0 f);split<;>rfl
  rw[this]
def CB(n:Nat)(R:LL)(g:aB R):aa defs (n+3) 22 [.val (ofR R)]=some (bS (fm R)):=by
 rw[uQ n R g,qT g.1];have:fm R=(ac R).foldl (bn (ar R)) none:=jP (ar R) (ac R) none λh z=>iZ.mpr (aQ.mp z)
 rw[this];cases (ac R).foldl (bn (ar R)) none<;>rfl
def pK(R:LL):(fm R=none/\ac R=[])\/∃r,fm R=some r/\r∈ac R/\∀x,ar R x<=ar R r:=by
 have e:fm R=(ac R).foldl (bn (ar R)) none:=jP (ar R) (ac R) none λh J=>iZ.mpr (aQ.mp J)
 rcases pJ (ar R) (ac R) none with⟨h1,h2,_⟩|⟨r,h1,h2,U,_⟩
 .exact .inl ⟨e.trans h1,h2⟩
 .refine .inr ⟨r,e.trans h1,h2.resolve_right (λz=>by cases z),λx=>?_⟩;by_cases q:x∈ac R
  .exact U x q
  .have:=fN R r;have:¬ 0<ar R x:=λz=>q (aQ.mpr (iZ.mp z))
   omega
def sV:∀{a b:List Int},a.Perm b->a.sum=b.sum:=by
 intro a b p
 induction p with
 |nil=>rfl
 |cons x _ ih=>rw[sum_cons,sum_cons,ih]
 |swap x y l=>simp only[sum_cons];omega
 |trans _ _ h1 h2=>rw[h1,h2]
def CC(s:List Int):0<wgt s:=Int.pow_pos (by decide)
def qU{h:Int}{s:List Int}(hs:h∉s):drp h s=s:=
 KP.mpr λx hx=>by
  have:¬ x=h:=λe=>hs (e▸hx)
  simp[this]
theorem v9{h:Int}:∀{s:List Int},s.Nodup->h∈s->(drp h s).length+1=s.length
 |x::s,J,U=>by
  obtain⟨h1,h2⟩:=JV.mp J;by_cases e:x=h
  .subst e;unfold drp;rw[JT (by simp)];have:=qU h1;unfold drp at this;rw[this,length_cons]
  .unfold drp;rw[J8 (by simpa using e),length_cons,length_cons];have:=v9 h2 ((Jp.mp U).resolve_left λz=>e z.symm);unfold drp at this;omega
def v_{h:Int}{s:List Int}(g:bJ s)(z:h∈s):wgt (drp h s)=wgt s+wgt s:=by
 have h1:=v9 (dk g.1) z;have h2:=aI g;unfold wgt;rw[show 60-(drp h s).length=(60-s.length)+1 by omega,Int.pow_succ];omega
def lP{R:LL}(g:∀s∈R,bJ s)(h:Int):((cg h R).map wgt).sum=(R.map wgt).sum+ar R h:=by
 unfold cg ar;rw[sV ((sortT_perm _).map wgt),Jx]
 induction R with
 |nil=>rfl
 |cons s R ih =>
  rw[Jq,sum_cons,Jq,sum_cons,Jq,sum_cons,ih λt J=>g t (.tail _ J)];have:wgt (drp h s)=wgt s+if h∈s then wgt s else 0:=by
   by_cases z:h∈s
   .rw[if_pos z,v_ (g s (.head _)) z]
   .rw[if_neg z,qU z,Int.add_zero]
  show wgt (drp h s)+_=_;omega
def lQ(R:LL)(h:Int):((cB h R).map wgt).sum+ar R h=(R.map wgt).sum:=by
 unfold cB ar
 induction R with
 |nil=>rfl
 |cons s R ih =>
  rw[Jq,sum_cons,Jq,sum_cons];by_cases z:h∈s
  .rw[if_pos z,JT (by simpa using z)];omega
  .rw[if_neg z,J8 (by simpa using z),Jq,sum_cons];omega
def xq(R:LL)(h k:Int):ar (cB h R) k<=ar R k:=by
 unfold cB ar
 induction R with
 |nil=>exact L7 _
 |cons s R ih =>
  rw[Jq,sum_cons];have J:0<=(if k∈s then wgt s else 0):=by
   have:=CC s;split<;>omega
  by_cases z:h∈s
  .rw[JT (by simpa using z)];omega
  .rw[J8 (by simpa using z),Jq,sum_cons];omega
def n8{R:LL}{h k:Int}:(∃s∈cg h R,k∈s)->(∃s∈R,k∈s)/\k≠h:=by
 rintro ⟨s,hs,z⟩;obtain⟨t,J,rfl⟩:=mem_map.mp (dC.mp hs);obtain⟨h1,h2⟩:=JI.mp z;exact⟨⟨t,J,h1⟩,by simpa using h2⟩
def xr(R:LL)(a b:Int):gN R a b=gN R b a:=by
 unfold gN;refine JK (λl:LL=>(l.length:Int)) (filter_congr λs _=>Bool.and_comm _ _)
def AC{R:LL}{M:Int}(h:lW R M){a b:Int}(z:a≠b):gN R a b<=M:=by
 by_cases q:a<b
 .exact h.2.2 a b q
 .rw[xr];exact h.2.2 b a (by omega)
def wc{R J:LL}{M U:Int}(h:lW R M)(h':lW J U)(hc:∀a b,a<b->gN J a b<=gN R a b):U<=M:=by
 rcases h'.2.1 with e|⟨a,b,z,_,e⟩
 .have:=h.1;omega
 .have:=hc a b z;have:=h.2.2 a b z;omega
def pL(R:LL)(h a b:Int):gN (cg h R) a b<=gN R a b:=by
 unfold gN cg;rw[((sortT_perm _).filter _).length_eq,List.filter_map,pe];have:∀R:LL,(R.filter ((λs=>decide (a∈s)&&decide (b∈s))∘drp h)).length<=(R.filter λs=>decide (a∈s)&&decide (b∈s)).length:=λR=>by
  induction R with
  |nil=>exact pd _
  |cons s R ih =>
   by_cases q:((λs=>decide (a∈s)&&decide (b∈s))∘drp h) s=true
   .have z:(decide (a∈s)&&decide (b∈s))=true:=by
     have:(decide (a∈drp h s)&&decide (b∈drp h s))=true:=q;rw[oe,JP,JP]at this ⊢;exact⟨(JI.mp this.1).1,(JI.mp this.2).1⟩
    rw[J8 q,J8 (p:=λs=>decide (a∈s)&&decide (b∈s)) z,length_cons,length_cons];omega
   .rw[JT q];by_cases z:(decide (a∈s)&&decide (b∈s))=true
    .rw[J8 (p:=λs=>decide (a∈s)&&decide (b∈s)) z,length_cons];omega
    .rw[JT (p:=λs=>decide (a∈s)&&decide (b∈s)) z];exact ih
 have:=this R;omega
def xt(R:LL)(x a b:Int):gN (cB x R) a b<=gN R a b:=by
 unfold gN cB;have:=(Sublist.filter (λs=>decide (a∈s)&&decide (b∈s)) (filter_sublist (l:=R) (p:=λz=>!decide (x∈z)))).length_le;omega
noncomputable def wd(R:LL)(x h:Int):Int:=(R.map λs=>if x∈s/\h∈s then wgt s else 0).sum
def xu{R:LL}(g:∀s∈R,bJ s){x h:Int}(hx:x≠h):ar (cg h R) x=ar R x+wd R x h:=by
 unfold cg ar wd;rw[sV ((sortT_perm _).map _),Jx]
 induction R with
 |nil=>rfl
 |cons s R ih =>
  rw[Jq,sum_cons,Jq,sum_cons,Jq,sum_cons,ih λt Y=>g t (.tail _ Y)];have e:(if x∈drp h s then wgt (drp h s)else 0)=(if x∈s then wgt s else 0)+if x∈s/\h∈s then wgt s else 0:=by
   have U:x∈drp h s ↔ x∈s:=by
    unfold drp;rw[JI];simp[hx]
   by_cases q:x∈s
   .rw[if_pos (U.mpr q),if_pos q];by_cases J:h∈s
    .rw[if_pos ⟨q,J⟩,v_ (g s (.head _)) J]
    .rw[if_neg λz=>J z.2,qU J,Int.add_zero]
   .rw[if_neg λz=>q (U.mp z),if_neg q,if_neg λz=>q z.1,Int.add_zero]
  show(if x∈drp h s then wgt (drp h s)else 0)+_=_;omega
def CD{s:List Int}{x h:Int}(hx:x∈s)(z:h∈s)(J:x≠h):wgt s<=288230376151711744:=by
 have Z:2<=s.length:=by
  match s,hx,z with
  | [y],hx,z =>
   have U:=JE.mp hx;have Y:=JE.mp z;exact absurd (U.trans Y.symm) J
  | _::_::_,_,_=>simp
 unfold wgt;have e:(288230376151711744:Int)=2 ^ 58:=by decide
 rw[e];have:(2:Nat) ^ (60-s.length)<=2 ^ 58:=Nat.pow_le_pow_right (by decide) (by omega);have h2:((2 ^ (60-s.length):Nat):Int)<=((2 ^ 58:Nat):Int):=by omega
 rw[Int.natCast_pow,Int.natCast_pow]at h2;exact h2
def AD(R:LL){x h:Int}(z:x≠h):wd R x h<=288230376151711744*gN R x h:=by
 unfold wd gN
 induction R with
 |nil=>simp
 |cons s R ih =>
  rw[Jq,sum_cons];by_cases q:x∈s/\h∈s
  .rw[if_pos q,J8 (by simpa using q),length_cons];have:=CD q.1 q.2 z;omega
  .rw[if_neg q,JT (by simpa using q)];omega
def pM{R J:LL}{k:Nat}(xs:List Int)(hx:xs.Nodup)(h1:∀x∈xs,∃s∈R,x∈s)(h2:∀y,(∃s∈J,y∈s)->(∃s∈R,y∈s)/\y∉xs)(hk:xs.length=k):(ac J).length+k<=(ac R).length:=by
 have p:(ac J++xs).Nodup:=Lz.mpr ⟨dk (fh J),hx,λa ha b hb e=>by subst e;exact(h2 a (aQ.mp ha)).2 hb⟩;have sub:ac J++xs ⊆ ac R:=λy z=>by
  rcases Kv.mp z with z|z
  .exact aQ.mpr (h2 y (aQ.mp z)).1
  .exact aQ.mpr (h1 y z)
 have gen:∀(a b:List Int),a.Nodup->a ⊆ b->a.length<=b.length:=λa=>by
  induction a with
  |nil=>intro b _ _;exact JZ _
  |cons x a ih =>
   intro b hn hs;obtain⟨n1,n2⟩:=JV.mp hn;have U:x∈b:=hs (.head _);have:=ih (b.erase x) n2 λy z=>by
    have Y:y≠x:=λe=>n1 (e▸z)
    exact(mem_erase_of_ne Y).mpr (hs (.tail _ z))
   rw[length_erase_of_mem U]at this;have Z:=length_pos_of_mem U;rw[length_cons];omega
 have:=gen _ _ p sub;rw[wh,hk]at this;exact this
def sW{a b c d:Int}(h1:a<=b)(h2:c<=d)(z:0<=c)(J:0<=b):a*c<=b*d:=Int.mul_le_mul h1 h2 z J
def n9{R:LL}{h J:Int}(g:aB R)(H:nQ R)(z:lW (cg h R) J):nQ (cg h R):=by
 obtain⟨M,U,hw⟩:=H;refine⟨J,z,?_⟩;rw[lP g.1 h];have Z:=fN R h;have m1:=wc U z λa b _=>pL R h a b
 have m0:=U.1;have m2:=z.1;have hh:(ac (cg h R)).length+0<=(ac R).length:=pM [] Ku (λx hx=>by cases hx) (λy Y=>⟨(n8 Y).1,by simp⟩) rfl;have q1:1152921504606846976*J*(((ac (cg h R)).length:Int) / 2)<=1152921504606846976*M*(((ac R).length:Int) / 2):=sW (by omega) (by omega) (by omega) (by omega);omega
def uR{R:LL}{h x M' M2:Int}(g:aB R)(H:nQ R)(hh:∃s∈R,h∈s)(U:∀y,ar R y<=ar R h)(a0:lW (cg h R) M')(Y:lW (cB x (cg h R)) M2):nQ (cB x (cg h R)):=by
 by_cases hx:∃s∈cg h R,x∈s
 .obtain⟨a1,J⟩:=n8 hx;obtain⟨M,hM,hw⟩:=H;refine⟨M2,Y,?_⟩;have w1:=lQ (cg h R) x;have w2:=lP g.1 h;have w3:=xu g.1 J;have w4:=AD R J;have w5:=AC hM J;have w6:=U x;have m1:=wc hM Y λa b _=>Ms (xt _ x a b) (pL R h a b)
  have m0:=hM.1;have m2:=Y.1;have hl:(ac (cB x (cg h R))).length+2<=(ac R).length:=pM [h,x] (by simp;exact λe=>J e.symm) (λy hy=>by
    simp only[Jp,Kw,Lg]at hy;rcases hy with rfl|rfl
    .exact hh
    .exact a1) (λy hy=>by
    obtain⟨s,hs,Z⟩:=hy;obtain⟨a3,ao⟩:=JI.mp hs;obtain⟨r1,r2⟩:=n8 ⟨s,a3,Z⟩;refine⟨r1,?_⟩;simp only[Jp,Kw,Lg,not_or];refine⟨r2,λe=>?_⟩;subst e;simp at ao;exact ao Z) rfl
  have q1:1152921504606846976*M2*(((ac (cB x (cg h R))).length:Int) / 2)<=1152921504606846976*M*(((ac R).length:Int) / 2-1):=sW (by omega) (by omega) (by omega) (by omega);rw[Int.mul_sub,Int.mul_one]at q1;omega
 .have e:cB x (cg h R)=cg h R:=KP.mpr λs hs=>by
   have:x∉s:=λz=>hx ⟨s,hs,z⟩
   simpa using this
  rw[e];exact n9 g H a0
def CF{R:LL}{M2:Int}(h:(R.map wgt).sum<1152921504606846976)(J:Top (bhd true R (fm R)) M2):((bhd true R (fm R)).map wgt).sum+M2<1152921504606846976:=by
 rcases pK R with⟨e,Y⟩|⟨r,e,hr,Z⟩
 .rw[e]at J ⊢;show(R.map wgt).sum+M2<_;rcases J.2.1 with z|⟨k,U,_⟩
  .omega
  .have:=aQ.mpr U;rw[show ac (bhd true R none)=ac R from rfl,Y]at this;cases this
 .rw[e]at J ⊢;have wb:=lQ R r;show((cB r R).map wgt).sum+M2<_;rcases J.2.1 with z|⟨k,U,z⟩
  .have:=fN R r;omega
  .have:ar (cB r R) k<=ar R k:=xq R r k;have:ar (cB r R) k=M2:=z;have:=Z k;omega
def CG{R:LL}(g:aB R)(H:hv R=true):(decide ([]∈bhd false R (fm R))||(hv (bhd false R (fm R))&&(ac (bhd false R (fm R))).all λh=>hv (cB h (bhd false R (fm R)))))=true:=by
 have H:=qK.mp H;rcases pK R with⟨e,U⟩|⟨r,e,Z,hb⟩
 .rw[e];obtain⟨M,_,hw⟩:=H;rw[U]at hw;cases R with
  |nil=>simp at hw
  |cons s R =>
   cases s with
   |nil=>rw[JA (show []∈bhd false ([]::R) none from .head _)];rfl
   |cons x s =>
    have:=aQ.mpr ⟨x::s,.head R,.head s⟩;rw[U]at this;cases this
 .rw[e];have Y:aB (cg r R):=pH g;obtain⟨M',_,z⟩:=fX 0 (cg r R) Y;show(decide ([]∈cg r R)||(hv (cg r R)&&(ac (cg r R)).all λh=>hv (cB h (cg r R))))=true;rw[qK.mpr (n9 g H z),Kk.mpr λx _=>?_]
  .simp
  .obtain⟨M2,_,J⟩:=fX 0 (cB x (cg r R)) (ln Y);exact qK.mpr (uR g H (aQ.mp Z) hb z J)
def GAt(v:PV)(R:LL)(t h:Bool)(N:Nat)(b:Bool):Prop:=aa defs N 30 [.val v,.val (ofR R),.val (.str (af t)),.val (.str (af h))]=some (.bl b)
def HZ{v:PV}(hv:sy v)(R:LL)(g:aB R)(z:R.flatten.length<=1000)(t h:Bool):∃b,∀n,GAt v R t h (n+6) b:=by
 rcases hv with rfl|rfl|rfl|⟨P,h1,h2,rfl⟩
 .exact⟨_,λn=>uJ (n+3) R t h⟩
 .exact⟨_,λn=>qN (n+3) R t h⟩
 .obtain⟨M,J,_⟩:=dS 0 R g;exact⟨_,λn=>nU n R g z J t h⟩
 .exact⟨_,λn=>v0 (n+1) R P h1 h2 g t h⟩
def xv{d:Nat}{v:PV}(p:WP d v):∀(R:LL),aB R->R.flatten.length<=1000->∀t h:Bool,∃b:Bool,∀N,3*d+8<=N->GAt v R t h N b:=by
 induction p with
 | @leaf d v hv =>
  intro R g Y t h;obtain⟨b,a⟩:=HZ hv R g Y t h;refine⟨b,λN J=>?_⟩;obtain⟨n,rfl⟩:=upN 6 J;exact a n
 | @one d v k r hv ih =>
  intro R g Y t h;obtain⟨b,a⟩:=ih (bhd k R r) (dw g r) (Js (fk k R r) Y) (!k) k;refine⟨(h==k)&&(t==k)&&b,λN J=>?_⟩;obtain⟨n,rfl⟩:=upN 6 J;exact Ao g k r t h (a (n+3) (by omega))
 | @cases d rows hl hr ih =>
  intro R g Y t h;by_cases e:t=h
  .subst e;refine⟨false,λN J=>?_⟩;obtain⟨n,rfl⟩:=upN 3 J;exact nX n _ _ t
  .obtain rfl:t=!h:=by cases t<;>cases h<;>simp_all
   have key:∀r:Int×Option Int×PV,∃b:Bool,r∈rows->∀N,3*d+8<=N->GAt r.2.2 (bh2 h R r.1 r.2.1) (!h) h N b:=λr=>by
    by_cases U:r∈rows
    .obtain⟨b,a⟩:=ih r U (bh2 h R r.1 r.2.1) (Aq g _ _) (Js (Ar h R _ _) Y) (!h) h;exact⟨b,λ_=>a⟩
    .exact⟨false,λz=>absurd z U⟩
   obtain⟨b,hb⟩:=KU key;refine⟨(if h=true then !decide ([]∈R)else !decide (ac R=[]))&&(decide (rows.map (·.1)=ac R)&&rows.all b),λN J=>?_⟩;obtain⟨n,rfl⟩:=upN 7 J;exact Ct g Y h hl λr U=>hb r U (n+4) (by omega)
 | @parts d rows hl hs a1 hg hr ih =>
  intro R g Y t h;have key:∀r:LL×PV,∃b:Bool,r∈rows->∀N,3*d+8<=N->GAt r.2 r.1 false true N b:=λr=>by
   by_cases U:r∈rows
   .obtain⟨b,a⟩:=ih r U r.1 (hg r U).1 (hg r U).2 false true;exact⟨b,λ_=>a⟩
   .exact⟨false,λz=>absurd z U⟩
  obtain⟨b,hb⟩:=KU key;refine⟨h&&!t&&(nY (rows.map (·.1)) R&&rows.all b),λN J=>?_⟩;obtain⟨n,rfl⟩:=upN 7 J;exact v5 g Y hl hs a1 hg t h λr U=>hb r U (n+4) (by omega)
 | @fewer d v A Z fA hv ih =>
  intro R g Y t h;obtain⟨b,a⟩:=ih A Z fA t false;refine⟨!h&&below A R&&b,λN J=>?_⟩;obtain⟨n,rfl⟩:=upN 6 J;exact v4 Z g t h (a (n+4) (by omega))
 | @either d v w A B Z gB fA fB hv hw ih a3 =>
  intro R g Y t h;obtain⟨x,a⟩:=ih A Z fA false false;obtain⟨y,c⟩:=a3 B gB fB false false;refine⟨!h&&t&&(decide (ac A++ac B).Nodup&&below A R&&below B R&&(x&&y)),λN J=>?_⟩;obtain⟨n,rfl⟩:=upN 7 J;exact sM Z gB g fA fB t h (a (n+4) (by omega)) (c (n+4) (by omega))
def FAt(v:PV)(R:LL)(h:Bool)(N:Nat)(r:Option Int)(z:LL)(J:PV):Prop:=aa defs N 29 [.val v,.val (ofR R),.val (.str (af h))]=some (.tup [bS r,ofR z,J])/\aa defs N 59 [.val v,.val (ofR R),.val (.str (af h))]=some (.tup [bS r,ofR z,J])
def FI (n:Nat) (R:LL) (h:Bool):FAt (.tup [.str "bare"]) R h (n+1) none R (.tup [.str "bare"]):=by
 constructor
 .rw[ab (d:=i9) rfl rfl];exact be rfl (aX rfl (aX rfl (aX rfl (gR rfl))))
 .rw[ab (d:=da) rfl rfl];exact aX rfl (aX rfl (aX rfl (gR rfl)))
def CH (n:Nat) (R:LL) (h:Bool):FAt (.tup [.str "whole"]) R h (n+1) none R (.tup [.str "whole"]):=by
 constructor
 .rw[ab (d:=i9) rfl rfl];exact be rfl (aX rfl (aX rfl (aX rfl (gR rfl))))
 .rw[ab (d:=da) rfl rfl];exact aX rfl (aX rfl (aX rfl (gR rfl)))
def AE (n:Nat) (R:LL) (g:aB R) (h:Bool):FAt (.tup [.str "weight"]) R h (n+4) (fm R) (bhd h R (fm R)) (.tup [.str "weight"]):=by
 have z:=CB n R g;have J:=Aw (n+1) R g;generalize fm R=r at z J ⊢;have U:=iU n R g h r;have Y:=my (n+1) R g h r;constructor
 .rw[ab (d:=i9) rfl rfl];cases r<;>exact be rfl (aX rfl (HW rfl (b8 (ae rfl z) (Ak (eN (bC rfl (bC (ae rfl U) (bC rfl rfl))))))))
 .rw[ab (d:=da) rfl rfl];cases r<;>exact aX rfl (HW rfl (b8 (ae rfl J) (Ak (eN (bC rfl (bC (ae rfl Y) (bC rfl rfl)))))))
def H0 (n:Nat) (R:LL) (g:aB R) (k:Bool) (r:Option Int) (p:PV):FAt (.tup [.str (if k=true then "bite" else "knot"),bS r,p]) R k (n+4) r (bhd k R r) p:=by
 have z:=iU n R g k r;have J:=my (n+1) R g k r;constructor
 .rw[ab (d:=i9) rfl rfl];cases k<;>cases r<;>exact be rfl (aX rfl (aX rfl (cD rfl (eN (bC rfl (bC (ae rfl z) (bC rfl rfl)))))))
 .rw[ab (d:=da) rfl rfl];cases k<;>cases r<;>exact cD rfl (eN (bC rfl (bC (ae rfl J) (bC rfl rfl))))
def CI {N:Nat}{A R z:LL}{v J:PV}{h:Bool}{r:Option Int} (e:FAt v A h N r z J):FAt (.tup [.str "fewer",ofR A,v]) R h (N+1) r z J:=by
 constructor
 .rw[ab (d:=i9) rfl rfl];exact be rfl (cD rfl (ae rfl e.1))
 .rw[ab (d:=da) rfl rfl];exact aX rfl (aX rfl (cD rfl (ae rfl e.2)))
def n_(R:LL):below R R=true:=kD λs hs=>⟨s,hs,dR.mpr λ_ z=>z⟩
def sX{A B C:LL}(h:below A B=true)(h':below B C=true):below A C=true:=kD λs hs=>by
 obtain⟨t,z,q⟩:=iV h s hs;obtain⟨u,J,U⟩:=iV h' t z;exact⟨u,J,dR.mpr λx hx=>dR.mp q x (dR.mp U x hx)⟩
def xw(k:Bool){A B:LL}(h:below A B=true)(r:Option Int):below (bhd k A r) (bhd k B r)=true:=by
 cases r with
 |none=>exact h
 |some x =>
  refine kD λs hs=>?_
  cases k with
  |true =>
   obtain⟨h1,h2⟩:=JI.mp hs;obtain⟨t,J,q⟩:=iV h s h1;exact⟨t,JI.mpr ⟨J,by simp at h2 ⊢;exact λz=>h2 (dR.mp q x z)⟩,q⟩
  |false =>
   obtain⟨U,h1,rfl⟩:=mem_map.mp (dC.mp hs);obtain⟨t,J,q⟩:=iV h U h1;refine⟨drp x t,dC.mpr (mem_map.mpr ⟨t,J,rfl⟩),dR.mpr λy Y=>?_⟩;obtain⟨Z,y2⟩:=JI.mp Y;exact JI.mpr ⟨dR.mp q y Z,y2⟩
def tru{a b:Bool}{x:Option PV}(h:x=some (.bl a))(h':x=some (.bl b)):a=b:=by
 rw[h]at h';cases h'
 rfl
def fst{d:Nat}{v:PV}(p:WP d v):∀(R:LL),aB R->R.flatten.length<=1000->∀h:Bool,GAt v R h h (3*d+8) true ->
  ∃(r:Option Int) (Z:LL) (v':PV),aB Z/\Z.flatten.length<=1000/\(∀N,d+4<=N->FAt v R h N r Z v')/\(∀N,3*d+8<=N->GAt v' Z (!h) h N true)/\WP d v'/\(if h=true then below (bhd h R r) Z else below Z (bhd h R r))=true:=by
 induction p with
 | @leaf d v hv =>
  intro R g U h G;have st:∀r:Option Int,(if h=true then below (bhd h R r) (bhd h R r)else below (bhd h R r) (bhd h R r))=true:=λr=>by cases h<;>exact n_ _
  have hw:WP d v:=.leaf hv;rcases hv with rfl|rfl|rfl|⟨P,h1,h2,rfl⟩
  .have e:=tru (uJ (3*d+5) R h h) G;refine⟨none,R,_,g,U,λN J=>?_,λN J=>?_,hw,st none⟩
   .obtain⟨n,rfl⟩:=upN 1 J;exact FI n R h
   .obtain⟨n,rfl⟩:=upN 3 J;exact(uJ n R (!h) h).trans (by rw[e])
  .have e:=tru (qN (3*d+5) R h h) G;refine⟨none,R,_,g,U,λN J=>?_,λN J=>?_,hw,st none⟩
   .obtain⟨n,rfl⟩:=upN 1 J;exact CH n R h
   .obtain⟨n,rfl⟩:=upN 3 J;exact(qN n R (!h) h).trans (by rw[e])
  .obtain⟨M,hM,_⟩:=dS 0 R g;have e:=tru (nU (3*d+2) R g U hM h h) G;have g':=dw (h:=h) g (fm R);obtain⟨M2,a1,_⟩:=dS 0 _ g';have Y:=Js (fk h R (fm R)) U;refine⟨fm R,bhd h R (fm R),_,g',Y,λN J=>?_,λN J=>?_,hw,st _⟩
   .obtain⟨n,rfl⟩:=upN 4 J;exact AE n R g h
   .obtain⟨n,rfl⟩:=upN 6 J;refine(nU n _ g' Y a1 (!h) h).trans ?_;cases h with
    |true=>exact JK (λb=>some (PV.bl b)) (JA (CF (J0 e) a1))
    |false=>exact JK (λb=>some (PV.bl b)) (CG g e)
  .have e:=tru (v0 (3*d+3) R P h1 h2 g h h) G;cases h<;>cases e
 | @one d v k r hv ih =>
  intro R g U h G;obtain⟨b,a⟩:=xv hv (bhd k R r) (dw g r) (Js (fk k R r) U) (!k) k;have e:=tru (Ao (n:=3*d+5) g k r h h (a _ (by omega))) G;simp only[oe,Ju]at e;obtain⟨⟨rfl,_⟩,rfl⟩:=e;refine⟨r,bhd h R r,v,dw g r,Js (fk h R r) U,λN J=>?_,λN J=>a N (by omega),hv.le (Kp _),by cases h<;>exact n_ _⟩;obtain⟨n,rfl⟩:=upN 4 J;exact H0 n R g h r v
 | @cases d rows hl hr ih =>
  intro R g U h G;cases tru (nX (3*(d+1)+5) _ _ h) G
 | @parts d rows hl hs a3 hg hr ih =>
  intro R g U h G;have key:∀r:LL×PV,∃b:Bool,r∈rows->∀N,3*d+8<=N->GAt r.2 r.1 false true N b:=λr=>by
   by_cases hm:r∈rows
   .obtain⟨b,a⟩:=xv (hr r hm) r.1 (hg r hm).1 (hg r hm).2 false true;exact⟨b,λ_=>a⟩
   .exact⟨false,λz=>absurd z hm⟩
  obtain⟨b,hb⟩:=KU key;have e:=tru (v5 (n:=3*d+4) g U hl hs a3 hg h h λr hm=>hb r hm _ (by omega)) G;cases h<;>cases e
 | @fewer d v A gA fA hv ih =>
  intro R g U h G;obtain⟨b,a⟩:=xv hv A gA fA h false;have e:=tru (v4 (n:=3*d+5) gA g h h (a _ (by omega))) G;simp only[oe,JC]at e;obtain⟨⟨rfl,hb⟩,rfl⟩:=e;obtain⟨r,Z,v',g',Y,e1,e2,w',lo⟩:=ih A gA fA false (a _ (pd _));refine⟨r,Z,v',g',Y,λN J=>?_,λN J=>e2 N (by omega),w'.le (Kp _),sX lo (xw false hb r)⟩;obtain⟨n,rfl⟩:=upN 1 J;exact CI (e1 n (by omega))
 | @either d v w A B gA gB fA fB hv hw ih b4 =>
  intro R g U h G;obtain⟨x,a⟩:=xv hv A gA fA false false;obtain⟨y,c⟩:=xv hw B gB fB false false;have e:=tru (sM (n:=3*d+4) gA gB g fA fB h h (a _ (by omega)) (c _ (by omega))) G;cases h<;>cases e
theorem we :∀{R:LL},(∀t∈R,t.length<=m)->R.flatten.length<=R.length*m
 | [],_=>by simp
 |t::R,h=>by
  have h1:=h t (.head _);have h2:=we (R:=R) λt z=>h t (.tail _ z)
  rw[flatten_cons,wh,length_cons,Nat.succ_mul];omega
def StP(x:LL×PV):Prop:=aB x.1/\x.1.flatten.length<=1000/\WP 10 x.2
def ik{α:Type}{P:α->Prop}{xs:List α}{x:α}(h:∀y∈xs,P y)(hx:P x):∀y∈xs++[x],P y:=λy J=>by
 rcases Kv.mp J with z|z
 .exact h y z
 .rw[JE.mp z];exact hx
noncomputable abbrev fS(R:LL)(t h:Bool)(a0 a3 a4 a5 a6 a7 a9 z J:Option MV)(fs Z:List (LL×PV))(U Y:Option MV):Rho:=[a0,sv (.str (af t)),sv (.str (af h)),a3,a4,a5,a6,a7,sv (ofR R),a9,some (.own (fs.map aS)),some (.own (Z.map aS)),sv (.lst ((Z.map (·.1)).flatten.map ofS)),U,Y,z,J]
def sY(cal:Cal)(C:jr cal)(R:LL)(g:SmR R)(t h:Bool)(a0 a3 a4 a5 a6 a7 a9 U Y:Option MV)(Q:LL)(Z:SmR Q)(fs J:List (LL×PV))(cu cC:Option MV)(hf:fs.length<=100)(ok:∀x∈fs,StP x)(a1:∀x∈J,SmR x.1/\WP 5 x.2)(hr:J.length<=100)(hh:(J.map (·.1)).flatten.length<=100) :
  ∃(fs' ao:List (LL×PV)) (cL:Option MV),exs cal dq (put (fS R t h a0 a3 a4 a5 a6 a7 a9 U Y fs J cu cC) 13 (.val (ofR Q)))=.next (fS R t h a0 a3 a4 a5 a6 a7 a9 U Y fs' ao (sv (ofR Q)) cL)/\fs'.length<=fs.length+2/\(∀x∈fs',StP x)/\(∀x∈ao,SmR x.1/\WP 5 x.2)/\(ao=J\/∃v,ao=J++[(Q,v)]):=by
 have hc:∀W:Rho,evA cal [.bor 13] W=some [.val (ofR Q)]->ev cal (.cmp .lt (.blt .len [(.call 42 [.bor 13])]) (ci 5)) W=some (.bl (decide ((((ac Q).map PV.int).length:Int)<5))):=λW hA=>(dE (aH (ae hA (C.hol Q Z))) (fg _ _ _)).trans rfl
 by_cases q:(((ac Q).map PV.int).length:Int)<5
 .rw[JA q]at hc;rw[pe]at q;obtain⟨w,v,cS,e1⟩:=C.tried Q t Z (by omega);obtain⟨w2,v2,c0,e2⟩:=C.tried Q false Z (by omega);have p1:WP 5 v:=cS.wp;have p2:WP 5 v2:=c0.wp;have sR:StP (R,.tup [.str "fewer",ofR Q,v]):=⟨g.1,Js g.2.2 (by decide),(WP.fewer Q Z.1 (Js Z.2.2 (by decide)) p1).le (by decide)⟩;have sQ:StP (Q,v):=⟨Z.1,Js Z.2.2 (by decide),p1.le (by decide)⟩;have a2:∀xs:List (LL×PV),xs.length<=101->(xs.map aS).length<10000:=λxs hx=>by rw[pe];omega
  have s2:∃f1:List (LL×PV),f1.length<=fs.length+1/\(∀x∈f1,StP x)/\ex cal (.ite (.and (.cmp .eq (.idx (.bor 14) (ci 0)) (.bor 2)) (.cmp .eq (.bor 2) (cs "weaver"))) [.append 10 (.tup [.var 8,(.tup [(cs "fewer"),.var 13,(.idx (.bor 14) (ci 1))])])] []) (fS R t h a0 a3 a4 a5 a6 a7 a9 U Y fs J (sv (ofR Q)) (sv (.tup [.str (af w),v])))=.next (fS R t h a0 a3 a4 a5 a6 a7 a9 U Y f1 J (sv (ofR Q)) (sv (.tup [.str (af w),v]))):=by
   by_cases z:w=false/\h=false
   .obtain⟨rfl,rfl⟩:=z;refine⟨fs++[(R,.tup [.str "fewer",ofR Q,v])],by rw[wh,length_singleton];omega,ik ok sR,(aT (p:=true) rfl).trans ?_⟩;unfold fS;rw[JM];exact cv (nT rfl rfl (a2 fs (by omega)))
   .exact⟨fs,by omega,ok,(aT (p:=false) (by cases w<;>cases h<;>first|rfl|exact absurd ⟨rfl,rfl⟩ z)).trans rfl⟩
  obtain⟨f1,l1,k1,s2⟩:=s2;have s3:∃f2:List (LL×PV),f2.length<=fs.length+2/\(∀x∈f2,StP x)/\ex cal (.ite (.cmp .eq (.idx (.bor 14) (ci 0)) (.bor 2)) [.append 10 (.tup [.var 13,(.idx (.bor 14) (ci 1))])] []) (fS R t h a0 a3 a4 a5 a6 a7 a9 U Y f1 J (sv (ofR Q)) (sv (.tup [.str (af w),v])))=.next (fS R t h a0 a3 a4 a5 a6 a7 a9 U Y f2 J (sv (ofR Q)) (sv (.tup [.str (af w),v]))):=by
   by_cases z:w=h
   .subst z;refine⟨f1++[(Q,v)],by rw[wh,length_singleton];omega,ik k1 sQ,(aT (p:=true) (by cases w<;>rfl)).trans ?_⟩;unfold fS;rw[JM];exact cv (nT rfl rfl (a2 f1 (by omega)))
   .exact⟨f1,by omega,k1,(aT (p:=false) (by cases w<;>cases h<;>first|rfl|exact absurd rfl z)).trans rfl⟩
  obtain⟨f2,l2,k2,s3⟩:=s3;have ci:∀W:Rho,evA cal [.bor 13,cs "weaver"] W=some [.val (ofR Q),.val (.str (af false))]->∀i:Int,ev cal (.idx (.call 46 [.bor 13,(cs "weaver")]) (ci i)) W=fC (.tup [.str (af w2),v2]) (.int i):=λW hA i=>fW (ae hA e2) rfl
  cases w2 with
  |false =>
   refine⟨f2,J,_,cv ((aT (hc _ rfl)).trans (b8 (ae rfl e1) (fj s2 (fj s3 (cv ((aT (p:=false) ((dE ((ci _ rfl 0).trans rfl) rfl).trans rfl)).trans rfl)))))),l2,k2,a1,.inl rfl⟩
  |true =>
   refine⟨f2,J++[(Q,v2)],sv (.tup [.str (af w),v]),cv ((aT (hc _ rfl)).trans (b8 (ae rfl e1) (fj s2 (fj s3 (cv ((aT (p:=true) ((dE ((ci _ rfl 0).trans rfl) rfl).trans rfl)).trans ?_)))))),l2,k2,ik a1 ⟨Z,p2⟩,.inr ⟨v2,rfl⟩⟩;unfold fS;rw[JM,JM,L5,JM];refine fj (nT rfl (eN (bC rfl (bC ((ci _ rfl 1).trans rfl) rfl))) (a2 J (by omega))) (b8 ((cF rfl rfl).trans ?_) rfl);show(if _ then _ else _)=_;rw[if_pos (by have:=Z.2.1;simp only[pe];omega)];simp
 .rw[JQ q]at hc;exact⟨fs,J,_,cv ((aT (hc _ rfl)).trans rfl),by omega,ok,a1,.inl rfl⟩
def FJ{cal:Cal}{i:Nat}{xs:List XE}{W l:Rho}{vs:List PV}(h:evXs cal xs W=some (vs,l))(z:vs.length<=10000):ex cal (.ownX i xs) W=.next (put l i (.own vs)):=by
 rw[ex,h];exact if_pos z
theorem lR(cal:Cal)(C:jr cal)(R:LL)(g:SmR R)(t h:Bool)(a0 a3 a4 a5 a6 a7 a9 Y Z:Option MV):∀(D:List (LL)) (fs U:List (LL×PV)) (z J:Option MV),(∀Q∈D,SmR Q)->fs.length+2*D.length<=100->(∀x∈fs,StP x)->(∀x∈U,SmR x.1/\WP 5 x.2)->U.length+D.length<=50->(U.map (·.1)).flatten.length+D.flatten.length<=50 ->
  ∃(fs' ao:List (LL×PV)) (cd aO:Option MV),aw (λx l=>exs cal dq (put l 13 (.val x))) (D.map ofR) (fS R t h a0 a3 a4 a5 a6 a7 a9 Y Z fs U z J)=.next (fS R t h a0 a3 a4 a5 a6 a7 a9 Y Z fs' ao cd aO)/\fs'.length<=100/\(∀x∈fs',StP x)/\(∀x∈ao,SmR x.1/\WP 5 x.2)/\(ao.map (·.1)).Sublist (U.map (·.1)++D)
 | [],fs,U,z,J,_,hf,ok,a1,_,_=>⟨fs,U,z,J,rfl,by simpa using hf,ok,a1,by simp⟩
 |Q::D,fs,U,z,J,hD,hf,ok,a1,hr,hh=>by
  rw[length_cons]at hf hr;rw[flatten_cons,wh]at hh;obtain⟨f1,r1,aO,e,l1,k1,kr,q⟩:=sY cal C R g t h a0 a3 a4 a5 a6 a7 a9 Y Z Q (hD Q (.head _)) fs U z J (by omega) ok a1 (by omega) (by omega);have b:r1.length+D.length<=50/\(r1.map (·.1)).flatten.length+D.flatten.length<=50/\(r1.map (·.1)++D).Sublist (U.map (·.1)++Q::D):=by
   rcases q with rfl|⟨v,rfl⟩
   .exact⟨by omega,by omega,(Sublist.refl _).append (sublist_cons_self Q D)⟩
   .refine⟨by rw[wh,length_singleton];omega,?_,?_⟩
    .rw[JM,L5,wh];simp;simp at hh;omega
    .rw[JM,J9];exact Sublist.refl _
  obtain⟨f2,r2,ck,cl,e2,l2,k2,cr,sl⟩:=lR cal C R g t h a0 a3 a4 a5 a6 a7 a9 Y Z D f1 r1 (sv (ofR Q)) aO (λq hq=>hD q (.tail _ hq)) (by omega) k1 kr b.1 b.2.1;refine⟨f2,r2,ck,cl,?_,l2,k2,cr,sl.trans b.2.2⟩;rw[Jq,aw,e];exact e2
def og{α:Type}{A B:List (List α)}(h:A.Sublist B):A.flatten.Sublist B.flatten:=by
 induction h with
 |slnil=>exact .slnil
 |cons a _ ih=>exact ih.trans (sublist_append_right _ _)
 |cons_cons a _ ih=>exact(Sublist.refl a).append ih
def AF(ns:List Int)(hl:ns.length<=63)(t h:Bool):∃xs:List (LL×PV),aa defs 79 57 [.brw (ns.map .int),.val (.str (af t)),.val (.str (af h))]=some (.lst (xs.map aS))/\xs.length<=102/\∀x∈xs,StP x:=by
 have w0:0<=iu (cellOf ns 0) 1865811235122147685:=ic _ _;have b0:0<=iu (cellOf ns 1) 1442695040888963407:=ic _ _;have e1:=uM 76 ns 0 1865811235122147685 (by decide);have e2:=uM 76 ns 1 1442695040888963407 (by decide);generalize iu (cellOf ns 0) 1865811235122147685=U at w0 e1;generalize iu (cellOf ns 1) 1442695040888963407=J at b0 e2;obtain⟨room,r0,r1,e3⟩:∃room:Int,0<=room/\room<=8/\∀(a0 a1 a2:Option MV) (W:Rho),ev (aa defs 78) (.idx (.lst [(ci 3),(ci 8)]) (.bin .mod (.bor 3) (ci 2))) (a0::a1::a2::sv (.int U)::W)=some (.int room):=by
  have e:∀(a0 a1 a2:Option MV) (W:Rho),ev (aa defs 78) (.idx (.lst [(ci 3),(ci 8)]) (.bin .mod (.bor 3) (ci 2))) (a0::a1::a2::sv (.int U)::W)=fC (.lst [.int 3,.int 8]) (.int (U % 2)):=λ_ _ _ W=>fW rfl ((cF rfl rfl).trans rfl)
  obtain q|q:U % 2=0\/U % 2=1:=by omega
  .exact⟨3,by decide,by decide,λ_ _ _ W=>(e _ _ _ W).trans (by rw[q];rfl)⟩
  .exact⟨8,by decide,by decide,λ_ _ _ W=>(e _ _ _ W).trans (by rw[q];rfl)⟩
 have hc:=z9 ns (a:=2) (b:=2+room) (by decide) (by omega);have e4:∀(a1 a2 a3 a4:Option MV) (W:Rho),ev (aa defs 78) (.slice (.bor 0) (ci 2) (.bin .add (ci 2) (.bor 5))) (some (.brw (ns.map .int))::a1::a2::a3::a4::sv (.int room)::W)=some (ofL (qC ns (some 2) (some (2+room)))):=λ_ _ _ _ W=>by
  show some (PV.lst (cut (ns.map .int) (some 2) (some (2+room))))=_;rw[sr]
 generalize qC ns (some 2) (some (2+room))=cells at hc e4;have e9:cells.length<=8:=by omega
 have m1:=Kr J (b:=49) (by decide);have m2:=Ko J (b:=49) (by decide);have key:∀c:Int,∃s,(bJ s/\s.length<=4)/\aa defs 78 47 [.val (.int c),.val (.int (J % 49)),.val (.int (3+J / 49 % 2)),.val (.int (J / 98 % 3))]=some (ofS s):=λc=>Cw 76 c _ _ _ m1 (by omega) (by omega) (by omega) (by omega) (by omega)
 obtain⟨f,hf⟩:=KU key;have gS:∀t∈sortT (cells.map f),bJ t/\t.length<=4:=λt ht=>by
  obtain⟨c,_,rfl⟩:=mem_map.mp (dC.mp ht);exact(hf c).1
 have hL:(sortT (cells.map f)).length=cells.length:=by rw[sortT_len,pe]
 have g:SmR (sortT (cells.map f)):=by
  have:=we (R:=sortT (cells.map f)) (m:=4) λt ht=>(gS t ht).2
  exact⟨⟨λt ht=>(gS t ht).1,sortT_rises _,by omega⟩,by omega,by omega⟩
 have e5:∀(a0 a1 a2 a3 a5:Option MV) (W:Rho),ev (aa defs 78) (.comp .seq [.bor 6] [4] (.cst (.bl true)) (.call 47 [.bor 0,(.bin .mod (.bor 1) (ci 49)),(.bin .add (ci 3) (.bin .mod (.bin .fdiv (.bor 1) (ci 49)) (ci 2))),(.bin .mod (.bin .fdiv (.bor 1) (ci 98)) (ci 3))])) (a0::a1::a2::a3::sv (.int J)::a5::sv (ofL cells)::W)=some (.lst ((cells.map f).map ofS)):=λ_ _ _ _ _ W=>by
  rw[Jx];exact cq (vs:=[ofL cells]) (g:=PV.int) (h:=ofS∘f) rfl rfl (by omega) λc _=>ae rfl (hf c).2
 have e6:∀(a0 a1 a2 a3 a4 a5 a6:Option MV) (W:Rho),ev (aa defs 78) (.blt .tupleOf [(.blt .sorted [.bor 7])]) (a0::a1::a2::a3::a4::a5::a6::sv (.lst ((cells.map f).map ofS))::W)=some (ofR (sortT (cells.map f))):=λ_ _ _ _ _ _ _ W=>by
  refine(aH (v:=.lst ((sortT (cells.map f)).map ofS)) ?_).trans rfl;rw[aH (v:=.lst ((cells.map f).map ofS)) rfl,fc,hV,bind_some,eR (by rw[pe];omega)]
 generalize sortT (cells.map f)=R at g e6;generalize (cells.map f).map ofS=S at e5 e6;obtain⟨v,n1,dt,hv⟩:=qR 3 61 (qC ns (some (2+room)) none).reverse R t h g;have e7:∀(a1 a2 a3 a4:Option MV) (W:Rho),ev (aa defs 78) (.slice (.bor 0) (.bin .add (ci 2) (.bor 5)) (.cst .non)) (some (.brw (ns.map .int))::a1::a2::a3::a4::sv (.int room)::W)=some (.lst ((qC ns (some (2+room)) none).map .int)):=λ_ _ _ _ W=>by
  rw[<- sr];rfl
 have C:jr (aa defs 78):=lr 72;obtain⟨D,eD,d1,d2,d3,gD⟩:=C.split R g;obtain⟨fs,rs,b3,b4,eL,l1,k1,kr,sl⟩:=lR (aa defs 78) C R g t h (some (.brw (ns.map .int))) (sv (.int U)) (sv (.int J)) (sv (.int room)) (sv (ofL cells)) (sv (.lst S)) (some (.ownD (.p n1))) none none D [(R,v)] [] none none gD (by simp;omega) (λx hx=>by rw[JE.mp hx];exact⟨g.1,Js g.2.2 (by decide),hv⟩) (λx hx=>by cases hx) (by simp;omega) (by simp;simp at d2;omega);rw[map_nil,nil_append]at sl;have hF:=(og sl).length_le;have ea:=(og (og sl)).length_le;have fy:rs.length<=8:=by have:=sl.length_le;rw[pe]at this;omega
 have hP:WP 6 (.tup [.str "parts",.tup (rs.map aS)]):=.parts rs (by omega) (by omega) (by omega) (λr hr=>⟨(kr r hr).1.1,Js (kr r hr).1.2.2 (by decide)⟩) λr hr=>(kr r hr).2
 have gF:∀s∈(rs.map (·.1)).flatten,bJ s:=λs hs=>by
  obtain⟨G,hG,hs⟩:=mem_flatten.mp hs;obtain⟨r,hr,rfl⟩:=mem_map.mp hG;exact(kr r hr).1.1.1 s hs
 have ec:∃Z,WP 7 Z/\∀(a0 a3 a4 a5 a6 a7 a8 a9 cP cS ao c0 c1 c2:Option MV),ex (aa defs 78) (.ite (.and (.cmp .eq (.bor 2) (cs "moth")) (.cmp .eq (.bor 1) (cs "moth"))) [.set 15 (.tup [(cs "bite"),.cst .non,.var 15])] []) [a0,sv (.str (af t)),sv (.str (af h)),a3,a4,a5,a6,a7,a8,a9,cP,cS,ao,c0,c1,sv (.tup [.str "parts",.tup (rs.map aS)]),c2]=.next [a0,sv (.str (af t)),sv (.str (af h)),a3,a4,a5,a6,a7,a8,a9,cP,cS,ao,c0,c1,sv Z,c2]:=by
  by_cases z:h=true/\t=true
  .obtain⟨rfl,rfl⟩:=z;exact⟨_,.one true none hP,λ_ _ _ _ _ _ _ _ _ _ _ _ _ _=>(aT (p:=true) rfl).trans (b8 rfl rfl)⟩
  .exact⟨_,hP.le (by decide),λ_ _ _ _ _ _ _ _ _ _ _ _ _ _=>(aT (p:=false) (by cases h<;>cases t<;>first|rfl|exact absurd ⟨rfl,rfl⟩ z)).trans rfl⟩
 obtain⟨Z,c3,eP⟩:=ec;generalize ed:(rs.map (·.1)).flatten=F at hF ea gF;have F8:F.length<=8:=by omega
 have fB:F.flatten.length<=60:=by omega
 have so:∀(G:LL) (W:Rho) (e:ME),G.length<64->ev (aa defs 78) e W=some (.lst (G.map ofS))->ev (aa defs 78) (.blt .tupleOf [(.blt .sorted [e])]) W=some (ofR (sortT G)):=λG W e hG he=>by
  refine(aH (v:=.lst ((sortT G).map ofS)) ?_).trans rfl;rw[aH he,fc,hV,bind_some,eR hG]
 have c4:∀xs:List (LL×PV),xs.length<=101->(xs.map aS).length<10000:=λxs hx=>by rw[pe];omega
 have sF:StP (sortT F,Z):=⟨jM gF (by omega),by rw[jN];omega,c3.le (by decide)⟩;have cr:∀{X:Option PV},aY (exs (aa defs 78) [.ite (.cmp .eq (.bor 2) (cs "moth")) [.append 10 (.tup [(.blt .tupleOf [(.blt .sorted [.bor 12])]),.var 15])] [],.ite (.and (.cmp .eq (.bor 2) (cs "moth")) (.cmp .gt (.blt .len [.bor 12]) (ci 0))) [.set 16 (.blt .tupleOf [(.blt .sortedSet [(.bin .add (.blt .listOf [(.idx (.bor 12) (ci 0))]) (.lst [(.bin .mod (.bor 4) (ci 60))]))])]),.append 10 (.tup [(.blt .tupleOf [(.blt .sorted [(.bin .add (.bor 12) (.lst [.var 16]))])]),.var 15])] [],.retOwn 10] [some (.brw (ns.map .int)),sv (.str (af t)),sv (.str (af h)),sv (.int U),sv (.int J),sv (.int room),sv (ofL cells),sv (.lst S),sv (ofR R),some (.ownD (.p n1)),some (.own (fs.map aS)),some (.own (rs.map aS)),sv (.lst (F.map ofS)),b3,b4,sv Z,none])=X->aa defs 79 57 [.brw (ns.map .int),.val (.str (af t)),.val (.str (af h))]=X:=λ{X} hX=>by
  rw[ab (d:=du) rfl rfl];rw[<- ed]at hX;have q1:∀{Y:Option PV},aY (exs (aa defs 78) (du.body.drop 11) (fS R t h (some (.brw (ns.map .int))) (sv (.int U)) (sv (.int J)) (sv (.int room)) (sv (ofL cells)) (sv (.lst S)) (some (.ownD (.p n1))) none none fs rs b3 b4))=Y->aY (exs (aa defs 78) (du.body.drop 10) (fS R t h (some (.brw (ns.map .int))) (sv (.int U)) (sv (.int J)) (sv (.int room)) (sv (ofL cells)) (sv (.lst S)) (some (.ownD (.p n1))) none none [(R,v)] [] none none))=Y:=λ{Y} hY=>by
   refine dF (m:=.for1 13 .seq [(.call 51 [.bor 8])] dq) ?_ hY;rw[cQ (xs:=D.map ofR) (Am (ae rfl eD))];show MM.R.back _ _ (aw _ _ (fS R t h (some (.brw (ns.map .int))) (sv (.int U)) (sv (.int J)) (sv (.int room)) (sv (ofL cells)) (sv (.lst S)) (some (.ownD (.p n1))) none none [(R,v)] [] none none))=_;rw[eL]
   rfl
  have q2:aY (exs (aa defs 78) (du.body.drop 11) (fS R t h (some (.brw (ns.map .int))) (sv (.int U)) (sv (.int J)) (sv (.int room)) (sv (ofL cells)) (sv (.lst S)) (some (.ownD (.p n1))) none none fs rs b3 b4))=X:=be (v:=.tup [.str "parts",.tup (rs.map aS)]) rfl (dF (eP _ _ _ _ _ _ _ _ _ _ _ _ _ _) hX);have q3:=q1 q2;have c5:evXs (aa defs 78) [(.tup [(.pure (.var 8)),(.call 56 [true,false,false,false,false] [.bor 9,.bor 8,.bor 1,.bor 2,(ci 3)])])] [some (.brw (ns.map .int)),sv (.str (af t)),sv (.str (af h)),sv (.int U),sv (.int J),sv (.int room),sv (ofL cells),sv (.lst S),sv (ofR R),some (.ownD (.p (qC ns (some (2+room)) none).reverse)),none,none,none,none,none,none,none]=some ([aS (R,v)],[some (.brw (ns.map .int)),sv (.str (af t)),sv (.str (af h)),sv (.int U),sv (.int J),sv (.int room),sv (ofL cells),sv (.lst S),sv (ofR R),some (.ownD (.p n1)),none,none,none,none,none,none,none]):=fM (jO (cw rfl (fM (xcO rfl rfl rfl rfl rfl dt))));refine be (e1 _) (be (e2 _) (be (e3 _ _ _ _) (be (e4 _ _ _ _ _) (be (e5 _ _ _ _ _ _) (be (e6 _ _ _ _ _ _ _ _) (dF (FE (e7 _ _ _ _ _)) (dF (FJ c5 (Nat.le_of_ble_eq_true rfl)) ?_)))))));exact dF (m:=.setOwn 11 (.lst [])) rfl (be (v:=.lst []) rfl q3)
 cases h with
 |false=>exact⟨fs,cr (aX rfl (aX rfl rfl)),by omega,k1⟩
 |true =>
  have s1:∀ao,exs (aa defs 78) [.append 10 (.tup [(.blt .tupleOf [(.blt .sorted [.bor 12])]),.var 15])] [some (.brw (ns.map .int)),sv (.str (af t)),sv (.str (af true)),sv (.int U),sv (.int J),sv (.int room),sv (ofL cells),sv (.lst S),sv (ofR R),some (.ownD (.p n1)),some (.own (fs.map aS)),some (.own (rs.map aS)),sv (.lst (F.map ofS)),b3,b4,sv Z,ao]=.next [some (.brw (ns.map .int)),sv (.str (af t)),sv (.str (af true)),sv (.int U),sv (.int J),sv (.int room),sv (ofL cells),sv (.lst S),sv (ofR R),some (.ownD (.p n1)),some (.own ((fs++[(sortT F,Z)]).map aS)),some (.own (rs.map aS)),sv (.lst (F.map ofS)),b3,b4,sv Z,ao]:=λao=>by
   rw[JM];exact cv (nT rfl (eN (bC (so F _ _ (by omega) rfl) (bC rfl rfl))) (c4 fs (by omega)))
  cases F with
  |nil =>
   exact⟨fs++[(sortT [],Z)],cr (dF ((aT (p:=true) rfl).trans (s1 none)) (aX rfl rfl)),by rw[wh,length_singleton];omega,ik k1 sF⟩
  |cons s F =>
   have gs:=gF s (.head _);have m0:=Kr J (b:=60) (by decide);have m9:=Ko J (b:=60) (by decide);have eK:=aI gs;have ee:(dd (s++[J % 60])).length<=(s++[J % 60]).length:=gJ _;rw[wh,length_singleton]at ee;have gl:bJ (sortI (dd (s++[J % 60]))):=⟨nF (dd_nodup _),λx hx=>by
    rcases Kv.mp (iN.mp (i8.mp hx))with z|z
    .exact gs.2 x z
    .rw[JE.mp z];omega⟩
   have ll:(sortI (dd (s++[J % 60]))).length<=61:=by rw[sortI_len];omega
   have el:∀W:Rho,ev (aa defs 78) (.bor 12) W=some (.lst ((s::F).map ofS))->ev (aa defs 78) (.bor 4) W=some (.int J)->ev (aa defs 78) (.blt .tupleOf [(.blt .sortedSet [(.bin .add (.blt .listOf [(.idx (.bor 12) (ci 0))]) (.lst [(.bin .mod (.bor 4) (ci 60))]))])]) W=some (ofS (sortI (dd (s++[J % 60])))):=λW ef h4=>by
    have i0:ev (aa defs 78) (.idx (.bor 12) (ci 0)) W=some (ofS s):=by
     rw[fW ef (fg _ _ _),z8,iM (by decide) (by rw[pe,length_cons];omega)]
     rfl
    have i1:ev (aa defs 78) (.lst [(.bin .mod (.bor 4) (ci 60))]) W=some (.lst [.int (J % 60)]):=by
     rw[ev,bC ((cF h4 (fg _ _ _)).trans rfl) rfl]
     rfl
    have i2:ev (aa defs 78) (.bin .add (.blt .listOf [(.idx (.bor 12) (ci 0))]) (.lst [(.bin .mod (.bor 4) (ci 60))])) W=some (.lst ((s++[J % 60]).map .int)):=by
     rw[cF ((aH i0).trans rfl) i1,JM];exact if_pos (by rw[pe,length_singleton];omega)
    refine(aH (v:=.lst ((sortI (dd (s++[J % 60]))).map .int)) ?_).trans rfl;rw[aH i2,oI,hV,bind_some,br,bind_some,if_pos ⟨by rw[wh,length_singleton];omega,by omega⟩]
   have eg:∀W:Rho,ev (aa defs 78) (.bor 12) W=some (.lst ((s::F).map ofS))->ev (aa defs 78) (.cmp .gt (.blt .len [.bor 12]) (ci 0)) W=some (.bl true):=λW h=>by
    rw[dE (aH h) (fg _ _ _)];show some (PV.bl (decide ((0:Int)<(((s::F).map ofS).length:Nat))))=_;rw[JA (by rw[pe,length_cons];omega)]
   have ad:∀W:Rho,ev (aa defs 78) (.bor 12) W=some (.lst ((s::F).map ofS))->ev (aa defs 78) (.var 16) W=some (ofS (sortI (dd (s++[J % 60]))))->ev (aa defs 78) (.bin .add (.bor 12) (.lst [.var 16])) W=some (.lst (((s::F)++[sortI (dd (s++[J % 60]))]).map ofS)):=λW h h'=>by
    rw[cF h (y:=.lst [ofS (sortI (dd (s++[J % 60])))]) (by rw[ev,bC h' rfl];rfl),JM];exact if_pos (by rw[pe,length_singleton];omega)
   have gG:∀x∈(s::F)++[sortI (dd (s++[J % 60]))],bJ x:=ik gF gl;have sG:StP (sortT ((s::F)++[sortI (dd (s++[J % 60]))]),Z):=⟨jM gG (by rw[wh,length_singleton];omega),by rw[jN,L5,wh,flatten_singleton];omega,c3.le (by decide)⟩;refine⟨(fs++[(sortT (s::F),Z)])++[(sortT ((s::F)++[sortI (dd (s++[J % 60]))]),Z)],cr (dF ((aT (p:=true) rfl).trans (s1 none)) (dF ((aT (p:=true) (dv (p:=true) (q:=true) rfl λ_=>eg _ rfl)).trans (b8 (el _ rfl rfl) (cv (nT rfl (eN (bC (so ((s::F)++[sortI (dd (s++[J % 60]))]) _ _ (by rw[wh,length_singleton];omega) ?_) (bC rfl rfl))) (c4 (fs++[(sortT (s::F),Z)]) (by rw[wh,length_singleton];omega)))))) ?_)),by simp only[wh,length_singleton];omega,ik (ik k1 sF) sG⟩
   .exact ad _ rfl rfl
   .rw[JM (l₂:=[(sortT ((s::F)++[sortI (dd (s++[J % 60]))]),Z)])]
    rfl
theorem sZ{n:Nat}:∀{xs:List PV},(∀x∈xs,eqF n x x=some true)->eqL (eqF n) xs xs=some true
 | [],_=>rfl
 |x::xs,h=>by
  rw[eqL,h x (.head _),sZ λy z=>h y (.tail _ z)]
  rfl
def dz{n:Nat}{xs:List PV}(h:∀x∈xs,eqF n x x=some true):eqF (n+1) (.tup xs) (.tup xs)=some true:=sZ h
def il(n:Nat)(k:PySem.Str):eqF n (.str k) (.str k)=some true:=by rw[Cf,Kd]
def i_(n:Nat)(R:LL):eqF (n+2) (ofR R) (ofR R)=some true:=by rw[Hz,JA rfl]
def uS(n:Nat)(r:Option Int):eqF n (bS r) (bS r)=some true:=by
 cases r with
 |none=>cases n<;>rfl
 |some x=>rw[show bS (some x)=.int x from rfl,kj,Kd]
def lZ{P:PV->Prop}{a:PV}(h:P a):∀x∈[a],P x:=λx hx=>by rw[JE.mp hx];exact h
def jc{P:PV->Prop}{a:PV}{l:List PV}(h:P a)(k:∀x∈l,P x):∀x∈a::l,P x:=λx hx=>by
 rcases Jp.mp hx with rfl|z
 .exact h
 .exact k x z
def H_{d:Nat}{v:PV}(p:WP d v):∀n,3*d+4<=n->eqF n v v=some true:=by
 induction p with
 | @leaf d v hv =>
  intro n z;obtain⟨n,rfl⟩:∃m,n=m+3:=⟨n-3,by omega⟩;rcases hv with rfl|rfl|rfl|⟨P,_,_,rfl⟩
  .exact dz (lZ (il _ _))
  .exact dz (lZ (il _ _))
  .exact dz (lZ (il _ _))
  .exact dz (jc (il _ _) (lZ (i_ n P)))
 | @one d v k r hv ih =>
  intro n z;obtain⟨n,rfl⟩:∃m,n=m+1:=⟨n-1,by omega⟩;exact dz (jc (il _ _) (jc (uS _ _) (lZ (ih n (by omega)))))
 | @cases d rows Y Z ih =>
  intro n z;obtain⟨n,rfl⟩:∃m,n=m+3:=⟨n-3,by omega⟩;refine dz (jc (il _ _) (lZ (dz λx hx=>?_)));obtain⟨r,J,rfl⟩:=mem_map.mp hx;exact dz (jc (by rw[kj,Kd]) (jc (uS _ _) (lZ (ih r J n (by omega)))))
 | @parts d rows Y hs ao hg Z ih =>
  intro n z;obtain⟨n,rfl⟩:∃m,n=m+5:=⟨n-5,by omega⟩;refine dz (jc (il _ _) (lZ (dz λx hx=>?_)));obtain⟨r,J,rfl⟩:=mem_map.mp hx;exact dz (jc (i_ n r.1) (lZ (ih r J (n+2) (by omega))))
 | @fewer d v A gA fA hv ih =>
  intro n z;obtain⟨n,rfl⟩:∃m,n=m+3:=⟨n-3,by omega⟩;exact dz (jc (il _ _) (jc (i_ n A) (lZ (ih (n+2) (by omega)))))
 | @either d v w A B gA gB fA fB hv hw ih U =>
  intro n z;obtain⟨n,rfl⟩:∃m,n=m+3:=⟨n-3,by omega⟩;exact dz (jc (il _ _) (jc (i_ n A) (jc (ih (n+2) (by omega)) (jc (i_ n B) (lZ (U (n+2) (by omega)))))))
def uT{x:LL×PV}(ok:StP x)(h:Bool)(Y x3 x4 x5:Option MV):∃U Z,exs (aa defs 79) qD (put [Y,sv (.str (af h)),sv (.str (af !h)),x3,x4,x5] 3 (.val (aS x)))=.next [Y,sv (.str (af h)),sv (.str (af !h)),sv (aS x),U,Z]:=by
 obtain⟨g,hf,w⟩:=ok;obtain⟨b,G⟩:=xv w x.1 g hf h h;have c:∀U Z,ev (aa defs 79) (.call 30 [(.idx (.bor 3) (ci 1)),(.idx (.bor 3) (ci 0)),.bor 1,.bor 1]) [Y,sv (.str (af h)),sv (.str (af !h)),sv (aS x),U,Z]=some (.bl b):=λ_ _=>ae (gU rfl (gU rfl rfl)) (G 79 (by decide))
 cases b with
 |false=>exact⟨_,_,cv ((aT (c _ _)).trans rfl)⟩
 |true =>
  obtain⟨r,z,J,g',a6,F,G',w',lo⟩:=fst w x.1 g hf h (G _ (by decide));have F:=F 79 (by decide);have G':=G' 79 (by decide);have ne:cj .ne (.tup [bS r,ofR z,J]) (.tup [bS r,ofR z,J])=some false:=by
   rw[zQ,if_pos (show rH (.tup [bS r,ofR z,J]) (.tup [bS r,ofR z,J])=true from rfl),dz (n:=99) (jc (uS _ _) (jc (i_ 97 z) (lZ (H_ w' 99 (by decide)))))]
   rfl
  have d:∀U,ev (aa defs 79) (.call 49 [(.idx (.bor 3) (ci 0)),.bor 1,(.idx (.bor 4) (ci 0))]) [Y,sv (.str (af h)),sv (.str (af !h)),sv (aS x),sv (.tup [bS r,ofR z,J]),U]=some (ofR (bhd h x.1 r)):=λ_=>ae (gU rfl (vY rfl (gU rfl rfl))) (my 77 x.1 g h r)
  have l1:=sN 77 (bhd h x.1 r) z (by have:=g'.2.2;omega);have l2:=sN 77 z (bhd h x.1 r) (by have:=(dw (h:=h) g r).2.2;omega);rw[uL]at l1 l2;refine⟨sv (.tup [bS r,ofR z,J]),sv (ofR (bhd h x.1 r)),cv ((aT (c _ _)).trans (b8 (ae (gU rfl (gU rfl rfl)) F.1) (sK (Al (p:=false) (q:=false) rfl λ_=>(dE rfl (ae (gU rfl (gU rfl rfl)) F.2)).trans (by rw[ne];rfl)) (sK (Al (p:=false) (q:=false) (by cases r<;>rfl) λ_=>lK (ae (gU rfl (gU rfl rfl)) G')) (b8 (d _) ?_)))))⟩;cases h with
  |true =>
   have lo:below (bhd true x.1 r) z=true:=lo;rw[lo]at l1;exact sK (dv (p:=true) (q:=false) rfl λ_=>lK (ae (vY rfl (gU rfl rfl)) l1)) (sK rfl rfl)
  |false =>
   have lo:below z (bhd false x.1 r)=true:=lo;rw[lo]at l2;exact sK rfl (sK (dv (p:=true) (q:=false) rfl λ_=>lK (ae (gU rfl (vY rfl rfl)) l2)) rfl)
theorem oh(h:Bool)(Y:Option MV):∀(xs:List (LL×PV)) (z J U:Option MV),(∀x∈xs,StP x)->∃W,aw (λx l=>exs (aa defs 79) qD (put l 3 (.val x))) (xs.map aS) [Y,sv (.str (af h)),sv (.str (af !h)),z,J,U]=.next W
 | [],z,J,U,_=>⟨_,rfl⟩
 |x::xs,z,J,U,ok=>by
  obtain⟨y4,y5,e⟩:=uT (ok x (.head _)) h Y z J U;rw[Jq,aw,e];exact oh h Y xs _ _ _ λy Z=>ok y (.tail _ Z)
def AG(ns:List Int)(U:ns.length<=63):aa defs 80 60 [.brw (ns.map .int)]=some (.bl true):=by
 rw[ab (d:=vT) rfl rfl];have J:=uM 77 ns 0 2049848353892358983 (by decide);generalize iu (cellOf ns 0) 2049848353892358983=z at J;obtain⟨h,Y⟩:∃h,∀W:Rho,ev (aa defs 79) (.idx (.lst [(cs "moth"),(cs "weaver")]) (.bin .mod (.call 39 [(.call 38 [.bor 0,(ci 0)]),(ci 2049848353892358983)]) (ci 2))) (some (.brw (ns.map .int))::W)=some (.str (af h)):=by
  have e:∀W:Rho,ev (aa defs 79) (.idx (.lst [(cs "moth"),(cs "weaver")]) (.bin .mod (.call 39 [(.call 38 [.bor 0,(ci 0)]),(ci 2049848353892358983)]) (ci 2))) (some (.brw (ns.map .int))::W)=fC (.lst [.str "moth",.str "weaver"]) (.int (z % 2)):=λW=>fW rfl ((cF (J W) rfl).trans rfl)
  obtain q|q:z % 2=0\/z % 2=1:=by omega
  .exact⟨true,λW=>(e W).trans (by rw[q];rfl)⟩
  .exact⟨false,λW=>(e W).trans (by rw[q];rfl)⟩
 obtain⟨xs,Z,_,ok⟩:=AF ns U h h;obtain⟨W,eL⟩:=oh h (some (.brw (ns.map .int))) xs none none none ok;refine be (Y _) (be (v:=.str (af !h)) (by cases h<;>rfl) (dF (l:=W) ?_ (gR rfl)));rw[cQ (xs:=xs.map aS) (Am (ae rfl Z))];show MM.R.back _ _ (aw _ _ [some (.brw (ns.map .int)),sv (.str (af h)),sv (.str (af !h)),none,none,none])=_;rw[eL]
 rfl
noncomputable def top(i:Nat):Stmt:=PySem.Challenge.pw_mothloom_k35_first_moves.main.body.getD i (.Pass ⟨0,0,0,0⟩)
def FK {l:PySem.W.OpenLaw}{w:World}{K:Mx}{h:Heap}{mg:Str->Option Value}{fa:Addr} (X:K.In h) (G:h.Ns mainGlobals mg) (U:mg "law"=some (.ref fa))
  (hs:uC K top defs [1,2,3,4,5,6,7,8,10,11,12,14,15,16,17,19,20,22,23,26,27,28,29,30,31,32,33,34,35,37,39,40,41,42,43,44,45,46,48,49,50,51,52,53,54,55,56,57,58,59,60,61,62,63,64,65,66,67,68,69,70] tab.ds) (hL:HD K "law" (top 70) vT λfd=>∀(s:Shared) (v:Value),BindsTo s fd ⟨[v],[]⟩ [("script",v)])
  (zs:∀x∈kd,PySem.W.nsIn K mainGlobals x=some none)
  {z:Value} (g0:PySem.W.nsIn K mainGlobals "UNIT"=some (some z)) (r0:aD (toV (.int 1152921504606846976)) z)
 :∃fd:FuncData,(∀(s:Shared) (v:Value),BindsTo s fd ⟨[v],[]⟩ [("script",v)])/\∀base:Heap,K.In base->base.Ns mainGlobals mg->jv l.prog w K mg base CX0 80 fa fd ["script"] (spM K (aa defs 80) 60):=by
 obtain⟨_,Y,J,Z⟩:=zP (T:=tab) X G hL (by kernel_rfl);cases U.symm.trans J.named;have pr:Fd tab K mg defs:=by
  refine⟨rfl,Fc X G hs (by kernel_rfl),λx hx=>PySem.W.mg_none_of X G (zs x hx),λp hp=>?_⟩
  .simp only[tab,Jp,Kw,Lg]at hp;rcases hp with rfl
   .exact⟨_,PySem.W.mg_of X G g0,r0⟩
 exact⟨Y,Z,λbase _ _=>Hx (by decide) pr 80 60 vT rfl _ _ _ J⟩
def Jl{l:PySem.W.OpenLaw}{q:Program}{J:List Str}{XP:(Str->Option Value)->Heap->Prop}{Y:World->Heap->Prop}{d:DefRec}{K:Params->Mx}(hn:l.most=some 63)(U:d.params.defaults=[])
  (hY:∀(w:World) (h:Heap),Y w h->(K w.params).In h)
  (F:∀(w:World) (mg:Str->Option Value) (Z:Addr) (h:Heap),(K w.params).In h->h.Ns mainGlobals mg->mg d.name=some (.ref Z) ->
   ∃fd:FuncData,(∀(s:Shared) (u:Value),BindsTo s fd ⟨[u],[]⟩ [("script",u)])/\∀base:Heap,(K w.params).In base->base.Ns mainGlobals mg->jv l.prog w (K w.params) mg base CX0 80 Z fd ["script"] (spM (K w.params) (aa defs 80) 60)) :
  PySem.W.WalkO q J XP Y l.row.toRowW d [] (λf vs=>PySem.call f vs):=
 L2.Be (n:=63) (k:=80) (x:="script") (CX:=λ_=>CX0) (sp:=λw=>spM (K w.params) (aa defs 80) 60) hn (by decide) U ⟨rfl,by decide,by decide⟩ hY F (λ_ _ a ns hl _ hS=>Fe (AG ns hl) hS) λ_ _ _ _ _ z=>z
end My
open PySem PySem.W PyProof.Rows List Option
set_option maxRecDepth 100000 in
set_option maxHeartbeats 0 in
theorem PySem.Challenge.cw_mothloom_k35_first_moves_holds : PySem.Challenge.rw_mothloom_k35_first_moves.Holds := by
 w_on;o_law;k_head;(case hw=>w_witness2)
 k_fill
 refine My.Jl (l:=PySem.Challenge.rw_mothloom_k35_first_moves) rfl rfl (λw h Y=>PySem.W.kIn_of Y) ?F
 case F =>
  intro w mg fa h KX G hmg
  refine' My.FK KX G hmg ?hs ?hL ?zs ?gq0 ?rq0
  (case hs =>
   repeat' first|exact MM.uC.nil|apply MM.uC.cons
   all_goals (conv=>arg 2;whnf)
   all_goals first
    | (refine' ⟨rfl,_,_,?ka,.mk' (d0:=.none) ?kl ?kc ?kk,MM.bn1 λ_=>rfl,trivial⟩;(case ka=>k_is);(case kl=>k_is);(case kc=>k_is);(case kk=>k_is))
    | (refine' ⟨rfl,_,_,?ka,.mk' (d0:=.none) ?kl ?kc ?kk,MM.bn2 λ_ _=>rfl,trivial⟩;(case ka=>k_is);(case kl=>k_is);(case kc=>k_is);(case kk=>k_is))
    | (refine' ⟨rfl,_,_,?ka,.mk' (d0:=.none) ?kl ?kc ?kk,MM.bn3 λ_ _ _=>rfl,trivial⟩;(case ka=>k_is);(case kl=>k_is);(case kc=>k_is);(case kk=>k_is))
    | (refine' ⟨rfl,_,_,?ka,.mk' (d0:=.none) ?kl ?kc ?kk,MM.bn4 λ_ _ _ _=>rfl,trivial⟩;(case ka=>k_is);(case kl=>k_is);(case kc=>k_is);(case kk=>k_is))
    | (refine' ⟨rfl,_,_,?ka,.mk' (d0:=.none) ?kl ?kc ?kk,MM.bn5 λ_ _ _ _ _=>rfl,trivial⟩;(case ka=>k_is);(case kl=>k_is);(case kc=>k_is);(case kk=>k_is))
    | (refine' ⟨rfl,_,_,?ka,.mkd ?kl ?kc ?kk,?kb,trivial⟩;(case ka=>k_is);(case kl=>k_is);(case kc=>k_is);(case kk=>k_is);(case kb=>refine' MM.uB rfl ?kx ?ky;(case kx=>k_is);(case ky=>exact λus hl=>match us,hl with|[_,_],_=>⟨_,rfl,rfl⟩))))
  (case hL=>refine' ⟨rfl,_,_,?ka,.mk' (d0:=.none) ?kl ?kc ?kk,MM.bn1 λ_=>rfl,λs v=>.of_eq rfl⟩;(case ka=>k_is);(case kl=>k_is);(case kc=>k_is);(case kk=>k_is))
  (case zs=>intro x hx;simp only[MM.kd,Jp,Kw,Lg]at hx;rcases hx with rfl|rfl|rfl|rfl|rfl|rfl|rfl|rfl|rfl|rfl|rfl|rfl|rfl|rfl|rfl|rfl|rfl<;>k_is)
  (case gq0=>k_is);(case rq0=>exact⟨_,rfl⟩)
