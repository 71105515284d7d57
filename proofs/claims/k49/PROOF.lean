import PyProof.Rows.All
import Wide.All
import OpenK.AllK
import Wide.FinOn
import Lean
import PyProof.EqAt
import PyProof.EqKinds
import PyProof.TupleCall
import PySem.Challenge.RW_mothloom_k49_a_follower_asked
set_option Elab.async false
set_option linter.all false
set_option maxRecDepth 100000
set_option maxHeartbeats 1500000
set_option genSizeOf false
set_option backward.eqns.nonrecursive false
set_option bootstrap.genMatcherCode false
def kn:=@PySem.wpAny_bind
def ll:=@Option.bind_eq_some_iff
def mn:=@PySem.Heap.get?_push_of_some
def mu:=@PySem.wpAny_pure
def oe:=@Bool.false_ne_true
def ow:=@Bool.and_eq_true
def ox:=@Option.some.injEq
def pb:=@Nat.le_refl
def pd:=@List.size_toArray
def pe:=@List.mem_cons
def sm:=@List.length_map
def tr:=@Option.map_eq_some_iff
def tu:=@PySem.Heap.get?_push_size
def uw:=@PySem.Heap.lt_size
def vl:=@Bool.and_eq_true_iff
def vr:=@Option.some.inj
def wh:=@Nat.lt_of_lt_of_le
def xa:=@List.getElem?_eq_some_iff
def xb:=@Nat.le_trans
def x1:=@Nat.ne_of_lt
def x3:=@List.getElem?_set_ne
def Hg:=@Nat.lt_of_le_of_lt
def J7:=@beq_iff_eq
def J8:=@List.map_cons
def J9:=@List.mem_filter
def Ka:=@decide_eq_true
def Kb:=@List.getElem?_map
def Kc:=@List.getElem?_eq_getElem
def Kd:=@List.mem_singleton
def Ke:=@PySem.wpAny_loadPart'
def Kf:=@List.not_mem_nil
def Kg:=@PySem.Heap.size_push
def Kh:=@List.map_map
def Ki:=@Nat.zero_le
def Kj:=@List.length_append
def Kk:=@List.mem_cons_of_mem
def Kl:=@of_decide_eq_true
def Km:=@Bool.not_eq_true'
def Kn:=@decide_eq_false
def Ko:=@or_false
def Kp:=@PySem.wpAny_call_entry
def Kq:=@List.getElem?_set_self
def Kr:=@Nat.lt_succ_of_lt
def Ks:=@PySem.wpAny_mono
def Kt:=@Nat.lt_irrefl
def Ku:=@beq_eq_false_iff_ne
def Kv:=@PySem.wpAny_truthy_bool
def Kw:=@PySem.wpAny_newObj_type
def Kx:=@PyProof.Rows.slot_tuple_getitem
def Ky:=@PySem.wpAny_callSpecial?_slot
def Kz:=@List.mem_cons_self
def KA:=@List.nodup_cons
def KC:=@Nat.le_of_lt
def KD:=@Ne.symm
def KG:=@PySem.sizeLine_eq
def KH:=@Nat.le_succ
def KI:=@Nat.le_antisymm
def KJ:=@Bool.false_eq_true
def KL:=@List.mem_append_right
def KN:=@beq_self_eq_true
def KP:=@PySem.Heap.get?_update_other
def KQ:=@List.nodup_nil
def KR:=@Bool.eq_iff_iff
def KS:=@Nat.not_lt
def KU:=@PySem.Heap.get?_update_self
def KW:=@Nat.le_add_right
def KY:=@List.any_eq_true
def KZ:=@Int.emod_lt_of_pos
def K0:=@List.map_append
def K1:=@Nat.le_of_lt_succ
def K2:=@PyProof.Rows.KeyOrd.kle_refl
def K3:=@Nat.ne_of_gt
def K4:=@List.mem_append
def K5:=@Nat.lt_succ_self
def K6:=@Nat.add_sub_cancel
def K7:=@Array.getElem?_toList
def K8:=@List.length_eq_zero_iff
def K9:=@decide_eq_true_iff
def La:=@congrArg
def Lb:=@Nat.le_of_eq
def Lc:=@List.getElem?_append_left
def Ld:=@Int.emod_nonneg
def Le:=@PySem.wpAny_holding
def Lf:=@PySem.Heap.SameBut.update
def Lg:=@List.map_congr_left
def Lh:=@List.length_filter_le
def Li:=@PyProof.Rows.callWith_type1
def Lj:=@Nat.add_right_comm
def Lk:=@Nat.lt_of_le_of_ne
def Ll:=@PySem.wpAny_setField_rec
def Lm:=@List.getElem?_append_right
def Ln:=@List.mem_of_getElem?
def Lo:=@PySem.wpAny_ite_split
def Lp:=@PySem.wpAny_setState_of
def Lq:=@PySem.codeAny_mono
def Lr:=@Nat.lt_trans
def Ls:=@PySem.wpAny_isInstance
def Lu:=@Nat.exists_eq_add_of_lt
def Lv:=@List.mem_append_left
def Lw:=@PySem.wpAny_Call_Name_kw
def Lx:=@PySem.tupleKind_room_in1
def Ly:=@PySem.F.slot_dict_valueiterator_next
def Lz:=@PySem.richCompare_meets_room
def LA:=@Nat.le_of_succ_le
def LB:=@PyProof.Rows.KeyOrd.kle_of_klt
def LC:=@List.find?_cons_of_neg
def LD:=@List.perm_ext_iff_of_nodup
def LF:=@Array.getD_eq_getD_getElem?
def LG:=@List.append_nil
def LH:=@PyProof.Rows.KeyOrd.kle_trans
def LI:=@Nat.le_sub_one_of_lt
def LJ:=@Array.perm_iff_toList_perm
def LK:=@List.pairwise_cons
def LM:=@not_false_iff
def LN:=@Int.le_refl
def LO:=@PySem.wpAny_passesOwn
def LP:=@Nat.le_add_left
def LQ:=@PySem.W.KasT.kasWp_bind
def LR:=@Nat.min_eq_left
def LS:=@Array.getElem?_eq_getElem
def LU:=@Bool.or_eq_true
def LV:=@PySem.wpAny_pyIter_tuple
def LW:=@List.getElem?_replicate
def LX:=@PySem.AutoSeq1.sub_tuple_tuple
def LY:=@PySem.wpAny_typeOf
def LZ:=@if_false
def L0:=@Nat.zero_add
def L1:=@List.append_assoc
def L3:=@List.filter_cons_of_neg
def L4:=@List.length_set
def L5:=@PySem.wpAny_pyIter_list
def L6:=@Nat.lt_trichotomy
def L7:=@bne_self_eq_false
def L8:=@PySem.wpAny_collect_seq
def L9:=@List.length_eq_one_iff
def Ma:=@Nat.lt_of_succ_lt_succ
def Mb:=@Nat.le_of_succ_le_succ
def Mc:=@Array.getElem?_eq_none
def Md:=@PySem.wpAny_attempt
def Me:=@Nat.le_of_not_lt
def Mf:=@List.all_eq_true
def Mg:=@List.getD_eq_getElem?_getD
def Mh:=@PySem.wpAny_rule
def Mi:=@PySem.codeAny_builtin
def Mj:=@PySem.Around.under_plainId
def Ml:=@PySem.wpAny_updateSeq
def Mm:=@PySem.wpAny_fieldsOf
def Mn:=@Option.map_map
def Mo:=@List.filter_eq_self
def Mp:=@List.length_take
def Mq:=@PySem.Calls.spliced_cons
def Mr:=@of_decide_eq_false
def Ms:=@Nat.lt_or_eq_of_le
def Mt:=@Array.size_extract
def Mu:=@List.filter_cons_of_pos
def Mv:=@Int.fdiv_eq_ediv_of_nonneg
def Mw:=@Array.getElem?_append_left
def Mz:=@PySem.plainId_quiet
def MA:=@PySem.Value.isInt_shape
def MB:=@List.any_eq_false
def MC:=@Nat.lt_succ_of_le
def MF:=@List.take_of_length_le
def MG:=@PySem.wpAny_pyIter_slot
def MH:=@PySem.wpAny_setEpoch_of
def MI:=@List.find?_cons_of_pos
def MJ:=@Int.not_le
def ML:=@Nat.sub_le
def MN:=@Int.le_of_lt
def MO:=@PySem.concat_meets
def MP:=@PySem.noFill_tuple_add
def MQ:=@Nat.lt_asymm
def MR:=@map_eq_pure_bind
def MU:=@List.all_map
def MW:=@List.any_map
def MX:=@List.getElem?_eq_none
def MY:=@List.nodup_append
def MZ:=@List.length_range
def M0:=@Int.le_trans
def M1:=@and_true
def M3:=@List.isEmpty_iff
def M4:=@Nat.sub_lt
abbrev M5:=PySem.W.Frag
def bN{P:Prop}(h:∀Q:Prop,(P->Q)->Q):P:=h P id
def qV{P Q:Prop}{Z:Prop}(h:P/\Q)(k:P->Q->Z):Z:=k h.1 h.2
def jP{P Q R:Prop}{Z:Prop}(h:P/\Q/\R)(k:P->Q->R->Z):Z:=k h.1 h.2.1 h.2.2
def gC{P Q R S:Prop}{Z:Prop}(h:P/\Q/\R/\S)(k:P->Q->R->S->Z):Z:=k h.1 h.2.1 h.2.2.1 h.2.2.2
def xA{P Q R S T:Prop}{Z:Prop}(h:P/\Q/\R/\S/\T)(k:P->Q->R->S->T->Z):Z:=k h.1 h.2.1 h.2.2.1 h.2.2.2.1 h.2.2.2.2
def jQ{P Q R S T U:Prop}{Z:Prop}(h:P/\Q/\R/\S/\T/\U)(k:P->Q->R->S->T->U->Z):Z:=k h.1 h.2.1 h.2.2.1 h.2.2.2.1 h.2.2.2.2.1 h.2.2.2.2.2
def GO{P:A->Prop}{Z:Prop}(h:∃a,P a)(k:∀a,P a->Z):Z:=h.elim λa h=>k a h
def ae{P Q:A->Prop}{Z:Prop}(h:∃a,P a/\Q a)(k:∀a,P a->Q a->Z):Z:=h.elim λa h=>k a h.1 h.2
def a8{P Q R:A->Prop}{Z:Prop}(h:∃a,P a/\Q a/\R a)(k:∀a,P a->Q a->R a->Z):Z:=h.elim λa h=>k a h.1 h.2.1 h.2.2
def oY{P Q R S T:A->Prop}{Z:Prop}(h:∃a,P a/\Q a/\R a/\S a/\T a)(k:∀a,P a->Q a->R a->S a->T a->Z):Z:=h.elim λa h=>k a h.1 h.2.1 h.2.2.1 h.2.2.2.1 h.2.2.2.2
def mV{P:A->B->Prop}{Z:Prop}(h:∃a b,P a b)(k:∀a b,P a b->Z):Z:=h.elim λa h=>h.elim λb h=>k a b h
def cM{P Q:A->B->Prop}{Z:Prop}(h:∃a b,P a b/\Q a b)(k:∀a b,P a b->Q a b->Z):Z:=h.elim λa h=>h.elim λb h=>k a b h.1 h.2
def au{P Q R:A->B->Prop}{Z:Prop}(h:∃a b,P a b/\Q a b/\R a b)(k:∀a b,P a b->Q a b->R a b->Z):Z:=h.elim λa h=>h.elim λb h=>k a b h.1 h.2.1 h.2.2
def ij{P Q R S:A->B->Prop}{Z:Prop}(h:∃a b,P a b/\Q a b/\R a b/\S a b)(k:∀a b,P a b->Q a b->R a b->S a b->Z):Z:=h.elim λa h=>h.elim λb h=>k a b h.1 h.2.1 h.2.2.1 h.2.2.2
def uR{P Q R S T:A->B->Prop}{Z:Prop}(h:∃a b,P a b/\Q a b/\R a b/\S a b/\T a b)(k:∀a b,P a b->Q a b->R a b->S a b->T a b->Z):Z:=h.elim λa h=>h.elim λb h=>k a b h.1 h.2.1 h.2.2.1 h.2.2.2.1 h.2.2.2.2
def CV{P Q R S T U:A->B->Prop}{Z:Prop}(h:∃a b,P a b/\Q a b/\R a b/\S a b/\T a b/\U a b)(k:∀a b,P a b->Q a b->R a b->S a b->T a b->U a b->Z):Z:=h.elim λa h=>h.elim λb h=>k a b h.1 h.2.1 h.2.2.1 h.2.2.2.1 h.2.2.2.2.1 h.2.2.2.2.2
def GP{P:A->B->C->Prop}{Z:Prop}(h:∃a b c,P a b c)(k:∀a b c,P a b c->Z):Z:=h.elim λa h=>h.elim λb h=>h.elim λc h=>k a b c h
def xB{P Q:A->B->C->Prop}{Z:Prop}(h:∃a b c,P a b c/\Q a b c)(k:∀a b c,P a b c->Q a b c->Z):Z:=h.elim λa h=>h.elim λb h=>h.elim λc h=>k a b c h.1 h.2
def uS{P Q R:A->B->C->Prop}{Z:Prop}(h:∃a b c,P a b c/\Q a b c/\R a b c)(k:∀a b c,P a b c->Q a b c->R a b c->Z):Z:=h.elim λa h=>h.elim λb h=>h.elim λc h=>k a b c h.1 h.2.1 h.2.2
def mX{P Q R S:A->B->C->Prop}{Z:Prop}(h:∃a b c,P a b c/\Q a b c/\R a b c/\S a b c)(k:∀a b c,P a b c->Q a b c->R a b c->S a b c->Z):Z:=h.elim λa h=>h.elim λb h=>h.elim λc h=>k a b c h.1 h.2.1 h.2.2.1 h.2.2.2
def oZ{P Q R S T:A->B->C->Prop}{Z:Prop}(h:∃a b c,P a b c/\Q a b c/\R a b c/\S a b c/\T a b c)(k:∀a b c,P a b c->Q a b c->R a b c->S a b c->T a b c->Z):Z:=h.elim λa h=>h.elim λb h=>h.elim λc h=>k a b c h.1 h.2.1 h.2.2.1 h.2.2.2.1 h.2.2.2.2
def cR{P Q R S T U:A->B->C->Prop}{Z:Prop}(h:∃a b c,P a b c/\Q a b c/\R a b c/\S a b c/\T a b c/\U a b c)(k:∀a b c,P a b c->Q a b c->R a b c->S a b c->T a b c->U a b c->Z):Z:=h.elim λa h=>h.elim λb h=>h.elim λc h=>k a b c h.1 h.2.1 h.2.2.1 h.2.2.2.1 h.2.2.2.2.1 h.2.2.2.2.2
def je{P Q:A->B->C->D->Prop}{Z:Prop}(h:∃a b c d,P a b c d/\Q a b c d)(k:∀a b c d,P a b c d->Q a b c d->Z):Z:=h.elim λa h=>h.elim λb h=>h.elim λc h=>h.elim λd h=>k a b c d h.1 h.2
def GQ{P Q R:A->B->C->D->Prop}{Z:Prop}(h:∃a b c d,P a b c d/\Q a b c d/\R a b c d)(k:∀a b c d,P a b c d->Q a b c d->R a b c d->Z):Z:=h.elim λa h=>h.elim λb h=>h.elim λc h=>h.elim λd h=>k a b c d h.1 h.2.1 h.2.2
def qW{P Q R S:A->B->C->D->Prop}{Z:Prop}(h:∃a b c d,P a b c d/\Q a b c d/\R a b c d/\S a b c d)(k:∀a b c d,P a b c d->Q a b c d->R a b c d->S a b c d->Z):Z:=h.elim λa h=>h.elim λb h=>h.elim λc h=>h.elim λd h=>k a b c d h.1 h.2.1 h.2.2.1 h.2.2.2
def mY{P Q R S T:A->B->C->D->Prop}{Z:Prop}(h:∃a b c d,P a b c d/\Q a b c d/\R a b c d/\S a b c d/\T a b c d)(k:∀a b c d,P a b c d->Q a b c d->R a b c d->S a b c d->T a b c d->Z):Z:=h.elim λa h=>h.elim λb h=>h.elim λc h=>h.elim λd h=>k a b c d h.1 h.2.1 h.2.2.1 h.2.2.2.1 h.2.2.2.2
def bD{P Q R:A->B->C->D->E->Prop}{Z:Prop}(h:∃a b c d e,P a b c d e/\Q a b c d e/\R a b c d e)(k:∀a b c d e,P a b c d e->Q a b c d e->R a b c d e->Z):Z:=h.elim λa h=>h.elim λb h=>h.elim λc h=>h.elim λd h=>h.elim λe h=>k a b c d e h.1 h.2.1 h.2.2
def uT{P Q R S T U:A->B->C->D->E->Prop}{Z:Prop}(h:∃a b c d e,P a b c d e/\Q a b c d e/\R a b c d e/\S a b c d e/\T a b c d e/\U a b c d e)(k:∀a b c d e,P a b c d e->Q a b c d e->R a b c d e->S a b c d e->T a b c d e->U a b c d e->Z):Z:=h.elim λa h=>h.elim λb h=>h.elim λc h=>h.elim λd h=>h.elim λe h=>k a b c d e h.1 h.2.1 h.2.2.1 h.2.2.2.1 h.2.2.2.2.1 h.2.2.2.2.2
def uU{P Q R S:A->B->C->D->E->F->Prop}{Z:Prop}(h:∃a b c d e f,P a b c d e f/\Q a b c d e f/\R a b c d e f/\S a b c d e f)(k:∀a b c d e f,P a b c d e f->Q a b c d e f->R a b c d e f->S a b c d e f->Z):Z:=h.elim λa h=>h.elim λb h=>h.elim λc h=>h.elim λd h=>h.elim λe h=>h.elim λf h=>k a b c d e f h.1 h.2.1 h.2.2.1 h.2.2.2
def GR{P Q:A->B->C->D->E->F->G->Prop}{Z:Prop}(h:∃a b c d e f g,P a b c d e f g/\Q a b c d e f g)(k:∀a b c d e f g,P a b c d e f g->Q a b c d e f g->Z):Z:=h.elim λa h=>h.elim λb h=>h.elim λc h=>h.elim λd h=>h.elim λe h=>h.elim λf h=>h.elim λg h=>k a b c d e f g h.1 h.2
def Jk{q z D J U Y:Prop}{Z:Prop}(h:(((((q/\z)/\D)/\J)/\U)/\Y))(k:q->z->D->J->U->Y->Z):Z:=
 let ⟨⟨⟨⟨⟨p0,p1⟩,p2⟩,p3⟩,p4⟩,p5⟩:=h
 k p0 p1 p2 p3 p4 p5
def Jl{q z D J U Y P6 P7 P8:Prop}{Z:Prop}(h:((((((((q/\z)/\D)/\J)/\U)/\Y)/\P6)/\P7)/\P8))(k:q->z->D->J->U->Y->P6->P7->P8->Z):Z:=
 let ⟨⟨⟨⟨⟨⟨⟨⟨p0,p1⟩,p2⟩,p3⟩,p4⟩,p5⟩,p6⟩,p7⟩,p8⟩:=h
 k p0 p1 p2 p3 p4 p5 p6 p7 p8
def bc{α:Type _}{P:Prop}{x:α}(h:none=some x):P:=by cases h
def dy{P:Prop}(h:false=true):P:=by cases h
def sW{P:Prop}(h:true=false):P:=by cases h
def v5{α:Type _}{P:Prop}{x:α}{l:List α}(h:[]=x::l):P:=by cases h
namespace L2
open PySem PySem.Spec PyProof.Rows List Option
noncomputable abbrev Key:=Sum Int Str
noncomputable def lW:Key->Value->Bool
 | .inl k,v=>Value.isInt k v
 | .inr x,v=>Value.isStrOf x v
noncomputable def Jm(w:World):Key->Int
 | .inl k=>hashInt k
 | .inr x=>hashStr w x
def cc:∀{k}{v},lW k v=true->(∃i t,k=Sum.inl i/\v=Value.int i t)\/(∃x t,k=Sum.inr x/\v=Value.str x t)
 | .inl i,v,h=>by
  obtain⟨t,e⟩:=MA (k:=i) (v:=v) h;exact .inl ⟨i,t,rfl,e⟩
 | .inr x,v,h=>by
  obtain⟨t,e⟩:=Value.isStrOf_shape (x:=x) (v:=v) h;exact .inr ⟨x,t,rfl,e⟩
def v6(i)(t):lW (.inl i) (.int i t)=true:=by simp[lW,Value.isInt]
def v7(x)(t):lW (.inr x) (.str x t)=true:=by simp[lW,Value.isStrOf]
def DG(a b):decide ((Sum.inl a:Key)=Sum.inl b)=(a==b):=by
 by_cases e:a=b
 .subst e;simp
 .simp_all
def DH(a b):decide ((Sum.inr a:Key)=Sum.inr b)=decide (a=b):=by simp
def DJ(a)(b):decide ((Sum.inl a:Key)=Sum.inr b)=false:=rfl
def DM(a)(b):decide ((Sum.inr a:Key)=Sum.inl b)=false:=rfl
noncomputable def cm(prog)(w):PySem.KeyKind prog w Key where
 is:=lW
 hash:=Jm w
 inj:=λv a b ha D=>by
  rcases cc ha with⟨i,t,rfl,rfl⟩|⟨x,t,rfl,rfl⟩
  .rcases cc D with⟨j,u,rfl,e⟩|⟨y,u,rfl,e⟩
   .injection e with q _;rw[q]
   .exact nomatch e
  .rcases cc D with⟨j,u,rfl,e⟩|⟨y,u,rfl,e⟩
   .exact nomatch e
   .injection e with q _;rw[q]
 byValue:=λk v h=>by
  rcases cc h with⟨i,t,rfl,rfl⟩|⟨x,t,rfl,rfl⟩<;>rfl
 pyHash:=λz h=>by
  rcases cc z with⟨i,t,rfl,rfl⟩|⟨x,t,rfl,rfl⟩
  .exact wpAny_pyHash_int h
  .exact wpAny_pyHash_str h
 eqBool:=λJ z h=>by
  rcases cc J with⟨i,t,rfl,rfl⟩|⟨x,t,rfl,rfl⟩
  .rcases cc z with⟨j,u,rfl,rfl⟩|⟨y,u,rfl,rfl⟩
   .rw[DG]at h;exact wpAny_eqBool_int h
   .rw[DJ]at h;exact SeqAt.EqAt.int_str i t y u _ _ _ _ h
  .rcases cc z with⟨j,u,rfl,rfl⟩|⟨y,u,rfl,rfl⟩
   .rw[DM]at h;exact SeqAt.EqAt.str_int x t j u _ _ _ _ h
   .rw[DH]at h;exact wpAny_eqBool_str h
 «strs»:=λk x t v h=>by
  rcases cc h with⟨i,u,rfl,e⟩|⟨y,u,rfl,e⟩
  .exact nomatch e
  .injection e with q _
   subst q;cases v<;>rfl
def sX(prog)(w)(k)(v):(cm prog w).is k v=lW k v:=rfl
def qX(prog)(w)(i)(t):(cm prog w).is (.inl i) (.int i t)=true:=v6 i t
def qY(prog)(w)(x)(t):(cm prog w).is (.inr x) (.str x t)=true:=v7 x t
inductive V where
 | non|bl (b:Bool)|int (i:Int)|str (x:Str)|byt (b:Array UInt8)|flt (b:UInt64)|ref (a:Addr)|ty (n:String)
 deriving DecidableEq
def aI:V->Value->Prop
 | .non,u=>u=Value.none
 | .bl b,u=>u=Value.bool b
 | .int i,u=>∃t,u=Value.int i t
 | .str x,u=>∃t,u=Value.str x t
 | .byt b,u=>∃t,u=Value.bytes b t
 | .flt b,u=>∃t,u=Value.float b t
 | .ref a,u=>u=Value.ref a
 | .ty n,u=>u=Value.type n
abbrev aJ:List V->List Value->Prop:=Paired aI
theorem aJ.length(r:aJ xs us):xs.length=us.length:=Paired.length r
theorem aJ.get:∀{xs}{us}{i:Nat}{x},aJ xs us->xs[i]?=some x->∃u,us[i]?=some u/\aI x u
 | _,_,_,_,.nil,e=>by injection e
 | _,_,0,_,.cons r _,e=>by simp at e;subst e;exact⟨_,rfl,r⟩
 | _,_,i+1,x,.cons _ t,e=>by
  obtain⟨u,h1,h2⟩:=aJ.get (i:=i) (x:=x) t e;exact⟨u,by simpa using h1,h2⟩
theorem aJ.set(r:aI x u):∀{xs}{us} i,aJ xs us->aJ (xs.set i x) (us.set i u)
 | _,_,_,.nil=>.nil
 | _,_,0,.cons _ t=>.cons r t
 | _,_,i+1,.cons q t=>.cons q (aJ.set r i t)
theorem aJ.append:∀{xs ys}{us q},aJ xs us->aJ ys q->aJ (xs++ys) (us++q)
 | _,_,_,_,.nil,s=>s
 | _,_,_,_,.cons r t,s=>.cons r (aJ.append t s)
theorem aJ.take:∀{xs}{us} n,aJ xs us->aJ (xs.take n) (us.take n)
 | _,_,0,_=>.nil
 | _,_,_+1,.nil=>.nil
 | _,_,n+1,.cons r t=>.cons r (aJ.take n t)
theorem aJ.drop:∀{xs}{us} n,aJ xs us->aJ (xs.drop n) (us.drop n)
 | _,_,0,r=>r
 | _,_,_+1,.nil=>.nil
 | _,_,n+1,.cons _ t=>aJ.drop n t
def iq:Option V->Option Value->Prop
 |some v,some u=>aI v u
 |none,none=>True
 | _,_=>False
def KV :List (g×V)->List (g×Value)->Prop:=Paired λp q=>p.1=q.1/\aI p.2 q.2
noncomputable def kV:Key->V
 | .inl i=>.int i
 | .inr x=>.str x
inductive HO where
 | lst (xs:List V)
 | tup (xs:List V)
 | dK (kvs:List (Key×V))|dT (kvs:List (List Key×V))
 | set (S:Int->Bool) (n:Nat)
 | ins (C dx:Addr) (fs:List (Str×V))
 | own (x:Addr)
 | xd (fs:List (Str×V))
 | met (f x:Addr)
 | rng (lo hi:Int)
 | frz (o:Obj) (u:HO)
 | tbl (ps:Array Value)
 | ext (φ:Heap->Prop)
noncomputable abbrev Hp:=Addr->Option HO
noncomputable def upd(H:Hp)(a:Addr)(o:HO):Hp:=λb=>if b=a then some o else H b
def aA :upd H a o a=some o:=by unfold upd;rw[if_pos rfl]
def az(h:b≠a):upd H a o b=H b:=by unfold upd;rw[if_neg h]
def GS{H:Hp}{a b:Addr}{o u:HO}(h:H a=some o)(h':H b=some u)(d:o≠u):a≠b:=by
 intro e;subst e;rw[h]at h';exact d (vr h')
def bp{H:Hp}{a b:Addr}{o:HO}(h:H a=some o)(h':H b=none):a≠b:=by
 intro e;subst e;rw[h]at h';cases h'
section
variable(P:Program)(w:World)
def bH(H:Hp)(h:Heap)(a:Addr):HO->Prop
 | .lst xs=>xs.length<=sizeLine/\∃its n,aJ xs its/\h.get? a=some { cls:=.type "list",data:=.seq its.toArray n }
 | .tup xs=>xs.length<=sizeLine/\∃its,aJ xs its/\IsTup h a its.toArray
 | .dK kvs=>kvs.length<=sizeLine/\(a==sysModules)=false/\∃vs,KV kvs vs/\h.DictOf (cm P w) a vs
 | .dT kvs=>kvs.length<=sizeLine/\(a==sysModules)=false/\∃xs,
   Paired (λp q=>p.1=q.1/\H q.2.1=some (.tup (p.1.map kV))/\aI p.2 q.2.2) kvs xs /\
   ∃o es ep,h.get? a=some o/\o.ExactDict/\o.data=.dict es ep/\es.toList=xs.map (entryOfKey (tupleKind (cm P w)))/\(xs.map (·.1)).Nodup
 | .set S n=>h.SetOf (intKind P w) a S n
 | .ins C dx fs=>H dx=some (.own a)/\fs.length<=1000/\dx≠a/\h.get? a=some (PySem.W.instObj C dx) /\
   ∃mA,h.Ns1 dx mA/\(∀f,iq (fs.lookup f) (mA f))/\PySem.Within mA (fs.map (·.1))
 | .own _=>∃o,h.get? a=some o
 | .xd fs=>∃mA,h.Ns1 a mA/\∀f,iq (fs.lookup f) (mA f)
 | .rng lo hi=>∃t u v,h.get? a=some { cls:=.type "range",data:=.fields #[.int lo t,.int hi u,.int 1 v] }
 | .frz o u=>h.get? a=some o/\bH H h a u
 | .tbl ps=>h.get? a=some { cls:=.none,data:=.fields ps }
 | .met f x=>h.get? a=some (PySem.W.methodObj (.ref f) (.ref x))
 | .ext z=>z h/\(∃o,h.get? a=some o)/\∀h1 h2,z h1->(∀o,h1.get? a=some o->h2.get? a=some o)->z h2
def HOk(H:Hp)(h:Heap):Prop:=∀a o,H a=some o->bH P w H h a o
end
section
variable{P:Program}{w:World}{H H':Hp}{h h':Heap}{a:Addr}{o:HO}
theorem bH.lt(x:bH P w H h a o):a<h.objs.size:=by
 cases o with
 |own y=>obtain⟨_,e⟩:=x;exact uw e
 |xd fs=>obtain⟨_,⟨_,_,_,e,_⟩,_⟩:=x;exact uw e
 |ext q=>obtain⟨_,⟨_,e⟩,_⟩:=x;exact uw e
 |lst xs=>obtain⟨_,_,_,_,e⟩:=x;exact uw e
 |tup xs=>obtain⟨_,_,_,p⟩:=x;exact p.lt
 |set S n=>obtain⟨o,_,_,_,e,_⟩:=x;exact uw e
 |frz ob u=>obtain⟨e,_⟩:=x;exact uw e
 |rng lo hi=>obtain⟨_,_,_,e⟩:=x;exact uw e
 |ins C dx fs=>obtain⟨_,_,_,e,_⟩:=x;exact uw e
 |dK kvs|dT kvs=>obtain⟨_,_,_,_,o,_,_,e,_⟩:=x;exact uw e
 | _=>exact uw (show h.get? a=some _ from x)
theorem Paired.mapP :∀{q}{z},Paired F q z->(∀a b,F a b->G a b)->Paired G q z
 | _,_,.nil,_=>.nil
 | _,_,.cons r t,f=>.cons (f _ _ r) (Paired.mapP t f)
def bH.stay(x:bH P w H h a o)(k:∀b u,(b=a\/H b=some (.own a))->h.get? b=some u->h'.get? b=some u)
  (ho:∀b,H b=some (.own a)->H' b=some (.own a)) (ht:∀b xs,H b=some (.tup xs)->H' b=some (.tup xs)):bH P w H' h' a o:=by
 induction o with
 |lst xs=>obtain⟨z,its,n,r,e⟩:=x;exact⟨z,its,n,r,k _ _ (.inl rfl) e⟩
 |tup xs=>obtain⟨z,its,r,ob,e,c⟩:=x;exact⟨z,its,r,ob,k _ _ (.inl rfl) e,c⟩
 |dK kvs=>obtain⟨z,y,vs,r,ob,es,ep,e,c⟩:=x;exact⟨z,y,vs,r,ob,es,ep,k _ _ (.inl rfl) e,c⟩
 |dT kvs =>
  obtain⟨z,y,xs,r,ob,es,ep,e,c⟩:=x;exact⟨z,y,xs,Paired.mapP r λp q z=>⟨z.1,ht _ _ z.2.1,z.2.2⟩,ob,es,ep,k _ _ (.inl rfl) e,c⟩
 |set S n=>obtain⟨ob,es,ep,t,e,c⟩:=x;exact⟨ob,es,ep,t,k _ _ (.inl rfl) e,c⟩
 |ins C dx fs =>
  obtain⟨d,z,ne,e,mA,⟨D,es,ep,J,c⟩,r⟩:=x;exact⟨ho _ d,z,ne,k _ _ (.inl rfl) e,mA,⟨D,es,ep,k _ _ (.inr d) J,c⟩,r⟩
 |own y=>obtain⟨ob,e⟩:=x;exact⟨ob,k _ _ (.inl rfl) e⟩
 |xd fs=>obtain⟨mA,⟨D,es,ep,e,c⟩,r⟩:=x;exact⟨mA,⟨D,es,ep,k _ _ (.inl rfl) e,c⟩,r⟩
 |rng lo hi=>obtain⟨t,u,v,e⟩:=x;exact⟨t,u,v,k _ _ (.inl rfl) e⟩
 |frz ob u ih=>obtain⟨e,q⟩:=x;exact⟨k _ _ (.inl rfl) e,ih q⟩
 |tbl ps =>
  have e:=x;exact k a _ (.inl rfl) e
 |met f y =>
  have e:=x;exact k a _ (.inl rfl) e
 |ext U=>obtain⟨p,⟨o,e⟩,st⟩:=x;exact⟨st _ _ p λo q=>k _ _ (.inl rfl) q,⟨o,k _ _ (.inl rfl) e⟩,st⟩
theorem HOk.lt(x:HOk P w H h)(e:H a=some o):a<h.objs.size:=(x a o e).lt
def HOk.fresh(x:HOk P w H h)(e:h.objs.size<=a):H a=none:=by
 cases q:H a<;>first|rfl|exact absurd (wh (x.lt q) e) (Kt _)
theorem HOk.kept(x:HOk P w H h)(k:∀b u,h.get? b=some u->h'.get? b=some u):HOk P w H h':=λa o e =>
 (x a o e).stay (λb u _ q=>k b u q) (λ_ q=>q) λ_ _ q=>q
theorem HOk.laid(x:HOk P w H h)(k:∀b u,h.get? b=some u->h'.get? b=some u)(D:h.objs.size<=a)(new:bH P w (upd H a o) h' a o):HOk P w (upd H a o) h':=λb u e=>by
 have hn:=x.fresh D;by_cases z:b=a
 .subst z;rw[aA]at e;cases e;exact new
 .rw[az z]at e;exact(x b u e).stay (λc v _ q=>k c v q) (λc q=>by rw[az (bp q hn)];exact q) λc xs q=>by rw[az (bp q hn)];exact q
end
def Rd(H:Hp)(a:Addr)(u:HO):Prop:=H a=some u\/∃o,H a=some (.frz o u)
theorem Rd.ok(r:Rd H a u)(x:HOk P w H h):bH P w H h a u:=by
 rcases r with r|⟨o,r⟩
 .exact x a u r
 .obtain⟨_,q⟩:=x a _ r;exact q
def Mut:Option HO->Prop
 |some (.lst _)=>True
 |some (.dK _)=>True
 |some (.dT _)=>True
 |some (.set _ _)=>True
 |some (.ins _ _ _)=>True
 |some (.ext _)=>True
 | _=>False
section
variable{P:Program}{w:World}{H:Hp}{h h':Heap}{x e:Addr}{o':HO}
def HOk.write(ok:HOk P w H h)(Y:Mut (H x))(he:e=x\/H e=some (.own x))(k:∀b u,b≠e->h.get? b=some u->h'.get? b=some u)(Z:∃u,h'.get? e=some u)
  (new:bH P w (upd H x o') h' x o'):HOk P w (upd H x o') h':=λb u q=>by
 have J:∀c y,H c=some (.own y)->c≠x:=λc y r z=>by subst z;rw[r]at Y;exact Y
 have U:∀c xs,H c=some (.tup xs)->c≠x:=λc xs r z=>by subst z;rw[r]at Y;exact Y
 by_cases hb:b=x
 .subst hb;rw[aA]at q;cases q;exact new
 .rw[az hb]at q;by_cases D:b=e
  .have q':H b=some (.own x):=by
    rcases he with z|z
    .exact absurd (D.trans z) hb
    .rw[D];exact z
   rw[q]at q';cases q'
   obtain⟨v,hv⟩:=Z;exact⟨v,by rw[D];exact hv⟩
  .refine(ok b u q).stay (λc v hc r=>k c v ?_ r) (λc r=>by rw[az (J c b r)];exact r) λc xs r=>by rw[az (U c xs r)];exact r
   rcases hc with rfl|hc
   .exact D
   .rintro rfl
    simp_all
end
structure Un(fs ex:List Addr)(H H':Hp)(h h':Heap):Prop where
 keep:∀b o,h.get? b=some o->H b=none->b∉fs->b∉ex->h'.get? b=some o
 slot:∀b o,h.get? b=some o->H b=none->b∈fs->b∉ex->∃sl,h'.get? b=some { o with slots:=sl }
 free:∀b o,h.get? b=some o->H b=none->b∉ex->H' b=none
 there:∀b o,h.get? b=some o->b∉ex->∃o',h'.get? b=some o'
 tups:∀b xs,H b=some (.tup xs)->H' b=some (.tup xs)
 frzs:∀b o u,H b=some (.frz o u)->H' b=some (.frz o u)
 tbls:∀b ps,H b=some (.tbl ps)->∃more,H' b=some (.tbl (ps++more))
section
variable{fs fs' ex ex':List Addr}{H H1 H2:Hp}{h h1 h2 h':Heap}{a x e:Addr}{o:HO}
theorem Un.any(u:Un fs ex H H1 h h1)(q:h.get? b=some ob)(n:H b=none)(hx:b∉ex):∃D,h1.get? b=some { ob with slots:=D }:=by
 by_cases z:b∈fs
 .exact u.slot b ob q n z hx
 .exact⟨ob.slots,u.keep b ob q n z hx⟩
def Un.kept(k:∀b u,h.get? b=some u->h'.get? b=some u):Un fs ex H H h h':=
 ⟨λb ob q _ _ _=>k b ob q,λb ob q _ _ _=>⟨ob.slots,k b ob q⟩,λ_ _ _ n _=>n,λb ob q _=>⟨ob,k b ob q⟩,λ_ _ q=>q,λ_ _ _ q=>q,λ_ ps q=>⟨#[],by rw[q];rfl⟩⟩
def Un.refl:Un fs ex H H h h:=Un.kept λ_ _ q=>q
def Un.laid(k:∀b u,h.get? b=some u->h'.get? b=some u)(z:h.objs.size<=a)(hn:H a=none):Un fs ex H (upd H a o) h h' where
 keep:=λb u q _ _ _=>k b u q
 slot:=λb u q _ _ _=>⟨u.slots,k b u q⟩
 free:=λb u q n _=>by rw[az (x1 (wh (uw q) z))];exact n
 there:=λb u q _=>⟨u,k b u q⟩
 tups:=λb xs q=>by rw[az (bp q hn)];exact q
 frzs:=λb u xs q=>by rw[az (bp q hn)];exact q
 tbls:=λb ps q=>⟨#[],by rw[az (bp q hn),q];rfl⟩
def Un.write(J:Mut (H x))(Z:e=x\/H e=some (.own x))(k:∀b u,b≠e->h.get? b=some u->h'.get? b=some u)(U:∃u,h'.get? e=some u):Un fs ex H (upd H x o) h h':=by
 have hx:∀b,H b=none->b≠x:=λb n z=>by subst z;rw[n]at J;exact J
 have Y:∀b,H b=none->b≠e:=λb n z=>by
  simp_all
 have hm:∀b u,H b=some u->¬ Mut (some u)->b≠x:=λb u q nm z=>by subst z;rw[q]at J;exact nm J
 refine⟨λb u q n _ _=>k b u (Y b n) q,λb u q n _ _=>⟨u.slots,k b u (Y b n) q⟩,λb u q n _=>by rw[az (hx b n)];exact n,λb u q _=>?_,
  λb xs q=>by rw[az (hm b _ q λz=>z)];exact q,λb u xs q=>by rw[az (hm b _ q λz=>z)];exact q,λb ps q=>⟨#[],by rw[az (hm b _ q λz=>z),q];rfl⟩⟩
 by_cases D:b=e
 .subst D;exact U
 .exact⟨u,k b u D q⟩
end
noncomputable def trk(h:Heap)(H:Hp):List Addr:=(range h.objs.size).filter λa=>(H a).isSome
noncomputable def pV(h:Heap)(H:Hp):Heap:=PySem.W.hideAll h (trk h H)
def v9(h)(H):(pV h H).objs.size=h.objs.size:=PySem.W.hideAll_size _ _
def xC{H:Hp}{b:Addr}{o:Obj}(e:h.get? b=some o)(n:H b=none):(pV h H).get? b=some o:=
 PySem.W.hideAll_get _ e λhm=>by
  have q:=(J9.mp hm).2;rw[n]at q;simp at q
def A0(e:(pV h H).get? b=some o):h.get? b=some o/\H b=none:=by
 have D:=PySem.W.of_hideAll _ e;refine⟨D,?_⟩;cases q:H b with
 |none=>rfl
 |some x =>
  have hm:b∈trk h H:=J9.mpr ⟨mem_range.mpr (uw D),by simp[q]⟩;have z:(pV h H).get? b=none:=PySem.W.hideAll_none _ hm;rw[z]at e;exact bc e
noncomputable def A1(g h:Heap)(L:Addr):List (Addr×Obj):=(range h.objs.size).filterMap λa=>if a=L\/(g.get? a).isSome=true then none else(h.get? a).map λo=>(a,o)
noncomputable def eF(g h:Heap)(L d:Addr):List (Addr×Obj):=(A1 g h L).filter λp=>decide (p.1≠d)
structure Mod(K:M5)(mg:Str->Option Value)(base:Heap):Prop where
 kin:K.In base
 glob:base.Ns mainGlobals mg
 blt:∃mb,base.Ns builtinsNs mb/\∀x:Str,x ≠ "__name__"->mb x=bootBuiltins x
 nolimit:base.NoLimit
structure Cx where
 prog:Program
 w:World
 K:M5
 mg:Str->Option Value
 base:Heap
 A:Around
 N:List Str
 s₀:Shared
 H₀:Hp
 env:Env
 outer:List Env
 stack:List Env
 ex:List Addr
 fn:Str->Bool
 calm:Bool
 pn:List (Addr×Obj)
 xe:Value->Shared->Prop
noncomputable def frs(l:List Env):List Addr:=l.filterMap (·.frame)
noncomputable abbrev Cx.fs(X:Cx):List Addr:=frs X.outer
def Vis(sc:Scope)(x:Str):Prop:=sc.names.lookup x=some .local\/sc.names.lookup x=some .cell\/sc.names.lookup x=some .free
def Loc(sc:Scope)(x:Str):Prop:=sc.names.lookup x=some .local\/sc.names.lookup x=some .cell
def Jn(env:Env)(h:Heap)(m:Str->Option Value)(x:Str)(u:Value):Prop:=
 (env.kindOf x=some .local/\m x=some u)\/((env.kindOf x=some .cell\/env.kindOf x=some .free)/\∃c,env.cells.lookup x=some c/\h.IsCell c (some u))
structure Cx.Ok(X:Cx):Prop where
 mod:Mod X.K X.mg X.base
 kind:X.env.scope.kind=.function
 glob:X.env.globals=mainGlobals
 blt:X.env.builtins=builtinsNs
 above:X.s₀.heap.objs.size<=X.env.locals
 inj:∀x y c,X.env.cells.lookup x=some c->X.env.cells.lookup y=some c->x=y
 has:∀x,(X.env.kindOf x=some .cell\/X.env.kindOf x=some .free)->∃c,X.env.cells.lookup x=some c
 cab:∀x c,X.fn x=true->X.env.cells.lookup x=some c->X.s₀.heap.objs.size<=c
 hd:X.calm=true->X.A.handled=none
 frames:X.A.frames=some X.stack
 stk:X.stack=X.outer\/(X.stack=X.env::X.outer/\X.env.frame=some X.env.locals)
 exf:∀b∈X.ex,b≠X.env.locals/\∀x c,X.env.cells.lookup x=some c->c≠b
 bs:∀b o,X.base.get? b=some o->X.s₀.heap.get? b=some o/\X.H₀ b=none
 bsz:X.base.objs.size<=X.s₀.heap.objs.size
 noex:∀b o,X.base.get? b=some o->b∉X.ex
 exfs:∀b∈X.ex,b∉X.fs
 funs:X.s₀.heap.FunFrames X.base X.outer
 frf:∀b∈X.fs,X.H₀ b=none
structure Inv(X:Cx)(pins:List (Addr×Obj))(σ:List (Option V))(H:Hp)(s:Shared):Prop where
 ok:X.Ok
 os:s.os=X.s₀.os
 bare:AllBare s.gens
 base:Un X.fs X.ex X.H₀ H X.s₀.heap s.heap
 loc:∃m,s.heap.Ns X.env.locals m/\∀(i:Nat) (x:Str) (v:V),X.N[i]?=some x->σ[i]?=some (some v)->Vis X.env.scope x->∃u,aI v u/\Jn X.env s.heap m x u
 cell:∀x c,X.env.cells.lookup x=some c->∃v,s.heap.IsCell c v
 free:H X.env.locals=none
 freeC:∀x c,X.env.cells.lookup x=some c->H c=none
 pin:∀p∈X.pn++pins,s.heap.get? p.1=some p.2/\H p.1=none/\p.1≠X.env.locals/\p.1∉X.fs/\∀v,p.2.data≠.cell v
 hok:HOk X.prog X.w H s.heap
 len:σ.length=X.N.length
section
variable{X:Cx}{pins:List (Addr×Obj)}{σ:List (Option V)}{H H':Hp}{s:Shared}{h':Heap}
theorem Cx.Ok.nofr(ok:X.Ok)(e:X.base.get? b=some o):b∉X.fs:=λq=>by
 have:=(ok.funs.mem q).1;rw[e]at this;cases this
theorem Inv.bs(I:Inv X pins σ H s):∀b o,X.base.get? b=some o->s.heap.get? b=some o/\H b=none:=λb o e =>
 ⟨I.base.keep b o (I.ok.bs b o e).1 (I.ok.bs b o e).2 (I.ok.nofr e) (I.ok.noex b o e),I.base.free b o (I.ok.bs b o e).1 (I.ok.bs b o e).2 (I.ok.noex b o e)⟩
theorem Inv.bk(I:Inv X pins σ H s):∀b o,X.base.get? b=some o->s.heap.get? b=some o:=λb o e=>(I.bs b o e).1
theorem Inv.mod(I:Inv X pins σ H s):Mod X.K X.mg X.base:=I.ok.mod
theorem Inv.kIn(I:Inv X pins σ H s):X.K.In s.heap:=I.ok.mod.kin.keeps I.bk
theorem Inv.lt(I:Inv X pins σ H s):X.env.locals<s.heap.objs.size:=let ⟨_,hn,_⟩:=I.loc;hn.lt
theorem Inv.sz(I:Inv X pins σ H s):X.s₀.heap.objs.size<=s.heap.objs.size:=xb I.ok.above (KC I.lt)
theorem Inv.nofs(I:Inv X pins σ H s)(h:s.heap.objs.size<=a):a∉X.fs:=λq=>by
 obtain⟨_,o,ho,_⟩:=I.ok.funs.mem q;exact absurd (wh (uw ho) (xb I.sz h)) (Kt _)
theorem Inv.cne(I:Inv X pins σ H s):∀x c,X.env.cells.lookup x=some c->c≠X.env.locals:=λx c e z=>by
 refine cM (I.cell x c e) λv o ho hd=>?_
 obtain⟨m,⟨o',es,ep,q,D,_⟩,_⟩:=I.loc
 simp_all
theorem Inv.funs(I:Inv X pins σ H s):s.heap.FunFrames X.base X.outer:=by
 have all:∀l,(∀b∈frs l,b∈X.fs)->X.s₀.heap.FunFrames X.base l->s.heap.FunFrames X.base l:=by
  intro l
  induction l with
  |nil=>intro _ _;trivial
  |cons env r ih =>
   intro J U;obtain⟨Y,⟨L,o,q,hn,ho,hd⟩,Z⟩:=U;have hL:=J L (by unfold frs;rw[filterMap_cons,q];exact Kz);obtain⟨sl,e⟩:=I.base.slot L o ho (I.ok.frf L hL) hL λz=>I.ok.exfs L z hL
   exact⟨Y,⟨L,_,q,hn,e,hd⟩,ih (λb D=>J b (by unfold frs;rw[filterMap_cons,q];exact Kk _ D)) Z⟩
 exact all X.outer (λ_ D=>D) I.ok.funs
theorem Inv.stack(I:Inv X pins σ H s):s.heap.FunFrames X.base X.stack:=by
 rcases I.ok.stk with e|⟨e,q⟩
 .rw[e];exact I.funs
 .rw[e];refine ae I.loc λm hn _=>?_
  refine .cons (by rw[I.ok.kind];decide) q hn ?_ I.funs;exact Heap.get?_none_of_le (xb I.ok.bsz I.ok.above)
def Inv.stkSub(I:Inv X pins σ H s):∀b∈frs X.stack,b∈X.env.locals::X.fs:=λb q=>by
 rcases I.ok.stk with e|⟨e,z⟩
 .rw[e]at q;exact Kk _ q
 .rw[e]at q;unfold frs at q;rw[filterMap_cons,z]at q;exact q
def Inv.stkFree(I:Inv X pins σ H s):∀b∈frs X.stack,H b=none:=λb q=>by
 rcases pe.mp (I.stkSub b q)with e|q
 .rw[e];exact I.free
 .obtain⟨_,o,ho,_⟩:=I.ok.funs.mem q;exact I.base.free b o ho (I.ok.frf b q) λz=>I.ok.exfs b z q
theorem Inv.step{ch:List Addr}(I:Inv X pins σ H s)
  (D:∀b∈ch,(b∈X.ex\/X.s₀.heap.objs.size<=b)/\b≠X.env.locals/\(∀x c,X.env.cells.lookup x=some c->c≠b)/\∀p∈X.pn++pins,p.1≠b)
  (keep:∀b o,b≠X.env.locals->b∉X.fs->b∉ch->s.heap.get? b=some o->H b=none->h'.get? b=some o)
  (slot:∀b o,b≠X.env.locals->b∈X.fs->b∉ch->s.heap.get? b=some o->H b=none->∃sl,h'.get? b=some { o with slots:=sl }) (free:∀b o,b∉ch->s.heap.get? b=some o->H b=none->H' b=none)
  (there:∀b o,b∉ch->s.heap.get? b=some o->∃o',h'.get? b=some o')
  (tups:∀b xs,H b=some (.tup xs)->H' b=some (.tup xs)) (frzs:∀b o u,H b=some (.frz o u)->H' b=some (.frz o u)) (tbls:∀b ps,H b=some (.tbl ps)->∃ar,H' b=some (.tbl (ps++ar)))
  (ns:∀m,s.heap.Ns X.env.locals m->h'.Ns X.env.locals m) (hok:HOk X.prog X.w H' h') (hg:AllBare g') :
  Inv X pins σ H' { s with heap:=h',gens:=g',drawn:=d',toks:=t' }:=by
 have aL:∀b o,X.s₀.heap.get? b=some o->b≠X.env.locals:=λb o e=>x1 (wh (uw e) I.ok.above)
 have Y:∀b o,X.s₀.heap.get? b=some o->b∉X.ex->b∉ch:=λb o e hx hb=>by
  rcases(D b hb).1 with z|z
  .exact hx z
  .exact absurd (wh (uw e) z) (Kt _)
 have J:∀x c,X.env.cells.lookup x=some c->∀v,s.heap.IsCell c v->h'.IsCell c v:=λx c e v hq=>ae hq λo ho hd=>by
  have U:c∉ch:=λz=>(D c z).2.2.1 x c e rfl
  by_cases hc:c∈X.fs
  .obtain⟨sl,q⟩:=slot c o (I.cne x c e) hc U ho (I.freeC x c e);exact⟨_,q,hd⟩
  .exact⟨o,keep c o (I.cne x c e) hc U ho (I.freeC x c e),hd⟩
 refine⟨I.ok,I.os,hg,⟨λb o e n hb hx=>?_,λb o e n hb hx=>?_,λb o e n hx=>?_,λb o e hx=>?_,λb xs e=>tups b xs (I.base.tups b xs e),λb o xs e=>frzs b o xs (I.base.frzs b o xs e),λb ps e=>?_⟩,?_,λx c e=>?_,?_,λx c e=>?_,λp hp=>?_,hok,I.len⟩
 .exact keep b o (aL b o e) hb (Y b o e hx) (I.base.keep b o e n hb hx) (I.base.free b o e n hx)
 .obtain⟨sl,Z⟩:=I.base.slot b o e n hb hx;obtain⟨a2,e2⟩:=slot b _ (aL b o e) hb (Y b o e hx) Z (I.base.free b o e n hx);exact⟨a2,e2⟩
 .obtain⟨o',Z⟩:=I.base.there b o e hx;exact free b o' (Y b o e hx) Z (I.base.free b o e n hx)
 .obtain⟨o',Z⟩:=I.base.there b o e hx;exact there b o' (Y b o e hx) Z
 .obtain⟨m1,Z⟩:=I.base.tbls b ps e;obtain⟨m2,e2⟩:=tbls b _ Z;exact⟨m1++m2,by rw[e2,Array.append_assoc]⟩
 .refine ae I.loc λm hn hl=>?_
  refine⟨m,ns m hn,λi x v Z e2 e3=>?_⟩;refine ae (hl i x v Z e2 e3) λu r l=>?_
  refine⟨u,r,?_⟩;rcases l with l|⟨k,c,e,z⟩
  .exact .inl l
  .exact .inr ⟨k,c,e,J x c e _ z⟩
 .obtain⟨v,z⟩:=I.cell x c e;exact⟨v,J x c e v z⟩
 .obtain⟨m,⟨o,_,_,ho,_⟩,_⟩:=I.loc;exact free _ o (λz=>(D _ z).2.1 rfl) ho I.free
 .refine cM (I.cell x c e) λv o ho hd=>?_
  exact free c o (λz=>(D c z).2.2.1 x c e rfl) ho (I.freeC x c e)
 .refine xA (I.pin p hp) λe n ne nf d=>?_
  have U:p.1∉ch:=λz=>(D p.1 z).2.2.2 p hp rfl
  exact⟨keep p.1 p.2 ne nf U e n,free p.1 p.2 U e n,ne,nf,d⟩
theorem Inv.un(I:Inv X pins σ H s)(u:Un X.fs [] H H' s.heap h')(hok:HOk X.prog X.w H' h'):Inv X pins σ H' { s with heap:=h',toks:=t' }:=by
 obtain⟨m,⟨o,es,ep,ho,r⟩,_⟩:=id I.loc;obtain⟨Z,hL⟩:=u.any ho I.free (by simp);exact I.step (ch:=[]) (λ_ z=>nomatch z) (λb o _ D _ e n=>u.keep b o e n D (by simp)) (λb o _ D _ e n=>u.slot b o e n D (by simp)) (λb o _ e n=>u.free b o e n (by simp)) (λb o _ e=>u.there b o e (by simp)) u.tups u.frzs u.tbls (λm' hm=>by
  refine xB hm λo' J U q Y=>?_
  rw[ho]at q;cases q
  exact⟨_,J,U,hL,Y⟩) hok I.bare
theorem Inv.call(I:Inv X pins σ H s)(u:Un (frs X.stack) ch H H' s.heap h')(hok:HOk X.prog X.w H' h')(Y:AllBare g')
  (q:∀b∈ch,(b∈X.ex\/X.s₀.heap.objs.size<=b)/\b≠X.env.locals/\(∀x c,X.env.cells.lookup x=some c->c≠b)/\∀p∈X.pn++pins,p.1≠b) :
  Inv X pins σ H' { s with heap:=h',gens:=g',drawn:=d',toks:=t' }:=by
 obtain⟨m,⟨o,es,ep,ho,r⟩,_⟩:=id I.loc;obtain⟨sl,hL⟩:=u.any ho I.free λz=>(q _ z).2.1 rfl
 exact I.step q (λb o hL Z hc e n=>u.keep b o e n (λz=>(pe.mp (I.stkSub b z)).elim hL Z) hc) (λb o _ _ hc e n=>u.any e n hc) (λb o hc e n=>u.free b o e n hc) (λb o hc e=>u.there b o e hc) u.tups u.frzs u.tbls (λm' hm=>by
  refine xB hm λo' J U D r'=>?_
  rw[ho]at D;cases D
  exact⟨_,J,U,hL,r'⟩) hok Y
def Inv.turned(I:Inv X pins σ H s)(k:∀b o,b≠it->s.heap.get? b=some o->h'.get? b=some o)(hn:H it=none)(hL:it≠X.env.locals)
  (h1:it∈X.ex\/X.s₀.heap.objs.size<=it) (h2:∀x c,X.env.cells.lookup x=some c->c≠it) (h3:∀p∈X.pn++pins,p.1≠it):Inv X pins σ H { s with heap:=h',toks:=t' }:=by
 have D:∀b u,H b=some u->b≠it:=λb u e z=>by rw[z,hn]at e;exact bc e
 refine I.step (ch:=[it]) (λb J=>?_) (λb o _ _ hc e _=>k b o (λz=>hc (by simp[z])) e) (λb o _ _ hc e _=>⟨o.slots,k b o (λz=>hc (by simp[z])) e⟩) (λ_ _ _ _ n=>n)
  (λb o hc e=>⟨o,k b o (λz=>hc (by simp[z])) e⟩) (λ_ _ e=>e) (λ_ _ _ e=>e) (λb ps e=>⟨#[],by rw[e];rfl⟩) (λm hm=>?_) (λb u e=>?_) I.bare
 .have e:b=it:=by simpa using J
  subst e;exact⟨h1,hL,h2,h3⟩
 .refine xB hm λo es ep ho r=>?_
  exact⟨o,es,ep,k _ o (KD hL) ho,r⟩
 .refine(I.hok b u e).stay (λc v hc q=>k c v ?_ q) (λ_ q=>q) λ_ _ q=>q
  rcases hc with z|z
  .rw[z];exact D b u e
  .exact D c _ z
theorem Inv.tok(I:Inv X pins σ H s)(t):Inv X pins σ H { s with toks:=t }:=I.un (h':=s.heap) (t':=t) Un.refl I.hok
theorem Inv.kept(I:Inv X pins σ H s)(k:∀b u,s.heap.get? b=some u->h'.get? b=some u):Inv X pins σ H { s with heap:=h',toks:=t' }:=I.un (Un.kept k) (I.hok.kept k)
theorem Inv.laid(I:Inv X pins σ H s)(k:∀b u,s.heap.get? b=some u->h'.get? b=some u)(q:s.heap.objs.size<=a)(new:bH X.prog X.w (upd H a o) h' a o) :
  Inv X pins σ (upd H a o) { s with heap:=h',toks:=t' }:=I.un (Un.laid k q (I.hok.fresh q)) (I.hok.laid k q new)
theorem Inv.write(I:Inv X pins σ H s)(z:Mut (H x))(D:e=x\/H e=some (.own x))(k:∀b u,b≠e->s.heap.get? b=some u->h'.get? b=some u)(q:∃u,h'.get? e=some u)
  (new:bH X.prog X.w (upd H x o) h' x o):Inv X pins σ (upd H x o) { s with heap:=h',toks:=t' }:=I.un (Un.write z D k q) (I.hok.write z D k q new)
def Inv.pins_of{q:List (Addr×Obj)}(I:Inv X pins σ H s)(h:∀p∈q,s.heap.get? p.1=some p.2/\H p.1=none/\p.1≠X.env.locals/\p.1∉X.fs/\∀v,p.2.data≠.cell v):Inv X q σ H s:=
 ⟨I.ok,I.os,I.bare,I.base,I.loc,I.cell,I.free,I.freeC,λp D=>(K4.mp D).elim (λz=>I.pin p (Lv _ z)) (h p),I.hok,I.len⟩
def qZ{N:List Str}(q:N.Nodup){i j:Nat}(a:N[i]?=some x)(b:N[j]?=some x):i=j:=by
 obtain⟨h1,z⟩:=xa.mp a;obtain⟨h2,D⟩:=xa.mp b;exact(getElem_inj q).mp (z.trans D.symm)
def o3{i:Nat}{x:Str}{v:V}{u:Value}{Q:Unit->Shared->Prop}(I:Inv X pins σ H s)(hN:X.N.Nodup)(hi:X.N[i]?=some x)(hx:Loc X.env.scope x)(r:aI v u)
  (h:∀s',Inv X pins (σ.set i (some v)) H s'->(∃a,Heap.SameBut a s.heap s'.heap/\(a=X.env.locals\/X.env.cells.lookup x=some a))->Q () s') (hf:X.fn x=true\/X.env.scope.names.lookup x=some .local:=by first|exact .inl rfl|exact .inr rfl|assumption):wpAny M A (storeName X.env x u) Q E s:=by
 refine ae (id I.loc) λm hn hl=>?_
 have a2:(X.env.scope.kind==.class||(X.env.scope.kind==.module&&X.env.locals != X.env.globals))=false:=by rw[I.ok.kind];rfl
 have ao:i<σ.length:=by rw[I.len];exact(xa.mp hi).1
 have cne:=I.cne;have J:∀{a}{h'},(∃o,s.heap.get? a=some o/\H a=none)->Heap.SameBut a s.heap h'->HOk X.prog X.w H h':=λ{a h'} ha D b ob e=>by
  obtain⟨_,_,Y⟩:=ha;refine(I.hok b ob e).stay (λc w' hc q=>(D.2 c ?_).trans q) (λ_ q=>q) λ_ _ q=>q
  rintro rfl;rcases hc with rfl|hc
  .rw[Y]at e;exact bc e
  .rw[Y]at hc;exact bc hc
 rcases hx with hk|hk
 .refine wpAny_storeName_local hk hn (λh' bt D=>?_) a2;obtain⟨oL,_,_,bA,_⟩:=id hn;refine h _ ⟨I.ok,I.os,I.bare,⟨λb o e n hb hx=>?_,λb o e n hb hx=>?_,I.base.free,λb o e hx=>?_,I.base.tups,I.base.frzs,I.base.tbls⟩,⟨_,bt,λj y v' U Z e3=>?_⟩,λy c e=>?_,I.free,I.freeC,λp hp=>?_,J ⟨oL,bA,I.free⟩ D,by simpa using I.len⟩ ⟨_,D,.inl rfl⟩
  .exact(D.2 b (x1 (wh (uw e) I.ok.above))).trans (I.base.keep b o e n hb hx)
  .obtain⟨sl,U⟩:=I.base.slot b o e n hb hx;exact⟨sl,(D.2 b (x1 (wh (uw e) I.ok.above))).trans U⟩
  .obtain⟨o',U⟩:=I.base.there b o e hx;exact⟨o',(D.2 b (x1 (wh (uw e) I.ok.above))).trans U⟩
  .by_cases hj:j=i
   .subst hj;rw[hi]at U;cases U
    rw[Kq ao]at Z;cases Z;exact⟨u,r,.inl ⟨hk,by simp⟩⟩
   .rw[x3 (KD hj)]at Z;refine ae (hl j y v' U Z e3) λu' r' q=>?_
    refine⟨u',r',?_⟩;rcases q with⟨k,e⟩|⟨k,c,e,z⟩
    .refine .inl ⟨k,?_⟩;have:y≠x:=λe=>hj (qZ hN U (e▸hi))
     simp[this,e]
    .exact .inr ⟨k,c,e,z.sameBut D (cne y c e)⟩
  .obtain⟨w',z⟩:=I.cell y c e;exact⟨w',z.sameBut D (cne y c e)⟩
  .refine xA (I.pin p hp) λe n ne nf d=>?_
   exact⟨(D.2 p.1 ne).trans e,n,ne,nf,d⟩
 .have a1:X.fn x=true:=by
   rcases hf with z|z
   .exact z
   .rw[z]at hk;cases hk
  obtain⟨c,hc⟩:=I.ok.has x (.inl hk);obtain⟨w',z⟩:=I.cell x c hc;refine wpAny_storeName_cell I.ok.kind hk hc z (λh' a3 D=>?_);refine ae (id z) λoc a4 a5=>?_
  refine h { s with heap:=h' } ⟨I.ok,I.os,I.bare,⟨λb o e n hb hx=>?_,λb o e n hb hx=>?_,I.base.free,λb o e hx=>?_,I.base.tups,I.base.frzs,I.base.tbls⟩,⟨m,hn.sameBut D (KD (cne x c hc)),λj y v' U Z e3=>?_⟩,λy c' e=>?_,I.free,I.freeC,λp hp=>?_,J ⟨oc,a4,I.freeC x c hc⟩ D,by simpa using I.len⟩ ⟨c,D,.inr hc⟩
  .exact(D.2 b (x1 (wh (uw e) (I.ok.cab x c a1 hc)))).trans (I.base.keep b o e n hb hx)
  .obtain⟨sl,U⟩:=I.base.slot b o e n hb hx;exact⟨sl,(D.2 b (x1 (wh (uw e) (I.ok.cab x c a1 hc)))).trans U⟩
  .obtain⟨o',U⟩:=I.base.there b o e hx;exact⟨o',(D.2 b (x1 (wh (uw e) (I.ok.cab x c a1 hc)))).trans U⟩
  .by_cases hj:j=i
   .subst hj;rw[hi]at U;cases U
    rw[Kq ao]at Z;cases Z;exact⟨u,r,.inr ⟨.inl hk,c,hc,a3⟩⟩
   .rw[x3 (KD hj)]at Z;refine ae (hl j y v' U Z e3) λu' r' q=>?_
    refine⟨u',r',?_⟩;rcases q with q|⟨k,c',e,z'⟩
    .exact .inl q
    .refine .inr ⟨k,c',e,z'.sameBut D ?_⟩;rintro rfl;exact hj (qZ hN U (I.ok.inj _ _ _ e hc▸hi))
  .by_cases a6:c'=c
   .subst a6;exact⟨_,a3⟩
   .obtain⟨w2,z2⟩:=I.cell y c' e;exact⟨w2,z2.sameBut D a6⟩
  .refine xA (I.pin p hp) λe n ne nf d=>?_
   refine⟨(D.2 p.1 ?_).trans e,n,ne,nf,d⟩;intro q;rw[q,a4]at e;have q':=vr e;exact d w' (by rw[<- q'];exact a5)
def q_{i:Nat}{x:Str}{v:V}{u:Value}{Q:Unit->Shared->Prop}(I:Inv X pins σ H s)(q:X.N.Nodup)(hi:X.N[i]?=some x)(hx:Loc X.env.scope x)(r:aI v u)
  (h:∀s',Inv X pins (σ.set i (some v)) H s'->Q () s') (z:X.fn x=true\/X.env.scope.names.lookup x=some .local:=by first|exact .inl rfl|exact .inr rfl|assumption):wpAny M A (storeName X.env x u) Q E s:=
 o3 I q hi hx r (λs' D _=>h s' D) z
def Inv.call'(I:Inv X pins σ H s)(ho:s'.os=s.os)(u:Un (frs X.stack) ch H H' s.heap s'.heap)(hok:HOk X.prog X.w H' s'.heap)(z:AllBare s'.gens)
  (q:∀b∈ch,(b∈X.ex\/X.s₀.heap.objs.size<=b)/\b≠X.env.locals/\(∀x c,X.env.cells.lookup x=some c->c≠b)/\∀p∈X.pn++pins,p.1≠b):Inv X pins σ H' s':=by
 obtain⟨h',g',d',t',o'⟩:=s';have e:=ho;subst e;exact I.call u hok z q
end
noncomputable abbrev XK:=Value->Option Addr->Hp->Prop
noncomputable abbrev St:=List (Option V)
noncomputable abbrev VK:=V->Hp->Prop
noncomputable abbrev TE:=St->Hp->VK->Prop
noncomputable abbrev TT:=St->Hp->(Bool->Hp->Prop)->Prop
noncomputable abbrev TA:=St->Hp->(List V->Hp->Prop)->Prop
structure jq where
 nx:St->Hp->Prop
 rt:VK
 bk:St->Hp->Prop:=λ_ _=>False
 ct:St->Hp->Prop:=λ_ _=>False
noncomputable abbrev TS:=jq->St->Hp->Prop
def EP(X:Cx)(pins:List (Addr×Obj))(σ:St)(Q:VK)(u:Value)(s':Shared):Prop:=∃v H',Inv X pins σ H' s'/\aI v u/\Q v H'
def TP(X:Cx)(pins:List (Addr×Obj))(σ:St)(Q:Bool->Hp->Prop)(b:Bool)(s':Shared):Prop:=∃H',Inv X pins σ H' s'/\Q b H'
def AP(X:Cx)(pins:List (Addr×Obj))(σ:St)(Q:List V->Hp->Prop)(us:List Value)(s':Shared):Prop:=∃vs H',Inv X pins σ H' s'/\aJ vs us/\Q vs H'
def SP(X:Cx)(pins:List (Addr×Obj))(D:jq)(f:Flow)(s':Shared):Prop:=
 match f with
 | .next=>∃q H',Inv X pins q H' s'/\D.nx q H'
 | .brk=>∃q H',Inv X pins q H' s'/\D.bk q H'
 | .cont=>∃q H',Inv X pins q H' s'/\D.ct q H'
 | .ret u=>∃v q H',Inv X pins q H' s'/\aI v u/\D.rt v H'
def PE(X:Cx)(e:Expr)(t:TE):Prop:=
 ∀pins s (σ:St) H Q,Inv X pins σ H s->t σ H Q->wpAny (model X.prog X.w) X.A (eval e X.env) (EP X pins σ Q) X.xe s
def PT(X:Cx)(e:Expr)(t:TT):Prop:=
 ∀pins s (σ:St) H Q,Inv X pins σ H s->t σ H Q->wpAny (model X.prog X.w) X.A (isTrue e X.env (eval e X.env)) (TP X pins σ Q) X.xe s
def PW(X:Cx)(e:Expr)(t:TT):Prop:=
 ∀whole pins s (σ:St) H Q,Inv X pins σ H s->t σ H Q->wpAny (model X.prog X.w) X.A (isTrue e X.env whole) (TP X pins σ Q) X.xe s
theorem PW.pt(h:PW X e t):PT X e t:=h _
def PA(X:Cx)(es:List Expr)(t:TA):Prop:=
 ∀pos pins s (σ:St) H Q,Inv X pins σ H s->t σ H Q->wpAny (model X.prog X.w) X.A (spliced (backTo pos (starEach es X.env))) (AP X pins σ Q) X.xe s
def PS(X:Cx)(st:Stmt)(t:TS):Prop:=
 ∀pins s (σ:St) H D,Inv X pins σ H s->t D σ H->wpAny (model X.prog X.w) X.A (exec st X.env) (SP X pins D) X.xe s
def PSs(X:Cx)(st:List Stmt)(t:TS):Prop:=
 ∀pins s (σ:St) H D,Inv X pins σ H s->t D σ H->wpAny (model X.prog X.w) X.A (execs st X.env) (SP X pins D) X.xe s
def thn(h:wpAny M A t Q E s)(q:∀a s,Q a s->z a s):wpAny M A t z E s:=Ks h q λ_ _ x=>x
section
variable{X:Cx}
def bin(ha:PE X a ta)(J:PE X b tb){σ:St}{R:V->V->Hp->Prop}(I:Inv X pins σ H s)(h:ta σ H λx H1=>tb σ H1 λy H2=>R x y H2)
  {f:Value->Value->Sem α}
  (U:∀v u s2 x y H2,Inv X pins σ H2 s2->aI x v->aI y u->R x y H2->wpAny (model X.prog X.w) X.A (f v u) Q X.xe s2) :
  wpAny (model X.prog X.w) X.A (eval a X.env) (λv q=>wpAny (model X.prog X.w) X.A (eval b X.env) (λu z=>wpAny (model X.prog X.w) X.A (f v u) Q X.xe z) X.xe q) X.xe s:=by
 refine thn (ha pins s σ H _ I h) λv s1 D=>au D λx H1 Y Z q1=>?_
 refine thn (J pins s1 σ H1 _ Y q1) λu s2 D=>au D λy H2 I2 r2 q2=>?_
 exact U v u s2 x y H2 I2 Z r2 q2
noncomputable def cA(i:Nat):TE:=λσ H Q=>∃v,σ[i]?=some (some v)/\Q v H
noncomputable def tC(v:V):TE:=λ_ H Q=>Q v H
def xD (J:X.N[i]?=some x) (U:Vis X.env.scope x) (hd:(x==("__debug__":Str))=false:=by decide) (D:(x==("__classdict__":Str))=false:=by decide):PE X (.Name x pos) (cA i):=by
 intro pins s σ H Q I h;refine ae h λv e h=>?_
 refine ae I.loc λm hn Y=>?_
 refine ae (Y i x v J e U) λu r l=>?_
 have fin:EP X pins σ Q u s:=⟨v,H,I,r,h⟩;rcases l with⟨z,hm⟩|⟨z,c,hc,q⟩
 .exact wpAny_Name (wpAny_loadName_local I.ok.kind z hn hm fin) hd
 .rcases z with z|z
  .exact wpAny_Name (wpAny_loadName_cell I.ok.kind z hc q fin) hd
  .exact wpAny_Name (wpAny_loadName_free I.ok.kind z hc q fin D) hd
def jr{i j pos}:PE X (.Constant (.int i) j pos) (tC (.int i)):=λ_ _ _ H _ I h=>wpAny_Constant_int ⟨.int i,H,I.tok _,⟨_,rfl⟩,h⟩
def xE{b j pos}:PE X (.Constant (.bool b) j pos) (tC (.bl b)):=λ_ _ _ H _ I h=>Constant_bool ⟨.bl b,H,I,rfl,h⟩
def kX{j pos}:PE X (.Constant .none j pos) (tC .non):=λ_ _ _ H _ I h=>Constant_none ⟨.non,H,I,rfl,h⟩
def DN{x j pos}:PE X (.Constant (.str x) j pos) (tC (.str x)):=λ_ _ _ H _ I h=>Calls.Constant_str ⟨.str x,H,I.tok _,⟨_,rfl⟩,h⟩
def Gl(X:Cx)(x:Str):Prop:=X.env.kindOf x=some .globalImplicit
def jR{pins:List (Addr×Obj)}{s:Shared}{σ:St}{H:Hp}{x:Str}{u:Value}{pos:Pos}{Q:Value->Shared->Prop}(I:Inv X pins σ H s)(q:Gl X x)(hm:X.mg x=some u)(h:Q u s)
  (hd:(x==("__debug__":Str))=false:=by decide):wpAny (model X.prog X.w) X.A (eval (.Name x pos) X.env) Q E s:=
 Calls.Name_function_global I.ok.kind q (Calls.loadGlobal_global (by rw[I.ok.glob];exact I.mod.glob.keeps I.bk) hm h) hd
def kY{E:Value->Shared->Prop}{pins:List (Addr×Obj)}{s:Shared}{σ:St}{H:Hp}{x:Str}{u:Value}{pos:Pos}{Q:Value->Shared->Prop}(I:Inv X pins σ H s)(q:Gl X x)(hm:X.mg x=none)(z:bootBuiltins x=some u)(h:Q u s)
  (hn:x ≠ "__name__":=by decide) (hd:(x==("__debug__":Str))=false:=by decide):wpAny (model X.prog X.w) X.A (eval (.Name x pos) X.env) Q E s:=by
 refine ae I.mod.blt λD h1 h2=>?_
 exact Calls.Name_function_global I.ok.kind q (Calls.loadGlobal_builtin (by rw[I.ok.glob];exact I.mod.glob.keeps I.bk) hm (by rw[I.ok.blt];exact h1.keeps I.bk) ((h2 x hn).trans z) h) hd
def uV (q:Gl X x) (hm:X.mg x=some u) (r:aI v u) (hd:(x==("__debug__":Str))=false:=by decide):PE X (.Name x pos) (tC v):=
 λ_ _ _ H _ I h=>jR I q hm ⟨v,H,I,r,h⟩ hd
def A2 (q:Gl X x) (hm:X.mg x=none) (z:bootBuiltins x=some u) (r:aI v u) (hn:x ≠ "__name__":=by decide) (hd:(x==("__debug__":Str))=false:=by decide):PE X (.Name x pos) (tC v):=
 λ_ _ _ H _ I h=>kY I q hm z ⟨v,H,I,r,h⟩ hn hd
variable{a b:Expr}{ta tb:TE}{pos:Pos}
def PC(X:Cx)(op:CmpOp)(a b:Expr)(t:TE):Prop:=
 ∀pins s (σ:St) H Q,Inv X pins σ H s->t σ H Q ->
  wpAny (model X.prog X.w) X.A (eval a X.env) (λv q=>wpAny (model X.prog X.w) X.A (eval b X.env) (λu z=>wpAny (model X.prog X.w) X.A (compareOp op v u) (EP X pins σ Q) X.xe z) X.xe q) X.xe s
def mZ(b:Expr){op:CmpOp}(h:op≠.In)(h2:op≠.NotIn):behindInMarks op b=false:=by
 have q:(op==CmpOp.In)=false:=by cases op<;>first|rfl|exact absurd rfl h
 have z:(op==CmpOp.NotIn)=false:=by cases op<;>first|rfl|exact absurd rfl h2
 cases b<;>simp[behindInMarks,q,z]
noncomputable def tB(t:TE):TT:=λσ H Q=>t σ H λx H1=>∃c,x=.bl c/\Q c H1
def xF(h:PC X op a b t)(h1:behindInMarks op b=false:=by first|exact mZ _ (by decide) (by decide)|rfl):PE X (.Compare a [op] [b] pos) t:=λpins s σ H Q I hw=>wpAny_Compare1 (h pins s σ H Q I hw) h1
def xG(h:PC X op a b t)(h1:behindInMarks op b=false:=by first|exact mZ _ (by decide) (by decide)|rfl):PT X (.Compare a [op] [b] pos) (tB t):=by
 intro pins s σ H Q I hw;refine wpAny_isTrue_Compare1 (thn (h pins s σ H _ I hw) λv s1 h1=>thn h1 λu s2 h2=>thn h2 λc s3 D=>au D λx H1 J U q1=>?_) h1;refine ae q1 λd z q=>?_
 subst z;subst U;exact Kv ⟨H1,J,q⟩
def xH(h:PE X e t)(D:∀whole,isTrue e X.env whole=(do let v <- whole;standAt e.pos;holding [v] (truthy v)):=by intro _;rfl):PT X e (tB t):=by
 intro pins s σ H Q I hw;refine isTrue_plain (thn (h pins s σ H _ I hw) λv s1 J=>au J λx H1 U Y q1=>?_) (D _);refine ae q1 λd z q=>?_
 subst z;subst Y;exact Kv ⟨H1,U,q⟩
variable{tA tB':TT}{eF:List Expr}
noncomputable def Jo(t u:TT):TT:=λσ H Q=>t σ H λc H1=>if c=true then u σ H1 Q else Q false H1
noncomputable def tOr(t u:TT):TT:=λσ H Q=>t σ H λc H1=>if c=true then Q true H1 else u σ H1 Q
noncomputable def Jp(t:TT):TT:=λσ H Q=>t σ H λc H1=>Q (!c) H1
def A3(ha:PT X a tA):PW X (.BoolOp .And [a] pos) tA:=by
 intro q pins s σ H Q I h;refine isTrue_and (thn (ha pins s σ H Q I h) λc s1 e=>?_);cases c<;>first|exact isTrue_and_nil e|exact e
def DO(ha:PT X a tA):PW X (.BoolOp .Or [a] pos) tA:=by
 intro q pins s σ H Q I h;refine isTrue_or (thn (ha pins s σ H Q I h) λc s1 e=>?_);cases c<;>first|exact isTrue_or_nil e|exact e
def DQ(ha:PT X a tA)(z:PW X (.BoolOp .And (b::eF) pos) tB'):PW X (.BoolOp .And (a::b::eF) pos) (Jo tA tB'):=by
 intro D pins s σ H Q I h;refine isTrue_and (thn (ha pins s σ H _ I h) λc s1 J=>ae J λH1 q q1=>?_);cases c<;>first|exact z D pins s1 σ H1 Q q q1|exact⟨H1,q,q1⟩
def GT(ha:PT X a tA)(z:PW X (.BoolOp .Or (b::eF) pos) tB'):PW X (.BoolOp .Or (a::b::eF) pos) (tOr tA tB'):=by
 intro D pins s σ H Q I h;refine isTrue_or (thn (ha pins s σ H _ I h) λc s1 J=>ae J λH1 q q1=>?_);cases c<;>first|exact⟨H1,q,q1⟩|exact z D pins s1 σ H1 Q q q1
def xI(ha:PT X a tA):PT X (.UnaryOp .Not a pos) (Jp tA):=by
 intro pins s σ H Q I h;exact isTrue_not (ha pins s σ H (λc H1=>Q _ H1) I h)
noncomputable def GU(ta tb:TE):TE:=λσ H Q=>ta σ H λx H1=>∃c,x=.bl c/\if c=true then tb σ H1 Q else Q (.bl false) H1
noncomputable def Jq(ta tb:TE):TE:=λσ H Q=>ta σ H λx H1=>∃c,x=.bl c/\if c=true then Q (.bl true) H1 else tb σ H1 Q
noncomputable def GV(ta:TE):TE:=λσ H Q=>ta σ H λx H1=>∃c,x=.bl c/\Q (.bl (!c)) H1
def xJ{op}(h:PE X a t):PE X (.BoolOp op [a] pos) t:=λpins s σ H Q I hw=>BoolOp_one (h pins s σ H Q I hw)
def DR(ha:PE X a ta)(z:PE X (.BoolOp .And (b::eF) pos) tb):PE X (.BoolOp .And (a::b::eF) pos) (GU ta tb):=by
 intro pins s σ H Q I h;refine BoolOp_and (thn (ha pins s σ H _ I h) λv s1 D=>au D λx H1 q J q1=>?_);obtain⟨c,rfl,q1⟩:=q1;subst J;refine Kv ?_;cases c<;>first|exact z pins s1 σ H1 Q q q1|exact⟨.bl false,H1,q,rfl,q1⟩
def GW(ha:PE X a ta)(z:PE X (.BoolOp .Or (b::eF) pos) tb):PE X (.BoolOp .Or (a::b::eF) pos) (Jq ta tb):=by
 intro pins s σ H Q I h;refine BoolOp_or (thn (ha pins s σ H _ I h) λv s1 D=>au D λx H1 q J q1=>?_);obtain⟨c,rfl,q1⟩:=q1;subst J;refine Kv ?_;cases c<;>first|exact z pins s1 σ H1 Q q q1|exact⟨.bl true,H1,q,rfl,q1⟩
def DU(ha:PE X a ta):PE X (.UnaryOp .Not a pos) (GV ta):=by
 intro pins s σ H Q I h;refine UnaryOp_ (thn (ha pins s σ H _ I h) λv s1 q=>au q λx H1 z D q1=>?_);obtain⟨c,rfl,q1⟩:=q1;subst D;exact not_of (Kv ⟨.bl _,H1,z,rfl,q1⟩)
noncomputable def tIf(t:TT)(ta tb:TE):TE:=λσ H Q=>t σ H λc H1=>if c=true then ta σ H1 Q else tb σ H1 Q
def re(hc:PT X c tA)(ha:PE X a ta)(z:PE X b tb):PE X (.IfExp c a b pos) (tIf tA ta tb):=by
 intro pins s σ H Q I h;refine wpAny_IfExp (thn (hc pins s σ H _ I h) λd s1 D=>ae D λH1 q q1=>?_);cases d<;>first|exact ha pins s1 σ H1 Q q q1|exact z pins s1 σ H1 Q q q1
end
def SqL(K:M5)(H:Hp)(a:Addr)(xs:List V):Prop:=
 Rd H a (.lst xs) \/
  ∃o its n,K.lookup a=some o/\o.cls=.type "list"/\o.dict=none/\o.data=.seq its n/\its.size<=sizeLine/\aJ xs its.toList
def SqT(K:M5)(H:Hp)(a:Addr)(xs:List V):Prop:=
 Rd H a (.tup xs) \/
  ∃o its n,K.lookup a=some o/\o.cls=.type "tuple"/\o.data=.seq its n/\its.size<=sizeLine/\aJ xs its.toList
noncomputable def Jr:Value->Option V
 | .none=>some .non
 | .bool b=>some (.bl b)
 | .int i _=>some (.int i)
 | .str x _=>some (.str x)
 | .bytes b _=>some (.byt b)
 | .float b _=>some (.flt b)
 | .ref a=>some (.ref a)
 | .type n=>some (.ty n)
 | _=>none
theorem aI.abs(r:aI x u):Jr u=some x:=by
 cases x<;>first|(subst r;rfl)|(obtain⟨t,rfl⟩:=r;rfl)
theorem aI.inj(r:aI x u)(q:aI y u):x=y:=vr (r.abs.symm.trans q.abs)
theorem aJ.inj:∀{xs ys}{us},aJ xs us->aJ ys us->xs=ys
 | _,_,_,.nil,.nil=>rfl
 | _,_,_,.cons r t,.cons q t'=>by rw[r.inj q,aJ.inj t t']
section
variable{X:Cx}{pins:List (Addr×Obj)}{σ:St}{H:Hp}{s:Shared}{a:Addr}{xs ys:List V}
theorem SqL.of{K:M5}(h:H a=some (.lst xs)):SqL K H a xs:=.inl (.inl h)
theorem SqT.of{K:M5}(h:H a=some (.tup xs)):SqT K H a xs:=.inl (.inl h)
theorem Inv.list(I:Inv X pins σ H s)(h:SqL X.K H a xs):∃its,aJ xs its/\PlainL s.heap a its.toArray/\xs.length<=sizeLine:=by
 rcases h with h|⟨o,its,n,q,hc,hd,D,hz,r⟩
 .obtain⟨z,its,n,r,e⟩:=h.ok I.hok;exact⟨its,r,⟨_,n,e,rfl,rfl,rfl⟩,z⟩
 .refine⟨its.toList,r,⟨o,n,I.kIn a o q,hc,hd,by simpa using D⟩,?_⟩;have e:=r.length
  simp_all
def Inv.tuple(I:Inv X pins σ H s)(h:SqT X.K H a xs):∃its,aJ xs its/\IsTup s.heap a its.toArray/\xs.length<=sizeLine:=by
 rcases h with h|⟨o,its,n,q,hc,D,hz,r⟩
 .obtain⟨z,its,r,p⟩:=h.ok I.hok;exact⟨its,r,p,z⟩
 .refine⟨its.toList,r,⟨o,I.kIn a o q,hc,n,by simpa using D⟩,?_⟩;have e:=r.length
  simp_all
def Inv.list_inj(I:Inv X pins σ H s)(h:SqL X.K H a xs)(h':SqL X.K H a ys):xs=ys:=by
 obtain⟨its,r,⟨o,n,e,_,_,d⟩,_⟩:=I.list h;obtain⟨its',z,⟨o',J,q,_,_,d'⟩,_⟩:=I.list h';rw[e]at q;cases q
 rw[d]at d';injection d' with D _
 have:its=its':=by simpa using La Array.toList D
 subst this;exact r.inj z
def Inv.tuple_inj(I:Inv X pins σ H s)(h:SqT X.K H a xs)(h':SqT X.K H a ys):xs=ys:=by
 obtain⟨its,r,⟨o,e,_,n,d⟩,_⟩:=I.tuple h;obtain⟨its',z,⟨o',q,_,J,d'⟩,_⟩:=I.tuple h';rw[e]at q;cases q
 rw[d]at d';injection d' with D _
 have:its=its':=by simpa using La Array.toList D
 subst this;exact r.inj z
end
noncomputable abbrev Cx.wish(X:Cx)(E:Value->Shared->Prop):Cx:={ X with xe:=E }
noncomputable abbrev Cx.nox(X:Cx):Cx:=X.wish λ_ _=>False
theorem Cx.Ok.wish{X:Cx}(ok:X.Ok)(E:Value->Shared->Prop):(X.wish E).Ok:=
 ⟨ok.mod,ok.kind,ok.glob,ok.blt,ok.above,ok.inj,ok.has,ok.cab,ok.hd,ok.frames,ok.stk,ok.exf,ok.bs,ok.bsz,ok.noex,ok.exfs,ok.funs,ok.frf⟩
theorem Cx.Ok.unwish{X:Cx}{E:Value->Shared->Prop}(ok:(X.wish E).Ok):X.Ok:=
 ⟨ok.mod,ok.kind,ok.glob,ok.blt,ok.above,ok.inj,ok.has,ok.cab,ok.hd,ok.frames,ok.stk,ok.exf,ok.bs,ok.bsz,ok.noex,ok.exfs,ok.funs,ok.frf⟩
section
variable{X:Cx}{pins:List (Addr×Obj)}{σ:St}{H:Hp}{s:Shared}{E:Value->Shared->Prop}
theorem Inv.wish(I:Inv X pins σ H s)(E:Value->Shared->Prop):Inv (X.wish E) pins σ H s:=⟨I.ok.wish E,I.os,I.bare,I.base,I.loc,I.cell,I.free,I.freeC,I.pin,I.hok,I.len⟩
theorem Inv.unwish(I:Inv (X.wish E) pins σ H s):Inv X pins σ H s:=⟨I.ok.unwish,I.os,I.bare,I.base,I.loc,I.cell,I.free,I.freeC,I.pin,I.hok,I.len⟩
theorem SP.unwish(h:SP (X.wish E) pins D f s'):SP X pins D f s':=by
 cases f<;>first|(obtain⟨z,H',I,q⟩:=h;exact⟨z,H',I.unwish,q⟩)|(obtain⟨v,z,H',I,r,q⟩:=h;exact⟨v,z,H',I.unwish,r,q⟩)
theorem PSs.nox{st:List Stmt}(h:PSs X.nox st t):PSs X st t:=λpins s σ H D I hw =>
 Ks (h pins s σ H D (I.wish _) hw) (λ_ _ q=>q.unwish) λ_ _ z=>False.elim z
end
section
variable{X:Cx}{st:Stmt}{eF:List Stmt}{t u:TS}{e:Expr}{te:TE}{pos:Pos}
noncomputable def iy:TS:=λD σ H=>D.nx σ H
noncomputable def fQ(t u:TS):TS:=λD σ H=>t { D with nx:=u D } σ H
def eX:PSs X [] iy:=λ_ _ σ H _ I h=>wpAny_execs_nil ⟨σ,H,I,h⟩
def aD(h1:PS X st t)(h2:PSs X eF u):PSs X (st::eF) (fQ t u):=by
 intro pins s σ H D I h;refine wpAny_execs_cons (thn (h1 pins s σ H { D with nx:=u D } I h) λf s1 q=>?_);cases f with
 |next =>
  refine cM q λz H' J q=>?_
  exact h2 pins s1 z H' D J q
 | _=>exact q
def bx(h1:PS X st t):PSs X [st] t:=by
 intro pins s σ H D I h;refine wpAny_execs_cons (thn (h1 pins s σ H D I h) λf s1 q=>?_);cases f with
 |next=>exact wpAny_execs_nil q
 |ret v=>exact q
 |brk=>exact q
 |cont=>exact q
def Inv.quiet(I:Inv X pins σ H s):interactive X.env=false:=by simp[interactive,I.ok.kind]
noncomputable def m4(te:TE):TS:=λD σ H=>te σ H λ_ H1=>D.nx σ H1
def d9(q:PE X e te)(z:swapsWith e none pos.line X.env=pure false:=by rfl):PS X (.Expr e pos) (m4 te):=by
 intro pins s σ H D I h;exact wpAny_Expr_any (thn (q pins s σ H _ I h) λv s1 J=>au J λx H1 U Y q1=>⟨σ,H1,U,q1⟩) I.quiet z
noncomputable def rg(te:TE):TS:=λD σ H=>te σ H D.rt
def gU(q:PE X e te):PS X (.Return (some e) pos) (rg te):=by
 intro pins s σ H D I h;exact wpAny_Return_some (thn (q pins s σ H _ I h) λv s1 z=>au z λx H1 J U q1=>⟨x,σ,H1,J,U,q1⟩)
noncomputable def kZ(c:TT)(t u:TS):TS:=λD σ H=>c σ H λb H1=>if b=true then t D σ H1 else u D σ H1
def iz(hc:PT X c tc)(ha:PSs X a t)(z:PSs X b u):PS X (.If c a b pos) (kZ tc t u):=by
 intro pins s σ H D I h;refine wpAny_If (thn (hc pins s σ H _ I h) λd s1 J=>ae J λH1 q q1=>?_);cases d<;>first|exact ha pins s1 σ H1 D q q1|exact z pins s1 σ H1 D q q1
noncomputable def DV:TS:=λ_ _ _=>False
def xK:PS X st DV:=λ_ _ _ _ _ _ h=>h.elim
end
noncomputable abbrev TG:=V->St->Hp->(St->Hp->Prop)->Prop
noncomputable abbrev TGs:=List V->St->Hp->(St->Hp->Prop)->Prop
def PG(X:Cx)(target:Expr)(t:TG):Prop:=
 ∀pins s (σ:St) H v u Q,Inv X pins σ H s->aI v u->t v σ H Q ->
  wpAny (model X.prog X.w) X.A (assign target X.env u) (λ_ s'=>∃q H',Inv X pins q H' s'/\Q q H') X.xe s
def PGs(X:Cx)(z:List Expr)(t:TGs):Prop:=
 ∀pins s (σ:St) H vs us Q,Inv X pins σ H s->aJ vs us->t vs σ H Q ->
  wpAny (model X.prog X.w) X.A (assignInOrder ((assignEach z X.env).map (·.2)) us) (λ_ s'=>∃q H',Inv X pins q H' s'/\Q q H') X.xe s
noncomputable abbrev Js:=V->V->V->Hp->(Hp->Prop)->Prop
def Jt(X:Cx)(t:Js):Prop:=
 ∀pins s (σ:St) H o i v q z u Q,Inv X pins σ H s->aI o q->aI i z->aI v u->t o i v H Q ->
  wpAny (model X.prog X.w) X.A (setItem q z u) (λ_ s'=>∃H',Inv X pins σ H' s'/\Q H') X.xe s
section
variable{X:Cx}{pos:Pos}
noncomputable def db(i:Nat):TG:=λv σ H Q=>Q (σ.set i (some v)) H
def iX(q:X.N.Nodup)(hi:X.N[i]?=some x)(hx:Loc X.env.scope x)(z:X.fn x=true\/X.env.scope.names.lookup x=some .local:=by first|exact .inl rfl|exact .inr rfl|assumption):PG X (.Name x pos) (db i):=by
 intro pins s σ H v u Q I r h;exact wpAny_assign_Name (q_ I q hi hx r (λs' D=>⟨_,H,D,h⟩) z)
noncomputable def xL:TGs:=λvs σ H Q=>vs=[]/\Q σ H
noncomputable def lX(t:TG)(u:TGs):TGs:=λvs σ H Q=>∃v r,vs=v::r/\t v σ H λq H'=>u r q H' Q
def pW:PGs X [] xL:=by
 intro pins s σ H vs us Q I r h;obtain⟨e,h⟩:=h;subst e;cases r;exact assignInOrder_nil ⟨σ,H,I,h⟩
def iA(h1:PG X e t)(h2:PGs X es u)
  (z:(assignEach (e::es) X.env).map (·.2)=assign e X.env::(assignEach es X.env).map (·.2):=by rfl):PGs X (e::es) (lX t u):=by
 intro pins s σ H vs us Q I r h;obtain⟨v,Z,D,h⟩:=h;subst D;cases r with
 |cons r J =>
  rw[z];refine assignInOrder_cons (thn (h1 pins s σ H _ _ _ I r h) λ_ s1 U=>cM U λq H1 Y q1=>?_);exact h2 pins s1 q H1 _ _ Q Y J q1
noncomputable def xM(K:M5)(n:Nat)(t:TGs):TG:=λv σ H Q=>∃a xs,v=.ref a/\SqT K H a xs/\xs.length=n/\t xs σ H Q
def sY{k:Nat}(hc:X.calm=true)(h:PGs X es t)
  (hn:(assignEach es X.env).length=n:=by rfl) (q:(assignEach es X.env).findIdx? (·.1)=none:=by rfl):PG X (.Tuple es k pos) (xM X.K n t):=by
 intro pins s σ H v u Q I r hw;refine bN λZq D=>?_
 obtain⟨a,xs,J,U,Y,hw⟩:=hw;subst J;subst r;refine a8 (I.tuple U) λits z ht hz=>?_
 refine D ?_;refine assign_Tuple_tuple (I.ok.hd hc) ht (by simp[hn,<- Y,z.length]) q λh' hx=>?_
 have Z:=I.kept (t':=s.toks) λb o e=>hx b o (x1 (uw e)) e
 exact h pins _ σ H xs _ Q Z z hw
noncomputable def pX(te:TE)(g:TG):TS:=λD σ H=>te σ H λx H1=>g x σ H1 D.nx
def xN(z:PE X e te)(J:PG X tg g)(U:swapsWithSole [tg] e pos.line X.env=pure false:=by rfl)(hw:swappedStores [tg] e X.env=pure none:=by rfl)
  (h1:(assignEach [tg] X.env).map (·.2)=[assign tg X.env]:=by rfl):PS X (.Assign [tg] e pos) (pX te g):=by
 intro pins s σ H D I h;refine wpAny_Assign_stores (thn (z pins s σ H _ I h) λv s1 ⟨x,H1,Y,Z,q1⟩=>?_) U hw;rw[h1];exact thn (J pins s1 σ H1 x v _ Y Z q1) λ_ s2 q=>q
def jt(q:X.N.Nodup)(hi:X.N[i]?=some x)(hx:Loc X.env.scope x)(z:PE X e te)(J:swapsWith e (some (.Name x pos')) pos.line X.env=pure false:=by rfl)(U:X.fn x=true\/X.env.scope.names.lookup x=some .local:=by first|exact .inl rfl|exact .inr rfl|assumption) :
  PS X (.Assign [.Name x pos'] e pos) (pX te (db i)):=by
 intro pins s σ H D I h;refine wpAny_Assign_Name (thn (z pins s σ H _ I h) λv s1 Y=>au Y λy H1 Z r1 q1=>?_) J;exact q_ Z q hi hx r1 (λs2 I2=>⟨_,H1,I2,q1⟩) U
end
structure It where
 go:Nat->Hp->Prop
 yld:Nat->Hp->V->Hp->Prop
 stop:Nat->Hp->Prop
def jS(X:Cx)(pins:List (Addr×Obj))(H:Hp)(b:Addr):Prop:=
 H b=none/\b≠X.env.locals/\b∉X.fs/\(b∈X.ex\/X.s₀.heap.objs.size<=b)/\(∀x c,X.env.cells.lookup x=some c->c≠b)/\∀p∈X.pn++pins,p.1≠b
theorem Inv.fpOk{σ:St}{H H':Hp}{s:Shared}{b:Addr}(I:Inv X pins σ H s)(D:s.heap.objs.size<=b)(hn:H' b=none):jS X pins H' b:=by
 refine⟨hn,K3 (wh I.lt D),I.nofs D,.inr (xb I.sz D),λx c e z=>?_,λp J z=>?_⟩
 .obtain⟨v,q⟩:=I.cell x c e;exact absurd (wh q.lt (by rw[z];exact D)) (Kt _)
 .exact absurd (wh (uw (I.pin p J).1) (by rw[z];exact D)) (Kt _)
structure rj(P:Program)(w:World)(K:M5)(tg:Expr)(J:It)(fp:List Addr)(it:Addr)(tn:Nat->Heap->Prop):Prop where
 mem:it∈fp
 obj:∀i h,tn i h->∀b∈fp,∃o,h.get? b=some o/\∀v,o.data≠.cell v
 keep:∀i h h',tn i h->(∀b∈fp,∀o,h.get? b=some o->h'.get? b=some o)->tn i h'
 item:∀(X:Cx),X.prog=P->X.w=w->X.K=K->X.calm=true->∀(i:Nat) (pins:List (Addr×Obj)) (s:Shared) (σ:St) (H:Hp) (E:Value->Shared->Prop),Inv X pins σ H s->(∀b∈fp,jS X pins H b)->tn i s.heap->J.go i H ->
  wpAny (model P w) X.A (pyNext (.ref it)) (λr s1=>∃u,r=some u /\
   wpAny (model P w) X.A (letOwnedTupleGo tg (.ref it) u) (λ_ s2=>∃x H',Inv X pins σ H' s2/\aI x u/\J.yld i H x H'/\tn (i+1) s2.heap/\∀b∈fp,H' b=none) E s1) E s
 done:∀(X:Cx),X.prog=P->X.w=w->X.K=K->X.calm=true->∀(i:Nat) (pins:List (Addr×Obj)) (s:Shared) (σ:St) (H:Hp) (E:Value->Shared->Prop),Inv X pins σ H s->(∀b∈fp,jS X pins H b)->tn i s.heap->J.stop i H ->
  wpAny (model P w) X.A (pyNext (.ref it)) (λr s1=>r=none/\Inv X pins σ H s1) E s
 self:∀(A:Around) (i:Nat) (s:Shared) (Q:Value->Shared->Prop) (E:Value->Shared->Prop),tn i s.heap->Q (.ref it) s->wpAny (model P w) A (pyIter (.ref it)) Q E s
noncomputable abbrev TI:=St->Hp->(It->Hp->Prop)->Prop
def PIE(X:Cx)(pins:List (Addr×Obj))(σ:St)(tg:Expr)(R:It->Hp->Prop)(q:Value)(s2:Shared):Prop:=
 ∃it fp z J H',q=.ref it/\Inv X pins σ H' s2/\rj X.prog X.w X.K tg J fp it z/\z 0 s2.heap/\(∀b∈fp,jS X pins H' b)/\R J H'
def PI(X:Cx)(tg iter:Expr)(wi:TI):Prop:=
 ∀pins s (σ:St) H R,Inv X pins σ H s->wi σ H R ->
  wpAny (model X.prog X.w) X.A (eval iter X.env) (λv s1=>wpAny (model X.prog X.w) X.A (pyIter v) (PIE X pins σ tg R) X.xe s1) X.xe s
def xO{s:Shared}{tg:Expr}{it:Addr}{u:Value}{o:Obj}{n:String}{vs:Array Value}{Q:Unit->Shared->Prop}(ho:s.heap.get? it=some o)(hc:o.cls=.type n)(hd:o.data=.fields vs)
    (hn:["enumerate","zip","dict_itemiterator","dict_reverseitemiterator","odict_iterator","itertools.zip_longest","itertools.pairwise"].contains n=false) (hQ:Q () s):wpAny M A (letOwnedTupleGo tg (.ref it) u) Q E s:=by
  cases tg<;>first
    | exact mu hQ
    | (cases u<;>first
        | exact mu hQ
        | (refine kn (wpAny_load ho ?_)
           rw[hc,hd];show wpAny M A (if (["enumerate","zip","dict_itemiterator","dict_reverseitemiterator","odict_iterator","itertools.zip_longest","itertools.pairwise"].contains n&&vs[0]?==some (rawInt _))=true then _ else _) Q E s;rw[if_neg (by intro h;rw[hn,Bool.false_and]at h;exact dy h)];exact mu hQ))
noncomputable def Itl(K:M5)(a:Addr):It:=
 ⟨λi H=>∃xs x,SqL K H a xs/\xs[i]?=some x,λi H x H'=>H'=H/\∀xs,SqL K H a xs->xs[i]?=some x,λi H=>∃xs,SqL K H a xs/\xs.length<=i⟩
noncomputable def Itt(K:M5)(a:Addr):It:=
 ⟨λi H=>∃xs x,SqT K H a xs/\xs[i]?=some x,λi H x H'=>H'=H/\∀xs,SqT K H a xs->xs[i]?=some x,λi H=>∃xs,SqT K H a xs/\xs.length<=i⟩
noncomputable def Itr(lo:Int)(n:Nat):It:=⟨λi _=>i<n,λi H x H'=>H'=H/\x=.int (lo+i),λi _=>n<=i⟩
def v_{K:M5}(a it):rj P w K tg (Itl K a) [it] it (λi h=>h.IsListIter it a i) where
 mem:=by simp
 obj:=λi h st b q=>by
  refine a8 st λo e c d=>?_
  simp_all
 keep:=λi h h' st k=>st.at λo e=>k it (by simp) o e
 item:=by
  intro X U hw hK hc i pins s σ H E I D st Y;refine bN λZq Z=>?_
  subst U hw hK;refine cM Y λxs x J hx=>?_
  refine a8 (I.list J) λits rv p hz=>?_
  refine ae (rv.get hx) λu hu ru=>?_
  refine jQ (D it (by simp)) λf0 f1 f2 f3 f4 f5=>?_
  refine Z ?_;refine wpAny_pyNext_list_item st p.isList (by simpa using hu) λh' z sb=>?_
  have I1:=I.turned (t':=s.toks) (λb o q e=>(sb.2 b q).trans e) f0 f1 f3 f4 f5;refine a8 (id z) λo e c d=>?_
  exact⟨u,rfl,xO e c d (by decide) ⟨x,H,I1,ru,⟨rfl,λys hy=>by rw[I.list_inj hy J];exact hx⟩,z,λb q=>(D b q).1⟩⟩
 done:=by
  intro X U hw hK hc i pins s σ H E I D st Y;refine bN λZq Z=>?_
  subst U hw hK;refine ae Y λxs J hx=>?_
  refine a8 (I.list J) λits rv p hz=>?_
  refine jQ (D it (by simp)) λf0 f1 f2 f3 f4 f5=>?_
  have hl:=rv.length;refine Z ?_;exact wpAny_pyNext_list_end (I.ok.hd hc) st p.isList (by simp;omega) λh' eb=>⟨rfl,I.turned (λb o q e=>eb b o q e) f0 f1 f3 f4 f5⟩
 self:=λ_ _ _ _ _ st h=>wpAny_pyIter_listiter st h
def sZ{K:M5}(a it):rj P w K tg (Itt K a) [it] it (λi h=>h.IsTupleIter it a i) where
 mem:=by simp
 obj:=λi h st b q=>by
  refine a8 st λo e c d=>?_
  simp_all
 keep:=λi h h' st k=>st.at λo e=>k it (by simp) o e
 item:=by
  intro X U hw hK hc i pins s σ H E I D st Y;refine bN λZq Z=>?_
  subst U hw hK;refine cM Y λxs x J hx=>?_
  refine a8 (I.tuple J) λits rv p hz=>?_
  refine ae (rv.get hx) λu hu ru=>?_
  refine jQ (D it (by simp)) λf0 f1 f2 f3 f4 f5=>?_
  refine Z ?_;refine wpAny_pyNext_tuple_item st (show s.heap.IsTuple a its.toArray from p) (by simpa using hu) λh' z sb=>?_
  have I1:=I.turned (t':=s.toks) (λb o q e=>(sb.2 b q).trans e) f0 f1 f3 f4 f5;refine a8 (id z) λo e c d=>?_
  exact⟨u,rfl,xO e c d (by decide) ⟨x,H,I1,ru,⟨rfl,λys hy=>by rw[I.tuple_inj hy J];exact hx⟩,z,λb q=>(D b q).1⟩⟩
 done:=by
  intro X U hw hK hc i pins s σ H E I D st Y;refine bN λZq Z=>?_
  subst U hw hK;refine ae Y λxs J hx=>?_
  refine a8 (I.tuple J) λits rv p hz=>?_
  refine jQ (D it (by simp)) λf0 f1 f2 f3 f4 f5=>?_
  have hl:=rv.length;refine Z ?_;exact wpAny_pyNext_tuple_end (I.ok.hd hc) st (show s.heap.IsTuple a its.toArray from p) (by simp;omega) λh' eb=>⟨rfl,I.turned (λb o q e=>eb b o q e) f0 f1 f3 f4 f5⟩
 self:=λ_ _ _ _ _ st h=>wpAny_pyIter_tupleiter st h
def s_{K:M5}(it)(lo)(n):rj P w K tg (Itr lo n) [it] it (λi h=>IsRangeIter h it (lo+(i:Nat)*1) ((n:Int)-(i:Nat)) 1) where
 mem:=by simp
 obj:=λi h st b q=>by
  simp_all
 keep:=λi h h' st k=>k it (by simp) _ st
 item:=by
  intro X hP hw hK hc i pins s σ H E I D st J;subst hP hw hK;refine jQ (D it (by simp)) λf0 U f2 Y Z f5=>?_
  have W:=Walks.range (prog:=X.prog) (w:=X.w) (I.ok.hd hc) it lo 1 n;refine W.item i s _ _ J st λv h' tk hv z kk=>?_
  obtain⟨t,rfl⟩:=hv;have I1:Inv X pins σ H { s with heap:=h',toks:=tk }:=I.turned (λb o q e=>kk b o (by simpa using q) e) f0 U Y Z f5;refine⟨_,rfl,xO z rfl rfl (by decide) ⟨.int _,H,I1,⟨t,?_⟩,⟨rfl,rfl⟩,z,λb q=>(D b q).1⟩⟩;rw[Int.mul_one]
 done:=by
  intro X hP hw hK hc i pins s σ H E I D st J;refine jQ (D it (by simp)) λf0 U f2 Y Z f5=>?_
  exact wpAny_pyNext_range_end (I.ok.hd hc) st (by have:n<=i:=J;omega) λh' eb=>⟨rfl,I.turned (λb o q e=>eb b o q e) f0 U Y Z f5⟩
 self:=λ_ _ _ _ _ st h=>wpAny_pyIter_rangeiter st h
section
variable{X:Cx}{tg:Expr}
noncomputable def CW(K:M5)(tl:TE):TI:=λσ H R=>tl σ H λx H1=>∃a,x=.ref a/\(∃xs,SqL K H1 a xs)/\R (Itl K a) H1
noncomputable def Ju(K:M5)(tl:TE):TI:=λσ H R=>tl σ H λx H1=>∃a,x=.ref a/\(∃xs,SqT K H1 a xs)/\R (Itt K a) H1
def mE(D:PE X l tl):PI X tg l (CW X.K tl):=by
 intro pins s σ H R I h;refine thn (D pins s σ H _ I h) λv s1 ⟨x,H1,z,J,q1⟩=>?_
 obtain⟨a,e,⟨xs,U⟩,q⟩:=q1;subst e;subst J;refine a8 (z.list U) λits Z p hz=>?_
 refine L5 p.isList ?_;refine⟨s1.heap.objs.size,[s1.heap.objs.size],_,_,H1,rfl,z.kept (t':=s1.toks) λb o e=>mn _ e,v_ a _,⟨_,tu _ rfl,rfl,rfl⟩,λb Y=>?_,q⟩;have e:b=s1.heap.objs.size:=by simpa using Y
 subst e;exact z.fpOk (pb _) (z.hok.fresh (pb _))
def xP(D:PE X l tl):PI X tg l (Ju X.K tl):=by
 intro pins s σ H R I h;refine thn (D pins s σ H _ I h) λv s1 ⟨x,H1,z,J,q1⟩=>?_
 obtain⟨a,e,⟨xs,U⟩,q⟩:=q1;subst e;subst J;refine a8 (z.tuple U) λits Z p hz=>?_
 refine LV (show s1.heap.IsTuple a its.toArray from p) ?_;refine⟨s1.heap.objs.size,[s1.heap.objs.size],_,_,H1,rfl,z.kept λb o e=>mn _ e,sZ a _,⟨_,tu _ rfl,rfl,rfl⟩,λb Y=>?_,q⟩;have e:b=s1.heap.objs.size:=by simpa using Y
 subst e;exact z.fpOk (pb _) (z.hok.fresh (pb _))
def rk{σ:St}{H:Hp}{s:Shared}{R:It->Hp->Prop}{E:Value->Shared->Prop}{lo hi:Int}{t u v:Tok}{tk:Nat}(I:Inv X pins σ H s)(h1:-(2 ^ 62)<=lo)(h2:lo<2 ^ 62)(h3:-(2 ^ 62)<=hi)(h4:hi<2 ^ 62)
  (q:R (Itr lo (hi-lo).toNat) H):wpAny (model X.prog X.w) X.A (pyIter (.ref s.heap.objs.size)) (PIE X pins σ tg R) E { s with heap:=s.heap.push { cls:=.type "range",data:=.fields #[.int lo t,.int hi u,.int 1 v] },toks:=tk }:=by
 refine wpAny_pyIter_range (IsRange.new ..) (small_one h1 h2 h3 h4) ?_;have z:Inv X pins σ H { s with heap:=s.heap.push { cls:=.type "range",data:=.fields #[.int lo t,.int hi u,.int 1 v] },toks:=tk }:=I.kept λb o e=>mn _ e
 refine⟨(s.heap.push { cls:=.type "range",data:=.fields #[.int lo t,.int hi u,.int 1 v] }).objs.size,[(s.heap.push { cls:=.type "range",data:=.fields #[.int lo t,.int hi u,.int 1 v] }).objs.size],_,_,H,rfl,
  z.kept (t':=tk) λb o e=>mn _ e,s_ _ lo (hi-lo).toNat,?_,λb D=>?_,q⟩
 .have J:lo+((0:Nat):Int)*1=lo:=by simp
  have U:(((hi-lo).toNat:Nat):Int)-((0:Nat):Int)=Builtin.Range.rangeSize lo hi 1:=by rw[rangeSize_one];split<;>omega
  show IsRangeIter _ _ (lo+((0:Nat):Int)*1) ((((hi-lo).toNat:Nat):Int)-((0:Nat):Int)) 1;rw[J,U];exact tu _ rfl
 .have e:b=(s.heap.push { cls:=.type "range",data:=.fields #[.int lo t,.int hi u,.int 1 v] }).objs.size:=by simpa using D
  subst e;exact z.fpOk (pb _) (z.hok.fresh (pb _))
noncomputable def xQ(ta:TA):TI:=λσ H R=>ta σ H λvs H1=>∃j,vs=[.int j]/\-(2 ^ 62)<=j/\j<2 ^ 62/\R (Itr 0 j.toNat) H1
noncomputable def GX(ta:TA):TI:=λσ H R=>ta σ H λvs H1=>∃i j,vs=[.int i,.int j]/\(-(2 ^ 62)<=i/\i<2 ^ 62/\-(2 ^ 62)<=j/\j<2 ^ 62)/\R (Itr i (j-i).toNat) H1
def o4 (z:Gl X "range") (hm:X.mg "range"=none) (ha:PA X [a] ta) (D:starEach [a] X.env=[(false,eval a X.env)]:=by rfl):PI X tg (.Call (.Name "range" p) [a] [] pos) (xQ ta):=by
 intro pins s σ H R I h;refine Call_ (kY I z hm boot_range (Li (thn (ha pos pins s σ H _ I h) λus s1 J=>au J λvs H1 U Y q1=>?_) D rfl));obtain⟨j,e,q1,q2,q⟩:=q1;subst e;cases Y with
 |cons r Z =>
  cases Z;obtain⟨t,rfl⟩:=r;exact call_range_1 (rk U (by decide) (by decide) q1 q2 (by simpa using q))
def wa (J:Gl X "range") (hm:X.mg "range"=none) (ha:PA X [a,b] ta) (U:starEach [a,b] X.env=[(false,eval a X.env),(false,eval b X.env)]:=by rfl) (z:starEach [b] X.env=[(false,eval b X.env)]:=by rfl) :
  PI X tg (.Call (.Name "range" p) [a,b] [] pos) (GX ta):=by
 intro pins s σ H R I h;refine Call_ (kY I J hm boot_range (Li (thn (ha pos pins s σ H _ I h) λus s1 Y=>au Y λvs H1 Z r1 q1=>?_) (by rw[U,z]) (by rw[z];rfl)));obtain⟨i,j,e,⟨q1,q2,q3,q4⟩,q⟩:=q1;subst e;cases r1 with
 |cons r D =>
  cases D with
  |cons r' D =>
   cases D;obtain⟨t,rfl⟩:=r;obtain⟨t',rfl⟩:=r';exact call_range_2 (rk Z q1 q2 q3 q4 q)
noncomputable def wb(wi:TI)(g:TG)(tb:TS):TS:=λD σ H=>wi σ H λJ H1=>∃W:Nat->Nat->St->Hp->Prop,(∃m,W 0 m σ H1)/\∀i m σ H,W i m σ H ->
 (J.stop i H/\D.nx σ H)\/(J.go i H/\∃N,(∀q H',N q H'->∃U,U<m/\W (i+1) U q H')/\∀x H',J.yld i H x H'->g x σ H' λz H2=>tb { D with nx:=N,ct:=N,bk:=D.nx } z H2)
noncomputable def m5(fp:List Addr)(h:Heap):List (Addr×Obj):=fp.filterMap λb=>(h.get? b).map λo=>(b,o)
def gX(q:b∈fp)(e:h.get? b=some o):(b,o)∈m5 fp h:=mem_filterMap.mpr ⟨b,q,by rw[e];rfl⟩
def wc(z:p∈m5 fp h):p.1∈fp/\h.get? p.1=some p.2:=by
 refine ae (mem_filterMap.mp z) λb D e=>?_
 cases q:h.get? b with
 |none=>rw[q]at e;exact bc e
 |some o =>
  rw[q]at e;have J:=vr e;subst J;exact⟨D,q⟩
def Inv.pinned(I:Inv X pins σ H s)(D:∀b∈fp,jS X pins H b)(ho:∀b∈fp,∃o,s.heap.get? b=some o/\∀v,o.data≠.cell v):Inv X (pins++m5 fp s.heap) σ H s:=
 I.pins_of λp J=>(K4.mp J).elim (λz=>I.pin p (KL _ z)) λz=>by
  obtain⟨q,e⟩:=wc z;refine gC (D p.1 q) λf0 U Y _=>?_
  refine ae (ho p.1 q) λo Z d=>?_
  simp_all
def Inv.unpinned(I:Inv X (pins++pl) σ H s):Inv X pins σ H s:=I.pins_of λp q=>I.pin p (KL _ (Lv _ q))
def pY{iter:Expr}(hp:PassesOwn (model X.prog X.w) X.A X.env X.xe)(hc:X.calm=true)(hi:PI X tg iter wi)(hg:PG X tg g)(z:PSs X body tb)(hs:∀x,foldedSetIterable iter X.env x=pure x:=by intro _;rfl):PS X (.For tg iter body [] pos) (wb wi g tb):=by
 intro pins s σ H D I h;refine wpAny_For (thn (hi pins s σ H _ I h) λv s1 h1=>thn h1 λb4 s2 h2=>?_) hs;refine bN λZq kq=>?_
 obtain⟨it,fp,tn,J,H2,e,I2,T,a5,f2,W,⟨m0,w0⟩,turn⟩:=h2;subst e;have U:∀{H'},(∀b∈fp,H' b=none)->∀b∈fp,jS X pins H' b:=λhn b z=>⟨hn b z,(f2 b z).2⟩
 refine kq ?_;refine codeAny_forLoop_any (λn s'=>∃i Y H',Inv X pins Y H' s'/\tn i s'.heap/\(∀b∈fp,H' b=none)/\W i n Y H') ?_ m0 ⟨0,σ,H2,I2,a5,λb z=>(f2 b z).1,w0⟩;rintro n s3 ⟨i,Z,H3,I3,a2,a3,w3⟩;rcases turn i n Z H3 w3 with⟨stop,qn⟩|⟨go,N,hN,step⟩
 .refine LO hp (thn (T.done X rfl rfl rfl hc i pins s3 Z H3 X.xe I3 (U a3) a2 stop) λr s4 hq=>qV hq λhr I4=>?_);subst hr;exact wpAny_execs_nil ⟨Z,H3,I4,qn⟩
 .refine LO hp (thn (T.item X rfl rfl rfl hc i pins s3 Z H3 X.xe I3 (U a3) a2 go) λr s4 hq=>ae hq λu hr h4=>?_);subst hr;refine LO hp (thn h4 λ_ s5 hq=>uR hq λx H5 I5 r5 y5 a0 a7=>?_);have bt:=I5.pinned (U a7) (T.obj _ _ a0);refine LO hp (thn (hg _ s5 Z H5 x u _ bt r5 (step x H5 y5)) λ_ s6 hq=>cM hq λbA H6 I6 q6=>?_);refine LO hp (thn (z _ s6 bA H6 _ I6 q6) λf s7 q7=>?_);have again:∀{q}{H7},Inv X (pins++m5 fp s5.heap) q H7 s7->N q H7->∃m,m<n/\∃i Y H',Inv X pins Y H' s7/\tn i s7.heap/\(∀b∈fp,H' b=none)/\W i m Y H':=λ{q H7} I7 n7=>by
   refine ae (hN q H7 n7) λm' hm w7=>?_
   refine⟨m',hm,i+1,q,H7,I7.unpinned,T.keep _ _ _ a0 λb z o e=>(I7.pin (b,o) (KL _ (KL _ (gX z e)))).1,λb z=>?_,w7⟩;refine ae (T.obj _ _ a0 b z) λo e d=>?_
   exact(I7.pin (b,o) (KL _ (KL _ (gX z e)))).2.1
  cases f<;>first|(obtain⟨q,H7,I7,n7⟩:=q7;exact again I7 n7)|(obtain⟨q,H7,I7,q7⟩:=q7;exact⟨q,H7,I7.unpinned,q7⟩)|(obtain⟨x7,q,H7,I7,r7,q7⟩:=q7;exact⟨x7,q,H7,I7.unpinned,r7,q7⟩)
end
noncomputable abbrev R2:=V->V->Hp->VK->Prop
def OpR(X:Cx)(f:Value->Value->Sem Value)(r:R2):Prop:=
 ∀pins s (σ:St) H x y v u Q,Inv X pins σ H s->aI x v->aI y u->r x y H Q ->
  wpAny (model X.prog X.w) X.A (f v u) (EP X pins σ Q) X.xe s
def ce(X:Cx)(f:Value)(r:List V->Hp->VK->Prop):Prop:=
 ∀pins s (σ:St) H xs us Q,Inv X pins σ H s->aJ xs us->r xs H Q ->
  wpAny (model X.prog X.w) X.A (call f us) (EP X pins σ Q) X.xe s
noncomputable def tOp(r:R2)(ta tb:TE):TE:=λσ H Q=>ta σ H λx H1=>tb σ H1 λy H2=>r x y H2 Q
noncomputable def rI(C:Int->Int->Prop)(g:Int->Int->V):R2:=λx y H Q=>∃i j,x=.int i/\y=.int j/\C i j/\Q (g i j) H
noncomputable def rI0(g:Int->Int->V):R2:=λx y H Q=>∃i j,x=.int i/\y=.int j/\Q (g i j) H
section
variable{X:Cx}{a b c:Expr}{ta tb tc:TE}{pos:Pos}
def DW(ha:PE X a ta)(J:PE X b tb){R:V->V->Hp->Prop}(I:Inv X pins σ H s)
  (h:ta σ H λx H1=>tb σ H1 λy H2=>R x y H2) {f:Value->Value->Sem Value}
  (U:∀v u s2 x y H2,Inv X pins σ H2 s2->aI x v->aI y u->R x y H2->wpAny (model X.prog X.w) X.A (f v u) Q X.xe s2) :
  wpAny (model X.prog X.w) X.A (eval a X.env) (λv q=>wpAny (model X.prog X.w) X.A (eval b X.env) (λu z=>wpAny (model X.prog X.w) X.A (f v u) Q X.xe z) X.xe q) X.xe s:=by
 refine thn (ha pins s σ H _ I h) λv s1 D=>au D λx H1 Y Z q1=>?_
 refine thn (J pins s1 σ H1 _ Y q1) λu s2 D=>au D λy H2 I2 r2 q2=>?_
 exact U v u s2 x y H2 I2 Z r2 q2
def GY(ho:OpR X (binaryOp op) r)(ha:PE X a ta)(z:PE X b tb):PE X (.BinOp a op b pos) (tOp r ta tb):=by
 intro pins s σ H Q I h;exact wpAny_BinOp (DW ha z I h λv u s2 x y H2 D J U q=>ho pins s2 σ H2 x y v u Q D J U q)
def opI{C:Int->Int->Prop}{g:Int->Int->Int}
  (rule:∀i j t u s Q E,C i j->Q (.int (g i j) s.toks) { s with toks:=s.toks+1 }->wpAny (model X.prog X.w) X.A (f (.int i t) (.int j u)) Q E s) :
  OpR X f (rI C λi j=>.int (g i j)):=by
 intro pins s σ H x y v u Q I J U h;refine ij h λi j z D hc q=>?_
 subst z;subst D;obtain⟨t,rfl⟩:=J;obtain⟨t',rfl⟩:=U;exact rule i j t t' s _ _ hc ⟨.int (g i j),H,I.tok _,⟨_,rfl⟩,q⟩
def GZ{g:Int->Int->Int}
  (rule:∀i j t u s Q E,Q (.int (g i j) s.toks) { s with toks:=s.toks+1 }->wpAny (model X.prog X.w) X.A (f (.int i t) (.int j u)) Q E s) :
  OpR X f (rI0 λi j=>.int (g i j)):=by
 intro pins s σ H x y v u Q I J U h;refine au h λi j z D q=>?_
 subst z;subst D;obtain⟨t,rfl⟩:=J;obtain⟨t',rfl⟩:=U;exact rule i j t t' s _ _ ⟨.int _,H,I.tok _,⟨_,rfl⟩,q⟩
def A4{g:Int->Int->Bool}
  (rule:∀i j t u s Q E,Q (.bool (g i j)) s->wpAny (model X.prog X.w) X.A (f (.int i t) (.int j u)) Q E s) :
  OpR X f (rI0 λi j=>.bl (g i j)):=by
 intro pins s σ H x y v u Q I J U h;refine au h λi j z D q=>?_
 subst z;subst D;obtain⟨t,rfl⟩:=J;obtain⟨t',rfl⟩:=U;exact rule i j t t' s _ _ ⟨.bl _,H,I,rfl,q⟩
def Jv(i j:Int):Prop:=0<j/\j<1073741824
def Jw(i j:Int):Prop:=0<=j/\j<=1000000/\i.natAbs<2 ^ 64
def DX(i j:Int):Prop:=(-(2 ^ 64)<i/\i<2 ^ 64)\/(-(2 ^ 64)<j/\j<2 ^ 64)
theorem DX.ok(h:DX i j):IntMulOk i j:=by
 rcases h with⟨h1,h2⟩|⟨h1,h2⟩
 .exact .of_left (intBits_le_64 h1 h2)
 .exact .of_right (intBits_le_64 h1 h2)
def tf(k):(0:Int)<=2 ^ k:=
  Int.natCast_nonneg _
def DY:OpR X (binaryOp .Add) (rI0 λi j=>.int (i+j)):=GZ λ_ _ _ _ _ _ _ q=>add_int q
def DZ:OpR X (binaryOp .Sub) (rI0 λi j=>.int (i-j)):=GZ λ_ _ _ _ _ _ _ q=>sub_int q
def D_:OpR X (binaryOp .Mult) (rI DX λi j=>.int (i*j)):=opI λ_ _ _ _ _ _ _ hc q=>mul_int q hc.ok
def A5:OpR X (binaryOp .FloorDiv) (rI Jv λi j=>.int (i / j)):=opI λi j _ _ _ _ _ hc q=>by
 have h1:=hc.1;have h2:=hc.2;exact floordiv_int (Int.ne_of_gt ‹_›) (by rw[Mv i (MN ‹_›)];exact q) (.inl (PyProof.noPylong_small (by omega)))
def Ea:OpR X (binaryOp .Mod) (rI (λ_ j=>0<j) λi j=>.int (i % j)):=opI λi j _ _ _ _ _ hc q=>by
 exact mod_int' (Int.ne_of_gt ‹_›) (by rw[Int.fmod_eq_emod_of_nonneg i (MN ‹_›)];exact q)
def Ec:OpR X (binaryOp .Pow) (rI Jw λi j=>.int (i ^ j.toNat)):=opI λ_ _ _ _ _ _ _ hc q=>pow_int_small hc.1 hc.2.1 hc.2.2 q
def Ed:OpR X (binaryOp .RShift) (rI (λ_ j=>0<=j) λi j=>.int (i / 2 ^ j.toNat)):=opI λi j _ _ _ _ _ hc q =>
 rshift_int hc (by rw[Mv i (tf _)];exact q)
end
noncomputable def scal:V->V->Bool
 | .non,.non=>true|.non,.int _=>true|.int _,.non=>true|.non,.bl _=>true|.bl _,.non=>true|.non,.str _=>true|.str _,.non=>true
 | .int _,.int _=>true|.bl _,.bl _=>true|.str _,.str _=>true|.byt _,.byt _=>true
 | .int _,.str _=>true|.str _,.int _=>true|.bl _,.str _=>true|.str _,.bl _=>true
 | _,_=>false
noncomputable def rNe:R2:=λx y H Q=>scal x y=true/\Q (.bl (!decide (x=y))) H
def uW :decide (V.int i=V.int j)=(i==j):=by
 rw[KR];simp
def xR :decide (V.bl i=V.bl j)=(i==j):=by
 rw[KR];simp
def uX :decide (V.str i=V.str j)=(i==j):=by
 rw[KR];simp
def A6 :decide (V.byt i=V.byt j)=(i.toList==j.toList):=by
 rw[KR];cases i;cases j;simp
section
variable{X:Cx}{a b c:Expr}{ta tb tc:TE}{pos:Pos}
def cy{σ:St}{H:Hp}{s:Shared}{Q:VK}{k z:Bool}(I:Inv X pins σ H s)(q:Q (.bl k) H)(e:k=z):EP X pins σ Q (.bool z) s:=by
 subst e;exact⟨.bl k,H,I,rfl,q⟩
def G0:OpR X (compareOp .NotEq) rNe:=by
 intro pins s σ H x y v u Q I J z h;obtain⟨D,q⟩:=h;cases x with
 |non =>
  cases J;cases y with
  |non=>cases z;exact PySem.EqNone.ne_none_none (cy I q (by simp))
  |bl j=>cases z;exact PySem.EqNone.ne_none_bool (cy I q (by simp))
  |int j=>obtain⟨t',rfl⟩:=z;exact PySem.EqNone.ne_none_int (cy I q (by simp))
  |str j=>obtain⟨t',rfl⟩:=z;exact PySem.EqNone.ne_none_str (cy I q (by simp))
  | _=>exact absurd (show false=true from D) oe
 |bl i =>
  cases J;cases y with
  |non=>cases z;exact PySem.EqNone.ne_bool_none (cy I q (by simp))
  |bl j=>cases z;exact ne_bool (cy I q (La not xR))
  |str j=>obtain⟨t',rfl⟩:=z;exact PySem.EqMixed.ne_bool_str (cy I q (by simp))
  | _=>exact absurd (show false=true from D) oe
 |int i =>
  obtain⟨t,rfl⟩:=J;cases y with
  |non=>cases z;exact PySem.EqNone.ne_int_none (cy I q rfl)
  |int j=>obtain⟨t',rfl⟩:=z;exact ne_int (cy I q (La not uW))
  |str j=>obtain⟨t',rfl⟩:=z;exact PySem.EqMixed.ne_int_str (cy I q rfl)
  | _=>exact absurd (show false=true from D) oe
 |str i =>
  obtain⟨t,rfl⟩:=J;cases y with
  |non=>cases z;exact PySem.EqNone.ne_str_none (cy I q rfl)
  |bl j=>cases z;exact PySem.EqMixed.ne_str_bool (cy I q rfl)
  |int j=>obtain⟨t',rfl⟩:=z;exact PySem.EqMixed.ne_str_int (cy I q rfl)
  |str j=>obtain⟨t',rfl⟩:=z;exact ne_str (cy I q (La not uX))
  | _=>exact absurd (show false=true from D) oe
 |byt i =>
  obtain⟨t,rfl⟩:=J;cases y with
  |byt j=>obtain⟨t',rfl⟩:=z;exact PySem.W.ne_bytes (cy I q (La not A6))
  | _=>exact absurd (show false=true from D) oe
 | _=>cases y<;>exact absurd (show false=true from D) oe
def G1:OpR X (compareOp .Lt) (rI0 λi j=>.bl (decide (i<j))):=A4 λ_ _ _ _ _ _ _ q=>lt_int q
def G2:OpR X (compareOp .LtE) (rI0 λi j=>.bl (decide (i<=j))):=A4 λ_ _ _ _ _ _ _ q=>le_int q
def G3:OpR X (compareOp .Gt) (rI0 λi j=>.bl (decide (j<i))):=A4 λ_ _ _ _ _ _ _ q=>gt_int q
def G4:OpR X (compareOp .GtE) (rI0 λi j=>.bl (decide (j<=i))):=A4 λ_ _ _ _ _ _ _ q=>ge_int q
def Ee:OpR X (compareOp .Is) (λx y H Q=>y=.non/\Q (.bl (decide (x=.non))) H):=by
 intro pins s σ H x y v u Q I z D h;obtain⟨rfl,q⟩:=h;subst D;refine is_none_gen (cy I q ?_);cases x<;>first
  | (subst z;rfl)
  | (obtain⟨t,rfl⟩:=z;rfl)
def A7:OpR X (compareOp .IsNot) (λx y H Q=>y=.non/\Q (.bl (!decide (x=.non))) H):=by
 intro pins s σ H x y v u Q I z D h;obtain⟨rfl,q⟩:=h;subst D;refine isnot_none_gen (cy I q ?_);cases x<;>first
  | (subst z;rfl)
  | (obtain⟨t,rfl⟩:=z;rfl)
def uY(ho:OpR X (compareOp op) r)(ha:PE X a ta)(z:PE X b tb)(hm:behindInMarks op b=false):PE X (.Compare a [op] [b] pos) (tOp r ta tb):=by
 intro pins s σ H Q I h;exact wpAny_Compare1 (DW ha z I h λv u s2 x y H2 D J U q=>ho pins s2 σ H2 x y v u Q D J U q) hm
noncomputable def CY(t:TE):TT:=λσ H Q=>t σ H λx H'=>∃k,x=.bl k/\Q k H'
def mG(ho:OpR X (compareOp op) r)(ha:PE X a ta)(q:PE X b tb)(hm:behindInMarks op b=false):PT X (.Compare a [op] [b] pos) (CY (tOp r ta tb)):=by
 intro pins s σ H Q I h;refine wpAny_isTrue_Compare1 (thn (ha pins s σ H _ I h) λv s1 D=>au D λx H1 J U q1=>thn (q pins s1 σ H1 _ J q1) λu s2 ⟨y,H2,Y,Z,q2⟩ =>
  thn (ho pins s2 σ H2 x y v u _ Y U Z q2) λc s3 ⟨z,H3,I3,r3,k,e,q3⟩=>?_) hm
 subst e;subst r3;exact Kv ⟨H3,I3,q3⟩
noncomputable def xS(r D:R2)(ta tb tc:TE):TE:=λσ H Q=>ta σ H λx H1=>tb σ H1 λy H2=>r x y H2 λz q=>∃k,z=.bl k /\
 (if k=true then tc σ q λw' J=>D y w' J Q else Q (.bl false) q)
def xT(ho:OpR X (compareOp op) r)(D:OpR X (compareOp q) r')(ha:PE X a ta)(hb:PE X b tb)(hc:PE X c tc)
  (hm:lastMarks [op,q] [b,c]=false:=by with_unfolding_all rfl):PE X (.Compare a [op,q] [b,c] pos) (xS r r' ta tb tc):=by
 intro pins s σ H Q I h;refine Compare_chain (thn (ha pins s σ H _ I h) λv s1 J=>au J λx H1 I1 r1 q1=>chain_link (thn (hb pins s1 σ H1 _ I1 q1) λu s2 ⟨y,H2,I2,U,q2⟩ =>
  thn (ho pins s2 σ H2 x y v u _ I2 r1 U q2) λd s3 ⟨z,Y,Z,r3,k,e,q3⟩=>?_)) hm
 subst e;subst r3;refine Kv ?_;cases k with
 |false=>exact ite_ff ⟨.bl false,Y,Z,rfl,q3⟩
 |true=>exact ite_tt (chain_last (thn (hc pins s3 σ Y _ Z q3) λw' s4 J=>au J λz' H4 I4 r4 q4=>D pins s4 σ H4 y z' u w' Q I4 U r4 q4))
def xU(ho:OpR X (compareOp op) r)(D:OpR X (compareOp q) Z)(ha:PE X a ta)(hb:PE X b tb)(hc:PE X c tc)
  (hm:lastMarks [op,q] [b,c]=false:=by with_unfolding_all rfl):PT X (.Compare a [op,q] [b,c] pos) (CY (xS r Z ta tb tc)):=by
 intro pins s σ H Q I h;refine isTrue_chain (thn (ha pins s σ H _ I h) λv s1 hq=>au hq λx H1 I1 r1 q1=>test_link (thn (hb pins s1 σ H1 _ I1 q1) λu s2 ⟨y,H2,I2,J,q2⟩ =>
  thn (ho pins s2 σ H2 x y v u _ I2 r1 J q2) λd s3 ⟨z,U,Y,r3,k,e,q3⟩=>?_)) hm
 subst e;subst r3;refine Kv ?_;cases k with
 |false =>
  refine ae q3 λk' e' q'=>?_
  cases e';exact ite_ff ⟨U,Y,q'⟩
 |true =>
  refine ite_tt (test_last (thn (hc pins s3 σ U _ Y q3) λw' s4 ⟨z',H4,I4,r4,q4⟩=>thn (D pins s4 σ H4 y z' u w' _ I4 J r4 q4) λd' s5 ⟨z2,H5,I5,r5,k2,e2,q5⟩=>?_));subst e2;subst r5;exact Kv ⟨H5,I5,q5⟩
def k4:(sizeLine:Nat)<2 ^ 63:=by simp_all [KG]
def ti:OpR X (binaryOp .Add) (λx y H Q=>∃i j,x=.str i/\y=.str j/\i.length+j.length<=sizeLine/\Q (.str (i++j)) H):=by
 intro pins s σ H x y v u Q I J U h;refine ij h λi j z D hz q=>?_
 subst z;subst D;obtain⟨t,rfl⟩:=J;obtain⟨t',rfl⟩:=U;exact add_str (λt' tk=>⟨.str _,H,I.tok _,⟨_,rfl⟩,q⟩) hz
def ik(r:aJ [x] us):∃u,us=[u]/\aI x u:=by
 cases r with
 |cons q z=>cases z;exact⟨_,rfl,q⟩
def xV(r:aJ [x,y] us):∃u w',us=[u,w']/\aI x u/\aI y w':=by
 cases r with
 |cons q z =>
  cases z with
  |cons D J=>cases J;exact⟨_,_,rfl,q,D⟩
def wd (hc:X.calm=true):ce X (.builtin "max") (λxs H Q=>∃i j,xs=[.int i,.int j]/\Q (.int (if j > i then j else i)) H):=by
 intro pins s σ H xs us Q I r h;obtain⟨i,j,rfl,q⟩:=h;obtain⟨u,w',rfl,⟨t,rfl⟩,⟨t',rfl⟩⟩:=xV r;refine max_two_ints (I.ok.hd hc) λh' tk k=>⟨_,H,I.kept k,?_,q⟩
 by_cases z:j > i
 .rw[if_pos z,if_pos z];exact⟨_,rfl⟩
 .rw[if_neg z,if_neg z];exact⟨_,rfl⟩
def we (hc:X.calm=true):ce X (.builtin "min") (λxs H Q=>∃i j,xs=[.int i,.int j]/\Q (.int (if j<i then j else i)) H):=by
 intro pins s σ H xs us Q I r h;obtain⟨i,j,rfl,q⟩:=h;obtain⟨u,w',rfl,⟨t,rfl⟩,⟨t',rfl⟩⟩:=xV r;refine min_two_ints (I.ok.hd hc) λh' tk k=>⟨_,H,I.kept k,?_,q⟩
 by_cases z:j<i
 .rw[if_pos z,if_pos z];exact⟨_,rfl⟩
 .rw[if_neg z,if_neg z];exact⟨_,rfl⟩
def o5:ce X (.type "int") (λxs H Q=>(∃i,xs=[.int i]/\Q (.int i) H)\/∃k,xs=[.bl k]/\Q (.int (if k then 1 else 0)) H):=by
 intro pins s σ H xs us Q I r h;rcases h with⟨i,rfl,q⟩|⟨k,rfl,q⟩
 .obtain⟨u,rfl,t,rfl⟩:=ik r;exact call_int_int ⟨.int i,H,I,⟨_,rfl⟩,q⟩
 .obtain⟨u,rfl,z⟩:=ik r;subst z;exact call_int_bool ⟨.int _,H,I.tok _,⟨_,rfl⟩,q⟩
end
structure tj(h:Heap)(x dx C:Addr)(mA:Str->Option Value):Prop where
 obj:h.get? x=some (PySem.W.instObj C dx)
 ns:h.Ns1 dx mA
 ne:dx≠x
def wf{h:Heap}(n:h.Ns1 dx mA):∃J,h.get? dx=some J/\∀name,PySem.W.lookIn name J=some (mA name):=by
 refine oZ n λo es ep ho hd U _ hm=>?_
 refine⟨o,ho,λname=>?_⟩;have e:=hm name;unfold nsFind findBy at e;rw[<- Array.find?_toList]at e;unfold PySem.W.lookIn;rw[hd];dsimp only;split
 .rename_i y q;rw[q]at e;exact La some e
 .rename_i q;rw[q]at e;have a:es.toList.any (·.refKey)=false:=by
   rw[MB];intro y Y;refine mV (U y (Array.mem_toList_iff.mp Y)) λz t D=>?_
   simp[DictEntry.refKey,D]
  have Z:¬ es.toList.any (·.refKey)=true:=by rw[a];exact oe
  rw[if_neg Z];exact La some e
def tj.look(I:tj h x dx C mA):∃q,PySem.W.InstAt h x (PySem.W.instObj C dx) C (some q)/\∀name,PySem.W.lookIn name q=some (mA name):=
 let ⟨q,ho,z⟩:=wf I.ns
 ⟨q,⟨I.obj,rfl,rfl,ho⟩,z⟩
section
variable{prog:Program}{w:World}{A:Around}{E:Value->Shared->Prop}{s:Shared}{K:M5}{x dx C f:Addr}{mA:Str->Option Value}{name:Str}{v:Value}
def A8{Q:Value->Shared->Prop}(X:K.In s.heap)(I:tj s.heap x dx C mA)(z:PySem.W.plainGet K C name=true)(D:PySem.W.hasDictIn K C=true)
  (ha:PySem.W.findIn K (.ref C) name=some none) (U:mA name=some v) (q:PySem.W.handedIn v=true) (h:Q v { s with toks:=s.toks+1 }) :
  wpAny (model prog w) A (getAttr (.ref x) name expr) Q E s:=by
 refine ae I.look λZ J Y=>?_
 exact PySem.W.get_value X J (PySem.W.plainGet_of z).1 (PySem.W.findObj_own D ha rfl (by rw[Y,U])) q h
def xW{Q:Value×List Value->Shared->Prop}(X:K.In s.heap)(I:tj s.heap x dx C mA)(q:PySem.W.plainGet K C name=true)
  (z:PySem.W.findIn K (.ref C) name=some (some (.ref f))) (ht:PySem.W.isFn K (.ref f)=true) (D:mA name=none) (h:Q (.ref f,[.ref x]) s) :
  wpAny (model prog w) A (getMethod (.ref x) name pl) Q E s:=by
 refine ae I.look λU J Y=>?_
 exact PySem.W.method_fn X J (PySem.W.plainGet_of q).1 (PySem.W.plainGet_of q).2 z (J7.mp ht) (by show(PySem.W.lookIn name U).map (·.isSome)=some false;rw[Y,D];rfl) h
def A9(X:K.In s.heap)(I:tj s.heap x dx C mA)
  (hs:PySem.W.findIn K (.ref C) "__setattr__"=some (some (.builtin "object.__setattr__"))) (hp:PySem.W.plainOver K C=true) (ht:PySem.W.takerIn K C name=some none) (hh:PySem.W.hasDictIn K C=true)
  (hw:PySem.Within mA ns) (a0:ns.length<=sizeLine)
  (h:∀h',tj h' x dx C (λy=>if y=name then some v else mA y)->Heap.SameBut dx s.heap h'->Q () { s with heap:=h',toks:=s.toks+2 }) :
  wpAny (model prog w) A (setAttr (.ref x) name v) Q E s:=by
 refine ae I.look λod J hl=>?_
 refine PySem.W.set_plain X J hs (PySem.W.osa_open (s:={ s with toks:=s.toks+1 }) (r:=none) X J hp ht λb=>?_);refine ae (PySem.W.any_some hh) λcd hc D=>?_
 have hx:=I.obj;refine kn (mu (kn (kn (wpAny_loadPart hx (kn (PySem.W.Looks.here (s:={ s with toks:=s.toks+1 }) (PySem.W.looks_clsIn X hc) ?_))))));rw[D];refine mu (a:=some dx) (kn (mu (kn ?_)));refine wpAny_nsSet1 (s:={ s with toks:=s.toks+1 }) I.ns λh' q z=>?_
 refine uS (q.count (PySem.Within.cons name v hw)) λoD a1 a2 U Y Z=>?_
 refine kn (wpAny_lookBehind U (by rw[Y];exact pastItsLine_dict (xb Z (by rw[length_cons];exact(MC ‹_›)))) ?_);exact mu (h _ ⟨(z.2 _ (KD I.ne)).trans I.obj,q,I.ne⟩ z)
def xX(X:K.In s.heap)(hm:PySem.W.makesIn K C=true)
  (hi:PySem.W.findIn K (.ref C) "__init__"=some (some (.ref f))) (q:PySem.W.typeIn K (.ref f)=some (.type "function"))
  (h:codeAny (model prog w) (A.under (.builtin "type.__call__" ⟨.ref C::vs,kw⟩)) (.call (.ref f) ⟨.ref (s.heap.objs.size+1)::vs,kw⟩) (PySem.W.InitBack (s.heap.objs.size+1) R)
   { s with heap:=(s.heap.push PySem.W.emptyDict).push (PySem.W.instObj C s.heap.objs.size) }) :
  codeAny (model prog w) A (.call (.ref C) ⟨vs,kw⟩) R s:=by
 obtain⟨z,g,d,t,os⟩:=s;exact PySem.W.make_core (PySem.W.makes_of X hm) (PySem.W.looks_findIn X hi) (λself=>PySem.W.bind_fn X self q) (.inl rfl) h
end
noncomputable def b9(f:Str)(v:V):List (Str×V)->List (Str×V)
 | []=>[(f,v)]
 | (g,x)::r=>if g=f then(g,v)::r else(g,x)::b9 f v r
theorem aU(f g)(v):∀fs,(b9 f v fs).lookup g=if g=f then some v else fs.lookup g
 | []=>by
  show List.lookup g [(f,v)]=_;by_cases h:g=f
  .have q:=J7.mpr h;simp only[List.lookup,q,if_pos h]
  .have q:=Ku.mpr h;simp only[List.lookup,q,if_neg h]
 | (k,x)::r=>by
  have ih:=aU f g v r;rw[show b9 f v ((k,x)::r)=(if k=f then(k,v)::r else(k,x)::b9 f v r)from rfl];by_cases z:k=f
  .rw[if_pos z];by_cases h:g=k
   .have q:=J7.mpr h;simp only[List.lookup,q,if_pos (h.trans z)]
   .have q:=Ku.mpr h;simp only[List.lookup,q,if_neg (λe:g=f=>h (e.trans z.symm))]
  .rw[if_neg z];by_cases h:g=k
   .have q:=J7.mpr h;simp only[List.lookup,q,if_neg (λe:g=f=>z (h.symm.trans e))]
   .have q:=Ku.mpr h;simp only[List.lookup,q];exact ih
theorem k5(f)(v):∀fs,f∈(b9 f v fs).map (·.1)/\∀g,g∈fs.map (·.1)->g∈(b9 f v fs).map (·.1)
 | []=>⟨by simp[b9],λg h=>by simp at h⟩
 | (k,x)::r=>by
  obtain⟨z,D⟩:=k5 f v r;rw[show b9 f v ((k,x)::r)=(if k=f then(k,v)::r else(k,x)::b9 f v r)from rfl];by_cases q:k=f
  .rw[if_pos q];subst q;exact⟨by simp,λg h=>by exact h⟩
  .rw[if_neg q];refine⟨?_,λg h=>?_⟩
   .rw[J8];exact Kk _ z
   .rw[J8]at h ⊢;rcases pe.mp h with e|e
    .exact pe.mpr (.inl e)
    .exact Kk _ (D g e)
theorem lY(f)(v):∀fs,(b9 f v fs).length<=fs.length+1
 | []=>by simp[b9]
 | (k,x)::r=>by
  have ih:=lY f v r;rw[show b9 f v ((k,x)::r)=(if k=f then(k,v)::r else(k,x)::b9 f v r)from rfl];by_cases q:k=f
  .rw[if_pos q,length_cons,length_cons];exact(KW _ _)
  .simp_all
def iq.some_of(r:iq (some v) o):∃u,o=some u/\aI v u:=by
 cases o with
 |none=>exact(show False from r).elim
 |some u=>exact⟨u,rfl,r⟩
def iq.none_of(r:iq none o):o=none:=by
 cases o<;>first|rfl|exact(show False from r).elim
def wg(r:aI v u):PySem.W.handedIn u=true:=by
 cases v with
 |non=>cases (show u=Value.none from r);rfl
 |bl b=>cases (show u=Value.bool b from r);rfl
 |int i=>obtain⟨t,e⟩:=(show ∃t,u=Value.int i t from r);subst e;rfl
 |str x=>obtain⟨t,e⟩:=(show ∃t,u=Value.str x t from r);subst e;rfl
 |byt b=>obtain⟨t,e⟩:=(show ∃t,u=Value.bytes b t from r);subst e;rfl
 |flt b=>obtain⟨t,e⟩:=(show ∃t,u=Value.float b t from r);subst e;rfl
 |ref a=>cases (show u=Value.ref a from r);rfl
 |ty n=>cases (show u=Value.type n from r);rfl
section
variable{P:Program}{w:World}{H H':Hp}{h h':Heap}{a C dx:Addr}{fs fs':List (Str×V)}
def mH(hok:HOk P w H h)(e:H a=some (.ins C dx fs)):∃mA,tj h a dx C mA/\(∀f,iq (fs.lookup f) (mA f))/\PySem.Within mA (fs.map (·.1))/\fs.length<=1000/\H dx=some (.own a):=by
 refine bN λJ D=>?_
 obtain⟨d,z,ne,ob,mA,n,r,q⟩:=(show bH P w H h a _ from hok a _ e);refine D ?_;exact⟨mA,⟨ob,n,ne⟩,r,q,z,d⟩
end
structure Cls(K:M5)(C:Addr):Prop where
 pg:PySem.W.plainGet K C Str.empty=true
 hd:PySem.W.hasDictIn K C=true
 po:PySem.W.plainOver K C=true
 sa:PySem.W.findIn K (.ref C) "__setattr__"=some (some (.builtin "object.__setattr__"))
theorem Cls.get{K:M5}(c:Cls K C)(f):PySem.W.plainGet K C f=true:=c.pg
def cq(K:M5)(C:Addr)(f:Str):Prop:=PySem.W.findIn K (.ref C) f=some none
def cq.taker{K:M5}(n:cq K C f):PySem.W.takerIn K C f=some none:=by
 unfold PySem.W.takerIn;rw[show PySem.W.findIn K _ f=some none from n]
 rfl
structure jb(K:M5)(C:Addr)(m:Str)(f:Addr):Prop where
 at_:PySem.W.findIn K (.ref C) m=some (some (.ref f))
 fn:PySem.W.isFn K (.ref f)=true
 kp:PySem.W.keepIn K (.ref f)=true
section
variable{X:Cx}{pins:List (Addr×Obj)}{σ:St}{H:Hp}{s:Shared}{a C dx:Addr}{fs:List (Str×V)}{f:Str}{v:V}{A:Around}{E:Value->Shared->Prop}
def tm(I:Inv X pins σ H s)(e:H a=some (.ins C dx fs))(c:Cls X.K C)(n:cq X.K C f)(l:fs.lookup f=some v)
  (h:∀u s',Inv X pins σ H s'->aI v u->Q u s'):wpAny (model X.prog X.w) A (getAttr (.ref a) f b) Q E s:=by
 refine oY (mH I.hok e) λmA O r _ _ _=>?_
 obtain⟨u,z,q⟩:=iq.some_of (v:=v) (o:=mA f) (by rw[<- l];exact r f);exact A8 I.kIn O (c.get f) c.hd n z (wg q) (h u _ (I.tok _) q)
def m6{Q:Value×List Value->Shared->Prop}(I:Inv X pins σ H s)(e:H a=some (.ins C dx fs))(c:Cls X.K C)(k:jb X.K C m g)(l:fs.lookup m=none)
  (h:Q (.ref g,[.ref a]) s):wpAny (model X.prog X.w) A (getMethod (.ref a) m pl) Q E s:=by
 refine oY (mH I.hok e) λmA O r _ _ _=>?_
 have hn:mA m=none:=iq.none_of (by rw[<- l];exact r m);exact xW I.kIn O (c.get m) k.at_ k.fn hn h
def tq(I:Inv X pins σ H s)(e:H a=some (.ins C dx fs))(c:Cls X.K C)(n:cq X.K C f)(hl:fs.length<1000)(D:aI y u)
  (h:∀s',Inv X pins σ (upd H a (.ins C dx (b9 f y fs))) s'->Q () s'):wpAny (model X.prog X.w) A (setAttr (.ref a) f u) Q E s:=by
 refine oY (mH I.hok e) λmA O r wi _ ho=>?_
 have hz:(fs.map (·.1)).length<=sizeLine:=by rw[sm,KG];omega
 refine A9 I.kIn O c.sa c.po n.taker c.hd wi hz λh' O' J=>h _ ?_
 have hd:∃o,h'.get? dx=some o:=let ⟨o,_,_,U,_⟩:=O'.ns;⟨o,U⟩
 refine I.write (x:=a) (e:=dx) (by rw[e];exact True.intro) (.inr ho) (λb q Y z=>(J.2 b Y).trans z) hd ?_;refine⟨by rw[az O.ne];exact ho,?_,O.ne,O'.obj,_,O'.ns,λg=>?_,λg Z=>?_⟩
 .have:=lY f y fs;exact(xb ‹_› ‹_›)
 .show iq ((b9 f y fs).lookup g) (if g=f then some u else mA g);rw[aU];by_cases q:g=f
  .rw[if_pos q,if_pos q];exact D
  .rw[if_neg q,if_neg q];exact r g
 .by_cases q:g=f
  .rw[q];exact(k5 f y fs).1
  .refine(k5 f y fs).2 g (wi g λz=>Z ?_);show(if g=f then some u else mA g)=none;rw[if_neg q];exact z
theorem Inv.made(I:Inv X pins σ H s):Inv X pins σ (upd (upd H s.heap.objs.size (.own (s.heap.objs.size+1))) (s.heap.objs.size+1) (.ins C s.heap.objs.size []))
  { s with heap:=(s.heap.push PySem.W.emptyDict).push (PySem.W.instObj C s.heap.objs.size) }:=by
 have z:(s.heap.push PySem.W.emptyDict).get? s.heap.objs.size=some PySem.W.emptyDict:=tu s.heap rfl;have D:((s.heap.push PySem.W.emptyDict).push (PySem.W.instObj C s.heap.objs.size)).get? (s.heap.objs.size+1)=some (PySem.W.instObj C s.heap.objs.size):=by
  have:=tu (s.heap.push PySem.W.emptyDict) (o:=PySem.W.instObj C s.heap.objs.size) rfl;rwa[Kg]at this
 have J:(s.heap.push PySem.W.emptyDict).Ns s.heap.objs.size (λ_=>none):=⟨PySem.W.emptyDict,#[],_,z,rfl,(λe U=>absurd U (by simp)),λ_=>rfl⟩;have Y:=I.laid (a:=s.heap.objs.size) (o:=.own (s.heap.objs.size+1)) (h':=s.heap.push PySem.W.emptyDict) (t':=s.toks) (λb u q=>mn _ q) (pb _) ⟨_,z⟩;refine Y.laid (a:=s.heap.objs.size+1) (o:=.ins C s.heap.objs.size []) (t':=s.toks) (λb u q=>mn _ q) (Lb (Kg _ _)) ?_;have ne:s.heap.objs.size≠s.heap.objs.size+1:=x1 (K5 _);refine⟨by rw[az ne,aA],Ki _,ne,D,λ_=>none,(Heap.Ns1.of_empty J).at λo q=>mn _ q,λ_=>True.intro,λy Z=>absurd rfl Z⟩
def A_(z:attributeBase e f env (eval e env)=eval e env)
  (h:wpAny (model prog w) A (eval e env) (λo q=>wpAny (model prog w) A (getAttr o f true) Q E q) E s):wpAny (model prog w) A (eval (.Attribute e f pos) env) Q E s:=
 Attribute_any_ h (by rw[arm_eval_Attribute,z])
end
noncomputable def Ef(K:M5)(ta:TE)(f:Str):TE:=λσ H Q=>ta σ H λx H1=>∃a C dx fs v,x=.ref a/\H1 a=some (.ins C dx fs)/\Cls K C/\cq K C f/\fs.lookup f=some v/\Q v H1
noncomputable def Jx(K:M5)(ta tv:TE)(f:Str):TS:=λD σ H=>tv σ H λy H1=>ta σ H1 λx H2=>∃a C dx fs,x=.ref a/\H2 a=some (.ins C dx fs)/\Cls K C/\cq K C f/\fs.length<1000 /\
 D.nx σ (upd H2 a (.ins C dx (b9 f y fs)))
section
variable{X:Cx}{o e value:Expr}{f:Str}{pos pos' tpos:Pos}{ta tv:TE}
def pZ(z:PE X e ta)(D:attributeBase e f X.env (eval e X.env)=eval e X.env):PE X (.Attribute e f pos) (Ef X.K ta f):=by
 intro pins s σ H Q I h;refine A_ D (thn (z pins s σ H _ I h) λu s1 ⟨x,H1,J,U,a,C,dx,fs,v,ex,Y,c,n,l,q⟩=>?_);subst ex;obtain rfl:u=Value.ref a:=U;exact tm J Y c n l λu' s2 Z ru=>⟨v,H1,Z,ru,q⟩
def gY(ha:PE X o ta)(z:PE X value tv)(J:swapsWith value (some (.Attribute o f pos')) pos.line X.env=pure false):PS X (.Assign [.Attribute o f pos'] value pos) (Jx X.K ta tv f):=by
 intro pins s σ H D I h;refine plainObj_wpAny_Assign_Attribute (thn (z pins s σ H _ I h) λu s1 U=>au U λy H1 Y Z q=>thn (ha pins s1 σ H1 _ Y q) λov s2 ⟨x,H2,I2,rx,a,C,dx,fs,ex,ea,c,n,l,q2⟩=>?_) J;subst ex;obtain rfl:ov=Value.ref a:=rx;exact tq I2 ea c n l Z λs3 I3=>⟨σ,_,I3,q2⟩
end
section
variable{X:Cx}{pins:List (Addr×Obj)}{σ:St}{H:Hp}{s:Shared}{A:Around}{E:Value->Shared->Prop}{Q:Value->Shared->Prop}{c:Value}{b:Bool}
inductive jT(K:M5)(H:Hp):V->Value->Prop where
 | non:jT K H .non (.type "NoneType")
 | bl (x:Bool):jT K H (.bl x) (.type "bool")
 | int (i:Int):jT K H (.int i) (.type "int")
 | str (x:Str):jT K H (.str x) (.type "str")
 | flt (x:UInt64):jT K H (.flt x) (.type "float")
 | lst {a:Addr}{xs:List V} (e:H a=some (.lst xs)):jT K H (.ref a) (.type "list")
 | frz {a:Addr}{o:Obj}{xs:List V} (e:H a=some (.frz o (.lst xs))):jT K H (.ref a) (.type "list")
 | tup {a:Addr}{xs:List V} (e:H a=some (.tup xs)):jT K H (.ref a) (.type "tuple")
 | dK {a:Addr}{kvs:List (Key×V)} (e:H a=some (.dK kvs)):jT K H (.ref a) (.type "dict")
 | dT {a:Addr}{kvs:List (List Key×V)} (e:H a=some (.dT kvs)):jT K H (.ref a) (.type "dict")
 | ins {a C dx:Addr}{fs:List (Str×V)} (e:H a=some (.ins C dx fs)) (cl:Cls K C) (ha:PySem.W.findIn K (.ref C) "__class__"=some (some (.builtin "object.__class__")))
   (hn:PySem.W.specialIn K (.builtin "object.__class__") "__get__"=some (some (.builtin "getset_descriptor.__get__"))) (htk:PySem.W.takesIn K (.builtin "object.__class__")=some true)
   (hm:PySem.W.mroIn K C (.type "object")=some true):jT K H (.ref a) (.ref C)
def wj{x:V}{u t:Value}(I:Inv X pins σ H s)(D:aI x u)(ty:jT X.K H x t)(e:PySem.W.kitOne X.K t c=some b)(h:∀tk,Q (.bool b) { s with toks:=tk }) :
  wpAny (model X.prog X.w) A (call (.builtin "isinstance") [u,c]) Q E s:=by
 cases ty with
 |non=>cases (show u=Value.none from D);exact PySem.W.kia_one PySem.W.kitx_none I.kIn True.intro e (λz=>nomatch z) h
 |bl y=>cases (show u=Value.bool y from D);exact PySem.W.kia_one PySem.W.kitx_bool I.kIn True.intro e (λz=>nomatch z) h
 |int i=>obtain⟨t,q⟩:=(show ∃t,u=Value.int i t from D);cases q;exact PySem.W.kia_one PySem.W.kitx_int I.kIn True.intro e (λz=>nomatch z) h
 |str y=>obtain⟨t,q⟩:=(show ∃t,u=Value.str y t from D);cases q;exact PySem.W.kia_one PySem.W.kitx_str I.kIn True.intro e (λz=>nomatch z) h
 |flt y=>obtain⟨t,q⟩:=(show ∃t,u=Value.float y t from D);cases q;exact PySem.W.kia_one PySem.W.kitx_float I.kIn True.intro e (λz=>nomatch z) h
 | @lst a xs U =>
  cases (show u=Value.ref a from D);obtain⟨_,_,n,_,h1⟩:=(show bH X.prog X.w H s.heap a (.lst xs)from I.hok a _ U);exact PySem.W.kia_one PySem.W.kitx_list I.kIn ⟨_,h1,rfl⟩ e (λz=>nomatch z) h
 | @frz a ob xs U =>
  cases (show u=Value.ref a from D);obtain⟨_,_,_,n,_,h1⟩:=(show bH X.prog X.w H s.heap a (.frz ob (.lst xs))from I.hok a _ U);exact PySem.W.kia_one PySem.W.kitx_list I.kIn ⟨_,h1,rfl⟩ e (λz=>nomatch z) h
 | @tup a xs U =>
  cases (show u=Value.ref a from D);obtain⟨_,_,_,p⟩:=(show bH X.prog X.w H s.heap a (.tup xs)from I.hok a _ U);obtain⟨o,h1,h2,_⟩:=p;exact PySem.W.kia_one PySem.W.kitx_tuple I.kIn ⟨o,h1,h2⟩ e (λz=>nomatch z) h
 | @dK a kvs U =>
  cases (show u=Value.ref a from D);obtain⟨_,_,vs,_,p⟩:=(show bH X.prog X.w H s.heap a (.dK kvs)from I.hok a _ U);obtain⟨o,es,ep,h1,h2,_⟩:=p;exact PySem.W.kia_one PySem.W.kitx_dict I.kIn ⟨o,h1,h2.1⟩ e (λz=>nomatch z) h
 | @dT a kvs U =>
  cases (show u=Value.ref a from D);obtain⟨_,_,xs,_,o,es,ep,h1,h2,_⟩:=(show bH X.prog X.w H s.heap a (.dT kvs)from I.hok a _ U);exact PySem.W.kia_one PySem.W.kitx_dict I.kIn ⟨o,h1,h2.1⟩ e (λz=>nomatch z) h
 | @ins a C dx fs U cl ha hn Y hm =>
  cases (show u=Value.ref a from D);obtain⟨mA,O,_⟩:=mH I.hok U;obtain⟨Z,J,_⟩:=O.look;exact PySem.W.kia_one (PySem.W.kitx_own (cl.get _) cl.hd ha hn Y hm) I.kIn J e (λz=>nomatch z) h
end
structure dA(k:Nat)(A:Around):Prop where
 hd:A.handled=none
 dp:A.depth+3*k+5<recursionLimit
 un:A.units+16*k+200<cLine
def dA.mono(r:dA k A)(h:j<=k):dA j A:=⟨r.hd,by have:=r.dp;omega,by have:=r.un;omega⟩
theorem dA.deeper(r:dA (k+1) A)(env):dA k (A.deeper env):=
 ⟨r.hd,by have:=r.dp;show A.depth+1+3*k+5<_;omega,by have:=r.un;show A.units+3+16*k+200<_;omega⟩
theorem tw {A:Around} :(A.under (.builtin "type.__call__" ⟨.ref C::us,kw⟩)).depth=A.depth+1:=rfl
def tz {A:Around}{C:Addr}{us:List Value}{kw:List (Str×Value)}:(A.under (.builtin "type.__call__" ⟨.ref C::us,kw⟩)).units=A.units+1:=rfl
def dA.make (r:dA (k+1) A) (C) (us) (kw):dA k (A.under (.builtin "type.__call__" ⟨.ref C::us,kw⟩)):=
 ⟨r.hd,by have:=r.dp;rw[tw];omega,by have:=r.un;rw[tz];omega⟩
theorem dA.depth(r:dA k A):A.depth<recursionLimit:=by have:=r.dp;omega
noncomputable def ir:TA:=λ_ H Q=>Q [] H
noncomputable def cZ(ta:TE)(q:TA):TA:=λσ H Q=>ta σ H λx H1=>q σ H1 λxs H2=>Q (x::xs) H2
section
variable{X:Cx}{e:Expr}{es:List Expr}{te:TE}{t:TA}{pos:Pos}
def bO:PA X [] ir:=λ_ _ _ _ H Q I h=>Calls.spliced_nil ⟨[],H,I,.nil,h⟩
def aH(ha:PE X e te)(z:PA X es t)(D:starEach (e::es) X.env=(false,eval e X.env)::starEach es X.env:=by rfl):PA X (e::es) (cZ te t):=by
 intro pos pins s σ H Q I h;rw[D];show wpAny _ _ (spliced ((false,eval e X.env)::backTo pos _)) _ _ s;refine Mq (thn (ha pins s σ H _ I h) λu s1 q=>au q λx H1 J U q1=>?_);exact thn (z pos pins s1 σ H1 _ J q1) λus s2 q=>au q λxs H2 Y Z q2=>⟨x::xs,H2,Y,.cons U Z,q2⟩
noncomputable def Jy(t:TA):TE:=λσ H Q=>t σ H λxs H1=>xs.length<=sizeLine/\∀p,H1 p=none->Q (.ref p) (upd H1 p (.tup xs))
noncomputable def Eg(t:TA):TE:=λσ H Q=>t σ H λxs H1=>xs.length<=sizeLine/\∀p,H1 p=none->Q (.ref p) (upd H1 p (.lst xs))
def Eh{U}(h:PA X es t):PE X (.Tuple es U pos) (Jy t):=by
 intro pins s σ H Q I D;refine wpAny_Tuple_spliced (thn (h pos pins s σ H _ I D) λus s1 D=>ij D λxs H1 J r z q=>⟨by rw[<- r.length];exact z,?_⟩);have Y:=J.hok.fresh (pb _);refine⟨.ref s1.heap.objs.size,upd H1 s1.heap.objs.size _,J.laid (λb u e=>mn _ e) (pb _) ?_,rfl,q _ Y⟩;exact⟨z,us,r,⟨_,tu _ rfl,rfl,_,rfl⟩⟩
def tD(h:PA X es t):PE X (.List es pos) (Eg t):=by
 intro pins s σ H Q I D;refine wpAny_List_spliced (thn (h pos pins s σ H _ I D) λus s1 D=>ij D λxs H1 J r z q=>⟨by rw[<- r.length];exact z,?_⟩);have U:=J.hok.fresh (pb _);refine⟨.ref s1.heap.objs.size,upd H1 s1.heap.objs.size _,J.laid (λb u e=>mn _ e) (pb _) ?_,rfl,q _ U⟩;exact⟨z,us,0,r,tu _ rfl⟩
end
noncomputable abbrev Sp:=List V->Hp->VK->XK->Prop
noncomputable abbrev CXT:=List Env->Hp->Shared->XK->Value->Shared->Prop
structure tG(P:Program)(w:World)(K:M5)(mg:Str->Option Value)(base:Heap)(A:Around)(outer:List Env)(s:Shared)(H:Hp):Prop where
 frames:A.frames=some outer
 mod:Mod K mg base
 bs:∀b o,base.get? b=some o->s.heap.get? b=some o/\H b=none
 bsz:base.objs.size<=s.heap.objs.size
 funs:s.heap.FunFrames base outer
 frf:∀b∈frs outer,H b=none
 hok:HOk P w H s.heap
 bare:AllBare s.gens
def CE(outer:List Env)(P:Program)(w:World)(H:Hp)(s:Shared)(Q:VK)(u:Value)(s':Shared):Prop:=
 ∃v H',s'.os=s.os/\AllBare s'.gens/\Un (frs outer) [] H H' s.heap s'.heap/\HOk P w H' s'.heap/\aI v u/\Q v H'
def CR(CX:CXT)(outer:List Env)(P:Program)(w:World)(H:Hp)(s:Shared)(Q:VK)(E:XK)(r:Result)(s':Shared):Prop:=
 match r with
 | .ok (.ret u)=>CE outer P w H s Q u s'
 | .ok _=>False
 | .error e=>CX outer H s E e s'
structure cT(P:Program)(w:World)(K:M5)(mg:Str->Option Value)(base:Heap)(CX:CXT)(k:Nat)(f:Addr)(fd:FuncData)(ps:List Str)(sp:Sp):Prop where
 len:∀vs H Q E,sp vs H Q E->vs.length=ps.length
 run:∀(A:Around) (outer:List Env) (s:Shared) (H:Hp) (args:Args) (us:List Value) (vs:List V) (Q:VK) (E:XK),dA k A->tG P w K mg base A outer s H->BindsTo s fd args (ps.zip us)->aJ vs us->sp vs H Q E ->
  codeAny (model P w) A (.call (.ref f) args) (CR CX outer P w H s Q E) s
def tG.make{K:M5}{outer:List Env}{s:Shared}{H:Hp}(e:tG P w K mg base A outer s H)(C:Addr)(us:List Value)(kw:List (Str×Value)) :
  tG P w K mg base (A.under (.builtin "type.__call__" ⟨.ref C::us,kw⟩)) outer s H:=⟨by first|exact e.frames|(simpa[Around.under,Code.envs,Code.isFrame,pushEnvs]using e.frames),e.mod,e.bs,e.bsz,e.funs,e.frf,e.hok,e.bare⟩
section
variable{X:Cx}{pins:List (Addr×Obj)}{σ:St}{H:Hp}{s s':Shared}
theorem Inv.env0(I:Inv X pins σ H s):tG X.prog X.w X.K X.mg X.base X.A X.stack s H:=
 ⟨I.ok.frames,I.ok.mod,I.bs,xb I.ok.bsz I.sz,I.stack,I.stkFree,I.hok,I.bare⟩
def Inv.after(I:Inv X pins σ H s)(h:CE X.stack X.prog X.w H s Q u s'):EP X pins σ Q u s':=by
 refine CV h λv H' os bare un hok r q=>?_
 obtain⟨J,g,d,t,D⟩:=s';obtain rfl:D=s.os:=os;exact⟨v,H',I.call un hok bare (λb z=>absurd z (by simp)),r,q⟩
end
noncomputable def rn(sp:Sp)(dvs:List V)(E:XK)(t:TA):TE:=λσ H Q=>t σ H λvs H1=>sp (vs++dvs) H1 Q E
noncomputable def jf(C:Addr)(m:Str)(sp:Sp)(dvs:List V)(E:XK)(ta:TE)(t:TA):TE:=λσ H Q=>ta σ H λx H1=>∃a dx fs,x=.ref a/\H1 a=some (.ins C dx fs)/\fs.lookup m=none /\
 t σ H1 λvs H2=>sp (x::(vs++dvs)) H2 Q E
noncomputable def CZ(C:Addr)(sp:Sp)(dvs:List V)(E:XK)(t:TA):TE:=λσ H Q=>t σ H λvs H1=>∀x dx,H1 x=none->H1 dx=none->dx≠x ->
 sp (.ref x::(vs++dvs)) (upd (upd H1 dx (.own x)) x (.ins C dx [])) (λv H2=>v=.non/\Q (.ref x) H2) E
def aW(K:M5)(fd:FuncData)(ps:List Str)(ds:List Value):Prop:=
 ∀(s:Shared) (us:List Value),K.In s.heap->(us++ds).length=ps.length->BindsTo s fd ⟨us,[]⟩ (ps.zip (us++ds))
theorem aW.all{K:M5}(h:∀us,us.length=ps.length->bindArgs fd ⟨us,[]⟩=pure (ps.zip us)):aW K fd ps []:=λs us _ q=>by
 rw[LG]at q ⊢;exact .of_eq (h us q)
def gZ(CX:CXT)(X:Cx)(E:XK):Prop:=∀pins (σ:St) H s e s',Inv X pins σ H s->CX X.stack H s E e s'->X.xe e s'
section
variable{X:Cx}{CX:CXT}{k:Nat}{f C:Addr}{fd:FuncData}{ps:List Str}{sp:Sp}{dvs:List V}{ds:List Value}{E:XK}{x m:Str}{p pos apos:Pos}{e o:Expr}{es:List Expr}{ta:TE}{t:TA}
def m7(F:cT X.prog X.w X.K X.mg X.base CX k f fd ps sp)(D:dA k X.A)(J:aW X.K fd ps ds)(hd:aJ dvs ds)(hx:gZ CX X E)
  (I:Inv X pins σ H s) (r:aJ vs us) (h:sp (vs++dvs) H Q E):wpAny (model X.prog X.w) X.A (call (.ref f) us) (EP X pins σ Q) X.xe s:=by
 have z:=r.append hd;have U:(us++ds).length=ps.length:=by rw[<- z.length];exact F.len _ _ _ _ h
 refine wpAny_call (Lq (F.run X.A X.stack s H ⟨us,[]⟩ (us++ds) (vs++dvs) Q E D I.env0 (J s us I.kIn U) z h) λr s' q=>?_);cases r with
 |error e=>exact hx pins σ H s e s' I q
 |ok Y =>
  cases Y with
  |ret u=>exact I.after q
  |next=>exact False.elim q
  |brk=>exact False.elim q
  |cont=>exact False.elim q
def p9(F:cT X.prog X.w X.K X.mg X.base CX k f fd ps sp)(U:dA k X.A)(Y:Gl X x)(hm:X.mg x=some (.ref f))(Z:PySem.W.keepIn X.K (.ref f)=true)(hb:aW X.K fd ps ds)(hd:aJ dvs ds)(hx:gZ CX X E)
  (ha:PA X (e::es) t) (z:(x==("__debug__":Str))=false:=by decide) (he:starEach (e::es) X.env=(false,eval e X.env)::starEach es X.env:=by rfl) (D:(backTo pos (starEach es X.env)).any (·.1)=false:=by rfl) :
  PE X (.Call (.Name x p) (e::es) [] pos) (rn sp dvs E t):=by
 intro pins s σ H Q I h;refine Lw (jR I Y hm ?_ z);refine PySem.W.callWith_K I.ok.mod.kin Z (thn (ha pos pins s σ H _ I h) λus s1 hq=>au hq λvs H1 J r q=>⟨J.kIn,?_⟩) he D;exact m7 F U hb hd hx J r q
def xY(F:cT X.prog X.w X.K X.mg X.base CX k f fd ps sp)(z:dA k X.A)(D:Gl X x)(hm:X.mg x=some (.ref f))(J:PySem.W.keepIn X.K (.ref f)=true)(U:aW X.K fd ps ds)(hd:aJ dvs ds)(hx:gZ CX X E)
  (q:(x==("__debug__":Str))=false:=by decide):PE X (.Call (.Name x p) [] [] pos) (rn sp dvs E ir):=by
 intro pins s σ H Q I h;refine Lw (jR I D hm ?_ q);exact PySem.W.callWith_K0 I.kIn J (m7 (us:=[]) F z U hd hx I .nil h)
def g5{pl:Sem Bool}(Z:PE X o ta)(c:Cls X.K C)(hm:jb X.K C m f)(F:cT X.prog X.w X.K X.mg X.base CX k f fd ps sp)(hr:dA k X.A)(hb:aW X.K fd ps ds)(hd:aJ dvs ds)(hx:gZ CX X E)(ha:PA X (e::es) t)
  (z:starEach (e::es) X.env=(false,eval e X.env)::starEach es X.env:=by rfl) (D:(backTo pos (starEach es X.env)).any (·.1)=false:=by rfl)
  (ht:eval (.Call (.Attribute o m apos) (e::es) [] pos) X.env=(do
   let J <- eval o X.env
   standAt apos.atName
   let (f,first) <- holding [J] (getMethod J m pl)
   callWith pos f first (backTo pos (starEach (e::es) X.env)) (backToKw pos (keywordEach [] X.env))):=by rfl) :
  PE X (.Call (.Attribute o m apos) (e::es) [] pos) (jf C m sp dvs E ta t):=by
 intro pins s σ H Q I h;refine PySem.W.methodCall_KW (pl:=pl) (thn (Z pins s σ H _ I h) λu s1 ⟨x,H1,U,rx,a,dx,fs,ex,ea,l,q⟩=>?_) ht;subst ex;obtain rfl:u=Value.ref a:=rx;refine m6 U ea c hm l ?_;refine PySem.W.callWith_K (first:=[.ref a]) (h₀:=X.base) I.ok.mod.kin hm.kp (thn (ha pos pins s1 σ H1 _ U q) λus s2 ⟨vs,H2,Y,r,q2⟩=>⟨Y.kIn,?_⟩) z D;exact m7 (us:=.ref a::us) (vs:=.ref a::vs) F hr hb hd hx Y (.cons rfl r) q2
def xZ(J:PE X o ta)(c:Cls X.K C)(hm:jb X.K C m f)(F:cT X.prog X.w X.K X.mg X.base CX k f fd ps sp)(U:dA k X.A)(Y:aW X.K fd ps ds)(hd:aJ dvs ds)(hx:gZ CX X E)
  (ht:eval (.Call (.Attribute o m apos) [] [] pos) X.env=(do
   let D <- eval o X.env
   standAt apos.atName
   let (f,first) <- holding [D] (getMethod D m pl)
   callWith pos f first (backTo pos (starEach [] X.env)) (backToKw pos (keywordEach [] X.env))):=by rfl) :
  PE X (.Call (.Attribute o m apos) [] [] pos) (jf C m sp dvs E ta ir):=by
 intro pins s σ H Q I h;refine PySem.W.methodCall_KW (pl:=pl) (thn (J pins s σ H _ I h) λu s1 ⟨x,H1,z,Z,a,dx,fs,ex,ea,l,q⟩=>?_) ht;subst ex;obtain rfl:u=Value.ref a:=Z;refine m6 z ea c hm l ?_;exact PySem.W.callWith_K0 (first:=[.ref a]) z.kIn hm.kp (m7 (us:=[.ref a]) (vs:=[.ref a]) F U Y hd hx z (.cons rfl .nil) q)
structure Mk(K:M5)(C f:Addr):Prop where
 makes:PySem.W.makesIn K C=true
 init:PySem.W.findIn K (.ref C) "__init__"=some (some (.ref f))
 fn:PySem.W.isFn K (.ref f)=true
 kp:PySem.W.keepIn K (.ref C)=true
def x0{pins:List (Addr×Obj)}{σ:St}{H:Hp}{s:Shared}{Q:VK}{us:List Value}{vs:List V}(M:Mk X.K C f)(F:cT X.prog X.w X.K X.mg X.base CX k f fd ps sp)(U:dA (k+1) X.A)(Y:aW X.K fd ps ds)(hd:aJ dvs ds)
  (hx:gZ CX X E) (I:Inv X pins σ H s) (r:aJ vs us)
  (h:∀x dx,H x=none->H dx=none->dx≠x->sp (.ref x::(vs++dvs)) (upd (upd H dx (.own x)) x (.ins C dx [])) (λv H2=>v=.non/\Q (.ref x) H2) E) :
  wpAny (model X.prog X.w) X.A (call (.ref C) us) (EP X pins σ Q) X.xe s:=by
 have D:=h (s.heap.objs.size+1) s.heap.objs.size (I.hok.fresh (KH _)) (I.hok.fresh (pb _)) (x1 (K5 _));have z:=Inv.made (C:=C) I;have J:aJ (V.ref (s.heap.objs.size+1)::(vs++dvs)) (Value.ref (s.heap.objs.size+1)::(us++ds)):=.cons rfl (r.append hd);have Z:(Value.ref (s.heap.objs.size+1)::us++ds).length=ps.length:=by
  have e:=J.length;rw[F.len _ _ _ _ D]at e;exact e.symm
 refine wpAny_call (xX (f:=f) I.kIn M.makes M.init (J7.mp M.fn) (Lq (F.run _ X.stack _ _ ⟨Value.ref (s.heap.objs.size+1)::us,[]⟩ (Value.ref (s.heap.objs.size+1)::(us++ds)) _ _ E (U.make C us [])
  (z.env0.make C us []) (Y _ (Value.ref (s.heap.objs.size+1)::us) z.kIn Z) J D) λr s' q=>?_))
 cases r with
 |error e=>exact hx pins σ _ _ e s' z q
 |ok fl =>
  cases fl with
  |ret u =>
   refine ij (z.after q) λv H' I3 rv ev q3=>?_
   subst ev;exact⟨rv,⟨V.ref (s.heap.objs.size+1),H',I3,rfl,q3⟩⟩
  |next=>exact False.elim q
  |brk=>exact False.elim q
  |cont=>exact False.elim q
def p_(M:Mk X.K C f)(F:cT X.prog X.w X.K X.mg X.base CX k f fd ps sp)(U:dA (k+1) X.A)(Y:Gl X x)(hm:X.mg x=some (.ref C))(Z:aW X.K fd ps ds)(hd:aJ dvs ds)(hx:gZ CX X E)
  (ha:PA X (e::es) t) (z:(x==("__debug__":Str))=false:=by decide) (he:starEach (e::es) X.env=(false,eval e X.env)::starEach es X.env:=by rfl) (D:(backTo pos (starEach es X.env)).any (·.1)=false:=by rfl) :
  PE X (.Call (.Name x p) (e::es) [] pos) (CZ C sp dvs E t):=by
 intro pins s σ H Q I h;refine Lw (jR I Y hm ?_ z);refine PySem.W.callWith_K (h₀:=X.base) I.ok.mod.kin M.kp (thn (ha pos pins s σ H _ I h) λus s1 hq=>au hq λvs H1 J r q=>⟨J.kIn,?_⟩) he D;exact x0 M F U Z hd hx J r q
end
section
variable{X:Cx}{CX:CXT}{k:Nat}{f C:Addr}{fd:FuncData}{ps ks:List Str}{sp:Sp}{E:XK}{x m:Str}{p pos apos kpos:Pos}{e o:Expr}{es:List Expr}{kws:List Keyword}{te ta:TE}{t tk:TA}{nm:Option Str}
variable{g:List Value->List Value->List Value}{gV:List V->List V->List V}
end
structure dk(N P:List Str)(sc:Scope):Prop where
 kind:sc.kind=.function
 co:sc.isCoroutine=false
 gen:sc.isGenerator=false
 nd:N.Nodup
 pre:N.take P.length=P
 par:∀x∈P,sc.names.lookup x=some .local\/sc.names.lookup x=some .cell
 nofree:∀y∈sc.names,y.2≠.free
theorem o6{kindOf:Str->Option NameKind} :∀{binds}{m},(∀v,(x,v)∉binds)->bindL kindOf binds m x=m x
 | [],_,_=>rfl
 | (n,v)::r,m,h=>by
  unfold bindL;rw[o6 λw hw=>h w (Kk _ hw)];split
  .have:x≠n:=by rintro rfl;exact h v Kz
   simp[this]
  .rfl
theorem o7{kindOf:Str->Option NameKind} :∀{binds}{m},(∀v,(x,v)∉binds)->bindC kindOf binds m x=m x
 | [],_,_=>rfl
 | (n,v)::r,m,h=>by
  unfold bindC;rw[o7 λw hw=>h w (Kk _ hw)];split
  .rfl
  .have:x≠n:=by rintro rfl;exact h v Kz
   simp[this]
theorem o8{kindOf:Str->Option NameKind}{x:Str}{v:Value}:∀{P:List Str}{vs}{i:Nat}{m},P.Nodup->P[i]?=some x->vs[i]?=some v->kindOf x=some .local ->
  bindL kindOf (P.zip vs) m x=some v
 | [],_,_,_,_,h,_,_=>by injection h
 | _::_,[],_,_,_,_,h,_=>by injection h
 |p::P,w::vs,0,m,nd,h1,h2,q=>by
  simp at h1 h2;subst h1;subst h2
  show bindL kindOf ((p,w)::P.zip vs) m p=_;unfold bindL;rw[o6 λv z=>(KA.mp nd).1 (of_mem_zip z).1,if_pos q];simp
 |p::P,w::vs,i+1,m,nd,h1,h2,q=>by
  show bindL kindOf ((p,w)::P.zip vs) m x=_;exact o8 (i:=i) (KA.mp nd).2 h1 h2 q
theorem o9{kindOf:Str->Option NameKind}{x:Str}{v:Value}:∀{P:List Str}{vs}{i:Nat}{m},P.Nodup->P[i]?=some x->vs[i]?=some v->kindOf x≠some .local ->
  bindC kindOf (P.zip vs) m x=some v
 | [],_,_,_,_,h,_,_=>by injection h
 | _::_,[],_,_,_,_,h,_=>by injection h
 |p::P,w::vs,0,m,nd,h1,h2,q=>by
  simp at h1 h2;subst h1;subst h2
  show bindC kindOf ((p,w)::P.zip vs) m p=_;unfold bindC;rw[o7 λv z=>(KA.mp nd).1 (of_mem_zip z).1,if_neg q];simp
 |p::P,w::vs,i+1,m,nd,h1,h2,q=>by
  show bindC kindOf ((p,w)::P.zip vs) m x=_;exact o9 (i:=i) (KA.mp nd).2 h1 h2 q
noncomputable def fq(N:List Str)(vs:List V):St:=vs.map some++replicate (N.length-vs.length) none
noncomputable def dz(CX:CXT)(P:Program)(w:World)(K:M5)(mg:Str->Option Value)(base:Heap)(N:List Str)(qual:Str)(scope:Scope)(f:Addr)(z:Value)(A:Around)(outer:List Env)(s:Shared)(H:Hp)(E:XK):Cx where
 prog:=P
 w:=w
 K:=K
 mg:=mg
 base:=base
 A:=A.deeper (envOfC qual scope s.heap.objs.size f z)
 N:=N
 s₀:=s
 H₀:=H
 env:=envOfC qual scope s.heap.objs.size f z
 outer:=outer
 stack:=envOfC qual scope s.heap.objs.size f z::outer
 ex:=[]
 calm:=true
 fn:=λ_=>true
 pn:=[]
 xe:=λe s'=>wpAny (model P w) (A.deeper (envOfC qual scope s.heap.objs.size f z)) (leaving (envOfC qual scope s.heap.objs.size f z) e) (λ_ q=>CX outer H s E e q) (λD q=>CX outer H s E D q) s'
def rq{sc:Scope}(h:sc.names.lookup x=some .cell):∃c,(cellsFrom n sc.names []).lookup x=some c:=by
 have q:=PySem.W.cellsFrom_some sc.names n [] (.inl h);exact isSome_iff_exists.mp q
def wk{K:M5} 
  (S:dk N ps scope) (hd:A.handled=none) (D:tG P w K mg base A outer s H) (hl:vs.length=ps.length) (r:aJ vs us)
  (x:InCallC s s.heap.objs.size (bindL (envOfC qual scope s.heap.objs.size f cd).kindOf (ps.zip us) λ_=>none) (cellsFrom (s.heap.objs.size+1) scope.names []) (bindC (envOfC qual scope s.heap.objs.size f cd).kindOf (ps.zip us) λ_=>none) s1) :
  Inv (dz CX P w K mg base N qual scope f cd A outer s H E) [] (fq N vs) H s1:=by
 have a0:ps.length<=N.length:=by have:=La List.length S.pre;rw[Mp]at this;omega
 refine cM x.done λh1 tk ao hk=>?_
 subst ao;have J:∀b,b∉(dz CX P w K mg base N qual scope f cd A outer s H E).ex:=λb z=>absurd (show b∈([]:List Addr)from z) (by simp)
 refine⟨⟨D.mod,S.kind,rfl,rfl,pb _,λy z c h1 h2=>?_,λy U=>?_,λy c _ h=>?_,λ_=>hd,Around.frames_deeper D.frames,.inr ⟨rfl,rfl⟩,λb z=>absurd z (J b),D.bs,D.bsz,λb _ _=>J b,λb z=>absurd z (J b),D.funs,D.frf⟩,
  rfl,D.bare,Un.kept hk,⟨_,x.toInCall.ns,λi y v h1 h2 h3=>?_⟩,λy c h=>⟨_,x.cell y c h⟩,D.hok.fresh (pb _),λy c h=>?_,λp Y=>absurd (show p∈([]:List (Addr×Obj))from Y) (by simp),D.hok.kept hk,?_⟩
 .exact name_of_addr x.apart (PySem.mem_of_lookup h1) (PySem.mem_of_lookup h2)
 .have U:=U;rcases U with U|U
  .exact rq U
  .exact absurd rfl (S.nofree _ (PySem.mem_of_lookup U))
 .exact KC (x.above y c (PySem.mem_of_lookup h))
 .have hi:i<vs.length:=by
   unfold fq at h2;by_cases hi:i<vs.length
   .exact hi
   .rw[Lm (by simpa using hi)]at h2;rw[LW]at h2;split at h2<;>cases h2
  have ha:vs[i]?=some v:=by
   unfold fq at h2;rw[Lc (by simpa using hi),Kb]at h2;cases e:vs[i]?<;>simp_all
  refine ae (r.get ha) λu hu rv=>?_
  have Y:ps[i]?=some y:=by
   rw[<- S.pre,getElem?_take_of_lt (by omega)];exact h1
  have Z:ps.Nodup:=by rw[<- S.pre];exact S.nd.sublist (take_sublist _ _)
  refine⟨u,rv,?_⟩;rcases S.par y (Ln Y)with k|k
  .exact .inl ⟨k,o8 Z Y hu k⟩
  .obtain⟨c,e⟩:=rq (n:=s.heap.objs.size+1) k;refine .inr ⟨.inl k,c,e,?_⟩;have q:=x.cell y c e;rw[o9 Z Y hu (by show scope.names.lookup y≠_;rw[k];decide)]at q;exact q
 .exact D.hok.fresh (KC (x.above y c (PySem.mem_of_lookup h)))
 .unfold fq;show _=N.length;rw[Kj,sm,length_replicate];exact(by simp[*])
def iB{K:M5}{dV kV Z pm z ct oc:Value} 
  (lk:K.lookup f=some ⟨oc,od,.func (PySem.W.fnOf name qual params body scope dV kV Z pm an z ct),a7⟩) (a0:PySem.W.codeIn K z qual=true) (S:dk N ps scope)
  (len:∀vs H Q E,sp vs H Q E->vs.length=ps.length)
  (U:∀A outer s H vs Q E,dA k (A.deeper (envOfC qual scope s.heap.objs.size f z))->sp vs H Q E ->
   ∃t,PSs (dz CX P w K mg base N qual scope f z A outer s H E) body t/\t { nx:=λ_ H'=>Q .non H',rt:=Q } (fq N vs) H) :
  cT P w K mg base CX (k+1) f (PySem.W.fnOf name qual params body scope dV kV Z pm an z ct) ps sp:=by
 refine⟨len,λA outer s H args us vs Q E hr e0 hb r ar=>?_⟩;have hl:=len _ _ _ _ ar;have KX:=e0.mod.kin.keeps λb o e=>(e0.bs b o e).1
 have a2:=e0.mod.nolimit.keeps λb o e=>(e0.bs b o e).1
 have Y:∀y∈ps.zip us,scope.names.lookup y.1=some .local\/(scope.names.lookup y.1=some .cell/\((cellsFrom (s.heap.objs.size+1) scope.names []).lookup y.1).isSome=true):=λ⟨n,v⟩ hy=>by
  rcases S.par n (of_mem_zip hy).1 with q|q
  .exact .inl q
  .exact .inr ⟨q,PySem.W.cellsFrom_some _ _ _ (.inl q)⟩
 refine codeAny_call_function hr.depth (KX _ _ lk) rfl S.co S.gen rfl (PySem.W.codeRec_of KX a0) (hb _ _ _ _ ?_);refine wpAny_newFunctionEnv_cells S.kind Y λenv he s1 x=>?_
 subst he;refine⟨a2.keeps x.toInCall.keep,codeAny_func ?_⟩;refine ae (U A outer s H vs Q E (hr.deeper _) ar) λt ht hq=>?_
 have I:Inv (dz CX P w K mg base N qual scope f z A outer s H E) [] (fq N vs) H s1:=wk S hr.hd e0 hl r x;refine Ks (ht [] s1 (fq N vs) H _ I hq) (λfl s' hs=>?_) λe s' hs=>hs
 have fin:∀{D}{H'}{v}{u},Inv (dz CX P w K mg base N qual scope f z A outer s H E) [] D H' s'->aI v u->Q v H'->CE outer P w H s Q u s':=
  λ{D H' v u} J rv q=>⟨v,H',J.os,J.bare,J.base,J.hok,rv,q⟩
 cases fl with
 |next =>
  refine cM hs λD H' J q=>?_
  exact fin (v:=V.non) (u:=Value.none) J rfl q
 |ret u =>
  refine uS hs λv D H' J rv q=>?_
  exact fin J rv q
 | _ =>
  refine cM hs λ_ _ _ q=>?_
  exact False.elim q
section
variable{X:Cx}{x:Str}{p pos:Pos}{e:Expr}{es:List Expr}{t:TA}{id T:String}{r:List V->Hp->VK->Prop}
noncomputable def tCB(r:List V->Hp->VK->Prop)(t:TA):TE:=λσ H Q=>t σ H λvs H1=>r vs H1 Q
def iC (hc:ce X (.builtin id) r) (D:Gl X x) (hm:X.mg x=none) (J:bootBuiltins x=some (.builtin id)) (ha:PA X (e::es) t) (hn:x ≠ "__name__":=by decide) (q:(x==("__debug__":Str))=false:=by decide)
  (U:starEach (e::es) X.env=(false,eval e X.env)::starEach es X.env:=by rfl) (z:(backTo pos (starEach es X.env)).any (·.1)=false:=by rfl):PE X (.Call (.Name x p) (e::es) [] pos) (tCB r t):=by
 intro pins s σ H Q I h;refine Lw (kY I D hm J ?_ hn q);exact PyProof.Rows.callWith_builtin1 (thn (ha pos pins s σ H _ I h) λus s1 Y=>au Y λvs H1 Z r1 q1=>hc pins s1 σ H1 vs us Q Z r1 q1) U z
def k7 (hc:ce X (.type T) r) (D:Gl X x) (hm:X.mg x=none) (J:bootBuiltins x=some (.type T)) (ha:PA X (e::es) t) (hn:x ≠ "__name__":=by decide) (q:(x==("__debug__":Str))=false:=by decide)
  (U:starEach (e::es) X.env=(false,eval e X.env)::starEach es X.env:=by rfl) (z:(backTo pos (starEach es X.env)).any (·.1)=false:=by rfl):PE X (.Call (.Name x p) (e::es) [] pos) (tCB r t):=by
 intro pins s σ H Q I h;refine Lw (kY I D hm J ?_ hn q);exact Li (thn (ha pos pins s σ H _ I h) λus s1 Y=>au Y λvs H1 Z r1 q1=>hc pins s1 σ H1 vs us Q Z r1 q1) U z
end
end L2
namespace HT
open PySem PyProof.Rows List Option
noncomputable def lexLt:List Int->List Int->Bool
 | [],[]=>false
 | [],_::_=>true
 | _::_,[]=>false
 |x::xs,y::ys=>if x=y then lexLt xs ys else decide (x<y)
def lexLt_cons(x y)(xs ys):lexLt (x::xs) (y::ys)=if x=y then lexLt xs ys else decide (x<y):=rfl
def oH:lexLt [] []=false:=rfl
def m8(y)(ys):lexLt [] (y::ys)=true:=rfl
def m9(x)(xs):lexLt (x::xs) []=false:=rfl
def x2(A)(s)(a)(t)(c)(u):∃e,SeqAt.EqAt A s (.int a t) (.int c u) e/\(e=true ↔ a=c):=
 ⟨(a==c),SeqAt.EqAt.int_int a t c u,by simp⟩
def x_(A)(s)(a)(t)(c)(u)(prog)(w)(E)(Q)(h:Q (.bool (decide (a<c))) s) :
  wpAny (model prog w) A (richCompare .Lt (.int a t) (.int c u)) Q E s:=
 (PyProof.Rows.lt_int h:wpAny (model prog w) A (compareOp .Lt (.int a t) (.int c u)) Q E s)
section
open PySem.SeqAt List Option
open PySem.AutoSeq1 (wpAny_loadPart')
open PySem.MeetsSeq PySem.MeetsSeq2 PySem.MeetsSeq3 List Option
def tuple_lt_ints(l b)(items z)(n n2)(dd a5)(sl a6)(ns ms)(hi:IntsAre items.toList ns)(hj:IntsAre z.toList ms) :
  Meets (Builtin.«tuple.__lt__» ⟨[.ref l,.ref b],[]⟩)
   (λ_ R s=>s.heap.get? l=some { cls:=.type "tuple",dict:=dd,data:=.seq items n,slots:=sl }/\s.heap.get? b=some { cls:=.type "tuple",dict:=a5,data:=.seq z n2,slots:=a6 } /\
    R (.ok (.ret (.bool (lexLt ns ms)))) s):=
 .of_wp λprog w A R s h=>by
  obtain⟨hp,g,d,tk,os⟩:=s;refine jP h λhl hb h=>?_
  have f2:=LX;have z1:items.size=ns.length:=by rw[<- hi.length];simp
  have z2:z.size=ms.length:=by rw[<- hj.length];simp
  wp_walk using wpAny_loadPart' hl,wpAny_loadPart' hb,wpAny_forIn_list _ (λeF b s'=>b.1=none/\s'=⟨hp,g,d,tk,os⟩/\∃vs ws J U,eF=vs.zip ws /\
   IntsAre vs J/\IntsAre ws U/\J.length+z.size=U.length+items.size/\R (.ok (.ret (.bool (lexLt J U)))) ⟨hp,g,d,tk,os⟩) _
  case turn =>
   rintro ⟨y,x⟩ eF b s' ⟨ar,rfl,vs,ws,J,U,hz,aL,Y,D,Z⟩;cases aL with
   |nil=>rw[zip_nil_left]at hz;cases hz
   |cons a t a1 =>
    cases Y with
    |nil=>rw[zip_nil_right]at hz;cases hz
    |cons c u a2 =>
     rw[zip_cons_cons]at hz;injection hz with a7 a0
     injection a7 with hy hx
     subst hy hx;rw[lexLt_cons]at Z;simp only[length_cons]at D;refine ae (x2 A.in1 ⟨hp,g,d,tk,os⟩ a t c u) λe he ao=>?_
     refine kn (he prog w _ _ ?_);cases e with
     |true =>
      rw[if_pos (ao.mp rfl)]at Z
      wp_walk
      exact⟨rfl,rfl,_,_,_,_,a0,a1,a2,by omega,Z⟩
     |false =>
      rw[if_neg (λq=>absurd (ao.mpr q) oe)]at Z;have bt:=x_ A.in1 ⟨hp,g,d,tk,os⟩ a t c u prog w
      wp_walk using bt
      exact⟨_,rfl,by simpa using Z⟩
  case fin =>
   rintro ⟨b1,b2⟩ s' ⟨ar,rfl,vs,ws,J,U,hz,aL,Y,D,Z⟩;simp only at ar;subst ar;have hv:lexLt J U=decide (items.size<z.size):=by
    cases aL with
    |nil =>
     cases Y with
     |nil =>
      simp only[length_nil]at D;rw[oH];exact(Kn (by omega)).symm
     |cons c u hw =>
      simp only[length_nil,length_cons]at D;rw[m8];exact(Ka (by omega)).symm
    |cons a t hv =>
     cases Y with
     |nil =>
      simp only[length_nil,length_cons]at D;rw[m9];exact(Kn (by omega)).symm
     |cons c u hw =>
      rw[zip_cons_cons]at hz;exact v5 hz
   rw[hv]at Z
   wp_walk
   exact⟨_,rfl,by simpa[Builtin.Tuple.tupleCompareSizes]using Z⟩
  case h =>
   exact⟨rfl,rfl,items.toList,z.toList,ns,ms,rfl,hi,hj,by omega,h⟩
end
section
variable{prog:Program}{w:World}{A:Around}{E:Value->Shared->Prop}{s:Shared}
def lt_tupInts{z q:Array Value}{ns ms:List Int}{Q:Value->Shared->Prop}(hl:IsTup s.heap l z)(hb:IsTup s.heap b q)(hi:IntsAre z.toList ns)(hj:IntsAre q.toList ms)
  (hu:A.units<cLine) (h:Q (.bool (lexLt ns ms)) s):wpAny (model prog w) A (compareOp .Lt (.ref l) (.ref b)) Q E s:=by
 refine bN λZq kq=>?_
 obtain⟨⟨cls,dd,data,sl⟩,ho,hc,n,hd⟩:=id hl;obtain⟨⟨ao,Y,data2,Z⟩,D,J,n2,U⟩:=id hb;simp only at hc hd J U;subst hc hd J U;refine kq ?_;exact Lz (op:=.Lt) ⟨_,ho,rfl⟩ ⟨_,D,rfl⟩ PySem.F.slot_tuple_lt PySem.F.entry_tuple_lt (PySem.F.args_tuple_lt_2 _ _) (tuple_lt_ints l b z q n n2 dd Y sl Z ns ms hi hj)
  ⟨ho,D,show Value.bool _≠Value.notImplemented/\Q _ s from⟨(λx=>nomatch x),h⟩⟩ hu
def cat_tup(ht:IsTup s.heap t vs.toArray)(hb:IsTup s.heap b ws.toArray)(Z:vs≠[])
  (h1:ws=[]->Q (.ref t) s) (h2:ws≠[]->Q (.ref s.heap.objs.size) { s with heap:=s.heap.push { cls:=.type "tuple",data:=.seq (vs++ws).toArray } })
  (Y:vs.length+ws.length<=sizeLine):wpAny (model prog w) A (binaryOp .Add (.ref t) (.ref b)) Q E s:=by
 refine bN λZq kq=>?_
 obtain⟨⟨cls,dd,data,sl⟩,ho,hc,n,hd⟩:=id ht;obtain⟨⟨ar,z,data2,D⟩,q,J,n2,U⟩:=id hb;simp only at hc hd J U;subst hc hd J U;have e:vs.toArray++ws.toArray=(vs++ws).toArray:=by simp
 refine kq ?_;by_cases hw:ws=[]
 .exact MO ⟨_,ho,rfl⟩ ⟨_,q,rfl⟩ MP seq_tuple_add PySem.F.slot_tuple_add PySem.F.entry_tuple_add (PySem.F.args_tuple_add_2 _ _)
   (tuple_addW1 t b vs.toArray ws.toArray n n2 dd z sl D (by simpa using Z) (by simp[hw])) ⟨ho,q,h1 hw⟩
 .refine MO ⟨_,ho,rfl⟩ ⟨_,q,rfl⟩ MP seq_tuple_add PySem.F.slot_tuple_add PySem.F.entry_tuple_add (PySem.F.args_tuple_add_2 _ _)
   (tuple_addW2 t b vs.toArray ws.toArray n n2 dd z sl D (by simpa using Z) (by simpa using hw) (by rw[pd,pd];exact Y)) ⟨ho,q,?_⟩
  rw[e];exact h2 hw
noncomputable def sIx(n d:Nat):Option Int->Nat
 |none=>d
 |some v=>if v<0 then(v+(n:Int)).toNat else min v.toNat n
def Ei(n d)(hd:d<=n)(o):sIx n d o<=n:=by
 cases o with
 |none=>exact hd
 |some v =>
  show(if v<0 then(v+_).toNat else min v.toNat n)<=n
  grind
def uZ(v)(n d:Nat):(if v<0 then max (v+(n:Int)) 0 else min v (n:Int))=((sIx n d (some v):Nat):Int):=by
 show(if v<0 then max _ 0 else min v _)=(((if v<0 then(v+_).toNat else min v.toNat n):Nat):Int)
 grind
def tH(lo hi)(n:Nat):Builtin.Slice.sliceAdjust lo hi 1 (n:Int)=(((sIx n 0 lo:Nat):Int),((sIx n n hi:Nat):Int)):=by
 refine Prod.ext ?_ ?_
 .cases lo with
  |none=>rfl
  |some v=>exact uZ v n 0
 .cases hi with
  |none=>rfl
  |some v=>exact uZ v n n
def tI(i j:Nat):Builtin.Slice.slicePlaces (i:Int) (j:Int) 1=j-i:=by
 unfold Builtin.Slice.slicePlaces
 grind
def m_(p:IsPart v o)(h:Q o s):wpAny (model prog w) A (Builtin.Slice.slicePartIndex v) Q E s:=by
 cases p<;>first|exact slicePart_none h|exact slicePart_int h
def gD{lo hi:Option Int}{n:Nat}{Q:Int×Int×Nat->Shared->Prop}(U:s.heap.IsSliceOf Y D J .none)(pl:IsPart D lo)(Z:IsPart J hi)
  (h:Q (((sIx n 0 lo:Nat):Int),1,sIx n n hi-sIx n 0 lo) s):wpAny (model prog w) A (Builtin.Slice.sliceApplied (.ref Y) (pure (n:Int))) Q E s:=by
 refine a8 (id U) λos q ao z=>?_
 refine kn (kn (wpAny_field q z (x:=D) rfl (kn (wpAny_field q z (x:=J) rfl (kn (wpAny_field q z (x:=.none) rfl (mu ?_)))))));refine kn (slicePart_none ?_);rw[if_neg (by decide)];refine kn (m_ pl (kn (m_ Z (kn (mu ?_)))));show wpAny _ _ (match Builtin.Slice.sliceAdjust lo hi 1 _ with|(lo,hi)=>pure (lo,_,Builtin.Slice.slicePlaces lo hi 1)) _ _ s;rw[tH lo hi n];show wpAny _ _ (pure (((sIx n 0 lo:Nat):Int),_,Builtin.Slice.slicePlaces _ _ 1)) _ _ s;rw[tI];exact mu h
def ya(xs:Array Value)(i k:Nat):((range k).filterMap λ(m:Nat)=>xs[((i:Int)+(m:Int)*1).toNat]?).toArray=((xs.toList.drop i).take k).toArray:=by
 have e:(λ(m:Nat)=>xs[((i:Int)+(m:Int)*1).toNat]?)=λm=>xs[i+m]?:=by
  funext m
  have:((i:Int)+(m:Int)*1).toNat=i+m:=by omega
  rw[this]
 rw[e];have:=pick_run xs i k;rw[filterMap_map]at this;have q:((λx=>xs[x]?)∘λx=>i+x)=λm=>xs[i+m]?:=rfl
 rw[q]at this;rw[this]
def getItem_tuple_cut{q:Array Value}{Z vu:Value}{lo hi:Option Int}{Q:Value->Shared->Prop}(ht:IsTup s.heap t q)(hs:s.heap.IsSliceOf sl Z vu .none)(pl:IsPart Z lo)(pu:IsPart vu hi)
  (hw:¬ (sIx q.size 0 lo=0/\sIx q.size q.size hi=q.size))
  (h:Q (.ref s.heap.objs.size) { s with heap:=s.heap.push { cls:=.type "tuple",data:=.seq ((q.toList.drop (sIx q.size 0 lo)).take (sIx q.size q.size hi-sIx q.size 0 lo)).toArray } })
  (a1:q.size<=sizeLine):wpAny (model prog w) A (getItem (.ref t) (.ref sl)) Q E s:=by
 have z:sizeOk (.seq ((q.toList.drop (sIx q.size 0 lo)).take (sIx q.size q.size hi-sIx q.size 0 lo)).toArray):=by
  show((q.toList.drop (sIx q.size 0 lo)).take (sIx q.size q.size hi-sIx q.size 0 lo)).toArray.size<=sizeLine;rw[pd,Mp,length_drop,Array.length_toList];omega
 have hj:sIx q.size q.size hi<=q.size:=Ei _ _ (pb _) hi;refine a8 (id hs) λos D J a2=>?_
 have U:s.TypeIs (.ref sl) "slice":=⟨os,D,J⟩;unfold getItem
 try with_reducible refine Le ?_
 first|refine kn (mu ?_)|skip
 refine kn (wpAny_sequenceKey ht.typeIs (by decide) ?_);refine kn (Ky (name:=Str.ofString "__getitem__") ht.typeIs Kx
  (Kp Kx ht.typeIs entry_tuple_getitem ?_ (args_tuple_getitem _ _)))
 show wpAny _ _ (Builtin.Tuple.tupleItemsOf (.ref t) >>= _) _ _ s;refine kn (tupleItemsOf_ ht ?_);refine kn (LY U ?_);rw[if_pos (by decide)];refine kn (gD hs pl pu ?_);have Y:¬ ((((sIx q.size 0 lo:Nat):Int)==0&&(1:Int)==1&&(sIx q.size q.size hi-sIx q.size 0 lo)==q.size)=true):=by
  simp_all
 show wpAny _ _ (if (((sIx q.size 0 lo:Nat):Int)==0&&(1:Int)==1&&(sIx q.size q.size hi-sIx q.size 0 lo)==q.size)=true then _ else _) _ _ s;rw[if_neg Y,ya]
 first
  | exact kn (m:=Builtin.Tuple.tupleExact _) (Kw (mu ⟨_,rfl,mu h⟩) z)
  | exact kn (m:=Builtin.Tuple.tupleExact _) (Kw (kn (mu (mu ⟨_,rfl,mu h⟩))) z)
  | exact kn (kn (m:=Builtin.Tuple.tupleExact _) (Kw (mu (mu ⟨_,rfl,mu h⟩)) z))
  | exact kn (kn (m:=Builtin.Tuple.tupleExact _) (Kw (mu ⟨_,rfl,mu h⟩) z))
end
end HT
namespace L2
open PySem PySem.Spec PyProof.Rows List Option
noncomputable abbrev TO:=St->Hp->(Option Int->Hp->Prop)->Prop
def PO(X:Cx)(e:Option Expr)(t:TO):Prop:=
 ∀pins s (σ:St) H Q,Inv X pins σ H s->t σ H Q ->
  wpAny (model X.prog X.w) X.A (evalPart e X.env) (λu s'=>∃o H',Inv X pins σ H' s'/\IsPart u o/\Q o H') X.xe s
noncomputable def Ba:TO:=λ_ H Q=>Q none H
noncomputable def G5(t:TE):TO:=λσ H Q=>t σ H λx H1=>∃i,x=.int i/\Q (some i) H1
def fu :∀{us},aJ (ns.map V.int) us->IntsAre us ns:=by
 induction ns with
 |nil=>intro us r;rw[map_nil]at r;cases r;exact .nil
 |cons n ns ih =>
  intro us r;cases r with
  |cons q z =>
   obtain⟨t,e⟩:=q;subst e;exact .cons n t (ih z)
section
variable{X:Cx}{e:Expr}{te:TE}{lo hi:Option Expr}{tl th:TO}{pos p2:Pos}
def Bb:PO X none Ba:=by
 intro pins s σ H Q I h;rw[evalPart_none];exact mu ⟨none,H,I,.none,h⟩
def Bc(h:PE X e te):PO X (some e) (G5 te):=by
 intro pins s σ H Q I hw;rw[evalPart_some];refine thn (h pins s σ H _ I hw) λu s1 D=>au D λx H1 J U q1=>?_
 refine ae q1 λi z q=>?_
 subst z;obtain⟨t,rfl⟩:=U;exact⟨some i,H1,J,.int i t,q⟩
def SlR(X:Cx)(r:V->Option Int->Option Int->Hp->VK->Prop):Prop:=
 ∀pins s (σ:St) H x v q z lo hi D Q,Inv X pins σ H s->aI x v->s.heap.IsSliceOf D q z .none->IsPart q lo->IsPart z hi->r x lo hi H Q ->
  ∃T id,typeLookup (.type T) "__getitem__"=pure (some (.builtin id))/\s.TypeIs v T/\wpAny (model X.prog X.w) X.A (getItem v (.ref D)) (EP X pins σ Q) X.xe s
noncomputable def tSl(r:V->Option Int->Option Int->Hp->VK->Prop)(te:TE)(tl th:TO):TE:=λσ H Q=>te σ H λx H1=>tl σ H1 λl H2=>th σ H2 λu q=>r x l u q Q
def yb(Y:SlR X r)(Z:PE X e te)(hl:PO X lo tl)(hu:PO X hi th):PE X (.Subscript e (.Slice lo hi none p2) pos) (tSl r te tl th):=by
 intro pins s σ H Q I h;refine Subscript_ (thn (Z pins s σ H _ I h) λv s1 z=>au z λx H1 I1 r1 q1=>?_);refine wpAny_Slice (thn (hl pins s1 σ H1 _ I1 q1) λD s2 z=>au z λl H2 I2 pl q2=>thn (hu pins s2 σ H2 _ I2 q2) λJ s3 z=>au z λu U I3 pu q3=>?_);rw[evalPart_none];refine mu ?_;have I4:Inv X pins σ U { s3 with heap:=s3.heap.push { cls:=.type "slice",data:=.fields #[D,J,.none] } }:=I3.kept (t':=s3.toks) λb ob q=>mn _ q
 obtain⟨T,id,hT,ht,hg⟩:=Y pins { s3 with heap:=s3.heap.push { cls:=.type "slice",data:=.fields #[D,J,.none] } } σ U x v D J l u s3.heap.objs.size Q I4 r1 (Heap.IsSliceOf.new ..) pl pu q3;exact tail_any ht hT hg (by with_unfolding_all rfl)
noncomputable def rA(xs:List V)(lo hi:Option Int):List V:=(xs.drop (HT.sIx xs.length 0 lo)).take (HT.sIx xs.length xs.length hi-HT.sIx xs.length 0 lo)
def lZ(xs)(lo hi):(rA xs lo hi).length<=xs.length:=by
 unfold rA;rw[Mp,length_drop];omega
def Jz(K:M5):V->Option Int->Option Int->Hp->VK->Prop:=λx lo hi H Q=>∃a xs,x=.ref a/\SqT K H a xs /\
 ¬ (HT.sIx xs.length 0 lo=0/\HT.sIx xs.length xs.length hi=xs.length)/\∀p,H p=none->Q (.ref p) (upd H p (.tup (rA xs lo hi)))
def Ej:SlR X (Jz X.K):=by
 intro pins s σ H x v Z vu lo hi sl Q I J U pl Y h;refine ij h λa xs D hx hw q=>?_
 subst D;subst J;refine a8 (I.tuple hx) λits r ht hz=>?_
 have z:its.toArray.size=xs.length:=by rw[pd];exact r.length.symm
 refine⟨"tuple",_,Kx.lookup,ht.typeIs,?_⟩;refine HT.getItem_tuple_cut ht U pl Y (by rw[z];exact hw) ?_ (by rw[z];exact hz);rw[z];refine⟨.ref s.heap.objs.size,_,I.laid (t':=s.toks) (o:=.tup (rA xs lo hi)) (λb ob q=>mn _ q) (pb _) ?_,rfl,q _ (I.hok.fresh (pb _))⟩;exact⟨xb (lZ xs lo hi) hz,_,(r.drop (HT.sIx xs.length 0 lo)).take (HT.sIx xs.length xs.length hi-HT.sIx xs.length 0 lo),IsTup.new _ _⟩
noncomputable def G6(K:M5):R2:=λx y H Q=>∃a b xs ys,x=.ref a/\y=.ref b/\SqT K H a xs/\SqT K H b ys/\xs≠[]/\xs.length+ys.length<=sizeLine /\
 (ys=[]->Q (.ref a) H)/\(ys≠[]->∀p,H p=none->Q (.ref p) (upd H p (.tup (xs++ys))))
def aJ.nil_iff(r:aJ xs us):us=[] ↔ xs=[]:=by
 cases r<;>simp_all
def Bd:OpR X (binaryOp .Add) (G6 X.K):=by
 intro pins s σ H x y v u Q I Y Z h;refine bN λZq kq=>?_
 obtain⟨a,b,xs,ys,rfl,rfl,ha,hb,hx,hz,q1,q2⟩:=h;subst Y;subst Z;refine kq ?_;refine a8 (I.tuple ha) λits J p1 _=>?_
 refine a8 (I.tuple hb) λU D p2 _=>?_
 refine HT.cat_tup p1 p2 (λz=>hx (J.nil_iff.mp z)) (λz=>⟨.ref a,H,I,rfl,q1 (D.nil_iff.mp z)⟩) (λz=>?_) (by rw[<- J.length,<- D.length];exact hz);refine⟨.ref s.heap.objs.size,_,I.laid (t':=s.toks) (o:=.tup (xs++ys)) (λb ob q=>mn _ q) (pb _) ?_,rfl,q2 (λw=>z (D.nil_iff.mpr w)) _ (I.hok.fresh (pb _))⟩;exact⟨by rw[Kj];exact hz,_,J.append D,IsTup.new _ _⟩
end
noncomputable def ixN(n:Nat)(i:Int):Option Nat:=if 0<=i then(if i<n then some i.toNat else none)else if -(n:Int)<=i then some (i+n).toNat else none
noncomputable def atI{α:Type}(xs:List α)(i:Int):Option α:=(ixN xs.length i).bind λj=>xs[j]?
def u7(h:ixN n i=some j):seqIndex? i n=some j/\j<n/\-(n:Int)<=i/\i<n:=by
 unfold ixN at h;by_cases h0:0<=i
 .rw[if_pos h0]at h;by_cases h1:i<n
  .rw[if_pos h1]at h;have e:=vr h;exact⟨by rw[seqIndex_of h0 h1,e],by omega,by omega,h1⟩
  .simp_all
 .rw[if_neg h0]at h;by_cases h1:-(n:Int)<=i
  .rw[if_pos h1]at h;have e:=vr h;exact⟨by rw[seqIndex_neg (MJ.mp ‹_›) h1,e],by omega,h1,by omega⟩
  .simp_all
def qa(h:atI xs i=some v):∃j,seqIndex? i xs.length=some j/\xs[j]?=some v/\j<xs.length/\-(xs.length:Int)<=i/\i<xs.length:=by
 unfold atI at h;cases e:ixN xs.length i with
 |none=>rw[e]at h;exact bc h
 |some j =>
  rw[e]at h;refine gC (u7 e) λh1 h2 h3 h4=>?_
  exact⟨j,h1,h,h2,h3,h4⟩
def u_(b:Expr):Prop:=∀o i,subscripted b false o i=operate [o,i] (getItem o i)
def IxR(X:Cx)(r:R2):Prop:=
 ∀value slice pins s (σ:St) H x y v u Q,Inv X pins σ H s->aI x v->aI y u->r x y H Q ->
  subscripted slice false v u=operate [v,u] (getItem v u)->wpAny (model X.prog X.w) X.A (subscriptTail value slice v u) (EP X pins σ Q) X.xe s
def MtR(X:Cx)(id:String)(r:V->List V->Hp->VK->Prop):Prop:=
 ∀pins s (σ:St) H x xs v us Q,Inv X pins σ H s->aI x v->aJ xs us->r x xs H Q ->
  wpAny (model X.prog X.w) X.A (call (.builtin id) (v::us)) (EP X pins σ Q) X.xe s
section
variable{X:Cx}{a b:Expr}{ta tb:TE}{pos:Pos}
theorem IxR.or(h:IxR X r)(h':IxR X U):IxR X (λx y H Q=>r x y H Q\/U x y H Q):=by
 intro value slice pins s σ H x y v u Q I z D q J;rcases q with q|q
 .exact h value slice pins s σ H x y v u Q I z D q J
 .exact h' value slice pins s σ H x y v u Q I z D q J
def o_(z:IxR X r)(ha:PE X a ta)(D:PE X b tb)(J:u_ b):PE X (.Subscript a b pos) (tOp r ta tb):=by
 intro pins s σ H Q I h;exact Subscript_ (DW ha D I h λv u s2 x y H2 U Y Z q=>z a b pins s2 σ H2 x y v u Q U Y Z q (J _ _))
noncomputable def G7(K:M5):R2:=λx y H Q=>∃p xs i v,x=.ref p/\y=.int i/\SqL K H p xs/\atI xs i=some v/\Q v H
noncomputable def G8(K:M5):R2:=λx y H Q=>∃p xs i v,x=.ref p/\y=.int i/\SqT K H p xs/\atI xs i=some v/\Q v H
noncomputable def G9:R2:=λx y H Q=>∃z i c,x=.str z/\y=.int i/\z.length<=sizeLine/\atI z.cps.toList i=some c/\Q (.str ⟨#[c]⟩) H
def Be:IxR X (G7 X.K):=by
 intro value slice pins s σ H x y v u Q I rx ry h Z;refine mY h λp xs i z D J hq he q=>?_
 subst D;subst J;subst rx;obtain⟨t,rfl⟩:=ry;refine a8 (I.list hq) λits r pl hz=>?_
 refine oY (qa he) λj h1 h2 h3 h4 h5=>?_
 refine ae (r.get h2) λw ew U=>?_
 have hl:=r.length;have hn:=k4;have fin:EP X pins σ Q w s:=⟨z,H,I,U,q⟩;by_cases h0:0<=i
 .have Y:i.toNat=j:=by
   rw[seqIndex_of h0 h5]at h1;exact vr h1
  exact item_listR pl.isList h0 (by omega) (by rw[Y];simpa using ew) fin Z
 .have Y:(i+(its.toArray.size:Int)).toNat=j:=by
   rw[seqIndex_neg (MJ.mp ‹_›) h4]at h1;rw[pd,<- hl];exact vr h1
  exact subscriptTail_builtinR (x:=w) pl.isList.typeIs slot_list_getitem.lookup
   (wpAny_getItem_list_neg (Q:=λr s'=>r=w/\EP X pins σ Q r s') pl.isList (MJ.mp ‹_›) (by rw[pd]<;>omega) (by omega) (by rw[Y];simpa using ew) ⟨rfl,fin⟩) Z
def k8:IxR X (G8 X.K):=by
 intro value slice pins s σ H x y v u Q I Y Z h hs;refine bN λZq kq=>?_
 refine mY h λp xs i z D J hq he q=>?_
 subst D;subst J;subst Y;obtain⟨t,rfl⟩:=Z;refine a8 (I.tuple hq) λits r pl hz=>?_
 refine oY (qa he) λj h1 h2 h3 h4 h5=>?_
 refine ae (r.get h2) λw ew U=>?_
 have hl:=r.length;have hn:=k4;have fin:EP X pins σ Q w s:=⟨z,H,I,U,q⟩;refine kq ?_;exact subscriptTail_builtinR pl.typeIs slot_tuple_getitem.lookup
  (getItem_tuple pl (by omega) (by omega) (by rw[pd,<- hl];exact h1) (by simpa using ew) ⟨rfl,fin⟩) hs
def Ek:IxR X G9:=by
 intro value slice pins s σ H x y v u Q I U Y h Z;refine bN λZq kq=>?_
 refine oZ h λz i c D J hz he q=>?_
 subst D;subst J;obtain⟨t,rfl⟩:=U;obtain⟨t',rfl⟩:=Y;refine oY (qa he) λj h1 h2 h3 h4 h5=>?_
 have hl:z.cps.toList.length=z.length:=by rfl
 rw[hl]at h1 h4 h5;have hn:=k4;refine kq ?_;exact tail_any (typeIs_str s z t) slot_str_getitem.lookup (getItem_str (by
  have e1:decide (i < -(2 ^ 63:Int))=false:=Kn (by omega);have e2:decide (i>=2 ^ 63)=false:=Kn (by omega);rw[e1,e2,Bool.or_false]) (by rw[h1];simpa using h2) ⟨.str ⟨#[c]⟩,H,I.tok _,⟨_,rfl⟩,q⟩) Z
noncomputable def rIx(K:M5):R2:=λx y H Q=>G7 K x y H Q\/G8 K x y H Q\/G9 x y H Q
def yc:IxR X (rIx X.K):=Be.or (k8.or Ek)
def tJ (its:List Value) (n j) (u):Obj.mapSeq (·.setIfInBounds j u) { cls:=.type "list",data:=.seq its.toArray n }={ cls:=.type "list",data:=.seq (its.set j u).toArray n }:=by
 simp[Obj.mapSeq]
theorem Inv.lst(I:Inv X pins σ H s)(h:H p=some (.lst xs)) :
  ∃its n,aJ xs its/\s.heap.get? p=some { cls:=.type "list",data:=.seq its.toArray n }/\xs.length<=sizeLine:=by
 obtain⟨z,its,n,r,e⟩:=I.hok p _ h;exact⟨its,n,r,e,z⟩
def Inv.lstUpd{σ:St}{H:Hp}{s:Shared}{p:Addr}{xs ys:List V}{its its':List Value}{n z:Nat}{f:Obj->Obj}(I:Inv X pins σ H s)(h:H p=some (.lst xs))
  (ho:s.heap.get? p=some { cls:=.type "list",data:=.seq its.toArray n }) (D:f { cls:=.type "list",data:=.seq its.toArray n }={ cls:=.type "list",data:=.seq its'.toArray z }) (r:aJ ys its') (hz:ys.length<=sizeLine) (t) :
  Inv X pins σ (upd H p (.lst ys)) { s with heap:=s.heap.update p f,toks:=t }:=by
 have e:(s.heap.update p f).get? p=some { cls:=.type "list",data:=.seq its'.toArray z }:=by
  rw[KU f ho (by rw[D]<;>rfl),D]
 refine I.write (x:=p) (e:=p) (by rw[h];trivial) (.inl rfl) (λb u J q=>(KP _ _ (KD J)).trans q) ⟨_,e⟩ ?_;exact⟨hz,its',z,r,e⟩
def G_:V->V->V->Hp->(Hp->Prop)->Prop:=λo i v H Q=>∃p xs k j,o=.ref p/\i=.int k/\H p=some (.lst xs)/\ixN xs.length k=some j/\Q (upd H p (.lst (xs.set j v)))
def set_list:Jt X G_:=by
 intro pins s σ H o i v ov iv u Q I ro ri rv h;refine mY h λp xs k j z D Y hj q=>?_
 subst z;subst D;subst ro;obtain⟨t,rfl⟩:=ri;refine au (I.lst Y) λits n r ho hz=>?_
 refine gC (u7 hj) λh1 h2 h3 h4=>?_
 have J:=r.length;have hn:=k4;have Z:Inv X pins σ (upd H p (.lst (xs.set j v))) { s with heap:=s.heap.update p (Obj.mapSeq (·.setIfInBounds j u)) }:=
  I.lstUpd Y ho (tJ its n j u) (r.set rv j) (by rw[L4];exact hz) s.toks
 by_cases h0:0<=k
 .have U:k.toNat=j:=by
   rw[seqIndex_of h0 h4]at h1;exact vr h1
  exact PySem.W.ki_setAt ho h0 (by omega) (by rw[pd,<- J];exact h4) (by rw[U];exact⟨_,Z,q⟩)
 .have U:(k+(its.toArray.size:Int)).toNat=j:=by
   rw[seqIndex_neg (MJ.mp ‹_›) h3]at h1;rw[pd,<- J];exact vr h1
  exact PySem.W.ki_setBack ho (MJ.mp ‹_›) (by rw[pd,<- J];exact h3) (by omega) (by rw[U];exact⟨_,Z,q⟩)
def qb(lo hi)(n):(sliceBounds lo hi none n).1=((HT.sIx n 0 lo:Nat):Int)/\(sliceBounds lo hi none n).2.1=((HT.sIx n n hi:Nat):Int)/\(sliceBounds lo hi none n).2.2=1:=by
 refine⟨?_,?_,rfl⟩
 .cases lo with
  |none=>rfl
  |some i =>
   simp[sliceBounds,HT.sIx,getD_none,show(1:Int) > 0 by decide,if_true];by_cases h:i<0
   .simp[h,if_true]<;>omega
   .simp[h,LZ]<;>omega
 .cases hi with
  |none=>rfl
  |some i =>
   simp[sliceBounds,HT.sIx,getD_none,show(1:Int) > 0 by decide,if_true];by_cases h:i<0
   .simp[h,if_true]<;>omega
   .simp[h,LZ]<;>omega
def oI(its:List Value)(lo hi:Option Int):slicePick its.toArray lo hi none=((its.drop (HT.sIx its.length 0 lo)).take (HT.sIx its.length its.length hi-HT.sIx its.length 0 lo)).toArray:=by
 refine jP (qb lo hi its.toArray.size) λh1 h2 h3=>?_
 unfold slicePick;rw[h1,h2,h3];simp only[sliceRange_one,pick_run,pd]<;>rfl
def JA(K:M5):V->Option Int->Option Int->Hp->VK->Prop:=λx lo hi H Q=>∃a xs,x=.ref a/\SqL K H a xs/\∀p,H p=none->Q (.ref p) (upd H p (.lst (rA xs lo hi)))
def Bf:SlR X (JA X.K):=by
 intro pins s σ H x v Z vu lo hi sl Q I J U pl Y h;refine au h λa xs D hx q=>?_
 subst D;subst J;refine a8 (I.list hx) λits r ht hz=>?_
 have z:=r.length;refine⟨"list",_,slot_list_getitem.lookup,ht.isList.typeIs,?_⟩;refine wpAny_getItem_list_slice ht.isList U pl Y .none (by simp) ?_ (by rw[pd]<;>omega);rw[oI,<- z];refine⟨.ref s.heap.objs.size,_,I.laid (t':=s.toks) (o:=.lst (rA xs lo hi)) (λb ob q=>mn _ q) (pb _) ?_,rfl,q _ (I.hok.fresh (pb _))⟩;exact⟨xb (lZ xs lo hi) hz,_,0,(r.drop (HT.sIx xs.length 0 lo)).take (HT.sIx xs.length xs.length hi-HT.sIx xs.length 0 lo),tu _ rfl⟩
noncomputable def iD:V->Bool
 | .non=>true
 | .bl _=>true
 | .int _=>true
 | .str _=>true
 | _=>false
noncomputable def eqV:V->V->Bool
 | .non,.non=>true
 | .bl a,.bl b=>a==b
 | .bl a,.int b=>(if a then 1 else 0)==b
 | .int a,.bl b=>a==(if b then 1 else 0)
 | .int a,.int b=>a==b
 | .str a,.str b=>a==b
 | _,_=>false
def yd(z:aI y u)(q:aI x v)(J:iD y=true)(D:iD x=true):SeqAt.EqAt A s u v (eqV y x):=by
 cases y with
 |non =>
  cases z;cases x with
  |non=>subst q;exact SeqAt.EqAt.same _
  |bl b=>subst q;exact SeqAt.EqAt.none_bool b
  |int b=>obtain⟨t,rfl⟩:=q;exact SeqAt.EqAt.none_int b t
  |str b=>obtain⟨t,rfl⟩:=q;exact SeqAt.EqAt.none_str b t
  | _=>exact absurd (show false=true from D) oe
 |bl a =>
  subst z;cases x with
  |non=>subst q;exact SeqAt.EqAt.bool_none a
  |bl b=>subst q;exact SeqAt.EqAt.bool_bool a b
  |int b=>obtain⟨t,rfl⟩:=q;exact SeqAt.EqAt.bool_int a b t
  |str b=>obtain⟨t,rfl⟩:=q;exact SeqAt.EqAt.bool_str a b t
  | _=>exact absurd (show false=true from D) oe
 |int a =>
  obtain⟨t',rfl⟩:=z;cases x with
  |non=>subst q;exact SeqAt.EqAt.int_none a t'
  |bl b=>subst q;exact SeqAt.EqAt.int_bool a t' b
  |int b=>obtain⟨t,rfl⟩:=q;exact SeqAt.EqAt.int_int a t' b t
  |str b=>obtain⟨t,rfl⟩:=q;exact SeqAt.EqAt.int_str a t' b t
  | _=>exact absurd (show false=true from D) oe
 |str a =>
  obtain⟨t',rfl⟩:=z;cases x with
  |non=>subst q;exact SeqAt.EqAt.str_none a t'
  |bl b=>subst q;exact SeqAt.EqAt.str_bool a t' b
  |int b=>obtain⟨t,rfl⟩:=q;exact SeqAt.EqAt.str_int a t' b t
  |str b=>obtain⟨t,rfl⟩:=q;exact SeqAt.EqAt.str_str a t' b t
  | _=>exact absurd (show false=true from D) oe
 | _=>exact absurd (show false=true from J) oe
def jU:ce X (.builtin "len") (λxs H Q=>∃p ys,xs=[.ref p]/\(SqL X.K H p ys\/SqT X.K H p ys)/\Q (.int ys.length) H):=by
 intro pins s σ H xs us Q I r h;refine au h λp ys J D q=>?_
 subst J;refine ae (ik r) λu U Z=>?_
 subst U;subst Z;have hn:=k4;rcases D with D|D
 .obtain⟨its,Y,pl,hz⟩:=I.list D;have z:=Y.length;exact Calls.call_len_list pl.isList (by simp[pd]<;>omega) ⟨.int ys.length,H,I.tok _,⟨s.toks+1,by rw[pd,z]⟩,q⟩
 .obtain⟨its,Y,pl,hz⟩:=I.tuple D;have z:=Y.length;exact len_tuple pl (by simp[pd]<;>omega) ⟨.int ys.length,H,I.tok _,⟨s.toks+1,by rw[pd,z]⟩,q⟩
def qc:ce X (.type "list") (λxs H Q=>∃p ys,xs=[.ref p]/\(SqL X.K H p ys\/SqT X.K H p ys)/\∀l,H l=none->Q (.ref l) (upd H l (.lst ys))):=by
 intro pins s σ H xs us Q I r h;refine au h λp ys Y J q=>?_
 subst Y;refine ae (ik r) λu Z rx=>?_
 subst Z;subst rx;have fin:∀its,aJ ys its->ys.length<=sizeLine->∀h' z,(∀b o',s.heap.get? b=some o'->h'.get? b=some o') ->
   h'.get? s.heap.objs.size=some { cls:=.type "list",dict:=none,data:=.seq its.toArray z,slots:=#[] }->EP X pins σ Q (.ref s.heap.objs.size) { s with heap:=h' }:=λits D hz h' z kp e =>
  ⟨.ref s.heap.objs.size,_,I.laid (t':=s.toks) kp (pb _) (show bH X.prog X.w _ h' _ (.lst ys)from⟨hz,its,z,D,e⟩),rfl,q _ (I.hok.fresh (pb _))⟩
 rcases J with J|J
 .obtain⟨its,D,pl,hz⟩:=I.list J;have U:=D.length;obtain⟨o,ho,hc,n,hd⟩:=pl.isList;exact call_list_seq p (.inl rfl) ho hc hd (λh' z kp e=>fin its D hz h' z kp e) (by simp only[pd]<;>omega)
 .obtain⟨its,D,pl,hz⟩:=I.tuple J;have U:=D.length;obtain⟨o,ho,hc,n,hd⟩:=pl;exact call_list_seq p (.inr rfl) ho hc hd (λh' z kp e=>fin its D hz h' z kp e) (by simp only[pd]<;>omega)
def jg:ce X (.type "tuple") (λxs H Q=>∃p ys,xs=[.ref p]/\((SqL X.K H p ys/\∀l,H l=none->Q (.ref l) (upd H l (.tup ys)))\/(SqT X.K H p ys/\Q (.ref p) H))):=by
 intro pins s σ H xs us Q I r h;obtain⟨p,ys,rfl,h⟩:=h;refine ae (ik r) λu z Z=>?_
 subst z;subst Z;rcases h with⟨D,q⟩|⟨D,q⟩
 .refine a8 (I.list D) λits J pl hz=>?_
  have U:=J.length;refine call_tuple_list pl.isList (λh' kp=>?_) (by simp[pd]<;>omega);have Y:=I.kept (t':=s.toks) kp;have I2:Inv X pins σ (upd H h'.objs.size (.tup ys)) { s with heap:=h'.push { cls:=.type "tuple",data:=.seq its.toArray } }:=
   Y.laid (λb o e=>mn _ e) (pb _) (show bH X.prog X.w _ _ _ _ from⟨hz,its,J,IsTup.new _ _⟩)
  exact⟨.ref h'.objs.size,_,I2,rfl,q _ (Y.hok.fresh (pb _))⟩
 .refine a8 (I.tuple D) λits J pl hz=>?_
  exact call_tuple_same pl ⟨.ref p,H,I,rfl,q⟩
def tyV(K:M5)(T:String)(x:V)(H:Hp):Prop:=match x with
 | .str _=>T="str"
 | .int _=>T="int"
 | .ref p=>(T="list"/\∃xs,SqL K H p xs)\/(T="tuple"/\∃o,K.lookup p=some o/\o.cls=.type "tuple"/\o.dict=none) \/
   (T="dict"/\((∃kvs,H p=some (.dK kvs))\/∃kvs,H p=some (.dT kvs)))\/(T="set"/\∃S n,H p=some (.set S n))
 | _=>False
def El(I:Inv X pins σ H s)(r:aI x v)(ty:tyV X.K T x H) :
  s.TypeIs v T/\∀a,v=.ref a->∃ob,s.heap.get? a=some ob/\ob.dict=none:=by
 cases x with
 |str z =>
  obtain⟨t,rfl⟩:=r;cases (show T="str" from ty);exact⟨typeIs_str s z t,λ_ e=>nomatch e⟩
 |int i =>
  obtain⟨t,rfl⟩:=r;cases (show T="int" from ty);exact⟨typeIs_int s i t,λ_ e=>nomatch e⟩
 |ref p =>
  subst r;rcases ty with⟨rfl,xs,J⟩|⟨rfl,o,q,hc,hd⟩|⟨rfl,q⟩|⟨rfl,S,n,q⟩
  .refine a8 (I.list J) λits _ pl _=>?_
   refine⟨pl.isList.typeIs,λa e=>?_⟩;cases e;refine ij pl λo n e c hd _=>?_
   exact⟨o,e,hd⟩
  .refine⟨⟨o,I.kIn p o q,hc⟩,λa e=>?_⟩;cases e;exact⟨o,I.kIn _ o q,hd⟩
  .have z:∃o,s.heap.get? p=some o/\o.ExactDict:=by
    rcases q with⟨kvs,q⟩|⟨kvs,q⟩
    .obtain⟨_,_,_,_,o,_,_,e,ex,_⟩:=I.hok p _ q;exact⟨o,e,ex⟩
    .obtain⟨_,_,_,_,o,_,_,e,ex,_⟩:=I.hok p _ q;exact⟨o,e,ex⟩
   obtain⟨o,e,ex⟩:=z;refine⟨⟨o,e,ex.1⟩,λa D=>?_⟩;cases D;exact⟨o,e,ex.2.1⟩
  .refine GQ (I.hok p _ q) λo _ _ _ e ex _=>?_
   refine⟨⟨o,e,ex.1⟩,λa D=>?_⟩;cases D;exact⟨o,e,ex.2.1⟩
 | _=>exact False.elim ty
noncomputable def tBM(K:M5)(T:String)(r:V->List V->Hp->VK->Prop)(to:TE)(t:TA):TE:=λσ H Q=>to σ H λx H1=>tyV K T x H1/\t σ H1 λxs H2=>r x xs H2 Q
variable{o e:Expr}{es:List Expr}{to:TE}{t:TA}{name:Str}{apos cpos:Pos}{T id:String}{r:V->List V->Hp->VK->Prop}
def vb (pa:PlainAttrs T) (slot:Slot T name id) (U:typeOf (.builtin id)=pure (.type "method_descriptor")) (hm:MtR X id r) (ho:PE X o to) (ha:PA X (e::es) t)
  (z:attributeBase o name X.env (eval o X.env)=eval o X.env:=by rfl)
  (J:((backTo cpos (starEach (e::es) X.env)).all (λx=>!x.1)&&(backToKw cpos (keywordEach [] X.env)).all (λx=>x.1.isSome)
  &&decide ((e::es).length+([]:List Keyword).length+(if ([]:List Keyword).isEmpty then 0 else 1)<30))=true:=by rfl)
  (D:(apos.endLine==cpos.line)=true:=by rfl) (hs:starEach (e::es) X.env=(false,eval e X.env)::starEach es X.env:=by rfl) (q:(backTo cpos (starEach es X.env)).any (·.1)=false:=by rfl) :
  PE X (.Call (.Attribute o name apos) (e::es) [] cpos) (tBM X.K T r to t):=by
 intro pins s σ H Q I h;refine wpAny_Call_method_late z J D rfl (thn (ho pins s σ H _ I h) λv s1 Y=>ij Y λx H1 Z r1 ty q1=>?_);obtain⟨h1,h2⟩:=El Z r1 ty;refine⟨T,id,pa,slot,U,h1,h2,?_⟩;have hA:=ha cpos pins s1 σ H1 _ Z q1;rw[hs]at hA ⊢;refine Calls.callWith_builtin (by show(false||(backTo cpos (starEach es X.env)).any (·.1))=false;rw[q]<;>rfl) (Calls.evalArgs_plain ?_);exact thn hA λus s2 Y=>au Y λvs H2 I2 r2 q2=>hm pins s2 σ H2 x vs v us Q I2 r1 r2 q2
end
def MtM(X:Cx)(id:String)(r:V->List V->Hp->VK->Prop):Prop:=
 ∀pins s (σ:St) H x xs v us Q,Inv X pins σ H s->aI x v->aJ xs us->r x xs H Q ->
  wpAny (model X.prog X.w) X.A (call (.builtin id) (v::us)) (EP X pins σ Q) X.xe s
theorem aJ.one:∀{x}{us},aJ [x] us->∃u,us=[u]/\aI x u
 | _,_,.cons r .nil=>⟨_,rfl,r⟩
def aJ.zero:∀{us},aJ [] us->us=[]
 | _,.nil=>rfl
theorem aJ.reverse(h:aJ xs us):aJ xs.reverse us.reverse:=by
 induction h with
 |nil=>exact .nil
 |cons r t ih=>rw[reverse_cons,reverse_cons];exact aJ.append ih (.cons r .nil)
section
variable{X:Cx}{pins:List (Addr×Obj)}{σ:St}{H:Hp}{s:Shared}{l b:Addr}{xs ys zs:List V}
theorem Inv.lset{its its':List Value}{n:Nat}{f:Array Value->Array Value}{t':Nat}(I:Inv X pins σ H s)(z:H l=some (.lst xs))
  (e:s.heap.get? l=some { cls:=.type "list",data:=.seq its.toArray n }) (D:f its.toArray=its'.toArray) (J:aJ ys its') (hz:ys.length<=sizeLine) :
  Inv X pins σ (upd H l (.lst ys)) { s with heap:=s.heap.update l (Obj.mapSeq f),toks:=t' }:=by
 have q:=PySem.IsL.update e f;rw[D]at q;refine I.write (x:=l) (e:=l) (by rw[z];exact trivial) (.inl rfl) (λZ u U Y=>(KP s.heap (Obj.mapSeq f) (KD U)).trans Y) ⟨_,q⟩ ?_;exact⟨hz,its',_,J,q⟩
theorem Inv.lnew(I:Inv X pins σ H s)(z:aJ ys its)(hz:ys.length<=sizeLine) :
  Inv X pins σ (upd H s.heap.objs.size (.lst ys)) { s with heap:=s.heap.push { cls:=.type "list",data:=.seq its.toArray },toks:=t' }:=
 I.laid (λ_ _ q=>mn _ q) (pb _) ⟨hz,its,0,z,tu _ rfl⟩
theorem Inv.fresh(I:Inv X pins σ H s):H s.heap.objs.size=none:=I.hok.fresh (pb _)
theorem Inv.lstM (I:Inv X pins σ H s) (q:H l=some (.lst xs)):xs.length<=sizeLine/\∃its n,aJ xs its/\xs.length=its.length/\s.heap.get? l=some { cls:=.type "list",data:=.seq its.toArray n }:=by
 obtain⟨z,its,n,r,e⟩:=I.hok l _ q;exact⟨z,its,n,r,r.length,e⟩
def rB(h:n<=sizeLine):Builtin.List.listTooLong n=false:=by simp_all [Builtin.List.listTooLong]
end
section
variable{X:Cx}
def qd:V->List V->Hp->VK->Prop:=λx vs H Q=>∃l xs y,x=.ref l/\vs=[y]/\H l=some (.lst xs)/\xs.length<sizeLine/\Q .non (upd H l (.lst (xs++[y])))
def iY:MtM X "list.append" qd:=by
 intro pins s σ H x vs v us Q I Z rv h;refine bN λZq kq=>?_
 refine oZ h λl xs y D J Y hz q=>?_
 subst D;subst J;subst Z;refine ae rv.one λu U ru=>?_
 subst U;obtain⟨z,its,n,r,hl,e⟩:=I.lstM Y;refine kq ?_;refine call_meets F.slot_list_append ⟨_,e,rfl⟩ F.entry_list_append (F.args_list_append_2 _ _) (PySem.list_append l its.toArray n u (by rw[pd];omega)) ⟨e,?_⟩;refine⟨.non,_,I.lset Y e (by simp) (r.append (.cons ru .nil)) ?_,rfl,q⟩
 grind
end
section
variable{prog:Program}{w:World}{A:Around}{E:Value->Shared->Prop}{s:Shared}
end
section
variable{X:Cx}
end
end L2
namespace Att
open PySem PySem.W PySem.Calls PyProof.Rows List Option
def mq :∀ns vs,WellAll P h vs (ns.map WData.int)->IntsAre vs ns:=by
 intro ns
 induction ns with
 |nil =>
  intro vs w;cases w;exact .nil
 |cons n ns ih =>
  intro vs w;cases w with
  |cons a b =>
   cases a;exact .cons _ _ (ih _ b)
def wl{l:OpenLaw}(hn:l.most=some n) 
  (q:l.row.toRowW.claim.pre args=true) (J:WellAll P h vals args) :
  ∃a vs ns,vals=[Value.ref a]/\args=[WData.list (ns.map WData.int)]/\h.get? a=some { cls:=.type "list",data:=.seq vs.toArray }/\IntsAre vs ns/\ns.length<=n:=by
 have U:WShape.hasAll [] args [.list .int]=true:=(pre_splitW q).1;have hc:l.pre.holds [] { args:=args }=true:=(pre_splitW q).2;refine au (hasAllW_cons U) λd r Y h1 h2=>?_
 subst Y;obtain rfl:=hasAllW_nil h2;refine ae (hasW_list h1) λxs Z h3=>?_
 subst Z;obtain⟨ns,rfl⟩:=items_int h3;have z:ns.length<=n:=by
  have h4:(WTm.not (.lt (.lit (.int (n:Int))) (.len (.arg 0)))).holds [] { args:=[.list (ns.map .int)] }=true:=by
   have h4:=(holds_andW hc).1;rw[hn]at h4;exact h4
  have h5:=condW_of h4 (w_not (w_lt w_lit (w_len_list (w_arg rfl))))
  simp_all
 cases J with
 |cons w1 w2 =>
  cases w2;cases w1 with
  |list ho D=>exact⟨_,_,ns,rfl,rfl,ho,mq ns _ D,z⟩
def wm(l:OpenLaw)(args):l.row.toRowW.claim.post args (.bool true) args=true:=
 postW_of (r:=l.row.toRowW) (X:=(true==true))
  (show WShape.has [] (.bool true) .bool=true by first|rfl|decide|simp[WShape.arms])
  (show(WTm.eq .res (.lit (.bool true))).value [] { args:=args,res:=some (.bool true),after:=args }=some (.bool (true==true))from w_eq_bool (w_res rfl) w_lit) rfl
def attach_call{l:OpenLaw}{n:Nat}{q:Program}{D:List Str}{XP:(Str->Option Value)->Heap->Prop}{YP:World->Heap->Prop}{d:DefRec}
  (hn:l.most=some n) (a1:d.params.defaults=[])
  (call:∀w s₀ z mg mb Z o pm cd J a vs ns,
   Ground q D [] XP w s₀ mg mb z.heap->YP w z.heap ->
   z.heap.get? Z=some o->o.data=.func (docDef d.name d.params d.body d.scope pm cd J)->z.heap.CodeRec cd d.name->mg d.name=some (.ref Z) ->
   z.heap.get? a=some { cls:=.type "list",data:=.seq vs.toArray }->IntsAre vs ns->ns.length<=n->z.gens=#[] ->
   codeAny (model l.prog w) callerA (.call (.ref Z) ⟨[.ref a],[]⟩) (λr s'=>r=.ok (.ret (.bool true))/\OldK z.heap s'.heap/\s'.os=z.os/\AllBare s'.gens) z) :
  WalkO q D XP YP l.row.toRowW d [] (λf vs=>PySem.call f vs):=by
 intro w s₀ z mg mb G Y Z o pm cd J dV kV ho hd a3 hD a4 hg args vals as ao bS b0 a5 b1;obtain rfl:dV=.none:=Dflts.none hD a1;obtain rfl:kV=.none:=Dflts.noKw hD;refine oZ (wl hn ao a5) λa vs ns a6 a7 ar U aL=>?_
 subst a6;subst a7;refine enter_call (Lq (call w s₀ z mg mb Z o pm cd J a vs ns G Y ho (fd_plain hd) a3 a4 ar U aL hg) λr s' hq=>?_);refine gC hq λbt h2 h3 h4=>?_
 subst bt;exact⟨.inl ⟨.bool true,.bool true,[],rfl,λ_=>rfl,.bool true,wm l _,λ_=>⟨Pairwise.nil,λ_ hm=>(nomatch hm)⟩⟩,h2,h3,h4⟩
section
variable{prog:Program}{w:World}{A:Around}{E:Value->Shared->Prop}{s:Shared}{K:Frag}
end
end Att
namespace L2
open PySem PySem.Spec PyProof.Rows List Option
theorem k9:∀{vs}{ns},IntsAre vs ns->aJ (ns.map V.int) vs
 | _,_,.nil=>.nil
 | _,_,.cons n t h=>.cons ⟨t,rfl⟩ (k9 h)
def Em(H:Hp):Prop:=∀b,H b=none\/∃o xs,H b=some (.frz o (.lst xs))
def ye{K:M5} 
  (KX:K.In D.heap) (ao:D.heap.Ns mainGlobals mg) (J:D.heap.Ns builtinsNs mb) (a3:∀x:Str,x ≠ "__name__"->mb x=bootBuiltins x) (ar:D.heap.NoLimit) (hg:D.gens=#[])
  (ha:D.heap.get? a=some { cls:=.type "list",data:=.seq vs.toArray }) (hi:IntsAre vs ns) (hl:ns.length<=sizeLine) (hr:dA k callerA)
  (F:∀base,K.In base->base.Ns mainGlobals mg->cT P w K mg base CX k fa fd [x] sp) (Z:∀s u,BindsTo s fd ⟨[u],[]⟩ [(x,u)])
  (a4:∀H,Em H->SqL K H a (ns.map V.int)->sp [.ref a] H (λv _=>v=.bl true) λ_ _ _=>False)
  (a5:∀H e s',CX [] H D (λ_ _ _=>False) e s'->False) :
  codeAny (model P w) callerA (.call (.ref fa) ⟨[.ref a],[]⟩) (λr s'=>r=.ok (.ret (.bool true))/\OldK D.heap s'.heap/\s'.os=D.os/\AllBare s'.gens) D:=by
 have rv:=k9 hi;have aL:=hi.length;have Y:∀H,Em H->SqL K H a (ns.map V.int)->HOk P w H D.heap->(∀b,H b≠none->b=a)->(H a≠none->K.lookup a=none) ->
   codeAny (model P w) callerA (.call (.ref fa) ⟨[.ref a],[]⟩) (λr s'=>r=.ok (.ret (.bool true))/\OldK D.heap s'.heap/\s'.os=D.os/\AllBare s'.gens) D:=by
  intro H hO hS hok hA hK;have base_of:∀{b}{o},D.heap.get? b=some o->H b=none->(pV D.heap H).get? b=some o:=λe n=>xC e n
  have a6:∀{b}{o}{es}{ep},D.heap.get? b=some o->o.data=.dict es ep->H b=none:=λ{b o es ep} e d=>by
   cases q:H b with
   |none=>rfl
   |some u =>
    have e':=hA b (by rw[q];simp);subst e';rw[ha]at e;cases e
    have d':=d;cases d'
  have U:∀{b}{m},D.heap.Ns b m->(pV D.heap H).Ns b m:=λ{b m} ⟨o,es,ep,e,d,r⟩=>⟨o,es,ep,base_of e (a6 e d),d,r⟩
  have a0:K.In (pV D.heap H):=λb o e=>base_of (KX b o e) (by
   cases q:H b with
   |none=>rfl
   |some u =>
    have e':=hA b (by rw[q];simp);subst e';rw[hK (by rw[q];simp)]at e;exact bc e)
  have hM:Mod K mg (pV D.heap H):=⟨a0,U ao,⟨mb,U J,a3⟩,let ⟨mc,h1,h2⟩:=ar;⟨mc,U h1,h2⟩⟩;have e0:tG P w K mg (pV D.heap H) callerA [] D H:=⟨rfl,hM,λb o e=>A0 e,Lb (v9 _ _),trivial,λb J=>absurd (show b∈([]:List Addr)from J) (by simp),hok,.of_eq hg⟩;refine Lq ((F _ a0 (U ao)).run callerA [] D H ⟨[.ref a],[]⟩ [.ref a] [.ref a] _ _ hr e0 (Z D (.ref a)) (.cons rfl .nil) (a4 H hO hS)) λr s' h=>?_
  cases r with
  |error e=>exact(a5 H e s' h).elim
  |ok fl =>
   cases fl with
   |ret u =>
    refine CV h λv H' os bare un a1 r' q=>?_
    have q':=q;subst q';obtain rfl:u=Value.bool true:=r';refine⟨rfl,OldK.of_keep λb o e=>?_,os,bare⟩;cases q:H b with
    |none=>exact un.keep b o e q (by intro z;exact absurd (show b∈([]:List Addr)from z) (by simp)) (by simp)
    |some u =>
     rcases hO b with z|⟨ob,xs,z⟩
     .rw[q]at z;cases z
     .have z2:=un.frzs b ob _ z;obtain⟨e1,_⟩:=hok b _ z;obtain⟨e2,_⟩:=a1 b _ z2;rw[e]at e1;cases e1
      exact e2
   | _=>exact False.elim h
 cases hk:K.lookup a with
 |some o =>
  have e:=KX a o hk;rw[ha]at e;cases e;refine Y (λ_=>none) (λ_=>.inl rfl) (.inr ⟨_,vs.toArray,_,hk,rfl,rfl,rfl,by rw[pd,aL];exact hl,by simpa using rv⟩) (λb u z=>by have z':=z;exact bc z') (λb z=>absurd rfl z) λz=>absurd rfl z
 |none =>
  refine Y (λb=>if b=a then some (.frz { cls:=.type "list",data:=.seq vs.toArray } (.lst (ns.map V.int)))else none) (λb=>?_) (.inl (.inr ⟨{ cls:=.type "list",data:=.seq vs.toArray },if_pos rfl⟩)) (λb u z=>?_) (λb z=>?_) λ_=>hk
  .by_cases J:b=a
   .exact .inr ⟨_,_,if_pos J⟩
   .exact .inl (if_neg J)
  .by_cases J:b=a
   .have z':=(if_pos J).symm.trans z;cases z';subst J;exact⟨ha,by rw[sm];exact hl,vs,_,rv,ha⟩
   .have z':=(if_neg J).symm.trans z;exact bc z'
  .by_cases J:b=a
   .exact J
   .exact absurd (if_neg J) z
def Bg{l:PySem.W.OpenLaw}{n k:Nat}{q:Program}{D:List Str}{XP:(Str->Option Value)->Heap->Prop}{YP:World->Heap->Prop}{d:DefRec}{K:Params->M5}{CX:World->CXT}{sp:World->Sp}{x:Str}
  (hn:l.most=some n) (ar:n<=sizeLine) (aL:d.params.defaults=[]) (hr:dA k callerA)
  (hY:∀w h,YP w h->(K w.params).In h)
  (F:∀w mg fa h,(K w.params).In h->h.Ns mainGlobals mg->mg d.name=some (.ref fa) ->
   ∃fd,(∀s u,BindsTo s fd ⟨[u],[]⟩ [(x,u)]) /\
    ∀base,(K w.params).In base->base.Ns mainGlobals mg->cT l.prog w (K w.params) mg base (CX w) k fa fd [x] (sp w))
  (a0:∀w H a (ns:List Int),ns.length<=n->Em H->SqL (K w.params) H a (ns.map V.int)->sp w [.ref a] H (λv _=>v=.bl true) λ_ _ _=>False)
  (a1:∀w H s e s',CX w [] H s (λ_ _ _=>False) e s'->False) :
  PySem.W.WalkO q D XP YP l.row.toRowW d [] (λf vs=>PySem.call f vs):=by
 refine Att.attach_call hn aL λw s₀ U mg mb fa o pm cd bt a vs ns G Y ho hd bA a2 Z J z hg=>?_
 have KX:=hY w _ Y;refine ae (F w mg fa _ KX G.T.g a2) λfd hb hF=>?_
 exact ye KX G.T.g G.T.b G.T.builtins G.T.nolimit hg Z J (xb z ar) hr hF hb (λH hO hS=>a0 w H a ns z hO hS) λH e s'=>a1 w H U e s'
noncomputable def dB(s:Stmt)(j:Nat):Stmt:=match s with
 | .ClassDef _ _ _ body _ _ _ _ _ _ _=>body.getD j (.Pass ⟨0,0,0,0⟩)
 | _=>.Pass ⟨0,0,0,0⟩
noncomputable def jV(s:Stmt):Arguments:=match s with
 | .FunctionDef _ a _ _ _ _ _ _ _ _=>a
 | _=>{ posonlyargs:=[],args:=[],vararg:=none,kwonlyargs:=[],kw_defaults:=[],kwarg:=none,defaults:=[] }
noncomputable def bo(s:Stmt):List Stmt:=match s with
 | .FunctionDef _ _ b _ _ _ _ _ _ _=>b
 | _=>[]
noncomputable def ag(s:Stmt):Scope:=match s with
 | .FunctionDef _ _ _ _ _ _ sc _ _ _=>sc
 | _=>{ kind:=.function,names:=[],isGenerator:=false,isCoroutine:=false }
noncomputable abbrev CX0:CXT:=λ_ _ _ _ _ _=>False
noncomputable abbrev E0:XK:=λ_ _ _=>False
def eW :gZ CX0 X E0:=λ_ _ _ _ _ _ _ h=>h.elim
section
variable{P:Program}{w:World}{K:M5}{mg:Str->Option Value}{base:Heap}
end
section
variable{X:Cx}
def pv (i) {pos:Pos} (z:X.N[i]?=some x:=by rfl) (D:Vis X.env.scope x:=by first|exact Or.inl rfl|exact Or.inr (Or.inl rfl)|exact Or.inr (Or.inr rfl)) (hd:(x==("__debug__":Str))=false:=by decide)
  (q:(x==("__classdict__":Str))=false:=by decide):PE X (.Name x pos) (cA i):=xD z D hd q
end
def af(H H':Hp):Prop:=∀b o,H b=some o->H' b=some o
def af.refl(H):af H H:=λ_ _ h=>h
def af.trans(a:af H H1)(b:af H1 H2):af H H2:=λc o h=>b c o (a c o h)
def af.free(e:af H H')(h:H' l=Option.none):H l=Option.none:=by
 cases q:H l with
 |none=>rfl
 |some o =>
  rw[e l o q]at h;cases h
theorem af.seq{K:M5}(e:af H H')(h:SqL K H a xs):SqL K H' a xs:=by
 rcases h with(h|⟨o,h⟩)|h
 .exact .inl (.inl (e _ _ h))
 .exact .inl (.inr ⟨o,e _ _ h⟩)
 .exact .inr h
section
variable{g:Type} [DecidableEq g]
noncomputable def jW(kvs:List (g×V))(k:g):Option V:=(kvs.find? λq=>decide (q.1=k)).map (·.2)
noncomputable def jc(kvs:List (g×V))(k:g)(v:V):List (g×V):=
 if (kvs.any λq=>decide (q.1=k))=true then kvs.map (λq=>if q.1=k then(q.1,v)else q)else kvs++[(k,v)]
noncomputable def J4(kvs:List (g×V))(k:g):List (g×V):=kvs.filter λq=>decide (q.1≠k)
def nc{k:g}(e:p.1=k):jW (p::r) k=some p.2:=by simp_all [jW]
def ng{k:g}(e:¬ p.1=k):jW (p::r) k=jW r k:=by simp_all [jW]
theorem rC(k):∀kvs:List (g×V),(kvs.any λq=>decide (q.1=k))=(jW kvs k).isSome
 | []=>rfl
 |p::r=>by
  rw[any_cons];by_cases e:p.1=k
  .simp[nc e,Ka e]
  .rw[ng e,Kn e,Bool.false_or];exact rC k r
def l_(kvs)(k:g)(v):(jc kvs k v).length<=kvs.length+1:=by grind [jc,length_map,length_append,length_cons,length_nil]
def iq.isSome_eq(r:iq o u):o.isSome=u.isSome:=by
 cases o<;>first|(cases u<;>first|rfl|exact(show False from r).elim)|(cases u<;>first|exact(show False from r).elim|rfl)
theorem iq.getD(r:iq o u)(rd:aI d d'):aI (o.getD d) (u.getD d'):=by
 cases o<;>first|(cases u<;>first|exact rd|exact(show False from r).elim)|(cases u<;>first|exact(show False from r).elim|exact r)
theorem KV.val(r:KV kvs vs)(k:g):iq (jW kvs k) (valueAt vs k):=by
 induction r with
 |nil=>exact True.intro
 | @cons p q ps D h t ih =>
  obtain⟨h1,h2⟩:=h;by_cases e:p.1=k
  .have J:=h1.symm.trans e;have b:valueAt (q::D) k=some q.2:=by simp[valueAt,find?_cons,J]
   rw[nc e,b];exact h2
  .have J:¬ q.1=k:=λz=>e (h1.trans z)
   have b:valueAt (q::D) k=valueAt D k:=by simp[valueAt,find?_cons,J]
   rw[ng e,b];exact ih
theorem KV.any(r:KV kvs vs)(k:g):(kvs.any λq=>decide (q.1=k))=vs.any λq=>decide (q.1=k):=by
 induction r with
 |nil=>rfl
 |cons h t ih=>rw[any_cons,any_cons,ih,h.1]
def KV.repl(r:KV kvs vs)(k:g)(J:aI y u) :
  KV (kvs.map λD=>if D.1=k then(D.1,y)else D) (vs.map λD=>if D.1=k then(D.1,u)else D):=by
 induction r with
 |nil=>exact .nil
 | @cons p q ps U h t ih =>
  rw[J8,J8];refine .cons ?_ ih;obtain⟨h1,h2⟩:=h;by_cases e:p.1=k
  .rw[if_pos e,if_pos (h1.symm.trans e)];exact⟨h1,J⟩
  .rw[if_neg e,if_neg (λz=>e (h1.trans z))];exact⟨h1,h2⟩
theorem KV.put(r:KV kvs vs)(k:g)(q:aI y u):KV (jc kvs k y) (stored vs k u):=by
 unfold jc stored;rw[r.any k];by_cases e:(vs.any λz=>decide (z.1=k))=true
 .rw[if_pos e,if_pos e];exact r.repl k q
 .rw[if_neg e,if_neg e];exact Paired.snoc r ⟨rfl,q⟩
def KV.keys{vs:List (g×Value)}(r:KV kvs vs):kvs.map (·.1)=vs.map (·.1):=by
 induction r with
 |nil=>rfl
 |cons h t ih=>rw[J8,J8,ih,h.1]
theorem KV.length(r:KV kvs vs):kvs.length=vs.length:=Paired.length r
end
def pf(r:aI (kV k) u):(cm P w).is k u=true:=by
 cases k with
 |inl i=>obtain⟨t,e⟩:=(show ∃t,u=Value.int i t from r);subst e;exact qX P w i t
 |inr x=>obtain⟨t,e⟩:=(show ∃t,u=Value.str x t from r);subst e;exact qY P w x t
theorem ph :∀{ks}{us},aJ (ks.map kV) us->ItemsAre (cm P w) ks us
 | [],_,r=>by rw[map_nil]at r;cases r;exact .nil
 |k::ks,_,r=>by
  cases r with
  |cons h t=>exact .cons (pf h) (ph t)
abbrev KT(H:Hp):List (List Key×V)->List (List Key×Addr×Value)->Prop:=Paired λp q=>p.1=q.1/\H q.2.1=some (.tup (p.1.map kV))/\aI p.2 q.2.2
theorem KT.val(r:KT H kvs xs)(k):iq (jW kvs k) ((atKey xs k).map (·.2)):=by
 induction r with
 |nil=>exact True.intro
 | @cons p q ps D h t ih =>
  refine jP h λh1 _ h2=>?_
  by_cases e:p.1=k
  .have J:=h1.symm.trans e;have b:atKey (q::D) k=some q.2:=by simp[atKey,find?_cons,J]
   rw[nc e,b];exact h2
  .have J:¬ q.1=k:=λz=>e (h1.trans z)
   have b:atKey (q::D) k=atKey D k:=by simp[atKey,find?_cons,J]
   rw[ng e,b];exact ih
def KT.repl(r:KT H kvs xs)(k)(J:aI y u) :
  KT H (kvs.map λD=>if D.1=k then(D.1,y)else D) (xs.map (putAt k u)):=by
 induction r with
 |nil=>exact .nil
 | @cons p q ps U h t ih =>
  rw[J8,J8];refine .cons ?_ ih;refine jP h λh1 h2 h3=>?_
  unfold putAt;by_cases e:p.1=k
  .rw[if_pos e,if_pos (h1.symm.trans e)];exact⟨h1,h2,J⟩
  .rw[if_neg e,if_neg (λz=>e (h1.trans z))];exact⟨h1,h2,h3⟩
theorem KT.put(r:KT H kvs xs)(k)(D:H b=some (.tup (k.map kV)))(z:aI y u) :
  KT H (jc kvs k y) (storedH xs k b u):=by
 have e:(kvs.any λJ=>decide (J.1=k))=(atKey xs k).isSome:=by
  rw[rC,(r.val k).isSome_eq,isSome_map]
 unfold jc storedH;rw[e];by_cases q:(atKey xs k).isSome=true
 .rw[if_pos q,if_pos q];exact r.repl k z
 .rw[if_neg q,if_neg q];exact Paired.snoc r ⟨rfl,D,z⟩
def KT.keeps(r:KT H kvs xs)(ht:∀b ys,H b=some (.tup ys)->H' b=some (.tup ys)):KT H' kvs xs:=
 Paired.mapP r λ_ _ z=>⟨z.1,ht _ _ z.2.1,z.2.2⟩
section
variable{P:Program}{w:World}{H:Hp}{h:Heap}{a:Addr}
def C0(ok:HOk P w H h)(e:Rd H a u):bH P w H h a u:=e.ok ok
def jX(ok:HOk P w H h)(e:Rd H a (.dK kvs)):kvs.length<=sizeLine/\(a==sysModules)=false/\∃vs,KV kvs vs/\h.DictOf (cm P w) a vs:=
 show bH P w H h a (.dK kvs)from C0 ok e
def Ha(ok:HOk P w H h)(e:H a=some (.dK kvs)):kvs.length<=sizeLine/\(a==sysModules)=false/\∃vs,KV kvs vs/\h.DictOf (cm P w) a vs:=jX ok (.inl e)
def k_(ok:HOk P w H h)(e:H a=some (.tup (ks.map kV))):(tupleKind (cm P w)).is h ks a:=by
 obtain⟨_,its,r,o,h1,h2,n,h3⟩:=(show bH P w H h a _ from ok a _ e);exact⟨o,its.toArray,n,h1,h2,h3,by simpa using ph r⟩
def nh(ok:HOk P w H h)(e:Rd H a (.dT kvs)):kvs.length<=sizeLine/\(a==sysModules)=false /\
  ∃xs,KT H kvs xs/\h.DictOfH (tupleKind (cm P w)) a xs:=by
 refine bN λU J=>?_
 obtain⟨z,y,xs,r,o,es,ep,h1,h2,h3,h4,h5⟩:=(show bH P w H h a _ from C0 ok e);refine J ?_;refine⟨z,y,xs,r,o,es,ep,h1,h2,h3,h4,λx hx=>?_,h5⟩;have all:∀{l}{m},KT H l m->∀x∈m,(tupleKind (cm P w)).is h x.1 x.2.1:=by
  intro l m q
  induction q with
  |nil=>intro x hx;exact nomatch hx
  | @cons p q ps Y D t ih =>
   intro x hx;rcases pe.mp hx with e|hx
   .subst e;exact k_ ok (by rw[<- D.1];exact D.2.1)
   .exact ih x hx
 exact all r x hx
def Hb(ok:HOk P w H h)(e:H a=some (.dT kvs)):kvs.length<=sizeLine/\(a==sysModules)=false /\
  ∃xs,KT H kvs xs/\h.DictOfH (tupleKind (cm P w)) a xs:=nh ok (.inl e)
end
def ni(H:Hp)(a:Addr)(y:V)(r:Option V):Prop:=
 (∃kvs k,Rd H a (.dK kvs)/\y=kV k/\r=jW kvs k)\/∃kvs k b,Rd H a (.dT kvs)/\y=.ref b/\H b=some (.tup (k.map kV))/\r=jW kvs k
def nj(H:Hp)(a:Addr)(y v:V)(H':Hp):Prop:=
 (∃kvs k,H a=some (.dK kvs)/\y=kV k/\kvs.length<sizeLine/\H'=upd H a (.dK (jc kvs k v))) \/
 ∃kvs k b,H a=some (.dT kvs)/\y=.ref b/\H b=some (.tup (k.map kV))/\kvs.length<sizeLine/\H'=upd H a (.dT (jc kvs k v))
theorem nj.k{k:Key}{v:V}(e:H a=some (.dK kvs))(q:kvs.length<sizeLine):nj H a (kV k) v (upd H a (.dK (jc kvs k v))):=.inl ⟨kvs,k,e,rfl,q,rfl⟩
theorem nj.t{k:List Key}{v:V}(e:H a=some (.dT kvs))(q:H b=some (.tup (k.map kV)))(z:kvs.length<sizeLine) :
  nj H a (.ref b) v (upd H a (.dT (jc kvs k v))):=.inr ⟨kvs,k,b,e,rfl,q,z,rfl⟩
section
variable{X:Cx}{pins:List (Addr×Obj)}{σ:St}{H:Hp}{s:Shared}{a:Addr}{y v:V}{u r:Value}{o:Option V}{A:Around}{E:Value->Shared->Prop}
theorem Inv.big(I:Inv X pins σ H s):sysModules<s.heap.objs.size:=by
 have h:=(I.mod.glob.keeps I.bk).lt;exact Lr (by decide) h
def wn(Z:A.units+1<cLine)(I:Inv X pins σ H s)(g:ni H a y (some v))(Y:aI y u)(h:∀w' s',Inv X pins σ H s'->aI v w'->Q w' s') :
  wpAny (model X.prog X.w) A (getItem (.ref a) u) Q E s:=by
 rcases g with⟨kvs,k,e,J,l⟩|⟨kvs,k,b,e,J,eb,l⟩
 .subst J;obtain⟨z,hd,vs,q,dd⟩:=jX I.hok e;obtain⟨w',hw,D⟩:=iq.some_of (by rw[l];exact q.val k);exact wpAny_getItem_of (pf Y) dd.mapOf hw (h w' _ (I.tok _) D)
 .subst J;cases (show u=Value.ref b from Y);obtain⟨z,hd,xs,q,dd⟩:=nh I.hok e;obtain⟨w',hw,D⟩:=iq.some_of (o:=(atKey xs k).map _) (by rw[l];exact q.val k);refine ae (tr.mp hw) λp hp U=>?_
  refine wpAny_getItem_heap (Lx Z) (k_ I.hok eb) dd hp ?_;rw[U];exact h w' _ (I.tok _) D
def JB(Y:A.units+1<cLine)(I:Inv X pins σ H s)(g:ni H a y o)(U:aI y u)(h:∀s',Inv X pins σ H s'->Q (.bool o.isSome) s') :
  wpAny (model X.prog X.w) A (compareOp .In u (.ref a)) Q E s:=by
 rcases g with⟨kvs,k,e,J,l⟩|⟨kvs,k,b,e,J,Z,l⟩
 .subst J;obtain⟨z,hd,vs,D,dd⟩:=jX I.hok e;refine wpAny_in_of (pf U) hd dd.mapOf ?_;rw[<- (D.val k).isSome_eq,<- l];exact h _ (I.tok _)
 .subst J;cases (show u=Value.ref b from U);obtain⟨z,hd,xs,D,dd⟩:=nh I.hok e;refine wpAny_in_heap (Lx Y) (k_ I.hok Z) hd dd ?_;have q:=(D.val k).isSome_eq;rw[isSome_map]at q;rw[<- q,<- l];exact h _ (I.tok _)
def Bh(Y:A.units+1<cLine)(I:Inv X pins σ H s)(g:ni H a y o)(U:aI y u)(h:∀s',Inv X pins σ H s'->Q (.bool (!o.isSome)) s') :
  wpAny (model X.prog X.w) A (compareOp .NotIn u (.ref a)) Q E s:=by
 rcases g with⟨kvs,k,e,J,l⟩|⟨kvs,k,b,e,J,Z,l⟩
 .subst J;obtain⟨z,hd,vs,D,dd⟩:=jX I.hok e;refine wpAny_notIn_of (pf U) hd dd.mapOf ?_;rw[<- (D.val k).isSome_eq,<- l];exact h _ (I.tok _)
 .subst J;cases (show u=Value.ref b from U);obtain⟨z,hd,xs,D,dd⟩:=nh I.hok e;refine wpAny_notIn_heap (Lx Y) (k_ I.hok Z) hd dd ?_;have q:=(D.val k).isSome_eq;rw[isSome_map]at q;rw[<- q,<- l];exact h _ (I.tok _)
def vc(I:Inv X pins σ H s)(D:Mut (H a))(J:Heap.SameBut a s.heap h')(U:∃q,h'.get? a=some q)(new:bH X.prog X.w (upd H a ob) h' a ob) :
  Inv X pins σ (upd H a ob) { s with heap:=h',toks:=t' }:=
 I.write (x:=a) (e:=a) D (.inl rfl) (λb q Y z=>(J.2 b Y).trans z) U new
def Eo(z:kvs.length<=sizeLine)(hd:(a==sysModules)=false)(q:KV kvs vs)(dd:h'.DictOf (cm P w) a vs) :
  bH P w H' h' a (.dK kvs):=⟨z,hd,vs,q,dd⟩
def wq(hu:A.units+1<cLine)(I:Inv X pins σ H s)(g:nj H a y v H')(ry:aI y u)(rv:aI v r)(h:∀s',Inv X pins σ H' s'->Q () s') :
  wpAny (model X.prog X.w) A (setItem (.ref a) u r) Q E s:=by
 rcases g with⟨kvs,k,e,Y,l,Z⟩|⟨kvs,k,b,e,Y,eb,l,Z⟩
 .subst Y Z;obtain⟨z,hd,vs,D,dd⟩:=Ha I.hok e;have hz:vs.length<=sizeLine:=by rw[<- D.length];exact z
  have hl:(jc kvs k v).length<=sizeLine:=by have:=l_ kvs k v;exact(xb ‹_› ‹_›)
  refine wpAny_setItem_pairs (pf ry) dd λh' J hs=>h _ ?_
  have he:∃q,h'.get? a=some q:=let ⟨q,_,_,U,_⟩:=J;⟨q,U⟩
  exact vc I (by rw[e];exact True.intro) hs he (Eo hl hd (D.put k rv) J)
 .subst Y Z;cases (show u=Value.ref b from ry);obtain⟨z,hd,xs,D,dd⟩:=Hb I.hok e;have hz:xs.length<=sizeLine:=by rw[<- Paired.length D];exact z
  have hl:(jc kvs k v).length<=sizeLine:=by have:=l_ kvs k v;exact(xb ‹_› ‹_›)
  refine wpAny_setItem_heap (Lx hu) (k_ I.hok eb) dd λh' J hs=>h _ ?_
  refine bN λZq kq=>?_
  refine cR J λq es ep U h2 h3 h4 _ h5=>?_
  refine kq ?_;refine vc I (by rw[e];exact True.intro) hs ⟨q,U⟩ ⟨hl,hd,_,(D.put k eb rv).keeps λc ys ec=>?_,q,es,ep,U,h2,h3,h4,h5⟩;rw[az (GS ec e (λz=>nomatch z))];exact ec
end
section
variable{X:Cx}{pins:List (Addr×Obj)}{σ:St}{H:Hp}{s:Shared}{a:Addr}{kvs:List (Key×V)}{k:Key}{u:Value}{A:Around}{E:Value->Shared->Prop}
end
def Hc(i:Expr):Prop:=∀q z,subscripted i false q z=operate [q,z] (getItem q z)
def Bi{T id:String} 
  (hl:typeLookup (.type T) "__getitem__"=pure (some (.builtin id))) (hs:Hc slice)
  (h:wpAny (model prog w) A (eval value env) (λo D=>wpAny (model prog w) A (eval slice env) (λi q=>q.TypeIs o T/\wpAny (model prog w) A (getItem o i) Q E q) E D) E s) :
  wpAny (model prog w) A (eval (.Subscript value slice pos) env) Q E s:=by
 refine Subscript_ (Ks h (λo D U=>Ks U (λi q z=>?_) λ_ _ x=>x) λ_ _ x=>x);obtain⟨Z,z⟩:=z;refine kn ?_;rw[getitemInPython_of_ne Z.not_modules];refine kn (wpAny_specialOf Z hl ?_);have fin:wpAny (model prog w) A (subscripted slice false o i) (λr J=>wpAny (model prog w) A (letTemporaryGo value o r >>= λ_=>pure r) Q E J) E q:=by
  rw[hs o i];exact wpAny_operating (Ks z (λr J Y=>kn (wpAny_letTemporaryGo (mu Y))) λ_ _ x=>x)
 first
  | exact mu (kn fin)
  | exact kn (mu _)
  | exact kn fin
def rD (I:Inv X pins σ H s) (g:ni H a y o):s.TypeIs (.ref a) "dict":=by
 rcases g with⟨kvs,k,e,_,_⟩|⟨kvs,k,b,e,_,_,_⟩
 .obtain⟨_,_,vs,_,dd⟩:=jX I.hok e;exact dd.typeIs
 .obtain⟨_,_,xs,_,dd⟩:=nh I.hok e;exact dd.typeIs
noncomputable def He(td ty:TE):TE:=λσ H Q=>td σ H λx H1=>ty σ H1 λy H2=>∃a v,x=.ref a/\ni H2 a y (some v)/\Q v H2
noncomputable def JC(ty td:TE):TE:=λσ H Q=>ty σ H λy H1=>td σ H1 λx H2=>∃a o,x=.ref a/\ni H2 a y o/\Q (.bl o.isSome) H2
noncomputable def Bj(ty td:TE):TE:=λσ H Q=>ty σ H λy H1=>td σ H1 λx H2=>∃a o,x=.ref a/\ni H2 a y o/\Q (.bl (!o.isSome)) H2
noncomputable def Hh(td ty tv:TE):TS:=λD σ H=>tv σ H λv H1=>td σ H1 λx H2=>ty σ H2 λy z=>∃a q,x=.ref a/\nj z a y v q/\D.nx σ q
section
variable{X:Cx}{o i e value:Expr}{pos pos' tpos:Pos}{td ty tv:TE}
def Bk(D:X.A.units+1<cLine)(ho:PE X o td)(hi:PE X i ty)(J:Hc i):PE X (.Subscript o i pos) (He td ty):=by
 intro pins s σ H Q I h;refine Bi PySem.F.slot_dict_getitem.lookup J (thn (ho pins s σ H _ I h) λu s1 U=>au U λx H1 Y Z q1=>thn (hi pins s1 σ H1 _ Y q1) λiv s2 ⟨y,H2,z,ry,a,v,ex,g,q2⟩=>?_);subst ex;obtain rfl:u=Value.ref a:=Z;exact⟨rD z g,wn D z g ry λw' s3 I3 q=>⟨v,H2,I3,q,q2⟩⟩
def yf(q:X.A.units+1<cLine)(hi:PE X i ty)(ho:PE X o td):PC X .In i o (JC ty td):=by
 intro pins s σ H Q I h;refine thn (hi pins s σ H _ I h) λiv s1 ⟨y,H1,z,D,q1⟩=>thn (ho pins s1 σ H1 _ z q1) λu s2 ⟨x,H2,J,U,a,Y,ex,g,q2⟩=>?_
 subst ex;obtain rfl:u=Value.ref a:=U;exact JB q J g D λs3 Z=>⟨.bl Y.isSome,H2,Z,rfl,q2⟩
def pi(q:X.A.units+1<cLine)(hi:PE X i ty)(ho:PE X o td):PC X .NotIn i o (Bj ty td):=by
 intro pins s σ H Q I h;refine thn (hi pins s σ H _ I h) λZ s1 ⟨y,H1,z,D,q1⟩=>thn (ho pins s1 σ H1 _ z q1) λu s2 ⟨x,H2,J,U,a,ov,ex,g,q2⟩=>?_
 subst ex;obtain rfl:u=Value.ref a:=U;exact Bh q J g D λs3 Y=>⟨.bl _,H2,Y,rfl,q2⟩
def Bl(q:X.A.units+1<cLine)(ho:PE X o td)(hi:PE X i ty)(z:PE X value tv)(J:swapsWith value (some (.Subscript o i pos')) pos.line X.env=pure false) :
  PS X (.Assign [.Subscript o i pos'] value pos) (Hh td ty tv):=by
 intro pins s σ H D I h;refine wpAny_Assign_Subscript (thn (z pins s σ H _ I h) λr s1 ⟨v,H1,U,Y,q1⟩=>thn (ho pins s1 σ H1 _ U q1) λu s2 ⟨x,H2,Z,rx,q2⟩=>thn (hi pins s2 σ H2 _ Z q2) λiv s3 ⟨y,H3,I3,ry,a,H4,ex,g,q3⟩=>?_) J;subst ex;obtain rfl:u=Value.ref a:=rx;exact wq q I3 g ry Y λs4 I4=>⟨σ,H4,I4,q3⟩
end
def yg (h:Heap) (q:sysModules<h.objs.size):bH P w H (h.push { cls:=.type "dict",data:=.dict #[] }) h.objs.size (.dK []):=
 ⟨Ki _,Ku.mpr (KD (x1 q)),[],.nil,Heap.DictOf.new h⟩
def yh (h:Heap) (q:sysModules<h.objs.size):bH P w H (h.push { cls:=.type "dict",data:=.dict #[] }) h.objs.size (.dT []):=
 ⟨Ki _,Ku.mpr (KD (x1 q)),[],.nil,_,#[],0,tu _ rfl,⟨rfl,rfl,rfl⟩,rfl,rfl,KQ⟩
noncomputable def Ep:TE:=λ_ H Q=>∀p,H p=none->Q (.ref p) (upd H p (.dK []))
noncomputable def Er:TE:=λ_ H Q=>∀p,H p=none->Q (.ref p) (upd H p (.dT []))
section
variable{X:Cx}{pos:Pos}
def yi:PE X (.Dict [] [] pos) Ep:=λpins s σ H Q I h =>
 wpAny_Dict_empty ⟨.ref s.heap.objs.size,_,I.laid (a:=s.heap.objs.size) (o:=.dK []) (t':=s.toks) (λ_ _ q=>mn _ q) (pb _) (yg s.heap I.big),rfl,h _ (I.hok.fresh (pb _))⟩
def yj:PE X (.Dict [] [] pos) Er:=λpins s σ H Q I h =>
 wpAny_Dict_empty ⟨.ref s.heap.objs.size,_,I.laid (a:=s.heap.objs.size) (o:=.dT []) (t':=s.toks) (λ_ _ q=>mn _ q) (pb _) (yh s.heap I.big),rfl,h _ (I.hok.fresh (pb _))⟩
end
structure M2(X:Cx)(o:Expr)(m:Str)(apos:Pos)(e f:Expr)(cpos:Pos):Prop where
 base:attributeBase o m X.env (eval o X.env)=eval o X.env
 few:((backTo cpos (starEach [e,f] X.env)).all (λx=>!x.1)&&(backToKw cpos (keywordEach [] X.env)).all (λx=>x.1.isSome)
 &&decide (([e,f]:List Expr).length+([]:List Keyword).length+(if ([]:List Keyword).isEmpty then 0 else 1)<30))=true
 line:(apos.endLine==cpos.line)=true
 trees:backTo cpos (starEach [e,f] X.env)=[(false,eval e X.env),(false,eval f X.env)]
def IsD(H:Hp)(a:Addr):Prop:=(∃kvs,Rd H a (.dK kvs))\/∃kvs,Rd H a (.dT kvs)
def yk(I:Inv X pins σ H s)(d:IsD H a) :
  s.TypeIs (.ref a) "dict"/\(∀b,Value.ref a=.ref b->∃ob,s.heap.get? b=some ob/\ob.dict=none)/\(a==sysModules)=false:=by
 rcases d with⟨kvs,e⟩|⟨kvs,e⟩
 .obtain⟨_,hd,vs,_,dd⟩:=jX I.hok e;refine⟨dd.typeIs,λb q=>?_,hd⟩;cases q;refine uS dd λob _ _ h1 h2 _=>?_
  exact⟨ob,h1,h2.2.1⟩
 .obtain⟨_,hd,xs,_,dd⟩:=nh I.hok e;refine⟨dd.typeIs,λb q=>?_,hd⟩;cases q;refine uS dd λob _ _ h1 h2 _=>?_
  exact⟨ob,h1,h2.2.1⟩
section
variable{X:Cx}{pins:List (Addr×Obj)}{σ:St}{H:Hp}{s:Shared}{a:Addr}{y d:V}{u r:Value}{o:Option V}{A:Around}{E:Value->Shared->Prop}
def Es(U:A.units+1<cLine)(I:Inv X pins σ H s)(g:ni H a y o)(J:aI y u)(rd:aI d r)(h:∀w' s',Inv X pins σ H s'->aI (o.getD d) w'->Q w' s') :
  wpAny (model X.prog X.w) A (call (.builtin "dict.get") [.ref a,u,r]) Q E s:=by
 rcases g with⟨kvs,k,e,D,l⟩|⟨kvs,k,b,e,D,Y,l⟩
 .subst D;obtain⟨z,hd,vs,q,dd⟩:=jX I.hok e;refine call_meetsIn PySem.F.slot_dict_get dd.typeIs PySem.F.entry_dict_get (PySem.F.args_dict_get_3 _ _ _) (meets_dict_get_default _ a (pf J) hd r) ⟨_,dd.mapOf,h _ _ (I.tok _) ?_⟩;rw[l];exact(q.val k).getD rd
 .subst D;cases (show u=Value.ref b from J);obtain⟨z,hd,xs,q,dd⟩:=nh I.hok e;refine call_meetsIn PySem.F.slot_dict_get dd.typeIs PySem.F.entry_dict_get (PySem.F.args_dict_get_3 _ _ _) (meetsH_dict_get_default (tupleKind _) a b hd r) ⟨Lx U,k,xs,k_ I.hok Y,dd,h _ _ (I.tok _) ?_⟩;rw[l];exact(q.val k).getD rd
end
noncomputable def Et(td ty tx:TE):TE:=λσ H Q=>td σ H λx H1=>∃a,x=.ref a/\IsD H1 a/\ty σ H1 λy H2=>tx σ H2 λz q=>∃o,ni q a y o/\Q (o.getD z) q
section
variable{X:Cx}{o e f:Expr}{apos cpos:Pos}{td ty tx:TE}
def ym (J:X.A.units+1<cLine) (ho:PE X o td) (U:PE X e ty) (Y:PE X f tx) (m:M2 X o "get" apos e f cpos):PE X (.Call (.Attribute o "get" apos) [e,f] [] cpos) (Et td ty tx):=by
 intro pins s σ H Q I h;refine wpAny_Call_method m.base m.few m.line PySem.F.plainAttrs_dict PySem.F.slot_dict_get PySem.F.type_dict_get (thn (ho pins s σ H _ I h) λu s1 ⟨x,H1,D,Z,a,ex,d,q1⟩=>?_);subst ex;obtain rfl:u=Value.ref a:=Z;obtain⟨t1,t2,_⟩:=yk D d;refine⟨t1,t2,?_⟩;rw[m.trees];refine Calls.callWith_builtin rfl (Calls.evalArgs_plain (Mq (thn (U pins s1 σ H1 _ D q1) λiv s2 ⟨y,H2,I2,ry,q2⟩ =>
  Mq (thn (Y pins s2 σ H2 _ I2 q2) λfv s3 ⟨z,H3,I3,rz,ov,g,q3⟩=>Calls.spliced_nil ?_))))
 exact Es J I3 g ry rz λw' s4 I4 q=>⟨_,H3,I4,q,q3⟩
end
section
variable{X:Cx}{pins:List (Addr×Obj)}{σ:St}{H:Hp}{s:Shared}{a:Addr}{kvs:List (Key×V)}{A:Around}{E:Value->Shared->Prop}
end
section
variable{X:Cx}{pins:List (Addr×Obj)}{σ:St}{H:Hp}{s:Shared}{a:Addr}{y:V}{u:Value}{A:Around}{E:Value->Shared->Prop}
end
end L2
namespace L2.Srt
open PySem PySem.W PyProof.Rows List Option
section
variable{O:KeyOrd}{key:Nat->O.α}{N:Nat}{cmp:Nat->Nat->(Bool->Shared->Prop)->Shared->Prop}{s:Shared}
noncomputable def kk(key:Nat->O.α)(p:Array Nat)(i:Nat):O.α:=key (p.getD i 0)
def fV(key:Nat->O.α)(p:Array Nat)(k:Nat):Prop:=∀i j,i<=j->j<k->O.kle (kk key p i) (kk key p j)
def rE(key:Nat->O.α)(p:Array Nat)(k:Nat):Prop:=∀i j,i<=j->j<k->O.kle (kk key p j) (kk key p i)
def PB(N:Nat)(p:Array Nat):Prop:=p.Perm (range N).toArray
theorem PB.size(h:PB N p):p.size=N:=by have:=h.size_eq;simpa using this
theorem PB.lt(h:PB N p)(hi:i<N):p.getD i 0<N:=by
 have q:i<p.size:=by rw[h.size];exact hi
 have hm:p[i]∈(range N):=by
  have e:=(LJ.mp h).mem_iff (a:=p[i])
  simp_all
 simp_all
theorem PB.rev(h:PB N p)(i j):PB N (kas_rev p i j):=(mirror_perm _ _ _ _).trans h
theorem PB.bub(h:PB N p)(i j):PB N (bubble p i j):=(bubble_perm _ _ _).trans h
def iE(h:p[i]?=q[j]?):kk key p i=kk key q j:=by
 unfold kk;rw[LF,LF,h]
def wt(q:src<p.size)(hd:d<=src)(k) :
  kk key (bubble p src d) k=if k=src-d then kk key p src else if src-d<k/\k<=src then kk key p (k-1)else kk key p k:=by
 have e:=getElem?_bubble q d hd k;by_cases h1:k=src-d
 .rw[if_pos h1]at e ⊢;exact iE e
 .rw[if_neg h1]at e ⊢;by_cases h2:src-d<k/\k<=src
  .rw[if_pos h2]at e ⊢;exact iE e
  .rw[if_neg h2]at e ⊢;exact iE e
def tK(q:j<=p.size)(k) :
  kk key (kas_rev p i j) k=if i<=k/\k<j then kk key p (i+j-1-k)else kk key p k:=by
 have e:=getElem?_mirror_all (i:=i) q k;by_cases h1:i<=k/\k<j
 .rw[if_pos h1]at e ⊢;exact iE e
 .rw[if_neg h1]at e ⊢;exact iE e
def dC(q:j<=p.size)(z:∀k,i<=k->k<j->kk key p k=kk key p (j-1))(k) :
  kk key (kas_rev p i j) k=kk key p k:=by
 rw[tK q]
 grind
variable(hc:∀a b C,a<N->b<N->C (O.blt (key a) (key b)) s->cmp a b C s)
include hc
def rF{Q:α->Shared->Prop}(q:PB N p)(hi:i<N)(z:j<N)
  (h:(k (O.blt (kk key p i) (kk key p j))).kasWp cmp Q s):(KasT.ask (p.getD i 0) (p.getD j 0) k).kasWp cmp Q s:=
 hc _ _ _ (q.lt hi) (q.lt z) h
theorem yn(hp:PB N p)(hn:q<=N):∀f n,n+f=q->1<=n->fV key p n ->
  (∀m,n<=m->m<=q->fV key p m->(m=q\/O.klt (kk key p m) (kk key p (m-1)))->Q m s)->(kas_asc p f n).kasWp cmp Q s
 |0,n,e,h1,D,h=>h n (pb _) (Lb e) D (.inl e)
 |f+1,n,e,h1,D,h=>by
  have nN:n<N:=by omega
  refine rF hc hp nN (Hg (ML n 1) nN) ?_;cases z:O.blt (kk key p n) (kk key p (n-1))with
  |true =>
   rw[if_pos rfl];exact h n (pb _) (xb (KW n (f+1)) (Lb e)) D (.inr z)
  |false =>
   rw[if_neg (by simp)];refine yn hp hn f (n+1) ((Lj n 1 f).trans e) (LP 1 n) (λi j J hj=>?_) λm a b c d=>h m (LA a) b c d
   by_cases U:j<n
   .exact D i j J U
   .have Z:=KI (K1 hj) (KS.mp U);subst Z;by_cases Y:i=j
    .subst Y;exact K2 _
    .exact LH (D i (j-1) (LI (Lk J Y)) (M4 h1 Nat.one_pos)) z
def vd{n q:Nat}{Q:Nat×Array Nat->Shared->Prop}(D:PB N p)(hn:q<=N)(h1:1<=n)(z:n<=q)(Z:rE key p n)
  (h:∀m J,PB N J->1<=m->m<=q->fV key J m->Q (m,J) s):(kas_tail3 n q p).kasWp cmp Q s:=by
 unfold kas_tail3;rw[LQ];have hz:n<=p.size:=by rw[D.size];exact xb z hn
 refine yn hc (D.rev 0 n) hn (q-n) n (Nat.add_sub_cancel' z) h1 (λi j U Y=>?_) λm a b c _=>h m _ (D.rev 0 n) (xb h1 a) b c
 rw[tK hz,tK hz,if_pos ⟨Ki _,Hg U Y⟩,if_pos ⟨Ki _,Y⟩];exact Z _ _ (by omega) (by omega)
theorem qe(hn:a0<=N):∀f p n q,n+f=a0->PB N p->rE key p n->q+1<=n ->
  (∀i,n-(q+1)<=i->i<n->kk key p i=kk key p (n-1)) ->
  (∀z m q',n<=m->m<=a0->PB N z->rE key z m->q'+1<=m->(∀i,m-(q'+1)<=i->i<m->kk key z i=kk key z (m-1))->Q (z,m,q') s) ->
  (kas_desc f p n q).kasWp cmp Q s
 |0,p,n,q,e,hp,hs,hq,he,h=>h p n q (pb _) (by omega) hp hs hq he
 |f+1,p,n,q,e,hp,hs,hq,he,h=>by
  show(KasT.ask (p.getD n 0) (p.getD (n-1) 0) λc =>
   if c=true then(if q > 0 then kas_desc f (kas_rev p (n-(q+1)) n) (n+1) 0 else kas_desc f p (n+1) 0)
   else .ask (p.getD (n-1) 0) (p.getD n 0) λd=>if d=true then .ret (p,n,q)else kas_desc f p (n+1) (q+1)).kasWp cmp Q s
  have nN:n<N:=by omega
  have hz:n<=p.size:=by rw[hp.size];exact KC nN
  refine rF hc hp nN (Hg (ML n 1) nN) ?_;cases D:O.blt (kk key p n) (kk key p (n-1))with
  |true =>
   rw[if_pos rfl];have J:∀z,(∀k,kk key z k=kk key p k)->rE key z (n+1):=by
    intro z hk i j U hj;rw[hk,hk];by_cases Y:j<n
    .exact hs i j U Y
    .have a4:=KI (K1 hj) (KS.mp Y);subst a4;by_cases Z:i=j
     .subst Z;exact K2 _
     .exact LH (LB D) (hs i (j-1) (LI (Lk U Z)) (M4 (wh (Nat.succ_pos q) hq) Nat.one_pos))
   by_cases a1:q > 0
   .rw[if_pos a1];exact qe hn f _ (n+1) 0 ((Lj n 1 f).trans e) (hp.rev _ _) (J _ (dC hz he)) (LP 1 n) (λi a b=>by congr 1;omega)
     λz m q' a=>h z m q' (LA a)
   .rw[if_neg a1];exact qe hn f p (n+1) 0 ((Lj n 1 f).trans e) hp (J _ λ_=>rfl) (LP 1 n) (λi a b=>by congr 1;omega) λz m q' a=>h z m q' (LA a)
  |false =>
   rw[if_neg (by simp)];refine rF hc hp (Hg (ML n 1) nN) nN ?_;cases ao:O.blt (kk key p (n-1)) (kk key p n)with
   |true =>
    rw[if_pos rfl];exact h p n q (pb _) (by omega) hp hs hq he
   |false =>
    rw[if_neg (by simp)];have a2:=KeyOrd.kle_antisymm ao D;refine qe hn f p (n+1) (q+1) ((Lj n 1 f).trans e) hp (λi j U hj=>?_) (Nat.succ_le_succ hq) (λi a b=>?_) λz m q' a=>h z m q' (LA a)
    .by_cases Y:j<n
     .exact hs i j U Y
     .have a4:=KI (K1 hj) (KS.mp Y);subst a4;by_cases Z:i=j
      .subst Z;exact K2 _
      .rw[a2];exact hs i (j-1) (LI (Lk U Z)) (M4 (wh (Nat.succ_pos q) hq) Nat.one_pos)
    .rw[K6];by_cases bt:i=n
     .subst bt;rfl
     .rw[a2];exact he i (by omega) (by omega)
def nk{n q:Nat}{Q:Nat×Array Nat->Shared->Prop}(hp:PB N p)(hn:q<=N)(aL:n+1<=q)(hs:rE key p (n+1))
  (h:∀m J,PB N J->1<=m->m<=q->fV key J m->Q (m,J) s):(kas_descPart n q p).kasWp cmp Q s:=by
 unfold kas_descPart;rw[LQ];refine qe hc hn (q-_) p _ 0 (by simp[*]) hp hs (Nat.succ_pos _) (λi a b=>by congr 1;omega) λJ m q' a2 U D Y hq he=>?_
 dsimp only;have hz:m<=J.size:=by rw[D.size];exact(xb ‹_› ‹_›)
 by_cases z:q' > 0
 .rw[if_pos z];refine vd hc (D.rev _ _) hn (Lr ‹_› ‹_›) U (λi j Z hj=>?_) h;rw[dC hz he,dC hz he];exact Y i j Z hj
 .rw[if_neg z];exact vd hc D hn (by omega) U Y h
def Bm(hp:PB N p)(hn:q<=N)(h1:1<=q)
  (h:∀m p',PB N p'->1<=m->m<=q->fV key p' m->Q (m,p') s):(kas_count q p).kasWp cmp Q s:=by
 unfold kas_count;rw[LQ];refine yn hc hp hn (q-1) 1 (by simp[*]) (pb _) (λi j D hj=>by have:=KI D (xb (K1 hj) (Ki i));subst this;exact K2 _) λn J ar U bA=>?_
 by_cases Y:n=q
 .rw[if_pos (by simpa using Y)];exact h n p hp J ar U
 .rw[if_neg (by simpa using Y)];have nr:=Lk ar Y;have nN:=wh nr hn;have a4:=bA.resolve_left Y;by_cases aL:n > 1
  .rw[if_pos aL];refine rF hc hp (Hg (Ki n) nN) (Hg (ML n 1) nN) ?_;cases a0:O.blt (kk key p 0) (kk key p (n-1))with
   |true =>
    rw[if_pos rfl];exact h n p hp J ar U
   |false =>
    rw[if_neg (by simp)];have a5:n<=p.size:=by rw[hp.size];exact KC nN
    have z:∀k,0<=k->k<n->kk key p k=kk key p (n-1):=by
     intro k _ hk;have a1:=U 0 k (Ki k) hk;have a2:=U k (n-1) (LI hk) (M4 J Nat.one_pos);exact KeyOrd.kle_antisymm a2 (LH a0 a1)
    refine nk hc (hp.rev _ _) hn nr (λi j D hj=>?_) h;rw[dC a5 z,dC a5 z];by_cases a3:j<n
    .rw[z i (Ki _) (Hg D a3),z j (Ki _) a3];exact K2 _
    .have bS:=KI (K1 hj) (KS.mp a3);subst bS;by_cases Z:i=j
     .subst Z;exact K2 _
     .rw[z i (Ki _) (Lk D Z)];exact LB a4
  .rw[if_neg aL];have a6:=KI (KS.mp aL) J;subst a6;refine nk hc hp hn nr (λi j D hj=>?_) h;by_cases Z:i=j
   .subst Z;exact K2 _
   .have bT:i=0:=by omega
    have bW:j=1:=by omega
    subst bT;subst bW
    exact LB a4
theorem qf(hp:PB N p)(Z:k<N)(hs:fV key p k):∀f l r,r<=l+f->l<=r->r<=k ->
  (∀i,i<l->O.kle (kk key p i) (kk key p k))->(∀i,r<=i->i<k->O.klt (kk key p k) (kk key p i)) ->
  (∀l,l<=k->(∀i,i<l->O.kle (kk key p i) (kk key p k))->(∀i,l<=i->i<k->O.klt (kk key p k) (kk key p i))->Q l s)->(kas_place p k f l r).kasWp cmp Q s
 |0,l,r,hf,U,q,D,J,h=>by
  have:=KI U hf;subst this;exact h l q D J
 |f+1,l,r,hf,U,q,D,J,h=>by
  show(if l>=r then KasT.ret l else .ask (p.getD k 0) (p.getD ((l+r) / 2) 0) λc=>if c=true then kas_place p k f l ((l+r) / 2)else kas_place p k f ((l+r) / 2+1) r).kasWp cmp Q s;by_cases Y:l>=r
  .rw[if_pos Y];have:=KI U Y;subst this;exact h l q D J
  .rw[if_neg Y];obtain⟨m,em,m1,m2⟩:∃m,(l+r) / 2=m/\l<=m/\m<r:=⟨_,rfl,by omega,by omega⟩;rw[em];have mk:=wh m2 q;refine rF hc hp Z (Lr mk Z) ?_;cases z:O.blt (kk key p k) (kk key p m)with
   |true =>
    rw[if_pos rfl];exact qf hp Z hs f l m (by omega) m1 (KC mk) D (λi a b=>KeyOrd.klt_of_klt_of_kle z (hs _ _ a b)) h
   |false =>
    rw[if_neg (by simp)];exact qf hp Z hs f (m+1) r (by omega) m2 q (λi a=>LH (hs i m (K1 a) mk) (show O.kle _ _ from z)) J h
theorem C2 :∀f p k,k+f=N->PB N p->fV key p k->(∀p',PB N p'->fV key p' N->Q p' s)->(kas_bin f p k).kasWp cmp Q s
 |0,p,k,e,Z,Y,h=>by
  have:k=N:=by omega
  subst this;exact h p Z Y
 |f+1,p,k,e,Z,Y,h=>by
  show((kas_place p k k 0 k).bind λl=>kas_bin f (bubble p k (k-l)) (k+1)).kasWp cmp Q s;rw[LQ];refine qf hc Z (by omega) Y k 0 k (LP k 0) (Ki k) (pb k) (λi a=>absurd a (Nat.not_lt_zero i)) (λi a b=>absurd b (KS.mpr a)) λl hl aL a0=>?_
  refine C2 f _ (k+1) (by omega) (Z.bub _ _) (λi j D hj=>?_) h;have a1:k<p.size:=by rw[Z.size];omega
  have val:∀i,i<k+1->(i<l/\kk key (bubble p k (k-l)) i=kk key p i)\/(i=l/\kk key (bubble p k (k-l)) i=kk key p k)\/∃J,i=J+1/\l<=J/\J<k/\kk key (bubble p k (k-l)) i=kk key p J:=λi hi=>by
   rw[wt a1 (ML k l),Nat.sub_sub_self hl];rcases L6 i l with q|q|q
   .exact .inl ⟨q,by rw[if_neg (x1 q),if_neg λz=>MQ q z.1]⟩
   .exact .inr (.inl ⟨q,by rw[if_pos q]⟩)
   .obtain⟨c,rfl⟩:=Lu q;exact .inr (.inr ⟨l+c,rfl,KW _ _,Ma hi,by rw[if_neg (K3 q),if_pos ⟨q,K1 hi⟩];rfl⟩)
  rcases val i (Hg D hj)with⟨a,e1⟩|⟨a,e1⟩|⟨J,a,b,c,e1⟩<;>rcases val j hj with⟨U,e2⟩|⟨U,e2⟩|⟨j',U,b',c',e2⟩<;>rw[e1,e2]
  .exact Y i j D (wh U hl)
  .exact aL i a
  .exact Y i j' (xb (KC a) b') c'
  .exact absurd U (KS.mpr (a▸D))
  .exact K2 _
  .exact LB (a0 j' b' c')
  .exact absurd (Hg (a▸D:J+1<=j) U) (KS.mpr (Nat.le_succ_of_le b))
  .exact absurd (U▸a▸D:J+1<=l) (Nat.not_le.mpr (MC b))
  .exact Y J j' (Mb (U▸a▸D:J+1<=j'+1)) c'
def Eu(h1:1<=N)(h:∀p,PB N p->fV key p N->Q p s):(kas_sort N).kasWp cmp Q s:=by
 unfold kas_sort;rw[LQ];refine Bm hc (Array.Perm.refl _) (pb _) h1 λm J q U Y z=>?_
 by_cases D:m<N
 .rw[if_pos D,show max m 1=m by omega];exact C2 hc _ _ _ (by simp[*]) q z h
 .rw[if_neg D];have:m=N:=by omega
  subst this;exact h J q z
end
end L2.Srt
namespace L2.Srt
open PySem PyProof.Rows List Option
theorem np:∀a,HT.lexLt a a=false
 | []=>rfl
 |x::r=>by rw[HT.lexLt_cons,if_pos rfl];exact np r
theorem lb:∀a b c,HT.lexLt a b=true->HT.lexLt b c=true->HT.lexLt a c=true
 | [],[],_,h,_=>dy h
 | [],_::_,[],_,h=>dy h
 | [],_::_,_::_,_,_=>rfl
 | _::_,[],_,h,_=>dy h
 | _::_,_::_,[],_,h=>dy h
 |x::a,y::b,z::c,h1,h2=>by
  rw[HT.lexLt_cons]at h1 h2 ⊢;by_cases q:x=y
  .rw[if_pos q]at h1;by_cases D:y=z
   .rw[if_pos D]at h2;rw[if_pos (q.trans D)];exact lb a b c h1 h2
   .simp_all
  .grind
theorem lc:∀a b,HT.lexLt a b=false->HT.lexLt b a=false->a=b
 | [],[],_,_=>rfl
 | [],_::_,h,_=>sW h
 | _::_,[],_,h=>sW h
 |x::a,y::b,h1,h2=>by
  rw[HT.lexLt_cons]at h1 h2;by_cases e:x=y
  .rw[if_pos e]at h1;rw[if_pos e.symm]at h2;rw[e,lc a b h1 h2]
  .grind
def Bn(a b c)(h:HT.lexLt a c=true):HT.lexLt a b=true\/HT.lexLt b c=true:=by
 cases h1:HT.lexLt a b with
 |true=>exact .inl rfl
 |false =>
  cases h2:HT.lexLt b a<;>first|exact .inr (lb b a c h2 h)|(rw[lc a b h1 h2]at h;exact .inr h)
noncomputable def dZ:KeyOrd:=⟨List Int,HT.lexLt,np,lb,Bn,lc⟩
noncomputable def dD:KeyOrd:=⟨Int,λa b=>decide (a<b),λa=>Kn (by omega),λa b c h1 h2=>Ka (by have:=Kl h1;have:=Kl h2;omega),
 λa b c h=>by
  have:=Kl h;by_cases q:a<b
  .exact .inl (Ka q)
  .exact .inr (Ka (by omega)),
 λa b h1 h2=>by have:=Mr h1;have:=Mr h2;omega⟩
section
variable(O:KeyOrd)
noncomputable def mr(x:O.α):List O.α->List O.α
 | []=>[x]
 |y::r=>if O.blt y x then y::mr x r else x::y::r
noncomputable def il:List O.α->List O.α
 | []=>[]
 |x::r=>mr O x (il r)
theorem lf(x):∀l,(mr O x l).Perm (x::l)
 | []=>.refl _
 |y::r=>by
  show(if O.blt y x then y::mr O x r else x::y::r).Perm _;split
  .exact(Perm.cons y (lf x r)).trans (.swap x y r)
  .exact .refl _
theorem fw:∀l,(il O l).Perm l
 | []=>.refl _
 |x::r=>(lf O x _).trans (.cons x (fw r))
theorem nq(x):∀l,l.Pairwise O.kle->(mr O x l).Pairwise O.kle
 | [],_=>pairwise_singleton _ _
 |y::r,h=>by
  show(if O.blt y x then y::mr O x r else x::y::r).Pairwise O.kle;obtain⟨h1,h2⟩:=LK.mp h;by_cases q:O.blt y x=true
  .rw[if_pos q];refine LK.mpr ⟨λz hz=>?_,nq x r h2⟩;rcases pe.mp ((lf O x r).mem_iff.mp hz)with e|e
   .rw[e];exact LB q
   .exact h1 z e
  .rw[if_neg q];have D:=Bool.eq_false_iff.mpr q;refine LK.mpr ⟨λz hz=>?_,h⟩;rcases pe.mp hz with e|e
   .rw[e];exact D
   .exact LH D (h1 z e)
theorem eG:∀l,(il O l).Pairwise O.kle
 | []=>Pairwise.nil
 |x::r=>nq O x _ (eG r)
theorem jY:∀{a b:List O.α},a.Perm b->a.Pairwise O.kle->b.Pairwise O.kle->a=b
 | [],b,p,_,_=>p.nil_eq
 |x::a,[],p,_,_=>by have:=p.length_eq;injection this
 |x::a,y::b,p,ha,D=>by
  obtain⟨J,U⟩:=LK.mp ha;obtain⟨Y,Z⟩:=LK.mp D;have e:x=y:=by
   have hx:=p.mem_iff.mp (.head _);have hy:=p.mem_iff.mpr (.head _);rcases pe.mp hx with q|q
   .exact q
   .rcases pe.mp hy with z|z
    .exact z.symm
    .exact KeyOrd.kle_antisymm (J y z) (Y x q)
  subst e;rw[jY (p.cons_inv) U Z]
def jZ(p:a.Perm l)(h:a.Pairwise O.kle):a=il O l:=jY O (p.trans (fw O l).symm) h (eG O l)
def jh(p:a.Perm b):il O a=il O b:=jZ O ((fw O a).trans p) (eG O a)
def rG(h:a.Pairwise O.kle):il O a=a:=(jZ O (.refl a) h).symm
end
def iZ{α:Type}(xs)(d:α):(range xs.length).map (λi=>xs.getD i d)=xs:=by
 apply ext_getElem?;intro i;rw[Kb];by_cases q:i<xs.length
 .simp_all
 .simp_all
def Ev(D:PB xs.length p)(U:fV (λi=>xs.getD i d) p xs.length):p.toList.map (λi=>xs.getD i d)=il O xs:=by
 refine jZ O ?_ ?_
 .have h:=(LJ.mp D).map λi=>xs.getD i d
  have e:=iZ xs d;rw[e]at h;exact h
 .rw[pairwise_iff_getElem];intro i j hi J z;rw[sm,Array.length_toList]at hi J;have hz:=D.size;have q:=U i j (KC z) (by omega);simp only[getElem_map];have Y:p.getD i 0=p[i]:=by simp[hi]
  have Z:p.getD j 0=p[j]:=by simp[J]
  unfold kk at q;rw[Y,Z]at q;exact q
end L2.Srt
namespace L2.Srt
open PySem PySem.W PySem.Calls PyProof.Rows List Option
section
variable{prog:Program}{w:World}{A:Around}{E:Value->Shared->Prop}{s:Shared}
def KOk(g:SortKind):Prop:=g=tuples' true\/g=general'\/g=oneType'
def qg {KO:SortKind->Prop}{O:KeyOrd}{key:Nat->O.α}{a:Addr}{vs:List Value}{n:Nat}{R:PySem.Fin->Shared->Prop} (ho:s.heap.get? a=some (seqObj "list" vs.toArray n)) (ar:vs.length<64)
  (hk:2<=vs.length->∀s' Q,(∀b o,b≠a->s.heap.get? b=some o->s'.heap.get? b=some o)->(∀g,KO g->Q g s')->wpAny (model prog w) A (keyKind' vs.toArray) Q (λ_ _=>False) s')
  (hc:∀g,KO g->∀s' i j C,(∀b o,b≠a->s.heap.get? b=some o->s'.heap.get? b=some o)->i<vs.length->j<vs.length->C (O.blt (key i) (key j)) s' ->
   wpAny (model prog w) A (keyLt' g (vs.getD i Value.none) (vs.getD j Value.none)) C (λ_ _=>False) s')
  (h:∀p,PB vs.length p->fV key p vs.length->R (.done (.ret .none)) { s with heap:=sortedHeap s.heap a vs (p.toList.map λi=>vs.getD i Value.none).toArray }) :
  wpAny (model prog w) A (Builtin.«list.sort» ⟨[.ref a],[]⟩) R E s:=by
 rw[list_sort_plain];have ha:=uw ho;refine kn (listItems_at ho rfl ?_);refine kn (listUpdate_at ho rfl ?_ (by rw[pd,KG];omega) (Ki _));obtain⟨e1,Y⟩:∃e1,(s.heap.update a (Obj.mapSeq λ_=>(#[]:Array Value))).get? a=some (seqObj "list" #[] e1):=⟨_,get?_update_seq ho λ_=>#[]⟩;refine kn (seqEpoch_at Y rfl ?_);refine kn (wpAny_newTuple ?_ (by show vs.length<=_;rw[KG];omega));refine kn (wpAny_newList ?_ (Ki _));refine Le ?_;have D:(((s.heap.update a (Obj.mapSeq λ_=>(#[]:Array Value))).push (seqObj "tuple" vs.toArray 0)).push (seqObj "list" #[] 0)).get? a=some (seqObj "list" #[] e1):=mn _ (mn _ Y);have kp:∀b o,b≠a->s.heap.get? b=some o->(((s.heap.update a (Obj.mapSeq λ_=>(#[]:Array Value))).push (seqObj "tuple" vs.toArray 0)).push (seqObj "list" #[] 0)).get? b=some o:=λb o hb e =>
  mn _ (mn _ ((KP _ _ (KD hb)).trans e))
 dsimp only;have bP:vs.toArray.size=vs.length:=by rfl
 by_cases h2:vs.toArray.size<2
 .rw[if_pos h2,if_pos h2];refine kn (mu ?_);rw[StateT.run_pure];refine kn (mu ?_);dsimp only;refine kn (seqEpoch_at D rfl ?_);refine kn (listUpdate_at D rfl ?_ (Ki _) (by rw[Array.size_map];show(pairsOf vs).size<=_;rw[pairsOf_size,KG];omega));simp only[L7,KJ,LZ];have e:((arrOf (SortSt.mk' general' (vs.toArray.zip vs.toArray) #[] 7 none)).map (·.2))=((range vs.length).toArray.toList.map λi=>vs.getD i Value.none).toArray:=by
   have e2:(arrOf (SortSt.mk' general' (vs.toArray.zip vs.toArray) #[] 7 none))=vs.toArray.zip vs.toArray:=rfl;rw[e2];apply Array.toList_inj.mp;rw[iZ];simp[map_snd_zip]
  refine mu ?_;have q:=h (range vs.length).toArray (Array.Perm.refl _) (λi j bT hj=>by
   have:i=j:=by omega
   subst this;exact K2 _)
  rw[<- e]at q;exact q
 .rw[if_neg h2,if_neg h2];have Z:2<=vs.length:=by exact(Me ‹_›)
  refine kn (Ks (hk Z _ (λg s0=>KO g/\s0={ s with heap:=((s.heap.update a (Obj.mapSeq λ_=>(#[]:Array Value))).push (seqObj "tuple" vs.toArray 0)).push (seqObj "list" #[] 0) }) kp λg z=>⟨z,rfl⟩) (λg s0 z=>?_) λ_ _ x=>x.elim);obtain⟨z,rfl⟩:=z;refine kn (Ks (kat_run (Q:=λJ s'=>∃p,p.size=vs.length/\arrOf J=p.map (kas_item (vs.toArray.zip vs.toArray))/\failedOf J=none/\PB vs.length p/\fV key p vs.length/\s'={ s with heap:=((s.heap.update a (Obj.mapSeq λ_=>(#[]:Array Value))).push (seqObj "tuple" vs.toArray 0)).push (seqObj "list" #[] 0) })
   (G:=λp s'=>PB vs.length p/\fV key p vs.length/\s'={ s with heap:=((s.heap.update a (Obj.mapSeq λ_=>(#[]:Array Value))).push (seqObj "tuple" vs.toArray 0)).push (seqObj "list" #[] 0) })
   rfl Z ar (λp' J s' a1 a2 a3 a4=>⟨p',a1,a2,a3,a4⟩)
   (Eu (key:=key) (λi j C hi hj q=>hc g z _ i j C kp hi hj q) (KC ‹_›) λp hp hr=>⟨hp,hr,rfl⟩)) ?_ λ_ _ e=>e)
  rintro ⟨⟨⟩,J⟩ s' ⟨p,hp,a5,hf,a6,a7,rfl⟩;have U:=kat_snds rfl a5;refine kn (seqEpoch_at D rfl ?_);refine kn (listUpdate_at D rfl ?_ (Ki _) (by rw[U];refine xb (Lb ?_) (show vs.length<=_ by rw[KG];omega);simp[hp]));rw[hf,U];simp only[L7,KJ,LZ];exact mu (h p a6 a7)
theorem mf :∀{vs z}{ns ms} i,IntsAre vs ns->IntsAre z ms->fin=decide (ns.length<ms.length)->C (HT.lexLt ns ms) s->KatLex prog w A true fin C (vs.zip z) i s
 | _,_,_,_,i,.nil,.nil,hf,h=>by
  refine kat_nil ?_;rw[hf];exact h
 | _,_,_,_,i,.nil,.cons c u hw,hf,h=>by
  refine kat_nil ?_;rw[hf,Ka (by simp)];exact h
 | _,_,_,_,i,.cons a t D,.nil,hf,h=>by
  refine kat_nil ?_;rw[hf,Kn (by simp)];exact h
 | _,_,_,_,i,.cons (ns:=ns) a t D,.cons (ns:=ms) c u hw,hf,h=>by
  rw[HT.lexLt_cons]at h;refine kat_cons (wpAny_eqBool_int ?_);by_cases e:a=c
  .rw[if_pos e]at h;have q:(a==c)=true:=by rw[e];exact KN c
   rw[q];refine kat_yes (mf _ D hw ?_ h);rw[hf];simp
  .rw[if_neg e]at h;have q:=Ku.mpr e;rw[q];refine kat_no ?_;cases i with
   |zero=>exact oneLt_int h
   |succ i=>exact kat_one _ _ (lt_int h)
def Bo(hk:KOk g){a b:Addr}{its q:Array Value}{ns ms:List Int}{C:Bool->Shared->Prop}(ha:IsTup s.heap a its)(Y:IsTup s.heap b q)(hi:IntsAre its.toList ns)(U:IntsAre q.toList ms)
  (hu:A.units<cLine) (h:C (HT.lexLt ns ms) s):wpAny (model prog w) A (keyLt' g (.ref a) (.ref b)) C E s:=by
 rcases hk with rfl|rfl|rfl
 .obtain⟨o,ho,_,n,hd⟩:=id ha;obtain⟨o2,D,_,n2,z⟩:=id Y;refine kat_lt ho hd D z (mf 0 hi U ?_ h);have z1:its.size=ns.length:=by rw[<- hi.length];simp
  have z2:q.size=ms.length:=by rw[<- U.length];simp
  rw[z1,z2]
 .show wpAny _ _ (oneLt' false _ _) _ _ _;exact kat_one _ _ (HT.lt_tupInts ha Y hi U hu h)
 .rw[keyLt'_oneType,oneLt'_eq];refine kn (wpAny_cRoomFor hu ?_);refine bN λZq kq=>?_
  obtain⟨⟨cls,dd,data,sl⟩,ho,hc,n,hd⟩:=id ha;obtain⟨⟨aL,Z,data2,ao⟩,D,J,n2,z⟩:=id Y;simp only at hc hd J z;subst hc hd J z;refine kq ?_;refine kn (wpAny_callSpecialIfBound?_slot ⟨_,ho,rfl⟩ PySem.F.slot_tuple_lt (call_meets PySem.F.slot_tuple_lt ⟨_,ho,rfl⟩ PySem.F.entry_tuple_lt (PySem.F.args_tuple_lt_2 _ _) (HT.tuple_lt_ints a b its q n n2 dd Z sl ao ns ms hi U) ⟨ho,D,?_⟩));exact Kv h
theorem mh:∀(vs:List Value) {Q},(∀v∈vs,∃a its ns,v=.ref a/\IsTup s.heap a its/\IntsAre its.toList ns) ->
  (∀fs,fs.length=vs.length->(∀f∈fs,∀v,f=some v->∃n t,v=Value.int n t)->Q fs s)->wpAny (model prog w) A (vs.mapM firstOfTuple') Q E s
 | [],Q,_,h=>by rw[mapM_nil];exact mu (h [] rfl (by simp))
 |v::vs,Q,D,h=>by
  refine bN λZq J=>?_
  obtain⟨a,its,ns,rfl,⟨o,ho,hc,n,hd⟩,hi⟩:=D v (.head _);refine J ?_;rw[mapM_cons];refine kn ?_;refine kn (Looks.here (show Looks (model prog w) s.heap (typeOf (.ref a)) o.cls from(Looks.ld ho).andThen .now) ?_);rw[hc,if_neg (by first|decide|simp)];refine kn (listItems_at ho hd (mu ?_));refine kn (mh vs (Q:=λbs s'=>wpAny (model prog w) A (pure (its[0]?::bs)) Q E s') (λu U=>D u (.tail _ U)) λfs Y Z=>?_);refine mu (h _ (by simp[Y]) λf hm u e=>?_);rcases pe.mp hm with z|z
  .rw[z]at e;have q:u∈its.toList:=by
    rw[<- K7]at e;exact Ln e
   exact hi.all u q
  .exact Z f z u e
def wu{vs:List Value}{Q:SortKind->Shared->Prop}(h2:2<=vs.length)(hv:∀v∈vs,∃a its ns,v=.ref a/\IsTup s.heap a its/\IntsAre its.toList ns)(h:∀g,KOk g->Q g s) :
  wpAny (model prog w) A (keyKind' vs.toArray) Q E s:=by
 rw[kat_kind_eq,mapM_toArray,MR];refine kn (kn (mh vs hv λfs Y hf=>mu ?_));by_cases z:(fs.toArray.all λx=>x.isSome)=true
 .rw[if_pos z];refine kn (Mh ?_);have Z:(fs.toArray.filterMap id)=(fs.filterMap id).toArray:=by simp
  rw[Z,oneTypeOnly'_eq,mapM_toArray,MR];have J:∀v∈fs.filterMap id,∃n t,v=Value.int n t:=λv hm=>by
   refine ae (mem_filterMap.mp hm) λf ao e=>?_
   exact hf f ao v e
  have ar:0<(fs.filterMap id).length:=by
   match fs,Y,z with
   | [],Y,_=>simp at Y;omega
   |f::r,_,z =>
    have:f.isSome=true:=by simp at z;exact z.1
    obtain⟨u,rfl⟩:=isSome_iff_exists.mp this;simp
  refine kn (kn (kn (kas_mapM (r:=Value.type "int") _ (λv hm Q' hq=>?_) (mu ?_))))
  .refine mV (J v hm) λn t a0=>?_
   subst a0;exact mu hq
  .have h0:(map (λ_=>Value.type "int") (fs.filterMap id)).toArray[0]?=some (Value.type "int"):=by
    simp[ar]
   rw[h0];have D:((map (λ_=>Value.type "int") (fs.filterMap id)).toArray.all λx=>x==Value.type "int")=true:=by
    simp only[all_toArray,MU,Mf];intro _ _
    rfl
   simp only[D,if_true];exact mu (mu (h _ (.inl rfl)))
 .rw[if_neg z];by_cases U:((fs.toArray[0]?).bind id).isSome=true
  .rw[if_pos U];exact mu (h _ (.inr (.inl rfl)))
  .rw[if_neg U];rw[oneTypeOnly'_eq,mapM_toArray,MR];refine kn (kn (kn (kas_mapM (r:=Value.type "tuple") _ (λv hm Q' hq=>?_) (mu ?_))))
   .obtain⟨a,its,ns,rfl,⟨o,ho,hc,n,hd⟩,hi⟩:=hv v hm;have q:Looks (model prog w) s.heap (typeOf (.ref a)) o.cls:=(Looks.ld ho).andThen .now;rw[hc]at q;exact q.here hq
   .have h0:(map (λ_=>Value.type "tuple") vs).toArray[0]?=some (Value.type "tuple"):=by
     have:0<vs.length:=by exact(KC ‹_›)
     simp[this]
    rw[h0];have D:((map (λ_=>Value.type "tuple") vs).toArray.all λx=>x==Value.type "tuple")=true:=by
     simp only[all_toArray,MU,Mf];intro _ _
     rfl
    simp only[D,if_true];exact mu (mu (h _ (.inr (.inr rfl))))
end
end L2.Srt
namespace L2.St
open PySem PyProof.Rows List Option
section
variable{P:Program}{w:World}{A:Around}{E:Value->Shared->Prop}{s:Shared}
def ve{q:Array Value}(hi:IntsAre q.toList ns):∀i (v:Value),q[i]?=some v->∃t,v=.int (ns.getD i 0) t:=
 λi v e=>IntsAre.int_at hi i v (by rw[K7];exact e)
def lj{v:Value}{vs:Array Value}{it:Addr}{Q:Option Value->Shared->Prop}(q:A.handled=none){R:Value->Shared->Prop}
  (z:∀e s',(∀b o,s.heap.get? b=some o->s'.heap.get? b=some o)->(∃h',s'={ s with heap:=h' })->s'.TypeIs e "StopIteration"->R e s') {D:PySem.Fin->Shared->Prop} :
  wpAny (model P w) A (newExc (.type "StopIteration") [] >>= λe=>(raiseNew e:Sem PySem.Fin)) D R s:=by
 refine wpAny_bind ?_;simp only[newExc,newTuple];refine wpAny_bind (wpAny_newObj_type ?_ (by size_fits));refine wpAny_bind (m:=firstArgMember _ _) (wpAny_of_eq (a:=Value.none) (by first|rfl|(simp only[firstArgMember];rfl)) ?_);refine wpAny_newObj_type ?_ (by size_fits);simp only[raiseNew];refine wpAny_bind (wpAny_handled ?_);rw[q];refine wpAny_bind (wpAny_pure (wpAny_throw ?_));exact z _ _ (λb o e=>Heap.get?_push_of_some _ (Heap.get?_push_of_some _ e)) ⟨_,rfl⟩ ⟨_,Heap.get?_push_size _ rfl,rfl⟩
def oJ(h:ItemsOf (λi v=>∃t,v=Value.int (order.getD i 0) t) acc order.length):IntsAre acc.toList order:=by
 obtain⟨hz,J⟩:=h;have D:acc.toList.length=order.length:=by simpa using hz
 have z:∀j v,acc.toList[j]?=some v->∃t,v=Value.int _ t:=λj v e=>J j v (by rw[<- K7];exact e)
 clear J hz;generalize acc.toList=vs at D z
 induction vs generalizing order with
 |nil =>
  have:=K8.mp D.symm;rw[this];exact .nil
 |cons v r ih =>
  match order,D,z with
  | [],D,_=>simp at D
  |k::ks,D,z =>
   obtain⟨t,e⟩:=z 0 v rfl;have U:=e;rw[U];exact .cons k t (ih (by simpa using D) λj u q=>z (j+1) u (by simpa using q))
end
end L2.St
namespace L2.St
open PySem List Option
def mw(xs:Array Nat):Prop:=∀i j,i<j->j<xs.size->xs.getD i 0<xs.getD j 0
def yo{xs:Array Nat}(h:i<xs.size)(d e):xs.getD i d=xs.getD i e:=by simp[Array.getD,h]
theorem nu(U:mw xs):∀q lo hi,hi<=lo+q->lo<=hi->hi<=xs.size->(∀i,i<lo->xs.getD i 0<j)->(∀i,hi<=i->i<xs.size->j<=xs.getD i 0) ->
  (SetTable.below.go xs j q lo hi<=xs.size/\(∀i,i<SetTable.below.go xs j q lo hi->xs.getD i 0<j)/\∀i,SetTable.below.go xs j q lo hi<=i->i<xs.size->j<=xs.getD i 0)
 |0,lo,hi,hf,h1,h2,a,b=>by
  have e:SetTable.below.go xs j 0 lo hi=lo:=rfl;rw[e];have:=KI h1 hf;subst this;exact⟨h2,a,b⟩
 |q+1,lo,hi,hf,h1,h2,a,b=>by
  have e:SetTable.below.go xs j (q+1) lo hi=if lo<hi then(if xs.getD ((lo+hi) / 2) j<j then SetTable.below.go xs j q ((lo+hi) / 2+1) hi else SetTable.below.go xs j q lo ((lo+hi) / 2))else lo:=rfl
  rw[e];by_cases Y:lo<hi
  .rw[if_pos Y];refine bN λZq Z=>?_
   obtain⟨m,em,m1,m2⟩:∃m,(lo+hi) / 2=m/\lo<=m/\m<hi:=⟨_,rfl,by omega,by omega⟩;refine Z ?_;rw[em];have hm:=wh m2 h2;rw[yo hm j 0];by_cases J:xs.getD m 0<j
   .rw[if_pos J];refine nu U q _ hi (by omega) m2 h2 (λi D=>?_) b;rcases Ms (K1 D)with z|z
    .exact Lr (U i m z hm) J
    .rw[z];exact J
   .rw[if_neg J];refine nu U q lo _ (by omega) m1 (KC hm) a λi D hz=>?_
    rcases Ms D with z|z
    .exact xb (KS.mp J) (KC (U m i z hz))
    .rw[<- z];exact KS.mp J
  .rw[if_neg Y];have:=KI h1 (KS.mp Y);subst this;exact⟨h2,a,b⟩
def ju(q:mw xs)(j):SetTable.below xs j<=xs.size/\(∀i,i<SetTable.below xs j->xs.getD i 0<j)/\∀i,SetTable.below xs j<=i->i<xs.size->j<=xs.getD i 0:=
 nu q xs.size 0 xs.size (LP _ _) (Ki _) (pb _) (λi h=>absurd h (Nat.not_lt_zero i)) λi h1 h2=>absurd h2 (KS.mpr h1)
def oK(xs)(p)(x:α)(q:p<=xs.size):(SetTable.insertAt xs p x).size=xs.size+1:=by grind [SetTable.insertAt]
def j8(xs)(p)(x:α)(q:p<=xs.size)(i):(SetTable.insertAt xs p x)[i]?=if i<p then xs[i]? else if i=p then some x else xs[i-1]?:=by
 unfold SetTable.insertAt;have hz:((xs.extract 0 p).push x).size=p+1:=by rw[Array.size_push,Mt,LR q,Nat.sub_zero]
 rcases L6 i p with h1|h1|h1
 .rw[if_pos h1,Mw (by rw[hz];exact Kr h1)];rw[Array.getElem?_push,if_neg (by rw[Mt,LR q];exact x1 h1),Array.getElem?_extract,if_pos (by rw[LR q];exact h1),L0]
 .subst h1;rw[if_neg (Kt _),if_pos rfl,Mw (by rw[hz];exact K5 _)];rw[Array.getElem?_push,if_pos (by rw[Mt,LR q];rfl)]
 .obtain⟨k,rfl⟩:=Lu h1;rw[if_neg (MQ h1),if_neg (K3 h1),Array.getElem?_append_right (by rw[hz];exact h1),hz,Array.getElem?_extract,Lj,Nat.add_sub_cancel_left,Nat.min_self,Lj,K6];by_cases h3:k<xs.size-p
  .rw[if_pos h3]
  .rw[if_neg h3,Mc (Nat.sub_le_iff_le_add'.mp (KS.mp h3))]
def eY{xs:Array Nat} :xs.getD i 0=(xs[i]?).getD 0:=LF
def rH(D:mw xs)(hn:xs[SetTable.below xs j]?≠some j):mw (SetTable.insertAt xs (SetTable.below xs j) j):=by
 refine jP (ju D j) λJ ha Y=>?_
 generalize SetTable.below xs j=p at *
 have U:∀i,p<=i->i<xs.size->j<xs.getD i 0:=λi h1 h2=>by
  rcases Ms h1 with z|z
  .exact Hg (Y p (pb _) (Lr z h2)) (D p i z h2)
  .subst z;have e:xs[p]?=some (xs.getD p 0):=by rw[LS h2];simp[Array.getD,h2]
   exact Lk (Y p h1 h2) λz=>hn (by rw[e,<- z])
 intro i k q Z;rw[oK _ _ _ J]at Z;rw[eY,eY,j8 _ _ _ J,j8 _ _ _ J];rcases L6 k p with h1|h1|h1
 .rw[if_pos h1,if_pos (Lr q h1),<- eY,<- eY];exact D i k q (wh h1 J)
 .simp_all
 .obtain⟨c,rfl⟩:=Lu h1;have hc:=Ma Z;rw[if_neg (MQ h1),if_neg (K3 h1),K6];rcases L6 i p with h3|h3|h3
  .rw[if_pos h3,<- eY,<- eY];exact D i (p+c) (wh h3 (KW p c)) hc
  .rw[if_neg (h3▸Kt p),if_pos h3,<- eY];exact U (p+c) (KW p c) hc
  .obtain⟨b,rfl⟩:=Lu h3;rw[if_neg (MQ h3),if_neg (K3 h3),K6,<- eY,<- eY];exact D (p+b) (p+c) (Ma q) hc
def tL(n):mw (Array.range n):=λi j h1 h2=>by
 rw[Array.size_range]at h2;simp[Array.getD,h2,Lr h1 h2];exact h1
def yp:mw #[]:=λi j _ h=>by simp at h
structure Gd(L:Bool)(t:SetTable):Prop where
 led:t.led=L
 dum:t.dummies=#[]
 rise:mw t.place
theorem Gd.fresh(L):Gd L (.fresh 0 0 L):=⟨rfl,rfl,yp⟩
theorem Gd.standIn(h:Gd L t)(n):Gd L (t.standIn n):=⟨h.led,rfl,tL n⟩
theorem Gd.orStandIn(h:Gd L t)(n):Gd L (t.orStandIn n):=by
 unfold SetTable.orStandIn;split
 .exact h
 .exact h.standIn n
def Gd.unplain(h:Gd L t):Gd L { t with plain:=false }:=⟨h.led,h.dum,h.rise⟩
def qh{t:SetTable}(hd:t.dummies=#[])(j):t.slot j≠.dummy:=by
 unfold SetTable.slot SetTable.has;rw[hd];dsimp only;split
 .simp
 .simp
def tM{t:SetTable}(h:t.slot j=.empty):t.place[SetTable.below t.place j]?≠some j:=by
 intro e;unfold SetTable.slot at h
 simp_all
theorem rJ(hd:t.dummies=#[]) :∀q p,p.dummy=none->∀j d,SetTable.probe.go t ha h q p=some (.empty j d)->d=none/\t.slot j=.empty
 |0,p,D,j,d,e=>by
  have:SetTable.probe.go t ha h 0 p=none:=rfl;rw[this]at e;exact bc e
 |q+1,p,D,j,d,e=>by
  have step:SetTable.probe.go t ha h (q+1) p=(match t.slot p.j with
   | .empty=>some (.empty p.j p.dummy)
   | .dummy=>SetTable.probe.go t ha h q (t.advance { p with dummy:=some p.j })
   | .live i=>if ha i==h then some (.candidate p.j i (t.advance p))else SetTable.probe.go t ha h q (t.advance p)):=rfl
  rw[step]at e;have J:(t.advance p).dummy=none:=by unfold SetTable.advance;split<;>simp[D]
  cases z:t.slot p.j with
  |empty =>
   rw[z]at e;dsimp only at e;cases e;exact⟨D,z⟩
  |dummy=>exact absurd z (qh hd _)
  |live i =>
   rw[z]at e;dsimp only at e;split at e
   .cases e
   .exact rJ hd q _ J j d e
def wv{t:SetTable}(hd:t.dummies=#[])(e:t.freeSlot h=some (j,b)):t.slot j=.empty:=by
 unfold SetTable.freeSlot at e;split at e
 .rename_i q d z;obtain⟨rfl,D⟩:=rJ hd _ _ rfl q d z
  simp_all
 .exact bc e
theorem Gd.put(h:Gd L t)(q:t.slot j=.empty):Gd L (t.put j).1:=by
 refine⟨h.led,?_,rH h.rise (tM q)⟩;show(if SetTable.has t.dummies j then _ else t.dummies)=#[];rw[if_neg (by unfold SetTable.has;rw[h.dum];simp)];exact h.dum
theorem Gd.layNew(g:Gd L t)(es)(h)(x):Gd L (layNew t es h x).2.1:=by
 unfold PySem.layNew;cases e:t.freeSlot h with
 |none=>exact g.standIn _
 |some q =>
  exact(g.put (wv g.dum e)).orStandIn _
def yq(f:Nat->Option Nat)(n):mw ((((range n).filterMap λj=>(f j).map λi=>(j,i)).map λq:Nat×Nat=>q.1).toArray):=by
 have e:((range n).filterMap λj=>(f j).map λi=>(j,i)).map (λq:Nat×Nat=>q.1)=(range n).filter λj=>(f j).isSome:=by
  generalize range n=l
  induction l with
  |nil=>rfl
  |cons a l ih =>
   cases h:f a<;>simp[filterMap_cons,filter_cons,h,ih]
 rw[e];have U:((range n).filter λj=>(f j).isSome).Pairwise (· < ·):=Pairwise.filter _ pairwise_lt_range;intro i j D Y;have z:j<((range n).filter λj=>(f j).isSome).length:=by exact Y
 have J:i<((range n).filter λj=>(f j).isSome).length:=Lr D z;have:=pairwise_iff_getElem.mp U i j J z D;simpa[Array.getD,z,J]using this
theorem Gd.relaid(g:Gd L t)(e:t.relaid q n=some (t',o)):Gd L t':=by
 unfold SetTable.relaid SetTable.laid at e;cases h:SetTable.layClean (SetTable.sizeAbove n-1) q with
 |none=>rw[h]at e;exact bc e
 |some z =>
  rw[h]at e;cases e;exact⟨g.led,rfl,yq (λj=>z.getD j none) _⟩
theorem Gd.relayAll(g:Gd L t)(es)(n):Gd L (relayAll t es n).2.1:=by
 unfold PySem.relayAll;cases e:t.relaid (es.map (·.1)) n with
 |none=>exact g.standIn _
 |some q =>
  obtain⟨t',o⟩:=q;dsimp only;split
  .exact g.relaid e
  .exact g.standIn _
end L2.St
namespace L2.St
open PySem PyProof.Rows List Option
noncomputable def byT (w:World):Bool:=w.params.followText "set-order"
structure Arr(P:Program)(w:World)(ks:List Int)(es:Array (Int×Value))(t:SetTable):Prop where
 el:ElemsOf (intKind P w) es.toList
 pm:(es.toList.map λe=>numOf e.2).Perm ks
 nd:ks.Nodup
 bd:es.size<scanBound
 fi:t.fits es.size=true
 gd:Gd (!byT w) t
def eO(P:Program)(w:World)(h:Heap)(a:Addr)(ks:List Int):Prop:=
 ∃o es ep t,h.get? a=some o/\o.ExactSet/\o.data=.set es ep t/\ElemsOf (intKind P w) es.toList/\(es.toList.map λe=>numOf e.2).Perm ks/\ks.Nodup/\es.size<scanBound/\t.fits es.size=true/\Gd (!byT w) t
section
variable{P:Program}{w:World}{h h':Heap}{a:Addr}{ks ks':List Int}{o:Obj}{es:Array (Int×Value)}{ep:Nat}{t:SetTable}
theorem eO.arr(g:eO P w h a ks):∃o es ep t,(h.get? a=some o/\o.ExactSet/\o.data=.set es ep t)/\Arr P w ks es t:=by
 refine bN λY z=>?_
 obtain⟨o,es,ep,t,ho,q,hd,c1,c2,c3,D,J,U⟩:=g;refine z ?_;exact⟨o,es,ep,t,⟨ho,q,hd⟩,⟨c1,c2,c3,D,J,U⟩⟩
theorem Arr.set(r:Arr P w ks es t)(ho:h.get? a=some o)(q:o.ExactSet)(hd:o.data=.set es ep t):eO P w h a ks:=
 ⟨o,es,ep,t,ho,q,hd,r.el,r.pm,r.nd,r.bd,r.fi,r.gd⟩
theorem Arr.len(r:Arr P w ks es t):es.size=ks.length:=by simpa using r.pm.length_eq
theorem Arr.bare(r:Arr P w ks es t)(b:Bool):Arr P w ks es (if b=true then t else { t with plain:=false }):=by
 cases b
 .exact⟨r.el,r.pm,r.nd,r.bd,SetTable.fits_plain_off r.fi,r.gd.unplain⟩
 .exact r
theorem Arr.lay(r:Arr P w ks es t)(tk)(D:k∉ks)(J:ks.length+1<scanBound):Arr P w (k::ks) (layNew t es (hashInt k) (.int k tk)).1 (layNew t es (hashInt k) (.int k tk)).2.1:=by
 have p:(layNew t es (hashInt k) (.int k tk)).1.toList.Perm (es.toList++[(hashInt k,.int k tk)]):=by simpa using layNew_perm t es _ _
 have z:=p.length_eq;have l:=r.len;constructor
 .exact ElemsOf.perm (r.el.push (intKind_is _ _ _ _) rfl) p
 .have q:((es.toList++[(hashInt k,Value.int k tk)]).map λe=>numOf e.2).Perm (k::ks):=by
   rw[K0];exact perm_append_comm.trans (r.pm.cons k)
  exact(p.map _).trans q
 .exact KA.mpr ⟨D,r.nd⟩
 .simp at z;exact(by simp[*])
 .exact layNew_fits _ _ _ _
 .exact r.gd.layNew _ _ _
def Arr.relay(r:Arr P w ks es t)(n):Arr P w ks (relayAll t es n).1 (relayAll t es n).2.1:=by
 have p:=relayAll_perm t es n;have z:=p.length_eq;have b:=r.bd;exact⟨r.el.perm p,(p.map _).trans r.pm,r.nd,by simp at z;exact(by simp[*]),relayAll_fits t es n,r.gd.relayAll es n⟩
theorem eO.at(g:eO P w h a ks)(k:∀o,h.get? a=some o->h'.get? a=some o):eO P w h' a ks:=by
 obtain⟨o,es,ep,t,⟨ho,q,hd⟩,r⟩:=g.arr;exact r.set (k o ho) q hd
end
def pj(h:ElemsOf (intKind P w) es):∀e∈es,∃t,e.2=.int (numOf e.2) t:=λe z=>by
 obtain⟨⟨k,D,_⟩,_⟩:=h e z;obtain⟨t,q⟩:=MA (show Value.isInt k e.2=true from D);exact⟨t,by rw[q];rfl⟩
def qi(h:ElemsOf (intKind P w) es)(D:e∈es)(k):(intKind P w).is k e.2=true ↔ numOf e.2=k:=by
 obtain⟨t,q⟩:=pj h e D;constructor
 .intro z;obtain⟨t',J⟩:=MA (show Value.isInt k e.2=true from z);rw[J];rfl
 .intro z;rw[q,z];exact intKind_is _ _ _ _
section
variable{P:Program}{w:World}{A:Around}{E:Value->Shared->Prop}{s:Shared}
def Now(P:Program)(w:World)(a:Addr)(s:Shared)(ks:List Int)(s':Shared):Prop:=
 ∃h',s'={ s with heap:=h' }/\Heap.SameBut a s.heap h'/\eO P w h' a ks
theorem Now.stay(g:eO P w s.heap a ks):Now P w a s ks s:=⟨s.heap,rfl,Heap.SameBut.refl a s.heap,g⟩
def Bp{h:Heap}{a:Addr}{o:Obj}{es:Array (Int×Value)}{ep:Nat}{t:SetTable}(ho:h.get? a=some o)(z:o.ExactSet)(hd:o.data=.set es ep t)
  {q:Array (Int×Value)}{t':SetTable}{ks:List Int} (r:Arr P w ks q t'):eO P w (h.update a (Obj.putSet q t')) a ks:=by
 refine r.set (o:={ o with data:=.set q (ep+1) t' }) (ep:=ep+1) ?_ z rfl;have e:Obj.putSet q t' o={ o with data:=.set q (ep+1) t' }:=putSet_of q t' hd;rw[<- e];exact KU _ ho (by rw[e];rfl)
theorem Now.put{s':Shared}(n:Now P w a s ks s'){es:Array (Int×Value)}{t:SetTable}(r:Arr P w ks' es t){Q:Unit->Shared->Prop}(h:∀q,Now P w a s ks' q->Q () q) :
  wpAny (model P w) A (storeSet a es t) Q E s':=by
 refine bN λY J=>?_
 refine a8 n λh' z U g=>?_
 subst z;obtain⟨o,_,_,_,⟨ho,D,hd⟩,_⟩:=g.arr;refine J ?_;exact wpAny_storeSet_of ho hd (h _ ⟨_,rfl,U.trans (Lf h' a _),Bp ho D hd r⟩) (fits_of_scanBound r.bd)
def Hi{Q:Unit->Shared->Prop}(hm:m=pure ()\/∃n,m=rule n)(h:Q () s'):wpAny (model P w) A m Q E s':=by
 rcases hm with rfl|⟨n,rfl⟩
 .exact mu h
 .exact Mh h
def Hj(k)(tk)(c)(h:∀b,wpAny (model P w) A (f b) Q E s') :
  wpAny (model P w) A (if c=true then hashByValue 8 (.int k tk) >>= f else(pure true:Sem Bool) >>= f) Q E s':=by
 cases c
 .exact kn (mu (h true))
 .rw[if_pos rfl,hashByValue_scannable 8 (show(Value.int k tk).scannable=true from rfl)];exact kn (mu (h _))
def ww{Q:Bool->Shared->Prop}(hS:eO P w s.heap a ks)(D:ks.length+1<scanBound)
  (h:∀h' b,Heap.SameBut a s.heap h'->eO P w h' a (if k∈ks then ks else k::ks)->Q b { s with heap:=h' }) :
  wpAny (model P w) A (setAddHashed a (.int k tk) (hashInt k)) Q E s:=by
 have fin:∀b s',Now P w a s (if k∈ks then ks else k::ks) s'->Q b s':=by
  rintro b _ ⟨h',rfl,sb,g⟩;exact h h' b sb g
 have now:=Now.stay hS;obtain⟨o,es,ep,t,⟨ho,a4,hd⟩,r⟩:=hS.arr;have here:k∈ks ↔ ((es.toList.findIdx? λe=>(intKind P w).is k e.2).isSome=true):=by
  rw[findIdx?_isSome,KY,<- r.pm.mem_iff,mem_map];exact⟨λhq=>ae hq λe U q=>⟨e,U,(qi r.el U k).mpr q⟩,λhq=>ae hq λe U q=>⟨e,U,(qi r.el U k).mp q⟩⟩
 refine Le (kn (Lp ho hd r.fi ?_));dsimp only;rw[byScan_of (x:=.int k tk) rfl r.bd r.el,if_pos rfl];refine kn ?_;refine kn (Mh (kn (wpAny_setScan_of (knd:=intKind P w) (intKind_is _ _ _ _) ho hd r.fi r.el ?_)));rcases Y:es.toList.findIdx? λe=>(intKind P w).is k e.2 with _|j
 .rw[Y];have Z:k∉ks:=λz=>by rw[here,Y]at z;exact Bool.noConfusion z
  rw[if_neg Z]at fin;have r1:=r.lay tk Z D;rcases hl:layNew t es (hashInt k) (.int k tk)with⟨J,t1,dm,gv⟩
  rw[hl]at r1;dsimp only at r1 ⊢;refine kn (Hi ?_ ?_)
  .cases gv
   .exact .inl rfl
   .exact .inr ⟨_,rfl⟩
  refine Hj k tk _ λb=>?_
  have r2:=r1.bare b;generalize (if b=true then t1 else _)=t2 at r2 ⊢;refine kn (now.put r2 λs2 n2=>?_);refine Lo (λ_=>?_) (λ_=>mu (mu (fin _ _ n2)));have r3:=r2.relay (SetTable.grown J.size);rcases hm:relayAll t2 J (SetTable.grown J.size)with⟨bt,t3,a1⟩
  rw[hm]at r3;dsimp only at r3 ⊢;refine kn (Hi ?_ ?_)
  .cases a1
   .exact .inl rfl
   .exact .inr ⟨_,rfl⟩
  exact kn (n2.put r3 λs3 n3=>mu (mu (fin _ _ n3)))
 .rw[Y];have Z:=here.mpr (by rw[Y];rfl);rw[if_pos Z]at fin;exact mu (mu (fin _ _ now))
end
noncomputable def dd:List Int->List Int
 | []=>[]
 |k::r=>if k∈dd r then dd r else k::dd r
theorem jv :∀{l},k∈dd l ↔ k∈l
 | []=>Iff.rfl
 |x::r=>by
  show k∈(if x∈dd r then dd r else x::dd r) ↔ _;have ih:=@jv k r;by_cases h:x∈dd r
  .rw[if_pos h,ih,pe];exact⟨.inr,λz=>z.elim (λe=>by rw[e];exact jv.mp h) id⟩
  .simp_all
theorem dd_nodup:∀l,(dd l).Nodup
 | []=>KQ
 |x::r=>by
  show(if x∈dd r then dd r else x::dd r).Nodup;by_cases h:x∈dd r
  .rw[if_pos h];exact dd_nodup r
  .rw[if_neg h];exact KA.mpr ⟨h,dd_nodup r⟩
theorem yr:∀l,(dd l).length<=l.length
 | []=>pb _
 |x::r=>by
  show(if x∈dd r then dd r else x::dd r).length<=_;have:=yr r
  grind
def But(q:List Addr)(s s':Shared):Prop:=
 ∃h' tk,s'={ s with heap:=h',toks:=tk }/\∀b o,b∉q->s.heap.get? b=some o->h'.get? b=some o
theorem But.on(x:But U s s')(y:But vs s' D)(Y:∀b∈U,b∈vs):But vs s D:=by
 refine cM x λh1 t1 q Z=>?_
 subst q;refine cM y λh2 t2 q k2=>?_
 subst q;exact⟨h2,t2,rfl,λb o J e=>k2 b o J (Z b o (λz=>J (Y b z)) e)⟩
section
variable{P:Program}{w:World}{A:Around}{R:Result->Shared->Prop}{I S:Addr}{fp wr:List Addr}{n:Nat}{Pv:Nat->Value->Prop}{St:Nat->Heap->Prop}
noncomputable abbrev upd (S I:Addr):Code:=.builtin "set.update.loop" ⟨[.ref S,.ref I],[]⟩
def rK (h:wpAny (model P w) A.in1 (pyNext (.ref I)) (λv s'=>match v with
   |none=>R (.ok (.ret .none)) s'
   |some x=>wpAny (model P w) A.in1 (setAdd S x) (λ_ q=>codeAny (model P w) A (upd S I) R q) (λe q=>R (.error e) q) s') (λe s'=>R (.error e) s') s) :
  codeAny (model P w) A (upd S I) R s:=by
 have pl:=PyProof.Rows.F.plain_set_update_loop;apply Mi PyProof.Rows.F.entry_set_update_loop;rw[Mj pl];apply kn (m:=pyNext _);refine Ks h (λv s' z=>?_) λ_ _ x=>x
 cases v with
 |none=>exact mu z
 |some x =>
  refine kn (Le (Ks z (λ_ q hc=>?_) λ_ _ x=>x));exact mu ⟨Mz pl _,hc⟩
def add_int(g:eO P w s.heap S ks)(room:ks.length+1<scanBound) 
  (h:∀b s',But [S] s s'->eO P w s'.heap S (if k∈ks then ks else k::ks)->(∀b,b≠S->s'.heap.get? b=s.heap.get? b)->Q b s'):wpAny (model P w) B (setAdd S (.int k t)) Q E s:=by
 refine Le (kn ((intKind P w).pyHash (intKind_is _ _ _ _) ?_));refine ww g room λh' b q g'=>h b _ ⟨h',_,rfl,λc o hc e=>?_⟩ g' λc hc=>?_
 .rw[q.2 c (by simpa using hc)];exact e
 .exact q.2 c hc
theorem vf(W:Walks P w A.in1 I fp wr n Pv St)(J:S∉fp)(xs:List Int)(hn:xs.length=n)(Z:∀i v,Pv i v->∃t,v=.int (xs.getD i 0) t)(hb:n+1<scanBound) :
  ∀m i s,i+m=n->St i s.heap->eO P w s.heap S (dd (xs.take i).reverse)->(∀s',But (S::wr) s s'->eO P w s'.heap S (dd xs.reverse)->R (.ok (.ret .none)) s') ->
   codeAny (model P w) A (upd S I) R s
 |0,i,s,e,st,g,h=>by
  have hi:i=n:=e;subst hi;refine rK (W.done s _ _ st λh' tk kp=>h _ ⟨h',tk,rfl,λb o q=>kp b o λz=>q (.tail _ z)⟩ ?_);rw[MF (by simp[*])]at g;exact g.at λo=>kp S o λz=>J (W.sub S z)
 |m+1,i,s,e,st,g,h=>by
  have hi:i<n:=by omega
  refine rK (W.item i s _ _ hi st λv h1 D pv U kp=>?_);obtain⟨t,rfl⟩:=Z i v pv;have b1:But wr s { s with heap:=h1,toks:=D }:=⟨h1,D,rfl,kp⟩;have l:(dd (xs.take i).reverse).length+1<scanBound:=by
   have:=yr (xs.take i).reverse;simp at this;omega
  refine add_int (g.at λo=>kp S o λz=>J (W.sub S z)) l λ_ s2 b2 g2 Y=>?_
  refine vf W J xs hn Z hb m _ s2 (by omega) (W.frame _ h1 _ U λb q o e'=>?_) ?_ λs3 b3 g3=>h s3 ?_ g3
  .rw[Y b λz=>J (z▸q)];exact e'
  .have:xs.take (i+1)=xs.take i++[xs.getD i 0]:=by
    simp_all
   rw[this,reverse_append];exact g2
  .exact(b1.on (b2.on b3 (by simp)) λb z=>.tail _ z)
end
section
variable{P:Program}{w:World}{A:Around}{E:Value->Shared->Prop}{s:Shared}
def gE(h:Q (byT w) s):wpAny (model P w) A setsByText Q E s:=
  kn (wpAny_askSetting (mu h))
noncomputable abbrev lm (w:World):Obj:={ cls:=.type "set",dict:=none,data:=.set #[] 0 (.fresh 0 0 (!byT w)) }
noncomputable abbrev bz(w:World)(s:Shared):Shared:={ s with heap:=s.heap.push (lm w) }
def Bq (h:Q (.ref s.heap.objs.size) (bz w s)):wpAny (model P w) A (newSet (.type "set")) Q E s:=by
 refine kn (gE ?_);exact kn (wpAny_alloc (mu h))
def yt(h:Heap):eO P w (h.push (lm w)) h.objs.size []:=
 Arr.set (es:=#[]) (ep:=0) ⟨λe q=>by simp at q,by simp,KQ,by decide,rfl,Gd.fresh _⟩ (tu _ rfl) ⟨rfl,rfl,rfl⟩ rfl
def Br (x) {Q:Value->Shared->Prop} (h:Q (.ref s.heap.objs.size) (bz w s)):codeAny (model P w) A (.call (.builtin "set.__new__") ⟨[.type "set",x],[]⟩) (wants Q E) s:=by
 refine codeAny_call_builtin PySem.F.plain_set_new PySem.F.entry_set_new (wpAny_of_eq (PySem.F.newCall_set_1 x) ?_);have cls:∀{R}{F},R (.type "set",[x]) s->wpAny (model P w) A.in1 (Builtin.Frozenset.newClass "set" ⟨[.type "set",x],[]⟩) R F s:=by
  intro R F z;have q:=sub_set_self
  wp_walk
  exact z
 exact kn (cls (kn (Bq (mu h))))
def yu(x){Q:Value->Shared->Prop}
  (hU:∀B,B.handled=A.handled->wpAny (model P w) B (Builtin.Frozenset.updateFrom "set.__init__" s.heap.objs.size x) (λ_ s'=>Q (.ref s.heap.objs.size) s') E (bz w s)) :
  wpAny (model P w) A (call (.type "set") [x]) Q E s:=by
 have D:(bz w s).heap.get? s.heap.objs.size=some (lm w):=tu _ rfl;have init:codeAny (model P w) A.in1 (.call (.builtin "set.__init__") ⟨[.ref s.heap.objs.size,x],[]⟩) (wants (λr s'=>r=.none/\Q (.ref s.heap.objs.size) s') E) (bz w s):=by
  refine codeAny_call_builtin PySem.F.called_set.init.plain PySem.F.entry_set_init (check_set_init_1 ⟨_,D,rfl⟩ ?_);have Y:=hU A.in1.in1 (by simp);generalize hw:bz w s=s1 at D Y ⊢;generalize s.heap.objs.size=S at D Y ⊢;obtain⟨hp,g,d,tk,os⟩:=s1;unfold Builtin.«set.__init__» noKeywords;generalize Builtin.Frozenset.updateFrom=U at Y ⊢
  wp_walk
  exact Ks Y (λ_ s' Z=>mu ⟨rfl,Z⟩) λ_ _ z=>z
 have J:=PySem.F.called_set;refine wpAny_call (codeAny_of_tree (mu ⟨Code.quiet_builtin _ (by decide +kernel),Mi PySem.F.entry_type_call ?_⟩));rw[Around.under_plain (weight_type_call_type "set" [x] []) rfl];have f1:=J.notType;have f2:=J.canCreate;have f3:=J.made;have f4:=J.sub
 have f5:=PySem.F.typeCall_set_1 x;refine mV J.mro λc tl f6=>?_
 repeat (any_goals (first|assumption|wp_step))
 refine Lq (Br x (E:=E) (Q:=λv s'=>v=.ref s.heap.objs.size/\s'=bz w s) ⟨rfl,rfl⟩) λr s1 q=>?_
 match r,q with
 | .error e,q=>exact q
 | .ok (.ret v),q =>
  obtain⟨rfl,rfl⟩:=q;have f7:Shared.TypeIs (bz w s) (.ref s.heap.objs.size) "set":=⟨_,D,rfl⟩;have f8:=J.init.lookup;have f9:=J.init.bind (.ref s.heap.objs.size)
  repeat (any_goals (first|assumption|wp_step))
  refine Lq init λr s2 q=>?_
  match r,q with
  | .error e,q=>exact q
  | .ok (.ret v),q =>
   obtain⟨rfl,Z⟩:=q;show wpAny _ A.in1 (pure (some Value.none)) _ _ _;exact mu (mu Z)
def nv {o:Obj} (x:s.heap.get? l=some o) (hc:o.cls=.type q) (hd:(Value.type q==.type "dict")=false)
  (D:isSubtype (.type q) (.type "set")=pure false) (J:isSubtype (.type q) (.type "frozenset")=pure false)
  {ns:List Int}{Pv:Nat->Value->Prop}{St:Nat->Heap->Prop} (hv:∀i v,Pv i v->∃t,v=.int (ns.getD i 0) t) (z:ns.length+1<scanBound) {U:Obj}
  (W:∀B,B.handled=A.handled->Walks P w B ((bz w s).heap.objs.size) [(bz w s).heap.objs.size,l] [(bz w s).heap.objs.size] ns.length Pv St)
  (it:∀B E' R,R (.ref (bz w s).heap.objs.size) { s with heap:=(bz w s).heap.push U }->wpAny (model P w) B (pyIter (.ref l)) R E' (bz w s))
  (st:St 0 ((bz w s).heap.push U)) {Q:Value->Shared->Prop}
  (h:∀h' tk,eO P w h' s.heap.objs.size (dd ns.reverse)->(∀b o,s.heap.get? b=some o->h'.get? b=some o)->Q (.ref s.heap.objs.size) { s with heap:=h',toks:=tk }) :
  wpAny (model P w) A (call (.type "set") [.ref l]) Q E s:=by
 have z1:(bz w s).heap.objs.size=s.heap.objs.size+1:=Kg ..;have Y:∀b,b<s.heap.objs.size->b∉[s.heap.objs.size,(bz w s).heap.objs.size]:=λb z=>by
  rw[z1];simp only[pe,Kf,Ko,not_or];exact⟨x1 z,x1 (Kr z)⟩
 have kept:∀b o,s.heap.get? b=some o->((bz w s).heap.push U).get? b=some o:=λb o e=>mn _ (mn _ e)
 refine yu _ λB hB=>?_
 have Z:(bz w s).TypeIs (.ref l) q:=⟨o,mn _ x,hc⟩;refine kn (kn (Ls Z D ?_));refine Ls Z J ?_;rw[if_neg oe];refine kn (LY Z ?_);rw[hd,if_neg oe];refine kn (it _ _ _ (kn (wpAny_runValue ?_)));have hS:s.heap.objs.size∉[(bz w s).heap.objs.size,l]:=by
  have:=uw x;rw[z1];simp only[pe,Kf,Ko,not_or];exact⟨x1 (K5 _),K3 this⟩
 refine vf (W _ hB) hS ns rfl hv z ns.length 0 _ (Nat.add_comm _ _) st ((yt s.heap).at λo e=>mn _ e) ?_;rintro s' ⟨h',tk,rfl,kp⟩ g;exact mu (h h' tk g λb o e=>kp b o (Y b (uw e)) (kept b o e))
def set_list 
  (D:A.handled=none) (J:s.heap.IsList l items) (hi:IntsAre items.toList ns) (U:items.size+1<scanBound)
  (h:∀h' tk,eO P w h' s.heap.objs.size (dd ns.reverse)->(∀b o,s.heap.get? b=some o->h'.get? b=some o)->Q (.ref s.heap.objs.size) { s with heap:=h',toks:=tk }) :
  wpAny (model P w) A (call (.type "set") [.ref l]) Q E s:=by
 have z:items.size=ns.length:=by simpa using IntsAre.length hi
 refine a8 J λo ho hc Y=>?_
 have q:(bz w s).heap.IsList l items:=⟨o,mn _ ho,hc,Y⟩;refine nv ho hc (by decide) PySem.F.sub_list_set PySem.F.sub_list_frozenset (ve hi) (z▸U) (λB Z=>z▸Walks.list (Z.trans D) _ l ?_ items)
  (λB E' R=>L5 q) ⟨⟨_,tu _ rfl,rfl,rfl⟩,q.push _⟩ h
 exact x1 (Nat.lt_of_lt_of_eq (Kr (uw ho)) (Kg ..).symm)
def wz 
  (D:A.handled=none) (J:s.heap.IsTuple l items) (hi:IntsAre items.toList ns) (U:items.size+1<scanBound)
  (h:∀h' tk,eO P w h' s.heap.objs.size (dd ns.reverse)->(∀b o,s.heap.get? b=some o->h'.get? b=some o)->Q (.ref s.heap.objs.size) { s with heap:=h',toks:=tk }) :
  wpAny (model P w) A (call (.type "set") [.ref l]) Q E s:=by
 have z:items.size=ns.length:=by simpa using IntsAre.length hi
 refine a8 J λo ho hc Y=>?_
 have q:(bz w s).heap.IsTuple l items:=⟨o,mn _ ho,hc,Y⟩;refine nv ho hc (by decide) PySem.F.sub_tuple_set PySem.F.sub_tuple_frozenset (ve hi) (z▸U) (λB Z=>z▸Walks.tuple (Z.trans D) _ l ?_ items)
  (λB E' R=>LV q) ⟨⟨_,tu _ rfl,rfl,rfl⟩,q.push _⟩ h
 exact x1 (Nat.lt_of_lt_of_eq (Kr (uw ho)) (Kg ..).symm)
end
set_option maxRecDepth 100000 in
def nw:entryFor table "set.__iter__"=some Builtin.«frozenset.__iter__»:=
 entryFor_alias (id':="frozenset.__iter__") (by kernel_rfl) rfl (by decide +kernel) (by kernel_rfl)
set_option maxRecDepth 100000 in
def pk:Manifest.owners.lookup (String.ofList ['r','o','t','a','r','e','t','i','_','t','e','s'].reverse)=some Manifest.sig_set_iterator:=by kernel_rfl
set_option maxRecDepth 100000 in
def aZ:Slot "set_iterator" "__next__" "set_iterator.__next__":=
 .of (owner:="set_iterator") (n:="__next__") (by rw[typeLookup_type,builtinLookup_eq_fast];kernel_rfl) (by decide +kernel) (by decide +kernel) (by decide +kernel)
  (by first|exact .inl (by decide +kernel)|exact .inr (by decide +kernel)) (by rw[isSubtype_type];kernel_rfl)
set_option maxRecDepth 100000 in
def dE:entryFor table "set_iterator.__next__"=some Builtin.«set_iterator.__next__»:=entryFor_of_tree (by kernel_rfl)
set_option maxRecDepth 100000 in
def d_ (a):argsOk "set_iterator.__next__" ⟨[a],[]⟩:=by
 unfold argsOk;rw[signature?_of (n:=['_','_','t','x','e','n','_','_']) (by kernel_rfl) pk];kernel_rfl
set_option maxRecDepth 100000 in
def ji:Slot "set_iterator" "__iter__" "set_iterator.__iter__":=
 .of (owner:="set_iterator") (n:="__iter__") (by rw[typeLookup_type,builtinLookup_eq_fast];kernel_rfl) (by decide +kernel) (by decide +kernel) (by decide +kernel)
  (by first|exact .inl (by decide +kernel)|exact .inr (by decide +kernel)) (by rw[isSubtype_type];kernel_rfl)
set_option maxRecDepth 100000 in
def ny:entryFor table "set_iterator.__iter__"=some Builtin.«dict_keyiterator.__iter__»:=
 entryFor_alias (id':="dict_keyiterator.__iter__") (by kernel_rfl) rfl (by decide +kernel) (by kernel_rfl)
set_option maxRecDepth 100000 in
def oM (a):argsOk "set_iterator.__iter__" ⟨[a],[]⟩:=by
 unfold argsOk;rw[signature?_of (n:=['_','_','r','e','t','i','_','_']) (by kernel_rfl) pk];kernel_rfl
def yw {s:Shared}{I:Addr}{Q:Value->Shared->Prop} (q:s.TypeIs (.ref I) "set_iterator") (h:Q (.ref I) s):wpAny (model P w) A (pyIter (.ref I)) Q E s:=by
 refine MG q ji (Kp ji q ny ?_ (oM _));exact mu ⟨_,rfl,"set_iterator",_,q,aZ.lookup,h⟩
theorem jw{α:Type}:∀{l}{i}{x:α},l[i]?=some x->(x::l.eraseIdx i).Perm l
 | [],i,x,h=>by injection h
 |a::l,0,x,h=>by
  simp_all
 |a::l,i+1,x,h=>by
  have h':l[i]?=some x:=by simpa using h
  exact(Perm.swap a x _).trans (.cons a (jw h'))
theorem vg(next):∀q k left (out:Array α),q=left.length->(pickOrder.go next q k left out).toList.Perm (out.toList++left)
 |0,k,left,out,h=>by
  have:=K8.mp h.symm;subst this;rw[LG];exact .refl _
 |q+1,k,left,out,h=>by
  have z:next k % left.length<left.length:=Nat.mod_lt _ (by omega);obtain⟨x,hx⟩:∃x,left[next k % left.length]?=some x:=⟨_,Kc z⟩;have e:pickOrder.go next (q+1) k left out=pickOrder.go next q (k+1) (left.eraseIdx (next k % left.length)) (out.push x):=by
   show(match left[next k % left.length]? with
    |some x=>pickOrder.go next q _ (left.eraseIdx _) _
    |none=>out)=_
   rw[hx]
  rw[e];refine(vg next q _ _ _ (by rw[length_eraseIdx_of_lt z];omega)).trans ?_;rw[Array.toList_push,L1];exact Perm.append_left _ (jw hx)
def wA(next)(xs:Array α):(pickOrder next xs).toList.Perm xs.toList:=by
 have:=vg next xs.size 0 xs.toList #[] (by simp);exact this
section
variable{M:Model}{A:Around}{E:Value->Shared->Prop}{s:Shared}
def tN{n:Nat}{Q:Nat->Shared->Prop}(hn:n≠0)(h:∀i d',i<n->Q i { s with drawn:=d' }):wpAny M A (choose src n) Q E s:=λ_ _ _ =>
 ⟨hn,h _ _ (Nat.mod_lt _ (Nat.pos_of_ne_zero hn))⟩
theorem nz :∀n xs s {Q:List α->Shared->Prop},n=xs.length->(∀ys d',ys.Perm xs->Q ys { s with drawn:=d' })->wpAny M A (drawOrder n xs) Q E s
 |0,xs,s,Q,h,q=>by
  have:=K8.mp h.symm;subst this;exact mu (q [] s.drawn (.refl _))
 |n+1,[],s,Q,h,q=>by injection h
 |n+1,x::r,s,Q,h,q=>by
  refine kn (tN (by simp) λi d' hi=>?_);obtain⟨y,D⟩:∃y,(x::r)[i]?=some y:=⟨_,Kc hi⟩;rw[D];refine kn (nz n _ _ (by rw[length_eraseIdx_of_lt hi];simp at h ⊢;omega) λys z J=>mu ?_);exact q (y::ys) z ((Perm.cons y J).trans (jw D))
end
def SIt(h:Heap)(I S:Addr)(o:Obj)(f:Value)(i n ep:Nat):Prop:=
 h.get? I=some { cls:=.type "set_iterator",dict:=none,data:=.fields #[f,.int i 0,.ref S,.int n 0,.int ep 0],slots:=#[] }/\h.get? S=some o
theorem SIt.type {s:Shared} (h:SIt s.heap I S o f i n ep):s.TypeIs (.ref I) "set_iterator":=⟨_,h.1,rfl⟩
section
variable{P:Program}{w:World}{A:Around}{E:Value->Shared->Prop}{s:Shared}
def fz(ho:s.heap.get? S=some o)(hd:o.data=.set es ep t)(q:t.fits es.size=true)(h:Q es s) :
  wpAny (model P w) A (setEntries S) Q E s:=wpAny_setEntries_of ho hd q h
def pp{ep slot i:Nat}{t:SetTable}{Q:Option (Value×Nat)->Shared->Prop}(ho:s.heap.get? S=some o)(hd:o.data=.set es ep t)(q:t.fits es.size=true)(z:byT w=true)
  (h:Q (((pickOrder (w.params.setOrder S ep) es)[i]?).map λe=>(e.2,slot)) s):wpAny (model P w) A (setNext S slot i ep) Q E s:=by
 refine kn (Lp ho hd q ?_);refine kn (gE ?_);rw[if_pos z];simp only[L7,KJ,LZ];refine kn ?_;refine kn (Lp ho hd q ?_);refine kn (gE ?_);rw[if_pos z];refine kn (wpAny_askSetting (mu ?_));exact mu h
def nA{t:SetTable}{Q:Option (Value×Nat)->Shared->Prop}(ho:s.heap.get? S=some o)(hd:o.data=.set es ep t)(J:t.fits es.size=true)(U:byT w=false)
  (z:(!t.plain&&decide (es.size > 1))=false) (q:t.led=true)
  (h:Q (match es[SetTable.below t.place slot]?,t.place[SetTable.below t.place slot]? with|some (_,x),some j=>some (x,j+1)|_,_=>none) s):wpAny (model P w) A (setNext S slot i ep) Q E s:=by
 refine kn (Lp ho hd J ?_);refine kn (gE ?_);rw[if_neg (by rw[U];simp)];refine Lo (λD=>absurd (show(!t.plain&&decide (es.size > 1))=true from D) (by rw[z];simp)) (λ_=>?_);refine kn ?_;show wpAny _ _ (if (!t.led&&!es.isEmpty)=true then _ else _) _ _ s;rw[if_neg (by rw[q];simp)];exact mu (mu h)
def yx(z:mw xs)(hi:i<xs.size):SetTable.below xs (xs.getD i 0+1)=i+1:=by
 obtain⟨h1,h2,h3⟩:=ju z _;have a:i<SetTable.below xs (xs.getD i 0+1):=by
  by_cases q:SetTable.below xs (xs.getD i 0+1)<=i
  .have:=h3 i q hi;omega
  .exact(Nat.lt_of_not_le ‹_›)
 have b:SetTable.below xs (xs.getD i 0+1)<=i+1:=by
  by_cases q:i+1<SetTable.below xs (xs.getD i 0+1)
  .have:=h2 _ q;have:=z i (i+1) (pb _) (xb ‹_› ‹_›);omega
  .exact(Me ‹_›)
 exact(KI ‹_› ‹_›)
def tO(xs)(z:mw xs):SetTable.below xs 0=0:=by
 refine jP (ju z 0) λh1 h2 h3=>?_
 by_cases q:0<SetTable.below xs 0
 .have:=h2 0 q;omega
 .omega
end
section
variable{P:Program}{w:World}{A:Around}{E:Value->Shared->Prop}{s:Shared}{I S:Addr}{o:Obj}{es:Array (Int×Value)}{t:SetTable}{i n ep:Nat}
def oN{slot nx:Nat}{x:Value}{Q:Option Value->Shared->Prop}(q:SIt s.heap I S o (.int slot 0) i n ep)(hd:o.data=.set es ep t)(Z:t.fits es.size=true)(hn:es.size=n)(J:S≠I)
  (U:∀A' s' Y E',s'.heap.get? S=some o->Y (some (x,nx)) s'->wpAny (model P w) A' (setNext S slot i ep) Y E' s')
  (hQ:∀h',SIt h' I S o (.int nx 0) (i+1) n ep->Heap.SameBut I s.heap h'->Q (some x) { s with heap:=h' }):wpAny (model P w) A (pyNext (.ref I)) Q E s:=by
 refine kn (Md (Ky (name:=Str.ofString "__next__") q.type aZ (Kp aZ q.type dE ?_ (d_ _))));refine kn (m:=slotArgs "__next__" 0 _) (mu ?_);refine kn (Mm q.1 rfl ?_);dsimp only;refine kn (fz q.2 hd Z ?_);rw[if_neg (by simp[hn])]
 try dsimp only
 simp only[Int.toNat_natCast];refine kn (U _ _ _ _ q.2 ?_);refine kn (Ll q.1 (by simp) λh1 e1 z=>?_);refine kn (Ll e1 (by simp) λh2 e2 D=>?_);refine mu ⟨x,rfl,mu (hQ h2 ⟨?_,?_⟩ (z.trans D))⟩
 .exact e2
 .exact((z.trans D).2 S J).trans q.2
def oO{slot:Nat}{Q:Option Value->Shared->Prop}(U:A.handled=none)(z:SIt s.heap I S o (.int slot 0) i n ep)(hd:o.data=.set es ep t)(Z:t.fits es.size=true)(hn:es.size=n)
  (D:∀A' s' Y E',s'.heap.get? S=some o->Y none s'->wpAny (model P w) A' (setNext S slot i ep) Y E' s')
  (hQ:∀h',(∀b o,b≠I->s.heap.get? b=some o->h'.get? b=some o)->Q none { s with heap:=h' }):wpAny (model P w) A (pyNext (.ref I)) Q E s:=by
 refine kn (Md (Ky (name:=Str.ofString "__next__") z.type aZ (Kp aZ z.type dE ?_ (d_ _))));refine kn (m:=slotArgs "__next__" 0 _) (mu ?_);refine kn (Mm z.1 rfl ?_);dsimp only;refine kn (fz z.2 hd Z ?_);rw[if_neg (by simp[hn])]
 try dsimp only
 simp[Int.toNat_natCast];refine kn (D _ _ _ _ z.2 ?_);refine kn (Ll z.1 (by simp) λh1 e1 J=>?_);refine lj (v:=.none) (vs:=#[]) (it:=0) (Q:=λ_ _=>True) (by first|exact U|simpa using U) λe s' kp ⟨h',eq⟩ hT=>?_
 subst eq;refine kn (Ls hT isSubtype_stop ?_);exact mu (hQ h' λb o hb q=>kp b o ((J.2 b hb).trans q))
def nB{pn place:Nat}{pt:Tok}{hx:Int}{x:Value}{Q:Option Value->Shared->Prop}(q:SIt s.heap I S o (.ref Z) i n ep)(hd:o.data=.set es ep t)(hf:t.fits es.size=true)(hn:es.size=n)(D:S≠I)
  (J:s.heap.get? Z=some ot) (U:ot.data=.seq ps pn) (hp:ps[i]?=some (.int place pt)) (Y:es[place]?=some (hx,x))
  (hQ:∀h',SIt h' I S o (.ref Z) (i+1) n ep->Heap.SameBut I s.heap h'->Q (some x) { s with heap:=h' }):wpAny (model P w) A (pyNext (.ref I)) Q E s:=by
 refine kn (Md (Ky (name:=Str.ofString "__next__") q.type aZ (Kp aZ q.type dE ?_ (d_ _))));refine kn (m:=slotArgs "__next__" 0 _) (mu ?_);refine kn (Mm q.1 rfl ?_);dsimp only;refine kn (fz q.2 hd hf ?_);rw[if_neg (by simp[hn])]
 try dsimp only
 refine kn (wpAny_seqItems J U ?_);simp only[Int.toNat_natCast,hp];refine kn ?_;refine kn (Lp q.2 hd hf ?_);simp only[L7,KJ,LZ,Int.toNat_natCast,Y];refine mu ?_;refine kn (Ll q.1 (by simp) λh1 e1 z=>?_);refine mu ⟨x,rfl,mu (hQ h1 ⟨?_,?_⟩ z)⟩
 .exact e1
 .exact(z.2 S D).trans q.2
def nD(Z:A.handled=none)(z:SIt s.heap I S o (.ref Tp) i n ep)(hd:o.data=.set es ep t)(hf:t.fits es.size=true)(hn:es.size=n)
  (D:s.heap.get? Tp=some ot) (J:ot.data=.seq ps pn) (hp:ps[i]?=none)
  (hQ:∀h',(∀b o,b≠I->s.heap.get? b=some o->h'.get? b=some o)->Q none { s with heap:=h' }):wpAny (model P w) A (pyNext (.ref I)) Q E s:=by
 refine kn (Md (Ky z.type aZ (Kp aZ z.type dE ?_ (d_ _))));refine kn (mu ?_);refine kn (Mm z.1 rfl ?_);dsimp only;refine kn (fz z.2 hd hf ?_);rw[if_neg (by simp[hn])]
 try dsimp only
 refine kn (wpAny_seqItems D J ?_);simp[Int.toNat_natCast,hp];refine kn (Ll z.1 (by simp) λh1 e1 U=>?_);refine kn (Ll e1 (by simp) λh2 e2 Y=>?_);refine lj (v:=.none) (vs:=#[]) (it:=0) (Q:=λ_ _=>True) (by first|exact Z|simpa using Z) λe s' kp ⟨h',eq⟩ hT=>?_
 subst eq;refine kn (Ls hT isSubtype_stop ?_);exact mu (hQ h' λb o hb q=>kp b o (((U.trans Y).2 b hb).trans q))
end
def yy(xs:List Value):(range xs.length).map (λi=>xs.getD i .none)=xs:=by
 apply ext_getElem?;intro i;by_cases q:i<xs.length
 .simp_all
 .simp_all
structure nE(P:Program)(w:World)(I:Addr)(fp:List Addr)(order:List Value)(St:Nat->Heap->Prop):Prop where
 mem:I∈fp
 ty:∀i h,St i h->∃o,h.get? I=some o/\o.cls=.type "set_iterator"
 frame:∀i h h',St i h->(∀b∈fp,∀o,h.get? b=some o->h'.get? b=some o)->St i h'
 item:∀(A:Around) i (s:Shared) (Q:Option Value->Shared->Prop) (E:Value->Shared->Prop),i<order.length->St i s.heap ->
  (∀h',St (i+1) h'->(∀b o,b≠I->s.heap.get? b=some o->h'.get? b=some o)->Q (some (order.getD i .none)) { s with heap:=h' })->wpAny (model P w) A (pyNext (.ref I)) Q E s
 done:∀(A:Around) (s:Shared) (Q:Option Value->Shared->Prop) (E:Value->Shared->Prop),A.handled=none->St order.length s.heap ->
  (∀h',(∀b o,b≠I->s.heap.get? b=some o->h'.get? b=some o)->Q none { s with heap:=h' })->wpAny (model P w) A (pyNext (.ref I)) Q E s
def nE.walks{St:Nat->Heap->Prop}(W:nE P w I fp order St)(U:A.handled=none) :
  Walks P w A I fp [I] order.length (λi v=>v=order.getD i .none) St where
 sub:=λb q=>by rw[Kd.mp q];exact W.mem
 frame:=W.frame
 item:=λi s Q E hi st D=>W.item A i s Q E hi st λh' J kp=>D _ h' s.toks rfl J λb o q e=>kp b o (λz=>q (by rw[z];exact Kd.mpr rfl)) e
 done:=λs Q E st D=>W.done A s Q E U st λh' kp=>D h' s.toks λb o q e=>kp b o (λz=>q (by rw[z];exact Kd.mpr rfl)) e
 self:=λi s Q E st h=>by
  refine ae (W.ty i _ st) λo e c=>?_
  exact yw ⟨o,e,c⟩ h
section
variable{P:Program}{w:World}{A:Around}{E:Value->Shared->Prop}{s:Shared}
def j9{l:List (Int×Value)}(h:l[i]?=some e):(l.map λe=>e.2).getD i .none=e.2:=by simp_all
set_option maxRecDepth 100000 in
def yz(ho:s.heap.get? S=some o)(b5:o.ExactSet)(hd:o.data=.set es ep t)(Y:es.size<scanBound)(Z:t.fits es.size=true)(hl:t.led=!byT w)(b1:mw t.place)
  (hQ:∀(I:Addr) h' d' fp D St,D.Perm (es.toList.map λe=>e.2)->(∀b o,s.heap.get? b=some o->h'.get? b=some o)->s.heap.objs.size<=I->(∀b∈fp,b=S\/s.heap.objs.size<=b)->(∀b∈fp,b<h'.objs.size) ->
   nE P w I fp D St->St 0 h'->Q (.ref I) { s with heap:=h',drawn:=d' }):wpAny (model P w) A (pyIter (.ref S)) Q E s:=by
 have hT:s.TypeIs (.ref S) "set":=⟨o,ho,b5.1⟩;have ar:=uw ho;have b6:t.place.size=es.size:=by simp[SetTable.fits]at Z;exact Z.1
 refine MG hT PySem.F.slot_set_iter (Kp PySem.F.slot_set_iter hT nw ?_ (PySem.F.args_set_iter_1 _));refine kn (m:=Builtin.Frozenset.slot0 "__iter__" _) (mu ?_);refine kn (m:=Builtin.Frozenset.sizeOf S) (kn (fz ho hd Z (mu ?_)));refine kn (m:=setDrawn S) ?_;refine kn (Lp ho hd Z ?_);dsimp only;refine kn (gE (mu ?_));have U:∀(D:List (Int×Value)) (fs:Nat->Nat),D.Perm es.toList->fs 0=0 ->
   (∀A' i (s':Shared) (Q':Option (Value×Nat)->Shared->Prop) (E':Value->Shared->Prop) e,D[i]?=some e->s'.heap.get? S=some o->Q' (some (e.2,fs (i+1))) s'->wpAny (model P w) A' (setNext S (fs i) i ep) Q' E' s') ->
   (∀A' s' Q' E',s'.heap.get? S=some o->Q' none s'->wpAny (model P w) A' (setNext S (fs D.length) D.length ep) Q' E' s') ->
   Q (.ref s.heap.objs.size) { s with heap:=s.heap.push { cls:=.type "set_iterator",data:=.fields #[.int 0 0,.int 0 0,.ref S,.int (es.size:Nat) 0,.int (ep:Nat) 0] } }:=by
  intro D fs hp h0 bA b2;have cL:D.length=es.size:=by have:=hp.length_eq;simpa using this
  refine hQ s.heap.objs.size _ s.drawn [s.heap.objs.size,S] (D.map λe=>e.2) (λi h=>SIt h s.heap.objs.size S o (.int (fs i) 0) i es.size ep) (hp.map _) (λb o e=>mn _ e) (pb _) (λb Y=>?_) (λb Y=>?_) ?_ ?_
  .rcases pe.mp Y with e|e
   .exact .inr (Lb e.symm)
   .exact .inl (Kd.mp e)
  .rw[Kg];rcases pe.mp Y with e|e
   .rw[e];exact K5 _
   .rw[Kd.mp e];exact Kr ar
  .refine⟨.head _,λi h st=>⟨_,st.1,rfl⟩,λi h h' st k=>⟨k _ (.head _) _ st.1,k _ (.tail _ (.head _)) _ st.2⟩,λA' i s' Q' E' hi st hq=>?_,λA' s' Q' E' hh st hq=>?_⟩
   .rw[sm]at hi;obtain⟨e,he⟩:∃e,D[i]?=some e:=⟨_,Kc hi⟩;rw[j9 he]at hq;refine oN (slot:=fs i) (nx:=fs (i+1)) (x:=e.2) st hd Z rfl (x1 ar) (λbK bP bS bT a2 q=>bA bK i bP bS bT e he a2 q) λh' bW sb=>?_
    exact hq h' bW λb o Y q=>(sb.2 b Y).trans q
   .rw[sm]at st;exact oO (slot:=fs D.length) hh st hd Z rfl (λbK bP bS bT a2 q=>b2 bK bP bS bT a2 q) hq
  .refine⟨?_,mn _ ho⟩;rw[h0];exact tu _ rfl
 cases a3:byT w with
 |true =>
  simp only[Bool.not_true,Bool.false_and,KJ,LZ];refine kn (mu ?_);refine kn (MH ho hd Z ?_);refine kn (Kw (mu ⟨_,rfl,"set_iterator",_,⟨_,tu _ rfl,rfl⟩,aZ.lookup,?_⟩));have q:=U (pickOrder (w.params.setOrder S ep) es).toList (λ_=>0) (wA _ _) rfl
   (λA' i s' Q' E' e he ao q=>pp ao hd Z a3 (by rw[<- K7,he];exact q))
   (λA' s' Q' E' ao q=>pp ao hd Z a3 (by rw[Mc (by simp)];exact q))
  simpa[rawInt]using q
 |false =>
  cases a6:(!t.plain&&decide (es.size > 1))with
  |false =>
   refine Lo (λb0=>absurd (show(!false&&(!t.plain&&decide (es.size > 1)))=true from b0) (by rw[a6];simp)) (λ_=>?_);refine kn (mu ?_);refine kn (MH ho hd Z ?_);refine kn (Kw (mu ⟨_,rfl,"set_iterator",_,⟨_,tu _ rfl,rfl⟩,aZ.lookup,?_⟩));have bt:t.led=true:=by rw[hl,a3];rfl
   have b3:∀i,i<=t.place.size->SetTable.below t.place (match i with|0=>0|j+1=>t.place.getD j 0+1)=i:=λi hi=>by
    cases i<;>first|exact tO _ b1|exact yx b1 ‹_›
   have q:=U es.toList (λi=>match i with|0=>0|j+1=>t.place.getD j 0+1) (.refl _) rfl
    (λA' i s' Q' E' e he ao q=>nA ao hd Z a3 a6 bt (by
     have hi:i<es.size:=by have:=(xa.mp he).1;simpa using this
     rw[b3 i (by omega)];rw[<- K7,he,LS (by omega:i<t.place.size)];have e2:t.place.getD i 0=t.place[i]:=by simp[Array.getD,(by omega:i<t.place.size)]
     dsimp only at q ⊢;rw[e2]at q;exact q))
    (λA' s' Q' E' ao q=>nA ao hd Z a3 a6 bt (by
     rw[b3 _ (by simp[b6]),Mc (by simp)];exact q))
   simpa[rawInt]using q
  |true =>
   refine Lo (λ_=>?_) (λb0=>absurd (show(!false&&(!t.plain&&decide (es.size > 1)))=true by rw[a6];rfl) b0);refine kn (nz _ _ _ (by simp) λz d' J=>?_);refine kn (wpAny_newTuple ?_ (by simp;have:=J.length_eq;simp at this;rw[this,KG];unfold scanBound at Y;omega));refine kn (MH (mn _ ho) hd Z ?_);refine kn (Kw (mu ⟨_,rfl,"set_iterator",_,⟨_,tu _ rfl,rfl⟩,aZ.lookup,?_⟩));have cS:z.length=es.size:=by have:=J.length_eq;simpa using this
   have hat:∀p∈z,p<es.size:=λp hp=>by have:=J.mem_iff.mp hp;simpa using this
   have cd:((s.heap.push { cls:=.type "tuple",data:=.seq (map (λ(i:Nat)=>rawInt i) z).toArray }).push { cls:=.type "set_iterator",data:=.fields #[.ref s.heap.objs.size,.int 0 0,.ref S,.int (es.size:Nat) 0,.int (ep:Nat) 0] }).get? s.heap.objs.size=some { cls:=.type "tuple",data:=.seq (map (λ(i:Nat)=>rawInt i) z).toArray }:=
    mn _ (tu _ rfl)
   have q:=hQ (s.heap.push { cls:=.type "tuple",data:=.seq (map (λ(i:Nat)=>rawInt i) z).toArray }).objs.size
    ((s.heap.push { cls:=.type "tuple",data:=.seq (map (λ(i:Nat)=>rawInt i) z).toArray }).push { cls:=.type "set_iterator",data:=.fields #[.ref s.heap.objs.size,.int 0 0,.ref S,.int (es.size:Nat) 0,.int (ep:Nat) 0] }) d'
    [(s.heap.push { cls:=.type "tuple",data:=.seq (map (λ(i:Nat)=>rawInt i) z).toArray }).objs.size,S,s.heap.objs.size]
    (z.map λp=>(es.toList.map λe=>e.2).getD p .none)
    (λi h=>SIt h (s.heap.push { cls:=.type "tuple",data:=.seq (map (λ(i:Nat)=>rawInt i) z).toArray }).objs.size S o (.ref s.heap.objs.size) i es.size ep/\h.get? s.heap.objs.size=some { cls:=.type "tuple",data:=.seq (map (λ(i:Nat)=>rawInt i) z).toArray })
    ?p1 (λb o e=>mn _ (mn _ e)) (by rw[Kg];exact KH _) ?p2 ?p3 ?p4 ⟨⟨tu _ rfl,mn _ (mn _ ho)⟩,cd⟩
   .exact q
   case p1 =>
    have e1:(es.toList.map λe=>e.2).length=es.size:=by simp
    have h1:=J.map λp=>(es.toList.map λe=>e.2).getD p .none
    rw[<- e1,yy]at h1;exact h1
   case p2 =>
    intro b Y;simp only[pe,Kf,Ko]at Y;rcases Y with e|e|e
    .exact .inr (by rw[e,Kg];exact KH _)
    .exact .inl e
    .exact .inr (Lb e.symm)
   case p3 =>
    intro b Y;rw[Kg];simp only[pe,Kf,Ko]at Y;rcases Y with e|e|e
    .rw[e];exact K5 _
    .rw[e,Kg];exact Kr (Kr ar)
    .rw[e,Kg];exact Kr (K5 _)
   case p4 =>
    refine⟨.head _,λi h st=>⟨_,st.1.1,rfl⟩,λi h h' st k=>⟨⟨k _ (.head _) _ st.1.1,k _ (.tail _ (.head _)) _ st.1.2⟩,k _ (.tail _ (.tail _ (.head _))) _ st.2⟩,λA' i s' Q' E' hi st hq=>?_,λA' s' Q' E' hh st hq=>?_⟩
    .rw[sm]at hi;obtain⟨p,hp⟩:∃p,z[i]?=some p:=⟨_,Kc hi⟩;have ck:=hat p (Ln hp);obtain⟨e,he⟩:∃e,es.toList[p]?=some e:=⟨_,Kc ck⟩;have e3:(z.map λp=>(es.toList.map λe=>e.2).getD p .none).getD i .none=e.2:=by
      rw[Mg,Kb,hp];exact j9 he
     rw[e3]at hq;refine nB (place:=p) (pt:=0) (hx:=e.1) (x:=e.2) st.1 hd Z rfl (by rw[Kg];exact x1 (Kr ar)) st.2 rfl (by simp[hp,rawInt]) (by rw[<- K7,he]) λh' bW sb=>?_
     exact hq h' ⟨bW,(sb.2 _ (by rw[Kg];exact x1 (K5 _))).trans st.2⟩ λb o Y q=>(sb.2 b Y).trans q
    .rw[sm]at st;exact nD hh st.1 hd Z rfl st.2 rfl (by simp) hq
def yA (D:s.TypeIs (.ref r) "set") (h:Q false s):wpAny (model P w) A (Builtin.List.listLengthHint (.ref r)) Q E s:=by
 refine kn (wpAny_specialOf D PySem.F.slot_set_len.lookup ?_);generalize z:("set.__len__":String)=J
 wp_delta
 rw[show splitId J=some ("set","__len__")from by subst z;decide +kernel];subst z;refine kn (Ls (T:="set") (b:=true) D (by rw[isSubtype_type];kernel_rfl) ?_);refine Lo (λq=>absurd q (by decide)) (λ_=>?_);refine Lo (λ_=>?_) (λq=>absurd (by decide +kernel) q);refine kn (LY D ?_);exact mu h
end
def oP(h:ItemsOf (λi v=>v=order.getD i .none) acc order.length):acc.toList=order:=by
 obtain⟨hz,z⟩:=h;refine ext_getElem? λi=>?_
 by_cases q:i<order.length
 .have q2:i<acc.size:=by exact(by simp[*])
  have:=z i acc[i] (LS q2)
  simp_all
 .simp_all
section
variable{P:Program}{w:World}{A:Around}{E:Value->Shared->Prop}{s:Shared}
set_option maxRecDepth 100000 in
def rL(hh:A.handled=none)(ho:s.heap.get? S=some o)(a1:o.ExactSet)(hd:o.data=.set es ep t)(Z:es.size<scanBound)(hf:t.fits es.size=true)(hl:t.led=!byT w)(bP:mw t.place)
  (h:∀h' tk d' a2,(∀b o,s.heap.get? b=some o->h'.get? b=some o)->a2.Perm (es.toList.map λe=>e.2)->R a2 { s with heap:=h',toks:=tk,drawn:=d' }) :
  wpAny (model P w) A (collect (.ref S)) R E s:=by
 have J:=uw ho;refine kn (wpAny_runValue (Mi entry_proto_collect' ?_));rw[Mj PySem.F.plain_proto_collect _];refine kn (Kw ?_);refine mu ⟨Mz PySem.F.plain_list_iadd _,Mi entry_list_iadd' ?_⟩;rw[Mj PySem.F.plain_list_iadd _];have bS:(s.heap.push { cls:=.type "list",data:=.seq ([]:List Value).toArray }).get? s.heap.objs.size=some { cls:=.type "list",data:=.seq #[] }:=tu _ rfl;show wpAny _ A.in1 (Builtin.List.listExtendWith (.ref s.heap.objs.size) (.ref S) (.ref s.heap.objs.size)) _ _ _;have a3:(s.heap.push { cls:=.type "list",data:=.seq ([]:List Value).toArray }).get? S=some o:=mn _ ho;have hT:Shared.TypeIs { s with heap:=s.heap.push { cls:=.type "list",data:=.seq ([]:List Value).toArray } } (.ref S) "set":=⟨o,a3,a1.1⟩;refine kn (LY (T:="set") hT ?_);have q1:Builtin.List.listSameRef (.ref s.heap.objs.size) (.ref S)=false:=by simp[Builtin.List.listSameRef,K3 J]
 have q2:(Value.type "set" == Value.type "list")=false:=by decide
 have q3:(Value.type "set" == Value.type "tuple")=false:=by decide
 simp only[q1,q2,q3,Bool.or_false,KJ,LZ];refine kn (yz a3 a1 hd Z hf hl bP λI h1 d1 fp D St U kp hI bT cC W st=>?_);have a4:(s.heap.push { cls:=.type "list",data:=.seq ([]:List Value).toArray }).objs.size=s.heap.objs.size+1:=Kg ..;have a5:s.heap.objs.size∉fp:=λhm=>by
  rcases bT _ hm with e|e
  .exact Kt _ (by rw[<- e]at J;exact J)
  .dsimp only at e;rw[a4]at e;exact Nat.not_succ_le_self _ e
 have bW:D.length<=sizeLine:=by
  have:=U.length_eq;rw[this,sm,Array.length_toList];exact fits_of_scanBound Z
 have b0:Shared.TypeIs { s with heap:=h1,drawn:=d1 } (.ref S) "set":=by
  refine ae hT λo e c=>?_
  exact⟨o,kp S o e,c⟩
 refine kn (Le (yA b0 ?_));have WS:=(W.walks (A:=A.in1) (by first|exact hh|simpa using hh)).toS;have fin:∀h2 c1,St 0 h2->(∀b o,b≠s.heap.objs.size->h1.get? b=some o->h2.get? b=some o)->h2.get? s.heap.objs.size=some { cls:=.type "list",dict:=none,data:=.seq #[] c1,slots:=#[] } ->
   codeAny (model P w) A (.builtin "list.extend.loop" ⟨[.ref s.heap.objs.size,.ref I,.ref s.heap.objs.size],[]⟩)
    (λr s'=>∃h' tk q c',r=.ok (.ret (.ref s.heap.objs.size))/\s'={ s with heap:=h',toks:=tk,drawn:=d1 }/\(∀b o,s.heap.get? b=some o->h'.get? b=some o) /\
     h'.get? s.heap.objs.size=some { cls:=.type "list",dict:=none,data:=.seq q c',slots:=#[] }/\q.toList=D) { s with heap:=h2,drawn:=d1 }:=by
  intro h2 c1 b1 k2 Y;refine codeAny_extend_loopS WS bW s.heap.objs.size a5 _ D.length 0 _ #[] c1 rfl (Ki _) b1 Y (ItemsOf.nil _) λs' q c' hm ao a6=>?_
  refine⟨s'.heap,s'.toks,q,c',rfl,(by
   obtain⟨h',g',b2,cP,b3⟩:=s';have eg:g'=s.gens:=hm.gens;have ed:b2=d1:=hm.drawn;have eo:b3=s.os:=hm.os;subst eg;subst ed;subst eo;rfl),λb o e=>?_,ao,oP a6⟩
  have a7:=x1 (uw e);refine hm.heap b o (λbt=>?_) (k2 b o a7 (kp b o (mn _ e)));rcases pe.mp bt with z|z
  .exact a7 z
  .have b4:=Kd.mp z;rw[b4]at e;have bA:=hI;rw[a4]at bA;exact absurd (wh (uw e) (LA bA)) (Kt _)
 have done:∀r s',(∃h' tk q c',r=.ok (.ret (.ref s.heap.objs.size))/\s'={ s with heap:=h',toks:=tk,drawn:=d1 }/\(∀b o,s.heap.get? b=some o->h'.get? b=some o) /\
     h'.get? s.heap.objs.size=some { cls:=.type "list",dict:=none,data:=.seq q c',slots:=#[] }/\q.toList=D) ->
   wants (λv s'=>wpAny (model P w) A (match v with
    |Value.ref a=>do
     match (<- load a).data with
      |Data.seq xs _=>pure xs.toList
      | _=>unsupported "internal:collect"
    | _=>unsupported "internal:collect") R E s') E r s':=by
  rintro r s' ⟨h',tk,q,c',rfl,rfl,k',ao,hi⟩;refine kn (wpAny_load ao ?_);exact mu (h h' tk d1 q.toList k' (by rw[hi];exact U))
 have ar:=kp _ _ bS;refine Lo (λ_=>?_) (λ_=>mu ⟨Mz PySem.F.plain_extend_loop _,Lq (fin h1 0 st (λ_ _ _ e=>e) ar) done⟩);refine kn (Mh ?_);refine kn ?_;refine kn (Ml ar rfl ?_);have Y:=KU (Obj.mapSeq (·.push Value.none)) ar rfl;refine Ml (hz:=by seq_fits) Y rfl ?_;have b5:=KU (Obj.mapSeq (·.pop)) Y rfl;refine mu ⟨Mz PySem.F.plain_extend_loop _,Lq (fin _ _ ?_ (λb o Z e=>?_) b5) done⟩
 .refine W.frame 0 _ _ st λb Z o e=>?_
  have bK:b≠s.heap.objs.size:=λz=>a5 (z▸Z)
  exact(KP _ _ (KD bK)).trans ((KP _ _ (KD bK)).trans e)
 .exact(KP _ _ (KD Z)).trans ((KP _ _ (KD Z)).trans e)
end
def rM{s:Shared}{S:Addr}{ks:List Int}{R:List Value->Shared->Prop}(hh:A.handled=none)(g:eO P w s.heap S ks)
  (h:∀h' tk d' q z,(∀b o,s.heap.get? b=some o->h'.get? b=some o)->z.Perm ks->IntsAre q z->R q { s with heap:=h',toks:=tk,drawn:=d' }) :
  wpAny (model P w) A (collect (.ref S)) R E s:=by
 refine bN λZq kq=>?_
 obtain⟨o,es,ep,t,ho,U,hd,Y,Z,a1,hb,hf,D⟩:=g;refine kq ?_;refine rL hh ho U hd hb hf D.led D.rise λh' tk d' q kp hp=>h h' tk d' q (q.map numOf) kp ((hp.map numOf).trans (by rw[Kh];exact Z)) ?_
 have key:∀l,(∀v∈l,∃t,v=.int (numOf v) t)->IntsAre l (l.map numOf):=λl=>by
  induction l with
  |nil=>exact λ_=>.nil
  |cons v l ih =>
   intro J;obtain⟨t,e⟩:=J v (.head _);have:=IntsAre.cons (numOf v) t (ih λu hu=>J u (.tail _ hu));rw[<- e]at this;exact this
 refine key q λv J=>?_
 refine ae (mem_map.mp (hp.mem_iff.mp J)) λe he ao=>?_
 subst ao;exact pj Y e he
end L2.St
namespace L2
open PySem PySem.Spec PyProof.Rows List Option
noncomputable def oQ(scope osc:Scope):Scope:=
 { scope with names:=scope.names.map λ(n,k)=>if (k==.free&&osc.kind==.function&&osc.names.lookup n==some .cell)then(n,.cell)else(n,k) }
noncomputable def oR(osc:Scope)(n:Str)(k:NameKind):NameKind:=if (k==.free&&osc.kind==.function&&osc.names.lookup n==some .cell)then .cell else k
def jx(scope osc):(oQ scope osc).names=scope.names.map λq=>(q.1,oR osc q.1 q.2):=by
 refine Lg λq _=>?_
 obtain⟨n,k⟩:=q;show(if _=true then _ else _)=(n,oR osc n k);unfold oR;split<;>rfl
theorem fX{α z:Type}(g:Str->α->z)(y):∀names:List (Str×α),(names.map λq=>(q.1,g q.1 q.2)).lookup y=(names.lookup y).map (g y)
 | []=>rfl
 | (n,k)::r=>by
  cases hx:y==n with
  |true =>
   simp[lookup_cons,hx,map_some];rw[eq_of_beq hx]
  |false =>
   simp[lookup_cons,hx];exact fX g y r
def wB(osc)(n):oR osc n .free=.cell\/oR osc n .free=.free:=by
 unfold oR;split
 .exact .inl rfl
 .exact .inr rfl
def wC(q:k≠.cell)(h:oR osc n k=.cell\/oR osc n k=.free):k=.free:=by
 unfold oR at h;by_cases hc:(k==NameKind.free&&osc.kind==.function&&osc.names.lookup n==some .cell)=true
 .simp_all
 .simp_all
theorem jy{α:Type}{k:α}:∀{l:List (Str×α)},l.lookup y=some k->(y,k)∈l
 | [],h=>by injection h
 | (n,q)::r,h=>by
  cases hx:y==n with
  |true =>
   simp only[lookup_cons,hx]at h;rw[eq_of_beq hx,vr h];exact .head _
  |false =>
   simp[lookup_cons,hx]at h;exact .tail _ (jy h)
def wD(h:scope.names.lookup y=some .free):(oQ scope osc).names.lookup y=some .cell\/(oQ scope osc).names.lookup y=some .free:=by
 rw[jx,fX,h,map_some];rcases wB osc y with e|e
 .exact .inl (by rw[e])
 .exact .inr (by rw[e])
def wE(hn:∀z∈scope.names,z.2=.cell->z.1=x)(h:(oQ scope osc).names.lookup y=some .cell\/(oQ scope osc).names.lookup y=some .free):(y,NameKind.free)∈scope.names\/(y=x/\scope.names.lookup x=some .cell):=by
 rw[jx,fX]at h;cases e:scope.names.lookup y with
 |none=>rw[e]at h;rcases h with h|h<;>exact bc h
 |some k =>
  rw[e,map_some]at h;have hm:=jy e;by_cases hc:k=.cell
  .subst hc;have q:=hn _ hm rfl;exact .inr ⟨q,by rw[<- q];exact e⟩
  .have D:=wC hc (h.elim (λz=>.inl (vr z)) λz=>.inr (vr z));rw[D]at hm;exact .inl hm
def wF(h:scope.names.lookup y=some .cell):(oQ scope osc).names.lookup y=some .cell:=by
 rw[jx,fX,h,map_some];unfold oR;split
 .rfl
 .rfl
noncomputable def gk(env:Env):List (Str×NameKind)->List (Str×Addr)->List (Str×Addr)
 | [],acc=>acc
 | (n,k)::r,acc=>if k==.free then gk env r ((n,(env.cells.lookup n).getD 0)::acc)else gk env r acc
theorem ln :∀names q,(∀y∈names,y.2=.free->∃c,env.cells.lookup y.1=some c) ->
  (forIn names q λx r=>(match x with|(name,kind)=>if (kind==NameKind.free)=true then do let c <- cellOf env name;pure (ForInStep.yield ((name,c)::r))else pure (ForInStep.yield r)):Sem (List (Str×Addr)))=pure (gk env names q)
 | [],q,_=>rfl
 | (n,k)::r,q,h=>by
  rw[forIn_cons];have D:∀y∈r,y.2=.free->∃c,env.cells.lookup y.1=some c:=λy J=>h y (.tail _ J)
  by_cases z:(k==NameKind.free)=true
  .obtain⟨c,hc⟩:=h (n,k) (.head _) (eq_of_beq z);dsimp only;rw[if_pos z];have U:cellOf env n=pure c:=by unfold cellOf;rw[hc]
   rw[U];simp only[pure_bind];rw[ln r _ D];show _=pure (if _=true then _ else _);rw[if_pos z,hc]
   all_goals rfl
  .dsimp only;rw[if_neg z];simp only[pure_bind];rw[ln r _ D];show _=pure (if _=true then _ else _);rw[if_neg z]
def nF(h:∀y∈scope.names,y.2=.free->∃c,env.cells.lookup y.1=some c):closureFor scope env=pure (gk env scope.names []):=by
 unfold closureFor;have:=ln scope.names [] h
 first
  | exact this
  | (rw[bind_pure];exact this)
  | simpa using this
theorem nG :∀names D,(∀z∈names,z.2=.free->∃c,env.cells.lookup z.1=some c)->(∀c,D.lookup y=some c->env.cells.lookup y=some c) ->
  (gk env names D).lookup y=some c->env.cells.lookup y=some c
 | [],D,_,ha,e=>ha c e
 | (n,k)::r,D,h,ha,e=>by
  have Y:∀y∈r,y.2=.free->∃c,env.cells.lookup y.1=some c:=λy Z=>h y (.tail _ Z)
  have J:(if (k==NameKind.free)=true then gk env r ((n,(env.cells.lookup n).getD 0)::D)else gk env r D).lookup y=some c:=e;by_cases U:(k==NameKind.free)=true
  .rw[if_pos U]at J;refine nG r _ Y (λc' q=>?_) J;cases hx:y==n with
   |true =>
    obtain⟨c0,ar⟩:=h (n,k) (.head _) (eq_of_beq U)
    simp_all
   |false =>
    simp[lookup_cons,hx]at q;exact ha c' q
  .rw[if_neg U]at J;exact nG r _ Y ha J
theorem j_ :∀names q,((y,NameKind.free)∈names\/∃c,q.lookup y=some c)->∃c,(gk env names q).lookup y=some c
 | [],q,h=>by
  rcases h with h|h
  .simp at h
  .exact h
 | (n,k)::r,q,h=>by
  show ∃c,(if (k==NameKind.free)=true then gk env r ((n,(env.cells.lookup n).getD 0)::q)else gk env r q).lookup y=some c;by_cases D:(k==NameKind.free)=true
  .rw[if_pos D];refine j_ r _ ?_;cases hx:y==n with
   |true=>exact .inr ⟨(env.cells.lookup n).getD 0,by simp[lookup_cons,hx]⟩
   |false =>
    rcases h with h|⟨c,h⟩
    .simp_all
    .exact .inr ⟨c,by simp[lookup_cons,hx];exact h⟩
  .rw[if_neg D];refine j_ r _ ?_;rcases h with h|h
   .rcases pe.mp h with z|z
    .have:=(Prod.mk.inj z).2
     simp_all
    .exact .inl z
   .exact .inr h
structure lq(osc:Scope)(N:List Str)(scope:Scope)(x:Str)(fvs:List Str)(js:List Nat):Prop where
 cells:∀y∈scope.names,y.2=.cell->y.1=x
 once:scope.names.lookup x=some .local/\(scope.names.filter λy=>y.2==.cell)=[]\/scope.names.lookup x=some .cell/\(scope.names.filter λy=>y.2==.cell)=[(x,.cell)]
 xf:∀y∈scope.names,y.2=.free->y.1≠x
 kind:scope.kind=.function
 names:∀y∈scope.names,y.2=.local->scope.names.lookup y.1=some .local
 nd:(x::fvs).Nodup
 out:∀y∈scope.names,y.2=.free->osc.names.lookup y.1=some .cell\/osc.names.lookup y.1=some .free
 slots:(js.map λj=>N[j]?)=fvs.map some
 free:∀y∈fvs,scope.names.lookup y=some .free
structure qj(osc:Scope)(N:List Str)(scope:Scope)(x:Str)(ys fvs:List Str)(js:List Nat):Prop where
 cells:∀y∈scope.names,y.2=.cell->y.1=x
 once:scope.names.lookup x=some .local/\(scope.names.filter λy=>y.2==.cell)=[]\/scope.names.lookup x=some .cell/\(scope.names.filter λy=>y.2==.cell)=[(x,.cell)]
 xf:∀y∈scope.names,y.2=.free->y.1≠x
 kind:scope.kind=.function
 names:∀y∈scope.names,y.2=.local->scope.names.lookup y.1=some .local
 nd:(x::(ys++fvs)).Nodup
 out:∀y∈scope.names,y.2=.free->osc.names.lookup y.1=some .cell\/osc.names.lookup y.1=some .free
 slots:(js.map λj=>N[j]?)=fvs.map some
 free:∀y∈fvs,scope.names.lookup y=some .free
theorem lq.g{osc:Scope}{N:List Str}{scope:Scope}{x:Str}{fvs:List Str}{js:List Nat}(h:lq osc N scope x fvs js):qj osc N scope x [] fvs js:=⟨h.cells,h.once,h.xf,h.kind,h.names,h.nd,h.out,h.slots,h.free⟩
noncomputable def lu(scope:Scope)(x:Str)(C:Addr):List (Str×Addr):=if scope.names.lookup x=some .cell then [(x,C+1)]else []
noncomputable def Cx.blk(X:Cx)(x:Str)(fvs:List Str)(scope:Scope)(q:Shared)(z:Hp)(C:Addr)(fp:List Addr):Cx:=
 { X with N:=x::fvs,s₀:=q,H₀:=z,env:=compEnvC scope (lu scope x C++gk X.env scope.names []) C X.env,outer:=X.stack,ex:=fp,fn:=λy=>decide (y=x/\scope.names.lookup x=some .cell),pn:=[],xe:=λ_ _=>False }
theorem nH :∀{names:List (Str×NameKind)}{q}{s}{Q},(names.filter λy=>y.2==.cell)=[]->Q q s ->
  wpAny M A (forIn names q λx r=>(match x with|(name,kind)=>if (kind==NameKind.cell)=true then do let c <- alloc { cls:=.type "cell",data:=.cell none };pure (ForInStep.yield ((name,c)::r))else pure (ForInStep.yield r)):Sem (List (Str×Addr))) Q E s
 | [],_,_,_,_,h=>mu h
 | (n,k)::r,q,s,Q,hf,h=>by
  rw[forIn_cons];have z:(k==NameKind.cell)=false:=by
   simp_all
  rw[L3 (by rw[z];decide)]at hf;dsimp only;rw[if_neg (by rw[z];decide)];exact kn (mu (nH hf h))
theorem pq{x:Str}:∀{names:List (Str×NameKind)}{q}{s}{Q},(names.filter λy=>y.2==.cell)=[(x,.cell)] ->
  Q ((x,s.heap.objs.size)::q) { s with heap:=s.heap.push { cls:=.type "cell",data:=.cell none } } ->
  wpAny M A (forIn names q λx r=>(match x with|(name,kind)=>if (kind==NameKind.cell)=true then do let c <- alloc { cls:=.type "cell",data:=.cell none };pure (ForInStep.yield ((name,c)::r))else pure (ForInStep.yield r)):Sem (List (Str×Addr))) Q E s
 | [],_,_,_,hf,_=>v5 hf
 | (n,k)::r,q,s,Q,hf,h=>by
  rw[forIn_cons];dsimp only;cases z:(k==NameKind.cell)with
  |false =>
   rw[L3 (by rw[z];decide)]at hf;exact kn (mu (pq hf h))
  |true =>
   rw[Mu (by exact z)]at hf;obtain⟨D,J⟩:=List.cons.inj hf;cases D;exact kn (kn (wpAny_alloc (mu (nH J h))))
def tP{scope:Scope}{x:Str}{globals:Addr}{Y:List (Str×Addr)}{qual:Str}{env:Env}{s:Shared}{Q:Env->Shared->Prop}(hk:scope.kind=.function)
  (ho:scope.names.lookup x=some .local/\(scope.names.filter λy=>y.2==.cell)=[]\/scope.names.lookup x=some .cell/\(scope.names.filter λy=>y.2==.cell)=[(x,.cell)])
  (h:∀h' m,h'.Ns s.heap.objs.size m->(∀b u,s.heap.get? b=some u->h'.get? b=some u)->(scope.names.lookup x=some .cell->h'.IsCell (s.heap.objs.size+1) none)->Q (newEnv scope s.heap.objs.size globals (lu scope x s.heap.objs.size++Y) qual none .none (some env) builtinsNs) { s with heap:=h' }) :
  wpAny M A (newFunctionEnv scope globals Y [] qual none .none (some env)) Q E s:=by
 rcases ho with⟨h1,h2⟩|⟨h1,h2⟩
 .refine wpAny_newFunctionEnv (λy D z=>?_) (by intro y D;simp at D) (λh' J U=>?_) hk
  .have:y∈scope.names.filter λy=>y.2==.cell:=J9.mpr ⟨D,by rw[z];rfl⟩
   rw[h2]at this;cases this
  .have q:=h h' _ J (λb u e=>U.extBut b u (x1 (uw e)) (mn _ e)) λz=>by rw[h1]at z;cases z
   unfold lu at q
   simp_all
 .unfold newFunctionEnv;refine kn (wpAny_alloc (kn (pq h2 ?_)));have hn:=Heap.Ns.new s.heap (.type "dict");have Z:(s.heap.push { cls:=.type "dict",data:=.dict #[] }).objs.size=s.heap.objs.size+1:=Kg _ _;have q:=h ((s.heap.push { cls:=.type "dict",data:=.dict #[] }).push { cls:=.type "cell",data:=.cell none }) _ (hn.keeps λb o e=>mn _ e) (λb u e=>mn _ (mn _ e)) λ_=>⟨_,by rw[<- Z];exact tu _ rfl,rfl⟩
  unfold lu at q;rw[if_pos h1]at q;rw[<- Z]at q;exact kn (mu (mu q))
noncomputable def nI(js:List Nat)(σ:St):St:=none::js.map λj=>(σ[j]?).join
noncomputable def wG(n:Nat)(js:List Nat)(σ:St):St:=none::(replicate n none++js.map λj=>(σ[j]?).join)
def PF(X:Cx)(ifs:List Expr)(t:TT):Prop:=
 ∀pins s (σ:St) H Q,Inv X pins σ H s->t σ H Q ->
  wpAny (model X.prog X.w) X.A (forIn ifs true λc r=>if r=true then do let ok <- isTrue c X.env (eval c X.env);pure (ForInStep.yield ok)else pure (ForInStep.yield r)) (TP X pins σ Q) X.xe s
noncomputable def JD:TT:=λ_ H Q=>Q true H
def Ew :PF X [] JD:=λ_ _ _ H _ I h=>wpAny_tests_nil ⟨H,I,h⟩
def Ex(h:PT X c t):PF X [c] t:=λpins s σ H Q I q=>wpAny_tests_one (h pins s σ H Q I q)
section
variable{prog:Program}{w:World}{A:Around}{R:Result->Shared->Prop}{s:Shared}
def wH{elt target iter:Expr}{ifs:List Expr}{scope:Scope}{pos:Pos}{it D:Value}{env:Env}(J:Nat->Shared->Prop)
  (turn:∀n s,J n s->wpAny (model prog w) A (pyNext it) (λr s1=>match r with
   |none=>R (.ok .next) s1
   |some v=>wpAny (model prog w) A (letOwnedTupleGo target it v) (λ_ s2=>wpAny (model prog w) A (assign target env v) (λ_ s3 =>
     wpAny (model prog w) A (forIn ifs true λc r=>if r=true then do let ok <- isTrue c env (eval c env);pure (ForInStep.yield ok)else pure (ForInStep.yield r)) (λok s4 =>
      if ok=true then wpAny (model prog w) A (eval elt env) (λx Y =>
       wpAny (model prog w) A (call (.builtin "list.append") [D,x]) (λ_ Z=>∃m,m<n/\J m Z) (λ_ _=>False) Y) (λ_ _=>False) s4
      else ∃m,m<n/\J m s4) (λ_ _=>False) s3) (λ_ _=>False) s2) (λ_ _=>False) s1) (λ_ _=>False) s)
  (n) (h:J n s):codeAny (model prog w) A (.compLoop (.ListComp elt [⟨target,iter,ifs,0⟩] scope pos) 0 it D env) R s:=by
 have U:∀{α}{t}{Q:α->Shared->Prop}{E}{s},wpAny (model prog w) A t Q (λ_ _=>False) s->wpAny (model prog w) A t Q E s:=λq=>Ks q (λ_ _ z=>z) λ_ _ z=>z.elim
 refine codeAny_loop rfl J (λn s hJ=>?_) n h;show wpAny _ A ((compTurn (.ListComp elt [⟨target,iter,ifs,0⟩] scope pos) 0 it D env).onRaise (λx=>do noteFrame x env;theTreesLotGoes x)) _ _ s;refine wpAny_noted ?_;rw[compTurn_list];refine kn (wpAny_standAt (kn (Ks (U (turn n s hJ)) (λr s1 h1=>?_) λ_ _ z=>z)));cases r with
 |none=>exact mu h1
 |some v =>
  refine kn (Ks (U h1) (λ_ s2 h2=>?_) λ_ _ z=>z);refine kn (Ks (U h2) (λ_ s3 h3=>kn (Ks (U h3) (λok s4 h4=>?_) λ_ _ z=>z)) λ_ _ z=>z);cases ok<;>first|exact mu ⟨rfl,h4⟩|exact kn (kn (Ks (U h4) (λx Y h5=>kn (Ks (U h5) (λ_ Z h6=>mu (mu ⟨rfl,h6⟩)) λ_ _ z=>z)) λ_ _ z=>z))
end
def vh(J:It)(U:St)(H1:Hp)(tt:TT)(te:TE)(D:Addr)(Q:VK):Prop:=
 ∃W:Nat->Nat->St->Hp->Prop,(∃m,W 0 m U (upd H1 D (.lst [])))/\∀i m q H',W i m q H' ->
  (J.stop i H'/\Q (.ref D) H')\/(J.go i H'/\∃N:St->Hp->Prop,(∀z H2,N z H2->∃Y,Y<m/\W (i+1) Y z H2)/\∀x H2,J.yld i H' x H2 ->
   tt (q.set 0 (some x)) H2 λb Z=>if b=true then te (q.set 0 (some x)) Z λy H4=>∃ys,H4 D=some (.lst ys)/\ys.length<sizeLine/\N (q.set 0 (some x)) (upd H4 D (.lst (ys++[y])))else N (q.set 0 (some x)) Z)
def yB(J:It)(g:TG)(Y:St)(H1:Hp)(tt:TT)(te:TE)(D:Addr)(Q:VK):Prop:=
 ∃W:Nat->Nat->St->Hp->Prop,(∃m,W 0 m Y (upd H1 D (.lst [])))/\∀i m z H',W i m z H' ->
  (J.stop i H'/\Q (.ref D) H')\/(J.go i H'/\∃N:St->Hp->Prop,(∀U H2,N U H2->∃Z,Z<m/\W (i+1) Z U H2)/\∀x H2,J.yld i H' x H2 ->
   g x z H2 λq H3=>tt q H3 λb H4=>if b=true then te q H4 λy H5=>∃ys,H5 D=some (.lst ys)/\ys.length<sizeLine/\N q (upd H5 D (.lst (ys++[y])))else N q H4)
theorem vh.g(h:vh J q H1 tt te D Q):yB J (db 0) q H1 tt te D Q:=h
noncomputable def yC(wi:TI)(js:List Nat)(tt:TT)(te:TE):TE:=λσ H Q=>wi σ H λJ H1=>∀D,H1 D=none->vh J (nI js σ) H1 tt te D Q
section
variable{X:Cx}{elt iter:Expr}{x:Str}{px:Pos}{ifs:List Expr}{scope:Scope}{pos:Pos}{fvs:List Str}{js:List Nat}{wi:TI}{tt:TT}{te:TE}
def yD{tg:Expr}{ys:List Str}(U:qj X.env.scope X.N scope x ys fvs js){pins:List (Addr×Obj)}{σ:St}{H2:Hp}{s2:Shared}{it:Addr}{fp:List Addr}{tn:Nat->Heap->Prop}{J:It}{G h1:Heap}{m1}(I2:Inv X pins σ H2 s2)(T:rj X.prog X.w X.K tg J fp it tn)(bt:tn 0 s2.heap)(f2:∀b∈fp,jS X pins H2 b)
  (D:Inv X pins σ (upd H2 s2.heap.objs.size (.lst [])) { s2 with heap:=G,toks:=s2.toks }) (hG:s2.heap.push { cls:=.type "list",dict:=none,data:=.seq ([]:List Value).toArray }=G) (bK:h1.Ns G.objs.size m1) (up:∀b u,G.get? b=some u->h1.get? b=some u) (bS:scope.names.lookup x=some .cell->h1.IsCell (G.objs.size+1) none) :
  (X.blk x (ys++fvs) scope { s2 with heap:=G,toks:=s2.toks } (upd H2 s2.heap.objs.size (.lst [])) G.objs.size fp).Ok/\Inv (X.blk x (ys++fvs) scope { s2 with heap:=G,toks:=s2.toks } (upd H2 s2.heap.objs.size (.lst [])) G.objs.size fp) [] (wG ys.length js σ) (upd H2 s2.heap.objs.size (.lst [])) { s2 with heap:=h1,toks:=s2.toks }/\tn 0 h1/\∀b∈fp,(upd H2 s2.heap.objs.size (.lst [])) b=none:=by
 have fr:∀y∈scope.names,y.2=.free->∃c,X.env.cells.lookup y.1=some c:=λy hy hk=>I2.ok.has y.1 (U.out y hy hk)
 have sub:∀y c,(gk X.env scope.names []).lookup y=some c->X.env.cells.lookup y=some c:=λy c e=>nG scope.names [] fr (λ_ q=>by injection q) e
 have hC:G.objs.size=s2.heap.objs.size+1:=by rw[<- hG,Kg]
 have look:∀{y:Str}{c:Addr},(lu scope x G.objs.size++gk X.env scope.names []).lookup y=some c->(y=x/\scope.names.lookup x=some .cell/\c=G.objs.size+1)\/(gk X.env scope.names []).lookup y=some c:=λ{y c} e=>by
  unfold lu at e;by_cases q:scope.names.lookup x=some .cell
  .rw[if_pos q]at e;by_cases z:(y==x)=true
   .rw[cons_append,lookup_cons,z]at e;exact .inl ⟨eq_of_beq z,q,(vr e).symm⟩
   .rw[cons_append,lookup_cons,(Bool.not_eq_true _).mp z]at e;exact .inr e
  .rw[if_neg q]at e;exact .inr e
 have nC:(upd H2 s2.heap.objs.size (.lst [])) G.objs.size=none:=D.hok.fresh (pb _);have cL:G.objs.size≠X.env.locals:=K3 D.lt;have cS:X.s₀.heap.objs.size<=G.objs.size:=D.sz;have cC:∀y c,X.env.cells.lookup y=some c->c≠G.objs.size:=λy c e z=>by
  obtain⟨v,q⟩:=D.cell y c e;exact absurd (show c<G.objs.size from q.lt) (by rw[z];exact Kt _)
 have cP:∀p∈X.pn++pins,p.1≠G.objs.size:=λp hp z=>absurd (show p.1<G.objs.size from uw (D.pin p hp).1) (by rw[z];exact Kt _)
 have a4:∀b∈fp,b<s2.heap.objs.size:=λb hb=>by
  refine ae (T.obj 0 _ bt b hb) λo e _=>?_
  exact uw e
 have ok:(X.blk x (ys++fvs) scope { s2 with heap:=G,toks:=s2.toks } (upd H2 s2.heap.objs.size (.lst [])) G.objs.size fp).Ok:=by
  have hb:∀b∈fp,b∉frs X.stack:=λb hb z=>(pe.mp (I2.stkSub b z)).elim (f2 b hb).2.1 (f2 b hb).2.2.1
  exact {
   mod:=D.ok.mod
   kind:=by show(relabel scope X.env).kind=_;exact U.kind
   glob:=D.ok.glob
   blt:=D.ok.blt
   above:=pb _
   inj:=λy z c e1 e2=>by
    have lt:∀{y:Str},(gk X.env scope.names []).lookup y=some c->c<G.objs.size:=λ{y} e=>by
     obtain⟨v,q⟩:=D.cell y c (sub y c e);exact q.lt
    rcases look e1 with⟨a1,_,a2⟩|a1
    .rcases look e2 with⟨b1,_,_⟩|b1
     .rw[a1,b1]
     .exact absurd (lt b1) (by rw[a2];exact KS.mpr (KH _))
    .rcases look e2 with⟨_,_,b2⟩|b1
     .exact absurd (lt a1) (by rw[b2];exact KS.mpr (KH _))
     .exact D.ok.inj y z c (sub y c a1) (sub z c b1)
   has:=λy hy=>by
    show ∃c,(lu scope x G.objs.size++gk X.env scope.names []).lookup y=some c;unfold lu;rcases wE U.cells hy with hm|⟨e,q⟩
    .obtain⟨c,ec⟩:=j_ (env:=X.env) scope.names [] (.inl hm);by_cases q:scope.names.lookup x=some .cell
     .have z:(y==x)=false:=Ku.mpr (U.xf _ hm rfl);exact⟨c,by rw[if_pos q,cons_append,lookup_cons,z];exact ec⟩
     .exact⟨c,by rw[if_neg q];exact ec⟩
    .subst e;exact⟨G.objs.size+1,by rw[if_pos q,cons_append,lookup_cons,KN]⟩
   cab:=λy c h e=>by
    obtain⟨h1,h2⟩:=Kl h;have e':(lu scope x G.objs.size++gk X.env scope.names []).lookup y=some c:=e;unfold lu at e';rw[if_pos h2,h1,cons_append,lookup_cons,KN]at e';rw[<- vr e'];exact KH _
   hd:=D.ok.hd
   frames:=D.ok.frames
   stk:=.inl rfl
   exf:=λb Y=>⟨x1 (show b<G.objs.size from wh (a4 b Y) (by rw[hC];exact KH _)),λy c e=>by
    rcases look e with⟨_,_,a⟩|a
    .rw[a,hC];exact K3 (wh (a4 b Y) (xb (KH _) (KH _)))
    .exact(f2 b Y).2.2.2.2.1 y c (sub y c a)⟩
   bs:=D.bs
   bsz:=xb D.ok.bsz D.sz
   noex:=λb o e Y=>by
    have q:=(f2 b Y).2.2.2.1;rcases q with q|q
    .exact D.ok.noex b o e q
    .exact absurd (wh (uw e) (xb D.ok.bsz q)) (Kt _)
   exfs:=hb
   funs:=D.stack
   frf:=D.stkFree }
 have b0:(wG ys.length js σ).length=(x::(ys++fvs)).length:=by
  have e:=La List.length U.slots;simp only[sm]at e;simp[wG,e]
 have I4:Inv (X.blk x (ys++fvs) scope { s2 with heap:=G,toks:=s2.toks } (upd H2 s2.heap.objs.size (.lst [])) G.objs.size fp) [] (wG ys.length js σ) (upd H2 s2.heap.objs.size (.lst [])) { s2 with heap:=h1,toks:=s2.toks }:=by
  refine⟨ok,rfl,D.bare,Un.kept up,⟨_,bK,λi y v e1 e2 e3=>?_⟩,λy c e=>?_,nC,λy c e=>(look e).elim (λhq=>jP hq λ_ _ a=>by rw[a];exact D.hok.fresh (KH _)) λa=>D.freeC y c (sub y c a),λp hp=>by simp[Cx.blk]at hp,D.hok.kept up,b0⟩
  .cases i with
   |zero=>cases e2
   |succ i0 =>
    have a5:(ys++fvs)[i0]?=some y:=e1;have Z:(replicate ys.length none++js.map λj=>(σ[j]?).join)[i0]?=some (some v):=by simpa[wG]using e2
    by_cases aL:i0<ys.length
    .rw[Lc (by simpa using aL),LW,if_pos aL]at Z;cases Z
    rw[Lm (by simpa using Me aL),length_replicate]at Z;rw[Lm (Me aL)]at a5;generalize i0-ys.length=i at a5 Z;have b3:fvs[i]?=some y:=a5;have hm:y∈fvs:=Ln b3;have b4:=U.free y hm;have a6:(y,NameKind.free)∈scope.names:=jy b4;have ao:(js.map λj=>(σ[j]?).join)[i]?=some (some v):=Z;rw[Kb]at ao;cases ej:js[i]? with
    |none=>rw[ej]at ao;exact bc ao
    |some j =>
     rw[ej]at ao;have a0:(σ[j]?).join=some v:=vr ao;have e4:σ[j]?=some (some v):=by
      cases q:σ[j]? with
      |none=>rw[q]at a0;exact bc a0
      |some z=>rw[q]at a0;exact La some a0
     have e5:X.N[j]?=some y:=by
      have q:=La (λl=>l[i]?) U.slots;simp only[Kb,ej,b3,map_some]at q;exact vr q
     refine ae D.loc λm hn hl=>?_
     have a3:=U.out (y,.free) a6 rfl;refine ae (hl j y v e5 e4 (.inr a3)) λu ru lk=>?_
     refine⟨u,ru,.inr ⟨?_,?_⟩⟩
     .show(relabel scope X.env).names.lookup y=_\/(relabel scope X.env).names.lookup y=_;exact wD (osc:=X.env.scope) b4
     .obtain⟨c,ec⟩:=j_ (env:=X.env) scope.names [] (.inl a6);have nx:(y==x)=false:=Ku.mpr (U.xf _ a6 rfl);refine⟨c,?_,?_⟩
      .show(lu scope x G.objs.size++gk X.env scope.names []).lookup y=some c;unfold lu;split
       .rw[cons_append,lookup_cons,nx];exact ec
       .exact ec
      rcases lk with⟨z,_⟩|⟨_,c',c6,q⟩
      .have z':X.env.scope.names.lookup y=some .local:=z;rcases a3 with w|w
       .rw[show X.env.scope.names.lookup y=some .cell from w]at z';cases z'
       .rw[show X.env.scope.names.lookup y=some .free from w]at z';cases z'
      .have:=sub y c ec;rw[c6]at this;cases this;refine ae q λo ho hd=>?_
       exact⟨o,up _ _ ho,hd⟩
  .rcases look e with⟨_,q,a⟩|a
   .exact⟨none,by rw[a];exact bS q⟩
   .refine cM (D.cell y c (sub y c a)) λv o ho hd=>?_
    exact⟨v,o,up _ _ ho,hd⟩
 have df:tn 0 h1:=T.keep 0 _ _ bt λb hb o e=>up b o (by rw[<- hG];exact mn _ e)
 have dh:∀b∈fp,(upd H2 s2.heap.objs.size (.lst [])) b=none:=λb hb=>by
  rw[az (x1 (a4 b hb))];exact(f2 b hb).1
 exact⟨ok,I4,df,dh⟩
def tQ{tg:Expr}{g:TG}{ys:List Str}(bA:qj X.env.scope X.N scope x ys fvs js)(hc:X.calm=true)(hg:∀U Y C fp,PG (X.blk x (ys++fvs) scope U Y C fp) tg g)
  (ht:∀U Y C fp,PF (X.blk x (ys++fvs) scope U Y C fp) ifs tt) (he:∀U Y C fp,PE (X.blk x (ys++fvs) scope U Y C fp) elt te)
  {pins:List (Addr×Obj)}{σ:St}{H2:Hp}{s2:Shared}{Q:VK}{it:Addr}{fp:List Addr}{tn:Nat->Heap->Prop}{J:It}{RR:Value->Addr->Result->Shared->Prop}
  (I2:Inv X pins σ H2 s2) (T:rj X.prog X.w X.K tg J fp it tn) (ck:tn 0 s2.heap) (f2:∀b∈fp,jS X pins H2 b)
  (hh:∀D,H2 D=none->yB J g (wG ys.length js σ) H2 tt te D Q)
  (fin:∀(D C:Addr) (H':Hp) (s':Shared),Inv X pins σ H' s'->(∃m,s'.heap.Ns C m)->H' C=none->C≠X.env.locals->X.s₀.heap.objs.size<=C->(∀y c,X.env.cells.lookup y=some c->c≠C)->(∀p∈X.pn++pins,p.1≠C)->Q (.ref D) H' ->
   RR (.ref D) C (.ok .next) s') {E:Value->Shared->Prop} :
  wpAny (model X.prog X.w) X.A (newList []) (λacc s3=>wpAny (model X.prog X.w) X.A (newFunctionEnv scope X.env.globals (gk X.env scope.names []) [] X.env.qual none .none (some X.env)) (λa4 s4 =>
   codeAny (model X.prog X.w) X.A (.compStart (.ListComp elt [⟨tg,iter,ifs,0⟩] scope pos) 0 (.ref it) acc { a4 with scope:=relabel scope X.env }) (RR acc a4.locals) s4) E s3) E s2:=by
 refine Kw (tP (x:=x) bA.kind bA.once λh1 m1 a5 a6 a7=>?_);have I3:Inv X pins σ (upd H2 s2.heap.objs.size (.lst [])) { s2 with heap:=s2.heap.push { cls:=.type "list",data:=.seq ([]:List Value).toArray },toks:=s2.toks }:=I2.lnew (ys:=[]) (its:=[]) .nil (Ki _);generalize hG:s2.heap.push { cls:=.type "list",dict:=none,data:=.seq ([]:List Value).toArray }=G at a5 a6 a7 I3 ⊢;obtain⟨W,⟨m0,w0⟩,turn⟩:=hh s2.heap.objs.size I2.fresh;refine gC (yD bA I2 T ck f2 I3 hG a5 a6 a7) λok I4 b0 cl=>?_
 have cL:G.objs.size≠X.env.locals:=K3 I3.lt;have cS:X.s₀.heap.objs.size<=G.objs.size:=I3.sz;have cC:∀y c,X.env.cells.lookup y=some c->c≠G.objs.size:=λy c e z=>by
  obtain⟨v,q⟩:=I3.cell y c e;exact absurd (show c<G.objs.size from q.lt) (by rw[z];exact Kt _)
 have cP:∀p∈X.pn++pins,p.1≠G.objs.size:=λp hp z=>absurd (show p.1<G.objs.size from uw (I3.pin p hp).1) (by rw[z];exact Kt _)
 have aL:∀{H':Hp},(∀b∈fp,H' b=none)->∀b∈fp,jS (X.blk x (ys++fvs) scope { s2 with heap:=G,toks:=s2.toks } (upd H2 s2.heap.objs.size (.lst [])) G.objs.size fp) [] H' b:=λhn b hb =>
  ⟨hn b hb,(ok.exf b hb).1,ok.exfs b hb,.inl hb,(ok.exf b hb).2,λp hp=>by simp[Cx.blk]at hp⟩
 have c4:∀b∈fp,(b∈X.ex\/X.s₀.heap.objs.size<=b)/\b≠X.env.locals/\(∀x c,X.env.cells.lookup x=some c->c≠b)/\∀p∈X.pn++pins,p.1≠b:=λb hb =>
  let ⟨_,q1,_,q2,q3,q4⟩:=f2 b hb;⟨q2,q1,q3,q4⟩
 have bt:∀s5:Shared,s5={ s2 with heap:=h1,toks:=s2.toks } ->
   codeAny (model X.prog X.w) X.A (.compLoop (.ListComp elt [⟨tg,iter,ifs,0⟩] scope pos) 0 (.ref it) (.ref s2.heap.objs.size) (compEnvC scope (lu scope x G.objs.size++gk X.env scope.names []) G.objs.size X.env)) (RR (.ref s2.heap.objs.size) G.objs.size) s5:=by
  rintro s5 rfl;refine wH (λn s'=>∃i a0 H',Inv (X.blk x (ys++fvs) scope { s2 with heap:=G,toks:=s2.toks } (upd H2 s2.heap.objs.size (.lst [])) G.objs.size fp) [] a0 H' s'/\tn i s'.heap/\(∀b∈fp,H' b=none)/\W i n a0 H') ?_ m0 ⟨0,_,_,I4,b0,cl,w0⟩;rintro n s6 ⟨i,a3,H6,I6,b2,b3,w6⟩;rcases turn i n a3 H6 w6 with⟨stop,qn⟩|⟨go,N,hN,step⟩
  .refine thn (T.done (X.blk x (ys++fvs) scope { s2 with heap:=G,toks:=s2.toks } (upd H2 s2.heap.objs.size (.lst [])) G.objs.size fp) rfl rfl rfl hc i [] s6 a3 H6 _ I6 (aL b3) b2 stop) λr s7 hq=>qV hq λhr I7=>?_
   subst hr;have I8:Inv X pins σ H6 s7:=I3.call' (ch:=fp) I7.os I7.base I7.hok I7.bare c4;refine ae I7.loc λm hn _=>?_
   exact fin _ _ H6 s7 I8 ⟨m,hn⟩ I7.free cL cS cC cP qn
  .refine thn (T.item (X.blk x (ys++fvs) scope { s2 with heap:=G,toks:=s2.toks } (upd H2 s2.heap.objs.size (.lst [])) G.objs.size fp) rfl rfl rfl hc i [] s6 a3 H6 _ I6 (aL b3) b2 go) λr s7 hq=>ae hq λu hr h7=>?_
   subst hr;refine thn h7 λ_ s8 hq=>uR hq λx8 H8 I8 r8 y8 bP dm=>?_
   have dr:=I8.pinned (aL dm) (T.obj _ _ bP);refine thn (hg _ _ _ _ _ s8 a3 H8 x8 u _ dr r8 (step x8 H8 y8)) λ_ s9 hq=>cM hq λbS H9 I9 q9=>?_
   refine thn (ht _ _ _ _ _ s9 _ H9 _ I9 q9) λdt dv hq=>ae hq λdV b4 b5=>?_
   have again:∀{ao:Shared}{Z:Hp},Inv (X.blk x (ys++fvs) scope { s2 with heap:=G,toks:=s2.toks } (upd H2 s2.heap.objs.size (.lst [])) G.objs.size fp) ([]++m5 fp s8.heap) bS Z ao->N bS Z ->
     ∃m,m<n/\∃i a0 H',Inv (X.blk x (ys++fvs) scope { s2 with heap:=G,toks:=s2.toks } (upd H2 s2.heap.objs.size (.lst [])) G.objs.size fp) [] a0 H' ao/\tn i ao.heap/\(∀b∈fp,H' b=none)/\W i m a0 H':=λ{ao Z} a2 bT=>by
    refine ae (hN _ Z bT) λm' hm d1=>?_
    refine⟨m',hm,i+1,_,Z,a2.unpinned,T.keep _ _ _ bP λb hb o e=>(a2.pin (b,o) (KL _ (KL _ (gX hb e)))).1,λb hb=>?_,d1⟩;refine ae (T.obj _ _ bP b hb) λo e d=>?_
    exact(a2.pin (b,o) (KL _ (KL _ (gX hb e)))).2.1
   cases dt with
   |false =>
    exact again b4 b5
   |true =>
    refine thn (he _ _ _ _ _ dv _ dV _ b4 b5) λy ao ⟨yv,Z,a2,ry,ys,d2,hl,bT⟩=>?_
    refine thn (iY _ ao _ Z (.ref s2.heap.objs.size) [yv] (.ref s2.heap.objs.size) [y] (λ_ b6=>N bS b6) a2 rfl (.cons ry .nil) ⟨_,ys,yv,rfl,rfl,d2,hl,bT⟩) λ_ e7 hq=>au hq λ_ b6 d3 _ ea=>again d3 ea
 exact codeAny_compStart_list (bt _ rfl) (T.self _ 0 _ _ _ b0 (bt _ rfl))
def pw(Y:lq X.env.scope X.N scope x fvs js)(hc:X.calm=true)
  (ht:∀z U C fp,PF (X.blk x fvs scope z U C fp) ifs tt) (he:∀z U C fp,PE (X.blk x fvs scope z U C fp) elt te)
  {pins:List (Addr×Obj)}{σ:St}{H2:Hp}{s2:Shared}{Q:VK}{it:Addr}{fp:List Addr}{tn:Nat->Heap->Prop}{J:It}{RR:Value->Addr->Result->Shared->Prop}
  (I2:Inv X pins σ H2 s2) (T:rj X.prog X.w X.K (.Name x px) J fp it tn) (ao:tn 0 s2.heap) (f2:∀b∈fp,jS X pins H2 b)
  (hh:∀D,H2 D=none->vh J (nI js σ) H2 tt te D Q)
  (fin:∀(D C:Addr) (H':Hp) (s':Shared),Inv X pins σ H' s'->(∃m,s'.heap.Ns C m)->H' C=none->C≠X.env.locals->X.s₀.heap.objs.size<=C->(∀y c,X.env.cells.lookup y=some c->c≠C)->(∀p∈X.pn++pins,p.1≠C)->Q (.ref D) H' ->
   RR (.ref D) C (.ok .next) s') {E:Value->Shared->Prop} :
  wpAny (model X.prog X.w) X.A (newList []) (λacc s3=>wpAny (model X.prog X.w) X.A (newFunctionEnv scope X.env.globals (gk X.env scope.names []) [] X.env.qual none .none (some X.env)) (λZ s4 =>
   codeAny (model X.prog X.w) X.A (.compStart (.ListComp elt [⟨.Name x px,iter,ifs,0⟩] scope pos) 0 (.ref it) acc { Z with scope:=relabel scope X.env }) (RR acc Z.locals) s4) E s3) E s2:=
 tQ (ys:=[]) Y.g hc (λz U C fp=>iX (X:=X.blk x fvs scope z U C fp) (i:=0) (x:=x) (pos:=px) Y.nd rfl (Y.once.elim (λq=>.inl (lookup_relabel_local q.1)) λq=>.inr (wF q.1)) (Y.once.elim (λq=>.inr (lookup_relabel_local q.1)) λq=>.inl (Ka ⟨rfl,q.1⟩))) ht he I2 T ao f2 (λD hD=>(hh D hD).g) fin
def Bt(Y:lq X.env.scope X.N scope x fvs js)(hc:X.calm=true)(hi:PI X (.Name x px) iter wi)
  (ht:∀z U C fp,PF (X.blk x fvs scope z U C fp) ifs tt) (he:∀z U C fp,PE (X.blk x fvs scope z U C fp) elt te)
  (hs:∀v,foldedSetIterable iter X.env v=pure v:=by intro _;rfl):PE X (.ListComp elt [⟨.Name x px,iter,ifs,0⟩] scope pos) (yC wi js tt te):=by
 intro pins s σ H Q I h;have fr:∀y∈scope.names,y.2=.free->∃c,X.env.cells.lookup y.1=some c:=λy hy hk=>I.ok.has y.1 (Y.out y hy hk)
 rw[eval_ListComp];refine wpAny_comprehension_free (use:=none) rfl hs (nF fr) Y.kind Y.names (thn (hi pins s σ H _ I h) λv s1 h1=>thn h1 λa2 s2 h2=>?_);refine uT h2 λit fp tn J H2 e I2 T Z f2 hh=>?_
 subst e;refine pw (RR:=λacc C=>compPost (model X.prog X.w) X.A X.xe none (EP X pins σ Q) acc C) Y hc ht he I2 T Z f2 hh λD C H' s' I' hn nC cL cS cC cP q=>?_
 obtain⟨m,hn⟩:=hn;refine⟨m,hn,λh' sb=>⟨.ref D,H',?_,rfl,q⟩⟩;exact I'.turned (t':=s'.toks) (λb o hb e=>(sb.2 b hb).trans e) nC cL (.inr cS) cC cP
def tR{py ao:Pos}(hN:X.N.Nodup)(aL:X.N[i]?=some y)(hy:Loc X.env.scope y)(Z:lq X.env.scope X.N scope x fvs js)(hc:X.calm=true)(hi:PI X (.Name x px) iter wi)
  (ht:∀U Y C fp,PF (X.blk x fvs scope U Y C fp) ifs tt) (he:∀U Y C fp,PE (X.blk x fvs scope U Y C fp) elt te)
  (a1:swapsWith (.ListComp elt [⟨.Name x px,iter,ifs,0⟩] scope pos) (some (.Name y py)) ao.line X.env=pure true:=by rfl)
  (hs:∀v,foldedSetIterable iter X.env v=pure v:=by intro _;rfl) (hf:X.fn y=true\/X.env.scope.names.lookup y=some .local:=by first|exact .inl rfl|exact .inr rfl|assumption) :
  PS X (.Assign [.Name y py] (.ListComp elt [⟨.Name x px,iter,ifs,0⟩] scope pos) ao) (pX (yC wi js tt te) (db i)):=by
 intro pins s σ H D I h;have fr:∀y∈scope.names,y.2=.free->∃c,X.env.cells.lookup y.1=some c:=λy hy hk=>I.ok.has y.1 (Z.out y hy hk)
 rw[exec_Assign_Name_used _ _ _ _ a1];refine kn (wpAny_standAt (kn ?_));refine kn (thn (wpAny_comprehension_free (use:=some (assign (.Name y py) X.env)) (Q:=λ_ s'=>SP X pins D .next s') rfl hs (nF fr) Z.kind Z.names (thn (hi pins s σ H _ I h) λv s1 h1=>thn h1 λbW s2 h2=>?_)) λ_ s' q=>?_)
 .refine bN λZq kq=>?_
  refine uT h2 λit fp tn J H2 e I2 T a2 f2 hh=>?_
  subst e;refine kq ?_;refine pw (RR:=λacc C=>compPost (model X.prog X.w) X.A X.xe (some (assign (.Name y py) X.env)) (λ_ s'=>SP X pins D .next s') acc C) (Q:=λv H'=>db i v σ H' D.nx) Z hc ht he I2 T a2 f2 hh λD' C H' s' I' hn nC cL cS cC cP q=>?_
  obtain⟨m,hn⟩:=hn;refine wpAny_assign_Name (o3 I' hN aL hy (v:=.ref D') rfl (λa3 a4 hq=>ae hq λa sb ha=>?_) hf);have ne:C≠a:=by
   rcases ha with z|z
   .rw[z];exact cL
   .exact λw=>cC y a z w.symm
  refine⟨m,hn.sameBut sb ne,λh' a5=>?_⟩;exact⟨_,H',a4.turned (t':=a3.toks) (λb o hb e=>(a5.2 b hb).trans e) nC cL (.inr cS) cC cP,q⟩
 .exact mu (mu q)
end
abbrev tU(K:M5)(H:Hp):List V->List (List Int)->Prop:=Paired λx q=>∃a,x=V.ref a/\SqT K H a (q.map V.int)
theorem tU.len{K:M5}(h:tU K H xs q):xs.length=q.length:=Paired.length h
def bC(h:H p=none)(o):af H (upd H p o):=λb u q=>by rw[az (bp q h)];exact q
def af.seqT{K:M5}(e:af H H')(h:SqT K H a xs):SqT K H' a xs:=by
 rcases h with(h|⟨o,h⟩)|h
 .exact .inl (.inl (e _ _ h))
 .exact .inl (.inr ⟨o,e _ _ h⟩)
 .exact .inr h
section
variable{X:Cx}{pins:List (Addr×Obj)}{σ:St}{H:Hp}{s:Shared}
def Inv.laidD(I:Inv X pins σ H s)(k:∀b u,s.heap.get? b=some u->h'.get? b=some u)(q:s.heap.objs.size<=a)(new:bH X.prog X.w (upd H a o) h' a o) :
  Inv X pins σ (upd H a o) { s with heap:=h',toks:=t',drawn:=d' }:=
 I.call (g':=s.gens) (d':=d') (t':=t') (ch:=[]) (Un.laid k q (I.hok.fresh q)) (I.hok.laid k q new) I.bare λ_ z=>nomatch z
def Inv.tupInts(I:Inv X pins σ H s)(h:SqT X.K H a (ns.map V.int)):∃its,IsTup s.heap a its.toArray/\IntsAre its ns:=by
 refine a8 (I.tuple h) λits r p _=>?_
 exact⟨its,p,fu r⟩
theorem Inv.tupsAt(I:Inv X pins σ H s):∀{xs}{us}{z},tU X.K H xs z->aJ xs us->Paired (λu D=>∃a its,u=Value.ref a/\IsTup s.heap a its/\IntsAre its.toList D) us z
 | _,_,_,.nil,.nil=>.nil
 | _,_,_,.cons ⟨a,J,U⟩ t,.cons r q=>by
  refine ae (I.tupInts U) λits p hi=>?_
  rw[J]at r;exact .cons ⟨a,its.toArray,r,p,by simpa using hi⟩ (I.tupsAt t q)
end
noncomputable def nJ(P:Program)(w:World)(a:Addr)(ks:List Int):HO:=.ext λh=>St.eO P w h a ks
def rN(g:St.eO P w h a ks):bH P w H h a (nJ P w a ks):=by
 refine je (id g) λo es ep t ho r=>?_
 exact⟨g,⟨o,ho⟩,λh1 h2 q k=>q.at k⟩
theorem Inv.set(I:Inv X pins σ H s)(h:H a=some (nJ X.prog X.w a ks)):St.eO X.prog X.w s.heap a ks:=
 (show bH X.prog X.w H s.heap a (nJ X.prog X.w a ks)from I.hok a _ h).1
section
variable{X:Cx}
def yE (hc:X.calm=true):ce X (.type "set") (λxs H Q=>∃(p:Addr) (ns:List Int),xs=[.ref p]/\(SqL X.K H p (ns.map V.int)\/SqT X.K H p (ns.map V.int))/\ns.length<=4000/\∀l,H l=none->Q (.ref l) (upd H l (nJ X.prog X.w l (St.dd ns.reverse)))):=by
 intro pins s σ H xs us Q I r h;obtain⟨p,ns,rfl,z,hz,q⟩:=h;refine ae (ik r) λu D Y=>?_
 subst D;subst Y;have U:=I.ok.hd hc;rcases z with z|z
 .obtain⟨its,J,pl,_⟩:=I.list z;have hi:=fu J;have Z:=hi.length;refine St.set_list U pl.isList (ns:=ns) hi (by simp;unfold scanBound;omega) λh' tk g kp=>?_
  exact⟨.ref s.heap.objs.size,_,I.laidD (d':=s.drawn) kp (pb _) (rN g),rfl,q _ (I.hok.fresh (pb _))⟩
 .obtain⟨its,J,pl,_⟩:=I.tuple z;have hi:=fu J;have Z:=hi.length;refine St.wz U (show s.heap.IsTuple p its.toArray from pl) (ns:=ns) hi (by simp;unfold scanBound;omega) λh' tk g kp=>?_
  exact⟨.ref s.heap.objs.size,_,I.laidD (d':=s.drawn) kp (pb _) (rN g),rfl,q _ (I.hok.fresh (pb _))⟩
end
namespace Srt
noncomputable def sortI(l:List Int):List Int:=il dD l
noncomputable def sortT(l:List (List Int)):List (List Int):=il dZ l
def leT(a b:List Int):Prop:=HT.lexLt b a=false
def sortI_perm(l):(sortI l).Perm l:=fw dD l
def sortT_perm(l):(sortT l).Perm l:=fw dZ l
def sortI_len(l):(sortI l).length=l.length:=(sortI_perm l).length_eq
def sortT_len(l):(sortT l).length=l.length:=(sortT_perm l).length_eq
def sortT_rises(l):(sortT l).Pairwise leT:=eG dZ l
def sortT_id(h:l.Pairwise leT):sortT l=l:=rG dZ h
def sortT_of_perm(p:a.Perm b):sortT a=sortT b:=jh dZ p
def sortI_of_perm(p:a.Perm b):sortI a=sortI b:=jh dD p
def vi{a b:Int}:dD.kle a b ↔ a<=b:=by
 show decide _=false ↔ a<=b
 simp_all
def sortI_rises(l):(sortI l).Pairwise (· <= ·):=(eG dD l).imp λh=>vi.mp h
def sortI_id(h:l.Pairwise (· <= ·)):sortI l=l:=rG dD (h.imp λq=>vi.mpr q)
section
variable{P:Program}{w:World}{A:Around}{E:Value->Shared->Prop}{s:Shared}
def rO(q:ns.Perm ks)(z:ns.Pairwise (· <= ·)):ns=sortI ks:=by
 refine jZ dD q (z.imp λ{a b} h=>?_);show decide _=false
 simp_all
def iF{ks:List Int}{Q:Value->Shared->Prop}(a0:ks.length<64)
  (J:∀Q',(∀h' tk d' z q,(∀b o,s.heap.get? b=some o->h'.get? b=some o)->q.Perm ks->IntsAre z q->Q' z { s with heap:=h',toks:=tk,drawn:=d' }) ->
   wpAny (model P w) A.in1 (collect x) Q' E s)
  (h:∀(h1 h':Heap) tk d' out c,(∀b o,s.heap.get? b=some o->h1.get? b=some o)->(∀b o,h1.get? b=some o->h'.get? b=some o)->h'.get? h1.objs.size=some { cls:=.type "list",data:=.seq out.toArray c } ->
   IntsAre out (sortI ks)->Q (.ref h1.objs.size) { s with heap:=h',toks:=tk,drawn:=d' }) :
  wpAny (model P w) A (call (.builtin "sorted") [x]) Q E s:=by
 refine Calls.call_function_entry kind_sorted plain_sorted entry_sorted (args_sorted1 _) ?_;refine kn (m:=checkCount "sorted" 1 1 _) (mu ?_);refine kn (J _ λh1 tk d1 z q kp hp hi=>?_);have a2:=hi.length;have a3:=hp.length_eq;refine kn (wpAny_newList ?_ (by rw[KG];omega));have D:(h1.push (seqObj "list" z.toArray 0)).get? h1.objs.size=some (seqObj "list" z.toArray 0):=tu _ rfl;refine kn (Le (Kp slot_list_sort ⟨_,D,rfl⟩ entry_list_sort (list_sort_tree D hi (by simp[*]) λout a4 U Y Z=>⟨_,rfl,?_⟩) (args_list_sort _)));obtain⟨c,hc⟩:=sortedHeap_at (out:=out) (vs:=z) D;refine mu ⟨_,rfl,h h1 _ tk d1 out.toList c kp (λb o e=>?_) ?_ ?_⟩
 .have hb:=uw e;rw[sortedHeap_old (x1 hb) (by rw[Kg];exact Kr hb)];exact mn _ e
 .rw[Array.toArray_toList];exact hc
 .rw[<- rO (Y.trans hp) Z];exact U
def nK{vs:List Value}{z:List (List Int)}{Q:Value->Shared->Prop}(ar:vs.length<64)(hu:A.units+2<cLine)
  (hv:Paired (λu ts=>∃a its,u=Value.ref a/\IsTup s.heap a its/\IntsAre its.toList ts) vs z)
  (Y:∀Q',(∀h',(∀b o,s.heap.get? b=some o->h'.get? b=some o)->Q' vs { s with heap:=h' })->wpAny (model P w) A.in1 (collect x) Q' E s)
  (h:∀(h1 h':Heap) (p:Array Nat) (c:Nat),(∀b o,s.heap.get? b=some o->h1.get? b=some o)->(∀b o,h1.get? b=some o->h'.get? b=some o)->h'.get? h1.objs.size=some { cls:=.type "list",data:=.seq (p.toList.map λi=>vs.getD i Value.none).toArray c } ->
   PB vs.length p->p.toList.map (λi=>z.getD i [])=sortT z->Q (.ref h1.objs.size) { s with heap:=h' }) :
  wpAny (model P w) A (call (.builtin "sorted") [x]) Q E s:=by
 have D:vs.length=z.length:=Paired.length hv;refine Calls.call_function_entry kind_sorted plain_sorted entry_sorted (args_sorted1 _) ?_;refine kn (m:=checkCount "sorted" 1 1 _) (mu ?_);refine kn (Y _ λh1 kp=>?_);refine kn (wpAny_newList ?_ (by rw[KG];omega));have J:(h1.push (seqObj "list" vs.toArray 0)).get? h1.objs.size=some (seqObj "list" vs.toArray 0):=tu _ rfl;have at_:∀(s':Shared),(∀b o,b≠h1.objs.size->(h1.push (seqObj "list" vs.toArray 0)).get? b=some o->s'.heap.get? b=some o)->∀i,i<vs.length->∃a its,vs.getD i Value.none=.ref a/\IsTup s'.heap a its/\IntsAre its.toList (z.getD i []):=λs' k i hi=>by
  have gen:∀{us:List Value}{U:List (List Int)},Paired (λu ts=>∃a its,u=Value.ref a/\IsTup s.heap a its/\IntsAre its.toList ts) us U->∀i,i<us.length->∃a its,us.getD i Value.none=.ref a/\IsTup s.heap a its/\IntsAre its.toList (U.getD i []):=by
   intro us U hp
   induction hp with
   |nil=>intro i hi;simp at hi
   |cons q _ ih =>
    intro i hi;cases i with
    |zero=>obtain⟨a,its,e,r⟩:=q;exact⟨a,its,by exact e,by exact r⟩
    |succ i=>obtain⟨a,its,e,r⟩:=ih i (by simpa using hi);exact⟨a,its,by exact e,by exact r⟩
  obtain⟨a,its,e,⟨o,ho,r⟩,a1⟩:=gen hv i hi;have Z:=kp a o ho;exact⟨a,its,e,⟨o,k a o (x1 (uw Z)) (mn _ Z),r⟩,a1⟩
 refine kn (Le (Kp slot_list_sort ⟨_,J,rfl⟩ entry_list_sort (qg (O:=dZ) (key:=λi=>z.getD i []) J ar (λh2 s' Q' k q=>wu h2 (λv hm=>?_) q) (λg a2 s' i j C k hi hj q=>?_) λp hp hr=>⟨_,rfl,?_⟩) (args_list_sort _)))
 .obtain⟨i,hi,e⟩:=getElem_of_mem hm;refine au (at_ s' k i hi) λa its e' r1 r2=>?_
  exact⟨a,its,_,by rw[<- e',<- e];simp[hi],r1,r2⟩
 .refine au (at_ s' k i hi) λa its e r1 r2=>?_
  refine au (at_ s' k j hj) λa' its' e' a6 a7=>?_
  rw[e,e'];exact Bo a2 r1 a6 r2 a7 (show A.units+1+1<cLine from hu) q
 .obtain⟨c,hc⟩:=sortedHeap_at (out:=(p.toList.map λi=>vs.getD i Value.none).toArray) (vs:=vs) J;have bt:PB z.length p:=by rw[<- D];exact hp
  have bA:fV (O:=dZ) (λi=>z.getD i []) p z.length:=by rw[<- D];exact hr
  refine mu ⟨_,rfl,h h1 _ p c kp (λb o e=>?_) hc hp (Ev (O:=dZ) (d:=([]:List Int)) (xs:=z) bt bA)⟩;have hb:b<h1.objs.size:=uw e;rw[sortedHeap_old (x1 hb) (by rw[Kg];exact Kr hb)];exact mn _ e
end
end Srt
section
variable{X:Cx}
def Inv.keptD(I:Inv X pins σ H s)(k:∀b u,s.heap.get? b=some u->h'.get? b=some u):Inv X pins σ H { s with heap:=h',toks:=t',drawn:=d' }:=
 I.call (g':=s.gens) (d':=d') (t':=t') (ch:=[]) (Un.kept k) (I.hok.kept k) I.bare λ_ z=>nomatch z
def pz:∀{vs}{ns},IntsAre vs ns->aJ (ns.map V.int) vs:=k9
def Ey(X:Cx):List V->Hp->VK->Prop:=λxs H Q=>∃p ks,xs=[.ref p]/\(SqL X.K H p (ks.map V.int)\/SqT X.K H p (ks.map V.int)\/H p=some (nJ X.prog X.w p ks))/\ks.length<64/\∀l,H l=none->Q (.ref l) (upd H l (.lst ((Srt.sortI ks).map V.int)))
def kd (hc:X.calm=true):ce X (.builtin "sorted") (Ey X):=by
 intro pins s σ H xs us Q I r h;refine ij h λp ks Z z ao q=>?_
 subst Z;refine ae (ik r) λu ar rx=>?_
 subst ar;subst rx;have hh:=I.ok.hd hc;refine Srt.iF (ks:=ks) ao (λQ' D=>?_) λh1 h' tk d' out c k1 k2 e hi=>?_
 .rcases z with z|z|z
  .refine a8 (I.list z) λits Y pl hz=>?_
   obtain⟨o,ho,J,n,hd⟩:=pl.isList;refine L8 p (.inl rfl) ho J hd (λh' kp=>?_) (by have:=Y.length;simp only[pd]<;>omega);exact D h' s.toks s.drawn _ ks kp (.refl _) (by simpa using fu Y)
  .refine a8 (I.tuple z) λits Y pl hz=>?_
   obtain⟨o,ho,J,n,hd⟩:=pl;refine L8 p (.inr rfl) ho J hd (λh' kp=>?_) (by have:=Y.length;simp only[pd]<;>omega);exact D h' s.toks s.drawn _ ks kp (.refl _) (by simpa using fu Y)
  .exact St.rM (by first|exact hh|simpa using hh) (I.set z) λh' tk d' aL U kp hp hi=>D h' tk d' aL U kp hp hi
 .have I1:Inv X pins σ H { s with heap:=h1,toks:=tk,drawn:=d' }:=I.keptD k1;have I2:Inv X pins σ (upd H h1.objs.size (.lst ((Srt.sortI ks).map V.int))) { s with heap:=h',toks:=tk,drawn:=d' }:=
   I1.laid (t':=tk) k2 (pb _) (show bH X.prog X.w _ h' _ (.lst _)from⟨by rw[sm,Srt.sortI_len,KG];omega,out,c,pz hi,e⟩)
  exact⟨.ref h1.objs.size,_,I2,rfl,q _ (I1.hok.fresh (pb _))⟩
def Ez(X:Cx):List V->Hp->VK->Prop:=λxs H Q=>∃(p:Addr) (vs:List V) (q:List (List Int)),xs=[.ref p]/\(SqL X.K H p vs\/SqT X.K H p vs)/\tU X.K H vs q/\q.length<64 /\
 ∀(l:Addr) (pm:List Nat),H l=none->(∀i∈pm,i<vs.length)->pm.map (λi=>q.getD i [])=Srt.sortT q->Q (.ref l) (upd H l (.lst (pm.map λi=>vs.getD i .non)))
theorem pA(h:aJ vs us):∀(l:List Nat),(∀i∈l,i<vs.length)->aJ (l.map λi=>vs.getD i .non) (l.map λi=>us.getD i Value.none)
 | [],_=>.nil
 |i::l,q=>by
  have hi:=q i (.head _);obtain⟨u,D,J⟩:=h.get (i:=i) (x:=vs[i]) (Kc hi);refine .cons ?_ (pA h l λj z=>q j (.tail _ z))
  simp_all
def qk (hu:X.A.units+64<cLine):ce X (.builtin "sorted") (Ez X):=by
 intro pins s σ H xs us Q I r h;refine oZ h λp vs a2 ar U ht a3 q=>?_
 subst ar;refine ae (ik r) λu aL rx=>?_
 subst aL;subst rx;have key:∀its,aJ vs its->vs.length<=sizeLine->(∀Q',(∀h',(∀b o,s.heap.get? b=some o->h'.get? b=some o)->Q' its { s with heap:=h' })->wpAny (model X.prog X.w) X.A.in1 (collect _) Q' X.xe s) ->
   wpAny _ X.A (call _ [.ref p]) (EP X pins σ Q) X.xe s:=λits z hz Y=>by
  have hl:=z.length;have a5:=ht.len;refine Srt.nK (by omega) (by omega) (I.tupsAt ht z) Y λh1 h' pm c k1 k2 e hp ho=>?_
  have Z:∀i∈pm.toList,i<vs.length:=λi hi=>by
   have:=(LJ.mp hp).mem_iff.mp hi
   simp_all
  have I1:=I.kept (t':=s.toks) k1;have I2:Inv X pins σ (upd H h1.objs.size (.lst _)) { s with heap:=h' }:=
   I1.laid k2 (pb _) (show bH X.prog X.w _ h' _ _ from⟨by have:=hp.size;rw[sm,Array.length_toList,KG];omega,_,c,pA z _ Z,e⟩)
  exact⟨.ref h1.objs.size,_,I2,rfl,q _ pm.toList (I1.hok.fresh (pb _)) Z ho⟩
 rcases U with U|U
 .obtain⟨its,z,pl,hz⟩:=I.list U;obtain⟨o,ho,D,n,hd⟩:=pl.isList;refine key its z hz λQ' J=>L8 p (.inl rfl) ho D hd (λh' kp=>?_) (by have:=z.length;simp[pd]<;>omega)
  have:=J h' kp;simpa using this
 .obtain⟨its,z,pl,hz⟩:=I.tuple U;obtain⟨o,ho,D,n,hd⟩:=pl;refine key its z hz λQ' J=>L8 p (.inr rfl) ho D hd (λh' kp=>?_) (by have:=z.length;simp[pd]<;>omega)
  have:=J h' kp;simpa using this
end
end L2
namespace L2.St
open PySem PyProof.Rows List Option
structure oS(P:Program)(w:World)(h:Heap)(a:Addr)(ks:List Int)(o:Obj)(es:Array (Int×Value))(ep:Nat)(t:SetTable):Prop where
 ho:h.get? a=some o
 ex:o.ExactSet
 hd:o.data=.set es ep t
 el:ElemsOf (intKind P w) es.toList
 pm:(es.toList.map λe=>numOf e.2).Perm ks
 nd:ks.Nodup
 bd:es.size<scanBound
 fi:t.fits es.size=true
theorem eO.w{w:World}(g:eO P w h a ks):∃o es ep t,oS P w h a ks o es ep t/\Gd (!byT w) t:=by
 refine bN λZq D=>?_
 obtain⟨o,es,ep,t,ho,q,hd,z,J,hn,U,Y,Z⟩:=g;refine D ?_;exact⟨o,es,ep,t,⟨ho,q,hd,z,J,hn,U,Y⟩,Z⟩
theorem oS.len(g:oS P w h a ks o es ep t):es.size=ks.length:=by
 have:=g.pm.length_eq;simpa using this
theorem oS.at{P:Program}{w:World}{h h':Heap}{a:Addr}{ks:List Int}{o:Obj}{es:Array (Int×Value)}{ep:Nat}{t:SetTable}(g:oS P w h a ks o es ep t)(k:∀o,h.get? a=some o->h'.get? a=some o):oS P w h' a ks o es ep t:=
 ⟨k o g.ho,g.ex,g.hd,g.el,g.pm,g.nd,g.bd,g.fi⟩
section
variable{P:Program}{w:World}{A:Around}{E:Value->Shared->Prop}{s:Shared}
variable{a:Addr}{ks:List Int}{o:Obj}{es:Array (Int×Value)}{ep:Nat}{t:SetTable}
theorem oS.mem(g:oS P w s.heap a ks o es ep t) :k∈ks ↔ ∃e∈es.toList,(intKind P w).is k e.2=true:=by
 rw[<- g.pm.mem_iff,mem_map];constructor
 .rintro ⟨e,z,q⟩;exact⟨e,z,(qi g.el z k).mpr q⟩
 .rintro ⟨e,z,q⟩;exact⟨e,z,(qi g.el z k).mp q⟩
end
section
variable{P:Program}{w:World}{A:Around}{E:Value->Shared->Prop}{s:Shared}
def oS.type (g:oS P w s.heap a ks o es ep t):s.TypeIs (.ref a) "set":=⟨o,g.ho,g.ex.1⟩
end
noncomputable def lp(m:Nat):Nat->Nat×Nat->Nat×Nat
 |0,p=>p
 |t+1,p=>lp m t (SetTable.leap m p.1 p.2)
noncomputable def vals(m:Nat)(q:Array (Option Nat)):List Nat:=(range (m+1)).filterMap λj=>q.getD j none
section
variable{P:Program}{w:World}{A:Around}{E:Value->Shared->Prop}{s:Shared}
variable{a:Addr}{ks:List Int}{o:Obj}{es:Array (Int×Value)}{ep:Nat}{t:SetTable}
end
section
variable{P:Program}{w:World}{A:Around}{E:Value->Shared->Prop}{s:Shared}
end
end L2.St
namespace L2
open PySem PySem.Spec PyProof.Rows List Option
section
variable{X:Cx}
end
end L2
namespace L2.En
open PySem PyProof.Rows List Option
open AutoSeq1 (wpAny_loadPart')
section
variable{P:Program}{w:World}{A:Around}{E:Value->Shared->Prop}{s:Shared}
def tX(D:s.heap.IsTupleIter it t i)
  (h:wpAny (model P w) A.in1 (Builtin.«tuple_iterator.__next__» ⟨[.ref it],[]⟩) (λfin s'=>∃v,fin=.done (.ret v)/\Q v s') E s):wpAny (model P w) A (Builtin.SmallTypes.nextOf (.ref it)) Q E s:=by
 refine kn (Ky D.typeIs F.slot_tuple_iterator_next ?_);refine Kp F.slot_tuple_iterator_next D.typeIs F.entry_tuple_iterator_next ?_ (F.args_tuple_iterator_next_1 _);refine Ks h (λfin s' J=>?_) λ_ _ z=>z
 obtain⟨v,rfl,q⟩:=J;exact⟨v,rfl,mu q⟩
def Hk (z:A.handled=none) (h:∀h' e,(∀b o,s.heap.get? b=some o->h'.get? b=some o)->(∃o,h'.get? e=some o/\o.cls=.type "StopIteration")->E (.ref e) { s with heap:=h' }) :
  wpAny (model P w) A (Builtin.SmallTypes.stopIteration:Sem α) Q E s:=by
 wp_walk
 exact wpAny_raiseNew_none z (h _ _ (λb o q=>mn _ (mn _ q)) ⟨_,tu _ rfl,rfl⟩)
def pB(J:A.handled=none)(z:s.heap.IsTupleIter it t i)(ht:s.heap.IsTuple t items)
  (U:∀x h',items[i]?=some x->h'.IsTupleIter it t (i+1)->Heap.SameBut it s.heap h'->Q x { s with heap:=h' })
  (Y:∀h' e,items[i]?=none->Heap.ExtBut it s.heap h'->(∃o,h'.get? e=some o/\o.cls=.type "StopIteration")->E (.ref e) { s with heap:=h' }):wpAny (model P w) A (Builtin.SmallTypes.nextOf (.ref it)) Q E s:=by
 refine tX z ?_;refine bN λZq Z=>?_
 obtain⟨⟨c1,d1,t1,l1⟩,h1,e1,e2⟩:=z;obtain⟨⟨c2,d2,t2,l2⟩,h2,e3,n2,e4⟩:=ht;subst e1;subst e2;subst e3;subst e4;obtain⟨D,g,d,tk,os⟩:=s;refine Z ?_
 wp_walk using wpAny_loadPart' h1,wpAny_loadPart' h2
 have self:∀k v,(D.update it (Obj.mapFields (·.setIfInBounds k v))).get? it=some { cls:=.type "tuple_iterator",dict:=d1,data:=.fields _,slots:=l1 }:=λk v=>KU _ h1 rfl
 rw[Int.toNat_natCast];cases hx:items[i]? with
 |some x =>
  refine kn (wpAny_setField h1 rfl (by simp) (mu ⟨x,rfl,U x _ hx ⟨_,self 1 _,rfl,?_⟩ (Lf ..)⟩))
  rfl
 |none =>
  refine kn (Mh (kn (wpAny_setField h1 rfl (by simp) (Hk J λh' e k st=>?_))));exact Y h' e hx (λb o hb q=>k b o ((Lf D it _).extBut b o hb q)) st
def draws(D:A.handled=none)(it t)(q:t≠it)(items):Draws P w A it [it,t] items.size (λi v=>items[i]?=some v) (λi h=>h.IsTupleIter it t i/\h.IsTuple t items) where
 live:=λ_ _ ⟨⟨o,ho,_⟩,_⟩=>⟨o,ho⟩
 frame:=λi h h' ⟨⟨o,ho,r⟩,⟨J,z,Y⟩⟩ k=>⟨⟨o,k it (.head _) o ho,r⟩,⟨J,k t (.tail _ (.head _)) J z,Y⟩⟩
 item:=λi s Q E hi ⟨h1,h2⟩ Z=>pB D h1 h2 (λx h' hx h3 U=>Z x h' s.toks hx ⟨h3,h2.extBut U.extBut q⟩ U) λh' e hx _ _=>absurd hx (by simp;omega)
 done:=λs Q E ⟨h1,h2⟩ hE=>pB D h1 h2 (λx h' hx _ _=>absurd hx (by simp)) λh' e _ eb st=>hE h' e eb st
def yF{Q:Bool->Shared->Prop}(h:∀c,Q c s):wpAny (model P w) A (pure b) Q E s:=mu (h b)
def Bu(l)(items)(n)(q)(z) :
  Meets (Builtin.«enumerate.__new__» ⟨[.type "enumerate",.ref l],[]⟩) (λ_ R s=>s.heap.get? l=some { cls:=.type "tuple",dict:=q,data:=.seq items n,slots:=z } /\
   R (.ok (.ret (.ref (s.heap.push { cls:=.type "tuple_iterator",data:=.fields #[.ref l,.int 0 0] }).objs.size)))
    { s with heap:=(s.heap.push { cls:=.type "tuple_iterator",data:=.fields #[.ref l,.int 0 0] }).push { cls:=.type "enumerate",data:=.fields #[.none,.bool false,.ref s.heap.objs.size,rawInt 0,.none,.none] } }):=by
 refine .of_wp λP w A R s h=>?_
 have tl:Heap.IsTuple _ l items:=⟨_,h.1,rfl,n,rfl⟩;have D:=sub_enumerate
 wp_walk using wpAny_loadPart' h.1
 apply wpAny_stack_any;intro st;refine yF λc=>?_
 cases c
 .wp_walk using wpAny_pyIter_tuple tl
  exact⟨_,rfl,h.2⟩
 .wp_walk using wpAny_pyIter_tuple tl
  exact⟨_,rfl,h.2⟩
def call_tup(ht:s.heap.IsTuple l items)
  (h:∀h',IsEnum h' (s.heap.objs.size+1) s.heap.objs.size 0 .none->h'.IsTupleIter s.heap.objs.size l 0->h'.objs.size=s.heap.objs.size+2 ->
   (∀b o,s.heap.get? b=some o->h'.get? b=some o)->Q (.ref (s.heap.objs.size+1)) { s with heap:=h' }):wpAny (model P w) A (call (.type "enumerate") [.ref l]) Q E s:=by
 obtain⟨⟨c,D,dt,Y⟩,Z,hc,n,hd⟩:=ht;subst hc;subst hd;have made:=Bu l items n D Y;refine callType_new F.called_enumerate (by decide) (F.typeCall_enumerate_1 _) (F.newCall_enumerate_1 _) (λv=>F.args_object_init_2 v _) F.entry_enumerate_new made ⟨Z,?_⟩;generalize hi:({ cls:=.type "tuple_iterator",data:=.fields #[.ref l,.int 0 0] }:Obj)=io;generalize ho:({ cls:=.type "enumerate",data:=.fields #[.none,.bool false,.ref s.heap.objs.size,rawInt 0,.none,.none] }:Obj)=J;have z:(s.heap.push io).objs.size=s.heap.objs.size+1:=Kg ..;have U:((s.heap.push io).push J).get? (s.heap.objs.size+1)=some J:=by
  rw[<- z];exact tu _ (by rw[<- ho];rfl)
 have g2:((s.heap.push io).push J).get? s.heap.objs.size=some io:=mn _ (tu _ (by rw[<- hi];rfl));rw[z];refine⟨⟨_,U,by rw[<- ho]⟩,h _ (by rw[<- ho]at U;rw[<- ho];exact U) ⟨_,g2,by rw[<- hi],by rw[<- hi];rfl⟩ (by rw[Kg,z]) λb o q=>mn _ (mn _ q)⟩
end
end L2.En
namespace L2.Dv
open PySem PyProof.Rows List Option
open AutoSeq1 (wpAny_loadPart')
section
variable{P:Program}{w:World}{A:Around}{E:Value->Shared->Prop}{s:Shared}
def ql(h:Heap)(d:Addr)(es:Array DictEntry)(ep:Nat):Prop:=∃o,h.get? d=some o/\o.ExactDict/\o.data=.dict es ep
theorem ql.at(x:ql h d es ep)(k:∀o,h.get? d=some o->h'.get? d=some o):ql h' d es ep:=by
 refine ae x λo ho r=>?_
 exact⟨o,k o ho,r⟩
def ql.type (x:ql s.heap d es ep):s.TypeIs (.ref d) "dict":=by
 refine a8 x λo ho r _=>?_
 exact⟨o,ho,r.1⟩
def Bv(q:s.heap.IsValuesView v d)(x:ql s.heap d es ep)
  (h:Q (.ref s.heap.objs.size) { s with heap:=s.heap.push { cls:=.type "dict_valueiterator",data:=.fields #[.ref d,.int 0 0,.int es.size 0,.int ep 0] } }):wpAny (model P w) A (pyIter (.ref v)) Q E s:=by
 refine MG q.typeIs F.slot_dict_values_iter (Kp F.slot_dict_values_iter q.typeIs F.entry_dict_values_iter ?_ (F.args_dict_values_iter_1 _));refine bN λZ z=>?_
 obtain⟨⟨c1,d1,t1,l1⟩,h1,hx,D⟩:=x;have J:=hx.1;subst J;subst D;obtain⟨⟨c3,d3,t3,l3⟩,h3,U,Y⟩:=q;subst U;subst Y;refine z ?_
 wp_walk using wpAny_loadPart' h1,wpAny_loadPart' h3
 exact⟨_,rfl,_,_,⟨_,tu _ rfl,rfl⟩,Ly.lookup,h⟩
def vj{ep:Nat}{Q:Option Value->Shared->Prop}(Z:A.handled=none)(U:s.heap.IsValIter it d i es.size ep)(x:ql s.heap d es ep)
  (h1:∀e h',es[i]?=some e->h'.IsValIter it d (i+1) es.size ep->Heap.SameBut it s.heap h'->Q (some e.val) { s with heap:=h' })
  (h2:∀h',es[i]?=none->Heap.ExtBut it s.heap h'->Q none { s with heap:=h' }):wpAny (model P w) A (pyNext (.ref it)) Q E s:=by
 have ty:=U.typeIs;obtain⟨⟨c1,d1,t1,l1⟩,g1,hx,e2⟩:=x;have e1:=hx.1;cases e1;cases e2;obtain⟨⟨c3,d3,t3,l3⟩,D,e3,e4⟩:=U;cases e3;cases e4;obtain⟨J,g,dr,tk,os⟩:=s;unfold pyNext;refine kn (Md (Ky (name:=Str.ofString "__next__") ty Ly (Kp Ly ty F.entry_dict_valueiterator_next ?_ (F.args_dict_valueiterator_next_1 _))));unfold Builtin.«dict_valueiterator.__next__»
 wp_walk using wpAny_loadPart' g1,wpAny_loadPart' D
 rw[if_neg (by omega),Int.toNat_natCast];have self:∀k v,(J.update it (Obj.mapFields (·.setIfInBounds k v))).get? it=some { cls:=.type "dict_valueiterator",dict:=d3,data:=.fields ((#[.ref d,.int (i:Int) 0,.int (es.size:Int) 0,.int (ep:Int) 0]:Array Value).setIfInBounds k v),slots:=l3 }:=λk v=>KU _ D rfl
 cases hx:es[i]? with
 |some e =>
  have Y:=self 1 (rawInt ((i:Int)+1))
  wp_walk using wpAny_loadPart' D,wpAny_loadPart' Y
  exact⟨_,rfl,mu (h1 e _ hx ⟨_,Y,rfl,rfl⟩ (Lf ..))⟩
 |none =>
  refine kn (Ks (Q:=λn s'=>n=0/\s'=⟨J,g,dr,tk,os⟩) (E:=λ_ _=>False) ?_ (λn s' q=>?_) λ_ _ z=>z.elim)
  .wp_walk using wpAny_loadPart' D
   exact⟨by decide +kernel,rfl⟩
  obtain⟨rfl,rfl⟩:=q;refine kn (wpAny_setField D rfl (by simp) ?_);refine St.lj (v:=.none) (vs:=#[]) (it:=0) (Q:=λ_ _=>True) (by simpa using Z) λe s' kp ⟨h',eq⟩ hT=>?_
  subst eq;refine kn (Ls (T:="StopIteration") (b:=true) hT isSubtype_stop ?_);exact mu (h2 h' hx λb o hb q=>kp b o ((Lf J it _).extBut b o hb q))
def src :PySem.W.KdlSrc P w "dict_values" r d es.size (λi v=>∃e,es[i]?=some e/\v=e.val) (λh=>h.IsValuesView r d/\ql h d es ep) where
 type:=λ_ q=>q.1.typeIs
 there:=λ_ ⟨⟨o,ho,_⟩,⟨o',Y,_⟩⟩=>⟨uw ho,uw Y⟩
 keep:=λ_ _ ⟨⟨o,ho,z⟩,x⟩ k=>⟨⟨o,k r (.inl rfl) o ho,z⟩,x.at λo e=>k d (.inr rfl) o e⟩
 notList:=by decide
 notTuple:=by decide
 hint:=λ_ _ _ _ q z=>PySem.W.kdl_hint_values q.1.typeIs z
 iter:=λA s Z hq=>qV hq λq x=>by
  have lt:d<s.heap.objs.size:=by obtain⟨o,ho,_⟩:=x;exact uw ho
  have ne:=x1 lt;refine⟨{ cls:=.type "dict_valueiterator",data:=.fields #[.ref d,.int 0 0,.int es.size 0,.int ep 0] },λi h=>h.IsValIter s.heap.objs.size d i es.size ep/\ql h d es ep,λE Q z=>Bv q x z,?_,⟨_,tu _ rfl,rfl,rfl⟩,x.at λo e=>mn _ e⟩;refine⟨λb D=>by simp at D;simp[D],λi h h' ⟨⟨o,ho,z⟩,y⟩ k=>⟨⟨o,k _ (by simp) o ho,z⟩,y.at λo e=>k d (by simp) o e⟩,λi s' Q E hi ⟨y,z⟩ J=>?_,λs' Q E ⟨y,z⟩ J=>?_,λi s' Q E ⟨y,z⟩ J=>?_⟩
  .refine vj Z y z (λe h' U y' sb=>?_) λh' U _=>absurd U (by simp;omega)
   exact J _ h' s'.toks ⟨e,U,rfl⟩ ⟨y',z.at λo q=>sb.extBut d o ne q⟩ λb o D q=>sb.extBut b o (λw=>D (by simp[w])) q
  .refine vj Z y z (λe h' U _ _=>absurd U (by simp)) λh' _ eb=>?_
   exact J h' s'.toks λb o D q=>eb b o (λw=>D (by simp[w])) q
  .exact wpAny_pyIter_valiter y J
end
end L2.Dv
namespace HT
open PySem PyProof.Rows List Option
section
variable{prog:Program}{w:World}{A:Around}{E:Value->Shared->Prop}{s:Shared}
def getItem_tuple_whole{q:Array Value}{U Y:Value}{lo hi:Option Int}{Q:Value->Shared->Prop}(ht:IsTup s.heap t q)(Z:s.heap.IsSliceOf sl U Y .none)(pl:IsPart U lo)(pu:IsPart Y hi)
  (h0:sIx q.size 0 lo=0) (h1:sIx q.size q.size hi=q.size) (h:Q (.ref t) s):wpAny (model prog w) A (getItem (.ref t) (.ref sl)) Q E s:=by
 have z:s.TypeIs (.ref sl) "slice":=by obtain⟨os,D,J,_⟩:=Z;exact⟨os,D,J⟩
 unfold getItem
 try with_reducible refine Le ?_
 first|refine kn (mu ?_)|skip
 refine kn (wpAny_sequenceKey ht.typeIs (by decide) ?_);refine kn (Ky (name:=Str.ofString "__getitem__") ht.typeIs Kx
  (Kp Kx ht.typeIs entry_tuple_getitem ?_ (args_tuple_getitem _ _)))
 show wpAny _ _ (Builtin.Tuple.tupleItemsOf _ >>= _) _ _ s;refine kn (tupleItemsOf_ ht ?_);refine kn (LY z ?_);rw[if_pos (by decide)];refine kn (gD Z pl pu ?_);show wpAny _ _ (if (((sIx q.size 0 lo:Nat):Int)==0&&_==1&&_==q.size)=true then _ else _) _ _ s;rw[h0,h1,if_pos (by simp)];refine kn (kn (LY ht.typeIs (mu ?_)));rw[if_pos (by decide)];refine kn (Mh ?_);exact mu ⟨_,rfl,mu h⟩
end
end HT
namespace L2
open PySem PySem.Spec PyProof.Rows List Option
section
variable{X:Cx}
def Bw:SlR X (λx lo hi H Q=>∃a xs,x=.ref a/\SqT X.K H a xs/\HT.sIx xs.length 0 lo=0/\HT.sIx xs.length xs.length hi=xs.length/\Q (.ref a) H):=by
 intro pins s σ H x v Z vu lo hi sl Q I J U pl Y h;refine uR h λa xs D hx h0 h1 q=>?_
 subst D;subst J;refine a8 (I.tuple hx) λits r ht hz=>?_
 have z:its.toArray.size=xs.length:=by rw[pd];exact r.length.symm
 refine⟨"tuple",_,Kx.lookup,ht.typeIs,?_⟩;exact HT.getItem_tuple_whole ht U pl Y (by rw[z];exact h0) (by rw[z];exact h1) ⟨.ref a,H,I,rfl,q⟩
end
end L2
namespace L2.Rv
open PySem PyProof.Rows List Option
section
variable{P:Program}{w:World}{A:Around}{E:Value->Shared->Prop}{s:Shared}
end
end L2.Rv
namespace L2
open PySem PySem.Spec PyProof.Rows List Option
section
variable{X:Cx}
end
end L2
namespace L2.Rg
open PySem PyProof.Rows List Option
section
variable{P:Program}{w:World}{A:Around}{E:Value->Shared->Prop}{s:Shared}
end
end L2.Rg
namespace L2
open PySem PySem.Spec PyProof.Rows List Option
section
variable{X:Cx}
end
structure CFn(K:M5)(C:Addr)(m:Str)(f:Addr):Prop where
 ga:PySem.W.specialIn K (.ref C) "__getattribute__"=some (some (.builtin "type.__getattribute__"))
 rd:PySem.W.readsIn K C (.type "type")=true
 at_:PySem.W.findCls K (.ref C) (.type "type") m=some (.val (.ref f))
 kp:PySem.W.keepIn K (.ref f)=true
section
variable{X:Cx}{x m:Str}{e:Expr}{es:List Expr}{t:TA}{p apos pos:Pos}{C f:Addr}{fd:FuncData}{k:Nat}{ps:List Str}{sp:Sp}{ds:List Value}{dvs:List V}{CX:CXT}{E:XK}
def EA{pl:Sem Bool}(c:CFn X.K C m f)(F:cT X.prog X.w X.K X.mg X.base CX k f fd ps sp)(Y:dA k X.A)(Z:Gl X x)(hm:X.mg x=some (.ref C))(hb:aW X.K fd ps ds)(hd:aJ dvs ds)(hx:gZ CX X E)(ha:PA X (e::es) t)
  (q:(x==("__debug__":Str))=false:=by decide) (z:starEach (e::es) X.env=(false,eval e X.env)::starEach es X.env:=by rfl) (D:(backTo pos (starEach es X.env)).any (·.1)=false:=by rfl)
  (ht:eval (.Call (.Attribute (.Name x p) m apos) (e::es) [] pos) X.env=(do
   let J <- eval (.Name x p) X.env
   standAt apos.atName
   let (f,first) <- holding [J] (getMethod J m pl)
   callWith pos f first (backTo pos (starEach (e::es) X.env)) (backToKw pos (keywordEach [] X.env))):=by rfl) :
  PE X (.Call (.Attribute (.Name x p) m apos) (e::es) [] pos) (rn sp dvs E t):=by
 intro pins s σ H Q I h;refine PySem.W.methodCall_KW (pl:=pl) (jR I Z hm ?_ q) ht;refine PySem.W.method_cls I.kIn c.ga (PySem.W.cls_value I.kIn c.rd c.at_ rfl ?_);refine PySem.W.callWith_K (first:=[]) (h₀:=X.base) I.ok.mod.kin c.kp (thn (ha pos pins _ σ H _ (I.tok _) h) λus s2 ⟨vs,H2,U,r,q2⟩=>⟨U.kIn,?_⟩) z D;exact m7 F Y hb hd hx U r q2
def tY (c:Addr):ce X (.builtin "isinstance") (λus H Q=>∃y t b,us=[y,.ref c]/\jT X.K H y t/\PySem.W.kitOne X.K t (.ref c)=some b/\Q (.bl b) H):=by
 intro pins s σ H xs us Q I r h;obtain⟨y,t,b,rfl,ty,e,q⟩:=h;cases r with
 |cons z r=>cases r with
  |cons D J =>
   cases J;cases D;exact wj I z ty e λtk=>⟨.bl b,H,I.tok tk,rfl,q⟩
end
end L2
namespace MM
open PySem List Option
inductive Sc where
 | non|bl (b:Bool)|int (i:Int)|str (x:Str)
 deriving Inhabited,DecidableEq
inductive DD where
 | k (kvs:List (Int×Sc))|t (kvs:List (List Int×Sc))
 deriving Inhabited
inductive PV where
 | non|bl (b:Bool)|int (i:Int)|str (x:Str)|tup (xs:List PV)|lst (xs:List PV)|dI (d:DD)
 deriving Inhabited
noncomputable def Sc.pv:Sc->PV
 | .non=>.non
 | .bl b=>.bl b
 | .int i=>.int i
 | .str x=>.str x
noncomputable def sc?:PV->Option Sc
 | .non=>some .non
 | .bl b=>some (.bl b)
 | .int i=>some (.int i)
 | .str x=>some (.str x)
 | _=>none
noncomputable def bE{α:Type} [DecidableEq α] (kvs:List (α×Sc)) (k:α):Option Sc:=(kvs.find? λp=>decide (p.1=k)).map (·.2)
noncomputable def bU{α:Type} [DecidableEq α] (kvs:List (α×Sc)) (k:α) (v:Sc):List (α×Sc):=
 if (kvs.any λp=>decide (p.1=k))=true then kvs.map (λp=>if p.1=k then(p.1,v)else p)else kvs++[(k,v)]
noncomputable def eqL(f:PV->PV->Option Bool):List PV->List PV->Option Bool
 | [],[]=>some true
 |x::xs,y::ys=>(f x y).bind λp=>(eqL f xs ys).map λq=>p&&q
 | _,_=>some false
noncomputable def eqF:Nat->PV->PV->Option Bool
 | _,.non,.non=>some true
 | _,.bl a,.bl b=>some (a==b)
 | _,.bl a,.int b=>some ((if a then 1 else 0)==b)
 | _,.int a,.bl b=>some (a==(if b then 1 else 0))
 | _,.int a,.int b=>some (a==b)
 | _,.str a,.str b=>some (a==b)
 |0,.tup _,.tup _=>none
 |0,.lst _,.lst _=>none
 | _,.dI _,_=>none
 | _,_,.dI _=>none
 |n+1,.tup a,.tup b=>eqL (eqF n) a b
 |n+1,.lst a,.lst b=>if a.length=b.length then eqL (eqF n) a b else some false
 | _,_,_=>some false
noncomputable def tZ:PV->PV->Bool
 | .tup _,.tup _=>true
 | .lst _,.lst _=>true
 | .tup _,_=>false
 | _,.tup _=>false
 | .lst _,_=>false
 | _,.lst _=>false
 | .bl _,.int _=>false
 | .int _,.bl _=>false
 | .dI _,_=>false
 | _,.dI _=>false
 | _,_=>true
noncomputable def inL(f:PV->Option Bool):List PV->Option Bool
 | []=>some false
 |y::ys=>(f y).bind λp=>(inL f ys).map λq=>p||q
inductive MV where
 | val (v:PV)|own (xs:List PV)|brw (xs:List PV)|ownD (d:DD)|brwD (d:DD)
 | ownO (m:Bool) (fs xs:List PV)|brwO (fs xs:List PV)
 deriving Inhabited
noncomputable abbrev Rho:=List (Option MV)
inductive Op2 where
 | add|sub|mul|fdiv|mod|pow|shr
inductive Cp where
 | eq|ne|lt|le|gt|ge|isN|notN|isIn|notIn
inductive Blt where
 | len|tupleOf|listOf|sorted|any|all|sum|max1|min1|max2|min2|intOf|boolOf|isInt|isBool|isStr|isList|isTuple
 | sortedSet|lenSet|lenSetSub|sortedKeys|valuesOf|tupleRev
 deriving DecidableEq
inductive Sk where
 | seq|rng|enm|rev
noncomputable def sk2:Sk:=.enm
set_option genInjectivity false in
inductive ME where
 | var (i:Nat)
 | bor (i:Nat)
 | cst (v:PV)
 | glob (x:Str) (v:PV)
 | bin (op:Op2) (a b:ME)
 | neg (a:ME)
 | not (a:ME)
 | and (a b:ME)
 | or (a b:ME)
 | ite (c a b:ME)
 | cmp (op:Cp) (a b:ME)
 | chain (op op':Cp) (a b c:ME)
 | tup (es:List ME)
 | lst (es:List ME)
 | idx (a i:ME)
 | slice (a lo hi:ME)
 | blt (b:Blt) (es:List ME)
 | call (f:Nat) (es:List ME)
 | callD (f:Nat) (es:List ME) (d:List Sc)
 | comp (k:Sk) (src:List ME) (js:List Nat) (cond elt:ME)
 | dget (a k d:ME)
 | dat (a k:ME)
 | dIn (neg:Bool) (k a:ME)
 | fld (i n:Nat)
 | fldL (i:Nat)
 | inO (neg:Bool) (e:ME) (i:Nat)
 | callM (f i:Nat) (es:List ME)
 | comp2 (src:List ME) (js:List Nat) (cond elt:ME)
 | callV (f:Nat) (es:List ME)
 deriving Inhabited
noncomputable def cB:List PV->Option (List Int)
 | []=>some []
 | .int i::r=>(cB r).map (i::·)
 | _=>none
noncomputable def nL:List PV->Option (List (List Int))
 | []=>some []
 | .tup xs::r=>(cB xs).bind λx=>(nL r).map (x::·)
 | _=>none
noncomputable def gm:List PV->Option (List Bool)
 | []=>some []
 | .bl i::r=>(gm r).map (i::·)
 | _=>none
noncomputable def t4:PV->PV->Option (Option Sc)
 | .dI (.k kvs),.int i=>some (bE kvs i)
 | .dI (.t kvs),.tup xs=>(cB xs).map (bE kvs)
 | _,_=>none
noncomputable def rP:DD->PV->Sc->Option DD
 | .k kvs,.int i,s=>if kvs.length<10000 then some (.k (bU kvs i s))else none
 | .t kvs,.tup xs,s=>(cB xs).bind λk=>if kvs.length<10000 then some (.t (bU kvs k s))else none
 | _,_,_=>none
noncomputable def dSc:DD->List Sc
 | .k kvs=>kvs.map (·.2)
 | .t kvs=>kvs.map (·.2)
noncomputable def vk(d:DD):List PV:=(dSc d).map Sc.pv
noncomputable def lexLt:List Int->List Int->Bool
 | [],[]=>false
 | [],_::_=>true
 | _::_,[]=>false
 |x::xs,y::ys=>if x=y then lexLt xs ys else decide (x<y)
noncomputable def yG(x:Int):List Int->List Int
 | []=>[x]
 |y::r=>if y<x then y::yG x r else x::y::r
noncomputable def sortI:List Int->List Int
 | []=>[]
 |x::r=>yG x (sortI r)
noncomputable def yH(x:List Int):List (List Int)->List (List Int)
 | []=>[x]
 |y::r=>if lexLt y x=true then y::yH x r else x::y::r
noncomputable def sortT:List (List Int)->List (List Int)
 | []=>[]
 |x::r=>yH x (sortT r)
noncomputable def dd:List Int->List Int
 | []=>[]
 |x::r=>if x∈dd r then dd r else x::dd r
noncomputable def ke{α:Type}(f:Int->Int->Option α):PV->PV->Option α
 | .int i,.int j=>f i j
 | _,_=>none
noncomputable def C3:PV->PV->Option PV
 | .int i,.int j=>some (.int (i+j))
 | .lst a,.lst b=>if a.length+b.length<=10000 then some (.lst (a++b))else none
 | .tup a,.tup b=>if a.length+b.length<=10000 then some (.tup (a++b))else none
 | .str a,.str b=>if a.length+b.length<=1000000 then some (.str (a++b))else none
 | _,_=>none
noncomputable def gG(op:Op2):PV->PV->Option PV:=match op with
 | .add=>C3
 | .sub=>ke λi j=>some (.int (i-j))
 | .mul=>ke λi j=>if (-(2 ^ 64)<i/\i<2 ^ 64)\/(-(2 ^ 64)<j/\j<2 ^ 64)then some (.int (i*j))else none
 | .fdiv=>ke λi j=>if 0<j/\j<1073741824 then some (.int (i / j))else none
 | .mod=>ke λi j=>if 0<j then some (.int (i % j))else none
 | .pow=>ke λi j=>if 0<=j/\j<=1000000/\i.natAbs<2 ^ 64 then some (.int (i ^ j.toNat))else none
 | .shr=>ke λi j=>if 0<=j then some (.int (i / 2 ^ j.toNat))else none
noncomputable def iG:PV->Bool
 | .non=>true
 | _=>false
noncomputable def isIn(x:PV)(xs:List PV):Option Bool:=inL (λy=>eqF 100 y x) xs
noncomputable def Hl(a b:PV):Option Bool:=match b with
 | .non=>some (iG a)
 | .bl q=>(match a with|.bl p=>some (p==q)|_=>none)
 | _=>none
noncomputable def b_:PV->Option (List PV)
 | .tup xs=>some xs
 | .lst xs=>some xs
 | _=>none
noncomputable def jd:PV->Option (List PV)
 | .lst xs=>some xs
 | _=>none
noncomputable def cN(op:Cp):PV->PV->Option Bool:=match op with
 | .eq=>eqF 100
 | .ne=>λa b=>if tZ a b=true then(eqF 100 a b).map λp=>!p else none
 | .lt=>ke λi j=>some (decide (i<j))
 | .le=>ke λi j=>some (decide (i<=j))
 | .gt=>ke λi j=>some (decide (j<i))
 | .ge=>ke λi j=>some (decide (j<=i))
 | .isN=>Hl
 | .notN=>λa b=>(Hl a b).map λp=>!p
 | .isIn=>λa b=>(b_ b).bind (isIn a)
 | .notIn=>λa b=>((b_ b).bind (isIn a)).map λp=>!p
noncomputable def place(n:Nat)(i:Int):Option Nat:=
 if 0<=i then(if i<n then some i.toNat else none)else if -(n:Int)<=i then some (i+n).toNat else none
noncomputable def kf:PV->PV->Option PV
 | .tup xs,.int i=>(place xs.length i).bind λj=>xs[j]?
 | .lst xs,.int i=>(place xs.length i).bind λj=>xs[j]?
 | _,_=>none
noncomputable def fY(n d:Nat):Option Int->Nat
 |none=>d
 |some i=>if i<0 then(i+n).toNat else min i.toNat n
noncomputable def cut(xs:List PV)(lo hi:Option Int):List PV:=(xs.drop (fY xs.length 0 lo)).take (fY xs.length xs.length hi-fY xs.length 0 lo)
noncomputable def kg:PV->Option Int->Option Int->Option PV
 | .lst xs,lo,hi=>some (.lst (cut xs lo hi))
 | .tup xs,lo,hi=>some (.tup (cut xs lo hi))
 | _,_,_=>none
noncomputable def bnd:ME->PV->Option (Option Int)
 | .cst .non,_=>some none
 | _,.int i=>some (some i)
 | _,_=>none
noncomputable def Hm:List Int->Option Int
 | []=>none
 |x::r=>some (r.foldl (λa b=>if a<b then b else a) x)
noncomputable def iH(xs:List PV):Option PV:=
 if xs.length<64 then
  match cB xs with
  |some ns=>some (.lst ((sortI ns).map .int))
  |none=>(nL xs).map λq=>.lst ((sortT q).map λt=>.tup (t.map .int))
 else none
noncomputable def isT(b:Blt):PV->Bool
 | .int _=>b==.isInt
 | .bl _=>b==.isInt||b==.isBool
 | .str _=>b==.isStr
 | .lst _=>b==.isList
 | .tup _=>b==.isTuple
 | .non=>false
 | .dI _=>false
noncomputable def isD:PV->Bool
 | .dI _=>true
 | _=>false
noncomputable def c8(vs:List PV)(f:PV->Option PV):Option PV:=match vs with
 | [a]=>f a
 | _=>none
noncomputable def nM(vs:List PV)(f:PV->PV->Option PV):Option PV:=match vs with
 | [a,b]=>f a b
 | _=>none
noncomputable def jz(b:Blt)(vs:List PV):Option PV:=c8 vs λa=>if isD a=true then none else some (.bl (isT b a))
noncomputable def C4:PV->Option PV
 | .tup xs=>some (.int xs.length)
 | .lst xs=>some (.int xs.length)
 | .dI (.k kvs)=>some (.int kvs.length)
 | _=>none
noncomputable def aM(b:Blt)(vs:List PV):Option PV:=match b with
 | .len=>c8 vs C4
 | .tupleOf=>c8 vs λa=>(b_ a).map .tup
 | .listOf=>c8 vs λa=>(b_ a).map .lst
 | .sorted=>c8 vs λa=>(b_ a).bind iH
 | .any=>c8 vs λa=>(jd a).bind λxs=>(gm xs).map λbs=>.bl (bs.any id)
 | .all=>c8 vs λa=>(jd a).bind λxs=>(gm xs).map λbs=>.bl (bs.all id)
 | .sum=>c8 vs λa=>(jd a).bind λxs=>(cB xs).map λns=>.int ns.sum
 | .max1=>c8 vs λa=>(jd a).bind λxs=>(cB xs).bind λns=>(Hm ns).map .int
 | .min1=>none
 | .max2=>nM vs (ke λi j=>some (.int (if j > i then j else i)))
 | .min2=>nM vs (ke λi j=>some (.int (if j<i then j else i)))
 | .intOf=>c8 vs λa=>match a with|.int i=>some (.int i)|.bl b=>some (.int (if b then 1 else 0))|_=>none
 | .boolOf=>c8 vs λa=>match a with|.bl b=>some (.bl b)|_=>none
 | .isInt=>jz .isInt vs
 | .isBool=>jz .isBool vs
 | .isStr=>jz .isStr vs
 | .isList=>jz .isList vs
 | .isTuple=>jz .isTuple vs
 | .sortedSet=>c8 vs λa=>(b_ a).bind λxs=>(cB xs).bind λns=>if ns.length<=4000/\(dd ns).length<64 then some (.lst ((sortI (dd ns)).map .int))else none
 | .lenSet=>c8 vs λa=>(b_ a).bind λxs=>(cB xs).bind λns=>if ns.length<=4000 then some (.int (dd ns).length)else none
 | .lenSetSub=>nM vs λa b=>(b_ a).bind λxs=>(cB xs).bind λns=>(b_ b).bind λys=>(cB ys).bind λms =>
   if ns.length<=4000/\ms.length<=4000/\(dd ns).length<=60 then some (.int ((dd ns).filter λn=>!decide (n∈ms)).length)else none
 | .sortedKeys=>c8 vs λa=>match a with|.dI (.k kvs)=>if kvs.length<64 then some (.lst ((sortI (kvs.map (·.1))).map .int))else none|_=>none
 | .tupleRev=>c8 vs λa=>(jd a).map λxs=>.tup xs.reverse
 | .valuesOf=>c8 vs λa=>match a with|.dI d=>if (vk d).length<=10000 then some (.lst (vk d))else none|_=>none
noncomputable def dF(n:Nat):List PV->List PV
 | []=>[]
 |x::r=>.tup [.int (n:Nat),x]::dF (n+1) r
noncomputable def bq:Sk->List PV->Option (List PV)
 | .seq,[a]=>b_ a
 | .rng,[.int j]=>if -(2 ^ 62)<=j/\j<2 ^ 62 then some ((range j.toNat).map λ(k:Nat)=>.int ((0:Int)+k))else none
 | .rng,[.int i,.int j]=>if -(2 ^ 62)<=i/\i<2 ^ 62/\-(2 ^ 62)<=j/\j<2 ^ 62 then some ((range (j-i).toNat).map λ(k:Nat)=>.int (i+k))else none
 | .enm,[a]=>(b_ a).map (dF 0)
 | .rev,[.lst xs]=>some xs.reverse
 | _,_=>none
noncomputable def fB(c:PV->Option Bool)(f:PV->Option PV):List PV->Option (List PV)
 | []=>some []
 |x::r=>(c x).bind λb=>if b=true then(f x).bind λy=>(fB c f r).map (y::·)else fB c f r
noncomputable def ba:PV->Option Bool
 | .bl b=>some b
 | _=>none
noncomputable abbrev Cal:=Nat->List MV->Option PV
noncomputable def yI:Option MV->Option PV
 |some (.val v)=>some v
 | _=>none
noncomputable def bY:Option MV->Option PV
 |some (.val v)=>some v
 |some (.own xs)=>some (.lst xs)
 |some (.brw xs)=>some (.lst xs)
 |some (.ownD kvs)=>some (.dI kvs)
 |some (.brwD kvs)=>some (.dI kvs)
 |some (.ownO _ _ _)=>none
 |some (.brwO _ _)=>none
 |none=>none
noncomputable def fZ:Option MV->Option MV
 |some (.val v)=>some (.val v)
 |some (.own xs)=>some (.brw xs)
 |some (.brw xs)=>some (.brw xs)
 |some (.ownD xs)=>some (.brwD xs)
 |some (.brwD xs)=>some (.brwD xs)
 |some (.ownO _ fs xs)=>some (.brwO fs xs)
 |some (.brwO fs xs)=>some (.brwO fs xs)
 |none=>none
noncomputable def dY:Option MV->Option MV
 |some (.own xs)=>some (.brw xs)
 |some (.ownD xs)=>some (.brwD xs)
 |some (.ownO _ fs xs)=>some (.brwO fs xs)
 |o=>o
noncomputable def dX(js:List Nat)(G:Rho)(x:PV):Rho:=some (.val x)::js.map λj=>dY (G[j]?).join
noncomputable def mx:Option MV->Option (List PV×List PV)
 |some (.ownO _ fs xs)=>some (fs,xs)
 |some (.brwO fs xs)=>some (fs,xs)
 | _=>none
noncomputable def vm:Option MV->Option PV
 |some (.brwO _ xs)=>some (.lst xs)
 | _=>none
noncomputable def unB:MV->MV
 | .brw xs=>.val (.lst xs)
 |m=>m
noncomputable def Hn(js:List Nat)(G:Rho):PV->Rho
 | .tup [a,b]=>some (.val a)::some (.val b)::js.map λj=>dY (G[j]?).join
 | _=>[]
noncomputable def C5:Option MV->Option PV
 |some (.ownO _ _ xs)=>some (.lst xs)
 | _=>none
mutual
noncomputable def ev(cal:Cal):ME->Rho->Option PV
 | .var i,G=>yI (G[i]?).join
 | .bor i,G=>bY (G[i]?).join
 | .cst v,_=>some v
 | .glob _ v,_=>some v
 | .bin op a b,G=>(ev cal a G).bind λx=>(ev cal b G).bind λy=>gG op x y
 | .neg a,G=>(ev cal a G).bind λx=>match x with|.int i=>some (.int (-i))|_=>none
 | .not a,G=>((ev cal a G).bind ba).map λb=>.bl (!b)
 | .and a b,G=>((ev cal a G).bind ba).bind λc=>if c=true then(ev cal b G).bind λy=>(ba y).map .bl else some (.bl false)
 | .or a b,G=>((ev cal a G).bind ba).bind λc=>if c=true then some (.bl true)else(ev cal b G).bind λy=>(ba y).map .bl
 | .ite c a b,G=>((ev cal c G).bind ba).bind λk=>if k=true then ev cal a G else ev cal b G
 | .cmp op a b,G=>(ev cal a G).bind λx=>(ev cal b G).bind λy=>(cN op x y).map .bl
 | .chain op q a b c,G=>(ev cal a G).bind λx=>(ev cal b G).bind λy=>(cN op x y).bind λk=>if k=true then(ev cal c G).bind λz=>(cN q y z).map .bl else some (.bl false)
 | .tup es,G=>(evs cal es G).bind λvs=>if vs.length<=10000 then some (.tup vs)else none
 | .lst es,G=>(evs cal es G).bind λvs=>if vs.length<=10000 then some (.lst vs)else none
 | .idx a i,G=>(ev cal a G).bind λx=>(ev cal i G).bind λy=>kf x y
 | .slice a lo hi,G=>(ev cal a G).bind λx=>((ev cal lo G).bind λl=>bnd lo l).bind λl=>((ev cal hi G).bind λh=>bnd hi h).bind λh=>kg x l h
 | .blt b es,G=>(evs cal es G).bind λvs=>aM b vs
 | .call f es,G=>(evA cal es G).bind λvs=>cal f vs
 | .callD f es d,G=>(evA cal es G).bind λvs=>cal f (vs++d.map λx=>.val x.pv)
 | .comp k src js cond elt,G=>(evs cal src G).bind λvs=>(bq k vs).bind λxs =>
   if xs.length<=10000 then(fB (λx=>(ev cal cond (dX js G x)).bind ba) (λx=>ev cal elt (dX js G x)) xs).map .lst else none
 | .dget a k d,G=>(ev cal a G).bind λx=>(ev cal k G).bind λy=>(ev cal d G).bind λz=>(t4 x y).bind λo=>(sc? z).map λs=>(o.getD s).pv
 | .dat a k,G=>(ev cal a G).bind λx=>(ev cal k G).bind λy=>(t4 x y).bind λo=>o.map Sc.pv
 | .dIn neg k a,G=>(ev cal k G).bind λy=>(ev cal a G).bind λx=>(t4 x y).map λo=>.bl (if neg=true then !o.isSome else o.isSome)
 | .fld i n,G=>(mx (G[i]?).join).bind λo=>o.1[n]?
 | .fldL i,G=>vm (G[i]?).join
 | .inO neg e i,G=>(ev cal e G).bind λy=>(C5 (G[i]?).join).bind λx=>(cN (if neg=true then .notIn else .isIn) y x).map .bl
 | .callM f i es,G=>(mx (G[i]?).join).bind λo=>(evA cal es G).bind λvs=>cal f (.brwO o.1 o.2::vs)
 | .callV f es,G=>(evA cal es G).bind λvs=>(cal f (vs.map unB)).bind λr=>(sc? r).map λ_=>r
 | .comp2 src js cond elt,G=>(evs cal src G).bind λvs=>(bq sk2 vs).bind λxs =>
   if xs.length<=10000 then(fB (λx=>(ev cal cond (Hn js G x)).bind ba) (λx=>ev cal elt (Hn js G x)) xs).map .lst else none
noncomputable def evs(cal:Cal):List ME->Rho->Option (List PV)
 | [],_=>some []
 |e::es,G=>(ev cal e G).bind λv=>(evs cal es G).map (v::·)
noncomputable def evA(cal:Cal):List ME->Rho->Option (List MV)
 | [],_=>some []
 | .bor i::es,G=>(fZ (G[i]?).join).bind λv=>(evA cal es G).map (v::·)
 | .fldL _::_,_=>none
 |e::es,G=>(ev cal e G).bind λv=>(evA cal es G).map (MV.val v::·)
end
noncomputable def evB(cal:Cal)(e:ME)(G:Rho):Option Bool:=(ev cal e G).bind ba
set_option genInjectivity false in
inductive MS where
 | set (i:Nat) (e:ME)
 | setOwn (i:Nat) (e:ME)
 | freeze (i:Nat)
 | append (i:Nat) (e:ME)
 | extend (i:Nat) (e:ME)
 | mkO (i:Nat) (es:List ME)
 | appO (i:Nat) (e:ME)
 | retT (e:ME)
 | takeO (j:Option Nat) (i f:Nat) (es:List ME)
 | setIdx (i:Nat) (k v:ME)
 | unpack (is:List Nat) (e:ME)
 | expr (e:ME)
 | ite (c:ME) (a b:List MS)
 | for1 (i:Nat) (k:Sk) (src:List ME) (body:List MS)
 | forT (is:List Nat) (k:Sk) (src:List ME) (body:List MS)
 | while (n:Nat) (c:ME) (body:List MS)
 | ret (e:ME)
 | retOwn (i:Nat)
 | retN
 | brk
 | cont
 | pass
 | never
 | newD (m:Bool) (i:Nat)
 | retF (e:ME)
 | setCall (i f:Nat) (es:List ME)
 | clear (i:Nat)
 | dput (i:Nat) (k v:ME)
 deriving Inhabited
inductive R where
 | next (G:Rho)|brk (G:Rho)|cont (G:Rho)|ret (v:PV)|bad
 | retF (xs:List PV)
 | retT (v:Sc) (G:Rho)
 deriving Inhabited
noncomputable def R.andThen:R->(Rho->R)->R
 | .next G,k=>k G
 |r,_=>r
noncomputable def put(G:Rho)(i:Nat)(v:MV):Rho:=G.set i (some v)
noncomputable def eJ(o:Option PV)(k:PV->R):R:=match o with
 |some v=>k v
 |none=>.bad
noncomputable def yJ(o:Option Bool)(k:Bool->R):R:=match o with
 |some v=>k v
 |none=>.bad
noncomputable def t5:List Nat->List PV->Rho->Option Rho
 | [],[],G=>some G
 |i::is,v::vs,G=>t5 is vs (put G i (.val v))
 | _,_,_=>none
noncomputable def im(is:List Nat):PV->Rho->Option Rho
 | .tup vs,G=>t5 is vs G
 | _,_=>none
noncomputable def dG(o:Option Rho)(f:Rho->R):R:=match o with
 |some G=>f G
 |none=>.bad
noncomputable def aQ(body:PV->Rho->R):List PV->Rho->R
 | [],G=>.next G
 |x::r,G=>match body x G with
  | .next A=>aQ body r A
  | .cont A=>aQ body r A
  | .brk A=>.next A
  | .ret v=>.ret v
  | .bad=>.bad
  | .retF xs=>.retF xs
  | .retT v A=>.retT v A
noncomputable def qm(c:Rho->Option Bool)(body:Rho->R):Nat->Rho->R
 |0,_=>.bad
 |n+1,G=>match c G with
  |none=>.bad
  |some false=>.next G
  |some true=>match body G with
   | .next A=>qm c body n A
   | .cont A=>qm c body n A
   | .brk A=>.next A
   | .ret v=>.ret v
   | .bad=>.bad
   | .retF xs=>.retF xs
   | .retT v A=>.retT v A
noncomputable def br(src:List ME)(G:Rho):Rho:=match src with
 | [.bor i]=>(match (G[i]?).join with|some (.own xs)=>put G i (.brw xs)|_=>G)
 | _=>G
noncomputable def aS(src:List ME)(q G:Rho):Rho:=match src with
 | [.bor i]=>(match (q[i]?).join,(G[i]?).join with|some (.own _),some (.brw xs)=>put G i (.own xs)|_,_=>G)
 | _=>G
noncomputable def R.back(src:List ME)(q:Rho):R->R
 | .next G=>.next (aS src q G)
 | .brk G=>.brk (aS src q G)
 | .cont G=>.cont (aS src q G)
 | .retT v G=>.retT v (aS src q G)
 |r=>r
noncomputable def isL:MV->Bool
 | .ownO _ _ _=>true
 | _=>false
noncomputable def yK(G:Rho)(i:Nat):Bool:=(G.set i none).all λo=>match o with|some m=>!isL m|none=>true
noncomputable def wI:List PV->Option (List PV)
 | [.tup [c,r],o]=>some [c,r,o]
 | [.tup [c,r]]=>some [c,r,.str "weaver"]
 | _=>none
mutual
noncomputable def ex(cal:Cal):MS->Rho->R
 | .set i e,G=>eJ (ev cal e G) λv=>.next (put G i (.val v))
 | .setOwn i e,G=>eJ (ev cal e G) λv=>match v with|.lst xs=>.next (put G i (.own xs))|_=>.bad
 | .freeze i,G=>match (G[i]?).join with|some (.own xs)=>.next (put G i (.val (.lst xs)))|some _=>.next G|none=>.bad
 | .append i e,G=>eJ (ev cal e G) λv=>match (G[i]?).join with
  |some (.own xs)=>if xs.length<10000 then .next (put G i (.own (xs++[v])))else .bad
  | _=>.bad
 | .extend i e,G=>eJ (ev cal e G) λv=>match (G[i]?).join,b_ v with
  |some (.own xs),some ys=>if xs.length+ys.length<=10000 then .next (put G i (.own (xs++ys)))else .bad
  | _,_=>.bad
 | .mkO i es,G=>match (evs cal es G).bind wI with
  |some fs=>if yK G i=true/\cal 4000 []≠none then .next (put G i (.ownO false fs []))else .bad
  |none=>.bad
 | .appO i e,G=>eJ (ev cal e G) λv=>match (G[i]?).join with
  |some (.ownO m fs xs)=>if xs.length<10000 then .next (put G i (.ownO m fs (xs++[v])))else .bad
  | _=>.bad
 | .retT e,G=>eJ (ev cal e G) λv=>match sc? v with
  |some s=>.retT s G
  |none=>.bad
 | .takeO j i f es,G=>match (G[i]?).join with
  |some (.ownO m fs xs)=>(match (evs cal es G).bind λvs=>cal (f+3000) (.ownO true fs xs::vs.map .val)with
   |some (.tup [v,.lst ys])=>(match sc? v with
    |some _=>(match j with
     |some j=>if i=j then .bad else .next (put (put G i (.ownO m fs ys)) j (.val v))
     |none=>.next (put G i (.ownO m fs ys)))
    |none=>.bad)
   | _=>.bad)
  | _=>.bad
 | .setIdx i k v,G=>eJ (ev cal v G) λv=>eJ (ev cal k G) λk=>match (G[i]?).join,k with
  |some (.own xs),.int k=>(match place xs.length k with|some j=>.next (put G i (.own (xs.set j v)))|none=>.bad)
  | _,_=>.bad
 | .unpack is e,G=>eJ (ev cal e G) λv=>dG (im is v G) .next
 | .expr e,G=>eJ (ev cal e G) λ_=>.next G
 | .ite c a b,G=>yJ (evB cal c G) λk=>if k=true then exs cal a G else exs cal b G
 | .for1 i k src body,G=>match (evs cal src G).bind (bq k)with
  |some xs=>(aQ (λx A=>exs cal body (put A i (.val x))) xs (br src G)).back src G
  |none=>.bad
 | .forT is k src body,G=>match (evs cal src G).bind (bq k)with
  |some xs=>(aQ (λx A=>dG (im is x A) λq=>exs cal body q) xs (br src G)).back src G
  |none=>.bad
 | .while n c body,G=>qm (evB cal c) (λA=>exs cal body A) n G
 | .ret e,G=>eJ (ev cal e G) .ret
 | .retOwn i,G=>match (G[i]?).join with|some (.own xs)=>.ret (.lst xs)|some (.ownD kvs)=>.ret (.dI kvs)|some (.val v)=>.ret v|_=>.bad
 | .newD m i,G=>.next (put G i (.ownD (if m=true then .t []else .k [])))
 | .dput i k v,G=>eJ (ev cal v G) λv=>eJ (ev cal k G) λk=>match (G[i]?).join,sc? v with
  |some (.ownD d),some s=>match rP d k s with|some d'=>.next (put G i (.ownD d'))|none=>.bad
  | _,_=>.bad
 | .retF e,G=>eJ (ev cal e G) λv=>match v with|.lst xs=>.retF xs|_=>.bad
 | .setCall i f es,G=>eJ ((evA cal es G).bind λvs=>cal (f+1000) vs) λv=>match v with|.lst xs=>.next (put G i (.own xs))|_=>.bad
 | .clear i,G=>match (G[i]?).join with|some (.own _)=>.next (put G i (.own []))|_=>.bad
 | .retN,_=>.ret .non
 | .brk,G=>.brk G
 | .cont,G=>.cont G
 | .pass,G=>.next G
 | .never,_=>.bad
noncomputable def exs(cal:Cal):List MS->Rho->R
 | [],G=>.next G
 |s::ss,G=>(ex cal s G).andThen λA=>exs cal ss A
end
structure MD where
 name:Str
 params:List Str
 names:List Str
 body:List MS
 meth:Option Str:=none
 deriving Inhabited
noncomputable def wJ:Sc->Rho->Option PV
 |v,some (.ownO true _ xs)::_=>some (.tup [v.pv,.lst xs])
 | _,_=>none
noncomputable def ab(ds:List MD):Nat->Cal
 |0,_,_=>none
 |n+1,f,args=>match ds[f]? with
  |none=>if f=4000 then(if 1<=n then some (.bl true)else none)else if 2000<=f then(
   match ds[f-3000]? with
   |none=>none
   |some d=>if args.length=d.params.length then
     (match exs (ab ds n) d.body (args.map some++replicate (d.names.length-args.length) none)with
     | .retT v G=>wJ v G
     | _=>none)else none)else
   (match ds[f-1000]? with
   |none=>none
   |some d=>if args.length=d.params.length then
     (match exs (ab ds n) d.body (args.map some++replicate (d.names.length-args.length) none)with
     | .retF xs=>some (.lst xs)
     | _=>none)else none)
  |some d=>if args.length=d.params.length then
    (match exs (ab ds n) d.body (args.map some++replicate (d.names.length-args.length) none)with
    | .next _=>some .non
    | .ret v=>some v
    | .retF xs=>some (.lst xs)
    | _=>none)else none
end MM
namespace MM
open PySem PySem.Spec PyProof.Rows L2 List Option
noncomputable abbrev St:=L2.St
noncomputable def aj(H:Hp)(O:List Addr):Hp:=λb=>if b∈O then none else H b
def ez(h:b∈O):aj H O b=none:=if_pos h
def a9(h:b∉O):aj H O b=H b:=if_neg h
theorem af.rd(s:af H H')(h:Rd H a u):Rd H' a u:=h.elim (λe=>.inl (s a _ e)) λq=>GO q λo e=>.inr ⟨o,s a _ e⟩
def be(H)(O):af (aj H O) H:=λb u e=>by
 unfold aj at e
 simp_all
def bi(s:af H H')(h:∀b∈O',b∈O\/H b=none):af (aj H O) (aj H' O'):=λb u e=>by
 have D:b∉O:=λz=>by rw[ez z]at e;exact bc e
 rw[a9 D]at e;rw[a9]
 .exact s b u e
 .intro z;rcases h b z with q|q
  .exact D q
  .rw[q]at e;exact bc e
def ak(s:af H H'):af (aj H O) (aj H' O):=bi s λ_ h=>.inl h
noncomputable def Sc.v:Sc->V
 | .non=>.non
 | .bl b=>.bl b
 | .int i=>.int i
 | .str x=>.str x
noncomputable def gJ(kvs:List (Int×Sc)):List (Key×V):=kvs.map λp=>(Sum.inl p.1,p.2.v)
noncomputable def kh(kvs:List (List Int×Sc)):List (List Key×V):=kvs.map λp=>(p.1.map Sum.inl,p.2.v)
noncomputable def my:DD->HO
 | .k kvs=>.dK (gJ kvs)
 | .t kvs=>.dT (kh kvs)
abbrev RdD(F:Hp)(a:Addr)(d:DD):Prop:=Rd F a (my d)
theorem RdD.rd(h:RdD F a d):Rd F a (my d):=h
theorem af.rdD(s:af H H')(h:RdD H a d):RdD H' a d:=af.rd s h
mutual
noncomputable def Rep(K:M5)(F:Hp):PV->V->Prop
 | .non,u=>u=.non
 | .bl b,u=>u=.bl b
 | .int i,u=>u=.int i
 | .str x,u=>u=.str x
 | .tup xs,u=>∃a us,u=.ref a/\F a=some (.tup us)/\Reps K F xs us
 | .lst xs,u=>∃a us,u=.ref a/\SqL K F a us/\Reps K F xs us
 | .dI kvs,u=>∃a,u=.ref a/\RdD F a kvs
noncomputable def Reps(K:M5)(F:Hp):List PV->List V->Prop
 | [],us=>us=[]
 |x::xs,us=>∃u r,us=u::r/\Rep K F x u/\Reps K F xs r
end
section
variable{K:M5}{F F':Hp}
mutual
theorem Rep.mono(s:af F F'):∀(x:PV) {u:V},Rep K F x u->Rep K F' x u
 | .non,_,h=>by simpa only[Rep]using h
 | .bl _,_,h=>by simpa only[Rep]using h
 | .int _,_,h=>by simpa only[Rep]using h
 | .str _,_,h=>by simpa only[Rep]using h
 | .tup xs,_,h=>by
  refine au h λa us e q r=>?_
  exact⟨a,us,e,s a _ q,Reps.mono s xs r⟩
 | .lst xs,_,h=>by
  refine au h λa us e q r=>?_
  exact⟨a,us,e,s.seq q,Reps.mono s xs r⟩
 | .dI kvs,_,h=>by
  refine ae h λa e q=>?_
  exact⟨a,e,af.rdD s q⟩
theorem Reps.mono(s:af F F'):∀(xs:List PV) {us:List V},Reps K F xs us->Reps K F' xs us
 | [],_,h=>by simpa only[Reps]using h
 |x::xs,_,h=>by
  refine au h λu r e q t=>?_
  exact⟨u,r,e,Rep.mono s x q,Reps.mono s xs t⟩
end
theorem Reps.nil:Reps K F [] []:=rfl
theorem Reps.cons{u:V}{us:List V}(h:Rep K F x u)(t:Reps K F xs us):Reps K F (x::xs) (u::us):=by
 rw[Reps];exact⟨u,us,rfl,h,t⟩
theorem Reps.length:∀{xs}{us},Reps K F xs us->xs.length=us.length
 | [],_,h=>by rw[Reps]at h;subst h;rfl
 |x::xs,_,h=>by
  refine au h λu r e _ t=>?_
  subst e;simp[Reps.length t]
theorem Reps.get:∀{xs}{us}{i:Nat}{x},Reps K F xs us->xs[i]?=some x->∃u,us[i]?=some u/\Rep K F x u
 | [],_,_,_,_,e=>by injection e
 |x::xs,_,i,y,h,e=>by
  refine au h λu r z q t=>?_
  subst z;cases i with
  |zero=>simp at e;subst e;exact⟨u,by rfl,q⟩
  |succ i=>obtain⟨w,h1,h2⟩:=Reps.get (i:=i) t e;exact⟨w,by simpa using h1,h2⟩
theorem Reps.get':∀{xs}{us}{i:Nat}{u},Reps K F xs us->us[i]?=some u->∃x,xs[i]?=some x/\Rep K F x u
 | [],_,i,_,h,e=>by rw[Reps]at h;subst h;injection e
 |x::xs,_,i,y,h,e=>by
  refine au h λu r z q t=>?_
  subst z;cases i with
  |zero=>simp at e;subst e;exact⟨x,by rfl,q⟩
  |succ i=>obtain⟨w,h1,h2⟩:=Reps.get' (i:=i) t e;exact⟨w,by simpa using h1,h2⟩
theorem Reps.append:∀{xs ys}{us D},Reps K F xs us->Reps K F ys D->Reps K F (xs++ys) (us++D)
 | [],_,_,_,h,g=>by rw[Reps]at h;subst h;exact g
 |x::xs,_,_,_,h,g=>by
  refine au h λu r z q t=>?_
  subst z;exact .cons q (Reps.append t g)
theorem Reps.snoc(h:Reps K F xs us)(g:Rep K F x u):Reps K F (xs++[x]) (us++[u]):=h.append (.cons g .nil)
theorem Reps.take:∀{xs}{us} n,Reps K F xs us->Reps K F (xs.take n) (us.take n)
 | _,_,0,_=>by exact Reps.nil
 | [],_,n+1,h=>by rw[Reps]at h;subst h;exact Reps.nil
 |x::xs,_,n+1,h=>by
  refine au h λu r z q t=>?_
  subst z;exact .cons q (Reps.take n t)
theorem Reps.drop:∀{xs}{us} n,Reps K F xs us->Reps K F (xs.drop n) (us.drop n)
 | _,_,0,h=>h
 | [],_,n+1,h=>by rw[Reps]at h;subst h;exact Reps.nil
 |x::xs,_,n+1,h=>by
  refine au h λu r z q t=>?_
  subst z;exact Reps.drop n t
theorem Reps.set:∀{xs}{us}{x}{u} n,Reps K F xs us->Rep K F x u->Reps K F (xs.set n x) (us.set n u)
 | [],_,_,_,n,h,_=>by rw[Reps]at h;subst h;exact Reps.nil
 |x::xs,_,_,_,0,h,g=>by
  refine au h λu r z q t=>?_
  subst z;exact .cons g t
 |x::xs,_,_,_,n+1,h,g=>by
  refine au h λu r z q t=>?_
  subst z;exact .cons q (Reps.set n t g)
theorem Reps.ints:∀{ns:List Int}{us},Reps K F (ns.map .int) us->us=ns.map V.int
 | [],_,h=>by exact h
 |n::ns,_,h=>by
  refine au h λu r z q t=>?_
  subst z;rw[q,Reps.ints t];rfl
theorem Reps.of_ints:∀(ns:List Int),Reps K F (ns.map .int) (ns.map V.int)
 | []=>.nil
 |n::ns=>.cons (by rw[Rep]) (Reps.of_ints ns)
theorem iI:∀{xs}{ns},cB xs=some ns->xs=ns.map .int
 | [],_,h=>by simp[cB]at h;subst h;rfl
 | .int i::r,ns,h=>by
  simp[cB]at h;obtain⟨ms,h1,rfl⟩:=h;rw[iI h1];rfl
 | .non::_,_,h=>by injection h
 | .bl _::_,_,h=>by injection h
 | .str _::_,_,h=>by injection h
 | .tup _::_,_,h=>by injection h
 | .lst _::_,_,h=>by injection h
 | .dI _::_,_,h=>by injection h
theorem rQ:∀{xs}{ns},nL xs=some ns->xs=ns.map λt=>.tup (t.map .int)
 | [],_,h=>by simp[nL]at h;subst h;rfl
 | .tup i::r,ns,h=>by
  simp[nL,ll]at h;obtain⟨t,h0,ms,h1,rfl⟩:=h;rw[rQ h1,iI h0];rfl
 | .non::_,_,h=>by injection h
 | .bl _::_,_,h=>by injection h
 | .str _::_,_,h=>by injection h
 | .int _::_,_,h=>by injection h
 | .lst _::_,_,h=>by injection h
 | .dI _::_,_,h=>by injection h
theorem lv:∀{xs}{ns},gm xs=some ns->xs=ns.map .bl
 | [],_,h=>by simp[gm]at h;subst h;rfl
 | .bl i::r,ns,h=>by
  simp[gm]at h;obtain⟨ms,h1,rfl⟩:=h;rw[lv h1];rfl
 | .non::_,_,h=>by injection h
 | .int _::_,_,h=>by injection h
 | .str _::_,_,h=>by injection h
 | .tup _::_,_,h=>by injection h
 | .lst _::_,_,h=>by injection h
 | .dI _::_,_,h=>by injection h
end
def eP{K:M5}{H:Hp}{a:Addr}{us:List V}(h:H a=some (.tup us)):SqT K H a us:=SqT.of h
def bQ(K:M5)(H:Hp)(O:List Addr)(v:PV)(u:V):Prop:=
 Rep K (aj H O) v u\/(∃xs a us,v=.lst xs/\u=.ref a/\SqL K H a us/\Reps K (aj H O) xs us)\/∃kvs a,v=.dI kvs/\u=.ref a/\RdD H a kvs
section
variable{K:M5}{H H':Hp}{O:List Addr}
theorem bQ.of(h:Rep K (aj H O) v u):bQ K H O v u:=.inl h
theorem bQ.mono(s:af H H')(h:bQ K H O v u):bQ K H' O v u:=by
 rcases h with h|⟨xs,a,us,z,D,q,r⟩|⟨kvs,a,z,D,q⟩
 .exact .inl (Rep.mono (ak s) _ h)
 .exact .inr (.inl ⟨xs,a,us,z,D,s.seq q,Reps.mono (ak s) _ r⟩)
 .exact .inr (.inr ⟨kvs,a,z,D,af.rdD s q⟩)
theorem bQ.lst(h:bQ K H O (.lst xs) u):∃a us,u=.ref a/\SqL K H a us/\Reps K (aj H O) xs us:=by
 rcases h with h|⟨ys,a,us,z,D,q,r⟩|⟨kvs,a,z,D,q⟩
 .rw[Rep]at h;refine au h λa us e q r=>?_
  exact⟨a,us,e,(be H O).seq q,r⟩
 .cases z;exact⟨a,us,D,q,r⟩
 .cases z
def bQ.tupH(h:bQ K H O (.tup xs) u):∃a us,u=.ref a/\H a=some (.tup us)/\Reps K (aj H O) xs us:=by
 rcases h with h|⟨ys,a,us,z,D,q,r⟩|⟨kvs,a,z,D,q⟩
 .rw[Rep]at h;refine au h λa us e q r=>?_
  exact⟨a,us,e,be H O a _ q,r⟩
 .cases z
 .cases z
theorem bQ.tup(h:bQ K H O (.tup xs) u):∃a us,u=.ref a/\SqT K H a us/\Reps K (aj H O) xs us:=by
 refine au h.tupH λa us e q r=>?_
 exact⟨a,us,e,SqT.of q,r⟩
def bQ.tupR(h:bQ K H O (.tup xs) u):Rep K (aj H O) (.tup xs) u:=by
 rcases h with h|⟨ys,a,us,z,D,q,r⟩|⟨kvs,a,z,D,q⟩
 .exact h
 .cases z
 .cases z
theorem bQ.dI(h:bQ K H O (.dI kvs) u):∃a,u=.ref a/\RdD H a kvs:=by
 rcases h with h|⟨ys,a,us,z,D,q,r⟩|⟨kvs,a,z,D,q⟩
 .rw[Rep]at h;obtain⟨a,e,q⟩:=h;exact⟨a,e,af.rdD (be H O) q⟩
 .cases z
 .simp_all
theorem bQ.int(h:bQ K H O (.int i) u):u=.int i:=by
 rcases h with h|⟨ys,a,us,z,D,q,r⟩|⟨kvs,a,z,D,q⟩
 .rw[Rep]at h;exact h
 .cases z
 .cases z
theorem bQ.bl(h:bQ K H O (.bl i) u):u=.bl i:=by
 rcases h with h|⟨ys,a,us,z,D,q,r⟩|⟨kvs,a,z,D,q⟩
 .rw[Rep]at h;exact h
 .cases z
 .cases z
theorem bQ.str(h:bQ K H O (.str i) u):u=.str i:=by
 rcases h with h|⟨ys,a,us,z,D,q,r⟩|⟨kvs,a,z,D,q⟩
 .rw[Rep]at h;exact h
 .cases z
 .cases z
theorem bQ.non(h:bQ K H O .non u):u=.non:=by
 rcases h with h|⟨ys,a,us,z,D,q,r⟩|⟨kvs,a,z,D,q⟩
 .rw[Rep]at h;exact h
 .cases z
 .cases z
theorem bQ.seq(h:bQ K H O v u)(e:b_ v=some xs):∃a us,u=.ref a/\(SqL K H a us\/SqT K H a us)/\Reps K (aj H O) xs us:=by
 cases v<;>first|(simp[b_]at e;subst e;obtain⟨a,us,e,q,r⟩:=h.lst;exact⟨a,us,e,.inl q,r⟩)|(simp[b_]at e;subst e;obtain⟨a,us,e,q,r⟩:=h.tup;exact⟨a,us,e,.inr q,r⟩)|injection e
def bQ.whole(h:bQ K H O v u):Rep K H v u:=by
 rcases h with h|⟨xs,a,us,rfl,z,q,r⟩|⟨kvs,a,rfl,z,q⟩
 .exact Rep.mono (be H O) _ h
 .rw[Rep];exact⟨a,us,z,q,Reps.mono (be H O) _ r⟩
 .rw[Rep];exact⟨a,z,q⟩
end
def IsC (K:M5) (C:Addr):Prop:=PySem.W.nsIn K mainGlobals "Table"=some (some (.ref C))
noncomputable def jA:List Str:=["hole_count","ribbons","opener"]
noncomputable def pC:List Str:=["hand_at","holes_taken_by","turn","deeds","knots","bites","free","rest","winner","take","back"]
structure ObF(K:M5)(C:Addr)(F:Hp)(fs:List PV)(l:Addr)(gs:List (Str×V)):Prop where
 cls:IsC K C
 fld:∀(n:Nat) (x:Str) (v:PV),jA[n]?=some x->fs[n]?=some v->∃u,gs.lookup x=some u/\Rep K F v u
 lst:gs.lookup ("taken":Str)=some (.ref l)
 no:∀m∈pC,gs.lookup m=none
theorem ObF.mono{K:M5}{C:Addr}{F F':Hp}{fs:List PV}{l:Addr}{gs:List (Str×V)}(s:af F F')(h:ObF K C F fs l gs):ObF K C F' fs l gs:=
 ⟨h.cls,λn x v q z=>let ⟨u,q1,q2⟩:=h.fld n x v q z;⟨u,q1,Rep.mono s _ q2⟩,h.lst,h.no⟩
structure dH(K:M5)(B:Hp)(O:List Addr)(H:Hp)(fs xs:List PV)(a l:Addr):Prop where
 ob:∃C dx gs,H a=some (.ins C dx gs)/\ObF K C (aj H O) fs l gs
 li:∃us,H l=some (.lst us)/\Reps K (aj H O) xs us
 aO:a∈O
 lO:l∈O
 aB:B a=none
 lB:B l=none
 ne:a≠l
def dH.move{K:M5}{B B' H H':Hp}{O O':List Addr}{fs xs:List PV}{a l:Addr}(h:dH K B O H fs xs a l)(v:af (aj H O) (aj H' O'))(ha:∀o,H a=some o->H' a=some o)(q:∀o,H l=some o->H' l=some o)(aO:a∈O')(lO:l∈O')(aB:B' a=none)(lB:B' l=none):dH K B' O' H' fs xs a l:=by
 obtain⟨C,dx,gs,z,q1⟩:=h.ob;obtain⟨us,D,q2⟩:=h.li;exact⟨⟨C,dx,gs,ha _ z,q1.mono v⟩,⟨us,q _ D,Reps.mono v _ q2⟩,aO,lO,aB,lB,h.ne⟩
def d4(K:M5)(B F:Hp)(fs xs:List PV)(a:Addr):Prop:=∃C dx gs l us,B a=some (.ins C dx gs)/\ObF K C F fs l gs/\SqL K B l us/\Reps K F xs us
def d4.move{K:M5}{B B' F F':Hp}{fs xs:List PV}{a:Addr}(h:d4 K B F fs xs a)(b:af B B')(v:af F F'):d4 K B' F' fs xs a:=by
 obtain⟨C,dx,gs,l,us,q,q1,z,q2⟩:=h;exact⟨C,dx,gs,l,us,b _ _ q,q1.mono v,b.seq z,Reps.mono v _ q2⟩
def dH.lent{K:M5}{B H:Hp}{O:List Addr}{fs xs:List PV}{a l:Addr}(h:dH K B O H fs xs a l):d4 K H (aj H O) fs xs a:=by
 obtain⟨C,dx,gs,q,q1⟩:=h.ob;obtain⟨us,z,q2⟩:=h.li;exact⟨C,dx,gs,l,us,q,q1,SqL.of z,q2⟩
noncomputable def lOf:Option HO->Option Addr
 |some (.ins _ _ gs)=>(match gs.lookup ("taken":Str)with|some (.ref l)=>some l|_=>none)
 | _=>none
theorem dH.l{K:M5}{B H:Hp}{O:List Addr}{fs xs:List PV}{a l:Addr}(h:dH K B O H fs xs a l):lOf (H a)=some l:=by
 obtain⟨C,dx,gs,q,q1⟩:=h.ob;rw[q];show(match gs.lookup ("taken":Str)with|some (.ref l)=>some l|_=>none)=some l;rw[q1.lst]
abbrev DAt(_:M5)(H:Hp)(_:List Addr)(a:Addr)(d:DD):Prop:=H a=some (my d)
theorem DAt.here{K:M5}(h:DAt K H O a d):∃o,H a=some o:=⟨_,h⟩
theorem DAt.put1{K:M5}(_:rP d y s=some d')(h:DAt K H O a d):H a=some (my d):=h
theorem DAt.put2{K:M5}{H:Hp}{O:List Addr}{a:Addr}{d d':DD}{y:PV}{s:Sc}(_:rP d y s=some d')(h:H a=some (my d')):DAt K H O a d':=h
theorem DAt.move{K:M5}{H H':Hp}{O O':List Addr}{a:Addr}{d:DD}(h:DAt K H O a d)(e:∀o,H a=some o->H' a=some o)(_:af (aj H O) (aj H' O')):DAt K H' O' a d:=e _ h
def eQ(K:M5)(B:Hp)(O:List Addr)(H:Hp):MV->V->Prop
 | .val v,u=>Rep K (aj H O) v u
 | .own xs,u=>∃a us,u=.ref a/\H a=some (.lst us)/\Reps K (aj H O) xs us/\a∈O/\B a=none
 | .brw xs,u=>∃a us,u=.ref a/\SqL K B a us/\Reps K (aj H O) xs us
 | .ownD kvs,u=>∃a,u=.ref a/\DAt K H O a kvs/\a∈O/\B a=none
 | .ownO _ fs xs,u=>∃a l,u=.ref a/\dH K B O H fs xs a l
 | .brwO fs xs,u=>∃a,u=.ref a/\d4 K B (aj H O) fs xs a
 | .brwD kvs,u=>∃a,u=.ref a/\Rd B a (my kvs)
noncomputable def eR:MV->Bool
 | .own _=>true
 | .ownD _=>true
 | .ownO _ _ _=>true
 | _=>false
def Bx(H:Hp)(G:Rho)(σ:St):Prop:=∀(i:Nat) (m0:MV) (a l:Addr),G[i]?=some (some m0)->isL m0=true->σ[i]?=some (some (.ref a))->lOf (H a)=some l->∀(j:Nat) (m:MV),j≠i->G[j]?=some (some m)->isL m=false/\∀c,eR m=true->σ[j]?=some (some (.ref c))->c≠l
def nO{H:Hp}{G:Rho}{σ:St}(h:∀(i:Nat) (m:MV),G[i]?=some (some m)->isL m=false):Bx H G σ:=λi m _ _ e l=>by rw[h i m e]at l;cases l
def fC{H H':Hp}{G A:Rho}{σ z:St}(h:Bx H G σ)(hL:∀(i:Nat) (m0:MV),A[i]?=some (some m0)->isL m0=true->(∃m1,G[i]?=some (some m1)/\isL m1=true)/\z[i]?=σ[i]?/\∀a l,σ[i]?=some (some (.ref a))->lOf (H' a)=some l->lOf (H a)=some l)
  (hj:∀(j:Nat) (m:MV) (c:Addr),A[j]?=some (some m)->isL m=false->eR m=true->z[j]?=some (some (.ref c))->(∃m0,G[j]?=some (some m0)/\eR m0=true/\σ[j]?=some (some (.ref c)))\/∀(i:Nat) (m1:MV) (a l:Addr),G[i]?=some (some m1)->isL m1=true->σ[i]?=some (some (.ref a))->lOf (H a)=some l->c≠l):Bx H' A z:=λi m0 a l e1 l0 D e3 j m J e4=>by
 obtain⟨⟨m1,Y,Z⟩,f2,f3⟩:=hL i m0 e1 l0;rw[f2]at D;have f4:=f3 a l D e3;have hl:isL m=false:=by
  cases q:isL m with
  |false=>rfl
  |true =>
   obtain⟨⟨m2,g1,U⟩,_⟩:=hL j m e4 q;rw[(h i m1 a l Y Z D f4 j m2 J g1).1]at U;cases U
 refine⟨hl,λc o e5=>?_⟩;rcases hj j m c e4 hl o e5 with⟨m0,g1,U,g3⟩|g
 .exact(h i m1 a l Y Z D f4 j m0 J g1).2 c U g3
 .exact g i m1 a l Y Z D f4
structure aX(K:M5)(B:Hp)(E O:List Addr)(H:Hp)(G:Rho)(σ:St):Prop where
 keep:af B H
 here:∀a∈O,H a≠none
 sub:∀a∈E,a∈O
 old:∀a∈E,B a≠none
 len:G.length=σ.length
 slot:∀(i:Nat) (m:MV),G[i]?=some (some m)->∃u,σ[i]?=some (some u)/\eQ K B O H m u
 apart:∀(i j:Nat) (m m':MV) (a:Addr),i≠j->G[i]?=some (some m)->G[j]?=some (some m')->eR m=true->eR m'=true->σ[i]?=some (some (.ref a))->σ[j]?≠some (some (.ref a))
 inn:Bx H G σ
section
variable{K:M5}{B H H':Hp}{E O:List Addr}{G:Rho}{σ:St}
theorem eQ.mono(s:af H H'){m:MV}{u:V}(h:eQ K B O H m u):eQ K B O H' m u:=by
 cases m with
 |val v=>exact Rep.mono (ak s) _ h
 |own xs=>obtain⟨a,us,e,q,r,h1,h2⟩:=h;exact⟨a,us,e,s _ _ q,Reps.mono (ak s) _ r,h1,h2⟩
 |brw xs=>obtain⟨a,us,e,q,r⟩:=h;exact⟨a,us,e,q,Reps.mono (ak s) _ r⟩
 |ownD kvs=>obtain⟨a,e,q,h1,h2⟩:=h;exact⟨a,e,q.move (s _) (ak s),h1,h2⟩
 |ownO _ fs xs=>obtain⟨a,l,e,q⟩:=h;exact⟨a,l,e,q.move (ak s) (λ_=>s _ _) (λ_=>s _ _) q.aO q.lO q.aB q.lB⟩
 |brwO fs xs=>obtain⟨a,e,q⟩:=h;exact⟨a,e,q.move (af.refl B) (ak s)⟩
 |brwD kvs=>exact h
theorem aX.mono(s:af H H')(h:aX K B E O H G σ):aX K B E O H' G σ where
 keep:=h.keep.trans s
 here:=λa ha e=>h.here a ha (s.free e)
 sub:=h.sub
 old:=h.old
 len:=h.len
 slot:=λi m e=>let ⟨u,z,q⟩:=h.slot i m e;⟨u,z,q.mono s⟩
 apart:=h.apart
 inn:=fC h.inn (λi m0 e D=>⟨⟨m0,e,D⟩,rfl,λa l z J=>by
  obtain⟨u,U,q⟩:=h.slot i _ e;rw[z]at U;cases U;cases m0<;>try (cases D;done)
  obtain⟨a',l',Z,q⟩:=q;cases Z;obtain⟨C,dx,gs,Y,_⟩:=q.ob;rw[s _ _ Y]at J;rw[Y];exact J⟩) λj m c e _ o z=>.inl ⟨m,e,o,z⟩
theorem eQ.bor{m:MV}{u:V}{v:PV}(z:af B H)(h:eQ K B O H m u)(e:bY (some m)=some v):bQ K H O v u:=by
 cases m with
 |val w=>simp[bY]at e;subst e;exact .inl h
 |own xs=>simp[bY]at e;subst e;obtain⟨a,us,e,q,r,_⟩:=h;exact .inr (.inl ⟨xs,a,us,rfl,e,SqL.of q,r⟩)
 |brw xs=>simp[bY]at e;subst e;obtain⟨a,us,e,q,r⟩:=h;exact .inr (.inl ⟨xs,a,us,rfl,e,z.seq q,r⟩)
 |ownD kvs=>simp[bY]at e;subst e;obtain⟨a,e,q,_⟩:=h;exact .inr (.inr ⟨kvs,a,rfl,e,.inl q⟩)
 |ownO _ _ _=>simp[bY]at e
 |brwO _ _=>simp[bY]at e
 |brwD kvs=>simp[bY]at e;subst e;obtain⟨a,e,q⟩:=h;exact .inr (.inr ⟨kvs,a,rfl,e,af.rd z q⟩)
end
def join_some{α:Type}{o:Option (Option α)}{x:α}(h:o.join=some x):o=some (some x):=by
 cases o<;>simp_all
structure Tab where
 fs:List Str
 gs:List (Str×PV)
 ds:List (List Sc)
 ms:List (Option Str)
noncomputable def EB(sc:Scope)(x:Str):Bool:=sc.names.lookup x==some .local||sc.names.lookup x==some .cell||sc.names.lookup x==some .free
noncomputable def g6(sc:Scope)(x:Str):Bool:=sc.names.lookup x==some .local||sc.names.lookup x==some .cell
noncomputable def glB(sc:Scope)(x:Str):Bool:=sc.names.lookup x==some .globalImplicit
noncomputable def aN (x:Str):Bool:=!(x==("__debug__":Str))&&!(x==("__classdict__":Str))&&!(x==("__name__":Str))
noncomputable def aE(N:List Str)(sc:Scope)(i:Nat)(x:Str):Bool:=N[i]?==some x&&EB sc x&&aN x
noncomputable def onQ{α:Type}:Option α->(α->Bool)->Bool
 |some a,f=>f a
 |none,_=>false
def ax(h:onQ o f=true):∃a,o=some a/\f a=true:=by
 cases o with
 |none=>exact dy h
 |some a=>exact⟨a,rfl,h⟩
def iu{α:Type}{P:Prop}{x:α}(h:none=some x):P:=by cases h
def d5{α q:Type}{o:Option α}{f:α->Option q}{b:q}(h:o.bind f=some b):∃a,o=some a/\f a=some b:=ll.mp h
noncomputable def okQ{α:Type}(b:Bool)(x:α):Option α:=if b=true then some x else none
def qo(h:okQ b x=some y):b=true/\x=y:=by
 cases b with
 |false=>exact bc h
 |true=>cases h;exact⟨rfl,rfl⟩
noncomputable def nP{α:Type}:List α->Option α
 | [x]=>some x
 | _=>none
def eC(h:nP l=some x):l=[x]:=by
 rcases l with _|⟨a,_|⟨b,l⟩⟩<;>cases h
 rfl
noncomputable def EC{α:Type}:List α->Option (α×α)
 | [x,y]=>some (x,y)
 | _=>none
def vn(h:EC l=some q):l=[q.1,q.2]:=by
 rcases l with _|⟨a,_|⟨b,_|⟨c,l⟩⟩⟩<;>cases h
 rfl
structure Vw where
 nmP:Option (Str×Pos)
 caP:Option (Expr×List Expr×List Keyword×Pos)
 atP:Option (Expr×Str×Pos)
 biP:Option (Expr×Operator×Expr×Pos)
 suP:Option (Expr×Expr×Pos)
 lcP:Option (Expr×List Comprehension×Scope×Pos)
 coP:Option (Expr×List CmpOp×List Expr×Pos)
 ctP:Option (Const×Nat×Pos)
 tuP:Option (List Expr×Nat×Pos)
 liP:Option (List Expr×Pos)
 unP:Option (UnaryOp×Expr×Pos)
 boP:Option (BoolOp×List Expr×Pos)
 ifP:Option (Expr×Expr×Expr×Pos)
 slP:Option (Option Expr×Option Expr×Option Expr×Pos)
 diP:Option (List (Option Expr)×List Expr×Pos)
noncomputable def vw:Expr->Vw
 | .Name x p=>⟨some (x,p),none,none,none,none,none,none,none,none,none,none,none,none,none,none⟩
 | .Call f as ks p=>⟨none,some (f,as,ks,p),none,none,none,none,none,none,none,none,none,none,none,none,none⟩
 | .Attribute o m p=>⟨none,none,some (o,m,p),none,none,none,none,none,none,none,none,none,none,none,none⟩
 | .BinOp l o r p=>⟨none,none,none,some (l,o,r,p),none,none,none,none,none,none,none,none,none,none,none⟩
 | .Subscript v s p=>⟨none,none,none,none,some (v,s,p),none,none,none,none,none,none,none,none,none,none⟩
 | .ListComp e g s p=>⟨none,none,none,none,none,some (e,g,s,p),none,none,none,none,none,none,none,none,none⟩
 | .Compare l o r p=>⟨none,none,none,none,none,none,some (l,o,r,p),none,none,none,none,none,none,none,none⟩
 | .Constant c j p=>⟨none,none,none,none,none,none,none,some (c,j,p),none,none,none,none,none,none,none⟩
 | .Tuple xs j p=>⟨none,none,none,none,none,none,none,none,some (xs,j,p),none,none,none,none,none,none⟩
 | .List xs p=>⟨none,none,none,none,none,none,none,none,none,some (xs,p),none,none,none,none,none⟩
 | .UnaryOp o e p=>⟨none,none,none,none,none,none,none,none,none,none,some (o,e,p),none,none,none,none⟩
 | .BoolOp o vs p=>⟨none,none,none,none,none,none,none,none,none,none,none,some (o,vs,p),none,none,none⟩
 | .IfExp t x y p=>⟨none,none,none,none,none,none,none,none,none,none,none,none,some (t,x,y,p),none,none⟩
 | .Slice l u s p=>⟨none,none,none,none,none,none,none,none,none,none,none,none,none,some (l,u,s,p),none⟩
 | .Dict ks vs p=>⟨none,none,none,none,none,none,none,none,none,none,none,none,none,none,some (ks,vs,p)⟩
 | _=>⟨none,none,none,none,none,none,none,none,none,none,none,none,none,none,none⟩
noncomputable def nmP(e:Expr):Option (Str×Pos):=(vw e).nmP
def fD(h:nmP e=some q):e=.Name q.1 q.2:=by
 revert h;cases e<;>first|exact iu|(rintro ⟨⟩;rfl)
noncomputable def caP(e:Expr):Option (Expr×List Expr×List Keyword×Pos):=(vw e).caP
def yL(h:caP e=some q):e=.Call q.1 q.2.1 q.2.2.1 q.2.2.2:=by
 revert h;cases e<;>first|exact iu|(rintro ⟨⟩;rfl)
noncomputable def atP(e:Expr):Option (Expr×Str×Pos):=(vw e).atP
def ED(h:atP e=some q):e=.Attribute q.1 q.2.1 q.2.2:=by
 revert h;cases e<;>first|exact iu|(rintro ⟨⟩;rfl)
noncomputable def biP(e:Expr):Option (Expr×Operator×Expr×Pos):=(vw e).biP
def EE(h:biP e=some q):e=.BinOp q.1 q.2.1 q.2.2.1 q.2.2.2:=by
 revert h;cases e<;>first|exact iu|(rintro ⟨⟩;rfl)
noncomputable def suP(e:Expr):Option (Expr×Expr×Pos):=(vw e).suP
def qp(h:suP e=some q):e=.Subscript q.1 q.2.1 q.2.2:=by
 revert h;cases e<;>first|exact iu|(rintro ⟨⟩;rfl)
noncomputable def lcP(e:Expr):Option (Expr×List Comprehension×Scope×Pos):=(vw e).lcP
def t6(h:lcP e=some q):e=.ListComp q.1 q.2.1 q.2.2.1 q.2.2.2:=by
 revert h;cases e<;>first|exact iu|(rintro ⟨⟩;rfl)
noncomputable def coP(e:Expr):Option (Expr×List CmpOp×List Expr×Pos):=(vw e).coP
def EF(h:coP e=some q):e=.Compare q.1 q.2.1 q.2.2.1 q.2.2.2:=by
 revert h;cases e<;>first|exact iu|(rintro ⟨⟩;rfl)
noncomputable def ctP(e:Expr):Option (Const×Nat×Pos):=(vw e).ctP
def EG(h:ctP e=some q):e=.Constant q.1 q.2.1 q.2.2:=by
 revert h;cases e<;>first|exact iu|(rintro ⟨⟩;rfl)
noncomputable def tuP(e:Expr):Option (List Expr×Nat×Pos):=(vw e).tuP
def EH(h:tuP e=some q):e=.Tuple q.1 q.2.1 q.2.2:=by
 revert h;cases e<;>first|exact iu|(rintro ⟨⟩;rfl)
noncomputable def liP(e:Expr):Option (List Expr×Pos):=(vw e).liP
def yM(h:liP e=some q):e=.List q.1 q.2:=by
 revert h;cases e<;>first|exact iu|(rintro ⟨⟩;rfl)
noncomputable def unP(e:Expr):Option (UnaryOp×Expr×Pos):=(vw e).unP
def EI(h:unP e=some q):e=.UnaryOp q.1 q.2.1 q.2.2:=by
 revert h;cases e<;>first|exact iu|(rintro ⟨⟩;rfl)
noncomputable def boP(e:Expr):Option (BoolOp×List Expr×Pos):=(vw e).boP
def yN(h:boP e=some q):e=.BoolOp q.1 q.2.1 q.2.2:=by
 revert h;cases e<;>first|exact iu|(rintro ⟨⟩;rfl)
noncomputable def ifP(e:Expr):Option (Expr×Expr×Expr×Pos):=(vw e).ifP
def EJ(h:ifP e=some q):e=.IfExp q.1 q.2.1 q.2.2.1 q.2.2.2:=by
 revert h;cases e<;>first|exact iu|(rintro ⟨⟩;rfl)
noncomputable def slP(e:Expr):Option (Option Expr×Option Expr×Option Expr×Pos):=(vw e).slP
def EK(h:slP e=some q):e=.Slice q.1 q.2.1 q.2.2.1 q.2.2.2:=by
 revert h;cases e<;>first|exact iu|(rintro ⟨⟩;rfl)
noncomputable def asP:Stmt->Option (List Expr×Expr×Pos)
 | .Assign q v p=>some (q,v,p)
 | _=>none
def yO(h:asP s=some q):s=.Assign q.1 q.2.1 q.2.2:=by
 revert h;cases s<;>first|exact iu|(rintro ⟨⟩;rfl)
noncomputable def wK(e:Expr):Option (Str×List Expr):=(caP e).bind λc=>(nmP c.1).bind λx=>okQ c.2.2.1.isEmpty (x.1,c.2.1)
def i5(h:wK e=some q):∃p cp,e=.Call (.Name q.1 p) q.2 [] cp:=by
 refine ae (d5 h) λc h1 h=>?_
 refine ae (d5 h) λx h2 h=>?_
 obtain⟨h3,rfl⟩:=qo h;exact⟨_,_,by rw[yL h1,fD h2,M3.mp h3]⟩
noncomputable def EL(e:Expr):Option (Str×Expr):=(wK e).bind λc=>(nP c.2).bind λa=>some (c.1,a)
def vo(h:EL e=some q):∃p cp,e=.Call (.Name q.1 p) [q.2] [] cp:=by
 refine ae (d5 h) λc h1 h=>?_
 refine ae (d5 h) λa h2 h=>?_
 cases h;refine mV (i5 h1) λp cp z=>?_
 subst z;exact⟨p,cp,by rw[eC h2]⟩
noncomputable def maP(e:Expr):Option (Expr×Str×Pos×List Expr×Pos):=(caP e).bind λc=>(atP c.1).bind λa=>okQ c.2.2.1.isEmpty (a.1,a.2.1,a.2.2,c.2.1,c.2.2.2)
def yP(h:maP e=some q):e=.Call (.Attribute q.1 q.2.1 q.2.2.1) q.2.2.2.1 [] q.2.2.2.2:=by
 refine ae (d5 h) λc h1 h=>?_
 refine ae (d5 h) λx h2 h=>?_
 obtain⟨h3,rfl⟩:=qo h;rw[yL h1,ED h2,M3.mp h3]
noncomputable def maN(e:Expr):Option (Str×Str×Pos×List Expr×Pos):=(maP e).bind λa=>(nmP a.1).bind λx=>some (x.1,a.2.1,a.2.2.1,a.2.2.2.1,a.2.2.2.2)
def yQ(h:maN e=some q):∃p,e=.Call (.Attribute (.Name q.1 p) q.2.1 q.2.2.1) q.2.2.2.1 [] q.2.2.2.2:=by
 refine ae (d5 h) λc h1 h=>?_
 refine ae (d5 h) λx h2 h=>?_
 cases h;exact⟨x.2,by rw[yP h1,fD h2]⟩
noncomputable def wL(e:Expr):Option (Expr×CmpOp×Expr):=(coP e).bind λc=>(nP c.2.1).bind λo=>(nP c.2.2.1).bind λr=>some (c.1,o,r)
def qr(h:wL e=some q):∃pos,e=.Compare q.1 [q.2.1] [q.2.2] pos:=by
 refine ae (d5 h) λc h1 h=>?_
 refine ae (d5 h) λx h2 h=>?_
 refine ae (d5 h) λy h3 h=>?_
 cases h;exact⟨c.2.2.2,by rw[EF h1,eC h2,eC h3]⟩
noncomputable def Ho(e:Expr):Option (Expr×Option Expr×Option Expr):=(suP e).bind λc=>(slP c.2.1).bind λs=>okQ s.2.2.1.isNone (c.1,s.1,s.2.1)
def By(h:Ho e=some q):∃p pos,e=.Subscript q.1 (.Slice q.2.1 q.2.2 none p) pos:=by
 refine ae (d5 h) λc h1 h=>?_
 refine ae (d5 h) λx h2 h=>?_
 obtain⟨h3,rfl⟩:=qo h;exact⟨_,_,by rw[qp h1,EK h2,isNone_iff_eq_none.mp h3]⟩
noncomputable def lcX(e:Expr):Option (Expr×Scope×(Str×Pos)×Expr×List Expr):=(lcP e).bind λc=>(nP c.2.1).bind λg=>(nmP g.target).bind λx=>okQ (g.is_async==0) (c.1,c.2.2.1,x,g.iter,g.ifs)
def EM(h:lcX e=some q):∃pos,e=.ListComp q.1 [⟨.Name q.2.2.1.1 q.2.2.1.2,q.2.2.2.1,q.2.2.2.2,0⟩] q.2.1 pos:=by
 refine ae (d5 h) λc h1 h=>?_
 obtain⟨⟨tg,it,is,as⟩,h2,h⟩:=d5 h;refine ae (d5 h) λx h3 h=>?_
 obtain⟨h4,rfl⟩:=qo h;exact⟨c.2.2.2,by rw[t6 h1,eC h2,fD (e:=tg) h3,show as=0 from eq_of_beq h4]⟩
noncomputable def diP(e:Expr):Option (List (Option Expr)×List Expr×Pos):=(vw e).diP
def EN{e:Expr}{q:List (Option Expr)×List Expr×Pos}(h:diP e=some q):e=.Dict q.1 q.2.1 q.2.2:=by
 revert h;cases e<;>first|exact iu|(rintro ⟨⟩;rfl)
noncomputable def exP:Stmt->Option (Expr×Pos)
 | .Expr e p=>some (e,p)
 | _=>none
def EO(h:exP s=some q):s=.Expr q.1 q.2:=by
 revert h;cases s<;>first|exact iu|(rintro ⟨⟩;rfl)
noncomputable def reP:Stmt->Option (Option Expr×Pos)
 | .Return v p=>some (v,p)
 | _=>none
def EQ(h:reP s=some q):s=.Return q.1 q.2:=by
 revert h;cases s<;>first|exact iu|(rintro ⟨⟩;rfl)
noncomputable def bb:ME->Bool
 | .bor _=>true
 | .fldL _=>true
 | _=>false
def t7{m:ME}(h:bb m=true):(∃i,m=.bor i)\/∃i,m=.fldL i:=by
 cases m<;>first|(cases h;done)|exact .inl ⟨_,rfl⟩|exact .inr ⟨_,rfl⟩
noncomputable def nQ:Expr->Option (Str×Str)
 | .Attribute (.Name y _) m _=>some (y,m)
 | _=>none
def kj{e:Expr}{q:Str×Str}(h:nQ e=some q):∃p ap,e=.Attribute (.Name q.1 p) q.2 ap:=by
 unfold nQ at h;split at h
 .cases h;exact⟨_,_,rfl⟩
 .cases h
noncomputable def ER(e:Expr):Option (Str×Str×List Expr×Pos×Pos):=(maN e).bind λa=>some (a.1,a.2.1,a.2.2.2.1,a.2.2.1,a.2.2.2.2)
def Bz{e:Expr}{q:Str×Str×List Expr×Pos×Pos}(h:ER e=some q):∃p,e=.Call (.Attribute (.Name q.1 p) q.2.1 q.2.2.2.1) q.2.2.1 [] q.2.2.2.2:=by
 obtain⟨x,h1,h⟩:=d5 h;cases h;exact yQ h1
noncomputable def BA(N:List Str)(sc:Scope)(ms:List (Option Str))(f i:Nat)(z:List Expr->Bool)(q:Str×Str×List Expr×Pos×Pos):Bool:=ms[f]?==some (some q.2.1)&&pC.contains q.2.1&&aE N sc i q.1&&z q.2.2.1&&q.2.2.2.1.endLine==q.2.2.2.2.line&&decide (q.2.2.1.length<30)
noncomputable def ES:Op2->Operator
 | .add=>.Add|.sub=>.Sub|.mul=>.Mult|.fdiv=>.FloorDiv|.mod=>.Mod|.pow=>.Pow|.shr=>.RShift
noncomputable def g7:Cp->CmpOp
 | .eq=>.Eq|.ne=>.NotEq|.lt=>.Lt|.le=>.LtE|.gt=>.Gt|.ge=>.GtE|.isN=>.Is|.notN=>.IsNot|.isIn=>.In|.notIn=>.NotIn
noncomputable def t8:PV->Const->Bool
 | .non,.none=>true
 | .bl a,.bool b=>a==b
 | .int a,.int b=>a==b
 | .str a,.str b=>a==b
 | _,_=>false
noncomputable def C6:PV->PV->Bool
 | .non,.non=>true
 | .bl a,.bl b=>a==b
 | .int a,.int b=>a==b
 | .str a,.str b=>a==b
 | _,_=>false
noncomputable def C7(gs:List (Str×PV))(x:Str)(v:PV):Bool:=gs.any λp=>p.1==x&&C6 p.2 v
noncomputable def aG:Expr->Bool
 | .Starred ..=>false
 | _=>true
noncomputable def lx:Expr->Bool
 | .Set ..=>false
 | _=>true
noncomputable def eK:Expr->Bool
 | .Slice ..=>false
 | _=>true
noncomputable def dJ:Expr->Bool
 | .ListComp ..=>false
 | .SetComp ..=>false
 | .DictComp ..=>false
 | _=>true
noncomputable def wM:Expr->Bool
 | .UnaryOp .Not _ _=>false
 | .BoolOp ..=>false
 | .IfExp ..=>false
 | .Compare ..=>false
 | _=>true
noncomputable def rR:Blt->String
 | .len=>"len" | .tupleOf=>"tuple" | .listOf=>"list" | .sorted=>"sorted" | .any=>"any" | .all=>"all" | .sum=>"sum" | .max1=>"max" | .min1=>"min" | .max2=>"max" | .min2=>"min"
 | .intOf=>"int" | .boolOf=>"bool" | .isInt=>"isinstance" | .isBool=>"isinstance" | .isStr=>"isinstance" | .isList=>"isinstance" | .isTuple=>"isinstance" | .sortedKeys=>"sorted" | .valuesOf=>"list" | .sortedSet=>"sorted" | .lenSet=>"len" | .lenSetSub=>"len" | .tupleRev=>"tuple"
noncomputable def dL:Blt->Option String
 | .isInt=>some "int" | .isBool=>some "bool" | .isStr=>some "str" | .isList=>some "list" | .isTuple=>some "tuple"
 | _=>none
noncomputable def ly:Blt->Option Nat
 | .len|.tupleOf|.listOf|.sorted|.any|.all|.sum|.intOf|.boolOf|.max1|.sortedKeys=>some 1
 | .max2|.min2=>some 2
 | _=>none
noncomputable def km(osc:Scope)(N:List Str)(scope:Scope)(x:Str)(fvs:List Str)(js:List Nat):Bool:=
 decide (∀y∈scope.names,y.2=.cell->y.1=x)&&decide (scope.names.lookup x=some .local/\(scope.names.filter λy=>y.2==.cell)=[]\/scope.names.lookup x=some .cell/\(scope.names.filter λy=>y.2==.cell)=[(x,.cell)])
 &&decide (∀y∈scope.names,y.2=.free->y.1≠x)&&scope.kind==.function&&decide (∀y∈scope.names,y.2=.local->scope.names.lookup y.1=some .local)
 &&decide ((x::fvs).Nodup)&&decide (∀y∈scope.names,y.2=.free->osc.names.lookup y.1=some .cell\/osc.names.lookup y.1=some .free)&&decide ((js.map λj=>N[j]?)=fvs.map some)
 &&decide (∀y∈fvs,scope.names.lookup y=some .free)
noncomputable def fE(N:List Str)(js:List Nat):List Str:=js.map λj=>(N[j]?).getD Str.empty
noncomputable def qt(sc:Scope)(tup:Bool)(f:List Expr->Bool):Sk->Expr->Bool
 | .seq,it=>lx it&&f [it]
 | .rng,it=>onQ (wK it) λc=>c.1==("range":Str)&&glB sc c.1&&f c.2&&(c.2.length==1||c.2.length==2)
 | .rev,_=>false
 | .enm,it=>onQ (EL it) λc=>tup&&c.1==("enumerate":Str)&&glB sc c.1&&f [c.2]&&aG c.2
noncomputable def rS(sc:Scope)(f:List Expr->Bool)(n:Nat)(c:String)(args:List Expr):Bool:=onQ (EC args) λa=>onQ (nmP a.2) λt=>t.1==(c:Str)&&glB sc t.1&&f [a.1]&&n==1
noncomputable def yR(sc:Scope)(f:List Expr->Bool)(n:Nat)(g:Str)(args:List Expr):Bool:=onQ (nP args) λa=>onQ (EL a) λc=>c.1==g&&glB sc c.1&&f [c.2]&&n==1
noncomputable def yS:Expr->Bool
 | .Name _ _=>true
 | .Call _ (_::_) _ _=>true
 | _=>false
noncomputable def vp(sc:Scope)(f:List Expr->Bool)(n:Nat)(b:Blt)(args:List Expr):Bool:=match b with
 | .sortedSet=>yR sc f n "set" args
 | .lenSet=>false
 | .lenSetSub=>false
 | .tupleRev=>false
 | .valuesOf=>false
 | .max1=>false
 | .sum=>false
 | .boolOf=>false
 | .isStr=>false
 | .isList=>false
 |b=>match dL b with
  |some c=>rS sc f n c args
  |none=>ly b==some n&&f args
noncomputable def lz:ME->Bool
 | .cst .non=>true
 | _=>false
noncomputable def qu(f:Expr->Bool)(non:Bool):Option Expr->Bool
 |none=>non
 |some l=>f l&&!non
noncomputable def vq(f:Expr->Bool)(m:ME):List Expr->Bool
 | []=>(match m with|.cst (.bl true)=>true|_=>false)
 | [c]=>f c
 | _=>false
noncomputable def Hq(f:Expr->Bool)(op:BoolOp)(pos:Pos)(y:Expr):List Expr->Bool
 | []=>f y
 |z::r=>f (.BoolOp op (y::z::r) pos)
noncomputable def ET(g f:Expr->Bool)(op:BoolOp)(pos:Pos):List Expr->Bool
 |x::y::r=>g x&&Hq f op pos y r
 | _=>false
def vt(h:ET g f op pos vs=true):(∃x y,vs=[x,y]/\g x=true/\f y=true)\/∃x y z r,vs=x::y::z::r/\g x=true/\f (.BoolOp op (y::z::r) pos)=true:=by
 rcases vs with _|⟨x,_|⟨y,_|⟨z,r⟩⟩⟩
 .exact dy h
 .exact dy h
 .exact .inl ⟨x,y,rfl,vl.mp h⟩
 .exact .inr ⟨x,y,z,r,rfl,vl.mp h⟩
mutual
noncomputable def chk(T:Tab):ME->List Str->Scope->Expr->Bool
 | .var i,N,sc,D=>onQ (nmP D) λx=>aE N sc i x.1
 | .bor i,N,sc,D=>onQ (nmP D) λx=>aE N sc i x.1
 | .cst v,_,_,D=>onQ (ctP D) λc=>t8 v c.1
 | .glob x v,_,sc,D=>onQ (nmP D) λy=>x==y.1&&glB sc x&&C7 T.gs x v&&aN x
 | .bin op a b,N,sc,D=>onQ (biP D) λq=>q.2.1==ES op&&chk T a N sc q.1&&chk T b N sc q.2.2.1
 | .neg _,_,_,_=>false
 | .not a,N,sc,D=>onQ (unP D) λq=>q.1==.Not&&chk T a N sc q.2.1
 | .and a b,N,sc,D=>onQ (boP D) λq=>q.1==.And&&ET (λe=>chk T a N sc e) (λe=>chk T b N sc e) .And q.2.2 q.2.1
 | .or a b,N,sc,D=>onQ (boP D) λq=>q.1==.Or&&ET (λe=>chk T a N sc e) (λe=>chk T b N sc e) .Or q.2.2 q.2.1
 | .ite c a b,N,sc,D=>onQ (ifP D) λq=>chk T c N sc q.1&&chk T a N sc q.2.1&&chk T b N sc q.2.2.1&&!bb a&&!bb b
 | .cmp op a b,N,sc,D=>onQ (wL D) λq=>q.2.1==g7 op&&chk T a N sc q.1&&chk T b N sc q.2.2&&!behindInMarks q.2.1 q.2.2
 | .chain op J a b c,N,sc,D=>(match D with|.Compare l [o,o'] [m,r] _=>o==g7 op&&o'==g7 J&&chk T a N sc l&&chk T b N sc m&&chk T c N sc r&&!lastMarks [o,o'] [m,r]|_=>false)
 | .tup es,N,sc,D=>onQ (tuP D) λq=>chks T es N sc q.1&&es.all (λe=>!bb e)
 | .lst es,N,sc,D=>onQ (liP D) λq=>chks T es N sc q.1&&es.all (λe=>!bb e)
 | .idx a i,N,sc,D=>onQ (suP D) λq=>chk T a N sc q.1&&chk T i N sc q.2.1&&eK q.2.1
 | .slice a lo hi,N,sc,D=>onQ (Ho D) λq=>chk T a N sc q.1&&qu (λe=>chk T lo N sc e) (lz lo) q.2.1&&qu (λe=>chk T hi N sc e) (lz hi) q.2.2
 | .blt b es,N,sc,D=>onQ (wK D) λq=>q.1==(rR b:Str)&&glB sc q.1&&vp sc (λxs=>chks T es N sc xs) es.length b q.2
 | .call f es,N,sc,D=>onQ (wK D) λq=>T.fs[f]?==some q.1&&glB sc q.1&&aN q.1&&chks T es N sc q.2
 | .callD _ _ _,_,_,_=>false
 | .comp k src js cond elt,N,sc,D=>onQ (lcX D) λq=>km sc N q.2.1 q.2.2.1.1 (fE N js) js&&qt sc false (λxs=>chks T src N sc xs) k q.2.2.2.1&&vq (λc=>chk T cond (q.2.2.1.1::fE N js) (oQ q.2.1 sc) c) cond q.2.2.2.2&&chk T elt (q.2.2.1.1::fE N js) (oQ q.2.1 sc) q.1&&!bb elt
 | .dget a k d,N,sc,D=>onQ (maP D) λc=>onQ (EC c.2.2.2.1) λz=>c.2.1==("get":Str)&&yS c.1&&c.2.2.1.endLine==c.2.2.2.2.line&&chk T a N sc c.1&&chk T k N sc z.1&&chk T d N sc z.2&&aG z.1&&aG z.2
 | .dat a k,N,sc,D=>onQ (suP D) λq=>chk T a N sc q.1&&chk T k N sc q.2.1&&eK q.2.1
 | .dIn neg k a,N,sc,D=>onQ (wL D) λq=>q.2.1==(if neg=true then CmpOp.NotIn else CmpOp.In)&&chk T k N sc q.1&&chk T a N sc q.2.2&&!behindInMarks q.2.1 q.2.2
 | .fld i n,N,sc,D=>onQ (nQ D) λq=>jA[n]?==some q.2&&aE N sc i q.1
 | .fldL i,N,sc,D=>onQ (nQ D) λq=>q.2==("taken":Str)&&aE N sc i q.1
 | .inO neg e i,N,sc,D=>onQ (wL D) λz=>onQ (nQ z.2.2) λq=>z.2.1==(if neg=true then CmpOp.NotIn else CmpOp.In)&&chk T e N sc z.1&&q.2==("taken":Str)&&aE N sc i q.1
 | .callV _ _,_,_,_=>false
 | .comp2 _ _ _ _,_,_,_=>false
 | .callM f i es,N,sc,D=>onQ (ER D) λq=>BA N sc T.ms f i (λxs=>chks T es N sc xs) q
noncomputable def chks(T:Tab):List ME->List Str->Scope->List Expr->Bool
 | [],_,_,[]=>true
 |m::ms,N,sc,e::es=>chk T m N sc e&&aG e&&chks T ms N sc es
 | _,_,_,_=>false
end
def yT(T)(op q)(a b c)(N)(sc)(z):chk T (.chain op q a b c) N sc z=(match z with|.Compare l [o,o'] [m,r] _=>o==g7 op&&o'==g7 q&&chk T a N sc l&&chk T b N sc m&&chk T c N sc r&&!lastMarks [o,o'] [m,r]|_=>false):=rfl
def qv(h:chk T (.bor i) N sc e=true):∃x p,e=.Name x p/\aE N sc i x=true:=by
 replace h:=ax h
 refine ae h λx h1 h=>?_
 exact⟨x.1,x.2,fD h1,h⟩
def cU(h:chks T (m::ms) N sc (e::es)=true):(chk T m N sc e=true/\aG e=true)/\chks T ms N sc es=true:=by
 obtain⟨a,b⟩:=vl.mp h;exact⟨vl.mp a,b⟩
def lA{cond elt:ME}(h:chk T (.comp z src js cond elt) N sc D=true):∃e x px it ifs scope pos,D=.ListComp e [⟨.Name x px,it,ifs,0⟩] scope pos /\
  (km sc N scope x (fE N js) js&&qt sc false (λxs=>chks T src N sc xs) z it&&vq (λc=>chk T cond (x::fE N js) (oQ scope sc) c) cond ifs&&chk T elt (x::fE N js) (oQ scope sc) e&&!bb elt)=true:=by
 replace h:=ax h
 obtain⟨q,w,h⟩:=h;obtain⟨pos,rfl⟩:=EM w;exact⟨_,_,_,_,_,_,_,rfl,h⟩
noncomputable def jB:ME->Bool
 | .lst _=>true
 | .comp ..=>true
 | .blt .listOf _=>true
 | .blt .sorted _=>true
 | .blt .sortedSet _=>true
 | .blt .sortedKeys _=>true
 | .blt .valuesOf _=>true
 | _=>false
noncomputable def C8(sc:Scope)(t:Str)(tpos:Pos)(e:Expr):Bool:=onQ (lcP e) λq=>sc.names.lookup t==some .local&&tpos.line==q.2.2.2.line&&!(q.2.2.1.names.any λ(n,k)=>n==t&&(k==.local||k==.cell))
noncomputable def JE:ME->Bool
 | .comp2 ..=>true
 | _=>false
noncomputable def pD(sc:Scope)(t:Str)(tpos:Pos)(v:Expr)(e:ME):Bool:=C8 sc t tpos v&&!JE e
noncomputable def eD(N:List Str)(sc:Scope):List Nat->List Expr->Bool
 | [],[]=>true
 |i::is,.Name x _::es=>N[i]?==some x&&g6 sc x&&aN x&&eD N sc is es
 | _,_=>false
def qw(N)(sc)(i)(is)(x)(p)(es):eD N sc (i::is) (.Name x p::es)=(N[i]?==some x&&g6 sc x&&aN x&&eD N sc is es):=rfl
noncomputable def yU(s:Stmt):Option (Str×Pos×Expr):=(asP s).bind λc=>(nP c.1).bind λu=>(nmP u).bind λx=>some (x.1,x.2,c.2.1)
def mI(h:yU s=some q):∃pos,s=.Assign [.Name q.1 q.2.1] q.2.2 pos:=by
 refine ae (d5 h) λc h1 h=>?_
 refine ae (d5 h) λu h2 h=>?_
 refine ae (d5 h) λx h3 h=>?_
 cases h;exact⟨c.2.2,by rw[yO h1,eC h2,fD h3]⟩
noncomputable def EU(s:Stmt):Option (Str×Str×Pos×List Expr×Pos):=(exP s).bind λa=>maN a.1
def vv(h:EU s=some q):∃p pos,s=.Expr (.Call (.Attribute (.Name q.1 p) q.2.1 q.2.2.1) q.2.2.2.1 [] q.2.2.2.2) pos:=by
 refine ae (d5 h) λx h1 h=>?_
 obtain⟨p,e⟩:=yQ h;exact⟨p,x.2,by rw[EO h1,e]⟩
noncomputable def Hr(s:Stmt):Option (Str×Expr×Expr):=(asP s).bind λc=>(nP c.1).bind λu=>(suP u).bind λw=>(nmP w.1).bind λx=>some (x.1,w.2.1,c.2.1)
def BB(h:Hr s=some q):∃p sp pos,s=.Assign [.Subscript (.Name q.1 p) q.2.1 sp] q.2.2 pos:=by
 refine bN λD z=>?_
 refine ae (d5 h) λc h1 h=>?_
 refine ae (d5 h) λu h2 h=>?_
 refine ae (d5 h) λw h3 h=>?_
 refine ae (d5 h) λx h4 h=>?_
 cases h;refine z ?_;exact⟨x.2,w.2.2,c.2.2,by rw[yO h1,eC h2,qp h3,fD h4]⟩
noncomputable def BC(s:Stmt):Option (Expr):=(reP s).bind λc=>c.1
def qx(h:BC s=some v):∃pos,s=.Return (some v) pos:=by
 refine ae (d5 h) λc h1 h=>?_
 exact⟨c.2,by rw[EQ h1,h]⟩
noncomputable def C9(e:Expr):Option (Str):=(nmP e).bind λx=>some x.1
def yV(h:C9 e=some x):∃p,e=.Name x p:=by
 refine ae (d5 h) λx h1 h=>?_
 cases h;exact⟨x.2,fD h1⟩
noncomputable def C_(e:Expr):Bool:=onQ (diP e) λd=>d.1.isEmpty&&d.2.1.isEmpty
def yW(h:C_ e=true):∃p,e=.Dict [] [] p:=by
 replace h:=ax h
 refine ae h λd h1 h=>?_
 obtain⟨h2,h3⟩:=vl.mp h;exact⟨d.2.2,by rw[EN h1,M3.mp h2,M3.mp h3]⟩
noncomputable def EV:Stmt->Option (Str×Str×Str×Pos×List Expr×Pos)
 | .Expr (.Call (.Attribute (.Attribute (.Name x _) f _) m ap) args [] cp) _=>some (x,f,m,ap,args,cp)
 | _=>none
def BD{s:Stmt}{q:Str×Str×Str×Pos×List Expr×Pos}(h:EV s=some q):∃p fp pos,s=.Expr (.Call (.Attribute (.Attribute (.Name q.1 p) q.2.1 fp) q.2.2.1 q.2.2.2.1) q.2.2.2.2.1 [] q.2.2.2.2.2) pos:=by
 unfold EV at h;split at h
 .cases h;exact⟨_,_,_,rfl⟩
 .cases h
mutual
noncomputable def gn(T:Tab)(N:List Str)(sc:Scope):MS->Stmt->Bool
 | .set i e,s0=>onQ (yU s0) λq=>N[i]?==some q.1&&g6 sc q.1&&aN q.1&&chk T e N sc q.2.2&&!bb e&&(dJ q.2.2||pD sc q.1 q.2.1 q.2.2 e)
 | .setOwn i e,s0=>onQ (yU s0) λq=>N[i]?==some q.1&&g6 sc q.1&&aN q.1&&chk T e N sc q.2.2&&jB e&&(dJ q.2.2||pD sc q.1 q.2.1 q.2.2 e)
 | .append i e,s0=>onQ (EU s0) λq=>onQ (nP q.2.2.2.1) λv=>aE N sc i q.1&&q.2.1==("append":Str)&&chk T e N sc v&&!bb e&&aG v&&q.2.2.1.endLine==q.2.2.2.2.line
 | .extend i e,s0=>onQ (EU s0) λq=>onQ (nP q.2.2.2.1) λv=>aE N sc i q.1&&q.2.1==("extend":Str)&&chk T e N sc v&&aG v&&q.2.2.1.endLine==q.2.2.2.2.line
 | .mkO i es,s0=>onQ (yU s0) λq=>onQ (wK q.2.2) λc=>N[i]?==some q.1&&g6 sc q.1&&aN q.1&&c.1==("Table":Str)&&glB sc c.1&&chks T es N sc c.2&&(es.all λm=>!bb m)&&!c.2.isEmpty
 | .appO i e,s0=>onQ (EV s0) λq=>onQ (nP q.2.2.2.2.1) λv=>aE N sc i q.1&&q.2.1==("taken":Str)&&q.2.2.1==("append":Str)&&chk T e N sc v&&!bb e&&aG v&&q.2.2.2.1.endLine==q.2.2.2.2.2.line
 | .retT e,s0=>onQ (BC s0) λv=>chk T e N sc v&&!bb e
 | .takeO _ _ _ _,_=>false
 | .setIdx _ _ _,_=>false
 | .unpack _ _,_=>false
 | .ite c a b,s0=>(match s0 with|.If t x y _=>chk T c N sc t&&chkSs T N sc a x&&chkSs T N sc b y|_=>false)
 | .for1 i k src body,s0=>(match s0 with|.For (.Name x _) it b [] _=>N[i]?==some x&&g6 sc x&&aN x&&qt sc false (λxs=>chks T src N sc xs) k it&&chkSs T N sc body b|_=>false)
 | .forT is k src body,s0=>(match s0 with|.For (.Tuple z _ _) it b [] _=>eD N sc is z&&qt sc true (λxs=>chks T src N sc xs) k it&&chkSs T N sc body b|_=>false)
 | .ret e,s0=>onQ (BC s0) λv=>chk T e N sc v&&!bb e
 | .retOwn i,s0=>onQ (BC s0) λv=>onQ (C9 v) λx=>aE N sc i x
 | .never,_=>true
 | .newD _ i,s0=>onQ (yU s0) λq=>C_ q.2.2&&(N[i]?==some q.1&&g6 sc q.1&&aN q.1)
 | .dput i k e,s0=>onQ (Hr s0) λq=>aE N sc i q.1&&chk T k N sc q.2.1&&eK q.2.1&&chk T e N sc q.2.2&&!bb e&&dJ q.2.2
 | _,_=>false
noncomputable def chkSs(T:Tab)(N:List Str)(sc:Scope):List MS->List Stmt->Bool
 | [],[]=>true
 | .freeze _::_,_=>false
 |m::ms,s::ss=>gn T N sc m s&&chkSs T N sc ms ss
 | _,_=>false
end
def BE(T)(N)(sc)(i)(k)(src)(body)(s0):gn T N sc (.for1 i k src body) s0=(match s0 with|.For (.Name x _) it b [] _=>N[i]?==some x&&g6 sc x&&aN x&&qt sc false (λxs=>chks T src N sc xs) k it&&chkSs T N sc body b|_=>false):=rfl
def BF(T)(N)(sc)(is)(k)(src)(body)(s0):gn T N sc (.forT is k src body) s0=(match s0 with|.For (.Tuple q _ _) it b [] _=>eD N sc is q&&qt sc true (λxs=>chks T src N sc xs) k it&&chkSs T N sc body b|_=>false):=rfl
theorem nR(z:∀x b,f x x=some b->b=true):∀xs {b},eqL f xs xs=some b->b=true
 | [],b,h=>by simp[eqL]at h;exact h
 |x::xs,b,h=>by
  simp only[eqL,ll,tr]at h;obtain⟨p,h1,q,h2,rfl⟩:=h;rw[z x p h1,nR z xs h2];rfl
theorem ko:∀n x {b},eqF n x x=some b->b=true
 |n,.non,b,h=>by cases n<;>cases h<;>rfl
 |n,.bl x,b,h=>by cases n<;>cases h<;>exact KN x
 |n,.int x,b,h=>by cases n<;>cases h<;>exact KN x
 |n,.str x,b,h=>by cases n<;>cases h<;>exact KN x
 |0,.tup _,b,h=>bc h
 |0,.lst _,b,h=>bc h
 |n+1,.tup xs,b,h=>nR (λx b=>ko n x) xs h
 |n+1,.lst xs,b,h=>nR (λx b=>ko n x) xs ((if_pos rfl).symm.trans h)
 |n,.dI _,b,h=>by cases n<;>exact bc h
def gp(h:eqF n x y=some b):isD x=false/\isD y=false:=by
 cases x<;>cases y<;>first|exact⟨rfl,rfl⟩|(cases n<;>exact bc h)
noncomputable def EW:PV->Bool
 | .tup _=>true
 | .lst _=>true
 | _=>false
def f_(h:eqF n x y=some b)(e:EW x=!EW y):b=false:=by
 cases x<;>cases y<;>first|(cases e;done)|(cases n<;>cases h<;>rfl)
theorem kr :∀xs ys {b},eqL f xs ys=some b ->
  (∀(j:Nat) x y,xs[j]?=some x->ys[j]?=some y->∃c,f x y=some c) /\
   b=((range (min xs.length ys.length)).all (λj=>(f (xs.getD j .non) (ys.getD j .non)).getD false)&&xs.length==ys.length)
 | [],[],b,h=>by simp[eqL]at h;subst h;simp
 | [],y::ys,b,h=>by simp[eqL]at h;subst h;simp
 |x::xs,[],b,h=>by simp[eqL]at h;subst h;simp
 |x::xs,y::ys,b,h=>by
  simp only[eqL,ll,tr]at h;obtain⟨p,h1,q,h2,rfl⟩:=h;obtain⟨z,D⟩:=kr xs ys h2;refine⟨λj Y Z J U=>?_,?_⟩
  .cases j with
   |zero=>simp at J U;subst J U;exact⟨p,h1⟩
   |succ j=>exact z j Y Z J U
  .rw[D];have hm:min (x::xs).length (y::ys).length=min xs.length ys.length+1:=by simp only[length_cons];exact(by simp)
   rw[hm,range_succ_eq_map,all_cons,MU];have hl:((x::xs).length==(y::ys).length)=(xs.length==ys.length):=by
    simp_all
   rw[hl,Bool.and_assoc];simp only[getD_cons_zero,h1,getD_some,Function.comp_def,getD_cons_succ]
theorem vz :∀xs {b},inL f xs=some b->(∀x∈xs,∃c,f x=some c)/\b=xs.any λx=>(f x).getD false
 | [],b,h=>by simp[inL]at h;subst h;simp
 |x::xs,b,h=>by
  simp only[inL,ll,tr]at h;obtain⟨p,h1,q,h2,rfl⟩:=h;obtain⟨z,J⟩:=vz xs h2;refine⟨λy D=>?_,?_⟩
  .rcases pe.mp D with rfl|D
   .exact⟨p,h1⟩
   .exact z y D
  .simp_all
section
variable{X:Cx}{pins:List (Addr×Obj)}{σ:St}{H:Hp}{s:Shared}
def rT(I:Inv X pins σ H s)(h1:SqL X.K H a xs)(h2:SqT X.K H a ys):False:=by
 refine a8 (I.list h1) λits _ p _=>?_
 refine a8 (I.tuple h2) λz _ q _=>?_
 exact SeqAt.ne_of_list_tuple p.isList (show s.heap.IsTuple a z.toArray from q) rfl
def vA{H:Hp}{a:Addr}{d:DD}(h:RdD H a d):IsD H a:=by
 cases d with
 |k kvs=>exact .inl ⟨_,h.rd⟩
 |t kvs=>exact .inr ⟨_,h.rd⟩
def mJ(I:Inv X pins σ H s)(h1:SqL X.K H a xs\/SqT X.K H a xs)(h2:RdD H a d):False:=by
 refine ae ((yk I (vA h2)).1) λo ho hc=>?_
 rcases h1 with h1|h1
 .obtain⟨its,_,p,_⟩:=I.list h1;obtain⟨o',q,z,_⟩:=p.isList;rw[ho]at q;cases q;rw[hc]at z;exact absurd z (by decide)
 .obtain⟨its,_,⟨o',q,z,_⟩,_⟩:=I.tuple h1;rw[ho]at q;cases q;rw[hc]at z;exact absurd z (by decide)
def Sc.v_inj:∀{a b:Sc},a.v=b.v->a=b:=by
 intro a b h;cases a<;>cases b<;>simp[Sc.v]at h ⊢<;>exact h
theorem rU:∀{a b},gJ a=gJ b->a=b
 | [],[],_=>rfl
 | [],_::_,h=>v5 h
 | _::_,[],h=>by cases h
 | (k,v)::a,(q,z)::b,h=>by
  simp[gJ,J8,Prod.mk.injEq]at h;obtain⟨⟨h1,h2⟩,h3⟩:=h;rw[h1,Sc.v_inj h2,rU h3]
theorem mL:∀{a b:List Int},(a.map Sum.inl:List Key)=b.map Sum.inl->a=b
 | [],[],_=>rfl
 | [],_::_,h=>v5 h
 | _::_,[],h=>by cases h
 |x::a,y::b,h=>by
  simp[List.cons.injEq]at h;rw[h.1,mL h.2]
theorem rV:∀{a b},kh a=kh b->a=b
 | [],[],_=>rfl
 | [],_::_,h=>v5 h
 | _::_,[],h=>by cases h
 | (k,v)::a,(q,z)::b,h=>by
  simp[kh,J8]at h;obtain⟨⟨h1,h2⟩,h3⟩:=h;rw[mL h1,Sc.v_inj h2,rV h3]
def rW{a b:DD}(h:my a=my b):a=b:=by
 cases a<;>cases b
 .rw[rU (HO.dK.inj h)]
 .cases h
 .cases h
 .rw[rV (HO.dT.inj h)]
def EX(h:RdD H a x)(g:RdD H a y):x=y:=by
 have h:=h.rd;have g:=g.rd;have ne:∀x o u,my x≠.frz o u:=λx o u e=>by cases x<;>cases e
 rcases h with h|⟨o,h⟩<;>rcases g with g|⟨o',g⟩
 .rw[h]at g;exact rW (vr g)
 .rw[h]at g;exact absurd (vr g) (ne x _ _)
 .simp_all
 .rw[h]at g;exact rW (HO.frz.inj (vr g)).2
mutual
theorem mM(I:Inv X pins σ H s):∀(x y:PV) {u:V},Rep X.K H x u->Rep X.K H y u->x=y
 | .non,y,u,h,g=>by rw[Rep]at h;subst h;cases y<;>simp[Rep]at g ⊢
 | .bl b,y,u,h,g=>by rw[Rep]at h;subst h;cases y<;>simp[Rep]at g ⊢;exact g
 | .int b,y,u,h,g=>by rw[Rep]at h;subst h;cases y<;>simp[Rep]at g ⊢;exact g
 | .str b,y,u,h,g=>by rw[Rep]at h;subst h;cases y<;>simp[Rep]at g ⊢;exact g
 | .tup xs,y,u,h,g=>by
  obtain⟨a,us,rfl,q,r⟩:=h;cases y with
  |tup ys =>
   refine au g λb vs e z D=>?_
   cases e;have:=I.tuple_inj (eP q) (eP z);subst this;rw[reps_inj I xs ys r D]
  |lst ys =>
   refine au g λb vs e z D=>?_
   cases e;exact(rT I z (eP q)).elim
  |dI kvs =>
   obtain⟨b,e,z⟩:=g;cases e;exact(mJ I (.inr (eP q)) z).elim
  | _=>injection g
 | .lst xs,y,u,h,g=>by
  obtain⟨a,us,rfl,q,r⟩:=h;cases y with
  |lst ys =>
   refine au g λb vs e z D=>?_
   cases e;have:=I.list_inj q z;subst this;rw[reps_inj I xs ys r D]
  |tup ys =>
   refine au g λb vs e z D=>?_
   cases e;exact(rT I q (eP z)).elim
  |dI kvs =>
   obtain⟨b,e,z⟩:=g;cases e;exact(mJ I (.inl q) z).elim
  | _=>injection g
 | .dI kvs,y,u,h,g=>by
  obtain⟨a,rfl,q⟩:=h;cases y with
  |dI ks =>
   refine ae g λb e z=>?_
   cases e;rw[EX q z]
  |tup ys =>
   obtain⟨b,vs,e,z,D⟩:=g;cases e;exact(mJ I (.inr (eP z)) q).elim
  |lst ys =>
   obtain⟨b,vs,e,z,D⟩:=g;cases e;exact(mJ I (.inl z) q).elim
  | _=>injection g
theorem reps_inj(I:Inv X pins σ H s):∀(xs ys:List PV) {us:List V},Reps X.K H xs us->Reps X.K H ys us->xs=ys
 | [],ys,us,h,g=>by
  rw[Reps]at h;subst h
  cases ys with
  |nil=>rfl
  |cons y ys=>rw[Reps]at g;obtain⟨_,_,e,_⟩:=g;exact v5 e
 |x::xs,ys,us,h,g=>by
  refine au h λu r z q t=>?_
  subst z;cases ys with
  |nil=>rw[Reps]at g;cases g
  |cons y ys =>
   refine au g λJ U e D t'=>?_
   cases e;rw[mM I x y q D,reps_inj I xs ys t t']
end
def Rep.tupAt(I:Inv X pins σ H s)(h:Rep X.K H (.tup xs) u)(r:aI u v) :
  ∃(a:Addr) (us:List V) (its:List Value),u=.ref a/\v=.ref a/\Reps X.K H xs us/\aJ us its/\s.heap.IsTuple a its.toArray/\xs.length=its.length:=by
 refine au h λa us z q t=>?_
 subst z;refine a8 (I.tuple (eP q)) λits D p _=>?_
 exact⟨a,us,its,rfl,r,t,D,p,t.length.trans D.length⟩
def Rep.lstAt(I:Inv X pins σ H s)(h:Rep X.K H (.lst xs) u)(r:aI u v) :
  ∃a us its,u=.ref a/\v=.ref a/\Reps X.K H xs us/\aJ us its/\s.heap.IsList a its.toArray/\xs.length=its.length:=by
 refine au h λa us z q t=>?_
 subst z;refine a8 (I.list q) λits D p _=>?_
 exact⟨a,us,its,rfl,r,t,D,p.isList,t.length.trans D.length⟩
def kz{A:Around}(ih:∀x y {J U}{z D}{b}{A},A.units+n<cLine->eqF n x y=some b->Rep X.K H x J->Rep X.K H y U->aI J z->aI U D->SeqAt.EqAt A s z D b)
  (hu:A.units+(n+1)<cLine) (rx:Reps X.K H xs us) (ry:Reps X.K H ys ws) (z:aJ us its) (D:aJ ws q)
  (hs:∀(j:Nat) x y,xs[j]?=some x->ys[j]?=some y->∃c,eqF n x y=some c) :
  ∀j (h1:j<its.toArray.size) (h2:j<q.toArray.size),SeqAt.EqAt A.in1 s its.toArray[j] q.toArray[j] ((eqF n (xs.getD j .non) (ys.getD j .non)).getD false):=λj h1 h2=>by
 have l1:=rx.length.trans z.length;have l2:=ry.length.trans D.length;simp only[pd]at h1 h2;have Y:xs[j]?=some xs[j]:=Kc (by simp[*]);have Z:ys[j]?=some ys[j]:=Kc (by omega);refine ae (rx.get Y) λJ q1 p1=>?_
 refine ae (ry.get Z) λU q2 p2=>?_
 refine ae (z.get q1) λwx q3 p3=>?_
 refine ae (D.get q2) λwy q4 p4=>?_
 obtain⟨c,hc⟩:=hs j _ _ Y Z;have d1:xs.getD j .non=xs[j]:=by simp[List.getD,Y]
 have d2:ys.getD j .non=ys[j]:=by simp[List.getD,Z]
 have g1:its.toArray[j]=wx:=by
  simp_all
 have g2:q.toArray[j]=wy:=by
  simp_all
 rw[d1,d2,hc,g1,g2];exact ih _ _ (show A.units+1+n<cLine by omega) hc p1 p2 p3 p4
def BG(I:Inv X pins σ H s)(ih:∀x y {J U}{Y Z}{b}{A},A.units+n<cLine->eqF n x y=some b->Rep X.K H x J->Rep X.K H y U->aI J Y->aI U Z->SeqAt.EqAt A s Y Z b)
  (hu:A.units+(n+1)<cLine):(∀{xs ys}{J U}{Y Z}{b},eqF (n+1) (.tup xs) (.tup ys)=some b->Rep X.K H (.tup xs) J->Rep X.K H (.tup ys) U->aI J Y->aI U Z->SeqAt.RcAt A s Y Z b) /\
   (∀{xs ys}{J U}{Y Z}{b},eqF (n+1) (.lst xs) (.lst ys)=some b->Rep X.K H (.lst xs) J->Rep X.K H (.lst ys) U->aI J Y->aI U Z->SeqAt.RcAt A s Y Z b):=by
 refine⟨λ{xs ys J U Y Z b} h rx ry r1 r2=>?_,λ{xs ys J U Y Z b} h rx ry r1 r2=>?_⟩
 .refine cR (rx.tupAt I r1) λa us its z D t1 w1 p1 l1=>?_
  subst z;subst D;refine cR (ry.tupAt I r2) λc ws ao z D t2 w2 p2 l2=>?_
  subst z;subst D;have h:=h;obtain⟨hs,hb⟩:=kr xs ys h;have q:=SeqAt.RcAt.tuples (A:=A) p1 p2 (by omega) (kz ih hu t1 t2 w1 w2 hs);rw[hb];simpa[l1,l2]using q
 .refine cR (rx.lstAt I r1) λa us its z D t1 w1 p1 l1=>?_
  subst z;subst D;refine cR (ry.lstAt I r2) λc ws ao z D t2 w2 p2 l2=>?_
  subst z;subst D;have h:(if xs.length=ys.length then eqL (eqF n) xs ys else some false)=some b:=h;by_cases hl:xs.length=ys.length
  .rw[if_pos hl]at h;obtain⟨hs,hb⟩:=kr xs ys h;have q:=SeqAt.RcAt.lists (A:=A) p1 p2 (by simp only[pd];omega) (by omega) (kz ih hu t1 t2 w1 w2 hs)
   simp_all
  .rw[if_neg hl]at h;cases h;exact SeqAt.RcAt.lists_lengths (A:=A) p1 p2 (by simp only[pd,bne_iff_ne];omega) (by omega)
def dc(hd:isD x=false)(h:Rep X.K H x u):(∃xs,x=.tup xs)\/(∃xs,x=.lst xs)\/iD u=true:=by
 cases x with
 |dI _=>exact sW hd
 |tup xs=>exact .inl ⟨xs,rfl⟩
 |lst xs=>exact .inr (.inl ⟨xs,rfl⟩)
 | _=>rw[Rep]at h;subst h;exact .inr (.inr rfl)
def g8(q:A.units<cLine)(f:iD u=true)(r:aI u v)(p:s.heap.IsTuple a its) :
  SeqAt.EqAt A s v (.ref a) false/\SeqAt.EqAt A s (.ref a) v false/\SeqAt.RcAt A s v (.ref a) false/\SeqAt.RcAt A s (.ref a) v false:=by
 cases u with
 |non=>subst r;exact⟨.none_tuple p q,.tuple_none p q,.none_tuple p q,.tuple_none p q⟩
 |bl b=>subst r;exact⟨.bool_tuple b p q,.tuple_bool b p q,.bool_tuple b p q,.tuple_bool b p q⟩
 |int b=>obtain⟨t,rfl⟩:=r;exact⟨.int_tuple b t p q,.tuple_int b t p q,.int_tuple b t p q,.tuple_int b t p q⟩
 |str b=>obtain⟨t,rfl⟩:=r;exact⟨.str_tuple b t p q,.tuple_str b t p q,.str_tuple b t p q,.tuple_str b t p q⟩
 | _=>exact absurd (show false=true from f) oe
def i6(q:A.units<cLine)(f:iD u=true)(r:aI u v)(p:s.heap.IsList a its) :
  SeqAt.EqAt A s v (.ref a) false/\SeqAt.EqAt A s (.ref a) v false/\SeqAt.RcAt A s v (.ref a) false/\SeqAt.RcAt A s (.ref a) v false:=by
 cases u with
 |non=>subst r;exact⟨.none_list p q,.list_none p q,.none_list p q,.list_none p q⟩
 |bl b=>subst r;exact⟨.bool_list b p q,.list_bool b p q,.bool_list b p q,.list_bool b p q⟩
 |int b=>obtain⟨t,rfl⟩:=r;exact⟨.int_list b t p q,.list_int b t p q,.int_list b t p q,.list_int b t p q⟩
 |str b=>obtain⟨t,rfl⟩:=r;exact⟨.str_list b t p q,.list_str b t p q,.str_list b t p q,.list_str b t p q⟩
 | _=>exact absurd (show false=true from f) oe
def yX(z:aI y u)(q:aI x v)(J:iD y=true)(D:iD x=true):SeqAt.RcAt A s u v (eqV y x):=by
 cases y with
 |non =>
  cases z;cases x with
  |non=>subst q;exact SeqAt.RcAt.none_none
  |bl b=>subst q;exact SeqAt.RcAt.none_bool b
  |int b=>obtain⟨t,rfl⟩:=q;exact SeqAt.RcAt.none_int b t
  |str b=>obtain⟨t,rfl⟩:=q;exact SeqAt.RcAt.none_str b t
  | _=>exact absurd (show false=true from D) oe
 |bl a =>
  subst z;cases x with
  |non=>subst q;exact SeqAt.RcAt.bool_none a
  |bl b=>subst q;exact SeqAt.RcAt.bool_bool a b
  |int b=>obtain⟨t,rfl⟩:=q;exact SeqAt.RcAt.bool_int a b t
  |str b=>obtain⟨t,rfl⟩:=q;exact SeqAt.RcAt.bool_str a b t
  | _=>exact absurd (show false=true from D) oe
 |int a =>
  obtain⟨t',rfl⟩:=z;cases x with
  |non=>subst q;exact SeqAt.RcAt.int_none a t'
  |bl b=>subst q;exact SeqAt.RcAt.int_bool a t' b
  |int b=>obtain⟨t,rfl⟩:=q;exact SeqAt.RcAt.int_int a t' b t
  |str b=>obtain⟨t,rfl⟩:=q;exact SeqAt.RcAt.int_str a t' b t
  | _=>exact absurd (show false=true from D) oe
 |str a =>
  obtain⟨t',rfl⟩:=z;cases x with
  |non=>subst q;exact SeqAt.RcAt.str_none a t'
  |bl b=>subst q;exact SeqAt.RcAt.str_bool a t' b
  |int b=>obtain⟨t,rfl⟩:=q;exact SeqAt.RcAt.str_int a t' b t
  |str b=>obtain⟨t,rfl⟩:=q;exact SeqAt.RcAt.str_str a t' b t
  | _=>exact absurd (show false=true from D) oe
 | _=>exact absurd (show false=true from J) oe
def nS(q:Rep X.K H x u)(z:Rep X.K H y v)(D:iD u=true)(J:iD v=true)(h:eqF n x y=some b):b=eqV u v:=by
 cases x<;>cases y<;>simp[Rep]at q z
 all_goals first
  | (obtain⟨_,_,rfl,_⟩:=q;exact absurd (show false=true from D) oe)
  | (obtain⟨_,_,rfl,_⟩:=z;exact absurd (show false=true from J) oe)
  | (obtain⟨_,rfl,_⟩:=q;exact absurd (show false=true from D) oe)
  | (obtain⟨_,rfl,_⟩:=z;exact absurd (show false=true from J) oe)
  | (subst q z;cases n<;>cases h<;>rfl)
def gb(r:Rep X.K H y v)(f:iD v=true):EW y=false:=by
 cases y with
 |tup _|lst _=>obtain⟨_,_,rfl,_⟩:=r;exact dy f
 | _=>rfl
def qy(I:Inv X pins σ H s):∀n x y {ux uy}{vx vy}{b}{A},A.units+n<cLine->eqF n x y=some b->Rep X.K H x ux->Rep X.K H y uy->aI ux vx->aI uy vy ->
  SeqAt.EqAt A s vx vy b/\SeqAt.RcAt A s vx vy b:=by
 intro n
 induction n with
 |zero =>
  intro x y ux uy vx vy b A hu h rx Y r1 Z;have z:A.units<cLine:=by omega
  rcases dc (gp h).1 rx with⟨xs,rfl⟩|⟨xs,rfl⟩|fx
  .refine cR (rx.tupAt I r1) λa us its D J t1 w1 p1 l1=>?_
   subst D;subst J;rcases dc (gp h).2 Y with⟨ys,rfl⟩|⟨ys,rfl⟩|fy
   .exact bc h
   .refine cR (Y.lstAt I Z) λc ws U D J t2 w2 p2 l2=>?_
    subst D;subst J;cases h;exact⟨.tuple_list p1 p2 z,.tuple_list p1 p2 z⟩
   .refine gC (g8 z fy Z p1) λz1 z2 z3 z4=>?_
    have:=f_ h (by rw[gb Y fy];rfl);subst this;exact⟨z2,z4⟩
  .refine cR (rx.lstAt I r1) λa us its D J t1 w1 p1 l1=>?_
   subst D;subst J;rcases dc (gp h).2 Y with⟨ys,rfl⟩|⟨ys,rfl⟩|fy
   .refine cR (Y.tupAt I Z) λc ws U D J t2 w2 p2 l2=>?_
    subst D;subst J;cases h;exact⟨.list_tuple p1 p2 z,.list_tuple p1 p2 z⟩
   .exact bc h
   .refine gC (i6 z fy Z p1) λz1 z2 z3 z4=>?_
    have:=f_ h (by rw[gb Y fy];rfl);subst this;exact⟨z2,z4⟩
  .rcases dc (gp h).2 Y with⟨ys,rfl⟩|⟨ys,rfl⟩|fy
   .refine cR (Y.tupAt I Z) λc ws U D J t2 w2 p2 l2=>?_
    subst D;subst J;refine gC (g8 z fx r1 p2) λz1 z2 z3 z4=>?_
    have:=f_ h (by rw[gb rx fx];rfl);subst this;exact⟨z1,z3⟩
   .refine cR (Y.lstAt I Z) λc ws U D J t2 w2 p2 l2=>?_
    subst D;subst J;refine gC (i6 z fx r1 p2) λz1 z2 z3 z4=>?_
    have:=f_ h (by rw[gb rx fx];rfl);subst this;exact⟨z1,z3⟩
   .rw[nS rx Y fx fy h];exact⟨yd r1 Z fx fy,yX r1 Z fx fy⟩
 |succ n ih =>
  intro x y ux uy vx vy b A hu h rx Y r1 Z;have z:A.units<cLine:=by exact(Hg (KW _ _) ‹_›)
  obtain⟨kt,kl⟩:=BG I (λx y {_ _ _ _ _ _} a1 a2 a3 a4 a5 a6=>(ih x y a1 a2 a3 a4 a5 a6).1) hu;rcases dc (gp h).1 rx with⟨xs,rfl⟩|⟨xs,rfl⟩|fx
  .refine cR (rx.tupAt I r1) λa us its e1 a7 t1 w1 p1 l1=>?_
   rcases dc (gp h).2 Y with⟨ys,rfl⟩|⟨ys,rfl⟩|fy
   .have q:=kt h rx Y r1 Z;refine cR (Y.tupAt I Z) λc ws U e2 bt t2 w2 p2 l2=>?_
    subst e1 a7 e2 bt;refine⟨?_,q⟩;by_cases bT:a=c
    .subst bT;have e:=mM I _ _ rx Y;rw[e]at h;rw[ko _ _ h];exact .same _
    .exact .of_refs bT q
   .refine cR (Y.lstAt I Z) λc ws U e2 bt t2 w2 p2 l2=>?_
    subst e1 a7 e2 bt;cases h;exact⟨.tuple_list p1 p2 z,.tuple_list p1 p2 z⟩
   .subst e1 a7;refine gC (g8 z fy Z p1) λz1 z2 z3 z4=>?_
    have:=f_ h (by rw[gb Y fy];rfl);subst this;exact⟨z2,z4⟩
  .refine cR (rx.lstAt I r1) λa us its e1 a7 t1 w1 p1 l1=>?_
   rcases dc (gp h).2 Y with⟨ys,rfl⟩|⟨ys,rfl⟩|fy
   .refine cR (Y.tupAt I Z) λc ws U e2 bt t2 w2 p2 l2=>?_
    subst e1 a7 e2 bt;cases h;exact⟨.list_tuple p1 p2 z,.list_tuple p1 p2 z⟩
   .have q:=kl h rx Y r1 Z;refine cR (Y.lstAt I Z) λc ws U e2 bt t2 w2 p2 l2=>?_
    subst e1 a7 e2 bt;refine⟨?_,q⟩;by_cases bT:a=c
    .subst bT;have e:=mM I _ _ rx Y;rw[e]at h;rw[ko _ _ h];exact .same _
    .exact .of_refs bT q
   .subst e1 a7;refine gC (i6 z fy Z p1) λz1 z2 z3 z4=>?_
    have:=f_ h (by rw[gb Y fy];rfl);subst this;exact⟨z2,z4⟩
  .rcases dc (gp h).2 Y with⟨ys,rfl⟩|⟨ys,rfl⟩|fy
   .refine cR (Y.tupAt I Z) λc ws U D J t2 w2 p2 l2=>?_
    subst D;subst J;refine gC (g8 z fx r1 p2) λz1 z2 z3 z4=>?_
    have:=f_ h (by rw[gb rx fx];rfl);subst this;exact⟨z1,z3⟩
   .refine cR (Y.lstAt I Z) λc ws U D J t2 w2 p2 l2=>?_
    subst D;subst J;refine gC (i6 z fx r1 p2) λz1 z2 z3 z4=>?_
    have:=f_ h (by rw[gb rx fx];rfl);subst this;exact⟨z1,z3⟩
   .rw[nS rx Y fx fy h];exact⟨yd r1 Z fx fy,yX r1 Z fx fy⟩
end
section
variable{X:Cx}
def EY(hu:X.A.units+101<cLine):OpR X (compareOp .Eq) (λz D H Q=>∃x y b,Rep X.K H x z/\Rep X.K H y D/\eqF 100 x y=some b/\Q (.bl b) H):=by
 intro pins s σ H z D v u Q I J U h;refine mX h λx y b Y Z e q=>?_
 exact(qy I 100 x y (KC ‹_›) e Y Z J U).2 _ _ _ _ ⟨.bl b,H,I,rfl,q⟩
def EZ(hu:X.A.units+101<cLine):OpR X (compareOp .NotEq) (λux uy H Q=>∃x y b,Rep X.K H x ux/\Rep X.K H y uy/\tZ x y=true/\eqF 100 x y=some b/\Q (.bl (!b)) H):=by
 intro pins s σ H ux uy v u Q I rx ry h;obtain⟨x,y,b,Z,r2,ok,e,q⟩:=h;rcases dc (gp e).1 Z with⟨xs,rfl⟩|⟨xs,rfl⟩|fx
 .cases y with
  |tup ys =>
   refine cR (Z.tupAt I rx) λa us its D J t1 w1 p1 l1=>?_
   subst D;subst J;refine cR (r2.tupAt I ry) λc ws Y D J t2 w2 p2 l2=>?_
   subst D;subst J;have e:eqL (eqF 99) xs ys=some b:=e;obtain⟨hs,hb⟩:=kr xs ys e;obtain⟨⟨cls,dd,data,sl⟩,ho,hc,n,hd⟩:=id p1;obtain⟨⟨bS,ao,data2,ar⟩,U,aL,n2,a0⟩:=id p2;subst hc hd aL a0;refine Lz (op:=.NotEq) ⟨_,ho,rfl⟩ ⟨_,U,rfl⟩ PySem.F.slot_tuple_ne PySem.F.entry_tuple_ne (PySem.F.args_tuple_ne_2 _ _) (SeqAt.tuple_neAt a c its.toArray Y.toArray n n2 dd ao sl ar _)
    ⟨ho,U,kz (n:=99) (λx y {_ _ _ _ _ _} a1 a2 a3 a4 a5 a6=>(qy I 99 x y a1 a2 a3 a4 a5 a6).1) (by omega) t1 t2 w1 w2 hs,?_⟩ (by omega)
   refine⟨(λx=>nomatch x),⟨.bl (!b),H,I,?_,q⟩⟩;rw[hb];simp[l1,l2,L2.aI]
  | _=>exact dy ok
 .cases y with
  |lst ys =>
   refine cR (Z.lstAt I rx) λa us its D J t1 w1 p1 l1=>?_
   subst D;subst J;refine cR (r2.lstAt I ry) λc ws Y D J t2 w2 p2 l2=>?_
   subst D;subst J;have e:(if xs.length=ys.length then eqL (eqF 99) xs ys else some false)=some b:=e;obtain⟨⟨cls,dd,data,sl⟩,ho,hc,n,hd⟩:=id p1;obtain⟨⟨bS,ao,data2,ar⟩,U,aL,n2,a0⟩:=id p2;simp only at hc hd aL a0;subst hc hd aL a0;by_cases hl:xs.length=ys.length
   .rw[if_pos hl]at e;obtain⟨hs,hb⟩:=kr xs ys e;refine Lz (op:=.NotEq) ⟨_,ho,rfl⟩ ⟨_,U,rfl⟩ PySem.F.slot_list_ne PySem.F.entry_list_ne (PySem.F.args_list_ne_2 _ _) (SeqAt.list_neAt a c its.toArray Y.toArray n n2 dd ao sl ar (by simp only[pd];omega) _)
     ⟨ho,U,kz (n:=99) (λx y {_ _ _ _ _ _} a1 a2 a3 a4 a5 a6=>(qy I 99 x y a1 a2 a3 a4 a5 a6).1) (by omega) t1 t2 w1 w2 hs,?_⟩ (by omega)
    refine⟨(λx=>nomatch x),⟨.bl (!b),H,I,?_,q⟩⟩;rw[hb,hl,Nat.min_self];simp[<- l1,hl,L2.aI]
   .rw[if_neg hl]at e;cases e;refine Lz (op:=.NotEq) ⟨_,ho,rfl⟩ ⟨_,U,rfl⟩ PySem.F.slot_list_ne PySem.F.entry_list_ne (PySem.F.args_list_ne_2 _ _) (SeqAt.list_ne_lengthsAt a c its.toArray Y.toArray n n2 dd ao sl ar (by simp only[pd,bne_iff_ne];omega)) ⟨ho,U,?_⟩ (by omega);exact⟨(λx=>nomatch x),⟨.bl true,H,I,rfl,q⟩⟩
  | _=>exact dy ok
 .have fy:iD uy=true:=by
   rcases dc (gp e).2 r2 with⟨ys,rfl⟩|⟨ys,rfl⟩|fy
   .cases x<;>cases ok
    obtain⟨_,_,rfl,_⟩:∃a us,ux=V.ref a/\_:=by rw[Rep]at Z;exact Z
    exact absurd (show false=true from fx) oe
   .cases x<;>cases ok
    obtain⟨_,_,rfl,_⟩:∃a us,ux=V.ref a/\_:=by rw[Rep]at Z;exact Z
    exact absurd (show false=true from fx) oe
   .exact fy
  have hb:=nS Z r2 fx fy e;subst hb;refine G0 pins s σ H ux uy v u Q I rx ry ?_;have key:scal ux uy=true/\decide (ux=uy)=eqV ux uy:=by
   cases x<;>cases y<;>simp only[Rep]at Z r2<;>first
    | (obtain⟨_,_,rfl,_⟩:=Z;exact absurd (show false=true from fx) oe)
    | (obtain⟨_,_,rfl,_⟩:=r2;exact absurd (show false=true from fy) oe)
    | (obtain⟨_,rfl,_⟩:=Z;exact absurd (show false=true from fx) oe)
    | (obtain⟨_,rfl,_⟩:=r2;exact absurd (show false=true from fy) oe)
    | (subst Z r2;first|(exact dy ok;done)|exact⟨rfl,by first|exact uW|exact xR|exact uX|exact Ka rfl|exact Kn (λz=>by cases z)⟩)
  exact⟨key.1,by rw[key.2];exact q⟩
def kB(I:Inv X pins σ H s)(hu:X.A.units+101<cLine)(rx:Rep X.K H x ux)(r1:aI ux vx)(t:Reps X.K H xs us)(w:aJ us its)(h:isIn x xs=some b) :
  ∃e,(∀y,y∈its.toArray->SeqAt.EqAt X.A.in1 s y vx (e y))/\its.toArray.any e=b:=by
 obtain⟨h1,h2⟩:=vz xs h
 classical
 have D:∀z u y,aI u y->Rep X.K H z u->∀p:(∃z u,aI u y/\Rep X.K H z u),p.choose=z:=λz u y r q p=>by
  refine ae p.choose_spec λu' r' q'=>?_
  have e:=r.inj r';subst e;exact mM I _ _ q' q
 refine⟨λy=>if p:∃z u,aI u y/\Rep X.K H z u then(eqF 100 p.choose x).getD false else false,?_,?_⟩
 .intro y hy;refine bN λZq kq=>?_
  obtain⟨j,hj,e⟩:=getElem_of_mem (by simpa using hy:y∈its);have ej:its[j]?=some y:=by rw[Kc hj,e]
  have l1:=w.length;obtain⟨J,Z⟩:∃J,us[j]?=some J:=⟨_,Kc (by simp[*])⟩;obtain⟨wy,e2,U⟩:=w.get Z;rw[ej]at e2;cases e2;refine ae (t.get' Z) λz e3 Y=>?_
  obtain⟨c,hc⟩:=h1 z (Ln e3);have q:=(qy I 100 z x (A:=X.A.in1) (show X.A.units+1+100<cLine by omega) hc Y rx U r1).1;have p:∃z u,aI u y/\Rep X.K H z u:=⟨z,J,U,Y⟩;have e4:=D z J y U Y p;refine kq ?_
  simp_all
 .rw[h2];simp only[any_toArray];clear h h1 h2
  induction xs generalizing us its with
  |nil =>
   subst t;cases w
   rfl
  |cons z zs ih =>
   obtain⟨u,r,rfl,q,t⟩:=t;cases w with
   |cons rv w =>
    rename_i y ys;have p:∃z u,aI u y/\Rep X.K H z u:=⟨z,u,rv,q⟩;have e4:=D z u y rv q p;rw[any_cons,any_cons,ih t w];simp only[p,dite_true,e4]
def E1(J:X.A.units+101<cLine):OpR X (compareOp .In) (λU Y H Q=>∃x xs a us b,Rep X.K H x U/\Y=.ref a/\(SqL X.K H a us\/SqT X.K H a us)/\Reps X.K H xs us/\isIn x xs=some b/\Q (.bl b) H):=by
 intro pins s σ H U Y v u Q I Z ry h;refine uT h λx xs a us b r1 D z r2 e q=>?_
 subst D;subst ry;rcases z with z|z
 .obtain⟨its,r,pl,hz⟩:=I.list z;obtain⟨f,h1,h2⟩:=kB I J r1 Z r2 r e;refine SeqAt.in_listAt f pl.isList h1 ?_;rw[h2];exact⟨.bl b,H,I,rfl,q⟩
 .obtain⟨its,r,pl,hz⟩:=I.tuple z;obtain⟨f,h1,h2⟩:=kB I J r1 Z r2 r e;refine SeqAt.in_tupleAt f pl h1 ?_;rw[h2];exact⟨.bl b,H,I,rfl,q⟩
def wN(J:X.A.units+101<cLine):OpR X (compareOp .NotIn) (λU Y H Q=>∃x xs a us b,Rep X.K H x U/\Y=.ref a/\(SqL X.K H a us\/SqT X.K H a us)/\Reps X.K H xs us/\isIn x xs=some b/\Q (.bl (!b)) H):=by
 intro pins s σ H U Y v u Q I Z ry h;refine uT h λx xs a us b r1 D z r2 e q=>?_
 subst D;subst ry;rcases z with z|z
 .obtain⟨its,r,pl,hz⟩:=I.list z;obtain⟨f,h1,h2⟩:=kB I J r1 Z r2 r e;refine SeqAt.notIn_listAt f pl.isList h1 ?_;rw[h2];exact⟨.bl (!b),H,I,rfl,q⟩
 .obtain⟨its,r,pl,hz⟩:=I.tuple z;obtain⟨f,h1,h2⟩:=kB I J r1 Z r2 r e;refine SeqAt.notIn_tupleAt f pl h1 ?_;rw[h2];exact⟨.bl (!b),H,I,rfl,q⟩
end
end MM
namespace L2
open PySem PySem.Spec PyProof.Rows List Option
theorem PE.imp(h:PE X e t)(i:∀σ H Q,t' σ H Q->t σ H Q):PE X e t':=λpins s σ H Q I q=>h pins s σ H Q I (i σ H Q q)
theorem PT.imp(h:PT X e t)(i:∀σ H Q,t' σ H Q->t σ H Q):PT X e t':=λpins s σ H Q I q=>h pins s σ H Q I (i σ H Q q)
theorem PA.imp(h:PA X e t)(i:∀σ H Q,t' σ H Q->t σ H Q):PA X e t':=λpos pins s σ H Q I q=>h pos pins s σ H Q I (i σ H Q q)
theorem PS.imp(h:PS X e t)(i:∀D σ H,t' D σ H->t D σ H):PS X e t':=λpins s σ H D I q=>h pins s σ H D I (i D σ H q)
theorem PSs.imp(h:PSs X e t)(i:∀D σ H,t' D σ H->t D σ H):PSs X e t':=λpins s σ H D I q=>h pins s σ H D I (i D σ H q)
theorem PI.imp(h:PI X tg e t)(i:∀σ H R,t' σ H R->t σ H R):PI X tg e t':=λpins s σ H R I q=>h pins s σ H R I (i σ H R q)
end L2
namespace MM
open PySem PySem.Spec PyProof.Rows L2 List Option
noncomputable def fF(H:Hp)(ms:List Addr):Hp:=λb=>if b∈ms then none else H b
def wO{H:Hp}{O:List Addr}{a l:Addr}(ha:a∈O)(D:l∈O):aj (fF H [a,l]) O=aj H O:=by
 funext b
 by_cases q:b∈O
 .rw[ez q,ez q]
 .rw[a9 q,a9 q];unfold fF;rw[if_neg λz=>q (by
   rcases pe.mp z with rfl|z
   .exact ha
   .rw[Kd.mp z];exact D)]
theorem nT{α q:Type}{F G:α->q->Prop}(h:∀a b,F a b->G a b):∀{as:List α}{bs:List q},Paired F as bs->Paired G as bs
 | _,_,.nil=>.nil
 | _,_,.cons x t=>.cons (h _ _ x) (nT h t)
def gc(K:M5)(O:List Addr)(H:Hp):MV->V->Prop
 | .val v,u=>Rep K (aj H O) v u
 | .brw xs,u=>∃a us,u=.ref a/\SqL K H a us/\Reps K (aj H O) xs us
 | .own _,_=>False
 | .ownD _,_=>False
 | .ownO _ _ _,_=>False
 | .brwO fs xs,u=>∃a,u=.ref a/\d4 K H (aj H O) fs xs a
 | .brwD kvs,u=>∃a,u=.ref a/\Rd H a (my kvs)
noncomputable def spM(K:M5)(cal:Cal)(f:Nat):Sp:=λvs H Q _ =>
 ∃O args r,(∀a∈O,H a≠none)/\Paired (gc K O H) args vs/\cal f args=some r/\∀u H',af H H'->Rep K (aj H' O) r u->Q u H'
noncomputable def spF(K:M5)(cal:Cal)(f:Nat):Sp:=λvs H Q _ =>
 ∃O args xs,(∀a∈O,H a≠none)/\Paired (gc K O H) args vs/\cal (f+1000) args=some (.lst xs)/\∀p us H',af H H'->H p=none->H' p=some (.lst us)->Reps K (aj H' (p::O)) xs us->Q (.ref p) H'
noncomputable def spT(K:M5)(cal:Cal)(f:Nat):Sp:=λvs H Q _ =>
 ∃(O:List Addr) (a l:Addr) (fs xs:List PV) (as:List MV) (q:List V) (v:Sc) (ys:List PV),vs=.ref a::q/\(∀b∈O,H b≠none)/\dH K (λ_=>none) O H fs xs a l/\Paired (gc K O (fF H [a,l])) as q/\cal (f+3000) (.ownO true fs xs::as)=some (.tup [v.pv,.lst ys]) /\
  ∀l' H',(∀b o,b≠a->b≠l->H b=some o->H' b=some o)->(l'=l\/H l'=none)->dH K (λ_=>none) (l'::O.filter λb=>decide (b≠l)) H' fs ys a l'->Q v.v H'
noncomputable def rX (c r o:V) (l:Addr):List (Str×V):=b9 "taken" (.ref l) (b9 "opener" o (b9 "ribbons" r (b9 "hole_count" c [])))
noncomputable def spI(K:M5)(C:Addr):Sp:=λvs H Q _ =>
 ∃(x dx q:Addr) (c r o:V),vs=[.ref x,.ref q,o]/\H x=some (.ins C dx [])/\SqT K H q [c,r] /\
  ∀(l:Addr) (H':Hp),H l=none->H' x=some (.ins C dx (rX c r o l))->H' l=some (.lst [])->(∀b u,b≠x->H b=some u->H' b=some u)->Q .non H'
noncomputable def kC:List String:=["len","tuple","list","sorted","any","all","sum","max","min","int","bool","str","isinstance","set","range","enumerate","reversed"
 ]
noncomputable def toV:PV->V
 | .non=>.non
 | .bl b=>.bl b
 | .int i=>.int i
 | .str x=>.str x
 | _=>.non
structure Gf(X:Cx)(T:Tab)(k:Nat)(cal:Cal):Prop where
 calm:X.calm=true
 room:dA k X.A
 fns:∀(f:Nat) (x:Str),T.fs[f]?=some x->aN x=true->∃(fa:Addr) (fd:FuncData) (ps:List Str),X.mg x=some (.ref fa)/\PySem.W.keepIn X.K (.ref fa)=true/\aW X.K fd ps []/\cT X.prog X.w X.K X.mg X.base CX0 k fa fd ps (spM X.K cal f)/\∀l,T.ds[f]?=some l->∃vs,aW X.K fd ps vs/\aJ (l.map Sc.v) vs
 blt:∀x∈kC,X.mg (x:Str)=none
 gs:∀p∈T.gs,∃u,X.mg p.1=some u/\aI (toV p.2) u
 cls:∀C,IsC X.K C->Cls X.K C/\(∀x∈jA,cq X.K C x)/\cq X.K C "taken"
 meths:∀(f:Nat) (m:Str),T.ms[f]?=some (some m)->∀C,IsC X.K C->∃(fa:Addr) (fd:FuncData) (ps:List Str),jb X.K C m fa/\aW X.K fd ps []/\cT X.prog X.w X.K X.mg X.base CX0 k fa fd ps (spM X.K cal f)
 methsT:∀(f:Nat) (m:Str),T.ms[f]?=some (some m)->∀C,IsC X.K C->∃(fa:Addr) (fd:FuncData) (ps:List Str),jb X.K C m fa/\aW X.K fd ps []/\cT X.prog X.w X.K X.mg X.base CX0 k fa fd ps (spT X.K cal f)
 lvl:cal 4000 []≠none->dA 2 X.A
 ini:cal 4000 []≠none->∃C,IsC X.K C/\X.mg ("Table":Str)=some (.ref C)/\∃(fa:Addr) (fd:FuncData) (ps:List Str),Mk X.K C fa/\aW X.K fd ps []/\cT X.prog X.w X.K X.mg X.base CX0 1 fa fd ps (spI X.K C)/\∃vs,aW X.K fd ps vs/\aJ [V.str "weaver"] vs
 fnsF:∀(f:Nat) (x:Str),T.fs[f]?=some x->aN x=true->∃(fa:Addr) (fd:FuncData) (ps:List Str),X.mg x=some (.ref fa)/\PySem.W.keepIn X.K (.ref fa)=true/\aW X.K fd ps []/\cT X.prog X.w X.K X.mg X.base CX0 k fa fd ps (spF X.K cal f)
theorem Gf.units(g:Gf X T k cal):X.A.units+200<cLine:=by have:=g.room.un;omega
def Got(K:M5)(H:Hp)(O:List Addr)(me:ME)(v:PV)(u:V):Prop:=bQ K H O v u/\(bb me=false->Rep K (aj H O) v u)
noncomputable def tE(K:M5)(cal:Cal)(me:ME):TE:=λσ H Q=>∃B E O G v,aX K B E O H G σ/\ev cal me G=some v/\∀u H',af H H'->Got K H' O me v u->Q u H'
noncomputable def tT(K:M5)(cal:Cal)(me:ME):TT:=λσ H Q=>∃B E O G b,aX K B E O H G σ/\evB cal me G=some b/\∀H',af H H'->Q b H'
def JF(K:M5)(H:Hp)(O:List Addr)(ms:List ME)(vs:List PV)(us:List V):Prop:=Paired (bQ K H O) vs us/\((ms.all λm=>!bb m)=true->Reps K (aj H O) vs us)
noncomputable def tEs(K:M5)(cal:Cal)(ms:List ME):TA:=λσ H Q=>∃B E O G vs,aX K B E O H G σ/\evs cal ms G=some vs/\∀us H',af H H'->JF K H' O ms vs us->Q us H'
noncomputable def tAs(K:M5)(cal:Cal)(ms:List ME):TA:=λσ H Q=>∃B E O G vs,aX K B E O H G σ/\evA cal ms G=some vs/\∀us H',af H H'->Paired (gc K O H') vs us->Q us H'
section
variable{K:M5}{H H':Hp}{O:List Addr}
theorem Got.of(h:Rep K (aj H O) v u):Got K H O me v u:=⟨.inl h,λ_=>h⟩
theorem Got.scal(h:∀F,Rep K F v u):Got K H O me v u:=.of (h _)
theorem Got.mono(s:af H H')(h:Got K H O me v u):Got K H' O me v u:=⟨h.1.mono s,λe=>Rep.mono (ak s) _ (h.2 e)⟩
def c9(F)(b):Rep K F (.bl b) (.bl b):=rfl
def bB(F)(b):Rep K F (.int b) (.int b):=rfl
def eE(F)(b):Rep K F (.str b) (.str b):=rfl
def qz(F):Rep K F .non .non:=rfl
def kD(D:∀a∈O,H1 a≠none)(q:H1 p=none)(h:Reps K (aj H1 O) xs us):Rep K (aj (upd H1 p (.tup us)) O) (.tup xs) (.ref p):=by
 refine⟨p,us,rfl,?_,Reps.mono (ak (bC q _)) _ h⟩;rw[a9 (λz=>D p z q)];exact aA
def rY(D:∀a∈O,H1 a≠none)(q:H1 p=none)(h:Reps K (aj H1 O) xs us):Rep K (aj (upd H1 p (.lst us)) O) (.lst xs) (.ref p):=by
 refine⟨p,us,rfl,SqL.of ?_,Reps.mono (ak (bC q _)) _ h⟩;rw[a9 (λz=>D p z q)];exact aA
def cr(s:af H H')(h:∀a∈O,H a≠none):∀a∈O,H' a≠none:=λa ha e=>h a ha (s.free e)
def gK(h:n<=10000):n<=sizeLine:=xb h (by decide)
end
section
variable{X:Cx}{T:Tab}{k:Nat}{cal:Cal}
def Hs(h:EB sc x=true):Vis sc x:=by
 unfold EB at h;simp[J7]at h;rcases h with(h|h)|h
 .exact .inl h
 .exact .inr (.inl h)
 .exact .inr (.inr h)
def ip(h:g6 sc x=true):Loc sc x:=by
 unfold g6 at h;simp[J7]at h;exact h
def mN (h:aN x=true):(x==("__debug__":Str))=false/\(x==("__classdict__":Str))=false/\x ≠ "__name__":=by simp_all [aN]
def eS(h:glB X.env.scope x=true):Gl X x:=by
 unfold glB at h;simp at h;exact h
def cO(h:aE X.N X.env.scope i x=true):PE X (.Name x pos) (cA i):=by
 unfold aE at h;simp[ow,J7]at h;obtain⟨⟨h1,h2⟩,h3⟩:=h;refine jP (mN h3) λp1 p2 _=>?_
 exact xD h1 (Hs h2) p1 p2
def bX{K:M5}(st:aX K B E O H G σ){i:Nat}(e:(G[i]?).join=some m):∃u,σ[i]?=some (some u)/\eQ K B O H m u:=st.slot i m (join_some e)
def Da{i:Nat}{x:Str}{pos:Pos}(h:aE X.N X.env.scope i x=true):PE X (.Name x pos) (tE X.K cal (.var i)):=by
 refine(cO h).imp λσ H Q J=>?_
 obtain⟨B,E,O,G,v,st,z,q⟩:=J;rw[ev]at z;cases D:(G[i]?).join with
 |none=>rw[D]at z;cases z
 |some m =>
  rw[D]at z;cases m with
  |val w =>
   simp only[yI,ox]at z;subst z;obtain⟨u,U,r⟩:=bX st D;exact⟨u,U,q u H (af.refl H) (.of r)⟩
  |own _=>cases z
  |brw _=>cases z
  |ownD _=>cases z
  |ownO _ _ _=>cases z
  |brwO _ _=>cases z
  |brwD _=>cases z
def Db(h:aE X.N X.env.scope i x=true):PE X (.Name x pos) (tE X.K cal (.bor i)):=by
 refine(cO h).imp λσ H Q U=>?_
 refine bD U λB E O G v st D q=>?_
 rw[ev]at D;cases J:(G[i]?).join with
 |none=>rw[J]at D;exact bc D
 |some m =>
  rw[J]at D;refine ae (bX st J) λu Y r=>?_
  exact⟨u,Y,q u H (af.refl H) ⟨r.bor st.keep D,λz=>sW z⟩⟩
def Dc(h:t8 v c=true):PE X (.Constant c j pos) (tE X.K cal (.cst v)):=by
 have key:∀u,(∀F,Rep X.K F v u)->PE X (.Constant c j pos) _->PE X _ (tE X.K cal (.cst v)):=λu r p=>p.imp λσ H Q z=>by
  refine bD z λB E O G w st D q=>?_
  cases D;exact q u H (af.refl H) (.scal r)
 cases v<;>cases c<;>simp[t8,KJ,J7]at h
 .exact key .non (λF=>qz F) kX
 .subst h;exact key _ (λF=>c9 F _) xE
 .subst h;exact key _ (λF=>bB F _) jr
 .subst h;exact key _ (λF=>eE F _) DN
def yY(g:Gf X T k cal)(h:(x==y&&glB X.env.scope x&&C7 T.gs x v&&aN x)=true):PE X (.Name y pos) (tE X.K cal (.glob x v)):=by
 simp[ow,J7]at h;obtain⟨⟨⟨rfl,Y⟩,Z⟩,hp⟩:=h;refine ae (KY.mp Z) λp U J=>?_
 simp[ow,J7]at J;obtain⟨rfl,D⟩:=J;refine ae (g.gs p U) λu e1 r=>?_
 have e:p.2=v/\∀F,Rep X.K F v (toV v):=by
  revert D;generalize p.2=z;intro D;cases z<;>cases v<;>simp[C6,KJ,J7]at D
  .exact⟨rfl,λF=>qz F⟩
  .subst D;exact⟨rfl,λF=>c9 F _⟩
  .subst D;exact⟨rfl,λF=>bB F _⟩
  .subst D;exact⟨rfl,λF=>eE F _⟩
 rw[e.1]at r;refine(uV (eS Y) e1 r (mN hp).1).imp λσ H Q hq=>?_
 refine bD hq λB E O G w st he q=>?_
 cases he;exact q _ H (af.refl H) (.scal e.2)
end
section
variable{X:Cx}
noncomputable def R2M(K:M5)(f:PV->PV->Option PV):R2:=λq z H Q =>
 ∃O x y v,(∀a∈O,H a≠none)/\bQ K H O x q/\bQ K H O y z/\f x y=some v/\∀u H',af H H'->Rep K (aj H' O) v u->Q u H'
def lC{g:Int->Int->Int}(h:OpR X (binaryOp op) (rI C λi j=>.int (g i j)))
  (U:∀x y v,f x y=some v->∃i j,x=.int i/\y=.int j/\C i j/\v=.int (g i j)):OpR X (binaryOp op) (R2M X.K f):=by
 intro pins s σ H ux uy v u Q I Y Z hq;refine bN λZq kq=>?_
 refine mY hq λO x y w hO r1 r2 e q=>?_
 refine ij (U x y w e) λi j z D c J=>?_
 subst z;subst D;subst J;have e1:=r1.int;have e2:=r2.int;subst e1 e2;refine kq ?_;exact h pins s σ H _ _ v u Q I Y Z ⟨i,j,rfl,rfl,c,q _ H (af.refl H) (bB _ _)⟩
def BH:OpR X (binaryOp .Add) (λx y H Q=>∃l b xs zs,x=.ref l/\y=.ref b/\SqL X.K H l xs/\SqL X.K H b zs/\xs.length+zs.length<=sizeLine/\∀p,H p=none->Q (.ref p) (upd H p (.lst (xs++zs)))):=by
 intro pins s σ H x y v u Q I rx ry h;obtain⟨l,b,xs,zs,rfl,rfl,hH,hB,hz,q⟩:=h;subst rx;subst ry;refine a8 (I.list hH) λits r pl _=>?_
 refine a8 (I.list hB) λz r2 Y _=>?_
 refine bN λZq kq=>?_
 have l1:=r.length;have l2:=r2.length;obtain⟨⟨cls,dd,data,sl⟩,ho,hc,n,hd⟩:=pl.isList;obtain⟨⟨aL,Z,data2,ao⟩,D,J,n2,U⟩:=Y.isList;simp only at hc hd J U;subst hc hd J U;have e:its.toArray++z.toArray=(its++z).toArray:=by simp
 refine kq ?_;refine MO ⟨_,ho,rfl⟩ ⟨_,D,rfl⟩ noFill_list_add seq_list_add PySem.F.slot_list_add PySem.F.entry_list_add (PySem.F.args_list_add_2 _ _) (list_addW l b its.toArray z.toArray n n2 dd Z sl ao (by rw[pd,pd];omega)) ⟨ho,D,?_⟩;rw[e];exact⟨.ref _,_,I.lnew (t':=s.toks) (r.append r2) (by rw[Kj];omega),rfl,q _ I.fresh⟩
def BI:OpR X (binaryOp .Add) (λx y H Q=>∃a b ys,x=.ref a/\y=.ref b/\SqT X.K H a []/\SqT X.K H b ys/\Q (.ref b) H):=by
 intro pins s σ H x y v u Q I rx ry h;refine bN λZq kq=>?_
 refine oZ h λa b ys Y Z ha hb q=>?_
 subst Y;subst Z;subst rx;subst ry;obtain⟨its,r1,⟨⟨c1,d1,t1,l1⟩,ho,hc,n,hd⟩,_⟩:=I.tuple ha;obtain⟨J,r2,⟨⟨c2,d2,t2,l2⟩,U,ao,n2,ar⟩,_⟩:=I.tuple hb;subst hc;subst hd;subst ao;subst ar;have z:=r1.nil_iff.mpr rfl;have D:=tuple_addW0 a b its.toArray J.toArray n n2 d1 d2 l1 l2 (by simp[z]);refine kq ?_;exact MO ⟨_,ho,rfl⟩ ⟨_,U,rfl⟩ MP seq_tuple_add PySem.F.slot_tuple_add PySem.F.entry_tuple_add (PySem.F.args_tuple_add_2 _ _) D ⟨ho,U,.ref b,H,I,rfl,q⟩
def dw(h:ke f x y=some v):∃i j,x=.int i/\y=.int j/\f i j=some v:=by
 cases x<;>try (exact bc h;done)
 cases y<;>try (exact bc h;done)
 exact⟨_,_,rfl,rfl,h⟩
def kE{C:Int->Int->Prop} [∀i j,Decidable (C i j)] {g:Int->Int->Int}{x y v:PV} (h:ke (λi j=>if C i j then some (.int (g i j))else none) x y=some v):∃i j,x=.int i/\y=.int j/\C i j/\v=.int (g i j):=by
 refine au (dw h) λi j z D q=>?_
 by_cases c:C i j
 .rw[if_pos c]at q;exact⟨i,j,z,D,c,(vr q).symm⟩
 .rw[if_neg c]at q;exact bc q
def E2(op):OpR X (binaryOp (ES op)) (R2M X.K (gG op)):=by
 cases op with
 |sub=>exact lC (C:=λ_ _=>True) (g:=λi j=>i-j) (λpins s σ H x y v u Q I J U h=>DZ pins s σ H x y v u Q I J U (by obtain⟨i,j,Y,Z,_,q⟩:=h;exact⟨i,j,Y,Z,q⟩)) (λx y v h=>by
   refine au (dw h) λi j Y Z e3=>?_
   exact⟨i,j,Y,Z,trivial,(vr e3).symm⟩)
 |mul=>exact lC D_ λx y v h=>by have q:=kE h;exact q
 |fdiv=>exact lC A5 λx y v h=>by have q:=kE h;exact q
 |mod=>exact lC Ea λx y v h=>by have q:=kE h;exact q
 |pow=>exact lC Ec λx y v h=>by have q:=kE h;exact q
 |shr=>exact lC Ed λx y v h=>by have q:=kE h;exact q
 |add =>
  intro pins s σ H ux uy v u Q I J U hq;refine mY hq λO x y w hO r1 r2 e q=>?_
  cases x<;>try (exact bc e;done)
  all_goals (cases y<;>simp only[gG,C3]at e<;>try (exact bc e;done))
  .cases e;have Y:=r1.int;have Z:=r2.int;subst Y Z;exact DY pins s σ H _ _ v u Q I J U ⟨_,_,rfl,rfl,q _ H (af.refl H) (bB _ _)⟩
  .split at e
   .rename_i c;cases e;have Y:=r1.str;have Z:=r2.str;subst Y Z;exact ti pins s σ H _ _ v u Q I J U ⟨_,_,rfl,rfl,xb c (by decide),q _ H (af.refl H) (eE _ _)⟩
   .exact bc e
  .split at e
   .rename_i c;cases e;refine au r1.tup λa us D s1 t1=>?_
    subst D;refine au r2.tup λb ws D s2 t2=>?_
    subst D;have l1:=t1.length;have l2:=t2.length;have w1:=r1.tupR;have w2:=r2.tupR;by_cases z0:us=[]
    .subst z0;have z1:=eq_nil_of_length_eq_zero l1;subst z1;exact BI pins s σ H _ _ v u Q I J U ⟨a,b,ws,rfl,rfl,s1,s2,q _ H (af.refl H) w2⟩
    refine Bd pins s σ H _ _ v u Q I J U ⟨a,b,us,ws,rfl,rfl,s1,s2,z0,gK (by omega),λz=>?_,λz p hp=>?_⟩
    .rw[z,length_nil]at l2;have z1:=eq_nil_of_length_eq_zero l2;subst z1;rw[LG]at q;exact q _ H (af.refl H) w1
    .exact q _ _ (bC hp _) (kD hO hp (t1.append t2))
   .exact bc e
  .split at e
   .rename_i c;cases e;refine au r1.lst λa us D s1 t1=>?_
    subst D;refine au r2.lst λb ws D s2 t2=>?_
    subst D;have l1:=t1.length;have l2:=t2.length;exact BH pins s σ H _ _ v u Q I J U ⟨a,b,us,ws,rfl,rfl,s1,s2,gK (by omega),λp hp=>q _ _ (bC hp _) (rY hO hp (t1.append t2))⟩
   .exact bc e
noncomputable def R2C(K:M5)(f:PV->PV->Option Bool):R2:=λq z H Q =>
 ∃O x y b,bQ K H O x q/\bQ K H O y z/\f x y=some b/\Q (.bl b) H
def mO{g:Int->Int->Bool}(h:OpR X (compareOp op) (rI0 λi j=>.bl (g i j)))
  (U:∀x y v,f x y=some v->∃i j,x=.int i/\y=.int j/\v=g i j):OpR X (compareOp op) (R2C X.K f):=by
 intro pins s σ H ux uy v u Q I Y Z hq;refine bN λZq kq=>?_
 refine qW hq λO x y w r1 r2 e q=>?_
 refine au (U x y w e) λi j z D J=>?_
 subst z;subst D;subst J;have e1:=r1.int;have e2:=r2.int;subst e1 e2;refine kq ?_;exact h pins s σ H _ _ v u Q I Y Z ⟨i,j,rfl,rfl,q⟩
def E3:OpR X (compareOp .Is) (λx y H Q=>∃p q,x=.bl p/\y=.bl q/\Q (.bl (p==q)) H):=by
 rintro pins s σ H x y v u Q I z D ⟨p,q,rfl,rfl,J⟩;subst z;subst D;exact mu (cy I J (by cases p<;>cases q<;>rfl))
def wP:OpR X (compareOp .IsNot) (λx y H Q=>∃p q,x=.bl p/\y=.bl q/\Q (.bl (!(p==q))) H):=by
 rintro pins s σ H x y v u Q I z D ⟨p,q,rfl,rfl,J⟩;subst z;subst D;exact mu (cy I J (by cases p<;>cases q<;>rfl))
def vB{K:M5}{x:PV}{u:V}(r:bQ K H O x u):decide (u=.non)=iG x:=by
 cases x with
 |non=>rw[r.non];rfl
 |bl b=>rw[r.bl];rfl
 |int b=>rw[r.int];rfl
 |str b=>rw[r.str];rfl
 |tup xs=>obtain⟨a,us,rfl,_⟩:=r.tup;rfl
 |lst xs=>obtain⟨a,us,rfl,_⟩:=r.lst;rfl
 |dI kvs=>obtain⟨a,rfl,_⟩:=r.dI;rfl
def gq(hu:X.A.units+200<cLine)(op):OpR X (compareOp (g7 op)) (R2C X.K (cN op)):=by
 cases op with
 |lt=>exact mO G1 λx y v h=>by obtain⟨i,j,D,z,e3⟩:=dw h;exact⟨i,j,D,z,(vr e3).symm⟩
 |le=>exact mO G2 λx y v h=>by obtain⟨i,j,D,z,e3⟩:=dw h;exact⟨i,j,D,z,(vr e3).symm⟩
 |gt=>exact mO G3 λx y v h=>by obtain⟨i,j,D,z,e3⟩:=dw h;exact⟨i,j,D,z,(vr e3).symm⟩
 |ge=>exact mO G4 λx y v h=>by obtain⟨i,j,D,z,e3⟩:=dw h;exact⟨i,j,D,z,(vr e3).symm⟩
 |eq =>
  intro pins s σ H ux uy v u Q I J U hq;refine qW hq λO x y w Y Z e q=>?_
  exact EY (by omega) pins s σ H ux uy v u Q I J U ⟨x,y,w,Y.whole,Z.whole,e,q⟩
 |ne =>
  intro pins s σ H ux uy v u Q I J U hq;refine qW hq λO x y w Y Z e q=>?_
  simp only[cN]at e;split at e
  .rename_i c;simp only[tr]at e;obtain⟨b,e,rfl⟩:=e;exact EZ (by omega) pins s σ H ux uy v u Q I J U ⟨x,y,b,Y.whole,Z.whole,c,e,q⟩
  .exact bc e
 |isN =>
  intro pins s σ H ux uy v u Q I J U hq;obtain⟨O,x,y,w,Y,Z,e,q⟩:=hq;cases y<;>try (exact bc e;done)
  .have z:=Z.non;subst z;refine Ee pins s σ H ux _ v u Q I J U ⟨rfl,?_⟩;have e:=e;rw[vB Y,vr e];exact q
  .cases x<;>try (exact bc e;done)
   have D:=Y.bl;have z:=Z.bl;subst D z;exact E3 pins s σ H _ _ v u Q I J U ⟨_,_,rfl,rfl,by rw[vr e];exact q⟩
 |notN =>
  intro pins s σ H ux uy v u Q I J U hq;obtain⟨O,x,y,w,Y,Z,e,q⟩:=hq;cases y<;>try (exact bc e;done)
  .have z:=Z.non;subst z;refine A7 pins s σ H ux _ v u Q I J U ⟨rfl,?_⟩;have e:some (!iG x)=some w:=e;rw[vB Y,vr e];exact q
  .cases x<;>try (exact bc e;done)
   have D:=Y.bl;have z:=Z.bl;subst D z;cases e;exact wP pins s σ H _ _ v u Q I J U ⟨_,_,rfl,rfl,q⟩
 |isIn =>
  intro pins s σ H ux uy v u Q I J U hq;refine qW hq λO x y w Y Z e q=>?_
  simp only[cN,ll]at e;obtain⟨xs,D,z⟩:=e;refine au (Z.seq D) λa us a1 s2 t2=>?_
  subst a1;exact E1 (by omega) pins s σ H ux _ v u Q I J U ⟨x,_,a,us,w,Y.whole,rfl,s2,Reps.mono (be H O) _ t2,z,q⟩
 |notIn =>
  intro pins s σ H ux uy v u Q I J U hq;refine qW hq λO x y w Y Z e q=>?_
  simp only[cN,ll,tr]at e;obtain⟨b,⟨xs,D,z⟩,rfl⟩:=e;refine au (Z.seq D) λa us a1 s2 t2=>?_
  subst a1;exact wN (by omega) pins s σ H ux _ v u Q I J U ⟨x,_,a,us,b,Y.whole,rfl,s2,Reps.mono (be H O) _ t2,z,q⟩
def rZ(n)(i):place n i=ixN n i:=rfl
def E4:IxR X (R2M X.K kf):=by
 intro value slice pins s σ H ux uy v u Q I rx ry hq z;refine mY hq λO x y w hO r1 r2 e q=>?_
 cases x<;>cases y<;>simp only[kf]at e<;>try (exact bc e;done)
 .simp only[ll]at e;obtain⟨j,Y,Z⟩:=e;obtain⟨a,us,rfl,s1,J⟩:=r1.tup;have e3:=r2.int;subst e3;obtain⟨U,e4,D⟩:=J.get Z;refine yc value slice pins s σ H _ _ v u Q I rx ry (.inr (.inl ⟨a,us,_,U,rfl,rfl,s1,?_,q U H (af.refl H) D⟩)) z;unfold atI;rw[<- J.length,<- rZ,Y];exact e4
 .simp only[ll]at e;obtain⟨j,Y,Z⟩:=e;obtain⟨a,us,rfl,s1,J⟩:=r1.lst;have e3:=r2.int;subst e3;obtain⟨U,e4,D⟩:=J.get Z;refine yc value slice pins s σ H _ _ v u Q I rx ry (.inl ⟨a,us,_,U,rfl,rfl,s1,?_,q U H (af.refl H) D⟩) z;unfold atI;rw[<- J.length,<- rZ,Y];exact e4
def t9(h:eK b=true):u_ b:=by
 intro o i;cases b<;>first|rfl|(injection h)
def r_{K:M5}(h:Reps K F xs us)(lo hi):Reps K F (cut xs lo hi) (rA us lo hi):=by
 have q:=h.length;have e:∀n d o,fY n d o=HT.sIx n d o:=λn d o=>by cases o<;>rfl
 unfold cut rA;rw[e,e,q];exact(h.drop _).take _
def E5:SlR X (λx lo hi H Q=>∃O v w,(∀a∈O,H a≠none)/\bQ X.K H O v x/\kg v lo hi=some w/\∀u H',af H H'->Rep X.K (aj H' O) w u->Q u H'):=by
 intro pins s σ H x v J U lo hi Y Q I Z hs pl pu hq;refine mX hq λO pv w hO r1 e q=>?_
 cases pv<;>simp only[kg]at e<;>try (exact bc e;done)
 .rename_i xs;cases e;obtain⟨a,us,rfl,s1,z⟩:=r1.tup;have e:∀n d o,fY n d o=HT.sIx n d o:=λn d o=>by cases o<;>rfl
  by_cases hn:HT.sIx us.length 0 lo=0/\HT.sIx us.length us.length hi=us.length
  .refine Bw pins s σ H _ v J U lo hi Y Q I Z hs pl pu ⟨a,us,rfl,s1,hn.1,hn.2,q _ _ (af.refl H) ?_⟩;have:cut xs lo hi=xs:=by
    unfold cut;rw[e,e,z.length,hn.1,hn.2,drop_zero,<- z.length,Nat.sub_zero,take_length]
   rw[this];exact r1.tupR
  .exact Ej pins s σ H _ v J U lo hi Y Q I Z hs pl pu ⟨a,us,rfl,s1,hn,λp D=>q _ _ (bC D _) (kD hO D (r_ z lo hi))⟩
 .cases e;obtain⟨a,us,rfl,s1,z⟩:=r1.lst;exact Bf pins s σ H _ v J U lo hi Y Q I Z hs pl pu ⟨a,us,rfl,s1,λp D=>q _ _ (bC D _) (rY hO D (r_ z lo hi))⟩
end
theorem vC(x):∀l,yG x l=Srt.mr Srt.dD x l
 | []=>rfl
 |y::r=>by
  show(if y<x then y::yG x r else x::y::r)=(if Srt.dD.blt y x=true then y::Srt.mr Srt.dD x r else x::y::r);rw[vC x r];by_cases h:y<x
  .have e:Srt.dD.blt y x=true:=Ka h;rw[if_pos h,if_pos e]
  .have e:Srt.dD.blt y x=false:=Kn h;rw[if_neg h,if_neg (by rw[e];exact oe)]
theorem dM:∀l,sortI l=Srt.sortI l
 | []=>rfl
 |x::r=>by
  show yG x (sortI r)=Srt.mr Srt.dD x (Srt.il Srt.dD r);rw[dM r,vC];rfl
theorem kG:∀a b,lexLt a b=HT.lexLt a b
 | [],[]=>rfl
 | [],_::_=>rfl
 | _::_,[]=>rfl
 |x::xs,y::ys=>by
  rw[lexLt,HT.lexLt_cons,kG xs ys]
theorem vD(x):∀l,yH x l=Srt.mr Srt.dZ x l
 | []=>rfl
 |y::r=>by
  show(if lexLt y x=true then y::yH x r else x::y::r)=(if Srt.dZ.blt y x=true then y::Srt.mr Srt.dZ x r else x::y::r);rw[vD x r,kG]
  rfl
theorem fG:∀l,sortT l=Srt.sortT l
 | []=>rfl
 |x::r=>by
  show yH x (sortT r)=Srt.mr Srt.dZ x (Srt.il Srt.dZ r);rw[fG r,vD];rfl
theorem sd:∀l,dd l=St.dd l
 | []=>rfl
 |x::r=>by
  unfold dd St.dd;rw[sd r]
def BJ(ns):Srt.sortI (St.dd ns.reverse)=sortI (dd ns):=by
 rw[dM,sd];refine Srt.sortI_of_perm ?_;refine(LD (St.dd_nodup _) (St.dd_nodup _)).mpr λa=>?_
 rw[St.jv,St.jv,mem_reverse]
def E6(ns):(St.dd ns.reverse).length=(dd ns).length:=by
 rw[sd];refine Perm.length_eq ((LD (St.dd_nodup _) (St.dd_nodup _)).mpr λa=>?_);rw[St.jv,St.jv,mem_reverse]
section
variable{X:Cx}{T:Tab}{k:Nat}{cal:Cal}
def RBM(K:M5)(f:List PV->Option PV):List V->Hp->VK->Prop:=λus H Q =>
 ∃O vs v,(∀a∈O,H a≠none)/\Paired (bQ K H O) vs us/\f vs=some v/\∀u H',af H H'->Rep K (aj H' O) v u->Q u H'
def p1{K:M5}(h:Paired (bQ K H O) [x] us):∃u,us=[u]/\bQ K H O x u:=by
 cases h with
 |cons r t=>cases t;exact⟨_,rfl,r⟩
def p2{K:M5}(h:Paired (bQ K H O) [x,y] us):∃u w,us=[u,w]/\bQ K H O x u/\bQ K H O y w:=by
 cases h with
 |cons r t=>cases t with
  |cons q t'=>cases t';exact⟨_,_,rfl,r,q⟩
def d6(h:aM f vs=some v)(q:ly f=some 1\/(dL f).isSome=true\/f=.sortedSet\/f=.lenSet\/f=.valuesOf):∃x,vs=[x]:=by
 cases vs with
 |nil=>cases f<;>injection h
 |cons x r=>cases r<;>first|exact⟨x,rfl⟩|(cases f<;>simp[aM,c8,jz,ly,dL]at h q)
def Ht:ce X (.builtin "len") (RBM X.K (aM .len)):=by
 intro pins s σ H xs us Q I r h;obtain⟨O,vs,v,hO,Z,e,q⟩:=h;obtain⟨x,rfl⟩:=d6 e (.inl rfl);obtain⟨u,rfl,J⟩:=p1 Z;cases x<;>simp only[aM,c8,C4]at e<;>try (cases e;done)
 .cases e;obtain⟨a,D,rfl,s1,U⟩:=J.tup;exact jU pins s σ H _ us Q I r ⟨a,D,rfl,.inr s1,by rw[<- U.length];exact q _ H (af.refl H) (bB _ _)⟩
 .cases e;obtain⟨a,D,rfl,s1,U⟩:=J.lst;exact jU pins s σ H _ us Q I r ⟨a,D,rfl,.inl s1,by rw[<- U.length];exact q _ H (af.refl H) (bB _ _)⟩
 .rename_i d;cases d with
  |t kvs=>cases e
  |k kvs =>
   cases e;obtain⟨a,rfl,ha⟩:=J.dI;obtain⟨u,rfl,ru⟩:=ik r;cases ru;obtain⟨hz,hs,D,Y,dd⟩:=jX I.hok (show Rd H a (.dK (gJ kvs))from ha.rd);have z:D.length=kvs.length:=by rw[<- Y.length];unfold gJ;rw[sm]
   have hz:kvs.length<=sizeLine:=by unfold gJ at hz;rw[sm]at hz;exact hz
   have hn:=k4;exact call_len_dict hs dd (by rw[z];omega) ⟨.int kvs.length,H,I.tok _,⟨s.toks+1,by rw[z]⟩,q _ H (af.refl H) (bB _ _)⟩
def BK:ce X (.type "tuple") (RBM X.K (aM .tupleOf)):=by
 intro pins s σ H xs us Q I r h;refine mX h λO vs v Z rs e q=>?_
 obtain⟨x,rfl⟩:=d6 e (.inl rfl);refine ae (p1 rs) λu z D=>?_
 subst z;simp only[aM,c8,nM,jd,jz,tr]at e;obtain⟨ys,e,rfl⟩:=e;cases x<;>simp[b_]at e
 .subst e;obtain⟨a,J,rfl,s1,U⟩:=D.tup;refine jg pins s σ H _ us Q I r ⟨a,J,rfl,.inr ⟨s1,q _ H (af.refl H) ?_⟩⟩;exact D.tupR
 .subst e;obtain⟨a,J,rfl,s1,U⟩:=D.lst;exact jg pins s σ H _ us Q I r ⟨a,J,rfl,.inl ⟨s1,λl Y=>q _ _ (bC Y _) (kD Z Y U)⟩⟩
def RBF(K:M5)(f:List PV->Option PV):List V->Hp->VK->Prop:=λus H Q =>
 ∃O vs xs,(∀a∈O,H a≠none)/\Paired (bQ K H O) vs us/\f vs=some (.lst xs)/\∀l q,H l=none->Reps K (aj H O) xs q->Q (.ref l) (upd H l (.lst q))
def E7:ce X (.type "list") (RBF X.K (aM .listOf)):=by
 intro pins s σ H xs us Q I r h;refine mX h λO vs v hO U e q=>?_
 obtain⟨x,rfl⟩:=d6 e (.inl rfl);refine ae (p1 U) λu z Y=>?_
 subst z;simp only[aM,c8,nM,jd,jz,tr,PV.lst.injEq,exists_eq_right]at e;refine au (Y.seq e) λa J D s1 Z=>?_
 subst D;exact qc pins s σ H _ us Q I r ⟨a,J,rfl,s1,λl hl=>q l J hl Z⟩
theorem pE{K:M5} :∀{D}{us},Reps K F (D.map λt=>.tup (t.map .int)) us->tU K F us D
 | [],_,h=>by rw[map_nil,Reps]at h;subst h;exact .nil
 |t::D,_,h=>by
  refine au h λu r J q z=>?_
  subst J;refine au q λa vs e s1 U=>?_
  rw[U.ints]at s1;exact .cons ⟨a,e,eP s1⟩ (pE z)
theorem pF{K:M5}(s:af F F'):∀{us}{q},tU K F us q->tU K F' us q
 | _,_,.nil=>.nil
 | _,_,.cons ⟨a,z,D⟩ t=>.cons ⟨a,z,s.seqT D⟩ (pF s t)
theorem pG{K:M5}(h:Reps K F xs us):∀(l:List Nat),(∀i∈l,i<us.length)->Reps K F (l.map λi=>xs.getD i .non) (l.map λi=>us.getD i .non)
 | [],_=>.nil
 |i::l,q=>by
  have hi:=q i (.head _);have hx:i<xs.length:=by rw[h.length];exact hi
  refine ae (h.get (Kc hx)) λu D J=>?_
  refine .cons ?_ (pG h l λj z=>q j (.tail _ z))
  simp_all
def yZ (g:Gf X T k cal):ce X (.builtin "sorted") (RBF X.K (aM .sorted)):=by
 intro pins s σ H xs us Q I r h;refine bN λZq kq=>?_
 refine mX h λO vs v hO rs e q=>?_
 obtain⟨x,rfl⟩:=d6 e (.inl rfl);refine ae (p1 rs) λu Y rx=>?_
 subst Y;simp only[aM,c8,nM,jd,jz,ll]at e;obtain⟨ys,e,D⟩:=e;refine au (rx.seq e) λa ws Z s1 J=>?_
 subst Z;unfold iH at D;refine kq ?_;split at D
 .rename_i z;split at D
  .rename_i ns hn;cases D;have:=iI hn;subst this;have e3:=J.ints;subst e3;rw[sm]at z;refine kd g.calm pins s σ H _ us Q I r ⟨a,ns,rfl,s1.imp id .inl,z,λl hl=>?_⟩;rw[<- dM];exact q l _ hl (.of_ints _)
  .simp only[tr,PV.lst.injEq]at D;obtain⟨U,e3,rfl⟩:=D;have:=rQ e3;subst this;rw[sm]at z;refine qk (by have:=g.units;omega) pins s σ H _ us Q I r ⟨a,ws,U,rfl,s1,pF (be H O) (pE J),z,λl pm hl hp e=>q l _ hl ?_⟩;have q2:=pG J pm hp;have e4:(pm.map λi=>(U.map λt=>PV.tup (t.map .int)).getD i .non)=(sortT U).map λt=>.tup (t.map .int):=by
    rw[fG,<- e,Kh];refine Lg λi hi=>?_
    have aL:i<U.length:=by have:=hp i hi;rw[<- J.length,sm]at this;exact this
    simp[aL]
   rw[e4]at q2;exact q2
 .exact bc D
def Hu:ce X (.type "int") (RBM X.K (aM .intOf)):=by
 intro pins s σ H xs us Q I r h;refine bN λU D=>?_
 obtain⟨O,vs,v,Y,J,e,q⟩:=h;obtain⟨x,rfl⟩:=d6 e (.inl rfl);obtain⟨u,rfl,z⟩:=p1 J;refine D ?_;cases x<;>simp[aM,c8,jd]at e<;>try (cases e;done)
 .cases e;have:=z.bl;subst this;exact o5 pins s σ H _ us Q I r (.inr ⟨_,rfl,q _ H (af.refl H) (bB _ _)⟩)
 .cases e;have:=z.int;subst this;exact o5 pins s σ H _ us Q I r (.inl ⟨_,rfl,q _ H (af.refl H) (bB _ _)⟩)
def y0{f:PV->PV->Option PV}{vs:List PV}{v:PV}(h:nM vs f=some v):∃x y,vs=[x,y]/\f x y=some v:=by
 match vs,h with
 | [x,y],h=>exact⟨x,y,rfl,h⟩
def E8 (hc:X.calm=true):ce X (.builtin "max") (RBM X.K (aM .max2)):=by
 intro pins s σ H xs us Q I r h;obtain⟨O,vs,v,Z,z,e,q⟩:=h;obtain⟨x,y,rfl,e⟩:=y0 e;obtain⟨i,j,rfl,rfl,e⟩:=dw e;cases e;obtain⟨u,w',rfl,D,J⟩:=p2 z;have U:=D.int;have Y:=J.int;subst U Y;exact wd hc pins s σ H _ us Q I r ⟨_,_,rfl,q _ H (af.refl H) (bB _ _)⟩
def E9 (hc:X.calm=true):ce X (.builtin "min") (RBM X.K (aM .min2)):=by
 intro pins s σ H xs us Q I r h;obtain⟨O,vs,v,Z,z,e,q⟩:=h;obtain⟨x,y,rfl,e⟩:=y0 e;obtain⟨i,j,rfl,rfl,e⟩:=dw e;cases e;obtain⟨u,w',rfl,D,J⟩:=p2 z;have U:=D.int;have Y:=J.int;subst U Y;exact we hc pins s σ H _ us Q I r ⟨_,_,rfl,q _ H (af.refl H) (bB _ _)⟩
def vE(h:jd x=some ys):x=.lst ys:=by
 cases x<;>cases h
 rfl
def E_ (D:dL b=some c):ce X (.builtin "isinstance") (λus H Q=>∃O v u,us=[u,.ty c]/\isD v=false/\bQ X.K H O v u/\Q (.bl (isT b v)) H):=by
 intro pins s σ H xs us Q I r h;obtain⟨O,v,x,rfl,nd,J,q⟩:=h;obtain⟨u,t,rfl,U,Z⟩:=xV r;have Y:=Z;subst Y;have fin:∀z tk,z=isT b v->EP X pins σ Q (.bool z) { s with toks:=tk }:=λz tk e=>⟨.bl z,H,I.tok tk,rfl,by rw[e];exact q⟩
 cases v with
 |dI _=>cases nd
 |non =>
  have e:=J.non;subst e;cases (show u=Value.none from U);cases b<;>simp only[dL,ox,reduceCtorEq]at D<;>subst D <;>
   exact PySem.W.kia_one PySem.W.kitx_none I.kIn True.intro (b:=false) (by first|rfl|kernel_rfl|decide) (λz=>nomatch z) λtk=>fin _ tk rfl
 |bl y =>
  have e:=J.bl;subst e;cases (show u=Value.bool y from U);cases b<;>simp only[dL,ox,reduceCtorEq]at D<;>subst D<;>first
   |exact PySem.W.kia_one PySem.W.kitx_bool I.kIn True.intro (b:=true) (by first|rfl|kernel_rfl|decide) (λz=>nomatch z) λtk=>fin _ tk rfl
   |exact PySem.W.kia_one PySem.W.kitx_bool I.kIn True.intro (b:=false) (by first|rfl|kernel_rfl|decide) (λz=>nomatch z) λtk=>fin _ tk rfl
 |int y =>
  have e:=J.int;subst e;obtain⟨t,z⟩:=(show ∃t,u=Value.int y t from U);cases z;cases b<;>simp only[dL,ox,reduceCtorEq]at D<;>subst D<;>first
   |exact PySem.W.kia_one PySem.W.kitx_int I.kIn True.intro (b:=true) (by first|rfl|kernel_rfl|decide) (λz=>nomatch z) λtk=>fin _ tk rfl
   |exact PySem.W.kia_one PySem.W.kitx_int I.kIn True.intro (b:=false) (by first|rfl|kernel_rfl|decide) (λz=>nomatch z) λtk=>fin _ tk rfl
 |str y =>
  have e:=J.str;subst e;obtain⟨t,z⟩:=(show ∃t,u=Value.str y t from U);cases z;cases b<;>simp only[dL,ox,reduceCtorEq]at D<;>subst D<;>first
   |exact PySem.W.kia_one PySem.W.kitx_str I.kIn True.intro (b:=true) (by first|rfl|kernel_rfl|decide) (λz=>nomatch z) λtk=>fin _ tk rfl
   |exact PySem.W.kia_one PySem.W.kitx_str I.kIn True.intro (b:=false) (by first|rfl|kernel_rfl|decide) (λz=>nomatch z) λtk=>fin _ tk rfl
 |lst ys =>
  obtain⟨a,us,rfl,s1,t1⟩:=J.lst;cases (show u=Value.ref a from U);obtain⟨its,_,p,_⟩:=I.list s1;obtain⟨o,h1,h2,_⟩:=p.isList;cases b<;>simp only[dL,ox,reduceCtorEq]at D<;>subst D<;>first
   |exact PySem.W.kia_one PySem.W.kitx_list I.kIn ⟨o,h1,h2⟩ (b:=true) (by first|rfl|kernel_rfl|decide) (λz=>nomatch z) λtk=>fin _ tk rfl
   |exact PySem.W.kia_one PySem.W.kitx_list I.kIn ⟨o,h1,h2⟩ (b:=false) (by first|rfl|kernel_rfl|decide) (λz=>nomatch z) λtk=>fin _ tk rfl
 |tup ys =>
  obtain⟨a,us,rfl,s1,t1⟩:=J.tup;cases (show u=Value.ref a from U);obtain⟨its,_,p,_⟩:=I.tuple s1;obtain⟨o,h1,h2,_⟩:=p;cases b<;>simp only[dL,ox,reduceCtorEq]at D<;>subst D<;>first
   |exact PySem.W.kia_one PySem.W.kitx_tuple I.kIn ⟨o,h1,h2⟩ (b:=true) (by first|rfl|kernel_rfl|decide) (λz=>nomatch z) λtk=>fin _ tk rfl
   |exact PySem.W.kia_one PySem.W.kitx_tuple I.kIn ⟨o,h1,h2⟩ (b:=false) (by first|rfl|kernel_rfl|decide) (λz=>nomatch z) λtk=>fin _ tk rfl
theorem jC{K:M5} :∀{bs:List Bool}{us}{its},Reps K F (bs.map .bl) us->aJ us its->its=bs.map Value.bool
 | [],_,_,h,w=>by rw[map_nil,Reps]at h;subst h;cases w;rfl
 |b::bs,_,_,h,w=>by
  refine au h λu r z q t=>?_
  subst z;subst q;cases w with
  |cons D J =>
   subst D;rw[jC t J];rfl
def wQ(bs:List Bool):(range bs.length).all (λi=>bs.getD i false)=bs.all id:=by
 conv=>rhs;rw[<- Srt.iZ bs false]
 rw[MU]
 rfl
def wR(bs:List Bool):(range bs.length).any (λi=>bs.getD i false)=bs.any id:=by
 conv=>rhs;rw[<- Srt.iZ bs false]
 rw[MW]
 rfl
def mi(bs:List Bool):TruthOf P w A (λi v=>(bs.map Value.bool).toArray[i]?=some v) (λi=>bs.getD i false):=by
 intro i v s Q E h q;simp only[getElem?_toArray,Kb,tr]at h;obtain⟨b,e,rfl⟩:=h;have:bs.getD i false=b:=by rw[Mg,e];rfl
 have z:Q (bs.getD i false) s:=q;rw[this]at z;exact Kv z
def Hv (hc:X.calm=true):ce X (.builtin "any") (RBM X.K (aM .any)):=by
 intro pins s σ H xs us Q I r h;refine mX h λO vs v hO U e q=>?_
 obtain⟨x,rfl⟩:=d6 e (.inl rfl);refine ae (p1 U) λu z Y=>?_
 subst z;simp only[aM,c8,ll,tr]at e;obtain⟨ys,Z,bs,e,rfl⟩:=e;obtain rfl:=vE Z;have:=lv e;subst this;refine au Y.lst λa ws D s1 t1=>?_
 subst D;refine ae (ik r) λu z ru=>?_
 subst z;subst ru;refine a8 (I.list s1) λits r' pl hz=>?_
 have:=jC t1 r';subst this;have J:a<s.heap.objs.size:=by obtain⟨o,ho,_⟩:=pl.isList;exact uw ho
 refine call_any_walk (L5 pl.isList ?_);refine⟨s.heap.objs.size,_,_,_,_,_,λi=>bs.getD i false,rfl,Walks.list (by first|exact I.ok.hd hc|simpa using I.ok.hd hc) s.heap.objs.size a (x1 J) (bs.map Value.bool).toArray,⟨⟨_,tu _ rfl,rfl,rfl⟩,pl.isList.push _⟩,mi bs,λh' tk hk=>?_⟩;have e2:(range (bs.map Value.bool).toArray.size).any (λi=>bs.getD i false)=bs.any id:=by
  rw[pd,sm];exact wR bs
 rw[e2];refine⟨.bl _,H,?_,rfl,q _ H (af.refl H) (c9 _ _)⟩;refine I.kept (t':=tk) λb o e=>hk b o ?_ (mn _ e)
 intro hm;have hb:=uw e
 simp_all
def Hw (hc:X.calm=true):ce X (.builtin "all") (RBM X.K (aM .all)):=by
 intro pins s σ H xs us Q I r h;refine mX h λO vs v hO U e q=>?_
 obtain⟨x,rfl⟩:=d6 e (.inl rfl);refine ae (p1 U) λu z Y=>?_
 subst z;simp only[aM,c8,ll,tr]at e;obtain⟨ys,Z,bs,e,rfl⟩:=e;obtain rfl:=vE Z;have:=lv e;subst this;refine au Y.lst λa ws D s1 t1=>?_
 subst D;refine ae (ik r) λu z ru=>?_
 subst z;subst ru;refine a8 (I.list s1) λits r' pl hz=>?_
 have:=jC t1 r';subst this;have J:a<s.heap.objs.size:=by obtain⟨o,ho,_⟩:=pl.isList;exact uw ho
 refine call_all_walk (L5 pl.isList ?_);refine⟨s.heap.objs.size,_,_,_,_,_,λi=>bs.getD i false,rfl,Walks.list (by first|exact I.ok.hd hc|simpa using I.ok.hd hc) s.heap.objs.size a (x1 J) (bs.map Value.bool).toArray,⟨⟨_,tu _ rfl,rfl,rfl⟩,pl.isList.push _⟩,mi bs,λh' tk hk=>?_⟩;have e2:(range (bs.map Value.bool).toArray.size).all (λi=>bs.getD i false)=bs.all id:=by
  rw[pd,sm];exact wQ bs
 rw[e2];refine⟨.bl _,H,?_,rfl,q _ H (af.refl H) (c9 _ _)⟩;refine I.kept (t':=tk) λb o e=>hk b o ?_ (mn _ e)
 intro hm;have hb:=uw e;simp at hm;exact absurd hm (x1 hb)
def Hx (hc:X.calm=true):ce X (.type "set") (λus H Q=>∃O v u ns,us=[u]/\bQ X.K H O v u/\((b_ v).bind cB)=some ns/\ns.length<=4000/\∀l,H l=none->Q (.ref l) (upd H l (nJ X.prog X.w l (St.dd ns.reverse)))):=by
 intro pins s σ H xs us Q I r h;refine mY h λO v u ns D U e z q=>?_
 subst D;simp only[ll]at e;refine ae e λys Y Z=>?_
 refine au (U.seq Y) λa ws J s1 t1=>?_
 subst J;have:=iI Z;subst this;have e3:=t1.ints;subst e3;exact yE hc pins s σ H _ us Q I r ⟨a,ns,rfl,s1,z,λl hl=>q l hl⟩
def se (hc:X.calm=true):ce X (.builtin "sorted") (λus H Q=>∃l ks,us=[.ref l]/\H l=some (nJ X.prog X.w l ks)/\ks.length<64/\∀p,H p=none->Q (.ref p) (upd H p (.lst ((Srt.sortI ks).map V.int)))):=by
 intro pins s σ H xs us Q I r h;refine ij h λl ks z e D q=>?_
 subst z;exact kd hc pins s σ H _ us Q I r ⟨l,ks,rfl,.inr (.inr e),D,q⟩
end
end MM
namespace L2
open PySem PySem.Spec PyProof.Rows List Option
def Inv.turned2(I:Inv X pins σ H s)(he:s.heap.get? e=some D)(hf:D.isFreed=false)(Y:∃o,h'.get? e=some o)
  (k:∀b o,b≠e->b≠it->s.heap.get? b=some o->h'.get? b=some o) (fe:jS X pins H e) (fi:jS X pins H it):Inv X pins σ H { s with heap:=h',toks:=t' }:=by
 obtain⟨o',Z⟩:=Y;refine jQ fe λa0 a1 a2 a3 a4 a5=>?_
 refine jQ fi λb0 b1 b2 b3 b4 b5=>?_
 have ao:(h'.update e λ_=>D).get? e=some D:=KU _ Z hf;have J:∀b,b≠e->(h'.update e λ_=>D).get? b=h'.get? b:=λb U=>(Lf h' e _).2 b U
 have I1:Inv X pins σ H { s with heap:=h'.update e λ_=>D,toks:=t' }:=I.turned (it:=it) (λb o U q=>by
  by_cases z:b=e
  .subst z;rw[ao,<- he];exact q
  .rw[J b z];exact k b o z U q) b0 b1 b3 b4 b5
 exact Inv.turned (s:={ s with heap:=h'.update e λ_=>D,toks:=t' }) (it:=e) I1 (λb o U q=>by
  have q:=q;rw[J b U]at q;exact q) a0 a1 a3 a4 a5
noncomputable def Ite(q:Hp->List V->Prop):It:=
 ⟨λi H=>∃xs,q H xs/\i<xs.length,λi H x H'=>∃p,x=.ref p/\H p=none/\∃u,H'=upd H p (.tup [.int i,u])/\∀xs,q H xs->xs[i]?=some u,λi H=>∃xs,q H xs/\i=xs.length⟩
structure Src(P:Program)(w:World)(K:M5)(a it:Addr)(q:Hp->List V->Prop)(r:Nat->Heap->Prop):Prop where
 ne:a≠it
 keep:∀i h h',r i h->(∀o,h.get? it=some o->h'.get? it=some o)->r i h'
 live:∀i h,r i h->∃o,h.get? it=some o/\∀v,o.data≠.cell v
 one:∀(X:Cx),X.K=K->∀(pins:List (Addr×Obj)) (s:Shared) (σ:St) (H:Hp) (xs ys:List V),Inv X pins σ H s->q H xs->q H ys->xs=ys
 row:∀(X:Cx),X.prog=P->X.w=w->X.K=K->∀(pins:List (Addr×Obj)) (s:Shared) (σ:St) (H:Hp) (xs:List V),Inv X pins σ H s->q H xs->∃(its:List Value),aJ xs its/\∀(A:Around),A.handled=none ->
  ∃St:Nat->Heap->Prop,Draws P w A it [it,a] its.length (λi v=>its[i]?=some v) St/\(∀i,r i s.heap->St i s.heap)/\∀i h,St i h->r i h
def y_{K:M5}(S:Src P w K a it q r)(ar:e≠it)(a6:e≠a) :
  rj P w K (.Tuple ts j tp) (Ite q) [e,it] e (λi h=>(∃old,IsEnum h e it (i:Nat) old)/\r i h) where
 mem:=.head _
 obj:=λi h st b J=>by
  obtain⟨⟨old,U⟩,Y⟩:=st;rcases pe.mp J with rfl|J
  .exact⟨_,U,λv z=>by cases z⟩
  .have z:b=it:=by simpa using J
   subst z;exact S.live i h Y
 keep:=λi h h' ⟨⟨old,U⟩,Y⟩ k=>⟨⟨old,k e (.head _) _ U⟩,S.keep i h h' Y (k it (.tail _ (.head _)))⟩
 item:=by
  intro X hP hw hK hc i pins s σ H E I hf st hg;obtain⟨⟨old,U⟩,Y⟩:=st;refine ae hg λxs hq hi=>?_
  refine ae (S.row X hP hw hK pins s σ H xs I hq) λits rv dr=>?_
  have hh:=I.ok.hd hc;refine a8 (dr X.A.in1 hh) λSt D Z aL=>?_
  have hl:=rv.length;have fe:=hf e (.head _);have fi:=hf it (.tail _ (.head _));refine wpAny_pyNext_enum_itemD D U (Z i Y) (by omega) ar (by simp only[pe,Kf,Ko,not_or];exact⟨ar,a6⟩) λx h' tk px eo bP tup sz kp=>?_
  refine⟨_,rfl,wpAny_letOwnedTupleGo_enum eo λh2 a0 a1=>?_⟩;have hx:=hi;refine ae (rv.get (Kc hx)) λu hu ru=>?_
  have ex:x=u:=by
   have:=px.symm.trans hu;simpa using this
  subst ex;have fresh:=I.hok.fresh (pb _);have ne:∀b o,s.heap.get? b=some o->b≠s.heap.objs.size:=λb o q z=>Kt _ (by have:=uw q;rw[z]at this;exact this)
  have en:=ne _ _ U;refine ae (S.live i _ Y) λoi bS _=>?_
  have inn:=ne _ _ bS;have I1:Inv X pins σ (upd H s.heap.objs.size (.tup [.int i,xs[i]])) { s with heap:=s.heap.push { cls:=.type "tuple",data:=.seq #[.int i tk,x] } }:=
   I.laid (t':=s.toks) (λb o q=>mn _ q) (pb _) ⟨by show 2<=sizeLine;decide,_,.cons ⟨_,rfl⟩ (.cons ru .nil),IsTup.new _ _⟩
  have up:∀b,b≠s.heap.objs.size->jS X pins H b->jS X pins (upd H s.heap.objs.size (.tup [.int i,xs[i]])) b:=λb J hq=>qV hq λz r=>⟨by rw[az J];exact z,r⟩
  have I2:=I1.turned2 (h':=h2) (t':=tk+1) (e:=e) (it:=it) (mn _ U) rfl ⟨_,a0⟩ (λb o a2 bT q=>?_) (up e en fe) (up it inn fi)
  .refine⟨.ref s.heap.objs.size,_,I2,rfl,⟨_,rfl,fresh,_,rfl,λys hy=>?_⟩,⟨⟨_,by simpa using a0⟩,?_⟩,λb J=>?_⟩
   .rw[S.one X hK pins s σ H ys xs I hy hq];exact Kc hx
   .refine aL _ _ (D.frame _ _ _ bP λb J o q=>?_);rw[a1.2 b λz=>?_]
    .exact q
    .simp_all
   .rcases pe.mp J with rfl|J
    .exact(up b en fe).1
    .have z:b=it:=by simpa using J
     subst z;exact(up b inn fi).1
  .rw[a1.2 b a2];rcases Heap.get?_push_cases q with⟨rfl,rfl⟩|q
   .exact tup
   .exact kp b o a2 bT q
 done:=by
  intro X hP hw hK hc i pins s σ H E I hf st hg;obtain⟨⟨old,U⟩,Y⟩:=st;refine ae hg λxs hq hi=>?_
  refine ae (S.row X hP hw hK pins s σ H xs I hq) λits rv dr=>?_
  have hh:=I.ok.hd hc;refine a8 (dr X.A.in1 hh) λSt D Z aL=>?_
  have hl:=rv.length;refine jQ (hf it (.tail _ (.head _))) λf0 f1 f2 f3 f4 f5=>?_
  have e:i=its.length:=by exact(by simp[*])
  subst e;exact wpAny_pyNext_enum_endD D U (Z _ Y) λh' eb=>⟨rfl,I.turned (t':=s.toks) (λb o J q=>eb b o J q) f0 f1 f3 f4 f5⟩
 self:=λ_ i s Q E ⟨⟨old,U⟩,_⟩ h=>wpAny_pyIter_enum U h
def za{K:M5}(ne:a≠it):Src P w K a it (λH xs=>SqL K H a xs) (λi h=>h.IsListIter it a i) where
 ne:=ne
 keep:=λi h h' ⟨o,ho,r⟩ k=>⟨o,k o ho,r⟩
 live:=λi h q=>a8 q λo ho _ hd=>⟨o,ho,λv z=>by rw[hd]at z;cases z⟩
 one:=λX hK pins s σ H xs ys I h h'=>by subst hK;exact I.list_inj h h'
 row:=λX D hw hK pins s σ H xs I h=>by
  subst D hw hK;refine a8 (I.list h) λits J p _=>?_
  refine⟨its,J,λA U=>⟨λi h=>h.IsListIter it a i/\h.IsList a its.toArray,?_,λi st=>⟨st,p.isList⟩,λi h' st=>st.1⟩⟩;simpa using Draws.list (prog:=X.prog) (w:=X.w) U it a ne its.toArray
def BL{K:M5}(ne:a≠it):Src P w K a it (λH xs=>SqT K H a xs) (λi h=>h.IsTupleIter it a i) where
 ne:=ne
 keep:=λi h h' ⟨o,ho,r⟩ k=>⟨o,k o ho,r⟩
 live:=λi h q=>a8 q λo ho _ hd=>⟨o,ho,λv z=>by rw[hd]at z;cases z⟩
 one:=λX hK pins s σ H xs ys I h h'=>by subst hK;exact I.tuple_inj h h'
 row:=λX D hw hK pins s σ H xs I h=>by
  subst D hw hK;refine a8 (I.tuple h) λits J p _=>?_
  refine⟨its,J,λA U=>⟨λi h=>h.IsTupleIter it a i/\h.IsTuple a its.toArray,?_,λi st=>⟨st,(show s.heap.IsTuple a its.toArray from p)⟩,λi h' st=>st.1⟩⟩;simpa using En.draws (P:=X.prog) (w:=X.w) U it a ne its.toArray
noncomputable def JG(K:M5)(tl:TE):TI:=λσ H R=>tl σ H λx H1=>∃a,x=.ref a/\(((∃xs,SqL K H1 a xs)/\R (Ite λH xs=>SqL K H a xs) H1)\/((∃xs,SqT K H1 a xs)/\R (Ite λH xs=>SqT K H a xs) H1))
def sf{σ:St}{H:Hp}{s:Shared}{E:Value->Shared->Prop}{h':Heap}{J:List Expr}{j:Nat}{U:Pos}{a:Addr}{q:Hp->List V->Prop}{r:Nat->Heap->Prop}{R:It->Hp->Prop}(I:Inv X pins σ H s)(Y:a<s.heap.objs.size)
  (S:Src X.prog X.w X.K a s.heap.objs.size q r) (D:IsEnum h' (s.heap.objs.size+1) s.heap.objs.size 0 .none) (Z:r 0 h') (k:∀b o,s.heap.get? b=some o->h'.get? b=some o) (hR:R (Ite q) H) :
  wpAny (model X.prog X.w) X.A (pyIter (.ref (s.heap.objs.size+1))) (PIE X pins σ (.Tuple J j U) R) E { s with heap:=h' }:=by
 have I1:=I.kept (t':=s.toks) k;refine wpAny_pyIter_enum (s:={ s with heap:=h' }) D ⟨s.heap.objs.size+1,[s.heap.objs.size+1,s.heap.objs.size],_,_,H,rfl,I1,y_ S (Nat.succ_ne_self _) (K3 (Kr Y)),⟨⟨_,D⟩,Z⟩,λb z=>?_,hR⟩;have z:s.heap.objs.size<=b:=by
  simp only[pe,Kf,Ko]at z;rcases z with rfl|rfl
  .exact KH _
  .exact pb _
 exact I.fpOk z (I.hok.fresh z)
def t_ (Z:Gl X "enumerate") (hm:X.mg "enumerate"=none) (hl:PE X l tl) (Y:starEach [l] X.env=[(false,eval l X.env)]:=by rfl) :
  PI X (.Tuple ts j tp) (.Call (.Name "enumerate" p) [l] [] pos) (JG X.K tl):=by
 intro pins s σ H R I h;refine Call_ (kY I Z hm PyProof.Rows.boot_enumerate (Li (thn (aH hl bO Y pos pins s σ H (λvs H1=>match vs with
  | [x]=>∃a,x=.ref a/\(((∃xs,SqL X.K H1 a xs)/\R (Ite λH xs=>SqL X.K H a xs) H1)\/((∃xs,SqT X.K H1 a xs)/\R (Ite λH xs=>SqT X.K H a xs) H1))
  | _=>False) I h) λus s1 z=>au z λvs H1 J r1 q1=>?_) Y rfl))
 cases r1 with
 |nil=>exact q1.elim
 |cons r rr =>
  cases rr with
  |cons _ _=>exact q1.elim
  |nil =>
   obtain⟨a,e,q⟩:=q1;subst e;subst r;rcases q with⟨⟨xs,z⟩,q⟩|⟨⟨xs,z⟩,q⟩
   .obtain⟨its,_,pl,_⟩:=J.list z;have D:=let ⟨o,ho,_⟩:=pl.isList;uw ho
    exact call_enumerate_list pl.isList λh' U it _ k=>sf J D (za (x1 D)) U it k q
   .obtain⟨its,_,pt,_⟩:=J.tuple z;have D:=let ⟨o,ho,_⟩:=pt;uw ho
    exact En.call_tup pt λh' U it _ k=>sf J D (BL (x1 D)) U it k q
end L2
namespace MM
open PySem PySem.Spec PyProof.Rows L2 List Option
structure qA(K:M5)(J:It)(xs:List PV)(V G:Hp):Prop where
 stop:∀H',af G H'->J.stop xs.length H'
 go:∀(i:Nat) x H',af G H'->xs[i]?=some x->J.go i H'
 yld:∀(i:Nat) x H' u H2,af G H'->xs[i]?=some x->J.yld i H' u H2->af H' H2/\∀O',(∀a∈O',H' a≠none)->af V (aj H2 O')->Rep K (aj H2 O') x u
def qA.weak{K:M5}{V G q:Hp}(h:qA K J xs V G)(s:af G q):qA K J xs V q:=
 ⟨λH' s'=>h.stop H' (s.trans s'),λi x H' s'=>h.go i x H' (s.trans s'),λi x H' u H2 s'=>h.yld i x H' u H2 (s.trans s')⟩
noncomputable def bh(ms:List ME)(G:Rho)(σ:St):List Addr:=match ms with
 | [.bor i]=>(match (G[i]?).join,(σ[i]?).join with|some (.own _),some (.ref a)=>[a]|_,_=>[])
 | _=>[]
noncomputable def bZ(B:Hp)(O:List Addr)(H:Hp)(L:List Addr):Hp:=λb=>if b∈O then(if b∈L then H b else B b)else H b
section
variable{K:M5}{B H:Hp}{O L:List Addr}
def sg(s:af B H):af (bZ B O H L) H:=λb u e=>by
 unfold bZ at e;split at e
 .split at e
  .exact e
  .exact s b u e
 .exact e
def dN(s:af B H):af B (bZ B O H L):=λb u e=>by
 unfold bZ;split
 .split
  .exact s b u e
  .exact e
 .exact s b u e
def cz:af (aj H O) (bZ B O H L):=λb u e=>by
 have q:b∉O:=λz=>by rw[ez z]at e;exact bc e
 unfold bZ;rw[if_neg q];rw[a9 q]at e;exact e
end
def kH{K:M5}{V G:Hp}(h:SqL K G a us)(r:Reps K V xs us):qA K (Itl K a) xs V G where
 stop:=λH' s=>⟨us,s.seq h,Lb r.length.symm⟩
 go:=λi x H' s e=>by
  refine ae (r.get e) λu z _=>?_
  exact⟨us,u,s.seq h,z⟩
 yld:=λi x H' u H2 s e y=>by
  obtain⟨rfl,y⟩:=y;refine ae (r.get e) λw z q=>?_
  have D:=y us (s.seq h);rw[z]at D;cases D;exact⟨af.refl _,λO' _ sv=>Rep.mono sv _ q⟩
def zb{K:M5}{V G:Hp}(h:SqT K G a us)(r:Reps K V xs us):qA K (Itt K a) xs V G where
 stop:=λH' s=>⟨us,s.seqT h,Lb r.length.symm⟩
 go:=λi x H' s e=>by
  refine ae (r.get e) λu z _=>?_
  exact⟨us,u,s.seqT h,z⟩
 yld:=λi x H' u H2 s e y=>by
  obtain⟨rfl,y⟩:=y;refine ae (r.get e) λw z q=>?_
  have D:=y us (s.seqT h);rw[z]at D;cases D;exact⟨af.refl _,λO' _ sv=>Rep.mono sv _ q⟩
def si{K:M5}{V G:Hp}{lo:Int} :qA K (Itr lo n) ((range n).map λ(k:Nat)=>.int (lo+k)) V G where
 stop:=λH' s=>by simp[Itr]
 go:=λi x H' s e=>by
  have:=(xa.mp e).1;simpa[Itr]using this
 yld:=λi x H' u H2 s e y=>by
  obtain⟨rfl,rfl⟩:=y;refine⟨af.refl _,λO' _ sv=>?_⟩;have hi:i<n:=by have:=(xa.mp e).1;simpa using this
  rw[Kb,getElem?_range hi]at e;cases e;rw[Rep]
def Fa{K:M5}(q:∀a∈O,H a≠none)(D:H p=none)(h:Reps K (aj (upd H p (.tup us)) O) xs us):Rep K (aj (upd H p (.tup us)) O) (.tup xs) (.ref p):=by
 refine⟨p,us,rfl,?_,h⟩;rw[a9 λz=>q p z D];exact aA ..
theorem vF:∀xs (k i:Nat),(dF k xs)[i]?=(xs[i]?).map λx=>.tup [.int ((k+i:Nat):Int),x]
 | [],k,i=>by rfl
 |x::xs,k,0=>by rfl
 |x::xs,k,i+1=>by
  rw[dF,getElem?_cons_succ,getElem?_cons_succ,vF xs (k+1) i,show k+1+i=k+(i+1)by omega]
theorem nU:∀xs k,(dF k xs).length=xs.length
 | [],_=>rfl
 |x::xs,k=>by rw[dF,length_cons,length_cons,nU xs]
def jD{K:M5}{V G:Hp}{q:Hp->List L2.V->Prop}{xs:List PV}{us:List L2.V}(h:∀H',af G H'->q H' us)(r:Reps K V xs us):qA K (Ite q) (dF 0 xs) V G where
 stop:=λH' s=>⟨us,h H' s,by rw[nU];exact r.length⟩
 go:=λi x H' s e=>by
  refine⟨us,h H' s,?_⟩;have:=(xa.mp e).1;rw[nU]at this;rw[<- r.length];exact this
 yld:=λi x H' u H2 s e y=>by
  obtain⟨p,rfl,J,v,rfl,y⟩:=y;rw[vF]at e;refine ae (tr.mp e) λz Y D=>?_
  subst D;refine ae (r.get Y) λw Z rz=>?_
  have U:=y us (h H' s);rw[Z]at U;cases U;refine⟨bC J _,λO' hO sv=>?_⟩;rw[L0];refine Fa hO J (.cons (bB _ _) (.cons (Rep.mono sv _ rz) .nil))
noncomputable def tW(K:M5)(cal:Cal)(k:Sk)(ms:List ME):TI:=λσ H R =>
 ∃B E O G vs xs,aX K B E O H G σ/\evs cal ms G=some vs/\bq k vs=some xs/\∀J H1,af H H1->qA K J xs (aj H1 O) (bZ B O H1 (bh ms G σ))->R J H1
section
variable{X:Cx}{cal:Cal}{tg:Expr}
theorem PI.or(h:PI X tg e t)(g:PI X tg e u):PI X tg e (λσ H R=>t σ H R\/u σ H R):=λpins s σ H R I q=>q.elim (h pins s σ H R I) (g pins s σ H R I)
theorem kI:∀{ms}{G}{vs},evs cal ms G=some vs->vs.length=ms.length
 | [],_,_,h=>by simp[evs]at h;subst h;rfl
 |m::ms,_,_,h=>by
  simp[evs,ll]at h;obtain⟨v,_,w,q,rfl⟩:=h;simp[kI q]
def sj(h:evs cal [m] G=some vs):∃v,vs=[v]/\ev cal m G=some v:=by
 simp[evs,ll]at h;obtain⟨v,e,w,q,rfl⟩:=h
 simp_all
def qB{K:M5}(h:Rep K F v u)(e:b_ v=some xs):∃a us,u=.ref a/\Reps K F xs us/\((v=.lst xs/\SqL K F a us)\/(v=.tup xs/\SqT K F a us)):=by
 cases v<;>first|(simp[b_]at e;subst e;rw[Rep]at h;obtain⟨a,us,e,q,r⟩:=h;exact⟨a,us,e,r,.inl ⟨rfl,q⟩⟩)|(simp[b_]at e;subst e;rw[Rep]at h;obtain⟨a,us,e,q,r⟩:=h;exact⟨a,us,e,r,.inr ⟨rfl,eP q⟩⟩)|injection e
def Hy(U:bb m=false)(h:PE X e (tE X.K cal m)):PI X tg e (tW X.K cal .seq [m]):=by
 refine(PI.or (mE h) (xP h)).imp λσ H R q=>?_
 refine uU q λB E O G vs xs st e1 e2 q=>?_
 refine ae (sj e1) λv Y e3=>?_
 subst Y;have D:b_ v=some xs:=e2;have hl:bh [m] G σ=[]:=by cases m<;>first|rfl|exact sW U
 cases v with
 |lst ys =>
  simp[b_]at D;subst D
  refine .inl ⟨B,E,O,G,_,st,e3,λu H' s g=>?_⟩;have r:=g.2 U;refine au r λa us z J Z=>?_
  subst z;exact⟨a,rfl,⟨us,(be H' O).seq J⟩,q _ _ s (kH (cz.seq J) Z)⟩
 |tup ys =>
  simp[b_]at D;subst D
  refine .inr ⟨B,E,O,G,_,st,e3,λu H' s g=>?_⟩;have r:=g.2 U;refine au r λa us z J Z=>?_
  subst z;exact⟨a,rfl,⟨us,(be H' O).seqT (eP J)⟩,q _ _ s (zb (cz.seqT (eP J)) Z)⟩
 | _=>injection D
def Hz{i:Nat}{x:Str}{pos:Pos}(h:aE X.N X.env.scope i x=true):PI X tg (.Name x pos) (tW X.K cal .seq [.bor i]):=by
 refine(PI.or (mE (cO h)) (xP (cO h))).imp λσ H R q=>?_
 obtain⟨B,E,O,G,vs,xs,st,e1,e2,q⟩:=q;obtain⟨v,rfl,D⟩:=sj e1;have U:b_ v=some xs:=e2;rw[ev]at D;cases hj:(G[i]?).join with
 |none=>rw[hj]at D;cases D
 |some m =>
  rw[hj]at D;obtain⟨u,Z,so⟩:=bX st hj;cases m with
  |val w =>
   simp only[bY,ox]at D;subst D;have aL:Rep X.K (aj H O) w u:=so;obtain⟨a,us,rfl,Y,z⟩:=qB aL U;rcases z with⟨rfl,J⟩|⟨rfl,J⟩
   .exact .inl ⟨_,Z,a,rfl,⟨us,(be H O).seq J⟩,q _ _ (af.refl H) (kH (cz.seq J) Y)⟩
   .exact .inr ⟨_,Z,a,rfl,⟨us,(be H O).seqT J⟩,q _ _ (af.refl H) (zb (cz.seqT J) Y)⟩
  |own ys =>
   simp only[bY,ox]at D;subst D;simp[b_]at U;subst U
   obtain⟨a,us,rfl,ha,Y,hO,_⟩:=so;refine .inl ⟨_,Z,a,rfl,⟨us,SqL.of ha⟩,q _ _ (af.refl H) (kH (SqL.of ?_) Y)⟩;have hl:bh [.bor i] G σ=[a]:=by simp[bh,hj,Z]
   unfold bZ;rw[hl,if_pos hO,if_pos (by simp)];exact ha
  |brw ys =>
   simp only[bY,ox]at D;subst D;simp[b_]at U;subst U
   obtain⟨a,us,rfl,J,Y⟩:=so;exact .inl ⟨_,Z,a,rfl,⟨us,st.keep.seq J⟩,q _ _ (af.refl H) (kH ((dN st.keep).seq J) Y)⟩
  |ownD ys =>
   simp only[bY,ox]at D;subst D;simp[b_]at U
  |ownO _ _ _=>simp[bY]at D
  |brwO _ _=>simp[bY]at D
  |brwD ys =>
   simp only[bY,ox]at D;subst D;simp[b_]at U
def HA (g:Gf X T k cal) (hf:f=("enumerate":Str)) (hg:glB X.env.scope f=true) (hs:aG e=true) (Z:bb m=false) (h:PE X e (tE X.K cal m)):PI X (.Tuple ts j tp) (.Call (.Name f p) [e] [] pos) (tW X.K cal .enm [m]):=by
 subst hf;have D:starEach [e] X.env=[(false,eval e X.env)]:=by cases e<;>first|rfl|(injection hs)
 refine(t_ (eS hg) (g.blt "enumerate" (by decide)) h D).imp λσ H R q=>?_
 refine uU q λB E O G vs xs st e1 e2 q=>?_
 refine ae (sj e1) λv U e3=>?_
 subst U;have hl:bh [m] G σ=[]:=by cases m<;>first|rfl|exact sW Z
 simp[bq,tr]at e2;obtain⟨ys,e4,rfl⟩:=e2;refine⟨B,E,O,G,_,st,e3,λu H' s g=>?_⟩;refine au (qB (g.2 Z) e4) λa us Y rs z=>?_
 subst Y;rcases z with⟨_,J⟩|⟨_,J⟩
 .exact⟨a,rfl,.inl ⟨⟨us,(be H' O).seq J⟩,q _ _ s (jD (λH2 s2=>s2.seq (cz.seq J)) rs)⟩⟩
 .exact⟨a,rfl,.inr ⟨⟨us,(be H' O).seqT J⟩,q _ _ s (jD (λH2 s2=>s2.seqT (cz.seqT J)) rs)⟩⟩
def Fb {i:Nat}{x:Str}{px:Pos}{f:Str}{ts:List Expr}{j:Nat}{tp p pos:Pos}{T:Tab}{k:Nat} (g:Gf X T k cal) (hf:f=("enumerate":Str)) (hg:glB X.env.scope f=true) (h:aE X.N X.env.scope i x=true):PI X (.Tuple ts j tp) (.Call (.Name f p) [.Name x px] [] pos) (tW X.K cal .enm [.bor i]):=by
 subst hf;refine(t_ (eS hg) (g.blt "enumerate" (by decide)) (cO h) rfl).imp λσ H R q=>?_
 obtain⟨B,E,O,G,vs,xs,st,e1,e2,q⟩:=q;obtain⟨v,rfl,D⟩:=sj e1;simp only[bq,tr]at e2;obtain⟨zs,U,rfl⟩:=e2;rw[ev]at D;cases hj:(G[i]?).join with
 |none=>rw[hj]at D;cases D
 |some m =>
  rw[hj]at D;obtain⟨u,Z,so⟩:=bX st hj;cases m with
  |val w =>
   simp only[bY,ox]at D;subst D;have aL:Rep X.K (aj H O) w u:=so;obtain⟨a,us,rfl,Y,z⟩:=qB aL U;rcases z with⟨rfl,J⟩|⟨rfl,J⟩
   .exact⟨_,Z,a,rfl,.inl ⟨⟨us,(be H O).seq J⟩,q _ _ (af.refl H) (jD (λH2 s2=>s2.seq (cz.seq J)) Y)⟩⟩
   .exact⟨_,Z,a,rfl,.inr ⟨⟨us,(be H O).seqT J⟩,q _ _ (af.refl H) (jD (λH2 s2=>s2.seqT (cz.seqT J)) Y)⟩⟩
  |own ys =>
   simp only[bY,ox]at D;subst D;simp[b_]at U;subst U
   obtain⟨a,us,rfl,ha,Y,hO,_⟩:=so;have hl:bh [.bor i] G σ=[a]:=by simp[bh,hj,Z]
   have hG:bZ B O H (bh [.bor i] G σ) a=some (.lst us):=by
    unfold bZ;rw[hl,if_pos hO,if_pos (by simp)];exact ha
   exact⟨_,Z,a,rfl,.inl ⟨⟨us,SqL.of ha⟩,q _ _ (af.refl H) (jD (λH2 s2=>s2.seq (SqL.of hG)) Y)⟩⟩
  |brw ys =>
   simp only[bY,ox]at D;subst D;simp[b_]at U;subst U
   obtain⟨a,us,rfl,J,Y⟩:=so;exact⟨_,Z,a,rfl,.inl ⟨⟨us,st.keep.seq J⟩,q _ _ (af.refl H) (jD (λH2 s2=>s2.seq ((dN st.keep).seq J)) Y)⟩⟩
  |ownD ys =>
   simp only[bY,ox]at D;subst D;simp[b_]at U
  |ownO _ _ _=>simp[bY]at D
  |brwO _ _=>simp[bY]at D
  |brwD ys =>
   simp only[bY,ox]at D;subst D;simp[b_]at U
abbrev JH(as:List Expr):Prop:=as.length=1\/as.length=2
def BM (g:Gf X T k cal) (hf:f=("range":Str)) (hg:glB X.env.scope f=true) (ha:PA X args (tEs X.K cal ms)) (hn:JH args) (J:args.all aG=true) (hm:ms.length=args.length) :
  PI X tg (.Call (.Name f p) args [] pos) (tW X.K cal .rng ms):=by
 subst hf;have D:∀e,aG e=true->∀es env,starEach (e::es) env=(false,eval e env)::starEach es env:=λe he es env=>by
  cases e<;>first|rfl|(injection he)
 match args,hn with
 | [a],_ =>
  simp only[all_cons,all_nil,Bool.and_true]at J;refine(o4 (eS hg) (g.blt "range" (by decide)) ha (by rw[D a J];rfl)).imp λσ H R q=>?_
  refine uU q λB E O G vs xs st U z q=>?_
  refine⟨B,E,O,G,vs,st,U,λus H' s gs=>?_⟩
  match vs,z,gs with
  | [.int j],z,gs =>
   simp only[bq]at z;split at z
   .rename_i c;cases z;refine ae (p1 gs.1) λu Y Z=>?_
    subst Y;have e3:=Z.int;subst e3;exact⟨j,rfl,c.1,c.2,q _ _ s si⟩
   .exact bc z
  | [.int j,.int j'],z,gs =>
   have:=kI U
   simp_all
 | [a,b],_ =>
  simp only[all_cons,all_nil,Bool.and_true,ow]at J;refine(wa (eS hg) (g.blt "range" (by decide)) ha (by rw[D a J.1,D b J.2];rfl) (by rw[D b J.2];rfl)).imp λσ H R q=>?_
  refine uU q λB E O G vs xs st U z q=>?_
  refine⟨B,E,O,G,vs,st,U,λus H' s gs=>?_⟩
  match vs,z,gs with
  | [.int i,.int j],z,gs =>
   simp only[bq]at z;split at z
   .rename_i c;cases z;refine au (p2 gs.1) λu u' ar Z aL=>?_
    subst ar;have e3:=Z.int;have e4:=aL.int;subst e3 e4;exact⟨i,j,rfl,c,q _ _ s si⟩
   .exact bc z
  | [.int j],z,gs =>
   have:=kI U;simp at this hm;omega
end
noncomputable def tF(K:M5)(cal:Cal)(me:ME):TE:=λσ H Q=>∃B E O G xs,aX K B E O H G σ/\ev cal me G=some (.lst xs) /\
 ∀p us H',af H H'->H p=none->H' p=some (.lst us)->Reps K (aj H' (p::O)) xs us->Q (.ref p) H'
def kJ :af (aj H (p::O)) (aj H O):=bi (af.refl H) λb q=>.inl (Kk _ q)
def cD(h:p∈O):aj (upd H p o) O=aj H O:=by
 funext b
 unfold aj;split
 .rfl
 .rename_i q;exact az λz=>q (by rw[z];exact h)
def vG{K:M5}{H H':Hp}{O:List Addr}{me:ME}{xs:List PV}{p:Addr}{us:List V}(q:∀a∈O,H a≠none)(D:H p=none)(e:H' p=some (.lst us))(r:Reps K (aj H' (p::O)) xs us):Got K H' O me (.lst xs) (.ref p):=by
 refine .of ?_;refine⟨p,us,rfl,SqL.of ?_,Reps.mono kJ _ r⟩;rw[a9 λz=>q p z D];exact e
section
variable{X:Cx}{T:Tab}{k:Nat}{cal:Cal}
def fk(D:∀G v,ev cal me G=some v->∃xs,v=.lst xs)(h:PE X e (tF X.K cal me)):PE X e (tE X.K cal me):=by
 refine h.imp λσ H Q q=>?_
 refine bD q λB E O G v st z q=>?_
 obtain⟨xs,rfl⟩:=D G v z;exact⟨B,E,O,G,xs,st,z,λp us H' s J U r=>q _ _ s (vG st.here J U r)⟩
theorem Gf.blk(g:Gf X T k cal)(x)(fvs)(scope)(q)(z)(C)(fp):Gf (X.blk x fvs scope q z C fp) T k cal:={ g with }
def pH(h:km osc N scope x fvs js=true):lq osc N scope x fvs js:=by
 unfold km at h;simp only[ow,J7,decide_eq_true_eq]at h;refine Jl h λh1 h2 h3 h4 h5 h6 h7 h8 h9=>?_
 exact⟨h1,h2,h3,h4,h5,h6,h7,h8,h9⟩
def Fc{K:M5}{B H H1 H2:Hp}{E O:List Addr}{G:Rho}{σ U:St}{js:List Nat}{D:Addr}{x:PV}{ux:V}(st:aX K B E O H G σ)(s1:af H H1)(s2:af H1 H2)(hD:H1 D=none)(aL:H2 D≠none)
  (a0:∀z,U.set 0 z=(nI js σ).set 0 z) (hl:0<U.length) (hx:Rep K (aj H2 (D::O)) x ux):aX K H1 [] (D::O) H2 (dX js G x) (U.set 0 (some ux)):=by
 have hv:af (aj H O) (aj H2 (D::O)):=bi (s1.trans s2) λb hb=>by
  rcases pe.mp hb with rfl|hb
  .exact .inr (s1.free hD)
  .exact .inl hb
 rw[a0];have J:∀(i:Nat) (m:MV),eR m=true->(dX js G x)[i]?≠some (some m):=λi m hm e=>by
  unfold dX at e;cases i with
  |zero =>
   simp at e;subst e;cases hm
  |succ i =>
   simp only[getElem?_cons_succ,Kb,tr]at e;obtain⟨j,_,e⟩:=e;cases Z:(G[j]?).join with
   |none=>rw[Z]at e;cases e
   |some mm =>
    rw[Z]at e;cases mm<;>first|(simp[dY]at e;done)|(simp only[dY,ox]at e;subst e;cases hm)
 refine⟨s2,λa ha=>?_,λa ha=>by simp at ha,λa ha=>by simp at ha,?_,λi m e=>?_,λi j m m' a _ e _ hm=>absurd e (J i m hm)
  ,nO λi m e=>by
   cases q:isL m with
   |false=>rfl
   |true=>exact absurd e (J i m (by cases m<;>first|(cases q;done)|rfl))
  ⟩
 .rcases pe.mp ha with rfl|ha
  .exact aL
  .exact λe=>st.here a ha ((s1.trans s2).free e)
 .simp[dX,nI]
 .cases i with
  |zero =>
   simp only[dX,getElem?_cons_zero,ox]at e;subst e;exact⟨ux,by simp[nI],hx⟩
  |succ i =>
   simp only[dX,getElem?_cons_succ,Kb,tr]at e;obtain⟨j,ej,e⟩:=e;cases Z:(G[j]?).join with
   |none=>rw[Z]at e;cases e
   |some mm =>
    rw[Z]at e;obtain⟨u,eu,Y⟩:=bX st Z;have a2:((nI js σ).set 0 (some ux))[i+1]?=some (some u):=by
     simp[nI,ej,eu]
    refine⟨u,a2,?_⟩;cases mm with
    |val w =>
     simp only[dY,ox]at e;subst e;exact Rep.mono hv _ Y
    |own ys =>
     simp only[dY,ox]at e;subst e;obtain⟨a,us,rfl,ha,rs,hO,_⟩:=Y;exact⟨a,us,rfl,SqL.of (s1 _ _ ha),Reps.mono hv _ rs⟩
    |brw ys =>
     simp only[dY,ox]at e;subst e;obtain⟨a,us,rfl,sq,rs⟩:=Y;exact⟨a,us,rfl,(st.keep.trans s1).seq sq,Reps.mono hv _ rs⟩
    |ownD kvs =>
     simp only[dY,ox]at e;subst e;obtain⟨a,rfl,ha,_⟩:=Y;exact⟨a,rfl,.inl (s1 _ _ ha)⟩
    |ownO _ fs ys =>
     simp only[dY,ox]at e;subst e;obtain⟨a,l,rfl,q⟩:=Y;exact⟨a,rfl,q.lent.move s1 hv⟩
    |brwO fs ys =>
     simp only[dY,ox]at e;subst e;obtain⟨a,rfl,q⟩:=Y;exact⟨a,rfl,q.move (st.keep.trans s1) hv⟩
    |brwD kvs =>
     simp only[dY,ox]at e;subst e;obtain⟨a,rfl,ha⟩:=Y;exact⟨a,rfl,af.rd (st.keep.trans s1) ha⟩
def ub{cond elt:ME}(g:Gf X T k cal)(J:km X.env.scope X.N scope x (fE X.N js) js=true)
  (hw:PI X (.Name x px) it (tW X.K cal Y ms)) (U:lx it=true)
  (hc:∀z D C fp,PF (X.blk x (fE X.N js) scope z D C fp) ifs (tT X.K cal cond)) (Z:∀z D C fp,PE (X.blk x (fE X.N js) scope z D C fp) e (tE X.K cal elt)) (hb:bb elt=false) :
  PE X (.ListComp e [⟨.Name x px,it,ifs,0⟩] scope pos) (tF X.K cal (.comp Y ms js cond elt)):=by
 refine(Bt (pH J) g.calm hw hc Z (by intro v;cases it<;>first|rfl|(injection U))).imp λσ H Q q=>?_
 exact comp_go hb q
where
 comp_go {k':Sk}{ms:List ME}{js:List Nat}{cond elt:ME}{K:M5}{σ:St}{H:Hp}{Q:VK} (hb:bb elt=false) (q:tF K cal (.comp k' ms js cond elt) σ H Q):yC (tW K cal k' ms) js (tT K cal cond) (tE K cal elt) σ H Q:=by
  refine bN λZq kq=>?_
  refine bD q λB E O G ws st e1 q=>?_
  rw[ev]at e1;simp only[ll]at e1;obtain⟨vs,e1,xs,e2,e3⟩:=e1;refine kq ?_;split at e3
  .rename_i hlen;refine⟨B,E,O,G,vs,xs,st,e1,e2,λJ H1 s1 it D hD=>?_⟩;have hDO:D∉O:=λz=>cr s1 st.here D z hD
   have it1:=it.weak (sg (st.keep.trans s1));refine⟨λi m σ' H'=>m=xs.length-i/\i<=xs.length/\af H1 H'/\(∀z,σ'.set 0 z=(nI js σ).set 0 z)/\0<σ'.length/\∃done eF ys,fB (λx=>(ev cal cond (dX js G x)).bind ba) (λx=>ev cal elt (dX js G x)) (xs.drop i)=some eF/\ws=done++eF/\done.length<=i/\H' D=some (.lst ys)/\Reps K (aj H' (D::O)) done ys,⟨xs.length,by simp,Ki _,bC hD _,λ_=>rfl,by simp[nI],[],ws,[],by simpa using e3,rfl,pb _,aA,.nil⟩,?_⟩;rintro i m σ' H' ⟨rfl,hi,s2,hσ,hl,done,eF,ys,eg,ew,hdl,hDy,rs⟩;by_cases hlt:i<xs.length
   .right;have ex:=Kc hlt;refine⟨it1.go i _ H' s2 ex,λσ2 H2=>∃m',m'<xs.length-i/\(m'=xs.length-(i+1)/\i+1<=xs.length/\af H1 H2/\(∀z,σ2.set 0 z=(nI js σ).set 0 z)/\0<σ2.length/\∃done eF ys,fB (λx=>(ev cal cond (dX js G x)).bind ba) (λx=>ev cal elt (dX js G x)) (xs.drop (i+1))=some eF/\ws=done++eF/\done.length<=i+1/\H2 D=some (.lst ys)/\Reps K (aj H2 (D::O)) done ys),λσ2 H2 z=>z,λux H2 y=>?_⟩;obtain⟨s3,hr⟩:=it1.yld i _ H' ux H2 s2 ex y;have sv:af (aj H1 O) (aj H2 (D::O)):=bi (s2.trans s3) λb hb=>by
     rcases pe.mp hb with rfl|hb
     .exact .inr hD
     .exact .inl hb
    have hx:=hr (D::O) (λa ha=>by
     rcases pe.mp ha with rfl|ha
     .rw[hDy];simp
     .exact λz=>cr s1 st.here a ha (s2.free z)) sv
    have hD2:=s3 _ _ hDy;have stb:=Fc (js:=js) (G:=G) st s1 (s2.trans s3) hD (by rw[hD2];simp) hσ hl hx;rw[drop_eq_getElem_cons hlt,fB]at eg;simp only[ll]at eg;obtain⟨b,eb,eg⟩:=eg;refine⟨H1,[],D::O,_,b,stb,by simpa[evB,ll]using eb,λH3 s4=>?_⟩;have hσ2:∀z,(σ'.set 0 (some ux)).set 0 z=(nI js σ).set 0 z:=λz=>by rw[set_set];exact hσ z
    have hl2:0<(σ'.set 0 (some ux)).length:=by rw[L4];exact hl
    cases b with
    |false =>
     dsimp only;rw[if_neg (by simp)];refine⟨_,by omega,rfl,hlt,(s2.trans s3).trans s4,hσ2,hl2,done,eF,ys,eg,ew,by exact(xb ‹_› (KW _ _)),s4 _ _ hD2,Reps.mono ?_ _ rs⟩;exact(ak s3).trans (ak s4)
    |true =>
     rw[if_pos rfl]at eg;dsimp only;rw[if_pos rfl];refine bN λZq kq=>?_
     simp only[ll,tr]at eg;obtain⟨y',ey,rest',eg,rfl⟩:=eg;refine kq ?_;refine⟨H1,[],D::O,_,y',stb.mono s4,ey,λuy H4 s5 gy=>?_⟩;have hD4:=s5 _ _ (s4 _ _ hD2);have ry:=gy.2 hb;have rs4:=Reps.mono (((ak s3).trans (ak s4)).trans (ak s5)) _ rs;have hyl:ys.length<=10000:=by rw[<- rs.length];omega
     refine⟨ys,hD4,Hg hyl (by decide),_,by omega,rfl,hlt,?_,hσ2,hl2,done++[y'],rest',ys++[uy],eg,by simp[ew],by simp;omega,aA,?_⟩
     .intro b u eb;rw[az (bp eb hD)];exact s5 _ _ (s4 _ _ ((s2.trans s3) _ _ eb))
     .rw[cD (Kz)];exact rs4.snoc ry
   .left;have ei:i=xs.length:=by omega
    subst ei;rw[drop_length,fB]at eg;cases eg;rw[LG]at ew;subst ew;exact⟨it1.stop H' s2,q D ys H' (s1.trans s2) (s1.free hD) hDy rs⟩
  .exact bc e3
def cu(q:aG e=true)(es)(env):starEach (e::es) env=(false,eval e env)::starEach es env:=by
 cases e<;>first|rfl|(injection q)
theorem cg :∀{es},es.all aG=true->(backTo pos (starEach es env)).any (·.1)=false
 | [],_=>rfl
 |e::es,h=>by
  simp only[all_cons,ow]at h;rw[cu h.1];show(false||(backTo pos (starEach es env)).any (·.1))=false;rw[cg h.2];rfl
theorem cb:∀{ms}{N}{sc}{es},chks T ms N sc es=true->es.all aG=true/\ms.length=es.length
 | [],_,_,[],_=>⟨rfl,rfl⟩
 | [],_,_,_::_,h=>by simp[chks]at h
 | _::_,_,_,[],h=>by simp[chks]at h
 |m::ms,N,sc,e::es,h=>by
  simp[chks]at h;obtain⟨h1,h2⟩:=cb h.2;exact⟨by simp[h.1.2,h1],by simp[h2]⟩
def bF(h:PE X e (tE X.K cal me))(D:wM e=true):PT X e (tT X.K cal me):=by
 refine(xH h (by intro w;cases e<;>first|rfl|(injection D;done)|(rename_i op _ _;cases op<;>first|rfl|(injection D)))).imp λσ H Q q=>?_
 refine bD q λB E O G b st z q=>?_
 simp[evB,ll]at z;obtain⟨v,z,J⟩:=z;refine⟨B,E,O,G,v,st,z,λu H' s g=>?_⟩;cases v<;>simp[ba]at J
 subst J;exact⟨_,g.1.bl,q H' s⟩
def zc(h:PE X e (tE X.K cal m))(Y:PA X es (tEs X.K cal ms))(hn:aG e=true):PA X (e::es) (tEs X.K cal (m::ms)):=by
 refine(aH h Y (cu hn es _)).imp λσ H Q q=>?_
 refine bD q λB E O G vs st z q=>?_
 simp[evs,ll,tr]at z;obtain⟨v,z,Z,e2,rfl⟩:=z;refine⟨B,E,O,G,v,st,z,λu H1 s1 J=>⟨B,E,O,G,Z,st.mono s1,e2,λus H2 s2 U=>q _ H2 (s1.trans s2) ⟨.cons (J.1.mono s2) U.1,λD=>?_⟩⟩⟩;simp only[all_cons,ow,Km]at D;exact .cons ((J.mono s2).2 D.1) (U.2 D.2)
def BN:PA X [] (tEs X.K cal []):=by
 refine bO.imp λσ H Q q=>?_
 refine bD q λB E O G vs st z q=>?_
 simp only[evs,ox]at z;subst z;exact q [] H (af.refl H) ⟨.nil,λ_=>.nil⟩
def zd:PA X [] (tAs X.K cal []):=by
 refine bO.imp λσ H Q q=>?_
 refine bD q λB E O G vs st z q=>?_
 simp only[evA,ox]at z;subst z;exact q [] H (af.refl H) .nil
def ze{K:M5}{H H':Hp}{O:List Addr}(s:af H H'){m:MV}{u:V}(h:gc K O H m u):gc K O H' m u:=by
 cases m with
 |val v=>exact Rep.mono (ak s) _ h
 |own _=>exact h
 |brw xs=>obtain⟨a,us,e,q,r⟩:=h;exact⟨a,us,e,s.seq q,Reps.mono (ak s) _ r⟩
 |ownD _=>exact h
 |ownO _ _ _=>exact h
 |brwO fs xs=>obtain⟨a,e,q⟩:=h;exact⟨a,e,q.move s (ak s)⟩
 |brwD kvs=>obtain⟨a,e,q⟩:=h;exact⟨a,e,af.rd s q⟩
def wS(D:bb m=false)(h:PE X e (tE X.K cal m))(J:PA X es (tAs X.K cal ms))(hn:aG e=true):PA X (e::es) (tAs X.K cal (m::ms)):=by
 refine(aH h J (cu hn es _)).imp λσ H Q q=>?_
 refine bD q λB E O G vs st U q=>?_
 have z:(ev cal m G).bind (λv=>(evA cal ms G).map (MV.val v::·))=some vs:=by
  rw[<- U];cases m<;>first|(exact sW D;done)|(simp;done)|rfl
 simp[ll]at z;obtain⟨v,Y,Z,e2,rfl⟩:=z;exact⟨B,E,O,G,v,st,Y,λu H1 s1 g1=>⟨B,E,O,G,Z,st.mono s1,e2,λus H2 s2 g2=>q _ H2 (s1.trans s2) (.cons ((g1.mono s2).2 D) g2)⟩⟩
def zf{i:Nat}{ms:List ME}{x:Str}{pos:Pos}{es:List Expr}(h:aE X.N X.env.scope i x=true)(Y:PA X es (tAs X.K cal ms)):PA X (.Name x pos::es) (tAs X.K cal (.bor i::ms)):=by
 refine(aH (cO h) Y rfl).imp λσ H Q q=>?_
 obtain⟨B,E,O,G,vs,st,z,q⟩:=q;rw[evA]at z;simp only[ll,tr]at z;obtain⟨Z,z,ws,e2,rfl⟩:=z;cases J:(G[i]?).join with
 |none=>rw[J]at z;cases z
 |some m =>
  rw[J]at z;obtain⟨u,eu,D⟩:=bX st J;have ao:gc X.K O H Z u:=by
   cases m with
   |val w=>simp only[fZ,ox]at z;subst z;exact D
   |own ys=>simp only[fZ,ox]at z;subst z;obtain⟨a,us,rfl,ha,U,_⟩:=D;exact⟨a,us,rfl,SqL.of ha,U⟩
   |brw ys=>simp only[fZ,ox]at z;subst z;obtain⟨a,us,rfl,sq,U⟩:=D;exact⟨a,us,rfl,st.keep.seq sq,U⟩
   |ownD kvs=>simp only[fZ,ox]at z;subst z;obtain⟨a,rfl,ha,_⟩:=D;exact⟨a,rfl,.inl ha⟩
   |ownO _ fs ys=>simp only[fZ,ox]at z;subst z;obtain⟨a,l,rfl,q⟩:=D;exact⟨a,rfl,q.lent⟩
   |brwO fs ys=>simp only[fZ,ox]at z;subst z;obtain⟨a,rfl,q⟩:=D;exact⟨a,rfl,q.move st.keep (af.refl _)⟩
   |brwD kvs=>simp only[fZ,ox]at z;subst z;obtain⟨a,rfl,ha⟩:=D;exact⟨a,rfl,af.rd st.keep ha⟩
  exact⟨u,eu,⟨B,E,O,G,ws,st,e2,λus H2 s2 g2=>q (u::us) H2 s2 (.cons (ze s2 ao) g2)⟩⟩
def HB(ha:PE X l (tE X.K cal a))(D:PE X r (tE X.K cal b)):PE X (.BinOp l (ES op) r pos) (tE X.K cal (.bin op a b)):=by
 refine(GY (E2 op) ha D).imp λσ H Q q=>?_
 refine bD q λB E O G v st z q=>?_
 rw[ev]at z;simp only[ll]at z;obtain⟨x,z,y,J,U⟩:=z;exact⟨B,E,O,G,x,st,z,λux H1 s1 Y=>⟨B,E,O,G,y,st.mono s1,J,λuy H2 s2 Z=>⟨O,x,y,v,cr (s1.trans s2) st.here,Y.1.mono s2,Z.1,U,λu H3 s3 r=>q u H3 ((s1.trans s2).trans s3) (.of r)⟩⟩⟩
def HC(ha:PE X e (tE X.K cal a)):PE X (.UnaryOp .Not e pos) (tE X.K cal (.not a)):=by
 refine(DU ha).imp λσ H Q q=>?_
 refine bD q λB E O G v st z q=>?_
 rw[ev]at z;simp only[ll,tr]at z;obtain⟨b,⟨x,z,D⟩,rfl⟩:=z;cases x<;>simp[ba,ox,reduceCtorEq]at D
 subst D;exact⟨B,E,O,G,_,st,z,λU H1 s1 J=>⟨_,J.1.bl,q _ H1 s1 (.of (c9 _ _))⟩⟩
def HE(ha:PT X e (tT X.K cal a)):PT X (.UnaryOp .Not e pos) (tT X.K cal (.not a)):=by
 refine(xI ha).imp λσ H Q q=>?_
 refine bD q λB E O G b st z q=>?_
 simp only[evB,ev,ll,tr]at z;obtain⟨v,⟨c,⟨x,z,J⟩,rfl⟩,D⟩:=z;simp only[ba,ox]at D;subst D;exact⟨B,E,O,G,c,st,by simp[evB,z,J],λH' s=>q H' s⟩
def Dd(ha:PE X x (tE X.K cal a))(Z:PE X (.BoolOp .And (y::r) pos) (tE X.K cal b)):PE X (.BoolOp .And (x::y::r) pos) (tE X.K cal (.and a b)):=by
 refine(DR ha Z).imp λσ H Q q=>?_
 refine bD q λB E O G v st J q=>?_
 rw[ev]at J;simp only[ll]at J;obtain⟨c,⟨z,J,U⟩,D⟩:=J;cases z<;>simp[ba,ox,reduceCtorEq]at U
 subst U;refine⟨B,E,O,G,_,st,J,λux H1 s1 g1=>⟨_,g1.1.bl,?_⟩⟩;split at D
 .rename_i h;rw[if_pos h];simp only[ll,tr]at D;obtain⟨z',D,c',Y,rfl⟩:=D;cases z'<;>simp[ba,ox,reduceCtorEq]at Y
  subst Y;exact⟨B,E,O,G,_,st.mono s1,D,λu H2 s2 g2=>q u H2 (s1.trans s2) (by rw[g2.1.bl];exact .of (c9 _ _))⟩
 .rename_i h;rw[if_neg h];cases D;exact q _ H1 s1 (.of (c9 _ _))
def HF(ha:PE X x (tE X.K cal a))(Z:PE X (.BoolOp .Or (y::r) pos) (tE X.K cal b)):PE X (.BoolOp .Or (x::y::r) pos) (tE X.K cal (.or a b)):=by
 refine(GW ha Z).imp λσ H Q q=>?_
 refine bD q λB E O G v st J q=>?_
 rw[ev]at J;simp only[ll]at J;obtain⟨c,⟨z,J,U⟩,D⟩:=J;cases z<;>simp[ba,ox,reduceCtorEq]at U
 subst U;refine⟨B,E,O,G,_,st,J,λux H1 s1 g1=>⟨_,g1.1.bl,?_⟩⟩;split at D
 .rename_i h;rw[if_pos h];cases D;exact q _ H1 s1 (.of (c9 _ _))
 .rename_i h;rw[if_neg h];simp only[ll,tr]at D;obtain⟨z',D,c',Y,rfl⟩:=D;cases z'<;>simp[ba,ox,reduceCtorEq]at Y
  subst Y;exact⟨B,E,O,G,_,st.mono s1,D,λu H2 s2 g2=>q u H2 (s1.trans s2) (by rw[g2.1.bl];exact .of (c9 _ _))⟩
def De(h:PT X (.BoolOp op vs pos) t):PW X (.BoolOp op vs pos) t:=λw pins s σ H Q I q=>by
 have:=h pins s σ H Q I q;exact this
def Dg(ha:PT X x (tT X.K cal a))(Y:PW X (.BoolOp .And (y::r) pos) (tT X.K cal b)):PT X (.BoolOp .And (x::y::r) pos) (tT X.K cal (.and a b)):=by
 refine(DQ ha Y).pt.imp λσ H Q q=>?_
 refine bD q λB E O G v st J q=>?_
 simp only[evB,ev,ll]at J;obtain⟨w,⟨c,⟨z,J,Z⟩,D⟩,U⟩:=J;refine⟨B,E,O,G,c,st,by simp[evB,J,Z],λH1 s1=>?_⟩;split at D
 .rename_i h;rw[if_pos h];simp only[ll,tr]at D;obtain⟨z',D,c',e5,rfl⟩:=D;simp only[ba,ox]at U;subst U;exact⟨B,E,O,G,_,st.mono s1,by simp[evB,D,e5],λH2 s2=>q H2 (s1.trans s2)⟩
 .rename_i h;rw[if_neg h];cases D;cases U;exact q H1 s1
def HG(ha:PT X x (tT X.K cal a))(Y:PW X (.BoolOp .Or (y::r) pos) (tT X.K cal b)):PT X (.BoolOp .Or (x::y::r) pos) (tT X.K cal (.or a b)):=by
 refine(GT ha Y).pt.imp λσ H Q q=>?_
 refine bD q λB E O G v st J q=>?_
 simp only[evB,ev,ll]at J;obtain⟨w,⟨c,⟨z,J,Z⟩,D⟩,U⟩:=J;refine⟨B,E,O,G,c,st,by simp[evB,J,Z],λH1 s1=>?_⟩;split at D
 .rename_i h;rw[if_pos h];cases D;cases U;exact q H1 s1
 .rename_i h;rw[if_neg h];simp only[ll,tr]at D;obtain⟨z',D,c',e5,rfl⟩:=D;simp[ba,ox]at U;subst U;exact⟨B,E,O,G,_,st.mono s1,by simp[evB,D,e5],λH2 s2=>q H2 (s1.trans s2)⟩
def HH(hc:PT X t (tT X.K cal c))(ha:PE X x (tE X.K cal a))(U:PE X y (tE X.K cal b))(Y:bb a=false)(Z:bb b=false):PE X (.IfExp t x y pos) (tE X.K cal (.ite c a b)):=by
 refine(re hc ha U).imp λσ H Q q=>?_
 refine bD q λB E O G v st z q=>?_
 rw[ev]at z;simp only[ll]at z;refine ae z λk' z D=>?_
 refine⟨B,E,O,G,k',st,by simpa[evB,ll]using z,λH1 s1=>?_⟩;split at D
 .rename_i h;rw[if_pos h];exact⟨B,E,O,G,v,st.mono s1,D,λu H2 s2 J=>q u H2 (s1.trans s2) (.of (J.2 Y))⟩
 .rename_i h;rw[if_neg h];exact⟨B,E,O,G,v,st.mono s1,D,λu H2 s2 J=>q u H2 (s1.trans s2) (.of (J.2 Z))⟩
def HI(hc:PT X t (tT X.K cal c))(ha:PT X x (tT X.K cal a))(hb:PT X y (tT X.K cal b)):PT X (.IfExp t x y pos) (tT X.K cal (.ite c a b)):=by
 intro pins s σ H Q I q;refine bN λZq kq=>?_
 refine bD q λB E O G v st z q=>?_
 simp only[evB,ev,ll]at z;obtain⟨w,⟨U,z,J⟩,Y⟩:=z;refine kq ?_;refine isTrue_IfExp (thn (hc pins s σ H (λb H1=>b=U/\af H H1) I ⟨B,E,O,G,U,st,by simpa[evB,ll]using z,λH1 s1=>⟨rfl,s1⟩⟩) λb s1 hq=>a8 hq λH1 Z eb D=>?_);subst eb;split at J
 .rename_i h;subst h;exact ha pins s1 σ H1 Q Z ⟨B,E,O,G,v,st.mono D,by simp[evB,J,Y],λH2 s2=>q H2 (D.trans s2)⟩
 .rename_i h;have:b=false:=by cases b<;>simp at h ⊢
  subst this;exact hb pins s1 σ H1 Q Z ⟨B,E,O,G,v,st.mono D,by simp[evB,J,Y],λH2 s2=>q H2 (D.trans s2)⟩
def HJ(g:Gf X T k cal)(ha:PE X l (tE X.K cal a))(Z:PE X r (tE X.K cal b))(hm:behindInMarks (g7 op) r=false):PE X (.Compare l [g7 op] [r] pos) (tE X.K cal (.cmp op a b))/\PT X (.Compare l [g7 op] [r] pos) (tT X.K cal (.cmp op a b)):=by
 refine⟨(uY (gq g.units op) ha Z hm).imp λσ H Q q=>?_,(mG (gq g.units op) ha Z hm).imp λσ H Q q=>?_⟩
 .refine bD q λB E O G v st z q=>?_
  rw[ev]at z;simp only[ll,tr]at z;obtain⟨x,z,y,D,c,J,rfl⟩:=z;exact⟨B,E,O,G,x,st,z,λux H1 s1 U=>⟨B,E,O,G,y,st.mono s1,D,λuy H2 s2 Y=>⟨O,x,y,c,U.1.mono s2,Y.1,J,q _ H2 (s1.trans s2) (.of (c9 _ _))⟩⟩⟩
 .refine bD q λB E O G v st z q=>?_
  simp only[evB,ev,ll,tr]at z;obtain⟨w,⟨x,z,y,D,c,J,rfl⟩,e4⟩:=z;simp[ba,ox]at e4;subst e4;exact⟨B,E,O,G,x,st,z,λux H1 s1 U=>⟨B,E,O,G,y,st.mono s1,D,λuy H2 s2 Y=>⟨O,x,y,c,U.1.mono s2,Y.1,J,_,rfl,q H2 (s1.trans s2)⟩⟩⟩
def BO(g:Gf X T k cal)(ha:PE X l (tE X.K cal a))(hb:PE X m (tE X.K cal b))(hc:PE X r (tE X.K cal c))(hm:lastMarks [g7 op,g7 D] [m,r]=false) :
  PE X (.Compare l [g7 op,g7 D] [m,r] pos) (tE X.K cal (.chain op D a b c))/\PT X (.Compare l [g7 op,g7 D] [m,r] pos) (tT X.K cal (.chain op D a b c)):=by
 refine⟨(xT (gq g.units op) (gq g.units D) ha hb hc hm).imp λσ H Q q=>?_,(xU (gq g.units op) (gq g.units D) ha hb hc hm).imp λσ H Q q=>?_⟩
 .refine bD q λB E O G v st U q=>?_
  rw[ev]at U;simp only[ll]at U;obtain⟨x,U,y,Z,c',e3,J⟩:=U;refine⟨B,E,O,G,x,st,U,λux H1 s1 g1=>⟨B,E,O,G,y,st.mono s1,Z,λuy H2 s2 Y=>⟨O,x,y,c',g1.1.mono s2,Y.1,e3,_,rfl,?_⟩⟩⟩;split at J
  .rename_i h;rw[if_pos h];simp only[ll,tr]at J;obtain⟨z,J,d,e5,rfl⟩:=J;exact⟨B,E,O,G,z,(st.mono s1).mono s2,J,λuz H3 s3 g3=>⟨O,y,z,d,Y.1.mono s3,g3.1,e5,q _ H3 ((s1.trans s2).trans s3) (.of (c9 _ _))⟩⟩
  .rename_i h;rw[if_neg h];cases J;exact q _ H2 (s1.trans s2) (.of (c9 _ _))
 .refine bD q λB E O G v st U q=>?_
  simp only[evB,ev,ll]at U;obtain⟨w,⟨x,U,y,Z,c',e3,J⟩,e6⟩:=U;refine⟨B,E,O,G,x,st,U,λux H1 s1 g1=>⟨B,E,O,G,y,st.mono s1,Z,λuy H2 s2 Y=>⟨O,x,y,c',g1.1.mono s2,Y.1,e3,_,rfl,?_⟩⟩⟩;split at J
  .rename_i h;rw[if_pos h];simp only[ll,tr]at J;obtain⟨z,J,d,e5,rfl⟩:=J;simp only[ba,ox]at e6;subst e6;exact⟨B,E,O,G,z,(st.mono s1).mono s2,J,λuz H3 s3 g3=>⟨O,y,z,d,Y.1.mono s3,g3.1,e5,_,rfl,q H3 ((s1.trans s2).trans s3)⟩⟩
  .rename_i h;rw[if_neg h];cases J;cases e6;exact⟨_,rfl,q H2 (s1.trans s2)⟩
def HK(h:PA X es (tEs X.K cal ms))(J:(ms.all λm=>!bb m)=true):PE X (.Tuple es j pos) (tE X.K cal (.tup ms)):=by
 refine(Eh h).imp λσ H Q q=>?_
 refine bD q λB E O G v st z q=>?_
 rw[ev]at z;simp only[ll]at z;obtain⟨vs,z,D⟩:=z;split at D
 .rename_i Z;cases D;refine⟨B,E,O,G,vs,st,z,λus H1 s1 U=>⟨?_,λp Y=>?_⟩⟩
  .rw[<- (U.2 J).length];exact gK Z
  .exact q _ _ (s1.trans (bC Y _)) (.of (kD (cr s1 st.here) Y (U.2 J)))
 .exact bc D
def Dh(h:PA X es (tEs X.K cal ms))(z:(ms.all λm=>!bb m)=true):PE X (.List es pos) (tF X.K cal (.lst ms)):=by
 refine(tD h).imp λσ H Q q=>?_
 refine bD q λB E O G xs st D q=>?_
 rw[ev]at D;simp only[ll]at D;refine ae D λvs D J=>?_
 split at J
 .rename_i Z;cases J;refine⟨B,E,O,G,xs,st,D,λus H1 s1 Y=>⟨?_,λp U=>?_⟩⟩
  .rw[<- (Y.2 z).length];exact gK Z
  .refine q p us _ (s1.trans (bC U _)) (s1.free U) aA ?_;rw[cD (Kz)];refine Reps.mono (bi (af.refl H1) λb z=>?_) _ (Y.2 z);rcases pe.mp z with rfl|z
   .exact .inr U
   .exact .inl z
 .exact bc J
def HL(ha:PE X v (tE X.K cal a))(hi:PE X s (tE X.K cal i))(D:eK s=true):PE X (.Subscript v s pos) (tE X.K cal (.idx a i)):=by
 refine(o_ E4 ha hi (t9 D)).imp λσ H Q q=>?_
 refine bD q λB E O G v st z q=>?_
 rw[ev]at z;simp[ll]at z;obtain⟨x,z,y,J,U⟩:=z;exact⟨B,E,O,G,x,st,z,λux H1 s1 Y=>⟨B,E,O,G,y,st.mono s1,J,λuy H2 s2 Z=>⟨O,x,y,v,cr (s1.trans s2) st.here,Y.1.mono s2,Z.1,U,λu H3 s3 r=>q u H3 ((s1.trans s2).trans s3) (.of r)⟩⟩⟩
noncomputable def tB1(K:M5)(cal:Cal)(me:ME):TO:=λσ H Q=>∃B E O G o,aX K B E O H G σ/\((ev cal me G).bind λv=>bnd me v)=some o/\∀H',af H H'->Q o H'
def Fd(h:lz m=true):PO X none (tB1 X.K cal m):=by
 have e:m=.cst .non:=by
  unfold lz at h;split at h
  .rfl
  .exact dy h
 subst e;intro pins s σ H Q I q;refine bN λJ D=>?_
 refine bD q λB E O G o st z q=>?_
 simp[ev,bind_some,bnd]at z;subst z;refine D ?_;exact Bb pins s σ H Q I (q H (af.refl H))
def Fe(h:PE X l (tE X.K cal m))(hn:lz m=false):PO X (some l) (tB1 X.K cal m):=by
 intro pins s σ H Q I q;refine bN λU J=>?_
 refine bD q λB E O G o st z q=>?_
 simp[ll]at z;obtain⟨v,z,D⟩:=z;obtain⟨i,rfl,rfl⟩:∃i,v=.int i/\o=some i:=by
  unfold bnd at D;split at D
  .injection hn
  .simp_all
  .exact bc D
 refine J ?_;exact Bc h pins s σ H Q I ⟨B,E,O,G,_,st,z,λu H' s' g=>⟨i,g.1.int,q H' s'⟩⟩
def BP{a lo hi:ME}{p2 pos:Pos}(ha:PE X v (tE X.K cal a))(Z:PO X l (tB1 X.K cal lo))(hu:PO X u (tB1 X.K cal hi)):PE X (.Subscript v (.Slice l u none p2) pos) (tE X.K cal (.slice a lo hi)):=by
 refine(yb E5 ha Z hu).imp λσ H Q q=>?_
 refine bN λZq kq=>?_
 refine bD q λB E O G w st z q=>?_
 rw[ev,ll]at z;refine ae z λx z D=>?_
 rw[ll]at D;refine ae D λU D J=>?_
 rw[ll]at J;refine ae J λY J e4=>?_
 refine kq ?_;exact⟨B,E,O,G,x,st,z,λux H1 s1 g1=>⟨B,E,O,G,U,st.mono s1,D,λH2 s2=>⟨B,E,O,G,Y,(st.mono s1).mono s2,J,λH3 s3 =>
  ⟨O,x,w,cr ((s1.trans s2).trans s3) st.here,g1.1.mono (s2.trans s3),e4,λu H4 s4 r=>q u H4 (((s1.trans s2).trans s3).trans s4) (.of r)⟩⟩⟩⟩
def sk {id:String} (hc:ce X (.builtin id) (RBM X.K (aM f))) (J:glB X.env.scope x=true) (hm:X.mg x=none) (U:bootBuiltins x=some (.builtin id)) (hn:x ≠ "__name__") (hd:(x==("__debug__":Str))=false)
  (ha:PA X (e::es) (tEs X.K cal ms)) (D:(e::es).all aG=true):PE X (.Call (.Name x p) (e::es) [] pos) (tE X.K cal (.blt f ms)):=by
 simp only[all_cons,ow]at D;refine(iC hc (eS J) hm U ha hn hd (cu D.1 es _) (cg D.2)).imp λσ H Q q=>?_
 refine bD q λB E O G v st z q=>?_
 rw[ev,ll]at z;refine ae z λvs z Y=>?_
 exact⟨B,E,O,G,vs,st,z,λus H1 s1 Z=>⟨O,vs,v,cr s1 st.here,Z.1,Y,λu H2 s2 r=>q u H2 (s1.trans s2) (.of r)⟩⟩
def zg {id:String} (hc:ce X (.type id) (RBM X.K (aM f))) (J:glB X.env.scope x=true) (hm:X.mg x=none) (U:bootBuiltins x=some (.type id)) (hn:x ≠ "__name__") (hd:(x==("__debug__":Str))=false)
  (ha:PA X (e::es) (tEs X.K cal ms)) (D:(e::es).all aG=true):PE X (.Call (.Name x p) (e::es) [] pos) (tE X.K cal (.blt f ms)):=by
 simp only[all_cons,ow]at D;refine(k7 hc (eS J) hm U ha hn hd (cu D.1 es _) (cg D.2)).imp λσ H Q q=>?_
 refine bD q λB E O G v st z q=>?_
 rw[ev,ll]at z;refine ae z λvs z Y=>?_
 exact⟨B,E,O,G,vs,st,z,λus H1 s1 Z=>⟨O,vs,v,cr s1 st.here,Z.1,Y,λu H2 s2 r=>q u H2 (s1.trans s2) (.of r)⟩⟩
def pI{K:M5}(q:tF K cal (.blt f ms) σ H Q):tCB (RBF K (aM f)) (tEs K cal ms) σ H Q:=by
 refine bD q λB E O G xs st z q=>?_
 rw[ev,ll]at z;refine ae z λvs z U=>?_
 refine⟨B,E,O,G,vs,st,z,λus H1 s1 Y=>⟨O,vs,xs,cr s1 st.here,Y.1,U,λl Z D r=>q l Z _ (s1.trans (bC D _)) (s1.free D) aA ?_⟩⟩;rw[cD (Kz)];refine Reps.mono (bi (af.refl H1) λb J=>?_) _ r;rcases pe.mp J with rfl|J
 .exact .inr D
 .exact .inl J
def zh {id:String} (hc:ce X (.builtin id) (RBF X.K (aM f))) (D:glB X.env.scope x=true) (hm:X.mg x=none) (J:bootBuiltins x=some (.builtin id)) (hn:x ≠ "__name__") (hd:(x==("__debug__":Str))=false)
  (ha:PA X (e::es) (tEs X.K cal ms)) (z:(e::es).all aG=true):PE X (.Call (.Name x p) (e::es) [] pos) (tF X.K cal (.blt f ms)):=by
 simp only[all_cons,ow]at z;exact(iC hc (eS D) hm J ha hn hd (cu z.1 es _) (cg z.2)).imp λσ H Q q=>pI q
def BQ {id:String} (hc:ce X (.type id) (RBF X.K (aM f))) (D:glB X.env.scope x=true) (hm:X.mg x=none) (J:bootBuiltins x=some (.type id)) (hn:x ≠ "__name__") (hd:(x==("__debug__":Str))=false)
  (ha:PA X (e::es) (tEs X.K cal ms)) (z:(e::es).all aG=true):PE X (.Call (.Name x p) (e::es) [] pos) (tF X.K cal (.blt f ms)):=by
 simp only[all_cons,ow]at z;exact(k7 hc (eS D) hm J ha hn hd (cu z.1 es _) (cg z.2)).imp λσ H Q q=>pI q
def Fg{f:Nat}{ms:List ME}{x:Str}{es:List Expr}{p pos:Pos}(g:Gf X T k cal)(U:T.fs[f]?=some x)(J:glB X.env.scope x=true)(hn:aN x=true)(ha:PA X es (tAs X.K cal ms))(D:es.all aG=true)(Y:ms.length=es.length):PE X (.Call (.Name x p) es [] pos) (tE X.K cal (.call f ms)):=by
 obtain⟨fa,fd,ps,h1,h2,h3,F,_⟩:=g.fns f x U hn;have key:∀σ H Q,tE X.K cal (.call f ms) σ H Q->rn (spM X.K cal f) [] E0 (tAs X.K cal ms) σ H Q:=λσ H Q q=>by
  obtain⟨B,E,O,G,v,st,z,q⟩:=q;rw[ev,ll]at z;obtain⟨vs,z,Z⟩:=z;refine⟨B,E,O,G,vs,st,z,λus H1 s1 g1=>⟨O,vs,v,cr s1 st.here,?_,Z,λu H2 s2 r=>q u H2 (s1.trans s2) (.of r)⟩⟩;rw[LG];exact g1
 cases es with
 |nil =>
  refine(xY F g.room (eS J) h1 h2 h3 .nil eW (mN hn).1).imp λσ H Q q=>?_
  obtain⟨B,E,O,G,vs,st,z,q⟩:=key σ H Q q;cases ms with
  |nil =>
   simp only[evA,ox]at z;subst z;exact q [] H (af.refl H) .nil
  |cons m ms=>simp at Y
 |cons e es =>
  simp only[all_cons,ow]at D;exact(p9 F g.room (eS J) h1 h2 h3 .nil eW ha (mN hn).1 (cu D.1 es _) (cg D.2)).imp key
end
section
variable{K:M5}{H:Hp}{O:List Addr}
def zi(kvs)(i):jW (gJ kvs) (Sum.inl i:Key)=(bE kvs i).map Sc.v:=by
 unfold jW gJ bE;rw[find?_map,Mn,Mn];have e:((λq:Key×V=>decide (q.1=(Sum.inl i:Key)))∘λp:Int×Sc=>((Sum.inl p.1:Key),p.2.v))=λp:Int×Sc=>decide (p.1=i):=by
  funext p
  simp
 rw[e]
 rfl
def zj(kvs)(k):jW (kh kvs) (k.map Sum.inl)=(bE kvs k).map Sc.v:=by
 unfold jW kh bE;rw[find?_map,Mn,Mn];have e:((λq:List Key×V=>decide (q.1=k.map Sum.inl))∘λp:List Int×Sc=>((p.1.map Sum.inl:List Key),p.2.v))=λp:List Int×Sc=>decide (p.1=k):=by
  funext p
  exact decide_eq_decide.mpr ⟨mL,λe=>La _ e⟩
 rw[e]
 rfl
def BR(ns:List Int):(ns.map Sum.inl:List Key).map kV=ns.map V.int:=by
 rw[Kh]
 rfl
def vH(e:cB xs=some ns)(r:bQ K H O (.tup xs) u):∃b,u=.ref b/\H b=some (.tup ((ns.map Sum.inl:List Key).map kV)):=by
 have z:=iI e;subst z;refine au r.tupH λb us q h t=>?_
 subst q;have D:=t.ints;subst D;exact⟨b,rfl,by rw[BR];exact h⟩
def qC{d:DD}{y:PV}{o:Option Sc}{a:Addr}{u:V}(e:t4 (.dI d) y=some o)(ha:RdD H a d)(r:bQ K H O y u):ni H a u (o.map Sc.v):=by
 cases d with
 |k kvs =>
  cases y<;>try (cases e;done)
  rename_i i;have q:=r.int;subst q;have z:bE kvs i=o:=vr e;rw[<- z,<- zi];exact .inl ⟨_,Sum.inl i,ha.rd,rfl,rfl⟩
 |t kvs =>
  cases y<;>try (cases e;done)
  rename_i xs;have e:(cB xs).map (bE kvs)=some o:=e;rw[tr]at e;obtain⟨ns,q,z⟩:=e;obtain⟨b,rfl,D⟩:=vH q r;rw[<- z,<- zj];exact .inr ⟨_,_,b,ha.rd,rfl,D,rfl⟩
def zk(kvs)(k)(s):jc (gJ kvs) (Sum.inl k:Key) s.v=gJ (bU kvs k s):=by
 have q:((gJ kvs).any λz=>decide (z.1=(Sum.inl k:Key)))=kvs.any λp=>decide (p.1=k):=by
  unfold gJ;rw[MW]
  congr 1
  funext p
  simp
 unfold jc bU;rw[q];split
 .unfold gJ;rw[Kh,Kh];refine Lg λp _=>?_
  by_cases h:p.1=k<;>simp[h]
 .unfold gJ;rw[K0]
  rfl
def zl(kvs)(k)(s):jc (kh kvs) (k.map Sum.inl:List Key) s.v=kh (bU kvs k s):=by
 have D:∀q,_ ↔ q=k:=λq=>⟨mL,λe=>by rw[e]⟩
 have J:((kh kvs).any λU=>decide (U.1=(k.map Sum.inl:List Key)))=kvs.any λp=>decide (p.1=k):=by
  unfold kh;rw[MW]
  congr 1
  funext p
  simp_all
 unfold jc bU;rw[J];split
 .unfold kh;rw[Kh,Kh];refine Lg λp _=>?_
  by_cases h:p.1=k
  .have h2:=(D p.1).mpr h;simp[h]
  .have h2:¬ _=k.map Sum.inl:=λz=>h ((D p.1).mp z)
   simp[h,h2]
 .unfold kh;rw[K0]
  rfl
def BS{d d':DD}{y:PV}{s:Sc}{a:Addr}{u:V}(e:rP d y s=some d')(ha:H a=some (my d))(r:bQ K H O y u):nj H a u s.v (upd H a (my d')):=by
 cases d with
 |k kvs =>
  cases y<;>try (cases e;done)
  rename_i i;have z:=r.int;subst z;have q:(if kvs.length<10000 then some (DD.k (bU kvs i s))else none)=some d':=e;split at q
  .rename_i D;cases q;show nj H a (.int i) s.v (upd H a (.dK (gJ (bU kvs i s))));rw[<- zk];exact nj.k (k:=Sum.inl i) ha (by unfold gJ;rw[sm,KG];omega)
  .cases q
 |t kvs =>
  cases y<;>try (cases e;done)
  rename_i xs;have e:((cB xs).bind λk=>if kvs.length<10000 then some (DD.t (bU kvs k s))else none)=some d':=e;rw[ll]at e;obtain⟨ns,z,q⟩:=e;obtain⟨b,rfl,J⟩:=vH z r;split at q
  .rename_i D;cases q;show nj H a (.ref b) s.v (upd H a (.dT (kh (bU kvs ns s))));rw[<- zl];exact nj.t ha J (by unfold kh;rw[sm,KG];omega)
  .cases q
end
section
variable{X:Cx}{pins:List (Addr×Obj)}{σ:St}{H:Hp}{s:Shared}
end
section
variable{X:Cx}{T:Tab}{k:Nat}{cal:Cal}
def BT{P:Program}{w:World}{n:Int}{v:Value}(h:(cm P w).is (Sum.inl n) v=true):∃t,v=.int n t:=by
 rw[sX]at h;cases v<;>simp[lW,Value.isInt]at h
 subst h;exact⟨_,rfl⟩
def qD (hc:X.calm=true):ce X (.builtin "sorted") (RBF X.K (aM .sortedKeys)):=by
 intro pins s σ H xs us Q I r h;obtain⟨O,vs,ys,hO,rs,e,q⟩:=h;obtain⟨x,rfl⟩:=d6 e (.inl rfl);obtain⟨u,rfl,rx⟩:=p1 rs;have hd:∃kvs,x=.dI (.k kvs)/\kvs.length<64/\ys=(sortI (kvs.map (·.1))).map .int:=by
  simp only[aM,c8]at e;split at e
  .split at e
   .rename_i kvs hl;cases e;exact⟨kvs,rfl,hl,rfl⟩
   .cases e
  .cases e
 obtain⟨kvs,rfl,Y,rfl⟩:=hd;obtain⟨a,rfl,ha⟩:=rx.dI;obtain⟨u,rfl,ru⟩:=ik r;cases ru;obtain⟨hz,hs,U,J,dd⟩:=jX I.hok (show Rd H a (.dK (gJ kvs))from ha.rd);obtain⟨ep,Z⟩:=dd.dictAt;have z:U.length=kvs.length:=by rw[<- J.length];unfold gJ;rw[sm]
 have D:U.map (·.1)=kvs.map λp=>(Sum.inl p.1:Key):=by
  rw[<- J.keys];unfold gJ;rw[Kh]
  rfl
 refine Srt.iF (ks:=kvs.map (·.1)) (by rw[sm];exact Y) (λQ' ao=>?_) λh1 h' tk d' out c k1 k2 e hi=>?_
 .refine PySem.W.kdu_collect (PySem.W.kdl_dict (knd:=cm X.prog X.w) (kvs:=U) (ep:=ep) hs) (by simpa using I.ok.hd hc) Z (by rw[z,KG];omega) λh' tk a7 kp it=>?_
  refine ao h' tk s.drawn _ (kvs.map (·.1)) kp (.refl _) (St.oJ ⟨by rw[it.1,z,sm],λj v ej=>?_⟩);obtain⟨kk,xx,e1,e2⟩:=it.2 j v ej;have e3:(U.map (·.1))[j]?=some kk:=by rw[Kb,e1];rfl
  rw[D,Kb,tr]at e3;obtain⟨p,e4,rfl⟩:=e3;rw[Mg,Kb,e4];exact BT e2
 .have I1:Inv X pins σ H { s with heap:=h1,toks:=tk,drawn:=d' }:=I.keptD k1;have I2:Inv X pins σ (upd H h1.objs.size (.lst ((Srt.sortI (kvs.map (·.1))).map V.int))) { s with heap:=h',toks:=tk,drawn:=d' }:=
   I1.laid (t':=tk) k2 (pb _) (show bH X.prog X.w _ h' _ (.lst _)from⟨by rw[sm,Srt.sortI_len,sm,KG];omega,out,c,pz hi,e⟩)
  refine⟨.ref h1.objs.size,_,I2,rfl,q _ _ (I1.hok.fresh (pb _)) ?_⟩;rw[dM];exact .of_ints _
end
def Fh:bootBuiltins "len"=some (.builtin "len"):=by decide +kernel
def sn:bootBuiltins "tuple"=some (.type "tuple"):=by decide +kernel
def BU:bootBuiltins "list"=some (.type "list"):=by decide +kernel
def lD:bootBuiltins "sorted"=some (.builtin "sorted"):=by decide +kernel
def Fj:bootBuiltins "any"=some (.builtin "any"):=by decide +kernel
def Fk:bootBuiltins "all"=some (.builtin "all"):=by decide +kernel
def Fl:bootBuiltins "max"=some (.builtin "max"):=by decide +kernel
def Fm:bootBuiltins "min"=some (.builtin "min"):=by decide +kernel
def zm:bootBuiltins "int"=some (.type "int"):=by decide +kernel
def BV:bootBuiltins "bool"=some (.type "bool"):=by decide +kernel
def Fn:bootBuiltins "set"=some (.type "set"):=by decide +kernel
def jj:bootBuiltins "isinstance"=some (.builtin "isinstance"):=by decide +kernel
section
variable{X:Cx}{T:Tab}{k:Nat}{cal:Cal}
def Fo {p p2 pos:Pos} (g:Gf X T k cal) (J:dL f=some c) (hg:glB X.env.scope "isinstance"=true) (ht:t=(c:Str)) (U:glB X.env.scope t=true)
  (Y:bootBuiltins c=some (.type c)) (Z:X.mg c=none) (hn:(c:Str) ≠ "__name__") (hd:((c:Str)==("__debug__":Str))=false) (h:PE X e (tE X.K cal m)) (hs:aG e=true):PE X (.Call (.Name "isinstance" p) [e,.Name t p2] [] pos) (tE X.K cal (.blt f [m])):=by
 subst ht;refine(iC (E_ J) (eS hg) (g.blt "isinstance" (by decide)) jj (aH h (aH (A2 (v:=.ty c) (eS U) Z Y rfl hn hd) bO rfl) (cu hs _ _)) (by decide) (by decide) (cu hs _ _) rfl).imp λσ H Q q=>?_
 refine bD q λB E O G v st z q=>?_
 rw[ev,ll]at z;obtain⟨vs,z,D⟩:=z;refine ae (sj z) λw ao e3=>?_
 subst ao;have e5:isD w=false/\v=.bl (isT f w):=by
  cases hd:isD w with
  |true=>cases f<;>simp[dL,reduceCtorEq]at J<;>(simp only[aM,c8,jd,jz,hd]at D;exact bc D)
  |false=>cases f<;>simp[dL,reduceCtorEq]at J<;>(simp[aM,c8,jd,jz,hd,KJ,LZ,ox]at D;exact⟨rfl,D.symm⟩)
 obtain⟨e5,rfl⟩:=e5;refine⟨B,E,O,G,w,st,e3,λu H1 s1 g1=>⟨O,w,u,rfl,e5,g1.1,q _ H1 s1 (.of (c9 _ _))⟩⟩
def sr {p p2 pos pos2:Pos} (g:Gf X T k cal) (hx:x=("sorted":Str)) (hy:y=("set":Str)) (hg:glB X.env.scope x=true) (J:glB X.env.scope y=true) (h:PE X e (tE X.K cal m)) (Z:aG e=true):PE X (.Call (.Name x p) [.Call (.Name y p2) [e] [] pos2] [] pos) (tF X.K cal (.blt .sortedSet [m])):=by
 subst hx hy;refine(iC (se g.calm) (eS hg) (g.blt "sorted" (by decide)) lD (aH (k7 (Hx g.calm) (eS J) (g.blt "set" (by decide)) Fn (aH h bO (cu Z _ _)) (by decide) (by decide) (cu Z _ _) rfl) bO rfl) (by decide) (by decide) rfl rfl).imp λσ H Q q=>?_
 refine bN λZq kq=>?_
 refine bD q λB E O G xs st D q=>?_
 rw[ev,ll]at D;obtain⟨vs,D,e2⟩:=D;refine ae (sj D) λw U e3=>?_
 subst U;simp only[aM,c8,nM,jd,jz,ll]at e2;obtain⟨ys,e4,ns,e5,Y⟩:=e2;refine kq ?_;split at Y
 .rename_i hc;cases Y;refine⟨B,E,O,G,w,st,e3,λu H1 s1 g1=>⟨O,w,u,ns,rfl,g1.1,by simp[e4,e5],hc.1,λl hl=>⟨l,_,rfl,aA,?_,λp' z=>?_⟩⟩⟩
  .rw[E6];exact hc.2
  .rw[BJ];refine q p' _ _ ((s1.trans (bC hl _)).trans (bC z _)) (s1.free ((bC hl _).free z)) aA (.of_ints _)
 .exact bc Y
def su{cond elt:ME}:∀G v,ev cal (.comp z src js cond elt) G=some v->∃xs,v=.lst xs:=λG v q=>by
 rw[ev,ll]at q;obtain⟨vs,_,q⟩:=q;rw[ll]at q;obtain⟨xs,_,q⟩:=q;split at q
 .simp at q;obtain⟨ys,_,rfl⟩:=q;exact⟨_,rfl⟩
 .exact bc q
def eZ(z:f=.listOf\/f=.sorted\/f=.sortedSet\/f=.sortedKeys\/f=.valuesOf) :∀G v,ev cal (.blt f ms) G=some v->∃xs,v=.lst xs:=λG v q=>by
 rw[ev,ll]at q;obtain⟨vs,_,q⟩:=q;rcases z with rfl|rfl|rfl|rfl|rfl
 .obtain⟨x,rfl⟩:=d6 q (.inl rfl);simp only[aM,c8,nM,jd,jz,tr]at q;obtain⟨ys,_,rfl⟩:=q;exact⟨_,rfl⟩
 .obtain⟨x,rfl⟩:=d6 q (.inl rfl);simp only[aM,c8,nM,jd,jz,ll]at q;obtain⟨ys,_,q⟩:=q;unfold iH at q;split at q
  .split at q
   .cases q;exact⟨_,rfl⟩
   .simp only[tr]at q;obtain⟨D,_,rfl⟩:=q;exact⟨_,rfl⟩
  .exact bc q
 .obtain⟨x,rfl⟩:=d6 q (.inr (.inr (.inl rfl)));simp only[aM,c8,nM,jd,jz,ll]at q;obtain⟨ys,_,ns,_,q⟩:=q;split at q
  .cases q;exact⟨_,rfl⟩
  .exact bc q
 .obtain⟨x,rfl⟩:=d6 q (.inl rfl);simp only[aM,c8]at q;split at q
  .split at q
   .cases q;exact⟨_,rfl⟩
   .exact bc q
  .exact bc q
 .obtain⟨x,rfl⟩:=d6 q (.inr (.inr (.inr (.inr rfl))));simp only[aM,c8]at q;split at q
  .grind
  .exact bc q
def ud{cond:ME}(h:vq f cond ifs=true)(hc:∀c,f c=true->PT X c (tT X.K cal cond)):PF X ifs (tT X.K cal cond):=by
 match ifs,h with
 | [],h =>
  have e:cond=.cst (.bl true):=by
   simp[vq]at h;split at h
   .rfl
   .exact dy h
  subst e;intro pins s σ H Q I q;refine bN λJ D=>?_
  refine bD q λB E O G b st z q=>?_
  simp only[evB,ev,bind_some,ba,ox]at z;subst z;refine D ?_;exact Ew pins s σ H Q I (q H (af.refl H))
 | [c],h=>exact Ex (hc c h)
def BW{N:List Str}{sc:Scope}{ms:List (Option Str)}{f i:Nat}{z:List Expr->Bool}{q:Str×Str×List Expr×Pos×Pos}(h:BA N sc ms f i z q=true):ms[f]?=some (some q.2.1)/\q.2.1∈pC/\aE N sc i q.1=true/\z q.2.2.1=true/\(q.2.2.2.1.endLine==q.2.2.2.2.line)=true/\decide (q.2.2.1.length<30)=true:=by
 unfold BA at h;obtain⟨D,h6⟩:=vl.mp h;obtain⟨J,h5⟩:=vl.mp D;obtain⟨U,h4⟩:=vl.mp J;obtain⟨Y,h3⟩:=vl.mp U;obtain⟨Z,h2⟩:=vl.mp Y;exact⟨eq_of_beq Z,contains_iff_mem.mp h2,h3,h4,h5,h6⟩
def ue{i:Nat}{x m:Str}{p ap:Pos}(hn:aE X.N X.env.scope i x=true):PE X (.Attribute (.Name x p) m ap) (Ef X.K (cA i) m):=pZ (cO hn) rfl
def qE{K:M5}{B H:Hp}{E O:List Addr}{G:Rho}{σ:St}{i:Nat}{o:List PV×List PV}(st:aX K B E O H G σ)(e:mx (G[i]?).join=some o):∃a,σ[i]?=some (some (.ref a))/\d4 K H (aj H O) o.1 o.2 a:=by
 cases z:(G[i]?).join with
 |none=>rw[z]at e;cases e
 |some m =>
  rw[z]at e;cases m with
  |ownO _ fs xs =>
   cases e;obtain⟨u,D,a,l,rfl,q⟩:=bX st z;exact⟨a,D,q.lent⟩
  |brwO fs xs =>
   cases e;obtain⟨u,D,a,rfl,q⟩:=bX st z;exact⟨a,D,q.move st.keep (af.refl _)⟩
  | _=>cases e
def ug{K:M5}{B H:Hp}{E O:List Addr}{G:Rho}{σ:St}{i:Nat}{v:PV}(st:aX K B E O H G σ)(e:vm (G[i]?).join=some v):∃a fs xs,v=.lst xs/\σ[i]?=some (some (.ref a))/\d4 K B (aj H O) fs xs a:=by
 cases z:(G[i]?).join with
 |none=>rw[z]at e;cases e
 |some m =>
  rw[z]at e;cases m with
  |brwO fs xs =>
   cases e;obtain⟨u,D,a,rfl,q⟩:=bX st z;exact⟨a,fs,xs,rfl,D,q⟩
  | _=>cases e
def HN{i n:Nat}{x m:Str}{p ap:Pos}(g:Gf X T k cal)(hm:jA[n]?=some m)(hn:aE X.N X.env.scope i x=true):PE X (.Attribute (.Name x p) m ap) (tE X.K cal (.fld i n)):=by
 refine(ue hn).imp λσ H Q q=>?_
 obtain⟨B,E,O,G,v,st,z,q⟩:=q;rw[ev,ll]at z;obtain⟨o,z,D⟩:=z;obtain⟨a,J,C,dx,gs,l,us,h1,h2,_⟩:=qE st z;obtain⟨c1,c2,_⟩:=g.cls C h2.cls;obtain⟨u,U,Y⟩:=h2.fld n m v hm D;exact⟨_,J,a,C,dx,gs,u,rfl,h1,c1,c2 m (Ln hm),U,q u H (af.refl H) (.of Y)⟩
def Fp {i:Nat}{x:Str}{p ap:Pos} (g:Gf X T k cal) (hn:aE X.N X.env.scope i x=true):PE X (.Attribute (.Name x p) ("taken":Str) ap) (tE X.K cal (.fldL i)):=by
 refine(ue hn).imp λσ H Q q=>?_
 obtain⟨B,E,O,G,v,st,D,q⟩:=q;rw[ev]at D;obtain⟨a,fs,xs,rfl,J,C,dx,gs,l,us,h1,h2,h3,h4⟩:=ug st D;obtain⟨c1,_,c2⟩:=g.cls C h2.cls;exact⟨_,J,a,C,dx,gs,.ref l,rfl,st.keep _ _ h1,c1,c2,h2.lst,q _ H (af.refl H) ⟨.inr (.inl ⟨xs,l,us,rfl,rfl,st.keep.seq h3,h4⟩),λz=>by cases z⟩⟩
def Fq {tg:Expr}{i:Nat}{x:Str}{p ap:Pos} (g:Gf X T k cal) (hn:aE X.N X.env.scope i x=true):PI X tg (.Attribute (.Name x p) ("taken":Str) ap) (tW X.K cal .seq [.fldL i]):=by
 refine(mE (ue hn)).imp λσ H R q=>?_
 obtain⟨B,E,O,G,vs,zs,st,D,J,q⟩:=q;obtain⟨v,rfl,z⟩:=sj D;have U:b_ v=some zs:=J;rw[ev]at z;obtain⟨a,fs,xs,rfl,Y,C,dx,gs,l,us,h1,h2,h3,h4⟩:=ug st z;cases U;obtain⟨c1,_,c2⟩:=g.cls C h2.cls;exact⟨_,Y,a,C,dx,gs,.ref l,rfl,st.keep _ _ h1,c1,c2,h2.lst,l,rfl,⟨us,st.keep.seq h3⟩,q _ _ (af.refl H) (kH ((dN st.keep).seq h3) h4)⟩
def Fs {i:Nat}{x:Str}{px ap:Pos}{f:Str}{J:List Expr}{j:Nat}{U p pos:Pos} (g:Gf X T k cal) (Y:f=("enumerate":Str)) (Z:glB X.env.scope f=true) (hn:aE X.N X.env.scope i x=true):PI X (.Tuple J j U) (.Call (.Name f p) [.Attribute (.Name x px) ("taken":Str) ap] [] pos) (tW X.K cal .enm [.fldL i]):=by
 subst Y;refine(t_ (eS Z) (g.blt "enumerate" (by decide)) (ue hn) rfl).imp λσ H R q=>?_
 obtain⟨B,E,O,G,vs,zs,st,e1,z,q⟩:=q;obtain⟨v,rfl,D⟩:=sj e1;simp only[bq,tr]at z;obtain⟨ys,e4,rfl⟩:=z;rw[ev]at D;obtain⟨a,fs,xs,rfl,ea,C,dx,gs,l,us,h1,h2,h3,h4⟩:=ug st D;cases e4;obtain⟨c1,_,c2⟩:=g.cls C h2.cls;exact⟨_,ea,a,C,dx,gs,.ref l,rfl,st.keep _ _ h1,c1,c2,h2.lst,l,rfl,.inl ⟨⟨us,st.keep.seq h3⟩,q _ _ (af.refl H) (jD (λH2 s2=>s2.seq ((dN st.keep).seq h3)) h4)⟩⟩
def HP {neg:Bool}{me:ME}{i:Nat}{l:Expr}{x:Str}{p ap pos:Pos} (g:Gf X T k cal) (ha:PE X l (tE X.K cal me)) (hn:aE X.N X.env.scope i x=true):PE X (.Compare l [g7 (if neg=true then .notIn else .isIn)] [.Attribute (.Name x p) ("taken":Str) ap] pos) (tE X.K cal (.inO neg me i)):=by
 refine(uY (gq g.units _) ha (ue hn) (by cases neg<;>rfl)).imp λσ H Q q=>?_
 obtain⟨B,E,O,G,v,st,z,q⟩:=q;rw[ev]at z;simp only[ll,tr]at z;obtain⟨y,z,w,D,c,Z,rfl⟩:=z;refine⟨B,E,O,G,y,st,z,λux H1 s1 g1=>?_⟩;cases J:(G[i]?).join with
 |none=>rw[J]at D;cases D
 |some m =>
  rw[J]at D;cases m with
  |ownO b fs xs =>
   cases D;obtain⟨u,eu,a,U,rfl,Y⟩:=bX (st.mono s1) J;obtain⟨C,dx,gs,h1,h2⟩:=Y.ob;obtain⟨us,h3,h4⟩:=Y.li;obtain⟨c1,_,c2⟩:=g.cls C h2.cls;exact⟨_,eu,a,C,dx,gs,.ref U,rfl,h1,c1,c2,h2.lst,O,y,_,c,g1.1,.inr (.inl ⟨xs,U,us,rfl,rfl,SqL.of h3,h4⟩),Z,q _ H1 s1 (.of (c9 _ _))⟩
  | _=>cases D
def Ft {neg:Bool}{me:ME}{i:Nat}{l:Expr}{x:Str}{p ap pos:Pos} (g:Gf X T k cal) (ha:PE X l (tE X.K cal me)) (hn:aE X.N X.env.scope i x=true):PT X (.Compare l [g7 (if neg=true then .notIn else .isIn)] [.Attribute (.Name x p) ("taken":Str) ap] pos) (tT X.K cal (.inO neg me i)):=by
 refine(mG (gq g.units _) ha (ue hn) (by cases neg<;>rfl)).imp λσ H Q q=>?_
 obtain⟨B,E,O,G,v,st,z,q⟩:=q;rw[evB,ev]at z;simp only[ll,tr]at z;obtain⟨b,⟨y,z,w,D,c,e3,rfl⟩,U⟩:=z;simp only[ba,ox]at U;subst U;refine⟨B,E,O,G,y,st,z,λux H1 s1 g1=>?_⟩;cases J:(G[i]?).join with
 |none=>rw[J]at D;cases D
 |some m =>
  rw[J]at D;cases m with
  |ownO b fs xs =>
   cases D;obtain⟨u,eu,a,Y,rfl,Z⟩:=bX (st.mono s1) J;obtain⟨C,dx,gs,h1,h2⟩:=Z.ob;obtain⟨us,h3,h4⟩:=Z.li;obtain⟨c1,_,c2⟩:=g.cls C h2.cls;exact⟨_,eu,a,C,dx,gs,.ref Y,rfl,h1,c1,c2,h2.lst,O,y,_,c,g1.1,.inr (.inl ⟨xs,Y,us,rfl,rfl,SqL.of h3,h4⟩),e3,_,rfl,q H1 s1⟩
  | _=>cases D
def Fu {neg:Bool}{i:Nat}{N:List Str}{sc:Scope}{D:Expr->Bool}{e:Expr}{z:Expr×CmpOp×Expr} (J:wL e=some z) (h:(onQ (nQ z.2.2) λq=>z.2.1==(if neg=true then CmpOp.NotIn else CmpOp.In)&&D z.1&&q.2==("taken":Str)&&aE N sc i q.1)=true):D z.1=true/\∃(x:Str) (p ap pos:Pos),aE N sc i x=true/\e=.Compare z.1 [g7 (if neg=true then .notIn else .isIn)] [.Attribute (.Name x p) ("taken":Str) ap] pos:=by
 replace h:=ax h
 obtain⟨q,U,h⟩:=h;obtain⟨pos,rfl⟩:=qr J;obtain⟨p,ap,Y⟩:=kj U;obtain⟨Z,h4⟩:=vl.mp h;obtain⟨a2,h3⟩:=vl.mp Z;obtain⟨h1,h2⟩:=vl.mp a2;refine⟨h2,q.1,p,ap,pos,h4,?_⟩;rw[Y,eq_of_beq h1,eq_of_beq h3];cases neg<;>rfl
def Fv {neg:Bool}{me:ME}{i:Nat}{e l:Expr}{c:Prop} (g:Gf X T k cal) (h:c/\∃(x:Str) (p ap pos:Pos),aE X.N X.env.scope i x=true/\e=.Compare l [g7 (if neg=true then .notIn else .isIn)] [.Attribute (.Name x p) ("taken":Str) ap] pos) (ha:PE X l (tE X.K cal me)):PE X e (tE X.K cal (.inO neg me i))/\PT X e (tT X.K cal (.inO neg me i)):=by
 obtain⟨_,x,p,ap,pos,h1,rfl⟩:=h;exact⟨HP g ha h1,Ft g ha h1⟩
def vI(D:es.all aG=true)(J:decide (es.length<30)=true)(q:(ap.endLine==pos.line)=true):eval (.Call (.Attribute (.Name x p) m ap) es [] pos) env=(do
   let z <- eval (.Name x p) env
   standAt ap.atName
   let (f,first) <- holding [z] (getMethod z m (do return (<- importBound (.Name x p) env).getD true))
   callWith pos f first (backTo pos (starEach es env)) (backToKw pos (keywordEach [] env))):=by
 have U:methodCallForm (es.length+([]:List Keyword).length) (backTo pos (starEach es env)) (backToKw pos (keywordEach [] env))=true:=by
  unfold methodCallForm;have h1:((backTo pos (starEach es env)).all λx=>!x.1)=true:=by
   have:=cg (pos:=pos) (env:=env) D;rw[MB]at this;rw[Mf];intro x hx;have:=this x hx;simpa using this
  rw[h1];exact J
 rw[arm_eval_Call];unfold methodCall calleeOf methodCallPos;rw[U,q]
 rfl
def BX{f i:Nat}{ms:List ME}{x m:Str}{es:List Expr}{p ap pos:Pos}(g:Gf X T k cal)(hf:T.ms[f]?=some (some m))(hM:m∈pC)(hn:aE X.N X.env.scope i x=true)(ha:PA X es (tAs X.K cal ms))(Z:es.all aG=true)(hl:ms.length=es.length)(D:(ap.endLine==pos.line)=true)(h30:decide (es.length<30)=true):PE X (.Call (.Attribute (.Name x p) m ap) es [] pos) (tE X.K cal (.callM f i ms)):=by
 by_cases U:∃C,IsC X.K C
 .obtain⟨C,U⟩:=U;have one:∀J,IsC X.K J->J=C:=λJ h=>by
   have:=h.symm.trans U;cases this
   rfl
  obtain⟨fa,fd,ps,h1,h3,F⟩:=g.meths f m hf C U;have key:∀σ H Q,tE X.K cal (.callM f i ms) σ H Q->jf C m (spM X.K cal f) [] E0 (cA i) (tAs X.K cal ms) σ H Q:=λσ H Q q=>by
   obtain⟨B,E,O,G,v,st,z,q⟩:=q;rw[ev,ll]at z;obtain⟨o,e0,z⟩:=z;rw[ll]at z;obtain⟨vs,z,e2⟩:=z;obtain⟨a,ea,J,dx,gs,l,us,f1,Y,f3⟩:=qE st e0;have aL:=one J Y.cls;subst aL;refine⟨_,ea,a,dx,gs,rfl,f1,Y.no m hM,B,E,O,G,vs,st,z,λa6 H1 s1 g1=>⟨O,_,v,cr s1 st.here,?_,e2,λu H2 s2 r=>q u H2 (s1.trans s2) (.of r)⟩⟩;rw[LG];exact .cons ⟨a,rfl,d4.move ⟨J,dx,gs,l,us,f1,Y,f3⟩ s1 (ak s1)⟩ g1
  cases es with
  |nil =>
   refine(xZ (cO hn) (g.cls C U).1 h1 F g.room h3 .nil eW (vI Z h30 D)).imp λσ H Q q=>?_
   obtain⟨u,eu,a,dx,gs,e,f1,Y,B,E,O,G,vs,st,z,q⟩:=key σ H Q q;cases ms with
   |nil =>
    simp only[evA,ox]at z;subst z;exact⟨u,eu,a,dx,gs,e,f1,Y,q [] H (af.refl H) .nil⟩
   |cons _ _=>cases hl
  |cons e es =>
   simp only[all_cons,ow]at Z;exact(g5 (cO hn) (g.cls C U).1 h1 F g.room h3 .nil eW ha (cu Z.1 _ _) (cg Z.2) (vI (by simp[Z]) h30 D)).imp key
 .exact λpins s σ H Q I q=>by
   obtain⟨B,E,O,G,v,st,z,q⟩:=q;rw[ev,ll]at z;obtain⟨o,e0,_⟩:=z;obtain⟨a,ea,J,dx,gs,l,us,f1,Y,f3⟩:=qE st e0;exact absurd ⟨J,Y.cls⟩ U
def nV{Y:Sk}{src:List ME}{it tg:Expr}{tup:Bool}(Z:tup=true->∃ts j tp,tg=.Tuple ts j tp)(g:Gf X T k cal)(h:qt X.env.scope tup (λxs=>chks T src X.N X.env.scope xs) Y it=true)(hs:∀xs,chks T src X.N X.env.scope xs=true->PA X xs (tEs X.K cal src)/\xs.all aG=true/\src.length=xs.length)
  (h1:∀m x,src=[m]->chks T src X.N X.env.scope [x]=true->PE X x (tE X.K cal m)):PI X tg it (tW X.K cal Y src)/\lx it=true:=by
 cases Y with
 |seq =>
  replace h:=vl.mp h
  obtain⟨hn,h⟩:=h;refine⟨?_,hn⟩;obtain⟨_,_,D⟩:=hs _ h;obtain⟨m,rfl⟩:=L9.mp D;cases J:bb m with
  |false=>exact Hy J (h1 m it rfl h)
  |true =>
   have q1:=(cU h).1.1;rcases t7 J with⟨i,rfl⟩|⟨i,rfl⟩
   rotate_left
   .obtain⟨z,e,h2⟩:=ax (show onQ (nQ it) (λq=>q.2==("taken":Str)&&aE X.N X.env.scope i q.1)=true from q1);obtain⟨p,ap,rfl⟩:=kj e;obtain⟨h3,h4⟩:=vl.mp h2;rw[eq_of_beq h3];exact Fq g h4
   obtain⟨x,p,rfl,q⟩:=qv q1;exact Hz q
 |rng =>
  replace h:=ax h
  obtain⟨c,e1,h⟩:=h;obtain⟨p,pos,rfl⟩:=i5 e1;simp only[ow,J7,LU]at h;obtain⟨⟨⟨hx,U⟩,ha⟩,hn⟩:=h;obtain⟨q,aL,D⟩:=hs _ ha;exact⟨BM g hx U q hn aL D,rfl⟩
 |enm =>
  replace h:=ax h
  obtain⟨⟨x,a⟩,e1,h⟩:=h;obtain⟨p,pos,rfl⟩:=vo e1;simp only[ow,J7]at h;obtain⟨⟨⟨⟨ht,hx⟩,U⟩,ha⟩,hn⟩:=h;obtain⟨ts,j,tp,rfl⟩:=Z ht;obtain⟨_,_,D⟩:=hs _ ha;refine⟨?_,rfl⟩;obtain⟨m,rfl⟩:=L9.mp D;cases J:bb m with
  |false=>exact HA g hx U hn J (h1 m a rfl ha)
  |true =>
   have q1:=(cU ha).1.1;rcases t7 J with⟨i,rfl⟩|⟨i,rfl⟩
   rotate_left
   .obtain⟨z,e,h2⟩:=ax (show onQ (nQ a) (λq=>q.2==("taken":Str)&&aE X.N X.env.scope i q.1)=true from q1);obtain⟨p,ap,rfl⟩:=kj e;obtain⟨h3,h4⟩:=vl.mp h2;rw[eq_of_beq h3];exact Fs g hx U h4
   obtain⟨y,p,rfl,q⟩:=qv q1;exact Fb g hx U q
 |rev=>cases h
def zn(K)(F)(s:Sc):Rep K F s.pv s.v:=by cases s<;>rfl
def zo{K:M5}(e:sc? x=some s)(r:bQ K H O x u):u=s.v:=by
 cases x<;>simp[sc?,ox,reduceCtorEq]at e<;>subst e
 .exact r.non
 .exact r.bl
 .exact r.int
 .exact r.str
def base_of(q:yS o=true):attributeBase o n X.env (eval o X.env)=eval o X.env:=by
 cases o<;>first|rfl|(simp at q;done)|skip
 rename_i fn args kws pos;cases args with
 |nil=>injection q
 |cons _ _=>cases fn<;>rfl
def sw{b:Blt}{es:List ME}{x:Str}{args:List Expr}{p pos:Pos}(g:Gf X T k cal)(hx:x=(rR b:Str))(J:glB X.env.scope x=true)(ha:vp X.env.scope (λxs=>chks T es X.N X.env.scope xs) es.length b args=true)
  (hs:∀xs,chks T es X.N X.env.scope xs=true->PA X xs (tEs X.K cal es)/\xs.all aG=true/\es.length=xs.length)
  (h1:∀m x,es=[m]->chks T es X.N X.env.scope [x]=true->PE X x (tE X.K cal m))
  (a3:∀m m' x x',es=[m,m']->chks T es X.N X.env.scope [x,x']=true->PE X x (tE X.K cal m)/\PE X x' (tE X.K cal m')) :
  (jB (.blt b es)=true->PE X (.Call (.Name x p) args [] pos) (tF X.K cal (.blt b es)))/\PE X (.Call (.Name x p) args [] pos) (tE X.K cal (.blt b es)):=by
 subst hx;have inst:∀{b:Blt}{args:List Expr} (c:String),glB X.env.scope (rR b)=true->dL b=some c->rR b="isinstance"->bootBuiltins c=some (.type c)->X.mg c=none->(c:Str) ≠ "__name__"->((c:Str)==("__debug__":Str))=false->rS X.env.scope (λxs=>chks T es X.N X.env.scope xs) es.length c args=true ->
   PE X (.Call (.Name (rR b) p) args [] pos) (tE X.K cal (.blt b es)):=λ{b args} c J hc hb Y hm hn hd ha=>by
  replace ha:=ax ha
  obtain⟨⟨y,t0⟩,Z,ha⟩:=ha
  replace ha:=ax ha
  obtain⟨⟨t,p2⟩,e2,ha⟩:=ha;obtain rfl:=vn Z;obtain rfl:=fD (e:=t0) e2;simp only[ow,J7]at ha;obtain⟨⟨⟨h2,h3⟩,h4⟩,h5⟩:=ha;obtain⟨m,rfl⟩:=L9.mp h5;rw[hb]at J ⊢;exact Fo g hc J h2 h3 Y hm hn hd (h1 m y rfl h4) (cU h4).1.2
 have c1:∀{nm:Str},yR X.env.scope (λxs=>chks T es X.N X.env.scope xs) es.length nm args=true->∃m y U p2 pos2,es=[m]/\args=[.Call (.Name U p2) [y] [] pos2]/\U=nm/\glB X.env.scope U=true/\PE X y (tE X.K cal m)/\aG y=true:=λ{nm} ha=>by
  replace ha:=ax ha
  obtain⟨a,Z,ha⟩:=ha
  replace ha:=ax ha
  obtain⟨⟨U,y⟩,e2,ha⟩:=ha;obtain⟨p2,pos2,rfl⟩:=vo e2;simp only[ow,J7]at ha;obtain⟨⟨⟨h2,h3⟩,h4⟩,h5⟩:=ha;obtain⟨m,rfl⟩:=L9.mp h5;exact⟨m,y,U,p2,pos2,rfl,eC Z,h2,h3,h1 m y rfl h4,(cU h4).1.2⟩
 have plain:∀{args:List Expr} (n:Nat),0<n->(some n==some es.length&&chks T es X.N X.env.scope args)=true->∃e r,args=e::r/\PA X (e::r) (tEs X.K cal es)/\(e::r).all aG=true:=λ{args} n a1 ha=>by
  simp only[ow,J7,ox]at ha;obtain⟨q1,q2,q3⟩:=hs _ ha.2;cases args with
  |nil=>rw[<- ha.1]at q3;simp at q3;omega
  |cons e r=>exact⟨e,r,rfl,q1,q2⟩
 cases b with
 |len =>
  obtain⟨e,r,D,q1,q2⟩:=plain 1 (by decide) ha;rw[D];exact⟨λz=>(by cases z),sk Ht J (g.blt "len" (by decide)) Fh (by decide) (by decide) q1 q2⟩
 |tupleOf =>
  obtain⟨e,r,D,q1,q2⟩:=plain 1 (by decide) ha;rw[D];exact⟨λz=>(by cases z),zg BK J (g.blt "tuple" (by decide)) sn (by decide) (by decide) q1 q2⟩
 |listOf =>
  obtain⟨e,r,D,q1,q2⟩:=plain 1 (by decide) ha;rw[D];have q:=BQ (p:=p) (pos:=pos) E7 J (g.blt "list" (by decide)) BU (by decide) (by decide) q1 q2;exact⟨λ_=>q,fk (eZ (.inl rfl)) q⟩
 |sorted =>
  obtain⟨e,r,D,q1,q2⟩:=plain 1 (by decide) ha;rw[D];have q:=zh (p:=p) (pos:=pos) (yZ g) J (g.blt "sorted" (by decide)) lD (by decide) (by decide) q1 q2;exact⟨λ_=>q,fk (eZ (.inr (.inl rfl))) q⟩
 |any =>
  obtain⟨e,r,D,q1,q2⟩:=plain 1 (by decide) ha;rw[D];exact⟨λz=>(by cases z),sk (Hv g.calm) J (g.blt "any" (by decide)) Fj (by decide) (by decide) q1 q2⟩
 |all =>
  obtain⟨e,r,D,q1,q2⟩:=plain 1 (by decide) ha;rw[D];exact⟨λz=>(by cases z),sk (Hw g.calm) J (g.blt "all" (by decide)) Fk (by decide) (by decide) q1 q2⟩
 |intOf =>
  obtain⟨e,r,D,q1,q2⟩:=plain 1 (by decide) ha;rw[D];exact⟨λz=>(by cases z),zg Hu J (g.blt "int" (by decide)) zm (by decide) (by decide) q1 q2⟩
 |boolOf=>exact absurd ha oe
 |max2 =>
  obtain⟨e,r,D,q1,q2⟩:=plain 2 (by decide) ha;rw[D];exact⟨λz=>(by cases z),sk (E8 g.calm) J (g.blt "max" (by decide)) Fl (by decide) (by decide) q1 q2⟩
 |min2 =>
  obtain⟨e,r,D,q1,q2⟩:=plain 2 (by decide) ha;rw[D];exact⟨λz=>(by cases z),sk (E9 g.calm) J (g.blt "min" (by decide)) Fm (by decide) (by decide) q1 q2⟩
 |isInt=>exact⟨λz=>(by cases z),inst "int" J rfl rfl zm (g.blt "int" (by decide)) (by decide) (by decide) ha⟩
 |isBool=>exact⟨λz=>(by cases z),inst "bool" J rfl rfl BV (g.blt "bool" (by decide)) (by decide) (by decide) ha⟩
 |isStr=>exact absurd ha oe
 |isList=>exact absurd ha oe
 |isTuple=>exact⟨λz=>(by cases z),inst "tuple" J rfl rfl sn (g.blt "tuple" (by decide)) (by decide) (by decide) ha⟩
 |sortedSet =>
  obtain⟨m,y,U,p2,pos2,ee,ea,h2,h3,hp,ar⟩:=c1 ha;rw[ee,ea];have q:=sr (p:=p) (p2:=p2) (pos:=pos) (pos2:=pos2) g rfl h2 J h3 hp ar;exact⟨λ_=>q,fk (eZ (.inr (.inr (.inl rfl)))) q⟩
 |sum=>exact absurd ha oe
 |max1=>exact absurd ha oe
 |sortedKeys =>
  obtain⟨e,r,D,q1,q2⟩:=plain 1 (by decide) ha;rw[D];have q:=zh (p:=p) (pos:=pos) (qD g.calm) J (g.blt "sorted" (by decide)) lD (by decide) (by decide) q1 q2;exact⟨λ_=>q,fk (eZ (.inr (.inr (.inr (.inl rfl))))) q⟩
 |valuesOf=>exact absurd ha oe
 |min1=>cases ha
 |tupleRev=>cases ha
 |lenSet=>cases ha
 |lenSetSub=>cases ha
def HQ(g:Gf X T k cal)(hk:PE X l (tE X.K cal mk))(ha:PE X r (tE X.K cal D))(hm:behindInMarks (if neg=true then CmpOp.NotIn else CmpOp.In) r=false) :
  PE X (.Compare l [if neg=true then CmpOp.NotIn else CmpOp.In] [r] pos) (tE X.K cal (.dIn neg mk D))/\PT X (.Compare l [if neg=true then CmpOp.NotIn else CmpOp.In] [r] pos) (tT X.K cal (.dIn neg mk D)):=by
 have hu:X.A.units+1<cLine:=by have:=g.units;omega
 have go:∀{σ}{H}{Q:Bool->Hp->Prop},(∃B E O G b,aX X.K B E O H G σ/\ev cal (.dIn neg mk D) G=some (.bl b)/\∀H',af H H'->Q b H') ->
   tE X.K cal mk σ H λy H1=>tE X.K cal D σ H1 λx H2=>∃a o,x=.ref a/\ni H2 a y o/\Q (if neg=true then !o.isSome else o.isSome) H2:=λ{σ H Q} q=>by
  refine bN λZq U=>?_
  obtain⟨B,E,O,G,b,st,z,q⟩:=q;rw[ev]at z;simp only[ll]at z;obtain⟨y,z,x,e2,J⟩:=z;refine U ?_;refine⟨B,E,O,G,y,st,z,λuy H1 s1 g1=>⟨B,E,O,G,x,st.mono s1,e2,λux H2 s2 g2=>?_⟩⟩;rw[tr]at J;obtain⟨o,J,e4⟩:=J;cases x<;>try (cases J;done)
  obtain⟨a,rfl,ha⟩:=g2.1.dI;refine⟨a,_,rfl,qC J ha (g1.1.mono s2),?_⟩;rw[isSome_map,PV.bl.inj e4];exact q H2 (s1.trans s2)
 have Y:∀{σ}{H}{Q},tE X.K cal (.dIn neg mk D) σ H Q->∃B E O G b,aX X.K B E O H G σ/\ev cal (.dIn neg mk D) G=some (.bl b)/\∀H',af H H'->Q (.bl b) H':=λ{σ H Q} q=>by
  refine bN λZq U=>?_
  obtain⟨B,E,O,G,v,st,z,q⟩:=q;have hb:∃b,v=.bl b:=by
   rw[ev]at z;simp only[ll]at z;obtain⟨y,_,x,_,J⟩:=z;rw[tr]at J;obtain⟨o,_,e4⟩:=J;exact⟨_,e4.symm⟩
  obtain⟨b,rfl⟩:=hb;refine U ?_;exact⟨B,E,O,G,b,st,z,λH' s=>q _ H' s (.of (c9 _ _))⟩
 have Z:∀{σ}{H}{Q},tT X.K cal (.dIn neg mk D) σ H Q->∃B E O G b,aX X.K B E O H G σ/\ev cal (.dIn neg mk D) G=some (.bl b)/\∀H',af H H'->Q b H':=λ{σ H Q} q=>by
  refine bN λZq U=>?_
  obtain⟨B,E,O,G,b,st,z,q⟩:=q;unfold evB at z;simp only[ll]at z;obtain⟨v,z,e2⟩:=z;refine U ?_;cases v<;>simp only[ba,reduceCtorEq,ox]at e2
  subst e2;exact⟨B,E,O,G,_,st,z,q⟩
 cases neg with
 |false =>
  refine⟨(xF (yf hu hk ha) hm).imp λσ H Q q=>?_,(xG (yf hu hk ha) hm).imp λσ H Q q=>?_⟩
  .exact go (Q:=λb H'=>Q (.bl b) H') (Y q)
  .exact go (Q:=λb H'=>∃c,V.bl b=.bl c/\Q c H') (by
    obtain⟨B,E,O,G,b,st,z,q⟩:=Z q;exact⟨B,E,O,G,b,st,z,λH' s=>⟨b,rfl,q H' s⟩⟩)
 |true =>
  refine⟨(xF (pi hu hk ha) hm).imp λσ H Q q=>?_,(xG (pi hu hk ha) hm).imp λσ H Q q=>?_⟩
  .exact go (Q:=λb H'=>Q (.bl b) H') (Y q)
  .exact go (Q:=λb H'=>∃c,V.bl b=.bl c/\Q c H') (by
    obtain⟨B,E,O,G,b,st,z,q⟩:=Z q;exact⟨B,E,O,G,b,st,z,λH' s=>⟨b,rfl,q H' s⟩⟩)
def Fw{Y mk Z:ME}{o e f:Expr}{ap cp:Pos}(g:Gf X T k cal)(ha:PE X o (tE X.K cal Y))(hk:PE X e (tE X.K cal mk))(hd:PE X f (tE X.K cal Z))(hb:yS o=true)(hl:(ap.endLine==cp.line)=true)(h1:aG e=true)(h2:aG f=true) :
  PE X (.Call (.Attribute o "get" ap) [e,f] [] cp) (tE X.K cal (.dget Y mk Z)):=by
 have hu:X.A.units+1<cLine:=by have:=g.units;omega
 have D:starEach [e,f] X.env=[(false,eval e X.env),(false,eval f X.env)]:=by rw[cu h1,cu h2];rfl
 have m:M2 X o "get" ap e f cp:=by
  refine⟨base_of hb,?_,hl,?_⟩
  .rw[D];rfl
  .rw[D];rfl
 refine(ym hu ha hk hd m).imp λσ H Q q=>?_
 refine bN λZq kq=>?_
 obtain⟨B,E,O,G,v,st,J,q⟩:=q;rw[ev]at J;simp only[ll,tr]at J;obtain⟨x,J,y,e2,z,e3,U,e4,sz,e5,e6⟩:=J;refine kq ?_;cases x<;>try (cases e4;done)
 refine⟨B,E,O,G,_,st,J,λux H1 s1 g1=>?_⟩;obtain⟨a,rfl,hH⟩:=g1.1.dI;refine⟨a,rfl,vA hH,B,E,O,G,_,st.mono s1,e2,λuy H2 s2 g2=>⟨B,E,O,G,z,st.mono (s1.trans s2),e3,λuz H3 s3 g3=>?_⟩⟩;refine⟨_,qC e4 (af.rdD s3 (af.rdD s2 hH)) (g2.1.mono s3),?_⟩;rw[zo e5 g3.1];have e7:(U.map Sc.v).getD sz.v=(U.getD sz).v:=by cases U<;>rfl
 rw[e7];refine q _ H3 (s1.trans (s2.trans s3)) ?_;rw[<- e6];exact .of (zn _ _ _)
def HR(g:Gf X T k cal)(ha:PE X o (tE X.K cal J))(U:PE X i (tE X.K cal mk))(Y:eK i=true):PE X (.Subscript o i pos) (tE X.K cal (.dat J mk)):=by
 have Z:X.A.units+1<cLine:=by have:=g.units;omega
 refine(Bk Z ha U (by cases i<;>first|(intro _ _;rfl)|(simp[eK]at Y))).imp λσ H Q q=>?_
 refine bN λZq kq=>?_
 obtain⟨B,E,O,G,v,st,z,q⟩:=q;rw[ev]at z;simp[ll,tr]at z;obtain⟨x,z,y,e2,oo,D,sz,rfl,e6⟩:=z;refine kq ?_;cases x<;>try (cases D;done)
 refine⟨B,E,O,G,_,st,z,λux H1 s1 g1=>?_⟩;obtain⟨a,rfl,hH⟩:=g1.1.dI;refine⟨B,E,O,G,_,st.mono s1,e2,λuy H2 s2 g2=>?_⟩;refine⟨a,_,rfl,qC D (af.rdD s2 hH) g2.1,q _ H2 (s1.trans s2) ?_⟩;rw[<- e6];exact .of (zn _ _ _)
end
set_option maxHeartbeats 0 in
mutual
theorem ay{T:Tab}{k:Nat}{cal:Cal}:∀(me:ME) {X:Cx}{e:Expr},Gf X T k cal->chk T me X.N X.env.scope e=true->PE X e (tE X.K cal me)/\PT X e (tT X.K cal me)
 | .var i,X,e,g,h=>by
  replace h:=ax h
  obtain⟨x,w,h⟩:=h;obtain rfl:=fD w;exact⟨Da h,bF (Da h) rfl⟩
 | .bor i,X,e,g,h=>by
  replace h:=ax h
  obtain⟨x,w,h⟩:=h;obtain rfl:=fD w;exact⟨Db h,bF (Db h) rfl⟩
 | .cst v,X,e,g,h=>by
  replace h:=ax h
  obtain⟨x,w,h⟩:=h;obtain rfl:=EG w;exact⟨Dc h,bF (Dc h) rfl⟩
 | .glob x v,X,e,g,h=>by
  replace h:=ax h
  obtain⟨y,w,h⟩:=h;obtain rfl:=fD w;exact⟨yY g h,bF (yY g h) rfl⟩
 | .bin op a b,X,e,g,h=>by
  replace h:=ax h
  obtain⟨⟨l,o,r,pos⟩,w,h⟩:=h;obtain rfl:=EE w;simp only[ow,J7]at h;obtain⟨⟨rfl,h1⟩,h2⟩:=h;have p:=HB (op:=op) (pos:=pos) (ay a g h1).1 (ay b g h2).1;exact⟨p,bF p rfl⟩
 | .neg _,X,e,g,h=>absurd (show false=true from h) oe
 | .not a,X,e,g,h=>by
  replace h:=ax h
  obtain⟨⟨o,x,pos⟩,w,h⟩:=h;obtain rfl:=EI w
  replace h:=vl.mp h
  obtain⟨h2,h⟩:=h;obtain rfl:=eq_of_beq h2;exact⟨HC (ay a g h).1,HE (ay a g h).2⟩
 | .and a b,X,e,g,h=>by
  replace h:=ax h
  obtain⟨⟨o,vs,pos⟩,w,h⟩:=h;obtain rfl:=yN w
  replace h:=vl.mp h
  obtain⟨h2,h⟩:=h;obtain rfl:=eq_of_beq h2;rcases vt h with⟨x,y,rfl,h1,h2⟩|⟨x,y,z,r,rfl,h1,h2⟩
  .exact⟨Dd (ay a g h1).1 (xJ (ay b g h2).1),Dg (ay a g h1).2 (A3 (ay b g h2).2)⟩
  .exact⟨Dd (ay a g h1).1 (ay b g h2).1,Dg (ay a g h1).2 (De (ay b g h2).2)⟩
 | .or a b,X,e,g,h=>by
  replace h:=ax h
  obtain⟨⟨o,vs,pos⟩,w,h⟩:=h;obtain rfl:=yN w
  replace h:=vl.mp h
  obtain⟨h2,h⟩:=h;obtain rfl:=eq_of_beq h2;rcases vt h with⟨x,y,rfl,h1,h2⟩|⟨x,y,z,r,rfl,h1,h2⟩
  .exact⟨HF (ay a g h1).1 (xJ (ay b g h2).1),HG (ay a g h1).2 (DO (ay b g h2).2)⟩
  .exact⟨HF (ay a g h1).1 (ay b g h2).1,HG (ay a g h1).2 (De (ay b g h2).2)⟩
 | .ite c a b,X,e,g,h=>by
  replace h:=ax h
  obtain⟨q,w,h⟩:=h;obtain rfl:=EJ w;simp only[ow,Km]at h;obtain⟨⟨⟨⟨h1,h2⟩,h3⟩,h4⟩,h5⟩:=h;exact⟨HH (ay c g h1).2 (ay a g h2).1 (ay b g h3).1 h4 h5,HI (ay c g h1).2 (ay a g h2).2 (ay b g h3).2⟩
 | .cmp op a b,X,e,g,h=>by
  replace h:=ax h
  obtain⟨⟨l,o,r⟩,w,h⟩:=h;obtain⟨pos,rfl⟩:=qr w;simp only[ow,J7,Km]at h;obtain⟨⟨⟨rfl,h1⟩,h2⟩,h3⟩:=h;exact HJ g (ay a g h1).1 (ay b g h2).1 h3
 | .chain op a2 a b c,X,e,g,h=>by
  cases e with
  |Compare l ops rs pos =>
   match ops,rs,h with
   | [o,o'],[m,r],h =>
    simp only[yT,ow,J7,Km]at h;obtain⟨⟨⟨⟨⟨rfl,rfl⟩,h1⟩,h2⟩,h3⟩,h4⟩:=h;exact BO g (ay a g h1).1 (ay b g h2).1 (ay c g h3).1 h4
   | [],_,h=>cases (show false=true from h)
   | [_],_,h=>cases (show false=true from h)
   | [_,_],[],h=>cases (show false=true from h)
   | [_,_],[_],h=>cases (show false=true from h)
   | [_,_],_::_::_::_,h=>cases (show false=true from h)
   | _::_::_::_,_,h=>cases (show false=true from h)
  | _=>cases (show false=true from h)
 | .tup es,X,e,g,h=>by
  replace h:=ax h
  obtain⟨q,w,h⟩:=h;obtain rfl:=EH w;obtain⟨h1,h2⟩:=vl.mp h;have p:=HK (j:=q.2.1) (pos:=q.2.2) (sounds es g h1) h2;exact⟨p,bF p rfl⟩
 | .lst es,X,e,g,h=>by
  replace h:=ax h
  obtain⟨q,w,h⟩:=h;obtain rfl:=yM w
  replace h:=vl.mp h
  have p:=λ(pos:Pos)=>fk (λG v Z=>by
   rw[ev,ll]at Z;obtain⟨vs,_,Z⟩:=Z;split at Z
   .cases Z;exact⟨_,rfl⟩
   .cases Z) (Dh (pos:=pos) (sounds es g h.1) h.2)
  exact⟨p _,bF (p _) rfl⟩
 | .idx a i,X,e,g,h=>by
  replace h:=ax h
  obtain⟨q,w,h⟩:=h;obtain rfl:=qp w;simp only[ow]at h;have p:=HL (pos:=q.2.2) (ay a g h.1.1).1 (ay i g h.1.2).1 h.2;exact⟨p,bF p rfl⟩
 | .slice a lo hi,X,e,g,h=>by
  replace h:=ax h
  obtain⟨⟨v,l,u⟩,w,h⟩:=h;obtain⟨p2,pos,rfl⟩:=By w;simp only[ow]at h;obtain⟨⟨h1,h2⟩,h3⟩:=h;have bd:∀{b:ME}{o:Option Expr},(∀e,chk T b X.N X.env.scope e=true->PE X e (tE X.K cal b))->qu (λe=>chk T b X.N X.env.scope e) (lz b) o=true->PO X o (tB1 X.K cal b):=λ{b o} hb h2=>by
   cases o with
   |none=>exact Fd h2
   |some l =>
    simp only[qu,ow,Km]at h2;exact Fe (hb l h2.1) h2.2
  have p:=BP (p2:=p2) (pos:=pos) (ay a g h1).1 (bd (λe he=>(ay lo g he).1) h2) (bd (λe he=>(ay hi g he).1) h3);exact⟨p,bF p rfl⟩
 | .blt b es,X,e,g,h=>by
  replace h:=ax h
  obtain⟨⟨x,args⟩,w,h⟩:=h;obtain⟨p,pos,rfl⟩:=i5 w;simp only[ow,J7]at h;obtain⟨⟨hx,hg⟩,ha⟩:=h;have q:=(sw (p:=p) (pos:=pos) g hx hg ha (λxs D=>⟨sounds es g D,cb D⟩) (λm x hm hx=>match es,hm with|[m'],rfl=>(ay m' g (cU hx).1.1).1) (λa b x x' hm hx=>match es,hm with|[m1,m2],rfl=>⟨(ay m1 g (cU hx).1.1).1,(ay m2 g (cU (cU hx).2).1.1).1⟩)).2;exact⟨q,bF q rfl⟩
 | .call f es,X,e,g,h=>by
  replace h:=ax h
  obtain⟨⟨x,args⟩,w,h⟩:=h;obtain⟨p,pos,rfl⟩:=i5 w;simp only[ow,J7]at h;obtain⟨⟨⟨h1,h2⟩,h3⟩,h4⟩:=h;obtain⟨hs,hl⟩:=cb h4;have q:=Fg (p:=p) (pos:=pos) g h1 h2 h3 (soundA es g h4) hs hl;exact⟨q,bF q rfl⟩
 | .callD _ _ _,X,e,g,h=>absurd (show false=true from h) oe
 | .fld i n,X,e,g,h=>by
  obtain⟨z,Y,h2⟩:=ax (show onQ (nQ e) (λq=>jA[n]?==some q.2&&aE X.N X.env.scope i q.1)=true from h);obtain⟨p,ap,rfl⟩:=kj Y;obtain⟨h3,h4⟩:=vl.mp h2;have q:=HN (p:=p) (ap:=ap) g (eq_of_beq h3) h4;exact⟨q,bF q rfl⟩
 | .fldL i,X,e,g,h=>by
  obtain⟨z,Y,h2⟩:=ax (show onQ (nQ e) (λq=>q.2==("taken":Str)&&aE X.N X.env.scope i q.1)=true from h);obtain⟨p,ap,rfl⟩:=kj Y;obtain⟨h3,h4⟩:=vl.mp h2;rw[eq_of_beq h3];have q:=Fp (p:=p) (ap:=ap) g h4;exact⟨q,bF q rfl⟩
 | .inO neg me i,X,e,g,h=>by
  obtain⟨z,Y,h⟩:=ax (show onQ (wL e) (λz=>onQ (nQ z.2.2) λq=>z.2.1==(if neg=true then CmpOp.NotIn else CmpOp.In)&&chk T me X.N X.env.scope z.1&&q.2==("taken":Str)&&aE X.N X.env.scope i q.1)=true from h);have hz:=Fu Y h;exact Fv g hz (ay me g hz.1).1
 | .callV _ _,X,e,g,h=>(by cases h)
 | .comp2 _ _ _ _,X,e,g,h=>(by cases h)
 | .callM f i es,X,e,g,h=>by
  obtain⟨z,Y,h⟩:=ax (show onQ (ER e) (λq=>BA X.N X.env.scope T.ms f i (λxs=>chks T es X.N X.env.scope xs) q)=true from h);obtain⟨p,rfl⟩:=Bz Y;obtain⟨h1,h2,h3,h4,h5,h6⟩:=BW h;obtain⟨hs,hl⟩:=cb h4;have q:=BX (p:=p) g h1 h2 h3 (soundA es g h4) hs hl h5 h6;exact⟨q,bF q rfl⟩
 | .dIn neg mk ma,X,e,g,h=>by
  replace h:=ax h
  obtain⟨⟨l,o,r⟩,w,h⟩:=h;obtain⟨pos,rfl⟩:=qr w;simp only[ow,J7,Km]at h;obtain⟨⟨⟨rfl,h1⟩,h2⟩,h3⟩:=h;exact HQ g (ay mk g h1).1 (ay ma g h2).1 h3
 | .dat ma mk,X,e,g,h=>by
  replace h:=ax h
  obtain⟨q,w,h⟩:=h;obtain rfl:=qp w;simp only[ow]at h;have p:=HR (pos:=q.2.2) g (ay ma g h.1.1).1 (ay mk g h.1.2).1 h.2;exact⟨p,bF p rfl⟩
 | .dget ma mk md,X,e,g,h=>by
  replace h:=ax h
  obtain⟨⟨o,m,ap,args,cp⟩,w,h⟩:=h;obtain rfl:=yP w
  replace h:=ax h
  obtain⟨⟨x,y⟩,w,h⟩:=h;obtain rfl:=vn w;simp only[ow,J7]at h;obtain⟨⟨⟨⟨⟨⟨⟨rfl,h1⟩,h2⟩,h3⟩,h4⟩,h5⟩,h6⟩,h7⟩:=h;have p:=Fw (ap:=ap) (cp:=cp) g (ay ma g h3).1 (ay mk g h4).1 (ay md g h5).1 h1 (by rw[h2];simp) h6 h7;exact⟨p,bF p rfl⟩
 | .comp k' src js cond elt,X,e,g,h=>by
  replace h:=lA h
  obtain⟨e,x,px,it,ifs,scope,pos,rfl,h⟩:=h;simp only[ow,Km]at h;obtain⟨⟨⟨⟨h1,h2⟩,h3⟩,h4⟩,h5⟩:=h;have hw:=nV (tg:=.Name x px) (λz=>by cases z) g h2 (λxs D=>⟨sounds src g D,cb D⟩) (λm x hm hx=>match src,hm with|[m'],rfl=>(ay m' g (cU hx).1.1).1);have q:=fk su (ub (pos:=pos) g h1 hw.1 hw.2 (λJ U C fp=>ud h3 λc hc=>(ay cond (g.blk x (fE X.N js) scope J U C fp) hc).2) (λJ U C fp=>(ay elt (g.blk x (fE X.N js) scope J U C fp) h4).1) h5);exact⟨q,bF q rfl⟩
theorem sounds{T:Tab}{k:Nat}{cal:Cal}:∀(ms:List ME) {X:Cx}{es:List Expr},Gf X T k cal->chks T ms X.N X.env.scope es=true->PA X es (tEs X.K cal ms)
 | [],X,es,g,h=>by
  cases es with
  |nil=>exact BN
  |cons _ _=>cases h
 |m::ms,X,es,g,h=>by
  cases es with
  |nil=>cases h
  |cons e es =>
   replace h:=cU h
   exact zc (ay m g h.1.1).1 (sounds ms g h.2) h.1.2
theorem soundA{T:Tab}{k:Nat}{cal:Cal}:∀(ms:List ME) {X:Cx}{es:List Expr},Gf X T k cal->chks T ms X.N X.env.scope es=true->PA X es (tAs X.K cal ms)
 | [],X,es,g,h=>by
  cases es with
  |nil=>exact zd
  |cons _ _=>cases h
 |m::ms,X,es,g,h=>by
  cases es with
  |nil=>cases h
  |cons e es =>
   replace h:=cU h
   have z:=soundA ms g h.2;cases D:bb m with
   |false=>exact wS D (ay m g h.1.1).1 z h.1.2
   |true =>
    have J:=(ay m g h.1.1).1;rcases t7 D with⟨i,rfl⟩|⟨i,rfl⟩
    rotate_left
    .exact(aH J z (cu h.1.2 es _)).imp λσ H Q q=>by
      obtain⟨B,E,O,G,vs,st,U,q⟩:=q;cases (show none=some vs from U)
    obtain⟨x,p,rfl,h1⟩:=qv h.1.1;exact zf h1 z
end
def Fx(g:Gf X T k cal)(h:chk T me X.N X.env.scope e=true)(hf:jB me=true):PE X e (tF X.K cal me):=by
 cases me with
 |lst es =>
  replace h:=ax h
  obtain⟨q,w,h⟩:=h;obtain rfl:=yM w
  replace h:=vl.mp h
  exact Dh (sounds es g h.1) h.2
 |blt b es =>
  replace h:=ax h
  obtain⟨⟨x,args⟩,w,h⟩:=h;refine mV (i5 w) λp pos Y=>?_
  subst Y;simp only[ow,J7]at h;obtain⟨⟨hx,hg⟩,ha⟩:=h;exact(sw (p:=p) (pos:=pos) g hx hg ha (λxs D=>⟨sounds es g D,cb D⟩) (λm x hm hx=>match es,hm with|[Z],rfl=>(ay Z g (cU hx).1.1).1) (λa b x x' hm hx=>match es,hm with|[m1,m2],rfl=>⟨(ay m1 g (cU hx).1.1).1,(ay m2 g (cU (cU hx).2).1.1).1⟩)).1 hf
 |comp k' src js cond elt =>
  replace h:=lA h
  obtain⟨e,x,px,it,ifs,scope,pos,rfl,h⟩:=h;simp only[ow,Km]at h;obtain⟨⟨⟨⟨h1,h2⟩,h3⟩,h4⟩,h5⟩:=h;have hw:=nV (tg:=.Name x px) (λz=>by exact dy z) g h2 (λxs D=>⟨sounds src g D,cb D⟩) (λm x hm hx=>match src,hm with|[Z],rfl=>(ay Z g (cU hx).1.1).1);exact ub (pos:=pos) g h1 hw.1 hw.2 (λJ U C fp=>ud h3 λc hc=>(ay cond (g.blk x (fE X.N js) scope J U C fp) hc).2) (λJ U C fp=>(ay elt (g.blk x (fE X.N js) scope J U C fp) h4).1) h5
 | _=>exact dy hf
noncomputable def HS:MV->Bool
 | .brw _=>true
 | .brwD _=>true
 | .brwO _ _=>true
 | _=>false
def vJ(h1:eR m=true)(h2:HS m=true):False:=by cases m<;>first|(exact dy h2;done)|(exact dy h1;done)
structure cj(B:Hp)(O O':List Addr)(G A:Rho)(σ σ':St):Prop where
 stay:∀a,B a≠none->a∈O->a∈O'
 new:∀a∈O',a∈O\/B a=none
 brw:∀(i:Nat) (m:MV),HS m=true->A[i]?=some (some m)->G[i]?=some (some m)/\σ'[i]?=σ[i]?
 len:A.length=G.length
 mutO:∀(i:Nat) (fs xs:List PV),A[i]?=some (some (.ownO true fs xs))->(∃ys,G[i]?=some (some (.ownO true fs ys)))/\σ'[i]?=σ[i]?
def cj.refl{B:Hp}{O:List Addr}{G:Rho}{σ:St}:cj B O O G G σ σ:=⟨λ_ _ h=>h,λ_ h=>.inl h,λ_ _ _ h=>⟨h,rfl⟩,rfl,λ_ _ xs h=>⟨⟨xs,h⟩,rfl⟩⟩
theorem cj.trans{B:Hp}{O Z O2:List Addr}{G q z:Rho}{σ D J:St}(a:cj B O Z G q σ D)(b:cj B Z O2 q z D J):cj B O O2 G z σ J where
 stay:=λx h1 h2=>b.stay x h1 (a.stay x h1 h2)
 new:=λx h=>(b.new x h).elim (a.new x) .inr
 brw:=λi xs hm h=>by
  obtain⟨h1,U⟩:=b.brw i xs hm h;obtain⟨h2,Y⟩:=a.brw i xs hm h1;exact⟨h2,U.trans Y⟩
 len:=b.len.trans a.len
 mutO:=λi fs xs h=>by
  obtain⟨⟨d1,h1⟩,U⟩:=b.mutO i fs xs h;obtain⟨h2,Y⟩:=a.mutO i fs d1 h1;exact⟨h2,U.trans Y⟩
def gL(K:M5)(B:Hp)(E O:List Addr)(G:Rho)(σ:St)(D:jq):R->Prop
 | .next A=>∀q H' O',aX K B E O' H' A q->cj B O O' G A σ q->D.nx q H'
 | .brk A=>∀q H' O',aX K B E O' H' A q->cj B O O' G A σ q->D.bk q H'
 | .cont A=>∀q H' O',aX K B E O' H' A q->cj B O O' G A σ q->D.ct q H'
 | .ret v=>∀u H',af B H'->Rep K (aj H' E) v u->D.rt u H'
 | .retF xs=>∀p us H',af B H'->B p=none->H' p=some (.lst us)->Reps K (aj H' (p::E)) xs us->D.rt (.ref p) H'
 | .retT v A=>∀q H' O',aX K B E O' H' A q->cj B O O' G A σ q->D.rt v.v H'
 | .bad=>False
theorem gL.trans{K:M5}{B:Hp}{E O O':List Addr}{G A:Rho}{σ Y:St}{D:jq}{r:R}(h:gL K B E O G σ D r)(k:cj B O O' G A σ Y):gL K B E O' A Y D r:=by
 cases r with
 |next z=>exact λq H2 J st U=>h q H2 J st (k.trans U)
 |brk z=>exact λq H2 J st U=>h q H2 J st (k.trans U)
 |cont z=>exact λq H2 J st U=>h q H2 J st (k.trans U)
 |ret v=>exact h
 |bad=>exact h
 |retF xs=>exact h
 |retT v z=>exact λq H2 J st U=>h q H2 J st (k.trans U)
noncomputable def tS(K:M5)(cal:Cal)(m:MS):TS:=λD σ H=>∃B E O G,aX K B E O H G σ/\gL K B E O G σ D (ex cal m G)
noncomputable def tSs(K:M5)(cal:Cal)(ms:List MS):TS:=λD σ H=>∃B E O G,aX K B E O H G σ/\gL K B E O G σ D (exs cal ms G)
section
variable{K:M5}{B H H':Hp}{E O:List Addr}{G:Rho}{σ:St}
def ac(h:i<G.length):(put G i m)[i]?=some (some m):=by unfold put;exact Kq h
def aa(h:i≠j):(put G i m)[j]?=G[j]?:=by unfold put;exact x3 h
def put_len :(put G i m).length=G.length:=by unfold put;exact L4
def aX.store(st:aX K B E O H G σ){i:Nat}{v:PV}{u:V}(hi:i<σ.length)(r:Rep K (aj H O) v u):aX K B E O H (put G i (.val v)) (σ.set i (some u))/\cj B O O G (put G i (.val v)) σ (σ.set i (some u)):=by
 have D:i<G.length:=by rw[st.len];exact hi
 refine⟨⟨st.keep,st.here,st.sub,st.old,by rw[put_len,L4];exact st.len,λj m e=>?_,λa b xs ys ad Z U Y o1 o2 e3 e4=>?_
  ,fC st.inn (λj m0 e l0=>by
   have J:i≠j:=λz=>by subst z;rw[ac D]at e;cases e;cases l0
   rw[aa J]at e;exact⟨⟨m0,e,l0⟩,x3 J,λ_ _ _ h=>h⟩) λj m c e _ o es=>.inl (by
   have J:i≠j:=λz=>by subst z;rw[ac D]at e;cases e;cases o
   rw[aa J]at e;rw[x3 J]at es;exact⟨m,e,o,es⟩)
  ⟩,⟨λ_ _ h=>h,λ_ h=>.inl h,λj xs ao e=>?_,put_len
  ,λj fs xs e=>by
   have J:i≠j:=λz=>by subst z;rw[ac D]at e;cases e
   rw[aa J]at e;exact⟨⟨xs,e⟩,x3 J⟩
  ⟩⟩
 .by_cases J:i=j
  .subst J;rw[ac D]at e;cases e;exact⟨u,Kq hi,r⟩
  .rw[aa J]at e;obtain⟨w,U,q⟩:=st.slot j m e;exact⟨w,by rw[x3 J];exact U,q⟩
 .have h1:i≠a:=λz=>by subst z;rw[ac D]at U;cases U;cases o1
  have h2:i≠b:=λz=>by subst z;rw[ac D]at Y;cases Y;cases o2
  rw[aa h1]at U;rw[aa h2]at Y;rw[x3 h1]at e3;rw[x3 h2]at e4;exact st.apart a b xs ys ad Z U Y o1 o2 e3 e4
 .have J:i≠j:=λz=>by subst z;rw[ac D]at e;cases e;cases ao
  rw[aa J]at e;exact⟨e,x3 J⟩
def aX.storeM(st:aX K B E O H G σ){i:Nat}{mm:MV}{p:Addr}(hi:i<σ.length)(s:af H H')(hp:H p=none)(e:H' p≠none)(hm:eR mm=true)
  (r:B p=none->eQ K B (p::O) H' mm (.ref p))
  (a3:isL mm=false:=by rfl)
  :
  aX K B E (p::O) H' (put G i mm) (σ.set i (some (.ref p)))/\cj B O (p::O) G (put G i mm) σ (σ.set i (some (.ref p))):=by
 have ar:i<G.length:=by rw[st.len];exact hi
 have a4:B p=none:=st.keep.free hp;have Y:af (aj H O) (aj H' (p::O)):=bi s λb hb=>by
  rcases pe.mp hb with rfl|hb
  .exact .inr hp
  .exact .inl hb
 refine⟨⟨st.keep.trans s,λa ha=>?_,λa ha=>Kk _ (st.sub a ha),st.old,by rw[put_len,L4];exact st.len,λj m U=>?_,λa b xs ys ad a5 e1 D o1 o2 e3 e4=>?_
  ,fC (st.mono s).inn (λj m0 e l0=>by
   have J:i≠j:=λz=>by subst z;rw[ac ar]at e;cases e;rw[a3]at l0;cases l0
   rw[aa J]at e;exact⟨⟨m0,e,l0⟩,x3 J,λ_ _ _ h=>h⟩) λj m c e _ o es=>by
   by_cases J:i=j
   .subst J;rw[Kq hi]at es;cases es;refine .inr λk m1 a l f1 f0 f2 f3 z=>?_
    subst z;obtain⟨u,e3,q⟩:=st.slot k _ f1;rw[f2]at e3;cases e3;cases m1<;>try (cases f0;done)
    obtain⟨a',l',e4,q⟩:=q;cases e4;obtain⟨C,dx,gs,e5,_⟩:=q.ob;have e6:=q.l;rw[s _ _ e5]at f3;rw[e5]at e6;rw[e6]at f3;cases f3;obtain⟨us,e7,_⟩:=q.li;rw[hp]at e7;cases e7
   .rw[aa J]at e;rw[x3 J]at es;exact .inl ⟨m,e,o,es⟩
  ⟩,⟨λ_ _ h=>Kk _ h,λa ha=>?_,λj xs bA U=>?_,put_len
  ,λj fs xs U=>by
   have J:i≠j:=λz=>by subst z;rw[ac ar]at U;cases U;cases a3
   rw[aa J]at U;exact⟨⟨xs,U⟩,x3 J⟩
  ⟩⟩
 .rcases pe.mp ha with rfl|ha
  .exact e
  .exact λz=>st.here a ha (s.free z)
 .by_cases J:i=j
  .subst J;rw[ac ar]at U;cases U;exact⟨_,Kq hi,r a4⟩
  .rw[aa J]at U;obtain⟨w,e1,q⟩:=st.slot j m U;refine⟨w,by rw[x3 J];exact e1,?_⟩;cases m with
   |val v=>exact Rep.mono Y _ q
   |own ys=>obtain⟨a,ws,D,h1,h2,h3,h4⟩:=q;exact⟨a,ws,D,s _ _ h1,Reps.mono Y _ h2,Kk _ h3,h4⟩
   |brw ys=>obtain⟨a,ws,D,h1,h2⟩:=q;exact⟨a,ws,D,h1,Reps.mono Y _ h2⟩
   |ownD ys=>obtain⟨a,D,h1,h3,h4⟩:=q;exact⟨a,D,h1.move (s _) Y,Kk _ h3,h4⟩
   |ownO _ fs ys=>obtain⟨a,l,D,q⟩:=q;exact⟨a,l,D,q.move Y (λ_=>s _ _) (λ_=>s _ _) (Kk _ q.aO) (Kk _ q.lO) q.aB q.lB⟩
   |brwO fs ys=>obtain⟨a,D,q⟩:=q;exact⟨a,D,q.move (af.refl B) Y⟩
   |brwD ys=>exact q
 .have Z:∀(j:Nat) (zs:MV) (ad:Addr),G[j]?=some (some zs)->eR zs=true->σ[j]?=some (some (.ref ad))->ad≠p:=λj zs ad h1 ho h2 z=>by
   obtain⟨w,e1,q⟩:=st.slot j _ h1;rw[h2]at e1;cases e1;cases zs with
   |own zs =>
    obtain⟨a,ws,D,h1,_⟩:=q;cases D;rw[z,hp]at h1;cases h1
   |ownD zs =>
    obtain⟨a,D,h1,_⟩:=q;cases D;obtain⟨o,h1⟩:=h1.here;rw[z,hp]at h1;cases h1
   |ownO _ fs zs =>
    obtain⟨a,l,D,q⟩:=q;cases D;obtain⟨C,dx,gs,h1,_⟩:=q.ob;rw[z,hp]at h1;cases h1
   |brwO _ _=>cases ho
   |val _=>cases ho
   |brw _=>cases ho
   |brwD _=>cases ho
  by_cases ha:i=a
  .subst ha;have hb:i≠b:=a5;rw[Kq hi]at e3;rw[aa hb]at D;rw[x3 hb]at e4;cases e3;exact Z b ys _ D o2 e4 rfl
  .by_cases hb:i=b
   .subst hb;rw[Kq hi]at e4;rw[aa ha]at e1;rw[x3 ha]at e3;cases e4;exact Z a xs _ e1 o1 e3 rfl
   .rw[aa ha]at e1;rw[aa hb]at D;rw[x3 ha]at e3;rw[x3 hb]at e4;exact st.apart a b _ _ ad a5 e1 D o1 o2 e3 e4
 .rcases pe.mp ha with rfl|ha
  .exact .inr a4
  .exact .inl ha
 .have J:i≠j:=λz=>by subst z;rw[ac ar]at U;cases U;exact vJ hm bA
  rw[aa J]at U;exact⟨U,x3 J⟩
def aX.storeOwn(st:aX K B E O H G σ){i:Nat}{xs:List PV}{p:Addr}{us:List V}(hi:i<σ.length)(s:af H H')(q:H p=none)(e:H' p=some (.lst us))(r:Reps K (aj H' (p::O)) xs us) :
  aX K B E (p::O) H' (put G i (.own xs)) (σ.set i (some (.ref p)))/\cj B O (p::O) G (put G i (.own xs)) σ (σ.set i (some (.ref p))):=
 st.storeM hi s q (by rw[e];simp) rfl λz=>⟨p,us,rfl,e,r,Kz,z⟩
def aX.changeM(st:aX K B E O H G σ){i:Nat}{m0 m1:MV}{a:Addr}{ob:HO}(e:G[i]?=some (some m0))(o0:eR m0=true)(o1:eR m1=true)
  (es:σ[i]?=some (some (.ref a))) (h3:a∈O) (h4:B a=none) (r:aj (upd H a ob) O=aj H O->eQ K B O (upd H a ob) m1 (.ref a))
  (ar:isL m1=false:=by rfl) (bP:isL m0=false:=by rfl)
  :
  aX K B E O (upd H a ob) (put G i m1) σ/\cj B O O G (put G i m1) σ σ:=by
 have Z:i<G.length:=(xa.mp e).1;have Y:aj (upd H a ob) O=aj H O:=cD h3;have U:∀(j:Nat) (zs:MV) (ad:Addr),i≠j->G[j]?=some (some zs)->eR zs=true->σ[j]?=some (some (.ref ad))->ad≠a:=λj zs ad J q1 o2 q2 z=>by
  subst z;exact st.apart i j m0 zs ad J e q1 o0 o2 es q2
 refine⟨⟨λb u eb=>?_,λb hb=>?_,st.sub,st.old,by rw[put_len];exact st.len,λj m D=>?_,λc d ps qs ad a3 e1 e2 p1 p2 e3 e4=>?_
  ,fC st.inn (λj mo D l0=>by
   have J:i≠j:=λz=>by subst z;rw[ac Z]at D;cases D;rw[ar]at l0;cases l0
   rw[aa J]at D;refine⟨⟨mo,D,l0⟩,rfl,λb l e1 e2=>?_⟩;rw[az (U j _ b J D (by cases mo<;>first|(cases l0;done)|rfl) e1)]at e2;exact e2) λj m c D _ o ec=>.inl (by
   by_cases J:i=j
   .subst J;exact⟨m0,e,o0,ec⟩
   .rw[aa J]at D;exact⟨m,D,o,ec⟩)
  ⟩,⟨λ_ _ h=>h,λ_ h=>.inl h,λj zs a4 D=>?_,put_len
  ,λj fs xs D=>by
   have J:i≠j:=λz=>by subst z;rw[ac Z]at D;cases D;cases ar
   rw[aa J]at D;exact⟨⟨xs,D⟩,rfl⟩
  ⟩⟩
 .rw[az (bp eb h4)];exact st.keep b u eb
 .unfold upd;split
  .simp
  .exact st.here b hb
 .by_cases J:i=j
  .subst J;rw[ac Z]at D;cases D;exact⟨_,es,r Y⟩
  .rw[aa J]at D;obtain⟨w,ew,q⟩:=st.slot j m D;refine⟨w,ew,?_⟩;cases m with
   |val v=>show Rep K (aj (upd H a ob) O) v w;rw[Y];exact q
   |own zs =>
    obtain⟨ad,ws,rfl,q1,q2,q3,q4⟩:=q;refine⟨ad,ws,rfl,?_,by rw[Y];exact q2,q3,q4⟩;rw[az (U j (.own zs) ad J D rfl ew)];exact q1
   |ownD zs =>
    obtain⟨ad,rfl,q1,q3,q4⟩:=q;refine⟨ad,rfl,q1.move (λo eo=>?_) (by rw[Y];exact af.refl _),q3,q4⟩;rw[az (U j (.ownD zs) ad J D rfl ew)];exact eo
   |ownO b fs zs =>
    obtain⟨ad,l,rfl,q⟩:=q;have n1:=U j (.ownO b fs zs) ad J D rfl ew;have n2:=(st.inn j _ ad l D rfl ew q.l i m0 (λz=>J z) e).2 a o0 es;exact⟨ad,l,rfl,q.move (by rw[Y];exact af.refl _) (λo h=>by rw[az n1];exact h) (λo h=>by rw[az (KD n2)];exact h) q.aO q.lO q.aB q.lB⟩
   |brwO fs zs=>obtain⟨ad,rfl,q⟩:=q;exact⟨ad,rfl,q.move (af.refl B) (by rw[Y];exact af.refl _)⟩
   |brwD zs=>exact q
   |brw zs=>obtain⟨ad,ws,rfl,q1,q2⟩:=q;exact⟨ad,ws,rfl,q1,by rw[Y];exact q2⟩
 .have h1:∀(j:Nat) (zs:MV),(put G i m1)[j]?=some (some zs)->eR zs=true->∃zs,G[j]?=some (some zs)/\eR zs=true:=λj zs q oz=>by
   by_cases J:i=j
   .subst J;exact⟨m0,e,o0⟩
   .rw[aa J]at q;exact⟨zs,q,oz⟩
  obtain⟨q1,e1,p1⟩:=h1 c ps e1 p1;obtain⟨q2,e2,p2⟩:=h1 d qs e2 p2;exact st.apart c d q1 q2 ad a3 e1 e2 p1 p2 e3 e4
 .have J:i≠j:=λz=>by subst z;rw[ac Z]at D;cases D;exact vJ o1 a4
  rw[aa J]at D;exact⟨D,rfl⟩
def aX.change(st:aX K B E O H G σ){i:Nat}{xs ys:List PV}{a:Addr}{us:List V}(e:G[i]?=some (some (.own xs)))(es:σ[i]?=some (some (.ref a)))(r:Reps K (aj H O) ys us) :
  aX K B E O (upd H a (.lst us)) (put G i (.own ys)) σ/\cj B O O G (put G i (.own ys)) σ σ:=by
 obtain⟨w,z,U,D,J,h1,h2,h3,h4⟩:=st.slot i _ e;rw[es]at z;cases z;cases J;exact st.changeM e rfl rfl es h3 h4 λq=>⟨a,us,rfl,aA,by rw[q];exact r,h3,h4⟩
def aX.changeD(st:aX K B E O H G σ){i:Nat}{xs ys:DD}{a:Addr}{ob:HO}(e:G[i]?=some (some (.ownD xs)))(es:σ[i]?=some (some (.ref a)))(hd:aj (upd H a ob) O=aj H O->DAt K (upd H a ob) O a ys) :
  aX K B E O (upd H a ob) (put G i (.ownD ys)) σ/\cj B O O G (put G i (.ownD ys)) σ σ:=by
 obtain⟨w,z,J,D,h1,h3,h4⟩:=st.slot i _ e;rw[es]at z;cases z;cases D;exact st.changeM e rfl rfl es h3 h4 λq=>⟨a,rfl,hd q,h3,h4⟩
def aX.freeze(st:aX K B E O H G σ){i:Nat}{xs:List PV}(e:G[i]?=some (some (.own xs))):∃O',aX K B E O' H (put G i (.val (.lst xs))) σ/\cj B O O' G (put G i (.val (.lst xs))) σ σ:=by
 obtain⟨w,es,a,us,rfl,h1,h2,h3,h4⟩:=st.slot i _ e;have Y:i<G.length:=(xa.mp e).1;have U:af (aj H O) (aj H (O.filter λb=>decide (b≠a))):=bi (af.refl H) λb Z=>.inl (J9.mp Z).1
 have mem:∀b,b≠a->b∈O->b∈O.filter λb=>decide (b≠a):=λb Z ho=>J9.mpr ⟨ho,Ka Z⟩
 refine⟨O.filter λb=>decide (b≠a),⟨st.keep,λb Z=>st.here b (J9.mp Z).1,λb Z=>mem b (λz=>st.old b Z (z▸h4)) (st.sub b Z),st.old,by rw[put_len];exact st.len,λj m D=>?_,λc d ps qs ad ar e1 e2 p1 p2 e3 e4=>?_
  ,fC st.inn (λj mo D l0=>by
   have J:i≠j:=λz=>by subst z;rw[ac Y]at D;cases D;cases l0
   rw[aa J]at D;exact⟨⟨mo,D,l0⟩,rfl,λ_ _ _ h=>h⟩) λj m c D _ o ec=>.inl (by
   have J:i≠j:=λz=>by subst z;rw[ac Y]at D;cases D;cases o
   rw[aa J]at D;exact⟨m,D,o,ec⟩)
  ⟩,⟨λb Z ho=>mem b (λz=>Z (z▸h4)) ho,λb Z=>.inl (J9.mp Z).1,λj zs aL D=>?_,put_len
  ,λj fs xs D=>by
   have J:i≠j:=λz=>by subst z;rw[ac Y]at D;cases D
   rw[aa J]at D;exact⟨⟨xs,D⟩,rfl⟩
  ⟩⟩
 .by_cases J:i=j
  .subst J;rw[ac Y]at D;cases D;refine⟨_,es,?_⟩;show Rep K _ (.lst xs) (.ref a);rw[Rep];refine⟨a,us,rfl,SqL.of ?_,Reps.mono U _ h2⟩;have a0:a∉O.filter λb=>decide (b≠a):=λz=>by simpa using (J9.mp z).2
   rw[a9 a0];exact h1
  .rw[aa J]at D;obtain⟨w,ew,q⟩:=st.slot j m D;refine⟨w,ew,?_⟩;cases m with
   |val v=>exact Rep.mono U _ q
   |own zs =>
    obtain⟨ad,ws,rfl,q1,q2,q3,q4⟩:=q;exact⟨ad,ws,rfl,q1,Reps.mono U _ q2,mem ad (λz=>st.apart i j (.own xs) (.own zs) a J e D rfl rfl es (by rw[ew,z])) q3,q4⟩
   |ownD zs =>
    obtain⟨ad,rfl,q1,q3,q4⟩:=q;exact⟨ad,rfl,q1.move (λ_ eo=>eo) U,mem ad (λz=>st.apart i j (.own xs) (.ownD zs) a J e D rfl rfl es (by rw[ew,z])) q3,q4⟩
   |ownO b fs zs =>
    obtain⟨ad,l,rfl,q⟩:=q;have n2:=(st.inn j _ ad l D rfl ew q.l i (.own xs) (λz=>J z) e).2 a rfl es;exact⟨ad,l,rfl,q.move U (λ_ h=>h) (λ_ h=>h) (mem ad (λz=>st.apart i j (.own xs) (.ownO b fs zs) a J e D rfl rfl es (by rw[ew,z])) q.aO) (mem l (KD n2) q.lO) q.aB q.lB⟩
   |brwO fs zs=>obtain⟨ad,rfl,q⟩:=q;exact⟨ad,rfl,q.move (af.refl B) U⟩
   |brwD zs=>exact q
   |brw zs=>obtain⟨ad,ws,rfl,q1,q2⟩:=q;exact⟨ad,ws,rfl,q1,Reps.mono U _ q2⟩
 .have h1:∀(j:Nat) (zs:MV),eR zs=true->(put G i (.val (.lst xs)))[j]?=some (some zs)->G[j]?=some (some zs):=λj zs oz q=>by
   by_cases J:i=j
   .subst J;rw[ac Y]at q;cases q;cases oz
   .rw[aa J]at q;exact q
  exact st.apart c d ps qs ad ar (h1 c ps p1 e1) (h1 d qs p2 e2) p1 p2 e3 e4
 .have J:i≠j:=λz=>by subst z;rw[ac Y]at D;cases D;cases aL
  rw[aa J]at D;exact⟨D,rfl⟩
end
section
open AutoSeq1 (wpAny_loadPart')
open MeetsSeq MeetsSeq2 MeetsSeq3 SeqRoads2 AutoSeq1
def qF(l)(items)(n)(b)(q)(n2)(z)(D)(Y:¬(!items.isEmpty&&Builtin.List.listTooLong (items.size+q.size))=true)(J:items.size<=sizeLine)(Z:items.size+q.size<=sizeLine+1) :
  Meets (Builtin.«list.extend» ⟨[.ref l,.ref b],[]⟩) (λ_ R s=>s.heap.get? l=some { cls:=.type "list",dict:=none,data:=.seq items n,slots:=#[] }/\s.heap.get? b=some { cls:=.type "tuple",dict:=z,data:=.seq q n2,slots:=D }/\R (.ok (.ret Value.none)) { s with heap:=s.heap.update l (Obj.mapSeq λx=>x++q),toks:=s.toks }):=
 .of_wp λprog w A R s h=>by
  obtain⟨hp,g,d,tk,os⟩:=s;obtain⟨U,hb,h⟩:=h;have f1:=AutoSeq1.idx_int;have f2:=LX;have f3:=AutoSeq1.sub_list_list;have f4:=AutoSeq1.sub_tuple_list;have f5:=AutoSeq1.sub_list_tuple;
  wp_walk using (wpAny_updateSeq U rfl (hz:=J)),wpAny_loadPart' U,wpAny_loadPart' hb;exact⟨_,rfl,h⟩
def qG(l)(items)(n)(b)(q)(n2)(z)(D)(Y:¬(!items.isEmpty&&Builtin.List.listTooLong (items.size+q.size))=true)(J:items.size<=sizeLine)(Z:items.size+q.size<=sizeLine+1) :
  Meets (Builtin.«list.extend» ⟨[.ref l,.ref b],[]⟩) (λ_ R s=>s.heap.get? l=some { cls:=.type "list",dict:=none,data:=.seq items n,slots:=#[] }/\s.heap.get? b=some { cls:=.type "list",dict:=z,data:=.seq q n2,slots:=D }/\R (.ok (.ret Value.none)) { s with heap:=s.heap.update l (Obj.mapSeq λx=>x++q),toks:=s.toks }):=
 .of_wp λprog w A R s h=>by
  obtain⟨hp,g,d,tk,os⟩:=s;obtain⟨U,hb,h⟩:=h;have f1:=AutoSeq1.idx_int;have f2:=LX;have f3:=AutoSeq1.sub_list_list;have f4:=AutoSeq1.sub_tuple_list;have f5:=AutoSeq1.sub_list_tuple;
  wp_walk using (wpAny_updateSeq U rfl (hz:=J)),wpAny_loadPart' U,wpAny_loadPart' hb;exact⟨_,rfl,h⟩
end
section
variable{X:Cx}{T:Tab}{k:Nat}{cal:Cal}
def ui:MtM X "list.extend" (λx vs H Q=>∃l b xs zs,x=.ref l/\vs=[.ref b]/\H l=some (.lst xs)/\(SqL X.K H b zs\/SqT X.K H b zs)/\xs.length+zs.length<=sizeLine/\Q .non (upd H l (.lst (xs++zs)))):=by
 intro pins s σ H x vs v us Q I rx rv h;refine bN λZq kq=>?_
 obtain⟨l,b,xs,zs,rfl,rfl,hH,Z,hz,q⟩:=h;subst rx;refine ae rv.one λu ao ru=>?_
 subst ao;subst ru;obtain⟨z,its,n,r,hl,e⟩:=I.lstM hH;have fin:∀D,aJ zs D->EP X pins σ Q .none { s with heap:=s.heap.update l (Obj.mapSeq λx=>x++D.toArray),toks:=s.toks }:=λD U =>
  ⟨.non,_,I.lset (its':=its++D) hH e (by simp) (r.append U) (by rw[Kj];omega),rfl,q⟩
 refine kq ?_;rcases Z with Z|Z
 .obtain⟨D,U,pl,z2⟩:=I.list Z;have ar:=U.length;have Y:its.toArray.size+D.toArray.size<=sizeLine:=by rw[pd,pd];omega
  have J:¬ (!its.toArray.isEmpty&&Builtin.List.listTooLong (its.toArray.size+D.toArray.size))=true:=by
   rw[rB Y,Bool.and_false];exact oe
  obtain⟨⟨cls,dd,data,sl⟩,ho,hc,n2,hd⟩:=pl.isList;simp only at hc hd;subst hc hd;exact call_meets PySem.F.slot_list_extend ⟨_,e,rfl⟩ PySem.F.entry_list_extend (PySem.F.args_list_extend_2 _ _) (qG l its.toArray n b D.toArray n2 dd sl J (by rw[pd];omega) (by omega)) ⟨e,ho,fin D U⟩
 .obtain⟨D,U,pl,z2⟩:=I.tuple Z;have ar:=U.length;have Y:its.toArray.size+D.toArray.size<=sizeLine:=by rw[pd,pd];omega
  have J:¬ (!its.toArray.isEmpty&&Builtin.List.listTooLong (its.toArray.size+D.toArray.size))=true:=by
   rw[rB Y,Bool.and_false];exact oe
  obtain⟨⟨cls,dd,data,sl⟩,ho,hc,n2,hd⟩:=pl;simp only at hc hd;subst hc hd;exact call_meets PySem.F.slot_list_extend ⟨_,e,rfl⟩ PySem.F.entry_list_extend (PySem.F.args_list_extend_2 _ _) (qF l its.toArray n b D.toArray n2 dd sl J (by rw[pd];omega) (by omega)) ⟨e,ho,fin D U⟩
structure Df(X:Cx):Prop where
 nd:X.N.Nodup
 fn:∀x,X.fn x=true
 own:PassesOwn (model X.prog X.w) X.A X.env X.xe
 blk:(X.env.blockKind==.function)=true
def aK(h:dJ v=true)(t)(n)(env):swapsWith v t n env=pure false:=by
 cases v<;>first|rfl|(injection h)
def wT(d:Df X)(h:C8 X.env.scope x px v=true):swapsWith v (some (.Name x px)) n X.env=pure true:=by
 obtain⟨⟨e,gs,s,p⟩,w,h⟩:=ax h;obtain rfl:=t6 w;show pure _=pure true;rw[d.blk,Bool.true_and];exact La pure h
def PS.imp'(h:PS X e t)(i:∀D σ H,σ.length=X.N.length->t' D σ H->t D σ H):PS X e t':=λpins s σ H D I q=>h pins s σ H D I (i D σ H I.len q)
def ltN{N:List Str}{σ:St}(h:N[i]?=some x)(q:σ.length=N.length):i<σ.length:=by rw[q];exact(xa.mp h).1
def cW{K:M5}(h:gL K B E O G σ D (eJ o f)):∃v,o=some v/\gL K B E O G σ D (f v):=by
 cases o with
 |none=>exact(show False from h).elim
 |some v=>exact⟨v,rfl,h⟩
def wU{K:M5}(h:gL K B E O G σ D (yJ o f)):∃v,o=some v/\gL K B E O G σ D (f v):=by
 cases o with
 |none=>exact(show False from h).elim
 |some v=>exact⟨v,rfl,h⟩
def zp{K:M5}(hi:i<σ.length)(J:bb me=false)(q:tS K cal (.set i me) D σ H):pX (tE K cal me) (db i) D σ H:=by
 refine je q λB E O G st q=>?_
 refine ae (cW q) λw e q=>?_
 refine⟨B,E,O,G,w,st,e,λu H' s g=>?_⟩;obtain⟨z,U⟩:=(st.mono s).store hi (g.2 J);exact q _ H' O z U
def HU(d:Df X)(hi:X.N[i]?=some x)(hx:Loc X.env.scope x)(h:PE X v (tE X.K cal me))(z:bb me=false)(hc:dJ v=true):PS X (.Assign [.Name x px] v pos) (tS X.K cal (.set i me)):=
 PS.imp' (jt d.nd hi hx h (aK hc _ _ _) (.inl (d.fn x))) λD σ H J q=>zp (ltN hi J) z q
def zq{K:M5}(hi:i<σ.length)(q:tS K cal (.setOwn i me) D σ H):pX (tF K cal me) (db i) D σ H:=by
 refine je q λB E O G st q=>?_
 refine ae (cW q) λw e q=>?_
 cases w with
 |lst xs =>
  refine⟨B,E,O,G,xs,st,e,λp us H' s J U r=>?_⟩;obtain⟨z,Y⟩:=st.storeOwn hi s J U r;exact q _ H' _ z Y
 | _=>exact(show False from q).elim
def HV(d:Df X)(hi:X.N[i]?=some x)(hx:Loc X.env.scope x)(h:PE X v (tF X.K cal me))(hc:dJ v=true):PS X (.Assign [.Name x px] v pos) (tS X.K cal (.setOwn i me)):=
 PS.imp' (jt d.nd hi hx h (aK hc _ _ _) (.inl (d.fn x))) λD σ H z q=>zq (ltN hi z) q
def zr{i:Nat}{me:ME}{x:Str}{v:Expr}{p apos cpos pos:Pos}(h:PE X v (tE X.K cal me))(hn:aE X.N X.env.scope i x=true)(hb:bb me=false)(U:aG v=true)(z:(apos.endLine==cpos.line)=true) :
  PS X (.Expr (.Call (.Attribute (.Name x p) "append" apos) [v] [] cpos) pos) (tS X.K cal (.append i me)):=by
 refine(d9 (vb PySem.F.plainAttrs_list PySem.F.slot_list_append PySem.F.type_list_append iY (cO hn) (aH h bO (cu U _ _)) rfl (by rw[cu U];rfl) z (cu U _ _) rfl) rfl).imp λD σ H q=>?_
 obtain⟨B,E,O,G,st,q⟩:=q;rw[ex]at q;obtain⟨w,e,q⟩:=cW q;cases J:(G[i]?).join with
 |none=>rw[J]at q;exact(show False from q).elim
 |some m =>
  rw[J]at q;cases m with
  |own xs =>
   dsimp only at q;split at q
   .rename_i hl;obtain⟨u,Z,a,us,rfl,ha,rs,hO,hB⟩:=bX st J;refine⟨_,Z,.inl ⟨rfl,us,SqL.of ha⟩,B,E,O,G,w,st,e,λu H1 s g=>⟨a,us,u,rfl,rfl,s _ _ ha,?_,?_⟩⟩
    .rw[<- rs.length];exact wh hl (by decide)
    .obtain⟨Y,k'⟩:=(st.mono s).change (us:=us++[u]) (ys:=xs++[w]) (join_some J) Z ((Reps.mono (ak s) _ rs).snoc (g.2 hb));exact q _ _ _ Y k'
   .exact(show False from q).elim
  |val _=>exact(show False from q).elim
  |brw _=>exact(show False from q).elim
  |ownD _=>exact(show False from q).elim
  |ownO _ _ _=>exact(show False from q).elim
  |brwO _ _=>exact(show False from q).elim
  |brwD _=>exact(show False from q).elim
def zt{i:Nat}{me:ME}{x:Str}{v:Expr}{p apos cpos pos:Pos}(h:PE X v (tE X.K cal me))(hn:aE X.N X.env.scope i x=true)(Y:aG v=true)(z:(apos.endLine==cpos.line)=true) :
  PS X (.Expr (.Call (.Attribute (.Name x p) "extend" apos) [v] [] cpos) pos) (tS X.K cal (.extend i me)):=by
 refine(d9 (vb PySem.F.plainAttrs_list PySem.F.slot_list_extend PySem.F.type_list_extend ui (cO hn) (aH h bO (cu Y _ _)) rfl (by rw[cu Y];rfl) z (cu Y _ _) rfl) rfl).imp λD σ H q=>?_
 obtain⟨B,E,O,G,st,q⟩:=q;rw[ex]at q;obtain⟨w,e,q⟩:=cW q;cases U:(G[i]?).join with
 |none=>rw[U]at q;exact(show False from q).elim
 |some m =>
  rw[U]at q;cases m with
  |own xs =>
   cases hw:b_ w with
   |none=>rw[hw]at q;exact(show False from q).elim
   |some ys =>
    rw[hw]at q;dsimp only at q;split at q
    .rename_i hl;obtain⟨u,eu,a,us,rfl,ha,rs,hO,hB⟩:=bX st U;refine⟨_,eu,.inl ⟨rfl,us,SqL.of ha⟩,B,E,O,G,w,st,e,λu H1 s g=>?_⟩;obtain⟨b,ws,rfl,sq,J⟩:=g.1.seq hw;refine⟨a,b,us,ws,rfl,rfl,s _ _ ha,sq,?_,?_⟩
     .rw[<- rs.length,<- J.length];exact gK hl
     .obtain⟨Z,k'⟩:=(st.mono s).change (us:=us++ws) (ys:=xs++ys) (join_some U) eu ((Reps.mono (ak s) _ rs).append J);exact q _ _ _ Z k'
    .exact(show False from q).elim
  |val _=>exact(show False from q).elim
  |brw _=>exact(show False from q).elim
  |ownD _=>exact(show False from q).elim
  |ownO _ _ _=>exact(show False from q).elim
  |brwO _ _=>exact(show False from q).elim
  |brwD _=>exact(show False from q).elim
def Fy{m:Bool}{i:Nat}{x:Str}{px dp pos:Pos}(d:Df X)(hi:X.N[i]?=some x)(hx:Loc X.env.scope x):PS X (.Assign [.Name x px] (.Dict [] [] dp) pos) (tS X.K cal (.newD m i)):=by
 cases m with
 |false =>
  refine PS.imp' (jt d.nd hi hx yi (aK (v:=.Dict [] [] dp) rfl _ _ _) (.inl (d.fn x))) λD σ H U q=>?_
  obtain⟨B,E,O,G,st,q⟩:=q;rw[ex]at q;intro p J;obtain⟨z,Y⟩:=st.storeM (mm:=.ownD (.k [])) (ltN hi U) (bC J (.dK [])) J (by rw[aA];simp) rfl λZ=>⟨p,rfl,aA,Kz,Z⟩
  exact q _ _ _ z Y
 |true =>
  refine PS.imp' (jt d.nd hi hx yj (aK (v:=.Dict [] [] dp) rfl _ _ _) (.inl (d.fn x))) λD σ H U q=>?_
  obtain⟨B,E,O,G,st,q⟩:=q;rw[ex]at q;intro p J;obtain⟨z,Y⟩:=st.storeM (mm:=.ownD (.t [])) (ltN hi U) (bC J (.dT [])) J (by rw[aA];simp) rfl λZ=>⟨p,rfl,aA,Kz,Z⟩
  exact q _ _ _ z Y
def Fz{i:Nat}{mk me:ME}{x:Str}{v s:Expr}{p z pos:Pos}(Z:Gf X T k cal)(hk:PE X s (tE X.K cal mk))(h:PE X v (tE X.K cal me))(hn:aE X.N X.env.scope i x=true)(hc:dJ v=true) :
  PS X (.Assign [.Subscript (.Name x p) s z] v pos) (tS X.K cal (.dput i mk me)):=by
 have hu:X.A.units+1<cLine:=by have:=Z.units;omega
 refine(Bl hu (cO hn) hk h (by cases v<;>first|rfl|(simp[dJ]at hc))).imp λD σ H q=>?_
 obtain⟨B,E,O,G,st,q⟩:=q;rw[ex]at q;obtain⟨w,e,q⟩:=cW q;obtain⟨kv,ek,q⟩:=cW q;cases J:(G[i]?).join with
 |none=>rw[J]at q;exact(show False from q).elim
 |some m =>
  rw[J]at q;cases m with
  |ownD d =>
   cases hz:sc? w with
   |none=>rw[hz]at q;exact(show False from q).elim
   |some sz =>
    rw[hz]at q;dsimp only at q;cases hd:rP d kv sz with
    |none=>rw[hd]at q;exact(show False from q).elim
    |some d' =>
     rw[hd]at q;obtain⟨u,Y,a,rfl,ha,hO,hB⟩:=bX st J;refine⟨B,E,O,G,w,st,e,λu H1 s1 g1=>⟨_,Y,B,E,O,G,_,st.mono s1,ek,λuk H2 s2 g2=>?_⟩⟩;refine⟨a,_,rfl,by rw[zo hz g1.1];exact BS hd (s2 _ _ (s1 _ _ (ha.put1 hd))) g2.1,?_⟩;obtain⟨U,k'⟩:=((st.mono s1).mono s2).changeD (ys:=d') (join_some J) Y λ_=>.put2 hd aA
     exact q _ _ _ U k'
  |val _=>exact(show False from q).elim
  |brw _=>exact(show False from q).elim
  |own _=>exact(show False from q).elim
  |ownO _ _ _=>exact(show False from q).elim
  |brwO _ _=>exact(show False from q).elim
  |brwD _=>exact(show False from q).elim
def HW(h:PE X v (tE X.K cal me))(z:bb me=false):PS X (.Return (some v) pos) (tS X.K cal (.ret me)):=by
 refine(gU h).imp λD σ H q=>?_
 refine je q λB E O G st q=>?_
 refine ae (cW q) λw e q=>?_
 exact⟨B,E,O,G,w,st,e,λu H' s g=>q u H' (st.keep.trans s) (Rep.mono (bi (af.refl H') λb z=>.inl (st.sub b z)) _ (g.2 z))⟩
def zu{i:Nat}{x:Str}{p pos:Pos}(hn:aE X.N X.env.scope i x=true):PS X (.Return (some (.Name x p)) pos) (tS X.K cal (.retOwn i)):=by
 refine(gU (cO hn)).imp λD σ H q=>?_
 obtain⟨B,E,O,G,st,q⟩:=q;rw[ex]at q;have J:af (aj H O) (aj H E):=bi (af.refl H) λb hb=>.inl (st.sub b hb)
 cases U:(G[i]?).join with
 |none=>rw[U]at q;exact(show False from q).elim
 |some m =>
  rw[U]at q;cases m with
  |own xs =>
   obtain⟨u,Y,a,us,rfl,ha,rs,hO,Z⟩:=bX st U;refine⟨_,Y,q _ H st.keep ?_⟩;rw[Rep];refine⟨a,us,rfl,SqL.of ?_,Reps.mono J _ rs⟩;rw[a9 λz=>st.old a z Z];exact ha
  |val v =>
   obtain⟨u,Y,so⟩:=bX st U;exact⟨_,Y,q _ H st.keep (Rep.mono J _ so)⟩
  |brw _=>exact(show False from q).elim
  |ownD kvs =>
   obtain⟨u,Y,a,rfl,ha,hO,Z⟩:=bX st U;refine⟨_,Y,q _ H st.keep ?_⟩;rw[Rep];refine⟨a,rfl,.inl ?_⟩;rw[a9 λz=>st.old a z Z];exact ha
  |ownO _ _ _=>exact(show False from q).elim
  |brwO _ _=>exact(show False from q).elim
  |brwD _=>exact(show False from q).elim
def JI(hc:PT X t (tT X.K cal c))(ha:PSs X x (tSs X.K cal a))(z:PSs X y (tSs X.K cal b)):PS X (.If t x y pos) (tS X.K cal (.ite c a b)):=by
 refine(iz hc ha z).imp λD σ H q=>?_
 refine je q λB E O G st q=>?_
 refine ae (wU q) λw e q=>?_
 refine⟨B,E,O,G,w,st,e,λH' s=>?_⟩;cases w<;>first|(rw[if_pos rfl]at q ⊢;exact⟨B,E,O,G,st.mono s,q⟩)|(rw[if_neg (by simp)]at q ⊢;exact⟨B,E,O,G,st.mono s,q⟩)
def FB{m:MS}{ms:List MS}{st:Stmt}{ss:List Stmt}(h1:PS X st (tS X.K cal m))(h2:PSs X ss (tSs X.K cal ms)):PSs X (st::ss) (tSs X.K cal (m::ms)):=by
 refine(aD h1 h2).imp λD σ H q=>?_
 obtain⟨B,E,O,G,st,q⟩:=q;refine⟨B,E,O,G,st,?_⟩;rw[exs]at q;cases e:ex cal m G with
 |next A=>rw[e]at q;exact λJ H' O' z k=>⟨B,E,O',A,z,gL.trans q k⟩
 |brk A=>rw[e]at q;exact q
 |cont A=>rw[e]at q;exact q
 |ret v=>rw[e]at q;exact q
 |bad=>rw[e]at q;exact q
 |retF xs=>rw[e]at q;exact q
 |retT v U=>rw[e]at q;exact q
def HX:PSs X [] (tSs X.K cal []):=by
 refine eX.imp λD σ H q=>?_
 refine je q λB E O G st q=>?_
 exact q σ H O st .refl
end
section
variable{K:M5}{B H H':Hp}{E O:List Addr}{G:Rho}{σ:St}
def zv{i j:Nat}{m:MV}(h:yK G i=true)(q:i≠j)(e:G[j]?=some (some m)):isL m=false:=by
 have:=Mf.mp h (some m) (Ln (show(G.set i none)[j]?=some (some m)by rw[x3 q];exact e));simpa using this
def kK(st:aX K B E O H G σ){j:Nat}{m:MV}{c:Addr}(e:G[j]?=some (some m))(o:eR m=true)(es:σ[j]?=some (some (.ref c))):H c≠none:=by
 obtain⟨w,D,q⟩:=st.slot j _ e;rw[es]at D;cases D;cases m with
 |own zs=>obtain⟨a,J,z,h1,_⟩:=q;cases z;rw[h1];simp
 |ownD zs=>obtain⟨a,z,h1,_⟩:=q;cases z;rw[h1];simp
 |ownO _ _ _=>obtain⟨a,l,z,q⟩:=q;cases z;obtain⟨C,dx,gs,h1,_⟩:=q.ob;rw[h1];simp
 |val _=>cases o
 |brw _=>cases o
 |brwD _=>cases o
 |brwO _ _=>cases o
def aX.changeO(st:aX K B E O H G σ){i:Nat}{b:Bool}{fs xs ys:List PV}{a l l':Addr}(e:G[i]?=some (some (.ownO b fs xs)))(es:σ[i]?=some (some (.ref a)))(q:dH K B O H fs xs a l)(kp:∀c o,c≠a->c≠l->H c=some o->H' c=some o)(hl:l'=l\/H l'=none)
  (q':dH K (λ_=>none) (l'::O.filter λb=>decide (b≠l)) H' fs ys a l'):aX K B E (l'::O.filter λb=>decide (b≠l)) H' (put G i (.ownO b fs ys)) σ/\cj B O (l'::O.filter λb=>decide (b≠l)) G (put G i (.ownO b fs ys)) σ σ:=by
 have Z:i<G.length:=(xa.mp e).1;have lB:B l'=none:=hl.elim (λz=>by rw[z];exact q.lB) st.keep.free;have mem:∀c,c≠l->c∈O->c∈l'::O.filter λb=>decide (b≠l):=λc hc ho=>Kk _ (J9.mpr ⟨ho,Ka hc⟩)
 have keep:af B H':=λc u J=>kp c u (λz=>by rw[z,q.aB]at J;cases J) (λz=>by rw[z,q.lB]at J;cases J) (st.keep c u J)
 have Y:af (aj H O) (aj H' (l'::O.filter λb=>decide (b≠l))):=λc u J=>by
  have hc:c∉O:=λz=>by rw[ez z]at J;cases J
  rw[a9 hc]at J;rw[a9]
  .exact kp c u (λz=>hc (z▸q.aO)) (λz=>hc (z▸q.lO)) J
  .intro z;rcases pe.mp z with z|z
   .rcases hl with w|w
    .exact hc (by rw[z,w];exact q.lO)
    .rw[z,w]at J;cases J
   .exact hc (J9.mp z).1
 have a3:∀(j:Nat) (m:MV) (c:Addr),i≠j->G[j]?=some (some m)->eR m=true->σ[j]?=some (some (.ref c))->c≠a/\c≠l:=λj m c U D o J=>⟨λz=>st.apart i j _ m a U e D rfl o es (by rw[J,z]),(st.inn i _ a l e rfl es q.l j m (KD U) D).2 c o J⟩
 refine⟨⟨keep,λc hc=>?_,λc hc=>mem c (λz=>st.old c hc (z▸q.lB)) (st.sub c hc),st.old,by rw[put_len];exact st.len,λj m D=>?_,λc d ps qs ad a6 e1 e2 p1 p2 e3 e4=>?_,λk m0 a2 l2 e1 l0 e2 e3 j m ao D=>?_⟩,⟨λc hc ho=>mem c (λz=>hc (z▸q.lB)) ho,λc hc=>?_,λj zs a7 D=>?_,put_len,λj gs zs D=>?_⟩⟩
 .rcases pe.mp hc with rfl|hc
  .obtain⟨us,h1,_⟩:=q'.li;rw[h1];simp
  .obtain⟨h1,h2⟩:=J9.mp hc;by_cases z:c=a
   .subst z;obtain⟨C,dx,gs,h1,_⟩:=q'.ob;rw[h1];simp
   .cases eo:H c with
    |none=>exact absurd eo (st.here c h1)
    |some o=>rw[kp c o z (Kl h2) eo];simp
 .by_cases U:i=j
  .subst U;rw[ac Z]at D;cases D;exact⟨_,es,a,l',rfl,q'.move (af.refl _) (λ_ h=>h) (λ_ h=>h) q'.aO q'.lO q.aB lB⟩
  .rw[aa U]at D;obtain⟨w,ew,qq⟩:=st.slot j m D;refine⟨w,ew,?_⟩;cases m with
   |val v=>exact Rep.mono Y _ qq
   |own zs =>
    obtain⟨ad,ws,rfl,q1,q2,q3,q4⟩:=qq;obtain⟨n1,n2⟩:=a3 j _ ad U D rfl ew;exact⟨ad,ws,rfl,kp _ _ n1 n2 q1,Reps.mono Y _ q2,mem _ n2 q3,q4⟩
   |ownD zs =>
    obtain⟨ad,rfl,q1,q3,q4⟩:=qq;obtain⟨n1,n2⟩:=a3 j _ ad U D rfl ew;exact⟨ad,rfl,kp _ _ n1 n2 q1,mem _ n2 q3,q4⟩
   |ownO _ _ _=>cases (st.inn i _ a l e rfl es q.l j _ (KD U) D).1
   |brw zs=>obtain⟨ad,ws,rfl,q1,q2⟩:=qq;exact⟨ad,ws,rfl,q1,Reps.mono Y _ q2⟩
   |brwD zs=>exact qq
   |brwO gs zs=>obtain⟨ad,rfl,q1⟩:=qq;exact⟨ad,rfl,q1.move (af.refl B) Y⟩
 .have h1:∀(j:Nat) (zs:MV),(put G i (.ownO b fs ys))[j]?=some (some zs)->eR zs=true->∃zs,G[j]?=some (some zs)/\eR zs=true:=λj zs q oz=>by
   by_cases U:i=j
   .subst U;exact⟨_,e,rfl⟩
   .rw[aa U]at q;exact⟨zs,q,oz⟩
  obtain⟨q1,e1,p1⟩:=h1 c ps e1 p1;obtain⟨q2,e2,p2⟩:=h1 d qs e2 p2;exact st.apart c d q1 q2 ad a6 e1 e2 p1 p2 e3 e4
 .have hk:i=k:=by
   cases Nat.decEq i k with
   |isTrue z=>exact z
   |isFalse z =>
    rw[aa z]at e1;rw[(st.inn i _ a l e rfl es q.l k _ (KD z) e1).1]at l0;cases l0
  subst hk;rw[es]at e2;cases e2;rw[q'.l]at e3;cases e3;rw[aa (KD ao)]at D;refine⟨(st.inn i _ a l e rfl es q.l j m ao D).1,λc o J z=>?_⟩;rcases hl with w|w
  .exact(st.inn i _ a l e rfl es q.l j m ao D).2 c o J (by rw[z,w])
  .exact kK st D o J (by rw[z,w])
 .rcases pe.mp hc with rfl|hc
  .exact .inr lB
  .exact .inl (J9.mp hc).1
 .have U:i≠j:=λz=>by subst z;rw[ac Z]at D;cases D;cases a7
  rw[aa U]at D;exact⟨D,rfl⟩
 .by_cases U:i=j
  .subst U;rw[ac Z]at D;cases D;exact⟨⟨xs,e⟩,rfl⟩
  .rw[aa U]at D;exact⟨⟨zs,D⟩,rfl⟩
def aX.storeO(st:aX K B E O H G σ){i:Nat}{fs:List PV}{a l:Addr}(hi:i<σ.length)(hn:yK G i=true)(s:af H H')(ha:H a=none)(hl:H l=none)(q:dH K (λ_=>none) (a::l::O) H' fs [] a l) :
  aX K B E (a::l::O) H' (put G i (.ownO false fs [])) (σ.set i (some (.ref a)))/\cj B O (a::l::O) G (put G i (.ownO false fs [])) σ (σ.set i (some (.ref a))):=by
 have ar:i<G.length:=by rw[st.len];exact hi
 have inO:∀b∈O,b∈a::l::O:=λb h=>.tail _ (.tail _ h)
 have free:∀b∈a::l::O,b∈O\/H b=none:=λb h=>by
  rcases pe.mp h with rfl|h
  .exact .inr ha
  .rcases pe.mp h with rfl|h
   .exact .inr hl
   .exact .inl h
 have Y:af (aj H O) (aj H' (a::l::O)):=bi s free;refine⟨⟨st.keep.trans s,λb h=>?_,λb h=>inO b (st.sub b h),st.old,by rw[put_len,L4];exact st.len,λj m D=>?_,λc d xs ys ad aL Z J o1 o2 e3 e4=>?_,λk m0 a2 l2 Z l0 J e3 j m a0 D=>?_⟩,⟨λ_ _ h=>inO _ h,λb h=>(free b h).imp id st.keep.free,λj xs a5 D=>?_,put_len,λj gs zs D=>?_⟩⟩
 .rcases pe.mp h with rfl|h
  .obtain⟨C,dx,gs,h1,_⟩:=q.ob;rw[h1];simp
  .rcases pe.mp h with rfl|h
   .obtain⟨us,h1,_⟩:=q.li;rw[h1];simp
   .exact λz=>st.here b h (s.free z)
 .by_cases U:i=j
  .subst U;rw[ac ar]at D;cases D;exact⟨_,Kq hi,a,l,rfl,q.move (af.refl _) (λ_ h=>h) (λ_ h=>h) q.aO q.lO (st.keep.free ha) (st.keep.free hl)⟩
  .rw[aa U]at D;obtain⟨w,Z,qq⟩:=st.slot j m D;refine⟨w,by rw[x3 U];exact Z,?_⟩;cases m with
   |val v=>exact Rep.mono Y _ qq
   |own ys=>obtain⟨a,ws,J,h1,h2,h3,h4⟩:=qq;exact⟨a,ws,J,s _ _ h1,Reps.mono Y _ h2,inO _ h3,h4⟩
   |brw ys=>obtain⟨a,ws,J,h1,h2⟩:=qq;exact⟨a,ws,J,h1,Reps.mono Y _ h2⟩
   |ownD ys=>obtain⟨a,J,h1,h3,h4⟩:=qq;exact⟨a,J,s _ _ h1,inO _ h3,h4⟩
   |ownO _ _ _=>cases zv hn U D
   |brwD ys=>exact qq
   |brwO gs zs=>obtain⟨ad,J,q1⟩:=qq;exact⟨ad,J,q1.move (af.refl B) Y⟩
 .by_cases hc:i=c
  .subst hc;rw[Kq hi]at e3;cases e3;rw[aa aL]at J;rw[x3 aL]at e4;exact kK st J o2 e4 ha
  .by_cases hd:i=d
   .subst hd;rw[Kq hi]at e4;cases e4;rw[aa hc]at Z;rw[x3 hc]at e3;exact kK st Z o1 e3 ha
   .rw[aa hc]at Z;rw[aa hd]at J;rw[x3 hc]at e3;rw[x3 hd]at e4;exact st.apart c d _ _ ad aL Z J o1 o2 e3 e4
 .have hk:i=k:=by
   cases Nat.decEq i k with
   |isTrue z=>exact z
   |isFalse z =>
    rw[aa z]at Z;rw[zv hn z Z]at l0;cases l0
  subst hk;rw[Kq hi]at J;cases J;rw[q.l]at e3;cases e3;rw[aa (KD a0)]at D;refine⟨zv hn (KD a0) D,λc o ec z=>?_⟩;rw[x3 (KD a0)]at ec;exact kK st D o ec (by rw[z,hl])
 .have U:i≠j:=λz=>by subst z;rw[ac ar]at D;cases D;cases a5
  rw[aa U]at D;exact⟨D,x3 U⟩
 .have U:i≠j:=λz=>by subst z;rw[ac ar]at D;cases D
  rw[aa U]at D;exact⟨⟨zs,D⟩,x3 U⟩
def BY{F:Hp}{v:PV}{s:Sc}{u:V}(h:sc? v=some s)(r:Rep K F v u):u=s.v:=by
 cases v<;>first|(cases h;done)|(cases h;rw[Rep]at r;exact r)
end
section
variable{X:Cx}{T:Tab}{k:Nat}{cal:Cal}
def FC{me:ME}{v:Expr}{pos:Pos}(h:PE X v (tE X.K cal me))(z:bb me=false):PS X (.Return (some v) pos) (tS X.K cal (.retT me)):=by
 refine(gU h).imp λD σ H q=>?_
 obtain⟨B,E,O,G,st,q⟩:=q;rw[ex]at q;obtain⟨w,e,q⟩:=cW q;refine⟨B,E,O,G,w,st,e,λu H' s g=>?_⟩;cases es:sc? w with
 |none=>rw[es]at q;exact(show False from q).elim
 |some sv =>
  rw[es]at q;rw[BY es (g.2 z)];exact q σ H' O (st.mono s) .refl
def FD{i:Nat}{me:ME}{x:Str}{v:Expr}{p fp apos cpos pos:Pos}(g:Gf X T k cal)(h:PE X v (tE X.K cal me))(hn:aE X.N X.env.scope i x=true)(hb:bb me=false)(hs:aG v=true)(U:(apos.endLine==cpos.line)=true) :
  PS X (.Expr (.Call (.Attribute (.Attribute (.Name x p) "taken" fp) "append" apos) [v] [] cpos) pos) (tS X.K cal (.appO i me)):=by
 refine(d9 (vb PySem.F.plainAttrs_list PySem.F.slot_list_append PySem.F.type_list_append iY (ue hn) (aH h bO (cu hs _ _)) rfl (by rw[cu hs];rfl) U (cu hs _ _) rfl) rfl).imp λD σ H q=>?_
 obtain⟨B,E,O,G,st,q⟩:=q;rw[ex]at q;obtain⟨w,e,q⟩:=cW q;cases hj:(G[i]?).join with
 |none=>rw[hj]at q;exact(show False from q).elim
 |some m =>
  rw[hj]at q;cases m with
  |ownO b fs xs =>
   dsimp only at q;split at q
   .rename_i hl;obtain⟨u,eu,a,l,rfl,J⟩:=bX st hj;obtain⟨C,dx,gs,h1,h2⟩:=J.ob;obtain⟨us,h3,h4⟩:=J.li;obtain⟨c1,_,c2⟩:=g.cls C h2.cls;refine⟨_,eu,a,C,dx,gs,.ref l,rfl,h1,c1,c2,h2.lst,.inl ⟨rfl,us,SqL.of h3⟩,B,E,O,G,w,st,e,λu H1 s g1=>⟨l,us,u,rfl,rfl,s _ _ h3,?_,?_⟩⟩
    .rw[<- h4.length];exact wh hl (by decide)
    .have aL:=st.mono s;have q1:=J.move (ak s) (λ_=>s _ _) (λ_=>s _ _) J.aO J.lO J.aB J.lB;have Z:af (aj H1 O) (aj (upd H1 l (.lst (us++[u]))) (l::O.filter λb=>decide (b≠l))):=λc o Y=>by
      have hc:c∉O:=λz=>by rw[ez z]at Y;cases Y
      rw[a9 hc]at Y;have hn:c∉l::O.filter λb=>decide (b≠l):=λz=>by
       rcases pe.mp z with z|z
       .exact hc (z▸J.lO)
       .exact hc (J9.mp z).1
      have a0:c≠l:=λz=>hc (z▸J.lO)
      rw[a9 hn,az a0];exact Y
     obtain⟨a1,k'⟩:=aL.changeO (ys:=xs++[w]) (l':=l) (H':=upd H1 l (.lst (us++[u]))) (join_some hj) eu q1 (λc o _ n2 Y=>by rw[az n2];exact Y) (.inl rfl)
      ⟨⟨C,dx,gs,by rw[az J.ne];exact s _ _ h1,(h2.mono (ak s)).mono Z⟩,⟨_,aA,Reps.mono Z _ ((Reps.mono (ak s) _ h4).snoc (g1.2 hb))⟩,Kk _ (J9.mpr ⟨J.aO,Ka J.ne⟩),Kz,rfl,rfl,J.ne⟩
     exact q _ _ _ a1 k'
   .exact(show False from q).elim
  | _=>exact(show False from q).elim
def zw {c r o:V}{l:Addr}:(rX c r o l).lookup ("hole_count":Str)=some c/\(rX c r o l).lookup ("ribbons":Str)=some r/\(rX c r o l).lookup ("opener":Str)=some o/\(rX c r o l).lookup ("taken":Str)=some (.ref l)/\∀m∈pC,(rX c r o l).lookup m=none:=by
 unfold rX;refine⟨?_,?_,?_,?_,λm hm=>?_⟩
 .rw[aU,if_neg (by decide +kernel),aU,if_neg (by decide +kernel),aU,if_neg (by decide +kernel),aU,if_pos rfl]
 .rw[aU,if_neg (by decide +kernel),aU,if_neg (by decide +kernel),aU,if_pos rfl]
 .rw[aU,if_neg (by decide +kernel),aU,if_pos rfl]
 .rw[aU,if_pos rfl]
 .have ne:∀x∈(["taken","opener","ribbons","hole_count"]:List Str),m≠x:=λx hx z=>by
   subst z;exact absurd hx (by revert m;decide +kernel)
  rw[aU,if_neg (ne _ (by simp)),aU,if_neg (ne _ (by simp)),aU,if_neg (ne _ (by simp)),aU,if_neg (ne _ (by simp))]
  rfl
def vK {vs fs:List PV} (h:wI vs=some fs):∃c r o,(vs=[.tup [c,r],o]\/vs=[.tup [c,r]]/\o=.str "weaver")/\fs=[c,r,o]:=by
 unfold wI at h;split at h
 .cases h;exact⟨_,_,_,.inl rfl,rfl⟩
 .cases h;exact⟨_,_,_,.inr ⟨rfl,rfl⟩,rfl⟩
 .cases h
def zx{K:M5}{B H H1:Hp}{E O:List Addr}{G:Rho}{σ:St}{D:jq}{i:Nat}{c r o:PV}{C a dx la:Addr}{ts:List V}{Z:V}(hi:i<σ.length)(hC:IsC K C)(hn:yK G i=true)(st:aX K B E O H G σ)(s1:af H H1)(q:gL K B E O G σ D (.next (put G i (.ownO false [c,r,o] []))))
  (ht:aj H1 O la=some (.tup ts)) (rt:Reps K (aj H1 O) [c,r] ts) (ro:Rep K (aj H1 O) o Z) (na:H1 a=none) (nd:H1 dx=none):spI K C [.ref a,.ref la,Z] (upd (upd H1 dx (.own a)) a (.ins C dx [])) (λv H2=>v=.non/\D.nx (σ.set i (some (.ref a))) H2) E0:=by
 rw[Reps]at rt;obtain⟨uc,r3,rfl,rc,rt⟩:=rt;rw[Reps]at rt;obtain⟨ur,r4,rfl,rr,rt⟩:=rt;rw[Reps]at rt;subst rt;have s2:af H1 (upd (upd H1 dx (.own a)) a (.ins C dx [])):=λb u eb=>by rw[az (bp eb na),az (bp eb nd)];exact eb
 refine⟨a,dx,la,uc,ur,Z,rfl,aA,s2.seqT (SqT.of (be H1 O _ _ ht)),λl H' nl ea el kp=>⟨rfl,?_⟩⟩;have a4:a≠l:=λz=>by rw[<- z,aA]at nl;cases nl
 have ar:H1 l=none:=s2.free nl;have s3:af H1 H':=λb u eb=>kp b u (bp eb na) (s2 b u eb)
 have U:af (aj H1 O) (aj H' (a::l::O)):=bi s3 λb h=>by
  rcases pe.mp h with rfl|h
  .exact .inr na
  .rcases pe.mp h with rfl|h
   .exact .inr ar
   .exact .inl h
 obtain⟨f1,f2,f3,f4,f5⟩:=zw (c:=uc) (r:=ur) (o:=Z) (l:=l);have hf:∀(n:Nat) (x:Str) (v:PV),jA[n]?=some x->([c,r,o]:List PV)[n]?=some v->∃u,(rX uc ur Z l).lookup x=some u/\Rep K (aj H' (a::l::O)) v u:=λn x v Y J=>by
  match n,Y,J with
  |0,Y,J=>cases Y;cases J;exact⟨uc,f1,Rep.mono U _ rc⟩
  |1,Y,J=>cases Y;cases J;exact⟨ur,f2,Rep.mono U _ rr⟩
  |2,Y,J=>cases Y;cases J;exact⟨Z,f3,Rep.mono U _ ro⟩
 obtain⟨a5,k'⟩:=st.storeO (fs:=[c,r,o]) hi hn (s1.trans s3) (s1.free na) (s1.free ar) ⟨⟨C,dx,_,ea,hC,hf,f4,f5⟩,⟨[],el,.nil⟩,Kz,Kk _ Kz,rfl,rfl,a4⟩;exact q _ _ _ a5 k'
def HY {i:Nat}{ms:List ME}{e:Expr}{es:List Expr}{x:Str}{px p cp pos:Pos} (g:Gf X T k cal) (d:Df X) (hi:X.N[i]?=some x) (hx:Loc X.env.scope x) (hg:glB X.env.scope ("Table":Str)=true) (ha:PA X (e::es) (tEs X.K cal ms)) (hb:(ms.all λm=>!bb m)=true) (Z:(e::es).all aG=true) (ao:ms.length=(e::es).length) :
  PS X (.Assign [.Name x px] (.Call (.Name ("Table":Str) p) (e::es) [] cp) pos) (tS X.K cal (.mkO i ms)):=by
 by_cases hL:cal 4000 []≠none
 .obtain⟨C,hC,hm,fa,fd,ps,M,aL,F,dv,a0,a1⟩:=g.ini hL;simp only[all_cons,ow]at Z;cases es with
  |nil =>
   refine PS.imp' (jt d.nd hi hx (p_ M F (g.lvl hL) (eS hg) hm a0 a1 eW ha (by decide) (cu Z.1 _ _) (cg Z.2)) (aK (v:=.Call (.Name ("Table":Str) p) [e] [] cp) rfl _ _ _) (.inl (d.fn x))) λD σ H hl q=>?_
   obtain⟨B,E,O,G,st,q⟩:=q;rw[ex]at q;cases J:(evs cal ms G).bind wI with
   |none=>rw[J]at q;exact(show False from q).elim
   |some fs =>
    rw[J]at q;dsimp only at q;split at q
    .rename_i c0;rw[ll]at J;obtain⟨vs,e1,e2⟩:=J;obtain⟨c,r,o,hv,rfl⟩:=vK e2;have Y:=kI e1;rcases hv with rfl|⟨rfl,rfl⟩
     .rw[ao]at Y;simp at Y
     .refine⟨B,E,O,G,_,st,e1,λus H1 s1 g1 a dx na nd ne=>?_⟩;have U:=g1.2 hb;rw[Reps]at U;obtain⟨ut,r1,rfl,rt,U⟩:=U;rw[Reps]at U;subst U;rw[Rep]at rt;obtain⟨la,ts,rfl,ht,rt⟩:=rt;exact zx (ltN hi hl) hC c0.1 st s1 q ht rt (by rw[Rep]) na nd
    .exact(show False from q).elim
  |cons e' es =>
   refine PS.imp' (jt d.nd hi hx (p_ M F (g.lvl hL) (eS hg) hm aL .nil eW ha (by decide) (cu Z.1 _ _) (cg (by simpa using Z.2))) (aK (v:=.Call (.Name ("Table":Str) p) (e::e'::es) [] cp) rfl _ _ _) (.inl (d.fn x))) λD σ H hl q=>?_
   obtain⟨B,E,O,G,st,q⟩:=q;rw[ex]at q;cases J:(evs cal ms G).bind wI with
   |none=>rw[J]at q;exact(show False from q).elim
   |some fs =>
    rw[J]at q;dsimp only at q;split at q
    .rename_i c0;rw[ll]at J;obtain⟨vs,e1,e2⟩:=J;obtain⟨c,r,o,hv,rfl⟩:=vK e2;have Y:=kI e1;rcases hv with rfl|⟨rfl,rfl⟩
     .refine⟨B,E,O,G,_,st,e1,λus H1 s1 g1 a dx na nd ne=>?_⟩;have U:=g1.2 hb;rw[Reps]at U;obtain⟨ut,r1,rfl,rt,U⟩:=U;rw[Reps]at U;obtain⟨uo,r2,rfl,ro,U⟩:=U;rw[Reps]at U;subst U;rw[Rep]at rt;obtain⟨la,ts,rfl,ht,rt⟩:=rt;exact zx (ltN hi hl) hC c0.1 st s1 q ht rt ro na nd
     .rw[ao]at Y;simp at Y
    .exact(show False from q).elim
 .exact λpins s σ H D I q=>by
   obtain⟨B,E,O,G,st,q⟩:=q;rw[ex]at q;cases J:(evs cal ms G).bind wI with
   |none=>rw[J]at q;exact(show False from q).elim
   |some fs =>
    rw[J]at q;dsimp only at q;rw[if_neg λz=>hL z.2]at q;exact(show False from q).elim
end
section
variable{K:M5}{B H:Hp}{E O:List Addr}{G:Rho}{σ:St}
def HZ(D:aX K (bZ B O H1 L) E O' H' A J)(k:cj (bZ B O H1 L) O O' G A σ J):af (aj H1 O) (aj H' O'):=λb u e=>by
 have Y:b∉O:=λz=>by rw[ez z]at e;exact bc e
 have U:bZ B O H1 L b=some u:=cz b u e;rw[a9]
 .exact D.keep b u U
 .intro z;rcases k.new b z with q|q
  .exact Y q
  .rw[U]at q;cases q
def BZ{ms:List ME}(st:aX K B E O H G σ):aX K (bZ B O H (bh ms G σ)) E O H (br ms G) σ/\(br ms G).length=G.length:=by
 have base:∀L:List Addr,(∀a∈L,∀(j:Nat) (ys:MV),(br ms G)[j]?=some (some ys)->eR ys=true->σ[j]?≠some (some (.ref a)))->(∀(j:Nat) (m:MV),(br ms G)[j]?=some (some m)->(∃ys,m=.brw ys/\G[j]?=some (some (.own ys))/\∃a,σ[j]?=some (some (.ref a))/\a∈L)\/G[j]?=some (some m))->(br ms G).length=G.length ->
   (∀a∈L,∀(j:Nat) (m1:MV) (c l:Addr),G[j]?=some (some m1)->isL m1=true->σ[j]?=some (some (.ref c))->lOf (H c)=some l->a≠l) ->
   aX K (bZ B O H L) E O H (br ms G) σ:=λL h1 h2 h3 h4=>by
  have gl:=sg (O:=O) (L:=L) st.keep;have lg:=dN (O:=O) (L:=L) st.keep;refine⟨gl,st.here,st.sub,λa ha z=>st.old a ha (lg.free z),h3.trans st.len,λj m e=>?_,λc d ps qs ad a3 Z U p1 p2 e3 e4=>?_
   ,fC st.inn (λj mo e l0=>by
    rcases h2 j _ e with⟨_,z,_⟩|U
    .rw[z]at l0;cases l0
    .exact⟨⟨mo,U,l0⟩,rfl,λ_ _ _ h=>h⟩) λj m c e _ o ec=>.inl (by
    rcases h2 j _ e with⟨_,z,_⟩|U
    .rw[z]at o;cases o
    .exact⟨m,U,o,ec⟩)
   ⟩
  .rcases h2 j m e with⟨ys,rfl,U,a,ea,J⟩|U
   .obtain⟨u,Y,a',us,rfl,q1,q2,q3,q4⟩:=st.slot j _ U;rw[ea]at Y;cases Y;refine⟨_,ea,a,us,rfl,SqL.of ?_,q2⟩;unfold bZ;rw[if_pos q3,if_pos J];exact q1
   .obtain⟨u,Y,q⟩:=st.slot j m U;refine⟨u,Y,?_⟩;cases m with
    |val v=>exact q
    |own ys =>
     obtain⟨a,us,rfl,q1,q2,q3,q4⟩:=q;refine⟨a,us,rfl,q1,q2,q3,?_⟩;unfold bZ;rw[if_pos q3,if_neg λJ=>h1 a J j (.own ys) e rfl Y];exact q4
    |ownD ys =>
     obtain⟨a,rfl,q1,q3,q4⟩:=q;refine⟨a,rfl,q1,q3,?_⟩;unfold bZ;rw[if_pos q3,if_neg λJ=>h1 a J j (.ownD ys) e rfl Y];exact q4
    |ownO b fs ys =>
     obtain⟨a,l,rfl,q⟩:=q;refine⟨a,l,rfl,q.move (af.refl _) (λ_ h=>h) (λ_ h=>h) q.aO q.lO ?_ ?_⟩
     .unfold bZ;rw[if_pos q.aO,if_neg λJ=>h1 a J j (.ownO b fs ys) e rfl Y];exact q.aB
     .unfold bZ;rw[if_pos q.lO,if_neg λa5=>h4 l a5 j _ a l U rfl Y q.l rfl];exact q.lB
    |brwO fs ys=>obtain⟨a,rfl,q⟩:=q;exact⟨a,rfl,q.move lg (af.refl _)⟩
    |brwD ys=>obtain⟨a,rfl,q1⟩:=q;exact⟨a,rfl,af.rd lg q1⟩
    |brw ys=>obtain⟨a,us,rfl,q1,q2⟩:=q;exact⟨a,us,rfl,lg.seq q1,q2⟩
  .rcases h2 c _ Z with⟨_,rfl,_⟩|Z
   .cases p1
   .rcases h2 d _ U with⟨_,rfl,_⟩|U
    .cases p2
    .exact st.apart c d ps qs ad a3 Z U p1 p2 e3 e4
 have plain:br ms G=G->bh ms G σ=[]->aX K (bZ B O H (bh ms G σ)) E O H (br ms G) σ/\(br ms G).length=G.length:=λZ U=>by
  rw[U];exact⟨base [] (λa ha=>by simp at ha) (λj m e=>.inr (by rw[Z]at e;exact e)) (by rw[Z]) (λa ha=>by simp at ha),by rw[Z]⟩
 match ms with
 | []=>exact plain rfl rfl
 | [.bor i] =>
  cases D:(G[i]?).join with
  |none=>exact plain (by simp[br,D]) (by simp[bh,D])
  |some m =>
   cases m with
   |val _=>exact plain (by simp[br,D]) (by simp[bh,D])
   |brw _=>exact plain (by simp[br,D]) (by simp[bh,D])
   |ownD _=>exact plain (by simp[br,D]) (by simp[bh,D])
   |ownO _ _ _=>exact plain (by simp[br,D]) (by simp[bh,D])
   |brwO _ _=>exact plain (by simp[br,D]) (by simp[bh,D])
   |brwD _=>exact plain (by simp[br,D]) (by simp[bh,D])
   |own xs =>
    have el:br [.bor i] G=put G i (.brw xs):=by simp[br,D]
    have e0:=join_some D;obtain⟨u,Y,a,us,rfl,q1,q2,q3,q4⟩:=st.slot i _ e0;have eL:bh [.bor i] G σ=[a]:=by simp[bh,D,Y]
    have aL:i<G.length:=(xa.mp e0).1;rw[eL];refine⟨base [a] (λb hb j ys e oy z=>?_) (λj m e=>?_) (by rw[el,put_len]) (λb hb j m1 c l f1 f0 f2 f3=>by
     rw[Kd.mp hb];exact(st.inn j m1 c l f1 f0 f2 f3 i (.own xs) (λz=>by subst z;rw[e0]at f1;cases f1;cases f0) e0).2 a rfl Y),by rw[el,put_len]⟩
    .have:b=a:=by simpa using hb
     subst this;rw[el]at e;have a0:i≠j:=λz=>by subst z;rw[ac aL]at e;cases e;cases oy
     rw[aa a0]at e;exact st.apart i j (.own xs) ys b a0 e0 e rfl oy Y z
    .rw[el]at e;by_cases a1:i=j
     .subst a1;rw[ac aL]at e;cases e;exact .inl ⟨xs,rfl,e0,a,Y,by simp⟩
     .rw[aa a1]at e;exact .inr e
 | .var _::_=>exact plain rfl rfl
 | .cst _::_=>exact plain rfl rfl
 | .glob _ _::_=>exact plain rfl rfl
 | .bin _ _ _::_=>exact plain rfl rfl
 | .neg _::_=>exact plain rfl rfl
 | .not _::_=>exact plain rfl rfl
 | .and _ _::_=>exact plain rfl rfl
 | .or _ _::_=>exact plain rfl rfl
 | .ite _ _ _::_=>exact plain rfl rfl
 | .cmp _ _ _::_=>exact plain rfl rfl
 | .chain _ _ _ _ _::_=>exact plain rfl rfl
 | .tup _::_=>exact plain rfl rfl
 | .lst _::_=>exact plain rfl rfl
 | .idx _ _::_=>exact plain rfl rfl
 | .slice _ _ _::_=>exact plain rfl rfl
 | .blt _ _::_=>exact plain rfl rfl
 | .call _ _::_=>exact plain rfl rfl
 | .callD _ _ _::_=>exact plain rfl rfl
 | .comp _ _ _ _ _::_=>exact plain rfl rfl
 | .dget _ _ _::_=>exact plain rfl rfl
 | .dat _ _::_=>exact plain rfl rfl
 | .dIn _ _ _::_=>exact plain rfl rfl
 | .fld _ _::_=>exact plain rfl rfl
 | .fldL _::_=>exact plain rfl rfl
 | .inO _ _ _::_=>exact plain rfl rfl
 | .callM _ _ _::_=>exact plain rfl rfl
 | .comp2 _ _ _ _::_=>exact plain rfl rfl
 | .callV _ _::_=>exact plain rfl rfl
 | .bor _::_::_=>exact plain rfl rfl
def kL(h:(br ms G)[j]?=some (some (.brw ys))):G[j]?=some (some (.brw ys))\/(ms=[.bor j]/\G[j]?=some (some (.own ys))):=by
 unfold br at h;split at h
 .rename_i i;split at h
  .rename_i xs D;have J:=join_some D;have z:=(xa.mp J).1;by_cases q:i=j
   .subst q;rw[ac z]at h
    simp_all
   .rw[aa q]at h;exact .inl h
  .exact .inl h
 .exact .inl h
def lE{j:Nat}(h:(br ms G)[j]?=some (some (.brwD ys))):G[j]?=some (some (.brwD ys)):=by
 unfold br at h;split at h
 .rename_i i;split at h
  .rename_i xs D;have J:=join_some D;have z:=(xa.mp J).1;by_cases q:i=j
   .subst q;rw[ac z]at h;cases h
   .rw[aa q]at h;exact h
  .exact h
 .exact h
def i7{ms:List ME}{j:Nat}{m:MV}(D:∀xs,m≠.brw xs)(h:(br ms G)[j]?=some (some m)):G[j]?=some (some m):=by
 unfold br at h;split at h
 .rename_i i;split at h
  .rename_i xs J;have U:=join_some J;have z:i<G.length:=(xa.mp U).1;by_cases q:i=j
   .subst q;rw[ac z]at h;cases h;exact absurd rfl (D xs)
   .rw[aa q]at h;exact h
  .exact h
 .exact h
def nW :(br ms G).length=G.length:=by
 unfold br;split
 .split
  .exact put_len
  .rfl
 .rfl
def qH{ms:List ME}{H1 H':Hp}{O':List Addr}{A:Rho}{ao:St}(st:aX K B E O H1 G σ)(D:aX K (bZ B O H1 (bh ms G σ)) E O' H' A ao)(k:cj (bZ B O H1 (bh ms G σ)) O O' (br ms G) A σ ao) :
  aX K B E O' H' (aS ms G A) ao/\cj B O O' G (aS ms G A) σ ao:=by
 have lg:=dN (O:=O) (L:=bh ms G σ) st.keep;have a5:=HZ D k;have stay:∀a,B a≠none->a∈O->a∈O':=λa h1 h2=>k.stay a (λz=>h1 (lg.free z)) h2
 have new:∀a∈O',a∈O\/B a=none:=λa h=>(k.new a h).imp id lg.free
 have mutO:∀(j:Nat) (fs xs:List PV),A[j]?=some (some (.ownO true fs xs))->(∃ys,G[j]?=some (some (.ownO true fs ys)))/\ao[j]?=σ[j]?:=λj fs xs e=>by
  obtain⟨⟨d,Z⟩,J⟩:=k.mutO j fs xs e;exact⟨⟨d,i7 (λ_ z=>by cases z) Z⟩,J⟩
 have slot:∀(j:Nat) (m:MV),A[j]?=some (some m)->(∀ys,m=.brw ys->¬ (ms=[.bor j]/\G[j]?=some (some (.own ys))))->∃u,ao[j]?=some (some u)/\eQ K B O' H' m u:=λj m e hn=>by
  obtain⟨u,eu,q⟩:=D.slot j m e;refine⟨u,eu,?_⟩;cases m with
  |val v=>exact q
  |own ys=>obtain⟨a,us,rfl,q1,q2,q3,q4⟩:=q;exact⟨a,us,rfl,q1,q2,q3,lg.free q4⟩
  |brw ys =>
   obtain⟨Z,J⟩:=k.brw j (.brw ys) rfl e;rcases kL Z with Y|Y
   .obtain⟨w,ew,a,us,rfl,q1,q2⟩:=st.slot j _ Y;rw[eu,ew]at J;cases J;exact⟨a,us,rfl,q1,Reps.mono a5 _ q2⟩
   .exact absurd Y (hn ys rfl)
  |ownD ys=>obtain⟨a,rfl,q1,q3,q4⟩:=q;exact⟨a,rfl,q1,q3,lg.free q4⟩
  |ownO b fs ys=>obtain⟨a,l,rfl,q⟩:=q;exact⟨a,l,rfl,q.move (af.refl _) (λ_ h=>h) (λ_ h=>h) q.aO q.lO (lg.free q.aB) (lg.free q.lB)⟩
  |brwO fs ys =>
   obtain⟨Z,J⟩:=k.brw j (.brwO fs ys) rfl e;obtain⟨w,ew,a,rfl,q1⟩:=st.slot j _ (i7 (λ_ z=>by cases z) Z);rw[eu,ew]at J;cases J;exact⟨a,rfl,q1.move (af.refl B) a5⟩
  |brwD ys =>
   obtain⟨Z,J⟩:=k.brw j (.brwD ys) rfl e;obtain⟨w,ew,a,rfl,q1⟩:=st.slot j _ (lE Z);rw[eu,ew]at J;cases J;exact⟨a,rfl,q1⟩
 by_cases hA:∃i a0 xs,ms=[.bor i]/\(G[i]?).join=some (.own a0)/\(A[i]?).join=some (.brw xs)
 .obtain⟨i,a0,xs,rfl,h0,h1⟩:=hA;have eb:aS [.bor i] G A=put A i (.own xs):=by simp[aS,h0,h1]
  rw[eb];have e0:=join_some h0;have Z:=join_some h1;have a3:i<A.length:=(xa.mp Z).1;obtain⟨el,es⟩:=k.brw i (.brw xs) rfl Z;have exs:xs=a0:=by
   rcases kL el with Y|⟨_,Y⟩
   .rw[e0]at Y;cases Y
   .rw[e0]at Y;cases Y;rfl
  subst exs;obtain⟨w,ew,a,us,rfl,q1,q2,q3,q4⟩:=st.slot i _ e0;have eL:bh [.bor i] G σ=[a]:=by simp[bh,h0,ew]
  have ga:bZ B O H1 (bh [.bor i] G σ) a=some (.lst us):=by
   unfold bZ;rw[eL,if_pos q3,if_pos (by simp)];exact q1
  have a1:∀(j:Nat) (ys:MV) (ad:Addr),A[j]?=some (some ys)->eR ys=true->ao[j]?=some (some (.ref ad))->ad≠a:=λj ys ad h1 oy h2 z=>by
   obtain⟨u,eu,qq⟩:=D.slot j _ h1;rw[h2]at eu;cases eu;cases ys with
   |own ys =>
    obtain⟨b,_,J,_,_,_,q⟩:=qq;cases J;rw[z,ga]at q;cases q
   |ownD ys =>
    obtain⟨b,J,_,_,q⟩:=qq;cases J;rw[z,ga]at q;cases q
   |ownO _ _ _ =>
    obtain⟨b,l,J,q⟩:=qq;cases J;have q:=q.aB;rw[z,ga]at q;cases q
   |brwO _ _=>cases oy
   |val _=>cases oy
   |brw _=>cases oy
   |brwD _=>cases oy
  refine⟨⟨lg.trans D.keep,D.here,D.sub,st.old,by rw[put_len];exact D.len,λj m e=>?_,λc d ps qs ad bK Z J p1 p2 Y e4=>?_
   ,fC D.inn (λj mo e l0=>by
    have hj:i≠j:=λz=>by subst z;rw[ac a3]at e;cases e;cases l0
    rw[aa hj]at e;exact⟨⟨mo,e,l0⟩,rfl,λ_ _ _ h=>h⟩) λj m c e _ o ec=>by
    by_cases hj:i=j
    .subst hj;rw[es,ew]at ec;cases ec;refine .inr λk' m1 a' l' f1 f0 f2 f3 z=>?_
     obtain⟨u,Y,q⟩:=D.slot k' _ f1;rw[f2]at Y;cases Y;cases m1<;>try (cases f0;done)
     obtain⟨a2,l2,e4,q⟩:=q;cases e4;have e6:=q.l;rw[e6]at f3;cases f3;have:=q.lB;rw[<- z,ga]at this;cases this
    .rw[aa hj]at e;exact .inl ⟨m,e,o,ec⟩
   ⟩,⟨stay,new,λj ys U e=>?_,by rw[put_len];exact k.len.trans nW
   ,λj fs xs e=>by
    have hj:i≠j:=λz=>by subst z;rw[ac a3]at e;cases e
    rw[aa hj]at e;exact mutO j fs xs e
   ⟩⟩
  .by_cases ar:i=j
   .subst ar;rw[ac a3]at e;cases e;refine⟨_,by rw[es];exact ew,a,us,rfl,D.keep _ _ ga,Reps.mono a5 _ q2,k.stay a (by rw[ga];simp) q3,q4⟩
   .rw[aa ar]at e;exact slot j m e λys _ ⟨z,_⟩=>ar (by cases z;rfl)
  .by_cases hc:i=c
   .subst hc;rw[es,ew]at Y;cases Y;rw[aa bK]at J;exact a1 d qs _ J p2 e4 rfl
   .rw[aa hc]at Z;by_cases hd:i=d
    .subst hd;rw[es,ew]at e4;cases e4;exact a1 c ps _ Z p1 Y rfl
    .rw[aa hd]at J;exact D.apart c d ps qs ad bK Z J p1 p2 Y e4
  .by_cases ar:i=j
   .subst ar;rw[ac a3]at e;cases e;cases U
   .rw[aa ar]at e;obtain⟨Z,J⟩:=k.brw j ys U e;cases ys with
    |brw ys =>
     rcases kL Z with Y|⟨z,_⟩
     .exact⟨Y,J⟩
     .cases z;exact absurd rfl ar
    |brwD ys=>exact⟨lE Z,J⟩
    |val _=>cases U
    |own _=>cases U
    |ownD _=>cases U
    |ownO _ _ _=>cases U
    |brwO fs ys=>exact⟨i7 (λ_ z=>by cases z) Z,J⟩
 .have eb:aS ms G A=A:=by
   unfold aS;split
   .rename_i i;split
    .rename_i a0 xs h0 h1;exact absurd ⟨i,a0,xs,rfl,h0,h1⟩ hA
    .rfl
   .rfl
  rw[eb];have no:∀(j:Nat) (ys:List PV),A[j]?=some (some (.brw ys))->¬ (ms=[.bor j]/\G[j]?=some (some (.own ys))):=λj ys e ⟨h1,h2⟩=>hA ⟨j,ys,ys,h1,by rw[h2];rfl,by rw[e];rfl⟩
  refine⟨⟨lg.trans D.keep,D.here,D.sub,st.old,D.len,λj m e=>slot j m e λys z=>no j ys (by rw[e,z]),D.apart
   ,D.inn
   ⟩,⟨stay,new,λj ys U e=>?_,k.len.trans nW
   ,mutO
   ⟩⟩
  obtain⟨Z,J⟩:=k.brw j ys U e;cases ys with
  |brw ys =>
   rcases kL Z with Y|Y
   .exact⟨Y,J⟩
   .exact absurd Y (no j ys e)
  |brwD ys=>exact⟨lE Z,J⟩
  |val _=>cases U
  |own _=>cases U
  |ownD _=>cases U
  |ownO _ _ _=>cases U
  |brwO fs ys=>exact⟨i7 (λ_ z=>by cases z) Z,J⟩
end
section
variable{X:Cx}{T:Tab}{k:Nat}{cal:Cal}
def B0(K:M5)(n:Nat)(g:TG)(tk:PV->Rho->Option Rho):Prop:=
 ∀B E O H G A σ x u (Q:St->Hp->Prop),σ.length=n->aX K B E O H G σ->Rep K (aj H O) x u->tk x G=some A ->
  (∀q,aX K B E O H A q->cj B O O G A σ q->Q q H)->g u σ H Q
def zy{K:M5}{n:Nat}{ms:List ME}{g:TG}{tk:PV->Rho->Option Rho}{body:List MS}{D:jq}{σ:St}{H1:Hp}{J:It}(hn:σ.length=n)(hg:B0 K n g tk){B:Hp}{E O:List Addr}{G:Rho}{xs:List PV}(Y:aX K B E O H1 G σ)(it:qA K J xs (aj H1 O) (bZ B O H1 (bh ms G σ)))
  (q:gL K B E O G σ D ((aQ (λx A=>dG (tk x A) λU=>exs cal body U) xs (br ms G)).back ms G)):wb (λ_ _ R=>R J H1) g (tSs K cal body) D σ H1:=by
 obtain⟨bS,_⟩:=BZ (ms:=ms) Y;refine⟨λi m ar H'=>m=xs.length-i/\i<=xs.length/\∃A O',aX K (bZ B O H1 (bh ms G σ)) E O' H' A ar/\cj (bZ B O H1 (bh ms G σ)) O O' (br ms G) A σ ar /\
  aQ (λx A=>dG (tk x A) λU=>exs cal body U) (xs.drop i) A=aQ (λx A=>dG (tk x A) λU=>exs cal body U) xs (br ms G),⟨xs.length,by simp,Ki _,br ms G,O,bS,.refl,by simp⟩,?_⟩
 rintro i m ar H' ⟨rfl,hi,A,O',Z,k',eq⟩;by_cases a3:i<xs.length
 .right;have ex:xs[i]?=some xs[i]:=Kc a3;refine⟨it.go i _ H' Z.keep ex,λa4 H2=>∃m',m'<xs.length-i/\(m'=xs.length-(i+1)/\i+1<=xs.length/\∃A O',aX K (bZ B O H1 (bh ms G σ)) E O' H2 A a4/\cj (bZ B O H1 (bh ms G σ)) O O' (br ms G) A σ a4 /\
   aQ (λx A=>dG (tk x A) λU=>exs cal body U) (xs.drop (i+1)) A=aQ (λx A=>dG (tk x A) λU=>exs cal body U) xs (br ms G)),λa4 H2 z=>z,λu H2 y=>?_⟩
  obtain⟨s2,hr⟩:=it.yld i _ H' u H2 Z.keep ex y;have bT:=HZ Z k';have hx:Rep K (aj H2 O') xs[i] u:=hr O' Z.here (bT.trans (ak s2));rw[drop_eq_getElem_cons a3,aQ]at eq;cases et:tk xs[i] A with
  |none =>
   rw[et]at eq;rw[<- eq]at q;exact(show False from q).elim
  |some aL =>
   rw[et,show dG (some aL) (λU=>exs cal body U)=exs cal body aL from rfl]at eq;have bA:ar.length=n:=by rw[<- Z.len,k'.len,nW,Y.len];exact hn
   refine hg _ E O' H2 A aL ar _ u _ bA (Z.mono s2) hx et λa4 b0 k2=>?_
   refine⟨_,E,O',aL,b0,?_⟩;have kk:=k'.trans k2;cases er:exs cal body aL with
   |next a0 =>
    rw[er]at eq;exact λa1 H3 O3 ao k3=>⟨_,by omega,rfl,a3,a0,O3,ao,kk.trans k3,eq⟩
   |cont a0 =>
    rw[er]at eq;exact λa1 H3 O3 ao k3=>⟨_,by omega,rfl,a3,a0,O3,ao,kk.trans k3,eq⟩
   |brk a0 =>
    rw[er]at eq;rw[<- eq]at q;exact λa1 H3 O3 ao k3=>by
     obtain⟨a2,kb⟩:=qH Y ao (kk.trans k3);exact q a1 H3 O3 a2 kb
   |ret v =>
    rw[er]at eq;rw[<- eq]at q;exact λw H3 s3 r=>q w H3 ((dN Y.keep).trans s3) r
   |retT v a0 =>
    rw[er]at eq;rw[<- eq]at q;exact λa1 H3 O3 ao k3=>by
     obtain⟨a2,kb⟩:=qH Y ao (kk.trans k3);exact q a1 H3 O3 a2 kb
   |retF ys =>
    rw[er]at eq;rw[<- eq]at q;exact λp us H3 s3 hp he r=>q p us H3 ((dN Y.keep).trans s3) ((dN Y.keep).free hp) he r
   |bad =>
    rw[er]at eq;rw[<- eq]at q;exact(show False from q).elim
 .left;have ei:i=xs.length:=by omega
  subst ei;rw[drop_length,aQ]at eq;rw[<- eq]at q;obtain⟨a2,kb⟩:=qH Y Z k';exact⟨it.stop H' Z.keep,q ar H' O' a2 kb⟩
def zz{K:M5}(hn:σ.length=n)(U:B0 K n g tk)(st:aX K B E O H G σ)(Y:evs cal ms G=some vs)(Z:bq k' vs=some xs)
  (q:gL K B E O G σ D ((aQ (λx A=>dG (tk x A) λz=>exs cal body z) xs (br ms G)).back ms G)):wb (tW K cal k' ms) g (tSs K cal body) D σ H:=by
 exact⟨B,E,O,G,vs,xs,st,Y,Z,λJ H1 s1 it=>zy hn U (st.mono s1) it q⟩
def B1{K:M5}(hi:i<n):B0 K n (db i) (λx G=>some (put G i (.val x))):=by
 intro B E O H G A σ x u Q hn st r e q;cases e;obtain⟨z,D⟩:=st.store (i:=i) (by simp[*]) r;exact q _ z D
def FE(g:Gf X T k cal)(d:Df X)(hi:X.N[i]?=some x)(hx:Loc X.env.scope x)(hw:PI X (.Name x px) it (tW X.K cal J src))(z:lx it=true)(U:PSs X b (tSs X.K cal body)) :
  PS X (.For (.Name x px) it b [] pos) (tS X.K cal (.for1 i J src body)):=by
 refine PS.imp' (pY d.own g.calm hw (iX d.nd hi hx (.inl (d.fn x))) U (by intro v;cases it<;>first|rfl|(injection z))) λD σ H Y q=>?_
 refine je q λB E O G st q=>?_
 rw[ex]at q;cases e:(evs cal src G).bind (bq J)with
 |none=>rw[e]at q;exact(show False from q).elim
 |some xs =>
  rw[e]at q;simp only[ll]at e;refine ae e λvs Z e2=>?_
  exact zz (tk:=λx G=>some (put G i (.val x))) rfl (B1 (ltN hi Y)) st Z e2 q
end
noncomputable def qI:List Nat->TGs
 | []=>xL
 |i::is=>lX (db i) (qI is)
section
variable{X:Cx}{T:Tab}{k:Nat}{cal:Cal}
theorem nX:∀{is}{q},eD X.N X.env.scope is q=true->(assignEach q X.env).length=is.length/\(assignEach q X.env).findIdx? (·.1)=none
 | [],[],_=>⟨rfl,rfl⟩
 | [],_::_,h=>dy h
 | _::_,[],h=>dy h
 |i::is,e::q,h=>by
  cases e<;>first|(exact dy h;done)|skip
  simp only[qw,ow]at h;rename_i x p;obtain⟨h1,h2⟩:=nX h.2;refine⟨?_,?_⟩
  .show((false,assign (.Name x p) X.env)::assignEach q X.env).length=_;simp[h1]
  .show((false,assign (.Name x p) X.env)::assignEach q X.env).findIdx? (·.1)=none;rw[findIdx?_cons];simp[h2]
theorem pJ(d:Df X):∀{is}{q},eD X.N X.env.scope is q=true->PGs X q (qI is)
 | [],[],_=>pW
 | [],_::_,h=>dy h
 | _::_,[],h=>dy h
 |i::is,e::q,h=>by
  cases e<;>first|(exact dy h;done)|skip
  simp[qw,ow]at h;rename_i x p;exact iA (iX d.nd h.1.1.1 (ip h.1.1.2) (.inl (d.fn x))) (pJ d h.2) rfl
theorem sx:∀{is}{z},eD X.N X.env.scope is z=true->∀i∈is,i<X.N.length
 | [],[],_=>λi hi=>by simp at hi
 | [],_::_,h=>dy h
 | _::_,[],h=>dy h
 |i::is,e::z,h=>λj q=>by
  cases e<;>first|(exact dy h;done)|skip
  simp[qw,ow]at h;rcases pe.mp q with rfl|q
  .exact(xa.mp h.1.1.1).1
  .exact sx h.2 j q
theorem vL{K:M5}:∀{is}{vs}{us}{B}{E O}{H}{G A}{σ}{Q:St->Hp->Prop},(∀i∈is,i<σ.length)->aX K B E O H G σ->Reps K (aj H O) vs us->t5 is vs G=some A ->
  (∀z,aX K B E O H A z->cj B O O G A σ z->Q z H)->qI is us σ H Q
 | [],[],us,_,_,_,_,_,_,_,_,_,st,r,e,q=>by
  subst r;cases e;exact⟨rfl,q _ st .refl⟩
 | [],_::_,_,_,_,_,_,_,_,_,_,_,_,_,e,_=>by cases e
 | _::_,[],_,_,_,_,_,_,_,_,_,_,_,_,e,_=>by injection e
 |i::is,v::vs,us,B,E,O,H,G,A,σ,Q,hi,st,r,e,q=>by
  refine au r λu Y D Z r2=>?_
  subst D;obtain⟨J,k1⟩:=st.store (i:=i) (hi i (.head _)) Z;refine⟨u,Y,rfl,?_⟩;exact vL (λj hj=>by rw[L4];exact hi j (.tail _ hj)) J r2 e λz U k'=>q z U (k1.trans k')
def FF{K:M5}(hi:∀i∈is,i<n):B0 K n (xM K is.length (qI is)) (im is):=by
 intro B E O H G A σ x u Q hn st r e q;cases x with
 |tup vs =>
  refine au r λa us z J D=>?_
  subst z;have U:∀{is}{vs}{G A},t5 is vs G=some A->vs.length=is.length:=by
   intro is
   induction is with
   |nil=>intro vs G A h;cases vs<;>simp[t5]at h ⊢
   |cons i is ih=>intro vs G A h;cases vs<;>simp[t5]at h ⊢;exact ih h
  exact⟨a,us,rfl,(be H O).seqT (eP J),by rw[<- D.length];exact U e,vL (λi h=>by rw[hn];exact hi i h) st D e q⟩
 | _=>exact bc e
def FG(g:Gf X T k cal)(d:Df X)(hi:eD X.N X.env.scope is J=true)(hw:PI X (.Tuple J j Y) it (tW X.K cal U src))(z:lx it=true)(Z:PSs X b (tSs X.K cal body)) :
  PS X (.For (.Tuple J j Y) it b [] pos) (tS X.K cal (.forT is U src body)):=by
 obtain⟨h1,h2⟩:=nX hi;refine PS.imp' (pY d.own g.calm hw (sY g.calm (pJ d hi) h1 h2) Z (by intro v;cases it<;>first|rfl|(simp[lx]at z))) λD σ H hl q=>?_
 refine je q λB E O G st q=>?_
 rw[ex]at q;cases e:(evs cal src G).bind (bq U)with
 |none=>rw[e]at q;exact(show False from q).elim
 |some xs =>
  rw[e]at q;simp only[ll]at e;refine ae e λvs e1 e2=>?_
  exact zz (tk:=im is) hl (FF (sx hi)) st e1 e2 q
def vM(g:Gf X T k cal)(d:Df X)(hi:X.N[i]?=some x)(hx:Loc X.env.scope x)(hc:chk T me X.N X.env.scope v=true)(U:pD X.env.scope x px v me=true):∃t,PS X (.Assign [.Name x px] v pos) (pX t (db i))/\(∀σ H Q,tF X.K cal me σ H Q->t σ H Q)/\jB me=true:=by
 unfold pD at U;rw[ow]at U;obtain⟨U,Z⟩:=U;have hl:=ax U;refine ae hl λc w _=>?_
 obtain rfl:=t6 w;cases me with
 |comp2 _ _ _ _=>exact dy Z
 |comp k' src js cond elt =>
  refine GR (lA hc) λe y py it ifs scope cpos e0 h=>?_
  rw[e0]at U ⊢;simp only[ow,Km]at h;obtain⟨⟨⟨⟨h1,h2⟩,h3⟩,h4⟩,h5⟩:=h;have hw:=nV (tg:=.Name y py) (λz=>by exact dy z) g h2 (λxs Y=>⟨sounds src g Y,cb Y⟩) (λm x hm hx=>match src,hm with|[m'],rfl=>(ay m' g (cU hx).1.1).1);exact⟨_,tR d.nd hi hx (pH h1) g.calm hw.1 (λD J C fp=>ud h3 λc hc=>(ay cond (g.blk y (fE X.N js) scope D J C fp) hc).2) (λD J C fp=>(ay elt (g.blk y (fE X.N js) scope D J C fp) h4).1) (wT d U) (by have:=hw.2;intro v;cases it<;>first|rfl|(injection this)) (.inl (d.fn x)),
   λσ H Q q=>ub.comp_go h5 q,rfl⟩
 | _=>cases (show false=true from hc)
def H0(J:jB me=true){K:M5}(q:tE K cal me σ H Q):tF K cal me σ H Q:=by
 obtain⟨B,E,O,G,v,st,z,q⟩:=q;have D:∃xs,v=.lst xs:=by
  cases me with
  |lst es =>
   rw[ev,ll]at z;obtain⟨vs,_,D⟩:=z;split at D
   .cases D;exact⟨_,rfl⟩
   .exact bc D
  |comp _ _ _ _ _=>exact su G v z
  |blt b es=>cases b<;>first|exact eZ (.inl rfl) G v z|exact eZ (.inr (.inl rfl)) G v z|exact eZ (.inr (.inr (.inl rfl))) G v z|exact eZ (.inr (.inr (.inr (.inl rfl)))) G v z|exact eZ (.inr (.inr (.inr (.inr rfl)))) G v z|(simp[jB]at J)
  | _=>injection J
 obtain⟨xs,rfl⟩:=D;exact⟨B,E,O,G,xs,st,z,λp us H' s U Y r=>q _ _ s (vG st.here U Y r)⟩
end
section
variable{T:Tab}{N:List Str}{sc:Scope}
def B2(h:gn T N sc (.set i e) s=true):∃x px v pos,s=.Assign [.Name x px] v pos/\(N[i]?==some x&&g6 sc x&&aN x&&chk T e N sc v&&!bb e&&(dJ v||pD sc x px v e))=true:=by
 refine ae (ax h) λq z h1=>?_
 obtain⟨pos,rfl⟩:=mI z;exact⟨_,_,_,_,rfl,h1⟩
def B3(h:gn T N sc (.setOwn i e) s=true):∃x px v pos,s=.Assign [.Name x px] v pos/\(N[i]?==some x&&g6 sc x&&aN x&&chk T e N sc v&&jB e&&(dJ v||pD sc x px v e))=true:=by
 refine ae (ax h) λq z h1=>?_
 obtain⟨pos,rfl⟩:=mI z;exact⟨_,_,_,_,rfl,h1⟩
def uj (h:gn T N sc (.append i e) s=true):∃x p m ap v cp pos,s=.Expr (.Call (.Attribute (.Name x p) m ap) [v] [] cp) pos/\(aE N sc i x&&m==("append":Str)&&chk T e N sc v&&!bb e&&aG v&&ap.endLine==cp.line)=true:=by
 refine ae (ax h) λq D h1=>?_
 refine ae (ax h1) λv J h2=>?_
 refine mV (vv D) λp pos z=>?_
 subst z;rw[eC J];exact⟨_,_,_,_,_,_,_,rfl,h2⟩
def B4 {i:Nat}{es:List ME}{s:Stmt} (h:gn T N sc (.mkO i es) s=true):∃x px y z args cp pos,s=.Assign [.Name x px] (.Call (.Name y z) args [] cp) pos/\(N[i]?==some x&&g6 sc x&&aN x&&y==("Table":Str)&&glB sc y&&chks T es N sc args&&(es.all λm=>!bb m)&&!args.isEmpty)=true:=by
 obtain⟨q,D,h1⟩:=ax h;obtain⟨c,J,h2⟩:=ax h1;obtain⟨pos,rfl⟩:=mI D;obtain⟨p,cp,U⟩:=i5 J;rw[U];exact⟨_,_,_,_,_,_,_,rfl,h2⟩
def zA {i:Nat}{e:ME}{s:Stmt} (h:gn T N sc (.appO i e) s=true):∃x p f fp m ap v cp pos,s=.Expr (.Call (.Attribute (.Attribute (.Name x p) f fp) m ap) [v] [] cp) pos/\(aE N sc i x&&f==("taken":Str)&&m==("append":Str)&&chk T e N sc v&&!bb e&&aG v&&ap.endLine==cp.line)=true:=by
 obtain⟨q,z,h1⟩:=ax h;obtain⟨v,D,h2⟩:=ax h1;obtain⟨p,fp,pos,rfl⟩:=BD z;rw[eC D];exact⟨_,_,_,_,_,_,_,_,_,rfl,h2⟩
def zB{e:ME}{s:Stmt}(h:gn T N sc (.retT e) s=true):∃v pos,s=.Return (some v) pos/\(chk T e N sc v&&!bb e)=true:=by
 obtain⟨v,q,h1⟩:=ax h;obtain⟨pos,rfl⟩:=qx q;exact⟨v,pos,rfl,h1⟩
def ul (h:gn T N sc (.extend i e) s=true):∃x p m ap v cp pos,s=.Expr (.Call (.Attribute (.Name x p) m ap) [v] [] cp) pos/\(aE N sc i x&&m==("extend":Str)&&chk T e N sc v&&aG v&&ap.endLine==cp.line)=true:=by
 refine ae (ax h) λq D h1=>?_
 refine ae (ax h1) λv J h2=>?_
 refine mV (vv D) λp pos z=>?_
 subst z;rw[eC J];exact⟨_,_,_,_,_,_,_,rfl,h2⟩
def zC(h:gn T N sc (.dput i k e) s=true):∃x p s' sp v pos,s=.Assign [.Subscript (.Name x p) s' sp] v pos/\(aE N sc i x&&chk T k N sc s'&&eK s'&&chk T e N sc v&&!bb e&&dJ v)=true:=by
 refine ae (ax h) λq D h1=>?_
 refine GP (BB D) λp sp pos z=>?_
 subst z;exact⟨_,_,_,_,_,_,rfl,h1⟩
def zD(h:gn T N sc (.newD m i) s=true):∃x p dp pos,s=.Assign [.Name x p] (.Dict [] [] dp) pos/\(N[i]?==some x&&g6 sc x&&aN x)=true:=by
 refine ae (ax h) λq z h1=>?_
 rw[ow]at h1;obtain⟨pos,rfl⟩:=mI z;obtain⟨p,D⟩:=yW h1.1;rw[D];exact⟨_,_,_,_,rfl,h1.2⟩
def B5(h:gn T N sc (.ite c a b) s=true):∃t x y pos,s=.If t x y pos/\(chk T c N sc t&&chkSs T N sc a x&&chkSs T N sc b y)=true:=by
 cases s with
 |If t x y pos=>exact⟨t,x,y,pos,rfl,h⟩
 | _=>cases (show false=true from h)
def zE(h:gn T N sc (.for1 i k src body) s=true):∃x px it b pos,s=.For (.Name x px) it b [] pos/\(N[i]?==some x&&g6 sc x&&aN x&&qt sc false (λxs=>chks T src N sc xs) k it&&chkSs T N sc body b)=true:=by
 simp[BE]at h;split at h<;>first|(exact bc h;done)|(rename_i q;exact bc q;exact⟨_,_,_,_,_,rfl,h⟩)|(injections;done)|(injections;subst_vars;exact⟨_,_,_,_,_,rfl,h⟩)
def zF(h:gn T N sc (.forT is k src body) s=true):∃z j D it b pos,s=.For (.Tuple z j D) it b [] pos/\(eD N sc is z&&qt sc true (λxs=>chks T src N sc xs) k it&&chkSs T N sc body b)=true:=by
 simp[BF]at h;split at h<;>first|(exact bc h;done)|(rename_i q;exact bc q;exact⟨_,_,_,_,_,_,rfl,h⟩)|(injections;done)|(injections;subst_vars;exact⟨_,_,_,_,_,_,rfl,h⟩)
def B6(h:gn T N sc (.ret e) s=true):∃v pos,s=.Return (some v) pos/\(chk T e N sc v&&!bb e)=true:=by
 refine ae (ax h) λv q h1=>?_
 obtain⟨pos,rfl⟩:=qx q;exact⟨_,_,rfl,h1⟩
def um(h:gn T N sc (.retOwn i) s=true):∃x p pos,s=.Return (some (.Name x p)) pos/\(aE N sc i x)=true:=by
 refine ae (ax h) λv q h1=>?_
 refine ae (ax h1) λx z h2=>?_
 obtain⟨pos,rfl⟩:=qx q;obtain⟨p,rfl⟩:=yV z;exact⟨_,_,_,rfl,h2⟩
end
def wV(g:Gf X T k cal)(d:Df X)(h:gn T X.N X.env.scope (.set i e) s=true):PS X s (tS X.K cal (.set i e)):=by
 refine je (B2 h) λx px v pos z hc=>?_
 subst z;simp only[ow,LU,J7,Km]at hc;refine Jk hc λh1 h2 h3 h4 h5 h6=>?_
 rcases h6 with h6|h6
 .exact HU d h1 (ip h2) (ay e g h4).1 h5 h6
 .obtain⟨t,p,J,U⟩:=vM (pos:=pos) g d h1 (ip h2) h4 h6;exact PS.imp' p λD σ H Y q=>J _ _ _ (H0 U (zp (ltN h1 Y) h5 q))
noncomputable def FH:MS->Bool
 | .freeze _=>true
 | _=>false
mutual
theorem zG{T:Tab}{k:Nat}{cal:Cal}{X:Cx}(g:Gf X T k cal)(d:Df X):∀(m:MS) (s:Stmt),gn T X.N X.env.scope m s=true->PS X s (tS X.K cal m)
 | .set i e,s,h=>wV g d h
 | .setOwn i e,s,h=>by
  obtain⟨x,px,v,pos,rfl,hc⟩:=B3 h;simp only[ow,LU,J7]at hc;obtain⟨⟨⟨⟨⟨h1,h2⟩,h3⟩,h4⟩,h5⟩,h6⟩:=hc;rcases h6 with h6|h6
  .exact HV d h1 (ip h2) (Fx g h4 h5) h6
  .obtain⟨t,p,Y,hf⟩:=vM (pos:=pos) g d h1 (ip h2) h4 h6;exact PS.imp' p λD σ H Z q=>Y _ _ _ (zq (ltN h1 Z) q)
 | .append i e,s,h=>by
  obtain⟨x,p,m,ap,v,cp,pos,rfl,hc⟩:=uj h;simp only[ow,J7,Km]at hc;obtain⟨⟨⟨⟨⟨h1,rfl⟩,h3⟩,h4⟩,h5⟩,h6⟩:=hc;exact zr (ay e g h3).1 h1 h4 h5 (J7.mpr h6)
 | .extend i e,s,h=>by
  obtain⟨x,p,m,ap,v,cp,pos,rfl,hc⟩:=ul h;simp only[ow,J7]at hc;obtain⟨⟨⟨⟨h1,rfl⟩,h3⟩,h5⟩,h6⟩:=hc;exact zt (ay e g h3).1 h1 h5 (J7.mpr h6)
 | .setIdx _ _ _,s,h=>absurd (show false=true from h) oe
 | .unpack _ _,s,h=>absurd (show false=true from h) oe
 | .expr _,s,h=>absurd (show false=true from h) oe
 | .ite c a b,s,h=>by
  obtain⟨t,x,y,pos,rfl,hc⟩:=B5 h;simp only[ow]at hc;exact JI (ay c g hc.1.1).2 (soundSs g d a x hc.1.2) (soundSs g d b y hc.2)
 | .for1 i k' src body,s,h=>by
  obtain⟨x,px,it,b,pos,rfl,hc⟩:=zE h;simp only[ow,J7]at hc;obtain⟨⟨⟨⟨h1,h2⟩,h3⟩,h4⟩,h5⟩:=hc;have hw:=nV (tg:=.Name x px) (λz=>by cases z) g h4 (λxs J=>⟨sounds src g J,cb J⟩) (λm x hm hx=>match src,hm with|[U],rfl=>(ay U g (by simp only[chks,ow]at hx;exact hx.1.1)).1);exact FE g d h1 (ip h2) hw.1 hw.2 (soundSs g d body b h5)
 | .forT is k' src body,s,h=>by
  obtain⟨ts,j,tp,it,b,pos,rfl,hc⟩:=zF h;simp only[ow]at hc;obtain⟨⟨h1,h4⟩,h5⟩:=hc;have hw:=nV (tg:=.Tuple ts j tp) (λ_=>⟨_,_,_,rfl⟩) g h4 (λxs J=>⟨sounds src g J,cb J⟩) (λm x hm hx=>match src,hm with|[U],rfl=>(ay U g (by simp only[chks,ow]at hx;exact hx.1.1)).1);exact FG g d h1 hw.1 hw.2 (soundSs g d body b h5)
 | .while _ _ _,s,h=>absurd (show false=true from h) oe
 | .ret e,s,h=>by
  obtain⟨v,pos,rfl,hc⟩:=B6 h;simp only[ow,Km]at hc;exact HW (ay e g hc.1).1 hc.2
 | .mkO i es,s,h=>by
  obtain⟨x,px,y,py,args,cp,pos,rfl,hc⟩:=B4 h;simp only[ow,J7]at hc;obtain⟨⟨⟨⟨⟨⟨⟨h1,h2⟩,h3⟩,h4⟩,h5⟩,h6⟩,h7⟩,h8⟩:=hc;subst h4;cases args with
  |nil=>cases h8
  |cons e args=>exact HY g d h1 (ip h2) h5 (sounds es g h6) h7 (cb h6).1 (cb h6).2
 | .appO i e,s,h=>by
  obtain⟨x,p,f,fp,m,ap,v,cp,pos,rfl,hc⟩:=zA h;simp only[ow,Km]at hc;obtain⟨⟨⟨⟨⟨⟨h1,h2⟩,h3⟩,h4⟩,h5⟩,h6⟩,h7⟩:=hc;rw[eq_of_beq h2,eq_of_beq h3];exact FD g (ay e g h4).1 h1 h5 h6 h7
 | .retT e,s,h=>by
  obtain⟨v,pos,rfl,hc⟩:=zB h;simp only[ow,Km]at hc;exact FC (ay e g hc.1).1 hc.2
 | .takeO _ _ _ _,s,h=>(by cases h)
 | .retF _,s,h=>absurd (show false=true from h) oe
 | .setCall _ _ _,s,h=>absurd (show false=true from h) oe
 | .clear _,s,h=>absurd (show false=true from h) oe
 | .retOwn i,s,h=>by
  obtain⟨x,p,pos,rfl,hc⟩:=um h;exact zu hc
 | .retN,s,h=>absurd (show false=true from h) oe
 | .brk,s,h=>absurd (show false=true from h) oe
 | .cont,s,h=>absurd (show false=true from h) oe
 | .pass,s,h=>absurd (show false=true from h) oe
 | .never,s,h=>by
  refine xK.imp λD σ H q=>?_
  obtain⟨B,E,O,G,st,q⟩:=q;rw[ex]at q;exact q
 | .newD m i,s,h=>by
  obtain⟨x,p,dp,pos,rfl,hc⟩:=zD h;simp only[ow,J7]at hc;exact Fy d hc.1.1 (ip hc.1.2)
 | .dput i mk me,s,h=>by
  obtain⟨x,p,s',sp,v,pos,rfl,hc⟩:=zC h;simp only[ow]at hc;exact Fz g (ay mk g hc.1.1.1.1.2).1 (ay me g hc.1.1.2).1 hc.1.1.1.1.1 hc.2
 | .freeze _,s,h=>absurd (show false=true from h) oe
theorem soundSs{T:Tab}{k:Nat}{cal:Cal}{X:Cx}(g:Gf X T k cal)(d:Df X):∀(ms:List MS) (ss:List Stmt),chkSs T X.N X.env.scope ms ss=true->PSs X ss (tSs X.K cal ms)
 | [],ss,h=>by
  cases ss with
  |nil=>exact HX
  |cons _ _=>cases h
 |m::ms,ss,h=>by
  cases hm:FH m with
  |true =>
   cases m<;>simp[FH]at hm
   cases h
  |false =>
   cases ss with
   |nil=>cases m<;>first|(cases h;done)|cases hm
   |cons s ss =>
    have h:(gn T X.N X.env.scope m s&&chkSs T X.N X.env.scope ms ss)=true:=by cases m<;>first|exact h|(simp[FH]at hm)
    simp only[ow]at h;exact FB (zG g d m s h.1) (soundSs g d ms ss h.2)
end
structure FnD(K:M5)(x y:Str)(st:Stmt)(fa:Addr)(fd:FuncData):Prop where
 it:∃(c0 d0 k0 o0 m0:Value) (a0:Option Addr) (c1 t1:Value) (a1:Option Addr) (sl:Array (Option Value)),
  K.lookup fa=some ⟨c0,a1,.func fd,sl⟩/\PySem.W.codeIn K c1 y=true/\fd=PySem.W.fnOf x y (jV st) (bo st) (ag st) d0 k0 o0 m0 a0 c1 t1
 kp:PySem.W.keepIn K (.ref fa)=true
theorem FnD.mk'{K:M5}{st:Stmt} 
  (l:K.lookup q=some ⟨c0,a1,.func (PySem.W.fnOf x y (jV st) (bo st) (ag st) d0 z o0 m0 D c1 t1),J⟩) (c:PySem.W.codeIn K c1 y=true) (k:PySem.W.keepIn K (.ref q)=true) :
  FnD K x y st q (PySem.W.fnOf x y (jV st) (bo st) (ag st) d0 z o0 m0 D c1 t1):=⟨⟨_,_,_,_,_,_,_,_,_,_,l,c,rfl⟩,k⟩
theorem FnD.mkd{K:M5}{st:Stmt} 
  (l:K.lookup q=some ⟨c0,a1,.func (PySem.W.fnOf x y (jV st) (bo st) (ag st) (.ref T) z o0 m0 D c1 t1),J⟩) (c:PySem.W.codeIn K c1 y=true) (k:PySem.W.keepIn K (.ref q)=true) :
  FnD K x y st q (PySem.W.fnOf x y (jV st) (bo st) (ag st) (.ref T) z o0 m0 D c1 t1):=.mk' l c k
structure pK(T:Tab)(K:M5)(mg:Str->Option Value)(st:Stmt)(d:MD)(fa:Addr)(fd:FuncData):Prop where
 fn:FnD K (d.meth.getD d.name) d.name st fa fd
 binds:aW K fd d.params []
 named:(d.meth=none/\mg d.name=some (.ref fa))\/∃m,d.meth=some m/\∀C,IsC K C->jb K C m fa
 scope:dk d.names d.params (ag st)
 body:chkSs T d.names (ag st) d.body (bo st)=true
def uncons{α:Type} :∀{us:List α},us.length=n+1->∃a t,us=a::t/\t.length=n
 | _::_,h=>⟨_,_,rfl,Nat.succ.inj h⟩
def bn1{K:M5}(h:∀a,bindArgs fd ⟨[a],[]⟩=pure [(z,a)]):aW K fd [z] []:=.all λus h0=>by
 refine cM (uncons h0) λa D q h1=>?_
 subst q;obtain rfl:=K8.mp h1;exact h a
def bn2{K:M5}(h:∀a b,bindArgs fd ⟨[a,b],[]⟩=pure [(z,a),(D,b)]):aW K fd [z,D] []:=.all λus h0=>by
 refine cM (uncons h0) λa J q h1=>?_
 subst q;refine cM (uncons h1) λb U q h2=>?_
 subst q;obtain rfl:=K8.mp h2;exact h a b
def bn3{K:M5}(h:∀a b c,bindArgs fd ⟨[a,b,c],[]⟩=pure [(z,a),(D,b),(pc,c)]):aW K fd [z,D,pc] []:=.all λus h0=>by
 refine cM (uncons h0) λa J q h1=>?_
 subst q;refine cM (uncons h1) λb U q h2=>?_
 subst q;refine cM (uncons h2) λc Y q h3=>?_
 subst q
 simp_all
def bn4{K:M5}(h:∀a b c d,bindArgs fd ⟨[a,b,c,d],[]⟩=pure [(z,a),(D,b),(pc,c),(J,d)]):aW K fd [z,D,pc,J] []:=.all λus h0=>by
 refine cM (uncons h0) λa U q h1=>?_
 subst q;refine cM (uncons h1) λb Y q h2=>?_
 subst q;refine cM (uncons h2) λc Z q h3=>?_
 subst q;refine cM (uncons h3) λd u4 q h4=>?_
 subst q
 simp_all
def bn5{K:M5}{fd:FuncData}{q z D J U:Str}(h:∀a b c d e,bindArgs fd ⟨[a,b,c,d,e],[]⟩=pure [(q,a),(z,b),(D,c),(J,d),(U,e)]):aW K fd [q,z,D,J,U] []:=.all λus h0=>by
 obtain⟨a,Y,rfl,h1⟩:=uncons h0;obtain⟨b,Z,rfl,h2⟩:=uncons h1;obtain⟨c,u3,rfl,h3⟩:=uncons h2;obtain⟨d,u4,rfl,h4⟩:=uncons h3;obtain⟨e,u5,rfl,h5⟩:=uncons h4;obtain rfl:=K8.mp h5;exact h a b c d e
def uq{K:M5}(hd:fd.defaults=.ref T)(l:K.lookup T=some ⟨c,o,.seq vs n,z⟩)
  (h:∀us,us.length=ps.length->∃k,bindArgs fd ⟨us,[]⟩=seqItems? fd.defaults >>= k/\k (some vs)=pure (ps.zip us)):aW K fd ps []:=λs us X q=>by
 rw[LG]at q ⊢;refine ae (h us q) λk h1 h2=>?_
 exact .of_defaults hd (X _ _ l) rfl h1 h2
def uu{K:M5}(hd:fd.defaults=.ref T)(l:K.lookup T=some ⟨c,o,.seq #[v] n,z⟩)
  (h:∀us,us.length+1=ps.length->∃k,bindArgs fd ⟨us,[]⟩=seqItems? fd.defaults >>= k/\k (some #[v])=pure (ps.zip (us++[v]))):aW K fd ps [v]:=λs us X q=>by
 refine ae (h us (by simpa using q)) λk h1 h2=>?_
 exact .of_defaults hd (X _ _ l) rfl h1 h2
def B7{K:M5}{fd:FuncData}{ps:List Str}{T:Addr}{c:Value}{x:Str}{k:Tok}{o:Option Addr}{n:Nat}{q:Array (Option Value)}(hd:fd.defaults=.ref T)(l:K.lookup T=some ⟨c,o,.seq #[.str x k] n,q⟩)
  (h:∀us:List Value,us.length+1=ps.length->∃j,bindArgs fd ⟨us,[]⟩=seqItems? fd.defaults >>= j/\j (some #[.str x k])=pure (ps.zip (us++[.str x k]))):∃vs,aW K fd ps vs/\aJ ([Sc.str x].map Sc.v) vs:=⟨_,uu hd l h,.cons ⟨k,rfl⟩ .nil⟩
def HD(K:M5)(x:Str)(st:Stmt)(d:MD)(q:FuncData->Prop:=λ_=>True):Prop:=d.name=x/\∃z fd,PySem.W.nsIn K mainGlobals x=some (some (.ref z))/\FnD K x x st z fd/\aW K fd d.params []/\q fd
def HM(K:M5)(C:Addr)(x y:Str)(st:Stmt)(d:MD):Prop:=d.meth=some x/\d.name=y/\∃q fd,jb K C x q/\FnD K x y st q fd/\aW K fd d.params []
structure vN(K:M5)(C:Addr):Prop where
 cls:Cls K C
 nf:∀x∈jA,cq K C x
 nt:cq K C "taken"
noncomputable def okD(T:Tab)(st:Stmt)(d:MD):Bool:=
 decide ((ag st).kind=.function/\(ag st).isCoroutine=false/\(ag st).isGenerator=false/\d.names.Nodup/\d.names.take d.params.length=d.params/\(∀x∈d.params,(ag st).names.lookup x=some .local\/(ag st).names.lookup x=some .cell)/\∀y∈(ag st).names,y.2≠.free)
 &&d.meth.isNone
 &&chkSs T d.names (ag st) d.body (bo st)
def aR{T:Tab}{K:M5}{mg:Str->Option Value}{h:Heap}{st:Stmt}{d:MD}(X:K.In h)(G:h.Ns mainGlobals mg){q:FuncData->Prop}{x:Str}(hd:HD K x st d q)(D:okD T st d=true):∃J fd,pK T K mg st d J fd/\q fd:=by
 obtain⟨e,_,_,n,f,b,z⟩:=hd;obtain⟨c1,c2⟩:=vl.mp D;obtain⟨c1,c3⟩:=vl.mp c1;obtain⟨s1,s2,s3,s4,U,Y,Z⟩:=Kl c1;subst e;have hm:d.meth=none:=isNone_iff_eq_none.mp c3;exact⟨_,_,⟨by rw[hm];exact f,b,.inl ⟨hm,PySem.W.mg_of X G n⟩,⟨s1,s2,s3,s4,U,Y,Z⟩,c2⟩,z⟩
noncomputable def okM(T:Tab)(st:Stmt)(d:MD):Bool:=
 decide ((ag st).kind=.function/\(ag st).isCoroutine=false/\(ag st).isGenerator=false/\d.names.Nodup/\d.names.take d.params.length=d.params/\(∀x∈d.params,(ag st).names.lookup x=some .local\/(ag st).names.lookup x=some .cell)/\∀y∈(ag st).names,y.2≠.free)&&chkSs T d.names (ag st) d.body (bo st)
def kM{T:Tab}{K:M5}{mg:Str->Option Value}{C:Addr}{st:Stmt}{d:MD}{x y:Str}(q:IsC K C)(hd:HM K C x y st d)(z:okM T st d=true):∃D fd,pK T K mg st d D fd:=by
 obtain⟨e,J,_,_,n,f,b⟩:=hd;obtain⟨c1,c2⟩:=vl.mp z;obtain⟨s1,s2,s3,s4,U,Y,Z⟩:=Kl c1;subst J;exact⟨_,_,⟨by rw[e];exact f,b,.inr ⟨x,e,λC' h=>by
  have:=h.symm.trans q;cases this;exact n⟩,⟨s1,s2,s3,s4,U,Y,Z⟩,c2⟩⟩
def zH(T:Tab)(K:M5)(mg:Str->Option Value):List MD->List (List Sc)->Prop
 | [],[]=>True
 |d::ds,l::ls=>(∃st q fd,pK T K mg st d q fd/\∃vs,aW K fd d.params vs/\aJ (l.map Sc.v) vs)/\zH T K mg ds ls
 | _,_=>False
theorem zH.get{K:M5} :∀{ds}{D}{f:Nat}{d},zH T K mg ds D->ds[f]?=some d->∃l st z fd,D[f]?=some l/\pK T K mg st d z fd/\∃vs,aW K fd d.params vs/\aJ (l.map Sc.v) vs
 | [],_,f,d,_,e=>by injection e
 | _::_,[],f,d,h,e=>h.elim
 |d0::ds,l::D,0,d,h,e=>by
  cases e;obtain⟨⟨st,z,fd,r⟩,_⟩:=h;exact⟨l,st,z,fd,rfl,r⟩
 |d0::ds,l::D,f+1,d,h,e=>by
  refine je (zH.get h.2 (show ds[f]?=some d from by simpa using e)) λk st z fd q r=>?_
  exact⟨k,st,z,fd,by simpa using q,r⟩
noncomputable def zI(d:MD):Str:=match d.meth with
 |none=>d.name
 |some _=>"__debug__"
def mQ{d:MD}(h:aN (zI d)=true):d.meth=none/\zI d=d.name:=by
 unfold zI at h ⊢;cases e:d.meth with
 |none=>exact⟨rfl,rfl⟩
 |some m =>
  rw[e]at h;exact absurd (show aN ("__debug__":Str)=true from h) (by decide +kernel)
structure mz(T:Tab)(K:M5)(mg:Str->Option Value)(ds:List MD)
 :Prop where
 tab:T.fs=ds.map zI
 tabM:T.ms=ds.map (·.meth)
 cls:∀C,IsC K C->vN K C
 ini:∃C,IsC K C/\mg ("Table":Str)=some (.ref C)/\∃fa fd ps,Mk K C fa/\aW K fd ps []/\(∀P w base,cT P w K mg base CX0 1 fa fd ps (spI K C))/\∃vs,aW K fd ps vs/\aJ [V.str "weaver"] vs
 defs:zH T K mg ds T.ds
 blt:∀x∈kC,mg (x:Str)=none
 gs:∀p∈T.gs,∃u,mg p.1=some u/\aI (toV p.2) u
def nY{ds:List MD}{n f:Nat}{d:MD}{args:List MV}{r:PV}(hd:ds[f]?=some d)(h:ab ds (n+1) f args=some r):args.length=d.params.length /\
  ((∃G,exs (ab ds n) d.body (args.map some++replicate (d.names.length-args.length) none)=.next G/\r=.non)\/exs (ab ds n) d.body (args.map some++replicate (d.names.length-args.length) none)=.ret r \/
   ∃xs,exs (ab ds n) d.body (args.map some++replicate (d.names.length-args.length) none)=.retF xs/\r=.lst xs):=by
 rw[ab,hd]at h;dsimp only at h;by_cases q:args.length=d.params.length
 .rw[if_pos q]at h;refine⟨q,?_⟩;cases he:exs (ab ds n) d.body (args.map some++replicate (d.names.length-args.length) none)with
  |next G=>rw[he]at h;cases h;exact .inl ⟨G,rfl,rfl⟩
  |ret v=>rw[he]at h;cases h;exact .inr (.inl rfl)
  |retF xs=>rw[he]at h;cases h;exact .inr (.inr ⟨xs,rfl,rfl⟩)
  |retT v G=>rw[he]at h;cases h
  |brk G=>rw[he]at h;cases h
  |cont G=>rw[he]at h;cases h
  |bad=>rw[he]at h;cases h
 .rw[if_neg q]at h;cases h
def mj{ds:List MD}{n f:Nat}{d:MD}{args:List MV}{r:PV}(z:f<1000)(hn:ds[f+1000]?=none)(hd:ds[f]?=some d)(h:ab ds (n+1) (f+1000) args=some r):args.length=d.params.length /\
  ∃xs,exs (ab ds n) d.body (args.map some++replicate (d.names.length-args.length) none)=.retF xs/\r=.lst xs:=by
 rw[ab,hn]at h;dsimp only at h;rw[if_neg (by omega),if_neg (by omega),K6,hd]at h;dsimp only at h;by_cases q:args.length=d.params.length
 .rw[if_pos q]at h;refine⟨q,?_⟩;cases he:exs (ab ds n) d.body (args.map some++replicate (d.names.length-args.length) none)with
  |retF xs=>rw[he]at h;cases h;exact⟨xs,rfl,rfl⟩
  |retT v G=>rw[he]at h;cases h
  |next G=>rw[he]at h;cases h
  |ret v=>rw[he]at h;cases h
  |brk G=>rw[he]at h;cases h
  |cont G=>rw[he]at h;cases h
  |bad=>rw[he]at h;cases h
 .rw[if_neg q]at h;cases h
def nZ{ds:List MD}{n f:Nat}{d:MD}{args:List MV}{r:PV}(z:f<1000)(hn:ds[f+3000]?=none)(hd:ds[f]?=some d)(h:ab ds (n+1) (f+3000) args=some r):args.length=d.params.length /\
  ∃v G,exs (ab ds n) d.body (args.map some++replicate (d.names.length-args.length) none)=.retT v G/\wJ v G=some r:=by
 rw[ab,hn]at h;dsimp only at h;rw[if_neg (by omega),if_pos (by omega)]at h;rw[K6,hd]at h;dsimp only at h;by_cases q:args.length=d.params.length
 .rw[if_pos q]at h;refine⟨q,?_⟩;cases he:exs (ab ds n) d.body (args.map some++replicate (d.names.length-args.length) none)with
  |retT v G=>rw[he]at h;exact⟨v,G,rfl,h⟩
  |next G=>rw[he]at h;cases h
  |ret v=>rw[he]at h;cases h
  |retF xs=>rw[he]at h;cases h
  |brk G=>rw[he]at h;cases h
  |cont G=>rw[he]at h;cases h
  |bad=>rw[he]at h;cases h
 .rw[if_neg q]at h;cases h
def zJ{ds:List MD}{n:Nat}(q:ds.length<=1000)(h:ab ds n 4000 []≠none):2<=n:=by
 match n,h with
 |0,h=>exact absurd rfl h
 |1,h =>
  refine absurd ?_ h;rw[ab,MX (by omega)]
  rfl
 |n+2,h=>omega
def B8{v w:Sc}{G:Rho}{ys:List PV}(h:wJ v G=some (.tup [w.pv,.lst ys])):v=w/\∃fs,G[0]?=some (some (.ownO true fs ys)):=by
 unfold wJ at h;split at h
 .cases v<;>cases w<;>cases h<;>exact⟨rfl,_,rfl⟩
 .cases h
theorem jE :∀{xs}{ys}{i:Nat}{x},Paired F xs ys->xs[i]?=some x->∃y,ys[i]?=some y/\F x y
 | _,_,_,_,.nil,e=>by injection e
 | _,_,0,_,.cons r _,e=>by simp at e;subst e;exact⟨_,rfl,r⟩
 | _,_,i+1,x,.cons _ t,e=>by
  obtain⟨u,h1,h2⟩:=jE (i:=i) (x:=x) t e;exact⟨u,by simpa using h1,h2⟩
def n5{K:M5}{H:Hp}{O:List Addr}{args:List MV}{vs:List V}{N:List Str}(U:∀a∈O,H a≠none)(h:Paired (gc K O H) args vs):aX K H O O H (args.map some++replicate (N.length-args.length) none) (fq N vs):=by
 have Y:args.length=vs.length:=Paired.length h;have get:∀(i:Nat) (m:MV),(args.map some++replicate (N.length-args.length) none)[i]?=some (some m)->∃u,(fq N vs)[i]?=some (some u)/\gc K O H m u:=λi m e=>by
  by_cases hi:i<args.length
  .rw[Lc (by simpa using hi),Kb]at e;cases J:args[i]? with
   |none=>rw[J]at e;cases e
   |some Z =>
    rw[J]at e;cases e;obtain⟨u,z,q⟩:=jE h J;refine⟨u,?_,q⟩;unfold L2.fq;rw[Lc (by rw[sm,<- Y];exact hi),Kb,z]
    rfl
  .rw[Lm (by simpa using hi),LW]at e;split at e<;>cases e
 refine⟨af.refl H,U,λa ha=>ha,U,by unfold L2.fq;simp[Y],λi m e=>?_,λi j xs ys a _ e _ D _=>?_
  ,nO λi m e=>by
   obtain⟨u,z,q⟩:=get i _ e;cases m<;>first|rfl|exact q.elim
  ⟩
 .obtain⟨u,z,q⟩:=get i m e;refine⟨u,z,?_⟩;cases m with
  |val v=>exact q
  |own _=>exact q.elim
  |ownO _ _ _=>exact q.elim
  |brwO _ _=>exact q
  |brw ys=>exact q
  |ownD _=>exact q.elim
  |brwD _=>exact q
 .obtain⟨u,z,q⟩:=get i _ e;cases xs with
  |own _=>exact q.elim
  |ownD _=>exact q.elim
  |ownO _ _ _=>exact q.elim
  |brwO _ _=>cases D
  |val _=>cases D
  |brw _=>cases D
  |brwD _=>cases D
def lF(h:Paired F args vs):∀(i:Nat) m,(args.map some++replicate (N.length-args.length) none)[i]?=some (some m)->args[i]?=some m/\∃u,vs[i]?=some u/\(fq N vs)[i]?=some (some u)/\F m u:=λi m e=>by
 have J:=Paired.length h;by_cases hi:i<args.length
 .rw[Lc (by simpa using hi),Kb]at e;cases z:args[i]? with
  |none=>rw[z]at e;exact bc e
  |some U =>
   rw[z]at e;cases e;refine ae (jE h z) λu D q=>?_
   refine⟨rfl,u,D,?_,q⟩;unfold L2.fq;rw[Lc (by rw[sm,<- J];exact hi),Kb,D]
   rfl
 .rw[Lm (by simpa using hi),LW]at e;split at e<;>cases e
section
variable{T:Tab}{P:Program}{w:World}{K:M5}{mg:Str->Option Value}{base:Heap}{ds:List MD}
theorem ml{K:M5}{O:List Addr}{H:Hp}:∀{as:List MV}{q:List V}{i:Nat}{m:MV},Paired (gc K O H) as q->as[i]?=some m->eR m=true->False
 | _,_,i,m,.nil,e,_=>by cases i<;>cases e
 | _,_,0,m,.cons x _,e,o=>by
  cases e;cases m<;>first|(cases o;done)|exact x
 | _,_,i+1,m,.cons _ t,e,o=>ml t (by simpa using e) o
def zK{K:M5}{O:List Addr}{H B:Hp}{m:MV}{u:V}(z:aj B O=aj H O)(h:gc K O B m u):eQ K B O H m u:=by
 cases m with
 |val v=>rw[show gc K O B (.val v) u=Rep K (aj B O) v u from rfl,z]at h;exact h
 |brw xs=>obtain⟨c,us,e,q,r⟩:=h;rw[z]at r;exact⟨c,us,e,q,r⟩
 |brwD d=>exact h
 |brwO fs xs=>obtain⟨c,e,q⟩:=h;rw[z]at q;exact⟨c,e,q⟩
 |own _=>exact h.elim
 |ownD _=>exact h.elim
 |ownO _ _ _=>exact h.elim
def wW{K:M5}{H:Hp}{O:List Addr}{a l:Addr}{Y:List V}{fs xs:List PV}{as:List MV}{N:List Str}(hO:∀b∈O,H b≠none)(q:dH K (λ_=>none) O H fs xs a l)(r:Paired (gc K O (fF H [a,l])) as Y) :
  aX K (fF H [a,l]) (O.filter λb=>decide (b∉[a,l])) O H ((.ownO true fs xs::as).map some++replicate (N.length-(MV.ownO true fs xs::as).length) none) (fq N (.ref a::Y)):=by
 have hh:=wO (H:=H) q.aO q.lO;have J:Paired (λ(m:MV) (u:V)=>(m=.ownO true fs xs/\u=.ref a)\/gc K O (fF H [a,l]) m u) (.ownO true fs xs::as) (.ref a::Y):=.cons (.inl ⟨rfl,rfl⟩) (nT (λ_ _ h=>.inr h) r);have hl:=Paired.length J;have key:∀(i:Nat) (m:MV),((.ownO true fs xs::as).map some++replicate (N.length-(MV.ownO true fs xs::as).length) none)[i]?=some (some m)->eR m=true->i=0:=λi m e o=>by
  obtain⟨U,u,D,Z,q⟩:=lF J i m e;cases i with
  |zero=>rfl
  |succ i =>
   rw[getElem?_cons_succ]at U;exact(ml r U o).elim
 refine⟨λb u e=>?_,hO,λb hb=>(J9.mp hb).1,λb hb=>?_,by unfold L2.fq;simp at hl ⊢;omega,λi m e=>?_,λi j m m' c ar e1 e2 o1 o2 s1 s2=>ar ((key i m e1 o1).trans (key j m' e2 o2).symm),λi m0 a2 l2 e1 l0 e2 e3 j m a0 ej=>?_⟩
 .unfold fF at e;split at e
  .cases e
  .exact e
 .obtain⟨h1,h2⟩:=J9.mp hb;unfold fF;rw[if_neg (Kl h2)];exact hO b h1
 .obtain⟨U,u,D,Z,z⟩:=lF J i m e;refine⟨u,Z,?_⟩;rcases z with⟨rfl,rfl⟩|z
  .refine⟨a,l,rfl,q.move (af.refl _) (λ_ h=>h) (λ_ h=>h) q.aO q.lO ?_ ?_⟩
   .unfold fF;rw[if_pos (by simp)]
   .unfold fF;rw[if_pos (by simp)]
  .exact zK hh z
 .have o0:eR m0=true:=by cases m0<;>first|(cases l0;done)|rfl
  have hi:=key i m0 e1 o0;obtain⟨U,u,D,Z,z⟩:=lF J j m ej;rcases z with⟨rfl,rfl⟩|z
  .exact absurd ((key j _ ej rfl).trans hi.symm) a0
  .cases m<;>first|exact z.elim|exact⟨rfl,λc o=>by cases o⟩
structure H_(T:Tab)(P:Program)(w:World)(K:M5)(mg:Str->Option Value)(base:Heap)(ds:List MD)(n g:Nat)(fa:Addr)(fd:FuncData)(ps:List Str):Prop where
 m:cT P w K mg base CX0 n fa fd ps (spM K (ab ds n) g)
 f:cT P w K mg base CX0 n fa fd ps (spF K (ab ds n) g)
 t:cT P w K mg base CX0 n fa fd ps (spT K (ab ds n) g)
theorem gf(Y:ds.length<=1000)
  (Z:mz T K mg ds)
 :∀(n f:Nat) (d:MD),ds[f]?=some d->∀st fa fd,pK T K mg st d fa fd->H_ T P w K mg base ds n f fa fd d.params
 |0,f,d,hd,st,fa,fd,D=>{
   m:=⟨λvs H Q E h=>(by obtain⟨O,args,r,_,_,e,_⟩:=h;exact absurd e (by simp[ab])),λA outer s H args us vs Q E _ _ _ _ h=>(by obtain⟨O,args,r,_,_,e,_⟩:=h;exact absurd e (by simp[ab]))⟩
   f:=⟨λvs H Q E h=>(by obtain⟨O,args,r,_,_,e,_⟩:=h;exact absurd e (by simp[ab])),λA outer s H args us vs Q E _ _ _ _ h=>(by obtain⟨O,args,r,_,_,e,_⟩:=h;exact absurd e (by simp[ab]))⟩
   t:=⟨λvs H Q E h=>(by obtain⟨O,a,l,fs,xs,as,ws,v,ys,_,_,_,_,e,_⟩:=h;exact absurd e (by simp[ab])),λA outer s H args us vs Q E _ _ _ _ h=>(by obtain⟨O,a,l,fs,xs,as,ws,v,ys,_,_,_,_,e,_⟩:=h;exact absurd e (by simp[ab]))⟩
   }
 |n+1,f,d,hd,st,fa,fd,D=>by
  obtain⟨c0,d0,k0,o0,m0,a0,bA,t1,a1,sl,lk,hc,rfl⟩:=D.fn.it;have hf:f<1000:=wh (xa.mp hd).1 Y;have hn:ds[f+1000]?=none:=MX (by omega);have bW:ds[f+3000]?=none:=MX (by omega);have gg:∀{CX:CXT}{A:Around}{outer:_}{s:Shared}{H:Hp}{E:_},_->Gf (dz CX P w K mg base d.names d.name (ag st) fa bA A outer s H E).nox T n (ab ds n):=λ{CX A outer s H E} hr=>{
   calm:=rfl
   room:=hr
   fns:=λf' x hx hp=>by
    rw[Z.tab,Kb]at hx;cases hd2:ds[f']? with
    |none=>rw[hd2]at hx;cases hx
    |some d2 =>
     rw[hd2]at hx;cases hx;obtain⟨hm,bK⟩:=mQ hp;obtain⟨l2,aL,J,U,el,D2,bd⟩:=Z.defs.get hd2;rcases D2.named with⟨_,nd⟩|⟨m,em,_⟩
     .exact⟨J,U,d2.params,by rw[bK];exact nd,D2.fn.kp,D2.binds,(gf Y Z n f' d2 hd2 aL J U D2).m,λl hl=>by rw[el]at hl;cases hl;exact bd⟩
     .rw[hm]at em;cases em
   cls:=λC h=>⟨(Z.cls C h).cls,(Z.cls C h).nf,(Z.cls C h).nt⟩
   meths:=λf' m hx C hC=>by
    rw[Z.tabM,Kb]at hx;cases hd2:ds[f']? with
    |none=>rw[hd2]at hx;cases hx
    |some d2 =>
     rw[hd2]at hx;have hx:d2.meth=some m:=vr hx;obtain⟨l2,aL,J,U,el,D2,bd⟩:=Z.defs.get hd2;rcases D2.named with⟨em,_⟩|⟨m',em,nd⟩
     .rw[hx]at em;cases em
     .rw[hx]at em;cases em;exact⟨J,U,d2.params,nd C hC,D2.binds,(gf Y Z n f' d2 hd2 aL J U D2).m⟩
   methsT:=λf' m hx C hC=>by
    rw[Z.tabM,Kb]at hx;cases hd2:ds[f']? with
    |none=>rw[hd2]at hx;cases hx
    |some d2 =>
     rw[hd2]at hx;have hx:d2.meth=some m:=vr hx;obtain⟨l2,aL,J,U,el,D2,bd⟩:=Z.defs.get hd2;rcases D2.named with⟨em,_⟩|⟨m',em,nd⟩
     .rw[hx]at em;cases em
     .rw[hx]at em;cases em;exact⟨J,U,d2.params,nd C hC,D2.binds,(gf Y Z n f' d2 hd2 aL J U D2).t⟩
   lvl:=λh=>dA.mono hr (zJ Y h)
   ini:=λ_=>by
    obtain⟨C,h1,h2,fa,fd,ps,h3,h4,h5,h6⟩:=Z.ini;exact⟨C,h1,h2,fa,fd,ps,h3,h4,h5 _ _ _,h6⟩
   blt:=Z.blt
   gs:=Z.gs
   fnsF:=λf' x hx hp=>by
    rw[Z.tab,Kb]at hx;cases hd2:ds[f']? with
    |none=>rw[hd2]at hx;cases hx
    |some d2 =>
     rw[hd2]at hx;cases hx;obtain⟨hm,bK⟩:=mQ hp;obtain⟨l2,aL,J,U,el,D2,bd⟩:=Z.defs.get hd2;rcases D2.named with⟨_,nd⟩|⟨m,em,_⟩
     .exact⟨J,U,d2.params,by rw[bK];exact nd,D2.fn.kp,D2.binds,(gf Y Z n f' d2 hd2 aL J U D2).f⟩
     .rw[hm]at em;cases em
   }
  have df:∀{CX:CXT}{A:Around}{outer:_}{s:Shared}{H:Hp}{E:_},Df (dz CX P w K mg base d.names d.name (ag st) fa bA A outer s H E).nox:=λ{CX A outer s H E}=>⟨D.scope.nd,λ_=>rfl,PassesOwn.never,by
    have hk:(dz CX P w K mg base d.names d.name (ag st) fa bA A outer s H E).nox.env.scope.kind=.function:=D.scope.kind;unfold Env.blockKind;rw[hk]
    rfl
    ⟩
  refine {
   m:=?_
   f:=?_
   t:=?_
   }
  .refine iB lk hc D.scope (λvs H Q E h=>?_) (λA outer s H vs Q E hr h=>?_)
   .obtain⟨O,args,r,_,hp,e,_⟩:=h;rw[<- (nY hd e).1];exact(Paired.length hp).symm
   .obtain⟨O,args,r,hO,hp,e,q⟩:=h;obtain⟨hl,cd⟩:=nY hd e;refine⟨_,(soundSs (gg hr) df d.body (bo st) D.body).nox,H,O,O,_,n5 hO hp,?_⟩;rcases cd with⟨G,he,rfl⟩|he|⟨xs,he,rfl⟩
    .rw[he];exact λck H' O' a7 _=>q _ H' a7.keep (qz _)
    .rw[he];exact λu H' s' r'=>q u H' s' r'
    .rw[he];refine λp us H' s' bS bT r'=>q _ H' s' ?_
     rw[Rep];refine⟨p,us,rfl,SqL.of ?_,Reps.mono kJ _ r'⟩;rw[a9 λz=>hO p z bS];exact bT
  .refine iB lk hc D.scope (λvs H Q E h=>?_) (λA outer s H vs Q E hr h=>?_)
   .obtain⟨O,args,r,_,hp,e,_⟩:=h;rw[<- (mj hf hn hd e).1];exact(Paired.length hp).symm
   .obtain⟨O,args,xs,hO,hp,e,q⟩:=h;obtain⟨hl,ys,he,ey⟩:=mj hf hn hd e;cases ey;refine⟨_,(soundSs (gg hr) df d.body (bo st) D.body).nox,H,O,O,_,n5 hO hp,?_⟩;rw[he];exact λp us H' s' bS bT r'=>q p us H' s' bS bT r'
  .refine iB lk hc D.scope (λvs H Q E h=>?_) (λA outer s H vs Q E hr h=>?_)
   .obtain⟨O,a,l,fs,xs,as,ws,v,ys,rfl,_,_,r,e,_⟩:=h;rw[<- (nZ hf bW hd e).1];simp[Paired.length r]
   .obtain⟨O,a,l,fs,xs,as,ws,v,ys,rfl,hO,q,r,e,kq⟩:=h;obtain⟨hl,v',G,he,ee⟩:=nZ hf bW hd e;obtain⟨rfl,fs',e0⟩:=B8 ee;refine⟨_,(soundSs (gg hr) df d.body (bo st) D.body).nox,fF H [a,l],_,O,_,wW hO q r,?_⟩;rw[he];intro ck H' O' a7 k';obtain⟨⟨cl,e1⟩,es⟩:=k'.mutO 0 fs' ys e0;have cF:fs'=fs:=by
     have e1:some (some (MV.ownO true fs xs))=some (some (MV.ownO true fs' cl)):=e1;cases e1
     rfl
    subst cF;obtain⟨u,eu,a',l',rfl,q2⟩:=a7.slot 0 _ e0;have ea:a'=a:=by
     rw[eu]at es;have es:some (some (V.ref a'))=some (some (V.ref a)):=es;cases es
     rfl
    subst ea;have lB:=q2.lB;refine kq l' H' (λb o n1 n2 eb=>a7.keep b o ?_) ?_ (q2.move (bi (af.refl _) λb hb=>.inl ?_) (λ_ h=>h) (λ_ h=>h) (Kk _ (J9.mpr ⟨q.aO,Ka q.ne⟩)) Kz rfl rfl)
    .unfold fF;rw[if_neg λz=>by
      rcases pe.mp z with z|z
      .exact n1 z
      .exact n2 (Kd.mp z)]
     exact eb
    .unfold fF at lB;split at lB
     .rename_i z;rcases pe.mp z with z|z
      .exact absurd z.symm q2.ne
      .exact .inl (Kd.mp z)
     .exact .inr lB
    .rcases pe.mp hb with rfl|hb
     .exact q2.lO
     .obtain⟨h1,h2⟩:=J9.mp hb;by_cases z:b=a'
      .subst z;exact q2.aO
      .refine k'.stay b ?_ h1;unfold fF;rw[if_neg λw=>by
        rcases pe.mp w with w|w
        .exact z w
        .exact Kl h2 (Kd.mp w)]
       exact hO b h1
end
def B9{K:M5}{H:Hp}{q x C dx:Addr}{us:List V}{gs:List (Str×V)}{o:HO}(h:SqT K H q us)(hx:H x=some (.ins C dx gs)):SqT K (upd H x o) q us:=by
 rcases h with(e|⟨o',e⟩)|e
 .have n:q≠x:=λz=>by rw[z,hx]at e;cases e
  exact .inl (.inl (by rw[az n];exact e))
 .have n:q≠x:=λz=>by rw[z,hx]at e;cases e
  exact .inl (.inr ⟨o',by rw[az n];exact e⟩)
 .exact .inr e
def gh{x:Str}{v:V}{gs:List (Str×V)}{n:Nat}(h:gs.length<=n):(b9 x v gs).length<=n+1:=by
 induction gs generalizing n with
 |nil=>exact Nat.succ_le_succ (Ki _)
 |cons p gs ih =>
  obtain⟨y,w⟩:=p;show(if y=x then(y,v)::gs else(y,w)::b9 x v gs).length<=_;cases n with
  |zero=>cases h
  |succ n =>
   have:=ih (Mb h);have:=Mb h;split
   .simp only[length_cons];omega
   .simp only[length_cons];omega
def FJ{K:M5}{C q:Addr}(h:IsC K C)(c:vN K C)(h':IsC K q):vN K q:=by
 have:=h'.symm.trans h;cases this;exact c
def Di {K:M5}{C:Addr} (n0:PySem.W.findIn K (.ref C) "hole_count"=some none) (n1:PySem.W.findIn K (.ref C) "ribbons"=some none) (n2:PySem.W.findIn K (.ref C) "opener"=some none) (x:Str) (hx:x∈jA):cq K C x:=by
 simp only[jA,pe,Kf,Ko]at hx;rcases hx with rfl|rfl|rfl
 .exact n0
 .exact n1
 .exact n2
end MM
namespace MM
open PySem List Option
noncomputable abbrev ofS(q:List Int):PV:=.tup (q.map .int)
noncomputable abbrev ofR(R:List (List Int)):PV:=.tup (R.map ofS)
noncomputable abbrev ofL(ns:List Int):PV:=.lst (ns.map .int)
theorem fm:∀ns,cB (ns.map .int)=some ns
 | []=>rfl
 |n::ns=>by simp[cB,fm ns]
theorem pL:∀R,nL (R.map ofS)=some R
 | []=>rfl
 |t::R=>by simp[nL,fm,pL R]
theorem n6:∀ns,gm (ns.map .bl)=some ns
 | []=>rfl
 |n::ns=>by simp[gm,n6 ns]
def lG(h:ns.length<64):iH (ns.map .int)=some (ofL (sortI ns)):=by
 unfold iH;rw[if_pos (by simpa using h),fm]
def i8{R:List (List Int)}(h:R.length<64):iH (R.map ofS)=some (.lst ((sortT R).map ofS)):=by
 unfold iH;rw[if_pos (by simpa using h)];cases R with
 |nil=>rfl
 |cons t R =>
  have:cB ((t::R).map ofS)=none:=rfl;rw[this];simp only[pL,map_some]
theorem dq{α:Type}{g:α->PV}{c:PV->Option Bool}{f:PV->Option PV}{p:α->Bool}{h:α->PV}:∀{xs:List α},(∀x∈xs,c (g x)=some (p x))->(∀x∈xs,p x=true->f (g x)=some (h x))->fB c f (xs.map g)=some ((xs.filter p).map h)
 | [],_,_=>rfl
 |x::xs,hc,hf=>by
  rw[J8,fB,hc x (.head _),bind_some];have ih:=dq (xs:=xs) (λy q=>hc y (.tail _ q)) (λy q=>hf y (.tail _ q));cases z:p x<;>simp_all
def uv{α:Type}{g:α->PV}{c:PV->Option Bool}{f:PV->Option PV}{h:α->PV}{xs:List α}(hc:∀x∈xs,c (g x)=some true)(q:∀x∈xs,f (g x)=some (h x)):fB c f (xs.map g)=some (xs.map h):=by
 rw[dq (p:=λ_=>true) hc (λx hx _=>q x hx),Mo.mpr λ_ _=>rfl]
def FL(a b)(q:List Int):((b==a)||decide (a∈q))=decide (a=b\/a∈q):=by grind
def FM(a b)(q:List (List Int)):(decide (b=a)||decide (a∈q))=decide (a=b\/a∈q):=by grind
@[simp] theorem vO(n)(i j):eqF n (.int i) (.int j)=some (i==j):=by cases n<;>rfl
theorem cv(h):∀q:List Int,isIn (.int h) (q.map .int)=some (decide (h∈q))
 | []=>rfl
 |t::q=>by
  have ih:=cv h q;unfold isIn at ih ⊢;rw[J8,inL,ih];simp only[vO,bind_some,map_some,pe,FL]
theorem sy(n):∀a b:List Int,eqL (eqF n) (a.map .int) (b.map .int)=some (decide (a=b))
 | [],[]=>rfl
 | [],_::_=>rfl
 | _::_,[]=>rfl
 |x::a,y::b=>by
  rw[J8,J8,eqL,sy n a b];simp only[vO,bind_some,map_some]
  congr 1
  rw[KR];simp
def Dj(n)(a b):eqF (n+1) (ofS a) (ofS b)=some (decide (a=b)):=sy n a b
theorem Dk(n):∀a b:List (List Int),eqL (eqF (n+1)) (a.map ofS) (b.map ofS)=some (decide (a=b))
 | [],[]=>rfl
 | [],_::_=>rfl
 | _::_,[]=>rfl
 |x::a,y::b=>by
  rw[J8,J8,eqL,Dk n a b,Dj]
  simp_all
def Ia(n)(a b):eqF (n+2) (ofR a) (ofR b)=some (decide (a=b)):=Dk n a b
theorem uA(h):∀q:List (List Int),isIn (ofS h) (q.map ofS)=some (decide (h∈q))
 | []=>rfl
 |t::q=>by
  have ih:=uA h q;unfold isIn at ih ⊢;rw[J8,inL,ih,Dj 99];simp only[bind_some,map_some,pe,FM]
noncomputable def b8:R->Option PV
 | .next _=>some .non
 | .ret v=>some v
 | .retF xs=>some (.lst xs)
 | _=>none
def am(hd:ds[f]?=some d)(q:args.length=d.params.length):ab ds (n+1) f args=b8 (exs (ab ds n) d.body (args.map some++replicate (d.names.length-args.length) none)):=by
 rw[ab,hd];simp[q]
 rfl
noncomputable def FN:R->Option PV
 | .retT v G=>wJ v G
 | _=>none
def wX{ds:List MD}{n f:Nat}{d:MD}{args:List MV}(z:f<1000)(hn:ds[f+3000]?=none)(hd:ds[f]?=some d)(q:args.length=d.params.length):ab ds (n+1) (f+3000) args=FN (exs (ab ds n) d.body (args.map some++replicate (d.names.length-args.length) none)):=by
 rw[ab,hn];dsimp only;rw[if_neg (by omega),if_pos (by omega)];rw[K6,hd];simp only[q,if_true];unfold FN
 rfl
@[simp] theorem Gy(xs)(k):(R.retF xs).andThen k=.retF xs:=rfl
@[simp] theorem pM(v):bY (some (.val v))=some v:=rfl
@[simp] theorem Gz(v):bY (some (.own v))=some (.lst v):=rfl
@[simp] theorem GA(v):bY (some (.brw v))=some (.lst v):=rfl
@[simp] theorem uB(v):bY (some (.ownD v))=some (.dI v):=rfl
@[simp] theorem FO(v):bY (some (.brwD v))=some (.dI v):=rfl
@[simp] theorem FQ(v):fZ (some (.ownD v))=some (.brwD v):=rfl
@[simp] theorem FR(v):fZ (some (.brwD v))=some (.brwD v):=rfl
@[simp] theorem FU(v):dY (some (.ownD v))=some (.brwD v):=rfl
@[simp] theorem FV(v):dY (some (.brwD v))=some (.brwD v):=rfl
@[simp] theorem FX(i):sc? (.int i)=some (.int i):=rfl
@[simp] theorem J5(i):sc? (.bl i)=some (.bl i):=rfl
@[simp] theorem JJ:sc? .non=some .non:=rfl
@[simp] theorem JK(i):(Sc.int i).pv=.int i:=rfl
@[simp] theorem J6(i):(Sc.bl i).pv=.bl i:=rfl
@[simp] theorem GB(v):yI (some (.val v))=some v:=rfl
@[simp] theorem GC(v):fZ (some (.val v))=some (.val v):=rfl
@[simp] theorem GD(v):fZ (some (.own v))=some (.brw v):=rfl
@[simp] theorem GE(v):fZ (some (.brw v))=some (.brw v):=rfl
@[simp] theorem GF(v):dY (some (.val v))=some (.val v):=rfl
@[simp] theorem GG(v):dY (some (.own v))=some (.brw v):=rfl
@[simp] theorem GH(v):dY (some (.brw v))=some (.brw v):=rfl
@[simp] theorem GI(b):ba (.bl b)=some b:=rfl
@[simp] theorem IT(i j):gG .add (.int i) (.int j)=some (.int (i+j)):=rfl
@[simp] theorem IU(i j):gG .sub (.int i) (.int j)=some (.int (i-j)):=rfl
@[simp] theorem IV(i j):gG .mul (.int i) (.int j)=if (-(2 ^ 64)<i/\i<2 ^ 64)\/(-(2 ^ 64)<j/\j<2 ^ 64)then some (.int (i*j))else none:=rfl
@[simp] theorem zL(i j):gG .fdiv (.int i) (.int j)=if 0<j/\j<1073741824 then some (.int (i / j))else none:=rfl
@[simp] theorem e_(i j):gG .mod (.int i) (.int j)=if 0<j then some (.int (i % j))else none:=rfl
@[simp] theorem IW(x y):gG .add (.lst x) (.lst y)=if x.length+y.length<=10000 then some (.lst (x++y))else none:=rfl
@[simp] theorem JL(i j):cN .lt (.int i) (.int j)=some (decide (i<j)):=rfl
@[simp] theorem JM(i j):cN .le (.int i) (.int j)=some (decide (i<=j)):=rfl
@[simp] theorem JN(i j):cN .gt (.int i) (.int j)=some (decide (j<i)):=rfl
@[simp] theorem JO(i j):cN .ge (.int i) (.int j)=some (decide (j<=i)):=rfl
@[simp] theorem FY(x y):cN .eq x y=eqF 100 x y:=rfl
@[simp] theorem JP(x y):cN .ne x y=if tZ x y=true then(eqF 100 x y).map (λp=>!p)else none:=rfl
@[simp] theorem B_(x):cN .isN x .non=some (iG x):=rfl
@[simp] theorem Ib(x):cN .notN x .non=some (!iG x):=rfl
@[simp] theorem Ca(x)(xs):cN .isIn x (.tup xs)=isIn x xs:=rfl
@[simp] theorem IX(x)(xs):cN .isIn x (.lst xs)=isIn x xs:=rfl
@[simp] theorem Ic(x)(xs):cN .notIn x (.tup xs)=(isIn x xs).map λp=>!p:=rfl
@[simp] theorem Ie(x)(xs):cN .notIn x (.lst xs)=(isIn x xs).map λp=>!p:=rfl
@[simp] theorem JQ(n)(i j):eqF n (.bl i) (.bl j)=some (i==j):=by cases n<;>rfl
@[simp] theorem mR(n)(i j):eqF n (.str i) (.str j)=some (i==j):=by cases n<;>rfl
@[simp] theorem IY(x y):tZ (.tup x) (.tup y)=true:=rfl
@[simp] theorem IZ(x y):tZ (.lst x) (.lst y)=true:=rfl
@[simp] theorem I0(x y):tZ (.int x) (.int y)=true:=rfl
@[simp] theorem I_(x y:Str):tZ (.str x) (.str y)=true:=rfl
@[simp] theorem Cc(x):b_ (.tup x)=some x:=rfl
@[simp] theorem qJ(x):b_ (.lst x)=some x:=rfl
@[simp] theorem Ig(x):aM .len [.tup x]=some (.int x.length):=rfl
@[simp] theorem Ih(x):aM .len [.lst x]=some (.int x.length):=rfl
@[simp] theorem Ii(x):aM .len [.dI (.k x)]=some (.int x.length):=rfl
@[simp] theorem Ja(x):aM .tupleOf [x]=(b_ x).map .tup:=rfl
@[simp] theorem Ij(x):aM .listOf [x]=(b_ x).map .lst:=rfl
@[simp] theorem jF(x):aM .sorted [x]=(b_ x).bind iH:=rfl
@[simp] theorem Cd(x):aM .any [.lst x]=(gm x).map λbs=>.bl (bs.any id):=rfl
@[simp] theorem Jb(x):aM .all [.lst x]=(gm x).map λbs=>.bl (bs.all id):=rfl
@[simp] theorem Ik(i):aM .intOf [.int i]=some (.int i):=rfl
@[simp] theorem Il(b):aM .intOf [.bl b]=some (.int (if b then 1 else 0)):=rfl
@[simp] theorem Jc(i):isD (.int i)=false:=rfl
@[simp] theorem JR(i):isD (.bl i)=false:=rfl
@[simp] theorem Jd(i):isD (.str i)=false:=rfl
@[simp] theorem Je(i):isD (.tup i)=false:=rfl
@[simp] theorem Jf(i):isD (.lst i)=false:=rfl
@[simp] theorem Jg:isD .non=false:=rfl
@[simp] theorem GJ(x):aM .isInt [x]=if isD x=true then none else some (.bl (isT .isInt x)):=rfl
@[simp] theorem AN(i):isT .isInt (.int i)=true:=rfl
@[simp] theorem Ce(i):isT .isInt (.bl i)=true:=rfl
@[simp] theorem AO(i):isT .isInt (.str i)=false:=rfl
@[simp] theorem AQ(i):isT .isInt (.lst i)=false:=rfl
@[simp] theorem AR(i):isT .isInt (.tup i)=false:=rfl
@[simp] theorem AS:isT .isInt .non=false:=rfl
@[simp] theorem FZ(x):aM .isBool [x]=if isD x=true then none else some (.bl (isT .isBool x)):=rfl
@[simp] theorem zM(i):isT .isBool (.int i)=false:=rfl
@[simp] theorem AT(i):isT .isBool (.bl i)=true:=rfl
@[simp] theorem zN(i):isT .isBool (.str i)=false:=rfl
@[simp] theorem zO(i):isT .isBool (.lst i)=false:=rfl
@[simp] theorem zP(i):isT .isBool (.tup i)=false:=rfl
@[simp] theorem zQ:isT .isBool .non=false:=rfl
@[simp] theorem GK(x):aM .isStr [x]=if isD x=true then none else some (.bl (isT .isStr x)):=rfl
@[simp] theorem AU(i):isT .isStr (.int i)=false:=rfl
@[simp] theorem Cf(i):isT .isStr (.bl i)=false:=rfl
@[simp] theorem AV(i):isT .isStr (.str i)=true:=rfl
@[simp] theorem AW(i):isT .isStr (.lst i)=false:=rfl
@[simp] theorem AX(i):isT .isStr (.tup i)=false:=rfl
@[simp] theorem AY:isT .isStr .non=false:=rfl
@[simp] theorem F1(x):aM .isList [x]=if isD x=true then none else some (.bl (isT .isList x)):=rfl
@[simp] theorem zR(i):isT .isList (.int i)=false:=rfl
@[simp] theorem AZ(i):isT .isList (.bl i)=false:=rfl
@[simp] theorem zS(i):isT .isList (.str i)=false:=rfl
@[simp] theorem zT(i):isT .isList (.lst i)=true:=rfl
@[simp] theorem zU(i):isT .isList (.tup i)=false:=rfl
@[simp] theorem zV:isT .isList .non=false:=rfl
@[simp] theorem Dl(x):aM .isTuple [x]=if isD x=true then none else some (.bl (isT .isTuple x)):=rfl
@[simp] theorem xu(i):isT .isTuple (.int i)=false:=rfl
@[simp] theorem zW(i):isT .isTuple (.bl i)=false:=rfl
@[simp] theorem xv(i):isT .isTuple (.str i)=false:=rfl
@[simp] theorem xw(i):isT .isTuple (.lst i)=false:=rfl
@[simp] theorem xy(i):isT .isTuple (.tup i)=true:=rfl
@[simp] theorem xz:isT .isTuple .non=false:=rfl
@[simp] theorem Im(xs):aM .max1 [.lst xs]=(cB xs).bind λns=>(Hm ns).map .int:=rfl
@[simp] theorem F2(d):aM .valuesOf [.dI d]=if (vk d).length<=10000 then some (.lst (vk d))else none:=rfl
@[simp] theorem zX(kvs):aM .sortedKeys [.dI (.k kvs)]=if kvs.length<64 then some (ofL (sortI (kvs.map (·.1))))else none:=rfl
@[simp] theorem JS(kvs)(i):t4 (.dI (.k kvs)) (.int i)=some (bE kvs i):=rfl
@[simp] theorem uC(kvs)(ns):t4 (.dI (.t kvs)) (.tup (ns.map .int))=some (bE kvs ns):=by
 show(cB _).map _=_;rw[fm]
 rfl
@[simp] theorem JT(kvs)(i)(s):rP (.k kvs) (.int i) s=if kvs.length<10000 then some (.k (bU kvs i s))else none:=rfl
@[simp] theorem F3(kvs)(ns)(s):rP (.t kvs) (.tup (ns.map .int)) s=if kvs.length<10000 then some (.t (bU kvs ns s))else none:=by
 show((cB _).bind λk=>if kvs.length<10000 then some _ else none)=_;rw[fm]
 rfl
@[simp] theorem Jh(p q):cN .isN (.bl p) (.bl q)=some (p==q):=rfl
@[simp] theorem Io(p q):cN .notN (.bl p) (.bl q)=some (!(p==q)):=rfl
@[simp] theorem Cg(xs):aM .tupleRev [.lst xs]=some (.tup xs.reverse):=rfl
@[simp] theorem oT(x):aM .sortedSet [x]=(b_ x).bind λxs=>(cB xs).bind λns=>if ns.length<=4000/\(dd ns).length<64 then some (.lst ((sortI (dd ns)).map .int))else none:=rfl
@[simp] theorem Ip(x)(i):kf (.lst x) (.int i)=(place x.length i).bind λj=>x[j]?:=rfl
@[simp] theorem zY(x)(i):kf (.tup x) (.int i)=(place x.length i).bind λj=>x[j]?:=rfl
@[simp] theorem Ji(x)(lo hi):kg (.lst x) lo hi=some (.lst (cut x lo hi)):=rfl
@[simp] theorem Jj(i j):bnd (.cst (.int i)) (.int j)=some (some j):=rfl
@[simp] theorem Ch(x):bq .seq [x]=b_ x:=rfl
def Ci(j):bq .rng [.int j]=if -(2 ^ 62)<=j/\j<2 ^ 62 then some ((range j.toNat).map λk=>.int ((0:Int)+k))else none:=rfl
@[simp] theorem ah(G)(k):(R.next G).andThen k=k G:=rfl
@[simp] theorem Iq(v)(k):(R.ret v).andThen k=.ret v:=rfl
@[simp] theorem Ir(k):R.bad.andThen k=.bad:=rfl
@[simp] theorem Iu(G)(k):(R.brk G).andThen k=.brk G:=rfl
@[simp] theorem GL(G)(k):(R.cont G).andThen k=.cont G:=rfl
@[simp] theorem n9(v)(k):eJ (some v) k=k v:=rfl
@[simp] theorem du(v)(k):yJ (some v) k=k v:=rfl
@[simp] theorem F4(v)(k):dG (some v) k=k v:=rfl
@[simp] theorem GM(v):b8 (.ret v)=some v:=rfl
@[simp] theorem F5(G):b8 (.next G)=some .non:=rfl
@[simp] theorem bj(a)(l)(m):put (a::l) 0 m=some m::l:=rfl
@[simp] theorem bm(a)(l)(n)(m):put (a::l) (n+1) m=a::put l n m:=rfl
@[simp] theorem bn(src)(q G):(R.next G).back src q=.next (aS src q G):=rfl
@[simp] theorem Iv(src)(q)(v):(R.ret v).back src q=.ret v:=rfl
@[simp] theorem GN(body)(G):aQ body [] G=.next G:=rfl
def cV(h0:0<=j)(h1:j<4611686018427387904):bq .rng [.int j]=some ((range j.toNat).map λk=>.int (k:Int)):=by
 rw[Ci,if_pos ⟨by omega,by exact ‹_›⟩]
 congr 1
 simp_all
def eM{n:Nat}{i:Int}(h0:0<=i)(h:i<n):place n i=some i.toNat:=by unfold place;rw[if_pos h0,if_pos h]
def leT(a b:List Int):Prop:=lexLt b a=false
theorem sortI_perm(l):(sortI l).Perm l:=by rw[dM];exact L2.Srt.sortI_perm l
theorem sortT_perm(l):(sortT l).Perm l:=by rw[fG];exact L2.Srt.sortT_perm l
def sortI_len(l):(sortI l).length=l.length:=(sortI_perm l).length_eq
def sortT_len(l):(sortT l).length=l.length:=(sortT_perm l).length_eq
def d7 :x∈sortI l ↔ x∈l:=(sortI_perm l).mem_iff
def i9 :x∈sortT l ↔ x∈l:=(sortT_perm l).mem_iff
theorem sortI_rises(l):(sortI l).Pairwise (· <= ·):=by rw[dM];exact L2.Srt.sortI_rises l
theorem sortT_rises(l):(sortT l).Pairwise leT:=by
 rw[fG];exact(L2.Srt.sortT_rises l).imp λh=>by unfold leT;rw[kG];exact h
theorem sortI_id(h:l.Pairwise (· <= ·)):sortI l=l:=by rw[dM];exact L2.Srt.sortI_id h
theorem sortT_id(h:l.Pairwise leT):sortT l=l:=by
 rw[fG];exact L2.Srt.sortT_id (h.imp λh=>by unfold leT at h;rw[kG]at h;exact h)
theorem sortT_of_perm(p:a.Perm b):sortT a=sortT b:=by rw[fG,fG];exact L2.Srt.sortT_of_perm p
theorem sortI_of_perm(p:a.Perm b):sortI a=sortI b:=by rw[dM,dM];exact L2.Srt.sortI_of_perm p
def kN(h:l.Nodup):(sortI l).Pairwise (· < ·):=by
 have h1:=sortI_rises l;have h2:=(sortI_perm l).nodup_iff.mpr h;exact(h1.and h2).imp λq=>qV q λa b=>by omega
def F6 :k∈dd l ↔ k∈l:=by rw[sd];exact L2.St.jv
theorem dd_nodup(l):(dd l).Nodup:=by rw[sd];exact L2.St.dd_nodup l
def dO{l:List Int}(h:l.Pairwise (· < ·)):l.Nodup:=h.imp λ{a b} q=>by omega
def pN(q:List Int):Prop:=q.Pairwise (· < ·)/\∀h∈q,0<=h/\h<=59
def aY(R:List (List Int)):Prop:=(∀q∈R,pN q)/\R.Pairwise leT/\R.length<=60
theorem uD:∀(n:Nat) (l:List Int),l.Nodup->(∀x∈l,0<=x/\x<(n:Int))->l.length<=n
 |0,l,_,h=>by
  cases l with
  |nil=>simp
  |cons x r=>have:=h x (.head _);omega
 |n+1,l,hn,h=>by
  have h1:=uD n (l.filter λx=>decide (x≠(n:Int))) (hn.filter _) (λx hx=>by
   obtain⟨h2,h3⟩:=J9.mp hx;have h4:=Kl h3;have:=h x h2;omega)
  have h2:∀l:List Int,l.Nodup->l.length<=(l.filter λx=>decide (x≠(n:Int))).length+1:=by
   intro l
   induction l with
   |nil=>intro _;simp
   |cons x r ih =>
    intro hn;by_cases e:x=(n:Int)
    .have q:r.filter (λx=>decide (x≠(n:Int)))=r:=Mo.mpr λy D=>Ka λz=>(KA.mp hn).1 (by rw[e,<- z];exact D)
     rw[L3 (by simp[e]),q];simp
    .rw[Mu (by simp[e])];have:=ih (KA.mp hn).2;simp only[length_cons];exact(MC ‹_›)
  have:=h2 l hn;omega
def gM(h:pN q):q.length<=60:=uD 60 q (dO h.1) λx hx=>by have:=h.2 x hx;omega
noncomputable def n_(ns:List Int)(lo hi:Option Int):List Int:=(ns.drop (fY ns.length 0 lo)).take (fY ns.length ns.length hi-fY ns.length 0 lo)
@[simp] theorem Iw(ns)(lo hi):cut (ns.map .int) lo hi=(n_ ns lo hi).map .int:=by
 unfold cut n_
 simp_all
def zZ(ns)(ha:0<=a)(q:0<=b):(n_ ns (some a) (some b)).length<=(b-a).toNat:=by
 unfold n_;rw[Mp,length_drop];have z:fY ns.length ns.length (some b)=min b.toNat ns.length:=by show(if b<0 then _ else _)=_;rw[if_neg (Int.not_lt.mpr q)]
 have D:fY ns.length 0 (some a)=min a.toNat ns.length:=by show(if a<0 then _ else _)=_;rw[if_neg (Int.not_lt.mpr ha)]
 rw[z,D];obtain⟨A,rfl⟩:=Int.eq_ofNat_of_zero_le ha;obtain⟨B,rfl⟩:=Int.eq_ofNat_of_zero_le q;rw[Int.toNat_sub,Int.toNat_natCast,Int.toNat_natCast];refine xb (Nat.min_le_left _ _) ?_;rcases Nat.le_total A ns.length with h|h
 .rw[LR h];exact Nat.sub_le_sub_right (Nat.min_le_left _ _) A
 .rw[Nat.min_eq_right h,Nat.sub_eq_zero_of_le (Nat.min_le_right _ _)];exact Ki _
end MM
structure PySem.W.Fast:Prop where (tw13429384374156946296 tw2335455331485049807 tw1080458629976648573 tw4905303692716824766 tw11752921362586721593 tw12423890288367403726 tw65451954592460774 tw6098435050711103207 tw3635792390801917523 tw6927410465641430256 tw17092382908278693004 tw12050170564989596979 tw9717032841357092209 tw11943111142160207145 tw2823872905529455323 tw9343144954423212077 tw10120673956750666819 tw8899112151783957962 tw17380470286621239199 tw10427716395593676595 tw816785549332981684 tw11664849715520805236 tw1304473201153869864 tw8111547154522300234 tw4398381536087384230 tw11681709980418544733 tw932272773213688191 tw13659630753901042791 tw9945279177108920444 tw6488383745887809442 tw12015375766360749377 tw13293686206942624542 tw9269228743232457647 tw13556343712754508249 tw5641090367991735929 tw13652112779821113152 tw7254659656802898209 tw12882422625070178044 tw12997848701151013351 tw15267304804855025652 tw10174075805581910970 tw4004557951088866695 tw2554960556853904168 tw6170181264340340018 tw7051773230044642565 tw9986396406148722892 tw16735997311898413432 tw2887242984198768127 tw9273950535738905099 tw3361712385975315809 tw2477515438131065166 tw11154116736106393734 tw10820507399298939595 tw9172869441409584776 tw11316504529458902448 tw9369174504182245841 tw14639049790010575042 tw4253024095084031255 tw14326273544652182928 tw10304417425427886578 tw6759012873852391332 tw8096103649620932877 tw7530505110170377014 tw1113827309510849982 tw348394070205953459 tw13230977559082931909 tw2415725846496033671 tw9459055120540816603 tw16696149930296124851 tw6216070112953459056 tw7676435220073626084 tw2636995478325365100 tw4150576572693414450 tw8322424821210526903 tw17097719520032187975 tw1384515013568538208 tw15634318620136239032 tw3188981563637112151 tw9272586537196483103 tw17622490257834709720 tw7557731892644867117 tw10908551035330030877 tw2633183595198159384 tw14018285047855350705 tw9783899549072686214 tw4529465899961052845 tw14110105440180045160 tw9481935256546615039 tw11270051254509381448 tw10734402712254879042 tw6764233428281463220 tw9118057283608699829 tw9744999163873399702 tw1595919838926528252 tw1779626732484931579 tw3994195350022215533 tw5594019543028784757 tw17615552153443432087 tw6941609747468718807 tw4371493392898803522 tw1408797810320496185 tw7493638194705071239 tw9287541754863492126 tw16824478224937329257 tw14525357543314494559 tw12078830073426462447 tw8522600272187063564 tw4439714382719663559 tw13427324350076508132 tw18129448410854693738 tw10336879607986195682 tw5891714913704845630 tw628047483139159593 tw4727131252895775090 tw15260535831642651294 tw4755558301858348260 tw3930410610296452509 tw8720292498938038388 tw6399895834320458684 tw2472029871925610917 tw10119520399439995891 tw15905703333196328380 tw8022473243784894396 tw12184853663679575493 tw9041747343937989173 tw15480270597508537737 tw1955495277726047721 tw13746215350750315028 tw17210371590198800264 tw15943926444703232366 tw13581618633236183561 tw16958128662193207743 tw5749648253650747571 tw5813030717163529013 tw16650279185128150573 tw16992152117712200838 tw5116916172195885422 tw12802909016162585632 tw12859352071771680071 tw11708829200743278895 tw8320532425322020130 tw16438670941095902588 tw16229042432863440556 tw10530455583372325688 tw16899443479150642074 tw10282073146989346664 tw15474893606676226302 tw3885983318025904824 tw3466114914097768332 tw197539850313734880 tw581039353610265819 tw658373448463901397 tw13343172867717896796 tw15097674715485331850 tw15815703499989443696 tw9578929078378883484 tw12479055682378076110 tw5115350760716990324 tw12587648326037975938 tw2149877618661838149 tw1457748708654258878 tw12718586329068469404 tw14556499851957595847 tw9132033003516249893 tw3488457499191838445 tw10273519501492641217 tw7352615334123859934 tw8919966301472946005 tw8130573017036400353 tw6091043750466397798 tw14589229898108284819 tw4671127568039076207 tw1718831085682264647 tw5899206546106489110 tw17742761659339048284 tw17712620718619887855 tw15489083451011182197 tw17289430949849239286 tw5526421785910614251 tw1800186943202860099 tw11802998057074637045 tw775386384786196651 tw4475688607932715500 tw18377478331241637537 tw15017162139795325510 tw3024707200805311470 tw5613390173049443930 tw1532777262994237529 tw1450058133253869233 tw12545747571064533558 tw13024342142966775046 tw3390538237540233246 tw9851397152005143240 tw6027014539438679379 tw16761206318095583975 tw6855891617093618748 tw17141891381231445425 tw1684886284663927322 tw3743343136102194498 tw14186675523983289625 tw11055090342237722706 tw3723170549070669098 tw1786468880150253047 tw17584266930876599210 tw5363742836022585276 tw9737405621890816685 tw4589374557969635242 tw2058193237810510665 tw6480007871462410516 tw17660168861017588613 tw1469938995285313387 tw9537637288913270756 tw2791446284223772935 tw5836387467832361408 tw15821379207494323162 tw17825534309539272455 tw16721808258352482241 tw8608239067778778058 tw18362093139847362050 tw17466856249765437327 tw13600617025636339543 tw1246466204109002392 tw2591619123184922196 tw10461335642860868653 tw10569013598779023455 tw5059782283799447928 tw2035992315372882624 tw16964746073782033780 tw17386701233538367929 tw481850656936111296 tw3946392739586730038 tw4079988733944203190 tw4856953766131170762 tw5302156997414028478 tw1196558391412923723 tw4097305893144781113 tw1439729532817279090 tw15460789008176005264 tw2552284160099629328 tw7390924583772904466 tw8011460658257694730 tw1349978372899446981 tw7143593752823996892 tw14001982956167530817 tw3138095457194705890 tw7882248466882945576 tw9358614409132019566 tw8616005471692843411 tw16727172601521947328 tw4235542852519188152 tw1025988141292302682 tw17648454586689136582 tw14186425463715230457 tw467973444060362961 tw6141054888697657458 tw12697407674557982751 tw7280833212598763719 tw13159723038420001385 tw12121861075641004384 tw14926669580066347888 tw814632467157420241 tw117854217479667577 tw4020022556285251172 tw15118833770951737030 tw9999879924590780990 tw6895133686398706259 tw7135209315765666644 tw7828772508252445649 tw2445015627095157937 tw2641778916122613807 tw4972511572944116486 tw4594005207231843489 tw6720961918076025858 tw982411525277425963 tw16935127003909888193 tw6815098394172773185 tw4563699411218971982 tw269787839224331564 tw4846207895541381449 tw8776147943992747114 tw10690412638379230924 tw4552133807305262125 tw16489831706813336099 tw1291276473984323576 tw4834620816045204441 tw5290658106121012613 tw13987640995590462995 tw258208098296799647 tw3123477145283477478 tw8837347995667737932 tw13305212408909993405 tw2382185993716404626 tw13015909925835158466 tw13070880289122481243 tw3577150894322689751 tw7623401666741763277 tw6875717901065266817 tw5815898960543751537 tw16868915379202526437 tw2576904847958400626 tw1773129690425916991 tw2463149422298756003 tw441647151255115968 tw17415921282716744280 tw15509820814960556621 tw4651329828540566480 tw8546679372860210517 tw17379020576412756939 tw18144791600555150418 tw12145201448940126815 tw8637273156700811127 tw13659467031986631074 tw16023995407200343727 tw12582211569929462472 tw7904670586634354317 tw9435902378932741240 tw9027525557337936844 tw5362922314737097181 tw5172913359586704929 tw4241186073532702673 tw9008117500469297903 tw4625038863166552693 tw1948571494099238910 tw16194127811125150116 tw9178022119024087603 tw12657636361122158609 tw6334069116839881965 tw11663956698941255947 tw14139544370465357764 tw11500204720647609541 tw11363024031037843618 tw12064151877366562216 tw1403610434936060905 tw8185992113222059094 tw3777111404611988585 tw4813793635602729281 tw7068252377731135072 tw17615073292910538504 tw9582617303139908006 tw3634847192076950828 tw2542693676130216730 tw1335189321626739647 tw636907316167560070 tw12211114687436080383 tw16317393369832298245 tw17558531160016315259 tw5288224035040291687 tw12711290897485352636 tw9079353243288368919 tw4445571718115793693 tw2137732620340365442 tw1706642533192146441 tw5362515994212659090 tw16548080556088682578 tw10924872375771675087 tw5771167841539001612 tw92808354103811639 tw8168490185849671744 tw9493024092358745668 tw13813737889507121149 tw944941658047570169 tw9684509109049332853 tw2103454208813907641 tw11554080912457678983 tw6849998437280455469 tw15350995229829287786 tw16999314116569864983 tw7371306468580302017 tw10411327987422724616 tw16987002350540927918 tw17237918112005213139 tw11019793890487471424 tw2198956358733317017 tw15734899182330409087 tw9517857074369424408 tw12216548303523815216 tw5611513100180213476 tw14206145959922524057 tw11380667746059053688 tw18348421848944218007 tw7008254715409200925 tw6952149181434880966 tw10672617940562613587 tw6572710958703806158 tw4112090144296093744 tw15846010339467023049 tw15646377827847129631 tw9319354097312731885 tw15122178541844476260 tw6265740818626331426 tw16119034251721727853 tw380877245379862816 tw3262385338251438022 tw2724375472179248288 tw591952019208413100 tw13761664400502546915 tw1042977467534162452 tw6975237873284610555 tw4913237473854264440 tw4267866577282967722 tw4471948015228573784 tw12637182220940779487 tw5940661719554528481 tw1201453781404184787 tw8410499751689928301 tw6886307743021461919 tw3379274723120055141 tw12244867085436633983 tw353782762852044043 tw14731701277599815753 tw5125778812695428304 tw16753124719717553016 tw1884524079784871358 tw9588198270380401347 tw7972334143380299731 tw13422551841483850064 tw17389947119827841186 tw3547695948703587148 tw13928783629020515848 tw4694492105261466990 tw856501858076838216 tw1721081175771342692 tw17315258222002088132 tw1575331693745100435 tw5428345907420567797 tw12488259510440255222 tw14360880585754399198 tw5805864886910175638 tw17291962789329523442 tw4538621861302418357 tw1650251547600239404 tw17582765120094724494 tw2947121431069998418 tw5706888366903766640 tw5700744262497067158 tw4429232201623991754 tw7671685064932614211 tw11624551143242777613 tw7920826527267433697 tw14026785796190160013 tw11236315544481822905 tw6111300061966848940 tw12237229901023259390 tw11038382411433390342 tw10979556645743792663 tw8861567075846477853 tw13437650918920000755 tw1084001472055513702 tw13995434461165499813 tw16757769656320328327 tw1155718916786365641 tw16624126448797899546 tw6789284299372519580 tw18131366450669915086 tw2530098115624298555 tw11176672701255998034 tw13679771422029880420 tw17156255890113554240 tw4213233572323921655 tw6737029014421033876 tw15770276063312607151 tw1267635379260170662 tw7137742012496452099 tw15014316123529810501 tw3409349475229118270 tw4313044960108901901 tw7928864167136426273 tw1175727866419408527 tw5296642786112795086 tw9552653699157638833 tw16162644827186347971 tw18269516021898117740 tw14655149204446349233 tw8014635927095040160 tw377315549702279567 tw12373898994262808808 tw3386934464490562948 tw6982473233128642102 tw3512451881338112334 tw9891177434333869449 tw7427090008775720339 tw17955310614575403435 tw10932874097786098381 tw8570820400594570214 tw1963237453564668146 tw2261027215794379866 tw4054173416764014776 tw7259394298713382568 tw14674171733378328924 tw624823642372445438 tw5995503226998214724 tw15394473345598074640 tw17005168733823656782 tw15393808448223063567 tw8944933460329604865 tw9165991255795678011 tw1383472139499961688 tw17554595820213293111 tw2701673191404675511 tw1507687253029101900 tw8238319534932432203 tw3112031668964783320 tw16735466523069164616 tw14982403020288680059 tw9603855380730407600 tw11314770596804066311 tw10416960235990889708 tw15619799001592219399 tw3858644329569775358 tw4464142983034130482 tw16790487028301823074 tw14390699435033862097 tw4884463135135402094 tw16062076995816703261 tw5440514865183109577 tw2803015330805374139 tw2373578286437456521 tw17027210438297613838 tw5330844851524157370 tw14001103206960225290 tw8342546196042240828 tw11668383510864130268 tw8468769329025785457 tw10314630178040728610:True)
namespace My
open PySem L2 MM List Option
noncomputable abbrev ix(a:Nat)(b:Int):ME:=.idx (.bor a) (.cst (.int b))
noncomputable abbrev sv(x:PV):Option MV:=some (.val x)
abbrev LL:=List (List Int)
noncomputable abbrev ci(x:Int):ME:=.cst (.int x)
noncomputable abbrev cs(x:Str):ME:=.cst (.str x)
noncomputable def cf:MD:=⟨"is_number_below",["thing","bound"],["thing","bound"],
  [.ite (.or (.blt .isBool [.bor 0]) (.not (.blt .isInt [.bor 0])))
   [.ret (.cst (.bl false))]
   [],
  .ret (.chain .le .lt (ci 0) (.bor 0) (.bor 1))],none⟩
noncomputable def eT:MD:=⟨"strip_without",["strip","hole"],["strip","hole"],
  [.ret (.blt .tupleOf [(.comp .seq [.bor 0] [1] (.cmp .ne (.bor 0) (.bor 1)) (.var 0))])],none⟩
noncomputable def lH:MD:=⟨"knotted",["rest","hole"],["rest","hole"],
  [.ret (.blt .tupleOf [(.blt .sorted [(.comp .seq [.bor 0] [1] (.cst (.bl true)) (.call 1 [.bor 0,.bor 1]))])])],none⟩
noncomputable def og:MD:=⟨"bitten",["rest","hole"],["rest","hole"],
  [.ret (.blt .tupleOf [(.comp .seq [.bor 0] [1] (.cmp .notIn (.bor 1) (.bor 0)) (.var 0))])],none⟩
noncomputable def jG:MD:=⟨"is_whole",["rest"],["rest"],
  [.ret (.cmp .isIn (.tup []) (.bor 0))],none⟩
noncomputable def lI:MD:=⟨"is_bare",["rest"],["rest"],
  [.ret (.cmp .eq (.blt .len [.bor 0]) (ci 0))],none⟩
noncomputable def g9:MD:=⟨"other_hand",["hand"],["hand"],
  [.ret (.ite (.cmp .eq (.bor 0) (cs "weaver")) (cs "moth") (cs "weaver"))],none⟩
noncomputable def oh:MD:=⟨"behind",["rest","hand","reply"],["rest","hand","reply"],
  [.ite (.cmp .isN (.bor 2) (.cst .non))
   [.ret (.var 0)]
   [],
  .ret (.ite (.cmp .eq (.bor 1) (cs "weaver")) (.call 2 [.bor 0,.bor 2]) (.call 3 [.bor 0,.bor 2]))],none⟩
noncomputable def gr:MD:=⟨"behind_both",["rest","hand","hole","reply"],["rest","hand","hole","reply"],
  [.ret (.call 7 [(.call 7 [.bor 0,(.call 6 [.bor 1]),.bor 2]),.bor 1,.bor 3])],none⟩
noncomputable def iJ:List MS:=[.ite (.cmp .eq (ix 2 0) (.bor 1))
   [.ret (ix 2 1)]
   [],
  .ite (.cmp .eq (ix 2 1) (.bor 1))
   [.ret (ix 2 0)]
   []]
noncomputable def uE:MD:=⟨"mate",["pairs","hole"],["pairs","hole","pair"],
  [.for1 2 .seq [.bor 0] iJ,
  .ret (.cst .non)],none⟩
noncomputable def fH:MD:=⟨"strip_weight",["strip"],["strip"],
  [.ret (.bin .shr (.glob "UNIT" (.int 1152921504606846976)) (.blt .len [.bor 0]))],none⟩
noncomputable def pO:List MS:=[.dput 1 (.bor 3) (.bin .add (.dget (.bor 1) (.bor 3) (ci 0)) (.call 10 [.bor 2]))]
noncomputable def pP:List MS:=[.for1 3 .seq [.bor 2] pO]
noncomputable def qK:MD:=⟨"pulls",["rest"],["rest","pull_of","strip","hole"],
  [.newD false 1,
  .for1 2 .seq [.bor 0] pP,
  .retOwn 1],none⟩
noncomputable def cX:List MS:=[.ite (.or (.cmp .isN (.bor 2) (.cst .non)) (.cmp .gt (.dat (.bor 1) (.bor 3)) (.dat (.bor 1) (.bor 2))))
   [.set 2 (.var 3)]
   []]
noncomputable def jH:MD:=⟨"heaviest",["rest"],["rest","pull_of","best","hole"],
  [.set 1 (.call 11 [.bor 0]),
  .set 2 (.cst .non),
  .for1 3 .seq [(.blt .sortedKeys [.bor 1])] cX,
  .ret (.var 2)],none⟩
noncomputable def mS:MD:=⟨"first",["paper","rest","hand"],["paper","rest","hand","word","reply"],
  [.set 3 (ix 0 0),
  .ite (.cmp .eq (.bor 3) (cs "fewer"))
   [.never]
   [],
  .ite (.cmp .eq (.bor 3) (cs "weight"))
   [.set 4 (.call 12 [.bor 1]),
   .ret (.tup [.var 4,(.call 7 [.bor 1,.bor 2,.bor 4]),.var 0])]
   [],
  .ite (.or (.cmp .eq (.bor 3) (cs "bite")) (.cmp .eq (.bor 3) (cs "knot")))
   [.ret (.tup [(ix 0 1),(.call 7 [.bor 1,.bor 2,(ix 0 1)]),(ix 0 2)])]
   [],
  .ret (.tup [.cst .non,.var 1,.var 0])],none⟩
noncomputable def oj:MD:=⟨"answer",["paper","rest","hand","hole"],["paper","rest","hand","hole","word","reply"],
  [.set 4 (ix 0 0),
  .ite (.cmp .eq (.bor 4) (cs "weight"))
   [.set 5 (.call 12 [(.call 7 [.bor 1,(.call 6 [.bor 2]),.bor 3])]),
   .ret (.tup [.var 5,(.call 8 [.bor 1,.bor 2,.bor 3,.bor 5]),.var 0])]
   [],
  .ite (.cmp .eq (.bor 4) (cs "pairs"))
   [.set 5 (.call 9 [(ix 0 1),.bor 3]),
   .ret (.tup [.var 5,(.call 8 [.bor 1,.bor 2,.bor 3,.bor 5]),.var 0])]
   [],
  .ite (.cmp .eq (.bor 4) (cs "cases"))
   [.never]
   [],
  .ite (.cmp .eq (.bor 4) (cs "parts"))
   [.never]
   [],
  .ite (.cmp .eq (.bor 4) (cs "fewer"))
   [.never]
   [],
  .ite (.cmp .eq (.bor 4) (cs "either"))
   [.never]
   [],
  .ret (.tup [.cst .non,.var 1,.var 0])],none⟩
noncomputable def g_:MD:=⟨"_law_cell",["script","k"],["script","k"],
  [.ite (.cmp .lt (.bor 1) (.blt .len [.bor 0]))
   [.ret (.idx (.bor 0) (.bor 1))]
   [],
  .ret (ci 0)],none⟩
noncomputable def iK:MD:=⟨"_law_mixed",["cell","by"],["cell","by"],
  [.ret (.bin .mod (.bin .mul (.bin .mod (.bor 0) (ci 2305843009213693951)) (.bor 1)) (ci 2305843009213693951))],none⟩
noncomputable def de:List MS:=[.ite (.cmp .notIn (.bin .mod (.bor 3) (.bor 1)) (.bor 5))
   [.append 5 (.bin .mod (.bor 3) (.bor 1))]
   [],
  .set 3 (.bin .fdiv (.bor 3) (.bor 1))]
noncomputable def gi:MD:=⟨"_law_strip",["cell","many","most"],["cell","many","most","left","size","strip","k"],
  [.set 3 (.call 16 [.bor 0,(ci 1181783497276652981)]),
  .set 4 (.bin .mod (.bor 3) (.bin .add (.bor 2) (ci 1))),
  .set 3 (.bin .fdiv (.bor 3) (.bin .add (.bor 2) (ci 1))),
  .setOwn 5 (.lst []),
  .for1 6 .rng [.bor 4] de,
  .ret (.blt .tupleOf [(.blt .sorted [.bor 5])])],none⟩
noncomputable def gu:MD:=⟨"_law_knotted",["rest","hole"],["rest","hole"],
  [.ret (.blt .tupleOf [(.blt .sorted [(.comp .seq [.bor 0] [1] (.cst (.bl true)) (.blt .tupleOf [(.comp .seq [.bor 0] [1] (.cmp .ne (.bor 0) (.bor 1)) (.var 0))]))])])],none⟩
noncomputable def hV:MD:=⟨"_law_bitten",["rest","hole"],["rest","hole"],
  [.ret (.blt .tupleOf [(.comp .seq [.bor 0] [1] (.cmp .notIn (.bor 1) (.bor 0)) (.var 0))])],none⟩
noncomputable def iL:MD:=⟨"_law_whole",["found"],["found"],
  [.ret (.and (.blt .isInt [.bor 0]) (.not (.blt .isBool [.bor 0])))],none⟩
noncomputable def fJ:MD:=⟨"_law_taken_by",["taken","begin"],["taken","begin"],
  [.ret (.blt .sorted [(.comp .rng [(.blt .len [.bor 0])] [0,1] (.cmp .eq (.bin .mod (.bor 0) (ci 2)) (.bor 2)) (.idx (.bor 1) (.bor 0)))])],none⟩
noncomputable def dP:List MS:=[.ite (.not (.blt .any [(.comp .seq [.bor 4] [2] (.cst (.bl true)) (.cmp .isIn (.bor 0) (.bor 1)))]))
   [.append 3 (.blt .tupleOf [(.comp .seq [.bor 4] [1] (.cmp .notIn (.bor 0) (.bor 1)) (.var 0))])]
   []]
noncomputable def hW:MD:=⟨"_law_left",["ribbons","knots","bites"],["ribbons","knots","bites","strips","ribbon"],
  [.setOwn 3 (.lst []),
  .for1 4 .seq [.bor 0] dP,
  .ret (.blt .tupleOf [(.blt .sorted [.bor 3])])],none⟩
noncomputable def gN:MD:=⟨"_law_won",["strips"],["strips"],
  [.ite (.cmp .isIn (.tup []) (.bor 0))
   [.ret (cs "weaver")]
   [],
  .ite (.cmp .eq (.bor 0) (.tup []))
   [.ret (cs "moth")]
   [],
  .ret (.cst .non)],none⟩
noncomputable def hX:List MS:=[.dput 2 (.bor 3) (.cst (.bl true))]
noncomputable def jI:MD:=⟨"_law_free",["count","taken"],["count","taken","marks","hole"],
  [.newD false 2,
  .for1 3 .seq [.bor 1] hX,
  .ret (.comp .rng [.bor 0] [2] (.dIn true (.bor 0) (.bor 1)) (.var 0))],none⟩
noncomputable def iM:MD:=⟨"_law_share",["strip"],["strip"],
  [.ret (.idx (.lst [(ci 256),(ci 128),(ci 64),(ci 32),(ci 16),(ci 8),(ci 4),(ci 2),(ci 1)]) (.blt .len [.bor 0]))],none⟩
noncomputable def fM:List MS:=[.set 9 (.blt .max2 [.bor 9,(.bin .add (.dget (.bor 4) (.bor 10) (ci 0)) (.bor 8))])]
noncomputable def iN:List MS:=[.dput 4 (.bor 10) (.bin .add (.dget (.bor 4) (.bor 10) (ci 0)) (.bor 8))]
noncomputable def cw:List MS:=[.set 8 (.call 25 [.bor 7]),
  .set 9 (.var 6),
  .for1 10 .seq [.bor 7] fM,
  .set 11 (.bin .add (.bor 5) (.bor 8)),
  .ite (.bor 1)
   [.set 11 (.bin .add (.bor 11) (.bor 9))]
   [],
  .ite (.cmp .le (.bor 11) (.bor 2))
   [.append 3 (.var 7),
   .set 5 (.bin .add (.bor 5) (.bor 8)),
   .set 6 (.var 9),
   .for1 10 .seq [.bor 7] iN]
   []]
noncomputable def hZ:MD:=⟨"_law_filled",["strips","pulled","room"],["strips","pulled","room","kept","pulls_v","heavy","top","strip","share","more","hole","high"],
  [.setOwn 3 (.lst []),
  .newD false 4,
  .set 5 (ci 0),
  .set 6 (ci 0),
  .for1 7 .seq [.bor 0] cw,
  .retOwn 3],none⟩
noncomputable def iO:List MS:=[.set 8 (.tup [.var 7,(.idx (.bor 5) (.bor 6))]),
  .dput 2 (.bor 8) (.bin .add (.dget (.bor 2) (.bor 8) (ci 0)) (ci 1)),
  .set 4 (.blt .max2 [.bor 4,(.dat (.bor 2) (.bor 8))])]
noncomputable def iP:List MS:=[.dput 3 (.idx (.bor 5) (.bor 6)) (.cst (.bl true)),
  .for1 7 .seq [(.slice (.bor 5) (.cst .non) (.bor 6))] iO]
noncomputable def iQ:List MS:=[.set 1 (.bin .add (.bor 1) (.call 25 [.bor 5])),
  .for1 6 .rng [(.blt .len [.bor 5])] iP]
noncomputable def lJ:MD:=⟨"_law_may",["strips"],["strips","heavy","counts","held","most","strip","k","other","pair"],
  [.set 1 (ci 0),
  .newD true 2,
  .newD false 3,
  .set 4 (ci 0),
  .for1 5 .seq [.bor 0] iQ,
  .ret (.cmp .gt (.bin .mul (ci 4) (.bor 1)) (.bin .mul (.bin .mul (ci 256) (.bor 4)) (.bin .fdiv (.blt .len [.bor 3]) (ci 2))))],none⟩
noncomputable def kO:List MS:=[.dput 1 (.bor 3) (.bin .add (.dget (.bor 1) (.bor 3) (ci 0)) (.call 25 [.bor 2]))]
noncomputable def kQ:List MS:=[.for1 3 .seq [.bor 2] kO]
noncomputable def h_:List MS:=[.ite (.cmp .gt (.dget (.bor 1) (.bor 3) (ci 0)) (.bor 5))
   [.set 4 (.var 3),
   .set 5 (.dat (.bor 1) (.bor 3))]
   []]
noncomputable def jJ:MD:=⟨"_law_best",["strips"],["strips","pulls_v","strip","hole","best","most"],
  [.newD false 1,
  .for1 2 .seq [.bor 0] kQ,
  .set 4 (.cst .non),
  .set 5 (ci 0),
  .for1 3 .rng [(ci 60)] h_,
  .ret (.var 4)],none⟩
noncomputable def lK:MD:=⟨"_law_map",["strips","shift"],["strips","shift"],
  [.ret (.blt .tupleOf [(.blt .sorted [(.comp .seq [.bor 0] [1] (.cst (.bl true)) (.blt .tupleOf [(.blt .sorted [(.comp .seq [.bor 0] [1] (.cst (.bl true)) (.bin .mod (.bin .add (.bin .mul (ci 7) (.bor 0)) (.bor 1)) (ci 60)))])]))])])],none⟩
noncomputable def iR:List MS:=[.set 5 (.bin .mod (.call 16 [.bor 4,(ci 2049848353892358983)]) (.bor 1)),
  .append 3 (.blt .tupleOf [(.blt .sortedSet [(.bin .add (.call 17 [.bor 4,.bor 2,(ci 4)]) (.tup [(.bin .mul (ci 2) (.bor 5)),(.bin .add (.bin .mul (ci 2) (.bor 5)) (ci 1))]))])])]
noncomputable def ia:MD:=⟨"_law_paired",["cells","many","below"],["cells","many","below","strips","cell","at"],
  [.setOwn 3 (.lst []),
  .for1 4 .seq [.bor 0] iR,
  .retOwn 3],none⟩
noncomputable def dg:List MS:=[.set 5 (.bin .mod (.bin .add (.bin .mul (ci 14) (.bor 4)) (.bor 1)) (ci 60)),
  .set 6 (.bin .mod (.bin .add (.bin .add (.bin .mul (ci 14) (.bor 4)) (ci 7)) (.bor 1)) (ci 60)),
  .ite (.cmp .eq (.bin .mod (.bin .add (.bor 2) (.bor 4)) (ci 2)) (ci 1))
   [.append 3 (.tup [.var 6,.var 5])]
   [.append 3 (.tup [.var 5,.var 6])]]
noncomputable def iS:MD:=⟨"_law_pairs",["many","shift","turned"],["many","shift","turned","pairs","k","one","other"],
  [.setOwn 3 (.lst []),
  .for1 4 .rng [.bor 0] dg,
  .ret (.blt .tupleOf [.bor 3])],none⟩
noncomputable def cY:List MS:=[.ite (.not (.call 27 [(.comp .seq [.bor 0] [1] (.cmp .notIn (.bor 1) (.bor 0)) (.var 0))]))
   [.ret (.cst (.bl false))]
   []]
noncomputable def ib:MD:=⟨"_law_both",["strips"],["strips","hole"],
  [.ite (.not (.call 27 [.bor 0]))
   [.ret (.cst (.bl false))]
   [],
  .for1 1 .rng [(ci 12)] cY,
  .ret (.cst (.bl true))],none⟩
noncomputable def cE:List MS:=[.set 4 (.call 17 [.bor 3,(ci 12),(ci 4)]),
  .ite (.and (.cmp .gt (.blt .len [.bor 4]) (ci 0)) (.and (.call 27 [(.bin .add (.bor 2) (.lst [.var 4]))]) (.or (.bor 1) (.call 32 [(.bin .add (.bor 2) (.lst [.var 4]))]))))
   [.set 2 (.bin .add (.bor 2) (.lst [.var 4]))]
   []]
noncomputable def gw:MD:=⟨"_law_weighed",["cells","opens"],["cells","opens","strips","cell","strip"],
  [.set 2 (.lst [(.tup [(ci 0),(ci 1)]),(.tup [(ci 0),(ci 2)]),(.tup [(ci 0),(ci 3)]),(.tup [(ci 1),(ci 2)]),(.tup [(ci 1),(ci 3)]),(.tup [(ci 2),(ci 3)])]),
  .for1 3 .seq [(.slice (.bor 0) (.cst .non) (ci 6))] cE,
  .ret (.var 2)],none⟩
noncomputable def ic:MD:=⟨"_law_strips",["cells","way","some","opens"],["cells","way","some","opens"],
  [.ite (.cmp .eq (.bor 1) (ci 0))
   [.ret (.call 30 [.bor 0,(.bin .add (ci 1) (.bin .mod (.bor 2) (ci 8))),(ci 20)])]
   [],
  .ite (.cmp .eq (.bor 1) (ci 1))
   [.ret (.call 26 [(.comp .seq [.bor 0] [] (.cst (.bl true)) (.call 17 [.bor 0,(ci 12),(ci 6)])),(.not (.bor 3)),(ci 255)])]
   [],
  .ret (.call 33 [.bor 0,.bor 3])],none⟩
noncomputable def gj:MD:=⟨"_law_paper",["way","some","shift","opens"],["way","some","shift","opens","paper"],
  [.ite (.cmp .gt (.bor 0) (ci 0))
   [.ret (.tup [(cs "weight")])]
   [],
  .set 4 (.tup [(cs "pairs"),(.call 31 [(.bin .add (ci 1) (.bin .mod (.bor 1) (ci 8))),.bor 2,(.bin .mod (.bin .fdiv (.bor 1) (ci 8)) (ci 2))])]),
  .ite (.not (.bor 3))
   [.ret (.var 4)]
   [],
  .ite (.cmp .eq (.bin .mod (.bin .fdiv (.bor 1) (ci 16)) (ci 3)) (ci 0))
   [.ret (.tup [(cs "bite"),.cst .non,.var 4])]
   [],
  .ret (.tup [(cs "bite"),(.bin .mod (.bin .fdiv (.bor 1) (ci 48)) (ci 60)),.var 4])],none⟩
noncomputable def ie:MD:=⟨"_law_behind",["rest","hand","hole"],["rest","hand","hole"],
  [.ite (.cmp .isN (.bor 2) (.cst .non))
   [.ret (.var 0)]
   [],
  .ite (.cmp .eq (.bor 1) (cs "weaver"))
   [.ret (.call 18 [.bor 0,.bor 2])]
   [],
  .ret (.call 19 [.bor 0,.bor 2])],none⟩
noncomputable def dQ:List MS:=[.ite (.cmp .eq (.bor 1) (.bor 2))
   [.ret (.var 3)]
   [],
  .ite (.cmp .eq (.bor 1) (.bor 3))
   [.ret (.var 2)]
   []]
noncomputable def jK:MD:=⟨"_law_mate",["pairs","hole"],["pairs","hole","one","other"],
  [.forT [2,3] .seq [.bor 0] dQ,
  .ret (.cst .non)],none⟩
noncomputable def fc:MD:=⟨"_law_opened",["paper","rest"],["paper","rest"],
  [.ite (.cmp .eq (ix 0 0) (cs "bite"))
   [.ret (.tup [(ix 0 1),(ix 0 2)])]
   [],
  .ret (.tup [(.call 28 [.bor 1]),.var 0])],none⟩
noncomputable def fN:MD:=⟨"_law_answered",["paper","rest","hole"],["paper","rest","hole"],
  [.ite (.cmp .eq (ix 0 0) (cs "pairs"))
   [.ret (.call 37 [(ix 0 1),.bor 2])]
   [],
  .ret (.call 28 [.bor 1])],none⟩
noncomputable def jL:MD:=⟨"_law_step",["paper","held","mine","theirs","hole"],["paper","held","mine","theirs","hole","behind_v","waits"],
  [.set 5 (.call 36 [.bor 1,.bor 3,.bor 4]),
  .set 6 (.call 39 [.bor 0,.bor 5,.bor 4]),
  .ret (.tup [.var 6,(.call 36 [.bor 5,.bor 2,.bor 6])])],none⟩
noncomputable def cG:MD:=⟨"Table.hand_at",["self","place"],["self","place"],
  [.ret (.ite (.cmp .eq (.bin .mod (.bor 1) (ci 2)) (ci 0)) (.fld 0 2) (.call 6 [.fld 0 2]))],some "hand_at"⟩
noncomputable def ig:MD:=⟨"Table.free",["self"],["self"],
  [.ret (.comp .rng [.fld 0 0] [0] (.cmp .notIn (.bor 0) (.fldL 1)) (.var 0))],some "free"⟩
noncomputable def dR:List MS:=[.set 1 (.call 7 [.bor 1,(.callM 41 0 [.bor 2]),.bor 3])]
noncomputable def ff:MD:=⟨"Table.rest",["self"],["self","left","place","hole"],
  [.set 1 (.fld 0 1),
  .forT [2,3] .enm [.fldL 0] dR,
  .ret (.var 1)],some "rest"⟩
noncomputable def cx:MD:=⟨"Table.winner",["self"],["self","left"],
  [.set 1 (.callM 43 0 []),
  .ite (.call 4 [.bor 1])
   [.ret (cs "weaver")]
   [],
  .ite (.call 5 [.bor 1])
   [.ret (cs "moth")]
   [],
  .ret (.cst .non)],some "winner"⟩
noncomputable def fg:MD:=⟨"Table.take",["self","hole"],["self","hole"],
  [.ite (.cmp .notN (.callM 44 0 []) (.cst .non))
   [.never]
   [],
  .ite (.not (.call 0 [.bor 1,.fld 0 0]))
   [.never]
   [],
  .ite (.inO false (.bor 1) 0)
   [.never]
   [],
  .appO 0 (.var 1),
  .retT (.callM 44 0 [])],some "take"⟩
noncomputable def defs:List MD:=[cf,eT,lH,og,jG,lI,g9,oh,gr,uE,fH,qK,jH,mS,oj,g_,iK,gi,gu,hV,iL,fJ,hW,gN,jI,iM,hZ,lJ,jJ,lK,ia,iS,ib,gw,ic,gj,ie,jK,fc,fN,jL,cG,ig,ff,cx,fg]
noncomputable def jk:MD:=⟨"law",["script"],["script","way","some","opens","mine","theirs","begin","cells","held","paper","ribbons","table","follower","waits","taken","left","cell","free","hole","hand","due"],[],none⟩
noncomputable def bJ:MD:=⟨"_law_asks",["follower","table","waits","free"],["follower","table","waits","free","due","k","found"],[],none⟩
noncomputable def tab:Tab:=⟨defs.map zI,[("UNIT",(.int 1152921504606846976))],[[],[],[],[],[],[],[],[],[],[],[],[],[],[],[],[],[],[],[],[],[],[],[],[],[],[],[],[],[],[],[],[],[],[],[],[],[],[],[],[],[],[],[],[],[],[]],defs.map (·.meth)⟩
noncomputable def cellOf(ns:List Int)(k:Int):Int:=ns.getD k.toNat 0
def F7(n:Nat)(m:MV)(ns:List Int)(k:Int)(hm:bY (some m)=some (ofL ns))(h0:0<=k):ab defs (n+1) 15 [m,.val (.int k)]=some (.int (cellOf ns k)):=by
 rw[am (d:=g_) rfl rfl];unfold cellOf;simp[g_,exs,ex,ev,evs,evB,hm];by_cases h:k<(ns.length:Int)
 .have h2:k.toNat<ns.length:=by omega
  simp[h,eM h0 h,h2]
 .have h2:ns.length<=k.toNat:=by omega
  simp[h,h2]
theorem jM{α:Type}{g:α->PV}{body:PV->Rho->R}{I:Rho->Prop}{p:α->Bool}{r:α->PV}:∀{xs:List α}{G},I G ->
  (∀x∈xs,∀G,I G->(p x=true->body (g x) G=.ret (r x))/\(p x=false->∃A,I A/\body (g x) G=.next A)) ->
  (∀x,xs.find? p=some x->aQ body (xs.map g) G=.ret (r x))/\(xs.find? p=none->∃A,I A/\aQ body (xs.map g) G=.next A)
 | [],G,z,_=>⟨λx h=>(bc h),λ_=>⟨G,z,rfl⟩⟩
 |x::xs,G,z,h=>by
  obtain⟨h1,h2⟩:=h x (.head _) G z;rw[J8,aQ];cases q:p x with
  |true =>
   rw[h1 q,MI q];exact⟨λy e=>(by cases e;rfl),λe=>(by cases e)⟩
  |false =>
   refine ae (h2 q) λA D e=>?_
   rw[e,LC (by simp[q])];exact jM (xs:=xs) D λy J=>h y (.tail _ J)
def bR(h:(evs cal src G).bind (bq k)=some xs):ex cal (.for1 i k src body) G=(aQ (λx A=>exs cal body (put A i (.val x))) xs (br src G)).back src G:=by
 rw[ex,h]
def Cj(h:(evs cal src G).bind (bq k)=some xs):ex cal (.forT is k src body) G=(aQ (λx A=>dG (im is x A) λq=>exs cal body q) xs (br src G)).back src G:=by
 rw[ex,h]
def al(cal)(m)(ms)(G):exs cal (m::ms) G=(ex cal m G).andThen λA=>exs cal ms A:=rfl
def bu(h:ev cal e G=some v):ev cal (.blt b [e]) G=aM b [v]:=by
 rw[ev,evs,h,bind_some,evs,map_some,bind_some]
def bG(h:ev cal e G=some v):ex cal (.set i e) G=.next (put G i (.val v)):=by
 rw[ex,h];rfl
def ol(h:ev cal e G=some v):ex cal (.ret e) G=.ret v:=by
 rw[ex,h];rfl
def aq(h:evA cal es G=some vs)(h':cal f vs=some v):ev cal (.call f es) G=some v:=by
 rw[ev,h,bind_some,h']
def lL(h:ev cal e G=some (.lst xs)):ex cal (.setOwn i e) G=.next (put G i (.own xs)):=by
 rw[ex,h];rfl
def i_{α:Type}{xs:List α}{g h:α->PV}(h1:evs cal src G=some vs)(h2:bq k vs=some (xs.map g))(q:xs.length<=10000)
  (h3:∀x∈xs,ev cal elt (dX js G (g x))=some (h x)):ev cal (.comp k src js (.cst (.bl true)) elt) G=some (.lst (xs.map h)):=by
 rw[ev,h1,bind_some,h2,bind_some,if_pos (by simpa using q),uv (h:=h) (λx _=>by simp[ev]) h3]
 rfl
def ca(cal)(v)(G):ev cal (.cst v) G=some v:=rfl
def cJ(h:ev cal a G=some x)(h':ev cal b G=some y):ev cal (.bin op a b) G=gG op x y:=by
 rw[ev,h,bind_some,h',bind_some]
def eU(h:ev cal a G=some x)(h':ev cal b G=some y):ev cal (.cmp op a b) G=(cN op x y).map .bl:=by
 rw[ev,h,bind_some,h',bind_some]
def vP(h:ev cal a G=some (.int x))(q:0<k/\k<1073741824):ev cal (.bin .fdiv a (ci k)) G=some (.int (x / k)):=by
 rw[cJ h (ca _ _ _),zL,if_pos q]
def z9(h:ev cal a G=some (.bl b)):evB cal a G=some b:=by simp_all [evB]
def iT(h:ev cal a G=some x)(h':ev cal i G=some y):ev cal (.idx a i) G=kf x y:=by
 rw[ev,h,bind_some,h',bind_some]
def d8(h:body x G=.next q):aQ body (x::xs) G=aQ body xs q:=by rw[aQ,h]
def kR(h:ev cal e G=some v)(k:b8 (exs cal ms (put G i (.val v)))=X):b8 (exs cal (.set i e::ms) G)=X:=by simp_all [al,bG]
def z_(h:ex cal m G=.next A)(k:b8 (exs cal ms A)=X):b8 (exs cal (m::ms) G)=X:=by simp_all [al]
def c7(h:ev cal e G=some v):b8 (exs cal (.ret e::ms) G)=some v:=by
 rw[al,ol h];rfl
def lM(h:ev cal c G=some (.bl p)):ex cal (.ite c a b) G=if p=true then exs cal a G else exs cal b G:=by
 rw[ex,z9 h,du]
def gz(h:ev cal c G=some (.bl false))(k:b8 (exs cal ms G)=X):b8 (exs cal (.ite c a []::ms) G)=X:=by simp_all [lM,exs]
def jl(h:ev cal c G=some (.bl true))(k:ev cal e G=some v):b8 (exs cal (.ite c [.ret e] b::ms) G)=some v:=by
 rw[al,lM h,if_pos rfl,al,ol k];rfl
def jN{cal:Cal}{f:Nat}{as es:List ME}{G:Rho}{v:PV}{vs:List MV}(h:ev cal (.call f as) G=some v)(k:evA cal es G=some vs):evA cal (.call f as::es) G=some (.val v::vs):=by
 rw[evA,h,bind_some,k]
 .rfl
 .exact nofun
 .exact nofun
def sA(h:fZ (G[i]?).join=some m)(k:evA cal es G=some vs):evA cal (.bor i::es) G=some (m::vs):=by simp_all [evA]
def sB(h:ev cal a G=some (.bl p)):ev cal (.not a) G=some (.bl (!p)):=by
 rw[ev,h];rfl
def F8(h:ev cal c G=some (.bl true))(k:exs cal a G=.ret v):b8 (exs cal (.ite c a b::ms) G)=some v:=by
 rw[al,lM h,if_pos rfl,k];rfl
def Ix(h:ev cal c G=some (.bl false))(k:exs cal ms G=r):exs cal (.ite c a []::ms) G=r:=by simp_all [lM,exs]
def Aa(h:ev cal e G=some v):exs cal (.ret e::ms) G=.ret v:=by
 rw[al,ol h];rfl
def Iy(h:ev cal c G=some (.bl true))(k:ev cal e G=some v):exs cal (.ite c [.ret e] b::ms) G=.ret v:=by
 rw[al,lM h,if_pos rfl,al,ol k];rfl
def Iz(h:ev cal a G=some (.bl p))(h':p=false->ev cal b G=some (.bl q)):ev cal (.or a b) G=some (.bl (p||q)):=by
 rw[ev,h];cases p<;>first|rfl|simp[h' rfl]
def JU(h:isIn x xs=some p)(ha:ev cal a G=some x)(q:ev cal b G=some (.tup xs)):ev cal (.cmp .isIn a b) G=some (.bl p):=by
 rw[eU ha q,Ca,h];rfl
def IA(ho:(G[i]?).join=some (.own xs))(h:ev cal e G=some v)(q:xs.length<10000):ex cal (.append i e) G=.next (put G i (.own (xs++[v]))):=by
 rw[ex,ho,h];simp[q]
def Ck(h:((xs.length:Int)==0)=p)(ha:ev cal a G=some (.tup xs)):ev cal (.cmp .eq (.blt .len [a]) (ci 0)) G=some (.bl p):=by
 rw[eU (bu ha) (ca _ _ _),<- h];rfl
def bw(h:ev cal e G=some v)(k:evs cal es G=some vs):evs cal (e::es) G=some (v::vs):=by simp_all [evs]
def fh(h:evs cal es G=some vs)(q:vs.length<=10000:=by simp):ev cal (.tup es) G=some (.tup vs):=by
 rw[ev,h,bind_some,if_pos q]
def F9{cal:Cal}{c a b:ME}{G:Rho}{v:PV}(h:ev cal c G=some (.bl true))(k:ev cal a G=some v):ev cal (.ite c a b) G=some v:=by
 rw[ev,h];exact k
def F_{cal:Cal}{c a b:ME}{G:Rho}{v:PV}(h:ev cal c G=some (.bl false))(k:ev cal b G=some v):ev cal (.ite c a b) G=some v:=by
 rw[ev,h];exact k
def gO{α:Type}{cal:Cal}{k:Sk}{src:List ME}{js:List Nat}{c elt:ME}{G:Rho}{vs:List PV}{xs:List α}{g h:α->PV}{p:α->Bool}(h1:evs cal src G=some vs)(h2:bq k vs=some (xs.map g))(q:xs.length<=10000)
  (h3:∀x∈xs,ev cal c (dX js G (g x))=some (.bl (p x))) (h4:∀x∈xs,p x=true->ev cal elt (dX js G (g x))=some (h x)):ev cal (.comp k src js c elt) G=some (.lst ((xs.filter p).map h)):=by
 rw[ev,h1,bind_some,h2,bind_some,if_pos (by rw[sm];exact q),dq (p:=p) (h:=h) (λx m=>by rw[h3 x m];rfl) h4]
 rfl
def Ab{cal:Cal}{a b:ME}{G:Rho}{x y:PV}{xs:List PV}{p:Bool}(h:isIn x xs=some p)(ha:ev cal a G=some x)(q:ev cal b G=some y)(z:b_ y=some xs):ev cal (.cmp .notIn a b) G=some (.bl (!p)):=by
 rw[eU ha q,show cN .notIn x y=((b_ y).bind (isIn x)).map λp=>!p from rfl,z,bind_some,h];rfl
noncomputable def di(c b:Int):Int:=c % 2305843009213693951*b % 2305843009213693951
def vQ(n:Nat)(c b:Int):ab defs (n+1) 16 [.val (.int c),.val (.int b)]=some (.int (di c b)):=by
 rw[am (d:=iK) rfl rfl];have h1:0<=c % 2305843009213693951:=Ld _ (by decide);have h2:c % 2305843009213693951<2305843009213693951:=KZ _ (by decide);have h3:(-18446744073709551616<c % 2305843009213693951/\c % 2305843009213693951<18446744073709551616\/-18446744073709551616<b/\b<18446744073709551616):=.inl ⟨by omega,by omega⟩;exact c7 ((cJ ((cJ ((cJ rfl rfl).trans rfl) rfl).trans (show gG .mul (.int (c % 2305843009213693951)) (.int b)=some (.int (c % 2305843009213693951*b))from if_pos h3)) rfl).trans rfl)
noncomputable def fj(q:Int):Nat->Int->List Int->List Int
 |0,_,acc=>acc
 |n+1,left,acc=>fj q n (left / q) (if left % q∈acc then acc else acc++[left % q])
theorem fO(D)(hm:0<D):∀n left J,J.Nodup->(∀h∈J,0<=h/\h<D)->(fj D n left J).Nodup/\(∀h∈fj D n left J,0<=h/\h<D)/\(fj D n left J).length<=J.length+n
 |0,_,J,h1,h2=>⟨h1,h2,by simp[fj]⟩
 |n+1,left,J,h1,h2=>by
  rw[fj];by_cases q:left % D∈J
  .rw[if_pos q];refine jP (fO D hm n (left / D) J h1 h2) λa b c=>?_
   exact⟨a,b,by exact(Nat.le_succ_of_le ‹_›)⟩
  .rw[if_neg q];obtain⟨a,b,c⟩:=fO D hm n (left / D) (J++[left % D]) (MY.mpr ⟨h1,by simp,λx hx y Y=>by rw[Kd.mp Y];exact λz=>q (z▸hx)⟩) (λh U=>by
    rcases K4.mp U with U|U
    .exact h2 h U
    .rw[Kd.mp U];exact⟨Ld _ (Int.ne_of_gt ‹_›),KZ _ hm⟩)
   exact⟨a,b,by rw[Kj,length_singleton]at c;omega⟩
noncomputable def cQ(c q most:Int):List Int:=sortI (fj q (di c 1181783497276652981 % (most+1)).toNat (di c 1181783497276652981 / (most+1)) [])
theorem om(cal)(c many most size)(D)(J:bY (some many)=some (.int D))(h1:0<D)(h2:D<1073741824):∀xs left z kk,z.length+xs.length<=10000 ->
  ∃U Y,aQ (λx A=>exs cal de (put A 6 (.val x))) xs
   [some c,some many,some most,sv (.int left),some size,some (.own (z.map .int)),kk]=.next [some c,some many,some most,sv (.int U),some size,some (.own ((fj D xs.length left z).map .int)),Y]
 | [],left,z,kk,_=>⟨left,kk,rfl⟩
 |x::xs,left,z,kk,hl=>by
  simp only[length_cons]at hl;rw[aQ];have e:exs cal de (put [some c,some many,some most,sv (.int left),some size,some (.own (z.map .int)),kk] 6 (.val x)) =
    .next [some c,some many,some most,sv (.int (left / D)),some size,some (.own ((if left % D∈z then z else z++[left % D]).map .int)),sv x]:=by
   by_cases q:left % D∈z
   .simp[de,exs,ex,ev,evB,J,h1,h2,cv,q]
   .have Z:z.length<10000:=by exact(Hg (KW _ _) ‹_›)
    simp[de,exs,ex,ev,evB,J,h1,h2,cv,q,Z]
  rw[e];obtain⟨l',k',e2⟩:=om cal c many most size D J h1 h2 xs (left / D) (if left % D∈z then z else z++[left % D]) (sv x) (by
   split
   .exact(KC ‹_›)
   .rw[Kj,length_singleton];omega)
  exact⟨l',k',e2⟩
def qM(n:Nat)(c q most:Int)(h1:0<q)(h2:q<1073741824)(h3:0<=most)(h4:most<=60):ab defs (n+2) 17 [.val (.int c),.val (.int q),.val (.int most)]=some (ofS (cQ c q most)):=by
 rw[am (d:=gi) rfl rfl];have J:0<most+1:=by omega
 have D:most+1<1073741824:=by omega
 have q0:0<=di c 1181783497276652981 % (most+1):=Ld _ (by omega);have q1:di c 1181783497276652981 % (most+1)<most+1:=KZ _ J;obtain⟨l',Y,e⟩:=om (ab defs (n+1)) (.val (.int c)) (.val (.int q)) (.val (.int most)) (.val (.int (di c 1181783497276652981 % (most+1)))) q rfl h1 h2 ((range (di c 1181783497276652981 % (most+1)).toNat).map λ(k:Nat)=>PV.int (k:Int)) (di c 1181783497276652981 / (most+1)) [] none (by simp;omega);rw[sm,MZ]at e;obtain⟨Z,g2,U⟩:=fO q h1 (di c 1181783497276652981 % (most+1)).toNat (di c 1181783497276652981 / (most+1)) [] KQ (λ_ h=>by cases h);have z:(fj q (di c 1181783497276652981 % (most+1)).toNat (di c 1181783497276652981 / (most+1)) []).length<64:=by simp at U;omega
 simp only[map_nil]at e;simp[gi,exs,ex,ev,evs,evA,evB,vQ,J,D,br,cV q0 (by omega),e,aS,lG z,cQ]
def oq(c q most:Int)(h1:0<q):(cQ c q most).Pairwise (· < ·)/\∀h∈cQ c q most,0<=h/\h<=q-1:=by
 obtain⟨a,b,_⟩:=fO q h1 (di c 1181783497276652981 % (most+1)).toNat (di c 1181783497276652981 / (most+1)) [] KQ (λ_ h=>by cases h);exact⟨kN a,λh z=>by have:=b h (d7.mp z);omega⟩
theorem lN:∀l,(dd l).length<=l.length
 | []=>pb _
 |x::r=>by
  have:=lN r;rw[dd]
  grind
noncomputable def wgt(s:List Int):Int:=2 ^ (60-s.length)
def Ac:∀n,n<=60->(1152921504606846976:Int) / 2 ^ n=2 ^ (60-n):=by decide +kernel
def Cl(n:Nat)(s:List Int)(q:s.length<=60):ab defs (n+1) 10 [.val (ofS s)]=some (.int (wgt s)):=by
 rw[am (d:=fH) rfl rfl];have e:gG .shr (.int 1152921504606846976) (.int (s.length:Int))=some (.int (wgt s)):=by
  show(if 0<=(s.length:Int)then some (PV.int (1152921504606846976 / 2 ^ ((s.length:Int)).toNat))else none)=_;rw[if_pos (by omega),Int.toNat_natCast,Ac _ q]
  rfl
 exact c7 ((cJ rfl ((bu rfl).trans (by show some (PV.int (s.map PV.int).length)=_;rw[sm]))).trans e)
def fR  [DecidableEq α] (d:List (α×Sc)) (f:α->Int):Prop:=(∀k,bE d k=none->f k=0)/\∀k s,bE d k=some s->s=.int (f k)
def gB{α:Type}(d:List (α×Sc))(P:α->Prop):Prop:=(d.map (·.1)).Nodup/\∀k,k∈d.map (·.1) ↔ P k
section
variable{α:Type} [DecidableEq α]
def ou{k:α}:bE d k=none ↔ k∉d.map (·.1):=by
 unfold bE;rw[map_eq_none_iff,find?_eq_none];constructor
 .intro h z;refine ae (mem_map.mp z) λp q D=>?_
  subst D;exact h p q (Ka rfl)
 .intro h p q e;exact h (mem_map.mpr ⟨p,q,Kl e⟩)
def Ad(d)(k:α)(v):(bU d k v).map (·.1)=if k∈d.map (·.1)then d.map (·.1)else d.map (·.1)++[k]:=by
 have e:(d.any λp=>decide (p.1=k))=decide (k∈d.map (·.1)):=by
  rw[KR,KY,K9,mem_map]
  simp_all
 unfold bU;rw[e];by_cases h:k∈d.map (·.1)
 .rw[if_pos (Ka h),if_pos h,Kh];refine Lg λp _=>?_
  show(if p.1=k then(p.1,v)else p).1=p.1;split<;>rfl
 .rw[if_neg (by simpa using h),if_neg h,K0]
  rfl
def qN(d)(k j:α)(v):bE (bU d k v) j=if j=k then some v else bE d j:=by
 have gen:∀d,(d.any λp=>decide (p.1=k))=true->bE (d.map λp=>if p.1=k then(p.1,v)else p) j=if j=k then some v else bE d j:=by
  intro d
  induction d with
  |nil=>intro h;exact dy h
  |cons p d ih =>
   intro h;by_cases J:p.1=k
   .by_cases D:j=k
    .subst D;simp[bE,J]
    .rw[if_neg D];have:¬ p.1=j:=λz=>D (by rw[<- z,J])
     unfold bE;rw[J8,if_pos J,LC (by simpa using this),LC (by simpa using this)];by_cases ha:(d.any λp=>decide (p.1=k))=true
     .have:=ih ha;rw[if_neg D]at this;exact this
     .have e:(d.map λp=>if p.1=k then(p.1,v)else p)=d:=by
       conv=>rhs;rw[<- List.map_id d]
       refine Lg λq U=>?_
       rw[if_neg λz=>ha (KY.mpr ⟨q,U,Ka z⟩)]
       rfl
      rw[e]
   .have ha:(d.any λp=>decide (p.1=k))=true:=by simpa[J]using h
    have ih:=ih ha;unfold bE at ih ⊢;rw[J8,if_neg J];by_cases D:p.1=j
    .have:¬ j=k:=λz=>J (D.trans z)
     rw[MI (by simpa using D),MI (by simpa using D),if_neg this]
    .rw[LC (by simpa using D),LC (by simpa using D)];exact ih
 unfold bU;by_cases h:(d.any λp=>decide (p.1=k))=true
 .rw[if_pos h];exact gen d h
 .rw[if_neg h];have no:∀p∈d,¬ p.1=k:=λp J z=>h (KY.mpr ⟨p,J,Ka z⟩)
  unfold bE;rw[find?_append];by_cases D:j=k
  .subst D;have:d.find? (λp=>decide (p.1=j))=none:=find?_eq_none.mpr λp J=>by simpa using no p J
   rw[this,if_pos rfl];simp
  .rw[if_neg D];have:¬ k=j:=λz=>D z.symm
   cases d.find? (λp=>decide (p.1=j))<;>first|rfl|simp[this]
def put_len(d)(k:α)(v):(bU d k v).length<=d.length+1:=by
 unfold bU;split
 .simp_all
 .simp_all
def gQ(h:fR d f)(k:α):((bE d k).getD (.int 0)).pv=.int (f k):=by
 cases e:bE d k with
 |none=>rw[h.1 k e];rfl
 |some s=>rw[h.2 k s e];rfl
def sC(h:fR d f)(k:α)(w):fR (bU d k (.int (f k+w))) (λj=>if j=k then f j+w else f j):=by
 refine⟨λj e=>?_,λj s e=>?_⟩
 .rw[qN]at e;by_cases q:j=k
  .simp_all
  .rw[if_neg q]at e;dsimp only;rw[if_neg q];exact h.1 j e
 .rw[qN]at e;by_cases q:j=k
  .simp_all
  .rw[if_neg q]at e;dsimp only;rw[if_neg q];exact h.2 j s e
def sD:fR ([]:List (α×Sc)) λ_=>0:=⟨λ_ _=>rfl,λk s z=>bc z⟩
def oA:gB ([]:List (α×Sc)) λ_=>False:=⟨KQ,λk=>by simp⟩
def oB(h:gB d P)(k:α)(v):gB (bU d k v) (λj=>P j\/j=k):=by
 unfold gB;rw[Ad];by_cases q:k∈d.map (·.1)
 .rw[if_pos q];refine⟨h.1,λj=>?_⟩;rw[h.2 j];refine⟨.inl,λz=>z.elim id λe=>?_⟩;rw[e];exact(h.2 k).mp q
 .rw[if_neg q];refine⟨MY.mpr ⟨h.1,by simp,λa ha b D=>by rw[Kd.mp D];exact λe=>q (e▸ha)⟩,λj=>?_⟩;rw[K4,Kd,h.2 j]
theorem Cm{body:PV->Rho->R}{I:List (α×Sc)->Rho->Prop}{w:Int}:∀{xs:List α},(∀x∈xs,∀d G (f:α->Int),I d G->fR d f->d.length<9500->∃A,I (bU d x (.int (f x+w))) A/\body (g x) G=.next A) ->
  xs.Nodup->∀{d}{G}{f}{P},I d G->fR d f->gB d P->d.length+xs.length<=9000 ->
  ∃d' A,aQ body (xs.map g) G=.next A/\I d' A/\fR d' (λj=>f j+if j∈xs then w else 0)/\gB d' (λk=>P k\/k∈xs)/\d'.length<=d.length+xs.length
 | [],_,_,d,G,f,P,z,hd,D,_=>⟨d,G,rfl,z,by simpa using hd,by simpa using D,by simp⟩
 |x::xs,Z,hn,d,G,f,P,z,hd,D,hl=>by
  rw[length_cons]at hl;obtain⟨hx,hn⟩:=KA.mp hn;refine ae (Z x (.head _) d G f z hd (by omega)) λar J e1=>?_
  refine bN λZq kq=>?_
  have a1:=put_len d x (.int (f x+w));obtain⟨d',A,e2,U,Y,q,a3⟩:=Cm (xs:=xs) (λy hy=>Z y (.tail _ hy)) hn J (sC hd x w) (oB D x _) (by omega);refine kq ?_;rw[J8,aQ,e1];refine⟨d',A,e2,U,?_,?_,by rw[length_cons];omega⟩
  .have ef:(λj=>(if j=x then f j+w else f j)+if j∈xs then w else 0)=λj=>f j+if j∈x::xs then w else 0:=by
    funext j
    by_cases hj:j=x
    .simp_all
    .simp[hj]
   rw[<- ef];exact Y
  .refine⟨q.1,λk=>?_⟩;rw[q.2 k];simp only[pe,_root_.or_assoc]
theorem Ga{z:Type}{ge:z->PV}{m:z->List α}{w:z->Int}{body:PV->Rho->R}{I:List (α×Sc)->Rho->Prop}{top:Nat}:∀{R:List z},(∀s∈R,∀d G (f:α->Int) (P:α->Prop),I d G->fR d f->gB d P->d.length<=8000 ->
   ∃d' A,body (ge s) G=.next A/\I d' A/\fR d' (λj=>f j+if j∈m s then w s else 0)/\gB d' (λk=>P k\/k∈m s)/\d'.length<=d.length+top) ->
  ∀{d}{G}{f}{P},I d G->fR d f->gB d P->d.length+top*R.length<=8000 ->
  ∃d' A,aQ body (R.map ge) G=.next A/\I d' A/\fR d' (λj=>f j+(R.map λs=>if j∈m s then w s else 0).sum)/\gB d' (λk=>P k\/∃s∈R,k∈m s)/\d'.length<=d.length+top*R.length
 | [],_,d,G,f,P,D,hd,J,_=>⟨d,G,rfl,D,by simpa using hd,by simpa using J,by simp⟩
 |s::R,hb,d,G,f,P,D,hd,J,hl=>by
  rw[length_cons,Nat.mul_succ]at hl;refine uR (hb s (.head _) d G f P D hd J (xb (KW _ _) ‹_›)) λd1 a1 e1 U Y Z a3=>?_
  refine bN λZq kq=>?_
  obtain⟨d',A,e2,ao,ar,q,a6⟩:=Ga (R:=R) (λy hy=>hb y (.tail _ hy)) U Y Z (by omega);refine kq ?_;rw[J8,aQ,e1];refine⟨d',A,e2,ao,?_,⟨q.1,λk=>?_⟩,by rw[length_cons,Nat.mul_succ];omega⟩
  .have ef:(λj=>(f j+if j∈m s then w s else 0)+(R.map λs=>if j∈m s then w s else 0).sum)=λj=>f j+((s::R).map λs=>if j∈m s then w s else 0).sum:=by
    funext j
    simp only[J8,sum_cons];omega
   rw[<- ef];exact ar
  .rw[q.2 k];simp only[pe,exists_eq_or_imp,_root_.or_assoc]
end
noncomputable def av(s:List Int):Int:=2 ^ (8-s.length)
noncomputable def eN(S:LL)(h:Int):Int:=(S.map λs=>if h∈s then av s else 0).sum
def Ae:∀n:Nat,n<=8->([.int 256,.int 128,.int 64,.int 32,.int 16,.int 8,.int 4,.int 2,.int 1]:List PV)[n]?=some (.int (2 ^ (8-n)))
 |0,_=>rfl
 |1,_=>rfl
 |2,_=>rfl
 |3,_=>rfl
 |4,_=>rfl
 |5,_=>rfl
 |6,_=>rfl
 |7,_=>rfl
 |8,_=>rfl
 |n+9,h=>by omega
def qO(n:Nat)(s:List Int)(q:s.length<=8):ab defs (n+1) 25 [.val (ofS s)]=some (.int (av s)):=by
 rw[am (d:=iM) rfl rfl];have e:kf (.lst [.int 256,.int 128,.int 64,.int 32,.int 16,.int 8,.int 4,.int 2,.int 1]) (.int (s.length:Int))=some (.int (av s)):=by
  show((place 9 (s.length:Int)).bind λj=>_)=_;rw[eM (by omega) (by omega),bind_some,Int.toNat_natCast,Ae _ q]
  rfl
 show b8 (exs (ab defs n) [_] [sv (ofS s)])=_;rw[al,ol (v:=.int (av s))]
 .rfl
 .rw[ev,<- e];simp[ev,evs,-Ip]
def wY(s:List Int):0<av s:=Int.pow_pos (by decide)
def wZ{s:List Int}(h:s.length<=8):wgt s=4503599627370496*av s:=by
 unfold wgt av;have e:(4503599627370496:Int)=2 ^ 52:=by decide
 rw[e,<- Int.pow_add]
 congr 1
 omega
def pQ(S:LL)(h:Int):0<=eN S h:=by
 unfold eN
 induction S with
 |nil=>simp
 |cons s S ih =>
  rw[J8,sum_cons];have:0<=(if h∈s then av s else 0):=by
   split
   .exact MN (wY s)
   .exact LN _
  omega
def vR(S:LL)(s:List Int)(h:Int):eN (S++[s]) h=eN S h+if h∈s then av s else 0:=by
 unfold eN;rw[K0,sum_append];simp
theorem pR(cal:Cal)(d:List (Int×Sc))(f:Int->Int)(hd:fR d f)(w:Int)(D J U Y Z a6 a7 q:Option MV):∀(xs:List Int) (t:Int) (y:Option MV),
  ∃t' y',aQ (λv A=>exs cal fM (put A 10 (.val v))) (xs.map .int) [D,J,U,Y,some (.ownD (.k d)),Z,a6,a7,sv (.int w),sv (.int t),y,q]=.next [D,J,U,Y,some (.ownD (.k d)),Z,a6,a7,sv (.int w),sv (.int t'),y',q]/\t<=t'/\∀x∈xs,f x+w<=t'
 | [],t,y=>⟨t,y,rfl,LN _,λx hx=>by cases hx⟩
 |x::xs,t,y=>by
  rw[J8,aQ];have hg:=gQ hd x;have eg:ev cal (.dget (.bor 4) (.bor 10) (ci 0)) [D,J,U,Y,some (.ownD (.k d)),Z,a6,a7,sv (.int w),sv (.int t),sv (.int x),q]=some (.int (f x)):=by
   rw[<- hg];simp[ev]
  have em:ev cal (.blt .max2 [.bor 9,(.bin .add (.dget (.bor 4) (.bor 10) (ci 0)) (.bor 8))]) [D,J,U,Y,some (.ownD (.k d)),Z,a6,a7,sv (.int w),sv (.int t),sv (.int x),q]=some (.int (if f x+w > t then f x+w else t)):=by
   rw[ev,evs,evs,ev,ev,eg];simp[ev,evs]
   rfl
  have e:exs cal fM (put [D,J,U,Y,some (.ownD (.k d)),Z,a6,a7,sv (.int w),sv (.int t),y,q] 10 (.val (.int x)))=.next [D,J,U,Y,some (.ownD (.k d)),Z,a6,a7,sv (.int w),sv (.int (if f x+w > t then f x+w else t)),sv (.int x),q]:=by
   show exs cal [_] [D,J,U,Y,some (.ownD (.k d)),Z,a6,a7,sv (.int w),sv (.int t),sv (.int x),q]=_;rw[al,bG em,ah]
   rfl
  rw[e];obtain⟨t',y',e2,h1,h2⟩:=pR cal d f hd w D J U Y Z a6 a7 q xs (if f x+w > t then f x+w else t) (sv (.int x));refine⟨t',y',e2,M0 (by split<;>omega) h1,λz hz=>?_⟩;rcases pe.mp hz with rfl|hz
  .exact M0 (by split<;>omega) h1
  .exact h2 z hz
structure Gb(p:Bool)(room:Int)(K:LL)(d:List (Int×Sc))(heavy top:Int):Prop where
 get:fR d (eN K)
 sum:heavy=(K.map av).sum
 top0:0<=top
 le:∀h,eN K h<=top
 fit:heavy+(if p=true then top else 0)<=room
theorem iU(n:Nat)(p:Bool)(room:Int)(a0:Option MV):∀(S K:LL) (d:List (Int×Sc)) (P:Int->Prop) (D top:Int) (x7 x8 x9 U Y:Option MV),(∀s∈S,s.Nodup/\s.length<=8)->K.length+S.length<=100->gB d P->d.length+8*S.length<=8000->Gb p room K d D top ->
  ∃K' d' Z aL y7 y8 y9 ar a2,aQ (λv A=>exs (ab defs (n+1)) cw (put A 7 (.val v))) (S.map ofS) [a0,sv (.bl p),sv (.int room),some (.own (K.map ofS)),some (.ownD (.k d)),sv (.int D),sv (.int top),x7,x8,x9,U,Y] =
   .next [a0,sv (.bl p),sv (.int room),some (.own ((K++K').map ofS)),some (.ownD (.k d')),sv (.int Z),sv (.int aL),y7,y8,y9,ar,a2]/\K'.Sublist S/\Gb p room (K++K') d' Z aL
 | [],K,d,P,D,top,x7,x8,x9,U,Y,_,_,_,_,hf=>⟨[],d,D,top,x7,x8,x9,U,Y,by simp,.slnil,by simpa using hf⟩
 |s::S,K,d,P,D,top,x7,x8,x9,U,Y,hS,hl,hp,hz,hf=>by
  rw[length_cons]at hl hz;rw[J8,aQ];obtain⟨hn,h8⟩:=hS s (.head _);have es:=qO n s h8;have bS:ev (ab defs (n+1)) (.call 25 [.bor 7]) [a0,sv (.bl p),sv (.int room),some (.own (K.map ofS)),some (.ownD (.k d)),sv (.int D),sv (.int top),sv (ofS s),x8,x9,U,Y]=some (.int (av s)):=aq (vs:=[.val (ofS s)]) (by simp[evA]) es;obtain⟨J,ar,e3,m1,m2⟩:=pR (ab defs (n+1)) d (eN K) hf.get (av s) a0 (sv (.bl p)) (sv (.int room)) (some (.own (K.map ofS))) (sv (.int D)) (sv (.int top)) (sv (ofS s)) Y s top U;have bT:∀x9 U Y,(evs (ab defs (n+1)) [.bor 7] [a0,sv (.bl p),sv (.int room),some (.own (K.map ofS)),some (.ownD (.k d)),sv (.int D),sv (.int top),sv (ofS s),sv (.int (av s)),x9,U,Y]).bind (bq .seq)=some (s.map .int):=λ_ _ _=>by simp[evs,ev]
  have first:exs (ab defs (n+1)) cw (put [a0,sv (.bl p),sv (.int room),some (.own (K.map ofS)),some (.ownD (.k d)),sv (.int D),sv (.int top),x7,x8,x9,U,Y] 7 (.val (ofS s))) =
    exs (ab defs (n+1)) (cw.drop 5) [a0,sv (.bl p),sv (.int room),some (.own (K.map ofS)),some (.ownD (.k d)),sv (.int D),sv (.int top),sv (ofS s),sv (.int (av s)),sv (.int J),ar,sv (.int (D+av s+if p=true then J else 0))]:=by
   show exs (ab defs (n+1)) (_::_::_::_::_::[_]) [a0,sv (.bl p),sv (.int room),some (.own (K.map ofS)),some (.ownD (.k d)),sv (.int D),sv (.int top),sv (ofS s),x8,x9,U,Y]=exs _ [_] _;simp only[al];rw[bG bS,ah];simp only[bj,bm];rw[bG (v:=.int top) (by simp[ev]),ah];simp only[bj,bm];rw[bR (bT _ _ _),show ∀x9 U Y,br [.bor 7] [a0,sv (.bl p),sv (.int room),some (.own (K.map ofS)),some (.ownD (.k d)),sv (.int D),sv (.int top),sv (ofS s),sv (.int (av s)),x9,U,Y]=[a0,sv (.bl p),sv (.int room),some (.own (K.map ofS)),some (.ownD (.k d)),sv (.int D),sv (.int top),sv (ofS s),sv (.int (av s)),x9,U,Y]from λ_ _ _=>rfl,e3,bn,ah];rw[show ∀x9 U Y G,aS [.bor 7] [a0,sv (.bl p),sv (.int room),some (.own (K.map ofS)),some (.ownD (.k d)),sv (.int D),sv (.int top),sv (ofS s),sv (.int (av s)),x9,U,Y] G=G from λ_ _ _ _=>rfl];rw[bG (v:=.int (D+av s)) (by simp[ev]),ah];simp only[bj,bm];cases p with
   |false=>simp[ex,exs,ev,evB]
   |true=>simp[ex,exs,ev,evB]
  by_cases q:D+av s+(if p=true then J else 0)<=room
  .obtain⟨d1,cF,e4,⟨y,rfl⟩,b2,b3,cL⟩:=Cm (xs:=s) (g:=.int) (w:=av s) (body:=λv A=>exs (ab defs (n+1)) iN (put A 10 (.val v)))
    (I:=λd G=>∃y,G=[a0,sv (.bl p),sv (.int room),some (.own ((K++[s]).map ofS)),some (.ownD (.k d)),sv (.int (D+av s)),sv (.int J),sv (ofS s),sv (.int (av s)),sv (.int J),y,sv (.int (D+av s+if p=true then J else 0))])
    (d:=d) (G:=[a0,sv (.bl p),sv (.int room),some (.own ((K++[s]).map ofS)),some (.ownD (.k d)),sv (.int (D+av s)),sv (.int J),sv (ofS s),sv (.int (av s)),sv (.int J),ar,sv (.int (D+av s+if p=true then J else 0))])
    (by
     rintro z _ d G f ⟨y,rfl⟩ hd hl;generalize (D+av s+if p=true then J else 0)=high;have eg:ev (ab defs (n+1)) (.dget (.bor 4) (.bor 10) (ci 0)) [a0,sv (.bl p),sv (.int room),some (.own ((K++[s]).map ofS)),some (.ownD (.k d)),sv (.int (D+av s)),sv (.int J),sv (ofS s),sv (.int (av s)),sv (.int J),sv (.int z),sv (.int high)]=some (.int (f z)):=by
      rw[<- gQ hd z];simp[ev]
     have es:ev (ab defs (n+1)) (.bin .add (.dget (.bor 4) (.bor 10) (ci 0)) (.bor 8)) [a0,sv (.bl p),sv (.int room),some (.own ((K++[s]).map ofS)),some (.ownD (.k d)),sv (.int (D+av s)),sv (.int J),sv (ofS s),sv (.int (av s)),sv (.int J),sv (.int z),sv (.int high)]=some (.int (f z+av s)):=by
      rw[ev,eg];simp[ev]
     have b4:d.length<10000:=by omega
     refine⟨_,⟨sv (.int z),rfl⟩,?_⟩;show exs (ab defs (n+1)) [_] [a0,sv (.bl p),sv (.int room),some (.own ((K++[s]).map ofS)),some (.ownD (.k d)),sv (.int (D+av s)),sv (.int J),sv (ofS s),sv (.int (av s)),sv (.int J),sv (.int z),sv (.int high)]=_;rw[al,ex,es];simp[ev,b4,exs])
    hn ⟨ar,rfl⟩ hf.get hp (by omega)
   have b5:K.length<10000:=by omega
   have step:exs (ab defs (n+1)) cw (put [a0,sv (.bl p),sv (.int room),some (.own (K.map ofS)),some (.ownD (.k d)),sv (.int D),sv (.int top),x7,x8,x9,U,Y] 7 (.val (ofS s)))=.next [a0,sv (.bl p),sv (.int room),some (.own ((K++[s]).map ofS)),some (.ownD (.k d1)),sv (.int (D+av s)),sv (.int J),sv (ofS s),sv (.int (av s)),sv (.int J),y,sv (.int (D+av s+if p=true then J else 0))]:=by
    rw[first];generalize (D+av s+if p=true then J else 0)=high at q e4 ⊢;show exs (ab defs (n+1)) [.ite _ (_::_::_::[_]) []] _=_;rw[al,ex,show evB (ab defs (n+1)) (.cmp .le (.bor 11) (.bor 2)) [a0,sv (.bl p),sv (.int room),some (.own (K.map ofS)),some (.ownD (.k d)),sv (.int D),sv (.int top),sv (ofS s),sv (.int (av s)),sv (.int J),ar,sv (.int high)]=some true from by simp[evB,ev,q],du,if_pos rfl];simp only[al];rw[show ex (ab defs (n+1)) (.append 3 (.var 7)) [a0,sv (.bl p),sv (.int room),some (.own (K.map ofS)),some (.ownD (.k d)),sv (.int D),sv (.int top),sv (ofS s),sv (.int (av s)),sv (.int J),ar,sv (.int high)]=.next [a0,sv (.bl p),sv (.int room),some (.own ((K++[s]).map ofS)),some (.ownD (.k d)),sv (.int D),sv (.int top),sv (ofS s),sv (.int (av s)),sv (.int J),ar,sv (.int high)]from by simp[ex,ev,b5],ah];rw[bG (v:=.int (D+av s)) (by simp[ev]),ah];simp only[bj,bm];rw[bG (v:=.int J) (by simp[ev]),ah];simp only[bj,bm];have bt:(evs (ab defs (n+1)) [.bor 7] [a0,sv (.bl p),sv (.int room),some (.own ((K++[s]).map ofS)),some (.ownD (.k d)),sv (.int (D+av s)),sv (.int J),sv (ofS s),sv (.int (av s)),sv (.int J),ar,sv (.int high)]).bind (bq .seq)=some (s.map .int):=by simp[evs,ev]
    rw[bR bt,show br [.bor 7] [a0,sv (.bl p),sv (.int room),some (.own ((K++[s]).map ofS)),some (.ownD (.k d)),sv (.int (D+av s)),sv (.int J),sv (ofS s),sv (.int (av s)),sv (.int J),ar,sv (.int high)]=[a0,sv (.bl p),sv (.int room),some (.own ((K++[s]).map ofS)),some (.ownD (.k d)),sv (.int (D+av s)),sv (.int J),sv (ofS s),sv (.int (av s)),sv (.int J),ar,sv (.int high)]from rfl,e4,bn,ah];simp[exs,aS]
   rw[step];have b6:Gb p room (K++[s]) d1 (D+av s) J:=by
    refine⟨?_,?_,M0 hf.top0 m1,λh=>?_,q⟩
    .have ef:(λj=>eN K j+if j∈s then av s else 0)=eN (K++[s]):=by funext j;rw[vR]
     rw[<- ef];exact b2
    .rw[K0,sum_append,hf.sum];simp
    .rw[vR];by_cases hh:h∈s
     .rw[if_pos hh];exact m2 h hh
     .rw[if_neg hh,Int.add_zero];exact M0 (hf.le h) m1
   obtain⟨K',d',Z,aL,y7,y8,y9,a3,a2,e5,sub,a5⟩:=iU n p room a0 S (K++[s]) d1 _ (D+av s) J (sv (ofS s)) (sv (.int (av s))) (sv (.int J)) y (sv (.int (D+av s+if p=true then J else 0))) (λt ht=>hS t (.tail _ ht)) (by rw[Kj,length_singleton];omega) b3 (by omega) b6;refine⟨s::K',d',Z,aL,y7,y8,y9,a3,a2,?_,sub.cons₂ s,?_⟩
   .rw[L1]at e5;exact e5
   .rw[L1]at a5;exact a5
  .have step:exs (ab defs (n+1)) cw (put [a0,sv (.bl p),sv (.int room),some (.own (K.map ofS)),some (.ownD (.k d)),sv (.int D),sv (.int top),x7,x8,x9,U,Y] 7 (.val (ofS s)))=.next [a0,sv (.bl p),sv (.int room),some (.own (K.map ofS)),some (.ownD (.k d)),sv (.int D),sv (.int top),sv (ofS s),sv (.int (av s)),sv (.int J),ar,sv (.int (D+av s+if p=true then J else 0))]:=by
    rw[first];generalize (D+av s+if p=true then J else 0)=high at q ⊢;show exs (ab defs (n+1)) [.ite _ (_::_::_::[_]) []] _=_;rw[al,ex,show evB (ab defs (n+1)) (.cmp .le (.bor 11) (.bor 2)) [a0,sv (.bl p),sv (.int room),some (.own (K.map ofS)),some (.ownD (.k d)),sv (.int D),sv (.int top),sv (ofS s),sv (.int (av s)),sv (.int J),ar,sv (.int high)]=some false from by simp[evB,ev,q],du,if_neg (by decide)];simp[exs]
   rw[step];obtain⟨K',d',Z,aL,y7,y8,y9,a3,a2,e5,sub,a5⟩:=iU n p room a0 S K d P D top (sv (ofS s)) (sv (.int (av s))) (sv (.int J)) ar (sv (.int (D+av s+if p=true then J else 0))) (λt ht=>hS t (.tail _ ht)) (by omega) hp (by omega) hf;exact⟨K',d',Z,aL,y7,y8,y9,a3,a2,e5,sub.cons s,a5⟩
def Af(n:Nat)(S:LL)(p:Bool)(room:Int)(U:∀s∈S,s.Nodup/\s.length<=8)(hl:S.length<=60)(h0:0<=room) :
  ∃K,ab defs (n+2) 26 [.val (.lst (S.map ofS)),.val (.bl p),.val (.int room)]=some (.lst (K.map ofS))/\K.Sublist S/\(p=true->∀h,(K.map av).sum+eN K h<=room):=by
 obtain⟨K,d,J,top,y7,y8,y9,Y,Z,e,sub,D⟩:=iU n p room (sv (.lst (S.map ofS))) S [] [] (λ_=>False) 0 0 none none none none none U (by simp;omega) oA (by simp;omega) ⟨⟨λ_ _=>by simp[eN],λk s z=>by cases z⟩,by simp,LN _,λh=>by simp[eN],by split<;>omega⟩;rw[nil_append]at e D;refine⟨K,?_,sub,λhp h=>?_⟩
 .rw[am (d:=hZ) rfl rfl];have q:(evs (ab defs (n+1)) [.bor 0] [sv (.lst (S.map ofS)),sv (.bl p),sv (.int room),some (.own []),some (.ownD (.k [])),sv (.int 0),sv (.int 0),none,none,none,none,none]).bind (bq .seq)=some (S.map ofS):=by simp[evs,ev]
  show b8 (exs (ab defs (n+1)) (_::_::_::_::_::[_]) [sv (.lst (S.map ofS)),sv (.bl p),sv (.int room),none,none,none,none,none,none,none,none,none])=_;simp only[al];rw[lL (xs:=[]) (by simp[ev,evs]),ah];simp only[bj,bm];rw[show ex (ab defs (n+1)) (.newD false 4) [sv (.lst (S.map ofS)),sv (.bl p),sv (.int room),some (.own []),none,none,none,none,none,none,none,none]=.next [sv (.lst (S.map ofS)),sv (.bl p),sv (.int room),some (.own []),some (.ownD (.k [])),none,none,none,none,none,none,none]from by rw[ex];rfl,ah];rw[bG (v:=.int 0) (by simp[ev]),ah];simp only[bj,bm];rw[bG (v:=.int 0) (by simp[ev]),ah];simp only[bj,bm];rw[map_nil]at e;rw[bR q,show br [.bor 0] [sv (.lst (S.map ofS)),sv (.bl p),sv (.int room),some (.own []),some (.ownD (.k [])),sv (.int 0),sv (.int 0),none,none,none,none,none]=[sv (.lst (S.map ofS)),sv (.bl p),sv (.int room),some (.own []),some (.ownD (.k [])),sv (.int 0),sv (.int 0),none,none,none,none,none]from rfl,e,bn,ah];simp[exs,ex,aS]
 .have h1:=D.fit;rw[if_pos hp,D.sum]at h1;have h2:=D.le h;omega
noncomputable def jO:List Int->LL
 | []=>[]
 |x::s=>s.map (λy=>[x,y])++jO s
theorem iV :∀{s},s.Pairwise (· < ·)->(t∈jO s ↔ ∃a b,t=[a,b]/\a<b/\a∈s/\b∈s)
 | [],_=>⟨λh=>(by cases h),λJ=>ij J λ_ _ _ _ h _=>by cases h⟩
 |x::s,U=>by
  obtain⟨h1,h2⟩:=LK.mp U;rw[jO,K4,iV h2,mem_map];constructor
  .rintro (⟨y,z,rfl⟩|⟨a,b,e,q,ha,D⟩)
   .exact⟨x,y,rfl,h1 y z,.head _,.tail _ z⟩
   .exact⟨a,b,e,q,.tail _ ha,.tail _ D⟩
  .rintro ⟨a,b,e,q,ha,D⟩
   grind
section
variable{α:Type} [DecidableEq α]
end
noncomputable def Cn(R:LL)(a b:Int):Int:=((R.filter λs=>decide (a∈s)&&decide (b∈s)).length:Int)
def Ag{R:LL}(J:∀s∈R,s.Pairwise (· < ·))(D:a<b):(R.map λs=>if [a,b]∈jO s then(1:Int)else 0).sum=Cn R a b:=by
 unfold Cn
 induction R with
 |nil=>rfl
 |cons s R ih =>
  rw[J8,sum_cons,ih λt ht=>J t (.tail _ ht)];have hm:=iV (t:=[a,b]) (J s (.head _));by_cases q:a∈s/\b∈s
  .rw[if_pos (hm.mpr ⟨a,b,rfl,D,q.1,q.2⟩),Mu (by simpa using q),length_cons];exact(Int.add_comm _ _)
  .rw[if_neg λz=>q (by obtain⟨x,y,e,_,hx,U⟩:=hm.mp z;cases e;exact⟨hx,U⟩),L3 (by simpa using q)];exact(Int.add_comm _ _)
def w4(R:LL)(M:Int):Prop:=0<=M/\(M=0\/∃a b,a<b/\(∃s∈R,a∈s/\b∈s)/\Cn R a b=M)/\∀a b,a<b->Cn R a b<=M
section
variable{α:Type} [DecidableEq α]
theorem Dm{g:α->PV}{body:PV->Rho->R}{I:List (α×Sc)->Rho->Prop}{v:Sc}:∀{xs:List α},(∀x∈xs,∀d G,I d G->d.length<9500->∃A,I (bU d x v) A/\body (g x) G=.next A) ->
  ∀{d:List (α×Sc)}{G:Rho}{P:α->Prop},I d G->gB d P->d.length+xs.length<=9000 ->
  ∃d' A,aQ body (xs.map g) G=.next A/\I d' A/\gB d' (λk=>P k\/k∈xs)/\d'.length<=d.length+xs.length
 | [],_,d,G,P,z,D,_=>⟨d,G,rfl,z,by simpa using D,by simp⟩
 |x::xs,Y,d,G,P,z,D,Z=>by
  rw[length_cons]at Z;obtain⟨ao,J,e1⟩:=Y x (.head _) d G z (by omega);have aL:=put_len d x v;obtain⟨d',A,e2,U,q,a1⟩:=Dm (xs:=xs) (λy hy=>Y y (.tail _ hy)) J (oB D x v) (by omega);rw[J8,aQ,e1];refine⟨d',A,e2,U,⟨q.1,λk=>?_⟩,by rw[length_cons];omega⟩;rw[q.2 k];simp only[pe,_root_.or_assoc]
end
noncomputable def oU(q:List Int)(h:Int):List Int:=if h∈q then q else q++[h]
noncomputable def vS(R:LL):List Int:=R.foldl (λacc q=>q.foldl oU acc) []
noncomputable def ja(R:LL):List Int:=sortI (vS R)
def Co(hn:acc.Nodup):(oU acc h).Nodup/\∀x,x∈oU acc h ↔ x∈acc\/x=h:=by
 unfold oU;by_cases q:h∈acc
 .simp_all
 .rw[if_neg q];refine⟨MY.mpr ⟨hn,by simp,λx hx y D=>by rw[Kd.mp D];exact λz=>q (z▸hx)⟩,λx=>?_⟩
  simp_all
theorem sE:∀(z q:List Int),q.Nodup->(z.foldl oU q).Nodup/\∀x,x∈z.foldl oU q ↔ x∈q\/x∈z
 | [],q,hn=>⟨hn,λx=>by simp⟩
 |t::z,q,hn=>by
  obtain⟨h1,h2⟩:=Co (h:=t) hn;obtain⟨h3,h4⟩:=sE z (oU q t) h1;refine⟨h3,λx=>?_⟩;rw[foldl_cons,h4,h2,pe,_root_.or_assoc]
theorem lP:∀(R:LL) q,q.Nodup->(R.foldl (λq z=>z.foldl oU q) q).Nodup/\∀x,x∈R.foldl (λq z=>z.foldl oU q) q ↔ x∈q\/∃z∈R,x∈z
 | [],q,hn=>⟨hn,λx=>by simp⟩
 |t::z,q,hn=>by
  obtain⟨h1,h2⟩:=sE t q hn;obtain⟨h3,h4⟩:=lP z (t.foldl oU q) h1;refine⟨h3,λx=>?_⟩;rw[foldl_cons,h4,h2];simp[_root_.or_assoc]
def sF{R:LL} :x∈ja R ↔ ∃q∈R,x∈q:=by
 unfold ja;rw[d7];have:=(lP R [] KQ).2 x;unfold vS;rw[this];simp
def uF(R):(ja R).Pairwise (· < ·):=kN (lP R [] KQ).1
def Mx(f:List Int->Int)(m:Int):Prop:=0<=m/\(∀j,f j<=m)/\(m=0\/∃j,f j=m)
def Gc{f:List Int->Int}{m:Int}(h:Mx f m)(k:List Int):Mx (λj=>if j=k then f j+1 else f j) (if f k+1 > m then f k+1 else m):=by
 obtain⟨h0,h1,h2⟩:=h;have D:=h1 k;by_cases q:f k+1 > m
 .rw[if_pos q];refine⟨by omega,λj=>?_,.inr ⟨k,if_pos rfl⟩⟩;have:=h1 j;dsimp only;split
  .rename_i e;rw[e];omega
  .omega
 .rw[if_neg q];refine⟨h0,λj=>?_,h2.imp id λ⟨j,e⟩=>⟨j,?_⟩⟩
  .have:=h1 j;dsimp only;split
   .rename_i e;rw[e];omega
   .omega
  .have:¬ j=k:=λz=>by rw[z]at e;omega
   dsimp only;rw[if_neg this];exact e
def w5{p r:List Int}{x:Int}:(p++x::r).take (p.length+1)=p++[x]:=by
 rw[take_append,MF (by omega),show p.length+1-p.length=1 by omega]
 rfl
def w9(h:(p++[x]).Pairwise (· < ·))(t):(t∈jO (p++[x]) ↔ t∈jO p\/t∈p.map (λy=>[y,x]))/\¬ (t∈jO p/\t∈p.map (λy=>[y,x])):=by
 obtain⟨D,_,hx⟩:=pairwise_append.mp h;have hx:∀a∈p,a<x:=λa ha=>hx a ha x (by simp)
 rw[iV h,iV D,mem_map];constructor
 .constructor
  .rintro ⟨a,b,rfl,z,ha,q⟩;rcases K4.mp ha with ha|ha
   .rcases K4.mp q with q|q
    .exact .inl ⟨a,b,rfl,z,ha,q⟩
    .rw[Kd.mp q];exact .inr ⟨a,ha,rfl⟩
   .have J:=Kd.mp ha;rcases K4.mp q with q|q
    .have:=hx b q;omega
    .simp_all
  .rintro (⟨a,b,rfl,z,ha,q⟩|⟨a,ha,rfl⟩)
   .exact⟨a,b,rfl,z,Lv _ ha,Lv _ q⟩
   .exact⟨a,x,rfl,hx a ha,Lv _ ha,by simp⟩
 .rintro ⟨⟨a,b,rfl,z,ha,q⟩,y,U,e⟩;cases e;have:=hx x q;omega
noncomputable def oC(S:LL)(t:List Int):Int:=(S.map λs=>if t∈jO s then(1:Int)else 0).sum
def w_(S:LL)(s t:List Int):oC (S++[s]) t=oC S t+if t∈jO s then 1 else 0:=by
 unfold oC;rw[K0,sum_append];simp
def Ah{S:LL}{t:List Int}(h:oC S t≠0):∃s∈S,t∈jO s:=by
 unfold oC at h
 induction S with
 |nil=>exact absurd rfl h
 |cons s S ih =>
  rw[J8,sum_cons]at h;by_cases q:t∈jO s
  .exact⟨s,.head _,q⟩
  .rw[if_neg q,Int.zero_add]at h;obtain⟨u,z,e⟩:=ih h;exact⟨u,.tail _ z,e⟩
def uG{S:LL}{m:Int}(D:∀s∈S,s.Pairwise (· < ·))(h:Mx (oC S) m):w4 S m:=by
 obtain⟨h0,h1,h2⟩:=h;refine⟨h0,?_,λa b z=>?_⟩
 .rcases h2 with h2|⟨j,e⟩
  .exact .inl h2
  .by_cases q:m=0
   .exact .inl q
   .obtain⟨s,J,U⟩:=Ah (S:=S) (t:=j) (by omega);obtain⟨a,b,rfl,z,ha,Y⟩:=(iV (D s J)).mp U;refine .inr ⟨a,b,z,⟨s,J,ha,Y⟩,?_⟩;rw[<- Ag D z];exact e
 .rw[<- Ag D z];exact h1 [a,b]
theorem Dn(cal:Cal)(s:List Int)(k x:Int)(hk:kf (ofS s) (.int k)=some (.int x))(D J U:Option MV):∀(ys:List Int),ys.Nodup->∀(d:List (List Int×Sc)) (f:List Int->Int) (m:Int) (Z Y:Option MV),fR d f->Mx f m->d.length+ys.length<=9000 ->
  ∃d' f' m' z7 z8,aQ (λv A=>exs cal iO (put A 7 (.val v))) (ys.map .int) [D,J,some (.ownD (.t d)),U,sv (.int m),sv (ofS s),sv (.int k),Z,Y]=.next [D,J,some (.ownD (.t d')),U,sv (.int m'),sv (ofS s),sv (.int k),z7,z8]/\fR d' f'/\Mx f' m'/\(∀j,f' j=f j+if j∈ys.map (λy=>[y,x])then 1 else 0)/\d'.length<=d.length+ys.length
 | [],_,d,f,m,Z,Y,hd,hm,_=>⟨d,f,m,Z,Y,rfl,hd,hm,λj=>by simp,by simp⟩
 |y::ys,hn,d,f,m,Z,Y,hd,hm,hl=>by
  rw[length_cons]at hl;obtain⟨hy,hn⟩:=KA.mp hn;rw[J8,aQ];have a5:d.length<10000:=by omega
  have e1:ev cal (.tup [.var 7,(.idx (.bor 5) (.bor 6))]) [D,J,some (.ownD (.t d)),U,sv (.int m),sv (ofS s),sv (.int k),sv (.int y),Y]=some (ofS [y,x]):=by
   simp[ev,evs,hk,-zY]
  have eg:ev cal (.dget (.bor 2) (.bor 8) (ci 0)) [D,J,some (.ownD (.t d)),U,sv (.int m),sv (ofS s),sv (.int k),sv (.int y),sv (ofS [y,x])]=some (.int (f [y,x])):=by
   rw[<- gQ hd [y,x]];simp only[ev,pM,uB,getElem?_cons_succ,getElem?_cons_zero,Option.join_some,bind_some,ofS,uC]
   rfl
  have es:ev cal (.bin .add (.dget (.bor 2) (.bor 8) (ci 0)) (ci 1)) [D,J,some (.ownD (.t d)),U,sv (.int m),sv (ofS s),sv (.int k),sv (.int y),sv (ofS [y,x])]=some (.int (f [y,x]+1)):=by
   rw[ev,eg];simp[ev]
  have e2:ex cal (.dput 2 (.bor 8) (.bin .add (.dget (.bor 2) (.bor 8) (ci 0)) (ci 1))) [D,J,some (.ownD (.t d)),U,sv (.int m),sv (ofS s),sv (.int k),sv (.int y),sv (ofS [y,x])]=.next [D,J,some (.ownD (.t (bU d [y,x] (.int (f [y,x]+1))))),U,sv (.int m),sv (ofS s),sv (.int k),sv (.int y),sv (ofS [y,x])]:=by
   rw[ex,es,n9];have:rP (.t d) (ofS [y,x]) (.int (f [y,x]+1))=some (.t (bU d [y,x] (.int (f [y,x]+1)))):=by
    unfold ofS;rw[F3,if_pos a5]
   simp only[ev,pM,getElem?_cons_succ,getElem?_cons_zero,Option.join_some,n9,FX,this]
   rfl
  have a6:=sC hd [y,x] 1;have a7:ev cal (.dat (.bor 2) (.bor 8)) [D,J,some (.ownD (.t (bU d [y,x] (.int (f [y,x]+1))))),U,sv (.int m),sv (ofS s),sv (.int k),sv (.int y),sv (ofS [y,x])]=some (.int (f [y,x]+1)):=by
   have:t4 (.dI (.t (bU d [y,x] (.int (f [y,x]+1))))) (ofS [y,x])=some (some (.int (f [y,x]+1))):=by
    unfold ofS;rw[uC,qN,if_pos rfl]
   simp[ev,this,-uC]
  have em:ev cal (.blt .max2 [.bor 4,(.dat (.bor 2) (.bor 8))]) [D,J,some (.ownD (.t (bU d [y,x] (.int (f [y,x]+1))))),U,sv (.int m),sv (ofS s),sv (.int k),sv (.int y),sv (ofS [y,x])]=some (.int (if f [y,x]+1 > m then f [y,x]+1 else m)):=by
   rw[ev,evs,evs,a7];simp[ev,evs]
   rfl
  have e:exs cal iO (put [D,J,some (.ownD (.t d)),U,sv (.int m),sv (ofS s),sv (.int k),Z,Y] 7 (.val (.int y)))=.next [D,J,some (.ownD (.t (bU d [y,x] (.int (f [y,x]+1))))),U,sv (.int (if f [y,x]+1 > m then f [y,x]+1 else m)),sv (ofS s),sv (.int k),sv (.int y),sv (ofS [y,x])]:=by
   show exs cal (_::_::[_]) [D,J,some (.ownD (.t d)),U,sv (.int m),sv (ofS s),sv (.int k),sv (.int y),Y]=_;simp only[al];rw[bG e1,ah];simp only[bj,bm];rw[e2,ah,bG em,ah]
   rfl
  rw[e];have b0:=put_len d [y,x] (.int (f [y,x]+1));obtain⟨d',f',m',z7,z8,e3,i1,i2,i3,i4⟩:=Dn cal s k x hk D J U ys hn _ _ _ (sv (.int y)) (sv (ofS [y,x])) a6 (Gc hm [y,x]) (by omega);refine⟨d',f',m',z7,z8,e3,i1,i2,λj=>?_,by rw[length_cons];omega⟩;rw[i3 j];have ar:[y,x]∉ys.map (λy=>[y,x]):=λz=>by
   obtain⟨w,hw,e⟩:=mem_map.mp z;cases e;exact hy hw
  by_cases q:j=[y,x]
  .subst q;rw[if_pos rfl,if_neg ar,if_pos (by simp),Int.add_zero]
  .rw[if_neg q]
   congr 1
   by_cases q2:j∈ys.map λy=>[y,x]
   .rw[if_pos q2,if_pos (by rw[J8];exact .tail _ q2)]
   .rw[if_neg q2,if_neg (by rw[J8,pe];exact λz=>z.elim q q2)]
theorem Do(cal:Cal)(s:List Int)(hs:s.Pairwise (· < ·))(bA:s.length<=8)(J U:Option MV):∀(r p:List Int),s=p++r->∀(d:List (List Int×Sc)) (f:List Int->Int) (m:Int) (q:List (Int×Sc)) (P:Int->Prop) (y6 Y Z:Option MV),fR d f->Mx f m->d.length+8*r.length<=8000->gB q P->q.length+r.length<=8000 ->
  ∃d' f' m' D z6 z7 z8,aQ (λv A=>exs cal iP (put A 6 (.val v))) ((range' p.length r.length).map λ(k:Nat)=>PV.int (k:Int)) [J,U,some (.ownD (.t d)),some (.ownD (.k q)),sv (.int m),sv (ofS s),y6,Y,Z]=.next [J,U,some (.ownD (.t d')),some (.ownD (.k D)),sv (.int m'),sv (ofS s),z6,z7,z8]/\fR d' f'/\Mx f' m'/\(∀j,f' j+(if j∈jO p then 1 else 0)=f j+if j∈jO s then 1 else 0)/\d'.length<=d.length+8*r.length/\gB D (λh=>P h\/h∈r)/\D.length<=q.length+r.length
 | [],p,hp,d,f,m,q,P,y6,Y,Z,hd,hm,_,hh,_=>⟨d,f,m,q,y6,Y,Z,rfl,hd,hm,λj=>by rw[hp,LG],by simp,by simpa using hh,by simp⟩
 |x::r,p,hp,d,f,m,q,P,y6,Y,Z,hd,hm,hl,hh,bP=>by
  rw[length_cons]at hl bP ⊢;rw[range'_succ,J8,aQ];have cd:p.length<s.length:=by rw[hp,Kj,length_cons];omega
  have a3:s[p.length]?=some x:=by rw[hp];simp
  have ar:kf (ofS s) (.int (p.length:Int))=some (.int x):=by
   unfold ofS;rw[zY,sm,eM (by omega) (by omega),bind_some,Int.toNat_natCast,Kb,a3]
   rfl
  have bS:p.Pairwise (· < ·):=by
   rw[hp]at hs;exact(pairwise_append.mp hs).1
  have bT:(p++[x]).Pairwise (· < ·):=by
   have:=hs.take (i:=p.length+1);rw[hp,w5]at this;exact this
  obtain⟨d1,f1,m1,z7,z8,e3,i1,i2,i3,i4⟩:=Dn cal s (p.length:Int) x ar J U (some (.ownD (.k (bU q x (.bl true))))) p (dO bS) d f m Y Z hd hm (by omega);have bW:q.length<10000:=by omega
  have b0:kg (ofS s) none (some (p.length:Int))=some (ofS p):=by
   have ec:fY s.length s.length (some (p.length:Int))=p.length:=by
    show(if (p.length:Int)<0 then((p.length:Int)+(s.length:Int)).toNat else min ((p.length:Int)).toNat s.length)=_;rw[if_neg (by omega)];omega
   show some (PV.tup (cut (s.map .int) none (some (p.length:Int))))=_;have e1:cut (s.map PV.int) none (some (p.length:Int))=p.map .int:=by
    unfold cut;rw[sm,ec,show fY s.length 0 none=0 from rfl,drop_zero,Nat.sub_zero,hp,K0,take_append_of_le_length (by rw[sm];omega),MF (by rw[sm];omega)]
   rw[e1]
  have e:exs cal iP (put [J,U,some (.ownD (.t d)),some (.ownD (.k q)),sv (.int m),sv (ofS s),y6,Y,Z] 6 (.val (.int (p.length:Int))))=.next [J,U,some (.ownD (.t d1)),some (.ownD (.k (bU q x (.bl true)))),sv (.int m1),sv (ofS s),sv (.int (p.length:Int)),z7,z8]:=by
   have a4:∀D:List (Int×Sc),(evs cal [(.slice (.bor 5) (.cst .non) (.bor 6))] [J,U,some (.ownD (.t d)),some (.ownD (.k D)),sv (.int m),sv (ofS s),sv (.int (p.length:Int)),Y,Z]).bind (bq .seq)=some (p.map .int):=λ_=>by simp[evs,ev,bnd,b0]
   show exs cal (_::[_]) [J,U,some (.ownD (.t d)),some (.ownD (.k q)),sv (.int m),sv (ofS s),sv (.int (p.length:Int)),Y,Z]=_;simp only[al];rw[show ex cal (.dput 3 (.idx (.bor 5) (.bor 6)) (.cst (.bl true))) [J,U,some (.ownD (.t d)),some (.ownD (.k q)),sv (.int m),sv (ofS s),sv (.int (p.length:Int)),Y,Z]=.next [J,U,some (.ownD (.t d)),some (.ownD (.k (bU q x (.bl true)))),sv (.int m),sv (ofS s),sv (.int (p.length:Int)),Y,Z]from by simp[ex,ev,ar,-zY,bW],ah];rw[bR (a4 _),show ∀G:Rho,br [(.slice (.bor 5) (.cst .non) (.bor 6))] G=G from λ_=>rfl,e3,bn,ah]
   rfl
  rw[e];have c4:=put_len q x (.bl true);have b3:p.length<=8:=by omega
  obtain⟨d',f',m',D,w6,w7,w8,e4,j1,j2,j3,j4,j5,j6⟩:=Do cal s hs bA J U r (p++[x]) (by rw[hp,L1];rfl) d1 f1 m1 (bU q x (.bl true)) _ (sv (.int (p.length:Int))) z7 z8 i1 i2 (by omega) (oB hh x (.bl true)) (by omega);rw[Kj,length_singleton]at e4;refine⟨d',f',m',D,w6,w7,w8,e4,j1,j2,λj=>?_,by omega,⟨j5.1,λh=>?_⟩,by omega⟩
  .have h1:=j3 j;have h2:=i3 j;obtain⟨t1,t2⟩:=w9 bT j;by_cases q1:j∈jO p
   .have q2:¬ j∈p.map (λy=>[y,x]):=λz=>t2 ⟨q1,z⟩
    rw[if_neg q2]at h2;rw[if_pos (t1.mpr (.inl q1))]at h1;rw[if_pos q1];omega
   .rw[if_neg q1];by_cases q2:j∈p.map (λy=>[y,x])
    .rw[if_pos q2]at h2;rw[if_pos (t1.mpr (.inr q2))]at h1;omega
    .rw[if_neg q2]at h2;rw[if_neg λz=>(t1.mp z).elim q1 q2]at h1;omega
  .rw[j5.2 h];show(P h\/h=x)\/h∈r ↔ P h\/h∈x::r;rw[pe,_root_.or_assoc]
theorem Dp(n:Nat)(D:Option MV):∀(S K:LL),(∀s∈S,s.Pairwise (· < ·)/\s.length<=8)->∀(d:List (List Int×Sc)) (m:Int) (z:List (Int×Sc)) (y5 J U Y:Option MV),fR d (oC K)->Mx (oC K) m->d.length+64*S.length<=8000->gB z (λh=>∃s∈K,h∈s)->z.length+8*S.length<=7000 ->
  ∃d' m' q z5 z6 z7 z8,aQ (λv A=>exs (ab defs (n+1)) iQ (put A 5 (.val v))) (S.map ofS) [D,sv (.int (K.map av).sum),some (.ownD (.t d)),some (.ownD (.k z)),sv (.int m),y5,J,U,Y]=.next [D,sv (.int ((K++S).map av).sum),some (.ownD (.t d')),some (.ownD (.k q)),sv (.int m'),z5,z6,z7,z8]/\Mx (oC (K++S)) m'/\gB q (λh=>∃s∈K++S,h∈s)/\q.length<=7000
 | [],K,_,d,m,z,y5,J,U,Y,hd,hm,_,hh,Z=>⟨d,m,z,y5,J,U,Y,by simp,by simpa using hm,by simpa using hh,by simp at Z;omega⟩
 |s::S,K,hS,d,m,z,y5,J,U,Y,hd,hm,hl,hh,Z=>by
  rw[length_cons]at hl Z;rw[J8,aQ];obtain⟨hs,h8⟩:=hS s (.head _);have es:=qO n s h8;have a2:(K.map av).sum+av s=((K++[s]).map av).sum:=by rw[K0,sum_append];simp
  obtain⟨d',f',m',q,w6,w7,w8,e4,j1,j2,j3,j4,j5,j6⟩:=Do (ab defs (n+1)) s hs (by omega) D (sv (.int ((K++[s]).map av).sum)) s [] rfl d (oC K) m z _ J U Y hd hm (by omega) hh (by omega);have ef:f'=oC (K++[s]):=by
   funext j
   rw[w_];have:=j3 j;simpa[jO]using this
  subst ef;have e:exs (ab defs (n+1)) iQ (put [D,sv (.int (K.map av).sum),some (.ownD (.t d)),some (.ownD (.k z)),sv (.int m),y5,J,U,Y] 5 (.val (ofS s)))=.next [D,sv (.int ((K++[s]).map av).sum),some (.ownD (.t d')),some (.ownD (.k q)),sv (.int m'),sv (ofS s),w6,w7,w8]:=by
   have a3:∀a1:Option MV,(evs (ab defs (n+1)) [(.blt .len [.bor 5])] [D,a1,some (.ownD (.t d)),some (.ownD (.k z)),sv (.int m),sv (ofS s),J,U,Y]).bind (bq .rng)=some ((range' 0 s.length).map λ(k:Nat)=>PV.int (k:Int)):=λa1=>by
    rw[show evs (ab defs (n+1)) [(.blt .len [.bor 5])] [D,a1,some (.ownD (.t d)),some (.ownD (.k z)),sv (.int m),sv (ofS s),J,U,Y]=some [.int (s.length:Int)]from by simp[evs,ev],bind_some,cV (by omega) (by omega),Int.toNat_natCast,range_eq_range']
   show exs (ab defs (n+1)) (_::[_]) [D,sv (.int (K.map av).sum),some (.ownD (.t d)),some (.ownD (.k z)),sv (.int m),sv (ofS s),J,U,Y]=_;simp only[al];rw[bG (v:=.int ((K++[s]).map av).sum) (by rw[ev,aq (vs:=[.val (ofS s)]) (by simp[evA]) es,<- a2];simp[ev]),ah];simp only[bj,bm];rw[bR (a3 _),show ∀G:Rho,br [(.blt .len [.bor 5])] G=G from λ_=>rfl];rw[length_nil]at e4;rw[e4,bn,ah]
   rfl
  rw[e];have a6:gB q (λh=>∃t∈K++[s],h∈t):=⟨j5.1,λh=>by
   rw[j5.2 h];constructor
   .rintro (⟨t,ht,hk⟩|hk)
    .exact⟨t,Lv _ ht,hk⟩
    .exact⟨s,by simp,hk⟩
   .rintro ⟨t,ht,hk⟩;rcases K4.mp ht with ht|ht
    .exact .inl ⟨t,ht,hk⟩
    .rw[Kd.mp ht]at hk;exact .inr hk⟩
  obtain⟨d2,m2,a7,x5,x6,x7,x8,e5,k1,k2,k3⟩:=Dp n D S (K++[s]) (λt ht=>hS t (.tail _ ht)) d' m' q (sv (ofS s)) w6 w7 w8 j1 j2 (by omega) a6 (by omega);rw[L1]at e5 k1 k2;exact⟨d2,m2,a7,x5,x6,x7,x8,e5,k1,k2,k3⟩
def May(S:LL):Prop:=∃M,w4 S M/\256*M*(((ja S).length:Int) / 2)<4*(S.map av).sum
def uH{R:LL}{M N:Int}(h:w4 R M)(h':w4 R N):M=N:=by
 have gen:∀{M N:Int},w4 R M->w4 R N->M<=N:=λ{M N} h h'=>by
  rcases h.2.1 with e|⟨a,b,q,_,e⟩
  .have:=h'.1;omega
  .have:=h'.2.2 a b q;omega
 exact Int.le_antisymm (gen h h') (gen h' h)
def Ai(n:Nat)(S:LL)(Y:∀s∈S,s.Pairwise (· < ·)/\s.length<=8)(hl:S.length<=60):∃b:Bool,ab defs (n+2) 27 [.val (.lst (S.map ofS))]=some (.bl b)/\(b=true ↔ May S):=by
 obtain⟨d,m,q,z5,z6,z7,z8,e,hm,U,ao⟩:=Dp n (sv (.lst (S.map ofS))) S [] Y [] 0 [] none none none none ⟨λ_ _=>rfl,λk s z=>by cases z⟩ ⟨LN _,λ_=>LN _,.inl rfl⟩ (by simp;omega) ⟨KQ,λk=>by simp⟩ (by simp;omega);rw[nil_append]at e hm U;have D:q.length=(ja S).length:=by
  have p:(q.map (·.1)).Perm (ja S):=(LD U.1 (dO (uF S))).mpr λk=>by rw[U.2 k,sF]
  have:=p.length_eq;rwa[sm]at this
 refine⟨decide (256*m*((q.length:Int) / 2)<4*(S.map av).sum),?_,?_⟩
 .rw[am (d:=lJ) rfl rfl];have J:(evs (ab defs (n+1)) [.bor 0] [sv (.lst (S.map ofS)),sv (.int 0),some (.ownD (.t [])),some (.ownD (.k [])),sv (.int 0),none,none,none,none]).bind (bq .seq)=some (S.map ofS):=by simp[evs,ev]
  show b8 (exs (ab defs (n+1)) (_::_::_::_::_::[_]) [sv (.lst (S.map ofS)),none,none,none,none,none,none,none,none])=_;simp only[al];rw[bG (v:=.int 0) (by simp[ev]),ah];simp only[bj,bm];rw[show ex (ab defs (n+1)) (.newD true 2) [sv (.lst (S.map ofS)),sv (.int 0),none,none,none,none,none,none,none]=.next [sv (.lst (S.map ofS)),sv (.int 0),some (.ownD (.t [])),none,none,none,none,none,none]from by rw[ex];rfl,ah];rw[show ex (ab defs (n+1)) (.newD false 3) [sv (.lst (S.map ofS)),sv (.int 0),some (.ownD (.t [])),none,none,none,none,none,none]=.next [sv (.lst (S.map ofS)),sv (.int 0),some (.ownD (.t [])),some (.ownD (.k [])),none,none,none,none,none]from by rw[ex];rfl,ah];rw[bG (v:=.int 0) (by simp[ev]),ah];simp only[bj,bm];rw[bR J,show br [.bor 0] [sv (.lst (S.map ofS)),sv (.int 0),some (.ownD (.t [])),some (.ownD (.k [])),sv (.int 0),none,none,none,none]=[sv (.lst (S.map ofS)),sv (.int 0),some (.ownD (.t [])),some (.ownD (.k [])),sv (.int 0),none,none,none,none]from rfl];rw[show aQ _ (S.map ofS) [sv (.lst (S.map ofS)),sv (.int 0),some (.ownD (.t [])),some (.ownD (.k [])),sv (.int 0),none,none,none,none]=_ from e,bn,ah];rw[show ∀G:Rho,aS [.bor 0] [sv (.lst (S.map ofS)),sv (.int 0),some (.ownD (.t [])),some (.ownD (.k [])),sv (.int 0),none,none,none,none] G=G from λ_=>rfl];generalize (S.map av).sum=Z;have b1:(-18446744073709551616<(4:Int)/\(4:Int)<18446744073709551616\/-18446744073709551616<Z/\Z<18446744073709551616):=.inl ⟨by decide,by decide⟩;have b2:(-18446744073709551616<(256:Int)/\(256:Int)<18446744073709551616\/-18446744073709551616<m/\m<18446744073709551616):=.inl ⟨by decide,by decide⟩;have b3:(-18446744073709551616<256*m/\256*m<18446744073709551616\/-18446744073709551616<(q.length:Int) / 2/\(q.length:Int) / 2<18446744073709551616):=.inr ⟨by omega,by omega⟩;simp[ex,exs,ev,evs,b1,b2,b3]
 .rw[K9,D];have ht:=uG (λs hs=>(Y s hs).1) hm;exact⟨λh=>⟨m,ht,h⟩,λ⟨M,hM,h⟩=>by rw[uH ht hM];exact h⟩
def qP(c q most:Int)(h1:0<q)(h2:0<=most):((cQ c q most).length:Int)<=most:=by
 obtain⟨_,_,h⟩:=fO q h1 (di c 1181783497276652981 % (most+1)).toNat (di c 1181783497276652981 / (most+1)) [] KQ (λ_ h=>by cases h);unfold cQ;rw[sortI_len];have q1:di c 1181783497276652981 % (most+1)<most+1:=KZ _ (by omega);have q0:0<=di c 1181783497276652981 % (most+1):=Ld _ (by omega);simp only[length_nil]at h;omega
def Bs(s:List Int):Prop:=pN s/\s.length<=8
noncomputable def prT(t:List Int)(q:Int):List Int:=sortI (dd (t++[2*q,2*q+1]))
noncomputable def prS(c q below:Int):List Int:=prT (cQ c below 4) q
def Ge(c q:Int)(h0:0<=q)(h1:q<8):Bs (prS c q 20):=by
 obtain⟨_,z⟩:=oq c 20 4 (by decide);have D:=qP c 20 4 (by decide) (by decide);refine⟨⟨kN (dd_nodup _),λx hx=>?_⟩,?_⟩
 .have hx:=F6.mp (d7.mp hx);rcases K4.mp hx with hx|hx
  .have:=z x hx;omega
  .simp only[pe,Kf,Ko]at hx;omega
 .unfold prS prT;rw[sortI_len];refine xb (lN _) ?_;rw[Kj];simp only[length_cons,length_nil];omega
theorem jm(n:Nat)(q:Int)(h1:1<=q)(h2:q<=8)(z:Option MV):∀(C:List Int) (S:LL) (x4 D:Option MV),C.length+S.length<=100->(∀s∈S,Bs s) ->
  ∃(J:LL) (y4 y5:Option MV),aQ (λv A=>exs (ab defs (n+2)) iR (put A 4 (.val v))) (C.map .int) [z,sv (.int q),sv (.int 20),some (.own (S.map ofS)),x4,D]=.next [z,sv (.int q),sv (.int 20),some (.own (J.map ofS)),y4,y5]/\(∀s∈J,Bs s)/\J.length=S.length+C.length
 | [],S,x4,D,_,hS=>⟨S,x4,D,rfl,hS,rfl⟩
 |c::C,S,x4,D,hl,hS=>by
  rw[length_cons]at hl;have em:=vQ (n+1) c 2049848353892358983;have es:=qM n c 20 4 (by decide) (by decide) (by decide) (by decide);generalize hat:di c 2049848353892358983 % q=at';have U:0<=at':=by rw[<- hat];exact Ld _ (by omega)
  have Y:at'<8:=by
   have:di c 2049848353892358983 % q<q:=KZ _ (by omega);omega
  have hk:=Ge c at' U Y;have a2:=qP c 20 4 (by decide) (by decide);obtain⟨J,y4,y5,e,h3,h4⟩:=jm n q h1 h2 z C (S++[prS c at' 20]) (sv (.int c)) (sv (.int at')) (by rw[Kj];simp;omega) λs Z=>by
   rcases K4.mp Z with Z|Z
   .exact hS s Z
   .rw[Kd.mp Z];exact hk
  refine⟨J,y4,y5,?_,h3,by rw[h4,Kj,length_cons];simp;omega⟩;rw[J8];refine(d8 ?_).trans e;show exs (ab defs (n+2)) (.set 5 _::[.append 3 _]) [z,sv (.int q),sv (.int 20),some (.own (S.map ofS)),sv (.int c),D]=_;have e1:∀x,ev (ab defs (n+2)) (.bin .mod (.call 16 [.bor 4,(ci 2049848353892358983)]) (.bor 1)) [z,sv (.int q),sv (.int 20),some (.own (S.map ofS)),sv (.int c),x]=some (.int at'):=λx=>by
   rw[ev,aq (vs:=[.val (.int c),.val (.int 2049848353892358983)]) rfl em];show(some (PV.int q)).bind (λy=>gG .mod (.int (di c 2049848353892358983)) y)=_;rw[bind_some,e_,if_pos (by omega),hat]
  rw[al,bG (e1 D),ah];show exs (ab defs (n+2)) [.append 3 _] [z,sv (.int q),sv (.int 20),some (.own (S.map ofS)),sv (.int c),sv (.int at')]=_;have e2:ev (ab defs (n+2)) (.blt .tupleOf [(.blt .sortedSet [(.bin .add (.call 17 [.bor 4,.bor 2,(ci 4)]) (.tup [(.bin .mul (ci 2) (.bor 5)),(.bin .add (.bin .mul (ci 2) (.bor 5)) (ci 1))]))])]) [z,sv (.int q),sv (.int 20),some (.own (S.map ofS)),sv (.int c),sv (.int at')]=some (ofS (prS c at' 20)):=by
   unfold prS;have f1:=aq (cal:=ab defs (n+2)) (G:=[z,sv (.int q),sv (.int 20),some (.own (S.map ofS)),sv (.int c),sv (.int at')]) (es:=[.bor 4,.bor 2,(ci 4)]) (vs:=[.val (.int c),.val (.int 20),.val (.int 4)]) rfl es;have f2:ev (ab defs (n+2)) (.tup [(.bin .mul (ci 2) (.bor 5)),(.bin .add (.bin .mul (ci 2) (.bor 5)) (ci 1))]) [z,sv (.int q),sv (.int 20),some (.own (S.map ofS)),sv (.int c),sv (.int at')]=some (ofS [2*at',2*at'+1]):=by
    have m:ev (ab defs (n+2)) (.bin .mul (ci 2) (.bor 5)) [z,sv (.int q),sv (.int 20),some (.own (S.map ofS)),sv (.int c),sv (.int at')]=some (.int (2*at')):=by
     rw[cJ (x:=.int 2) (y:=.int at') (ca _ _ _) (by rw[ev];rfl)];show(if (-(2 ^ 64)<(2:Int)/\(2:Int)<2 ^ 64)\/(-(2 ^ 64)<at'/\at'<2 ^ 64)then some (PV.int (2*at'))else none)=_;rw[if_pos (.inl ⟨by decide,by decide⟩)]
    exact fh (bw m (bw ((cJ m (ca _ _ _)).trans rfl) rfl))
   generalize cQ c 20 4=t at f1 a2 hk;have f3:ev (ab defs (n+2)) (.bin .add (.call 17 [.bor 4,.bor 2,(ci 4)]) (.tup [(.bin .mul (ci 2) (.bor 5)),(.bin .add (.bin .mul (ci 2) (.bor 5)) (ci 1))])) [z,sv (.int q),sv (.int 20),some (.own (S.map ofS)),sv (.int c),sv (.int at')]=some (ofS (t++[2*at',2*at'+1])):=by
    rw[cJ f1 f2];show(if (t.map PV.int).length+_<=10000 then some (PV.tup (t.map PV.int++[2*at',2*at'+1].map PV.int))else none)=_;rw[if_pos (by rw[sm];show _+2<=_;omega),<- K0]
   have e9:∀l:List Int,l.length<=1000->(dd l).length<64->aM .sortedSet [ofS l]=some (ofL (sortI (dd l))):=λl h1 h2=>by
    rw[oT,show b_ (ofS l)=some (l.map PV.int)from rfl,bind_some,fm,bind_some,if_pos ⟨by omega,h2⟩]
   have hd:=lN (t++[2*at',2*at'+1]);have hL:(t++[2*at',2*at'+1]).length<=6:=by
    rw[Kj];simp only[length_cons,length_nil];omega
   rw[bu ((bu f3).trans (e9 _ (by omega) (by omega)))]
   rfl
  rw[al,IA rfl e2 (by rw[sm];omega),ah,exs];show MM.R.next [z,_,_,_,_,_]=_;rw[K0]
  rfl
def uI(n:Nat)(q:Int)(h1:1<=q)(h2:q<=8)(C:List Int)(J:C.length<=60):∃S:LL,ab defs (n+3) 30 [.val (ofL C),.val (.int q),.val (.int 20)]=some (.lst (S.map ofS))/\(∀s∈S,Bs s)/\S.length=C.length:=by
 obtain⟨S,U,Y,e,h3,h4⟩:=jm n q h1 h2 (sv (ofL C)) C [] none none (by simp;omega) (λs D=>by cases D);refine⟨S,?_,h3,by rw[h4];simp⟩;rw[am (d:=ia) rfl rfl];have z:(evs (ab defs (n+2)) [.bor 0] [sv (ofL C),sv (.int q),sv (.int 20),some (.own ([]:List PV)),none,none]).bind (bq .seq)=some (C.map .int):=by simp[evs,ev]
 show b8 (exs (ab defs (n+2)) (_::_::[_]) [sv (ofL C),sv (.int q),sv (.int 20),none,none,none])=_;simp only[al];rw[lL (xs:=[]) (by rw[ev,evs];rfl),ah];simp only[bj,bm];rw[bR z];show b8 ((MM.R.back _ _ (aQ _ _ [sv (ofL C),sv (.int q),sv (.int 20),some (.own (([]:LL).map ofS)),none,none])).andThen _)=_;rw[e,bn,ah]
 rfl
def Aj(n:Nat)(S:LL)(Y:∀s∈S,s.Pairwise (· < ·)/\s.length<=8)(Z:S.length<=60):∃b:Bool,ab defs (n+3) 32 [.val (.lst (S.map ofS))]=some (.bl b):=by
 obtain⟨b,e,_⟩:=Ai n S Y Z;rw[am (d:=ib) rfl rfl];cases b with
 |false=>exact⟨false,jl (sB (aq (vs:=[.val (.lst (S.map ofS))]) rfl e)) (ca _ _ _)⟩
 |true =>
  have lp:∀(xs:List Int) (y:Option MV),(∃y',aQ (λv A=>exs (ab defs (n+2)) cY (put A 1 (.val v))) (xs.map .int) [sv (.lst (S.map ofS)),y]=.next [sv (.lst (S.map ofS)),y'])\/aQ (λv A=>exs (ab defs (n+2)) cY (put A 1 (.val v))) (xs.map .int) [sv (.lst (S.map ofS)),y]=.ret (.bl false):=λxs=>by
   induction xs with
   |nil=>exact λy=>.inl ⟨y,rfl⟩
   |cons x xs ih =>
    intro y;have ec:ev (ab defs (n+2)) (.comp .seq [.bor 0] [1] (.cmp .notIn (.bor 1) (.bor 0)) (.var 0)) [sv (.lst (S.map ofS)),sv (.int x)]=some (.lst ((S.filter λq=>!decide (x∈q)).map ofS)):=gO (xs:=S) (g:=ofS) (h:=ofS) (p:=λq=>!decide (x∈q)) (vs:=[.lst (S.map ofS)]) rfl rfl (by omega) (λq _=>Ab (cv x q) rfl rfl rfl) λ_ _ _=>rfl
    obtain⟨b,e,_⟩:=Ai n (S.filter λq=>!decide (x∈q)) (λs z=>Y s (J9.mp z).1) (xb (Lh _ _) Z);have D:=sB (aq (cal:=ab defs (n+2)) (G:=[sv (.lst (S.map ofS)),sv (.int x)]) (f:=27) (es:=[(.comp .seq [.bor 0] [1] (.cmp .notIn (.bor 1) (.bor 0)) (.var 0))]) (vs:=[.val (.lst ((S.filter λq=>!decide (x∈q)).map ofS))]) (by rw[evA,ec,bind_some,evA];rfl;all_goals exact nofun) e);rw[J8];cases b with
    |true =>
     have J:exs (ab defs (n+2)) cY (put [sv (.lst (S.map ofS)),y] 1 (.val (.int x)))=.next [sv (.lst (S.map ofS)),sv (.int x)]:=Ix D rfl;rw[d8 J];exact ih _
    |false =>
     have J:exs (ab defs (n+2)) cY (put [sv (.lst (S.map ofS)),y] 1 (.val (.int x)))=.ret (.bl false):=Iy D (ca _ _ _);exact .inr (by rw[aQ,J])
  have z:(evs (ab defs (n+2)) [ci 12] [sv (.lst (S.map ofS)),none]).bind (bq .rng)=some (((range 12).map λ(k:Nat)=>(k:Int)).map .int):=by
   rw[show evs (ab defs (n+2)) [ci 12] [sv (.lst (S.map ofS)),none]=some [.int (12:Int)]from by simp[evs,ev],bind_some,cV (by omega) (by omega),Kh]
   rfl
  have D:=sB (aq (cal:=ab defs (n+2)) (G:=[sv (.lst (S.map ofS)),none]) (f:=27) (es:=[.bor 0]) (vs:=[.val (.lst (S.map ofS))]) rfl e);have g0:∀b,b8 (exs (ab defs (n+2)) [.for1 1 .rng [(ci 12)] cY,.ret (.cst (.bl true))] [sv (.lst (S.map ofS)),none])=some (.bl b)->b8 (exs (ab defs (n+2)) ib.body [sv (.lst (S.map ofS)),none])=some (.bl b):=λb h=>gz D h
  rcases lp ((range 12).map λ(k:Nat)=>(k:Int)) none with⟨y',U⟩|U
  .refine⟨true,g0 true ?_⟩;rw[al,bR z,show ∀G:Rho,br [ci 12] G=G from λ_=>rfl,U,bn,ah]
   rfl
  .refine⟨false,g0 false ?_⟩;rw[al,bR z,show ∀G:Rho,br [ci 12] G=G from λ_=>rfl,U]
   rfl
def lQ{cal:Cal}{a b:ME}{G:Rho}{p:Bool}(h:ev cal a G=some (.bl true))(h':ev cal b G=some (.bl p)):ev cal (.and a b) G=some (.bl p):=by
 rw[ev,h];simp[h']
def uJ{cal:Cal}{a b:ME}{G:Rho}(h:ev cal a G=some (.bl false)):ev cal (.and a b) G=some (.bl false):=by
 rw[ev,h]
 rfl
theorem kS(n:Nat)(o:Bool)(q:Option MV):∀(C:List Int) (S:LL) (U D:Option MV),C.length+S.length<=60->(∀s∈S,Bs s) ->
  ∃(z:LL) (y3 y4:Option MV),aQ (λv A=>exs (ab defs (n+4)) cE (put A 3 (.val v))) (C.map .int) [q,sv (.bl o),sv (.lst (S.map ofS)),U,D]=.next [q,sv (.bl o),sv (.lst (z.map ofS)),y3,y4]/\(∀s∈z,Bs s)/\z.length<=S.length+C.length
 | [],S,U,D,_,Z=>⟨S,U,D,rfl,Z,pb _⟩
 |c::C,S,U,D,hl,Z=>by
  rw[length_cons]at hl;have es:=qM (n+2) c 12 4 (by decide) (by decide) (by decide) (by decide);obtain⟨hp,hb⟩:=oq c 12 4 (by decide);have a4:=qP c 12 4 (by decide) (by decide);generalize cQ c 12 4=t at es hp hb a4;have ht:Bs t:=⟨⟨hp,λx hx=>by have:=hb x hx;omega⟩,by omega⟩;have Y:∀s∈S++[t],Bs s:=λs J=>by
   rcases K4.mp J with J|J
   .exact Z s J
   .rw[Kd.mp J];exact ht
  have a5:(S++[t]).length=S.length+1:=by rw[Kj];rfl
  have aL:∀s∈S++[t],s.Pairwise (· < ·)/\s.length<=8:=λs J=>⟨(Y s J).1.1,(Y s J).2⟩
  obtain⟨b1,e1,_⟩:=Ai (n+2) (S++[t]) aL (by omega);obtain⟨b2,e2⟩:=Aj (n+1) (S++[t]) aL (by omega);have ea:ev (ab defs (n+4)) (.bin .add (.bor 2) (.lst [.var 4])) [q,sv (.bl o),sv (.lst (S.map ofS)),sv (.int c),sv (ofS t)]=some (.lst ((S++[t]).map ofS)):=by
   rw[cJ (x:=.lst (S.map ofS)) (y:=.lst [ofS t]) (by rw[ev];rfl) (by rw[ev,evs,ev];rfl)];show(if (S.map ofS).length+1<=10000 then some (PV.lst (S.map ofS++[ofS t]))else none)=_;rw[if_pos (by rw[sm];omega),K0]
   rfl
  have ar:∀r,evA (ab defs (n+4)) [(.bin .add (.bor 2) (.lst [.var 4]))] [q,sv (.bl o),sv (.lst (S.map ofS)),sv (.int c),sv (ofS t)]=some r ↔ r=[.val (.lst ((S++[t]).map ofS))]:=λr=>by
   rw[evA,ea,bind_some,evA]
   .exact⟨λh=>(vr h).symm,λh=>by rw[h];rfl⟩
   all_goals exact nofun
  have c1:=aq (f:=27) ((ar _).mpr rfl) e1;have c2:=aq (f:=32) ((ar _).mpr rfl) e2;have cl:ev (ab defs (n+4)) (.cmp .gt (.blt .len [.bor 4]) (ci 0)) [q,sv (.bl o),sv (.lst (S.map ofS)),sv (.int c),sv (ofS t)]=some (.bl (decide (0<(t.length:Int)))):=by
   simp[ev,evs]
  have c3:ev (ab defs (n+4)) (.or (.bor 1) (.call 32 [(.bin .add (.bor 2) (.lst [.var 4]))])) [q,sv (.bl o),sv (.lst (S.map ofS)),sv (.int c),sv (ofS t)]=some (.bl (o||b2)):=Iz (by rw[ev];rfl) λ_=>c2
  have key:∃z:LL,exs (ab defs (n+4)) cE (put [q,sv (.bl o),sv (.lst (S.map ofS)),U,D] 3 (.val (.int c)))=.next [q,sv (.bl o),sv (.lst (z.map ofS)),sv (.int c),sv (ofS t)]/\(∀s∈z,Bs s)/\z.length<=S.length+1:=by
   have st:∀r:MM.R,exs (ab defs (n+4)) [.ite (.and (.cmp .gt (.blt .len [.bor 4]) (ci 0)) (.and (.call 27 [(.bin .add (.bor 2) (.lst [.var 4]))]) (.or (.bor 1) (.call 32 [(.bin .add (.bor 2) (.lst [.var 4]))])))) [.set 2 (.bin .add (.bor 2) (.lst [.var 4]))] []] [q,sv (.bl o),sv (.lst (S.map ofS)),sv (.int c),sv (ofS t)]=r->exs (ab defs (n+4)) cE (put [q,sv (.bl o),sv (.lst (S.map ofS)),U,D] 3 (.val (.int c)))=r:=λr h=>by
    show exs (ab defs (n+4)) (.set 4 _::[_]) [q,sv (.bl o),sv (.lst (S.map ofS)),sv (.int c),D]=_;rw[al,bG (aq (vs:=[.val (.int c),.val (.int 12),.val (.int 4)]) rfl es),ah];exact h
   have no:∀{p:Bool},p=false->ev (ab defs (n+4)) (.and (.cmp .gt (.blt .len [.bor 4]) (ci 0)) (.and (.call 27 [(.bin .add (.bor 2) (.lst [.var 4]))]) (.or (.bor 1) (.call 32 [(.bin .add (.bor 2) (.lst [.var 4]))])))) [q,sv (.bl o),sv (.lst (S.map ofS)),sv (.int c),sv (ofS t)]=some (.bl p)->exs (ab defs (n+4)) cE (put [q,sv (.bl o),sv (.lst (S.map ofS)),U,D] 3 (.val (.int c)))=.next [q,sv (.bl o),sv (.lst (S.map ofS)),sv (.int c),sv (ofS t)]:=λ{p} hp h=>by
    subst hp;exact st _ (Ix h rfl)
   by_cases q0:0<(t.length:Int)
   .rw[Ka q0]at cl;cases b1 with
    |false=>exact⟨S,no rfl (lQ cl (uJ c1)),Z,KH _⟩
    |true =>
     cases hq:(o||b2)with
     |false =>
      rw[hq]at c3;exact⟨S,no rfl (lQ cl (lQ c1 c3)),Z,KH _⟩
     |true =>
      rw[hq]at c3;refine⟨S++[t],st _ ?_,Y,Lb a5⟩;rw[al,lM (p:=true) (lQ cl (lQ c1 c3)),if_pos rfl,al,bG ea,ah]
      rfl
   .rw[Kn q0]at cl;exact⟨S,no rfl (uJ cl),Z,KH _⟩
  obtain⟨S1,k1,k2,k3⟩:=key;obtain⟨z,y3,y4,e,h3,h4⟩:=kS n o q C S1 (sv (.int c)) (sv (ofS t)) (by omega) k2;refine⟨z,y3,y4,?_,h3,by rw[length_cons];omega⟩;rw[J8];exact(d8 k1).trans e
def sH(n:Nat)(o:Bool)(C:List Int)(hl:C.length<=40):∃S:LL,ab defs (n+5) 33 [.val (ofL C),.val (.bl o)]=some (.lst (S.map ofS))/\(∀s∈S,Bs s)/\S.length<=12:=by
 have h6:(n_ C none (some 6)).length<=6:=by
  unfold n_;rw[Mp];have D:fY C.length C.length (some 6)=min 6 C.length:=rfl;have J:fY C.length 0 none=0:=rfl;rw[D,J];omega
 have U:∀s∈([[0,1],[0,2],[0,3],[1,2],[1,3],[2,3]]:LL),Bs s:=by
  intro s z;simp only[pe,Kf,Ko]at z;rcases z with rfl|rfl|rfl|rfl|rfl|rfl<;>refine⟨⟨by decide,by decide⟩,by decide⟩
 obtain⟨S,y3,y4,e,h3,h4⟩:=kS n o (sv (ofL C)) (n_ C none (some 6)) [[0,1],[0,2],[0,3],[1,2],[1,3],[2,3]] none none (by simp;omega) U;refine⟨S,?_,h3,by simp at h4;omega⟩;rw[am (d:=gw) rfl rfl];have q:∀Y Z a4,(evs (ab defs (n+4)) [(.slice (.bor 0) (.cst .non) (ci 6))] [sv (ofL C),sv (.bl o),Y,Z,a4]).bind (bq .seq)=some ((n_ C none (some 6)).map .int):=λ_ _ _=>by simp[evs,ev,bnd]
 show b8 (exs (ab defs (n+4)) (_::_::[_]) [sv (ofL C),sv (.bl o),none,none,none])=_;simp only[al];rw[bG (v:=.lst (([[0,1],[0,2],[0,3],[1,2],[1,3],[2,3]]:LL).map ofS)) (by rfl),ah];simp only[bj,bm];rw[bR (q _ _ _),show ∀G:Rho,br [(.slice (.bor 0) (.cst .non) (ci 6))] G=G from λ_=>rfl,e,bn,ah]
 rfl
noncomputable def aw (b:Bool):PySem.Str:=if b=true then "moth" else "weaver"
def skip{cal:Cal}{i:Nat}{x y:PySem.Str}{G:Rho}{a:List MS}(hi:(G[i]?).join=sv (.str x))(h:(x==y)=false):ex cal (.ite (.cmp .eq (.bor i) (.cst (.str y))) a []) G=.next G:=by
 rw[ex,z9 (b:=false) ((eU (x:=.str x) (by rw[ev,hi];rfl) (ca _ _ _)).trans (by rw[FY,mR,h];rfl)),du,if_neg (by decide),exs]
noncomputable def bV:Option Int->PV
 |none=>.non
 |some i=>.int i
def Cq(x h:Int):(x==h)=decide (x=h):=rfl
noncomputable def drp(h:Int)(q:List Int):List Int:=q.filter λx=>!decide (x=h)
noncomputable def oV(h:Int)(R:LL):LL:=sortT (R.map (drp h))
def Ak(g:pN q):pN (drp h q):=⟨g.1.filter _,λx hx=>g.2 x (J9.mp hx).1⟩
def xc{R:LL}(g:aY R):aY (oV h R):=by
 refine⟨λz hm=>?_,sortT_rises _,by unfold oV;rw[sortT_len,sm];exact g.2.2⟩;refine ae (mem_map.mp (i9.mp hm)) λt ht q=>?_
 subst q;exact Ak (g.1 t ht)
def mB(n:Nat)(q:List Int)(h:Int)(z:q.length<=10000):ab defs (n+1) 1 [.val (ofS q),.val (.int h)]=some (ofS (drp h q)):=by
 rw[am (d:=eT) rfl rfl];exact c7 ((bu (gO (xs:=q) (g:=.int) (h:=.int) (p:=λx=>!decide (x=h)) rfl rfl z (λ_ _=>rfl) λ_ _ _=>rfl)).trans rfl)
def xg(n:Nat)(R:LL)(h:Int)(g:aY R):ab defs (n+2) 2 [.val (ofR R),.val (.int h)]=some (ofR (oV h R)):=by
 rw[am (d:=lH) rfl rfl];have q:(R.map (drp h)).length<64:=by rw[sm];exact Hg g.2.2 (by decide)
 have e:=i8 q;rw[Kh]at e;have e:aM .sorted [.lst (R.map (ofS∘drp h))]=some (.lst ((oV h R).map ofS)):=e;exact c7 ((bu ((bu (i_ (xs:=R) (g:=ofS) (h:=ofS∘drp h) rfl rfl (xb g.2.2 (by decide)) λc hc=>aq rfl (mB n c h (xb (gM (g.1 c hc)) (by decide))))).trans e)).trans rfl)
noncomputable def Am(h:Int)(R:LL):LL:=R.filter λq=>!decide (h∈q)
def xh{R:LL}(g:aY R):aY (Am h R):=⟨λq hm=>g.1 q (J9.mp hm).1,g.2.1.filter _,xb (Lh _ _) g.2.2⟩
def An(n:Nat)(R:LL)(h:Int)(z:R.length<=10000):ab defs (n+1) 3 [.val (ofR R),.val (.int h)]=some (ofR (Am h R)):=by
 rw[am (d:=og) rfl rfl];exact c7 ((bu (gO (xs:=R) (g:=ofS) (h:=ofS) (p:=λq=>!decide (h∈q)) rfl rfl z (λq _=>Ab (cv h q) rfl rfl rfl) λ_ _ _=>rfl)).trans rfl)
noncomputable def bhd(h:Bool)(R:LL):Option Int->LL
 |none=>R
 |some k=>if h=true then Am k R else oV k R
def dS{R:LL}(g:aY R)(r):aY (bhd h R r):=by
 cases r<;>first|exact g|cases h with|true=>exact xh g|false=>exact xc g
def qQ(n:Nat)(h:Bool):ab defs (n+1) 6 [.val (.str (aw h))]=some (.str (aw (!h))):=by
 rw[am (d:=g9) rfl rfl];cases h<;>rfl
def gS(n:Nat)(R:LL)(g:aY R)(h:Bool)(r:Option Int):ab defs (n+3) 7 [.val (ofR R),.val (.str (aw h)),.val (bV r)]=some (ofR (bhd h R r)):=by
 rw[am (d:=oh) rfl rfl];cases r with
 |none=>rfl
 |some k =>
  have q:=xg n R k g;have z:=λn=>An n R k (by have:=g.2.2;omega)
  cases h with
  |false=>exact gz rfl (c7 (F9 rfl (aq (vs:=[.val (ofR R),.val (.int k)]) rfl q)))
  |true=>exact gz rfl (c7 (F_ rfl (aq (vs:=[.val (ofR R),.val (.int k)]) rfl (z _))))
noncomputable def bh2(h:Bool)(R:LL)(a:Int)(r:Option Int):LL:=bhd h (bhd (!h) R (some a)) r
def Ao{R:LL}(g:aY R)(a)(r):aY (bh2 h R a r):=dS (dS g _) _
noncomputable def bM(R:LL)(h:Int):Int:=(R.map λs=>if h∈s then wgt s else 0).sum
def sI(n:Nat)(R:LL)(g:aY R):∃d,ab defs (n+2) 11 [.val (ofR R)]=some (.dI (.k d))/\fR d (bM R)/\gB d (λk=>∃s∈R,k∈s)/\d.length<=3600:=by
 have Z:=g.2.2;obtain⟨d,A,e,⟨x,y,rfl⟩,hd,D,J⟩:=Ga (R:=R) (ge:=ofS) (m:=id) (w:=wgt) (top:=60) (body:=λv A=>exs (ab defs (n+1)) pP (put A 2 (.val v))) (I:=λd G=>∃x y,G=[sv (ofR R),some (.ownD (.k d)),x,y]) (d:=[]) (G:=[sv (ofR R),some (.ownD (.k [])),none,none]) (f:=λ_=>0) (P:=λ_=>False)
  (by
   rintro s hs d G f P ⟨x,y,rfl⟩ hd D Z;have gs:=g.1 s hs;have U:=gM gs;have ew:=Cl n s U;obtain⟨d',A,e,⟨y',rfl⟩,r⟩:=Cm (xs:=s) (g:=.int) (w:=wgt s) (body:=λv A=>exs (ab defs (n+1)) pO (put A 3 (.val v))) (I:=λd G=>∃y,G=[sv (ofR R),some (.ownD (.k d)),sv (ofS s),y]) (d:=d) (G:=[sv (ofR R),some (.ownD (.k d)),sv (ofS s),y])
    (by
     rintro z _ d G f ⟨y,rfl⟩ hd Z;have eg:ev (ab defs (n+1)) (.dget (.bor 1) (.bor 3) (ci 0)) [sv (ofR R),some (.ownD (.k d)),sv (ofS s),sv (.int z)]=some (.int (f z)):=by
      rw[<- gQ hd z];simp[ev]
     have es:ev (ab defs (n+1)) (.bin .add (.dget (.bor 1) (.bor 3) (ci 0)) (.call 10 [.bor 2])) [sv (ofR R),some (.ownD (.k d)),sv (ofS s),sv (.int z)]=some (.int (f z+wgt s)):=by
      rw[ev,eg,aq (vs:=[.val (ofS s)]) (by simp[evA]) ew]
      rfl
     have Y:d.length<10000:=by omega
     refine⟨_,⟨sv (.int z),rfl⟩,?_⟩;show exs (ab defs (n+1)) [_] [sv (ofR R),some (.ownD (.k d)),sv (ofS s),sv (.int z)]=_;rw[al,ex,es];simp[ev,Y,exs])
    (dO gs.1) ⟨y,rfl⟩ hd D (by omega)
   refine⟨d',_,?_,⟨sv (ofS s),y',rfl⟩,r.1,r.2.1,by have:=r.2.2;omega⟩;have q:(evs (ab defs (n+1)) [.bor 2] [sv (ofR R),some (.ownD (.k d)),sv (ofS s),y]).bind (bq .seq)=some (s.map .int):=by simp[evs,ev]
   show exs (ab defs (n+1)) [_] [sv (ofR R),some (.ownD (.k d)),sv (ofS s),y]=_;rw[al,bR q,show br [.bor 2] [sv (ofR R),some (.ownD (.k d)),sv (ofS s),y]=[sv (ofR R),some (.ownD (.k d)),sv (ofS s),y]from rfl,e,bn,ah];simp[exs,aS])
  ⟨none,none,rfl⟩ sD oA (by simp;omega)
 refine⟨d,?_,?_,?_,by simp at J;omega⟩
 .rw[am (d:=qK) rfl rfl];have q:(evs (ab defs (n+1)) [.bor 0] [sv (ofR R),some (.ownD (.k [])),none,none]).bind (bq .seq)=some (R.map ofS):=by simp[evs,ev]
  show b8 (exs (ab defs (n+1)) (_::_::[_]) [sv (ofR R),none,none,none])=_;simp only[al];rw[show ex (ab defs (n+1)) (.newD false 1) [sv (ofR R),none,none,none]=.next [sv (ofR R),some (.ownD (.k [])),none,none]from by rw[ex];rfl,ah,bR q,show br [.bor 0] [sv (ofR R),some (.ownD (.k [])),none,none]=[sv (ofR R),some (.ownD (.k [])),none,none]from rfl,e,bn,ah]
  rfl
 .have ef:(λj=>(0:Int)+(R.map λs=>if j∈id s then wgt s else 0).sum)=bM R:=by funext j;rw[Int.zero_add];rfl
  rw[<- ef];exact hd
 .refine⟨D.1,λk=>?_⟩;rw[D.2 k];simp
def Cr(n:Nat)(R:LL)(g:aY R):∃d,ab defs (n+2) 11 [.val (ofR R)]=some (.dI (.k d))/\fR d (bM R)/\gB d (λk=>∃s∈R,k∈s):=by
 obtain⟨d,h1,h2,h3,_⟩:=sI n R g;exact⟨d,h1,h2,h3⟩
def sJ(R)(h):0<=bM R h:=by
 unfold bM
 induction R with
 |nil=>simp
 |cons s R ih =>
  rw[J8,sum_cons];have:0<=(if h∈s then wgt s else 0):=by
   split
   .exact MN (Int.pow_pos (by decide))
   .exact LN _
  omega
def Ap{R:LL} :0<bM R h ↔ ∃s∈R,h∈s:=by
 unfold bM
 induction R with
 |nil=>simp
 |cons s R ih =>
  rw[J8,sum_cons];have nn:0<=(R.map λs=>if h∈s then wgt s else 0).sum:=sJ R h;have wp:0<wgt s:=Int.pow_pos (by decide);by_cases q:h∈s
  .rw[if_pos q];exact⟨λ_=>⟨s,.head _,q⟩,λ_=>by omega⟩
  .simp_all
noncomputable def oW:Option Int->PV
 |none=>.non
 |some i=>.int i
noncomputable def cH(f:Int->Int)(b:Option Int)(h:Int):Option Int:=match b with
 |none=>some h
 |some c=>if f c<f h then some h else some c
noncomputable def c_(f:Int->Int):List Int:=((range 60).map λ(k:Nat)=>(k:Int)).filter λh=>decide (0<f h)
def lR(f):(c_ f).Pairwise (· < ·):=by
 refine Pairwise.filter _ (pairwise_map.mpr (pairwise_lt_range.imp λ{a b} q=>by omega))
def sK{R:LL}(g:∀s∈R,pN s)(h:gB d (λk=>∃s∈R,k∈s)):sortI (d.map (·.1))=c_ (bM R):=by
 have p:(d.map (·.1)).Perm (c_ (bM R)):=by
  refine(LD h.1 (dO (lR _))).mpr λk=>?_
  rw[h.2 k];unfold c_;rw[J9,K9,Ap];refine⟨λq=>⟨?_,q⟩,λq=>q.2⟩;obtain⟨s,z,D⟩:=q;have:=(g s z).2 k D;exact mem_map.mpr ⟨k.toNat,mem_range.mpr (by omega),by omega⟩
 rw[sortI_of_perm p,sortI_id ((lR _).imp λ{a b} q=>by omega)]
theorem jn(cal)(a)(d)(f)(hd:fR d f):∀(xs:List Int) b y,(∀x∈xs,bE d x≠none)->(∀c,b=some c->bE d c≠none) ->
  ∃Y,aQ (λx A=>exs cal cX (put A 3 (.val x))) (xs.map .int) [a,sv (.dI (.k d)),sv (oW b),y]=.next [a,sv (.dI (.k d)),sv (oW (xs.foldl (cH f) b)),Y]
 | [],b,y,_,_=>⟨y,rfl⟩
 |x::xs,b,y,hx,Z=>by
  have D:∀z,bE d z≠none->bE d z=some (.int (f z)):=λz q=>by
   cases e:bE d z with
   |none=>exact absurd e q
   |some s=>rw[hd.2 z s e]
  have J:=D x (hx x (.head _));rw[J8,aQ];have e:exs cal cX (put [a,sv (.dI (.k d)),sv (oW b),y] 3 (.val (.int x)))=.next [a,sv (.dI (.k d)),sv (oW (cH f b x)),sv (.int x)]:=by
   cases b with
   |none=>simp[cX,exs,ex,ev,evB,oW,cH,iG]
   |some c =>
    have U:=D c (Z c rfl);by_cases q:f c<f x
    .simp[cX,exs,ex,ev,evB,oW,cH,iG,J,U,q]
    .simp[cX,exs,ex,ev,evB,oW,cH,iG,J,U,q]
  rw[e];refine jn cal a d f hd xs (cH f b x) _ (λz hz=>hx z (.tail _ hz)) λc hc=>?_
  cases b with
  |none=>cases hc;exact hx x (.head _)
  |some c0 =>
   have hc:(if f c0<f x then some x else some c0)=some c:=hc;by_cases q:f c0<f x
   .simp_all
   .simp_all
def uK(n:Nat)(R:LL)(g:aY R):ab defs (n+3) 12 [.val (ofR R)]=some (oW ((c_ (bM R)).foldl (cH (bM R)) none)):=by
 obtain⟨d,e,hd,U⟩:=Cr n R g;have q:=sK g.1 U;have Y:d.length<64:=by
  have:d.length=(c_ (bM R)).length:=by rw[<- q,sortI_len,sm]
  rw[this];have Z:(c_ (bM R)).length<=60:=uD 60 _ (dO (lR _)) λx hx=>by
   unfold c_ at hx;obtain⟨k,q,rfl⟩:=mem_map.mp (J9.mp hx).1;have:=mem_range.mp q;omega
  omega
 rw[am (d:=jH) rfl rfl];have D:∀x∈c_ (bM R),bE d x≠none:=λx hx z=>by
  rw[<- q,d7]at hx;exact ou.mp z hx
 obtain⟨y,J⟩:=jn (ab defs (n+2)) (sv (ofR R)) d (bM R) hd (c_ (bM R)) none none D (λc z=>by cases z);rw[show oW none=.non from rfl]at J;have hs:(evs (ab defs (n+2)) [.blt .sortedKeys [.bor 1]] [sv (ofR R),sv (.dI (.k d)),sv .non,none]).bind (bq .seq)=some ((c_ (bM R)).map .int):=by
  simp[evs,ev,Y,q]
 show b8 (exs (ab defs (n+2)) (_::_::_::[_]) [sv (ofR R),none,none,none])=_;simp only[al];rw[bG (aq (vs:=[.val (ofR R)]) (by simp[evA]) e),ah];simp only[bj,bm];rw[bG (v:=.non) (by simp[ev]),ah];simp only[bj,bm];rw[bR hs,show ∀G:Rho,br [.blt .sortedKeys [.bor 1]] G=G from λ_=>rfl,J,bn,ah];simp[exs,ex,ev,aS]
noncomputable def hvy(R:LL):Option Int:=(c_ (bM R)).foldl (cH (bM R)) none
def Dq(n:Nat)(R:LL)(g:aY R):ab defs (n+3) 12 [.val (ofR R)]=some (bV (hvy R)):=by
 rw[uK n R g];show some (oW (hvy R))=_;cases hvy R<;>rfl
def qR{R:LL}(h8:∀s∈R,s.length<=8)(x:Int):bM R x=4503599627370496*eN R x:=by
 unfold bM eN
 induction R with
 |nil=>rfl
 |cons s R ih =>
  rw[J8,sum_cons,J8,sum_cons,ih λt ht=>h8 t (.tail _ ht),Int.mul_add,wZ (h8 s (.head _))];split<;>omega
noncomputable def jo(f:Int->Int)(b:Option Int)(h:Int):Option Int:=if b.elim 0 f<f h then some h else b
theorem oE(f:Int->Int)(h0:∀x,0<=f x):∀(xs:List Int) (b:Option Int),xs.foldl (jo f) b=(xs.filter λh=>decide (0<f h)).foldl (cH f) b
 | [],_=>rfl
 |x::xs,b=>by
  rw[foldl_cons,filter_cons,oE f h0 xs];by_cases q:0<f x
  .rw[if_pos (Ka q),foldl_cons]
   congr 1
   unfold jo;cases b with
   |none=>exact if_pos q
   |some c=>rfl
  .rw[if_neg (by simpa using q)]
   congr 1
   unfold jo;refine if_neg ?_;cases b with
   |none=>exact q
   |some c =>
    have:=h0 c;show ¬ f c<f x;omega
theorem oF(cal:Cal)(z D:Option MV)(d:List (Int×Sc))(f:Int->Int)(hd:fR d f)(h0:∀x,0<=f x):∀(xs:List Int) (b:Option Int) (y:Option MV),
  ∃J,aQ (λx A=>exs cal h_ (put A 3 (.val x))) (xs.map .int) [z,some (.ownD (.k d)),D,y,sv (bV b),sv (.int (b.elim 0 f))]=.next [z,some (.ownD (.k d)),D,J,sv (bV (xs.foldl (jo f) b)),sv (.int ((xs.foldl (jo f) b).elim 0 f))]
 | [],b,y=>⟨y,rfl⟩
 |x::xs,b,y=>by
  rw[J8,aQ];have hb:0<=b.elim 0 f:=by
   cases b with
   |none=>exact LN _
   |some c=>exact h0 c
  have e:exs cal h_ (put [z,some (.ownD (.k d)),D,y,sv (bV b),sv (.int (b.elim 0 f))] 3 (.val (.int x)))=.next [z,some (.ownD (.k d)),D,sv (.int x),sv (bV (jo f b x)),sv (.int ((jo f b x).elim 0 f))]:=by
   have U:=gQ hd x;have Y:∀m,ev cal (.dget (.bor 1) (.bor 3) (ci 0)) [z,some (.ownD (.k d)),D,sv (.int x),sv (bV b),sv (.int m)]=some (.int (f x)):=λm=>by
    rw[<- U];simp[ev]
   have Z:∀m,evB cal (.cmp .gt (.dget (.bor 1) (.bor 3) (ci 0)) (.bor 5)) [z,some (.ownD (.k d)),D,sv (.int x),sv (bV b),sv (.int m)]=some (decide (m<f x)):=λm=>by
    rw[evB,ev,Y m];simp[ev]
   show exs cal [_] [z,some (.ownD (.k d)),D,sv (.int x),sv (bV b),sv (.int (b.elim 0 f))]=_;rw[al,ex,Z,du];unfold jo;by_cases q:b.elim 0 f<f x
   .rw[Ka q,if_pos rfl,if_pos q];have hn:bE d x=some (.int (f x)):=by
     cases e:bE d x with
     |none =>
      have:=hd.1 x e;omega
     |some s=>rw[hd.2 x s e]
    generalize b.elim 0 f=m;simp[exs,ex,ev,hn,bV]
   .rw[Kn q,if_neg (by simp),if_neg q]
    rfl
  rw[e];exact oF cal z D d f hd h0 xs (jo f b x) _
def vT(n:Nat)(R:LL)(g:aY R)(h8:∀s∈R,s.length<=8):ab defs (n+2) 28 [.val (ofR R)]=some (bV (hvy R)):=by
 have Y:=g.2.2;obtain⟨d,A,e,⟨x,y,rfl⟩,hd,Z,aL⟩:=Ga (R:=R) (ge:=ofS) (m:=id) (w:=av) (top:=60) (body:=λv A=>exs (ab defs (n+1)) kQ (put A 2 (.val v))) (I:=λd G=>∃x y,G=[sv (ofR R),some (.ownD (.k d)),x,y,none,none]) (d:=[]) (G:=[sv (ofR R),some (.ownD (.k [])),none,none,none,none]) (f:=λ_=>0) (P:=λ_=>False)
  (by
   rintro s J d G f P ⟨x,y,rfl⟩ hd Z Y;have gs:=g.1 s J;have a0:=gM gs;have ew:=qO n s (h8 s J);obtain⟨d',A,e,⟨y',rfl⟩,r⟩:=Cm (xs:=s) (g:=.int) (w:=av s) (body:=λv A=>exs (ab defs (n+1)) kO (put A 3 (.val v))) (I:=λd G=>∃y,G=[sv (ofR R),some (.ownD (.k d)),sv (ofS s),y,none,none]) (d:=d) (G:=[sv (ofR R),some (.ownD (.k d)),sv (ofS s),y,none,none])
    (by
     rintro z _ d G f ⟨y,rfl⟩ hd Y;have eg:ev (ab defs (n+1)) (.dget (.bor 1) (.bor 3) (ci 0)) [sv (ofR R),some (.ownD (.k d)),sv (ofS s),sv (.int z),none,none]=some (.int (f z)):=by
      rw[<- gQ hd z];simp[ev]
     have es:ev (ab defs (n+1)) (.bin .add (.dget (.bor 1) (.bor 3) (ci 0)) (.call 25 [.bor 2])) [sv (ofR R),some (.ownD (.k d)),sv (ofS s),sv (.int z),none,none]=some (.int (f z+av s)):=by
      rw[ev,eg,aq (vs:=[.val (ofS s)]) (by simp[evA]) ew]
      rfl
     have U:d.length<10000:=by omega
     refine⟨_,⟨sv (.int z),rfl⟩,?_⟩;show exs (ab defs (n+1)) [_] [sv (ofR R),some (.ownD (.k d)),sv (ofS s),sv (.int z),none,none]=_;rw[al,ex,es];simp[ev,U,exs])
    (dO gs.1) ⟨y,rfl⟩ hd Z (by omega)
   refine⟨d',_,?_,⟨sv (ofS s),y',rfl⟩,r.1,r.2.1,by have:=r.2.2;omega⟩;have D:(evs (ab defs (n+1)) [.bor 2] [sv (ofR R),some (.ownD (.k d)),sv (ofS s),y,none,none]).bind (bq .seq)=some (s.map .int):=by simp[evs,ev]
   show exs (ab defs (n+1)) [_] [sv (ofR R),some (.ownD (.k d)),sv (ofS s),y,none,none]=_;rw[al,bR D,show br [.bor 2] [sv (ofR R),some (.ownD (.k d)),sv (ofS s),y,none,none]=[sv (ofR R),some (.ownD (.k d)),sv (ofS s),y,none,none]from rfl,e,bn,ah];simp[exs,aS])
  ⟨none,none,rfl⟩ sD oA (by simp;omega)
 have ef:(λj=>(0:Int)+(R.map λs=>if j∈id s then av s else 0).sum)=eN R:=by funext j;rw[Int.zero_add];rfl
 rw[ef]at hd;obtain⟨y',e2⟩:=oF (ab defs (n+1)) (sv (ofR R)) x d (eN R) hd (pQ R) ((range 60).map λ(k:Nat)=>(k:Int)) none y;have eh:((range 60).map λ(k:Nat)=>(k:Int)).foldl (jo (eN R)) none=hvy R:=by
  rw[oE _ (pQ R)];have h1:c_ (eN R)=c_ (bM R):=by
   unfold c_;refine filter_congr λz _=>?_
   rw[qR h8 z];exact decide_eq_decide.mpr ⟨λq=>by omega,λq=>by omega⟩
  have h2:cH (eN R)=cH (bM R):=by
   funext b z
   cases b with
   |none=>rfl
   |some c =>
    show(if eN R c<eN R z then some z else some c)=(if bM R c<bM R z then some z else some c);rw[qR h8 z,qR h8 c];by_cases q:eN R c<eN R z
    .rw[if_pos q,if_pos (by omega)]
    .rw[if_neg q,if_neg (by omega)]
  show(c_ (eN R)).foldl (cH (eN R)) none=_;rw[h1,h2]
  rfl
 rw[eh]at e2;have J:(evs (ab defs (n+1)) [ci 60] [sv (ofR R),some (.ownD (.k d)),x,y,sv .non,sv (.int 0)]).bind (bq .rng)=some (((range 60).map λ(k:Nat)=>(k:Int)).map .int):=by
  rw[show evs (ab defs (n+1)) [ci 60] [sv (ofR R),some (.ownD (.k d)),x,y,sv .non,sv (.int 0)]=some [.int (60:Int)]from by simp[evs,ev],bind_some,cV (by omega) (by omega),Kh]
  rfl
 rw[am (d:=jJ) rfl rfl];have D:(evs (ab defs (n+1)) [.bor 0] [sv (ofR R),some (.ownD (.k [])),none,none,none,none]).bind (bq .seq)=some (R.map ofS):=by simp[evs,ev]
 show b8 (exs (ab defs (n+1)) (_::_::_::_::_::[_]) [sv (ofR R),none,none,none,none,none])=_;simp only[al];rw[show ex (ab defs (n+1)) (.newD false 1) [sv (ofR R),none,none,none,none,none]=.next [sv (ofR R),some (.ownD (.k [])),none,none,none,none]from by rw[ex];rfl,ah,bR D,show br [.bor 0] [sv (ofR R),some (.ownD (.k [])),none,none,none,none]=[sv (ofR R),some (.ownD (.k [])),none,none,none,none]from rfl,e,bn,ah];rw[show aS [.bor 0] [sv (ofR R),some (.ownD (.k [])),none,none,none,none] [sv (ofR R),some (.ownD (.k d)),x,y,none,none]=[sv (ofR R),some (.ownD (.k d)),x,y,none,none]from rfl];rw[bG (v:=.non) (by simp[ev]),ah];simp only[bj,bm];rw[bG (v:=.int 0) (by simp[ev]),ah];simp only[bj,bm];rw[bR J,show ∀G:Rho,br [ci 60] G=G from λ_=>rfl];rw[show aQ _ _ [sv (ofR R),some (.ownD (.k d)),x,y,sv .non,sv (.int 0)]=_ from e2,bn,ah];simp[exs,ex,ev,aS]
noncomputable def sub(a b:List Int):Bool:=a.all λx=>decide (x∈b)
def OkP(R:LL):Prop:=∀t∈R,∃x y,t=[x,y]/\(0<=x/\x<=59)/\0<=y/\y<=59
noncomputable def lS(R:LL)(h:Int):Option Int:=(R.find? λt=>decide (h∈t)).map λt=>t.getD 0 0+t.getD 1 0-h
def Gg(n:Nat)(v:PV)(R:LL)(h:Int)(J:b_ v=some (R.map ofS))(U:OkP R):ab defs (n+1) 9 [.val v,.val (.int h)]=some (bV (lS R h)):=by
 rw[am (d:=uE) rfl rfl];have key:=jM (g:=ofS) (xs:=R) (body:=λx A=>exs (ab defs n) iJ (put A 2 (.val x))) (I:=λG=>∃kk,G=[sv v,sv (.int h),kk]) (p:=λt=>decide (h∈t)) (r:=λt=>.int (t.getD 0 0+t.getD 1 0-h))
  (G:=[sv v,sv (.int h),none]) ⟨_,rfl⟩ (by
   rintro t ht G ⟨kk,rfl⟩;obtain⟨x,y,rfl,_⟩:=U t ht;constructor
   .intro q;by_cases e:x=h
    .subst e;simp[iJ,exs,ex,ev,evB,place]<;>try omega
    .have D:y=h:=by simp at q;exact(q.resolve_left (λz=>e z.symm)).symm
     subst D;simp[iJ,exs,ex,ev,evB,place,e]<;>try omega
   .intro q;simp at q;have Y:¬ x=h:=λz=>q.1 z.symm
    have D:¬ y=h:=λz=>q.2 z.symm
    exact⟨[sv v,sv (.int h),sv (ofS [x,y])],⟨_,rfl⟩,by simp[iJ,exs,ex,ev,evB,place,Y,D]⟩)
 have Z:(evs (ab defs n) [.bor 0] [sv v,sv (.int h),none]).bind (bq .seq)=some (R.map ofS):=by
  simp[evs,ev,J]
 show b8 (exs (ab defs n) (_::[_]) [sv v,sv (.int h),none])=_;rw[al,bR Z,show br [.bor 0] [sv v,sv (.int h),none]=[sv v,sv (.int h),none]from rfl];unfold lS;cases hf:R.find? λt=>decide (h∈t)with
 |some t =>
  rw[key.1 t hf]
  rfl
 |none =>
  obtain⟨A,⟨kk,rfl⟩,e⟩:=key.2 hf;rw[e];simp[exs,ex,ev,aS,bV]
def oX(n:Nat)(R:LL)(h:Int)(g:aY R):ab defs (n+1) 18 [.val (ofR R),.val (.int h)]=some (ofR (oV h R)):=by
 rw[am (d:=gu) rfl rfl];have q:(R.map (drp h)).length<64:=by rw[sm];exact Hg g.2.2 (by decide)
 have e:=i8 q;rw[Kh]at e;have e:aM .sorted [.lst (R.map (ofS∘drp h))]=some (.lst ((oV h R).map ofS)):=e;exact c7 ((bu ((bu (i_ (xs:=R) (g:=ofS) (h:=ofS∘drp h) rfl rfl (xb g.2.2 (by decide)) λc hc=>(bu (gO (xs:=c) (g:=.int) (h:=.int) (p:=λx=>!decide (x=h)) rfl rfl (xb (gM (g.1 c hc)) (by decide)) (λ_ _=>rfl) λ_ _ _=>rfl)).trans rfl)).trans e)).trans rfl)
def qS(n:Nat)(R:LL)(h:Int)(z:R.length<=10000):ab defs (n+1) 19 [.val (ofR R),.val (.int h)]=some (ofR (Am h R)):=by
 rw[am (d:=hV) rfl rfl];exact c7 ((bu (gO (xs:=R) (g:=ofS) (h:=ofS) (p:=λq=>!decide (h∈q)) rfl rfl z (λq _=>Ab (cv h q) rfl rfl rfl) λ_ _ _=>rfl)).trans rfl)
def Cs(n:Nat)(R:LL)(g:aY R)(h:Bool)(a:Int)(r:Option Int):ab defs (n+4) 8 [.val (ofR R),.val (.str (aw h)),.val (.int a),.val (bV r)]=some (ofR (bh2 h R a r)):=by
 rw[am (d:=gr) rfl rfl];exact c7 (aq (jN (aq (sA rfl (jN (aq rfl (qQ (n+2) h)) rfl)) (gS n R g (!h) (some a))) rfl) (gS n _ (dS g _) h r))
noncomputable def cK:Option (LL)->PV
 |none=>.tup [.str "weight"]
 |some P=>.tup [.str "pairs",ofR P]
noncomputable def vU (o:Option Int) (P:LL):PV:=.tup [.str "bite",bV o,cK (some P)]
noncomputable def repl(p:Option (LL))(B:LL)(a:Int):Option Int:=match p with
 |none=>hvy B
 |some P=>lS P a
def Aq(n:Nat)(R:LL)(g:aY R)(h:Bool):ab defs (n+5) 13 [.val (cK none),.val (ofR R),.val (.str (aw h))]=some (.tup [bV (hvy R),ofR (bhd h R (hvy R)),cK none]):=by
 rw[am (d:=mS) rfl rfl];refine kR (v:=.str "weight") rfl (gz rfl (F8 rfl ?_));rw[al,bG (aq (vs:=[.val (ofR R)]) rfl (Dq (n+1) R g)),ah];exact Aa (fh (bw rfl (bw (aq (vs:=[.val (ofR R),.val (.str (aw h)),.val (bV (hvy R))]) rfl (gS (n+1) R g h (hvy R))) (bw rfl rfl))))
def Ar(n:Nat)(R:LL)(g:aY R)(h:Bool)(o:Option Int)(P:LL):ab defs (n+5) 13 [.val (vU o P),.val (ofR R),.val (.str (aw h))]=some (.tup [bV o,ofR (bhd h R o),cK (some P)]):=by
 rw[am (d:=mS) rfl rfl];refine kR (v:=.str "bite") rfl (gz rfl (gz rfl (jl rfl ?_)));exact fh (bw rfl (bw (aq (vs:=[.val (ofR R),.val (.str (aw h)),.val (bV o)]) rfl (gS (n+1) R g h o)) (bw rfl rfl)))
def At(n:Nat)(p:Option (LL))(z:∀P,p=some P->OkP P)(R:LL)(g:aY R)(h:Bool)(a:Int):ab defs (n+6) 14 [.val (cK p),.val (ofR R),.val (.str (aw h)),.val (.int a)]=some (.tup [bV (repl p (bhd (!h) R (some a)) a),ofR (bh2 h R a (repl p (bhd (!h) R (some a)) a)),cK p]):=by
 rw[am (d:=oj) rfl rfl];have q:=λr=>Cs (n+1) R g h a r
 cases p with
 |none =>
  refine kR (v:=.str "weight") rfl (F8 rfl ?_);rw[al,bG (aq (jN (aq (sA rfl (jN (aq (vs:=[.val (.str (aw h))]) rfl (qQ (n+4) h)) rfl)) (gS (n+2) R g (!h) (some a))) rfl) (Dq (n+2) _ (dS g _))),ah];exact Aa (fh (bw rfl (bw (aq (vs:=[.val (ofR R),.val (.str (aw h)),.val (.int a),.val (bV (hvy (bhd (!h) R (some a))))]) rfl (q _)) (bw rfl rfl))))
 |some P =>
  refine kR (v:=.str "pairs") rfl (gz rfl (F8 rfl ?_));rw[al,bG (aq (vs:=[.val (ofR P),.val (.int a)]) rfl (Gg (n+4) (ofR P) P a rfl (z P rfl))),ah];exact Aa (fh (bw rfl (bw (aq (vs:=[.val (ofR R),.val (.str (aw h)),.val (.int a),.val (bV (lS P a))]) rfl (q _)) (bw rfl rfl))))
def Ct(n:Nat)(P:LL)(h:Int)(U:OkP P):ab defs (n+1) 37 [.val (ofR P),.val (.int h)]=some (bV (lS P h)):=by
 rw[am (d:=jK) rfl rfl];have key:=jM (g:=ofS) (xs:=P) (body:=λx A=>dG (im [2,3] x A) λJ=>exs (ab defs n) dQ J) (I:=λG=>∃z D,G=[sv (ofR P),sv (.int h),z,D]) (p:=λt=>decide (h∈t)) (r:=λt=>.int (t.getD 0 0+t.getD 1 0-h))
  (G:=[sv (ofR P),sv (.int h),none,none]) ⟨_,_,rfl⟩ (by
   rintro t ht G ⟨z,D,rfl⟩;obtain⟨x,y,rfl,_⟩:=U t ht;have un:im [2,3] (ofS [x,y]) [sv (ofR P),sv (.int h),z,D]=some [sv (ofR P),sv (.int h),sv (.int x),sv (.int y)]:=rfl;constructor
   .intro q;show dG (im [2,3] (ofS [x,y]) [sv (ofR P),sv (.int h),z,D]) _=_;rw[un];by_cases e:h=x
    .subst e;simp[dG,dQ,exs,ex,ev,evB]<;>try omega
    .have Y:h=y:=by simp at q;exact q.resolve_left e
     subst Y;simp[dG,dQ,exs,ex,ev,evB,e]<;>try omega
   .intro q;simp at q;refine⟨_,⟨sv (.int x),sv (.int y),rfl⟩,?_⟩;show dG (im [2,3] (ofS [x,y]) [sv (ofR P),sv (.int h),z,D]) _=_;rw[un];simp[dG,dQ,exs,ex,ev,evB,q.1,q.2])
 have Z:(evs (ab defs n) [.bor 0] [sv (ofR P),sv (.int h),none,none]).bind (bq .seq)=some (P.map ofS):=by
  simp[evs,ev]
 show b8 (exs (ab defs n) (_::[_]) [sv (ofR P),sv (.int h),none,none])=_;rw[al,Cj Z,show br [.bor 0] [sv (ofR P),sv (.int h),none,none]=[sv (ofR P),sv (.int h),none,none]from rfl];unfold lS;cases hf:P.find? λt=>decide (h∈t)with
 |some t =>
  rw[key.1 t hf]
  rfl
 |none =>
  obtain⟨A,⟨z,D,rfl⟩,e⟩:=key.2 hf;rw[e];simp[exs,ex,ev,aS,bV]
def lU(n:Nat)(R:LL)(g:aY R)(h:Bool)(r:Option Int):ab defs (n+2) 36 [.val (ofR R),.val (.str (aw h)),.val (bV r)]=some (ofR (bhd h R r)):=by
 rw[am (d:=ie) rfl rfl];cases r with
 |none=>rfl
 |some k =>
  have q:=oX n R k g;have z:=qS n R k (by have:=g.2.2;omega);cases h with
  |false=>exact gz rfl (jl rfl (aq (vs:=[.val (ofR R),.val (.int k)]) rfl q))
  |true=>exact gz rfl (gz rfl (c7 (aq (vs:=[.val (ofR R),.val (.int k)]) rfl z)))
def kT{R:LL}(h8:∀s∈R,s.length<=8)(h:Bool)(r:Option Int):∀s∈bhd h R r,s.length<=8:=by
 cases r with
 |none=>exact h8
 |some k =>
  cases h with
  |true=>exact λs q=>h8 s (J9.mp q).1
  |false =>
   intro s q;have q:s∈oV k R:=q;unfold oV at q;obtain⟨t,ht,rfl⟩:=mem_map.mp ((sortT_perm _).mem_iff.mp q);exact xb (Lh _ _) (h8 t ht)
def xi(n:Nat)(R:LL)(g:aY R)(h8:∀s∈R,s.length<=8):ab defs (n+3) 38 [.val (cK none),.val (ofR R)]=some (.tup [bV (hvy R),cK none]):=by
 rw[am (d:=fc) rfl rfl];exact gz rfl (c7 (fh (bw (aq (vs:=[.val (ofR R)]) rfl (vT n R g h8)) (bw rfl rfl))))
def xj(n:Nat)(R:LL)(o:Option Int)(P:LL):ab defs (n+3) 38 [.val (vU o P),.val (ofR R)]=some (.tup [bV o,cK (some P)]):=by
 rw[am (d:=fc) rfl rfl];exact jl rfl (fh (bw rfl (bw rfl rfl)))
def Cu(n:Nat)(p:Option (LL))(q:∀P,p=some P->OkP P)(R:LL)(g:aY R)(h8:∀s∈R,s.length<=8)(h:Bool)(a:Int):ab defs (n+5) 40 [.val (cK p),.val (ofR R),.val (.str (aw h)),.val (.str (aw (!h))),.val (.int a)]=some (.tup [bV (repl p (bhd (!h) R (some a)) a),ofR (bh2 h R a (repl p (bhd (!h) R (some a)) a))]):=by
 have z:ab defs (n+4) 39 [.val (cK p),.val (ofR (bhd (!h) R (some a))),.val (.int a)]=some (bV (repl p (bhd (!h) R (some a)) a)):=by
  rw[am (d:=fN) rfl rfl];cases p with
  |none=>exact gz rfl (c7 (aq (vs:=[.val (ofR (bhd (!h) R (some a)))]) rfl (vT (n+1) _ (dS g _) (kT h8 _ _))))
  |some P=>exact jl rfl (aq (vs:=[.val (ofR P),.val (.int a)]) rfl (Ct (n+2) P a (q P rfl)))
 rw[am (d:=jL) rfl rfl];refine kR (aq (vs:=[.val (ofR R),.val (.str (aw (!h))),.val (.int a)]) rfl (lU (n+2) R g (!h) (some a))) ?_;refine kR (aq (vs:=[.val (cK p),.val (ofR (bhd (!h) R (some a))),.val (.int a)]) rfl z) ?_;exact c7 (fh (bw rfl (bw (aq (vs:=[.val (ofR (bhd (!h) R (some a))),.val (.str (aw h)),.val (bV (repl p (bhd (!h) R (some a)) a))]) rfl (lU (n+2) _ (dS g _) h _)) rfl)))
noncomputable def mpI(sh x:Int):Int:=(7*x+sh) % 60
noncomputable def mp(sh:Int)(s:List Int):List Int:=sortI (s.map (mpI sh))
def sL{sh y:Int}(h0:0<=y)(h1:y<=59):43*(mpI sh y-sh) % 60=y:=by
 unfold mpI;omega
def Cv{sh:Int}{s:List Int}(h:Bs s):Bs (mp sh s):=by
 refine⟨⟨kN ?_,λx hx=>?_⟩,?_⟩
 .refine(pairwise_map.mpr ?_);refine(Pairwise.imp_of_mem ?_ (dO h.1.1));intro a b ha D ne e;have q:=h.1.2 a ha;have z:=h.1.2 b D;exact ne (by rw[<- sL (sh:=sh) q.1 q.2,e,sL z.1 z.2])
 .obtain⟨y,_,rfl⟩:=mem_map.mp (d7.mp hx);unfold mpI;omega
 .unfold mp;rw[sortI_len,sm];exact h.2
def Cw(n:Nat){R:LL}(sh:Int)(J:R.length<=60)(z:∀s∈R,Bs s):ab defs (n+1) 29 [.val (.lst (R.map ofS)),.val (.int sh)]=some (ofR (sortT (R.map (mp sh)))):=by
 rw[am (d:=lK) rfl rfl];show b8 (exs (ab defs n) [.ret _] [sv (.lst (R.map ofS)),sv (.int sh)])=_;refine c7 ?_;refine(bu (v:=.lst ((sortT (R.map (mp sh))).map ofS)) ?_).trans rfl;rw[bu (v:=.lst ((R.map (mp sh)).map ofS)) ?_,jF,qJ,bind_some,i8 (by rw[sm];omega)];rw[Kh];refine i_ (g:=ofS) (h:=ofS∘mp sh) (vs:=[.lst (R.map ofS)]) (by simp[evs,ev]) rfl (by omega) λs q=>?_
 have D:=(z s q).2;show ev (ab defs n) _ [sv (ofS s),sv (.int sh)]=_;refine(bu (v:=ofL (mp sh s)) ?_).trans rfl;rw[bu (v:=ofL (s.map (mpI sh))) ?_,jF,qJ,bind_some,lG (by rw[sm];omega)]
 .rfl
 refine(i_ (g:=PV.int) (h:=λx=>.int (mpI sh x)) (vs:=[ofS s]) (by simp[evs,ev]) rfl (by omega) λx _=>?_).trans (by unfold ofL;rw[Kh];rfl);simp[ev,dX,mpI]
def Au{R:LL}{sh:Int}(z:R.length<=60)(D:∀s∈R,Bs s):aY (sortT (R.map (mp sh)))/\∀s∈sortT (R.map (mp sh)),s.length<=8:=by
 have q:∀s∈sortT (R.map (mp sh)),Bs s:=λs h=>by
  obtain⟨t,ht,rfl⟩:=mem_map.mp ((sortT_perm _).mem_iff.mp h);exact Cv (D t ht)
 exact⟨⟨λs h=>(q s h).1,sortT_rises _,by rw[sortT_len,sm];exact z⟩,λs h=>(q s h).2⟩
def uL(n:Nat)(C:List Int)(Z:C.length<=40)(z q:Int)(o:Bool):∃S:LL,ab defs (n+6) 34 [.val (ofL C),.val (.int z),.val (.int q),.val (.bl o)]=some (.lst (S.map ofS))/\(∀s∈S,Bs s)/\S.length<=40:=by
 rw[am (d:=ic) rfl rfl];by_cases U:z=0
 .subst U;have m0:=Ld q (show(8:Int)≠0 by decide);have m1:=KZ q (show(0:Int)<8 by decide);obtain⟨S,e,h1,h2⟩:=uI (n+2) (1+q % 8) (by omega) (by omega) C (by omega);refine⟨S,jl rfl (aq (vs:=[.val (ofL C),.val (.int (1+q % 8)),.val (.int 20)]) ?_ e),h1,by omega⟩;simp[evA,ev]
 .have n0:ev (ab defs (n+5)) (.cmp .eq (.bor 1) (ci 0)) [sv (ofL C),sv (.int z),sv (.int q),sv (.bl o)]=some (.bl false):=by simp[ev,U]
  by_cases Y:z=1
  .subst Y;have ec:ev (ab defs (n+5)) (.comp .seq [.bor 0] [] (.cst (.bl true)) (.call 17 [.bor 0,(ci 12),(ci 6)])) [sv (ofL C),sv (.int 1),sv (.int q),sv (.bl o)]=some (.lst ((C.map λc=>cQ c 12 6).map ofS)):=by
    refine(i_ (g:=.int) (h:=λc=>ofS (cQ c 12 6)) (vs:=[ofL C]) (by simp[evs,ev]) rfl (by omega) λc _=>?_).trans (by rw[Kh];rfl);exact aq (vs:=[.val (.int c),.val (.int 12),.val (.int 6)]) (by simp[evA,ev,dX]) (qM (n+3) c 12 6 (by omega) (by omega) (by decide) (by decide))
   have J:∀s∈C.map λc=>cQ c 12 6,Bs s:=λs D=>by
    obtain⟨c,_,rfl⟩:=mem_map.mp D;obtain⟨hp,J⟩:=oq c 12 6 (by decide);have:=qP c 12 6 (by decide) (by decide);exact⟨⟨hp,λx hx=>by have:=J x hx;omega⟩,by omega⟩
   obtain⟨K,e,sub,_⟩:=Af (n+3) (C.map λc=>cQ c 12 6) (!o) 255 (λs D=>⟨dO (J s D).1.1,(J s D).2⟩) (by rw[sm];omega) (by decide);refine⟨K,gz n0 (jl rfl (aq (vs:=[.val (.lst ((C.map λc=>cQ c 12 6).map ofS)),.val (.bl (!o)),.val (.int 255)]) ?_ e)),λs D=>J s (sub.subset D),by have:=sub.length_le;rw[sm]at this;omega⟩;show evA (ab defs (n+5)) _ [sv (ofL C),sv (.int 1),sv (.int q),sv (.bl o)]=_;rw[evA,ec,bind_some,evA,show ev (ab defs (n+5)) (.not (.bor 3)) [sv (ofL C),sv (.int 1),sv (.int q),sv (.bl o)]=some (.bl (!o))from sB (by rw[ev];rfl),bind_some,evA,ca,bind_some,evA]
   .rfl
   all_goals exact nofun
  .have n1:ev (ab defs (n+5)) (.cmp .eq (.bor 1) (ci 1)) [sv (ofL C),sv (.int z),sv (.int q),sv (.bl o)]=some (.bl false):=by simp[ev,Y]
   obtain⟨S,e,h1,h2⟩:=sH n o C Z;exact⟨S,gz n0 (gz n1 (c7 (aq (vs:=[.val (ofL C),.val (.bl o)]) rfl e))),h1,by omega⟩
def uM(n:Nat)(z sh J:Int)(h1:1<=z)(h2:z<=8)(h3:0<=sh)(h4:sh<=59):∃P,ab defs (n+1) 31 [.val (.int z),.val (.int sh),.val (.int J)]=some (ofR P)/\OkP P:=by
 have lp:∀(m k:Nat) (P:LL) (U Y Z:Option MV),k+m<=8->P.length=k->OkP P->∃(P':LL) (y4 y5 y6:Option MV),aQ (λv A=>exs (ab defs n) dg (put A 4 (.val v))) ((range' k m).map λ(k:Nat)=>PV.int (k:Int)) [sv (.int z),sv (.int sh),sv (.int J),some (.own (P.map ofS)),U,Y,Z]=.next [sv (.int z),sv (.int sh),sv (.int J),some (.own (P'.map ofS)),y4,y5,y6]/\OkP P':=λm=>by
  induction m with
  |zero=>exact λk P U Y Z _ _ h=>⟨P,U,Y,Z,rfl,h⟩
  |succ m ih =>
   intro k P U Y Z hk hl hP;obtain⟨a,ha⟩:∃a,a=(14*(k:Int)+sh) % 60:=⟨_,rfl⟩;obtain⟨b,hb⟩:∃b,b=(14*(k:Int)+7+sh) % 60:=⟨_,rfl⟩;have a0:0<=a/\a<=59:=by omega
   have b0:0<=b/\b<=59:=by omega
   have a3:∀x y:Int,(0<=x/\x<=59)->(0<=y/\y<=59)->OkP (P++[[x,y]]):=λx y hx hy t ht=>by
    rcases K4.mp ht with ht|ht
    .exact hP t ht
    .exact⟨x,y,Kd.mp ht,hx,hy⟩
   have key:∃x y:Int,(0<=x/\x<=59)/\(0<=y/\y<=59)/\exs (ab defs n) dg (put [sv (.int z),sv (.int sh),sv (.int J),some (.own (P.map ofS)),U,Y,Z] 4 (.val (.int (k:Int))))=.next [sv (.int z),sv (.int sh),sv (.int J),some (.own ((P++[[x,y]]).map ofS)),sv (.int (k:Int)),sv (.int a),sv (.int b)]:=by
    have bt:(P.map ofS).length<10000:=by rw[sm];omega
    have D:P.length<10000:=by omega
    by_cases q:(J+(k:Int)) % 2=1
    .refine⟨b,a,b0,a0,?_⟩;simp[dg,exs,ex,ev,evs,evB,q,D,<- ha,<- hb]
    .refine⟨a,b,a0,b0,?_⟩;simp[dg,exs,ex,ev,evs,evB,q,D,<- ha,<- hb]
   obtain⟨x,y,hx,hy,e1⟩:=key;obtain⟨P',y4,y5,y6,e2,h⟩:=ih (k+1) (P++[[x,y]]) (sv (.int (k:Int))) (sv (.int a)) (sv (.int b)) (by omega) (by rw[Kj];simp;omega) (a3 x y hx hy);refine⟨P',y4,y5,y6,?_,h⟩;rw[range'_succ,J8];exact(d8 e1).trans e2
 obtain⟨P,y4,y5,y6,e,h⟩:=lp z.toNat 0 [] none none none (by omega) rfl (λt ht=>by cases ht);refine⟨P,?_,h⟩;rw[am (d:=iS) rfl rfl];have ao:(evs (ab defs n) [.bor 0] [sv (.int z),sv (.int sh),sv (.int J),some (.own ([]:List PV)),none,none,none]).bind (bq .rng)=some ((range' 0 z.toNat).map λ(k:Nat)=>PV.int (k:Int)):=by
  rw[show evs (ab defs n) [.bor 0] [sv (.int z),sv (.int sh),sv (.int J),some (.own ([]:List PV)),none,none,none]=some [.int z]from by simp[evs,ev],bind_some,cV (by omega) (by omega),range_eq_range']
 show b8 (exs (ab defs n) (_::_::[_]) [sv (.int z),sv (.int sh),sv (.int J),none,none,none,none])=_;simp only[al];rw[lL (xs:=[]) (by rw[ev,evs];rfl),ah];simp only[bj,bm];rw[bR ao];show b8 ((MM.R.back _ _ (aQ _ _ [sv (.int z),sv (.int sh),sv (.int J),some (.own (([]:LL).map ofS)),none,none,none])).andThen _)=_;rw[e,bn,ah]
 rfl
def Av(n:Nat)(z q sh:Int)(o:Bool)(hw:0<z):ab defs (n+2) 35 [.val (.int z),.val (.int q),.val (.int sh),.val (.bl o)]=some (cK none):=by
 rw[am (d:=gj) rfl rfl];exact jl (by simp[ev,hw]) rfl
def xk(n:Nat)(z sh:Int)(o:Bool)(h3:0<=sh)(h4:sh<=59):∃P,OkP P/\((o=false/\ab defs (n+2) 35 [.val (.int 0),.val (.int z),.val (.int sh),.val (.bl o)]=some (cK (some P)))\/(o=true/\∃w:Option Int,ab defs (n+2) 35 [.val (.int 0),.val (.int z),.val (.int sh),.val (.bl o)]=some (vU w P))):=by
 have m0:=Ld z (show(8:Int)≠0 by decide);have m1:=KZ z (show(0:Int)<8 by decide);obtain⟨P,e,h⟩:=uM n (1+z % 8) sh (z / 8 % 2) (by omega) (by omega) h3 h4;refine⟨P,h,?_⟩;rw[am (d:=gj) rfl rfl];have es:ev (ab defs (n+1)) (.tup [(cs "pairs"),(.call 31 [(.bin .add (ci 1) (.bin .mod (.bor 1) (ci 8))),.bor 2,(.bin .mod (.bin .fdiv (.bor 1) (ci 8)) (ci 2))])]) [sv (.int 0),sv (.int z),sv (.int sh),sv (.bl o),none]=some (cK (some P)):=fh (bw rfl (bw (aq (vs:=[.val (.int (1+z % 8)),.val (.int sh),.val (.int (z / 8 % 2))]) (by simp[evA,ev]) e) rfl));cases o with
 |false=>exact .inl ⟨rfl,gz rfl (kR es (jl rfl rfl))⟩
 |true =>
  refine .inr ⟨rfl,?_⟩;by_cases q:z / 16 % 3=0
  .exact⟨none,gz rfl (kR es (gz rfl (jl (by simp[ev,q]) (by simp[ev,evs];rfl))))⟩
  .exact⟨some (z / 48 % 60),gz rfl (kR es (gz rfl (gz (by simp[ev,q]) (c7 (by simp[ev,evs];rfl)))))⟩
def uN(n:Nat)(R:LL):ab defs (n+1) 4 [.val (ofR R)]=some (.bl (decide ([]∈R))):=by
 rw[am (d:=jG) rfl rfl];exact c7 (JU (uA [] R) rfl rfl)
def xl(n:Nat)(R:LL):ab defs (n+1) 5 [.val (ofR R)]=some (.bl (decide (R=[]))):=by
 rw[am (d:=lI) rfl rfl];cases R with
 |nil=>rfl
 |cons t R =>
  have:¬ ((R.length:Int)+1=0):=by omega
  rw[Kn (cons_ne_nil t R)];exact c7 (Ck (Ku.mpr (by rw[sm,length_cons];exact this)) rfl)
def kU{h x:Int}{q:List Int}:x∈drp h q ↔ x∈q/\x≠h:=by
 unfold drp;rw[J9];simp
noncomputable def xm(R:LL)(d:Bool×Int):LL:=if d.1 then oV d.2 R else Am d.2 R
def xn{R:LL}{d:Bool×Int}:∀q∈xm R d,d.2∉q:=by
 intro q h;unfold xm at h;split at h
 .obtain⟨t,_,rfl⟩:=mem_map.mp (i9.mp h);exact λz=>(kU.mp z).2 rfl
 .have:=(J9.mp h).2;simpa using this
def uO{R:LL}{d:Bool×Int}{x:Int}(h:∀q∈R,x∉q):∀q∈xm R d,x∉q:=by
 intro q hm;unfold xm at hm;split at hm
 .obtain⟨t,ht,rfl⟩:=mem_map.mp (i9.mp hm);exact λz=>h t ht (kU.mp z).1
 .exact h q (J9.mp hm).1
noncomputable def hat(o:Bool)(k:Nat):Bool:=if k % 2=0 then o else !o
noncomputable def lft(o:Bool):Nat->LL->List Int->LL
 | _,R,[]=>R
 |k,R,h::t=>lft o (k+1) (bhd (hat o k) R (some h)) t
def sM(b:Bool)(R:LL)(h:Int):bhd b R (some h)=xm R (!b,h):=by cases b<;>rfl
theorem sO(o:Bool){R:LL}:∀(t:List Int) (k:Nat) (R:LL) (x:Int),((∀q∈R,x∉q)\/x∈t)->∀q∈lft o k R t,x∉q
 | [],k,R,x,h=>h.elim id λz=>by cases z
 |y::t,k,R,x,h=>by
  rw[lft,sM];refine sO (R:=R) o t (k+1) _ x ?_;rcases h with h|h
  .exact .inl (uO h)
  .rcases pe.mp h with rfl|h
   .exact .inl (xn (d:=(!hat o k,x)))
   .exact .inr h
theorem vV(o:Bool){P:Int->Prop}:∀(t:List Int) (k:Nat) (R:LL),(∀z∈R,∀x∈z,P x)->∀z∈lft o k R t,∀x∈z,P x
 | [],k,R,h=>h
 |y::t,k,R,h=>by
  rw[lft,sM];refine vV o t (k+1) _ λz q x hx=>?_
  unfold xm at q;split at q
  .obtain⟨s,D,rfl⟩:=mem_map.mp (i9.mp q);exact h s D x (kU.mp hx).1
  .exact h z (J9.mp q).1 x hx
noncomputable def fU (R:LL):Sc:=if []∈R then .str "weaver" else if R=[]then .str "moth" else .non
def xo(n:Nat)(c r:PV)(xs:List PV)(o:Bool)(k:Nat):ab defs (n+2) 41 [.brwO [c,r,.str (aw o)] xs,.val (.int (k:Nat))]=some (.str (aw (hat o k))):=by
 rw[am (d:=cG) rfl rfl];have q:=qQ n o;by_cases h:k % 2=0
 .have h':((k:Int) % 2==0)=true:=by rw[J7];omega
  simp[cG,exs,ex,ev,evs,evB,evA,mx,h',hat,h]
 .have h':((k:Int) % 2==0)=false:=by rw[Ku];omega
  simp[cG,exs,ex,ev,evs,evB,evA,mx,h',hat,h,q]
theorem pS(n:Nat)(c r:PV)(xs:List PV)(o:Bool):∀(t:List Int) (k:Nat) (R:LL) (p h:Option MV),aY R ->
  ∃D h',aQ (λx A=>dG (im [2,3] x A) λz=>exs (ab defs (n+3)) dR z) (dF k (t.map .int)) [some (.brwO [c,r,.str (aw o)] xs),sv (ofR R),p,h]
  =.next [some (.brwO [c,r,.str (aw o)] xs),sv (ofR (lft o k R t)),D,h']
 | [],k,R,p,h,_=>⟨p,h,rfl⟩
 |x::t,k,R,p,h,g=>by
  have J:=xo (n+1) c r xs o k;have U:=gS n R g (hat o k) (some x);have e:(dG (im [2,3] (.tup [.int (k:Nat),.int x]) [some (.brwO [c,r,.str (aw o)] xs),sv (ofR R),p,h]) λz=>exs (ab defs (n+3)) dR z)
   =.next [some (.brwO [c,r,.str (aw o)] xs),sv (ofR (bhd (hat o k) R (some x))),sv (.int (k:Nat)),sv (.int x)]:=by
   simp[im,t5,dR,exs,ex,ev,evs,evA,mx,J,<- bV.eq_def,show PV.int x=bV (some x)from rfl,U]
  rw[J8,dF,d8 e];obtain⟨D,h',q⟩:=pS n c r xs o t (k+1) _ (sv (.int (k:Nat))) (sv (.int x)) (dS g (some x));exact⟨D,h',q⟩
noncomputable abbrev tbl(c:Int)(R:LL)(o:Bool):List PV:=[.int c,ofR R,.str (aw o)]
def Gh(n:Nat)(c:Int)(R:LL)(o:Bool)(t:List Int)(g:aY R):ab defs (n+4) 43 [.brwO (tbl c R o) (t.map .int)]=some (ofR (lft o 0 R t)):=by
 rw[am (d:=ff) rfl rfl];obtain⟨q,h',e⟩:=pS n (.int c) (ofR R) (t.map .int) o t 0 R none none g;simp[ff,exs,ex,ev,evs,evB,evA,mx,vm,bq,br,e,aS]
def sP(n:Nat)(c:Int)(R:LL)(o:Bool)(t:List Int)(g:aY R):ab defs (n+5) 44 [.brwO (tbl c R o) (t.map .int)]=some (fU (lft o 0 R t)).pv:=by
 rw[am (d:=cx) rfl rfl];have q:=Gh n c R o t g;generalize lft o 0 R t=L at q;have z:=uN (n+3) L;have D:=xl (n+3) L;unfold fU;by_cases h:[]∈L
 .simp[cx,exs,ex,ev,evs,evB,evA,mx,q,z,h,Sc.pv]
 .by_cases h2:L=[]
  .subst h2;simp[cx,exs,ex,ev,evs,evB,evA,mx,q,z,D,Sc.pv]
  .simp[cx,exs,ex,ev,evs,evB,evA,mx,q,z,D,h,h2,Sc.pv]
def Cy(n:Nat)(h c:Int):ab defs (n+1) 0 [.val (.int h),.val (.int c)]=some (.bl (decide (0<=h)&&decide (h<c))):=by
 rw[am (d:=cf) rfl rfl];by_cases q:0<=h
 .simp[cf,exs,ex,ev,evs,evB,q]
 .simp[cf,exs,ex,ev,evs,evB,q]
def Gi(n:Nat)(c:Int)(R:LL)(o:Bool)(t:List Int)(h:Int)(g:aY R)(hw:fU (lft o 0 R t)=.non)(h0:0<=h)(h1:h<c)(hn:h∉t)(J:t.length<10000) :
  ab defs (n+6) (45+3000) [.ownO true (tbl c R o) (t.map .int),.val (.int h)]=some (.tup [(fU (lft o 0 R (t++[h]))).pv,.lst ((t++[h]).map .int)]):=by
 rw[wX (d:=fg) (by decide) rfl rfl rfl];have z:=sP n c R o t g;have U:=Cy (n+4) h c;have q:=sP n c R o (t++[h]) g;have Y:(t++[h]).map PV.int=t.map PV.int++[PV.int h]:=by simp
 rw[hw,show Sc.non.pv=PV.non from rfl]at z;rw[Y]at q ⊢;have D:sc? (fU (lft o 0 R (t++[h]))).pv=some (fU (lft o 0 R (t++[h]))):=by
  unfold fU;split
  .rfl
  .split<;>rfl
 generalize fU (lft o 0 R (t++[h]))=w at q D;simp[fg,exs,ex,ev,evs,evB,evA,mx,C5,z,U,h0,h1,cv,hn,J,q,D,iG,FN,wJ,MM.R.andThen]
def xp (L:LL):fU L=.str "weaver" \/ fU L=.str "moth" \/ fU L=.non:=by
 unfold fU;split
 .exact .inl rfl
 .split
  .exact .inr (.inl rfl)
  .exact .inr (.inr rfl)
noncomputable def Ff(q z:Int->Bool)(D:LL):LL:=(D.filter λs=>!s.any z).map λs=>s.filter λx=>!q x
noncomputable def tkB(w:Bool)(o:Bool):Nat->List Int->Int->Bool
 | _,[],_=>false
 |k,h::t,x=>(decide (x=h)&&(hat o k==w))||tkB w o (k+1) t x
theorem vW{w o:Bool}:∀{t:List Int}{k:Nat}{x:Int},x∉t->tkB w o k t x=false
 | [],_,_,_=>rfl
 |h::t,k,x,hx=>by
  rw[pe]at hx;rw[tkB,vW λz=>hx (.inr z),Kn λz=>hx (.inl z)]
  rfl
def Cz{J D:Int->Bool}{h:Int}(Y:D h=false)(U:LL):Ff J D (U.map (drp h))=Ff (λx=>decide (x=h)||J x) D U:=by
 unfold Ff;rw[List.filter_map,Kh];have Z:((λs:List Int=>!s.any D)∘drp h)=λs=>!s.any D:=by
  funext s
  show(!(drp h s).any D)=!s.any D
  congr 1
  rw[KR,KY,KY];refine⟨λ⟨x,hx,q⟩=>⟨x,(kU.mp hx).1,q⟩,λ⟨x,hx,q⟩=>⟨x,kU.mpr ⟨hx,λz=>?_⟩,q⟩⟩;rw[z,Y]at q;cases q
 rw[Z];refine Lg λs _=>?_
 show(drp h s).filter _=_;unfold drp;rw[List.filter_filter]
 congr 1
 funext x
 show((!J x)&&!decide (x=h))=!(decide (x=h)||J x);cases decide (x=h)<;>cases J x<;>rfl
def CA{D z:Int->Bool}{h:Int}(J:LL):Ff D z (J.filter λU=>!decide (h∈U))=Ff D (λx=>decide (x=h)||z x) J:=by
 unfold Ff;rw[List.filter_filter]
 congr 1
 congr 1
 funext s
 have:(s.any λx=>decide (x=h)||z x)=(decide (h∈s)||s.any z):=by
  rw[KR,KY,LU,KY,K9];constructor
  .rintro ⟨x,hx,q⟩;rcases Bool.or_eq_true_iff.mp q with q|q
   .exact .inl (Kl q▸hx)
   .exact .inr ⟨x,hx,q⟩
  .rintro (q|⟨x,hx,q⟩)
   .exact⟨h,q,by simp⟩
   .exact⟨x,hx,by simp[q]⟩
 rw[this];cases decide (h∈s)<;>cases s.any z<;>rfl
theorem uP(o:Bool):∀(t:List Int) (k:Nat) (q:LL),t.Nodup->lft o k (sortT q) t=sortT (Ff (tkB false o k t) (tkB true o k t) q)
 | [],k,q,_=>by
  unfold lft Ff;have e:(q.filter λs=>!s.any (tkB true o k []))=q:=Mo.mpr λs _=>by
   have:s.any (tkB true o k [])=false:=by rw[MB];intro x _ z;cases z
   rw[this]
   rfl
  rw[e];have U:(q.map λs=>s.filter λx=>!tkB false o k [] x)=q.map id:=Lg λs _=>Mo.mpr λx _=>rfl
  rw[U,List.map_id]
 |h::t,k,q,nd=>by
  obtain⟨n1,n2⟩:=KA.mp nd;rw[lft];cases e:hat o k with
  |false =>
   have D:bhd false (sortT q) (some h)=sortT (q.map (drp h)):=sortT_of_perm ((sortT_perm q).map _);rw[D,uP o t (k+1) _ n2,Cz (vW n1)]
   congr 2
   .funext x
    rw[tkB,e];simp
   .funext x
    rw[tkB,e];simp
  |true =>
   have D:bhd true (sortT q) (some h)=sortT (q.filter λJ=>!decide (h∈J)):=by
    show(sortT q).filter _=_;rw[<- sortT_id ((sortT_rises q).filter λJ=>!decide (h∈J))];exact sortT_of_perm ((sortT_perm q).filter _)
   rw[D,uP o t (k+1) _ n2,CA]
   congr 2
   .funext x
    rw[tkB,e];simp
   .funext x
    rw[tkB,e];simp
theorem qT(w o:Bool):∀(t:List Int) (k:Nat) (x:Int),tkB w o k t x=true ↔ ∃i,t[i]?=some x/\hat o (k+i)=w
 | [],k,x=>⟨λz=>(by cases z),λ⟨i,h,_⟩=>(by simp at h)⟩
 |h::t,k,x=>by
  rw[tkB,LU,ow,K9,J7,qT w o t (k+1) x];constructor
  .rintro (⟨rfl,e⟩|⟨i,q,D⟩)
   .exact⟨0,rfl,e⟩
   .exact⟨i+1,by simpa using q,by rw[<- D];congr 1;omega⟩
  .rintro ⟨i,q,D⟩;cases i with
   |zero=>simp at q;exact .inl ⟨q.symm,D⟩
   |succ i=>exact .inr ⟨i,by simpa using q,by rw[<- D];congr 1;omega⟩
noncomputable def frl(c:Int)(t:List Int):List Int:=((range c.toNat).filter λ(k:Nat)=>!decide ((k:Int)∈t)).map λ(k:Nat)=>(k:Int)
def vX{c x:Int}{t:List Int}:x∈frl c t ↔ (0<=x/\x<c)/\x∉t:=by
 unfold frl;rw[mem_map];constructor
 .rintro ⟨k,q,rfl⟩;obtain⟨h1,h2⟩:=J9.mp q;have h1:k<c.toNat:=by simpa using h1
  exact⟨by omega,by simpa using h2⟩
 .rintro ⟨h1,h2⟩;have e:((x.toNat:Nat):Int)=x:=by omega
  refine⟨x.toNat,J9.mpr ⟨by simp;omega,?_⟩,e⟩;rw[e];simpa using h2
def Aw{L:LL}(h:fU L=.non):[]∉L/\L≠[]:=by
 unfold fU at h;split at h
 .cases h
 .rename_i h1;split at h
  .cases h
  .rename_i h2;exact⟨h1,h2⟩
def CB(n:Nat)(c:Int)(R:LL)(o:Bool)(t:List Int)(h0:0<=c)(h1:c<=60):ab defs (n+1) 42 [.brwO (tbl c R o) (t.map .int)]=some (ofL (frl c t)):=by
 rw[am (d:=ig) rfl rfl];have q:c.toNat<=10000:=by omega
 have e:ev (ab defs n) (.comp .rng [.fld 0 0] [0] (.cmp .notIn (.bor 0) (.fldL 1)) (.var 0)) [some (.brwO (tbl c R o) (t.map .int))]=some (ofL (frl c t)):=by
  rw[ev,show evs (ab defs n) [.fld 0 0] [some (.brwO (tbl c R o) (t.map .int))]=some [.int c]from by simp[evs,ev,mx],bind_some,cV h0 (by omega),bind_some,if_pos (by simpa using q),dq (p:=λ(k:Nat)=>!decide ((k:Int)∈t)) (h:=λ(k:Nat)=>.int (k:Int))]
  .unfold frl;rw[map_some];show some (PV.lst _)=some (PV.lst ((map _ _).map PV.int));rw[Kh]
   rfl
  .intro k _;simp[ev,dX,dY,vm,cv]
  .intro k _ _;simp[ev,dX]
 exact c7 e
noncomputable def tb(t:List Int)(b:Int):List Int:=((range t.length).filter λ(k:Nat)=>decide ((k:Int) % 2=b)).map λk=>t.getD k 0
def Gj(t:List Int)(b:Int):(tb t b).length<=t.length:=by
 unfold tb;rw[sm];exact xb (Lh _ _) (by rw[MZ];exact pb _)
def Ax{t:List Int}{b x:Int}:x∈tb t b ↔ ∃i:Nat,t[i]?=some x/\(i:Int) % 2=b:=by
 unfold tb;rw[mem_map];constructor
 .rintro ⟨k,z,rfl⟩;obtain⟨h1,h2⟩:=J9.mp z;have h1:k<t.length:=by simpa using h1
  exact⟨k,by simp[List.getD,h1],Kl h2⟩
 .rintro ⟨i,q,D⟩;have h1:i<t.length:=(xa.mp q).1;refine⟨i,J9.mpr ⟨by simpa using h1,Ka D⟩,?_⟩;simp[List.getD,q]
def Ay{o:Bool}{b:Int}(D:b=if o=true then 1 else 0)(t:List Int):(tkB false o 0 t=λx=>decide (x∈sortI (tb t b)))/\tkB true o 0 t=λx=>decide (x∈sortI (tb t (1-b))):=by
 constructor
 .funext x
  rw[KR,qT,K9,d7,Ax];refine⟨λ⟨i,z,q⟩=>⟨i,z,?_⟩,λ⟨i,z,q⟩=>⟨i,z,?_⟩⟩
  .rw[L0]at q;unfold hat at q;subst D;cases o<;>simp at q ⊢<;>omega
  .rw[L0];unfold hat;subst D;cases o<;>simp at q ⊢<;>omega
 .funext x
  rw[KR,qT,K9,d7,Ax];refine⟨λ⟨i,z,q⟩=>⟨i,z,?_⟩,λ⟨i,z,q⟩=>⟨i,z,?_⟩⟩
  .rw[L0]at q;unfold hat at q;subst D;cases o<;>simp at q ⊢<;>omega
  .rw[L0];unfold hat;subst D;cases o<;>simp at q ⊢<;>omega
def IB(n:Nat)(L:LL):ab defs (n+1) 23 [.val (ofR L)]=some (fU L).pv:=by
 rw[am (d:=gN) rfl rfl];have q:isIn (.tup []) (L.map ofS)=some (decide ([]∈L)):=uA [] L;have eq:eqF 100 (ofR L) (.tup [])=some (decide (L=[])):=Ia 98 L [];unfold fU;by_cases h:[]∈L
 .simp[gN,exs,ex,ev,evs,evB,q,h,Sc.pv]
 .by_cases h2:L=[]
  .subst h2
   rfl
  .simp[gN,exs,ex,ev,evs,evB,q,eq,h,h2,Sc.pv]
def sQ(n:Nat)(t:List Int)(b:Int)(D:t.length<64)(m:MV)(hm:m=.brw (t.map .int)\/m=.val (ofL t)):ab defs (n+1) 21 [m,.val (.int b)]=some (ofL (sortI (tb t b))):=by
 rw[am (d:=fJ) rfl rfl];have q:(tb t b).length<64:=Hg (Gj t b) D;have e:ev (ab defs n) (.comp .rng [(.blt .len [.bor 0])] [0,1] (.cmp .eq (.bin .mod (.bor 0) (ci 2)) (.bor 2)) (.idx (.bor 1) (.bor 0))) [some m,sv (.int b)]=some (.lst ((tb t b).map .int)):=by
  rw[ev,show evs (ab defs n) [(.blt .len [.bor 0])] [some m,sv (.int b)]=some [.int t.length]from by rcases hm with rfl|rfl<;>simp[evs,ev],bind_some,cV (by omega) (by omega),bind_some,if_pos (by simp;omega),dq (p:=λ(k:Nat)=>decide ((k:Int) % 2=b)) (h:=λ(k:Nat)=>.int (t.getD k 0))]
  .unfold tb;rw[Kh];simp only[Int.toNat_natCast]
   rfl
  .intro k _;rcases hm with rfl|rfl<;>simp[ev,dX,Cq]
  .intro k z _;have z:k<t.length:=by simpa using z
   rcases hm with rfl|rfl<;>simp[ev,dX,eM (show(0:Int)<=(k:Nat)by omega) (show((k:Nat):Int)<t.length by omega),z]
 show b8 (exs _ [.ret _] [some _,some _])=_;rw[c7 (v:=ofL (sortI (tb t b)))];rw[bu e,jF,qJ,bind_some,lG q]
def oG(n:Nat)(t:List Int)(b:Int)(q:t.length<64):ab defs (n+1) 21 [.brw (t.map .int),.val (.int b)]=some (ofL (sortI (tb t b))):=sQ n t b q _ (.inl rfl)
theorem pT(cal:Cal)(K B:List Int)(a:MV):∀(D z:LL) (rb:Option MV),(∀s∈D,s.length<=10000)->z.length+D.length<10000 ->
  ∃J,aQ (λx A=>exs cal dP (put A 4 (.val x))) (D.map ofS) [some a,sv (ofL K),sv (ofL B),some (.own (z.map ofS)),rb]
  =.next [some a,sv (ofL K),sv (ofL B),some (.own ((z++Ff (λx=>decide (x∈K)) (λx=>decide (x∈B)) D).map ofS)),J]
 | [],z,rb,_,_=>⟨rb,by simp[Ff]⟩
 |s::D,z,rb,hs,hl=>by
  rw[length_cons]at hl;have h1:=hs s (.head _);have e1:∀G:Rho,(G[4]?).join=sv (ofS s)->(G[2]?).join=sv (ofL B)->ev cal (.blt .any [(.comp .seq [.bor 4] [2] (.cst (.bl true)) (.cmp .isIn (.bor 0) (.bor 1)))]) G=some (.bl (s.any λx=>decide (x∈B))):=λG q1 q2=>by
   rw[bu (i_ (vs:=[ofS s]) (xs:=s) (g:=PV.int) (h:=λx=>.bl (decide (x∈B))) (by rw[evs,ev,q1];rfl) rfl h1 λx _=>by simp[ev,dX,q2,cv]),Cd];have:(s.map λx=>PV.bl (decide (x∈B)))=(s.map λx=>decide (x∈B)).map PV.bl:=by rw[Kh];rfl
   rw[this,n6,map_some,MW]
   rfl
  have e2:∀G:Rho,(G[4]?).join=sv (ofS s)->(G[1]?).join=sv (ofL K)->ev cal (.blt .tupleOf [(.comp .seq [.bor 4] [1] (.cmp .notIn (.bor 0) (.bor 1)) (.var 0))]) G=some (ofS (s.filter λx=>!decide (x∈K))):=λG q1 q2=>by
   have:ev cal (.comp .seq [.bor 4] [1] (.cmp .notIn (.bor 0) (.bor 1)) (.var 0)) G=some (.lst ((s.filter λx=>!decide (x∈K)).map .int)):=by
    rw[ev,show evs cal [.bor 4] G=some [ofS s]from by rw[evs,ev,q1];rfl,bind_some,Ch,Cc,bind_some,if_pos (by simpa using h1),dq (p:=λx=>!decide (x∈K)) (h:=PV.int)]
    .rfl
    .intro x _;simp[ev,dX,q2,cv]
    .intro x _ _;simp[ev,dX]
   rw[bu this]
   rfl
  have e:exs cal dP (put [some a,sv (ofL K),sv (ofL B),some (.own (z.map ofS)),rb] 4 (.val (ofS s)))
   =.next [some a,sv (ofL K),sv (ofL B),some (.own ((z++Ff (λx=>decide (x∈K)) (λx=>decide (x∈B)) [s]).map ofS)),sv (ofS s)]:=by
   have Y:z.length<10000:=by omega
   simp only[bm,bj];have q1:=e1 [some a,sv (ofL K),sv (ofL B),some (.own (z.map ofS)),sv (ofS s)] rfl rfl;have q2:=e2 [some a,sv (ofL K),sv (ofL B),some (.own (z.map ofS)),sv (ofS s)] rfl rfl;cases U:s.any λx=>decide (x∈B)with
   |true =>
    rw[U]at q1;have q3:evB cal (.not (.blt .any [(.comp .seq [.bor 4] [2] (.cst (.bl true)) (.cmp .isIn (.bor 0) (.bor 1)))])) [some a,sv (ofL K),sv (ofL B),some (.own (z.map ofS)),sv (ofS s)]=some false:=by
     unfold evB;rw[ev,q1]
     rfl
    rw[dP,al,ex,q3,du,if_neg (by decide),exs,ah,exs];simp[Ff,U]
   |false =>
    rw[U]at q1;have q3:evB cal (.not (.blt .any [(.comp .seq [.bor 4] [2] (.cst (.bl true)) (.cmp .isIn (.bor 0) (.bor 1)))])) [some a,sv (ofL K),sv (ofL B),some (.own (z.map ofS)),sv (ofS s)]=some true:=by
     unfold evB;rw[ev,q1]
     rfl
    rw[dP,al,ex,q3,du,if_pos rfl,al,ex,q2];simp[Ff,U,Y,exs]
  rw[J8,d8 e];obtain⟨J,q⟩:=pT cal K B a D (z++Ff (λx=>decide (x∈K)) (λx=>decide (x∈B)) [s]) (sv (ofS s)) (λs Z=>hs s (.tail _ Z)) (by
   have:(Ff (λx=>decide (x∈K)) (λx=>decide (x∈B)) [s]).length<=1:=by unfold Ff;rw[sm];exact Lh _ _
   rw[Kj];omega)
  refine⟨J,?_⟩;rw[q,L1];have:Ff (λx=>decide (x∈K)) (λx=>decide (x∈B)) [s]++Ff (λx=>decide (x∈K)) (λx=>decide (x∈B)) D=Ff (λx=>decide (x∈K)) (λx=>decide (x∈B)) (s::D):=by
   unfold Ff;rw[<- K0,<- filter_append]
   rfl
  rw[this]
def Gk(n:Nat)(q:LL)(K B:List Int)(D:∀s∈q,s.length<=10000)(J:q.length<64):ab defs (n+1) 22 [.val (.lst (q.map ofS)),.val (ofL K),.val (ofL B)]=some (ofR (sortT (Ff (λx=>decide (x∈K)) (λx=>decide (x∈B)) q))):=by
 rw[am (d:=hW) rfl rfl];obtain⟨U,e⟩:=pT (ab defs n) K B (.val (.lst (q.map ofS))) q [] none D (by simp;omega);rw[nil_append,map_nil]at e;have z:(Ff (λx=>decide (x∈K)) (λx=>decide (x∈B)) q).length<64:=by
  unfold Ff;rw[sm];exact Hg (Lh _ _) J
 simp[hW,exs,ex,ev,evs,evB,br,e,aS,i8 z]
def Az(n:Nat)(c:Int)(t:List Int)(h0:0<=c)(h1:c<=60)(hl:t.length<=60)(m:MV)(hm:m=.brw (t.map .int)\/m=.val (ofL t)):ab defs (n+1) 24 [.val (.int c),m]=some (ofL (frl c t)):=by
 rw[am (d:=jI) rfl rfl];obtain⟨d,A,e,J,Y,_⟩:=Dm (g:=PV.int) (v:=.bl true) (body:=λx A=>exs (ab defs n) hX (put A 3 (.val x))) (I:=λd G=>∃D,G=[sv (.int c),some m,some (.ownD (.k d)),D]) (xs:=t)
  (λx _ d G ⟨D,J⟩ hd=>by
   subst J;have hd:d.length<10000:=by omega
   refine⟨_,⟨sv (.int x),rfl⟩,?_⟩;simp[hX,exs,ex,ev,hd,sc?])
  (d:=[]) (G:=[sv (.int c),some m,some (.ownD (.k [])),none]) (P:=λ_=>False) ⟨none,rfl⟩ ⟨by simp,λk=>by simp⟩ (by simp;omega)
 obtain⟨D,rfl⟩:=J;have Z:∀x,(bE d x).isSome=decide (x∈t):=λx=>by
  cases q:bE d x with
  |none =>
   have:=ou.mp q;rw[Y.2 x]at this;rw[Kn (λz=>this (.inr z))]
   rfl
  |some s =>
   have:x∈d.map (·.1):=by
    by_cases z:x∈d.map (·.1)
    .exact z
    .rw[ou.mpr z]at q;cases q
   rw[Y.2 x]at this;rw[Ka (this.elim False.elim id)]
   rfl
 have U:c.toNat<=10000:=by omega
 have e2:ev (ab defs n) (.comp .rng [.bor 0] [2] (.dIn true (.bor 0) (.bor 1)) (.var 0)) [sv (.int c),some m,some (.ownD (.k d)),D]=some (ofL (frl c t)):=by
  rw[ev,show evs (ab defs n) [.bor 0] [sv (.int c),some m,some (.ownD (.k d)),D]=some [.int c]from by simp[evs,ev],bind_some,cV h0 (by omega),bind_some,if_pos (by simpa using U),dq (p:=λ(k:Nat)=>!decide ((k:Int)∈t)) (h:=λ(k:Nat)=>.int (k:Int))]
  .unfold frl;rw[map_some];show some (PV.lst _)=some (PV.lst ((map _ _).map PV.int));rw[Kh]
   rfl
  .intro k _;simp[ev,dX,dY];rw[<- Z];cases bE d (k:Int)<;>rfl
  .intro k _ _;simp[ev,dX]
 show b8 (exs _ [_,_,.ret _] (some _::some _::_))=_;refine z_ (A:=[sv (.int c),some m,some (.ownD (.k [])),none]) rfl ?_;refine z_ (A:=[sv (.int c),some m,some (.ownD (.k d)),D]) ?_ ?_
 .rw[bR (xs:=t.map .int) (by rcases hm with rfl|rfl<;>simp[evs,ev]),show br [.bor 1] [sv (.int c),some m,some (.ownD (.k [])),none]=[sv (.int c),some m,some (.ownD (.k [])),none]from by rcases hm with rfl|rfl<;>rfl,e,bn];rcases hm with rfl|rfl<;>rfl
 .exact c7 e2
def CC(n:Nat)(c:Int)(t:List Int)(h0:0<=c)(h1:c<=60)(q:t.length<=60):ab defs (n+1) 24 [.val (.int c),.brw (t.map .int)]=some (ofL (frl c t)):=Az n c t h0 h1 q _ (.inl rfl)
def AA{R:LL}(g:aY R):sortT R=R:=sortT_id g.2.1
def Gm(n:Nat){R:LL}(g:aY R){o:Bool}{b:Int}(q:b=if o=true then 1 else 0){t:List Int}(nd:t.Nodup):ab defs (n+1) 22 [.val (.lst (R.map ofS)),.val (ofL (sortI (tb t b))),.val (ofL (sortI (tb t (1-b))))]=some (ofR (lft o 0 R t)):=by
 rw[Gk n R _ _ (λs z=>by have:=gM (g.1 s z);omega) (by have:=g.2.2;omega)];have eq:=uP o t 0 R nd;rw[(Ay q t).1,(Ay q t).2,AA g]at eq;rw[eq]
def Gn{R:LL}(g:aY R){o:Bool}{t:List Int}(h:fU (lft o 0 R t)=.non):frl 60 t≠[]:=by
 obtain⟨D,w2⟩:=Aw h;cases e:lft o 0 R t with
 |nil=>exact absurd e w2
 |cons s L =>
  cases s with
  |nil=>rw[e]at D;exact absurd (Kz) D
  |cons y s =>
   have ms:(y::s)∈lft o 0 R t:=by rw[e];exact .head _
   refine ne_nil_of_mem (a:=y) (vX.mpr ⟨vV o (P:=λy=>0<=y/\y<60) t 0 _ (λJ q z hz=>by have:=(g.1 J q).2 z hz;omega) _ ms y (.head _),λU=>?_⟩);exact sO (R:=[]) o t 0 _ y (.inr U) _ ms (.head _)
noncomputable def top(i:Nat):Stmt:=PySem.Challenge.pw_mothloom_k49_a_follower_asked.main.body.getD i (.Pass ⟨0,0,0,0⟩)
noncomputable def AB:Stmt:=dB (top 39) 0
def scI:dk ["self","loom","first"] ["self","loom","first"] (ag AB):=⟨rfl,rfl,rfl,by decide +kernel,rfl,by decide +kernel,by decide +kernel⟩
def CD {P:Program}{w:World}{K:M5}{mg:Str->Option Value}{base:Heap}{f C:Addr}{fd:FuncData} (D:FnD K "__init__" "Table.__init__" AB f fd) (c:vN K C):cT P w K mg base CX0 1 f fd ["self","loom","first"] (spI K C):=by
 obtain⟨c0,d0,k0,o0,m0,a0,ao,t1,a1,sl,lk,hc,rfl⟩:=D.it;have n0:=c.nf _ (show("hole_count":Str)∈jA by simp[jA]);have n1:=c.nf _ (show("ribbons":Str)∈jA by simp[jA]);have n2:=c.nf _ (show("opener":Str)∈jA by simp[jA]);refine iB lk hc scI (λvs H Q E h=>?_) (λA outer s H vs Q E hr h=>?_)
 .obtain⟨x,dx,q,u,r,o,rfl,_⟩:=h
  rfl
 .obtain⟨x,dx,q,u,r,o,rfl,hx,ht,k⟩:=h;refine⟨_,aD (gY (pv 0) (o_ k8 (pv 1) jr (λ_ _=>rfl)) rfl) (aD (gY (pv 0) (o_ k8 (pv 1) jr (λ_ _=>rfl)) rfl) (aD (gY (pv 0) (pv 2) rfl) (bx (gY (pv 0) (tD bO) rfl)))),?_⟩;have s1:SqT K (upd H x (.ins C dx (b9 "hole_count" u []))) q [u,r]:=B9 ht hx;refine⟨_,rfl,q,_,0,u,rfl,rfl,ht,rfl,_,rfl,x,C,dx,[],rfl,hx,c.cls,n0,(by show 0<1000;decide),?_⟩;refine⟨_,rfl,q,_,1,r,rfl,rfl,s1,rfl,_,rfl,x,C,dx,_,rfl,aA,c.cls,n1,(by show 1<1000;decide),?_⟩;refine⟨_,rfl,_,rfl,x,C,dx,_,rfl,aA,c.cls,n2,Hg (gh (gh (pb 0))) (by decide),?_⟩;refine⟨Ki _,λl J=>?_⟩;have nx:l≠x:=λz=>by rw[z,aA]at J;cases J
  have Y:H l=none:=by rw[az nx,az nx,az nx]at J;exact J
  refine⟨_,rfl,x,C,dx,_,rfl,(by rw[az (KD nx)];exact aA),c.cls,c.nt,Hg (gh (gh (gh (pb 0)))) (by decide),?_⟩;refine k l _ Y aA (by rw[az nx,aA]) λb o U Z=>?_
  rw[az U,az (bp Z Y),az U,az U,az U];exact Z
noncomputable def a_:Stmt:=top 67
noncomputable def bv:Stmt:=dB (top 36) 0
noncomputable def dU:List Str:=["self","hand"]
noncomputable def aV:Stmt:=dB (top 37) 0
noncomputable def cn:List Str:=["self","hand","rest","turn","paper"]
noncomputable def aP:Stmt:=dB (top 37) 1
noncomputable def da:List Str:=["self","move"]
noncomputable def bf:Stmt:=dB (top 37) 2
noncomputable def dn:List Str:=["self","table","free"]
noncomputable def bg:Stmt:=dB (top 37) 3
noncomputable def cI:List Str:=["self","hand","hole"]
noncomputable def mC:Stmt:=top 68
section
open PySem PySem.Spec PyProof.Rows L2 MM List Option
inductive Vw(K:M5)(H:Hp)(O:List Addr):Rho->L2.St->Prop
 | nil:Vw K H O [] []
 | skip {G:Rho}{σ:L2.St}{z:Option V}:Vw K H O G σ->Vw K H O (none::G) (z::σ)
 | val {G:Rho}{σ:L2.St}{v:PV}{u:V}:Rep K (aj H O) v u->Vw K H O G σ->Vw K H O (sv v::G) (some u::σ)
 | brw {G:Rho}{σ:L2.St}{xs:List PV}{a:Addr}{us:List V}:SqL K H a us->Reps K (aj H O) xs us->Vw K H O G σ->Vw K H O (some (.brw xs)::G) (some (.ref a)::σ)
 | obj {G:Rho}{σ:L2.St}{fs xs:List PV}{a:Addr}:d4 K H (aj H O) fs xs a->Vw K H O G σ->Vw K H O (some (.brwO fs xs)::G) (some (.ref a)::σ)
section
variable{K:M5}{H:Hp}{O:List Addr}
theorem Vw.get:∀{G:Rho}{σ:L2.St}{i:Nat}{m:MV},Vw K H O G σ->G[i]?=some (some m)->eR m=false/\∃u,σ[i]?=some (some u)/\eQ K H O H m u:=by
 intro G σ i m h
 induction h generalizing i with
 |nil=>intro e;simp at e
 |skip _ ih =>
  intro e;cases i with
  |zero=>cases e
  |succ i=>exact ih e
 |val r _ ih =>
  intro e;cases i with
  |zero=>cases e;exact⟨rfl,_,rfl,r⟩
  |succ i=>exact ih e
 |brw s r _ ih =>
  intro e;cases i with
  |zero=>cases e;exact⟨rfl,_,rfl,_,_,rfl,s,r⟩
  |succ i=>exact ih e
 |obj r _ ih =>
  intro e;cases i with
  |zero=>cases e;exact⟨rfl,_,rfl,_,rfl,r⟩
  |succ i=>exact ih e
theorem Vw.len{G:Rho}{σ:L2.St}(h:Vw K H O G σ):G.length=σ.length:=by
 induction h with
 |nil=>rfl
 |skip _ ih=>simp[ih]
 |val _ _ ih=>simp[ih]
 |brw _ _ _ ih=>simp[ih]
 |obj _ _ ih=>simp[ih]
theorem Vw.st{G:Rho}{σ:L2.St}(h:Vw K H O G σ)(q:∀a∈O,H a≠none):aX K H [] O H G σ where
 keep:=af.refl H
 here:=q
 sub:=λa ha=>by cases ha
 old:=λa ha=>by cases ha
 len:=h.len
 slot:=λi m e=>(h.get e).2
 apart:=λi j m z a _ e _ o=>by rw[(h.get e).1]at o;cases o
 inn:=nO λi m e=>by
  have:=(h.get e).1;cases m<;>first|rfl|(cases this)
end
noncomputable def tV(K:M5)(cal:Cal)(me:ME):TE:=λσ H Q=>∃O G v,(∀a∈O,H a≠none)/\Vw K H O G σ/\ev cal me G=some v/\∀u H',af H H'->Rep K (aj H' O) v u->Q u H'
noncomputable def tVB(K:M5)(cal:Cal)(me:ME):TT:=λσ H Q=>∃O G b,(∀a∈O,H a≠none)/\Vw K H O G σ/\ev cal me G=some (.bl b)/\∀H',af H H'->Q b H'
section
variable{X:Cx}{T:Tab}{k:Nat}{cal:Cal}
def JV{me:ME}{e:Expr}(g:Gf X T k cal)(h:chk T me X.N X.env.scope e=true)(z:bb me=false):PE X e (tV X.K cal me):=
 (ay me g h).1.imp λσ H Q ⟨O,G,v,D,vw,J,q⟩=>⟨H,[],O,G,v,vw.st D,J,λu H' s g=>q u H' s (g.2 z)⟩
def JW{me:ME}{e:Expr}(g:Gf X T k cal)(h:chk T me X.N X.env.scope e=true):PT X e (tVB X.K cal me):=
 (ay me g h).2.imp λσ H Q ⟨O,G,v,z,vw,D,q⟩=>⟨H,[],O,G,v,vw.st z,by unfold evB;rw[D];rfl,λH' s=>q H' s⟩
end
noncomputable def sR(K:M5):Sp:=λvs H Q _=>∃(a:Addr) (ns:List Int),vs=[.ref a]/\ns.length<=63/\SqL K H a (ns.map V.int)/\∀H',Q (.bl true) H'
section
variable{T:Tab}{P:Program}{w:World}{K:M5}{mg:Str->Option Value}{base:Heap}{ds:List MD}
def Dr(Z:mz T K mg ds){f:Nat}{d:MD}{m:Str}(hd:ds[f]?=some d)(hm:d.meth=some m){C:Addr}(hC:IsC K C):∃st U fd,pK T K mg st d U fd/\jb K C m U:=by
 obtain⟨l2,z,D,J,el,Y,bd⟩:=Z.defs.get hd;rcases Y.named with⟨q,_⟩|⟨m',q,nd⟩
 .rw[hm]at q;cases q
 .rw[hm]at q;cases q;exact⟨z,D,J,Y,nd C hC⟩
def IC(z:ds.length<=1000)(q:mz T K mg ds){X:Cx}{n:Nat}(h1:X.prog=P)(h2:X.w=w)(h3:X.K=K)(h4:X.mg=mg)(h5:X.base=base)(h6:X.calm=true)(hr:dA n X.A):Gf X T n (ab ds n):=by
 subst h1 h2 h3 h4 h5;exact {
  calm:=h6
  room:=hr
  fns:=λJ x hx hp=>by
   rw[q.tab,Kb]at hx;cases hd2:ds[J]? with
   |none=>rw[hd2]at hx;cases hx
   |some U =>
    rw[hd2]at hx;cases hx;obtain⟨hm,ao⟩:=mQ hp;obtain⟨l2,ar,Y,Z,el,D,bd⟩:=q.defs.get hd2;rcases D.named with⟨_,nd⟩|⟨m,em,_⟩
    .exact⟨Y,Z,U.params,by rw[ao];exact nd,D.fn.kp,D.binds,(gf z q n J U hd2 ar Y Z D).m,λl hl=>by rw[el]at hl;cases hl;exact bd⟩
    .rw[hm]at em;cases em
  cls:=λC h=>⟨(q.cls C h).cls,(q.cls C h).nf,(q.cls C h).nt⟩
  meths:=λJ m hx C hC=>by
   rw[q.tabM,Kb]at hx;cases hd2:ds[J]? with
   |none=>rw[hd2]at hx;cases hx
   |some U =>
    rw[hd2]at hx;obtain⟨st,fa,fd,D,nd⟩:=Dr q hd2 (vr hx) hC;exact⟨fa,fd,U.params,nd,D.binds,(gf z q n J U hd2 st fa fd D).m⟩
  methsT:=λJ m hx C hC=>by
   rw[q.tabM,Kb]at hx;cases hd2:ds[J]? with
   |none=>rw[hd2]at hx;cases hx
   |some U =>
    rw[hd2]at hx;obtain⟨st,fa,fd,D,nd⟩:=Dr q hd2 (vr hx) hC;exact⟨fa,fd,U.params,nd,D.binds,(gf z q n J U hd2 st fa fd D).t⟩
  lvl:=λh=>dA.mono hr (zJ z h)
  ini:=λ_=>by
   obtain⟨C,h1,h2,fa,fd,ps,h3,h4,h5,h6⟩:=q.ini;exact⟨C,h1,h2,fa,fd,ps,h3,h4,h5 _ _ _,h6⟩
  blt:=q.blt
  gs:=q.gs
  fnsF:=λJ x hx hp=>by
   rw[q.tab,Kb]at hx;cases hd2:ds[J]? with
   |none=>rw[hd2]at hx;cases hx
   |some U =>
    rw[hd2]at hx;cases hx;obtain⟨hm,ao⟩:=mQ hp;obtain⟨l2,ar,Y,Z,el,D,bd⟩:=q.defs.get hd2;rcases D.named with⟨_,nd⟩|⟨m,em,_⟩
    .exact⟨Y,Z,U.params,by rw[ao];exact nd,D.fn.kp,D.binds,(gf z q n J U hd2 ar Y Z D).f⟩
    .rw[hm]at em;cases em }
end
def dl:defs.length<=1000:=by decide
structure Fr(X:Cx)(N:List Str)(st:Stmt)(n:Nat):Prop where
 nn:X.N=N
 s:X.env.scope=ag st
 d:Df X
 g:Gf X tab n (ab defs n)
 x:∀e s,¬ X.xe e s
section
variable{X:Cx}{N:List Str}{st:Stmt}{n:Nat}
theorem Fr.of{P:Program}{w:World}{K:M5}{mg:Str->Option Value}{base:Heap}{q:Str}{J:Addr}{D:Value}{A:Around}{outer:List Env}{s:Shared}{H:Hp}{E:XK}{ps:List Str}(U:mz tab K mg defs)(sc:dk N ps (ag st))(Y:dA n (A.deeper (envOfC q (ag st) s.heap.objs.size J D))) :
  Fr (dz CX0 P w K mg base N q (ag st) J D A outer s H E).nox N st n:=
 ⟨rfl,rfl,⟨sc.nd,λ_=>rfl,PassesOwn.never,by
  have Z:(dz CX0 P w K mg base N q (ag st) J D A outer s H E).nox.env.scope.kind=.function:=sc.kind;unfold Env.blockKind;rw[Z]
  rfl⟩,IC dl U rfl rfl rfl rfl rfl rfl Y,λ_ _ z=>z⟩
theorem Fr.ss(l:Fr X N st n){ms:List MS}{ss:List Stmt}(h:chkSs tab N (ag st) ms ss=true):PSs X ss (tSs X.K (ab defs n) ms):=soundSs l.g l.d ms ss (by rw[l.nn,l.s];exact h)
theorem Fr.nm(l:Fr X N st n){i:Nat}{x:Str}{pos:Pos}(h:aE N (ag st) i x=true):PE X (.Name x pos) (cA i):=cO (by rw[l.nn,l.s];exact h)
theorem Fr.v(l:Fr X N st n){me:ME}{e:Expr}(h:chk tab me N (ag st) e=true)(q:bb me=false:=by rfl):PE X e (tV X.K (ab defs n) me):=JV l.g (by rw[l.nn,l.s];exact h) q
theorem Fr.t(l:Fr X N st n){me:ME}{e:Expr}(h:chk tab me N (ag st) e=true):PT X e (tVB X.K (ab defs n) me):=JW l.g (by rw[l.nn,l.s];exact h)
theorem Fr.s1(l:Fr X N st n){m:MS}{s:Stmt}(h:gn tab N (ag st) m s=true):PS X s (tS X.K (ab defs n) m):=zG l.g l.d m s (by rw[l.nn,l.s];exact h)
end
noncomputable def tSk(K:M5)(cal:Cal)(ms:List MS)(u:TS):TS:=λD σ H=>∃B E O G A,aX K B E O H G σ/\exs cal ms G=.next A/\∀q H' O',aX K B E O' H' A q->cj B O O' G A σ q->u D q H'
section
variable{X:Cx}{cal:Cal}
def Go{b:List Stmt}{u:TS}(h:PSs X b u):PSs X b (tSk X.K cal [] u):=h.imp λD σ H ⟨B,E,O,G,A,st,e,q⟩=>by
 cases e;exact q σ H O st .refl
def dW{s:Stmt}{eF:List Stmt}{m:MS}{ms:List MS}{u:TS}(h1:PS X s (tS X.K cal m))(h2:PSs X eF (tSk X.K cal ms u)):PSs X (s::eF) (tSk X.K cal (m::ms) u):=(aD h1 h2).imp λD σ H ⟨B,E,O,G,A,st,e,q⟩=>by
 rw[al]at e;cases z:ex cal m G with
 |next J =>
  rw[z,ah]at e;refine⟨B,E,O,G,st,?_⟩;rw[z];exact λao H1 O1 U k1=>⟨B,E,O1,J,A,U,e,λY H' O' Z k'=>q Y H' O' Z (k1.trans k')⟩
 | _=>rw[z]at e;cases e
end
section
variable{X:Cx}
theorem Fr.set{N:List Str}{st:Stmt}{n:Nat}{i:Nat}{x:Str}{px pos:Pos}{v:Expr}{te:TE}(l:Fr X N st n)(hi:N[i]?=some x)(hx:g6 (ag st) x=true)(h:PE X v te)(hc:swapsWith v (some (.Name x px)) pos.line X.env=pure false):PS X (.Assign [.Name x px] v pos) (λD σ H=>te σ H λu H'=>D.nx (σ.set i (some u)) H'):=
 jt l.d.nd (by rw[l.nn];exact hi) (by have:=ip hx;rw[<- l.s]at this;exact this) h hc (.inl (l.d.fn x))
end
def sS{a b:Prop}(h:a):if true=true then a else b:=by rw[if_pos rfl];exact h
def mD{a b:Prop}(h:b):if false=true then a else b:=by rw[if_neg (by decide)];exact h
def AC(H:Hp):aj H []=H:=by funext b;unfold aj;rw[if_neg (by simp)]
def le0{H:Hp}{M:List Addr}:af (aj H M) (aj H []):=by rw[AC];exact be H M
def xq{H G:Hp}{M:List Addr}(s:af H G)(h:∀b∈M,H b=none):af H (aj G M):=λb o e=>by
 rw[a9 λz=>by rw[h b z]at e;cases e];exact s b o e
def no0{H:Hp}:∀a∈([]:List Addr),H a≠none:=λa h=>by cases h
noncomputable def fb:Stmt->List Stmt
 | .For _ _ b _ _=>b
 | .If _ b _ _=>b
 | _=>[]
def JX{X:Cx}{ss:List Stmt}{t u:TS}(h1:PSs X ss t)(h2:PSs X ss u):PSs X ss (λD σ H=>t D σ H\/u D σ H):=λpins s σ H D I q=>q.elim (h1 pins s σ H D I) (h2 pins s σ H D I)
structure KPl(K:M5)(CP fP:Addr):Prop where
 nm:PySem.W.nsIn K mainGlobals "Player"=some (some (.ref CP))
 fn:CFn K CP "__init__" fP
structure KFo(K:M5)(CP CF fI:Addr):Prop where
 nm:PySem.W.nsIn K mainGlobals "Follower"=some (some (.ref CF))
 cls:Cls K CF
 make:Mk K CF fI
 n0:cq K CF "hand"
 n1:cq K CF "waiting"
 n2:cq K CF "stand_rest"
 n3:cq K CF "stand_paper"
 ha:PySem.W.findIn K (.ref CF) "__class__"=some (some (.builtin "object.__class__"))
 hn:PySem.W.specialIn K (.builtin "object.__class__") "__get__"=some (some (.builtin "getset_descriptor.__get__"))
 ht:PySem.W.takesIn K (.builtin "object.__class__")=some true
 hm:PySem.W.mroIn K CF (.type "object")=some true
 kit:PySem.W.kitOne K (.ref CF) (.ref CP)=some true
noncomputable def gT:Option Int->V
 |none=>.non
 |some i=>.int i
def qU{K:M5}{F:Hp}{w:Option Int}{u:V}(h:Rep K F (bV w) u):u=gT w:=by
 cases w with
 |none=>have h:Rep K F .non u:=h;rw[Rep]at h;exact h
 |some i=>have h:Rep K F (.int i) u:=h;rw[Rep]at h;exact h
def mT{K:M5}{F:Hp}(w:Option Int):Rep K F (bV w) (gT w):=by
 cases w with
 |none=>show Rep K F .non .non;rw[Rep]
 |some i=>show Rep K F (.int i) (.int i);rw[Rep]
noncomputable def flG (h w r p:V):List (Str×V):=[("hand",h),("waiting",w),("stand_rest",r),("stand_paper",p)]
def eV{f g:Str}{v x:V}{r:List (Str×V)}(h:g≠f):b9 f v ((g,x)::r)=(g,x)::b9 f v r:=by rw[b9,if_neg h]
def uQ{f:Str}{v x:V}{r:List (Str×V)}:b9 f v ((f,x)::r)=(f,v)::r:=by rw[b9,if_pos rfl]
def vY (h w r p w':V):b9 "waiting" w' (flG h w r p)=flG h w' r p:=by
 unfold flG;rw[eV (by decide),uQ]
def CG (h w r p q:V):b9 "stand_rest" q (flG h w r p)=flG h w q p:=by
 unfold flG;rw[eV (by decide),eV (by decide),uQ]
def CH (h w r p q:V):b9 "stand_paper" q (flG h w r p)=flG h w r q:=by
 unfold flG;rw[eV (by decide),eV (by decide),eV (by decide),uQ]
def CI (h w r p w' q z:V):b9 "stand_paper" z (b9 "stand_rest" q (b9 "waiting" w' (flG h w r p)))=flG h w' q z:=by rw[vY,CG,CH]
def CJ (h w' q z:V):b9 "stand_paper" z (b9 "stand_rest" q (b9 "waiting" w' [("hand",h)]))=flG h w' q z:=by
 unfold flG;rw[eV (f:="waiting") (by decide),b9,eV (f:="stand_rest") (by decide),eV (f:="stand_rest") (by decide),b9,eV (by decide),eV (by decide),eV (by decide),b9]
def iw(K:M5)(CF:Addr)(M:List Addr)(H:Hp)(x:Addr)(hd:Str)(w:Option Int)(R:LL)(p:PV):Prop:=∃dx u v,H x=some (.ins CF dx (flG (.str hd) (gT w) u v))/\Rep K (aj H M) (ofR R) u/\Rep K (aj H M) p v
section
variable{P:Program}{w:World}{K:M5}{mg:Str->Option Value}{base:Heap}
def Ds:dk dU ["self","hand"] (ag bv):=⟨rfl,rfl,rfl,by decide +kernel,rfl,by decide +kernel,by decide +kernel⟩
noncomputable def JY (K:M5):Sp:=λvs H Q _=>∃(x C dx:Addr) (gs:List (Str×V)) (u:V),vs=[.ref x,u]/\H x=some (.ins C dx gs)/\Cls K C/\cq K C "hand"/\gs.length<1000/\Q .non (upd H x (.ins C dx (b9 "hand" u gs)))
def ID {z:Addr}{fd:FuncData}{n:Nat} (Y:mz tab K mg defs) (D:FnD K "__init__" "Player.__init__" bv z fd):cT P w K mg base CX0 (n+1) z fd ["self","hand"] (JY K):=by
 obtain⟨c0,d0,k0,o0,m0,a0,J,t1,a1,sl,lk,U,rfl⟩:=D.it;refine iB lk U Ds (λvs H Q E h=>?_) (λA outer s H vs Q E Z h=>?_)
 .obtain⟨x,C,dx,gs,u,rfl,_⟩:=h
  rfl
 .obtain⟨x,C,dx,gs,u,rfl,hx,c,na,hl,q⟩:=h;have l:Fr (dz CX0 P w K mg base dU "Player.__init__" (ag bv) z J A outer s H E).nox dU bv n:=Fr.of Y Ds Z;refine⟨_,(show PSs _ (bo bv) _ from bx (gY (l.nm (i:=0) (x:="self") (by decide +kernel)) (l.nm (i:=1) (x:="hand") (by decide +kernel)) rfl)).nox,?_⟩;exact⟨u,rfl,.ref x,rfl,x,C,dx,gs,rfl,hx,c,na,hl,q⟩
def Dt:dk da ["self","move"] (ag aP):=⟨rfl,rfl,rfl,by decide +kernel,rfl,by decide +kernel,by decide +kernel⟩
noncomputable abbrev mvV(w:Option Int)(R:LL)(p:PV):PV:=.tup [bV w,ofR R,p]
noncomputable def JZ (K:M5) (CF:Addr):Sp:=λvs H Q _=>∃(x dx:Addr) (gs:List (Str×V)) (hd:Str) (m:V) (w:Option Int) (R:LL) (p:PV) (M:List Addr),vs=[.ref x,m]/\H x=some (.ins CF dx gs)/\(gs=[(("hand":Str),V.str hd)]\/∃a b c,gs=flG (.str hd) a b c)/\x∈M/\Rep K (aj H M) (mvV w R p) m /\
 ∀H',iw K CF M H' x hd w R p->(∀b o,b≠x->H b=some o->H' b=some o)->Q .non H'
noncomputable abbrev St3(i:Nat):Stmt:=(bo aP).getD i (.Pass ⟨0,0,0,0⟩)
def Du {CP CF fI fa:Addr}{fd:FuncData}{n:Nat} (pr:mz tab K mg defs) (Y:KFo K CP CF fI) (D:FnD K "stand_at" "Follower.stand_at" aP fa fd):cT P w K mg base CX0 (n+1) fa fd ["self","move"] (JZ K CF):=by
 obtain⟨c0,d0,k0,o0,m0,a0,a3,t1,a1,sl,lk,a4,rfl⟩:=D.it;refine iB lk a4 Dt (λvs H Q E h=>?_) (λA outer s H vs Q E hr h=>?_)
 .obtain⟨x,dx,gs,hd,m,w',R,p,M,rfl,_⟩:=h
  rfl
 .obtain⟨x,dx,gs,hd,m,w',R,p,M,rfl,hx,hg,U,rm,q⟩:=h;have l:Fr (dz CX0 P w K mg base da "Follower.stand_at" (ag aP) fa a3 A outer s H E).nox da aP n:=Fr.of pr Dt hr;have eB:bo aP=[St3 0,St3 1,St3 2]:=rfl;rw[eB];refine⟨_,(aD (gY (l.nm (i:=0) (x:="self") (by decide +kernel)) (o_ k8 (l.nm (i:=1) (x:="move") (by decide +kernel)) jr (λ_ _=>rfl)) rfl)
   (aD (gY (l.nm (i:=0) (x:="self") (by decide +kernel)) (o_ k8 (l.nm (i:=1) (x:="move") (by decide +kernel)) jr (λ_ _=>rfl)) rfl)
   (bx (gY (l.nm (i:=0) (x:="self") (by decide +kernel)) (o_ k8 (l.nm (i:=1) (x:="move") (by decide +kernel)) jr (λ_ _=>rfl)) rfl)))).nox,?_⟩
  rw[Rep]at rm;obtain⟨a,us,rfl,ha,J⟩:=rm;rw[Reps]at J;obtain⟨u1,r1,rfl,a5,J⟩:=J;rw[Reps]at J;obtain⟨Z,r2,rfl,a6,J⟩:=J;rw[Reps]at J;obtain⟨u3,r3,rfl,a7,J⟩:=J;rw[Reps]at J;subst J;have e1:=qU a5;subst e1;have ar:=be H M _ _ ha;have aL:a≠x:=λz=>by rw[z,ez U]at ha;cases ha
  have gl:gs.length<=4:=by rcases hg with rfl|⟨_,_,_,rfl⟩<;>simp[flG]
  refine⟨_,rfl,a,_,0,gT w',rfl,rfl,SqT.of ar,rfl,.ref x,rfl,x,CF,dx,gs,rfl,hx,Y.cls,Y.n1,by omega,?_⟩;have h1:∀{o:HO},(upd H x o) a=some (.tup [gT w',Z,u3]):=λ{o}=>by rw[az aL];exact ar
  refine⟨_,rfl,a,_,1,Z,rfl,rfl,SqT.of h1,rfl,.ref x,rfl,x,CF,dx,_,rfl,aA,Y.cls,Y.n2,Hg (gh gl) (by decide),?_⟩;have h2:∀{o o':HO},(upd (upd H x o) x o') a=some (.tup [gT w',Z,u3]):=λ{o o'}=>by rw[az aL];exact h1
  refine⟨_,rfl,a,_,2,u3,rfl,rfl,SqT.of h2,rfl,.ref x,rfl,x,CF,dx,_,rfl,aA,Y.cls,Y.n3,Hg (gh (gh gl)) (by decide),?_⟩;have eg:b9 "stand_paper" u3 (b9 "stand_rest" Z (b9 "waiting" (gT w') gs))=flG (.str hd) (gT w') Z u3:=by
   rcases hg with rfl|⟨_,_,_,rfl⟩
   .exact CJ _ _ _ _
   .exact CI _ _ _ _ _ _ _
  refine q _ ⟨dx,Z,u3,by rw[aA,eg],?_,?_⟩ λb o nb eb=>by rw[az nb,az nb,az nb];exact eb
  .rw[cD U,cD U,cD U];exact a6
  .rw[cD U,cD U,cD U];exact a7
def iW{H H':Hp}{M:List Addr}{x:Addr}(D:x∈M)(k:∀b o,b≠x->H b=some o->H' b=some o):af (aj H M) (aj H' M):=λb o e=>by
 have q:b∉M:=λz=>by rw[ez z]at e;cases e
 rw[a9 q]at e ⊢;exact k b o (λz=>q (z▸D)) e
def pU{H H':Hp}{M:List Addr}{x:Addr}(h:∀a∈M,H a≠none)(hx:H' x≠none)(k:∀b o,b≠x->H b=some o->H' b=some o):∀a∈M,H' a≠none:=λa ha=>by
 by_cases e:a=x
 .rw[e];exact hx
 .cases q:H a with
  |none=>exact absurd q (h a ha)
  |some o=>rw[k a o e q];simp
def Dw:dk cn ["self","hand","rest","turn","paper"] (ag aV):=⟨rfl,rfl,rfl,by decide +kernel,rfl,by decide +kernel,by decide +kernel⟩
noncomputable def Gp(K:M5)(CF:Addr)(cal:Cal):Sp:=λvs H Q _=>∃(x dx:Addr) (hd q:Str) (J U:V) (R z:LL) (p D:PV) (w':Option Int) (M:List Addr),vs=[.ref x,.str hd,J,.str q,U]/\H x=some (.ins CF dx [])/\x∈M/\(∀a∈M,H a≠none)/\Rep K (aj H M) (ofR R) J/\Rep K (aj H M) p U /\
 (q=hd->cal 13 [.val p,.val (ofR R),.val (.str hd)]=some (mvV w' z D))/\(q≠hd->w'=none/\z=R/\D=p)/\∀H',iw K CF M H' x hd w' z D->(∀b o,b≠x->H b=some o->H' b=some o)->Q .non H'
noncomputable abbrev Fi(i:Nat):Stmt:=(bo aV).getD i (.Pass ⟨0,0,0,0⟩)
def IE {CP CF fI fP fA fa:Addr}{a2 a3 fd:FuncData}{n:Nat} (pr:mz tab K mg defs) (kP:KPl K CP fP) (mP:mg ("Player":Str)=some (.ref CP)) (DP:FnD K "__init__" "Player.__init__" bv fP a2) (bP:aW K a2 ["self","hand"] []) (kF:KFo K CP CF fI) (mA:jb K CF "stand_at" fA) (DA:FnD K "stand_at" "Follower.stand_at" aP fA a3) (bA:aW K a3 ["self","move"] [])
  (D:FnD K "__init__" "Follower.__init__" aV fa fd):cT P w K mg base CX0 (n+2) fa fd ["self","hand","rest","turn","paper"] (Gp K CF (ab defs (n+1))):=by
 obtain⟨c0,d0,k0,o0,m0,a0,a5,t1,a1,sl,lk,bT,rfl⟩:=D.it;refine iB lk bT Dw (λvs H Q E h=>?_) (λA outer s H vs Q E hr h=>?_)
 .obtain⟨x,dx,hd,tn,u2,u4,R,R',p,p',w',M,rfl,_⟩:=h
  rfl
 .obtain⟨x,dx,hd,tn,u2,u4,R,R',p,p',w',M,rfl,hx,hM,hh,r2,r4,q1,q2,q⟩:=h;have l:Fr (dz CX0 P w K mg base cn "Follower.__init__" (ag aV) fa a5 A outer s H E).nox cn aV (n+1):=Fr.of pr Dw hr;have FP:=ID (P:=P) (w:=w) (base:=base) (mg:=mg) (n:=n) pr DP;have FA:=Du (P:=P) (w:=w) (base:=base) (mg:=mg) (n:=n) pr kF DA;have gP:Gl (dz CX0 P w K mg base cn "Follower.__init__" (ag aV) fa a5 A outer s H E).nox "Player":=eS (by rw[l.s];decide +kernel);have eB:bo aV=[Fi 0,Fi 1,Fi 2]:=rfl;rw[eB];refine⟨_,(show PSs _ [Fi 0,Fi 1,Fi 2] _ from aD (d9 (EA kP.fn FP l.g.room gP mP bP .nil eW (aH (l.nm (i:=0) (x:="self") (by decide +kernel)) (aH (l.nm (i:=1) (x:="hand") (by decide +kernel)) bO))) rfl)
   (aD (d9 (g5 (l.nm (i:=0) (x:="self") (by decide +kernel)) kF.cls mA FA l.g.room bA .nil eW (aH (l.v (me:=.tup [.cst .non,.var 2,.var 4]) (by kernel_rfl)) bO)) rfl)
   (bx (iz (l.t (me:=.cmp .eq (.bor 3) (.bor 1)) (by kernel_rfl)) (bx (d9 (g5 (l.nm (i:=0) (x:="self") (by decide +kernel)) kF.cls mA FA l.g.room bA .nil eW (aH (l.v (me:=.call 13 [.bor 4,.bor 2,.bor 1]) (by kernel_rfl)) bO)) rfl)) eX)))).nox,?_⟩
  refine⟨.ref x,rfl,.str hd,rfl,x,CF,dx,[],.str hd,rfl,hx,kF.cls,kF.n0,by decide,?_⟩;have e0:b9 "hand" (.str hd) []=[(("hand":Str),V.str hd)]:=rfl;rw[e0];have k1:∀b o,b≠x->H b=some o->(upd H x (.ins CF dx [(("hand":Str),V.str hd)])) b=some o:=λb o J Z=>by rw[az J];exact Z
  have U:(upd H x (.ins CF dx [(("hand":Str),V.str hd)])) x=some (.ins CF dx [(("hand":Str),V.str hd)]):=aA;generalize upd H x (.ins CF dx [(("hand":Str),V.str hd)])=H1 at k1 U;have b1:=pU hh (by rw[U];simp) k1;have v1:=iW hM k1;refine⟨.ref x,rfl,x,dx,_,rfl,U,rfl,M,[none,none,sv (ofR R),none,sv p],mvV none R p,b1,.skip (.skip (.val (Rep.mono v1 _ r2) (.skip (.val (Rep.mono v1 _ r4) .nil)))),rfl,λu H2 s2 ru=>?_⟩;refine⟨x,dx,_,hd,u,none,R,p,M,rfl,s2 _ _ U,.inl rfl,hM,ru,λH3 fo k3=>?_⟩;have b3:∀b o,b≠x->H b=some o->H3 b=some o:=λb o J Z=>k3 b o J (s2 _ _ (k1 b o J Z))
  refine⟨[],[none,sv (.str hd),none,sv (.str tn),none],(tn==hd),no0,.skip (.val (by rw[Rep]) (.skip (.val (by rw[Rep]) (.skip .nil)))),(eU (x:=.str tn) (y:=.str hd) rfl rfl).trans (by show(eqF 100 (.str tn) (.str hd)).map PV.bl=_;rw[mR];rfl),λH4 s4=>?_⟩;have Y:∀b o,b≠x->H b=some o->H4 b=some o:=λb o J Z=>s4 _ _ (b3 b o J Z)
  obtain⟨ao,ua,va,f1,f2,f3⟩:=fo;cases ht:(tn==hd)with
  |false =>
   obtain⟨e1,e2,e3⟩:=q2 (by intro z;rw[z,KN]at ht;cases ht);subst e1 e2 e3;exact mD (q H4 ⟨ao,ua,va,s4 _ _ f1,Rep.mono (ak s4) _ f2,Rep.mono (ak s4) _ f3⟩ Y)
  |true =>
   have ec:=q1 (eq_of_beq ht);have v4:=iW hM Y;have ar:=s4 _ _ f1;refine sS ⟨.ref x,rfl,x,ao,_,rfl,ar,rfl,M,[none,sv (.str hd),sv (ofR R),none,sv p],mvV w' R' p',pU hh (by rw[ar];simp) Y,.skip (.val (by rw[Rep]) (.val (Rep.mono v4 _ r2) (.skip (.val (Rep.mono v4 _ r4) .nil)))),aq (vs:=[.val p,.val (ofR R),.val (.str hd)]) rfl ec,λu H5 s5 ru=>?_⟩;exact⟨x,ao,_,hd,u,w',R',p',M,rfl,s5 _ _ ar,.inr ⟨_,_,_,rfl⟩,hM,ru,λH6 b4 k6=>q H6 b4 λb o J Z=>k6 b o J (s5 _ _ (Y b o J Z))⟩
def Dx:dk dn ["self","table"] (ag bf):=⟨rfl,rfl,rfl,by decide +kernel,rfl,by decide +kernel,by decide +kernel⟩
noncomputable def dj(w:Option Int)(q:List Int):Int:=match w with
 |some i=>if i∈q then i else q.headD 0
 |none=>q.headD 0
noncomputable def CK(K:M5)(CF:Addr):Sp:=λvs H Q _=>∃(x tb:Addr) (hd:Str) (w:Option Int) (R q:LL) (p:PV) (M:List Addr) (c:Int) (o:Bool) (t:List Int),vs=[.ref x,.ref tb]/\iw K CF M H x hd w R p/\d4 K H (aj H []) (tbl c q o) (t.map .int) tb/\(0<=c/\c<=60)/\frl c t≠[]/\∀H',af H H'->Q (.int (dj w (frl c t))) H'
noncomputable abbrev Pk(i:Nat):Stmt:=(bo bf).getD i (.Pass ⟨0,0,0,0⟩)
noncomputable def inO(w:Option Int)(q:List Int):Bool:=match w with
 |some i=>decide (i∈q)
 |none=>false
def sT(w:Option Int)(q:List Int):isIn (bV w) (q.map .int)=some (inO w q):=by
 cases w with
 |some i=>show isIn (.int i) _=_;rw[cv];rfl
 |none =>
  show isIn .non _=_
  induction q with
  |nil=>rfl
  |cons x xs ih =>
   have ih:inL (λy=>eqF 100 y .non) (xs.map .int)=some false:=ih;show inL (λy=>eqF 100 y .non) (.int x::xs.map .int)=_;rw[inL,ih]
   rfl
def IF {CP CF fI Y:Addr}{fd:FuncData}{n:Nat} (pr:mz tab K mg defs) (Z:KFo K CP CF fI) (D:FnD K "pick" "Follower.pick" bf Y fd):cT P w K mg base CX0 (n+2) Y fd ["self","table"] (CK K CF):=by
 obtain⟨c0,d0,k0,o0,m0,a0,J,t1,a1,sl,lk,ao,rfl⟩:=D.it;refine iB lk ao Dx (λvs H Q E h=>?_) (λA outer s H vs Q E hr h=>?_)
 .obtain⟨x,tb,hd,w',R,Rb,p,M,c,o,t,rfl,_⟩:=h
  rfl
 .obtain⟨x,tb,hd,w',R,Rb,p,M,c,o,t,rfl,fo,lt,hc,aL,q⟩:=h;have l:Fr (dz CX0 P w K mg base dn "Follower.pick" (ag bf) Y J A outer s H E).nox dn bf (n+1):=Fr.of pr Dx hr;have eB:bo bf=[Pk 0,Pk 1]:=rfl;rw[eB];have p0:PS (dz CX0 P w K mg base dn "Follower.pick" (ag bf) Y J A outer s H E).nox (Pk 0) (λD σ H=>tV K (ab defs (n+1)) (.callM 42 1 []) σ H λu H'=>D.nx (σ.set 2 (some u)) H'):=
   l.set (i:=2) (x:="free") rfl (by decide +kernel) (l.v (by kernel_rfl)) (aK rfl _ _ _)
  refine⟨_,(show PSs _ [Pk 0,Pk 1] _ from aD p0 (bx (gU (re (mG (gq l.g.units .isIn) (pZ (l.nm (i:=0) (x:="self") (by decide +kernel)) rfl) (l.nm (i:=2) (x:="free") (by decide +kernel)) rfl) (pZ (l.nm (i:=0) (x:="self") (by decide +kernel)) rfl) (l.v (me:=.idx (.bor 2) (ci 0)) (by kernel_rfl)))))).nox,?_⟩;refine⟨[],[none,some (.brwO (tbl c Rb o) (t.map .int)),none],ofL (frl c t),no0,.skip (.obj lt (.skip .nil)),CB n c Rb o t hc.1 hc.2,λu H1 s1 ru=>?_⟩;obtain⟨dx,ua,va,f1,f2,f3⟩:=fo;have U:=s1 _ _ f1;have lw:(flG (V.str hd) (gT w') ua va).lookup ("waiting":Str)=some (gT w'):=by unfold flG;rfl
  refine⟨.ref x,rfl,x,CF,dx,_,_,rfl,U,Z.cls,Z.n1,lw,u,rfl,[],bV w',ofL (frl c t),inO w' (frl c t),.inl (mT w'),.inl ru,?_,_,rfl,?_⟩
  .show isIn (bV w') ((frl c t).map .int)=_;exact sT _ _
  have z:∀(Q':VK),(∀H',af H1 H'->Q' (.int ((frl c t).headD 0)) H')->tV K (ab defs (n+1)) (ix 2 0) [some (.ref x),some (.ref tb),some u] H1 Q':=λQ' q'=>by
   refine⟨[],[none,none,sv (ofL (frl c t))],.int ((frl c t).headD 0),no0,.skip (.skip (.val ru .nil)),?_,λv H' s' rv=>?_⟩
   .rw[iT (x:=ofL (frl c t)) (y:=.int 0) rfl (ca _ _ _)];cases e:frl c t with
    |nil=>exact absurd e aL
    |cons y ys =>
     show(place ((y::ys).map PV.int).length (0:Int)).bind (λj=>((y::ys).map PV.int)[j]?)=_;rw[eM (by omega) (by simp)]
     rfl
   .rw[Rep]at rv;subst rv;exact q' H' s'
  cases w' with
  |none=>exact mD (z _ λH' s'=>q H' (s1.trans s'))
  |some i =>
   by_cases hi:i∈frl c t
   .have e:dj (some i) (frl c t)=i:=if_pos hi;rw[e]at q;show if decide (i∈frl c t)=true then _ else _
    rw[Ka hi];exact sS ⟨.ref x,rfl,x,CF,dx,_,_,rfl,U,Z.cls,Z.n1,lw,q H1 s1⟩
   .have e:dj (some i) (frl c t)=(frl c t).headD 0:=if_neg hi;rw[e]at q;show if decide (i∈frl c t)=true then _ else _
    rw[Kn hi];exact mD (z _ λH' s'=>q H' (s1.trans s'))
def Dy:dk cI ["self","hand","hole"] (ag bg):=⟨rfl,rfl,rfl,by decide +kernel,rfl,by decide +kernel,by decide +kernel⟩
noncomputable def AD(K:M5)(CF:Addr)(cal:Cal):Sp:=λvs H Q _=>∃(x:Addr) (hd h2:Str) (q:Int) (w w':Option Int) (R z:LL) (p D:PV) (M:List Addr),vs=[.ref x,.str h2,.int q]/\iw K CF M H x hd w R p/\x∈M/\(∀a∈M,H a≠none) /\
 (h2=hd->w'=none/\z=R/\D=p)/\(h2≠hd->cal 14 [.val p,.val (ofR R),.val (.str hd),.val (.int q)]=some (mvV w' z D))/\∀H',iw K CF M H' x hd w' z D->(∀b o,b≠x->H b=some o->H' b=some o)->Q .non H'
noncomputable abbrev Se(i:Nat):Stmt:=(bo bg).getD i (.Pass ⟨0,0,0,0⟩)
def IG {CP CF fI fA fa:Addr}{ar fd:FuncData}{n:Nat} (pr:mz tab K mg defs) (U:KFo K CP CF fI) (mA:jb K CF "stand_at" fA) (DA:FnD K "stand_at" "Follower.stand_at" aP fA ar) (bA:aW K ar ["self","move"] []) (D:FnD K "sees" "Follower.sees" bg fa fd):cT P w K mg base CX0 (n+2) fa fd ["self","hand","hole"] (AD K CF (ab defs (n+1))):=by
 obtain⟨c0,d0,k0,o0,m0,a0,Y,t1,a1,sl,lk,a4,rfl⟩:=D.it;refine iB lk a4 Dy (λvs H Q E h=>?_) (λA outer s H vs Q E hr h=>?_)
 .obtain⟨x,hd,h2,J,w1,w',R,R',p,p',M,rfl,_⟩:=h
  rfl
 .obtain⟨x,hd,h2,J,w1,w',R,R',p,p',M,rfl,fo,hM,hh,q1,q2,q⟩:=h;have l:Fr (dz CX0 P w K mg base cI "Follower.sees" (ag bg) fa Y A outer s H E).nox cI bg (n+1):=Fr.of pr Dy hr;have FA:=Du (P:=P) (w:=w) (base:=base) (mg:=mg) (n:=n) pr U DA;obtain⟨fW,cl,cC,mW,kW,bW,FW,_⟩:=l.g.fns 14 "answer" rfl (by decide +kernel);have gW:Gl (dz CX0 P w K mg base cI "Follower.sees" (ag bg) fa Y A outer s H E).nox "answer":=eS (by rw[l.s];decide +kernel);have eB:bo bg=[Se 0]:=rfl;rw[eB];have fld:∀{f:Str}{p1 p2:Pos},PE (dz CX0 P w K mg base cI "Follower.sees" (ag bg) fa Y A outer s H E).nox (.Attribute (.Name "self" p1) f p2) (Ef K (cA 0) f):=λ{f p1 p2}=>pZ (l.nm (i:=0) (x:="self") (by decide +kernel)) rfl
  refine⟨_,(show PSs _ [Se 0] _ from bx (iz (mG (gq l.g.units .eq) (l.nm (i:=1) (x:="hand") (by decide +kernel)) fld (mZ _ (by decide) (by decide))) (bx (gY (l.nm (i:=0) (x:="self") (by decide +kernel)) kX rfl))
   (bx (d9 (g5 (l.nm (i:=0) (x:="self") (by decide +kernel)) U.cls mA FA l.g.room bA .nil eW (aH (p9 FW l.g.room gW mW kW bW .nil eW (aH fld (aH fld (aH fld (aH (l.nm (i:=2) (x:="hole") (by decide +kernel)) bO))))) bO)) rfl)))).nox,?_⟩
  obtain⟨dx,ua,va,Z,f2,f3⟩:=fo;have lh:(flG (V.str hd) (gT w1) ua va).lookup ("hand":Str)=some (.str hd):=rfl;have lr:(flG (V.str hd) (gT w1) ua va).lookup ("stand_rest":Str)=some ua:=rfl;have lp:(flG (V.str hd) (gT w1) ua va).lookup ("stand_paper":Str)=some va:=rfl;refine⟨.str h2,rfl,.ref x,rfl,x,CF,dx,_,_,rfl,Z,U.cls,U.n0,lh,[],.str h2,.str hd,(h2==hd),.inl (eE _ _),.inl (eE _ _),?_,_,rfl,?_⟩
  .show eqF 100 (.str h2) (.str hd)=_;rw[mR]
  cases ht:(h2==hd)with
  |true =>
   obtain⟨e1,e2,e3⟩:=q1 (eq_of_beq ht);subst e1 e2 e3;refine sS ⟨.ref x,rfl,x,CF,dx,_,rfl,Z,U.cls,U.n1,by show 4<1000;decide,?_⟩;rw[vY];exact q _ ⟨dx,ua,va,aA,by rw[cD hM];exact f2,by rw[cD hM];exact f3⟩ λb o nb eb=>by rw[az nb];exact eb
  |false =>
   have ec:=q2 (by intro z;rw[z,KN]at ht;cases ht);refine mD ⟨.ref x,rfl,x,dx,_,rfl,Z,rfl,.ref x,rfl,x,CF,dx,_,_,rfl,Z,U.cls,U.n3,lp,.ref x,rfl,x,CF,dx,_,_,rfl,Z,U.cls,U.n2,lr,.ref x,rfl,x,CF,dx,_,_,rfl,Z,U.cls,U.n0,lh,.int J,rfl,?_⟩;refine⟨M,[.val p,.val (ofR R),.val (.str hd),.val (.int J)],mvV w' R' p',hh,.cons f3 (.cons f2 (.cons (eE (K:=K) (aj H M) hd) (.cons (bB (K:=K) (aj H M) J) .nil))),ec,λu H1 s1 ru=>?_⟩;exact⟨x,dx,_,hd,u,w',R',p',M,rfl,s1 _ _ Z,.inr ⟨_,_,_,rfl⟩,hM,ru,λH6 bP k6=>q H6 bP λb o nb eb=>k6 b o nb (s1 _ _ eb)⟩
def Dz:dk bJ.names ["follower","table","waits","free"] (ag a_):=⟨rfl,rfl,rfl,by decide +kernel,rfl,by decide +kernel,by decide +kernel⟩
noncomputable def CL(K:M5)(CF:Addr):Sp:=λvs H Q _=>∃(x tb:Addr) (hd:Str) (w:Option Int) (R z:LL) (p:PV) (M:List Addr) (c:Int) (o:Bool) (t:List Int) (q:V),vs=[.ref x,.ref tb,gT w,q]/\iw K CF M H x hd w R p/\(∀a∈M,H a≠none)/\d4 K H (aj H []) (tbl c z o) (t.map .int) tb/\(0<=c/\c<=60)/\frl c t≠[]/\Rep K (aj H []) (ofL (frl c t)) q/\∀H',af H H'->Q (.int (dj w (frl c t))) H'
noncomputable abbrev As(i:Nat):Stmt:=(bo a_).getD i (.Pass ⟨0,0,0,0⟩)
noncomputable abbrev Al(i:Nat):Stmt:=(fb (As 3)).getD i (.Pass ⟨0,0,0,0⟩)
theorem iw.mv{CF:Addr}{M:List Addr}{H H':Hp}{x:Addr}{hd:Str}{w:Option Int}{R:LL}{p:PV}(f:iw K CF M H x hd w R p)(s:af H H'):iw K CF M H' x hd w R p:=by
 obtain⟨dx,u,v,h1,h2,h3⟩:=f;exact⟨dx,u,v,s _ _ h1,Rep.mono (ak s) _ h2,Rep.mono (ak s) _ h3⟩
def J0{c:Int}{t:List Int}{cal:Cal}{G:Rho}{i:Nat}(hi:(G[i]?).join=sv (ofL (frl c t)))(q:frl c t≠[]):ev cal (.idx (.bor i) (ci 0)) G=some (.int ((frl c t).headD 0)):=by
 rw[iT (x:=ofL (frl c t)) (y:=.int 0) (by rw[ev,hi];rfl) (ca _ _ _)];cases e:frl c t with
 |nil=>exact absurd e q
 |cons y ys =>
  show(place ((y::ys).map PV.int).length (0:Int)).bind (λj=>((y::ys).map PV.int)[j]?)=_;rw[eM (by omega) (by simp)]
  rfl
def xr(n:Nat)(i:Int):ab defs (n+1) 20 [.val (.int i)]=some (.bl true):=by
 rw[am (d:=iL) rfl rfl]
 rfl
noncomputable abbrev IH (K:M5) (CF:Addr):TS:=λD σ H=>jf CF "pick" (CK K CF) [] E0 (cA 0) (cZ (cA 1) ir) σ H λu H'=>D.nx (σ.set 6 (some u)) H'
noncomputable abbrev J1(K:M5)(cal:Cal):TS:=kZ (tVB K cal (.or (.not (.call 20 [.bor 6])) (.cmp .ne (.bor 6) (.bor 4)))) (rg (tC .non)) iy
def vZ{CF x tb:Addr}{hd:Str}{w':Option Int}{R Rb:LL}{p:PV}{M:List Addr}{c:Int}{o:Bool}{t:List Int}{uf:V}{n:Nat}{H:Hp}{v4:V}(hv:v4=.int (dj w' (frl c t)))(fo:iw K CF M H x hd w' R p)(lt:d4 K H (aj H []) (tbl c Rb o) (t.map .int) tb)(hc:0<=c/\c<=60)(ar:frl c t≠[])
  {D:jq}{z5 z6:Option V} (q:∀H',af H H'->D.rt (.int (dj w' (frl c t))) H') :
  fQ (wb (xQ (cZ (tC (.int 2)) ir)) (db 5) (fQ (IH K CF) (J1 K (ab defs (n+3))))) (rg (cA 4)) D [some (.ref x),some (.ref tb),some (gT w'),some uf,some v4,z5,z6] H:=by
 subst hv;refine⟨2,rfl,by decide,by decide,λi m z H'=>m=2-i/\i<=2/\af H H'/\∃Y Z,z=[some (.ref x),some (.ref tb),some (gT w'),some uf,some (.int (dj w' (frl c t))),Y,Z],⟨_,rfl,by decide,af.refl H,_,_,rfl⟩,?_⟩;rintro i m z H' ⟨rfl,hi,s,Y,Z,rfl⟩;by_cases J:i<2
 .right;refine⟨J,λU H2=>∃m',m'<2-i/\(m'=2-(i+1)/\i+1<=2/\af H H2/\∃Y Z,U=[some (.ref x),some (.ref tb),some (gT w'),some uf,some (.int (dj w' (frl c t))),Y,Z]),λU H2 w=>w,λy H2 yl=>?_⟩;obtain⟨rfl,rfl⟩:=yl;obtain⟨dx,ua,va,hx,f2,f3⟩:=fo.mv s;refine⟨.ref x,rfl,x,dx,_,rfl,hx,rfl,.ref tb,rfl,x,tb,hd,w',R,Rb,p,M,c,o,t,rfl,fo.mv s,lt.move s (ak s),hc,ar,λH3 s3=>?_⟩;refine⟨[],[none,none,none,none,sv (.int (dj w' (frl c t))),none,sv (.int (dj w' (frl c t)))],false,no0,.skip (.skip (.skip (.skip (.val (by rw[Rep]) (.skip (.val (by rw[Rep]) .nil)))))),?_,λH4 s4=>mD ⟨_,by omega,rfl,J,(s.trans s3).trans s4,_,_,rfl⟩⟩;refine Iz (p:=false) (sB (aq (vs:=[.val (.int (dj w' (frl c t)))]) rfl (xr (n+2) _))) λ_=>?_
  rw[eU (x:=.int (dj w' (frl c t))) (y:=.int (dj w' (frl c t))) rfl rfl];show(some ((dj w' (frl c t))==(dj w' (frl c t)))).map (λp=>PV.bl !p)=some (.bl false);rw[KN]
  rfl
 .left;have:i=2:=by omega
  subst this;exact⟨pb _,_,rfl,q H' s⟩
def II {CP CF fP fI fK J:Addr}{ar fd:FuncData}{n:Nat} (pr:mz tab K mg defs) (kP:KPl K CP fP) (mP:mg ("Player":Str)=some (.ref CP)) (Y:KFo K CP CF fI) (mK:jb K CF "pick" fK) (DK:FnD K "pick" "Follower.pick" bf fK ar) (bK:aW K ar ["self","table"] [])
  (D:FnD K "_law_asks" "_law_asks" a_ J fd):cT P w K mg base CX0 (n+4) J fd ["follower","table","waits","free"] (CL K CF):=by
 obtain⟨c0,d0,k0,o0,m0,a0,z,t1,a1,sl,lk,a3,rfl⟩:=D.it;refine iB lk a3 Dz (λvs H Q E h=>?_) (λA outer s H vs Q E hr h=>?_)
 .obtain⟨x,tb,hd,w',R,Rb,p,M,c,o,t,uf,rfl,_⟩:=h
  rfl
 .obtain⟨x,tb,hd,w',R,Rb,p,M,c,o,t,uf,rfl,fo,hM,lt,hc,Z,rf,q⟩:=h;have l:Fr (dz CX0 P w K mg base bJ.names "_law_asks" (ag a_) J z A outer s H E).nox bJ.names a_ (n+3):=Fr.of pr Dz hr;have FK:=IF (P:=P) (w:=w) (base:=base) (mg:=mg) (n:=n+1) pr Y DK;have eB:bo a_=[As 0,As 1,As 2,As 3,As 4]:=rfl;have eL:fb (As 3)=[Al 0,Al 1]:=rfl;rw[eB];have gI:Gl (dz CX0 P w K mg base bJ.names "_law_asks" (ag a_) J z A outer s H E).nox "isinstance":=eS (by rw[l.s];decide +kernel);have gP:Gl (dz CX0 P w K mg base bJ.names "_law_asks" (ag a_) J z A outer s H E).nox "Player":=eS (by rw[l.s];decide +kernel);have p0:PS (dz CX0 P w K mg base bJ.names "_law_asks" (ag a_) J z A outer s H E).nox (As 0) _:=
   iz (xI (xH (iC (tY CP) gI (l.g.blt "isinstance" (by decide)) jj (aH (l.nm (i:=0) (x:="follower") (by decide +kernel)) (aH (uV (v:=.ref CP) gP mP rfl) bO))))) (bx (gU kX)) eX
  have p1:PS (dz CX0 P w K mg base bJ.names "_law_asks" (ag a_) J z A outer s H E).nox (As 1) (λD σ H=>tV K (ab defs (n+3)) (ix 3 0) σ H λu H'=>D.nx (σ.set 4 (some u)) H'):=
   l.set (i:=4) (x:="due") rfl (by decide +kernel) (l.v (by kernel_rfl)) (aK rfl _ _ _)
  have p2:PS (dz CX0 P w K mg base bJ.names "_law_asks" (ag a_) J z A outer s H E).nox (As 2) (kZ (tVB K (ab defs (n+3)) (.and (.cmp .notN (.bor 2) (.cst .non)) (.cmp .isIn (.bor 2) (.bor 3)))) (λD σ H=>cA 2 σ H λu H'=>D.nx (σ.set 4 (some u)) H') iy):=
   iz (l.t (by kernel_rfl)) (bx (l.set (i:=4) (x:="due") rfl (by decide +kernel) (l.nm (i:=2) (x:="waits") (by decide +kernel)) (aK rfl _ _ _))) eX
  have a0:PS (dz CX0 P w K mg base bJ.names "_law_asks" (ag a_) J z A outer s H E).nox (Al 0) (λD σ H=>jf CF "pick" (CK K CF) [] E0 (cA 0) (cZ (cA 1) ir) σ H λu H'=>D.nx (σ.set 6 (some u)) H'):=
   l.set (i:=6) (x:="found") rfl (by decide +kernel) (g5 (l.nm (i:=0) (x:="follower") (by decide +kernel)) Y.cls mK FK l.g.room bK .nil eW (aH (l.nm (i:=1) (x:="table") (by decide +kernel)) bO)) (aK rfl _ _ _)
  have a1:PS (dz CX0 P w K mg base bJ.names "_law_asks" (ag a_) J z A outer s H E).nox (Al 1) (kZ (tVB K (ab defs (n+3)) (.or (.not (.call 20 [.bor 6])) (.cmp .ne (.bor 6) (.bor 4)))) (rg (tC .non)) iy):=
   iz (l.t (by kernel_rfl)) (bx (gU kX)) eX
  have p3:PS (dz CX0 P w K mg base bJ.names "_law_asks" (ag a_) J z A outer s H E).nox (As 3) (wb (xQ (cZ (tC (.int 2)) ir)) (db 5) (fQ (λD σ H=>jf CF "pick" (CK K CF) [] E0 (cA 0) (cZ (cA 1) ir) σ H λu H'=>D.nx (σ.set 6 (some u)) H') (kZ (tVB K (ab defs (n+3)) (.or (.not (.call 20 [.bor 6])) (.cmp .ne (.bor 6) (.bor 4)))) (rg (tC .non)) iy))):=
   pY l.d.own l.g.calm (o4 (eS (by rw[l.s];decide +kernel)) (l.g.blt "range" (by decide)) (aH jr bO)) (iX l.d.nd (by rw[l.nn];rfl) (by have:=ip (show g6 (ag a_) "k"=true from by decide +kernel);rw[<- l.s]at this;exact this) (.inl (l.d.fn _))) (show PSs _ [Al 0,Al 1] _ from aD a0 (bx a1))
  refine⟨_,(show PSs _ [As 0,As 1,As 2,As 3,As 4] _ from aD p0 (aD p1 (aD p2 (aD p3 (bx (gU (l.nm (i:=4) (x:="due") (by decide +kernel)))))))).nox,?_⟩;obtain⟨dx,ua,va,hx,f2,f3⟩:=fo;refine⟨_,rfl,.ref x,.ref CF,true,rfl,jT.ins hx Y.cls Y.ha Y.hn Y.ht Y.hm,Y.kit,_,rfl,mD ?_⟩;refine⟨[],[none,none,none,sv (ofL (frl c t)),none,none,none],.int ((frl c t).headD 0),no0,.skip (.skip (.skip (.val rf (.skip (.skip (.skip .nil)))))),J0 rfl Z,λu H1 s1 r1=>?_⟩;rw[Rep]at r1;subst r1;have a4:=Rep.mono (ak s1) _ rf;have e2:inO w' (frl c t)=true->gT w'=.int (dj w' (frl c t)):=λh=>by
   cases w' with
   |none=>cases h
   |some i=>show V.int i=.int (if i∈frl c t then i else(frl c t).headD 0);rw[if_pos (Kl h)]
  have e3:inO w' (frl c t)=false->(frl c t).headD 0=dj w' (frl c t):=λh=>by
   cases w' with
   |none=>rfl
   |some i=>show _=(if i∈frl c t then i else(frl c t).headD 0);rw[if_neg (Mr h)]
  refine⟨[],[none,none,sv (bV w'),sv (ofL (frl c t)),none,none,none],inO w' (frl c t),no0,.skip (.skip (.val (mT w') (.val a4 (.skip (.skip (.skip .nil)))))),?_,λH2 s2=>?_⟩
  .have eI:ev (ab defs (n+3)) (.cmp .isIn (.bor 2) (.bor 3)) [none,none,sv (bV w'),sv (ofL (frl c t)),none,none,none]=some (.bl (inO w' (frl c t))):=by
    rw[eU (x:=bV w') (y:=ofL (frl c t)) rfl rfl];show(isIn (bV w') ((frl c t).map .int)).map PV.bl=_;rw[sT]
    rfl
   cases w' with
   |none=>exact uJ rfl
   |some i=>exact lQ rfl eI
  have U:=s1.trans s2;have aL:iw K CF M H2 x hd w' R p:=iw.mv ⟨dx,ua,va,hx,f2,f3⟩ U;have a2:=lt.move U (ak U);cases hI:inO w' (frl c t)with
  |true =>
   exact sS ⟨_,rfl,vZ (e2 hI) aL a2 hc Z λH' s'=>q H' (U.trans s')⟩
  |false =>
   exact mD (vZ (La V.int (e3 hI)) aL a2 hc Z λH' s'=>q H' (U.trans s'))
end
structure B49(K:M5)(R0 Hd L:LL)(p:Option (LL))(u8 u9 u10 u15:V)(sa:Addr)(cs:List Int)(M:List Addr)(H:Hp):Prop where
 rb:Rep K (aj H M) (.lst (R0.map ofS)) u10
 rp:Rep K (aj H M) (cK p) u9
 rh:Rep K (aj H M) (ofR Hd) u8
 rl:Rep K (aj H M) (ofR L) u15
 sc:SqL K (aj H M) sa (cs.map V.int)
structure J49(K:M5)(CF:Addr)(R0 Hd Hf L:LL)(h o:Bool)(w:Option Int)(p:Option (LL))(t td:List Int)(u8 u9 u10 u15:V)(sa:Addr)(cs:List Int)(aT lT aF d:Addr)(H:Hp):Prop where
 nd:[aT,lT,aF,d].Nodup
 b:B49 K R0 Hd L p u8 u9 u10 u15 sa cs [aT,lT,aF,d] H
 tb:dH K (λ_=>none) [aT,lT,aF,d] H (tbl 60 R0 o) (t.map .int) aT lT
 fo:iw K CF [aT,lT,aF,d] H aF (aw h) w Hf (cK p)
 dd:H d=some (.lst (td.map V.int))
section
variable{K:M5}{CF:Addr}{R0 Hd Hf L:LL}{h o:Bool}{w:Option Int}{p:Option (LL)}{t td:List Int}{u8 u9 u10 u15:V}{sa:Addr}{cs:List Int}{aT lT aF d:Addr}{M M':List Addr}{H H':Hp}
theorem B49.mv(j:B49 K R0 Hd L p u8 u9 u10 u15 sa cs M H)(s:af (aj H M) (aj H' M')):B49 K R0 Hd L p u8 u9 u10 u15 sa cs M' H':=⟨Rep.mono s _ j.rb,Rep.mono s _ j.rp,Rep.mono s _ j.rh,Rep.mono s _ j.rl,s.seq j.sc⟩
theorem iw.to{hd:Str}{q:PV}{R:LL}{x:Addr}(f:iw K CF M H x hd w R q)(s:af (aj H M) (aj H' M'))(k:∀o,H x=some o->H' x=some o):iw K CF M' H' x hd w R q:=by
 obtain⟨dx,u,v,h1,h2,h3⟩:=f;exact⟨dx,u,v,k _ h1,Rep.mono s _ h2,Rep.mono s _ h3⟩
theorem J49.mono(j:J49 K CF R0 Hd Hf L h o w p t td u8 u9 u10 u15 sa cs aT lT aF d H)(s:af H H'):J49 K CF R0 Hd Hf L h o w p t td u8 u9 u10 u15 sa cs aT lT aF d H':=
 ⟨j.nd,j.b.mv (ak s),j.tb.move (B':=λ_=>none) (ak s) (λ_=>s _ _) (λ_=>s _ _) j.tb.aO j.tb.lO rfl rfl,j.fo.mv s,s _ _ j.dd⟩
theorem J49.here(j:J49 K CF R0 Hd Hf L h o w p t td u8 u9 u10 u15 sa cs aT lT aF d H):∀a∈[aT,lT,aF,d],H a≠none:=λa ha=>by
 obtain⟨C,dx,gs,h1,_⟩:=j.tb.ob;obtain⟨us,h2,_⟩:=j.tb.li;obtain⟨_,_,_,h3,_⟩:=j.fo;simp only[pe,Kf,Ko]at ha;rcases ha with rfl|rfl|rfl|rfl
 .rw[h1];simp
 .rw[h2];simp
 .rw[h3];simp
 .rw[j.dd];simp
noncomputable def lV(q0 q1 q2 q3 q7:Option V)(h:Bool)(b:Int)(u8 u9 u10:V)(aT aF:Addr)(w:Option Int)(d:Addr)(u15:V)(σ:L2.St):L2.St:=q0::q1::q2::q3::some (.str (aw h))::some (.str (aw (!h)))::some (.int b)::q7::some u8::some u9::some u10::some (.ref aT)::some (.ref aF)::some (gT w)::some (.ref d)::some u15::σ
noncomputable def IJ(R0 Hd L:LL)(h o:Bool)(b:Int)(w':Option Int)(p:Option (LL))(t td:List Int)(G:Rho):Rho:=none::none::none::none::sv (.str (aw h))::sv (.str (aw (!h)))::sv (.int b)::none::sv (ofR Hd)::sv (cK p)::sv (.lst (R0.map ofS))::some (.brwO (tbl 60 R0 o) (t.map .int))::none::sv (bV w')::some (.brw (td.map .int))::sv (ofR L)::G
theorem J49.view(j:J49 K CF R0 Hd Hf L h o w p t td u8 u9 u10 u15 sa cs aT lT aF d H){q0 q1 q2 q3 q7:Option V}{b:Int}{w':Option Int}{G:Rho}{σ:L2.St}(v:Vw K H [aT,lT,aF,d] G σ):Vw K H [aT,lT,aF,d] (IJ R0 Hd L h o b w' p t td G) (lV q0 q1 q2 q3 q7 h b u8 u9 u10 aT aF w' d u15 σ):=
 .skip (.skip (.skip (.skip (.val (eE (K:=K) _ _) (.val (eE (K:=K) _ _) (.val (bB (K:=K) _ _) (.skip (.val j.b.rh (.val j.b.rp (.val j.b.rb (.obj j.tb.lent (.skip (.val (mT w') (.brw (.inl (.inl j.dd)) (Reps.of_ints td) (.val j.b.rl v)))))))))))))))
theorem J49.took(j:J49 K CF R0 Hd Hf L h o w p t td u8 u9 u10 u15 sa cs aT lT aF d H){l':Addr}{ys:List Int}(kp:∀b o,b≠aT->b≠lT->H b=some o->H' b=some o)(D:l'=lT\/H l'=none)(oa:dH K (λ_=>none) (l'::[aT,lT,aF,d].filter λb=>decide (b≠lT)) H' (tbl 60 R0 o) (ys.map .int) aT l') :
  J49 K CF R0 Hd Hf L h o w p ys td u8 u9 u10 u15 sa cs aT l' aF d H':=by
 have nd:=j.nd;have Y:=j.here;have nl:aT≠l'/\l'≠aF/\l'≠d:=by
  simp only[KA,pe,Kf,not_or,Ko]at nd;rcases D with rfl|D
  .exact⟨nd.1.1,nd.2.1.1,nd.2.1.2⟩
  .exact⟨λz=>Y aT (.head _) (z▸D),λz=>Y aF (by simp) (z▸D),λz=>Y d (by simp) (z▸D)⟩
 have Z:=nd;simp only[KA,pe,Kf,not_or,Ko,KQ,LM,M1]at Z;have U:af (aj H [aT,lT,aF,d]) (aj H' [aT,l',aF,d]):=λy w J=>by
  have q:y∉[aT,lT,aF,d]:=λz=>by rw[ez z]at J;cases J
  rw[a9 q]at J;have hn:y∉[aT,l',aF,d]:=λz=>by
   simp only[pe,Kf,not_or,Ko]at q z;rcases z with z|z|z|z
   .exact q.1 z
   .rcases D with e|e
    .exact q.2.1 (z.trans e)
    .rw[z,e]at J;cases J
   .exact q.2.2.1 z
   .exact q.2.2.2 z
  rw[a9 hn];simp only[pe,Kf,not_or,Ko]at q;exact kp y w q.1 q.2.1 J
 refine⟨by simp only[nodup_cons,mem_cons,not_mem_nil,not_or,or_false,nodup_nil,not_false_iff,and_true];grind,j.b.mv U,oa.move (B':=λ_=>none) (bi (af.refl H') λy q=>.inl ?_) (λ_ z=>z) (λ_ z=>z) (.head _) (by simp) rfl rfl,j.fo.to U (λw z=>kp aF w (by grind) (by grind) z),kp d _ (by grind) (by grind) j.dd⟩;simp only[mem_cons,not_mem_nil,or_false,mem_filter,decide_eq_true_eq]at q ⊢
 grind
theorem J49.saw(j:J49 K CF R0 Hd Hf L h o w p t td u8 u9 u10 u15 sa cs aT lT aF d H){w2:Option Int}{J:LL}(fo:iw K CF [aT,lT,aF,d] H' aF (aw h) w2 J (cK p))(kp:∀b o,b≠aF->H b=some o->H' b=some o):J49 K CF R0 Hd J L h o w2 p t td u8 u9 u10 u15 sa cs aT lT aF d H':=by
 have D:=j.nd;simp only[nodup_cons,mem_cons,not_mem_nil,not_or,or_false,nodup_nil,not_false_iff,and_true]at D;have q:af (aj H [aT,lT,aF,d]) (aj H' [aT,lT,aF,d]):=iW (by simp) kp;exact⟨j.nd,j.b.mv q,j.tb.move (B':=λ_=>none) q (λw z=>kp aT w (by grind) z) (λw z=>kp lT w (by grind) z) j.tb.aO j.tb.lO rfl rfl,fo,kp d _ (by grind) j.dd⟩
def J49.wrote(j:J49 K CF R0 Hd Hf L h o w p t td u8 u9 u10 u15 sa cs aT lT aF d H){t2:List Int}:J49 K CF R0 Hd Hf L h o w p t t2 u8 u9 u10 u15 sa cs aT lT aF d (upd H d (.lst (t2.map V.int))):=by
 have D:=j.nd;simp only[KA,pe,Kf,not_or,Ko,KQ,LM,M1]at D;have kp:∀b o,b≠d->H b=some o->(upd H d (.lst (t2.map V.int))) b=some o:=λb o J U=>by rw[az J];exact U
 have q:af (aj H [aT,lT,aF,d]) (aj (upd H d (.lst (t2.map V.int))) [aT,lT,aF,d]):=iW (by simp) kp;exact⟨j.nd,j.b.mv q,j.tb.move (B':=λ_=>none) q (λw z=>kp aT w (by grind) z) (λw z=>kp lT w (by grind) z) j.tb.aO j.tb.lO rfl rfl,j.fo.to q (λw z=>kp aF w (by grind) z),aA⟩
theorem J49.newL(j:J49 K CF R0 Hd Hf L h o w p t td u8 u9 u10 u15 sa cs aT lT aF d H){L2:LL}{u:V}(r:Rep K (aj H [aT,lT,aF,d]) (ofR L2) u):J49 K CF R0 Hd Hf L2 h o w p t td u8 u9 u10 u sa cs aT lT aF d H:=⟨j.nd,⟨j.b.rb,j.b.rp,j.b.rh,r,j.b.sc⟩,j.tb,j.fo,j.dd⟩
theorem J49.newH(j:J49 K CF R0 Hd Hf L h o w p t td u8 u9 u10 u15 sa cs aT lT aF d H){H2:LL}{u:V}(r:Rep K (aj H [aT,lT,aF,d]) (ofR H2) u):J49 K CF R0 H2 Hf L h o w p t td u u9 u10 u15 sa cs aT lT aF d H:=⟨j.nd,⟨j.b.rb,j.b.rp,r,j.b.rl,j.b.sc⟩,j.tb,j.fo,j.dd⟩
end
noncomputable def fe:Stmt->List Stmt
 | .If _ _ b _=>b
 | _=>[]
noncomputable abbrev c39:Cal:=ab defs 39
noncomputable abbrev L(i:Nat):Stmt:=(bo mC).getD i (.Pass ⟨0,0,0,0⟩)
noncomputable abbrev F0:Stmt:=(fb (L 16)).getD 0 (.Pass ⟨0,0,0,0⟩)
noncomputable abbrev B(i:Nat):Stmt:=(fb F0).getD i (.Pass ⟨0,0,0,0⟩)
noncomputable abbrev Cb(i:Nat):Stmt:=(fb (B 3)).getD i (.Pass ⟨0,0,0,0⟩)
noncomputable abbrev Eb(i:Nat):Stmt:=(fe (B 3)).getD i (.Pass ⟨0,0,0,0⟩)
noncomputable abbrev DB:ME:=.call 24 [(ci 60),.bor 14]
noncomputable abbrev AE:ME:=.idx (.bor 17) (.bin .mod (.bin .fdiv (.bor 16) (ci 4)) (.blt .len [.bor 17]))
noncomputable abbrev AF:ME:=.idx (.lst [(cs "weaver"),(cs "moth")]) (.bin .mod (.bin .add (.blt .len [.bor 14]) (.bor 6)) (ci 2))
noncomputable abbrev IK:ME:=.call 40 [.bor 9,.bor 8,.bor 4,.bor 5,.bor 18]
noncomputable abbrev DC:ME:=.call 22 [.bor 10,(.call 21 [.bor 14,.bor 6]),(.call 21 [.bor 14,(.bin .sub (ci 1) (.bor 6))])]
noncomputable abbrev sV(K:M5)(i:Nat)(me:ME):TS:=λD σ H=>tV K c39 me σ H λu H'=>D.nx (σ.set i (some u)) H'
noncomputable abbrev sN(i j:Nat):TS:=λD σ H=>cA j σ H λu H'=>D.nx (σ.set i (some u)) H'
noncomputable abbrev IL(K:M5)(CF:Addr):TS:=λD σ H=>rn (CL K CF) [] E0 (cZ (cA 12) (cZ (cA 11) (cZ (cA 13) (cZ (cA 17) ir)))) σ H λu H'=>D.nx (σ.set 20 (some u)) H'
noncomputable abbrev AG(K:M5)(CF:Addr):TS:=fQ (IL K CF) (fQ (kZ (tVB K c39 (.cmp .isN (.bor 20) (.cst .non))) (rg (tC (.bl false))) iy) (fQ (kZ (tVB K c39 (.cmp .gt (.bin .mod (.bor 16) (ci 4)) (ci 0))) (sN 18 20) iy) (λD σ H=>tC .non σ H λu H'=>D.nx (σ.set 13 (some u)) H')))
noncomputable abbrev mU(K:M5):TS:=pX (tV K c39 IK) (xM K 2 (lX (db 13) (lX (db 8) xL)))
noncomputable abbrev DE (K:M5) (C CF:Addr):TS:=fQ (m4 (jf C "take" (spT K c39 45) [] E0 (cA 11) (cZ (cA 18) ir))) (fQ (m4 (jf CF "sees" (AD K CF (ab defs 38)) [] E0 (cA 12) (cZ (cA 19) (cZ (cA 18) ir)))) (fQ (m4 (tBM K "list" qd (cA 14) (cZ (cA 18) ir))) (sV K 15 DC)))
noncomputable abbrev v0(K:M5)(C CF:Addr):TS:=kZ (tVB K c39 (.cmp .isN (.call 23 [.bor 15]) (.cst .non))) (fQ (sV K 17 DB) (fQ (sV K 18 AE) (fQ (sV K 19 AF) (fQ (kZ (tVB K c39 (.cmp .eq (.bor 19) (.bor 4))) (AG K CF) (mU K)) (DE K C CF))))) iy
section
variable{X:Cx}
def Gq (l:Fr X jk.names mC 39) {C CF J U:Addr}{q z:FuncData} (Y:IsC X.K C) (Z:Cls X.K CF) (mA:X.mg ("_law_asks":Str)=some (.ref J)) (kA:PySem.W.keepIn X.K (.ref J)=true) (bA:aW X.K q ["follower","table","waits","free"] []) (FA:cT X.prog X.w X.K X.mg X.base CX0 39 J q ["follower","table","waits","free"] (CL X.K CF))
  (MS:jb X.K CF "sees" U) (bS:aW X.K z ["self","hand","hole"] []) (FS:cT X.prog X.w X.K X.mg X.base CX0 39 U z ["self","hand","hole"] (AD X.K CF (ab defs 38))):PSs X [F0] (v0 X.K C CF):=by
 have gA:Gl X "_law_asks":=eS (by rw[l.s];decide +kernel);obtain⟨fa,fd,ps,h1,h3,FT⟩:=l.g.methsT 45 "take" rfl C Y;have cC:=(l.g.cls C Y).1;have nm:∀{i:Nat}{x:Str}{pos:Pos},aE jk.names (ag mC) i x=true->PE X (.Name x pos) (cA i):=λh=>l.nm h
 have b0:PS X (B 0) (sV X.K 17 DB):=l.set (i:=17) (x:="free") rfl (by decide +kernel) (l.v (by kernel_rfl)) (aK rfl _ _ _);have b1:PS X (B 1) (sV X.K 18 AE):=l.set (i:=18) (x:="hole") rfl (by decide +kernel) (l.v (by kernel_rfl)) (aK rfl _ _ _);have b2:PS X (B 2) (sV X.K 19 AF):=l.set (i:=19) (x:="hand") rfl (by decide +kernel) (l.v (by kernel_rfl)) (aK rfl _ _ _);have k0:PS X (Cb 0) (IL X.K CF):=l.set (i:=20) (x:="due") rfl (by decide +kernel) (p9 FA l.g.room gA mA kA bA .nil eW (aH (nm (i:=12) (x:="follower") (by decide +kernel)) (aH (nm (i:=11) (x:="table") (by decide +kernel)) (aH (nm (i:=13) (x:="waits") (by decide +kernel)) (aH (nm (i:=17) (x:="free") (by decide +kernel)) bO))))) (aK rfl _ _ _);have k1:PS X (Cb 1) (kZ (tVB X.K c39 (.cmp .isN (.bor 20) (.cst .non))) (rg (tC (.bl false))) iy):=iz (l.t (by kernel_rfl)) (bx (gU xE)) eX;have k2:PS X (Cb 2) (kZ (tVB X.K c39 (.cmp .gt (.bin .mod (.bor 16) (ci 4)) (ci 0))) (sN 18 20) iy):=iz (l.t (by kernel_rfl)) (bx (l.set (i:=18) (x:="hole") rfl (by decide +kernel) (nm (i:=20) (x:="due") (by decide +kernel)) (aK rfl _ _ _))) eX;have k3:PS X (Cb 3) (λD σ H=>tC .non σ H λu H'=>D.nx (σ.set 13 (some u)) H'):=l.set (i:=13) (x:="waits") rfl (by decide +kernel) kX (aK rfl _ _ _);have hn:∀{i:Nat}{x:Str}{pos:Pos},jk.names[i]?=some x->g6 (ag mC) x=true->PG X (.Name x pos) (db i):=λ{i x pos} h1 h2=>iX l.d.nd (by rw[l.nn];exact h1) (by have:=ip h2;rw[<- l.s]at this;exact this) (.inl (l.d.fn _))
 have e0:PS X (Eb 0) (mU X.K):=xN (l.v (by kernel_rfl)) (sY l.g.calm (iA (hn (i:=13) (x:="waits") rfl (by decide +kernel)) (iA (hn (i:=8) (x:="held") rfl (by decide +kernel)) pW)));have b3:PS X (B 3) (kZ (tVB X.K c39 (.cmp .eq (.bor 19) (.bor 4))) (AG X.K CF) (mU X.K)):=iz (l.t (by kernel_rfl)) (show PSs X [Cb 0,Cb 1,Cb 2,Cb 3] _ from aD k0 (aD k1 (aD k2 (bx k3)))) (show PSs X [Eb 0] _ from bx e0);have b4:PS X (B 4) (m4 (jf C "take" (spT X.K c39 45) [] E0 (cA 11) (cZ (cA 18) ir))):=d9 (g5 (nm (i:=11) (x:="table") (by decide +kernel)) cC h1 FT l.g.room h3 .nil eW (aH (nm (i:=18) (x:="hole") (by decide +kernel)) bO)) rfl;have b5:PS X (B 5) (m4 (jf CF "sees" (AD X.K CF (ab defs 38)) [] E0 (cA 12) (cZ (cA 19) (cZ (cA 18) ir)))):=d9 (g5 (nm (i:=12) (x:="follower") (by decide +kernel)) Z MS FS l.g.room bS .nil eW (aH (nm (i:=19) (x:="hand") (by decide +kernel)) (aH (nm (i:=18) (x:="hole") (by decide +kernel)) bO))) rfl;have b6:PS X (B 6) (m4 (tBM X.K "list" qd (cA 14) (cZ (cA 18) ir))):=d9 (vb PySem.F.plainAttrs_list PySem.F.slot_list_append PySem.F.type_list_append iY (nm (i:=14) (x:="taken") (by decide +kernel)) (aH (nm (i:=18) (x:="hole") (by decide +kernel)) bO)) rfl;have b7:PS X (B 7) (sV X.K 15 DC):=l.set (i:=15) (x:="left") rfl (by decide +kernel) (l.v (by kernel_rfl)) (aK rfl _ _ _);exact bx (iz (l.t (by kernel_rfl)) (show PSs X [B 0,B 1,B 2,B 3,B 4,B 5,B 6,B 7] _ from aD b0 (aD b1 (aD b2 (aD b3 (aD b4 (aD b5 (aD b6 (bx b7)))))))) eX)
end
section
variable{K:M5}{CF:Addr}{R0 Hd Hf L:LL}{h o:Bool}{w:Option Int}{p:Option (LL)}{t td:List Int}{u8 u9 u10 u15:V}{sa:Addr}{cs:List Int}{aT lT aF d:Addr}{H:Hp}{q0 q1 q2 q3 q7:Option V}{b:Int}
def IM{fs xs:List PV}{a l:Addr}{O:List Addr}{C:Addr}(q:dH K (λ_=>none) O H fs xs a l)(z:IsC K C):∃dx gs,H a=some (.ins C dx gs)/\∀m∈pC,gs.lookup m=none:=by
 obtain⟨D,dx,gs,h1,h2⟩:=q.ob;have:D=C:=by
  have:=h2.cls.symm.trans z;cases this
  rfl
 subst this;exact⟨dx,gs,h1,h2.no⟩
def AH{G:Rho}{q:List Int}{cell:Int}(h17:(G[17]?).join=sv (ofL q))(h16:(G[16]?).join=sv (.int cell))(D:q≠[]):∃a∈q,ev c39 AE G=some (.int a):=by
 have hp:0<q.length:=length_pos_iff.mpr D;have el:ev c39 (.blt .len [.bor 17]) G=some (.int (q.length:Nat)):=by
  rw[bu (v:=ofL q) (by rw[ev,h17];rfl)];show some (PV.int ((q.map PV.int).length:Nat))=_;rw[sm]
 obtain⟨j,J⟩:∃j,j=cell / 4 % (q.length:Int):=⟨_,rfl⟩;have U:0<=j:=by rw[J];exact Ld _ (by omega)
 have Y:j<q.length:=by rw[J];exact KZ _ (by omega)
 have Z:ev c39 (.bin .mod (.bin .fdiv (.bor 16) (ci 4)) (.blt .len [.bor 17])) G=some (.int j):=by
  rw[cJ (vP (x:=cell) (k:=4) (by rw[ev,h16];rfl) (by decide)) el,e_,if_pos (by omega),J]
 have z:j.toNat<q.length:=by omega
 refine⟨q[j.toNat],getElem_mem z,?_⟩;rw[iT (x:=ofL q) (by rw[ev,h17];rfl) Z];show(place (q.map PV.int).length j).bind (λj=>(q.map PV.int)[j]?)=_;rw[sm,eM U Y,bind_some,Kb,Kc z]
 rfl
def AI{G:Rho}(h14:(G[14]?).join=some (.brw (t.map .int)))(h6:(G[6]?).join=sv (.int b))(z:b=if o=true then 1 else 0):ev c39 AF G=some (.str (aw (hat o t.length))):=by
 have el:ev c39 (.blt .len [.bor 14]) G=some (.int (t.length:Nat)):=by
  rw[bu (v:=ofL t) (by rw[ev,h14];rfl)];show some (PV.int ((t.map PV.int).length:Nat))=_;rw[sm]
 have D:ev c39 (.bin .mod (.bin .add (.blt .len [.bor 14]) (.bor 6)) (ci 2)) G=some (.int (((t.length:Int)+b) % 2)):=by
  rw[cJ (x:=.int ((t.length:Int)+b)) (cJ (x:=.int (t.length:Nat)) (y:=.int b) el (by rw[ev,h6];rfl)) (ca _ _ _),e_,if_pos (by decide)]
 have J:((t.length:Int)+b) % 2=if hat o t.length=true then 1 else 0:=by
  unfold hat;rw[z];by_cases q:t.length % 2=0
  .rw[if_pos q];cases o<;>simp<;>omega
  .rw[if_neg q];cases o<;>simp<;>omega
 rw[iT (x:=.lst [.str "weaver",.str "moth"]) rfl D,J];cases hat o t.length<;>rfl
def v3{C:Addr}(hC:IsC K C)(g:aY R0)(hb:b=if o=true then 1 else 0)(j:J49 K CF R0 Hd Hf L h o w p t t u8 u9 u10 u15 sa cs aT lT aF d H){a:Int}(ha:a∈frl 60 t)(hw:fU (lft o 0 R0 t)=.non)(nd:t.Nodup)(len:t.length<=50){y:Bool}{w2:Option Int}
  (J:aw y=aw h->w2=none/\Hd=Hf) (Y:aw y≠aw h->ab defs 38 14 [.val (cK p),.val (ofR Hf),.val (.str (aw h)),.val (.int a)]=some (mvV w2 Hd (cK p))) {z16 z17 z20:Option V}{D:jq}
  (q:∀a0 U H',J49 K CF R0 Hd Hd (lft o 0 R0 (t++[a])) h o w2 p (t++[a]) (t++[a]) u8 u9 u10 U sa cs aT a0 aF d H'->(t++[a]).Nodup->D.nx (lV q0 q1 q2 q3 q7 h b u8 u9 u10 aT aF w2 d U [z16,z17,some (.int a),some (.str (aw y)),z20]) H') :
  DE K C CF D (lV q0 q1 q2 q3 q7 h b u8 u9 u10 aT aF w2 d u15 [z16,z17,some (.int a),some (.str (aw y)),z20]) H:=by
 obtain⟨⟨m0,m1⟩,m2⟩:=vX.mp ha;obtain⟨dx,gs,eb,no⟩:=IM j.tb hC;have et:=Gi 33 60 R0 o t a g hw m0 m1 m2 (by omega);refine⟨_,rfl,aT,dx,gs,rfl,eb,no _ (by decide),_,rfl,[aT,lT,aF,d],aT,lT,tbl 60 R0 o,t.map .int,[.val (.int a)],[.int a],_,_,rfl,j.here,j.tb,.cons (bB (K:=K) (aj (fF H [aT,lT]) [aT,lT,aF,d]) a) .nil,et,λl' H1 kp hl ob=>?_⟩;have j1:=j.took kp hl ob;obtain⟨a1,ua,va,hx,_,_⟩:=j1.fo;refine⟨_,rfl,aF,a1,_,rfl,hx,rfl,_,rfl,_,rfl,aF,aw h,aw y,a,w,w2,Hf,Hd,cK p,cK p,[aT,l',aF,d],rfl,j1.fo,by simp,j1.here,λe=>⟨(J e).1,(J e).2,rfl⟩,Y,λH2 a2 a3=>?_⟩;have j2:=j1.saw a2 a3;refine⟨_,rfl,.inl ⟨rfl,_,SqL.of j2.dd⟩,_,rfl,d,t.map V.int,.int a,rfl,rfl,j2.dd,?_,?_⟩
 .rw[sm];exact Hg len (by decide)
 have j3:=j2.wrote (t2:=t++[a]);rw[K0]at j3;have Z:(t++[a]).Nodup:=by
  rw[MY];exact⟨nd,by simp,λx hx y hy z=>m2 (by rw[Kd.mp hy]at z;exact z▸hx)⟩
 have ao:(t++[a]).length<64:=by rw[Kj,length_singleton];omega
 refine⟨_,_,_,j3.here,j3.view (w':=w2) (.skip (.skip (.skip (.skip (.skip .nil))))),aq (vs:=[.val (.lst (R0.map ofS)),.val (ofL (sortI (tb (t++[a]) b))),.val (ofL (sortI (tb (t++[a]) (1-b))))]) (sA rfl (jN (aq (vs:=[.brw ((t++[a]).map .int),.val (.int b)]) rfl (oG 38 _ _ ao)) (jN (aq (vs:=[.brw ((t++[a]).map .int),.val (.int (1-b))]) rfl (oG 38 _ _ ao)) rfl))) (Gm 38 g hb Z),λu H3 s3 r3=>?_⟩;exact q l' u H3 ((j3.mono s3).newL r3) Z
def CM{w:Option Int}{q:List Int}(z:q≠[]):dj w q∈q:=by
 have h0:q.headD 0∈q:=by
  cases q with
  |nil=>exact absurd rfl z
  |cons y ys=>exact .head _
 cases w with
 |none=>exact h0
 |some i =>
  show(if i∈q then i else q.headD 0)∈q;split
  .assumption
  .exact h0
def CN(j:J49 K CF R0 Hd Hf L h o w p t t u8 u9 u10 u15 sa cs aT lT aF d H)(z:frl 60 t≠[]){J:V}(rf:Rep K (aj H [aT,lT,aF,d]) (ofL (frl 60 t)) J){a cell:Int}(ha:a∈frl 60 t){z19 z20:Option V}{D:jq}
  (q:∀Z H' r,Z∈frl 60 t->J49 K CF R0 Hd Hf L h o w p t t u8 u9 u10 u15 sa cs aT lT aF d H'->D.nx (lV q0 q1 q2 q3 q7 h b u8 u9 u10 aT aF none d u15 [some (.int cell),some J,some (.int Z),z19,r]) H') :
  AG K CF D (lV q0 q1 q2 q3 q7 h b u8 u9 u10 aT aF w d u15 [some (.int cell),some J,some (.int a),z19,z20]) H:=by
 refine⟨_,rfl,_,rfl,_,rfl,_,rfl,aF,aT,aw h,w,Hf,R0,cK p,[aT,lT,aF,d],60,o,t,J,rfl,j.fo,j.here,j.tb.lent.move (af.refl H) le0,⟨by decide,by decide⟩,z,Rep.mono le0 _ rf,λH1 s1=>?_⟩;have U:=j.mono s1;refine⟨_,_,false,U.here,U.view (w':=w) (.val (bB (K:=K) _ cell) (.skip (.skip (.skip (.val (bB (K:=K) _ (dj w (frl 60 t))) .nil))))),(eU (x:=.int (dj w (frl 60 t))) rfl (ca _ _ _)).trans rfl,λH2 s2=>mD ?_⟩;have Y:=U.mono s2;refine⟨_,_,decide (0<cell % 4),Y.here,Y.view (w':=w) (.val (bB (K:=K) _ cell) (.skip (.skip (.skip (.val (bB (K:=K) _ (dj w (frl 60 t))) .nil))))),(eU (x:=.int (cell % 4)) ((cJ (x:=.int cell) rfl (ca _ _ _)).trans (by rw[e_,if_pos (by decide)])) (ca _ _ _)).trans rfl,λH3 s3=>?_⟩;have j3:=Y.mono s3;cases decide (0<cell % 4)with
 |true=>exact sS ⟨_,rfl,q _ H3 _ (CM z) j3⟩
 |false=>exact mD (q a H3 _ ha j3)
def xt(hp:∀P,p=some P->OkP P)(gH:aY Hd)(h8:∀s∈Hd,s.length<=8)(j:J49 K CF R0 Hd Hf L h o w p t td u8 u9 u10 u15 sa cs aT lT aF d H){a:Int}{z16 z17 z19 z20:Option V}{D:jq}
  (q:∀J H',J49 K CF R0 (bh2 h Hd a (repl p (bhd (!h) Hd (some a)) a)) Hf L h o w p t td J u9 u10 u15 sa cs aT lT aF d H'->D.nx (lV q0 q1 q2 q3 q7 h b J u9 u10 aT aF (repl p (bhd (!h) Hd (some a)) a) d u15 [z16,z17,some (.int a),z19,z20]) H') :
  mU K D (lV q0 q1 q2 q3 q7 h b u8 u9 u10 aT aF w d u15 [z16,z17,some (.int a),z19,z20]) H:=by
 refine⟨_,_,_,j.here,j.view (w':=w) (.skip (.skip (.val (bB (K:=K) _ a) (.skip (.skip .nil))))),aq (vs:=[.val (cK p),.val (ofR Hd),.val (.str (aw h)),.val (.str (aw (!h))),.val (.int a)]) rfl (Cu 34 p hp Hd gH h8 h a),λu H1 s1 r1=>?_⟩;have j1:=j.mono s1;rw[Rep]at r1;obtain⟨la,us,rfl,U,z⟩:=r1;rw[Reps]at z;obtain⟨v1,r2,rfl,Y,z⟩:=z;rw[Reps]at z;obtain⟨v2,r3,rfl,Z,z⟩:=z;rw[Reps]at z;subst z;have e1:=qU Y;subst e1;refine⟨la,_,rfl,SqT.of (be _ _ _ _ U),rfl,_,_,rfl,_,_,rfl,rfl,?_⟩;exact q v2 H1 (j1.newH Z)
def CO{C:Addr}(hC:IsC K C)(g:aY R0)(hp:∀P,p=some P->OkP P)(hb:b=if o=true then 1 else 0)(j:J49 K CF R0 Hd Hd (lft o 0 R0 t) h o w p t t u8 u9 u10 u15 sa cs aT lT aF d H)(gH:aY Hd)(h8:∀s∈Hd,s.length<=8)(nd:t.Nodup)(len:t.length<=50){cell:Int}{z17 z18 z19 z20:Option V}{D:jq}
  (q:∀U w' t' Y J Z H' a2 a3 a4 a5,J49 K CF R0 U U (lft o 0 R0 t') h o w' p t' t' Y u9 u10 J sa cs aT Z aF d H'->aY U->(∀s∈U,s.length<=8)->t'.Nodup->t'.length<=t.length+1->D.nx (lV q0 q1 q2 q3 q7 h b Y u9 u10 aT aF w' d J [some (.int cell),a2,a3,a4,a5]) H') :
  v0 K C CF D (lV q0 q1 q2 q3 q7 h b u8 u9 u10 aT aF w d u15 [some (.int cell),z17,z18,z19,z20]) H:=by
 refine⟨_,_,iG (fU (lft o 0 R0 t)).pv,j.here,j.view (w':=w) (.skip (.skip (.skip (.skip (.skip .nil))))),?_,λH1 s1=>?_⟩
 .rw[eU (x:=(fU (lft o 0 R0 t)).pv) (aq (vs:=[.val (ofR (lft o 0 R0 t))]) rfl (IB 38 (lft o 0 R0 t))) (ca _ _ _),B_]
  rfl
 have j1:=j.mono s1;by_cases hw:fU (lft o 0 R0 t)=.non
 .have aL:=Gn g hw;rw[hw];refine sS ⟨_,_,_,j1.here,j1.view (w':=w) (.skip (.skip (.skip (.skip (.skip .nil))))),aq (vs:=[.val (.int 60),.brw (t.map .int)]) rfl (CC 38 60 t (by decide) (by decide) (by omega)),λuf H2 s2 rf=>?_⟩;have j2:=j1.mono s2;obtain⟨a,ha,ea⟩:=AH (G:=IJ R0 Hd (lft o 0 R0 t) h o b w p t t [sv (.int cell),sv (ofL (frl 60 t)),none,none,none]) (cell:=cell) rfl rfl aL;refine⟨_,_,_,j2.here,j2.view (w':=w) (.val (bB (K:=K) _ cell) (.val rf (.skip (.skip (.skip .nil))))),ea,λua H3 s3 ra=>?_⟩;rw[Rep]at ra;subst ra;have j3:=j2.mono s3;have bt:=Rep.mono (ak s3) _ rf;refine⟨_,_,_,j3.here,j3.view (w':=w) (.skip (.skip (.skip (.skip (.skip .nil))))),AI rfl rfl hb,λuh H4 s4 rh=>?_⟩;rw[Rep]at rh;subst rh;have j4:=j3.mono s4;have bK:=Rep.mono (ak s4) _ bt;generalize hat o t.length=y;refine⟨_,_,(aw y==aw h),j4.here,j4.view (w':=w) (.skip (.skip (.skip (.val (eE (K:=K) _ (aw y)) (.skip .nil))))),?_,λH5 s5=>?_⟩
  .refine(eU (x:=.str (aw y)) (y:=.str (aw h)) rfl rfl).trans ?_;show(eqF 100 (.str (aw y)) (.str (aw h))).map PV.bl=_;rw[mR]
   rfl
  have j5:=j4.mono s5;have bP:=Rep.mono (ak s5) _ bK;cases hy:(aw y==aw h)with
  |true =>
   have ey:=eq_of_beq hy;refine sS (CN j5 aL bP ha λa' H6 r bW j6=>?_);refine v3 hC g hb j6 bW hw nd len (y:=y) (w2:=none) (λ_=>⟨rfl,rfl⟩) (λn=>absurd ey n) λZ J H7 j7 ao=>?_
   exact q _ _ _ _ _ _ H7 _ _ _ _ j7 gH h8 ao (by rw[Kj,length_singleton];exact pb _)
  |false =>
   have ey:aw y≠aw h:=λz=>by rw[z,KN]at hy;cases hy
   refine mD (xt hp gH h8 j5 λY H6 j6=>?_);refine v3 hC g hb j6 ha hw nd len (y:=y) (w2:=repl p (bhd (!h) Hd (some a)) a) (λn=>absurd n ey) (λ_=>At 32 p hp Hd gH h a) λZ J H7 j7 ao=>?_
   exact q _ _ _ _ _ _ H7 _ _ _ _ j7 (Ao gH _ _) (kT (kT h8 _ _) _ _) ao (by rw[Kj,length_singleton];exact pb _)
 .have:iG (fU (lft o 0 R0 t)).pv=false:=by
   rcases xp (lft o 0 R0 t)with z|z|z
   .rw[z];rfl
   .rw[z];rfl
   .exact absurd z hw
  rw[this];exact mD (q _ _ _ _ _ _ H1 _ _ _ _ j1 gH h8 nd (KH _))
end
noncomputable def IN:List MS:=[.set 1 (.bin .mod (.call 15 [.bor 0,(ci 0)]) (ci 3)),
  .set 2 (.bin .mod (.call 15 [.bor 0,(ci 1)]) (ci 2305843009213693951)),
  .set 3 (.cmp .eq (.bin .mod (.bin .fdiv (.call 15 [.bor 0,(ci 0)]) (ci 3)) (ci 2)) (ci 1)),
  .set 4 (.idx (.lst [(cs "moth"),(cs "moth"),(cs "weaver")]) (.bor 1)),
  .set 5 (.idx (.lst [(cs "weaver"),(cs "weaver"),(cs "moth")]) (.bor 1)),
  .set 6 (.blt .intOf [(.cmp .eq (.cmp .eq (.bor 4) (cs "moth")) (.bor 3))]),
  .set 7 (.comp .rng [(ci 3),(.blt .min2 [(.blt .len [.bor 0]),(ci 27)])] [0] (.cmp .eq (.bin .mod (.bor 0) (ci 2)) (ci 1)) (.idx (.bor 1) (.bor 0))),
  .set 8 (.call 29 [(.call 34 [.bor 7,.bor 1,.bor 2,.bor 3]),(.bin .mod (.call 15 [.bor 0,(ci 2)]) (ci 60))]),
  .set 9 (.call 35 [.bor 1,.bor 2,(.bin .mod (.call 15 [.bor 0,(ci 2)]) (ci 60)),.bor 3]),
  .set 10 (.blt .listOf [.bor 8]),
  .mkO 11 [(.tup [(ci 60),.var 8]),(.idx (.lst [(cs "weaver"),(cs "moth")]) (.bor 6))]]
def jp{cal:Cal}{i:Nat}{e:ME}{G:Rho}{v:PV}{ms:List MS}{r:MM.R}(h:ev cal e G=some v)(k:exs cal ms (put G i (.val v))=r):exs cal (.set i e::ms) G=r:=by
 rw[al,bG h,ah,k]
def DF{cal:Cal}{op:Op2}{x y:ME}{es:List ME}{G:Rho}{v:PV}{vs:List MV}(h:ev cal (.bin op x y) G=some v)(k:evA cal es G=some vs):evA cal (.bin op x y::es) G=some (.val v::vs):=by
 rw[evA,h,bind_some,k]
 .rfl
 all_goals exact nofun
noncomputable abbrev n8:Rho:=[none,none,none,none,none,none,none,none,none]
def sU(op:Bool)(pv:PV)(p:Option (LL)):Prop:=(∀P,p=some P->OkP P)/\((op=false/\pv=cK p)\/(op=true/\((pv=cK none/\p=none)\/∃q P,p=some P/\pv=vU q P)))
def CQ(ns:List Int)(ck:ns.length<=63):∃(z1 z2 z7 pv:PV) (h o op:Bool) (p:Option (LL)) (R0:LL),aY R0/\(∀s∈R0,s.length<=8)/\sU op pv p/\(aw o=aw h ↔ op=true) /\
  exs c39 IN (some (.brw (ns.map .int))::none::none::none::none::none::none::none::none::none::none::none::n8)=.next (some (.brw (ns.map .int))::sv z1::sv z2::sv (.bl op)::sv (.str (aw h))::sv (.str (aw (!h)))::sv (.int (if o=true then 1 else 0))::sv z7::sv (ofR R0)::sv pv::sv (.lst (R0.map ofS))::some (.ownO false (tbl 60 R0 o) [])::n8):=by
 have ec:∀(k:Int) (h0:0<=k) (r:Rho),ev c39 (.call 15 [.bor 0,(ci k)]) (some (.brw (ns.map .int))::r)=some (.int (cellOf ns k)):=λk h0 r=>aq (vs:=[.brw (ns.map .int),.val (.int k)]) rfl (F7 38 (.brw (ns.map .int)) ns k rfl h0)
 have J:=ec 0 (by decide);have Y:=ec 1 (by decide);have U:=ec 2 (by decide);generalize cellOf ns 0=z0 at J;generalize cellOf ns 1=z1 at Y;generalize cellOf ns 2=z2 at U;obtain⟨q,Z⟩:∃m,m=z0 % 3:=⟨_,rfl⟩;obtain⟨D,a4⟩:∃m,m=z1 % 2305843009213693951:=⟨_,rfl⟩;obtain⟨sh,ao⟩:∃m,m=z2 % 60:=⟨_,rfl⟩;have ar:0<=sh/\sh<=59:=by omega
 obtain⟨op,a5⟩:∃b:Bool,b=decide (z0 / 3 % 2=1):=⟨_,rfl⟩;obtain⟨h,hh⟩:∃b:Bool,b=!decide (q=2):=⟨_,rfl⟩;obtain⟨o,ho⟩:∃b:Bool,b=(h==op):=⟨_,rfl⟩;have w3:q=0\/q=1\/q=2:=by omega
 have e7:∃C:List Int,C.length<=40/\∀r:Rho,ev c39 (.comp .rng [(ci 3),(.blt .min2 [(.blt .len [.bor 0]),(ci 27)])] [0] (.cmp .eq (.bin .mod (.bor 0) (ci 2)) (ci 1)) (.idx (.bor 1) (.bor 0))) (some (.brw (ns.map .int))::r)=some (ofL C):=by
  have e0:∃m:Int,(m<=27/\m<=ns.length/\0<=m)/\∀r:Rho,evs c39 [(ci 3),(.blt .min2 [(.blt .len [.bor 0]),(ci 27)])] (some (.brw (ns.map .int))::r)=some [.int 3,.int m]:=by
   have b2:aM .min2 [PV.int (ns.length:Nat),.int 27]=some (.int (if (27:Int)<ns.length then 27 else ns.length)):=by
    rfl
   refine⟨if (27:Int)<ns.length then 27 else ns.length,⟨by split<;>omega,by split<;>omega,by split<;>omega⟩,λr=>?_⟩;have el:ev c39 (.blt .len [.bor 0]) (some (.brw (ns.map .int))::r)=some (.int (ns.length:Nat)):=by
    rw[bu (v:=ofL ns) rfl];show some (PV.int ((ns.map PV.int).length:Nat))=_;rw[sm]
   refine bw rfl (bw ?_ rfl);rw[ev,bw el (bw (ca _ _ _) rfl),bind_some];exact b2
  obtain⟨m,hm,e0⟩:=e0;refine⟨(((range (m-3).toNat).map λ(k:Nat)=>(3:Int)+(k:Int)).filter λk=>decide (k % 2=1)).map λk=>ns.getD k.toNat 0,?_,λr=>?_⟩
  .rw[sm];refine xb (Lh _ _) ?_;rw[sm,MZ];omega
  .refine(gO (xs:=(range (m-3).toNat).map λ(k:Nat)=>(3:Int)+(k:Int)) (g:=.int) (h:=λk=>.int (ns.getD k.toNat 0)) (p:=λk=>decide (k % 2=1)) (e0 r) ?_ ?_ (λk _=>?_) (λk hk _=>?_)).trans ?_
   .show(if _ then some ((range (m-3).toNat).map λ(k:Nat)=>PV.int (3+k))else none)=_;rw[if_pos ⟨by omega,by omega,by omega,by omega⟩,Kh]
    rfl
   .rw[sm,MZ];omega
   .have:∀x y:Int,(x==y)=decide (x=y):=λ_ _=>rfl
    simp[ev,dX,this]
   .obtain⟨j,hj,rfl⟩:=mem_map.mp hk;have hj:=mem_range.mp hj;have h0:(0:Int)<=3+(j:Int):=by omega
    have h1:3+(j:Int)<(ns.length:Int):=by omega
    have h2:(3+(j:Int)).toNat<ns.length:=by omega
    simp[ev,dX,eM h0 h1,h2]
   .unfold ofL;rw[Kh]
    rfl
 obtain⟨C,bt,e7⟩:=e7;obtain⟨S,es,bS,cL⟩:=uL 33 C bt q D op;have em:=Cw 38 sh (R:=S) (by omega) bS;obtain⟨gR,h8⟩:=Au (sh:=sh) (by omega) bS;generalize sortT (S.map (mp sh))=R0 at em gR h8;have bA:∃pv p,sU op pv p/\ab defs 39 35 [.val (.int q),.val (.int D),.val (.int sh),.val (.bl op)]=some pv:=by
  by_cases w0:q=0
  .rw[w0];obtain⟨P,hP,⟨z,e2⟩|⟨z,wo,e2⟩⟩:=xk 37 D sh op ar.1 ar.2
   .exact⟨_,some P,⟨λP' e=>by cases e;exact hP,.inl ⟨z,rfl⟩⟩,e2⟩
   .exact⟨_,some P,⟨λP' e=>by cases e;exact hP,.inr ⟨z,.inr ⟨wo,P,rfl,rfl⟩⟩⟩,e2⟩
  .refine⟨_,none,⟨λP' e=>(by cases e),?_⟩,Av 37 q D sh op (by omega)⟩;cases op with
   |false=>exact .inl ⟨rfl,rfl⟩
   |true=>exact .inr ⟨rfl,.inl ⟨rfl,rfl⟩⟩
 obtain⟨pv,p,aL,ep⟩:=bA;refine⟨.int q,.int D,ofL C,pv,h,o,op,p,R0,gR,h8,aL,?_,?_⟩
 .rw[ho];cases h<;>cases op<;>decide
 have h4:ab defs 39 4000 []≠none:=by
  rw[ab]
  decide
 refine jp (v:=.int q) ?_ (jp (v:=.int D) ?_ (jp (v:=.bl op) ?_ (jp (v:=.str (aw h)) ?_ (jp (v:=.str (aw (!h))) ?_ (jp (v:=.int (if o=true then 1 else 0)) ?_ (jp (e7 _) (jp (v:=ofR R0) ?_ (jp (v:=pv) ?_ (jp (v:=.lst (R0.map ofS)) ?_ ?_)))))))))
 .have z:∀r:Rho,ev c39 (.bin .mod (.call 15 [.bor 0,(ci 0)]) (ci 3)) (some (.brw (ns.map .int))::r)=some (.int q):=λr=>by
   rw[cJ (J _) (ca _ _ _),e_,if_pos (by decide),Z]
  exact z _
 .have z:∀r:Rho,ev c39 (.bin .mod (.call 15 [.bor 0,(ci 1)]) (ci 2305843009213693951)) (some (.brw (ns.map .int))::r)=some (.int D):=λr=>by
   rw[cJ (Y _) (ca _ _ _),e_,if_pos (by decide),a4]
  exact z _
 .have z:∀r:Rho,ev c39 (.cmp .eq (.bin .mod (.bin .fdiv (.call 15 [.bor 0,(ci 0)]) (ci 3)) (ci 2)) (ci 1)) (some (.brw (ns.map .int))::r)=some (.bl op):=λr=>by
   refine(eU (x:=.int (z0 / 3 % 2)) (y:=.int 1) ?_ (ca _ _ _)).trans ?_
   .rw[cJ (vP (x:=z0) (k:=3) (J _) (by decide)) (ca _ _ _),e_,if_pos (by decide)]
   .rw[a5]
    rfl
  exact z _
 .have z:∀r:Rho,ev c39 (.idx (.lst [(cs "moth"),(cs "moth"),(cs "weaver")]) (.bor 1)) (some (.brw (ns.map .int))::sv (.int q)::r)=some (.str (aw h)):=λr=>by
   rw[iT (x:=.lst [.str "moth",.str "moth",.str "weaver"]) (y:=.int q) rfl rfl,hh];rcases w3 with e|e|e<;>rw[e]<;>rfl
  exact z _
 .have z:∀r:Rho,ev c39 (.idx (.lst [(cs "weaver"),(cs "weaver"),(cs "moth")]) (.bor 1)) (some (.brw (ns.map .int))::sv (.int q)::r)=some (.str (aw (!h))):=λr=>by
   rw[iT (x:=.lst [.str "weaver",.str "weaver",.str "moth"]) (y:=.int q) rfl rfl,hh];rcases w3 with e|e|e<;>rw[e]<;>rfl
  exact z _
 .rw[ho];cases h<;>cases op<;>rfl
 .have z:∀(x4 x5 x6:Option MV) (r:Rho),ev c39 (.call 29 [(.call 34 [.bor 7,.bor 1,.bor 2,.bor 3]),(.bin .mod (.call 15 [.bor 0,(ci 2)]) (ci 60))]) (some (.brw (ns.map .int))::sv (.int q)::sv (.int D)::sv (.bl op)::x4::x5::x6::sv (ofL C)::r)=some (ofR R0):=λx4 x5 x6 r =>
   aq (vs:=[.val (.lst (S.map ofS)),.val (.int sh)]) (jN (aq (vs:=[.val (ofL C),.val (.int q),.val (.int D),.val (.bl op)]) rfl es) (DF (by rw[cJ (U _) (ca _ _ _),e_,if_pos (by decide),ao]) rfl)) em
  exact z _ _ _ _
 .have z:∀(r:Rho),ev c39 (.call 35 [.bor 1,.bor 2,(.bin .mod (.call 15 [.bor 0,(ci 2)]) (ci 60)),.bor 3]) (some (.brw (ns.map .int))::sv (.int q)::sv (.int D)::sv (.bl op)::r)=some pv:=λr =>
   aq (vs:=[.val (.int q),.val (.int D),.val (.int sh),.val (.bl op)]) (sA rfl (sA rfl (DF (by rw[cJ (U _) (ca _ _ _),e_,if_pos (by decide),ao]) rfl))) ep
  exact z _
 .rfl
 .rw[al,ex,bw (v:=.tup [.int 60,ofR R0]) rfl (bw (v:=.str (aw o)) (by
   rw[iT (x:=.lst [.str "weaver",.str "moth"]) (y:=.int (if o=true then 1 else 0)) rfl rfl];cases o<;>rfl) rfl)]
  show MM.R.andThen (if yK _ 11=true/\_ then _ else _) _=_;rw[if_pos ⟨rfl,h4⟩]
  rfl
noncomputable abbrev Ob(i:Nat):Stmt:=(fb (L 13)).getD i (.Pass ⟨0,0,0,0⟩)
noncomputable abbrev J2:ME:=.slice (.bor 0) (ci 3) (ci 43)
noncomputable abbrev IP:ME:=.idx (.lst [(cs "weaver"),(cs "moth")]) (.bor 6)
noncomputable abbrev AJ(K:M5)(C CF:Addr):TS:=wb (CW K (tV K c39 J2)) (db 16) (v0 K C CF)
noncomputable abbrev Gr(K:M5)(C CF:Addr):TS:=fQ (λD σ H=>Eg ir σ H λu H'=>D.nx (σ.set 14 (some u)) H') (fQ (sV K 15 (.blt .tupleOf [.bor 10])) (fQ (AJ K C CF) (rg (tC (.bl true)))))
noncomputable abbrev AK(K:M5):TS:=kZ (tVB K c39 (.bor 3)) (fQ (pX (tV K c39 (.call 38 [.bor 9,.bor 8])) (xM K 2 (lX (db 13) (lX (db 9) xL)))) (sV K 8 (.call 36 [.bor 8,.bor 4,.bor 13]))) iy
noncomputable abbrev IQ(K:M5)(CF:Addr):TS:=λD σ H=>CZ CF (Gp K CF (ab defs 37)) [] E0 (cZ (cA 4) (cZ (cA 8) (cZ (tV K c39 IP) (cZ (cA 9) ir)))) σ H λu H'=>D.nx (σ.set 12 (some u)) H'
noncomputable abbrev Gs(K:M5)(C CF:Addr):TS:=fQ (IQ K CF) (fQ (λD σ H=>tC .non σ H λu H'=>D.nx (σ.set 13 (some u)) H') (fQ (AK K) (Gr K C CF)))
section
variable{X:Cx}
def IR (l:Fr X jk.names mC 39) {C CP CF fI U fS:Addr}{q z J:FuncData} (hC:IsC X.K C) (kF:KFo X.K CP CF fI) (mF:X.mg ("Follower":Str)=some (.ref CF)) (bI:aW X.K q ["self","hand","rest","turn","paper"] []) (FI:cT X.prog X.w X.K X.mg X.base CX0 38 fI q ["self","hand","rest","turn","paper"] (Gp X.K CF (ab defs 37)))
  (mA:X.mg ("_law_asks":Str)=some (.ref U)) (kA:PySem.W.keepIn X.K (.ref U)=true) (bA:aW X.K z ["follower","table","waits","free"] []) (FA:cT X.prog X.w X.K X.mg X.base CX0 39 U z ["follower","table","waits","free"] (CL X.K CF))
  (MS:jb X.K CF "sees" fS) (bS:aW X.K J ["self","hand","hole"] []) (FS:cT X.prog X.w X.K X.mg X.base CX0 39 fS J ["self","hand","hole"] (AD X.K CF (ab defs 38))):PSs X [L 11,L 12,L 13,L 14,L 15,L 16,L 17] (Gs X.K C CF):=by
 have gF:Gl X "Follower":=eS (by rw[l.s];decide +kernel);have hn:∀{i:Nat}{x:Str}{pos:Pos},jk.names[i]?=some x->g6 (ag mC) x=true->PG X (.Name x pos) (db i):=λ{i x pos} h1 h2=>iX l.d.nd (by rw[l.nn];exact h1) (by have:=ip h2;rw[<- l.s]at this;exact this) (.inl (l.d.fn _))
 have Y:PS X (L 11) (IQ X.K CF):=l.set (i:=12) (x:="follower") rfl (by decide +kernel) (p_ kF.make FI l.g.room gF mF bI .nil eW (aH (l.nm (i:=4) (x:="mine") (by decide +kernel)) (aH (l.nm (i:=8) (x:="held") (by decide +kernel)) (aH (l.v (by kernel_rfl)) (aH (l.nm (i:=9) (x:="paper") (by decide +kernel)) bO))))) (aK rfl _ _ _);have Z:PS X (L 12) (λD σ H=>tC .non σ H λu H'=>D.nx (σ.set 13 (some u)) H'):=l.set (i:=13) (x:="waits") rfl (by decide +kernel) kX (aK rfl _ _ _);have o0:PS X (Ob 0) (pX (tV X.K c39 (.call 38 [.bor 9,.bor 8])) (xM X.K 2 (lX (db 13) (lX (db 9) xL)))):=xN (l.v (by kernel_rfl)) (sY l.g.calm (iA (hn (i:=13) (x:="waits") rfl (by decide +kernel)) (iA (hn (i:=9) (x:="paper") rfl (by decide +kernel)) pW)));have o1:PS X (Ob 1) (sV X.K 8 (.call 36 [.bor 8,.bor 4,.bor 13])):=l.set (i:=8) (x:="held") rfl (by decide +kernel) (l.v (by kernel_rfl)) (aK rfl _ _ _);have ao:PS X (L 13) (AK X.K):=iz (l.t (by kernel_rfl)) (show PSs X [Ob 0,Ob 1] _ from aD o0 (bx o1)) eX;have ar:PS X (L 14) (λD σ H=>Eg ir σ H λu H'=>D.nx (σ.set 14 (some u)) H'):=l.set (i:=14) (x:="taken") rfl (by decide +kernel) (tD bO) (aK rfl _ _ _);have aL:PS X (L 15) (sV X.K 15 (.blt .tupleOf [.bor 10])):=l.set (i:=15) (x:="left") rfl (by decide +kernel) (l.v (by kernel_rfl)) (aK rfl _ _ _);have a0:PS X (L 16) (AJ X.K C CF):=pY l.d.own l.g.calm (mE (l.v (by kernel_rfl))) (hn (i:=16) (x:="cell") rfl (by decide +kernel)) (show PSs X [F0] _ from Gq l hC kF.cls mA kA bA FA MS bS FS);exact aD Y (aD Z (aD ao (aD ar (aD aL (aD a0 (bx (gU xE)))))))
end
section
variable{K:M5}{CF:Addr}{R0 Hd:LL}{h o:Bool}{w:Option Int}{p:Option (LL)}{u8 u9 u10 u15:V}{sa:Addr}{ns:List Int}{aT lT aF d:Addr}{H:Hp}{q1 q2 q3 q7:Option V}{b:Int}
def CS{C:Addr}(hC:IsC K C)(g:aY R0)(hp:∀P,p=some P->OkP P)(hb:b=if o=true then 1 else 0)(j:J49 K CF R0 Hd Hd (lft o 0 R0 []) h o w p [] [] u8 u9 u10 u15 sa ns aT lT aF d H)(gH:aY Hd)(h8:∀s∈Hd,s.length<=8){z16 z17 z18 z19 z20:Option V}{D:jq}(q:∀σ H',D.nx σ H') :
  AJ K C CF D (lV (some (.ref sa)) q1 q2 q3 q7 h b u8 u9 u10 aT aF w d u15 [z16,z17,z18,z19,z20]) H:=by
 have ar:(n_ ns (some 3) (some 43)).length<=40:=by have:=zZ ns (a:=3) (b:=43) (by decide) (by decide);omega
 refine⟨[aT,lT,aF,d],[some (.brw (ns.map .int)),none,none,none,none,none,none,none,none,none,none,none,none,none,none,none,none,none,none,none,none],ofL (n_ ns (some 3) (some 43)),j.here,.brw ((be H _).seq j.b.sc) (Reps.of_ints _) (.skip (.skip (.skip (.skip (.skip (.skip (.skip (.skip (.skip (.skip (.skip (.skip (.skip (.skip (.skip (.skip (.skip (.skip (.skip (.skip .nil)))))))))))))))))))),by simp[ev],λu H1 s1 r1=>?_⟩;generalize n_ ns (some 3) (some 43)=cs at ar r1;have r1:Rep K (aj H1 [aT,lT,aF,d]) (.lst (cs.map .int)) u:=r1;rw[Rep]at r1;obtain⟨a,us,rfl,sq,rs⟩:=r1;have eu:=Reps.ints rs;subst eu;have j0:=j.mono s1;have j1:J49 K CF R0 Hd Hd (lft o 0 R0 []) h o w p [] [] u8 u9 u10 u15 a cs aT lT aF d H1:=⟨j0.nd,⟨j0.b.rb,j0.b.rp,j0.b.rh,j0.b.rl,sq⟩,j0.tb,j0.fo,j0.dd⟩;refine⟨a,rfl,⟨_,(be _ _).seq sq⟩,?_⟩;refine⟨λi m a0 H'=>m=cs.length-i/\i<=cs.length/\∃Hd w t u8 u15 lT Z z J U Y,a0=lV (some (.ref sa)) q1 q2 q3 q7 h b u8 u9 u10 aT aF w d u15 [Z,z,J,U,Y]/\J49 K CF R0 Hd Hd (lft o 0 R0 t) h o w p t t u8 u9 u10 u15 a cs aT lT aF d H'/\aY Hd/\(∀s∈Hd,s.length<=8)/\t.Nodup/\t.length<=i,⟨_,rfl,Ki _,Hd,w,[],u8,u15,lT,_,_,_,_,_,rfl,j1,gH,h8,KQ,pb 0⟩,?_⟩;rintro i m a0 H' ⟨rfl,hi,cP,w',t',a4,a1,cS,Z,z,J,U,Y,rfl,j',a5,a6,a7,b2⟩;have sc:=(be H' _).seq j'.b.sc;by_cases a2:i<cs.length
 .right;have ei:(cs.map V.int)[i]?=some (.int cs[i]):=by rw[Kb,Kc a2];rfl
  refine⟨⟨_,_,sc,ei⟩,λa3 H2=>∃m',m'<cs.length-i/\(m'=cs.length-(i+1)/\i+1<=cs.length/\∃Hd w t u8 u15 lT Z z J U Y,a3=lV (some (.ref sa)) q1 q2 q3 q7 h b u8 u9 u10 aT aF w d u15 [Z,z,J,U,Y]/\J49 K CF R0 Hd Hd (lft o 0 R0 t) h o w p t t u8 u9 u10 u15 a cs aT lT aF d H2/\aY Hd/\(∀s∈Hd,s.length<=8)/\t.Nodup/\t.length<=i+1),λa3 H2 w=>w,λy H2 yl=>?_⟩;obtain⟨rfl,yl⟩:=yl;have ey:=yl _ sc;rw[ei]at ey;cases ey;show v0 K C CF _ (lV (some (.ref sa)) q1 q2 q3 q7 h b a4 u9 u10 aT aF w' d a1 [some (.int cs[i]),z,J,U,Y]) H2;exact CO hC g hp hb j' a5 a6 a7 (by omega) λbA w2 t2 v8 bK bP H3 c5 c6 df dh j2 bS bT bW b6=>⟨_,by omega,rfl,a2,bA,w2,t2,v8,bK,bP,_,_,_,_,_,rfl,j2,bS,bT,bW,by omega⟩
 .left;have:i=cs.length:=by omega
  subst this;exact⟨⟨_,sc,by rw[sm];exact pb _⟩,q _ H'⟩
end
def Gu{op:Bool}{pv:PV}{p:Option (LL)}(Y:sU op pv p){R0:LL}(g:aY R0)(h8:∀s∈R0,s.length<=8)(h:Bool):∃w q,aY q/\(∀s∈q,s.length<=8)/\(op=true->ab defs 37 13 [.val pv,.val (ofR R0),.val (.str (aw h))]=some (mvV w q (cK p))/\ab defs 39 38 [.val pv,.val (ofR R0)]=some (.tup [bV w,cK p])/\q=bhd h R0 w)/\(op=false->w=none/\q=R0/\cK p=pv):=by
 obtain⟨_,⟨e,D⟩|⟨e,⟨D,U⟩|⟨J,P,D,U⟩⟩⟩:=Y
 .exact⟨none,R0,g,h8,λz=>absurd (e.symm.trans z) (by decide),λ_=>⟨rfl,rfl,D.symm⟩⟩
 .subst D U;exact⟨hvy R0,bhd h R0 (hvy R0),dS g _,kT h8 _ _,λ_=>⟨Aq 32 R0 g h,xi 36 R0 g h8,rfl⟩,λz=>absurd (e.symm.trans z) (by decide)⟩
 .subst D U;exact⟨J,bhd h R0 J,dS g _,kT h8 _ _,λ_=>⟨Ar 32 R0 g h J P,xj 36 R0 J P,rfl⟩,λz=>absurd (e.symm.trans z) (by decide)⟩
structure C49(K:M5)(CF:Addr)(R0 Hd Hf:LL)(h o:Bool)(w:Option Int)(pv:PV)(p:Option (LL))(u8 u9 u10:V)(sa:Addr)(ns:List Int)(aT lT aF:Addr)(H:Hp):Prop where
 nd:[aT,lT,aF].Nodup
 rb:Rep K (aj H [aT,lT,aF]) (.lst (R0.map ofS)) u10
 rp:Rep K (aj H [aT,lT,aF]) pv u9
 rh:Rep K (aj H [aT,lT,aF]) (ofR Hd) u8
 sc:SqL K (aj H [aT,lT,aF]) sa (ns.map V.int)
 tb:dH K (λ_=>none) [aT,lT,aF] H (tbl 60 R0 o) [] aT lT
 fo:iw K CF [aT,lT,aF] H aF (aw h) w Hf (cK p)
section
variable{K:M5}{CF:Addr}{R0 Hd Hf:LL}{h o op:Bool}{w:Option Int}{pv:PV}{p:Option (LL)}{u8 u9 u10:V}{sa:Addr}{ns:List Int}{aT lT aF:Addr}{H H':Hp}{q1 q2 q7 z14 z15 z16 z17 z18 z19 z20:Option V}{b:Int}
theorem C49.mono(j:C49 K CF R0 Hd Hf h o w pv p u8 u9 u10 sa ns aT lT aF H)(s:af H H'):C49 K CF R0 Hd Hf h o w pv p u8 u9 u10 sa ns aT lT aF H':=
 ⟨j.nd,Rep.mono (ak s) _ j.rb,Rep.mono (ak s) _ j.rp,Rep.mono (ak s) _ j.rh,(ak s).seq j.sc,j.tb.move (B':=λ_=>none) (ak s) (λ_=>s _ _) (λ_=>s _ _) j.tb.aO j.tb.lO rfl rfl,j.fo.mv s⟩
theorem C49.here(j:C49 K CF R0 Hd Hf h o w pv p u8 u9 u10 sa ns aT lT aF H):∀a∈[aT,lT,aF],H a≠none:=λa ha=>by
 obtain⟨C,dx,gs,h1,_⟩:=j.tb.ob;obtain⟨us,h2,_⟩:=j.tb.li;obtain⟨_,_,_,h3,_⟩:=j.fo;simp only[pe,Kf,Ko]at ha;rcases ha with rfl|rfl|rfl
 .rw[h1];simp
 .rw[h2];simp
 .rw[h3];simp
noncomputable def Gv(sa:Addr)(q1 q2 q7:Option V)(op h:Bool)(b:Int)(u8 u9 u10:V)(aT:Addr)(z12 z13 z14 z15 z16 z17 z18 z19 z20:Option V):L2.St:=[some (.ref sa),q1,q2,some (.bl op),some (.str (aw h)),some (.str (aw (!h))),some (.int b),q7,some u8,some u9,some u10,some (.ref aT),z12,z13,z14,z15,z16,z17,z18,z19,z20]
def AL{C:Addr}(hC:IsC K C)(g:aY R0)(hp:∀P,p=some P->OkP P)(hb:b=if o=true then 1 else 0)(j:C49 K CF R0 Hd Hd h o w (cK p) p u8 u9 u10 sa ns aT lT aF H)(gH:aY Hd)(h8:∀s∈Hd,s.length<=8){D:jq}(q:∀H',D.rt (.bl true) H') :
  Gr K C CF D (Gv sa q1 q2 q7 op h b u8 u9 u10 aT (some (.ref aF)) (some (gT w)) z14 z15 z16 z17 z18 z19 z20) H:=by
 refine⟨by decide,λd hd=>?_⟩;have J:=j.here;have s1:af H (upd H d (.lst [])):=bC hd _;have Y:(upd H d (.lst [])) d=some (.lst (([]:List Int).map V.int)):=aA;generalize upd H d (.lst [])=H1 at s1 Y;have U:af (aj H [aT,lT,aF]) (aj H1 [aT,lT,aF,d]):=bi s1 λy Z=>by
  simp only[pe,Kf,Ko]at Z ⊢;rcases Z with rfl|rfl|rfl|rfl
  .exact .inl (.inl rfl)
  .exact .inl (.inr (.inl rfl))
  .exact .inl (.inr (.inr rfl))
  .exact .inr hd
 have nd:[aT,lT,aF,d].Nodup:=by
  have n1:=j.nd;have n2:aT≠d:=λz=>J aT (.head _) (z▸hd)
  have n3:lT≠d:=λz=>J lT (by simp) (z▸hd)
  have n4:aF≠d:=λz=>J aF (by simp) (z▸hd)
  simp only[KA,pe,Kf,not_or,Ko,KQ,LM,M1]at n1 ⊢
  grind
 have rb:=Rep.mono U _ j.rb;have tb:=j.tb.move (B':=λ_=>none) (O':=[aT,lT,aF,d]) U (λ_=>s1 _ _) (λ_=>s1 _ _) (.head _) (by simp) rfl rfl;have here:∀a∈[aT,lT,aF,d],H1 a≠none:=λa ha=>by
  simp only[pe,Kf,Ko]at ha;rcases ha with rfl|rfl|rfl|rfl
  .exact λz=>J _ (by simp) (s1.free z)
  .exact λz=>J _ (by simp) (s1.free z)
  .exact λz=>J _ (by simp) (s1.free z)
  .rw[Y];simp
 refine⟨[aT,lT,aF,d],[none,none,none,none,none,none,none,none,none,none,sv (.lst (R0.map ofS)),none,none,none,none,none,none,none,none,none,none],ofR R0,here,.skip (.skip (.skip (.skip (.skip (.skip (.skip (.skip (.skip (.skip (.val rb (.skip (.skip (.skip (.skip (.skip (.skip (.skip (.skip (.skip (.skip .nil)))))))))))))))))))),?_,λu15 H2 s2 rl=>?_⟩
 .rw[bu (v:=.lst (R0.map ofS)) rfl]
  rfl
 have j2:J49 K CF R0 Hd Hd (lft o 0 R0 []) h o w p [] [] u8 u9 u10 u15 sa ns aT lT aF d H2:=⟨nd,⟨Rep.mono (ak s2) _ rb,Rep.mono (U.trans (ak s2)) _ j.rp,Rep.mono (U.trans (ak s2)) _ j.rh,rl,(U.trans (ak s2)).seq j.sc⟩,tb.move (B':=λ_=>none) (ak s2) (λ_=>s2 _ _) (λ_=>s2 _ _) tb.aO tb.lO rfl rfl,(j.fo.to U (λ_=>s1 _ _)).mv s2,s2 _ _ Y⟩;exact CS hC g hp hb j2 gH h8 λσ H'=>q H'
def CT{C:Addr}(hC:IsC K C)(g:aY R0)(hp:sU op pv p)(hb:b=if o=true then 1 else 0)(h8:∀s∈R0,s.length<=8){z:LL}(gR:aY z)(ao:∀s∈z,s.length<=8)(k1:op=true->ab defs 39 38 [.val pv,.val (ofR R0)]=some (.tup [bV w,cK p])/\z=bhd h R0 w)(k2:op=false->w=none/\z=R0/\cK p=pv)
  (j:C49 K CF R0 R0 z h o w pv p u8 u9 u10 sa ns aT lT aF H) {D:jq} (q:∀H',D.rt (.bl true) H') :
  fQ (AK K) (Gr K C CF) D (Gv sa q1 q2 q7 op h b u8 u9 u10 aT (some (.ref aF)) (some .non) z14 z15 z16 z17 z18 z19 z20) H:=by
 refine⟨[aT,lT,aF],[none,none,none,sv (.bl op),none,none,none,none,none,none,none,none,none,none,none,none,none,none,none,none,none],op,j.here,.skip (.skip (.skip (.val (c9 _ _) (.skip (.skip (.skip (.skip (.skip (.skip (.skip (.skip (.skip (.skip (.skip (.skip (.skip (.skip (.skip (.skip (.skip .nil)))))))))))))))))))),rfl,λH1 s1=>?_⟩;have Z:=j.mono s1;cases op with
 |false =>
  obtain⟨e1,e2,e3⟩:=k2 rfl;subst e1 e2 e3;exact mD (AL hC g hp.1 hb Z g h8 q)
 |true =>
  obtain⟨e1,e2⟩:=k1 rfl;refine sS ⟨[aT,lT,aF],[none,none,none,none,none,none,none,none,sv (ofR R0),sv pv,none,none,none,none,none,none,none,none,none,none,none],_,Z.here,.skip (.skip (.skip (.skip (.skip (.skip (.skip (.skip (.val Z.rh (.val Z.rp (.skip (.skip (.skip (.skip (.skip (.skip (.skip (.skip (.skip (.skip (.skip .nil)))))))))))))))))))),aq (vs:=[.val pv,.val (ofR R0)]) rfl e1,λu H2 s2 r2=>?_⟩;have U:=Z.mono s2;rw[Rep]at r2;obtain⟨la,us,rfl,a0,J⟩:=r2;rw[Reps]at J;obtain⟨v1,r3,rfl,a1,J⟩:=J;rw[Reps]at J;obtain⟨v2,r4,rfl,a2,J⟩:=J;rw[Reps]at J;subst J;have e4:=qU a1;subst e4;refine⟨la,_,rfl,SqT.of (be _ _ _ _ a0),rfl,_,_,rfl,_,_,rfl,rfl,?_⟩;have j3:C49 K CF R0 R0 z h o w (cK p) p u8 v2 u10 sa ns aT lT aF H2:=⟨U.nd,U.rb,a2,U.rh,U.sc,U.tb,U.fo⟩;refine⟨[aT,lT,aF],[none,none,none,none,sv (.str (aw h)),none,none,none,sv (ofR R0),none,none,none,none,sv (bV w),none,none,none,none,none,none,none],_,j3.here,.skip (.skip (.skip (.skip (.val (eE (K:=K) _ _) (.skip (.skip (.skip (.val j3.rh (.skip (.skip (.skip (.skip (.val (mT w) (.skip (.skip (.skip (.skip (.skip (.skip (.skip .nil)))))))))))))))))))),aq (vs:=[.val (ofR R0),.val (.str (aw h)),.val (bV w)]) rfl (lU 37 R0 g h w),λa4 H3 s3 r8=>?_⟩;have Y:=j3.mono s3;have j5:C49 K CF R0 z z h o w (cK p) p a4 v2 u10 sa ns aT lT aF H3:=⟨Y.nd,Y.rb,Y.rp,by rw[e2];exact r8,Y.sc,Y.tb,Y.fo⟩;exact AL hC g hp.1 hb j5 gR ao q
end
section
variable{K:M5}{CF:Addr}{R0:LL}{h o op:Bool}{pv:PV}{p:Option (LL)}{u8 u9 u10:V}{sa:Addr}{ns:List Int}{aT lT:Addr}{H:Hp}{q1 q2 q7 z12 z13 z14 z15 z16 z17 z18 z19 z20:Option V}{b:Int}
def Gw{C:Addr}(hC:IsC K C)(g:aY R0)(h8:∀s∈R0,s.length<=8)(hp:sU op pv p)(hb:b=if o=true then 1 else 0)(ho:aw o=aw h ↔ op=true)
  (rb:Rep K (aj H [aT,lT]) (.lst (R0.map ofS)) u10) (rp:Rep K (aj H [aT,lT]) pv u9) (rh:Rep K (aj H [aT,lT]) (ofR R0) u8) (sc:SqL K (aj H [aT,lT]) sa (ns.map V.int)) (tb:dH K (λ_=>none) [aT,lT] H (tbl 60 R0 o) [] aT lT) {D:jq} (q:∀H',D.rt (.bl true) H') :
  Gs K C CF D (Gv sa q1 q2 q7 op h b u8 u9 u10 aT z12 z13 z14 z15 z16 z17 z18 z19 z20) H:=by
 obtain⟨w,R1,gR,ao,k1,k2⟩:=Gu hp g h8 h;refine⟨_,rfl,_,rfl,[],[none,none,none,none,none,none,sv (.int b),none,none,none,none,none,none,none,none,none,none,none,none,none,none],.str (aw o),no0,.skip (.skip (.skip (.skip (.skip (.skip (.val (bB (K:=K) _ b) (.skip (.skip (.skip (.skip (.skip (.skip (.skip (.skip (.skip (.skip (.skip (.skip (.skip (.skip .nil)))))))))))))))))))),?_,λut H1 s1 rt=>?_⟩
 .rw[iT (x:=.lst [.str "weaver",.str "moth"]) (y:=.int b) rfl rfl,hb];cases o<;>rfl
 rw[Rep]at rt;subst rt;refine⟨_,rfl,λx dx nx nd ne=>?_⟩;have s2:af H1 (upd (upd H1 dx (.own x)) x (.ins CF dx [])):=λb u eb=>by rw[az (bp eb nx),az (bp eb nd)];exact eb
 have ex:(upd (upd H1 dx (.own x)) x (.ins CF dx [])) x=some (.ins CF dx []):=aA;generalize upd (upd H1 dx (.own x)) x (.ins CF dx [])=G at s2 ex;have hx:H x=none:=s1.free nx;have sG:af H G:=s1.trans s2;have J:af (aj H [aT,lT]) (aj G [aT,lT,x]):=bi sG λy hy=>by
  simp only[pe,Kf,Ko]at hy ⊢;rcases hy with rfl|rfl|rfl
  .exact .inl (.inl rfl)
  .exact .inl (.inr rfl)
  .exact .inr hx
 have U:=tb.move (B':=λ_=>none) (O':=[aT,lT,x]) J (λ_=>sG _ _) (λ_=>sG _ _) (by simp) (by simp) rfl rfl;obtain⟨C1,bK,bP,e1,_⟩:=U.ob;obtain⟨bT,e2,_⟩:=U.li;have here:∀a∈[aT,lT,x],G a≠none:=λa ha=>by
  simp only[pe,Kf,Ko]at ha;rcases ha with rfl|rfl|rfl
  .rw[e1];simp
  .rw[e2];simp
  .rw[ex];simp
 have Y:aT≠x/\lT≠x:=by
  obtain⟨_,_,_,f1,_⟩:=tb.ob;obtain⟨_,f2,_⟩:=tb.li;exact⟨λz=>(by rw[z,hx]at f1;cases f1),λz=>(by rw[z,hx]at f2;cases f2)⟩
 refine⟨x,dx,aw h,aw o,u8,u9,R0,R1,pv,cK p,w,[aT,lT,x],rfl,ex,by simp,here,Rep.mono J _ rh,Rep.mono J _ rp,λe=>(k1 (ho.mp e)).1,λe=>?_,λH2 fo kp=>⟨rfl,?_⟩⟩
 .have:op=false:=by
   cases op with
   |false=>rfl
   |true=>exact absurd (ho.mpr rfl) e
  exact k2 this
 have Z:af (aj G [aT,lT,x]) (aj H2 [aT,lT,x]):=iW (by simp) kp;have j:C49 K CF R0 R0 R1 h o w pv p u8 u9 u10 sa ns aT lT x H2:=⟨by
  have n1:=tb.ne;simp only[KA,pe,Kf,not_or,Ko,KQ,LM,M1]
  grind,Rep.mono (J.trans Z) _ rb,Rep.mono (J.trans Z) _ rp,Rep.mono (J.trans Z) _ rh,(J.trans Z).seq sc,U.move (B':=λ_=>none) Z (λw z=>kp aT w Y.1 z) (λw z=>kp lT w Y.2 z) (by simp) (by simp) rfl rfl,fo⟩
 exact CT hC g hp hb h8 gR ao (λe=>(k1 e).2) k2 j q
end
def uncons{α:Type}{l:List α}{n:Nat}(h:l.length=n+1):∃a t,l=a::t/\t.length=n:=by
 cases l with
 |nil=>cases h
 |cons a t=>exact⟨a,t,rfl,Nat.succ.inj h⟩
def scL:dk jk.names ["script"] (ag mC):=⟨rfl,rfl,rfl,by decide +kernel,rfl,by decide +kernel,by decide +kernel⟩
def IS (K:M5):Prop:=∃q CF z D,KPl K q z/\KFo K q CF D/\(∃fd,FnD K "__init__" "Player.__init__" bv z fd/\aW K fd ["self","hand"] [])/\(∃fd,FnD K "__init__" "Follower.__init__" aV D fd/\aW K fd ["self","hand","rest","turn","paper"] []) /\
 (∃f fd,jb K CF "stand_at" f/\FnD K "stand_at" "Follower.stand_at" aP f fd/\aW K fd ["self","move"] [])/\(∃f fd,jb K CF "pick" f/\FnD K "pick" "Follower.pick" bf f fd/\aW K fd ["self","table"] [])/\∃f fd,jb K CF "sees" f/\FnD K "sees" "Follower.sees" bg f fd/\aW K fd ["self","hand","hole"] []
def AM {P:Program}{w:World}{K:M5}{mg:Str->Option Value}{base:Heap}{fa:Addr}{fd:FuncData} (Y:mz tab K mg defs) (D:FnD K "law" "law" mC fa fd)
  (hA:∃f fd,mg ("_law_asks":Str)=some (.ref f)/\FnD K "_law_asks" "_law_asks" a_ f fd/\aW K fd ["follower","table","waits","free"] [])
  (hK:IS K) (hm:∀{x:Str}{u:Value},PySem.W.nsIn K mainGlobals x=some (some u)->mg x=some u):cT P w K mg base CX0 40 fa fd ["script"] (sR K):=by
 obtain⟨c0,d0,k0,o0,m0,a0,Z,t1,a1,sl,lk,a7,rfl⟩:=D.it;refine iB lk a7 scL (λvs H Q E h=>?_) (λA outer s H vs Q E hr h=>?_)
 .obtain⟨a,ns,rfl,_⟩:=h
  rfl
 .obtain⟨a,ns,rfl,bt,hS,hq⟩:=h;obtain⟨fA,eb,mA,DA,bA⟩:=hA;obtain⟨CP,CF,fP,fI,kP,kF,⟨ed,DP,bP⟩,⟨eg,DI,bI⟩,⟨fT,eh,MT,DT,bT⟩,⟨fK,ei,MK,DK,bK⟩,fS,en,MS,DS,bS⟩:=hK;have mP:=hm kP.nm;have mF:=hm kF.nm;obtain⟨C,hC,_⟩:=Y.ini;have l:Fr (dz CX0 P w K mg base jk.names "law" (ag mC) fa Z A outer s H E).nox jk.names mC 39:=Fr.of Y scL hr;have FI:=IE (P:=P) (w:=w) (base:=base) (n:=36) Y kP mP DP bP kF MT DT bT DI;have FA:=II (P:=P) (w:=w) (base:=base) (n:=35) Y kP mP kF MK DK bK DA;have FS:=IG (P:=P) (w:=w) (base:=base) (mg:=mg) (n:=37) Y kF MT DT bT DS;have eB:bo mC=[L 0,L 1,L 2,L 3,L 4,L 5,L 6,L 7,L 8,L 9,L 10,L 11,L 12,L 13,L 14,L 15,L 16,L 17]:=rfl;rw[eB];have hp:PSs (dz CX0 P w K mg base jk.names "law" (ag mC) fa Z A outer s H E).nox [L 0,L 1,L 2,L 3,L 4,L 5,L 6,L 7,L 8,L 9,L 10,L 11,L 12,L 13,L 14,L 15,L 16,L 17] (tSk K c39 IN (Gs K C CF)):=
   dW (l.s1 (by kernel_rfl)) (dW (l.s1 (by kernel_rfl)) (dW (l.s1 (by kernel_rfl)) (dW (l.s1 (by kernel_rfl)) (dW (l.s1 (by kernel_rfl)) (dW (l.s1 (by kernel_rfl)) (dW (l.s1 (by kernel_rfl)) (dW (l.s1 (by kernel_rfl)) (dW (l.s1 (by kernel_rfl)) (dW (l.s1 (by kernel_rfl)) (dW (l.s1 (by kernel_rfl)) (Go (IR l hC kF mF bI FI mA DA.kp bA FA MS bS FS))))))))))))
  refine⟨_,hp.nox,?_⟩;obtain⟨y1,y2,y7,pv,hh,o,op,p,R0,g,h8,ar,ho,eA⟩:=CQ ns bt;refine⟨H,[],[],_,_,n5 (args:=[.brw (ns.map .int)]) (λa ha=>by cases ha) (.cons ⟨a,_,rfl,hS,Reps.of_ints ns⟩ .nil),eA,λσ H2 U q k2=>?_⟩;have l0:σ.length=20+1:=q.len.symm;have keep:af H (aj H2 U):=xq q.keep λx hx=>(k2.new x hx).resolve_left (by simp)
  have sc:=keep.seq hS;obtain⟨u0,e0,a',us,rfl,_⟩:=q.slot 0 _ rfl;obtain⟨u3,e3,r3⟩:=q.slot 3 _ rfl;obtain⟨u4,e4,r4⟩:=q.slot 4 _ rfl;obtain⟨u5,e5,r5⟩:=q.slot 5 _ rfl;obtain⟨u6,e6,r6⟩:=q.slot 6 _ rfl;obtain⟨u8,e8,r8⟩:=q.slot 8 _ rfl;obtain⟨u9,e9,r9⟩:=q.slot 9 _ rfl;obtain⟨u10,b0,a5⟩:=q.slot 10 _ rfl;obtain⟨f2,b1,aT,lT,rfl,oa⟩:=q.slot 11 _ rfl;have s0:=(k2.brw 0 _ rfl rfl).2;have r3:Rep K (aj H2 U) (.bl op) u3:=r3;have r4:Rep K (aj H2 U) (.str (aw hh)) u4:=r4;have r5:Rep K (aj H2 U) (.str (aw (!hh))) u5:=r5;have r6:Rep K (aj H2 U) (.int (if o=true then 1 else 0)) u6:=r6;rw[Rep]at r3;rw[Rep]at r4;rw[Rep]at r5;rw[Rep]at r6;subst r3 r4 r5 r6;have J:af (aj H2 U) (aj H2 [aT,lT]):=bi (af.refl H2) λy hy=>by
   rcases pe.mp hy with rfl|hy
   .exact .inl oa.aO
   .rw[Kd.mp hy];exact .inl oa.lO
  have tb:=oa.move (B':=λ_=>none) (O':=[aT,lT]) J (λ_ z=>z) (λ_ z=>z) (by simp) (by simp) rfl rfl;obtain⟨q0,r0,rfl,l1⟩:=uncons l0;obtain⟨q1,r1,rfl,l2⟩:=uncons l1;obtain⟨q2,r2,rfl,l3⟩:=uncons l2;obtain⟨q3,r3,rfl,l4⟩:=uncons l3;obtain⟨q4,r4,rfl,l5⟩:=uncons l4;obtain⟨q5,r5,rfl,l6⟩:=uncons l5;obtain⟨q6,r6,rfl,l7⟩:=uncons l6;obtain⟨q7,r7,rfl,l8⟩:=uncons l7;obtain⟨q8,r8,rfl,l9⟩:=uncons l8;obtain⟨q9,r9,rfl,b4⟩:=uncons l9;obtain⟨gv,a5,rfl,b5⟩:=uncons b4;obtain⟨gx,gy,rfl,b6⟩:=uncons b5;obtain⟨gA,gF,rfl,b7⟩:=uncons b6;obtain⟨gH,gI,rfl,cd⟩:=uncons b7;obtain⟨gP,gR,rfl,ck⟩:=uncons cd;obtain⟨gW,g0,rfl,cl⟩:=uncons ck;obtain⟨g1,g2,rfl,cC⟩:=uncons cl;obtain⟨g3,g4,rfl,cF⟩:=uncons cC;obtain⟨hb,he,rfl,cL⟩:=uncons cF;obtain⟨hf,hg,rfl,cP⟩:=uncons cL;obtain⟨hj,hk,rfl,cS⟩:=uncons cP;obtain rfl:=K8.mp cS;cases e0;cases e3;cases e4;cases e5;cases e6;cases e8;cases e9;cases b0;cases b1;cases s0;exact Gw hC g h8 ar rfl ho (Rep.mono J _ a5) (Rep.mono J _ r9) (Rep.mono J _ r8) (J.seq sc) tb hq
def CU{K:M5}{H:Hp}{a:Addr}{ns:List Int}{E:XK}(q:ns.length<=63)(z:SqL K H a (ns.map V.int)):sR K [.ref a] H (λv _=>v=.bl true) E:=⟨a,ns,rfl,q,z,λ_=>rfl⟩
end
def Gx {l:PySem.W.OpenLaw}{w:World}{K:M5}{h:Heap}{mg:Str->Option Value}{fa:Addr} (X:K.In h) (G:h.Ns mainGlobals mg) (c4:mg "law"=some (.ref fa))
  {C fI:Addr}{q:FuncData} (aC:PySem.W.nsIn K mainGlobals "Table"=some (some (.ref C))) (pg:PySem.W.plainGet K C Str.empty=true) (hd:PySem.W.hasDictIn K C=true) (po:PySem.W.plainOver K C=true) (sa:PySem.W.findIn K (.ref C) "__setattr__"=some (some (.builtin "object.__setattr__"))) (mk:PySem.W.makesIn K C=true) (kc:PySem.W.keepIn K (.ref C)=true)
  (n0:PySem.W.findIn K (.ref C) "hole_count"=some none) (n1:PySem.W.findIn K (.ref C) "ribbons"=some none) (n2:PySem.W.findIn K (.ref C) "opener"=some none) (n3:PySem.W.findIn K (.ref C) "taken"=some none)
  (ai:PySem.W.findIn K (.ref C) "__init__"=some (some (.ref fI))) (ii:PySem.W.isFn K (.ref fI)=true) (DI:FnD K "__init__" "Table.__init__" AB fI q) (bI:aW K q ["self","loom","first"] []) (bL:∃vs,aW K q ["self","loom","first"] vs/\aJ ([Sc.str "weaver"].map Sc.v) vs)
  (h0:HD K "is_number_below" (top 7) cf) (h1:HD K "strip_without" (top 9) eT) (h2:HD K "knotted" (top 10) lH) (h3:HD K "bitten" (top 11) og) (h4:HD K "is_whole" (top 13) jG) (h5:HD K "is_bare" (top 14) lI) (h6:HD K "other_hand" (top 16) g9) (h7:HD K "behind" (top 17) oh) (h8:HD K "behind_both" (top 18) gr) (h9:HD K "mate" (top 20) uE) (h10:HD K "strip_weight" (top 25) fH) (h11:HD K "pulls" (top 26) qK) (h12:HD K "heaviest" (top 27) jH) (h13:HD K "first" (top 29) mS) (h14:HD K "answer" (top 30) oj) (h15:HD K "_law_cell" (top 41) g_) (h16:HD K "_law_mixed" (top 42) iK) (h17:HD K "_law_strip" (top 43) gi) (h18:HD K "_law_knotted" (top 44) gu) (h19:HD K "_law_bitten" (top 45) hV) (h20:HD K "_law_whole" (top 46) iL) (h21:HD K "_law_taken_by" (top 47) fJ) (h22:HD K "_law_left" (top 48) hW) (h23:HD K "_law_won" (top 49) gN) (h24:HD K "_law_free" (top 50) jI) (h25:HD K "_law_share" (top 51) iM) (h26:HD K "_law_filled" (top 52) hZ) (h27:HD K "_law_may" (top 53) lJ) (h28:HD K "_law_best" (top 54) jJ) (h29:HD K "_law_map" (top 55) lK) (h30:HD K "_law_paired" (top 56) ia) (h31:HD K "_law_pairs" (top 57) iS) (h32:HD K "_law_both" (top 58) ib) (h33:HD K "_law_weighed" (top 59) gw) (h34:HD K "_law_strips" (top 60) ic) (h35:HD K "_law_paper" (top 61) gj) (h36:HD K "_law_behind" (top 62) ie) (h37:HD K "_law_mate" (top 63) jK) (h38:HD K "_law_opened" (top 64) fc) (h39:HD K "_law_answered" (top 65) fN) (h40:HD K "_law_step" (top 66) jL) (h41:HM K C "hand_at" "Table.hand_at" (dB (top 39) 1) cG) (h42:HM K C "free" "Table.free" (dB (top 39) 7) ig) (h43:HM K C "rest" "Table.rest" (dB (top 39) 8) ff) (h44:HM K C "winner" "Table.winner" (dB (top 39) 9) cx) (h45:HM K C "take" "Table.take" (dB (top 39) 10) fg) (hL:HD K "law" (top 68) jk λfd=>∀(s:Shared) (v:Value),BindsTo s fd ⟨[v],[]⟩ [("script",v)]) (hH0:HD K "_law_asks" (top 67) bJ) (hK:IS K)
  (zs:∀x∈kC,PySem.W.nsIn K mainGlobals x=some none)
  {z:Value} (g0:PySem.W.nsIn K mainGlobals "UNIT"=some (some z)) (r0:aI (toV (.int 1152921504606846976)) z)
 :∃fd:FuncData,(∀(s:Shared) (v:Value),BindsTo s fd ⟨[v],[]⟩ [("script",v)])/\∀base:Heap,K.In base->base.Ns mainGlobals mg->cT l.prog w K mg base CX0 40 fa fd ["script"] (sR K):=by
 obtain⟨_,e0,D0,q0⟩:=aR (T:=tab) X G h0 (by kernel_rfl);obtain⟨_,e1,D1,q1⟩:=aR (T:=tab) X G h1 (by kernel_rfl);obtain⟨_,e2,D2,q2⟩:=aR (T:=tab) X G h2 (by kernel_rfl);obtain⟨_,e3,D3,q3⟩:=aR (T:=tab) X G h3 (by kernel_rfl);obtain⟨_,e4,D4,q4⟩:=aR (T:=tab) X G h4 (by kernel_rfl);obtain⟨_,e5,D5,q5⟩:=aR (T:=tab) X G h5 (by kernel_rfl);obtain⟨_,e6,D6,q6⟩:=aR (T:=tab) X G h6 (by kernel_rfl);obtain⟨_,e7,D7,q7⟩:=aR (T:=tab) X G h7 (by kernel_rfl);obtain⟨_,e8,D8,q8⟩:=aR (T:=tab) X G h8 (by kernel_rfl);obtain⟨_,e9,D9,q9⟩:=aR (T:=tab) X G h9 (by kernel_rfl);obtain⟨_,eh,D,ei⟩:=aR (T:=tab) X G h10 (by kernel_rfl);obtain⟨_,ej,J,ek⟩:=aR (T:=tab) X G h11 (by kernel_rfl);obtain⟨_,em,U,en⟩:=aR (T:=tab) X G h12 (by kernel_rfl);obtain⟨_,eo,Y,er⟩:=aR (T:=tab) X G h13 (by kernel_rfl);obtain⟨_,et,Z,eu⟩:=aR (T:=tab) X G h14 (by kernel_rfl);obtain⟨_,ew,ao,ey⟩:=aR (T:=tab) X G h15 (by kernel_rfl);obtain⟨_,eA,ar,eB⟩:=aR (T:=tab) X G h16 (by kernel_rfl);obtain⟨_,eH,a0,eI⟩:=aR (T:=tab) X G h17 (by kernel_rfl);obtain⟨_,eL,a1,fl⟩:=aR (T:=tab) X G h18 (by kernel_rfl);obtain⟨_,fr,a2,ft⟩:=aR (T:=tab) X G h19 (by kernel_rfl);obtain⟨_,fv,a3,fx⟩:=aR (T:=tab) X G h20 (by kernel_rfl);obtain⟨_,fy,a4,fA⟩:=aR (T:=tab) X G h21 (by kernel_rfl);obtain⟨_,fK,a5,fP⟩:=aR (T:=tab) X G h22 (by kernel_rfl);obtain⟨_,fS,a6,fT⟩:=aR (T:=tab) X G h23 (by kernel_rfl);obtain⟨_,fW,a7,f1⟩:=aR (T:=tab) X G h24 (by kernel_rfl);obtain⟨_,f2,bt,f3⟩:=aR (T:=tab) X G h25 (by kernel_rfl);obtain⟨_,f4,bA,f5⟩:=aR (T:=tab) X G h26 (by kernel_rfl);obtain⟨_,f6,bK,f7⟩:=aR (T:=tab) X G h27 (by kernel_rfl);obtain⟨_,f8,bP,f9⟩:=aR (T:=tab) X G h28 (by kernel_rfl);obtain⟨_,gg,bS,gl⟩:=aR (T:=tab) X G h29 (by kernel_rfl);obtain⟨_,gv,bT,gx⟩:=aR (T:=tab) X G h30 (by kernel_rfl);obtain⟨_,gy,bW,gA⟩:=aR (T:=tab) X G h31 (by kernel_rfl);obtain⟨_,gF,b0,gH⟩:=aR (T:=tab) X G h32 (by kernel_rfl);obtain⟨_,gI,b1,gP⟩:=aR (T:=tab) X G h33 (by kernel_rfl);obtain⟨_,gR,b2,gW⟩:=aR (T:=tab) X G h34 (by kernel_rfl);obtain⟨_,g1,b3,g2⟩:=aR (T:=tab) X G h35 (by kernel_rfl);obtain⟨_,g3,b4,g4⟩:=aR (T:=tab) X G h36 (by kernel_rfl);obtain⟨_,hb,b5,he⟩:=aR (T:=tab) X G h37 (by kernel_rfl);obtain⟨_,hf,b6,hg⟩:=aR (T:=tab) X G h38 (by kernel_rfl);obtain⟨_,hh,b7,hj⟩:=aR (T:=tab) X G h39 (by kernel_rfl);obtain⟨_,hk,cd,hl⟩:=aR (T:=tab) X G h40 (by kernel_rfl);obtain⟨_,hq,ck⟩:=kM (T:=tab) (mg:=mg) aC h41 (by kernel_rfl);obtain⟨_,hr,cl⟩:=kM (T:=tab) (mg:=mg) aC h42 (by kernel_rfl);obtain⟨_,hs,cC⟩:=kM (T:=tab) (mg:=mg) aC h43 (by kernel_rfl);obtain⟨_,hu,cF⟩:=kM (T:=tab) (mg:=mg) aC h44 (by kernel_rfl);obtain⟨_,hv,cL⟩:=kM (T:=tab) (mg:=mg) aC h45 (by kernel_rfl);obtain⟨_,fL,c5,aL,DL,_,qL⟩:=hL;cases c4.symm.trans (PySem.W.mg_of X G aL);obtain⟨_,c6,cP,df,dh,dm,_⟩:=hH0;have pr:mz tab K mg defs:=by
  refine⟨rfl,rfl,λC' h'=>FJ aC ⟨⟨pg,hd,po,sa⟩,λx hx=>Di n0 n1 n2 x hx,n3⟩ h',⟨C,aC,PySem.W.mg_of X G aC,fI,q,_,⟨mk,ai,ii,kc⟩,bI,λP w base=>CD DI ⟨⟨pg,hd,po,sa⟩,λx hx=>Di n0 n1 n2 x hx,n3⟩,bL⟩,⟨⟨_,_,_,D0,_,D0.binds,.nil⟩,⟨_,_,_,D1,_,D1.binds,.nil⟩,⟨_,_,_,D2,_,D2.binds,.nil⟩,⟨_,_,_,D3,_,D3.binds,.nil⟩,⟨_,_,_,D4,_,D4.binds,.nil⟩,⟨_,_,_,D5,_,D5.binds,.nil⟩,⟨_,_,_,D6,_,D6.binds,.nil⟩,⟨_,_,_,D7,_,D7.binds,.nil⟩,⟨_,_,_,D8,_,D8.binds,.nil⟩,⟨_,_,_,D9,_,D9.binds,.nil⟩,⟨_,_,_,D,_,D.binds,.nil⟩,⟨_,_,_,J,_,J.binds,.nil⟩,⟨_,_,_,U,_,U.binds,.nil⟩,⟨_,_,_,Y,_,Y.binds,.nil⟩,⟨_,_,_,Z,_,Z.binds,.nil⟩,⟨_,_,_,ao,_,ao.binds,.nil⟩,⟨_,_,_,ar,_,ar.binds,.nil⟩,⟨_,_,_,a0,_,a0.binds,.nil⟩,⟨_,_,_,a1,_,a1.binds,.nil⟩,⟨_,_,_,a2,_,a2.binds,.nil⟩,⟨_,_,_,a3,_,a3.binds,.nil⟩,⟨_,_,_,a4,_,a4.binds,.nil⟩,⟨_,_,_,a5,_,a5.binds,.nil⟩,⟨_,_,_,a6,_,a6.binds,.nil⟩,⟨_,_,_,a7,_,a7.binds,.nil⟩,⟨_,_,_,bt,_,bt.binds,.nil⟩,⟨_,_,_,bA,_,bA.binds,.nil⟩,⟨_,_,_,bK,_,bK.binds,.nil⟩,⟨_,_,_,bP,_,bP.binds,.nil⟩,⟨_,_,_,bS,_,bS.binds,.nil⟩,⟨_,_,_,bT,_,bT.binds,.nil⟩,⟨_,_,_,bW,_,bW.binds,.nil⟩,⟨_,_,_,b0,_,b0.binds,.nil⟩,⟨_,_,_,b1,_,b1.binds,.nil⟩,⟨_,_,_,b2,_,b2.binds,.nil⟩,⟨_,_,_,b3,_,b3.binds,.nil⟩,⟨_,_,_,b4,_,b4.binds,.nil⟩,⟨_,_,_,b5,_,b5.binds,.nil⟩,⟨_,_,_,b6,_,b6.binds,.nil⟩,⟨_,_,_,b7,_,b7.binds,.nil⟩,⟨_,_,_,cd,_,cd.binds,.nil⟩,⟨_,_,_,ck,_,ck.binds,.nil⟩,⟨_,_,_,cl,_,cl.binds,.nil⟩,⟨_,_,_,cC,_,cC.binds,.nil⟩,⟨_,_,_,cF,_,cF.binds,.nil⟩,⟨_,_,_,cL,_,cL.binds,.nil⟩,trivial⟩,λx hx=>PySem.W.mg_none_of X G (zs x hx),λp hp=>?_⟩
  .simp only[tab,pe,Kf,Ko]at hp;rcases hp with rfl
   .exact⟨_,PySem.W.mg_of X G g0,r0⟩
 exact⟨c5,qL,λbase _ _=>AM pr DL ⟨c6,cP,PySem.W.mg_of X G df,dh,dm⟩ hK (PySem.W.mg_of X G)⟩
def J3{l:PySem.W.OpenLaw}{q:Program}{D:List Str}{Z:(Str->Option Value)->Heap->Prop}{U:World->Heap->Prop}{d:DefRec}{K:Params->M5}(hn:l.most=some 63)(J:d.params.defaults=[])
  (hY:∀(w:World) (h:Heap),U w h->(K w.params).In h)
  (F:∀(w:World) (mg:Str->Option Value) (Y:Addr) (h:Heap),(K w.params).In h->h.Ns mainGlobals mg->mg d.name=some (.ref Y) ->
   ∃fd:FuncData,(∀(s:Shared) (u:Value),BindsTo s fd ⟨[u],[]⟩ [("script",u)])/\∀base:Heap,(K w.params).In base->base.Ns mainGlobals mg->cT l.prog w (K w.params) mg base CX0 40 Y fd ["script"] (sR (K w.params))) :
  PySem.W.WalkO q D Z U l.row.toRowW d [] (λf vs=>PySem.call f vs):=
 L2.Bg (n:=63) (k:=40) (x:="script") (CX:=λ_=>CX0) (sp:=λw=>sR (K w.params)) hn (by decide) J ⟨rfl,by decide,by decide⟩ hY F (λ_ _ a ns hl _ hS=>CU hl hS) λ_ _ _ _ _ z=>z
end My
open PySem PySem.W PyProof.Rows List Option
set_option maxRecDepth 100000 in
set_option maxHeartbeats 0 in
theorem PySem.Challenge.cw_mothloom_k49_a_follower_asked_holds : PySem.Challenge.rw_mothloom_k49_a_follower_asked.Holds := by
 w_on;o_law;k_head;(case hw=>w_witness2)
 k_fill
 refine My.J3 (l:=PySem.Challenge.rw_mothloom_k49_a_follower_asked) rfl rfl (λw h Y=>PySem.W.kIn_of Y) ?F
 case F =>
  intro w mg fa h KX G hmg
  refine' My.Gx KX G hmg ?aC ?pg ?hd ?po ?sa ?mk ?kc ?n0 ?n1 ?n2 ?n3 ?ai ?ii ?DI ?bI ?bL ?h0 ?h1 ?h2 ?h3 ?h4 ?h5 ?h6 ?h7 ?h8 ?h9 ?h10 ?h11 ?h12 ?h13 ?h14 ?h15 ?h16 ?h17 ?h18 ?h19 ?h20 ?h21 ?h22 ?h23 ?h24 ?h25 ?h26 ?h27 ?h28 ?h29 ?h30 ?h31 ?h32 ?h33 ?h34 ?h35 ?h36 ?h37 ?h38 ?h39 ?h40 ?h41 ?h42 ?h43 ?h44 ?h45 ?hL ?hH0 ?hK ?zs ?gq0 ?rq0
  (case aC=>k_is)
  (case pg=>k_is)
  (case hd=>k_is)
  (case po=>k_is)
  (case sa=>k_is)
  (case mk=>k_is)
  (case kc=>k_is)
  (case n0=>k_is)
  (case n1=>k_is)
  (case n2=>k_is)
  (case n3=>k_is)
  (case ai=>k_is)
  (case ii=>k_is)
  (case DI=>refine' .mkd ?kl ?kc ?kk;(case kl=>k_is);(case kc=>k_is);(case kk=>k_is))
  (case bI=>refine' MM.uq rfl ?kx ?ky;(case kx=>k_is);(case ky=>exact λus hl=>match us,hl with|[_,_,_],_=>⟨_,rfl,rfl⟩))
  (case bL=>refine' MM.B7 rfl ?ku ?kw;(case ku=>k_is);(case kw=>exact λus hl=>match us,hl with|[_,_],_=>⟨_,rfl,rfl⟩))
  (case hL=>refine' ⟨rfl,_,_,?ka,.mk' (d0:=.none) ?kl ?kc ?kk,MM.bn1 λ_=>rfl,λs v=>.of_eq rfl⟩;(case ka=>k_is);(case kl=>k_is);(case kc=>k_is);(case kk=>k_is))
  (case hH0=>refine' ⟨rfl,_,_,?ka,.mk' (d0:=.none) ?kl ?kc ?kk,MM.bn4 λ_ _ _ _=>rfl,trivial⟩;(case ka=>k_is);(case kl=>k_is);(case kc=>k_is);(case kk=>k_is))
  (case hK =>
   refine' ⟨_,_,_,_,⟨?p0,⟨?p1,?p2,?p3,?p4⟩⟩,⟨?f0,⟨?c0,?c1,?c2,?c3⟩,⟨?m0,?m1,?m2,?m3⟩,?n0,?n1,?n2,?n3,?s0,?s1,?s2,?s3,?s4⟩,⟨_,.mk' (d0:=.none) ?kl0 ?kc0 ?kk0,MM.bn2 λ_ _=>rfl⟩,⟨_,.mk' (d0:=.none) ?kl1 ?kc1 ?kk1,MM.bn5 λ_ _ _ _ _=>rfl⟩,⟨_,_,⟨?ka2,?ki2,?ku2⟩,.mk' (d0:=.none) ?kl2 ?kc2 ?kk2,MM.bn2 λ_ _=>rfl⟩,⟨_,_,⟨?ka3,?ki3,?ku3⟩,.mk' (d0:=.none) ?kl3 ?kc3 ?kk3,MM.bn2 λ_ _=>rfl⟩,⟨_,_,⟨?ka4,?ki4,?ku4⟩,.mk' (d0:=.none) ?kl4 ?kc4 ?kk4,MM.bn3 λ_ _ _=>rfl⟩⟩
   (case p0=>k_is)
   (case f0=>k_is)
   (case p1=>k_is)
   (case p2=>k_is)
   (case p3=>k_is)
   (case p4=>k_is)
   (case c0=>k_is)
   (case c1=>k_is)
   (case c2=>k_is)
   (case c3=>k_is)
   (case m0=>k_is)
   (case m1=>k_is)
   (case m2=>k_is)
   (case m3=>k_is)
   (case n0=>unfold L2.cq;k_is)
   (case n1=>unfold L2.cq;k_is)
   (case n2=>unfold L2.cq;k_is)
   (case n3=>unfold L2.cq;k_is)
   (case s0=>k_is)
   (case s1=>k_is)
   (case s2=>k_is)
   (case s3=>k_is)
   (case s4=>kit_is)
   (case kl0=>k_is);(case kc0=>k_is);(case kk0=>k_is)
   (case kl1=>k_is);(case kc1=>k_is);(case kk1=>k_is)
   (case ka2=>k_is);(case ki2=>k_is);(case ku2=>k_is);(case kl2=>k_is);(case kc2=>k_is);(case kk2=>k_is)
   (case ka3=>k_is);(case ki3=>k_is);(case ku3=>k_is);(case kl3=>k_is);(case kc3=>k_is);(case kk3=>k_is)
   (case ka4=>k_is);(case ki4=>k_is);(case ku4=>k_is);(case kl4=>k_is);(case kc4=>k_is);(case kk4=>k_is))
  (case h0|h1|h2|h3|h9|h15|h16|h18|h19|h21|h24|h29|h33|h37|h38=>refine' ⟨rfl,_,_,?ka,.mk' (d0:=.none) ?kl ?kc ?kk,MM.bn2 λ_ _=>rfl,trivial⟩;(case ka=>k_is);(case kl=>k_is);(case kc=>k_is);(case kk=>k_is))
  (case h4|h5|h6|h10|h11|h12|h20|h23|h25|h27|h28|h32=>refine' ⟨rfl,_,_,?ka,.mk' (d0:=.none) ?kl ?kc ?kk,MM.bn1 λ_=>rfl,trivial⟩;(case ka=>k_is);(case kl=>k_is);(case kc=>k_is);(case kk=>k_is))
  (case h7|h13|h17|h22|h26|h30|h31|h36|h39=>refine' ⟨rfl,_,_,?ka,.mk' (d0:=.none) ?kl ?kc ?kk,MM.bn3 λ_ _ _=>rfl,trivial⟩;(case ka=>k_is);(case kl=>k_is);(case kc=>k_is);(case kk=>k_is))
  (case h8|h14|h34|h35=>refine' ⟨rfl,_,_,?ka,.mk' (d0:=.none) ?kl ?kc ?kk,MM.bn4 λ_ _ _ _=>rfl,trivial⟩;(case ka=>k_is);(case kl=>k_is);(case kc=>k_is);(case kk=>k_is))
  (case h40=>refine' ⟨rfl,_,_,?ka,.mk' (d0:=.none) ?kl ?kc ?kk,MM.bn5 λ_ _ _ _ _=>rfl,trivial⟩;(case ka=>k_is);(case kl=>k_is);(case kc=>k_is);(case kk=>k_is))
  (case h41=>refine' ⟨rfl,rfl,_,_,⟨?ka,?ki,?ku⟩,.mk' (d0:=.none) ?kl ?kc ?kk,MM.bn2 λ_ _=>rfl⟩;(case ka=>k_is);(case ki=>k_is);(case ku=>k_is);(case kl=>k_is);(case kc=>k_is);(case kk=>k_is))
  (case h42=>refine' ⟨rfl,rfl,_,_,⟨?ka,?ki,?ku⟩,.mk' (d0:=.none) ?kl ?kc ?kk,MM.bn1 λ_=>rfl⟩;(case ka=>k_is);(case ki=>k_is);(case ku=>k_is);(case kl=>k_is);(case kc=>k_is);(case kk=>k_is))
  (case h43=>refine' ⟨rfl,rfl,_,_,⟨?ka,?ki,?ku⟩,.mk' (d0:=.none) ?kl ?kc ?kk,MM.bn1 λ_=>rfl⟩;(case ka=>k_is);(case ki=>k_is);(case ku=>k_is);(case kl=>k_is);(case kc=>k_is);(case kk=>k_is))
  (case h44=>refine' ⟨rfl,rfl,_,_,⟨?ka,?ki,?ku⟩,.mk' (d0:=.none) ?kl ?kc ?kk,MM.bn1 λ_=>rfl⟩;(case ka=>k_is);(case ki=>k_is);(case ku=>k_is);(case kl=>k_is);(case kc=>k_is);(case kk=>k_is))
  (case h45=>refine' ⟨rfl,rfl,_,_,⟨?ka,?ki,?ku⟩,.mk' (d0:=.none) ?kl ?kc ?kk,MM.bn2 λ_ _=>rfl⟩;(case ka=>k_is);(case ki=>k_is);(case ku=>k_is);(case kl=>k_is);(case kc=>k_is);(case kk=>k_is))
  (case zs=>intro x hx;simp only[MM.kC,pe,Kf,Ko]at hx;rcases hx with rfl|rfl|rfl|rfl|rfl|rfl|rfl|rfl|rfl|rfl|rfl|rfl|rfl|rfl|rfl|rfl|rfl<;>k_is)
  (case gq0=>k_is);(case rq0=>exact⟨_,rfl⟩)
