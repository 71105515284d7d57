import PyProof.Rows.All
import Wide.All
import OpenK.AllK
import Wide.FinOn
import Lean
import PyProof.EqAt
import PyProof.EqKinds
import PyProof.TupleCall
import KE.KIntText
import PySem.Challenge.RW_mothloom_k66_pages_read
set_option Elab.async false
set_option linter.all false
set_option maxRecDepth 100000
set_option maxHeartbeats 1500000
set_option genSizeOf false
set_option backward.eqns.nonrecursive false
set_option bootstrap.genMatcherCode false
def hU:=@PySem.wpAny_bind
def i1:=@Option.bind_eq_some_iff
def i2:=@PySem.Heap.get?_push_of_some
def kn:=@Bool.false_ne_true
def kv:=@PySem.wpAny_pure
def mu:=@Bool.and_eq_true_iff
def oe:=@Bool.and_eq_true
def ow:=@Option.some.injEq
def ox:=@List.length_map
def pb:=@List.size_toArray
def pd:=@Nat.le_refl
def pe:=@PySem.Heap.get?_push_size
def rb:=@List.mem_cons
def tr:=@PySem.Heap.lt_size
def u1:=@List.getElem?_set_ne
def vp:=@List.getElem?_eq_some_iff
def wh:=@Option.map_eq_some_iff
def x1:=@Nat.lt_of_lt_of_le
def x2:=@Option.some.inj
def IJ:=@PySem.wpAny_loadPart'
def IK:=@Nat.le_trans
def IL:=@Nat.ne_of_lt
def IM:=@decide_eq_true
def IP:=@List.getElem?_eq_getElem
def IQ:=@decide_eq_false
def IS:=@List.mem_singleton
def IT:=@List.map_cons
def IU:=@beq_iff_eq
def IV:=@List.mem_filter
def IW:=@Nat.zero_le
def IX:=@of_decide_eq_true
def IY:=@List.getElem?_map
def IZ:=@List.map_map
def I0:=@List.length_append
def Ja:=@PySem.Heap.size_push
def Jb:=@Bool.not_eq_true'
def Jc:=@Nat.lt_of_le_of_lt
def Jd:=@List.getElem?_set_self
def Je:=@List.mem_cons_of_mem
def Jf:=@beq_eq_false_iff_ne
def Jg:=@PySem.wpAny_call_entry
def Jh:=@List.any_eq_true
def Ji:=@Nat.lt_succ_of_lt
def Jj:=@PySem.wpAny_mono
def Jk:=@Ne.symm
def Jl:=@PySem.sizeLine_eq
def Jm:=@Nat.lt_irrefl
def Jn:=@PySem.wpAny_truthy_bool
def Jo:=@PySem.wpAny_newObj_type
def Jp:=@PyProof.Rows.slot_tuple_getitem
def Jq:=@PySem.wpAny_callSpecial?_slot
def Jr:=@List.mem_append_right
def Js:=@List.map_append
def Jt:=@Bool.eq_iff_iff
def Ju:=@Nat.le_antisymm
def Jv:=@Nat.add_sub_cancel
def Jw:=@Bool.false_eq_true
def Jx:=@beq_self_eq_true
def Jy:=@Nat.le_of_lt
def Jz:=@List.mem_cons_self
def JA:=@PySem.Heap.get?_update_other
def JB:=@Nat.not_lt
def JC:=@List.getElem?_append_right
def JD:=@PySem.Heap.get?_update_self
def JE:=@List.all_eq_true
def JF:=@Nat.le_of_lt_succ
def JG:=@PyProof.Rows.KeyOrd.kle_refl
def JH:=@Nat.ne_of_gt
def JI:=@List.not_mem_nil
def JJ:=@PySem.wpAny_holding
def JK:=@Nat.lt_succ_self
def JL:=@Array.getElem?_toList
def JM:=@List.length_eq_zero_iff
def JN:=@Int.emod_lt_of_pos
def JO:=@Nat.le_succ
def JP:=@congrArg
def JQ:=@List.getElem?_append_left
def JR:=@List.mem_of_getElem?
def JS:=@List.length_set
def JT:=@Int.emod_nonneg
def JU:=@PySem.Heap.SameBut.update
def JV:=@Nat.le_add_right
def JW:=@List.append_nil
def JX:=@List.nodup_cons
def JY:=@PyProof.Rows.callWith_type1
def JZ:=@Nat.le_of_eq
def J0:=@Nat.add_right_comm
def J1:=@Nat.lt_of_le_of_ne
def J2:=@PySem.wpAny_setField_rec
def J3:=@PySem.wpAny_ite_split
def J4:=@Array.perm_iff_toList_perm
def J5:=@PySem.wpAny_setState_of
def J6:=@PySem.wpAny_collect_seq
def J7:=@PySem.call_meets
def J8:=@PySem.Around.under_plainId
def J9:=@List.map_congr_left
def Ka:=@PySem.codeAny_mono
def Kb:=@Nat.lt_trans
def Kc:=@Nat.zero_add
def Kd:=@or_false
def Ke:=@PySem.wpAny_isInstance
def Kf:=@Nat.exists_eq_add_of_lt
def Kg:=@PySem.MeetsSeq3.plain_eq_loop
def Kh:=@PySem.wpAny_Call_Name_kw
def Ki:=@PySem.codeAny_builtin
def Kj:=@PySem.F.slot_dict_valueiterator_next
def Kk:=@decide_eq_true_iff
def Kl:=@PySem.richCompare_meets_room
def Km:=@Nat.le_of_succ_le
def Kn:=@PyProof.Rows.KeyOrd.kle_of_klt
def Ko:=@List.length_eq_one_iff
def Kp:=@Array.getD_eq_getD_getElem?
def Kq:=@List.mem_append
def Kr:=@PyProof.Rows.KeyOrd.kle_trans
def Ks:=@Nat.le_sub_one_of_lt
def Kt:=@List.drop_eq_getElem_cons
def Ku:=@PySem.plainId_quiet
def Kv:=@List.cons.inj
def Kw:=@PySem.wpAny_passesOwn
def Kx:=@Nat.le_add_left
def Ky:=@PySem.W.KasT.kasWp_bind
def Kz:=@Nat.min_eq_left
def KA:=@Array.getElem?_eq_getElem
def KC:=@PySem.Calls.call_function_entry
def KD:=@Bool.or_eq_true
def KG:=@PySem.wpAny_pyIter_tuple
def KH:=@List.getElem?_replicate
def KI:=@PySem.AutoSeq1.sub_tuple_tuple
def KJ:=@PySem.wpAny_typeOf
def KL:=@if_false
def KN:=@List.append_assoc
def KP:=@PySem.wpAny_pyIter_list
def KQ:=@List.any_eq_false
def KR:=@Nat.lt_trichotomy
def KS:=@bne_self_eq_false
def KU:=@List.length_take
def KW:=@Nat.lt_of_succ_lt_succ
def KY:=@Nat.le_of_succ_le_succ
def KZ:=@Array.getElem?_eq_none
def K0:=@PySem.AutoSeq1.sub_list_list
def K1:=@List.pairwise_cons
def K2:=@PySem.wpAny_attempt
def K3:=@Nat.le_of_not_lt
def K4:=@List.length_filter_le
def K5:=@PySem.wpAny_execs_nil
def K6:=@PySem.wpAny_callSpecialIfBound?_slot
def K7:=@PySem.wpAny_rule
def K8:=@List.all_map
def K9:=@PySem.wpAny_updateSeq
def La:=@Bool.false_and
def Lb:=@PySem.wpAny_fieldsOf
def Lc:=@List.filter_eq_self
def Ld:=@List.length_drop
def Le:=@List.filter_cons
def Lf:=@Nat.lt_or_eq_of_le
def Lg:=@Array.size_extract
def Lh:=@List.filter_cons_of_neg
def Li:=@PySem.F.args_str_split_2
def Lj:=@Int.fdiv_eq_ediv_of_nonneg
def Lk:=@PySem.wpAny_newList
def Ll:=@Array.getElem?_append_left
def Lm:=@PySem.Value.isInt_shape
def Ln:=@Nat.lt_succ_of_le
def Lo:=@Option.isSome_iff_exists
def Lp:=@List.take_of_length_le
def Lq:=@PySem.wpAny_pyIter_slot
def Lr:=@PySem.wpAny_setEpoch_of
def Ls:=@PySem.F.entry_str_split
def Lu:=@List.filter_eq_nil_iff
def Lv:=@Int.not_le
def Lw:=@Nat.sub_le
def Lx:=@PySem.concat_meets
def Ly:=@PySem.noFill_tuple_add
def Lz:=@Nat.succ_le_succ
def LA:=@Nat.lt_asymm
def LB:=@map_eq_pure_bind
def LC:=@PySem.F.slot_str_split
def LD:=@List.getElem?_eq_none
def LF:=@List.nodup_append
def LG:=@Bool.and_false
def LH:=@Nat.sub_lt
abbrev LI:=PySem.W.Frag
def bY{P:Prop}(h:∀Q:Prop,(P->Q)->Q):P:=h P id
def pZ{P Q:Prop}{Z:Prop}(h:P/\Q)(k:P->Q->Z):Z:=k h.1 h.2
def j_{P Q R:Prop}{Z:Prop}(h:P/\Q/\R)(k:P->Q->R->Z):Z:=k h.1 h.2.1 h.2.2
def fP{P Q R S:Prop}{Z:Prop}(h:P/\Q/\R/\S)(k:P->Q->R->S->Z):Z:=k h.1 h.2.1 h.2.2.1 h.2.2.2
def wL{P Q R S T:Prop}{Z:Prop}(h:P/\Q/\R/\S/\T)(k:P->Q->R->S->T->Z):Z:=k h.1 h.2.1 h.2.2.1 h.2.2.2.1 h.2.2.2.2
def gE{P Q R S T U:Prop}{Z:Prop}(h:P/\Q/\R/\S/\T/\U)(k:P->Q->R->S->T->U->Z):Z:=k h.1 h.2.1 h.2.2.1 h.2.2.2.1 h.2.2.2.2.1 h.2.2.2.2.2
def Ft{P:A->Prop}{Z:Prop}(h:∃a,P a)(k:∀a,P a->Z):Z:=h.elim λa h=>k a h
def ae{P Q:A->Prop}{Z:Prop}(h:∃a,P a/\Q a)(k:∀a,P a->Q a->Z):Z:=h.elim λa h=>k a h.1 h.2
def aM{P Q R:A->Prop}{Z:Prop}(h:∃a,P a/\Q a/\R a)(k:∀a,P a->Q a->R a->Z):Z:=h.elim λa h=>k a h.1 h.2.1 h.2.2
def nj{P Q R S T:A->Prop}{Z:Prop}(h:∃a,P a/\Q a/\R a/\S a/\T a)(k:∀a,P a->Q a->R a->S a->T a->Z):Z:=h.elim λa h=>k a h.1 h.2.1 h.2.2.1 h.2.2.2.1 h.2.2.2.2
def lf{P:A->B->Prop}{Z:Prop}(h:∃a b,P a b)(k:∀a b,P a b->Z):Z:=h.elim λa h=>h.elim λb h=>k a b h
def cr{P Q:A->B->Prop}{Z:Prop}(h:∃a b,P a b/\Q a b)(k:∀a b,P a b->Q a b->Z):Z:=h.elim λa h=>h.elim λb h=>k a b h.1 h.2
def aq{P Q R:A->B->Prop}{Z:Prop}(h:∃a b,P a b/\Q a b/\R a b)(k:∀a b,P a b->Q a b->R a b->Z):Z:=h.elim λa h=>h.elim λb h=>k a b h.1 h.2.1 h.2.2
def fQ{P Q R S:A->B->Prop}{Z:Prop}(h:∃a b,P a b/\Q a b/\R a b/\S a b)(k:∀a b,P a b->Q a b->R a b->S a b->Z):Z:=h.elim λa h=>h.elim λb h=>k a b h.1 h.2.1 h.2.2.1 h.2.2.2
def wM{P Q R S T:A->B->Prop}{Z:Prop}(h:∃a b,P a b/\Q a b/\R a b/\S a b/\T a b)(k:∀a b,P a b->Q a b->R a b->S a b->T a b->Z):Z:=h.elim λa h=>h.elim λb h=>k a b h.1 h.2.1 h.2.2.1 h.2.2.2.1 h.2.2.2.2
def wN{P Q R S T U:A->B->Prop}{Z:Prop}(h:∃a b,P a b/\Q a b/\R a b/\S a b/\T a b/\U a b)(k:∀a b,P a b->Q a b->R a b->S a b->T a b->U a b->Z):Z:=h.elim λa h=>h.elim λb h=>k a b h.1 h.2.1 h.2.2.1 h.2.2.2.1 h.2.2.2.2.1 h.2.2.2.2.2
def wO{P Q:A->B->C->Prop}{Z:Prop}(h:∃a b c,P a b c/\Q a b c)(k:∀a b c,P a b c->Q a b c->Z):Z:=h.elim λa h=>h.elim λb h=>h.elim λc h=>k a b c h.1 h.2
def tX{P Q R:A->B->C->Prop}{Z:Prop}(h:∃a b c,P a b c/\Q a b c/\R a b c)(k:∀a b c,P a b c->Q a b c->R a b c->Z):Z:=h.elim λa h=>h.elim λb h=>h.elim λc h=>k a b c h.1 h.2.1 h.2.2
def lh{P Q R S:A->B->C->Prop}{Z:Prop}(h:∃a b c,P a b c/\Q a b c/\R a b c/\S a b c)(k:∀a b c,P a b c->Q a b c->R a b c->S a b c->Z):Z:=h.elim λa h=>h.elim λb h=>h.elim λc h=>k a b c h.1 h.2.1 h.2.2.1 h.2.2.2
def kd{P Q R S T:A->B->C->Prop}{Z:Prop}(h:∃a b c,P a b c/\Q a b c/\R a b c/\S a b c/\T a b c)(k:∀a b c,P a b c->Q a b c->R a b c->S a b c->T a b c->Z):Z:=h.elim λa h=>h.elim λb h=>h.elim λc h=>k a b c h.1 h.2.1 h.2.2.1 h.2.2.2.1 h.2.2.2.2
def du{P Q R S T U:A->B->C->Prop}{Z:Prop}(h:∃a b c,P a b c/\Q a b c/\R a b c/\S a b c/\T a b c/\U a b c)(k:∀a b c,P a b c->Q a b c->R a b c->S a b c->T a b c->U a b c->Z):Z:=h.elim λa h=>h.elim λb h=>h.elim λc h=>k a b c h.1 h.2.1 h.2.2.1 h.2.2.2.1 h.2.2.2.2.1 h.2.2.2.2.2
def gz{P Q:A->B->C->D->Prop}{Z:Prop}(h:∃a b c d,P a b c d/\Q a b c d)(k:∀a b c d,P a b c d->Q a b c d->Z):Z:=h.elim λa h=>h.elim λb h=>h.elim λc h=>h.elim λd h=>k a b c d h.1 h.2
def Fu{P Q R:A->B->C->D->Prop}{Z:Prop}(h:∃a b c d,P a b c d/\Q a b c d/\R a b c d)(k:∀a b c d,P a b c d->Q a b c d->R a b c d->Z):Z:=h.elim λa h=>h.elim λb h=>h.elim λc h=>h.elim λd h=>k a b c d h.1 h.2.1 h.2.2
def p9{P Q R S:A->B->C->D->Prop}{Z:Prop}(h:∃a b c d,P a b c d/\Q a b c d/\R a b c d/\S a b c d)(k:∀a b c d,P a b c d->Q a b c d->R a b c d->S a b c d->Z):Z:=h.elim λa h=>h.elim λb h=>h.elim λc h=>h.elim λd h=>k a b c d h.1 h.2.1 h.2.2.1 h.2.2.2
def lj{P Q R S T:A->B->C->D->Prop}{Z:Prop}(h:∃a b c d,P a b c d/\Q a b c d/\R a b c d/\S a b c d/\T a b c d)(k:∀a b c d,P a b c d->Q a b c d->R a b c d->S a b c d->T a b c d->Z):Z:=h.elim λa h=>h.elim λb h=>h.elim λc h=>h.elim λd h=>k a b c d h.1 h.2.1 h.2.2.1 h.2.2.2.1 h.2.2.2.2
def bc{P Q R:A->B->C->D->E->Prop}{Z:Prop}(h:∃a b c d e,P a b c d e/\Q a b c d e/\R a b c d e)(k:∀a b c d e,P a b c d e->Q a b c d e->R a b c d e->Z):Z:=h.elim λa h=>h.elim λb h=>h.elim λc h=>h.elim λd h=>h.elim λe h=>k a b c d e h.1 h.2.1 h.2.2
def tY{P Q R S T U:A->B->C->D->E->Prop}{Z:Prop}(h:∃a b c d e,P a b c d e/\Q a b c d e/\R a b c d e/\S a b c d e/\T a b c d e/\U a b c d e)(k:∀a b c d e,P a b c d e->Q a b c d e->R a b c d e->S a b c d e->T a b c d e->U a b c d e->Z):Z:=h.elim λa h=>h.elim λb h=>h.elim λc h=>h.elim λd h=>h.elim λe h=>k a b c d e h.1 h.2.1 h.2.2.1 h.2.2.2.1 h.2.2.2.2.1 h.2.2.2.2.2
def p_{P Q R S:A->B->C->D->E->F->Prop}{Z:Prop}(h:∃a b c d e f,P a b c d e f/\Q a b c d e f/\R a b c d e f/\S a b c d e f)(k:∀a b c d e f,P a b c d e f->Q a b c d e f->R a b c d e f->S a b c d e f->Z):Z:=h.elim λa h=>h.elim λb h=>h.elim λc h=>h.elim λd h=>h.elim λe h=>h.elim λf h=>k a b c d e f h.1 h.2.1 h.2.2.1 h.2.2.2
def Fv{P Q:A->B->C->D->E->F->G->Prop}{Z:Prop}(h:∃a b c d e f g,P a b c d e f g/\Q a b c d e f g)(k:∀a b c d e f g,P a b c d e f g->Q a b c d e f g->Z):Z:=h.elim λa h=>h.elim λb h=>h.elim λc h=>h.elim λd h=>h.elim λe h=>h.elim λf h=>h.elim λg h=>k a b c d e f g h.1 h.2
def HF{q D J U Y P5:Prop}{Z:Prop}(h:(((((q/\D)/\J)/\U)/\Y)/\P5))(k:q->D->J->U->Y->P5->Z):Z:=
 let ⟨⟨⟨⟨⟨p0,p1⟩,p2⟩,p3⟩,p4⟩,p5⟩:=h
 k p0 p1 p2 p3 p4 p5
def HG{q D J U Y P5 P6 P7 P8:Prop}{Z:Prop}(h:((((((((q/\D)/\J)/\U)/\Y)/\P5)/\P6)/\P7)/\P8))(k:q->D->J->U->Y->P5->P6->P7->P8->Z):Z:=
 let ⟨⟨⟨⟨⟨⟨⟨⟨p0,p1⟩,p2⟩,p3⟩,p4⟩,p5⟩,p6⟩,p7⟩,p8⟩:=h
 k p0 p1 p2 p3 p4 p5 p6 p7 p8
def aP{α:Type _}{P:Prop}{x:α}(h:none=some x):P:=by cases h
def dO{P:Prop}(h:false=true):P:=by cases h
def vm{P:Prop}(h:true=false):P:=by cases h
def wP{α:Type _}{P:Prop}{x:α}{l:List α}(h:[]=x::l):P:=by cases h
namespace L2
open PySem PySem.Spec PyProof.Rows List Option
noncomputable abbrev Key:=Sum Int Str
noncomputable def nk:Key->Value->Bool
 | .inl k,v=>Value.isInt k v
 | .inr x,v=>Value.isStrOf x v
noncomputable def HH(w:World):Key->Int
 | .inl k=>hashInt k
 | .inr x=>hashStr w x
def bK:∀{k}{v},nk k v=true->(∃i t,k=Sum.inl i/\v=Value.int i t)\/(∃x t,k=Sum.inr x/\v=Value.str x t)
 | .inl i,v,h=>by
  obtain⟨t,e⟩:=Lm (k:=i) (v:=v) h;exact .inl ⟨i,t,rfl,e⟩
 | .inr x,v,h=>by
  obtain⟨t,e⟩:=Value.isStrOf_shape (x:=x) (v:=v) h;exact .inr ⟨x,t,rfl,e⟩
def vn(i)(t):nk (.inl i) (.int i t)=true:=by simp[nk,Value.isInt]
def vo(x)(t):nk (.inr x) (.str x t)=true:=by simp[nk,Value.isStrOf]
def Co(a b):decide ((Sum.inl a:Key)=Sum.inl b)=(a==b):=by
 by_cases e:a=b
 .subst e;simp
 .simp_all
def Cq(a b):decide ((Sum.inr a:Key)=Sum.inr b)=decide (a=b):=by simp
def Cr(a)(b):decide ((Sum.inl a:Key)=Sum.inr b)=false:=rfl
def Cs(a)(b):decide ((Sum.inr a:Key)=Sum.inl b)=false:=rfl
noncomputable def cu(prog)(w):PySem.KeyKind prog w Key where
 is:=nk
 hash:=HH w
 inj:=λv a b U J=>by
  rcases bK U with⟨i,t,rfl,rfl⟩|⟨x,t,rfl,rfl⟩
  .rcases bK J with⟨j,u,rfl,e⟩|⟨y,u,rfl,e⟩
   .injection e with q _;rw[q]
   .exact nomatch e
  .rcases bK J with⟨j,u,rfl,e⟩|⟨y,u,rfl,e⟩
   .exact nomatch e
   .injection e with q _;rw[q]
 byValue:=λk v h=>by
  rcases bK h with⟨i,t,rfl,rfl⟩|⟨x,t,rfl,rfl⟩<;>rfl
 pyHash:=λD h=>by
  rcases bK D with⟨i,t,rfl,rfl⟩|⟨x,t,rfl,rfl⟩
  .exact wpAny_pyHash_int h
  .exact wpAny_pyHash_str h
 eqBool:=λY D h=>by
  rcases bK Y with⟨i,t,rfl,rfl⟩|⟨x,t,rfl,rfl⟩
  .rcases bK D with⟨j,u,rfl,rfl⟩|⟨y,u,rfl,rfl⟩
   .rw[Co]at h;exact wpAny_eqBool_int h
   .rw[Cr]at h;exact SeqAt.EqAt.int_str i t y u _ _ _ _ h
  .rcases bK D with⟨j,u,rfl,rfl⟩|⟨y,u,rfl,rfl⟩
   .rw[Cs]at h;exact SeqAt.EqAt.str_int x t j u _ _ _ _ h
   .rw[Cq]at h;exact wpAny_eqBool_str h
 «strs»:=λk x t v h=>by
  rcases bK h with⟨i,u,rfl,e⟩|⟨y,u,rfl,e⟩
  .exact nomatch e
  .injection e with q _
   subst q;cases v<;>rfl
def qa(prog)(w)(i)(t):(cu prog w).is (.inl i) (.int i t)=true:=vn i t
def qb(prog)(w)(x)(t):(cu prog w).is (.inr x) (.str x t)=true:=vo x t
inductive V where
 | non|bl (b:Bool)|int (i:Int)|str (x:Str)|byt (b:Array UInt8)|flt (b:UInt64)|ref (a:Addr)|ty (n:String)
 deriving DecidableEq
def aG:V->Value->Prop
 | .non,u=>u=Value.none
 | .bl b,u=>u=Value.bool b
 | .int i,u=>∃t,u=Value.int i t
 | .str x,u=>∃t,u=Value.str x t
 | .byt b,u=>∃t,u=Value.bytes b t
 | .flt b,u=>∃t,u=Value.float b t
 | .ref a,u=>u=Value.ref a
 | .ty n,u=>u=Value.type n
abbrev aA:List V->List Value->Prop:=Paired aG
theorem aA.length(r:aA xs us):xs.length=us.length:=Paired.length r
theorem aA.get:∀{xs}{us}{i:Nat}{x},aA xs us->xs[i]?=some x->∃u,us[i]?=some u/\aG x u
 | _,_,_,_,.nil,e=>by injection e
 | _,_,0,_,.cons r _,e=>by simp at e;subst e;exact⟨_,rfl,r⟩
 | _,_,i+1,x,.cons _ t,e=>by
  obtain⟨u,h1,h2⟩:=aA.get (i:=i) (x:=x) t e;exact⟨u,by simpa using h1,h2⟩
theorem aA.set(r:aG x u):∀{xs}{us} i,aA xs us->aA (xs.set i x) (us.set i u)
 | _,_,_,.nil=>.nil
 | _,_,0,.cons _ t=>.cons r t
 | _,_,i+1,.cons q t=>.cons q (aA.set r i t)
theorem aA.append:∀{xs ys}{us ws},aA xs us->aA ys ws->aA (xs++ys) (us++ws)
 | _,_,_,_,.nil,s=>s
 | _,_,_,_,.cons r t,s=>.cons r (aA.append t s)
theorem aA.take:∀{xs}{us} n,aA xs us->aA (xs.take n) (us.take n)
 | _,_,0,_=>.nil
 | _,_,_+1,.nil=>.nil
 | _,_,n+1,.cons r t=>.cons r (aA.take n t)
theorem aA.drop:∀{xs}{us} n,aA xs us->aA (xs.drop n) (us.drop n)
 | _,_,0,r=>r
 | _,_,_+1,.nil=>.nil
 | _,_,n+1,.cons _ t=>aA.drop n t
def gC:Option V->Option Value->Prop
 |some v,some u=>aG v u
 |none,none=>True
 | _,_=>False
def KV :List (g×V)->List (g×Value)->Prop:=Paired λp q=>p.1=q.1/\aG p.2 q.2
noncomputable def kV:Key->V
 | .inl i=>.int i
 | .inr x=>.str x
inductive HO where
 | lst (xs:List V)
 | tup (xs:List V)
 | dK (kvs:List (Key×V))|dT (kvs:List (List Key×V))
 | set (S:Int->Bool) (n:Nat)
 | ins (C dx:Addr) (fs:List (Str×V))
 | own (x:Addr)
 | xd (fs:List (Str×V))
 | met (f x:Addr)
 | rng (lo hi:Int)
 | frz (o:Obj) (u:HO)
 | tbl (ps:Array Value)
 | ext (φ:Heap->Prop)
noncomputable abbrev Hp:=Addr->Option HO
noncomputable def upd(H:Hp)(a:Addr)(o:HO):Hp:=λb=>if b=a then some o else H b
def ar :upd H a o a=some o:=by unfold upd;rw[if_pos rfl]
def al(h:b≠a):upd H a o b=H b:=by unfold upd;rw[if_neg h]
def aR{H:Hp}{a b:Addr}{o:HO}(h:H a=some o)(h':H b=none):a≠b:=by
 intro e;subst e;rw[h]at h';cases h'
section
variable(P:Program)(w:World)
def bX(H:Hp)(h:Heap)(a:Addr):HO->Prop
 | .lst xs=>xs.length<=sizeLine/\∃its n,aA xs its/\h.get? a=some { cls:=.type "list",data:=.seq its.toArray n }
 | .tup xs=>xs.length<=sizeLine/\∃its,aA xs its/\IsTup h a its.toArray
 | .dK kvs=>kvs.length<=sizeLine/\(a==sysModules)=false/\∃vs,KV kvs vs/\h.DictOf (cu P w) a vs
 | .dT kvs=>kvs.length<=sizeLine/\(a==sysModules)=false/\∃xs,
   Paired (λp q=>p.1=q.1/\H q.2.1=some (.tup (p.1.map kV))/\aG p.2 q.2.2) kvs xs /\
   ∃o es ep,h.get? a=some o/\o.ExactDict/\o.data=.dict es ep/\es.toList=xs.map (entryOfKey (tupleKind (cu P w)))/\(xs.map (·.1)).Nodup
 | .set S n=>h.SetOf (intKind P w) a S n
 | .ins C dx fs=>H dx=some (.own a)/\fs.length<=1000/\dx≠a/\h.get? a=some (PySem.W.instObj C dx) /\
   ∃mA,h.Ns1 dx mA/\(∀f,gC (fs.lookup f) (mA f))/\PySem.Within mA (fs.map (·.1))
 | .own _=>∃o,h.get? a=some o
 | .xd fs=>∃mA,h.Ns1 a mA/\∀f,gC (fs.lookup f) (mA f)
 | .rng lo hi=>∃t u v,h.get? a=some { cls:=.type "range",data:=.fields #[.int lo t,.int hi u,.int 1 v] }
 | .frz o u=>h.get? a=some o/\bX H h a u
 | .tbl ps=>h.get? a=some { cls:=.none,data:=.fields ps }
 | .met f x=>h.get? a=some (PySem.W.methodObj (.ref f) (.ref x))
 | .ext D=>D h/\(∃o,h.get? a=some o)/\∀h1 h2,D h1->(∀o,h1.get? a=some o->h2.get? a=some o)->D h2
def HOk(H:Hp)(h:Heap):Prop:=∀a o,H a=some o->bX P w H h a o
end
section
variable{P:Program}{w:World}{H H':Hp}{h h':Heap}{a:Addr}{o:HO}
theorem bX.lt(x:bX P w H h a o):a<h.objs.size:=by
 cases o with
 |own y=>obtain⟨_,e⟩:=x;exact tr e
 |xd fs=>obtain⟨_,⟨_,_,_,e,_⟩,_⟩:=x;exact tr e
 |ext q=>obtain⟨_,⟨_,e⟩,_⟩:=x;exact tr e
 |lst xs=>obtain⟨_,_,_,_,e⟩:=x;exact tr e
 |tup xs=>obtain⟨_,_,_,p⟩:=x;exact p.lt
 |set S n=>obtain⟨o,_,_,_,e,_⟩:=x;exact tr e
 |frz ob u=>obtain⟨e,_⟩:=x;exact tr e
 |rng lo hi=>obtain⟨_,_,_,e⟩:=x;exact tr e
 |ins C dx fs=>obtain⟨_,_,_,e,_⟩:=x;exact tr e
 |dK kvs|dT kvs=>obtain⟨_,_,_,_,o,_,_,e,_⟩:=x;exact tr e
 | _=>exact tr (show h.get? a=some _ from x)
theorem Paired.mapP :∀{l₁}{l₂},Paired F l₁ l₂->(∀a b,F a b->G a b)->Paired G l₁ l₂
 | _,_,.nil,_=>.nil
 | _,_,.cons r t,f=>.cons (f _ _ r) (Paired.mapP t f)
def bX.stay(x:bX P w H h a o)(k:∀b u,(b=a\/H b=some (.own a))->h.get? b=some u->h'.get? b=some u)
  (ho:∀b,H b=some (.own a)->H' b=some (.own a)) (ht:∀b xs,H b=some (.tup xs)->H' b=some (.tup xs)):bX P w H' h' a o:=by
 induction o with
 |lst xs=>obtain⟨z,its,n,r,e⟩:=x;exact⟨z,its,n,r,k _ _ (.inl rfl) e⟩
 |tup xs=>obtain⟨z,its,r,ob,e,c⟩:=x;exact⟨z,its,r,ob,k _ _ (.inl rfl) e,c⟩
 |dK kvs=>obtain⟨z,y,vs,r,ob,es,ep,e,c⟩:=x;exact⟨z,y,vs,r,ob,es,ep,k _ _ (.inl rfl) e,c⟩
 |dT kvs =>
  obtain⟨z,y,xs,r,ob,es,ep,e,c⟩:=x;exact⟨z,y,xs,Paired.mapP r λp q z=>⟨z.1,ht _ _ z.2.1,z.2.2⟩,ob,es,ep,k _ _ (.inl rfl) e,c⟩
 |set S n=>obtain⟨ob,es,ep,t,e,c⟩:=x;exact⟨ob,es,ep,t,k _ _ (.inl rfl) e,c⟩
 |ins C dx fs =>
  obtain⟨d,z,ne,e,mA,⟨D,es,ep,J,c⟩,r⟩:=x;exact⟨ho _ d,z,ne,k _ _ (.inl rfl) e,mA,⟨D,es,ep,k _ _ (.inr d) J,c⟩,r⟩
 |own y=>obtain⟨ob,e⟩:=x;exact⟨ob,k _ _ (.inl rfl) e⟩
 |xd fs=>obtain⟨mA,⟨D,es,ep,e,c⟩,r⟩:=x;exact⟨mA,⟨D,es,ep,k _ _ (.inl rfl) e,c⟩,r⟩
 |rng lo hi=>obtain⟨t,u,v,e⟩:=x;exact⟨t,u,v,k _ _ (.inl rfl) e⟩
 |frz ob u ih=>obtain⟨e,q⟩:=x;exact⟨k _ _ (.inl rfl) e,ih q⟩
 |tbl ps =>
  have e:=x;exact k a _ (.inl rfl) e
 |met f y =>
  have e:=x;exact k a _ (.inl rfl) e
 |ext U=>obtain⟨p,⟨o,e⟩,st⟩:=x;exact⟨st _ _ p λo q=>k _ _ (.inl rfl) q,⟨o,k _ _ (.inl rfl) e⟩,st⟩
theorem HOk.lt(x:HOk P w H h)(e:H a=some o):a<h.objs.size:=(x a o e).lt
def HOk.fresh(x:HOk P w H h)(e:h.objs.size<=a):H a=none:=by
 cases q:H a<;>first|rfl|exact absurd (x1 (x.lt q) e) (Jm _)
theorem HOk.kept(x:HOk P w H h)(k:∀b u,h.get? b=some u->h'.get? b=some u):HOk P w H h':=λa o e =>
 (x a o e).stay (λb u _ q=>k b u q) (λ_ q=>q) λ_ _ q=>q
theorem HOk.laid(x:HOk P w H h)(k:∀b u,h.get? b=some u->h'.get? b=some u)(J:h.objs.size<=a)(new:bX P w (upd H a o) h' a o):HOk P w (upd H a o) h':=λb u e=>by
 have hn:=x.fresh J;by_cases D:b=a
 .subst D;rw[ar]at e;cases e;exact new
 .rw[al D]at e;exact(x b u e).stay (λc v _ q=>k c v q) (λc q=>by rw[al (aR q hn)];exact q) λc xs q=>by rw[al (aR q hn)];exact q
end
def Rd(H:Hp)(a:Addr)(u:HO):Prop:=H a=some u\/∃o,H a=some (.frz o u)
theorem Rd.ok(r:Rd H a u)(x:HOk P w H h):bX P w H h a u:=by
 rcases r with r|⟨o,r⟩
 .exact x a u r
 .obtain⟨_,q⟩:=x a _ r;exact q
def Mut:Option HO->Prop
 |some (.lst _)=>True
 |some (.dK _)=>True
 |some (.dT _)=>True
 |some (.set _ _)=>True
 |some (.ins _ _ _)=>True
 |some (.ext _)=>True
 | _=>False
section
variable{P:Program}{w:World}{H:Hp}{h h':Heap}{x e:Addr}{o':HO}
def HOk.write(ok:HOk P w H h)(Y:Mut (H x))(he:e=x\/H e=some (.own x))(k:∀b u,b≠e->h.get? b=some u->h'.get? b=some u)(Z:∃u,h'.get? e=some u)
  (new:bX P w (upd H x o') h' x o'):HOk P w (upd H x o') h':=λb u q=>by
 have J:∀c y,H c=some (.own y)->c≠x:=λc y r z=>by subst z;rw[r]at Y;exact Y
 have U:∀c xs,H c=some (.tup xs)->c≠x:=λc xs r z=>by subst z;rw[r]at Y;exact Y
 by_cases hb:b=x
 .subst hb;rw[ar]at q;cases q;exact new
 .rw[al hb]at q;by_cases D:b=e
  .have q':H b=some (.own x):=by
    rcases he with z|z
    .exact absurd (D.trans z) hb
    .rw[D];exact z
   rw[q]at q';cases q'
   obtain⟨v,hv⟩:=Z;exact⟨v,by rw[D];exact hv⟩
  .refine(ok b u q).stay (λc v hc r=>k c v ?_ r) (λc r=>by rw[al (J c b r)];exact r) λc xs r=>by rw[al (U c xs r)];exact r
   rcases hc with rfl|hc
   .exact D
   .rintro rfl
    simp_all
end
structure Un(fs ex:List Addr)(H H':Hp)(h h':Heap):Prop where
 keep:∀b o,h.get? b=some o->H b=none->b∉fs->b∉ex->h'.get? b=some o
 slot:∀b o,h.get? b=some o->H b=none->b∈fs->b∉ex->∃sl,h'.get? b=some { o with slots:=sl }
 free:∀b o,h.get? b=some o->H b=none->b∉ex->H' b=none
 there:∀b o,h.get? b=some o->b∉ex->∃o',h'.get? b=some o'
 tups:∀b xs,H b=some (.tup xs)->H' b=some (.tup xs)
 frzs:∀b o u,H b=some (.frz o u)->H' b=some (.frz o u)
 tbls:∀b ps,H b=some (.tbl ps)->∃more,H' b=some (.tbl (ps++more))
section
variable{fs fs' ex ex':List Addr}{H H1 H2:Hp}{h h1 h2 h':Heap}{a x e:Addr}{o:HO}
theorem Un.any(u:Un fs ex H H1 h h1)(q:h.get? b=some ob)(n:H b=none)(hx:b∉ex):∃J,h1.get? b=some { ob with slots:=J }:=by
 by_cases D:b∈fs
 .exact u.slot b ob q n D hx
 .exact⟨ob.slots,u.keep b ob q n D hx⟩
def Un.kept(k:∀b u,h.get? b=some u->h'.get? b=some u):Un fs ex H H h h':=
 ⟨λb ob q _ _ _=>k b ob q,λb ob q _ _ _=>⟨ob.slots,k b ob q⟩,λ_ _ _ n _=>n,λb ob q _=>⟨ob,k b ob q⟩,λ_ _ q=>q,λ_ _ _ q=>q,λ_ ps q=>⟨#[],by rw[q];rfl⟩⟩
def Un.refl:Un fs ex H H h h:=Un.kept λ_ _ q=>q
def Un.laid(k:∀b u,h.get? b=some u->h'.get? b=some u)(D:h.objs.size<=a)(hn:H a=none):Un fs ex H (upd H a o) h h' where
 keep:=λb u q _ _ _=>k b u q
 slot:=λb u q _ _ _=>⟨u.slots,k b u q⟩
 free:=λb u q n _=>by rw[al (IL (x1 (tr q) D))];exact n
 there:=λb u q _=>⟨u,k b u q⟩
 tups:=λb xs q=>by rw[al (aR q hn)];exact q
 frzs:=λb u xs q=>by rw[al (aR q hn)];exact q
 tbls:=λb ps q=>⟨#[],by rw[al (aR q hn),q];rfl⟩
def Un.write(J:Mut (H x))(Z:e=x\/H e=some (.own x))(k:∀b u,b≠e->h.get? b=some u->h'.get? b=some u)(U:∃u,h'.get? e=some u):Un fs ex H (upd H x o) h h':=by
 have hx:∀b,H b=none->b≠x:=λb n z=>by subst z;rw[n]at J;exact J
 have Y:∀b,H b=none->b≠e:=λb n z=>by
  simp_all
 have hm:∀b u,H b=some u->¬ Mut (some u)->b≠x:=λb u q nm z=>by subst z;rw[q]at J;exact nm J
 refine⟨λb u q n _ _=>k b u (Y b n) q,λb u q n _ _=>⟨u.slots,k b u (Y b n) q⟩,λb u q n _=>by rw[al (hx b n)];exact n,λb u q _=>?_,
  λb xs q=>by rw[al (hm b _ q λz=>z)];exact q,λb u xs q=>by rw[al (hm b _ q λz=>z)];exact q,λb ps q=>⟨#[],by rw[al (hm b _ q λz=>z),q];rfl⟩⟩
 by_cases D:b=e
 .subst D;exact U
 .exact⟨u,k b u D q⟩
end
noncomputable def trk(h:Heap)(H:Hp):List Addr:=(range h.objs.size).filter λa=>(H a).isSome
noncomputable def oC(h:Heap)(H:Hp):Heap:=PySem.W.hideAll h (trk h H)
def vq(h)(H):(oC h H).objs.size=h.objs.size:=PySem.W.hideAll_size _ _
def wQ{H:Hp}{b:Addr}{o:Obj}(e:h.get? b=some o)(n:H b=none):(oC h H).get? b=some o:=
 PySem.W.hideAll_get _ e λhm=>by
  have q:=(IV.mp hm).2;rw[n]at q;simp at q
def zR(e:(oC h H).get? b=some o):h.get? b=some o/\H b=none:=by
 have D:=PySem.W.of_hideAll _ e;refine⟨D,?_⟩;cases q:H b with
 |none=>rfl
 |some x =>
  have hm:b∈trk h H:=IV.mpr ⟨mem_range.mpr (tr D),by simp[q]⟩;have z:(oC h H).get? b=none:=PySem.W.hideAll_none _ hm;rw[z]at e;exact aP e
noncomputable def zS(g h:Heap)(L:Addr):List (Addr×Obj):=(range h.objs.size).filterMap λa=>if a=L\/(g.get? a).isSome=true then none else(h.get? a).map λo=>(a,o)
noncomputable def cO(g h:Heap)(L d:Addr):List (Addr×Obj):=(zS g h L).filter λp=>decide (p.1≠d)
structure Mod(K:LI)(mg:Str->Option Value)(base:Heap):Prop where
 kin:K.In base
 glob:base.Ns mainGlobals mg
 blt:∃mb,base.Ns builtinsNs mb/\∀x:Str,x ≠ "__name__"->mb x=bootBuiltins x
 nolimit:base.NoLimit
structure Cx where
 prog:Program
 w:World
 K:LI
 mg:Str->Option Value
 base:Heap
 A:Around
 N:List Str
 s₀:Shared
 H₀:Hp
 env:Env
 outer:List Env
 stack:List Env
 ex:List Addr
 fn:Str->Bool
 calm:Bool
 pn:List (Addr×Obj)
 xe:Value->Shared->Prop
noncomputable def frs(l:List Env):List Addr:=l.filterMap (·.frame)
noncomputable abbrev Cx.fs(X:Cx):List Addr:=frs X.outer
def Vis(sc:Scope)(x:Str):Prop:=sc.names.lookup x=some .local\/sc.names.lookup x=some .cell\/sc.names.lookup x=some .free
def Loc(sc:Scope)(x:Str):Prop:=sc.names.lookup x=some .local\/sc.names.lookup x=some .cell
def HI(env:Env)(h:Heap)(m:Str->Option Value)(x:Str)(u:Value):Prop:=
 (env.kindOf x=some .local/\m x=some u)\/((env.kindOf x=some .cell\/env.kindOf x=some .free)/\∃c,env.cells.lookup x=some c/\h.IsCell c (some u))
structure Cx.Ok(X:Cx):Prop where
 mod:Mod X.K X.mg X.base
 kind:X.env.scope.kind=.function
 glob:X.env.globals=mainGlobals
 blt:X.env.builtins=builtinsNs
 above:X.s₀.heap.objs.size<=X.env.locals
 inj:∀x y c,X.env.cells.lookup x=some c->X.env.cells.lookup y=some c->x=y
 has:∀x,(X.env.kindOf x=some .cell\/X.env.kindOf x=some .free)->∃c,X.env.cells.lookup x=some c
 cab:∀x c,X.fn x=true->X.env.cells.lookup x=some c->X.s₀.heap.objs.size<=c
 hd:X.calm=true->X.A.handled=none
 frames:X.A.frames=some X.stack
 stk:X.stack=X.outer\/(X.stack=X.env::X.outer/\X.env.frame=some X.env.locals)
 exf:∀b∈X.ex,b≠X.env.locals/\∀x c,X.env.cells.lookup x=some c->c≠b
 bs:∀b o,X.base.get? b=some o->X.s₀.heap.get? b=some o/\X.H₀ b=none
 bsz:X.base.objs.size<=X.s₀.heap.objs.size
 noex:∀b o,X.base.get? b=some o->b∉X.ex
 exfs:∀b∈X.ex,b∉X.fs
 funs:X.s₀.heap.FunFrames X.base X.outer
 frf:∀b∈X.fs,X.H₀ b=none
structure Inv(X:Cx)(pins:List (Addr×Obj))(σ:List (Option V))(H:Hp)(s:Shared):Prop where
 ok:X.Ok
 os:s.os=X.s₀.os
 bare:AllBare s.gens
 base:Un X.fs X.ex X.H₀ H X.s₀.heap s.heap
 loc:∃m,s.heap.Ns X.env.locals m/\∀(i:Nat) (x:Str) (v:V),X.N[i]?=some x->σ[i]?=some (some v)->Vis X.env.scope x->∃u,aG v u/\HI X.env s.heap m x u
 cell:∀x c,X.env.cells.lookup x=some c->∃v,s.heap.IsCell c v
 free:H X.env.locals=none
 freeC:∀x c,X.env.cells.lookup x=some c->H c=none
 pin:∀p∈X.pn++pins,s.heap.get? p.1=some p.2/\H p.1=none/\p.1≠X.env.locals/\p.1∉X.fs/\∀v,p.2.data≠.cell v
 hok:HOk X.prog X.w H s.heap
 len:σ.length=X.N.length
section
variable{X:Cx}{pins:List (Addr×Obj)}{σ:List (Option V)}{H H':Hp}{s:Shared}{h':Heap}
theorem Cx.Ok.nofr(ok:X.Ok)(e:X.base.get? b=some o):b∉X.fs:=λq=>by
 have:=(ok.funs.mem q).1;rw[e]at this;cases this
theorem Inv.bs(I:Inv X pins σ H s):∀b o,X.base.get? b=some o->s.heap.get? b=some o/\H b=none:=λb o e =>
 ⟨I.base.keep b o (I.ok.bs b o e).1 (I.ok.bs b o e).2 (I.ok.nofr e) (I.ok.noex b o e),I.base.free b o (I.ok.bs b o e).1 (I.ok.bs b o e).2 (I.ok.noex b o e)⟩
theorem Inv.bk(I:Inv X pins σ H s):∀b o,X.base.get? b=some o->s.heap.get? b=some o:=λb o e=>(I.bs b o e).1
theorem Inv.mod(I:Inv X pins σ H s):Mod X.K X.mg X.base:=I.ok.mod
theorem Inv.kIn(I:Inv X pins σ H s):X.K.In s.heap:=I.ok.mod.kin.keeps I.bk
theorem Inv.lt(I:Inv X pins σ H s):X.env.locals<s.heap.objs.size:=let ⟨_,hn,_⟩:=I.loc;hn.lt
theorem Inv.sz(I:Inv X pins σ H s):X.s₀.heap.objs.size<=s.heap.objs.size:=IK I.ok.above (Jy I.lt)
theorem Inv.nofs(I:Inv X pins σ H s)(h:s.heap.objs.size<=a):a∉X.fs:=λq=>by
 obtain⟨_,o,ho,_⟩:=I.ok.funs.mem q;exact absurd (x1 (tr ho) (IK I.sz h)) (Jm _)
theorem Inv.cne(I:Inv X pins σ H s):∀x c,X.env.cells.lookup x=some c->c≠X.env.locals:=λx c e z=>by
 refine cr (I.cell x c e) λv o ho hd=>?_
 obtain⟨m,⟨o',es,ep,q,D,_⟩,_⟩:=I.loc
 simp_all
theorem Inv.funs(I:Inv X pins σ H s):s.heap.FunFrames X.base X.outer:=by
 have all:∀l,(∀b∈frs l,b∈X.fs)->X.s₀.heap.FunFrames X.base l->s.heap.FunFrames X.base l:=by
  intro l
  induction l with
  |nil=>intro _ _;trivial
  |cons env r ih =>
   intro J hl;obtain⟨U,⟨L,o,q,hn,ho,hd⟩,hr⟩:=hl;have hL:=J L (by unfold frs;rw[filterMap_cons,q];exact Jz);obtain⟨Y,e⟩:=I.base.slot L o ho (I.ok.frf L hL) hL λz=>I.ok.exfs L z hL
   exact⟨U,⟨L,_,q,hn,e,hd⟩,ih (λb D=>J b (by unfold frs;rw[filterMap_cons,q];exact Je _ D)) hr⟩
 exact all X.outer (λ_ D=>D) I.ok.funs
theorem Inv.stack(I:Inv X pins σ H s):s.heap.FunFrames X.base X.stack:=by
 rcases I.ok.stk with e|⟨e,q⟩
 .rw[e];exact I.funs
 .rw[e];refine ae I.loc λm hn _=>?_
  refine .cons (by rw[I.ok.kind];decide) q hn ?_ I.funs;exact Heap.get?_none_of_le (IK I.ok.bsz I.ok.above)
def Inv.stkSub(I:Inv X pins σ H s):∀b∈frs X.stack,b∈X.env.locals::X.fs:=λb q=>by
 rcases I.ok.stk with e|⟨e,D⟩
 .rw[e]at q;exact Je _ q
 .rw[e]at q;unfold frs at q;rw[filterMap_cons,D]at q;exact q
def Inv.stkFree(I:Inv X pins σ H s):∀b∈frs X.stack,H b=none:=λb q=>by
 rcases rb.mp (I.stkSub b q)with e|q
 .rw[e];exact I.free
 .obtain⟨_,o,ho,_⟩:=I.ok.funs.mem q;exact I.base.free b o ho (I.ok.frf b q) λz=>I.ok.exfs b z q
theorem Inv.step{ch:List Addr}(I:Inv X pins σ H s)
  (D:∀b∈ch,(b∈X.ex\/X.s₀.heap.objs.size<=b)/\b≠X.env.locals/\(∀x c,X.env.cells.lookup x=some c->c≠b)/\∀p∈X.pn++pins,p.1≠b)
  (keep:∀b o,b≠X.env.locals->b∉X.fs->b∉ch->s.heap.get? b=some o->H b=none->h'.get? b=some o)
  (slot:∀b o,b≠X.env.locals->b∈X.fs->b∉ch->s.heap.get? b=some o->H b=none->∃sl,h'.get? b=some { o with slots:=sl }) (free:∀b o,b∉ch->s.heap.get? b=some o->H b=none->H' b=none)
  (there:∀b o,b∉ch->s.heap.get? b=some o->∃o',h'.get? b=some o')
  (tups:∀b xs,H b=some (.tup xs)->H' b=some (.tup xs)) (frzs:∀b o u,H b=some (.frz o u)->H' b=some (.frz o u)) (tbls:∀b ps,H b=some (.tbl ps)->∃aL,H' b=some (.tbl (ps++aL)))
  (ns:∀m,s.heap.Ns X.env.locals m->h'.Ns X.env.locals m) (hok:HOk X.prog X.w H' h') (hg:AllBare g') :
  Inv X pins σ H' { s with heap:=h',gens:=g',drawn:=d',toks:=t' }:=by
 have a0:∀b o,X.s₀.heap.get? b=some o->b≠X.env.locals:=λb o e=>IL (x1 (tr e) I.ok.above)
 have Y:∀b o,X.s₀.heap.get? b=some o->b∉X.ex->b∉ch:=λb o e hx hb=>by
  rcases(D b hb).1 with z|z
  .exact hx z
  .exact absurd (x1 (tr e) z) (Jm _)
 have J:∀x c,X.env.cells.lookup x=some c->∀v,s.heap.IsCell c v->h'.IsCell c v:=λx c e v hq=>ae hq λo ho hd=>by
  have U:c∉ch:=λz=>(D c z).2.2.1 x c e rfl
  by_cases hc:c∈X.fs
  .obtain⟨sl,q⟩:=slot c o (I.cne x c e) hc U ho (I.freeC x c e);exact⟨_,q,hd⟩
  .exact⟨o,keep c o (I.cne x c e) hc U ho (I.freeC x c e),hd⟩
 refine⟨I.ok,I.os,hg,⟨λb o e n hb hx=>?_,λb o e n hb hx=>?_,λb o e n hx=>?_,λb o e hx=>?_,λb xs e=>tups b xs (I.base.tups b xs e),λb o xs e=>frzs b o xs (I.base.frzs b o xs e),λb ps e=>?_⟩,?_,λx c e=>?_,?_,λx c e=>?_,λp hp=>?_,hok,I.len⟩
 .exact keep b o (a0 b o e) hb (Y b o e hx) (I.base.keep b o e n hb hx) (I.base.free b o e n hx)
 .obtain⟨sl,Z⟩:=I.base.slot b o e n hb hx;obtain⟨a3,e2⟩:=slot b _ (a0 b o e) hb (Y b o e hx) Z (I.base.free b o e n hx);exact⟨a3,e2⟩
 .obtain⟨o',Z⟩:=I.base.there b o e hx;exact free b o' (Y b o e hx) Z (I.base.free b o e n hx)
 .obtain⟨o',Z⟩:=I.base.there b o e hx;exact there b o' (Y b o e hx) Z
 .obtain⟨m1,Z⟩:=I.base.tbls b ps e;obtain⟨m2,e2⟩:=tbls b _ Z;exact⟨m1++m2,by rw[e2,Array.append_assoc]⟩
 .refine ae I.loc λm hn hl=>?_
  refine⟨m,ns m hn,λi x v Z e2 e3=>?_⟩;refine ae (hl i x v Z e2 e3) λu r l=>?_
  refine⟨u,r,?_⟩;rcases l with l|⟨k,c,e,z⟩
  .exact .inl l
  .exact .inr ⟨k,c,e,J x c e _ z⟩
 .obtain⟨v,z⟩:=I.cell x c e;exact⟨v,J x c e v z⟩
 .obtain⟨m,⟨o,_,_,ho,_⟩,_⟩:=I.loc;exact free _ o (λz=>(D _ z).2.1 rfl) ho I.free
 .refine cr (I.cell x c e) λv o ho hd=>?_
  exact free c o (λz=>(D c z).2.2.1 x c e rfl) ho (I.freeC x c e)
 .refine wL (I.pin p hp) λe n ne nf d=>?_
  have U:p.1∉ch:=λz=>(D p.1 z).2.2.2 p hp rfl
  exact⟨keep p.1 p.2 ne nf U e n,free p.1 p.2 U e n,ne,nf,d⟩
theorem Inv.un(I:Inv X pins σ H s)(u:Un X.fs [] H H' s.heap h')(hok:HOk X.prog X.w H' h'):Inv X pins σ H' { s with heap:=h',toks:=t' }:=by
 obtain⟨m,⟨o,es,ep,ho,r⟩,_⟩:=id I.loc;obtain⟨Z,hL⟩:=u.any ho I.free (by simp);exact I.step (ch:=[]) (λ_ z=>nomatch z) (λb o _ D _ e n=>u.keep b o e n D (by simp)) (λb o _ D _ e n=>u.slot b o e n D (by simp)) (λb o _ e n=>u.free b o e n (by simp)) (λb o _ e=>u.there b o e (by simp)) u.tups u.frzs u.tbls (λm' hm=>by
  refine wO hm λo' J U q Y=>?_
  rw[ho]at q;cases q
  exact⟨_,J,U,hL,Y⟩) hok I.bare
theorem Inv.call(I:Inv X pins σ H s)(u:Un (frs X.stack) ch H H' s.heap h')(hok:HOk X.prog X.w H' h')(Y:AllBare g')
  (q:∀b∈ch,(b∈X.ex\/X.s₀.heap.objs.size<=b)/\b≠X.env.locals/\(∀x c,X.env.cells.lookup x=some c->c≠b)/\∀p∈X.pn++pins,p.1≠b) :
  Inv X pins σ H' { s with heap:=h',gens:=g',drawn:=d',toks:=t' }:=by
 obtain⟨m,⟨o,es,ep,ho,r⟩,_⟩:=id I.loc;obtain⟨sl,hL⟩:=u.any ho I.free λz=>(q _ z).2.1 rfl
 exact I.step q (λb o hL Z hc e n=>u.keep b o e n (λz=>(rb.mp (I.stkSub b z)).elim hL Z) hc) (λb o _ _ hc e n=>u.any e n hc) (λb o hc e n=>u.free b o e n hc) (λb o hc e=>u.there b o e hc) u.tups u.frzs u.tbls (λm' hm=>by
  refine wO hm λo' J U D r'=>?_
  rw[ho]at D;cases D
  exact⟨_,J,U,hL,r'⟩) hok Y
def Inv.turned(I:Inv X pins σ H s)(k:∀b o,b≠it->s.heap.get? b=some o->h'.get? b=some o)(hn:H it=none)(hL:it≠X.env.locals)
  (h1:it∈X.ex\/X.s₀.heap.objs.size<=it) (h2:∀x c,X.env.cells.lookup x=some c->c≠it) (h3:∀p∈X.pn++pins,p.1≠it):Inv X pins σ H { s with heap:=h',toks:=t' }:=by
 have D:∀b u,H b=some u->b≠it:=λb u e z=>by rw[z,hn]at e;exact aP e
 refine I.step (ch:=[it]) (λb J=>?_) (λb o _ _ hc e _=>k b o (λz=>hc (by simp[z])) e) (λb o _ _ hc e _=>⟨o.slots,k b o (λz=>hc (by simp[z])) e⟩) (λ_ _ _ _ n=>n)
  (λb o hc e=>⟨o,k b o (λz=>hc (by simp[z])) e⟩) (λ_ _ e=>e) (λ_ _ _ e=>e) (λb ps e=>⟨#[],by rw[e];rfl⟩) (λm hm=>?_) (λb u e=>?_) I.bare
 .have e:b=it:=by simpa using J
  subst e;exact⟨h1,hL,h2,h3⟩
 .refine wO hm λo es ep ho r=>?_
  exact⟨o,es,ep,k _ o (Jk hL) ho,r⟩
 .refine(I.hok b u e).stay (λc v hc q=>k c v ?_ q) (λ_ q=>q) λ_ _ q=>q
  rcases hc with z|z
  .rw[z];exact D b u e
  .exact D c _ z
theorem Inv.tok(I:Inv X pins σ H s)(t):Inv X pins σ H { s with toks:=t }:=I.un (h':=s.heap) (t':=t) Un.refl I.hok
theorem Inv.kept(I:Inv X pins σ H s)(k:∀b u,s.heap.get? b=some u->h'.get? b=some u):Inv X pins σ H { s with heap:=h',toks:=t' }:=I.un (Un.kept k) (I.hok.kept k)
theorem Inv.laid(I:Inv X pins σ H s)(k:∀b u,s.heap.get? b=some u->h'.get? b=some u)(q:s.heap.objs.size<=a)(new:bX X.prog X.w (upd H a o) h' a o) :
  Inv X pins σ (upd H a o) { s with heap:=h',toks:=t' }:=I.un (Un.laid k q (I.hok.fresh q)) (I.hok.laid k q new)
theorem Inv.write(I:Inv X pins σ H s)(D:Mut (H x))(J:e=x\/H e=some (.own x))(k:∀b u,b≠e->s.heap.get? b=some u->h'.get? b=some u)(q:∃u,h'.get? e=some u)
  (new:bX X.prog X.w (upd H x o) h' x o):Inv X pins σ (upd H x o) { s with heap:=h',toks:=t' }:=I.un (Un.write D J k q) (I.hok.write D J k q new)
def Inv.pins_of{q:List (Addr×Obj)}(I:Inv X pins σ H s)(h:∀p∈q,s.heap.get? p.1=some p.2/\H p.1=none/\p.1≠X.env.locals/\p.1∉X.fs/\∀v,p.2.data≠.cell v):Inv X q σ H s:=
 ⟨I.ok,I.os,I.bare,I.base,I.loc,I.cell,I.free,I.freeC,λp D=>(Kq.mp D).elim (λz=>I.pin p (mem_append_left _ z)) (h p),I.hok,I.len⟩
def qc{N:List Str}(q:N.Nodup){i j:Nat}(a:N[i]?=some x)(b:N[j]?=some x):i=j:=by
 obtain⟨h1,D⟩:=vp.mp a;obtain⟨h2,J⟩:=vp.mp b;exact(getElem_inj q).mp (D.trans J.symm)
def nq{i:Nat}{x:Str}{v:V}{u:Value}{Q:Unit->Shared->Prop}(I:Inv X pins σ H s)(hN:X.N.Nodup)(hi:X.N[i]?=some x)(hx:Loc X.env.scope x)(r:aG v u)
  (h:∀s',Inv X pins (σ.set i (some v)) H s'->(∃a,Heap.SameBut a s.heap s'.heap/\(a=X.env.locals\/X.env.cells.lookup x=some a))->Q () s') (hf:X.fn x=true\/X.env.scope.names.lookup x=some .local:=by first|exact .inl rfl|exact .inr rfl|assumption):wpAny M A (storeName X.env x u) Q E s:=by
 refine ae (id I.loc) λm hn hl=>?_
 have a3:(X.env.scope.kind==.class||(X.env.scope.kind==.module&&X.env.locals != X.env.globals))=false:=by rw[I.ok.kind];rfl
 have ao:i<σ.length:=by rw[I.len];exact(vp.mp hi).1
 have cne:=I.cne;have J:∀{a}{h'},(∃o,s.heap.get? a=some o/\H a=none)->Heap.SameBut a s.heap h'->HOk X.prog X.w H h':=λ{a h'} ha D b ob e=>by
  obtain⟨_,_,Y⟩:=ha;refine(I.hok b ob e).stay (λc w' hc q=>(D.2 c ?_).trans q) (λ_ q=>q) λ_ _ q=>q
  rintro rfl;rcases hc with rfl|hc
  .rw[Y]at e;exact aP e
  .rw[Y]at hc;exact aP hc
 rcases hx with hk|hk
 .refine wpAny_storeName_local hk hn (λh' bT D=>?_) a3;obtain⟨oL,_,_,b0,_⟩:=id hn;refine h _ ⟨I.ok,I.os,I.bare,⟨λb o e n hb hx=>?_,λb o e n hb hx=>?_,I.base.free,λb o e hx=>?_,I.base.tups,I.base.frzs,I.base.tbls⟩,⟨_,bT,λj y v' U Z e3=>?_⟩,λy c e=>?_,I.free,I.freeC,λp hp=>?_,J ⟨oL,b0,I.free⟩ D,by simpa using I.len⟩ ⟨_,D,.inl rfl⟩
  .exact(D.2 b (IL (x1 (tr e) I.ok.above))).trans (I.base.keep b o e n hb hx)
  .obtain⟨sl,U⟩:=I.base.slot b o e n hb hx;exact⟨sl,(D.2 b (IL (x1 (tr e) I.ok.above))).trans U⟩
  .obtain⟨o',U⟩:=I.base.there b o e hx;exact⟨o',(D.2 b (IL (x1 (tr e) I.ok.above))).trans U⟩
  .by_cases hj:j=i
   .subst hj;rw[hi]at U;cases U
    rw[Jd ao]at Z;cases Z;exact⟨u,r,.inl ⟨hk,by simp⟩⟩
   .rw[u1 (Jk hj)]at Z;refine ae (hl j y v' U Z e3) λu' r' q=>?_
    refine⟨u',r',?_⟩;rcases q with⟨k,e⟩|⟨k,c,e,z⟩
    .refine .inl ⟨k,?_⟩;have:y≠x:=λe=>hj (qc hN U (e▸hi))
     simp[this,e]
    .exact .inr ⟨k,c,e,z.sameBut D (cne y c e)⟩
  .obtain⟨w',z⟩:=I.cell y c e;exact⟨w',z.sameBut D (cne y c e)⟩
  .refine wL (I.pin p hp) λe n ne nf d=>?_
   exact⟨(D.2 p.1 ne).trans e,n,ne,nf,d⟩
 .have a2:X.fn x=true:=by
   rcases hf with z|z
   .exact z
   .rw[z]at hk;cases hk
  obtain⟨c,hc⟩:=I.ok.has x (.inl hk);obtain⟨w',z⟩:=I.cell x c hc;refine wpAny_storeName_cell I.ok.kind hk hc z (λh' a4 D=>?_);refine ae (id z) λoc a5 a6=>?_
  refine h { s with heap:=h' } ⟨I.ok,I.os,I.bare,⟨λb o e n hb hx=>?_,λb o e n hb hx=>?_,I.base.free,λb o e hx=>?_,I.base.tups,I.base.frzs,I.base.tbls⟩,⟨m,hn.sameBut D (Jk (cne x c hc)),λj y v' U Z e3=>?_⟩,λy c' e=>?_,I.free,I.freeC,λp hp=>?_,J ⟨oc,a5,I.freeC x c hc⟩ D,by simpa using I.len⟩ ⟨c,D,.inr hc⟩
  .exact(D.2 b (IL (x1 (tr e) (I.ok.cab x c a2 hc)))).trans (I.base.keep b o e n hb hx)
  .obtain⟨sl,U⟩:=I.base.slot b o e n hb hx;exact⟨sl,(D.2 b (IL (x1 (tr e) (I.ok.cab x c a2 hc)))).trans U⟩
  .obtain⟨o',U⟩:=I.base.there b o e hx;exact⟨o',(D.2 b (IL (x1 (tr e) (I.ok.cab x c a2 hc)))).trans U⟩
  .by_cases hj:j=i
   .subst hj;rw[hi]at U;cases U
    rw[Jd ao]at Z;cases Z;exact⟨u,r,.inr ⟨.inl hk,c,hc,a4⟩⟩
   .rw[u1 (Jk hj)]at Z;refine ae (hl j y v' U Z e3) λu' r' q=>?_
    refine⟨u',r',?_⟩;rcases q with q|⟨k,c',e,z'⟩
    .exact .inl q
    .refine .inr ⟨k,c',e,z'.sameBut D ?_⟩;rintro rfl;exact hj (qc hN U (I.ok.inj _ _ _ e hc▸hi))
  .by_cases bt:c'=c
   .subst bt;exact⟨_,a4⟩
   .obtain⟨w2,z2⟩:=I.cell y c' e;exact⟨w2,z2.sameBut D bt⟩
  .refine wL (I.pin p hp) λe n ne nf d=>?_
   refine⟨(D.2 p.1 ?_).trans e,n,ne,nf,d⟩;intro q;rw[q,a5]at e;have q':=x2 e;exact d w' (by rw[<- q'];exact a6)
def qd{i:Nat}{x:Str}{v:V}{u:Value}{Q:Unit->Shared->Prop}(I:Inv X pins σ H s)(q:X.N.Nodup)(hi:X.N[i]?=some x)(hx:Loc X.env.scope x)(r:aG v u)
  (h:∀s',Inv X pins (σ.set i (some v)) H s'->Q () s') (D:X.fn x=true\/X.env.scope.names.lookup x=some .local:=by first|exact .inl rfl|exact .inr rfl|assumption):wpAny M A (storeName X.env x u) Q E s:=
 nq I q hi hx r (λs' J _=>h s' J) D
def Inv.call'(I:Inv X pins σ H s)(ho:s'.os=s.os)(u:Un (frs X.stack) ch H H' s.heap s'.heap)(hok:HOk X.prog X.w H' s'.heap)(D:AllBare s'.gens)
  (q:∀b∈ch,(b∈X.ex\/X.s₀.heap.objs.size<=b)/\b≠X.env.locals/\(∀x c,X.env.cells.lookup x=some c->c≠b)/\∀p∈X.pn++pins,p.1≠b):Inv X pins σ H' s':=by
 obtain⟨h',g',d',t',o'⟩:=s';have e:=ho;subst e;exact I.call u hok D q
end
noncomputable abbrev XK:=Value->Option Addr->Hp->Prop
noncomputable abbrev St:=List (Option V)
noncomputable abbrev VK:=V->Hp->Prop
noncomputable abbrev TE:=St->Hp->VK->Prop
noncomputable abbrev TT:=St->Hp->(Bool->Hp->Prop)->Prop
noncomputable abbrev TA:=St->Hp->(List V->Hp->Prop)->Prop
structure mS where
 nx:St->Hp->Prop
 rt:VK
 bk:St->Hp->Prop:=λ_ _=>False
 ct:St->Hp->Prop:=λ_ _=>False
noncomputable abbrev TS:=mS->St->Hp->Prop
def EP(X:Cx)(pins:List (Addr×Obj))(σ:St)(Q:VK)(u:Value)(s':Shared):Prop:=∃v H',Inv X pins σ H' s'/\aG v u/\Q v H'
def TP(X:Cx)(pins:List (Addr×Obj))(σ:St)(Q:Bool->Hp->Prop)(b:Bool)(s':Shared):Prop:=∃H',Inv X pins σ H' s'/\Q b H'
def AP(X:Cx)(pins:List (Addr×Obj))(σ:St)(Q:List V->Hp->Prop)(us:List Value)(s':Shared):Prop:=∃vs H',Inv X pins σ H' s'/\aA vs us/\Q vs H'
def SP(X:Cx)(pins:List (Addr×Obj))(D:mS)(f:Flow)(s':Shared):Prop:=
 match f with
 | .next=>∃q H',Inv X pins q H' s'/\D.nx q H'
 | .brk=>∃q H',Inv X pins q H' s'/\D.bk q H'
 | .cont=>∃q H',Inv X pins q H' s'/\D.ct q H'
 | .ret u=>∃v q H',Inv X pins q H' s'/\aG v u/\D.rt v H'
def PE(X:Cx)(e:Expr)(t:TE):Prop:=
 ∀pins s (σ:St) H Q,Inv X pins σ H s->t σ H Q->wpAny (model X.prog X.w) X.A (eval e X.env) (EP X pins σ Q) X.xe s
def PT(X:Cx)(e:Expr)(t:TT):Prop:=
 ∀pins s (σ:St) H Q,Inv X pins σ H s->t σ H Q->wpAny (model X.prog X.w) X.A (isTrue e X.env (eval e X.env)) (TP X pins σ Q) X.xe s
def PW(X:Cx)(e:Expr)(t:TT):Prop:=
 ∀whole pins s (σ:St) H Q,Inv X pins σ H s->t σ H Q->wpAny (model X.prog X.w) X.A (isTrue e X.env whole) (TP X pins σ Q) X.xe s
theorem PW.pt(h:PW X e t):PT X e t:=h _
def PA(X:Cx)(es:List Expr)(t:TA):Prop:=
 ∀pos pins s (σ:St) H Q,Inv X pins σ H s->t σ H Q->wpAny (model X.prog X.w) X.A (spliced (backTo pos (starEach es X.env))) (AP X pins σ Q) X.xe s
def PS(X:Cx)(st:Stmt)(t:TS):Prop:=
 ∀pins s (σ:St) H D,Inv X pins σ H s->t D σ H->wpAny (model X.prog X.w) X.A (exec st X.env) (SP X pins D) X.xe s
def PSs(X:Cx)(st:List Stmt)(t:TS):Prop:=
 ∀pins s (σ:St) H D,Inv X pins σ H s->t D σ H->wpAny (model X.prog X.w) X.A (execs st X.env) (SP X pins D) X.xe s
def thn(h:wpAny M A t Q E s)(q:∀a s,Q a s->D a s):wpAny M A t D E s:=Jj h q λ_ _ x=>x
section
variable{X:Cx}
def bin(Y:PE X a ta)(Z:PE X b tb){σ:St}{R:V->V->Hp->Prop}(I:Inv X pins σ H s)(h:ta σ H λx H1=>tb σ H1 λy H2=>R x y H2)
  {f:Value->Value->Sem α}
  (hf:∀v u J x y H2,Inv X pins σ H2 J->aG x v->aG y u->R x y H2->wpAny (model X.prog X.w) X.A (f v u) Q X.xe J) :
  wpAny (model X.prog X.w) X.A (eval a X.env) (λv q=>wpAny (model X.prog X.w) X.A (eval b X.env) (λu D=>wpAny (model X.prog X.w) X.A (f v u) Q X.xe D) X.xe q) X.xe s:=by
 refine thn (Y pins s σ H _ I h) λv s1 U=>aq U λx H1 I1 r1 q1=>?_
 refine thn (Z pins s1 σ H1 _ I1 q1) λu J U=>aq U λy H2 I2 r2 q2=>?_
 exact hf v u J x y H2 I2 r1 r2 q2
noncomputable def dP(i:Nat):TE:=λσ H Q=>∃v,σ[i]?=some (some v)/\Q v H
noncomputable def tC(v:V):TE:=λ_ H Q=>Q v H
def wR (U:X.N[i]?=some x) (Y:Vis X.env.scope x) (hd:(x==("__debug__":Str))=false:=by decide) (J:(x==("__classdict__":Str))=false:=by decide):PE X (.Name x pos) (dP i):=by
 intro pins s σ H Q I h;refine ae h λv e h=>?_
 refine ae I.loc λm hn hl=>?_
 refine ae (hl i x v U e Y) λu r l=>?_
 have fin:EP X pins σ Q u s:=⟨v,H,I,r,h⟩;rcases l with⟨D,hm⟩|⟨D,c,hc,q⟩
 .exact wpAny_Name (wpAny_loadName_local I.ok.kind D hn hm fin) hd
 .rcases D with D|D
  .exact wpAny_Name (wpAny_loadName_cell I.ok.kind D hc q fin) hd
  .exact wpAny_Name (wpAny_loadName_free I.ok.kind D hc q fin J) hd
def rR{i j pos}:PE X (.Constant (.int i) j pos) (tC (.int i)):=λ_ _ _ H _ I h=>wpAny_Constant_int ⟨.int i,H,I.tok _,⟨_,rfl⟩,h⟩
def wS{b j pos}:PE X (.Constant (.bool b) j pos) (tC (.bl b)):=λ_ _ _ H _ I h=>Constant_bool ⟨.bl b,H,I,rfl,h⟩
def Ct{j pos}:PE X (.Constant .none j pos) (tC .non):=λ_ _ _ H _ I h=>Constant_none ⟨.non,H,I,rfl,h⟩
def gF{x j pos}:PE X (.Constant (.str x) j pos) (tC (.str x)):=λ_ _ _ H _ I h=>Calls.Constant_str ⟨.str x,H,I.tok _,⟨_,rfl⟩,h⟩
def Gl(X:Cx)(x:Str):Prop:=X.env.kindOf x=some .globalImplicit
def kO{pins:List (Addr×Obj)}{s:Shared}{σ:St}{H:Hp}{x:Str}{u:Value}{pos:Pos}{Q:Value->Shared->Prop}(I:Inv X pins σ H s)(q:Gl X x)(hm:X.mg x=some u)(h:Q u s)
  (hd:(x==("__debug__":Str))=false:=by decide):wpAny (model X.prog X.w) X.A (eval (.Name x pos) X.env) Q E s:=
 Calls.Name_function_global I.ok.kind q (Calls.loadGlobal_global (by rw[I.ok.glob];exact I.mod.glob.keeps I.bk) hm h) hd
def jA{E:Value->Shared->Prop}{pins:List (Addr×Obj)}{s:Shared}{σ:St}{H:Hp}{x:Str}{u:Value}{pos:Pos}{Q:Value->Shared->Prop}(I:Inv X pins σ H s)(q:Gl X x)(hm:X.mg x=none)(D:bootBuiltins x=some u)(h:Q u s)
  (hn:x ≠ "__name__":=by decide) (hd:(x==("__debug__":Str))=false:=by decide):wpAny (model X.prog X.w) X.A (eval (.Name x pos) X.env) Q E s:=by
 refine ae I.mod.blt λJ h1 h2=>?_
 exact Calls.Name_function_global I.ok.kind q (Calls.loadGlobal_builtin (by rw[I.ok.glob];exact I.mod.glob.keeps I.bk) hm (by rw[I.ok.blt];exact h1.keeps I.bk) ((h2 x hn).trans D) h) hd
def zT (q:Gl X x) (hm:X.mg x=some u) (r:aG v u) (hd:(x==("__debug__":Str))=false:=by decide):PE X (.Name x pos) (tC v):=
 λ_ _ _ H _ I h=>kO I q hm ⟨v,H,I,r,h⟩ hd
def zU (q:Gl X x) (hm:X.mg x=none) (D:bootBuiltins x=some u) (r:aG v u) (hn:x ≠ "__name__":=by decide) (hd:(x==("__debug__":Str))=false:=by decide):PE X (.Name x pos) (tC v):=
 λ_ _ _ H _ I h=>jA I q hm D ⟨v,H,I,r,h⟩ hn hd
variable{a b:Expr}{ta tb:TE}{pos:Pos}
def wT(b:Expr){op:CmpOp}(h:op≠.In)(h2:op≠.NotIn):behindInMarks op b=false:=by
 have q:(op==CmpOp.In)=false:=by cases op<;>first|rfl|exact absurd rfl h
 have D:(op==CmpOp.NotIn)=false:=by cases op<;>first|rfl|exact absurd rfl h2
 cases b<;>simp[behindInMarks,q,D]
noncomputable def tB(t:TE):TT:=λσ H Q=>t σ H λx H1=>∃c,x=.bl c/\Q c H1
def Cu(h:PE X e t)(J:∀whole,isTrue e X.env whole=(do let v <- whole;standAt e.pos;holding [v] (truthy v)):=by intro _;rfl):PT X e (tB t):=by
 intro pins s σ H Q I hw;refine isTrue_plain (thn (h pins s σ H _ I hw) λv s1 U=>aq U λx H1 Y Z q1=>?_) (J _);refine ae q1 λd D q=>?_
 subst D;subst Z;exact Jn ⟨H1,Y,q⟩
variable{tA tB':TT}{cO:List Expr}
noncomputable def HJ(t u:TT):TT:=λσ H Q=>t σ H λc H1=>if c=true then u σ H1 Q else Q false H1
noncomputable def tOr(t u:TT):TT:=λσ H Q=>t σ H λc H1=>if c=true then Q true H1 else u σ H1 Q
noncomputable def HK(t:TT):TT:=λσ H Q=>t σ H λc H1=>Q (!c) H1
def zV(q:PT X a tA):PW X (.BoolOp .And [a] pos) tA:=by
 intro D pins s σ H Q I h;refine isTrue_and (thn (q pins s σ H Q I h) λc s1 e=>?_);cases c<;>first|exact isTrue_and_nil e|exact e
def Cv(q:PT X a tA):PW X (.BoolOp .Or [a] pos) tA:=by
 intro D pins s σ H Q I h;refine isTrue_or (thn (q pins s σ H Q I h) λc s1 e=>?_);cases c<;>first|exact isTrue_or_nil e|exact e
def Cw(J:PT X a tA)(U:PW X (.BoolOp .And (b::cO) pos) tB'):PW X (.BoolOp .And (a::b::cO) pos) (HJ tA tB'):=by
 intro Y pins s σ H Q I h;refine isTrue_and (thn (J pins s σ H _ I h) λc s1 Z=>ae Z λH1 q D=>?_);cases c<;>first|exact U Y pins s1 σ H1 Q q D|exact⟨H1,q,D⟩
def Fw(J:PT X a tA)(U:PW X (.BoolOp .Or (b::cO) pos) tB'):PW X (.BoolOp .Or (a::b::cO) pos) (tOr tA tB'):=by
 intro Y pins s σ H Q I h;refine isTrue_or (thn (J pins s σ H _ I h) λc s1 Z=>ae Z λH1 q D=>?_);cases c<;>first|exact⟨H1,q,D⟩|exact U Y pins s1 σ H1 Q q D
def Cy(q:PT X a tA):PT X (.UnaryOp .Not a pos) (HK tA):=by
 intro pins s σ H Q I h;exact isTrue_not (q pins s σ H (λc H1=>Q _ H1) I h)
noncomputable def Fx(ta tb:TE):TE:=λσ H Q=>ta σ H λx H1=>∃c,x=.bl c/\if c=true then tb σ H1 Q else Q (.bl false) H1
noncomputable def HL(ta tb:TE):TE:=λσ H Q=>ta σ H λx H1=>∃c,x=.bl c/\if c=true then Q (.bl true) H1 else tb σ H1 Q
noncomputable def Fy(ta:TE):TE:=λσ H Q=>ta σ H λx H1=>∃c,x=.bl c/\Q (.bl (!c)) H1
def wU{op}(h:PE X a t):PE X (.BoolOp op [a] pos) t:=λpins s σ H Q I hw=>BoolOp_one (h pins s σ H Q I hw)
def Cz(J:PE X a ta)(U:PE X (.BoolOp .And (b::cO) pos) tb):PE X (.BoolOp .And (a::b::cO) pos) (Fx ta tb):=by
 intro pins s σ H Q I h;refine BoolOp_and (thn (J pins s σ H _ I h) λv s1 Y=>aq Y λx H1 D Z q=>?_);obtain⟨c,rfl,q⟩:=q;subst Z;refine Jn ?_;cases c<;>first|exact U pins s1 σ H1 Q D q|exact⟨.bl false,H1,D,rfl,q⟩
def Fz(J:PE X a ta)(U:PE X (.BoolOp .Or (b::cO) pos) tb):PE X (.BoolOp .Or (a::b::cO) pos) (HL ta tb):=by
 intro pins s σ H Q I h;refine BoolOp_or (thn (J pins s σ H _ I h) λv s1 Y=>aq Y λx H1 D Z q=>?_);obtain⟨c,rfl,q⟩:=q;subst Z;refine Jn ?_;cases c<;>first|exact U pins s1 σ H1 Q D q|exact⟨.bl true,H1,D,rfl,q⟩
def CA(D:PE X a ta):PE X (.UnaryOp .Not a pos) (Fy ta):=by
 intro pins s σ H Q I h;refine UnaryOp_ (thn (D pins s σ H _ I h) λv s1 J=>aq J λx H1 U Y q=>?_);obtain⟨c,rfl,q⟩:=q;subst Y;exact not_of (Jn ⟨.bl _,H1,U,rfl,q⟩)
noncomputable def tIf(t:TT)(ta tb:TE):TE:=λσ H Q=>t σ H λc H1=>if c=true then ta σ H1 Q else tb σ H1 Q
def wV(hc:PT X c tA)(J:PE X a ta)(U:PE X b tb):PE X (.IfExp c a b pos) (tIf tA ta tb):=by
 intro pins s σ H Q I h;refine wpAny_IfExp (thn (hc pins s σ H _ I h) λd s1 Y=>ae Y λH1 q D=>?_);cases d<;>first|exact J pins s1 σ H1 Q q D|exact U pins s1 σ H1 Q q D
end
def SqL(K:LI)(H:Hp)(a:Addr)(xs:List V):Prop:=
 Rd H a (.lst xs) \/
  ∃o its n,K.lookup a=some o/\o.cls=.type "list"/\o.dict=none/\o.data=.seq its n/\its.size<=sizeLine/\aA xs its.toList
def SqT(K:LI)(H:Hp)(a:Addr)(xs:List V):Prop:=
 Rd H a (.tup xs) \/
  ∃o its n,K.lookup a=some o/\o.cls=.type "tuple"/\o.data=.seq its n/\its.size<=sizeLine/\aA xs its.toList
noncomputable def HN:Value->Option V
 | .none=>some .non
 | .bool b=>some (.bl b)
 | .int i _=>some (.int i)
 | .str x _=>some (.str x)
 | .bytes b _=>some (.byt b)
 | .float b _=>some (.flt b)
 | .ref a=>some (.ref a)
 | .type n=>some (.ty n)
 | _=>none
theorem aG.abs(r:aG x u):HN u=some x:=by
 cases x<;>first|(subst r;rfl)|(obtain⟨t,rfl⟩:=r;rfl)
theorem aG.inj(r:aG x u)(q:aG y u):x=y:=x2 (r.abs.symm.trans q.abs)
theorem aA.inj:∀{xs ys}{us},aA xs us->aA ys us->xs=ys
 | _,_,_,.nil,.nil=>rfl
 | _,_,_,.cons r t,.cons q t'=>by rw[r.inj q,aA.inj t t']
section
variable{X:Cx}{pins:List (Addr×Obj)}{σ:St}{H:Hp}{s:Shared}{a:Addr}{xs ys:List V}
theorem SqL.of{K:LI}(h:H a=some (.lst xs)):SqL K H a xs:=.inl (.inl h)
theorem SqT.of{K:LI}(h:H a=some (.tup xs)):SqT K H a xs:=.inl (.inl h)
theorem Inv.list(I:Inv X pins σ H s)(h:SqL X.K H a xs):∃its,aA xs its/\PlainL s.heap a its.toArray/\xs.length<=sizeLine:=by
 rcases h with h|⟨o,its,n,q,hc,hd,D,hz,r⟩
 .obtain⟨z,its,n,r,e⟩:=h.ok I.hok;exact⟨its,r,⟨_,n,e,rfl,rfl,rfl⟩,z⟩
 .refine⟨its.toList,r,⟨o,n,I.kIn a o q,hc,hd,by simpa using D⟩,?_⟩;have e:=r.length
  simp_all
def Inv.tuple(I:Inv X pins σ H s)(h:SqT X.K H a xs):∃its,aA xs its/\IsTup s.heap a its.toArray/\xs.length<=sizeLine:=by
 rcases h with h|⟨o,its,n,q,hc,D,hz,r⟩
 .obtain⟨z,its,r,p⟩:=h.ok I.hok;exact⟨its,r,p,z⟩
 .refine⟨its.toList,r,⟨o,I.kIn a o q,hc,n,by simpa using D⟩,?_⟩;have e:=r.length
  simp_all
def Inv.list_inj(I:Inv X pins σ H s)(h:SqL X.K H a xs)(h':SqL X.K H a ys):xs=ys:=by
 obtain⟨its,r,⟨o,n,e,_,_,d⟩,_⟩:=I.list h;obtain⟨its',D,⟨o',U,q,_,_,d'⟩,_⟩:=I.list h';rw[e]at q;cases q
 rw[d]at d';injection d' with J _
 have:its=its':=by simpa using JP Array.toList J
 subst this;exact r.inj D
def Inv.tuple_inj(I:Inv X pins σ H s)(h:SqT X.K H a xs)(h':SqT X.K H a ys):xs=ys:=by
 obtain⟨its,r,⟨o,e,_,n,d⟩,_⟩:=I.tuple h;obtain⟨its',D,⟨o',q,_,U,d'⟩,_⟩:=I.tuple h';rw[e]at q;cases q
 rw[d]at d';injection d' with J _
 have:its=its':=by simpa using JP Array.toList J
 subst this;exact r.inj D
end
noncomputable abbrev Cx.wish(X:Cx)(E:Value->Shared->Prop):Cx:={ X with xe:=E }
noncomputable abbrev Cx.nox(X:Cx):Cx:=X.wish λ_ _=>False
theorem Cx.Ok.wish{X:Cx}(ok:X.Ok)(E:Value->Shared->Prop):(X.wish E).Ok:=
 ⟨ok.mod,ok.kind,ok.glob,ok.blt,ok.above,ok.inj,ok.has,ok.cab,ok.hd,ok.frames,ok.stk,ok.exf,ok.bs,ok.bsz,ok.noex,ok.exfs,ok.funs,ok.frf⟩
theorem Cx.Ok.unwish{X:Cx}{E:Value->Shared->Prop}(ok:(X.wish E).Ok):X.Ok:=
 ⟨ok.mod,ok.kind,ok.glob,ok.blt,ok.above,ok.inj,ok.has,ok.cab,ok.hd,ok.frames,ok.stk,ok.exf,ok.bs,ok.bsz,ok.noex,ok.exfs,ok.funs,ok.frf⟩
section
variable{X:Cx}{pins:List (Addr×Obj)}{σ:St}{H:Hp}{s:Shared}{E:Value->Shared->Prop}
theorem Inv.wish(I:Inv X pins σ H s)(E:Value->Shared->Prop):Inv (X.wish E) pins σ H s:=⟨I.ok.wish E,I.os,I.bare,I.base,I.loc,I.cell,I.free,I.freeC,I.pin,I.hok,I.len⟩
theorem Inv.unwish(I:Inv (X.wish E) pins σ H s):Inv X pins σ H s:=⟨I.ok.unwish,I.os,I.bare,I.base,I.loc,I.cell,I.free,I.freeC,I.pin,I.hok,I.len⟩
theorem SP.unwish(h:SP (X.wish E) pins D f s'):SP X pins D f s':=by
 cases f<;>first|(obtain⟨J,H',I,q⟩:=h;exact⟨J,H',I.unwish,q⟩)|(obtain⟨v,J,H',I,r,q⟩:=h;exact⟨v,J,H',I.unwish,r,q⟩)
theorem PSs.nox{st:List Stmt}(h:PSs X.nox st t):PSs X st t:=λpins s σ H D I hw =>
 Jj (h pins s σ H D (I.wish _) hw) (λ_ _ q=>q.unwish) λ_ _ z=>False.elim z
end
section
variable{X:Cx}{st:Stmt}{cO:List Stmt}{t u:TS}{e:Expr}{te:TE}{pos:Pos}
noncomputable def ke:TS:=λD σ H=>D.nx σ H
noncomputable def iQ(t u:TS):TS:=λD σ H=>t { D with nx:=u D } σ H
def iR:PSs X [] ke:=λ_ _ σ H _ I h=>K5 ⟨σ,H,I,h⟩
def be(h1:PS X st t)(h2:PSs X cO u):PSs X (st::cO) (iQ t u):=by
 intro pins s σ H D I h;refine wpAny_execs_cons (thn (h1 pins s σ H { D with nx:=u D } I h) λf s1 q=>?_);cases f with
 |next =>
  refine cr q λJ H' U q=>?_
  exact h2 pins s1 J H' D U q
 | _=>exact q
def cN(h1:PS X st t):PSs X [st] t:=by
 intro pins s σ H D I h;refine wpAny_execs_cons (thn (h1 pins s σ H D I h) λf s1 q=>?_);cases f with
 |next=>exact K5 q
 |ret v=>exact q
 |brk=>exact q
 |cont=>exact q
def Inv.quiet(I:Inv X pins σ H s):interactive X.env=false:=by simp[interactive,I.ok.kind]
noncomputable def nu(te:TE):TS:=λD σ H=>te σ H λ_ H1=>D.nx σ H1
def gb(q:PE X e te)(J:swapsWith e none pos.line X.env=pure false:=by rfl):PS X (.Expr e pos) (nu te):=by
 intro pins s σ H D I h;exact wpAny_Expr_any (thn (q pins s σ H _ I h) λv s1 U=>aq U λx H1 Y r1 Z=>⟨σ,H1,Y,Z⟩) I.quiet J
noncomputable def rS(te:TE):TS:=λD σ H=>te σ H D.rt
def gc(q:PE X e te):PS X (.Return (some e) pos) (rS te):=by
 intro pins s σ H D I h;exact wpAny_Return_some (thn (q pins s σ H _ I h) λv s1 J=>aq J λx H1 U Y Z=>⟨x,σ,H1,U,Y,Z⟩)
noncomputable def mU(c:TT)(t u:TS):TS:=λD σ H=>c σ H λb H1=>if b=true then t D σ H1 else u D σ H1
def nv(hc:PT X c tc)(U:PSs X a t)(Y:PSs X b u):PS X (.If c a b pos) (mU tc t u):=by
 intro pins s σ H D I h;refine wpAny_If (thn (hc pins s σ H _ I h) λd s1 Z=>ae Z λH1 q J=>?_);cases d<;>first|exact U pins s1 σ H1 D q J|exact Y pins s1 σ H1 D q J
noncomputable def CB:TS:=λ_ _ _=>False
def wW:PS X st CB:=λ_ _ _ _ _ _ h=>h.elim
end
noncomputable abbrev TG:=V->St->Hp->(St->Hp->Prop)->Prop
noncomputable abbrev TGs:=List V->St->Hp->(St->Hp->Prop)->Prop
def PG(X:Cx)(target:Expr)(t:TG):Prop:=
 ∀pins s (σ:St) H v u Q,Inv X pins σ H s->aG v u->t v σ H Q ->
  wpAny (model X.prog X.w) X.A (assign target X.env u) (λ_ s'=>∃q H',Inv X pins q H' s'/\Q q H') X.xe s
def PGs(X:Cx)(D:List Expr)(t:TGs):Prop:=
 ∀pins s (σ:St) H vs us Q,Inv X pins σ H s->aA vs us->t vs σ H Q ->
  wpAny (model X.prog X.w) X.A (assignInOrder ((assignEach D X.env).map (·.2)) us) (λ_ s'=>∃q H',Inv X pins q H' s'/\Q q H') X.xe s
noncomputable abbrev HP:=V->V->V->Hp->(Hp->Prop)->Prop
def HQ(X:Cx)(t:HP):Prop:=
 ∀pins s (σ:St) H o i v q D u Q,Inv X pins σ H s->aG o q->aG i D->aG v u->t o i v H Q ->
  wpAny (model X.prog X.w) X.A (setItem q D u) (λ_ s'=>∃H',Inv X pins σ H' s'/\Q H') X.xe s
section
variable{X:Cx}{pos:Pos}
noncomputable def cX(i:Nat):TG:=λv σ H Q=>Q (σ.set i (some v)) H
def kP(q:X.N.Nodup)(hi:X.N[i]?=some x)(hx:Loc X.env.scope x)(D:X.fn x=true\/X.env.scope.names.lookup x=some .local:=by first|exact .inl rfl|exact .inr rfl|assumption):PG X (.Name x pos) (cX i):=by
 intro pins s σ H v u Q I r h;exact wpAny_assign_Name (qd I q hi hx r (λs' J=>⟨_,H,J,h⟩) D)
noncomputable def FA:TGs:=λvs σ H Q=>vs=[]/\Q σ H
noncomputable def BO(t:TG)(u:TGs):TGs:=λvs σ H Q=>∃v r,vs=v::r/\t v σ H λq H'=>u r q H' Q
def zW:PGs X [] FA:=by
 intro pins s σ H vs us Q I r h;obtain⟨e,h⟩:=h;subst e;cases r;exact assignInOrder_nil ⟨σ,H,I,h⟩
def wX(h1:PG X e t)(h2:PGs X es u)
  (D:(assignEach (e::es) X.env).map (·.2)=assign e X.env::(assignEach es X.env).map (·.2):=by rfl):PGs X (e::es) (BO t u):=by
 intro pins s σ H vs us Q I r h;obtain⟨v,vr,J,h⟩:=h;subst J;cases r with
 |cons r U =>
  rw[D];refine assignInOrder_cons (thn (h1 pins s σ H _ _ _ I r h) λ_ s1 Y=>cr Y λq H1 Z q1=>?_);exact h2 pins s1 q H1 _ _ Q Z U q1
noncomputable def FC(K:LI)(n:Nat)(t:TGs):TG:=λv σ H Q=>∃a xs,v=.ref a/\SqT K H a xs/\xs.length=n/\t xs σ H Q
def CC{k:Nat}(hc:X.calm=true)(h:PGs X es t)
  (hn:(assignEach es X.env).length=n:=by rfl) (q:(assignEach es X.env).findIdx? (·.1)=none:=by rfl):PG X (.Tuple es k pos) (FC X.K n t):=by
 intro pins s σ H v u Q I r hw;refine bY λZq J=>?_
 obtain⟨a,xs,U,Y,hl,hw⟩:=hw;subst U;subst r;refine aM (I.tuple Y) λits D ht hz=>?_
 refine J ?_;refine assign_Tuple_tuple (I.ok.hd hc) ht (by simp[hn,<- hl,D.length]) q λh' hx=>?_
 have Z:=I.kept (t':=s.toks) λb o e=>hx b o (IL (tr e)) e
 exact h pins _ σ H xs _ Q Z D hw
noncomputable def jB(te:TE)(g:TG):TS:=λD σ H=>te σ H λx H1=>g x σ H1 D.nx
def gG(q:X.N.Nodup)(hi:X.N[i]?=some x)(hx:Loc X.env.scope x)(J:PE X e te)(U:swapsWith e (some (.Name x pos')) pos.line X.env=pure false:=by rfl)(Y:X.fn x=true\/X.env.scope.names.lookup x=some .local:=by first|exact .inl rfl|exact .inr rfl|assumption) :
  PS X (.Assign [.Name x pos'] e pos) (jB te (cX i)):=by
 intro pins s σ H D I h;refine wpAny_Assign_Name (thn (J pins s σ H _ I h) λv s1 Z=>aq Z λy H1 I1 r1 q1=>?_) U;exact qd I1 q hi hx r1 (λs2 I2=>⟨_,H1,I2,q1⟩) Y
end
structure It where
 go:Nat->Hp->Prop
 yld:Nat->Hp->V->Hp->Prop
 stop:Nat->Hp->Prop
def iS(X:Cx)(pins:List (Addr×Obj))(H:Hp)(b:Addr):Prop:=
 H b=none/\b≠X.env.locals/\b∉X.fs/\(b∈X.ex\/X.s₀.heap.objs.size<=b)/\(∀x c,X.env.cells.lookup x=some c->c≠b)/\∀p∈X.pn++pins,p.1≠b
theorem Inv.fpOk{σ:St}{H H':Hp}{s:Shared}{b:Addr}(I:Inv X pins σ H s)(D:s.heap.objs.size<=b)(hn:H' b=none):iS X pins H' b:=by
 refine⟨hn,JH (x1 I.lt D),I.nofs D,.inr (IK I.sz D),λx c e z=>?_,λp J z=>?_⟩
 .obtain⟨v,q⟩:=I.cell x c e;exact absurd (x1 q.lt (by rw[z];exact D)) (Jm _)
 .exact absurd (x1 (tr (I.pin p J).1) (by rw[z];exact D)) (Jm _)
structure oE(P:Program)(w:World)(K:LI)(tg:Expr)(J:It)(fp:List Addr)(it:Addr)(tn:Nat->Heap->Prop):Prop where
 mem:it∈fp
 obj:∀i h,tn i h->∀b∈fp,∃o,h.get? b=some o/\∀v,o.data≠.cell v
 keep:∀i h h',tn i h->(∀b∈fp,∀o,h.get? b=some o->h'.get? b=some o)->tn i h'
 item:∀(X:Cx),X.prog=P->X.w=w->X.K=K->X.calm=true->∀(i:Nat) (pins:List (Addr×Obj)) (s:Shared) (σ:St) (H:Hp) (E:Value->Shared->Prop),Inv X pins σ H s->(∀b∈fp,iS X pins H b)->tn i s.heap->J.go i H ->
  wpAny (model P w) X.A (pyNext (.ref it)) (λr s1=>∃u,r=some u /\
   wpAny (model P w) X.A (letOwnedTupleGo tg (.ref it) u) (λ_ s2=>∃x H',Inv X pins σ H' s2/\aG x u/\J.yld i H x H'/\tn (i+1) s2.heap/\∀b∈fp,H' b=none) E s1) E s
 done:∀(X:Cx),X.prog=P->X.w=w->X.K=K->X.calm=true->∀(i:Nat) (pins:List (Addr×Obj)) (s:Shared) (σ:St) (H:Hp) (E:Value->Shared->Prop),Inv X pins σ H s->(∀b∈fp,iS X pins H b)->tn i s.heap->J.stop i H ->
  wpAny (model P w) X.A (pyNext (.ref it)) (λr s1=>r=none/\Inv X pins σ H s1) E s
 self:∀(A:Around) (i:Nat) (s:Shared) (Q:Value->Shared->Prop) (E:Value->Shared->Prop),tn i s.heap->Q (.ref it) s->wpAny (model P w) A (pyIter (.ref it)) Q E s
noncomputable abbrev TI:=St->Hp->(It->Hp->Prop)->Prop
def PIE(X:Cx)(pins:List (Addr×Obj))(σ:St)(tg:Expr)(R:It->Hp->Prop)(q:Value)(D:Shared):Prop:=
 ∃it fp U J H',q=.ref it/\Inv X pins σ H' D/\oE X.prog X.w X.K tg J fp it U/\U 0 D.heap/\(∀b∈fp,iS X pins H' b)/\R J H'
def PI(X:Cx)(tg iter:Expr)(wi:TI):Prop:=
 ∀pins s (σ:St) H R,Inv X pins σ H s->wi σ H R ->
  wpAny (model X.prog X.w) X.A (eval iter X.env) (λv s1=>wpAny (model X.prog X.w) X.A (pyIter v) (PIE X pins σ tg R) X.xe s1) X.xe s
def tZ{s:Shared}{tg:Expr}{it:Addr}{u:Value}{o:Obj}{n:String}{vs:Array Value}{Q:Unit->Shared->Prop}(ho:s.heap.get? it=some o)(hc:o.cls=.type n)(hd:o.data=.fields vs)
    (hn:["enumerate","zip","dict_itemiterator","dict_reverseitemiterator","odict_iterator","itertools.zip_longest","itertools.pairwise"].contains n=false) (hQ:Q () s):wpAny M A (letOwnedTupleGo tg (.ref it) u) Q E s:=by
  cases tg<;>first
    | exact kv hQ
    | (cases u<;>first
        | exact kv hQ
        | (refine hU (wpAny_load ho ?_)
           rw[hc,hd];show wpAny M A (if (["enumerate","zip","dict_itemiterator","dict_reverseitemiterator","odict_iterator","itertools.zip_longest","itertools.pairwise"].contains n&&vs[0]?==some (rawInt _))=true then _ else _) Q E s;rw[if_neg (by intro h;rw[hn,La]at h;exact dO h)];exact kv hQ))
noncomputable def Itl(K:LI)(a:Addr):It:=
 ⟨λi H=>∃xs x,SqL K H a xs/\xs[i]?=some x,λi H x H'=>H'=H/\∀xs,SqL K H a xs->xs[i]?=some x,λi H=>∃xs,SqL K H a xs/\xs.length<=i⟩
noncomputable def Itt(K:LI)(a:Addr):It:=
 ⟨λi H=>∃xs x,SqT K H a xs/\xs[i]?=some x,λi H x H'=>H'=H/\∀xs,SqT K H a xs->xs[i]?=some x,λi H=>∃xs,SqT K H a xs/\xs.length<=i⟩
noncomputable def Itr(lo:Int)(n:Nat):It:=⟨λi _=>i<n,λi H x H'=>H'=H/\x=.int (lo+i),λi _=>n<=i⟩
def vt{K:LI}(a it):oE P w K tg (Itl K a) [it] it (λi h=>h.IsListIter it a i) where
 mem:=by simp
 obj:=λi h st b q=>by
  refine aM st λo e c d=>?_
  simp_all
 keep:=λi h h' st k=>st.at λo e=>k it (by simp) o e
 item:=by
  intro X Y hw Z hc i pins s σ H E I J st hg;refine bY λZq kq=>?_
  subst Y hw Z;refine cr hg λxs x U hx=>?_
  refine aM (I.list U) λits rv p hz=>?_
  refine ae (rv.get hx) λu hu ru=>?_
  refine gE (J it (by simp)) λf0 f1 f2 f3 f4 f5=>?_
  refine kq ?_;refine wpAny_pyNext_list_item st p.isList (by simpa using hu) λh' D sb=>?_
  have I1:=I.turned (t':=s.toks) (λb o q e=>(sb.2 b q).trans e) f0 f1 f3 f4 f5;refine aM (id D) λo e c d=>?_
  exact⟨u,rfl,tZ e c d (by decide) ⟨x,H,I1,ru,⟨rfl,λys hy=>by rw[I.list_inj hy U];exact hx⟩,D,λb q=>(J b q).1⟩⟩
 done:=by
  intro X Y hw Z hc i pins s σ H E I J st hg;refine bY λZq kq=>?_
  subst Y hw Z;refine ae hg λxs U hx=>?_
  refine aM (I.list U) λits rv p hz=>?_
  refine gE (J it (by simp)) λf0 f1 f2 f3 f4 f5=>?_
  have hl:=rv.length;refine kq ?_;exact wpAny_pyNext_list_end (I.ok.hd hc) st p.isList (by simp;omega) λh' eb=>⟨rfl,I.turned (λb o q e=>eb b o q e) f0 f1 f3 f4 f5⟩
 self:=λ_ _ _ _ _ st h=>wpAny_pyIter_listiter st h
def rT{K:LI}(a it):oE P w K tg (Itt K a) [it] it (λi h=>h.IsTupleIter it a i) where
 mem:=by simp
 obj:=λi h st b q=>by
  refine aM st λo e c d=>?_
  simp_all
 keep:=λi h h' st k=>st.at λo e=>k it (by simp) o e
 item:=by
  intro X Y hw Z hc i pins s σ H E I J st hg;refine bY λZq kq=>?_
  subst Y hw Z;refine cr hg λxs x U hx=>?_
  refine aM (I.tuple U) λits rv p hz=>?_
  refine ae (rv.get hx) λu hu ru=>?_
  refine gE (J it (by simp)) λf0 f1 f2 f3 f4 f5=>?_
  refine kq ?_;refine wpAny_pyNext_tuple_item st (show s.heap.IsTuple a its.toArray from p) (by simpa using hu) λh' D sb=>?_
  have I1:=I.turned (t':=s.toks) (λb o q e=>(sb.2 b q).trans e) f0 f1 f3 f4 f5;refine aM (id D) λo e c d=>?_
  exact⟨u,rfl,tZ e c d (by decide) ⟨x,H,I1,ru,⟨rfl,λys hy=>by rw[I.tuple_inj hy U];exact hx⟩,D,λb q=>(J b q).1⟩⟩
 done:=by
  intro X Y hw Z hc i pins s σ H E I J st hg;refine bY λZq kq=>?_
  subst Y hw Z;refine ae hg λxs U hx=>?_
  refine aM (I.tuple U) λits rv p hz=>?_
  refine gE (J it (by simp)) λf0 f1 f2 f3 f4 f5=>?_
  have hl:=rv.length;refine kq ?_;exact wpAny_pyNext_tuple_end (I.ok.hd hc) st (show s.heap.IsTuple a its.toArray from p) (by simp;omega) λh' eb=>⟨rfl,I.turned (λb o q e=>eb b o q e) f0 f1 f3 f4 f5⟩
 self:=λ_ _ _ _ _ st h=>wpAny_pyIter_tupleiter st h
def rU{K:LI}(it)(lo)(n):oE P w K tg (Itr lo n) [it] it (λi h=>IsRangeIter h it (lo+(i:Nat)*1) ((n:Int)-(i:Nat)) 1) where
 mem:=by simp
 obj:=λi h st b q=>by
  simp_all
 keep:=λi h h' st k=>k it (by simp) _ st
 item:=by
  intro X hP hw hK hc i pins s σ H E I J st U;subst hP hw hK;refine gE (J it (by simp)) λf0 Y f2 Z f4 f5=>?_
  have W:=Walks.range (prog:=X.prog) (w:=X.w) (I.ok.hd hc) it lo 1 n;refine W.item i s _ _ U st λv h' tk hv D kk=>?_
  obtain⟨t,rfl⟩:=hv;have I1:Inv X pins σ H { s with heap:=h',toks:=tk }:=I.turned (λb o q e=>kk b o (by simpa using q) e) f0 Y Z f4 f5;refine⟨_,rfl,tZ D rfl rfl (by decide) ⟨.int _,H,I1,⟨t,?_⟩,⟨rfl,rfl⟩,D,λb q=>(J b q).1⟩⟩;rw[Int.mul_one]
 done:=by
  intro X hP hw hK hc i pins s σ H E I J st U;refine gE (J it (by simp)) λf0 Y f2 Z f4 f5=>?_
  exact wpAny_pyNext_range_end (I.ok.hd hc) st (by have:n<=i:=U;omega) λh' eb=>⟨rfl,I.turned (λb o q e=>eb b o q e) f0 Y Z f4 f5⟩
 self:=λ_ _ _ _ _ st h=>wpAny_pyIter_rangeiter st h
section
variable{X:Cx}{tg:Expr}
noncomputable def BP(K:LI)(tl:TE):TI:=λσ H R=>tl σ H λx H1=>∃a,x=.ref a/\(∃xs,SqL K H1 a xs)/\R (Itl K a) H1
noncomputable def HR(K:LI)(tl:TE):TI:=λσ H R=>tl σ H λx H1=>∃a,x=.ref a/\(∃xs,SqT K H1 a xs)/\R (Itt K a) H1
def kQ(hl:PE X l tl):PI X tg l (BP X.K tl):=by
 intro pins s σ H R I h;refine thn (hl pins s σ H _ I h) λv s1 ⟨x,H1,D,J,U⟩=>?_
 obtain⟨a,e,⟨xs,Y⟩,q⟩:=U;subst e;subst J;refine aM (D.list Y) λits rv p hz=>?_
 refine KP p.isList ?_;refine⟨s1.heap.objs.size,[s1.heap.objs.size],_,_,H1,rfl,D.kept (t':=s1.toks) λb o e=>i2 _ e,vt a _,⟨_,pe _ rfl,rfl,rfl⟩,λb Z=>?_,q⟩;have e:b=s1.heap.objs.size:=by simpa using Z
 subst e;exact D.fpOk (pd _) (D.hok.fresh (pd _))
def wY(hl:PE X l tl):PI X tg l (HR X.K tl):=by
 intro pins s σ H R I h;refine thn (hl pins s σ H _ I h) λv s1 ⟨x,H1,D,J,U⟩=>?_
 obtain⟨a,e,⟨xs,Y⟩,q⟩:=U;subst e;subst J;refine aM (D.tuple Y) λits rv p hz=>?_
 refine KG (show s1.heap.IsTuple a its.toArray from p) ?_;refine⟨s1.heap.objs.size,[s1.heap.objs.size],_,_,H1,rfl,D.kept λb o e=>i2 _ e,rT a _,⟨_,pe _ rfl,rfl,rfl⟩,λb Z=>?_,q⟩;have e:b=s1.heap.objs.size:=by simpa using Z
 subst e;exact D.fpOk (pd _) (D.hok.fresh (pd _))
def qe{σ:St}{H:Hp}{s:Shared}{R:It->Hp->Prop}{E:Value->Shared->Prop}{lo hi:Int}{t u v:Tok}{tk:Nat}(I:Inv X pins σ H s)(h1:-(2 ^ 62)<=lo)(h2:lo<2 ^ 62)(h3:-(2 ^ 62)<=hi)(h4:hi<2 ^ 62)
  (q:R (Itr lo (hi-lo).toNat) H):wpAny (model X.prog X.w) X.A (pyIter (.ref s.heap.objs.size)) (PIE X pins σ tg R) E { s with heap:=s.heap.push { cls:=.type "range",data:=.fields #[.int lo t,.int hi u,.int 1 v] },toks:=tk }:=by
 refine wpAny_pyIter_range (IsRange.new ..) (small_one h1 h2 h3 h4) ?_;have D:Inv X pins σ H { s with heap:=s.heap.push { cls:=.type "range",data:=.fields #[.int lo t,.int hi u,.int 1 v] },toks:=tk }:=I.kept λb o e=>i2 _ e
 refine⟨(s.heap.push { cls:=.type "range",data:=.fields #[.int lo t,.int hi u,.int 1 v] }).objs.size,[(s.heap.push { cls:=.type "range",data:=.fields #[.int lo t,.int hi u,.int 1 v] }).objs.size],_,_,H,rfl,
  D.kept (t':=tk) λb o e=>i2 _ e,rU _ lo (hi-lo).toNat,?_,λb J=>?_,q⟩
 .have U:lo+((0:Nat):Int)*1=lo:=by simp
  have Y:(((hi-lo).toNat:Nat):Int)-((0:Nat):Int)=Builtin.Range.rangeSize lo hi 1:=by rw[rangeSize_one];split<;>omega
  show IsRangeIter _ _ (lo+((0:Nat):Int)*1) ((((hi-lo).toNat:Nat):Int)-((0:Nat):Int)) 1;rw[U,Y];exact pe _ rfl
 .have e:b=(s.heap.push { cls:=.type "range",data:=.fields #[.int lo t,.int hi u,.int 1 v] }).objs.size:=by simpa using J
  subst e;exact D.fpOk (pd _) (D.hok.fresh (pd _))
noncomputable def FD(ta:TA):TI:=λσ H R=>ta σ H λvs H1=>∃j,vs=[.int j]/\-(2 ^ 62)<=j/\j<2 ^ 62/\R (Itr 0 j.toNat) H1
noncomputable def FE(ta:TA):TI:=λσ H R=>ta σ H λvs H1=>∃i j,vs=[.int i,.int j]/\(-(2 ^ 62)<=i/\i<2 ^ 62/\-(2 ^ 62)<=j/\j<2 ^ 62)/\R (Itr i (j-i).toNat) H1
def vv (J:Gl X "range") (hm:X.mg "range"=none) (U:PA X [a] ta) (Y:starEach [a] X.env=[(false,eval a X.env)]:=by rfl):PI X tg (.Call (.Name "range" p) [a] [] pos) (FD ta):=by
 intro pins s σ H R I h;refine Call_ (jA I J hm boot_range (JY (thn (U pos pins s σ H _ I h) λus s1 Z=>aq Z λvs H1 I1 r1 D=>?_) Y rfl));obtain⟨j,e,D,q2,q⟩:=D;subst e;cases r1 with
 |cons r rr =>
  cases rr;obtain⟨t,rfl⟩:=r;exact call_range_1 (qe I1 (by decide) (by decide) D q2 (by simpa using q))
def vz (Y:Gl X "range") (hm:X.mg "range"=none) (Z:PA X [a,b] ta) (hs:starEach [a,b] X.env=[(false,eval a X.env),(false,eval b X.env)]:=by rfl) (D:starEach [b] X.env=[(false,eval b X.env)]:=by rfl) :
  PI X tg (.Call (.Name "range" p) [a,b] [] pos) (FE ta):=by
 intro pins s σ H R I h;refine Call_ (jA I Y hm boot_range (JY (thn (Z pos pins s σ H _ I h) λus s1 hq=>aq hq λvs H1 I1 r1 J=>?_) (by rw[hs,D]) (by rw[D];rfl)));obtain⟨i,j,e,⟨J,q2,q3,q4⟩,q⟩:=J;subst e;cases r1 with
 |cons r U =>
  cases U with
  |cons r' U =>
   cases U;obtain⟨t,rfl⟩:=r;obtain⟨t',rfl⟩:=r';exact call_range_2 (qe I1 J q2 q3 q4 q)
noncomputable def zX(wi:TI)(g:TG)(tb:TS):TS:=λD σ H=>wi σ H λJ H1=>∃W:Nat->Nat->St->Hp->Prop,(∃m,W 0 m σ H1)/\∀i m σ H,W i m σ H ->
 (J.stop i H/\D.nx σ H)\/(J.go i H/\∃N,(∀q H',N q H'->∃Y,Y<m/\W (i+1) Y q H')/\∀x H',J.yld i H x H'->g x σ H' λU H2=>tb { D with nx:=N,ct:=N,bk:=D.nx } U H2)
noncomputable def lm(fp:List Addr)(h:Heap):List (Addr×Obj):=fp.filterMap λb=>(h.get? b).map λo=>(b,o)
def gf(q:b∈fp)(e:h.get? b=some o):(b,o)∈lm fp h:=mem_filterMap.mpr ⟨b,q,by rw[e];rfl⟩
def vA(D:p∈lm fp h):p.1∈fp/\h.get? p.1=some p.2:=by
 refine ae (mem_filterMap.mp D) λb J e=>?_
 cases q:h.get? b with
 |none=>rw[q]at e;exact aP e
 |some o =>
  rw[q]at e;have U:=x2 e;subst U;exact⟨J,q⟩
def Inv.pinned(I:Inv X pins σ H s)(D:∀b∈fp,iS X pins H b)(ho:∀b∈fp,∃o,s.heap.get? b=some o/\∀v,o.data≠.cell v):Inv X (pins++lm fp s.heap) σ H s:=
 I.pins_of λp J=>(Kq.mp J).elim (λz=>I.pin p (Jr _ z)) λz=>by
  obtain⟨q,e⟩:=vA z;refine fP (D p.1 q) λf0 U Y _=>?_
  refine ae (ho p.1 q) λo Z d=>?_
  simp_all
def Inv.unpinned(I:Inv X (pins++pl) σ H s):Inv X pins σ H s:=I.pins_of λp q=>I.pin p (Jr _ (mem_append_left _ q))
def rV{iter:Expr}(hp:PassesOwn (model X.prog X.w) X.A X.env X.xe)(hc:X.calm=true)(hi:PI X tg iter wi)(hg:PG X tg g)(U:PSs X body tb)(hs:∀x,foldedSetIterable iter X.env x=pure x:=by intro _;rfl):PS X (.For tg iter body [] pos) (zX wi g tb):=by
 intro pins s σ H D I h;refine wpAny_For (thn (hi pins s σ H _ I h) λv s1 h1=>thn h1 λcP s2 h2=>?_) hs;refine bY λZq kq=>?_
 obtain⟨it,fp,tn,J,H2,e,I2,T,bB,f2,W,⟨m0,w0⟩,turn⟩:=h2;subst e;have Y:∀{H'},(∀b∈fp,H' b=none)->∀b∈fp,iS X pins H' b:=λhn b U=>⟨hn b U,(f2 b U).2⟩
 refine kq ?_;refine codeAny_forLoop_any (λn s'=>∃i Z H',Inv X pins Z H' s'/\tn i s'.heap/\(∀b∈fp,H' b=none)/\W i n Z H') ?_ m0 ⟨0,σ,H2,I2,bB,λb U=>(f2 b U).1,w0⟩;rintro n s3 ⟨i,ao,H3,I3,a5,a6,w3⟩;rcases turn i n ao H3 w3 with⟨stop,qn⟩|⟨go,N,hN,step⟩
 .refine Kw hp (thn (T.done X rfl rfl rfl hc i pins s3 ao H3 X.xe I3 (Y a6) a5 stop) λr s4 hq=>pZ hq λhr I4=>?_);subst hr;exact K5 ⟨ao,H3,I4,qn⟩
 .refine Kw hp (thn (T.item X rfl rfl rfl hc i pins s3 ao H3 X.xe I3 (Y a6) a5 go) λr s4 hq=>ae hq λu hr h4=>?_);subst hr;refine Kw hp (thn h4 λ_ s5 hq=>wM hq λx H5 I5 r5 y5 a2 bR=>?_);have bT:=I5.pinned (Y bR) (T.obj _ _ a2);refine Kw hp (thn (hg _ s5 ao H5 x u _ bT r5 (step x H5 y5)) λ_ s6 hq=>cr hq λb0 H6 I6 q6=>?_);refine Kw hp (thn (U _ s6 b0 H6 _ I6 q6) λf s7 q7=>?_);have again:∀{q}{H7},Inv X (pins++lm fp s5.heap) q H7 s7->N q H7->∃m,m<n/\∃i Z H',Inv X pins Z H' s7/\tn i s7.heap/\(∀b∈fp,H' b=none)/\W i m Z H':=λ{q H7} I7 n7=>by
   refine ae (hN q H7 n7) λm' hm w7=>?_
   refine⟨m',hm,i+1,q,H7,I7.unpinned,T.keep _ _ _ a2 λb U o e=>(I7.pin (b,o) (Jr _ (Jr _ (gf U e)))).1,λb U=>?_,w7⟩;refine ae (T.obj _ _ a2 b U) λo e d=>?_
   exact(I7.pin (b,o) (Jr _ (Jr _ (gf U e)))).2.1
  cases f<;>first|(obtain⟨q,H7,I7,n7⟩:=q7;exact again I7 n7)|(obtain⟨q,H7,I7,q7⟩:=q7;exact⟨q,H7,I7.unpinned,q7⟩)|(obtain⟨x7,q,H7,I7,r7,q7⟩:=q7;exact⟨x7,q,H7,I7.unpinned,r7,q7⟩)
end
noncomputable abbrev R2:=V->V->Hp->VK->Prop
def OpR(X:Cx)(f:Value->Value->Sem Value)(r:R2):Prop:=
 ∀pins s (σ:St) H x y v u Q,Inv X pins σ H s->aG x v->aG y u->r x y H Q ->
  wpAny (model X.prog X.w) X.A (f v u) (EP X pins σ Q) X.xe s
def bM(X:Cx)(f:Value)(r:List V->Hp->VK->Prop):Prop:=
 ∀pins s (σ:St) H xs us Q,Inv X pins σ H s->aA xs us->r xs H Q ->
  wpAny (model X.prog X.w) X.A (call f us) (EP X pins σ Q) X.xe s
noncomputable def tOp(r:R2)(ta tb:TE):TE:=λσ H Q=>ta σ H λx H1=>tb σ H1 λy H2=>r x y H2 Q
noncomputable def rI(C:Int->Int->Prop)(g:Int->Int->V):R2:=λx y H Q=>∃i j,x=.int i/\y=.int j/\C i j/\Q (g i j) H
noncomputable def rI0(g:Int->Int->V):R2:=λx y H Q=>∃i j,x=.int i/\y=.int j/\Q (g i j) H
section
variable{X:Cx}{a b c:Expr}{ta tb tc:TE}{pos:Pos}
def CD(Y:PE X a ta)(Z:PE X b tb){R:V->V->Hp->Prop}(I:Inv X pins σ H s)
  (h:ta σ H λx H1=>tb σ H1 λy H2=>R x y H2) {f:Value->Value->Sem Value}
  (hf:∀v u J x y H2,Inv X pins σ H2 J->aG x v->aG y u->R x y H2->wpAny (model X.prog X.w) X.A (f v u) Q X.xe J) :
  wpAny (model X.prog X.w) X.A (eval a X.env) (λv q=>wpAny (model X.prog X.w) X.A (eval b X.env) (λu D=>wpAny (model X.prog X.w) X.A (f v u) Q X.xe D) X.xe q) X.xe s:=by
 refine thn (Y pins s σ H _ I h) λv s1 U=>aq U λx H1 I1 r1 q1=>?_
 refine thn (Z pins s1 σ H1 _ I1 q1) λu J U=>aq U λy H2 I2 r2 q2=>?_
 exact hf v u J x y H2 I2 r1 r2 q2
def FF(ho:OpR X (binaryOp op) r)(D:PE X a ta)(J:PE X b tb):PE X (.BinOp a op b pos) (tOp r ta tb):=by
 intro pins s σ H Q I h;exact wpAny_BinOp (CD D J I h λv u U x y H2 Y Z ry q=>ho pins U σ H2 x y v u Q Y Z ry q)
def opI{C:Int->Int->Prop}{g:Int->Int->Int}
  (rule:∀i j t u s Q E,C i j->Q (.int (g i j) s.toks) { s with toks:=s.toks+1 }->wpAny (model X.prog X.w) X.A (f (.int i t) (.int j u)) Q E s) :
  OpR X f (rI C λi j=>.int (g i j)):=by
 intro pins s σ H x y v u Q I U Y h;refine fQ h λi j D J hc q=>?_
 subst D;subst J;obtain⟨t,rfl⟩:=U;obtain⟨t',rfl⟩:=Y;exact rule i j t t' s _ _ hc ⟨.int (g i j),H,I.tok _,⟨_,rfl⟩,q⟩
def FG{g:Int->Int->Int}
  (rule:∀i j t u s Q E,Q (.int (g i j) s.toks) { s with toks:=s.toks+1 }->wpAny (model X.prog X.w) X.A (f (.int i t) (.int j u)) Q E s) :
  OpR X f (rI0 λi j=>.int (g i j)):=by
 intro pins s σ H x y v u Q I U Y h;refine aq h λi j D J q=>?_
 subst D;subst J;obtain⟨t,rfl⟩:=U;obtain⟨t',rfl⟩:=Y;exact rule i j t t' s _ _ ⟨.int _,H,I.tok _,⟨_,rfl⟩,q⟩
def zY{g:Int->Int->Bool}
  (rule:∀i j t u s Q E,Q (.bool (g i j)) s->wpAny (model X.prog X.w) X.A (f (.int i t) (.int j u)) Q E s) :
  OpR X f (rI0 λi j=>.bl (g i j)):=by
 intro pins s σ H x y v u Q I U Y h;refine aq h λi j D J q=>?_
 subst D;subst J;obtain⟨t,rfl⟩:=U;obtain⟨t',rfl⟩:=Y;exact rule i j t t' s _ _ ⟨.bl _,H,I,rfl,q⟩
def HS(i j:Int):Prop:=0<j/\j<1073741824
def HU(i j:Int):Prop:=0<=j/\j<=1000000/\i.natAbs<2 ^ 64
def CF(i j:Int):Prop:=(-(2 ^ 64)<i/\i<2 ^ 64)\/(-(2 ^ 64)<j/\j<2 ^ 64)
theorem CF.ok(h:CF i j):IntMulOk i j:=by
 rcases h with⟨h1,h2⟩|⟨h1,h2⟩
 .exact .of_left (intBits_le_64 h1 h2)
 .exact .of_right (intBits_le_64 h1 h2)
def rW(k):(0:Int)<=2 ^ k:=
  Int.natCast_nonneg _
def CG:OpR X (binaryOp .Add) (rI0 λi j=>.int (i+j)):=FG λ_ _ _ _ _ _ _ q=>add_int q
def CH:OpR X (binaryOp .Sub) (rI0 λi j=>.int (i-j)):=FG λ_ _ _ _ _ _ _ q=>sub_int q
def CI:OpR X (binaryOp .Mult) (rI CF λi j=>.int (i*j)):=opI λ_ _ _ _ _ _ _ hc q=>mul_int q hc.ok
def zZ:OpR X (binaryOp .FloorDiv) (rI HS λi j=>.int (i / j)):=opI λi j _ _ _ _ _ hc q=>by
 have h1:=hc.1;have h2:=hc.2;exact floordiv_int (Int.ne_of_gt ‹_›) (by rw[Lj i (Int.le_of_lt ‹_›)];exact q) (.inl (PyProof.noPylong_small (by omega)))
def CJ:OpR X (binaryOp .Mod) (rI (λ_ j=>0<j) λi j=>.int (i % j)):=opI λi j _ _ _ _ _ hc q=>by
 exact mod_int' (Int.ne_of_gt ‹_›) (by rw[Int.fmod_eq_emod_of_nonneg i (Int.le_of_lt ‹_›)];exact q)
def CK:OpR X (binaryOp .Pow) (rI HU λi j=>.int (i ^ j.toNat)):=opI λ_ _ _ _ _ _ _ hc q=>pow_int_small hc.1 hc.2.1 hc.2.2 q
def CL:OpR X (binaryOp .RShift) (rI (λ_ j=>0<=j) λi j=>.int (i / 2 ^ j.toNat)):=opI λi j _ _ _ _ _ hc q =>
 rshift_int hc (by rw[Lj i (rW _)];exact q)
end
noncomputable def scal:V->V->Bool
 | .non,.non=>true|.non,.int _=>true|.int _,.non=>true|.non,.bl _=>true|.bl _,.non=>true|.non,.str _=>true|.str _,.non=>true
 | .int _,.int _=>true|.bl _,.bl _=>true|.str _,.str _=>true|.byt _,.byt _=>true
 | .int _,.str _=>true|.str _,.int _=>true|.bl _,.str _=>true|.str _,.bl _=>true
 | _,_=>false
noncomputable def rNe:R2:=λx y H Q=>scal x y=true/\Q (.bl (!decide (x=y))) H
def t4 :decide (V.int i=V.int j)=(i==j):=by
 rw[Jt];simp
def wZ :decide (V.bl i=V.bl j)=(i==j):=by
 rw[Jt];simp
def t5 :decide (V.str i=V.str j)=(i==j):=by
 rw[Jt];simp
def z5 :decide (V.byt i=V.byt j)=(i.toList==j.toList):=by
 rw[Jt];cases i;cases j;simp
section
variable{X:Cx}{a b c:Expr}{ta tb tc:TE}{pos:Pos}
def bU{σ:St}{H:Hp}{s:Shared}{Q:VK}{k D:Bool}(I:Inv X pins σ H s)(q:Q (.bl k) H)(e:k=D):EP X pins σ Q (.bool D) s:=by
 subst e;exact⟨.bl k,H,I,rfl,q⟩
def FH:OpR X (compareOp .NotEq) rNe:=by
 intro pins s σ H x y v u Q I U D h;obtain⟨J,q⟩:=h;cases x with
 |non =>
  cases U;cases y with
  |non=>cases D;exact PySem.EqNone.ne_none_none (bU I q (by simp))
  |bl j=>cases D;exact PySem.EqNone.ne_none_bool (bU I q (by simp))
  |int j=>obtain⟨t',rfl⟩:=D;exact PySem.EqNone.ne_none_int (bU I q (by simp))
  |str j=>obtain⟨t',rfl⟩:=D;exact PySem.EqNone.ne_none_str (bU I q (by simp))
  | _=>exact absurd (show false=true from J) kn
 |bl i =>
  cases U;cases y with
  |non=>cases D;exact PySem.EqNone.ne_bool_none (bU I q (by simp))
  |bl j=>cases D;exact ne_bool (bU I q (JP not wZ))
  |str j=>obtain⟨t',rfl⟩:=D;exact PySem.EqMixed.ne_bool_str (bU I q (by simp))
  | _=>exact absurd (show false=true from J) kn
 |int i =>
  obtain⟨t,rfl⟩:=U;cases y with
  |non=>cases D;exact PySem.EqNone.ne_int_none (bU I q rfl)
  |int j=>obtain⟨t',rfl⟩:=D;exact ne_int (bU I q (JP not t4))
  |str j=>obtain⟨t',rfl⟩:=D;exact PySem.EqMixed.ne_int_str (bU I q rfl)
  | _=>exact absurd (show false=true from J) kn
 |str i =>
  obtain⟨t,rfl⟩:=U;cases y with
  |non=>cases D;exact PySem.EqNone.ne_str_none (bU I q rfl)
  |bl j=>cases D;exact PySem.EqMixed.ne_str_bool (bU I q rfl)
  |int j=>obtain⟨t',rfl⟩:=D;exact PySem.EqMixed.ne_str_int (bU I q rfl)
  |str j=>obtain⟨t',rfl⟩:=D;exact ne_str (bU I q (JP not t5))
  | _=>exact absurd (show false=true from J) kn
 |byt i =>
  obtain⟨t,rfl⟩:=U;cases y with
  |byt j=>obtain⟨t',rfl⟩:=D;exact PySem.W.ne_bytes (bU I q (JP not z5))
  | _=>exact absurd (show false=true from J) kn
 | _=>cases y<;>exact absurd (show false=true from J) kn
def FI:OpR X (compareOp .Lt) (rI0 λi j=>.bl (decide (i<j))):=zY λ_ _ _ _ _ _ _ q=>lt_int q
def FJ:OpR X (compareOp .LtE) (rI0 λi j=>.bl (decide (i<=j))):=zY λ_ _ _ _ _ _ _ q=>le_int q
def FK:OpR X (compareOp .Gt) (rI0 λi j=>.bl (decide (j<i))):=zY λ_ _ _ _ _ _ _ q=>gt_int q
def FL:OpR X (compareOp .GtE) (rI0 λi j=>.bl (decide (j<=i))):=zY λ_ _ _ _ _ _ _ q=>ge_int q
def vB:OpR X (compareOp .In) (λx y H Q=>∃i j,x=.str i/\y=.str j/\Q (.bl (!(Builtin.Str.occurrences j i 0 j.length 1).isEmpty)) H):=by
 intro pins s σ H x y v u Q I U Y h;refine aq h λi j D J q=>?_
 subst D;subst J;obtain⟨t,rfl⟩:=U;obtain⟨t',rfl⟩:=Y;exact in_str (bU I q rfl)
def CM:OpR X (compareOp .Is) (λx y H Q=>y=.non/\Q (.bl (decide (x=.non))) H):=by
 intro pins s σ H x y v u Q I D J h;obtain⟨rfl,q⟩:=h;subst J;refine is_none_gen (bU I q ?_);cases x<;>first
  | (subst D;rfl)
  | (obtain⟨t,rfl⟩:=D;rfl)
def z6:OpR X (compareOp .IsNot) (λx y H Q=>y=.non/\Q (.bl (!decide (x=.non))) H):=by
 intro pins s σ H x y v u Q I D J h;obtain⟨rfl,q⟩:=h;subst J;refine isnot_none_gen (bU I q ?_);cases x<;>first
  | (subst D;rfl)
  | (obtain⟨t,rfl⟩:=D;rfl)
def oF:OpR X (compareOp .NotIn) (λx y H Q=>∃i j,x=.str i/\y=.str j/\Q (.bl (!(!(Builtin.Str.occurrences j i 0 j.length 1).isEmpty))) H):=by
 intro pins s σ H x y v u Q I U Y h;refine aq h λi j D J q=>?_
 subst D;subst J;obtain⟨t,rfl⟩:=U;obtain⟨t',rfl⟩:=Y;exact notIn_str (bU I q rfl)
def t6(ho:OpR X (compareOp op) r)(D:PE X a ta)(J:PE X b tb)(hm:behindInMarks op b=false):PE X (.Compare a [op] [b] pos) (tOp r ta tb):=by
 intro pins s σ H Q I h;exact wpAny_Compare1 (CD D J I h λv u U x y H2 Y Z ry q=>ho pins U σ H2 x y v u Q Y Z ry q) hm
noncomputable def t7(t:TE):TT:=λσ H Q=>t σ H λx H'=>∃k,x=.bl k/\Q k H'
def oG(ho:OpR X (compareOp op) r)(q:PE X a ta)(D:PE X b tb)(hm:behindInMarks op b=false):PT X (.Compare a [op] [b] pos) (t7 (tOp r ta tb)):=by
 intro pins s σ H Q I h;refine wpAny_isTrue_Compare1 (thn (q pins s σ H _ I h) λv s1 J=>aq J λx H1 U Y Z=>thn (D pins s1 σ H1 _ U Z) λu s2 ⟨y,H2,I2,r2,q2⟩ =>
  thn (ho pins s2 σ H2 x y v u _ I2 Y r2 q2) λc s3 ⟨z,H3,I3,r3,k,e,q3⟩=>?_) hm
 subst e;subst r3;exact Jn ⟨H3,I3,q3⟩
noncomputable def w4(r D:R2)(ta tb tc:TE):TE:=λσ H Q=>ta σ H λx H1=>tb σ H1 λy H2=>r x y H2 λz q=>∃k,z=.bl k /\
 (if k=true then tc σ q λJ U=>D y J U Q else Q (.bl false) q)
def w5(ho:OpR X (compareOp op) r)(D:OpR X (compareOp q) r')(ha:PE X a ta)(hb:PE X b tb)(hc:PE X c tc)
  (hm:lastMarks [op,q] [b,c]=false:=by with_unfolding_all rfl):PE X (.Compare a [op,q] [b,c] pos) (w4 r r' ta tb tc):=by
 intro pins s σ H Q I h;refine Compare_chain (thn (ha pins s σ H _ I h) λv s1 J=>aq J λx H1 I1 r1 q1=>chain_link (thn (hb pins s1 σ H1 _ I1 q1) λu s2 ⟨y,H2,I2,U,q2⟩ =>
  thn (ho pins s2 σ H2 x y v u _ I2 r1 U q2) λd s3 ⟨z,Y,Z,r3,k,e,q3⟩=>?_)) hm
 subst e;subst r3;refine Jn ?_;cases k with
 |false=>exact ite_ff ⟨.bl false,Y,Z,rfl,q3⟩
 |true=>exact ite_tt (chain_last (thn (hc pins s3 σ Y _ Z q3) λw' s4 J=>aq J λz' H4 I4 r4 q4=>D pins s4 σ H4 y z' u w' Q I4 U r4 q4))
def w8(ho:OpR X (compareOp op) r)(D:OpR X (compareOp q) r')(ha:PE X a ta)(hb:PE X b tb)(hc:PE X c tc)
  (hm:lastMarks [op,q] [b,c]=false:=by with_unfolding_all rfl):PT X (.Compare a [op,q] [b,c] pos) (t7 (w4 r r' ta tb tc)):=by
 intro pins s σ H Q I h;refine isTrue_chain (thn (ha pins s σ H _ I h) λv s1 hq=>aq hq λx H1 I1 r1 q1=>test_link (thn (hb pins s1 σ H1 _ I1 q1) λu s2 ⟨y,H2,I2,J,q2⟩ =>
  thn (ho pins s2 σ H2 x y v u _ I2 r1 J q2) λd s3 ⟨z,U,Y,r3,k,e,Z⟩=>?_)) hm
 subst e;subst r3;refine Jn ?_;cases k with
 |false =>
  refine ae Z λk' e' q'=>?_
  cases e';exact ite_ff ⟨U,Y,q'⟩
 |true =>
  refine ite_tt (test_last (thn (hc pins s3 σ U _ Y Z) λw' s4 ⟨z',H4,I4,r4,q4⟩=>thn (D pins s4 σ H4 y z' u w' _ I4 J r4 q4) λd' s5 ⟨z2,H5,I5,r5,k2,e2,q5⟩=>?_));subst e2;subst r5;exact Jn ⟨H5,I5,q5⟩
def ir:(sizeLine:Nat)<2 ^ 63:=by simp_all [Jl]
def rX:OpR X (binaryOp .Add) (λx y H Q=>∃i j,x=.str i/\y=.str j/\i.length+j.length<=sizeLine/\Q (.str (i++j)) H):=by
 intro pins s σ H x y v u Q I U Y h;refine fQ h λi j D J hz q=>?_
 subst D;subst J;obtain⟨t,rfl⟩:=U;obtain⟨t',rfl⟩:=Y;exact add_str (λt' tk=>⟨.str _,H,I.tok _,⟨_,rfl⟩,q⟩) hz
def dQ(r:aA [x] us):∃u,us=[u]/\aG x u:=by
 cases r with
 |cons q D=>cases D;exact⟨_,rfl,q⟩
def FM(r:aA [x,y] us):∃u q,us=[u,q]/\aG x u/\aG y q:=by
 cases r with
 |cons D J =>
  cases J with
  |cons U Y=>cases Y;exact⟨_,_,rfl,D,U⟩
def nw:bM X (.type "int") (λxs H Q=>(∃i,xs=[.int i]/\Q (.int i) H)\/∃k,xs=[.bl k]/\Q (.int (if k then 1 else 0)) H):=by
 intro pins s σ H xs us Q I r h;rcases h with⟨i,rfl,q⟩|⟨k,rfl,q⟩
 .obtain⟨u,rfl,t,rfl⟩:=dQ r;exact call_int_int ⟨.int i,H,I,⟨_,rfl⟩,q⟩
 .obtain⟨u,rfl,D⟩:=dQ r;subst D;exact call_int_bool ⟨.int _,H,I.tok _,⟨_,rfl⟩,q⟩
end
structure rY(h:Heap)(x dx C:Addr)(mA:Str->Option Value):Prop where
 obj:h.get? x=some (PySem.W.instObj C dx)
 ns:h.Ns1 dx mA
 ne:dx≠x
def vC{h:Heap}(n:h.Ns1 dx mA):∃J,h.get? dx=some J/\∀name,PySem.W.lookIn name J=some (mA name):=by
 refine kd n λo es ep ho hd U _ hm=>?_
 refine⟨o,ho,λname=>?_⟩;have e:=hm name;unfold nsFind findBy at e;rw[<- Array.find?_toList]at e;unfold PySem.W.lookIn;rw[hd];dsimp only;split
 .rename_i y q;rw[q]at e;exact JP some e
 .rename_i q;rw[q]at e;have a:es.toList.any (·.refKey)=false:=by
   rw[KQ];intro y Y;refine lf (U y (Array.mem_toList_iff.mp Y)) λz t D=>?_
   simp[DictEntry.refKey,D]
  have Z:¬ es.toList.any (·.refKey)=true:=by rw[a];exact kn
  rw[if_neg Z];exact JP some e
def rY.look(I:rY h x dx C mA):∃q,PySem.W.InstAt h x (PySem.W.instObj C dx) C (some q)/\∀name,PySem.W.lookIn name q=some (mA name):=
 let ⟨q,ho,hl⟩:=vC I.ns
 ⟨q,⟨I.obj,rfl,rfl,ho⟩,hl⟩
section
variable{prog:Program}{w:World}{A:Around}{E:Value->Shared->Prop}{s:Shared}{K:LI}{x dx C f:Addr}{mA:Str->Option Value}{name:Str}{v:Value}
def z7{Q:Value->Shared->Prop}(X:K.In s.heap)(I:rY s.heap x dx C mA)(D:PySem.W.plainGet K C name=true)(U:PySem.W.hasDictIn K C=true)
  (Y:PySem.W.findIn K (.ref C) name=some none) (Z:mA name=some v) (q:PySem.W.handedIn v=true) (h:Q v { s with toks:=s.toks+1 }) :
  wpAny (model prog w) A (getAttr (.ref x) name expr) Q E s:=by
 refine ae I.look λod J hl=>?_
 exact PySem.W.get_value X J (PySem.W.plainGet_of D).1 (PySem.W.findObj_own U Y rfl (by rw[hl,Z])) q h
def w9{Q:Value×List Value->Shared->Prop}(X:K.In s.heap)(I:rY s.heap x dx C mA)(q:PySem.W.plainGet K C name=true)
  (D:PySem.W.findIn K (.ref C) name=some (some (.ref f))) (ht:PySem.W.isFn K (.ref f)=true) (U:mA name=none) (h:Q (.ref f,[.ref x]) s) :
  wpAny (model prog w) A (getMethod (.ref x) name pl) Q E s:=by
 refine ae I.look λY J hl=>?_
 exact PySem.W.method_fn X J (PySem.W.plainGet_of q).1 (PySem.W.plainGet_of q).2 D (IU.mp ht) (by show(PySem.W.lookIn name Y).map (·.isSome)=some false;rw[hl,U];rfl) h
def z8(X:K.In s.heap)(I:rY s.heap x dx C mA)
  (hs:PySem.W.findIn K (.ref C) "__setattr__"=some (some (.builtin "object.__setattr__"))) (hp:PySem.W.plainOver K C=true) (ht:PySem.W.takerIn K C name=some none) (hh:PySem.W.hasDictIn K C=true)
  (hw:PySem.Within mA ns) (a2:ns.length<=sizeLine)
  (h:∀h',rY h' x dx C (λy=>if y=name then some v else mA y)->Heap.SameBut dx s.heap h'->Q () { s with heap:=h',toks:=s.toks+2 }) :
  wpAny (model prog w) A (setAttr (.ref x) name v) Q E s:=by
 refine ae I.look λod J hl=>?_
 refine PySem.W.set_plain X J hs (PySem.W.osa_open (s:={ s with toks:=s.toks+1 }) (r:=none) X J hp ht λb=>?_);refine ae (PySem.W.any_some hh) λcd hc U=>?_
 have hx:=I.obj;refine hU (kv (hU (hU (wpAny_loadPart hx (hU (PySem.W.Looks.here (s:={ s with toks:=s.toks+1 }) (PySem.W.looks_clsIn X hc) ?_))))));rw[U];refine kv (a:=some dx) (hU (kv (hU ?_)));refine wpAny_nsSet1 (s:={ s with toks:=s.toks+1 }) I.ns λh' q D=>?_
 refine tX (q.count (PySem.Within.cons name v hw)) λoD a3 a4 Y Z ao=>?_
 refine hU (wpAny_lookBehind Y (by rw[Z];exact pastItsLine_dict (IK ao (by rw[length_cons];exact(Ln ‹_›)))) ?_);exact kv (h _ ⟨(D.2 _ (Jk I.ne)).trans I.obj,q,I.ne⟩ D)
def w_(X:K.In s.heap)(hm:PySem.W.makesIn K C=true)
  (hi:PySem.W.findIn K (.ref C) "__init__"=some (some (.ref f))) (q:PySem.W.typeIn K (.ref f)=some (.type "function"))
  (h:codeAny (model prog w) (A.under (.builtin "type.__call__" ⟨.ref C::vs,kw⟩)) (.call (.ref f) ⟨.ref (s.heap.objs.size+1)::vs,kw⟩) (PySem.W.InitBack (s.heap.objs.size+1) R)
   { s with heap:=(s.heap.push PySem.W.emptyDict).push (PySem.W.instObj C s.heap.objs.size) }) :
  codeAny (model prog w) A (.call (.ref C) ⟨vs,kw⟩) R s:=by
 obtain⟨D,g,d,t,os⟩:=s;exact PySem.W.make_core (PySem.W.makes_of X hm) (PySem.W.looks_findIn X hi) (λself=>PySem.W.bind_fn X self q) (.inl rfl) h
end
noncomputable def eW(f:Str)(v:V):List (Str×V)->List (Str×V)
 | []=>[(f,v)]
 | (g,x)::r=>if g=f then(g,v)::r else(g,x)::eW f v r
theorem aJ(f g)(v):∀fs,(eW f v fs).lookup g=if g=f then some v else fs.lookup g
 | []=>by
  show List.lookup g [(f,v)]=_;by_cases h:g=f
  .have q:=IU.mpr h;simp only[List.lookup,q,if_pos h]
  .have q:=Jf.mpr h;simp only[List.lookup,q,if_neg h]
 | (k,x)::r=>by
  have ih:=aJ f g v r;rw[show eW f v ((k,x)::r)=(if k=f then(k,v)::r else(k,x)::eW f v r)from rfl];by_cases D:k=f
  .rw[if_pos D];by_cases h:g=k
   .have q:=IU.mpr h;simp only[List.lookup,q,if_pos (h.trans D)]
   .have q:=Jf.mpr h;simp only[List.lookup,q,if_neg (λe:g=f=>h (e.trans D.symm))]
  .rw[if_neg D];by_cases h:g=k
   .have q:=IU.mpr h;simp only[List.lookup,q,if_neg (λe:g=f=>D (h.symm.trans e))]
   .have q:=Jf.mpr h;simp only[List.lookup,q];exact ih
theorem jC(f)(v):∀fs,f∈(eW f v fs).map (·.1)/\∀g,g∈fs.map (·.1)->g∈(eW f v fs).map (·.1)
 | []=>⟨by simp[eW],λg h=>by simp at h⟩
 | (k,x)::r=>by
  obtain⟨D,J⟩:=jC f v r;rw[show eW f v ((k,x)::r)=(if k=f then(k,v)::r else(k,x)::eW f v r)from rfl];by_cases q:k=f
  .rw[if_pos q];subst q;exact⟨by simp,λg h=>by exact h⟩
  .rw[if_neg q];refine⟨?_,λg h=>?_⟩
   .rw[IT];exact Je _ D
   .rw[IT]at h ⊢;rcases rb.mp h with e|e
    .exact rb.mpr (.inl e)
    .exact Je _ (J g e)
theorem kf(f)(v):∀fs,(eW f v fs).length<=fs.length+1
 | []=>by simp[eW]
 | (k,x)::r=>by
  have ih:=kf f v r;rw[show eW f v ((k,x)::r)=(if k=f then(k,v)::r else(k,x)::eW f v r)from rfl];by_cases q:k=f
  .rw[if_pos q,length_cons,length_cons];exact(JV _ _)
  .simp_all
def gC.some_of(r:gC (some v) o):∃u,o=some u/\aG v u:=by
 cases o with
 |none=>exact(show False from r).elim
 |some u=>exact⟨u,rfl,r⟩
def gC.none_of(r:gC none o):o=none:=by
 cases o<;>first|rfl|exact(show False from r).elim
def vD(r:aG v u):PySem.W.handedIn u=true:=by
 cases v with
 |non=>cases (show u=Value.none from r);rfl
 |bl b=>cases (show u=Value.bool b from r);rfl
 |int i=>obtain⟨t,e⟩:=(show ∃t,u=Value.int i t from r);subst e;rfl
 |str x=>obtain⟨t,e⟩:=(show ∃t,u=Value.str x t from r);subst e;rfl
 |byt b=>obtain⟨t,e⟩:=(show ∃t,u=Value.bytes b t from r);subst e;rfl
 |flt b=>obtain⟨t,e⟩:=(show ∃t,u=Value.float b t from r);subst e;rfl
 |ref a=>cases (show u=Value.ref a from r);rfl
 |ty n=>cases (show u=Value.type n from r);rfl
section
variable{P:Program}{w:World}{H H':Hp}{h h':Heap}{a C dx:Addr}{fs fs':List (Str×V)}
def oH(hok:HOk P w H h)(e:H a=some (.ins C dx fs)):∃mA,rY h a dx C mA/\(∀f,gC (fs.lookup f) (mA f))/\PySem.Within mA (fs.map (·.1))/\fs.length<=1000/\H dx=some (.own a):=by
 refine bY λJ D=>?_
 obtain⟨d,z,ne,ob,mA,n,r,q⟩:=(show bX P w H h a _ from hok a _ e);refine D ?_;exact⟨mA,⟨ob,n,ne⟩,r,q,z,d⟩
end
structure Cls(K:LI)(C:Addr):Prop where
 pg:PySem.W.plainGet K C Str.empty=true
 hd:PySem.W.hasDictIn K C=true
 po:PySem.W.plainOver K C=true
 sa:PySem.W.findIn K (.ref C) "__setattr__"=some (some (.builtin "object.__setattr__"))
theorem Cls.get{K:LI}(c:Cls K C)(f):PySem.W.plainGet K C f=true:=c.pg
def eX(K:LI)(C:Addr)(f:Str):Prop:=PySem.W.findIn K (.ref C) f=some none
def eX.taker{K:LI}(n:eX K C f):PySem.W.takerIn K C f=some none:=by
 unfold PySem.W.takerIn;rw[show PySem.W.findIn K _ f=some none from n]
 rfl
structure mV(K:LI)(C:Addr)(m:Str)(f:Addr):Prop where
 at_:PySem.W.findIn K (.ref C) m=some (some (.ref f))
 fn:PySem.W.isFn K (.ref f)=true
 kp:PySem.W.keepIn K (.ref f)=true
section
variable{X:Cx}{pins:List (Addr×Obj)}{σ:St}{H:Hp}{s:Shared}{a C dx:Addr}{fs:List (Str×V)}{f:Str}{v:V}{A:Around}{E:Value->Shared->Prop}
def rZ(I:Inv X pins σ H s)(e:H a=some (.ins C dx fs))(c:Cls X.K C)(n:eX X.K C f)(l:fs.lookup f=some v)
  (h:∀u s',Inv X pins σ H s'->aG v u->Q u s'):wpAny (model X.prog X.w) A (getAttr (.ref a) f b) Q E s:=by
 refine nj (oH I.hok e) λmA O r _ _ _=>?_
 obtain⟨u,D,q⟩:=gC.some_of (v:=v) (o:=mA f) (by rw[<- l];exact r f);exact z7 I.kIn O (c.get f) c.hd n D (vD q) (h u _ (I.tok _) q)
def lp{Q:Value×List Value->Shared->Prop}(I:Inv X pins σ H s)(e:H a=some (.ins C dx fs))(c:Cls X.K C)(k:mV X.K C m g)(l:fs.lookup m=none)
  (h:Q (.ref g,[.ref a]) s):wpAny (model X.prog X.w) A (getMethod (.ref a) m pl) Q E s:=by
 refine nj (oH I.hok e) λmA O r _ _ _=>?_
 have hn:mA m=none:=gC.none_of (by rw[<- l];exact r m);exact w9 I.kIn O (c.get m) k.at_ k.fn hn h
def r9(I:Inv X pins σ H s)(e:H a=some (.ins C dx fs))(c:Cls X.K C)(n:eX X.K C f)(hl:fs.length<1000)(D:aG y u)
  (h:∀s',Inv X pins σ (upd H a (.ins C dx (eW f y fs))) s'->Q () s'):wpAny (model X.prog X.w) A (setAttr (.ref a) f u) Q E s:=by
 refine nj (oH I.hok e) λmA O r wi _ ho=>?_
 have hz:(fs.map (·.1)).length<=sizeLine:=by rw[ox,Jl];omega
 refine z8 I.kIn O c.sa c.po n.taker c.hd wi hz λh' O' J=>h _ ?_
 have hd:∃o,h'.get? dx=some o:=let ⟨o,_,_,U,_⟩:=O'.ns;⟨o,U⟩
 refine I.write (x:=a) (e:=dx) (by rw[e];exact True.intro) (.inr ho) (λb q Y z=>(J.2 b Y).trans z) hd ?_;refine⟨by rw[al O.ne];exact ho,?_,O.ne,O'.obj,_,O'.ns,λg=>?_,λg Z=>?_⟩
 .have:=kf f y fs;exact(IK ‹_› ‹_›)
 .show gC ((eW f y fs).lookup g) (if g=f then some u else mA g);rw[aJ];by_cases q:g=f
  .rw[if_pos q,if_pos q];exact D
  .rw[if_neg q,if_neg q];exact r g
 .by_cases q:g=f
  .rw[q];exact(jC f y fs).1
  .refine(jC f y fs).2 g (wi g λz=>Z ?_);show(if g=f then some u else mA g)=none;rw[if_neg q];exact z
theorem Inv.made(I:Inv X pins σ H s):Inv X pins σ (upd (upd H s.heap.objs.size (.own (s.heap.objs.size+1))) (s.heap.objs.size+1) (.ins C s.heap.objs.size []))
  { s with heap:=(s.heap.push PySem.W.emptyDict).push (PySem.W.instObj C s.heap.objs.size) }:=by
 have D:(s.heap.push PySem.W.emptyDict).get? s.heap.objs.size=some PySem.W.emptyDict:=pe s.heap rfl;have J:((s.heap.push PySem.W.emptyDict).push (PySem.W.instObj C s.heap.objs.size)).get? (s.heap.objs.size+1)=some (PySem.W.instObj C s.heap.objs.size):=by
  have:=pe (s.heap.push PySem.W.emptyDict) (o:=PySem.W.instObj C s.heap.objs.size) rfl;rwa[Ja]at this
 have U:(s.heap.push PySem.W.emptyDict).Ns s.heap.objs.size (λ_=>none):=⟨PySem.W.emptyDict,#[],_,D,rfl,(λe Y=>absurd Y (by simp)),λ_=>rfl⟩;have Z:=I.laid (a:=s.heap.objs.size) (o:=.own (s.heap.objs.size+1)) (h':=s.heap.push PySem.W.emptyDict) (t':=s.toks) (λb u q=>i2 _ q) (pd _) ⟨_,D⟩;refine Z.laid (a:=s.heap.objs.size+1) (o:=.ins C s.heap.objs.size []) (t':=s.toks) (λb u q=>i2 _ q) (JZ (Ja _ _)) ?_;have ne:s.heap.objs.size≠s.heap.objs.size+1:=IL (JK _);refine⟨by rw[al ne,ar],IW _,ne,J,λ_=>none,(Heap.Ns1.of_empty U).at λo q=>i2 _ q,λ_=>True.intro,λy hy=>absurd rfl hy⟩
def z9(D:attributeBase e f env (eval e env)=eval e env)
  (h:wpAny (model prog w) A (eval e env) (λo q=>wpAny (model prog w) A (getAttr o f true) Q E q) E s):wpAny (model prog w) A (eval (.Attribute e f pos) env) Q E s:=
 Attribute_any_ h (by rw[arm_eval_Attribute,D])
end
noncomputable def FN(K:LI)(ta:TE)(f:Str):TE:=λσ H Q=>ta σ H λx H1=>∃a C dx fs v,x=.ref a/\H1 a=some (.ins C dx fs)/\Cls K C/\eX K C f/\fs.lookup f=some v/\Q v H1
noncomputable def HV(K:LI)(ta tv:TE)(f:Str):TS:=λD σ H=>tv σ H λy H1=>ta σ H1 λx H2=>∃a C dx fs,x=.ref a/\H2 a=some (.ins C dx fs)/\Cls K C/\eX K C f/\fs.length<1000 /\
 D.nx σ (upd H2 a (.ins C dx (eW f y fs)))
section
variable{X:Cx}{o e value:Expr}{f:Str}{pos pos' tpos:Pos}{ta tv:TE}
def xa(D:PE X e ta)(J:attributeBase e f X.env (eval e X.env)=eval e X.env):PE X (.Attribute e f pos) (FN X.K ta f):=by
 intro pins s σ H Q I h;refine z9 J (thn (D pins s σ H _ I h) λu s1 ⟨x,H1,U,Y,a,C,dx,fs,v,ex,Z,c,n,l,q⟩=>?_);subst ex;obtain rfl:u=Value.ref a:=Y;exact rZ U Z c n l λu' s2 I2 ru=>⟨v,H1,I2,ru,q⟩
def oI(J:PE X o ta)(U:PE X value tv)(Y:swapsWith value (some (.Attribute o f pos')) pos.line X.env=pure false):PS X (.Assign [.Attribute o f pos'] value pos) (HV X.K ta tv f):=by
 intro pins s σ H D I h;refine plainObj_wpAny_Assign_Attribute (thn (U pins s σ H _ I h) λu s1 Z=>aq Z λy H1 I1 ry q=>thn (J pins s1 σ H1 _ I1 q) λov s2 ⟨x,H2,I2,rx,a,C,dx,fs,ex,ea,c,n,l,q2⟩=>?_) Y;subst ex;obtain rfl:ov=Value.ref a:=rx;exact r9 I2 ea c n l ry λs3 I3=>⟨σ,_,I3,q2⟩
end
section
variable{X:Cx}{pins:List (Addr×Obj)}{σ:St}{H:Hp}{s:Shared}{A:Around}{E:Value->Shared->Prop}{Q:Value->Shared->Prop}{c:Value}{b:Bool}
end
structure dn(k:Nat)(A:Around):Prop where
 hd:A.handled=none
 dp:A.depth+3*k+5<recursionLimit
 un:A.units+16*k+200<cLine
def dn.mono(r:dn k A)(h:j<=k):dn j A:=⟨r.hd,by have:=r.dp;omega,by have:=r.un;omega⟩
theorem dn.deeper(r:dn (k+1) A)(env):dn k (A.deeper env):=
 ⟨r.hd,by have:=r.dp;show A.depth+1+3*k+5<_;omega,by have:=r.un;show A.units+3+16*k+200<_;omega⟩
def r_ {A:Around} :(A.under (.builtin "type.__call__" ⟨.ref C::us,kw⟩)).depth=A.depth+1:=rfl
def sd {A:Around}{C:Addr}{us:List Value}{kw:List (Str×Value)}:(A.under (.builtin "type.__call__" ⟨.ref C::us,kw⟩)).units=A.units+1:=rfl
def dn.make (r:dn (k+1) A) (C) (us) (kw):dn k (A.under (.builtin "type.__call__" ⟨.ref C::us,kw⟩)):=
 ⟨r.hd,by have:=r.dp;rw[r_];omega,by have:=r.un;rw[sd];omega⟩
theorem dn.depth(r:dn k A):A.depth<recursionLimit:=by have:=r.dp;omega
noncomputable def fS:TA:=λ_ H Q=>Q [] H
noncomputable def kg(ta:TE)(q:TA):TA:=λσ H Q=>ta σ H λx H1=>q σ H1 λxs H2=>Q (x::xs) H2
section
variable{X:Cx}{e:Expr}{es:List Expr}{te:TE}{t:TA}{pos:Pos}
def b6:PA X [] fS:=λ_ _ _ _ H Q I h=>Calls.spliced_nil ⟨[],H,I,.nil,h⟩
def bm(D:PE X e te)(hr:PA X es t)(J:starEach (e::es) X.env=(false,eval e X.env)::starEach es X.env:=by rfl):PA X (e::es) (kg te t):=by
 intro pos pins s σ H Q I h;rw[J];show wpAny _ _ (spliced ((false,eval e X.env)::backTo pos _)) _ _ s;refine Calls.spliced_cons (thn (D pins s σ H _ I h) λu s1 q=>aq q λx H1 U Y Z=>?_);exact thn (hr pos pins s1 σ H1 _ U Z) λus s2 q=>aq q λxs H2 I2 r2 q2=>⟨x::xs,H2,I2,.cons Y r2,q2⟩
noncomputable def HW(t:TA):TE:=λσ H Q=>t σ H λxs H1=>xs.length<=sizeLine/\∀p,H1 p=none->Q (.ref p) (upd H1 p (.tup xs))
noncomputable def oJ(t:TA):TE:=λσ H Q=>t σ H λxs H1=>xs.length<=sizeLine/\∀p,H1 p=none->Q (.ref p) (upd H1 p (.lst xs))
def CN{U}(h:PA X es t):PE X (.Tuple es U pos) (HW t):=by
 intro pins s σ H Q I D;refine wpAny_Tuple_spliced (thn (h pos pins s σ H _ I D) λus s1 D=>fQ D λxs H1 J r z q=>⟨by rw[<- r.length];exact z,?_⟩);have Y:=J.hok.fresh (pd _);refine⟨.ref s1.heap.objs.size,upd H1 s1.heap.objs.size _,J.laid (λb u e=>i2 _ e) (pd _) ?_,rfl,q _ Y⟩;exact⟨z,us,r,⟨_,pe _ rfl,rfl,_,rfl⟩⟩
def oK(h:PA X es t):PE X (.List es pos) (oJ t):=by
 intro pins s σ H Q I D;refine wpAny_List_spliced (thn (h pos pins s σ H _ I D) λus s1 D=>fQ D λxs H1 J r z q=>⟨by rw[<- r.length];exact z,?_⟩);have U:=J.hok.fresh (pd _);refine⟨.ref s1.heap.objs.size,upd H1 s1.heap.objs.size _,J.laid (λb u e=>i2 _ e) (pd _) ?_,rfl,q _ U⟩;exact⟨z,us,0,r,pe _ rfl⟩
end
noncomputable abbrev Sp:=List V->Hp->VK->XK->Prop
noncomputable abbrev CXT:=List Env->Hp->Shared->XK->Value->Shared->Prop
structure se(P:Program)(w:World)(K:LI)(mg:Str->Option Value)(base:Heap)(A:Around)(outer:List Env)(s:Shared)(H:Hp):Prop where
 frames:A.frames=some outer
 mod:Mod K mg base
 bs:∀b o,base.get? b=some o->s.heap.get? b=some o/\H b=none
 bsz:base.objs.size<=s.heap.objs.size
 funs:s.heap.FunFrames base outer
 frf:∀b∈frs outer,H b=none
 hok:HOk P w H s.heap
 bare:AllBare s.gens
def CE(outer:List Env)(P:Program)(w:World)(H:Hp)(s:Shared)(Q:VK)(u:Value)(s':Shared):Prop:=
 ∃v H',s'.os=s.os/\AllBare s'.gens/\Un (frs outer) [] H H' s.heap s'.heap/\HOk P w H' s'.heap/\aG v u/\Q v H'
def CR(CX:CXT)(outer:List Env)(P:Program)(w:World)(H:Hp)(s:Shared)(Q:VK)(E:XK)(r:Result)(s':Shared):Prop:=
 match r with
 | .ok (.ret u)=>CE outer P w H s Q u s'
 | .ok _=>False
 | .error e=>CX outer H s E e s'
structure dq(P:Program)(w:World)(K:LI)(mg:Str->Option Value)(base:Heap)(CX:CXT)(k:Nat)(f:Addr)(fd:FuncData)(ps:List Str)(sp:Sp):Prop where
 len:∀vs H Q E,sp vs H Q E->vs.length=ps.length
 run:∀(A:Around) (outer:List Env) (s:Shared) (H:Hp) (args:Args) (us:List Value) (vs:List V) (Q:VK) (E:XK),dn k A->se P w K mg base A outer s H->BindsTo s fd args (ps.zip us)->aA vs us->sp vs H Q E ->
  codeAny (model P w) A (.call (.ref f) args) (CR CX outer P w H s Q E) s
def se.make{K:LI}{outer:List Env}{s:Shared}{H:Hp}(e:se P w K mg base A outer s H)(C:Addr)(us:List Value)(kw:List (Str×Value)) :
  se P w K mg base (A.under (.builtin "type.__call__" ⟨.ref C::us,kw⟩)) outer s H:=⟨by first|exact e.frames|(simpa[Around.under,Code.envs,Code.isFrame,pushEnvs]using e.frames),e.mod,e.bs,e.bsz,e.funs,e.frf,e.hok,e.bare⟩
section
variable{X:Cx}{pins:List (Addr×Obj)}{σ:St}{H:Hp}{s s':Shared}
theorem Inv.env0(I:Inv X pins σ H s):se X.prog X.w X.K X.mg X.base X.A X.stack s H:=
 ⟨I.ok.frames,I.ok.mod,I.bs,IK I.ok.bsz I.sz,I.stack,I.stkFree,I.hok,I.bare⟩
def Inv.after(I:Inv X pins σ H s)(h:CE X.stack X.prog X.w H s Q u s'):EP X pins σ Q u s':=by
 refine wN h λv H' os bare un hok r q=>?_
 obtain⟨J,g,d,t,D⟩:=s';obtain rfl:D=s.os:=os;exact⟨v,H',I.call un hok bare (λb z=>absurd z (by simp)),r,q⟩
end
noncomputable def lq(sp:Sp)(dvs:List V)(E:XK)(t:TA):TE:=λσ H Q=>t σ H λvs H1=>sp (vs++dvs) H1 Q E
noncomputable def kh(C:Addr)(m:Str)(sp:Sp)(dvs:List V)(E:XK)(ta:TE)(t:TA):TE:=λσ H Q=>ta σ H λx H1=>∃a dx fs,x=.ref a/\H1 a=some (.ins C dx fs)/\fs.lookup m=none /\
 t σ H1 λvs H2=>sp (x::(vs++dvs)) H2 Q E
noncomputable def FO(C:Addr)(sp:Sp)(dvs:List V)(E:XK)(t:TA):TE:=λσ H Q=>t σ H λvs H1=>∀x dx,H1 x=none->H1 dx=none->dx≠x ->
 sp (.ref x::(vs++dvs)) (upd (upd H1 dx (.own x)) x (.ins C dx [])) (λv H2=>v=.non/\Q (.ref x) H2) E
def aX(K:LI)(fd:FuncData)(ps:List Str)(ds:List Value):Prop:=
 ∀(s:Shared) (us:List Value),K.In s.heap->(us++ds).length=ps.length->BindsTo s fd ⟨us,[]⟩ (ps.zip (us++ds))
theorem aX.all{K:LI}(h:∀us,us.length=ps.length->bindArgs fd ⟨us,[]⟩=pure (ps.zip us)):aX K fd ps []:=λs us _ hl=>by
 rw[JW]at hl ⊢;exact .of_eq (h us hl)
def gH(CX:CXT)(X:Cx)(E:XK):Prop:=∀pins (σ:St) H s e s',Inv X pins σ H s->CX X.stack H s E e s'->X.xe e s'
section
variable{X:Cx}{CX:CXT}{k:Nat}{f C:Addr}{fd:FuncData}{ps:List Str}{sp:Sp}{dvs:List V}{ds:List Value}{E:XK}{x m:Str}{p pos apos:Pos}{e o:Expr}{es:List Expr}{ta:TE}{t:TA}
def oM(F:dq X.prog X.w X.K X.mg X.base CX k f fd ps sp)(hr:dn k X.A)(J:aX X.K fd ps ds)(hd:aA dvs ds)(hx:gH CX X E)
  (I:Inv X pins σ H s) (r:aA vs us) (h:sp (vs++dvs) H Q E):wpAny (model X.prog X.w) X.A (call (.ref f) us) (EP X pins σ Q) X.xe s:=by
 have D:=r.append hd;have hl:(us++ds).length=ps.length:=by rw[<- D.length];exact F.len _ _ _ _ h
 refine wpAny_call (Ka (F.run X.A X.stack s H ⟨us,[]⟩ (us++ds) (vs++dvs) Q E hr I.env0 (J s us I.kIn hl) D h) λr s' q=>?_);cases r with
 |error e=>exact hx pins σ H s e s' I q
 |ok U =>
  cases U with
  |ret u=>exact I.after q
  |next=>exact False.elim q
  |brk=>exact False.elim q
  |cont=>exact False.elim q
def kS(F:dq X.prog X.w X.K X.mg X.base CX k f fd ps sp)(hr:dn k X.A)(Y:Gl X x)(hm:X.mg x=some (.ref f))(Z:PySem.W.keepIn X.K (.ref f)=true)(hb:aX X.K fd ps ds)(hd:aA dvs ds)(hx:gH CX X E)
  (ha:PA X (e::es) t) (D:(x==("__debug__":Str))=false:=by decide) (he:starEach (e::es) X.env=(false,eval e X.env)::starEach es X.env:=by rfl) (J:(backTo pos (starEach es X.env)).any (·.1)=false:=by rfl) :
  PE X (.Call (.Name x p) (e::es) [] pos) (lq sp dvs E t):=by
 intro pins s σ H Q I h;refine Kh (kO I Y hm ?_ D);refine PySem.W.callWith_K I.ok.mod.kin Z (thn (ha pos pins s σ H _ I h) λus s1 hq=>aq hq λvs H1 U r q=>⟨U.kIn,?_⟩) he J;exact oM F hr hb hd hx U r q
def xb(F:dq X.prog X.w X.K X.mg X.base CX k f fd ps sp)(hr:dn k X.A)(D:Gl X x)(hm:X.mg x=some (.ref f))(J:PySem.W.keepIn X.K (.ref f)=true)(U:aX X.K fd ps ds)(hd:aA dvs ds)(hx:gH CX X E)
  (q:(x==("__debug__":Str))=false:=by decide):PE X (.Call (.Name x p) [] [] pos) (lq sp dvs E fS):=by
 intro pins s σ H Q I h;refine Kh (kO I D hm ?_ q);exact PySem.W.callWith_K0 I.kIn J (oM (us:=[]) F hr U hd hx I .nil h)
def oN{pl:Sem Bool}(he:PE X o ta)(c:Cls X.K C)(hm:mV X.K C m f)(F:dq X.prog X.w X.K X.mg X.base CX k f fd ps sp)(hr:dn k X.A)(hb:aX X.K fd ps ds)(hd:aA dvs ds)(hx:gH CX X E)(ha:PA X (e::es) t)
  (D:starEach (e::es) X.env=(false,eval e X.env)::starEach es X.env:=by rfl) (J:(backTo pos (starEach es X.env)).any (·.1)=false:=by rfl)
  (ht:eval (.Call (.Attribute o m apos) (e::es) [] pos) X.env=(do
   let U <- eval o X.env
   standAt apos.atName
   let (f,first) <- holding [U] (getMethod U m pl)
   callWith pos f first (backTo pos (starEach (e::es) X.env)) (backToKw pos (keywordEach [] X.env))):=by rfl) :
  PE X (.Call (.Attribute o m apos) (e::es) [] pos) (kh C m sp dvs E ta t):=by
 intro pins s σ H Q I h;refine PySem.W.methodCall_KW (pl:=pl) (thn (he pins s σ H _ I h) λu s1 ⟨x,H1,Y,rx,a,dx,fs,ex,ea,l,q⟩=>?_) ht;subst ex;obtain rfl:u=Value.ref a:=rx;refine lp Y ea c hm l ?_;refine PySem.W.callWith_K (first:=[.ref a]) (h₀:=X.base) I.ok.mod.kin hm.kp (thn (ha pos pins s1 σ H1 _ Y q) λus s2 ⟨vs,H2,Z,r,q2⟩=>⟨Z.kIn,?_⟩) D J;exact oM (us:=.ref a::us) (vs:=.ref a::vs) F hr hb hd hx Z (.cons rfl r) q2
def lr(U:PE X o ta)(c:Cls X.K C)(hm:mV X.K C m f)(F:dq X.prog X.w X.K X.mg X.base CX k f fd ps sp)(hr:dn k X.A)(Y:aX X.K fd ps ds)(hd:aA dvs ds)(hx:gH CX X E)
  (ht:eval (.Call (.Attribute o m apos) [] [] pos) X.env=(do
   let J <- eval o X.env
   standAt apos.atName
   let (f,first) <- holding [J] (getMethod J m pl)
   callWith pos f first (backTo pos (starEach [] X.env)) (backToKw pos (keywordEach [] X.env))):=by rfl) :
  PE X (.Call (.Attribute o m apos) [] [] pos) (kh C m sp dvs E ta fS):=by
 intro pins s σ H Q I h;refine PySem.W.methodCall_KW (pl:=pl) (thn (U pins s σ H _ I h) λu s1 ⟨x,H1,D,Z,a,dx,fs,ex,ea,l,q⟩=>?_) ht;subst ex;obtain rfl:u=Value.ref a:=Z;refine lp D ea c hm l ?_;exact PySem.W.callWith_K0 (first:=[.ref a]) D.kIn hm.kp (oM (us:=[.ref a]) (vs:=[.ref a]) F hr Y hd hx D (.cons rfl .nil) q)
structure Mk(K:LI)(C f:Addr):Prop where
 makes:PySem.W.makesIn K C=true
 init:PySem.W.findIn K (.ref C) "__init__"=some (some (.ref f))
 fn:PySem.W.isFn K (.ref f)=true
 kp:PySem.W.keepIn K (.ref C)=true
def xc{pins:List (Addr×Obj)}{σ:St}{H:Hp}{s:Shared}{Q:VK}{us:List Value}{vs:List V}(M:Mk X.K C f)(F:dq X.prog X.w X.K X.mg X.base CX k f fd ps sp)(hr:dn (k+1) X.A)(Y:aX X.K fd ps ds)(hd:aA dvs ds)
  (hx:gH CX X E) (I:Inv X pins σ H s) (r:aA vs us)
  (h:∀x dx,H x=none->H dx=none->dx≠x->sp (.ref x::(vs++dvs)) (upd (upd H dx (.own x)) x (.ins C dx [])) (λv H2=>v=.non/\Q (.ref x) H2) E) :
  wpAny (model X.prog X.w) X.A (call (.ref C) us) (EP X pins σ Q) X.xe s:=by
 have J:=h (s.heap.objs.size+1) s.heap.objs.size (I.hok.fresh (JO _)) (I.hok.fresh (pd _)) (IL (JK _));have D:=Inv.made (C:=C) I;have U:aA (V.ref (s.heap.objs.size+1)::(vs++dvs)) (Value.ref (s.heap.objs.size+1)::(us++ds)):=.cons rfl (r.append hd);have hl:(Value.ref (s.heap.objs.size+1)::us++ds).length=ps.length:=by
  have e:=U.length;rw[F.len _ _ _ _ J]at e;exact e.symm
 refine wpAny_call (w_ (f:=f) I.kIn M.makes M.init (IU.mp M.fn) (Ka (F.run _ X.stack _ _ ⟨Value.ref (s.heap.objs.size+1)::us,[]⟩ (Value.ref (s.heap.objs.size+1)::(us++ds)) _ _ E (hr.make C us [])
  (D.env0.make C us []) (Y _ (Value.ref (s.heap.objs.size+1)::us) D.kIn hl) U J) λr s' q=>?_))
 cases r with
 |error e=>exact hx pins σ _ _ e s' D q
 |ok Z =>
  cases Z with
  |ret u =>
   refine fQ (D.after q) λv H' I3 rv ev q3=>?_
   subst ev;exact⟨rv,⟨V.ref (s.heap.objs.size+1),H',I3,rfl,q3⟩⟩
  |next=>exact False.elim q
  |brk=>exact False.elim q
  |cont=>exact False.elim q
def t8(M:Mk X.K C f)(F:dq X.prog X.w X.K X.mg X.base CX k f fd ps sp)(hr:dn (k+1) X.A)(Y:Gl X x)(hm:X.mg x=some (.ref C))(Z:aX X.K fd ps ds)(hd:aA dvs ds)(hx:gH CX X E)
  (ha:PA X (e::es) t) (D:(x==("__debug__":Str))=false:=by decide) (he:starEach (e::es) X.env=(false,eval e X.env)::starEach es X.env:=by rfl) (J:(backTo pos (starEach es X.env)).any (·.1)=false:=by rfl) :
  PE X (.Call (.Name x p) (e::es) [] pos) (FO C sp dvs E t):=by
 intro pins s σ H Q I h;refine Kh (kO I Y hm ?_ D);refine PySem.W.callWith_K (h₀:=X.base) I.ok.mod.kin M.kp (thn (ha pos pins s σ H _ I h) λus s1 hq=>aq hq λvs H1 U r q=>⟨U.kIn,?_⟩) he J;exact xc M F hr Z hd hx U r q
end
section
variable{X:Cx}{CX:CXT}{k:Nat}{f C:Addr}{fd:FuncData}{ps ks:List Str}{sp:Sp}{E:XK}{x m:Str}{p pos apos kpos:Pos}{e o:Expr}{es:List Expr}{kws:List Keyword}{te ta:TE}{t tk:TA}{nm:Option Str}
variable{g:List Value->List Value->List Value}{gV:List V->List V->List V}
end
structure eM(N P:List Str)(sc:Scope):Prop where
 kind:sc.kind=.function
 co:sc.isCoroutine=false
 gen:sc.isGenerator=false
 nd:N.Nodup
 pre:N.take P.length=P
 par:∀x∈P,sc.names.lookup x=some .local\/sc.names.lookup x=some .cell
 nofree:∀y∈sc.names,y.2≠.free
theorem ny{kindOf:Str->Option NameKind} :∀{binds}{m},(∀v,(x,v)∉binds)->bindL kindOf binds m x=m x
 | [],_,_=>rfl
 | (n,v)::r,m,h=>by
  unfold bindL;rw[ny λw hw=>h w (Je _ hw)];split
  .have:x≠n:=by rintro rfl;exact h v Jz
   simp[this]
  .rfl
theorem nA{kindOf:Str->Option NameKind} :∀{binds}{m},(∀v,(x,v)∉binds)->bindC kindOf binds m x=m x
 | [],_,_=>rfl
 | (n,v)::r,m,h=>by
  unfold bindC;rw[nA λw hw=>h w (Je _ hw)];split
  .rfl
  .have:x≠n:=by rintro rfl;exact h v Jz
   simp[this]
theorem nB{kindOf:Str->Option NameKind}{x:Str}{v:Value}:∀{P:List Str}{vs}{i:Nat}{m},P.Nodup->P[i]?=some x->vs[i]?=some v->kindOf x=some .local ->
  bindL kindOf (P.zip vs) m x=some v
 | [],_,_,_,_,h,_,_=>by injection h
 | _::_,[],_,_,_,_,h,_=>by injection h
 |p::P,w::vs,0,m,nd,h1,h2,q=>by
  simp at h1 h2;subst h1;subst h2
  show bindL kindOf ((p,w)::P.zip vs) m p=_;unfold bindL;rw[ny λv D=>(JX.mp nd).1 (of_mem_zip D).1,if_pos q];simp
 |p::P,w::vs,i+1,m,nd,h1,h2,q=>by
  show bindL kindOf ((p,w)::P.zip vs) m x=_;exact nB (i:=i) (JX.mp nd).2 h1 h2 q
theorem nD{kindOf:Str->Option NameKind}{x:Str}{v:Value}:∀{P:List Str}{vs}{i:Nat}{m},P.Nodup->P[i]?=some x->vs[i]?=some v->kindOf x≠some .local ->
  bindC kindOf (P.zip vs) m x=some v
 | [],_,_,_,_,h,_,_=>by injection h
 | _::_,[],_,_,_,_,h,_=>by injection h
 |p::P,w::vs,0,m,nd,h1,h2,q=>by
  simp at h1 h2;subst h1;subst h2
  show bindC kindOf ((p,w)::P.zip vs) m p=_;unfold bindC;rw[nA λv D=>(JX.mp nd).1 (of_mem_zip D).1,if_neg q];simp
 |p::P,w::vs,i+1,m,nd,h1,h2,q=>by
  show bindC kindOf ((p,w)::P.zip vs) m x=_;exact nD (i:=i) (JX.mp nd).2 h1 h2 q
noncomputable def eY(N:List Str)(vs:List V):St:=vs.map some++replicate (N.length-vs.length) none
noncomputable def fU(CX:CXT)(P:Program)(w:World)(K:LI)(mg:Str->Option Value)(base:Heap)(N:List Str)(qual:Str)(scope:Scope)(f:Addr)(D:Value)(A:Around)(outer:List Env)(s:Shared)(H:Hp)(E:XK):Cx where
 prog:=P
 w:=w
 K:=K
 mg:=mg
 base:=base
 A:=A.deeper (envOfC qual scope s.heap.objs.size f D)
 N:=N
 s₀:=s
 H₀:=H
 env:=envOfC qual scope s.heap.objs.size f D
 outer:=outer
 stack:=envOfC qual scope s.heap.objs.size f D::outer
 ex:=[]
 calm:=true
 fn:=λ_=>true
 pn:=[]
 xe:=λe s'=>wpAny (model P w) (A.deeper (envOfC qual scope s.heap.objs.size f D)) (leaving (envOfC qual scope s.heap.objs.size f D) e) (λ_ q=>CX outer H s E e q) (λJ q=>CX outer H s E J q) s'
def qf{sc:Scope}(h:sc.names.lookup x=some .cell):∃c,(cellsFrom n sc.names []).lookup x=some c:=by
 have q:=PySem.W.cellsFrom_some sc.names n [] (.inl h);exact Lo.mp q
def vE{K:LI} 
  (S:eM N ps scope) (hd:A.handled=none) (D:se P w K mg base A outer s H) (hl:vs.length=ps.length) (r:aA vs us)
  (x:InCallC s s.heap.objs.size (bindL (envOfC qual scope s.heap.objs.size f cd).kindOf (ps.zip us) λ_=>none) (cellsFrom (s.heap.objs.size+1) scope.names []) (bindC (envOfC qual scope s.heap.objs.size f cd).kindOf (ps.zip us) λ_=>none) s1) :
  Inv (fU CX P w K mg base N qual scope f cd A outer s H E) [] (eY N vs) H s1:=by
 have a1:ps.length<=N.length:=by have:=JP List.length S.pre;rw[KU]at this;omega
 refine cr x.done λh1 tk ao hk=>?_
 subst ao;have J:∀b,b∉(fU CX P w K mg base N qual scope f cd A outer s H E).ex:=λb z=>absurd (show b∈([]:List Addr)from z) (by simp)
 refine⟨⟨D.mod,S.kind,rfl,rfl,pd _,λy z c h1 h2=>?_,λy U=>?_,λy c _ h=>?_,λ_=>hd,Around.frames_deeper D.frames,.inr ⟨rfl,rfl⟩,λb z=>absurd z (J b),D.bs,D.bsz,λb _ _=>J b,λb z=>absurd z (J b),D.funs,D.frf⟩,
  rfl,D.bare,Un.kept hk,⟨_,x.toInCall.ns,λi y v h1 h2 h3=>?_⟩,λy c h=>⟨_,x.cell y c h⟩,D.hok.fresh (pd _),λy c h=>?_,λp Y=>absurd (show p∈([]:List (Addr×Obj))from Y) (by simp),D.hok.kept hk,?_⟩
 .exact name_of_addr x.apart (PySem.mem_of_lookup h1) (PySem.mem_of_lookup h2)
 .have U:=U;rcases U with U|U
  .exact qf U
  .exact absurd rfl (S.nofree _ (PySem.mem_of_lookup U))
 .exact Jy (x.above y c (PySem.mem_of_lookup h))
 .have hi:i<vs.length:=by
   unfold eY at h2;by_cases hi:i<vs.length
   .exact hi
   .rw[JC (by simpa using hi)]at h2;rw[KH]at h2;split at h2<;>cases h2
  have ha:vs[i]?=some v:=by
   unfold eY at h2;rw[JQ (by simpa using hi),IY]at h2;cases e:vs[i]?<;>simp_all
  refine ae (r.get ha) λu hu rv=>?_
  have Y:ps[i]?=some y:=by
   rw[<- S.pre,getElem?_take_of_lt (by omega)];exact h1
  have Z:ps.Nodup:=by rw[<- S.pre];exact S.nd.sublist (take_sublist _ _)
  refine⟨u,rv,?_⟩;rcases S.par y (JR Y)with k|k
  .exact .inl ⟨k,nB Z Y hu k⟩
  .obtain⟨c,e⟩:=qf (n:=s.heap.objs.size+1) k;refine .inr ⟨.inl k,c,e,?_⟩;have q:=x.cell y c e;rw[nD Z Y hu (by show scope.names.lookup y≠_;rw[k];decide)]at q;exact q
 .exact D.hok.fresh (Jy (x.above y c (PySem.mem_of_lookup h)))
 .unfold eY;show _=N.length;rw[I0,ox,length_replicate];exact(by simp[*])
def kj{K:LI}{dV kV ao pm D ct oc:Value} 
  (lk:K.lookup f=some ⟨oc,od,.func (PySem.W.fnOf name qual params body scope dV kV ao pm an D ct),bB⟩) (a2:PySem.W.codeIn K D qual=true) (S:eM N ps scope)
  (len:∀vs H Q E,sp vs H Q E->vs.length=ps.length)
  (Y:∀A outer s H vs Q E,dn k (A.deeper (envOfC qual scope s.heap.objs.size f D))->sp vs H Q E ->
   ∃t,PSs (fU CX P w K mg base N qual scope f D A outer s H E) body t/\t { nx:=λ_ H'=>Q .non H',rt:=Q } (eY N vs) H) :
  dq P w K mg base CX (k+1) f (PySem.W.fnOf name qual params body scope dV kV ao pm an D ct) ps sp:=by
 refine⟨len,λA outer s H args us vs Q E hr e0 hb r a0=>?_⟩;have hl:=len _ _ _ _ a0;have KX:=e0.mod.kin.keeps λb o e=>(e0.bs b o e).1
 have a3:=e0.mod.nolimit.keeps λb o e=>(e0.bs b o e).1
 have Z:∀y∈ps.zip us,scope.names.lookup y.1=some .local\/(scope.names.lookup y.1=some .cell/\((cellsFrom (s.heap.objs.size+1) scope.names []).lookup y.1).isSome=true):=λ⟨n,v⟩ hy=>by
  rcases S.par n (of_mem_zip hy).1 with q|q
  .exact .inl q
  .exact .inr ⟨q,PySem.W.cellsFrom_some _ _ _ (.inl q)⟩
 refine codeAny_call_function hr.depth (KX _ _ lk) rfl S.co S.gen rfl (PySem.W.codeRec_of KX a2) (hb _ _ _ _ ?_);refine wpAny_newFunctionEnv_cells S.kind Z λenv he s1 x=>?_
 subst he;refine⟨a3.keeps x.toInCall.keep,codeAny_func ?_⟩;refine ae (Y A outer s H vs Q E (hr.deeper _) a0) λt ht hq=>?_
 have I:Inv (fU CX P w K mg base N qual scope f D A outer s H E) [] (eY N vs) H s1:=vE S hr.hd e0 hl r x;refine Jj (ht [] s1 (eY N vs) H _ I hq) (λfl s' hs=>?_) λe s' hs=>hs
 have fin:∀{U}{H'}{v}{u},Inv (fU CX P w K mg base N qual scope f D A outer s H E) [] U H' s'->aG v u->Q v H'->CE outer P w H s Q u s':=
  λ{U H' v u} J rv q=>⟨v,H',J.os,J.bare,J.base,J.hok,rv,q⟩
 cases fl with
 |next =>
  refine cr hs λU H' J q=>?_
  exact fin (v:=V.non) (u:=Value.none) J rfl q
 |ret u =>
  refine tX hs λv U H' J rv q=>?_
  exact fin J rv q
 | _ =>
  refine cr hs λ_ _ _ q=>?_
  exact False.elim q
section
variable{X:Cx}{x:Str}{p pos:Pos}{e:Expr}{es:List Expr}{t:TA}{id T:String}{r:List V->Hp->VK->Prop}
noncomputable def tCB(r:List V->Hp->VK->Prop)(t:TA):TE:=λσ H Q=>t σ H λvs H1=>r vs H1 Q
def gI (hc:bM X (.builtin id) r) (J:Gl X x) (hm:X.mg x=none) (U:bootBuiltins x=some (.builtin id)) (Y:PA X (e::es) t) (hn:x ≠ "__name__":=by decide) (q:(x==("__debug__":Str))=false:=by decide)
  (Z:starEach (e::es) X.env=(false,eval e X.env)::starEach es X.env:=by rfl) (D:(backTo pos (starEach es X.env)).any (·.1)=false:=by rfl):PE X (.Call (.Name x p) (e::es) [] pos) (tCB r t):=by
 intro pins s σ H Q I h;refine Kh (jA I J hm U ?_ hn q);exact PyProof.Rows.callWith_builtin1 (thn (Y pos pins s σ H _ I h) λus s1 hq=>aq hq λvs H1 I1 r1 q1=>hc pins s1 σ H1 vs us Q I1 r1 q1) Z D
def hV (hc:bM X (.type T) r) (J:Gl X x) (hm:X.mg x=none) (U:bootBuiltins x=some (.type T)) (Y:PA X (e::es) t) (hn:x ≠ "__name__":=by decide) (q:(x==("__debug__":Str))=false:=by decide)
  (Z:starEach (e::es) X.env=(false,eval e X.env)::starEach es X.env:=by rfl) (D:(backTo pos (starEach es X.env)).any (·.1)=false:=by rfl):PE X (.Call (.Name x p) (e::es) [] pos) (tCB r t):=by
 intro pins s σ H Q I h;refine Kh (jA I J hm U ?_ hn q);exact JY (thn (Y pos pins s σ H _ I h) λus s1 hq=>aq hq λvs H1 I1 r1 q1=>hc pins s1 σ H1 vs us Q I1 r1 q1) Z D
end
end L2
namespace HT
open PySem PyProof.Rows List Option
noncomputable def lexLt:List Int->List Int->Bool
 | [],[]=>false
 | [],_::_=>true
 | _::_,[]=>false
 |x::xs,y::ys=>if x=y then lexLt xs ys else decide (x<y)
def lexLt_cons(x y)(xs ys):lexLt (x::xs) (y::ys)=if x=y then lexLt xs ys else decide (x<y):=rfl
def lexLt_nil_nil:lexLt [] []=false:=rfl
def lexLt_nil_cons(y)(ys):lexLt [] (y::ys)=true:=rfl
def lv(x)(xs):lexLt (x::xs) []=false:=rfl
def eqAt_int(A)(s)(a)(t)(c)(u):∃e,SeqAt.EqAt A s (.int a t) (.int c u) e/\(e=true ↔ a=c):=
 ⟨(a==c),SeqAt.EqAt.int_int a t c u,by simp⟩
def rcLt_int(A)(s)(a)(t)(c)(u)(prog)(w)(E)(Q)(h:Q (.bool (decide (a<c))) s) :
  wpAny (model prog w) A (richCompare .Lt (.int a t) (.int c u)) Q E s:=
 (PyProof.Rows.lt_int h:wpAny (model prog w) A (compareOp .Lt (.int a t) (.int c u)) Q E s)
section
open PySem.SeqAt List Option
open PySem.AutoSeq1 (wpAny_loadPart')
open PySem.MeetsSeq PySem.MeetsSeq2 PySem.MeetsSeq3 List Option
def tuple_lt_ints(l b)(items D)(n n2)(dd a5)(sl a6)(ns ms)(hi:IntsAre items.toList ns)(hj:IntsAre D.toList ms) :
  Meets (Builtin.«tuple.__lt__» ⟨[.ref l,.ref b],[]⟩)
   (λ_ R s=>s.heap.get? l=some { cls:=.type "tuple",dict:=dd,data:=.seq items n,slots:=sl }/\s.heap.get? b=some { cls:=.type "tuple",dict:=a5,data:=.seq D n2,slots:=a6 } /\
    R (.ok (.ret (.bool (lexLt ns ms)))) s):=
 .of_wp λprog w A R s h=>by
  obtain⟨hp,g,d,tk,os⟩:=s;refine j_ h λhl hb h=>?_
  have f2:=KI;have z1:items.size=ns.length:=by rw[<- hi.length];simp
  have z2:D.size=ms.length:=by rw[<- hj.length];simp
  wp_walk using wpAny_loadPart' hl,wpAny_loadPart' hb,wpAny_forIn_list _ (λcO b s'=>b.1=none/\s'=⟨hp,g,d,tk,os⟩/\∃vs ws U Y,cO=vs.zip ws /\
   IntsAre vs U/\IntsAre ws Y/\U.length+D.size=Y.length+items.size/\R (.ok (.ret (.bool (lexLt U Y)))) ⟨hp,g,d,tk,os⟩) _
  case turn =>
   rintro ⟨y,x⟩ cO b s' ⟨aL,rfl,vs,ws,U,Y,hz,a0,Z,J,hR⟩;cases a0 with
   |nil=>rw[zip_nil_left]at hz;cases hz
   |cons a t a2 =>
    cases Z with
    |nil=>rw[zip_nil_right]at hz;cases hz
    |cons c u a3 =>
     rw[zip_cons_cons]at hz;injection hz with bt a1
     injection bt with hy hx
     subst hy hx;rw[lexLt_cons]at hR;simp only[length_cons]at J;refine ae (eqAt_int A.in1 ⟨hp,g,d,tk,os⟩ a t c u) λe he ao=>?_
     refine hU (he prog w _ _ ?_);cases e with
     |true =>
      rw[if_pos (ao.mp rfl)]at hR
      wp_walk
      exact⟨rfl,rfl,_,_,_,_,a1,a2,a3,by omega,hR⟩
     |false =>
      rw[if_neg (λq=>absurd (ao.mpr q) kn)]at hR;have bB:=rcLt_int A.in1 ⟨hp,g,d,tk,os⟩ a t c u prog w
      wp_walk using bB
      exact⟨_,rfl,by simpa using hR⟩
  case fin =>
   rintro ⟨b1,b2⟩ s' ⟨aL,rfl,vs,ws,U,Y,hz,a0,Z,J,hR⟩;simp only at aL;subst aL;have hv:lexLt U Y=decide (items.size<D.size):=by
    cases a0 with
    |nil =>
     cases Z with
     |nil =>
      simp only[length_nil]at J;rw[lexLt_nil_nil];exact(IQ (by omega)).symm
     |cons c u hw =>
      simp only[length_nil,length_cons]at J;rw[lexLt_nil_cons];exact(IM (by omega)).symm
    |cons a t hv =>
     cases Z with
     |nil =>
      simp only[length_nil,length_cons]at J;rw[lv];exact(IQ (by omega)).symm
     |cons c u hw =>
      rw[zip_cons_cons]at hz;exact wP hz
   rw[hv]at hR
   wp_walk
   exact⟨_,rfl,by simpa[Builtin.Tuple.tupleCompareSizes]using hR⟩
  case h =>
   exact⟨rfl,rfl,items.toList,D.toList,ns,ms,rfl,hi,hj,by omega,h⟩
end
section
variable{prog:Program}{w:World}{A:Around}{E:Value->Shared->Prop}{s:Shared}
def lt_tupInts{D q:Array Value}{ns ms:List Int}{Q:Value->Shared->Prop}(hl:IsTup s.heap l D)(hb:IsTup s.heap b q)(hi:IntsAre D.toList ns)(hj:IntsAre q.toList ms)
  (hu:A.units<cLine) (h:Q (.bool (lexLt ns ms)) s):wpAny (model prog w) A (compareOp .Lt (.ref l) (.ref b)) Q E s:=by
 refine bY λZq kq=>?_
 obtain⟨⟨cls,dd,data,sl⟩,ho,hc,n,hd⟩:=id hl;obtain⟨⟨aL,Z,data2,ao⟩,J,U,n2,Y⟩:=id hb;simp only at hc hd U Y;subst hc hd U Y;refine kq ?_;exact Kl (op:=.Lt) ⟨_,ho,rfl⟩ ⟨_,J,rfl⟩ PySem.F.slot_tuple_lt PySem.F.entry_tuple_lt (PySem.F.args_tuple_lt_2 _ _) (tuple_lt_ints l b D q n n2 dd Z sl ao ns ms hi hj)
  ⟨ho,J,show Value.bool _≠Value.notImplemented/\Q _ s from⟨(λx=>nomatch x),h⟩⟩ hu
def cat_tup(ht:IsTup s.heap t vs.toArray)(hb:IsTup s.heap b ws.toArray)(hv:vs≠[])
  (h1:ws=[]->Q (.ref t) s) (h2:ws≠[]->Q (.ref s.heap.objs.size) { s with heap:=s.heap.push { cls:=.type "tuple",data:=.seq (vs++ws).toArray } })
  (Z:vs.length+ws.length<=sizeLine):wpAny (model prog w) A (binaryOp .Add (.ref t) (.ref b)) Q E s:=by
 refine bY λZq kq=>?_
 obtain⟨⟨cls,dd,data,sl⟩,ho,hc,n,hd⟩:=id ht;obtain⟨⟨a0,D,data2,J⟩,q,U,n2,Y⟩:=id hb;simp only at hc hd U Y;subst hc hd U Y;have e:vs.toArray++ws.toArray=(vs++ws).toArray:=by simp
 refine kq ?_;by_cases hw:ws=[]
 .exact Lx ⟨_,ho,rfl⟩ ⟨_,q,rfl⟩ Ly seq_tuple_add PySem.F.slot_tuple_add PySem.F.entry_tuple_add (PySem.F.args_tuple_add_2 _ _)
   (tuple_addW1 t b vs.toArray ws.toArray n n2 dd D sl J (by simpa using hv) (by simp[hw])) ⟨ho,q,h1 hw⟩
 .refine Lx ⟨_,ho,rfl⟩ ⟨_,q,rfl⟩ Ly seq_tuple_add PySem.F.slot_tuple_add PySem.F.entry_tuple_add (PySem.F.args_tuple_add_2 _ _)
   (tuple_addW2 t b vs.toArray ws.toArray n n2 dd D sl J (by simpa using hv) (by simpa using hw) (by rw[pb,pb];exact Z)) ⟨ho,q,?_⟩
  rw[e];exact h2 hw
noncomputable def sIx(n d:Nat):Option Int->Nat
 |none=>d
 |some v=>if v<0 then(v+(n:Int)).toNat else min v.toNat n
def CO(n d)(hd:d<=n)(o):sIx n d o<=n:=by
 cases o with
 |none=>exact hd
 |some v =>
  show(if v<0 then(v+_).toNat else min v.toNat n)<=n
  grind
def t9(v)(n d:Nat):(if v<0 then max (v+(n:Int)) 0 else min v (n:Int))=((sIx n d (some v):Nat):Int):=by
 show(if v<0 then max _ 0 else min v _)=(((if v<0 then(v+_).toNat else min v.toNat n):Nat):Int)
 grind
def sf(lo hi)(n:Nat):Builtin.Slice.sliceAdjust lo hi 1 (n:Int)=(((sIx n 0 lo:Nat):Int),((sIx n n hi:Nat):Int)):=by
 refine Prod.ext ?_ ?_
 .cases lo with
  |none=>rfl
  |some v=>exact t9 v n 0
 .cases hi with
  |none=>rfl
  |some v=>exact t9 v n n
def sg(i j:Nat):Builtin.Slice.slicePlaces (i:Int) (j:Int) 1=j-i:=by
 unfold Builtin.Slice.slicePlaces
 grind
def lw(p:IsPart v o)(h:Q o s):wpAny (model prog w) A (Builtin.Slice.slicePartIndex v) Q E s:=by
 cases p<;>first|exact slicePart_none h|exact slicePart_int h
def fV{lo hi:Option Int}{n:Nat}{Q:Int×Int×Nat->Shared->Prop}(Y:s.heap.IsSliceOf Z J U .none)(pl:IsPart J lo)(pu:IsPart U hi)
  (h:Q (((sIx n 0 lo:Nat):Int),1,sIx n n hi-sIx n 0 lo) s):wpAny (model prog w) A (Builtin.Slice.sliceApplied (.ref Z) (pure (n:Int))) Q E s:=by
 refine aM (id Y) λos q aL D=>?_
 refine hU (hU (wpAny_field q D (x:=J) rfl (hU (wpAny_field q D (x:=U) rfl (hU (wpAny_field q D (x:=.none) rfl (kv ?_)))))));refine hU (slicePart_none ?_);rw[if_neg (by decide)];refine hU (lw pl (hU (lw pu (hU (kv ?_)))));show wpAny _ _ (match Builtin.Slice.sliceAdjust lo hi 1 _ with|(lo,hi)=>pure (lo,_,Builtin.Slice.slicePlaces lo hi 1)) _ _ s;rw[sf lo hi n];show wpAny _ _ (pure (((sIx n 0 lo:Nat):Int),_,Builtin.Slice.slicePlaces _ _ 1)) _ _ s;rw[sg];exact kv h
def xg(xs:Array Value)(i k:Nat):((range k).filterMap λ(m:Nat)=>xs[((i:Int)+(m:Int)*1).toNat]?).toArray=((xs.toList.drop i).take k).toArray:=by
 have e:(λ(m:Nat)=>xs[((i:Int)+(m:Int)*1).toNat]?)=λm=>xs[i+m]?:=by
  funext m
  have:((i:Int)+(m:Int)*1).toNat=i+m:=by omega
  rw[this]
 rw[e];have:=pick_run xs i k;rw[filterMap_map]at this;have q:((λx=>xs[x]?)∘λx=>i+x)=λm=>xs[i+m]?:=rfl
 rw[q]at this;rw[this]
def getItem_tuple_cut{q:Array Value}{vl vu:Value}{lo hi:Option Int}{Q:Value->Shared->Prop}(ht:IsTup s.heap t q)(hs:s.heap.IsSliceOf sl vl vu .none)(pl:IsPart vl lo)(pu:IsPart vu hi)
  (hw:¬ (sIx q.size 0 lo=0/\sIx q.size q.size hi=q.size))
  (h:Q (.ref s.heap.objs.size) { s with heap:=s.heap.push { cls:=.type "tuple",data:=.seq ((q.toList.drop (sIx q.size 0 lo)).take (sIx q.size q.size hi-sIx q.size 0 lo)).toArray } })
  (a3:q.size<=sizeLine):wpAny (model prog w) A (getItem (.ref t) (.ref sl)) Q E s:=by
 have D:sizeOk (.seq ((q.toList.drop (sIx q.size 0 lo)).take (sIx q.size q.size hi-sIx q.size 0 lo)).toArray):=by
  show((q.toList.drop (sIx q.size 0 lo)).take (sIx q.size q.size hi-sIx q.size 0 lo)).toArray.size<=sizeLine;rw[pb,KU,Ld,Array.length_toList];omega
 have hj:sIx q.size q.size hi<=q.size:=CO _ _ (pd _) hi;refine aM (id hs) λos J U a4=>?_
 have Y:s.TypeIs (.ref sl) "slice":=⟨os,J,U⟩;unfold getItem
 try with_reducible refine JJ ?_
 first|refine hU (kv ?_)|skip
 refine hU (wpAny_sequenceKey ht.typeIs (by decide) ?_);refine hU (Jq (name:=Str.ofString "__getitem__") ht.typeIs Jp
  (Jg Jp ht.typeIs entry_tuple_getitem ?_ (args_tuple_getitem _ _)))
 show wpAny _ _ (Builtin.Tuple.tupleItemsOf (.ref t) >>= _) _ _ s;refine hU (tupleItemsOf_ ht ?_);refine hU (KJ Y ?_);rw[if_pos (by decide)];refine hU (fV hs pl pu ?_);have Z:¬ ((((sIx q.size 0 lo:Nat):Int)==0&&(1:Int)==1&&(sIx q.size q.size hi-sIx q.size 0 lo)==q.size)=true):=by
  simp_all
 show wpAny _ _ (if (((sIx q.size 0 lo:Nat):Int)==0&&(1:Int)==1&&(sIx q.size q.size hi-sIx q.size 0 lo)==q.size)=true then _ else _) _ _ s;rw[if_neg Z,xg]
 first
  | exact hU (m:=Builtin.Tuple.tupleExact _) (Jo (kv ⟨_,rfl,kv h⟩) D)
  | exact hU (m:=Builtin.Tuple.tupleExact _) (Jo (hU (kv (kv ⟨_,rfl,kv h⟩))) D)
  | exact hU (hU (m:=Builtin.Tuple.tupleExact _) (Jo (kv (kv ⟨_,rfl,kv h⟩)) D))
  | exact hU (hU (m:=Builtin.Tuple.tupleExact _) (Jo (kv ⟨_,rfl,kv h⟩) D))
end
end HT
namespace L2
open PySem PySem.Spec PyProof.Rows List Option
noncomputable abbrev TO:=St->Hp->(Option Int->Hp->Prop)->Prop
def PO(X:Cx)(e:Option Expr)(t:TO):Prop:=
 ∀pins s (σ:St) H Q,Inv X pins σ H s->t σ H Q ->
  wpAny (model X.prog X.w) X.A (evalPart e X.env) (λu s'=>∃o H',Inv X pins σ H' s'/\IsPart u o/\Q o H') X.xe s
noncomputable def z_:TO:=λ_ H Q=>Q none H
noncomputable def FP(t:TE):TO:=λσ H Q=>t σ H λx H1=>∃i,x=.int i/\Q (some i) H1
def dy :∀{us},aA (ns.map V.int) us->IntsAre us ns:=by
 induction ns with
 |nil=>intro us r;rw[map_nil]at r;cases r;exact .nil
 |cons n ns ih =>
  intro us r;cases r with
  |cons q D =>
   obtain⟨t,e⟩:=q;subst e;exact .cons n t (ih D)
section
variable{X:Cx}{e:Expr}{te:TE}{lo hi:Option Expr}{tl th:TO}{pos p2:Pos}
def Aa:PO X none z_:=by
 intro pins s σ H Q I h;rw[evalPart_none];exact kv ⟨none,H,I,.none,h⟩
def Ab(h:PE X e te):PO X (some e) (FP te):=by
 intro pins s σ H Q I hw;rw[evalPart_some];refine thn (h pins s σ H _ I hw) λu s1 J=>aq J λx H1 U Y Z=>?_
 refine ae Z λi D q=>?_
 subst D;obtain⟨t,rfl⟩:=Y;exact⟨some i,H1,U,.int i t,q⟩
def SlR(X:Cx)(r:V->Option Int->Option Int->Hp->VK->Prop):Prop:=
 ∀pins s (σ:St) H x v q D lo hi J Q,Inv X pins σ H s->aG x v->s.heap.IsSliceOf J q D .none->IsPart q lo->IsPart D hi->r x lo hi H Q ->
  ∃T id,typeLookup (.type T) "__getitem__"=pure (some (.builtin id))/\s.TypeIs v T/\wpAny (model X.prog X.w) X.A (getItem v (.ref J)) (EP X pins σ Q) X.xe s
noncomputable def tSl(r:V->Option Int->Option Int->Hp->VK->Prop)(te:TE)(tl th:TO):TE:=λσ H Q=>te σ H λx H1=>tl σ H1 λl H2=>th σ H2 λu q=>r x l u q Q
def xh(hr:SlR X r)(he:PE X e te)(hl:PO X lo tl)(hu:PO X hi th):PE X (.Subscript e (.Slice lo hi none p2) pos) (tSl r te tl th):=by
 intro pins s σ H Q I h;refine Subscript_ (thn (he pins s σ H _ I h) λv s1 J=>aq J λx H1 I1 r1 q1=>?_);refine wpAny_Slice (thn (hl pins s1 σ H1 _ I1 q1) λU s2 J=>aq J λl H2 I2 pl q2=>thn (hu pins s2 σ H2 _ I2 q2) λY D J=>aq J λu Z I3 pu q3=>?_);rw[evalPart_none];refine kv ?_;have I4:Inv X pins σ Z { D with heap:=D.heap.push { cls:=.type "slice",data:=.fields #[U,Y,.none] } }:=I3.kept (t':=D.toks) λb ob q=>i2 _ q
 obtain⟨T,id,hT,ht,hg⟩:=hr pins { D with heap:=D.heap.push { cls:=.type "slice",data:=.fields #[U,Y,.none] } } σ Z x v U Y l u D.heap.objs.size Q I4 r1 (Heap.IsSliceOf.new ..) pl pu q3;exact tail_any ht hT hg (by with_unfolding_all rfl)
noncomputable def qg(xs:List V)(lo hi:Option Int):List V:=(xs.drop (HT.sIx xs.length 0 lo)).take (HT.sIx xs.length xs.length hi-HT.sIx xs.length 0 lo)
def km(xs)(lo hi):(qg xs lo hi).length<=xs.length:=by
 unfold qg;rw[KU,Ld];omega
def HX(K:LI):V->Option Int->Option Int->Hp->VK->Prop:=λx lo hi H Q=>∃a xs,x=.ref a/\SqT K H a xs /\
 ¬ (HT.sIx xs.length 0 lo=0/\HT.sIx xs.length xs.length hi=xs.length)/\∀p,H p=none->Q (.ref p) (upd H p (.tup (qg xs lo hi)))
def CP:SlR X (HX X.K):=by
 intro pins s σ H x v vl vu lo hi sl Q I U Y pl Z h;refine fQ h λa xs J hx hw q=>?_
 subst J;subst U;refine aM (I.tuple hx) λits r ht hz=>?_
 have D:its.toArray.size=xs.length:=by rw[pb];exact r.length.symm
 refine⟨"tuple",_,Jp.lookup,ht.typeIs,?_⟩;refine HT.getItem_tuple_cut ht Y pl Z (by rw[D];exact hw) ?_ (by rw[D];exact hz);rw[D];refine⟨.ref s.heap.objs.size,_,I.laid (t':=s.toks) (o:=.tup (qg xs lo hi)) (λb ob q=>i2 _ q) (pd _) ?_,rfl,q _ (I.hok.fresh (pd _))⟩;exact⟨IK (km xs lo hi) hz,_,(r.drop (HT.sIx xs.length 0 lo)).take (HT.sIx xs.length xs.length hi-HT.sIx xs.length 0 lo),IsTup.new _ _⟩
noncomputable def FQ(K:LI):R2:=λx y H Q=>∃a b xs ys,x=.ref a/\y=.ref b/\SqT K H a xs/\SqT K H b ys/\xs≠[]/\xs.length+ys.length<=sizeLine /\
 (ys=[]->Q (.ref a) H)/\(ys≠[]->∀p,H p=none->Q (.ref p) (upd H p (.tup (xs++ys))))
def aA.nil_iff(r:aA xs us):us=[] ↔ xs=[]:=by
 cases r<;>simp_all
def Ac:OpR X (binaryOp .Add) (FQ X.K):=by
 intro pins s σ H x y v u Q I Y Z h;refine bY λZq kq=>?_
 obtain⟨a,b,xs,ys,rfl,rfl,ha,hb,hx,hz,q1,q2⟩:=h;subst Y;subst Z;refine kq ?_;refine aM (I.tuple ha) λits J p1 _=>?_
 refine aM (I.tuple hb) λU D p2 _=>?_
 refine HT.cat_tup p1 p2 (λz=>hx (J.nil_iff.mp z)) (λz=>⟨.ref a,H,I,rfl,q1 (D.nil_iff.mp z)⟩) (λz=>?_) (by rw[<- J.length,<- D.length];exact hz);refine⟨.ref s.heap.objs.size,_,I.laid (t':=s.toks) (o:=.tup (xs++ys)) (λb ob q=>i2 _ q) (pd _) ?_,rfl,q2 (λw=>z (D.nil_iff.mpr w)) _ (I.hok.fresh (pd _))⟩;exact⟨by rw[I0];exact hz,_,J.append D,IsTup.new _ _⟩
end
noncomputable def ixN(n:Nat)(i:Int):Option Nat:=if 0<=i then(if i<n then some i.toNat else none)else if -(n:Int)<=i then some (i+n).toNat else none
noncomputable def atI{α:Type}(xs:List α)(i:Int):Option α:=(ixN xs.length i).bind λj=>xs[j]?
def t_(h:ixN n i=some j):seqIndex? i n=some j/\j<n/\-(n:Int)<=i/\i<n:=by
 unfold ixN at h;by_cases h0:0<=i
 .rw[if_pos h0]at h;by_cases h1:i<n
  .rw[if_pos h1]at h;have e:=x2 h;exact⟨by rw[seqIndex_of h0 h1,e],by omega,by omega,h1⟩
  .simp_all
 .rw[if_neg h0]at h;by_cases h1:-(n:Int)<=i
  .rw[if_pos h1]at h;have e:=x2 h;exact⟨by rw[seqIndex_neg (Lv.mp ‹_›) h1,e],by omega,h1,by omega⟩
  .simp_all
def oO(h:atI xs i=some v):∃j,seqIndex? i xs.length=some j/\xs[j]?=some v/\j<xs.length/\-(xs.length:Int)<=i/\i<xs.length:=by
 unfold atI at h;cases e:ixN xs.length i with
 |none=>rw[e]at h;exact aP h
 |some j =>
  rw[e]at h;refine fP (t_ e) λh1 h2 h3 h4=>?_
  exact⟨j,h1,h,h2,h3,h4⟩
def ua(b:Expr):Prop:=∀o i,subscripted b false o i=operate [o,i] (getItem o i)
def IxR(X:Cx)(r:R2):Prop:=
 ∀value slice pins s (σ:St) H x y v u Q,Inv X pins σ H s->aG x v->aG y u->r x y H Q ->
  subscripted slice false v u=operate [v,u] (getItem v u)->wpAny (model X.prog X.w) X.A (subscriptTail value slice v u) (EP X pins σ Q) X.xe s
def MtR(X:Cx)(id:String)(r:V->List V->Hp->VK->Prop):Prop:=
 ∀pins s (σ:St) H x xs v us Q,Inv X pins σ H s->aG x v->aA xs us->r x xs H Q ->
  wpAny (model X.prog X.w) X.A (call (.builtin id) (v::us)) (EP X pins σ Q) X.xe s
section
variable{X:Cx}{a b:Expr}{ta tb:TE}{pos:Pos}
theorem IxR.or(h:IxR X r)(h':IxR X Y):IxR X (λx y H Q=>r x y H Q\/Y x y H Q):=by
 intro value slice pins s σ H x y v u Q I D J q U;rcases q with q|q
 .exact h value slice pins s σ H x y v u Q I D J q U
 .exact h' value slice pins s σ H x y v u Q I D J q U
def xi(hr:IxR X r)(D:PE X a ta)(J:PE X b tb)(U:ua b):PE X (.Subscript a b pos) (tOp r ta tb):=by
 intro pins s σ H Q I h;exact Subscript_ (CD D J I h λv u Y x y H2 Z rx ry q=>hr a b pins Y σ H2 x y v u Q Z rx ry q (U _ _))
noncomputable def FS(K:LI):R2:=λx y H Q=>∃p xs i v,x=.ref p/\y=.int i/\SqL K H p xs/\atI xs i=some v/\Q v H
noncomputable def FT(K:LI):R2:=λx y H Q=>∃p xs i v,x=.ref p/\y=.int i/\SqT K H p xs/\atI xs i=some v/\Q v H
noncomputable def FU:R2:=λx y H Q=>∃z i c,x=.str z/\y=.int i/\z.length<=sizeLine/\atI z.cps.toList i=some c/\Q (.str ⟨#[c]⟩) H
def Ad:IxR X (FS X.K):=by
 intro value slice pins s σ H x y v u Q I rx ry h Z;refine lj h λp xs i z D J hq he q=>?_
 subst D;subst J;subst rx;obtain⟨t,rfl⟩:=ry;refine aM (I.list hq) λits r pl hz=>?_
 refine nj (oO he) λj h1 h2 h3 h4 h5=>?_
 refine ae (r.get h2) λw ew U=>?_
 have hl:=r.length;have hn:=ir;have fin:EP X pins σ Q w s:=⟨z,H,I,U,q⟩;by_cases h0:0<=i
 .have Y:i.toNat=j:=by
   rw[seqIndex_of h0 h5]at h1;exact x2 h1
  exact item_listR pl.isList h0 (by omega) (by rw[Y];simpa using ew) fin Z
 .have Y:(i+(its.toArray.size:Int)).toNat=j:=by
   rw[seqIndex_neg (Lv.mp ‹_›) h4]at h1;rw[pb,<- hl];exact x2 h1
  exact subscriptTail_builtinR (x:=w) pl.isList.typeIs slot_list_getitem.lookup
   (wpAny_getItem_list_neg (Q:=λr s'=>r=w/\EP X pins σ Q r s') pl.isList (Lv.mp ‹_›) (by rw[pb]<;>omega) (by omega) (by rw[Y];simpa using ew) ⟨rfl,fin⟩) Z
def sh:IxR X (FT X.K):=by
 intro value slice pins s σ H x y v u Q I Y Z h hs;refine bY λZq kq=>?_
 refine lj h λp xs i z D J hq he q=>?_
 subst D;subst J;subst Y;obtain⟨t,rfl⟩:=Z;refine aM (I.tuple hq) λits r pl hz=>?_
 refine nj (oO he) λj h1 h2 h3 h4 h5=>?_
 refine ae (r.get h2) λw ew U=>?_
 have hl:=r.length;have hn:=ir;have fin:EP X pins σ Q w s:=⟨z,H,I,U,q⟩;refine kq ?_;exact subscriptTail_builtinR pl.typeIs slot_tuple_getitem.lookup
  (getItem_tuple pl (by omega) (by omega) (by rw[pb,<- hl];exact h1) (by simpa using ew) ⟨rfl,fin⟩) hs
def CQ:IxR X FU:=by
 intro value slice pins s σ H x y v u Q I U Y h Z;refine bY λZq kq=>?_
 refine kd h λz i c D J hz he q=>?_
 subst D;subst J;obtain⟨t,rfl⟩:=U;obtain⟨t',rfl⟩:=Y;refine nj (oO he) λj h1 h2 h3 h4 h5=>?_
 have hl:z.cps.toList.length=z.length:=by rfl
 rw[hl]at h1 h4 h5;have hn:=ir;refine kq ?_;exact tail_any (typeIs_str s z t) slot_str_getitem.lookup (getItem_str (by
  have e1:decide (i < -(2 ^ 63:Int))=false:=IQ (by omega);have e2:decide (i>=2 ^ 63)=false:=IQ (by omega);rw[e1,e2,Bool.or_false]) (by rw[h1];simpa using h2) ⟨.str ⟨#[c]⟩,H,I.tok _,⟨_,rfl⟩,q⟩) Z
noncomputable def rIx(K:LI):R2:=λx y H Q=>FS K x y H Q\/FT K x y H Q\/FU x y H Q
def si:IxR X (rIx X.K):=Ad.or (sh.or CQ)
def sj (its:List Value) (n j) (u):Obj.mapSeq (·.setIfInBounds j u) { cls:=.type "list",data:=.seq its.toArray n }={ cls:=.type "list",data:=.seq (its.set j u).toArray n }:=by
 simp[Obj.mapSeq]
theorem Inv.lst(I:Inv X pins σ H s)(h:H p=some (.lst xs)) :
  ∃its n,aA xs its/\s.heap.get? p=some { cls:=.type "list",data:=.seq its.toArray n }/\xs.length<=sizeLine:=by
 obtain⟨z,its,n,r,e⟩:=I.hok p _ h;exact⟨its,n,r,e,z⟩
def Inv.lstUpd{σ:St}{H:Hp}{s:Shared}{p:Addr}{xs ys:List V}{its its':List Value}{n D:Nat}{f:Obj->Obj}(I:Inv X pins σ H s)(h:H p=some (.lst xs))
  (ho:s.heap.get? p=some { cls:=.type "list",data:=.seq its.toArray n }) (J:f { cls:=.type "list",data:=.seq its.toArray n }={ cls:=.type "list",data:=.seq its'.toArray D }) (r:aA ys its') (hz:ys.length<=sizeLine) (t) :
  Inv X pins σ (upd H p (.lst ys)) { s with heap:=s.heap.update p f,toks:=t }:=by
 have e:(s.heap.update p f).get? p=some { cls:=.type "list",data:=.seq its'.toArray D }:=by
  rw[JD f ho (by rw[J]<;>rfl),J]
 refine I.write (x:=p) (e:=p) (by rw[h];trivial) (.inl rfl) (λb u U q=>(JA _ _ (Jk U)).trans q) ⟨_,e⟩ ?_;exact⟨hz,its',D,r,e⟩
def FV:V->V->V->Hp->(Hp->Prop)->Prop:=λo i v H Q=>∃p xs k j,o=.ref p/\i=.int k/\H p=some (.lst xs)/\ixN xs.length k=some j/\Q (upd H p (.lst (xs.set j v)))
def set_list:HQ X FV:=by
 intro pins s σ H o i v ov iv u Q I ro ri rv h;refine lj h λp xs k j D J Y hj q=>?_
 subst D;subst J;subst ro;obtain⟨t,rfl⟩:=ri;refine aq (I.lst Y) λits n r ho hz=>?_
 refine fP (t_ hj) λh1 h2 h3 h4=>?_
 have hl:=r.length;have hn:=ir;have Z:Inv X pins σ (upd H p (.lst (xs.set j v))) { s with heap:=s.heap.update p (Obj.mapSeq (·.setIfInBounds j u)) }:=
  I.lstUpd Y ho (sj its n j u) (r.set rv j) (by rw[JS];exact hz) s.toks
 by_cases h0:0<=k
 .have U:k.toNat=j:=by
   rw[seqIndex_of h0 h4]at h1;exact x2 h1
  exact PySem.W.ki_setAt ho h0 (by omega) (by rw[pb,<- hl];exact h4) (by rw[U];exact⟨_,Z,q⟩)
 .have U:(k+(its.toArray.size:Int)).toNat=j:=by
   rw[seqIndex_neg (Lv.mp ‹_›) h3]at h1;rw[pb,<- hl];exact x2 h1
  exact PySem.W.ki_setBack ho (Lv.mp ‹_›) (by rw[pb,<- hl];exact h3) (by omega) (by rw[U];exact⟨_,Z,q⟩)
def oP(lo hi)(n):(sliceBounds lo hi none n).1=((HT.sIx n 0 lo:Nat):Int)/\(sliceBounds lo hi none n).2.1=((HT.sIx n n hi:Nat):Int)/\(sliceBounds lo hi none n).2.2=1:=by
 refine⟨?_,?_,rfl⟩
 .cases lo with
  |none=>rfl
  |some i =>
   simp[sliceBounds,HT.sIx,getD_none,show(1:Int) > 0 by decide,if_true];by_cases h:i<0
   .simp[h,if_true]<;>omega
   .simp[h,KL]<;>omega
 .cases hi with
  |none=>rfl
  |some i =>
   simp[sliceBounds,HT.sIx,getD_none,show(1:Int) > 0 by decide,if_true];by_cases h:i<0
   .simp[h,if_true]<;>omega
   .simp[h,KL]<;>omega
def mW(its:List Value)(lo hi:Option Int):slicePick its.toArray lo hi none=((its.drop (HT.sIx its.length 0 lo)).take (HT.sIx its.length its.length hi-HT.sIx its.length 0 lo)).toArray:=by
 refine j_ (oP lo hi its.toArray.size) λh1 h2 h3=>?_
 unfold slicePick;rw[h1,h2,h3];simp only[sliceRange_one,pick_run,pb]<;>rfl
def HY(K:LI):V->Option Int->Option Int->Hp->VK->Prop:=λx lo hi H Q=>∃a xs,x=.ref a/\SqL K H a xs/\∀p,H p=none->Q (.ref p) (upd H p (.lst (qg xs lo hi)))
def Ae:SlR X (HY X.K):=by
 intro pins s σ H x v vl vu lo hi sl Q I U Y pl Z h;refine aq h λa xs J hx q=>?_
 subst J;subst U;refine aM (I.list hx) λits r ht hz=>?_
 have D:=r.length;refine⟨"list",_,slot_list_getitem.lookup,ht.isList.typeIs,?_⟩;refine wpAny_getItem_list_slice ht.isList Y pl Z .none (by simp) ?_ (by rw[pb]<;>omega);rw[mW,<- D];refine⟨.ref s.heap.objs.size,_,I.laid (t':=s.toks) (o:=.lst (qg xs lo hi)) (λb ob q=>i2 _ q) (pd _) ?_,rfl,q _ (I.hok.fresh (pd _))⟩;exact⟨IK (km xs lo hi) hz,_,0,(r.drop (HT.sIx xs.length 0 lo)).take (HT.sIx xs.length xs.length hi-HT.sIx xs.length 0 lo),pe _ rfl⟩
noncomputable def gJ:V->Bool
 | .non=>true
 | .bl _=>true
 | .int _=>true
 | .str _=>true
 | _=>false
noncomputable def eqV:V->V->Bool
 | .non,.non=>true
 | .bl a,.bl b=>a==b
 | .bl a,.int b=>(if a then 1 else 0)==b
 | .int a,.bl b=>a==(if b then 1 else 0)
 | .int a,.int b=>a==b
 | .str a,.str b=>a==b
 | _,_=>false
def xj(D:aG y u)(q:aG x v)(U:gJ y=true)(J:gJ x=true):SeqAt.EqAt A s u v (eqV y x):=by
 cases y with
 |non =>
  cases D;cases x with
  |non=>subst q;exact SeqAt.EqAt.same _
  |bl b=>subst q;exact SeqAt.EqAt.none_bool b
  |int b=>obtain⟨t,rfl⟩:=q;exact SeqAt.EqAt.none_int b t
  |str b=>obtain⟨t,rfl⟩:=q;exact SeqAt.EqAt.none_str b t
  | _=>exact absurd (show false=true from J) kn
 |bl a =>
  subst D;cases x with
  |non=>subst q;exact SeqAt.EqAt.bool_none a
  |bl b=>subst q;exact SeqAt.EqAt.bool_bool a b
  |int b=>obtain⟨t,rfl⟩:=q;exact SeqAt.EqAt.bool_int a b t
  |str b=>obtain⟨t,rfl⟩:=q;exact SeqAt.EqAt.bool_str a b t
  | _=>exact absurd (show false=true from J) kn
 |int a =>
  obtain⟨t',rfl⟩:=D;cases x with
  |non=>subst q;exact SeqAt.EqAt.int_none a t'
  |bl b=>subst q;exact SeqAt.EqAt.int_bool a t' b
  |int b=>obtain⟨t,rfl⟩:=q;exact SeqAt.EqAt.int_int a t' b t
  |str b=>obtain⟨t,rfl⟩:=q;exact SeqAt.EqAt.int_str a t' b t
  | _=>exact absurd (show false=true from J) kn
 |str a =>
  obtain⟨t',rfl⟩:=D;cases x with
  |non=>subst q;exact SeqAt.EqAt.str_none a t'
  |bl b=>subst q;exact SeqAt.EqAt.str_bool a t' b
  |int b=>obtain⟨t,rfl⟩:=q;exact SeqAt.EqAt.str_int a t' b t
  |str b=>obtain⟨t,rfl⟩:=q;exact SeqAt.EqAt.str_str a t' b t
  | _=>exact absurd (show false=true from J) kn
 | _=>exact absurd (show false=true from U) kn
def iT:bM X (.builtin "len") (λxs H Q=>∃p ys,xs=[.ref p]/\(SqL X.K H p ys\/SqT X.K H p ys)/\Q (.int ys.length) H):=by
 intro pins s σ H xs us Q I r h;refine aq h λp ys U J q=>?_
 subst U;refine ae (dQ r) λu Y rx=>?_
 subst Y;subst rx;have hn:=ir;rcases J with J|J
 .obtain⟨its,Z,pl,hz⟩:=I.list J;have D:=Z.length;exact Calls.call_len_list pl.isList (by simp[pb]<;>omega) ⟨.int ys.length,H,I.tok _,⟨s.toks+1,by rw[pb,D]⟩,q⟩
 .obtain⟨its,Z,pl,hz⟩:=I.tuple J;have D:=Z.length;exact len_tuple pl (by simp[pb]<;>omega) ⟨.int ys.length,H,I.tok _,⟨s.toks+1,by rw[pb,D]⟩,q⟩
def oQ:bM X (.builtin "len") (λxs H Q=>∃z,xs=[.str z]/\z.length<=sizeLine/\Q (.int z.length) H):=by
 intro pins s σ H xs us Q I r h;obtain⟨z,rfl,hz,q⟩:=h;obtain⟨u,rfl,t,rfl⟩:=dQ r;have hn:=ir;exact len_str (by omega) ⟨.int z.length,H,I.tok _,⟨_,rfl⟩,q⟩
def oR:bM X (.type "list") (λxs H Q=>∃p ys,xs=[.ref p]/\(SqL X.K H p ys\/SqT X.K H p ys)/\∀l,H l=none->Q (.ref l) (upd H l (.lst ys))):=by
 intro pins s σ H xs us Q I r h;refine aq h λp ys Z U q=>?_
 subst Z;refine ae (dQ r) λu ao rx=>?_
 subst ao;subst rx;have fin:∀its,aA ys its->ys.length<=sizeLine->∀h' D,(∀b o',s.heap.get? b=some o'->h'.get? b=some o') ->
   h'.get? s.heap.objs.size=some { cls:=.type "list",dict:=none,data:=.seq its.toArray D,slots:=#[] }->EP X pins σ Q (.ref s.heap.objs.size) { s with heap:=h' }:=λits J hz h' D kp e =>
  ⟨.ref s.heap.objs.size,_,I.laid (t':=s.toks) kp (pd _) (show bX X.prog X.w _ h' _ (.lst ys)from⟨hz,its,D,J,e⟩),rfl,q _ (I.hok.fresh (pd _))⟩
 rcases U with U|U
 .obtain⟨its,J,pl,hz⟩:=I.list U;have Y:=J.length;obtain⟨o,ho,hc,n,hd⟩:=pl.isList;exact call_list_seq p (.inl rfl) ho hc hd (λh' D kp e=>fin its J hz h' D kp e) (by simp only[pb]<;>omega)
 .obtain⟨its,J,pl,hz⟩:=I.tuple U;have Y:=J.length;obtain⟨o,ho,hc,n,hd⟩:=pl;exact call_list_seq p (.inr rfl) ho hc hd (λh' D kp e=>fin its J hz h' D kp e) (by simp only[pb]<;>omega)
def ij:bM X (.type "tuple") (λxs H Q=>∃p ys,xs=[.ref p]/\((SqL X.K H p ys/\∀l,H l=none->Q (.ref l) (upd H l (.tup ys)))\/(SqT X.K H p ys/\Q (.ref p) H))):=by
 intro pins s σ H xs us Q I r h;obtain⟨p,ys,rfl,h⟩:=h;refine ae (dQ r) λu D rx=>?_
 subst D;subst rx;rcases h with⟨J,q⟩|⟨J,q⟩
 .refine aM (I.list J) λits U pl hz=>?_
  have Y:=U.length;refine call_tuple_list pl.isList (λh' kp=>?_) (by simp[pb]<;>omega);have Z:=I.kept (t':=s.toks) kp;have I2:Inv X pins σ (upd H h'.objs.size (.tup ys)) { s with heap:=h'.push { cls:=.type "tuple",data:=.seq its.toArray } }:=
   Z.laid (λb o e=>i2 _ e) (pd _) (show bX X.prog X.w _ _ _ _ from⟨hz,its,U,IsTup.new _ _⟩)
  exact⟨.ref h'.objs.size,_,I2,rfl,q _ (Z.hok.fresh (pd _))⟩
 .refine aM (I.tuple J) λits U pl hz=>?_
  exact call_tuple_same pl ⟨.ref p,H,I,rfl,q⟩
def tyV(K:LI)(T:String)(x:V)(H:Hp):Prop:=match x with
 | .str _=>T="str"
 | .int _=>T="int"
 | .ref p=>(T="list"/\∃xs,SqL K H p xs)\/(T="tuple"/\∃o,K.lookup p=some o/\o.cls=.type "tuple"/\o.dict=none) \/
   (T="dict"/\((∃kvs,H p=some (.dK kvs))\/∃kvs,H p=some (.dT kvs)))\/(T="set"/\∃S n,H p=some (.set S n))
 | _=>False
def xk(I:Inv X pins σ H s)(r:aG x v)(ty:tyV X.K T x H) :
  s.TypeIs v T/\∀a,v=.ref a->∃ob,s.heap.get? a=some ob/\ob.dict=none:=by
 cases x with
 |str z =>
  obtain⟨t,rfl⟩:=r;cases (show T="str" from ty);exact⟨typeIs_str s z t,λ_ e=>nomatch e⟩
 |int i =>
  obtain⟨t,rfl⟩:=r;cases (show T="int" from ty);exact⟨typeIs_int s i t,λ_ e=>nomatch e⟩
 |ref p =>
  subst r;rcases ty with⟨rfl,xs,J⟩|⟨rfl,o,q,hc,hd⟩|⟨rfl,q⟩|⟨rfl,S,n,q⟩
  .refine aM (I.list J) λits _ pl _=>?_
   refine⟨pl.isList.typeIs,λa e=>?_⟩;cases e;refine fQ pl λo n e c hd _=>?_
   exact⟨o,e,hd⟩
  .refine⟨⟨o,I.kIn p o q,hc⟩,λa e=>?_⟩;cases e;exact⟨o,I.kIn _ o q,hd⟩
  .have z:∃o,s.heap.get? p=some o/\o.ExactDict:=by
    rcases q with⟨kvs,q⟩|⟨kvs,q⟩
    .obtain⟨_,_,_,_,o,_,_,e,ex,_⟩:=I.hok p _ q;exact⟨o,e,ex⟩
    .obtain⟨_,_,_,_,o,_,_,e,ex,_⟩:=I.hok p _ q;exact⟨o,e,ex⟩
   obtain⟨o,e,ex⟩:=z;refine⟨⟨o,e,ex.1⟩,λa D=>?_⟩;cases D;exact⟨o,e,ex.2.1⟩
  .refine Fu (I.hok p _ q) λo _ _ _ e ex _=>?_
   refine⟨⟨o,e,ex.1⟩,λa D=>?_⟩;cases D;exact⟨o,e,ex.2.1⟩
 | _=>exact False.elim ty
noncomputable def HZ(K:LI)(T:String)(r:V->List V->Hp->VK->Prop)(to:TE):TE:=λσ H Q=>to σ H λx H1=>tyV K T x H1/\r x [] H1 Q
noncomputable def tBM(K:LI)(T:String)(r:V->List V->Hp->VK->Prop)(to:TE)(t:TA):TE:=λσ H Q=>to σ H λx H1=>tyV K T x H1/\t σ H1 λxs H2=>r x xs H2 Q
variable{o e:Expr}{es:List Expr}{to:TE}{t:TA}{name:Str}{apos cpos:Pos}{T id:String}{r:V->List V->Hp->VK->Prop}
def CS (Z:PlainAttrs T) (slot:Slot T name id) (J:typeOf (.builtin id)=pure (.type "method_descriptor")) (hm:MtR X id r) (ho:PE X o to)
  (q:attributeBase o name X.env (eval o X.env)=eval o X.env:=by rfl) (D:(apos.endLine==cpos.line)=true:=by rfl):PE X (.Call (.Attribute o name apos) [] [] cpos) (HZ X.K T r to):=by
 intro pins s σ H Q I h;refine wpAny_Call_method0_late q D (thn (ho pins s σ H _ I h) λv s1 hq=>fQ hq λx H1 U Y ty q1=>?_);obtain⟨h1,h2⟩:=xk U Y ty;exact⟨T,id,Z,slot,J,h1,h2,Calls.callWith_builtin rfl (PySem.evalArgs_none (hm pins s1 σ H1 x [] v [] Q U Y .nil q1))⟩
def nE (pa:PlainAttrs T) (slot:Slot T name id) (Y:typeOf (.builtin id)=pure (.type "method_descriptor")) (hm:MtR X id r) (ho:PE X o to) (ha:PA X (e::es) t)
  (D:attributeBase o name X.env (eval o X.env)=eval o X.env:=by rfl)
  (U:((backTo cpos (starEach (e::es) X.env)).all (λx=>!x.1)&&(backToKw cpos (keywordEach [] X.env)).all (λx=>x.1.isSome)
  &&decide ((e::es).length+([]:List Keyword).length+(if ([]:List Keyword).isEmpty then 0 else 1)<30))=true:=by rfl)
  (J:(apos.endLine==cpos.line)=true:=by rfl) (hs:starEach (e::es) X.env=(false,eval e X.env)::starEach es X.env:=by rfl) (q:(backTo cpos (starEach es X.env)).any (·.1)=false:=by rfl) :
  PE X (.Call (.Attribute o name apos) (e::es) [] cpos) (tBM X.K T r to t):=by
 intro pins s σ H Q I h;refine wpAny_Call_method_late D U J rfl (thn (ho pins s σ H _ I h) λv s1 Z=>fQ Z λx H1 I1 r1 ty q1=>?_);obtain⟨h1,h2⟩:=xk I1 r1 ty;refine⟨T,id,pa,slot,Y,h1,h2,?_⟩;have hA:=ha cpos pins s1 σ H1 _ I1 q1;rw[hs]at hA ⊢;refine Calls.callWith_builtin (by show(false||(backTo cpos (starEach es X.env)).any (·.1))=false;rw[q]<;>rfl) (Calls.evalArgs_plain ?_);exact thn hA λus s2 Z=>aq Z λvs H2 I2 r2 q2=>hm pins s2 σ H2 x vs v us Q I2 r1 r2 q2
end
def MtM(X:Cx)(id:String)(r:V->List V->Hp->VK->Prop):Prop:=
 ∀pins s (σ:St) H x xs v us Q,Inv X pins σ H s->aG x v->aA xs us->r x xs H Q ->
  wpAny (model X.prog X.w) X.A (call (.builtin id) (v::us)) (EP X pins σ Q) X.xe s
theorem aA.one:∀{x}{us},aA [x] us->∃u,us=[u]/\aG x u
 | _,_,.cons r .nil=>⟨_,rfl,r⟩
def aA.zero:∀{us},aA [] us->us=[]
 | _,.nil=>rfl
theorem aA.dropLast(h:aA xs us):aA xs.dropLast us.dropLast:=by
 induction h with
 |nil=>exact .nil
 |cons r t ih =>
  cases t<;>first|exact .nil|exact .cons r ih
theorem aA.reverse(h:aA xs us):aA xs.reverse us.reverse:=by
 induction h with
 |nil=>exact .nil
 |cons r t ih=>rw[reverse_cons,reverse_cons];exact aA.append ih (.cons r .nil)
def CT{α:Type}(l:List α):l.eraseIdx (l.length-1)=l.dropLast:=by simp
section
variable{X:Cx}{pins:List (Addr×Obj)}{σ:St}{H:Hp}{s:Shared}{l b:Addr}{xs ys zs:List V}
theorem Inv.lset{its its':List Value}{n:Nat}{f:Array Value->Array Value}{t':Nat}(I:Inv X pins σ H s)(D:H l=some (.lst xs))
  (e:s.heap.get? l=some { cls:=.type "list",data:=.seq its.toArray n }) (J:f its.toArray=its'.toArray) (U:aA ys its') (hz:ys.length<=sizeLine) :
  Inv X pins σ (upd H l (.lst ys)) { s with heap:=s.heap.update l (Obj.mapSeq f),toks:=t' }:=by
 have q:=PySem.IsL.update e f;rw[J]at q;refine I.write (x:=l) (e:=l) (by rw[D];exact trivial) (.inl rfl) (λb' u Y Z=>(JA s.heap (Obj.mapSeq f) (Jk Y)).trans Z) ⟨_,q⟩ ?_;exact⟨hz,its',_,U,q⟩
theorem Inv.lnew(I:Inv X pins σ H s)(D:aA ys its)(hz:ys.length<=sizeLine) :
  Inv X pins σ (upd H s.heap.objs.size (.lst ys)) { s with heap:=s.heap.push { cls:=.type "list",data:=.seq its.toArray },toks:=t' }:=
 I.laid (λ_ _ q=>i2 _ q) (pd _) ⟨hz,its,0,D,pe _ rfl⟩
theorem Inv.fresh(I:Inv X pins σ H s):H s.heap.objs.size=none:=I.hok.fresh (pd _)
theorem Inv.lstM (I:Inv X pins σ H s) (q:H l=some (.lst xs)):xs.length<=sizeLine/\∃its n,aA xs its/\xs.length=its.length/\s.heap.get? l=some { cls:=.type "list",data:=.seq its.toArray n }:=by
 obtain⟨z,its,n,r,e⟩:=I.hok l _ q;exact⟨z,its,n,r,r.length,e⟩
def qh(h:n<=sizeLine):Builtin.List.listTooLong n=false:=by simp_all [Builtin.List.listTooLong]
end
section
variable{X:Cx}
def kT:V->List V->Hp->VK->Prop:=λx vs H Q=>∃l xs y,x=.ref l/\vs=[y]/\H l=some (.lst xs)/\xs.length<sizeLine/\Q .non (upd H l (.lst (xs++[y])))
def hX:MtM X "list.append" kT:=by
 intro pins s σ H x vs v us Q I Z rv h;refine bY λZq kq=>?_
 refine kd h λl xs y D J Y hz q=>?_
 subst D;subst J;subst Z;refine ae rv.one λu U ru=>?_
 subst U;obtain⟨z,its,n,r,hl,e⟩:=I.lstM Y;refine kq ?_;refine J7 F.slot_list_append ⟨_,e,rfl⟩ F.entry_list_append (F.args_list_append_2 _ _) (PySem.list_append l its.toArray n u (by rw[pb];omega)) ⟨e,?_⟩;refine⟨.non,_,I.lset Y e (by simp) (r.append (.cons ru .nil)) ?_,rfl,q⟩
 grind
def H0:V->List V->Hp->VK->Prop:=λx vs H Q=>∃l xs y,x=.ref l/\vs=[]/\H l=some (.lst xs)/\xs[xs.length-1]?=some y/\Q y (upd H l (.lst xs.dropLast))
def CU:MtM X "list.pop" H0:=by
 intro pins s σ H x vs v us Q I rx rv h;refine bY λZq kq=>?_
 refine kd h λl xs y D J Z hy q=>?_
 subst D;subst J;subst rx;have U:=rv.zero;subst U;obtain⟨z,its,n,r,hl,e⟩:=I.lstM Z;refine ae (r.get hy) λu hu ru=>?_
 have Y:its.toArray[its.toArray.size-1]?=some u:=by
  simp_all
 refine kq ?_;refine J7 F.slot_list_pop ⟨_,e,rfl⟩ F.entry_list_pop (F.args_list_pop_1 _) (MeetsSeq.list_pop_last l its.toArray n u Y (by rw[pb];omega)) ⟨e,?_⟩;refine⟨y,_,I.lset Z e ?_ r.dropLast ?_,ru,q⟩
 .simp_all
 .rw[length_dropLast];omega
end
section
variable{prog:Program}{w:World}{A:Around}{E:Value->Shared->Prop}{s:Shared}
end
section
variable{X:Cx}
end
end L2
namespace Att
open PySem PySem.W PySem.Calls PyProof.Rows List Option
def kI :∀ns vs,WellAll P h vs (ns.map WData.int)->IntsAre vs ns:=by
 intro ns
 induction ns with
 |nil =>
  intro vs w;cases w;exact .nil
 |cons n ns ih =>
  intro vs w;cases w with
  |cons a b =>
   cases a;exact .cons _ _ (ih _ b)
def vF{l:OpenLaw}(hn:l.most=some n) 
  (q:l.row.toRowW.claim.pre args=true) (U:WellAll P h vals args) :
  ∃a vs ns,vals=[Value.ref a]/\args=[WData.list (ns.map WData.int)]/\h.get? a=some { cls:=.type "list",data:=.seq vs.toArray }/\IntsAre vs ns/\ns.length<=n:=by
 have Y:WShape.hasAll [] args [.list .int]=true:=(pre_splitW q).1;have hc:l.pre.holds [] { args:=args }=true:=(pre_splitW q).2;refine aq (hasAllW_cons Y) λd r Z h1 h2=>?_
 subst Z;obtain rfl:=hasAllW_nil h2;refine ae (hasW_list h1) λxs ao h3=>?_
 subst ao;obtain⟨ns,rfl⟩:=items_int h3;have D:ns.length<=n:=by
  have h4:(WTm.not (.lt (.lit (.int (n:Int))) (.len (.arg 0)))).holds [] { args:=[.list (ns.map .int)] }=true:=by
   have h4:=(holds_andW hc).1;rw[hn]at h4;exact h4
  have h5:=condW_of h4 (w_not (w_lt w_lit (w_len_list (w_arg rfl))))
  simp_all
 cases U with
 |cons w1 w2 =>
  cases w2;cases w1 with
  |list ho J=>exact⟨_,_,ns,rfl,rfl,ho,kI ns _ J,D⟩
def vG(l:OpenLaw)(args):l.row.toRowW.claim.post args (.bool true) args=true:=
 postW_of (r:=l.row.toRowW) (X:=(true==true))
  (show WShape.has [] (.bool true) .bool=true by first|rfl|decide|simp[WShape.arms])
  (show(WTm.eq .res (.lit (.bool true))).value [] { args:=args,res:=some (.bool true),after:=args }=some (.bool (true==true))from w_eq_bool (w_res rfl) w_lit) rfl
def attach_call{l:OpenLaw}{n:Nat}{q:Program}{J:List Str}{XP:(Str->Option Value)->Heap->Prop}{YP:World->Heap->Prop}{d:DefRec}
  (hn:l.most=some n) (a3:d.params.defaults=[])
  (call:∀w s₀ D mg mb fa o pm cd U a vs ns,
   Ground q J [] XP w s₀ mg mb D.heap->YP w D.heap ->
   D.heap.get? fa=some o->o.data=.func (docDef d.name d.params d.body d.scope pm cd U)->D.heap.CodeRec cd d.name->mg d.name=some (.ref fa) ->
   D.heap.get? a=some { cls:=.type "list",data:=.seq vs.toArray }->IntsAre vs ns->ns.length<=n->D.gens=#[] ->
   codeAny (model l.prog w) callerA (.call (.ref fa) ⟨[.ref a],[]⟩) (λr s'=>r=.ok (.ret (.bool true))/\OldK D.heap s'.heap/\s'.os=D.os/\AllBare s'.gens) D) :
  WalkO q J XP YP l.row.toRowW d [] (λf vs=>PySem.call f vs):=by
 intro w s₀ D mg mb G Y fa o pm cd U dV kV ho hd a5 hD a6 hg args vals as aL b3 ck bt cl;obtain rfl:dV=.none:=Dflts.none hD a3;obtain rfl:kV=.none:=Dflts.noKw hD;refine kd (vF hn aL bt) λa vs ns bB bR a0 Z a1=>?_
 subst bB;subst bR;refine enter_call (Ka (call w s₀ D mg mb fa o pm cd U a vs ns G Y ho (fd_plain hd) a5 a6 a0 Z a1 hg) λr s' hq=>?_);refine fP hq λbT h2 h3 h4=>?_
 subst bT;exact⟨.inl ⟨.bool true,.bool true,[],rfl,λ_=>rfl,.bool true,vG l _,λ_=>⟨Pairwise.nil,λ_ hm=>(nomatch hm)⟩⟩,h2,h3,h4⟩
section
variable{prog:Program}{w:World}{A:Around}{E:Value->Shared->Prop}{s:Shared}{K:Frag}
end
end Att
namespace L2
open PySem PySem.Spec PyProof.Rows List Option
theorem jD:∀{vs}{ns},IntsAre vs ns->aA (ns.map V.int) vs
 | _,_,.nil=>.nil
 | _,_,.cons n t h=>.cons ⟨t,rfl⟩ (jD h)
def CV(H:Hp):Prop:=∀b,H b=none\/∃o xs,H b=some (.frz o (.lst xs))
def xl{K:LI} 
  (KX:K.In D.heap) (ao:D.heap.Ns mainGlobals mg) (J:D.heap.Ns builtinsNs mb) (a5:∀x:Str,x ≠ "__name__"->mb x=bootBuiltins x) (aL:D.heap.NoLimit) (hg:D.gens=#[])
  (ha:D.heap.get? a=some { cls:=.type "list",data:=.seq vs.toArray }) (hi:IntsAre vs ns) (hl:ns.length<=sizeLine) (hr:dn k callerA)
  (F:∀base,K.In base->base.Ns mainGlobals mg->dq P w K mg base CX k fa fd [x] sp) (Z:∀s u,BindsTo s fd ⟨[u],[]⟩ [(x,u)])
  (a6:∀H,CV H->SqL K H a (ns.map V.int)->sp [.ref a] H (λv _=>v=.bl true) λ_ _ _=>False)
  (bt:∀H e s',CX [] H D (λ_ _ _=>False) e s'->False) :
  codeAny (model P w) callerA (.call (.ref fa) ⟨[.ref a],[]⟩) (λr s'=>r=.ok (.ret (.bool true))/\OldK D.heap s'.heap/\s'.os=D.os/\AllBare s'.gens) D:=by
 have rv:=jD hi;have a0:=hi.length;have Y:∀H,CV H->SqL K H a (ns.map V.int)->HOk P w H D.heap->(∀b,H b≠none->b=a)->(H a≠none->K.lookup a=none) ->
   codeAny (model P w) callerA (.call (.ref fa) ⟨[.ref a],[]⟩) (λr s'=>r=.ok (.ret (.bool true))/\OldK D.heap s'.heap/\s'.os=D.os/\AllBare s'.gens) D:=by
  intro H hO hS hok hA hK;have base_of:∀{b}{o},D.heap.get? b=some o->H b=none->(oC D.heap H).get? b=some o:=λe n=>wQ e n
  have bB:∀{b}{o}{es}{ep},D.heap.get? b=some o->o.data=.dict es ep->H b=none:=λ{b o es ep} e d=>by
   cases q:H b with
   |none=>rfl
   |some u =>
    have e':=hA b (by rw[q];simp);subst e';rw[ha]at e;cases e
    have d':=d;cases d'
  have U:∀{b}{m},D.heap.Ns b m->(oC D.heap H).Ns b m:=λ{b m} ⟨o,es,ep,e,d,r⟩=>⟨o,es,ep,base_of e (bB e d),d,r⟩
  have a1:K.In (oC D.heap H):=λb o e=>base_of (KX b o e) (by
   cases q:H b with
   |none=>rfl
   |some u =>
    have e':=hA b (by rw[q];simp);subst e';rw[hK (by rw[q];simp)]at e;exact aP e)
  have hM:Mod K mg (oC D.heap H):=⟨a1,U ao,⟨mb,U J,a5⟩,let ⟨mc,h1,h2⟩:=aL;⟨mc,U h1,h2⟩⟩;have e0:se P w K mg (oC D.heap H) callerA [] D H:=⟨rfl,hM,λb o e=>zR e,JZ (vq _ _),trivial,λb J=>absurd (show b∈([]:List Addr)from J) (by simp),hok,.of_eq hg⟩;refine Ka ((F _ a1 (U ao)).run callerA [] D H ⟨[.ref a],[]⟩ [.ref a] [.ref a] _ _ hr e0 (Z D (.ref a)) (.cons rfl .nil) (a6 H hO hS)) λr s' h=>?_
  cases r with
  |error e=>exact(bt H e s' h).elim
  |ok fl =>
   cases fl with
   |ret u =>
    refine wN h λv H' os bare un a2 r' q=>?_
    have q':=q;subst q';obtain rfl:u=Value.bool true:=r';refine⟨rfl,OldK.of_keep λb o e=>?_,os,bare⟩;cases q:H b with
    |none=>exact un.keep b o e q (by intro z;exact absurd (show b∈([]:List Addr)from z) (by simp)) (by simp)
    |some u =>
     rcases hO b with z|⟨ob,xs,z⟩
     .rw[q]at z;cases z
     .have z2:=un.frzs b ob _ z;obtain⟨e1,_⟩:=hok b _ z;obtain⟨e2,_⟩:=a2 b _ z2;rw[e]at e1;cases e1
      exact e2
   | _=>exact False.elim h
 cases hk:K.lookup a with
 |some o =>
  have e:=KX a o hk;rw[ha]at e;cases e;refine Y (λ_=>none) (λ_=>.inl rfl) (.inr ⟨_,vs.toArray,_,hk,rfl,rfl,rfl,by rw[pb,a0];exact hl,by simpa using rv⟩) (λb u z=>by have z':=z;exact aP z') (λb z=>absurd rfl z) λz=>absurd rfl z
 |none =>
  refine Y (λb=>if b=a then some (.frz { cls:=.type "list",data:=.seq vs.toArray } (.lst (ns.map V.int)))else none) (λb=>?_) (.inl (.inr ⟨{ cls:=.type "list",data:=.seq vs.toArray },if_pos rfl⟩)) (λb u z=>?_) (λb z=>?_) λ_=>hk
  .by_cases J:b=a
   .exact .inr ⟨_,_,if_pos J⟩
   .exact .inl (if_neg J)
  .by_cases J:b=a
   .have z':=(if_pos J).symm.trans z;cases z';subst J;exact⟨ha,by rw[ox];exact hl,vs,_,rv,ha⟩
   .have z':=(if_neg J).symm.trans z;exact aP z'
  .by_cases J:b=a
   .exact J
   .exact absurd (if_neg J) z
def Af{l:PySem.W.OpenLaw}{n k:Nat}{q:Program}{J:List Str}{XP:(Str->Option Value)->Heap->Prop}{YP:World->Heap->Prop}{d:DefRec}{K:Params->LI}{CX:World->CXT}{sp:World->Sp}{x:Str}
  (hn:l.most=some n) (a0:n<=sizeLine) (a1:d.params.defaults=[]) (hr:dn k callerA)
  (hY:∀w h,YP w h->(K w.params).In h)
  (F:∀w mg fa h,(K w.params).In h->h.Ns mainGlobals mg->mg d.name=some (.ref fa) ->
   ∃fd,(∀s u,BindsTo s fd ⟨[u],[]⟩ [(x,u)]) /\
    ∀base,(K w.params).In base->base.Ns mainGlobals mg->dq l.prog w (K w.params) mg base (CX w) k fa fd [x] (sp w))
  (a2:∀w H a (ns:List Int),ns.length<=n->CV H->SqL (K w.params) H a (ns.map V.int)->sp w [.ref a] H (λv _=>v=.bl true) λ_ _ _=>False)
  (a3:∀w H s e s',CX w [] H s (λ_ _ _=>False) e s'->False) :
  PySem.W.WalkO q J XP YP l.row.toRowW d [] (λf vs=>PySem.call f vs):=by
 refine Att.attach_call hn a1 λw s₀ Z mg mb fa o pm cd bR a vs ns G Y ho hd bT a4 ao U D hg=>?_
 have KX:=hY w _ Y;refine ae (F w mg fa _ KX G.T.g a4) λfd hb hF=>?_
 exact xl KX G.T.g G.T.b G.T.builtins G.T.nolimit hg ao U (IK D a0) hr hF hb (λH hO hS=>a2 w H a ns D hO hS) λH e s'=>a3 w H Z e s'
noncomputable def dD(s:Stmt)(j:Nat):Stmt:=match s with
 | .ClassDef _ _ _ body _ _ _ _ _ _ _=>body.getD j (.Pass ⟨0,0,0,0⟩)
 | _=>.Pass ⟨0,0,0,0⟩
noncomputable def iU(s:Stmt):Arguments:=match s with
 | .FunctionDef _ a _ _ _ _ _ _ _ _=>a
 | _=>{ posonlyargs:=[],args:=[],vararg:=none,kwonlyargs:=[],kw_defaults:=[],kwarg:=none,defaults:=[] }
noncomputable def bN(s:Stmt):List Stmt:=match s with
 | .FunctionDef _ _ b _ _ _ _ _ _ _=>b
 | _=>[]
noncomputable def aj(s:Stmt):Scope:=match s with
 | .FunctionDef _ _ _ _ _ _ sc _ _ _=>sc
 | _=>{ kind:=.function,names:=[],isGenerator:=false,isCoroutine:=false }
noncomputable abbrev CX0:CXT:=λ_ _ _ _ _ _=>False
noncomputable abbrev E0:XK:=λ_ _ _=>False
def fW :gH CX0 X E0:=λ_ _ _ _ _ _ _ h=>h.elim
section
variable{P:Program}{w:World}{K:LI}{mg:Str->Option Value}{base:Heap}
end
section
variable{X:Cx}
def pv (i) {pos:Pos} (D:X.N[i]?=some x:=by rfl) (J:Vis X.env.scope x:=by first|exact Or.inl rfl|exact Or.inr (Or.inl rfl)|exact Or.inr (Or.inr rfl)) (hd:(x==("__debug__":Str))=false:=by decide)
  (q:(x==("__classdict__":Str))=false:=by decide):PE X (.Name x pos) (dP i):=wR D J hd q
end
def ag(H H':Hp):Prop:=∀b o,H b=some o->H' b=some o
def ag.refl(H):ag H H:=λ_ _ h=>h
def ag.trans(a:ag H H1)(b:ag H1 H2):ag H H2:=λc o h=>b c o (a c o h)
def ag.free(e:ag H H')(h:H' l=Option.none):H l=Option.none:=by
 cases q:H l with
 |none=>rfl
 |some o =>
  rw[e l o q]at h;cases h
theorem ag.seq{K:LI}(e:ag H H')(h:SqL K H a xs):SqL K H' a xs:=by
 rcases h with(h|⟨o,h⟩)|h
 .exact .inl (.inl (e _ _ h))
 .exact .inl (.inr ⟨o,e _ _ h⟩)
 .exact .inr h
section
variable{g:Type} [DecidableEq g]
noncomputable def iu(kvs:List (g×V))(k:g):Option V:=(kvs.find? λq=>decide (q.1=k)).map (·.2)
noncomputable def mX(kvs:List (g×V))(k:g)(v:V):List (g×V):=
 if (kvs.any λq=>decide (q.1=k))=true then kvs.map (λq=>if q.1=k then(q.1,v)else q)else kvs++[(k,v)]
noncomputable def IE(kvs:List (g×V))(k:g):List (g×V):=kvs.filter λq=>decide (q.1≠k)
def lz{k:g}(e:p.1=k):iu (p::r) k=some p.2:=by simp_all [iu]
def lA{k:g}(e:¬ p.1=k):iu (p::r) k=iu r k:=by simp_all [iu]
theorem qi(k):∀kvs:List (g×V),(kvs.any λq=>decide (q.1=k))=(iu kvs k).isSome
 | []=>rfl
 |p::r=>by
  rw[any_cons];by_cases e:p.1=k
  .simp[lz e,IM e]
  .rw[lA e,IQ e,Bool.false_or];exact qi k r
def qj(kvs)(k:g)(v):(mX kvs k v).length<=kvs.length+1:=by grind [mX,length_map,length_append,length_cons,length_nil]
def gC.isSome_eq(r:gC o u):o.isSome=u.isSome:=by
 cases o<;>first|(cases u<;>first|rfl|exact(show False from r).elim)|(cases u<;>first|exact(show False from r).elim|rfl)
theorem gC.getD(r:gC o u)(rd:aG d d'):aG (o.getD d) (u.getD d'):=by
 cases o<;>first|(cases u<;>first|exact rd|exact(show False from r).elim)|(cases u<;>first|exact(show False from r).elim|exact r)
theorem KV.val(r:KV kvs vs)(k:g):gC (iu kvs k) (valueAt vs k):=by
 induction r with
 |nil=>exact True.intro
 | @cons p q ps D h t ih =>
  obtain⟨h1,h2⟩:=h;by_cases e:p.1=k
  .have J:=h1.symm.trans e;have b:valueAt (q::D) k=some q.2:=by simp[valueAt,find?_cons,J]
   rw[lz e,b];exact h2
  .have J:¬ q.1=k:=λz=>e (h1.trans z)
   have b:valueAt (q::D) k=valueAt D k:=by simp[valueAt,find?_cons,J]
   rw[lA e,b];exact ih
theorem KV.any(r:KV kvs vs)(k:g):(kvs.any λq=>decide (q.1=k))=vs.any λq=>decide (q.1=k):=by
 induction r with
 |nil=>rfl
 |cons h t ih=>rw[any_cons,any_cons,ih,h.1]
def KV.repl(r:KV kvs vs)(k:g)(J:aG y u) :
  KV (kvs.map λD=>if D.1=k then(D.1,y)else D) (vs.map λD=>if D.1=k then(D.1,u)else D):=by
 induction r with
 |nil=>exact .nil
 | @cons p q ps U h t ih =>
  rw[IT,IT];refine .cons ?_ ih;obtain⟨h1,h2⟩:=h;by_cases e:p.1=k
  .rw[if_pos e,if_pos (h1.symm.trans e)];exact⟨h1,J⟩
  .rw[if_neg e,if_neg (λz=>e (h1.trans z))];exact⟨h1,h2⟩
theorem KV.put(r:KV kvs vs)(k:g)(q:aG y u):KV (mX kvs k y) (stored vs k u):=by
 unfold mX stored;rw[r.any k];by_cases e:(vs.any λD=>decide (D.1=k))=true
 .rw[if_pos e,if_pos e];exact r.repl k q
 .rw[if_neg e,if_neg e];exact Paired.snoc r ⟨rfl,q⟩
def KV.keys{vs:List (g×Value)}(r:KV kvs vs):kvs.map (·.1)=vs.map (·.1):=by
 induction r with
 |nil=>rfl
 |cons h t ih=>rw[IT,IT,ih,h.1]
theorem KV.length(r:KV kvs vs):kvs.length=vs.length:=Paired.length r
end
def xm(r:aG (kV k) u):(cu P w).is k u=true:=by
 cases k with
 |inl i=>obtain⟨t,e⟩:=(show ∃t,u=Value.int i t from r);subst e;exact qa P w i t
 |inr x=>obtain⟨t,e⟩:=(show ∃t,u=Value.str x t from r);subst e;exact qb P w x t
theorem nF :∀{ks}{us},aA (ks.map kV) us->ItemsAre (cu P w) ks us
 | [],_,r=>by rw[map_nil]at r;cases r;exact .nil
 |k::ks,_,r=>by
  cases r with
  |cons h t=>exact .cons (xm h) (nF t)
abbrev KT(H:Hp):List (List Key×V)->List (List Key×Addr×Value)->Prop:=Paired λp q=>p.1=q.1/\H q.2.1=some (.tup (p.1.map kV))/\aG p.2 q.2.2
theorem KT.val(r:KT H kvs xs)(k):gC (iu kvs k) ((atKey xs k).map (·.2)):=by
 induction r with
 |nil=>exact True.intro
 | @cons p q ps D h t ih =>
  refine j_ h λh1 _ h2=>?_
  by_cases e:p.1=k
  .have J:=h1.symm.trans e;have b:atKey (q::D) k=some q.2:=by simp[atKey,find?_cons,J]
   rw[lz e,b];exact h2
  .have J:¬ q.1=k:=λz=>e (h1.trans z)
   have b:atKey (q::D) k=atKey D k:=by simp[atKey,find?_cons,J]
   rw[lA e,b];exact ih
def KT.repl(r:KT H kvs xs)(k)(J:aG y u) :
  KT H (kvs.map λD=>if D.1=k then(D.1,y)else D) (xs.map (putAt k u)):=by
 induction r with
 |nil=>exact .nil
 | @cons p q ps U h t ih =>
  rw[IT,IT];refine .cons ?_ ih;refine j_ h λh1 h2 h3=>?_
  unfold putAt;by_cases e:p.1=k
  .rw[if_pos e,if_pos (h1.symm.trans e)];exact⟨h1,h2,J⟩
  .rw[if_neg e,if_neg (λz=>e (h1.trans z))];exact⟨h1,h2,h3⟩
theorem KT.put(r:KT H kvs xs)(k)(J:H b=some (.tup (k.map kV)))(D:aG y u) :
  KT H (mX kvs k y) (storedH xs k b u):=by
 have e:(kvs.any λU=>decide (U.1=k))=(atKey xs k).isSome:=by
  rw[qi,(r.val k).isSome_eq,isSome_map]
 unfold mX storedH;rw[e];by_cases q:(atKey xs k).isSome=true
 .rw[if_pos q,if_pos q];exact r.repl k D
 .rw[if_neg q,if_neg q];exact Paired.snoc r ⟨rfl,J,D⟩
def KT.keeps(r:KT H kvs xs)(ht:∀b ys,H b=some (.tup ys)->H' b=some (.tup ys)):KT H' kvs xs:=
 Paired.mapP r λ_ _ z=>⟨z.1,ht _ _ z.2.1,z.2.2⟩
section
variable{P:Program}{w:World}{H:Hp}{h:Heap}{a:Addr}
def BQ(ok:HOk P w H h)(e:Rd H a u):bX P w H h a u:=e.ok ok
def qk(ok:HOk P w H h)(e:Rd H a (.dK kvs)):kvs.length<=sizeLine/\(a==sysModules)=false/\∃vs,KV kvs vs/\h.DictOf (cu P w) a vs:=
 show bX P w H h a (.dK kvs)from BQ ok e
def FW(ok:HOk P w H h)(e:H a=some (.dK kvs)):kvs.length<=sizeLine/\(a==sysModules)=false/\∃vs,KV kvs vs/\h.DictOf (cu P w) a vs:=qk ok (.inl e)
def xn(ok:HOk P w H h)(e:H a=some (.tup (ks.map kV))):(tupleKind (cu P w)).is h ks a:=by
 obtain⟨_,its,r,o,h1,h2,n,h3⟩:=(show bX P w H h a _ from ok a _ e);exact⟨o,its.toArray,n,h1,h2,h3,by simpa using nF r⟩
def xo(ok:HOk P w H h)(e:Rd H a (.dT kvs)):kvs.length<=sizeLine/\(a==sysModules)=false /\
  ∃xs,KT H kvs xs/\h.DictOfH (tupleKind (cu P w)) a xs:=by
 refine bY λU J=>?_
 obtain⟨z,y,xs,r,o,es,ep,h1,h2,h3,h4,h5⟩:=(show bX P w H h a _ from BQ ok e);refine J ?_;refine⟨z,y,xs,r,o,es,ep,h1,h2,h3,h4,λx hx=>?_,h5⟩;have all:∀{l}{m},KT H l m->∀x∈m,(tupleKind (cu P w)).is h x.1 x.2.1:=by
  intro l m q
  induction q with
  |nil=>intro x hx;exact nomatch hx
  | @cons p q ps Y D t ih =>
   intro x hx;rcases rb.mp hx with e|hx
   .subst e;exact xn ok (by rw[<- D.1];exact D.2.1)
   .exact ih x hx
 exact all r x hx
end
def CW(H:Hp)(a:Addr)(y:V)(r:Option V):Prop:=
 (∃kvs k,Rd H a (.dK kvs)/\y=kV k/\r=iu kvs k)\/∃kvs k b,Rd H a (.dT kvs)/\y=.ref b/\H b=some (.tup (k.map kV))/\r=iu kvs k
section
variable{X:Cx}{pins:List (Addr×Obj)}{σ:St}{H:Hp}{s:Shared}{a:Addr}{y v:V}{u r:Value}{o:Option V}{A:Around}{E:Value->Shared->Prop}
theorem Inv.big(I:Inv X pins σ H s):sysModules<s.heap.objs.size:=by
 have h:=(I.mod.glob.keeps I.bk).lt;exact Kb (by decide) h
def vH(hu:A.units+1<cLine)(I:Inv X pins σ H s)(g:CW H a y (some v))(Z:aG y u)(h:∀J s',Inv X pins σ H s'->aG v J->Q J s') :
  wpAny (model X.prog X.w) A (getItem (.ref a) u) Q E s:=by
 rcases g with⟨kvs,k,e,U,l⟩|⟨kvs,k,b,e,U,eb,l⟩
 .subst U;obtain⟨z,hd,vs,q,dd⟩:=qk I.hok e;obtain⟨J,hw,D⟩:=gC.some_of (by rw[l];exact q.val k);exact wpAny_getItem_of (xm Z) dd.mapOf hw (h J _ (I.tok _) D)
 .subst U;cases (show u=Value.ref b from Z);obtain⟨z,hd,xs,q,dd⟩:=xo I.hok e;obtain⟨J,hw,D⟩:=gC.some_of (o:=(atKey xs k).map _) (by rw[l];exact q.val k);refine ae (wh.mp hw) λp hp Y=>?_
  refine wpAny_getItem_heap (tupleKind_room_in1 hu) (xn I.hok eb) dd hp ?_;rw[Y];exact h J _ (I.tok _) D
def Ag(I:Inv X pins σ H s)(D:Mut (H a))(J:Heap.SameBut a s.heap h')(U:∃q,h'.get? a=some q)(new:bX X.prog X.w (upd H a ob) h' a ob) :
  Inv X pins σ (upd H a ob) { s with heap:=h',toks:=t' }:=
 I.write (x:=a) (e:=a) D (.inl rfl) (λb q Y z=>(J.2 b Y).trans z) U new
def CY(z:kvs.length<=sizeLine)(hd:(a==sysModules)=false)(q:KV kvs vs)(dd:h'.DictOf (cu P w) a vs) :
  bX P w H' h' a (.dK kvs):=⟨z,hd,vs,q,dd⟩
end
section
variable{X:Cx}{pins:List (Addr×Obj)}{σ:St}{H:Hp}{s:Shared}{a:Addr}{kvs:List (Key×V)}{k:Key}{u:Value}{A:Around}{E:Value->Shared->Prop}
end
def FX(i:Expr):Prop:=∀q D,subscripted i false q D=operate [q,D] (getItem q D)
def Ah{T id:String} 
  (hl:typeLookup (.type T) "__getitem__"=pure (some (.builtin id))) (hs:FX slice)
  (h:wpAny (model prog w) A (eval value env) (λo J=>wpAny (model prog w) A (eval slice env) (λi q=>q.TypeIs o T/\wpAny (model prog w) A (getItem o i) Q E q) E J) E s) :
  wpAny (model prog w) A (eval (.Subscript value slice pos) env) Q E s:=by
 refine Subscript_ (Jj h (λo J Y=>Jj Y (λi q D=>?_) λ_ _ x=>x) λ_ _ x=>x);obtain⟨hT,D⟩:=D;refine hU ?_;rw[getitemInPython_of_ne hT.not_modules];refine hU (wpAny_specialOf hT hl ?_);have fin:wpAny (model prog w) A (subscripted slice false o i) (λr U=>wpAny (model prog w) A (letTemporaryGo value o r >>= λ_=>pure r) Q E U) E q:=by
  rw[hs o i];exact wpAny_operating (Jj D (λr U Z=>hU (wpAny_letTemporaryGo (kv Z))) λ_ _ x=>x)
 first
  | exact kv (hU fin)
  | exact hU (kv _)
  | exact hU fin
def ql (I:Inv X pins σ H s) (g:CW H a y o):s.TypeIs (.ref a) "dict":=by
 rcases g with⟨kvs,k,e,_,_⟩|⟨kvs,k,b,e,_,_,_⟩
 .obtain⟨_,_,vs,_,dd⟩:=qk I.hok e;exact dd.typeIs
 .obtain⟨_,_,xs,_,dd⟩:=xo I.hok e;exact dd.typeIs
noncomputable def lC(td ty:TE):TE:=λσ H Q=>td σ H λx H1=>ty σ H1 λy H2=>∃a v,x=.ref a/\CW H2 a y (some v)/\Q v H2
section
variable{X:Cx}{o i e value:Expr}{pos pos' tpos:Pos}{td ty tv:TE}
def kU(J:X.A.units+1<cLine)(ho:PE X o td)(hi:PE X i ty)(U:FX i):PE X (.Subscript o i pos) (lC td ty):=by
 intro pins s σ H Q I h;refine Ah PySem.F.slot_dict_getitem.lookup U (thn (ho pins s σ H _ I h) λu s1 Y=>aq Y λx H1 Z rx q1=>thn (hi pins s1 σ H1 _ Z q1) λiv s2 ⟨y,H2,D,ry,a,v,ex,g,q2⟩=>?_);subst ex;obtain rfl:u=Value.ref a:=rx;exact⟨ql D g,vH J D g ry λw' s3 I3 q=>⟨v,H2,I3,q,q2⟩⟩
end
def xp (h:Heap) (q:sysModules<h.objs.size):bX P w H (h.push { cls:=.type "dict",data:=.dict #[] }) h.objs.size (.dK []):=
 ⟨IW _,Jf.mpr (Jk (IL q)),[],.nil,Heap.DictOf.new h⟩
section
variable{X:Cx}{pos:Pos}
end
def oS:List (TE×TE)->St->Hp->(List (V×V)->Hp->Prop)->Prop
 | [],_,H,Q=>Q [] H
 | (tk,tv)::r,σ,H,Q=>tk σ H λx H1=>tv σ H1 λy H2=>oS r σ H2 λps q=>Q ((x,y)::ps) q
abbrev VV:List (V×V)->List (Value×Value)->Prop:=Paired λp q=>aG p.1 q.1/\aG p.2 q.2
def PPs(X:Cx)(pos:Pos)(keys:List (Option Expr))(q:List Expr)(D:List (TE×TE)):Prop:=
 ∀pins s (σ:St) H Q,Inv X pins σ H s->oS D σ H Q ->
  wpAny (model X.prog X.w) X.A (evalPairs (pairTrees keys q X.env pos)) (λvs s'=>∃ps H',Inv X pins σ H' s'/\VV ps vs/\Q ps H') X.xe s
def ub :PPs X pos [] [] []:=λpins s σ H Q I h=>pairTrees_nil_walk ⟨[],H,I,.nil,h⟩
def lD(J:PE X k tk)(U:PE X v tv)(hr:PPs X pos ks vs q) :
  PPs X pos (some k::ks) (v::vs) ((tk,tv)::q):=λpins s σ H Q I h =>
 pairTrees_cons_walk (thn (J pins s σ H _ I h) λu s1 ⟨x,H1,Y,Z,q1⟩=>thn (U pins s1 σ H1 _ Y q1) λw2 s2 ⟨y,H2,I2,ry,q2⟩ =>
  thn (hr pins s2 σ H2 _ I2 q2) λws s3 ⟨ps,H3,I3,D,q3⟩=>⟨(x,y)::ps,H3,I3,.cons ⟨Z,ry⟩ D,q3⟩)
noncomputable def d4(kvs q:List (Key×V)):List (Key×V):=q.foldl (λacc D=>mX acc D.1 D.2) kvs
def KV.merge:∀{D}{J}{kvs}{vs},KV D J->KV kvs vs->KV (d4 kvs D) (merged vs J):=by
 intro D J kvs vs r
 induction r generalizing kvs vs with
 |nil=>intro q;exact q
 | @cons p q ps U h t ih =>
  intro r0;have e:KV (mX kvs p.1 p.2) (stored vs q.1 q.2):=by
   have:=r0.put p.1 h.2;rw[<- h.1];exact this
  exact ih e
theorem ik:∀q kvs,(d4 kvs q).length<=kvs.length+q.length
 | [],kvs=>by show kvs.length<=kvs.length+0;omega
 |p::r,kvs=>by
  have h1:=ik r (mX kvs p.1 p.2);have h2:=qj kvs p.1 p.2;show(d4 (mX kvs p.1 p.2) r).length<=_
  grind
theorem lE :∀{kvs}{ws},VV (kvs.map λJ=>(kV J.1,J.2)) ws->∃D,Carries (cu P w) ws D/\KV kvs D
 | [],_,r=>by rw[map_nil]at r;cases r;exact⟨[],True.intro,.nil⟩
 |p::kvs,_,r=>by
  cases r with
  | @cons a b as bs h t =>
   obtain⟨D,c,q⟩:=lE (P:=P) (w:=w) t;obtain⟨Y,U⟩:=b;exact⟨(p.1,U)::D,⟨xm h.1,rfl,c⟩,.cons ⟨rfl,h.2⟩ q⟩
noncomputable def lF(q:List (TE×TE)):TE:=λσ H Q=>∀p,H p=none->oS q σ (upd H p (.dK [])) λps H2=>H2 p=some (.dK [])/\∃kvs,ps=kvs.map (λD=>(kV D.1,D.2))/\kvs.length<=15/\Q (.ref p) (upd H2 p (.dK (d4 [] kvs)))
def oT(h:PPs X pos keys values U)(D:keys.all (·.isSome)=true)(hl:keys.length=values.length)(h0:keys≠[])
  (h15:keys.length<=15):PE X (.Dict keys values pos) (lF U):=by
 intro pins s σ H Q I q;have hn:=I.hok.fresh (pd s.heap.objs.size);have I1:=I.laid (t':=s.toks) (λ_ _ q=>i2 _ q) (pd _) (xp s.heap I.big);refine wpAny_Dict_walk (knd:=cu X.prog X.w) D hl h0 h15 (thn (h pins _ σ _ _ I1 (q _ hn)) λws s2 ⟨ps,H2,Z,Y,e,kvs,ep,lk,q2⟩=>?_);refine bY λZq kq=>?_
 subst ep;obtain⟨rs,c,rk⟩:=lE Y;obtain⟨z,hd,a3,r0,dd⟩:=FW Z.hok e;cases r0;refine kq ?_;refine⟨rs,c,dd,λh' J hs=>⟨.ref s.heap.objs.size,_,?_,rfl,q2⟩⟩;have hz:(d4 [] kvs).length<=sizeLine:=by
  have h1:=ik kvs [];rw[length_nil]at h1;rw[Jl];omega
 have he:∃q,h'.get? s.heap.objs.size=some q:=let ⟨q,_,_,hq,_⟩:=J;⟨q,hq⟩
 exact Ag Z (by rw[e];exact True.intro) hs he (CY hz hd (rk.merge .nil) J)
def IsD(H:Hp)(a:Addr):Prop:=(∃kvs,Rd H a (.dK kvs))\/∃kvs,Rd H a (.dT kvs)
def xq(I:Inv X pins σ H s)(d:IsD H a) :
  s.TypeIs (.ref a) "dict"/\(∀b,Value.ref a=.ref b->∃ob,s.heap.get? b=some ob/\ob.dict=none)/\(a==sysModules)=false:=by
 rcases d with⟨kvs,e⟩|⟨kvs,e⟩
 .obtain⟨_,hd,vs,_,dd⟩:=qk I.hok e;refine⟨dd.typeIs,λb q=>?_,hd⟩;cases q;refine tX dd λob _ _ h1 h2 _=>?_
  exact⟨ob,h1,h2.2.1⟩
 .obtain⟨_,hd,xs,_,dd⟩:=xo I.hok e;refine⟨dd.typeIs,λb q=>?_,hd⟩;cases q;refine tX dd λob _ _ h1 h2 _=>?_
  exact⟨ob,h1,h2.2.1⟩
section
variable{X:Cx}{pins:List (Addr×Obj)}{σ:St}{H:Hp}{s:Shared}{a:Addr}{y d:V}{u r:Value}{o:Option V}{A:Around}{E:Value->Shared->Prop}
end
section
variable{X:Cx}{o e f:Expr}{apos cpos:Pos}{td ty tx:TE}
end
section
variable{X:Cx}{pins:List (Addr×Obj)}{σ:St}{H:Hp}{s:Shared}{a:Addr}{kvs:List (Key×V)}{A:Around}{E:Value->Shared->Prop}
end
section
variable{X:Cx}{pins:List (Addr×Obj)}{σ:St}{H:Hp}{s:Shared}{a:Addr}{y:V}{u:Value}{A:Around}{E:Value->Shared->Prop}
end
end L2
namespace L2.Srt
open PySem PySem.W PyProof.Rows List Option
section
variable{O:KeyOrd}{key:Nat->O.α}{N:Nat}{cmp:Nat->Nat->(Bool->Shared->Prop)->Shared->Prop}{s:Shared}
noncomputable def kk(key:Nat->O.α)(p:Array Nat)(i:Nat):O.α:=key (p.getD i 0)
def eZ(key:Nat->O.α)(p:Array Nat)(k:Nat):Prop:=∀i j,i<=j->j<k->O.kle (kk key p i) (kk key p j)
def qm(key:Nat->O.α)(p:Array Nat)(k:Nat):Prop:=∀i j,i<=j->j<k->O.kle (kk key p j) (kk key p i)
def PB(N:Nat)(p:Array Nat):Prop:=p.Perm (range N).toArray
theorem PB.size(h:PB N p):p.size=N:=by have:=h.size_eq;simpa using this
theorem PB.lt(h:PB N p)(hi:i<N):p.getD i 0<N:=by
 have q:i<p.size:=by rw[h.size];exact hi
 have hm:p[i]∈(range N):=by
  have e:=(J4.mp h).mem_iff (a:=p[i])
  simp_all
 simp_all
theorem PB.rev(h:PB N p)(i j):PB N (kas_rev p i j):=(mirror_perm _ _ _ _).trans h
theorem PB.bub(h:PB N p)(i j):PB N (bubble p i j):=(bubble_perm _ _ _).trans h
def gK(h:p[i]?=q[j]?):kk key p i=kk key q j:=by
 unfold kk;rw[Kp,Kp,h]
def vI(q:src<p.size)(hd:d<=src)(k) :
  kk key (bubble p src d) k=if k=src-d then kk key p src else if src-d<k/\k<=src then kk key p (k-1)else kk key p k:=by
 have e:=getElem?_bubble q d hd k;by_cases h1:k=src-d
 .rw[if_pos h1]at e ⊢;exact gK e
 .rw[if_neg h1]at e ⊢;by_cases h2:src-d<k/\k<=src
  .rw[if_pos h2]at e ⊢;exact gK e
  .rw[if_neg h2]at e ⊢;exact gK e
def sk(q:j<=p.size)(k) :
  kk key (kas_rev p i j) k=if i<=k/\k<j then kk key p (i+j-1-k)else kk key p k:=by
 have e:=getElem?_mirror_all (i:=i) q k;by_cases h1:i<=k/\k<j
 .rw[if_pos h1]at e ⊢;exact gK e
 .rw[if_neg h1]at e ⊢;exact gK e
def cY(q:j<=p.size)(D:∀k,i<=k->k<j->kk key p k=kk key p (j-1))(k) :
  kk key (kas_rev p i j) k=kk key p k:=by
 rw[sk q]
 grind
variable(hc:∀a b C,a<N->b<N->C (O.blt (key a) (key b)) s->cmp a b C s)
include hc
def qo{Q:α->Shared->Prop}(q:PB N p)(hi:i<N)(D:j<N)
  (h:(k (O.blt (kk key p i) (kk key p j))).kasWp cmp Q s):(KasT.ask (p.getD i 0) (p.getD j 0) k).kasWp cmp Q s:=
 hc _ _ _ (q.lt hi) (q.lt D) h
theorem xr(hp:PB N p)(hn:q<=N):∀f n,n+f=q->1<=n->eZ key p n ->
  (∀m,n<=m->m<=q->eZ key p m->(m=q\/O.klt (kk key p m) (kk key p (m-1)))->Q m s)->(kas_asc p f n).kasWp cmp Q s
 |0,n,e,h1,J,h=>h n (pd _) (JZ e) J (.inl e)
 |f+1,n,e,h1,J,h=>by
  have nN:n<N:=by omega
  refine qo hc hp nN (Jc (Lw n 1) nN) ?_;cases D:O.blt (kk key p n) (kk key p (n-1))with
  |true =>
   rw[if_pos rfl];exact h n (pd _) (IK (JV n (f+1)) (JZ e)) J (.inr D)
  |false =>
   rw[if_neg (by simp)];refine xr hp hn f (n+1) ((J0 n 1 f).trans e) (Kx 1 n) (λi j U hj=>?_) λm a b c d=>h m (Km a) b c d
   by_cases Y:j<n
   .exact J i j U Y
   .have ao:=Ju (JF hj) (JB.mp Y);subst ao;by_cases Z:i=j
    .subst Z;exact JG _
    .exact Kr (J i (j-1) (Ks (J1 U Z)) (LH h1 Nat.one_pos)) D
def ud{n q:Nat}{Q:Nat×Array Nat->Shared->Prop}(J:PB N p)(hn:q<=N)(h1:1<=n)(D:n<=q)(hs:qm key p n)
  (h:∀m U,PB N U->1<=m->m<=q->eZ key U m->Q (m,U) s):(kas_tail3 n q p).kasWp cmp Q s:=by
 unfold kas_tail3;rw[Ky];have hz:n<=p.size:=by rw[J.size];exact IK D hn
 refine xr hc (J.rev 0 n) hn (q-n) n (Nat.add_sub_cancel' D) h1 (λi j Y Z=>?_) λm a b c _=>h m _ (J.rev 0 n) (IK h1 a) b c
 rw[sk hz,sk hz,if_pos ⟨IW _,Jc Y Z⟩,if_pos ⟨IW _,Z⟩];exact hs _ _ (by omega) (by omega)
theorem oU(hn:a2<=N):∀f p n q,n+f=a2->PB N p->qm key p n->q+1<=n ->
  (∀i,n-(q+1)<=i->i<n->kk key p i=kk key p (n-1)) ->
  (∀D m q',n<=m->m<=a2->PB N D->qm key D m->q'+1<=m->(∀i,m-(q'+1)<=i->i<m->kk key D i=kk key D (m-1))->Q (D,m,q') s) ->
  (kas_desc f p n q).kasWp cmp Q s
 |0,p,n,q,e,hp,hs,hq,he,h=>h p n q (pd _) (by omega) hp hs hq he
 |f+1,p,n,q,e,hp,hs,hq,he,h=>by
  show(KasT.ask (p.getD n 0) (p.getD (n-1) 0) λc =>
   if c=true then(if q > 0 then kas_desc f (kas_rev p (n-(q+1)) n) (n+1) 0 else kas_desc f p (n+1) 0)
   else .ask (p.getD (n-1) 0) (p.getD n 0) λd=>if d=true then .ret (p,n,q)else kas_desc f p (n+1) (q+1)).kasWp cmp Q s
  have nN:n<N:=by omega
  have hz:n<=p.size:=by rw[hp.size];exact Jy nN
  refine qo hc hp nN (Jc (Lw n 1) nN) ?_;cases J:O.blt (kk key p n) (kk key p (n-1))with
  |true =>
   rw[if_pos rfl];have U:∀D,(∀k,kk key D k=kk key p k)->qm key D (n+1):=by
    intro D hk i j Y hj;rw[hk,hk];by_cases Z:j<n
    .exact hs i j Y Z
    .have a6:=Ju (JF hj) (JB.mp Z);subst a6;by_cases ao:i=j
     .subst ao;exact JG _
     .exact Kr (Kn J) (hs i (j-1) (Ks (J1 Y ao)) (LH (x1 (Nat.succ_pos q) hq) Nat.one_pos))
   by_cases a3:q > 0
   .rw[if_pos a3];exact oU hn f _ (n+1) 0 ((J0 n 1 f).trans e) (hp.rev _ _) (U _ (cY hz he)) (Kx 1 n) (λi a b=>by congr 1;omega)
     λD m q' a=>h D m q' (Km a)
   .rw[if_neg a3];exact oU hn f p (n+1) 0 ((J0 n 1 f).trans e) hp (U _ λ_=>rfl) (Kx 1 n) (λi a b=>by congr 1;omega) λD m q' a=>h D m q' (Km a)
  |false =>
   rw[if_neg (by simp)];refine qo hc hp (Jc (Lw n 1) nN) nN ?_;cases aL:O.blt (kk key p (n-1)) (kk key p n)with
   |true =>
    rw[if_pos rfl];exact h p n q (pd _) (by omega) hp hs hq he
   |false =>
    rw[if_neg (by simp)];have a4:=KeyOrd.kle_antisymm aL J;refine oU hn f p (n+1) (q+1) ((J0 n 1 f).trans e) hp (λi j Y hj=>?_) (Lz hq) (λi a b=>?_) λD m q' a=>h D m q' (Km a)
    .by_cases Z:j<n
     .exact hs i j Y Z
     .have a6:=Ju (JF hj) (JB.mp Z);subst a6;by_cases ao:i=j
      .subst ao;exact JG _
      .rw[a4];exact hs i (j-1) (Ks (J1 Y ao)) (LH (x1 (Nat.succ_pos q) hq) Nat.one_pos)
    .rw[Jv];by_cases bT:i=n
     .subst bT;rfl
     .rw[a4];exact he i (by omega) (by omega)
def lG{n q:Nat}{Q:Nat×Array Nat->Shared->Prop}(hp:PB N p)(hn:q<=N)(a1:n+1<=q)(hs:qm key p (n+1))
  (h:∀m U,PB N U->1<=m->m<=q->eZ key U m->Q (m,U) s):(kas_descPart n q p).kasWp cmp Q s:=by
 unfold kas_descPart;rw[Ky];refine oU hc hn (q-_) p _ 0 (by simp[*]) hp hs (Nat.succ_pos _) (λi a b=>by congr 1;omega) λU m q' a4 Y J Z hq he=>?_
 dsimp only;have hz:m<=U.size:=by rw[J.size];exact(IK ‹_› ‹_›)
 by_cases D:q' > 0
 .rw[if_pos D];refine ud hc (J.rev _ _) hn (Kb ‹_› ‹_›) Y (λi j ao hj=>?_) h;rw[cY hz he,cY hz he];exact Z i j ao hj
 .rw[if_neg D];exact ud hc J hn (by omega) Y Z h
def Ai(hp:PB N p)(hn:q<=N)(h1:1<=q)
  (h:∀m p',PB N p'->1<=m->m<=q->eZ key p' m->Q (m,p') s):(kas_count q p).kasWp cmp Q s:=by
 unfold kas_count;rw[Ky];refine xr hc hp hn (q-1) 1 (by simp[*]) (pd _) (λi j J hj=>by have:=Ju J (IK (JF hj) (IW i));subst this;exact JG _) λn U a0 Y b0=>?_
 by_cases Z:n=q
 .rw[if_pos (by simpa using Z)];exact h n p hp U a0 Y
 .rw[if_neg (by simpa using Z)];have nr:=J1 a0 Z;have nN:=x1 nr hn;have a6:=b0.resolve_left Z;by_cases a3:n > 1
  .rw[if_pos a3];refine qo hc hp (Jc (IW n) nN) (Jc (Lw n 1) nN) ?_;cases a4:O.blt (kk key p 0) (kk key p (n-1))with
   |true =>
    rw[if_pos rfl];exact h n p hp U a0 Y
   |false =>
    rw[if_neg (by simp)];have bt:n<=p.size:=by rw[hp.size];exact Jy nN
    have D:∀k,0<=k->k<n->kk key p k=kk key p (n-1):=by
     intro k _ hk;have a1:=Y 0 k (IW k) hk;have a2:=Y k (n-1) (Ks hk) (LH U Nat.one_pos);exact KeyOrd.kle_antisymm a2 (Kr a4 a1)
    refine lG hc (hp.rev _ _) hn nr (λi j J hj=>?_) h;rw[cY bt D,cY bt D];by_cases a5:j<n
    .rw[D i (IW _) (Jc J a5),D j (IW _) a5];exact JG _
    .have b3:=Ju (JF hj) (JB.mp a5);subst b3;by_cases ao:i=j
     .subst ao;exact JG _
     .rw[D i (IW _) (J1 J ao)];exact Kn a6
  .rw[if_neg a3];have bB:=Ju (JB.mp a3) U;subst bB;refine lG hc hp hn nr (λi j J hj=>?_) h;by_cases ao:i=j
   .subst ao;exact JG _
   .have b4:i=0:=by omega
    have b5:j=1:=by omega
    subst b4;subst b5
    exact Kn a6
theorem oV(hp:PB N p)(hk:k<N)(hs:eZ key p k):∀f l r,r<=l+f->l<=r->r<=k ->
  (∀i,i<l->O.kle (kk key p i) (kk key p k))->(∀i,r<=i->i<k->O.klt (kk key p k) (kk key p i)) ->
  (∀l,l<=k->(∀i,i<l->O.kle (kk key p i) (kk key p k))->(∀i,l<=i->i<k->O.klt (kk key p k) (kk key p i))->Q l s)->(kas_place p k f l r).kasWp cmp Q s
 |0,l,r,hf,Y,q,J,U,h=>by
  have:=Ju Y hf;subst this;exact h l q J U
 |f+1,l,r,hf,Y,q,J,U,h=>by
  show(if l>=r then KasT.ret l else .ask (p.getD k 0) (p.getD ((l+r) / 2) 0) λc=>if c=true then kas_place p k f l ((l+r) / 2)else kas_place p k f ((l+r) / 2+1) r).kasWp cmp Q s;by_cases Z:l>=r
  .rw[if_pos Z];have:=Ju Y Z;subst this;exact h l q J U
  .rw[if_neg Z];obtain⟨m,em,m1,m2⟩:∃m,(l+r) / 2=m/\l<=m/\m<r:=⟨_,rfl,by omega,by omega⟩;rw[em];have mk:=x1 m2 q;refine qo hc hp hk (Kb mk hk) ?_;cases D:O.blt (kk key p k) (kk key p m)with
   |true =>
    rw[if_pos rfl];exact oV hp hk hs f l m (by omega) m1 (Jy mk) J (λi a b=>KeyOrd.klt_of_klt_of_kle D (hs _ _ a b)) h
   |false =>
    rw[if_neg (by simp)];exact oV hp hk hs f (m+1) r (by omega) m2 q (λi a=>Kr (hs i m (JF a) mk) (show O.kle _ _ from D)) U h
theorem BR :∀f p k,k+f=N->PB N p->eZ key p k->(∀p',PB N p'->eZ key p' N->Q p' s)->(kas_bin f p k).kasWp cmp Q s
 |0,p,k,e,Z,Y,h=>by
  have:k=N:=by omega
  subst this;exact h p Z Y
 |f+1,p,k,e,Z,Y,h=>by
  show((kas_place p k k 0 k).bind λl=>kas_bin f (bubble p k (k-l)) (k+1)).kasWp cmp Q s;rw[Ky];refine oV hc Z (by omega) Y k 0 k (Kx k 0) (IW k) (pd k) (λi a=>absurd a (Nat.not_lt_zero i)) (λi a b=>absurd b (JB.mpr a)) λl hl a0 a1=>?_
  refine BR f _ (k+1) (by omega) (Z.bub _ _) (λi j D hj=>?_) h;have a2:k<p.size:=by rw[Z.size];omega
  have val:∀i,i<k+1->(i<l/\kk key (bubble p k (k-l)) i=kk key p i)\/(i=l/\kk key (bubble p k (k-l)) i=kk key p k)\/∃J,i=J+1/\l<=J/\J<k/\kk key (bubble p k (k-l)) i=kk key p J:=λi hi=>by
   rw[vI a2 (Lw k l),Nat.sub_sub_self hl];rcases KR i l with q|q|q
   .exact .inl ⟨q,by rw[if_neg (IL q),if_neg λz=>LA q z.1]⟩
   .exact .inr (.inl ⟨q,by rw[if_pos q]⟩)
   .obtain⟨c,rfl⟩:=Kf q;exact .inr (.inr ⟨l+c,rfl,JV _ _,KW hi,by rw[if_neg (JH q),if_pos ⟨q,JF hi⟩];rfl⟩)
  rcases val i (Jc D hj)with⟨a,e1⟩|⟨a,e1⟩|⟨J,a,b,c,e1⟩<;>rcases val j hj with⟨U,e2⟩|⟨U,e2⟩|⟨j',U,b',c',e2⟩<;>rw[e1,e2]
  .exact Y i j D (x1 U hl)
  .exact a0 i a
  .exact Y i j' (IK (Jy a) b') c'
  .exact absurd U (JB.mpr (a▸D))
  .exact JG _
  .exact Kn (a1 j' b' c')
  .exact absurd (Jc (a▸D:J+1<=j) U) (JB.mpr (Nat.le_succ_of_le b))
  .exact absurd (U▸a▸D:J+1<=l) (Nat.not_le.mpr (Ln b))
  .exact Y J j' (KY (U▸a▸D:J+1<=j'+1)) c'
def CZ(h1:1<=N)(h:∀p,PB N p->eZ key p N->Q p s):(kas_sort N).kasWp cmp Q s:=by
 unfold kas_sort;rw[Ky];refine Ai hc (Array.Perm.refl _) (pd _) h1 λm U q Y Z D=>?_
 by_cases J:m<N
 .rw[if_pos J,show max m 1=m by omega];exact BR hc _ _ _ (by simp[*]) q D h
 .rw[if_neg J];have:m=N:=by omega
  subst this;exact h U q D
end
end L2.Srt
namespace L2.Srt
open PySem PyProof.Rows List Option
theorem lH:∀a,HT.lexLt a a=false
 | []=>rfl
 |x::r=>by rw[HT.lexLt_cons,if_pos rfl];exact lH r
theorem jE:∀a b c,HT.lexLt a b=true->HT.lexLt b c=true->HT.lexLt a c=true
 | [],[],_,h,_=>dO h
 | [],_::_,[],_,h=>dO h
 | [],_::_,_::_,_,_=>rfl
 | _::_,[],_,h,_=>dO h
 | _::_,_::_,[],_,h=>dO h
 |x::a,y::b,z::c,h1,h2=>by
  rw[HT.lexLt_cons]at h1 h2 ⊢;by_cases q:x=y
  .rw[if_pos q]at h1;by_cases D:y=z
   .rw[if_pos D]at h2;rw[if_pos (q.trans D)];exact jE a b c h1 h2
   .simp_all
  .grind
theorem jF:∀a b,HT.lexLt a b=false->HT.lexLt b a=false->a=b
 | [],[],_,_=>rfl
 | [],_::_,h,_=>vm h
 | _::_,[],_,h=>vm h
 |x::a,y::b,h1,h2=>by
  rw[HT.lexLt_cons]at h1 h2;by_cases e:x=y
  .rw[if_pos e]at h1;rw[if_pos e.symm]at h2;rw[e,jF a b h1 h2]
  .grind
def Aj(a b c)(h:HT.lexLt a c=true):HT.lexLt a b=true\/HT.lexLt b c=true:=by
 cases h1:HT.lexLt a b with
 |true=>exact .inl rfl
 |false =>
  cases h2:HT.lexLt b a<;>first|exact .inr (jE b a c h2 h)|(rw[jF a b h1 h2]at h;exact .inr h)
noncomputable def cH:KeyOrd:=⟨List Int,HT.lexLt,lH,jE,Aj,jF⟩
noncomputable def cZ:KeyOrd:=⟨Int,λa b=>decide (a<b),λa=>IQ (by omega),λa b c h1 h2=>IM (by have:=IX h1;have:=IX h2;omega),
 λa b c h=>by
  have:=IX h;by_cases q:a<b
  .exact .inl (IM q)
  .exact .inr (IM (by omega)),
 λa b h1 h2=>by have:=of_decide_eq_false h1;have:=of_decide_eq_false h2;omega⟩
section
variable(O:KeyOrd)
noncomputable def kJ(x:O.α):List O.α->List O.α
 | []=>[x]
 |y::r=>if O.blt y x then y::kJ x r else x::y::r
noncomputable def gA:List O.α->List O.α
 | []=>[]
 |x::r=>kJ O x (gA r)
theorem jG(x):∀l,(kJ O x l).Perm (x::l)
 | []=>.refl _
 |y::r=>by
  show(if O.blt y x then y::kJ O x r else x::y::r).Perm _;split
  .exact(Perm.cons y (jG x r)).trans (.swap x y r)
  .exact .refl _
theorem e_:∀l,(gA O l).Perm l
 | []=>.refl _
 |x::r=>(jG O x _).trans (.cons x (e_ r))
theorem lI(x):∀l,l.Pairwise O.kle->(kJ O x l).Pairwise O.kle
 | [],_=>pairwise_singleton _ _
 |y::r,h=>by
  show(if O.blt y x then y::kJ O x r else x::y::r).Pairwise O.kle;obtain⟨h1,h2⟩:=K1.mp h;by_cases q:O.blt y x=true
  .rw[if_pos q];refine K1.mpr ⟨λz hz=>?_,lI x r h2⟩;rcases rb.mp ((jG O x r).mem_iff.mp hz)with e|e
   .rw[e];exact Kn q
   .exact h1 z e
  .rw[if_neg q];have D:=Bool.eq_false_iff.mpr q;refine K1.mpr ⟨λz hz=>?_,h⟩;rcases rb.mp hz with e|e
   .rw[e];exact D
   .exact Kr D (h1 z e)
theorem dR:∀l,(gA O l).Pairwise O.kle
 | []=>Pairwise.nil
 |x::r=>lI O x _ (dR r)
theorem iV:∀{a b:List O.α},a.Perm b->a.Pairwise O.kle->b.Pairwise O.kle->a=b
 | [],b,p,_,_=>p.nil_eq
 |x::a,[],p,_,_=>by have:=p.length_eq;injection this
 |x::a,y::b,p,J,U=>by
  obtain⟨Y,Z⟩:=K1.mp J;obtain⟨b1,b2⟩:=K1.mp U;have e:x=y:=by
   have hx:=p.mem_iff.mp (.head _);have hy:=p.mem_iff.mpr (.head _);rcases rb.mp hx with q|q
   .exact q
   .rcases rb.mp hy with D|D
    .exact D.symm
    .exact KeyOrd.kle_antisymm (Y y D) (b1 x q)
  subst e;rw[iV (p.cons_inv) Z b2]
def iW(p:a.Perm l)(h:a.Pairwise O.kle):a=gA O l:=iV O (p.trans (e_ O l).symm) h (dR O l)
def im(p:a.Perm b):gA O a=gA O b:=iW O ((e_ O a).trans p) (dR O a)
def qp(h:a.Pairwise O.kle):gA O a=a:=(iW O (.refl a) h).symm
end
def hZ{α:Type}(xs)(d:α):(range xs.length).map (λi=>xs.getD i d)=xs:=by
 apply ext_getElem?;intro i;rw[IY];by_cases q:i<xs.length
 .simp_all
 .simp_all
def xt(J:PB xs.length p)(hr:eZ (λi=>xs.getD i d) p xs.length):p.toList.map (λi=>xs.getD i d)=gA O xs:=by
 refine iW O ?_ ?_
 .have h:=(J4.mp J).map λi=>xs.getD i d
  have e:=hZ xs d;rw[e]at h;exact h
 .rw[pairwise_iff_getElem];intro i j hi U D;rw[ox,Array.length_toList]at hi U;have hz:=J.size;have q:=hr i j (Jy D) (by omega);simp only[getElem_map];have Y:p.getD i 0=p[i]:=by simp[hi]
  have Z:p.getD j 0=p[j]:=by simp[U]
  unfold kk at q;rw[Y,Z]at q;exact q
end L2.Srt
namespace L2.Srt
open PySem PySem.W PySem.Calls PyProof.Rows List Option
section
variable{prog:Program}{w:World}{A:Around}{E:Value->Shared->Prop}{s:Shared}
def KOk(g:SortKind):Prop:=g=tuples' true\/g=general'\/g=oneType'
def iX {KO:SortKind->Prop}{O:KeyOrd}{key:Nat->O.α}{a:Addr}{vs:List Value}{n:Nat}{R:PySem.Fin->Shared->Prop} (ho:s.heap.get? a=some (seqObj "list" vs.toArray n)) (aL:vs.length<64)
  (hk:2<=vs.length->∀s' Q,(∀b o,b≠a->s.heap.get? b=some o->s'.heap.get? b=some o)->(∀g,KO g->Q g s')->wpAny (model prog w) A (keyKind' vs.toArray) Q (λ_ _=>False) s')
  (hc:∀g,KO g->∀s' i j C,(∀b o,b≠a->s.heap.get? b=some o->s'.heap.get? b=some o)->i<vs.length->j<vs.length->C (O.blt (key i) (key j)) s' ->
   wpAny (model prog w) A (keyLt' g (vs.getD i Value.none) (vs.getD j Value.none)) C (λ_ _=>False) s')
  (h:∀p,PB vs.length p->eZ key p vs.length->R (.done (.ret .none)) { s with heap:=sortedHeap s.heap a vs (p.toList.map λi=>vs.getD i Value.none).toArray }) :
  wpAny (model prog w) A (Builtin.«list.sort» ⟨[.ref a],[]⟩) R E s:=by
 rw[list_sort_plain];have ha:=tr ho;refine hU (listItems_at ho rfl ?_);refine hU (listUpdate_at ho rfl ?_ (by rw[pb,Jl];omega) (IW _));obtain⟨e1,Z⟩:∃e1,(s.heap.update a (Obj.mapSeq λ_=>(#[]:Array Value))).get? a=some (seqObj "list" #[] e1):=⟨_,get?_update_seq ho λ_=>#[]⟩;refine hU (seqEpoch_at Z rfl ?_);refine hU (wpAny_newTuple ?_ (by show vs.length<=_;rw[Jl];omega));refine hU (Lk ?_ (IW _));refine JJ ?_;have J:(((s.heap.update a (Obj.mapSeq λ_=>(#[]:Array Value))).push (seqObj "tuple" vs.toArray 0)).push (seqObj "list" #[] 0)).get? a=some (seqObj "list" #[] e1):=i2 _ (i2 _ Z);have kp:∀b o,b≠a->s.heap.get? b=some o->(((s.heap.update a (Obj.mapSeq λ_=>(#[]:Array Value))).push (seqObj "tuple" vs.toArray 0)).push (seqObj "list" #[] 0)).get? b=some o:=λb o hb e =>
  i2 _ (i2 _ ((JA _ _ (Jk hb)).trans e))
 dsimp only;have b2:vs.toArray.size=vs.length:=by rfl
 by_cases h2:vs.toArray.size<2
 .rw[if_pos h2,if_pos h2];refine hU (kv ?_);rw[StateT.run_pure];refine hU (kv ?_);dsimp only;refine hU (seqEpoch_at J rfl ?_);refine hU (listUpdate_at J rfl ?_ (IW _) (by rw[Array.size_map];show(pairsOf vs).size<=_;rw[pairsOf_size,Jl];omega));simp only[KS,Jw,KL];have e:((arrOf (SortSt.mk' general' (vs.toArray.zip vs.toArray) #[] 7 none)).map (·.2))=((range vs.length).toArray.toList.map λi=>vs.getD i Value.none).toArray:=by
   have e2:(arrOf (SortSt.mk' general' (vs.toArray.zip vs.toArray) #[] 7 none))=vs.toArray.zip vs.toArray:=rfl;rw[e2];apply Array.toList_inj.mp;rw[hZ];simp[map_snd_zip]
  refine kv ?_;have q:=h (range vs.length).toArray (Array.Perm.refl _) (λi j b4 hj=>by
   have:i=j:=by omega
   subst this;exact JG _)
  rw[<- e]at q;exact q
 .rw[if_neg h2,if_neg h2];have ao:2<=vs.length:=by exact(K3 ‹_›)
  refine hU (Jj (hk ao _ (λg s0=>KO g/\s0={ s with heap:=((s.heap.update a (Obj.mapSeq λ_=>(#[]:Array Value))).push (seqObj "tuple" vs.toArray 0)).push (seqObj "list" #[] 0) }) kp λg D=>⟨D,rfl⟩) (λg s0 D=>?_) λ_ _ x=>x.elim);obtain⟨D,rfl⟩:=D;refine hU (Jj (kat_run (Q:=λU s'=>∃p,p.size=vs.length/\arrOf U=p.map (kas_item (vs.toArray.zip vs.toArray))/\failedOf U=none/\PB vs.length p/\eZ key p vs.length/\s'={ s with heap:=((s.heap.update a (Obj.mapSeq λ_=>(#[]:Array Value))).push (seqObj "tuple" vs.toArray 0)).push (seqObj "list" #[] 0) })
   (G:=λp s'=>PB vs.length p/\eZ key p vs.length/\s'={ s with heap:=((s.heap.update a (Obj.mapSeq λ_=>(#[]:Array Value))).push (seqObj "tuple" vs.toArray 0)).push (seqObj "list" #[] 0) })
   rfl ao aL (λp' U s' a1 a2 a3 a4=>⟨p',a1,a2,a3,a4⟩)
   (CZ (key:=key) (λi j C hi hj q=>hc g D _ i j C kp hi hj q) (Jy ‹_›) λp hp hr=>⟨hp,hr,rfl⟩)) ?_ λ_ _ e=>e)
  rintro ⟨⟨⟩,U⟩ s' ⟨p,hp,a6,hf,bt,bB,rfl⟩;have Y:=kat_snds rfl a6;refine hU (seqEpoch_at J rfl ?_);refine hU (listUpdate_at J rfl ?_ (IW _) (by rw[Y];refine IK (JZ ?_) (show vs.length<=_ by rw[Jl];omega);simp[hp]));rw[hf,Y];simp only[KS,Jw,KL];exact kv (h p bt bB)
theorem ko :∀{vs ws}{ns ms} i,IntsAre vs ns->IntsAre ws ms->fin=decide (ns.length<ms.length)->C (HT.lexLt ns ms) s->KatLex prog w A true fin C (vs.zip ws) i s
 | _,_,_,_,i,.nil,.nil,hf,h=>by
  refine kat_nil ?_;rw[hf];exact h
 | _,_,_,_,i,.nil,.cons c u hw,hf,h=>by
  refine kat_nil ?_;rw[hf,IM (by simp)];exact h
 | _,_,_,_,i,.cons a t D,.nil,hf,h=>by
  refine kat_nil ?_;rw[hf,IQ (by simp)];exact h
 | _,_,_,_,i,.cons (ns:=ns) a t D,.cons (ns:=ms) c u hw,hf,h=>by
  rw[HT.lexLt_cons]at h;refine kat_cons (wpAny_eqBool_int ?_);by_cases e:a=c
  .rw[if_pos e]at h;have q:(a==c)=true:=by rw[e];exact Jx c
   rw[q];refine kat_yes (ko _ D hw ?_ h);rw[hf];simp
  .rw[if_neg e]at h;have q:=Jf.mpr e;rw[q];refine kat_no ?_;cases i with
   |zero=>exact oneLt_int h
   |succ i=>exact kat_one _ _ (lt_int h)
def Ak(hk:KOk g){a b:Addr}{its q:Array Value}{ns ms:List Int}{C:Bool->Shared->Prop}(Z:IsTup s.heap a its)(hb:IsTup s.heap b q)(hi:IntsAre its.toList ns)(Y:IntsAre q.toList ms)
  (hu:A.units<cLine) (h:C (HT.lexLt ns ms) s):wpAny (model prog w) A (keyLt' g (.ref a) (.ref b)) C E s:=by
 rcases hk with rfl|rfl|rfl
 .obtain⟨o,ho,_,n,hd⟩:=id Z;obtain⟨o2,J,_,n2,D⟩:=id hb;refine kat_lt ho hd J D (ko 0 hi Y ?_ h);have z1:its.size=ns.length:=by rw[<- hi.length];simp
  have z2:q.size=ms.length:=by rw[<- Y.length];simp
  rw[z1,z2]
 .show wpAny _ _ (oneLt' false _ _) _ _ _;exact kat_one _ _ (HT.lt_tupInts Z hb hi Y hu h)
 .rw[keyLt'_oneType,oneLt'_eq];refine hU (wpAny_cRoomFor hu ?_);refine bY λZq kq=>?_
  obtain⟨⟨cls,dd,data,sl⟩,ho,hc,n,hd⟩:=id Z;obtain⟨⟨a2,aL,data2,a0⟩,J,U,n2,D⟩:=id hb;simp only at hc hd U D;subst hc hd U D;refine kq ?_;refine hU (K6 ⟨_,ho,rfl⟩ PySem.F.slot_tuple_lt (J7 PySem.F.slot_tuple_lt ⟨_,ho,rfl⟩ PySem.F.entry_tuple_lt (PySem.F.args_tuple_lt_2 _ _) (HT.tuple_lt_ints a b its q n n2 dd aL sl a0 ns ms hi Y) ⟨ho,J,?_⟩));exact Jn h
theorem kr:∀(vs:List Value) {Q},(∀v∈vs,∃a its ns,v=.ref a/\IsTup s.heap a its/\IntsAre its.toList ns) ->
  (∀fs,fs.length=vs.length->(∀f∈fs,∀v,f=some v->∃n t,v=Value.int n t)->Q fs s)->wpAny (model prog w) A (vs.mapM firstOfTuple') Q E s
 | [],Q,_,h=>by rw[mapM_nil];exact kv (h [] rfl (by simp))
 |v::vs,Q,D,h=>by
  refine bY λZ J=>?_
  obtain⟨a,its,ns,rfl,⟨o,ho,hc,n,hd⟩,hi⟩:=D v (.head _);refine J ?_;rw[mapM_cons];refine hU ?_;refine hU (Looks.here (show Looks (model prog w) s.heap (typeOf (.ref a)) o.cls from(Looks.ld ho).andThen .now) ?_);rw[hc,if_neg (by first|decide|simp)];refine hU (listItems_at ho hd (kv ?_));refine hU (kr vs (Q:=λbs s'=>wpAny (model prog w) A (pure (its[0]?::bs)) Q E s') (λu U=>D u (.tail _ U)) λfs hl Y=>?_);refine kv (h _ (by simp[hl]) λf hm u e=>?_);rcases rb.mp hm with z|z
  .rw[z]at e;have q:u∈its.toList:=by
    rw[<- JL]at e;exact JR e
   exact hi.all u q
  .exact Y f z u e
def vJ{vs:List Value}{Q:SortKind->Shared->Prop}(h2:2<=vs.length)(hv:∀v∈vs,∃a its ns,v=.ref a/\IsTup s.heap a its/\IntsAre its.toList ns)(h:∀g,KOk g->Q g s) :
  wpAny (model prog w) A (keyKind' vs.toArray) Q E s:=by
 rw[kat_kind_eq,mapM_toArray,LB];refine hU (hU (kr vs hv λfs hl hf=>kv ?_));by_cases D:(fs.toArray.all λx=>x.isSome)=true
 .rw[if_pos D];refine hU (K7 ?_);have Z:(fs.toArray.filterMap id)=(fs.filterMap id).toArray:=by simp
  rw[Z,oneTypeOnly'_eq,mapM_toArray,LB];have U:∀v∈fs.filterMap id,∃n t,v=Value.int n t:=λv hm=>by
   refine ae (mem_filterMap.mp hm) λf ao e=>?_
   exact hf f ao v e
  have aL:0<(fs.filterMap id).length:=by
   match fs,hl,D with
   | [],hl,_=>simp at hl;omega
   |f::r,_,D =>
    have:f.isSome=true:=by simp at D;exact D.1
    obtain⟨u,rfl⟩:=Lo.mp this;simp
  refine hU (hU (hU (kas_mapM (r:=Value.type "int") _ (λv hm Q' hq=>?_) (kv ?_))))
  .refine lf (U v hm) λn t a1=>?_
   subst a1;exact kv hq
  .have h0:(map (λ_=>Value.type "int") (fs.filterMap id)).toArray[0]?=some (Value.type "int"):=by
    simp[aL]
   rw[h0];have J:((map (λ_=>Value.type "int") (fs.filterMap id)).toArray.all λx=>x==Value.type "int")=true:=by
    simp only[all_toArray,K8,JE];intro _ _
    rfl
   simp only[J,if_true];exact kv (kv (h _ (.inl rfl)))
 .rw[if_neg D];by_cases Y:((fs.toArray[0]?).bind id).isSome=true
  .rw[if_pos Y];exact kv (h _ (.inr (.inl rfl)))
  .rw[if_neg Y];rw[oneTypeOnly'_eq,mapM_toArray,LB];refine hU (hU (hU (kas_mapM (r:=Value.type "tuple") _ (λv hm Q' hq=>?_) (kv ?_))))
   .obtain⟨a,its,ns,rfl,⟨o,ho,hc,n,hd⟩,hi⟩:=hv v hm;have q:Looks (model prog w) s.heap (typeOf (.ref a)) o.cls:=(Looks.ld ho).andThen .now;rw[hc]at q;exact q.here hq
   .have h0:(map (λ_=>Value.type "tuple") vs).toArray[0]?=some (Value.type "tuple"):=by
     have:0<vs.length:=by exact(Jy ‹_›)
     simp[this]
    rw[h0];have J:((map (λ_=>Value.type "tuple") vs).toArray.all λx=>x==Value.type "tuple")=true:=by
     simp only[all_toArray,K8,JE];intro _ _
     rfl
    simp only[J,if_true];exact kv (kv (h _ (.inr (.inr rfl))))
end
end L2.Srt
namespace L2.St
open PySem PyProof.Rows List Option
section
variable{P:Program}{w:World}{A:Around}{E:Value->Shared->Prop}{s:Shared}
def ue{q:Array Value}(hi:IntsAre q.toList ns):∀i (v:Value),q[i]?=some v->∃t,v=.int (ns.getD i 0) t:=
 λi v e=>IntsAre.int_at hi i v (by rw[JL];exact e)
def jH{v:Value}{vs:Array Value}{it:Addr}{Q:Option Value->Shared->Prop}(q:A.handled=none){R:Value->Shared->Prop}
  (hR:∀e s',(∀b o,s.heap.get? b=some o->s'.heap.get? b=some o)->(∃h',s'={ s with heap:=h' })->s'.TypeIs e "StopIteration"->R e s') {D:PySem.Fin->Shared->Prop} :
  wpAny (model P w) A (newExc (.type "StopIteration") [] >>= λe=>(raiseNew e:Sem PySem.Fin)) D R s:=by
 refine wpAny_bind ?_;simp only[newExc,newTuple];refine wpAny_bind (wpAny_newObj_type ?_ (by size_fits));refine wpAny_bind (m:=firstArgMember _ _) (wpAny_of_eq (a:=Value.none) (by first|rfl|(simp only[firstArgMember];rfl)) ?_);refine wpAny_newObj_type ?_ (by size_fits);simp only[raiseNew];refine wpAny_bind (wpAny_handled ?_);rw[q];refine wpAny_bind (wpAny_pure (wpAny_throw ?_));exact hR _ _ (λb o e=>Heap.get?_push_of_some _ (Heap.get?_push_of_some _ e)) ⟨_,rfl⟩ ⟨_,Heap.get?_push_size _ rfl,rfl⟩
end
end L2.St
namespace L2.St
open PySem List Option
def kK(xs:Array Nat):Prop:=∀i j,i<j->j<xs.size->xs.getD i 0<xs.getD j 0
def xu{xs:Array Nat}(h:i<xs.size)(d e):xs.getD i d=xs.getD i e:=by simp[Array.getD,h]
theorem lJ(hr:kK xs):∀q lo hi,hi<=lo+q->lo<=hi->hi<=xs.size->(∀i,i<lo->xs.getD i 0<j)->(∀i,hi<=i->i<xs.size->j<=xs.getD i 0) ->
  (SetTable.below.go xs j q lo hi<=xs.size/\(∀i,i<SetTable.below.go xs j q lo hi->xs.getD i 0<j)/\∀i,SetTable.below.go xs j q lo hi<=i->i<xs.size->j<=xs.getD i 0)
 |0,lo,hi,hf,h1,h2,a,b=>by
  have e:SetTable.below.go xs j 0 lo hi=lo:=rfl;rw[e];have:=Ju h1 hf;subst this;exact⟨h2,a,b⟩
 |q+1,lo,hi,hf,h1,h2,a,b=>by
  have e:SetTable.below.go xs j (q+1) lo hi=if lo<hi then(if xs.getD ((lo+hi) / 2) j<j then SetTable.below.go xs j q ((lo+hi) / 2+1) hi else SetTable.below.go xs j q lo ((lo+hi) / 2))else lo:=rfl
  rw[e];by_cases hl:lo<hi
  .rw[if_pos hl];refine bY λZq Y=>?_
   obtain⟨m,Z,m1,U⟩:∃m,(lo+hi) / 2=m/\lo<=m/\m<hi:=⟨_,rfl,by omega,by omega⟩;refine Y ?_;rw[Z];have hm:=x1 U h2;rw[xu hm j 0];by_cases J:xs.getD m 0<j
   .rw[if_pos J];refine lJ hr q _ hi (by omega) U h2 (λi D=>?_) b;rcases Lf (JF D)with z|z
    .exact Kb (hr i m z hm) J
    .rw[z];exact J
   .rw[if_neg J];refine lJ hr q lo _ (by omega) m1 (Jy hm) a λi D hz=>?_
    rcases Lf D with z|z
    .exact IK (JB.mp J) (Jy (hr m i z hz))
    .rw[<- z];exact JB.mp J
  .rw[if_neg hl];have:=Ju h1 (JB.mp hl);subst this;exact⟨h2,a,b⟩
def iw(hr:kK xs)(j):SetTable.below xs j<=xs.size/\(∀i,i<SetTable.below xs j->xs.getD i 0<j)/\∀i,SetTable.below xs j<=i->i<xs.size->j<=xs.getD i 0:=
 lJ hr xs.size 0 xs.size (Kx _ _) (IW _) (pd _) (λi h=>absurd h (Nat.not_lt_zero i)) λi h1 h2=>absurd h2 (JB.mpr h1)
def mY(xs)(p)(x:α)(q:p<=xs.size):(SetTable.insertAt xs p x).size=xs.size+1:=by grind [SetTable.insertAt]
def iY(xs)(p)(x:α)(q:p<=xs.size)(i):(SetTable.insertAt xs p x)[i]?=if i<p then xs[i]? else if i=p then some x else xs[i-1]?:=by
 unfold SetTable.insertAt;have hz:((xs.extract 0 p).push x).size=p+1:=by rw[Array.size_push,Lg,Kz q,Nat.sub_zero]
 rcases KR i p with h1|h1|h1
 .rw[if_pos h1,Ll (by rw[hz];exact Ji h1)];rw[Array.getElem?_push,if_neg (by rw[Lg,Kz q];exact IL h1),Array.getElem?_extract,if_pos (by rw[Kz q];exact h1),Kc]
 .subst h1;rw[if_neg (Jm _),if_pos rfl,Ll (by rw[hz];exact JK _)];rw[Array.getElem?_push,if_pos (by rw[Lg,Kz q];rfl)]
 .obtain⟨k,rfl⟩:=Kf h1;rw[if_neg (LA h1),if_neg (JH h1),Array.getElem?_append_right (by rw[hz];exact h1),hz,Array.getElem?_extract,J0,Nat.add_sub_cancel_left,Nat.min_self,J0,Jv];by_cases h3:k<xs.size-p
  .rw[if_pos h3]
  .rw[if_neg h3,KZ (Nat.sub_le_iff_le_add'.mp (JB.mp h3))]
def eN{xs:Array Nat} :xs.getD i 0=(xs[i]?).getD 0:=Kp
def qr(hr:kK xs)(hn:xs[SetTable.below xs j]?≠some j):kK (SetTable.insertAt xs (SetTable.below xs j) j):=by
 refine j_ (iw hr j) λD Z U=>?_
 generalize SetTable.below xs j=p at *
 have J:∀i,p<=i->i<xs.size->j<xs.getD i 0:=λi h1 h2=>by
  rcases Lf h1 with z|z
  .exact Jc (U p (pd _) (Kb z h2)) (hr p i z h2)
  .subst z;have e:xs[p]?=some (xs.getD p 0):=by rw[KA h2];simp[Array.getD,h2]
   exact J1 (U p h1 h2) λz=>hn (by rw[e,<- z])
 intro i k q Y;rw[mY _ _ _ D]at Y;rw[eN,eN,iY _ _ _ D,iY _ _ _ D];rcases KR k p with h1|h1|h1
 .rw[if_pos h1,if_pos (Kb q h1),<- eN,<- eN];exact hr i k q (x1 h1 D)
 .simp_all
 .obtain⟨c,rfl⟩:=Kf h1;have hc:=KW Y;rw[if_neg (LA h1),if_neg (JH h1),Jv];rcases KR i p with h3|h3|h3
  .rw[if_pos h3,<- eN,<- eN];exact hr i (p+c) (x1 h3 (JV p c)) hc
  .rw[if_neg (h3▸Jm p),if_pos h3,<- eN];exact J (p+c) (JV p c) hc
  .obtain⟨b,rfl⟩:=Kf h3;rw[if_neg (LA h3),if_neg (JH h3),Jv,<- eN,<- eN];exact hr (p+b) (p+c) (KW q) hc
def sm(n):kK (Array.range n):=λi j h1 h2=>by
 rw[Array.size_range]at h2;simp[Array.getD,h2,Kb h1 h2];exact h1
def xv:kK #[]:=λi j _ h=>by simp at h
structure Gd(L:Bool)(t:SetTable):Prop where
 led:t.led=L
 dum:t.dummies=#[]
 rise:kK t.place
theorem Gd.fresh(L):Gd L (.fresh 0 0 L):=⟨rfl,rfl,xv⟩
theorem Gd.standIn(h:Gd L t)(n):Gd L (t.standIn n):=⟨h.led,rfl,sm n⟩
theorem Gd.orStandIn(h:Gd L t)(n):Gd L (t.orStandIn n):=by
 unfold SetTable.orStandIn;split
 .exact h
 .exact h.standIn n
def Gd.unplain(h:Gd L t):Gd L { t with plain:=false }:=⟨h.led,h.dum,h.rise⟩
def oW{t:SetTable}(hd:t.dummies=#[])(j):t.slot j≠.dummy:=by
 unfold SetTable.slot SetTable.has;rw[hd];dsimp only;split
 .simp
 .simp
def sn{t:SetTable}(h:t.slot j=.empty):t.place[SetTable.below t.place j]?≠some j:=by
 intro e;unfold SetTable.slot at h
 simp_all
theorem qt(hd:t.dummies=#[]) :∀q p,p.dummy=none->∀j d,SetTable.probe.go t D h q p=some (.empty j d)->d=none/\t.slot j=.empty
 |0,p,U,j,d,e=>by
  have:SetTable.probe.go t D h 0 p=none:=rfl;rw[this]at e;exact aP e
 |q+1,p,U,j,d,e=>by
  have step:SetTable.probe.go t D h (q+1) p=(match t.slot p.j with
   | .empty=>some (.empty p.j p.dummy)
   | .dummy=>SetTable.probe.go t D h q (t.advance { p with dummy:=some p.j })
   | .live i=>if D i==h then some (.candidate p.j i (t.advance p))else SetTable.probe.go t D h q (t.advance p)):=rfl
  rw[step]at e;have Y:(t.advance p).dummy=none:=by unfold SetTable.advance;split<;>simp[U]
  cases J:t.slot p.j with
  |empty =>
   rw[J]at e;dsimp only at e;cases e;exact⟨U,J⟩
  |dummy=>exact absurd J (oW hd _)
  |live i =>
   rw[J]at e;dsimp only at e;split at e
   .cases e
   .exact qt hd q _ Y j d e
def vK{t:SetTable}(hd:t.dummies=#[])(e:t.freeSlot h=some (j,b)):t.slot j=.empty:=by
 unfold SetTable.freeSlot at e;split at e
 .rename_i q d D;obtain⟨rfl,J⟩:=qt hd _ _ rfl q d D
  simp_all
 .exact aP e
theorem Gd.put(h:Gd L t)(q:t.slot j=.empty):Gd L (t.put j).1:=by
 refine⟨h.led,?_,qr h.rise (sn q)⟩;show(if SetTable.has t.dummies j then _ else t.dummies)=#[];rw[if_neg (by unfold SetTable.has;rw[h.dum];simp)];exact h.dum
theorem Gd.layNew(g:Gd L t)(es)(h)(x):Gd L (layNew t es h x).2.1:=by
 unfold PySem.layNew;cases e:t.freeSlot h with
 |none=>exact g.standIn _
 |some q =>
  exact(g.put (vK g.dum e)).orStandIn _
def xw(f:Nat->Option Nat)(n):kK ((((range n).filterMap λj=>(f j).map λi=>(j,i)).map λq:Nat×Nat=>q.1).toArray):=by
 have e:((range n).filterMap λj=>(f j).map λi=>(j,i)).map (λq:Nat×Nat=>q.1)=(range n).filter λj=>(f j).isSome:=by
  generalize range n=l
  induction l with
  |nil=>rfl
  |cons a l ih =>
   cases h:f a<;>simp[filterMap_cons,Le,h,ih]
 rw[e];have Y:((range n).filter λj=>(f j).isSome).Pairwise (· < ·):=Pairwise.filter _ pairwise_lt_range;intro i j J Z;have D:j<((range n).filter λj=>(f j).isSome).length:=by exact Z
 have U:i<((range n).filter λj=>(f j).isSome).length:=Kb J D;have:=pairwise_iff_getElem.mp Y i j U D J;simpa[Array.getD,D,U]using this
theorem Gd.relaid(g:Gd L t)(e:t.relaid q n=some (t',o)):Gd L t':=by
 unfold SetTable.relaid SetTable.laid at e;cases h:SetTable.layClean (SetTable.sizeAbove n-1) q with
 |none=>rw[h]at e;exact aP e
 |some D =>
  rw[h]at e;cases e;exact⟨g.led,rfl,xw (λj=>D.getD j none) _⟩
theorem Gd.relayAll(g:Gd L t)(es)(n):Gd L (relayAll t es n).2.1:=by
 unfold PySem.relayAll;cases e:t.relaid (es.map (·.1)) n with
 |none=>exact g.standIn _
 |some q =>
  obtain⟨t',o⟩:=q;dsimp only;split
  .exact g.relaid e
  .exact g.standIn _
end L2.St
namespace L2.St
open PySem PyProof.Rows List Option
noncomputable def byT (w:World):Bool:=w.params.followText "set-order"
structure Arr(P:Program)(w:World)(ks:List Int)(es:Array (Int×Value))(t:SetTable):Prop where
 el:ElemsOf (intKind P w) es.toList
 pm:(es.toList.map λe=>numOf e.2).Perm ks
 nd:ks.Nodup
 bd:es.size<scanBound
 fi:t.fits es.size=true
 gd:Gd (!byT w) t
def d5(P:Program)(w:World)(h:Heap)(a:Addr)(ks:List Int):Prop:=
 ∃o es ep t,h.get? a=some o/\o.ExactSet/\o.data=.set es ep t/\ElemsOf (intKind P w) es.toList/\(es.toList.map λe=>numOf e.2).Perm ks/\ks.Nodup/\es.size<scanBound/\t.fits es.size=true/\Gd (!byT w) t
section
variable{P:Program}{w:World}{h h':Heap}{a:Addr}{ks ks':List Int}{o:Obj}{es:Array (Int×Value)}{ep:Nat}{t:SetTable}
theorem d5.arr(g:d5 P w h a ks):∃o es ep t,(h.get? a=some o/\o.ExactSet/\o.data=.set es ep t)/\Arr P w ks es t:=by
 refine bY λZq D=>?_
 obtain⟨o,es,ep,t,ho,q,hd,J,U,Y,Z,c5,c6⟩:=g;refine D ?_;exact⟨o,es,ep,t,⟨ho,q,hd⟩,⟨J,U,Y,Z,c5,c6⟩⟩
theorem Arr.set(r:Arr P w ks es t)(ho:h.get? a=some o)(q:o.ExactSet)(hd:o.data=.set es ep t):d5 P w h a ks:=
 ⟨o,es,ep,t,ho,q,hd,r.el,r.pm,r.nd,r.bd,r.fi,r.gd⟩
theorem Arr.len(r:Arr P w ks es t):es.size=ks.length:=by simpa using r.pm.length_eq
theorem Arr.bare(r:Arr P w ks es t)(b:Bool):Arr P w ks es (if b=true then t else { t with plain:=false }):=by
 cases b
 .exact⟨r.el,r.pm,r.nd,r.bd,SetTable.fits_plain_off r.fi,r.gd.unplain⟩
 .exact r
theorem Arr.lay(r:Arr P w ks es t)(tk)(D:k∉ks)(J:ks.length+1<scanBound):Arr P w (k::ks) (layNew t es (hashInt k) (.int k tk)).1 (layNew t es (hashInt k) (.int k tk)).2.1:=by
 have p:(layNew t es (hashInt k) (.int k tk)).1.toList.Perm (es.toList++[(hashInt k,.int k tk)]):=by simpa using layNew_perm t es _ _
 have z:=p.length_eq;have l:=r.len;constructor
 .exact ElemsOf.perm (r.el.push (intKind_is _ _ _ _) rfl) p
 .have q:((es.toList++[(hashInt k,Value.int k tk)]).map λe=>numOf e.2).Perm (k::ks):=by
   rw[Js];exact perm_append_comm.trans (r.pm.cons k)
  exact(p.map _).trans q
 .exact JX.mpr ⟨D,r.nd⟩
 .simp at z;exact(by simp[*])
 .exact layNew_fits _ _ _ _
 .exact r.gd.layNew _ _ _
def Arr.relay(r:Arr P w ks es t)(n):Arr P w ks (relayAll t es n).1 (relayAll t es n).2.1:=by
 have p:=relayAll_perm t es n;have z:=p.length_eq;have b:=r.bd;exact⟨r.el.perm p,(p.map _).trans r.pm,r.nd,by simp at z;exact(by simp[*]),relayAll_fits t es n,r.gd.relayAll es n⟩
theorem d5.at(g:d5 P w h a ks)(k:∀o,h.get? a=some o->h'.get? a=some o):d5 P w h' a ks:=by
 obtain⟨o,es,ep,t,⟨ho,q,hd⟩,r⟩:=g.arr;exact r.set (k o ho) q hd
end
def nG(h:ElemsOf (intKind P w) es):∀e∈es,∃t,e.2=.int (numOf e.2) t:=λe D=>by
 obtain⟨⟨k,J,_⟩,_⟩:=h e D;obtain⟨t,q⟩:=Lm (show Value.isInt k e.2=true from J);exact⟨t,by rw[q];rfl⟩
def oX(h:ElemsOf (intKind P w) es)(D:e∈es)(k):(intKind P w).is k e.2=true ↔ numOf e.2=k:=by
 obtain⟨t,q⟩:=nG h e D;constructor
 .intro z;obtain⟨t',J⟩:=Lm (show Value.isInt k e.2=true from z);rw[J];rfl
 .intro z;rw[q,z];exact intKind_is _ _ _ _
section
variable{P:Program}{w:World}{A:Around}{E:Value->Shared->Prop}{s:Shared}
def Now(P:Program)(w:World)(a:Addr)(s:Shared)(ks:List Int)(s':Shared):Prop:=
 ∃h',s'={ s with heap:=h' }/\Heap.SameBut a s.heap h'/\d5 P w h' a ks
theorem Now.stay(g:d5 P w s.heap a ks):Now P w a s ks s:=⟨s.heap,rfl,Heap.SameBut.refl a s.heap,g⟩
def Al{h:Heap}{a:Addr}{o:Obj}{es:Array (Int×Value)}{ep:Nat}{t:SetTable}(ho:h.get? a=some o)(D:o.ExactSet)(hd:o.data=.set es ep t)
  {q:Array (Int×Value)}{t':SetTable}{ks:List Int} (r:Arr P w ks q t'):d5 P w (h.update a (Obj.putSet q t')) a ks:=by
 refine r.set (o:={ o with data:=.set q (ep+1) t' }) (ep:=ep+1) ?_ D rfl;have e:Obj.putSet q t' o={ o with data:=.set q (ep+1) t' }:=putSet_of q t' hd;rw[<- e];exact JD _ ho (by rw[e];rfl)
theorem Now.put{s':Shared}(n:Now P w a s ks s'){es:Array (Int×Value)}{t:SetTable}(r:Arr P w ks' es t){Q:Unit->Shared->Prop}(h:∀q,Now P w a s ks' q->Q () q) :
  wpAny (model P w) A (storeSet a es t) Q E s':=by
 refine bY λZ U=>?_
 refine aM n λh' D Y g=>?_
 subst D;obtain⟨o,_,_,_,⟨ho,J,hd⟩,_⟩:=g.arr;refine U ?_;exact wpAny_storeSet_of ho hd (h _ ⟨_,rfl,Y.trans (JU h' a _),Al ho J hd r⟩) (fits_of_scanBound r.bd)
def FY{Q:Unit->Shared->Prop}(hm:m=pure ()\/∃n,m=rule n)(h:Q () s'):wpAny (model P w) A m Q E s':=by
 rcases hm with rfl|⟨n,rfl⟩
 .exact kv h
 .exact K7 h
def FZ(k)(tk)(c)(h:∀b,wpAny (model P w) A (f b) Q E s') :
  wpAny (model P w) A (if c=true then hashByValue 8 (.int k tk) >>= f else(pure true:Sem Bool) >>= f) Q E s':=by
 cases c
 .exact hU (kv (h true))
 .rw[if_pos rfl,hashByValue_scannable 8 (show(Value.int k tk).scannable=true from rfl)];exact hU (kv (h _))
def vL{Q:Bool->Shared->Prop}(hS:d5 P w s.heap a ks)(D:ks.length+1<scanBound)
  (h:∀h' b,Heap.SameBut a s.heap h'->d5 P w h' a (if k∈ks then ks else k::ks)->Q b { s with heap:=h' }) :
  wpAny (model P w) A (setAddHashed a (.int k tk) (hashInt k)) Q E s:=by
 have fin:∀b s',Now P w a s (if k∈ks then ks else k::ks) s'->Q b s':=by
  rintro b _ ⟨h',rfl,sb,g⟩;exact h h' b sb g
 have now:=Now.stay hS;obtain⟨o,es,ep,t,⟨ho,a5,hd⟩,r⟩:=hS.arr;have here:k∈ks ↔ ((es.toList.findIdx? λe=>(intKind P w).is k e.2).isSome=true):=by
  rw[findIdx?_isSome,Jh,<- r.pm.mem_iff,mem_map];exact⟨λhq=>ae hq λe U q=>⟨e,U,(oX r.el U k).mpr q⟩,λhq=>ae hq λe U q=>⟨e,U,(oX r.el U k).mp q⟩⟩
 refine JJ (hU (J5 ho hd r.fi ?_));dsimp only;rw[byScan_of (x:=.int k tk) rfl r.bd r.el,if_pos rfl];refine hU ?_;refine hU (K7 (hU (wpAny_setScan_of (knd:=intKind P w) (intKind_is _ _ _ _) ho hd r.fi r.el ?_)));rcases Y:es.toList.findIdx? λe=>(intKind P w).is k e.2 with _|j
 .rw[Y];have Z:k∉ks:=λz=>by rw[here,Y]at z;exact Bool.noConfusion z
  rw[if_neg Z]at fin;have r1:=r.lay tk Z D;rcases hl:layNew t es (hashInt k) (.int k tk)with⟨J,t1,dm,gv⟩
  rw[hl]at r1;dsimp only at r1 ⊢;refine hU (FY ?_ ?_)
  .cases gv
   .exact .inl rfl
   .exact .inr ⟨_,rfl⟩
  refine FZ k tk _ λb=>?_
  have r2:=r1.bare b;generalize (if b=true then t1 else _)=t2 at r2 ⊢;refine hU (now.put r2 λs2 n2=>?_);refine J3 (λ_=>?_) (λ_=>kv (kv (fin _ _ n2)));have r3:=r2.relay (SetTable.grown J.size);rcases hm:relayAll t2 J (SetTable.grown J.size)with⟨bB,t3,a2⟩
  rw[hm]at r3;dsimp only at r3 ⊢;refine hU (FY ?_ ?_)
  .cases a2
   .exact .inl rfl
   .exact .inr ⟨_,rfl⟩
  exact hU (n2.put r3 λs3 n3=>kv (kv (fin _ _ n3)))
 .rw[Y];have Z:=here.mpr (by rw[Y];rfl);rw[if_pos Z]at fin;exact kv (kv (fin _ _ now))
end
noncomputable def dd:List Int->List Int
 | []=>[]
 |k::r=>if k∈dd r then dd r else k::dd r
theorem iy :∀{l},k∈dd l ↔ k∈l
 | []=>Iff.rfl
 |x::r=>by
  show k∈(if x∈dd r then dd r else x::dd r) ↔ _;have ih:=@iy k r;by_cases h:x∈dd r
  .rw[if_pos h,ih,rb];exact⟨.inr,λz=>z.elim (λe=>by rw[e];exact iy.mp h) id⟩
  .simp_all
theorem dd_nodup:∀l,(dd l).Nodup
 | []=>nodup_nil
 |x::r=>by
  show(if x∈dd r then dd r else x::dd r).Nodup;by_cases h:x∈dd r
  .rw[if_pos h];exact dd_nodup r
  .rw[if_neg h];exact JX.mpr ⟨h,dd_nodup r⟩
theorem dd_len:∀l,(dd l).length<=l.length
 | []=>pd _
 |x::r=>by
  show(if x∈dd r then dd r else x::dd r).length<=_;have:=dd_len r
  grind
def But(ws:List Addr)(s s':Shared):Prop:=
 ∃h' tk,s'={ s with heap:=h',toks:=tk }/\∀b o,b∉ws->s.heap.get? b=some o->h'.get? b=some o
theorem But.on(x:But ws s s')(y:But vs s' D)(U:∀b∈ws,b∈vs):But vs s D:=by
 refine cr x λh1 t1 q Y=>?_
 subst q;refine cr y λh2 t2 q Z=>?_
 subst q;exact⟨h2,t2,rfl,λb o J e=>Z b o J (Y b o (λz=>J (U b z)) e)⟩
section
variable{P:Program}{w:World}{A:Around}{R:Result->Shared->Prop}{I S:Addr}{fp wr:List Addr}{n:Nat}{Pv:Nat->Value->Prop}{St:Nat->Heap->Prop}
noncomputable abbrev upd (S I:Addr):Code:=.builtin "set.update.loop" ⟨[.ref S,.ref I],[]⟩
def qu (h:wpAny (model P w) A.in1 (pyNext (.ref I)) (λv s'=>match v with
   |none=>R (.ok (.ret .none)) s'
   |some x=>wpAny (model P w) A.in1 (setAdd S x) (λ_ q=>codeAny (model P w) A (upd S I) R q) (λe q=>R (.error e) q) s') (λe s'=>R (.error e) s') s) :
  codeAny (model P w) A (upd S I) R s:=by
 have pl:=PyProof.Rows.F.plain_set_update_loop;apply Ki PyProof.Rows.F.entry_set_update_loop;rw[J8 pl];apply hU (m:=pyNext _);refine Jj h (λv s' D=>?_) λ_ _ x=>x
 cases v with
 |none=>exact kv D
 |some x =>
  refine hU (JJ (Jj D (λ_ q hc=>?_) λ_ _ x=>x));exact kv ⟨Ku pl _,hc⟩
def add_int(g:d5 P w s.heap S ks)(room:ks.length+1<scanBound) 
  (h:∀b s',But [S] s s'->d5 P w s'.heap S (if k∈ks then ks else k::ks)->(∀b,b≠S->s'.heap.get? b=s.heap.get? b)->Q b s'):wpAny (model P w) B (setAdd S (.int k t)) Q E s:=by
 refine JJ (hU ((intKind P w).pyHash (intKind_is _ _ _ _) ?_));refine vL g room λh' b q g'=>h b _ ⟨h',_,rfl,λc o hc e=>?_⟩ g' λc hc=>?_
 .rw[q.2 c (by simpa using hc)];exact e
 .exact q.2 c hc
theorem uf(W:Walks P w A.in1 I fp wr n Pv St)(J:S∉fp)(xs:List Int)(hn:xs.length=n)(Z:∀i v,Pv i v->∃t,v=.int (xs.getD i 0) t)(hb:n+1<scanBound) :
  ∀m i s,i+m=n->St i s.heap->d5 P w s.heap S (dd (xs.take i).reverse)->(∀s',But (S::wr) s s'->d5 P w s'.heap S (dd xs.reverse)->R (.ok (.ret .none)) s') ->
   codeAny (model P w) A (upd S I) R s
 |0,i,s,e,st,g,h=>by
  have hi:i=n:=e;subst hi;refine qu (W.done s _ _ st λh' tk kp=>h _ ⟨h',tk,rfl,λb o q=>kp b o λz=>q (.tail _ z)⟩ ?_);rw[Lp (by simp[*])]at g;exact g.at λo=>kp S o λz=>J (W.sub S z)
 |m+1,i,s,e,st,g,h=>by
  have hi:i<n:=by omega
  refine qu (W.item i s _ _ hi st λv h1 D pv U kp=>?_);obtain⟨t,rfl⟩:=Z i v pv;have b1:But wr s { s with heap:=h1,toks:=D }:=⟨h1,D,rfl,kp⟩;have l:(dd (xs.take i).reverse).length+1<scanBound:=by
   have:=dd_len (xs.take i).reverse;simp at this;omega
  refine add_int (g.at λo=>kp S o λz=>J (W.sub S z)) l λ_ s2 b2 g2 Y=>?_
  refine uf W J xs hn Z hb m _ s2 (by omega) (W.frame _ h1 _ U λb q o e'=>?_) ?_ λs3 b3 g3=>h s3 ?_ g3
  .rw[Y b λz=>J (z▸q)];exact e'
  .have:xs.take (i+1)=xs.take i++[xs.getD i 0]:=by
    simp_all
   rw[this,reverse_append];exact g2
  .exact(b1.on (b2.on b3 (by simp)) λb z=>.tail _ z)
end
section
variable{P:Program}{w:World}{A:Around}{E:Value->Shared->Prop}{s:Shared}
def fX(h:Q (byT w) s):wpAny (model P w) A setsByText Q E s:=
  hU (wpAny_askSetting (kv h))
noncomputable abbrev jI (w:World):Obj:={ cls:=.type "set",dict:=none,data:=.set #[] 0 (.fresh 0 0 (!byT w)) }
noncomputable abbrev a_(w:World)(s:Shared):Shared:={ s with heap:=s.heap.push (jI w) }
def Am (h:Q (.ref s.heap.objs.size) (a_ w s)):wpAny (model P w) A (newSet (.type "set")) Q E s:=by
 refine hU (fX ?_);exact hU (wpAny_alloc (kv h))
def xx(h:Heap):d5 P w (h.push (jI w)) h.objs.size []:=
 Arr.set (es:=#[]) (ep:=0) ⟨λe q=>by simp at q,by simp,nodup_nil,by decide,rfl,Gd.fresh _⟩ (pe _ rfl) ⟨rfl,rfl,rfl⟩ rfl
def An (x) {Q:Value->Shared->Prop} (h:Q (.ref s.heap.objs.size) (a_ w s)):codeAny (model P w) A (.call (.builtin "set.__new__") ⟨[.type "set",x],[]⟩) (wants Q E) s:=by
 refine codeAny_call_builtin PySem.F.plain_set_new PySem.F.entry_set_new (wpAny_of_eq (PySem.F.newCall_set_1 x) ?_);have cls:∀{R}{F},R (.type "set",[x]) s->wpAny (model P w) A.in1 (Builtin.Frozenset.newClass "set" ⟨[.type "set",x],[]⟩) R F s:=by
  intro R F hr;have q:=sub_set_self
  wp_walk
  exact hr
 exact hU (cls (hU (Am (kv h))))
def xy(x){Q:Value->Shared->Prop}
  (Z:∀B,B.handled=A.handled->wpAny (model P w) B (Builtin.Frozenset.updateFrom "set.__init__" s.heap.objs.size x) (λ_ s'=>Q (.ref s.heap.objs.size) s') E (a_ w s)) :
  wpAny (model P w) A (call (.type "set") [x]) Q E s:=by
 have q:(a_ w s).heap.get? s.heap.objs.size=some (jI w):=pe _ rfl;have init:codeAny (model P w) A.in1 (.call (.builtin "set.__init__") ⟨[.ref s.heap.objs.size,x],[]⟩) (wants (λr s'=>r=.none/\Q (.ref s.heap.objs.size) s') E) (a_ w s):=by
  refine codeAny_call_builtin PySem.F.called_set.init.plain PySem.F.entry_set_init (check_set_init_1 ⟨_,q,rfl⟩ ?_);have J:=Z A.in1.in1 (by simp);generalize hw:a_ w s=s1 at q J ⊢;generalize s.heap.objs.size=S at q J ⊢;obtain⟨hp,g,d,tk,os⟩:=s1;unfold Builtin.«set.__init__» noKeywords;generalize Builtin.Frozenset.updateFrom=U at J ⊢
  wp_walk
  exact Jj J (λ_ s' Y=>kv ⟨rfl,Y⟩) λ_ _ z=>z
 have D:=PySem.F.called_set;refine wpAny_call (codeAny_of_tree (kv ⟨Code.quiet_builtin _ (by decide +kernel),Ki PySem.F.entry_type_call ?_⟩));rw[Around.under_plain (weight_type_call_type "set" [x] []) rfl];have f1:=D.notType;have f2:=D.canCreate;have f3:=D.made;have f4:=D.sub
 have f5:=PySem.F.typeCall_set_1 x;refine lf D.mro λc tl f6=>?_
 repeat (any_goals (first|assumption|wp_step))
 refine Ka (An x (E:=E) (Q:=λv s'=>v=.ref s.heap.objs.size/\s'=a_ w s) ⟨rfl,rfl⟩) λr s1 hr=>?_
 match r,hr with
 | .error e,hr=>exact hr
 | .ok (.ret v),hr =>
  obtain⟨rfl,rfl⟩:=hr;have f7:Shared.TypeIs (a_ w s) (.ref s.heap.objs.size) "set":=⟨_,q,rfl⟩;have f8:=D.init.lookup;have f9:=D.init.bind (.ref s.heap.objs.size)
  repeat (any_goals (first|assumption|wp_step))
  refine Ka init λr s2 hr=>?_
  match r,hr with
  | .error e,hr=>exact hr
  | .ok (.ret v),hr =>
   obtain⟨rfl,Y⟩:=hr;show wpAny _ A.in1 (pure (some Value.none)) _ _ _;exact kv (kv Y)
def lK {o:Obj} (x:s.heap.get? l=some o) (hc:o.cls=.type q) (hd:(Value.type q==.type "dict")=false)
  (J:isSubtype (.type q) (.type "set")=pure false) (U:isSubtype (.type q) (.type "frozenset")=pure false)
  {ns:List Int}{Pv:Nat->Value->Prop}{St:Nat->Heap->Prop} (hv:∀i v,Pv i v->∃t,v=.int (ns.getD i 0) t) (D:ns.length+1<scanBound) {Y:Obj}
  (W:∀B,B.handled=A.handled->Walks P w B ((a_ w s).heap.objs.size) [(a_ w s).heap.objs.size,l] [(a_ w s).heap.objs.size] ns.length Pv St)
  (it:∀B E' R,R (.ref (a_ w s).heap.objs.size) { s with heap:=(a_ w s).heap.push Y }->wpAny (model P w) B (pyIter (.ref l)) R E' (a_ w s))
  (st:St 0 ((a_ w s).heap.push Y)) {Q:Value->Shared->Prop}
  (h:∀h' tk,d5 P w h' s.heap.objs.size (dd ns.reverse)->(∀b o,s.heap.get? b=some o->h'.get? b=some o)->Q (.ref s.heap.objs.size) { s with heap:=h',toks:=tk }) :
  wpAny (model P w) A (call (.type "set") [.ref l]) Q E s:=by
 have z1:(a_ w s).heap.objs.size=s.heap.objs.size+1:=Ja ..;have Z:∀b,b<s.heap.objs.size->b∉[s.heap.objs.size,(a_ w s).heap.objs.size]:=λb D=>by
  rw[z1];simp only[rb,JI,Kd,not_or];exact⟨IL D,IL (Ji D)⟩
 have kept:∀b o,s.heap.get? b=some o->((a_ w s).heap.push Y).get? b=some o:=λb o e=>i2 _ (i2 _ e)
 refine xy _ λB hB=>?_
 have hT:(a_ w s).TypeIs (.ref l) q:=⟨o,i2 _ x,hc⟩;refine hU (hU (Ke hT J ?_));refine Ke hT U ?_;rw[if_neg kn];refine hU (KJ hT ?_);rw[hd,if_neg kn];refine hU (it _ _ _ (hU (wpAny_runValue ?_)));have hS:s.heap.objs.size∉[(a_ w s).heap.objs.size,l]:=by
  have:=tr x;rw[z1];simp only[rb,JI,Kd,not_or];exact⟨IL (JK _),JH this⟩
 refine uf (W _ hB) hS ns rfl hv D ns.length 0 _ (Nat.add_comm _ _) st ((xx s.heap).at λo e=>i2 _ e) ?_;rintro s' ⟨h',tk,rfl,kp⟩ g;exact kv (h h' tk g λb o e=>kp b o (Z b (tr e)) (kept b o e))
def set_list 
  (D:A.handled=none) (hl:s.heap.IsList l items) (hi:IntsAre items.toList ns) (J:items.size+1<scanBound)
  (h:∀h' tk,d5 P w h' s.heap.objs.size (dd ns.reverse)->(∀b o,s.heap.get? b=some o->h'.get? b=some o)->Q (.ref s.heap.objs.size) { s with heap:=h',toks:=tk }) :
  wpAny (model P w) A (call (.type "set") [.ref l]) Q E s:=by
 have z:items.size=ns.length:=by simpa using IntsAre.length hi
 refine aM hl λo ho hc hr=>?_
 have q:(a_ w s).heap.IsList l items:=⟨o,i2 _ ho,hc,hr⟩;refine lK ho hc (by decide) PySem.F.sub_list_set PySem.F.sub_list_frozenset (ue hi) (z▸J) (λB U=>z▸Walks.list (U.trans D) _ l ?_ items)
  (λB Y R=>KP q) ⟨⟨_,pe _ rfl,rfl,rfl⟩,q.push _⟩ h
 exact IL (Nat.lt_of_lt_of_eq (Ji (tr ho)) (Ja ..).symm)
def vM 
  (D:A.handled=none) (hl:s.heap.IsTuple l items) (hi:IntsAre items.toList ns) (J:items.size+1<scanBound)
  (h:∀h' tk,d5 P w h' s.heap.objs.size (dd ns.reverse)->(∀b o,s.heap.get? b=some o->h'.get? b=some o)->Q (.ref s.heap.objs.size) { s with heap:=h',toks:=tk }) :
  wpAny (model P w) A (call (.type "set") [.ref l]) Q E s:=by
 have z:items.size=ns.length:=by simpa using IntsAre.length hi
 refine aM hl λo ho hc hr=>?_
 have q:(a_ w s).heap.IsTuple l items:=⟨o,i2 _ ho,hc,hr⟩;refine lK ho hc (by decide) PySem.F.sub_tuple_set PySem.F.sub_tuple_frozenset (ue hi) (z▸J) (λB U=>z▸Walks.tuple (U.trans D) _ l ?_ items)
  (λB Y R=>KG q) ⟨⟨_,pe _ rfl,rfl,rfl⟩,q.push _⟩ h
 exact IL (Nat.lt_of_lt_of_eq (Ji (tr ho)) (Ja ..).symm)
end
set_option maxRecDepth 100000 in
def lL:entryFor table "set.__iter__"=some Builtin.«frozenset.__iter__»:=
 entryFor_alias (id':="frozenset.__iter__") (by kernel_rfl) rfl (by decide +kernel) (by kernel_rfl)
set_option maxRecDepth 100000 in
def nH:Manifest.owners.lookup (String.ofList ['r','o','t','a','r','e','t','i','_','t','e','s'].reverse)=some Manifest.sig_set_iterator:=by kernel_rfl
set_option maxRecDepth 100000 in
def aN:Slot "set_iterator" "__next__" "set_iterator.__next__":=
 .of (owner:="set_iterator") (n:="__next__") (by rw[typeLookup_type,builtinLookup_eq_fast];kernel_rfl) (by decide +kernel) (by decide +kernel) (by decide +kernel)
  (by first|exact .inl (by decide +kernel)|exact .inr (by decide +kernel)) (by rw[isSubtype_type];kernel_rfl)
set_option maxRecDepth 100000 in
def c_:entryFor table "set_iterator.__next__"=some Builtin.«set_iterator.__next__»:=entryFor_of_tree (by kernel_rfl)
set_option maxRecDepth 100000 in
def dE (a):argsOk "set_iterator.__next__" ⟨[a],[]⟩:=by
 unfold argsOk;rw[signature?_of (n:=['_','_','t','x','e','n','_','_']) (by kernel_rfl) nH];kernel_rfl
set_option maxRecDepth 100000 in
def ip:Slot "set_iterator" "__iter__" "set_iterator.__iter__":=
 .of (owner:="set_iterator") (n:="__iter__") (by rw[typeLookup_type,builtinLookup_eq_fast];kernel_rfl) (by decide +kernel) (by decide +kernel) (by decide +kernel)
  (by first|exact .inl (by decide +kernel)|exact .inr (by decide +kernel)) (by rw[isSubtype_type];kernel_rfl)
set_option maxRecDepth 100000 in
def lM:entryFor table "set_iterator.__iter__"=some Builtin.«dict_keyiterator.__iter__»:=
 entryFor_alias (id':="dict_keyiterator.__iter__") (by kernel_rfl) rfl (by decide +kernel) (by kernel_rfl)
set_option maxRecDepth 100000 in
def mZ (a):argsOk "set_iterator.__iter__" ⟨[a],[]⟩:=by
 unfold argsOk;rw[signature?_of (n:=['_','_','r','e','t','i','_','_']) (by kernel_rfl) nH];kernel_rfl
def xz {s:Shared}{I:Addr}{Q:Value->Shared->Prop} (q:s.TypeIs (.ref I) "set_iterator") (h:Q (.ref I) s):wpAny (model P w) A (pyIter (.ref I)) Q E s:=by
 refine Lq q ip (Jg ip q lM ?_ (mZ _));exact kv ⟨_,rfl,"set_iterator",_,q,aN.lookup,h⟩
theorem iz{α:Type}:∀{l}{i}{x:α},l[i]?=some x->(x::l.eraseIdx i).Perm l
 | [],i,x,h=>by injection h
 |a::l,0,x,h=>by
  simp_all
 |a::l,i+1,x,h=>by
  have h':l[i]?=some x:=by simpa using h
  exact(Perm.swap a x _).trans (.cons a (iz h'))
theorem ug(next):∀q k left (out:Array α),q=left.length->(pickOrder.go next q k left out).toList.Perm (out.toList++left)
 |0,k,left,out,h=>by
  have:=JM.mp h.symm;subst this;rw[JW];exact .refl _
 |q+1,k,left,out,h=>by
  have hl:next k % left.length<left.length:=Nat.mod_lt _ (by omega);obtain⟨x,hx⟩:∃x,left[next k % left.length]?=some x:=⟨_,IP hl⟩;have e:pickOrder.go next (q+1) k left out=pickOrder.go next q (k+1) (left.eraseIdx (next k % left.length)) (out.push x):=by
   show(match left[next k % left.length]? with
    |some x=>pickOrder.go next q _ (left.eraseIdx _) _
    |none=>out)=_
   rw[hx]
  rw[e];refine(ug next q _ _ _ (by rw[length_eraseIdx_of_lt hl];omega)).trans ?_;rw[Array.toList_push,KN];exact Perm.append_left _ (iz hx)
def vN(next)(xs:Array α):(pickOrder next xs).toList.Perm xs.toList:=by
 have:=ug next xs.size 0 xs.toList #[] (by simp);exact this
section
variable{M:Model}{A:Around}{E:Value->Shared->Prop}{s:Shared}
def sr{n:Nat}{Q:Nat->Shared->Prop}(hn:n≠0)(h:∀i d',i<n->Q i { s with drawn:=d' }):wpAny M A (choose src n) Q E s:=λ_ _ _ =>
 ⟨hn,h _ _ (Nat.mod_lt _ (Nat.pos_of_ne_zero hn))⟩
theorem lN :∀n xs s {Q:List α->Shared->Prop},n=xs.length->(∀ys d',ys.Perm xs->Q ys { s with drawn:=d' })->wpAny M A (drawOrder n xs) Q E s
 |0,xs,s,Q,h,q=>by
  have:=JM.mp h.symm;subst this;exact kv (q [] s.drawn (.refl _))
 |n+1,[],s,Q,h,q=>by injection h
 |n+1,x::r,s,Q,h,q=>by
  refine hU (sr (by simp) λi d' hi=>?_);obtain⟨y,J⟩:∃y,(x::r)[i]?=some y:=⟨_,IP hi⟩;rw[J];refine hU (lN n _ _ (by rw[length_eraseIdx_of_lt hi];simp at h ⊢;omega) λys D U=>kv ?_);exact q (y::ys) D ((Perm.cons y U).trans (iz J))
end
def SIt(h:Heap)(I S:Addr)(o:Obj)(f:Value)(i n ep:Nat):Prop:=
 h.get? I=some { cls:=.type "set_iterator",dict:=none,data:=.fields #[f,.int i 0,.ref S,.int n 0,.int ep 0],slots:=#[] }/\h.get? S=some o
theorem SIt.type {s:Shared} (h:SIt s.heap I S o f i n ep):s.TypeIs (.ref I) "set_iterator":=⟨_,h.1,rfl⟩
section
variable{P:Program}{w:World}{A:Around}{E:Value->Shared->Prop}{s:Shared}
def fc(ho:s.heap.get? S=some o)(hd:o.data=.set es ep t)(q:t.fits es.size=true)(h:Q es s) :
  wpAny (model P w) A (setEntries S) Q E s:=wpAny_setEntries_of ho hd q h
def nI{ep slot i:Nat}{t:SetTable}{Q:Option (Value×Nat)->Shared->Prop}(ho:s.heap.get? S=some o)(hd:o.data=.set es ep t)(q:t.fits es.size=true)(D:byT w=true)
  (h:Q (((pickOrder (w.params.setOrder S ep) es)[i]?).map λe=>(e.2,slot)) s):wpAny (model P w) A (setNext S slot i ep) Q E s:=by
 refine hU (J5 ho hd q ?_);refine hU (fX ?_);rw[if_pos D];simp only[KS,Jw,KL];refine hU ?_;refine hU (J5 ho hd q ?_);refine hU (fX ?_);rw[if_pos D];refine hU (wpAny_askSetting (kv ?_));exact kv h
def lP{t:SetTable}{Q:Option (Value×Nat)->Shared->Prop}(ho:s.heap.get? S=some o)(hd:o.data=.set es ep t)(U:t.fits es.size=true)(Y:byT w=false)
  (D:(!t.plain&&decide (es.size > 1))=false) (q:t.led=true)
  (h:Q (match es[SetTable.below t.place slot]?,t.place[SetTable.below t.place slot]? with|some (_,x),some j=>some (x,j+1)|_,_=>none) s):wpAny (model P w) A (setNext S slot i ep) Q E s:=by
 refine hU (J5 ho hd U ?_);refine hU (fX ?_);rw[if_neg (by rw[Y];simp)];refine J3 (λJ=>absurd (show(!t.plain&&decide (es.size > 1))=true from J) (by rw[D];simp)) (λ_=>?_);refine hU ?_;show wpAny _ _ (if (!t.led&&!es.isEmpty)=true then _ else _) _ _ s;rw[if_neg (by rw[q];simp)];exact kv (kv h)
def xA(hr:kK xs)(hi:i<xs.size):SetTable.below xs (xs.getD i 0+1)=i+1:=by
 obtain⟨h1,h2,h3⟩:=iw hr _;have a:i<SetTable.below xs (xs.getD i 0+1):=by
  by_cases q:SetTable.below xs (xs.getD i 0+1)<=i
  .have:=h3 i q hi;omega
  .exact(Nat.lt_of_not_le ‹_›)
 have b:SetTable.below xs (xs.getD i 0+1)<=i+1:=by
  by_cases q:i+1<SetTable.below xs (xs.getD i 0+1)
  .have:=h2 _ q;have:=hr i (i+1) (pd _) (IK ‹_› ‹_›);omega
  .exact(K3 ‹_›)
 exact(Ju ‹_› ‹_›)
def su(xs)(hr:kK xs):SetTable.below xs 0=0:=by
 refine j_ (iw hr 0) λh1 h2 h3=>?_
 by_cases q:0<SetTable.below xs 0
 .have:=h2 0 q;omega
 .omega
end
section
variable{P:Program}{w:World}{A:Around}{E:Value->Shared->Prop}{s:Shared}{I S:Addr}{o:Obj}{es:Array (Int×Value)}{t:SetTable}{i n ep:Nat}
def m3{slot nx:Nat}{x:Value}{Q:Option Value->Shared->Prop}(q:SIt s.heap I S o (.int slot 0) i n ep)(hd:o.data=.set es ep t)(hf:t.fits es.size=true)(hn:es.size=n)(U:S≠I)
  (Y:∀A' s' Z E',s'.heap.get? S=some o->Z (some (x,nx)) s'->wpAny (model P w) A' (setNext S slot i ep) Z E' s')
  (hQ:∀h',SIt h' I S o (.int nx 0) (i+1) n ep->Heap.SameBut I s.heap h'->Q (some x) { s with heap:=h' }):wpAny (model P w) A (pyNext (.ref I)) Q E s:=by
 refine hU (K2 (Jq (name:=Str.ofString "__next__") q.type aN (Jg aN q.type c_ ?_ (dE _))));refine hU (m:=slotArgs "__next__" 0 _) (kv ?_);refine hU (Lb q.1 rfl ?_);dsimp only;refine hU (fc q.2 hd hf ?_);rw[if_neg (by simp[hn])]
 try dsimp only
 simp only[Int.toNat_natCast];refine hU (Y _ _ _ _ q.2 ?_);refine hU (J2 q.1 (by simp) λh1 e1 D=>?_);refine hU (J2 e1 (by simp) λh2 e2 J=>?_);refine kv ⟨x,rfl,kv (hQ h2 ⟨?_,?_⟩ (D.trans J))⟩
 .exact e2
 .exact((D.trans J).2 S U).trans q.2
def m4{slot:Nat}{Q:Option Value->Shared->Prop}(Y:A.handled=none)(D:SIt s.heap I S o (.int slot 0) i n ep)(hd:o.data=.set es ep t)(hf:t.fits es.size=true)(hn:es.size=n)
  (J:∀A' s' Z E',s'.heap.get? S=some o->Z none s'->wpAny (model P w) A' (setNext S slot i ep) Z E' s')
  (hQ:∀h',(∀b o,b≠I->s.heap.get? b=some o->h'.get? b=some o)->Q none { s with heap:=h' }):wpAny (model P w) A (pyNext (.ref I)) Q E s:=by
 refine hU (K2 (Jq (name:=Str.ofString "__next__") D.type aN (Jg aN D.type c_ ?_ (dE _))));refine hU (m:=slotArgs "__next__" 0 _) (kv ?_);refine hU (Lb D.1 rfl ?_);dsimp only;refine hU (fc D.2 hd hf ?_);rw[if_neg (by simp[hn])]
 try dsimp only
 simp[Int.toNat_natCast];refine hU (J _ _ _ _ D.2 ?_);refine hU (J2 D.1 (by simp) λh1 e1 U=>?_);refine jH (v:=.none) (vs:=#[]) (it:=0) (Q:=λ_ _=>True) (by first|exact Y|simpa using Y) λe s' kp ⟨h',eq⟩ hT=>?_
 subst eq;refine hU (Ke hT isSubtype_stop ?_);exact kv (hQ h' λb o hb q=>kp b o ((U.2 b hb).trans q))
def lQ{pn place:Nat}{pt:Tok}{hx:Int}{x:Value}{Q:Option Value->Shared->Prop}(q:SIt s.heap I S o (.ref Tp) i n ep)(hd:o.data=.set es ep t)(hf:t.fits es.size=true)(hn:es.size=n)(J:S≠I)
  (U:s.heap.get? Tp=some ot) (Y:ot.data=.seq ps pn) (hp:ps[i]?=some (.int place pt)) (Z:es[place]?=some (hx,x))
  (hQ:∀h',SIt h' I S o (.ref Tp) (i+1) n ep->Heap.SameBut I s.heap h'->Q (some x) { s with heap:=h' }):wpAny (model P w) A (pyNext (.ref I)) Q E s:=by
 refine hU (K2 (Jq (name:=Str.ofString "__next__") q.type aN (Jg aN q.type c_ ?_ (dE _))));refine hU (m:=slotArgs "__next__" 0 _) (kv ?_);refine hU (Lb q.1 rfl ?_);dsimp only;refine hU (fc q.2 hd hf ?_);rw[if_neg (by simp[hn])]
 try dsimp only
 refine hU (wpAny_seqItems U Y ?_);simp only[Int.toNat_natCast,hp];refine hU ?_;refine hU (J5 q.2 hd hf ?_);simp only[KS,Jw,KL,Int.toNat_natCast,Z];refine kv ?_;refine hU (J2 q.1 (by simp) λh1 e1 D=>?_);refine kv ⟨x,rfl,kv (hQ h1 ⟨?_,?_⟩ D)⟩
 .exact e1
 .exact(D.2 S J).trans q.2
def lR(hh:A.handled=none)(D:SIt s.heap I S o (.ref Tp) i n ep)(hd:o.data=.set es ep t)(hf:t.fits es.size=true)(hn:es.size=n)
  (J:s.heap.get? Tp=some ot) (U:ot.data=.seq ps pn) (hp:ps[i]?=none)
  (hQ:∀h',(∀b o,b≠I->s.heap.get? b=some o->h'.get? b=some o)->Q none { s with heap:=h' }):wpAny (model P w) A (pyNext (.ref I)) Q E s:=by
 refine hU (K2 (Jq D.type aN (Jg aN D.type c_ ?_ (dE _))));refine hU (kv ?_);refine hU (Lb D.1 rfl ?_);dsimp only;refine hU (fc D.2 hd hf ?_);rw[if_neg (by simp[hn])]
 try dsimp only
 refine hU (wpAny_seqItems J U ?_);simp[Int.toNat_natCast,hp];refine hU (J2 D.1 (by simp) λh1 e1 Y=>?_);refine hU (J2 e1 (by simp) λh2 e2 Z=>?_);refine jH (v:=.none) (vs:=#[]) (it:=0) (Q:=λ_ _=>True) (by first|exact hh|simpa using hh) λe s' kp ⟨h',eq⟩ hT=>?_
 subst eq;refine hU (Ke hT isSubtype_stop ?_);exact kv (hQ h' λb o hb q=>kp b o (((Y.trans Z).2 b hb).trans q))
end
def xB(xs:List Value):(range xs.length).map (λi=>xs.getD i .none)=xs:=by
 apply ext_getElem?;intro i;by_cases q:i<xs.length
 .simp_all
 .simp_all
structure lS(P:Program)(w:World)(I:Addr)(fp:List Addr)(order:List Value)(St:Nat->Heap->Prop):Prop where
 mem:I∈fp
 ty:∀i h,St i h->∃o,h.get? I=some o/\o.cls=.type "set_iterator"
 frame:∀i h h',St i h->(∀b∈fp,∀o,h.get? b=some o->h'.get? b=some o)->St i h'
 item:∀(A:Around) i (s:Shared) (Q:Option Value->Shared->Prop) (E:Value->Shared->Prop),i<order.length->St i s.heap ->
  (∀h',St (i+1) h'->(∀b o,b≠I->s.heap.get? b=some o->h'.get? b=some o)->Q (some (order.getD i .none)) { s with heap:=h' })->wpAny (model P w) A (pyNext (.ref I)) Q E s
 done:∀(A:Around) (s:Shared) (Q:Option Value->Shared->Prop) (E:Value->Shared->Prop),A.handled=none->St order.length s.heap ->
  (∀h',(∀b o,b≠I->s.heap.get? b=some o->h'.get? b=some o)->Q none { s with heap:=h' })->wpAny (model P w) A (pyNext (.ref I)) Q E s
def lS.walks{St:Nat->Heap->Prop}(W:lS P w I fp order St)(U:A.handled=none) :
  Walks P w A I fp [I] order.length (λi v=>v=order.getD i .none) St where
 sub:=λb q=>by rw[IS.mp q];exact W.mem
 frame:=W.frame
 item:=λi s Q E hi st D=>W.item A i s Q E hi st λh' J kp=>D _ h' s.toks rfl J λb o q e=>kp b o (λz=>q (by rw[z];exact IS.mpr rfl)) e
 done:=λs Q E st D=>W.done A s Q E U st λh' kp=>D h' s.toks λb o q e=>kp b o (λz=>q (by rw[z];exact IS.mpr rfl)) e
 self:=λi s Q E st h=>by
  refine ae (W.ty i _ st) λo e c=>?_
  exact xz ⟨o,e,c⟩ h
section
variable{P:Program}{w:World}{A:Around}{E:Value->Shared->Prop}{s:Shared}
def iZ{l:List (Int×Value)}(h:l[i]?=some e):(l.map λe=>e.2).getD i .none=e.2:=by simp_all
set_option maxRecDepth 100000 in
def xC(ho:s.heap.get? S=some o)(cP:o.ExactSet)(hd:o.data=.set es ep t)(Z:es.size<scanBound)(hf:t.fits es.size=true)(hl:t.led=!byT w)(ck:kK t.place)
  (hQ:∀(I:Addr) h' d' fp J St,J.Perm (es.toList.map λe=>e.2)->(∀b o,s.heap.get? b=some o->h'.get? b=some o)->s.heap.objs.size<=I->(∀b∈fp,b=S\/s.heap.objs.size<=b)->(∀b∈fp,b<h'.objs.size) ->
   lS P w I fp J St->St 0 h'->Q (.ref I) { s with heap:=h',drawn:=d' }):wpAny (model P w) A (pyIter (.ref S)) Q E s:=by
 have hT:s.TypeIs (.ref S) "set":=⟨o,ho,cP.1⟩;have a0:=tr ho;have cS:t.place.size=es.size:=by simp[SetTable.fits]at hf;exact hf.1
 refine Lq hT PySem.F.slot_set_iter (Jg PySem.F.slot_set_iter hT lL ?_ (PySem.F.args_set_iter_1 _));refine hU (m:=Builtin.Frozenset.slot0 "__iter__" _) (kv ?_);refine hU (m:=Builtin.Frozenset.sizeOf S) (hU (fc ho hd hf (kv ?_)));refine hU (m:=setDrawn S) ?_;refine hU (J5 ho hd hf ?_);dsimp only;refine hU (fX (kv ?_));have Y:∀(J:List (Int×Value)) (fs:Nat->Nat),J.Perm es.toList->fs 0=0 ->
   (∀A' i (s':Shared) (Q':Option (Value×Nat)->Shared->Prop) (E':Value->Shared->Prop) e,J[i]?=some e->s'.heap.get? S=some o->Q' (some (e.2,fs (i+1))) s'->wpAny (model P w) A' (setNext S (fs i) i ep) Q' E' s') ->
   (∀A' s' Q' E',s'.heap.get? S=some o->Q' none s'->wpAny (model P w) A' (setNext S (fs J.length) J.length ep) Q' E' s') ->
   Q (.ref s.heap.objs.size) { s with heap:=s.heap.push { cls:=.type "set_iterator",data:=.fields #[.int 0 0,.int 0 0,.ref S,.int (es.size:Nat) 0,.int (ep:Nat) 0] } }:=by
  intro J fs hp h0 b0 cl;have c5:J.length=es.size:=by have:=hp.length_eq;simpa using this
  refine hQ s.heap.objs.size _ s.drawn [s.heap.objs.size,S] (J.map λe=>e.2) (λi h=>SIt h s.heap.objs.size S o (.int (fs i) 0) i es.size ep) (hp.map _) (λb o e=>i2 _ e) (pd _) (λb Z=>?_) (λb Z=>?_) ?_ ?_
  .rcases rb.mp Z with e|e
   .exact .inr (JZ e.symm)
   .exact .inl (IS.mp e)
  .rw[Ja];rcases rb.mp Z with e|e
   .rw[e];exact JK _
   .rw[IS.mp e];exact Ji a0
  .refine⟨.head _,λi h st=>⟨_,st.1,rfl⟩,λi h h' st k=>⟨k _ (.head _) _ st.1,k _ (.tail _ (.head _)) _ st.2⟩,λA' i s' Q' E' hi st hq=>?_,λA' s' Q' E' hh st hq=>?_⟩
   .rw[ox]at hi;obtain⟨e,he⟩:∃e,J[i]?=some e:=⟨_,IP hi⟩;rw[iZ he]at hq;refine m3 (slot:=fs i) (nx:=fs (i+1)) (x:=e.2) st hd hf rfl (IL a0) (λb1 b2 b3 b4 a4 q=>b0 b1 i b2 b3 b4 e he a4 q) λh' b5 sb=>?_
    exact hq h' b5 λb o Z q=>(sb.2 b Z).trans q
   .rw[ox]at st;exact m4 (slot:=fs J.length) hh st hd hf rfl (λb1 b2 b3 b4 a4 q=>cl b1 b2 b3 b4 a4 q) hq
  .refine⟨?_,i2 _ ho⟩;rw[h0];exact pe _ rfl
 cases a5:byT w with
 |true =>
  simp only[Bool.not_true,La,Jw,KL];refine hU (kv ?_);refine hU (Lr ho hd hf ?_);refine hU (Jo (kv ⟨_,rfl,"set_iterator",_,⟨_,pe _ rfl,rfl⟩,aN.lookup,?_⟩));have q:=Y (pickOrder (w.params.setOrder S ep) es).toList (λ_=>0) (vN _ _) rfl
   (λA' i s' Q' E' e he aL q=>nI aL hd hf a5 (by rw[<- JL,he];exact q))
   (λA' s' Q' E' aL q=>nI aL hd hf a5 (by rw[KZ (by simp)];exact q))
  simpa[rawInt]using q
 |false =>
  cases bB:(!t.plain&&decide (es.size > 1))with
  |false =>
   refine J3 (λcd=>absurd (show(!false&&(!t.plain&&decide (es.size > 1)))=true from cd) (by rw[bB];simp)) (λ_=>?_);refine hU (kv ?_);refine hU (Lr ho hd hf ?_);refine hU (Jo (kv ⟨_,rfl,"set_iterator",_,⟨_,pe _ rfl,rfl⟩,aN.lookup,?_⟩));have bT:t.led=true:=by rw[hl,a5];rfl
   have cC:∀i,i<=t.place.size->SetTable.below t.place (match i with|0=>0|j+1=>t.place.getD j 0+1)=i:=λi hi=>by
    cases i<;>first|exact su _ ck|exact xA ck ‹_›
   have q:=Y es.toList (λi=>match i with|0=>0|j+1=>t.place.getD j 0+1) (.refl _) rfl
    (λA' i s' Q' E' e he aL q=>lP aL hd hf a5 bB bT (by
     have hi:i<es.size:=by have:=(vp.mp he).1;simpa using this
     rw[cC i (by omega)];rw[<- JL,he,KA (by omega:i<t.place.size)];have e2:t.place.getD i 0=t.place[i]:=by simp[Array.getD,(by omega:i<t.place.size)]
     dsimp only at q ⊢;rw[e2]at q;exact q))
    (λA' s' Q' E' aL q=>lP aL hd hf a5 bB bT (by
     rw[cC _ (by simp[cS]),KZ (by simp)];exact q))
   simpa[rawInt]using q
  |true =>
   refine J3 (λ_=>?_) (λcd=>absurd (show(!false&&(!t.plain&&decide (es.size > 1)))=true by rw[bB];rfl) cd);refine hU (lN _ _ _ (by simp) λD d' U=>?_);refine hU (wpAny_newTuple ?_ (by simp;have:=U.length_eq;simp at this;rw[this,Jl];unfold scanBound at Z;omega));refine hU (Lr (i2 _ ho) hd hf ?_);refine hU (Jo (kv ⟨_,rfl,"set_iterator",_,⟨_,pe _ rfl,rfl⟩,aN.lookup,?_⟩));have c7:D.length=es.size:=by have:=U.length_eq;simpa using this
   have hat:∀p∈D,p<es.size:=λp hp=>by have:=U.mem_iff.mp hp;simpa using this
   have c1:((s.heap.push { cls:=.type "tuple",data:=.seq (map (λ(i:Nat)=>rawInt i) D).toArray }).push { cls:=.type "set_iterator",data:=.fields #[.ref s.heap.objs.size,.int 0 0,.ref S,.int (es.size:Nat) 0,.int (ep:Nat) 0] }).get? s.heap.objs.size=some { cls:=.type "tuple",data:=.seq (map (λ(i:Nat)=>rawInt i) D).toArray }:=
    i2 _ (pe _ rfl)
   have q:=hQ (s.heap.push { cls:=.type "tuple",data:=.seq (map (λ(i:Nat)=>rawInt i) D).toArray }).objs.size
    ((s.heap.push { cls:=.type "tuple",data:=.seq (map (λ(i:Nat)=>rawInt i) D).toArray }).push { cls:=.type "set_iterator",data:=.fields #[.ref s.heap.objs.size,.int 0 0,.ref S,.int (es.size:Nat) 0,.int (ep:Nat) 0] }) d'
    [(s.heap.push { cls:=.type "tuple",data:=.seq (map (λ(i:Nat)=>rawInt i) D).toArray }).objs.size,S,s.heap.objs.size]
    (D.map λp=>(es.toList.map λe=>e.2).getD p .none)
    (λi h=>SIt h (s.heap.push { cls:=.type "tuple",data:=.seq (map (λ(i:Nat)=>rawInt i) D).toArray }).objs.size S o (.ref s.heap.objs.size) i es.size ep/\h.get? s.heap.objs.size=some { cls:=.type "tuple",data:=.seq (map (λ(i:Nat)=>rawInt i) D).toArray })
    ?p1 (λb o e=>i2 _ (i2 _ e)) (by rw[Ja];exact JO _) ?p2 ?p3 ?p4 ⟨⟨pe _ rfl,i2 _ (i2 _ ho)⟩,c1⟩
   .exact q
   case p1 =>
    have e1:(es.toList.map λe=>e.2).length=es.size:=by simp
    have h1:=U.map λp=>(es.toList.map λe=>e.2).getD p .none
    rw[<- e1,xB]at h1;exact h1
   case p2 =>
    intro b Z;simp only[rb,JI,Kd]at Z;rcases Z with e|e|e
    .exact .inr (by rw[e,Ja];exact JO _)
    .exact .inl e
    .exact .inr (JZ e.symm)
   case p3 =>
    intro b Z;rw[Ja];simp only[rb,JI,Kd]at Z;rcases Z with e|e|e
    .rw[e];exact JK _
    .rw[e,Ja];exact Ji (Ji a0)
    .rw[e,Ja];exact Ji (JK _)
   case p4 =>
    refine⟨.head _,λi h st=>⟨_,st.1.1,rfl⟩,λi h h' st k=>⟨⟨k _ (.head _) _ st.1.1,k _ (.tail _ (.head _)) _ st.1.2⟩,k _ (.tail _ (.tail _ (.head _))) _ st.2⟩,λA' i s' Q' E' hi st hq=>?_,λA' s' Q' E' hh st hq=>?_⟩
    .rw[ox]at hi;obtain⟨p,hp⟩:∃p,D[i]?=some p:=⟨_,IP hi⟩;have c2:=hat p (JR hp);obtain⟨e,he⟩:∃e,es.toList[p]?=some e:=⟨_,IP c2⟩;have e3:(D.map λp=>(es.toList.map λe=>e.2).getD p .none).getD i .none=e.2:=by
      rw[getD_eq_getElem?_getD,IY,hp];exact iZ he
     rw[e3]at hq;refine lQ (place:=p) (pt:=0) (hx:=e.1) (x:=e.2) st.1 hd hf rfl (by rw[Ja];exact IL (Ji a0)) st.2 rfl (by simp[hp,rawInt]) (by rw[<- JL,he]) λh' b5 sb=>?_
     exact hq h' ⟨b5,(sb.2 _ (by rw[Ja];exact IL (JK _))).trans st.2⟩ λb o Z q=>(sb.2 b Z).trans q
    .rw[ox]at st;exact lR hh st.1 hd hf rfl st.2 rfl (by simp) hq
def xD (J:s.TypeIs (.ref r) "set") (h:Q false s):wpAny (model P w) A (Builtin.List.listLengthHint (.ref r)) Q E s:=by
 refine hU (wpAny_specialOf J PySem.F.slot_set_len.lookup ?_);generalize D:("set.__len__":String)=U
 wp_delta
 rw[show splitId U=some ("set","__len__")from by subst D;decide +kernel];subst D;refine hU (Ke (T:="set") (b:=true) J (by rw[isSubtype_type];kernel_rfl) ?_);refine J3 (λq=>absurd q (by decide)) (λ_=>?_);refine J3 (λ_=>?_) (λq=>absurd (by decide +kernel) q);refine hU (KJ J ?_);exact kv h
end
def m5(h:ItemsOf (λi v=>v=order.getD i .none) acc order.length):acc.toList=order:=by
 obtain⟨hz,D⟩:=h;refine ext_getElem? λi=>?_
 by_cases q:i<order.length
 .have J:i<acc.size:=by exact(by simp[*])
  have:=D i acc[i] (KA J)
  simp_all
 .simp_all
section
variable{P:Program}{w:World}{A:Around}{E:Value->Shared->Prop}{s:Shared}
set_option maxRecDepth 100000 in
def qv(hh:A.handled=none)(ho:s.heap.get? S=some o)(a2:o.ExactSet)(hd:o.data=.set es ep t)(Z:es.size<scanBound)(hf:t.fits es.size=true)(hl:t.led=!byT w)(b1:kK t.place)
  (h:∀h' tk d' a3,(∀b o,s.heap.get? b=some o->h'.get? b=some o)->a3.Perm (es.toList.map λe=>e.2)->R a3 { s with heap:=h',toks:=tk,drawn:=d' }) :
  wpAny (model P w) A (collect (.ref S)) R E s:=by
 have J:=tr ho;refine hU (wpAny_runValue (Ki entry_proto_collect' ?_));rw[J8 PySem.F.plain_proto_collect _];refine hU (Jo ?_);refine kv ⟨Ku PySem.F.plain_list_iadd _,Ki entry_list_iadd' ?_⟩;rw[J8 PySem.F.plain_list_iadd _];have b2:(s.heap.push { cls:=.type "list",data:=.seq ([]:List Value).toArray }).get? s.heap.objs.size=some { cls:=.type "list",data:=.seq #[] }:=pe _ rfl;show wpAny _ A.in1 (Builtin.List.listExtendWith (.ref s.heap.objs.size) (.ref S) (.ref s.heap.objs.size)) _ _ _;have a4:(s.heap.push { cls:=.type "list",data:=.seq ([]:List Value).toArray }).get? S=some o:=i2 _ ho;have hT:Shared.TypeIs { s with heap:=s.heap.push { cls:=.type "list",data:=.seq ([]:List Value).toArray } } (.ref S) "set":=⟨o,a4,a2.1⟩;refine hU (KJ (T:="set") hT ?_);have q1:Builtin.List.listSameRef (.ref s.heap.objs.size) (.ref S)=false:=by simp[Builtin.List.listSameRef,JH J]
 have q2:(Value.type "set" == Value.type "list")=false:=by decide
 have q3:(Value.type "set" == Value.type "tuple")=false:=by decide
 simp only[q1,q2,q3,Bool.or_false,Jw,KL];refine hU (xC a4 a2 hd Z hf hl b1 λI h1 d1 fp D St U kp hI b3 c7 W st=>?_);have a5:(s.heap.push { cls:=.type "list",data:=.seq ([]:List Value).toArray }).objs.size=s.heap.objs.size+1:=Ja ..;have a6:s.heap.objs.size∉fp:=λhm=>by
  rcases b3 _ hm with e|e
  .exact Jm _ (by rw[<- e]at J;exact J)
  .dsimp only at e;rw[a5]at e;exact Nat.not_succ_le_self _ e
 have b4:D.length<=sizeLine:=by
  have:=U.length_eq;rw[this,ox,Array.length_toList];exact fits_of_scanBound Z
 have b5:Shared.TypeIs { s with heap:=h1,drawn:=d1 } (.ref S) "set":=by
  refine ae hT λo e c=>?_
  exact⟨o,kp S o e,c⟩
 refine hU (JJ (xD b5 ?_));have WS:=(W.walks (A:=A.in1) (by first|exact hh|simpa using hh)).toS;have fin:∀h2 c1,St 0 h2->(∀b o,b≠s.heap.objs.size->h1.get? b=some o->h2.get? b=some o)->h2.get? s.heap.objs.size=some { cls:=.type "list",dict:=none,data:=.seq #[] c1,slots:=#[] } ->
   codeAny (model P w) A (.builtin "list.extend.loop" ⟨[.ref s.heap.objs.size,.ref I,.ref s.heap.objs.size],[]⟩)
    (λr s'=>∃h' tk q c',r=.ok (.ret (.ref s.heap.objs.size))/\s'={ s with heap:=h',toks:=tk,drawn:=d1 }/\(∀b o,s.heap.get? b=some o->h'.get? b=some o) /\
     h'.get? s.heap.objs.size=some { cls:=.type "list",dict:=none,data:=.seq q c',slots:=#[] }/\q.toList=D) { s with heap:=h2,drawn:=d1 }:=by
  intro h2 c1 ck k2 Y;refine codeAny_extend_loopS WS b4 s.heap.objs.size a6 _ D.length 0 _ #[] c1 rfl (IW _) ck Y (ItemsOf.nil _) λs' q c' hm ao bt=>?_
  refine⟨s'.heap,s'.toks,q,c',rfl,(by
   obtain⟨h',g',cl,df,cC⟩:=s';have eg:g'=s.gens:=hm.gens;have ed:cl=d1:=hm.drawn;have eo:cC=s.os:=hm.os;subst eg;subst ed;subst eo;rfl),λb o e=>?_,ao,m5 bt⟩
  have bB:=IL (tr e);refine hm.heap b o (λbR=>?_) (k2 b o bB (kp b o (i2 _ e)));rcases rb.mp bR with z|z
  .exact bB z
  .have cL:=IS.mp z;rw[cL]at e;have bT:=hI;rw[a5]at bT;exact absurd (x1 (tr e) (Km bT)) (Jm _)
 have done:∀r s',(∃h' tk q c',r=.ok (.ret (.ref s.heap.objs.size))/\s'={ s with heap:=h',toks:=tk,drawn:=d1 }/\(∀b o,s.heap.get? b=some o->h'.get? b=some o) /\
     h'.get? s.heap.objs.size=some { cls:=.type "list",dict:=none,data:=.seq q c',slots:=#[] }/\q.toList=D) ->
   wants (λv s'=>wpAny (model P w) A (match v with
    |Value.ref a=>do
     match (<- load a).data with
      |Data.seq xs _=>pure xs.toList
      | _=>unsupported "internal:collect"
    | _=>unsupported "internal:collect") R E s') E r s':=by
  rintro r s' ⟨h',tk,q,c',rfl,rfl,k',ao,hi⟩;refine hU (wpAny_load ao ?_);exact kv (h h' tk d1 q.toList k' (by rw[hi];exact U))
 have aL:=kp _ _ b2;refine J3 (λ_=>?_) (λ_=>kv ⟨Ku PySem.F.plain_extend_loop _,Ka (fin h1 0 st (λ_ _ _ e=>e) aL) done⟩);refine hU (K7 ?_);refine hU ?_;refine hU (K9 aL rfl ?_);have Y:=JD (Obj.mapSeq (·.push Value.none)) aL rfl;refine K9 (hz:=by seq_fits) Y rfl ?_;have cP:=JD (Obj.mapSeq (·.pop)) Y rfl;refine kv ⟨Ku PySem.F.plain_extend_loop _,Ka (fin _ _ ?_ (λb o Z e=>?_) cP) done⟩
 .refine W.frame 0 _ _ st λb Z o e=>?_
  have b0:b≠s.heap.objs.size:=λz=>a6 (z▸Z)
  exact(JA _ _ (Jk b0)).trans ((JA _ _ (Jk b0)).trans e)
 .exact(JA _ _ (Jk Z)).trans ((JA _ _ (Jk Z)).trans e)
end
def qw{s:Shared}{S:Addr}{ks:List Int}{R:List Value->Shared->Prop}(hh:A.handled=none)(g:d5 P w s.heap S ks)
  (h:∀h' tk d' q D,(∀b o,s.heap.get? b=some o->h'.get? b=some o)->D.Perm ks->IntsAre q D->R q { s with heap:=h',toks:=tk,drawn:=d' }) :
  wpAny (model P w) A (collect (.ref S)) R E s:=by
 refine bY λZq kq=>?_
 obtain⟨o,es,ep,t,ho,Y,hd,Z,ao,a3,hb,hf,J⟩:=g;refine kq ?_;refine qv hh ho Y hd hb hf J.led J.rise λh' tk d' q kp hp=>h h' tk d' q (q.map numOf) kp ((hp.map numOf).trans (by rw[IZ];exact ao)) ?_
 have key:∀l,(∀v∈l,∃t,v=.int (numOf v) t)->IntsAre l (l.map numOf):=λl=>by
  induction l with
  |nil=>exact λ_=>.nil
  |cons v l ih =>
   intro U;obtain⟨t,e⟩:=U v (.head _);have:=IntsAre.cons (numOf v) t (ih λu hu=>U u (.tail _ hu));rw[<- e]at this;exact this
 refine key q λv U=>?_
 refine ae (mem_map.mp (hp.mem_iff.mp U)) λe he aL=>?_
 subst aL;exact nG Z e he
end L2.St
namespace L2
open PySem PySem.Spec PyProof.Rows List Option
noncomputable def m6(scope osc:Scope):Scope:=
 { scope with names:=scope.names.map λ(n,k)=>if (k==.free&&osc.kind==.function&&osc.names.lookup n==some .cell)then(n,.cell)else(n,k) }
noncomputable def m7(osc:Scope)(n:Str)(k:NameKind):NameKind:=if (k==.free&&osc.kind==.function&&osc.names.lookup n==some .cell)then .cell else k
def iA(scope osc):(m6 scope osc).names=scope.names.map λq=>(q.1,m7 osc q.1 q.2):=by
 refine J9 λq _=>?_
 obtain⟨n,k⟩:=q;show(if _=true then _ else _)=(n,m7 osc n k);unfold m7;split<;>rfl
theorem fA{α D:Type}(g:Str->α->D)(y):∀names:List (Str×α),(names.map λq=>(q.1,g q.1 q.2)).lookup y=(names.lookup y).map (g y)
 | []=>rfl
 | (n,k)::r=>by
  cases hx:y==n with
  |true =>
   simp[lookup_cons,hx,map_some];rw[eq_of_beq hx]
  |false =>
   simp[lookup_cons,hx];exact fA g y r
def vO(osc)(n):m7 osc n .free=.cell\/m7 osc n .free=.free:=by
 unfold m7;split
 .exact .inl rfl
 .exact .inr rfl
def vP(q:k≠.cell)(h:m7 osc n k=.cell\/m7 osc n k=.free):k=.free:=by
 unfold m7 at h;by_cases hc:(k==NameKind.free&&osc.kind==.function&&osc.names.lookup n==some .cell)=true
 .simp_all
 .simp_all
theorem iB{α:Type}{k:α}:∀{l:List (Str×α)},l.lookup y=some k->(y,k)∈l
 | [],h=>by injection h
 | (n,q)::r,h=>by
  cases hx:y==n with
  |true =>
   simp only[lookup_cons,hx]at h;rw[eq_of_beq hx,x2 h];exact .head _
  |false =>
   simp[lookup_cons,hx]at h;exact .tail _ (iB h)
def vQ(h:scope.names.lookup y=some .free):(m6 scope osc).names.lookup y=some .cell\/(m6 scope osc).names.lookup y=some .free:=by
 rw[iA,fA,h,map_some];rcases vO osc y with e|e
 .exact .inl (by rw[e])
 .exact .inr (by rw[e])
def vR(hn:∀z∈scope.names,z.2=.cell->z.1=x)(h:(m6 scope osc).names.lookup y=some .cell\/(m6 scope osc).names.lookup y=some .free):(y,NameKind.free)∈scope.names\/(y=x/\scope.names.lookup x=some .cell):=by
 rw[iA,fA]at h;cases e:scope.names.lookup y with
 |none=>rw[e]at h;rcases h with h|h<;>exact aP h
 |some k =>
  rw[e,map_some]at h;have hm:=iB e;by_cases hc:k=.cell
  .subst hc;have q:=hn _ hm rfl;exact .inr ⟨q,by rw[<- q];exact e⟩
  .have D:=vP hc (h.elim (λz=>.inl (x2 z)) λz=>.inr (x2 z));rw[D]at hm;exact .inl hm
def vS(h:scope.names.lookup y=some .cell):(m6 scope osc).names.lookup y=some .cell:=by
 rw[iA,fA,h,map_some];unfold m7;split
 .rfl
 .rfl
noncomputable def fM(env:Env):List (Str×NameKind)->List (Str×Addr)->List (Str×Addr)
 | [],acc=>acc
 | (n,k)::r,acc=>if k==.free then fM env r ((n,(env.cells.lookup n).getD 0)::acc)else fM env r acc
theorem jJ :∀names q,(∀y∈names,y.2=.free->∃c,env.cells.lookup y.1=some c) ->
  (forIn names q λx r=>(match x with|(name,kind)=>if (kind==NameKind.free)=true then do let c <- cellOf env name;pure (ForInStep.yield ((name,c)::r))else pure (ForInStep.yield r)):Sem (List (Str×Addr)))=pure (fM env names q)
 | [],q,_=>rfl
 | (n,k)::r,q,h=>by
  rw[forIn_cons];have hr:∀y∈r,y.2=.free->∃c,env.cells.lookup y.1=some c:=λy J=>h y (.tail _ J)
  by_cases D:(k==NameKind.free)=true
  .obtain⟨c,hc⟩:=h (n,k) (.head _) (eq_of_beq D);dsimp only;rw[if_pos D];have U:cellOf env n=pure c:=by unfold cellOf;rw[hc]
   rw[U];simp only[pure_bind];rw[jJ r _ hr];show _=pure (if _=true then _ else _);rw[if_pos D,hc]
   all_goals rfl
  .dsimp only;rw[if_neg D];simp only[pure_bind];rw[jJ r _ hr];show _=pure (if _=true then _ else _);rw[if_neg D]
def lT(h:∀y∈scope.names,y.2=.free->∃c,env.cells.lookup y.1=some c):closureFor scope env=pure (fM env scope.names []):=by
 unfold closureFor;have:=jJ scope.names [] h
 first
  | exact this
  | (rw[bind_pure];exact this)
  | simpa using this
theorem lU :∀names D,(∀z∈names,z.2=.free->∃c,env.cells.lookup z.1=some c)->(∀c,D.lookup y=some c->env.cells.lookup y=some c) ->
  (fM env names D).lookup y=some c->env.cells.lookup y=some c
 | [],D,_,J,e=>J c e
 | (n,k)::r,D,h,J,e=>by
  have hr:∀y∈r,y.2=.free->∃c,env.cells.lookup y.1=some c:=λy Z=>h y (.tail _ Z)
  have U:(if (k==NameKind.free)=true then fM env r ((n,(env.cells.lookup n).getD 0)::D)else fM env r D).lookup y=some c:=e;by_cases Y:(k==NameKind.free)=true
  .rw[if_pos Y]at U;refine lU r _ hr (λc' q=>?_) U;cases hx:y==n with
   |true =>
    obtain⟨c0,aL⟩:=h (n,k) (.head _) (eq_of_beq Y)
    simp_all
   |false =>
    simp[lookup_cons,hx]at q;exact J c' q
  .rw[if_neg Y]at U;exact lU r _ hr J U
theorem i3 :∀names q,((y,NameKind.free)∈names\/∃c,q.lookup y=some c)->∃c,(fM env names q).lookup y=some c
 | [],q,h=>by
  rcases h with h|h
  .simp at h
  .exact h
 | (n,k)::r,q,h=>by
  show ∃c,(if (k==NameKind.free)=true then fM env r ((n,(env.cells.lookup n).getD 0)::q)else fM env r q).lookup y=some c;by_cases D:(k==NameKind.free)=true
  .rw[if_pos D];refine i3 r _ ?_;cases hx:y==n with
   |true=>exact .inr ⟨(env.cells.lookup n).getD 0,by simp[lookup_cons,hx]⟩
   |false =>
    rcases h with h|⟨c,h⟩
    .simp_all
    .exact .inr ⟨c,by simp[lookup_cons,hx];exact h⟩
  .rw[if_neg D];refine i3 r _ ?_;rcases h with h|h
   .rcases rb.mp h with z|z
    .have:=(Prod.mk.inj z).2
     simp_all
    .exact .inl z
   .exact .inr h
structure jK(osc:Scope)(N:List Str)(scope:Scope)(x:Str)(fvs:List Str)(js:List Nat):Prop where
 cells:∀y∈scope.names,y.2=.cell->y.1=x
 once:scope.names.lookup x=some .local/\(scope.names.filter λy=>y.2==.cell)=[]\/scope.names.lookup x=some .cell/\(scope.names.filter λy=>y.2==.cell)=[(x,.cell)]
 xf:∀y∈scope.names,y.2=.free->y.1≠x
 kind:scope.kind=.function
 names:∀y∈scope.names,y.2=.local->scope.names.lookup y.1=some .local
 nd:(x::fvs).Nodup
 out:∀y∈scope.names,y.2=.free->osc.names.lookup y.1=some .cell\/osc.names.lookup y.1=some .free
 slots:(js.map λj=>N[j]?)=fvs.map some
 free:∀y∈fvs,scope.names.lookup y=some .free
structure oY(osc:Scope)(N:List Str)(scope:Scope)(x:Str)(ys fvs:List Str)(js:List Nat):Prop where
 cells:∀y∈scope.names,y.2=.cell->y.1=x
 once:scope.names.lookup x=some .local/\(scope.names.filter λy=>y.2==.cell)=[]\/scope.names.lookup x=some .cell/\(scope.names.filter λy=>y.2==.cell)=[(x,.cell)]
 xf:∀y∈scope.names,y.2=.free->y.1≠x
 kind:scope.kind=.function
 names:∀y∈scope.names,y.2=.local->scope.names.lookup y.1=some .local
 nd:(x::(ys++fvs)).Nodup
 out:∀y∈scope.names,y.2=.free->osc.names.lookup y.1=some .cell\/osc.names.lookup y.1=some .free
 slots:(js.map λj=>N[j]?)=fvs.map some
 free:∀y∈fvs,scope.names.lookup y=some .free
theorem jK.g{osc:Scope}{N:List Str}{scope:Scope}{x:Str}{fvs:List Str}{js:List Nat}(h:jK osc N scope x fvs js):oY osc N scope x [] fvs js:=⟨h.cells,h.once,h.xf,h.kind,h.names,h.nd,h.out,h.slots,h.free⟩
noncomputable def jL(scope:Scope)(x:Str)(C:Addr):List (Str×Addr):=if scope.names.lookup x=some .cell then [(x,C+1)]else []
noncomputable def Cx.blk(X:Cx)(x:Str)(fvs:List Str)(scope:Scope)(q:Shared)(D:Hp)(C:Addr)(fp:List Addr):Cx:=
 { X with N:=x::fvs,s₀:=q,H₀:=D,env:=compEnvC scope (jL scope x C++fM X.env scope.names []) C X.env,outer:=X.stack,ex:=fp,fn:=λy=>decide (y=x/\scope.names.lookup x=some .cell),pn:=[],xe:=λ_ _=>False }
theorem lV :∀{names:List (Str×NameKind)}{q}{s}{Q},(names.filter λy=>y.2==.cell)=[]->Q q s ->
  wpAny M A (forIn names q λx r=>(match x with|(name,kind)=>if (kind==NameKind.cell)=true then do let c <- alloc { cls:=.type "cell",data:=.cell none };pure (ForInStep.yield ((name,c)::r))else pure (ForInStep.yield r)):Sem (List (Str×Addr))) Q E s
 | [],_,_,_,_,h=>kv h
 | (n,k)::r,q,s,Q,hf,h=>by
  rw[forIn_cons];have D:(k==NameKind.cell)=false:=by
   simp_all
  rw[Lh (by rw[D];decide)]at hf;dsimp only;rw[if_neg (by rw[D];decide)];exact hU (kv (lV hf h))
theorem nJ{x:Str}:∀{names:List (Str×NameKind)}{q}{s}{Q},(names.filter λy=>y.2==.cell)=[(x,.cell)] ->
  Q ((x,s.heap.objs.size)::q) { s with heap:=s.heap.push { cls:=.type "cell",data:=.cell none } } ->
  wpAny M A (forIn names q λx r=>(match x with|(name,kind)=>if (kind==NameKind.cell)=true then do let c <- alloc { cls:=.type "cell",data:=.cell none };pure (ForInStep.yield ((name,c)::r))else pure (ForInStep.yield r)):Sem (List (Str×Addr))) Q E s
 | [],_,_,_,hf,_=>wP hf
 | (n,k)::r,q,s,Q,hf,h=>by
  rw[forIn_cons];dsimp only;cases D:(k==NameKind.cell)with
  |false =>
   rw[Lh (by rw[D];decide)]at hf;exact hU (kv (nJ hf h))
  |true =>
   rw[filter_cons_of_pos (by exact D)]at hf;obtain⟨J,U⟩:=Kv hf;cases J;exact hU (hU (wpAny_alloc (kv (lV U h))))
def sw{scope:Scope}{x:Str}{globals:Addr}{Y:List (Str×Addr)}{qual:Str}{env:Env}{s:Shared}{Q:Env->Shared->Prop}(hk:scope.kind=.function)
  (ho:scope.names.lookup x=some .local/\(scope.names.filter λy=>y.2==.cell)=[]\/scope.names.lookup x=some .cell/\(scope.names.filter λy=>y.2==.cell)=[(x,.cell)])
  (h:∀h' m,h'.Ns s.heap.objs.size m->(∀b u,s.heap.get? b=some u->h'.get? b=some u)->(scope.names.lookup x=some .cell->h'.IsCell (s.heap.objs.size+1) none)->Q (newEnv scope s.heap.objs.size globals (jL scope x s.heap.objs.size++Y) qual none .none (some env) builtinsNs) { s with heap:=h' }) :
  wpAny M A (newFunctionEnv scope globals Y [] qual none .none (some env)) Q E s:=by
 rcases ho with⟨h1,h2⟩|⟨h1,h2⟩
 .refine wpAny_newFunctionEnv (λy D z=>?_) (by intro y D;simp at D) (λh' J U=>?_) hk
  .have:y∈scope.names.filter λy=>y.2==.cell:=IV.mpr ⟨D,by rw[z];rfl⟩
   rw[h2]at this;cases this
  .have q:=h h' _ J (λb u e=>U.extBut b u (IL (tr e)) (i2 _ e)) λz=>by rw[h1]at z;cases z
   unfold jL at q
   simp_all
 .unfold newFunctionEnv;refine hU (wpAny_alloc (hU (nJ h2 ?_)));have hn:=Heap.Ns.new s.heap (.type "dict");have Z:(s.heap.push { cls:=.type "dict",data:=.dict #[] }).objs.size=s.heap.objs.size+1:=Ja _ _;have q:=h ((s.heap.push { cls:=.type "dict",data:=.dict #[] }).push { cls:=.type "cell",data:=.cell none }) _ (hn.keeps λb o e=>i2 _ e) (λb u e=>i2 _ (i2 _ e)) λ_=>⟨_,by rw[<- Z];exact pe _ rfl,rfl⟩
  unfold jL at q;rw[if_pos h1]at q;rw[<- Z]at q;exact hU (kv (kv q))
noncomputable def lX(js:List Nat)(σ:St):St:=none::js.map λj=>(σ[j]?).join
noncomputable def vT(n:Nat)(js:List Nat)(σ:St):St:=none::(replicate n none++js.map λj=>(σ[j]?).join)
def PF(X:Cx)(ifs:List Expr)(t:TT):Prop:=
 ∀pins s (σ:St) H Q,Inv X pins σ H s->t σ H Q ->
  wpAny (model X.prog X.w) X.A (forIn ifs true λc r=>if r=true then do let ok <- isTrue c X.env (eval c X.env);pure (ForInStep.yield ok)else pure (ForInStep.yield r)) (TP X pins σ Q) X.xe s
noncomputable def H_:TT:=λ_ H Q=>Q true H
def C0 :PF X [] H_:=λ_ _ _ H _ I h=>wpAny_tests_nil ⟨H,I,h⟩
def C1(h:PT X c t):PF X [c] t:=λpins s σ H Q I q=>wpAny_tests_one (h pins s σ H Q I q)
section
variable{prog:Program}{w:World}{A:Around}{R:Result->Shared->Prop}{s:Shared}
def vU{elt target iter:Expr}{ifs:List Expr}{scope:Scope}{pos:Pos}{it D:Value}{env:Env}(J:Nat->Shared->Prop)
  (turn:∀n s,J n s->wpAny (model prog w) A (pyNext it) (λr s1=>match r with
   |none=>R (.ok .next) s1
   |some v=>wpAny (model prog w) A (letOwnedTupleGo target it v) (λ_ Z=>wpAny (model prog w) A (assign target env v) (λ_ s3 =>
     wpAny (model prog w) A (forIn ifs true λc r=>if r=true then do let ok <- isTrue c env (eval c env);pure (ForInStep.yield ok)else pure (ForInStep.yield r)) (λok Y =>
      if ok=true then wpAny (model prog w) A (eval elt env) (λx s5 =>
       wpAny (model prog w) A (call (.builtin "list.append") [D,x]) (λ_ s6=>∃m,m<n/\J m s6) (λ_ _=>False) s5) (λ_ _=>False) Y
      else ∃m,m<n/\J m Y) (λ_ _=>False) s3) (λ_ _=>False) Z) (λ_ _=>False) s1) (λ_ _=>False) s)
  (n) (h:J n s):codeAny (model prog w) A (.compLoop (.ListComp elt [⟨target,iter,ifs,0⟩] scope pos) 0 it D env) R s:=by
 have U:∀{α}{t}{Q:α->Shared->Prop}{E}{s},wpAny (model prog w) A t Q (λ_ _=>False) s->wpAny (model prog w) A t Q E s:=λq=>Jj q (λ_ _ z=>z) λ_ _ z=>z.elim
 refine codeAny_loop rfl J (λn s hJ=>?_) n h;show wpAny _ A ((compTurn (.ListComp elt [⟨target,iter,ifs,0⟩] scope pos) 0 it D env).onRaise (λx=>do noteFrame x env;theTreesLotGoes x)) _ _ s;refine wpAny_noted ?_;rw[compTurn_list];refine hU (wpAny_standAt (hU (Jj (U (turn n s hJ)) (λr s1 h1=>?_) λ_ _ z=>z)));cases r with
 |none=>exact kv h1
 |some v =>
  refine hU (Jj (U h1) (λ_ Z h2=>?_) λ_ _ z=>z);refine hU (Jj (U h2) (λ_ s3 h3=>hU (Jj (U h3) (λok Y h4=>?_) λ_ _ z=>z)) λ_ _ z=>z);cases ok<;>first|exact kv ⟨rfl,h4⟩|exact hU (hU (Jj (U h4) (λx s5 h5=>hU (Jj (U h5) (λ_ s6 h6=>kv (kv ⟨rfl,h6⟩)) λ_ _ z=>z)) λ_ _ z=>z))
end
def uh(J:It)(Y:St)(H1:Hp)(tt:TT)(te:TE)(D:Addr)(Q:VK):Prop:=
 ∃W:Nat->Nat->St->Hp->Prop,(∃m,W 0 m Y (upd H1 D (.lst [])))/\∀i m q H',W i m q H' ->
  (J.stop i H'/\Q (.ref D) H')\/(J.go i H'/\∃N:St->Hp->Prop,(∀U H2,N U H2->∃Z,Z<m/\W (i+1) Z U H2)/\∀x H2,J.yld i H' x H2 ->
   tt (q.set 0 (some x)) H2 λb H3=>if b=true then te (q.set 0 (some x)) H3 λy H4=>∃ys,H4 D=some (.lst ys)/\ys.length<sizeLine/\N (q.set 0 (some x)) (upd H4 D (.lst (ys++[y])))else N (q.set 0 (some x)) H3)
def xE(J:It)(g:TG)(Z:St)(H1:Hp)(tt:TT)(te:TE)(D:Addr)(Q:VK):Prop:=
 ∃W:Nat->Nat->St->Hp->Prop,(∃m,W 0 m Z (upd H1 D (.lst [])))/\∀i m U H',W i m U H' ->
  (J.stop i H'/\Q (.ref D) H')\/(J.go i H'/\∃N:St->Hp->Prop,(∀Y H2,N Y H2->∃m',m'<m/\W (i+1) m' Y H2)/\∀x H2,J.yld i H' x H2 ->
   g x U H2 λq H3=>tt q H3 λb H4=>if b=true then te q H4 λy H5=>∃ys,H5 D=some (.lst ys)/\ys.length<sizeLine/\N q (upd H5 D (.lst (ys++[y])))else N q H4)
theorem uh.g(h:uh J q H1 tt te D Q):xE J (cX 0) q H1 tt te D Q:=h
noncomputable def xF(wi:TI)(js:List Nat)(tt:TT)(te:TE):TE:=λσ H Q=>wi σ H λJ H1=>∀D,H1 D=none->uh J (lX js σ) H1 tt te D Q
section
variable{X:Cx}{elt iter:Expr}{x:Str}{px:Pos}{ifs:List Expr}{scope:Scope}{pos:Pos}{fvs:List Str}{js:List Nat}{wi:TI}{tt:TT}{te:TE}
def xG{tg:Expr}{ys:List Str}(Y:oY X.env.scope X.N scope x ys fvs js){pins:List (Addr×Obj)}{σ:St}{H2:Hp}{D:Shared}{it:Addr}{fp:List Addr}{tn:Nat->Heap->Prop}{J:It}{G h1:Heap}{m1}(I2:Inv X pins σ H2 D)(T:oE X.prog X.w X.K tg J fp it tn)(bT:tn 0 D.heap)(f2:∀b∈fp,iS X pins H2 b)
  (U:Inv X pins σ (upd H2 D.heap.objs.size (.lst [])) { D with heap:=G,toks:=D.toks }) (hG:D.heap.push { cls:=.type "list",dict:=none,data:=.seq ([]:List Value).toArray }=G) (b3:h1.Ns G.objs.size m1) (up:∀b u,G.get? b=some u->h1.get? b=some u) (b5:scope.names.lookup x=some .cell->h1.IsCell (G.objs.size+1) none) :
  (X.blk x (ys++fvs) scope { D with heap:=G,toks:=D.toks } (upd H2 D.heap.objs.size (.lst [])) G.objs.size fp).Ok/\Inv (X.blk x (ys++fvs) scope { D with heap:=G,toks:=D.toks } (upd H2 D.heap.objs.size (.lst [])) G.objs.size fp) [] (vT ys.length js σ) (upd H2 D.heap.objs.size (.lst [])) { D with heap:=h1,toks:=D.toks }/\tn 0 h1/\∀b∈fp,(upd H2 D.heap.objs.size (.lst [])) b=none:=by
 have fr:∀y∈scope.names,y.2=.free->∃c,X.env.cells.lookup y.1=some c:=λy hy hk=>I2.ok.has y.1 (Y.out y hy hk)
 have sub:∀y c,(fM X.env scope.names []).lookup y=some c->X.env.cells.lookup y=some c:=λy c e=>lU scope.names [] fr (λ_ q=>by injection q) e
 have hC:G.objs.size=D.heap.objs.size+1:=by rw[<- hG,Ja]
 have look:∀{y:Str}{c:Addr},(jL scope x G.objs.size++fM X.env scope.names []).lookup y=some c->(y=x/\scope.names.lookup x=some .cell/\c=G.objs.size+1)\/(fM X.env scope.names []).lookup y=some c:=λ{y c} e=>by
  unfold jL at e;by_cases q:scope.names.lookup x=some .cell
  .rw[if_pos q]at e;by_cases z:(y==x)=true
   .rw[cons_append,lookup_cons,z]at e;exact .inl ⟨eq_of_beq z,q,(x2 e).symm⟩
   .rw[cons_append,lookup_cons,(Bool.not_eq_true _).mp z]at e;exact .inr e
  .rw[if_neg q]at e;exact .inr e
 have nC:(upd H2 D.heap.objs.size (.lst [])) G.objs.size=none:=U.hok.fresh (pd _);have cL:G.objs.size≠X.env.locals:=JH U.lt;have cS:X.s₀.heap.objs.size<=G.objs.size:=U.sz;have cC:∀y c,X.env.cells.lookup y=some c->c≠G.objs.size:=λy c e z=>by
  obtain⟨v,q⟩:=U.cell y c e;exact absurd (show c<G.objs.size from q.lt) (by rw[z];exact Jm _)
 have cP:∀p∈X.pn++pins,p.1≠G.objs.size:=λp hp z=>absurd (show p.1<G.objs.size from tr (U.pin p hp).1) (by rw[z];exact Jm _)
 have a6:∀b∈fp,b<D.heap.objs.size:=λb hb=>by
  refine ae (T.obj 0 _ bT b hb) λo e _=>?_
  exact tr e
 have ok:(X.blk x (ys++fvs) scope { D with heap:=G,toks:=D.toks } (upd H2 D.heap.objs.size (.lst [])) G.objs.size fp).Ok:=by
  have hb:∀b∈fp,b∉frs X.stack:=λb hb z=>(rb.mp (I2.stkSub b z)).elim (f2 b hb).2.1 (f2 b hb).2.2.1
  exact {
   mod:=U.ok.mod
   kind:=by show(relabel scope X.env).kind=_;exact Y.kind
   glob:=U.ok.glob
   blt:=U.ok.blt
   above:=pd _
   inj:=λy z c e1 e2=>by
    have lt:∀{y:Str},(fM X.env scope.names []).lookup y=some c->c<G.objs.size:=λ{y} e=>by
     obtain⟨v,q⟩:=U.cell y c (sub y c e);exact q.lt
    rcases look e1 with⟨a1,_,a2⟩|a1
    .rcases look e2 with⟨b1,_,_⟩|b1
     .rw[a1,b1]
     .exact absurd (lt b1) (by rw[a2];exact JB.mpr (JO _))
    .rcases look e2 with⟨_,_,b2⟩|b1
     .exact absurd (lt a1) (by rw[b2];exact JB.mpr (JO _))
     .exact U.ok.inj y z c (sub y c a1) (sub z c b1)
   has:=λy hy=>by
    show ∃c,(jL scope x G.objs.size++fM X.env scope.names []).lookup y=some c;unfold jL;rcases vR Y.cells hy with hm|⟨e,q⟩
    .obtain⟨c,ec⟩:=i3 (env:=X.env) scope.names [] (.inl hm);by_cases q:scope.names.lookup x=some .cell
     .have z:(y==x)=false:=Jf.mpr (Y.xf _ hm rfl);exact⟨c,by rw[if_pos q,cons_append,lookup_cons,z];exact ec⟩
     .exact⟨c,by rw[if_neg q];exact ec⟩
    .subst e;exact⟨G.objs.size+1,by rw[if_pos q,cons_append,lookup_cons,Jx]⟩
   cab:=λy c h e=>by
    obtain⟨h1,h2⟩:=IX h;have e':(jL scope x G.objs.size++fM X.env scope.names []).lookup y=some c:=e;unfold jL at e';rw[if_pos h2,h1,cons_append,lookup_cons,Jx]at e';rw[<- x2 e'];exact JO _
   hd:=U.ok.hd
   frames:=U.ok.frames
   stk:=.inl rfl
   exf:=λb Z=>⟨IL (show b<G.objs.size from x1 (a6 b Z) (by rw[hC];exact JO _)),λy c e=>by
    rcases look e with⟨_,_,a⟩|a
    .rw[a,hC];exact JH (x1 (a6 b Z) (IK (JO _) (JO _)))
    .exact(f2 b Z).2.2.2.2.1 y c (sub y c a)⟩
   bs:=U.bs
   bsz:=IK U.ok.bsz U.sz
   noex:=λb o e Z=>by
    have q:=(f2 b Z).2.2.2.1;rcases q with q|q
    .exact U.ok.noex b o e q
    .exact absurd (x1 (tr e) (IK U.ok.bsz q)) (Jm _)
   exfs:=hb
   funs:=U.stack
   frf:=U.stkFree }
 have cl:(vT ys.length js σ).length=(x::(ys++fvs)).length:=by
  have e:=JP List.length Y.slots;simp only[ox]at e;simp[vT,e]
 have I4:Inv (X.blk x (ys++fvs) scope { D with heap:=G,toks:=D.toks } (upd H2 D.heap.objs.size (.lst [])) G.objs.size fp) [] (vT ys.length js σ) (upd H2 D.heap.objs.size (.lst [])) { D with heap:=h1,toks:=D.toks }:=by
  refine⟨ok,rfl,U.bare,Un.kept up,⟨_,b3,λi y v e1 e2 e3=>?_⟩,λy c e=>?_,nC,λy c e=>(look e).elim (λhq=>j_ hq λ_ _ a=>by rw[a];exact U.hok.fresh (JO _)) λa=>U.freeC y c (sub y c a),λp hp=>by simp[Cx.blk]at hp,U.hok.kept up,cl⟩
  .cases i with
   |zero=>cases e2
   |succ i0 =>
    have bt:(ys++fvs)[i0]?=some y:=e1;have ao:(replicate ys.length none++js.map λj=>(σ[j]?).join)[i0]?=some (some v):=by simpa[vT]using e2
    by_cases a3:i0<ys.length
    .rw[JQ (by simpa using a3),KH,if_pos a3]at ao;cases ao
    rw[JC (by simpa using K3 a3),length_replicate]at ao;rw[JC (K3 a3)]at bt;generalize i0-ys.length=i at bt ao;have c0:fvs[i]?=some y:=bt;have hm:y∈fvs:=JR c0;have c1:=Y.free y hm;have bB:(y,NameKind.free)∈scope.names:=iB c1;have aL:(js.map λj=>(σ[j]?).join)[i]?=some (some v):=ao;rw[IY]at aL;cases ej:js[i]? with
    |none=>rw[ej]at aL;exact aP aL
    |some j =>
     rw[ej]at aL;have a4:(σ[j]?).join=some v:=x2 aL;have e4:σ[j]?=some (some v):=by
      cases q:σ[j]? with
      |none=>rw[q]at a4;exact aP a4
      |some z=>rw[q]at a4;exact JP some a4
     have e5:X.N[j]?=some y:=by
      have q:=JP (λl=>l[i]?) Y.slots;simp only[IY,ej,c0,map_some]at q;exact x2 q
     refine ae U.loc λm hn hl=>?_
     have a5:=Y.out (y,.free) bB rfl;refine ae (hl j y v e5 e4 (.inr a5)) λu ru lk=>?_
     refine⟨u,ru,.inr ⟨?_,?_⟩⟩
     .show(relabel scope X.env).names.lookup y=_\/(relabel scope X.env).names.lookup y=_;exact vQ (osc:=X.env.scope) c1
     .obtain⟨c,ec⟩:=i3 (env:=X.env) scope.names [] (.inl bB);have nx:(y==x)=false:=Jf.mpr (Y.xf _ bB rfl);refine⟨c,?_,?_⟩
      .show(jL scope x G.objs.size++fM X.env scope.names []).lookup y=some c;unfold jL;split
       .rw[cons_append,lookup_cons,nx];exact ec
       .exact ec
      rcases lk with⟨z,_⟩|⟨_,c',dm,q⟩
      .have z':X.env.scope.names.lookup y=some .local:=z;rcases a5 with w|w
       .rw[show X.env.scope.names.lookup y=some .cell from w]at z';cases z'
       .rw[show X.env.scope.names.lookup y=some .free from w]at z';cases z'
      .have:=sub y c ec;rw[dm]at this;cases this;refine ae q λo ho hd=>?_
       exact⟨o,up _ _ ho,hd⟩
  .rcases look e with⟨_,q,a⟩|a
   .exact⟨none,by rw[a];exact b5 q⟩
   .refine cr (U.cell y c (sub y c a)) λv o ho hd=>?_
    exact⟨v,o,up _ _ ho,hd⟩
 have dr:tn 0 h1:=T.keep 0 _ _ bT λb hb o e=>up b o (by rw[<- hG];exact i2 _ e)
 have dt:∀b∈fp,(upd H2 D.heap.objs.size (.lst [])) b=none:=λb hb=>by
  rw[al (IL (a6 b hb))];exact(f2 b hb).1
 exact⟨ok,I4,dr,dt⟩
def sy{tg:Expr}{g:TG}{ys:List Str}(bT:oY X.env.scope X.N scope x ys fvs js)(hc:X.calm=true)(hg:∀Y Z C fp,PG (X.blk x (ys++fvs) scope Y Z C fp) tg g)
  (ht:∀Y Z C fp,PF (X.blk x (ys++fvs) scope Y Z C fp) ifs tt) (he:∀Y Z C fp,PE (X.blk x (ys++fvs) scope Y Z C fp) elt te)
  {pins:List (Addr×Obj)}{σ:St}{H2:Hp}{U:Shared}{Q:VK}{it:Addr}{fp:List Addr}{tn:Nat->Heap->Prop}{J:It}{RR:Value->Addr->Result->Shared->Prop}
  (I2:Inv X pins σ H2 U) (T:oE X.prog X.w X.K tg J fp it tn) (c5:tn 0 U.heap) (f2:∀b∈fp,iS X pins H2 b)
  (hh:∀D,H2 D=none->xE J g (vT ys.length js σ) H2 tt te D Q)
  (fin:∀(D C:Addr) (H':Hp) (s':Shared),Inv X pins σ H' s'->(∃m,s'.heap.Ns C m)->H' C=none->C≠X.env.locals->X.s₀.heap.objs.size<=C->(∀y c,X.env.cells.lookup y=some c->c≠C)->(∀p∈X.pn++pins,p.1≠C)->Q (.ref D) H' ->
   RR (.ref D) C (.ok .next) s') {E:Value->Shared->Prop} :
  wpAny (model X.prog X.w) X.A (newList []) (λacc s3=>wpAny (model X.prog X.w) X.A (newFunctionEnv scope X.env.globals (fM X.env scope.names []) [] X.env.qual none .none (some X.env)) (λa6 s4 =>
   codeAny (model X.prog X.w) X.A (.compStart (.ListComp elt [⟨tg,iter,ifs,0⟩] scope pos) 0 (.ref it) acc { a6 with scope:=relabel scope X.env }) (RR acc a6.locals) s4) E s3) E U:=by
 refine Jo (sw (x:=x) bT.kind bT.once λh1 m1 bt bB bR=>?_);have I3:Inv X pins σ (upd H2 U.heap.objs.size (.lst [])) { U with heap:=U.heap.push { cls:=.type "list",data:=.seq ([]:List Value).toArray },toks:=U.toks }:=I2.lnew (ys:=[]) (its:=[]) .nil (IW _);generalize hG:U.heap.push { cls:=.type "list",dict:=none,data:=.seq ([]:List Value).toArray }=G at bt bB bR I3 ⊢;obtain⟨W,⟨m0,w0⟩,turn⟩:=hh U.heap.objs.size I2.fresh;refine fP (xG bT I2 T c5 f2 I3 hG bt bB bR) λok I4 b5 c6=>?_
 have cL:G.objs.size≠X.env.locals:=JH I3.lt;have cS:X.s₀.heap.objs.size<=G.objs.size:=I3.sz;have cC:∀y c,X.env.cells.lookup y=some c->c≠G.objs.size:=λy c e z=>by
  obtain⟨v,q⟩:=I3.cell y c e;exact absurd (show c<G.objs.size from q.lt) (by rw[z];exact Jm _)
 have cP:∀p∈X.pn++pins,p.1≠G.objs.size:=λp hp z=>absurd (show p.1<G.objs.size from tr (I3.pin p hp).1) (by rw[z];exact Jm _)
 have a1:∀{H':Hp},(∀b∈fp,H' b=none)->∀b∈fp,iS (X.blk x (ys++fvs) scope { U with heap:=G,toks:=U.toks } (upd H2 U.heap.objs.size (.lst [])) G.objs.size fp) [] H' b:=λhn b hb =>
  ⟨hn b hb,(ok.exf b hb).1,ok.exfs b hb,.inl hb,(ok.exf b hb).2,λp hp=>by simp[Cx.blk]at hp⟩
 have c8:∀b∈fp,(b∈X.ex\/X.s₀.heap.objs.size<=b)/\b≠X.env.locals/\(∀x c,X.env.cells.lookup x=some c->c≠b)/\∀p∈X.pn++pins,p.1≠b:=λb hb =>
  let ⟨_,q1,_,q2,q3,q4⟩:=f2 b hb;⟨q2,q1,q3,q4⟩
 have loop:∀s5:Shared,s5={ U with heap:=h1,toks:=U.toks } ->
   codeAny (model X.prog X.w) X.A (.compLoop (.ListComp elt [⟨tg,iter,ifs,0⟩] scope pos) 0 (.ref it) (.ref U.heap.objs.size) (compEnvC scope (jL scope x G.objs.size++fM X.env scope.names []) G.objs.size X.env)) (RR (.ref U.heap.objs.size) G.objs.size) s5:=by
  rintro s5 rfl;refine vU (λn s'=>∃i a2 H',Inv (X.blk x (ys++fvs) scope { U with heap:=G,toks:=U.toks } (upd H2 U.heap.objs.size (.lst [])) G.objs.size fp) [] a2 H' s'/\tn i s'.heap/\(∀b∈fp,H' b=none)/\W i n a2 H') ?_ m0 ⟨0,_,_,I4,b5,c6,w0⟩;rintro n s6 ⟨i,a5,H6,I6,ck,cl,w6⟩;rcases turn i n a5 H6 w6 with⟨stop,qn⟩|⟨go,N,hN,step⟩
  .refine thn (T.done (X.blk x (ys++fvs) scope { U with heap:=G,toks:=U.toks } (upd H2 U.heap.objs.size (.lst [])) G.objs.size fp) rfl rfl rfl hc i [] s6 a5 H6 _ I6 (a1 cl) ck stop) λr s7 hq=>pZ hq λhr I7=>?_
   subst hr;have I8:Inv X pins σ H6 s7:=I3.call' (ch:=fp) I7.os I7.base I7.hok I7.bare c8;refine ae I7.loc λm hn _=>?_
   exact fin _ _ H6 s7 I8 ⟨m,hn⟩ I7.free cL cS cC cP qn
  .refine thn (T.item (X.blk x (ys++fvs) scope { U with heap:=G,toks:=U.toks } (upd H2 U.heap.objs.size (.lst [])) G.objs.size fp) rfl rfl rfl hc i [] s6 a5 H6 _ I6 (a1 cl) ck go) λr s7 hq=>ae hq λu hr h7=>?_
   subst hr;refine thn h7 λ_ s8 hq=>wM hq λx8 H8 I8 r8 y8 b1 dr=>?_
   have dt:=I8.pinned (a1 dr) (T.obj _ _ b1);refine thn (hg _ _ _ _ _ s8 a5 H8 x8 u _ dt r8 (step x8 H8 y8)) λ_ s9 hq=>cr hq λb2 H9 I9 q9=>?_
   refine thn (ht _ _ _ _ _ s9 _ H9 _ I9 q9) λdv dV hq=>ae hq λd1 c0 c1=>?_
   have again:∀{aL:Shared}{ao:Hp},Inv (X.blk x (ys++fvs) scope { U with heap:=G,toks:=U.toks } (upd H2 U.heap.objs.size (.lst [])) G.objs.size fp) ([]++lm fp s8.heap) b2 ao aL->N b2 ao ->
     ∃m,m<n/\∃i a2 H',Inv (X.blk x (ys++fvs) scope { U with heap:=G,toks:=U.toks } (upd H2 U.heap.objs.size (.lst [])) G.objs.size fp) [] a2 H' aL/\tn i aL.heap/\(∀b∈fp,H' b=none)/\W i m a2 H':=λ{aL ao} a4 b3=>by
    refine ae (hN _ ao b3) λm' hm d2=>?_
    refine⟨m',hm,i+1,_,ao,a4.unpinned,T.keep _ _ _ b1 λb hb o e=>(a4.pin (b,o) (Jr _ (Jr _ (gf hb e)))).1,λb hb=>?_,d2⟩;refine ae (T.obj _ _ b1 b hb) λo e d=>?_
    exact(a4.pin (b,o) (Jr _ (Jr _ (gf hb e)))).2.1
   cases dv with
   |false =>
    exact again c0 c1
   |true =>
    refine thn (he _ _ _ _ _ dV _ d1 _ c0 c1) λy aL ⟨yv,ao,a4,ry,ys,d3,hl,b3⟩=>?_
    refine thn (hX _ aL _ ao (.ref U.heap.objs.size) [yv] (.ref U.heap.objs.size) [y] (λ_ c2=>N b2 c2) a4 rfl (.cons ry .nil) ⟨_,ys,yv,rfl,rfl,d3,hl,b3⟩) λ_ fl hq=>aq hq λ_ c2 ea _ eb=>again ea eb
 exact codeAny_compStart_list (loop _ rfl) (T.self _ 0 _ _ _ b5 (loop _ rfl))
def nK(Z:jK X.env.scope X.N scope x fvs js)(hc:X.calm=true)
  (ht:∀U Y C fp,PF (X.blk x fvs scope U Y C fp) ifs tt) (he:∀U Y C fp,PE (X.blk x fvs scope U Y C fp) elt te)
  {pins:List (Addr×Obj)}{σ:St}{H2:Hp}{s2:Shared}{Q:VK}{it:Addr}{fp:List Addr}{tn:Nat->Heap->Prop}{J:It}{RR:Value->Addr->Result->Shared->Prop}
  (I2:Inv X pins σ H2 s2) (T:oE X.prog X.w X.K (.Name x px) J fp it tn) (a0:tn 0 s2.heap) (f2:∀b∈fp,iS X pins H2 b)
  (hh:∀D,H2 D=none->uh J (lX js σ) H2 tt te D Q)
  (fin:∀(D C:Addr) (H':Hp) (s':Shared),Inv X pins σ H' s'->(∃m,s'.heap.Ns C m)->H' C=none->C≠X.env.locals->X.s₀.heap.objs.size<=C->(∀y c,X.env.cells.lookup y=some c->c≠C)->(∀p∈X.pn++pins,p.1≠C)->Q (.ref D) H' ->
   RR (.ref D) C (.ok .next) s') {E:Value->Shared->Prop} :
  wpAny (model X.prog X.w) X.A (newList []) (λacc s3=>wpAny (model X.prog X.w) X.A (newFunctionEnv scope X.env.globals (fM X.env scope.names []) [] X.env.qual none .none (some X.env)) (λao s4 =>
   codeAny (model X.prog X.w) X.A (.compStart (.ListComp elt [⟨.Name x px,iter,ifs,0⟩] scope pos) 0 (.ref it) acc { ao with scope:=relabel scope X.env }) (RR acc ao.locals) s4) E s3) E s2:=
 sy (ys:=[]) Z.g hc (λU Y C fp=>kP (X:=X.blk x fvs scope U Y C fp) (i:=0) (x:=x) (pos:=px) Z.nd rfl (Z.once.elim (λq=>.inl (lookup_relabel_local q.1)) λq=>.inr (vS q.1)) (Z.once.elim (λq=>.inr (lookup_relabel_local q.1)) λq=>.inl (IM ⟨rfl,q.1⟩))) ht he I2 T a0 f2 (λD hD=>(hh D hD).g) fin
def Ao(Z:jK X.env.scope X.N scope x fvs js)(hc:X.calm=true)(hi:PI X (.Name x px) iter wi)
  (ht:∀U Y C fp,PF (X.blk x fvs scope U Y C fp) ifs tt) (he:∀U Y C fp,PE (X.blk x fvs scope U Y C fp) elt te)
  (hs:∀v,foldedSetIterable iter X.env v=pure v:=by intro _;rfl):PE X (.ListComp elt [⟨.Name x px,iter,ifs,0⟩] scope pos) (xF wi js tt te):=by
 intro pins s σ H Q I h;have fr:∀y∈scope.names,y.2=.free->∃c,X.env.cells.lookup y.1=some c:=λy hy hk=>I.ok.has y.1 (Z.out y hy hk)
 rw[eval_ListComp];refine wpAny_comprehension_free (use:=none) rfl hs (lT fr) Z.kind Z.names (thn (hi pins s σ H _ I h) λv s1 h1=>thn h1 λa4 s2 h2=>?_);refine tY h2 λit fp tn J H2 e I2 T ao f2 hh=>?_
 subst e;refine nK (RR:=λacc C=>compPost (model X.prog X.w) X.A X.xe none (EP X pins σ Q) acc C) Z hc ht he I2 T ao f2 hh λD C H' s' I' hn nC cL cS cC cP q=>?_
 obtain⟨m,hn⟩:=hn;refine⟨m,hn,λh' sb=>⟨.ref D,H',?_,rfl,q⟩⟩;exact I'.turned (t':=s'.toks) (λb o hb e=>(sb.2 b hb).trans e) nC cL (.inr cS) cC cP
def sA{py ao:Pos}(hN:X.N.Nodup)(a0:X.N[i]?=some y)(hy:Loc X.env.scope y)(Z:jK X.env.scope X.N scope x fvs js)(hc:X.calm=true)(hi:PI X (.Name x px) iter wi)
  (ht:∀U Y C fp,PF (X.blk x fvs scope U Y C fp) ifs tt) (he:∀U Y C fp,PE (X.blk x fvs scope U Y C fp) elt te)
  (a2:swapsWith (.ListComp elt [⟨.Name x px,iter,ifs,0⟩] scope pos) (some (.Name y py)) ao.line X.env=pure true:=by rfl)
  (hs:∀v,foldedSetIterable iter X.env v=pure v:=by intro _;rfl) (hf:X.fn y=true\/X.env.scope.names.lookup y=some .local:=by first|exact .inl rfl|exact .inr rfl|assumption) :
  PS X (.Assign [.Name y py] (.ListComp elt [⟨.Name x px,iter,ifs,0⟩] scope pos) ao) (jB (xF wi js tt te) (cX i)):=by
 intro pins s σ H D I h;have fr:∀y∈scope.names,y.2=.free->∃c,X.env.cells.lookup y.1=some c:=λy hy hk=>I.ok.has y.1 (Z.out y hy hk)
 rw[exec_Assign_Name_used _ _ _ _ a2];refine hU (wpAny_standAt (hU ?_));refine hU (thn (wpAny_comprehension_free (use:=some (assign (.Name y py) X.env)) (Q:=λ_ s'=>SP X pins D .next s') rfl hs (lT fr) Z.kind Z.names (thn (hi pins s σ H _ I h) λv s1 h1=>thn h1 λb4 s2 h2=>?_)) λ_ s' q=>?_)
 .refine bY λZq kq=>?_
  refine tY h2 λit fp tn J H2 e I2 T a3 f2 hh=>?_
  subst e;refine kq ?_;refine nK (RR:=λacc C=>compPost (model X.prog X.w) X.A X.xe (some (assign (.Name y py) X.env)) (λ_ s'=>SP X pins D .next s') acc C) (Q:=λv H'=>cX i v σ H' D.nx) Z hc ht he I2 T a3 f2 hh λD' C H' s' I' hn nC cL cS cC cP q=>?_
  obtain⟨m,hn⟩:=hn;refine wpAny_assign_Name (nq I' hN a0 hy (v:=.ref D') rfl (λa4 a5 hq=>ae hq λa sb ha=>?_) hf);have ne:C≠a:=by
   rcases ha with z|z
   .rw[z];exact cL
   .exact λw=>cC y a z w.symm
  refine⟨m,hn.sameBut sb ne,λh' a6=>?_⟩;exact⟨_,H',a5.turned (t':=a4.toks) (λb o hb e=>(a6.2 b hb).trans e) nC cL (.inr cS) cC cP,q⟩
 .exact kv (kv q)
end
abbrev sB(K:LI)(H:Hp):List V->List (List Int)->Prop:=Paired λx q=>∃a,x=V.ref a/\SqT K H a (q.map V.int)
theorem sB.len{K:LI}(h:sB K H xs q):xs.length=q.length:=Paired.length h
def bf(h:H p=none)(o):ag H (upd H p o):=λb u q=>by rw[al (aR q h)];exact q
def ag.seqT{K:LI}(e:ag H H')(h:SqT K H a xs):SqT K H' a xs:=by
 rcases h with(h|⟨o,h⟩)|h
 .exact .inl (.inl (e _ _ h))
 .exact .inl (.inr ⟨o,e _ _ h⟩)
 .exact .inr h
section
variable{X:Cx}{pins:List (Addr×Obj)}{σ:St}{H:Hp}{s:Shared}
def Inv.laidD(I:Inv X pins σ H s)(k:∀b u,s.heap.get? b=some u->h'.get? b=some u)(q:s.heap.objs.size<=a)(new:bX X.prog X.w (upd H a o) h' a o) :
  Inv X pins σ (upd H a o) { s with heap:=h',toks:=t',drawn:=d' }:=
 I.call (g':=s.gens) (d':=d') (t':=t') (ch:=[]) (Un.laid k q (I.hok.fresh q)) (I.hok.laid k q new) I.bare λ_ z=>nomatch z
def Inv.tupInts(I:Inv X pins σ H s)(h:SqT X.K H a (ns.map V.int)):∃its,IsTup s.heap a its.toArray/\IntsAre its ns:=by
 refine aM (I.tuple h) λits r p _=>?_
 exact⟨its,p,dy r⟩
theorem Inv.tupsAt(I:Inv X pins σ H s):∀{xs}{us}{D},sB X.K H xs D->aA xs us->Paired (λu J=>∃a its,u=Value.ref a/\IsTup s.heap a its/\IntsAre its.toList J) us D
 | _,_,_,.nil,.nil=>.nil
 | _,_,_,.cons ⟨a,U,Y⟩ t,.cons r q=>by
  refine ae (I.tupInts Y) λits p hi=>?_
  rw[U]at r;exact .cons ⟨a,its.toArray,r,p,by simpa using hi⟩ (I.tupsAt t q)
end
noncomputable def kz(P:Program)(w:World)(a:Addr)(ks:List Int):HO:=.ext λh=>St.d5 P w h a ks
def qx(g:St.d5 P w h a ks):bX P w H h a (kz P w a ks):=by
 refine gz (id g) λo es ep t ho r=>?_
 exact⟨g,⟨o,ho⟩,λh1 h2 q k=>q.at k⟩
theorem Inv.set(I:Inv X pins σ H s)(h:H a=some (kz X.prog X.w a ks)):St.d5 X.prog X.w s.heap a ks:=
 (show bX X.prog X.w H s.heap a (kz X.prog X.w a ks)from I.hok a _ h).1
section
variable{X:Cx}
def xH (hc:X.calm=true):bM X (.type "set") (λxs H Q=>∃(p:Addr) (ns:List Int),xs=[.ref p]/\(SqL X.K H p (ns.map V.int)\/SqT X.K H p (ns.map V.int))/\ns.length<=4000/\∀l,H l=none->Q (.ref l) (upd H l (kz X.prog X.w l (St.dd ns.reverse)))):=by
 intro pins s σ H xs us Q I r h;obtain⟨p,ns,rfl,D,hz,q⟩:=h;refine ae (dQ r) λu J Z=>?_
 subst J;subst Z;have Y:=I.ok.hd hc;rcases D with D|D
 .obtain⟨its,U,pl,_⟩:=I.list D;have hi:=dy U;have hl:=hi.length;refine St.set_list Y pl.isList (ns:=ns) hi (by simp;unfold scanBound;omega) λh' tk g kp=>?_
  exact⟨.ref s.heap.objs.size,_,I.laidD (d':=s.drawn) kp (pd _) (qx g),rfl,q _ (I.hok.fresh (pd _))⟩
 .obtain⟨its,U,pl,_⟩:=I.tuple D;have hi:=dy U;have hl:=hi.length;refine St.vM Y (show s.heap.IsTuple p its.toArray from pl) (ns:=ns) hi (by simp;unfold scanBound;omega) λh' tk g kp=>?_
  exact⟨.ref s.heap.objs.size,_,I.laidD (d':=s.drawn) kp (pd _) (qx g),rfl,q _ (I.hok.fresh (pd _))⟩
end
namespace Srt
noncomputable def sortI(l:List Int):List Int:=gA cZ l
noncomputable def sortT(l:List (List Int)):List (List Int):=gA cH l
def leT(a b:List Int):Prop:=HT.lexLt b a=false
def sortI_perm(l):(sortI l).Perm l:=e_ cZ l
def sortT_perm(l):(sortT l).Perm l:=e_ cH l
def sortI_len(l):(sortI l).length=l.length:=(sortI_perm l).length_eq
def sortT_len(l):(sortT l).length=l.length:=(sortT_perm l).length_eq
def sortT_rises(l):(sortT l).Pairwise leT:=dR cH l
def sortT_id(h:l.Pairwise leT):sortT l=l:=qp cH h
def sortT_of_perm(p:a.Perm b):sortT a=sortT b:=im cH p
def sortI_of_perm(p:a.Perm b):sortI a=sortI b:=im cZ p
def uj{a b:Int}:cZ.kle a b ↔ a<=b:=by
 show decide _=false ↔ a<=b
 simp_all
def sortI_rises(l):(sortI l).Pairwise (· <= ·):=(dR cZ l).imp λh=>uj.mp h
def sortI_id(h:l.Pairwise (· <= ·)):sortI l=l:=qp cZ (h.imp λq=>uj.mpr q)
section
variable{P:Program}{w:World}{A:Around}{E:Value->Shared->Prop}{s:Shared}
def qA(q:ns.Perm ks)(D:ns.Pairwise (· <= ·)):ns=sortI ks:=by
 refine iW cZ q (D.imp λ{a b} h=>?_);show decide _=false
 simp_all
def lY{ks:List Int}{Q:Value->Shared->Prop}(a2:ks.length<64)
  (U:∀Q',(∀h' tk d' D q,(∀b o,s.heap.get? b=some o->h'.get? b=some o)->q.Perm ks->IntsAre D q->Q' D { s with heap:=h',toks:=tk,drawn:=d' }) ->
   wpAny (model P w) A.in1 (collect x) Q' E s)
  (h:∀(h1 h':Heap) tk d' out c,(∀b o,s.heap.get? b=some o->h1.get? b=some o)->(∀b o,h1.get? b=some o->h'.get? b=some o)->h'.get? h1.objs.size=some { cls:=.type "list",data:=.seq out.toArray c } ->
   IntsAre out (sortI ks)->Q (.ref h1.objs.size) { s with heap:=h',toks:=tk,drawn:=d' }) :
  wpAny (model P w) A (call (.builtin "sorted") [x]) Q E s:=by
 refine KC kind_sorted plain_sorted entry_sorted (args_sorted1 _) ?_;refine hU (m:=checkCount "sorted" 1 1 _) (kv ?_);refine hU (U _ λh1 tk d1 D q kp hp hi=>?_);have a4:=hi.length;have a5:=hp.length_eq;refine hU (Lk ?_ (by rw[Jl];omega));have J:(h1.push (seqObj "list" D.toArray 0)).get? h1.objs.size=some (seqObj "list" D.toArray 0):=pe _ rfl;refine hU (JJ (Jg slot_list_sort ⟨_,J,rfl⟩ entry_list_sort (list_sort_tree J hi (by simp[*]) λout a6 Y Z ao=>⟨_,rfl,?_⟩) (args_list_sort _)));obtain⟨c,hc⟩:=sortedHeap_at (out:=out) (vs:=D) J;refine kv ⟨_,rfl,h h1 _ tk d1 out.toList c kp (λb o e=>?_) ?_ ?_⟩
 .have hb:=tr e;rw[sortedHeap_old (IL hb) (by rw[Ja];exact Ji hb)];exact i2 _ e
 .rw[Array.toArray_toList];exact hc
 .rw[<- qA (Z.trans hp) ao];exact Y
def lZ{vs:List Value}{D:List (List Int)}{Q:Value->Shared->Prop}(a0:vs.length<64)(hu:A.units+2<cLine)
  (hv:Paired (λu ts=>∃a its,u=Value.ref a/\IsTup s.heap a its/\IntsAre its.toList ts) vs D)
  (Z:∀Q',(∀h',(∀b o,s.heap.get? b=some o->h'.get? b=some o)->Q' vs { s with heap:=h' })->wpAny (model P w) A.in1 (collect x) Q' E s)
  (h:∀(h1 h':Heap) (p:Array Nat) (c:Nat),(∀b o,s.heap.get? b=some o->h1.get? b=some o)->(∀b o,h1.get? b=some o->h'.get? b=some o)->h'.get? h1.objs.size=some { cls:=.type "list",data:=.seq (p.toList.map λi=>vs.getD i Value.none).toArray c } ->
   PB vs.length p->p.toList.map (λi=>D.getD i [])=sortT D->Q (.ref h1.objs.size) { s with heap:=h' }) :
  wpAny (model P w) A (call (.builtin "sorted") [x]) Q E s:=by
 have J:vs.length=D.length:=Paired.length hv;refine KC kind_sorted plain_sorted entry_sorted (args_sorted1 _) ?_;refine hU (m:=checkCount "sorted" 1 1 _) (kv ?_);refine hU (Z _ λh1 kp=>?_);refine hU (Lk ?_ (by rw[Jl];omega));have U:(h1.push (seqObj "list" vs.toArray 0)).get? h1.objs.size=some (seqObj "list" vs.toArray 0):=pe _ rfl;have at_:∀(s':Shared),(∀b o,b≠h1.objs.size->(h1.push (seqObj "list" vs.toArray 0)).get? b=some o->s'.heap.get? b=some o)->∀i,i<vs.length->∃a its,vs.getD i Value.none=.ref a/\IsTup s'.heap a its/\IntsAre its.toList (D.getD i []):=λs' k i hi=>by
  have gen:∀{us:List Value}{Y:List (List Int)},Paired (λu ts=>∃a its,u=Value.ref a/\IsTup s.heap a its/\IntsAre its.toList ts) us Y->∀i,i<us.length->∃a its,us.getD i Value.none=.ref a/\IsTup s.heap a its/\IntsAre its.toList (Y.getD i []):=by
   intro us Y hp
   induction hp with
   |nil=>intro i hi;simp at hi
   |cons q _ ih =>
    intro i hi;cases i with
    |zero=>obtain⟨a,its,e,r⟩:=q;exact⟨a,its,by exact e,by exact r⟩
    |succ i=>obtain⟨a,its,e,r⟩:=ih i (by simpa using hi);exact⟨a,its,by exact e,by exact r⟩
  obtain⟨a,its,e,⟨o,ho,r⟩,a3⟩:=gen hv i hi;have ao:=kp a o ho;exact⟨a,its,e,⟨o,k a o (IL (tr ao)) (i2 _ ao),r⟩,a3⟩
 refine hU (JJ (Jg slot_list_sort ⟨_,U,rfl⟩ entry_list_sort (iX (O:=cH) (key:=λi=>D.getD i []) U a0 (λh2 s' Q' k q=>vJ h2 (λv hm=>?_) q) (λg a4 s' i j C k hi hj q=>?_) λp hp hr=>⟨_,rfl,?_⟩) (args_list_sort _)))
 .obtain⟨i,hi,e⟩:=getElem_of_mem hm;refine aq (at_ s' k i hi) λa its e' r1 r2=>?_
  exact⟨a,its,_,by rw[<- e',<- e];simp[hi],r1,r2⟩
 .refine aq (at_ s' k i hi) λa its e r1 r2=>?_
  refine aq (at_ s' k j hj) λa' its' e' bB bR=>?_
  rw[e,e'];exact Ak a4 r1 bB r2 bR (show A.units+1+1<cLine from hu) q
 .obtain⟨c,hc⟩:=sortedHeap_at (out:=(p.toList.map λi=>vs.getD i Value.none).toArray) (vs:=vs) U;have bT:PB D.length p:=by rw[<- J];exact hp
  have b0:eZ (O:=cH) (λi=>D.getD i []) p D.length:=by rw[<- J];exact hr
  refine kv ⟨_,rfl,h h1 _ p c kp (λb o e=>?_) hc hp (xt (O:=cH) (d:=([]:List Int)) (xs:=D) bT b0)⟩;have hb:b<h1.objs.size:=tr e;rw[sortedHeap_old (IL hb) (by rw[Ja];exact Ji hb)];exact i2 _ e
end
end Srt
section
variable{X:Cx}
def Inv.keptD(I:Inv X pins σ H s)(k:∀b u,s.heap.get? b=some u->h'.get? b=some u):Inv X pins σ H { s with heap:=h',toks:=t',drawn:=d' }:=
 I.call (g':=s.gens) (d':=d') (t':=t') (ch:=[]) (Un.kept k) (I.hok.kept k) I.bare λ_ z=>nomatch z
def vV:∀{vs}{ns},IntsAre vs ns->aA (ns.map V.int) vs:=jD
def C2(X:Cx):List V->Hp->VK->Prop:=λxs H Q=>∃p ks,xs=[.ref p]/\(SqL X.K H p (ks.map V.int)\/SqT X.K H p (ks.map V.int)\/H p=some (kz X.prog X.w p ks))/\ks.length<64/\∀l,H l=none->Q (.ref l) (upd H l (.lst ((Srt.sortI ks).map V.int)))
def i4 (hc:X.calm=true):bM X (.builtin "sorted") (C2 X):=by
 intro pins s σ H xs us Q I r h;refine fQ h λp ks ao D aL q=>?_
 subst ao;refine ae (dQ r) λu a0 rx=>?_
 subst a0;subst rx;have hh:=I.ok.hd hc;refine Srt.lY (ks:=ks) aL (λQ' J=>?_) λh1 h' tk d' out c k1 k2 e hi=>?_
 .rcases D with D|D|D
  .refine aM (I.list D) λits Z pl hz=>?_
   obtain⟨o,ho,U,n,hd⟩:=pl.isList;refine J6 p (.inl rfl) ho U hd (λh' kp=>?_) (by have:=Z.length;simp only[pb]<;>omega);exact J h' s.toks s.drawn _ ks kp (.refl _) (by simpa using dy Z)
  .refine aM (I.tuple D) λits Z pl hz=>?_
   obtain⟨o,ho,U,n,hd⟩:=pl;refine J6 p (.inr rfl) ho U hd (λh' kp=>?_) (by have:=Z.length;simp only[pb]<;>omega);exact J h' s.toks s.drawn _ ks kp (.refl _) (by simpa using dy Z)
  .exact St.qw (by first|exact hh|simpa using hh) (I.set D) λh' tk d' a1 Y kp hp hi=>J h' tk d' a1 Y kp hp hi
 .have I1:Inv X pins σ H { s with heap:=h1,toks:=tk,drawn:=d' }:=I.keptD k1;have I2:Inv X pins σ (upd H h1.objs.size (.lst ((Srt.sortI ks).map V.int))) { s with heap:=h',toks:=tk,drawn:=d' }:=
   I1.laid (t':=tk) k2 (pd _) (show bX X.prog X.w _ h' _ (.lst _)from⟨by rw[ox,Srt.sortI_len,Jl];omega,out,c,vV hi,e⟩)
  exact⟨.ref h1.objs.size,_,I2,rfl,q _ (I1.hok.fresh (pd _))⟩
def C3(X:Cx):List V->Hp->VK->Prop:=λxs H Q=>∃(p:Addr) (vs:List V) (q:List (List Int)),xs=[.ref p]/\(SqL X.K H p vs\/SqT X.K H p vs)/\sB X.K H vs q/\q.length<64 /\
 ∀(l:Addr) (pm:List Nat),H l=none->(∀i∈pm,i<vs.length)->pm.map (λi=>q.getD i [])=Srt.sortT q->Q (.ref l) (upd H l (.lst (pm.map λi=>vs.getD i .non)))
theorem jM(h:aA vs us):∀(l:List Nat),(∀i∈l,i<vs.length)->aA (l.map λi=>vs.getD i .non) (l.map λi=>us.getD i Value.none)
 | [],_=>.nil
 |i::l,hl=>by
  have hi:=hl i (.head _);obtain⟨u,D,J⟩:=h.get (i:=i) (x:=vs[i]) (IP hi);refine .cons ?_ (jM h l λj q=>hl j (.tail _ q))
  simp_all
def oZ (hu:X.A.units+64<cLine):bM X (.builtin "sorted") (C3 X):=by
 intro pins s σ H xs us Q I r h;refine kd h λp vs a4 a0 Y ht a5 q=>?_
 subst a0;refine ae (dQ r) λu a1 rx=>?_
 subst a1;subst rx;have key:∀its,aA vs its->vs.length<=sizeLine->(∀Q',(∀h',(∀b o,s.heap.get? b=some o->h'.get? b=some o)->Q' its { s with heap:=h' })->wpAny (model X.prog X.w) X.A.in1 (collect _) Q' X.xe s) ->
   wpAny _ X.A (call _ [.ref p]) (EP X pins σ Q) X.xe s:=λits D hz Z=>by
  have hl:=D.length;have bt:=ht.len;refine Srt.lZ (by omega) (by omega) (I.tupsAt ht D) Z λh1 h' pm c k1 k2 e hp ho=>?_
  have ao:∀i∈pm.toList,i<vs.length:=λi hi=>by
   have:=(J4.mp hp).mem_iff.mp hi
   simp_all
  have I1:=I.kept (t':=s.toks) k1;have I2:Inv X pins σ (upd H h1.objs.size (.lst _)) { s with heap:=h' }:=
   I1.laid k2 (pd _) (show bX X.prog X.w _ h' _ _ from⟨by have:=hp.size;rw[ox,Array.length_toList,Jl];omega,_,c,jM D _ ao,e⟩)
  exact⟨.ref h1.objs.size,_,I2,rfl,q _ pm.toList (I1.hok.fresh (pd _)) ao ho⟩
 rcases Y with Y|Y
 .obtain⟨its,D,pl,hz⟩:=I.list Y;obtain⟨o,ho,J,n,hd⟩:=pl.isList;refine key its D hz λQ' U=>J6 p (.inl rfl) ho J hd (λh' kp=>?_) (by have:=D.length;simp[pb]<;>omega)
  have:=U h' kp;simpa using this
 .obtain⟨its,D,pl,hz⟩:=I.tuple Y;obtain⟨o,ho,J,n,hd⟩:=pl;refine key its D hz λQ' U=>J6 p (.inr rfl) ho J hd (λh' kp=>?_) (by have:=D.length;simp[pb]<;>omega)
  have:=U h' kp;simpa using this
end
end L2
namespace L2.St
open PySem PyProof.Rows List Option
structure m8(P:Program)(w:World)(h:Heap)(a:Addr)(ks:List Int)(o:Obj)(es:Array (Int×Value))(ep:Nat)(t:SetTable):Prop where
 ho:h.get? a=some o
 ex:o.ExactSet
 hd:o.data=.set es ep t
 el:ElemsOf (intKind P w) es.toList
 pm:(es.toList.map λe=>numOf e.2).Perm ks
 nd:ks.Nodup
 bd:es.size<scanBound
 fi:t.fits es.size=true
theorem d5.w{w:World}(g:d5 P w h a ks):∃o es ep t,m8 P w h a ks o es ep t/\Gd (!byT w) t:=by
 refine bY λZq J=>?_
 obtain⟨o,es,ep,t,ho,q,hd,D,U,hn,Y,Z,hg⟩:=g;refine J ?_;exact⟨o,es,ep,t,⟨ho,q,hd,D,U,hn,Y,Z⟩,hg⟩
theorem m8.len(g:m8 P w h a ks o es ep t):es.size=ks.length:=by
 have:=g.pm.length_eq;simpa using this
theorem m8.at{P:Program}{w:World}{h h':Heap}{a:Addr}{ks:List Int}{o:Obj}{es:Array (Int×Value)}{ep:Nat}{t:SetTable}(g:m8 P w h a ks o es ep t)(k:∀o,h.get? a=some o->h'.get? a=some o):m8 P w h' a ks o es ep t:=
 ⟨k o g.ho,g.ex,g.hd,g.el,g.pm,g.nd,g.bd,g.fi⟩
section
variable{P:Program}{w:World}{A:Around}{E:Value->Shared->Prop}{s:Shared}
variable{a:Addr}{ks:List Int}{o:Obj}{es:Array (Int×Value)}{ep:Nat}{t:SetTable}
theorem m8.mem(g:m8 P w s.heap a ks o es ep t) :k∈ks ↔ ∃e∈es.toList,(intKind P w).is k e.2=true:=by
 rw[<- g.pm.mem_iff,mem_map];constructor
 .rintro ⟨e,D,q⟩;exact⟨e,D,(oX g.el D k).mpr q⟩
 .rintro ⟨e,D,q⟩;exact⟨e,D,(oX g.el D k).mp q⟩
end
section
variable{P:Program}{w:World}{A:Around}{E:Value->Shared->Prop}{s:Shared}
def m8.type (g:m8 P w s.heap a ks o es ep t):s.TypeIs (.ref a) "set":=⟨o,g.ho,g.ex.1⟩
end
noncomputable def vals(m:Nat)(q:Array (Option Nat)):List Nat:=(range (m+1)).filterMap λj=>q.getD j none
section
variable{P:Program}{w:World}{A:Around}{E:Value->Shared->Prop}{s:Shared}
variable{a:Addr}{ks:List Int}{o:Obj}{es:Array (Int×Value)}{ep:Nat}{t:SetTable}
end
section
variable{P:Program}{w:World}{A:Around}{E:Value->Shared->Prop}{s:Shared}
end
end L2.St
namespace L2
open PySem PySem.Spec PyProof.Rows List Option
section
variable{X:Cx}
def o3:bM X (.builtin "len") (λxs H Q=>∃a ks,xs=[.ref a]/\H a=some (kz X.prog X.w a ks)/\Q (.int ks.length) H):=by
 intro pins s σ H xs us Q I r h;refine aq h λa ks D e q=>?_
 subst D;refine ae (dQ r) λu J U=>?_
 subst J;subst U;refine gz ((I.set e).w) λo es ep t g _=>?_
 have Z:=g.bd;have Y:scanBound=4096:=rfl;refine call_len_set g.ho g.ex g.hd g.fi (by omega) ⟨.int ks.length,H,I.tok _,⟨s.toks+1,?_⟩,q⟩;rw[g.len]
end
end L2
namespace L2.En
open PySem PyProof.Rows List Option
open AutoSeq1 (wpAny_loadPart')
section
variable{P:Program}{w:World}{A:Around}{E:Value->Shared->Prop}{s:Shared}
def sC(D:s.heap.IsTupleIter it t i)
  (h:wpAny (model P w) A.in1 (Builtin.«tuple_iterator.__next__» ⟨[.ref it],[]⟩) (λfin s'=>∃v,fin=.done (.ret v)/\Q v s') E s):wpAny (model P w) A (Builtin.SmallTypes.nextOf (.ref it)) Q E s:=by
 refine hU (Jq D.typeIs F.slot_tuple_iterator_next ?_);refine Jg F.slot_tuple_iterator_next D.typeIs F.entry_tuple_iterator_next ?_ (F.args_tuple_iterator_next_1 _);refine Jj h (λfin s' J=>?_) λ_ _ z=>z
 obtain⟨v,rfl,q⟩:=J;exact⟨v,rfl,kv q⟩
def F0 (D:A.handled=none) (h:∀h' e,(∀b o,s.heap.get? b=some o->h'.get? b=some o)->(∃o,h'.get? e=some o/\o.cls=.type "StopIteration")->E (.ref e) { s with heap:=h' }) :
  wpAny (model P w) A (Builtin.SmallTypes.stopIteration:Sem α) Q E s:=by
 wp_walk
 exact wpAny_raiseNew_none D (h _ _ (λb o q=>i2 _ (i2 _ q)) ⟨_,pe _ rfl,rfl⟩)
def nL(U:A.handled=none)(D:s.heap.IsTupleIter it t i)(ht:s.heap.IsTuple t items)
  (Y:∀x h',items[i]?=some x->h'.IsTupleIter it t (i+1)->Heap.SameBut it s.heap h'->Q x { s with heap:=h' })
  (Z:∀h' e,items[i]?=none->Heap.ExtBut it s.heap h'->(∃o,h'.get? e=some o/\o.cls=.type "StopIteration")->E (.ref e) { s with heap:=h' }):wpAny (model P w) A (Builtin.SmallTypes.nextOf (.ref it)) Q E s:=by
 refine sC D ?_;refine bY λZq kq=>?_
 obtain⟨⟨c1,d1,t1,l1⟩,h1,e1,e2⟩:=D;obtain⟨⟨c2,d2,t2,l2⟩,h2,e3,n2,e4⟩:=ht;subst e1;subst e2;subst e3;subst e4;obtain⟨J,g,d,tk,os⟩:=s;refine kq ?_
 wp_walk using wpAny_loadPart' h1,wpAny_loadPart' h2
 have self:∀k v,(J.update it (Obj.mapFields (·.setIfInBounds k v))).get? it=some { cls:=.type "tuple_iterator",dict:=d1,data:=.fields _,slots:=l1 }:=λk v=>JD _ h1 rfl
 rw[Int.toNat_natCast];cases hx:items[i]? with
 |some x =>
  refine hU (wpAny_setField h1 rfl (by simp) (kv ⟨x,rfl,Y x _ hx ⟨_,self 1 _,rfl,?_⟩ (JU ..)⟩))
  rfl
 |none =>
  refine hU (K7 (hU (wpAny_setField h1 rfl (by simp) (F0 U λh' e k st=>?_))));exact Z h' e hx (λb o hb q=>k b o ((JU J it _).extBut b o hb q)) st
def draws(J:A.handled=none)(it t)(q:t≠it)(items):Draws P w A it [it,t] items.size (λi v=>items[i]?=some v) (λi h=>h.IsTupleIter it t i/\h.IsTuple t items) where
 live:=λ_ _ ⟨⟨o,ho,_⟩,_⟩=>⟨o,ho⟩
 frame:=λi h h' ⟨⟨o,ho,r⟩,⟨U,D,Z⟩⟩ k=>⟨⟨o,k it (.head _) o ho,r⟩,⟨U,k t (.tail _ (.head _)) U D,Z⟩⟩
 item:=λi s Q E hi ⟨h1,h2⟩ hQ=>nL J h1 h2 (λx h' hx h3 Y=>hQ x h' s.toks hx ⟨h3,h2.extBut Y.extBut q⟩ Y) λh' e hx _ _=>absurd hx (by simp;omega)
 done:=λs Q E ⟨h1,h2⟩ hE=>nL J h1 h2 (λx h' hx _ _=>absurd hx (by simp)) λh' e _ eb st=>hE h' e eb st
def xI{Q:Bool->Shared->Prop}(h:∀c,Q c s):wpAny (model P w) A (pure b) Q E s:=kv (h b)
def Ap(l)(items)(n)(q)(D) :
  Meets (Builtin.«enumerate.__new__» ⟨[.type "enumerate",.ref l],[]⟩) (λ_ R s=>s.heap.get? l=some { cls:=.type "tuple",dict:=q,data:=.seq items n,slots:=D } /\
   R (.ok (.ret (.ref (s.heap.push { cls:=.type "tuple_iterator",data:=.fields #[.ref l,.int 0 0] }).objs.size)))
    { s with heap:=(s.heap.push { cls:=.type "tuple_iterator",data:=.fields #[.ref l,.int 0 0] }).push { cls:=.type "enumerate",data:=.fields #[.none,.bool false,.ref s.heap.objs.size,rawInt 0,.none,.none] } }):=by
 refine .of_wp λP w A R s h=>?_
 have tl:Heap.IsTuple _ l items:=⟨_,h.1,rfl,n,rfl⟩;have J:=sub_enumerate
 wp_walk using wpAny_loadPart' h.1
 apply wpAny_stack_any;intro st;refine xI λc=>?_
 cases c
 .wp_walk using wpAny_pyIter_tuple tl
  exact⟨_,rfl,h.2⟩
 .wp_walk using wpAny_pyIter_tuple tl
  exact⟨_,rfl,h.2⟩
def call_tup(ht:s.heap.IsTuple l items)
  (h:∀h',IsEnum h' (s.heap.objs.size+1) s.heap.objs.size 0 .none->h'.IsTupleIter s.heap.objs.size l 0->h'.objs.size=s.heap.objs.size+2 ->
   (∀b o,s.heap.get? b=some o->h'.get? b=some o)->Q (.ref (s.heap.objs.size+1)) { s with heap:=h' }):wpAny (model P w) A (call (.type "enumerate") [.ref l]) Q E s:=by
 obtain⟨⟨c,D,dt,Y⟩,hl,hc,n,hd⟩:=ht;subst hc;subst hd;have made:=Ap l items n D Y;refine callType_new F.called_enumerate (by decide) (F.typeCall_enumerate_1 _) (F.newCall_enumerate_1 _) (λv=>F.args_object_init_2 v _) F.entry_enumerate_new made ⟨hl,?_⟩;generalize hi:({ cls:=.type "tuple_iterator",data:=.fields #[.ref l,.int 0 0] }:Obj)=io;generalize ho:({ cls:=.type "enumerate",data:=.fields #[.none,.bool false,.ref s.heap.objs.size,rawInt 0,.none,.none] }:Obj)=J;have z:(s.heap.push io).objs.size=s.heap.objs.size+1:=Ja ..;have U:((s.heap.push io).push J).get? (s.heap.objs.size+1)=some J:=by
  rw[<- z];exact pe _ (by rw[<- ho];rfl)
 have Z:((s.heap.push io).push J).get? s.heap.objs.size=some io:=i2 _ (pe _ (by rw[<- hi];rfl));rw[z];refine⟨⟨_,U,by rw[<- ho]⟩,h _ (by rw[<- ho]at U;rw[<- ho];exact U) ⟨_,Z,by rw[<- hi],by rw[<- hi];rfl⟩ (by rw[Ja,z]) λb o q=>i2 _ (i2 _ q)⟩
end
end L2.En
namespace L2.Dv
open PySem PyProof.Rows List Option
open AutoSeq1 (wpAny_loadPart')
section
variable{P:Program}{w:World}{A:Around}{E:Value->Shared->Prop}{s:Shared}
def o4(h:Heap)(d:Addr)(es:Array DictEntry)(ep:Nat):Prop:=∃o,h.get? d=some o/\o.ExactDict/\o.data=.dict es ep
theorem o4.at(x:o4 h d es ep)(k:∀o,h.get? d=some o->h'.get? d=some o):o4 h' d es ep:=by
 refine ae x λo ho r=>?_
 exact⟨o,k o ho,r⟩
def o4.type (x:o4 s.heap d es ep):s.TypeIs (.ref d) "dict":=by
 refine aM x λo ho r _=>?_
 exact⟨o,ho,r.1⟩
def Aq(q:s.heap.IsValuesView v d)(x:o4 s.heap d es ep)
  (h:Q (.ref s.heap.objs.size) { s with heap:=s.heap.push { cls:=.type "dict_valueiterator",data:=.fields #[.ref d,.int 0 0,.int es.size 0,.int ep 0] } }):wpAny (model P w) A (pyIter (.ref v)) Q E s:=by
 refine Lq q.typeIs F.slot_dict_values_iter (Jg F.slot_dict_values_iter q.typeIs F.entry_dict_values_iter ?_ (F.args_dict_values_iter_1 _));refine bY λZq D=>?_
 obtain⟨⟨c1,d1,t1,l1⟩,h1,hx,J⟩:=x;have U:=hx.1;subst U;subst J;obtain⟨⟨c3,d3,t3,l3⟩,h3,Y,Z⟩:=q;subst Y;subst Z;refine D ?_
 wp_walk using wpAny_loadPart' h1,wpAny_loadPart' h3
 exact⟨_,rfl,_,_,⟨_,pe _ rfl,rfl⟩,Kj.lookup,h⟩
def ul{ep:Nat}{Q:Option Value->Shared->Prop}(Z:A.handled=none)(U:s.heap.IsValIter it d i es.size ep)(x:o4 s.heap d es ep)
  (h1:∀e h',es[i]?=some e->h'.IsValIter it d (i+1) es.size ep->Heap.SameBut it s.heap h'->Q (some e.val) { s with heap:=h' })
  (h2:∀h',es[i]?=none->Heap.ExtBut it s.heap h'->Q none { s with heap:=h' }):wpAny (model P w) A (pyNext (.ref it)) Q E s:=by
 have ty:=U.typeIs;obtain⟨⟨c1,d1,t1,l1⟩,g1,hx,e2⟩:=x;have e1:=hx.1;cases e1;cases e2;obtain⟨⟨c3,d3,t3,l3⟩,D,e3,e4⟩:=U;cases e3;cases e4;obtain⟨J,g,dr,tk,os⟩:=s;unfold pyNext;refine hU (K2 (Jq (name:=Str.ofString "__next__") ty Kj (Jg Kj ty F.entry_dict_valueiterator_next ?_ (F.args_dict_valueiterator_next_1 _))));unfold Builtin.«dict_valueiterator.__next__»
 wp_walk using wpAny_loadPart' g1,wpAny_loadPart' D
 rw[if_neg (by omega),Int.toNat_natCast];have self:∀k v,(J.update it (Obj.mapFields (·.setIfInBounds k v))).get? it=some { cls:=.type "dict_valueiterator",dict:=d3,data:=.fields ((#[.ref d,.int (i:Int) 0,.int (es.size:Int) 0,.int (ep:Int) 0]:Array Value).setIfInBounds k v),slots:=l3 }:=λk v=>JD _ D rfl
 cases hx:es[i]? with
 |some e =>
  have Y:=self 1 (rawInt ((i:Int)+1))
  wp_walk using wpAny_loadPart' D,wpAny_loadPart' Y
  exact⟨_,rfl,kv (h1 e _ hx ⟨_,Y,rfl,rfl⟩ (JU ..))⟩
 |none =>
  refine hU (Jj (Q:=λn s'=>n=0/\s'=⟨J,g,dr,tk,os⟩) (E:=λ_ _=>False) ?_ (λn s' q=>?_) λ_ _ z=>z.elim)
  .wp_walk using wpAny_loadPart' D
   exact⟨by decide +kernel,rfl⟩
  obtain⟨rfl,rfl⟩:=q;refine hU (wpAny_setField D rfl (by simp) ?_);refine St.jH (v:=.none) (vs:=#[]) (it:=0) (Q:=λ_ _=>True) (by simpa using Z) λe s' kp ⟨h',eq⟩ hT=>?_
  subst eq;refine hU (Ke (T:="StopIteration") (b:=true) hT isSubtype_stop ?_);exact kv (h2 h' hx λb o hb q=>kp b o ((JU J it _).extBut b o hb q))
def src :PySem.W.KdlSrc P w "dict_values" r d es.size (λi v=>∃e,es[i]?=some e/\v=e.val) (λh=>h.IsValuesView r d/\o4 h d es ep) where
 type:=λ_ q=>q.1.typeIs
 there:=λ_ ⟨⟨o,ho,_⟩,⟨o',Y,_⟩⟩=>⟨tr ho,tr Y⟩
 keep:=λ_ _ ⟨⟨o,ho,z⟩,x⟩ k=>⟨⟨o,k r (.inl rfl) o ho,z⟩,x.at λo e=>k d (.inr rfl) o e⟩
 notList:=by decide
 notTuple:=by decide
 hint:=λ_ _ _ _ q z=>PySem.W.kdl_hint_values q.1.typeIs z
 iter:=λA s Z hq=>pZ hq λq x=>by
  have lt:d<s.heap.objs.size:=by obtain⟨o,ho,_⟩:=x;exact tr ho
  have ne:=IL lt;refine⟨{ cls:=.type "dict_valueiterator",data:=.fields #[.ref d,.int 0 0,.int es.size 0,.int ep 0] },λi h=>h.IsValIter s.heap.objs.size d i es.size ep/\o4 h d es ep,λE Q z=>Aq q x z,?_,⟨_,pe _ rfl,rfl,rfl⟩,x.at λo e=>i2 _ e⟩;refine⟨λb D=>by simp at D;simp[D],λi h h' ⟨⟨o,ho,z⟩,y⟩ k=>⟨⟨o,k _ (by simp) o ho,z⟩,y.at λo e=>k d (by simp) o e⟩,λi s' Q E hi ⟨y,z⟩ J=>?_,λs' Q E ⟨y,z⟩ J=>?_,λi s' Q E ⟨y,z⟩ J=>?_⟩
  .refine ul Z y z (λe h' U y' sb=>?_) λh' U _=>absurd U (by simp;omega)
   exact J _ h' s'.toks ⟨e,U,rfl⟩ ⟨y',z.at λo q=>sb.extBut d o ne q⟩ λb o D q=>sb.extBut b o (λw=>D (by simp[w])) q
  .refine ul Z y z (λe h' U _ _=>absurd U (by simp)) λh' _ eb=>?_
   exact J h' s'.toks λb o D q=>eb b o (λw=>D (by simp[w])) q
  .exact wpAny_pyIter_valiter y J
end
end L2.Dv
namespace HT
open PySem PyProof.Rows List Option
section
variable{prog:Program}{w:World}{A:Around}{E:Value->Shared->Prop}{s:Shared}
def getItem_tuple_whole{q:Array Value}{Y Z:Value}{lo hi:Option Int}{Q:Value->Shared->Prop}(ht:IsTup s.heap t q)(hs:s.heap.IsSliceOf sl Y Z .none)(pl:IsPart Y lo)(pu:IsPart Z hi)
  (h0:sIx q.size 0 lo=0) (h1:sIx q.size q.size hi=q.size) (h:Q (.ref t) s):wpAny (model prog w) A (getItem (.ref t) (.ref sl)) Q E s:=by
 have D:s.TypeIs (.ref sl) "slice":=by obtain⟨os,J,U,_⟩:=hs;exact⟨os,J,U⟩
 unfold getItem
 try with_reducible refine JJ ?_
 first|refine hU (kv ?_)|skip
 refine hU (wpAny_sequenceKey ht.typeIs (by decide) ?_);refine hU (Jq (name:=Str.ofString "__getitem__") ht.typeIs Jp
  (Jg Jp ht.typeIs entry_tuple_getitem ?_ (args_tuple_getitem _ _)))
 show wpAny _ _ (Builtin.Tuple.tupleItemsOf _ >>= _) _ _ s;refine hU (tupleItemsOf_ ht ?_);refine hU (KJ D ?_);rw[if_pos (by decide)];refine hU (fV hs pl pu ?_);show wpAny _ _ (if (((sIx q.size 0 lo:Nat):Int)==0&&_==1&&_==q.size)=true then _ else _) _ _ s;rw[h0,h1,if_pos (by simp)];refine hU (hU (KJ ht.typeIs (kv ?_)));rw[if_pos (by decide)];refine hU (K7 ?_);exact kv ⟨_,rfl,kv h⟩
end
end HT
namespace L2
open PySem PySem.Spec PyProof.Rows List Option
section
variable{X:Cx}
def Ar:SlR X (λx lo hi H Q=>∃a xs,x=.ref a/\SqT X.K H a xs/\HT.sIx xs.length 0 lo=0/\HT.sIx xs.length xs.length hi=xs.length/\Q (.ref a) H):=by
 intro pins s σ H x v vl vu lo hi sl Q I U Y pl Z h;refine wM h λa xs J hx h0 h1 q=>?_
 subst J;subst U;refine aM (I.tuple hx) λits r ht hz=>?_
 have D:its.toArray.size=xs.length:=by rw[pb];exact r.length.symm
 refine⟨"tuple",_,Jp.lookup,ht.typeIs,?_⟩;exact HT.getItem_tuple_whole ht Y pl Z (by rw[D];exact h0) (by rw[D];exact h1) ⟨.ref a,H,I,rfl,q⟩
end
end L2
namespace L2.Rv
open PySem PyProof.Rows List Option
section
variable{P:Program}{w:World}{A:Around}{E:Value->Shared->Prop}{s:Shared}
end
end L2.Rv
namespace L2
open PySem PySem.Spec PyProof.Rows List Option
section
variable{X:Cx}
end
end L2
namespace L2.Rg
open PySem PyProof.Rows List Option
section
variable{P:Program}{w:World}{A:Around}{E:Value->Shared->Prop}{s:Shared}
end
end L2.Rg
namespace L2
open PySem PySem.Spec PyProof.Rows List Option
section
variable{X:Cx}
end
end L2
namespace L2.Rv
open PySem PyProof.Rows List Option
open AutoSeq1 (wpAny_loadPart')
section
variable{P:Program}{w:World}{A:Around}{E:Value->Shared->Prop}{s:Shared}
end
end L2.Rv
namespace L2
open PySem PySem.Spec PyProof.Rows List Option
section
variable{X:Cx}
def xJ:bM X (.type "str") (λus H Q=>∃i,us=[.int i]/\i.natAbs<2 ^ 64/\Q (.str (Str.ofString (toString i))) H):=by
 intro pins s σ H xs us Q I r h;obtain⟨i,rfl,hi,q⟩:=h;refine ae (dQ r) λu D J=>?_
 subst D;obtain⟨t,rfl⟩:=J;refine PySem.P.str_of_int ?_ ⟨.str _,H,I.tok _,⟨s.toks,rfl⟩,q⟩;by_cases z:i.natAbs=0
 .rw[z];decide
 .have:=(Nat.log2_lt z (k:=64)).mpr hi;omega
def F1(K:LI):V->List V->Hp->VK->Prop:=λx vs H Q=>∃q a ws,x=.str q/\vs=[.ref a]/\SqL K H a (ws.map V.str)/\(ws.map λy=>y.length+q.length).sum<=1000000/\Q (.str (Builtin.Str.glued q ws)) H
theorem qB:∀{ws}{its},aA (ws.map V.str) its->∃l,its=strValues l/\l.map (·.1)=ws
 | [],_,h=>by cases h;exact⟨[],rfl,rfl⟩
 |y::ws,_,h=>by
  cases h with
  |cons r t =>
   obtain⟨tk,rfl⟩:=r;refine ae (qB t) λl q e=>?_
   subst q;exact⟨(y,tk)::l,rfl,by rw[IT,e]⟩
theorem glue_len(g):∀(ps:List Str) (a:Array Nat),(ps.foldl (λacc (p:Str)=>acc++g++p.cps) a).size=a.size+(ps.map λp=>p.length+g.size).sum
 | [],a=>by rfl
 |p::ps,a=>by
  rw[foldl_cons,glue_len g ps,IT,sum_cons,Array.size_append,Array.size_append];show a.size+g.size+p.cps.size+_=a.size+(p.cps.size+g.size+_);omega
def qC(sep):∀ws,(Builtin.Str.glued sep ws).length<=(ws.map λy=>y.length+sep.length).sum
 | []=>IW _
 |w::ws=>by
  show(ws.foldl (λacc (p:Str)=>acc++sep.cps++p.cps) w.cps).size<=_;rw[glue_len,IT,sum_cons];show w.cps.size+_<=w.cps.size+sep.cps.size+(ws.map λy=>y.length+sep.cps.size).sum;exact(by simp)
theorem qD(q:Str):∀(ws:List Str) (n:Nat),ws.foldl (λD J=>D+J.length+q.length) n=n+(ws.map λy=>y.length+q.length).sum
 | [],n=>rfl
 |w::ws,n=>by
  rw[foldl_cons,qD q ws,IT,sum_cons];omega
def As:MtM X "str.join" (F1 X.K):=by
 intro pins s σ H x vs v us Q I rx rv h;refine kd h λsep a ws J U hq hz q=>?_
 subst J;subst U;obtain⟨t,rfl⟩:=rx;refine ae rv.one λu D ru=>?_
 subst D;subst ru;refine aM (I.list hq) λits r pl _=>?_
 refine ae (qB r) λl D Y=>?_
 subst D;subst Y;have big:1000000<=sizeLine:=by rw[Jl];decide
 have Z:=qC sep (l.map (·.1));refine J7 F.slot_str_join rfl F.entry_str_join (F.args_str_join_2 _ _) (meets_str_join_list sep t a l ?_) ⟨pl.isList,?_⟩
 .unfold Builtin.Str.tooLong;rw[List.foldl_toArray,qD];refine IQ ?_;omega
 .have gen:(Made.str (Builtin.Str.glued sep (l.map (·.1)))).post (λv s'=>wants (EP X pins σ Q) X.xe (Except.ok (Flow.ret v)) s') s:=by
   simp only[Made.post];exact⟨by omega,⟨.str _,H,I.tok _,⟨s.toks,rfl⟩,q⟩⟩
  match l,q,gen with
  | [],_,gen|_::_::_,_,gen=>exact gen
  | [p],q,_ =>
   exact⟨.str p.1,H,I,⟨p.2,rfl⟩,q⟩
end
noncomputable def Itc(x:Str):It:=⟨λi _=>i<x.cps.size,λi H v H'=>H'=H/\∃c,x.cps[i]?=some c/\v=.str ⟨#[c]⟩,λi _=>x.cps.size<=i⟩
def xK {K:LI} (it) (x) (t):oE P w K tg (Itc x) [it] it (λi h=>h.IsStrIter it "str_ascii_iterator" x t i) where
 mem:=.head _
 obj:=λi h st b q=>by
  obtain rfl:=IS.mp q;refine aM st λo h1 _ h2=>?_
  exact⟨o,h1,λv z=>by rw[h2]at z;cases z⟩
 keep:=λi h h' st k=>let ⟨o,ho,r⟩:=st;⟨o,k it (.head _) o ho,r⟩
 item:=by
  intro X U hw Y hc i pins s σ H E I J st Z;subst U hw Y;have lt:i<x.cps.size:=Z;refine gE (J it (.head _)) λf0 f1 f2 f3 f4 f5=>?_
  refine wpAny_pyNext_ascii_item st (c:=x.cps[i]) (by simp[lt]) λh' D sb=>?_
  have I1:Inv X pins σ H { s with heap:=h',toks:=s.toks+1 }:=I.turned (λb o q e=>(sb.2 b q).trans e) f0 f1 f3 f4 f5;refine aM (id D) λo e c d=>?_
  exact⟨_,rfl,tZ (s:={ s with heap:=h',toks:=s.toks+1 }) e c d (by decide) ⟨.str ⟨#[x.cps[i]]⟩,H,I1,⟨_,rfl⟩,⟨rfl,_,by simp[lt],rfl⟩,D,λb q=>(J b q).1⟩⟩
 done:=by
  intro X U hw Y hc i pins s σ H E I J st Z;subst U hw Y;have le:x.cps.size<=i:=Z;refine gE (J it (.head _)) λf0 f1 f2 f3 f4 f5=>?_
  exact wpAny_pyNext_ascii_end (I.ok.hd hc) st (by simp[le]) λh' eb=>⟨rfl,I.turned (t':=s.toks) (λb o q e=>eb b o q e) f0 f1 f3 f4 f5⟩
 self:=λ_ _ _ _ _ st h=>wpAny_pyIter_striter_ascii st h
section
variable{X:Cx}{tg:Expr}
noncomputable def Ia(tl:TE):TI:=λσ H R=>tl σ H λv H1=>∃x,v=.str x/\x.cps.all (· < 128)=true/\R (Itc x) H1
def C4(hl:PE X l tl):PI X tg l (Ia tl):=by
 intro pins s σ H R I h;refine thn (hl pins s σ H _ I h) λv s1 ⟨y,H1,D,J,x,U,Y,q⟩=>?_
 subst U;obtain⟨t,rfl⟩:=J;refine wpAny_pyIter_ascii Y ⟨s1.heap.objs.size,[s1.heap.objs.size],_,_,H1,rfl,D.kept (t':=s1.toks) λb o e=>i2 _ e,xK _ x t,⟨_,pe _ rfl,rfl,rfl⟩,λb Z=>?_,q⟩;obtain rfl:=IS.mp Z;exact D.fpOk (pd _) (D.hok.fresh (pd _))
def vW:bM X (.type "int") (λus H Q=>∃x n,us=[.str x]/\intText? x=some n/\x.length<=640/\Q (.int n) H):=by
 intro pins s σ H xs us Q I r h;refine fQ h λx n D hn hl q=>?_
 subst D;refine ae (dQ r) λu J U=>?_
 subst J;obtain⟨t,rfl⟩:=U;exact PySem.W.KIN.call_text hn hl ⟨.int n,H,I.tok _,⟨_,rfl⟩,q⟩
def C5:V->List V->Hp->VK->Prop:=λx vs H Q=>∃z y,x=.str z/\vs=[.str y]/\(y.length==0)=false/\z.length<=1000000/\(Txt.split z y).length<=1000000/\∀p,H p=none->Q (.ref p) (upd H p (.lst ((Txt.split z y).map V.str)))
theorem qE:∀l,aA ((l.map (·.1)).map V.str) (strValues l)
 | []=>.nil
 |p::l=>.cons ⟨p.2,rfl⟩ (qE l)
def xL:MtM X "str.split" C5:=by
 intro pins s σ H x vs v us Q I Z rv h;refine wN h λz y D J Y hz hn q=>?_
 subst D;subst J;obtain⟨t,rfl⟩:=Z;refine ae rv.one λu U ru=>?_
 subst U;obtain⟨t2,rfl⟩:=ru;have big:1000000<=sizeLine:=by rw[Jl];decide
 have fin:∀l tk c,l.map (·.1)=Txt.split z y->EP X pins σ Q (.ref s.heap.objs.size) { s with toks:=tk,heap:=s.heap.push { cls:=.type "list",data:=.seq (strValues l).toArray c } }:=λl tk c e=>by
  have hl:l.length=(Txt.split z y).length:=by rw[<- e,ox]
  refine⟨.ref s.heap.objs.size,_,I.laid (o:=.lst ((Txt.split z y).map V.str)) (λb o g=>i2 _ g) (pd _) ⟨by rw[ox];exact(IK ‹_› ‹_›),strValues l,c,by rw[<- e];exact qE l,pe _ rfl⟩,rfl,q _ (I.hok.fresh (pd _))⟩
 cases h1:(decide (z.length<y.length)||decide (Builtin.Str.strKind z<Builtin.Str.strKind y))with
 |true =>
  refine J7 LC rfl Ls (Li _ _) (meets_str_split_cannot_occur z y t t2 h1) ?_;exact fin [(z,t)] s.toks 0 (by unfold Txt.split;rw[if_pos h1];rfl)
 |false =>
  cases h2:(Builtin.Str.occurrences z y 0 z.length (z.length+1)).isEmpty with
  |true =>
   refine J7 LC rfl Ls (Li _ _) (meets_str_split_not_found z y t t2 h1 Y h2) ?_;exact fin [(z,t)] s.toks 0 (by unfold Txt.split;rw[if_neg (by rw[h1];decide),if_pos h2];rfl)
  |false =>
   have es:Txt.split z y=Builtin.Str.partsBetween z (Builtin.Str.occurrences z y 0 z.length (z.length+1)) y.length:=by
    unfold Txt.split;rw[if_neg (by rw[h1];decide),if_neg (by rw[h2];decide)]
   refine J7 LC rfl Ls (Li _ _) (meets_str_split_sep z y t t2 h1 Y h2 (IK ‹_› ‹_›) (by rw[<- es];exact(IK ‹_› ‹_›))) ?_;have g:=fin (numbered s.toks (Txt.split z y)) (s.toks+(Txt.split z y).length) 0 (numbered_texts _ _);rw[<- strsFrom_eq,es]at g;exact g
end
end L2
namespace L2.Srt
open PySem PySem.W PySem.Calls PyProof.Rows List Option
open PySem.AutoSeq1 (wpAny_loadPart')
def At(l b:Addr)(xs ys:Array Value)(n n2:Nat)(dd aL:Option Addr)(sl a0:Array (Option Value)):∀(k i:Nat) (ns ms:List Int),xs.size-i=k->i<=xs.size->i<=ys.size->IntsAre (xs.toList.drop i) ns->IntsAre (ys.toList.drop i) ms ->
  Meets (Builtin.«list.__eq__.loop» ⟨[.ref l,.ref b,rawInt i,rawInt 0],[]⟩)
   (λ_ R s=>s.heap.get? l=some { cls:=.type "list",dict:=dd,data:=.seq xs n,slots:=sl }/\s.heap.get? b=some { cls:=.type "list",dict:=aL,data:=.seq ys n2,slots:=a0 }/\R (.ok (.ret (.bool (HT.lexLt ns ms)))) s):=by
 intro k
 induction k with
 |zero =>
  intro i ns ms hk h1 h2 hi D P w A R s h;obtain⟨hp,g,d,tk,os⟩:=s;obtain⟨hl,U,h⟩:=h
  wp_walk using wpAny_loadPart' hl,wpAny_loadPart' U
  rw[show xs[((i:Nat):Int).toNat]?=none from by simp;omega];have e1:xs.toList.drop i=[]:=by simp;omega
  rw[e1]at hi;cases hi
  wp_walk using wpAny_loadPart' hl,wpAny_loadPart' U
  show R (.ok (.ret (.bool (decide (xs.size<ys.size))))) _;have Y:HT.lexLt [] ms=decide (xs.size<ys.size):=by
   have hz:=D.length;rw[Ld,Array.length_toList]at hz;cases ms with
   |nil=>rw[HT.lexLt_nil_nil];exact(IQ (by simp at hz;omega)).symm
   |cons=>rw[HT.lexLt_nil_cons];exact(IM (by simp at hz;omega)).symm
  rw[<- Y];exact h
 |succ k ih =>
  intro i ns ms hk h1 h2 hi D P w A R s h;obtain⟨hp,g,d,tk,os⟩:=s;obtain⟨hl,U,h⟩:=h;have lt:i<xs.size:=by omega
  wp_walk using wpAny_loadPart' hl,wpAny_loadPart' U
  have g1:xs[((i:Nat):Int).toNat]?=some xs[i]:=by simp[lt]
  have e1:xs.toList.drop i=xs[i]::xs.toList.drop (i+1):=by rw[Kt (by simpa using lt)];simp
  rw[e1]at hi;by_cases Z:i<ys.size
  .have g2:ys[((i:Nat):Int).toNat]?=some ys[i]:=by simp[Z]
   have Y:ys.toList.drop i=ys[i]::ys.toList.drop (i+1):=by rw[Kt (by simpa using Z)];simp
   rw[Y]at D;generalize xs[i]=x at hi g1;generalize ys[i]=y at D g2;cases hi with
   |cons a t hi =>
    cases D with
    |cons c u D =>
     rw[HT.lexLt_cons]at h;rw[g1,g2];obtain⟨e,he,J⟩:=HT.eqAt_int A.in1 ⟨hp,g,d,tk,os⟩ a t c u;refine hU (he P w _ _ ?_);cases e with
     |true =>
      rw[if_pos (J.mp rfl)]at h
      wp_walk
      rw[show((i:Int)+1)=((i+1:Nat):Int)from by omega];refine⟨Ku Kg _,Ki MeetsSeq3.entry_eq_loop ?_⟩;rw[J8 Kg _];exact ih (i+1) _ _ (by omega) (by omega) (by omega) hi D P w A R _ ⟨hl,U,h⟩
     |false =>
      rw[if_neg λq=>absurd (J.mpr q) kn]at h;have a4:=HT.rcLt_int A.in1 ⟨hp,g,d,tk,os⟩ a t c u P w
      wp_walk using wpAny_loadPart' hl,wpAny_loadPart' U
      rw[g1,g2]
      wp_walk using a4
      exact h
  .have Y:ys.toList.drop i=[]:=by simp;omega
   rw[Y]at D;cases D;rw[g1,show ys[((i:Nat):Int).toNat]?=none from by simp;omega];generalize xs[i]=x at hi;cases hi with
   |cons a t hi =>
    wp_walk using wpAny_loadPart' hl,wpAny_loadPart' U
    show R (.ok (.ret (.bool (decide (xs.size<ys.size))))) _;rw[IQ (by omega)];exact h
def Au(l b:Addr)(xs ys:Array Value)(n n2:Nat)(dd q:Option Addr)(J D:Array (Option Value))(ns ms:List Int)(hi:IntsAre xs.toList ns)(Y:IntsAre ys.toList ms) :
  Meets (Builtin.«list.__lt__» ⟨[.ref l,.ref b],[]⟩) (λ_ R s=>s.heap.get? l=some { cls:=.type "list",dict:=dd,data:=.seq xs n,slots:=J }/\s.heap.get? b=some { cls:=.type "list",dict:=q,data:=.seq ys n2,slots:=D }/\R (.ok (.ret (.bool (HT.lexLt ns ms)))) s):=
 λP w A R s h=>by
  obtain⟨Z,g,d,tk,os⟩:=s;obtain⟨hl,U,h⟩:=h;have f:=K0
  wp_walk using wpAny_loadPart' hl,wpAny_loadPart' U
  refine⟨Ku Kg _,Ki MeetsSeq3.entry_eq_loop ?_⟩;rw[J8 Kg _];exact At l b xs ys n n2 dd q J D xs.size 0 ns ms (by omega) (IW _) (IW _) (by simpa using hi) (by simpa using Y) P w A R _ ⟨hl,U,h⟩
def kA(h:Heap)(u:Value)(q:List Int):Prop:=∃a its,u=Value.ref a/\h.IsList a its/\IntsAre its.toList q
def kA.mono{h h':Heap}(k:∀b o,h.get? b=some o->h'.get? b=some o){u:Value}{D:List Int}(q:kA h u D):kA h' u D:=by
 obtain⟨a,its,e,⟨o,ho,r⟩,hi⟩:=q;exact⟨a,its,e,⟨o,k a o ho,r⟩,hi⟩
section
variable{prog:Program}{w:World}{A:Around}{E:Value->Shared->Prop}{s:Shared}
def xM{u v:Value}{ns ms:List Int}{C:Bool->Shared->Prop}(hu:A.units<cLine)(h1:kA s.heap u ns)(h2:kA s.heap v ms)(h:C (HT.lexLt ns ms) s):wpAny (model prog w) A (keyLt' oneType' u v) C E s:=by
 obtain⟨a,its,rfl,⟨⟨cls,dd,data,sl⟩,ho,hc,n,hd⟩,hi⟩:=h1;obtain⟨b,q,rfl,⟨⟨ao,U,data2,Y⟩,Z,D,n2,J⟩,hj⟩:=h2;simp only at hc hd D J;subst hc hd D J;rw[keyLt'_oneType,oneLt'_eq];simp only[if_true];refine hU (wpAny_cRoomFor hu ?_);refine hU (K6 (T:="list") ⟨_,ho,rfl⟩ PySem.F.slot_list_lt (J7 PySem.F.slot_list_lt (T:="list") ⟨_,ho,rfl⟩ PySem.F.entry_list_lt (PySem.F.args_list_lt_2 _ _) (Au a b its q n n2 dd U sl Y ns ms hi hj) ⟨ho,Z,?_⟩));exact Jn h
theorem l_{α:Type}{P:Value->α->Prop}:∀{us:List Value}{xs:List α},Paired P us xs->∀(i:Nat) (hi:i<us.length),∃x,xs[i]?=some x/\P us[i] x
 | _,_,.cons q _,0,_=>⟨_,rfl,q⟩
 | _,_,.cons _ r,i+1,hi=>by simpa using l_ r i (by simpa using hi)
def sD{vs:List Value}{Rs:List (List Int)}{Q:SortKind->Shared->Prop}(h2:2<=vs.length)(D:Paired (kA s.heap) vs Rs)(h:Q oneType' s):wpAny (model prog w) A (keyKind' vs.toArray) Q E s:=by
 refine kas_kind (T:=Value.type "list") h2 (λv hm=>?_) (by simp) (by simp) h;obtain⟨i,hi,rfl⟩:=mem_iff_getElem.mp hm;obtain⟨x,_,a,its,e,⟨o,ho,hc,n,hd⟩,_⟩:=l_ D i hi;rw[e];have q:Looks (model prog w) s.heap (typeOf (.ref a)) o.cls:=(Looks.ld ho).andThen .now;rw[hc]at q;exact q
theorem iC{P:Value->List Int->Prop}:∀{us:List Value}{xs:List (List Int)},Paired P us xs->∀i,i<us.length->P (us.getD i Value.none) (xs.getD i [])
 | _,_,.cons q _,0,_=>by simpa using q
 | _,_,.cons _ r,i+1,hi=>by simpa using iC r i (by simpa using hi)
def o5{x:Value}{vs:List Value}{Rs:List (List Int)}{Q:Value->Shared->Prop}(Z:vs.length<64)(hu:A.units+2<cLine)(Y:Paired (kA s.heap) vs Rs)
  (U:∀(Q':List Value->Shared->Prop),(∀(h':Heap),(∀b o,s.heap.get? b=some o->h'.get? b=some o)->Q' vs { s with heap:=h' })->wpAny (model prog w) A.in1 (collect x) Q' E s)
  (h:∀(h1 h':Heap) (p:Array Nat) (c:Nat),(∀b o,s.heap.get? b=some o->h1.get? b=some o)->(∀b o,h1.get? b=some o->h'.get? b=some o)->h'.get? h1.objs.size=some { cls:=.type "list",data:=.seq (p.toList.map λi=>vs.getD i Value.none).toArray c } ->
   PB vs.length p->p.toList.map (λi=>Rs.getD i [])=sortT Rs->Q (.ref h1.objs.size) { s with heap:=h' }) :
  wpAny (model prog w) A (call (.builtin "sorted") [x]) Q E s:=by
 have D:vs.length=Rs.length:=Paired.length Y;refine KC kind_sorted plain_sorted entry_sorted (args_sorted1 _) ?_;unfold Builtin.«sorted»;refine hU (m:=checkCount "sorted" 1 1 _) (kv ?_);refine hU (U _ λh1 kp=>?_);refine hU (Lk ?_ (by rw[Jl];omega));have J:(h1.push (seqObj "list" vs.toArray 0)).get? h1.objs.size=some (seqObj "list" vs.toArray 0):=pe _ rfl;have up:∀(s':Shared),(∀b o,b≠h1.objs.size->(h1.push (seqObj "list" vs.toArray 0)).get? b=some o->s'.heap.get? b=some o)->∀b o,s.heap.get? b=some o->s'.heap.get? b=some o:=λs' k b o e =>
  k b o (IL (tr (kp b o e))) (i2 _ (kp b o e))
 refine hU (JJ (Jg slot_list_sort ⟨_,J,rfl⟩ entry_list_sort (iX (KO:=λg=>g=oneType') (O:=cH) (key:=λi=>Rs.getD i []) J Z (λh2 s' Q' k q=>sD h2 (Paired.mapP Y λ_ _ z=>z.mono (up s' k)) (q _ rfl)) (λg a0 s' i j C k hi hj q=>?_) λp hp hr=>⟨_,rfl,?_⟩) (args_list_sort _)))
 .rw[a0];exact xM (show A.units+1+1<cLine from hu) ((iC Y i hi).mono (up s' k)) ((iC Y j hj).mono (up s' k)) q
 .obtain⟨c,hc⟩:=sortedHeap_at (out:=(p.toList.map λi=>vs.getD i Value.none).toArray) (vs:=vs) J;have a1:PB Rs.length p:=by rw[<- D];exact hp
  have a2:eZ (O:=cH) (λi=>Rs.getD i []) p Rs.length:=by rw[<- D];exact hr
  refine kv ⟨_,rfl,h h1 _ p c kp (λb o e=>?_) hc hp (xt (O:=cH) (d:=([]:List Int)) (xs:=Rs) a1 a2)⟩;have hb:b<h1.objs.size:=tr e;rw[sortedHeap_old (IL hb) (by rw[Ja];exact Ji hb)];exact i2 _ e
end
end L2.Srt
namespace L2
open PySem PySem.Spec PyProof.Rows List Option
section
variable{X:Cx}
abbrev xN(K:LI)(H:Hp):List V->List (List Int)->Prop:=Paired λx t=>∃a,x=V.ref a/\SqL K H a (t.map V.int)
theorem Inv.lstsAt{pins:List (Addr×Obj)}{σ:St}{H:Hp}{s:Shared}(I:Inv X pins σ H s):∀{xs:List V}{us:List Value}{Rs:List (List Int)},xN X.K H xs Rs->aA xs us->Paired (Srt.kA s.heap) us Rs
 | _,_,_,.nil,.nil=>.nil
 | _,_,_,.cons ⟨a,D,J⟩ t,.cons r q=>by
  obtain⟨its,U,p,_⟩:=I.list J;rw[D]at r;exact .cons ⟨a,its.toArray,r,p.isList,dy U⟩ (I.lstsAt t q)
def C6(X:Cx):List V->Hp->VK->Prop:=λxs H Q=>∃(p:Addr) (vs:List V) (Rs:List (List Int)),xs=[.ref p]/\(SqL X.K H p vs\/SqT X.K H p vs)/\xN X.K H vs Rs/\Rs.length<64 /\
 ∀(l:Addr) (pm:List Nat),H l=none->(∀i∈pm,i<vs.length)->pm.map (λi=>Rs.getD i [])=Srt.sortT Rs->Q (.ref l) (upd H l (.lst (pm.map λi=>vs.getD i .non)))
def o6 (hu:X.A.units+64<cLine):bM X (.builtin "sorted") (C6 X):=by
 intro pins s σ H xs us Q I r h;obtain⟨p,vs,Rs,rfl,Y,ht,a2,q⟩:=h;obtain⟨u,rfl,rx⟩:=dQ r;cases rx;have key:∀(its:List Value),aA vs its->(∀(Q':List Value->Shared->Prop),(∀(h':Heap),(∀b o,s.heap.get? b=some o->h'.get? b=some o)->Q' its { s with heap:=h' })->wpAny (model X.prog X.w) X.A.in1 (collect (.ref p)) Q' X.xe s) ->
   wpAny (model X.prog X.w) X.A (call (.builtin "sorted") [.ref p]) (EP X pins σ Q) X.xe s:=λits D Z=>by
  have hl:=D.length;have a4:vs.length=Rs.length:=Paired.length ht;refine Srt.o5 (vs:=its) (Rs:=Rs) (by omega) (by omega) (I.lstsAt ht D) Z λh1 h' pm c k1 k2 e hp ho=>?_
  have ao:∀i∈pm.toList,i<vs.length:=λi hi=>by
   have:=(J4.mp hp).mem_iff.mp hi;have:=mem_range.mp (by simpa using this);omega
  have I1:Inv X pins σ H { s with heap:=h1 }:=I.kept (t':=s.toks) k1;have I2:Inv X pins σ (upd H h1.objs.size (.lst (pm.toList.map λi=>vs.getD i .non))) { s with heap:=h' }:=
   I1.laid (t':=s.toks) k2 (pd _) (show bX X.prog X.w _ h' _ (.lst _)from⟨by have:=hp.size;rw[ox,Array.length_toList,Jl];omega,_,c,jM D _ ao,e⟩)
  exact⟨.ref h1.objs.size,_,I2,rfl,q _ pm.toList (I1.hok.fresh (pd _)) ao ho⟩
 rcases Y with Y|Y
 .obtain⟨its,D,pl,hz⟩:=I.list Y;obtain⟨o,ho,J,n,hd⟩:=pl.isList;refine key its D λQ' U=>J6 p (.inl rfl) ho J hd (λh' kp=>?_) (by have:=D.length;simp only[pb]<;>omega)
  have:=U h' kp;simpa using this
 .obtain⟨its,D,pl,hz⟩:=I.tuple Y;obtain⟨o,ho,J,n,hd⟩:=pl;refine key its D λQ' U=>J6 p (.inr rfl) ho J hd (λh' kp=>?_) (by have:=D.length;simp only[pb]<;>omega)
  have:=U h' kp;simpa using this
end
end L2
namespace MM
open PySem List Option
inductive Sc where
 | non|bl (b:Bool)|int (i:Int)|str (x:Str)
 deriving Inhabited,DecidableEq
inductive DD where
 | k (kvs:List (Int×Sc))|t (kvs:List (List Int×Sc))
 deriving Inhabited
inductive PV where
 | non|bl (b:Bool)|int (i:Int)|str (x:Str)|tup (xs:List PV)|lst (xs:List PV)|dI (d:DD)
 | dL (w m:List PV)
 deriving Inhabited
noncomputable def Sc.pv:Sc->PV
 | .non=>.non
 | .bl b=>.bl b
 | .int i=>.int i
 | .str x=>.str x
noncomputable def sc?:PV->Option Sc
 | .non=>some .non
 | .bl b=>some (.bl b)
 | .int i=>some (.int i)
 | .str x=>some (.str x)
 | _=>none
noncomputable def um{α:Type} [DecidableEq α] (kvs:List (α×Sc)) (k:α):Option Sc:=(kvs.find? λp=>decide (p.1=k)).map (·.2)
noncomputable def uq{α:Type} [DecidableEq α] (kvs:List (α×Sc)) (k:α) (v:Sc):List (α×Sc):=
 if (kvs.any λp=>decide (p.1=k))=true then kvs.map (λp=>if p.1=k then(p.1,v)else p)else kvs++[(k,v)]
noncomputable def eqL(f:PV->PV->Option Bool):List PV->List PV->Option Bool
 | [],[]=>some true
 |x::xs,y::ys=>(f x y).bind λp=>(eqL f xs ys).map λq=>p&&q
 | _,_=>some false
noncomputable def eqF:Nat->PV->PV->Option Bool
 | _,.non,.non=>some true
 | _,.bl a,.bl b=>some (a==b)
 | _,.bl a,.int b=>some ((if a then 1 else 0)==b)
 | _,.int a,.bl b=>some (a==(if b then 1 else 0))
 | _,.int a,.int b=>some (a==b)
 | _,.str a,.str b=>some (a==b)
 |0,.tup _,.tup _=>none
 |0,.lst _,.lst _=>none
 | _,.dI _,_=>none
 | _,_,.dI _=>none
 | _,.dL _ _,_=>none
 | _,_,.dL _ _=>none
 |n+1,.tup a,.tup b=>eqL (eqF n) a b
 |n+1,.lst a,.lst b=>if a.length=b.length then eqL (eqF n) a b else some false
 | _,_,_=>some false
noncomputable def qF:PV->PV->Bool
 | .tup _,.tup _=>true
 | .lst _,.lst _=>true
 | .tup _,_=>false
 | _,.tup _=>false
 | .lst _,_=>false
 | _,.lst _=>false
 | .bl _,.int _=>false
 | .int _,.bl _=>false
 | .dI _,_=>false
 | _,.dI _=>false
 | .dL _ _,_=>false
 | _,.dL _ _=>false
 | _,_=>true
noncomputable def inL(f:PV->Option Bool):List PV->Option Bool
 | []=>some false
 |y::ys=>(f y).bind λp=>(inL f ys).map λq=>p||q
inductive MV where
 | val (v:PV)|own (xs:List PV)|brw (xs:List PV)|ownD (d:DD)|brwD (d:DD)
 | ownO (m:Bool) (fs xs:List PV)|brwO (fs xs:List PV)
 deriving Inhabited
noncomputable abbrev Rho:=List (Option MV)
noncomputable def uu:Option MV->Option (List PV)
 |some (.brw xs)=>some xs
 |some (.val (.lst xs))=>some xs
 | _=>none
noncomputable def vX(G:Rho)(k:Nat):Bool:=match G[k]? with|some none=>true|_=>false
inductive Op2 where
 | add|sub|mul|fdiv|mod|pow|shr
inductive Cp where
 | eq|ne|lt|le|gt|ge|isN|notN|isIn|notIn
inductive Blt where
 | len|tupleOf|listOf|sorted|any|all|sum|max1|min1|max2|min2|intOf|boolOf|isInt|isBool|isStr|isList|isTuple
 | sortedSet|lenSet|lenSetSub|sortedKeys|valuesOf|tupleRev
 | strOf
 deriving DecidableEq
inductive Sk where
 | seq|rng|enm|rev
 | chr
noncomputable def sk2:Sk:=.enm
set_option genInjectivity false in
inductive ME where
 | var (i:Nat)
 | bor (i:Nat)
 | cst (v:PV)
 | glob (x:Str) (v:PV)
 | bin (op:Op2) (a b:ME)
 | neg (a:ME)
 | not (a:ME)
 | and (a b:ME)
 | or (a b:ME)
 | ite (c a b:ME)
 | cmp (op:Cp) (a b:ME)
 | chain (op op':Cp) (a b c:ME)
 | tup (es:List ME)
 | lst (es:List ME)
 | idx (a i:ME)
 | slice (a lo hi:ME)
 | blt (b:Blt) (es:List ME)
 | call (f:Nat) (es:List ME)
 | callD (f:Nat) (es:List ME) (d:List Sc)
 | comp (k:Sk) (src:List ME) (js:List Nat) (cond elt:ME)
 | dget (a k d:ME)
 | dat (a k:ME)
 | dIn (neg:Bool) (k a:ME)
 | datL (e:ME) (b:Bool)
 | disp (kvs:List (Str×Str)) (e:ME)
 | join (x:Str) (e:ME)
 | fld (i n:Nat)
 | fldL (i:Nat)
 | inO (neg:Bool) (e:ME) (i:Nat)
 | callM (f i:Nat) (es:List ME)
 | comp2 (src:List ME) (js:List Nat) (cond elt:ME)
 | callV (f:Nat) (es:List ME)
 | split (a:ME) (y:Str)
 deriving Inhabited
noncomputable def bO:List PV->Option (List Int)
 | []=>some []
 | .int i::r=>(bO r).map (i::·)
 | _=>none
noncomputable def kB:List PV->Option (List (List Int))
 | []=>some []
 | .tup xs::r=>(bO xs).bind λx=>(kB r).map (x::·)
 | _=>none
noncomputable def cq:Bool->List Int->List Int
 | _,[]=>[]
 |true,x::xs=>x::cq false xs
 |false,_::xs=>cq true xs
noncomputable def bg (t:Str) (n:Nat):Str:=if n % 2=0 then t else if t="weaver" then "moth" else "weaver"
noncomputable def fC:List PV->Option (List (List Int))
 | []=>some []
 | .lst xs::r=>(bO xs).bind λx=>(fC r).map (x::·)
 | _=>none
noncomputable def d6:List PV->Option (List Bool)
 | []=>some []
 | .bl i::r=>(d6 r).map (i::·)
 | _=>none
noncomputable def iq(kvs:List (Str×Str)):List (L2.Key×L2.V):=kvs.map λp=>(Sum.inr p.1,L2.V.str p.2)
noncomputable def Av(kvs:List (Str×Str)):PV->Option PV
 | .str x=>(L2.iu (L2.d4 [] (iq kvs)) (Sum.inr x)).bind λv=>match v with|.str y=>some (.str y)|_=>none
 | _=>none
noncomputable def i5:List PV->Option (List Str)
 | []=>some []
 | .str i::r=>(i5 r).map (i::·)
 | _=>none
noncomputable def ay(n:Int):Str:=Str.ofString (toString n)
noncomputable def xO(x:Str):PV->Option PV
 | .lst xs=>(i5 xs).bind λws=>if (ws.map λy=>y.length+x.length).sum<=1000000 then some (.str (Builtin.Str.glued x ws))else none
 | _=>none
noncomputable def xP:PV->PV->Option (Option Sc)
 | .dI (.k kvs),.int i=>some (um kvs i)
 | .dI (.t kvs),.tup xs=>(bO xs).map (um kvs)
 | _,_=>none
noncomputable def C7:DD->PV->Sc->Option DD
 | .k kvs,.int i,s=>if kvs.length<10000 then some (.k (uq kvs i s))else none
 | .t kvs,.tup xs,s=>(bO xs).bind λk=>if kvs.length<10000 then some (.t (uq kvs k s))else none
 | _,_,_=>none
noncomputable def dSc:DD->List Sc
 | .k kvs=>kvs.map (·.2)
 | .t kvs=>kvs.map (·.2)
noncomputable def uv(d:DD):List PV:=(dSc d).map Sc.pv
noncomputable def lexLt:List Int->List Int->Bool
 | [],[]=>false
 | [],_::_=>true
 | _::_,[]=>false
 |x::xs,y::ys=>if x=y then lexLt xs ys else decide (x<y)
noncomputable def xQ(x:Int):List Int->List Int
 | []=>[x]
 |y::r=>if y<x then y::xQ x r else x::y::r
noncomputable def sortI:List Int->List Int
 | []=>[]
 |x::r=>xQ x (sortI r)
noncomputable def xR(x:List Int):List (List Int)->List (List Int)
 | []=>[x]
 |y::r=>if lexLt y x=true then y::xR x r else x::y::r
noncomputable def sortT:List (List Int)->List (List Int)
 | []=>[]
 |x::r=>xR x (sortT r)
noncomputable def dd:List Int->List Int
 | []=>[]
 |x::r=>if x∈dd r then dd r else x::dd r
noncomputable def i6{α:Type}(f:Int->Int->Option α):PV->PV->Option α
 | .int i,.int j=>f i j
 | _,_=>none
noncomputable def BS:PV->PV->Option PV
 | .int i,.int j=>some (.int (i+j))
 | .lst a,.lst b=>if a.length+b.length<=10000 then some (.lst (a++b))else none
 | .tup a,.tup b=>if a.length+b.length<=10000 then some (.tup (a++b))else none
 | .str a,.str b=>if a.length+b.length<=1000000 then some (.str (a++b))else none
 | _,_=>none
noncomputable def gL(op:Op2):PV->PV->Option PV:=match op with
 | .add=>BS
 | .sub=>i6 λi j=>some (.int (i-j))
 | .mul=>i6 λi j=>if (-(2 ^ 64)<i/\i<2 ^ 64)\/(-(2 ^ 64)<j/\j<2 ^ 64)then some (.int (i*j))else none
 | .fdiv=>i6 λi j=>if 0<j/\j<1073741824 then some (.int (i / j))else none
 | .mod=>i6 λi j=>if 0<j then some (.int (i % j))else none
 | .pow=>i6 λi j=>if 0<=j/\j<=1000000/\i.natAbs<2 ^ 64 then some (.int (i ^ j.toNat))else none
 | .shr=>i6 λi j=>if 0<=j then some (.int (i / 2 ^ j.toNat))else none
noncomputable def gM:PV->Bool
 | .non=>true
 | _=>false
noncomputable def isIn(x:PV)(xs:List PV):Option Bool:=inL (λy=>eqF 100 y x) xs
noncomputable def F2(a b:PV):Option Bool:=match b with
 | .non=>some (gM a)
 | .bl q=>(match a with|.bl p=>some (p==q)|_=>none)
 | _=>none
noncomputable def bq:PV->Option (List PV)
 | .tup xs=>some xs
 | .lst xs=>some xs
 | _=>none
noncomputable def gN:PV->Option (List PV)
 | .lst xs=>some xs
 | _=>none
noncomputable def sE(a:PV):PV->Option Bool
 | .str y=>match a with|.str x=>some (!(Builtin.Str.occurrences y x 0 y.length 1).isEmpty)|_=>none
 |b=>(bq b).bind (isIn a)
noncomputable def cb(op:Cp):PV->PV->Option Bool:=match op with
 | .eq=>eqF 100
 | .ne=>λa b=>if qF a b=true then(eqF 100 a b).map λp=>!p else none
 | .lt=>i6 λi j=>some (decide (i<j))
 | .le=>i6 λi j=>some (decide (i<=j))
 | .gt=>i6 λi j=>some (decide (j<i))
 | .ge=>i6 λi j=>some (decide (j<=i))
 | .isN=>F2
 | .notN=>λa b=>(F2 a b).map λp=>!p
 | .isIn=>sE
 | .notIn=>λa b=>(sE a b).map λp=>!p
noncomputable def place(n:Nat)(i:Int):Option Nat:=
 if 0<=i then(if i<n then some i.toNat else none)else if -(n:Int)<=i then some (i+n).toNat else none
noncomputable def gO:PV->PV->Option PV
 | .tup xs,.int i=>(place xs.length i).bind λj=>xs[j]?
 | .lst xs,.int i=>(place xs.length i).bind λj=>xs[j]?
 | .str x,.int i=>if x.length<=1000 then(place x.cps.toList.length i).bind λj=>(x.cps.toList[j]?).map λc=>.str ⟨#[c]⟩else none
 | _,_=>none
noncomputable def dS(n d:Nat):Option Int->Nat
 |none=>d
 |some i=>if i<0 then(i+n).toNat else min i.toNat n
noncomputable def cut(xs:List PV)(lo hi:Option Int):List PV:=(xs.drop (dS xs.length 0 lo)).take (dS xs.length xs.length hi-dS xs.length 0 lo)
noncomputable def gh:PV->Option Int->Option Int->Option PV
 | .lst xs,lo,hi=>some (.lst (cut xs lo hi))
 | .tup xs,lo,hi=>some (.tup (cut xs lo hi))
 | _,_,_=>none
noncomputable def bnd:ME->PV->Option (Option Int)
 | .cst .non,_=>some none
 | _,.int i=>some (some i)
 | _,_=>none
noncomputable def F3:List Int->Option Int
 | []=>none
 |x::r=>some (r.foldl (λa b=>if a<b then b else a) x)
noncomputable def d7(xs:List PV):Option PV:=
 if xs.length<64 then
  match bO xs with
  |some ns=>some (.lst ((sortI ns).map .int))
  |none=>match kB xs with
   |some q=>some (.lst ((sortT q).map λt=>.tup (t.map .int)))
   |none=>(fC xs).map λq=>.lst ((sortT q).map λt=>.lst (t.map .int))
 else none
noncomputable def isT(b:Blt):PV->Bool
 | .int _=>b==.isInt
 | .bl _=>b==.isInt||b==.isBool
 | .str _=>b==.isStr
 | .lst _=>b==.isList
 | .tup _=>b==.isTuple
 | .non=>false
 | .dI _=>false
 | .dL _ _=>false
noncomputable def isD:PV->Bool
 | .dI _=>true
 | .dL _ _=>true
 | _=>false
noncomputable def cx(vs:List PV)(f:PV->Option PV):Option PV:=match vs with
 | [a]=>f a
 | _=>none
noncomputable def kL(vs:List PV)(f:PV->PV->Option PV):Option PV:=match vs with
 | [a,b]=>f a b
 | _=>none
noncomputable def gP(b:Blt)(vs:List PV):Option PV:=cx vs λa=>if isD a=true then none else some (.bl (isT b a))
noncomputable def BT:PV->Option PV
 | .tup xs=>some (.int xs.length)
 | .lst xs=>some (.int xs.length)
 | .dI (.k kvs)=>some (.int kvs.length)
 | .str x=>if x.length<=1000 then some (.int x.length)else none
 | _=>none
noncomputable def aE(b:Blt)(vs:List PV):Option PV:=match b with
 | .len=>cx vs BT
 | .tupleOf=>cx vs λa=>(bq a).map .tup
 | .listOf=>cx vs λa=>(bq a).map .lst
 | .sorted=>cx vs λa=>(bq a).bind d7
 | .any=>cx vs λa=>(gN a).bind λxs=>(d6 xs).map λbs=>.bl (bs.any id)
 | .all=>cx vs λa=>(gN a).bind λxs=>(d6 xs).map λbs=>.bl (bs.all id)
 | .sum=>cx vs λa=>(gN a).bind λxs=>(bO xs).map λns=>.int ns.sum
 | .max1=>cx vs λa=>(gN a).bind λxs=>(bO xs).bind λns=>(F3 ns).map .int
 | .min1=>none
 | .max2=>kL vs (i6 λi j=>some (.int (if j > i then j else i)))
 | .min2=>kL vs (i6 λi j=>some (.int (if j<i then j else i)))
 | .intOf=>cx vs λa=>match a with|.int i=>some (.int i)|.bl b=>some (.int (if b then 1 else 0))|.str x=>if x.length<=640 then(intText? x).map .int else none|_=>none
 | .boolOf=>cx vs λa=>match a with|.bl b=>some (.bl b)|_=>none
 | .isInt=>gP .isInt vs
 | .isBool=>gP .isBool vs
 | .isStr=>gP .isStr vs
 | .isList=>gP .isList vs
 | .isTuple=>gP .isTuple vs
 | .sortedSet=>cx vs λa=>(bq a).bind λxs=>(bO xs).bind λns=>if ns.length<=4000/\(dd ns).length<64 then some (.lst ((sortI (dd ns)).map .int))else none
 | .lenSet=>cx vs λa=>(bq a).bind λxs=>(bO xs).bind λns=>if ns.length<=4000 then some (.int (dd ns).length)else none
 | .lenSetSub=>kL vs λa b=>(bq a).bind λxs=>(bO xs).bind λns=>(bq b).bind λys=>(bO ys).bind λms =>
   if ns.length<=4000/\ms.length<=4000/\(dd ns).length<=60 then some (.int ((dd ns).filter λn=>!decide (n∈ms)).length)else none
 | .sortedKeys=>cx vs λa=>match a with|.dI (.k kvs)=>if kvs.length<64 then some (.lst ((sortI (kvs.map (·.1))).map .int))else none|_=>none
 | .tupleRev=>cx vs λa=>(gN a).map λxs=>.tup xs.reverse
 | .strOf=>cx vs λa=>match a with|.int i=>if i.natAbs<2 ^ 64 then some (.str (ay i))else none|.str x=>some (.str x)|_=>none
 | .valuesOf=>cx vs λa=>match a with|.dI d=>if (uv d).length<=10000 then some (.lst (uv d))else none|_=>none
noncomputable def b7(n:Nat):List PV->List PV
 | []=>[]
 |x::r=>.tup [.int (n:Nat),x]::b7 (n+1) r
noncomputable def cm:Sk->List PV->Option (List PV)
 | .seq,[a]=>bq a
 | .rng,[.int j]=>if -(2 ^ 62)<=j/\j<2 ^ 62 then some ((range j.toNat).map λ(k:Nat)=>.int ((0:Int)+k))else none
 | .rng,[.int i,.int j]=>if -(2 ^ 62)<=i/\i<2 ^ 62/\-(2 ^ 62)<=j/\j<2 ^ 62 then some ((range (j-i).toNat).map λ(k:Nat)=>.int (i+k))else none
 | .enm,[a]=>(bq a).map (b7 0)
 | .rev,[.lst xs]=>some xs.reverse
 | .chr,[.str x]=>if x.cps.all (· < 128)=true then some (x.cps.toList.map λc=>.str ⟨#[c]⟩)else none
 | _,_=>none
noncomputable def ff(c:PV->Option Bool)(f:PV->Option PV):List PV->Option (List PV)
 | []=>some []
 |x::r=>(c x).bind λb=>if b=true then(f x).bind λy=>(ff c f r).map (y::·)else ff c f r
noncomputable def aS:PV->Option Bool
 | .bl b=>some b
 | _=>none
noncomputable abbrev Cal:=Nat->List MV->Option PV
noncomputable def xS:Option MV->Option PV
 |some (.val v)=>some v
 | _=>none
noncomputable def bx:Option MV->Option PV
 |some (.val v)=>some v
 |some (.own xs)=>some (.lst xs)
 |some (.brw xs)=>some (.lst xs)
 |some (.ownD kvs)=>some (.dI kvs)
 |some (.brwD kvs)=>some (.dI kvs)
 |some (.ownO _ _ _)=>none
 |some (.brwO _ _)=>none
 |none=>none
noncomputable def cR:Option MV->Option MV
 |some (.val v)=>some (.val v)
 |some (.own xs)=>some (.brw xs)
 |some (.brw xs)=>some (.brw xs)
 |some (.ownD xs)=>some (.brwD xs)
 |some (.brwD xs)=>some (.brwD xs)
 |some (.ownO _ fs xs)=>some (.brwO fs xs)
 |some (.brwO fs xs)=>some (.brwO fs xs)
 |none=>none
noncomputable def dw:Option MV->Option MV
 |some (.own xs)=>some (.brw xs)
 |some (.ownD xs)=>some (.brwD xs)
 |some (.ownO _ fs xs)=>some (.brwO fs xs)
 |o=>o
noncomputable def cW(js:List Nat)(G:Rho)(x:PV):Rho:=some (.val x)::js.map λj=>dw (G[j]?).join
noncomputable def gQ:Option MV->Option (List PV×List PV)
 |some (.ownO _ fs xs)=>some (fs,xs)
 |some (.brwO fs xs)=>some (fs,xs)
 | _=>none
noncomputable def nM:Option MV->Option PV
 |some (.brwO _ xs)=>some (.lst xs)
 | _=>none
noncomputable def unB:MV->MV
 | .brw xs=>.val (.lst xs)
 |m=>m
noncomputable def F4(js:List Nat)(G:Rho):PV->Rho
 | .tup [a,b]=>some (.val a)::some (.val b)::js.map λj=>dw (G[j]?).join
 | _=>[]
noncomputable def BU:Option MV->Option PV
 |some (.ownO _ _ xs)=>some (.lst xs)
 | _=>none
noncomputable def i7(y:Str):PV->Option PV
 | .str x=>if x.length<=1000000/\(Txt.split x y).length<=1000000/\(y.length==0)=false then some (.lst ((Txt.split x y).map .str))else none
 | _=>none
mutual
noncomputable def ev(cal:Cal):ME->Rho->Option PV
 | .var i,G=>xS (G[i]?).join
 | .bor i,G=>bx (G[i]?).join
 | .cst v,_=>some v
 | .glob _ v,_=>some v
 | .bin op a b,G=>(ev cal a G).bind λx=>(ev cal b G).bind λy=>gL op x y
 | .neg a,G=>(ev cal a G).bind λx=>match x with|.int i=>some (.int (-i))|_=>none
 | .not a,G=>((ev cal a G).bind aS).map λb=>.bl (!b)
 | .and a b,G=>((ev cal a G).bind aS).bind λc=>if c=true then(ev cal b G).bind λy=>(aS y).map .bl else some (.bl false)
 | .or a b,G=>((ev cal a G).bind aS).bind λc=>if c=true then some (.bl true)else(ev cal b G).bind λy=>(aS y).map .bl
 | .ite c a b,G=>((ev cal c G).bind aS).bind λk=>if k=true then ev cal a G else ev cal b G
 | .cmp op a b,G=>(ev cal a G).bind λx=>(ev cal b G).bind λy=>(cb op x y).map .bl
 | .chain op q a b c,G=>(ev cal a G).bind λx=>(ev cal b G).bind λy=>(cb op x y).bind λk=>if k=true then(ev cal c G).bind λz=>(cb q y z).map .bl else some (.bl false)
 | .tup es,G=>(evs cal es G).bind λvs=>if vs.length<=10000 then some (.tup vs)else none
 | .lst es,G=>(evs cal es G).bind λvs=>if vs.length<=10000 then some (.lst vs)else none
 | .idx a i,G=>(ev cal a G).bind λx=>(ev cal i G).bind λy=>gO x y
 | .slice a lo hi,G=>(ev cal a G).bind λx=>((ev cal lo G).bind λl=>bnd lo l).bind λl=>((ev cal hi G).bind λh=>bnd hi h).bind λh=>gh x l h
 | .blt b es,G=>(evs cal es G).bind λvs=>aE b vs
 | .call f es,G=>(evA cal es G).bind λvs=>cal f vs
 | .callD f es d,G=>(evA cal es G).bind λvs=>cal f (vs++d.map λx=>.val x.pv)
 | .comp k src js cond elt,G=>(evs cal src G).bind λvs=>(cm k vs).bind λxs =>
   if xs.length<=10000 then(ff (λx=>(ev cal cond (cW js G x)).bind aS) (λx=>ev cal elt (cW js G x)) xs).map .lst else none
 | .dget a k d,G=>(ev cal a G).bind λx=>(ev cal k G).bind λy=>(ev cal d G).bind λz=>(xP x y).bind λo=>(sc? z).map λs=>(o.getD s).pv
 | .dat a k,G=>(ev cal a G).bind λx=>(ev cal k G).bind λy=>(xP x y).bind λo=>o.map Sc.pv
 | .dIn neg k a,G=>(ev cal k G).bind λy=>(ev cal a G).bind λx=>(xP x y).map λo=>.bl (if neg=true then !o.isSome else o.isSome)
 | .datL e b,G=>(ev cal e G).bind λv=>match v with|.dL w m=>some (.lst (if b=true then w else m))|_=>none
 | .disp kvs e,G=>(ev cal e G).bind (Av kvs)
 | .join x e,G=>(ev cal e G).bind (xO x)
 | .fld i n,G=>(gQ (G[i]?).join).bind λo=>o.1[n]?
 | .fldL i,G=>nM (G[i]?).join
 | .inO neg e i,G=>(ev cal e G).bind λy=>(BU (G[i]?).join).bind λx=>(cb (if neg=true then .notIn else .isIn) y x).map .bl
 | .callM f i es,G=>(gQ (G[i]?).join).bind λo=>(evA cal es G).bind λvs=>cal f (.brwO o.1 o.2::vs)
 | .callV f es,G=>(evA cal es G).bind λvs=>(cal f (vs.map unB)).bind λr=>(sc? r).map λ_=>r
 | .comp2 src js cond elt,G=>(evs cal src G).bind λvs=>(cm sk2 vs).bind λxs =>
   if xs.length<=10000 then(ff (λx=>(ev cal cond (F4 js G x)).bind aS) (λx=>ev cal elt (F4 js G x)) xs).map .lst else none
 | .split a y,G=>(ev cal a G).bind λv=>i7 y v
noncomputable def evs(cal:Cal):List ME->Rho->Option (List PV)
 | [],_=>some []
 |e::es,G=>(ev cal e G).bind λv=>(evs cal es G).map (v::·)
noncomputable def evA(cal:Cal):List ME->Rho->Option (List MV)
 | [],_=>some []
 | .bor i::es,G=>(cR (G[i]?).join).bind λv=>(evA cal es G).map (v::·)
 | .fldL _::_,_=>none
 |e::es,G=>(ev cal e G).bind λv=>(evA cal es G).map (MV.val v::·)
end
noncomputable def evB(cal:Cal)(e:ME)(G:Rho):Option Bool:=(ev cal e G).bind aS
set_option genInjectivity false in
inductive MS where
 | set (i:Nat) (e:ME)
 | setOwn (i:Nat) (e:ME)
 | freeze (i:Nat)
 | append (i:Nat) (e:ME)
 | extend (i:Nat) (e:ME)
 | mkO (i:Nat) (es:List ME)
 | appO (i:Nat) (e:ME)
 | retT (e:ME)
 | takeO (j:Option Nat) (i f:Nat) (es:List ME)
 | setIdx (i:Nat) (k v:ME)
 | unpack (is:List Nat) (e:ME)
 | expr (e:ME)
 | ite (c:ME) (a b:List MS)
 | for1 (i:Nat) (k:Sk) (src:List ME) (body:List MS)
 | forT (is:List Nat) (k:Sk) (src:List ME) (body:List MS)
 | while (n:Nat) (c:ME) (body:List MS)
 | ret (e:ME)
 | retOwn (i:Nat)
 | retN
 | brk
 | cont
 | pass
 | never
 | newD (m:Bool) (i:Nat)
 | retF (e:ME)
 | setCall (i f:Nat) (es:List ME)
 | clear (i:Nat)
 | own3 (i j k d:Nat) (h:ME)
 | dput (i:Nat) (k v:ME)
 deriving Inhabited
inductive R where
 | next (G:Rho)|brk (G:Rho)|cont (G:Rho)|ret (v:PV)|bad
 | retF (xs:List PV)
 | retT (v:Sc) (G:Rho)
 deriving Inhabited
noncomputable def R.andThen:R->(Rho->R)->R
 | .next G,k=>k G
 |r,_=>r
noncomputable def put(G:Rho)(i:Nat)(v:MV):Rho:=G.set i (some v)
noncomputable def dU(o:Option PV)(k:PV->R):R:=match o with
 |some v=>k v
 |none=>.bad
noncomputable def xT(o:Option Bool)(k:Bool->R):R:=match o with
 |some v=>k v
 |none=>.bad
noncomputable def sF:List Nat->List PV->Rho->Option Rho
 | [],[],G=>some G
 |i::is,v::vs,G=>sF is vs (put G i (.val v))
 | _,_,_=>none
noncomputable def gS(is:List Nat):PV->Rho->Option Rho
 | .tup vs,G=>sF is vs G
 | _,_=>none
noncomputable def eF(o:Option Rho)(f:Rho->R):R:=match o with
 |some G=>f G
 |none=>.bad
noncomputable def aT(body:PV->Rho->R):List PV->Rho->R
 | [],G=>.next G
 |x::r,G=>match body x G with
  | .next C=>aT body r C
  | .cont C=>aT body r C
  | .brk C=>.next C
  | .ret v=>.ret v
  | .bad=>.bad
  | .retF xs=>.retF xs
  | .retT v C=>.retT v C
noncomputable def o7(c:Rho->Option Bool)(body:Rho->R):Nat->Rho->R
 |0,_=>.bad
 |n+1,G=>match c G with
  |none=>.bad
  |some false=>.next G
  |some true=>match body G with
   | .next C=>o7 c body n C
   | .cont C=>o7 c body n C
   | .brk C=>.next C
   | .ret v=>.ret v
   | .bad=>.bad
   | .retF xs=>.retF xs
   | .retT v C=>.retT v C
noncomputable def bD(src:List ME)(G:Rho):Rho:=match src with
 | [.bor i]=>(match (G[i]?).join with|some (.own xs)=>put G i (.brw xs)|_=>G)
 | _=>G
noncomputable def bh(src:List ME)(q G:Rho):Rho:=match src with
 | [.bor i]=>(match (q[i]?).join,(G[i]?).join with|some (.own _),some (.brw xs)=>put G i (.own xs)|_,_=>G)
 | _=>G
noncomputable def R.back(src:List ME)(q:Rho):R->R
 | .next G=>.next (bh src q G)
 | .brk G=>.brk (bh src q G)
 | .cont G=>.cont (bh src q G)
 | .retT v G=>.retT v (bh src q G)
 |r=>r
noncomputable def isL:MV->Bool
 | .ownO _ _ _=>true
 | _=>false
noncomputable def Aw(G:Rho)(i:Nat):Bool:=(G.set i none).all λo=>match o with|some m=>!isL m|none=>true
noncomputable def sG:List PV->Option (List PV)
 | [.tup [c,r],o]=>some [c,r,o]
 | [.tup [c,r]]=>some [c,r,.str "weaver"]
 | _=>none
mutual
noncomputable def ex(cal:Cal):MS->Rho->R
 | .set i e,G=>dU (ev cal e G) λv=>.next (put G i (.val v))
 | .setOwn i e,G=>dU (ev cal e G) λv=>match v with|.lst xs=>.next (put G i (.own xs))|_=>.bad
 | .freeze i,G=>match (G[i]?).join with|some (.own xs)=>.next (put G i (.val (.lst xs)))|some _=>.next G|none=>.bad
 | .append i e,G=>dU (ev cal e G) λv=>match (G[i]?).join with
  |some (.own xs)=>if xs.length<10000 then .next (put G i (.own (xs++[v])))else .bad
  | _=>.bad
 | .extend i e,G=>dU (ev cal e G) λv=>match (G[i]?).join,bq v with
  |some (.own xs),some ys=>if xs.length+ys.length<=10000 then .next (put G i (.own (xs++ys)))else .bad
  | _,_=>.bad
 | .mkO i es,G=>match (evs cal es G).bind sG with
  |some fs=>if Aw G i=true/\cal 4000 []≠none then .next (put G i (.ownO false fs []))else .bad
  |none=>.bad
 | .appO i e,G=>dU (ev cal e G) λv=>match (G[i]?).join with
  |some (.ownO m fs xs)=>if xs.length<10000 then .next (put G i (.ownO m fs (xs++[v])))else .bad
  | _=>.bad
 | .retT e,G=>dU (ev cal e G) λv=>match sc? v with
  |some s=>.retT s G
  |none=>.bad
 | .takeO j i f es,G=>match (G[i]?).join with
  |some (.ownO m fs xs)=>(match (evs cal es G).bind λvs=>cal (f+3000) (.ownO true fs xs::vs.map .val)with
   |some (.tup [v,.lst ys])=>(match sc? v with
    |some _=>(match j with
     |some j=>if i=j then .bad else .next (put (put G i (.ownO m fs ys)) j (.val v))
     |none=>.next (put G i (.ownO m fs ys)))
    |none=>.bad)
   | _=>.bad)
  | _=>.bad
 | .setIdx i k v,G=>dU (ev cal v G) λv=>dU (ev cal k G) λk=>match (G[i]?).join,k with
  |some (.own xs),.int k=>(match place xs.length k with|some j=>.next (put G i (.own (xs.set j v)))|none=>.bad)
  | _,_=>.bad
 | .unpack is e,G=>dU (ev cal e G) λv=>eF (gS is v G) .next
 | .expr e,G=>dU (ev cal e G) λ_=>.next G
 | .ite c a b,G=>xT (evB cal c G) λk=>if k=true then exs cal a G else exs cal b G
 | .for1 i k src body,G=>match (evs cal src G).bind (cm k)with
  |some xs=>(aT (λx C=>exs cal body (put C i (.val x))) xs (bD src G)).back src G
  |none=>.bad
 | .forT is k src body,G=>match (evs cal src G).bind (cm k)with
  |some xs=>(aT (λx C=>eF (gS is x C) λq=>exs cal body q) xs (bD src G)).back src G
  |none=>.bad
 | .while n c body,G=>o7 (evB cal c) (λC=>exs cal body C) n G
 | .ret e,G=>dU (ev cal e G) .ret
 | .retOwn i,G=>match (G[i]?).join with|some (.own xs)=>.ret (.lst xs)|some (.ownD kvs)=>.ret (.dI kvs)|some (.val v)=>.ret v|_=>.bad
 | .newD m i,G=>.next (put G i (.ownD (if m=true then .t []else .k [])))
 | .dput i k v,G=>dU (ev cal v G) λv=>dU (ev cal k G) λk=>match (G[i]?).join,sc? v with
  |some (.ownD d),some s=>match C7 d k s with|some d'=>.next (put G i (.ownD d'))|none=>.bad
  | _,_=>.bad
 | .retF e,G=>dU (ev cal e G) λv=>match v with|.lst xs=>.retF xs|_=>.bad
 | .setCall i f es,G=>dU ((evA cal es G).bind λvs=>cal (f+1000) vs) λv=>match v with|.lst xs=>.next (put G i (.own xs))|_=>.bad
 | .clear i,G=>match (G[i]?).join with|some (.own _)=>.next (put G i (.own []))|_=>.bad
 | .retN,_=>.ret .non
 | .brk,G=>.brk G
 | .cont,G=>.cont G
 | .own3 i j k d h,G=>match uu (G[d]?).join,ev cal h G with
  |some xs,some (.str t)=>(match bO xs with
   |some ns=>if ns.length<=1000/\vX G k=true/\vX G i=true/\j<G.length/\(t="weaver" \/ t="moth")then .next (put (put G i (.val (.dL ((cq (t == "weaver") ns).map .int) ((cq (t == "moth") ns).map .int)))) j (.val (.str (bg t ns.length))))else .bad
   |none=>.bad)
  | _,_=>.bad
 | .pass,G=>.next G
 | .never,_=>.bad
noncomputable def exs(cal:Cal):List MS->Rho->R
 | [],G=>.next G
 |s::ss,G=>(ex cal s G).andThen λC=>exs cal ss C
end
structure MD where
 name:Str
 params:List Str
 names:List Str
 body:List MS
 meth:Option Str:=none
 deriving Inhabited
noncomputable def vY:Sc->Rho->Option PV
 |v,some (.ownO true _ xs)::_=>some (.tup [v.pv,.lst xs])
 | _,_=>none
noncomputable def ac(ds:List MD):Nat->Cal
 |0,_,_=>none
 |n+1,f,args=>match ds[f]? with
  |none=>if f=4000 then(if 1<=n then some (.bl true)else none)else if 2000<=f then(
   match ds[f-3000]? with
   |none=>none
   |some d=>if args.length=d.params.length then
     (match exs (ac ds n) d.body (args.map some++replicate (d.names.length-args.length) none)with
     | .retT v G=>vY v G
     | _=>none)else none)else
   (match ds[f-1000]? with
   |none=>none
   |some d=>if args.length=d.params.length then
     (match exs (ac ds n) d.body (args.map some++replicate (d.names.length-args.length) none)with
     | .retF xs=>some (.lst xs)
     | _=>none)else none)
  |some d=>if args.length=d.params.length then
    (match exs (ac ds n) d.body (args.map some++replicate (d.names.length-args.length) none)with
    | .next _=>some .non
    | .ret v=>some v
    | .retF xs=>some (.lst xs)
    | _=>none)else none
end MM
namespace MM
open PySem PySem.Spec PyProof.Rows L2 List Option
noncomputable abbrev St:=L2.St
noncomputable def ak(H:Hp)(O:List Addr):Hp:=λb=>if b∈O then none else H b
def dF(h:b∈O):ak H O b=none:=if_pos h
def aH(h:b∉O):ak H O b=H b:=if_neg h
theorem ag.rd(s:ag H H')(h:Rd H a u):Rd H' a u:=h.elim (λe=>.inl (s a _ e)) λq=>Ft q λo e=>.inr ⟨o,s a _ e⟩
def ba(H)(O):ag (ak H O) H:=λb u e=>by
 unfold ak at e
 simp_all
def aV(s:ag H H')(h:∀b∈O',b∈O\/H b=none):ag (ak H O) (ak H' O'):=λb u e=>by
 have D:b∉O:=λz=>by rw[dF z]at e;exact aP e
 rw[aH D]at e;rw[aH]
 .exact s b u e
 .intro z;rcases h b z with q|q
  .exact D q
  .rw[q]at e;exact aP e
def ah(s:ag H H'):ag (ak H O) (ak H' O):=aV s λ_ h=>.inl h
noncomputable def Sc.v:Sc->V
 | .non=>.non
 | .bl b=>.bl b
 | .int i=>.int i
 | .str x=>.str x
noncomputable def sH(kvs:List (Int×Sc)):List (Key×V):=kvs.map λp=>(Sum.inl p.1,p.2.v)
noncomputable def Ax(kvs:List (List Int×Sc)):List (List Key×V):=kvs.map λp=>(p.1.map Sum.inl,p.2.v)
noncomputable def qG:DD->HO
 | .k kvs=>.dK (sH kvs)
 | .t kvs=>.dT (Ax kvs)
abbrev RdD(F:Hp)(a:Addr)(d:DD):Prop:=Rd F a (qG d)
theorem RdD.rd(h:RdD F a d):Rd F a (qG d):=h
theorem ag.rdD(s:ag H H')(h:RdD H a d):RdD H' a d:=ag.rd s h
mutual
noncomputable def Rep(K:LI)(F:Hp):PV->V->Prop
 | .non,u=>u=.non
 | .bl b,u=>u=.bl b
 | .int i,u=>u=.int i
 | .str x,u=>u=.str x
 | .tup xs,u=>∃a us,u=.ref a/\F a=some (.tup us)/\Reps K F xs us
 | .lst xs,u=>∃a us,u=.ref a/\SqL K F a us/\Reps K F xs us
 | .dI kvs,u=>∃a,u=.ref a/\RdD F a kvs
 | .dL w m,u=>∃a J U q D,u=.ref a/\F a=some (.dK [(Sum.inr "weaver",.ref J),(Sum.inr "moth",.ref U)])/\SqL K F J q/\Reps K F w q/\SqL K F U D/\Reps K F m D
noncomputable def Reps(K:LI)(F:Hp):List PV->List V->Prop
 | [],us=>us=[]
 |x::xs,us=>∃u r,us=u::r/\Rep K F x u/\Reps K F xs r
end
section
variable{K:LI}{F F':Hp}
mutual
theorem Rep.mono(s:ag F F'):∀(x:PV) {u:V},Rep K F x u->Rep K F' x u
 | .non,_,h=>by simpa only[Rep]using h
 | .bl _,_,h=>by simpa only[Rep]using h
 | .int _,_,h=>by simpa only[Rep]using h
 | .str _,_,h=>by simpa only[Rep]using h
 | .tup xs,_,h=>by
  rw[Rep]at h ⊢;obtain⟨a,us,e,q,r⟩:=h;exact⟨a,us,e,s a _ q,Reps.mono s xs r⟩
 | .lst xs,_,h=>by
  rw[Rep]at h ⊢;obtain⟨a,us,e,q,r⟩:=h;exact⟨a,us,e,s.seq q,Reps.mono s xs r⟩
 | .dI kvs,_,h=>by
  rw[Rep]at h ⊢;obtain⟨a,e,q⟩:=h;exact⟨a,e,ag.rdD s q⟩
 | .dL w m,_,h=>by
  rw[Rep]at h ⊢;obtain⟨a,U,Y,D,J,e,h1,h2,h3,h4,h5⟩:=h;exact⟨a,U,Y,D,J,e,s _ _ h1,s.seq h2,Reps.mono s w h3,s.seq h4,Reps.mono s m h5⟩
theorem Reps.mono(s:ag F F'):∀(xs:List PV) {us:List V},Reps K F xs us->Reps K F' xs us
 | [],_,h=>by simpa only[Reps]using h
 |x::xs,_,h=>by
  rw[Reps]at h ⊢;obtain⟨u,r,e,q,t⟩:=h;exact⟨u,r,e,Rep.mono s x q,Reps.mono s xs t⟩
end
theorem Reps.nil:Reps K F [] []:=rfl
theorem Reps.cons{u:V}{us:List V}(h:Rep K F x u)(t:Reps K F xs us):Reps K F (x::xs) (u::us):=by
 rw[Reps];exact⟨u,us,rfl,h,t⟩
theorem Reps.length:∀{xs}{us},Reps K F xs us->xs.length=us.length
 | [],_,h=>by rw[Reps]at h;subst h;rfl
 |x::xs,_,h=>by
  refine aq h λu r e _ t=>?_
  subst e;simp[Reps.length t]
theorem Reps.get:∀{xs}{us}{i:Nat}{x},Reps K F xs us->xs[i]?=some x->∃u,us[i]?=some u/\Rep K F x u
 | [],_,_,_,_,e=>by injection e
 |x::xs,_,i,y,h,e=>by
  refine aq h λu r D q t=>?_
  subst D;cases i with
  |zero=>simp at e;subst e;exact⟨u,by rfl,q⟩
  |succ i=>obtain⟨w,h1,h2⟩:=Reps.get (i:=i) t e;exact⟨w,by simpa using h1,h2⟩
theorem Reps.get':∀{xs}{us}{i:Nat}{u},Reps K F xs us->us[i]?=some u->∃x,xs[i]?=some x/\Rep K F x u
 | [],_,i,_,h,e=>by rw[Reps]at h;subst h;injection e
 |x::xs,_,i,y,h,e=>by
  refine aq h λu r D q t=>?_
  subst D;cases i with
  |zero=>simp at e;subst e;exact⟨x,by rfl,q⟩
  |succ i=>obtain⟨w,h1,h2⟩:=Reps.get' (i:=i) t e;exact⟨w,by simpa using h1,h2⟩
theorem Reps.append:∀{xs ys}{us ws},Reps K F xs us->Reps K F ys ws->Reps K F (xs++ys) (us++ws)
 | [],_,_,_,h,g=>by rw[Reps]at h;subst h;exact g
 |x::xs,_,_,_,h,g=>by
  refine aq h λu r D q t=>?_
  subst D;exact .cons q (Reps.append t g)
theorem Reps.snoc(h:Reps K F xs us)(g:Rep K F x u):Reps K F (xs++[x]) (us++[u]):=h.append (.cons g .nil)
theorem Reps.take:∀{xs}{us} n,Reps K F xs us->Reps K F (xs.take n) (us.take n)
 | _,_,0,_=>by exact Reps.nil
 | [],_,n+1,h=>by rw[Reps]at h;subst h;exact Reps.nil
 |x::xs,_,n+1,h=>by
  refine aq h λu r D q t=>?_
  subst D;exact .cons q (Reps.take n t)
theorem Reps.drop:∀{xs}{us} n,Reps K F xs us->Reps K F (xs.drop n) (us.drop n)
 | _,_,0,h=>h
 | [],_,n+1,h=>by rw[Reps]at h;subst h;exact Reps.nil
 |x::xs,_,n+1,h=>by
  refine aq h λu r D q t=>?_
  subst D;exact Reps.drop n t
theorem Reps.set:∀{xs}{us}{x}{u} n,Reps K F xs us->Rep K F x u->Reps K F (xs.set n x) (us.set n u)
 | [],_,_,_,n,h,_=>by rw[Reps]at h;subst h;exact Reps.nil
 |x::xs,_,_,_,0,h,g=>by
  refine aq h λu r D q t=>?_
  subst D;exact .cons g t
 |x::xs,_,_,_,n+1,h,g=>by
  refine aq h λu r D q t=>?_
  subst D;exact .cons q (Reps.set n t g)
theorem Reps.dropLast(h:Reps K F xs us):Reps K F xs.dropLast us.dropLast:=by
 rw[dropLast_eq_take,dropLast_eq_take,<- h.length];exact h.take _
theorem Reps.ints:∀{ns:List Int}{us},Reps K F (ns.map .int) us->us=ns.map V.int
 | [],_,h=>by exact h
 |n::ns,_,h=>by
  refine aq h λu r D q t=>?_
  subst D;rw[q,Reps.ints t];rfl
theorem Reps.of_ints:∀(ns:List Int),Reps K F (ns.map .int) (ns.map V.int)
 | []=>.nil
 |n::ns=>.cons (by rw[Rep]) (Reps.of_ints ns)
theorem gU:∀{xs}{ns},bO xs=some ns->xs=ns.map .int
 | [],_,h=>by simp[bO]at h;subst h;rfl
 | .int i::r,ns,h=>by
  simp[bO]at h;obtain⟨ms,h1,rfl⟩:=h;rw[gU h1];rfl
 | .non::_,_,h=>by injection h
 | .bl _::_,_,h=>by injection h
 | .str _::_,_,h=>by injection h
 | .tup _::_,_,h=>by injection h
 | .lst _::_,_,h=>by injection h
 | .dI _::_,_,h=>by injection h
theorem qH:∀{xs}{ns},kB xs=some ns->xs=ns.map λt=>.tup (t.map .int)
 | [],_,h=>by simp[kB]at h;subst h;rfl
 | .tup i::r,ns,h=>by
  simp[kB,i1]at h;obtain⟨t,h0,ms,h1,rfl⟩:=h;rw[qH h1,gU h0];rfl
 | .non::_,_,h=>by injection h
 | .bl _::_,_,h=>by injection h
 | .str _::_,_,h=>by injection h
 | .int _::_,_,h=>by injection h
 | .lst _::_,_,h=>by injection h
 | .dI _::_,_,h=>by injection h
theorem qI:∀{xs:List PV}{ns:List (List Int)},fC xs=some ns->xs=ns.map λt=>.lst (t.map .int)
 | [],_,h=>by simp[fC]at h;subst h;rfl
 | .lst i::r,ns,h=>by
  simp only[fC,i1,wh]at h;obtain⟨t,h0,ms,h1,rfl⟩:=h;rw[qI h1,gU h0];rfl
 | .non::_,_,h=>by simp[fC]at h
 | .bl _::_,_,h=>by simp[fC]at h
 | .str _::_,_,h=>by simp[fC]at h
 | .int _::_,_,h=>by simp[fC]at h
 | .tup _::_,_,h=>by simp[fC]at h
 | .dI _::_,_,h=>by simp[fC]at h
 | .dL _ _::_,_,h=>by simp[fC]at h
theorem jN:∀{xs}{ns},d6 xs=some ns->xs=ns.map .bl
 | [],_,h=>by simp[d6]at h;subst h;rfl
 | .bl i::r,ns,h=>by
  simp[d6]at h;obtain⟨ms,h1,rfl⟩:=h;rw[jN h1];rfl
 | .non::_,_,h=>by injection h
 | .int _::_,_,h=>by injection h
 | .str _::_,_,h=>by injection h
 | .tup _::_,_,h=>by injection h
 | .lst _::_,_,h=>by injection h
 | .dI _::_,_,h=>by injection h
end
def da{K:LI}{H:Hp}{a:Addr}{us:List V}(h:H a=some (.tup us)):SqT K H a us:=SqT.of h
def bz(K:LI)(H:Hp)(O:List Addr)(v:PV)(u:V):Prop:=
 Rep K (ak H O) v u\/(∃xs a us,v=.lst xs/\u=.ref a/\SqL K H a us/\Reps K (ak H O) xs us)\/∃kvs a,v=.dI kvs/\u=.ref a/\RdD H a kvs
section
variable{K:LI}{H H':Hp}{O:List Addr}
theorem bz.of(h:Rep K (ak H O) v u):bz K H O v u:=.inl h
theorem bz.mono(s:ag H H')(h:bz K H O v u):bz K H' O v u:=by
 rcases h with h|⟨xs,a,us,D,J,q,r⟩|⟨kvs,a,D,J,q⟩
 .exact .inl (Rep.mono (ah s) _ h)
 .exact .inr (.inl ⟨xs,a,us,D,J,s.seq q,Reps.mono (ah s) _ r⟩)
 .exact .inr (.inr ⟨kvs,a,D,J,ag.rdD s q⟩)
theorem bz.lst(h:bz K H O (.lst xs) u):∃a us,u=.ref a/\SqL K H a us/\Reps K (ak H O) xs us:=by
 rcases h with h|⟨ys,a,us,D,J,q,r⟩|⟨kvs,a,D,J,q⟩
 .rw[Rep]at h;refine aq h λa us e q r=>?_
  exact⟨a,us,e,(ba H O).seq q,r⟩
 .cases D;exact⟨a,us,J,q,r⟩
 .cases D
def bz.tupH(h:bz K H O (.tup xs) u):∃a us,u=.ref a/\H a=some (.tup us)/\Reps K (ak H O) xs us:=by
 rcases h with h|⟨ys,a,us,D,J,q,r⟩|⟨kvs,a,D,J,q⟩
 .rw[Rep]at h;refine aq h λa us e q r=>?_
  exact⟨a,us,e,ba H O a _ q,r⟩
 .cases D
 .cases D
theorem bz.tup(h:bz K H O (.tup xs) u):∃a us,u=.ref a/\SqT K H a us/\Reps K (ak H O) xs us:=by
 refine aq h.tupH λa us e q r=>?_
 exact⟨a,us,e,SqT.of q,r⟩
def bz.tupR(h:bz K H O (.tup xs) u):Rep K (ak H O) (.tup xs) u:=by
 rcases h with h|⟨ys,a,us,D,J,q,r⟩|⟨kvs,a,D,J,q⟩
 .exact h
 .cases D
 .cases D
theorem bz.dI(h:bz K H O (.dI kvs) u):∃a,u=.ref a/\RdD H a kvs:=by
 rcases h with h|⟨ys,a,us,D,J,q,r⟩|⟨kvs,a,D,J,q⟩
 .rw[Rep]at h;obtain⟨a,e,q⟩:=h;exact⟨a,e,ag.rdD (ba H O) q⟩
 .cases D
 .simp_all
theorem bz.dL{w m:List PV}{u:V}(h:bz K H O (.dL w m) u):Rep K (ak H O) (.dL w m) u:=by
 rcases h with h|⟨ys,a,us,D,J,q,r⟩|⟨kvs,a,D,J,q⟩
 .exact h
 .cases D
 .cases D
theorem bz.int(h:bz K H O (.int i) u):u=.int i:=by
 rcases h with h|⟨ys,a,us,D,J,q,r⟩|⟨kvs,a,D,J,q⟩
 .rw[Rep]at h;exact h
 .cases D
 .cases D
theorem bz.bl(h:bz K H O (.bl i) u):u=.bl i:=by
 rcases h with h|⟨ys,a,us,D,J,q,r⟩|⟨kvs,a,D,J,q⟩
 .rw[Rep]at h;exact h
 .cases D
 .cases D
theorem bz.str(h:bz K H O (.str i) u):u=.str i:=by
 rcases h with h|⟨ys,a,us,D,J,q,r⟩|⟨kvs,a,D,J,q⟩
 .rw[Rep]at h;exact h
 .cases D
 .cases D
theorem bz.non(h:bz K H O .non u):u=.non:=by
 rcases h with h|⟨ys,a,us,D,J,q,r⟩|⟨kvs,a,D,J,q⟩
 .rw[Rep]at h;exact h
 .cases D
 .cases D
theorem bz.seq(h:bz K H O v u)(e:bq v=some xs):∃a us,u=.ref a/\(SqL K H a us\/SqT K H a us)/\Reps K (ak H O) xs us:=by
 cases v<;>first|(simp[bq]at e;subst e;obtain⟨a,us,e,q,r⟩:=h.lst;exact⟨a,us,e,.inl q,r⟩)|(simp[bq]at e;subst e;obtain⟨a,us,e,q,r⟩:=h.tup;exact⟨a,us,e,.inr q,r⟩)|injection e
def bz.whole(h:bz K H O v u):Rep K H v u:=by
 rcases h with h|⟨xs,a,us,rfl,D,q,r⟩|⟨kvs,a,rfl,D,q⟩
 .exact Rep.mono (ba H O) _ h
 .rw[Rep];exact⟨a,us,D,q,Reps.mono (ba H O) _ r⟩
 .rw[Rep];exact⟨a,D,q⟩
end
def IsC (K:LI) (C:Addr):Prop:=PySem.W.nsIn K mainGlobals "Table"=some (some (.ref C))
noncomputable def iD:List Str:=["hole_count","ribbons","opener"]
noncomputable def ma:List Str:=["hand_at","holes_taken_by","turn","deeds","knots","bites","free","rest","winner","take","back"]
structure ObF(K:LI)(C:Addr)(F:Hp)(fs:List PV)(l:Addr)(gs:List (Str×V)):Prop where
 cls:IsC K C
 fld:∀(n:Nat) (x:Str) (v:PV),iD[n]?=some x->fs[n]?=some v->∃u,gs.lookup x=some u/\Rep K F v u
 lst:gs.lookup ("taken":Str)=some (.ref l)
 no:∀m∈ma,gs.lookup m=none
theorem ObF.mono{K:LI}{C:Addr}{F F':Hp}{fs:List PV}{l:Addr}{gs:List (Str×V)}(s:ag F F')(h:ObF K C F fs l gs):ObF K C F' fs l gs:=
 ⟨h.cls,λn x v q D=>let ⟨u,J,U⟩:=h.fld n x v q D;⟨u,J,Rep.mono s _ U⟩,h.lst,h.no⟩
structure cc(K:LI)(B:Hp)(O:List Addr)(H:Hp)(fs xs:List PV)(a l:Addr):Prop where
 ob:∃C dx gs,H a=some (.ins C dx gs)/\ObF K C (ak H O) fs l gs
 li:∃us,H l=some (.lst us)/\Reps K (ak H O) xs us
 aO:a∈O
 lO:l∈O
 aB:B a=none
 lB:B l=none
 ne:a≠l
def cc.move{K:LI}{B B' H H':Hp}{O O':List Addr}{fs xs:List PV}{a l:Addr}(h:cc K B O H fs xs a l)(v:ag (ak H O) (ak H' O'))(q:∀o,H a=some o->H' a=some o)(hl:∀o,H l=some o->H' l=some o)(aO:a∈O')(lO:l∈O')(aB:B' a=none)(lB:B' l=none):cc K B' O' H' fs xs a l:=by
 obtain⟨C,dx,gs,D,J⟩:=h.ob;obtain⟨us,U,Y⟩:=h.li;exact⟨⟨C,dx,gs,q _ D,J.mono v⟩,⟨us,hl _ U,Reps.mono v _ Y⟩,aO,lO,aB,lB,h.ne⟩
def dz(K:LI)(B F:Hp)(fs xs:List PV)(a:Addr):Prop:=∃C dx gs l us,B a=some (.ins C dx gs)/\ObF K C F fs l gs/\SqL K B l us/\Reps K F xs us
def dz.move{K:LI}{B B' F F':Hp}{fs xs:List PV}{a:Addr}(h:dz K B F fs xs a)(b:ag B B')(v:ag F F'):dz K B' F' fs xs a:=by
 obtain⟨C,dx,gs,l,us,q,D,J,U⟩:=h;exact⟨C,dx,gs,l,us,b _ _ q,D.mono v,b.seq J,Reps.mono v _ U⟩
def cc.lent{K:LI}{B H:Hp}{O:List Addr}{fs xs:List PV}{a l:Addr}(h:cc K B O H fs xs a l):dz K H (ak H O) fs xs a:=by
 obtain⟨C,dx,gs,q,D⟩:=h.ob;obtain⟨us,J,U⟩:=h.li;exact⟨C,dx,gs,l,us,q,D,SqL.of J,U⟩
noncomputable def lOf:Option HO->Option Addr
 |some (.ins _ _ gs)=>(match gs.lookup ("taken":Str)with|some (.ref l)=>some l|_=>none)
 | _=>none
theorem cc.l{K:LI}{B H:Hp}{O:List Addr}{fs xs:List PV}{a l:Addr}(h:cc K B O H fs xs a l):lOf (H a)=some l:=by
 obtain⟨C,dx,gs,q,D⟩:=h.ob;rw[q];show(match gs.lookup ("taken":Str)with|some (.ref l)=>some l|_=>none)=some l;rw[D.lst]
abbrev DAt(_:LI)(H:Hp)(_:List Addr)(a:Addr)(d:DD):Prop:=H a=some (qG d)
theorem DAt.here{K:LI}(h:DAt K H O a d):∃o,H a=some o:=⟨_,h⟩
theorem DAt.move{K:LI}{H H':Hp}{O O':List Addr}{a:Addr}{d:DD}(h:DAt K H O a d)(e:∀o,H a=some o->H' a=some o)(_:ag (ak H O) (ak H' O')):DAt K H' O' a d:=e _ h
def d8(K:LI)(B:Hp)(O:List Addr)(H:Hp):MV->V->Prop
 | .val v,u=>Rep K (ak H O) v u
 | .own xs,u=>∃a us,u=.ref a/\H a=some (.lst us)/\Reps K (ak H O) xs us/\a∈O/\B a=none
 | .brw xs,u=>∃a us,u=.ref a/\SqL K B a us/\Reps K (ak H O) xs us
 | .ownD kvs,u=>∃a,u=.ref a/\DAt K H O a kvs/\a∈O/\B a=none
 | .ownO _ fs xs,u=>∃a l,u=.ref a/\cc K B O H fs xs a l
 | .brwO fs xs,u=>∃a,u=.ref a/\dz K B (ak H O) fs xs a
 | .brwD kvs,u=>∃a,u=.ref a/\Rd B a (qG kvs)
noncomputable def d9:MV->Bool
 | .own _=>true
 | .ownD _=>true
 | .ownO _ _ _=>true
 | _=>false
def Ay(H:Hp)(G:Rho)(σ:St):Prop:=∀(i:Nat) (q:MV) (a l:Addr),G[i]?=some (some q)->isL q=true->σ[i]?=some (some (.ref a))->lOf (H a)=some l->∀(j:Nat) (m:MV),j≠i->G[j]?=some (some m)->isL m=false/\∀c,d9 m=true->σ[j]?=some (some (.ref c))->c≠l
def mf{H:Hp}{G:Rho}{σ:St}(h:∀(i:Nat) (m:MV),G[i]?=some (some m)->isL m=false):Ay H G σ:=λi m _ _ e l=>by rw[h i m e]at l;cases l
def fg{H H':Hp}{G C:Rho}{σ U:St}(h:Ay H G σ)(hL:∀(i:Nat) (D:MV),C[i]?=some (some D)->isL D=true->(∃J,G[i]?=some (some J)/\isL J=true)/\U[i]?=σ[i]?/\∀a l,σ[i]?=some (some (.ref a))->lOf (H' a)=some l->lOf (H a)=some l)
  (hj:∀(j:Nat) (m:MV) (c:Addr),C[j]?=some (some m)->isL m=false->d9 m=true->U[j]?=some (some (.ref c))->(∃D,G[j]?=some (some D)/\d9 D=true/\σ[j]?=some (some (.ref c)))\/∀(i:Nat) (J:MV) (a l:Addr),G[i]?=some (some J)->isL J=true->σ[i]?=some (some (.ref a))->lOf (H a)=some l->c≠l):Ay H' C U:=λi D a l e1 l0 Y e3 j m Z e4=>by
 obtain⟨⟨J,f1,l1⟩,f2,f3⟩:=hL i D e1 l0;rw[f2]at Y;have f4:=f3 a l Y e3;have hl:isL m=false:=by
  cases q:isL m with
  |false=>rfl
  |true =>
   obtain⟨⟨m2,g1,g2⟩,_⟩:=hL j m e4 q;rw[(h i J a l f1 l1 Y f4 j m2 Z g1).1]at g2;cases g2
 refine⟨hl,λc o e5=>?_⟩;rcases hj j m c e4 hl o e5 with⟨D,g1,g2,g3⟩|g
 .exact(h i J a l f1 l1 Y f4 j D Z g1).2 c g2 g3
 .exact g i J a l f1 l1 Y f4
structure aK(K:LI)(B:Hp)(E O:List Addr)(H:Hp)(G:Rho)(σ:St):Prop where
 keep:ag B H
 here:∀a∈O,H a≠none
 sub:∀a∈E,a∈O
 old:∀a∈E,B a≠none
 len:G.length=σ.length
 slot:∀(i:Nat) (m:MV),G[i]?=some (some m)->∃u,σ[i]?=some (some u)/\d8 K B O H m u
 apart:∀(i j:Nat) (m m':MV) (a:Addr),i≠j->G[i]?=some (some m)->G[j]?=some (some m')->d9 m=true->d9 m'=true->σ[i]?=some (some (.ref a))->σ[j]?≠some (some (.ref a))
 inn:Ay H G σ
section
variable{K:LI}{B H H':Hp}{E O:List Addr}{G:Rho}{σ:St}
theorem d8.mono(s:ag H H'){m:MV}{u:V}(h:d8 K B O H m u):d8 K B O H' m u:=by
 cases m with
 |val v=>exact Rep.mono (ah s) _ h
 |own xs=>obtain⟨a,us,e,q,r,h1,h2⟩:=h;exact⟨a,us,e,s _ _ q,Reps.mono (ah s) _ r,h1,h2⟩
 |brw xs=>obtain⟨a,us,e,q,r⟩:=h;exact⟨a,us,e,q,Reps.mono (ah s) _ r⟩
 |ownD kvs=>obtain⟨a,e,q,h1,h2⟩:=h;exact⟨a,e,q.move (s _) (ah s),h1,h2⟩
 |ownO _ fs xs=>obtain⟨a,l,e,q⟩:=h;exact⟨a,l,e,q.move (ah s) (λ_=>s _ _) (λ_=>s _ _) q.aO q.lO q.aB q.lB⟩
 |brwO fs xs=>obtain⟨a,e,q⟩:=h;exact⟨a,e,q.move (ag.refl B) (ah s)⟩
 |brwD kvs=>exact h
theorem aK.mono(s:ag H H')(h:aK K B E O H G σ):aK K B E O H' G σ where
 keep:=h.keep.trans s
 here:=λa ha e=>h.here a ha (s.free e)
 sub:=h.sub
 old:=h.old
 len:=h.len
 slot:=λi m e=>let ⟨u,D,q⟩:=h.slot i m e;⟨u,D,q.mono s⟩
 apart:=h.apart
 inn:=fg h.inn (λi J e U=>⟨⟨J,e,U⟩,rfl,λa l D Y=>by
  obtain⟨u,Z,q⟩:=h.slot i _ e;rw[D]at Z;cases Z;cases J<;>try (cases U;done)
  obtain⟨a',l',e4,q⟩:=q;cases e4;obtain⟨C,dx,gs,e5,_⟩:=q.ob;rw[s _ _ e5]at Y;rw[e5];exact Y⟩) λj m c e _ o D=>.inl ⟨m,e,o,D⟩
theorem d8.bor{m:MV}{u:V}{v:PV}(D:ag B H)(h:d8 K B O H m u)(e:bx (some m)=some v):bz K H O v u:=by
 cases m with
 |val w=>simp[bx]at e;subst e;exact .inl h
 |own xs=>simp[bx]at e;subst e;obtain⟨a,us,e,q,r,_⟩:=h;exact .inr (.inl ⟨xs,a,us,rfl,e,SqL.of q,r⟩)
 |brw xs=>simp[bx]at e;subst e;obtain⟨a,us,e,q,r⟩:=h;exact .inr (.inl ⟨xs,a,us,rfl,e,D.seq q,r⟩)
 |ownD kvs=>simp[bx]at e;subst e;obtain⟨a,e,q,_⟩:=h;exact .inr (.inr ⟨kvs,a,rfl,e,.inl q⟩)
 |ownO _ _ _=>simp[bx]at e
 |brwO _ _=>simp[bx]at e
 |brwD kvs=>simp[bx]at e;subst e;obtain⟨a,e,q⟩:=h;exact .inr (.inr ⟨kvs,a,rfl,e,ag.rd D q⟩)
end
def join_some{α:Type}{o:Option (Option α)}{x:α}(h:o.join=some x):o=some (some x):=by
 cases o<;>simp_all
structure Tab where
 fs:List Str
 gs:List (Str×PV)
 ds:List (List Sc)
 ms:List (Option Str)
noncomputable def C8(sc:Scope)(x:Str):Bool:=sc.names.lookup x==some .local||sc.names.lookup x==some .cell||sc.names.lookup x==some .free
noncomputable def fY(sc:Scope)(x:Str):Bool:=sc.names.lookup x==some .local||sc.names.lookup x==some .cell
noncomputable def glB(sc:Scope)(x:Str):Bool:=sc.names.lookup x==some .globalImplicit
noncomputable def aF (x:Str):Bool:=!(x==("__debug__":Str))&&!(x==("__classdict__":Str))&&!(x==("__name__":Str))
noncomputable def au(N:List Str)(sc:Scope)(i:Nat)(x:Str):Bool:=N[i]?==some x&&C8 sc x&&aF x
noncomputable def onQ{α:Type}:Option α->(α->Bool)->Bool
 |some a,f=>f a
 |none,_=>false
def am(h:onQ o f=true):∃a,o=some a/\f a=true:=by
 cases o with
 |none=>exact dO h
 |some a=>exact⟨a,rfl,h⟩
def gD{α:Type}{P:Prop}{x:α}(h:none=some x):P:=by cases h
def cJ{α q:Type}{o:Option α}{f:α->Option q}{b:q}(h:o.bind f=some b):∃a,o=some a/\f a=some b:=i1.mp h
noncomputable def okQ{α:Type}(b:Bool)(x:α):Option α:=if b=true then some x else none
def o8(h:okQ b x=some y):b=true/\x=y:=by
 cases b with
 |false=>exact aP h
 |true=>cases h;exact⟨rfl,rfl⟩
noncomputable def kM{α:Type}:List α->Option α
 | [x]=>some x
 | _=>none
def db(h:kM l=some x):l=[x]:=by
 rcases l with _|⟨a,_|⟨b,l⟩⟩<;>cases h
 rfl
noncomputable def F5{α:Type}:List α->Option (α×α)
 | [x,y]=>some (x,y)
 | _=>none
def Az(h:F5 l=some q):l=[q.1,q.2]:=by
 rcases l with _|⟨a,_|⟨b,_|⟨c,l⟩⟩⟩<;>cases h
 rfl
structure Vw where
 nmP:Option (Str×Pos)
 caP:Option (Expr×List Expr×List Keyword×Pos)
 atP:Option (Expr×Str×Pos)
 biP:Option (Expr×Operator×Expr×Pos)
 suP:Option (Expr×Expr×Pos)
 lcP:Option (Expr×List Comprehension×Scope×Pos)
 coP:Option (Expr×List CmpOp×List Expr×Pos)
 ctP:Option (Const×Nat×Pos)
 tuP:Option (List Expr×Nat×Pos)
 liP:Option (List Expr×Pos)
 unP:Option (UnaryOp×Expr×Pos)
 boP:Option (BoolOp×List Expr×Pos)
 ifP:Option (Expr×Expr×Expr×Pos)
 slP:Option (Option Expr×Option Expr×Option Expr×Pos)
 diP:Option (List (Option Expr)×List Expr×Pos)
noncomputable def vw:Expr->Vw
 | .Name x p=>⟨some (x,p),none,none,none,none,none,none,none,none,none,none,none,none,none,none⟩
 | .Call f as ks p=>⟨none,some (f,as,ks,p),none,none,none,none,none,none,none,none,none,none,none,none,none⟩
 | .Attribute o m p=>⟨none,none,some (o,m,p),none,none,none,none,none,none,none,none,none,none,none,none⟩
 | .BinOp l o r p=>⟨none,none,none,some (l,o,r,p),none,none,none,none,none,none,none,none,none,none,none⟩
 | .Subscript v s p=>⟨none,none,none,none,some (v,s,p),none,none,none,none,none,none,none,none,none,none⟩
 | .ListComp e g s p=>⟨none,none,none,none,none,some (e,g,s,p),none,none,none,none,none,none,none,none,none⟩
 | .Compare l o r p=>⟨none,none,none,none,none,none,some (l,o,r,p),none,none,none,none,none,none,none,none⟩
 | .Constant c j p=>⟨none,none,none,none,none,none,none,some (c,j,p),none,none,none,none,none,none,none⟩
 | .Tuple xs j p=>⟨none,none,none,none,none,none,none,none,some (xs,j,p),none,none,none,none,none,none⟩
 | .List xs p=>⟨none,none,none,none,none,none,none,none,none,some (xs,p),none,none,none,none,none⟩
 | .UnaryOp o e p=>⟨none,none,none,none,none,none,none,none,none,none,some (o,e,p),none,none,none,none⟩
 | .BoolOp o vs p=>⟨none,none,none,none,none,none,none,none,none,none,none,some (o,vs,p),none,none,none⟩
 | .IfExp t x y p=>⟨none,none,none,none,none,none,none,none,none,none,none,none,some (t,x,y,p),none,none⟩
 | .Slice l u s p=>⟨none,none,none,none,none,none,none,none,none,none,none,none,none,some (l,u,s,p),none⟩
 | .Dict ks vs p=>⟨none,none,none,none,none,none,none,none,none,none,none,none,none,none,some (ks,vs,p)⟩
 | _=>⟨none,none,none,none,none,none,none,none,none,none,none,none,none,none,none⟩
noncomputable def nmP(e:Expr):Option (Str×Pos):=(vw e).nmP
def fh(h:nmP e=some q):e=.Name q.1 q.2:=by
 revert h;cases e<;>first|exact gD|(rintro ⟨⟩;rfl)
noncomputable def caP(e:Expr):Option (Expr×List Expr×List Keyword×Pos):=(vw e).caP
def xU(h:caP e=some q):e=.Call q.1 q.2.1 q.2.2.1 q.2.2.2:=by
 revert h;cases e<;>first|exact gD|(rintro ⟨⟩;rfl)
noncomputable def atP(e:Expr):Option (Expr×Str×Pos):=(vw e).atP
def C9(h:atP e=some q):e=.Attribute q.1 q.2.1 q.2.2:=by
 revert h;cases e<;>first|exact gD|(rintro ⟨⟩;rfl)
noncomputable def biP(e:Expr):Option (Expr×Operator×Expr×Pos):=(vw e).biP
def C_(h:biP e=some q):e=.BinOp q.1 q.2.1 q.2.2.1 q.2.2.2:=by
 revert h;cases e<;>first|exact gD|(rintro ⟨⟩;rfl)
noncomputable def suP(e:Expr):Option (Expr×Expr×Pos):=(vw e).suP
def o9(h:suP e=some q):e=.Subscript q.1 q.2.1 q.2.2:=by
 revert h;cases e<;>first|exact gD|(rintro ⟨⟩;rfl)
noncomputable def lcP(e:Expr):Option (Expr×List Comprehension×Scope×Pos):=(vw e).lcP
def sI(h:lcP e=some q):e=.ListComp q.1 q.2.1 q.2.2.1 q.2.2.2:=by
 revert h;cases e<;>first|exact gD|(rintro ⟨⟩;rfl)
noncomputable def coP(e:Expr):Option (Expr×List CmpOp×List Expr×Pos):=(vw e).coP
def Da(h:coP e=some q):e=.Compare q.1 q.2.1 q.2.2.1 q.2.2.2:=by
 revert h;cases e<;>first|exact gD|(rintro ⟨⟩;rfl)
noncomputable def ctP(e:Expr):Option (Const×Nat×Pos):=(vw e).ctP
def o_(h:ctP e=some q):e=.Constant q.1 q.2.1 q.2.2:=by
 revert h;cases e<;>first|exact gD|(rintro ⟨⟩;rfl)
noncomputable def tuP(e:Expr):Option (List Expr×Nat×Pos):=(vw e).tuP
def Db(h:tuP e=some q):e=.Tuple q.1 q.2.1 q.2.2:=by
 revert h;cases e<;>first|exact gD|(rintro ⟨⟩;rfl)
noncomputable def liP(e:Expr):Option (List Expr×Pos):=(vw e).liP
def xV(h:liP e=some q):e=.List q.1 q.2:=by
 revert h;cases e<;>first|exact gD|(rintro ⟨⟩;rfl)
noncomputable def unP(e:Expr):Option (UnaryOp×Expr×Pos):=(vw e).unP
def Dc(h:unP e=some q):e=.UnaryOp q.1 q.2.1 q.2.2:=by
 revert h;cases e<;>first|exact gD|(rintro ⟨⟩;rfl)
noncomputable def boP(e:Expr):Option (BoolOp×List Expr×Pos):=(vw e).boP
def xW(h:boP e=some q):e=.BoolOp q.1 q.2.1 q.2.2:=by
 revert h;cases e<;>first|exact gD|(rintro ⟨⟩;rfl)
noncomputable def ifP(e:Expr):Option (Expr×Expr×Expr×Pos):=(vw e).ifP
def Dd(h:ifP e=some q):e=.IfExp q.1 q.2.1 q.2.2.1 q.2.2.2:=by
 revert h;cases e<;>first|exact gD|(rintro ⟨⟩;rfl)
noncomputable def slP(e:Expr):Option (Option Expr×Option Expr×Option Expr×Pos):=(vw e).slP
def De(h:slP e=some q):e=.Slice q.1 q.2.1 q.2.2.1 q.2.2.2:=by
 revert h;cases e<;>first|exact gD|(rintro ⟨⟩;rfl)
noncomputable def asP:Stmt->Option (List Expr×Expr×Pos)
 | .Assign q v p=>some (q,v,p)
 | _=>none
def Dg(h:asP s=some q):s=.Assign q.1 q.2.1 q.2.2:=by
 revert h;cases s<;>first|exact gD|(rintro ⟨⟩;rfl)
noncomputable def vZ(e:Expr):Option (Str×List Expr):=(caP e).bind λc=>(nmP c.1).bind λx=>okQ c.2.2.1.isEmpty (x.1,c.2.1)
def h_(h:vZ e=some q):∃p cp,e=.Call (.Name q.1 p) q.2 [] cp:=by
 refine ae (cJ h) λc h1 h=>?_
 refine ae (cJ h) λx h2 h=>?_
 obtain⟨h3,rfl⟩:=o8 h;exact⟨_,_,by rw[xU h1,fh h2,isEmpty_iff.mp h3]⟩
noncomputable def Dh(e:Expr):Option (Str×Expr):=(vZ e).bind λc=>(kM c.2).bind λa=>some (c.1,a)
def uA(h:Dh e=some q):∃p cp,e=.Call (.Name q.1 p) [q.2] [] cp:=by
 refine ae (cJ h) λc h1 h=>?_
 refine ae (cJ h) λa h2 h=>?_
 cases h;refine lf (h_ h1) λp cp D=>?_
 subst D;exact⟨p,cp,by rw[db h2]⟩
noncomputable def maP(e:Expr):Option (Expr×Str×Pos×List Expr×Pos):=(caP e).bind λc=>(atP c.1).bind λa=>okQ c.2.2.1.isEmpty (a.1,a.2.1,a.2.2,c.2.1,c.2.2.2)
def sJ(h:maP e=some q):e=.Call (.Attribute q.1 q.2.1 q.2.2.1) q.2.2.2.1 [] q.2.2.2.2:=by
 refine ae (cJ h) λc h1 h=>?_
 refine ae (cJ h) λx h2 h=>?_
 obtain⟨h3,rfl⟩:=o8 h;rw[xU h1,C9 h2,isEmpty_iff.mp h3]
noncomputable def maN(e:Expr):Option (Str×Str×Pos×List Expr×Pos):=(maP e).bind λa=>(nmP a.1).bind λx=>some (x.1,a.2.1,a.2.2.1,a.2.2.2.1,a.2.2.2.2)
def xX(h:maN e=some q):∃p,e=.Call (.Attribute (.Name q.1 p) q.2.1 q.2.2.1) q.2.2.2.1 [] q.2.2.2.2:=by
 refine ae (cJ h) λc h1 h=>?_
 refine ae (cJ h) λx h2 h=>?_
 cases h;exact⟨x.2,by rw[sJ h1,fh h2]⟩
noncomputable def xY(e:Expr):Option (Expr×CmpOp×Expr):=(coP e).bind λc=>(kM c.2.1).bind λo=>(kM c.2.2.1).bind λr=>some (c.1,o,r)
def uB(h:xY e=some q):∃pos,e=.Compare q.1 [q.2.1] [q.2.2] pos:=by
 refine ae (cJ h) λc h1 h=>?_
 refine ae (cJ h) λx h2 h=>?_
 refine ae (cJ h) λy h3 h=>?_
 cases h;exact⟨c.2.2.2,by rw[Da h1,db h2,db h3]⟩
noncomputable def F6(e:Expr):Option (Expr×Option Expr×Option Expr):=(suP e).bind λc=>(slP c.2.1).bind λs=>okQ s.2.2.1.isNone (c.1,s.1,s.2.1)
def AA(h:F6 e=some q):∃p pos,e=.Subscript q.1 (.Slice q.2.1 q.2.2 none p) pos:=by
 refine ae (cJ h) λc h1 h=>?_
 refine ae (cJ h) λx h2 h=>?_
 obtain⟨h3,rfl⟩:=o8 h;exact⟨_,_,by rw[o9 h1,De h2,isNone_iff_eq_none.mp h3]⟩
noncomputable def lcX(e:Expr):Option (Expr×Scope×(Str×Pos)×Expr×List Expr):=(lcP e).bind λc=>(kM c.2.1).bind λg=>(nmP g.target).bind λx=>okQ (g.is_async==0) (c.1,c.2.2.1,x,g.iter,g.ifs)
def Di(h:lcX e=some q):∃pos,e=.ListComp q.1 [⟨.Name q.2.2.1.1 q.2.2.1.2,q.2.2.2.1,q.2.2.2.2,0⟩] q.2.1 pos:=by
 refine ae (cJ h) λc h1 h=>?_
 obtain⟨⟨tg,it,is,as⟩,h2,h⟩:=cJ h;refine ae (cJ h) λx h3 h=>?_
 obtain⟨h4,rfl⟩:=o8 h;exact⟨c.2.2.2,by rw[sI h1,db h2,fh (e:=tg) h3,show as=0 from eq_of_beq h4]⟩
noncomputable def diP(e:Expr):Option (List (Option Expr)×List Expr×Pos):=(vw e).diP
def Dj{e:Expr}{q:List (Option Expr)×List Expr×Pos}(h:diP e=some q):e=.Dict q.1 q.2.1 q.2.2:=by
 revert h;cases e<;>first|exact gD|(rintro ⟨⟩;rfl)
noncomputable def exP:Stmt->Option (Expr×Pos)
 | .Expr e p=>some (e,p)
 | _=>none
def Dk(h:exP s=some q):s=.Expr q.1 q.2:=by
 revert h;cases s<;>first|exact gD|(rintro ⟨⟩;rfl)
noncomputable def reP:Stmt->Option (Option Expr×Pos)
 | .Return v p=>some (v,p)
 | _=>none
def Dl(h:reP s=some q):s=.Return q.1 q.2:=by
 revert h;cases s<;>first|exact gD|(rintro ⟨⟩;rfl)
noncomputable def Dm:Const->Option Str
 | .str x=>some x
 | _=>none
def uC(h:Dm c=some x):c=.str x:=by
 cases c<;>cases h
 rfl
noncomputable def AB(e:Expr):Option Str:=(ctP e).bind λc=>Dm c.1
def pf(h:AB e=some x):∃j p,e=.Constant (.str x) j p:=by
 obtain⟨c,h1,h⟩:=cJ h;exact⟨c.2.1,c.2.2,by rw[o_ h1,uC h]⟩
noncomputable def aI:ME->Bool
 | .bor _=>true
 | .fldL _=>true
 | _=>false
def sK{m:ME}(h:aI m=true):(∃i,m=.bor i)\/∃i,m=.fldL i:=by
 cases m<;>first|(cases h;done)|exact .inl ⟨_,rfl⟩|exact .inr ⟨_,rfl⟩
noncomputable def mi:Expr->Option (Str×Str)
 | .Attribute (.Name y _) m _=>some (y,m)
 | _=>none
def i8{e:Expr}{q:Str×Str}(h:mi e=some q):∃p ap,e=.Attribute (.Name q.1 p) q.2 ap:=by
 unfold mi at h;split at h
 .cases h;exact⟨_,_,rfl⟩
 .cases h
noncomputable def xZ(e:Expr):Option (Str×Str×List Expr×Pos×Pos):=(maN e).bind λa=>some (a.1,a.2.1,a.2.2.2.1,a.2.2.1,a.2.2.2.2)
def ph{e:Expr}{q:Str×Str×List Expr×Pos×Pos}(h:xZ e=some q):∃p,e=.Call (.Attribute (.Name q.1 p) q.2.1 q.2.2.2.1) q.2.2.1 [] q.2.2.2.2:=by
 obtain⟨x,h1,h⟩:=cJ h;cases h;exact xX h1
noncomputable def qJ(N:List Str)(sc:Scope)(ms:List (Option Str))(f i:Nat)(D:List Expr->Bool)(q:Str×Str×List Expr×Pos×Pos):Bool:=ms[f]?==some (some q.2.1)&&ma.contains q.2.1&&au N sc i q.1&&D q.2.2.1&&q.2.2.2.1.endLine==q.2.2.2.2.line&&decide (q.2.2.1.length<30)
noncomputable def Dn:Op2->Operator
 | .add=>.Add|.sub=>.Sub|.mul=>.Mult|.fdiv=>.FloorDiv|.mod=>.Mod|.pow=>.Pow|.shr=>.RShift
noncomputable def gi:Cp->CmpOp
 | .eq=>.Eq|.ne=>.NotEq|.lt=>.Lt|.le=>.LtE|.gt=>.Gt|.ge=>.GtE|.isN=>.Is|.notN=>.IsNot|.isIn=>.In|.notIn=>.NotIn
noncomputable def mj:PV->Const->Bool
 | .non,.none=>true
 | .bl a,.bool b=>a==b
 | .int a,.int b=>a==b
 | .str a,.str b=>a==b
 | _,_=>false
noncomputable def BV:PV->PV->Bool
 | .non,.non=>true
 | .bl a,.bl b=>a==b
 | .int a,.int b=>a==b
 | .str a,.str b=>a==b
 | _,_=>false
noncomputable def BW(gs:List (Str×PV))(x:Str)(v:PV):Bool:=gs.any λp=>p.1==x&&BV p.2 v
noncomputable def az:Expr->Bool
 | .Starred ..=>false
 | _=>true
noncomputable def iE:Expr->Bool
 | .Set ..=>false
 | _=>true
noncomputable def fj:Expr->Bool
 | .Slice ..=>false
 | _=>true
noncomputable def ce:Expr->Bool
 | .ListComp ..=>false
 | .SetComp ..=>false
 | .DictComp ..=>false
 | _=>true
noncomputable def v0:Expr->Bool
 | .UnaryOp .Not _ _=>false
 | .BoolOp ..=>false
 | .IfExp ..=>false
 | .Compare ..=>false
 | _=>true
noncomputable def qK:Blt->String
 | .strOf=>"str"
 | .len=>"len" | .tupleOf=>"tuple" | .listOf=>"list" | .sorted=>"sorted" | .any=>"any" | .all=>"all" | .sum=>"sum" | .max1=>"max" | .min1=>"min" | .max2=>"max" | .min2=>"min"
 | .intOf=>"int" | .boolOf=>"bool" | .isInt=>"isinstance" | .isBool=>"isinstance" | .isStr=>"isinstance" | .isList=>"isinstance" | .isTuple=>"isinstance" | .sortedKeys=>"sorted" | .valuesOf=>"list" | .sortedSet=>"sorted" | .lenSet=>"len" | .lenSetSub=>"len" | .tupleRev=>"tuple"
noncomputable def dc:Blt->Option String
 | .isInt=>some "int" | .isBool=>some "bool" | .isStr=>some "str" | .isList=>some "list" | .isTuple=>some "tuple"
 | _=>none
noncomputable def jO:Blt->Option Nat
 | .len|.tupleOf|.listOf|.sorted|.any|.all|.sum|.intOf|.boolOf|.max1|.sortedKeys=>some 1
 | .strOf=>some 1
 | .max2|.min2=>some 2
 | _=>none
noncomputable def i9(osc:Scope)(N:List Str)(scope:Scope)(x:Str)(fvs:List Str)(js:List Nat):Bool:=
 decide (∀y∈scope.names,y.2=.cell->y.1=x)&&decide (scope.names.lookup x=some .local/\(scope.names.filter λy=>y.2==.cell)=[]\/scope.names.lookup x=some .cell/\(scope.names.filter λy=>y.2==.cell)=[(x,.cell)])
 &&decide (∀y∈scope.names,y.2=.free->y.1≠x)&&scope.kind==.function&&decide (∀y∈scope.names,y.2=.local->scope.names.lookup y.1=some .local)
 &&decide ((x::fvs).Nodup)&&decide (∀y∈scope.names,y.2=.free->osc.names.lookup y.1=some .cell\/osc.names.lookup y.1=some .free)&&decide ((js.map λj=>N[j]?)=fvs.map some)
 &&decide (∀y∈fvs,scope.names.lookup y=some .free)
noncomputable def fk(N:List Str)(js:List Nat):List Str:=js.map λj=>(N[j]?).getD Str.empty
noncomputable def pi(sc:Scope)(tup:Bool)(f:List Expr->Bool):Sk->Expr->Bool
 | .seq,it=>iE it&&f [it]
 | .rng,it=>onQ (vZ it) λc=>c.1==("range":Str)&&glB sc c.1&&f c.2&&(c.2.length==1||c.2.length==2)
 | .rev,_=>false
 | .enm,it=>onQ (Dh it) λc=>tup&&c.1==("enumerate":Str)&&glB sc c.1&&f [c.2]&&az c.2
 | .chr,it=>iE it&&f [it]
noncomputable def qM(sc:Scope)(f:List Expr->Bool)(n:Nat)(c:String)(args:List Expr):Bool:=onQ (F5 args) λa=>onQ (nmP a.2) λt=>t.1==(c:Str)&&glB sc t.1&&f [a.1]&&n==1
noncomputable def sL(sc:Scope)(f:List Expr->Bool)(n:Nat)(g:Str)(args:List Expr):Bool:=onQ (kM args) λa=>onQ (Dh a) λc=>c.1==g&&glB sc c.1&&f [c.2]&&n==1
noncomputable def F7:Expr->Bool
 | .Name _ _=>true
 | .Call _ (_::_) _ _=>true
 | _=>false
noncomputable def uD(sc:Scope)(f:List Expr->Bool)(n:Nat)(b:Blt)(args:List Expr):Bool:=match b with
 | .sortedSet=>sL sc f n "set" args
 | .lenSet=>sL sc f n "set" args
 | .lenSetSub=>false
 | .tupleRev=>false
 | .valuesOf=>false
 | .sortedKeys=>false
 | .max1=>false
 | .sum=>false
 | .max2=>false
 | .min2=>false
 | .boolOf=>false
 | .isStr=>false
 | .isList=>false
 |b=>match dc b with
  |some c=>qM sc f n c args
  |none=>jO b==some n&&f args
noncomputable def jP:ME->Bool
 | .cst .non=>true
 | _=>false
noncomputable def pj(f:Expr->Bool)(non:Bool):Option Expr->Bool
 |none=>non
 |some l=>f l&&!non
noncomputable def uE(f:Expr->Bool)(m:ME):List Expr->Bool
 | []=>(match m with|.cst (.bl true)=>true|_=>false)
 | [c]=>f c
 | _=>false
noncomputable def F8(f:Expr->Bool)(op:BoolOp)(pos:Pos)(y:Expr):List Expr->Bool
 | []=>f y
 |z::r=>f (.BoolOp op (y::z::r) pos)
noncomputable def Do(g f:Expr->Bool)(op:BoolOp)(pos:Pos):List Expr->Bool
 |x::y::r=>g x&&F8 f op pos y r
 | _=>false
def uF(h:Do g f op pos vs=true):(∃x y,vs=[x,y]/\g x=true/\f y=true)\/∃x y z r,vs=x::y::z::r/\g x=true/\f (.BoolOp op (y::z::r) pos)=true:=by
 rcases vs with _|⟨x,_|⟨y,_|⟨z,r⟩⟩⟩
 .exact dO h
 .exact dO h
 .exact .inl ⟨x,y,rfl,mu.mp h⟩
 .exact .inr ⟨x,y,z,r,rfl,mu.mp h⟩
noncomputable def x0(e:Expr):Option (Str×Str×Expr×Pos×Pos):=(maP e).bind λa=>(ctP a.1).bind λc=>(Dm c.1).bind λx=>(kM a.2.2.2.1).bind λv=>some (x,a.2.1,v,a.2.2.1,a.2.2.2.2)
def x3(h:x0 e=some q):∃j p,e=.Call (.Attribute (.Constant (.str q.1) j p) q.2.1 q.2.2.2.1) [q.2.2.1] [] q.2.2.2.2:=by
 refine ae (cJ h) λa h1 h=>?_
 refine ae (cJ h) λc h2 h=>?_
 refine ae (cJ h) λx h3 h=>?_
 refine ae (cJ h) λv h4 h=>?_
 cases h;exact⟨c.2.1,c.2.2,by rw[sJ h1,o_ h2,uC h3,db h4]⟩
noncomputable def x4(e:Expr):Option (Expr×Str):=(suP e).bind λc=>(AB c.2.1).bind λx=>some (c.1,x)
def x5{e:Expr}{q:Expr×Str}(h:x4 e=some q):∃j p pos,e=.Subscript q.1 (.Constant (.str q.2) j p) pos:=by
 obtain⟨c,h1,h⟩:=cJ h;obtain⟨x,h2,h⟩:=cJ h;cases h;obtain⟨j,p,D⟩:=pf h2;exact⟨j,p,c.2.2,by rw[o9 h1,D]⟩
noncomputable def x6(e:Expr):Option (List (Option Expr)×List Expr×Expr):=(suP e).bind λc=>(diP c.1).bind λd=>some (d.1,d.2.1,c.2.1)
def x9(h:x6 e=some q):∃p pos,e=.Subscript (.Dict q.1 q.2.1 p) q.2.2 pos:=by
 obtain⟨c,h1,h⟩:=cJ h;obtain⟨d,h2,h⟩:=cJ h;cases h;exact⟨d.2.2,c.2.2,by rw[o9 h1,Dj h2]⟩
noncomputable def ml:List (Str×Str)->List (Option Expr)->List Expr->Bool
 | [],[],[]=>true
 |p::r,k::ks,v::vs=>k.bind AB==some p.1&&AB v==some p.2&&ml r ks vs
 | _,_,_=>false
mutual
noncomputable def chk(T:Tab):ME->List Str->Scope->Expr->Bool
 | .var i,N,sc,D=>onQ (nmP D) λx=>au N sc i x.1
 | .bor i,N,sc,D=>onQ (nmP D) λx=>au N sc i x.1
 | .cst v,_,_,D=>onQ (ctP D) λc=>mj v c.1
 | .glob x v,_,sc,D=>onQ (nmP D) λy=>x==y.1&&glB sc x&&BW T.gs x v&&aF x
 | .bin op a b,N,sc,D=>onQ (biP D) λq=>q.2.1==Dn op&&chk T a N sc q.1&&chk T b N sc q.2.2.1
 | .neg _,_,_,_=>false
 | .not a,N,sc,D=>onQ (unP D) λq=>q.1==.Not&&chk T a N sc q.2.1
 | .and a b,N,sc,D=>onQ (boP D) λq=>q.1==.And&&Do (λe=>chk T a N sc e) (λe=>chk T b N sc e) .And q.2.2 q.2.1
 | .or a b,N,sc,D=>onQ (boP D) λq=>q.1==.Or&&Do (λe=>chk T a N sc e) (λe=>chk T b N sc e) .Or q.2.2 q.2.1
 | .ite c a b,N,sc,D=>onQ (ifP D) λq=>chk T c N sc q.1&&chk T a N sc q.2.1&&chk T b N sc q.2.2.1&&!aI a&&!aI b
 | .cmp op a b,N,sc,D=>onQ (xY D) λq=>q.2.1==gi op&&chk T a N sc q.1&&chk T b N sc q.2.2&&!behindInMarks q.2.1 q.2.2
 | .chain op J a b c,N,sc,D=>(match D with|.Compare l [o,o'] [m,r] _=>o==gi op&&o'==gi J&&chk T a N sc l&&chk T b N sc m&&chk T c N sc r&&!lastMarks [o,o'] [m,r]|_=>false)
 | .tup es,N,sc,D=>onQ (tuP D) λq=>chks T es N sc q.1&&es.all (λe=>!aI e)
 | .lst es,N,sc,D=>onQ (liP D) λq=>chks T es N sc q.1&&es.all (λe=>!aI e)
 | .idx a i,N,sc,D=>onQ (suP D) λq=>chk T a N sc q.1&&chk T i N sc q.2.1&&fj q.2.1
 | .slice a lo hi,N,sc,D=>onQ (F6 D) λq=>chk T a N sc q.1&&pj (λe=>chk T lo N sc e) (jP lo) q.2.1&&pj (λe=>chk T hi N sc e) (jP hi) q.2.2
 | .blt b es,N,sc,D=>onQ (vZ D) λq=>q.1==(qK b:Str)&&glB sc q.1&&uD sc (λxs=>chks T es N sc xs) es.length b q.2
 | .call f es,N,sc,D=>onQ (vZ D) λq=>T.fs[f]?==some q.1&&glB sc q.1&&aF q.1&&chks T es N sc q.2
 | .callD _ _ _,_,_,_=>false
 | .comp k src js cond elt,N,sc,D=>onQ (lcX D) λq=>i9 sc N q.2.1 q.2.2.1.1 (fk N js) js&&pi sc false (λxs=>chks T src N sc xs) k q.2.2.2.1&&uE (λc=>chk T cond (q.2.2.1.1::fk N js) (m6 q.2.1 sc) c) cond q.2.2.2.2&&chk T elt (q.2.2.1.1::fk N js) (m6 q.2.1 sc) q.1&&!aI elt
 | .dget _ _ _,_,_,_=>false
 | .dat _ _,_,_,_=>false
 | .dIn _ _ _,_,_,_=>false
 | .fld i n,N,sc,D=>onQ (mi D) λq=>iD[n]?==some q.2&&au N sc i q.1
 | .fldL i,N,sc,D=>onQ (mi D) λq=>q.2==("taken":Str)&&au N sc i q.1
 | .inO neg e i,N,sc,D=>onQ (xY D) λz=>onQ (mi z.2.2) λq=>z.2.1==(if neg=true then CmpOp.NotIn else CmpOp.In)&&chk T e N sc z.1&&q.2==("taken":Str)&&au N sc i q.1
 | .callV _ _,_,_,_=>false
 | .split a y,N,sc,D=>onQ (maP D) λq=>onQ (kM q.2.2.2.1) λz=>onQ (ctP z) λc=>q.2.1==("split":Str)&&chk T a N sc q.1&&mj (.str y) c.1&&q.2.2.1.endLine==q.2.2.2.2.line&&(nmP q.1).isSome
 | .comp2 _ _ _ _,_,_,_=>false
 | .callM f i es,N,sc,D=>onQ (xZ D) λq=>qJ N sc T.ms f i (λxs=>chks T es N sc xs) q
 | .join x e,N,sc,D=>onQ (x0 D) λq=>q.1==x&&q.2.1==("join":Str)&&chk T e N sc q.2.2.1&&az q.2.2.1&&q.2.2.2.1.endLine==q.2.2.2.2.line
 | .datL e b,N,sc,D=>onQ (x4 D) λq=>q.2==(if b=true then("weaver":Str)else("moth":Str))&&chk T e N sc q.1
 | .disp kvs e,N,sc,D=>onQ (x6 D) λq=>ml kvs q.1 q.2.1&&chk T e N sc q.2.2&&fj q.2.2&&decide (kvs.length<=15)&&!kvs.isEmpty
noncomputable def chks(T:Tab):List ME->List Str->Scope->List Expr->Bool
 | [],_,_,[]=>true
 |m::ms,N,sc,e::es=>chk T m N sc e&&az e&&chks T ms N sc es
 | _,_,_,_=>false
end
def x_(T)(op q)(a b c)(N)(sc)(D):chk T (.chain op q a b c) N sc D=(match D with|.Compare l [o,o'] [m,r] _=>o==gi op&&o'==gi q&&chk T a N sc l&&chk T b N sc m&&chk T c N sc r&&!lastMarks [o,o'] [m,r]|_=>false):=rfl
def pk(h:chk T (.bor i) N sc e=true):∃x p,e=.Name x p/\au N sc i x=true:=by
 replace h:=am h
 refine ae h λx h1 h=>?_
 exact⟨x.1,x.2,fh h1,h⟩
def cy(h:chks T (m::ms) N sc (e::es)=true):(chk T m N sc e=true/\az e=true)/\chks T ms N sc es=true:=by
 obtain⟨a,b⟩:=mu.mp h;exact⟨mu.mp a,b⟩
def jQ{cond elt:ME}(h:chk T (.comp D src js cond elt) N sc J=true):∃e x px it ifs scope pos,J=.ListComp e [⟨.Name x px,it,ifs,0⟩] scope pos /\
  (i9 sc N scope x (fk N js) js&&pi sc false (λxs=>chks T src N sc xs) D it&&uE (λc=>chk T cond (x::fk N js) (m6 scope sc) c) cond ifs&&chk T elt (x::fk N js) (m6 scope sc) e&&!aI elt)=true:=by
 replace h:=am h
 obtain⟨q,w,h⟩:=h;obtain⟨pos,rfl⟩:=Di w;exact⟨_,_,_,_,_,_,_,rfl,h⟩
noncomputable def iF:ME->Bool
 | .lst _=>true
 | .comp ..=>true
 | .blt .listOf _=>true
 | .blt .sorted _=>true
 | .blt .sortedSet _=>true
 | .blt .sortedKeys _=>true
 | .blt .valuesOf _=>true
 | _=>false
noncomputable def BX(sc:Scope)(t:Str)(tpos:Pos)(e:Expr):Bool:=onQ (lcP e) λq=>sc.names.lookup t==some .local&&tpos.line==q.2.2.2.line&&!(q.2.2.1.names.any λ(n,k)=>n==t&&(k==.local||k==.cell))
noncomputable def ya(sc:Scope)(t:Str):Expr->Bool
 | .ListComp _ _ _ _=>!(sc.names.lookup t==some .local)
 | _=>false
noncomputable def Ib:ME->Bool
 | .comp2 ..=>true
 | _=>false
noncomputable def nO(sc:Scope)(t:Str)(tpos:Pos)(v:Expr)(e:ME):Bool:=BX sc t tpos v&&!Ib e
noncomputable def dG(N:List Str)(sc:Scope):List Nat->List Expr->Bool
 | [],[]=>true
 |i::is,.Name x _::es=>N[i]?==some x&&fY sc x&&aF x&&dG N sc is es
 | _,_=>false
def pp(N)(sc)(i)(is)(x)(p)(es):dG N sc (i::is) (.Name x p::es)=(N[i]?==some x&&fY sc x&&aF x&&dG N sc is es):=rfl
noncomputable def v1(s:Stmt):Option (Str×Pos×Expr):=(asP s).bind λc=>(kM c.1).bind λu=>(nmP u).bind λx=>some (x.1,x.2,c.2.1)
def i_(h:v1 s=some q):∃pos,s=.Assign [.Name q.1 q.2.1] q.2.2 pos:=by
 refine ae (cJ h) λc h1 h=>?_
 refine ae (cJ h) λu h2 h=>?_
 refine ae (cJ h) λx h3 h=>?_
 cases h;exact⟨c.2.2,by rw[Dg h1,db h2,fh h3]⟩
noncomputable def Dp(s:Stmt):Option (Str×Str×Pos×List Expr×Pos):=(exP s).bind λa=>maN a.1
def uG(h:Dp s=some q):∃p pos,s=.Expr (.Call (.Attribute (.Name q.1 p) q.2.1 q.2.2.1) q.2.2.2.1 [] q.2.2.2.2) pos:=by
 refine ae (cJ h) λx h1 h=>?_
 obtain⟨p,e⟩:=xX h;exact⟨p,x.2,by rw[Dk h1,e]⟩
noncomputable def AC(s:Stmt):Option (Expr):=(reP s).bind λc=>c.1
def pq(h:AC s=some v):∃pos,s=.Return (some v) pos:=by
 refine ae (cJ h) λc h1 h=>?_
 exact⟨c.2,by rw[Dl h1,h]⟩
noncomputable def BY(e:Expr):Option (Str):=(nmP e).bind λx=>some x.1
def yb(h:BY e=some x):∃p,e=.Name x p:=by
 refine ae (cJ h) λx h1 h=>?_
 cases h;exact⟨x.2,fh h1⟩
noncomputable def Dq:Stmt->Option (Str×Str×Str×Pos×List Expr×Pos)
 | .Expr (.Call (.Attribute (.Attribute (.Name x _) f _) m ap) args [] cp) _=>some (x,f,m,ap,args,cp)
 | _=>none
def AD{s:Stmt}{q:Str×Str×Str×Pos×List Expr×Pos}(h:Dq s=some q):∃p fp pos,s=.Expr (.Call (.Attribute (.Attribute (.Name q.1 p) q.2.1 fp) q.2.2.1 q.2.2.2.1) q.2.2.2.2.1 [] q.2.2.2.2.2) pos:=by
 unfold Dq at h;split at h
 .cases h;exact⟨_,_,_,rfl⟩
 .cases h
noncomputable def yc:Stmt->Option Expr
 | .Expr e _=>some e
 | _=>none
def yd{s:Stmt}{e:Expr}(h:yc s=some e):∃pos,s=.Expr e pos:=by
 unfold yc at h;split at h
 .cases h;exact⟨_,rfl⟩
 .cases h
noncomputable def sM:List Stmt->Option (Stmt×Stmt×Stmt×List Stmt)
 |a::b::c::r=>some (a,b,c,r)
 | _=>none
def v2{l:List Stmt}{q:Stmt×Stmt×Stmt×List Stmt}(h:sM l=some q):l=q.1::q.2.1::q.2.2.1::q.2.2.2:=by
 unfold sM at h;split at h
 .cases h;rfl
 .cases h
noncomputable def o1Q:Stmt->Option (Str×Str×Str)
 | .Assign [.Name x _] (.Dict [some (.Constant (.str a) _ _),some (.Constant (.str b) _ _)] [.List [] _,.List [] _] _) _=>some (x,a,b)
 | _=>none
def Dr{s:Stmt}{q:Str×Str×Str}(h:o1Q s=some q):∃px D p1 J p2 U Y dp pos,s=.Assign [.Name q.1 px] (.Dict [some (.Constant (.str q.2.1) D p1),some (.Constant (.str q.2.2) J p2)] [.List [] U,.List [] Y] dp) pos:=by
 unfold o1Q at h;split at h
 .cases h;exact⟨_,_,_,_,_,_,_,_,_,rfl⟩
 .cases h
structure O3 where
 (y z o t m:Str) (ap cp:Pos) (y2 t2:Str) (ks:List (Option Expr)) (vs:List Expr) (t3:Str)
noncomputable def o3Q:Stmt->Option O3
 | .For (.Name y _) (.Name z _) [.Expr (.Call (.Attribute (.Subscript (.Name o _) (.Name t _) _) m ap) [.Name y2 _] [] cp) _,.Assign [.Name t2 _] (.Subscript (.Dict ks vs _) (.Name t3 _) _) _] [] _=>some ⟨y,z,o,t,m,ap,cp,y2,t2,ks,vs,t3⟩
 | _=>none
def Ds{s:Stmt}{q:O3}(h:o3Q s=some q):∃Y Z po pt ps p2 ep D dp J U pa pos,s=.For (.Name q.y Y) (.Name q.z Z) [.Expr (.Call (.Attribute (.Subscript (.Name q.o po) (.Name q.t pt) ps) q.m q.ap) [.Name q.y2 p2] [] q.cp) ep,.Assign [.Name q.t2 D] (.Subscript (.Dict q.ks q.vs dp) (.Name q.t3 J) U) pa] [] pos:=by
 unfold o3Q at h;split at h
 .cases h;exact⟨_,_,_,_,_,_,_,_,_,_,_,_,_,rfl⟩
 .cases h
noncomputable def ye(T:Tab)(N:List Str)(sc:Scope)(i j k d:Nat)(h:ME)(s1 D J:Stmt):Bool:=
 (onQ (o1Q s1) λq=>N[i]?==some q.1&&fY sc q.1&&aF q.1&&q.2.1==("weaver":Str)&&q.2.2==("moth":Str)) &&
 (onQ (v1 D) λq=>N[j]?==some q.1&&fY sc q.1&&aF q.1&&chk T h N sc q.2.2&&!aI h&&ce q.2.2) &&
 (onQ (o3Q J) λq=>N[k]?==some q.y&&fY sc q.y&&au N sc d q.z&&au N sc i q.o&&au N sc j q.t&&q.m==("append":Str)&&q.ap.endLine==q.cp.line&&au N sc k q.y2&&N[j]?==some q.t2&&fY sc q.t2&&au N sc j q.t3&&ml [("weaver","moth"),("moth","weaver")] q.ks q.vs) &&
 decide (i≠j/\i≠k/\j≠k/\d≠i/\d≠j/\d≠k)
mutual
noncomputable def fw(T:Tab)(N:List Str)(sc:Scope):MS->Stmt->Bool
 | .set i e,s0=>onQ (v1 s0) λq=>N[i]?==some q.1&&fY sc q.1&&aF q.1&&chk T e N sc q.2.2&&!aI e&&(ce q.2.2||nO sc q.1 q.2.1 q.2.2 e||ya sc q.1 q.2.2)
 | .setOwn i e,s0=>onQ (v1 s0) λq=>N[i]?==some q.1&&fY sc q.1&&aF q.1&&chk T e N sc q.2.2&&iF e&&(ce q.2.2||nO sc q.1 q.2.1 q.2.2 e)
 | .append i e,s0=>onQ (Dp s0) λq=>onQ (kM q.2.2.2.1) λv=>au N sc i q.1&&q.2.1==("append":Str)&&chk T e N sc v&&!aI e&&az v&&q.2.2.1.endLine==q.2.2.2.2.line
 | .extend i e,s0=>onQ (Dp s0) λq=>onQ (kM q.2.2.2.1) λv=>au N sc i q.1&&q.2.1==("extend":Str)&&chk T e N sc v&&az v&&q.2.2.1.endLine==q.2.2.2.2.line
 | .mkO i es,s0=>onQ (v1 s0) λq=>onQ (vZ q.2.2) λc=>N[i]?==some q.1&&fY sc q.1&&aF q.1&&c.1==("Table":Str)&&glB sc c.1&&chks T es N sc c.2&&(es.all λm=>!aI m)&&!c.2.isEmpty
 | .appO i e,s0=>onQ (Dq s0) λq=>onQ (kM q.2.2.2.2.1) λv=>au N sc i q.1&&q.2.1==("taken":Str)&&q.2.2.1==("append":Str)&&chk T e N sc v&&!aI e&&az v&&q.2.2.2.1.endLine==q.2.2.2.2.2.line
 | .retT e,s0=>onQ (AC s0) λv=>chk T e N sc v&&!aI e
 | .takeO (some j) i f es,s0=>onQ (v1 s0) λq=>onQ (xZ q.2.2) λc=>N[j]?==some q.1&&fY sc q.1&&aF q.1&&(qJ N sc T.ms f i (λxs=>chks T es N sc xs) c&&(es.all λm=>!aI m))
 | .takeO none i f es,s0=>onQ (yc s0) λv=>onQ (xZ v) λc=>qJ N sc T.ms f i (λxs=>chks T es N sc xs) c&&(es.all λm=>!aI m)
 | .setIdx _ _ _,_=>false
 | .unpack _ _,_=>false
 | .expr e,s0=>(match s0 with|.Expr v _=>chk T e N sc v&&ce v|_=>false)
 | .ite c a b,s0=>(match s0 with|.If t x y _=>chk T c N sc t&&chkSs T N sc a x&&chkSs T N sc b y|_=>false)
 | .for1 i k src body,s0=>(match s0 with|.For (.Name x _) it b [] _=>N[i]?==some x&&fY sc x&&aF x&&pi sc false (λxs=>chks T src N sc xs) k it&&chkSs T N sc body b|_=>false)
 | .forT is k src body,s0=>(match s0 with|.For (.Tuple D _ _) it b [] _=>dG N sc is D&&pi sc true (λxs=>chks T src N sc xs) k it&&chkSs T N sc body b|_=>false)
 | .ret e,s0=>onQ (AC s0) λv=>chk T e N sc v&&!aI e
 | .retOwn i,s0=>onQ (AC s0) λv=>onQ (BY v) λx=>au N sc i x
 | .own3 _ _ _ _ _,_=>false
 | .never,_=>true
 | _,_=>false
noncomputable def chkSs(T:Tab)(N:List Str)(sc:Scope):List MS->List Stmt->Bool
 | [],[]=>true
 | .freeze _::_,_=>false
 | .own3 i j k d h::ms,ss=>onQ (sM ss) λz=>ye T N sc i j k d h z.1 z.2.1 z.2.2.1&&chkSs T N sc ms z.2.2.2
 |m::ms,s::ss=>fw T N sc m s&&chkSs T N sc ms ss
 | _,_=>false
end
def AE(T)(N)(sc)(i)(k)(src)(body)(s0):fw T N sc (.for1 i k src body) s0=(match s0 with|.For (.Name x _) it b [] _=>N[i]?==some x&&fY sc x&&aF x&&pi sc false (λxs=>chks T src N sc xs) k it&&chkSs T N sc body b|_=>false):=rfl
def AF(T)(N)(sc)(is)(k)(src)(body)(s0):fw T N sc (.forT is k src body) s0=(match s0 with|.For (.Tuple q _ _) it b [] _=>dG N sc is q&&pi sc true (λxs=>chks T src N sc xs) k it&&chkSs T N sc body b|_=>false):=rfl
theorem mn(D:∀x b,f x x=some b->b=true):∀xs {b},eqL f xs xs=some b->b=true
 | [],b,h=>by simp[eqL]at h;exact h
 |x::xs,b,h=>by
  simp only[eqL,i1,wh]at h;obtain⟨p,h1,q,h2,rfl⟩:=h;rw[D x p h1,mn D xs h2];rfl
theorem ja:∀(n:Nat) (x:PV) {b:Bool},eqF n x x=some b->b=true
 |n,.non,b,h=>by cases n<;>cases h<;>rfl
 |n,.bl x,b,h=>by cases n<;>cases h<;>exact Jx x
 |n,.int x,b,h=>by cases n<;>cases h<;>exact Jx x
 |n,.str x,b,h=>by cases n<;>cases h<;>exact Jx x
 |0,.tup _,b,h=>by cases h
 |0,.lst _,b,h=>by cases h
 |n+1,.tup xs,b,h=>mn (λx b=>ja n x) xs h
 |n+1,.lst xs,b,h=>mn (λx b=>ja n x) xs ((if_pos rfl).symm.trans h)
 |n,.dI _,b,h=>by cases n<;>cases h
 |n,.dL _ _,b,h=>by cases n<;>cases h
def fN(h:eqF n x y=some b):isD x=false/\isD y=false:=by
 cases x<;>cases y<;>first|exact⟨rfl,rfl⟩|(cases n<;>exact aP h)
noncomputable def Dt:PV->Bool
 | .tup _=>true
 | .lst _=>true
 | _=>false
def fD(h:eqF n x y=some b)(e:Dt x=!Dt y):b=false:=by
 cases x<;>cases y<;>first|(cases e;done)|(cases n<;>cases h<;>rfl)
theorem jb :∀xs ys {b},eqL f xs ys=some b ->
  (∀(j:Nat) x y,xs[j]?=some x->ys[j]?=some y->∃c,f x y=some c) /\
   b=((range (min xs.length ys.length)).all (λj=>(f (xs.getD j .non) (ys.getD j .non)).getD false)&&xs.length==ys.length)
 | [],[],b,h=>by simp[eqL]at h;subst h;simp
 | [],y::ys,b,h=>by simp[eqL]at h;subst h;simp
 |x::xs,[],b,h=>by simp[eqL]at h;subst h;simp
 |x::xs,y::ys,b,h=>by
  simp only[eqL,i1,wh]at h;obtain⟨p,h1,q,h2,rfl⟩:=h;obtain⟨D,J⟩:=jb xs ys h2;refine⟨λj Z y' U Y=>?_,?_⟩
  .cases j with
   |zero=>simp at U Y;subst U Y;exact⟨p,h1⟩
   |succ j=>exact D j Z y' U Y
  .rw[J];have hm:min (x::xs).length (y::ys).length=min xs.length ys.length+1:=by simp only[length_cons];exact(by simp)
   rw[hm,range_succ_eq_map,all_cons,K8];have hl:((x::xs).length==(y::ys).length)=(xs.length==ys.length):=by
    simp_all
   rw[hl,Bool.and_assoc];simp only[getD_cons_zero,h1,getD_some,Function.comp_def,getD_cons_succ]
theorem uH :∀xs {b},inL f xs=some b->(∀x∈xs,∃c,f x=some c)/\b=xs.any λx=>(f x).getD false
 | [],b,h=>by simp[inL]at h;subst h;simp
 |x::xs,b,h=>by
  simp only[inL,i1,wh]at h;obtain⟨p,h1,q,h2,rfl⟩:=h;obtain⟨D,U⟩:=uH xs h2;refine⟨λy J=>?_,?_⟩
  .rcases rb.mp J with rfl|J
   .exact⟨p,h1⟩
   .exact D y J
  .simp_all
section
variable{X:Cx}{pins:List (Addr×Obj)}{σ:St}{H:Hp}{s:Shared}
def qN(I:Inv X pins σ H s)(h1:SqL X.K H a xs)(h2:SqT X.K H a ys):False:=by
 refine aM (I.list h1) λits _ p _=>?_
 refine aM (I.tuple h2) λD _ q _=>?_
 exact SeqAt.ne_of_list_tuple p.isList (show s.heap.IsTuple a D.toArray from q) rfl
def AG{H:Hp}{a:Addr}{d:DD}(h:RdD H a d):IsD H a:=by
 cases d with
 |k kvs=>exact .inl ⟨_,h.rd⟩
 |t kvs=>exact .inr ⟨_,h.rd⟩
def kW(I:Inv X pins σ H s)(h1:SqL X.K H a xs\/SqT X.K H a xs)(h2:RdD H a d):False:=by
 refine ae ((xq I (AG h2)).1) λo ho hc=>?_
 rcases h1 with h1|h1
 .obtain⟨its,_,p,_⟩:=I.list h1;obtain⟨o',q,D,_⟩:=p.isList;rw[ho]at q;cases q;rw[hc]at D;exact absurd D (by decide)
 .obtain⟨its,_,⟨o',q,D,_⟩,_⟩:=I.tuple h1;rw[ho]at q;cases q;rw[hc]at D;exact absurd D (by decide)
def uI(I:Inv X pins σ H s){a:Addr}{xs:List V}{kvs:List (Key×V)}(h1:SqL X.K H a xs\/SqT X.K H a xs)(h2:H a=some (.dK kvs)):False:=by
 obtain⟨o,ho,hc⟩:=(xq I (.inl ⟨_,.inl h2⟩)).1;rcases h1 with h1|h1
 .obtain⟨its,_,p,_⟩:=I.list h1;obtain⟨o',q,D,_⟩:=p.isList;rw[ho]at q;cases q;rw[hc]at D;exact absurd D (by decide)
 .obtain⟨its,_,⟨o',q,D,_⟩,_⟩:=I.tuple h1;rw[ho]at q;cases q;rw[hc]at D;exact absurd D (by decide)
def BZ {a:Addr}{d:DD}{x y:V} (h1:RdD H a d) (h2:H a=some (.dK [(Sum.inr "weaver",x),(Sum.inr "moth",y)])):False:=by
 cases d with
 |k kvs =>
  rcases h1 with h1|⟨o,h1⟩
  .rw[h2]at h1;have e:=HO.dK.inj (x2 h1);cases kvs with
   |nil=>cases e
   |cons p r=>cases e
  .rw[h2]at h1;cases h1
 |t kvs =>
  rcases h1 with h1|⟨o,h1⟩<;>(rw[h2]at h1;cases h1)
def Sc.v_inj:∀{a b:Sc},a.v=b.v->a=b:=by
 intro a b h;cases a<;>cases b<;>simp[Sc.v]at h ⊢<;>exact h
theorem qO:∀{a b},sH a=sH b->a=b
 | [],[],_=>rfl
 | [],_::_,h=>wP h
 | _::_,[],h=>by cases h
 | (k,v)::a,(q,D)::b,h=>by
  simp[sH,IT,Prod.mk.injEq]at h;obtain⟨⟨h1,h2⟩,h3⟩:=h;rw[h1,Sc.v_inj h2,qO h3]
theorem uJ:∀{a b:List Int},(a.map Sum.inl:List Key)=b.map Sum.inl->a=b
 | [],[],_=>rfl
 | [],_::_,h=>wP h
 | _::_,[],h=>by cases h
 |x::a,y::b,h=>by
  simp[List.cons.injEq]at h;rw[h.1,uJ h.2]
theorem qP:∀{a b},Ax a=Ax b->a=b
 | [],[],_=>rfl
 | [],_::_,h=>wP h
 | _::_,[],h=>by cases h
 | (k,v)::a,(q,D)::b,h=>by
  simp[Ax,IT]at h;obtain⟨⟨h1,h2⟩,h3⟩:=h;rw[uJ h1,Sc.v_inj h2,qP h3]
def qQ{a b:DD}(h:qG a=qG b):a=b:=by
 cases a<;>cases b
 .rw[qO (HO.dK.inj h)]
 .cases h
 .cases h
 .rw[qP (HO.dT.inj h)]
def Du(h:RdD H a x)(g:RdD H a y):x=y:=by
 have h:=h.rd;have g:=g.rd;have ne:∀x o u,qG x≠.frz o u:=λx o u e=>by cases x<;>cases e
 rcases h with h|⟨o,h⟩<;>rcases g with g|⟨o',g⟩
 .rw[h]at g;exact qQ (x2 g)
 .rw[h]at g;exact absurd (x2 g) (ne x _ _)
 .simp_all
 .rw[h]at g;exact qQ (HO.frz.inj (x2 g)).2
mutual
theorem kX(I:Inv X pins σ H s):∀(x y:PV) {u:V},Rep X.K H x u->Rep X.K H y u->x=y
 | .non,y,u,h,g=>by rw[Rep]at h;subst h;cases y<;>simp[Rep]at g ⊢
 | .bl b,y,u,h,g=>by rw[Rep]at h;subst h;cases y<;>simp[Rep]at g ⊢;exact g
 | .int b,y,u,h,g=>by rw[Rep]at h;subst h;cases y<;>simp[Rep]at g ⊢;exact g
 | .str b,y,u,h,g=>by rw[Rep]at h;subst h;cases y<;>simp[Rep]at g ⊢;exact g
 | .tup xs,y,u,h,g=>by
  rw[Rep]at h;obtain⟨a,us,rfl,q,r⟩:=h;cases y with
  |tup ys =>
   rw[Rep]at g;obtain⟨b,vs,e,D,J⟩:=g;cases e;have:=I.tuple_inj (da q) (da D);subst this;rw[reps_inj I xs ys r J]
  |lst ys =>
   rw[Rep]at g;obtain⟨b,vs,e,D,J⟩:=g;cases e;exact(qN I D (da q)).elim
  |dI kvs =>
   rw[Rep]at g;obtain⟨b,e,D⟩:=g;cases e;exact(kW I (.inr (da q)) D).elim
  |dL w m =>
   rw[Rep]at g;obtain⟨b,Z,l2,U,Y,e,h1,_⟩:=g;cases e;exact(uI I (.inr (da q)) h1).elim
  | _=>simp[Rep]at g
 | .lst xs,y,u,h,g=>by
  rw[Rep]at h;obtain⟨a,us,rfl,q,r⟩:=h;cases y with
  |lst ys =>
   rw[Rep]at g;obtain⟨b,vs,e,D,J⟩:=g;cases e;have:=I.list_inj q D;subst this;rw[reps_inj I xs ys r J]
  |tup ys =>
   rw[Rep]at g;obtain⟨b,vs,e,D,J⟩:=g;cases e;exact(qN I q (da D)).elim
  |dI kvs =>
   rw[Rep]at g;obtain⟨b,e,D⟩:=g;cases e;exact(kW I (.inl q) D).elim
  |dL w m =>
   rw[Rep]at g;obtain⟨b,Z,l2,U,Y,e,h1,_⟩:=g;cases e;exact(uI I (.inl q) h1).elim
  | _=>simp[Rep]at g
 | .dI kvs,y,u,h,g=>by
  rw[Rep]at h;obtain⟨a,rfl,q⟩:=h;cases y with
  |dI ks =>
   rw[Rep]at g;obtain⟨b,e,D⟩:=g;cases e;rw[Du q D]
  |tup ys =>
   rw[Rep]at g;obtain⟨b,vs,e,D,J⟩:=g;cases e;exact(kW I (.inr (da D)) q).elim
  |lst ys =>
   rw[Rep]at g;obtain⟨b,vs,e,D,J⟩:=g;cases e;exact(kW I (.inl D) q).elim
  |dL w m =>
   rw[Rep]at g;obtain⟨b,Z,l2,U,Y,e,h1,_⟩:=g;cases e;exact(BZ q h1).elim
  | _=>simp[Rep]at g
 | .dL w m,y,u,h,g=>by
  rw[Rep]at h;obtain⟨a,Z,l2,U,Y,rfl,h1,h2,h3,h4,h5⟩:=h;cases y with
  |dL w' m' =>
   rw[Rep]at g;obtain⟨b,k1,k2,a2,a3,e,g1,g2,g3,g4,g5⟩:=g;cases e;rw[h1]at g1;cases g1;have z1:=I.list_inj h2 g2;have z2:=I.list_inj h4 g4;subst z1 z2;rw[reps_inj I w w' h3 g3,reps_inj I m m' h5 g5]
  |dI kvs =>
   rw[Rep]at g;obtain⟨b,e,D⟩:=g;cases e;exact(BZ D h1).elim
  |tup ys =>
   rw[Rep]at g;obtain⟨b,vs,e,D,J⟩:=g;cases e;exact(uI I (.inr (da D)) h1).elim
  |lst ys =>
   rw[Rep]at g;obtain⟨b,vs,e,D,J⟩:=g;cases e;exact(uI I (.inl D) h1).elim
  | _=>simp[Rep]at g
theorem reps_inj(I:Inv X pins σ H s):∀(xs ys:List PV) {us:List V},Reps X.K H xs us->Reps X.K H ys us->xs=ys
 | [],ys,us,h,g=>by
  rw[Reps]at h;subst h
  cases ys with
  |nil=>rfl
  |cons y ys=>rw[Reps]at g;obtain⟨_,_,e,_⟩:=g;cases e
 |x::xs,ys,us,h,g=>by
  rw[Reps]at h;obtain⟨u,r,rfl,q,t⟩:=h;cases ys with
  |nil=>rw[Reps]at g;cases g
  |cons y ys =>
   rw[Reps]at g;obtain⟨J,U,e,D,t'⟩:=g;cases e;rw[kX I x y q D,reps_inj I xs ys t t']
end
def Rep.tupAt(I:Inv X pins σ H s)(h:Rep X.K H (.tup xs) u)(r:aG u v) :
  ∃(a:Addr) (us:List V) (its:List Value),u=.ref a/\v=.ref a/\Reps X.K H xs us/\aA us its/\s.heap.IsTuple a its.toArray/\xs.length=its.length:=by
 refine aq h λa us D q t=>?_
 subst D;refine aM (I.tuple (da q)) λits J p _=>?_
 exact⟨a,us,its,rfl,r,t,J,p,t.length.trans J.length⟩
def Rep.lstAt(I:Inv X pins σ H s)(h:Rep X.K H (.lst xs) u)(r:aG u v) :
  ∃a us its,u=.ref a/\v=.ref a/\Reps X.K H xs us/\aA us its/\s.heap.IsList a its.toArray/\xs.length=its.length:=by
 refine aq h λa us D q t=>?_
 subst D;refine aM (I.list q) λits J p _=>?_
 exact⟨a,us,its,rfl,r,t,J,p.isList,t.length.trans J.length⟩
def jc{A:Around}(ih:∀x y {U Y}{D J}{b}{A},A.units+n<cLine->eqF n x y=some b->Rep X.K H x U->Rep X.K H y Y->aG U D->aG Y J->SeqAt.EqAt A s D J b)
  (hu:A.units+(n+1)<cLine) (rx:Reps X.K H xs us) (ry:Reps X.K H ys ws) (D:aA us its) (J:aA ws q)
  (hs:∀(j:Nat) x y,xs[j]?=some x->ys[j]?=some y->∃c,eqF n x y=some c) :
  ∀j (h1:j<its.toArray.size) (h2:j<q.toArray.size),SeqAt.EqAt A.in1 s its.toArray[j] q.toArray[j] ((eqF n (xs.getD j .non) (ys.getD j .non)).getD false):=λj h1 h2=>by
 have l1:=rx.length.trans D.length;have l2:=ry.length.trans J.length;simp only[pb]at h1 h2;have Z:xs[j]?=some xs[j]:=IP (by simp[*]);have e2:ys[j]?=some ys[j]:=IP (by omega);refine ae (rx.get Z) λU q1 p1=>?_
 refine ae (ry.get e2) λY q2 p2=>?_
 refine ae (D.get q1) λwx q3 p3=>?_
 refine ae (J.get q2) λwy q4 p4=>?_
 obtain⟨c,hc⟩:=hs j _ _ Z e2;have d1:xs.getD j .non=xs[j]:=by simp[List.getD,Z]
 have d2:ys.getD j .non=ys[j]:=by simp[List.getD,e2]
 have g1:its.toArray[j]=wx:=by
  simp_all
 have g2:q.toArray[j]=wy:=by
  simp_all
 rw[d1,d2,hc,g1,g2];exact ih _ _ (show A.units+1+n<cLine by omega) hc p1 p2 p3 p4
def AH(I:Inv X pins σ H s)(ih:∀x y {U Y}{Z vy}{b}{A},A.units+n<cLine->eqF n x y=some b->Rep X.K H x U->Rep X.K H y Y->aG U Z->aG Y vy->SeqAt.EqAt A s Z vy b)
  (hu:A.units+(n+1)<cLine):(∀{xs ys}{U Y}{Z vy}{b},eqF (n+1) (.tup xs) (.tup ys)=some b->Rep X.K H (.tup xs) U->Rep X.K H (.tup ys) Y->aG U Z->aG Y vy->SeqAt.RcAt A s Z vy b) /\
   (∀{xs ys}{U Y}{Z vy}{b},eqF (n+1) (.lst xs) (.lst ys)=some b->Rep X.K H (.lst xs) U->Rep X.K H (.lst ys) Y->aG U Z->aG Y vy->SeqAt.RcAt A s Z vy b):=by
 refine⟨λ{xs ys U Y Z vy b} h rx ry r1 r2=>?_,λ{xs ys U Y Z vy b} h rx ry r1 r2=>?_⟩
 .refine du (rx.tupAt I r1) λa us its D J t1 w1 p1 l1=>?_
  subst D;subst J;refine du (ry.tupAt I r2) λc ws aL D J t2 w2 p2 l2=>?_
  subst D;subst J;have h:=h;obtain⟨hs,hb⟩:=jb xs ys h;have q:=SeqAt.RcAt.tuples (A:=A) p1 p2 (by omega) (jc ih hu t1 t2 w1 w2 hs);rw[hb];simpa[l1,l2]using q
 .refine du (rx.lstAt I r1) λa us its D J t1 w1 p1 l1=>?_
  subst D;subst J;refine du (ry.lstAt I r2) λc ws aL D J t2 w2 p2 l2=>?_
  subst D;subst J;have h:(if xs.length=ys.length then eqL (eqF n) xs ys else some false)=some b:=h;by_cases hl:xs.length=ys.length
  .rw[if_pos hl]at h;obtain⟨hs,hb⟩:=jb xs ys h;have q:=SeqAt.RcAt.lists (A:=A) p1 p2 (by simp only[pb];omega) (by omega) (jc ih hu t1 t2 w1 w2 hs)
   simp_all
  .rw[if_neg hl]at h;cases h;exact SeqAt.RcAt.lists_lengths (A:=A) p1 p2 (by simp only[pb,bne_iff_ne];omega) (by omega)
def cK{x:PV}{u:V}(hd:isD x=false)(h:Rep X.K H x u):(∃xs,x=.tup xs)\/(∃xs,x=.lst xs)\/gJ u=true:=by
 cases x with
 |tup xs=>exact .inl ⟨xs,rfl⟩
 |lst xs=>exact .inr (.inl ⟨xs,rfl⟩)
 |non=>rw[Rep]at h;subst h;exact .inr (.inr rfl)
 |bl b=>rw[Rep]at h;subst h;exact .inr (.inr rfl)
 |int b=>rw[Rep]at h;subst h;exact .inr (.inr rfl)
 |str b=>rw[Rep]at h;subst h;exact .inr (.inr rfl)
 |dI _=>cases hd
 |dL _ _=>cases hd
def gj(q:A.units<cLine)(f:gJ u=true)(r:aG u v)(p:s.heap.IsTuple a its) :
  SeqAt.EqAt A s v (.ref a) false/\SeqAt.EqAt A s (.ref a) v false/\SeqAt.RcAt A s v (.ref a) false/\SeqAt.RcAt A s (.ref a) v false:=by
 cases u with
 |non=>subst r;exact⟨.none_tuple p q,.tuple_none p q,.none_tuple p q,.tuple_none p q⟩
 |bl b=>subst r;exact⟨.bool_tuple b p q,.tuple_bool b p q,.bool_tuple b p q,.tuple_bool b p q⟩
 |int b=>obtain⟨t,rfl⟩:=r;exact⟨.int_tuple b t p q,.tuple_int b t p q,.int_tuple b t p q,.tuple_int b t p q⟩
 |str b=>obtain⟨t,rfl⟩:=r;exact⟨.str_tuple b t p q,.tuple_str b t p q,.str_tuple b t p q,.tuple_str b t p q⟩
 | _=>exact absurd (show false=true from f) kn
def ia(q:A.units<cLine)(f:gJ u=true)(r:aG u v)(p:s.heap.IsList a its) :
  SeqAt.EqAt A s v (.ref a) false/\SeqAt.EqAt A s (.ref a) v false/\SeqAt.RcAt A s v (.ref a) false/\SeqAt.RcAt A s (.ref a) v false:=by
 cases u with
 |non=>subst r;exact⟨.none_list p q,.list_none p q,.none_list p q,.list_none p q⟩
 |bl b=>subst r;exact⟨.bool_list b p q,.list_bool b p q,.bool_list b p q,.list_bool b p q⟩
 |int b=>obtain⟨t,rfl⟩:=r;exact⟨.int_list b t p q,.list_int b t p q,.int_list b t p q,.list_int b t p q⟩
 |str b=>obtain⟨t,rfl⟩:=r;exact⟨.str_list b t p q,.list_str b t p q,.str_list b t p q,.list_str b t p q⟩
 | _=>exact absurd (show false=true from f) kn
def yf(D:aG y u)(q:aG x v)(U:gJ y=true)(J:gJ x=true):SeqAt.RcAt A s u v (eqV y x):=by
 cases y with
 |non =>
  cases D;cases x with
  |non=>subst q;exact SeqAt.RcAt.none_none
  |bl b=>subst q;exact SeqAt.RcAt.none_bool b
  |int b=>obtain⟨t,rfl⟩:=q;exact SeqAt.RcAt.none_int b t
  |str b=>obtain⟨t,rfl⟩:=q;exact SeqAt.RcAt.none_str b t
  | _=>exact absurd (show false=true from J) kn
 |bl a =>
  subst D;cases x with
  |non=>subst q;exact SeqAt.RcAt.bool_none a
  |bl b=>subst q;exact SeqAt.RcAt.bool_bool a b
  |int b=>obtain⟨t,rfl⟩:=q;exact SeqAt.RcAt.bool_int a b t
  |str b=>obtain⟨t,rfl⟩:=q;exact SeqAt.RcAt.bool_str a b t
  | _=>exact absurd (show false=true from J) kn
 |int a =>
  obtain⟨t',rfl⟩:=D;cases x with
  |non=>subst q;exact SeqAt.RcAt.int_none a t'
  |bl b=>subst q;exact SeqAt.RcAt.int_bool a t' b
  |int b=>obtain⟨t,rfl⟩:=q;exact SeqAt.RcAt.int_int a t' b t
  |str b=>obtain⟨t,rfl⟩:=q;exact SeqAt.RcAt.int_str a t' b t
  | _=>exact absurd (show false=true from J) kn
 |str a =>
  obtain⟨t',rfl⟩:=D;cases x with
  |non=>subst q;exact SeqAt.RcAt.str_none a t'
  |bl b=>subst q;exact SeqAt.RcAt.str_bool a t' b
  |int b=>obtain⟨t,rfl⟩:=q;exact SeqAt.RcAt.str_int a t' b t
  |str b=>obtain⟨t,rfl⟩:=q;exact SeqAt.RcAt.str_str a t' b t
  | _=>exact absurd (show false=true from J) kn
 | _=>exact absurd (show false=true from U) kn
def mq{n:Nat}{x y:PV}{u v:V}{b:Bool}(q:Rep X.K H x u)(D:Rep X.K H y v)(J:gJ u=true)(U:gJ v=true)(h:eqF n x y=some b):b=eqV u v:=by
 cases x<;>cases y<;>simp only[Rep]at q D
 all_goals first
  | (obtain⟨_,_,_,_,_,rfl,_⟩:=q;exact absurd (show false=true from J) kn)
  | (obtain⟨_,_,_,_,_,rfl,_⟩:=D;exact absurd (show false=true from U) kn)
  | (obtain⟨_,_,rfl,_⟩:=q;exact absurd (show false=true from J) kn)
  | (obtain⟨_,_,rfl,_⟩:=D;exact absurd (show false=true from U) kn)
  | (obtain⟨_,rfl,_⟩:=q;exact absurd (show false=true from J) kn)
  | (obtain⟨_,rfl,_⟩:=D;exact absurd (show false=true from U) kn)
  | (subst q D;cases n<;>cases h<;>rfl)
def fE(r:Rep X.K H y v)(f:gJ v=true):Dt y=false:=by
 cases y with
 |tup _|lst _=>obtain⟨_,_,rfl,_⟩:=r;exact dO f
 | _=>rfl
def pw(I:Inv X pins σ H s):∀n x y {ux uy}{vx vy}{b}{A},A.units+n<cLine->eqF n x y=some b->Rep X.K H x ux->Rep X.K H y uy->aG ux vx->aG uy vy ->
  SeqAt.EqAt A s vx vy b/\SeqAt.RcAt A s vx vy b:=by
 intro n
 induction n with
 |zero =>
  intro x y ux uy vx vy b A hu h rx Z r1 r2;have D:A.units<cLine:=by omega
  rcases cK (fN h).1 rx with⟨xs,rfl⟩|⟨xs,rfl⟩|fx
  .refine du (rx.tupAt I r1) λa us its J U t1 w1 p1 l1=>?_
   subst J;subst U;rcases cK (fN h).2 Z with⟨ys,rfl⟩|⟨ys,rfl⟩|fy
   .exact aP h
   .refine du (Z.lstAt I r2) λc ws Y J U t2 w2 p2 l2=>?_
    subst J;subst U;cases h;exact⟨.tuple_list p1 p2 D,.tuple_list p1 p2 D⟩
   .refine fP (gj D fy r2 p1) λz1 z2 z3 z4=>?_
    have:=fD h (by rw[fE Z fy];rfl);subst this;exact⟨z2,z4⟩
  .refine du (rx.lstAt I r1) λa us its J U t1 w1 p1 l1=>?_
   subst J;subst U;rcases cK (fN h).2 Z with⟨ys,rfl⟩|⟨ys,rfl⟩|fy
   .refine du (Z.tupAt I r2) λc ws Y J U t2 w2 p2 l2=>?_
    subst J;subst U;cases h;exact⟨.list_tuple p1 p2 D,.list_tuple p1 p2 D⟩
   .exact aP h
   .refine fP (ia D fy r2 p1) λz1 z2 z3 z4=>?_
    have:=fD h (by rw[fE Z fy];rfl);subst this;exact⟨z2,z4⟩
  .rcases cK (fN h).2 Z with⟨ys,rfl⟩|⟨ys,rfl⟩|fy
   .refine du (Z.tupAt I r2) λc ws Y J U t2 w2 p2 l2=>?_
    subst J;subst U;refine fP (gj D fx r1 p2) λz1 z2 z3 z4=>?_
    have:=fD h (by rw[fE rx fx];rfl);subst this;exact⟨z1,z3⟩
   .refine du (Z.lstAt I r2) λc ws Y J U t2 w2 p2 l2=>?_
    subst J;subst U;refine fP (ia D fx r1 p2) λz1 z2 z3 z4=>?_
    have:=fD h (by rw[fE rx fx];rfl);subst this;exact⟨z1,z3⟩
   .rw[mq rx Z fx fy h];exact⟨xj r1 r2 fx fy,yf r1 r2 fx fy⟩
 |succ n ih =>
  intro x y ux uy vx vy b A hu h rx Z r1 r2;have D:A.units<cLine:=by exact(Jc (JV _ _) ‹_›)
  obtain⟨kt,kl⟩:=AH I (λx y {_ _ _ _ _ _} a1 a2 a3 a4 a5 a6=>(ih x y a1 a2 a3 a4 a5 a6).1) hu;rcases cK (fN h).1 rx with⟨xs,rfl⟩|⟨xs,rfl⟩|fx
  .refine du (rx.tupAt I r1) λa us its e1 bR t1 w1 p1 l1=>?_
   rcases cK (fN h).2 Z with⟨ys,rfl⟩|⟨ys,rfl⟩|fy
   .have q:=kt h rx Z r1 r2;refine du (Z.tupAt I r2) λc ws Y e2 bT t2 w2 p2 l2=>?_
    subst e1 bR e2 bT;refine⟨?_,q⟩;by_cases b4:a=c
    .subst b4;have e:=kX I _ _ rx Z;rw[e]at h;rw[ja _ _ h];exact .same _
    .exact .of_refs b4 q
   .refine du (Z.lstAt I r2) λc ws Y e2 bT t2 w2 p2 l2=>?_
    subst e1 bR e2 bT;cases h;exact⟨.tuple_list p1 p2 D,.tuple_list p1 p2 D⟩
   .subst e1 bR;refine fP (gj D fy r2 p1) λz1 z2 z3 z4=>?_
    have:=fD h (by rw[fE Z fy];rfl);subst this;exact⟨z2,z4⟩
  .refine du (rx.lstAt I r1) λa us its e1 bR t1 w1 p1 l1=>?_
   rcases cK (fN h).2 Z with⟨ys,rfl⟩|⟨ys,rfl⟩|fy
   .refine du (Z.tupAt I r2) λc ws Y e2 bT t2 w2 p2 l2=>?_
    subst e1 bR e2 bT;cases h;exact⟨.list_tuple p1 p2 D,.list_tuple p1 p2 D⟩
   .have q:=kl h rx Z r1 r2;refine du (Z.lstAt I r2) λc ws Y e2 bT t2 w2 p2 l2=>?_
    subst e1 bR e2 bT;refine⟨?_,q⟩;by_cases b4:a=c
    .subst b4;have e:=kX I _ _ rx Z;rw[e]at h;rw[ja _ _ h];exact .same _
    .exact .of_refs b4 q
   .subst e1 bR;refine fP (ia D fy r2 p1) λz1 z2 z3 z4=>?_
    have:=fD h (by rw[fE Z fy];rfl);subst this;exact⟨z2,z4⟩
  .rcases cK (fN h).2 Z with⟨ys,rfl⟩|⟨ys,rfl⟩|fy
   .refine du (Z.tupAt I r2) λc ws Y J U t2 w2 p2 l2=>?_
    subst J;subst U;refine fP (gj D fx r1 p2) λz1 z2 z3 z4=>?_
    have:=fD h (by rw[fE rx fx];rfl);subst this;exact⟨z1,z3⟩
   .refine du (Z.lstAt I r2) λc ws Y J U t2 w2 p2 l2=>?_
    subst J;subst U;refine fP (ia D fx r1 p2) λz1 z2 z3 z4=>?_
    have:=fD h (by rw[fE rx fx];rfl);subst this;exact⟨z1,z3⟩
   .rw[mq rx Z fx fy h];exact⟨xj r1 r2 fx fy,yf r1 r2 fx fy⟩
end
section
variable{X:Cx}
def Dw(hu:X.A.units+101<cLine):OpR X (compareOp .Eq) (λD J H Q=>∃x y b,Rep X.K H x D/\Rep X.K H y J/\eqF 100 x y=some b/\Q (.bl b) H):=by
 intro pins s σ H D J v u Q I U Y h;refine lh h λx y b Z r2 e q=>?_
 exact(pw I 100 x y (Jy ‹_›) e Z r2 U Y).2 _ _ _ _ ⟨.bl b,H,I,rfl,q⟩
def Dx(hu:X.A.units+101<cLine):OpR X (compareOp .NotEq) (λux uy H Q=>∃x y b,Rep X.K H x ux/\Rep X.K H y uy/\qF x y=true/\eqF 100 x y=some b/\Q (.bl (!b)) H):=by
 intro pins s σ H ux uy v u Q I rx ry h;obtain⟨x,y,b,U,r2,ok,e,q⟩:=h;rcases cK (fN e).1 U with⟨xs,rfl⟩|⟨xs,rfl⟩|fx
 .cases y with
  |tup ys =>
   obtain⟨a,us,its,rfl,rfl,t1,w1,p1,l1⟩:=U.tupAt I rx;obtain⟨c,ws,J,rfl,rfl,t2,w2,p2,l2⟩:=r2.tupAt I ry;have e:eqL (eqF 99) xs ys=some b:=e;obtain⟨hs,hb⟩:=jb xs ys e;obtain⟨⟨cls,dd,data,sl⟩,ho,hc,n,hd⟩:=id p1;obtain⟨⟨b1,aL,data2,a0⟩,D,Y,n2,Z⟩:=id p2;simp only at hc hd Y Z;subst hc hd Y Z;refine Kl (op:=.NotEq) ⟨_,ho,rfl⟩ ⟨_,D,rfl⟩ PySem.F.slot_tuple_ne PySem.F.entry_tuple_ne (PySem.F.args_tuple_ne_2 _ _) (SeqAt.tuple_neAt a c its.toArray J.toArray n n2 dd aL sl a0 _)
    ⟨ho,D,jc (n:=99) (λx y {_ _ _ _ _ _} a1 a2 a3 a4 a5 a6=>(pw I 99 x y a1 a2 a3 a4 a5 a6).1) (by omega) t1 t2 w1 w2 hs,?_⟩ (by omega)
   refine⟨(λx=>nomatch x),⟨.bl (!b),H,I,?_,q⟩⟩;rw[hb];simp[l1,l2,L2.aG]
  | _=>cases ok
 .cases y with
  |lst ys =>
   obtain⟨a,us,its,rfl,rfl,t1,w1,p1,l1⟩:=U.lstAt I rx;obtain⟨c,ws,J,rfl,rfl,t2,w2,p2,l2⟩:=r2.lstAt I ry;have e:(if xs.length=ys.length then eqL (eqF 99) xs ys else some false)=some b:=e;obtain⟨⟨cls,dd,data,sl⟩,ho,hc,n,hd⟩:=id p1;obtain⟨⟨b1,aL,data2,a0⟩,D,Y,n2,Z⟩:=id p2;simp only at hc hd Y Z;subst hc hd Y Z;by_cases hl:xs.length=ys.length
   .rw[if_pos hl]at e;obtain⟨hs,hb⟩:=jb xs ys e;refine Kl (op:=.NotEq) ⟨_,ho,rfl⟩ ⟨_,D,rfl⟩ PySem.F.slot_list_ne PySem.F.entry_list_ne (PySem.F.args_list_ne_2 _ _) (SeqAt.list_neAt a c its.toArray J.toArray n n2 dd aL sl a0 (by simp only[pb];omega) _)
     ⟨ho,D,jc (n:=99) (λx y {_ _ _ _ _ _} a1 a2 a3 a4 a5 a6=>(pw I 99 x y a1 a2 a3 a4 a5 a6).1) (by omega) t1 t2 w1 w2 hs,?_⟩ (by omega)
    refine⟨(λx=>nomatch x),⟨.bl (!b),H,I,?_,q⟩⟩;rw[hb,hl,Nat.min_self];simp[<- l1,hl,L2.aG]
   .rw[if_neg hl]at e;cases e;refine Kl (op:=.NotEq) ⟨_,ho,rfl⟩ ⟨_,D,rfl⟩ PySem.F.slot_list_ne PySem.F.entry_list_ne (PySem.F.args_list_ne_2 _ _) (SeqAt.list_ne_lengthsAt a c its.toArray J.toArray n n2 dd aL sl a0 (by simp only[pb,bne_iff_ne];omega)) ⟨ho,D,?_⟩ (by omega);exact⟨(λx=>nomatch x),⟨.bl true,H,I,rfl,q⟩⟩
  | _=>cases ok
 .have fy:gJ uy=true:=by
   rcases cK (fN e).2 r2 with⟨ys,rfl⟩|⟨ys,rfl⟩|fy
   .cases x<;>cases ok
    obtain⟨_,_,rfl,_⟩:∃a us,ux=V.ref a/\_:=by rw[Rep]at U;exact U
    exact absurd (show false=true from fx) kn
   .cases x<;>cases ok
    obtain⟨_,_,rfl,_⟩:∃a us,ux=V.ref a/\_:=by rw[Rep]at U;exact U
    exact absurd (show false=true from fx) kn
   .exact fy
  have hb:=mq U r2 fx fy e;subst hb;refine FH pins s σ H ux uy v u Q I rx ry ?_;have key:scal ux uy=true/\decide (ux=uy)=eqV ux uy:=by
   cases x<;>cases y<;>simp only[Rep]at U r2<;>first
    | (obtain⟨_,_,_,_,_,rfl,_⟩:=U;exact absurd (show false=true from fx) kn)
    | (obtain⟨_,_,_,_,_,rfl,_⟩:=r2;exact absurd (show false=true from fy) kn)
    | (obtain⟨_,_,rfl,_⟩:=U;exact absurd (show false=true from fx) kn)
    | (obtain⟨_,_,rfl,_⟩:=r2;exact absurd (show false=true from fy) kn)
    | (obtain⟨_,rfl,_⟩:=U;exact absurd (show false=true from fx) kn)
    | (obtain⟨_,rfl,_⟩:=r2;exact absurd (show false=true from fy) kn)
    | (subst U r2;first|(cases ok;done)|exact⟨rfl,by first|exact t4|exact wZ|exact t5|exact IM rfl|exact IQ (λz=>by cases z)⟩)
  exact⟨key.1,by rw[key.2];exact q⟩
def jd(I:Inv X pins σ H s)(hu:X.A.units+101<cLine)(rx:Rep X.K H x ux)(r1:aG ux vx)(t:Reps X.K H xs us)(w:aA us its)(h:isIn x xs=some b) :
  ∃e,(∀y,y∈its.toArray->SeqAt.EqAt X.A.in1 s y vx (e y))/\its.toArray.any e=b:=by
 obtain⟨h1,h2⟩:=uH xs h
 classical
 have D:∀z u y,aG u y->Rep X.K H z u->∀p:(∃z u,aG u y/\Rep X.K H z u),p.choose=z:=λz u y r q p=>by
  refine ae p.choose_spec λu' r' q'=>?_
  have e:=r.inj r';subst e;exact kX I _ _ q' q
 refine⟨λy=>if p:∃z u,aG u y/\Rep X.K H z u then(eqF 100 p.choose x).getD false else false,?_,?_⟩
 .intro y hy;refine bY λZq kq=>?_
  obtain⟨j,hj,e⟩:=getElem_of_mem (by simpa using hy:y∈its);have ej:its[j]?=some y:=by rw[IP hj,e]
  have l1:=w.length;obtain⟨J,Z⟩:∃J,us[j]?=some J:=⟨_,IP (by simp[*])⟩;obtain⟨wy,e2,U⟩:=w.get Z;rw[ej]at e2;cases e2;refine ae (t.get' Z) λz e3 Y=>?_
  obtain⟨c,hc⟩:=h1 z (JR e3);have q:=(pw I 100 z x (A:=X.A.in1) (show X.A.units+1+100<cLine by omega) hc Y rx U r1).1;have p:∃z u,aG u y/\Rep X.K H z u:=⟨z,J,U,Y⟩;have e4:=D z J y U Y p;refine kq ?_
  simp_all
 .rw[h2];simp only[any_toArray];clear h h1 h2
  induction xs generalizing us its with
  |nil =>
   subst t;cases w
   rfl
  |cons z zs ih =>
   obtain⟨u,r,rfl,q,t⟩:=t;cases w with
   |cons rv w =>
    rename_i y ys;have p:∃z u,aG u y/\Rep X.K H z u:=⟨z,u,rv,q⟩;have e4:=D z u y rv q p;rw[any_cons,any_cons,ih t w];simp only[p,dite_true,e4]
def Dy(U:X.A.units+101<cLine):OpR X (compareOp .In) (λY Z H Q=>∃x xs a us b,Rep X.K H x Y/\Z=.ref a/\(SqL X.K H a us\/SqT X.K H a us)/\Reps X.K H xs us/\isIn x xs=some b/\Q (.bl b) H):=by
 intro pins s σ H Y Z v u Q I rx ry h;refine tY h λx xs a us b r1 J D r2 e q=>?_
 subst J;subst ry;rcases D with D|D
 .obtain⟨its,r,pl,hz⟩:=I.list D;obtain⟨f,h1,h2⟩:=jd I U r1 rx r2 r e;refine SeqAt.in_listAt f pl.isList h1 ?_;rw[h2];exact⟨.bl b,H,I,rfl,q⟩
 .obtain⟨its,r,pl,hz⟩:=I.tuple D;obtain⟨f,h1,h2⟩:=jd I U r1 rx r2 r e;refine SeqAt.in_tupleAt f pl h1 ?_;rw[h2];exact⟨.bl b,H,I,rfl,q⟩
def v3(U:X.A.units+101<cLine):OpR X (compareOp .NotIn) (λY Z H Q=>∃x xs a us b,Rep X.K H x Y/\Z=.ref a/\(SqL X.K H a us\/SqT X.K H a us)/\Reps X.K H xs us/\isIn x xs=some b/\Q (.bl (!b)) H):=by
 intro pins s σ H Y Z v u Q I rx ry h;refine tY h λx xs a us b r1 J D r2 e q=>?_
 subst J;subst ry;rcases D with D|D
 .obtain⟨its,r,pl,hz⟩:=I.list D;obtain⟨f,h1,h2⟩:=jd I U r1 rx r2 r e;refine SeqAt.notIn_listAt f pl.isList h1 ?_;rw[h2];exact⟨.bl (!b),H,I,rfl,q⟩
 .obtain⟨its,r,pl,hz⟩:=I.tuple D;obtain⟨f,h1,h2⟩:=jd I U r1 rx r2 r e;refine SeqAt.notIn_tupleAt f pl h1 ?_;rw[h2];exact⟨.bl (!b),H,I,rfl,q⟩
end
end MM
namespace L2
open PySem PySem.Spec PyProof.Rows List Option
theorem PE.imp(h:PE X e t)(i:∀σ H Q,t' σ H Q->t σ H Q):PE X e t':=λpins s σ H Q I q=>h pins s σ H Q I (i σ H Q q)
theorem PT.imp(h:PT X e t)(i:∀σ H Q,t' σ H Q->t σ H Q):PT X e t':=λpins s σ H Q I q=>h pins s σ H Q I (i σ H Q q)
theorem PA.imp(h:PA X e t)(i:∀σ H Q,t' σ H Q->t σ H Q):PA X e t':=λpos pins s σ H Q I q=>h pos pins s σ H Q I (i σ H Q q)
theorem PS.imp(h:PS X e t)(i:∀D σ H,t' D σ H->t D σ H):PS X e t':=λpins s σ H D I q=>h pins s σ H D I (i D σ H q)
theorem PSs.imp(h:PSs X e t)(i:∀D σ H,t' D σ H->t D σ H):PSs X e t':=λpins s σ H D I q=>h pins s σ H D I (i D σ H q)
theorem PI.imp(h:PI X tg e t)(i:∀σ H R,t' σ H R->t σ H R):PI X tg e t':=λpins s σ H R I q=>h pins s σ H R I (i σ H R q)
end L2
namespace MM
open PySem PySem.Spec PyProof.Rows L2 List Option
noncomputable def dW(H:Hp)(ms:List Addr):Hp:=λb=>if b∈ms then none else H b
def nP{H:Hp}{O:List Addr}{a l:Addr}(D:a∈O)(hl:l∈O):ak (dW H [a,l]) O=ak H O:=by
 funext b
 by_cases q:b∈O
 .rw[dF q,dF q]
 .rw[aH q,aH q];unfold dW;rw[if_neg λz=>q (by
   rcases rb.mp z with rfl|z
   .exact D
   .rw[IS.mp z];exact hl)]
theorem mr{α q:Type}{F G:α->q->Prop}(h:∀a b,F a b->G a b):∀{as:List α}{bs:List q},Paired F as bs->Paired G as bs
 | _,_,.nil=>.nil
 | _,_,.cons x t=>.cons (h _ _ x) (mr h t)
def eG(K:LI)(O:List Addr)(H:Hp):MV->V->Prop
 | .val v,u=>Rep K (ak H O) v u
 | .brw xs,u=>∃a us,u=.ref a/\SqL K H a us/\Reps K (ak H O) xs us
 | .own _,_=>False
 | .ownD _,_=>False
 | .ownO _ _ _,_=>False
 | .brwO fs xs,u=>∃a,u=.ref a/\dz K H (ak H O) fs xs a
 | .brwD kvs,u=>∃a,u=.ref a/\Rd H a (qG kvs)
noncomputable def spM(K:LI)(cal:Cal)(f:Nat):Sp:=λvs H Q _ =>
 ∃O args r,(∀a∈O,H a≠none)/\Paired (eG K O H) args vs/\cal f args=some r/\∀u H',ag H H'->Rep K (ak H' O) r u->Q u H'
noncomputable def spF(K:LI)(cal:Cal)(f:Nat):Sp:=λvs H Q _ =>
 ∃O args xs,(∀a∈O,H a≠none)/\Paired (eG K O H) args vs/\cal (f+1000) args=some (.lst xs)/\∀p us H',ag H H'->H p=none->H' p=some (.lst us)->Reps K (ak H' (p::O)) xs us->Q (.ref p) H'
noncomputable def spT(K:LI)(cal:Cal)(f:Nat):Sp:=λvs H Q _ =>
 ∃(O:List Addr) (a l:Addr) (fs xs:List PV) (as:List MV) (ws:List V) (v:Sc) (ys:List PV),vs=.ref a::ws/\(∀b∈O,H b≠none)/\cc K (λ_=>none) O H fs xs a l/\Paired (eG K O (dW H [a,l])) as ws/\cal (f+3000) (.ownO true fs xs::as)=some (.tup [v.pv,.lst ys]) /\
  ∀l' H',(∀b o,b≠a->b≠l->H b=some o->H' b=some o)->(l'=l\/H l'=none)->cc K (λ_=>none) (l'::O.filter λb=>decide (b≠l)) H' fs ys a l'->Q v.v H'
noncomputable def qR (c r o:V) (l:Addr):List (Str×V):=eW "taken" (.ref l) (eW "opener" o (eW "ribbons" r (eW "hole_count" c [])))
noncomputable def spI(K:LI)(C:Addr):Sp:=λvs H Q _ =>
 ∃(x dx q:Addr) (c r o:V),vs=[.ref x,.ref q,o]/\H x=some (.ins C dx [])/\SqT K H q [c,r] /\
  ∀(l:Addr) (H':Hp),H l=none->H' x=some (.ins C dx (qR c r o l))->H' l=some (.lst [])->(∀b u,b≠x->H b=some u->H' b=some u)->Q .non H'
noncomputable def je:List String:=["len","tuple","list","sorted","any","all","sum","max","min","int","bool","str","isinstance","set","range","enumerate","reversed"
 ]
noncomputable def toV:PV->V
 | .non=>.non
 | .bl b=>.bl b
 | .int i=>.int i
 | .str x=>.str x
 | _=>.non
structure Gf(X:Cx)(T:Tab)(k:Nat)(cal:Cal):Prop where
 calm:X.calm=true
 room:dn k X.A
 fns:∀(f:Nat) (x:Str),T.fs[f]?=some x->aF x=true->∃(fa:Addr) (fd:FuncData) (ps:List Str),X.mg x=some (.ref fa)/\PySem.W.keepIn X.K (.ref fa)=true/\aX X.K fd ps []/\dq X.prog X.w X.K X.mg X.base CX0 k fa fd ps (spM X.K cal f)/\∀l,T.ds[f]?=some l->∃vs,aX X.K fd ps vs/\aA (l.map Sc.v) vs
 blt:∀x∈je,X.mg (x:Str)=none
 gs:∀p∈T.gs,∃u,X.mg p.1=some u/\aG (toV p.2) u
 cls:∀C,IsC X.K C->Cls X.K C/\(∀x∈iD,eX X.K C x)/\eX X.K C "taken"
 meths:∀(f:Nat) (m:Str),T.ms[f]?=some (some m)->∀C,IsC X.K C->∃(fa:Addr) (fd:FuncData) (ps:List Str),mV X.K C m fa/\aX X.K fd ps []/\dq X.prog X.w X.K X.mg X.base CX0 k fa fd ps (spM X.K cal f)
 methsT:∀(f:Nat) (m:Str),T.ms[f]?=some (some m)->∀C,IsC X.K C->∃(fa:Addr) (fd:FuncData) (ps:List Str),mV X.K C m fa/\aX X.K fd ps []/\dq X.prog X.w X.K X.mg X.base CX0 k fa fd ps (spT X.K cal f)
 lvl:cal 4000 []≠none->dn 2 X.A
 ini:cal 4000 []≠none->∃C,IsC X.K C/\X.mg ("Table":Str)=some (.ref C)/\∃(fa:Addr) (fd:FuncData) (ps:List Str),Mk X.K C fa/\aX X.K fd ps []/\dq X.prog X.w X.K X.mg X.base CX0 1 fa fd ps (spI X.K C)/\∃vs,aX X.K fd ps vs/\aA [V.str "weaver"] vs
 fnsF:∀(f:Nat) (x:Str),T.fs[f]?=some x->aF x=true->∃(fa:Addr) (fd:FuncData) (ps:List Str),X.mg x=some (.ref fa)/\PySem.W.keepIn X.K (.ref fa)=true/\aX X.K fd ps []/\dq X.prog X.w X.K X.mg X.base CX0 k fa fd ps (spF X.K cal f)
theorem Gf.units(g:Gf X T k cal):X.A.units+200<cLine:=by have:=g.room.un;omega
def Got(K:LI)(H:Hp)(O:List Addr)(q:ME)(v:PV)(u:V):Prop:=bz K H O v u/\(aI q=false->Rep K (ak H O) v u)
noncomputable def tE(K:LI)(cal:Cal)(q:ME):TE:=λσ H Q=>∃B E O G v,aK K B E O H G σ/\ev cal q G=some v/\∀u H',ag H H'->Got K H' O q v u->Q u H'
noncomputable def tT(K:LI)(cal:Cal)(q:ME):TT:=λσ H Q=>∃B E O G b,aK K B E O H G σ/\evB cal q G=some b/\∀H',ag H H'->Q b H'
def Ic(K:LI)(H:Hp)(O:List Addr)(ms:List ME)(vs:List PV)(us:List V):Prop:=Paired (bz K H O) vs us/\((ms.all λm=>!aI m)=true->Reps K (ak H O) vs us)
noncomputable def tEs(K:LI)(cal:Cal)(ms:List ME):TA:=λσ H Q=>∃B E O G vs,aK K B E O H G σ/\evs cal ms G=some vs/\∀us H',ag H H'->Ic K H' O ms vs us->Q us H'
noncomputable def tAs(K:LI)(cal:Cal)(ms:List ME):TA:=λσ H Q=>∃B E O G vs,aK K B E O H G σ/\evA cal ms G=some vs/\∀us H',ag H H'->Paired (eG K O H') vs us->Q us H'
section
variable{K:LI}{H H':Hp}{O:List Addr}
theorem Got.of(h:Rep K (ak H O) v u):Got K H O q v u:=⟨.inl h,λ_=>h⟩
theorem Got.scal(h:∀F,Rep K F v u):Got K H O q v u:=.of (h _)
theorem Got.mono(s:ag H H')(h:Got K H O q v u):Got K H' O q v u:=⟨h.1.mono s,λe=>Rep.mono (ah s) _ (h.2 e)⟩
def de(F)(b):Rep K F (.bl b) (.bl b):=rfl
def bZ(F)(b):Rep K F (.int b) (.int b):=rfl
def jf(F)(b):Rep K F (.str b) (.str b):=rfl
def pC(F):Rep K F .non .non:=rfl
def jg(D:∀a∈O,H1 a≠none)(q:H1 p=none)(h:Reps K (ak H1 O) xs us):Rep K (ak (upd H1 p (.tup us)) O) (.tup xs) (.ref p):=by
 refine⟨p,us,rfl,?_,Reps.mono (ah (bf q _)) _ h⟩;rw[aH (λz=>D p z q)];exact ar
def qS(D:∀a∈O,H1 a≠none)(q:H1 p=none)(h:Reps K (ak H1 O) xs us):Rep K (ak (upd H1 p (.lst us)) O) (.lst xs) (.ref p):=by
 refine⟨p,us,rfl,SqL.of ?_,Reps.mono (ah (bf q _)) _ h⟩;rw[aH (λz=>D p z q)];exact ar
def bH(s:ag H H')(h:∀a∈O,H a≠none):∀a∈O,H' a≠none:=λa q e=>h a q (s.free e)
def fZ(h:n<=10000):n<=sizeLine:=IK h (by decide)
end
section
variable{X:Cx}{T:Tab}{k:Nat}{cal:Cal}
def F9(h:C8 sc x=true):Vis sc x:=by
 unfold C8 at h;simp[IU]at h;rcases h with(h|h)|h
 .exact .inl h
 .exact .inr (.inl h)
 .exact .inr (.inr h)
def fF(h:fY sc x=true):Loc sc x:=by
 unfold fY at h;simp[IU]at h;exact h
def kY (h:aF x=true):(x==("__debug__":Str))=false/\(x==("__classdict__":Str))=false/\x ≠ "__name__":=by simp_all [aF]
def fz(h:glB X.env.scope x=true):Gl X x:=by
 unfold glB at h;simp at h;exact h
def bn(h:au X.N X.env.scope i x=true):PE X (.Name x pos) (dP i):=by
 unfold au at h;simp[oe,IU]at h;obtain⟨⟨h1,h2⟩,h3⟩:=h;refine j_ (kY h3) λp1 p2 _=>?_
 exact wR h1 (F9 h2) p1 p2
def bo{K:LI}(st:aK K B E O H G σ){i:Nat}(e:(G[i]?).join=some m):∃u,σ[i]?=some (some u)/\d8 K B O H m u:=st.slot i m (join_some e)
def B0{i:Nat}{x:Str}{pos:Pos}(h:au X.N X.env.scope i x=true):PE X (.Name x pos) (tE X.K cal (.var i)):=by
 refine(bn h).imp λσ H Q U=>?_
 obtain⟨B,E,O,G,v,st,D,q⟩:=U;rw[ev]at D;cases J:(G[i]?).join with
 |none=>rw[J]at D;cases D
 |some m =>
  rw[J]at D;cases m with
  |val w =>
   simp only[xS,ow]at D;subst D;obtain⟨u,Y,r⟩:=bo st J;exact⟨u,Y,q u H (ag.refl H) (.of r)⟩
  |own _=>cases D
  |brw _=>cases D
  |ownD _=>cases D
  |ownO _ _ _=>cases D
  |brwO _ _=>cases D
  |brwD _=>cases D
def B1(h:au X.N X.env.scope i x=true):PE X (.Name x pos) (tE X.K cal (.bor i)):=by
 refine(bn h).imp λσ H Q U=>?_
 refine bc U λB E O G v st D q=>?_
 rw[ev]at D;cases J:(G[i]?).join with
 |none=>rw[J]at D;exact aP D
 |some m =>
  rw[J]at D;refine ae (bo st J) λu Y r=>?_
  exact⟨u,Y,q u H (ag.refl H) ⟨r.bor st.keep D,λz=>vm z⟩⟩
def B2(h:mj v c=true):PE X (.Constant c j pos) (tE X.K cal (.cst v)):=by
 have key:∀u,(∀F,Rep X.K F v u)->PE X (.Constant c j pos) _->PE X _ (tE X.K cal (.cst v)):=λu r p=>p.imp λσ H Q D=>by
  refine bc D λB E O G w st J q=>?_
  cases J;exact q u H (ag.refl H) (.scal r)
 cases v<;>cases c<;>simp[mj,Jw,IU]at h
 .exact key .non (λF=>pC F) Ct
 .subst h;exact key _ (λF=>de F _) wS
 .subst h;exact key _ (λF=>bZ F _) rR
 .subst h;exact key _ (λF=>jf F _) gF
def yg(g:Gf X T k cal)(h:(x==y&&glB X.env.scope x&&BW T.gs x v&&aF x)=true):PE X (.Name y pos) (tE X.K cal (.glob x v)):=by
 simp[oe,IU]at h;obtain⟨⟨⟨rfl,Y⟩,Z⟩,hp⟩:=h;refine ae (Jh.mp Z) λp U J=>?_
 simp[oe,IU]at J;obtain⟨rfl,D⟩:=J;refine ae (g.gs p U) λu e1 r=>?_
 have e:p.2=v/\∀F,Rep X.K F v (toV v):=by
  revert D;generalize p.2=z;intro D;cases z<;>cases v<;>simp[BV,Jw,IU]at D
  .exact⟨rfl,λF=>pC F⟩
  .subst D;exact⟨rfl,λF=>de F _⟩
  .subst D;exact⟨rfl,λF=>bZ F _⟩
  .subst D;exact⟨rfl,λF=>jf F _⟩
 rw[e.1]at r;refine(zT (fz Y) e1 r (kY hp).1).imp λσ H Q hq=>?_
 refine bc hq λB E O G w st he q=>?_
 cases he;exact q _ H (ag.refl H) (.scal e.2)
end
section
variable{X:Cx}
noncomputable def R2M(K:LI)(f:PV->PV->Option PV):R2:=λq D H Q =>
 ∃O x y v,(∀a∈O,H a≠none)/\bz K H O x q/\bz K H O y D/\f x y=some v/\∀u H',ag H H'->Rep K (ak H' O) v u->Q u H'
def jR{g:Int->Int->Int}(h:OpR X (binaryOp op) (rI C λi j=>.int (g i j)))
  (Y:∀x y v,f x y=some v->∃i j,x=.int i/\y=.int j/\C i j/\v=.int (g i j)):OpR X (binaryOp op) (R2M X.K f):=by
 intro pins s σ H ux uy v u Q I Z ry hq;refine bY λZq kq=>?_
 refine lj hq λO x y w hO r1 r2 e q=>?_
 refine fQ (Y x y w e) λi j D J c U=>?_
 subst D;subst J;subst U;have e1:=r1.int;have e2:=r2.int;subst e1 e2;refine kq ?_;exact h pins s σ H _ _ v u Q I Z ry ⟨i,j,rfl,rfl,c,q _ H (ag.refl H) (bZ _ _)⟩
def AI:OpR X (binaryOp .Add) (λx y H Q=>∃l b xs zs,x=.ref l/\y=.ref b/\SqL X.K H l xs/\SqL X.K H b zs/\xs.length+zs.length<=sizeLine/\∀p,H p=none->Q (.ref p) (upd H p (.lst (xs++zs)))):=by
 intro pins s σ H x y v u Q I rx ry h;obtain⟨l,b,xs,zs,rfl,rfl,hH,hB,hz,q⟩:=h;subst rx;subst ry;refine aM (I.list hH) λits r pl _=>?_
 refine aM (I.list hB) λD r2 Z _=>?_
 refine bY λZq kq=>?_
 have l1:=r.length;have l2:=r2.length;obtain⟨⟨cls,dd,data,sl⟩,ho,hc,n,hd⟩:=pl.isList;obtain⟨⟨a1,ao,data2,aL⟩,J,U,n2,Y⟩:=Z.isList;simp only at hc hd U Y;subst hc hd U Y;have e:its.toArray++D.toArray=(its++D).toArray:=by simp
 refine kq ?_;refine Lx ⟨_,ho,rfl⟩ ⟨_,J,rfl⟩ noFill_list_add seq_list_add PySem.F.slot_list_add PySem.F.entry_list_add (PySem.F.args_list_add_2 _ _) (list_addW l b its.toArray D.toArray n n2 dd ao sl aL (by rw[pb,pb];omega)) ⟨ho,J,?_⟩;rw[e];exact⟨.ref _,_,I.lnew (t':=s.toks) (r.append r2) (by rw[I0];omega),rfl,q _ I.fresh⟩
def AJ:OpR X (binaryOp .Add) (λx y H Q=>∃a b ys,x=.ref a/\y=.ref b/\SqT X.K H a []/\SqT X.K H b ys/\Q (.ref b) H):=by
 intro pins s σ H x y v u Q I rx ry h;refine bY λZq kq=>?_
 refine kd h λa b ys Z ao ha hb q=>?_
 subst Z;subst ao;subst rx;subst ry;obtain⟨its,r1,⟨⟨c1,d1,t1,l1⟩,ho,hc,n,hd⟩,_⟩:=I.tuple ha;obtain⟨U,r2,⟨⟨c2,d2,t2,l2⟩,Y,aL,n2,a0⟩,_⟩:=I.tuple hb;subst hc;subst hd;subst aL;subst a0;have D:=r1.nil_iff.mpr rfl;have J:=tuple_addW0 a b its.toArray U.toArray n n2 d1 d2 l1 l2 (by simp[D]);refine kq ?_;exact Lx ⟨_,ho,rfl⟩ ⟨_,Y,rfl⟩ Ly seq_tuple_add PySem.F.slot_tuple_add PySem.F.entry_tuple_add (PySem.F.args_tuple_add_2 _ _) J ⟨ho,Y,.ref b,H,I,rfl,q⟩
def eT(h:i6 f x y=some v):∃i j,x=.int i/\y=.int j/\f i j=some v:=by
 cases x<;>try (exact aP h;done)
 cases y<;>try (exact aP h;done)
 exact⟨_,_,rfl,rfl,h⟩
def jh{C:Int->Int->Prop} [∀i j,Decidable (C i j)] {g:Int->Int->Int}{x y v:PV} (h:i6 (λi j=>if C i j then some (.int (g i j))else none) x y=some v):∃i j,x=.int i/\y=.int j/\C i j/\v=.int (g i j):=by
 refine aq (eT h) λi j D J q=>?_
 by_cases c:C i j
 .rw[if_pos c]at q;exact⟨i,j,D,J,c,(x2 q).symm⟩
 .rw[if_neg c]at q;exact aP q
def Dz(op):OpR X (binaryOp (Dn op)) (R2M X.K (gL op)):=by
 cases op with
 |sub=>exact jR (C:=λ_ _=>True) (g:=λi j=>i-j) (λpins s σ H x y v u Q I J U h=>CH pins s σ H x y v u Q I J U (by obtain⟨i,j,Y,Z,_,q⟩:=h;exact⟨i,j,Y,Z,q⟩)) (λx y v h=>by
   refine aq (eT h) λi j Y Z e3=>?_
   exact⟨i,j,Y,Z,trivial,(x2 e3).symm⟩)
 |mul=>exact jR CI λx y v h=>by have q:=jh h;exact q
 |fdiv=>exact jR zZ λx y v h=>by have q:=jh h;exact q
 |mod=>exact jR CJ λx y v h=>by have q:=jh h;exact q
 |pow=>exact jR CK λx y v h=>by have q:=jh h;exact q
 |shr=>exact jR CL λx y v h=>by have q:=jh h;exact q
 |add =>
  intro pins s σ H ux uy v u Q I J U hq;refine lj hq λO x y w hO r1 r2 e q=>?_
  cases x<;>try (exact aP e;done)
  all_goals (cases y<;>simp only[gL,BS]at e<;>try (exact aP e;done))
  .cases e;have Y:=r1.int;have Z:=r2.int;subst Y Z;exact CG pins s σ H _ _ v u Q I J U ⟨_,_,rfl,rfl,q _ H (ag.refl H) (bZ _ _)⟩
  .split at e
   .rename_i c;cases e;have Y:=r1.str;have Z:=r2.str;subst Y Z;exact rX pins s σ H _ _ v u Q I J U ⟨_,_,rfl,rfl,IK c (by decide),q _ H (ag.refl H) (jf _ _)⟩
   .exact aP e
  .split at e
   .rename_i c;cases e;refine aq r1.tup λa us D s1 t1=>?_
    subst D;refine aq r2.tup λb ws D s2 t2=>?_
    subst D;have l1:=t1.length;have l2:=t2.length;have w1:=r1.tupR;have w2:=r2.tupR;by_cases z0:us=[]
    .subst z0;have z1:=eq_nil_of_length_eq_zero l1;subst z1;exact AJ pins s σ H _ _ v u Q I J U ⟨a,b,ws,rfl,rfl,s1,s2,q _ H (ag.refl H) w2⟩
    refine Ac pins s σ H _ _ v u Q I J U ⟨a,b,us,ws,rfl,rfl,s1,s2,z0,fZ (by omega),λz=>?_,λz p hp=>?_⟩
    .rw[z,length_nil]at l2;have z1:=eq_nil_of_length_eq_zero l2;subst z1;rw[JW]at q;exact q _ H (ag.refl H) w1
    .exact q _ _ (bf hp _) (jg hO hp (t1.append t2))
   .exact aP e
  .split at e
   .rename_i c;cases e;refine aq r1.lst λa us D s1 t1=>?_
    subst D;refine aq r2.lst λb ws D s2 t2=>?_
    subst D;have l1:=t1.length;have l2:=t2.length;exact AI pins s σ H _ _ v u Q I J U ⟨a,b,us,ws,rfl,rfl,s1,s2,fZ (by omega),λp hp=>q _ _ (bf hp _) (qS hO hp (t1.append t2))⟩
   .exact aP e
noncomputable def R2C(K:LI)(f:PV->PV->Option Bool):R2:=λq D H Q =>
 ∃O x y b,bz K H O x q/\bz K H O y D/\f x y=some b/\Q (.bl b) H
def kZ{g:Int->Int->Bool}(h:OpR X (compareOp op) (rI0 λi j=>.bl (g i j)))
  (Y:∀x y v,f x y=some v->∃i j,x=.int i/\y=.int j/\v=g i j):OpR X (compareOp op) (R2C X.K f):=by
 intro pins s σ H ux uy v u Q I Z ry hq;refine bY λZq kq=>?_
 refine p9 hq λO x y w r1 r2 e q=>?_
 refine aq (Y x y w e) λi j D J U=>?_
 subst D;subst J;subst U;have e1:=r1.int;have e2:=r2.int;subst e1 e2;refine kq ?_;exact h pins s σ H _ _ v u Q I Z ry ⟨i,j,rfl,rfl,q⟩
def DA:OpR X (compareOp .Is) (λx y H Q=>∃p q,x=.bl p/\y=.bl q/\Q (.bl (p==q)) H):=by
 rintro pins s σ H x y v u Q I D J ⟨p,q,rfl,rfl,U⟩;subst D;subst J;exact kv (bU I U (by cases p<;>cases q<;>rfl))
def v4:OpR X (compareOp .IsNot) (λx y H Q=>∃p q,x=.bl p/\y=.bl q/\Q (.bl (!(p==q))) H):=by
 rintro pins s σ H x y v u Q I D J ⟨p,q,rfl,rfl,U⟩;subst D;subst J;exact kv (bU I U (by cases p<;>cases q<;>rfl))
def uK{K:LI}{H:Hp}{O:List Addr}{x:PV}{u:V}(r:bz K H O x u):decide (u=.non)=gM x:=by
 cases x with
 |non=>rw[r.non];rfl
 |bl b=>rw[r.bl];rfl
 |int b=>rw[r.int];rfl
 |str b=>rw[r.str];rfl
 |tup xs=>obtain⟨a,us,rfl,_⟩:=r.tup;rfl
 |lst xs=>obtain⟨a,us,rfl,_⟩:=r.lst;rfl
 |dI kvs=>obtain⟨a,rfl,_⟩:=r.dI;rfl
 |dL w m =>
  have h:=r.dL;rw[Rep]at h;obtain⟨a,_,_,_,_,rfl,_⟩:=h
  rfl
def uL(h:sE x y=some b):(∃i j,x=.str i/\y=.str j/\b=!(Builtin.Str.occurrences j i 0 j.length 1).isEmpty)\/∃xs,bq y=some xs/\isIn x xs=some b:=by
 unfold sE at h;split at h
 .split at h
  .simp_all
  .exact aP h
 .rw[i1]at h;exact .inr h
def gk(hu:X.A.units+200<cLine)(op):OpR X (compareOp (gi op)) (R2C X.K (cb op)):=by
 cases op with
 |lt=>exact kZ FI λx y v h=>by obtain⟨i,j,J,D,e3⟩:=eT h;exact⟨i,j,J,D,(x2 e3).symm⟩
 |le=>exact kZ FJ λx y v h=>by obtain⟨i,j,J,D,e3⟩:=eT h;exact⟨i,j,J,D,(x2 e3).symm⟩
 |gt=>exact kZ FK λx y v h=>by obtain⟨i,j,J,D,e3⟩:=eT h;exact⟨i,j,J,D,(x2 e3).symm⟩
 |ge=>exact kZ FL λx y v h=>by obtain⟨i,j,J,D,e3⟩:=eT h;exact⟨i,j,J,D,(x2 e3).symm⟩
 |eq =>
  intro pins s σ H ux uy v u Q I U Y hq;refine p9 hq λO x y w Z r2 e q=>?_
  exact Dw (by omega) pins s σ H ux uy v u Q I U Y ⟨x,y,w,Z.whole,r2.whole,e,q⟩
 |ne =>
  intro pins s σ H ux uy v u Q I U Y hq;refine p9 hq λO x y w Z r2 e q=>?_
  simp only[cb]at e;split at e
  .rename_i c;simp only[wh]at e;obtain⟨b,e,rfl⟩:=e;exact Dx (by omega) pins s σ H ux uy v u Q I U Y ⟨x,y,b,Z.whole,r2.whole,c,e,q⟩
  .exact aP e
 |isN =>
  intro pins s σ H ux uy v u Q I U Y hq;obtain⟨O,x,y,w,Z,r2,e,q⟩:=hq;cases y<;>try (exact aP e;done)
  .have D:=r2.non;subst D;refine CM pins s σ H ux _ v u Q I U Y ⟨rfl,?_⟩;have e:=e;rw[uK Z,x2 e];exact q
  .cases x<;>try (exact aP e;done)
   have J:=Z.bl;have D:=r2.bl;subst J D;exact DA pins s σ H _ _ v u Q I U Y ⟨_,_,rfl,rfl,by rw[x2 e];exact q⟩
 |notN =>
  intro pins s σ H ux uy v u Q I U Y hq;obtain⟨O,x,y,w,Z,r2,e,q⟩:=hq;cases y<;>try (exact aP e;done)
  .have D:=r2.non;subst D;refine z6 pins s σ H ux _ v u Q I U Y ⟨rfl,?_⟩;have e:some (!gM x)=some w:=e;rw[uK Z,x2 e];exact q
  .cases x<;>try (exact aP e;done)
   have J:=Z.bl;have D:=r2.bl;subst J D;cases e;exact v4 pins s σ H _ _ v u Q I U Y ⟨_,_,rfl,rfl,q⟩
 |isIn =>
  intro pins s σ H ux uy v u Q I U Y hq;refine p9 hq λO x y w Z r2 e q=>?_
  rcases uL (show sE x y=some w from e)with⟨i,j,rfl,rfl,rfl⟩|⟨xs,J,D⟩
  .have z1:=Z.str;have z2:=r2.str;subst z1 z2;exact vB pins s σ H _ _ v u Q I U Y ⟨i,j,rfl,rfl,q⟩
  refine aq (r2.seq J) λa us a1 s2 t2=>?_
  subst a1;exact Dy (by omega) pins s σ H ux _ v u Q I U Y ⟨x,_,a,us,w,Z.whole,rfl,s2,Reps.mono (ba H O) _ t2,D,q⟩
 |notIn =>
  intro pins s σ H ux uy v u Q I U Y hq;refine p9 hq λO x y w Z r2 e q=>?_
  refine ae (wh.mp (show(sE x y).map _=some w from e)) λb e9 a1=>?_
  subst a1;rcases uL e9 with⟨i,j,rfl,rfl,rfl⟩|⟨xs,J,D⟩
  .have z1:=Z.str;have z2:=r2.str;subst z1 z2;exact oF pins s σ H _ _ v u Q I U Y ⟨i,j,rfl,rfl,q⟩
  refine aq (r2.seq J) λa us a1 s2 t2=>?_
  subst a1;exact v3 (by omega) pins s σ H ux _ v u Q I U Y ⟨x,_,a,us,b,Z.whole,rfl,s2,Reps.mono (ba H O) _ t2,D,q⟩
def mw(n)(i):place n i=ixN n i:=rfl
def DC:IxR X (R2M X.K gO):=by
 intro value slice pins s σ H ux uy v u Q I rx ry hq D;refine lj hq λO x y w hO r1 r2 e q=>?_
 cases x<;>cases y<;>simp only[gO]at e<;>try (exact aP e;done)
 .split at e
  .refine bY λZq kq=>?_
   rename_i hz;simp only[i1,wh]at e;obtain⟨j,U,c,Y,rfl⟩:=e;have z1:=r1.str;have z2:=r2.int;subst z1 z2;refine kq ?_;refine si value slice pins s σ H _ _ v u Q I rx ry (.inr (.inr ⟨_,_,c,rfl,rfl,IK hz (by rw[Jl];decide),?_,q _ H (ag.refl H) (jf _ _)⟩)) D;unfold atI;rw[<- mw,U];exact Y
  .exact aP e
 .simp only[i1]at e;obtain⟨j,U,Y⟩:=e;obtain⟨a,us,rfl,s1,Z⟩:=r1.tup;have e3:=r2.int;subst e3;obtain⟨uw,e4,J⟩:=Z.get Y;refine si value slice pins s σ H _ _ v u Q I rx ry (.inr (.inl ⟨a,us,_,uw,rfl,rfl,s1,?_,q uw H (ag.refl H) J⟩)) D;unfold atI;rw[<- Z.length,<- mw,U];exact e4
 .simp only[i1]at e;obtain⟨j,U,Y⟩:=e;obtain⟨a,us,rfl,s1,Z⟩:=r1.lst;have e3:=r2.int;subst e3;obtain⟨uw,e4,J⟩:=Z.get Y;refine si value slice pins s σ H _ _ v u Q I rx ry (.inl ⟨a,us,_,uw,rfl,rfl,s1,?_,q uw H (ag.refl H) J⟩) D;unfold atI;rw[<- Z.length,<- mw,U];exact e4
def sN(h:fj b=true):ua b:=by
 intro o i;cases b<;>first|rfl|(injection h)
def qT{K:LI}(h:Reps K F xs us)(lo hi):Reps K F (cut xs lo hi) (qg us lo hi):=by
 have hl:=h.length;have e:∀n d o,dS n d o=HT.sIx n d o:=λn d o=>by cases o<;>rfl
 unfold cut qg;rw[e,e,hl];exact(h.drop _).take _
def DE:SlR X (λx lo hi H Q=>∃O v w,(∀a∈O,H a≠none)/\bz X.K H O v x/\gh v lo hi=some w/\∀u H',ag H H'->Rep X.K (ak H' O) w u->Q u H'):=by
 intro pins s σ H x v U Y lo hi Z Q I rx hs pl pu hq;refine lh hq λO pv w hO r1 e q=>?_
 cases pv<;>simp only[gh]at e<;>try (exact aP e;done)
 .rename_i xs;cases e;obtain⟨a,us,rfl,s1,D⟩:=r1.tup;have e:∀n d o,dS n d o=HT.sIx n d o:=λn d o=>by cases o<;>rfl
  by_cases hn:HT.sIx us.length 0 lo=0/\HT.sIx us.length us.length hi=us.length
  .refine Ar pins s σ H _ v U Y lo hi Z Q I rx hs pl pu ⟨a,us,rfl,s1,hn.1,hn.2,q _ _ (ag.refl H) ?_⟩;have:cut xs lo hi=xs:=by
    unfold cut;rw[e,e,D.length,hn.1,hn.2,drop_zero,<- D.length,Nat.sub_zero,take_length]
   rw[this];exact r1.tupR
  .exact CP pins s σ H _ v U Y lo hi Z Q I rx hs pl pu ⟨a,us,rfl,s1,hn,λp J=>q _ _ (bf J _) (jg hO J (qT D lo hi))⟩
 .cases e;obtain⟨a,us,rfl,s1,D⟩:=r1.lst;exact Ae pins s σ H _ v U Y lo hi Z Q I rx hs pl pu ⟨a,us,rfl,s1,λp J=>q _ _ (bf J _) (qS hO J (qT D lo hi))⟩
end
theorem uM(x):∀l,xQ x l=Srt.kJ Srt.cZ x l
 | []=>rfl
 |y::r=>by
  show(if y<x then y::xQ x r else x::y::r)=(if Srt.cZ.blt y x=true then y::Srt.kJ Srt.cZ x r else x::y::r);rw[uM x r];by_cases h:y<x
  .have e:Srt.cZ.blt y x=true:=IM h;rw[if_pos h,if_pos e]
  .have e:Srt.cZ.blt y x=false:=IQ h;rw[if_neg h,if_neg (by rw[e];exact kn)]
theorem dX:∀l,sortI l=Srt.sortI l
 | []=>rfl
 |x::r=>by
  show xQ x (sortI r)=Srt.kJ Srt.cZ x (Srt.gA Srt.cZ r);rw[dX r,uM];rfl
theorem ji:∀a b,lexLt a b=HT.lexLt a b
 | [],[]=>rfl
 | [],_::_=>rfl
 | _::_,[]=>rfl
 |x::xs,y::ys=>by
  rw[lexLt,HT.lexLt_cons,ji xs ys]
theorem uN(x):∀l,xR x l=Srt.kJ Srt.cH x l
 | []=>rfl
 |y::r=>by
  show(if lexLt y x=true then y::xR x r else x::y::r)=(if Srt.cH.blt y x=true then y::Srt.kJ Srt.cH x r else x::y::r);rw[uN x r,ji]
  rfl
theorem dY:∀l,sortT l=Srt.sortT l
 | []=>rfl
 |x::r=>by
  show xR x (sortT r)=Srt.kJ Srt.cH x (Srt.gA Srt.cH r);rw[dY r,uN];rfl
theorem qU:∀l,dd l=St.dd l
 | []=>rfl
 |x::r=>by
  unfold dd St.dd;rw[qU r]
def AK(ns):Srt.sortI (St.dd ns.reverse)=sortI (dd ns):=by
 rw[dX,qU];refine Srt.sortI_of_perm ?_;refine(perm_ext_iff_of_nodup (St.dd_nodup _) (St.dd_nodup _)).mpr λa=>?_
 rw[St.iy,St.iy,mem_reverse]
def yh(ns):(St.dd ns.reverse).length=(dd ns).length:=by
 rw[qU];refine Perm.length_eq ((perm_ext_iff_of_nodup (St.dd_nodup _) (St.dd_nodup _)).mpr λa=>?_);rw[St.iy,St.iy,mem_reverse]
section
variable{X:Cx}{T:Tab}{k:Nat}{cal:Cal}
def RBM(K:LI)(f:List PV->Option PV):List V->Hp->VK->Prop:=λus H Q =>
 ∃O vs v,(∀a∈O,H a≠none)/\Paired (bz K H O) vs us/\f vs=some v/\∀u H',ag H H'->Rep K (ak H' O) v u->Q u H'
def p1{K:LI}(h:Paired (bz K H O) [x] us):∃u,us=[u]/\bz K H O x u:=by
 cases h with
 |cons r t=>cases t;exact⟨_,rfl,r⟩
def p2{K:LI}(h:Paired (bz K H O) [x,y] us):∃u w,us=[u,w]/\bz K H O x u/\bz K H O y w:=by
 cases h with
 |cons r t=>cases t with
  |cons q t'=>cases t';exact⟨_,_,rfl,r,q⟩
def dA(h:aE f vs=some v)(q:jO f=some 1\/(dc f).isSome=true\/f=.sortedSet\/f=.lenSet\/f=.valuesOf):∃x,vs=[x]:=by
 cases vs with
 |nil=>cases f<;>injection h
 |cons x r=>cases r<;>first|exact⟨x,rfl⟩|(cases f<;>simp[aE,cx,gP,jO,dc]at h q)
def F_:bM X (.builtin "len") (RBM X.K (aE .len)):=by
 intro pins s σ H xs us Q I r h;obtain⟨O,vs,v,hO,Z,e,q⟩:=h;obtain⟨x,rfl⟩:=dA e (.inl rfl);obtain⟨u,rfl,J⟩:=p1 Z;cases x<;>simp only[aE,cx,BT]at e<;>try (cases e;done)
 .split at e
  .rename_i hz;cases e;have z:=J.str;subst z;exact oQ pins s σ H _ us Q I r ⟨_,rfl,IK hz (by rw[Jl];decide),q _ H (ag.refl H) (bZ _ _)⟩
  .cases e
 .cases e;obtain⟨a,ws,rfl,s1,U⟩:=J.tup;exact iT pins s σ H _ us Q I r ⟨a,ws,rfl,.inr s1,by rw[<- U.length];exact q _ H (ag.refl H) (bZ _ _)⟩
 .cases e;obtain⟨a,ws,rfl,s1,U⟩:=J.lst;exact iT pins s σ H _ us Q I r ⟨a,ws,rfl,.inl s1,by rw[<- U.length];exact q _ H (ag.refl H) (bZ _ _)⟩
 .rename_i d;cases d with
  |t kvs=>cases e
  |k kvs =>
   cases e;obtain⟨a,rfl,ha⟩:=J.dI;obtain⟨u,rfl,ru⟩:=dQ r;cases ru;obtain⟨hz,hs,ws,Y,dd⟩:=qk I.hok (show Rd H a (.dK (sH kvs))from ha.rd);have D:ws.length=kvs.length:=by rw[<- Y.length];unfold sH;rw[ox]
   have hz:kvs.length<=sizeLine:=by unfold sH at hz;rw[ox]at hz;exact hz
   have hn:=ir;exact call_len_dict hs dd (by rw[D];omega) ⟨.int kvs.length,H,I.tok _,⟨s.toks+1,by rw[D]⟩,q _ H (ag.refl H) (bZ _ _)⟩
def AL:bM X (.type "tuple") (RBM X.K (aE .tupleOf)):=by
 intro pins s σ H xs us Q I r h;refine lh h λO vs v Y Z e q=>?_
 obtain⟨x,rfl⟩:=dA e (.inl rfl);refine ae (p1 Z) λu D J=>?_
 subst D;simp only[aE,cx,kL,gN,gP,wh]at e;obtain⟨ys,e,rfl⟩:=e;cases x<;>simp[bq]at e
 .subst e;obtain⟨a,ws,rfl,s1,U⟩:=J.tup;refine ij pins s σ H _ us Q I r ⟨a,ws,rfl,.inr ⟨s1,q _ H (ag.refl H) ?_⟩⟩;exact J.tupR
 .subst e;obtain⟨a,ws,rfl,s1,U⟩:=J.lst;exact ij pins s σ H _ us Q I r ⟨a,ws,rfl,.inl ⟨s1,λl hl=>q _ _ (bf hl _) (jg Y hl U)⟩⟩
def RBF(K:LI)(f:List PV->Option PV):List V->Hp->VK->Prop:=λus H Q =>
 ∃O vs xs,(∀a∈O,H a≠none)/\Paired (bz K H O) vs us/\f vs=some (.lst xs)/\∀l ws,H l=none->Reps K (ak H O) xs ws->Q (.ref l) (upd H l (.lst ws))
def DF:bM X (.type "list") (RBF X.K (aE .listOf)):=by
 intro pins s σ H xs us Q I r h;refine lh h λO vs v hO U e q=>?_
 obtain⟨x,rfl⟩:=dA e (.inl rfl);refine ae (p1 U) λu D Y=>?_
 subst D;simp only[aE,cx,kL,gN,gP,wh,PV.lst.injEq,exists_eq_right]at e;refine aq (Y.seq e) λa ws J s1 Z=>?_
 subst J;exact oR pins s σ H _ us Q I r ⟨a,ws,rfl,s1,λl hl=>q l ws hl Z⟩
theorem nQ{K:LI} :∀{D}{us},Reps K F (D.map λt=>.tup (t.map .int)) us->sB K F us D
 | [],_,h=>by rw[map_nil,Reps]at h;subst h;exact .nil
 |t::D,_,h=>by
  refine aq h λu r J q z=>?_
  subst J;refine aq q λa vs e s1 U=>?_
  rw[U.ints]at s1;exact .cons ⟨a,e,da s1⟩ (nQ z)
theorem nR{K:LI}(s:ag F F'):∀{us}{q},sB K F us q->sB K F' us q
 | _,_,.nil=>.nil
 | _,_,.cons ⟨a,D,J⟩ t=>.cons ⟨a,D,s.seqT J⟩ (nR s t)
theorem nS{K:LI}{F:Hp}:∀{D:List (List Int)}{us:List V},Reps K F (D.map λt=>.lst (t.map .int)) us->xN K F us D
 | [],_,h=>by rw[map_nil,Reps]at h;subst h;exact .nil
 |t::D,_,h=>by
  rw[IT,Reps]at h;obtain⟨u,r,rfl,q,z⟩:=h;rw[Rep]at q;obtain⟨a,vs,e,s1,J⟩:=q;rw[J.ints]at s1;exact .cons ⟨a,e,s1⟩ (nS z)
theorem nT{K:LI}{F F':Hp}(s:ag F F'):∀{us:List V}{q:List (List Int)},xN K F us q->xN K F' us q
 | _,_,.nil=>.nil
 | _,_,.cons ⟨a,D,J⟩ t=>.cons ⟨a,D,s.seq J⟩ (nT s t)
theorem jS{K:LI}(h:Reps K F xs us):∀(l:List Nat),(∀i∈l,i<us.length)->Reps K F (l.map λi=>xs.getD i .non) (l.map λi=>us.getD i .non)
 | [],_=>.nil
 |i::l,hl=>by
  have hi:=hl i (.head _);have hx:i<xs.length:=by rw[h.length];exact hi
  refine ae (h.get (IP hx)) λu D J=>?_
  refine .cons ?_ (jS h l λj q=>hl j (.tail _ q))
  simp_all
def yi (g:Gf X T k cal):bM X (.builtin "sorted") (RBF X.K (aE .sorted)):=by
 intro pins s σ H xs us Q I r h;obtain⟨O,vs,v,hO,rs,e,q⟩:=h;obtain⟨x,rfl⟩:=dA e (.inl rfl);obtain⟨u,rfl,rx⟩:=p1 rs;simp only[aE,cx,kL,gN,gP,i1]at e;obtain⟨ys,e,J⟩:=e;obtain⟨a,ws,rfl,s1,Y⟩:=rx.seq e;unfold d7 at J;split at J
 .rename_i D;split at J
  .rename_i ns hn;cases J;have:=gU hn;subst this;have e3:=Y.ints;subst e3;rw[ox]at D;refine i4 g.calm pins s σ H _ us Q I r ⟨a,ns,rfl,s1.imp id .inl,D,λl hl=>?_⟩;rw[<- dX];exact q l _ hl (.of_ints _)
  .split at J
   .rename_i U e3;cases J;have:=qH e3;subst this;rw[ox]at D;refine oZ (by have:=g.units;omega) pins s σ H _ us Q I r ⟨a,ws,U,rfl,s1,nR (ba H O) (nQ Y),D,λl pm hl hp e=>q l _ hl ?_⟩;have q2:=jS Y pm hp;have e4:(pm.map λi=>(U.map λt=>PV.tup (t.map .int)).getD i .non)=(sortT U).map λt=>.tup (t.map .int):=by
     rw[dY,<- e,IZ];refine J9 λi hi=>?_
     have Z:i<U.length:=by have:=hp i hi;rw[<- Y.length,ox]at this;exact this
     simp[Z]
    rw[e4]at q2;exact q2
   .simp only[wh,PV.lst.injEq]at J;obtain⟨U,e3,rfl⟩:=J;have:=qI e3;subst this;rw[ox]at D;refine o6 (by have:=g.units;omega) pins s σ H _ us Q I r ⟨a,ws,U,rfl,s1,nT (ba H O) (nS Y),D,λl pm hl hp e=>q l _ hl ?_⟩;have q2:=jS Y pm hp;have e4:(pm.map λi=>(U.map λt=>PV.lst (t.map .int)).getD i .non)=(sortT U).map λt=>.lst (t.map .int):=by
     rw[dY,<- e,IZ];refine J9 λi hi=>?_
     have Z:i<U.length:=by have:=hp i hi;rw[<- Y.length,ox]at this;exact this
     simp[Z]
    rw[e4]at q2;exact q2
 .cases J
def Ga:bM X (.type "int") (RBM X.K (aE .intOf)):=by
 intro pins s σ H xs us Q I r h;refine lh h λO vs v Y U e q=>?_
 obtain⟨x,rfl⟩:=dA e (.inl rfl);refine ae (p1 U) λu D J=>?_
 subst D;cases x<;>simp only[aE,cx,kL,gN,gP]at e<;>try (exact aP e;done)
 .cases e;have:=J.bl;subst this;exact nw pins s σ H _ us Q I r (.inr ⟨_,rfl,q _ H (ag.refl H) (bZ _ _)⟩)
 .cases e;have:=J.int;subst this;exact nw pins s σ H _ us Q I r (.inl ⟨_,rfl,q _ H (ag.refl H) (bZ _ _)⟩)
 .split at e
  .rename_i hz;rw[wh]at e;obtain⟨n,hn,rfl⟩:=e;have z:=J.str;subst z;exact vW pins s σ H _ us Q I r ⟨_,n,rfl,hn,hz,q _ H (ag.refl H) (bZ _ _)⟩
  .exact aP e
def Gb:bM X (.type "str") (RBM X.K (aE .strOf)):=by
 intro pins s σ H xs us Q I r h;obtain⟨O,vs,v,Y,J,e,q⟩:=h;obtain⟨x,rfl⟩:=dA e (.inl rfl);obtain⟨u,rfl,D⟩:=p1 J;cases x<;>simp only[aE,cx]at e<;>try (cases e;done)
 rotate_left
 .cases e;have:=D.str;subst this;obtain⟨Z,rfl,U⟩:=dQ r;obtain⟨t,rfl⟩:=U;exact PySem.P.str_of_str ⟨.str _,H,I,⟨t,rfl⟩,q _ H (ag.refl H) (by rw[Rep])⟩
 split at e
 .rename_i i hi;cases e;have:=D.int;subst this;exact xJ pins s σ H _ us Q I r ⟨_,rfl,hi,q _ H (ag.refl H) (by rw[Rep];rfl)⟩
 .cases e
def uO(h:gN x=some ys):x=.lst ys:=by
 cases x<;>cases h
 rfl
def DG {b:Blt}{c:String} (D:dc b=some c):bM X (.builtin "isinstance") (λus H Q=>∃O v u,us=[u,.ty c]/\isD v=false/\bz X.K H O v u/\Q (.bl (isT b v)) H):=by
 intro pins s σ H xs us Q I r h;obtain⟨O,v,x,rfl,nd,J,q⟩:=h;obtain⟨u,t,rfl,U,Z⟩:=FM r;have Y:t=.type c:=Z;subst Y;have fin:∀(z:Bool) (tk:Nat),z=isT b v->EP X pins σ Q (.bool z) { s with toks:=tk }:=λz tk e=>⟨.bl z,H,I.tok tk,rfl,by rw[e];exact q⟩
 cases v with
 |dI _=>cases nd
 |dL _ _=>cases nd
 |non =>
  have e:=J.non;subst e;cases (show u=Value.none from U);cases b<;>simp only[dc,ow,reduceCtorEq]at D<;>subst D <;>
   exact PySem.W.kia_one PySem.W.kitx_none I.kIn True.intro (b:=false) (by first|rfl|kernel_rfl|decide) (λz=>nomatch z) λtk=>fin _ tk rfl
 |bl y =>
  have e:=J.bl;subst e;cases (show u=Value.bool y from U);cases b<;>simp only[dc,ow,reduceCtorEq]at D<;>subst D<;>first
   |exact PySem.W.kia_one PySem.W.kitx_bool I.kIn True.intro (b:=true) (by first|rfl|kernel_rfl|decide) (λz=>nomatch z) λtk=>fin _ tk rfl
   |exact PySem.W.kia_one PySem.W.kitx_bool I.kIn True.intro (b:=false) (by first|rfl|kernel_rfl|decide) (λz=>nomatch z) λtk=>fin _ tk rfl
 |int y =>
  have e:=J.int;subst e;obtain⟨t,z⟩:=(show ∃t,u=Value.int y t from U);cases z;cases b<;>simp only[dc,ow,reduceCtorEq]at D<;>subst D<;>first
   |exact PySem.W.kia_one PySem.W.kitx_int I.kIn True.intro (b:=true) (by first|rfl|kernel_rfl|decide) (λz=>nomatch z) λtk=>fin _ tk rfl
   |exact PySem.W.kia_one PySem.W.kitx_int I.kIn True.intro (b:=false) (by first|rfl|kernel_rfl|decide) (λz=>nomatch z) λtk=>fin _ tk rfl
 |str y =>
  have e:=J.str;subst e;obtain⟨t,z⟩:=(show ∃t,u=Value.str y t from U);cases z;cases b<;>simp only[dc,ow,reduceCtorEq]at D<;>subst D<;>first
   |exact PySem.W.kia_one PySem.W.kitx_str I.kIn True.intro (b:=true) (by first|rfl|kernel_rfl|decide) (λz=>nomatch z) λtk=>fin _ tk rfl
   |exact PySem.W.kia_one PySem.W.kitx_str I.kIn True.intro (b:=false) (by first|rfl|kernel_rfl|decide) (λz=>nomatch z) λtk=>fin _ tk rfl
 |lst ys =>
  obtain⟨a,us,rfl,s1,t1⟩:=J.lst;cases (show u=Value.ref a from U);obtain⟨its,_,p,_⟩:=I.list s1;obtain⟨o,h1,h2,_⟩:=p.isList;cases b<;>simp only[dc,ow,reduceCtorEq]at D<;>subst D<;>first
   |exact PySem.W.kia_one PySem.W.kitx_list I.kIn ⟨o,h1,h2⟩ (b:=true) (by first|rfl|kernel_rfl|decide) (λz=>nomatch z) λtk=>fin _ tk rfl
   |exact PySem.W.kia_one PySem.W.kitx_list I.kIn ⟨o,h1,h2⟩ (b:=false) (by first|rfl|kernel_rfl|decide) (λz=>nomatch z) λtk=>fin _ tk rfl
 |tup ys =>
  obtain⟨a,us,rfl,s1,t1⟩:=J.tup;cases (show u=Value.ref a from U);obtain⟨its,_,p,_⟩:=I.tuple s1;obtain⟨o,h1,h2,_⟩:=p;cases b<;>simp only[dc,ow,reduceCtorEq]at D<;>subst D<;>first
   |exact PySem.W.kia_one PySem.W.kitx_tuple I.kIn ⟨o,h1,h2⟩ (b:=true) (by first|rfl|kernel_rfl|decide) (λz=>nomatch z) λtk=>fin _ tk rfl
   |exact PySem.W.kia_one PySem.W.kitx_tuple I.kIn ⟨o,h1,h2⟩ (b:=false) (by first|rfl|kernel_rfl|decide) (λz=>nomatch z) λtk=>fin _ tk rfl
theorem iG{K:LI} :∀{bs:List Bool}{us}{its},Reps K F (bs.map .bl) us->aA us its->its=bs.map Value.bool
 | [],_,_,h,w=>by rw[map_nil,Reps]at h;subst h;cases w;rfl
 |b::bs,_,_,h,w=>by
  refine aq h λu r D q t=>?_
  subst D;subst q;cases w with
  |cons J U =>
   subst J;rw[iG t U];rfl
def v5(bs:List Bool):(range bs.length).all (λi=>bs.getD i false)=bs.all id:=by
 conv=>rhs;rw[<- Srt.hZ bs false]
 rw[K8]
 rfl
def v6(bs:List Bool):(range bs.length).any (λi=>bs.getD i false)=bs.any id:=by
 conv=>rhs;rw[<- Srt.hZ bs false]
 rw[List.any_map]
 rfl
def kC(bs:List Bool):TruthOf P w A (λi v=>(bs.map Value.bool).toArray[i]?=some v) (λi=>bs.getD i false):=by
 intro i v s Q E h q;simp only[getElem?_toArray,IY,wh]at h;obtain⟨b,e,rfl⟩:=h;have:bs.getD i false=b:=by rw[getD_eq_getElem?_getD,e];rfl
 have D:Q (bs.getD i false) s:=q;rw[this]at D;exact Jn D
def Gc (hc:X.calm=true):bM X (.builtin "any") (RBM X.K (aE .any)):=by
 intro pins s σ H xs us Q I r h;refine lh h λO vs v hO Y e q=>?_
 obtain⟨x,rfl⟩:=dA e (.inl rfl);refine ae (p1 Y) λu D Z=>?_
 subst D;simp only[aE,cx,i1,wh]at e;obtain⟨ys,e0,bs,e,rfl⟩:=e;obtain rfl:=uO e0;have:=jN e;subst this;refine aq Z.lst λa ws J s1 t1=>?_
 subst J;refine ae (dQ r) λu D ru=>?_
 subst D;subst ru;refine aM (I.list s1) λits r' pl hz=>?_
 have:=iG t1 r';subst this;have U:a<s.heap.objs.size:=by obtain⟨o,ho,_⟩:=pl.isList;exact tr ho
 refine call_any_walk (KP pl.isList ?_);refine⟨s.heap.objs.size,_,_,_,_,_,λi=>bs.getD i false,rfl,Walks.list (by first|exact I.ok.hd hc|simpa using I.ok.hd hc) s.heap.objs.size a (IL U) (bs.map Value.bool).toArray,⟨⟨_,pe _ rfl,rfl,rfl⟩,pl.isList.push _⟩,kC bs,λh' tk hk=>?_⟩;have e2:(range (bs.map Value.bool).toArray.size).any (λi=>bs.getD i false)=bs.any id:=by
  rw[pb,ox];exact v6 bs
 rw[e2];refine⟨.bl _,H,?_,rfl,q _ H (ag.refl H) (de _ _)⟩;refine I.kept (t':=tk) λb o e=>hk b o ?_ (i2 _ e)
 intro hm;have hb:=tr e
 simp_all
def Ge (hc:X.calm=true):bM X (.builtin "all") (RBM X.K (aE .all)):=by
 intro pins s σ H xs us Q I r h;refine lh h λO vs v hO Y e q=>?_
 obtain⟨x,rfl⟩:=dA e (.inl rfl);refine ae (p1 Y) λu D Z=>?_
 subst D;simp only[aE,cx,i1,wh]at e;obtain⟨ys,e0,bs,e,rfl⟩:=e;obtain rfl:=uO e0;have:=jN e;subst this;refine aq Z.lst λa ws J s1 t1=>?_
 subst J;refine ae (dQ r) λu D ru=>?_
 subst D;subst ru;refine aM (I.list s1) λits r' pl hz=>?_
 have:=iG t1 r';subst this;have U:a<s.heap.objs.size:=by obtain⟨o,ho,_⟩:=pl.isList;exact tr ho
 refine call_all_walk (KP pl.isList ?_);refine⟨s.heap.objs.size,_,_,_,_,_,λi=>bs.getD i false,rfl,Walks.list (by first|exact I.ok.hd hc|simpa using I.ok.hd hc) s.heap.objs.size a (IL U) (bs.map Value.bool).toArray,⟨⟨_,pe _ rfl,rfl,rfl⟩,pl.isList.push _⟩,kC bs,λh' tk hk=>?_⟩;have e2:(range (bs.map Value.bool).toArray.size).all (λi=>bs.getD i false)=bs.all id:=by
  rw[pb,ox];exact v5 bs
 rw[e2];refine⟨.bl _,H,?_,rfl,q _ H (ag.refl H) (de _ _)⟩;refine I.kept (t':=tk) λb o e=>hk b o ?_ (i2 _ e)
 intro hm;have hb:=tr e;simp at hm;exact absurd hm (IL hb)
def B3 (hc:X.calm=true):bM X (.type "set") (λus H Q=>∃O v u ns,us=[u]/\bz X.K H O v u/\((bq v).bind bO)=some ns/\ns.length<=4000/\∀l,H l=none->Q (.ref l) (upd H l (kz X.prog X.w l (St.dd ns.reverse)))):=by
 intro pins s σ H xs us Q I r h;refine lj h λO v u ns J Y e D q=>?_
 subst J;simp only[i1]at e;refine ae e λys Z e2=>?_
 refine aq (Y.seq Z) λa ws U s1 t1=>?_
 subst U;have:=gU e2;subst this;have e3:=t1.ints;subst e3;exact xH hc pins s σ H _ us Q I r ⟨a,ns,rfl,s1,D,λl hl=>q l hl⟩
def qV (hc:X.calm=true):bM X (.builtin "sorted") (λus H Q=>∃l ks,us=[.ref l]/\H l=some (kz X.prog X.w l ks)/\ks.length<64/\∀p,H p=none->Q (.ref p) (upd H p (.lst ((Srt.sortI ks).map V.int)))):=by
 intro pins s σ H xs us Q I r h;refine fQ h λl ks D e J q=>?_
 subst D;exact i4 hc pins s σ H _ us Q I r ⟨l,ks,rfl,.inr (.inr e),J,q⟩
end
end MM
namespace L2
open PySem PySem.Spec PyProof.Rows List Option
def Inv.turned2(I:Inv X pins σ H s)(he:s.heap.get? e=some D)(hf:D.isFreed=false)(Y:∃o,h'.get? e=some o)
  (k:∀b o,b≠e->b≠it->s.heap.get? b=some o->h'.get? b=some o) (fe:iS X pins H e) (fi:iS X pins H it):Inv X pins σ H { s with heap:=h',toks:=t' }:=by
 obtain⟨o',Z⟩:=Y;refine gE fe λa0 a1 a2 a3 a4 a5=>?_
 refine gE fi λb0 b1 b2 b3 b4 b5=>?_
 have ao:(h'.update e λ_=>D).get? e=some D:=JD _ Z hf;have J:∀b,b≠e->(h'.update e λ_=>D).get? b=h'.get? b:=λb U=>(JU h' e _).2 b U
 have I1:Inv X pins σ H { s with heap:=h'.update e λ_=>D,toks:=t' }:=I.turned (it:=it) (λb o U q=>by
  by_cases z:b=e
  .subst z;rw[ao,<- he];exact q
  .rw[J b z];exact k b o z U q) b0 b1 b3 b4 b5
 exact Inv.turned (s:={ s with heap:=h'.update e λ_=>D,toks:=t' }) (it:=e) I1 (λb o U q=>by
  have q:=q;rw[J b U]at q;exact q) a0 a1 a3 a4 a5
noncomputable def Ite(q:Hp->List V->Prop):It:=
 ⟨λi H=>∃xs,q H xs/\i<xs.length,λi H x H'=>∃p,x=.ref p/\H p=none/\∃u,H'=upd H p (.tup [.int i,u])/\∀xs,q H xs->xs[i]?=some u,λi H=>∃xs,q H xs/\i=xs.length⟩
structure Src(P:Program)(w:World)(K:LI)(a it:Addr)(q:Hp->List V->Prop)(r:Nat->Heap->Prop):Prop where
 ne:a≠it
 keep:∀i h h',r i h->(∀o,h.get? it=some o->h'.get? it=some o)->r i h'
 live:∀i h,r i h->∃o,h.get? it=some o/\∀v,o.data≠.cell v
 one:∀(X:Cx),X.K=K->∀(pins:List (Addr×Obj)) (s:Shared) (σ:St) (H:Hp) (xs ys:List V),Inv X pins σ H s->q H xs->q H ys->xs=ys
 row:∀(X:Cx),X.prog=P->X.w=w->X.K=K->∀(pins:List (Addr×Obj)) (s:Shared) (σ:St) (H:Hp) (xs:List V),Inv X pins σ H s->q H xs->∃(its:List Value),aA xs its/\∀(A:Around),A.handled=none ->
  ∃St:Nat->Heap->Prop,Draws P w A it [it,a] its.length (λi v=>its[i]?=some v) St/\(∀i,r i s.heap->St i s.heap)/\∀i h,St i h->r i h
def yj{K:LI}(S:Src P w K a it q r)(ao:e≠it)(bt:e≠a) :
  oE P w K (.Tuple ts j tp) (Ite q) [e,it] e (λi h=>(∃old,IsEnum h e it (i:Nat) old)/\r i h) where
 mem:=.head _
 obj:=λi h st b J=>by
  obtain⟨⟨old,U⟩,hr⟩:=st;rcases rb.mp J with rfl|J
  .exact⟨_,U,λv z=>by cases z⟩
  .have z:b=it:=by simpa using J
   subst z;exact S.live i h hr
 keep:=λi h h' ⟨⟨old,U⟩,hr⟩ k=>⟨⟨old,k e (.head _) _ U⟩,S.keep i h h' hr (k it (.tail _ (.head _)))⟩
 item:=by
  intro X hP hw hK hc i pins s σ H E I hf st hg;obtain⟨⟨old,U⟩,hr⟩:=st;refine ae hg λxs Z hi=>?_
  refine ae (S.row X hP hw hK pins s σ H xs I Z) λits rv dr=>?_
  have hh:=I.ok.hd hc;refine aM (dr X.A.in1 hh) λSt D Y aL=>?_
  have hl:=rv.length;have fe:=hf e (.head _);have fi:=hf it (.tail _ (.head _));refine wpAny_pyNext_enum_itemD D U (Y i hr) (by omega) ao (by simp only[rb,JI,Kd,not_or];exact⟨ao,bt⟩) λx h' tk px eo b1 tup sz kp=>?_
  refine⟨_,rfl,wpAny_letOwnedTupleGo_enum eo λh2 a0 a1=>?_⟩;have hx:=hi;refine ae (rv.get (IP hx)) λu hu ru=>?_
  have ex:x=u:=by
   have:=px.symm.trans hu;simpa using this
  subst ex;have fresh:=I.hok.fresh (pd _);have ne:∀b o,s.heap.get? b=some o->b≠s.heap.objs.size:=λb o q z=>Jm _ (by have:=tr q;rw[z]at this;exact this)
  have en:=ne _ _ U;refine ae (S.live i _ hr) λoi b2 _=>?_
  have inn:=ne _ _ b2;have I1:Inv X pins σ (upd H s.heap.objs.size (.tup [.int i,xs[i]])) { s with heap:=s.heap.push { cls:=.type "tuple",data:=.seq #[.int i tk,x] } }:=
   I.laid (t':=s.toks) (λb o q=>i2 _ q) (pd _) ⟨by show 2<=sizeLine;decide,_,.cons ⟨_,rfl⟩ (.cons ru .nil),IsTup.new _ _⟩
  have up:∀b,b≠s.heap.objs.size->iS X pins H b->iS X pins (upd H s.heap.objs.size (.tup [.int i,xs[i]])) b:=λb J Z=>pZ Z λz r=>⟨by rw[al J];exact z,r⟩
  have I2:=I1.turned2 (h':=h2) (t':=tk+1) (e:=e) (it:=it) (i2 _ U) rfl ⟨_,a0⟩ (λb o a2 b3 q=>?_) (up e en fe) (up it inn fi)
  .refine⟨.ref s.heap.objs.size,_,I2,rfl,⟨_,rfl,fresh,_,rfl,λys hy=>?_⟩,⟨⟨_,by simpa using a0⟩,?_⟩,λb J=>?_⟩
   .rw[S.one X hK pins s σ H ys xs I hy Z];exact IP hx
   .refine aL _ _ (D.frame _ _ _ b1 λb J o q=>?_);rw[a1.2 b λz=>?_]
    .exact q
    .simp_all
   .rcases rb.mp J with rfl|J
    .exact(up b en fe).1
    .have z:b=it:=by simpa using J
     subst z;exact(up b inn fi).1
  .rw[a1.2 b a2];rcases Heap.get?_push_cases q with⟨rfl,rfl⟩|q
   .exact tup
   .exact kp b o a2 b3 q
 done:=by
  intro X hP hw hK hc i pins s σ H E I hf st hg;obtain⟨⟨old,U⟩,hr⟩:=st;refine ae hg λxs Z hi=>?_
  refine ae (S.row X hP hw hK pins s σ H xs I Z) λits rv dr=>?_
  have hh:=I.ok.hd hc;refine aM (dr X.A.in1 hh) λSt D Y aL=>?_
  have hl:=rv.length;refine gE (hf it (.tail _ (.head _))) λf0 f1 f2 f3 f4 f5=>?_
  have e:i=its.length:=by exact(by simp[*])
  subst e;exact wpAny_pyNext_enum_endD D U (Y _ hr) λh' eb=>⟨rfl,I.turned (t':=s.toks) (λb o J q=>eb b o J q) f0 f1 f3 f4 f5⟩
 self:=λ_ i s Q E ⟨⟨old,U⟩,_⟩ h=>wpAny_pyIter_enum U h
def yk{K:LI}(ne:a≠it):Src P w K a it (λH xs=>SqL K H a xs) (λi h=>h.IsListIter it a i) where
 ne:=ne
 keep:=λi h h' ⟨o,ho,r⟩ k=>⟨o,k o ho,r⟩
 live:=λi h D=>aM D λo ho _ hd=>⟨o,ho,λv z=>by rw[hd]at z;cases z⟩
 one:=λX q pins s σ H xs ys I h h'=>by subst q;exact I.list_inj h h'
 row:=λX J hw q pins s σ H xs I h=>by
  subst J hw q;refine aM (I.list h) λits U p _=>?_
  refine⟨its,U,λA Y=>⟨λi h=>h.IsListIter it a i/\h.IsList a its.toArray,?_,λi st=>⟨st,p.isList⟩,λi h' st=>st.1⟩⟩;simpa using Draws.list (prog:=X.prog) (w:=X.w) Y it a ne its.toArray
def AM{K:LI}(ne:a≠it):Src P w K a it (λH xs=>SqT K H a xs) (λi h=>h.IsTupleIter it a i) where
 ne:=ne
 keep:=λi h h' ⟨o,ho,r⟩ k=>⟨o,k o ho,r⟩
 live:=λi h D=>aM D λo ho _ hd=>⟨o,ho,λv z=>by rw[hd]at z;cases z⟩
 one:=λX q pins s σ H xs ys I h h'=>by subst q;exact I.tuple_inj h h'
 row:=λX J hw q pins s σ H xs I h=>by
  subst J hw q;refine aM (I.tuple h) λits U p _=>?_
  refine⟨its,U,λA Y=>⟨λi h=>h.IsTupleIter it a i/\h.IsTuple a its.toArray,?_,λi st=>⟨st,(show s.heap.IsTuple a its.toArray from p)⟩,λi h' st=>st.1⟩⟩;simpa using En.draws (P:=X.prog) (w:=X.w) Y it a ne its.toArray
noncomputable def Ie(K:LI)(tl:TE):TI:=λσ H R=>tl σ H λx H1=>∃a,x=.ref a/\(((∃xs,SqL K H1 a xs)/\R (Ite λH xs=>SqL K H a xs) H1)\/((∃xs,SqT K H1 a xs)/\R (Ite λH xs=>SqT K H a xs) H1))
def qW{σ:St}{H:Hp}{s:Shared}{E:Value->Shared->Prop}{h':Heap}{U:List Expr}{j:Nat}{Y:Pos}{a:Addr}{q:Hp->List V->Prop}{r:Nat->Heap->Prop}{R:It->Hp->Prop}(I:Inv X pins σ H s)(Z:a<s.heap.objs.size)
  (S:Src X.prog X.w X.K a s.heap.objs.size q r) (J:IsEnum h' (s.heap.objs.size+1) s.heap.objs.size 0 .none) (hr:r 0 h') (k:∀b o,s.heap.get? b=some o->h'.get? b=some o) (hR:R (Ite q) H) :
  wpAny (model X.prog X.w) X.A (pyIter (.ref (s.heap.objs.size+1))) (PIE X pins σ (.Tuple U j Y) R) E { s with heap:=h' }:=by
 have I1:=I.kept (t':=s.toks) k;refine wpAny_pyIter_enum (s:={ s with heap:=h' }) J ⟨s.heap.objs.size+1,[s.heap.objs.size+1,s.heap.objs.size],_,_,H,rfl,I1,yj S (Nat.succ_ne_self _) (JH (Ji Z)),⟨⟨_,J⟩,hr⟩,λb D=>?_,hR⟩;have D:s.heap.objs.size<=b:=by
  simp only[rb,JI,Kd]at D;rcases D with rfl|rfl
  .exact JO _
  .exact pd _
 exact I.fpOk D (I.hok.fresh D)
def sO (hg:Gl X "enumerate") (hm:X.mg "enumerate"=none) (hl:PE X l tl) (hs:starEach [l] X.env=[(false,eval l X.env)]:=by rfl) :
  PI X (.Tuple ts j tp) (.Call (.Name "enumerate" p) [l] [] pos) (Ie X.K tl):=by
 intro pins s σ H R I h;refine Call_ (jA I hg hm PyProof.Rows.boot_enumerate (JY (thn (bm hl b6 hs pos pins s σ H (λvs H1=>match vs with
  | [x]=>∃a,x=.ref a/\(((∃xs,SqL X.K H1 a xs)/\R (Ite λH xs=>SqL X.K H a xs) H1)\/((∃xs,SqT X.K H1 a xs)/\R (Ite λH xs=>SqT X.K H a xs) H1))
  | _=>False) I h) λus s1 D=>aq D λvs H1 U r1 Y=>?_) hs rfl))
 cases r1 with
 |nil=>exact Y.elim
 |cons r rr =>
  cases rr with
  |cons _ _=>exact Y.elim
  |nil =>
   obtain⟨a,e,q⟩:=Y;subst e;subst r;rcases q with⟨⟨xs,D⟩,q⟩|⟨⟨xs,D⟩,q⟩
   .obtain⟨its,_,pl,_⟩:=U.list D;have J:=let ⟨o,ho,_⟩:=pl.isList;tr ho
    exact call_enumerate_list pl.isList λh' Z it _ k=>qW U J (yk (IL J)) Z it k q
   .obtain⟨its,_,pt,_⟩:=U.tuple D;have J:=let ⟨o,ho,_⟩:=pt;tr ho
    exact En.call_tup pt λh' Z it _ k=>qW U J (AM (IL J)) Z it k q
end L2
namespace MM
open PySem PySem.Spec PyProof.Rows L2 List Option
structure m9(K:LI)(J:It)(xs:List PV)(V G:Hp):Prop where
 stop:∀H',ag G H'->J.stop xs.length H'
 go:∀(i:Nat) x H',ag G H'->xs[i]?=some x->J.go i H'
 yld:∀(i:Nat) x H' u H2,ag G H'->xs[i]?=some x->J.yld i H' u H2->ag H' H2/\∀O',(∀a∈O',H' a≠none)->ag V (ak H2 O')->Rep K (ak H2 O') x u
def m9.weak{K:LI}{V G q:Hp}(h:m9 K J xs V G)(s:ag G q):m9 K J xs V q:=
 ⟨λH' s'=>h.stop H' (s.trans s'),λi x H' s'=>h.go i x H' (s.trans s'),λi x H' u H2 s'=>h.yld i x H' u H2 (s.trans s')⟩
noncomputable def aU(ms:List ME)(G:Rho)(σ:St):List Addr:=match ms with
 | [.bor i]=>(match (G[i]?).join,(σ[i]?).join with|some (.own _),some (.ref a)=>[a]|_,_=>[])
 | _=>[]
noncomputable def bE(B:Hp)(O:List Addr)(H:Hp)(L:List Addr):Hp:=λb=>if b∈O then(if b∈L then H b else B b)else H b
section
variable{K:LI}{B H:Hp}{O L:List Addr}
def qX(s:ag B H):ag (bE B O H L) H:=λb u e=>by
 unfold bE at e;split at e
 .split at e
  .exact e
  .exact s b u e
 .exact e
def dg(s:ag B H):ag B (bE B O H L):=λb u e=>by
 unfold bE;split
 .split
  .exact s b u e
  .exact e
 .exact s b u e
def cf:ag (ak H O) (bE B O H L):=λb u e=>by
 have q:b∉O:=λz=>by rw[dF z]at e;exact aP e
 unfold bE;rw[if_neg q];rw[aH q]at e;exact e
end
def jj{K:LI}{V G:Hp}(h:SqL K G a us)(r:Reps K V xs us):m9 K (Itl K a) xs V G where
 stop:=λH' s=>⟨us,s.seq h,JZ r.length.symm⟩
 go:=λi x H' s e=>by
  refine ae (r.get e) λu D _=>?_
  exact⟨us,u,s.seq h,D⟩
 yld:=λi x H' u H2 s e y=>by
  obtain⟨rfl,y⟩:=y;refine ae (r.get e) λw D q=>?_
  have J:=y us (s.seq h);rw[D]at J;cases J;exact⟨ag.refl _,λO' _ sv=>Rep.mono sv _ q⟩
def yl{K:LI}{V G:Hp}(h:SqT K G a us)(r:Reps K V xs us):m9 K (Itt K a) xs V G where
 stop:=λH' s=>⟨us,s.seqT h,JZ r.length.symm⟩
 go:=λi x H' s e=>by
  refine ae (r.get e) λu D _=>?_
  exact⟨us,u,s.seqT h,D⟩
 yld:=λi x H' u H2 s e y=>by
  obtain⟨rfl,y⟩:=y;refine ae (r.get e) λw D q=>?_
  have J:=y us (s.seqT h);rw[D]at J;cases J;exact⟨ag.refl _,λO' _ sv=>Rep.mono sv _ q⟩
def DH{K:LI}{V G:Hp} :m9 K (Itc x) (x.cps.toList.map λc=>.str ⟨#[c]⟩) V G where
 stop:=λH' s=>by simp[Itc]
 go:=λi y H' s e=>by
  have:=(vp.mp e).1;simpa[Itc]using this
 yld:=λi y H' u H2 s e z=>by
  obtain⟨rfl,c,hc,rfl⟩:=z;refine⟨ag.refl _,λO' _ sv=>?_⟩;rw[IY,JL,hc]at e;cases e;rw[Rep]
def qY{K:LI}{V G:Hp}{lo:Int} :m9 K (Itr lo n) ((range n).map λ(k:Nat)=>.int (lo+k)) V G where
 stop:=λH' s=>by simp[Itr]
 go:=λi x H' s e=>by
  have:=(vp.mp e).1;simpa[Itr]using this
 yld:=λi x H' u H2 s e y=>by
  obtain⟨rfl,rfl⟩:=y;refine⟨ag.refl _,λO' _ sv=>?_⟩;have hi:i<n:=by have:=(vp.mp e).1;simpa using this
  rw[IY,getElem?_range hi]at e;cases e;rw[Rep]
def DJ{K:LI}(q:∀a∈O,H a≠none)(D:H p=none)(h:Reps K (ak (upd H p (.tup us)) O) xs us):Rep K (ak (upd H p (.tup us)) O) (.tup xs) (.ref p):=by
 refine⟨p,us,rfl,?_,h⟩;rw[aH λz=>q p z D];exact ar ..
theorem uP:∀xs (k i:Nat),(b7 k xs)[i]?=(xs[i]?).map λx=>.tup [.int ((k+i:Nat):Int),x]
 | [],k,i=>by rfl
 |x::xs,k,0=>by rfl
 |x::xs,k,i+1=>by
  rw[b7,getElem?_cons_succ,getElem?_cons_succ,uP xs (k+1) i,show k+1+i=k+(i+1)by omega]
theorem mx:∀xs k,(b7 k xs).length=xs.length
 | [],_=>rfl
 |x::xs,k=>by rw[b7,length_cons,length_cons,mx xs]
def iH{K:LI}{V G:Hp}{q:Hp->List L2.V->Prop}{xs:List PV}{us:List L2.V}(h:∀H',ag G H'->q H' us)(r:Reps K V xs us):m9 K (Ite q) (b7 0 xs) V G where
 stop:=λH' s=>⟨us,h H' s,by rw[mx];exact r.length⟩
 go:=λi x H' s e=>by
  refine⟨us,h H' s,?_⟩;have:=(vp.mp e).1;rw[mx]at this;rw[<- r.length];exact this
 yld:=λi x H' u H2 s e y=>by
  obtain⟨p,rfl,J,v,rfl,y⟩:=y;rw[uP]at e;refine ae (wh.mp e) λz Y D=>?_
  subst D;refine ae (r.get Y) λw Z rz=>?_
  have U:=y us (h H' s);rw[Z]at U;cases U;refine⟨bf J _,λO' hO sv=>?_⟩;rw[Kc];refine DJ hO J (.cons (bZ _ _) (.cons (Rep.mono sv _ rz) .nil))
noncomputable def tW(K:LI)(cal:Cal)(k:Sk)(ms:List ME):TI:=λσ H R =>
 ∃B E O G vs xs,aK K B E O H G σ/\evs cal ms G=some vs/\cm k vs=some xs/\∀J H1,ag H H1->m9 K J xs (ak H1 O) (bE B O H1 (aU ms G σ))->R J H1
section
variable{X:Cx}{cal:Cal}{tg:Expr}
theorem PI.or(h:PI X tg e t)(g:PI X tg e u):PI X tg e (λσ H R=>t σ H R\/u σ H R):=λpins s σ H R I q=>q.elim (h pins s σ H R I) (g pins s σ H R I)
theorem jk:∀{ms}{G}{vs},evs cal ms G=some vs->vs.length=ms.length
 | [],_,_,h=>by simp[evs]at h;subst h;rfl
 |m::ms,_,_,h=>by
  simp[evs,i1]at h;obtain⟨v,_,w,q,rfl⟩:=h;simp[jk q]
def m_(h:evs cal [m] G=some vs):∃v,vs=[v]/\ev cal m G=some v:=by
 simp[evs,i1]at h;obtain⟨v,e,w,q,rfl⟩:=h
 simp_all
def pD{K:LI}(h:Rep K F v u)(e:bq v=some xs):∃a us,u=.ref a/\Reps K F xs us/\((v=.lst xs/\SqL K F a us)\/(v=.tup xs/\SqT K F a us)):=by
 cases v<;>first|(simp[bq]at e;subst e;rw[Rep]at h;obtain⟨a,us,e,q,r⟩:=h;exact⟨a,us,e,r,.inl ⟨rfl,q⟩⟩)|(simp[bq]at e;subst e;rw[Rep]at h;obtain⟨a,us,e,q,r⟩:=h;exact⟨a,us,e,r,.inr ⟨rfl,da q⟩⟩)|injection e
def Gg(Y:aI m=false)(h:PE X e (tE X.K cal m)):PI X tg e (tW X.K cal .seq [m]):=by
 refine(PI.or (kQ h) (wY h)).imp λσ H R q=>?_
 refine p_ q λB E O G vs xs st e1 e2 q=>?_
 refine ae (m_ e1) λv Z e3=>?_
 subst Z;have J:bq v=some xs:=e2;have hl:aU [m] G σ=[]:=by cases m<;>first|rfl|exact vm Y
 cases v with
 |lst ys =>
  simp[bq]at J;subst J
  refine .inl ⟨B,E,O,G,_,st,e3,λu H' s g=>?_⟩;have r:=g.2 Y;refine aq r λa us D U rs=>?_
  subst D;exact⟨a,rfl,⟨us,(ba H' O).seq U⟩,q _ _ s (jj (cf.seq U) rs)⟩
 |tup ys =>
  simp[bq]at J;subst J
  refine .inr ⟨B,E,O,G,_,st,e3,λu H' s g=>?_⟩;have r:=g.2 Y;refine aq r λa us D U rs=>?_
  subst D;exact⟨a,rfl,⟨us,(ba H' O).seqT (da U)⟩,q _ _ s (yl (cf.seqT (da U)) rs)⟩
 | _=>injection J
def Gh{i:Nat}{x:Str}{pos:Pos}(h:au X.N X.env.scope i x=true):PI X tg (.Name x pos) (tW X.K cal .seq [.bor i]):=by
 refine(PI.or (kQ (bn h)) (wY (bn h))).imp λσ H R q=>?_
 obtain⟨B,E,O,G,vs,xs,st,e1,e2,q⟩:=q;obtain⟨v,rfl,D⟩:=m_ e1;have U:bq v=some xs:=e2;rw[ev]at D;cases hj:(G[i]?).join with
 |none=>rw[hj]at D;cases D
 |some m =>
  rw[hj]at D;obtain⟨u,Z,so⟩:=bo st hj;cases m with
  |val w =>
   simp only[bx,ow]at D;subst D;have a0:Rep X.K (ak H O) w u:=so;obtain⟨a,us,rfl,Y,z⟩:=pD a0 U;rcases z with⟨rfl,J⟩|⟨rfl,J⟩
   .exact .inl ⟨_,Z,a,rfl,⟨us,(ba H O).seq J⟩,q _ _ (ag.refl H) (jj (cf.seq J) Y)⟩
   .exact .inr ⟨_,Z,a,rfl,⟨us,(ba H O).seqT J⟩,q _ _ (ag.refl H) (yl (cf.seqT J) Y)⟩
  |own ys =>
   simp only[bx,ow]at D;subst D;simp[bq]at U;subst U
   obtain⟨a,us,rfl,ha,Y,hO,_⟩:=so;refine .inl ⟨_,Z,a,rfl,⟨us,SqL.of ha⟩,q _ _ (ag.refl H) (jj (SqL.of ?_) Y)⟩;have hl:aU [.bor i] G σ=[a]:=by simp[aU,hj,Z]
   unfold bE;rw[hl,if_pos hO,if_pos (by simp)];exact ha
  |brw ys =>
   simp only[bx,ow]at D;subst D;simp[bq]at U;subst U
   obtain⟨a,us,rfl,J,Y⟩:=so;exact .inl ⟨_,Z,a,rfl,⟨us,st.keep.seq J⟩,q _ _ (ag.refl H) (jj ((dg st.keep).seq J) Y)⟩
  |ownD ys =>
   simp only[bx,ow]at D;subst D;simp[bq]at U
  |ownO _ _ _=>simp[bx]at D
  |brwO _ _=>simp[bx]at D
  |brwD ys =>
   simp only[bx,ow]at D;subst D;simp[bq]at U
def Gi (g:Gf X T k cal) (hf:f=("enumerate":Str)) (hg:glB X.env.scope f=true) (hs:az e=true) (hb:aI m=false) (h:PE X e (tE X.K cal m)):PI X (.Tuple ts j tp) (.Call (.Name f p) [e] [] pos) (tW X.K cal .enm [m]):=by
 subst hf;have D:starEach [e] X.env=[(false,eval e X.env)]:=by cases e<;>first|rfl|(injection hs)
 refine(sO (fz hg) (g.blt "enumerate" (by decide)) h D).imp λσ H R q=>?_
 refine p_ q λB E O G vs xs st e1 e2 q=>?_
 refine ae (m_ e1) λv U e3=>?_
 subst U;have hl:aU [m] G σ=[]:=by cases m<;>first|rfl|exact vm hb
 simp[cm,wh]at e2;obtain⟨ys,e4,rfl⟩:=e2;refine⟨B,E,O,G,_,st,e3,λu H' s g=>?_⟩;refine aq (pD (g.2 hb) e4) λa us Y rs z=>?_
 subst Y;rcases z with⟨_,J⟩|⟨_,J⟩
 .exact⟨a,rfl,.inl ⟨⟨us,(ba H' O).seq J⟩,q _ _ s (iH (λH2 Z=>Z.seq (cf.seq J)) rs)⟩⟩
 .exact⟨a,rfl,.inr ⟨⟨us,(ba H' O).seqT J⟩,q _ _ s (iH (λH2 Z=>Z.seqT (cf.seqT J)) rs)⟩⟩
def DK {i:Nat}{x:Str}{px:Pos}{f:Str}{ts:List Expr}{j:Nat}{tp p pos:Pos}{T:Tab}{k:Nat} (g:Gf X T k cal) (hf:f=("enumerate":Str)) (hg:glB X.env.scope f=true) (h:au X.N X.env.scope i x=true):PI X (.Tuple ts j tp) (.Call (.Name f p) [.Name x px] [] pos) (tW X.K cal .enm [.bor i]):=by
 subst hf;refine(sO (fz hg) (g.blt "enumerate" (by decide)) (bn h) rfl).imp λσ H R q=>?_
 obtain⟨B,E,O,G,vs,xs,st,e1,e2,q⟩:=q;obtain⟨v,rfl,D⟩:=m_ e1;simp only[cm,wh]at e2;obtain⟨zs,U,rfl⟩:=e2;rw[ev]at D;cases hj:(G[i]?).join with
 |none=>rw[hj]at D;cases D
 |some m =>
  rw[hj]at D;obtain⟨u,eu,so⟩:=bo st hj;cases m with
  |val w =>
   simp only[bx,ow]at D;subst D;have a1:Rep X.K (ak H O) w u:=so;obtain⟨a,us,rfl,Z,z⟩:=pD a1 U;rcases z with⟨rfl,J⟩|⟨rfl,J⟩
   .exact⟨_,eu,a,rfl,.inl ⟨⟨us,(ba H O).seq J⟩,q _ _ (ag.refl H) (iH (λH2 Y=>Y.seq (cf.seq J)) Z)⟩⟩
   .exact⟨_,eu,a,rfl,.inr ⟨⟨us,(ba H O).seqT J⟩,q _ _ (ag.refl H) (iH (λH2 Y=>Y.seqT (cf.seqT J)) Z)⟩⟩
  |own ys =>
   simp only[bx,ow]at D;subst D;simp[bq]at U;subst U
   obtain⟨a,us,rfl,ha,Z,hO,_⟩:=so;have hl:aU [.bor i] G σ=[a]:=by simp[aU,hj,eu]
   have hG:bE B O H (aU [.bor i] G σ) a=some (.lst us):=by
    unfold bE;rw[hl,if_pos hO,if_pos (by simp)];exact ha
   exact⟨_,eu,a,rfl,.inl ⟨⟨us,SqL.of ha⟩,q _ _ (ag.refl H) (iH (λH2 Y=>Y.seq (SqL.of hG)) Z)⟩⟩
  |brw ys =>
   simp only[bx,ow]at D;subst D;simp[bq]at U;subst U
   obtain⟨a,us,rfl,J,Z⟩:=so;exact⟨_,eu,a,rfl,.inl ⟨⟨us,st.keep.seq J⟩,q _ _ (ag.refl H) (iH (λH2 Y=>Y.seq ((dg st.keep).seq J)) Z)⟩⟩
  |ownD ys =>
   simp only[bx,ow]at D;subst D;simp[bq]at U
  |ownO _ _ _=>simp[bx]at D
  |brwO _ _=>simp[bx]at D
  |brwD ys =>
   simp only[bx,ow]at D;subst D;simp[bq]at U
def Gj(h:PE X e (tE X.K cal m)):PI X tg e (tW X.K cal .chr [m]):=by
 refine(C4 h).imp λσ H R q=>?_
 refine p_ q λB E O G vs xs st Y U q=>?_
 refine ae (m_ Y) λv D Z=>?_
 subst D;cases v with
 |str x =>
  have J:(if x.cps.all (· < 128)=true then some (x.cps.toList.map λc=>PV.str ⟨#[c]⟩)else none)=some xs:=U;split at J
  .rename_i ha;cases J;exact⟨B,E,O,G,_,st,Z,λu H' s g=>⟨x,g.1.str,ha,q _ _ s DH⟩⟩
  .exact aP J
 | _=>exact aP U
abbrev Ig(as:List Expr):Prop:=as.length=1\/as.length=2
def AN (g:Gf X T k cal) (hf:f=("range":Str)) (hg:glB X.env.scope f=true) (ha:PA X args (tEs X.K cal ms)) (hn:Ig args) (U:args.all az=true) (hm:ms.length=args.length) :
  PI X tg (.Call (.Name f p) args [] pos) (tW X.K cal .rng ms):=by
 subst hf;have J:∀e,az e=true->∀es env,starEach (e::es) env=(false,eval e env)::starEach es env:=λe he es env=>by
  cases e<;>first|rfl|(injection he)
 match args,hn with
 | [a],_ =>
  simp only[all_cons,all_nil,Bool.and_true]at U;refine(vv (fz hg) (g.blt "range" (by decide)) ha (by rw[J a U];rfl)).imp λσ H R q=>?_
  refine p_ q λB E O G vs xs st Y D q=>?_
  refine⟨B,E,O,G,vs,st,Y,λus H' s gs=>?_⟩
  match vs,D,gs with
  | [.int j],D,gs =>
   simp only[cm]at D;split at D
   .rename_i c;cases D;refine ae (p1 gs.1) λu Z ru=>?_
    subst Z;have e3:=ru.int;subst e3;exact⟨j,rfl,c.1,c.2,q _ _ s qY⟩
   .exact aP D
  | [.int j,.int j'],D,gs =>
   have:=jk Y
   simp_all
 | [a,b],_ =>
  simp only[all_cons,all_nil,Bool.and_true,oe]at U;refine(vz (fz hg) (g.blt "range" (by decide)) ha (by rw[J a U.1,J b U.2];rfl) (by rw[J b U.2];rfl)).imp λσ H R q=>?_
  refine p_ q λB E O G vs xs st Y D q=>?_
  refine⟨B,E,O,G,vs,st,Y,λus H' s gs=>?_⟩
  match vs,D,gs with
  | [.int i,.int j],D,gs =>
   simp only[cm]at D;split at D
   .rename_i c;cases D;refine aq (p2 gs.1) λu u' a0 ru a1=>?_
    subst a0;have e3:=ru.int;have e4:=a1.int;subst e3 e4;exact⟨i,j,rfl,c,q _ _ s qY⟩
   .exact aP D
  | [.int j],D,gs =>
   have:=jk Y;simp at this hm;omega
end
noncomputable def tF(K:LI)(cal:Cal)(q:ME):TE:=λσ H Q=>∃B E O G xs,aK K B E O H G σ/\ev cal q G=some (.lst xs) /\
 ∀p us H',ag H H'->H p=none->H' p=some (.lst us)->Reps K (ak H' (p::O)) xs us->Q (.ref p) H'
def jm :ag (ak H (p::O)) (ak H O):=aV (ag.refl H) λb q=>.inl (Je _ q)
def jn(h:p∈O):ak (upd H p o) O=ak H O:=by
 funext b
 unfold ak;split
 .rfl
 .rename_i q;exact al λz=>q (by rw[z];exact h)
def uQ{K:LI}{H H':Hp}{O:List Addr}{q:ME}{xs:List PV}{p:Addr}{us:List V}(D:∀a∈O,H a≠none)(J:H p=none)(e:H' p=some (.lst us))(r:Reps K (ak H' (p::O)) xs us):Got K H' O q (.lst xs) (.ref p):=by
 refine .of ?_;refine⟨p,us,rfl,SqL.of ?_,Reps.mono jm _ r⟩;rw[aH λz=>D p z J];exact e
section
variable{X:Cx}{T:Tab}{k:Nat}{cal:Cal}
def f_(U:∀G v,ev cal D G=some v->∃xs,v=.lst xs)(h:PE X e (tF X.K cal D)):PE X e (tE X.K cal D):=by
 refine h.imp λσ H Q q=>?_
 refine bc q λB E O G v st J q=>?_
 obtain⟨xs,rfl⟩:=U G v J;exact⟨B,E,O,G,xs,st,J,λp us H' s Y Z r=>q _ _ s (uQ st.here Y Z r)⟩
theorem Gf.blk(g:Gf X T k cal)(x)(fvs)(scope)(q)(D)(C)(fp):Gf (X.blk x fvs scope q D C fp) T k cal:={ g with }
def nU(h:i9 osc N scope x fvs js=true):jK osc N scope x fvs js:=by
 unfold i9 at h;simp only[oe,IU,decide_eq_true_eq]at h;refine HG h λh1 h2 h3 h4 h5 h6 h7 h8 h9=>?_
 exact⟨h1,h2,h3,h4,h5,h6,h7,h8,h9⟩
def DM{K:LI}{B H H1 H2:Hp}{E O:List Addr}{G:Rho}{σ Y:St}{js:List Nat}{D:Addr}{x:PV}{ux:V}(st:aK K B E O H G σ)(s1:ag H H1)(s2:ag H1 H2)(hD:H1 D=none)(a2:H2 D≠none)
  (a3:∀z,Y.set 0 z=(lX js σ).set 0 z) (hl:0<Y.length) (hx:Rep K (ak H2 (D::O)) x ux):aK K H1 [] (D::O) H2 (cW js G x) (Y.set 0 (some ux)):=by
 have hv:ag (ak H O) (ak H2 (D::O)):=aV (s1.trans s2) λb hb=>by
  rcases rb.mp hb with rfl|hb
  .exact .inr (s1.free hD)
  .exact .inl hb
 rw[a3];have U:∀(i:Nat) (m:MV),d9 m=true->(cW js G x)[i]?≠some (some m):=λi m hm e=>by
  unfold cW at e;cases i with
  |zero =>
   simp at e;subst e;cases hm
  |succ i =>
   simp only[getElem?_cons_succ,IY,wh]at e;obtain⟨j,_,e⟩:=e;cases hj:(G[j]?).join with
   |none=>rw[hj]at e;cases e
   |some mm =>
    rw[hj]at e;cases mm<;>first|(simp[dw]at e;done)|(simp only[dw,ow]at e;subst e;cases hm)
 refine⟨s2,λa J=>?_,λa J=>by simp at J,λa J=>by simp at J,?_,λi m e=>?_,λi j m m' a _ e _ hm=>absurd e (U i m hm)
  ,mf λi m e=>by
   cases q:isL m with
   |false=>rfl
   |true=>exact absurd e (U i m (by cases m<;>first|(cases q;done)|rfl))
  ⟩
 .rcases rb.mp J with rfl|J
  .exact a2
  .exact λe=>st.here a J ((s1.trans s2).free e)
 .simp[cW,lX]
 .cases i with
  |zero =>
   simp only[cW,getElem?_cons_zero,ow]at e;subst e;exact⟨ux,by simp[lX],hx⟩
  |succ i =>
   simp only[cW,getElem?_cons_succ,IY,wh]at e;obtain⟨j,ej,e⟩:=e;cases hj:(G[j]?).join with
   |none=>rw[hj]at e;cases e
   |some mm =>
    rw[hj]at e;obtain⟨u,eu,Z⟩:=bo st hj;have a6:((lX js σ).set 0 (some ux))[i+1]?=some (some u):=by
     simp[lX,ej,eu]
    refine⟨u,a6,?_⟩;cases mm with
    |val w =>
     simp only[dw,ow]at e;subst e;exact Rep.mono hv _ Z
    |own ys =>
     simp only[dw,ow]at e;subst e;obtain⟨a,us,rfl,J,rs,hO,_⟩:=Z;exact⟨a,us,rfl,SqL.of (s1 _ _ J),Reps.mono hv _ rs⟩
    |brw ys =>
     simp only[dw,ow]at e;subst e;obtain⟨a,us,rfl,sq,rs⟩:=Z;exact⟨a,us,rfl,(st.keep.trans s1).seq sq,Reps.mono hv _ rs⟩
    |ownD kvs =>
     simp only[dw,ow]at e;subst e;obtain⟨a,rfl,J,_⟩:=Z;exact⟨a,rfl,.inl (s1 _ _ J)⟩
    |ownO _ fs ys =>
     simp only[dw,ow]at e;subst e;obtain⟨a,l,rfl,q⟩:=Z;exact⟨a,rfl,q.lent.move s1 hv⟩
    |brwO fs ys =>
     simp only[dw,ow]at e;subst e;obtain⟨a,rfl,q⟩:=Z;exact⟨a,rfl,q.move (st.keep.trans s1) hv⟩
    |brwD kvs =>
     simp only[dw,ow]at e;subst e;obtain⟨a,rfl,J⟩:=Z;exact⟨a,rfl,ag.rd (st.keep.trans s1) J⟩
def sP{cond elt:ME}(g:Gf X T k cal)(U:i9 X.env.scope X.N scope x (fk X.N js) js=true)
  (hw:PI X (.Name x px) it (tW X.K cal Z ms)) (Y:iE it=true)
  (hc:∀D J C fp,PF (X.blk x (fk X.N js) scope D J C fp) ifs (tT X.K cal cond)) (he:∀D J C fp,PE (X.blk x (fk X.N js) scope D J C fp) e (tE X.K cal elt)) (hb:aI elt=false) :
  PE X (.ListComp e [⟨.Name x px,it,ifs,0⟩] scope pos) (tF X.K cal (.comp Z ms js cond elt)):=by
 refine(Ao (nU U) g.calm hw hc he (by intro v;cases it<;>first|rfl|(injection Y))).imp λσ H Q q=>?_
 exact comp_go hb q
where
 comp_go {k':Sk}{ms:List ME}{js:List Nat}{cond elt:ME}{K:LI}{σ:St}{H:Hp}{Q:VK} (hb:aI elt=false) (q:tF K cal (.comp k' ms js cond elt) σ H Q):xF (tW K cal k' ms) js (tT K cal cond) (tE K cal elt) σ H Q:=by
  refine bY λZq kq=>?_
  refine bc q λB E O G ws st e1 q=>?_
  rw[ev]at e1;simp only[i1]at e1;obtain⟨vs,e1,xs,e2,e3⟩:=e1;refine kq ?_;split at e3
  .rename_i hlen;refine⟨B,E,O,G,vs,xs,st,e1,e2,λJ H1 s1 it D hD=>?_⟩;have hDO:D∉O:=λz=>bH s1 st.here D z hD
   have it1:=it.weak (qX (st.keep.trans s1));refine⟨λi m σ' H'=>m=xs.length-i/\i<=xs.length/\ag H1 H'/\(∀z,σ'.set 0 z=(lX js σ).set 0 z)/\0<σ'.length/\∃done cO ys,ff (λx=>(ev cal cond (cW js G x)).bind aS) (λx=>ev cal elt (cW js G x)) (xs.drop i)=some cO/\ws=done++cO/\done.length<=i/\H' D=some (.lst ys)/\Reps K (ak H' (D::O)) done ys,⟨xs.length,by simp,IW _,bf hD _,λ_=>rfl,by simp[lX],[],ws,[],by simpa using e3,rfl,pd _,ar,.nil⟩,?_⟩;rintro i m σ' H' ⟨rfl,hi,s2,hσ,hl,done,cO,ys,eg,ew,hdl,hDy,rs⟩;by_cases hlt:i<xs.length
   .right;have ex:=IP hlt;refine⟨it1.go i _ H' s2 ex,λσ2 H2=>∃m',m'<xs.length-i/\(m'=xs.length-(i+1)/\i+1<=xs.length/\ag H1 H2/\(∀z,σ2.set 0 z=(lX js σ).set 0 z)/\0<σ2.length/\∃done cO ys,ff (λx=>(ev cal cond (cW js G x)).bind aS) (λx=>ev cal elt (cW js G x)) (xs.drop (i+1))=some cO/\ws=done++cO/\done.length<=i+1/\H2 D=some (.lst ys)/\Reps K (ak H2 (D::O)) done ys),λσ2 H2 z=>z,λux H2 y=>?_⟩;obtain⟨s3,hr⟩:=it1.yld i _ H' ux H2 s2 ex y;have sv:ag (ak H1 O) (ak H2 (D::O)):=aV (s2.trans s3) λb hb=>by
     rcases rb.mp hb with rfl|hb
     .exact .inr hD
     .exact .inl hb
    have hx:=hr (D::O) (λa ha=>by
     rcases rb.mp ha with rfl|ha
     .rw[hDy];simp
     .exact λz=>bH s1 st.here a ha (s2.free z)) sv
    have hD2:=s3 _ _ hDy;have stb:=DM (js:=js) (G:=G) st s1 (s2.trans s3) hD (by rw[hD2];simp) hσ hl hx;rw[Kt hlt,ff]at eg;simp only[i1]at eg;obtain⟨b,eb,eg⟩:=eg;refine⟨H1,[],D::O,_,b,stb,by simpa[evB,i1]using eb,λH3 s4=>?_⟩;have hσ2:∀z,(σ'.set 0 (some ux)).set 0 z=(lX js σ).set 0 z:=λz=>by rw[set_set];exact hσ z
    have hl2:0<(σ'.set 0 (some ux)).length:=by rw[JS];exact hl
    cases b with
    |false =>
     dsimp only;rw[if_neg (by simp)];refine⟨_,by omega,rfl,hlt,(s2.trans s3).trans s4,hσ2,hl2,done,cO,ys,eg,ew,by exact(IK ‹_› (JV _ _)),s4 _ _ hD2,Reps.mono ?_ _ rs⟩;exact(ah s3).trans (ah s4)
    |true =>
     rw[if_pos rfl]at eg;dsimp only;rw[if_pos rfl];refine bY λZq kq=>?_
     simp only[i1,wh]at eg;obtain⟨y',ey,rest',eg,rfl⟩:=eg;refine kq ?_;refine⟨H1,[],D::O,_,y',stb.mono s4,ey,λuy H4 s5 gy=>?_⟩;have hD4:=s5 _ _ (s4 _ _ hD2);have ry:=gy.2 hb;have rs4:=Reps.mono (((ah s3).trans (ah s4)).trans (ah s5)) _ rs;have hyl:ys.length<=10000:=by rw[<- rs.length];omega
     refine⟨ys,hD4,Jc hyl (by decide),_,by omega,rfl,hlt,?_,hσ2,hl2,done++[y'],rest',ys++[uy],eg,by simp[ew],by simp;omega,ar,?_⟩
     .intro b u eb;rw[al (aR eb hD)];exact s5 _ _ (s4 _ _ ((s2.trans s3) _ _ eb))
     .rw[jn (Jz)];exact rs4.snoc ry
   .left;have ei:i=xs.length:=by omega
    subst ei;rw[drop_length,ff]at eg;cases eg;rw[JW]at ew;subst ew;exact⟨it1.stop H' s2,q D ys H' (s1.trans s2) (s1.free hD) hDy rs⟩
  .exact aP e3
def bA(q:az e=true)(es)(env):starEach (e::es) env=(false,eval e env)::starEach es env:=by
 cases e<;>first|rfl|(injection q)
theorem bC :∀{es},es.all az=true->(backTo pos (starEach es env)).any (·.1)=false
 | [],_=>rfl
 |e::es,h=>by
  simp only[all_cons,oe]at h;rw[bA h.1];show(false||(backTo pos (starEach es env)).any (·.1))=false;rw[bC h.2];rfl
theorem a7:∀{ms}{N}{sc}{es},chks T ms N sc es=true->es.all az=true/\ms.length=es.length
 | [],_,_,[],_=>⟨rfl,rfl⟩
 | [],_,_,_::_,h=>by simp[chks]at h
 | _::_,_,_,[],h=>by simp[chks]at h
 |m::ms,N,sc,e::es,h=>by
  simp[chks]at h;obtain⟨h1,h2⟩:=a7 h.2;exact⟨by simp[h.1.2,h1],by simp[h2]⟩
def aY(h:PE X e (tE X.K cal Y))(J:v0 e=true):PT X e (tT X.K cal Y):=by
 refine(Cu h (by intro w;cases e<;>first|rfl|(injection J;done)|(rename_i op _ _;cases op<;>first|rfl|(injection J)))).imp λσ H Q q=>?_
 refine bc q λB E O G b st D q=>?_
 simp[evB,i1]at D;obtain⟨v,D,U⟩:=D;refine⟨B,E,O,G,v,st,D,λu H' s g=>?_⟩;cases v<;>simp[aS]at U
 subst U;exact⟨_,g.1.bl,q H' s⟩
def ym(h:PE X e (tE X.K cal m))(hs:PA X es (tEs X.K cal ms))(hn:az e=true):PA X (e::es) (tEs X.K cal (m::ms)):=by
 refine(bm h hs (bA hn es _)).imp λσ H Q q=>?_
 refine bc q λB E O G vs st D q=>?_
 simp[evs,i1,wh]at D;obtain⟨v,D,ws,e2,rfl⟩:=D;refine⟨B,E,O,G,v,st,D,λu H1 s1 Y=>⟨B,E,O,G,ws,st.mono s1,e2,λus H2 J Z=>q _ H2 (s1.trans J) ⟨.cons (Y.1.mono J) Z.1,λU=>?_⟩⟩⟩;simp only[all_cons,oe,Jb]at U;exact .cons ((Y.mono J).2 U.1) (Z.2 U.2)
def AO:PA X [] (tEs X.K cal []):=by
 refine b6.imp λσ H Q q=>?_
 refine bc q λB E O G vs st D q=>?_
 simp only[evs,ow]at D;subst D;exact q [] H (ag.refl H) ⟨.nil,λ_=>.nil⟩
def yn:PA X [] (tAs X.K cal []):=by
 refine b6.imp λσ H Q q=>?_
 refine bc q λB E O G vs st D q=>?_
 simp only[evA,ow]at D;subst D;exact q [] H (ag.refl H) .nil
def yo{K:LI}{H H':Hp}{O:List Addr}(s:ag H H'){m:MV}{u:V}(h:eG K O H m u):eG K O H' m u:=by
 cases m with
 |val v=>exact Rep.mono (ah s) _ h
 |own _=>exact h
 |brw xs=>obtain⟨a,us,e,q,r⟩:=h;exact⟨a,us,e,s.seq q,Reps.mono (ah s) _ r⟩
 |ownD _=>exact h
 |ownO _ _ _=>exact h
 |brwO fs xs=>obtain⟨a,e,q⟩:=h;exact⟨a,e,q.move s (ah s)⟩
 |brwD kvs=>obtain⟨a,e,q⟩:=h;exact⟨a,e,ag.rd s q⟩
def v7(J:aI m=false)(h:PE X e (tE X.K cal m))(Y:PA X es (tAs X.K cal ms))(hn:az e=true):PA X (e::es) (tAs X.K cal (m::ms)):=by
 refine(bm h Y (bA hn es _)).imp λσ H Q q=>?_
 refine bc q λB E O G vs st Z q=>?_
 have D:(ev cal m G).bind (λv=>(evA cal ms G).map (MV.val v::·))=some vs:=by
  rw[<- Z];cases m<;>first|(exact vm J;done)|(simp;done)|rfl
 simp[i1]at D;obtain⟨v,e9,ws,e2,rfl⟩:=D;exact⟨B,E,O,G,v,st,e9,λu H1 s1 g1=>⟨B,E,O,G,ws,st.mono s1,e2,λus H2 U g2=>q _ H2 (s1.trans U) (.cons ((g1.mono U).2 J) g2)⟩⟩
def yp{i:Nat}{ms:List ME}{x:Str}{pos:Pos}{es:List Expr}(h:au X.N X.env.scope i x=true)(hs:PA X es (tAs X.K cal ms)):PA X (.Name x pos::es) (tAs X.K cal (.bor i::ms)):=by
 refine(bm (bn h) hs rfl).imp λσ H Q q=>?_
 obtain⟨B,E,O,G,vs,st,D,q⟩:=q;rw[evA]at D;simp only[i1,wh]at D;obtain⟨m',D,ws,e2,rfl⟩:=D;cases Y:(G[i]?).join with
 |none=>rw[Y]at D;cases D
 |some m =>
  rw[Y]at D;obtain⟨u,eu,J⟩:=bo st Y;have ao:eG X.K O H m' u:=by
   cases m with
   |val w=>simp only[cR,ow]at D;subst D;exact J
   |own ys=>simp only[cR,ow]at D;subst D;obtain⟨a,us,rfl,U,Z,_⟩:=J;exact⟨a,us,rfl,SqL.of U,Z⟩
   |brw ys=>simp only[cR,ow]at D;subst D;obtain⟨a,us,rfl,sq,Z⟩:=J;exact⟨a,us,rfl,st.keep.seq sq,Z⟩
   |ownD kvs=>simp only[cR,ow]at D;subst D;obtain⟨a,rfl,U,_⟩:=J;exact⟨a,rfl,.inl U⟩
   |ownO _ fs ys=>simp only[cR,ow]at D;subst D;obtain⟨a,l,rfl,q⟩:=J;exact⟨a,rfl,q.lent⟩
   |brwO fs ys=>simp only[cR,ow]at D;subst D;obtain⟨a,rfl,q⟩:=J;exact⟨a,rfl,q.move st.keep (ag.refl _)⟩
   |brwD kvs=>simp only[cR,ow]at D;subst D;obtain⟨a,rfl,U⟩:=J;exact⟨a,rfl,ag.rd st.keep U⟩
  exact⟨u,eu,⟨B,E,O,G,ws,st,e2,λus H2 s2 g2=>q (u::us) H2 s2 (.cons (yo s2 ao) g2)⟩⟩
def Gk(U:PE X l (tE X.K cal a))(Y:PE X r (tE X.K cal b)):PE X (.BinOp l (Dn op) r pos) (tE X.K cal (.bin op a b)):=by
 refine(FF (Dz op) U Y).imp λσ H Q q=>?_
 refine bc q λB E O G v st D q=>?_
 rw[ev]at D;simp only[i1]at D;obtain⟨x,D,y,Z,e3⟩:=D;exact⟨B,E,O,G,x,st,D,λux H1 s1 g1=>⟨B,E,O,G,y,st.mono s1,Z,λuy H2 J g2=>⟨O,x,y,v,bH (s1.trans J) st.here,g1.1.mono J,g2.1,e3,λu H3 s3 r=>q u H3 ((s1.trans J).trans s3) (.of r)⟩⟩⟩
def Gm(U:PE X e (tE X.K cal a)):PE X (.UnaryOp .Not e pos) (tE X.K cal (.not a)):=by
 refine(CA U).imp λσ H Q q=>?_
 refine bc q λB E O G v st D q=>?_
 rw[ev]at D;simp only[i1,wh]at D;obtain⟨b,⟨x,D,J⟩,rfl⟩:=D;cases x<;>simp[aS,ow,reduceCtorEq]at J
 subst J;exact⟨B,E,O,G,_,st,D,λZ H1 s1 Y=>⟨_,Y.1.bl,q _ H1 s1 (.of (de _ _))⟩⟩
def Gn(U:PT X e (tT X.K cal a)):PT X (.UnaryOp .Not e pos) (tT X.K cal (.not a)):=by
 refine(Cy U).imp λσ H Q q=>?_
 refine bc q λB E O G b st D q=>?_
 simp only[evB,ev,i1,wh]at D;obtain⟨v,⟨c,⟨x,D,Y⟩,rfl⟩,J⟩:=D;simp only[aS,ow]at J;subst J;exact⟨B,E,O,G,c,st,by simp[evB,D,Y],λH' s=>q H' s⟩
def B4(Z:PE X x (tE X.K cal a))(hb:PE X (.BoolOp .And (y::r) pos) (tE X.K cal b)):PE X (.BoolOp .And (x::y::r) pos) (tE X.K cal (.and a b)):=by
 refine(Cz Z hb).imp λσ H Q q=>?_
 refine bc q λB E O G v st J q=>?_
 rw[ev]at J;simp only[i1]at J;obtain⟨c,⟨z,J,U⟩,D⟩:=J;cases z<;>simp[aS,ow,reduceCtorEq]at U
 subst U;refine⟨B,E,O,G,_,st,J,λux H1 s1 g1=>⟨_,g1.1.bl,?_⟩⟩;split at D
 .rename_i h;rw[if_pos h];simp only[i1,wh]at D;obtain⟨z',D,c',Y,rfl⟩:=D;cases z'<;>simp[aS,ow,reduceCtorEq]at Y
  subst Y;exact⟨B,E,O,G,_,st.mono s1,D,λu H2 s2 g2=>q u H2 (s1.trans s2) (by rw[g2.1.bl];exact .of (de _ _))⟩
 .rename_i h;rw[if_neg h];cases D;exact q _ H1 s1 (.of (de _ _))
def Go(Z:PE X x (tE X.K cal a))(hb:PE X (.BoolOp .Or (y::r) pos) (tE X.K cal b)):PE X (.BoolOp .Or (x::y::r) pos) (tE X.K cal (.or a b)):=by
 refine(Fz Z hb).imp λσ H Q q=>?_
 refine bc q λB E O G v st J q=>?_
 rw[ev]at J;simp only[i1]at J;obtain⟨c,⟨z,J,U⟩,D⟩:=J;cases z<;>simp[aS,ow,reduceCtorEq]at U
 subst U;refine⟨B,E,O,G,_,st,J,λux H1 s1 g1=>⟨_,g1.1.bl,?_⟩⟩;split at D
 .rename_i h;rw[if_pos h];cases D;exact q _ H1 s1 (.of (de _ _))
 .rename_i h;rw[if_neg h];simp only[i1,wh]at D;obtain⟨z',D,c',Y,rfl⟩:=D;cases z'<;>simp[aS,ow,reduceCtorEq]at Y
  subst Y;exact⟨B,E,O,G,_,st.mono s1,D,λu H2 s2 g2=>q u H2 (s1.trans s2) (by rw[g2.1.bl];exact .of (de _ _))⟩
def B5(h:PT X (.BoolOp op vs pos) t):PW X (.BoolOp op vs pos) t:=λw pins s σ H Q I q=>by
 have:=h pins s σ H Q I q;exact this
def B6(Y:PT X x (tT X.K cal a))(Z:PW X (.BoolOp .And (y::r) pos) (tT X.K cal b)):PT X (.BoolOp .And (x::y::r) pos) (tT X.K cal (.and a b)):=by
 refine(Cw Y Z).pt.imp λσ H Q q=>?_
 refine bc q λB E O G v st J q=>?_
 simp only[evB,ev,i1]at J;obtain⟨w,⟨c,⟨z,J,e2⟩,D⟩,U⟩:=J;refine⟨B,E,O,G,c,st,by simp[evB,J,e2],λH1 s1=>?_⟩;split at D
 .rename_i h;rw[if_pos h];simp only[i1,wh]at D;obtain⟨z',D,c',e5,rfl⟩:=D;simp only[aS,ow]at U;subst U;exact⟨B,E,O,G,_,st.mono s1,by simp[evB,D,e5],λH2 s2=>q H2 (s1.trans s2)⟩
 .rename_i h;rw[if_neg h];cases D;cases U;exact q H1 s1
def Gp(Y:PT X x (tT X.K cal a))(Z:PW X (.BoolOp .Or (y::r) pos) (tT X.K cal b)):PT X (.BoolOp .Or (x::y::r) pos) (tT X.K cal (.or a b)):=by
 refine(Fw Y Z).pt.imp λσ H Q q=>?_
 refine bc q λB E O G v st J q=>?_
 simp only[evB,ev,i1]at J;obtain⟨w,⟨c,⟨z,J,e2⟩,D⟩,U⟩:=J;refine⟨B,E,O,G,c,st,by simp[evB,J,e2],λH1 s1=>?_⟩;split at D
 .rename_i h;rw[if_pos h];cases D;cases U;exact q H1 s1
 .rename_i h;rw[if_neg h];simp only[i1,wh]at D;obtain⟨z',D,c',e5,rfl⟩:=D;simp[aS,ow]at U;subst U;exact⟨B,E,O,G,_,st.mono s1,by simp[evB,D,e5],λH2 s2=>q H2 (s1.trans s2)⟩
def Gq(hc:PT X t (tT X.K cal c))(Z:PE X x (tE X.K cal a))(hb:PE X y (tE X.K cal b))(na:aI a=false)(nb:aI b=false):PE X (.IfExp t x y pos) (tE X.K cal (.ite c a b)):=by
 refine(wV hc Z hb).imp λσ H Q q=>?_
 refine bc q λB E O G v st D q=>?_
 rw[ev]at D;simp only[i1]at D;refine ae D λk' D J=>?_
 refine⟨B,E,O,G,k',st,by simpa[evB,i1]using D,λH1 s1=>?_⟩;split at J
 .rename_i h;rw[if_pos h];exact⟨B,E,O,G,v,st.mono s1,J,λu H2 U Y=>q u H2 (s1.trans U) (.of (Y.2 na))⟩
 .rename_i h;rw[if_neg h];exact⟨B,E,O,G,v,st.mono s1,J,λu H2 U Y=>q u H2 (s1.trans U) (.of (Y.2 nb))⟩
def Gr(hc:PT X t (tT X.K cal c))(ha:PT X x (tT X.K cal a))(hb:PT X y (tT X.K cal b)):PT X (.IfExp t x y pos) (tT X.K cal (.ite c a b)):=by
 intro pins s σ H Q I q;refine bY λZq kq=>?_
 refine bc q λB E O G v st D q=>?_
 simp only[evB,ev,i1]at D;obtain⟨w,⟨Z,D,U⟩,e4⟩:=D;refine kq ?_;refine isTrue_IfExp (thn (hc pins s σ H (λb H1=>b=Z/\ag H H1) I ⟨B,E,O,G,Z,st,by simpa[evB,i1]using D,λH1 s1=>⟨rfl,s1⟩⟩) λb s1 hq=>aM hq λH1 I1 eb J=>?_);subst eb;split at U
 .rename_i h;subst h;exact ha pins s1 σ H1 Q I1 ⟨B,E,O,G,v,st.mono J,by simp[evB,U,e4],λH2 Y=>q H2 (J.trans Y)⟩
 .rename_i h;have:b=false:=by cases b<;>simp at h ⊢
  subst this;exact hb pins s1 σ H1 Q I1 ⟨B,E,O,G,v,st.mono J,by simp[evB,U,e4],λH2 Y=>q H2 (J.trans Y)⟩
def Gs(g:Gf X T k cal)(ha:PE X l (tE X.K cal a))(hb:PE X r (tE X.K cal b))(hm:behindInMarks (gi op) r=false):PE X (.Compare l [gi op] [r] pos) (tE X.K cal (.cmp op a b))/\PT X (.Compare l [gi op] [r] pos) (tT X.K cal (.cmp op a b)):=by
 refine⟨(t6 (gk g.units op) ha hb hm).imp λσ H Q q=>?_,(oG (gk g.units op) ha hb hm).imp λσ H Q q=>?_⟩
 .refine bc q λB E O G v st D q=>?_
  rw[ev]at D;simp only[i1,wh]at D;obtain⟨x,D,y,U,c,Y,rfl⟩:=D;exact⟨B,E,O,G,x,st,D,λux H1 s1 Z=>⟨B,E,O,G,y,st.mono s1,U,λuy H2 J g2=>⟨O,x,y,c,Z.1.mono J,g2.1,Y,q _ H2 (s1.trans J) (.of (de _ _))⟩⟩⟩
 .refine bc q λB E O G v st D q=>?_
  simp only[evB,ev,i1,wh]at D;obtain⟨w,⟨x,D,y,U,c,Y,rfl⟩,e4⟩:=D;simp[aS,ow]at e4;subst e4;exact⟨B,E,O,G,x,st,D,λux H1 s1 Z=>⟨B,E,O,G,y,st.mono s1,U,λuy H2 J g2=>⟨O,x,y,c,Z.1.mono J,g2.1,Y,_,rfl,q H2 (s1.trans J)⟩⟩⟩
def AQ(g:Gf X T k cal)(ha:PE X l (tE X.K cal a))(hb:PE X m (tE X.K cal b))(hc:PE X r (tE X.K cal c))(hm:lastMarks [gi op,gi D] [m,r]=false) :
  PE X (.Compare l [gi op,gi D] [m,r] pos) (tE X.K cal (.chain op D a b c))/\PT X (.Compare l [gi op,gi D] [m,r] pos) (tT X.K cal (.chain op D a b c)):=by
 refine⟨(w5 (gk g.units op) (gk g.units D) ha hb hc hm).imp λσ H Q q=>?_,(w8 (gk g.units op) (gk g.units D) ha hb hc hm).imp λσ H Q q=>?_⟩
 .refine bc q λB E O G v st U q=>?_
  rw[ev]at U;simp only[i1]at U;obtain⟨x,U,y,e2,c',e3,J⟩:=U;refine⟨B,E,O,G,x,st,U,λux H1 s1 g1=>⟨B,E,O,G,y,st.mono s1,e2,λuy H2 Y Z=>⟨O,x,y,c',g1.1.mono Y,Z.1,e3,_,rfl,?_⟩⟩⟩;split at J
  .rename_i h;rw[if_pos h];simp only[i1,wh]at J;obtain⟨z,J,d,e5,rfl⟩:=J;exact⟨B,E,O,G,z,(st.mono s1).mono Y,J,λuz H3 s3 g3=>⟨O,y,z,d,Z.1.mono s3,g3.1,e5,q _ H3 ((s1.trans Y).trans s3) (.of (de _ _))⟩⟩
  .rename_i h;rw[if_neg h];cases J;exact q _ H2 (s1.trans Y) (.of (de _ _))
 .refine bc q λB E O G v st U q=>?_
  simp only[evB,ev,i1]at U;obtain⟨w,⟨x,U,y,e2,c',e3,J⟩,e6⟩:=U;refine⟨B,E,O,G,x,st,U,λux H1 s1 g1=>⟨B,E,O,G,y,st.mono s1,e2,λuy H2 Y Z=>⟨O,x,y,c',g1.1.mono Y,Z.1,e3,_,rfl,?_⟩⟩⟩;split at J
  .rename_i h;rw[if_pos h];simp only[i1,wh]at J;obtain⟨z,J,d,e5,rfl⟩:=J;simp only[aS,ow]at e6;subst e6;exact⟨B,E,O,G,z,(st.mono s1).mono Y,J,λuz H3 s3 g3=>⟨O,y,z,d,Z.1.mono s3,g3.1,e5,_,rfl,q H3 ((s1.trans Y).trans s3)⟩⟩
  .rename_i h;rw[if_neg h];cases J;cases e6;exact⟨_,rfl,q H2 (s1.trans Y)⟩
def Gu(h:PA X es (tEs X.K cal ms))(U:(ms.all λm=>!aI m)=true):PE X (.Tuple es j pos) (tE X.K cal (.tup ms)):=by
 refine(CN h).imp λσ H Q q=>?_
 refine bc q λB E O G v st D q=>?_
 rw[ev]at D;simp only[i1]at D;obtain⟨vs,D,J⟩:=D;split at J
 .rename_i hl;cases J;refine⟨B,E,O,G,vs,st,D,λus H1 s1 Y=>⟨?_,λp Z=>?_⟩⟩
  .rw[<- (Y.2 U).length];exact fZ hl
  .exact q _ _ (s1.trans (bf Z _)) (.of (jg (bH s1 st.here) Z (Y.2 U)))
 .exact aP J
def B7(h:PA X es (tEs X.K cal ms))(D:(ms.all λm=>!aI m)=true):PE X (.List es pos) (tF X.K cal (.lst ms)):=by
 refine(oK h).imp λσ H Q q=>?_
 refine bc q λB E O G xs st J q=>?_
 rw[ev]at J;simp only[i1]at J;refine ae J λvs J U=>?_
 split at U
 .rename_i hl;cases U;refine⟨B,E,O,G,xs,st,J,λus H1 s1 Z=>⟨?_,λp Y=>?_⟩⟩
  .rw[<- (Z.2 D).length];exact fZ hl
  .refine q p us _ (s1.trans (bf Y _)) (s1.free Y) ar ?_;rw[jn (Jz)];refine Reps.mono (aV (ag.refl H1) λb D=>?_) _ (Z.2 D);rcases rb.mp D with rfl|D
   .exact .inr Y
   .exact .inl D
 .exact aP U
def Gv(U:PE X v (tE X.K cal a))(hi:PE X s (tE X.K cal i))(Y:fj s=true):PE X (.Subscript v s pos) (tE X.K cal (.idx a i)):=by
 refine(xi DC U hi (sN Y)).imp λσ H Q q=>?_
 refine bc q λB E O G v st D q=>?_
 rw[ev]at D;simp[i1]at D;obtain⟨x,D,y,Z,e3⟩:=D;exact⟨B,E,O,G,x,st,D,λux H1 s1 g1=>⟨B,E,O,G,y,st.mono s1,Z,λuy H2 J g2=>⟨O,x,y,v,bH (s1.trans J) st.here,g1.1.mono J,g2.1,e3,λu H3 s3 r=>q u H3 ((s1.trans J).trans s3) (.of r)⟩⟩⟩
noncomputable def tB1(K:LI)(cal:Cal)(q:ME):TO:=λσ H Q=>∃B E O G o,aK K B E O H G σ/\((ev cal q G).bind λv=>bnd q v)=some o/\∀H',ag H H'->Q o H'
def DN(h:jP m=true):PO X none (tB1 X.K cal m):=by
 have e:m=.cst .non:=by
  unfold jP at h;split at h
  .rfl
  .exact dO h
 subst e;intro pins s σ H Q I q;refine bY λU J=>?_
 refine bc q λB E O G o st D q=>?_
 simp[ev,bind_some,bnd]at D;subst D;refine J ?_;exact Aa pins s σ H Q I (q H (ag.refl H))
def DO(h:PE X l (tE X.K cal m))(hn:jP m=false):PO X (some l) (tB1 X.K cal m):=by
 intro pins s σ H Q I q;refine bY λY U=>?_
 refine bc q λB E O G o st D q=>?_
 simp[i1]at D;obtain⟨v,D,J⟩:=D;obtain⟨i,rfl,rfl⟩:∃i,v=.int i/\o=some i:=by
  unfold bnd at J;split at J
  .injection hn
  .simp_all
  .exact aP J
 refine U ?_;exact Ab h pins s σ H Q I ⟨B,E,O,G,_,st,D,λu H' s' g=>⟨i,g.1.int,q H' s'⟩⟩
def AR{a lo hi:ME}{p2 pos:Pos}(ha:PE X v (tE X.K cal a))(hl:PO X l (tB1 X.K cal lo))(hu:PO X u (tB1 X.K cal hi)):PE X (.Subscript v (.Slice l u none p2) pos) (tE X.K cal (.slice a lo hi)):=by
 refine(xh DE ha hl hu).imp λσ H Q q=>?_
 refine bY λZq kq=>?_
 refine bc q λB E O G w st D q=>?_
 rw[ev,i1]at D;refine ae D λx D J=>?_
 rw[i1]at J;refine ae J λZ J U=>?_
 rw[i1]at U;refine ae U λao U e4=>?_
 refine kq ?_;exact⟨B,E,O,G,x,st,D,λux H1 s1 g1=>⟨B,E,O,G,Z,st.mono s1,J,λH2 Y=>⟨B,E,O,G,ao,(st.mono s1).mono Y,U,λH3 s3 =>
  ⟨O,x,w,bH ((s1.trans Y).trans s3) st.here,g1.1.mono (Y.trans s3),e4,λu H4 s4 r=>q u H4 (((s1.trans Y).trans s3).trans s4) (.of r)⟩⟩⟩⟩
def yq {id:String} (hc:bM X (.builtin id) (RBM X.K (aE f))) (U:glB X.env.scope x=true) (hm:X.mg x=none) (Y:bootBuiltins x=some (.builtin id)) (hn:x ≠ "__name__") (hd:(x==("__debug__":Str))=false)
  (Z:PA X (e::es) (tEs X.K cal ms)) (J:(e::es).all az=true):PE X (.Call (.Name x p) (e::es) [] pos) (tE X.K cal (.blt f ms)):=by
 simp only[all_cons,oe]at J;refine(gI hc (fz U) hm Y Z hn hd (bA J.1 es _) (bC J.2)).imp λσ H Q q=>?_
 refine bc q λB E O G v st D q=>?_
 rw[ev,i1]at D;refine ae D λvs D e2=>?_
 exact⟨B,E,O,G,vs,st,D,λus H1 s1 g1=>⟨O,vs,v,bH s1 st.here,g1.1,e2,λu H2 s2 r=>q u H2 (s1.trans s2) (.of r)⟩⟩
def sQ {id:String} (hc:bM X (.type id) (RBM X.K (aE f))) (U:glB X.env.scope x=true) (hm:X.mg x=none) (Y:bootBuiltins x=some (.type id)) (hn:x ≠ "__name__") (hd:(x==("__debug__":Str))=false)
  (Z:PA X (e::es) (tEs X.K cal ms)) (J:(e::es).all az=true):PE X (.Call (.Name x p) (e::es) [] pos) (tE X.K cal (.blt f ms)):=by
 simp only[all_cons,oe]at J;refine(hV hc (fz U) hm Y Z hn hd (bA J.1 es _) (bC J.2)).imp λσ H Q q=>?_
 refine bc q λB E O G v st D q=>?_
 rw[ev,i1]at D;refine ae D λvs D e2=>?_
 exact⟨B,E,O,G,vs,st,D,λus H1 s1 g1=>⟨O,vs,v,bH s1 st.here,g1.1,e2,λu H2 s2 r=>q u H2 (s1.trans s2) (.of r)⟩⟩
def nV{K:LI}(q:tF K cal (.blt f ms) σ H Q):tCB (RBF K (aE f)) (tEs K cal ms) σ H Q:=by
 refine bc q λB E O G xs st D q=>?_
 rw[ev,i1]at D;refine ae D λvs D U=>?_
 refine⟨B,E,O,G,vs,st,D,λus H1 s1 Y=>⟨O,vs,xs,bH s1 st.here,Y.1,U,λl ws hl r=>q l ws _ (s1.trans (bf hl _)) (s1.free hl) ar ?_⟩⟩;rw[jn (Jz)];refine Reps.mono (aV (ag.refl H1) λb J=>?_) _ r;rcases rb.mp J with rfl|J
 .exact .inr hl
 .exact .inl J
def DP {id:String} (hc:bM X (.builtin id) (RBF X.K (aE f))) (J:glB X.env.scope x=true) (hm:X.mg x=none) (U:bootBuiltins x=some (.builtin id)) (hn:x ≠ "__name__") (hd:(x==("__debug__":Str))=false)
  (Y:PA X (e::es) (tEs X.K cal ms)) (D:(e::es).all az=true):PE X (.Call (.Name x p) (e::es) [] pos) (tF X.K cal (.blt f ms)):=by
 simp only[all_cons,oe]at D;exact(gI hc (fz J) hm U Y hn hd (bA D.1 es _) (bC D.2)).imp λσ H Q q=>nV q
def AS {id:String} (hc:bM X (.type id) (RBF X.K (aE f))) (J:glB X.env.scope x=true) (hm:X.mg x=none) (U:bootBuiltins x=some (.type id)) (hn:x ≠ "__name__") (hd:(x==("__debug__":Str))=false)
  (Y:PA X (e::es) (tEs X.K cal ms)) (D:(e::es).all az=true):PE X (.Call (.Name x p) (e::es) [] pos) (tF X.K cal (.blt f ms)):=by
 simp only[all_cons,oe]at D;exact(hV hc (fz J) hm U Y hn hd (bA D.1 es _) (bC D.2)).imp λσ H Q q=>nV q
def DQ{f:Nat}{ms:List ME}{x:Str}{es:List Expr}{p pos:Pos}(g:Gf X T k cal)(Y:T.fs[f]?=some x)(U:glB X.env.scope x=true)(hn:aF x=true)(Z:PA X es (tAs X.K cal ms))(J:es.all az=true)(hl:ms.length=es.length):PE X (.Call (.Name x p) es [] pos) (tE X.K cal (.call f ms)):=by
 obtain⟨fa,fd,ps,h1,h2,h3,F,_⟩:=g.fns f x Y hn;have key:∀σ H Q,tE X.K cal (.call f ms) σ H Q->lq (spM X.K cal f) [] E0 (tAs X.K cal ms) σ H Q:=λσ H Q q=>by
  obtain⟨B,E,O,G,v,st,D,q⟩:=q;rw[ev,i1]at D;obtain⟨vs,D,e2⟩:=D;refine⟨B,E,O,G,vs,st,D,λus H1 s1 g1=>⟨O,vs,v,bH s1 st.here,?_,e2,λu H2 s2 r=>q u H2 (s1.trans s2) (.of r)⟩⟩;rw[JW];exact g1
 cases es with
 |nil =>
  refine(xb F g.room (fz U) h1 h2 h3 .nil fW (kY hn).1).imp λσ H Q q=>?_
  obtain⟨B,E,O,G,vs,st,D,q⟩:=key σ H Q q;cases ms with
  |nil =>
   simp only[evA,ow]at D;subst D;exact q [] H (ag.refl H) .nil
  |cons m ms=>simp at hl
 |cons e es =>
  simp only[all_cons,oe]at J;exact(kS F g.room (fz U) h1 h2 h3 .nil fW Z (kY hn).1 (bA J.1 es _) (bC J.2)).imp key
end
section
variable{K:LI}{H:Hp}{O:List Addr}
end
section
variable{X:Cx}{pins:List (Addr×Obj)}{σ:St}{H:Hp}{s:Shared}
end
section
variable{X:Cx}{T:Tab}{k:Nat}{cal:Cal}
end
def yr:bootBuiltins "len"=some (.builtin "len"):=by decide +kernel
def qZ:bootBuiltins "tuple"=some (.type "tuple"):=by decide +kernel
def AT:bootBuiltins "list"=some (.type "list"):=by decide +kernel
def nW:bootBuiltins "sorted"=some (.builtin "sorted"):=by decide +kernel
def DS:bootBuiltins "any"=some (.builtin "any"):=by decide +kernel
def DU:bootBuiltins "all"=some (.builtin "all"):=by decide +kernel
def yt:bootBuiltins "int"=some (.type "int"):=by decide +kernel
def AU:bootBuiltins "bool"=some (.type "bool"):=by decide +kernel
def yu:bootBuiltins "set"=some (.type "set"):=by decide +kernel
def ng:bootBuiltins "isinstance"=some (.builtin "isinstance"):=by decide +kernel
section
variable{X:Cx}{T:Tab}{k:Nat}{cal:Cal}
def DV {p p2 pos:Pos} (g:Gf X T k cal) (U:dc f=some c) (hg:glB X.env.scope "isinstance"=true) (ht:t=(c:Str)) (Y:glB X.env.scope t=true)
  (Z:bootBuiltins c=some (.type c)) (ao:X.mg c=none) (hn:(c:Str) ≠ "__name__") (hd:((c:Str)==("__debug__":Str))=false) (h:PE X e (tE X.K cal m)) (hs:az e=true):PE X (.Call (.Name "isinstance" p) [e,.Name t p2] [] pos) (tE X.K cal (.blt f [m])):=by
 subst ht;refine(gI (DG U) (fz hg) (g.blt "isinstance" (by decide)) ng (bm h (bm (zU (v:=.ty c) (fz Y) ao Z rfl hn hd) b6 rfl) (bA hs _ _)) (by decide) (by decide) (bA hs _ _) rfl).imp λσ H Q q=>?_
 refine bc q λB E O G v st D q=>?_
 rw[ev,i1]at D;obtain⟨vs,D,J⟩:=D;refine ae (m_ D) λw aL e3=>?_
 subst aL;have e5:isD w=false/\v=.bl (isT f w):=by
  cases hd:isD w with
  |true=>cases f<;>simp[dc,reduceCtorEq]at U<;>(simp only[aE,cx,gN,gP,hd]at J;exact aP J)
  |false=>cases f<;>simp[dc,reduceCtorEq]at U<;>(simp[aE,cx,gN,gP,hd,Jw,KL,ow]at J;exact⟨rfl,J.symm⟩)
 obtain⟨e5,rfl⟩:=e5;refine⟨B,E,O,G,w,st,e3,λu H1 s1 g1=>⟨O,w,u,rfl,e5,g1.1,q _ H1 s1 (.of (de _ _))⟩⟩
def q_ {p p2 pos pos2:Pos} (g:Gf X T k cal) (hx:x=("sorted":Str)) (hy:y=("set":Str)) (hg:glB X.env.scope x=true) (U:glB X.env.scope y=true) (h:PE X e (tE X.K cal m)) (hs:az e=true):PE X (.Call (.Name x p) [.Call (.Name y p2) [e] [] pos2] [] pos) (tF X.K cal (.blt .sortedSet [m])):=by
 subst hx hy;refine(gI (qV g.calm) (fz hg) (g.blt "sorted" (by decide)) nW (bm (hV (B3 g.calm) (fz U) (g.blt "set" (by decide)) yu (bm h b6 (bA hs _ _)) (by decide) (by decide) (bA hs _ _) rfl) b6 rfl) (by decide) (by decide) rfl rfl).imp λσ H Q q=>?_
 refine bY λZq kq=>?_
 refine bc q λB E O G xs st J q=>?_
 rw[ev,i1]at J;obtain⟨vs,J,e2⟩:=J;refine ae (m_ J) λw Y e3=>?_
 subst Y;simp only[aE,cx,kL,gN,gP,i1]at e2;obtain⟨ys,e4,ns,e5,Z⟩:=e2;refine kq ?_;split at Z
 .rename_i hc;cases Z;refine⟨B,E,O,G,w,st,e3,λu H1 s1 g1=>⟨O,w,u,ns,rfl,g1.1,by simp[e4,e5],hc.1,λl hl=>⟨l,_,rfl,ar,?_,λp' D=>?_⟩⟩⟩
  .rw[yh];exact hc.2
  .rw[AK];refine q p' _ _ ((s1.trans (bf hl _)).trans (bf D _)) (s1.free ((bf hl _).free D)) ar (.of_ints _)
 .exact aP Z
def yw {p p2 pos pos2:Pos} (g:Gf X T k cal) (hx:x=("len":Str)) (hy:y=("set":Str)) (hg:glB X.env.scope x=true) (J:glB X.env.scope y=true) (h:PE X e (tE X.K cal m)) (Z:az e=true):PE X (.Call (.Name x p) [.Call (.Name y p2) [e] [] pos2] [] pos) (tE X.K cal (.blt .lenSet [m])):=by
 subst hx hy;refine(gI o3 (fz hg) (g.blt "len" (by decide)) yr (bm (hV (B3 g.calm) (fz J) (g.blt "set" (by decide)) yu (bm h b6 (bA Z _ _)) (by decide) (by decide) (bA Z _ _) rfl) b6 rfl) (by decide) (by decide) rfl rfl).imp λσ H Q q=>?_
 refine bY λZq kq=>?_
 refine bc q λB E O G v st D q=>?_
 rw[ev,i1]at D;obtain⟨vs,D,e2⟩:=D;refine ae (m_ D) λw U e3=>?_
 subst U;simp only[aE,cx,kL,gN,gP,i1]at e2;obtain⟨ys,e4,ns,e5,Y⟩:=e2;refine kq ?_;split at Y
 .rename_i hc;cases Y;refine⟨B,E,O,G,w,st,e3,λu H1 s1 g1=>⟨O,w,u,ns,rfl,g1.1,by simp[e4,e5],hc,λl hl=>⟨l,_,rfl,ar,?_⟩⟩⟩;rw[yh];exact q _ _ (s1.trans (bf hl _)) (.of (bZ _ _))
 .exact aP Y
def DW {m:ME}{b:Bool}{o:Expr}{x:Str}{j:Nat}{p pos:Pos} (g:Gf X T k cal) (hx:x=if b=true then("weaver":Str)else("moth":Str)) (h:PE X o (tE X.K cal m)):PE X (.Subscript o (.Constant (.str x) j p) pos) (tE X.K cal (.datL m b)):=by
 have hu:X.A.units+1<cLine:=by have:=g.units;omega
 refine(kU hu h gF (λ_ _=>rfl)).imp λσ H Q q=>?_
 obtain⟨B,E,O,G,v,st,D,q⟩:=q;rw[ev,i1]at D;obtain⟨w,D,Y⟩:=D;cases w with
 |dL w m =>
  cases Y;refine⟨B,E,O,G,_,st,D,λu H1 s1 g1=>?_⟩;have r:=g1.1.dL;rw[Rep]at r;obtain⟨a,Z,l2,J,U,rfl,h1,h2,h3,h4,h5⟩:=r;have h1:=ba H1 O _ _ h1;subst hx;cases b with
  |true=>exact⟨a,.ref Z,rfl,.inl ⟨_,Sum.inr "weaver",.inl h1,rfl,rfl⟩,q _ H1 s1 (.of (by rw[if_pos rfl,Rep];exact⟨Z,J,rfl,h2,h3⟩))⟩
  |false=>exact⟨a,.ref l2,rfl,.inl ⟨_,Sum.inr "moth",.inl h1,rfl,rfl⟩,q _ H1 s1 (.of (by rw[if_neg (by decide),Rep];exact⟨l2,U,rfl,h4,h5⟩))⟩
 | _=>cases Y
theorem my :∀{kvs}{ks}{vs},ml kvs ks vs=true->PPs X kpos ks vs (kvs.map λp=>(tC (.str p.1),tC (.str p.2)))/\ks.all (·.isSome)=true/\ks.length=vs.length/\ks.length=kvs.length
 | [],[],[],_=>⟨ub,rfl,rfl,rfl⟩
 |p::r,k::ks,v::vs,h=>by
  obtain⟨a,h3⟩:=mu.mp h;obtain⟨h1,h2⟩:=mu.mp a;obtain⟨q,D,J,U⟩:=my (kpos:=kpos) h3;cases k with
  |none=>cases h1
  |some k =>
   obtain⟨j,kp,rfl⟩:=pf (eq_of_beq h1);obtain⟨Y,Z,rfl⟩:=pf (eq_of_beq h2);exact⟨lD gF gF q,by rw[all_cons,D];rfl,by rw[length_cons,length_cons,J],by rw[length_cons,length_cons,U]⟩
 | [],_::_,_,h=>by cases h
 | [],[],_::_,h=>by cases h
 | _::_,[],_,h=>by cases h
 | _::_,_::_,[],h=>by cases h
theorem mz{σ:St}:∀{kvs:List (Str×Str)}{H}{Q},Q (kvs.map λp=>(V.str p.1,V.str p.2)) H->oS (kvs.map λp=>(tC (.str p.1),tC (.str p.2))) σ H Q
 | [],_,_,h=>h
 |p::r,H,Q,h=>mz (kvs:=r) (Q:=λps q=>Q ((V.str p.1,V.str p.2)::ps) q) h
def DX(g:Gf X T k cal)(hd:ml kvs ks vs=true)(hl:kvs.length<=15)(h0:kvs.isEmpty=false)(hk:PE X i (tE X.K cal m))(hs:fj i=true):PE X (.Subscript (.Dict ks vs dp) i pos) (tE X.K cal (.disp kvs m)):=by
 have hu:X.A.units+1<cLine:=by have:=g.units;omega
 obtain⟨q1,q2,q3,q4⟩:=my (X:=X) (kpos:=dp) hd;have hn:ks≠[]:=λz=>by
  grind
 refine(kU hu (oT q1 q2 q3 hn (by omega)) hk (by cases i<;>first|(intro _ _;rfl)|(simp[fj]at hs))).imp λσ H Q q=>?_
 obtain⟨B,E,O,G,v,st,D,q⟩:=q;rw[ev,i1]at D;obtain⟨w,D,U⟩:=D;cases w with
 |str x =>
  have J:(iu (d4 [] (iq kvs)) (Sum.inr x)).bind (λv=>match v with|.str y=>some (PV.str y)|_=>none)=some v:=U;rw[i1]at J;obtain⟨u,J,Y⟩:=J;cases u with
  |str y =>
   cases Y;intro p hp;refine mz ⟨ar,iq kvs,by unfold iq;rw[IZ];rfl,by unfold iq;rw[ox];exact hl,?_⟩;have s1:ag H (upd (upd H p (.dK [])) p (.dK (d4 [] (iq kvs)))):=λb o e=>by
    have Z:b≠p:=λz=>by rw[z,hp]at e;cases e
    rw[al Z,al Z];exact e
   refine⟨B,E,O,G,_,st.mono s1,D,λuy H2 s2 g2=>?_⟩;have ey:=g2.1.str;subst ey;exact⟨p,V.str y,rfl,.inl ⟨_,Sum.inr x,.inl (s2 _ _ ar),rfl,J.symm⟩,q _ H2 (s1.trans s2) (.of (jf _ _))⟩
  | _=>cases Y
 | _=>cases U
theorem ra:∀{xs}{ws},i5 xs=some ws->xs=ws.map .str
 | [],_,h=>by simp[i5]at h;subst h;rfl
 | .str i::r,ns,h=>by
  simp[i5,wh]at h;obtain⟨ms,h1,rfl⟩:=h;rw[ra h1];rfl
 | .non::_,_,h=>by injection h
 | .bl _::_,_,h=>by injection h
 | .int _::_,_,h=>by injection h
 | .tup _::_,_,h=>by injection h
 | .lst _::_,_,h=>by injection h
 | .dI _::_,_,h=>by injection h
theorem nX{K:LI} :∀{ws:List Str}{us},Reps K F (ws.map .str) us->us=ws.map V.str
 | [],_,h=>by exact h
 |n::ns,_,h=>by
  refine aq h λu r D q t=>?_
  subst D;rw[q,nX t];rfl
def DY (h:PE X e (tE X.K cal m)) (U:az e=true) (hl:(ap.endLine==cp.line)=true):PE X (.Call (.Attribute (.Constant (.str x) j p) "join" ap) [e] [] cp) (tE X.K cal (.join x m)):=by
 refine(nE PySem.F.plainAttrs_str PySem.F.slot_str_join PySem.F.type_str_join As gF (bm h b6 (bA U _ _)) rfl (by rw[bA U];rfl) hl (bA U _ _) rfl).imp λσ H Q q=>?_
 refine bc q λB E O G v st J q=>?_
 rw[ev,i1]at J;obtain⟨w,J,D⟩:=J;cases w with
 |lst xs =>
  have D:((i5 xs).bind λws=>if (ws.map λy=>y.length+x.length).sum<=1000000 then some (PV.str (Builtin.Str.glued x ws))else none)=some v:=D;rw[i1]at D;obtain⟨ws,e3,Y⟩:=D;split at Y
  .rename_i hz;cases Y;have e5:=ra e3;subst e5;refine⟨rfl,B,E,O,G,_,st,J,λu H1 s1 g1=>?_⟩;refine aq g1.1.lst λa us Z sq rs=>?_
   subst Z;have e6:=nX rs;subst e6;exact⟨x,a,ws,rfl,rfl,sq,hz,q _ H1 s1 (.of (by rw[Rep]))⟩
  .exact aP Y
 | _=>exact aP D
def re{cond elt:ME}:∀G v,ev cal (.comp D src js cond elt) G=some v->∃xs,v=.lst xs:=λG v q=>by
 rw[ev,i1]at q;obtain⟨vs,_,q⟩:=q;rw[i1]at q;obtain⟨xs,_,q⟩:=q;split at q
 .simp at q;obtain⟨ys,_,rfl⟩:=q;exact⟨_,rfl⟩
 .exact aP q
def fG(D:f=.listOf\/f=.sorted\/f=.sortedSet\/f=.sortedKeys\/f=.valuesOf) :∀G v,ev cal (.blt f ms) G=some v->∃xs,v=.lst xs:=λG v q=>by
 rw[ev,i1]at q;obtain⟨vs,_,q⟩:=q;rcases D with rfl|rfl|rfl|rfl|rfl
 .obtain⟨x,rfl⟩:=dA q (.inl rfl);simp only[aE,cx,kL,gN,gP,wh]at q;obtain⟨ys,_,rfl⟩:=q;exact⟨_,rfl⟩
 .obtain⟨x,rfl⟩:=dA q (.inl rfl);simp only[aE,cx,kL,gN,gP,i1]at q;obtain⟨ys,_,q⟩:=q;unfold d7 at q;split at q
  .split at q
   .cases q;exact⟨_,rfl⟩
   .split at q
    .cases q;exact⟨_,rfl⟩
    .simp only[wh]at q;obtain⟨J,_,rfl⟩:=q;exact⟨_,rfl⟩
  .exact aP q
 .obtain⟨x,rfl⟩:=dA q (.inr (.inr (.inl rfl)));simp only[aE,cx,kL,gN,gP,i1]at q;obtain⟨ys,_,ns,_,q⟩:=q;split at q
  .cases q;exact⟨_,rfl⟩
  .exact aP q
 .obtain⟨x,rfl⟩:=dA q (.inl rfl);simp only[aE,cx]at q;split at q
  .split at q
   .cases q;exact⟨_,rfl⟩
   .exact aP q
  .exact aP q
 .obtain⟨x,rfl⟩:=dA q (.inr (.inr (.inr (.inr rfl))));simp only[aE,cx]at q;split at q
  .split at q
   .cases q;exact⟨_,rfl⟩
   .exact aP q
  .exact aP q
def sR{cond:ME}(h:uE f cond ifs=true)(hc:∀c,f c=true->PT X c (tT X.K cal cond)):PF X ifs (tT X.K cal cond):=by
 match ifs,h with
 | [],h =>
  have e:cond=.cst (.bl true):=by
   simp[uE]at h;split at h
   .rfl
   .exact dO h
  subst e;intro pins s σ H Q I q;refine bY λU J=>?_
  refine bc q λB E O G b st D q=>?_
  simp only[evB,ev,bind_some,aS,ow]at D;subst D;refine J ?_;exact C0 pins s σ H Q I (q H (ag.refl H))
 | [c],h=>exact C1 (hc c h)
def pF{N:List Str}{sc:Scope}{ms:List (Option Str)}{f i:Nat}{D:List Expr->Bool}{q:Str×Str×List Expr×Pos×Pos}(h:qJ N sc ms f i D q=true):ms[f]?=some (some q.2.1)/\q.2.1∈ma/\au N sc i q.1=true/\D q.2.2.1=true/\(q.2.2.2.1.endLine==q.2.2.2.2.line)=true/\decide (q.2.2.1.length<30)=true:=by
 unfold qJ at h;obtain⟨J,h6⟩:=mu.mp h;obtain⟨U,h5⟩:=mu.mp J;obtain⟨Y,h4⟩:=mu.mp U;obtain⟨Z,h3⟩:=mu.mp Y;obtain⟨a5,h2⟩:=mu.mp Z;exact⟨eq_of_beq a5,contains_iff_mem.mp h2,h3,h4,h5,h6⟩
def sS{i:Nat}{x m:Str}{p ap:Pos}(hn:au X.N X.env.scope i x=true):PE X (.Attribute (.Name x p) m ap) (FN X.K (dP i) m):=xa (bn hn) rfl
def pG{K:LI}{B H:Hp}{E O:List Addr}{G:Rho}{σ:St}{i:Nat}{o:List PV×List PV}(st:aK K B E O H G σ)(e:gQ (G[i]?).join=some o):∃a,σ[i]?=some (some (.ref a))/\dz K H (ak H O) o.1 o.2 a:=by
 cases D:(G[i]?).join with
 |none=>rw[D]at e;cases e
 |some m =>
  rw[D]at e;cases m with
  |ownO _ fs xs =>
   cases e;obtain⟨u,J,a,l,rfl,q⟩:=bo st D;exact⟨a,J,q.lent⟩
  |brwO fs xs =>
   cases e;obtain⟨u,J,a,rfl,q⟩:=bo st D;exact⟨a,J,q.move st.keep (ag.refl _)⟩
  | _=>cases e
def sT{K:LI}{B H:Hp}{E O:List Addr}{G:Rho}{σ:St}{i:Nat}{v:PV}(st:aK K B E O H G σ)(e:nM (G[i]?).join=some v):∃a fs xs,v=.lst xs/\σ[i]?=some (some (.ref a))/\dz K B (ak H O) fs xs a:=by
 cases D:(G[i]?).join with
 |none=>rw[D]at e;cases e
 |some m =>
  rw[D]at e;cases m with
  |brwO fs xs =>
   cases e;obtain⟨u,J,a,rfl,q⟩:=bo st D;exact⟨a,fs,xs,rfl,J,q⟩
  | _=>cases e
def Gw{i n:Nat}{x m:Str}{p ap:Pos}(g:Gf X T k cal)(hm:iD[n]?=some m)(hn:au X.N X.env.scope i x=true):PE X (.Attribute (.Name x p) m ap) (tE X.K cal (.fld i n)):=by
 refine(sS hn).imp λσ H Q q=>?_
 obtain⟨B,E,O,G,v,st,D,q⟩:=q;rw[ev,i1]at D;obtain⟨o,D,J⟩:=D;obtain⟨a,U,C,dx,gs,l,us,h1,h2,_⟩:=pG st D;obtain⟨Y,Z,_⟩:=g.cls C h2.cls;obtain⟨u,f1,f2⟩:=h2.fld n m v hm J;exact⟨_,U,a,C,dx,gs,u,rfl,h1,Y,Z m (JR hm),f1,q u H (ag.refl H) (.of f2)⟩
def DZ {i:Nat}{x:Str}{p ap:Pos} (g:Gf X T k cal) (hn:au X.N X.env.scope i x=true):PE X (.Attribute (.Name x p) ("taken":Str) ap) (tE X.K cal (.fldL i)):=by
 refine(sS hn).imp λσ H Q q=>?_
 obtain⟨B,E,O,G,v,st,D,q⟩:=q;rw[ev]at D;obtain⟨a,fs,xs,rfl,J,C,dx,gs,l,us,h1,h2,h3,h4⟩:=sT st D;obtain⟨U,_,Y⟩:=g.cls C h2.cls;exact⟨_,J,a,C,dx,gs,.ref l,rfl,st.keep _ _ h1,U,Y,h2.lst,q _ H (ag.refl H) ⟨.inr (.inl ⟨xs,l,us,rfl,rfl,st.keep.seq h3,h4⟩),λz=>by cases z⟩⟩
def D_ {tg:Expr}{i:Nat}{x:Str}{p ap:Pos} (g:Gf X T k cal) (hn:au X.N X.env.scope i x=true):PI X tg (.Attribute (.Name x p) ("taken":Str) ap) (tW X.K cal .seq [.fldL i]):=by
 refine(kQ (sS hn)).imp λσ H R q=>?_
 obtain⟨B,E,O,G,vs,zs,st,J,U,q⟩:=q;obtain⟨v,rfl,D⟩:=m_ J;have Y:bq v=some zs:=U;rw[ev]at D;obtain⟨a,fs,xs,rfl,Z,C,dx,gs,l,us,h1,h2,h3,h4⟩:=sT st D;cases Y;obtain⟨c1,_,c2⟩:=g.cls C h2.cls;exact⟨_,Z,a,C,dx,gs,.ref l,rfl,st.keep _ _ h1,c1,c2,h2.lst,l,rfl,⟨us,st.keep.seq h3⟩,q _ _ (ag.refl H) (jj ((dg st.keep).seq h3) h4)⟩
def Ea {i:Nat}{x:Str}{px ap:Pos}{f:Str}{U:List Expr}{j:Nat}{Y p pos:Pos} (g:Gf X T k cal) (Z:f=("enumerate":Str)) (hg:glB X.env.scope f=true) (hn:au X.N X.env.scope i x=true):PI X (.Tuple U j Y) (.Call (.Name f p) [.Attribute (.Name x px) ("taken":Str) ap] [] pos) (tW X.K cal .enm [.fldL i]):=by
 subst Z;refine(sO (fz hg) (g.blt "enumerate" (by decide)) (sS hn) rfl).imp λσ H R q=>?_
 obtain⟨B,E,O,G,vs,zs,st,e1,D,q⟩:=q;obtain⟨v,rfl,J⟩:=m_ e1;simp only[cm,wh]at D;obtain⟨ys,e4,rfl⟩:=D;rw[ev]at J;obtain⟨a,fs,xs,rfl,ea,C,dx,gs,l,us,h1,h2,h3,h4⟩:=sT st J;cases e4;obtain⟨c1,_,c2⟩:=g.cls C h2.cls;exact⟨_,ea,a,C,dx,gs,.ref l,rfl,st.keep _ _ h1,c1,c2,h2.lst,l,rfl,.inl ⟨⟨us,st.keep.seq h3⟩,q _ _ (ag.refl H) (iH (λH2 s2=>s2.seq ((dg st.keep).seq h3)) h4)⟩⟩
def Gx {neg:Bool}{Y:ME}{i:Nat}{l:Expr}{x:Str}{p ap pos:Pos} (g:Gf X T k cal) (ha:PE X l (tE X.K cal Y)) (hn:au X.N X.env.scope i x=true):PE X (.Compare l [gi (if neg=true then .notIn else .isIn)] [.Attribute (.Name x p) ("taken":Str) ap] pos) (tE X.K cal (.inO neg Y i)):=by
 refine(t6 (gk g.units _) ha (sS hn) (by cases neg<;>rfl)).imp λσ H Q q=>?_
 obtain⟨B,E,O,G,v,st,D,q⟩:=q;rw[ev]at D;simp only[i1,wh]at D;obtain⟨y,D,w,J,c,e3,rfl⟩:=D;refine⟨B,E,O,G,y,st,D,λux H1 s1 g1=>?_⟩;cases U:(G[i]?).join with
 |none=>rw[U]at J;cases J
 |some m =>
  rw[U]at J;cases m with
  |ownO b fs xs =>
   cases J;obtain⟨u,eu,a,Z,rfl,qq⟩:=bo (st.mono s1) U;obtain⟨C,dx,gs,h1,h2⟩:=qq.ob;obtain⟨us,h3,h4⟩:=qq.li;obtain⟨c1,_,c2⟩:=g.cls C h2.cls;exact⟨_,eu,a,C,dx,gs,.ref Z,rfl,h1,c1,c2,h2.lst,O,y,_,c,g1.1,.inr (.inl ⟨xs,Z,us,rfl,rfl,SqL.of h3,h4⟩),e3,q _ H1 s1 (.of (de _ _))⟩
  | _=>cases J
def Eb {neg:Bool}{Y:ME}{i:Nat}{l:Expr}{x:Str}{p ap pos:Pos} (g:Gf X T k cal) (ha:PE X l (tE X.K cal Y)) (hn:au X.N X.env.scope i x=true):PT X (.Compare l [gi (if neg=true then .notIn else .isIn)] [.Attribute (.Name x p) ("taken":Str) ap] pos) (tT X.K cal (.inO neg Y i)):=by
 refine(oG (gk g.units _) ha (sS hn) (by cases neg<;>rfl)).imp λσ H Q q=>?_
 obtain⟨B,E,O,G,v,st,D,q⟩:=q;rw[evB,ev]at D;simp only[i1,wh]at D;obtain⟨b,⟨y,D,w,J,c,e3,rfl⟩,Z⟩:=D;simp only[aS,ow]at Z;subst Z;refine⟨B,E,O,G,y,st,D,λux H1 s1 g1=>?_⟩;cases U:(G[i]?).join with
 |none=>rw[U]at J;cases J
 |some m =>
  rw[U]at J;cases m with
  |ownO b fs xs =>
   cases J;obtain⟨u,eu,a,ll,rfl,qq⟩:=bo (st.mono s1) U;obtain⟨C,dx,gs,h1,h2⟩:=qq.ob;obtain⟨us,h3,h4⟩:=qq.li;obtain⟨c1,_,c2⟩:=g.cls C h2.cls;exact⟨_,eu,a,C,dx,gs,.ref ll,rfl,h1,c1,c2,h2.lst,O,y,_,c,g1.1,.inr (.inl ⟨xs,ll,us,rfl,rfl,SqL.of h3,h4⟩),e3,_,rfl,q H1 s1⟩
  | _=>cases J
def Ec {neg:Bool}{i:Nat}{N:List Str}{sc:Scope}{D:Expr->Bool}{e:Expr}{z:Expr×CmpOp×Expr} (J:xY e=some z) (h:(onQ (mi z.2.2) λq=>z.2.1==(if neg=true then CmpOp.NotIn else CmpOp.In)&&D z.1&&q.2==("taken":Str)&&au N sc i q.1)=true):D z.1=true/\∃(x:Str) (p ap pos:Pos),au N sc i x=true/\e=.Compare z.1 [gi (if neg=true then .notIn else .isIn)] [.Attribute (.Name x p) ("taken":Str) ap] pos:=by
 replace h:=am h
 obtain⟨q,U,h⟩:=h;obtain⟨pos,rfl⟩:=uB J;obtain⟨p,ap,Y⟩:=i8 U;obtain⟨Z,h4⟩:=mu.mp h;obtain⟨a2,h3⟩:=mu.mp Z;obtain⟨h1,h2⟩:=mu.mp a2;refine⟨h2,q.1,p,ap,pos,h4,?_⟩;rw[Y,eq_of_beq h1,eq_of_beq h3];cases neg<;>rfl
def Ed {neg:Bool}{q:ME}{i:Nat}{e l:Expr}{c:Prop} (g:Gf X T k cal) (h:c/\∃(x:Str) (p ap pos:Pos),au X.N X.env.scope i x=true/\e=.Compare l [gi (if neg=true then .notIn else .isIn)] [.Attribute (.Name x p) ("taken":Str) ap] pos) (D:PE X l (tE X.K cal q)):PE X e (tE X.K cal (.inO neg q i))/\PT X e (tT X.K cal (.inO neg q i)):=by
 obtain⟨_,x,p,ap,pos,h1,rfl⟩:=h;exact⟨Gx g D h1,Eb g D h1⟩
def k5(J:es.all az=true)(hl:decide (es.length<30)=true)(q:(ap.endLine==pos.line)=true):eval (.Call (.Attribute (.Name x p) m ap) es [] pos) env=(do
   let D <- eval (.Name x p) env
   standAt ap.atName
   let (f,first) <- holding [D] (getMethod D m (do return (<- importBound (.Name x p) env).getD true))
   callWith pos f first (backTo pos (starEach es env)) (backToKw pos (keywordEach [] env))):=by
 have U:methodCallForm (es.length+([]:List Keyword).length) (backTo pos (starEach es env)) (backToKw pos (keywordEach [] env))=true:=by
  unfold methodCallForm;have h1:((backTo pos (starEach es env)).all λx=>!x.1)=true:=by
   have:=bC (pos:=pos) (env:=env) J;rw[KQ]at this;rw[JE];intro x hx;have:=this x hx;simpa using this
  rw[h1];exact hl
 rw[arm_eval_Call];unfold methodCall calleeOf methodCallPos;rw[U,q]
 rfl
def AV{f i:Nat}{ms:List ME}{x m:Str}{es:List Expr}{p ap pos:Pos}(g:Gf X T k cal)(hf:T.ms[f]?=some (some m))(hM:m∈ma)(hn:au X.N X.env.scope i x=true)(ha:PA X es (tAs X.K cal ms))(hs:es.all az=true)(hl:ms.length=es.length)(J:(ap.endLine==pos.line)=true)(h30:decide (es.length<30)=true):PE X (.Call (.Attribute (.Name x p) m ap) es [] pos) (tE X.K cal (.callM f i ms)):=by
 by_cases Y:∃C,IsC X.K C
 .obtain⟨C,Y⟩:=Y;have one:∀U,IsC X.K U->U=C:=λU h=>by
   have:=h.symm.trans Y;cases this
   rfl
  obtain⟨fa,fd,ps,h1,h3,F⟩:=g.meths f m hf C Y;have key:∀σ H Q,tE X.K cal (.callM f i ms) σ H Q->kh C m (spM X.K cal f) [] E0 (dP i) (tAs X.K cal ms) σ H Q:=λσ H Q q=>by
   obtain⟨B,E,O,G,v,st,D,q⟩:=q;rw[ev,i1]at D;obtain⟨o,e0,D⟩:=D;rw[i1]at D;obtain⟨vs,D,e2⟩:=D;obtain⟨a,ea,U,dx,gs,l,us,f1,Z,f3⟩:=pG st e0;have a1:=one U Z.cls;subst a1;refine⟨_,ea,a,dx,gs,rfl,f1,Z.no m hM,B,E,O,G,vs,st,D,λbB H1 s1 g1=>⟨O,_,v,bH s1 st.here,?_,e2,λu H2 s2 r=>q u H2 (s1.trans s2) (.of r)⟩⟩;rw[JW];exact .cons ⟨a,rfl,dz.move ⟨U,dx,gs,l,us,f1,Z,f3⟩ s1 (ah s1)⟩ g1
  cases es with
  |nil =>
   refine(lr (bn hn) (g.cls C Y).1 h1 F g.room h3 .nil fW (k5 hs h30 J)).imp λσ H Q q=>?_
   obtain⟨u,eu,a,dx,gs,e,f1,Z,B,E,O,G,vs,st,D,q⟩:=key σ H Q q;cases ms with
   |nil =>
    simp only[evA,ow]at D;subst D;exact⟨u,eu,a,dx,gs,e,f1,Z,q [] H (ag.refl H) .nil⟩
   |cons _ _=>cases hl
  |cons e es =>
   simp only[all_cons,oe]at hs;exact(oN (bn hn) (g.cls C Y).1 h1 F g.room h3 .nil fW ha (bA hs.1 _ _) (bC hs.2) (k5 (by simp[hs]) h30 J)).imp key
 .exact λpins s σ H Q I q=>by
   obtain⟨B,E,O,G,v,st,D,q⟩:=q;rw[ev,i1]at D;obtain⟨o,e0,_⟩:=D;obtain⟨a,ea,U,dx,gs,l,us,f1,Z,f3⟩:=pG st e0;exact absurd ⟨U,Z.cls⟩ Y
theorem rf{K:LI}(F:Hp):∀l:List Str,Reps K F (l.map .str) (l.map V.str)
 | []=>.nil
 |s::l=>.cons (by rw[Rep]) (rf F l)
def AW {a:ME}{y:Str}{o w:Expr}{m:Str}{ap cp:Pos}{args:List Expr}{c:Const×Nat×Pos} (g:Gf X T k cal) (hm:m=("split":Str)) (Z:args=[w]) (hw:w=.Constant c.1 c.2.1 c.2.2) (hc:mj (.str y) c.1=true) (D:(ap.endLine==cp.line)=true) (hn:(nmP o).isSome=true) (h:PE X o (tE X.K cal a)):PE X (.Call (.Attribute o m ap) args [] cp) (tE X.K cal (.split a y)):=by
 subst hm Z hw;obtain⟨n,en⟩:=Lo.mp hn;obtain rfl:=fh en;obtain⟨c1,c2,c3⟩:=c;cases c1<;>try (cases hc;done)
 have hc:=eq_of_beq hc;subst hc;refine(nE PySem.F.plainAttrs_str PySem.F.slot_str_split PySem.F.type_str_split xL h (bm gF b6) rfl rfl D).imp λσ H Q q=>?_
 obtain⟨B,E,O,G,v,st,U,q⟩:=q;rw[ev,i1]at U;obtain⟨u,U,J⟩:=U;cases u with
 |str x =>
  unfold i7 at J;dsimp only at J;split at J
  .rename_i hz;cases J;refine⟨B,E,O,G,_,st,U,λu H1 s1 g1=>?_⟩;have z:=g1.1.str;subst z;refine⟨rfl,x,_,rfl,rfl,hz.2.2,hz.1,hz.2.1,λp Y=>q _ _ (s1.trans (bf Y _)) (.of ?_)⟩;rw[Rep];have hO:p∉O:=λw=>st.here p w (s1.free Y)
   refine⟨p,_,rfl,SqL.of (by rw[aH hO];exact ar),?_⟩;exact rf _ _
  .cases J
 | _=>cases J
def mB{k':Sk}{src:List ME}{it tg:Expr}{tup:Bool}(aL:tup=true->∃ts j tp,tg=.Tuple ts j tp)(g:Gf X T k cal)(h:pi X.env.scope tup (λxs=>chks T src X.N X.env.scope xs) k' it=true)(Z:∀xs,chks T src X.N X.env.scope xs=true->PA X xs (tEs X.K cal src)/\xs.all az=true/\src.length=xs.length)
  (h1:∀m x,src=[m]->chks T src X.N X.env.scope [x]=true->PE X x (tE X.K cal m)):PI X tg it (tW X.K cal k' src)/\iE it=true:=by
 cases k' with
 |seq =>
  replace h:=mu.mp h
  obtain⟨hn,h⟩:=h;refine⟨?_,hn⟩;obtain⟨_,_,hl⟩:=Z _ h;obtain⟨m,rfl⟩:=Ko.mp hl;cases D:aI m with
  |false=>exact Gg D (h1 m it rfl h)
  |true =>
   have J:=(cy h).1.1;rcases sK D with⟨i,rfl⟩|⟨i,rfl⟩
   rotate_left
   .obtain⟨z,e,h2⟩:=am (show onQ (mi it) (λq=>q.2==("taken":Str)&&au X.N X.env.scope i q.1)=true from J);obtain⟨p,ap,rfl⟩:=i8 e;obtain⟨h3,h4⟩:=mu.mp h2;rw[eq_of_beq h3];exact D_ g h4
   obtain⟨x,p,rfl,q⟩:=pk J;exact Gh q
 |chr =>
  replace h:=mu.mp h
  obtain⟨hn,h⟩:=h;refine⟨?_,hn⟩;obtain⟨_,_,hl⟩:=Z _ h;obtain⟨m,rfl⟩:=Ko.mp hl;exact Gj (h1 m it rfl h)
 |rng =>
  replace h:=am h
  obtain⟨c,e1,h⟩:=h;obtain⟨p,pos,rfl⟩:=h_ e1;simp only[oe,IU,KD]at h;obtain⟨⟨⟨hx,U⟩,Y⟩,hn⟩:=h;obtain⟨q,a1,hl⟩:=Z _ Y;exact⟨AN g hx U q hn a1 hl,rfl⟩
 |enm =>
  replace h:=am h
  obtain⟨⟨x,a⟩,e1,h⟩:=h;obtain⟨p,pos,rfl⟩:=uA e1;simp only[oe,IU]at h;obtain⟨⟨⟨⟨ht,hx⟩,U⟩,Y⟩,hn⟩:=h;obtain⟨ts,j,tp,rfl⟩:=aL ht;obtain⟨_,_,hl⟩:=Z _ Y;refine⟨?_,rfl⟩;obtain⟨m,rfl⟩:=Ko.mp hl;cases D:aI m with
  |false=>exact Gi g hx U hn D (h1 m a rfl Y)
  |true =>
   have J:=(cy Y).1.1;rcases sK D with⟨i,rfl⟩|⟨i,rfl⟩
   rotate_left
   .obtain⟨z,e,h2⟩:=am (show onQ (mi a) (λq=>q.2==("taken":Str)&&au X.N X.env.scope i q.1)=true from J);obtain⟨p,ap,rfl⟩:=i8 e;obtain⟨h3,h4⟩:=mu.mp h2;rw[eq_of_beq h3];exact Ea g hx U h4
   obtain⟨y,p,rfl,q⟩:=pk J;exact DK g hx U q
 |rev=>cases h
def base_of(q:F7 o=true):attributeBase o n X.env (eval o X.env)=eval o X.env:=by
 cases o<;>first|rfl|(simp at q;done)|skip
 rename_i fn args kws pos;cases args with
 |nil=>injection q
 |cons _ _=>cases fn<;>rfl
def rh{b:Blt}{es:List ME}{x:Str}{args:List Expr}{p pos:Pos}(g:Gf X T k cal)(hx:x=(qK b:Str))(Y:glB X.env.scope x=true)(D:uD X.env.scope (λxs=>chks T es X.N X.env.scope xs) es.length b args=true)
  (hs:∀xs,chks T es X.N X.env.scope xs=true->PA X xs (tEs X.K cal es)/\xs.all az=true/\es.length=xs.length)
  (h1:∀m x,es=[m]->chks T es X.N X.env.scope [x]=true->PE X x (tE X.K cal m))
  (b1:∀m m' x x',es=[m,m']->chks T es X.N X.env.scope [x,x']=true->PE X x (tE X.K cal m)/\PE X x' (tE X.K cal m')) :
  (iF (.blt b es)=true->PE X (.Call (.Name x p) args [] pos) (tF X.K cal (.blt b es)))/\PE X (.Call (.Name x p) args [] pos) (tE X.K cal (.blt b es)):=by
 subst hx;have inst:∀{b:Blt}{args:List Expr} (c:String),glB X.env.scope (qK b)=true->dc b=some c->qK b="isinstance"->bootBuiltins c=some (.type c)->X.mg c=none->(c:Str) ≠ "__name__"->((c:Str)==("__debug__":Str))=false->qM X.env.scope (λxs=>chks T es X.N X.env.scope xs) es.length c args=true ->
   PE X (.Call (.Name (qK b) p) args [] pos) (tE X.K cal (.blt b es)):=λ{b args} c Y hc hb a0 hm hn hd D=>by
  replace D:=am D
  obtain⟨⟨y,t0⟩,e1,D⟩:=D
  replace D:=am D
  obtain⟨⟨t,p2⟩,e2,D⟩:=D;obtain rfl:=Az e1;obtain rfl:=fh (e:=t0) e2;simp only[oe,IU]at D;obtain⟨⟨⟨h2,h3⟩,h4⟩,h5⟩:=D;obtain⟨m,rfl⟩:=Ko.mp h5;rw[hb]at Y ⊢;exact DV g hc Y h2 h3 a0 hm hn hd (h1 m y rfl h4) (cy h4).1.2
 have c1:∀{nm:Str},sL X.env.scope (λxs=>chks T es X.N X.env.scope xs) es.length nm args=true->∃m y gg p2 pos2,es=[m]/\args=[.Call (.Name gg p2) [y] [] pos2]/\gg=nm/\glB X.env.scope gg=true/\PE X y (tE X.K cal m)/\az y=true:=λ{nm} D=>by
  replace D:=am D
  obtain⟨a,e1,D⟩:=D
  replace D:=am D
  obtain⟨⟨gg,y⟩,e2,D⟩:=D;obtain⟨p2,pos2,rfl⟩:=uA e2;simp only[oe,IU]at D;obtain⟨⟨⟨h2,h3⟩,h4⟩,h5⟩:=D;obtain⟨m,rfl⟩:=Ko.mp h5;exact⟨m,y,gg,p2,pos2,rfl,db e1,h2,h3,h1 m y rfl h4,(cy h4).1.2⟩
 have plain:∀{args:List Expr} (n:Nat),0<n->(some n==some es.length&&chks T es X.N X.env.scope args)=true->∃e r,args=e::r/\PA X (e::r) (tEs X.K cal es)/\(e::r).all az=true:=λ{args} n bR D=>by
  simp only[oe,IU,ow]at D;obtain⟨J,U,q3⟩:=hs _ D.2;cases args with
  |nil=>rw[<- D.1]at q3;simp at q3;omega
  |cons e r=>exact⟨e,r,rfl,J,U⟩
 cases b with
 |len =>
  obtain⟨e,r,Z,J,U⟩:=plain 1 (by decide) D;rw[Z];exact⟨λz=>(by cases z),yq F_ Y (g.blt "len" (by decide)) yr (by decide) (by decide) J U⟩
 |tupleOf =>
  obtain⟨e,r,Z,J,U⟩:=plain 1 (by decide) D;rw[Z];exact⟨λz=>(by cases z),sQ AL Y (g.blt "tuple" (by decide)) qZ (by decide) (by decide) J U⟩
 |listOf =>
  obtain⟨e,r,Z,J,U⟩:=plain 1 (by decide) D;rw[Z];have q:=AS (p:=p) (pos:=pos) DF Y (g.blt "list" (by decide)) AT (by decide) (by decide) J U;exact⟨λ_=>q,f_ (fG (.inl rfl)) q⟩
 |sorted =>
  obtain⟨e,r,Z,J,U⟩:=plain 1 (by decide) D;rw[Z];have q:=DP (p:=p) (pos:=pos) (yi g) Y (g.blt "sorted" (by decide)) nW (by decide) (by decide) J U;exact⟨λ_=>q,f_ (fG (.inr (.inl rfl))) q⟩
 |any =>
  obtain⟨e,r,Z,J,U⟩:=plain 1 (by decide) D;rw[Z];exact⟨λz=>(by cases z),yq (Gc g.calm) Y (g.blt "any" (by decide)) DS (by decide) (by decide) J U⟩
 |all =>
  obtain⟨e,r,Z,J,U⟩:=plain 1 (by decide) D;rw[Z];exact⟨λz=>(by cases z),yq (Ge g.calm) Y (g.blt "all" (by decide)) DU (by decide) (by decide) J U⟩
 |strOf =>
  obtain⟨e,r,Z,J,U⟩:=plain 1 (by decide) D;rw[Z];exact⟨λz=>(by cases z),sQ Gb Y (g.blt "str" (by decide)) PyProof.Rows.boot_str (by decide) (by decide) J U⟩
 |intOf =>
  obtain⟨e,r,Z,J,U⟩:=plain 1 (by decide) D;rw[Z];exact⟨λz=>(by cases z),sQ Ga Y (g.blt "int" (by decide)) yt (by decide) (by decide) J U⟩
 |boolOf=>exact absurd D kn
 |max2=>exact absurd D kn
 |min2=>exact absurd D kn
 |isInt=>exact⟨λz=>(by cases z),inst "int" Y rfl rfl yt (g.blt "int" (by decide)) (by decide) (by decide) D⟩
 |isBool=>exact⟨λz=>(by cases z),inst "bool" Y rfl rfl AU (g.blt "bool" (by decide)) (by decide) (by decide) D⟩
 |isStr=>exact absurd D kn
 |isList=>exact absurd D kn
 |isTuple=>exact⟨λz=>(by cases z),inst "tuple" Y rfl rfl qZ (g.blt "tuple" (by decide)) (by decide) (by decide) D⟩
 |sortedSet =>
  obtain⟨m,y,gg,p2,pos2,ee,ea,h2,h3,hp,aL⟩:=c1 D;rw[ee,ea];have q:=q_ (p:=p) (p2:=p2) (pos:=pos) (pos2:=pos2) g rfl h2 Y h3 hp aL;exact⟨λ_=>q,f_ (fG (.inr (.inr (.inl rfl)))) q⟩
 |sum=>exact absurd D kn
 |max1=>exact absurd D kn
 |sortedKeys=>exact absurd D kn
 |valuesOf=>exact absurd D kn
 |min1=>cases D
 |tupleRev=>cases D
 |lenSet =>
  obtain⟨m,y,gg,p2,pos2,ee,ea,h2,h3,hp,aL⟩:=c1 D;rw[ee,ea];exact⟨λz=>(by cases z),yw g rfl h2 Y h3 hp aL⟩
 |lenSetSub=>cases D
end
set_option maxHeartbeats 0 in
mutual
theorem av{T:Tab}{k:Nat}{cal:Cal}:∀(Z:ME) {X:Cx}{e:Expr},Gf X T k cal->chk T Z X.N X.env.scope e=true->PE X e (tE X.K cal Z)/\PT X e (tT X.K cal Z)
 | .var i,X,e,g,h=>by
  replace h:=am h
  obtain⟨x,w,h⟩:=h;obtain rfl:=fh w;exact⟨B0 h,aY (B0 h) rfl⟩
 | .bor i,X,e,g,h=>by
  replace h:=am h
  obtain⟨x,w,h⟩:=h;obtain rfl:=fh w;exact⟨B1 h,aY (B1 h) rfl⟩
 | .cst v,X,e,g,h=>by
  replace h:=am h
  obtain⟨x,w,h⟩:=h;obtain rfl:=o_ w;exact⟨B2 h,aY (B2 h) rfl⟩
 | .glob x v,X,e,g,h=>by
  replace h:=am h
  obtain⟨y,w,h⟩:=h;obtain rfl:=fh w;exact⟨yg g h,aY (yg g h) rfl⟩
 | .bin op a b,X,e,g,h=>by
  replace h:=am h
  obtain⟨⟨l,o,r,pos⟩,w,h⟩:=h;obtain rfl:=C_ w;simp only[oe,IU]at h;obtain⟨⟨rfl,h1⟩,h2⟩:=h;have p:=Gk (op:=op) (pos:=pos) (av a g h1).1 (av b g h2).1;exact⟨p,aY p rfl⟩
 | .neg _,X,e,g,h=>absurd (show false=true from h) kn
 | .not a,X,e,g,h=>by
  replace h:=am h
  obtain⟨⟨o,x,pos⟩,w,h⟩:=h;obtain rfl:=Dc w
  replace h:=mu.mp h
  obtain⟨h2,h⟩:=h;obtain rfl:=eq_of_beq h2;exact⟨Gm (av a g h).1,Gn (av a g h).2⟩
 | .and a b,X,e,g,h=>by
  replace h:=am h
  obtain⟨⟨o,vs,pos⟩,w,h⟩:=h;obtain rfl:=xW w
  replace h:=mu.mp h
  obtain⟨h2,h⟩:=h;obtain rfl:=eq_of_beq h2;rcases uF h with⟨x,y,rfl,h1,h2⟩|⟨x,y,z,r,rfl,h1,h2⟩
  .exact⟨B4 (av a g h1).1 (wU (av b g h2).1),B6 (av a g h1).2 (zV (av b g h2).2)⟩
  .exact⟨B4 (av a g h1).1 (av b g h2).1,B6 (av a g h1).2 (B5 (av b g h2).2)⟩
 | .or a b,X,e,g,h=>by
  replace h:=am h
  obtain⟨⟨o,vs,pos⟩,w,h⟩:=h;obtain rfl:=xW w
  replace h:=mu.mp h
  obtain⟨h2,h⟩:=h;obtain rfl:=eq_of_beq h2;rcases uF h with⟨x,y,rfl,h1,h2⟩|⟨x,y,z,r,rfl,h1,h2⟩
  .exact⟨Go (av a g h1).1 (wU (av b g h2).1),Gp (av a g h1).2 (Cv (av b g h2).2)⟩
  .exact⟨Go (av a g h1).1 (av b g h2).1,Gp (av a g h1).2 (B5 (av b g h2).2)⟩
 | .ite c a b,X,e,g,h=>by
  replace h:=am h
  obtain⟨q,w,h⟩:=h;obtain rfl:=Dd w;simp only[oe,Jb]at h;obtain⟨⟨⟨⟨h1,h2⟩,h3⟩,h4⟩,h5⟩:=h;exact⟨Gq (av c g h1).2 (av a g h2).1 (av b g h3).1 h4 h5,Gr (av c g h1).2 (av a g h2).2 (av b g h3).2⟩
 | .cmp op a b,X,e,g,h=>by
  replace h:=am h
  obtain⟨⟨l,o,r⟩,w,h⟩:=h;obtain⟨pos,rfl⟩:=uB w;simp only[oe,IU,Jb]at h;obtain⟨⟨⟨rfl,h1⟩,h2⟩,h3⟩:=h;exact Gs g (av a g h1).1 (av b g h2).1 h3
 | .chain op bR a b c,X,e,g,h=>by
  cases e with
  |Compare l ops rs pos =>
   match ops,rs,h with
   | [o,o'],[m,r],h =>
    simp only[x_,oe,IU,Jb]at h;obtain⟨⟨⟨⟨⟨rfl,rfl⟩,h1⟩,h2⟩,h3⟩,h4⟩:=h;exact AQ g (av a g h1).1 (av b g h2).1 (av c g h3).1 h4
   | [],_,h=>cases (show false=true from h)
   | [_],_,h=>cases (show false=true from h)
   | [_,_],[],h=>cases (show false=true from h)
   | [_,_],[_],h=>cases (show false=true from h)
   | [_,_],_::_::_::_,h=>cases (show false=true from h)
   | _::_::_::_,_,h=>cases (show false=true from h)
  | _=>cases (show false=true from h)
 | .tup es,X,e,g,h=>by
  replace h:=am h
  obtain⟨q,w,h⟩:=h;obtain rfl:=Db w;obtain⟨h1,h2⟩:=mu.mp h;have p:=Gu (j:=q.2.1) (pos:=q.2.2) (sounds es g h1) h2;exact⟨p,aY p rfl⟩
 | .lst es,X,e,g,h=>by
  replace h:=am h
  obtain⟨q,w,h⟩:=h;obtain rfl:=xV w
  replace h:=mu.mp h
  have p:=λ(pos:Pos)=>f_ (λG v hv=>by
   rw[ev,i1]at hv;obtain⟨vs,_,hv⟩:=hv;split at hv
   .cases hv;exact⟨_,rfl⟩
   .cases hv) (B7 (pos:=pos) (sounds es g h.1) h.2)
  exact⟨p _,aY (p _) rfl⟩
 | .idx a i,X,e,g,h=>by
  replace h:=am h
  obtain⟨q,w,h⟩:=h;obtain rfl:=o9 w;simp only[oe]at h;have p:=Gv (pos:=q.2.2) (av a g h.1.1).1 (av i g h.1.2).1 h.2;exact⟨p,aY p rfl⟩
 | .slice a lo hi,X,e,g,h=>by
  replace h:=am h
  obtain⟨⟨v,l,u⟩,w,h⟩:=h;obtain⟨p2,pos,rfl⟩:=AA w;simp only[oe]at h;obtain⟨⟨h1,h2⟩,h3⟩:=h;have bd:∀{b:ME}{o:Option Expr},(∀e,chk T b X.N X.env.scope e=true->PE X e (tE X.K cal b))->pj (λe=>chk T b X.N X.env.scope e) (jP b) o=true->PO X o (tB1 X.K cal b):=λ{b o} hb h2=>by
   cases o with
   |none=>exact DN h2
   |some l =>
    simp only[pj,oe,Jb]at h2;exact DO (hb l h2.1) h2.2
  have p:=AR (p2:=p2) (pos:=pos) (av a g h1).1 (bd (λe he=>(av lo g he).1) h2) (bd (λe he=>(av hi g he).1) h3);exact⟨p,aY p rfl⟩
 | .blt b es,X,e,g,h=>by
  replace h:=am h
  obtain⟨⟨x,args⟩,w,h⟩:=h;obtain⟨p,pos,rfl⟩:=h_ w;simp only[oe,IU]at h;obtain⟨⟨hx,hg⟩,ha⟩:=h;have q:=(rh (p:=p) (pos:=pos) g hx hg ha (λxs J=>⟨sounds es g J,a7 J⟩) (λm x hm hx=>match es,hm with|[m'],rfl=>(av m' g (cy hx).1.1).1) (λa b x x' hm hx=>match es,hm with|[m1,m2],rfl=>⟨(av m1 g (cy hx).1.1).1,(av m2 g (cy (cy hx).2).1.1).1⟩)).2;exact⟨q,aY q rfl⟩
 | .call f es,X,e,g,h=>by
  replace h:=am h
  obtain⟨⟨x,args⟩,w,h⟩:=h;obtain⟨p,pos,rfl⟩:=h_ w;simp only[oe,IU]at h;obtain⟨⟨⟨h1,h2⟩,h3⟩,h4⟩:=h;obtain⟨hs,hl⟩:=a7 h4;have q:=DQ (p:=p) (pos:=pos) g h1 h2 h3 (soundA es g h4) hs hl;exact⟨q,aY q rfl⟩
 | .callD _ _ _,X,e,g,h=>absurd (show false=true from h) kn
 | .fld i n,X,e,g,h=>by
  obtain⟨z,D,h2⟩:=am (show onQ (mi e) (λq=>iD[n]?==some q.2&&au X.N X.env.scope i q.1)=true from h);obtain⟨p,ap,rfl⟩:=i8 D;obtain⟨h3,h4⟩:=mu.mp h2;have q:=Gw (p:=p) (ap:=ap) g (eq_of_beq h3) h4;exact⟨q,aY q rfl⟩
 | .fldL i,X,e,g,h=>by
  obtain⟨z,D,h2⟩:=am (show onQ (mi e) (λq=>q.2==("taken":Str)&&au X.N X.env.scope i q.1)=true from h);obtain⟨p,ap,rfl⟩:=i8 D;obtain⟨h3,h4⟩:=mu.mp h2;rw[eq_of_beq h3];have q:=DZ (p:=p) (ap:=ap) g h4;exact⟨q,aY q rfl⟩
 | .inO neg Z i,X,e,g,h=>by
  obtain⟨z,D,h⟩:=am (show onQ (xY e) (λz=>onQ (mi z.2.2) λq=>z.2.1==(if neg=true then CmpOp.NotIn else CmpOp.In)&&chk T Z X.N X.env.scope z.1&&q.2==("taken":Str)&&au X.N X.env.scope i q.1)=true from h);have hz:=Ec D h;exact Ed g hz (av Z g hz.1).1
 | .callV _ _,X,e,g,h=>(by cases h)
 | .split a y,X,e,g,h=>by
  replace h:=am h
  obtain⟨z,D,h⟩:=h;obtain rfl:=sJ D
  replace h:=am h
  obtain⟨w,e2,h⟩:=h
  replace h:=am h
  obtain⟨c,e3,h⟩:=h;obtain⟨a1,h5⟩:=mu.mp h;obtain⟨a2,h4⟩:=mu.mp a1;obtain⟨a3,h3⟩:=mu.mp a2;obtain⟨h1,h2⟩:=mu.mp a3;have q:=AW g (eq_of_beq h1) (db e2) (o_ e3) h3 h4 h5 (av a g h2).1;exact⟨q,aY q rfl⟩
 | .comp2 _ _ _ _,X,e,g,h=>(by cases h)
 | .callM f i es,X,e,g,h=>by
  obtain⟨z,D,h⟩:=am (show onQ (xZ e) (λq=>qJ X.N X.env.scope T.ms f i (λxs=>chks T es X.N X.env.scope xs) q)=true from h);obtain⟨p,rfl⟩:=ph D;obtain⟨h1,h2,h3,h4,h5,h6⟩:=pF h;obtain⟨hs,hl⟩:=a7 h4;have q:=AV (p:=p) g h1 h2 h3 (soundA es g h4) hs hl h5 h6;exact⟨q,aY q rfl⟩
 | .datL m b,X,e,g,h=>by
  obtain⟨q,D,h⟩:=am (show onQ (x4 e) (λq=>q.2==(if b=true then("weaver":Str)else("moth":Str))&&chk T m X.N X.env.scope q.1)=true from h);obtain⟨o,x⟩:=q;obtain⟨j,p,pos,rfl⟩:=x5 D;obtain⟨h1,h2⟩:=mu.mp h;have q:PE X (.Subscript o (.Constant (.str x) j p) pos) (tE X.K cal (.datL m b)):=DW g (eq_of_beq h1) (av m g h2).1;exact⟨q,aY q rfl⟩
 | .disp kvs m,X,e,g,h=>by
  obtain⟨q,D,h⟩:=am (show onQ (x6 e) (λq=>ml kvs q.1 q.2.1&&chk T m X.N X.env.scope q.2.2&&fj q.2.2&&decide (kvs.length<=15)&&!kvs.isEmpty)=true from h);obtain⟨ks,vs,a⟩:=q;obtain⟨p,pos,rfl⟩:=x9 D;obtain⟨a0,h5⟩:=mu.mp h;obtain⟨a1,h4⟩:=mu.mp a0;obtain⟨a2,h3⟩:=mu.mp a1;obtain⟨h1,h2⟩:=mu.mp a2;have q:PE X (.Subscript (.Dict ks vs p) a pos) (tE X.K cal (.disp kvs m)):=DX g h1 (IX h4) (by simpa using h5) (av m g h2).1 h3;exact⟨q,aY q rfl⟩
 | .join x m,X,e,g,h=>by
  obtain⟨q,D,h⟩:=am (show onQ (x0 e) (λq=>q.1==x&&q.2.1==("join":Str)&&chk T m X.N X.env.scope q.2.2.1&&az q.2.2.1&&q.2.2.2.1.endLine==q.2.2.2.2.line)=true from h);obtain⟨y,md,a,ap,cp⟩:=q;obtain⟨j,p,rfl⟩:=x3 D;obtain⟨a1,h5⟩:=mu.mp h;obtain⟨a2,h4⟩:=mu.mp a1;obtain⟨a3,h3⟩:=mu.mp a2;obtain⟨h1,h2⟩:=mu.mp a3;obtain rfl:y=x:=eq_of_beq h1;obtain rfl:md=("join":Str):=eq_of_beq h2;have q:PE X (.Call (.Attribute (.Constant (.str y) j p) "join" ap) [a] [] cp) (tE X.K cal (.join y m)):=DY (av m g h3).1 h4 h5;exact⟨q,aY q rfl⟩
 | .dIn _ _ _,X,e,g,h=>absurd (show false=true from h) kn
 | .dat _ _,X,e,g,h=>absurd (show false=true from h) kn
 | .dget _ _ _,X,e,g,h=>absurd (show false=true from h) kn
 | .comp k' src js cond elt,X,e,g,h=>by
  replace h:=jQ h
  obtain⟨e,x,px,it,ifs,scope,pos,rfl,h⟩:=h;simp only[oe,Jb]at h;obtain⟨⟨⟨⟨h1,h2⟩,h3⟩,h4⟩,h5⟩:=h;have hw:=mB (tg:=.Name x px) (λz=>by cases z) g h2 (λxs J=>⟨sounds src g J,a7 J⟩) (λm x hm hx=>match src,hm with|[m'],rfl=>(av m' g (cy hx).1.1).1);have q:=f_ re (sP (pos:=pos) g h1 hw.1 hw.2 (λU Y C fp=>sR h3 λc hc=>(av cond (g.blk x (fk X.N js) scope U Y C fp) hc).2) (λU Y C fp=>(av elt (g.blk x (fk X.N js) scope U Y C fp) h4).1) h5);exact⟨q,aY q rfl⟩
theorem sounds{T:Tab}{k:Nat}{cal:Cal}:∀(ms:List ME) {X:Cx}{es:List Expr},Gf X T k cal->chks T ms X.N X.env.scope es=true->PA X es (tEs X.K cal ms)
 | [],X,es,g,h=>by
  cases es with
  |nil=>exact AO
  |cons _ _=>cases h
 |m::ms,X,es,g,h=>by
  cases es with
  |nil=>cases h
  |cons e es =>
   replace h:=cy h
   exact ym (av m g h.1.1).1 (sounds ms g h.2) h.1.2
theorem soundA{T:Tab}{k:Nat}{cal:Cal}:∀(ms:List ME) {X:Cx}{es:List Expr},Gf X T k cal->chks T ms X.N X.env.scope es=true->PA X es (tAs X.K cal ms)
 | [],X,es,g,h=>by
  cases es with
  |nil=>exact yn
  |cons _ _=>cases h
 |m::ms,X,es,g,h=>by
  cases es with
  |nil=>cases h
  |cons e es =>
   replace h:=cy h
   have D:=soundA ms g h.2;cases J:aI m with
   |false=>exact v7 J (av m g h.1.1).1 D h.1.2
   |true =>
    have U:=(av m g h.1.1).1;rcases sK J with⟨i,rfl⟩|⟨i,rfl⟩
    rotate_left
    .exact(bm U D (bA h.1.2 es _)).imp λσ H Q q=>by
      obtain⟨B,E,O,G,vs,st,Y,q⟩:=q;cases (show none=some vs from Y)
    obtain⟨x,p,rfl,h1⟩:=pk h.1.1;exact yp h1 D
end
def Ee(g:Gf X T k cal)(h:chk T Y X.N X.env.scope e=true)(hf:iF Y=true):PE X e (tF X.K cal Y):=by
 cases Y with
 |lst es =>
  replace h:=am h
  obtain⟨q,w,h⟩:=h;obtain rfl:=xV w
  replace h:=mu.mp h
  exact B7 (sounds es g h.1) h.2
 |blt b es =>
  replace h:=am h
  obtain⟨⟨x,args⟩,w,h⟩:=h;refine lf (h_ w) λp pos Z=>?_
  subst Z;simp only[oe,IU]at h;obtain⟨⟨hx,hg⟩,ha⟩:=h;exact(rh (p:=p) (pos:=pos) g hx hg ha (λxs D=>⟨sounds es g D,a7 D⟩) (λm x hm hx=>match es,hm with|[m'],rfl=>(av m' g (cy hx).1.1).1) (λa b x x' hm hx=>match es,hm with|[m1,m2],rfl=>⟨(av m1 g (cy hx).1.1).1,(av m2 g (cy (cy hx).2).1.1).1⟩)).1 hf
 |comp k' src js cond elt =>
  replace h:=jQ h
  obtain⟨e,x,px,it,ifs,scope,pos,rfl,h⟩:=h;simp only[oe,Jb]at h;obtain⟨⟨⟨⟨h1,h2⟩,h3⟩,h4⟩,h5⟩:=h;have hw:=mB (tg:=.Name x px) (λz=>by exact dO z) g h2 (λxs D=>⟨sounds src g D,a7 D⟩) (λm x hm hx=>match src,hm with|[m'],rfl=>(av m' g (cy hx).1.1).1);exact sP (pos:=pos) g h1 hw.1 hw.2 (λJ U C fp=>sR h3 λc hc=>(av cond (g.blk x (fk X.N js) scope J U C fp) hc).2) (λJ U C fp=>(av elt (g.blk x (fk X.N js) scope J U C fp) h4).1) h5
 | _=>exact dO hf
noncomputable def Gy:MV->Bool
 | .brw _=>true
 | .brwD _=>true
 | .brwO _ _=>true
 | _=>false
def uR(h1:d9 m=true)(h2:Gy m=true):False:=by cases m<;>first|(exact dO h2;done)|(exact dO h1;done)
structure bF(B:Hp)(O O':List Addr)(G C:Rho)(σ σ':St):Prop where
 stay:∀a,B a≠none->a∈O->a∈O'
 new:∀a∈O',a∈O\/B a=none
 brw:∀(i:Nat) (m:MV),Gy m=true->C[i]?=some (some m)->G[i]?=some (some m)/\σ'[i]?=σ[i]?
 len:C.length=G.length
 mutO:∀(i:Nat) (fs xs:List PV),C[i]?=some (some (.ownO true fs xs))->(∃ys,G[i]?=some (some (.ownO true fs ys)))/\σ'[i]?=σ[i]?
def bF.refl{B:Hp}{O:List Addr}{G:Rho}{σ:St}:bF B O O G G σ σ:=⟨λ_ _ h=>h,λ_ h=>.inl h,λ_ _ _ h=>⟨h,rfl⟩,rfl,λ_ _ xs h=>⟨⟨xs,h⟩,rfl⟩⟩
theorem bF.trans{B:Hp}{O O1 O2:List Addr}{G q D:Rho}{σ J U:St}(a:bF B O O1 G q σ J)(b:bF B O1 O2 q D J U):bF B O O2 G D σ U where
 stay:=λx h1 h2=>b.stay x h1 (a.stay x h1 h2)
 new:=λx h=>(b.new x h).elim (a.new x) .inr
 brw:=λi xs hm h=>by
  obtain⟨h1,Y⟩:=b.brw i xs hm h;obtain⟨h2,Z⟩:=a.brw i xs hm h1;exact⟨h2,Y.trans Z⟩
 len:=b.len.trans a.len
 mutO:=λi fs xs h=>by
  obtain⟨⟨d1,h1⟩,Y⟩:=b.mutO i fs xs h;obtain⟨h2,Z⟩:=a.mutO i fs d1 h1;exact⟨h2,Y.trans Z⟩
def eH(K:LI)(B:Hp)(E O:List Addr)(G:Rho)(σ:St)(D:mS):R->Prop
 | .next C=>∀q H' O',aK K B E O' H' C q->bF B O O' G C σ q->D.nx q H'
 | .brk C=>∀q H' O',aK K B E O' H' C q->bF B O O' G C σ q->D.bk q H'
 | .cont C=>∀q H' O',aK K B E O' H' C q->bF B O O' G C σ q->D.ct q H'
 | .ret v=>∀u H',ag B H'->Rep K (ak H' E) v u->D.rt u H'
 | .retF xs=>∀p us H',ag B H'->B p=none->H' p=some (.lst us)->Reps K (ak H' (p::E)) xs us->D.rt (.ref p) H'
 | .retT v C=>∀q H' O',aK K B E O' H' C q->bF B O O' G C σ q->D.rt v.v H'
 | .bad=>False
theorem eH.trans{K:LI}{B:Hp}{E O O':List Addr}{G C:Rho}{σ Z:St}{D:mS}{r:R}(h:eH K B E O G σ D r)(k:bF B O O' G C σ Z):eH K B E O' C Z D r:=by
 cases r with
 |next J=>exact λq H2 U st Y=>h q H2 U st (k.trans Y)
 |brk J=>exact λq H2 U st Y=>h q H2 U st (k.trans Y)
 |cont J=>exact λq H2 U st Y=>h q H2 U st (k.trans Y)
 |ret v=>exact h
 |bad=>exact h
 |retF xs=>exact h
 |retT v J=>exact λq H2 U st Y=>h q H2 U st (k.trans Y)
noncomputable def tS(K:LI)(cal:Cal)(m:MS):TS:=λD σ H=>∃B E O G,aK K B E O H G σ/\eH K B E O G σ D (ex cal m G)
noncomputable def tSs(K:LI)(cal:Cal)(ms:List MS):TS:=λD σ H=>∃B E O G,aK K B E O H G σ/\eH K B E O G σ D (exs cal ms G)
section
variable{K:LI}{B H H':Hp}{E O:List Addr}{G:Rho}{σ:St}
def ab(h:i<G.length):(put G i m)[i]?=some (some m):=by unfold put;exact Jd h
def aa(h:i≠j):(put G i m)[j]?=G[j]?:=by unfold put;exact u1 h
def bP :(put G i m).length=G.length:=by unfold put;exact JS
def aK.store(st:aK K B E O H G σ){i:Nat}{v:PV}{u:V}(hi:i<σ.length)(r:Rep K (ak H O) v u):aK K B E O H (put G i (.val v)) (σ.set i (some u))/\bF B O O G (put G i (.val v)) σ (σ.set i (some u)):=by
 have D:i<G.length:=by rw[st.len];exact hi
 refine⟨⟨st.keep,st.here,st.sub,st.old,by rw[bP,JS];exact st.len,λj m e=>?_,λa b xs ys ad Z U Y o1 o2 e3 e4=>?_
  ,fg st.inn (λj m0 e l0=>by
   have J:i≠j:=λz=>by subst z;rw[ab D]at e;cases e;cases l0
   rw[aa J]at e;exact⟨⟨m0,e,l0⟩,u1 J,λ_ _ _ h=>h⟩) λj m c e _ o es=>.inl (by
   have J:i≠j:=λz=>by subst z;rw[ab D]at e;cases e;cases o
   rw[aa J]at e;rw[u1 J]at es;exact⟨m,e,o,es⟩)
  ⟩,⟨λ_ _ h=>h,λ_ h=>.inl h,λj xs ao e=>?_,bP
  ,λj fs xs e=>by
   have J:i≠j:=λz=>by subst z;rw[ab D]at e;cases e
   rw[aa J]at e;exact⟨⟨xs,e⟩,u1 J⟩
  ⟩⟩
 .by_cases J:i=j
  .subst J;rw[ab D]at e;cases e;exact⟨u,Jd hi,r⟩
  .rw[aa J]at e;obtain⟨w,U,q⟩:=st.slot j m e;exact⟨w,by rw[u1 J];exact U,q⟩
 .have h1:i≠a:=λz=>by subst z;rw[ab D]at U;cases U;cases o1
  have h2:i≠b:=λz=>by subst z;rw[ab D]at Y;cases Y;cases o2
  rw[aa h1]at U;rw[aa h2]at Y;rw[u1 h1]at e3;rw[u1 h2]at e4;exact st.apart a b xs ys ad Z U Y o1 o2 e3 e4
 .have J:i≠j:=λz=>by subst z;rw[ab D]at e;cases e;cases ao
  rw[aa J]at e;exact⟨e,u1 J⟩
def aK.storeM(st:aK K B E O H G σ){i:Nat}{mm:MV}{p:Addr}(hi:i<σ.length)(s:ag H H')(hp:H p=none)(e:H' p≠none)(hm:d9 mm=true)
  (r:B p=none->d8 K B (p::O) H' mm (.ref p))
  (a6:isL mm=false:=by rfl)
  :
  aK K B E (p::O) H' (put G i mm) (σ.set i (some (.ref p)))/\bF B O (p::O) G (put G i mm) σ (σ.set i (some (.ref p))):=by
 have a0:i<G.length:=by rw[st.len];exact hi
 have bt:B p=none:=st.keep.free hp;have Z:ag (ak H O) (ak H' (p::O)):=aV s λb hb=>by
  rcases rb.mp hb with rfl|hb
  .exact .inr hp
  .exact .inl hb
 refine⟨⟨st.keep.trans s,λa U=>?_,λa U=>Je _ (st.sub a U),st.old,by rw[bP,JS];exact st.len,λj m Y=>?_,λa b xs ys ad bB e1 D o1 o2 e3 e4=>?_
  ,fg (st.mono s).inn (λj m0 e l0=>by
   have J:i≠j:=λz=>by subst z;rw[ab a0]at e;cases e;rw[a6]at l0;cases l0
   rw[aa J]at e;exact⟨⟨m0,e,l0⟩,u1 J,λ_ _ _ h=>h⟩) λj m c e _ o es=>by
   by_cases J:i=j
   .subst J;rw[Jd hi]at es;cases es;refine .inr λk m1 a l f1 f0 f2 f3 z=>?_
    subst z;obtain⟨u,e3,q⟩:=st.slot k _ f1;rw[f2]at e3;cases e3;cases m1<;>try (cases f0;done)
    obtain⟨a',l',e4,q⟩:=q;cases e4;obtain⟨C,dx,gs,e5,_⟩:=q.ob;have e6:=q.l;rw[s _ _ e5]at f3;rw[e5]at e6;rw[e6]at f3;cases f3;obtain⟨us,e7,_⟩:=q.li;rw[hp]at e7;cases e7
   .rw[aa J]at e;rw[u1 J]at es;exact .inl ⟨m,e,o,es⟩
  ⟩,⟨λ_ _ h=>Je _ h,λa U=>?_,λj xs b0 Y=>?_,bP
  ,λj fs xs Y=>by
   have J:i≠j:=λz=>by subst z;rw[ab a0]at Y;cases Y;cases a6
   rw[aa J]at Y;exact⟨⟨xs,Y⟩,u1 J⟩
  ⟩⟩
 .rcases rb.mp U with rfl|U
  .exact e
  .exact λz=>st.here a U (s.free z)
 .by_cases J:i=j
  .subst J;rw[ab a0]at Y;cases Y;exact⟨_,Jd hi,r bt⟩
  .rw[aa J]at Y;obtain⟨w,e1,q⟩:=st.slot j m Y;refine⟨w,by rw[u1 J];exact e1,?_⟩;cases m with
   |val v=>exact Rep.mono Z _ q
   |own ys=>obtain⟨a,ws,D,h1,h2,h3,h4⟩:=q;exact⟨a,ws,D,s _ _ h1,Reps.mono Z _ h2,Je _ h3,h4⟩
   |brw ys=>obtain⟨a,ws,D,h1,h2⟩:=q;exact⟨a,ws,D,h1,Reps.mono Z _ h2⟩
   |ownD ys=>obtain⟨a,D,h1,h3,h4⟩:=q;exact⟨a,D,h1.move (s _) Z,Je _ h3,h4⟩
   |ownO _ fs ys=>obtain⟨a,l,D,q⟩:=q;exact⟨a,l,D,q.move Z (λ_=>s _ _) (λ_=>s _ _) (Je _ q.aO) (Je _ q.lO) q.aB q.lB⟩
   |brwO fs ys=>obtain⟨a,D,q⟩:=q;exact⟨a,D,q.move (ag.refl B) Z⟩
   |brwD ys=>exact q
 .have ao:∀(j:Nat) (zs:MV) (ad:Addr),G[j]?=some (some zs)->d9 zs=true->σ[j]?=some (some (.ref ad))->ad≠p:=λj zs ad h1 ho h2 z=>by
   obtain⟨w,e1,q⟩:=st.slot j _ h1;rw[h2]at e1;cases e1;cases zs with
   |own zs =>
    obtain⟨a,ws,D,h1,_⟩:=q;cases D;rw[z,hp]at h1;cases h1
   |ownD zs =>
    obtain⟨a,D,h1,_⟩:=q;cases D;obtain⟨o,h1⟩:=h1.here;rw[z,hp]at h1;cases h1
   |ownO _ fs zs =>
    obtain⟨a,l,D,q⟩:=q;cases D;obtain⟨C,dx,gs,h1,_⟩:=q.ob;rw[z,hp]at h1;cases h1
   |brwO _ _=>cases ho
   |val _=>cases ho
   |brw _=>cases ho
   |brwD _=>cases ho
  by_cases U:i=a
  .subst U;have hb:i≠b:=bB;rw[Jd hi]at e3;rw[aa hb]at D;rw[u1 hb]at e4;cases e3;exact ao b ys _ D o2 e4 rfl
  .by_cases hb:i=b
   .subst hb;rw[Jd hi]at e4;rw[aa U]at e1;rw[u1 U]at e3;cases e4;exact ao a xs _ e1 o1 e3 rfl
   .rw[aa U]at e1;rw[aa hb]at D;rw[u1 U]at e3;rw[u1 hb]at e4;exact st.apart a b _ _ ad bB e1 D o1 o2 e3 e4
 .rcases rb.mp U with rfl|U
  .exact .inr bt
  .exact .inl U
 .have J:i≠j:=λz=>by subst z;rw[ab a0]at Y;cases Y;exact uR hm b0
  rw[aa J]at Y;exact⟨Y,u1 J⟩
def aK.storeOwn(st:aK K B E O H G σ){i:Nat}{xs:List PV}{p:Addr}{us:List V}(hi:i<σ.length)(s:ag H H')(q:H p=none)(e:H' p=some (.lst us))(r:Reps K (ak H' (p::O)) xs us) :
  aK K B E (p::O) H' (put G i (.own xs)) (σ.set i (some (.ref p)))/\bF B O (p::O) G (put G i (.own xs)) σ (σ.set i (some (.ref p))):=
 st.storeM hi s q (by rw[e];simp) rfl λD=>⟨p,us,rfl,e,r,Jz,D⟩
def aK.changeM(st:aK K B E O H G σ){i:Nat}{m0 m1:MV}{a:Addr}{ob:HO}(e:G[i]?=some (some m0))(o0:d9 m0=true)(o1:d9 m1=true)
  (es:σ[i]?=some (some (.ref a))) (h3:a∈O) (h4:B a=none) (r:ak (upd H a ob) O=ak H O->d8 K B O (upd H a ob) m1 (.ref a))
  (a3:isL m1=false:=by rfl) (b5:isL m0=false:=by rfl)
  :
  aK K B E O (upd H a ob) (put G i m1) σ/\bF B O O G (put G i m1) σ σ:=by
 have Z:i<G.length:=(vp.mp e).1;have Y:ak (upd H a ob) O=ak H O:=jn h3;have U:∀(j:Nat) (zs:MV) (ad:Addr),i≠j->G[j]?=some (some zs)->d9 zs=true->σ[j]?=some (some (.ref ad))->ad≠a:=λj zs ad J q1 o2 q2 z=>by
  subst z;exact st.apart i j m0 zs ad J e q1 o0 o2 es q2
 refine⟨⟨λb u eb=>?_,λb hb=>?_,st.sub,st.old,by rw[bP];exact st.len,λj m D=>?_,λc d ps qs ad bB e1 e2 p1 p2 e3 e4=>?_
  ,fg st.inn (λj mo D l0=>by
   have J:i≠j:=λz=>by subst z;rw[ab Z]at D;cases D;rw[a3]at l0;cases l0
   rw[aa J]at D;refine⟨⟨mo,D,l0⟩,rfl,λb l e1 e2=>?_⟩;rw[al (U j _ b J D (by cases mo<;>first|(cases l0;done)|rfl) e1)]at e2;exact e2) λj m c D _ o ec=>.inl (by
   by_cases J:i=j
   .subst J;exact⟨m0,e,o0,ec⟩
   .rw[aa J]at D;exact⟨m,D,o,ec⟩)
  ⟩,⟨λ_ _ h=>h,λ_ h=>.inl h,λj zs bR D=>?_,bP
  ,λj fs xs D=>by
   have J:i≠j:=λz=>by subst z;rw[ab Z]at D;cases D;cases a3
   rw[aa J]at D;exact⟨⟨xs,D⟩,rfl⟩
  ⟩⟩
 .rw[al (aR eb h4)];exact st.keep b u eb
 .unfold upd;split
  .simp
  .exact st.here b hb
 .by_cases J:i=j
  .subst J;rw[ab Z]at D;cases D;exact⟨_,es,r Y⟩
  .rw[aa J]at D;obtain⟨w,ew,q⟩:=st.slot j m D;refine⟨w,ew,?_⟩;cases m with
   |val v=>show Rep K (ak (upd H a ob) O) v w;rw[Y];exact q
   |own zs =>
    obtain⟨ad,ws,rfl,q1,q2,q3,q4⟩:=q;refine⟨ad,ws,rfl,?_,by rw[Y];exact q2,q3,q4⟩;rw[al (U j (.own zs) ad J D rfl ew)];exact q1
   |ownD zs =>
    obtain⟨ad,rfl,q1,q3,q4⟩:=q;refine⟨ad,rfl,q1.move (λo eo=>?_) (by rw[Y];exact ag.refl _),q3,q4⟩;rw[al (U j (.ownD zs) ad J D rfl ew)];exact eo
   |ownO b fs zs =>
    obtain⟨ad,l,rfl,q⟩:=q;have n1:=U j (.ownO b fs zs) ad J D rfl ew;have n2:=(st.inn j _ ad l D rfl ew q.l i m0 (λz=>J z) e).2 a o0 es;exact⟨ad,l,rfl,q.move (by rw[Y];exact ag.refl _) (λo h=>by rw[al n1];exact h) (λo h=>by rw[al (Jk n2)];exact h) q.aO q.lO q.aB q.lB⟩
   |brwO fs zs=>obtain⟨ad,rfl,q⟩:=q;exact⟨ad,rfl,q.move (ag.refl B) (by rw[Y];exact ag.refl _)⟩
   |brwD zs=>exact q
   |brw zs=>obtain⟨ad,ws,rfl,q1,q2⟩:=q;exact⟨ad,ws,rfl,q1,by rw[Y];exact q2⟩
 .have h1:∀(j:Nat) (zs:MV),(put G i m1)[j]?=some (some zs)->d9 zs=true->∃zs,G[j]?=some (some zs)/\d9 zs=true:=λj zs q oz=>by
   by_cases J:i=j
   .subst J;exact⟨m0,e,o0⟩
   .rw[aa J]at q;exact⟨zs,q,oz⟩
  obtain⟨q1,e1,p1⟩:=h1 c ps e1 p1;obtain⟨q2,e2,p2⟩:=h1 d qs e2 p2;exact st.apart c d q1 q2 ad bB e1 e2 p1 p2 e3 e4
 .have J:i≠j:=λz=>by subst z;rw[ab Z]at D;cases D;exact uR o1 bR
  rw[aa J]at D;exact⟨D,rfl⟩
def aK.change(st:aK K B E O H G σ){i:Nat}{xs ys:List PV}{a:Addr}{us:List V}(e:G[i]?=some (some (.own xs)))(es:σ[i]?=some (some (.ref a)))(r:Reps K (ak H O) ys us) :
  aK K B E O (upd H a (.lst us)) (put G i (.own ys)) σ/\bF B O O G (put G i (.own ys)) σ σ:=by
 obtain⟨w,D,Y,J,U,h1,h2,h3,h4⟩:=st.slot i _ e;rw[es]at D;cases D;cases U;exact st.changeM e rfl rfl es h3 h4 λq=>⟨a,us,rfl,ar,by rw[q];exact r,h3,h4⟩
def aK.freeze(st:aK K B E O H G σ){i:Nat}{xs:List PV}(e:G[i]?=some (some (.own xs))):∃O',aK K B E O' H (put G i (.val (.lst xs))) σ/\bF B O O' G (put G i (.val (.lst xs))) σ σ:=by
 obtain⟨w,es,a,us,rfl,h1,h2,h3,h4⟩:=st.slot i _ e;have Y:i<G.length:=(vp.mp e).1;have U:ag (ak H O) (ak H (O.filter λb=>decide (b≠a))):=aV (ag.refl H) λb Z=>.inl (IV.mp Z).1
 have mem:∀b,b≠a->b∈O->b∈O.filter λb=>decide (b≠a):=λb Z ho=>IV.mpr ⟨ho,IM Z⟩
 refine⟨O.filter λb=>decide (b≠a),⟨st.keep,λb Z=>st.here b (IV.mp Z).1,λb Z=>mem b (λz=>st.old b Z (z▸h4)) (st.sub b Z),st.old,by rw[bP];exact st.len,λj m D=>?_,λc d ps qs ad a0 e1 e2 p1 p2 e3 e4=>?_
  ,fg st.inn (λj mo D l0=>by
   have J:i≠j:=λz=>by subst z;rw[ab Y]at D;cases D;cases l0
   rw[aa J]at D;exact⟨⟨mo,D,l0⟩,rfl,λ_ _ _ h=>h⟩) λj m c D _ o ec=>.inl (by
   have J:i≠j:=λz=>by subst z;rw[ab Y]at D;cases D;cases o
   rw[aa J]at D;exact⟨m,D,o,ec⟩)
  ⟩,⟨λb Z ho=>mem b (λz=>Z (z▸h4)) ho,λb Z=>.inl (IV.mp Z).1,λj zs a1 D=>?_,bP
  ,λj fs xs D=>by
   have J:i≠j:=λz=>by subst z;rw[ab Y]at D;cases D
   rw[aa J]at D;exact⟨⟨xs,D⟩,rfl⟩
  ⟩⟩
 .by_cases J:i=j
  .subst J;rw[ab Y]at D;cases D;refine⟨_,es,?_⟩;show Rep K _ (.lst xs) (.ref a);rw[Rep];refine⟨a,us,rfl,SqL.of ?_,Reps.mono U _ h2⟩;have a2:a∉O.filter λb=>decide (b≠a):=λz=>by simpa using (IV.mp z).2
   rw[aH a2];exact h1
  .rw[aa J]at D;obtain⟨w,ew,q⟩:=st.slot j m D;refine⟨w,ew,?_⟩;cases m with
   |val v=>exact Rep.mono U _ q
   |own zs =>
    obtain⟨ad,ws,rfl,q1,q2,q3,q4⟩:=q;exact⟨ad,ws,rfl,q1,Reps.mono U _ q2,mem ad (λz=>st.apart i j (.own xs) (.own zs) a J e D rfl rfl es (by rw[ew,z])) q3,q4⟩
   |ownD zs =>
    obtain⟨ad,rfl,q1,q3,q4⟩:=q;exact⟨ad,rfl,q1.move (λ_ eo=>eo) U,mem ad (λz=>st.apart i j (.own xs) (.ownD zs) a J e D rfl rfl es (by rw[ew,z])) q3,q4⟩
   |ownO b fs zs =>
    obtain⟨ad,l,rfl,q⟩:=q;have n2:=(st.inn j _ ad l D rfl ew q.l i (.own xs) (λz=>J z) e).2 a rfl es;exact⟨ad,l,rfl,q.move U (λ_ h=>h) (λ_ h=>h) (mem ad (λz=>st.apart i j (.own xs) (.ownO b fs zs) a J e D rfl rfl es (by rw[ew,z])) q.aO) (mem l (Jk n2) q.lO) q.aB q.lB⟩
   |brwO fs zs=>obtain⟨ad,rfl,q⟩:=q;exact⟨ad,rfl,q.move (ag.refl B) U⟩
   |brwD zs=>exact q
   |brw zs=>obtain⟨ad,ws,rfl,q1,q2⟩:=q;exact⟨ad,ws,rfl,q1,Reps.mono U _ q2⟩
 .have h1:∀(j:Nat) (zs:MV),d9 zs=true->(put G i (.val (.lst xs)))[j]?=some (some zs)->G[j]?=some (some zs):=λj zs oz q=>by
   by_cases J:i=j
   .subst J;rw[ab Y]at q;cases q;cases oz
   .rw[aa J]at q;exact q
  exact st.apart c d ps qs ad a0 (h1 c ps p1 e1) (h1 d qs p2 e2) p1 p2 e3 e4
 .have J:i≠j:=λz=>by subst z;rw[ab Y]at D;cases D;cases a1
  rw[aa J]at D;exact⟨D,rfl⟩
end
section
open AutoSeq1 (wpAny_loadPart')
open MeetsSeq MeetsSeq2 MeetsSeq3 SeqRoads2 AutoSeq1
def pH(l)(items)(n)(b)(q)(n2)(D)(J)(Y:¬(!items.isEmpty&&Builtin.List.listTooLong (items.size+q.size))=true)(U:items.size<=sizeLine)(Z:items.size+q.size<=sizeLine+1) :
  Meets (Builtin.«list.extend» ⟨[.ref l,.ref b],[]⟩) (λ_ R s=>s.heap.get? l=some { cls:=.type "list",dict:=none,data:=.seq items n,slots:=#[] }/\s.heap.get? b=some { cls:=.type "tuple",dict:=D,data:=.seq q n2,slots:=J }/\R (.ok (.ret Value.none)) { s with heap:=s.heap.update l (Obj.mapSeq λx=>x++q),toks:=s.toks }):=
 .of_wp λprog w A R s h=>by
  obtain⟨hp,g,d,tk,os⟩:=s;obtain⟨hl,hb,h⟩:=h;have f1:=AutoSeq1.idx_int;have f2:=KI;have f3:=K0;have f4:=AutoSeq1.sub_tuple_list;have f5:=AutoSeq1.sub_list_tuple;
  wp_walk using (wpAny_updateSeq hl rfl (hz:=U)),wpAny_loadPart' hl,wpAny_loadPart' hb;exact⟨_,rfl,h⟩
def pI(l)(items)(n)(b)(q)(n2)(D)(J)(Y:¬(!items.isEmpty&&Builtin.List.listTooLong (items.size+q.size))=true)(U:items.size<=sizeLine)(Z:items.size+q.size<=sizeLine+1) :
  Meets (Builtin.«list.extend» ⟨[.ref l,.ref b],[]⟩) (λ_ R s=>s.heap.get? l=some { cls:=.type "list",dict:=none,data:=.seq items n,slots:=#[] }/\s.heap.get? b=some { cls:=.type "list",dict:=D,data:=.seq q n2,slots:=J }/\R (.ok (.ret Value.none)) { s with heap:=s.heap.update l (Obj.mapSeq λx=>x++q),toks:=s.toks }):=
 .of_wp λprog w A R s h=>by
  obtain⟨hp,g,d,tk,os⟩:=s;obtain⟨hl,hb,h⟩:=h;have f1:=AutoSeq1.idx_int;have f2:=KI;have f3:=K0;have f4:=AutoSeq1.sub_tuple_list;have f5:=AutoSeq1.sub_list_tuple;
  wp_walk using (wpAny_updateSeq hl rfl (hz:=U)),wpAny_loadPart' hl,wpAny_loadPart' hb;exact⟨_,rfl,h⟩
end
section
variable{X:Cx}{T:Tab}{k:Nat}{cal:Cal}
def sU:MtM X "list.extend" (λx vs H Q=>∃l b xs zs,x=.ref l/\vs=[.ref b]/\H l=some (.lst xs)/\(SqL X.K H b zs\/SqT X.K H b zs)/\xs.length+zs.length<=sizeLine/\Q .non (upd H l (.lst (xs++zs)))):=by
 intro pins s σ H x vs v us Q I rx rv h;refine bY λZq kq=>?_
 obtain⟨l,b,xs,zs,rfl,rfl,hH,Z,hz,q⟩:=h;subst rx;refine ae rv.one λu ao ru=>?_
 subst ao;subst ru;obtain⟨z,its,n,r,hl,e⟩:=I.lstM hH;have fin:∀D,aA zs D->EP X pins σ Q .none { s with heap:=s.heap.update l (Obj.mapSeq λx=>x++D.toArray),toks:=s.toks }:=λD U =>
  ⟨.non,_,I.lset (its':=its++D) hH e (by simp) (r.append U) (by rw[I0];omega),rfl,q⟩
 refine kq ?_;rcases Z with Z|Z
 .obtain⟨D,U,pl,z2⟩:=I.list Z;have aL:=U.length;have Y:its.toArray.size+D.toArray.size<=sizeLine:=by rw[pb,pb];omega
  have J:¬ (!its.toArray.isEmpty&&Builtin.List.listTooLong (its.toArray.size+D.toArray.size))=true:=by
   rw[qh Y,LG];exact kn
  obtain⟨⟨cls,dd,data,sl⟩,ho,hc,n2,hd⟩:=pl.isList;simp only at hc hd;subst hc hd;exact J7 PySem.F.slot_list_extend ⟨_,e,rfl⟩ PySem.F.entry_list_extend (PySem.F.args_list_extend_2 _ _) (pI l its.toArray n b D.toArray n2 dd sl J (by rw[pb];omega) (by omega)) ⟨e,ho,fin D U⟩
 .obtain⟨D,U,pl,z2⟩:=I.tuple Z;have aL:=U.length;have Y:its.toArray.size+D.toArray.size<=sizeLine:=by rw[pb,pb];omega
  have J:¬ (!its.toArray.isEmpty&&Builtin.List.listTooLong (its.toArray.size+D.toArray.size))=true:=by
   rw[qh Y,LG];exact kn
  obtain⟨⟨cls,dd,data,sl⟩,ho,hc,n2,hd⟩:=pl;simp only at hc hd;subst hc hd;exact J7 PySem.F.slot_list_extend ⟨_,e,rfl⟩ PySem.F.entry_list_extend (PySem.F.args_list_extend_2 _ _) (pH l its.toArray n b D.toArray n2 dd sl J (by rw[pb];omega) (by omega)) ⟨e,ho,fin D U⟩
structure Df(X:Cx):Prop where
 nd:X.N.Nodup
 fn:∀x,X.fn x=true
 own:PassesOwn (model X.prog X.w) X.A X.env X.xe
 blk:(X.env.blockKind==.function)=true
def cg(h:ce v=true)(t)(n)(env):swapsWith v t n env=pure false:=by
 cases v<;>first|rfl|(injection h)
def v8(d:Df X)(h:BX X.env.scope x px v=true):swapsWith v (some (.Name x px)) n X.env=pure true:=by
 obtain⟨⟨e,gs,s,p⟩,w,h⟩:=am h;obtain rfl:=sI w;show pure _=pure true;rw[d.blk,Bool.true_and];exact JP pure h
def v9(h:ya X.env.scope x v=true):swapsWith v (some (.Name x px)) n X.env=pure false:=by
 cases v with
 |ListComp e gs s p =>
  show pure (X.env.blockKind==.function&&X.env.kindOf x==some .local&&px.line==p.line&&!(s.names.any λ(n,k)=>n==x&&_))=pure false;have h':(!(X.env.scope.names.lookup x==some .local))=true:=h;rw[Jb]at h';have h2:(X.env.kindOf x==some .local)=false:=h';rw[h2,LG,La,La]
 | _=>injection h
def PS.imp'(h:PS X e t)(i:∀D σ H,σ.length=X.N.length->t' D σ H->t D σ H):PS X e t':=λpins s σ H D I q=>h pins s σ H D I (i D σ H I.len q)
def ltN{N:List Str}{σ:St}(h:N[i]?=some x)(hl:σ.length=N.length):i<σ.length:=by rw[hl];exact(vp.mp h).1
def cT{K:LI}(h:eH K B E O G σ D (dU o f)):∃v,o=some v/\eH K B E O G σ D (f v):=by
 cases o with
 |none=>exact(show False from h).elim
 |some v=>exact⟨v,rfl,h⟩
def v_{K:LI}(h:eH K B E O G σ D (xT o f)):∃v,o=some v/\eH K B E O G σ D (f v):=by
 cases o with
 |none=>exact(show False from h).elim
 |some v=>exact⟨v,rfl,h⟩
def sV{K:LI}(hi:i<σ.length)(Y:aI U=false)(q:tS K cal (.set i U) D σ H):jB (tE K cal U) (cX i) D σ H:=by
 refine gz q λB E O G st q=>?_
 refine ae (cT q) λw e q=>?_
 refine⟨B,E,O,G,w,st,e,λu H' s g=>?_⟩;obtain⟨J,Z⟩:=(st.mono s).store hi (g.2 Y);exact q _ H' O J Z
def Gz(d:Df X)(hi:X.N[i]?=some x)(hx:Loc X.env.scope x)(h:PE X v (tE X.K cal J))(U:aI J=false)(hc:ce v=true):PS X (.Assign [.Name x px] v pos) (tS X.K cal (.set i J)):=
 PS.imp' (gG d.nd hi hx h (cg hc _ _ _) (.inl (d.fn x))) λD σ H hl q=>sV (ltN hi hl) U q
def yx{K:LI}(hi:i<σ.length)(q:tS K cal (.setOwn i U) D σ H):jB (tF K cal U) (cX i) D σ H:=by
 refine gz q λB E O G st q=>?_
 refine ae (cT q) λw e q=>?_
 cases w with
 |lst xs =>
  refine⟨B,E,O,G,xs,st,e,λp us H' s Y Z r=>?_⟩;obtain⟨J,k'⟩:=st.storeOwn hi s Y Z r;exact q _ H' _ J k'
 | _=>exact(show False from q).elim
def GA(d:Df X)(hi:X.N[i]?=some x)(hx:Loc X.env.scope x)(h:PE X v (tF X.K cal J))(hc:ce v=true):PS X (.Assign [.Name x px] v pos) (tS X.K cal (.setOwn i J)):=
 PS.imp' (gG d.nd hi hx h (cg hc _ _ _) (.inl (d.fn x))) λD σ H hl q=>yx (ltN hi hl) q
def yy{i:Nat}{Y:ME}{x:Str}{v:Expr}{p apos cpos pos:Pos}(h:PE X v (tE X.K cal Y))(hn:au X.N X.env.scope i x=true)(hb:aI Y=false)(Z:az v=true)(J:(apos.endLine==cpos.line)=true) :
  PS X (.Expr (.Call (.Attribute (.Name x p) "append" apos) [v] [] cpos) pos) (tS X.K cal (.append i Y)):=by
 refine(gb (nE PySem.F.plainAttrs_list PySem.F.slot_list_append PySem.F.type_list_append hX (bn hn) (bm h b6 (bA Z _ _)) rfl (by rw[bA Z];rfl) J (bA Z _ _) rfl) rfl).imp λD σ H q=>?_
 obtain⟨B,E,O,G,st,q⟩:=q;rw[ex]at q;obtain⟨w,e,q⟩:=cT q;cases U:(G[i]?).join with
 |none=>rw[U]at q;exact(show False from q).elim
 |some m =>
  rw[U]at q;cases m with
  |own xs =>
   dsimp only at q;split at q
   .rename_i hl;obtain⟨u,eu,a,us,rfl,ha,rs,hO,hB⟩:=bo st U;refine⟨_,eu,.inl ⟨rfl,us,SqL.of ha⟩,B,E,O,G,w,st,e,λu H1 s g=>⟨a,us,u,rfl,rfl,s _ _ ha,?_,?_⟩⟩
    .rw[<- rs.length];exact x1 hl (by decide)
    .obtain⟨ao,k'⟩:=(st.mono s).change (us:=us++[u]) (ys:=xs++[w]) (join_some U) eu ((Reps.mono (ah s) _ rs).snoc (g.2 hb));exact q _ _ _ ao k'
   .exact(show False from q).elim
  |val _=>exact(show False from q).elim
  |brw _=>exact(show False from q).elim
  |ownD _=>exact(show False from q).elim
  |ownO _ _ _=>exact(show False from q).elim
  |brwO _ _=>exact(show False from q).elim
  |brwD _=>exact(show False from q).elim
def yz{i:Nat}{me:ME}{x:Str}{v:Expr}{p apos cpos pos:Pos}(h:PE X v (tE X.K cal me))(hn:au X.N X.env.scope i x=true)(Z:az v=true)(J:(apos.endLine==cpos.line)=true) :
  PS X (.Expr (.Call (.Attribute (.Name x p) "extend" apos) [v] [] cpos) pos) (tS X.K cal (.extend i me)):=by
 refine(gb (nE PySem.F.plainAttrs_list PySem.F.slot_list_extend PySem.F.type_list_extend sU (bn hn) (bm h b6 (bA Z _ _)) rfl (by rw[bA Z];rfl) J (bA Z _ _) rfl) rfl).imp λD σ H q=>?_
 obtain⟨B,E,O,G,st,q⟩:=q;rw[ex]at q;obtain⟨w,e,q⟩:=cT q;cases Y:(G[i]?).join with
 |none=>rw[Y]at q;exact(show False from q).elim
 |some m =>
  rw[Y]at q;cases m with
  |own xs =>
   cases hw:bq w with
   |none=>rw[hw]at q;exact(show False from q).elim
   |some ys =>
    rw[hw]at q;dsimp only at q;split at q
    .rename_i hl;obtain⟨u,eu,a,us,rfl,ha,rs,hO,hB⟩:=bo st Y;refine⟨_,eu,.inl ⟨rfl,us,SqL.of ha⟩,B,E,O,G,w,st,e,λu H1 s g=>?_⟩;obtain⟨b,ws,rfl,sq,U⟩:=g.1.seq hw;refine⟨a,b,us,ws,rfl,rfl,s _ _ ha,sq,?_,?_⟩
     .rw[<- rs.length,<- U.length];exact fZ hl
     .obtain⟨ao,k'⟩:=(st.mono s).change (us:=us++ws) (ys:=xs++ys) (join_some Y) eu ((Reps.mono (ah s) _ rs).append U);exact q _ _ _ ao k'
    .exact(show False from q).elim
  |val _=>exact(show False from q).elim
  |brw _=>exact(show False from q).elim
  |ownD _=>exact(show False from q).elim
  |ownO _ _ _=>exact(show False from q).elim
  |brwO _ _=>exact(show False from q).elim
  |brwD _=>exact(show False from q).elim
def Ef(h:PE X v (tE X.K cal J))(hc:ce v=true):PS X (.Expr v pos) (tS X.K cal (.expr J)):=by
 refine(gb h (cg hc _ _ _)).imp λD σ H q=>?_
 refine gz q λB E O G st q=>?_
 refine ae (cT q) λw e q=>?_
 exact⟨B,E,O,G,w,st,e,λu H' s g=>q _ H' O (st.mono s) .refl⟩
def GB(h:PE X v (tE X.K cal U))(J:aI U=false):PS X (.Return (some v) pos) (tS X.K cal (.ret U)):=by
 refine(gc h).imp λD σ H q=>?_
 refine gz q λB E O G st q=>?_
 refine ae (cT q) λw e q=>?_
 exact⟨B,E,O,G,w,st,e,λu H' s g=>q u H' (st.keep.trans s) (Rep.mono (aV (ag.refl H') λb J=>.inl (st.sub b J)) _ (g.2 J))⟩
def yA{i:Nat}{x:Str}{p pos:Pos}(hn:au X.N X.env.scope i x=true):PS X (.Return (some (.Name x p)) pos) (tS X.K cal (.retOwn i)):=by
 refine(gc (bn hn)).imp λD σ H q=>?_
 obtain⟨B,E,O,G,st,q⟩:=q;rw[ex]at q;have J:ag (ak H O) (ak H E):=aV (ag.refl H) λb hb=>.inl (st.sub b hb)
 cases U:(G[i]?).join with
 |none=>rw[U]at q;exact(show False from q).elim
 |some m =>
  rw[U]at q;cases m with
  |own xs =>
   obtain⟨u,Y,a,us,rfl,Z,rs,hO,hB⟩:=bo st U;refine⟨_,Y,q _ H st.keep ?_⟩;rw[Rep];refine⟨a,us,rfl,SqL.of ?_,Reps.mono J _ rs⟩;rw[aH λz=>st.old a z hB];exact Z
  |val v =>
   obtain⟨u,Y,so⟩:=bo st U;exact⟨_,Y,q _ H st.keep (Rep.mono J _ so)⟩
  |brw _=>exact(show False from q).elim
  |ownD kvs =>
   obtain⟨u,Y,a,rfl,Z,hO,hB⟩:=bo st U;refine⟨_,Y,q _ H st.keep ?_⟩;rw[Rep];refine⟨a,rfl,.inl ?_⟩;rw[aH λz=>st.old a z hB];exact Z
  |ownO _ _ _=>exact(show False from q).elim
  |brwO _ _=>exact(show False from q).elim
  |brwD _=>exact(show False from q).elim
def Ih(hc:PT X t (tT X.K cal c))(J:PSs X x (tSs X.K cal a))(U:PSs X y (tSs X.K cal b)):PS X (.If t x y pos) (tS X.K cal (.ite c a b)):=by
 refine(nv hc J U).imp λD σ H q=>?_
 refine gz q λB E O G st q=>?_
 refine ae (v_ q) λw e q=>?_
 refine⟨B,E,O,G,w,st,e,λH' s=>?_⟩;cases w<;>first|(rw[if_pos rfl]at q ⊢;exact⟨B,E,O,G,st.mono s,q⟩)|(rw[if_neg (by simp)]at q ⊢;exact⟨B,E,O,G,st.mono s,q⟩)
def Eg{m:MS}{ms:List MS}{st:Stmt}{ss:List Stmt}(h1:PS X st (tS X.K cal m))(h2:PSs X ss (tSs X.K cal ms)):PSs X (st::ss) (tSs X.K cal (m::ms)):=by
 refine(be h1 h2).imp λD σ H q=>?_
 obtain⟨B,E,O,G,st,q⟩:=q;refine⟨B,E,O,G,st,?_⟩;rw[exs]at q;cases e:ex cal m G with
 |next C=>rw[e]at q;exact λU H' O' J k=>⟨B,E,O',C,J,eH.trans q k⟩
 |brk C=>rw[e]at q;exact q
 |cont C=>rw[e]at q;exact q
 |ret v=>rw[e]at q;exact q
 |bad=>rw[e]at q;exact q
 |retF xs=>rw[e]at q;exact q
 |retT v Y=>rw[e]at q;exact q
def GC:PSs X [] (tSs X.K cal []):=by
 refine iR.imp λD σ H q=>?_
 refine gz q λB E O G st q=>?_
 exact q σ H O st .refl
end
section
variable{K:LI}{B H H':Hp}{E O:List Addr}{G:Rho}{σ:St}
def yB{i j:Nat}{m:MV}(h:Aw G i=true)(q:i≠j)(e:G[j]?=some (some m)):isL m=false:=by
 have:=JE.mp h (some m) (JR (show(G.set i none)[j]?=some (some m)by rw[u1 q];exact e));simpa using this
def jo(st:aK K B E O H G σ){j:Nat}{m:MV}{c:Addr}(e:G[j]?=some (some m))(o:d9 m=true)(es:σ[j]?=some (some (.ref c))):H c≠none:=by
 obtain⟨w,J,q⟩:=st.slot j _ e;rw[es]at J;cases J;cases m with
 |own zs=>obtain⟨a,ws,D,h1,_⟩:=q;cases D;rw[h1];simp
 |ownD zs=>obtain⟨a,D,h1,_⟩:=q;cases D;rw[h1];simp
 |ownO _ _ _=>obtain⟨a,l,D,q⟩:=q;cases D;obtain⟨C,dx,gs,h1,_⟩:=q.ob;rw[h1];simp
 |val _=>cases o
 |brw _=>cases o
 |brwD _=>cases o
 |brwO _ _=>cases o
def aK.changeO(st:aK K B E O H G σ){i:Nat}{b:Bool}{fs xs ys:List PV}{a l l':Addr}(e:G[i]?=some (some (.ownO b fs xs)))(es:σ[i]?=some (some (.ref a)))(q:cc K B O H fs xs a l)(kp:∀c o,c≠a->c≠l->H c=some o->H' c=some o)(hl:l'=l\/H l'=none)
  (q':cc K (λ_=>none) (l'::O.filter λb=>decide (b≠l)) H' fs ys a l'):aK K B E (l'::O.filter λb=>decide (b≠l)) H' (put G i (.ownO b fs ys)) σ/\bF B O (l'::O.filter λb=>decide (b≠l)) G (put G i (.ownO b fs ys)) σ σ:=by
 have ao:i<G.length:=(vp.mp e).1;have lB:B l'=none:=hl.elim (λz=>by rw[z];exact q.lB) st.keep.free;have mem:∀c,c≠l->c∈O->c∈l'::O.filter λb=>decide (b≠l):=λc hc ho=>Je _ (IV.mpr ⟨ho,IM hc⟩)
 have keep:ag B H':=λc u J=>kp c u (λz=>by rw[z,q.aB]at J;cases J) (λz=>by rw[z,q.lB]at J;cases J) (st.keep c u J)
 have Y:ag (ak H O) (ak H' (l'::O.filter λb=>decide (b≠l))):=λc u J=>by
  have hc:c∉O:=λz=>by rw[dF z]at J;cases J
  rw[aH hc]at J;rw[aH]
  .exact kp c u (λz=>hc (z▸q.aO)) (λz=>hc (z▸q.lO)) J
  .intro z;rcases rb.mp z with z|z
   .rcases hl with w|w
    .exact hc (by rw[z,w];exact q.lO)
    .rw[z,w]at J;cases J
   .exact hc (IV.mp z).1
 have a5:∀(j:Nat) (m:MV) (c:Addr),i≠j->G[j]?=some (some m)->d9 m=true->σ[j]?=some (some (.ref c))->c≠a/\c≠l:=λj m c U D o J=>⟨λz=>st.apart i j _ m a U e D rfl o es (by rw[J,z]),(st.inn i _ a l e rfl es q.l j m (Jk U) D).2 c o J⟩
 refine⟨⟨keep,λc hc=>?_,λc hc=>mem c (λz=>st.old c hc (z▸q.lB)) (st.sub c hc),st.old,by rw[bP];exact st.len,λj m D=>?_,λc d ps qs ad bB e1 e2 p1 p2 e3 e4=>?_,λk m0 a2 l2 e1 l0 e2 e3 j m aL D=>?_⟩,⟨λc hc ho=>mem c (λz=>hc (z▸q.lB)) ho,λc hc=>?_,λj zs bR D=>?_,bP,λj gs zs D=>?_⟩⟩
 .rcases rb.mp hc with rfl|hc
  .obtain⟨us,h1,_⟩:=q'.li;rw[h1];simp
  .obtain⟨h1,h2⟩:=IV.mp hc;by_cases z:c=a
   .subst z;obtain⟨C,dx,gs,h1,_⟩:=q'.ob;rw[h1];simp
   .cases eo:H c with
    |none=>exact absurd eo (st.here c h1)
    |some o=>rw[kp c o z (IX h2) eo];simp
 .by_cases U:i=j
  .subst U;rw[ab ao]at D;cases D;exact⟨_,es,a,l',rfl,q'.move (ag.refl _) (λ_ h=>h) (λ_ h=>h) q'.aO q'.lO q.aB lB⟩
  .rw[aa U]at D;obtain⟨w,ew,qq⟩:=st.slot j m D;refine⟨w,ew,?_⟩;cases m with
   |val v=>exact Rep.mono Y _ qq
   |own zs =>
    obtain⟨ad,ws,rfl,Z,q2,q3,q4⟩:=qq;obtain⟨n1,n2⟩:=a5 j _ ad U D rfl ew;exact⟨ad,ws,rfl,kp _ _ n1 n2 Z,Reps.mono Y _ q2,mem _ n2 q3,q4⟩
   |ownD zs =>
    obtain⟨ad,rfl,Z,q3,q4⟩:=qq;obtain⟨n1,n2⟩:=a5 j _ ad U D rfl ew;exact⟨ad,rfl,kp _ _ n1 n2 Z,mem _ n2 q3,q4⟩
   |ownO _ _ _=>cases (st.inn i _ a l e rfl es q.l j _ (Jk U) D).1
   |brw zs=>obtain⟨ad,ws,rfl,Z,q2⟩:=qq;exact⟨ad,ws,rfl,Z,Reps.mono Y _ q2⟩
   |brwD zs=>exact qq
   |brwO gs zs=>obtain⟨ad,rfl,Z⟩:=qq;exact⟨ad,rfl,Z.move (ag.refl B) Y⟩
 .have h1:∀(j:Nat) (zs:MV),(put G i (.ownO b fs ys))[j]?=some (some zs)->d9 zs=true->∃zs,G[j]?=some (some zs)/\d9 zs=true:=λj zs q oz=>by
   by_cases U:i=j
   .subst U;exact⟨_,e,rfl⟩
   .rw[aa U]at q;exact⟨zs,q,oz⟩
  obtain⟨Z,e1,p1⟩:=h1 c ps e1 p1;obtain⟨q2,e2,p2⟩:=h1 d qs e2 p2;exact st.apart c d Z q2 ad bB e1 e2 p1 p2 e3 e4
 .have hk:i=k:=by
   cases Nat.decEq i k with
   |isTrue z=>exact z
   |isFalse z =>
    rw[aa z]at e1;rw[(st.inn i _ a l e rfl es q.l k _ (Jk z) e1).1]at l0;cases l0
  subst hk;rw[es]at e2;cases e2;rw[q'.l]at e3;cases e3;rw[aa (Jk aL)]at D;refine⟨(st.inn i _ a l e rfl es q.l j m aL D).1,λc o J z=>?_⟩;rcases hl with w|w
  .exact(st.inn i _ a l e rfl es q.l j m aL D).2 c o J (by rw[z,w])
  .exact jo st D o J (by rw[z,w])
 .rcases rb.mp hc with rfl|hc
  .exact .inr lB
  .exact .inl (IV.mp hc).1
 .have U:i≠j:=λz=>by subst z;rw[ab ao]at D;cases D;cases bR
  rw[aa U]at D;exact⟨D,rfl⟩
 .by_cases U:i=j
  .subst U;rw[ab ao]at D;cases D;exact⟨⟨xs,e⟩,rfl⟩
  .rw[aa U]at D;exact⟨⟨zs,D⟩,rfl⟩
def aK.storeO(st:aK K B E O H G σ){i:Nat}{fs:List PV}{a l:Addr}(hi:i<σ.length)(hn:Aw G i=true)(s:ag H H')(ha:H a=none)(hl:H l=none)(q:cc K (λ_=>none) (a::l::O) H' fs [] a l) :
  aK K B E (a::l::O) H' (put G i (.ownO false fs [])) (σ.set i (some (.ref a)))/\bF B O (a::l::O) G (put G i (.ownO false fs [])) σ (σ.set i (some (.ref a))):=by
 have aL:i<G.length:=by rw[st.len];exact hi
 have inO:∀b∈O,b∈a::l::O:=λb h=>.tail _ (.tail _ h)
 have free:∀b∈a::l::O,b∈O\/H b=none:=λb h=>by
  rcases rb.mp h with rfl|h
  .exact .inr ha
  .rcases rb.mp h with rfl|h
   .exact .inr hl
   .exact .inl h
 have Y:ag (ak H O) (ak H' (a::l::O)):=aV s free;refine⟨⟨st.keep.trans s,λb h=>?_,λb h=>inO b (st.sub b h),st.old,by rw[bP,JS];exact st.len,λj m D=>?_,λc d xs ys ad a0 Z J o1 o2 e3 e4=>?_,λk m0 a2 l2 Z l0 J e3 j m a1 D=>?_⟩,⟨λ_ _ h=>inO _ h,λb h=>(free b h).imp id st.keep.free,λj xs a6 D=>?_,bP,λj gs zs D=>?_⟩⟩
 .rcases rb.mp h with rfl|h
  .obtain⟨C,dx,gs,h1,_⟩:=q.ob;rw[h1];simp
  .rcases rb.mp h with rfl|h
   .obtain⟨us,h1,_⟩:=q.li;rw[h1];simp
   .exact λz=>st.here b h (s.free z)
 .by_cases U:i=j
  .subst U;rw[ab aL]at D;cases D;exact⟨_,Jd hi,a,l,rfl,q.move (ag.refl _) (λ_ h=>h) (λ_ h=>h) q.aO q.lO (st.keep.free ha) (st.keep.free hl)⟩
  .rw[aa U]at D;obtain⟨w,Z,qq⟩:=st.slot j m D;refine⟨w,by rw[u1 U];exact Z,?_⟩;cases m with
   |val v=>exact Rep.mono Y _ qq
   |own ys=>obtain⟨a,ws,J,h1,h2,h3,h4⟩:=qq;exact⟨a,ws,J,s _ _ h1,Reps.mono Y _ h2,inO _ h3,h4⟩
   |brw ys=>obtain⟨a,ws,J,h1,h2⟩:=qq;exact⟨a,ws,J,h1,Reps.mono Y _ h2⟩
   |ownD ys=>obtain⟨a,J,h1,h3,h4⟩:=qq;exact⟨a,J,s _ _ h1,inO _ h3,h4⟩
   |ownO _ _ _=>cases yB hn U D
   |brwD ys=>exact qq
   |brwO gs zs=>obtain⟨ad,J,q1⟩:=qq;exact⟨ad,J,q1.move (ag.refl B) Y⟩
 .by_cases hc:i=c
  .subst hc;rw[Jd hi]at e3;cases e3;rw[aa a0]at J;rw[u1 a0]at e4;exact jo st J o2 e4 ha
  .by_cases hd:i=d
   .subst hd;rw[Jd hi]at e4;cases e4;rw[aa hc]at Z;rw[u1 hc]at e3;exact jo st Z o1 e3 ha
   .rw[aa hc]at Z;rw[aa hd]at J;rw[u1 hc]at e3;rw[u1 hd]at e4;exact st.apart c d _ _ ad a0 Z J o1 o2 e3 e4
 .have hk:i=k:=by
   cases Nat.decEq i k with
   |isTrue z=>exact z
   |isFalse z =>
    rw[aa z]at Z;rw[yB hn z Z]at l0;cases l0
  subst hk;rw[Jd hi]at J;cases J;rw[q.l]at e3;cases e3;rw[aa (Jk a1)]at D;refine⟨yB hn (Jk a1) D,λc o ec z=>?_⟩;rw[u1 (Jk a1)]at ec;exact jo st D o ec (by rw[z,hl])
 .have U:i≠j:=λz=>by subst z;rw[ab aL]at D;cases D;cases a6
  rw[aa U]at D;exact⟨D,u1 U⟩
 .have U:i≠j:=λz=>by subst z;rw[ab aL]at D;cases D
  rw[aa U]at D;exact⟨⟨zs,D⟩,u1 U⟩
def AX{F:Hp}{v:PV}{s:Sc}{u:V}(h:sc? v=some s)(r:Rep K F v u):u=s.v:=by
 cases v<;>first|(cases h;done)|(cases h;rw[Rep]at r;exact r)
def GD{v:PV}{s:Sc}(h:sc? v=some s):v=s.pv:=by
 cases v<;>first|(cases h;done)|(cases h;rfl)
def AY(F:Hp)(s:Sc):Rep K F s.pv s.v:=by
 cases s<;>(show Rep K F _ _;unfold Sc.pv;rw[Rep];rfl)
end
section
variable{X:Cx}{T:Tab}{k:Nat}{cal:Cal}
def Eh{J:ME}{v:Expr}{pos:Pos}(h:PE X v (tE X.K cal J))(U:aI J=false):PS X (.Return (some v) pos) (tS X.K cal (.retT J)):=by
 refine(gc h).imp λD σ H q=>?_
 obtain⟨B,E,O,G,st,q⟩:=q;rw[ex]at q;obtain⟨w,e,q⟩:=cT q;refine⟨B,E,O,G,w,st,e,λu H' s g=>?_⟩;cases es:sc? w with
 |none=>rw[es]at q;exact(show False from q).elim
 |some sv =>
  rw[es]at q;rw[AX es (g.2 U)];exact q σ H' O (st.mono s) .refl
def Ei{i:Nat}{me:ME}{x:Str}{v:Expr}{p fp apos cpos pos:Pos}(g:Gf X T k cal)(h:PE X v (tE X.K cal me))(hn:au X.N X.env.scope i x=true)(hb:aI me=false)(hs:az v=true)(U:(apos.endLine==cpos.line)=true) :
  PS X (.Expr (.Call (.Attribute (.Attribute (.Name x p) "taken" fp) "append" apos) [v] [] cpos) pos) (tS X.K cal (.appO i me)):=by
 refine(gb (nE PySem.F.plainAttrs_list PySem.F.slot_list_append PySem.F.type_list_append hX (sS hn) (bm h b6 (bA hs _ _)) rfl (by rw[bA hs];rfl) U (bA hs _ _) rfl) rfl).imp λD σ H q=>?_
 obtain⟨B,E,O,G,st,q⟩:=q;rw[ex]at q;obtain⟨w,e,q⟩:=cT q;cases hj:(G[i]?).join with
 |none=>rw[hj]at q;exact(show False from q).elim
 |some m =>
  rw[hj]at q;cases m with
  |ownO b fs xs =>
   dsimp only at q;split at q
   .rename_i hl;obtain⟨u,eu,a,l,rfl,J⟩:=bo st hj;obtain⟨C,dx,gs,h1,h2⟩:=J.ob;obtain⟨us,h3,h4⟩:=J.li;obtain⟨c1,_,c2⟩:=g.cls C h2.cls;refine⟨_,eu,a,C,dx,gs,.ref l,rfl,h1,c1,c2,h2.lst,.inl ⟨rfl,us,SqL.of h3⟩,B,E,O,G,w,st,e,λu H1 s g1=>⟨l,us,u,rfl,rfl,s _ _ h3,?_,?_⟩⟩
    .rw[<- h4.length];exact x1 hl (by decide)
    .have a1:=st.mono s;have q1:=J.move (ah s) (λ_=>s _ _) (λ_=>s _ _) J.aO J.lO J.aB J.lB;have Z:ag (ak H1 O) (ak (upd H1 l (.lst (us++[u]))) (l::O.filter λb=>decide (b≠l))):=λc o Y=>by
      have hc:c∉O:=λz=>by rw[dF z]at Y;cases Y
      rw[aH hc]at Y;have hn:c∉l::O.filter λb=>decide (b≠l):=λz=>by
       rcases rb.mp z with z|z
       .exact hc (z▸J.lO)
       .exact hc (IV.mp z).1
      have a2:c≠l:=λz=>hc (z▸J.lO)
      rw[aH hn,al a2];exact Y
     obtain⟨a3,k'⟩:=a1.changeO (ys:=xs++[w]) (l':=l) (H':=upd H1 l (.lst (us++[u]))) (join_some hj) eu q1 (λc o _ n2 Y=>by rw[al n2];exact Y) (.inl rfl)
      ⟨⟨C,dx,gs,by rw[al J.ne];exact s _ _ h1,(h2.mono (ah s)).mono Z⟩,⟨_,ar,Reps.mono Z _ ((Reps.mono (ah s) _ h4).snoc (g1.2 hb))⟩,Je _ (IV.mpr ⟨J.aO,IM J.ne⟩),Jz,rfl,rfl,J.ne⟩
     exact q _ _ _ a3 k'
   .exact(show False from q).elim
  | _=>exact(show False from q).elim
theorem nY{K:LI}{O:List Addr}{H:Hp}{a l:Addr}(q:a∈O)(hl:l∈O):∀{as:List PV}{ws:List V},Reps K (ak H O) as ws->Paired (eG K O (dW H [a,l])) (as.map .val) ws
 | [],ws,r=>by
  have e:ws=[]:=by simpa only[Reps]using r
  subst e;exact .nil
 |v::as,ws,r=>by
  rw[Reps]at r;obtain⟨u,t,rfl,h1,h2⟩:=r;exact .cons (by show Rep K (ak (dW H [a,l]) O) v u;rw[nP q hl];exact h1) (nY q hl h2)
noncomputable def tTk(K:LI)(cal:Cal)(f i:Nat)(ms:List ME):TE:=λσ H Q=>∃B E O G b fs xs vs v ys,aK K B E O H G σ/\(G[i]?).join=some (.ownO b fs xs)/\evs cal ms G=some vs/\cal (f+3000) (.ownO true fs xs::vs.map .val)=some (.tup [Sc.pv v,.lst ys]) /\
 ∀H' O',aK K B E O' H' (put G i (.ownO b fs ys)) σ->bF B O O' G (put G i (.ownO b fs ys)) σ σ->Q v.v H'
def uS{f i:Nat}{ms:List ME}{x m:Str}{es:List Expr}{p ap pos:Pos}(g:Gf X T k cal)(hf:T.ms[f]?=some (some m))(hM:m∈ma)(hn:au X.N X.env.scope i x=true)(ha:PA X es (tEs X.K cal ms))(hb:(ms.all λm=>!aI m)=true)(hs:es.all az=true)(hl:ms.length=es.length)(J:(ap.endLine==pos.line)=true)(h30:decide (es.length<30)=true):PE X (.Call (.Attribute (.Name x p) m ap) es [] pos) (tTk X.K cal f i ms):=by
 by_cases U:∃C,IsC X.K C
 .obtain⟨C,U⟩:=U;have one:∀Y,IsC X.K Y->Y=C:=λY h=>by
   have:=h.symm.trans U;cases this
   rfl
  obtain⟨fa,fd,ps,h1,h3,F⟩:=g.methsT f m hf C U;have key:∀σ H Q,tTk X.K cal f i ms σ H Q->kh C m (spT X.K cal f) [] E0 (dP i) (tEs X.K cal ms) σ H Q:=λσ H Q q=>by
   obtain⟨B,E,O,G,b,fs,xs,vs,v,ys,st,hj,e1,e2,q⟩:=q;obtain⟨u,eu,a,l,rfl,D⟩:=bo st hj;obtain⟨Y,dx,gs,f1,Z⟩:=id D.ob;have a4:=one Y Z.cls;subst a4;refine⟨_,eu,a,dx,gs,rfl,f1,Z.no m hM,B,E,O,G,vs,st,e1,λa0 H1 s1 g1=>?_⟩;show spT X.K cal f (V.ref a::(a0++[])) H1 Q E0;rw[JW];have q1:cc X.K B O H1 fs xs a l:=D.move (ah s1) (λ_=>s1 _ _) (λ_=>s1 _ _) D.aO D.lO D.aB D.lB;refine⟨O,a,l,fs,xs,vs.map .val,a0,v,ys,rfl,bH s1 st.here,q1.move (ag.refl _) (λ_ h=>h) (λ_ h=>h) D.aO D.lO rfl rfl,nY D.aO D.lO (g1.2 hb),e2,λl' H' kp a5 q2=>?_⟩;obtain⟨a6,k'⟩:=(st.mono s1).changeO (join_some hj) eu q1 kp a5 q2;exact q _ _ a6 k'
  cases es with
  |nil =>
   refine(lr (bn hn) (g.cls C U).1 h1 F g.room h3 .nil fW (k5 hs h30 J)).imp λσ H Q q=>?_
   obtain⟨u,eu,a,dx,gs,e,f1,Z,B,E,O,G,vs,st,e1,q⟩:=key σ H Q q;cases ms with
   |nil =>
    simp only[evs,ow]at e1;subst e1;exact⟨u,eu,a,dx,gs,e,f1,Z,q [] H (ag.refl H) ⟨.nil,λ_=>.nil⟩⟩
   |cons _ _=>cases hl
  |cons e es =>
   simp only[all_cons,oe]at hs;exact(oN (bn hn) (g.cls C U).1 h1 F g.room h3 .nil fW ha (bA hs.1 _ _) (bC hs.2) (k5 (by simp[hs]) h30 J)).imp key
 .exact λpins s σ H Q I q=>by
   obtain⟨B,E,O,G,b,fs,xs,vs,v,ys,st,hj,_⟩:=q;obtain⟨u,eu,a,l,rfl,D⟩:=bo st hj;obtain⟨Y,dx,gs,f1,Z⟩:=id D.ob;exact absurd ⟨Y,Z.cls⟩ U
noncomputable def B8(G:Rho)(i:Nat)(m:MV)(v:PV):Option Nat->R
 |some j=>if i=j then .bad else .next (put (put G i m) j (.val v))
 |none=>.next (put G i m)
def nZ{B:Hp}{E O:List Addr}{G:Rho}{σ:St}{D:mS}{j:Option Nat}{i f:Nat}{ms:List ME}(q:eH X.K B E O G σ D (ex cal (.takeO j i f ms) G)):∃b fs xs vs v ys,(G[i]?).join=some (.ownO b fs xs)/\evs cal ms G=some vs/\cal (f+3000) (.ownO true fs xs::vs.map .val)=some (.tup [Sc.pv v,.lst ys]) /\
  eH X.K B E O G σ D (B8 G i (.ownO b fs ys) v.pv j):=by
 rw[ex]at q;cases J:(G[i]?).join with
 |none=>rw[J]at q;exact(show False from q).elim
 |some m =>
  rw[J]at q;cases m with
  |ownO b fs xs =>
   dsimp only at q;split at q
   .rename_i v ys e;rw[i1]at e;obtain⟨vs,U,Y⟩:=e;cases es:sc? v with
    |none=>rw[es]at q;exact(show False from q).elim
    |some sv =>
     rw[es]at q;have Z:=GD es;subst Z;cases j<;>exact⟨b,fs,xs,vs,sv,ys,rfl,U,Y,q⟩
   .exact(show False from q).elim
  | _=>exact(show False from q).elim
def AZ{i j f:Nat}{ms:List ME}{x:Str}{v:Expr}{px pos:Pos}(d:Df X)(hi:X.N[j]?=some x)(hx:Loc X.env.scope x)(h:PE X v (tTk X.K cal f i ms))(hc:ce v=true):PS X (.Assign [.Name x px] v pos) (tS X.K cal (.takeO (some j) i f ms)):=
 PS.imp' (gG d.nd hi hx h (cg hc _ _ _) (.inl (d.fn x))) λD σ H hl q=>by
  obtain⟨B,E,O,G,st,q⟩:=q;obtain⟨b,fs,xs,vs,w,ys,Y,Z,e3,q⟩:=nZ q;refine⟨B,E,O,G,b,fs,xs,vs,w,ys,st,Y,Z,e3,λH' O' J k'=>?_⟩;simp only[B8]at q;split at q
  .exact(show False from q).elim
  .obtain⟨U,k2⟩:=J.store (ltN hi hl) (AY (K:=X.K) _ w);exact q _ _ _ U (k'.trans k2)
def A0{i f:Nat}{ms:List ME}{v:Expr}{pos:Pos}(h:PE X v (tTk X.K cal f i ms))(U:ce v=true):PS X (.Expr v pos) (tS X.K cal (.takeO none i f ms)):=by
 refine(gb h (by cases v<;>first|rfl|(cases U;done))).imp λD σ H q=>?_
 obtain⟨B,E,O,G,st,q⟩:=q;obtain⟨b,fs,xs,vs,w,ys,Y,Z,e3,q⟩:=nZ q;exact⟨B,E,O,G,b,fs,xs,vs,w,ys,st,Y,Z,e3,λH' O' J k'=>q _ _ _ J k'⟩
def yC {c r o:V}{l:Addr}:(qR c r o l).lookup ("hole_count":Str)=some c/\(qR c r o l).lookup ("ribbons":Str)=some r/\(qR c r o l).lookup ("opener":Str)=some o/\(qR c r o l).lookup ("taken":Str)=some (.ref l)/\∀m∈ma,(qR c r o l).lookup m=none:=by
 unfold qR;refine⟨?_,?_,?_,?_,λm hm=>?_⟩
 .rw[aJ,if_neg (by decide +kernel),aJ,if_neg (by decide +kernel),aJ,if_neg (by decide +kernel),aJ,if_pos rfl]
 .rw[aJ,if_neg (by decide +kernel),aJ,if_neg (by decide +kernel),aJ,if_pos rfl]
 .rw[aJ,if_neg (by decide +kernel),aJ,if_pos rfl]
 .rw[aJ,if_pos rfl]
 .have ne:∀x∈(["taken","opener","ribbons","hole_count"]:List Str),m≠x:=λx hx z=>by
   subst z;exact absurd hx (by revert m;decide +kernel)
  rw[aJ,if_neg (ne _ (by simp)),aJ,if_neg (ne _ (by simp)),aJ,if_neg (ne _ (by simp)),aJ,if_neg (ne _ (by simp))]
  rfl
def uT {vs fs:List PV} (h:sG vs=some fs):∃c r o,(vs=[.tup [c,r],o]\/vs=[.tup [c,r]]/\o=.str "weaver")/\fs=[c,r,o]:=by
 unfold sG at h;split at h
 .cases h;exact⟨_,_,_,.inl rfl,rfl⟩
 .cases h;exact⟨_,_,_,.inr ⟨rfl,rfl⟩,rfl⟩
 .cases h
def yD{K:LI}{B H H1:Hp}{E O:List Addr}{G:Rho}{σ:St}{D:mS}{i:Nat}{c r o:PV}{C a dx la:Addr}{ts:List V}{Z:V}(hi:i<σ.length)(hC:IsC K C)(hn:Aw G i=true)(st:aK K B E O H G σ)(s1:ag H H1)(q:eH K B E O G σ D (.next (put G i (.ownO false [c,r,o] []))))
  (ht:ak H1 O la=some (.tup ts)) (rt:Reps K (ak H1 O) [c,r] ts) (ro:Rep K (ak H1 O) o Z) (na:H1 a=none) (nd:H1 dx=none):spI K C [.ref a,.ref la,Z] (upd (upd H1 dx (.own a)) a (.ins C dx [])) (λv H2=>v=.non/\D.nx (σ.set i (some (.ref a))) H2) E0:=by
 rw[Reps]at rt;obtain⟨uc,r3,rfl,rc,rt⟩:=rt;rw[Reps]at rt;obtain⟨ur,r4,rfl,rr,rt⟩:=rt;rw[Reps]at rt;subst rt;have s2:ag H1 (upd (upd H1 dx (.own a)) a (.ins C dx [])):=λb u eb=>by rw[al (aR eb na),al (aR eb nd)];exact eb
 refine⟨a,dx,la,uc,ur,Z,rfl,ar,s2.seqT (SqT.of (ba H1 O _ _ ht)),λl H' nl ea el kp=>⟨rfl,?_⟩⟩;have a6:a≠l:=λz=>by rw[<- z,ar]at nl;cases nl
 have aL:H1 l=none:=s2.free nl;have s3:ag H1 H':=λb u eb=>kp b u (aR eb na) (s2 b u eb)
 have U:ag (ak H1 O) (ak H' (a::l::O)):=aV s3 λb h=>by
  rcases rb.mp h with rfl|h
  .exact .inr na
  .rcases rb.mp h with rfl|h
   .exact .inr aL
   .exact .inl h
 obtain⟨f1,f2,f3,f4,f5⟩:=yC (c:=uc) (r:=ur) (o:=Z) (l:=l);have hf:∀(n:Nat) (x:Str) (v:PV),iD[n]?=some x->([c,r,o]:List PV)[n]?=some v->∃u,(qR uc ur Z l).lookup x=some u/\Rep K (ak H' (a::l::O)) v u:=λn x v Y J=>by
  match n,Y,J with
  |0,Y,J=>cases Y;cases J;exact⟨uc,f1,Rep.mono U _ rc⟩
  |1,Y,J=>cases Y;cases J;exact⟨ur,f2,Rep.mono U _ rr⟩
  |2,Y,J=>cases Y;cases J;exact⟨Z,f3,Rep.mono U _ ro⟩
 obtain⟨bt,k'⟩:=st.storeO (fs:=[c,r,o]) hi hn (s1.trans s3) (s1.free na) (s1.free aL) ⟨⟨C,dx,_,ea,hC,hf,f4,f5⟩,⟨[],el,.nil⟩,Jz,Je _ Jz,rfl,rfl,a6⟩;exact q _ _ _ bt k'
def GE {i:Nat}{ms:List ME}{e:Expr}{es:List Expr}{x:Str}{px p cp pos:Pos} (g:Gf X T k cal) (d:Df X) (hi:X.N[i]?=some x) (hx:Loc X.env.scope x) (hg:glB X.env.scope ("Table":Str)=true) (ha:PA X (e::es) (tEs X.K cal ms)) (hb:(ms.all λm=>!aI m)=true) (Z:(e::es).all az=true) (ao:ms.length=(e::es).length) :
  PS X (.Assign [.Name x px] (.Call (.Name ("Table":Str) p) (e::es) [] cp) pos) (tS X.K cal (.mkO i ms)):=by
 by_cases hL:cal 4000 []≠none
 .obtain⟨C,hC,hm,fa,fd,ps,M,a0,F,dv,a1,a2⟩:=g.ini hL;simp only[all_cons,oe]at Z;cases es with
  |nil =>
   refine PS.imp' (gG d.nd hi hx (t8 M F (g.lvl hL) (fz hg) hm a1 a2 fW ha (by decide) (bA Z.1 _ _) (bC Z.2)) (cg (v:=.Call (.Name ("Table":Str) p) [e] [] cp) rfl _ _ _) (.inl (d.fn x))) λD σ H hl q=>?_
   obtain⟨B,E,O,G,st,q⟩:=q;rw[ex]at q;cases J:(evs cal ms G).bind sG with
   |none=>rw[J]at q;exact(show False from q).elim
   |some fs =>
    rw[J]at q;dsimp only at q;split at q
    .rename_i c0;rw[i1]at J;obtain⟨vs,e1,e2⟩:=J;obtain⟨c,r,o,hv,rfl⟩:=uT e2;have Y:=jk e1;rcases hv with rfl|⟨rfl,rfl⟩
     .rw[ao]at Y;simp at Y
     .refine⟨B,E,O,G,_,st,e1,λus H1 s1 g1 a dx na nd ne=>?_⟩;have U:=g1.2 hb;rw[Reps]at U;obtain⟨ut,r1,rfl,rt,U⟩:=U;rw[Reps]at U;subst U;rw[Rep]at rt;obtain⟨la,ts,rfl,ht,rt⟩:=rt;exact yD (ltN hi hl) hC c0.1 st s1 q ht rt (by rw[Rep]) na nd
    .exact(show False from q).elim
  |cons e' es =>
   refine PS.imp' (gG d.nd hi hx (t8 M F (g.lvl hL) (fz hg) hm a0 .nil fW ha (by decide) (bA Z.1 _ _) (bC (by simpa using Z.2))) (cg (v:=.Call (.Name ("Table":Str) p) (e::e'::es) [] cp) rfl _ _ _) (.inl (d.fn x))) λD σ H hl q=>?_
   obtain⟨B,E,O,G,st,q⟩:=q;rw[ex]at q;cases J:(evs cal ms G).bind sG with
   |none=>rw[J]at q;exact(show False from q).elim
   |some fs =>
    rw[J]at q;dsimp only at q;split at q
    .rename_i c0;rw[i1]at J;obtain⟨vs,e1,e2⟩:=J;obtain⟨c,r,o,hv,rfl⟩:=uT e2;have Y:=jk e1;rcases hv with rfl|⟨rfl,rfl⟩
     .refine⟨B,E,O,G,_,st,e1,λus H1 s1 g1 a dx na nd ne=>?_⟩;have U:=g1.2 hb;rw[Reps]at U;obtain⟨ut,r1,rfl,rt,U⟩:=U;rw[Reps]at U;obtain⟨uo,r2,rfl,ro,U⟩:=U;rw[Reps]at U;subst U;rw[Rep]at rt;obtain⟨la,ts,rfl,ht,rt⟩:=rt;exact yD (ltN hi hl) hC c0.1 st s1 q ht rt ro na nd
     .rw[ao]at Y;simp at Y
    .exact(show False from q).elim
 .exact λpins s σ H D I q=>by
   obtain⟨B,E,O,G,st,q⟩:=q;rw[ex]at q;cases J:(evs cal ms G).bind sG with
   |none=>rw[J]at q;exact(show False from q).elim
   |some fs =>
    rw[J]at q;dsimp only at q;rw[if_neg λz=>hL z.2]at q;exact(show False from q).elim
end
theorem ib:∀(b:Bool) (xs:List Int) (x:Int),cq b (xs++[x])=if (b==decide (xs.length % 2=0))=true then cq b xs++[x]else cq b xs
 |true,[],x=>rfl
 |false,[],x=>rfl
 |true,y::xs,x=>by
  show y::cq false (xs++[x])=if (true==decide ((xs.length+1) % 2=0))=true then(y::cq false xs)++[x]else y::cq false xs
  rw[ib false xs x];by_cases c:xs.length % 2=0
  .rw[IM c,IQ (by omega),if_neg (by decide),if_neg (by decide)]
  .rw[IQ c,IM (by omega),if_pos (by decide),if_pos (by decide)];rfl
 |false,y::xs,x=>by
  show cq true (xs++[x])=if (false==decide ((xs.length+1) % 2=0))=true then cq true xs++[x]else cq true xs
  rw[ib true xs x];by_cases c:xs.length % 2=0
  .rw[IM c,IQ (by omega),if_pos (by decide),if_pos (by decide)]
  .rw[IQ c,IM (by omega),if_neg (by decide),if_neg (by decide)]
theorem mC:∀(b:Bool) (xs:List Int),(cq b xs).length<=xs.length
 |true,[]=>pd _
 |false,[]=>pd _
 |true,_::xs=>Lz (mC false xs)
 |false,_::xs=>Nat.le_succ_of_le (mC true xs)
section
variable{X:Cx}{T:Tab}{k:Nat}{cal:Cal}
def aK.anyK{K:LI}{B H:Hp}{E O:List Addr}{G:Rho}{σ:St}{j:Nat}(st:aK K B E O H G σ)(J:G[j]?=some none)(w:Option V):aK K B E O H G (σ.set j w)/\bF B O O G G σ (σ.set j w):=by
 have ne:∀(i:Nat) (m:MV),G[i]?=some (some m)->j≠i:=λi m e z=>by
  subst z;rw[e]at J;cases J
 refine⟨⟨st.keep,st.here,st.sub,st.old,by rw[JS];exact st.len,λi m e=>?_,λi U m Y a q Z e2 o1 o2 e3 e4=>?_,λi m0 a l e il es el j' m D e'=>?_⟩,⟨λ_ _ h=>h,λ_ h=>.inl h,λi m _ e=>⟨e,u1 (ne i m e)⟩,rfl,λi fs xs e=>⟨⟨xs,e⟩,u1 (ne i _ e)⟩⟩⟩
 .rw[u1 (ne i m e)];exact st.slot i m e
 .rw[u1 (ne i m Z)]at e3;rw[u1 (ne U Y e2)]at e4;exact st.apart i U m Y a q Z e2 o1 o2 e3 e4
 .rw[u1 (ne i m0 e)]at es;obtain⟨h1,h2⟩:=st.inn i m0 a l e il es el j' m D e';exact⟨h1,λc o ec=>h2 c o (by rw[u1 (ne j' m e')]at ec;exact ec)⟩
structure mD(H H':Hp)(t:Str)(ns:List Int)(p l1 l2:Addr)(n:Nat):Prop where
 d:H' p=some (.dK [(Sum.inr "weaver",.ref l1),(Sum.inr "moth",.ref l2)])
 w:H' l1=some (.lst ((cq (t == "weaver") (ns.take n)).map V.int))
 m:H' l2=some (.lst ((cq (t == "moth") (ns.take n)).map V.int))
 s:ag H H'
def n4 {t:Str} (ht:t="weaver" \/ t="moth") (n:Nat):(bg t n="weaver"/\bg t (n+1)="moth"/\((t == "weaver")==decide (n % 2=0))=true/\((t == "moth")==decide (n % 2=0))=false)\/(bg t n="moth"/\bg t (n+1)="weaver"/\((t == "weaver")==decide (n % 2=0))=false/\((t == "moth")==decide (n % 2=0))=true):=by
 unfold bg;rcases ht with rfl|rfl<;>by_cases c:n % 2=0
 .have q:¬ (n+1) % 2=0:=by omega
  rw[if_pos c,if_neg q,IM c];exact .inl ⟨rfl,rfl,by decide,by decide⟩
 .have q:(n+1) % 2=0:=by omega
  rw[if_neg c,if_pos q,IQ c];exact .inr ⟨rfl,rfl,by decide,by decide⟩
 .have q:¬ (n+1) % 2=0:=by omega
  rw[if_pos c,if_neg q,IM c];exact .inr ⟨rfl,rfl,by decide,by decide⟩
 .have q:(n+1) % 2=0:=by omega
  rw[if_neg c,if_pos q,IQ c];exact .inl ⟨by decide,rfl,by decide,by decide⟩
def yE (x:Str) (hx:x="weaver" \/ x="moth"):iu (d4 [] (iq [("weaver","moth"),("moth","weaver")])) (Sum.inr x)=some (V.str (if x="weaver" then "moth" else "weaver")):=by
 rcases hx with rfl|rfl<;>rfl
def mD.next {H H':Hp}{t:Str}{ns:List Int}{p D J:Addr}{n:Nat} (f:mD H H' t ns p D J n) (ht:t="weaver" \/ t="moth") (hn:n<ns.length) (np:H p=none) (n1:H D=none) (n2:H J=none) (h12:D≠J) (ao:p≠D) (aL:p≠J) :
  ∃l us,iu ([(Sum.inr "weaver",V.ref D),(Sum.inr "moth",V.ref J)]:List (Key×V)) (Sum.inr (bg t n))=some (.ref l)/\H' l=some (.lst us)/\us.length<=n/\mD H (upd H' l (.lst (us++[.int ns[n]]))) t ns p D J (n+1):=by
 have tk:ns.take (n+1)=ns.take n++[ns[n]]:=by rw[take_succ_eq_append_getElem hn]
 have ln:(ns.take n).length=n:=by rw[KU];omega
 have Y:=ib (t == "weaver") (ns.take n) ns[n];have Z:=ib (t == "moth") (ns.take n) ns[n];rw[ln]at Y Z;have z:∀b,((cq b (ns.take n)).map V.int).length<=n:=λb=>by
  have:=mC b (ns.take n);rw[ox];omega
 rcases n4 ht n with⟨e1,e2,e3,e4⟩|⟨e1,e2,e3,e4⟩
 .rw[if_pos e3]at Y;rw[if_neg (by rw[e4];decide)]at Z;refine⟨D,_,by rw[e1];rfl,f.w,z _,⟨by rw[al ao];exact f.d,by rw[ar,tk,Y,Js];rfl,by rw[al h12.symm,tk,Z];exact f.m,λb o U=>?_⟩⟩;rw[al λq=>by rw[q,n1]at U;cases U];exact f.s b o U
 .rw[if_neg (by rw[e3];decide)]at Y;rw[if_pos e4]at Z;refine⟨J,_,by rw[e1];rfl,f.m,z _,⟨by rw[al aL];exact f.d,by rw[al h12,tk,Y];exact f.w,by rw[ar,tk,Z,Js];rfl,λb o U=>?_⟩⟩;rw[al λq=>by rw[q,n2]at U;cases U];exact f.s b o U
def sW {t:Str} (ht:t="weaver" \/ t="moth") (n:Nat):(bg t n="weaver" \/ bg t n="moth")/\bg t (n+1)=(if bg t n="weaver" then("moth":Str)else("weaver":Str)):=by
 rcases n4 ht n with⟨q,D,_⟩|⟨q,D,_⟩
 .rw[q,D];exact⟨.inl rfl,rfl⟩
 .rw[q,D];exact⟨.inr rfl,by decide⟩
def mD.mono{H H' q:Hp}{t:Str}{ns:List Int}{p D J:Addr}{n:Nat}(f:mD H H' t ns p D J n)(s:ag H' q):mD H q t ns p D J n:=⟨s _ _ f.d,s _ _ f.w,s _ _ f.m,f.s.trans s⟩
def yF(g:Gf X T k cal):X.A.units+1<cLine:=by
 have:=g.units;omega
def sX{i:Nat}{x:Str}{e:Expr}{te:TE}{px pos:Pos}(d:Df X)(hx:X.N[i]?=some x)(q:Loc X.env.scope x)(h:PE X e te)(D:ce e=true):PS X (.Assign [.Name x px] e pos) (jB te (cX i)):=
 gG d.nd hx q h (cg D _ _ _) (.inl (d.fn x))
def Ej {q D:Nat}{p1 p2 J U dp:Pos}:PE X (.Dict [some (.Constant (.str "weaver") q p1),some (.Constant (.str "moth") D p2)] [.List [] J,.List [] U] dp) (lF [(tC (.str "weaver"),oJ fS),(tC (.str "moth"),oJ fS)]):=
 @oT X dp [some (.Constant (.str "weaver") q p1),some (.Constant (.str "moth") D p2)] [.List [] J,.List [] U] [(tC (.str "weaver"),oJ fS),(tC (.str "moth"),oJ fS)] (lD gF (oK b6) (lD gF (oK b6) ub)) rfl rfl (cons_ne_nil _ _) (by simp only[length_cons,length_nil];decide)
def uU{G:Rho}{k:Nat}(h:vX G k=true):G[k]?=some none:=by
 unfold vX at h;split at h
 .assumption
 .cases h
noncomputable def GF (K:LI) (cal:Cal) (i j q d:Nat) (h:ME) (u:TS):TS:=iQ (jB (lF [(tC (.str "weaver"),oJ fS),(tC (.str "moth"),oJ fS)]) (cX i)) (iQ (jB (tE K cal h) (cX j)) (iQ (zX (BP K (dP d)) (cX q)
 (iQ (nu (tBM K "list" kT (lC (dP i) (dP j)) (kg (dP q) fS))) (jB (lC (lF [(tC (.str "weaver"),tC (.str "moth")),(tC (.str "moth"),tC (.str "weaver"))]) (dP j)) (cX j)))) u))
def wa {K:LI}{i j k':Nat}{D:mS}{J:St}{H H':Hp}{t:Str}{ns:List Int}{p U Y:Addr}{n:Nat} (f:mD H H' t ns p U Y n) (ht:t="weaver" \/ t="moth") (hn:n<ns.length) (Z:ns.length<=1000) (np:H p=none) (n1:H U=none) (n2:H Y=none) (h12:U≠Y) (ao:p≠U) (aL:p≠Y)
  (ei:J[i]?=some (some (.ref p))) (ej:J[j]?=some (some (.str (bg t n)))) (ek:J[k']?=some (some (.int ns[n]))) (q:∀H2,mD H H2 t ns p U Y (n+1)->D.nx (J.set j (some (.str (bg t (n+1))))) H2) :
  iQ (nu (tBM K "list" kT (lC (dP i) (dP j)) (kg (dP k') fS))) (jB (lC (lF [(tC (.str "weaver"),tC (.str "moth")),(tC (.str "moth"),tC (.str "weaver"))]) (dP j)) (cX j)) D J H':=by
 obtain⟨l,us,e1,e2,e3,f'⟩:=f.next ht hn np n1 n2 h12 ao aL;obtain⟨g1,g2⟩:=sW ht n;refine⟨_,ei,_,ej,p,.ref l,rfl,.inl ⟨_,Sum.inr (bg t n),.inl f.d,rfl,e1.symm⟩,.inl ⟨rfl,us,SqL.of e2⟩,_,ek,l,us,_,rfl,rfl,e2,?_,?_⟩
 .have:(1000:Nat)<PySem.sizeLine:=by decide
  omega
 .intro b hb;have s:ag (upd H' l (.lst (us++[.int ns[n]]))) (upd (upd (upd H' l (.lst (us++[.int ns[n]]))) b (.dK [])) b (.dK (d4 [] (iq [("weaver","moth"),("moth","weaver")])))):=λc o ec=>by
   have hc:c≠b:=λz=>by rw[z,hb]at ec;cases ec
   rw[al hc,al hc];exact ec
  refine⟨ar,iq [("weaver","moth"),("moth","weaver")],rfl,by decide,_,ej,b,_,rfl,.inl ⟨_,Sum.inr (bg t n),.inl ar,rfl,(yE _ g1).symm⟩,?_⟩;rw[<- g2];exact q _ (f'.mono s)
theorem n5{K:LI}{F:Hp}:∀{xs:List PV}{ns:List Int}{ws:List V},bO xs=some ns->Reps K F xs ws->ws=ns.map V.int
 | [],ns,ws,e,r=>by
  cases e;have q:ws=[]:=by simpa only[Reps]using r
  exact q
 | .int i::xs,ns,ws,e,r=>by
  simp only[bO,wh]at e;obtain⟨D,J,rfl⟩:=e;rw[Reps]at r;obtain⟨u,t,rfl,h1,h2⟩:=r;rw[Rep]at h1;rw[h1,n5 J h2]
  rfl
theorem jT{K:LI}{F:Hp}:∀(ns:List Int),Reps K F (ns.map PV.int) (ns.map V.int)
 | []=>.nil
 |n::ns=>.cons (by rw[Rep]) (jT ns)
def Ek{K:LI}{B H:Hp}{E O:List Addr}{G:Rho}{σ:St}(st:aK K B E O H G σ){i:Nat}{xs:List PV}(e:uu (G[i]?).join=some xs):∃u,σ[i]?=some (some u)/\∃a us,u=.ref a/\SqL K H a us/\Reps K (ak H O) xs us:=by
 cases D:(G[i]?).join with
 |none=>rw[D]at e;cases e
 |some m =>
  rw[D]at e;obtain⟨u,J,q⟩:=bo st D;cases m with
  |brw ys =>
   cases e;obtain⟨a,us,h0,h1,h2⟩:=q;exact⟨u,J,a,us,h0,st.keep.seq h1,h2⟩
  |val v =>
   cases v with
   |lst ys =>
    cases e;have q:Rep K (ak H O) (.lst xs) u:=q;rw[Rep]at q;obtain⟨a,us,h0,h1,h2⟩:=q;exact⟨u,J,a,us,h0,(ba H O).seq h1,h2⟩
   | _=>cases e
  | _=>cases e
def yG{K:LI}{i j Y d:Nat}{h:ME}{ms:List MS}(nb:aI h=false)(ne:i≠j/\i≠Y/\j≠Y/\d≠i/\d≠j/\d≠Y){D:mS}{σ:St}{H:Hp}(q:tSs K cal (.own3 i j Y d h::ms) D σ H):GF K cal i j Y d h (tSs K cal ms) D σ H:=by
 obtain⟨B,E,O,G,st,q⟩:=q;obtain⟨b0,a3,a6,b1,b2,dr⟩:=ne;rw[exs,ex]at q;split at q
 .rename_i xs tt e1 e2;split at q
  .rename_i ns e3;split at q
   .rename_i c;obtain⟨c1,c2,c3,c4,c5⟩:=c;have uk:G[Y]?=some none:=uU c2;have ui:G[i]?=some none:=uU c3;have il:i<σ.length:=by rw[<- st.len];exact(vp.mp ui).1
    have kl:Y<σ.length:=by rw[<- st.len];exact(vp.mp uk).1
    have jl:j<σ.length:=by rw[<- st.len];exact c4
    obtain⟨u,eu,a,ws,rfl,h1,h2⟩:=Ek st e1;have hw:=n5 e3 h2;subst hw;intro p np;refine⟨IW _,λZ h3=>⟨IW _,λl2 h4=>?_⟩⟩;have aL:p≠Z:=λz=>by rw[<- z,ar]at h3;cases h3
    have n1:H Z=none:=by rw[al aL.symm]at h3;exact h3
    have h12:Z≠l2:=λz=>by rw[<- z,ar]at h4;cases h4
    rw[al h12.symm]at h4;have a0:p≠l2:=λz=>by rw[<- z,ar]at h4;cases h4
    have n2:H l2=none:=by rw[al a0.symm]at h4;exact h4
    refine⟨by rw[al a0,al aL,ar],[(Sum.inr "weaver",.ref Z),(Sum.inr "moth",.ref l2)],rfl,by show 2<=15;decide,?_⟩;have f0:mD H (upd (upd (upd (upd H p (.dK [])) Z (.lst [])) l2 (.lst [])) p (.dK (d4 [] [(Sum.inr "weaver",.ref Z),(Sum.inr "moth",.ref l2)]))) tt ns p Z l2 0:=
     ⟨ar,by rw[al aL.symm,al h12,ar];cases (tt == "weaver")<;>rfl,by rw[al a0.symm,ar];cases (tt == "moth")<;>rfl,λb o eb=>by rw[al (aR eb np),al (aR eb n2),al (aR eb n1),al (aR eb np)];exact eb⟩
    obtain⟨b5,k1⟩:=(st.mono f0.s).anyK ui (some (.ref p));refine⟨B,E,O,G,_,b5,e2,λu H1 s1 g1=>?_⟩;have hu:=g1.2 nb;rw[Rep]at hu;subst hu;have f1:=f0.mono s1;refine⟨_,by rw[u1 (Jk b2),u1 (Jk b1)];exact eu,a,rfl,⟨_,ag.seq f1.s h1⟩,λn m τ H2=>∃J,(J=σ.set i (some (.ref p))\/∃v,J=(σ.set i (some (.ref p))).set Y v)/\τ=J.set j (some (.str (bg tt n)))/\n<=ns.length/\m=ns.length-n/\mD H H2 tt ns p Z l2 n,⟨_,_,.inl rfl,rfl,IW _,rfl,f1⟩,λn m τ H2 w=>?_⟩;obtain⟨J,a1,rfl,hn,rfl,f2⟩:=w;have sa:SqL K H2 a (ns.map V.int):=ag.seq f2.s h1;by_cases a2:n<ns.length
    .refine .inr ⟨⟨_,_,sa,IP (by rw[ox];exact a2)⟩,λbB H3=>∃J,(J=σ.set i (some (.ref p))\/∃v,J=(σ.set i (some (.ref p))).set Y v)/\bB=J.set j (some (.str (bg tt (n+1))))/\mD H H3 tt ns p Z l2 (n+1),λbB H3 ⟨cl,g1,g2,g3⟩=>⟨ns.length-(n+1),by omega,cl,g1,g2,a2,rfl,g3⟩,λx H3 hy=>?_⟩;obtain⟨rfl,hy⟩:=hy;have hx:=hy _ sa;rw[IY,IP a2]at hx;cases hx;have tl:J.length=σ.length:=by rcases a1 with rfl|⟨v,rfl⟩<;>simp
     refine wa f2 c5 a2 c1 np n1 n2 h12 aL a0 ?_ ?_ ?_ λH4 f4=>⟨(σ.set i (some (.ref p))).set Y (some (.int ns[n])),.inr ⟨_,rfl⟩,?_,f4⟩
     .rw[u1 (Jk a3),u1 (Jk b0)];rcases a1 with rfl|⟨v,rfl⟩
      .exact Jd il
      .rw[u1 (Jk a3)];exact Jd il
     .rw[u1 (Jk a6),Jd (by rw[tl];exact jl)]
     .rw[Jd (by rw[JS,tl];exact kl)]
     .rw[set_comm _ _ a6,set_set];rcases a1 with rfl|⟨v,rfl⟩
      .rfl
      .rw[set_set]
    .have cL:n=ns.length:=by omega
     subst cL;refine .inl ⟨⟨_,sa,by rw[ox];exact pd _⟩,?_⟩;have out:∀b,H b=none->b∉O:=λb hb hc=>st.here b hc hb
     have hd:=f2.d;have hw:=f2.w;have hm:=f2.m;rw[take_length]at hw hm;obtain⟨bR,k2⟩:=(st.mono f2.s).store (i:=i) (v:=.dL ((cq (tt == "weaver") ns).map .int) ((cq (tt == "moth") ns).map .int)) (u:=.ref p) il (by
      rw[Rep];exact⟨p,Z,l2,_,_,rfl,by rw[aH (out p np)];exact hd,SqL.of (by rw[aH (out Z n1)];exact hw),jT _,SqL.of (by rw[aH (out l2 n2)];exact hm),jT _⟩)
     have fin:∀U,aK K B E O H2 (put G i (.val (.dL ((cq (tt == "weaver") ns).map .int) ((cq (tt == "moth") ns).map .int)))) U->bF B O O G (put G i (.val (.dL ((cq (tt == "weaver") ns).map .int) ((cq (tt == "moth") ns).map .int)))) σ U->j<U.length->tSs K cal ms D (U.set j (some (.str (bg tt ns.length)))) H2:=λU sx kx jx=>by
      obtain⟨a4,k3⟩:=sx.store (i:=j) (v:=.str (bg tt ns.length)) (u:=.str (bg tt ns.length)) jx (by rw[Rep]);exact⟨B,E,O,_,a4,eH.trans q (kx.trans k3)⟩
     rcases a1 with rfl|⟨v,rfl⟩
     .exact fin _ bR k2 (by rw[JS];exact jl)
     .obtain⟨a4,k3⟩:=bR.anyK (j:=Y) (by rw[aa a3];exact uk) v;exact fin _ a4 (k2.trans k3) (by rw[JS,JS];exact jl)
   .exact(show False from q).elim
  .exact(show False from q).elim
 .exact(show False from q).elim
def yH{i j J d:Nat}{h:ME}{ms:List MS}{s1 Y Z s4:Stmt}{ss:List Stmt}{y z:Str}{py pz pos:Pos}(g:Gf X T k cal)(d':Df X)(nb:aI h=false)(ne:i≠j/\i≠J/\j≠J/\d≠i/\d≠j/\d≠J)(hy:X.N[J]?=some y)(ly:Loc X.env.scope y)(hz:au X.N X.env.scope d z=true)
  (a1:PS X s1 (jB (lF [(tC (.str "weaver"),oJ fS),(tC (.str "moth"),oJ fS)]) (cX i))) (a2:PS X Y (jB (tE X.K cal h) (cX j))) (a3:PS X Z (nu (tBM X.K "list" kT (lC (dP i) (dP j)) (kg (dP J) fS)))) (a4:PS X s4 (jB (lC (lF [(tC (.str "weaver"),tC (.str "moth")),(tC (.str "moth"),tC (.str "weaver"))]) (dP j)) (cX j))) (U:PSs X ss (tSs X.K cal ms)):PSs X (s1::Y::.For (.Name y py) (.Name z pz) [Z,s4] [] pos::ss) (tSs X.K cal (.own3 i j J d h::ms)):=
 @PSs.imp X _ (GF X.K cal i j J d h (tSs X.K cal ms)) _ (be a1 (be a2 (be (rV d'.own g.calm (kQ (bn hz)) (kP d'.nd hy ly (.inl (d'.fn y))) (be a3 (cN a4)) (by intro v;rfl)) U))) λD σ H q=>yG nb ne q
def El{i j D d:Nat}{h:ME}{ms:List MS}{ss:List Stmt}{s1 s2 s3:Stmt}{x y y2 z o t t2 t3 u:Str}{v:Expr}{ks:List (Option Expr)}{vs:List Expr}{px p1 p2 q1 q2 dp pos pu pos2 py pz po pt ps p3 ep U Y Z ao pa q ap cp:Pos}{j1 j2:Nat}(g:Gf X T k cal)(d':Df X)
  (hx:X.N[i]?=some x) (lx:Loc X.env.scope x) (hu:X.N[j]?=some u) (lu:Loc X.env.scope u) (hv:PE X v (tE X.K cal h)) (nb:aI h=false) (nc:ce v=true) (hy:X.N[D]?=some y) (ly:Loc X.env.scope y) (hz:au X.N X.env.scope d z=true) (ho:au X.N X.env.scope i o=true) (ht:au X.N X.env.scope j t=true) (J:(ap.endLine==cp.line)=true) (a0:au X.N X.env.scope D y2=true) (a1:X.N[j]?=some t2) (a2:Loc X.env.scope t2) (a3:au X.N X.env.scope j t3=true)
  (hd:ml [("weaver","moth"),("moth","weaver")] ks vs=true) (ne:i≠j/\i≠D/\j≠D/\d≠i/\d≠j/\d≠D) (a4:PSs X ss (tSs X.K cal ms)) (f1:s1=.Assign [.Name x px] (.Dict [some (.Constant (.str "weaver") j1 p1),some (.Constant (.str "moth") j2 p2)] [.List [] q1,.List [] q2] dp) pos) (f2:s2=.Assign [.Name u pu] v pos2) (f3:s3=.For (.Name y py) (.Name z pz) [.Expr (.Call (.Attribute (.Subscript (.Name o po) (.Name t pt) ps) "append" ap) [.Name y2 p3] [] cp) ep,.Assign [.Name t2 U] (.Subscript (.Dict ks vs Y) (.Name t3 Z) ao) pa] [] q) :
  PSs X (s1::s2::s3::ss) (tSs X.K cal (.own3 i j D d h::ms)):=by
 subst f1 f2 f3;have aL:=yF g;obtain⟨r1,r2,r3,r4⟩:=my (X:=X) (kpos:=Y) hd;exact @yH X T k cal i j D d h ms _ _ _ _ ss y z py pz q g d' nb ne hy ly hz (@sX X i x _ _ px pos d' hx lx Ej rfl) (@sX X j u v _ pu pos2 d' hu lu hv nc)
  (gb (@nE X (.Subscript (.Name o po) (.Name t pt) ps) (.Name y2 p3) [] _ _ "append" ap cp _ _ _ PySem.F.plainAttrs_list PySem.F.slot_list_append PySem.F.type_list_append hX (kU aL (bn ho) (bn ht) (λ_ _=>rfl)) (bm (bn a0) b6 rfl) rfl rfl J rfl rfl) rfl)
  (@sX X j t2 _ _ U pa d' a1 a2 (kU (pos:=ao) aL (oT r1 r2 r3 (λz=>by rw[z]at r4;cases r4) (by rw[r4];decide)) (bn (pos:=Z) a3) (λ_ _=>rfl)) rfl) a4
end
section
variable{K:LI}{B H:Hp}{E O:List Addr}{G:Rho}{σ:St}
def GG(D:aK K (bE B O H1 L) E O' H' C J)(k:bF (bE B O H1 L) O O' G C σ J):ag (ak H1 O) (ak H' O'):=λb u e=>by
 have Y:b∉O:=λz=>by rw[dF z]at e;exact aP e
 have U:bE B O H1 L b=some u:=cf b u e;rw[aH]
 .exact D.keep b u U
 .intro z;rcases k.new b z with q|q
  .exact Y q
  .rw[U]at q;cases q
def A1{ms:List ME}(st:aK K B E O H G σ):aK K (bE B O H (aU ms G σ)) E O H (bD ms G) σ/\(bD ms G).length=G.length:=by
 have base:∀L:List Addr,(∀a∈L,∀(j:Nat) (ys:MV),(bD ms G)[j]?=some (some ys)->d9 ys=true->σ[j]?≠some (some (.ref a)))->(∀(j:Nat) (m:MV),(bD ms G)[j]?=some (some m)->(∃ys,m=.brw ys/\G[j]?=some (some (.own ys))/\∃a,σ[j]?=some (some (.ref a))/\a∈L)\/G[j]?=some (some m))->(bD ms G).length=G.length ->
   (∀a∈L,∀(j:Nat) (m1:MV) (c l:Addr),G[j]?=some (some m1)->isL m1=true->σ[j]?=some (some (.ref c))->lOf (H c)=some l->a≠l) ->
   aK K (bE B O H L) E O H (bD ms G) σ:=λL h1 h2 h3 h4=>by
  have gl:=qX (O:=O) (L:=L) st.keep;have lg:=dg (O:=O) (L:=L) st.keep;refine⟨gl,st.here,st.sub,λa ha z=>st.old a ha (lg.free z),h3.trans st.len,λj m e=>?_,λc d ps qs ad bR e1 U p1 p2 e3 e4=>?_
   ,fg st.inn (λj mo e l0=>by
    rcases h2 j _ e with⟨_,z,_⟩|U
    .rw[z]at l0;cases l0
    .exact⟨⟨mo,U,l0⟩,rfl,λ_ _ _ h=>h⟩) λj m c e _ o ec=>.inl (by
    rcases h2 j _ e with⟨_,z,_⟩|U
    .rw[z]at o;cases o
    .exact⟨m,U,o,ec⟩)
   ⟩
  .rcases h2 j m e with⟨ys,rfl,U,a,ea,J⟩|U
   .obtain⟨u,Y,a',us,rfl,Z,q2,q3,q4⟩:=st.slot j _ U;rw[ea]at Y;cases Y;refine⟨_,ea,a,us,rfl,SqL.of ?_,q2⟩;unfold bE;rw[if_pos q3,if_pos J];exact Z
   .obtain⟨u,Y,q⟩:=st.slot j m U;refine⟨u,Y,?_⟩;cases m with
    |val v=>exact q
    |own ys =>
     obtain⟨a,us,rfl,Z,q2,q3,q4⟩:=q;refine⟨a,us,rfl,Z,q2,q3,?_⟩;unfold bE;rw[if_pos q3,if_neg λJ=>h1 a J j (.own ys) e rfl Y];exact q4
    |ownD ys =>
     obtain⟨a,rfl,Z,q3,q4⟩:=q;refine⟨a,rfl,Z,q3,?_⟩;unfold bE;rw[if_pos q3,if_neg λJ=>h1 a J j (.ownD ys) e rfl Y];exact q4
    |ownO b fs ys =>
     obtain⟨a,l,rfl,q⟩:=q;refine⟨a,l,rfl,q.move (ag.refl _) (λ_ h=>h) (λ_ h=>h) q.aO q.lO ?_ ?_⟩
     .unfold bE;rw[if_pos q.aO,if_neg λJ=>h1 a J j (.ownO b fs ys) e rfl Y];exact q.aB
     .unfold bE;rw[if_pos q.lO,if_neg λb0=>h4 l b0 j _ a l U rfl Y q.l rfl];exact q.lB
    |brwO fs ys=>obtain⟨a,rfl,q⟩:=q;exact⟨a,rfl,q.move lg (ag.refl _)⟩
    |brwD ys=>obtain⟨a,rfl,Z⟩:=q;exact⟨a,rfl,ag.rd lg Z⟩
    |brw ys=>obtain⟨a,us,rfl,Z,q2⟩:=q;exact⟨a,us,rfl,lg.seq Z,q2⟩
  .rcases h2 c _ e1 with⟨_,rfl,_⟩|e1
   .cases p1
   .rcases h2 d _ U with⟨_,rfl,_⟩|U
    .cases p2
    .exact st.apart c d ps qs ad bR e1 U p1 p2 e3 e4
 have plain:bD ms G=G->aU ms G σ=[]->aK K (bE B O H (aU ms G σ)) E O H (bD ms G) σ/\(bD ms G).length=G.length:=λe1 U=>by
  rw[U];exact⟨base [] (λa ha=>by simp at ha) (λj m e=>.inr (by rw[e1]at e;exact e)) (by rw[e1]) (λa ha=>by simp at ha),by rw[e1]⟩
 match ms with
 | []=>exact plain rfl rfl
 | [.bor i] =>
  cases D:(G[i]?).join with
  |none=>exact plain (by simp[bD,D]) (by simp[aU,D])
  |some m =>
   cases m with
   |val _=>exact plain (by simp[bD,D]) (by simp[aU,D])
   |brw _=>exact plain (by simp[bD,D]) (by simp[aU,D])
   |ownD _=>exact plain (by simp[bD,D]) (by simp[aU,D])
   |ownO _ _ _=>exact plain (by simp[bD,D]) (by simp[aU,D])
   |brwO _ _=>exact plain (by simp[bD,D]) (by simp[aU,D])
   |brwD _=>exact plain (by simp[bD,D]) (by simp[aU,D])
   |own xs =>
    have el:bD [.bor i] G=put G i (.brw xs):=by simp[bD,D]
    have e0:=join_some D;obtain⟨u,Y,a,us,rfl,Z,q2,q3,q4⟩:=st.slot i _ e0;have eL:aU [.bor i] G σ=[a]:=by simp[aU,D,Y]
    have a4:i<G.length:=(vp.mp e0).1;rw[eL];refine⟨base [a] (λb hb j ys e oy z=>?_) (λj m e=>?_) (by rw[el,bP]) (λb hb j m1 c l f1 f0 f2 f3=>by
     rw[IS.mp hb];exact(st.inn j m1 c l f1 f0 f2 f3 i (.own xs) (λz=>by subst z;rw[e0]at f1;cases f1;cases f0) e0).2 a rfl Y),by rw[el,bP]⟩
    .have:b=a:=by simpa using hb
     subst this;rw[el]at e;have a5:i≠j:=λz=>by subst z;rw[ab a4]at e;cases e;cases oy
     rw[aa a5]at e;exact st.apart i j (.own xs) ys b a5 e0 e rfl oy Y z
    .rw[el]at e;by_cases a6:i=j
     .subst a6;rw[ab a4]at e;cases e;exact .inl ⟨xs,rfl,e0,a,Y,by simp⟩
     .rw[aa a6]at e;exact .inr e
 | .var _::_=>exact plain rfl rfl
 | .cst _::_=>exact plain rfl rfl
 | .glob _ _::_=>exact plain rfl rfl
 | .bin _ _ _::_=>exact plain rfl rfl
 | .neg _::_=>exact plain rfl rfl
 | .not _::_=>exact plain rfl rfl
 | .and _ _::_=>exact plain rfl rfl
 | .or _ _::_=>exact plain rfl rfl
 | .ite _ _ _::_=>exact plain rfl rfl
 | .cmp _ _ _::_=>exact plain rfl rfl
 | .chain _ _ _ _ _::_=>exact plain rfl rfl
 | .tup _::_=>exact plain rfl rfl
 | .lst _::_=>exact plain rfl rfl
 | .idx _ _::_=>exact plain rfl rfl
 | .slice _ _ _::_=>exact plain rfl rfl
 | .blt _ _::_=>exact plain rfl rfl
 | .call _ _::_=>exact plain rfl rfl
 | .callD _ _ _::_=>exact plain rfl rfl
 | .comp _ _ _ _ _::_=>exact plain rfl rfl
 | .dget _ _ _::_=>exact plain rfl rfl
 | .dat _ _::_=>exact plain rfl rfl
 | .dIn _ _ _::_=>exact plain rfl rfl
 | .datL _ _::_=>exact plain rfl rfl
 | .disp _ _::_=>exact plain rfl rfl
 | .join _ _::_=>exact plain rfl rfl
 | .fld _ _::_=>exact plain rfl rfl
 | .fldL _::_=>exact plain rfl rfl
 | .inO _ _ _::_=>exact plain rfl rfl
 | .callM _ _ _::_=>exact plain rfl rfl
 | .comp2 _ _ _ _::_=>exact plain rfl rfl
 | .callV _ _::_=>exact plain rfl rfl
 | .split _ _::_=>exact plain rfl rfl
 | .bor _::_::_=>exact plain rfl rfl
def jp(h:(bD ms G)[j]?=some (some (.brw ys))):G[j]?=some (some (.brw ys))\/(ms=[.bor j]/\G[j]?=some (some (.own ys))):=by
 unfold bD at h;split at h
 .rename_i i;split at h
  .rename_i xs J;have U:=join_some J;have D:=(vp.mp U).1;by_cases q:i=j
   .subst q;rw[ab D]at h
    simp_all
   .rw[aa q]at h;exact .inl h
  .exact .inl h
 .exact .inl h
def jU{j:Nat}(h:(bD ms G)[j]?=some (some (.brwD ys))):G[j]?=some (some (.brwD ys)):=by
 unfold bD at h;split at h
 .rename_i i;split at h
  .rename_i xs J;have U:=join_some J;have D:=(vp.mp U).1;by_cases q:i=j
   .subst q;rw[ab D]at h;cases h
   .rw[aa q]at h;exact h
  .exact h
 .exact h
def ic{ms:List ME}{j:Nat}{m:MV}(J:∀xs,m≠.brw xs)(h:(bD ms G)[j]?=some (some m)):G[j]?=some (some m):=by
 unfold bD at h;split at h
 .rename_i i;split at h
  .rename_i xs U;have Y:=join_some U;have D:i<G.length:=(vp.mp Y).1;by_cases q:i=j
   .subst q;rw[ab D]at h;cases h;exact absurd rfl (J xs)
   .rw[aa q]at h;exact h
  .exact h
 .exact h
def mE :(bD ms G).length=G.length:=by
 unfold bD;split
 .split
  .exact bP
  .rfl
 .rfl
def pJ{ms:List ME}{H1 H':Hp}{O':List Addr}{C:Rho}{ao:St}(st:aK K B E O H1 G σ)(D:aK K (bE B O H1 (aU ms G σ)) E O' H' C ao)(k:bF (bE B O H1 (aU ms G σ)) O O' (bD ms G) C σ ao) :
  aK K B E O' H' (bh ms G C) ao/\bF B O O' G (bh ms G C) σ ao:=by
 have lg:=dg (O:=O) (L:=aU ms G σ) st.keep;have bt:=GG D k;have stay:∀a,B a≠none->a∈O->a∈O':=λa h1 h2=>k.stay a (λz=>h1 (lg.free z)) h2
 have new:∀a∈O',a∈O\/B a=none:=λa h=>(k.new a h).imp id lg.free
 have mutO:∀(j:Nat) (fs xs:List PV),C[j]?=some (some (.ownO true fs xs))->(∃ys,G[j]?=some (some (.ownO true fs ys)))/\ao[j]?=σ[j]?:=λj fs xs e=>by
  obtain⟨⟨d,Z⟩,J⟩:=k.mutO j fs xs e;exact⟨⟨d,ic (λ_ z=>by cases z) Z⟩,J⟩
 have slot:∀(j:Nat) (m:MV),C[j]?=some (some m)->(∀ys,m=.brw ys->¬ (ms=[.bor j]/\G[j]?=some (some (.own ys))))->∃u,ao[j]?=some (some u)/\d8 K B O' H' m u:=λj m e hn=>by
  obtain⟨u,eu,q⟩:=D.slot j m e;refine⟨u,eu,?_⟩;cases m with
  |val v=>exact q
  |own ys=>obtain⟨a,us,rfl,q1,q2,q3,q4⟩:=q;exact⟨a,us,rfl,q1,q2,q3,lg.free q4⟩
  |brw ys =>
   obtain⟨Z,J⟩:=k.brw j (.brw ys) rfl e;rcases jp Z with Y|Y
   .obtain⟨w,ew,a,us,rfl,q1,q2⟩:=st.slot j _ Y;rw[eu,ew]at J;cases J;exact⟨a,us,rfl,q1,Reps.mono bt _ q2⟩
   .exact absurd Y (hn ys rfl)
  |ownD ys=>obtain⟨a,rfl,q1,q3,q4⟩:=q;exact⟨a,rfl,q1,q3,lg.free q4⟩
  |ownO b fs ys=>obtain⟨a,l,rfl,q⟩:=q;exact⟨a,l,rfl,q.move (ag.refl _) (λ_ h=>h) (λ_ h=>h) q.aO q.lO (lg.free q.aB) (lg.free q.lB)⟩
  |brwO fs ys =>
   obtain⟨Z,J⟩:=k.brw j (.brwO fs ys) rfl e;obtain⟨w,ew,a,rfl,q1⟩:=st.slot j _ (ic (λ_ z=>by cases z) Z);rw[eu,ew]at J;cases J;exact⟨a,rfl,q1.move (ag.refl B) bt⟩
  |brwD ys =>
   obtain⟨Z,J⟩:=k.brw j (.brwD ys) rfl e;obtain⟨w,ew,a,rfl,q1⟩:=st.slot j _ (jU Z);rw[eu,ew]at J;cases J;exact⟨a,rfl,q1⟩
 by_cases hA:∃i a3 xs,ms=[.bor i]/\(G[i]?).join=some (.own a3)/\(C[i]?).join=some (.brw xs)
 .obtain⟨i,a3,xs,rfl,h0,h1⟩:=hA;have eb:bh [.bor i] G C=put C i (.own xs):=by simp[bh,h0,h1]
  rw[eb];have e0:=join_some h0;have Z:=join_some h1;have a5:i<C.length:=(vp.mp Z).1;obtain⟨el,es⟩:=k.brw i (.brw xs) rfl Z;have exs:xs=a3:=by
   rcases jp el with Y|⟨_,Y⟩
   .rw[e0]at Y;cases Y
   .rw[e0]at Y;cases Y;rfl
  subst exs;obtain⟨w,ew,a,us,rfl,q1,q2,q3,q4⟩:=st.slot i _ e0;have eL:aU [.bor i] G σ=[a]:=by simp[aU,h0,ew]
  have ga:bE B O H1 (aU [.bor i] G σ) a=some (.lst us):=by
   unfold bE;rw[eL,if_pos q3,if_pos (by simp)];exact q1
  have a4:∀(j:Nat) (ys:MV) (ad:Addr),C[j]?=some (some ys)->d9 ys=true->ao[j]?=some (some (.ref ad))->ad≠a:=λj ys ad h1 oy h2 z=>by
   obtain⟨u,eu,qq⟩:=D.slot j _ h1;rw[h2]at eu;cases eu;cases ys with
   |own ys =>
    obtain⟨b,_,J,_,_,_,q⟩:=qq;cases J;rw[z,ga]at q;cases q
   |ownD ys =>
    obtain⟨b,J,_,_,q⟩:=qq;cases J;rw[z,ga]at q;cases q
   |ownO _ _ _ =>
    obtain⟨b,l,J,q⟩:=qq;cases J;have q:=q.aB;rw[z,ga]at q;cases q
   |brwO _ _=>cases oy
   |val _=>cases oy
   |brw _=>cases oy
   |brwD _=>cases oy
  refine⟨⟨lg.trans D.keep,D.here,D.sub,st.old,by rw[bP];exact D.len,λj m e=>?_,λc d ps qs ad b4 Z J p1 p2 Y e4=>?_
   ,fg D.inn (λj mo e l0=>by
    have hj:i≠j:=λz=>by subst z;rw[ab a5]at e;cases e;cases l0
    rw[aa hj]at e;exact⟨⟨mo,e,l0⟩,rfl,λ_ _ _ h=>h⟩) λj m c e _ o ec=>by
    by_cases hj:i=j
    .subst hj;rw[es,ew]at ec;cases ec;refine .inr λk' m1 a' l' f1 f0 f2 f3 z=>?_
     obtain⟨u,Y,q⟩:=D.slot k' _ f1;rw[f2]at Y;cases Y;cases m1<;>try (cases f0;done)
     obtain⟨a2,l2,e4,q⟩:=q;cases e4;have e6:=q.l;rw[e6]at f3;cases f3;have:=q.lB;rw[<- z,ga]at this;cases this
    .rw[aa hj]at e;exact .inl ⟨m,e,o,ec⟩
   ⟩,⟨stay,new,λj ys U e=>?_,by rw[bP];exact k.len.trans mE
   ,λj fs xs e=>by
    have hj:i≠j:=λz=>by subst z;rw[ab a5]at e;cases e
    rw[aa hj]at e;exact mutO j fs xs e
   ⟩⟩
  .by_cases aL:i=j
   .subst aL;rw[ab a5]at e;cases e;refine⟨_,by rw[es];exact ew,a,us,rfl,D.keep _ _ ga,Reps.mono bt _ q2,k.stay a (by rw[ga];simp) q3,q4⟩
   .rw[aa aL]at e;exact slot j m e λys _ ⟨z,_⟩=>aL (by cases z;rfl)
  .by_cases hc:i=c
   .subst hc;rw[es,ew]at Y;cases Y;rw[aa b4]at J;exact a4 d qs _ J p2 e4 rfl
   .rw[aa hc]at Z;by_cases hd:i=d
    .subst hd;rw[es,ew]at e4;cases e4;exact a4 c ps _ Z p1 Y rfl
    .rw[aa hd]at J;exact D.apart c d ps qs ad b4 Z J p1 p2 Y e4
  .by_cases aL:i=j
   .subst aL;rw[ab a5]at e;cases e;cases U
   .rw[aa aL]at e;obtain⟨Z,J⟩:=k.brw j ys U e;cases ys with
    |brw ys =>
     rcases jp Z with Y|⟨z,_⟩
     .exact⟨Y,J⟩
     .cases z;exact absurd rfl aL
    |brwD ys=>exact⟨jU Z,J⟩
    |val _=>cases U
    |own _=>cases U
    |ownD _=>cases U
    |ownO _ _ _=>cases U
    |brwO fs ys=>exact⟨ic (λ_ z=>by cases z) Z,J⟩
 .have eb:bh ms G C=C:=by
   unfold bh;split
   .rename_i i;split
    .rename_i a3 xs h0 h1;exact absurd ⟨i,a3,xs,rfl,h0,h1⟩ hA
    .rfl
   .rfl
  rw[eb];have no:∀(j:Nat) (ys:List PV),C[j]?=some (some (.brw ys))->¬ (ms=[.bor j]/\G[j]?=some (some (.own ys))):=λj ys e ⟨h1,h2⟩=>hA ⟨j,ys,ys,h1,by rw[h2];rfl,by rw[e];rfl⟩
  refine⟨⟨lg.trans D.keep,D.here,D.sub,st.old,D.len,λj m e=>slot j m e λys z=>no j ys (by rw[e,z]),D.apart
   ,D.inn
   ⟩,⟨stay,new,λj ys U e=>?_,k.len.trans mE
   ,mutO
   ⟩⟩
  obtain⟨Z,J⟩:=k.brw j ys U e;cases ys with
  |brw ys =>
   rcases jp Z with Y|Y
   .exact⟨Y,J⟩
   .exact absurd Y (no j ys e)
  |brwD ys=>exact⟨jU Z,J⟩
  |val _=>cases U
  |own _=>cases U
  |ownD _=>cases U
  |ownO _ _ _=>cases U
  |brwO fs ys=>exact⟨ic (λ_ z=>by cases z) Z,J⟩
end
section
variable{X:Cx}{T:Tab}{k:Nat}{cal:Cal}
def A2(K:LI)(n:Nat)(g:TG)(tk:PV->Rho->Option Rho):Prop:=
 ∀B E O H G C σ x u (Q:St->Hp->Prop),σ.length=n->aK K B E O H G σ->Rep K (ak H O) x u->tk x G=some C ->
  (∀q,aK K B E O H C q->bF B O O G C σ q->Q q H)->g u σ H Q
def yI{K:LI}{n:Nat}{ms:List ME}{g:TG}{tk:PV->Rho->Option Rho}{body:List MS}{D:mS}{σ:St}{H1:Hp}{J:It}(hn:σ.length=n)(hg:A2 K n g tk){B:Hp}{E O:List Addr}{G:Rho}{xs:List PV}(Y:aK K B E O H1 G σ)(it:m9 K J xs (ak H1 O) (bE B O H1 (aU ms G σ)))
  (q:eH K B E O G σ D ((aT (λx C=>eF (tk x C) λU=>exs cal body U) xs (bD ms G)).back ms G)):zX (λ_ _ R=>R J H1) g (tSs K cal body) D σ H1:=by
 obtain⟨b1,_⟩:=A1 (ms:=ms) Y;refine⟨λi m aL H'=>m=xs.length-i/\i<=xs.length/\∃C O',aK K (bE B O H1 (aU ms G σ)) E O' H' C aL/\bF (bE B O H1 (aU ms G σ)) O O' (bD ms G) C σ aL /\
  aT (λx C=>eF (tk x C) λU=>exs cal body U) (xs.drop i) C=aT (λx C=>eF (tk x C) λU=>exs cal body U) xs (bD ms G),⟨xs.length,by simp,IW _,bD ms G,O,b1,.refl,by simp⟩,?_⟩
 rintro i m aL H' ⟨rfl,hi,C,O',Z,k',eq⟩;by_cases a4:i<xs.length
 .right;have ex:xs[i]?=some xs[i]:=IP a4;refine⟨it.go i _ H' Z.keep ex,λa5 H2=>∃m',m'<xs.length-i/\(m'=xs.length-(i+1)/\i+1<=xs.length/\∃C O',aK K (bE B O H1 (aU ms G σ)) E O' H2 C a5/\bF (bE B O H1 (aU ms G σ)) O O' (bD ms G) C σ a5 /\
   aT (λx C=>eF (tk x C) λU=>exs cal body U) (xs.drop (i+1)) C=aT (λx C=>eF (tk x C) λU=>exs cal body U) xs (bD ms G)),λa5 H2 z=>z,λu H2 y=>?_⟩
  obtain⟨s2,hr⟩:=it.yld i _ H' u H2 Z.keep ex y;have b2:=GG Z k';have hx:Rep K (ak H2 O') xs[i] u:=hr O' Z.here (b2.trans (ah s2));rw[Kt a4,aT]at eq;cases et:tk xs[i] C with
  |none =>
   rw[et]at eq;rw[<- eq]at q;exact(show False from q).elim
  |some a0 =>
   rw[et,show eF (some a0) (λU=>exs cal body U)=exs cal body a0 from rfl]at eq;have bR:aL.length=n:=by rw[<- Z.len,k'.len,mE,Y.len];exact hn
   refine hg _ E O' H2 C a0 aL _ u _ bR (Z.mono s2) hx et λa5 b4 k2=>?_
   refine⟨_,E,O',a0,b4,?_⟩;have kk:=k'.trans k2;cases er:exs cal body a0 with
   |next a1 =>
    rw[er]at eq;exact λa2 H3 O3 ao k3=>⟨_,by omega,rfl,a4,a1,O3,ao,kk.trans k3,eq⟩
   |cont a1 =>
    rw[er]at eq;exact λa2 H3 O3 ao k3=>⟨_,by omega,rfl,a4,a1,O3,ao,kk.trans k3,eq⟩
   |brk a1 =>
    rw[er]at eq;rw[<- eq]at q;exact λa2 H3 O3 ao k3=>by
     obtain⟨a3,kb⟩:=pJ Y ao (kk.trans k3);exact q a2 H3 O3 a3 kb
   |ret v =>
    rw[er]at eq;rw[<- eq]at q;exact λw H3 s3 r=>q w H3 ((dg Y.keep).trans s3) r
   |retT v a1 =>
    rw[er]at eq;rw[<- eq]at q;exact λa2 H3 O3 ao k3=>by
     obtain⟨a3,kb⟩:=pJ Y ao (kk.trans k3);exact q a2 H3 O3 a3 kb
   |retF ys =>
    rw[er]at eq;rw[<- eq]at q;exact λp us H3 s3 hp he r=>q p us H3 ((dg Y.keep).trans s3) ((dg Y.keep).free hp) he r
   |bad =>
    rw[er]at eq;rw[<- eq]at q;exact(show False from q).elim
 .left;have ei:i=xs.length:=by omega
  subst ei;rw[drop_length,aT]at eq;rw[<- eq]at q;obtain⟨a3,kb⟩:=pJ Y Z k';exact⟨it.stop H' Z.keep,q aL H' O' a3 kb⟩
def yJ{K:LI}(hn:σ.length=n)(Y:A2 K n g tk)(st:aK K B E O H G σ)(Z:evs cal ms G=some vs)(e2:cm k' vs=some xs)
  (q:eH K B E O G σ D ((aT (λx C=>eF (tk x C) λU=>exs cal body U) xs (bD ms G)).back ms G)):zX (tW K cal k' ms) g (tSs K cal body) D σ H:=by
 exact⟨B,E,O,G,vs,xs,st,Z,e2,λJ H1 s1 it=>yI hn Y (st.mono s1) it q⟩
def A3{K:LI}(hi:i<n):A2 K n (cX i) (λx G=>some (put G i (.val x))):=by
 intro B E O H G C σ x u Q hn st r e q;cases e;obtain⟨D,J⟩:=st.store (i:=i) (by simp[*]) r;exact q _ D J
def Em(g:Gf X T k cal)(d:Df X)(hi:X.N[i]?=some x)(hx:Loc X.env.scope x)(hw:PI X (.Name x px) it (tW X.K cal U src))(J:iE it=true)(Y:PSs X b (tSs X.K cal body)) :
  PS X (.For (.Name x px) it b [] pos) (tS X.K cal (.for1 i U src body)):=by
 refine PS.imp' (rV d.own g.calm hw (kP d.nd hi hx (.inl (d.fn x))) Y (by intro v;cases it<;>first|rfl|(injection J))) λD σ H hl q=>?_
 refine gz q λB E O G st q=>?_
 rw[ex]at q;cases e:(evs cal src G).bind (cm U)with
 |none=>rw[e]at q;exact(show False from q).elim
 |some xs =>
  rw[e]at q;simp only[i1]at e;refine ae e λvs Z e2=>?_
  exact yJ (tk:=λx G=>some (put G i (.val x))) rfl (A3 (ltN hi hl)) st Z e2 q
end
noncomputable def pK:List Nat->TGs
 | []=>FA
 |i::is=>BO (cX i) (pK is)
section
variable{X:Cx}{T:Tab}{k:Nat}{cal:Cal}
theorem mF:∀{is}{q},dG X.N X.env.scope is q=true->(assignEach q X.env).length=is.length/\(assignEach q X.env).findIdx? (·.1)=none
 | [],[],_=>⟨rfl,rfl⟩
 | [],_::_,h=>dO h
 | _::_,[],h=>dO h
 |i::is,e::q,h=>by
  cases e<;>first|(exact dO h;done)|skip
  simp only[pp,oe]at h;rename_i x p;obtain⟨h1,h2⟩:=mF h.2;refine⟨?_,?_⟩
  .show((false,assign (.Name x p) X.env)::assignEach q X.env).length=_;simp[h1]
  .show((false,assign (.Name x p) X.env)::assignEach q X.env).findIdx? (·.1)=none;rw[findIdx?_cons];simp[h2]
theorem n6(d:Df X):∀{is}{q},dG X.N X.env.scope is q=true->PGs X q (pK is)
 | [],[],_=>zW
 | [],_::_,h=>dO h
 | _::_,[],h=>dO h
 |i::is,e::q,h=>by
  cases e<;>first|(exact dO h;done)|skip
  simp[pp,oe]at h;rename_i x p;exact wX (kP d.nd h.1.1.1 (fF h.1.1.2) (.inl (d.fn x))) (n6 d h.2) rfl
theorem rj:∀{is}{D},dG X.N X.env.scope is D=true->∀i∈is,i<X.N.length
 | [],[],_=>λi hi=>by simp at hi
 | [],_::_,h=>dO h
 | _::_,[],h=>dO h
 |i::is,e::D,h=>λj q=>by
  cases e<;>first|(exact dO h;done)|skip
  simp[pp,oe]at h;rcases rb.mp q with rfl|q
  .exact(vp.mp h.1.1.1).1
  .exact rj h.2 j q
theorem uV{K:LI}:∀{is}{vs}{us}{B}{E O}{H}{G C}{σ}{Q:St->Hp->Prop},(∀i∈is,i<σ.length)->aK K B E O H G σ->Reps K (ak H O) vs us->sF is vs G=some C ->
  (∀D,aK K B E O H C D->bF B O O G C σ D->Q D H)->pK is us σ H Q
 | [],[],us,_,_,_,_,_,_,_,_,_,st,r,e,q=>by
  subst r;cases e;exact⟨rfl,q _ st .refl⟩
 | [],_::_,_,_,_,_,_,_,_,_,_,_,_,_,e,_=>by cases e
 | _::_,[],_,_,_,_,_,_,_,_,_,_,_,_,e,_=>by injection e
 |i::is,v::vs,us,B,E,O,H,G,C,σ,Q,hi,st,r,e,q=>by
  refine aq r λu Z J r1 r2=>?_
  subst J;obtain⟨U,k1⟩:=st.store (i:=i) (hi i (.head _)) r1;refine⟨u,Z,rfl,?_⟩;exact uV (λj hj=>by rw[JS];exact hi j (.tail _ hj)) U r2 e λD Y k'=>q D Y (k1.trans k')
def Eo{K:LI}(hi:∀i∈is,i<n):A2 K n (FC K is.length (pK is)) (gS is):=by
 intro B E O H G C σ x u Q hn st r e q;cases x with
 |tup vs =>
  refine aq r λa us D U J=>?_
  subst D;have hl:∀{is}{vs}{G C},sF is vs G=some C->vs.length=is.length:=by
   intro is
   induction is with
   |nil=>intro vs G C h;cases vs<;>simp[sF]at h ⊢
   |cons i is ih=>intro vs G C h;cases vs<;>simp[sF]at h ⊢;exact ih h
  exact⟨a,us,rfl,(ba H O).seqT (da U),by rw[<- J.length];exact hl e,uV (λi h=>by rw[hn];exact hi i h) st J e q⟩
 | _=>exact aP e
def Ep(g:Gf X T k cal)(d:Df X)(hi:dG X.N X.env.scope is U=true)(hw:PI X (.Tuple U j Z) it (tW X.K cal Y src))(J:iE it=true)(hb:PSs X b (tSs X.K cal body)) :
  PS X (.For (.Tuple U j Z) it b [] pos) (tS X.K cal (.forT is Y src body)):=by
 obtain⟨h1,h2⟩:=mF hi;refine PS.imp' (rV d.own g.calm hw (CC g.calm (n6 d hi) h1 h2) hb (by intro v;cases it<;>first|rfl|(simp[iE]at J))) λD σ H hl q=>?_
 refine gz q λB E O G st q=>?_
 rw[ex]at q;cases e:(evs cal src G).bind (cm Y)with
 |none=>rw[e]at q;exact(show False from q).elim
 |some xs =>
  rw[e]at q;simp only[i1]at e;refine ae e λvs e1 e2=>?_
  exact yJ (tk:=gS is) hl (Eo (rj hi)) st e1 e2 q
def uW(g:Gf X T k cal)(d:Df X)(hi:X.N[i]?=some x)(hx:Loc X.env.scope x)(hc:chk T Z X.N X.env.scope v=true)(U:nO X.env.scope x px v Z=true):∃t,PS X (.Assign [.Name x px] v pos) (jB t (cX i))/\(∀σ H Q,tF X.K cal Z σ H Q->t σ H Q)/\iF Z=true:=by
 unfold nO at U;rw[oe]at U;obtain⟨U,hk⟩:=U;have hl:=am U;refine ae hl λc w _=>?_
 obtain rfl:=sI w;cases Z with
 |comp2 _ _ _ _=>exact dO hk
 |comp k' src js cond elt =>
  refine Fv (jQ hc) λe y py it ifs scope cpos e0 h=>?_
  rw[e0]at U ⊢;simp only[oe,Jb]at h;obtain⟨⟨⟨⟨h1,h2⟩,h3⟩,h4⟩,h5⟩:=h;have hw:=mB (tg:=.Name y py) (λz=>by exact dO z) g h2 (λxs Y=>⟨sounds src g Y,a7 Y⟩) (λm x hm hx=>match src,hm with|[m'],rfl=>(av m' g (cy hx).1.1).1);exact⟨_,sA d.nd hi hx (nU h1) g.calm hw.1 (λD J C fp=>sR h3 λc hc=>(av cond (g.blk y (fk X.N js) scope D J C fp) hc).2) (λD J C fp=>(av elt (g.blk y (fk X.N js) scope D J C fp) h4).1) (v8 d U) (by have:=hw.2;intro v;cases it<;>first|rfl|(injection this)) (.inl (d.fn x)),
   λσ H Q q=>sP.comp_go h5 q,rfl⟩
 | _=>cases (show false=true from hc)
def GH(Y:iF U=true){K:LI}(q:tE K cal U σ H Q):tF K cal U σ H Q:=by
 obtain⟨B,E,O,G,v,st,D,q⟩:=q;have J:∃xs,v=.lst xs:=by
  cases U with
  |lst es =>
   rw[ev,i1]at D;obtain⟨vs,_,J⟩:=D;split at J
   .cases J;exact⟨_,rfl⟩
   .exact aP J
  |comp _ _ _ _ _=>exact re G v D
  |blt b es=>cases b<;>first|exact fG (.inl rfl) G v D|exact fG (.inr (.inl rfl)) G v D|exact fG (.inr (.inr (.inl rfl))) G v D|exact fG (.inr (.inr (.inr (.inl rfl)))) G v D|exact fG (.inr (.inr (.inr (.inr rfl)))) G v D|(simp[iF]at Y)
  | _=>injection Y
 obtain⟨xs,rfl⟩:=J;exact⟨B,E,O,G,xs,st,D,λp us H' s Z he r=>q _ _ s (uQ st.here Z he r)⟩
end
section
variable{T:Tab}{N:List Str}{sc:Scope}
def A4(h:fw T N sc (.set i e) s=true):∃x px v pos,s=.Assign [.Name x px] v pos/\(N[i]?==some x&&fY sc x&&aF x&&chk T e N sc v&&!aI e&&(ce v||nO sc x px v e||ya sc x v))=true:=by
 refine ae (am h) λq D h1=>?_
 obtain⟨pos,rfl⟩:=i_ D;exact⟨_,_,_,_,rfl,h1⟩
def A5(h:fw T N sc (.setOwn i e) s=true):∃x px v pos,s=.Assign [.Name x px] v pos/\(N[i]?==some x&&fY sc x&&aF x&&chk T e N sc v&&iF e&&(ce v||nO sc x px v e))=true:=by
 refine ae (am h) λq D h1=>?_
 obtain⟨pos,rfl⟩:=i_ D;exact⟨_,_,_,_,rfl,h1⟩
def sY (h:fw T N sc (.append i e) s=true):∃x p m ap v cp pos,s=.Expr (.Call (.Attribute (.Name x p) m ap) [v] [] cp) pos/\(au N sc i x&&m==("append":Str)&&chk T e N sc v&&!aI e&&az v&&ap.endLine==cp.line)=true:=by
 refine ae (am h) λq J h1=>?_
 refine ae (am h1) λv U h2=>?_
 refine lf (uG J) λp pos D=>?_
 subst D;rw[db U];exact⟨_,_,_,_,_,_,_,rfl,h2⟩
def A6 {i:Nat}{es:List ME}{s:Stmt} (h:fw T N sc (.mkO i es) s=true):∃x px y D args cp pos,s=.Assign [.Name x px] (.Call (.Name y D) args [] cp) pos/\(N[i]?==some x&&fY sc x&&aF x&&y==("Table":Str)&&glB sc y&&chks T es N sc args&&(es.all λm=>!aI m)&&!args.isEmpty)=true:=by
 obtain⟨q,J,h1⟩:=am h;obtain⟨c,U,h2⟩:=am h1;obtain⟨pos,rfl⟩:=i_ J;obtain⟨p,cp,Y⟩:=h_ U;rw[Y];exact⟨_,_,_,_,_,_,_,rfl,h2⟩
def yK {i:Nat}{e:ME}{s:Stmt} (h:fw T N sc (.appO i e) s=true):∃x p f fp m ap v cp pos,s=.Expr (.Call (.Attribute (.Attribute (.Name x p) f fp) m ap) [v] [] cp) pos/\(au N sc i x&&f==("taken":Str)&&m==("append":Str)&&chk T e N sc v&&!aI e&&az v&&ap.endLine==cp.line)=true:=by
 obtain⟨q,D,h1⟩:=am h;obtain⟨v,J,h2⟩:=am h1;obtain⟨p,fp,pos,rfl⟩:=AD D;rw[db J];exact⟨_,_,_,_,_,_,_,_,_,rfl,h2⟩
def yL{e:ME}{s:Stmt}(h:fw T N sc (.retT e) s=true):∃v pos,s=.Return (some v) pos/\(chk T e N sc v&&!aI e)=true:=by
 obtain⟨v,q,h1⟩:=am h;obtain⟨pos,rfl⟩:=pq q;exact⟨v,pos,rfl,h1⟩
def wb{i j f:Nat}{es:List ME}{s:Stmt}(h:fw T N sc (.takeO (some j) i f es) s=true):∃x px c p pos,s=.Assign [.Name x px] (.Call (.Attribute (.Name c.1 p) c.2.1 c.2.2.2.1) c.2.2.1 [] c.2.2.2.2) pos/\(N[j]?==some x&&fY sc x&&aF x&&(qJ N sc T.ms f i (λxs=>chks T es N sc xs) c&&(es.all λm=>!aI m)))=true:=by
 obtain⟨q,D,h1⟩:=am h;obtain⟨c,J,h2⟩:=am h1;obtain⟨pos,rfl⟩:=i_ D;obtain⟨p,U⟩:=ph J;rw[U];exact⟨_,_,c,_,_,rfl,h2⟩
def wc{i f:Nat}{es:List ME}{s:Stmt}(h:fw T N sc (.takeO none i f es) s=true):∃c p pos,s=.Expr (.Call (.Attribute (.Name c.1 p) c.2.1 c.2.2.2.1) c.2.2.1 [] c.2.2.2.2) pos/\(qJ N sc T.ms f i (λxs=>chks T es N sc xs) c&&(es.all λm=>!aI m))=true:=by
 obtain⟨q,D,h1⟩:=am h;obtain⟨c,J,h2⟩:=am h1;obtain⟨pos,rfl⟩:=yd D;obtain⟨p,U⟩:=ph J;rw[U];exact⟨c,_,_,rfl,h2⟩
def sZ (h:fw T N sc (.extend i e) s=true):∃x p m ap v cp pos,s=.Expr (.Call (.Attribute (.Name x p) m ap) [v] [] cp) pos/\(au N sc i x&&m==("extend":Str)&&chk T e N sc v&&az v&&ap.endLine==cp.line)=true:=by
 refine ae (am h) λq J h1=>?_
 refine ae (am h1) λv U h2=>?_
 refine lf (uG J) λp pos D=>?_
 subst D;rw[db U];exact⟨_,_,_,_,_,_,_,rfl,h2⟩
def yM(h:fw T N sc (.expr e) s=true):∃v pos,s=.Expr v pos/\(chk T e N sc v&&ce v)=true:=by
 cases s with
 |Expr v pos=>exact⟨v,pos,rfl,h⟩
 | _=>cases (show false=true from h)
def A7(h:fw T N sc (.ite c a b) s=true):∃t x y pos,s=.If t x y pos/\(chk T c N sc t&&chkSs T N sc a x&&chkSs T N sc b y)=true:=by
 cases s with
 |If t x y pos=>exact⟨t,x,y,pos,rfl,h⟩
 | _=>cases (show false=true from h)
def yN(h:fw T N sc (.for1 i k src body) s=true):∃x px it b pos,s=.For (.Name x px) it b [] pos/\(N[i]?==some x&&fY sc x&&aF x&&pi sc false (λxs=>chks T src N sc xs) k it&&chkSs T N sc body b)=true:=by
 simp[AE]at h;split at h<;>first|(exact aP h;done)|(rename_i q;exact aP q;exact⟨_,_,_,_,_,rfl,h⟩)|(injections;done)|(injections;subst_vars;exact⟨_,_,_,_,_,rfl,h⟩)
def yO(h:fw T N sc (.forT is k src body) s=true):∃D j J it b pos,s=.For (.Tuple D j J) it b [] pos/\(dG N sc is D&&pi sc true (λxs=>chks T src N sc xs) k it&&chkSs T N sc body b)=true:=by
 simp[AF]at h;split at h<;>first|(exact aP h;done)|(rename_i q;exact aP q;exact⟨_,_,_,_,_,_,rfl,h⟩)|(injections;done)|(injections;subst_vars;exact⟨_,_,_,_,_,_,rfl,h⟩)
def A8(h:fw T N sc (.ret e) s=true):∃v pos,s=.Return (some v) pos/\(chk T e N sc v&&!aI e)=true:=by
 refine ae (am h) λv q h1=>?_
 obtain⟨pos,rfl⟩:=pq q;exact⟨_,_,rfl,h1⟩
def s_(h:fw T N sc (.retOwn i) s=true):∃x p pos,s=.Return (some (.Name x p)) pos/\(au N sc i x)=true:=by
 refine ae (am h) λv q h1=>?_
 refine ae (am h1) λx D h2=>?_
 obtain⟨pos,rfl⟩:=pq q;obtain⟨p,rfl⟩:=yb D;exact⟨_,_,_,rfl,h2⟩
end
def wd(g:Gf X T k cal)(d:Df X){i:Nat}{e:ME}{s:Stmt}(h:fw T X.N X.env.scope (.set i e) s=true):PS X s (tS X.K cal (.set i e)):=by
 refine gz (A4 h) λx px v pos J hc=>?_
 subst J;simp only[oe,KD,IU,Jb]at hc;refine HF hc λh1 h2 h3 h4 h5 h6=>?_
 rcases h6 with(h6|h6)|h6
 rotate_right
 .exact PS.imp' (gG d.nd h1 (fF h2) (av e g h4).1 (v9 h6) (.inl (d.fn x))) λD σ H hl q=>sV (ltN h1 hl) h5 q
 .exact Gz d h1 (fF h2) (av e g h4).1 h5 h6
 .obtain⟨t,p,U,Y⟩:=uW (pos:=pos) g d h1 (fF h2) h4 h6;exact PS.imp' p λD σ H hl q=>U _ _ _ (GH Y (sV (ltN h1 hl) h5 q))
noncomputable def Er:MS->Bool
 | .freeze _=>true
 | .own3 _ _ _ _ _=>true
 | _=>false
def tf{T:Tab}{k:Nat}{cal:Cal}{X:Cx}(g:Gf X T k cal)(d:Df X){i j Z d':Nat}{e:ME}{ms:List MS}{s1 s2 s3:Stmt}{ss:List Stmt}(h:ye T X.N X.env.scope i j Z d' e s1 s2 s3=true)(q:PSs X ss (tSs X.K cal ms)):PSs X (s1::s2::s3::ss) (tSs X.K cal (.own3 i j Z d' e::ms)):=by
 unfold ye at h;obtain⟨h,D⟩:=mu.mp h;obtain⟨h,h3⟩:=mu.mp h;obtain⟨h1,h2⟩:=mu.mp h;obtain⟨q1,e1,h1⟩:=am h1;obtain⟨q2,e2,h2⟩:=am h2;obtain⟨q3,e3,h3⟩:=am h3;obtain⟨_,_,_,_,_,_,_,_,_,f1⟩:=Dr e1;obtain⟨_,f2⟩:=i_ e2;obtain⟨_,_,_,_,_,_,_,_,_,_,_,_,_,f3⟩:=Ds e3;simp only[oe,IU,Jb]at h1 h2 h3;obtain⟨⟨⟨⟨a1,a2⟩,_⟩,a3⟩,a4⟩:=h1;obtain⟨⟨⟨⟨⟨b1,b2⟩,_⟩,b3⟩,b4⟩,b5⟩:=h2;obtain⟨⟨⟨⟨⟨⟨⟨⟨⟨⟨⟨c1,c2⟩,c3⟩,c4⟩,c5⟩,c6⟩,c7⟩,c8⟩,c9⟩,J⟩,U⟩,Y⟩:=h3;rw[a3,a4]at f1;rw[c6]at f3;exact El g d a1 (fF a2) b1 (fF b2) (av e g b3).1 b4 b5 c1 (fF c2) c3 c4 c5 (IU.mpr c7) c8 c9 (fF J) U Y (IX D) q f1 f2 f3
mutual
theorem yP{T:Tab}{k:Nat}{cal:Cal}{X:Cx}(g:Gf X T k cal)(d:Df X):∀(m:MS) (s:Stmt),fw T X.N X.env.scope m s=true->PS X s (tS X.K cal m)
 | .set i e,s,h=>wd g d h
 | .setOwn i e,s,h=>by
  obtain⟨x,px,v,pos,rfl,hc⟩:=A5 h;simp only[oe,KD,IU]at hc;obtain⟨⟨⟨⟨⟨h1,h2⟩,h3⟩,h4⟩,h5⟩,h6⟩:=hc;rcases h6 with h6|h6
  .exact GA d h1 (fF h2) (Ee g h4 h5) h6
  .obtain⟨t,p,hp,hf⟩:=uW (pos:=pos) g d h1 (fF h2) h4 h6;exact PS.imp' p λD σ H hl q=>hp _ _ _ (yx (ltN h1 hl) q)
 | .append i e,s,h=>by
  obtain⟨x,p,m,ap,v,cp,pos,rfl,hc⟩:=sY h;simp only[oe,IU,Jb]at hc;obtain⟨⟨⟨⟨⟨h1,rfl⟩,h3⟩,h4⟩,h5⟩,h6⟩:=hc;exact yy (av e g h3).1 h1 h4 h5 (IU.mpr h6)
 | .extend i e,s,h=>by
  obtain⟨x,p,m,ap,v,cp,pos,rfl,hc⟩:=sZ h;simp only[oe,IU]at hc;obtain⟨⟨⟨⟨h1,rfl⟩,h3⟩,h5⟩,h6⟩:=hc;exact yz (av e g h3).1 h1 h5 (IU.mpr h6)
 | .setIdx _ _ _,s,h=>absurd (show false=true from h) kn
 | .unpack _ _,s,h=>absurd (show false=true from h) kn
 | .expr e,s,h=>by
  obtain⟨v,pos,rfl,hc⟩:=yM h;simp only[oe]at hc;exact Ef (av e g hc.1).1 hc.2
 | .ite c a b,s,h=>by
  obtain⟨t,x,y,pos,rfl,hc⟩:=A7 h;simp only[oe]at hc;exact Ih (av c g hc.1.1).2 (soundSs g d a x hc.1.2) (soundSs g d b y hc.2)
 | .for1 i k' src body,s,h=>by
  obtain⟨x,px,it,b,pos,rfl,hc⟩:=yN h;simp only[oe,IU]at hc;obtain⟨⟨⟨⟨h1,h2⟩,h3⟩,h4⟩,h5⟩:=hc;have hw:=mB (tg:=.Name x px) (λz=>by cases z) g h4 (λxs J=>⟨sounds src g J,a7 J⟩) (λm x hm hx=>match src,hm with|[Y],rfl=>(av Y g (by simp only[chks,oe]at hx;exact hx.1.1)).1);exact Em g d h1 (fF h2) hw.1 hw.2 (soundSs g d body b h5)
 | .forT is k' src body,s,h=>by
  obtain⟨ts,j,tp,it,b,pos,rfl,hc⟩:=yO h;simp only[oe]at hc;obtain⟨⟨h1,h4⟩,h5⟩:=hc;have hw:=mB (tg:=.Tuple ts j tp) (λ_=>⟨_,_,_,rfl⟩) g h4 (λxs J=>⟨sounds src g J,a7 J⟩) (λm x hm hx=>match src,hm with|[Y],rfl=>(av Y g (by simp only[chks,oe]at hx;exact hx.1.1)).1);exact Ep g d h1 hw.1 hw.2 (soundSs g d body b h5)
 | .while _ _ _,s,h=>absurd (show false=true from h) kn
 | .ret e,s,h=>by
  obtain⟨v,pos,rfl,hc⟩:=A8 h;simp only[oe,Jb]at hc;exact GB (av e g hc.1).1 hc.2
 | .mkO i es,s,h=>by
  obtain⟨x,px,y,py,args,cp,pos,rfl,hc⟩:=A6 h;simp only[oe,IU]at hc;obtain⟨⟨⟨⟨⟨⟨⟨h1,h2⟩,h3⟩,h4⟩,h5⟩,h6⟩,h7⟩,h8⟩:=hc;subst h4;cases args with
  |nil=>cases h8
  |cons e args=>exact GE g d h1 (fF h2) h5 (sounds es g h6) h7 (a7 h6).1 (a7 h6).2
 | .appO i e,s,h=>by
  obtain⟨x,p,f,fp,m,ap,v,cp,pos,rfl,hc⟩:=yK h;simp only[oe,Jb]at hc;obtain⟨⟨⟨⟨⟨⟨h1,h2⟩,h3⟩,h4⟩,h5⟩,h6⟩,h7⟩:=hc;rw[eq_of_beq h2,eq_of_beq h3];exact Ei g (av e g h4).1 h1 h5 h6 h7
 | .retT e,s,h=>by
  obtain⟨v,pos,rfl,hc⟩:=yL h;simp only[oe,Jb]at hc;exact Eh (av e g hc.1).1 hc.2
 | .takeO (some j) i f es,s,h=>by
  obtain⟨x,px,c,p,pos,rfl,hc⟩:=wb h;obtain⟨a1,a2⟩:=mu.mp hc;obtain⟨h4,h5⟩:=mu.mp a2;simp only[oe,IU]at a1;obtain⟨⟨h1,h2⟩,h3⟩:=a1;obtain⟨Z,q2,q3,U,q5,q6⟩:=pF h4;exact AZ d h1 (fF h2) (uS g Z q2 q3 (sounds es g U) h5 (a7 U).1 (a7 U).2 q5 q6) rfl
 | .takeO none i f es,s,h=>by
  obtain⟨c,p,pos,rfl,hc⟩:=wc h;obtain⟨h4,h5⟩:=mu.mp hc;obtain⟨Z,q2,q3,U,q5,q6⟩:=pF h4;exact A0 (uS g Z q2 q3 (sounds es g U) h5 (a7 U).1 (a7 U).2 q5 q6) rfl
 | .retF _,s,h=>absurd (show false=true from h) kn
 | .setCall _ _ _,s,h=>absurd (show false=true from h) kn
 | .clear _,s,h=>absurd (show false=true from h) kn
 | .retOwn i,s,h=>by
  obtain⟨x,p,pos,rfl,hc⟩:=s_ h;exact yA hc
 | .retN,s,h=>absurd (show false=true from h) kn
 | .brk,s,h=>absurd (show false=true from h) kn
 | .cont,s,h=>absurd (show false=true from h) kn
 | .pass,s,h=>absurd (show false=true from h) kn
 | .never,s,h=>by
  refine wW.imp λD σ H q=>?_
  obtain⟨B,E,O,G,st,q⟩:=q;rw[ex]at q;exact q
 | .newD _ _,s,h=>absurd (show false=true from h) kn
 | .dput _ _ _,s,h=>absurd (show false=true from h) kn
 | .freeze _,s,h=>absurd (show false=true from h) kn
theorem soundSs{T:Tab}{k:Nat}{cal:Cal}{X:Cx}(g:Gf X T k cal)(d:Df X):∀(ms:List MS) (ss:List Stmt),chkSs T X.N X.env.scope ms ss=true->PSs X ss (tSs X.K cal ms)
 | [],ss,h=>by
  cases ss with
  |nil=>exact GC
  |cons _ _=>cases h
 |m::ms,ss,h=>by
  cases hm:Er m with
  |true =>
   cases m<;>simp[Er]at hm
   .cases h
   .obtain⟨z,q,h⟩:=am h;obtain⟨h1,h2⟩:=mu.mp h;rw[v2 q];exact tf g d h1 (soundSs g d ms _ h2)
  |false =>
   cases ss with
   |nil=>cases m<;>first|(cases h;done)|cases hm
   |cons s ss =>
    have h:(fw T X.N X.env.scope m s&&chkSs T X.N X.env.scope ms ss)=true:=by cases m<;>first|exact h|(simp[Er]at hm)
    simp only[oe]at h;exact Eg (yP g d m s h.1) (soundSs g d ms ss h.2)
end
structure FnD(K:LI)(x y:Str)(st:Stmt)(fa:Addr)(fd:FuncData):Prop where
 it:∃(c0 d0 k0 o0 m0:Value) (a0:Option Addr) (c1 t1:Value) (a1:Option Addr) (sl:Array (Option Value)),
  K.lookup fa=some ⟨c0,a1,.func fd,sl⟩/\PySem.W.codeIn K c1 y=true/\fd=PySem.W.fnOf x y (iU st) (bN st) (aj st) d0 k0 o0 m0 a0 c1 t1
 kp:PySem.W.keepIn K (.ref fa)=true
theorem FnD.mk'{K:LI}{st:Stmt} 
  (l:K.lookup q=some ⟨Y,a1,.func (PySem.W.fnOf x y (iU st) (bN st) (aj st) d0 J o0 m0 U D t1),Z⟩) (c:PySem.W.codeIn K D y=true) (k:PySem.W.keepIn K (.ref q)=true) :
  FnD K x y st q (PySem.W.fnOf x y (iU st) (bN st) (aj st) d0 J o0 m0 U D t1):=⟨⟨_,_,_,_,_,_,_,_,_,_,l,c,rfl⟩,k⟩
theorem FnD.mkd{K:LI}{st:Stmt} 
  (l:K.lookup q=some ⟨Y,a1,.func (PySem.W.fnOf x y (iU st) (bN st) (aj st) (.ref T) J o0 m0 U D t1),Z⟩) (c:PySem.W.codeIn K D y=true) (k:PySem.W.keepIn K (.ref q)=true) :
  FnD K x y st q (PySem.W.fnOf x y (iU st) (bN st) (aj st) (.ref T) J o0 m0 U D t1):=.mk' l c k
structure n8(T:Tab)(K:LI)(mg:Str->Option Value)(st:Stmt)(d:MD)(fa:Addr)(fd:FuncData):Prop where
 fn:FnD K (d.meth.getD d.name) d.name st fa fd
 binds:aX K fd d.params []
 named:(d.meth=none/\mg d.name=some (.ref fa))\/∃m,d.meth=some m/\∀C,IsC K C->mV K C m fa
 scope:eM d.names d.params (aj st)
 body:chkSs T d.names (aj st) d.body (bN st)=true
def a8{α:Type} :∀{us:List α},us.length=n+1->∃a t,us=a::t/\t.length=n
 | _::_,h=>⟨_,_,rfl,Nat.succ.inj h⟩
def bn1{K:LI}(h:∀a,bindArgs fd ⟨[a],[]⟩=pure [(D,a)]):aX K fd [D] []:=.all λus h0=>by
 refine cr (a8 h0) λa J q h1=>?_
 subst q;obtain rfl:=JM.mp h1;exact h a
def bn2{K:LI}(h:∀a b,bindArgs fd ⟨[a,b],[]⟩=pure [(D,a),(J,b)]):aX K fd [D,J] []:=.all λus h0=>by
 refine cr (a8 h0) λa U q h1=>?_
 subst q;refine cr (a8 h1) λb Y q h2=>?_
 subst q;obtain rfl:=JM.mp h2;exact h a b
def bn3{K:LI}(h:∀a b c,bindArgs fd ⟨[a,b,c],[]⟩=pure [(D,a),(J,b),(pc,c)]):aX K fd [D,J,pc] []:=.all λus h0=>by
 refine cr (a8 h0) λa U q h1=>?_
 subst q;refine cr (a8 h1) λb Y q h2=>?_
 subst q;refine cr (a8 h2) λc Z q h3=>?_
 subst q
 simp_all
def bn4{K:LI}(h:∀a b c d,bindArgs fd ⟨[a,b,c,d],[]⟩=pure [(D,a),(J,b),(pc,c),(U,d)]):aX K fd [D,J,pc,U] []:=.all λus h0=>by
 refine cr (a8 h0) λa Y q h1=>?_
 subst q;refine cr (a8 h1) λb Z q h2=>?_
 subst q;refine cr (a8 h2) λc u3 q h3=>?_
 subst q;refine cr (a8 h3) λd u4 q h4=>?_
 subst q
 simp_all
def bn5{K:LI}{fd:FuncData}{q D J U Y:Str}(h:∀a b c d e,bindArgs fd ⟨[a,b,c,d,e],[]⟩=pure [(q,a),(D,b),(J,c),(U,d),(Y,e)]):aX K fd [q,D,J,U,Y] []:=.all λus h0=>by
 obtain⟨a,Z,rfl,h1⟩:=a8 h0;obtain⟨b,u2,rfl,h2⟩:=a8 h1;obtain⟨c,u3,rfl,h3⟩:=a8 h2;obtain⟨d,u4,rfl,h4⟩:=a8 h3;obtain⟨e,u5,rfl,h5⟩:=a8 h4;obtain rfl:=JM.mp h5;exact h a b c d e
def ti{K:LI}(hd:fd.defaults=.ref T)(l:K.lookup T=some ⟨c,o,.seq vs n,q⟩)
  (h:∀us,us.length=ps.length->∃k,bindArgs fd ⟨us,[]⟩=seqItems? fd.defaults >>= k/\k (some vs)=pure (ps.zip us)):aX K fd ps []:=λs us X hl=>by
 rw[JW]at hl ⊢;refine ae (h us hl) λk h1 h2=>?_
 exact .of_defaults hd (X _ _ l) rfl h1 h2
def tj{K:LI}(hd:fd.defaults=.ref T)(l:K.lookup T=some ⟨c,o,.seq #[v] n,q⟩)
  (h:∀us,us.length+1=ps.length->∃k,bindArgs fd ⟨us,[]⟩=seqItems? fd.defaults >>= k/\k (some #[v])=pure (ps.zip (us++[v]))):aX K fd ps [v]:=λs us X hl=>by
 refine ae (h us (by simpa using hl)) λk h1 h2=>?_
 exact .of_defaults hd (X _ _ l) rfl h1 h2
def A9{K:LI}{fd:FuncData}{ps:List Str}{T:Addr}{c:Value}{x:Str}{k:Tok}{o:Option Addr}{n:Nat}{q:Array (Option Value)}(hd:fd.defaults=.ref T)(l:K.lookup T=some ⟨c,o,.seq #[.str x k] n,q⟩)
  (h:∀us:List Value,us.length+1=ps.length->∃j,bindArgs fd ⟨us,[]⟩=seqItems? fd.defaults >>= j/\j (some #[.str x k])=pure (ps.zip (us++[.str x k]))):∃vs,aX K fd ps vs/\aA ([Sc.str x].map Sc.v) vs:=⟨_,tj hd l h,.cons ⟨k,rfl⟩ .nil⟩
def HD(K:LI)(x:Str)(st:Stmt)(d:MD)(q:FuncData->Prop:=λ_=>True):Prop:=d.name=x/\∃D fd,PySem.W.nsIn K mainGlobals x=some (some (.ref D))/\FnD K x x st D fd/\aX K fd d.params []/\q fd
def HM(K:LI)(C:Addr)(x y:Str)(st:Stmt)(d:MD):Prop:=d.meth=some x/\d.name=y/\∃q fd,mV K C x q/\FnD K x y st q fd/\aX K fd d.params []
structure uX(K:LI)(C:Addr):Prop where
 cls:Cls K C
 nf:∀x∈iD,eX K C x
 nt:eX K C "taken"
noncomputable def okD(T:Tab)(st:Stmt)(d:MD):Bool:=
 decide ((aj st).kind=.function/\(aj st).isCoroutine=false/\(aj st).isGenerator=false/\d.names.Nodup/\d.names.take d.params.length=d.params/\(∀x∈d.params,(aj st).names.lookup x=some .local\/(aj st).names.lookup x=some .cell)/\∀y∈(aj st).names,y.2≠.free)
 &&d.meth.isNone
 &&chkSs T d.names (aj st) d.body (bN st)
def a9{T:Tab}{K:LI}{mg:Str->Option Value}{h:Heap}{st:Stmt}{d:MD}(X:K.In h)(G:h.Ns mainGlobals mg){q:FuncData->Prop}{x:Str}(hd:HD K x st d q)(J:okD T st d=true):∃U fd,n8 T K mg st d U fd/\q fd:=by
 obtain⟨e,_,_,n,f,b,z⟩:=hd;obtain⟨D,Y⟩:=mu.mp J;obtain⟨D,Z⟩:=mu.mp D;obtain⟨s1,s2,s3,s4,s5,s6,s7⟩:=IX D;subst e;have hm:d.meth=none:=isNone_iff_eq_none.mp Z;exact⟨_,_,⟨by rw[hm];exact f,b,.inl ⟨hm,PySem.W.mg_of X G n⟩,⟨s1,s2,s3,s4,s5,s6,s7⟩,Y⟩,z⟩
noncomputable def okM(T:Tab)(st:Stmt)(d:MD):Bool:=
 decide ((aj st).kind=.function/\(aj st).isCoroutine=false/\(aj st).isGenerator=false/\d.names.Nodup/\d.names.take d.params.length=d.params/\(∀x∈d.params,(aj st).names.lookup x=some .local\/(aj st).names.lookup x=some .cell)/\∀y∈(aj st).names,y.2≠.free)&&chkSs T d.names (aj st) d.body (bN st)
def gm{T:Tab}{K:LI}{mg:Str->Option Value}{C:Addr}{st:Stmt}{d:MD}{x y:Str}(q:IsC K C)(hd:HM K C x y st d)(D:okM T st d=true):∃J fd,n8 T K mg st d J fd:=by
 obtain⟨e,U,_,_,n,f,b⟩:=hd;obtain⟨Y,Z⟩:=mu.mp D;obtain⟨s1,s2,s3,s4,s5,s6,s7⟩:=IX Y;subst U;exact⟨_,_,⟨by rw[e];exact f,b,.inr ⟨x,e,λC' h=>by
  have:=h.symm.trans q;cases this;exact n⟩,⟨s1,s2,s3,s4,s5,s6,s7⟩,Z⟩⟩
def yQ(T:Tab)(K:LI)(mg:Str->Option Value):List MD->List (List Sc)->Prop
 | [],[]=>True
 |d::ds,l::ls=>(∃st q fd,n8 T K mg st d q fd/\∃vs,aX K fd d.params vs/\aA (l.map Sc.v) vs)/\yQ T K mg ds ls
 | _,_=>False
theorem yQ.get{K:LI} :∀{ds}{J}{f:Nat}{d},yQ T K mg ds J->ds[f]?=some d->∃l st D fd,J[f]?=some l/\n8 T K mg st d D fd/\∃vs,aX K fd d.params vs/\aA (l.map Sc.v) vs
 | [],_,f,d,_,e=>by injection e
 | _::_,[],f,d,h,e=>h.elim
 |d0::ds,l::J,0,d,h,e=>by
  cases e;obtain⟨⟨st,D,fd,r⟩,_⟩:=h;exact⟨l,st,D,fd,rfl,r⟩
 |d0::ds,l::J,f+1,d,h,e=>by
  refine gz (yQ.get h.2 (show ds[f]?=some d from by simpa using e)) λk st D fd q r=>?_
  exact⟨k,st,D,fd,by simpa using q,r⟩
noncomputable def yR(d:MD):Str:=match d.meth with
 |none=>d.name
 |some _=>"__debug__"
def k6{d:MD}(h:aF (yR d)=true):d.meth=none/\yR d=d.name:=by
 unfold yR at h ⊢;cases e:d.meth with
 |none=>exact⟨rfl,rfl⟩
 |some m =>
  rw[e]at h;exact absurd (show aF ("__debug__":Str)=true from h) (by decide +kernel)
structure pL(T:Tab)(K:LI)(mg:Str->Option Value)(ds:List MD)
 :Prop where
 tab:T.fs=ds.map yR
 tabM:T.ms=ds.map (·.meth)
 cls:∀C,IsC K C->uX K C
 ini:∃C,IsC K C/\mg ("Table":Str)=some (.ref C)/\∃fa fd ps,Mk K C fa/\aX K fd ps []/\(∀P w base,dq P w K mg base CX0 1 fa fd ps (spI K C))/\∃vs,aX K fd ps vs/\aA [V.str "weaver"] vs
 defs:yQ T K mg ds T.ds
 blt:∀x∈je,mg (x:Str)=none
 gs:∀p∈T.gs,∃u,mg p.1=some u/\aG (toV p.2) u
def mG{ds:List MD}{n f:Nat}{d:MD}{args:List MV}{r:PV}(hd:ds[f]?=some d)(h:ac ds (n+1) f args=some r):args.length=d.params.length /\
  ((∃G,exs (ac ds n) d.body (args.map some++replicate (d.names.length-args.length) none)=.next G/\r=.non)\/exs (ac ds n) d.body (args.map some++replicate (d.names.length-args.length) none)=.ret r \/
   ∃xs,exs (ac ds n) d.body (args.map some++replicate (d.names.length-args.length) none)=.retF xs/\r=.lst xs):=by
 rw[ac,hd]at h;dsimp only at h;by_cases hl:args.length=d.params.length
 .rw[if_pos hl]at h;refine⟨hl,?_⟩;cases he:exs (ac ds n) d.body (args.map some++replicate (d.names.length-args.length) none)with
  |next G=>rw[he]at h;cases h;exact .inl ⟨G,rfl,rfl⟩
  |ret v=>rw[he]at h;cases h;exact .inr (.inl rfl)
  |retF xs=>rw[he]at h;cases h;exact .inr (.inr ⟨xs,rfl,rfl⟩)
  |retT v G=>rw[he]at h;cases h
  |brk G=>rw[he]at h;cases h
  |cont G=>rw[he]at h;cases h
  |bad=>rw[he]at h;cases h
 .rw[if_neg hl]at h;cases h
def kD{ds:List MD}{n f:Nat}{d:MD}{args:List MV}{r:PV}(q:f<1000)(hn:ds[f+1000]?=none)(hd:ds[f]?=some d)(h:ac ds (n+1) (f+1000) args=some r):args.length=d.params.length /\
  ∃xs,exs (ac ds n) d.body (args.map some++replicate (d.names.length-args.length) none)=.retF xs/\r=.lst xs:=by
 rw[ac,hn]at h;dsimp only at h;rw[if_neg (by omega),if_neg (by omega),Jv,hd]at h;dsimp only at h;by_cases hl:args.length=d.params.length
 .rw[if_pos hl]at h;refine⟨hl,?_⟩;cases he:exs (ac ds n) d.body (args.map some++replicate (d.names.length-args.length) none)with
  |retF xs=>rw[he]at h;cases h;exact⟨xs,rfl,rfl⟩
  |retT v G=>rw[he]at h;cases h
  |next G=>rw[he]at h;cases h
  |ret v=>rw[he]at h;cases h
  |brk G=>rw[he]at h;cases h
  |cont G=>rw[he]at h;cases h
  |bad=>rw[he]at h;cases h
 .rw[if_neg hl]at h;cases h
def mH{ds:List MD}{n f:Nat}{d:MD}{args:List MV}{r:PV}(q:f<1000)(hn:ds[f+3000]?=none)(hd:ds[f]?=some d)(h:ac ds (n+1) (f+3000) args=some r):args.length=d.params.length /\
  ∃v G,exs (ac ds n) d.body (args.map some++replicate (d.names.length-args.length) none)=.retT v G/\vY v G=some r:=by
 rw[ac,hn]at h;dsimp only at h;rw[if_neg (by omega),if_pos (by omega)]at h;rw[Jv,hd]at h;dsimp only at h;by_cases hl:args.length=d.params.length
 .rw[if_pos hl]at h;refine⟨hl,?_⟩;cases he:exs (ac ds n) d.body (args.map some++replicate (d.names.length-args.length) none)with
  |retT v G=>rw[he]at h;exact⟨v,G,rfl,h⟩
  |next G=>rw[he]at h;cases h
  |ret v=>rw[he]at h;cases h
  |retF xs=>rw[he]at h;cases h
  |brk G=>rw[he]at h;cases h
  |cont G=>rw[he]at h;cases h
  |bad=>rw[he]at h;cases h
 .rw[if_neg hl]at h;cases h
def yS{ds:List MD}{n:Nat}(q:ds.length<=1000)(h:ac ds n 4000 []≠none):2<=n:=by
 match n,h with
 |0,h=>exact absurd rfl h
 |1,h =>
  refine absurd ?_ h;rw[ac,LD (by omega)]
  rfl
 |n+2,h=>omega
def A_{v w:Sc}{G:Rho}{ys:List PV}(h:vY v G=some (.tup [w.pv,.lst ys])):v=w/\∃fs,G[0]?=some (some (.ownO true fs ys)):=by
 unfold vY at h;split at h
 .cases v<;>cases w<;>cases h<;>exact⟨rfl,_,rfl⟩
 .cases h
theorem iI :∀{xs}{ys}{i:Nat}{x},Paired F xs ys->xs[i]?=some x->∃y,ys[i]?=some y/\F x y
 | _,_,_,_,.nil,e=>by injection e
 | _,_,0,_,.cons r _,e=>by simp at e;subst e;exact⟨_,rfl,r⟩
 | _,_,i+1,x,.cons _ t,e=>by
  obtain⟨u,h1,h2⟩:=iI (i:=i) (x:=x) t e;exact⟨u,by simpa using h1,h2⟩
def gW{K:LI}{H:Hp}{O:List Addr}{args:List MV}{vs:List V}{N:List Str}(Y:∀a∈O,H a≠none)(h:Paired (eG K O H) args vs):aK K H O O H (args.map some++replicate (N.length-args.length) none) (eY N vs):=by
 have hl:args.length=vs.length:=Paired.length h;have get:∀(i:Nat) (m:MV),(args.map some++replicate (N.length-args.length) none)[i]?=some (some m)->∃u,(eY N vs)[i]?=some (some u)/\eG K O H m u:=λi m e=>by
  by_cases hi:i<args.length
  .rw[JQ (by simpa using hi),IY]at e;cases U:args[i]? with
   |none=>rw[U]at e;cases e
   |some m' =>
    rw[U]at e;cases e;obtain⟨u,D,q⟩:=iI h U;refine⟨u,?_,q⟩;unfold L2.eY;rw[JQ (by rw[ox,<- hl];exact hi),IY,D]
    rfl
  .rw[JC (by simpa using hi),KH]at e;split at e<;>cases e
 refine⟨ag.refl H,Y,λa Z=>Z,Y,by unfold L2.eY;simp[hl],λi m e=>?_,λi j xs ys a _ e _ J _=>?_
  ,mf λi m e=>by
   obtain⟨u,D,q⟩:=get i _ e;cases m<;>first|rfl|exact q.elim
  ⟩
 .obtain⟨u,D,q⟩:=get i m e;refine⟨u,D,?_⟩;cases m with
  |val v=>exact q
  |own _=>exact q.elim
  |ownO _ _ _=>exact q.elim
  |brwO _ _=>exact q
  |brw ys=>exact q
  |ownD _=>exact q.elim
  |brwD _=>exact q
 .obtain⟨u,D,q⟩:=get i _ e;cases xs with
  |own _=>exact q.elim
  |ownD _=>exact q.elim
  |ownO _ _ _=>exact q.elim
  |brwO _ _=>cases J
  |val _=>cases J
  |brw _=>cases J
  |brwD _=>cases J
def jV(h:Paired F args vs):∀(i:Nat) m,(args.map some++replicate (N.length-args.length) none)[i]?=some (some m)->args[i]?=some m/\∃u,vs[i]?=some u/\(eY N vs)[i]?=some (some u)/\F m u:=λi m e=>by
 have hl:=Paired.length h;by_cases hi:i<args.length
 .rw[JQ (by simpa using hi),IY]at e;cases D:args[i]? with
  |none=>rw[D]at e;exact aP e
  |some U =>
   rw[D]at e;cases e;refine ae (iI h D) λu J q=>?_
   refine⟨rfl,u,J,?_,q⟩;unfold L2.eY;rw[JQ (by rw[ox,<- hl];exact hi),IY,J]
   rfl
 .rw[JC (by simpa using hi),KH]at e;split at e<;>cases e
section
variable{T:Tab}{P:Program}{w:World}{K:LI}{mg:Str->Option Value}{base:Heap}{ds:List MD}
theorem kE{K:LI}{O:List Addr}{H:Hp}:∀{as:List MV}{ws:List V}{i:Nat}{m:MV},Paired (eG K O H) as ws->as[i]?=some m->d9 m=true->False
 | _,_,i,m,.nil,e,_=>by cases i<;>cases e
 | _,_,0,m,.cons x _,e,o=>by
  cases e;cases m<;>first|(cases o;done)|exact x
 | _,_,i+1,m,.cons _ t,e,o=>kE t (by simpa using e) o
def yT{K:LI}{O:List Addr}{H B:Hp}{m:MV}{u:V}(D:ak B O=ak H O)(h:eG K O B m u):d8 K B O H m u:=by
 cases m with
 |val v=>rw[show eG K O B (.val v) u=Rep K (ak B O) v u from rfl,D]at h;exact h
 |brw xs=>obtain⟨c,us,e,q,r⟩:=h;rw[D]at r;exact⟨c,us,e,q,r⟩
 |brwD d=>exact h
 |brwO fs xs=>obtain⟨c,e,q⟩:=h;rw[D]at q;exact⟨c,e,q⟩
 |own _=>exact h.elim
 |ownD _=>exact h.elim
 |ownO _ _ _=>exact h.elim
def we{K:LI}{H:Hp}{O:List Addr}{a l:Addr}{ws:List V}{fs xs:List PV}{as:List MV}{N:List Str}(hO:∀b∈O,H b≠none)(q:cc K (λ_=>none) O H fs xs a l)(r:Paired (eG K O (dW H [a,l])) as ws) :
  aK K (dW H [a,l]) (O.filter λb=>decide (b∉[a,l])) O H ((.ownO true fs xs::as).map some++replicate (N.length-(MV.ownO true fs xs::as).length) none) (eY N (.ref a::ws)):=by
 have hh:=nP (H:=H) q.aO q.lO;have U:Paired (λ(m:MV) (u:V)=>(m=.ownO true fs xs/\u=.ref a)\/eG K O (dW H [a,l]) m u) (.ownO true fs xs::as) (.ref a::ws):=.cons (.inl ⟨rfl,rfl⟩) (mr (λ_ _ h=>.inr h) r);have hl:=Paired.length U;have key:∀(i:Nat) (m:MV),((.ownO true fs xs::as).map some++replicate (N.length-(MV.ownO true fs xs::as).length) none)[i]?=some (some m)->d9 m=true->i=0:=λi m e o=>by
  obtain⟨Y,u,J,Z,q⟩:=jV U i m e;cases i with
  |zero=>rfl
  |succ i =>
   rw[getElem?_cons_succ]at Y;exact(kE r Y o).elim
 refine⟨λb u e=>?_,hO,λb hb=>(IV.mp hb).1,λb hb=>?_,by unfold L2.eY;simp at hl ⊢;omega,λi m e=>?_,λi j m m' c aL e1 e2 o1 o2 s1 s2=>aL ((key i m e1 o1).trans (key j m' e2 o2).symm),λi m0 a2 l2 e1 l0 e2 e3 j m a3 ej=>?_⟩
 .unfold dW at e;split at e
  .cases e
  .exact e
 .obtain⟨h1,h2⟩:=IV.mp hb;unfold dW;rw[if_neg (IX h2)];exact hO b h1
 .obtain⟨Y,u,J,Z,D⟩:=jV U i m e;refine⟨u,Z,?_⟩;rcases D with⟨rfl,rfl⟩|D
  .refine⟨a,l,rfl,q.move (ag.refl _) (λ_ h=>h) (λ_ h=>h) q.aO q.lO ?_ ?_⟩
   .unfold dW;rw[if_pos (by simp)]
   .unfold dW;rw[if_pos (by simp)]
  .exact yT hh D
 .have o0:d9 m0=true:=by cases m0<;>first|(cases l0;done)|rfl
  have hi:=key i m0 e1 o0;obtain⟨Y,u,J,Z,D⟩:=jV U j m ej;rcases D with⟨rfl,rfl⟩|D
  .exact absurd ((key j _ ej rfl).trans hi.symm) a3
  .cases m<;>first|exact D.elim|exact⟨rfl,λc o=>by cases o⟩
structure GI(T:Tab)(P:Program)(w:World)(K:LI)(mg:Str->Option Value)(base:Heap)(ds:List MD)(n g:Nat)(fa:Addr)(fd:FuncData)(ps:List Str):Prop where
 m:dq P w K mg base CX0 n fa fd ps (spM K (ac ds n) g)
 f:dq P w K mg base CX0 n fa fd ps (spF K (ac ds n) g)
 t:dq P w K mg base CX0 n fa fd ps (spT K (ac ds n) g)
theorem fH(Y:ds.length<=1000)
  (Z:pL T K mg ds)
 :∀(n f:Nat) (d:MD),ds[f]?=some d->∀st fa fd,n8 T K mg st d fa fd->GI T P w K mg base ds n f fa fd d.params
 |0,f,d,hd,st,fa,fd,D=>{
   m:=⟨λvs H Q E h=>(by obtain⟨O,args,r,_,_,e,_⟩:=h;exact absurd e (by simp[ac])),λA outer s H args us vs Q E _ _ _ _ h=>(by obtain⟨O,args,r,_,_,e,_⟩:=h;exact absurd e (by simp[ac]))⟩
   f:=⟨λvs H Q E h=>(by obtain⟨O,args,r,_,_,e,_⟩:=h;exact absurd e (by simp[ac])),λA outer s H args us vs Q E _ _ _ _ h=>(by obtain⟨O,args,r,_,_,e,_⟩:=h;exact absurd e (by simp[ac]))⟩
   t:=⟨λvs H Q E h=>(by obtain⟨O,a,l,fs,xs,as,ws,v,ys,_,_,_,_,e,_⟩:=h;exact absurd e (by simp[ac])),λA outer s H args us vs Q E _ _ _ _ h=>(by obtain⟨O,a,l,fs,xs,as,ws,v,ys,_,_,_,_,e,_⟩:=h;exact absurd e (by simp[ac]))⟩
   }
 |n+1,f,d,hd,st,fa,fd,D=>by
  obtain⟨c0,d0,k0,o0,m0,a0,bR,t1,a1,sl,lk,hc,rfl⟩:=D.fn.it;have hf:f<1000:=x1 (vp.mp hd).1 Y;have hn:ds[f+1000]?=none:=LD (by omega);have b3:ds[f+3000]?=none:=LD (by omega);have gg:∀{CX:CXT}{A:Around}{outer:_}{s:Shared}{H:Hp}{E:_},_->Gf (fU CX P w K mg base d.names d.name (aj st) fa bR A outer s H E).nox T n (ac ds n):=λ{CX A outer s H E} hr=>{
   calm:=rfl
   room:=hr
   fns:=λf' x hx hp=>by
    rw[Z.tab,IY]at hx;cases hd2:ds[f']? with
    |none=>rw[hd2]at hx;cases hx
    |some d2 =>
     rw[hd2]at hx;cases hx;obtain⟨hm,bT⟩:=k6 hp;obtain⟨l2,a2,J,U,el,D2,bd⟩:=Z.defs.get hd2;rcases D2.named with⟨_,nd⟩|⟨m,em,_⟩
     .exact⟨J,U,d2.params,by rw[bT];exact nd,D2.fn.kp,D2.binds,(fH Y Z n f' d2 hd2 a2 J U D2).m,λl hl=>by rw[el]at hl;cases hl;exact bd⟩
     .rw[hm]at em;cases em
   cls:=λC h=>⟨(Z.cls C h).cls,(Z.cls C h).nf,(Z.cls C h).nt⟩
   meths:=λf' m hx C hC=>by
    rw[Z.tabM,IY]at hx;cases hd2:ds[f']? with
    |none=>rw[hd2]at hx;cases hx
    |some d2 =>
     rw[hd2]at hx;have hx:d2.meth=some m:=x2 hx;obtain⟨l2,a2,J,U,el,D2,bd⟩:=Z.defs.get hd2;rcases D2.named with⟨em,_⟩|⟨m',em,nd⟩
     .rw[hx]at em;cases em
     .rw[hx]at em;cases em;exact⟨J,U,d2.params,nd C hC,D2.binds,(fH Y Z n f' d2 hd2 a2 J U D2).m⟩
   methsT:=λf' m hx C hC=>by
    rw[Z.tabM,IY]at hx;cases hd2:ds[f']? with
    |none=>rw[hd2]at hx;cases hx
    |some d2 =>
     rw[hd2]at hx;have hx:d2.meth=some m:=x2 hx;obtain⟨l2,a2,J,U,el,D2,bd⟩:=Z.defs.get hd2;rcases D2.named with⟨em,_⟩|⟨m',em,nd⟩
     .rw[hx]at em;cases em
     .rw[hx]at em;cases em;exact⟨J,U,d2.params,nd C hC,D2.binds,(fH Y Z n f' d2 hd2 a2 J U D2).t⟩
   lvl:=λh=>dn.mono hr (yS Y h)
   ini:=λ_=>by
    obtain⟨C,h1,h2,fa,fd,ps,h3,h4,h5,h6⟩:=Z.ini;exact⟨C,h1,h2,fa,fd,ps,h3,h4,h5 _ _ _,h6⟩
   blt:=Z.blt
   gs:=Z.gs
   fnsF:=λf' x hx hp=>by
    rw[Z.tab,IY]at hx;cases hd2:ds[f']? with
    |none=>rw[hd2]at hx;cases hx
    |some d2 =>
     rw[hd2]at hx;cases hx;obtain⟨hm,bT⟩:=k6 hp;obtain⟨l2,a2,J,U,el,D2,bd⟩:=Z.defs.get hd2;rcases D2.named with⟨_,nd⟩|⟨m,em,_⟩
     .exact⟨J,U,d2.params,by rw[bT];exact nd,D2.fn.kp,D2.binds,(fH Y Z n f' d2 hd2 a2 J U D2).f⟩
     .rw[hm]at em;cases em
   }
  have df:∀{CX:CXT}{A:Around}{outer:_}{s:Shared}{H:Hp}{E:_},Df (fU CX P w K mg base d.names d.name (aj st) fa bR A outer s H E).nox:=λ{CX A outer s H E}=>⟨D.scope.nd,λ_=>rfl,PassesOwn.never,by
    have hk:(fU CX P w K mg base d.names d.name (aj st) fa bR A outer s H E).nox.env.scope.kind=.function:=D.scope.kind;unfold Env.blockKind;rw[hk]
    rfl
    ⟩
  refine {
   m:=?_
   f:=?_
   t:=?_
   }
  .refine kj lk hc D.scope (λvs H Q E h=>?_) (λA outer s H vs Q E hr h=>?_)
   .obtain⟨O,args,r,_,hp,e,_⟩:=h;rw[<- (mG hd e).1];exact(Paired.length hp).symm
   .obtain⟨O,args,r,hO,hp,e,q⟩:=h;obtain⟨hl,cP⟩:=mG hd e;refine⟨_,(soundSs (gg hr) df d.body (bN st) D.body).nox,H,O,O,_,gW hO hp,?_⟩;rcases cP with⟨G,he,rfl⟩|he|⟨xs,he,rfl⟩
    .rw[he];exact λcS H' O' bB _=>q _ H' bB.keep (pC _)
    .rw[he];exact λu H' s' r'=>q u H' s' r'
    .rw[he];refine λp us H' s' b1 b2 r'=>q _ H' s' ?_
     rw[Rep];refine⟨p,us,rfl,SqL.of ?_,Reps.mono jm _ r'⟩;rw[aH λz=>hO p z b1];exact b2
  .refine kj lk hc D.scope (λvs H Q E h=>?_) (λA outer s H vs Q E hr h=>?_)
   .obtain⟨O,args,r,_,hp,e,_⟩:=h;rw[<- (kD hf hn hd e).1];exact(Paired.length hp).symm
   .obtain⟨O,args,xs,hO,hp,e,q⟩:=h;obtain⟨hl,ys,he,ey⟩:=kD hf hn hd e;cases ey;refine⟨_,(soundSs (gg hr) df d.body (bN st) D.body).nox,H,O,O,_,gW hO hp,?_⟩;rw[he];exact λp us H' s' b1 b2 r'=>q p us H' s' b1 b2 r'
  .refine kj lk hc D.scope (λvs H Q E h=>?_) (λA outer s H vs Q E hr h=>?_)
   .obtain⟨O,a,l,fs,xs,as,ws,v,ys,rfl,_,_,r,e,_⟩:=h;rw[<- (mH hf b3 hd e).1];simp[Paired.length r]
   .obtain⟨O,a,l,fs,xs,as,ws,v,ys,rfl,hO,q,r,e,kq⟩:=h;obtain⟨hl,v',G,he,ee⟩:=mH hf b3 hd e;obtain⟨rfl,fs',e0⟩:=A_ ee;refine⟨_,(soundSs (gg hr) df d.body (bN st) D.body).nox,dW H [a,l],_,O,_,we hO q r,?_⟩;rw[he];intro cS H' O' bB k';obtain⟨⟨c1,e1⟩,es⟩:=k'.mutO 0 fs' ys e0;have c3:fs'=fs:=by
     have e1:some (some (MV.ownO true fs xs))=some (some (MV.ownO true fs' c1)):=e1;cases e1
     rfl
    subst c3;obtain⟨u,eu,a',l',rfl,q2⟩:=bB.slot 0 _ e0;have ea:a'=a:=by
     rw[eu]at es;have es:some (some (V.ref a'))=some (some (V.ref a)):=es;cases es
     rfl
    subst ea;have lB:=q2.lB;refine kq l' H' (λb o n1 n2 eb=>bB.keep b o ?_) ?_ (q2.move (aV (ag.refl _) λb hb=>.inl ?_) (λ_ h=>h) (λ_ h=>h) (Je _ (IV.mpr ⟨q.aO,IM q.ne⟩)) Jz rfl rfl)
    .unfold dW;rw[if_neg λz=>by
      rcases rb.mp z with z|z
      .exact n1 z
      .exact n2 (IS.mp z)]
     exact eb
    .unfold dW at lB;split at lB
     .rename_i z;rcases rb.mp z with z|z
      .exact absurd z.symm q2.ne
      .exact .inl (IS.mp z)
     .exact .inr lB
    .rcases rb.mp hb with rfl|hb
     .exact q2.lO
     .obtain⟨h1,h2⟩:=IV.mp hb;by_cases z:b=a'
      .subst z;exact q2.aO
      .refine k'.stay b ?_ h1;unfold dW;rw[if_neg λw=>by
        rcases rb.mp w with w|w
        .exact z w
        .exact IX h2 (IS.mp w)]
       exact hO b h1
end
def Ba{K:LI}{H:Hp}{q x C dx:Addr}{us:List V}{gs:List (Str×V)}{o:HO}(h:SqT K H q us)(hx:H x=some (.ins C dx gs)):SqT K (upd H x o) q us:=by
 rcases h with(e|⟨o',e⟩)|e
 .have n:q≠x:=λz=>by rw[z,hx]at e;cases e
  exact .inl (.inl (by rw[al n];exact e))
 .have n:q≠x:=λz=>by rw[z,hx]at e;cases e
  exact .inl (.inr ⟨o',by rw[al n];exact e⟩)
 .exact .inr e
def jq{x:Str}{v:V}{gs:List (Str×V)}{n:Nat}(h:gs.length<=n):(eW x v gs).length<=n+1:=by
 induction gs generalizing n with
 |nil=>exact Lz (IW _)
 |cons p gs ih =>
  obtain⟨y,w⟩:=p;show(if y=x then(y,v)::gs else(y,w)::eW x v gs).length<=_;cases n with
  |zero=>cases h
  |succ n =>
   have:=ih (KY h);have:=KY h;split
   .simp only[length_cons];omega
   .simp only[length_cons];omega
def Es{K:LI}{C q:Addr}(h:IsC K C)(c:uX K C)(h':IsC K q):uX K q:=by
 have:=h'.symm.trans h;cases this;exact c
def B9 {K:LI}{C:Addr} (n0:PySem.W.findIn K (.ref C) "hole_count"=some none) (n1:PySem.W.findIn K (.ref C) "ribbons"=some none) (n2:PySem.W.findIn K (.ref C) "opener"=some none) (x:Str) (hx:x∈iD):eX K C x:=by
 simp only[iD,rb,JI,Kd]at hx;rcases hx with rfl|rfl|rfl
 .exact n0
 .exact n1
 .exact n2
end MM
namespace MM
open PySem List Option
noncomputable abbrev ofS(q:List Int):PV:=.tup (q.map .int)
noncomputable abbrev ofR(R:List (List Int)):PV:=.tup (R.map ofS)
noncomputable abbrev ofL(ns:List Int):PV:=.lst (ns.map .int)
theorem bJ:∀ns,bO (ns.map .int)=some ns
 | []=>rfl
 |n::ns=>by simp[bO,bJ ns]
theorem n9:∀R,kB (R.map ofS)=some R
 | []=>rfl
 |t::R=>by simp[kB,bJ,n9 R]
theorem iJ:∀ns,d6 (ns.map .bl)=some ns
 | []=>rfl
 |n::ns=>by simp[d6,iJ ns]
def n_(h:ns.length<64):d7 (ns.map .int)=some (ofL (sortI ns)):=by
 unfold d7;rw[if_pos (by simpa using h),bJ]
def jW{R:List (List Int)}(h:R.length<64):d7 (R.map ofS)=some (.lst ((sortT R).map ofS)):=by
 unfold d7;rw[if_pos (by simpa using h)];cases R with
 |nil=>rfl
 |cons t R =>
  have:bO ((t::R).map ofS)=none:=rfl;rw[this];simp only[n9,map_some]
theorem cQ{α:Type}{g:α->PV}{c:PV->Option Bool}{f:PV->Option PV}{p:α->Bool}{h:α->PV}:∀{xs:List α},(∀x∈xs,c (g x)=some (p x))->(∀x∈xs,p x=true->f (g x)=some (h x))->ff c f (xs.map g)=some ((xs.filter p).map h)
 | [],_,_=>rfl
 |x::xs,hc,hf=>by
  rw[IT,ff,hc x (.head _),bind_some];have ih:=cQ (xs:=xs) (λy q=>hc y (.tail _ q)) (λy q=>hf y (.tail _ q));cases D:p x<;>simp_all
def tm{α:Type}{g:α->PV}{c:PV->Option Bool}{f:PV->Option PV}{h:α->PV}{xs:List α}(hc:∀x∈xs,c (g x)=some true)(q:∀x∈xs,f (g x)=some (h x)):ff c f (xs.map g)=some (xs.map h):=by
 rw[cQ (p:=λ_=>true) hc (λx hx _=>q x hx),Lc.mpr λ_ _=>rfl]
def Et(a b)(q:List Int):((b==a)||decide (a∈q))=decide (a=b\/a∈q):=by grind
def Eu(a b)(q:List (List Int)):(decide (b=a)||decide (a∈q))=decide (a=b\/a∈q):=by grind
@[simp] theorem k7(n)(i j):eqF n (.int i) (.int j)=some (i==j):=by cases n<;>rfl
theorem cD(h):∀q:List Int,isIn (.int h) (q.map .int)=some (decide (h∈q))
 | []=>rfl
 |t::q=>by
  have ih:=cD h q;unfold isIn at ih ⊢;rw[IT,inL,ih];simp only[k7,bind_some,map_some,rb,Et]
theorem mI(n):∀a b:List Int,eqL (eqF n) (a.map .int) (b.map .int)=some (decide (a=b))
 | [],[]=>rfl
 | [],_::_=>rfl
 | _::_,[]=>rfl
 |x::a,y::b=>by
  rw[IT,IT,eqL,mI n a b];simp only[k7,bind_some,map_some]
  congr 1
  rw[Jt];simp
def B_(n)(a b):eqF (n+1) (ofS a) (ofS b)=some (decide (a=b)):=mI n a b
def Ca(n:Nat)(a b:List Int):eqF (n+1) (ofL a) (ofL b)=some (decide (a=b)):=by
 show(if (a.map PV.int).length=(b.map PV.int).length then eqL (eqF n) (a.map .int) (b.map .int)else some false)=_;rw[mI];split
 .rfl
 .rename_i h
  congr 1
  exact(IQ λe=>h (by rw[e])).symm
theorem Cb(n):∀a b:List (List Int),eqL (eqF (n+1)) (a.map ofS) (b.map ofS)=some (decide (a=b))
 | [],[]=>rfl
 | [],_::_=>rfl
 | _::_,[]=>rfl
 |x::a,y::b=>by
  rw[IT,IT,eqL,Cb n a b,B_]
  simp_all
def GJ(n)(a b):eqF (n+2) (ofR a) (ofR b)=some (decide (a=b)):=Cb n a b
theorem yU(h):∀q:List (List Int),isIn (ofS h) (q.map ofS)=some (decide (h∈q))
 | []=>rfl
 |t::q=>by
  have ih:=yU h q;unfold isIn at ih ⊢;rw[IT,inL,ih,B_ 99];simp only[bind_some,map_some,rb,Eu]
noncomputable def bG:R->Option PV
 | .next _=>some .non
 | .ret v=>some v
 | .retF xs=>some (.lst xs)
 | _=>none
def aw(hd:ds[f]?=some d)(hl:args.length=d.params.length):ac ds (n+1) f args=bG (exs (ac ds n) d.body (args.map some++replicate (d.names.length-args.length) none)):=by
 rw[ac,hd];simp[hl]
 rfl
noncomputable def Ev:R->Option PV
 | .retT v G=>vY v G
 | _=>none
def wf{ds:List MD}{n f:Nat}{d:MD}{args:List MV}(q:f<1000)(hn:ds[f+3000]?=none)(hd:ds[f]?=some d)(hl:args.length=d.params.length):ac ds (n+1) (f+3000) args=Ev (exs (ac ds n) d.body (args.map some++replicate (d.names.length-args.length) none)):=by
 rw[ac,hn];dsimp only;rw[if_neg (by omega),if_pos (by omega)];rw[Jv,hd];simp only[hl,if_true];unfold Ev
 rfl
@[simp] theorem E_(xs)(k):(R.retF xs).andThen k=.retF xs:=rfl
@[simp] theorem Fa(v):bx (some (.val v))=some v:=rfl
@[simp] theorem Fb(v):bx (some (.own v))=some (.lst v):=rfl
@[simp] theorem Fc(v):bx (some (.brw v))=some (.lst v):=rfl
@[simp] theorem Ew(v):bx (some (.ownD v))=some (.dI v):=rfl
@[simp] theorem Ex(v):bx (some (.brwD v))=some (.dI v):=rfl
@[simp] theorem Ey(v):cR (some (.ownD v))=some (.brwD v):=rfl
@[simp] theorem Ez(v):cR (some (.brwD v))=some (.brwD v):=rfl
@[simp] theorem EA(v):dw (some (.ownD v))=some (.brwD v):=rfl
@[simp] theorem EB(v):dw (some (.brwD v))=some (.brwD v):=rfl
@[simp] theorem Ii(i):sc? (.int i)=some (.int i):=rfl
@[simp] theorem IF(i):sc? (.bl i)=some (.bl i):=rfl
@[simp] theorem Ij:sc? .non=some .non:=rfl
@[simp] theorem Ik(i):(Sc.int i).pv=.int i:=rfl
@[simp] theorem IG(i):(Sc.bl i).pv=.bl i:=rfl
@[simp] theorem Fd(v):xS (some (.val v))=some v:=rfl
@[simp] theorem Fe(v):cR (some (.val v))=some (.val v):=rfl
@[simp] theorem Fh(v):cR (some (.own v))=some (.brw v):=rfl
@[simp] theorem Fi(v):cR (some (.brw v))=some (.brw v):=rfl
@[simp] theorem Fj(v):dw (some (.val v))=some (.val v):=rfl
@[simp] theorem Fk(v):dw (some (.own v))=some (.brw v):=rfl
@[simp] theorem Fl(v):dw (some (.brw v))=some (.brw v):=rfl
@[simp] theorem Fm(b):aS (.bl b)=some b:=rfl
@[simp] theorem Hi(i j):gL .add (.int i) (.int j)=some (.int (i+j)):=rfl
@[simp] theorem Hj(i j):gL .sub (.int i) (.int j)=some (.int (i-j)):=rfl
@[simp] theorem Hk(i j):gL .mul (.int i) (.int j)=if (-(2 ^ 64)<i/\i<2 ^ 64)\/(-(2 ^ 64)<j/\j<2 ^ 64)then some (.int (i*j))else none:=rfl
@[simp] theorem yV(i j):gL .fdiv (.int i) (.int j)=if 0<j/\j<1073741824 then some (.int (i / j))else none:=rfl
@[simp] theorem Bb(i j):gL .mod (.int i) (.int j)=if 0<j then some (.int (i % j))else none:=rfl
@[simp] theorem Hl(x y):gL .add (.lst x) (.lst y)=if x.length+y.length<=10000 then some (.lst (x++y))else none:=rfl
@[simp] theorem Il(i j):cb .lt (.int i) (.int j)=some (decide (i<j)):=rfl
@[simp] theorem Im(i j):cb .le (.int i) (.int j)=some (decide (i<=j)):=rfl
@[simp] theorem Io(i j):cb .gt (.int i) (.int j)=some (decide (j<i)):=rfl
@[simp] theorem Ip(i j):cb .ge (.int i) (.int j)=some (decide (j<=i)):=rfl
@[simp] theorem tq(x y):cb .eq x y=eqF 100 x y:=rfl
@[simp] theorem EC(x y):cb .ne x y=if qF x y=true then(eqF 100 x y).map (λp=>!p)else none:=rfl
@[simp] theorem uY(x):cb .isN x .non=some (gM x):=rfl
@[simp] theorem GK(x):cb .notN x .non=some (!gM x):=rfl
@[simp] theorem Bc(x)(xs):cb .isIn x (.tup xs)=isIn x xs:=rfl
@[simp] theorem Hm(x)(xs):cb .isIn x (.lst xs)=isIn x xs:=rfl
@[simp] theorem GL(x)(xs):cb .notIn x (.tup xs)=(isIn x xs).map λp=>!p:=rfl
@[simp] theorem GM(x)(xs):cb .notIn x (.lst xs)=(isIn x xs).map λp=>!p:=rfl
@[simp] theorem Iq(n)(i j):eqF n (.bl i) (.bl j)=some (i==j):=by cases n<;>rfl
@[simp] theorem k8(n)(i j):eqF n (.str i) (.str j)=some (i==j):=by cases n<;>rfl
@[simp] theorem Hn(x y):qF (.tup x) (.tup y)=true:=rfl
@[simp] theorem Ho(x y):qF (.lst x) (.lst y)=true:=rfl
@[simp] theorem Hq(x y):qF (.int x) (.int y)=true:=rfl
@[simp] theorem Hr(x y:Str):qF (.str x) (.str y)=true:=rfl
@[simp] theorem Hs(x):bq (.tup x)=some x:=rfl
@[simp] theorem Bd(x):bq (.lst x)=some x:=rfl
@[simp] theorem GN(x):aE .len [.tup x]=some (.int x.length):=rfl
@[simp] theorem GO(x):aE .len [.lst x]=some (.int x.length):=rfl
@[simp] theorem GP(x):aE .len [.dI (.k x)]=some (.int x.length):=rfl
@[simp] theorem Ht(x):aE .tupleOf [x]=(bq x).map .tup:=rfl
@[simp] theorem GQ(x):aE .listOf [x]=(bq x).map .lst:=rfl
@[simp] theorem tu(x):aE .sorted [x]=(bq x).bind d7:=rfl
@[simp] theorem Hu(x):aE .any [.lst x]=(d6 x).map λbs=>.bl (bs.any id):=rfl
@[simp] theorem Hv(x):aE .all [.lst x]=(d6 x).map λbs=>.bl (bs.all id):=rfl
@[simp] theorem GR(i):aE .intOf [.int i]=some (.int i):=rfl
@[simp] theorem GS(b):aE .intOf [.bl b]=some (.int (if b then 1 else 0)):=rfl
@[simp] theorem Hw(i):isD (.int i)=false:=rfl
@[simp] theorem Ir(i):isD (.bl i)=false:=rfl
@[simp] theorem Hx(i):isD (.str i)=false:=rfl
@[simp] theorem Hy(i):isD (.tup i)=false:=rfl
@[simp] theorem Hz(i):isD (.lst i)=false:=rfl
@[simp] theorem HA:isD .non=false:=rfl
@[simp] theorem Fn(x):aE .isInt [x]=if isD x=true then none else some (.bl (isT .isInt x)):=rfl
@[simp] theorem zE(i):isT .isInt (.int i)=true:=rfl
@[simp] theorem Be(i):isT .isInt (.bl i)=true:=rfl
@[simp] theorem zF(i):isT .isInt (.str i)=false:=rfl
@[simp] theorem zG(i):isT .isInt (.lst i)=false:=rfl
@[simp] theorem zH(i):isT .isInt (.tup i)=false:=rfl
@[simp] theorem zI:isT .isInt .non=false:=rfl
@[simp] theorem ED(x):aE .isBool [x]=if isD x=true then none else some (.bl (isT .isBool x)):=rfl
@[simp] theorem yW(i):isT .isBool (.int i)=false:=rfl
@[simp] theorem zJ(i):isT .isBool (.bl i)=true:=rfl
@[simp] theorem yX(i):isT .isBool (.str i)=false:=rfl
@[simp] theorem yY(i):isT .isBool (.lst i)=false:=rfl
@[simp] theorem yZ(i):isT .isBool (.tup i)=false:=rfl
@[simp] theorem y0:isT .isBool .non=false:=rfl
@[simp] theorem Fo(x):aE .isStr [x]=if isD x=true then none else some (.bl (isT .isStr x)):=rfl
@[simp] theorem zK(i):isT .isStr (.int i)=false:=rfl
@[simp] theorem Bf(i):isT .isStr (.bl i)=false:=rfl
@[simp] theorem zL(i):isT .isStr (.str i)=true:=rfl
@[simp] theorem zM(i):isT .isStr (.lst i)=false:=rfl
@[simp] theorem zN(i):isT .isStr (.tup i)=false:=rfl
@[simp] theorem zO:isT .isStr .non=false:=rfl
@[simp] theorem EE(x):aE .isList [x]=if isD x=true then none else some (.bl (isT .isList x)):=rfl
@[simp] theorem y1(i):isT .isList (.int i)=false:=rfl
@[simp] theorem zP(i):isT .isList (.bl i)=false:=rfl
@[simp] theorem y3(i):isT .isList (.str i)=false:=rfl
@[simp] theorem y4(i):isT .isList (.lst i)=true:=rfl
@[simp] theorem y6(i):isT .isList (.tup i)=false:=rfl
@[simp] theorem y7:isT .isList .non=false:=rfl
@[simp] theorem Cc(x):aE .isTuple [x]=if isD x=true then none else some (.bl (isT .isTuple x)):=rfl
@[simp] theorem wG(i):isT .isTuple (.int i)=false:=rfl
@[simp] theorem y9(i):isT .isTuple (.bl i)=false:=rfl
@[simp] theorem wH(i):isT .isTuple (.str i)=false:=rfl
@[simp] theorem wI(i):isT .isTuple (.lst i)=false:=rfl
@[simp] theorem wJ(i):isT .isTuple (.tup i)=true:=rfl
@[simp] theorem wK:isT .isTuple .non=false:=rfl
@[simp] theorem GT(xs):aE .max1 [.lst xs]=(bO xs).bind λns=>(F3 ns).map .int:=rfl
@[simp] theorem EF(d):aE .valuesOf [.dI d]=if (uv d).length<=10000 then some (.lst (uv d))else none:=rfl
@[simp] theorem y_(kvs):aE .sortedKeys [.dI (.k kvs)]=if kvs.length<64 then some (ofL (sortI (kvs.map (·.1))))else none:=rfl
@[simp] theorem Iu(kvs)(i):xP (.dI (.k kvs)) (.int i)=some (um kvs i):=rfl
@[simp] theorem Iv(kvs)(ns):xP (.dI (.t kvs)) (.tup (ns.map .int))=some (um kvs ns):=by
 show(bO _).map _=_;rw[bJ]
 rfl
@[simp] theorem Iw(kvs)(i)(s):C7 (.k kvs) (.int i) s=if kvs.length<10000 then some (.k (uq kvs i s))else none:=rfl
@[simp] theorem Ix(kvs)(ns)(s):C7 (.t kvs) (.tup (ns.map .int)) s=if kvs.length<10000 then some (.t (uq kvs ns s))else none:=by
 show((bO _).bind λk=>if kvs.length<10000 then some _ else none)=_;rw[bJ]
 rfl
@[simp] theorem HB(p q):cb .isN (.bl p) (.bl q)=some (p==q):=rfl
@[simp] theorem GU(p q):cb .notN (.bl p) (.bl q)=some (!(p==q)):=rfl
@[simp] theorem Bg(xs):aE .tupleRev [.lst xs]=some (.tup xs.reverse):=rfl
@[simp] theorem zQ(x):aE .sortedSet [x]=(bq x).bind λxs=>(bO xs).bind λns=>if ns.length<=4000/\(dd ns).length<64 then some (.lst ((sortI (dd ns)).map .int))else none:=rfl
@[simp] theorem IH(x)(i):gO (.lst x) (.int i)=(place x.length i).bind λj=>x[j]?:=rfl
@[simp] theorem II(x)(i):gO (.tup x) (.int i)=(place x.length i).bind λj=>x[j]?:=rfl
@[simp] theorem HC(x)(lo hi):gh (.lst x) lo hi=some (.lst (cut x lo hi)):=rfl
@[simp] theorem HE(i j):bnd (.cst (.int i)) (.int j)=some (some j):=rfl
@[simp] theorem pM(x):cm .seq [x]=bq x:=rfl
def Bh(j):cm .rng [.int j]=if -(2 ^ 62)<=j/\j<2 ^ 62 then some ((range j.toNat).map λk=>.int ((0:Int)+k))else none:=rfl
@[simp] theorem aQ(G)(k):(R.next G).andThen k=k G:=rfl
@[simp] theorem GV(v)(k):(R.ret v).andThen k=.ret v:=rfl
@[simp] theorem GW(k):R.bad.andThen k=.bad:=rfl
@[simp] theorem GX(G)(k):(R.brk G).andThen k=.brk G:=rfl
@[simp] theorem Fp(G)(k):(R.cont G).andThen k=.cont G:=rfl
@[simp] theorem EG(v)(k):dU (some v) k=k v:=rfl
@[simp] theorem fm(v)(k):xT (some v) k=k v:=rfl
@[simp] theorem EH(v)(k):eF (some v) k=k v:=rfl
@[simp] theorem Fq(v):bG (.ret v)=some v:=rfl
@[simp] theorem EI(G):bG (.next G)=some .non:=rfl
@[simp] theorem bi(a)(l)(m):put (a::l) 0 m=some m::l:=rfl
@[simp] theorem bj(a)(l)(n)(m):put (a::l) (n+1) m=a::put l n m:=rfl
@[simp] theorem og(src)(q G):(R.next G).back src q=.next (bh src q G):=rfl
@[simp] theorem GY(src)(q)(v):(R.ret v).back src q=.ret v:=rfl
@[simp] theorem Fs(body)(G):aT body [] G=.next G:=rfl
def fo(h0:0<=j)(h1:j<4611686018427387904):cm .rng [.int j]=some ((range j.toNat).map λk=>.int (k:Int)):=by
 rw[Bh,if_pos ⟨by omega,by exact ‹_›⟩]
 congr 1
 simp_all
def mJ{n:Nat}{i:Int}(h0:0<=i)(h:i<n):place n i=some i.toNat:=by unfold place;rw[if_pos h0,if_pos h]
def leT(a b:List Int):Prop:=lexLt b a=false
theorem sortI_perm(l):(sortI l).Perm l:=by rw[dX];exact L2.Srt.sortI_perm l
theorem sortT_perm(l):(sortT l).Perm l:=by rw[dY];exact L2.Srt.sortT_perm l
def sortI_len(l):(sortI l).length=l.length:=(sortI_perm l).length_eq
def sortT_len(l):(sortT l).length=l.length:=(sortT_perm l).length_eq
def bp :x∈sortI l ↔ x∈l:=(sortI_perm l).mem_iff
def b8 :x∈sortT l ↔ x∈l:=(sortT_perm l).mem_iff
theorem sortI_rises(l):(sortI l).Pairwise (· <= ·):=by rw[dX];exact L2.Srt.sortI_rises l
theorem sortT_rises(l):(sortT l).Pairwise leT:=by
 rw[dY];exact(L2.Srt.sortT_rises l).imp λh=>by unfold leT;rw[ji];exact h
theorem sortI_id(h:l.Pairwise (· <= ·)):sortI l=l:=by rw[dX];exact L2.Srt.sortI_id h
theorem sortT_id(h:l.Pairwise leT):sortT l=l:=by
 rw[dY];exact L2.Srt.sortT_id (h.imp λh=>by unfold leT at h;rw[ji]at h;exact h)
theorem sortT_of_perm(p:a.Perm b):sortT a=sortT b:=by rw[dY,dY];exact L2.Srt.sortT_of_perm p
theorem sortI_of_perm(p:a.Perm b):sortI a=sortI b:=by rw[dX,dX];exact L2.Srt.sortI_of_perm p
def za(h:l.Nodup):(sortI l).Pairwise (· < ·):=by
 have h1:=sortI_rises l;have h2:=(sortI_perm l).nodup_iff.mpr h;exact(h1.and h2).imp λq=>pZ q λa b=>by omega
def zb :k∈dd l ↔ k∈l:=by rw[qU];exact L2.St.iy
theorem dd_nodup(l):(dd l).Nodup:=by rw[qU];exact L2.St.dd_nodup l
theorem uZ:∀{l},l.Nodup->dd l=l
 | [],_=>rfl
 |x::r,h=>by
  rw[dd,uZ (JX.mp h).2,if_neg (JX.mp h).1]
def zc{l:List Int}(h:l.Pairwise (· < ·)):l.Nodup:=h.imp λ{a b} q=>by omega
def rl(q:List Int):Prop:=q.Pairwise (· < ·)/\∀h∈q,0<=h/\h<=59
def cU(R:List (List Int)):Prop:=(∀q∈R,rl q)/\R.Pairwise leT/\R.length<=60
theorem tw:∀(n:Nat) (l:List Int),l.Nodup->(∀x∈l,0<=x/\x<(n:Int))->l.length<=n
 |0,l,_,h=>by
  cases l with
  |nil=>simp
  |cons x r=>have:=h x (.head _);omega
 |n+1,l,hn,h=>by
  have h1:=tw n (l.filter λx=>decide (x≠(n:Int))) (hn.filter _) (λx hx=>by
   obtain⟨h2,h3⟩:=IV.mp hx;have h4:=IX h3;have:=h x h2;omega)
  have h2:∀l:List Int,l.Nodup->l.length<=(l.filter λx=>decide (x≠(n:Int))).length+1:=by
   intro l
   induction l with
   |nil=>intro _;simp
   |cons x r ih =>
    intro hn;by_cases e:x=(n:Int)
    .have hr:r.filter (λx=>decide (x≠(n:Int)))=r:=Lc.mpr λy q=>IM λz=>(JX.mp hn).1 (by rw[e,<- z];exact q)
     rw[Lh (by simp[e]),hr];simp
    .rw[filter_cons_of_pos (by simp[e])];have:=ih (JX.mp hn).2;simp only[length_cons];exact(Ln ‹_›)
  have:=h2 l hn;omega
def wg(h:rl q):q.length<=60:=tw 60 q (zc h.1) λx hx=>by have:=h.2 x hx;omega
noncomputable def ig(ns:List Int)(lo hi:Option Int):List Int:=(ns.drop (dS ns.length 0 lo)).take (dS ns.length ns.length hi-dS ns.length 0 lo)
@[simp] theorem GZ(ns)(lo hi):cut (ns.map .int) lo hi=(ig ns lo hi).map .int:=by
 unfold cut ig
 simp_all
def zd(ns)(q:0<=a)(D:0<=b):(ig ns (some a) (some b)).length<=(b-a).toNat:=by
 unfold ig;rw[KU,Ld];have J:dS ns.length ns.length (some b)=min b.toNat ns.length:=by show(if b<0 then _ else _)=_;rw[if_neg (Int.not_lt.mpr D)]
 have U:dS ns.length 0 (some a)=min a.toNat ns.length:=by show(if a<0 then _ else _)=_;rw[if_neg (Int.not_lt.mpr q)]
 rw[J,U];obtain⟨A,rfl⟩:=Int.eq_ofNat_of_zero_le q;obtain⟨B,rfl⟩:=Int.eq_ofNat_of_zero_le D;rw[Int.toNat_sub,Int.toNat_natCast,Int.toNat_natCast];refine IK (Nat.min_le_left _ _) ?_;rcases Nat.le_total A ns.length with h|h
 .rw[Kz h];exact Nat.sub_le_sub_right (Nat.min_le_left _ _) A
 .rw[Nat.min_eq_right h,Nat.sub_eq_zero_of_le (Nat.min_le_right _ _)];exact IW _
end MM
structure PySem.W.Fast:Prop where (tw14570346845843297217 tw1295635851271302505 tw12622765661154845236 tw4955626580890826168 tw16148229660605586771 tw2011718155765171789 tw3689785991897178153 tw12123533481685581779 tw5944857472255842941 tw12951426796096927661 tw6154245178455268770 tw2016074724913345032 tw13826259398219516391 tw8356496508696431769 tw5278390908197685549 tw17190623227859172539 tw12167272546455247534 tw1704648931796568580 tw12874449570321620404 tw15008695508034118972 tw11629576421474278971 tw10152853855434379149 tw15772168101051004947 tw18440736071328033093 tw24932790720703561 tw15964529754043787472 tw9588857122753602870 tw6919675277613929590 tw10197680797673852165 tw1330932038315777189 tw11558160635426113139 tw6590324449746769781 tw15612984865534053792 tw11068332773303952546 tw7552844851003919327 tw15578964026678206652 tw10816778244195920436 tw11900610245946800213 tw14717348825881857803 tw765540465796562595 tw12013277853334916747 tw14675073513819352362 tw9728811158289514465 tw11064041329625414237 tw4244517726275841119 tw7110490444545416156 tw8028950292602165796 tw836654502010262372 tw11398393434298763987 tw15559935132698196446 tw9531104467301532109 tw2602449685596510078 tw10404014075867061813 tw2673958907690893176 tw7219328957369785211 tw8985095971517964622 tw8177778470261936979 tw5864314661930138360 tw14144864301137186784 tw6939300684148065539 tw6644716070372986382 tw7212721013741342474 tw13111235399400132422 tw496261863086489079 tw15508918084863061989 tw8331247738435031818 tw10493819211134897576 tw6464704608284536442 tw6448913855433297881 tw13513745352781958619 tw12759953983006141336 tw9278193723126102871 tw9560315284567269327 tw15174230070538598348 tw949295700475108031 tw12439598920560169163 tw17931898486052209611 tw8741989119495964294 tw2693894332232722200 tw11544457820770496750 tw9194297056654008442 tw3223790785593365732 tw3790153889876059985 tw2878357982697935770 tw1024140011413654584 tw385695678738193281 tw9605756220964991734 tw10647676424169698510 tw17543077734323747026 tw5968450927656978399 tw16714878311915029380 tw5694709475732032611 tw15125048483917127533 tw11523203857599818634 tw12996334885988478401 tw7428139285319792178 tw12061584709877831812 tw6510232317285213668 tw11647395666739079092 tw2913873923783099878 tw11764329393060410553 tw6617755501099876200 tw3778681899752178681 tw12989187358498555848 tw11810379519633467674 tw12981424914445057339 tw2624835170746760590 tw1513534354469106734 tw22718151906879518 tw18098009778051426751 tw13779957248538077134 tw12147894861600570090 tw9782589712266461519 tw11754408699281894100 tw11119512246577539237 tw12180993533317583137 tw6051824396499758561 tw13667157997339724005 tw13559541987390298317 tw4977285776106096277 tw2335559627091491516 tw11430388380217666152 tw7687184308218624982 tw12490800302538642835 tw17487643937670469642 tw4918801452221410164 tw16253819486074117036 tw12341469767355642894 tw4599278978725017584 tw2837037746207362807 tw15307688345718509464 tw14419205421998328874 tw10595019765772896812 tw12335250229161353140 tw3115859180033400415 tw10842965756056028201 tw3908217335394343487 tw4309755956687911122 tw7788987276469466584 tw6990273243804054188 tw3907683342105681622 tw16969921846083445148 tw15754982599240304147 tw381357860187401276 tw3828528891246249415 tw15101718993100585526 tw16937514823259890811 tw17427385588002859828 tw16309991006916838539 tw994985614343244245 tw11185327449683690879 tw11227601161902825569 tw15207634661840350475 tw8254830815877546523 tw16465610584594330769 tw17147586792796070589 tw1247684725408543130 tw2727709136077380656 tw11336971394092959340 tw6455467451989843040 tw1788349363638099827 tw11224685553970269840 tw3392169345761125025 tw11133950427239537639 tw11127403353778357100 tw12722479517894057622 tw2693925857210729591 tw13217492583536477086 tw5111797478383898772 tw6232514283876674701 tw6576411076326304507 tw3823376153968042677 tw5437087439523153665 tw5190418402577280541 tw16576554218461572989 tw16974640577423314070 tw9674441747351872008 tw9101841400647085066 tw12788979246167198083 tw13389087261338984085 tw2116810327568670435 tw2217294024058121856 tw11275676778169361872 tw15678692839351830064 tw1592599841412491898 tw2557990296408921449 tw1408354017970129262 tw7702353633720344088 tw4748428768050477069 tw259484413263878156 tw3507345770309571718 tw14072925077654983308 tw9305147133866145627 tw4431369691311913317 tw9376561405784378667 tw5107624132382959272 tw1977176376242241095 tw1393216257136790207 tw4963061809234331052 tw16691794569464676125 tw5895606760322624242 tw2226144403625284048 tw14079932281880641846 tw7477249360793525072 tw8817880282105125874 tw12810009938059428678 tw2698088098174330027 tw11957361646484990853 tw16539248879876696299 tw16761409818023081088 tw6098181443498733399 tw6626500831475923257 tw1613880819409259812 tw11009222646216370498 tw12648120544070224553 tw4924603439344927668 tw17681630850545902049 tw13578898909343080812 tw16486697091735105309 tw6164449132188115795 tw18275333984041289293 tw1538760276102637494 tw7246617464651133981 tw2577418449229489328 tw884133441053218778 tw13018490046185220725 tw13060572253862446093 tw5926878008441737005 tw4004945473117144683 tw6653398973337873946 tw8517393821259460986 tw17081989115480237492 tw13142368352932771277 tw6657817619054193189 tw9034528663362260250 tw314934247180739636 tw13327724544237501133 tw8785012224366741670 tw18417643566050144934 tw10972228624701400575 tw2756461348276944422 tw3872595523722950816 tw5445679768873586785 tw429444181751508149 tw5758731133266350828 tw17504373555284768470 tw4683196187875097557 tw6897341753905294358 tw7728758912165688040 tw6768229528646773231 tw2806935416926767671 tw4703035159567825008 tw1416762474878795851 tw4337854847796865050 tw5305039865949835510 tw15423661634132040218 tw10313781601245609290 tw4992951747437992145 tw13324172202331187928 tw183124431003550407 tw2436471994534899336 tw17580488970467369791 tw5503615507412343573 tw513609721676366152 tw3043984776093763094 tw13827017071747608155 tw15374658910449888888 tw12016902475367533025 tw12757209226857398290 tw3068572348455014405 tw7782811864924103377 tw11049635059205993400 tw10016602387759651405 tw12277299403139651364 tw10475965422825353065 tw15918047353077147763 tw2191764376600687132 tw17842896277685963565 tw6523488732274387774 tw2899928662924098989 tw2925161029022067490 tw14470067561219408203 tw5466027399711592989 tw14076610679766187009 tw15753018074750357076 tw5025328872673453831 tw5474841150457330765 tw6079204456499175460 tw8013989543651939180 tw2097396468994155999 tw7138217847227485293 tw9306001724495332571 tw16218619549228862181 tw12931591096124393339 tw15816576683144614738 tw2773420045140555036 tw9276703140420363955 tw6810784793473479923 tw2717909329846067908 tw9370761639949490335 tw9874177226824330172 tw12262981787973965932 tw4334653925042856069 tw4399248815360667167 tw811396006666051705 tw8681844748545131940 tw6053021342979014018 tw9110991293216366424 tw7402926661721447815 tw10775302382975719541 tw159459160782098923 tw2519624967672718542 tw14544017501270388076 tw1340239032635859274 tw1686593564286393848 tw970179812538145336 tw9056758330019198417 tw3535914006490367156 tw4712437951652245524 tw5682965579605201353 tw11478969854283529384 tw6241107000706737714 tw4484399588528155167 tw9976618224653157077 tw764271249397494198 tw6370416646031656060 tw18408291453399261964 tw8309082852995313083 tw9364915091926570339 tw14785048029956812997 tw378703886389613129 tw1197297766556141746 tw9464430955693905091 tw16393112162238588278 tw4575026868709507789 tw1094620902882583485 tw16077729502192440765 tw13456946849110247524 tw2803049865127685504 tw3565982769135785647 tw541525569556843707 tw14817122818900000662 tw9483206757192140694 tw3878283046632881436 tw8426156047999443757 tw17286377198130657910 tw16796470490741765371 tw10286571543156763760 tw11609082512691800595 tw13561518629205323240 tw18381962685166825228 tw9624525595908686834 tw824149767698491949 tw1396234986416439090 tw4429919965357257185 tw10894278352118958801 tw15176103290084314785 tw9594480288982442240 tw17722464107214172424 tw11163399176211961851 tw8140923994376825965 tw14058360466698327493 tw3425550137370495701 tw4579847023681845180 tw18012842431188723374 tw7466758022327843152 tw17478878809230387746 tw8981340793133083588 tw15597650257956112833 tw2688859560261117185 tw2917244096901699654 tw2493871961098465327 tw14409628944530375335 tw13433680244522973098 tw10687937778145122556 tw3795101554152955388 tw8461841935216715368 tw11330803994484958654 tw11993629643251973363 tw11579662409622108542 tw13295259081314497147 tw10324849294695407193 tw9073705068066809776 tw16524729572418883919 tw13957783138098264551 tw4754018019753809529 tw10428939179657552909 tw2843232153563406313 tw442829006221004975 tw10119725128901325916 tw9664035990706685850 tw11358981325322715345 tw78810945149211643 tw3309476212241689781 tw7570859202164835468 tw4994254245150139617 tw17544194424564613876 tw12209668993245565790 tw5798962357207195694 tw6695183163091659451 tw8934633505274518100 tw199581852826438715:True)
namespace My
open PySem L2 MM List Option
noncomputable abbrev ix(a:Nat)(b:Int):ME:=.idx (.bor a) (.cst (.int b))
noncomputable abbrev sv(x:PV):Option MV:=some (.val x)
abbrev LL:=List (List Int)
noncomputable abbrev ci(x:Int):ME:=.cst (.int x)
noncomputable abbrev cs(x:Str):ME:=.cst (.str x)
noncomputable def dH:MD:=⟨"number_read",["word"],["word"],
  [.ite (.or (.cmp .notIn (.blt .len [.bor 0]) (.tup [(ci 1),(ci 2)])) (.not (.blt .all [(.comp .chr [.bor 0] [] (.cst (.bl true)) (.cmp .isIn (.bor 0) (.glob "FIGURES" (.str "0123456789"))))])))
   [.ret (.cst .non)]
   [],
  .ite (.and (.cmp .eq (.blt .len [.bor 0]) (ci 2)) (.cmp .eq (ix 0 0) (cs "0")))
   [.ret (.cst .non)]
   [],
  .ret (.blt .intOf [.bor 0])],none⟩
noncomputable def aZ:MD:=⟨"is_number_below",["thing","bound"],["thing","bound"],
  [.ite (.or (.blt .isBool [.bor 0]) (.not (.blt .isInt [.bor 0])))
   [.ret (.cst (.bl false))]
   [],
  .ret (.chain .le .lt (ci 0) (.bor 0) (.bor 1))],none⟩
noncomputable def gX:MD:=⟨"each_once",["members"],["members"],
  [.ret (.cmp .eq (.blt .lenSet [.bor 0]) (.blt .len [.bor 0]))],none⟩
noncomputable def dh:List MS:=[.ite (.not (.call 1 [.bor 1,(.glob "HOLE_COUNT" (.int 60))]))
   [.never]
   []]
noncomputable def eO:MD:=⟨"strip_made",["row"],["row","thing"],
  [.for1 1 .seq [.bor 0] dh,
  .ret (.blt .tupleOf [(.blt .sortedSet [.bor 0])])],none⟩
noncomputable def gY:MD:=⟨"rest_made",["strips"],["strips"],
  [.ite (.cmp .gt (.blt .len [.bor 0]) (.glob "MOST_STRIPS" (.int 60)))
   [.never]
   [],
  .ret (.blt .tupleOf [(.blt .sorted [(.comp .seq [.bor 0] [] (.cst (.bl true)) (.call 3 [.bor 0]))])])],none⟩
noncomputable def d_:MD:=⟨"strip_without",["strip","hole"],["strip","hole"],
  [.ret (.blt .tupleOf [(.comp .seq [.bor 0] [1] (.cmp .ne (.bor 0) (.bor 1)) (.var 0))])],none⟩
noncomputable def jX:MD:=⟨"knotted",["rest","hole"],["rest","hole"],
  [.ret (.blt .tupleOf [(.blt .sorted [(.comp .seq [.bor 0] [1] (.cst (.bl true)) (.call 5 [.bor 0,.bor 1]))])])],none⟩
noncomputable def mK:MD:=⟨"bitten",["rest","hole"],["rest","hole"],
  [.ret (.blt .tupleOf [(.comp .seq [.bor 0] [1] (.cmp .notIn (.bor 1) (.bor 0)) (.var 0))])],none⟩
noncomputable def iK:MD:=⟨"is_whole",["rest"],["rest"],
  [.ret (.cmp .isIn (.tup []) (.bor 0))],none⟩
noncomputable def jY:MD:=⟨"is_bare",["rest"],["rest"],
  [.ret (.cmp .eq (.blt .len [.bor 0]) (ci 0))],none⟩
noncomputable def cE:List MS:=[.ite (.not (.call 1 [.bor 2,.bor 1]))
   [.never]
   []]
noncomputable def fq:MD:=⟨"check_ribbon",["ribbon","count"],["ribbon","count","thing"],
  [.ite (.cmp .eq (.blt .len [.bor 0]) (ci 0))
   [.never]
   [],
  .for1 2 .seq [.bor 0] cE,
  .ite (.not (.call 2 [.bor 0]))
   [.never]
   []],none⟩
noncomputable def dJ:List MS:=[.expr (.call 10 [.bor 2,.bor 0])]
noncomputable def gZ:MD:=⟨"loom_made",["count","ribbons"],["count","ribbons","ribbon"],
  [.ite (.not (.call 1 [.bor 0,(.bin .add (.glob "HOLE_COUNT" (.int 60)) (ci 1))]))
   [.never]
   [],
  .ite (.cmp .gt (.blt .len [.bor 1]) (.glob "MOST_STRIPS" (.int 60)))
   [.never]
   [],
  .for1 2 .seq [.bor 1] dJ,
  .ret (.tup [.var 0,(.call 4 [.bor 1])])],none⟩
noncomputable def gn:MD:=⟨"other_hand",["hand"],["hand"],
  [.ret (.ite (.cmp .eq (.bor 0) (cs "weaver")) (cs "moth") (cs "weaver"))],none⟩
noncomputable def mL:MD:=⟨"behind",["rest","hand","reply"],["rest","hand","reply"],
  [.ite (.cmp .isN (.bor 2) (.cst .non))
   [.ret (.var 0)]
   [],
  .ret (.ite (.cmp .eq (.bor 1) (cs "weaver")) (.call 6 [.bor 0,.bor 2]) (.call 7 [.bor 0,.bor 2]))],none⟩
noncomputable def fO:MD:=⟨"row_written",["word","members"],["word","members"],
  [.ret (.join " " (.bin .add (.lst [.var 0]) (.comp .seq [.bor 1] [] (.cst (.bl true)) (.blt .strOf [.bor 0]))))],none⟩
noncomputable def fu:MD:=⟨"page_written",["table"],["table","rows"],
  [.setOwn 1 (.lst [(.call 14 [(cs "holes"),(.lst [.fld 0 0])])]),
  .extend 1 (.comp .seq [.fld 0 1] [] (.cst (.bl true)) (.call 14 [(cs "ribbon"),.bor 0])),
  .append 1 (.call 14 [(cs "first"),(.lst [.fld 0 2])]),
  .extend 1 (.comp .seq [(.callM 30 0 [])] [] (.cst (.bl true)) (.call 14 [(cs "take"),(.lst [.var 0])])),
  .ret (.join "\n" (.bor 1))],none⟩
noncomputable def dB:MD:=⟨"numbers_behind",["word","row"],["word","row","numbers"],
  [.ite (.cmp .ne (ix 1 0) (.bor 0))
   [.never]
   [],
  .set 2 (.comp .seq [(.slice (.bor 1) (ci 1) (.cst .non))] [] (.cst (.bl true)) (.call 0 [.bor 0])),
  .ite (.cmp .isIn (.cst .non) (.bor 2))
   [.never]
   [],
  .ret (.var 2)],none⟩
noncomputable def ez:MD:=⟨"number_behind",["word","row"],["word","row","numbers"],
  [.set 2 (.call 16 [.bor 0,.bor 1]),
  .ite (.cmp .ne (.blt .len [.bor 2]) (ci 1))
   [.never]
   [],
  .ret (ix 2 0)],none⟩
noncomputable def g6:MD:=⟨"is_opener",["row"],["row"],
  [.ret (.or (.cmp .eq (.bor 0) (.lst [(cs "first"),(cs "weaver")])) (.cmp .eq (.bor 0) (.lst [(cs "first"),(cs "moth")])))],none⟩
noncomputable def cF:List MS:=[.ite (.call 18 [.bor 2])
   [.ret (.var 1)]
   []]
noncomputable def fv:MD:=⟨"opener_place",["rows"],["rows","place","row"],
  [.forT [1,2] .enm [.bor 0] cF,
  .never],none⟩
noncomputable def gp:MD:=⟨"_law_cell",["script","k"],["script","k"],
  [.ite (.cmp .lt (.bor 1) (.blt .len [.bor 0]))
   [.ret (.idx (.bor 0) (.bor 1))]
   [],
  .ret (ci 0)],none⟩
noncomputable def g7:MD:=⟨"_law_mixed",["cell","by"],["cell","by"],
  [.ret (.bin .mod (.bin .mul (.bin .mod (.bor 0) (ci 2305843009213693951)) (.bor 1)) (ci 2305843009213693951))],none⟩
noncomputable def di:List MS:=[.ite (.cmp .notIn (.bin .mod (.bor 2) (.bor 1)) (.bor 4))
   [.append 4 (.bin .mod (.bor 2) (.bor 1))]
   [],
  .set 2 (.bin .fdiv (.bor 2) (.bor 1))]
noncomputable def gq:MD:=⟨"_law_ribbon",["cell","count"],["cell","count","left","size","ribbon","k"],
  [.set 2 (.call 21 [.bor 0,(ci 1181783497276652981)]),
  .set 3 (.bin .add (ci 1) (.bin .mod (.bor 2) (ci 5))),
  .set 2 (.bin .fdiv (.bor 2) (ci 5)),
  .setOwn 4 (.lst []),
  .for1 5 .rng [.bor 3] di,
  .retOwn 4],none⟩
noncomputable def bQ:List MS:=[.append 4 (.bin .add (.cst (.str "ribbon ")) (.join " " (.comp .seq [.bor 5] [] (.cst (.bl true)) (.blt .strOf [.bor 0]))))]
noncomputable def bS:List MS:=[.append 4 (.bin .add (.cst (.str "take ")) (.blt .strOf [.bor 6]))]
noncomputable def eE:MD:=⟨"_law_canonical",["count","ribbons","hand","deeds"],["count","ribbons","hand","deeds","rows","ribbon","hole"],
  [.setOwn 4 (.lst [(.bin .add (.cst (.str "holes ")) (.blt .strOf [.bor 0]))]),
  .for1 5 .seq [(.blt .sorted [(.comp .seq [.bor 1] [] (.cst (.bl true)) (.blt .sorted [.bor 0]))])] bQ,
  .append 4 (.bin .add (.cst (.str "first ")) (.bor 2)),
  .for1 6 .seq [.bor 3] bS,
  .ret (.join "\n" (.bor 4))],none⟩
noncomputable def cV:MD:=⟨"_law_won",["ribbons","deeds","hand"],["ribbons","deeds","hand","own","turn","hole"],
  [.own3 3 4 5 1 (.var 2),
  .ite (.blt .any [(.comp .seq [.bor 0] [3] (.cst (.bl true)) (.blt .all [(.comp .seq [.bor 0] [1] (.cst (.bl true)) (.cmp .isIn (.bor 0) (.datL (.bor 1) true)))]))])
   [.ret (cs "weaver")]
   [],
  .ite (.blt .all [(.comp .seq [.bor 0] [3] (.cst (.bl true)) (.blt .any [(.comp .seq [.bor 0] [1] (.cst (.bl true)) (.cmp .isIn (.bor 0) (.datL (.bor 1) false)))]))])
   [.ret (cs "moth")]
   [],
  .ret (.cst .non)],none⟩
noncomputable def jr:List MS:=[.append 4 (.bin .add (.cst (.str "ribbon ")) (.join " " (.comp .seq [.bor 5] [] (.cst (.bl true)) (.blt .strOf [.bor 0]))))]
noncomputable def jt:List MS:=[.append 4 (.bin .add (.cst (.str "take ")) (.blt .strOf [.bor 6]))]
noncomputable def iL:MD:=⟨"_law_page",["count","ribbons","hand","deeds"],["count","ribbons","hand","deeds","rows","ribbon","hole"],
  [.setOwn 4 (.lst [(.bin .add (.cst (.str "holes ")) (.blt .strOf [.bor 0]))]),
  .for1 5 .seq [.bor 1] jr,
  .append 4 (.bin .add (.cst (.str "first ")) (.bor 2)),
  .for1 6 .seq [.bor 3] jt,
  .ret (.join "\n" (.bor 4))],none⟩
noncomputable def gr:List MS:=[.ite (.not (.blt .any [(.comp .seq [.bor 6] [1,4] (.cst (.bl true)) (.and (.cmp .isIn (.bor 0) (.bor 1)) (.cmp .notIn (.bor 0) (.bor 2))))]))
   [.append 5 (.blt .tupleOf [(.blt .sorted [(.comp .seq [.bor 6] [4] (.cmp .notIn (.bor 0) (.bor 1)) (.var 0))])])]
   []]
noncomputable def iM:MD:=⟨"_law_rest",["ribbons","deeds","hand"],["ribbons","deeds","hand","start","knots","strips","ribbon"],
  [.set 3 (.blt .intOf [(.cmp .eq (.bor 2) (cs "moth"))]),
  .set 4 (.comp .rng [(.blt .len [.bor 1])] [1,3] (.cmp .eq (.bin .mod (.bor 0) (ci 2)) (.bor 2)) (.idx (.bor 1) (.bor 0))),
  .setOwn 5 (.lst []),
  .for1 6 .seq [.bor 0] gr,
  .ret (.blt .tupleOf [(.blt .sorted [.bor 5])])],none⟩
noncomputable def iN:MD:=⟨"_law_same",["table","count","ribbons","hand","deeds"],["table","count","ribbons","hand","deeds","turn"],
  [.ite (.or (.cmp .ne (.call 15 [.bor 0]) (.call 23 [.bor 1,.bor 2,.bor 3,.bor 4])) (.cmp .ne (.callM 30 0 []) (.bor 4)))
   [.ret (.cst (.bl false))]
   [],
  .ite (.cmp .ne (.callM 31 0 []) (.comp .rng [.bor 1] [4] (.cmp .notIn (.bor 0) (.bor 1)) (.var 0)))
   [.ret (.cst (.bl false))]
   [],
  .set 5 (.var 3),
  .ite (.cmp .eq (.bin .mod (.blt .len [.bor 4]) (ci 2)) (ci 1))
   [.set 5 (.disp [("weaver","moth"),("moth","weaver")] (.bor 3))]
   [],
  .ite (.or (.cmp .ne (.callM 29 0 []) (.bor 5)) (.cmp .ne (.callM 33 0 []) (.call 24 [.bor 2,.bor 4,.bor 3])))
   [.ret (.cst (.bl false))]
   [],
  .ret (.cmp .eq (.callM 32 0 []) (.call 26 [.bor 2,.bor 4,.bor 3]))],none⟩
noncomputable def cn:MD:=⟨"Table.hand_at",["self","place"],["self","place"],
  [.ret (.ite (.cmp .eq (.bin .mod (.bor 1) (ci 2)) (ci 0)) (.fld 0 2) (.call 12 [.fld 0 2]))],some "hand_at"⟩
noncomputable def eP:MD:=⟨"Table.turn",["self"],["self"],
  [.ret (.callM 28 0 [(.blt .len [.fldL 0])])],some "turn"⟩
noncomputable def dM:MD:=⟨"Table.deeds",["self"],["self"],
  [.ret (.blt .listOf [.fldL 0])],some "deeds"⟩
noncomputable def gu:MD:=⟨"Table.free",["self"],["self"],
  [.ret (.comp .rng [.fld 0 0] [0] (.cmp .notIn (.bor 0) (.fldL 1)) (.var 0))],some "free"⟩
noncomputable def dj:List MS:=[.set 1 (.call 13 [.bor 1,(.callM 28 0 [.bor 2]),.bor 3])]
noncomputable def eQ:MD:=⟨"Table.rest",["self"],["self","left","place","hole"],
  [.set 1 (.fld 0 1),
  .forT [2,3] .enm [.fldL 0] dj,
  .ret (.var 1)],some "rest"⟩
noncomputable def b9:MD:=⟨"Table.winner",["self"],["self","left"],
  [.set 1 (.callM 32 0 []),
  .ite (.call 8 [.bor 1])
   [.ret (cs "weaver")]
   [],
  .ite (.call 9 [.bor 1])
   [.ret (cs "moth")]
   [],
  .ret (.cst .non)],some "winner"⟩
noncomputable def eR:MD:=⟨"Table.take",["self","hole"],["self","hole"],
  [.ite (.cmp .notN (.callM 33 0 []) (.cst .non))
   [.never]
   [],
  .ite (.not (.call 1 [.bor 1,.fld 0 0]))
   [.never]
   [],
  .ite (.inO false (.bor 1) 0)
   [.never]
   [],
  .appO 0 (.var 1),
  .retT (.callM 33 0 [])],some "take"⟩
noncomputable def defs:List MD:=[dH,aZ,gX,eO,gY,d_,jX,mK,iK,jY,fq,gZ,gn,mL,fO,fu,dB,ez,g6,fv,gp,g7,gq,eE,cV,iL,iM,iN,cn,eP,dM,gu,eQ,b9,eR]
noncomputable def kF:MD:=⟨"law",["script"],["script","by","way","count","many","ribbons","hand","deeds","cell","left","page","table","other"],[],none⟩
noncomputable def b_:MD:=⟨"table_played",["loom","opener","deeds"],["loom","opener","deeds","table","hole"],[],none⟩
noncomputable def cz:MD:=⟨"page_read",["text"],["text","rows","place","count","ribbons","deeds","refusal"],[],none⟩
noncomputable def cG:MD:=⟨"Table.back",["self"],["self"],[],some "back"⟩
noncomputable def tab:Tab:=⟨defs.map yR,[("FIGURES",(.str "0123456789")),("HOLE_COUNT",(.int 60)),("MOST_STRIPS",(.int 60))],[[],[],[],[],[],[],[],[],[],[],[],[],[],[],[],[],[],[],[],[],[],[],[],[],[],[],[],[],[],[],[],[],[],[],[]],defs.map (·.meth)⟩
noncomputable def cellOf(ns:List Int)(k:Int):Int:=ns.getD k.toNat 0
def ze(n:Nat)(m:MV)(ns:List Int)(k:Int)(hm:bx (some m)=some (ofL ns))(h0:0<=k):ac defs (n+1) 20 [m,.val (.int k)]=some (.int (cellOf ns k)):=by
 rw[aw (d:=gp) rfl rfl];unfold cellOf;simp[gp,exs,ex,ev,evs,evB,hm];by_cases h:k<(ns.length:Int)
 .have h2:k.toNat<ns.length:=by omega
  simp[h,mJ h0 h,h2]
 .have h2:ns.length<=k.toNat:=by omega
  simp[h,h2]
def dN(h:(evs cal src G).bind (cm k)=some xs):ex cal (.for1 i k src body) G=(aT (λx C=>exs cal body (put C i (.val x))) xs (bD src G)).back src G:=by
 rw[ex,h]
def Bi(h:(evs cal src G).bind (cm k)=some xs):ex cal (.forT is k src body) G=(aT (λx C=>eF (gS is x C) λq=>exs cal body q) xs (bD src G)).back src G:=by
 rw[ex,h]
def ax(cal)(m)(ms)(G):exs cal (m::ms) G=(ex cal m G).andThen λC=>exs cal ms C:=rfl
def aD(h:ev cal e G=some v):ev cal (.blt b [e]) G=aE b [v]:=by
 rw[ev,evs,h,bind_some,evs,map_some,bind_some]
def jZ(h:ev cal e G=some v):ex cal (.set i e) G=.next (put G i (.val v)):=by
 rw[ex,h];rfl
def EJ(h:ev cal a G=some (.bl p))(h':p=true->ev cal b G=some (.bl q)):ev cal (.and a b) G=some (.bl (p&&q)):=by
 rw[ev,h];cases p<;>first|rfl|simp[h' rfl]
def gw(h:ev cal e G=some v):ex cal (.ret e) G=.ret v:=by
 rw[ex,h];rfl
def bb(h:evA cal es G=some vs)(h':cal f vs=some v):ev cal (.call f es) G=some v:=by
 rw[ev,h,bind_some,h']
def eU(h:ev cal e G=some (.lst xs)):ex cal (.setOwn i e) G=.next (put G i (.own xs)):=by
 rw[ex,h];rfl
def br{α:Type}{xs:List α}{g h:α->PV}(h1:evs cal src G=some vs)(h2:cm k vs=some (xs.map g))(hl:xs.length<=10000)
  (h3:∀x∈xs,ev cal elt (cW js G (g x))=some (h x)):ev cal (.comp k src js (.cst (.bl true)) elt) G=some (.lst (xs.map h)):=by
 rw[ev,h1,bind_some,h2,bind_some,if_pos (by simpa using hl),tm (h:=h) (λx _=>by simp[ev]) h3]
 rfl
def wj(ns:List Int){a:Int}(J:0<=a):(ig ns (some a) none).length<=ns.length-a.toNat:=by
 unfold ig;rw[KU,Ld];have q:dS ns.length 0 (some a)=min a.toNat ns.length:=by show(if a<0 then _ else _)=_;rw[if_neg (by omega)]
 have D:dS ns.length ns.length none=ns.length:=rfl;rw[D,q];omega
def bu(cal)(v)(G):ev cal (.cst v) G=some v:=rfl
def g8(h:ev cal a G=some x)(h':ev cal b G=some y):ev cal (.bin op a b) G=gL op x y:=by
 rw[ev,h,bind_some,h',bind_some]
def cA(h:ev cal a G=some x)(h':ev cal b G=some y):ev cal (.cmp op a b) G=(cb op x y).map .bl:=by
 rw[ev,h,bind_some,h',bind_some]
def rm(h:ev cal a G=some (.int x))(q:0<k):ev cal (.cmp .eq (.bin .mod a (ci k)) (ci j)) G=some (.bl (x % k==j)):=by
 rw[cA (g8 h (bu _ _ _) |>.trans (by rw[Bb,if_pos q])) (bu _ _ _),tq,k7]
 rfl
def Bj(h:ev cal a G=some (.int x))(q:0<k/\k<1073741824):ev cal (.bin .fdiv a (ci k)) G=some (.int (x / k)):=by
 rw[g8 h (bu _ _ _),yV,if_pos q]
def zf(h:ev cal a G=some (.bl b)):evB cal a G=some b:=by simp_all [evB]
def Bl{cal:Cal}{e:ME}{G:Rho}{v:PV}(hn:∀i,e≠.bor i)(h:ev cal e G=some v)(q:∀i,e≠.fldL i:=by intro i z;cases z):evA cal [e] G=some [.val v]:=by
 rw[evA,h,bind_some,evA]
 .rfl
 .exact λi z=>hn i z
 .exact λi z=>q i z
def iO(h:ev cal a G=some x)(h':ev cal i G=some y):ev cal (.idx a i) G=gO x y:=by
 rw[ev,h,bind_some,h',bind_some]
def cB(h:body x G=.next q):aT body (x::xs) G=aT body xs q:=by rw[aT,h]
def kG(h:ev cal e G=some v)(k:bG (exs cal ms (put G i (.val v)))=X):bG (exs cal (.set i e::ms) G)=X:=by simp_all [ax,jZ]
def bV(h:ex cal m G=.next C)(k:bG (exs cal ms C)=X):bG (exs cal (m::ms) G)=X:=by simp_all [ax]
def cM(h:ev cal e G=some v):bG (exs cal (.ret e::ms) G)=some v:=by
 rw[ax,gw h];rfl
def fJ(h:ev cal e G=some v)(k:exs cal ms (put G i (.val v))=r):exs cal (.set i e::ms) G=r:=by
 rw[ax,jZ h,aQ,k]
def pN(h:ex cal m G=.next C)(k:exs cal ms C=r):exs cal (m::ms) G=r:=by simp_all [ax]
def g9(h:ex cal m G=.next C):exs cal [m] G=.next C:=by
 rw[ax,h,aQ,exs]
def bW(h:ev cal c G=some (.bl p)):ex cal (.ite c a b) G=if p=true then exs cal a G else exs cal b G:=by
 rw[ex,zf h,fm]
def rn(h:ev cal c G=some (.bl false))(k:bG (exs cal ms G)=X):bG (exs cal (.ite c a []::ms) G)=X:=by simp_all [bW,exs]
def EK{cal:Cal}{f:Nat}{as es:List ME}{G:Rho}{v:PV}{vs:List MV}(h:ev cal (.call f as) G=some v)(k:evA cal es G=some vs):evA cal (.call f as::es) G=some (.val v::vs):=by
 rw[evA,h,bind_some,k]
 .rfl
 .exact nofun
 .exact nofun
def Cd{cal:Cal}{a i:ME}{es:List ME}{G:Rho}{v:PV}{vs:List MV}(h:ev cal (.idx a i) G=some v)(k:evA cal es G=some vs):evA cal (.idx a i::es) G=some (.val v::vs):=by
 rw[evA,h,bind_some,k]
 .rfl
 .exact nofun
 .exact nofun
def u0(h:cR (G[i]?).join=some m)(k:evA cal es G=some vs):evA cal (.bor i::es) G=some (m::vs):=by simp_all [evA]
def zg(h:ev cal a G=some (.bl p)):ev cal (.not a) G=some (.bl (!p)):=by
 rw[ev,h];rfl
def EL(h:ev cal c G=some (.bl false))(k:exs cal ms G=r):exs cal (.ite c a []::ms) G=r:=by simp_all [bW,exs]
def G0(h:ev cal c G=some (.bl true))(k:ev cal e G=some v):exs cal (.ite c [.ret e] b::ms) G=.ret v:=by
 rw[ax,bW h,if_pos rfl,ax,gw k];rfl
def EM(h:ev cal a G=some (.bl p))(h':p=false->ev cal b G=some (.bl q)):ev cal (.or a b) G=some (.bl (p||q)):=by
 rw[ev,h];cases p<;>first|rfl|simp[h' rfl]
def Iy(h:isIn x xs=some p)(q:ev cal a G=some x)(D:ev cal b G=some (.tup xs)):ev cal (.cmp .isIn a b) G=some (.bl p):=by
 rw[cA q D,Bc,h];rfl
def Ce(ho:(G[i]?).join=some (.own xs))(h:ev cal e G=some v)(hl:xs.length<10000):ex cal (.append i e) G=.next (put G i (.own (xs++[v]))):=by
 rw[ex,ho,h];simp[hl]
def Bm(h:((xs.length:Int)==0)=p)(q:ev cal a G=some (.tup xs)):ev cal (.cmp .eq (.blt .len [a]) (ci 0)) G=some (.bl p):=by
 rw[cA (aD q) (bu _ _ _),<- h];rfl
def pO(h:ev cal e G=some v)(k:evs cal es G=some vs):evs cal (e::es) G=some (v::vs):=by simp_all [evs]
def k9{cal:Cal}{a lo hi:ME}{G:Rho}{x y:PV}{l h:Option Int}(q:ev cal a G=some x)(hl:((ev cal lo G).bind λl=>bnd lo l)=some l)(D:((ev cal hi G).bind λv=>bnd hi v)=some h)(J:gh x l h=some y):ev cal (.slice a lo hi) G=some y:=by
 rw[ev,q,bind_some,hl,bind_some,D,bind_some,J]
def EN{cal:Cal}{c a b:ME}{G:Rho}{v:PV}(h:ev cal c G=some (.bl true))(k:ev cal a G=some v):ev cal (.ite c a b) G=some v:=by
 rw[ev,h];exact k
def EO{cal:Cal}{c a b:ME}{G:Rho}{v:PV}(h:ev cal c G=some (.bl false))(k:ev cal b G=some v):ev cal (.ite c a b) G=some v:=by
 rw[ev,h];exact k
def mM{α:Type}{cal:Cal}{k:Sk}{src:List ME}{js:List Nat}{c elt:ME}{G:Rho}{vs:List PV}{xs:List α}{g h:α->PV}{p:α->Bool}(h1:evs cal src G=some vs)(h2:cm k vs=some (xs.map g))(hl:xs.length<=10000)
  (h3:∀x∈xs,ev cal c (cW js G (g x))=some (.bl (p x))) (h4:∀x∈xs,p x=true->ev cal elt (cW js G (g x))=some (h x)):ev cal (.comp k src js c elt) G=some (.lst ((xs.filter p).map h)):=by
 rw[ev,h1,bind_some,h2,bind_some,if_pos (by rw[ox];exact hl),cQ (p:=p) (h:=h) (λx m=>by rw[h3 x m];rfl) h4]
 rfl
def zh{cal:Cal}{a b:ME}{G:Rho}{x y:PV}{xs:List PV}{p:Bool}(h:isIn x xs=some p)(D:ev cal a G=some x)(J:ev cal b G=some y)(q:bq y=some xs):ev cal (.cmp .notIn a b) G=some (.bl (!p)):=by
 rw[cA D J,show cb .notIn x y=((bq y).bind (isIn x)).map λp=>!p from(by cases y<;>first|rfl|cases q),q,bind_some,h];rfl
def Cf{cal:Cal}{c:ME}{a b ms:List MS}{G C:Rho}{r:R}(h:ev cal c G=some (.bl true))(k:exs cal a G=.next C)(q:exs cal ms C=r):exs cal (.ite c a b::ms) G=r:=by
 rw[ax,bW h,if_pos rfl,k,aQ,q]
noncomputable def oh(c b:Int):Int:=c % 2305843009213693951*b % 2305843009213693951
def gx(c b):0<=oh c b:=JT _ (by decide)
def k_(n:Nat)(c b:Int):ac defs (n+1) 21 [.val (.int c),.val (.int b)]=some (.int (oh c b)):=by
 rw[aw (d:=g7) rfl rfl];have h1:0<=c % 2305843009213693951:=JT _ (by decide);have h2:c % 2305843009213693951<2305843009213693951:=JN _ (by decide);have h3:(-18446744073709551616<c % 2305843009213693951/\c % 2305843009213693951<18446744073709551616\/-18446744073709551616<b/\b<18446744073709551616):=.inl ⟨by omega,by omega⟩;exact cM ((g8 ((g8 ((g8 rfl rfl).trans rfl) rfl).trans (show gL .mul (.int (c % 2305843009213693951)) (.int b)=some (.int (c % 2305843009213693951*b))from if_pos h3)) rfl).trans rfl)
noncomputable def af (b:Bool):PySem.Str:=if b=true then "moth" else "weaver"
def skip{cal:Cal}{i:Nat}{x y:PySem.Str}{G:Rho}{a:List MS}(hi:(G[i]?).join=sv (.str x))(h:(x==y)=false):ex cal (.ite (.cmp .eq (.bor i) (.cst (.str y))) a []) G=.next G:=by
 rw[ex,zf (b:=false) ((cA (x:=.str x) (by rw[ev,hi];rfl) (bu _ _ _)).trans (by rw[tq,k8,h];rfl)),fm,if_neg (by decide),exs]
noncomputable def EQ:Option Int->PV
 |none=>.non
 |some i=>.int i
def Bn(x h:Int):(x==h)=decide (x=h):=rfl
noncomputable def drp(h:Int)(q:List Int):List Int:=q.filter λx=>!decide (x=h)
noncomputable def wk(h:Int)(R:LL):LL:=sortT (R.map (drp h))
def zi(g:rl q):rl (drp h q):=⟨g.1.filter _,λx hx=>g.2 x (IV.mp hx).1⟩
def wl{R:LL}(g:cU R):cU (wk h R):=by
 refine⟨λD hm=>?_,sortT_rises _,by unfold wk;rw[sortT_len,ox];exact g.2.2⟩;refine ae (mem_map.mp (b8.mp hm)) λt ht q=>?_
 subst q;exact zi (g.1 t ht)
def kN(n:Nat)(q:List Int)(h:Int)(hl:q.length<=10000):ac defs (n+1) 5 [.val (ofS q),.val (.int h)]=some (ofS (drp h q)):=by
 rw[aw (d:=d_) rfl rfl];exact cM ((aD (mM (xs:=q) (g:=.int) (h:=.int) (p:=λx=>!decide (x=h)) rfl rfl hl (λ_ _=>rfl) λ_ _ _=>rfl)).trans rfl)
def wm(n:Nat)(R:LL)(h:Int)(g:cU R):ac defs (n+2) 6 [.val (ofR R),.val (.int h)]=some (ofR (wk h R)):=by
 rw[aw (d:=jX) rfl rfl];have q:(R.map (drp h)).length<64:=by rw[ox];exact Jc g.2.2 (by decide)
 have e:=jW q;rw[IZ]at e;have e:aE .sorted [.lst (R.map (ofS∘drp h))]=some (.lst ((wk h R).map ofS)):=e;exact cM ((aD ((aD (br (xs:=R) (g:=ofS) (h:=ofS∘drp h) rfl rfl (IK g.2.2 (by decide)) λc hc=>bb rfl (kN n c h (IK (wg (g.1 c hc)) (by decide))))).trans e)).trans rfl)
noncomputable def Bo(h:Int)(R:LL):LL:=R.filter λq=>!decide (h∈q)
def wn{R:LL}(g:cU R):cU (Bo h R):=⟨λq hm=>g.1 q (IV.mp hm).1,g.2.1.filter _,IK (K4 _ _) g.2.2⟩
def zj(n:Nat)(R:LL)(h:Int)(hl:R.length<=10000):ac defs (n+1) 7 [.val (ofR R),.val (.int h)]=some (ofR (Bo h R)):=by
 rw[aw (d:=mK) rfl rfl];exact cM ((aD (mM (xs:=R) (g:=ofS) (h:=ofS) (p:=λq=>!decide (h∈q)) rfl rfl hl (λq _=>zh (cD h q) rfl rfl rfl) λ_ _ _=>rfl)).trans rfl)
noncomputable def bhd(h:Bool)(R:LL):Option Int->LL
 |none=>R
 |some k=>if h=true then Bo k R else wk k R
def zk{R:LL}(g:cU R)(r):cU (bhd h R r):=by
 cases r<;>first|exact g|cases h with|true=>exact wn g|false=>exact wl g
def Bp(n:Nat)(h:Bool):ac defs (n+1) 12 [.val (.str (af h))]=some (.str (af (!h))):=by
 rw[aw (d:=gn) rfl rfl];cases h<;>rfl
def zl(n:Nat)(R:LL)(g:cU R)(h:Bool)(r:Option Int):ac defs (n+3) 13 [.val (ofR R),.val (.str (af h)),.val (EQ r)]=some (ofR (bhd h R r)):=by
 rw[aw (d:=mL) rfl rfl];cases r with
 |none=>rfl
 |some k =>
  have q:=wm n R k g;have D:=λn=>zj n R k (by have:=g.2.2;omega)
  cases h with
  |false=>exact rn rfl (cM (EN rfl (bb (vs:=[.val (ofR R),.val (.int k)]) rfl q)))
  |true=>exact rn rfl (cM (EO rfl (bb (vs:=[.val (ofR R),.val (.int k)]) rfl (D _))))
def tz(n:Nat)(R:LL):ac defs (n+1) 8 [.val (ofR R)]=some (.bl (decide ([]∈R))):=by
 rw[aw (d:=iK) rfl rfl];exact cM (Iy (yU [] R) rfl rfl)
def wo(n:Nat)(R:LL):ac defs (n+1) 9 [.val (ofR R)]=some (.bl (decide (R=[]))):=by
 rw[aw (d:=jY) rfl rfl];cases R with
 |nil=>rfl
 |cons t R =>
  have:¬ ((R.length:Int)+1=0):=by omega
  rw[IQ (cons_ne_nil t R)];exact cM (Bm (Jf.mpr (by rw[ox,length_cons];exact this)) rfl)
def ju{h x:Int}{q:List Int}:x∈drp h q ↔ x∈q/\x≠h:=by
 unfold drp;rw[IV];simp
noncomputable def wp(R:LL)(d:Bool×Int):LL:=if d.1 then wk d.2 R else Bo d.2 R
def wq{R:LL}{d:Bool×Int}:∀q∈wp R d,d.2∉q:=by
 intro q h;unfold wp at h;split at h
 .obtain⟨t,_,rfl⟩:=mem_map.mp (b8.mp h);exact λz=>(ju.mp z).2 rfl
 .have:=(IV.mp h).2;simpa using this
def tD{R:LL}{d:Bool×Int}{x:Int}(h:∀q∈R,x∉q):∀q∈wp R d,x∉q:=by
 intro q hm;unfold wp at hm;split at hm
 .obtain⟨t,ht,rfl⟩:=mem_map.mp (b8.mp hm);exact λz=>h t ht (ju.mp z).1
 .exact h q (IV.mp hm).1
noncomputable def hat(o:Bool)(k:Nat):Bool:=if k % 2=0 then o else !o
noncomputable def lft(o:Bool):Nat->LL->List Int->LL
 | _,R,[]=>R
 |k,R,h::t=>lft o (k+1) (bhd (hat o k) R (some h)) t
def rp(b:Bool)(R:LL)(h:Int):bhd b R (some h)=wp R (!b,h):=by cases b<;>rfl
theorem rq(o:Bool){R:LL}:∀(t:List Int) (k:Nat) (R:LL) (x:Int),((∀q∈R,x∉q)\/x∈t)->∀q∈lft o k R t,x∉q
 | [],k,R,x,h=>h.elim id λz=>by cases z
 |y::t,k,R,x,h=>by
  rw[lft,rp];refine rq (R:=R) o t (k+1) _ x ?_;rcases h with h|h
  .exact .inl (tD h)
  .rcases rb.mp h with rfl|h
   .exact .inl (wq (d:=(!hat o k,x)))
   .exact .inr h
theorem u8(o:Bool){P:Int->Prop}:∀(t:List Int) (k:Nat) (R:LL),(∀D∈R,∀x∈D,P x)->∀D∈lft o k R t,∀x∈D,P x
 | [],k,R,h=>h
 |y::t,k,R,h=>by
  rw[lft,rp];refine u8 o t (k+1) _ λD q x hx=>?_
  unfold wp at q;split at q
  .obtain⟨s,J,rfl⟩:=mem_map.mp (b8.mp q);exact h s J x (ju.mp hx).1
  .exact h D (IV.mp q).1 x hx
noncomputable def dC (R:LL):Sc:=if []∈R then .str "weaver" else if R=[]then .str "moth" else .non
def oj(n:Nat)(c r:PV)(xs:List PV)(o:Bool)(k:Nat):ac defs (n+2) 28 [.brwO [c,r,.str (af o)] xs,.val (.int (k:Nat))]=some (.str (af (hat o k))):=by
 rw[aw (d:=cn) rfl rfl];have q:=Bp n o;by_cases h:k % 2=0
 .have h':((k:Int) % 2==0)=true:=by rw[IU];omega
  simp[cn,exs,ex,ev,evs,evB,evA,gQ,h',hat,h]
 .have h':((k:Int) % 2==0)=false:=by rw[Jf];omega
  simp[cn,exs,ex,ev,evs,evB,evA,gQ,h',hat,h,q]
theorem ol(n:Nat)(c r:PV)(xs:List PV)(o:Bool):∀(t:List Int) (k:Nat) (R:LL) (p h:Option MV),cU R ->
  ∃J h',aT (λx C=>eF (gS [2,3] x C) λD=>exs (ac defs (n+3)) dj D) (b7 k (t.map .int)) [some (.brwO [c,r,.str (af o)] xs),sv (ofR R),p,h]
  =.next [some (.brwO [c,r,.str (af o)] xs),sv (ofR (lft o k R t)),J,h']
 | [],k,R,p,h,_=>⟨p,h,rfl⟩
 |x::t,k,R,p,h,g=>by
  have U:=oj (n+1) c r xs o k;have Y:=zl n R g (hat o k) (some x);have e:(eF (gS [2,3] (.tup [.int (k:Nat),.int x]) [some (.brwO [c,r,.str (af o)] xs),sv (ofR R),p,h]) λD=>exs (ac defs (n+3)) dj D)
   =.next [some (.brwO [c,r,.str (af o)] xs),sv (ofR (bhd (hat o k) R (some x))),sv (.int (k:Nat)),sv (.int x)]:=by
   simp[gS,sF,dj,exs,ex,ev,evs,evA,gQ,U,<- EQ.eq_def,show PV.int x=EQ (some x)from rfl,Y]
  rw[IT,b7,cB e];obtain⟨J,h',q⟩:=ol n c r xs o t (k+1) _ (sv (.int (k:Nat))) (sv (.int x)) (zk g (some x));exact⟨J,h',q⟩
noncomputable abbrev tbl(c:Int)(R:LL)(o:Bool):List PV:=[.int c,ofR R,.str (af o)]
def zm(n:Nat)(c:Int)(R:LL)(o:Bool)(t:List Int)(g:cU R):ac defs (n+4) 32 [.brwO (tbl c R o) (t.map .int)]=some (ofR (lft o 0 R t)):=by
 rw[aw (d:=eQ) rfl rfl];obtain⟨q,h',e⟩:=ol n (.int c) (ofR R) (t.map .int) o t 0 R none none g;simp[eQ,exs,ex,ev,evs,evB,evA,gQ,nM,cm,bD,e,bh]
def jv(n:Nat)(c:Int)(R:LL)(o:Bool)(t:List Int)(g:cU R):ac defs (n+5) 33 [.brwO (tbl c R o) (t.map .int)]=some (dC (lft o 0 R t)).pv:=by
 rw[aw (d:=b9) rfl rfl];have q:=zm n c R o t g;generalize lft o 0 R t=L at q;have D:=tz (n+3) L;have J:=wo (n+3) L;unfold dC;by_cases h:[]∈L
 .simp[b9,exs,ex,ev,evs,evB,evA,gQ,q,D,h,Sc.pv]
 .by_cases h2:L=[]
  .subst h2;simp[b9,exs,ex,ev,evs,evB,evA,gQ,q,D,J,Sc.pv]
  .simp[b9,exs,ex,ev,evs,evB,evA,gQ,q,D,J,h,h2,Sc.pv]
def Bq(n:Nat)(h c:Int):ac defs (n+1) 1 [.val (.int h),.val (.int c)]=some (.bl (decide (0<=h)&&decide (h<c))):=by
 rw[aw (d:=aZ) rfl rfl];by_cases q:0<=h
 .simp[aZ,exs,ex,ev,evs,evB,q]
 .simp[aZ,exs,ex,ev,evs,evB,q]
def zn(n:Nat)(c:Int)(R:LL)(o:Bool)(t:List Int)(h:Int)(g:cU R)(hw:dC (lft o 0 R t)=.non)(h0:0<=h)(h1:h<c)(hn:h∉t)(hl:t.length<10000) :
  ac defs (n+6) (34+3000) [.ownO true (tbl c R o) (t.map .int),.val (.int h)]=some (.tup [(dC (lft o 0 R (t++[h]))).pv,.lst ((t++[h]).map .int)]):=by
 rw[wf (d:=eR) (by decide) rfl rfl rfl];have D:=jv n c R o t g;have U:=Bq (n+4) h c;have q:=jv n c R o (t++[h]) g;have Y:(t++[h]).map PV.int=t.map PV.int++[PV.int h]:=by simp
 rw[hw,show Sc.non.pv=PV.non from rfl]at D;rw[Y]at q ⊢;have J:sc? (dC (lft o 0 R (t++[h]))).pv=some (dC (lft o 0 R (t++[h]))):=by
  unfold dC;split
  .rfl
  .split<;>rfl
 generalize dC (lft o 0 R (t++[h]))=w at q J;simp[eR,exs,ex,ev,evs,evB,evA,gQ,BU,D,U,h0,h1,cD,hn,hl,q,J,gM,Ev,vY,MM.R.andThen]
theorem rA(g:Array Nat)(a:Array Nat):∀(xs:List Str) (b:Array Nat),xs.foldl (λacc p=>acc++g++p.cps) (a++b)=a++xs.foldl (λacc p=>acc++g++p.cps) b
 | [],b=>rfl
 |x::xs,b=>by
  rw[foldl_cons,foldl_cons,show a++b++g++x.cps=a++(b++g++x.cps)by simp only[Array.append_assoc],rA g a xs]
def rB (w x:Str) (xs:List Str):Builtin.Str.glued (" ":Str) (w::x::xs)=(w++(" ":Str))++Builtin.Str.glued (" ":Str) (x::xs):=by
 have h:=rA (" ":Str).cps (w.cps++(" ":Str).cps) xs x.cps;show Str.mk _=Str.mk _;exact JP Str.mk h
noncomputable def aW (w:Str) (ws:List Str):Str:=Builtin.Str.glued (" ":Str) (w::ws)
def zo (w x:Str):aW w [x]=(w++(" ":Str))++x:=rB w x []
theorem zp:∀ws:List Str,i5 (ws.map .str)=some ws
 | []=>rfl
 |w::ws=>by rw[IT,i5,zp ws];rfl
theorem zq{b:Nat}{x:Str}:∀{ws:List Str},(∀w∈ws,w.length<=b)->(ws.map λy=>y.length+x.length).sum<=(b+x.length)*ws.length
 | [],_=>pd _
 |w::ws,h=>by
  have h1:=h w (.head _);have h2:=zq (x:=x) (ws:=ws) λy q=>h y (.tail _ q)
  rw[IT,sum_cons,length_cons,Nat.mul_succ];omega
def pP{x:Str}{ws:List Str}{b:Nat}(h:∀w∈ws,w.length<=b)(q:(b+x.length)*ws.length<=1000000):xO x (.lst (ws.map .str))=some (.str (Builtin.Str.glued x ws)):=by
 show(i5 (ws.map .str)).bind _=_;rw[zp,bind_some];exact if_pos (IK (zq h) q)
def pQ{x:Str}{ws:List Str}{b:Nat}(h:∀w∈ws,w.length<=b):(Builtin.Str.glued x ws).length<=(b+x.length)*ws.length:=IK (L2.qC x ws) (zq h)
def s60{i:Int}(h:0<=i/\i<=60):aE .strOf [.int i]=some (.str (ay i))/\(ay i).length<=6:=by
 refine⟨if_pos (by omega),?_⟩;have q:∀n:Fin 61,(ay (n.val:Int)).length<=6:=by decide
 have:=q ⟨i.toNat,by omega⟩;rwa[show((i.toNat:Nat):Int)=i by omega]at this
def pR(o:Bool):(af o).length<=6:=by cases o<;>decide
def u9{α:Type}(n:Nat)(w:Str)(v:PV)(xs:List α)(f:α->PV)(g:α->Str)(J:bq v=some (xs.map f))(D:∀x∈xs,aE .strOf [f x]=some (.str (g x))/\(g x).length<=6)(hl:xs.length<=60)(hw:w.length<=6) :
  ac defs (n+1) 14 [.val (.str w),.val v]=some (.str (aW w (xs.map g))):=by
 rw[aw (d:=fO) rfl rfl];have U:ev (ac defs n) (.comp .seq [.bor 1] [] (.cst (.bl true)) (.blt .strOf [.bor 0])) [sv (.str w),sv v]=some (.lst (xs.map λx=>.str (g x))):=by
  refine br (vs:=[v]) (xs:=xs) (g:=f) (by simp[evs,ev]) (by simp[cm,J]) (by omega) λx hx=>?_
  rw[aD (v:=f x) (by simp[ev,cW]),(D x hx).1]
 have Y:ev (ac defs n) (.lst [.var 0]) [sv (.str w),sv v]=some (.lst [.str w]):=by simp[ev,evs]
 have Z:ev (ac defs n) (.bin .add (.lst [.var 0]) (.comp .seq [.bor 1] [] (.cst (.bl true)) (.blt .strOf [.bor 0]))) [sv (.str w),sv v]=some (.lst ((w::xs.map g).map .str)):=by
  rw[ev,Y,bind_some,U,bind_some];show(if _ then _ else _)=_;rw[if_pos (by rw[ox,length_singleton];omega),IT,IZ]
  rfl
 show bG (exs _ [.ret _] [sv (.str w),sv v])=_;refine cM ?_;rw[ev,Z,bind_some];refine pP (b:=6) (λy q=>?_) ?_
 .rcases rb.mp q with rfl|q
  .exact hw
  .obtain⟨x,hx,rfl⟩:=mem_map.mp q;exact(D x hx).2
 .rw[length_cons,ox,show(" ":Str).length=1 from rfl];omega
def u_{α:Type}{w:Str}{xs:List α}{g:α->Str}(D:∀x∈xs,(g x).length<=6)(hl:xs.length<=60)(hw:w.length<=6):(aW w (xs.map g)).length<=427:=by
 refine IK (pQ (b:=6) (x:=(" ":Str)) (ws:=w::xs.map g) λy q=>?_) ?_
 .rcases rb.mp q with rfl|q
  .exact hw
  .obtain⟨x,hx,rfl⟩:=mem_map.mp q;exact D x hx
 .rw[length_cons,ox,show(" ":Str).length=1 from rfl];omega
def om{cal:Cal}{i:Nat}{e:ME}{G:Rho}{xs ys:List PV}(h:ev cal e G=some (.lst ys))(hi:(G[i]?).join=some (.own xs))(hl:xs.length+ys.length<=10000):ex cal (.extend i e) G=.next (put G i (.own (xs++ys))):=by
 rw[ex,h];show(match (G[i]?).join,some ys with|some (.own xs),some ys=>_|_,_=>_)=_;rw[hi];exact if_pos hl
def eV{cal:Cal}{i:Nat}{e:ME}{G:Rho}{xs:List PV}{v:PV}(h:ev cal e G=some v)(hi:(G[i]?).join=some (.own xs))(hl:xs.length<10000):ex cal (.append i e) G=.next (put G i (.own (xs++[v]))):=by
 rw[ex,h];show(match (G[i]?).join with|some (.own xs)=>_|_=>_)=_;rw[hi];exact if_pos hl
noncomputable def dk (c:Int) (R:LL) (o:Bool) (t:List Int):List Str:=aW "holes" [ay c]::(R.map λs=>aW "ribbon" (s.map ay))++aW "first" [af o]::t.map λh=>aW "take" [ay h]
def ER{c:Int}{R:LL}{o:Bool}{t:List Int}(hc:0<=c/\c<=60)(hR:∀s∈R,s.length<=60/\∀x∈s,0<=x/\x<=60)(ht:∀x∈t,0<=x/\x<=60):∀w∈dk c R o t,w.length<=427:=λw hw=>by
 rcases Kq.mp hw with hw|hw
 .rcases rb.mp hw with rfl|hw
  .exact u_ (xs:=[c]) (g:=ay) (λx hx=>by rw[IS.mp hx];exact(s60 hc).2) (show 1<=60 by decide) (by decide)
  .obtain⟨s,q,rfl⟩:=mem_map.mp hw;exact u_ (λx hx=>(s60 ((hR s q).2 x hx)).2) (hR s q).1 (by decide)
 .rcases rb.mp hw with rfl|hw
  .exact u_ (xs:=[o]) (g:=af) (λx _=>pR x) (show 1<=60 by decide) (by decide)
  .obtain⟨h,D,rfl⟩:=mem_map.mp hw;exact u_ (xs:=[h]) (g:=ay) (λx hx=>by rw[IS.mp hx];exact(s60 (ht h D)).2) (show 1<=60 by decide) (by decide)
noncomputable def cv (c:Int) (R:LL) (o:Bool) (t:List Int):Str:=Builtin.Str.glued ("\n":Str) (dk c R o t)
def j0 {c:Int}{R:LL}{o:Bool}{t:List Int} (hc:0<=c/\c<=60) (hR:∀s∈R,s.length<=60/\∀x∈s,0<=x/\x<=60) (ht:∀x∈t,0<=x/\x<=60) (hl:R.length<=60) (q:t.length<=60):xO "\n" (.lst ((dk c R o t).map .str))=some (.str (cv c R o t)):=by
 refine pP (ER hc hR ht) ?_;rw[dk,I0,length_cons,length_cons,ox,ox,show("\n":Str).length=1 from rfl];omega
def va(n:Nat)(fs:List PV)(t:List Int)(hl:t.length<=60):ac defs (n+1) 30 [.brwO fs (t.map .int)]=some (ofL t):=by
 rw[aw (d:=dM) rfl rfl];simp[dM,exs,ex,ev,evs,nM]
def ES(n:Nat)(c:Int)(R:LL)(o:Bool)(t:List Int)(hc:0<=c/\c<=60)(hR:∀s∈R,s.length<=60/\∀x∈s,0<=x/\x<=60)(ht:∀x∈t,0<=x/\x<=60)(hl:R.length<=60)(q:t.length<=60) :
  ac defs (n+2) 15 [.brwO (tbl c R o) (t.map .int)]=some (.str (cv c R o t)):=by
 rw[aw (d:=fu) rfl rfl];have U:=u9 n "holes" (.lst [.int c]) [c] PV.int ay rfl (λx hx=>by rw[IS.mp hx];exact s60 hc) (show 1<=60 by decide) (by decide);have Y:∀s∈R,ac defs (n+1) 14 [.val (.str "ribbon"),.val (ofS s)]=some (.str (aW "ribbon" (s.map ay))):=λs D=>u9 n "ribbon" (ofS s) s PV.int ay rfl (λx hx=>s60 ((hR s D).2 x hx)) (hR s D).1 (by decide)
 have Z:=u9 n "first" (.lst [.str (af o)]) [o] (λo=>.str (af o)) af rfl (λx _=>⟨rfl,pR x⟩) (show 1<=60 by decide) (by decide);have e4:∀h∈t,ac defs (n+1) 14 [.val (.str "take"),.val (.lst [.int h])]=some (.str (aW "take" [ay h])):=λh J=>u9 n "take" (.lst [.int h]) [h] PV.int ay rfl (λx hx=>by rw[IS.mp hx];exact s60 (ht h J)) (show 1<=60 by decide) (by decide)
 have e5:=va n (tbl c R o) t q;have f2:∀m,ev (ac defs (n+1)) (.comp .seq [.fld 0 1] [] (.cst (.bl true)) (.call 14 [(cs "ribbon"),.bor 0])) [some (.brwO (tbl c R o) (t.map .int)),m]=some (.lst (R.map λs=>.str (aW "ribbon" (s.map ay)))):=λm=>by
  refine br (vs:=[ofR R]) (xs:=R) (g:=ofS) (by simp[evs,ev,gQ]) rfl (by omega) λs D=>?_
  simp[ev,evA,cW,cR,Y s D]
 have f4:∀m,ev (ac defs (n+1)) (.comp .seq [(.callM 30 0 [])] [] (.cst (.bl true)) (.call 14 [(cs "take"),(.lst [.var 0])])) [some (.brwO (tbl c R o) (t.map .int)),m]=some (.lst (t.map λh=>.str (aW "take" [ay h]))):=λm=>by
  refine br (vs:=[ofL t]) (xs:=t) (g:=PV.int) (by simp[evs,ev,evA,gQ,e5]) rfl (by omega) λh J=>?_
  simp[ev,evs,evA,cW,cR,e4 h J]
 show bG (exs _ [.setOwn 1 _,.extend 1 _,.append 1 _,.extend 1 _,.ret _] [some (.brwO (tbl c R o) (t.map .int)),none])=_;refine bV (C:=[some (.brwO (tbl c R o) (t.map .int)),some (.own [.str (aW "holes" [ay c])])]) ?_ ?_
 .rw[eU (xs:=[.str (aW "holes" [ay c])])]
  .simp only[bj,bi]
  .simp[ev,evs,evA,gQ,U]
 refine bV (C:=[some (.brwO (tbl c R o) (t.map .int)),some (.own (.str (aW "holes" [ay c])::R.map λs=>.str (aW "ribbon" (s.map ay))))]) ?_ ?_
 .rw[om (f2 _) rfl (by rw[ox,length_singleton];omega)]
  rfl
 refine bV (C:=[some (.brwO (tbl c R o) (t.map .int)),some (.own ((.str (aW "holes" [ay c])::R.map λs=>.str (aW "ribbon" (s.map ay)))++[.str (aW "first" [af o])]))]) ?_ ?_
 .rw[eV (v:=.str (aW "first" [af o])) (by simp[ev,evs,evA,gQ,Z]) rfl (by rw[length_cons,ox];omega)]
  rfl
 refine bV (C:=[some (.brwO (tbl c R o) (t.map .int)),some (.own ((dk c R o t).map .str))]) ?_ ?_
 .rw[om (f4 _) rfl (by rw[I0,length_cons,ox,ox,length_singleton];omega)];simp[dk,bj,bi,Function.comp_def]
 refine cM ?_;rw[ev,show ev (ac defs (n+1)) (.bor 1) [some (.brwO (tbl c R o) (t.map .int)),some (.own ((dk c R o t).map .str))]=some (.lst ((dk c R o t).map .str))from by simp[ev],bind_some];exact j0 hc hR ht hl q
def ET:∀(x:List Int) (R:LL),kB ((x::R).map ofL)=none:=λ_ _=>rfl
def EU:∀(x:List Int) (R:LL),bO ((x::R).map ofL)=none:=λ_ _=>rfl
theorem zr:∀(R:LL),fC (R.map ofL)=some R
 | []=>rfl
 |x::R=>by
  rw[IT];show(bO (x.map PV.int)).bind (λx=>(fC (R.map ofL)).map (x::·))=_;rw[zr R,bJ]
  rfl
def wt{R:LL}(h:R.length<64):d7 (R.map ofL)=some (.lst ((sortT R).map ofL)):=by
 cases R with
 |nil=>rfl
 |cons x R =>
  unfold d7;rw[if_pos (by rw[ox];exact h),EU,ET,zr]
  rfl
theorem j8(cal:Cal)(a b c d:Option MV)(h0:Option MV):∀(R:LL) (q:List Str) (D:Option MV),(∀s∈R,s≠[]/\s.length<=60/\∀x∈s,0<=x/\x<=60)->q.length+R.length<10000 ->
  ∃s',aT (λx C=>exs cal bQ (put C 5 (.val x))) (R.map ofL) [a,b,c,d,some (.own (q.map .str)),D,h0]=.next [a,b,c,d,some (.own ((q++R.map λs=>aW "ribbon" (s.map ay)).map .str)),s',h0]
 | [],q,D,_,_=>⟨D,by simp⟩
 |s::R,q,D,Y,hl=>by
  obtain⟨Z,g2,J⟩:=Y s (.head _);rw[length_cons]at hl;have e1:ev cal (.comp .seq [.bor 5] [] (.cst (.bl true)) (.blt .strOf [.bor 0])) [a,b,c,d,some (.own (q.map .str)),sv (ofL s),h0]=some (.lst (s.map λi=>.str (ay i))):=by
   refine br (vs:=[ofL s]) (xs:=s) (g:=PV.int) (by simp[evs,ev]) rfl (by omega) λi hi=>?_
   rw[aD (v:=.int i) (by simp[ev,cW]),(s60 (J i hi)).1]
  have e2:ev cal (.join " " (.comp .seq [.bor 5] [] (.cst (.bl true)) (.blt .strOf [.bor 0]))) [a,b,c,d,some (.own (q.map .str)),sv (ofL s),h0]=some (.str (Builtin.Str.glued (" ":Str) (s.map ay))):=by
   rw[ev,e1,bind_some,show(s.map λi=>PV.str (ay i))=(s.map ay).map .str by rw[IZ];rfl];refine pP (b:=6) (λy U=>?_) ?_
   .obtain⟨x,hx,rfl⟩:=mem_map.mp U;exact(s60 (J x hx)).2
   .rw[ox,show(" ":Str).length=1 from rfl];omega
  have hT:(("ribbon ":Str)++Builtin.Str.glued (" ":Str) (s.map ay))=aW "ribbon" (s.map ay):=by
   cases s with
   |nil=>exact absurd rfl Z
   |cons x s=>rw[IT,aW,rB];rfl
  have hb:(Builtin.Str.glued (" ":Str) (s.map ay)).length<=420:=by
   refine IK (pQ (b:=6) (x:=(" ":Str)) (ws:=s.map ay) λy U=>?_) ?_
   .obtain⟨x,hx,rfl⟩:=mem_map.mp U;exact(s60 (J x hx)).2
   .rw[ox,show(" ":Str).length=1 from rfl];omega
  have e3:ev cal (.bin .add (.cst (.str "ribbon ")) (.join " " (.comp .seq [.bor 5] [] (.cst (.bl true)) (.blt .strOf [.bor 0])))) [a,b,c,d,some (.own (q.map .str)),sv (ofL s),h0]=some (.str (aW "ribbon" (s.map ay))):=by
   rw[ev,bu,bind_some,e2,bind_some];show(if _ then _ else _)=_;rw[if_pos (by rw[show("ribbon ":Str).length=7 from rfl];omega),hT]
  have e:exs cal bQ (put [a,b,c,d,some (.own (q.map .str)),D,h0] 5 (.val (ofL s)))=.next [a,b,c,d,some (.own ((q++[aW "ribbon" (s.map ay)]).map .str)),sv (ofL s),h0]:=by
   simp only[bj,bi,bQ];refine g9 ?_;rw[eV e3 rfl (by rw[ox];omega),Js]
   rfl
  obtain⟨s',e4⟩:=j8 cal a b c d h0 R (q++[aW "ribbon" (s.map ay)]) (sv (ofL s)) (λu hu=>Y u (.tail _ hu)) (by rw[I0,length_singleton];omega);refine⟨s',?_⟩;rw[IT,cB e,e4,IT,KN]
  rfl
theorem iP(cal:Cal)(a b c d s:Option MV):∀(t:List Int) (q:List Str) (h0:Option MV),(∀x∈t,0<=x/\x<=60)->q.length+t.length<10000 ->
  ∃h',aT (λx C=>exs cal bS (put C 6 (.val x))) (t.map .int) [a,b,c,d,some (.own (q.map .str)),s,h0]=.next [a,b,c,d,some (.own ((q++t.map λh=>aW "take" [ay h]).map .str)),s,h']
 | [],q,h0,_,_=>⟨h0,by simp⟩
 |h::t,q,h0,D,hl=>by
  obtain⟨J,g2⟩:=s60 (D h (.head _));rw[length_cons]at hl;have U:ev cal (.bin .add (.cst (.str "take ")) (.blt .strOf [.bor 6])) [a,b,c,d,some (.own (q.map .str)),s,sv (.int h)]=some (.str (aW "take" [ay h])):=by
   rw[ev,bu,bind_some,aD (v:=.int h) (by simp[ev]),J,bind_some];show(if _ then _ else _)=_;rw[if_pos (by rw[show("take ":Str).length=5 from rfl];omega),zo]
   rfl
  have e:exs cal bS (put [a,b,c,d,some (.own (q.map .str)),s,h0] 6 (.val (.int h)))=.next [a,b,c,d,some (.own ((q++[aW "take" [ay h]]).map .str)),s,sv (.int h)]:=by
   simp only[bj,bi,bS];refine g9 ?_;rw[eV U rfl (by rw[ox];omega),Js]
   rfl
  obtain⟨s',Y⟩:=iP cal a b c d s t (q++[aW "take" [ay h]]) (sv (.int h)) (λu Z=>D u (.tail _ Z)) (by rw[I0,length_singleton];omega);refine⟨s',?_⟩;rw[IT,cB e,Y,IT,KN]
  rfl
theorem G1{c:Nat}:∀{a b p q:List Nat},c∉a->c∉b->a++c::p=b++c::q->a=b/\p=q
 | [],[],_,_,_,_,h=>by cases h;exact⟨rfl,rfl⟩
 | [],y::b,_,_,_,D,h=>by
  cases h;exact absurd (.head _) D
 |x::a,[],_,_,J,_,h=>by
  cases h;exact absurd (.head _) J
 |x::a,y::b,p,q,J,D,h=>by
  obtain⟨e,h'⟩:=Kv h;obtain⟨U,Y⟩:=G1 (λz=>J (.tail _ z)) (λz=>D (.tail _ z)) h';exact⟨by rw[e,U],Y⟩
def rC(c:Nat)(x y:Str)(r:List Str):(Str.join ⟨#[c]⟩ (x::y::r)).cps.toList=x.cps.toList++c::(Str.join ⟨#[c]⟩ (y::r)).cps.toList:=by
 show((x.cps ++ #[c])++(Str.join ⟨#[c]⟩ (y::r)).cps).toList=_;simp
def pS{x y:Str}(h:x.cps.toList=y.cps.toList):x=y:=by
 cases x;cases y
 congr 1
 exact Array.toList_inj.mp h
theorem mN{c:Nat}:∀{us vs:List Str},us≠[]->vs≠[]->(∀u∈us,c∉u.cps.toList)->(∀v∈vs,c∉v.cps.toList)->(Str.join ⟨#[c]⟩ us).cps.toList=(Str.join ⟨#[c]⟩ vs).cps.toList->us=vs
 | [],_,h,_,_,_,_=>absurd rfl h
 | _,[],_,h,_,_,_=>absurd rfl h
 | [x],[y],_,_,_,_,h=>by
  have h:x.cps.toList=y.cps.toList:=h;rw[pS h]
 | [x],y::z::r,_,_,hx,_,h=>by
  rw[rC]at h;have h:x.cps.toList=_:=h;exact absurd (by rw[h];simp) (hx x (.head _))
 |y::z::r,[x],_,_,_,hx,h=>by
  rw[rC]at h;have h:_=x.cps.toList:=h;exact absurd (by rw[<- h];simp) (hx x (.head _))
 |x::U::r,y::Y::q,_,_,hx,J,h=>by
  rw[rC,rC]at h;obtain⟨h1,h2⟩:=G1 (hx x (.head _)) (J y (.head _)) h;have h3:=mN (us:=U::r) (vs:=Y::q) (λz=>nomatch z) (λz=>nomatch z) (λu D=>hx u (.tail _ D)) (λu D=>J u (.tail _ D)) h2;rw[pS h1,h3]
def rD {ws:List Str} (hn:ws≠[]) (h:∀w∈ws,32∉w.cps.toList):Txt.split (Builtin.Str.glued " " ws) (" ":Str)=ws:=by
 have q:(" ":Str)=⟨#[32]⟩:=by decide
 rw[PySem.StrLaws.glued_eq_join,q];refine mN (c:=32) (λz=>?_) hn (PySem.StrLaws.split_free _ 32) h (by rw[PySem.StrLaws.join_split]);have e:=PySem.StrLaws.join_split (Str.join ⟨#[32]⟩ ws) ⟨#[32]⟩;rw[z]at e;rw[<- e]at z;revert z
 decide
noncomputable def eJ(r:List Int):List Int:=sortI (dd r)
noncomputable def tG(R:LL):LL:=sortT (R.map eJ)
def dd_len(r:List Int)(h:∀x∈r,0<=x/\x<=59):(dd r).length<=60:=tw 60 (dd r) (dd_nodup r) λx hx=>by have:=h x (zb.mp hx);omega
def tH{r:List Int}(h:∀x∈r,0<=x/\x<=59):rl (eJ r):=⟨za (dd_nodup r),λx hx=>h x (zb.mp (bp.mp hx))⟩
def rE{R:LL}(h:∀r∈R,∀x∈r,0<=x/\x<=59)(hl:R.length<=60):cU (tG R):=by
 refine⟨λD q=>?_,sortT_rises _,by unfold tG;rw[sortT_len,ox];exact hl⟩;obtain⟨r,hr,rfl⟩:=mem_map.mp (b8.mp q);exact tH (h r hr)
def tI(n:Nat)(i b:Int)(h:0<=i/\i<b):ac defs (n+1) 1 [.val (.int i),.val (.int b)]=some (.bl true):=by
 rw[aw (d:=aZ) rfl rfl];simp[aZ,exs,ex,ev,evs,evB,h.1,h.2]
theorem gB(n:Nat)(a:MV):∀(r:List Int) (kk:Option MV),(∀x∈r,0<=x/\x<=59) ->
  ∃q,aT (λx C=>exs (ac defs (n+1)) dh (put C 1 (.val x))) (r.map .int) [some a,kk]=.next [some a,q]
 | [],kk,_=>⟨kk,rfl⟩
 |t::r,kk,h=>by
  rw[IT,aT];have e:exs (ac defs (n+1)) dh (put [some a,kk] 1 (.val (.int t)))=.next [some a,sv (.int t)]:=by
   simp[dh,exs,ex,ev,evB,evA,tI n t 60 ⟨(h t (.head _)).1,by have:=(h t (.head _)).2;omega⟩]
  rw[e];exact gB n a r _ λx hx=>h x (.tail _ hx)
def pU(n:Nat)(p:PV)(r:List Int)(D:p=ofL r\/p=ofS r)(h:∀x∈r,0<=x/\x<=59)(hl:r.length<=1000):ac defs (n+2) 3 [.val p]=some (ofS (eJ r)):=by
 rw[aw (d:=eO) rfl rfl];obtain⟨J,e⟩:=gB n (.val p) r none h;have hd:(dd r).length<64:=by have:=dd_len r h;omega
 have q:r.length<=4000:=by omega
 rcases D with rfl|rfl<;>simp[eO,exs,ex,ev,evs,evB,bD,e,bh,bJ,hl,q,hd,eJ]
noncomputable def shp(x:Str):Bool:=match x.cps.toList with
 | [c]=>decide (48<=c/\c<=57)
 | [c,d]=>decide (49<=c/\c<=57/\48<=d/\d<=57)
 | _=>false
def Br:∀n:Fin 61,shp (ay (n.val:Int))=true:=by decide +kernel
def fig {c:Nat} (h:48<=c/\c<=57):sE (.str ⟨#[c]⟩) (.str "0123456789")=some true:=by
 show some (!(Builtin.Str.occurrences _ _ 0 _ 1).isEmpty)=_;rw[PySem.StrLaws.found_one]
 congr 1
 refine IM ?_;have:∀k:Fin 10,(48+k.val)∈("0123456789":Str).cps.toList:=by decide
 have:=this ⟨c-48,by omega⟩;rwa[show 48+(c-48)=c by omega]at this
def Cg(cal:Cal){x:Str}{zs:List Nat}{m:Int}(ex:x.cps.toList=zs)(hl:zs.length=1\/zs.length=2)(hd:∀c∈zs,48<=c/\c<=57)(h0:zs.length=2->zs.head?≠some 48)(hi:intText? x=some m):bG (exs cal dH.body [sv (.str x)])=some (.int m):=by
 have hz:x.length=zs.length:=by rw[<- ex,Array.length_toList];rfl
 have q:ev cal (.blt .len [.bor 0]) [sv (.str x)]=some (.int zs.length):=by
  rw[aD (v:=.str x) (by simp[ev])];show(if x.length<=1000 then _ else _)=_;rw[hz,if_pos (by omega)]
 have D:cm .chr [.str x]=some (zs.map λc=>.str ⟨#[c]⟩):=by
  show(if x.cps.all (· < 128)=true then _ else _)=_;rw[if_pos,ex];rw[<- Array.all_toList,ex,JE];exact λc hc=>IM (by have:=hd c hc;omega)
 have J:ev cal (.comp .chr [.bor 0] [] (.cst (.bl true)) (.cmp .isIn (.bor 0) (.glob "FIGURES" (.str "0123456789")))) [sv (.str x)]=some (.lst (zs.map λ_=>.bl true)):=by
  refine br (vs:=[.str x]) (xs:=zs) (g:=λc=>.str ⟨#[c]⟩) (by simp[evs,ev]) D (by omega) λc hc=>?_
  have f:=fig (hd c hc);simp[ev,cW,cb,f]
 have U:ev cal (.blt .all [(.comp .chr [.bor 0] [] (.cst (.bl true)) (.cmp .isIn (.bor 0) (.glob "FIGURES" (.str "0123456789"))))]) [sv (.str x)]=some (.bl true):=by
  rw[aD J];rcases zs with _|⟨a,_|⟨b,_|⟨c,zs⟩⟩⟩<;>first|rfl|(simp at hl;done)
 have Y:ev cal (.cmp .notIn (.blt .len [.bor 0]) (.tup [(ci 1),(ci 2)])) [sv (.str x)]=some (.bl false):=by
  rw[ev,q];rcases hl with hl|hl<;>rw[hl]<;>rfl
 have Z:ev cal (.and (.cmp .eq (.blt .len [.bor 0]) (ci 2)) (.cmp .eq (ix 0 0) (cs "0"))) [sv (.str x)]=some (.bl false):=by
  rcases hl with hl|hl
  .rw[ev,ev,q,hl]
   rfl
  .obtain⟨c,r,rfl⟩:∃c r,zs=c::r:=by
    cases zs with
    |nil=>cases hl
    |cons c r=>exact⟨c,r,rfl⟩
   have nz:((⟨#[c]⟩:Str)==("0":Str))=false:=by
    rw[Jf];intro z;have e:("0":Str)=⟨#[48]⟩:=by decide
    rw[e]at z;cases z;exact h0 hl rfl
   have eI:ev cal (ix 0 0) [sv (.str x)]=some (.str ⟨#[c]⟩):=by
    rw[ev];show(some (PV.str x)).bind (λa=>(some (PV.int 0)).bind (gO a))=_;show(if x.length<=1000 then _ else _)=_;rw[if_pos (by omega),ex,hl]
    rfl
   have e2:=cA (op:=.eq) eI (show ev cal (cs "0") [sv (.str x)]=some (.str "0")from by rw[ev]);have e3:(cb .eq (.str ⟨#[c]⟩) (.str "0")).map PV.bl=some (.bl false):=by
    show(some ((⟨#[c]⟩:Str)==("0":Str))).map PV.bl=_;rw[nz]
    rfl
   rw[ev,e2,e3,ev,q,hl]
   rfl
 refine bV (C:=[sv (.str x)]) ?_ (bV (C:=[sv (.str x)]) ?_ (cM ?_))
 .rw[bW (p:=false) ?_,if_neg (by decide),exs];rw[ev,Y,ev,U]
  rfl
 .rw[bW (p:=false) Z,if_neg (by decide),exs]
 .rw[aD (v:=.str x) (by simp[ev])];show(if x.length<=640 then _ else _)=_;rw[hz,if_pos (by omega),hi]
  rfl
def wu(n:Nat){i:Int}(h0:0<=i)(h1:i<=60):ac defs (n+1) 0 [.val (.str (ay i))]=some (.int i):=by
 obtain⟨m,rfl⟩:∃m:Nat,i=m:=⟨i.toNat,by omega⟩;rw[aw (d:=dH) rfl rfl];have q:=Br ⟨m,by omega⟩;have hi:intText? (ay (m:Int))=some (m:Int):=PySem.W.KIN.num_reads h0 (by omega);dsimp only at q;unfold shp at q;split at q
 .rename_i c e;have h:=IX q;exact Cg _ e (.inl rfl) (λd hd=>by rw[IS.mp hd];exact h) (λz=>by cases z) hi
 .rename_i c d e;have h:=IX q;refine Cg _ e (.inr rfl) (λa D=>?_) (λ_ z=>?_) hi
  .simp only[rb,JI,Kd]at D;rcases D with rfl|rfl<;>omega
  .cases z;omega
 .cases q
def nh {ws:List Str} (hn:ws≠[]) (h:∀w∈ws,10∉w.cps.toList):Txt.split (Builtin.Str.glued "\n" ws) ("\n":Str)=ws:=by
 have q:("\n":Str)=⟨#[10]⟩:=by decide
 rw[PySem.StrLaws.glued_eq_join,q];refine mN (c:=10) (λz=>?_) hn (PySem.StrLaws.split_free _ 10) h (by rw[PySem.StrLaws.join_split]);have e:=PySem.StrLaws.join_split (Str.join ⟨#[10]⟩ ws) ⟨#[10]⟩;rw[z]at e;rw[<- e]at z;revert z
 decide
noncomputable def cw (c:Int) (R:LL) (o:Bool) (t:List Int):List (List Str):=[("holes":Str),ay c]::(R.map λs=>("ribbon":Str)::s.map ay)++[("first":Str),af o]::t.map λh=>[("take":Str),ay h]
noncomputable def eK (ws:List Str):Str:=Builtin.Str.glued (" ":Str) ws
def lb(c:Int)(R:LL)(o:Bool)(t:List Int):dk c R o t=(cw c R o t).map eK:=by
 unfold dk cw;rw[Js,IT,IT,IZ,IZ]
 rfl
def Wd(w:Str):Prop:=32∉w.cps.toList/\10∉w.cps.toList/\w.length<=6
def tJ{i:Int}(h:0<=i/\i<=60):Wd (ay i):=by
 have q:∀n:Fin 61,32∉(ay (n.val:Int)).cps.toList/\10∉(ay (n.val:Int)).cps.toList/\(ay (n.val:Int)).length<=6:=by decide +kernel
 have:=q ⟨i.toNat,by omega⟩;rwa[show((i.toNat:Nat):Int)=i by omega]at this
def Bs(o:Bool):Wd (af o):=by
 cases o
 .exact(by decide +kernel:32∉("weaver":Str).cps.toList/\10∉("weaver":Str).cps.toList/\("weaver":Str).length<=6)
 .exact(by decide +kernel:32∉("moth":Str).cps.toList/\10∉("moth":Str).cps.toList/\("moth":Str).length<=6)
def G2:Wd "holes"/\Wd "ribbon"/\Wd "first"/\Wd "take":=by
 unfold Wd
 decide +kernel
theorem mO:∀(ws:List Str),(∀w∈ws,10∉w.cps.toList)->10∉(eK ws).cps.toList
 | [],_=>by decide +kernel
 | [w],h=>by
  have e:eK [w]=w:=by
   unfold eK;rw[PySem.StrLaws.glued_eq_join];exact pS (by simp[Str.join])
  rw[e];exact h w (.head _)
 |w::v::ws,h=>by
  have e:(eK (w::v::ws)).cps.toList=w.cps.toList++32::(eK (v::ws)).cps.toList:=by
   unfold eK;rw[PySem.StrLaws.glued_eq_join,PySem.StrLaws.glued_eq_join,show(" ":Str)=⟨#[32]⟩by decide];exact rC 32 w v ws
  rw[e];intro z;rcases Kq.mp z with z|z
  .exact h w (.head _) z
  .rcases rb.mp z with z|z
   .cases z
   .exact mO (v::ws) (λu q=>h u (.tail _ q)) z
noncomputable def opW (w:Str):List Str:=[("first":Str),w]
noncomputable def lW(ws:List Str):PV:=.lst (ws.map .str)
theorem oo:∀xs:List Int,isIn .non (xs.map .int)=some false
 | []=>rfl
 |x::xs=>by
  have:=oo xs;unfold isIn at this ⊢;rw[IT,inL,this]
  rfl
def zt(a b:Str):(a==b)=decide (a=b):=by
 by_cases h:a=b
 .subst h;simp
 .rw[IQ h];exact Jf.mpr h
theorem rF(n:Nat):∀a b:List Str,eqL (eqF n) (a.map .str) (b.map .str)=some (decide (a=b))
 | [],[]=>rfl
 | [],_::_=>rfl
 | _::_,[]=>rfl
 |x::xs,y::ys=>by
  have e:eqF n (.str x) (.str y)=some (x==y):=by cases n<;>rfl
  rw[IT,IT,eqL,e,bind_some,rF n xs ys,map_some,zt]
  congr 1
  by_cases h:x=y
  .subst h;by_cases g:xs=ys<;>simp[g]
  .simp[h]
def G3(a b:List Str):eqF 100 (lW a) (lW b)=some (decide (a=b)):=by
 show(if (a.map PV.str).length=(b.map PV.str).length then eqL (eqF 99) (a.map .str) (b.map .str)else some false)=_;by_cases h:(a.map PV.str).length=(b.map PV.str).length
 .rw[if_pos h,rF]
 .rw[if_neg h,IQ λz=>h (by rw[z])]
def vb(n:Nat)(w:Str)(xs:List Int)(hx:∀x∈xs,0<=x/\x<=60)(hl:xs.length<=60):ac defs (n+2) 16 [.val (.str w),.val (lW (w::xs.map ay))]=some (ofL xs):=by
 rw[aw (d:=dB) rfl rfl];show bG (exs (ac defs (n+1)) [.ite _ _ _,.set 2 _,.ite _ _ _,.ret _] [sv (.str w),sv (lW (w::xs.map ay)),none])=_;have D:ev (ac defs (n+1)) (.cmp .ne (ix 1 0) (.bor 0)) [sv (.str w),sv (lW (w::xs.map ay)),none]=some (.bl false):=by
  rw[cA (x:=.str w) (y:=.str w) ((iO rfl rfl).trans (by simp[lW,place])) rfl];show((some (w==w)).map λp=>!p).map PV.bl=_;simp
 have J:ev (ac defs (n+1)) (.comp .seq [(.slice (.bor 1) (ci 1) (.cst .non))] [] (.cst (.bl true)) (.call 0 [.bor 0])) [sv (.str w),sv (lW (w::xs.map ay)),none]=some (ofL xs):=by
  refine br (vs:=[lW (xs.map ay)]) (xs:=xs) (g:=λx=>.str (ay x)) ?_ ?_ (by omega) λx q=>?_
  .refine pO (k9 (x:=lW (w::xs.map ay)) (l:=some 1) (h:=none) rfl rfl rfl ?_) rfl;show some (PV.lst (((w::xs.map ay).map PV.str).drop (dS ((w::xs.map ay).map PV.str).length 0 (some 1)) |>.take _))=_;have:dS ((w::xs.map ay).map PV.str).length 0 (some 1)=1:=by
    unfold dS;simp
   rw[this];rw[IT,drop_succ_cons,drop_zero,Lp (by simp[dS])]
   rfl
  .show some ((xs.map ay).map PV.str)=_;rw[IZ]
   rfl
  .exact bb (vs:=[.val (.str (ay x))]) rfl (wu n (hx x q).1 (hx x q).2)
 have U:ev (ac defs (n+1)) (.cmp .isIn (.cst .non) (.bor 2)) [sv (.str w),sv (lW (w::xs.map ay)),sv (ofL xs)]=some (.bl false):=by
  rw[cA (x:=.non) (y:=ofL xs) rfl rfl];show((isIn .non (xs.map .int))).map PV.bl=_;rw[oo]
  rfl
 exact rn D (kG J (rn U (cM rfl)))
def zu(n:Nat)(w:Str)(x:Int)(hx:0<=x/\x<=60):ac defs (n+3) 17 [.val (.str w),.val (lW [w,ay x])]=some (.int x):=by
 rw[aw (d:=ez) rfl rfl];have e:=vb n w [x] (λy q=>by rw[IS.mp q];exact hx) (by show 1<=60;decide);exact kG (bb (vs:=[.val (.str w),.val (lW [w,ay x])]) rfl e) (rn rfl (cM rfl))
def zv (n:Nat) (ws:List Str):ac defs (n+1) 18 [.val (lW ws)]=some (.bl (decide (ws=opW "weaver")||decide (ws=opW "moth"))):=by
 rw[aw (d:=g6) rfl rfl];have e:∀w:Str,ev (ac defs n) (.cmp .eq (.bor 0) (.lst [(cs "first"),(.cst (.str w))])) [sv (lW ws)]=some (.bl (decide (ws=opW w))):=λw=>by
  rw[cA (x:=lW ws) (y:=lW (opW w)) rfl rfl];show(eqF 100 (lW ws) (lW (opW w))).map PV.bl=_;rw[G3]
  rfl
 exact cM (EM (e "weaver") λ_=>e "moth")
theorem rG (n:Nat) (a:Option MV):∀(A:List (List Str)) (k:Nat) (o:Bool) (r:List (List Str)) (p q:Option MV),(∀ws∈A,ws≠opW "weaver"/\ws≠opW "moth") ->
  aT (λx C=>eF (gS [1,2] x C) λD=>exs (ac defs (n+1)) cF D) (b7 k ((A++opW (af o)::r).map lW)) [a,p,q]=.ret (.int (k+A.length:Nat))
 | [],k,o,r,p,q,_=>by
  rw[nil_append,IT,b7,aT];have e:=zv n (opW (af o));rw[show(decide (opW (af o)=opW "weaver")||decide (opW (af o)=opW "moth"))=true by cases o<;>decide +kernel]at e;have:eF (gS [1,2] (.tup [.int (k:Nat),lW (opW (af o))]) [a,p,q]) (λD=>exs (ac defs (n+1)) cF D)=.ret (.int (k:Nat)):=
   G0 (bb (vs:=[.val (lW (opW (af o)))]) rfl e) rfl
  rw[this]
  rfl
 |ws::A,k,o,r,p,q,h=>by
  rw[cons_append,IT,b7,aT];have e:=zv n ws;rw[IQ (h ws (.head _)).1,IQ (h ws (.head _)).2]at e;have:eF (gS [1,2] (.tup [.int (k:Nat),lW ws]) [a,p,q]) (λD=>exs (ac defs (n+1)) cF D)=.next [a,sv (.int (k:Nat)),sv (lW ws)]:=
   EL (bb (vs:=[.val (lW ws)]) rfl e) rfl
  rw[this];dsimp only;rw[rG n a A (k+1) o r _ _ λv J=>h v (.tail _ J),length_cons]
  congr 2
  omega
def Bt (n:Nat) (A:List (List Str)) (o:Bool) (r:List (List Str)) (q:∀ws∈A,ws≠opW "weaver"/\ws≠opW "moth"):ac defs (n+2) 19 [.val (.lst ((A++opW (af o)::r).map lW))]=some (.int A.length):=by
 rw[aw (d:=fv) rfl rfl];have e:=rG n (sv (.lst ((A++opW (af o)::r).map lW))) A 0 o r none none q;show bG (exs (ac defs (n+1)) [.forT _ _ _ _,.never] [sv (.lst ((A++opW (af o)::r).map lW)),none,none])=_;rw[ax,Bi (xs:=b7 0 ((A++opW (af o)::r).map lW)) rfl];have D:bD [.bor 0] [sv (.lst ((A++opW (af o)::r).map lW)),none,none]=[sv (.lst ((A++opW (af o)::r).map lW)),none,none]:=rfl;rw[D,e,Kc]
 rfl
structure Pg(c:Int)(R:LL)(t:List Int):Prop where
 hc:0<=c/\c<=60
 hr:∀s∈R,s.length<=60/\∀x∈s,0<=x/\x<=60
 ht:∀x∈t,0<=x/\x<=60
 hn:R.length<=60
 hm:t.length<=60
noncomputable def pA (c:Int) (R:LL):List (List Str):=[("holes":Str),ay c]::R.map λs=>("ribbon":Str)::s.map ay
noncomputable def pB (t:List Int):List (List Str):=t.map λh=>[("take":Str),ay h]
def dZ(c:Int)(R:LL)(o:Bool)(t:List Int):cw c R o t=pA c R++opW (af o)::pB t:=rfl
def G4{c:Int}{R:LL}{t:List Int}(h:Pg c R t)(o:Bool):∀ws∈cw c R o t,(ws≠[]/\ws.length<=61)/\∀w∈ws,Wd w:=by
 obtain⟨U,Y,Z,k4⟩:=G2;intro ws D;rw[dZ]at D;rcases Kq.mp D with q|q
 .rcases rb.mp q with rfl|q
  .exact⟨⟨by simp,by simp⟩,λw hw=>by
    rcases rb.mp hw with rfl|hw
    .exact U
    .rw[IS.mp hw];exact tJ h.hc⟩
  .obtain⟨s,J,rfl⟩:=mem_map.mp q;refine⟨⟨by simp,by have:=(h.hr s J).1;simp;omega⟩,λw hw=>?_⟩;rcases rb.mp hw with rfl|hw
   .exact Y
   .obtain⟨x,hx,rfl⟩:=mem_map.mp hw;exact tJ ((h.hr s J).2 x hx)
 .rcases rb.mp q with rfl|q
  .exact⟨⟨by simp[opW],by simp[opW]⟩,λw hw=>by
    rcases rb.mp hw with rfl|hw
    .exact Z
    .rw[IS.mp hw];exact Bs o⟩
  .obtain⟨x,hx,rfl⟩:=mem_map.mp q;exact⟨⟨by simp,by simp⟩,λw hw=>by
    rcases rb.mp hw with rfl|hw
    .exact k4
    .rw[IS.mp hw];exact tJ (h.ht x hx)⟩
def Ch{c:Int}{R:LL}{t:List Int}(h:Pg c R t)(o:Bool):(cw c R o t).length<=122:=by
 rw[dZ];have:=h.hn;have:=h.hm;simp[pA,pB];omega
def glue_len{ws:List Str}(h:∀w∈ws,Wd w)(hl:ws.length<=61):(eK ws).length<=427:=by
 have:=pQ (x:=(" ":Str)) (ws:=ws) (b:=6) λw hw=>(h w hw).2.2
 have e:(" ":Str).length=1:=by decide
 rw[e]at this;unfold eK;omega
def wv {ws:List Str} (h0:ws≠[]) (h:∀w∈ws,Wd w) (hl:ws.length<=61):i7 " " (.str (eK ws))=some (lW ws):=by
 have e:Txt.split (eK ws) (" ":Str)=ws:=rD h0 λw hw=>(h w hw).1
 have:=glue_len h hl;show(if _ then _ else none)=_;rw[e,if_pos ⟨by omega,by omega,by decide⟩]
 rfl
def tK {c:Int}{R:LL}{t:List Int} (h:Pg c R t) (o:Bool):i7 "\n" (.str (cv c R o t))=some (.lst (((cw c R o t).map eK).map .str)):=by
 have ok:=G4 h o;have e:Txt.split (cv c R o t) ("\n":Str)=(cw c R o t).map eK:=by
  unfold cv;rw[lb];refine nh (by rw[dZ];simp[pA]) λw hw=>?_
  obtain⟨ws,q,rfl⟩:=mem_map.mp hw;exact mO ws λu D=>((ok ws q).2 u D).2.1
 have U:=Ch h o;have Y:(cv c R o t).length<=(427+1)*122:=by
  have:=pQ (x:=("\n":Str)) (ws:=dk c R o t) (b:=427) λw hw=>by
   rw[lb]at hw;obtain⟨ws,q,rfl⟩:=mem_map.mp hw;exact glue_len (ok ws q).2 (ok ws q).1.2
  have J:("\n":Str).length=1:=by decide
  rw[J,lb,ox]at this;unfold cv;rw[lb];omega
 show(if _ then _ else none)=_;rw[e,if_pos ⟨by omega,by rw[ox];omega,by decide⟩]
def rH{cal:Cal}{a:ME}{y x:Str}{G:Rho}{v:PV}(h:ev cal a G=some (.str x))(e:i7 y (.str x)=some v):ev cal (.split a y) G=some v:=by
 rw[ev,h,bind_some,e]
def Bu {cal:Cal}{c:Int}{R:LL}{t:List Int} (h:Pg c R t) (o:Bool) {G:Rho} (e:(G[0]?).join=sv (.str (cv c R o t))):ev cal (.comp .seq [(.split (.bor 0) "\n")] [] (.cst (.bl true)) (.split (.bor 0) " ")) G=some (.lst ((cw c R o t).map lW)):=by
 have ok:=G4 h o;refine br (vs:=[.lst (((cw c R o t).map eK).map .str)]) (xs:=cw c R o t) (g:=λws=>.str (eK ws)) (pO (rH (by rw[ev,e];rfl) (tK h o)) rfl) ?_ (by have:=Ch h o;omega) λws q=>?_
 .show some (((cw c R o t).map eK).map PV.str)=_;rw[IZ]
  rfl
 .exact rH rfl (wv (ok ws q).1.1 (ok ws q).2 (ok ws q).1.2)
def Iz (c:Int) (R:LL):∀ws∈pA c R,ws≠opW "weaver"/\ws≠opW "moth":=by
 intro ws D;have J:("holes":Str) ≠ "first":=by decide +kernel
 have U:("ribbon":Str) ≠ "first":=by decide +kernel
 rcases rb.mp D with rfl|q
 .exact⟨λz=>J (Kv z).1,λz=>J (Kv z).1⟩
 .obtain⟨s,_,rfl⟩:=mem_map.mp q;exact⟨λz=>U (Kv z).1,λz=>U (Kv z).1⟩
def ww(n:Nat){c:Int}{R:LL}{t:List Int}(o:Bool):ac defs (n+2) 19 [.val (.lst ((cw c R o t).map lW))]=some (.int (1+R.length:Nat)):=by
 rw[dZ,Bt n (pA c R) o (pB t) (Iz c R)];simp[pA];omega
def ie(n d k:Nat)(h:k<=n):dS n d (some (k:Nat))=k:=by
 show(if ((k:Nat):Int)<0 then(((k:Nat):Int)+n).toNat else min ((k:Nat):Int).toNat n)=k;rw[if_neg (by omega)];omega
def Bv{α:Type}(f:α->PV)(a:α)(A B:List α)(k:Nat)(q:k=A.length+1):gh (.lst ((a::A++B).map f)) (some 1) (some (k:Nat))=some (.lst (A.map f)):=by
 subst q;show some (PV.lst (cut ((a::A++B).map f) (some ((1:Nat):Int)) (some ((A.length+1:Nat):Int))))=_;unfold cut;rw[ie _ _ _ (by simp),ie _ _ _ (by simp),Js,IT];show some (PV.lst (List.take (A.length+1-1) (A.map f++B.map f)))=_;rw[Jv,take_left' (ox ..)]
def Bw{α:Type}(f:α->PV)(A B:List α)(k:Nat)(q:k=A.length):gh (.lst ((A++B).map f)) (some (k:Nat)) none=some (.lst (B.map f)):=by
 subst q;show some (PV.lst (cut ((A++B).map f) (some ((A.length:Nat):Int)) none))=_;unfold cut;rw[ie _ _ _ (by simp),Js,drop_left' (ox ..),Lp];show _<=(A.map f++B.map f).length-A.length;simp
def tL{α:Type}(f:α->PV)(xs:List α)(k:Nat)(q:k<xs.length):gO (.lst (xs.map f)) (.int (k:Nat))=some (f xs[k]):=by
 show(place (xs.map f).length ((k:Nat):Int)).bind (λj=>(xs.map f)[j]?)=_;rw[ox,show place xs.length ((k:Nat):Int)=some k from by unfold place;simp[q],bind_some,IY,IP q]
 rfl
noncomputable abbrev G5:List MS:=[.set 1 (.comp .seq [(.split (.bor 0) "\n")] [] (.cst (.bl true)) (.split (.bor 0) " ")),.set 2 (.call 19 [.bor 1]),.set 3 (.call 17 [(cs "holes"),(ix 1 0)]),
 .set 4 (.comp .seq [(.slice (.bor 1) (ci 1) (.bor 2))] [] (.cst (.bl true)) (.call 16 [(cs "ribbon"),.bor 0])),.set 5 (.comp .seq [(.slice (.bor 1) (.bin .add (.bor 2) (ci 1)) (.cst .non))] [] (.cst (.bl true)) (.call 17 [(cs "take"),.bor 0]))]
def EV(n:Nat){c:Int}{R:LL}{t:List Int}(h:Pg c R t)(o:Bool):exs (ac defs (n+3)) G5 [sv (.str (cv c R o t)),none,none,none,none,none,none] =
  .next [sv (.str (cv c R o t)),sv (.lst ((cw c R o t).map lW)),sv (.int (1+R.length:Nat)),sv (.int c),sv (.lst (R.map ofL)),sv (ofL t),none]:=by
 refine fJ (Bu h o rfl) (fJ (bb (vs:=[.val (.lst ((cw c R o t).map lW))]) rfl (ww (n+1) o)) (fJ (bb (vs:=[.val (.str "holes"),.val (lW [("holes":Str),ay c])]) (by rw[evA,bu,bind_some,Cd ((iO rfl rfl).trans (tL lW (cw c R o t) 0 (by rw[dZ];simp[pA]))) rfl];rfl;exact nofun;exact nofun) (zu n "holes" c h.hc)) (fJ (v:=.lst (R.map ofL)) ?_ (fJ (v:=ofL t) ?_ rfl))))
 .have q:cw c R o t=[("holes":Str),ay c]::(R.map λs=>("ribbon":Str)::s.map ay)++(opW (af o)::pB t):=rfl;refine br (vs:=[.lst ((R.map λs=>("ribbon":Str)::s.map ay).map lW)]) (xs:=R) (g:=λs=>lW (("ribbon":Str)::s.map ay)) (pO (k9 (x:=.lst ((cw c R o t).map lW)) (l:=some 1) (h:=some ((1+R.length:Nat):Int)) rfl rfl rfl ?_) rfl) ?_ (by have:=h.hn;omega) λs D=>?_
  .rw[q];exact Bv lW _ _ _ _ (by rw[ox];omega)
  .show some ((R.map λs=>("ribbon":Str)::s.map ay).map lW)=_;rw[IZ]
   rfl
  .exact bb (vs:=[.val (.str "ribbon"),.val (lW (("ribbon":Str)::s.map ay))]) rfl (vb (n+1) "ribbon" s (h.hr s D).2 (h.hr s D).1)
 .have q:cw c R o t=(pA c R++[opW (af o)])++pB t:=by rw[dZ,KN];rfl
  have J:((1+R.length:Nat):Int)+1=((R.length+2:Nat):Int):=by omega
  refine br (vs:=[.lst ((pB t).map lW)]) (xs:=t) (g:=λx=>lW [("take":Str),ay x]) (pO (k9 (x:=.lst ((cw c R o t).map lW)) (l:=some ((R.length+2:Nat):Int)) (h:=none) rfl (by rw[g8 (x:=.int ((1+R.length:Nat):Int)) (y:=.int 1) rfl rfl,<- J];rfl) rfl ?_) rfl) ?_ (by have:=h.hm;omega) λx hx=>?_
  .rw[q];exact Bw lW _ _ _ (by simp[pA])
  .show some ((pB t).map lW)=_;unfold pB;rw[IZ]
   rfl
  .exact bb (vs:=[.val (.str "take"),.val (lW [("take":Str),ay x])]) rfl (zu n "take" x (h.ht x hx))
def Bx(n:Nat)(c:Int)(Rb:LL)(o:Bool)(t:List Int)(hc:0<=c/\c<=60)(hR:∀s∈Rb,s≠[]/\s.length<=60/\∀x∈s,0<=x/\x<=60)(ht:∀x∈t,0<=x/\x<=60)(hl:Rb.length<=60)(D:t.length<=60) :
  ac defs (n+1) 25 [.val (.int c),.val (.lst (Rb.map ofL)),.val (.str (af o)),.brw (t.map .int)]=some (.str (cv c Rb o t)):=by
 rw[aw (d:=iL) rfl rfl];have q:Rb.length<=60:=hl;obtain⟨J,g2⟩:=s60 hc;obtain⟨s',U⟩:=j8 (ac defs n) (sv (.int c)) (sv (.lst (Rb.map ofL))) (sv (.str (af o))) (some (.brw (t.map .int))) none Rb [aW "holes" [ay c]] none hR (by rw[length_singleton];omega);obtain⟨h',Y⟩:=iP (ac defs n) (sv (.int c)) (sv (.lst (Rb.map ofL))) (sv (.str (af o))) (some (.brw (t.map .int))) s' t ([aW "holes" [ay c]]++(Rb.map λs=>aW "ribbon" (s.map ay))++[aW "first" [af o]]) none ht (by rw[I0,I0,length_singleton,ox,length_singleton];omega);show bG (exs _ [.setOwn 4 _,.for1 5 .seq _ _,.append 4 _,.for1 6 .seq _ _,.ret _] [sv (.int c),sv (.lst (Rb.map ofL)),sv (.str (af o)),some (.brw (t.map .int)),none,none,none])=_;refine bV (C:=[sv (.int c),sv (.lst (Rb.map ofL)),sv (.str (af o)),some (.brw (t.map .int)),some (.own ([aW "holes" [ay c]].map .str)),none,none]) ?_ ?_
 .rw[eU (xs:=[.str (aW "holes" [ay c])])]
  .rfl
  .have Z:ev (ac defs n) (.bin .add (.cst (.str "holes ")) (.blt .strOf [.bor 0])) [sv (.int c),sv (.lst (Rb.map ofL)),sv (.str (af o)),some (.brw (t.map .int)),none,none,none]=some (.str (aW "holes" [ay c])):=by
    rw[ev,bu,bind_some,aD (v:=.int c) (by simp[ev]),J,bind_some];show(if _ then _ else _)=_;rw[if_pos (by rw[show("holes ":Str).length=6 from rfl];omega),zo]
    rfl
   rw[ev,evs,Z];simp[evs]
 refine bV (C:=[sv (.int c),sv (.lst (Rb.map ofL)),sv (.str (af o)),some (.brw (t.map .int)),some (.own (([aW "holes" [ay c]]++(Rb.map λs=>aW "ribbon" (s.map ay))).map .str)),s',none]) ?_ ?_
 .rw[dN (xs:=Rb.map ofL)]
  .show(aT _ _ [_,_,_,_,_,none,none]).back _ _=_;rw[show jr=bQ from rfl,U]
   rfl
  .simp[evs,ev]
 refine bV (C:=[sv (.int c),sv (.lst (Rb.map ofL)),sv (.str (af o)),some (.brw (t.map .int)),some (.own (([aW "holes" [ay c]]++(Rb.map λs=>aW "ribbon" (s.map ay))++[aW "first" [af o]]).map .str)),s',none]) ?_ ?_
 .rw[eV (v:=.str (aW "first" [af o])) ?_ rfl (by rw[ox,I0,length_singleton,ox];omega)]
  .rw[Js (l₂:=[aW "first" [af o]])]
   rfl
  .rw[ev,bu,bind_some];have hb:=pR o;rw[show ev (ac defs n) (.bor 2) [sv (.int c),sv (.lst (Rb.map ofL)),sv (.str (af o)),some (.brw (t.map .int)),some (.own (([aW "holes" [ay c]]++(Rb.map λs=>aW "ribbon" (s.map ay))).map .str)),s',none]=some (.str (af o))from by simp[ev],bind_some];show(if _ then _ else _)=_;rw[if_pos (by rw[show("first ":Str).length=6 from rfl];omega),zo]
   rfl
 refine bV (C:=[sv (.int c),sv (.lst (Rb.map ofL)),sv (.str (af o)),some (.brw (t.map .int)),some (.own ((dk c Rb o t).map .str)),s',h']) ?_ ?_
 .rw[dN (xs:=t.map .int) (by simp[evs,ev])];show(aT _ _ [_,_,_,_,_,_,none]).back _ _=_;rw[show jt=bS from rfl,Y];simp[dk,bh]
 refine cM ?_;rw[ev,show ev (ac defs n) (.bor 4) [sv (.int c),sv (.lst (Rb.map ofL)),sv (.str (af o)),some (.brw (t.map .int)),some (.own ((dk c Rb o t).map .str)),s',h']=some (.lst ((dk c Rb o t).map .str))from by simp[ev],bind_some];exact j0 hc (λs hs=>(hR s hs).2) ht q D
structure wz(c:Int)(R:LL)(o:Bool)(t:List Int):Prop where
 nd:t.Nodup
 rg:∀x∈t,0<=x/\x<c
 on:∀k,k<t.length->dC (lft o 0 R (t.take k))=.non
def By{cal:Cal}{f:Nat}{fs xs ys:List PV}{h:Int}{w:Sc}{a b d:Option MV}(e:cal (f+3000) [.ownO true fs xs,.val (.int h)]=some (.tup [w.pv,.lst ys])) :
  ex cal (.takeO none 3 f [.var 4]) [a,b,d,some (.ownO false fs xs),sv (.int h)]=.next [a,b,d,some (.ownO false fs ys),sv (.int h)]:=by
 have q:sc? w.pv=some w:=by cases w<;>rfl
 rw[ex,show(([a,b,d,some (.ownO false fs xs),sv (.int h)]:Rho)[3]?).join=some (.ownO false fs xs)from rfl];dsimp only;rw[show evs cal [.var 4] [a,b,d,some (.ownO false fs xs),sv (.int h)]=some [.int h]from rfl,bind_some,show([.int h]:List PV).map MV.val=[.val (.int h)]from rfl,e];dsimp only;rw[q]
 rfl
theorem vc(n:Nat)(c:Int)(R:LL)(o:Bool)(g:cU R)(t:List Int)(p:wz c R o t)(hl:t.length<=60)(a b d:Option MV):∀(cO done:List Int) (q:Option MV),t=done++cO ->
  ∃D,aT (λx C=>exs (ac defs (n+6)) [.takeO none 3 34 [.var 4]] (put C 4 (.val x))) (cO.map .int) [a,b,d,some (.ownO false (tbl c R o) (done.map .int)),q]=.next [a,b,d,some (.ownO false (tbl c R o) (t.map .int)),D]
 | [],done,q,e=>⟨q,by rw[JW]at e;subst e;rfl⟩
 |h::cO,done,q,e=>by
  have hd:t.take done.length=done:=by rw[e,take_left' rfl]
  have J:done.length<t.length:=by rw[e];simp
  have ho:=p.on done.length J;rw[hd]at ho;have hm:h∈t:=by rw[e];simp
  have hn:h∉done:=λz=>by
   have:=p.nd;rw[e,LF]at this;exact this.2.2 h z h (.head _) rfl
  have U:=zn n c R o done h g ho (p.rg h hm).1 (p.rg h hm).2 hn (by omega);have st:exs (ac defs (n+6)) [.takeO none 3 34 [.var 4]] (put [a,b,d,some (.ownO false (tbl c R o) (done.map .int)),q] 4 (.val (.int h)))=.next [a,b,d,some (.ownO false (tbl c R o) ((done++[h]).map .int)),sv (.int h)]:=g9 (By U);obtain⟨D,Y⟩:=vc n c R o g t p hl a b d cO (done++[h]) (sv (.int h)) (by rw[e,KN];rfl);exact⟨D,by rw[IT,cB st];exact Y⟩
def zw(n:Nat){c:Int}{R:LL}{o:Bool}{t:List Int}(g:cU R)(p:wz c R o t)(hl:t.length<=60) :
  ∃G:Rho,exs (ac defs (n+6)) [.mkO 3 [.var 0,.var 1],.for1 4 .seq [.bor 2] [.takeO none 3 34 [.var 4]]] [sv (.tup [.int c,ofR R]),sv (.str (af o)),sv (ofL t),none,none]=.next G/\G[3]?=some (some (.ownO false (tbl c R o) (t.map .int))):=by
 obtain⟨q,e⟩:=vc n c R o g t p hl (sv (.tup [.int c,ofR R])) (sv (.str (af o))) (sv (ofL t)) t [] none rfl;refine⟨[sv (.tup [.int c,ofR R]),sv (.str (af o)),sv (ofL t),some (.ownO false (tbl c R o) (t.map .int)),q],?_,rfl⟩
 .have h4:ac defs (n+6) 4000 []≠none:=nofun;have D:ex (ac defs (n+6)) (.mkO 3 [.var 0,.var 1]) [sv (.tup [.int c,ofR R]),sv (.str (af o)),sv (ofL t),none,none]=.next [sv (.tup [.int c,ofR R]),sv (.str (af o)),sv (ofL t),some (.ownO false (tbl c R o) []),none]:=by
   rw[ex,show(evs (ac defs (n+6)) [.var 0,.var 1] [sv (.tup [.int c,ofR R]),sv (.str (af o)),sv (ofL t),none,none]).bind sG=some (tbl c R o)from rfl];dsimp only;rw[if_pos ⟨by rfl,h4⟩]
   rfl
  rw[ax,D,aQ];rw[ax,dN (xs:=t.map .int) rfl,show bD [.bor 2] [sv (.tup [.int c,ofR R]),sv (.str (af o)),sv (ofL t),some (.ownO false (tbl c R o) []),none]=[sv (.tup [.int c,ofR R]),sv (.str (af o)),sv (ofL t),some (.ownO false (tbl c R o) (([]:List Int).map .int)),none]from rfl,e]
  rfl
def oq (L:LL):dC L=.str "weaver" \/ dC L=.str "moth" \/ dC L=.non:=by
 unfold dC;split
 .exact .inl rfl
 .split
  .exact .inr (.inl rfl)
  .exact .inr (.inr rfl)
noncomputable def Ff(q D:Int->Bool)(Rb:LL):LL:=(Rb.filter λs=>!s.any D).map λs=>s.filter λx=>!q x
noncomputable def tkB(w:Bool)(o:Bool):Nat->List Int->Int->Bool
 | _,[],_=>false
 |k,h::t,x=>(decide (x=h)&&(hat o k==w))||tkB w o (k+1) t x
theorem vd{w o:Bool}:∀{t:List Int}{k:Nat}{x:Int},x∉t->tkB w o k t x=false
 | [],_,_,_=>rfl
 |h::t,k,x,hx=>by
  rw[rb]at hx;rw[tkB,vd λz=>hx (.inr z),IQ λz=>hx (.inl z)]
  rfl
def Bz{J D:Int->Bool}{h:Int}(U:D h=false)(Rb:LL):Ff J D (Rb.map (drp h))=Ff (λx=>decide (x=h)||J x) D Rb:=by
 unfold Ff;rw[List.filter_map,IZ];have Y:((λs:List Int=>!s.any D)∘drp h)=λs=>!s.any D:=by
  funext s
  show(!(drp h s).any D)=!s.any D
  congr 1
  rw[Jt,Jh,Jh];refine⟨λ⟨x,hx,q⟩=>⟨x,(ju.mp hx).1,q⟩,λ⟨x,hx,q⟩=>⟨x,ju.mpr ⟨hx,λz=>?_⟩,q⟩⟩;rw[z,U]at q;cases q
 rw[Y];refine J9 λs _=>?_
 show(drp h s).filter _=_;unfold drp;rw[List.filter_filter]
 congr 1
 funext x
 show((!J x)&&!decide (x=h))=!(decide (x=h)||J x);cases decide (x=h)<;>cases J x<;>rfl
def BA{J D:Int->Bool}{h:Int}(Rb:LL):Ff J D (Rb.filter λU=>!decide (h∈U))=Ff J (λx=>decide (x=h)||D x) Rb:=by
 unfold Ff;rw[List.filter_filter]
 congr 1
 congr 1
 funext s
 have:(s.any λx=>decide (x=h)||D x)=(decide (h∈s)||s.any D):=by
  rw[Jt,Jh,KD,Jh,Kk];constructor
  .rintro ⟨x,hx,q⟩;rcases Bool.or_eq_true_iff.mp q with q|q
   .exact .inl (IX q▸hx)
   .exact .inr ⟨x,hx,q⟩
  .rintro (q|⟨x,hx,q⟩)
   .exact⟨h,q,by simp⟩
   .exact⟨x,hx,by simp[q]⟩
 rw[this];cases decide (h∈s)<;>cases s.any D<;>rfl
theorem j9(o:Bool):∀(t:List Int) (k:Nat) (Rb:LL),t.Nodup->lft o k (sortT Rb) t=sortT (Ff (tkB false o k t) (tkB true o k t) Rb)
 | [],k,Rb,_=>by
  unfold lft Ff;have e:(Rb.filter λs=>!s.any (tkB true o k []))=Rb:=Lc.mpr λs _=>by
   have:s.any (tkB true o k [])=false:=by rw[KQ];intro x _ z;cases z
   rw[this]
   rfl
  rw[e];have J:(Rb.map λs=>s.filter λx=>!tkB false o k [] x)=Rb.map id:=J9 λs _=>Lc.mpr λx _=>rfl
  rw[J,List.map_id]
 |h::t,k,Rb,nd=>by
  obtain⟨n1,n2⟩:=JX.mp nd;rw[lft];cases e:hat o k with
  |false =>
   have q:bhd false (sortT Rb) (some h)=sortT (Rb.map (drp h)):=sortT_of_perm ((sortT_perm Rb).map _);rw[q,j9 o t (k+1) _ n2,Bz (vd n1)]
   congr 2
   .funext x
    rw[tkB,e];simp
   .funext x
    rw[tkB,e];simp
  |true =>
   have q:bhd true (sortT Rb) (some h)=sortT (Rb.filter λD=>!decide (h∈D)):=by
    show(sortT Rb).filter _=_;rw[<- sortT_id ((sortT_rises Rb).filter λD=>!decide (h∈D))];exact sortT_of_perm ((sortT_perm Rb).filter _)
   rw[q,j9 o t (k+1) _ n2,BA]
   congr 2
   .funext x
    rw[tkB,e];simp
   .funext x
    rw[tkB,e];simp
theorem fK(w o:Bool):∀(t:List Int) (k:Nat) (x:Int),tkB w o k t x=true ↔ ∃i,t[i]?=some x/\hat o (k+i)=w
 | [],k,x=>⟨λz=>(by cases z),λ⟨i,h,_⟩=>(by simp at h)⟩
 |h::t,k,x=>by
  rw[tkB,KD,oe,Kk,IU,fK w o t (k+1) x];constructor
  .rintro (⟨rfl,e⟩|⟨i,q,D⟩)
   .exact⟨0,rfl,e⟩
   .exact⟨i+1,by simpa using q,by rw[<- D];congr 1;omega⟩
  .rintro ⟨i,q,D⟩;cases i with
   |zero=>simp at q;exact .inl ⟨q.symm,D⟩
   |succ i=>exact .inr ⟨i,by simpa using q,by rw[<- D];congr 1;omega⟩
noncomputable def frl(c:Int)(t:List Int):List Int:=((range c.toNat).filter λ(k:Nat)=>!decide ((k:Int)∈t)).map λ(k:Nat)=>(k:Int)
def ve{c x:Int}{t:List Int}:x∈frl c t ↔ (0<=x/\x<c)/\x∉t:=by
 unfold frl;rw[mem_map];constructor
 .rintro ⟨k,q,rfl⟩;obtain⟨h1,h2⟩:=IV.mp q;have h1:k<c.toNat:=by simpa using h1
  exact⟨by omega,by simpa using h2⟩
 .rintro ⟨h1,h2⟩;have e:((x.toNat:Nat):Int)=x:=by omega
  refine⟨x.toNat,IV.mpr ⟨by simp;omega,?_⟩,e⟩;rw[e];simpa using h2
def rJ{L:LL}(h:dC L=.non):[]∉L/\L≠[]:=by
 unfold dC at h;split at h
 .cases h
 .rename_i h1;split at h
  .cases h
  .rename_i h2;exact⟨h1,h2⟩
theorem pV(x:Int):∀(b:Bool) (t:List Int),x∈cq b t ↔ ∃i,t[i]?=some x/\(i % 2=0 ↔ b=true)
 |b,[]=>by cases b<;>simp[cq]
 |true,y::t=>by
  show x∈y::cq false t ↔ _;rw[rb,pV x false t];constructor
  .rintro (rfl|⟨i,h1,h2⟩)
   .exact⟨0,rfl,by simp⟩
   .refine⟨i+1,h1,?_⟩;have:¬ i % 2=0:=λz=>by simp[z]at h2
    simp;omega
  .rintro ⟨i,h1,h2⟩;cases i with
   |zero=>left;simpa using h1.symm
   |succ i =>
    right;refine⟨i,h1,?_⟩;have:(i+1) % 2=0:=h2.mpr rfl;simp;omega
 |false,y::t=>by
  show x∈cq true t ↔ _;rw[pV x true t];constructor
  .rintro ⟨i,h1,h2⟩;refine⟨i+1,h1,?_⟩;have:i % 2=0:=h2.mpr rfl;simp;omega
  .rintro ⟨i,h1,h2⟩;cases i with
   |zero=>simp at h2
   |succ i =>
    refine⟨i,h1,?_⟩;have:¬ (i+1) % 2=0:=λz=>by simp[z]at h2
    simp;omega
def pW(o w:Bool)(t:List Int)(x:Int):x∈cq (af o==af w) t ↔ tkB w o 0 t x=true:=by
 rw[pV,fK];have q:(af o==af w)=(o==w):=by cases o<;>cases w<;>decide
 rw[q];refine exists_congr λi=>and_congr_right λ_=>?_
 rw[Kc];unfold hat;by_cases c:i % 2=0<;>cases o<;>cases w<;>simp[c]
noncomputable def tM(Rb:LL)(W:List Int):Bool:=Rb.any λs=>s.all λx=>decide (x∈W)
noncomputable def wA(Rb:LL)(M:List Int):Bool:=Rb.all λs=>s.any λx=>decide (x∈M)
def vf {Rb:LL}{o:Bool}{t:List Int} (nd:t.Nodup) (h1:tM Rb (cq (af o == "weaver") t)=false) (h2:wA Rb (cq (af o == "moth") t)=false):dC (lft o 0 (sortT (Rb.map sortI)) t)=.non:=by
 rw[j9 o t 0 _ nd];have J:[]∉sortT (Ff (tkB false o 0 t) (tkB true o 0 t) (Rb.map sortI)):=λz=>by
  obtain⟨s,q,e⟩:=mem_map.mp (b8.mp z);obtain⟨r,hr,rfl⟩:=mem_map.mp (IV.mp q).1;refine absurd h1 (by
   rw[Bool.not_eq_false];refine Jh.mpr ⟨r,hr,JE.mpr λx hx=>IM ?_⟩;refine(pW o false t x).mpr ?_;have:=Lu.mp e x (bp.mpr hx);simpa using this)
 have U:sortT (Ff (tkB false o 0 t) (tkB true o 0 t) (Rb.map sortI))≠[]:=λz=>by
  refine absurd h2 (by
   rw[Bool.not_eq_false];refine JE.mpr λr hr=>?_
   have n1:∀s,s∉Ff (tkB false o 0 t) (tkB true o 0 t) (Rb.map sortI):=λs q=>by
    have:=b8.mpr q;rw[z]at this;cases this
   cases D:(sortI r).any (tkB true o 0 t)with
   |true =>
    obtain⟨x,hx,Y⟩:=Jh.mp D;exact Jh.mpr ⟨x,bp.mp hx,IM ((pW o true t x).mpr Y)⟩
   |false=>exact absurd (mem_map.mpr ⟨sortI r,IV.mpr ⟨mem_map.mpr ⟨r,hr,rfl⟩,by rw[D];rfl⟩,rfl⟩) (n1 _))
 unfold dC;rw[if_neg J,if_neg U]
def G6{cal:Cal}{W M:List Int}{b:Bool}{y:Int}:ev cal (.cmp .isIn (.bor 0) (.datL (.bor 1) b)) [sv (.int y),sv (.dL (W.map .int) (M.map .int))]=some (.bl (decide (y∈if b=true then W else M))):=by
 have e:ev cal (.datL (.bor 1) b) [sv (.int y),sv (.dL (W.map .int) (M.map .int))]=some (ofL (if b=true then W else M)):=by cases b<;>simp[ev]
 rw[cA (x:=.int y) (by simp[ev]) e];show Option.map _ ((bq (ofL _)).bind (isIn (.int y)))=_;show Option.map _ (isIn (.int y) ((if b=true then W else M).map .int))=_;rw[cD]
 rfl
def jw{cal:Cal}{W M:List Int}{b:Bool}{s:List Int}(hl:s.length<=60):ev cal (.comp .seq [.bor 0] [1] (.cst (.bl true)) (.cmp .isIn (.bor 0) (.datL (.bor 1) b))) [sv (ofL s),sv (.dL (W.map .int) (M.map .int))]=some (.lst (s.map λy=>.bl (decide (y∈if b=true then W else M)))):=
 br (vs:=[ofL s]) (xs:=s) (g:=PV.int) (by simp[evs,ev]) rfl (by omega) λy _=>G6
def jy{α:Type}(xs:List α)(p:α->Bool):aE .all [.lst (xs.map λy=>.bl (p y))]=some (.bl (xs.all p)):=by
 show Option.map _ (d6 _)=_;rw[show(xs.map λy=>PV.bl (p y))=(xs.map p).map .bl by rw[IZ];rfl,iJ];simp[K8]
def g_{α:Type}(xs:List α)(p:α->Bool):aE .any [.lst (xs.map λy=>.bl (p y))]=some (.bl (xs.any p)):=by
 show Option.map _ (d6 _)=_;rw[show(xs.map λy=>PV.bl (p y))=(xs.map p).map .bl by rw[IZ];rfl,iJ];simp[List.any_map]
def EW(n:Nat)(Rb:LL)(o:Bool)(t:List Int)(hR:∀s∈Rb,s.length<=60)(hl:Rb.length<=60)(ht:t.length<=60)(nd:t.Nodup) :
  ∃v,ac defs (n+1) 24 [.val (.lst (Rb.map ofL)),.brw (t.map .int),.val (.str (af o))]=some v/\(gM v=true->dC (lft o 0 (sortT (Rb.map sortI)) t)=.non):=by
 rw[aw (d:=cV) rfl rfl];have hw:=@vf Rb o t nd;generalize Z:cq (af o == "weaver") t=W at hw;generalize hM:cq (af o == "moth") t=M at hw;have e0:ex (ac defs n) (.own3 3 4 5 1 (.var 2)) [sv (.lst (Rb.map ofL)),some (.brw (t.map .int)),sv (.str (af o)),none,none,none]=.next [sv (.lst (Rb.map ofL)),some (.brw (t.map .int)),sv (.str (af o)),sv (.dL (W.map .int) (M.map .int)),sv (.str (bg (af o) t.length)),none]:=by
  have c1:af o="weaver" \/ af o="moth":=by cases o<;>simp[af]
  have c2:t.length<=1000:=by omega
  rw[ex];simp only[ev,getElem?_cons_succ,getElem?_cons_zero,Option.join_some,uu,bJ];simp[vX,c1,bj,bi];rw[bJ];dsimp only;rw[if_pos c2,Z,hM]
 have q:ev (ac defs n) (.blt .any [(.comp .seq [.bor 0] [3] (.cst (.bl true)) (.blt .all [(.comp .seq [.bor 0] [1] (.cst (.bl true)) (.cmp .isIn (.bor 0) (.datL (.bor 1) true)))]))]) [sv (.lst (Rb.map ofL)),some (.brw (t.map .int)),sv (.str (af o)),sv (.dL (W.map .int) (M.map .int)),sv (.str (bg (af o) t.length)),none]=some (.bl (tM Rb W)):=by
  rw[aD (v:=.lst (Rb.map λs=>.bl (s.all λx=>decide (x∈W))))]
  .exact g_ _ _
  .refine br (vs:=[.lst (Rb.map ofL)]) (xs:=Rb) (g:=ofL) (by simp[evs,ev]) rfl (by omega) λs J=>?_
   rw[aD (v:=.lst (s.map λy=>.bl (decide (y∈W))))]
   .exact jy _ _
   .exact jw (b:=true) (hR s J)
 have D:ev (ac defs n) (.blt .all [(.comp .seq [.bor 0] [3] (.cst (.bl true)) (.blt .any [(.comp .seq [.bor 0] [1] (.cst (.bl true)) (.cmp .isIn (.bor 0) (.datL (.bor 1) false)))]))]) [sv (.lst (Rb.map ofL)),some (.brw (t.map .int)),sv (.str (af o)),sv (.dL (W.map .int) (M.map .int)),sv (.str (bg (af o) t.length)),none]=some (.bl (wA Rb M)):=by
  rw[aD (v:=.lst (Rb.map λs=>.bl (s.any λx=>decide (x∈M))))]
  .exact jy _ _
  .refine br (vs:=[.lst (Rb.map ofL)]) (xs:=Rb) (g:=ofL) (by simp[evs,ev]) rfl (by omega) λs J=>?_
   rw[aD (v:=.lst (s.map λy=>.bl (decide (y∈M))))]
   .exact g_ _ _
   .exact jw (b:=false) (hR s J)
 have go:∀v,bG (exs (ac defs n) [.ite _ _ _,.ite _ _ _,.ret _] _)=some v->bG (exs (ac defs n) cV.body [sv (.lst (Rb.map ofL)),some (.brw (t.map .int)),sv (.str (af o)),none,none,none])=some v:=λv h=>bV e0 h
 show ∃v,bG (exs _ cV.body [sv (.lst (Rb.map ofL)),some (.brw (t.map .int)),sv (.str (af o)),none,none,none])=some v/\_;cases U:tM Rb W with
 |true =>
  refine⟨.str "weaver",go _ ?_,λz=>by cases z⟩;rw[U]at q;rw[ax,bW q,if_pos rfl,ax,gw (bu _ _ _)]
  rfl
 |false =>
  rw[U]at q;cases Y:wA Rb M with
  |true =>
   refine⟨.str "moth",go _ ?_,λz=>by cases z⟩;rw[Y]at D;rw[ax,bW q,if_neg kn,exs,aQ,ax,bW D,if_pos rfl,ax,gw (bu _ _ _)]
   rfl
  |false =>
   refine⟨.non,go _ ?_,λ_=>hw U Y⟩;rw[Y]at D;rw[ax,bW q,if_neg kn,exs,aQ,ax,bW D,if_neg kn,exs,aQ];exact cM (bu _ _ _)
noncomputable def cI(w:Bool×List Int):PV:=if w.1=true then ofL w.2 else ofS w.2
def vg(w:Bool×List Int):bq (cI w)=some (w.2.map .int):=by
 unfold cI;split<;>rfl
def ou(w:Bool×List Int):cI w=ofL w.2\/cI w=ofS w.2:=by
 unfold cI;split
 .exact .inl rfl
 .exact .inr rfl
def tN(x:PV){ns:List Int}(h:bq x=some (ns.map .int))(hl:ns.length<=1000):aE .lenSet [x]=some (.int (dd ns).length):=by
 show((bq x).bind λxs=>(bO xs).bind λns=>if ns.length<=4000 then some (PV.int (dd ns).length)else none)=_;rw[h,bind_some,bJ,bind_some,if_pos (IK hl (by decide))]
def vh(w:Bool×List Int):aE .len [cI w]=some (.int w.2.length):=by
 rcases ou w with e|e<;>rw[e]<;>simp
theorem kH(n:Nat)(a:MV)(count:Int):∀(r:List Int) (kk:Option MV),(∀x∈r,0<=x/\x<count) ->
  ∃q,aT (λx C=>exs (ac defs (n+1)) cE (put C 2 (.val x))) (r.map .int) [some a,sv (.int count),kk]=.next [some a,sv (.int count),q]
 | [],kk,_=>⟨kk,rfl⟩
 |t::r,kk,h=>by
  rw[IT,aT];have e:exs (ac defs (n+1)) cE (put [some a,sv (.int count),kk] 2 (.val (.int t)))=.next [some a,sv (.int count),sv (.int t)]:=by
   simp[cE,exs,ex,ev,evB,evA,tI n t count (h t (.head _))]
  rw[e];exact kH n a count r _ λx hx=>h x (.tail _ hx)
def BB(n:Nat)(w:Bool×List Int)(count:Int)(h:(∀x∈w.2,0<=x/\x<count)/\w.2.Nodup/\w.2≠[]/\w.2.length<=60):ac defs (n+2) 10 [.val (cI w),.val (.int count)]=some .non:=by
 obtain⟨h1,h2,h3,h4⟩:=h;obtain⟨Y,e⟩:=kH n (.val (cI w)) count w.2 none h1;have hl:¬ ((w.2.length:Int)=0):=by have:=length_pos_iff.mpr h3;omega
 have J:ac defs (n+1) 2 [.val (cI w)]=some (.bl true):=by
  rw[aw (d:=gX) rfl rfl];have D:=tN (cI w) (vg w) (by omega);rw[uZ h2]at D;have U:=vh w;show bG (exs (ac defs n) [_] [sv (cI w)])=_;rw[ax,gw (v:=.bl true)]
  .rfl
  .rw[ev,aD (v:=cI w) (by simp[ev]),aD (v:=cI w) (by simp[ev]),D,U];simp
 rw[aw (d:=fq) rfl rfl];have q:(evs (ac defs (n+1)) [.bor 0] [sv (cI w),sv (.int count),none]).bind (cm .seq)=some (w.2.map .int):=by
  rw[show evs (ac defs (n+1)) [.bor 0] [sv (cI w),sv (.int count),none]=some [cI w]from by simp[evs,ev],bind_some,pM,vg]
 show bG (exs (ac defs (n+1)) (_::_::[_]) [sv (cI w),sv (.int count),none])=_;simp only[ax];rw[show ex (ac defs (n+1)) (.ite (.cmp .eq (.blt .len [.bor 0]) (ci 0)) [.never] []) [sv (cI w),sv (.int count),none]=.next [sv (cI w),sv (.int count),none]from by
  rw[ex,show evB (ac defs (n+1)) (.cmp .eq (.blt .len [.bor 0]) (ci 0)) [sv (cI w),sv (.int count),none]=some false from by
   rw[evB,ev,aD (v:=cI w) (by simp[ev]),vh];simp[ev,hl,h3],fm,if_neg (by decide),exs],aQ]
 rw[dN q,show bD [.bor 0] [sv (cI w),sv (.int count),none]=[sv (cI w),sv (.int count),none]from rfl,e,og,aQ];simp[exs,ex,ev,evA,evB,J,bh]
theorem mP(n:Nat)(count:Int)(m:MV):∀(W:List (Bool×List Int)) (y:Option MV),(∀w∈W,(∀x∈w.2,0<=x/\x<count)/\w.2.Nodup/\w.2≠[]/\w.2.length<=60) ->
  ∃q,aT (λx C=>exs (ac defs (n+2)) dJ (put C 2 (.val x))) (W.map cI) [sv (.int count),some m,y]=.next [sv (.int count),some m,q]
 | [],y,_=>⟨y,rfl⟩
 |w::W,y,h=>by
  rw[IT,aT];have D:=BB n w count (h w (.head _));have e:exs (ac defs (n+2)) dJ (put [sv (.int count),some m,y] 2 (.val (cI w)))=.next [sv (.int count),some m,sv (cI w)]:=by
   simp[dJ,exs,ex,ev,evA,D]
  rw[e];exact mP n count m W _ λv J=>h v (.tail _ J)
def rK(n:Nat)(m:MV)(v:PV)(W:List (Bool×List Int))(hm:bx (some m)=some v)(q:bq v=some (W.map cI))(hl:aE .len [v]=some (.int W.length))(h:∀w∈W,(∀x∈w.2,0<=x/\x<=59)/\w.2.length<=60)(h6:W.length<=60) :
  ac defs (n+3) 4 [m]=some (ofR (sortT (W.map λw=>eJ w.2))):=by
 rw[aw (d:=gY) rfl rfl];have h1:¬ (60:Int)<(W.length:Int):=by omega
 have D:ev (ac defs (n+2)) (.comp .seq [.bor 0] [] (.cst (.bl true)) (.call 3 [.bor 0])) [some m]=some (.lst ((W.map λw=>eJ w.2).map ofS)):=by
  refine(br (g:=cI) (h:=λw=>ofS (eJ w.2)) (vs:=[v]) (by simp[evs,ev,hm]) (by rw[pM];exact q) (by omega) λw hw=>?_).trans (by rw[IZ];rfl);exact bb (vs:=[.val (cI w)]) (by simp[evA,cW]) (pU n (cI w) w.2 (ou w) (h w hw).1 (by have:=(h w hw).2;omega))
 have J:d7 ((W.map λw=>eJ w.2).map ofS)=some (.lst ((sortT (W.map λw=>eJ w.2)).map ofS)):=jW (by rw[ox];omega);show bG (exs (ac defs (n+2)) (_::[_]) [some m])=_;simp only[ax];rw[show ex (ac defs (n+2)) (.ite (.cmp .gt (.blt .len [.bor 0]) (.glob "MOST_STRIPS" (.int 60))) [.never] []) [some m]=.next [some m]from by
  rw[ex,show evB (ac defs (n+2)) (.cmp .gt (.blt .len [.bor 0]) (.glob "MOST_STRIPS" (.int 60))) [some m]=some false from by
   rw[evB,ev,aD (v:=v) (by simp[ev,hm]),hl];simp[ev,h1],fm,if_neg (by decide),exs],aQ]
 rw[gw (v:=ofR (sortT (W.map λw=>eJ w.2)))]
 .rfl
 .rw[aD (v:=.lst ((sortT (W.map λw=>eJ w.2)).map ofS))]
  .rfl
  .rw[aD D,tu,Bd,bind_some,J]
def EX(n:Nat)(m:MV)(v:PV)(count:Int)(W:List (Bool×List Int))(hm:bx (some m)=some v)(ha:cR (some m)=some m)(J:∀xs,m≠.own xs)(Z:bq v=some (W.map cI))(hl:aE .len [v]=some (.int W.length))(h0:0<=count)(h6:count<=60)
  (h:∀w∈W,(∀x∈w.2,0<=x/\x<count)/\w.2.Nodup/\w.2≠[]/\w.2.length<=60) (hW:W.length<=60):ac defs (n+4) 11 [.val (.int count),m]=some (.tup [.int count,ofR (sortT (W.map λw=>eJ w.2))]):=by
 have er:=rK n m v W hm Z hl (λw hw=>⟨λx hx=>by have:=(h w hw).1 x hx;omega,(h w hw).2.2.2⟩) hW;obtain⟨y,e⟩:=mP (n+1) count m W none h;have eb:=tI (n+2) count 61 ⟨h0,by omega⟩;have h1:¬ (60:Int)<(W.length:Int):=by omega
 rw[aw (d:=gZ) rfl rfl];have U:(evs (ac defs (n+3)) [.bor 1] [sv (.int count),some m,none]).bind (cm .seq)=some (W.map cI):=by
  rw[show evs (ac defs (n+3)) [.bor 1] [sv (.int count),some m,none]=some [v]from by simp[evs,ev,hm],bind_some,pM,Z]
 have q:bD [.bor 1] [sv (.int count),some m,none]=[sv (.int count),some m,none]:=by
  cases m<;>first|exact absurd rfl (J _)|rfl
 have D:∀G,bh [.bor 1] [sv (.int count),some m,none] G=G:=λG=>by
  cases m<;>first|exact absurd rfl (J _)|rfl
 show bG (exs (ac defs (n+3)) (_::_::_::[_]) [sv (.int count),some m,none])=_;simp only[ax];rw[show ex (ac defs (n+3)) (.ite (.not (.call 1 [.bor 0,(.bin .add (.glob "HOLE_COUNT" (.int 60)) (ci 1))])) [.never] []) [sv (.int count),some m,none]=.next [sv (.int count),some m,none]from by simp[ex,exs,ev,evA,evB,eb],aQ];rw[show ex (ac defs (n+3)) (.ite (.cmp .gt (.blt .len [.bor 1]) (.glob "MOST_STRIPS" (.int 60))) [.never] []) [sv (.int count),some m,none]=.next [sv (.int count),some m,none]from by
  rw[ex,show evB (ac defs (n+3)) (.cmp .gt (.blt .len [.bor 1]) (.glob "MOST_STRIPS" (.int 60))) [sv (.int count),some m,none]=some false from by
   rw[evB,ev,aD (v:=v) (by simp[ev,hm]),hl];simp[ev,h1],fm,if_neg (by decide),exs],aQ]
 rw[dN U,q,e,og,aQ,D];have Y:ev (ac defs (n+3)) (.call 4 [.bor 1]) [sv (.int count),some m,y]=some (ofR (sortT (W.map λw=>eJ w.2))):=bb (vs:=[m]) (by simp[evA,ha]) er;rw[gw (v:=.tup [.int count,ofR (sortT (W.map λw=>eJ w.2))])]
 .rfl
 .rw[ev,evs,evs,Y];simp[ev,evs]
structure Rib(count:Int)(r:List Int):Prop where
 d:r.Nodup
 m:∀x∈r,0<=x/\x<count
 l:r.length<=5
theorem rL(cal:Cal)(count:Int)(h1:1<=count)(h6:count<=60)(Z a3:Option MV):∀(xs:List PV) (left:Int) (D:List Int) (k:Option MV),D.Nodup->(∀x∈D,0<=x/\x<count)->D.length+xs.length<=5 ->
  ∃Y U k',aT (λx C=>exs cal di (put C 5 (.val x))) xs [Z,sv (.int count),sv (.int left),a3,some (.own (D.map .int)),k]=.next [Z,sv (.int count),sv (.int Y),a3,some (.own (U.map .int)),k']/\Rib count U/\(D≠[]\/xs≠[]->U≠[])
 | [],left,D,k,d,m,l=>⟨left,D,k,rfl,⟨d,m,by simpa using l⟩,λh=>h.elim id λz=>absurd rfl z⟩
 |x::xs,left,D,k,d,m,l=>by
  rw[length_cons]at l;have hp:(0:Int)<count:=by omega
  have hc:count<1073741824:=by omega
  have m0:0<=left % count:=JT _ (by omega);have m1:left % count<count:=JN _ hp;have em:∀(D:List Int),ev cal (.bin .mod (.bor 2) (.bor 1)) [Z,sv (.int count),sv (.int left),a3,some (.own (D.map .int)),sv x]=some (.int (left % count)):=λD=>by simp[ev,hp]
  have ef:∀(D:List Int),ev cal (.bin .fdiv (.bor 2) (.bor 1)) [Z,sv (.int count),sv (.int left),a3,some (.own (D.map .int)),sv x]=some (.int (left / count)):=λD=>by simp[ev,hp,hc]
  have et:ev cal (.cmp .notIn (.bin .mod (.bor 2) (.bor 1)) (.bor 4)) [Z,sv (.int count),sv (.int left),a3,some (.own (D.map .int)),sv x]=some (.bl (!decide (left % count∈D))):=by
   rw[ev,em];simp[ev,cD]
  have key:∃J,exs cal di (put [Z,sv (.int count),sv (.int left),a3,some (.own (D.map .int)),k] 5 (.val x))=.next [Z,sv (.int count),sv (.int (left / count)),a3,some (.own (J.map .int)),sv x]/\J.Nodup/\(∀x∈J,0<=x/\x<count)/\J.length<=D.length+1/\J≠[]:=by
   simp only[bj,bi,di];by_cases hi:left % count∈D
   .refine⟨D,?_,d,m,by omega,ne_nil_of_mem hi⟩;rw[IM hi]at et;refine pN (by rw[bW et,if_neg (by decide),exs]) ?_;refine g9 ?_;rw[jZ (ef D)]
    rfl
   .refine⟨D++[left % count],?_,?_,λy hy=>?_,by simp,by simp⟩
    .rw[IQ hi]at et;refine pN (C:=[Z,sv (.int count),sv (.int left),a3,some (.own ((D++[left % count]).map .int)),sv x]) ?_ ?_
     .rw[bW et,if_pos (by decide)];refine g9 ?_;rw[eV (em D) rfl (by rw[ox];omega),Js]
      rfl
     .refine g9 ?_;rw[jZ (ef _)]
      rfl
    .rw[LF];exact⟨d,by simp,λa ha b hb z=>hi (by rw[IS.mp hb]at z;exact z▸ha)⟩
    .rcases Kq.mp hy with hy|hy
     .exact m y hy
     .rw[IS.mp hy];exact⟨m0,m1⟩
  obtain⟨J,e,d1,a5,l1,n1⟩:=key;obtain⟨Y,U,k',q,r,ne⟩:=rL cal count h1 h6 Z a3 xs (left / count) J (sv x) d1 a5 (by omega);exact⟨Y,U,k',by rw[cB e,q],r,λ_=>ne (.inl n1)⟩
def rM(n:Nat)(cell count:Int)(h1:1<=count)(h6:count<=60):∃r,ac defs (n+2) 22 [.val (.int cell),.val (.int count)]=some (ofL r)/\Rib count r/\r≠[]:=by
 rw[aw (d:=gq) rfl rfl];have Y:=k_ n cell 1181783497276652981;have U:=gx cell 1181783497276652981;generalize oh cell 1181783497276652981=m at Y U;have s0:0<=m % 5:=JT _ (by decide);have s1:m % 5<5:=JN _ (by decide);obtain⟨J,D,Z,q,r,ne⟩:=rL (ac defs (n+1)) count h1 h6 (sv (.int cell)) (sv (.int (1+m % 5))) ((range (1+m % 5).toNat).map λ(k:Nat)=>.int (k:Int)) (m / 5) [] none .nil (λ_ h=>by cases h) (by rw[ox,length_range];simp;omega);refine⟨D,?_,r,ne (.inr λz=>?_)⟩
 .show bG (exs _ [.set 2 _,.set 3 _,.set 2 _,.setOwn 4 _,.for1 5 .rng _ _,.retOwn 4] [sv (.int cell),sv (.int count),none,none,none,none])=_;refine kG (v:=.int m) (by simp[ev,evA,Y]) ?_;simp only[bj,bi];refine kG (v:=.int (1+m % 5)) (by simp[ev]) ?_;simp only[bj,bi];refine kG (v:=.int (m / 5)) (by simp[ev]) ?_;simp only[bj,bi];refine bV (eU (xs:=[]) (by simp[ev,evs])) ?_;simp only[bj,bi];refine bV (C:=[sv (.int cell),sv (.int count),sv (.int J),sv (.int (1+m % 5)),some (.own (D.map .int)),Z]) ?_ ?_
  .rw[dN (xs:=(range (1+m % 5).toNat).map λ(k:Nat)=>.int (k:Int)) (by simp[evs,ev];exact fo (by omega) (by omega))];show(aT _ _ [_,_,_,_,some (.own ([].map .int)),none]).back _ _=_;rw[q]
   rfl
  simp[exs,ex]
 .have:=JP List.length z;rw[ox,length_range]at this;simp at this;omega
def rN{o:Bool}{t:List Int}{x:Int}(nd:t.Nodup)(h1:tkB false o 0 t x=true)(h2:tkB true o 0 t x=true):False:=by
 obtain⟨i,D,J⟩:=(fK false o t 0 x).mp h1;obtain⟨j,U,q⟩:=(fK true o t 0 x).mp h2;have:i=j:=by
  obtain⟨l1,Y⟩:=vp.mp D;obtain⟨l2,Z⟩:=vp.mp U;exact(getElem_inj nd).mp (Y.trans Z.symm)
 subst this;rw[J]at q;cases q
def G7 {Rb:LL}{o:Bool}{t:List Int} (nd:t.Nodup) (h1:tM Rb (cq (af o == "weaver") t)=true):dC (lft o 0 (sortT (Rb.map sortI)) t)=.str "weaver":=by
 rw[j9 o t 0 _ nd];obtain⟨r,hr,D⟩:=Jh.mp h1;have q:∀x∈r,tkB false o 0 t x=true:=λx hx=>(pW o false t x).mp (IX (JE.mp D x hx))
 have:[]∈sortT (Ff (tkB false o 0 t) (tkB true o 0 t) (Rb.map sortI)):=by
  refine b8.mpr (mem_map.mpr ⟨sortI r,IV.mpr ⟨mem_map.mpr ⟨r,hr,rfl⟩,?_⟩,?_⟩)
  .rw[Jb,KQ];exact λx hx z=>rN nd (q x (bp.mp hx)) z
  .refine Lu.mpr λx hx=>?_
   rw[q x (bp.mp hx)]
   decide
 unfold dC;rw[if_pos this]
def G8 {Rb:LL}{o:Bool}{t:List Int} (nd:t.Nodup) (h1:tM Rb (cq (af o == "weaver") t)=false) (h2:wA Rb (cq (af o == "moth") t)=true):dC (lft o 0 (sortT (Rb.map sortI)) t)=.str "moth":=by
 rw[j9 o t 0 _ nd];have e:Ff (tkB false o 0 t) (tkB true o 0 t) (Rb.map sortI)=[]:=by
  unfold Ff;rw[map_eq_nil_iff,Lu];intro s q;obtain⟨r,hr,rfl⟩:=mem_map.mp q;obtain⟨x,hx,D⟩:=Jh.mp (JE.mp h2 r hr);have:=(pW o true t x).mp (IX D);rw[Jh.mpr ⟨x,bp.mpr hx,this⟩]
  decide
 rw[e]
 rfl
def BC(n:Nat)(Rb:LL)(o:Bool)(t:List Int)(hR:∀s∈Rb,s.length<=60)(hl:Rb.length<=60)(ht:t.length<=60)(nd:t.Nodup) :
  ac defs (n+1) 24 [.val (.lst (Rb.map ofL)),.val (ofL t),.val (.str (af o))]=some (dC (lft o 0 (sortT (Rb.map sortI)) t)).pv:=by
 rw[aw (d:=cV) rfl rfl];have hw:=@vf Rb o t nd;have D:=@G7 Rb o t nd;have q:=@G8 Rb o t nd;generalize hW:cq (af o == "weaver") t=W at hw D q;generalize hM:cq (af o == "moth") t=M at hw q;have e0:ex (ac defs n) (.own3 3 4 5 1 (.var 2)) [sv (.lst (Rb.map ofL)),sv (ofL t),sv (.str (af o)),none,none,none]=.next [sv (.lst (Rb.map ofL)),sv (ofL t),sv (.str (af o)),sv (.dL (W.map .int) (M.map .int)),sv (.str (bg (af o) t.length)),none]:=by
  have c1:af o="weaver" \/ af o="moth":=by cases o<;>simp[af]
  have c2:t.length<=1000:=by omega
  rw[ex];simp only[ev,getElem?_cons_succ,getElem?_cons_zero,Option.join_some,uu,bJ];simp[vX,c1,bj,bi];rw[bJ];dsimp only;rw[if_pos c2,hW,hM]
 have J:ev (ac defs n) (.blt .any [(.comp .seq [.bor 0] [3] (.cst (.bl true)) (.blt .all [(.comp .seq [.bor 0] [1] (.cst (.bl true)) (.cmp .isIn (.bor 0) (.datL (.bor 1) true)))]))]) [sv (.lst (Rb.map ofL)),sv (ofL t),sv (.str (af o)),sv (.dL (W.map .int) (M.map .int)),sv (.str (bg (af o) t.length)),none]=some (.bl (tM Rb W)):=by
  rw[aD (v:=.lst (Rb.map λs=>.bl (s.all λx=>decide (x∈W))))]
  .exact g_ _ _
  .refine br (vs:=[.lst (Rb.map ofL)]) (xs:=Rb) (g:=ofL) (by simp[evs,ev]) rfl (by omega) λs hs=>?_
   rw[aD (v:=.lst (s.map λy=>.bl (decide (y∈W))))]
   .exact jy _ _
   .exact jw (b:=true) (hR s hs)
 have Y:ev (ac defs n) (.blt .all [(.comp .seq [.bor 0] [3] (.cst (.bl true)) (.blt .any [(.comp .seq [.bor 0] [1] (.cst (.bl true)) (.cmp .isIn (.bor 0) (.datL (.bor 1) false)))]))]) [sv (.lst (Rb.map ofL)),sv (ofL t),sv (.str (af o)),sv (.dL (W.map .int) (M.map .int)),sv (.str (bg (af o) t.length)),none]=some (.bl (wA Rb M)):=by
  rw[aD (v:=.lst (Rb.map λs=>.bl (s.any λx=>decide (x∈M))))]
  .exact jy _ _
  .refine br (vs:=[.lst (Rb.map ofL)]) (xs:=Rb) (g:=ofL) (by simp[evs,ev]) rfl (by omega) λs hs=>?_
   rw[aD (v:=.lst (s.map λy=>.bl (decide (y∈M))))]
   .exact g_ _ _
   .exact jw (b:=false) (hR s hs)
 have go:∀v,bG (exs (ac defs n) [.ite _ _ _,.ite _ _ _,.ret _] _)=some v->bG (exs (ac defs n) cV.body [sv (.lst (Rb.map ofL)),sv (ofL t),sv (.str (af o)),none,none,none])=some v:=λv h=>bV e0 h
 show bG (exs _ cV.body [sv (.lst (Rb.map ofL)),sv (ofL t),sv (.str (af o)),none,none,none])=_;cases U:tM Rb W with
 |true =>
  rw[D U];refine go _ ?_;rw[U]at J;rw[ax,bW J,if_pos rfl,ax,gw (bu _ _ _)]
  rfl
 |false =>
  rw[U]at J;cases Z:wA Rb M with
  |true =>
   rw[q U Z];refine go _ ?_;rw[Z]at Y;rw[ax,bW J,if_neg kn,exs,aQ,ax,bW Y,if_pos rfl,ax,gw (bu _ _ _)]
   rfl
  |false =>
   rw[hw U Z];refine go _ ?_;rw[Z]at Y;rw[ax,bW J,if_neg kn,exs,aQ,ax,bW Y,if_neg kn,exs,aQ];exact cM (bu _ _ _)
noncomputable def tb(t:List Int)(b:Int):List Int:=((range t.length).filter λ(k:Nat)=>decide ((k:Int) % 2=b)).map λk=>t.getD k 0
def zx{t:List Int}{b x:Int}:x∈tb t b ↔ ∃i:Nat,t[i]?=some x/\(i:Int) % 2=b:=by
 unfold tb;rw[mem_map];constructor
 .rintro ⟨k,D,rfl⟩;obtain⟨h1,h2⟩:=IV.mp D;have h1:k<t.length:=by simpa using h1
  exact⟨k,by simp[List.getD,h1],IX h2⟩
 .rintro ⟨i,q,J⟩;have h1:i<t.length:=(vp.mp q).1;refine⟨i,IV.mpr ⟨by simpa using h1,IM J⟩,?_⟩;simp[List.getD,q]
def EY{o:Bool}{b:Int}(J:b=if o=true then 1 else 0)(t:List Int):(tkB false o 0 t=λx=>decide (x∈sortI (tb t b)))/\tkB true o 0 t=λx=>decide (x∈sortI (tb t (1-b))):=by
 constructor
 .funext x
  rw[Jt,fK,Kk,bp,zx];refine⟨λ⟨i,D,q⟩=>⟨i,D,?_⟩,λ⟨i,D,q⟩=>⟨i,D,?_⟩⟩
  .rw[Kc]at q;unfold hat at q;subst J;cases o<;>simp at q ⊢<;>omega
  .rw[Kc];unfold hat;subst J;cases o<;>simp at q ⊢<;>omega
 .funext x
  rw[Jt,fK,Kk,bp,zx];refine⟨λ⟨i,D,q⟩=>⟨i,D,?_⟩,λ⟨i,D,q⟩=>⟨i,D,?_⟩⟩
  .rw[Kc]at q;unfold hat at q;subst J;cases o<;>simp at q ⊢<;>omega
  .rw[Kc];unfold hat;subst J;cases o<;>simp at q ⊢<;>omega
def pX(p:Int->Bool)(l:List Int):sortI (l.filter p)=(sortI l).filter p:=by
 rw[<- sortI_id (l:=(sortI l).filter p) ((sortI_rises l).filter _)];exact sortI_of_perm (((sortI_perm l).filter p).symm)
def wB(p:Int->Bool)(l:List Int):(sortI l).any p=l.any p:=by
 rw[Jt,Jh,Jh];exact⟨λ⟨x,h,q⟩=>⟨x,bp.mp h,q⟩,λ⟨x,h,q⟩=>⟨x,bp.mpr h,q⟩⟩
noncomputable def Fg(q D:Int->Bool)(Rb:LL):LL:=(Rb.filter λs=>!s.any D).map λs=>sortI (s.filter λx=>!q x)
theorem Ci(D q:Int->Bool):∀Rb:LL,Fg D q Rb=Ff D q (Rb.map sortI)
 | []=>rfl
 |s::Rb=>by
  have ih:=Ci D q Rb;unfold Fg Ff at ih ⊢;rw[IT,Le,Le,wB];cases s.any q with
  |true=>exact ih
  |false =>
   show sortI _::_=_::_;rw[ih,pX]
def tO(x:Int)(t:List Int):isIn (.int x) (t.map .int)=some (decide (x∈t)):=by rw[cD]
theorem rO(cal:Cal)(K t:List Int)(a b d:Option MV):∀(Rb D:LL) (U:Option MV),(∀s∈Rb,s.length<=60)->D.length+Rb.length<10000 ->
  ∃J,aT (λx C=>exs cal gr (put C 6 (.val x))) (Rb.map ofL) [a,sv (ofL t),b,d,sv (ofL K),some (.own (D.map ofS)),U]
  =.next [a,sv (ofL t),b,d,sv (ofL K),some (.own ((D++Fg (λx=>decide (x∈K)) (λx=>decide (x∈t)&&!decide (x∈K)) Rb).map ofS)),J]
 | [],D,U,_,_=>⟨U,by simp[Fg,aT]⟩
 |s::Rb,D,U,hs,hl=>by
  rw[length_cons]at hl;have h1:=hs s (.head _);have Y:ev cal (.blt .any [(.comp .seq [.bor 6] [1,4] (.cst (.bl true)) (.and (.cmp .isIn (.bor 0) (.bor 1)) (.cmp .notIn (.bor 0) (.bor 2))))]) [a,sv (ofL t),b,d,sv (ofL K),some (.own (D.map ofS)),sv (ofL s)]=some (.bl (s.any λx=>decide (x∈t)&&!decide (x∈K))):=by
   rw[aD (v:=.lst (s.map λx=>.bl (decide (x∈t)&&!decide (x∈K))))]
   .exact g_ _ _
   .refine br (vs:=[ofL s]) (xs:=s) (g:=PV.int) rfl rfl (by omega) λx _=>?_
    refine EJ ?_ λ_=>zh (x:=.int x) (xs:=K.map .int) (tO x K) rfl rfl rfl
    rw[cA (x:=.int x) (y:=ofL t) rfl rfl];show(isIn (.int x) (t.map .int)).map PV.bl=_;rw[tO]
    rfl
  have e2:ev cal (.blt .tupleOf [(.blt .sorted [(.comp .seq [.bor 6] [4] (.cmp .notIn (.bor 0) (.bor 1)) (.var 0))])]) [a,sv (ofL t),b,d,sv (ofL K),some (.own (D.map ofS)),sv (ofL s)]=some (ofS (sortI (s.filter λx=>!decide (x∈K)))):=by
   have ao:(s.filter λx=>!decide (x∈K)).length<64:=by have:=K4 (λx=>!decide (x∈K)) s;omega
   rw[aD (v:=ofL (sortI (s.filter λx=>!decide (x∈K))))]
   .rfl
   .rw[aD (v:=.lst ((s.filter λx=>!decide (x∈K)).map .int))]
    .exact n_ ao
    .exact mM (vs:=[ofL s]) (xs:=s) (g:=PV.int) rfl rfl (by omega) (λx _=>zh (x:=.int x) (xs:=K.map .int) (tO x K) rfl rfl rfl) λx _ _=>rfl
  have e:exs cal gr (put [a,sv (ofL t),b,d,sv (ofL K),some (.own (D.map ofS)),U] 6 (.val (ofL s)))
   =.next [a,sv (ofL t),b,d,sv (ofL K),some (.own ((D++Fg (λx=>decide (x∈K)) (λx=>decide (x∈t)&&!decide (x∈K)) [s]).map ofS)),sv (ofL s)]:=by
   have aL:D.length<10000:=by omega
   cases Z:s.any λx=>decide (x∈t)&&!decide (x∈K)with
   |true =>
    rw[Z]at Y;have:Fg (λx=>decide (x∈K)) (λx=>decide (x∈t)&&!decide (x∈K)) [s]=[]:=by unfold Fg;rw[Le,Z];rfl
    rw[this,JW];exact EL (zg Y) rfl
   |false =>
    rw[Z]at Y;have:Fg (λx=>decide (x∈K)) (λx=>decide (x∈t)&&!decide (x∈K)) [s]=[sortI (s.filter λx=>!decide (x∈K))]:=by unfold Fg;rw[Le,Z];rfl
    rw[this,Js];exact Cf (zg Y) (g9 (Ce rfl e2 (by rw[ox];exact aL))) rfl
  rw[IT,cB e];obtain⟨J,q⟩:=rO cal K t a b d Rb (D++Fg (λx=>decide (x∈K)) (λx=>decide (x∈t)&&!decide (x∈K)) [s]) (sv (ofL s)) (λs a0=>hs s (.tail _ a0)) (by
   have:(Fg (λx=>decide (x∈K)) (λx=>decide (x∈t)&&!decide (x∈K)) [s]).length<=1:=by unfold Fg;rw[ox];exact K4 _ _
   rw[I0];omega)
  refine⟨J,?_⟩;rw[q,KN];have:Fg (λx=>decide (x∈K)) (λx=>decide (x∈t)&&!decide (x∈K)) [s]++Fg (λx=>decide (x∈K)) (λx=>decide (x∈t)&&!decide (x∈K)) Rb=Fg (λx=>decide (x∈K)) (λx=>decide (x∈t)&&!decide (x∈K)) (s::Rb):=by
   unfold Fg;rw[<- Js,<- filter_append]
   rfl
  rw[this]
noncomputable def bI(o:Bool):Int:=if o=true then 1 else 0
def IA(cal:Cal)(t:List Int)(b:Int)(hl:t.length<=60)(D J U Y Z:Option MV):ev cal (.comp .rng [(.blt .len [.bor 1])] [1,3] (.cmp .eq (.bin .mod (.bor 0) (ci 2)) (.bor 2)) (.idx (.bor 1) (.bor 0))) [D,sv (ofL t),J,sv (.int b),U,Y,Z]=some (ofL (tb t b)):=by
 rw[ev,show evs cal [(.blt .len [.bor 1])] [D,sv (ofL t),J,sv (.int b),U,Y,Z]=some [.int t.length]from by simp[evs,ev],bind_some,fo (by omega) (by omega),bind_some,if_pos (by simp;omega),cQ (p:=λ(k:Nat)=>decide ((k:Int) % 2=b)) (h:=λ(k:Nat)=>.int (t.getD k 0))]
 .unfold tb;show some (PV.lst _)=some (PV.lst ((map _ _).map PV.int));rw[IZ];simp only[Int.toNat_natCast]
  rfl
 .intro k _;simp[ev,cW,Bn]
 .intro k q _;have q:k<t.length:=by simpa using q
  simp[ev,cW,mJ (show(0:Int)<=(k:Nat)by omega) (show((k:Nat):Int)<t.length by omega),q]
def wC(n:Nat)(Rb:LL)(o:Bool)(t:List Int)(hR:∀s∈Rb,s.length<=60)(hl:Rb.length<=60)(ht:t.length<=60)(nd:t.Nodup) :
  ac defs (n+1) 26 [.val (.lst (Rb.map ofL)),.val (ofL t),.val (.str (af o))]=some (ofR (lft o 0 (sortT (Rb.map sortI)) t)):=by
 rw[aw (d:=iM) rfl rfl];have Y:bI o=if o=true then 1 else 0:=rfl
 obtain⟨Z,k2⟩:=EY Y t;have q:tkB false o 0 t=λx=>decide (x∈tb t (bI o)):=by rw[Z];funext x;rw[decide_eq_decide];exact bp
 have J:tkB true o 0 t=λx=>decide (x∈t)&&!decide (x∈tb t (bI o)):=by
  funext x
  have h1:=rN (o:=o) (x:=x) nd;rw[q]at h1;have h2:=fK true o t 0 x;have h3:=fK false o t 0 x;rw[q]at h3;rw[Jt,oe,Kk,Jb];constructor
  .intro h;obtain⟨i,e,_⟩:=h2.mp h;refine⟨JR e,?_⟩;cases hd:decide (x∈tb t (bI o))with
   |false=>rfl
   |true=>exact(h1 hd h).elim
  .rintro ⟨hm,hn⟩;obtain⟨i,hi,e⟩:=getElem_of_mem hm;refine h2.mpr ⟨i,by rw[IP hi,e],?_⟩;cases hh:hat o (0+i)with
   |true=>rfl
   |false=>exact absurd ((h3.mpr ⟨i,by rw[IP hi,e],hh⟩).symm.trans hn) (by decide)
 rw[j9 o t 0 _ nd,q,J,<- Ci];obtain⟨U,e⟩:=rO (ac defs n) (tb t (bI o)) t (sv (.lst (Rb.map ofL))) (sv (.str (af o))) (sv (.int (bI o))) Rb [] none hR (by simp;omega);rw[nil_append,map_nil]at e;have D:(Fg (λx=>decide (x∈tb t (bI o))) (λx=>decide (x∈t)&&!decide (x∈tb t (bI o))) Rb).length<64:=by
  unfold Fg;rw[ox];exact Jc (K4 _ _) (by omega)
 generalize Fg (λx=>decide (x∈tb t (bI o))) (λx=>decide (x∈t)&&!decide (x∈tb t (bI o))) Rb=L at e D;show bG (exs _ [.set 3 _,.set 4 _,.setOwn 5 _,.for1 6 .seq _ _,.ret _] [sv (.lst (Rb.map ofL)),sv (ofL t),sv (.str (af o)),none,none,none,none])=_;refine kG (v:=.int (bI o)) (by cases o<;>rfl) ?_;refine kG (IA _ t (bI o) ht _ _ _ _ _) ?_;refine bV (eU (xs:=[]) rfl) ?_;refine bV (C:=[sv (.lst (Rb.map ofL)),sv (ofL t),sv (.str (af o)),sv (.int (bI o)),sv (ofL (tb t (bI o))),some (.own (L.map ofS)),U]) ?_ (cM ?_)
 .rw[dN (xs:=Rb.map ofL) rfl];show(aT _ _ [sv (.lst (Rb.map ofL)),sv (ofL t),sv (.str (af o)),sv (.int (bI o)),sv (ofL (tb t (bI o))),some (.own []),none]).back _ _=_;rw[e]
  rfl
 .rw[aD (v:=.lst ((sortT L).map ofS))]
  .rfl
  .rw[aD (v:=.lst (L.map ofS)) rfl];exact jW D
def zy(n:Nat)(c:Int)(Rb:LL)(o:Bool)(t:List Int)(hc:0<=c/\c<=60)(hR:∀s∈Rb,s≠[]/\s.length<=60/\∀x∈s,0<=x/\x<=60)(ht:∀x∈t,0<=x/\x<=60)(hl:Rb.length<=60)(U:t.length<=60) :
  ac defs (n+1) 23 [.val (.int c),.val (.lst (Rb.map ofL)),.val (.str (af o)),.val (ofL t)]=some (.str (cv c (sortT (Rb.map sortI)) o t)):=by
 rw[aw (d:=eE) rfl rfl];have q:∀s∈sortT (Rb.map sortI),s≠[]/\s.length<=60/\∀x∈s,0<=x/\x<=60:=λs D=>by
  obtain⟨r,hr,rfl⟩:=mem_map.mp (b8.mp D);obtain⟨Y,Z,g3⟩:=hR r hr;refine⟨λz=>Y ?_,by rw[sortI_len];exact Z,λx hx=>g3 x (bp.mp hx)⟩;have:=sortI_len (l:=r);rw[z]at this;exact JM.mp this.symm
 have J:(sortT (Rb.map sortI)).length<=60:=by rw[sortT_len,ox];exact hl
 obtain⟨Y,Z⟩:=s60 hc;obtain⟨s',l1⟩:=j8 (ac defs n) (sv (.int c)) (sv (.lst (Rb.map ofL))) (sv (.str (af o))) (sv (ofL t)) none (sortT (Rb.map sortI)) [aW "holes" [ay c]] none q (by rw[length_singleton];omega);obtain⟨h',l2⟩:=iP (ac defs n) (sv (.int c)) (sv (.lst (Rb.map ofL))) (sv (.str (af o))) (sv (ofL t)) s' t ([aW "holes" [ay c]]++((sortT (Rb.map sortI)).map λs=>aW "ribbon" (s.map ay))++[aW "first" [af o]]) none ht (by rw[I0,I0,length_singleton,ox,length_singleton];omega);have f1:ev (ac defs n) (.comp .seq [.bor 1] [] (.cst (.bl true)) (.blt .sorted [.bor 0])) [sv (.int c),sv (.lst (Rb.map ofL)),sv (.str (af o)),sv (ofL t),some (.own ([aW "holes" [ay c]].map .str)),none,none]=some (.lst ((Rb.map sortI).map ofL)):=by
  rw[IZ];refine br (vs:=[.lst (Rb.map ofL)]) (xs:=Rb) (g:=ofL) (by simp[evs,ev]) rfl (by omega) λs D=>?_
  rw[aD (v:=ofL s) (by simp[ev,cW])];exact n_ (by have:=(hR s D).2.1;omega)
 show bG (exs _ [.setOwn 4 _,.for1 5 .seq _ _,.append 4 _,.for1 6 .seq _ _,.ret _] [sv (.int c),sv (.lst (Rb.map ofL)),sv (.str (af o)),sv (ofL t),none,none,none])=_;refine bV (C:=[sv (.int c),sv (.lst (Rb.map ofL)),sv (.str (af o)),sv (ofL t),some (.own ([aW "holes" [ay c]].map .str)),none,none]) ?_ ?_
 .rw[eU (xs:=[.str (aW "holes" [ay c])])]
  .rfl
  .have eh:ev (ac defs n) (.bin .add (.cst (.str "holes ")) (.blt .strOf [.bor 0])) [sv (.int c),sv (.lst (Rb.map ofL)),sv (.str (af o)),sv (ofL t),none,none,none]=some (.str (aW "holes" [ay c])):=by
    rw[ev,bu,bind_some,aD (v:=.int c) (by simp[ev]),Y,bind_some];show(if _ then _ else _)=_;rw[if_pos (by rw[show("holes ":Str).length=6 from rfl];omega),zo]
    rfl
   rw[ev,evs,eh];simp[evs]
 refine bV (C:=[sv (.int c),sv (.lst (Rb.map ofL)),sv (.str (af o)),sv (ofL t),some (.own (([aW "holes" [ay c]]++((sortT (Rb.map sortI)).map λs=>aW "ribbon" (s.map ay))).map .str)),s',none]) ?_ ?_
 .rw[dN (xs:=(sortT (Rb.map sortI)).map ofL)]
  .show(aT _ _ [_,_,_,_,_,none,none]).back _ _=_;rw[l1]
   rfl
  .rw[evs,aD f1];show Option.bind ((Option.bind (d7 _) _)) _=_;rw[wt (by rw[ox];omega)]
   rfl
 refine bV (C:=[sv (.int c),sv (.lst (Rb.map ofL)),sv (.str (af o)),sv (ofL t),some (.own (([aW "holes" [ay c]]++((sortT (Rb.map sortI)).map λs=>aW "ribbon" (s.map ay))++[aW "first" [af o]]).map .str)),s',none]) ?_ ?_
 .rw[eV (v:=.str (aW "first" [af o])) ?_ rfl (by rw[ox,I0,length_singleton,ox];omega)]
  .rw[Js (l₂:=[aW "first" [af o]])]
   rfl
  .rw[ev,bu,bind_some];have hb:=pR o;rw[show ev (ac defs n) (.bor 2) [sv (.int c),sv (.lst (Rb.map ofL)),sv (.str (af o)),sv (ofL t),some (.own (([aW "holes" [ay c]]++((sortT (Rb.map sortI)).map λs=>aW "ribbon" (s.map ay))).map .str)),s',none]=some (.str (af o))from by simp[ev],bind_some];show(if _ then _ else _)=_;rw[if_pos (by rw[show("first ":Str).length=6 from rfl];omega),zo]
   rfl
 refine bV (C:=[sv (.int c),sv (.lst (Rb.map ofL)),sv (.str (af o)),sv (ofL t),some (.own ((dk c (sortT (Rb.map sortI)) o t).map .str)),s',h']) ?_ ?_
 .rw[dN (xs:=t.map .int) (by simp[evs,ev])];show(aT _ _ [_,_,_,_,_,_,none]).back _ _=_;rw[l2];simp[dk,bh]
 refine cM ?_;rw[ev,show ev (ac defs n) (.bor 4) [sv (.int c),sv (.lst (Rb.map ofL)),sv (.str (af o)),sv (ofL t),some (.own ((dk c (sortT (Rb.map sortI)) o t).map .str)),s',h']=some (.lst ((dk c (sortT (Rb.map sortI)) o t).map .str))from by simp[ev],bind_some];exact j0 hc (λs D=>(q s D).2) ht J U
def jz{cal:Cal}{a b:ME}{G:Rho}{x:PV}(h:ev cal a G=some x)(h':ev cal b G=some x)(k:qF x x=true)(e:eqF 100 x x=some true):ev cal (.cmp .ne a b) G=some (.bl false):=by
 rw[cA h h',EC,if_pos k,e]
 rfl
def oA{cal:Cal}{f i:Nat}{G:Rho}{fs xs:List PV}{v:PV}(hi:(G[i]?).join=some (.brwO fs xs))(h:cal f [.brwO fs xs]=some v):ev cal (.callM f i []) G=some v:=by
 rw[ev,hi];exact h
def BD(n:Nat)(c:Int)(R:LL)(o:Bool)(t:List Int)(h0:0<=c)(h1:c<=60):ac defs (n+1) 31 [.brwO (tbl c R o) (t.map .int)]=some (ofL (frl c t)):=by
 rw[aw (d:=gu) rfl rfl];have hl:c.toNat<=10000:=by omega
 have e:ev (ac defs n) (.comp .rng [.fld 0 0] [0] (.cmp .notIn (.bor 0) (.fldL 1)) (.var 0)) [some (.brwO (tbl c R o) (t.map .int))]=some (ofL (frl c t)):=by
  rw[ev,show evs (ac defs n) [.fld 0 0] [some (.brwO (tbl c R o) (t.map .int))]=some [.int c]from by simp[evs,ev,gQ],bind_some,fo h0 (by omega),bind_some,if_pos (by simpa using hl),cQ (p:=λ(k:Nat)=>!decide ((k:Int)∈t)) (h:=λ(k:Nat)=>.int (k:Int))]
  .unfold frl;rw[map_some];show some (PV.lst _)=some (PV.lst ((map _ _).map PV.int));rw[IZ]
   rfl
  .intro k _;simp[ev,cW,dw,nM,cD]
  .intro k _ _;simp[ev,cW]
 exact cM e
def EZ(cal:Cal)(c:Int)(t:List Int)(h0:0<=c)(h1:c<=60){G:Rho}(q:(G[1]?).join=sv (.int c))(D:(G[4]?).join=sv (ofL t)):ev cal (.comp .rng [.bor 1] [4] (.cmp .notIn (.bor 0) (.bor 1)) (.var 0)) G=some (ofL (frl c t)):=by
 have hl:c.toNat<=10000:=by omega
 rw[ev,show evs cal [.bor 1] G=some [.int c]from by simp[evs,ev,q],bind_some,fo h0 (by omega),bind_some,if_pos (by simpa using hl),cQ (p:=λ(k:Nat)=>!decide ((k:Int)∈t)) (h:=λ(k:Nat)=>.int (k:Int))]
 .unfold frl;rw[map_some];show some (PV.lst _)=some (PV.lst ((map _ _).map PV.int));rw[IZ]
  rfl
 .intro k _;simp[ev,cW,D,cD]
 .intro k _ _;simp[ev,cW]
def zz(n:Nat)(c:Int)(R:LL)(o:Bool)(t:List Int):ac defs (n+3) 29 [.brwO (tbl c R o) (t.map .int)]=some (.str (af (hat o t.length))):=by
 rw[aw (d:=eP) rfl rfl];have e:=oj n (.int c) (ofR R) (t.map .int) o t.length;simp[eP,exs,ex,ev,evs,evA,nM,gQ,e]
def BE(o:Bool)(k:Nat):hat o k=if ((k:Int) % 2==1)=true then !o else o:=by
 unfold hat;by_cases h:k % 2=0
 .rw[if_pos h,if_neg (by simp;omega)]
 .rw[if_neg h,if_pos (by simp;omega)]
structure wD(c:Int)(Rb:LL)(t:List Int):Prop where
 hc:0<=c/\c<=60
 hR:∀r∈Rb,Rib c r/\r≠[]
 hl:Rb.length<=60
 hm:∀x∈t,0<=x/\x<c
 ht:t.length<=60
 nd:t.Nodup
def E1(n:Nat){c:Int}{Rb:LL}{t:List Int}(o:Bool)(h:wD c Rb t)(g:cU (sortT (Rb.map sortI))) :
  ac defs (n+7) 27 [.brwO (tbl c (sortT (Rb.map sortI)) o) (t.map .int),.val (.int c),.val (.lst (Rb.map ofL)),.val (.str (af o)),.val (ofL t)]=some (.bl true):=by
 rw[aw (d:=iN) rfl rfl];have D:∀s∈Rb,s.length<=60:=λs J=>by have:=(h.hR s J).1.l;omega
 have hm:∀x∈t,0<=x/\x<=60:=λx hx=>by have:=h.hm x hx;have:=h.hc;omega
 have U:=ES (n+4) c (sortT (Rb.map sortI)) o t h.hc (λs J=>by
  obtain⟨r,hr,rfl⟩:=mem_map.mp (b8.mp J);have q:=(h.hR r hr).1;exact⟨by rw[sortI_len];have:=q.l;omega,λx hx=>by have:=q.m x (bp.mp hx);have:=h.hc;omega⟩) hm (by rw[sortT_len,ox];exact h.hl) h.ht
 have e2:=zy (n+5) c Rb o t h.hc (λr hr=>⟨(h.hR r hr).2,D r hr,λx hx=>by have:=(h.hR r hr).1.m x hx;have:=h.hc;omega⟩) hm h.hl h.ht;have e3:=va (n+5) (tbl c (sortT (Rb.map sortI)) o) t h.ht;have e4:=BD (n+5) c (sortT (Rb.map sortI)) o t h.hc.1 h.hc.2;have e5:=zz (n+3) c (sortT (Rb.map sortI)) o t;have Y:=jv (n+1) c (sortT (Rb.map sortI)) o t g;have e7:=BC (n+5) Rb o t D h.hl h.ht h.nd;have Z:=zm (n+2) c (sortT (Rb.map sortI)) o t g;have e9:=wC (n+5) Rb o t D h.hl h.ht h.nd;generalize cv c (sortT (Rb.map sortI)) o t=p at U e2;have hw:=oq (lft o 0 (sortT (Rb.map sortI)) t);generalize lft o 0 (sortT (Rb.map sortI)) t=L at Y e7 Z e9 hw;generalize tbl c (sortT (Rb.map sortI)) o=fs at U e3 e4 e5 Y Z;show bG (exs (ac defs (n+6)) [.ite _ _ _,.ite _ _ _,.set 5 _,.ite _ _ _,.ite _ _ _,.ret _] [some (.brwO fs (t.map .int)),sv (.int c),sv (.lst (Rb.map ofL)),sv (.str (af o)),sv (ofL t),none])=_;refine rn (EM (jz (x:=.str p) (bb (vs:=[.brwO fs (t.map .int)]) rfl U) (bb (vs:=[.val (.int c),.val (.lst (Rb.map ofL)),.val (.str (af o)),.val (ofL t)]) rfl e2) rfl (by rw[k8,Jx])) λ_=>jz (x:=ofL t) (oA rfl e3) rfl rfl (by rw[Ca,IM rfl])) ?_;refine rn (jz (x:=ofL (frl c t)) (oA rfl e4) (EZ _ c t h.hc.1 h.hc.2 rfl rfl) rfl (by rw[Ca,IM rfl])) ?_;refine kG (v:=.str (af o)) rfl ?_;refine bV (C:=[some (.brwO fs (t.map .int)),sv (.int c),sv (.lst (Rb.map ofL)),sv (.str (af o)),sv (ofL t),sv (.str (af (hat o t.length)))]) ?_ ?_
 .rw[bW (p:=((t.length:Int) % 2==1)) (rm (by rw[aD (v:=ofL t) rfl];show some (PV.int ((t.map PV.int).length:Nat))=_;rw[ox]) (by decide)),BE];cases ((t.length:Int) % 2==1)with
  |true =>
   rw[if_pos rfl,if_pos rfl];refine g9 ?_;rw[jZ (v:=.str (af (!o)))]
   .rfl
   .show((iu (d4 [] (iq [("weaver","moth"),("moth","weaver")])) (Sum.inr (af o))).bind λv=>match v with|.str y=>some (PV.str y)|_=>none)=_;rw[yE (af o) (by cases o;exact .inl rfl;exact .inr rfl)];cases o<;>rfl
  |false=>rw[if_neg (by decide),if_neg (by decide),exs];rfl
 refine rn (EM (jz (x:=.str (af (hat o t.length))) (oA rfl e5) rfl rfl (by rw[k8,Jx])) λ_=>jz (x:=(dC L).pv) (oA rfl Y) (bb (vs:=[.val (.lst (Rb.map ofL)),.val (ofL t),.val (.str (af o))]) rfl e7) ?_ ?_) ?_
 .rcases hw with w|w|w<;>rw[w]<;>rfl
 .rcases hw with w|w|w<;>rw[w]<;>first|exact(by rw[show(Sc.str _).pv=PV.str _ from rfl,k8,Jx])|rfl
 refine cM ?_;rw[cA (x:=ofR L) (y:=ofR L) (oA rfl Z) (bb (vs:=[.val (.lst (Rb.map ofL)),.val (ofL t),.val (.str (af o))]) rfl e9),tq,GJ,IM rfl]
 rfl
noncomputable def lc:List MS:=[.ite (.cmp .isN (.call 24 [.bor 5,.bor 7,.bor 6]) (.cst .non)) [.set 9 (.comp .rng [.bor 3] [7] (.cmp .notIn (.bor 0) (.bor 1)) (.var 0)),.append 7 (.idx (.bor 9) (.bin .mod (.call 21 [.bor 8,(ci 2049848353892358983)]) (.blt .len [.bor 9])))] []]
noncomputable def E2:List MS:=[.set 1 (.call 21 [(.call 20 [.bor 0,(ci 0)]),(ci 1442695040888963407)]),
  .set 2 (.call 21 [(.call 20 [.bor 0,(ci 1)]),(ci 1865811235122147685)]),
  .set 3 (.bin .add (ci 1) (.bin .mod (.bor 1) (ci 60))),
  .set 4 (.bin .mod (.bor 2) (ci 21)),
  .set 5 (.comp .seq [(.slice (.bor 0) (ci 3) (.bin .add (ci 3) (.bor 4)))] [3] (.cst (.bl true)) (.call 22 [.bor 0,.bor 1])),
  .ite (.cmp .eq (.bin .mod (.bin .fdiv (.bor 2) (ci 21)) (ci 8)) (ci 1))
   [.set 3 (ci 0),
   .set 5 (.lst [])]
   []]
noncomputable def G9:List MS:=[.set 6 (.idx (.lst [(cs "weaver"),(cs "moth")]) (.bin .mod (.bin .fdiv (.bor 2) (ci 168)) (ci 2))),
  .setOwn 7 (.lst []),
  .for1 8 .seq [(.slice (.bor 0) (.bin .add (ci 3) (.bor 4)) (.cst .non))] lc,
  .set 10 (.call 25 [.bor 3,.bor 5,.bor 6,.bor 7])]
def wE(cal:Cal)(c:Int)(t:List Int)(h0:0<=c)(h1:c<=60){G:Rho}(q:(G[3]?).join=sv (.int c))(D:(G[7]?).join=some (.own (t.map .int))):ev cal (.comp .rng [.bor 3] [7] (.cmp .notIn (.bor 0) (.bor 1)) (.var 0)) G=some (ofL (frl c t)):=by
 have hl:c.toNat<=10000:=by omega
 rw[ev,show evs cal [.bor 3] G=some [.int c]from by simp[evs,ev,q],bind_some,fo h0 (by omega),bind_some,if_pos (by simpa using hl),cQ (p:=λ(k:Nat)=>!decide ((k:Int)∈t)) (h:=λ(k:Nat)=>.int (k:Int))]
 .unfold frl;rw[map_some];show some (PV.lst _)=some (PV.lst ((map _ _).map PV.int));rw[IZ]
  rfl
 .intro k _;simp[ev,cW,D,dw,cD]
 .intro k _ _;simp[ev,cW]
def E3(cal:Cal)(q:List Int)(m:Int)(D:q≠[]):∃h,h∈q/\∀(x:Int) (G:Rho),cal 21 [.val (.int x),.val (.int 2049848353892358983)]=some (.int m)->(G[8]?).join=sv (.int x)->(G[9]?).join=sv (ofL q)->ev cal (.idx (.bor 9) (.bin .mod (.call 21 [.bor 8,(ci 2049848353892358983)]) (.blt .len [.bor 9]))) G=some (.int h):=by
 have J:0<(q.length:Int):=by
  have:=length_pos_iff.mpr D;omega
 have Z:0<=m % (q.length:Int):=JT _ (by omega);have q1:m % (q.length:Int)<q.length:=JN _ J;have U:(m % (q.length:Int)).toNat<q.length:=by omega
 refine⟨q[(m % (q.length:Int)).toNat],getElem_mem U,λx G em r1 Y=>?_⟩;have e1:ev cal (.bin .mod (.call 21 [.bor 8,(ci 2049848353892358983)]) (.blt .len [.bor 9])) G=some (.int (m % (q.length:Int))):=by
  simp[ev,evs,evA,cR,r1,Y,em,J,D]
 rw[iO (x:=ofL q) (by rw[ev,Y];rfl) e1];show(place (q.map PV.int).length _).bind (λj=>(q.map PV.int)[j]?)=_;rw[mJ Z (by rw[ox];exact q1),bind_some,IY,IP U]
 rfl
theorem tP(n:Nat)(c:Int)(Rb:LL)(o:Bool)(hc:0<=c/\c<=60)(hR:∀r∈Rb,Rib c r/\r≠[])(hl:Rb.length<=60)(U Y Z a4 q D J:Option MV):∀(cs:List Int) (t:List Int) (k f:Option MV),wz c (sortT (Rb.map sortI)) o t->t.length+cs.length<=60 ->
  ∃(t':List Int) (k' f':Option MV),wz c (sortT (Rb.map sortI)) o t'/\t'.length<=60/\aT (λx C=>exs (ac defs (n+7)) lc (put C 8 (.val x))) (cs.map .int) [U,Y,Z,sv (.int c),a4,sv (.lst (Rb.map ofL)),sv (.str (af o)),some (.own (t.map .int)),k,f,q,D,J]
  =.next [U,Y,Z,sv (.int c),a4,sv (.lst (Rb.map ofL)),sv (.str (af o)),some (.own (t'.map .int)),k',f',q,D,J]
 | [],t,k,f,p,hlen=>⟨t,k,f,p,by simpa using hlen,rfl⟩
 |x::cs,t,k,f,p,hlen=>by
  rw[length_cons]at hlen;have nd:=p.nd;obtain⟨v,bt,hv⟩:=EW (n+6) Rb o t (λs hs=>by have:=(hR s hs).1.l;omega) hl (by omega) nd;have et:ev (ac defs (n+7)) (.cmp .isN (.call 24 [.bor 5,.bor 7,.bor 6]) (.cst .non)) [U,Y,Z,sv (.int c),a4,sv (.lst (Rb.map ofL)),sv (.str (af o)),some (.own (t.map .int)),sv (.int x),f,q,D,J]=some (.bl (gM v)):=by
   rw[cA (x:=v) (bb (vs:=[.val (.lst (Rb.map ofL)),.brw (t.map .int),.val (.str (af o))]) rfl bt) (bu _ _ _),uY]
   rfl
  rw[IT];cases hn:gM v with
  |false =>
   rw[hn]at et;have e:exs (ac defs (n+7)) lc (put [U,Y,Z,sv (.int c),a4,sv (.lst (Rb.map ofL)),sv (.str (af o)),some (.own (t.map .int)),k,f,q,D,J] 8 (.val (.int x)))=.next [U,Y,Z,sv (.int c),a4,sv (.lst (Rb.map ofL)),sv (.str (af o)),some (.own (t.map .int)),sv (.int x),f,q,D,J]:=EL et rfl;obtain⟨t',k',f',q1,q2,q3⟩:=tP n c Rb o hc hR hl U Y Z a4 q D J cs t (sv (.int x)) f p (by omega);exact⟨t',k',f',q1,q2,by rw[cB e,q3]⟩
  |true =>
   rw[hn]at et;have hw:=hv hn;obtain⟨w1,w2⟩:=rJ hw;have b0:frl c t≠[]:=by
    cases e:lft o 0 (sortT (Rb.map sortI)) t with
    |nil=>exact absurd e w2
    |cons s L =>
     cases s with
     |nil=>rw[e]at w1;exact absurd (Jz) w1
     |cons y s =>
      have ms:(y::s)∈lft o 0 (sortT (Rb.map sortI)) t:=by rw[e];exact .head _
      refine ne_nil_of_mem (a:=y) (ve.mpr ⟨u8 o (P:=λy=>0<=y/\y<c) t 0 _ (λts b1 z hz=>?_) _ ms y (.head _),λhy=>?_⟩)
      .obtain⟨r,hr,rfl⟩:=mem_map.mp (b8.mp b1);exact(hR r hr).1.m z (bp.mp hz)
      .exact rq (R:=[]) o t 0 _ y (.inr hy) _ ms (.head _)
   have em:=k_ (n+6) x 2049848353892358983;obtain⟨hh,mh,ep⟩:=E3 (ac defs (n+7)) (frl c t) (oh x 2049848353892358983) b0;obtain⟨⟨m0,m1⟩,m2⟩:=ve.mp mh;have p':wz c (sortT (Rb.map sortI)) o (t++[hh]):=by
    refine⟨?_,λy hy=>?_,λk hk=>?_⟩
    .rw[LF];exact⟨nd,by simp,λa ha y hy z=>m2 (by rw[IS.mp hy]at z;exact z▸ha)⟩
    .rcases Kq.mp hy with hy|hy
     .exact p.rg y hy
     .rw[IS.mp hy];exact⟨m0,m1⟩
    .rw[I0,length_singleton]at hk;rw[take_append_of_le_length (by omega)];by_cases e:k=t.length
     .rw[e,take_length];exact hw
     .exact p.on k (by omega)
   have e:exs (ac defs (n+7)) lc (put [U,Y,Z,sv (.int c),a4,sv (.lst (Rb.map ofL)),sv (.str (af o)),some (.own (t.map .int)),k,f,q,D,J] 8 (.val (.int x)))=.next [U,Y,Z,sv (.int c),a4,sv (.lst (Rb.map ofL)),sv (.str (af o)),some (.own ((t++[hh]).map .int)),sv (.int x),sv (ofL (frl c t)),q,D,J]:=by
    rw[Js (l₁:=t)];exact Cf et (fJ (wE _ c t hc.1 hc.2 rfl rfl) (g9 (Ce rfl (ep x _ em rfl rfl) (by rw[ox];omega)))) rfl
   obtain⟨t',k',f',q1,q2,q3⟩:=tP n c Rb o hc hR hl U Y Z a4 q D J cs (t++[hh]) (sv (.int x)) (sv (ofL (frl c t))) p' (by rw[I0,length_singleton];omega);exact⟨t',k',f',q1,q2,by rw[cB e,q3]⟩
def E4 (cal:Cal) (D:Int) (h0:0<=D):∃o:Bool,∀G:Rho,(G[2]?).join=sv (.int D)->ev cal (.idx (.lst [(cs "weaver"),(cs "moth")]) (.bin .mod (.bin .fdiv (.bor 2) (ci 168)) (ci 2))) G=some (.str (af o)):=by
 have J:0<=D / 168 % 2:=JT _ (by decide);have U:D / 168 % 2<2:=JN _ (by decide);have e:∀G:Rho,(G[2]?).join=sv (.int D)->ev cal (.idx (.lst [(cs "weaver"),(cs "moth")]) (.bin .mod (.bin .fdiv (.bor 2) (ci 168)) (ci 2))) G=gO (.lst [.str "weaver",.str "moth"]) (.int (D / 168 % 2)):=λG q=>iO (by simp[ev,evs]) (by simp[ev,q])
 by_cases c:D / 168 % 2=0
 .refine⟨false,λG q=>?_⟩;rw[e G q,c]
  rfl
 .refine⟨true,λG q=>?_⟩;rw[e G q,show D / 168 % 2=1 by omega]
  rfl
structure vi(c:Int)(Rb:LL)(o:Bool)(t:List Int):Prop where
 rd:wD c Rb t
 g:cU (sortT (Rb.map sortI))
 p:wz c (sortT (Rb.map sortI)) o t
 pg:Pg c Rb t
def E5{c:Int}{Rb:LL}(hc:0<=c/\c<=60)(hR:∀r∈Rb,Rib c r/\r≠[])(hl:Rb.length<=60):cU (sortT (Rb.map sortI)):=by
 have h:=rE (R:=Rb) (λr hr x hx=>by have:=(hR r hr).1.m x hx;omega) hl;unfold tG at h;rwa[show Rb.map eJ=Rb.map sortI from J9 λr hr=>by
  show sortI (dd r)=sortI r;rw[uZ (hR r hr).1.d]]at h
def zA(n:Nat)(c:Int)(Rb:LL)(hc:0<=c/\c<=60)(hR:∀r∈Rb,Rib c r/\r≠[])(hl:Rb.length<=60):ac defs (n+4) 11 [.val (.int c),.val (.lst (Rb.map ofL))]=some (.tup [.int c,ofR (sortT (Rb.map sortI))]):=by
 have D:(Rb.map λr=>(true,r)).map cI=Rb.map ofL:=by rw[IZ];rfl
 have e:=EX n (.val (.lst (Rb.map ofL))) (.lst (Rb.map ofL)) c (Rb.map λr=>(true,r)) rfl rfl (λ_ z=>by cases z) (by rw[D];rfl) (by rw[ox];simp) hc.1 hc.2 (λw hw=>by
  obtain⟨r,hr,rfl⟩:=mem_map.mp hw;obtain⟨q,J⟩:=hR r hr;exact⟨q.m,q.d,J,by have:=q.l;show r.length<=60;omega⟩) (by rw[ox];exact hl)
 rw[e,IZ,show Rb.map ((λw:Bool×List Int=>eJ w.2)∘λr=>(true,r))=Rb.map sortI from J9 λr hr=>by
  show sortI (dd r)=sortI r;rw[uZ (hR r hr).1.d]]
def BF(ns:List Int)(b J c D:Int)(Rb:LL)(a4:ns.length<=63)(hw:0<=J)(hm:0<=D/\D<=20)(hc:0<=c/\c<=60)(hR:∀r∈Rb,Rib c r/\r≠[])(hl:Rb.length<=60)(a0 a1:Option MV)(ha:a0=some (.brw (ns.map .int))) :
  ∃(o:Bool) (t:List Int) (k f:Option MV),vi c Rb o t/\exs (ac defs 39) G9 [a0,a1,sv (.int J),sv (.int c),sv (.int D),sv (.lst (Rb.map ofL)),none,none,none,none,none,none,none] =
   .next [a0,a1,sv (.int J),sv (.int c),sv (.int D),sv (.lst (Rb.map ofL)),sv (.str (af o)),some (.own (t.map .int)),k,f,sv (.str (cv c Rb o t)),none,none]:=by
 subst ha;obtain⟨o,eh⟩:=E4 (ac defs 39) J hw;have a3:(ig ns (some (3+D)) none).length<=60:=by have:=wj ns (a:=3+D) (by omega);omega
 obtain⟨t,k,f,p,U,q⟩:=tP 32 c Rb o hc hR hl (some (.brw (ns.map .int))) a1 (sv (.int J)) (sv (.int D)) none none none (ig ns (some (3+D)) none) [] none none ⟨.nil,(λ_ h=>by cases h),λk hk=>by cases hk⟩ (by simp;omega);have g:=E5 hc hR hl;have hk:∀s∈Rb,s.length<=60/\∀x∈s,0<=x/\x<=60:=λs Y=>⟨by have:=(hR s Y).1.l;omega,λx hx=>by have:=(hR s Y).1.m x hx;omega⟩
 have Z:∀x∈t,0<=x/\x<=60:=λx hx=>by have:=p.rg x hx;omega
 refine⟨o,t,k,f,⟨⟨hc,hR,hl,p.rg,U,p.nd⟩,g,p,⟨hc,hk,Z,hl,U⟩⟩,?_⟩;have ep:=Bx 38 c Rb o t hc (λs Y=>⟨(hR s Y).2,hk s Y⟩) Z hl U;generalize cv c Rb o t=pt at ep;rw[map_nil]at q;refine fJ (eh _ rfl) (pN (eU (xs:=[]) rfl) (pN (C:=[some (.brw (ns.map .int)),a1,sv (.int J),sv (.int c),sv (.int D),sv (.lst (Rb.map ofL)),sv (.str (af o)),some (.own (t.map .int)),k,f,none,none,none]) ?_ (fJ (v:=.str pt) (bb (vs:=[.val (.int c),.val (.lst (Rb.map ofL)),.val (.str (af o)),.brw (t.map .int)]) rfl ep) rfl)));rw[dN (xs:=(ig ns (some (3+D)) none).map .int) (by simp[evs,ev,bnd,bj,bi])];show(aT _ _ (bD [.slice _ _ _] _)).back _ _=_;rw[show ∀(x y z:ME) (G:Rho),bD [.slice x y z] G=G from λ_ _ _ _=>rfl];simp only[bj,bi];rw[q]
 rfl
def BG(ns:List Int)(bR:ns.length<=63) :
  ∃(b q c D:Int) (Rb:LL),0<=q/\(0<=D/\D<=20)/\(0<=c/\c<=60)/\(∀r∈Rb,Rib c r/\r≠[])/\Rb.length<=60/\exs (ac defs 39) E2 [some (.brw (ns.map .int)),none,none,none,none,none,none,none,none,none,none,none,none] =
   .next [some (.brw (ns.map .int)),sv (.int b),sv (.int q),sv (.int c),sv (.int D),sv (.lst (Rb.map ofL)),none,none,none,none,none,none,none]:=by
 have Z:=ze 38 (.brw (ns.map .int)) ns 0 rfl (by decide);have ao:=ze 38 (.brw (ns.map .int)) ns 1 rfl (by decide);generalize cellOf ns 0=z0 at Z;generalize cellOf ns 1=z1 at ao;have aL:=k_ 38 z0 1442695040888963407;have a0:=k_ 38 z1 1865811235122147685;have a3:=gx z0 1442695040888963407;have U:=gx z1 1865811235122147685;generalize oh z0 1442695040888963407=b at aL a3;generalize oh z1 1865811235122147685=q at a0 U;have c0:0<=b % 60:=JT _ (by decide);have c1:b % 60<60:=JN _ (by decide);have m0:0<=q % 21:=JT _ (by decide);have m1:q % 21<21:=JN _ (by decide);have hr:∃f:Int->List Int,∀x,ac defs 39 22 [.val (.int x),.val (.int (1+b % 60))]=some (ofL (f x))/\Rib (1+b % 60) (f x)/\f x≠[]:=⟨λx=>Classical.choose (rM 37 x (1+b % 60) (by omega) (by omega)),λx=>Classical.choose_spec (rM 37 x (1+b % 60) (by omega) (by omega))⟩;obtain⟨f,hf⟩:=hr;have bt:(ig ns (some 3) (some (3+q % 21))).length<=20:=by have:=zd ns (a:=3) (b:=3+q % 21) (by decide) (by omega);omega
 have key:∀(c':Int) (Y:LL),ex (ac defs 39) (.ite (.cmp .eq (.bin .mod (.bin .fdiv (.bor 2) (ci 21)) (ci 8)) (ci 1)) [.set 3 (ci 0),.set 5 (.lst [])] []) [some (.brw (ns.map .int)),sv (.int b),sv (.int q),sv (.int (1+b % 60)),sv (.int (q % 21)),sv (.lst (((ig ns (some 3) (some (3+q % 21))).map f).map ofL)),none,none,none,none,none,none,none]=.next [some (.brw (ns.map .int)),sv (.int b),sv (.int q),sv (.int c'),sv (.int (q % 21)),sv (.lst (Y.map ofL)),none,none,none,none,none,none,none]->exs (ac defs 39) E2 [some (.brw (ns.map .int)),none,none,none,none,none,none,none,none,none,none,none,none] =
   .next [some (.brw (ns.map .int)),sv (.int b),sv (.int q),sv (.int c'),sv (.int (q % 21)),sv (.lst (Y.map ofL)),none,none,none,none,none,none,none]:=λc' Y h=>by
  refine fJ (v:=.int b) (by simp[ev,evA,cR,Z,aL]) ?_;refine fJ (v:=.int q) (by simp[bj,bi,ev,evA,cR,ao,a0]) ?_;refine fJ (v:=.int (1+b % 60)) (by simp[bj,bi,ev]) ?_;refine fJ (v:=.int (q % 21)) (by simp[bj,bi,ev]) ?_;refine fJ (v:=.lst (((ig ns (some 3) (some (3+q % 21))).map f).map ofL)) ?_ ?_
  .rw[IZ];refine br (vs:=[ofL (ig ns (some 3) (some (3+q % 21)))]) (xs:=ig ns (some 3) (some (3+q % 21))) (g:=PV.int) (by simp[bj,bi,evs,ev,bnd]) rfl (by omega) λx _=>?_
   exact bb (vs:=[.val (.int x),.val (.int (1+b % 60))]) rfl (hf x).1
  exact g9 h
 have J:ev (ac defs 39) (.cmp .eq (.bin .mod (.bin .fdiv (.bor 2) (ci 21)) (ci 8)) (ci 1)) [some (.brw (ns.map .int)),sv (.int b),sv (.int q),sv (.int (1+b % 60)),sv (.int (q % 21)),sv (.lst (((ig ns (some 3) (some (3+q % 21))).map f).map ofL)),none,none,none,none,none,none,none]=some (.bl (q / 21 % 8==1)):=rm (Bj rfl (by decide)) (by decide);cases hp:(q / 21 % 8==1)with
 |true =>
  refine⟨b,q,0,q % 21,[],U,⟨m0,by omega⟩,⟨by decide,by decide⟩,(λ_ h=>by cases h),by decide,key 0 [] ?_⟩;rw[bW J,hp,if_pos rfl];exact fJ (v:=.int 0) rfl (g9 (jZ (v:=.lst []) rfl))
 |false =>
  refine⟨b,q,1+b % 60,q % 21,(ig ns (some 3) (some (3+q % 21))).map f,U,⟨m0,by omega⟩,⟨by omega,by omega⟩,(λr hr=>by
   obtain⟨x,_,rfl⟩:=mem_map.mp hr;exact(hf x).2),by rw[ox];omega,key _ _ ?_⟩
  rw[bW J,hp,if_neg (by decide),exs]
noncomputable def top(i:Nat):Stmt:=PySem.Challenge.pw_mothloom_k66_pages_read.main.body.getD i (.Pass ⟨0,0,0,0⟩)
noncomputable def zB:Stmt:=dD (top 33) 0
def scI:eM ["self","loom","first"] ["self","loom","first"] (aj zB):=⟨rfl,rfl,rfl,by decide +kernel,rfl,by decide +kernel,by decide +kernel⟩
def BH {P:Program}{w:World}{K:LI}{mg:Str->Option Value}{base:Heap}{f C:Addr}{fd:FuncData} (D:FnD K "__init__" "Table.__init__" zB f fd) (c:uX K C):dq P w K mg base CX0 1 f fd ["self","loom","first"] (spI K C):=by
 obtain⟨c0,d0,k0,o0,m0,a0,Z,t1,a1,sl,lk,hc,rfl⟩:=D.it;have n0:=c.nf _ (show("hole_count":Str)∈iD by simp[iD]);have n1:=c.nf _ (show("ribbons":Str)∈iD by simp[iD]);have n2:=c.nf _ (show("opener":Str)∈iD by simp[iD]);refine kj lk hc scI (λvs H Q E h=>?_) (λA outer s H vs Q E hr h=>?_)
 .obtain⟨x,dx,q,u,r,o,rfl,_⟩:=h
  rfl
 .obtain⟨x,dx,q,u,r,o,rfl,hx,ht,k⟩:=h;refine⟨_,be (oI (pv 0) (xi sh (pv 1) rR (λ_ _=>rfl)) rfl) (be (oI (pv 0) (xi sh (pv 1) rR (λ_ _=>rfl)) rfl) (be (oI (pv 0) (pv 2) rfl) (cN (oI (pv 0) (oK b6) rfl)))),?_⟩;have s1:SqT K (upd H x (.ins C dx (eW "hole_count" u []))) q [u,r]:=Ba ht hx;refine⟨_,rfl,q,_,0,u,rfl,rfl,ht,rfl,_,rfl,x,C,dx,[],rfl,hx,c.cls,n0,(by show 0<1000;decide),?_⟩;refine⟨_,rfl,q,_,1,r,rfl,rfl,s1,rfl,_,rfl,x,C,dx,_,rfl,ar,c.cls,n1,(by show 1<1000;decide),?_⟩;refine⟨_,rfl,_,rfl,x,C,dx,_,rfl,ar,c.cls,n2,Jc (jq (jq (pd 0))) (by decide),?_⟩;refine⟨IW _,λl hl=>?_⟩;have nx:l≠x:=λz=>by rw[z,ar]at hl;cases hl
  have U:H l=none:=by rw[al nx,al nx,al nx]at hl;exact hl
  refine⟨_,rfl,x,C,dx,_,rfl,(by rw[al (Jk nx)];exact ar),c.cls,c.nt,Jc (jq (jq (jq (pd 0)))) (by decide),?_⟩;refine k l _ U ar (by rw[al nx,ar]) λb o J Y=>?_
  rw[al J,al (aR Y U),al J,al J,al J];exact Y
noncomputable def ca:Stmt:=top 41
noncomputable def bw:Stmt:=top 42
noncomputable def bv:Stmt:=dD (top 33) 11
noncomputable def ni:Stmt:=top 52
section
open PySem PySem.Spec PyProof.Rows L2 MM List Option
inductive Vw(K:LI)(H:Hp)(O:List Addr):Rho->L2.St->Prop
 | nil:Vw K H O [] []
 | skip {G:Rho}{σ:L2.St}{z:Option V}:Vw K H O G σ->Vw K H O (none::G) (z::σ)
 | val {G:Rho}{σ:L2.St}{v:PV}{u:V}:Rep K (ak H O) v u->Vw K H O G σ->Vw K H O (sv v::G) (some u::σ)
 | brw {G:Rho}{σ:L2.St}{xs:List PV}{a:Addr}{us:List V}:SqL K H a us->Reps K (ak H O) xs us->Vw K H O G σ->Vw K H O (some (.brw xs)::G) (some (.ref a)::σ)
 | obj {G:Rho}{σ:L2.St}{fs xs:List PV}{a:Addr}:dz K H (ak H O) fs xs a->Vw K H O G σ->Vw K H O (some (.brwO fs xs)::G) (some (.ref a)::σ)
section
variable{K:LI}{H:Hp}{O:List Addr}
theorem Vw.get:∀{G:Rho}{σ:L2.St}{i:Nat}{m:MV},Vw K H O G σ->G[i]?=some (some m)->d9 m=false/\∃u,σ[i]?=some (some u)/\d8 K H O H m u:=by
 intro G σ i m h
 induction h generalizing i with
 |nil=>intro e;simp at e
 |skip _ ih =>
  intro e;cases i with
  |zero=>cases e
  |succ i=>exact ih e
 |val r _ ih =>
  intro e;cases i with
  |zero=>cases e;exact⟨rfl,_,rfl,r⟩
  |succ i=>exact ih e
 |brw s r _ ih =>
  intro e;cases i with
  |zero=>cases e;exact⟨rfl,_,rfl,_,_,rfl,s,r⟩
  |succ i=>exact ih e
 |obj r _ ih =>
  intro e;cases i with
  |zero=>cases e;exact⟨rfl,_,rfl,_,rfl,r⟩
  |succ i=>exact ih e
theorem Vw.len{G:Rho}{σ:L2.St}(h:Vw K H O G σ):G.length=σ.length:=by
 induction h with
 |nil=>rfl
 |skip _ ih=>simp[ih]
 |val _ _ ih=>simp[ih]
 |brw _ _ _ ih=>simp[ih]
 |obj _ _ ih=>simp[ih]
theorem Vw.st{G:Rho}{σ:L2.St}(h:Vw K H O G σ)(D:∀a∈O,H a≠none):aK K H [] O H G σ where
 keep:=ag.refl H
 here:=D
 sub:=λa q=>by cases q
 old:=λa q=>by cases q
 len:=h.len
 slot:=λi m e=>(h.get e).2
 apart:=λi j m J a _ e _ o=>by rw[(h.get e).1]at o;cases o
 inn:=mf λi m e=>by
  have:=(h.get e).1;cases m<;>first|rfl|(cases this)
end
noncomputable def tV(K:LI)(cal:Cal)(q:ME):TE:=λσ H Q=>∃O G v,(∀a∈O,H a≠none)/\Vw K H O G σ/\ev cal q G=some v/\∀u H',ag H H'->Rep K (ak H' O) v u->Q u H'
noncomputable def tVB(K:LI)(cal:Cal)(q:ME):TT:=λσ H Q=>∃O G b,(∀a∈O,H a≠none)/\Vw K H O G σ/\ev cal q G=some (.bl b)/\∀H',ag H H'->Q b H'
section
variable{X:Cx}{T:Tab}{k:Nat}{cal:Cal}
def IB{D:ME}{e:Expr}(g:Gf X T k cal)(h:chk T D X.N X.env.scope e=true)(J:aI D=false):PE X e (tV X.K cal D):=
 (av D g h).1.imp λσ H Q ⟨O,G,v,U,vw,Y,q⟩=>⟨H,[],O,G,v,vw.st U,Y,λu H' s g=>q u H' s (g.2 J)⟩
def IC{D:ME}{e:Expr}(g:Gf X T k cal)(h:chk T D X.N X.env.scope e=true):PT X e (tVB X.K cal D):=
 (av D g h).2.imp λσ H Q ⟨O,G,v,J,vw,U,q⟩=>⟨H,[],O,G,v,vw.st J,by unfold evB;rw[U];rfl,λH' s=>q H' s⟩
end
noncomputable def rP(K:LI):Sp:=λvs H Q _=>∃(a:Addr) (ns:List Int),vs=[.ref a]/\ns.length<=63/\SqL K H a (ns.map V.int)/\∀H',Q (.bl true) H'
section
variable{T:Tab}{P:Program}{w:World}{K:LI}{mg:Str->Option Value}{base:Heap}{ds:List MD}
def Cj(pr:pL T K mg ds){f:Nat}{d:MD}{m:Str}(hd:ds[f]?=some d)(hm:d.meth=some m){C:Addr}(hC:IsC K C):∃st Y fd,n8 T K mg st d Y fd/\mV K C m Y:=by
 obtain⟨l2,D,J,U,el,Z,bd⟩:=pr.defs.get hd;rcases Z.named with⟨q,_⟩|⟨m',q,nd⟩
 .rw[hm]at q;cases q
 .rw[hm]at q;cases q;exact⟨D,J,U,Z,nd C hC⟩
def G_(D:ds.length<=1000)(q:pL T K mg ds){X:Cx}{n:Nat}(h1:X.prog=P)(h2:X.w=w)(h3:X.K=K)(h4:X.mg=mg)(h5:X.base=base)(h6:X.calm=true)(hr:dn n X.A):Gf X T n (ac ds n):=by
 subst h1 h2 h3 h4 h5;exact {
  calm:=h6
  room:=hr
  fns:=λU x hx hp=>by
   rw[q.tab,IY]at hx;cases hd2:ds[U]? with
   |none=>rw[hd2]at hx;cases hx
   |some Y =>
    rw[hd2]at hx;cases hx;obtain⟨hm,aL⟩:=k6 hp;obtain⟨l2,a0,Z,ao,el,J,bd⟩:=q.defs.get hd2;rcases J.named with⟨_,nd⟩|⟨m,em,_⟩
    .exact⟨Z,ao,Y.params,by rw[aL];exact nd,J.fn.kp,J.binds,(fH D q n U Y hd2 a0 Z ao J).m,λl hl=>by rw[el]at hl;cases hl;exact bd⟩
    .rw[hm]at em;cases em
  cls:=λC h=>⟨(q.cls C h).cls,(q.cls C h).nf,(q.cls C h).nt⟩
  meths:=λU m hx C hC=>by
   rw[q.tabM,IY]at hx;cases hd2:ds[U]? with
   |none=>rw[hd2]at hx;cases hx
   |some Y =>
    rw[hd2]at hx;obtain⟨st,fa,fd,J,nd⟩:=Cj q hd2 (x2 hx) hC;exact⟨fa,fd,Y.params,nd,J.binds,(fH D q n U Y hd2 st fa fd J).m⟩
  methsT:=λU m hx C hC=>by
   rw[q.tabM,IY]at hx;cases hd2:ds[U]? with
   |none=>rw[hd2]at hx;cases hx
   |some Y =>
    rw[hd2]at hx;obtain⟨st,fa,fd,J,nd⟩:=Cj q hd2 (x2 hx) hC;exact⟨fa,fd,Y.params,nd,J.binds,(fH D q n U Y hd2 st fa fd J).t⟩
  lvl:=λh=>dn.mono hr (yS D h)
  ini:=λ_=>by
   obtain⟨C,h1,h2,fa,fd,ps,h3,h4,h5,h6⟩:=q.ini;exact⟨C,h1,h2,fa,fd,ps,h3,h4,h5 _ _ _,h6⟩
  blt:=q.blt
  gs:=q.gs
  fnsF:=λU x hx hp=>by
   rw[q.tab,IY]at hx;cases hd2:ds[U]? with
   |none=>rw[hd2]at hx;cases hx
   |some Y =>
    rw[hd2]at hx;cases hx;obtain⟨hm,aL⟩:=k6 hp;obtain⟨l2,a0,Z,ao,el,J,bd⟩:=q.defs.get hd2;rcases J.named with⟨_,nd⟩|⟨m,em,_⟩
    .exact⟨Z,ao,Y.params,by rw[aL];exact nd,J.fn.kp,J.binds,(fH D q n U Y hd2 a0 Z ao J).f⟩
    .rw[hm]at em;cases em }
end
def dl:defs.length<=1000:=by decide
structure Fr(X:Cx)(N:List Str)(st:Stmt)(n:Nat):Prop where
 nn:X.N=N
 s:X.env.scope=aj st
 d:Df X
 g:Gf X tab n (ac defs n)
 x:∀e s,¬ X.xe e s
section
variable{X:Cx}{N:List Str}{st:Stmt}{n:Nat}
theorem Fr.of{P:Program}{w:World}{K:LI}{mg:Str->Option Value}{base:Heap}{q:Str}{J:Addr}{D:Value}{A:Around}{outer:List Env}{s:Shared}{H:Hp}{E:XK}{ps:List Str}(U:pL tab K mg defs)(sc:eM N ps (aj st))(hr:dn n (A.deeper (envOfC q (aj st) s.heap.objs.size J D))) :
  Fr (fU CX0 P w K mg base N q (aj st) J D A outer s H E).nox N st n:=
 ⟨rfl,rfl,⟨sc.nd,λ_=>rfl,PassesOwn.never,by
  have Y:(fU CX0 P w K mg base N q (aj st) J D A outer s H E).nox.env.scope.kind=.function:=sc.kind;unfold Env.blockKind;rw[Y]
  rfl⟩,G_ dl U rfl rfl rfl rfl rfl rfl hr,λ_ _ z=>z⟩
theorem Fr.ss(l:Fr X N st n){ms:List MS}{ss:List Stmt}(h:chkSs tab N (aj st) ms ss=true):PSs X ss (tSs X.K (ac defs n) ms):=soundSs l.g l.d ms ss (by rw[l.nn,l.s];exact h)
theorem Fr.nm(l:Fr X N st n){i:Nat}{x:Str}{pos:Pos}(h:au N (aj st) i x=true):PE X (.Name x pos) (dP i):=bn (by rw[l.nn,l.s];exact h)
theorem Fr.v(l:Fr X N st n){q:ME}{e:Expr}(h:chk tab q N (aj st) e=true)(D:aI q=false:=by rfl):PE X e (tV X.K (ac defs n) q):=IB l.g (by rw[l.nn,l.s];exact h) D
theorem Fr.t(l:Fr X N st n){q:ME}{e:Expr}(h:chk tab q N (aj st) e=true):PT X e (tVB X.K (ac defs n) q):=IC l.g (by rw[l.nn,l.s];exact h)
def BI{body:List Stmt}{h₀:ExceptHandler}{J:List ExceptHandler}{pos:Pos}{t:TS}(hx:∀e s,¬ X.xe e s)(h:PSs X body t):PS X (.Try body (h₀::J) [] [] pos) t:=by
 intro pins s σ H D I U;refine wpAny_Try_except (Jj (h pins s σ H D I U) (λf s1 q=>?_) λe s1 z=>absurd z (hx e s1));cases f with
 |next=>exact K5 q
 |ret v=>exact q
 |brk=>exact q
 |cont=>exact q
theorem Fr.s1(l:Fr X N st n){m:MS}{s:Stmt}(h:fw tab N (aj st) m s=true):PS X s (tS X.K (ac defs n) m):=yP l.g l.d m s (by rw[l.nn,l.s];exact h)
end
noncomputable abbrev tpA:MS:=.mkO 3 [.var 0,.var 1]
noncomputable abbrev tpB:MS:=.for1 4 .seq [.bor 2] [.takeO none 3 34 [.var 4]]
def Ck:eM b_.names ["loom","opener","deeds"] (aj ca):=⟨rfl,rfl,rfl,by decide +kernel,rfl,by decide +kernel,by decide +kernel⟩
noncomputable def BJ(K:LI)(n:Nat):Sp:=λvs H Q _=>∃(O:List Addr) (lo op:PV) (t:List PV) (fs xs:List PV) (G:Rho),(∀a∈O,H a≠none)/\Paired (eG K O H) [.val lo,.val op,.val (.lst t)] vs /\
 exs (ac defs n) [tpA,tpB] [sv lo,sv op,sv (.lst t),none,none]=.next G/\G[3]?=some (some (.ownO false fs xs)) /\
 ∀a l H',ag H H'->H a=none->H l=none->cc K (λ_=>none) (a::l::O) H' fs xs a l->Q (.ref a) H'
def Ha {P:Program}{w:World}{K:LI}{mg:Str->Option Value}{base:Heap}{fa:Addr}{fd:FuncData}{n:Nat} (pr:pL tab K mg defs) (D:FnD K "table_played" "table_played" ca fa fd):dq P w K mg base CX0 (n+1) fa fd ["loom","opener","deeds"] (BJ K n):=by
 obtain⟨c0,d0,k0,o0,m0,a0,aL,t1,a1,sl,lk,a2,rfl⟩:=D.it;refine kj lk a2 Ck (λvs H Q E h=>?_) (λA outer s H vs Q E hr h=>?_)
 .obtain⟨O,lo,op,t,fs,xs,G,_,hp,_⟩:=h;exact(Paired.length hp).symm
 .obtain⟨O,lo,op,t,fs,xs,G,hO,hp,e,e3,q⟩:=h;have l:Fr (fU CX0 P w K mg base b_.names "table_played" (aj ca) fa aL A outer s H E).nox b_.names ca n:=Fr.of pr Ck hr;have st:=gW (N:=b_.names) hO hp;refine⟨_,(be (l.s1 (m:=tpA) (by kernel_rfl)) (be (l.s1 (m:=tpB) (by kernel_rfl)) (cN (gc (l.nm (i:=3) (by decide +kernel)))))).nox,?_⟩;rw[ax]at e;cases eA:ex (ac defs n) tpA [sv lo,sv op,sv (.lst t),none,none]with
  |next J =>
   rw[eA,aQ,ax]at e;cases eB:ex (ac defs n) tpB J with
   |next bT =>
    rw[eB,aQ]at e;cases e;refine⟨H,O,O,_,st,?_⟩;rw[show ex (ac defs n) tpA (([.val lo,.val op,.val (.lst t)]:List MV).map some++replicate (b_.names.length-([.val lo,.val op,.val (.lst t)]:List MV).length) none)=.next J from eA];intro b0 H1 O1 a6 k1;refine⟨H,O,O1,J,a6,?_⟩;rw[eB];intro b3 H2 O2 Y k2;obtain⟨u,eu,a,l',rfl,Z⟩:=Y.slot 3 _ e3;have kk:=k1.trans k2;refine⟨_,eu,q a l' H2 Y.keep Z.aB Z.lB (Z.move (aV (ag.refl H2) λb U=>.inl ?_) (λ_ h=>h) (λ_ h=>h) (by simp) (by simp) rfl rfl)⟩;rcases rb.mp U with rfl|U
    .exact Z.aO
    rcases rb.mp U with rfl|U
    .exact Z.lO
    exact kk.stay b (hO b U) U
   | _=>rw[eB]at e;cases e
  | _=>rw[eA]at e;cases e
noncomputable def tSk(K:LI)(cal:Cal)(ms:List MS)(u:TS):TS:=λD σ H=>∃B E O G C,aK K B E O H G σ/\exs cal ms G=.next C/\∀q H' O',aK K B E O' H' C q->bF B O O' G C σ q->u D q H'
section
variable{X:Cx}{cal:Cal}
def tQ{b:List Stmt}{u:TS}(h:PSs X b u):PSs X b (tSk X.K cal [] u):=h.imp λD σ H ⟨B,E,O,G,C,st,e,q⟩=>by
 cases e;exact q σ H O st .refl
def cj{s:Stmt}{cO:List Stmt}{m:MS}{ms:List MS}{u:TS}(h1:PS X s (tS X.K cal m))(h2:PSs X cO (tSk X.K cal ms u)):PSs X (s::cO) (tSk X.K cal (m::ms) u):=(be h1 h2).imp λD σ H ⟨B,E,O,G,C,st,e,q⟩=>by
 rw[ax]at e;cases J:ex cal m G with
 |next U =>
  rw[J,aQ]at e;refine⟨B,E,O,G,st,?_⟩;rw[J];exact λaL H1 O1 Y k1=>⟨B,E,O1,U,C,Y,e,λZ H' O' ao k'=>q Z H' O' ao (k1.trans k')⟩
 | _=>rw[J]at e;cases e
end
def Cl:eM cz.names ["text"] (aj bw):=⟨rfl,rfl,rfl,by decide +kernel,rfl,by decide +kernel,by decide +kernel⟩
def Hb(n:Nat)(c:Int)(R:LL)(o:Bool)(t:List Int):Prop:=∃G:Rho,exs (ac defs n) [tpA,tpB] [sv (.tup [.int c,ofR R]),sv (.str (af o)),sv (ofL t),none,none]=.next G/\G[3]?=some (some (.ownO false (tbl c R o) (t.map .int)))
noncomputable def BK(K:LI)(n:Nat):Sp:=λvs H Q _=>∃(c:Int) (R:LL) (o:Bool) (t:List Int) (q:LL),vs=[.str (cv c R o t)]/\Pg c R t/\ac defs (n+4) 11 [.val (.int c),.val (.lst (R.map ofL))]=some (.tup [.int c,ofR q])/\Hb (n+3) c q o t /\
 ∀a l H',ag H H'->H a=none->H l=none->cc K (λ_=>none) [a,l] H' (tbl c q o) (t.map .int) a l->Q (.ref a) H'
noncomputable abbrev P(i:Nat):Stmt:=(bN bw).getD i (.Pass ⟨0,0,0,0⟩)
def Hc {Pp:Program}{w:World}{K:LI}{mg:Str->Option Value}{base:Heap}{Y fT:Addr}{fd Z:FuncData}{n:Nat} (pr:pL tab K mg defs) (D:FnD K "page_read" "page_read" bw Y fd) (mT:mg ("table_played":Str)=some (.ref fT)) (DT:FnD K "table_played" "table_played" ca fT Z) (bT:aX K Z ["loom","opener","deeds"] []):dq Pp w K mg base CX0 (n+5) Y fd ["text"] (BK K n):=by
 obtain⟨c0,d0,k0,o0,m0,a0,U,t1,a1,sl,lk,aL,rfl⟩:=D.it;refine kj lk aL Cl (λvs H Q E h=>?_) (λA outer s H vs Q E hr h=>?_)
 .obtain⟨c,R,o,t,R',rfl,_⟩:=h
  rfl
 .obtain⟨c,R,o,t,R',rfl,pg,e1,e2,q⟩:=h;have l:Fr (fU CX0 Pp w K mg base cz.names "page_read" (aj bw) Y U A outer s H E).nox cz.names bw (n+4):=Fr.of pr Cl hr;have F:=Ha (P:=Pp) (w:=w) (base:=base) (n:=n+3) pr DT;have gT:Gl (fU CX0 Pp w K mg base cz.names "page_read" (aj bw) Y U A outer s H E).nox "table_played":=fz (by rw[l.s];decide +kernel);have eB:bN bw=[P 0,P 1,P 2,P 3,P 4,P 5]:=rfl;rw[eB];have p5:PS (fU CX0 Pp w K mg base cz.names "page_read" (aj bw) Y U A outer s H E).nox (P 5) (rS (lq (BJ K (n+3)) [] E0 (tAs K (ac defs (n+4)) [(.call 11 [.bor 3,.bor 4]),(.idx (.idx (.bor 1) (.bor 2)) (ci 1)),.bor 5]))):=
   BI l.x (cN (gc (kS F l.g.room gT mT DT.kp bT .nil fW (soundA [(.call 11 [.bor 3,.bor 4]),(.idx (.idx (.bor 1) (.bor 2)) (ci 1)),.bor 5] l.g (by rw[l.nn,l.s];kernel_rfl)))))
  have hp:PSs (fU CX0 Pp w K mg base cz.names "page_read" (aj bw) Y U A outer s H E).nox [P 0,P 1,P 2,P 3,P 4,P 5] (tSk K (ac defs (n+4)) G5 (rS (lq (BJ K (n+3)) [] E0 (tAs K (ac defs (n+4)) [(.call 11 [.bor 3,.bor 4]),(.idx (.idx (.bor 1) (.bor 2)) (ci 1)),.bor 5])))):=
   cj (l.s1 (by kernel_rfl)) (cj (l.s1 (by kernel_rfl)) (cj (l.s1 (by kernel_rfl)) (cj (l.s1 (by kernel_rfl)) (cj (l.s1 (by kernel_rfl)) (tQ (cN p5))))))
  refine⟨_,hp.nox,?_⟩;refine⟨H,[],[],_,_,gW (args:=[.val (.str (cv c R o t))]) (λa ha=>by cases ha) (.cons (by show Rep K (ak H []) (.str (cv c R o t)) (.str (cv c R o t));rw[Rep]) .nil),EV (n+1) pg o,λcC H1 O1 J k1=>?_⟩;obtain⟨G,f1,f2⟩:=e2;refine⟨H,[],O1,_,[.val (.tup [.int c,ofR R']),.val (.str (af o)),.val (ofL t)],J,?_,λus H2 s2 pa=>?_⟩
  .have hi:gO (.lst ((cw c R o t).map lW)) (.int (1+R.length:Nat))=some (lW (opW (af o))):=by
    have hk:1+R.length<(cw c R o t).length:=by rw[dZ];simp[pA];omega
    rw[tL lW (cw c R o t) (1+R.length) hk];have:(cw c R o t)[1+R.length]=opW (af o):=by
     have e:(cw c R o t)[1+R.length]?=some (opW (af o)):=by
      rw[dZ,JC (by simp[pA];omega)];have:1+R.length-(pA c R).length=0:=by simp[pA];omega
      rw[this]
      rfl
     rw[IP hk]at e;exact x2 e
    rw[this]
   refine EK (bb (vs:=[.val (.int c),.val (.lst (R.map ofL))]) rfl e1) (Cd ((iO ((iO rfl rfl).trans hi) rfl).trans rfl) rfl)
  .show BJ K (n+3) (us++[]) H2 Q E0;rw[JW];refine⟨O1,_,_,t.map .int,_,_,G,(J.mono s2).here,pa,f1,f2,λa l' H3 s3 na nl oa=>q a l' H3 (J.keep.trans (s2.trans s3)) (J.keep.free (s2.free na)) (J.keep.free (s2.free nl)) (oa.move (aV (ag.refl H3) λb hb=>.inl ?_) (λ_ h=>h) (λ_ h=>h) (by simp) (by simp) rfl rfl)⟩;rcases rb.mp hb with rfl|hb
   .exact .head _
   .rw[IS.mp hb];exact .tail _ (.head _)
def Hd{a b:Prop}(h:a):if true=true then a else b:=by rw[if_pos rfl];exact h
def tR{a b:Prop}(h:b):if false=true then a else b:=by rw[if_neg (by decide)];exact h
def Cm:eM cG.names ["self"] (aj bv):=⟨rfl,rfl,rfl,by decide +kernel,rfl,by decide +kernel,by decide +kernel⟩
noncomputable def BL(K:LI):Sp:=λvs H Q _=>∃(O:List Addr) (a l:Addr) (fs:List PV) (t:List Int) (x:Int),vs=[.ref a]/\(∀b∈O,H b≠none)/\cc K (λ_=>none) O H fs ((t++[x]).map .int) a l /\
 ∀H',(∀b o,b≠l->H b=some o->H' b=some o)->cc K (λ_=>none) O H' fs (t.map .int) a l->Q (.int x) H'
noncomputable abbrev Bk(i:Nat):Stmt:=(bN bv).getD i (.Pass ⟨0,0,0,0⟩)
noncomputable def fb:Stmt->List Stmt
 | .For _ _ b _ _=>b
 | .If _ b _ _=>b
 | _=>[]
noncomputable def fe:Stmt->List Stmt
 | .If _ _ b _=>b
 | _=>[]
def He {P:Program}{w:World}{K:LI}{mg:Str->Option Value}{base:Heap}{Y:Addr}{fd:FuncData}{n:Nat} (pr:pL tab K mg defs) (D:FnD K "back" "Table.back" bv Y fd):dq P w K mg base CX0 (n+1) Y fd ["self"] (BL K):=by
 obtain⟨c0,d0,k0,o0,m0,a0,U,t1,a1,sl,lk,aL,rfl⟩:=D.it;refine kj lk aL Cm (λvs H Q E h=>?_) (λA outer s H vs Q E hr h=>?_)
 .obtain⟨O,a,l,fs,t,x,rfl,_⟩:=h
  rfl
 .obtain⟨O,a,l',fs,t,x,rfl,hO,Z,q⟩:=h;have l:Fr (fU CX0 P w K mg base cG.names "Table.back" (aj bv) Y U A outer s H E).nox cG.names bv n:=Fr.of pr Cm hr;have p0:PS (fU CX0 P w K mg base cG.names "Table.back" (aj bv) Y U A outer s H E).nox (Bk 0) (mU (tVB K (ac defs n) (.cmp .eq (.blt .len [.fldL 0]) (ci 0))) (tSs K (ac defs n) [.never]) ke):=
   nv (l.t (by kernel_rfl)) (l.ss (by kernel_rfl)) iR
  have p1:PS (fU CX0 P w K mg base cG.names "Table.back" (aj bv) Y U A outer s H E).nox (Bk 1) _:=
   gc (CS PySem.F.plainAttrs_list PySem.F.slot_list_pop PySem.F.type_list_pop CU (xa (l.nm (i:=0) (x:="self") (by decide +kernel)) rfl) rfl rfl)
  have eB:bN bv=[Bk 0,Bk 1]:=rfl;rw[eB];refine⟨_,(be p0 (cN p1)).nox,?_⟩;refine⟨O,[some (.brwO fs ((t++[x]).map .int))],false,hO,.obj Z.lent .nil,?_,λH1 s1=>?_⟩
  .refine(cA (x:=.int ((t++[x]).length:Nat)) (y:=.int 0) ?_ (bu _ _ _)).trans ?_
   .rw[aD (v:=ofL (t++[x])) rfl];show some (PV.int (((t++[x]).map PV.int).length:Nat))=_;rw[ox]
   .show((eqF 100 _ _)).map PV.bl=_;rw[k7,I0,length_singleton];have:((((t.length+1:Nat):Int))==0)=false:=by rw[Jf];omega
    rw[this]
    rfl
  refine tR ?_;have J:=Z.move (B':=λ_=>none) (ah s1) (λ_=>s1 _ _) (λ_=>s1 _ _) Z.aO Z.lO rfl rfl;obtain⟨C,dx,gs,h1,h2⟩:=J.ob;obtain⟨us,h3,h4⟩:=J.li;obtain⟨c1,_,c2⟩:=l.g.cls C h2.cls;have eu:us=(t++[x]).map V.int:=Reps.ints h4;subst eu;refine⟨_,rfl,a,C,dx,gs,.ref l',rfl,h1,c1,c2,h2.lst,.inl ⟨rfl,_,SqL.of h3⟩,l',_,.int x,rfl,rfl,h3,by rw[Js,I0,map_singleton,length_singleton,Jv,JC (pd _),Nat.sub_self];rfl,?_⟩;have a2:ag (ak H1 O) (ak (upd H1 l' (.lst ((t++[x]).map V.int).dropLast)) O):=λc o ec=>by
   have hc:c∉O:=λz=>by rw[dF z]at ec;cases ec
   have a3:c≠l':=λz=>hc (z▸J.lO)
   rw[aH hc]at ec;rw[aH hc,al a3];exact ec
  refine q _ (λb o nb eb=>by rw[al nb];exact s1 _ _ eb) ⟨⟨C,dx,gs,by rw[al J.ne];exact h1,h2.mono a2⟩,⟨_,ar,?_⟩,J.aO,J.lO,rfl,rfl,J.ne⟩;rw[Js,map_singleton,dropLast_concat];exact Reps.of_ints t
def mQ(H:Hp):ak H []=H:=by funext b;unfold ak;rw[if_neg (by simp)]
def le0{H:Hp}{M:List Addr}:ag (ak H M) (ak H []):=by rw[mQ];exact ba H M
def wF{H G:Hp}{M:List Addr}(s:ag H G)(h:∀b∈M,H b=none):ag H (ak G M):=λb o e=>by
 rw[aH λz=>by rw[h b z]at e;cases e];exact s b o e
structure J66(K:LI)(Rb:LL)(t:List Int)(u5:V)(d:Addr)(M:List Addr)(H:Hp):Prop where
 r5:Rep K (ak H M) (.lst (Rb.map ofL)) u5
 dd:ak H M d=some (.lst (t.map V.int))
section
variable{K:LI}{Rb:LL}{t:List Int}{u5:V}{d:Addr}{M M':List Addr}{H H':Hp}
theorem J66.mv(j:J66 K Rb t u5 d M H)(s:ag (ak H M) (ak H' M')):J66 K Rb t u5 d M' H':=⟨Rep.mono s _ j.r5,s _ _ j.dd⟩
theorem J66.r0(j:J66 K Rb t u5 d M H):Rep K (ak H []) (.lst (Rb.map ofL)) u5:=Rep.mono le0 _ j.r5
theorem J66.d0(j:J66 K Rb t u5 d M H):Rep K (ak H []) (ofL t) (.ref d):=by
 show Rep K _ (.lst (t.map .int)) _;rw[Rep];exact⟨_,_,rfl,SqL.of (le0 _ _ j.dd),Reps.of_ints _⟩
def oB{fs xs:List PV}{a l:Addr}{B:Hp}{O:List Addr}(h:cc K B O H fs xs a l):dz K H (ak H []) fs xs a:=h.lent.move (ag.refl H) le0
noncomputable def f66(q D J U Y Z y z:Option V)(c:Int)(u5:V)(o:Bool)(d:Addr)(p:Str):L2.St:=[q,D,J,some (.int c),U,some u5,some (.str (af o)),some (.ref d),Y,Z,some (.str p),y,z]
def J66.view1(j:J66 K Rb t u5 d M H){q D J U Y Z z:Option V}{c:Int}{o:Bool}{p:Str}{fs xs:List PV}{a:Addr}(h:dz K H (ak H []) fs xs a) :
  Vw K H [] [none,none,none,sv (.int c),none,sv (.lst (Rb.map ofL)),sv (.str (af o)),sv (ofL t),none,none,none,some (.brwO fs xs),none] (f66 q D J U Y Z (some (.ref a)) z c u5 o d p):=
 .skip (.skip (.skip (.val (by rw[Rep]) (.skip (.val j.r0 (.val (by rw[Rep]) (.val j.d0 (.skip (.skip (.skip (.obj h (.skip .nil))))))))))))
def J66.view2(j:J66 K Rb t u5 d M H){q D J U Y Z y:Option V}{c:Int}{o:Bool}{p:Str}{fs xs:List PV}{a:Addr}(h:dz K H (ak H []) fs xs a) :
  Vw K H [] [none,none,none,sv (.int c),none,sv (.lst (Rb.map ofL)),sv (.str (af o)),sv (ofL t),none,none,none,none,some (.brwO fs xs)] (f66 q D J U Y Z y (some (.ref a)) c u5 o d p):=
 .skip (.skip (.skip (.val (by rw[Rep]) (.skip (.val j.r0 (.val (by rw[Rep]) (.val j.d0 (.skip (.skip (.skip (.skip (.obj h .nil))))))))))))
theorem J66.view(j:J66 K Rb t u5 d M H){q D J U Y Z y z:Option V}{c:Int}{o:Bool}{p:Str} :
  Vw K H [] [none,none,none,sv (.int c),none,sv (.lst (Rb.map ofL)),sv (.str (af o)),sv (ofL t),none,none,none,none,none] (f66 q D J U Y Z y z c u5 o d p):=
 .skip (.skip (.skip (.val (by rw[Rep]) (.skip (.val j.r0 (.val (by rw[Rep]) (.val j.d0 (.skip (.skip (.skip (.skip (.skip .nil))))))))))))
end
noncomputable abbrev c39:Cal:=ac defs 39
noncomputable abbrev sm1(i:Nat)(e:ME):ME:=.not (.call 27 [.bor i,.bor 3,.bor 5,.bor 6,e])
noncomputable abbrev Hf:ME:=.slice (.bor 7) (.cst .non) (.bin .sub (.blt .len [.bor 7]) (ci 1))
noncomputable abbrev zC:ME:=.idx (.bor 7) (.bin .sub (.blt .len [.bor 7]) (ci 1))
noncomputable abbrev L(i:Nat):Stmt:=(bN ni).getD i (.Pass ⟨0,0,0,0⟩)
noncomputable abbrev A(i:Nat):Stmt:=(fb (L 13)).getD i (.Pass ⟨0,0,0,0⟩)
noncomputable abbrev E:Stmt:=(fe (L 13)).getD 0 (.Pass ⟨0,0,0,0⟩)
noncomputable abbrev B(i:Nat):Stmt:=(fb E).getD i (.Pass ⟨0,0,0,0⟩)
noncomputable abbrev tRd(K:LI)(i:Nat):TS:=λD σ H=>lq (BK K 34) [] E0 (kg (dP 10) fS) σ H λu H'=>D.nx (σ.set i (some u)) H'
noncomputable abbrev tSm(K:LI)(i:Nat)(e:ME):TS:=mU (tVB K c39 (sm1 i e)) (rS (tC (.bl false))) ke
noncomputable abbrev tT1 (K:LI) (C:Addr):TS:=iQ (mU (t7 (tOp (R2C K (cb .ne)) (kh C "back" (BL K) [] E0 (dP 12) fS) (tV K c39 zC))) (rS (tC (.bl false))) ke) (tSm K 12 Hf)
noncomputable abbrev tT2 (K:LI) (C:Addr):TS:=iQ (nu (kh C "take" (spT K c39 34) [] E0 (dP 12) (kg (tV K c39 (.bin .sub (.bor 3) (ci 1))) fS))) (tSm K 12 (.lst [(.bin .sub (.bor 3) (ci 1))]))
noncomputable abbrev E6(K:LI)(C:Addr):TS:=iQ (tRd K 11) (iQ (tSm K 11 (.bor 7)) (iQ (tRd K 12) (iQ (mU (tVB K c39 (.cmp .gt (.blt .len [.bor 7]) (ci 0))) (tT1 K C) (mU (tVB K c39 (.cmp .isN (.callM 33 12 []) (.cst .non))) (tT2 K C) ke)) (rS (tV K c39 (.call 27 [.bor 11,.bor 3,.bor 5,.bor 6,.bor 7]))))))
section
variable{X:Cx}
theorem Fr.set{N:List Str}{st:Stmt}{n:Nat}{i:Nat}{x:Str}{px pos:Pos}{v:Expr}{te:TE}(l:Fr X N st n)(hi:N[i]?=some x)(hx:fY (aj st) x=true)(h:PE X v te)(hc:swapsWith v (some (.Name x px)) pos.line X.env=pure false):PS X (.Assign [.Name x px] v pos) (λD σ H=>te σ H λu H'=>D.nx (σ.set i (some u)) H'):=
 gG l.d.nd (by rw[l.nn];exact hi) (by have:=fF hx;rw[<- l.s]at this;exact this) h hc (.inl (l.d.fn x))
def E7(l:Fr X kF.names ni 39){i:Nat}{e:ME}{st:Expr}{n2:Nat}{pos p2 p3:Pos}(h:chk tab (sm1 i e) kF.names (aj ni) st=true):PS X (.If st [.Return (some (.Constant (.bool false) n2 p2)) p3] [] pos) (tSm X.K i e):=
 nv (l.t h) (cN (gc wS)) iR
def Hg (l:Fr X kF.names ni 39) {C Z J:Addr}{q D:FuncData} (hC:IsC X.K C) (mR:X.mg ("page_read":Str)=some (.ref J)) (kR:PySem.W.keepIn X.K (.ref J)=true) (bR:aX X.K D ["text"] []) (FR:dq X.prog X.w X.K X.mg X.base CX0 39 J D ["text"] (BK X.K 34))
  (MB:mV X.K C "back" Z) (bB:aX X.K q ["self"] []) (FB:dq X.prog X.w X.K X.mg X.base CX0 39 Z q ["self"] (BL X.K)):PSs X [L 10,L 11,L 12,L 13,L 14] (E6 X.K C):=by
 have gR:Gl X "page_read":=fz (by rw[l.s];decide +kernel);obtain⟨fa,fd,ps,h1,h3,F⟩:=l.g.methsT 34 "take" rfl C hC;have cC:=(l.g.cls C hC).1;have pB:PS X (A 0) (mU (t7 (tOp (R2C X.K (cb .ne)) (kh C "back" (BL X.K) [] E0 (dP 12) fS) (tV X.K c39 zC))) (rS (tC (.bl false))) ke):=
  nv (oG (gk l.g.units .ne) (lr (l.nm (i:=12) (x:="other") (by decide +kernel)) cC MB FB l.g.room bB .nil fW) (l.v (by kernel_rfl)) (wT _ (by decide) (by decide))) (cN (gc wS)) iR
 have pT:PS X (B 0) (nu (kh C "take" (spT X.K c39 34) [] E0 (dP 12) (kg (tV X.K c39 (.bin .sub (.bor 3) (ci 1))) fS))):=
  gb (oN (l.nm (i:=12) (x:="other") (by decide +kernel)) cC h1 F l.g.room h3 .nil fW (bm (l.v (by kernel_rfl)) b6)) rfl
 have pE:PS X E (mU (tVB X.K c39 (.cmp .isN (.callM 33 12 []) (.cst .non))) (tT2 X.K C) ke):=
  nv (l.t (by kernel_rfl)) (show PSs X [B 0,B 1] _ from be pT (cN (E7 l (by kernel_rfl)))) iR
 have U:PS X (L 10) (tRd X.K 11):=l.set (i:=11) (x:="table") rfl (by decide +kernel) (kS FR l.g.room gR mR kR bR .nil fW (bm (l.nm (i:=10) (x:="page") (by decide +kernel)) b6)) (cg rfl _ _ _);have Y:PS X (L 12) (tRd X.K 12):=l.set (i:=12) (x:="other") rfl (by decide +kernel) (kS FR l.g.room gR mR kR bR .nil fW (bm (l.nm (i:=10) (x:="page") (by decide +kernel)) b6)) (cg rfl _ _ _);exact be U (be (E7 l (by kernel_rfl)) (be Y (be (nv (l.t (by kernel_rfl)) (show PSs X [A 0,A 1] _ from be pB (cN (E7 l (by kernel_rfl)))) (cN pE)) (cN (gc (l.v (by kernel_rfl)))))))
end
section
variable{K:LI}{c:Int}{Rb:LL}{o:Bool}{t:List Int}{u5:V}{d:Addr}{H:Hp}
noncomputable abbrev rQ(c:Int)(Rb:LL)(o:Bool):List PV:=tbl c (sortT (Rb.map sortI)) o
def Cn(h:vi c Rb o t){σ:L2.St}(e:σ[10]?=some (some (.str (cv c Rb o t)))){Q:VK}(q:∀a l H',ag H H'->H a=none->H l=none->cc K (λ_=>none) [a,l] H' (rQ c Rb o) (t.map .int) a l->Q (.ref a) H') :
  lq (BK K 34) [] E0 (kg (dP 10) fS) σ H Q:=
 ⟨_,e,c,Rb,o,t,sortT (Rb.map sortI),rfl,h.pg,zA 34 c Rb h.rd.hc h.rd.hR h.rd.hl,zw 31 h.g h.p h.rd.ht,q⟩
def vj{fs xs:List PV}{a l:Addr}{O:List Addr}(h:cc K (λ_=>none) O H fs xs a l):∀x∈[a,l],H x≠none:=λx hx=>by
 obtain⟨C,dx,gs,h1,_⟩:=h.ob;obtain⟨us,h2,_⟩:=h.li;rcases rb.mp hx with rfl|hx
 .rw[h1];simp
 .rw[IS.mp hx,h2];simp
def Hh{fs xs:List PV}{a l:Addr}{O:List Addr}{C:Addr}(q:cc K (λ_=>none) O H fs xs a l)(D:IsC K C):∃dx gs,H a=some (.ins C dx gs)/\∀m∈ma,gs.lookup m=none:=by
 obtain⟨J,dx,gs,h1,h2⟩:=q.ob;have:J=C:=by
  have:=h2.cls.symm.trans D;cases this
  rfl
 subst this;exact⟨dx,gs,h1,h2.no⟩
def vk(i:Nat)(e:ME){G:Rho}{t':List Int}(h:wD c Rb t')(g:cU (sortT (Rb.map sortI)))(q:evA c39 [.bor i,.bor 3,.bor 5,.bor 6,e] G=some [.brwO (rQ c Rb o) (t'.map .int),.val (.int c),.val (.lst (Rb.map ofL)),.val (.str (af o)),.val (ofL t')]):ev c39 (.call 27 [.bor i,.bor 3,.bor 5,.bor 6,e]) G=some (.bl true):=
 bb q (E1 32 o h g)
def pY(i:Nat)(e:ME){G:Rho}{t':List Int}(h:wD c Rb t')(g:cU (sortT (Rb.map sortI)))(q:evA c39 [.bor i,.bor 3,.bor 5,.bor 6,e] G=some [.brwO (rQ c Rb o) (t'.map .int),.val (.int c),.val (.lst (Rb.map ofL)),.val (.str (af o)),.val (ofL t')]):ev c39 (sm1 i e) G=some (.bl false):=
 (zg (vk i e h g q)).trans rfl
def no0{H:Hp}:∀a∈([]:List Addr),H a≠none:=λa h=>by cases h
def tU(h:vi c Rb o t){D J U Y Z q9 z:Option V}{p:Str}{M:List Addr}(j:J66 K Rb t u5 d M H){a l:Addr}{O:List Addr}(oa:cc K (λ_=>none) O H (rQ c Rb o) (t.map .int) a l){Q:VK}(q:∀H',Q (.bl true) H') :
  tV K c39 (.call 27 [.bor 11,.bor 3,.bor 5,.bor 6,.bor 7]) (f66 D J U Y Z q9 (some (.ref a)) z c u5 o d p) H Q:=
 ⟨[],_,.bl true,no0,j.view1 (oB oa),vk 11 (.bor 7) h.rd h.g rfl,λu H' _ r=>by
  rw[Rep]at r;subst r;exact q H'⟩
def BM{c:Int}{t':List Int}(h:wD c Rb t)(m:∀x∈t',x∈t)(nd:t'.Nodup)(hl:t'.length<=60):wD c Rb t':=⟨h.hc,h.hR,h.hl,λx hx=>h.hm x (m x hx),hl,nd⟩
def E8{C:Addr}(hC:IsC K C)(h:vi c Rb o t)(j:J66 K Rb t u5 d [] H){q0 q1 q2 q4 q8 q9 qy qz:Option V}{D:mS}(q:∀H',D.rt (.bl true) H') :
  E6 K C D (f66 q0 q1 q2 q4 q8 q9 qy qz c u5 o d (cv c Rb o t)) H:=by
 refine Cn h rfl λa l H1 s1 na nl a6=>?_
 have j1:=j.mv (ah s1);show iQ (tSm K 11 (.bor 7)) _ D (f66 q0 q1 q2 q4 q8 q9 (some (.ref a)) qz c u5 o d (cv c Rb o t)) H1;refine⟨[],_,false,no0,j1.view1 (oB a6),pY 11 (.bor 7) h.rd h.g rfl,λH2 s2=>tR ?_⟩;have j2:=j1.mv (ah s2);have b2:=a6.move (B':=λ_=>none) (ah s2) (λ_=>s2 _ _) (λ_=>s2 _ _) a6.aO a6.lO rfl rfl;refine Cn h rfl λb Z H3 s3 nb bt b3=>?_
 have j3:J66 K Rb t u5 d [b,Z] H3:=j2.mv (by
  rw[mQ];exact wF s3 λx hx=>by
   rcases rb.mp hx with rfl|hx
   .exact nb
   .rw[IS.mp hx];exact bt)
 have b4:cc K (λ_=>none) [a,l,b,Z] H3 (rQ c Rb o) (t.map .int) a l:=b2.move (B':=λ_=>none) (aV s3 λx hx=>by
  simp only[rb,JI,Kd]at hx;rcases hx with rfl|rfl|rfl|rfl
  .exact .inl (.head _)
  .exact .inl (.tail _ (.head _))
  .exact .inr nb
  .exact .inr bt) (λ_=>s3 _ _) (λ_=>s3 _ _) (.head _) (.tail _ (.head _)) rfl rfl
 have a1:a≠b/\a≠Z/\l≠b/\l≠Z:=by
  have h1:=vj b2 a (.head _);have h2:=vj b2 l (.tail _ (.head _));refine⟨?_,?_,?_,?_⟩<;>(intro z;subst z;first|exact h1 nb|exact h1 bt|exact h2 nb|exact h2 bt)
 show iQ (mU (tVB K c39 (.cmp .gt (.blt .len [.bor 7]) (ci 0))) (tT1 K C) (mU (tVB K c39 (.cmp .isN (.callM 33 12 []) (.cst .non))) (tT2 K C) ke)) _ D (f66 q0 q1 q2 q4 q8 q9 (some (.ref a)) (some (.ref b)) c u5 o d (cv c Rb o t)) H3;have bT:∀G:Rho,(G[7]?).join=sv (ofL t)->ev c39 (.blt .len [.bor 7]) G=some (.int (t.length:Nat)):=λG e=>by
  rw[aD (v:=ofL t) (by rw[ev,e];rfl)];show some (PV.int ((t.map PV.int).length:Nat))=_;rw[ox]
 refine⟨[],_,decide (0<(t.length:Int)),no0,j3.view,(cA (bT _ rfl) (bu _ _ _)).trans rfl,λH4 s4=>?_⟩;have j4:=j3.mv (ah s4);have a2:=b4.move (B':=λ_=>none) (ah s4) (λ_=>s4 _ _) (λ_=>s4 _ _) b4.aO b4.lO rfl rfl;have ao:=b3.move (B':=λ_=>none) (ah s4) (λ_=>s4 _ _) (λ_=>s4 _ _) b3.aO b3.lO rfl rfl;obtain⟨dx,gs,eb,no⟩:=Hh ao hC;rcases eq_nil_or_concat t with ht|⟨J,x,ht⟩
 ·
  subst ht;rw[IQ (by simp)];refine tR ⟨[],_,gM (dC (lft o 0 (sortT (Rb.map sortI)) [])).pv,no0,j4.view2 (oB ao),?_,λH5 s5=>?_⟩
  .rw[cA (x:=(dC (lft o 0 (sortT (Rb.map sortI)) [])).pv) (oA rfl (jv 34 c _ o [] h.g)) (bu _ _ _),uY]
   rfl
  have j5:=j4.mv (ah s5);have U:=a2.move (B':=λ_=>none) (ah s5) (λ_=>s5 _ _) (λ_=>s5 _ _) a2.aO a2.lO rfl rfl;have Y:=ao.move (B':=λ_=>none) (ah s5) (λ_=>s5 _ _) (λ_=>s5 _ _) ao.aO ao.lO rfl rfl;by_cases hw:dC (lft o 0 (sortT (Rb.map sortI)) [])=.non
  .rw[hw];refine Hd ?_;have ej:1<=c:=by
    obtain⟨_,w2⟩:=rJ hw;cases e:Rb with
    |nil=>subst e;exact absurd rfl w2
    |cons r R =>
     have hr:r∈Rb:=by rw[e];exact .head _
     obtain⟨dr,dt⟩:=h.rd.hR r hr;cases e2:r with
     |nil=>exact absurd e2 dt
     |cons y ys=>have:=dr.m y (by rw[e2];exact .head _);omega
   have et:=zn 33 c (sortT (Rb.map sortI)) o [] (c-1) h.g hw (by omega) (by omega) (by simp) (by decide);refine⟨_,rfl,b,dx,gs,rfl,s5 _ _ eb,no _ (by decide),[],_,.int (c-1),no0,j5.view2 (oB Y),(g8 rfl (bu _ _ _)).trans rfl,λu H6 s6 r6=>?_⟩;rw[Rep]at r6;subst r6;have j6:=j5.mv (ah s6);have a4:=U.move (B':=λ_=>none) (ah s6) (λ_=>s6 _ _) (λ_=>s6 _ _) U.aO U.lO rfl rfl;have bB:=Y.move (B':=λ_=>none) (ah s6) (λ_=>s6 _ _) (λ_=>s6 _ _) Y.aO Y.lO rfl rfl;refine⟨[b,Z],b,Z,rQ c Rb o,[],[.val (.int (c-1))],[.int (c-1)],_,_,rfl,vj bB,bB,.cons (bZ (K:=K) (ak (dW H6 [b,Z]) [b,Z]) (c-1)) .nil,et,λl' H7 kp dV d1=>?_⟩;have a5:∀{A:List Addr},ag (ak H6 ([b,Z]++A)) (ak H7 ([b,l']++A)):=λ{A} y w ew=>by
    have hy:y∉[b,Z]++A:=λz=>by rw[dF z]at ew;cases ew
    rw[aH hy]at ew;have hn:y∉[b,l']++A:=λz=>by
     rcases Kq.mp z with z|z
     .rcases rb.mp z with z|z
      .exact hy (by rw[z];simp)
      .rw[IS.mp z]at ew hy;rcases dV with w|w
       .exact hy (by rw[w];simp)
       .rw[w]at ew;cases ew
     .exact hy (Jr _ z)
    rw[aH hn];exact kp y w (λz=>hy (by rw[z];simp)) (λz=>hy (by rw[z];simp)) ew
   have j7:J66 K Rb [] u5 d [b,l'] H7:=j6.mv (by have:=a5 (A:=[]);simpa using this);have cd:cc K (λ_=>none) [b,l',a,l] H7 (rQ c Rb o) (([]:List Int).map .int) a l:=by
    refine(a4.move (B':=λ_=>none) (H':=H6) (O':=[b,Z,a,l]) (aV (ag.refl H6) λy hy=>.inl ?_) (λ_ z=>z) (λ_ z=>z) (by simp) (by simp) rfl rfl).move (a5 (A:=[a,l])) (λw z=>kp a w a1.1 a1.2.1 z) (λw z=>kp l w a1.2.2.1 a1.2.2.2 z) (by simp) (by simp) rfl rfl;simp only[rb,JI,Kd]at hy ⊢;rcases hy with rfl|rfl|rfl|rfl<;>simp
   refine⟨[],_,false,no0,j7.view2 (oB d1),pY (c:=c) (o:=o) 12 _ (t':=[c-1]) ?_ h.g ?_,λH8 s8=>tR ?_⟩
   .exact⟨h.rd.hc,h.rd.hR,h.rd.hl,λx hx=>by rw[IS.mp hx];omega,by show 1<=60;decide,by simp⟩
   .rfl
   exact tU h (j7.mv (ah s8)) (cd.move (B':=λ_=>none) (ah s8) (λ_=>s8 _ _) (λ_=>s8 _ _) cd.aO cd.lO rfl rfl) q
  .have:gM (dC (lft o 0 (sortT (Rb.map sortI)) [])).pv=false:=by
    rcases oq (lft o 0 (sortT (Rb.map sortI)) [])with w|w|w
    .rw[w];rfl
    .rw[w];rfl
    .exact absurd w hw
   rw[this];exact tR (tU h j5 U q)
 ·
  subst ht;rw[concat_eq_append]at *
  have hp:0<(((J++[x]).length:Nat):Int):=by rw[I0,length_singleton];omega
  rw[IM hp];refine Hd ?_;refine⟨_,rfl,b,dx,gs,rfl,eb,no _ (by decide),[b,Z],b,Z,rQ c Rb o,J,x,rfl,vj ao,ao,λH5 kp Y=>?_⟩;have a5:∀{A:List Addr},Z∈A->ag (ak H4 A) (ak H5 A):=λ{A} hA y w ew=>by
   have hy:y∉A:=λz=>by rw[dF z]at ew;cases ew
   rw[aH hy]at ew ⊢;exact kp y w (λz=>hy (z▸hA)) ew
  have j5:J66 K Rb (J++[x]) u5 d [b,Z] H5:=j4.mv (a5 (by simp));have U:=a2.move (B':=λ_=>none) (a5 (A:=[a,l,b,Z]) (by simp)) (λw z=>kp a w a1.2.1 z) (λw z=>kp l w a1.2.2.2 z) a2.aO a2.lO rfl rfl;have b1:∀G:Rho,(G[7]?).join=sv (ofL (J++[x]))->ev c39 (.bin .sub (.blt .len [.bor 7]) (ci 1)) G=some (.int (J.length:Nat)):=λG e=>by
   rw[g8 (bT G e) (bu _ _ _)];show some (PV.int (((J++[x]).length:Nat)-1:Int))=_;rw[I0,length_singleton]
   congr 2
   omega
  have ck:∀G:Rho,(G[7]?).join=sv (ofL (J++[x]))->ev c39 zC G=some (.int x):=λG e=>by
   rw[iO (x:=ofL (J++[x])) (by rw[ev,e];rfl) (b1 G e)];show gO (.lst ((J++[x]).map .int)) _=_;rw[tL PV.int (J++[x]) J.length (by simp)];simp
  have cP:∀G:Rho,(G[7]?).join=sv (ofL (J++[x]))->ev c39 Hf G=some (ofL J):=λG e=>by
   refine k9 (x:=ofL (J++[x])) (l:=none) (h:=some (J.length:Nat)) (by rw[ev,e];rfl) rfl ?_ ?_
   .rw[b1 G e]
    rfl
   .show some (PV.lst (cut ((J++[x]).map PV.int) none (some ((J.length:Nat):Int))))=_;unfold cut;rw[ie _ _ _ (by simp),Js];show some (PV.lst (List.take (J.length-0) (J.map PV.int++[x].map PV.int)))=_;rw[Nat.sub_zero,take_left' (ox ..)]
  refine⟨[],_,.int x,no0,j5.view,ck _ rfl,λu H6 s6 r6=>?_⟩;rw[Rep]at r6;subst r6;refine⟨[],.int x,.int x,false,.inl (bZ _ _),.inl (bZ _ _),?_,?_⟩
  .show(some (x==x)).map (λp=>!p)=some false;rw[Jx]
   rfl
  have j6:=j5.mv (ah s6);have a4:=U.move (B':=λ_=>none) (ah s6) (λ_=>s6 _ _) (λ_=>s6 _ _) U.aO U.lO rfl rfl;have bB:=Y.move (B':=λ_=>none) (ah s6) (λ_=>s6 _ _) (λ_=>s6 _ _) Y.aO Y.lO rfl rfl;refine⟨false,rfl,tR ?_⟩;refine⟨[],_,false,no0,j6.view2 (oB bB),pY (c:=c) (o:=o) 12 _ (t':=J) ?_ h.g ?_,λH8 s8=>tR ?_⟩
  .have nd:=h.rd.nd;rw[LF]at nd;exact BM h.rd (λy hy=>mem_append_left _ hy) nd.1 (by have:=h.rd.ht;rw[I0]at this;omega)
  .exact u0 rfl (u0 rfl (u0 rfl (u0 rfl (Bl (λi z=>by cases z) (cP _ rfl)))))
  exact tU h (j6.mv (ah s8)) (a4.move (B':=λ_=>none) (ah s8) (λ_=>s8 _ _) (λ_=>s8 _ _) a4.aO a4.lO rfl rfl) q
end
def scL:eM kF.names ["script"] (aj ni):=⟨rfl,rfl,rfl,by decide +kernel,rfl,by decide +kernel,by decide +kernel⟩
def zD {P:Program}{w:World}{K:LI}{mg:Str->Option Value}{base:Heap}{fa:Addr}{fd:FuncData} (pr:pL tab K mg defs) (D:FnD K "law" "law" ni fa fd)
  (hT:∃f fd,mg ("table_played":Str)=some (.ref f)/\FnD K "table_played" "table_played" ca f fd/\aX K fd ["loom","opener","deeds"] [])
  (hR:∃f fd,mg ("page_read":Str)=some (.ref f)/\FnD K "page_read" "page_read" bw f fd/\aX K fd ["text"] [])
  (hB:∃C,IsC K C/\∃f fd,mV K C "back" f/\FnD K "back" "Table.back" bv f fd/\aX K fd ["self"] []):dq P w K mg base CX0 40 fa fd ["script"] (rP K):=by
 obtain⟨c0,d0,k0,o0,m0,a0,U,t1,a1,sl,lk,a4,rfl⟩:=D.it;refine kj lk a4 scL (λvs H Q E h=>?_) (λA outer s H vs Q E hr h=>?_)
 .obtain⟨a,ns,rfl,_⟩:=h
  rfl
 .obtain⟨a,ns,rfl,Y,hS,hq⟩:=h;obtain⟨fT,c5,mT,DT,bT⟩:=hT;obtain⟨fR,c9,mR,DR,bR⟩:=hR;obtain⟨C,hC,fB,dr,MB,DB,bB⟩:=hB;have l:Fr (fU CX0 P w K mg base kF.names "law" (aj ni) fa U A outer s H E).nox kF.names ni 39:=Fr.of pr scL hr;have FR:=Hc (Pp:=P) (w:=w) (base:=base) (n:=34) pr DR mT DT bT;have FB:=He (P:=P) (w:=w) (base:=base) (mg:=mg) (n:=38) pr DB;have eB:bN ni=[L 0,L 1,L 2,L 3,L 4,L 5,L 6,L 7,L 8,L 9,L 10,L 11,L 12,L 13,L 14]:=rfl;rw[eB];have hp:PSs (fU CX0 P w K mg base kF.names "law" (aj ni) fa U A outer s H E).nox [L 0,L 1,L 2,L 3,L 4,L 5,L 6,L 7,L 8,L 9,L 10,L 11,L 12,L 13,L 14] (tSk K c39 E2 (tSk K c39 G9 (E6 K C))):=
   cj (l.s1 (by kernel_rfl)) (cj (l.s1 (by kernel_rfl)) (cj (l.s1 (by kernel_rfl)) (cj (l.s1 (by kernel_rfl)) (cj (l.s1 (by kernel_rfl)) (cj (l.s1 (by kernel_rfl)) (tQ
   (cj (l.s1 (by kernel_rfl)) (cj (l.s1 (by kernel_rfl)) (cj (l.s1 (by kernel_rfl)) (cj (l.s1 (by kernel_rfl)) (tQ (Hg l hC mR DR.kp bR FR MB bB FB))))))))))))
  refine⟨_,hp.nox,?_⟩;obtain⟨b,a5,c,Z,Rb,hw,hm,hc,a6,hl,eA⟩:=BG ns Y;refine⟨H,[],[],_,_,gW (args:=[.brw (ns.map .int)]) (λa ha=>by cases ha) (.cons ⟨a,_,rfl,hS,Reps.of_ints ns⟩ .nil),eA,λed H1 O1 bt k1=>?_⟩;obtain⟨o,t,k,f,out,eL⟩:=BF ns b a5 c Z Rb Y hw hm hc a6 hl (some (.brw (ns.map .int))) (sv (.int b)) rfl;refine⟨H,[],O1,_,_,bt,eL,λσ H2 O2 q k2=>?_⟩;have l0:σ.length=12+1:=q.len.symm;obtain⟨u3,e3,r3⟩:=q.slot 3 _ rfl;obtain⟨u5,e5,r5⟩:=q.slot 5 _ rfl;obtain⟨u6,e6,r6⟩:=q.slot 6 _ rfl;obtain⟨u7,e7,d,us,rfl,h7,r7,_⟩:=q.slot 7 _ rfl;obtain⟨b1,b2,J⟩:=q.slot 10 _ rfl;have r3:Rep K (ak H2 O2) (.int c) u3:=r3;have r6:Rep K (ak H2 O2) (.str (af o)) u6:=r6;have J:Rep K (ak H2 O2) (.str (cv c Rb o t)) b1:=J;rw[Rep]at r3;rw[Rep]at r6;rw[Rep]at J;subst r3 r6 J;have b3:=Reps.ints r7;subst b3;obtain⟨q0,er,rfl,l1⟩:=a8 l0;obtain⟨q1,eu,rfl,l2⟩:=a8 l1;obtain⟨q2,ey,rfl,l3⟩:=a8 l2;obtain⟨q3,eD,rfl,l4⟩:=a8 l3;obtain⟨q4,eS,rfl,l5⟩:=a8 l4;obtain⟨q5,e1,rfl,l6⟩:=a8 l5;obtain⟨q6,e4,rfl,l7⟩:=a8 l6;obtain⟨q7,e9,rfl,l8⟩:=a8 l7;obtain⟨q8,fr,rfl,l9⟩:=a8 l8;obtain⟨q9,fx,rfl,b4⟩:=a8 l9;obtain⟨fy,cL,rfl,b5⟩:=a8 b4;obtain⟨fI,cP,rfl,cd⟩:=a8 b5;obtain⟨fL,cS,rfl,ck⟩:=a8 cd;obtain rfl:=JM.mp ck;cases e3;cases e5;cases e6;cases e7;cases b2;exact E8 hC out ⟨Rep.mono le0 _ r5,by rw[mQ];exact h7⟩ hq
def BN{K:LI}{H:Hp}{a:Addr}{ns:List Int}{E:XK}(hl:ns.length<=63)(q:SqL K H a (ns.map V.int)):rP K [.ref a] H (λv _=>v=.bl true) E:=⟨a,ns,rfl,hl,q,λ_=>rfl⟩
end
def E9 {l:PySem.W.OpenLaw}{w:World}{K:LI}{h:Heap}{mg:Str->Option Value}{fa:Addr} (X:K.In h) (G:h.Ns mainGlobals mg) (c2:mg "law"=some (.ref fa))
  {C fI:Addr}{q:FuncData} (aC:PySem.W.nsIn K mainGlobals "Table"=some (some (.ref C))) (pg:PySem.W.plainGet K C Str.empty=true) (hd:PySem.W.hasDictIn K C=true) (po:PySem.W.plainOver K C=true) (sa:PySem.W.findIn K (.ref C) "__setattr__"=some (some (.builtin "object.__setattr__"))) (mk:PySem.W.makesIn K C=true) (kc:PySem.W.keepIn K (.ref C)=true)
  (n0:PySem.W.findIn K (.ref C) "hole_count"=some none) (n1:PySem.W.findIn K (.ref C) "ribbons"=some none) (n2:PySem.W.findIn K (.ref C) "opener"=some none) (n3:PySem.W.findIn K (.ref C) "taken"=some none)
  (ai:PySem.W.findIn K (.ref C) "__init__"=some (some (.ref fI))) (ii:PySem.W.isFn K (.ref fI)=true) (DI:FnD K "__init__" "Table.__init__" zB fI q) (bI:aX K q ["self","loom","first"] []) (bL:∃vs,aX K q ["self","loom","first"] vs/\aA ([Sc.str "weaver"].map Sc.v) vs)
  (h0:HD K "number_read" (top 13) dH) (h1:HD K "is_number_below" (top 17) aZ) (h2:HD K "each_once" (top 18) gX) (h3:HD K "strip_made" (top 19) eO) (h4:HD K "rest_made" (top 20) gY) (h5:HD K "strip_without" (top 21) d_) (h6:HD K "knotted" (top 22) jX) (h7:HD K "bitten" (top 23) mK) (h8:HD K "is_whole" (top 24) iK) (h9:HD K "is_bare" (top 25) jY) (h10:HD K "check_ribbon" (top 27) fq) (h11:HD K "loom_made" (top 28) gZ) (h12:HD K "other_hand" (top 30) gn) (h13:HD K "behind" (top 31) mL) (h14:HD K "row_written" (top 35) fO) (h15:HD K "page_written" (top 36) fu) (h16:HD K "numbers_behind" (top 37) dB) (h17:HD K "number_behind" (top 38) ez) (h18:HD K "is_opener" (top 39) g6) (h19:HD K "opener_place" (top 40) fv) (h20:HD K "_law_cell" (top 44) gp) (h21:HD K "_law_mixed" (top 45) g7) (h22:HD K "_law_ribbon" (top 46) gq) (h23:HD K "_law_canonical" (top 47) eE) (h24:HD K "_law_won" (top 48) cV) (h25:HD K "_law_page" (top 49) iL) (h26:HD K "_law_rest" (top 50) iM) (h27:HD K "_law_same" (top 51) iN) (h28:HM K C "hand_at" "Table.hand_at" (dD (top 33) 1) cn) (h29:HM K C "turn" "Table.turn" (dD (top 33) 3) eP) (h30:HM K C "deeds" "Table.deeds" (dD (top 33) 4) dM) (h31:HM K C "free" "Table.free" (dD (top 33) 7) gu) (h32:HM K C "rest" "Table.rest" (dD (top 33) 8) eQ) (h33:HM K C "winner" "Table.winner" (dD (top 33) 9) b9) (h34:HM K C "take" "Table.take" (dD (top 33) 10) eR) (hL:HD K "law" (top 52) kF λfd=>∀(s:Shared) (v:Value),BindsTo s fd ⟨[v],[]⟩ [("script",v)]) (hH0:HD K "table_played" (top 41) b_) (hH1:HD K "page_read" (top 42) cz) (hH2:HM K C "back" "Table.back" (dD (top 33) 11) cG)
  (zs:∀x∈je,PySem.W.nsIn K mainGlobals x=some none)
  {D:Value} (g0:PySem.W.nsIn K mainGlobals "FIGURES"=some (some D)) (r0:aG (toV (.str "0123456789")) D)
  {J:Value} (g1:PySem.W.nsIn K mainGlobals "HOLE_COUNT"=some (some J)) (r1:aG (toV (.int 60)) J)
  {U:Value} (g2:PySem.W.nsIn K mainGlobals "MOST_STRIPS"=some (some U)) (r2:aG (toV (.int 60)) U)
 :∃fd:FuncData,(∀(s:Shared) (v:Value),BindsTo s fd ⟨[v],[]⟩ [("script",v)])/\∀base:Heap,K.In base->base.Ns mainGlobals mg->dq l.prog w K mg base CX0 40 fa fd ["script"] (rP K):=by
 obtain⟨_,e0,D0,q0⟩:=a9 (T:=tab) X G h0 (by kernel_rfl);obtain⟨_,e1,D1,q1⟩:=a9 (T:=tab) X G h1 (by kernel_rfl);obtain⟨_,e2,D2,q2⟩:=a9 (T:=tab) X G h2 (by kernel_rfl);obtain⟨_,e3,D3,q3⟩:=a9 (T:=tab) X G h3 (by kernel_rfl);obtain⟨_,e4,D4,q4⟩:=a9 (T:=tab) X G h4 (by kernel_rfl);obtain⟨_,e5,D5,q5⟩:=a9 (T:=tab) X G h5 (by kernel_rfl);obtain⟨_,e6,D6,q6⟩:=a9 (T:=tab) X G h6 (by kernel_rfl);obtain⟨_,e7,D7,q7⟩:=a9 (T:=tab) X G h7 (by kernel_rfl);obtain⟨_,e8,D8,q8⟩:=a9 (T:=tab) X G h8 (by kernel_rfl);obtain⟨_,e9,D9,q9⟩:=a9 (T:=tab) X G h9 (by kernel_rfl);obtain⟨_,er,Y,et⟩:=a9 (T:=tab) X G h10 (by kernel_rfl);obtain⟨_,eu,Z,ew⟩:=a9 (T:=tab) X G h11 (by kernel_rfl);obtain⟨_,ey,ao,eA⟩:=a9 (T:=tab) X G h12 (by kernel_rfl);obtain⟨_,eB,a0,eC⟩:=a9 (T:=tab) X G h13 (by kernel_rfl);obtain⟨_,eD,a1,eI⟩:=a9 (T:=tab) X G h14 (by kernel_rfl);obtain⟨_,eL,a2,eS⟩:=a9 (T:=tab) X G h15 (by kernel_rfl);obtain⟨_,fl,a3,fr⟩:=a9 (T:=tab) X G h16 (by kernel_rfl);obtain⟨_,ft,a4,fx⟩:=a9 (T:=tab) X G h17 (by kernel_rfl);obtain⟨_,fy,a5,fB⟩:=a9 (T:=tab) X G h18 (by kernel_rfl);obtain⟨_,fR,a6,fT⟩:=a9 (T:=tab) X G h19 (by kernel_rfl);obtain⟨_,f0,bt,f1⟩:=a9 (T:=tab) X G h20 (by kernel_rfl);obtain⟨_,f2,bB,f3⟩:=a9 (T:=tab) X G h21 (by kernel_rfl);obtain⟨_,f4,bR,f5⟩:=a9 (T:=tab) X G h22 (by kernel_rfl);obtain⟨_,f6,bT,f7⟩:=a9 (T:=tab) X G h23 (by kernel_rfl);obtain⟨_,f8,b0,f9⟩:=a9 (T:=tab) X G h24 (by kernel_rfl);obtain⟨_,ga,b1,gg⟩:=a9 (T:=tab) X G h25 (by kernel_rfl);obtain⟨_,gl,b2,gv⟩:=a9 (T:=tab) X G h26 (by kernel_rfl);obtain⟨_,gy,b3,gR⟩:=a9 (T:=tab) X G h27 (by kernel_rfl);obtain⟨_,gT,b4⟩:=gm (T:=tab) (mg:=mg) aC h28 (by kernel_rfl);obtain⟨_,g3,b5⟩:=gm (T:=tab) (mg:=mg) aC h29 (by kernel_rfl);obtain⟨_,g4,cd⟩:=gm (T:=tab) (mg:=mg) aC h30 (by kernel_rfl);obtain⟨_,g5,ck⟩:=gm (T:=tab) (mg:=mg) aC h31 (by kernel_rfl);obtain⟨_,ha,cl⟩:=gm (T:=tab) (mg:=mg) aC h32 (by kernel_rfl);obtain⟨_,hb,cC⟩:=gm (T:=tab) (mg:=mg) aC h33 (by kernel_rfl);obtain⟨_,he,cL⟩:=gm (T:=tab) (mg:=mg) aC h34 (by kernel_rfl);obtain⟨_,fL,c3,aL,DL,_,qL⟩:=hL;cases c2.symm.trans (PySem.W.mg_of X G aL);obtain⟨_,c4,cP,c5,c6,c7,_⟩:=hH0;obtain⟨_,c8,cS,c9,df,dm,_⟩:=hH1;obtain⟨_,_,dr,c0,dt,dv,dV⟩:=hH2;have pr:pL tab K mg defs:=by
  refine⟨rfl,rfl,λC' h'=>Es aC ⟨⟨pg,hd,po,sa⟩,λx hx=>B9 n0 n1 n2 x hx,n3⟩ h',⟨C,aC,PySem.W.mg_of X G aC,fI,q,_,⟨mk,ai,ii,kc⟩,bI,λP w base=>BH DI ⟨⟨pg,hd,po,sa⟩,λx hx=>B9 n0 n1 n2 x hx,n3⟩,bL⟩,⟨⟨_,_,_,D0,_,D0.binds,.nil⟩,⟨_,_,_,D1,_,D1.binds,.nil⟩,⟨_,_,_,D2,_,D2.binds,.nil⟩,⟨_,_,_,D3,_,D3.binds,.nil⟩,⟨_,_,_,D4,_,D4.binds,.nil⟩,⟨_,_,_,D5,_,D5.binds,.nil⟩,⟨_,_,_,D6,_,D6.binds,.nil⟩,⟨_,_,_,D7,_,D7.binds,.nil⟩,⟨_,_,_,D8,_,D8.binds,.nil⟩,⟨_,_,_,D9,_,D9.binds,.nil⟩,⟨_,_,_,Y,_,Y.binds,.nil⟩,⟨_,_,_,Z,_,Z.binds,.nil⟩,⟨_,_,_,ao,_,ao.binds,.nil⟩,⟨_,_,_,a0,_,a0.binds,.nil⟩,⟨_,_,_,a1,_,a1.binds,.nil⟩,⟨_,_,_,a2,_,a2.binds,.nil⟩,⟨_,_,_,a3,_,a3.binds,.nil⟩,⟨_,_,_,a4,_,a4.binds,.nil⟩,⟨_,_,_,a5,_,a5.binds,.nil⟩,⟨_,_,_,a6,_,a6.binds,.nil⟩,⟨_,_,_,bt,_,bt.binds,.nil⟩,⟨_,_,_,bB,_,bB.binds,.nil⟩,⟨_,_,_,bR,_,bR.binds,.nil⟩,⟨_,_,_,bT,_,bT.binds,.nil⟩,⟨_,_,_,b0,_,b0.binds,.nil⟩,⟨_,_,_,b1,_,b1.binds,.nil⟩,⟨_,_,_,b2,_,b2.binds,.nil⟩,⟨_,_,_,b3,_,b3.binds,.nil⟩,⟨_,_,_,b4,_,b4.binds,.nil⟩,⟨_,_,_,b5,_,b5.binds,.nil⟩,⟨_,_,_,cd,_,cd.binds,.nil⟩,⟨_,_,_,ck,_,ck.binds,.nil⟩,⟨_,_,_,cl,_,cl.binds,.nil⟩,⟨_,_,_,cC,_,cC.binds,.nil⟩,⟨_,_,_,cL,_,cL.binds,.nil⟩,trivial⟩,λx hx=>PySem.W.mg_none_of X G (zs x hx),λp hp=>?_⟩
  .simp only[tab,rb,JI,Kd]at hp;rcases hp with rfl|rfl|rfl
   .exact⟨_,PySem.W.mg_of X G g0,r0⟩
   .exact⟨_,PySem.W.mg_of X G g1,r1⟩
   .exact⟨_,PySem.W.mg_of X G g2,r2⟩
 exact⟨c3,qL,λbase _ _=>zD pr DL ⟨c4,cP,PySem.W.mg_of X G c5,c6,c7⟩ ⟨c8,cS,PySem.W.mg_of X G c9,df,dm⟩ ⟨C,aC,dr,c0,dt,dv,dV⟩⟩
def ID{l:PySem.W.OpenLaw}{q:Program}{D:List Str}{Z:(Str->Option Value)->Heap->Prop}{U:World->Heap->Prop}{d:DefRec}{K:Params->LI}(hn:l.most=some 63)(J:d.params.defaults=[])
  (hY:∀(w:World) (h:Heap),U w h->(K w.params).In h)
  (F:∀(w:World) (mg:Str->Option Value) (Y:Addr) (h:Heap),(K w.params).In h->h.Ns mainGlobals mg->mg d.name=some (.ref Y) ->
   ∃fd:FuncData,(∀(s:Shared) (u:Value),BindsTo s fd ⟨[u],[]⟩ [("script",u)])/\∀base:Heap,(K w.params).In base->base.Ns mainGlobals mg->dq l.prog w (K w.params) mg base CX0 40 Y fd ["script"] (rP (K w.params))) :
  PySem.W.WalkO q D Z U l.row.toRowW d [] (λf vs=>PySem.call f vs):=
 L2.Af (n:=63) (k:=40) (x:="script") (CX:=λ_=>CX0) (sp:=λw=>rP (K w.params)) hn (by decide) J ⟨rfl,by decide,by decide⟩ hY F (λ_ _ a ns hl _ hS=>BN hl hS) λ_ _ _ _ _ z=>z
end My
open PySem PySem.W PyProof.Rows List Option
set_option maxRecDepth 100000 in
set_option maxHeartbeats 0 in
theorem PySem.Challenge.cw_mothloom_k66_pages_read_holds : PySem.Challenge.rw_mothloom_k66_pages_read.Holds := by
 w_on;o_law;k_head;(case hw=>w_witness2)
 k_fill
 refine My.ID (l:=PySem.Challenge.rw_mothloom_k66_pages_read) rfl rfl (λw h Y=>PySem.W.kIn_of Y) ?F
 case F =>
  intro w mg fa h KX G hmg
  refine' My.E9 KX G hmg ?aC ?pg ?hd ?po ?sa ?mk ?kc ?n0 ?n1 ?n2 ?n3 ?ai ?ii ?DI ?bI ?bL ?h0 ?h1 ?h2 ?h3 ?h4 ?h5 ?h6 ?h7 ?h8 ?h9 ?h10 ?h11 ?h12 ?h13 ?h14 ?h15 ?h16 ?h17 ?h18 ?h19 ?h20 ?h21 ?h22 ?h23 ?h24 ?h25 ?h26 ?h27 ?h28 ?h29 ?h30 ?h31 ?h32 ?h33 ?h34 ?hL ?hH0 ?hH1 ?hH2 ?zs ?gq0 ?rq0 ?gq1 ?rq1 ?gq2 ?rq2
  (case aC=>k_is)
  (case pg=>k_is)
  (case hd=>k_is)
  (case po=>k_is)
  (case sa=>k_is)
  (case mk=>k_is)
  (case kc=>k_is)
  (case n0=>k_is)
  (case n1=>k_is)
  (case n2=>k_is)
  (case n3=>k_is)
  (case ai=>k_is)
  (case ii=>k_is)
  (case DI=>refine' .mkd ?kl ?kc ?kk;(case kl=>k_is);(case kc=>k_is);(case kk=>k_is))
  (case bI=>refine' MM.ti rfl ?kx ?ky;(case kx=>k_is);(case ky=>exact λus hl=>match us,hl with|[_,_,_],_=>⟨_,rfl,rfl⟩))
  (case bL=>refine' MM.A9 rfl ?ku ?kw;(case ku=>k_is);(case kw=>exact λus hl=>match us,hl with|[_,_],_=>⟨_,rfl,rfl⟩))
  (case hL=>refine' ⟨rfl,_,_,?ka,.mk' (d0:=.none) ?kl ?kc ?kk,MM.bn1 λ_=>rfl,λs v=>.of_eq rfl⟩;(case ka=>k_is);(case kl=>k_is);(case kc=>k_is);(case kk=>k_is))
  (case hH0=>refine' ⟨rfl,_,_,?ka,.mk' (d0:=.none) ?kl ?kc ?kk,MM.bn3 λ_ _ _=>rfl,trivial⟩;(case ka=>k_is);(case kl=>k_is);(case kc=>k_is);(case kk=>k_is))
  (case hH1=>refine' ⟨rfl,_,_,?ka,.mk' (d0:=.none) ?kl ?kc ?kk,MM.bn1 λ_=>rfl,trivial⟩;(case ka=>k_is);(case kl=>k_is);(case kc=>k_is);(case kk=>k_is))
  (case hH2=>refine' ⟨rfl,rfl,_,_,⟨?ka,?ki,?ku⟩,.mk' (d0:=.none) ?kl ?kc ?kk,MM.bn1 λ_=>rfl⟩;(case ka=>k_is);(case ki=>k_is);(case ku=>k_is);(case kl=>k_is);(case kc=>k_is);(case kk=>k_is))
  (case h0|h2|h3|h4|h8|h9|h12|h15|h18|h19=>refine' ⟨rfl,_,_,?ka,.mk' (d0:=.none) ?kl ?kc ?kk,MM.bn1 λ_=>rfl,trivial⟩;(case ka=>k_is);(case kl=>k_is);(case kc=>k_is);(case kk=>k_is))
  (case h1|h5|h6|h7|h10|h11|h14|h16|h17|h20|h21|h22=>refine' ⟨rfl,_,_,?ka,.mk' (d0:=.none) ?kl ?kc ?kk,MM.bn2 λ_ _=>rfl,trivial⟩;(case ka=>k_is);(case kl=>k_is);(case kc=>k_is);(case kk=>k_is))
  (case h13|h24|h26=>refine' ⟨rfl,_,_,?ka,.mk' (d0:=.none) ?kl ?kc ?kk,MM.bn3 λ_ _ _=>rfl,trivial⟩;(case ka=>k_is);(case kl=>k_is);(case kc=>k_is);(case kk=>k_is))
  (case h23|h25=>refine' ⟨rfl,_,_,?ka,.mk' (d0:=.none) ?kl ?kc ?kk,MM.bn4 λ_ _ _ _=>rfl,trivial⟩;(case ka=>k_is);(case kl=>k_is);(case kc=>k_is);(case kk=>k_is))
  (case h27=>refine' ⟨rfl,_,_,?ka,.mk' (d0:=.none) ?kl ?kc ?kk,MM.bn5 λ_ _ _ _ _=>rfl,trivial⟩;(case ka=>k_is);(case kl=>k_is);(case kc=>k_is);(case kk=>k_is))
  (case h28=>refine' ⟨rfl,rfl,_,_,⟨?ka,?ki,?ku⟩,.mk' (d0:=.none) ?kl ?kc ?kk,MM.bn2 λ_ _=>rfl⟩;(case ka=>k_is);(case ki=>k_is);(case ku=>k_is);(case kl=>k_is);(case kc=>k_is);(case kk=>k_is))
  (case h29=>refine' ⟨rfl,rfl,_,_,⟨?ka,?ki,?ku⟩,.mk' (d0:=.none) ?kl ?kc ?kk,MM.bn1 λ_=>rfl⟩;(case ka=>k_is);(case ki=>k_is);(case ku=>k_is);(case kl=>k_is);(case kc=>k_is);(case kk=>k_is))
  (case h30=>refine' ⟨rfl,rfl,_,_,⟨?ka,?ki,?ku⟩,.mk' (d0:=.none) ?kl ?kc ?kk,MM.bn1 λ_=>rfl⟩;(case ka=>k_is);(case ki=>k_is);(case ku=>k_is);(case kl=>k_is);(case kc=>k_is);(case kk=>k_is))
  (case h31=>refine' ⟨rfl,rfl,_,_,⟨?ka,?ki,?ku⟩,.mk' (d0:=.none) ?kl ?kc ?kk,MM.bn1 λ_=>rfl⟩;(case ka=>k_is);(case ki=>k_is);(case ku=>k_is);(case kl=>k_is);(case kc=>k_is);(case kk=>k_is))
  (case h32=>refine' ⟨rfl,rfl,_,_,⟨?ka,?ki,?ku⟩,.mk' (d0:=.none) ?kl ?kc ?kk,MM.bn1 λ_=>rfl⟩;(case ka=>k_is);(case ki=>k_is);(case ku=>k_is);(case kl=>k_is);(case kc=>k_is);(case kk=>k_is))
  (case h33=>refine' ⟨rfl,rfl,_,_,⟨?ka,?ki,?ku⟩,.mk' (d0:=.none) ?kl ?kc ?kk,MM.bn1 λ_=>rfl⟩;(case ka=>k_is);(case ki=>k_is);(case ku=>k_is);(case kl=>k_is);(case kc=>k_is);(case kk=>k_is))
  (case h34=>refine' ⟨rfl,rfl,_,_,⟨?ka,?ki,?ku⟩,.mk' (d0:=.none) ?kl ?kc ?kk,MM.bn2 λ_ _=>rfl⟩;(case ka=>k_is);(case ki=>k_is);(case ku=>k_is);(case kl=>k_is);(case kc=>k_is);(case kk=>k_is))
  (case zs=>intro x hx;simp only[MM.je,rb,JI,Kd]at hx;rcases hx with rfl|rfl|rfl|rfl|rfl|rfl|rfl|rfl|rfl|rfl|rfl|rfl|rfl|rfl|rfl|rfl|rfl<;>k_is)
  (case gq0=>k_is);(case rq0=>exact⟨_,rfl⟩)
  (case gq1=>k_is);(case rq1=>exact⟨_,rfl⟩)
  (case gq2=>k_is);(case rq2=>exact⟨_,rfl⟩)
