import PyProof.Rows.All
import Wide.All
import OpenK.AllK
import Wide.FinOn
import Lean
import PyProof.EqAt
import PyProof.EqKinds
import PyProof.TupleCall
import PySem.Challenge.RW_mothloom_k48_plain_rower_weigher
set_option Elab.async false
set_option linter.all false
set_option maxRecDepth 100000
set_option maxHeartbeats 1500000
set_option genSizeOf false
set_option backward.eqns.nonrecursive false
set_option bootstrap.genMatcherCode false
def gI:=@Option.bind_eq_some_iff
def j0:=@PySem.wpAny_bind
def kn:=@Bool.false_ne_true
def ll:=@Bool.and_eq_true
def mn:=@Option.some.injEq
def mu:=@PySem.Heap.get?_push_of_some
def nW:=@List.mem_cons
def oe:=@List.size_toArray
def ox:=@PySem.wpAny_pure
def pb:=@Bool.and_eq_true_iff
def pe:=@Nat.le_refl
def ti:=@Option.map_eq_some_iff
def tr:=@List.length_map
def uM:=@List.getElem?_eq_some_iff
def uW:=@Option.some.inj
def u0:=@PySem.Heap.lt_size
def wh:=@Nat.lt_of_lt_of_le
def xm:=@List.not_mem_nil
def xw:=@Nat.le_trans
def Kr:=@List.getElem?_set_ne
def Ks:=@decide_eq_true
def Kt:=@beq_iff_eq
def Ku:=@Ne.symm
def Kv:=@PySem.Heap.get?_push_size
def Kw:=@List.mem_filter
def Kx:=@List.getElem?_map
def Ky:=@or_false
def Kz:=@List.getElem?_eq_getElem
def KA:=@Nat.ne_of_lt
def KD:=@Nat.lt_of_le_of_lt
def KG:=@PySem.wpAny_loadPart'
def KH:=@decide_eq_false
def KI:=@List.map_cons
def KJ:=@List.mem_cons_of_mem
def KL:=@Bool.not_eq_true'
def KN:=@Nat.zero_le
def KP:=@List.nodup_cons
def KQ:=@of_decide_eq_true
def KR:=@beq_eq_false_iff_ne
def KS:=@List.getElem?_set_self
def KU:=@List.length_append
def KW:=@List.mem_singleton
def KY:=@List.map_map
def KZ:=@PySem.wpAny_truthy_bool
def K0:=@PyProof.Rows.slot_tuple_getitem
def K1:=@List.mem_cons_self
def K2:=@List.nodup_nil
def K3:=@PySem.wpAny_mono
def K4:=@Int.emod_lt_of_pos
def K5:=@List.mem_append_right
def K6:=@not_false_iff
def K7:=@PySem.sizeLine_eq
def K8:=@Bool.eq_iff_iff
def K9:=@Nat.le_of_lt
def La:=@Nat.lt_irrefl
def Lb:=@PyProof.Rows.KeyOrd.kle_refl
def Lc:=@Int.emod_nonneg
def Ld:=@beq_self_eq_true
def Le:=@List.any_eq_true
def Lf:=@decide_eq_true_iff
def Lg:=@congrArg
def Lh:=@List.getElem?_append_left
def Li:=@Nat.le_antisymm
def Lj:=@PySem.wpAny_newObj_type
def Lk:=@Nat.le_of_lt_succ
def Ll:=@Nat.le_add_right
def Lm:=@PySem.Heap.size_push
def Ln:=@PySem.wpAny_call_entry
def Lp:=@List.map_congr_left
def Lq:=@PyProof.Rows.callWith_type1
def Lr:=@List.length_eq_zero_iff
def Ls:=@PySem.wpAny_passesOwn
def Lu:=@List.getElem?_append_right
def Lv:=@List.getD_eq_getElem?_getD
def Lw:=@PySem.wpAny_holding
def Lx:=@Nat.not_lt
def Ly:=@Nat.le_succ
def Lz:=@List.length_filter_le
def LA:=@and_true
def LB:=@PySem.Heap.SameBut.update
def LC:=@PySem.wpAny_callSpecial?_slot
def LD:=@PySem.wpAny_Call_Name_kw
def LF:=@List.mem_of_getElem?
def LG:=@PySem.tupleKind_room_in1
def LH:=@Nat.lt_of_le_of_ne
def LI:=@Bool.false_eq_true
def LJ:=@PySem.F.slot_dict_valueiterator_next
def LK:=@PySem.richCompare_meets_room
def LM:=@PyProof.Rows.KeyOrd.kle_of_klt
def LN:=@Nat.le_of_eq
def LO:=@PySem.Heap.get?_update_self
def LP:=@PyProof.Rows.KeyOrd.kle_trans
def LQ:=@Nat.le_sub_one_of_lt
def LR:=@List.map_append
def LS:=@Array.perm_iff_toList_perm
def LU:=@PySem.W.KasT.kasWp_bind
def LV:=@Bool.or_eq_true
def LW:=@Nat.ne_of_gt
def LX:=@List.getElem?_replicate
def LY:=@PySem.AutoSeq1.sub_tuple_tuple
def LZ:=@Nat.add_right_comm
def L0:=@Nat.add_sub_cancel
def L1:=@List.append_nil
def L3:=@List.length_set
def L4:=@Nat.le_of_succ_le
def L5:=@PySem.wpAny_collect_seq
def L6:=@List.length_eq_one_iff
def L7:=@List.find?_cons_of_neg
def L8:=@List.length_take
def L9:=@PySem.Heap.get?_update_other
def Ma:=@Nat.le_of_succ_le_succ
def Mb:=@List.pairwise_cons
def Mc:=@List.all_eq_true
def Md:=@PySem.wpAny_execs_nil
def Me:=@Nat.le_add_left
def Mf:=@Nat.zero_add
def Mg:=@Option.map_map
def Mh:=@List.filter_eq_self
def Mi:=@List.length_drop
def Mj:=@PySem.wpAny_pyIter_tuple
def Ml:=@PySem.Calls.spliced_cons
def Mm:=@Array.getD_eq_getD_getElem?
def Mn:=@List.filter_cons_of_neg
def Mo:=@Int.fdiv_eq_ediv_of_nonneg
def Mp:=@PySem.wpAny_pyIter_list
def Mq:=@List.any_eq_false
def Mr:=@Nat.lt_succ_of_le
def Ms:=@Nat.lt_succ_of_lt
def Mt:=@List.mem_append
def Mu:=@Int.not_le
def Mv:=@PySem.call_meets
def Mw:=@Nat.sub_le
def Mx:=@List.getElem?_eq_none_iff
def Mz:=@Int.le_of_lt
def MA:=@PySem.codeAny_mono
def MB:=@PySem.concat_meets
def MC:=@PySem.noFill_tuple_add
def MF:=@Nat.le_of_not_lt
def MG:=@map_eq_pure_bind
def MH:=@List.all_map
def MI:=@List.any_map
def MJ:=@List.getElem?_eq_none
def MK:=@List.isEmpty_iff
def ML:=@Int.le_refl
def MN:=@if_false
def MO:=@Nat.sub_lt
abbrev MP:=PySem.W.Frag
def cw{P:Prop}(h:∀Q:Prop,(P->Q)->Q):P:=h P id
def qT{P Q:Prop}{Z:Prop}(h:P/\Q)(k:P->Q->Z):Z:=k h.1 h.2
def mC{P Q R:Prop}{Z:Prop}(h:P/\Q/\R)(k:P->Q->R->Z):Z:=k h.1 h.2.1 h.2.2
def gE{P Q R S:Prop}{Z:Prop}(h:P/\Q/\R/\S)(k:P->Q->R->S->Z):Z:=k h.1 h.2.1 h.2.2.1 h.2.2.2
def xA{P Q R S T:Prop}{Z:Prop}(h:P/\Q/\R/\S/\T)(k:P->Q->R->S->T->Z):Z:=k h.1 h.2.1 h.2.2.1 h.2.2.2.1 h.2.2.2.2
def jE{P Q R S T U:Prop}{Z:Prop}(h:P/\Q/\R/\S/\T/\U)(k:P->Q->R->S->T->U->Z):Z:=k h.1 h.2.1 h.2.2.1 h.2.2.2.1 h.2.2.2.2.1 h.2.2.2.2.2
def GC{P:A->Prop}{Z:Prop}(h:∃a,P a)(k:∀a,P a->Z):Z:=h.elim λa h=>k a h
def ag{P Q:A->Prop}{Z:Prop}(h:∃a,P a/\Q a)(k:∀a,P a->Q a->Z):Z:=h.elim λa h=>k a h.1 h.2
def bq{P Q R:A->Prop}{Z:Prop}(h:∃a,P a/\Q a/\R a)(k:∀a,P a->Q a->R a->Z):Z:=h.elim λa h=>k a h.1 h.2.1 h.2.2
def oA{P Q R S T:A->Prop}{Z:Prop}(h:∃a,P a/\Q a/\R a/\S a/\T a)(k:∀a,P a->Q a->R a->S a->T a->Z):Z:=h.elim λa h=>k a h.1 h.2.1 h.2.2.1 h.2.2.2.1 h.2.2.2.2
def oB{P:A->B->Prop}{Z:Prop}(h:∃a b,P a b)(k:∀a b,P a b->Z):Z:=h.elim λa h=>h.elim λb h=>k a b h
def dc{P Q:A->B->Prop}{Z:Prop}(h:∃a b,P a b/\Q a b)(k:∀a b,P a b->Q a b->Z):Z:=h.elim λa h=>h.elim λb h=>k a b h.1 h.2
def au{P Q R:A->B->Prop}{Z:Prop}(h:∃a b,P a b/\Q a b/\R a b)(k:∀a b,P a b->Q a b->R a b->Z):Z:=h.elim λa h=>h.elim λb h=>k a b h.1 h.2.1 h.2.2
def jF{P Q R S:A->B->Prop}{Z:Prop}(h:∃a b,P a b/\Q a b/\R a b/\S a b)(k:∀a b,P a b->Q a b->R a b->S a b->Z):Z:=h.elim λa h=>h.elim λb h=>k a b h.1 h.2.1 h.2.2.1 h.2.2.2
def uT{P Q R S T:A->B->Prop}{Z:Prop}(h:∃a b,P a b/\Q a b/\R a b/\S a b/\T a b)(k:∀a b,P a b->Q a b->R a b->S a b->T a b->Z):Z:=h.elim λa h=>h.elim λb h=>k a b h.1 h.2.1 h.2.2.1 h.2.2.2.1 h.2.2.2.2
def Ct{P Q R S T U:A->B->Prop}{Z:Prop}(h:∃a b,P a b/\Q a b/\R a b/\S a b/\T a b/\U a b)(k:∀a b,P a b->Q a b->R a b->S a b->T a b->U a b->Z):Z:=h.elim λa h=>h.elim λb h=>k a b h.1 h.2.1 h.2.2.1 h.2.2.2.1 h.2.2.2.2.1 h.2.2.2.2.2
def GD{P:A->B->C->Prop}{Z:Prop}(h:∃a b c,P a b c)(k:∀a b c,P a b c->Z):Z:=h.elim λa h=>h.elim λb h=>h.elim λc h=>k a b c h
def xB{P Q:A->B->C->Prop}{Z:Prop}(h:∃a b c,P a b c/\Q a b c)(k:∀a b c,P a b c->Q a b c->Z):Z:=h.elim λa h=>h.elim λb h=>h.elim λc h=>k a b c h.1 h.2
def uU{P Q R:A->B->C->Prop}{Z:Prop}(h:∃a b c,P a b c/\Q a b c/\R a b c)(k:∀a b c,P a b c->Q a b c->R a b c->Z):Z:=h.elim λa h=>h.elim λb h=>h.elim λc h=>k a b c h.1 h.2.1 h.2.2
def mD{P Q R S:A->B->C->Prop}{Z:Prop}(h:∃a b c,P a b c/\Q a b c/\R a b c/\S a b c)(k:∀a b c,P a b c->Q a b c->R a b c->S a b c->Z):Z:=h.elim λa h=>h.elim λb h=>h.elim λc h=>k a b c h.1 h.2.1 h.2.2.1 h.2.2.2
def oC{P Q R S T:A->B->C->Prop}{Z:Prop}(h:∃a b c,P a b c/\Q a b c/\R a b c/\S a b c/\T a b c)(k:∀a b c,P a b c->Q a b c->R a b c->S a b c->T a b c->Z):Z:=h.elim λa h=>h.elim λb h=>h.elim λc h=>k a b c h.1 h.2.1 h.2.2.1 h.2.2.2.1 h.2.2.2.2
def cV{P Q R S T U:A->B->C->Prop}{Z:Prop}(h:∃a b c,P a b c/\Q a b c/\R a b c/\S a b c/\T a b c/\U a b c)(k:∀a b c,P a b c->Q a b c->R a b c->S a b c->T a b c->U a b c->Z):Z:=h.elim λa h=>h.elim λb h=>h.elim λc h=>k a b c h.1 h.2.1 h.2.2.1 h.2.2.2.1 h.2.2.2.2.1 h.2.2.2.2.2
def jG{P Q:A->B->C->D->Prop}{Z:Prop}(h:∃a b c d,P a b c d/\Q a b c d)(k:∀a b c d,P a b c d->Q a b c d->Z):Z:=h.elim λa h=>h.elim λb h=>h.elim λc h=>h.elim λd h=>k a b c d h.1 h.2
def GE{P Q R:A->B->C->D->Prop}{Z:Prop}(h:∃a b c d,P a b c d/\Q a b c d/\R a b c d)(k:∀a b c d,P a b c d->Q a b c d->R a b c d->Z):Z:=h.elim λa h=>h.elim λb h=>h.elim λc h=>h.elim λd h=>k a b c d h.1 h.2.1 h.2.2
def qU{P Q R S:A->B->C->D->Prop}{Z:Prop}(h:∃a b c d,P a b c d/\Q a b c d/\R a b c d/\S a b c d)(k:∀a b c d,P a b c d->Q a b c d->R a b c d->S a b c d->Z):Z:=h.elim λa h=>h.elim λb h=>h.elim λc h=>h.elim λd h=>k a b c d h.1 h.2.1 h.2.2.1 h.2.2.2
def oE{P Q R S T:A->B->C->D->Prop}{Z:Prop}(h:∃a b c d,P a b c d/\Q a b c d/\R a b c d/\S a b c d/\T a b c d)(k:∀a b c d,P a b c d->Q a b c d->R a b c d->S a b c d->T a b c d->Z):Z:=h.elim λa h=>h.elim λb h=>h.elim λc h=>h.elim λd h=>k a b c d h.1 h.2.1 h.2.2.1 h.2.2.2.1 h.2.2.2.2
def bH{P Q R:A->B->C->D->E->Prop}{Z:Prop}(h:∃a b c d e,P a b c d e/\Q a b c d e/\R a b c d e)(k:∀a b c d e,P a b c d e->Q a b c d e->R a b c d e->Z):Z:=h.elim λa h=>h.elim λb h=>h.elim λc h=>h.elim λd h=>h.elim λe h=>k a b c d e h.1 h.2.1 h.2.2
def uV{P Q R S T U:A->B->C->D->E->Prop}{Z:Prop}(h:∃a b c d e,P a b c d e/\Q a b c d e/\R a b c d e/\S a b c d e/\T a b c d e/\U a b c d e)(k:∀a b c d e,P a b c d e->Q a b c d e->R a b c d e->S a b c d e->T a b c d e->U a b c d e->Z):Z:=h.elim λa h=>h.elim λb h=>h.elim λc h=>h.elim λd h=>h.elim λe h=>k a b c d e h.1 h.2.1 h.2.2.1 h.2.2.2.1 h.2.2.2.2.1 h.2.2.2.2.2
def uX{P Q R S:A->B->C->D->E->F->Prop}{Z:Prop}(h:∃a b c d e f,P a b c d e f/\Q a b c d e f/\R a b c d e f/\S a b c d e f)(k:∀a b c d e f,P a b c d e f->Q a b c d e f->R a b c d e f->S a b c d e f->Z):Z:=h.elim λa h=>h.elim λb h=>h.elim λc h=>h.elim λd h=>h.elim λe h=>h.elim λf h=>k a b c d e f h.1 h.2.1 h.2.2.1 h.2.2.2
def GF{P Q:A->B->C->D->E->F->G->Prop}{Z:Prop}(h:∃a b c d e f g,P a b c d e f g/\Q a b c d e f g)(k:∀a b c d e f g,P a b c d e f g->Q a b c d e f g->Z):Z:=h.elim λa h=>h.elim λb h=>h.elim λc h=>h.elim λd h=>h.elim λe h=>h.elim λf h=>h.elim λg h=>k a b c d e f g h.1 h.2
def Jz{J S U Y P4 P5:Prop}{Z:Prop}(h:(((((J/\S)/\U)/\Y)/\P4)/\P5))(k:J->S->U->Y->P4->P5->Z):Z:=
 let ⟨⟨⟨⟨⟨p0,p1⟩,p2⟩,p3⟩,p4⟩,p5⟩:=h
 k p0 p1 p2 p3 p4 p5
def JA{J S U Y P4 P5 P6 P7 P8:Prop}{Z:Prop}(h:((((((((J/\S)/\U)/\Y)/\P4)/\P5)/\P6)/\P7)/\P8))(k:J->S->U->Y->P4->P5->P6->P7->P8->Z):Z:=
 let ⟨⟨⟨⟨⟨⟨⟨⟨p0,p1⟩,p2⟩,p3⟩,p4⟩,p5⟩,p6⟩,p7⟩,p8⟩:=h
 k p0 p1 p2 p3 p4 p5 p6 p7 p8
def bn{α:Type _}{P:Prop}{x:α}(h:none=some x):P:=by cases h
def dD{P:Prop}(h:false=true):P:=by cases h
def sW{P:Prop}(h:true=false):P:=by cases h
def wa{α:Type _}{P:Prop}{x:α}{l:List α}(h:[]=x::l):P:=by cases h
namespace L2
open PySem PySem.Spec PyProof.Rows List Option
noncomputable abbrev Key:=Sum Int Str
noncomputable def lI:Key->Value->Bool
 | .inl k,v=>Value.isInt k v
 | .inr x,v=>Value.isStrOf x v
noncomputable def JB(w:World):Key->Int
 | .inl k=>hashInt k
 | .inr x=>hashStr w x
def cj:∀{k}{v},lI k v=true->(∃i t,k=Sum.inl i/\v=Value.int i t)\/(∃x t,k=Sum.inr x/\v=Value.str x t)
 | .inl i,v,h=>by
  obtain⟨t,e⟩:=Value.isInt_shape (k:=i) (v:=v) h;exact .inl ⟨i,t,rfl,e⟩
 | .inr x,v,h=>by
  obtain⟨t,e⟩:=Value.isStrOf_shape (x:=x) (v:=v) h;exact .inr ⟨x,t,rfl,e⟩
def wd(i)(t):lI (.inl i) (.int i t)=true:=by simp[lI,Value.isInt]
def wf(x)(t):lI (.inr x) (.str x t)=true:=by simp[lI,Value.isStrOf]
def Dz(a b):decide ((Sum.inl a:Key)=Sum.inl b)=(a==b):=by
 by_cases e:a=b
 .subst e;simp
 .simp_all
def DA(a b):decide ((Sum.inr a:Key)=Sum.inr b)=decide (a=b):=by simp
def DB(a)(b):decide ((Sum.inl a:Key)=Sum.inr b)=false:=rfl
def DC(a)(b):decide ((Sum.inr a:Key)=Sum.inl b)=false:=rfl
noncomputable def cy(prog)(w):PySem.KeyKind prog w Key where
 is:=lI
 hash:=JB w
 inj:=λv a b ha U=>by
  rcases cj ha with⟨i,t,rfl,rfl⟩|⟨x,t,rfl,rfl⟩
  .rcases cj U with⟨j,u,rfl,e⟩|⟨y,u,rfl,e⟩
   .injection e with J _;rw[J]
   .exact nomatch e
  .rcases cj U with⟨j,u,rfl,e⟩|⟨y,u,rfl,e⟩
   .exact nomatch e
   .injection e with J _;rw[J]
 byValue:=λk v h=>by
  rcases cj h with⟨i,t,rfl,rfl⟩|⟨x,t,rfl,rfl⟩<;>rfl
 pyHash:=λS h=>by
  rcases cj S with⟨i,t,rfl,rfl⟩|⟨x,t,rfl,rfl⟩
  .exact wpAny_pyHash_int h
  .exact wpAny_pyHash_str h
 eqBool:=λY S h=>by
  rcases cj Y with⟨i,t,rfl,rfl⟩|⟨x,t,rfl,rfl⟩
  .rcases cj S with⟨j,u,rfl,rfl⟩|⟨y,u,rfl,rfl⟩
   .rw[Dz]at h;exact wpAny_eqBool_int h
   .rw[DB]at h;exact SeqAt.EqAt.int_str i t y u _ _ _ _ h
  .rcases cj S with⟨j,u,rfl,rfl⟩|⟨y,u,rfl,rfl⟩
   .rw[DC]at h;exact SeqAt.EqAt.str_int x t j u _ _ _ _ h
   .rw[DA]at h;exact wpAny_eqBool_str h
 «strs»:=λk x t v h=>by
  rcases cj h with⟨i,u,rfl,e⟩|⟨y,u,rfl,e⟩
  .exact nomatch e
  .injection e with J _
   subst J;cases v<;>rfl
def sX(prog)(w)(k)(v):(cy prog w).is k v=lI k v:=rfl
def qV(prog)(w)(i)(t):(cy prog w).is (.inl i) (.int i t)=true:=wd i t
def qW(prog)(w)(x)(t):(cy prog w).is (.inr x) (.str x t)=true:=wf x t
inductive V where
 | non|bl (b:Bool)|int (i:Int)|str (x:Str)|byt (b:Array UInt8)|flt (b:UInt64)|ref (a:Addr)|ty (n:String)
 deriving DecidableEq
def aF:V->Value->Prop
 | .non,u=>u=Value.none
 | .bl b,u=>u=Value.bool b
 | .int i,u=>∃t,u=Value.int i t
 | .str x,u=>∃t,u=Value.str x t
 | .byt b,u=>∃t,u=Value.bytes b t
 | .flt b,u=>∃t,u=Value.float b t
 | .ref a,u=>u=Value.ref a
 | .ty n,u=>u=Value.type n
abbrev aN:List V->List Value->Prop:=Paired aF
theorem aN.length(r:aN xs us):xs.length=us.length:=Paired.length r
theorem aN.get:∀{xs}{us}{i:Nat}{x},aN xs us->xs[i]?=some x->∃u,us[i]?=some u/\aF x u
 | _,_,_,_,.nil,e=>by injection e
 | _,_,0,_,.cons r _,e=>by simp at e;subst e;exact⟨_,rfl,r⟩
 | _,_,i+1,x,.cons _ t,e=>by
  obtain⟨u,h1,h2⟩:=aN.get (i:=i) (x:=x) t e;exact⟨u,by simpa using h1,h2⟩
theorem aN.set(r:aF x u):∀{xs}{us} i,aN xs us->aN (xs.set i x) (us.set i u)
 | _,_,_,.nil=>.nil
 | _,_,0,.cons _ t=>.cons r t
 | _,_,i+1,.cons q t=>.cons q (aN.set r i t)
theorem aN.append:∀{xs ys}{us ws},aN xs us->aN ys ws->aN (xs++ys) (us++ws)
 | _,_,_,_,.nil,s=>s
 | _,_,_,_,.cons r t,s=>.cons r (aN.append t s)
theorem aN.take:∀{xs}{us} n,aN xs us->aN (xs.take n) (us.take n)
 | _,_,0,_=>.nil
 | _,_,_+1,.nil=>.nil
 | _,_,n+1,.cons r t=>.cons r (aN.take n t)
theorem aN.drop:∀{xs}{us} n,aN xs us->aN (xs.drop n) (us.drop n)
 | _,_,0,r=>r
 | _,_,_+1,.nil=>.nil
 | _,_,n+1,.cons _ t=>aN.drop n t
def iA:Option V->Option Value->Prop
 |some v,some u=>aF v u
 |none,none=>True
 | _,_=>False
def KV :List (g×V)->List (g×Value)->Prop:=Paired λp q=>p.1=q.1/\aF p.2 q.2
noncomputable def kV:Key->V
 | .inl i=>.int i
 | .inr x=>.str x
inductive HO where
 | lst (xs:List V)
 | tup (xs:List V)
 | dK (kvs:List (Key×V))|dT (kvs:List (List Key×V))
 | set (S:Int->Bool) (n:Nat)
 | ins (C dx:Addr) (fs:List (Str×V))
 | own (x:Addr)
 | xd (fs:List (Str×V))
 | met (f x:Addr)
 | rng (lo hi:Int)
 | frz (o:Obj) (u:HO)
 | tbl (ps:Array Value)
 | ext (φ:Heap->Prop)
noncomputable abbrev Hp:=Addr->Option HO
noncomputable def upd(H:Hp)(a:Addr)(o:HO):Hp:=λb=>if b=a then some o else H b
def ax :upd H a o a=some o:=by unfold upd;rw[if_pos rfl]
def aA(h:b≠a):upd H a o b=H b:=by unfold upd;rw[if_neg h]
def GG{H:Hp}{a b:Addr}{o u:HO}(h:H a=some o)(h':H b=some u)(d:o≠u):a≠b:=by
 intro e;subst e;rw[h]at h';exact d (uW h')
def a9{H:Hp}{a b:Addr}{o:HO}(h:H a=some o)(h':H b=none):a≠b:=by
 intro e;subst e;rw[h]at h';cases h'
section
variable(P:Program)(w:World)
def b9(H:Hp)(h:Heap)(a:Addr):HO->Prop
 | .lst xs=>xs.length<=sizeLine/\∃its n,aN xs its/\h.get? a=some { cls:=.type "list",data:=.seq its.toArray n }
 | .tup xs=>xs.length<=sizeLine/\∃its,aN xs its/\IsTup h a its.toArray
 | .dK kvs=>kvs.length<=sizeLine/\(a==sysModules)=false/\∃vs,KV kvs vs/\h.DictOf (cy P w) a vs
 | .dT kvs=>kvs.length<=sizeLine/\(a==sysModules)=false/\∃xs,
   Paired (λp q=>p.1=q.1/\H q.2.1=some (.tup (p.1.map kV))/\aF p.2 q.2.2) kvs xs /\
   ∃o es ep,h.get? a=some o/\o.ExactDict/\o.data=.dict es ep/\es.toList=xs.map (entryOfKey (tupleKind (cy P w)))/\(xs.map (·.1)).Nodup
 | .set S n=>h.SetOf (intKind P w) a S n
 | .ins C dx fs=>H dx=some (.own a)/\fs.length<=1000/\dx≠a/\h.get? a=some (PySem.W.instObj C dx) /\
   ∃mA,h.Ns1 dx mA/\(∀f,iA (fs.lookup f) (mA f))/\PySem.Within mA (fs.map (·.1))
 | .own _=>∃o,h.get? a=some o
 | .xd fs=>∃mA,h.Ns1 a mA/\∀f,iA (fs.lookup f) (mA f)
 | .rng lo hi=>∃t u v,h.get? a=some { cls:=.type "range",data:=.fields #[.int lo t,.int hi u,.int 1 v] }
 | .frz o u=>h.get? a=some o/\b9 H h a u
 | .tbl ps=>h.get? a=some { cls:=.none,data:=.fields ps }
 | .met f x=>h.get? a=some (PySem.W.methodObj (.ref f) (.ref x))
 | .ext J=>J h/\(∃o,h.get? a=some o)/\∀h1 h2,J h1->(∀o,h1.get? a=some o->h2.get? a=some o)->J h2
def HOk(H:Hp)(h:Heap):Prop:=∀a o,H a=some o->b9 P w H h a o
end
section
variable{P:Program}{w:World}{H H':Hp}{h h':Heap}{a:Addr}{o:HO}
theorem b9.lt(x:b9 P w H h a o):a<h.objs.size:=by
 cases o with
 |own y=>obtain⟨_,e⟩:=x;exact u0 e
 |xd fs=>obtain⟨_,⟨_,_,_,e,_⟩,_⟩:=x;exact u0 e
 |ext J=>obtain⟨_,⟨_,e⟩,_⟩:=x;exact u0 e
 |lst xs=>obtain⟨_,_,_,_,e⟩:=x;exact u0 e
 |tup xs=>obtain⟨_,_,_,p⟩:=x;exact p.lt
 |set S n=>obtain⟨o,_,_,_,e,_⟩:=x;exact u0 e
 |frz ob u=>obtain⟨e,_⟩:=x;exact u0 e
 |rng lo hi=>obtain⟨_,_,_,e⟩:=x;exact u0 e
 |ins C dx fs=>obtain⟨_,_,_,e,_⟩:=x;exact u0 e
 |dK kvs|dT kvs=>obtain⟨_,_,_,_,o,_,_,e,_⟩:=x;exact u0 e
 | _=>exact u0 (show h.get? a=some _ from x)
theorem Paired.mapP :∀{J}{S},Paired F J S->(∀a b,F a b->G a b)->Paired G J S
 | _,_,.nil,_=>.nil
 | _,_,.cons r t,f=>.cons (f _ _ r) (Paired.mapP t f)
def b9.stay(x:b9 P w H h a o)(k:∀b u,(b=a\/H b=some (.own a))->h.get? b=some u->h'.get? b=some u)
  (U:∀b,H b=some (.own a)->H' b=some (.own a)) (ht:∀b xs,H b=some (.tup xs)->H' b=some (.tup xs)):b9 P w H' h' a o:=by
 induction o with
 |lst xs=>obtain⟨z,its,n,r,e⟩:=x;exact⟨z,its,n,r,k _ _ (.inl rfl) e⟩
 |tup xs=>obtain⟨z,its,r,ob,e,c⟩:=x;exact⟨z,its,r,ob,k _ _ (.inl rfl) e,c⟩
 |dK kvs=>obtain⟨z,y,vs,r,ob,es,ep,e,c⟩:=x;exact⟨z,y,vs,r,ob,es,ep,k _ _ (.inl rfl) e,c⟩
 |dT kvs =>
  obtain⟨z,y,xs,r,ob,es,ep,e,c⟩:=x;exact⟨z,y,xs,Paired.mapP r λp q z=>⟨z.1,ht _ _ z.2.1,z.2.2⟩,ob,es,ep,k _ _ (.inl rfl) e,c⟩
 |set S n=>obtain⟨ob,es,ep,t,e,c⟩:=x;exact⟨ob,es,ep,t,k _ _ (.inl rfl) e,c⟩
 |ins C dx fs =>
  obtain⟨d,z,ne,e,mA,⟨J,es,ep,Y,c⟩,r⟩:=x;exact⟨U _ d,z,ne,k _ _ (.inl rfl) e,mA,⟨J,es,ep,k _ _ (.inr d) Y,c⟩,r⟩
 |own y=>obtain⟨ob,e⟩:=x;exact⟨ob,k _ _ (.inl rfl) e⟩
 |xd fs=>obtain⟨mA,⟨J,es,ep,e,c⟩,r⟩:=x;exact⟨mA,⟨J,es,ep,k _ _ (.inl rfl) e,c⟩,r⟩
 |rng lo hi=>obtain⟨t,u,v,e⟩:=x;exact⟨t,u,v,k _ _ (.inl rfl) e⟩
 |frz ob u ih=>obtain⟨e,q⟩:=x;exact⟨k _ _ (.inl rfl) e,ih q⟩
 |tbl ps =>
  have e:=x;exact k a _ (.inl rfl) e
 |met f y =>
  have e:=x;exact k a _ (.inl rfl) e
 |ext Z=>obtain⟨p,⟨o,e⟩,st⟩:=x;exact⟨st _ _ p λo q=>k _ _ (.inl rfl) q,⟨o,k _ _ (.inl rfl) e⟩,st⟩
theorem HOk.lt(x:HOk P w H h)(e:H a=some o):a<h.objs.size:=(x a o e).lt
def HOk.fresh(x:HOk P w H h)(e:h.objs.size<=a):H a=none:=by
 cases q:H a<;>first|rfl|exact absurd (wh (x.lt q) e) (La _)
theorem HOk.kept(x:HOk P w H h)(k:∀b u,h.get? b=some u->h'.get? b=some u):HOk P w H h':=λa o e =>
 (x a o e).stay (λb u _ q=>k b u q) (λ_ q=>q) λ_ _ q=>q
theorem HOk.laid(x:HOk P w H h)(k:∀b u,h.get? b=some u->h'.get? b=some u)(S:h.objs.size<=a)(new:b9 P w (upd H a o) h' a o):HOk P w (upd H a o) h':=λb u e=>by
 have hn:=x.fresh S;by_cases J:b=a
 .subst J;rw[ax]at e;cases e;exact new
 .rw[aA J]at e;exact(x b u e).stay (λc v _ q=>k c v q) (λc q=>by rw[aA (a9 q hn)];exact q) λc xs q=>by rw[aA (a9 q hn)];exact q
end
def Rd(H:Hp)(a:Addr)(u:HO):Prop:=H a=some u\/∃o,H a=some (.frz o u)
theorem Rd.ok(r:Rd H a u)(x:HOk P w H h):b9 P w H h a u:=by
 rcases r with r|⟨o,r⟩
 .exact x a u r
 .obtain⟨_,q⟩:=x a _ r;exact q
def Mut:Option HO->Prop
 |some (.lst _)=>True
 |some (.dK _)=>True
 |some (.dT _)=>True
 |some (.set _ _)=>True
 |some (.ins _ _ _)=>True
 |some (.ext _)=>True
 | _=>False
section
variable{P:Program}{w:World}{H:Hp}{h h':Heap}{x e:Addr}{o':HO}
def HOk.write(ok:HOk P w H h)(Y:Mut (H x))(he:e=x\/H e=some (.own x))(k:∀b u,b≠e->h.get? b=some u->h'.get? b=some u)(Z:∃u,h'.get? e=some u)
  (new:b9 P w (upd H x o') h' x o'):HOk P w (upd H x o') h':=λb u q=>by
 have S:∀c y,H c=some (.own y)->c≠x:=λc y r z=>by subst z;rw[r]at Y;exact Y
 have U:∀c xs,H c=some (.tup xs)->c≠x:=λc xs r z=>by subst z;rw[r]at Y;exact Y
 by_cases hb:b=x
 .subst hb;rw[ax]at q;cases q;exact new
 .rw[aA hb]at q;by_cases J:b=e
  .have q':H b=some (.own x):=by
    rcases he with z|z
    .exact absurd (J.trans z) hb
    .rw[J];exact z
   rw[q]at q';cases q'
   obtain⟨v,hv⟩:=Z;exact⟨v,by rw[J];exact hv⟩
  .refine(ok b u q).stay (λc v hc r=>k c v ?_ r) (λc r=>by rw[aA (S c b r)];exact r) λc xs r=>by rw[aA (U c xs r)];exact r
   rcases hc with rfl|hc
   .exact J
   .rintro rfl
    simp_all
end
structure Un(fs ex:List Addr)(H H':Hp)(h h':Heap):Prop where
 keep:∀b o,h.get? b=some o->H b=none->b∉fs->b∉ex->h'.get? b=some o
 slot:∀b o,h.get? b=some o->H b=none->b∈fs->b∉ex->∃sl,h'.get? b=some { o with slots:=sl }
 free:∀b o,h.get? b=some o->H b=none->b∉ex->H' b=none
 there:∀b o,h.get? b=some o->b∉ex->∃o',h'.get? b=some o'
 tups:∀b xs,H b=some (.tup xs)->H' b=some (.tup xs)
 frzs:∀b o u,H b=some (.frz o u)->H' b=some (.frz o u)
 tbls:∀b ps,H b=some (.tbl ps)->∃more,H' b=some (.tbl (ps++more))
section
variable{fs fs' ex ex':List Addr}{H H1 H2:Hp}{h h1 h2 h':Heap}{a x e:Addr}{o:HO}
theorem Un.any(u:Un fs ex H H1 h h1)(q:h.get? b=some ob)(n:H b=none)(J:b∉ex):∃U,h1.get? b=some { ob with slots:=U }:=by
 by_cases S:b∈fs
 .exact u.slot b ob q n S J
 .exact⟨ob.slots,u.keep b ob q n S J⟩
def Un.kept(k:∀b u,h.get? b=some u->h'.get? b=some u):Un fs ex H H h h':=
 ⟨λb ob q _ _ _=>k b ob q,λb ob q _ _ _=>⟨ob.slots,k b ob q⟩,λ_ _ _ n _=>n,λb ob q _=>⟨ob,k b ob q⟩,λ_ _ q=>q,λ_ _ _ q=>q,λ_ ps q=>⟨#[],by rw[q];rfl⟩⟩
def Un.refl:Un fs ex H H h h:=Un.kept λ_ _ q=>q
def Un.laid(k:∀b u,h.get? b=some u->h'.get? b=some u)(J:h.objs.size<=a)(hn:H a=none):Un fs ex H (upd H a o) h h' where
 keep:=λb u q _ _ _=>k b u q
 slot:=λb u q _ _ _=>⟨u.slots,k b u q⟩
 free:=λb u q n _=>by rw[aA (KA (wh (u0 q) J))];exact n
 there:=λb u q _=>⟨u,k b u q⟩
 tups:=λb xs q=>by rw[aA (a9 q hn)];exact q
 frzs:=λb u xs q=>by rw[aA (a9 q hn)];exact q
 tbls:=λb ps q=>⟨#[],by rw[aA (a9 q hn),q];rfl⟩
def Un.write(S:Mut (H x))(he:e=x\/H e=some (.own x))(k:∀b u,b≠e->h.get? b=some u->h'.get? b=some u)(U:∃u,h'.get? e=some u):Un fs ex H (upd H x o) h h':=by
 have Z:∀b,H b=none->b≠x:=λb n z=>by subst z;rw[n]at S;exact S
 have Y:∀b,H b=none->b≠e:=λb n z=>by
  simp_all
 have hm:∀b u,H b=some u->¬ Mut (some u)->b≠x:=λb u q nm z=>by subst z;rw[q]at S;exact nm S
 refine⟨λb u q n _ _=>k b u (Y b n) q,λb u q n _ _=>⟨u.slots,k b u (Y b n) q⟩,λb u q n _=>by rw[aA (Z b n)];exact n,λb u q _=>?_,
  λb xs q=>by rw[aA (hm b _ q λz=>z)];exact q,λb u xs q=>by rw[aA (hm b _ q λz=>z)];exact q,λb ps q=>⟨#[],by rw[aA (hm b _ q λz=>z),q];rfl⟩⟩
 by_cases J:b=e
 .subst J;exact U
 .exact⟨u,k b u J q⟩
end
noncomputable def trk(h:Heap)(H:Hp):List Addr:=(range h.objs.size).filter λa=>(H a).isSome
noncomputable def pI(h:Heap)(H:Hp):Heap:=PySem.W.hideAll h (trk h H)
def wj(h)(H):(pI h H).objs.size=h.objs.size:=PySem.W.hideAll_size _ _
def xC{H:Hp}{b:Addr}{o:Obj}(e:h.get? b=some o)(n:H b=none):(pI h H).get? b=some o:=
 PySem.W.hideAll_get _ e λhm=>by
  have q:=(Kw.mp hm).2;rw[n]at q;simp at q
def AI(e:(pI h H).get? b=some o):h.get? b=some o/\H b=none:=by
 have J:=PySem.W.of_hideAll _ e;refine⟨J,?_⟩;cases q:H b with
 |none=>rfl
 |some x =>
  have hm:b∈trk h H:=Kw.mpr ⟨mem_range.mpr (u0 J),by simp[q]⟩;have z:(pI h H).get? b=none:=PySem.W.hideAll_none _ hm;rw[z]at e;exact bn e
noncomputable def AJ(g h:Heap)(L:Addr):List (Addr×Obj):=(range h.objs.size).filterMap λa=>if a=L\/(g.get? a).isSome=true then none else(h.get? a).map λo=>(a,o)
noncomputable def dF(g h:Heap)(L d:Addr):List (Addr×Obj):=(AJ g h L).filter λp=>decide (p.1≠d)
structure Mod(K:MP)(mg:Str->Option Value)(base:Heap):Prop where
 kin:K.In base
 glob:base.Ns mainGlobals mg
 blt:∃mb,base.Ns builtinsNs mb/\∀x:Str,x ≠ "__name__"->mb x=bootBuiltins x
 nolimit:base.NoLimit
structure Cx where
 prog:Program
 w:World
 K:MP
 mg:Str->Option Value
 base:Heap
 A:Around
 N:List Str
 s₀:Shared
 H₀:Hp
 env:Env
 outer:List Env
 stack:List Env
 ex:List Addr
 fn:Str->Bool
 calm:Bool
 pn:List (Addr×Obj)
 xe:Value->Shared->Prop
noncomputable def frs(l:List Env):List Addr:=l.filterMap (·.frame)
noncomputable abbrev Cx.fs(X:Cx):List Addr:=frs X.outer
def Vis(sc:Scope)(x:Str):Prop:=sc.names.lookup x=some .local\/sc.names.lookup x=some .cell\/sc.names.lookup x=some .free
def Loc(sc:Scope)(x:Str):Prop:=sc.names.lookup x=some .local\/sc.names.lookup x=some .cell
def JC(env:Env)(h:Heap)(m:Str->Option Value)(x:Str)(u:Value):Prop:=
 (env.kindOf x=some .local/\m x=some u)\/((env.kindOf x=some .cell\/env.kindOf x=some .free)/\∃c,env.cells.lookup x=some c/\h.IsCell c (some u))
structure Cx.Ok(X:Cx):Prop where
 mod:Mod X.K X.mg X.base
 kind:X.env.scope.kind=.function
 glob:X.env.globals=mainGlobals
 blt:X.env.builtins=builtinsNs
 above:X.s₀.heap.objs.size<=X.env.locals
 inj:∀x y c,X.env.cells.lookup x=some c->X.env.cells.lookup y=some c->x=y
 has:∀x,(X.env.kindOf x=some .cell\/X.env.kindOf x=some .free)->∃c,X.env.cells.lookup x=some c
 cab:∀x c,X.fn x=true->X.env.cells.lookup x=some c->X.s₀.heap.objs.size<=c
 hd:X.calm=true->X.A.handled=none
 frames:X.A.frames=some X.stack
 stk:X.stack=X.outer\/(X.stack=X.env::X.outer/\X.env.frame=some X.env.locals)
 exf:∀b∈X.ex,b≠X.env.locals/\∀x c,X.env.cells.lookup x=some c->c≠b
 bs:∀b o,X.base.get? b=some o->X.s₀.heap.get? b=some o/\X.H₀ b=none
 bsz:X.base.objs.size<=X.s₀.heap.objs.size
 noex:∀b o,X.base.get? b=some o->b∉X.ex
 exfs:∀b∈X.ex,b∉X.fs
 funs:X.s₀.heap.FunFrames X.base X.outer
 frf:∀b∈X.fs,X.H₀ b=none
structure Inv(X:Cx)(pins:List (Addr×Obj))(σ:List (Option V))(H:Hp)(s:Shared):Prop where
 ok:X.Ok
 os:s.os=X.s₀.os
 bare:AllBare s.gens
 base:Un X.fs X.ex X.H₀ H X.s₀.heap s.heap
 loc:∃m,s.heap.Ns X.env.locals m/\∀(i:Nat) (x:Str) (v:V),X.N[i]?=some x->σ[i]?=some (some v)->Vis X.env.scope x->∃u,aF v u/\JC X.env s.heap m x u
 cell:∀x c,X.env.cells.lookup x=some c->∃v,s.heap.IsCell c v
 free:H X.env.locals=none
 freeC:∀x c,X.env.cells.lookup x=some c->H c=none
 pin:∀p∈X.pn++pins,s.heap.get? p.1=some p.2/\H p.1=none/\p.1≠X.env.locals/\p.1∉X.fs/\∀v,p.2.data≠.cell v
 hok:HOk X.prog X.w H s.heap
 len:σ.length=X.N.length
section
variable{X:Cx}{pins:List (Addr×Obj)}{σ:List (Option V)}{H H':Hp}{s:Shared}{h':Heap}
theorem Cx.Ok.nofr(ok:X.Ok)(e:X.base.get? b=some o):b∉X.fs:=λJ=>by
 have:=(ok.funs.mem J).1;rw[e]at this;cases this
theorem Inv.bs(I:Inv X pins σ H s):∀b o,X.base.get? b=some o->s.heap.get? b=some o/\H b=none:=λb o e =>
 ⟨I.base.keep b o (I.ok.bs b o e).1 (I.ok.bs b o e).2 (I.ok.nofr e) (I.ok.noex b o e),I.base.free b o (I.ok.bs b o e).1 (I.ok.bs b o e).2 (I.ok.noex b o e)⟩
theorem Inv.bk(I:Inv X pins σ H s):∀b o,X.base.get? b=some o->s.heap.get? b=some o:=λb o e=>(I.bs b o e).1
theorem Inv.mod(I:Inv X pins σ H s):Mod X.K X.mg X.base:=I.ok.mod
theorem Inv.kIn(I:Inv X pins σ H s):X.K.In s.heap:=I.ok.mod.kin.keeps I.bk
theorem Inv.lt(I:Inv X pins σ H s):X.env.locals<s.heap.objs.size:=let ⟨_,hn,_⟩:=I.loc;hn.lt
theorem Inv.sz(I:Inv X pins σ H s):X.s₀.heap.objs.size<=s.heap.objs.size:=xw I.ok.above (K9 I.lt)
theorem Inv.nofs(I:Inv X pins σ H s)(h:s.heap.objs.size<=a):a∉X.fs:=λJ=>by
 obtain⟨_,o,S,_⟩:=I.ok.funs.mem J;exact absurd (wh (u0 S) (xw I.sz h)) (La _)
theorem Inv.cne(I:Inv X pins σ H s):∀x c,X.env.cells.lookup x=some c->c≠X.env.locals:=λx c e z=>by
 refine dc (I.cell x c e) λv o U hd=>?_
 obtain⟨m,⟨o',es,ep,J,S,_⟩,_⟩:=I.loc
 simp_all
theorem Inv.funs(I:Inv X pins σ H s):s.heap.FunFrames X.base X.outer:=by
 have all:∀l,(∀b∈frs l,b∈X.fs)->X.s₀.heap.FunFrames X.base l->s.heap.FunFrames X.base l:=by
  intro l
  induction l with
  |nil=>intro _ _;trivial
  |cons env r ih =>
   intro U Y;obtain⟨Z,⟨L,o,J,hn,ho,hd⟩,hr⟩:=Y;have hL:=U L (by unfold frs;rw[filterMap_cons,J];exact K1);obtain⟨sl,e⟩:=I.base.slot L o ho (I.ok.frf L hL) hL λz=>I.ok.exfs L z hL
   exact⟨Z,⟨L,_,J,hn,e,hd⟩,ih (λb S=>U b (by unfold frs;rw[filterMap_cons,J];exact KJ _ S)) hr⟩
 exact all X.outer (λ_ S=>S) I.ok.funs
theorem Inv.stack(I:Inv X pins σ H s):s.heap.FunFrames X.base X.stack:=by
 rcases I.ok.stk with e|⟨e,J⟩
 .rw[e];exact I.funs
 .rw[e];refine ag I.loc λm hn _=>?_
  refine .cons (by rw[I.ok.kind];decide) J hn ?_ I.funs;exact Heap.get?_none_of_le (xw I.ok.bsz I.ok.above)
def Inv.stkSub(I:Inv X pins σ H s):∀b∈frs X.stack,b∈X.env.locals::X.fs:=λb J=>by
 rcases I.ok.stk with e|⟨e,S⟩
 .rw[e]at J;exact KJ _ J
 .rw[e]at J;unfold frs at J;rw[filterMap_cons,S]at J;exact J
def Inv.stkFree(I:Inv X pins σ H s):∀b∈frs X.stack,H b=none:=λb J=>by
 rcases nW.mp (I.stkSub b J)with e|J
 .rw[e];exact I.free
 .obtain⟨_,o,S,_⟩:=I.ok.funs.mem J;exact I.base.free b o S (I.ok.frf b J) λz=>I.ok.exfs b z J
theorem Inv.step{ch:List Addr}(I:Inv X pins σ H s)
  (S:∀b∈ch,(b∈X.ex\/X.s₀.heap.objs.size<=b)/\b≠X.env.locals/\(∀x c,X.env.cells.lookup x=some c->c≠b)/\∀p∈X.pn++pins,p.1≠b)
  (keep:∀b o,b≠X.env.locals->b∉X.fs->b∉ch->s.heap.get? b=some o->H b=none->h'.get? b=some o)
  (slot:∀b o,b≠X.env.locals->b∈X.fs->b∉ch->s.heap.get? b=some o->H b=none->∃sl,h'.get? b=some { o with slots:=sl }) (free:∀b o,b∉ch->s.heap.get? b=some o->H b=none->H' b=none)
  (there:∀b o,b∉ch->s.heap.get? b=some o->∃o',h'.get? b=some o')
  (tups:∀b xs,H b=some (.tup xs)->H' b=some (.tup xs)) (frzs:∀b o u,H b=some (.frz o u)->H' b=some (.frz o u)) (tbls:∀b ps,H b=some (.tbl ps)->∃aL,H' b=some (.tbl (ps++aL)))
  (ns:∀m,s.heap.Ns X.env.locals m->h'.Ns X.env.locals m) (hok:HOk X.prog X.w H' h') (hg:AllBare g') :
  Inv X pins σ H' { s with heap:=h',gens:=g',drawn:=d',toks:=t' }:=by
 have aP:∀b o,X.s₀.heap.get? b=some o->b≠X.env.locals:=λb o e=>KA (wh (u0 e) I.ok.above)
 have Z:∀b o,X.s₀.heap.get? b=some o->b∉X.ex->b∉ch:=λb o e J hb=>by
  rcases(S b hb).1 with z|z
  .exact J z
  .exact absurd (wh (u0 e) z) (La _)
 have U:∀x c,X.env.cells.lookup x=some c->∀v,s.heap.IsCell c v->h'.IsCell c v:=λx c e v hq=>ag hq λo ho hd=>by
  have Y:c∉ch:=λz=>(S c z).2.2.1 x c e rfl
  by_cases hc:c∈X.fs
  .obtain⟨sl,q⟩:=slot c o (I.cne x c e) hc Y ho (I.freeC x c e);exact⟨_,q,hd⟩
  .exact⟨o,keep c o (I.cne x c e) hc Y ho (I.freeC x c e),hd⟩
 refine⟨I.ok,I.os,hg,⟨λb o e n hb J=>?_,λb o e n hb J=>?_,λb o e n J=>?_,λb o e J=>?_,λb xs e=>tups b xs (I.base.tups b xs e),λb o xs e=>frzs b o xs (I.base.frzs b o xs e),λb ps e=>?_⟩,?_,λx c e=>?_,?_,λx c e=>?_,λp hp=>?_,hok,I.len⟩
 .exact keep b o (aP b o e) hb (Z b o e J) (I.base.keep b o e n hb J) (I.base.free b o e n J)
 .obtain⟨sl,e1⟩:=I.base.slot b o e n hb J;obtain⟨a2,e2⟩:=slot b _ (aP b o e) hb (Z b o e J) e1 (I.base.free b o e n J);exact⟨a2,e2⟩
 .obtain⟨o',e1⟩:=I.base.there b o e J;exact free b o' (Z b o e J) e1 (I.base.free b o e n J)
 .obtain⟨o',e1⟩:=I.base.there b o e J;exact there b o' (Z b o e J) e1
 .obtain⟨m1,e1⟩:=I.base.tbls b ps e;obtain⟨m2,e2⟩:=tbls b _ e1;exact⟨m1++m2,by rw[e2,Array.append_assoc]⟩
 .refine ag I.loc λm hn hl=>?_
  refine⟨m,ns m hn,λi x v e1 e2 e3=>?_⟩;refine ag (hl i x v e1 e2 e3) λu r l=>?_
  refine⟨u,r,?_⟩;rcases l with l|⟨k,c,e,z⟩
  .exact .inl l
  .exact .inr ⟨k,c,e,U x c e _ z⟩
 .obtain⟨v,z⟩:=I.cell x c e;exact⟨v,U x c e v z⟩
 .obtain⟨m,⟨o,_,_,ho,_⟩,_⟩:=I.loc;exact free _ o (λz=>(S _ z).2.1 rfl) ho I.free
 .refine dc (I.cell x c e) λv o ho hd=>?_
  exact free c o (λz=>(S c z).2.2.1 x c e rfl) ho (I.freeC x c e)
 .refine xA (I.pin p hp) λe n ne nf d=>?_
  have Y:p.1∉ch:=λz=>(S p.1 z).2.2.2 p hp rfl
  exact⟨keep p.1 p.2 ne nf Y e n,free p.1 p.2 Y e n,ne,nf,d⟩
theorem Inv.un(I:Inv X pins σ H s)(u:Un X.fs [] H H' s.heap h')(hok:HOk X.prog X.w H' h'):Inv X pins σ H' { s with heap:=h',toks:=t' }:=by
 obtain⟨m,⟨o,es,ep,Z,r⟩,_⟩:=id I.loc;obtain⟨sl,hL⟩:=u.any Z I.free (by simp);exact I.step (ch:=[]) (λ_ z=>nomatch z) (λb o _ S _ e n=>u.keep b o e n S (by simp)) (λb o _ S _ e n=>u.slot b o e n S (by simp)) (λb o _ e n=>u.free b o e n (by simp)) (λb o _ e=>u.there b o e (by simp)) u.tups u.frzs u.tbls (λm' hm=>by
  refine xB hm λo' U Y J r'=>?_
  rw[Z]at J;cases J
  exact⟨_,U,Y,hL,r'⟩) hok I.bare
theorem Inv.call(I:Inv X pins σ H s)(u:Un (frs X.stack) ch H H' s.heap h')(hok:HOk X.prog X.w H' h')(hg:AllBare g')
  (J:∀b∈ch,(b∈X.ex\/X.s₀.heap.objs.size<=b)/\b≠X.env.locals/\(∀x c,X.env.cells.lookup x=some c->c≠b)/\∀p∈X.pn++pins,p.1≠b) :
  Inv X pins σ H' { s with heap:=h',gens:=g',drawn:=d',toks:=t' }:=by
 obtain⟨m,⟨o,es,ep,Z,r⟩,_⟩:=id I.loc;obtain⟨sl,hL⟩:=u.any Z I.free λz=>(J _ z).2.1 rfl
 exact I.step J (λb o hL hb hc e n=>u.keep b o e n (λz=>(nW.mp (I.stkSub b z)).elim hL hb) hc) (λb o _ _ hc e n=>u.any e n hc) (λb o hc e n=>u.free b o e n hc) (λb o hc e=>u.there b o e hc) u.tups u.frzs u.tbls (λm' hm=>by
  refine xB hm λo' U Y S r'=>?_
  rw[Z]at S;cases S
  exact⟨_,U,Y,hL,r'⟩) hok hg
def Inv.turned(I:Inv X pins σ H s)(k:∀b o,b≠it->s.heap.get? b=some o->h'.get? b=some o)(hn:H it=none)(hL:it≠X.env.locals)
  (h1:it∈X.ex\/X.s₀.heap.objs.size<=it) (h2:∀x c,X.env.cells.lookup x=some c->c≠it) (h3:∀p∈X.pn++pins,p.1≠it):Inv X pins σ H { s with heap:=h',toks:=t' }:=by
 have J:∀b u,H b=some u->b≠it:=λb u e z=>by rw[z,hn]at e;exact bn e
 refine I.step (ch:=[it]) (λb S=>?_) (λb o _ _ hc e _=>k b o (λz=>hc (by simp[z])) e) (λb o _ _ hc e _=>⟨o.slots,k b o (λz=>hc (by simp[z])) e⟩) (λ_ _ _ _ n=>n)
  (λb o hc e=>⟨o,k b o (λz=>hc (by simp[z])) e⟩) (λ_ _ e=>e) (λ_ _ _ e=>e) (λb ps e=>⟨#[],by rw[e];rfl⟩) (λm hm=>?_) (λb u e=>?_) I.bare
 .have e:b=it:=by simpa using S
  subst e;exact⟨h1,hL,h2,h3⟩
 .refine xB hm λo es ep U r=>?_
  exact⟨o,es,ep,k _ o (Ku hL) U,r⟩
 .refine(I.hok b u e).stay (λc v hc q=>k c v ?_ q) (λ_ q=>q) λ_ _ q=>q
  rcases hc with z|z
  .rw[z];exact J b u e
  .exact J c _ z
theorem Inv.tok(I:Inv X pins σ H s)(t):Inv X pins σ H { s with toks:=t }:=I.un (h':=s.heap) (t':=t) Un.refl I.hok
theorem Inv.kept(I:Inv X pins σ H s)(k:∀b u,s.heap.get? b=some u->h'.get? b=some u):Inv X pins σ H { s with heap:=h',toks:=t' }:=I.un (Un.kept k) (I.hok.kept k)
theorem Inv.laid(I:Inv X pins σ H s)(k:∀b u,s.heap.get? b=some u->h'.get? b=some u)(J:s.heap.objs.size<=a)(new:b9 X.prog X.w (upd H a o) h' a o) :
  Inv X pins σ (upd H a o) { s with heap:=h',toks:=t' }:=I.un (Un.laid k J (I.hok.fresh J)) (I.hok.laid k J new)
theorem Inv.write(I:Inv X pins σ H s)(S:Mut (H x))(U:e=x\/H e=some (.own x))(k:∀b u,b≠e->s.heap.get? b=some u->h'.get? b=some u)(J:∃u,h'.get? e=some u)
  (new:b9 X.prog X.w (upd H x o) h' x o):Inv X pins σ (upd H x o) { s with heap:=h',toks:=t' }:=I.un (Un.write S U k J) (I.hok.write S U k J new)
def Inv.pins_of{J:List (Addr×Obj)}(I:Inv X pins σ H s)(h:∀p∈J,s.heap.get? p.1=some p.2/\H p.1=none/\p.1≠X.env.locals/\p.1∉X.fs/\∀v,p.2.data≠.cell v):Inv X J σ H s:=
 ⟨I.ok,I.os,I.bare,I.base,I.loc,I.cell,I.free,I.freeC,λp S=>(Mt.mp S).elim (λz=>I.pin p (mem_append_left _ z)) (h p),I.hok,I.len⟩
def qX{N:List Str}(hN:N.Nodup){i j:Nat}(a:N[i]?=some x)(b:N[j]?=some x):i=j:=by
 obtain⟨h1,J⟩:=uM.mp a;obtain⟨h2,S⟩:=uM.mp b;exact(getElem_inj hN).mp (J.trans S.symm)
def oF{i:Nat}{x:Str}{v:V}{u:Value}{Q:Unit->Shared->Prop}(I:Inv X pins σ H s)(hN:X.N.Nodup)(hi:X.N[i]?=some x)(Y:Loc X.env.scope x)(r:aF v u)
  (h:∀s',Inv X pins (σ.set i (some v)) H s'->(∃a,Heap.SameBut a s.heap s'.heap/\(a=X.env.locals\/X.env.cells.lookup x=some a))->Q () s') (hf:X.fn x=true\/X.env.scope.names.lookup x=some .local:=by first|exact .inl rfl|exact .inr rfl|assumption):wpAny M A (storeName X.env x u) Q E s:=by
 refine ag (id I.loc) λm hn hl=>?_
 have a1:(X.env.scope.kind==.class||(X.env.scope.kind==.module&&X.env.locals != X.env.globals))=false:=by rw[I.ok.kind];rfl
 have ar:i<σ.length:=by rw[I.len];exact(uM.mp hi).1
 have cne:=I.cne;have S:∀{a}{h'},(∃o,s.heap.get? a=some o/\H a=none)->Heap.SameBut a s.heap h'->HOk X.prog X.w H h':=λ{a h'} ha J b ob e=>by
  obtain⟨_,_,Z⟩:=ha;refine(I.hok b ob e).stay (λc w' hc q=>(J.2 c ?_).trans q) (λ_ q=>q) λ_ _ q=>q
  rintro rfl;rcases hc with rfl|hc
  .rw[Z]at e;exact bn e
  .rw[Z]at hc;exact bn hc
 rcases Y with hk|hk
 .refine wpAny_storeName_local hk hn (λh' bK J=>?_) a1;obtain⟨oL,_,_,bO,_⟩:=id hn;refine h _ ⟨I.ok,I.os,I.bare,⟨λb o e n hb Y=>?_,λb o e n hb Y=>?_,I.base.free,λb o e Y=>?_,I.base.tups,I.base.frzs,I.base.tbls⟩,⟨_,bK,λj y v' U e2 e3=>?_⟩,λy c e=>?_,I.free,I.freeC,λp hp=>?_,S ⟨oL,bO,I.free⟩ J,by simpa using I.len⟩ ⟨_,J,.inl rfl⟩
  .exact(J.2 b (KA (wh (u0 e) I.ok.above))).trans (I.base.keep b o e n hb Y)
  .obtain⟨sl,U⟩:=I.base.slot b o e n hb Y;exact⟨sl,(J.2 b (KA (wh (u0 e) I.ok.above))).trans U⟩
  .obtain⟨o',U⟩:=I.base.there b o e Y;exact⟨o',(J.2 b (KA (wh (u0 e) I.ok.above))).trans U⟩
  .by_cases hj:j=i
   .subst hj;rw[hi]at U;cases U
    rw[KS ar]at e2;cases e2;exact⟨u,r,.inl ⟨hk,by simp⟩⟩
   .rw[Kr (Ku hj)]at e2;refine ag (hl j y v' U e2 e3) λu' r' q=>?_
    refine⟨u',r',?_⟩;rcases q with⟨k,e⟩|⟨k,c,e,z⟩
    .refine .inl ⟨k,?_⟩;have:y≠x:=λe=>hj (qX hN U (e▸hi))
     simp[this,e]
    .exact .inr ⟨k,c,e,z.sameBut J (cne y c e)⟩
  .obtain⟨w',z⟩:=I.cell y c e;exact⟨w',z.sameBut J (cne y c e)⟩
  .refine xA (I.pin p hp) λe n ne nf d=>?_
   exact⟨(J.2 p.1 ne).trans e,n,ne,nf,d⟩
 .have a0:X.fn x=true:=by
   rcases hf with z|z
   .exact z
   .rw[z]at hk;cases hk
  obtain⟨c,hc⟩:=I.ok.has x (.inl hk);obtain⟨w',z⟩:=I.cell x c hc;refine wpAny_storeName_cell I.ok.kind hk hc z (λh' a2 J=>?_);refine ag (id z) λoc a3 a4=>?_
  refine h { s with heap:=h' } ⟨I.ok,I.os,I.bare,⟨λb o e n hb Y=>?_,λb o e n hb Y=>?_,I.base.free,λb o e Y=>?_,I.base.tups,I.base.frzs,I.base.tbls⟩,⟨m,hn.sameBut J (Ku (cne x c hc)),λj y v' U e2 e3=>?_⟩,λy c' e=>?_,I.free,I.freeC,λp hp=>?_,S ⟨oc,a3,I.freeC x c hc⟩ J,by simpa using I.len⟩ ⟨c,J,.inr hc⟩
  .exact(J.2 b (KA (wh (u0 e) (I.ok.cab x c a0 hc)))).trans (I.base.keep b o e n hb Y)
  .obtain⟨sl,U⟩:=I.base.slot b o e n hb Y;exact⟨sl,(J.2 b (KA (wh (u0 e) (I.ok.cab x c a0 hc)))).trans U⟩
  .obtain⟨o',U⟩:=I.base.there b o e Y;exact⟨o',(J.2 b (KA (wh (u0 e) (I.ok.cab x c a0 hc)))).trans U⟩
  .by_cases hj:j=i
   .subst hj;rw[hi]at U;cases U
    rw[KS ar]at e2;cases e2;exact⟨u,r,.inr ⟨.inl hk,c,hc,a2⟩⟩
   .rw[Kr (Ku hj)]at e2;refine ag (hl j y v' U e2 e3) λu' r' q=>?_
    refine⟨u',r',?_⟩;rcases q with q|⟨k,c',e,z'⟩
    .exact .inl q
    .refine .inr ⟨k,c',e,z'.sameBut J ?_⟩;rintro rfl;exact hj (qX hN U (I.ok.inj _ _ _ e hc▸hi))
  .by_cases a5:c'=c
   .subst a5;exact⟨_,a2⟩
   .obtain⟨w2,z2⟩:=I.cell y c' e;exact⟨w2,z2.sameBut J a5⟩
  .refine xA (I.pin p hp) λe n ne nf d=>?_
   refine⟨(J.2 p.1 ?_).trans e,n,ne,nf,d⟩;intro q;rw[q,a3]at e;have q':=uW e;exact d w' (by rw[<- q'];exact a4)
def qY{i:Nat}{x:Str}{v:V}{u:Value}{Q:Unit->Shared->Prop}(I:Inv X pins σ H s)(hN:X.N.Nodup)(hi:X.N[i]?=some x)(J:Loc X.env.scope x)(r:aF v u)
  (h:∀s',Inv X pins (σ.set i (some v)) H s'->Q () s') (S:X.fn x=true\/X.env.scope.names.lookup x=some .local:=by first|exact .inl rfl|exact .inr rfl|assumption):wpAny M A (storeName X.env x u) Q E s:=
 oF I hN hi J r (λs' U _=>h s' U) S
def Inv.call'(I:Inv X pins σ H s)(S:s'.os=s.os)(u:Un (frs X.stack) ch H H' s.heap s'.heap)(hok:HOk X.prog X.w H' s'.heap)(U:AllBare s'.gens)
  (J:∀b∈ch,(b∈X.ex\/X.s₀.heap.objs.size<=b)/\b≠X.env.locals/\(∀x c,X.env.cells.lookup x=some c->c≠b)/\∀p∈X.pn++pins,p.1≠b):Inv X pins σ H' s':=by
 obtain⟨h',g',d',t',o'⟩:=s';have e:=S;subst e;exact I.call u hok U J
end
noncomputable abbrev XK:=Value->Option Addr->Hp->Prop
noncomputable abbrev St:=List (Option V)
noncomputable abbrev VK:=V->Hp->Prop
noncomputable abbrev TE:=St->Hp->VK->Prop
noncomputable abbrev TT:=St->Hp->(Bool->Hp->Prop)->Prop
noncomputable abbrev TA:=St->Hp->(List V->Hp->Prop)->Prop
structure gF where
 nx:St->Hp->Prop
 rt:VK
 bk:St->Hp->Prop:=λ_ _=>False
 ct:St->Hp->Prop:=λ_ _=>False
noncomputable abbrev TS:=gF->St->Hp->Prop
def EP(X:Cx)(pins:List (Addr×Obj))(σ:St)(Q:VK)(u:Value)(s':Shared):Prop:=∃v H',Inv X pins σ H' s'/\aF v u/\Q v H'
def TP(X:Cx)(pins:List (Addr×Obj))(σ:St)(Q:Bool->Hp->Prop)(b:Bool)(s':Shared):Prop:=∃H',Inv X pins σ H' s'/\Q b H'
def AP(X:Cx)(pins:List (Addr×Obj))(σ:St)(Q:List V->Hp->Prop)(us:List Value)(s':Shared):Prop:=∃vs H',Inv X pins σ H' s'/\aN vs us/\Q vs H'
def SP(X:Cx)(pins:List (Addr×Obj))(D:gF)(f:Flow)(s':Shared):Prop:=
 match f with
 | .next=>∃J H',Inv X pins J H' s'/\D.nx J H'
 | .brk=>∃J H',Inv X pins J H' s'/\D.bk J H'
 | .cont=>∃J H',Inv X pins J H' s'/\D.ct J H'
 | .ret u=>∃v J H',Inv X pins J H' s'/\aF v u/\D.rt v H'
def PE(X:Cx)(e:Expr)(t:TE):Prop:=
 ∀pins s (σ:St) H Q,Inv X pins σ H s->t σ H Q->wpAny (model X.prog X.w) X.A (eval e X.env) (EP X pins σ Q) X.xe s
def PT(X:Cx)(e:Expr)(t:TT):Prop:=
 ∀pins s (σ:St) H Q,Inv X pins σ H s->t σ H Q->wpAny (model X.prog X.w) X.A (isTrue e X.env (eval e X.env)) (TP X pins σ Q) X.xe s
def PW(X:Cx)(e:Expr)(t:TT):Prop:=
 ∀whole pins s (σ:St) H Q,Inv X pins σ H s->t σ H Q->wpAny (model X.prog X.w) X.A (isTrue e X.env whole) (TP X pins σ Q) X.xe s
theorem PW.pt(h:PW X e t):PT X e t:=h _
def PA(X:Cx)(es:List Expr)(t:TA):Prop:=
 ∀pos pins s (σ:St) H Q,Inv X pins σ H s->t σ H Q->wpAny (model X.prog X.w) X.A (spliced (backTo pos (starEach es X.env))) (AP X pins σ Q) X.xe s
def PS(X:Cx)(st:Stmt)(t:TS):Prop:=
 ∀pins s (σ:St) H D,Inv X pins σ H s->t D σ H->wpAny (model X.prog X.w) X.A (exec st X.env) (SP X pins D) X.xe s
def PSs(X:Cx)(st:List Stmt)(t:TS):Prop:=
 ∀pins s (σ:St) H D,Inv X pins σ H s->t D σ H->wpAny (model X.prog X.w) X.A (execs st X.env) (SP X pins D) X.xe s
def thn(h:wpAny M A t Q E s)(J:∀a s,Q a s->S a s):wpAny M A t S E s:=K3 h J λ_ _ x=>x
section
variable{X:Cx}
def bin(ha:PE X a ta)(Z:PE X b tb){σ:St}{R:V->V->Hp->Prop}(I:Inv X pins σ H s)(h:ta σ H λx H1=>tb σ H1 λy H2=>R x y H2)
  {f:Value->Value->Sem α}
  (hf:∀v u U x y H2,Inv X pins σ H2 U->aF x v->aF y u->R x y H2->wpAny (model X.prog X.w) X.A (f v u) Q X.xe U) :
  wpAny (model X.prog X.w) X.A (eval a X.env) (λv J=>wpAny (model X.prog X.w) X.A (eval b X.env) (λu S=>wpAny (model X.prog X.w) X.A (f v u) Q X.xe S) X.xe J) X.xe s:=by
 refine thn (ha pins s σ H _ I h) λv s1 Y=>au Y λx H1 I1 r1 q1=>?_
 refine thn (Z pins s1 σ H1 _ I1 q1) λu U Y=>au Y λy H2 I2 r2 q2=>?_
 exact hf v u U x y H2 I2 r1 r2 q2
noncomputable def aq(i:Nat):TE:=λσ H Q=>∃v,σ[i]?=some (some v)/\Q v H
noncomputable def tC(v:V):TE:=λ_ H Q=>Q v H
def xD (hN:X.N[i]?=some x) (Y:Vis X.env.scope x) (hd:(x==("__debug__":Str))=false:=by decide) (U:(x==("__classdict__":Str))=false:=by decide):PE X (.Name x pos) (aq i):=by
 intro pins s σ H Q I h;refine ag h λv e h=>?_
 refine ag I.loc λm hn Z=>?_
 refine ag (Z i x v hN e Y) λu r l=>?_
 have fin:EP X pins σ Q u s:=⟨v,H,I,r,h⟩;rcases l with⟨S,hm⟩|⟨S,c,hc,J⟩
 .exact wpAny_Name (wpAny_loadName_local I.ok.kind S hn hm fin) hd
 .rcases S with S|S
  .exact wpAny_Name (wpAny_loadName_cell I.ok.kind S hc J fin) hd
  .exact wpAny_Name (wpAny_loadName_free I.ok.kind S hc J fin U) hd
def dh{i j pos}:PE X (.Constant (.int i) j pos) (tC (.int i)):=λ_ _ _ H _ I h=>wpAny_Constant_int ⟨.int i,H,I.tok _,⟨_,rfl⟩,h⟩
def i_{b j pos}:PE X (.Constant (.bool b) j pos) (tC (.bl b)):=λ_ _ _ H _ I h=>Constant_bool ⟨.bl b,H,I,rfl,h⟩
def xE{j pos}:PE X (.Constant .none j pos) (tC .non):=λ_ _ _ H _ I h=>Constant_none ⟨.non,H,I,rfl,h⟩
def pJ{x j pos}:PE X (.Constant (.str x) j pos) (tC (.str x)):=λ_ _ _ H _ I h=>Calls.Constant_str ⟨.str x,H,I.tok _,⟨_,rfl⟩,h⟩
def Gl(X:Cx)(x:Str):Prop:=X.env.kindOf x=some .globalImplicit
def jH{pins:List (Addr×Obj)}{s:Shared}{σ:St}{H:Hp}{x:Str}{u:Value}{pos:Pos}{Q:Value->Shared->Prop}(I:Inv X pins σ H s)(J:Gl X x)(hm:X.mg x=some u)(h:Q u s)
  (hd:(x==("__debug__":Str))=false:=by decide):wpAny (model X.prog X.w) X.A (eval (.Name x pos) X.env) Q E s:=
 Calls.Name_function_global I.ok.kind J (Calls.loadGlobal_global (by rw[I.ok.glob];exact I.mod.glob.keeps I.bk) hm h) hd
def kT{E:Value->Shared->Prop}{pins:List (Addr×Obj)}{s:Shared}{σ:St}{H:Hp}{x:Str}{u:Value}{pos:Pos}{Q:Value->Shared->Prop}(I:Inv X pins σ H s)(J:Gl X x)(hm:X.mg x=none)(S:bootBuiltins x=some u)(h:Q u s)
  (hn:x ≠ "__name__":=by decide) (hd:(x==("__debug__":Str))=false:=by decide):wpAny (model X.prog X.w) X.A (eval (.Name x pos) X.env) Q E s:=by
 refine ag I.mod.blt λU h1 h2=>?_
 exact Calls.Name_function_global I.ok.kind J (Calls.loadGlobal_builtin (by rw[I.ok.glob];exact I.mod.glob.keeps I.bk) hm (by rw[I.ok.blt];exact h1.keeps I.bk) ((h2 x hn).trans S) h) hd
def jI (J:Gl X x) (hm:X.mg x=some u) (r:aF v u) (hd:(x==("__debug__":Str))=false:=by decide):PE X (.Name x pos) (tC v):=
 λ_ _ _ H _ I h=>jH I J hm ⟨v,H,I,r,h⟩ hd
def AK (J:Gl X x) (hm:X.mg x=none) (S:bootBuiltins x=some u) (r:aF v u) (hn:x ≠ "__name__":=by decide) (hd:(x==("__debug__":Str))=false:=by decide):PE X (.Name x pos) (tC v):=
 λ_ _ _ H _ I h=>kT I J hm S ⟨v,H,I,r,h⟩ hn hd
variable{a b:Expr}{ta tb:TE}{pos:Pos}
def PC(X:Cx)(op:CmpOp)(a b:Expr)(t:TE):Prop:=
 ∀pins s (σ:St) H Q,Inv X pins σ H s->t σ H Q ->
  wpAny (model X.prog X.w) X.A (eval a X.env) (λv J=>wpAny (model X.prog X.w) X.A (eval b X.env) (λu S=>wpAny (model X.prog X.w) X.A (compareOp op v u) (EP X pins σ Q) X.xe S) X.xe J) X.xe s
noncomputable def tB(t:TE):TT:=λσ H Q=>t σ H λx H1=>∃c,x=.bl c/\Q c H1
def xF(h:PC X op a b t)(h1:behindInMarks op b=false:=by first|exact J _ (by decide) (by decide)|rfl):PE X (.Compare a [op] [b] pos) t:=λpins s σ H Q I hw=>wpAny_Compare1 (h pins s σ H Q I hw) h1
def xG(h:PC X op a b t)(h1:behindInMarks op b=false:=by first|exact J _ (by decide) (by decide)|rfl):PT X (.Compare a [op] [b] pos) (tB t):=by
 intro pins s σ H Q I hw;refine wpAny_isTrue_Compare1 (thn (h pins s σ H _ I hw) λv s1 h1=>thn h1 λu s2 h2=>thn h2 λc s3 U=>au U λx H1 Y r1 Z=>?_) h1;refine ag Z λd S q=>?_
 subst S;subst r1;exact KZ ⟨H1,Y,q⟩
def jh(h:PE X e t)(S:∀whole,isTrue e X.env whole=(do let v <- whole;standAt e.pos;holding [v] (truthy v)):=by intro _;rfl):PT X e (tB t):=by
 intro pins s σ H Q I hw;refine isTrue_plain (thn (h pins s σ H _ I hw) λv s1 U=>au U λx H1 Y r1 Z=>?_) (S _);refine ag Z λd J q=>?_
 subst J;subst r1;exact KZ ⟨H1,Y,q⟩
variable{tA tB':TT}{dF:List Expr}
noncomputable def JD(t u:TT):TT:=λσ H Q=>t σ H λc H1=>if c=true then u σ H1 Q else Q false H1
noncomputable def tOr(t u:TT):TT:=λσ H Q=>t σ H λc H1=>if c=true then Q true H1 else u σ H1 Q
noncomputable def xH(t:TT):TT:=λσ H Q=>t σ H λc H1=>Q (!c) H1
def AL(ha:PT X a tA):PW X (.BoolOp .And [a] pos) tA:=by
 intro J pins s σ H Q I h;refine isTrue_and (thn (ha pins s σ H Q I h) λc s1 e=>?_);cases c<;>first|exact isTrue_and_nil e|exact e
def sY(ha:PT X a tA):PW X (.BoolOp .Or [a] pos) tA:=by
 intro J pins s σ H Q I h;refine isTrue_or (thn (ha pins s σ H Q I h) λc s1 e=>?_);cases c<;>first|exact isTrue_or_nil e|exact e
def DE(ha:PT X a tA)(U:PW X (.BoolOp .And (b::dF) pos) tB'):PW X (.BoolOp .And (a::b::dF) pos) (JD tA tB'):=by
 intro Y pins s σ H Q I h;refine isTrue_and (thn (ha pins s σ H _ I h) λc s1 Z=>ag Z λH1 J S=>?_);cases c<;>first|exact U Y pins s1 σ H1 Q J S|exact⟨H1,J,S⟩
def xI(ha:PT X a tA)(U:PW X (.BoolOp .Or (b::dF) pos) tB'):PW X (.BoolOp .Or (a::b::dF) pos) (tOr tA tB'):=by
 intro Y pins s σ H Q I h;refine isTrue_or (thn (ha pins s σ H _ I h) λc s1 Z=>ag Z λH1 J S=>?_);cases c<;>first|exact⟨H1,J,S⟩|exact U Y pins s1 σ H1 Q J S
def ji(ha:PT X a tA):PT X (.UnaryOp .Not a pos) (xH tA):=by
 intro pins s σ H Q I h;exact isTrue_not (ha pins s σ H (λc H1=>Q _ H1) I h)
noncomputable def GH(ta tb:TE):TE:=λσ H Q=>ta σ H λx H1=>∃c,x=.bl c/\if c=true then tb σ H1 Q else Q (.bl false) H1
noncomputable def JE(ta tb:TE):TE:=λσ H Q=>ta σ H λx H1=>∃c,x=.bl c/\if c=true then Q (.bl true) H1 else tb σ H1 Q
noncomputable def GI(ta:TE):TE:=λσ H Q=>ta σ H λx H1=>∃c,x=.bl c/\Q (.bl (!c)) H1
def sZ{op}(h:PE X a t):PE X (.BoolOp op [a] pos) t:=λpins s σ H Q I hw=>BoolOp_one (h pins s σ H Q I hw)
def xJ(ha:PE X a ta)(U:PE X (.BoolOp .And (b::dF) pos) tb):PE X (.BoolOp .And (a::b::dF) pos) (GH ta tb):=by
 intro pins s σ H Q I h;refine BoolOp_and (thn (ha pins s σ H _ I h) λv s1 Y=>au Y λx H1 S r1 J=>?_);obtain⟨c,rfl,J⟩:=J;subst r1;refine KZ ?_;cases c<;>first|exact U pins s1 σ H1 Q S J|exact⟨.bl false,H1,S,rfl,J⟩
def GJ(ha:PE X a ta)(U:PE X (.BoolOp .Or (b::dF) pos) tb):PE X (.BoolOp .Or (a::b::dF) pos) (JE ta tb):=by
 intro pins s σ H Q I h;refine BoolOp_or (thn (ha pins s σ H _ I h) λv s1 Y=>au Y λx H1 S r1 J=>?_);obtain⟨c,rfl,J⟩:=J;subst r1;refine KZ ?_;cases c<;>first|exact U pins s1 σ H1 Q S J|exact⟨.bl true,H1,S,rfl,J⟩
def s_(ha:PE X a ta):PE X (.UnaryOp .Not a pos) (GI ta):=by
 intro pins s σ H Q I h;refine UnaryOp_ (thn (ha pins s σ H _ I h) λv s1 S=>au S λx H1 U r1 J=>?_);obtain⟨c,rfl,J⟩:=J;subst r1;exact not_of (KZ ⟨.bl _,H1,U,rfl,J⟩)
noncomputable def tIf(t:TT)(ta tb:TE):TE:=λσ H Q=>t σ H λc H1=>if c=true then ta σ H1 Q else tb σ H1 Q
def qZ(hc:PT X c tA)(ha:PE X a ta)(U:PE X b tb):PE X (.IfExp c a b pos) (tIf tA ta tb):=by
 intro pins s σ H Q I h;refine wpAny_IfExp (thn (hc pins s σ H _ I h) λd s1 Y=>ag Y λH1 J S=>?_);cases d<;>first|exact ha pins s1 σ H1 Q J S|exact U pins s1 σ H1 Q J S
end
def SqL(K:MP)(H:Hp)(a:Addr)(xs:List V):Prop:=
 Rd H a (.lst xs) \/
  ∃o its n,K.lookup a=some o/\o.cls=.type "list"/\o.dict=none/\o.data=.seq its n/\its.size<=sizeLine/\aN xs its.toList
def SqT(K:MP)(H:Hp)(a:Addr)(xs:List V):Prop:=
 Rd H a (.tup xs) \/
  ∃o its n,K.lookup a=some o/\o.cls=.type "tuple"/\o.data=.seq its n/\its.size<=sizeLine/\aN xs its.toList
noncomputable def JF:Value->Option V
 | .none=>some .non
 | .bool b=>some (.bl b)
 | .int i _=>some (.int i)
 | .str x _=>some (.str x)
 | .bytes b _=>some (.byt b)
 | .float b _=>some (.flt b)
 | .ref a=>some (.ref a)
 | .type n=>some (.ty n)
 | _=>none
theorem aF.abs(r:aF x u):JF u=some x:=by
 cases x<;>first|(subst r;rfl)|(obtain⟨t,rfl⟩:=r;rfl)
theorem aF.inj(r:aF x u)(q:aF y u):x=y:=uW (r.abs.symm.trans q.abs)
theorem aN.inj:∀{xs ys}{us},aN xs us->aN ys us->xs=ys
 | _,_,_,.nil,.nil=>rfl
 | _,_,_,.cons r t,.cons J t'=>by rw[r.inj J,aN.inj t t']
section
variable{X:Cx}{pins:List (Addr×Obj)}{σ:St}{H:Hp}{s:Shared}{a:Addr}{xs ys:List V}
theorem SqL.of{K:MP}(h:H a=some (.lst xs)):SqL K H a xs:=.inl (.inl h)
theorem SqT.of{K:MP}(h:H a=some (.tup xs)):SqT K H a xs:=.inl (.inl h)
theorem Inv.list(I:Inv X pins σ H s)(h:SqL X.K H a xs):∃its,aN xs its/\PlainL s.heap a its.toArray/\xs.length<=sizeLine:=by
 rcases h with h|⟨o,its,n,J,hc,hd,S,hz,r⟩
 .obtain⟨z,its,n,r,e⟩:=h.ok I.hok;exact⟨its,r,⟨_,n,e,rfl,rfl,rfl⟩,z⟩
 .refine⟨its.toList,r,⟨o,n,I.kIn a o J,hc,hd,by simpa using S⟩,?_⟩;have e:=r.length
  simp_all
def Inv.tuple(I:Inv X pins σ H s)(h:SqT X.K H a xs):∃its,aN xs its/\IsTup s.heap a its.toArray/\xs.length<=sizeLine:=by
 rcases h with h|⟨o,its,n,J,hc,S,hz,r⟩
 .obtain⟨z,its,r,p⟩:=h.ok I.hok;exact⟨its,r,p,z⟩
 .refine⟨its.toList,r,⟨o,I.kIn a o J,hc,n,by simpa using S⟩,?_⟩;have e:=r.length
  simp_all
def Inv.list_inj(I:Inv X pins σ H s)(h:SqL X.K H a xs)(h':SqL X.K H a ys):xs=ys:=by
 obtain⟨its,r,⟨o,n,e,_,_,d⟩,_⟩:=I.list h;obtain⟨its',S,⟨o',Y,J,_,_,d'⟩,_⟩:=I.list h';rw[e]at J;cases J
 rw[d]at d';injection d' with U _
 have:its=its':=by simpa using Lg Array.toList U
 subst this;exact r.inj S
def Inv.tuple_inj(I:Inv X pins σ H s)(h:SqT X.K H a xs)(h':SqT X.K H a ys):xs=ys:=by
 obtain⟨its,r,⟨o,e,_,n,d⟩,_⟩:=I.tuple h;obtain⟨its',S,⟨o',J,_,Y,d'⟩,_⟩:=I.tuple h';rw[e]at J;cases J
 rw[d]at d';injection d' with U _
 have:its=its':=by simpa using Lg Array.toList U
 subst this;exact r.inj S
end
noncomputable abbrev Cx.wish(X:Cx)(E:Value->Shared->Prop):Cx:={ X with xe:=E }
noncomputable abbrev Cx.nox(X:Cx):Cx:=X.wish λ_ _=>False
theorem Cx.Ok.wish{X:Cx}(ok:X.Ok)(E:Value->Shared->Prop):(X.wish E).Ok:=
 ⟨ok.mod,ok.kind,ok.glob,ok.blt,ok.above,ok.inj,ok.has,ok.cab,ok.hd,ok.frames,ok.stk,ok.exf,ok.bs,ok.bsz,ok.noex,ok.exfs,ok.funs,ok.frf⟩
theorem Cx.Ok.unwish{X:Cx}{E:Value->Shared->Prop}(ok:(X.wish E).Ok):X.Ok:=
 ⟨ok.mod,ok.kind,ok.glob,ok.blt,ok.above,ok.inj,ok.has,ok.cab,ok.hd,ok.frames,ok.stk,ok.exf,ok.bs,ok.bsz,ok.noex,ok.exfs,ok.funs,ok.frf⟩
section
variable{X:Cx}{pins:List (Addr×Obj)}{σ:St}{H:Hp}{s:Shared}{E:Value->Shared->Prop}
theorem Inv.wish(I:Inv X pins σ H s)(E:Value->Shared->Prop):Inv (X.wish E) pins σ H s:=⟨I.ok.wish E,I.os,I.bare,I.base,I.loc,I.cell,I.free,I.freeC,I.pin,I.hok,I.len⟩
theorem Inv.unwish(I:Inv (X.wish E) pins σ H s):Inv X pins σ H s:=⟨I.ok.unwish,I.os,I.bare,I.base,I.loc,I.cell,I.free,I.freeC,I.pin,I.hok,I.len⟩
theorem SP.unwish(h:SP (X.wish E) pins D f s'):SP X pins D f s':=by
 cases f<;>first|(obtain⟨J,H',I,q⟩:=h;exact⟨J,H',I.unwish,q⟩)|(obtain⟨v,J,H',I,r,q⟩:=h;exact⟨v,J,H',I.unwish,r,q⟩)
theorem PSs.nox{st:List Stmt}(h:PSs X.nox st t):PSs X st t:=λpins s σ H D I hw =>
 K3 (h pins s σ H D (I.wish _) hw) (λ_ _ q=>q.unwish) λ_ _ z=>False.elim z
end
section
variable{X:Cx}{st:Stmt}{dF:List Stmt}{t u:TS}{e:Expr}{te:TE}{pos:Pos}
noncomputable def eU:TS:=λD σ H=>D.nx σ H
noncomputable def b_(t u:TS):TS:=λD σ H=>t { D with nx:=u D } σ H
def cQ:PSs X [] eU:=λ_ _ σ H _ I h=>Md ⟨σ,H,I,h⟩
def al(h1:PS X st t)(h2:PSs X dF u):PSs X (st::dF) (b_ t u):=by
 intro pins s σ H D I h;refine wpAny_execs_cons (thn (h1 pins s σ H { D with nx:=u D } I h) λf s1 q=>?_);cases f with
 |next =>
  refine dc q λJ H' S q=>?_
  exact h2 pins s1 J H' D S q
 | _=>exact q
def aU(h1:PS X st t):PSs X [st] t:=by
 intro pins s σ H D I h;refine wpAny_execs_cons (thn (h1 pins s σ H D I h) λf s1 q=>?_);cases f with
 |next=>exact Md q
 |ret v=>exact q
 |brk=>exact q
 |cont=>exact q
def AM:PS X (.Pass pos) eU:=λ_ _ σ H _ I h=>wpAny_Pass ⟨σ,H,I,h⟩
def Inv.quiet(I:Inv X pins σ H s):interactive X.env=false:=by simp[interactive,I.ok.kind]
noncomputable def dG(te:TE):TS:=λD σ H=>te σ H λ_ H1=>D.nx σ H1
def c5(J:PE X e te)(S:swapsWith e none pos.line X.env=pure false:=by rfl):PS X (.Expr e pos) (dG te):=by
 intro pins s σ H D I h;exact wpAny_Expr_any (thn (J pins s σ H _ I h) λv s1 U=>au U λx H1 Y r1 Z=>⟨σ,H1,Y,Z⟩) I.quiet S
noncomputable def iZ(te:TE):TS:=λD σ H=>te σ H D.rt
def cv(J:PE X e te):PS X (.Return (some e) pos) (iZ te):=by
 intro pins s σ H D I h;exact wpAny_Return_some (thn (J pins s σ H _ I h) λv s1 S=>au S λx H1 U r1 Y=>⟨x,σ,H1,U,r1,Y⟩)
noncomputable def i4(c:TT)(t u:TS):TS:=λD σ H=>c σ H λb H1=>if b=true then t D σ H1 else u D σ H1
def gb(hc:PT X c tc)(ha:PSs X a t)(U:PSs X b u):PS X (.If c a b pos) (i4 tc t u):=by
 intro pins s σ H D I h;refine wpAny_If (thn (hc pins s σ H _ I h) λd s1 Y=>ag Y λH1 J S=>?_);cases d<;>first|exact ha pins s1 σ H1 D J S|exact U pins s1 σ H1 D J S
noncomputable def DF:TS:=λ_ _ _=>False
def xK:PS X st DF:=λ_ _ _ _ _ _ h=>h.elim
end
noncomputable abbrev TG:=V->St->Hp->(St->Hp->Prop)->Prop
noncomputable abbrev TGs:=List V->St->Hp->(St->Hp->Prop)->Prop
def PG(X:Cx)(target:Expr)(t:TG):Prop:=
 ∀pins s (σ:St) H v u Q,Inv X pins σ H s->aF v u->t v σ H Q ->
  wpAny (model X.prog X.w) X.A (assign target X.env u) (λ_ s'=>∃J H',Inv X pins J H' s'/\Q J H') X.xe s
def PGs(X:Cx)(S:List Expr)(t:TGs):Prop:=
 ∀pins s (σ:St) H vs us Q,Inv X pins σ H s->aN vs us->t vs σ H Q ->
  wpAny (model X.prog X.w) X.A (assignInOrder ((assignEach S X.env).map (·.2)) us) (λ_ s'=>∃J H',Inv X pins J H' s'/\Q J H') X.xe s
noncomputable abbrev GK:=V->V->V->Hp->(Hp->Prop)->Prop
def GL(X:Cx)(t:GK):Prop:=
 ∀pins s (σ:St) H o i v J S u Q,Inv X pins σ H s->aF o J->aF i S->aF v u->t o i v H Q ->
  wpAny (model X.prog X.w) X.A (setItem J S u) (λ_ s'=>∃H',Inv X pins σ H' s'/\Q H') X.xe s
section
variable{X:Cx}{pos:Pos}
noncomputable def gc(i:Nat):TG:=λv σ H Q=>Q (σ.set i (some v)) H
def lZ(hN:X.N.Nodup)(hi:X.N[i]?=some x)(J:Loc X.env.scope x)(S:X.fn x=true\/X.env.scope.names.lookup x=some .local:=by first|exact .inl rfl|exact .inr rfl|assumption):PG X (.Name x pos) (gc i):=by
 intro pins s σ H v u Q I r h;exact wpAny_assign_Name (qY I hN hi J r (λs' U=>⟨_,H,U,h⟩) S)
noncomputable def GM:TGs:=λvs σ H Q=>vs=[]/\Q σ H
noncomputable def Cu(t:TG)(u:TGs):TGs:=λvs σ H Q=>∃v r,vs=v::r/\t v σ H λJ H'=>u r J H' Q
def AN:PGs X [] GM:=by
 intro pins s σ H vs us Q I r h;obtain⟨e,h⟩:=h;subst e;cases r;exact assignInOrder_nil ⟨σ,H,I,h⟩
def xL(h1:PG X e t)(h2:PGs X es u)
  (S:(assignEach (e::es) X.env).map (·.2)=assign e X.env::(assignEach es X.env).map (·.2):=by rfl):PGs X (e::es) (Cu t u):=by
 intro pins s σ H vs us Q I r h;obtain⟨v,vr,U,h⟩:=h;subst U;cases r with
 |cons r rr =>
  rw[S];refine assignInOrder_cons (thn (h1 pins s σ H _ _ _ I r h) λ_ s1 Y=>dc Y λJ H1 Z q1=>?_);exact h2 pins s1 J H1 _ _ Q Z rr q1
noncomputable def GN(K:MP)(n:Nat)(t:TGs):TG:=λv σ H Q=>∃a xs,v=.ref a/\SqT K H a xs/\xs.length=n/\t xs σ H Q
def DG{k:Nat}(hc:X.calm=true)(h:PGs X es t)
  (hn:(assignEach es X.env).length=n:=by rfl) (J:(assignEach es X.env).findIdx? (·.1)=none:=by rfl):PG X (.Tuple es k pos) (GN X.K n t):=by
 intro pins s σ H v u Q I r hw;refine cw λZq U=>?_
 obtain⟨a,xs,Y,Z,hl,hw⟩:=hw;subst Y;subst r;refine bq (I.tuple Z) λits S ht hz=>?_
 refine U ?_;refine assign_Tuple_tuple (I.ok.hd hc) ht (by simp[hn,<- hl,S.length]) J λh' hx=>?_
 have I1:=I.kept (t':=s.toks) λb o e=>hx b o (KA (u0 e)) e
 exact h pins _ σ H xs _ Q I1 S hw
noncomputable def AO(to J:TE)(t:GK):TG:=λv σ H Q=>to σ H λo H1=>J σ H1 λi H2=>t o i v H2 λS=>Q σ S
def DH(U:PE X o to)(hi:PE X i Y)(Z:GL X t)
  (ha:∀v,assign (.Subscript o i pos) X.env v=(do
   let J <- holding [v] (eval o X.env)
   let S <- holding [v,J] (eval i X.env)
   standAt pos
   holding [v,J,S] (setItem J S v)
   release [v,J,S] []):=by intro _;rfl):PG X (.Subscript o i pos) (AO to Y t):=by
 intro pins s σ H v u Q I r h;rw[ha];refine j0 (Lw (thn (U pins s σ H _ I h) λJ s1 ⟨x,H1,I1,r1,q1⟩=>?_));refine j0 (Lw (thn (hi pins s1 σ H1 _ I1 q1) λS s2 ⟨y,H2,I2,r2,q2⟩=>?_));refine j0 (wpAny_standAt (j0 (Lw (thn (Z pins s2 σ H2 x y v J S u _ I2 r1 r2 r q2) λ_ s3 ⟨H3,I3,q3⟩=>?_))));exact wpAny_release ⟨σ,H3,I3,q3⟩
noncomputable def pK(te:TE)(g:TG):TS:=λD σ H=>te σ H λx H1=>g x σ H1 D.nx
def DJ(J:PE X e te)(S:PG X tg g)(U:swapsWithSole [tg] e pos.line X.env=pure false:=by rfl)(hw:swappedStores [tg] e X.env=pure none:=by rfl)
  (h1:(assignEach [tg] X.env).map (·.2)=[assign tg X.env]:=by rfl):PS X (.Assign [tg] e pos) (pK te g):=by
 intro pins s σ H D I h;refine wpAny_Assign_stores (thn (J pins s σ H _ I h) λv s1 ⟨x,H1,Y,r1,Z⟩=>?_) U hw;rw[h1];exact thn (S pins s1 σ H1 x v _ Y r1 Z) λ_ s2 q=>q
def iC(hN:X.N.Nodup)(hi:X.N[i]?=some x)(J:Loc X.env.scope x)(S:PE X e te)(U:swapsWith e (some (.Name x pos')) pos.line X.env=pure false:=by rfl)(Y:X.fn x=true\/X.env.scope.names.lookup x=some .local:=by first|exact .inl rfl|exact .inr rfl|assumption) :
  PS X (.Assign [.Name x pos'] e pos) (pK te (gc i)):=by
 intro pins s σ H D I h;refine wpAny_Assign_Name (thn (S pins s σ H _ I h) λv s1 Z=>au Z λy H1 I1 r1 q1=>?_) U;exact qY I1 hN hi J r1 (λs2 I2=>⟨_,H1,I2,q1⟩) Y
noncomputable def pL(c:TT)(tb:TS):TS:=λD σ H=>∃W:Nat->St->Hp->Prop,(∃m,W m σ H)/\∀m σ H,W m σ H ->
 c σ H λb H1=>if b=true then ∃N:St->Hp->Prop,(∀J H',N J H'->∃S,S<m/\W S J H')/\tb { D with nx:=N,ct:=N,bk:=D.nx } σ H1 else D.nx σ H1
def q_{c:Expr}{body:List Stmt}{tc:TT}{tb:TS}(hp:PassesOwn (model X.prog X.w) X.A X.env X.xe)(hc:PT X c tc)(hb:PSs X body tb):PS X (.While c body [] pos) (pL tc tb):=by
 intro pins s σ H D I h;obtain⟨W,⟨m0,w0⟩,turn⟩:=h;refine wpAny_While (codeAny_whileLoop (λn s'=>∃U H',Inv X pins U H' s'/\W n U H') ?_ m0 ⟨σ,H,I,w0⟩);rintro n s1 ⟨S,H1,I1,w1⟩;refine Ls hp (thn (hc pins s1 S H1 _ I1 (turn n S H1 w1)) λb s2 ⟨H2,I2,Z⟩=>?_);cases b with
 |true =>
  obtain⟨N,hN,Z⟩:=Z;rw[if_pos rfl];refine Ls hp (thn (hb pins s2 S H2 _ I2 Z) λf s3 q3=>?_);cases f with
  |next =>
   obtain⟨J,Y,I3,n3⟩:=q3;obtain⟨m',hm,w3⟩:=hN J Y n3;exact⟨m',hm,J,Y,I3,w3⟩
  |cont =>
   obtain⟨J,Y,I3,n3⟩:=q3;obtain⟨m',hm,w3⟩:=hN J Y n3;exact⟨m',hm,J,Y,I3,w3⟩
  |brk=>exact q3
  |ret v=>exact q3
 |false =>
  rw[if_neg kn];exact Md ⟨S,H2,I2,Z⟩
end
structure It where
 go:Nat->Hp->Prop
 yld:Nat->Hp->V->Hp->Prop
 stop:Nat->Hp->Prop
def jJ(X:Cx)(pins:List (Addr×Obj))(H:Hp)(b:Addr):Prop:=
 H b=none/\b≠X.env.locals/\b∉X.fs/\(b∈X.ex\/X.s₀.heap.objs.size<=b)/\(∀x c,X.env.cells.lookup x=some c->c≠b)/\∀p∈X.pn++pins,p.1≠b
theorem Inv.fpOk{σ:St}{H H':Hp}{s:Shared}{b:Addr}(I:Inv X pins σ H s)(J:s.heap.objs.size<=b)(hn:H' b=none):jJ X pins H' b:=by
 refine⟨hn,LW (wh I.lt J),I.nofs J,.inr (xw I.sz J),λx c e z=>?_,λp S z=>?_⟩
 .obtain⟨v,q⟩:=I.cell x c e;exact absurd (wh q.lt (by rw[z];exact J)) (La _)
 .exact absurd (wh (u0 (I.pin p S).1) (by rw[z];exact J)) (La _)
structure re(P:Program)(w:World)(K:MP)(tg:Expr)(J:It)(fp:List Addr)(it:Addr)(tn:Nat->Heap->Prop):Prop where
 mem:it∈fp
 obj:∀i h,tn i h->∀b∈fp,∃o,h.get? b=some o/\∀v,o.data≠.cell v
 keep:∀i h h',tn i h->(∀b∈fp,∀o,h.get? b=some o->h'.get? b=some o)->tn i h'
 item:∀(X:Cx),X.prog=P->X.w=w->X.K=K->X.calm=true->∀(i:Nat) (pins:List (Addr×Obj)) (s:Shared) (σ:St) (H:Hp) (E:Value->Shared->Prop),Inv X pins σ H s->(∀b∈fp,jJ X pins H b)->tn i s.heap->J.go i H ->
  wpAny (model P w) X.A (pyNext (.ref it)) (λr s1=>∃u,r=some u /\
   wpAny (model P w) X.A (letOwnedTupleGo tg (.ref it) u) (λ_ s2=>∃x H',Inv X pins σ H' s2/\aF x u/\J.yld i H x H'/\tn (i+1) s2.heap/\∀b∈fp,H' b=none) E s1) E s
 done:∀(X:Cx),X.prog=P->X.w=w->X.K=K->X.calm=true->∀(i:Nat) (pins:List (Addr×Obj)) (s:Shared) (σ:St) (H:Hp) (E:Value->Shared->Prop),Inv X pins σ H s->(∀b∈fp,jJ X pins H b)->tn i s.heap->J.stop i H ->
  wpAny (model P w) X.A (pyNext (.ref it)) (λr s1=>r=none/\Inv X pins σ H s1) E s
 self:∀(A:Around) (i:Nat) (s:Shared) (Q:Value->Shared->Prop) (E:Value->Shared->Prop),tn i s.heap->Q (.ref it) s->wpAny (model P w) A (pyIter (.ref it)) Q E s
noncomputable abbrev TI:=St->Hp->(It->Hp->Prop)->Prop
def PIE(X:Cx)(pins:List (Addr×Obj))(σ:St)(tg:Expr)(R:It->Hp->Prop)(S:Value)(U:Shared):Prop:=
 ∃it Y Z J H',S=.ref it/\Inv X pins σ H' U/\re X.prog X.w X.K tg J Y it Z/\Z 0 U.heap/\(∀b∈Y,jJ X pins H' b)/\R J H'
def PI(X:Cx)(tg iter:Expr)(wi:TI):Prop:=
 ∀pins s (σ:St) H R,Inv X pins σ H s->wi σ H R ->
  wpAny (model X.prog X.w) X.A (eval iter X.env) (λv s1=>wpAny (model X.prog X.w) X.A (pyIter v) (PIE X pins σ tg R) X.xe s1) X.xe s
def xM{s:Shared}{tg:Expr}{it:Addr}{u:Value}{o:Obj}{n:String}{vs:Array Value}{Q:Unit->Shared->Prop}(ho:s.heap.get? it=some o)(hc:o.cls=.type n)(hd:o.data=.fields vs)
    (hn:["enumerate","zip","dict_itemiterator","dict_reverseitemiterator","odict_iterator","itertools.zip_longest","itertools.pairwise"].contains n=false) (hQ:Q () s):wpAny M A (letOwnedTupleGo tg (.ref it) u) Q E s:=by
  cases tg<;>first
    | exact ox hQ
    | (cases u<;>first
        | exact ox hQ
        | (refine j0 (wpAny_load ho ?_)
           rw[hc,hd];show wpAny M A (if (["enumerate","zip","dict_itemiterator","dict_reverseitemiterator","odict_iterator","itertools.zip_longest","itertools.pairwise"].contains n&&vs[0]?==some (rawInt _))=true then _ else _) Q E s;rw[if_neg (by intro h;rw[hn,Bool.false_and]at h;exact dD h)];exact ox hQ))
noncomputable def Itl(K:MP)(a:Addr):It:=
 ⟨λi H=>∃xs x,SqL K H a xs/\xs[i]?=some x,λi H x H'=>H'=H/\∀xs,SqL K H a xs->xs[i]?=some x,λi H=>∃xs,SqL K H a xs/\xs.length<=i⟩
noncomputable def Itt(K:MP)(a:Addr):It:=
 ⟨λi H=>∃xs x,SqT K H a xs/\xs[i]?=some x,λi H x H'=>H'=H/\∀xs,SqT K H a xs->xs[i]?=some x,λi H=>∃xs,SqT K H a xs/\xs.length<=i⟩
noncomputable def Itr(lo:Int)(n:Nat):It:=⟨λi _=>i<n,λi H x H'=>H'=H/\x=.int (lo+i),λi _=>n<=i⟩
def wk{K:MP}(a it):re P w K tg (Itl K a) [it] it (λi h=>h.IsListIter it a i) where
 mem:=by simp
 obj:=λi h st b J=>by
  refine bq st λo e c d=>?_
  simp_all
 keep:=λi h h' st k=>st.at λo e=>k it (by simp) o e
 item:=by
  intro X Z hw hK hc i pins s σ H E I U st hg;refine cw λZq kq=>?_
  subst Z hw hK;refine dc hg λxs x Y hx=>?_
  refine bq (I.list Y) λits rv p hz=>?_
  refine ag (rv.get hx) λu hu ru=>?_
  refine jE (U it (by simp)) λf0 f1 f2 f3 f4 f5=>?_
  refine kq ?_;refine wpAny_pyNext_list_item st p.isList (by simpa using hu) λh' S sb=>?_
  have I1:=I.turned (t':=s.toks) (λb o J e=>(sb.2 b J).trans e) f0 f1 f3 f4 f5;refine bq (id S) λo e c d=>?_
  exact⟨u,rfl,xM e c d (by decide) ⟨x,H,I1,ru,⟨rfl,λys hy=>by rw[I.list_inj hy Y];exact hx⟩,S,λb J=>(U b J).1⟩⟩
 done:=by
  intro X Z hw hK hc i pins s σ H E I U st hg;refine cw λZq kq=>?_
  subst Z hw hK;refine ag hg λxs Y hx=>?_
  refine bq (I.list Y) λits rv p hz=>?_
  refine jE (U it (by simp)) λf0 f1 f2 f3 f4 f5=>?_
  have hl:=rv.length;refine kq ?_;exact wpAny_pyNext_list_end (I.ok.hd hc) st p.isList (by simp;omega) λh' eb=>⟨rfl,I.turned (λb o J e=>eb b o J e) f0 f1 f3 f4 f5⟩
 self:=λ_ _ _ _ _ st h=>wpAny_pyIter_listiter st h
def tj{K:MP}(a it):re P w K tg (Itt K a) [it] it (λi h=>h.IsTupleIter it a i) where
 mem:=by simp
 obj:=λi h st b J=>by
  refine bq st λo e c d=>?_
  simp_all
 keep:=λi h h' st k=>st.at λo e=>k it (by simp) o e
 item:=by
  intro X Z hw hK hc i pins s σ H E I U st hg;refine cw λZq kq=>?_
  subst Z hw hK;refine dc hg λxs x Y hx=>?_
  refine bq (I.tuple Y) λits rv p hz=>?_
  refine ag (rv.get hx) λu hu ru=>?_
  refine jE (U it (by simp)) λf0 f1 f2 f3 f4 f5=>?_
  refine kq ?_;refine wpAny_pyNext_tuple_item st (show s.heap.IsTuple a its.toArray from p) (by simpa using hu) λh' S sb=>?_
  have I1:=I.turned (t':=s.toks) (λb o J e=>(sb.2 b J).trans e) f0 f1 f3 f4 f5;refine bq (id S) λo e c d=>?_
  exact⟨u,rfl,xM e c d (by decide) ⟨x,H,I1,ru,⟨rfl,λys hy=>by rw[I.tuple_inj hy Y];exact hx⟩,S,λb J=>(U b J).1⟩⟩
 done:=by
  intro X Z hw hK hc i pins s σ H E I U st hg;refine cw λZq kq=>?_
  subst Z hw hK;refine ag hg λxs Y hx=>?_
  refine bq (I.tuple Y) λits rv p hz=>?_
  refine jE (U it (by simp)) λf0 f1 f2 f3 f4 f5=>?_
  have hl:=rv.length;refine kq ?_;exact wpAny_pyNext_tuple_end (I.ok.hd hc) st (show s.heap.IsTuple a its.toArray from p) (by simp;omega) λh' eb=>⟨rfl,I.turned (λb o J e=>eb b o J e) f0 f1 f3 f4 f5⟩
 self:=λ_ _ _ _ _ st h=>wpAny_pyIter_tupleiter st h
def tm{K:MP}(it)(lo)(n):re P w K tg (Itr lo n) [it] it (λi h=>IsRangeIter h it (lo+(i:Nat)*1) ((n:Int)-(i:Nat)) 1) where
 mem:=by simp
 obj:=λi h st b J=>by
  simp_all
 keep:=λi h h' st k=>k it (by simp) _ st
 item:=by
  intro X hP hw hK hc i pins s σ H E I U st Y;subst hP hw hK;refine jE (U it (by simp)) λf0 Z f2 f3 f4 f5=>?_
  have W:=Walks.range (prog:=X.prog) (w:=X.w) (I.ok.hd hc) it lo 1 n;refine W.item i s _ _ Y st λv h' tk hv S kk=>?_
  obtain⟨t,rfl⟩:=hv;have I1:Inv X pins σ H { s with heap:=h',toks:=tk }:=I.turned (λb o J e=>kk b o (by simpa using J) e) f0 Z f3 f4 f5;refine⟨_,rfl,xM S rfl rfl (by decide) ⟨.int _,H,I1,⟨t,?_⟩,⟨rfl,rfl⟩,S,λb J=>(U b J).1⟩⟩;rw[Int.mul_one]
 done:=by
  intro X hP hw hK hc i pins s σ H E I U st Y;refine jE (U it (by simp)) λf0 Z f2 f3 f4 f5=>?_
  exact wpAny_pyNext_range_end (I.ok.hd hc) st (by have:n<=i:=Y;omega) λh' eb=>⟨rfl,I.turned (λb o J e=>eb b o J e) f0 Z f3 f4 f5⟩
 self:=λ_ _ _ _ _ st h=>wpAny_pyIter_rangeiter st h
section
variable{X:Cx}{tg:Expr}
noncomputable def xN(K:MP)(tl:TE):TI:=λσ H R=>tl σ H λx H1=>∃a,x=.ref a/\(∃xs,SqL K H1 a xs)/\R (Itl K a) H1
noncomputable def JG(K:MP)(tl:TE):TI:=λσ H R=>tl σ H λx H1=>∃a,x=.ref a/\(∃xs,SqT K H1 a xs)/\R (Itt K a) H1
def jK(S:PE X l tl):PI X tg l (xN X.K tl):=by
 intro pins s σ H R I h;refine thn (S pins s σ H _ I h) λv s1 ⟨x,H1,J,r1,U⟩=>?_
 obtain⟨a,e,⟨xs,Y⟩,q⟩:=U;subst e;subst r1;refine bq (J.list Y) λits rv p hz=>?_
 refine Mp p.isList ?_;refine⟨s1.heap.objs.size,[s1.heap.objs.size],_,_,H1,rfl,J.kept (t':=s1.toks) λb o e=>mu _ e,wk a _,⟨_,Kv _ rfl,rfl,rfl⟩,λb Z=>?_,q⟩;have e:b=s1.heap.objs.size:=by simpa using Z
 subst e;exact J.fpOk (pe _) (J.hok.fresh (pe _))
def xO(S:PE X l tl):PI X tg l (JG X.K tl):=by
 intro pins s σ H R I h;refine thn (S pins s σ H _ I h) λv s1 ⟨x,H1,J,r1,U⟩=>?_
 obtain⟨a,e,⟨xs,Y⟩,q⟩:=U;subst e;subst r1;refine bq (J.tuple Y) λits rv p hz=>?_
 refine Mj (show s1.heap.IsTuple a its.toArray from p) ?_;refine⟨s1.heap.objs.size,[s1.heap.objs.size],_,_,H1,rfl,J.kept λb o e=>mu _ e,tj a _,⟨_,Kv _ rfl,rfl,rfl⟩,λb Z=>?_,q⟩;have e:b=s1.heap.objs.size:=by simpa using Z
 subst e;exact J.fpOk (pe _) (J.hok.fresh (pe _))
def rg{σ:St}{H:Hp}{s:Shared}{R:It->Hp->Prop}{E:Value->Shared->Prop}{lo hi:Int}{t u v:Tok}{tk:Nat}(I:Inv X pins σ H s)(h1:-(2 ^ 62)<=lo)(h2:lo<2 ^ 62)(h3:-(2 ^ 62)<=hi)(h4:hi<2 ^ 62)
  (q:R (Itr lo (hi-lo).toNat) H):wpAny (model X.prog X.w) X.A (pyIter (.ref s.heap.objs.size)) (PIE X pins σ tg R) E { s with heap:=s.heap.push { cls:=.type "range",data:=.fields #[.int lo t,.int hi u,.int 1 v] },toks:=tk }:=by
 refine wpAny_pyIter_range (IsRange.new ..) (small_one h1 h2 h3 h4) ?_;have J:Inv X pins σ H { s with heap:=s.heap.push { cls:=.type "range",data:=.fields #[.int lo t,.int hi u,.int 1 v] },toks:=tk }:=I.kept λb o e=>mu _ e
 refine⟨(s.heap.push { cls:=.type "range",data:=.fields #[.int lo t,.int hi u,.int 1 v] }).objs.size,[(s.heap.push { cls:=.type "range",data:=.fields #[.int lo t,.int hi u,.int 1 v] }).objs.size],_,_,H,rfl,
  J.kept (t':=tk) λb o e=>mu _ e,tm _ lo (hi-lo).toNat,?_,λb S=>?_,q⟩
 .have U:lo+((0:Nat):Int)*1=lo:=by simp
  have Y:(((hi-lo).toNat:Nat):Int)-((0:Nat):Int)=Builtin.Range.rangeSize lo hi 1:=by rw[rangeSize_one];split<;>omega
  show IsRangeIter _ _ (lo+((0:Nat):Int)*1) ((((hi-lo).toNat:Nat):Int)-((0:Nat):Int)) 1;rw[U,Y];exact Kv _ rfl
 .have e:b=(s.heap.push { cls:=.type "range",data:=.fields #[.int lo t,.int hi u,.int 1 v] }).objs.size:=by simpa using S
  subst e;exact J.fpOk (pe _) (J.hok.fresh (pe _))
noncomputable def Cv(ta:TA):TI:=λσ H R=>ta σ H λvs H1=>∃j,vs=[.int j]/\-(2 ^ 62)<=j/\j<2 ^ 62/\R (Itr 0 j.toNat) H1
noncomputable def GO(ta:TA):TI:=λσ H R=>ta σ H λvs H1=>∃i j,vs=[.int i,.int j]/\(-(2 ^ 62)<=i/\i<2 ^ 62/\-(2 ^ 62)<=j/\j<2 ^ 62)/\R (Itr i (j-i).toNat) H1
def oG (S:Gl X "range") (hm:X.mg "range"=none) (ha:PA X [a] ta) (U:starEach [a] X.env=[(false,eval a X.env)]:=by rfl):PI X tg (.Call (.Name "range" p) [a] [] pos) (Cv ta):=by
 intro pins s σ H R I h;refine Call_ (kT I S hm boot_range (Lq (thn (ha pos pins s σ H _ I h) λus s1 Y=>au Y λvs H1 Z r1 J=>?_) U rfl));obtain⟨j,e,J,q2,q⟩:=J;subst e;cases r1 with
 |cons r rr =>
  cases rr;obtain⟨t,rfl⟩:=r;exact call_range_1 (rg Z (by decide) (by decide) J q2 (by simpa using q))
def wl (U:Gl X "range") (hm:X.mg "range"=none) (ha:PA X [a,b] ta) (Y:starEach [a,b] X.env=[(false,eval a X.env),(false,eval b X.env)]:=by rfl) (J:starEach [b] X.env=[(false,eval b X.env)]:=by rfl) :
  PI X tg (.Call (.Name "range" p) [a,b] [] pos) (GO ta):=by
 intro pins s σ H R I h;refine Call_ (kT I U hm boot_range (Lq (thn (ha pos pins s σ H _ I h) λus s1 Z=>au Z λvs H1 I1 r1 S=>?_) (by rw[Y,J]) (by rw[J];rfl)));obtain⟨i,j,e,⟨S,q2,q3,q4⟩,q⟩:=S;subst e;cases r1 with
 |cons r rr =>
  cases rr with
  |cons r' rr =>
   cases rr;obtain⟨t,rfl⟩:=r;obtain⟨t',rfl⟩:=r';exact call_range_2 (rg I1 S q2 q3 q4 q)
noncomputable def wo(wi:TI)(g:TG)(tb:TS):TS:=λD σ H=>wi σ H λJ H1=>∃W:Nat->Nat->St->Hp->Prop,(∃m,W 0 m σ H1)/\∀i m σ H,W i m σ H ->
 (J.stop i H/\D.nx σ H)\/(J.go i H/\∃N,(∀S H',N S H'->∃Y,Y<m/\W (i+1) Y S H')/\∀x H',J.yld i H x H'->g x σ H' λU H2=>tb { D with nx:=N,ct:=N,bk:=D.nx } U H2)
noncomputable def mE(J:List Addr)(h:Heap):List (Addr×Obj):=J.filterMap λb=>(h.get? b).map λo=>(b,o)
def g6(J:b∈S)(e:h.get? b=some o):(b,o)∈mE S h:=mem_filterMap.mpr ⟨b,J,by rw[e];rfl⟩
def wq(J:p∈mE S h):p.1∈S/\h.get? p.1=some p.2:=by
 refine ag (mem_filterMap.mp J) λb U e=>?_
 cases q:h.get? b with
 |none=>rw[q]at e;exact bn e
 |some o =>
  rw[q]at e;have Y:=uW e;subst Y;exact⟨U,q⟩
def Inv.pinned(I:Inv X pins σ H s)(U:∀b∈J,jJ X pins H b)(Y:∀b∈J,∃o,s.heap.get? b=some o/\∀v,o.data≠.cell v):Inv X (pins++mE J s.heap) σ H s:=
 I.pins_of λp Z=>(Mt.mp Z).elim (λz=>I.pin p (K5 _ z)) λz=>by
  obtain⟨S,e⟩:=wq z;refine gE (U p.1 S) λf0 f1 f2 _=>?_
  refine ag (Y p.1 S) λo e' d=>?_
  simp_all
def Inv.unpinned(I:Inv X (pins++pl) σ H s):Inv X pins σ H s:=I.pins_of λp J=>I.pin p (K5 _ (mem_append_left _ J))
def mF{iter:Expr}(hp:PassesOwn (model X.prog X.w) X.A X.env X.xe)(hc:X.calm=true)(hi:PI X tg iter wi)(hg:PG X tg g)(U:PSs X body tb)(hs:∀x,foldedSetIterable iter X.env x=pure x:=by intro _;rfl):PS X (.For tg iter body [] pos) (wo wi g tb):=by
 intro pins s σ H D I h;refine wpAny_For (thn (hi pins s σ H _ I h) λv s1 h1=>thn h1 λb5 s2 h2=>?_) hs;refine cw λZq kq=>?_
 obtain⟨it,fp,tn,J,H2,e,I2,T,a6,f2,W,⟨m0,w0⟩,turn⟩:=h2;subst e;have Y:∀{H'},(∀b∈fp,H' b=none)->∀b∈fp,jJ X pins H' b:=λhn b U=>⟨hn b U,(f2 b U).2⟩
 refine kq ?_;refine codeAny_forLoop_any (λn s'=>∃i Z H',Inv X pins Z H' s'/\tn i s'.heap/\(∀b∈fp,H' b=none)/\W i n Z H') ?_ m0 ⟨0,σ,H2,I2,a6,λb U=>(f2 b U).1,w0⟩;rintro n s3 ⟨i,ao,H3,I3,a3,a4,w3⟩;rcases turn i n ao H3 w3 with⟨stop,qn⟩|⟨go,N,hN,step⟩
 .refine Ls hp (thn (T.done X rfl rfl rfl hc i pins s3 ao H3 X.xe I3 (Y a4) a3 stop) λr s4 hq=>qT hq λhr I4=>?_);subst hr;exact Md ⟨ao,H3,I4,qn⟩
 .refine Ls hp (thn (T.item X rfl rfl rfl hc i pins s3 ao H3 X.xe I3 (Y a4) a3 go) λr s4 hq=>ag hq λu hr h4=>?_);subst hr;refine Ls hp (thn h4 λ_ s5 hq=>uT hq λx H5 I5 r5 y5 aP bK=>?_);have bO:=I5.pinned (Y bK) (T.obj _ _ aP);refine Ls hp (thn (hg _ s5 ao H5 x u _ bO r5 (step x H5 y5)) λ_ s6 hq=>dc hq λbP H6 I6 q6=>?_);refine Ls hp (thn (U _ s6 bP H6 _ I6 q6) λf s7 q7=>?_);have again:∀{S}{H7},Inv X (pins++mE fp s5.heap) S H7 s7->N S H7->∃m,m<n/\∃i Z H',Inv X pins Z H' s7/\tn i s7.heap/\(∀b∈fp,H' b=none)/\W i m Z H':=λ{S H7} I7 n7=>by
   refine ag (hN S H7 n7) λm' hm w7=>?_
   refine⟨m',hm,i+1,S,H7,I7.unpinned,T.keep _ _ _ aP λb U o e=>(I7.pin (b,o) (K5 _ (K5 _ (g6 U e)))).1,λb U=>?_,w7⟩;refine ag (T.obj _ _ aP b U) λo e d=>?_
   exact(I7.pin (b,o) (K5 _ (K5 _ (g6 U e)))).2.1
  cases f<;>first|(obtain⟨S,H7,I7,n7⟩:=q7;exact again I7 n7)|(obtain⟨S,H7,I7,q7⟩:=q7;exact⟨S,H7,I7.unpinned,q7⟩)|(obtain⟨x7,S,H7,I7,r7,q7⟩:=q7;exact⟨x7,S,H7,I7.unpinned,r7,q7⟩)
end
noncomputable abbrev R2:=V->V->Hp->VK->Prop
def OpR(X:Cx)(f:Value->Value->Sem Value)(r:R2):Prop:=
 ∀pins s (σ:St) H x y v u Q,Inv X pins σ H s->aF x v->aF y u->r x y H Q ->
  wpAny (model X.prog X.w) X.A (f v u) (EP X pins σ Q) X.xe s
def UnR(X:Cx)(f:Value->Sem Value)(r:V->Hp->VK->Prop):Prop:=
 ∀(pins:List (Addr×Obj)) (s:Shared) (σ:St) (H:Hp) (x:V) (v:Value) (Q:VK),Inv X pins σ H s->aF x v->r x H Q ->
  wpAny (model X.prog X.w) X.A (f v) (EP X pins σ Q) X.xe s
def dy(X:Cx)(f:Value)(r:List V->Hp->VK->Prop):Prop:=
 ∀pins s (σ:St) H xs us Q,Inv X pins σ H s->aN xs us->r xs H Q ->
  wpAny (model X.prog X.w) X.A (call f us) (EP X pins σ Q) X.xe s
noncomputable def tOp(r:R2)(ta tb:TE):TE:=λσ H Q=>ta σ H λx H1=>tb σ H1 λy H2=>r x y H2 Q
noncomputable def tUn(r:V->Hp->VK->Prop)(ta:TE):TE:=λσ H Q=>ta σ H λx H1=>r x H1 Q
noncomputable def rI(C:Int->Int->Prop)(g:Int->Int->V):R2:=λx y H Q=>∃i j,x=.int i/\y=.int j/\C i j/\Q (g i j) H
noncomputable def rI0(g:Int->Int->V):R2:=λx y H Q=>∃i j,x=.int i/\y=.int j/\Q (g i j) H
def rU(g:Int->V):V->Hp->VK->Prop:=λx H Q=>∃i,x=.int i/\Q (g i) H
section
variable{X:Cx}{a b c:Expr}{ta tb tc:TE}{pos:Pos}
def DM(ha:PE X a ta)(Z:PE X b tb){R:V->V->Hp->Prop}(I:Inv X pins σ H s)
  (h:ta σ H λx H1=>tb σ H1 λy H2=>R x y H2) {f:Value->Value->Sem Value}
  (hf:∀v u U x y H2,Inv X pins σ H2 U->aF x v->aF y u->R x y H2->wpAny (model X.prog X.w) X.A (f v u) Q X.xe U) :
  wpAny (model X.prog X.w) X.A (eval a X.env) (λv J=>wpAny (model X.prog X.w) X.A (eval b X.env) (λu S=>wpAny (model X.prog X.w) X.A (f v u) Q X.xe S) X.xe J) X.xe s:=by
 refine thn (ha pins s σ H _ I h) λv s1 Y=>au Y λx H1 I1 r1 q1=>?_
 refine thn (Z pins s1 σ H1 _ I1 q1) λu U Y=>au Y λy H2 I2 r2 q2=>?_
 exact hf v u U x y H2 I2 r1 r2 q2
def Cw(J:OpR X (binaryOp op) r)(ha:PE X a ta)(S:PE X b tb):PE X (.BinOp a op b pos) (tOp r ta tb):=by
 intro pins s σ H Q I h;exact wpAny_BinOp (DM ha S I h λv u U x y H2 Y Z ry q=>J pins U σ H2 x y v u Q Y Z ry q)
def GP{op:UnaryOp}{r:V->Hp->VK->Prop}(J:UnR X (unaryOp op) r)(ha:PE X a ta):PE X (.UnaryOp op a pos) (tUn r ta):=by
 intro pins s σ H Q I h;exact UnaryOp_ (thn (ha pins s σ H _ I h) λv s1 ⟨x,H1,S,r1,U⟩=>J pins s1 σ H1 x v Q S r1 U)
def opI{C:Int->Int->Prop}{g:Int->Int->Int}
  (rule:∀i j t u s Q E,C i j->Q (.int (g i j) s.toks) { s with toks:=s.toks+1 }->wpAny (model X.prog X.w) X.A (f (.int i t) (.int j u)) Q E s) :
  OpR X f (rI C λi j=>.int (g i j)):=by
 intro pins s σ H x y v u Q I U Y h;refine jF h λi j J S hc q=>?_
 subst J;subst S;obtain⟨t,rfl⟩:=U;obtain⟨t',rfl⟩:=Y;exact rule i j t t' s _ _ hc ⟨.int (g i j),H,I.tok _,⟨_,rfl⟩,q⟩
def GQ{g:Int->Int->Int}
  (rule:∀i j t u s Q E,Q (.int (g i j) s.toks) { s with toks:=s.toks+1 }->wpAny (model X.prog X.w) X.A (f (.int i t) (.int j u)) Q E s) :
  OpR X f (rI0 λi j=>.int (g i j)):=by
 intro pins s σ H x y v u Q I U Y h;refine au h λi j J S q=>?_
 subst J;subst S;obtain⟨t,rfl⟩:=U;obtain⟨t',rfl⟩:=Y;exact rule i j t t' s _ _ ⟨.int _,H,I.tok _,⟨_,rfl⟩,q⟩
def AQ{g:Int->Int->Bool}
  (rule:∀i j t u s Q E,Q (.bool (g i j)) s->wpAny (model X.prog X.w) X.A (f (.int i t) (.int j u)) Q E s) :
  OpR X f (rI0 λi j=>.bl (g i j)):=by
 intro pins s σ H x y v u Q I U Y h;refine au h λi j J S q=>?_
 subst J;subst S;obtain⟨t,rfl⟩:=U;obtain⟨t',rfl⟩:=Y;exact rule i j t t' s _ _ ⟨.bl _,H,I,rfl,q⟩
def JH(i j:Int):Prop:=0<j/\j<1073741824
def JI(i j:Int):Prop:=0<=j/\j<=1000000/\i.natAbs<2 ^ 64
def DN(i j:Int):Prop:=(-(2 ^ 64)<i/\i<2 ^ 64)\/(-(2 ^ 64)<j/\j<2 ^ 64)
theorem DN.ok(h:DN i j):IntMulOk i j:=by
 rcases h with⟨h1,h2⟩|⟨h1,h2⟩
 .exact .of_left (intBits_le_64 h1 h2)
 .exact .of_right (intBits_le_64 h1 h2)
def tq(k):(0:Int)<=2 ^ k:=
  Int.natCast_nonneg _
def DQ:OpR X (binaryOp .Add) (rI0 λi j=>.int (i+j)):=GQ λ_ _ _ _ _ _ _ q=>add_int q
def DS:OpR X (binaryOp .Sub) (rI0 λi j=>.int (i-j)):=GQ λ_ _ _ _ _ _ _ q=>sub_int q
def DU:OpR X (binaryOp .Mult) (rI DN λi j=>.int (i*j)):=opI λ_ _ _ _ _ _ _ hc q=>mul_int q hc.ok
def AR:OpR X (binaryOp .FloorDiv) (rI JH λi j=>.int (i / j)):=opI λi j _ _ _ _ _ hc q=>by
 have h1:=hc.1;have h2:=hc.2;exact floordiv_int (Int.ne_of_gt ‹_›) (by rw[Mo i (Mz ‹_›)];exact q) (.inl (PyProof.noPylong_small (by omega)))
def xP:OpR X (binaryOp .Mod) (rI (λ_ j=>0<j) λi j=>.int (i % j)):=opI λi j _ _ _ _ _ hc q=>by
 exact mod_int' (Int.ne_of_gt ‹_›) (by rw[Int.fmod_eq_emod_of_nonneg i (Mz ‹_›)];exact q)
def DV:OpR X (binaryOp .Pow) (rI JI λi j=>.int (i ^ j.toNat)):=opI λ_ _ _ _ _ _ _ hc q=>pow_int_small hc.1 hc.2.1 hc.2.2 q
def DZ:OpR X (binaryOp .RShift) (rI (λ_ j=>0<=j) λi j=>.int (i / 2 ^ j.toNat)):=opI λi j _ _ _ _ _ hc q =>
 rshift_int hc (by rw[Mo i (tq _)];exact q)
def unI{f:Value->Sem Value}{g:Int->Int}
  (rule:∀(i:Int) (t:Tok) (s:Shared) (Q:Value->Shared->Prop) (E:Value->Shared->Prop),Q (.int (g i) s.toks) { s with toks:=s.toks+1 }->wpAny (model X.prog X.w) X.A (f (.int i t)) Q E s) :
  UnR X f (rU λi=>.int (g i)):=by
 intro pins s σ H x v Q I J h;obtain⟨i,rfl,q⟩:=h;obtain⟨t,rfl⟩:=J;exact rule i t s _ _ ⟨.int (g i),H,I.tok _,⟨_,rfl⟩,q⟩
def D_:UnR X (unaryOp .USub) (rU λi=>.int (-i)):=unI λ_ _ _ _ _ q=>neg_int q
end
noncomputable def scal:V->V->Bool
 | .non,.non=>true|.non,.int _=>true|.int _,.non=>true|.non,.bl _=>true|.bl _,.non=>true|.non,.str _=>true|.str _,.non=>true
 | .int _,.int _=>true|.bl _,.bl _=>true|.str _,.str _=>true|.byt _,.byt _=>true
 | .int _,.str _=>true|.str _,.int _=>true|.bl _,.str _=>true|.str _,.bl _=>true
 | _,_=>false
noncomputable def rEq:R2:=λx y H Q=>scal x y=true/\Q (.bl (decide (x=y))) H
noncomputable def rNe:R2:=λx y H Q=>scal x y=true/\Q (.bl (!decide (x=y))) H
def pM :decide (V.int i=V.int j)=(i==j):=by
 rw[K8];simp
def tu :decide (V.bl i=V.bl j)=(i==j):=by
 rw[K8];simp
def l_ :decide (V.str i=V.str j)=(i==j):=by
 rw[K8];simp
def uY :decide (V.byt i=V.byt j)=(i.toList==j.toList):=by
 rw[K8];cases i;cases j;simp
section
variable{X:Cx}{a b c:Expr}{ta tb tc:TE}{pos:Pos}
def bb{σ:St}{H:Hp}{s:Shared}{Q:VK}{k J:Bool}(I:Inv X pins σ H s)(q:Q (.bl k) H)(e:k=J):EP X pins σ Q (.bool J) s:=by
 subst e;exact⟨.bl k,H,I,rfl,q⟩
def GR:OpR X (compareOp .Eq) rEq:=by
 intro pins s σ H x y v u Q I U J h;obtain⟨S,q⟩:=h;cases x with
 |non =>
  cases U;cases y with
  |non=>cases J;exact PySem.EqNone.eq_none_none (bb I q (by simp))
  |bl j=>cases J;exact PySem.EqNone.eq_none_bool (bb I q (by simp))
  |int j=>obtain⟨t',rfl⟩:=J;exact PySem.EqNone.eq_none_int (bb I q (by simp))
  |str j=>obtain⟨t',rfl⟩:=J;exact PySem.EqNone.eq_none_str (bb I q (by simp))
  | _=>exact absurd (show false=true from S) kn
 |bl i =>
  cases U;cases y with
  |non=>cases J;exact PySem.EqNone.eq_bool_none (bb I q (by simp))
  |bl j=>cases J;exact eq_bool (bb I q tu)
  |str j=>obtain⟨t',rfl⟩:=J;exact PySem.EqMixed.eq_bool_str (bb I q (by simp))
  | _=>exact absurd (show false=true from S) kn
 |int i =>
  obtain⟨t,rfl⟩:=U;cases y with
  |non=>cases J;exact PySem.EqNone.eq_int_none (bb I q (by simp))
  |int j=>obtain⟨t',rfl⟩:=J;exact eq_int (bb I q pM)
  |str j=>obtain⟨t',rfl⟩:=J;exact PySem.EqMixed.eq_int_str (bb I q (by simp))
  | _=>exact absurd (show false=true from S) kn
 |str i =>
  obtain⟨t,rfl⟩:=U;cases y with
  |non=>cases J;exact PySem.EqNone.eq_str_none (bb I q (by simp))
  |bl j=>cases J;exact PySem.EqMixed.eq_str_bool (bb I q (by simp))
  |int j=>obtain⟨t',rfl⟩:=J;exact PySem.EqMixed.eq_str_int (bb I q (by simp))
  |str j=>obtain⟨t',rfl⟩:=J;exact eq_str (bb I q l_)
  | _=>exact absurd (show false=true from S) kn
 |byt i =>
  obtain⟨t,rfl⟩:=U;cases y with
  |byt j=>obtain⟨t',rfl⟩:=J;exact PySem.W.eq_bytes (bb I q uY)
  | _=>exact absurd (show false=true from S) kn
 | _=>cases y<;>exact absurd (show false=true from S) kn
def Cy:OpR X (compareOp .NotEq) rNe:=by
 intro pins s σ H x y v u Q I U J h;obtain⟨S,q⟩:=h;cases x with
 |non =>
  cases U;cases y with
  |non=>cases J;exact PySem.EqNone.ne_none_none (bb I q (by simp))
  |bl j=>cases J;exact PySem.EqNone.ne_none_bool (bb I q (by simp))
  |int j=>obtain⟨t',rfl⟩:=J;exact PySem.EqNone.ne_none_int (bb I q (by simp))
  |str j=>obtain⟨t',rfl⟩:=J;exact PySem.EqNone.ne_none_str (bb I q (by simp))
  | _=>exact absurd (show false=true from S) kn
 |bl i =>
  cases U;cases y with
  |non=>cases J;exact PySem.EqNone.ne_bool_none (bb I q (by simp))
  |bl j=>cases J;exact ne_bool (bb I q (Lg not tu))
  |str j=>obtain⟨t',rfl⟩:=J;exact PySem.EqMixed.ne_bool_str (bb I q (by simp))
  | _=>exact absurd (show false=true from S) kn
 |int i =>
  obtain⟨t,rfl⟩:=U;cases y with
  |non=>cases J;exact PySem.EqNone.ne_int_none (bb I q rfl)
  |int j=>obtain⟨t',rfl⟩:=J;exact ne_int (bb I q (Lg not pM))
  |str j=>obtain⟨t',rfl⟩:=J;exact PySem.EqMixed.ne_int_str (bb I q rfl)
  | _=>exact absurd (show false=true from S) kn
 |str i =>
  obtain⟨t,rfl⟩:=U;cases y with
  |non=>cases J;exact PySem.EqNone.ne_str_none (bb I q rfl)
  |bl j=>cases J;exact PySem.EqMixed.ne_str_bool (bb I q rfl)
  |int j=>obtain⟨t',rfl⟩:=J;exact PySem.EqMixed.ne_str_int (bb I q rfl)
  |str j=>obtain⟨t',rfl⟩:=J;exact ne_str (bb I q (Lg not l_))
  | _=>exact absurd (show false=true from S) kn
 |byt i =>
  obtain⟨t,rfl⟩:=U;cases y with
  |byt j=>obtain⟨t',rfl⟩:=J;exact PySem.W.ne_bytes (bb I q (Lg not uY))
  | _=>exact absurd (show false=true from S) kn
 | _=>cases y<;>exact absurd (show false=true from S) kn
def GS:OpR X (compareOp .Lt) (rI0 λi j=>.bl (decide (i<j))):=AQ λ_ _ _ _ _ _ _ q=>lt_int q
def GT:OpR X (compareOp .LtE) (rI0 λi j=>.bl (decide (i<=j))):=AQ λ_ _ _ _ _ _ _ q=>le_int q
def GU:OpR X (compareOp .Gt) (rI0 λi j=>.bl (decide (j<i))):=AQ λ_ _ _ _ _ _ _ q=>gt_int q
def Cz:OpR X (compareOp .GtE) (rI0 λi j=>.bl (decide (j<=i))):=AQ λ_ _ _ _ _ _ _ q=>ge_int q
def Ea:OpR X (compareOp .Is) (λx y H Q=>y=.non/\Q (.bl (decide (x=.non))) H):=by
 intro pins s σ H x y v u Q I J S h;obtain⟨rfl,q⟩:=h;subst S;refine is_none_gen (bb I q ?_);cases x<;>first
  | (subst J;rfl)
  | (obtain⟨t,rfl⟩:=J;rfl)
def uZ:OpR X (compareOp .IsNot) (λx y H Q=>y=.non/\Q (.bl (!decide (x=.non))) H):=by
 intro pins s σ H x y v u Q I J S h;obtain⟨rfl,q⟩:=h;subst S;refine isnot_none_gen (bb I q ?_);cases x<;>first
  | (subst J;rfl)
  | (obtain⟨t,rfl⟩:=J;rfl)
def pN(b){op:CmpOp}(h:op≠.In:=by decide)(h2:op≠.NotIn:=by decide):behindInMarks op b=false:=by
 have J:(op==CmpOp.In)=false:=by cases op<;>first|rfl|exact absurd rfl h
 have S:(op==CmpOp.NotIn)=false:=by cases op<;>first|rfl|exact absurd rfl h2
 cases b<;>simp[behindInMarks,J,S]
def u_(J:OpR X (compareOp op) r)(ha:PE X a ta)(S:PE X b tb)(hm:behindInMarks op b=false):PE X (.Compare a [op] [b] pos) (tOp r ta tb):=by
 intro pins s σ H Q I h;exact wpAny_Compare1 (DM ha S I h λv u U x y H2 Y Z ry q=>J pins U σ H2 x y v u Q Y Z ry q) hm
noncomputable def rj(t:TE):TT:=λσ H Q=>t σ H λx H'=>∃k,x=.bl k/\Q k H'
def iQ(J:OpR X (compareOp op) r)(ha:PE X a ta)(S:PE X b tb)(hm:behindInMarks op b=false):PT X (.Compare a [op] [b] pos) (rj (tOp r ta tb)):=by
 intro pins s σ H Q I h;refine wpAny_isTrue_Compare1 (thn (ha pins s σ H _ I h) λv s1 U=>au U λx H1 Y r1 Z=>thn (S pins s1 σ H1 _ Y Z) λu s2 ⟨y,H2,I2,r2,q2⟩ =>
  thn (J pins s2 σ H2 x y v u _ I2 r1 r2 q2) λc s3 ⟨z,H3,I3,r3,k,e,q3⟩=>?_) hm
 subst e;subst r3;exact KZ ⟨H3,I3,q3⟩
noncomputable def xQ(r S:R2)(ta tb tc:TE):TE:=λσ H Q=>ta σ H λx H1=>tb σ H1 λy H2=>r x y H2 λz J=>∃k,z=.bl k /\
 (if k=true then tc σ J λU Y=>S y U Y Q else Q (.bl false) J)
def xR(ho:OpR X (compareOp op) r)(S:OpR X (compareOp J) r')(ha:PE X a ta)(hb:PE X b tb)(hc:PE X c tc)
  (hm:lastMarks [op,J] [b,c]=false:=by with_unfolding_all rfl):PE X (.Compare a [op,J] [b,c] pos) (xQ r r' ta tb tc):=by
 intro pins s σ H Q I h;refine Compare_chain (thn (ha pins s σ H _ I h) λv s1 U=>au U λx H1 I1 r1 q1=>chain_link (thn (hb pins s1 σ H1 _ I1 q1) λu s2 ⟨y,H2,I2,r2,q2⟩ =>
  thn (ho pins s2 σ H2 x y v u _ I2 r1 r2 q2) λd s3 ⟨z,Y,Z,r3,k,e,q3⟩=>?_)) hm
 subst e;subst r3;refine KZ ?_;cases k with
 |false=>exact ite_ff ⟨.bl false,Y,Z,rfl,q3⟩
 |true=>exact ite_tt (chain_last (thn (hc pins s3 σ Y _ Z q3) λw' s4 U=>au U λz' H4 I4 r4 q4=>S pins s4 σ H4 y z' u w' Q I4 r2 r4 q4))
def xS(ho:OpR X (compareOp op) r)(S:OpR X (compareOp J) r')(ha:PE X a ta)(hb:PE X b tb)(hc:PE X c tc)
  (hm:lastMarks [op,J] [b,c]=false:=by with_unfolding_all rfl):PT X (.Compare a [op,J] [b,c] pos) (rj (xQ r r' ta tb tc)):=by
 intro pins s σ H Q I h;refine isTrue_chain (thn (ha pins s σ H _ I h) λv s1 hq=>au hq λx H1 I1 r1 q1=>test_link (thn (hb pins s1 σ H1 _ I1 q1) λu s2 ⟨y,H2,I2,r2,q2⟩ =>
  thn (ho pins s2 σ H2 x y v u _ I2 r1 r2 q2) λd s3 ⟨z,U,Y,r3,k,e,Z⟩=>?_)) hm
 subst e;subst r3;refine KZ ?_;cases k with
 |false =>
  refine ag Z λk' e' q'=>?_
  cases e';exact ite_ff ⟨U,Y,q'⟩
 |true =>
  refine ite_tt (test_last (thn (hc pins s3 σ U _ Y Z) λw' s4 ⟨z',H4,I4,r4,q4⟩=>thn (S pins s4 σ H4 y z' u w' _ I4 r2 r4 q4) λd' s5 ⟨z2,H5,I5,r5,k2,e2,q5⟩=>?_));subst e2;subst r5;exact KZ ⟨H5,I5,q5⟩
def kU:(sizeLine:Nat)<2 ^ 63:=by simp_all [K7]
def tz:OpR X (binaryOp .Add) (λx y H Q=>∃i j,x=.str i/\y=.str j/\i.length+j.length<=sizeLine/\Q (.str (i++j)) H):=by
 intro pins s σ H x y v u Q I U Y h;refine jF h λi j J S hz q=>?_
 subst J;subst S;obtain⟨t,rfl⟩:=U;obtain⟨t',rfl⟩:=Y;exact add_str (λt' tk=>⟨.str _,H,I.tok _,⟨_,rfl⟩,q⟩) hz
def jL(r:aN [x] us):∃u,us=[u]/\aF x u:=by
 cases r with
 |cons r1 r2=>cases r2;exact⟨_,rfl,r1⟩
def GV(r:aN [x,y] us):∃u J,us=[u,J]/\aF x u/\aF y J:=by
 cases r with
 |cons r1 r2 =>
  cases r2 with
  |cons S U=>cases U;exact⟨_,_,rfl,r1,S⟩
end
structure tD(h:Heap)(x dx C:Addr)(mA:Str->Option Value):Prop where
 obj:h.get? x=some (PySem.W.instObj C dx)
 ns:h.Ns1 dx mA
 ne:dx≠x
def wr{h:Heap}(n:h.Ns1 dx mA):∃S,h.get? dx=some S/\∀name,PySem.W.lookIn name S=some (mA name):=by
 refine oC n λo es ep U hd Y _ hm=>?_
 refine⟨o,U,λname=>?_⟩;have e:=hm name;unfold nsFind findBy at e;rw[<- Array.find?_toList]at e;unfold PySem.W.lookIn;rw[hd];dsimp only;split
 .rename_i y q;rw[q]at e;exact Lg some e
 .rename_i q;rw[q]at e;have a:es.toList.any (·.refKey)=false:=by
   rw[Mq];intro y Z;refine oB (Y y (Array.mem_toList_iff.mp Z)) λz t J=>?_
   simp[DictEntry.refKey,J]
  have a':¬ es.toList.any (·.refKey)=true:=by rw[a];exact kn
  rw[if_neg a'];exact Lg some e
def tD.look(I:tD h x dx C mA):∃J,PySem.W.InstAt h x (PySem.W.instObj C dx) C (some J)/\∀name,PySem.W.lookIn name J=some (mA name):=
 let ⟨J,S,U⟩:=wr I.ns
 ⟨J,⟨I.obj,rfl,rfl,S⟩,U⟩
section
variable{prog:Program}{w:World}{A:Around}{E:Value->Shared->Prop}{s:Shared}{K:MP}{x dx C f:Addr}{mA:Str->Option Value}{name:Str}{v:Value}
def AS{Q:Value->Shared->Prop}(X:K.In s.heap)(I:tD s.heap x dx C mA)(U:PySem.W.plainGet K C name=true)(Y:PySem.W.hasDictIn K C=true)
  (ha:PySem.W.findIn K (.ref C) name=some none) (Z:mA name=some v) (S:PySem.W.handedIn v=true) (h:Q v { s with toks:=s.toks+1 }) :
  wpAny (model prog w) A (getAttr (.ref x) name expr) Q E s:=by
 refine ag I.look λod J hl=>?_
 exact PySem.W.get_value X J (PySem.W.plainGet_of U).1 (PySem.W.findObj_own Y ha rfl (by rw[hl,Z])) S h
def xT{Q:Value×List Value->Shared->Prop}(X:K.In s.heap)(I:tD s.heap x dx C mA)(S:PySem.W.plainGet K C name=true)
  (U:PySem.W.findIn K (.ref C) name=some (some (.ref f))) (ht:PySem.W.isFn K (.ref f)=true) (Y:mA name=none) (h:Q (.ref f,[.ref x]) s) :
  wpAny (model prog w) A (getMethod (.ref x) name pl) Q E s:=by
 refine ag I.look λZ J hl=>?_
 exact PySem.W.method_fn X J (PySem.W.plainGet_of S).1 (PySem.W.plainGet_of S).2 U (Kt.mp ht) (by show(PySem.W.lookIn name Z).map (·.isSome)=some false;rw[hl,Y];rfl) h
def AT(X:K.In s.heap)(I:tD s.heap x dx C mA)
  (hs:PySem.W.findIn K (.ref C) "__setattr__"=some (some (.builtin "object.__setattr__"))) (hp:PySem.W.plainOver K C=true) (ht:PySem.W.takerIn K C name=some none) (hh:PySem.W.hasDictIn K C=true)
  (hw:PySem.Within mA ns) (a0:ns.length<=sizeLine)
  (h:∀h',tD h' x dx C (λy=>if y=name then some v else mA y)->Heap.SameBut dx s.heap h'->Q () { s with heap:=h',toks:=s.toks+2 }) :
  wpAny (model prog w) A (setAttr (.ref x) name v) Q E s:=by
 refine ag I.look λod J hl=>?_
 refine PySem.W.set_plain X J hs (PySem.W.osa_open (s:={ s with toks:=s.toks+1 }) (r:=none) X J hp ht λb=>?_);refine ag (PySem.W.any_some hh) λcd hc Y=>?_
 have hx:=I.obj;refine j0 (ox (j0 (j0 (wpAny_loadPart hx (j0 (PySem.W.Looks.here (s:={ s with toks:=s.toks+1 }) (PySem.W.looks_clsIn X hc) ?_))))));rw[Y];refine ox (a:=some dx) (j0 (ox (j0 ?_)));refine wpAny_nsSet1 (s:={ s with toks:=s.toks+1 }) I.ns λh' S U=>?_
 refine uU (S.count (PySem.Within.cons name v hw)) λoD a2 a3 Z ao ar=>?_
 refine j0 (wpAny_lookBehind Z (by rw[ao];exact pastItsLine_dict (xw ar (by rw[length_cons];exact(Mr ‹_›)))) ?_);exact ox (h _ ⟨(U.2 _ (Ku I.ne)).trans I.obj,S,I.ne⟩ U)
def xU(X:K.In s.heap)(hm:PySem.W.makesIn K C=true)
  (hi:PySem.W.findIn K (.ref C) "__init__"=some (some (.ref f))) (J:PySem.W.typeIn K (.ref f)=some (.type "function"))
  (h:codeAny (model prog w) (A.under (.builtin "type.__call__" ⟨.ref C::vs,kw⟩)) (.call (.ref f) ⟨.ref (s.heap.objs.size+1)::vs,kw⟩) (PySem.W.InitBack (s.heap.objs.size+1) R)
   { s with heap:=(s.heap.push PySem.W.emptyDict).push (PySem.W.instObj C s.heap.objs.size) }) :
  codeAny (model prog w) A (.call (.ref C) ⟨vs,kw⟩) R s:=by
 obtain⟨S,g,d,t,os⟩:=s;exact PySem.W.make_core (PySem.W.makes_of X hm) (PySem.W.looks_findIn X hi) (λself=>PySem.W.bind_fn X self J) (.inl rfl) h
end
noncomputable def dE(f:Str)(v:V):List (Str×V)->List (Str×V)
 | []=>[(f,v)]
 | (g,x)::r=>if g=f then(g,v)::r else(g,x)::dE f v r
theorem a8(f g)(v):∀fs,(dE f v fs).lookup g=if g=f then some v else fs.lookup g
 | []=>by
  show List.lookup g [(f,v)]=_;by_cases h:g=f
  .have J:=Kt.mpr h;simp only[List.lookup,J,if_pos h]
  .have J:=KR.mpr h;simp only[List.lookup,J,if_neg h]
 | (k,x)::r=>by
  have ih:=a8 f g v r;rw[show dE f v ((k,x)::r)=(if k=f then(k,v)::r else(k,x)::dE f v r)from rfl];by_cases S:k=f
  .rw[if_pos S];by_cases h:g=k
   .have J:=Kt.mpr h;simp only[List.lookup,J,if_pos (h.trans S)]
   .have J:=KR.mpr h;simp only[List.lookup,J,if_neg (λe:g=f=>h (e.trans S.symm))]
  .rw[if_neg S];by_cases h:g=k
   .have J:=Kt.mpr h;simp only[List.lookup,J,if_neg (λe:g=f=>S (h.symm.trans e))]
   .have J:=KR.mpr h;simp only[List.lookup,J];exact ih
theorem kX(f)(v):∀fs,f∈(dE f v fs).map (·.1)/\∀g,g∈fs.map (·.1)->g∈(dE f v fs).map (·.1)
 | []=>⟨by simp[dE],λg h=>by simp at h⟩
 | (k,x)::r=>by
  obtain⟨S,U⟩:=kX f v r;rw[show dE f v ((k,x)::r)=(if k=f then(k,v)::r else(k,x)::dE f v r)from rfl];by_cases J:k=f
  .rw[if_pos J];subst J;exact⟨by simp,λg h=>by exact h⟩
  .rw[if_neg J];refine⟨?_,λg h=>?_⟩
   .rw[KI];exact KJ _ S
   .rw[KI]at h ⊢;rcases nW.mp h with e|e
    .exact nW.mpr (.inl e)
    .exact KJ _ (U g e)
theorem lJ(f)(v):∀fs,(dE f v fs).length<=fs.length+1
 | []=>by simp[dE]
 | (k,x)::r=>by
  have ih:=lJ f v r;rw[show dE f v ((k,x)::r)=(if k=f then(k,v)::r else(k,x)::dE f v r)from rfl];by_cases J:k=f
  .rw[if_pos J,length_cons,length_cons];exact(Ll _ _)
  .simp_all
def iA.some_of(r:iA (some v) o):∃u,o=some u/\aF v u:=by
 cases o with
 |none=>exact(show False from r).elim
 |some u=>exact⟨u,rfl,r⟩
def iA.none_of(r:iA none o):o=none:=by
 cases o<;>first|rfl|exact(show False from r).elim
def wt(r:aF v u):PySem.W.handedIn u=true:=by
 cases v with
 |non=>cases (show u=Value.none from r);rfl
 |bl b=>cases (show u=Value.bool b from r);rfl
 |int i=>obtain⟨t,e⟩:=(show ∃t,u=Value.int i t from r);subst e;rfl
 |str x=>obtain⟨t,e⟩:=(show ∃t,u=Value.str x t from r);subst e;rfl
 |byt b=>obtain⟨t,e⟩:=(show ∃t,u=Value.bytes b t from r);subst e;rfl
 |flt b=>obtain⟨t,e⟩:=(show ∃t,u=Value.float b t from r);subst e;rfl
 |ref a=>cases (show u=Value.ref a from r);rfl
 |ty n=>cases (show u=Value.type n from r);rfl
section
variable{P:Program}{w:World}{H H':Hp}{h h':Heap}{a C dx:Addr}{fs fs':List (Str×V)}
def mf(hok:HOk P w H h)(e:H a=some (.ins C dx fs)):∃mA,tD h a dx C mA/\(∀f,iA (fs.lookup f) (mA f))/\PySem.Within mA (fs.map (·.1))/\fs.length<=1000/\H dx=some (.own a):=by
 refine cw λS J=>?_
 obtain⟨d,z,ne,ob,mA,n,r,q⟩:=(show b9 P w H h a _ from hok a _ e);refine J ?_;exact⟨mA,⟨ob,n,ne⟩,r,q,z,d⟩
end
structure Cls(K:MP)(C:Addr):Prop where
 pg:PySem.W.plainGet K C Str.empty=true
 hd:PySem.W.hasDictIn K C=true
 po:PySem.W.plainOver K C=true
 sa:PySem.W.findIn K (.ref C) "__setattr__"=some (some (.builtin "object.__setattr__"))
theorem Cls.get{K:MP}(c:Cls K C)(f):PySem.W.plainGet K C f=true:=c.pg
def cA(K:MP)(C:Addr)(f:Str):Prop:=PySem.W.findIn K (.ref C) f=some none
def cA.taker{K:MP}(n:cA K C f):PySem.W.takerIn K C f=some none:=by
 unfold PySem.W.takerIn;rw[show PySem.W.findIn K _ f=some none from n]
 rfl
structure gG(K:MP)(C:Addr)(m:Str)(f:Addr):Prop where
 at_:PySem.W.findIn K (.ref C) m=some (some (.ref f))
 fn:PySem.W.isFn K (.ref f)=true
 kp:PySem.W.keepIn K (.ref f)=true
section
variable{X:Cx}{pins:List (Addr×Obj)}{σ:St}{H:Hp}{s:Shared}{a C dx:Addr}{fs:List (Str×V)}{f:Str}{v:V}{A:Around}{E:Value->Shared->Prop}
def mG(I:Inv X pins σ H s)(e:H a=some (.ins C dx fs))(c:Cls X.K C)(n:cA X.K C f)(l:fs.lookup f=some v)
  (h:∀u s',Inv X pins σ H s'->aF v u->Q u s'):wpAny (model X.prog X.w) A (getAttr (.ref a) f b) Q E s:=by
 refine oA (mf I.hok e) λmA O r _ _ _=>?_
 obtain⟨u,S,J⟩:=iA.some_of (v:=v) (o:=mA f) (by rw[<- l];exact r f);exact AS I.kIn O (c.get f) c.hd n S (wt J) (h u _ (I.tok _) J)
def mH{Q:Value×List Value->Shared->Prop}(I:Inv X pins σ H s)(e:H a=some (.ins C dx fs))(c:Cls X.K C)(k:gG X.K C m g)(l:fs.lookup m=none)
  (h:Q (.ref g,[.ref a]) s):wpAny (model X.prog X.w) A (getMethod (.ref a) m pl) Q E s:=by
 refine oA (mf I.hok e) λmA O r _ _ _=>?_
 have hn:mA m=none:=iA.none_of (by rw[<- l];exact r m);exact xT I.kIn O (c.get m) k.at_ k.fn hn h
def mI(I:Inv X pins σ H s)(e:H a=some (.ins C dx fs))(c:Cls X.K C)(n:cA X.K C f)(hl:fs.length<1000)(S:aF y u)
  (h:∀s',Inv X pins σ (upd H a (.ins C dx (dE f y fs))) s'->Q () s'):wpAny (model X.prog X.w) A (setAttr (.ref a) f u) Q E s:=by
 refine oA (mf I.hok e) λmA O r wi _ J=>?_
 have hz:(fs.map (·.1)).length<=sizeLine:=by rw[tr,K7];omega
 refine AT I.kIn O c.sa c.po n.taker c.hd wi hz λh' O' U=>h _ ?_
 have hd:∃o,h'.get? dx=some o:=let ⟨o,_,_,Y,_⟩:=O'.ns;⟨o,Y⟩
 refine I.write (x:=a) (e:=dx) (by rw[e];exact True.intro) (.inr J) (λb q Z z=>(U.2 b Z).trans z) hd ?_;refine⟨by rw[aA O.ne];exact J,?_,O.ne,O'.obj,_,O'.ns,λg=>?_,λg hg=>?_⟩
 .have:=lJ f y fs;exact(xw ‹_› ‹_›)
 .show iA ((dE f y fs).lookup g) (if g=f then some u else mA g);rw[a8];by_cases q:g=f
  .rw[if_pos q,if_pos q];exact S
  .rw[if_neg q,if_neg q];exact r g
 .by_cases q:g=f
  .rw[q];exact(kX f y fs).1
  .refine(kX f y fs).2 g (wi g λz=>hg ?_);show(if g=f then some u else mA g)=none;rw[if_neg q];exact z
theorem Inv.made(I:Inv X pins σ H s):Inv X pins σ (upd (upd H s.heap.objs.size (.own (s.heap.objs.size+1))) (s.heap.objs.size+1) (.ins C s.heap.objs.size []))
  { s with heap:=(s.heap.push PySem.W.emptyDict).push (PySem.W.instObj C s.heap.objs.size) }:=by
 have J:(s.heap.push PySem.W.emptyDict).get? s.heap.objs.size=some PySem.W.emptyDict:=Kv s.heap rfl;have S:((s.heap.push PySem.W.emptyDict).push (PySem.W.instObj C s.heap.objs.size)).get? (s.heap.objs.size+1)=some (PySem.W.instObj C s.heap.objs.size):=by
  have:=Kv (s.heap.push PySem.W.emptyDict) (o:=PySem.W.instObj C s.heap.objs.size) rfl;rwa[Lm]at this
 have U:(s.heap.push PySem.W.emptyDict).Ns s.heap.objs.size (λ_=>none):=⟨PySem.W.emptyDict,#[],_,J,rfl,(λe Y=>absurd Y (by simp)),λ_=>rfl⟩;have Z:=I.laid (a:=s.heap.objs.size) (o:=.own (s.heap.objs.size+1)) (h':=s.heap.push PySem.W.emptyDict) (t':=s.toks) (λb u q=>mu _ q) (pe _) ⟨_,J⟩;refine Z.laid (a:=s.heap.objs.size+1) (o:=.ins C s.heap.objs.size []) (t':=s.toks) (λb u q=>mu _ q) (LN (Lm _ _)) ?_;have ne:s.heap.objs.size≠s.heap.objs.size+1:=KA (Nat.lt_succ_self _);refine⟨by rw[aA ne,ax],KN _,ne,S,λ_=>none,(Heap.Ns1.of_empty U).at λo q=>mu _ q,λ_=>True.intro,λy hy=>absurd rfl hy⟩
def AU(S:attributeBase e f env (eval e env)=eval e env)
  (h:wpAny (model prog w) A (eval e env) (λo J=>wpAny (model prog w) A (getAttr o f true) Q E J) E s):wpAny (model prog w) A (eval (.Attribute e f pos) env) Q E s:=
 Attribute_any_ h (by rw[arm_eval_Attribute,S])
end
noncomputable def AV(K:MP)(ta:TE)(f:Str):TE:=λσ H Q=>ta σ H λx H1=>∃a C dx fs v,x=.ref a/\H1 a=some (.ins C dx fs)/\Cls K C/\cA K C f/\fs.lookup f=some v/\Q v H1
noncomputable def JJ(K:MP)(ta tv:TE)(f:Str):TS:=λD σ H=>tv σ H λy H1=>ta σ H1 λx H2=>∃a C dx fs,x=.ref a/\H2 a=some (.ins C dx fs)/\Cls K C/\cA K C f/\fs.length<1000 /\
 D.nx σ (upd H2 a (.ins C dx (dE f y fs)))
def GW(X:Cx)(op:Operator)(rd:V->V->Hp->VK->Prop):Prop:=
 ∀pins s (σ:St) H x y u v Q,Inv X pins σ H s->aF x u->aF y v->rd x y H Q->wpAny (model X.prog X.w) X.A (inplaceOp op u v) (EP X pins σ Q) X.xe s
noncomputable def AW(K:MP)(ta tv:TE)(rd:V->V->Hp->VK->Prop)(f:Str):TS:=λD σ H=>ta σ H λx H1=>∃a C dx fs v,x=.ref a/\H1 a=some (.ins C dx fs)/\Cls K C/\cA K C f/\fs.lookup f=some v /\
 tv σ H1 λy H2=>rd v y H2 λz S=>∃J fs',S a=some (.ins C J fs')/\fs'.length<1000/\D.nx σ (upd S a (.ins C J (dE f z fs')))
section
variable{X:Cx}{o e value:Expr}{f:Str}{pos pos' tpos:Pos}{ta tv:TE}
def tG(J:PE X e ta)(S:attributeBase e f X.env (eval e X.env)=eval e X.env):PE X (.Attribute e f pos) (AV X.K ta f):=by
 intro pins s σ H Q I h;refine AU S (thn (J pins s σ H _ I h) λu s1 ⟨x,H1,U,Y,a,C,dx,fs,v,ex,Z,c,n,l,q⟩=>?_);subst ex;obtain rfl:u=Value.ref a:=Y;exact mG U Z c n l λu' s2 I2 ru=>⟨v,H1,I2,ru,q⟩
def jj(ha:PE X o ta)(J:PE X value tv)(S:swapsWith value (some (.Attribute o f pos')) pos.line X.env=pure false):PS X (.Assign [.Attribute o f pos'] value pos) (JJ X.K ta tv f):=by
 intro pins s σ H D I h;refine plainObj_wpAny_Assign_Attribute (thn (J pins s σ H _ I h) λu s1 U=>au U λy H1 Y Z q=>thn (ha pins s1 σ H1 _ Y q) λov s2 ⟨x,H2,I2,rx,a,C,dx,fs,ex,ea,c,n,l,q2⟩=>?_) S;subst ex;obtain rfl:ov=Value.ref a:=rx;exact mI I2 ea c n l Z λs3 I3=>⟨σ,_,I3,q2⟩
def wu(ha:PE X o ta)(U:PE X value tv)(J:GW X op rd):PS X (.AugAssign (.Attribute o f tpos) op value pos) (AW X.K ta tv rd f):=by
 intro pins s σ H D I h;refine wpAny_AugAssign_AttributeAny (thn (ha pins s σ H _ I h) λY s1 ⟨x,H1,Z,rx,a,C,dx,fs,v,ex,ea,c,n,l,q⟩=>?_);subst ex;obtain rfl:Y=Value.ref a:=rx;refine mG Z ea c n l λu s2 I2 ru=>thn (U pins s2 σ H1 _ I2 q) λw3 s3 hq=>au hq λy H2 I3 ry q3=>thn (J pins s3 σ H2 v y u w3 _ I3 ru ry q3) λw4 s4 ⟨z,H3,I4,rz,bK,fs',S,l',q4⟩=>?_
 exact mI I4 S c n l' rz λs5 I5=>⟨σ,_,I5,q4⟩
def JK:V->V->Hp->VK->Prop:=λx y H Q=>∃i j,x=.int i/\y=.int j/\Q (.int (i+j)) H
def Eb:GW X .Add JK:=by
 rintro pins s σ H x y u v Q I J S ⟨i,j,rfl,rfl,q⟩;obtain⟨t,rfl⟩:=(show ∃t,u=Value.int i t from J);obtain⟨t',rfl⟩:=(show ∃t',v=Value.int j t' from S);exact PyProof.Rows.iadd_int ⟨.int _,H,I.tok _,⟨_,rfl⟩,q⟩
end
section
variable{X:Cx}{pins:List (Addr×Obj)}{σ:St}{H:Hp}{s:Shared}{A:Around}{E:Value->Shared->Prop}{Q:Value->Shared->Prop}{c:Value}{b:Bool}
inductive jk(K:MP)(H:Hp):V->Value->Prop where
 | non:jk K H .non (.type "NoneType")
 | bl (x:Bool):jk K H (.bl x) (.type "bool")
 | int (i:Int):jk K H (.int i) (.type "int")
 | str (x:Str):jk K H (.str x) (.type "str")
 | flt (x:UInt64):jk K H (.flt x) (.type "float")
 | lst {a:Addr}{xs:List V} (e:H a=some (.lst xs)):jk K H (.ref a) (.type "list")
 | frz {a:Addr}{o:Obj}{xs:List V} (e:H a=some (.frz o (.lst xs))):jk K H (.ref a) (.type "list")
 | tup {a:Addr}{xs:List V} (e:H a=some (.tup xs)):jk K H (.ref a) (.type "tuple")
 | dK {a:Addr}{kvs:List (Key×V)} (e:H a=some (.dK kvs)):jk K H (.ref a) (.type "dict")
 | dT {a:Addr}{kvs:List (List Key×V)} (e:H a=some (.dT kvs)):jk K H (.ref a) (.type "dict")
 | ins {a C dx:Addr}{fs:List (Str×V)} (e:H a=some (.ins C dx fs)) (cl:Cls K C) (ha:PySem.W.findIn K (.ref C) "__class__"=some (some (.builtin "object.__class__")))
   (hn:PySem.W.specialIn K (.builtin "object.__class__") "__get__"=some (some (.builtin "getset_descriptor.__get__"))) (htk:PySem.W.takesIn K (.builtin "object.__class__")=some true)
   (hm:PySem.W.mroIn K C (.type "object")=some true):jk K H (.ref a) (.ref C)
def wv{x:V}{u t:Value}(I:Inv X pins σ H s)(S:aF x u)(ty:jk X.K H x t)(e:PySem.W.kitOne X.K t c=some b)(h:∀tk,Q (.bool b) { s with toks:=tk }) :
  wpAny (model X.prog X.w) A (call (.builtin "isinstance") [u,c]) Q E s:=by
 cases ty with
 |non=>cases (show u=Value.none from S);exact PySem.W.kia_one PySem.W.kitx_none I.kIn True.intro e (λz=>nomatch z) h
 |bl y=>cases (show u=Value.bool y from S);exact PySem.W.kia_one PySem.W.kitx_bool I.kIn True.intro e (λz=>nomatch z) h
 |int i=>obtain⟨t,q⟩:=(show ∃t,u=Value.int i t from S);cases q;exact PySem.W.kia_one PySem.W.kitx_int I.kIn True.intro e (λz=>nomatch z) h
 |str y=>obtain⟨t,q⟩:=(show ∃t,u=Value.str y t from S);cases q;exact PySem.W.kia_one PySem.W.kitx_str I.kIn True.intro e (λz=>nomatch z) h
 |flt y=>obtain⟨t,q⟩:=(show ∃t,u=Value.float y t from S);cases q;exact PySem.W.kia_one PySem.W.kitx_float I.kIn True.intro e (λz=>nomatch z) h
 | @lst a xs U =>
  cases (show u=Value.ref a from S);obtain⟨_,_,n,_,h1⟩:=(show b9 X.prog X.w H s.heap a (.lst xs)from I.hok a _ U);exact PySem.W.kia_one PySem.W.kitx_list I.kIn ⟨_,h1,rfl⟩ e (λz=>nomatch z) h
 | @frz a ob xs U =>
  cases (show u=Value.ref a from S);obtain⟨_,_,_,n,_,h1⟩:=(show b9 X.prog X.w H s.heap a (.frz ob (.lst xs))from I.hok a _ U);exact PySem.W.kia_one PySem.W.kitx_list I.kIn ⟨_,h1,rfl⟩ e (λz=>nomatch z) h
 | @tup a xs U =>
  cases (show u=Value.ref a from S);obtain⟨_,_,_,p⟩:=(show b9 X.prog X.w H s.heap a (.tup xs)from I.hok a _ U);obtain⟨o,h1,h2,_⟩:=p;exact PySem.W.kia_one PySem.W.kitx_tuple I.kIn ⟨o,h1,h2⟩ e (λz=>nomatch z) h
 | @dK a kvs U =>
  cases (show u=Value.ref a from S);obtain⟨_,_,vs,_,p⟩:=(show b9 X.prog X.w H s.heap a (.dK kvs)from I.hok a _ U);obtain⟨o,es,ep,h1,h2,_⟩:=p;exact PySem.W.kia_one PySem.W.kitx_dict I.kIn ⟨o,h1,h2.1⟩ e (λz=>nomatch z) h
 | @dT a kvs U =>
  cases (show u=Value.ref a from S);obtain⟨_,_,xs,_,o,es,ep,h1,h2,_⟩:=(show b9 X.prog X.w H s.heap a (.dT kvs)from I.hok a _ U);exact PySem.W.kia_one PySem.W.kitx_dict I.kIn ⟨o,h1,h2.1⟩ e (λz=>nomatch z) h
 | @ins a C dx fs U cl ha hn Y hm =>
  cases (show u=Value.ref a from S);obtain⟨mA,O,_⟩:=mf I.hok U;obtain⟨Z,J,_⟩:=O.look;exact PySem.W.kia_one (PySem.W.kitx_own (cl.get _) cl.hd ha hn Y hm) I.kIn J e (λz=>nomatch z) h
end
structure dH(k:Nat)(A:Around):Prop where
 hd:A.handled=none
 dp:A.depth+3*k+5<recursionLimit
 un:A.units+16*k+200<cLine
def dH.mono(r:dH k A)(h:j<=k):dH j A:=⟨r.hd,by have:=r.dp;omega,by have:=r.un;omega⟩
theorem dH.deeper(r:dH (k+1) A)(env):dH k (A.deeper env):=
 ⟨r.hd,by have:=r.dp;show A.depth+1+3*k+5<_;omega,by have:=r.un;show A.units+3+16*k+200<_;omega⟩
def tH {A:Around} :(A.under (.builtin "type.__call__" ⟨.ref C::us,kw⟩)).depth=A.depth+1:=rfl
def tI {A:Around}{C:Addr}{us:List Value}{kw:List (Str×Value)}:(A.under (.builtin "type.__call__" ⟨.ref C::us,kw⟩)).units=A.units+1:=rfl
def dH.make (r:dH (k+1) A) (C) (us) (kw):dH k (A.under (.builtin "type.__call__" ⟨.ref C::us,kw⟩)):=
 ⟨r.hd,by have:=r.dp;rw[tH];omega,by have:=r.un;rw[tI];omega⟩
theorem dH.depth(r:dH k A):A.depth<recursionLimit:=by have:=r.dp;omega
noncomputable def bN:TA:=λ_ H Q=>Q [] H
noncomputable def av(ta:TE)(J:TA):TA:=λσ H Q=>ta σ H λx H1=>J σ H1 λxs H2=>Q (x::xs) H2
section
variable{X:Cx}{e:Expr}{es:List Expr}{te:TE}{t:TA}{pos:Pos}
def aS:PA X [] bN:=λ_ _ _ _ H Q I h=>Calls.spliced_nil ⟨[],H,I,.nil,h⟩
def ak(ha:PE X e te)(S:PA X es t)(U:starEach (e::es) X.env=(false,eval e X.env)::starEach es X.env:=by rfl):PA X (e::es) (av te t):=by
 intro pos pins s σ H Q I h;rw[U];show wpAny _ _ (spliced ((false,eval e X.env)::backTo pos _)) _ _ s;refine Ml (thn (ha pins s σ H _ I h) λu s1 J=>au J λx H1 Y r1 Z=>?_);exact thn (S pos pins s1 σ H1 _ Y Z) λus s2 J=>au J λxs H2 I2 r2 q2=>⟨x::xs,H2,I2,.cons r1 r2,q2⟩
noncomputable def JM(t:TA):TE:=λσ H Q=>t σ H λxs H1=>xs.length<=sizeLine/\∀p,H1 p=none->Q (.ref p) (upd H1 p (.tup xs))
noncomputable def ww(t:TA):TE:=λσ H Q=>t σ H λxs H1=>xs.length<=sizeLine/\∀p,H1 p=none->Q (.ref p) (upd H1 p (.lst xs))
def Ec{U}(h:PA X es t):PE X (.Tuple es U pos) (JM t):=by
 intro pins s σ H Q I J;refine wpAny_Tuple_spliced (thn (h pos pins s σ H _ I J) λus s1 J=>jF J λxs H1 S r z q=>⟨by rw[<- r.length];exact z,?_⟩);have Y:=S.hok.fresh (pe _);refine⟨.ref s1.heap.objs.size,upd H1 s1.heap.objs.size _,S.laid (λb u e=>mu _ e) (pe _) ?_,rfl,q _ Y⟩;exact⟨z,us,r,⟨_,Kv _ rfl,rfl,_,rfl⟩⟩
def mJ(h:PA X es t):PE X (.List es pos) (ww t):=by
 intro pins s σ H Q I J;refine wpAny_List_spliced (thn (h pos pins s σ H _ I J) λus s1 J=>jF J λxs H1 S r z q=>⟨by rw[<- r.length];exact z,?_⟩);have U:=S.hok.fresh (pe _);refine⟨.ref s1.heap.objs.size,upd H1 s1.heap.objs.size _,S.laid (λb u e=>mu _ e) (pe _) ?_,rfl,q _ U⟩;exact⟨z,us,0,r,Kv _ rfl⟩
end
noncomputable abbrev Sp:=List V->Hp->VK->XK->Prop
noncomputable abbrev CXT:=List Env->Hp->Shared->XK->Value->Shared->Prop
structure tJ(P:Program)(w:World)(K:MP)(mg:Str->Option Value)(base:Heap)(A:Around)(outer:List Env)(s:Shared)(H:Hp):Prop where
 frames:A.frames=some outer
 mod:Mod K mg base
 bs:∀b o,base.get? b=some o->s.heap.get? b=some o/\H b=none
 bsz:base.objs.size<=s.heap.objs.size
 funs:s.heap.FunFrames base outer
 frf:∀b∈frs outer,H b=none
 hok:HOk P w H s.heap
 bare:AllBare s.gens
def CE(outer:List Env)(P:Program)(w:World)(H:Hp)(s:Shared)(Q:VK)(u:Value)(s':Shared):Prop:=
 ∃v H',s'.os=s.os/\AllBare s'.gens/\Un (frs outer) [] H H' s.heap s'.heap/\HOk P w H' s'.heap/\aF v u/\Q v H'
def CR(CX:CXT)(outer:List Env)(P:Program)(w:World)(H:Hp)(s:Shared)(Q:VK)(E:XK)(r:Result)(s':Shared):Prop:=
 match r with
 | .ok (.ret u)=>CE outer P w H s Q u s'
 | .ok _=>False
 | .error e=>CX outer H s E e s'
structure bw(P:Program)(w:World)(K:MP)(mg:Str->Option Value)(base:Heap)(CX:CXT)(k:Nat)(f:Addr)(fd:FuncData)(ps:List Str)(sp:Sp):Prop where
 len:∀vs H Q E,sp vs H Q E->vs.length=ps.length
 run:∀(A:Around) (outer:List Env) (s:Shared) (H:Hp) (args:Args) (us:List Value) (vs:List V) (Q:VK) (E:XK),dH k A->tJ P w K mg base A outer s H->BindsTo s fd args (ps.zip us)->aN vs us->sp vs H Q E ->
  codeAny (model P w) A (.call (.ref f) args) (CR CX outer P w H s Q E) s
def tJ.make{K:MP}{outer:List Env}{s:Shared}{H:Hp}(e:tJ P w K mg base A outer s H)(C:Addr)(us:List Value)(kw:List (Str×Value)) :
  tJ P w K mg base (A.under (.builtin "type.__call__" ⟨.ref C::us,kw⟩)) outer s H:=⟨by first|exact e.frames|(simpa[Around.under,Code.envs,Code.isFrame,pushEnvs]using e.frames),e.mod,e.bs,e.bsz,e.funs,e.frf,e.hok,e.bare⟩
section
variable{X:Cx}{pins:List (Addr×Obj)}{σ:St}{H:Hp}{s s':Shared}
theorem Inv.env0(I:Inv X pins σ H s):tJ X.prog X.w X.K X.mg X.base X.A X.stack s H:=
 ⟨I.ok.frames,I.ok.mod,I.bs,xw I.ok.bsz I.sz,I.stack,I.stkFree,I.hok,I.bare⟩
def Inv.after(I:Inv X pins σ H s)(h:CE X.stack X.prog X.w H s Q u s'):EP X pins σ Q u s':=by
 refine Ct h λv H' os bare un hok r q=>?_
 obtain⟨S,g,d,t,J⟩:=s';obtain rfl:J=s.os:=os;exact⟨v,H',I.call un hok bare (λb z=>absurd z (by simp)),r,q⟩
end
noncomputable def iq(sp:Sp)(dvs:List V)(E:XK)(t:TA):TE:=λσ H Q=>t σ H λvs H1=>sp (vs++dvs) H1 Q E
noncomputable def eV(C:Addr)(m:Str)(sp:Sp)(dvs:List V)(E:XK)(ta:TE)(t:TA):TE:=λσ H Q=>ta σ H λx H1=>∃a dx fs,x=.ref a/\H1 a=some (.ins C dx fs)/\fs.lookup m=none /\
 t σ H1 λvs H2=>sp (x::(vs++dvs)) H2 Q E
noncomputable def ja(C:Addr)(sp:Sp)(dvs:List V)(E:XK)(t:TA):TE:=λσ H Q=>t σ H λvs H1=>∀x dx,H1 x=none->H1 dx=none->dx≠x ->
 sp (.ref x::(vs++dvs)) (upd (upd H1 dx (.own x)) x (.ins C dx [])) (λv H2=>v=.non/\Q (.ref x) H2) E
def aG(K:MP)(fd:FuncData)(ps:List Str)(ds:List Value):Prop:=
 ∀(s:Shared) (us:List Value),K.In s.heap->(us++ds).length=ps.length->BindsTo s fd ⟨us,[]⟩ (ps.zip (us++ds))
theorem aG.all{K:MP}(h:∀us,us.length=ps.length->bindArgs fd ⟨us,[]⟩=pure (ps.zip us)):aG K fd ps []:=λs us _ J=>by
 rw[L1]at J ⊢;exact .of_eq (h us J)
def g7(CX:CXT)(X:Cx)(E:XK):Prop:=∀pins (σ:St) H s e s',Inv X pins σ H s->CX X.stack H s E e s'->X.xe e s'
section
variable{X:Cx}{CX:CXT}{k:Nat}{f C:Addr}{fd:FuncData}{ps:List Str}{sp:Sp}{dvs:List V}{ds:List Value}{E:XK}{x m:Str}{p pos apos:Pos}{e o:Expr}{es:List Expr}{ta:TE}{t:TA}
def mL(F:bw X.prog X.w X.K X.mg X.base CX k f fd ps sp)(S:dH k X.A)(U:aG X.K fd ps ds)(hd:aN dvs ds)(Y:g7 CX X E)
  (I:Inv X pins σ H s) (r:aN vs us) (h:sp (vs++dvs) H Q E):wpAny (model X.prog X.w) X.A (call (.ref f) us) (EP X pins σ Q) X.xe s:=by
 have r2:=r.append hd;have Z:(us++ds).length=ps.length:=by rw[<- r2.length];exact F.len _ _ _ _ h
 refine wpAny_call (MA (F.run X.A X.stack s H ⟨us,[]⟩ (us++ds) (vs++dvs) Q E S I.env0 (U s us I.kIn Z) r2 h) λr s' J=>?_);cases r with
 |error e=>exact Y pins σ H s e s' I J
 |ok fl =>
  cases fl with
  |ret u=>exact I.after J
  |next=>exact False.elim J
  |brk=>exact False.elim J
  |cont=>exact False.elim J
def g9(F:bw X.prog X.w X.K X.mg X.base CX k f fd ps sp)(Y:dH k X.A)(Z:Gl X x)(hm:X.mg x=some (.ref f))(hk:PySem.W.keepIn X.K (.ref f)=true)(hb:aG X.K fd ps ds)(hd:aN dvs ds)(hx:g7 CX X E)
  (ha:PA X (e::es) t) (J:(x==("__debug__":Str))=false:=by decide) (he:starEach (e::es) X.env=(false,eval e X.env)::starEach es X.env:=by rfl) (S:(backTo pos (starEach es X.env)).any (·.1)=false:=by rfl) :
  PE X (.Call (.Name x p) (e::es) [] pos) (iq sp dvs E t):=by
 intro pins s σ H Q I h;refine LD (jH I Z hm ?_ J);refine PySem.W.callWith_K I.ok.mod.kin hk (thn (ha pos pins s σ H _ I h) λus s1 hq=>au hq λvs H1 U r q=>⟨U.kIn,?_⟩) he S;exact mL F Y hb hd hx U r q
def xV(F:bw X.prog X.w X.K X.mg X.base CX k f fd ps sp)(S:dH k X.A)(U:Gl X x)(hm:X.mg x=some (.ref f))(Y:PySem.W.keepIn X.K (.ref f)=true)(Z:aG X.K fd ps ds)(hd:aN dvs ds)(hx:g7 CX X E)
  (J:(x==("__debug__":Str))=false:=by decide):PE X (.Call (.Name x p) [] [] pos) (iq sp dvs E bN):=by
 intro pins s σ H Q I h;refine LD (jH I U hm ?_ J);exact PySem.W.callWith_K0 I.kIn Y (mL (us:=[]) F S Z hd hx I .nil h)
def bf{pl:Sem Bool}(he:PE X o ta)(c:Cls X.K C)(hm:gG X.K C m f)(F:bw X.prog X.w X.K X.mg X.base CX k f fd ps sp)(hr:dH k X.A)(hb:aG X.K fd ps ds)(hd:aN dvs ds)(hx:g7 CX X E)(ha:PA X (e::es) t)
  (J:starEach (e::es) X.env=(false,eval e X.env)::starEach es X.env:=by rfl) (S:(backTo pos (starEach es X.env)).any (·.1)=false:=by rfl)
  (ht:eval (.Call (.Attribute o m apos) (e::es) [] pos) X.env=(do
   let U <- eval o X.env
   standAt apos.atName
   let (f,first) <- holding [U] (getMethod U m pl)
   callWith pos f first (backTo pos (starEach (e::es) X.env)) (backToKw pos (keywordEach [] X.env))):=by rfl) :
  PE X (.Call (.Attribute o m apos) (e::es) [] pos) (eV C m sp dvs E ta t):=by
 intro pins s σ H Q I h;refine PySem.W.methodCall_KW (pl:=pl) (thn (he pins s σ H _ I h) λu s1 ⟨x,H1,Y,rx,a,dx,fs,ex,ea,l,q⟩=>?_) ht;subst ex;obtain rfl:u=Value.ref a:=rx;refine mH Y ea c hm l ?_;refine PySem.W.callWith_K (first:=[.ref a]) (h₀:=X.base) I.ok.mod.kin hm.kp (thn (ha pos pins s1 σ H1 _ Y q) λus s2 ⟨vs,H2,Z,r,q2⟩=>⟨Z.kIn,?_⟩) J S;exact mL (us:=.ref a::us) (vs:=.ref a::vs) F hr hb hd hx Z (.cons rfl r) q2
def rk(U:PE X o ta)(c:Cls X.K C)(hm:gG X.K C m f)(F:bw X.prog X.w X.K X.mg X.base CX k f fd ps sp)(Y:dH k X.A)(Z:aG X.K fd ps ds)(hd:aN dvs ds)(hx:g7 CX X E)
  (ht:eval (.Call (.Attribute o m apos) [] [] pos) X.env=(do
   let S <- eval o X.env
   standAt apos.atName
   let (f,first) <- holding [S] (getMethod S m pl)
   callWith pos f first (backTo pos (starEach [] X.env)) (backToKw pos (keywordEach [] X.env))):=by rfl) :
  PE X (.Call (.Attribute o m apos) [] [] pos) (eV C m sp dvs E ta bN):=by
 intro pins s σ H Q I h;refine PySem.W.methodCall_KW (pl:=pl) (thn (U pins s σ H _ I h) λu s1 ⟨x,H1,J,rx,a,dx,fs,ex,ea,l,q⟩=>?_) ht;subst ex;obtain rfl:u=Value.ref a:=rx;refine mH J ea c hm l ?_;exact PySem.W.callWith_K0 (first:=[.ref a]) J.kIn hm.kp (mL (us:=[.ref a]) (vs:=[.ref a]) F Y Z hd hx J (.cons rfl .nil) q)
structure Mk(K:MP)(C f:Addr):Prop where
 makes:PySem.W.makesIn K C=true
 init:PySem.W.findIn K (.ref C) "__init__"=some (some (.ref f))
 fn:PySem.W.isFn K (.ref f)=true
 kp:PySem.W.keepIn K (.ref C)=true
def xW{pins:List (Addr×Obj)}{σ:St}{H:Hp}{s:Shared}{Q:VK}{us:List Value}{vs:List V}(M:Mk X.K C f)(F:bw X.prog X.w X.K X.mg X.base CX k f fd ps sp)(Y:dH (k+1) X.A)(Z:aG X.K fd ps ds)(hd:aN dvs ds)
  (hx:g7 CX X E) (I:Inv X pins σ H s) (r:aN vs us)
  (h:∀x dx,H x=none->H dx=none->dx≠x->sp (.ref x::(vs++dvs)) (upd (upd H dx (.own x)) x (.ins C dx [])) (λv H2=>v=.non/\Q (.ref x) H2) E) :
  wpAny (model X.prog X.w) X.A (call (.ref C) us) (EP X pins σ Q) X.xe s:=by
 have U:=h (s.heap.objs.size+1) s.heap.objs.size (I.hok.fresh (Ly _)) (I.hok.fresh (pe _)) (KA (Nat.lt_succ_self _));have S:=Inv.made (C:=C) I;have r2:aN (V.ref (s.heap.objs.size+1)::(vs++dvs)) (Value.ref (s.heap.objs.size+1)::(us++ds)):=.cons rfl (r.append hd);have hl:(Value.ref (s.heap.objs.size+1)::us++ds).length=ps.length:=by
  have e:=r2.length;rw[F.len _ _ _ _ U]at e;exact e.symm
 refine wpAny_call (xU (f:=f) I.kIn M.makes M.init (Kt.mp M.fn) (MA (F.run _ X.stack _ _ ⟨Value.ref (s.heap.objs.size+1)::us,[]⟩ (Value.ref (s.heap.objs.size+1)::(us++ds)) _ _ E (Y.make C us [])
  (S.env0.make C us []) (Z _ (Value.ref (s.heap.objs.size+1)::us) S.kIn hl) r2 U) λr s' J=>?_))
 cases r with
 |error e=>exact hx pins σ _ _ e s' S J
 |ok fl =>
  cases fl with
  |ret u =>
   refine jF (S.after J) λv H' I3 rv ev q3=>?_
   subst ev;exact⟨rv,⟨V.ref (s.heap.objs.size+1),H',I3,rfl,q3⟩⟩
  |next=>exact False.elim J
  |brk=>exact False.elim J
  |cont=>exact False.elim J
def ft(M:Mk X.K C f)(F:bw X.prog X.w X.K X.mg X.base CX k f fd ps sp)(Y:dH (k+1) X.A)(Z:Gl X x)(hm:X.mg x=some (.ref C))(hb:aG X.K fd ps ds)(hd:aN dvs ds)(hx:g7 CX X E)
  (ha:PA X (e::es) t) (J:(x==("__debug__":Str))=false:=by decide) (he:starEach (e::es) X.env=(false,eval e X.env)::starEach es X.env:=by rfl) (S:(backTo pos (starEach es X.env)).any (·.1)=false:=by rfl) :
  PE X (.Call (.Name x p) (e::es) [] pos) (ja C sp dvs E t):=by
 intro pins s σ H Q I h;refine LD (jH I Z hm ?_ J);refine PySem.W.callWith_K (h₀:=X.base) I.ok.mod.kin M.kp (thn (ha pos pins s σ H _ I h) λus s1 hq=>au hq λvs H1 U r q=>⟨U.kIn,?_⟩) he S;exact xW M F Y hb hd hx U r q
end
section
variable{X:Cx}{CX:CXT}{k:Nat}{f C:Addr}{fd:FuncData}{ps ks:List Str}{sp:Sp}{E:XK}{x m:Str}{p pos apos kpos:Pos}{e o:Expr}{es:List Expr}{kws:List Keyword}{te ta:TE}{t tk:TA}{nm:Option Str}
variable{g:List Value->List Value->List Value}{gV:List V->List V->List V}
end
structure bQ(N P:List Str)(sc:Scope):Prop where
 kind:sc.kind=.function
 co:sc.isCoroutine=false
 gen:sc.isGenerator=false
 nd:N.Nodup
 pre:N.take P.length=P
 par:∀x∈P,sc.names.lookup x=some .local\/sc.names.lookup x=some .cell
 nofree:∀y∈sc.names,y.2≠.free
theorem oH{kindOf:Str->Option NameKind} :∀{binds}{m},(∀v,(x,v)∉binds)->bindL kindOf binds m x=m x
 | [],_,_=>rfl
 | (n,v)::r,m,h=>by
  unfold bindL;rw[oH λw hw=>h w (KJ _ hw)];split
  .have:x≠n:=by rintro rfl;exact h v K1
   simp[this]
  .rfl
theorem oI{kindOf:Str->Option NameKind} :∀{binds}{m},(∀v,(x,v)∉binds)->bindC kindOf binds m x=m x
 | [],_,_=>rfl
 | (n,v)::r,m,h=>by
  unfold bindC;rw[oI λw hw=>h w (KJ _ hw)];split
  .rfl
  .have:x≠n:=by rintro rfl;exact h v K1
   simp[this]
theorem oJ{kindOf:Str->Option NameKind}{x:Str}{v:Value}:∀{P:List Str}{vs}{i:Nat}{m},P.Nodup->P[i]?=some x->vs[i]?=some v->kindOf x=some .local ->
  bindL kindOf (P.zip vs) m x=some v
 | [],_,_,_,_,h,_,_=>by injection h
 | _::_,[],_,_,_,_,h,_=>by injection h
 |p::P,w::vs,0,m,nd,h1,h2,J=>by
  simp at h1 h2;subst h1;subst h2
  show bindL kindOf ((p,w)::P.zip vs) m p=_;unfold bindL;rw[oH λv S=>(KP.mp nd).1 (of_mem_zip S).1,if_pos J];simp
 |p::P,w::vs,i+1,m,nd,h1,h2,J=>by
  show bindL kindOf ((p,w)::P.zip vs) m x=_;exact oJ (i:=i) (KP.mp nd).2 h1 h2 J
theorem oK{kindOf:Str->Option NameKind}{x:Str}{v:Value}:∀{P:List Str}{vs}{i:Nat}{m},P.Nodup->P[i]?=some x->vs[i]?=some v->kindOf x≠some .local ->
  bindC kindOf (P.zip vs) m x=some v
 | [],_,_,_,_,h,_,_=>by injection h
 | _::_,[],_,_,_,_,h,_=>by injection h
 |p::P,w::vs,0,m,nd,h1,h2,J=>by
  simp at h1 h2;subst h1;subst h2
  show bindC kindOf ((p,w)::P.zip vs) m p=_;unfold bindC;rw[oI λv S=>(KP.mp nd).1 (of_mem_zip S).1,if_neg J];simp
 |p::P,w::vs,i+1,m,nd,h1,h2,J=>by
  show bindC kindOf ((p,w)::P.zip vs) m x=_;exact oK (i:=i) (KP.mp nd).2 h1 h2 J
noncomputable def fG(N:List Str)(vs:List V):St:=vs.map some++replicate (N.length-vs.length) none
noncomputable def cU(CX:CXT)(P:Program)(w:World)(K:MP)(mg:Str->Option Value)(base:Heap)(N:List Str)(qual:Str)(scope:Scope)(f:Addr)(S:Value)(A:Around)(outer:List Env)(s:Shared)(H:Hp)(E:XK):Cx where
 prog:=P
 w:=w
 K:=K
 mg:=mg
 base:=base
 A:=A.deeper (envOfC qual scope s.heap.objs.size f S)
 N:=N
 s₀:=s
 H₀:=H
 env:=envOfC qual scope s.heap.objs.size f S
 outer:=outer
 stack:=envOfC qual scope s.heap.objs.size f S::outer
 ex:=[]
 calm:=true
 fn:=λ_=>true
 pn:=[]
 xe:=λe s'=>wpAny (model P w) (A.deeper (envOfC qual scope s.heap.objs.size f S)) (leaving (envOfC qual scope s.heap.objs.size f S) e) (λ_ J=>CX outer H s E e J) (λU J=>CX outer H s E U J) s'
def rq{sc:Scope}(h:sc.names.lookup x=some .cell):∃c,(cellsFrom n sc.names []).lookup x=some c:=by
 have q:=PySem.W.cellsFrom_some sc.names n [] (.inl h);exact isSome_iff_exists.mp q
def wz{K:MP} 
  (S:bQ N ps scope) (hd:A.handled=none) (J:tJ P w K mg base A outer s H) (hl:vs.length=ps.length) (r:aN vs us)
  (x:InCallC s s.heap.objs.size (bindL (envOfC qual scope s.heap.objs.size f cd).kindOf (ps.zip us) λ_=>none) (cellsFrom (s.heap.objs.size+1) scope.names []) (bindC (envOfC qual scope s.heap.objs.size f cd).kindOf (ps.zip us) λ_=>none) s1) :
  Inv (cU CX P w K mg base N qual scope f cd A outer s H E) [] (fG N vs) H s1:=by
 have aP:ps.length<=N.length:=by have:=Lg List.length S.pre;rw[L8]at this;omega
 refine dc x.done λh1 tk ar hk=>?_
 subst ar;have U:∀b,b∉(cU CX P w K mg base N qual scope f cd A outer s H E).ex:=λb z=>absurd (show b∈([]:List Addr)from z) (by simp)
 refine⟨⟨J.mod,S.kind,rfl,rfl,pe _,λy z c h1 h2=>?_,λy Y=>?_,λy c _ h=>?_,λ_=>hd,Around.frames_deeper J.frames,.inr ⟨rfl,rfl⟩,λb z=>absurd z (U b),J.bs,J.bsz,λb _ _=>U b,λb z=>absurd z (U b),J.funs,J.frf⟩,
  rfl,J.bare,Un.kept hk,⟨_,x.toInCall.ns,λi y v h1 h2 h3=>?_⟩,λy c h=>⟨_,x.cell y c h⟩,J.hok.fresh (pe _),λy c h=>?_,λp Z=>absurd (show p∈([]:List (Addr×Obj))from Z) (by simp),J.hok.kept hk,?_⟩
 .exact name_of_addr x.apart (PySem.mem_of_lookup h1) (PySem.mem_of_lookup h2)
 .have Y:=Y;rcases Y with Y|Y
  .exact rq Y
  .exact absurd rfl (S.nofree _ (PySem.mem_of_lookup Y))
 .exact K9 (x.above y c (PySem.mem_of_lookup h))
 .have hi:i<vs.length:=by
   unfold fG at h2;by_cases hi:i<vs.length
   .exact hi
   .rw[Lu (by simpa using hi)]at h2;rw[LX]at h2;split at h2<;>cases h2
  have ha:vs[i]?=some v:=by
   unfold fG at h2;rw[Lh (by simpa using hi),Kx]at h2;cases e:vs[i]?<;>simp_all
  refine ag (r.get ha) λu hu rv=>?_
  have Z:ps[i]?=some y:=by
   rw[<- S.pre,getElem?_take_of_lt (by omega)];exact h1
  have ao:ps.Nodup:=by rw[<- S.pre];exact S.nd.sublist (take_sublist _ _)
  refine⟨u,rv,?_⟩;rcases S.par y (LF Z)with k|k
  .exact .inl ⟨k,oJ ao Z hu k⟩
  .obtain⟨c,e⟩:=rq (n:=s.heap.objs.size+1) k;refine .inr ⟨.inl k,c,e,?_⟩;have q:=x.cell y c e;rw[oK ao Z hu (by show scope.names.lookup y≠_;rw[k];decide)]at q;exact q
 .exact J.hok.fresh (K9 (x.above y c (PySem.mem_of_lookup h)))
 .unfold fG;show _=N.length;rw[KU,tr,length_replicate];exact(by simp[*])
def ez{K:MP}{dV kV ar pm U ct oc:Value} 
  (lk:K.lookup f=some ⟨oc,od,.func (PySem.W.fnOf name qual params body scope dV kV ar pm an U ct),bt⟩) (a0:PySem.W.codeIn K U qual=true) (S:bQ N ps scope)
  (len:∀vs H Q E,sp vs H Q E->vs.length=ps.length)
  (Z:∀A outer s H vs Q E,dH k (A.deeper (envOfC qual scope s.heap.objs.size f U))->sp vs H Q E ->
   ∃t,PSs (cU CX P w K mg base N qual scope f U A outer s H E) body t/\t { nx:=λ_ H'=>Q .non H',rt:=Q } (fG N vs) H) :
  bw P w K mg base CX (k+1) f (PySem.W.fnOf name qual params body scope dV kV ar pm an U ct) ps sp:=by
 refine⟨len,λA outer s H args us vs Q E hr e0 hb r aL=>?_⟩;have hl:=len _ _ _ _ aL;have KX:=e0.mod.kin.keeps λb o e=>(e0.bs b o e).1
 have a2:=e0.mod.nolimit.keeps λb o e=>(e0.bs b o e).1
 have ao:∀y∈ps.zip us,scope.names.lookup y.1=some .local\/(scope.names.lookup y.1=some .cell/\((cellsFrom (s.heap.objs.size+1) scope.names []).lookup y.1).isSome=true):=λ⟨n,v⟩ hy=>by
  rcases S.par n (of_mem_zip hy).1 with q|q
  .exact .inl q
  .exact .inr ⟨q,PySem.W.cellsFrom_some _ _ _ (.inl q)⟩
 refine codeAny_call_function hr.depth (KX _ _ lk) rfl S.co S.gen rfl (PySem.W.codeRec_of KX a0) (hb _ _ _ _ ?_);refine wpAny_newFunctionEnv_cells S.kind ao λenv he s1 x=>?_
 subst he;refine⟨a2.keeps x.toInCall.keep,codeAny_func ?_⟩;refine ag (Z A outer s H vs Q E (hr.deeper _) aL) λt ht hq=>?_
 have I:Inv (cU CX P w K mg base N qual scope f U A outer s H E) [] (fG N vs) H s1:=wz S hr.hd e0 hl r x;refine K3 (ht [] s1 (fG N vs) H _ I hq) (λfl s' hs=>?_) λe s' hs=>hs
 have fin:∀{Y}{H'}{v}{u},Inv (cU CX P w K mg base N qual scope f U A outer s H E) [] Y H' s'->aF v u->Q v H'->CE outer P w H s Q u s':=
  λ{Y H' v u} J rv q=>⟨v,H',J.os,J.bare,J.base,J.hok,rv,q⟩
 cases fl with
 |next =>
  refine dc hs λY H' J q=>?_
  exact fin (v:=V.non) (u:=Value.none) J rfl q
 |ret u =>
  refine uU hs λv Y H' J rv q=>?_
  exact fin J rv q
 | _ =>
  refine dc hs λ_ _ _ q=>?_
  exact False.elim q
section
variable{X:Cx}{x:Str}{p pos:Pos}{e:Expr}{es:List Expr}{t:TA}{id T:String}{r:List V->Hp->VK->Prop}
noncomputable def tCB(r:List V->Hp->VK->Prop)(t:TA):TE:=λσ H Q=>t σ H λvs H1=>r vs H1 Q
def dJ (hc:dy X (.builtin id) r) (U:Gl X x) (hm:X.mg x=none) (Y:bootBuiltins x=some (.builtin id)) (ha:PA X (e::es) t) (hn:x ≠ "__name__":=by decide) (J:(x==("__debug__":Str))=false:=by decide)
  (Z:starEach (e::es) X.env=(false,eval e X.env)::starEach es X.env:=by rfl) (S:(backTo pos (starEach es X.env)).any (·.1)=false:=by rfl):PE X (.Call (.Name x p) (e::es) [] pos) (tCB r t):=by
 intro pins s σ H Q I h;refine LD (kT I U hm Y ?_ hn J);exact PyProof.Rows.callWith_builtin1 (thn (ha pos pins s σ H _ I h) λus s1 hq=>au hq λvs H1 I1 r1 q1=>hc pins s1 σ H1 vs us Q I1 r1 q1) Z S
def oM (hc:dy X (.type T) r) (U:Gl X x) (hm:X.mg x=none) (Y:bootBuiltins x=some (.type T)) (ha:PA X (e::es) t) (hn:x ≠ "__name__":=by decide) (J:(x==("__debug__":Str))=false:=by decide)
  (Z:starEach (e::es) X.env=(false,eval e X.env)::starEach es X.env:=by rfl) (S:(backTo pos (starEach es X.env)).any (·.1)=false:=by rfl):PE X (.Call (.Name x p) (e::es) [] pos) (tCB r t):=by
 intro pins s σ H Q I h;refine LD (kT I U hm Y ?_ hn J);exact Lq (thn (ha pos pins s σ H _ I h) λus s1 hq=>au hq λvs H1 I1 r1 q1=>hc pins s1 σ H1 vs us Q I1 r1 q1) Z S
end
end L2
namespace HT
open PySem PyProof.Rows List Option
noncomputable def lexLt:List Int->List Int->Bool
 | [],[]=>false
 | [],_::_=>true
 | _::_,[]=>false
 |x::xs,y::ys=>if x=y then lexLt xs ys else decide (x<y)
def lexLt_cons(x y)(xs ys):lexLt (x::xs) (y::ys)=if x=y then lexLt xs ys else decide (x<y):=rfl
def oj:lexLt [] []=false:=rfl
def mM(y)(ys):lexLt [] (y::ys)=true:=rfl
def mN(x)(xs):lexLt (x::xs) []=false:=rfl
def xX(A)(s)(a)(t)(c)(u):∃e,SeqAt.EqAt A s (.int a t) (.int c u) e/\(e=true ↔ a=c):=
 ⟨(a==c),SeqAt.EqAt.int_int a t c u,by simp⟩
def xY(A)(s)(a)(t)(c)(u)(prog)(w)(E)(Q)(h:Q (.bool (decide (a<c))) s) :
  wpAny (model prog w) A (richCompare .Lt (.int a t) (.int c u)) Q E s:=
 (PyProof.Rows.lt_int h:wpAny (model prog w) A (compareOp .Lt (.int a t) (.int c u)) Q E s)
section
open PySem.SeqAt List Option
open PySem.AutoSeq1 (wpAny_loadPart')
open PySem.MeetsSeq PySem.MeetsSeq2 PySem.MeetsSeq3 List Option
def tuple_lt_ints(l b)(items J)(n n2)(dd a3)(sl a4)(ns ms)(hi:IntsAre items.toList ns)(hj:IntsAre J.toList ms) :
  Meets (Builtin.«tuple.__lt__» ⟨[.ref l,.ref b],[]⟩)
   (λ_ R s=>s.heap.get? l=some { cls:=.type "tuple",dict:=dd,data:=.seq items n,slots:=sl }/\s.heap.get? b=some { cls:=.type "tuple",dict:=a3,data:=.seq J n2,slots:=a4 } /\
    R (.ok (.ret (.bool (lexLt ns ms)))) s):=
 .of_wp λprog w A R s h=>by
  obtain⟨hp,g,d,tk,os⟩:=s;refine mC h λhl hb h=>?_
  have f2:=LY;have z1:items.size=ns.length:=by rw[<- hi.length];simp
  have z2:J.size=ms.length:=by rw[<- hj.length];simp
  wp_walk using wpAny_loadPart' hl,wpAny_loadPart' hb,wpAny_forIn_list _ (λdF b s'=>b.1=none/\s'=⟨hp,g,d,tk,os⟩/\∃vs ws U Y,dF=vs.zip ws /\
   IntsAre vs U/\IntsAre ws Y/\U.length+J.size=Y.length+items.size/\R (.ok (.ret (.bool (lexLt U Y)))) ⟨hp,g,d,tk,os⟩) _
  case turn =>
   rintro ⟨y,x⟩ dF b s' ⟨aH,rfl,vs,ws,U,Y,hz,aL,Z,S,hR⟩;cases aL with
   |nil=>rw[zip_nil_left]at hz;cases hz
   |cons a t a0 =>
    cases Z with
    |nil=>rw[zip_nil_right]at hz;cases hz
    |cons c u a1 =>
     rw[zip_cons_cons]at hz;injection hz with a5 aP
     injection a5 with hy hx
     subst hy hx;rw[lexLt_cons]at hR;simp only[length_cons]at S;refine ag (xX A.in1 ⟨hp,g,d,tk,os⟩ a t c u) λe he ar=>?_
     refine j0 (he prog w _ _ ?_);cases e with
     |true =>
      rw[if_pos (ar.mp rfl)]at hR
      wp_walk
      exact⟨rfl,rfl,_,_,_,_,aP,a0,a1,by omega,hR⟩
     |false =>
      rw[if_neg (λq=>absurd (ar.mpr q) kn)]at hR;have a6:=xY A.in1 ⟨hp,g,d,tk,os⟩ a t c u prog w
      wp_walk using a6
      exact⟨_,rfl,by simpa using hR⟩
  case fin =>
   rintro ⟨b1,b2⟩ s' ⟨aH,rfl,vs,ws,U,Y,hz,aL,Z,S,hR⟩;simp only at aH;subst aH;have hv:lexLt U Y=decide (items.size<J.size):=by
    cases aL with
    |nil =>
     cases Z with
     |nil =>
      simp only[length_nil]at S;rw[oj];exact(KH (by omega)).symm
     |cons c u hw =>
      simp only[length_nil,length_cons]at S;rw[mM];exact(Ks (by omega)).symm
    |cons a t hv =>
     cases Z with
     |nil =>
      simp only[length_nil,length_cons]at S;rw[mN];exact(KH (by omega)).symm
     |cons c u hw =>
      rw[zip_cons_cons]at hz;exact wa hz
   rw[hv]at hR
   wp_walk
   exact⟨_,rfl,by simpa[Builtin.Tuple.tupleCompareSizes]using hR⟩
  case h =>
   exact⟨rfl,rfl,items.toList,J.toList,ns,ms,rfl,hi,hj,by omega,h⟩
end
section
variable{prog:Program}{w:World}{A:Around}{E:Value->Shared->Prop}{s:Shared}
def lt_tupInts{S J:Array Value}{ns ms:List Int}{Q:Value->Shared->Prop}(hl:IsTup s.heap l S)(hb:IsTup s.heap b J)(hi:IntsAre S.toList ns)(hj:IntsAre J.toList ms)
  (hu:A.units<cLine) (h:Q (.bool (lexLt ns ms)) s):wpAny (model prog w) A (compareOp .Lt (.ref l) (.ref b)) Q E s:=by
 refine cw λZq kq=>?_
 obtain⟨⟨cls,dd,data,sl⟩,ho,hc,n,hd⟩:=id hl;obtain⟨⟨aL,ao,data2,ar⟩,U,Y,n2,Z⟩:=id hb;simp only at hc hd Y Z;subst hc hd Y Z;refine kq ?_;exact LK (op:=.Lt) ⟨_,ho,rfl⟩ ⟨_,U,rfl⟩ PySem.F.slot_tuple_lt PySem.F.entry_tuple_lt (PySem.F.args_tuple_lt_2 _ _) (tuple_lt_ints l b S J n n2 dd ao sl ar ns ms hi hj)
  ⟨ho,U,show Value.bool _≠Value.notImplemented/\Q _ s from⟨(λx=>nomatch x),h⟩⟩ hu
def cat_tup(ht:IsTup s.heap t vs.toArray)(hb:IsTup s.heap b ws.toArray)(hv:vs≠[])
  (h1:ws=[]->Q (.ref t) s) (h2:ws≠[]->Q (.ref s.heap.objs.size) { s with heap:=s.heap.push { cls:=.type "tuple",data:=.seq (vs++ws).toArray } })
  (ar:vs.length+ws.length<=sizeLine):wpAny (model prog w) A (binaryOp .Add (.ref t) (.ref b)) Q E s:=by
 refine cw λZq kq=>?_
 obtain⟨⟨cls,dd,data,sl⟩,ho,hc,n,hd⟩:=id ht;obtain⟨⟨aP,S,data2,U⟩,J,Y,n2,Z⟩:=id hb;simp only at hc hd Y Z;subst hc hd Y Z;have e:vs.toArray++ws.toArray=(vs++ws).toArray:=by simp
 refine kq ?_;by_cases hw:ws=[]
 .exact MB ⟨_,ho,rfl⟩ ⟨_,J,rfl⟩ MC seq_tuple_add PySem.F.slot_tuple_add PySem.F.entry_tuple_add (PySem.F.args_tuple_add_2 _ _)
   (tuple_addW1 t b vs.toArray ws.toArray n n2 dd S sl U (by simpa using hv) (by simp[hw])) ⟨ho,J,h1 hw⟩
 .refine MB ⟨_,ho,rfl⟩ ⟨_,J,rfl⟩ MC seq_tuple_add PySem.F.slot_tuple_add PySem.F.entry_tuple_add (PySem.F.args_tuple_add_2 _ _)
   (tuple_addW2 t b vs.toArray ws.toArray n n2 dd S sl U (by simpa using hv) (by simpa using hw) (by rw[oe,oe];exact ar)) ⟨ho,J,?_⟩
  rw[e];exact h2 hw
noncomputable def sIx(n d:Nat):Option Int->Nat
 |none=>d
 |some v=>if v<0 then(v+(n:Int)).toNat else min v.toNat n
def Ed(n d)(hd:d<=n)(o):sIx n d o<=n:=by
 cases o with
 |none=>exact hd
 |some v =>
  show(if v<0 then(v+_).toNat else min v.toNat n)<=n
  grind
def va(v)(n d:Nat):(if v<0 then max (v+(n:Int)) 0 else min v (n:Int))=((sIx n d (some v):Nat):Int):=by
 show(if v<0 then max _ 0 else min v _)=(((if v<0 then(v+_).toNat else min v.toNat n):Nat):Int)
 grind
def tK(lo hi)(n:Nat):Builtin.Slice.sliceAdjust lo hi 1 (n:Int)=(((sIx n 0 lo:Nat):Int),((sIx n n hi:Nat):Int)):=by
 refine Prod.ext ?_ ?_
 .cases lo with
  |none=>rfl
  |some v=>exact va v n 0
 .cases hi with
  |none=>rfl
  |some v=>exact va v n n
def tL(i j:Nat):Builtin.Slice.slicePlaces (i:Int) (j:Int) 1=j-i:=by
 unfold Builtin.Slice.slicePlaces
 grind
def mQ(p:IsPart v o)(h:Q o s):wpAny (model prog w) A (Builtin.Slice.slicePartIndex v) Q E s:=by
 cases p<;>first|exact slicePart_none h|exact slicePart_int h
def gH{lo hi:Option Int}{n:Nat}{Q:Int×Int×Nat->Shared->Prop}(Z:s.heap.IsSliceOf sl U Y .none)(pl:IsPart U lo)(pu:IsPart Y hi)
  (h:Q (((sIx n 0 lo:Nat):Int),1,sIx n n hi-sIx n 0 lo) s):wpAny (model prog w) A (Builtin.Slice.sliceApplied (.ref sl) (pure (n:Int))) Q E s:=by
 refine bq (id Z) λos J aH S=>?_
 refine j0 (j0 (wpAny_field J S (x:=U) rfl (j0 (wpAny_field J S (x:=Y) rfl (j0 (wpAny_field J S (x:=.none) rfl (ox ?_)))))));refine j0 (slicePart_none ?_);rw[if_neg (by decide)];refine j0 (mQ pl (j0 (mQ pu (j0 (ox ?_)))));show wpAny _ _ (match Builtin.Slice.sliceAdjust lo hi 1 _ with|(lo,hi)=>pure (lo,_,Builtin.Slice.slicePlaces lo hi 1)) _ _ s;rw[tK lo hi n];show wpAny _ _ (pure (((sIx n 0 lo:Nat):Int),_,Builtin.Slice.slicePlaces _ _ 1)) _ _ s;rw[tL];exact ox h
def xZ(xs:Array Value)(i k:Nat):((range k).filterMap λ(m:Nat)=>xs[((i:Int)+(m:Int)*1).toNat]?).toArray=((xs.toList.drop i).take k).toArray:=by
 have e:(λ(m:Nat)=>xs[((i:Int)+(m:Int)*1).toNat]?)=λm=>xs[i+m]?:=by
  funext m
  have:((i:Int)+(m:Int)*1).toNat=i+m:=by omega
  rw[this]
 rw[e];have:=pick_run xs i k;rw[filterMap_map]at this;have J:((λx=>xs[x]?)∘λx=>i+x)=λm=>xs[i+m]?:=rfl
 rw[J]at this;rw[this]
def getItem_tuple_cut{J:Array Value}{vl vu:Value}{lo hi:Option Int}{Q:Value->Shared->Prop}(ht:IsTup s.heap t J)(hs:s.heap.IsSliceOf sl vl vu .none)(pl:IsPart vl lo)(pu:IsPart vu hi)
  (hw:¬ (sIx J.size 0 lo=0/\sIx J.size J.size hi=J.size))
  (h:Q (.ref s.heap.objs.size) { s with heap:=s.heap.push { cls:=.type "tuple",data:=.seq ((J.toList.drop (sIx J.size 0 lo)).take (sIx J.size J.size hi-sIx J.size 0 lo)).toArray } })
  (a1:J.size<=sizeLine):wpAny (model prog w) A (getItem (.ref t) (.ref sl)) Q E s:=by
 have S:sizeOk (.seq ((J.toList.drop (sIx J.size 0 lo)).take (sIx J.size J.size hi-sIx J.size 0 lo)).toArray):=by
  show((J.toList.drop (sIx J.size 0 lo)).take (sIx J.size J.size hi-sIx J.size 0 lo)).toArray.size<=sizeLine;rw[oe,L8,Mi,Array.length_toList];omega
 have hj:sIx J.size J.size hi<=J.size:=Ed _ _ (pe _) hi;refine bq (id hs) λos U Y a2=>?_
 have Z:s.TypeIs (.ref sl) "slice":=⟨os,U,Y⟩;unfold getItem
 try with_reducible refine Lw ?_
 first|refine j0 (ox ?_)|skip
 refine j0 (wpAny_sequenceKey ht.typeIs (by decide) ?_);refine j0 (LC (name:=Str.ofString "__getitem__") ht.typeIs K0
  (Ln K0 ht.typeIs entry_tuple_getitem ?_ (args_tuple_getitem _ _)))
 show wpAny _ _ (Builtin.Tuple.tupleItemsOf (.ref t) >>= _) _ _ s;refine j0 (tupleItemsOf_ ht ?_);refine j0 (wpAny_typeOf Z ?_);rw[if_pos (by decide)];refine j0 (gH hs pl pu ?_);have ao:¬ ((((sIx J.size 0 lo:Nat):Int)==0&&(1:Int)==1&&(sIx J.size J.size hi-sIx J.size 0 lo)==J.size)=true):=by
  simp_all
 show wpAny _ _ (if (((sIx J.size 0 lo:Nat):Int)==0&&(1:Int)==1&&(sIx J.size J.size hi-sIx J.size 0 lo)==J.size)=true then _ else _) _ _ s;rw[if_neg ao,xZ]
 first
  | exact j0 (m:=Builtin.Tuple.tupleExact _) (Lj (ox ⟨_,rfl,ox h⟩) S)
  | exact j0 (m:=Builtin.Tuple.tupleExact _) (Lj (j0 (ox (ox ⟨_,rfl,ox h⟩))) S)
  | exact j0 (j0 (m:=Builtin.Tuple.tupleExact _) (Lj (ox (ox ⟨_,rfl,ox h⟩)) S))
  | exact j0 (j0 (m:=Builtin.Tuple.tupleExact _) (Lj (ox ⟨_,rfl,ox h⟩) S))
end
end HT
namespace L2
open PySem PySem.Spec PyProof.Rows List Option
noncomputable abbrev TO:=St->Hp->(Option Int->Hp->Prop)->Prop
def PO(X:Cx)(e:Option Expr)(t:TO):Prop:=
 ∀pins s (σ:St) H Q,Inv X pins σ H s->t σ H Q ->
  wpAny (model X.prog X.w) X.A (evalPart e X.env) (λu s'=>∃o H',Inv X pins σ H' s'/\IsPart u o/\Q o H') X.xe s
noncomputable def AX:TO:=λ_ H Q=>Q none H
noncomputable def GX(t:TE):TO:=λσ H Q=>t σ H λx H1=>∃i,x=.int i/\Q (some i) H1
def jl :∀{us},aN (ns.map V.int) us->IntsAre us ns:=by
 induction ns with
 |nil=>intro us r;rw[map_nil]at r;cases r;exact .nil
 |cons n ns ih =>
  intro us r;cases r with
  |cons r1 r2 =>
   obtain⟨t,e⟩:=r1;subst e;exact .cons n t (ih r2)
section
variable{X:Cx}{e:Expr}{te:TE}{lo hi:Option Expr}{tl th:TO}{pos p2:Pos}
def AY:PO X none AX:=by
 intro pins s σ H Q I h;rw[evalPart_none];exact ox ⟨none,H,I,.none,h⟩
def AZ(h:PE X e te):PO X (some e) (GX te):=by
 intro pins s σ H Q I hw;rw[evalPart_some];refine thn (h pins s σ H _ I hw) λu s1 S=>au S λx H1 U r1 Y=>?_
 refine ag Y λi J q=>?_
 subst J;obtain⟨t,rfl⟩:=r1;exact⟨some i,H1,U,.int i t,q⟩
def SlR(X:Cx)(r:V->Option Int->Option Int->Hp->VK->Prop):Prop:=
 ∀pins s (σ:St) H x v J S lo hi U Q,Inv X pins σ H s->aF x v->s.heap.IsSliceOf U J S .none->IsPart J lo->IsPart S hi->r x lo hi H Q ->
  ∃T id,typeLookup (.type T) "__getitem__"=pure (some (.builtin id))/\s.TypeIs v T/\wpAny (model X.prog X.w) X.A (getItem v (.ref U)) (EP X pins σ Q) X.xe s
noncomputable def tSl(r:V->Option Int->Option Int->Hp->VK->Prop)(te:TE)(tl th:TO):TE:=λσ H Q=>te σ H λx H1=>tl σ H1 λl H2=>th σ H2 λu J=>r x l u J Q
def x_(hr:SlR X r)(he:PE X e te)(hl:PO X lo tl)(hu:PO X hi th):PE X (.Subscript e (.Slice lo hi none p2) pos) (tSl r te tl th):=by
 intro pins s σ H Q I h;refine Subscript_ (thn (he pins s σ H _ I h) λv s1 S=>au S λx H1 I1 r1 q1=>?_);refine wpAny_Slice (thn (hl pins s1 σ H1 _ I1 q1) λU s2 S=>au S λl H2 I2 pl q2=>thn (hu pins s2 σ H2 _ I2 q2) λY J S=>au S λu Z I3 pu q3=>?_);rw[evalPart_none];refine ox ?_;have I4:Inv X pins σ Z { J with heap:=J.heap.push { cls:=.type "slice",data:=.fields #[U,Y,.none] } }:=I3.kept (t':=J.toks) λb ob q=>mu _ q
 obtain⟨T,id,hT,ht,hg⟩:=hr pins { J with heap:=J.heap.push { cls:=.type "slice",data:=.fields #[U,Y,.none] } } σ Z x v U Y l u J.heap.objs.size Q I4 r1 (Heap.IsSliceOf.new ..) pl pu q3;exact tail_any ht hT hg (by with_unfolding_all rfl)
noncomputable def rA(xs:List V)(lo hi:Option Int):List V:=(xs.drop (HT.sIx xs.length 0 lo)).take (HT.sIx xs.length xs.length hi-HT.sIx xs.length 0 lo)
def lK(xs)(lo hi):(rA xs lo hi).length<=xs.length:=by
 unfold rA;rw[L8,Mi];omega
def JN(K:MP):V->Option Int->Option Int->Hp->VK->Prop:=λx lo hi H Q=>∃a xs,x=.ref a/\SqT K H a xs /\
 ¬ (HT.sIx xs.length 0 lo=0/\HT.sIx xs.length xs.length hi=xs.length)/\∀p,H p=none->Q (.ref p) (upd H p (.tup (rA xs lo hi)))
def Ee:SlR X (JN X.K):=by
 intro pins s σ H x v vl vu lo hi sl Q I U Y pl Z h;refine jF h λa xs S hx hw q=>?_
 subst S;subst U;refine bq (I.tuple hx) λits r ht hz=>?_
 have J:its.toArray.size=xs.length:=by rw[oe];exact r.length.symm
 refine⟨"tuple",_,K0.lookup,ht.typeIs,?_⟩;refine HT.getItem_tuple_cut ht Y pl Z (by rw[J];exact hw) ?_ (by rw[J];exact hz);rw[J];refine⟨.ref s.heap.objs.size,_,I.laid (t':=s.toks) (o:=.tup (rA xs lo hi)) (λb ob q=>mu _ q) (pe _) ?_,rfl,q _ (I.hok.fresh (pe _))⟩;exact⟨xw (lK xs lo hi) hz,_,(r.drop (HT.sIx xs.length 0 lo)).take (HT.sIx xs.length xs.length hi-HT.sIx xs.length 0 lo),IsTup.new _ _⟩
noncomputable def GY(K:MP):R2:=λx y H Q=>∃a b xs ys,x=.ref a/\y=.ref b/\SqT K H a xs/\SqT K H b ys/\xs≠[]/\xs.length+ys.length<=sizeLine /\
 (ys=[]->Q (.ref a) H)/\(ys≠[]->∀p,H p=none->Q (.ref p) (upd H p (.tup (xs++ys))))
def aN.nil_iff(r:aN xs us):us=[] ↔ xs=[]:=by
 cases r<;>simp_all
def A0:OpR X (binaryOp .Add) (GY X.K):=by
 intro pins s σ H x y v u Q I S U h;refine cw λZq Y=>?_
 obtain⟨a,b,xs,ys,rfl,rfl,ha,Z,hx,hz,q1,q2⟩:=h;subst S;subst U;refine Y ?_;refine bq (I.tuple ha) λits r1 p1 _=>?_
 refine bq (I.tuple Z) λJ r2 p2 _=>?_
 refine HT.cat_tup p1 p2 (λz=>hx (r1.nil_iff.mp z)) (λz=>⟨.ref a,H,I,rfl,q1 (r2.nil_iff.mp z)⟩) (λz=>?_) (by rw[<- r1.length,<- r2.length];exact hz);refine⟨.ref s.heap.objs.size,_,I.laid (t':=s.toks) (o:=.tup (xs++ys)) (λb ob q=>mu _ q) (pe _) ?_,rfl,q2 (λw=>z (r2.nil_iff.mpr w)) _ (I.hok.fresh (pe _))⟩;exact⟨by rw[KU];exact hz,_,r1.append r2,IsTup.new _ _⟩
end
noncomputable def ixN(n:Nat)(i:Int):Option Nat:=if 0<=i then(if i<n then some i.toNat else none)else if -(n:Int)<=i then some (i+n).toNat else none
noncomputable def atI{α:Type}(xs:List α)(i:Int):Option α:=(ixN xs.length i).bind λj=>xs[j]?
def vb(h:ixN n i=some j):seqIndex? i n=some j/\j<n/\-(n:Int)<=i/\i<n:=by
 unfold ixN at h;by_cases h0:0<=i
 .rw[if_pos h0]at h;by_cases h1:i<n
  .rw[if_pos h1]at h;have e:=uW h;exact⟨by rw[seqIndex_of h0 h1,e],by omega,by omega,h1⟩
  .simp_all
 .rw[if_neg h0]at h;by_cases h1:-(n:Int)<=i
  .rw[if_pos h1]at h;have e:=uW h;exact⟨by rw[seqIndex_neg (Mu.mp ‹_›) h1,e],by omega,h1,by omega⟩
  .simp_all
def pO(h:atI xs i=some v):∃j,seqIndex? i xs.length=some j/\xs[j]?=some v/\j<xs.length/\-(xs.length:Int)<=i/\i<xs.length:=by
 unfold atI at h;cases e:ixN xs.length i with
 |none=>rw[e]at h;exact bn h
 |some j =>
  rw[e]at h;refine gE (vb e) λh1 h2 h3 h4=>?_
  exact⟨j,h1,h,h2,h3,h4⟩
def pP{α:Type}{xs:List α}{j:Nat}{v:α}(h:xs[j]?=some v):atI xs (j:Int)=some v:=by
 have J:j<xs.length:=(uM.mp h).1;have e:ixN xs.length (j:Int)=some j:=by
  unfold ixN;rw[if_pos (by omega),if_pos (by omega)];simp
 unfold atI;rw[e];exact h
def vc(b:Expr):Prop:=∀o i,subscripted b false o i=operate [o,i] (getItem o i)
def IxR(X:Cx)(r:R2):Prop:=
 ∀value slice pins s (σ:St) H x y v u Q,Inv X pins σ H s->aF x v->aF y u->r x y H Q ->
  subscripted slice false v u=operate [v,u] (getItem v u)->wpAny (model X.prog X.w) X.A (subscriptTail value slice v u) (EP X pins σ Q) X.xe s
def MtR(X:Cx)(id:String)(r:V->List V->Hp->VK->Prop):Prop:=
 ∀pins s (σ:St) H x xs v us Q,Inv X pins σ H s->aF x v->aN xs us->r x xs H Q ->
  wpAny (model X.prog X.w) X.A (call (.builtin id) (v::us)) (EP X pins σ Q) X.xe s
section
variable{X:Cx}{a b:Expr}{ta tb:TE}{pos:Pos}
theorem IxR.or(h:IxR X r)(h':IxR X Y):IxR X (λx y H Q=>r x y H Q\/Y x y H Q):=by
 intro value slice pins s σ H x y v u Q I J S q U;rcases q with q|q
 .exact h value slice pins s σ H x y v u Q I J S q U
 .exact h' value slice pins s σ H x y v u Q I J S q U
def iD(J:IxR X r)(ha:PE X a ta)(S:PE X b tb)(U:vc b):PE X (.Subscript a b pos) (tOp r ta tb):=by
 intro pins s σ H Q I h;exact Subscript_ (DM ha S I h λv u Y x y H2 Z rx ry q=>J a b pins Y σ H2 x y v u Q Z rx ry q (U _ _))
noncomputable def rB(K:MP):R2:=λx y H Q=>∃p xs i v,x=.ref p/\y=.int i/\SqL K H p xs/\atI xs i=some v/\Q v H
noncomputable def GZ(K:MP):R2:=λx y H Q=>∃p xs i v,x=.ref p/\y=.int i/\SqT K H p xs/\atI xs i=some v/\Q v H
noncomputable def G3:R2:=λx y H Q=>∃z i c,x=.str z/\y=.int i/\z.length<=sizeLine/\atI z.cps.toList i=some c/\Q (.str ⟨#[c]⟩) H
def fu:IxR X (rB X.K):=by
 intro value slice pins s σ H x y v u Q I rx ry h Z;refine oE h λp xs i z J S hq he q=>?_
 subst J;subst S;subst rx;obtain⟨t,rfl⟩:=ry;refine bq (I.list hq) λits r pl hz=>?_
 refine oA (pO he) λj h1 h2 h3 h4 h5=>?_
 refine ag (r.get h2) λw ew U=>?_
 have hl:=r.length;have hn:=kU;have fin:EP X pins σ Q w s:=⟨z,H,I,U,q⟩;by_cases h0:0<=i
 .have Y:i.toNat=j:=by
   rw[seqIndex_of h0 h5]at h1;exact uW h1
  exact item_listR pl.isList h0 (by omega) (by rw[Y];simpa using ew) fin Z
 .have Y:(i+(its.toArray.size:Int)).toNat=j:=by
   rw[seqIndex_neg (Mu.mp ‹_›) h4]at h1;rw[oe,<- hl];exact uW h1
  exact subscriptTail_builtinR (x:=w) pl.isList.typeIs slot_list_getitem.lookup
   (wpAny_getItem_list_neg (Q:=λr s'=>r=w/\EP X pins σ Q r s') pl.isList (Mu.mp ‹_›) (by rw[oe]<;>omega) (by omega) (by rw[Y];simpa using ew) ⟨rfl,fin⟩) Z
def tM:IxR X (GZ X.K):=by
 intro value slice pins s σ H x y v u Q I Y Z h hs;refine cw λZq kq=>?_
 refine oE h λp xs i z J S hq he q=>?_
 subst J;subst S;subst Y;obtain⟨t,rfl⟩:=Z;refine bq (I.tuple hq) λits r pl hz=>?_
 refine oA (pO he) λj h1 h2 h3 h4 h5=>?_
 refine ag (r.get h2) λw ew U=>?_
 have hl:=r.length;have hn:=kU;have fin:EP X pins σ Q w s:=⟨z,H,I,U,q⟩;refine kq ?_;exact subscriptTail_builtinR pl.typeIs slot_tuple_getitem.lookup
  (getItem_tuple pl (by omega) (by omega) (by rw[oe,<- hl];exact h1) (by simpa using ew) ⟨rfl,fin⟩) hs
def Ef:IxR X G3:=by
 intro value slice pins s σ H x y v u Q I U Y h Z;refine cw λZq kq=>?_
 refine oC h λz i c J S hz he q=>?_
 subst J;subst S;obtain⟨t,rfl⟩:=U;obtain⟨t',rfl⟩:=Y;refine oA (pO he) λj h1 h2 h3 h4 h5=>?_
 have hl:z.cps.toList.length=z.length:=by rfl
 rw[hl]at h1 h4 h5;have hn:=kU;refine kq ?_;exact tail_any (typeIs_str s z t) slot_str_getitem.lookup (getItem_str (by
  have e1:decide (i < -(2 ^ 63:Int))=false:=KH (by omega);have e2:decide (i>=2 ^ 63)=false:=KH (by omega);rw[e1,e2,Bool.or_false]) (by rw[h1];simpa using h2) ⟨.str ⟨#[c]⟩,H,I.tok _,⟨_,rfl⟩,q⟩) Z
noncomputable def rIx(K:MP):R2:=λx y H Q=>rB K x y H Q\/GZ K x y H Q\/G3 x y H Q
def ya:IxR X (rIx X.K):=fu.or (tM.or Ef)
def tN (its:List Value) (n j) (u):Obj.mapSeq (·.setIfInBounds j u) { cls:=.type "list",data:=.seq its.toArray n }={ cls:=.type "list",data:=.seq (its.set j u).toArray n }:=by
 simp[Obj.mapSeq]
theorem Inv.lst(I:Inv X pins σ H s)(h:H p=some (.lst xs)) :
  ∃its n,aN xs its/\s.heap.get? p=some { cls:=.type "list",data:=.seq its.toArray n }/\xs.length<=sizeLine:=by
 obtain⟨z,its,n,r,e⟩:=I.hok p _ h;exact⟨its,n,r,e,z⟩
def Inv.lstUpd{σ:St}{H:Hp}{s:Shared}{p:Addr}{xs ys:List V}{its its':List Value}{n J:Nat}{f:Obj->Obj}(I:Inv X pins σ H s)(h:H p=some (.lst xs))
  (U:s.heap.get? p=some { cls:=.type "list",data:=.seq its.toArray n }) (S:f { cls:=.type "list",data:=.seq its.toArray n }={ cls:=.type "list",data:=.seq its'.toArray J }) (r:aN ys its') (hz:ys.length<=sizeLine) (t) :
  Inv X pins σ (upd H p (.lst ys)) { s with heap:=s.heap.update p f,toks:=t }:=by
 have e:(s.heap.update p f).get? p=some { cls:=.type "list",data:=.seq its'.toArray J }:=by
  rw[LO f U (by rw[S]<;>rfl),S]
 refine I.write (x:=p) (e:=p) (by rw[h];trivial) (.inl rfl) (λb u Y q=>(L9 _ _ (Ku Y)).trans q) ⟨_,e⟩ ?_;exact⟨hz,its',J,r,e⟩
def vd:V->V->V->Hp->(Hp->Prop)->Prop:=λo i v H Q=>∃p xs k j,o=.ref p/\i=.int k/\H p=some (.lst xs)/\ixN xs.length k=some j/\Q (upd H p (.lst (xs.set j v)))
def yb:GL X vd:=by
 intro pins s σ H o i v ov iv u Q I ro ri rv h;refine oE h λp xs k j J S hp hj q=>?_
 subst J;subst S;subst ro;obtain⟨t,rfl⟩:=ri;refine au (I.lst hp) λits n r U hz=>?_
 refine gE (vb hj) λh1 h2 h3 h4=>?_
 have Y:=r.length;have hn:=kU;have I':Inv X pins σ (upd H p (.lst (xs.set j v))) { s with heap:=s.heap.update p (Obj.mapSeq (·.setIfInBounds j u)) }:=
  I.lstUpd hp U (tN its n j u) (r.set rv j) (by rw[L3];exact hz) s.toks
 by_cases h0:0<=k
 .have Z:k.toNat=j:=by
   rw[seqIndex_of h0 h4]at h1;exact uW h1
  exact PySem.W.ki_setAt U h0 (by omega) (by rw[oe,<- Y];exact h4) (by rw[Z];exact⟨_,I',q⟩)
 .have Z:(k+(its.toArray.size:Int)).toNat=j:=by
   rw[seqIndex_neg (Mu.mp ‹_›) h3]at h1;rw[oe,<- Y];exact uW h1
  exact PySem.W.ki_setBack U (Mu.mp ‹_›) (by rw[oe,<- Y];exact h3) (by omega) (by rw[Z];exact⟨_,I',q⟩)
def pQ(lo hi)(n):(sliceBounds lo hi none n).1=((HT.sIx n 0 lo:Nat):Int)/\(sliceBounds lo hi none n).2.1=((HT.sIx n n hi:Nat):Int)/\(sliceBounds lo hi none n).2.2=1:=by
 refine⟨?_,?_,rfl⟩
 .cases lo with
  |none=>rfl
  |some i =>
   simp[sliceBounds,HT.sIx,getD_none,show(1:Int) > 0 by decide,if_true];by_cases h:i<0
   .simp[h,if_true]<;>omega
   .simp[h,MN]<;>omega
 .cases hi with
  |none=>rfl
  |some i =>
   simp[sliceBounds,HT.sIx,getD_none,show(1:Int) > 0 by decide,if_true];by_cases h:i<0
   .simp[h,if_true]<;>omega
   .simp[h,MN]<;>omega
def ol(its:List Value)(lo hi:Option Int):slicePick its.toArray lo hi none=((its.drop (HT.sIx its.length 0 lo)).take (HT.sIx its.length its.length hi-HT.sIx its.length 0 lo)).toArray:=by
 refine mC (pQ lo hi its.toArray.size) λh1 h2 h3=>?_
 unfold slicePick;rw[h1,h2,h3];simp only[sliceRange_one,pick_run,oe]<;>rfl
def JO(K:MP):V->Option Int->Option Int->Hp->VK->Prop:=λx lo hi H Q=>∃a xs,x=.ref a/\SqL K H a xs/\∀p,H p=none->Q (.ref p) (upd H p (.lst (rA xs lo hi)))
def A1:SlR X (JO X.K):=by
 intro pins s σ H x v vl vu lo hi sl Q I U Y pl Z h;refine au h λa xs S hx q=>?_
 subst S;subst U;refine bq (I.list hx) λits r ht hz=>?_
 have J:=r.length;refine⟨"list",_,slot_list_getitem.lookup,ht.isList.typeIs,?_⟩;refine wpAny_getItem_list_slice ht.isList Y pl Z .none (by simp) ?_ (by rw[oe]<;>omega);rw[ol,<- J];refine⟨.ref s.heap.objs.size,_,I.laid (t':=s.toks) (o:=.lst (rA xs lo hi)) (λb ob q=>mu _ q) (pe _) ?_,rfl,q _ (I.hok.fresh (pe _))⟩;exact⟨xw (lK xs lo hi) hz,_,0,(r.drop (HT.sIx xs.length 0 lo)).take (HT.sIx xs.length xs.length hi-HT.sIx xs.length 0 lo),Kv _ rfl⟩
noncomputable def iE:V->Bool
 | .non=>true
 | .bl _=>true
 | .int _=>true
 | .str _=>true
 | _=>false
noncomputable def eqV:V->V->Bool
 | .non,.non=>true
 | .bl a,.bl b=>a==b
 | .bl a,.int b=>(if a then 1 else 0)==b
 | .int a,.bl b=>a==(if b then 1 else 0)
 | .int a,.int b=>a==b
 | .str a,.str b=>a==b
 | _,_=>false
def yc(S:aF y u)(J:aF x v)(Y:iE y=true)(U:iE x=true):SeqAt.EqAt A s u v (eqV y x):=by
 cases y with
 |non =>
  cases S;cases x with
  |non=>subst J;exact SeqAt.EqAt.same _
  |bl b=>subst J;exact SeqAt.EqAt.none_bool b
  |int b=>obtain⟨t,rfl⟩:=J;exact SeqAt.EqAt.none_int b t
  |str b=>obtain⟨t,rfl⟩:=J;exact SeqAt.EqAt.none_str b t
  | _=>exact absurd (show false=true from U) kn
 |bl a =>
  subst S;cases x with
  |non=>subst J;exact SeqAt.EqAt.bool_none a
  |bl b=>subst J;exact SeqAt.EqAt.bool_bool a b
  |int b=>obtain⟨t,rfl⟩:=J;exact SeqAt.EqAt.bool_int a b t
  |str b=>obtain⟨t,rfl⟩:=J;exact SeqAt.EqAt.bool_str a b t
  | _=>exact absurd (show false=true from U) kn
 |int a =>
  obtain⟨t',rfl⟩:=S;cases x with
  |non=>subst J;exact SeqAt.EqAt.int_none a t'
  |bl b=>subst J;exact SeqAt.EqAt.int_bool a t' b
  |int b=>obtain⟨t,rfl⟩:=J;exact SeqAt.EqAt.int_int a t' b t
  |str b=>obtain⟨t,rfl⟩:=J;exact SeqAt.EqAt.int_str a t' b t
  | _=>exact absurd (show false=true from U) kn
 |str a =>
  obtain⟨t',rfl⟩:=S;cases x with
  |non=>subst J;exact SeqAt.EqAt.str_none a t'
  |bl b=>subst J;exact SeqAt.EqAt.str_bool a t' b
  |int b=>obtain⟨t,rfl⟩:=J;exact SeqAt.EqAt.str_int a t' b t
  |str b=>obtain⟨t,rfl⟩:=J;exact SeqAt.EqAt.str_str a t' b t
  | _=>exact absurd (show false=true from U) kn
 | _=>exact absurd (show false=true from Y) kn
def fw:dy X (.builtin "len") (λxs H Q=>∃p ys,xs=[.ref p]/\(SqL X.K H p ys\/SqT X.K H p ys)/\Q (.int ys.length) H):=by
 intro pins s σ H xs us Q I r h;refine au h λp ys U S q=>?_
 subst U;refine ag (jL r) λu Y rx=>?_
 subst Y;subst rx;have hn:=kU;rcases S with S|S
 .obtain⟨its,Z,pl,hz⟩:=I.list S;have J:=Z.length;exact Calls.call_len_list pl.isList (by simp[oe]<;>omega) ⟨.int ys.length,H,I.tok _,⟨s.toks+1,by rw[oe,J]⟩,q⟩
 .obtain⟨its,Z,pl,hz⟩:=I.tuple S;have J:=Z.length;exact len_tuple pl (by simp[oe]<;>omega) ⟨.int ys.length,H,I.tok _,⟨s.toks+1,by rw[oe,J]⟩,q⟩
def pR:dy X (.type "list") (λxs H Q=>∃p ys,xs=[.ref p]/\(SqL X.K H p ys\/SqT X.K H p ys)/\∀l,H l=none->Q (.ref l) (upd H l (.lst ys))):=by
 intro pins s σ H xs us Q I r h;refine au h λp ys Z U q=>?_
 subst Z;refine ag (jL r) λu ao rx=>?_
 subst ao;subst rx;have fin:∀its,aN ys its->ys.length<=sizeLine->∀h' J,(∀b o',s.heap.get? b=some o'->h'.get? b=some o') ->
   h'.get? s.heap.objs.size=some { cls:=.type "list",dict:=none,data:=.seq its.toArray J,slots:=#[] }->EP X pins σ Q (.ref s.heap.objs.size) { s with heap:=h' }:=λits S hz h' J kp e =>
  ⟨.ref s.heap.objs.size,_,I.laid (t':=s.toks) kp (pe _) (show b9 X.prog X.w _ h' _ (.lst ys)from⟨hz,its,J,S,e⟩),rfl,q _ (I.hok.fresh (pe _))⟩
 rcases U with U|U
 .obtain⟨its,S,pl,hz⟩:=I.list U;have Y:=S.length;obtain⟨o,ho,hc,n,hd⟩:=pl.isList;exact call_list_seq p (.inl rfl) ho hc hd (λh' J kp e=>fin its S hz h' J kp e) (by simp only[oe]<;>omega)
 .obtain⟨its,S,pl,hz⟩:=I.tuple U;have Y:=S.length;obtain⟨o,ho,hc,n,hd⟩:=pl;exact call_list_seq p (.inr rfl) ho hc hd (λh' J kp e=>fin its S hz h' J kp e) (by simp only[oe]<;>omega)
def jb:dy X (.type "tuple") (λxs H Q=>∃p ys,xs=[.ref p]/\((SqL X.K H p ys/\∀l,H l=none->Q (.ref l) (upd H l (.tup ys)))\/(SqT X.K H p ys/\Q (.ref p) H))):=by
 intro pins s σ H xs us Q I r h;obtain⟨p,ys,rfl,h⟩:=h;refine ag (jL r) λu J rx=>?_
 subst J;subst rx;rcases h with⟨S,q⟩|⟨S,q⟩
 .refine bq (I.list S) λits U pl hz=>?_
  have Y:=U.length;refine call_tuple_list pl.isList (λh' kp=>?_) (by simp[oe]<;>omega);have Z:=I.kept (t':=s.toks) kp;have I2:Inv X pins σ (upd H h'.objs.size (.tup ys)) { s with heap:=h'.push { cls:=.type "tuple",data:=.seq its.toArray } }:=
   Z.laid (λb o e=>mu _ e) (pe _) (show b9 X.prog X.w _ _ _ _ from⟨hz,its,U,IsTup.new _ _⟩)
  exact⟨.ref h'.objs.size,_,I2,rfl,q _ (Z.hok.fresh (pe _))⟩
 .refine bq (I.tuple S) λits U pl hz=>?_
  exact call_tuple_same pl ⟨.ref p,H,I,rfl,q⟩
def tyV(K:MP)(T:String)(x:V)(H:Hp):Prop:=match x with
 | .str _=>T="str"
 | .int _=>T="int"
 | .ref p=>(T="list"/\∃xs,SqL K H p xs)\/(T="tuple"/\∃o,K.lookup p=some o/\o.cls=.type "tuple"/\o.dict=none) \/
   (T="dict"/\((∃kvs,H p=some (.dK kvs))\/∃kvs,H p=some (.dT kvs)))\/(T="set"/\∃S n,H p=some (.set S n))
 | _=>False
def Eg(I:Inv X pins σ H s)(r:aF x v)(ty:tyV X.K T x H) :
  s.TypeIs v T/\∀a,v=.ref a->∃ob,s.heap.get? a=some ob/\ob.dict=none:=by
 cases x with
 |str z =>
  obtain⟨t,rfl⟩:=r;cases (show T="str" from ty);exact⟨typeIs_str s z t,λ_ e=>nomatch e⟩
 |int i =>
  obtain⟨t,rfl⟩:=r;cases (show T="int" from ty);exact⟨typeIs_int s i t,λ_ e=>nomatch e⟩
 |ref p =>
  subst r;rcases ty with⟨rfl,xs,Y⟩|⟨rfl,o,J,hc,hd⟩|⟨rfl,J⟩|⟨rfl,S,n,J⟩
  .refine bq (I.list Y) λits _ pl _=>?_
   refine⟨pl.isList.typeIs,λa e=>?_⟩;cases e;refine jF pl λo n e c hd _=>?_
   exact⟨o,e,hd⟩
  .refine⟨⟨o,I.kIn p o J,hc⟩,λa e=>?_⟩;cases e;exact⟨o,I.kIn _ o J,hd⟩
  .have z:∃o,s.heap.get? p=some o/\o.ExactDict:=by
    rcases J with⟨kvs,J⟩|⟨kvs,J⟩
    .obtain⟨_,_,_,_,o,_,_,e,ex,_⟩:=I.hok p _ J;exact⟨o,e,ex⟩
    .obtain⟨_,_,_,_,o,_,_,e,ex,_⟩:=I.hok p _ J;exact⟨o,e,ex⟩
   obtain⟨o,e,ex⟩:=z;refine⟨⟨o,e,ex.1⟩,λa U=>?_⟩;cases U;exact⟨o,e,ex.2.1⟩
  .refine GE (I.hok p _ J) λo _ _ _ e ex _=>?_
   refine⟨⟨o,e,ex.1⟩,λa U=>?_⟩;cases U;exact⟨o,e,ex.2.1⟩
 | _=>exact False.elim ty
noncomputable def tBM(K:MP)(T:String)(r:V->List V->Hp->VK->Prop)(to:TE)(t:TA):TE:=λσ H Q=>to σ H λx H1=>tyV K T x H1/\t σ H1 λxs H2=>r x xs H2 Q
variable{o e:Expr}{es:List Expr}{to:TE}{t:TA}{name:Str}{apos cpos:Pos}{T id:String}{r:V->List V->Hp->VK->Prop}
def mS (pa:PlainAttrs T) (slot:Slot T name id) (Z:typeOf (.builtin id)=pure (.type "method_descriptor")) (hm:MtR X id r) (ho:PE X o to) (ha:PA X (e::es) t)
  (S:attributeBase o name X.env (eval o X.env)=eval o X.env:=by rfl)
  (Y:((backTo cpos (starEach (e::es) X.env)).all (λx=>!x.1)&&(backToKw cpos (keywordEach [] X.env)).all (λx=>x.1.isSome)
  &&decide ((e::es).length+([]:List Keyword).length+(if ([]:List Keyword).isEmpty then 0 else 1)<30))=true:=by rfl)
  (U:(apos.endLine==cpos.line)=true:=by rfl) (hs:starEach (e::es) X.env=(false,eval e X.env)::starEach es X.env:=by rfl) (J:(backTo cpos (starEach es X.env)).any (·.1)=false:=by rfl) :
  PE X (.Call (.Attribute o name apos) (e::es) [] cpos) (tBM X.K T r to t):=by
 intro pins s σ H Q I h;refine wpAny_Call_method_late S Y U rfl (thn (ho pins s σ H _ I h) λv s1 hq=>jF hq λx H1 I1 r1 ty q1=>?_);obtain⟨h1,h2⟩:=Eg I1 r1 ty;refine⟨T,id,pa,slot,Z,h1,h2,?_⟩;have hA:=ha cpos pins s1 σ H1 _ I1 q1;rw[hs]at hA ⊢;refine Calls.callWith_builtin (by show(false||(backTo cpos (starEach es X.env)).any (·.1))=false;rw[J]<;>rfl) (Calls.evalArgs_plain ?_);exact thn hA λus s2 hq=>au hq λvs H2 I2 r2 q2=>hm pins s2 σ H2 x vs v us Q I2 r1 r2 q2
end
def MtM(X:Cx)(id:String)(r:V->List V->Hp->VK->Prop):Prop:=
 ∀pins s (σ:St) H x xs v us Q,Inv X pins σ H s->aF x v->aN xs us->r x xs H Q ->
  wpAny (model X.prog X.w) X.A (call (.builtin id) (v::us)) (EP X pins σ Q) X.xe s
theorem aN.one:∀{x}{us},aN [x] us->∃u,us=[u]/\aF x u
 | _,_,.cons r .nil=>⟨_,rfl,r⟩
def aN.zero:∀{us},aN [] us->us=[]
 | _,.nil=>rfl
theorem aN.reverse(h:aN xs us):aN xs.reverse us.reverse:=by
 induction h with
 |nil=>exact .nil
 |cons r t ih=>rw[reverse_cons,reverse_cons];exact aN.append ih (.cons r .nil)
section
variable{X:Cx}{pins:List (Addr×Obj)}{σ:St}{H:Hp}{s:Shared}{l b:Addr}{xs ys zs:List V}
theorem Inv.lset{its its':List Value}{n:Nat}{f:Array Value->Array Value}{t':Nat}(I:Inv X pins σ H s)(J:H l=some (.lst xs))
  (e:s.heap.get? l=some { cls:=.type "list",data:=.seq its.toArray n }) (S:f its.toArray=its'.toArray) (U:aN ys its') (hz:ys.length<=sizeLine) :
  Inv X pins σ (upd H l (.lst ys)) { s with heap:=s.heap.update l (Obj.mapSeq f),toks:=t' }:=by
 have q:=PySem.IsL.update e f;rw[S]at q;refine I.write (x:=l) (e:=l) (by rw[J];exact trivial) (.inl rfl) (λb' u Y Z=>(L9 s.heap (Obj.mapSeq f) (Ku Y)).trans Z) ⟨_,q⟩ ?_;exact⟨hz,its',_,U,q⟩
theorem Inv.lnew(I:Inv X pins σ H s)(J:aN ys its)(hz:ys.length<=sizeLine) :
  Inv X pins σ (upd H s.heap.objs.size (.lst ys)) { s with heap:=s.heap.push { cls:=.type "list",data:=.seq its.toArray },toks:=t' }:=
 I.laid (λ_ _ q=>mu _ q) (pe _) ⟨hz,its,0,J,Kv _ rfl⟩
theorem Inv.fresh(I:Inv X pins σ H s):H s.heap.objs.size=none:=I.hok.fresh (pe _)
theorem Inv.lstM (I:Inv X pins σ H s) (J:H l=some (.lst xs)):xs.length<=sizeLine/\∃its n,aN xs its/\xs.length=its.length/\s.heap.get? l=some { cls:=.type "list",data:=.seq its.toArray n }:=by
 obtain⟨z,its,n,r,e⟩:=I.hok l _ J;exact⟨z,its,n,r,r.length,e⟩
def rC(h:n<=sizeLine):Builtin.List.listTooLong n=false:=by simp_all [Builtin.List.listTooLong]
end
section
variable{X:Cx}
def iR:V->List V->Hp->VK->Prop:=λx vs H Q=>∃l xs y,x=.ref l/\vs=[y]/\H l=some (.lst xs)/\xs.length<sizeLine/\Q .non (upd H l (.lst (xs++[y])))
def gJ:MtM X "list.append" iR:=by
 intro pins s σ H x vs v us Q I Z rv h;refine cw λZq kq=>?_
 refine oC h λl xs y J S Y hz q=>?_
 subst J;subst S;subst Z;refine ag rv.one λu U ru=>?_
 subst U;obtain⟨z,its,n,r,hl,e⟩:=I.lstM Y;refine kq ?_;refine Mv F.slot_list_append ⟨_,e,rfl⟩ F.entry_list_append (F.args_list_append_2 _ _) (PySem.list_append l its.toArray n u (by rw[oe];omega)) ⟨e,?_⟩;refine⟨.non,_,I.lset Y e (by simp) (r.append (.cons ru .nil)) ?_,rfl,q⟩
 grind
end
section
variable{prog:Program}{w:World}{A:Around}{E:Value->Shared->Prop}{s:Shared}
end
section
variable{X:Cx}
end
end L2
namespace Att
open PySem PySem.W PySem.Calls PyProof.Rows List Option
def lU :∀ns vs,WellAll P h vs (ns.map WData.int)->IntsAre vs ns:=by
 intro ns
 induction ns with
 |nil =>
  intro vs w;cases w;exact .nil
 |cons n ns ih =>
  intro vs w;cases w with
  |cons a b =>
   cases a;exact .cons _ _ (ih _ b)
def wA{l:OpenLaw}(hn:l.most=some n) 
  (J:l.row.toRowW.claim.pre args=true) (Y:WellAll P h vals args) :
  ∃a vs ns,vals=[Value.ref a]/\args=[WData.list (ns.map WData.int)]/\h.get? a=some { cls:=.type "list",data:=.seq vs.toArray }/\IntsAre vs ns/\ns.length<=n:=by
 have Z:WShape.hasAll [] args [.list .int]=true:=(pre_splitW J).1;have hc:l.pre.holds [] { args:=args }=true:=(pre_splitW J).2;refine au (hasAllW_cons Z) λd r ao h1 h2=>?_
 subst ao;obtain rfl:=hasAllW_nil h2;refine ag (hasW_list h1) λxs ar h3=>?_
 subst ar;obtain⟨ns,rfl⟩:=items_int h3;have S:ns.length<=n:=by
  have h4:(WTm.not (.lt (.lit (.int (n:Int))) (.len (.arg 0)))).holds [] { args:=[.list (ns.map .int)] }=true:=by
   have h4:=(holds_andW hc).1;rw[hn]at h4;exact h4
  have h5:=condW_of h4 (w_not (w_lt w_lit (w_len_list (w_arg rfl))))
  simp_all
 cases Y with
 |cons w1 w2 =>
  cases w2;cases w1 with
  |list ho U=>exact⟨_,_,ns,rfl,rfl,ho,lU ns _ U,S⟩
def wB(l:OpenLaw)(args):l.row.toRowW.claim.post args (.bool true) args=true:=
 postW_of (r:=l.row.toRowW) (X:=(true==true))
  (show WShape.has [] (.bool true) .bool=true by first|rfl|decide|simp[WShape.arms])
  (show(WTm.eq .res (.lit (.bool true))).value [] { args:=args,res:=some (.bool true),after:=args }=some (.bool (true==true))from w_eq_bool (w_res rfl) w_lit) rfl
def attach_call{l:OpenLaw}{n:Nat}{q:Program}{S:List Str}{XP:(Str->Option Value)->Heap->Prop}{YP:World->Heap->Prop}{d:DefRec}
  (hn:l.most=some n) (a0:d.params.defaults=[])
  (call:∀w s₀ J mg mb fa o pm cd U a vs ns,
   Ground q S [] XP w s₀ mg mb J.heap->YP w J.heap ->
   J.heap.get? fa=some o->o.data=.func (docDef d.name d.params d.body d.scope pm cd U)->J.heap.CodeRec cd d.name->mg d.name=some (.ref fa) ->
   J.heap.get? a=some { cls:=.type "list",data:=.seq vs.toArray }->IntsAre vs ns->ns.length<=n->J.gens=#[] ->
   codeAny (model l.prog w) callerA (.call (.ref fa) ⟨[.ref a],[]⟩) (λr s'=>r=.ok (.ret (.bool true))/\OldK J.heap s'.heap/\s'.os=J.os/\AllBare s'.gens) J) :
  WalkO q S XP YP l.row.toRowW d [] (λf vs=>PySem.call f vs):=by
 intro w s₀ J mg mb G Y fa o pm cd U dV kV ho hd a2 hD a3 hg args bR as ar bT b0 a4 b1;obtain rfl:dV=.none:=Dflts.none hD a0;obtain rfl:kV=.none:=Dflts.noKw hD;refine oC (wA hn ar a4) λa vs ns a5 a6 aH Z aL=>?_
 subst a5;subst a6;refine enter_call (MA (call w s₀ J mg mb fa o pm cd U a vs ns G Y ho (fd_plain hd) a2 a3 aH Z aL hg) λr s' hq=>?_);refine gE hq λbt h2 h3 h4=>?_
 subst bt;exact⟨.inl ⟨.bool true,.bool true,[],rfl,λ_=>rfl,.bool true,wB l _,λ_=>⟨Pairwise.nil,λ_ hm=>(nomatch hm)⟩⟩,h2,h3,h4⟩
section
variable{prog:Program}{w:World}{A:Around}{E:Value->Shared->Prop}{s:Shared}{K:Frag}
end
end Att
namespace L2
open PySem PySem.Spec PyProof.Rows List Option
theorem kY:∀{vs}{ns},IntsAre vs ns->aN (ns.map V.int) vs
 | _,_,.nil=>.nil
 | _,_,.cons n t h=>.cons ⟨t,rfl⟩ (kY h)
def Eh(H:Hp):Prop:=∀b,H b=none\/∃o xs,H b=some (.frz o (.lst xs))
def yd{K:MP} 
  (KX:K.In J.heap) (ao:J.heap.Ns mainGlobals mg) (S:J.heap.Ns builtinsNs mb) (a1:∀x:Str,x ≠ "__name__"->mb x=bootBuiltins x) (ar:J.heap.NoLimit) (hg:J.gens=#[])
  (ha:J.heap.get? a=some { cls:=.type "list",data:=.seq vs.toArray }) (hi:IntsAre vs ns) (hl:ns.length<=sizeLine) (hr:dH k callerA)
  (F:∀base,K.In base->base.Ns mainGlobals mg->bw P w K mg base CX k fa fd [x] sp) (Z:∀s u,BindsTo s fd ⟨[u],[]⟩ [(x,u)])
  (a2:∀H,Eh H->SqL K H a (ns.map V.int)->sp [.ref a] H (λv _=>v=.bl true) λ_ _ _=>False)
  (a3:∀H e s',CX [] H J (λ_ _ _=>False) e s'->False) :
  codeAny (model P w) callerA (.call (.ref fa) ⟨[.ref a],[]⟩) (λr s'=>r=.ok (.ret (.bool true))/\OldK J.heap s'.heap/\s'.os=J.os/\AllBare s'.gens) J:=by
 have rv:=kY hi;have aH:=hi.length;have Y:∀H,Eh H->SqL K H a (ns.map V.int)->HOk P w H J.heap->(∀b,H b≠none->b=a)->(H a≠none->K.lookup a=none) ->
   codeAny (model P w) callerA (.call (.ref fa) ⟨[.ref a],[]⟩) (λr s'=>r=.ok (.ret (.bool true))/\OldK J.heap s'.heap/\s'.os=J.os/\AllBare s'.gens) J:=by
  intro H hO hS hok hA hK;have base_of:∀{b}{o},J.heap.get? b=some o->H b=none->(pI J.heap H).get? b=some o:=λe n=>xC e n
  have a4:∀{b}{o}{es}{ep},J.heap.get? b=some o->o.data=.dict es ep->H b=none:=λ{b o es ep} e d=>by
   cases q:H b with
   |none=>rfl
   |some u =>
    have e':=hA b (by rw[q];simp);subst e';rw[ha]at e;cases e
    have d':=d;cases d'
  have U:∀{b}{m},J.heap.Ns b m->(pI J.heap H).Ns b m:=λ{b m} ⟨o,es,ep,e,d,r⟩=>⟨o,es,ep,base_of e (a4 e d),d,r⟩
  have aL:K.In (pI J.heap H):=λb o e=>base_of (KX b o e) (by
   cases q:H b with
   |none=>rfl
   |some u =>
    have e':=hA b (by rw[q];simp);subst e';rw[hK (by rw[q];simp)]at e;exact bn e)
  have hM:Mod K mg (pI J.heap H):=⟨aL,U ao,⟨mb,U S,a1⟩,let ⟨mc,h1,h2⟩:=ar;⟨mc,U h1,h2⟩⟩;have e0:tJ P w K mg (pI J.heap H) callerA [] J H:=⟨rfl,hM,λb o e=>AI e,LN (wj _ _),trivial,λb S=>absurd (show b∈([]:List Addr)from S) (by simp),hok,.of_eq hg⟩;refine MA ((F _ aL (U ao)).run callerA [] J H ⟨[.ref a],[]⟩ [.ref a] [.ref a] _ _ hr e0 (Z J (.ref a)) (.cons rfl .nil) (a2 H hO hS)) λr s' h=>?_
  cases r with
  |error e=>exact(a3 H e s' h).elim
  |ok fl =>
   cases fl with
   |ret u =>
    refine Ct h λv H' os bare un aP r' q=>?_
    have q':=q;subst q';obtain rfl:u=Value.bool true:=r';refine⟨rfl,OldK.of_keep λb o e=>?_,os,bare⟩;cases q:H b with
    |none=>exact un.keep b o e q (by intro z;exact absurd (show b∈([]:List Addr)from z) (by simp)) (by simp)
    |some u =>
     rcases hO b with z|⟨ob,xs,z⟩
     .rw[q]at z;cases z
     .have z2:=un.frzs b ob _ z;obtain⟨e1,_⟩:=hok b _ z;obtain⟨e2,_⟩:=aP b _ z2;rw[e]at e1;cases e1
      exact e2
   | _=>exact False.elim h
 cases hk:K.lookup a with
 |some o =>
  have e:=KX a o hk;rw[ha]at e;cases e;refine Y (λ_=>none) (λ_=>.inl rfl) (.inr ⟨_,vs.toArray,_,hk,rfl,rfl,rfl,by rw[oe,aH];exact hl,by simpa using rv⟩) (λb u z=>by have z':=z;exact bn z') (λb z=>absurd rfl z) λz=>absurd rfl z
 |none =>
  refine Y (λb=>if b=a then some (.frz { cls:=.type "list",data:=.seq vs.toArray } (.lst (ns.map V.int)))else none) (λb=>?_) (.inl (.inr ⟨{ cls:=.type "list",data:=.seq vs.toArray },if_pos rfl⟩)) (λb u z=>?_) (λb z=>?_) λ_=>hk
  .by_cases S:b=a
   .exact .inr ⟨_,_,if_pos S⟩
   .exact .inl (if_neg S)
  .by_cases S:b=a
   .have z':=(if_pos S).symm.trans z;cases z';subst S;exact⟨ha,by rw[tr];exact hl,vs,_,rv,ha⟩
   .have z':=(if_neg S).symm.trans z;exact bn z'
  .by_cases S:b=a
   .exact S
   .exact absurd (if_neg S) z
def A2{l:PySem.W.OpenLaw}{n k:Nat}{q:Program}{S:List Str}{XP:(Str->Option Value)->Heap->Prop}{YP:World->Heap->Prop}{d:DefRec}{K:Params->MP}{CX:World->CXT}{sp:World->Sp}{x:Str}
  (hn:l.most=some n) (aH:n<=sizeLine) (aL:d.params.defaults=[]) (hr:dH k callerA)
  (hY:∀w h,YP w h->(K w.params).In h)
  (F:∀w mg fa h,(K w.params).In h->h.Ns mainGlobals mg->mg d.name=some (.ref fa) ->
   ∃fd,(∀s u,BindsTo s fd ⟨[u],[]⟩ [(x,u)]) /\
    ∀base,(K w.params).In base->base.Ns mainGlobals mg->bw l.prog w (K w.params) mg base (CX w) k fa fd [x] (sp w))
  (aP:∀w H a (ns:List Int),ns.length<=n->Eh H->SqL (K w.params) H a (ns.map V.int)->sp w [.ref a] H (λv _=>v=.bl true) λ_ _ _=>False)
  (a0:∀w H s e s',CX w [] H s (λ_ _ _=>False) e s'->False) :
  PySem.W.WalkO q S XP YP l.row.toRowW d [] (λf vs=>PySem.call f vs):=by
 refine Att.attach_call hn aL λw s₀ Z mg mb fa o pm cd bt a vs ns G Y ho hd bK a1 ao U J hg=>?_
 have KX:=hY w _ Y;refine ag (F w mg fa _ KX G.T.g a1) λfd hb hF=>?_
 exact yd KX G.T.g G.T.b G.T.builtins G.T.nolimit hg ao U (xw J aH) hr hF hb (λH hO hS=>aP w H a ns J hO hS) λH e s'=>a0 w H Z e s'
noncomputable def cF(s:Stmt)(j:Nat):Stmt:=match s with
 | .ClassDef _ _ _ body _ _ _ _ _ _ _=>body.getD j (.Pass ⟨0,0,0,0⟩)
 | _=>.Pass ⟨0,0,0,0⟩
noncomputable def jM(s:Stmt):Arguments:=match s with
 | .FunctionDef _ a _ _ _ _ _ _ _ _=>a
 | _=>{ posonlyargs:=[],args:=[],vararg:=none,kwonlyargs:=[],kw_defaults:=[],kwarg:=none,defaults:=[] }
noncomputable def aK(s:Stmt):List Stmt:=match s with
 | .FunctionDef _ _ b _ _ _ _ _ _ _=>b
 | _=>[]
noncomputable def af(s:Stmt):Scope:=match s with
 | .FunctionDef _ _ _ _ _ _ sc _ _ _=>sc
 | _=>{ kind:=.function,names:=[],isGenerator:=false,isCoroutine:=false }
noncomputable abbrev CX0:CXT:=λ_ _ _ _ _ _=>False
noncomputable abbrev E0:XK:=λ_ _ _=>False
def bc :g7 CX0 X E0:=λ_ _ _ _ _ _ _ h=>h.elim
section
variable{P:Program}{w:World}{K:MP}{mg:Str->Option Value}{base:Heap}
end
section
variable{X:Cx}
def pv (i) {pos:Pos} (hN:X.N[i]?=some x:=by rfl) (S:Vis X.env.scope x:=by first|exact Or.inl rfl|exact Or.inr (Or.inl rfl)|exact Or.inr (Or.inr rfl)) (hd:(x==("__debug__":Str))=false:=by decide)
  (J:(x==("__classdict__":Str))=false:=by decide):PE X (.Name x pos) (aq i):=xD hN S hd J
end
def ae(H H':Hp):Prop:=∀b o,H b=some o->H' b=some o
def ae.refl(H):ae H H:=λ_ _ h=>h
def ae.trans(a:ae H H1)(b:ae H1 H2):ae H H2:=λc o h=>b c o (a c o h)
def ae.free(e:ae H H')(h:H' l=Option.none):H l=Option.none:=by
 cases q:H l with
 |none=>rfl
 |some o =>
  rw[e l o q]at h;cases h
theorem ae.seq{K:MP}(e:ae H H')(h:SqL K H a xs):SqL K H' a xs:=by
 rcases h with(h|⟨o,h⟩)|h
 .exact .inl (.inl (e _ _ h))
 .exact .inl (.inr ⟨o,e _ _ h⟩)
 .exact .inr h
section
variable{g:Type} [DecidableEq g]
noncomputable def jN(kvs:List (g×V))(k:g):Option V:=(kvs.find? λJ=>decide (J.1=k)).map (·.2)
noncomputable def i8(kvs:List (g×V))(k:g)(v:V):List (g×V):=
 if (kvs.any λJ=>decide (J.1=k))=true then kvs.map (λJ=>if J.1=k then(J.1,v)else J)else kvs++[(k,v)]
noncomputable def Kn(kvs:List (g×V))(k:g):List (g×V):=kvs.filter λJ=>decide (J.1≠k)
def mU{k:g}(e:p.1=k):jN (p::r) k=some p.2:=by simp_all [jN]
def mZ{k:g}(e:¬ p.1=k):jN (p::r) k=jN r k:=by simp_all [jN]
theorem rD(k):∀kvs:List (g×V),(kvs.any λJ=>decide (J.1=k))=(jN kvs k).isSome
 | []=>rfl
 |p::r=>by
  rw[any_cons];by_cases e:p.1=k
  .simp[mU e,Ks e]
  .rw[mZ e,KH e,Bool.false_or];exact rD k r
def lL(kvs)(k:g)(v):(i8 kvs k v).length<=kvs.length+1:=by grind [i8,length_map,length_append,length_cons,length_nil]
def iA.isSome_eq(r:iA o u):o.isSome=u.isSome:=by
 cases o<;>first|(cases u<;>first|rfl|exact(show False from r).elim)|(cases u<;>first|exact(show False from r).elim|rfl)
theorem iA.getD(r:iA o u)(rd:aF d d'):aF (o.getD d) (u.getD d'):=by
 cases o<;>first|(cases u<;>first|exact rd|exact(show False from r).elim)|(cases u<;>first|exact(show False from r).elim|exact r)
theorem KV.val(r:KV kvs vs)(k:g):iA (jN kvs k) (valueAt vs k):=by
 induction r with
 |nil=>exact True.intro
 | @cons p q ps J h t ih =>
  obtain⟨h1,h2⟩:=h;by_cases e:p.1=k
  .have S:=h1.symm.trans e;have b:valueAt (q::J) k=some q.2:=by simp[valueAt,find?_cons,S]
   rw[mU e,b];exact h2
  .have S:¬ q.1=k:=λz=>e (h1.trans z)
   have b:valueAt (q::J) k=valueAt J k:=by simp[valueAt,find?_cons,S]
   rw[mZ e,b];exact ih
theorem KV.any(r:KV kvs vs)(k:g):(kvs.any λJ=>decide (J.1=k))=vs.any λJ=>decide (J.1=k):=by
 induction r with
 |nil=>rfl
 |cons h t ih=>rw[any_cons,any_cons,ih,h.1]
def KV.repl(r:KV kvs vs)(k:g)(S:aF y u) :
  KV (kvs.map λJ=>if J.1=k then(J.1,y)else J) (vs.map λJ=>if J.1=k then(J.1,u)else J):=by
 induction r with
 |nil=>exact .nil
 | @cons p q ps U h t ih =>
  rw[KI,KI];refine .cons ?_ ih;obtain⟨h1,h2⟩:=h;by_cases e:p.1=k
  .rw[if_pos e,if_pos (h1.symm.trans e)];exact⟨h1,S⟩
  .rw[if_neg e,if_neg (λz=>e (h1.trans z))];exact⟨h1,h2⟩
theorem KV.put(r:KV kvs vs)(k:g)(J:aF y u):KV (i8 kvs k y) (stored vs k u):=by
 unfold i8 stored;rw[r.any k];by_cases e:(vs.any λS=>decide (S.1=k))=true
 .rw[if_pos e,if_pos e];exact r.repl k J
 .rw[if_neg e,if_neg e];exact Paired.snoc r ⟨rfl,J⟩
def KV.keys{vs:List (g×Value)}(r:KV kvs vs):kvs.map (·.1)=vs.map (·.1):=by
 induction r with
 |nil=>rfl
 |cons h t ih=>rw[KI,KI,ih,h.1]
theorem KV.length(r:KV kvs vs):kvs.length=vs.length:=Paired.length r
end
def oN(r:aF (kV k) u):(cy P w).is k u=true:=by
 cases k with
 |inl i=>obtain⟨t,e⟩:=(show ∃t,u=Value.int i t from r);subst e;exact qV P w i t
 |inr x=>obtain⟨t,e⟩:=(show ∃t,u=Value.str x t from r);subst e;exact qW P w x t
theorem oO :∀{ks}{us},aN (ks.map kV) us->ItemsAre (cy P w) ks us
 | [],_,r=>by rw[map_nil]at r;cases r;exact .nil
 |k::ks,_,r=>by
  cases r with
  |cons h t=>exact .cons (oN h) (oO t)
abbrev KT(H:Hp):List (List Key×V)->List (List Key×Addr×Value)->Prop:=Paired λp q=>p.1=q.1/\H q.2.1=some (.tup (p.1.map kV))/\aF p.2 q.2.2
theorem KT.val(r:KT H kvs xs)(k):iA (jN kvs k) ((atKey xs k).map (·.2)):=by
 induction r with
 |nil=>exact True.intro
 | @cons p q ps J h t ih =>
  refine mC h λh1 _ h2=>?_
  by_cases e:p.1=k
  .have S:=h1.symm.trans e;have b:atKey (q::J) k=some q.2:=by simp[atKey,find?_cons,S]
   rw[mU e,b];exact h2
  .have S:¬ q.1=k:=λz=>e (h1.trans z)
   have b:atKey (q::J) k=atKey J k:=by simp[atKey,find?_cons,S]
   rw[mZ e,b];exact ih
def KT.repl(r:KT H kvs xs)(k)(S:aF y u) :
  KT H (kvs.map λJ=>if J.1=k then(J.1,y)else J) (xs.map (putAt k u)):=by
 induction r with
 |nil=>exact .nil
 | @cons p q ps U h t ih =>
  rw[KI,KI];refine .cons ?_ ih;refine mC h λh1 h2 h3=>?_
  unfold putAt;by_cases e:p.1=k
  .rw[if_pos e,if_pos (h1.symm.trans e)];exact⟨h1,h2,S⟩
  .rw[if_neg e,if_neg (λz=>e (h1.trans z))];exact⟨h1,h2,h3⟩
theorem KT.put(r:KT H kvs xs)(k)(S:H b=some (.tup (k.map kV)))(J:aF y u) :
  KT H (i8 kvs k y) (storedH xs k b u):=by
 have e:(kvs.any λU=>decide (U.1=k))=(atKey xs k).isSome:=by
  rw[rD,(r.val k).isSome_eq,isSome_map]
 unfold i8 storedH;rw[e];by_cases q:(atKey xs k).isSome=true
 .rw[if_pos q,if_pos q];exact r.repl k J
 .rw[if_neg q,if_neg q];exact Paired.snoc r ⟨rfl,S,J⟩
def KT.keeps(r:KT H kvs xs)(ht:∀b ys,H b=some (.tup ys)->H' b=some (.tup ys)):KT H' kvs xs:=
 Paired.mapP r λ_ _ z=>⟨z.1,ht _ _ z.2.1,z.2.2⟩
section
variable{P:Program}{w:World}{H:Hp}{h:Heap}{a:Addr}
def CA(ok:HOk P w H h)(e:Rd H a u):b9 P w H h a u:=e.ok ok
def jO(ok:HOk P w H h)(e:Rd H a (.dK kvs)):kvs.length<=sizeLine/\(a==sysModules)=false/\∃vs,KV kvs vs/\h.DictOf (cy P w) a vs:=
 show b9 P w H h a (.dK kvs)from CA ok e
def G4(ok:HOk P w H h)(e:H a=some (.dK kvs)):kvs.length<=sizeLine/\(a==sysModules)=false/\∃vs,KV kvs vs/\h.DictOf (cy P w) a vs:=jO ok (.inl e)
def kZ(ok:HOk P w H h)(e:H a=some (.tup (ks.map kV))):(tupleKind (cy P w)).is h ks a:=by
 obtain⟨_,its,r,o,h1,h2,n,h3⟩:=(show b9 P w H h a _ from ok a _ e);exact⟨o,its.toArray,n,h1,h2,h3,by simpa using oO r⟩
def m8(ok:HOk P w H h)(e:Rd H a (.dT kvs)):kvs.length<=sizeLine/\(a==sysModules)=false /\
  ∃xs,KT H kvs xs/\h.DictOfH (tupleKind (cy P w)) a xs:=by
 refine cw λY U=>?_
 obtain⟨z,y,xs,r,o,es,ep,h1,h2,h3,h4,h5⟩:=(show b9 P w H h a _ from CA ok e);refine U ?_;refine⟨z,y,xs,r,o,es,ep,h1,h2,h3,h4,λx J=>?_,h5⟩;have all:∀{l}{m},KT H l m->∀x∈m,(tupleKind (cy P w)).is h x.1 x.2.1:=by
  intro l m q
  induction q with
  |nil=>intro x J;exact nomatch J
  | @cons p q ps Z S t ih =>
   intro x J;rcases nW.mp J with e|J
   .subst e;exact kZ ok (by rw[<- S.1];exact S.2.1)
   .exact ih x J
 exact all r x J
def G5(ok:HOk P w H h)(e:H a=some (.dT kvs)):kvs.length<=sizeLine/\(a==sysModules)=false /\
  ∃xs,KT H kvs xs/\h.DictOfH (tupleKind (cy P w)) a xs:=m8 ok (.inl e)
end
def m9(H:Hp)(a:Addr)(y:V)(r:Option V):Prop:=
 (∃kvs k,Rd H a (.dK kvs)/\y=kV k/\r=jN kvs k)\/∃kvs k b,Rd H a (.dT kvs)/\y=.ref b/\H b=some (.tup (k.map kV))/\r=jN kvs k
def m_(H:Hp)(a:Addr)(y v:V)(H':Hp):Prop:=
 (∃kvs k,H a=some (.dK kvs)/\y=kV k/\kvs.length<sizeLine/\H'=upd H a (.dK (i8 kvs k v))) \/
 ∃kvs k b,H a=some (.dT kvs)/\y=.ref b/\H b=some (.tup (k.map kV))/\kvs.length<sizeLine/\H'=upd H a (.dT (i8 kvs k v))
theorem m_.k{k:Key}{v:V}(e:H a=some (.dK kvs))(J:kvs.length<sizeLine):m_ H a (kV k) v (upd H a (.dK (i8 kvs k v))):=.inl ⟨kvs,k,e,rfl,J,rfl⟩
theorem m_.t{k:List Key}{v:V}(e:H a=some (.dT kvs))(J:H b=some (.tup (k.map kV)))(S:kvs.length<sizeLine) :
  m_ H a (.ref b) v (upd H a (.dT (i8 kvs k v))):=.inr ⟨kvs,k,b,e,rfl,J,S,rfl⟩
section
variable{X:Cx}{pins:List (Addr×Obj)}{σ:St}{H:Hp}{s:Shared}{a:Addr}{y v:V}{u r:Value}{o:Option V}{A:Around}{E:Value->Shared->Prop}
theorem Inv.big(I:Inv X pins σ H s):sysModules<s.heap.objs.size:=by
 have h:=(I.mod.glob.keeps I.bk).lt;exact Nat.lt_trans (by decide) h
def wC(hu:A.units+1<cLine)(I:Inv X pins σ H s)(g:m9 H a y (some v))(ry:aF y u)(h:∀U s',Inv X pins σ H s'->aF v U->Q U s') :
  wpAny (model X.prog X.w) A (getItem (.ref a) u) Q E s:=by
 rcases g with⟨kvs,k,e,Y,l⟩|⟨kvs,k,b,e,Y,eb,l⟩
 .subst Y;obtain⟨z,hd,vs,J,dd⟩:=jO I.hok e;obtain⟨U,hw,S⟩:=iA.some_of (by rw[l];exact J.val k);exact wpAny_getItem_of (oN ry) dd.mapOf hw (h U _ (I.tok _) S)
 .subst Y;cases (show u=Value.ref b from ry);obtain⟨z,hd,xs,J,dd⟩:=m8 I.hok e;obtain⟨U,hw,S⟩:=iA.some_of (o:=(atKey xs k).map _) (by rw[l];exact J.val k);refine ag (ti.mp hw) λp hp Z=>?_
  refine wpAny_getItem_heap (LG hu) (kZ I.hok eb) dd hp ?_;rw[Z];exact h U _ (I.tok _) S
def JQ(Y:A.units+1<cLine)(I:Inv X pins σ H s)(g:m9 H a y o)(U:aF y u)(h:∀s',Inv X pins σ H s'->Q (.bool o.isSome) s') :
  wpAny (model X.prog X.w) A (compareOp .In u (.ref a)) Q E s:=by
 rcases g with⟨kvs,k,e,S,l⟩|⟨kvs,k,b,e,S,Z,l⟩
 .subst S;obtain⟨z,hd,vs,J,dd⟩:=jO I.hok e;refine wpAny_in_of (oN U) hd dd.mapOf ?_;rw[<- (J.val k).isSome_eq,<- l];exact h _ (I.tok _)
 .subst S;cases (show u=Value.ref b from U);obtain⟨z,hd,xs,J,dd⟩:=m8 I.hok e;refine wpAny_in_heap (LG Y) (kZ I.hok Z) hd dd ?_;have q:=(J.val k).isSome_eq;rw[isSome_map]at q;rw[<- q,<- l];exact h _ (I.tok _)
def A3(Y:A.units+1<cLine)(I:Inv X pins σ H s)(g:m9 H a y o)(U:aF y u)(h:∀s',Inv X pins σ H s'->Q (.bool (!o.isSome)) s') :
  wpAny (model X.prog X.w) A (compareOp .NotIn u (.ref a)) Q E s:=by
 rcases g with⟨kvs,k,e,S,l⟩|⟨kvs,k,b,e,S,Z,l⟩
 .subst S;obtain⟨z,hd,vs,J,dd⟩:=jO I.hok e;refine wpAny_notIn_of (oN U) hd dd.mapOf ?_;rw[<- (J.val k).isSome_eq,<- l];exact h _ (I.tok _)
 .subst S;cases (show u=Value.ref b from U);obtain⟨z,hd,xs,J,dd⟩:=m8 I.hok e;refine wpAny_notIn_heap (LG Y) (kZ I.hok Z) hd dd ?_;have q:=(J.val k).isSome_eq;rw[isSome_map]at q;rw[<- q,<- l];exact h _ (I.tok _)
def ve(I:Inv X pins σ H s)(J:Mut (H a))(S:Heap.SameBut a s.heap h')(U:∃q,h'.get? a=some q)(new:b9 X.prog X.w (upd H a ob) h' a ob) :
  Inv X pins σ (upd H a ob) { s with heap:=h',toks:=t' }:=
 I.write (x:=a) (e:=a) J (.inl rfl) (λb q Y z=>(S.2 b Y).trans z) U new
def Ei(z:kvs.length<=sizeLine)(hd:(a==sysModules)=false)(J:KV kvs vs)(dd:h'.DictOf (cy P w) a vs) :
  b9 P w H' h' a (.dK kvs):=⟨z,hd,vs,J,dd⟩
def wD(hu:A.units+1<cLine)(I:Inv X pins σ H s)(g:m_ H a y v H')(ry:aF y u)(rv:aF v r)(h:∀s',Inv X pins σ H' s'->Q () s') :
  wpAny (model X.prog X.w) A (setItem (.ref a) u r) Q E s:=by
 rcases g with⟨kvs,k,e,Y,l,Z⟩|⟨kvs,k,b,e,Y,eb,l,Z⟩
 .subst Y Z;obtain⟨z,hd,vs,J,dd⟩:=G4 I.hok e;have hz:vs.length<=sizeLine:=by rw[<- J.length];exact z
  have hl:(i8 kvs k v).length<=sizeLine:=by have:=lL kvs k v;exact(xw ‹_› ‹_›)
  refine wpAny_setItem_pairs (oN ry) dd λh' S hs=>h _ ?_
  have he:∃q,h'.get? a=some q:=let ⟨q,_,_,U,_⟩:=S;⟨q,U⟩
  exact ve I (by rw[e];exact True.intro) hs he (Ei hl hd (J.put k rv) S)
 .subst Y Z;cases (show u=Value.ref b from ry);obtain⟨z,hd,xs,J,dd⟩:=G5 I.hok e;have hz:xs.length<=sizeLine:=by rw[<- Paired.length J];exact z
  have hl:(i8 kvs k v).length<=sizeLine:=by have:=lL kvs k v;exact(xw ‹_› ‹_›)
  refine wpAny_setItem_heap (LG hu) (kZ I.hok eb) dd λh' S hs=>h _ ?_
  refine cw λZq kq=>?_
  refine cV S λq es ep U h2 h3 h4 _ h5=>?_
  refine kq ?_;refine ve I (by rw[e];exact True.intro) hs ⟨q,U⟩ ⟨hl,hd,_,(J.put k eb rv).keeps λc ys ec=>?_,q,es,ep,U,h2,h3,h4,h5⟩;rw[aA (GG ec e (λz=>nomatch z))];exact ec
end
section
variable{X:Cx}{pins:List (Addr×Obj)}{σ:St}{H:Hp}{s:Shared}{a:Addr}{kvs:List (Key×V)}{k:Key}{u:Value}{A:Around}{E:Value->Shared->Prop}
end
def G6(i:Expr):Prop:=∀J S,subscripted i false J S=operate [J,S] (getItem J S)
def A4{T id:String} 
  (hl:typeLookup (.type T) "__getitem__"=pure (some (.builtin id))) (hs:G6 slice)
  (h:wpAny (model prog w) A (eval value env) (λo U=>wpAny (model prog w) A (eval slice env) (λi J=>J.TypeIs o T/\wpAny (model prog w) A (getItem o i) Q E J) E U) E s) :
  wpAny (model prog w) A (eval (.Subscript value slice pos) env) Q E s:=by
 refine Subscript_ (K3 h (λo U Z=>K3 Z (λi J S=>?_) λ_ _ x=>x) λ_ _ x=>x);obtain⟨hT,S⟩:=S;refine j0 ?_;rw[getitemInPython_of_ne hT.not_modules];refine j0 (wpAny_specialOf hT hl ?_);have fin:wpAny (model prog w) A (subscripted slice false o i) (λr Y=>wpAny (model prog w) A (letTemporaryGo value o r >>= λ_=>pure r) Q E Y) E J:=by
  rw[hs o i];exact wpAny_operating (K3 S (λr Y ao=>j0 (wpAny_letTemporaryGo (ox ao))) λ_ _ x=>x)
 first
  | exact ox (j0 fin)
  | exact j0 (ox _)
  | exact j0 fin
def rE (I:Inv X pins σ H s) (g:m9 H a y o):s.TypeIs (.ref a) "dict":=by
 rcases g with⟨kvs,k,e,_,_⟩|⟨kvs,k,b,e,_,_,_⟩
 .obtain⟨_,_,vs,_,dd⟩:=jO I.hok e;exact dd.typeIs
 .obtain⟨_,_,xs,_,dd⟩:=m8 I.hok e;exact dd.typeIs
noncomputable def G7(td ty:TE):TE:=λσ H Q=>td σ H λx H1=>ty σ H1 λy H2=>∃a v,x=.ref a/\m9 H2 a y (some v)/\Q v H2
noncomputable def JR(ty td:TE):TE:=λσ H Q=>ty σ H λy H1=>td σ H1 λx H2=>∃a o,x=.ref a/\m9 H2 a y o/\Q (.bl o.isSome) H2
noncomputable def A5(ty td:TE):TE:=λσ H Q=>ty σ H λy H1=>td σ H1 λx H2=>∃a o,x=.ref a/\m9 H2 a y o/\Q (.bl (!o.isSome)) H2
noncomputable def G8(td ty tv:TE):TS:=λD σ H=>tv σ H λv H1=>td σ H1 λx H2=>ty σ H2 λy S=>∃a J,x=.ref a/\m_ S a y v J/\D.nx σ J
section
variable{X:Cx}{o i e value:Expr}{pos pos' tpos:Pos}{td ty tv:TE}
def A6(U:X.A.units+1<cLine)(Y:PE X o td)(hi:PE X i ty)(Z:G6 i):PE X (.Subscript o i pos) (G7 td ty):=by
 intro pins s σ H Q I h;refine A4 PySem.F.slot_dict_getitem.lookup Z (thn (Y pins s σ H _ I h) λu s1 hq=>au hq λx H1 I1 rx q1=>thn (hi pins s1 σ H1 _ I1 q1) λiv s2 ⟨y,H2,S,ry,a,v,ex,g,q2⟩=>?_);subst ex;obtain rfl:u=Value.ref a:=rx;exact⟨rE S g,wC U S g ry λw' s3 I3 J=>⟨v,H2,I3,J,q2⟩⟩
def ye(J:X.A.units+1<cLine)(hi:PE X i ty)(S:PE X o td):PC X .In i o (JR ty td):=by
 intro pins s σ H Q I h;refine thn (hi pins s σ H _ I h) λiv s1 ⟨y,H1,U,Y,Z⟩=>thn (S pins s1 σ H1 _ U Z) λu s2 ⟨x,H2,I2,rx,a,ov,ex,g,q2⟩=>?_
 subst ex;obtain rfl:u=Value.ref a:=rx;exact JQ J I2 g Y λs3 I3=>⟨.bl ov.isSome,H2,I3,rfl,q2⟩
def oP(J:X.A.units+1<cLine)(hi:PE X i ty)(S:PE X o td):PC X .NotIn i o (A5 ty td):=by
 intro pins s σ H Q I h;refine thn (hi pins s σ H _ I h) λiv s1 ⟨y,H1,U,Y,Z⟩=>thn (S pins s1 σ H1 _ U Z) λu s2 ⟨x,H2,I2,rx,a,ov,ex,g,q2⟩=>?_
 subst ex;obtain rfl:u=Value.ref a:=rx;exact A3 J I2 g Y λs3 I3=>⟨.bl _,H2,I3,rfl,q2⟩
def A7(J:X.A.units+1<cLine)(S:PE X o td)(hi:PE X i ty)(U:PE X value tv)(Y:swapsWith value (some (.Subscript o i pos')) pos.line X.env=pure false) :
  PS X (.Assign [.Subscript o i pos'] value pos) (G8 td ty tv):=by
 intro pins s σ H D I h;refine wpAny_Assign_Subscript (thn (U pins s σ H _ I h) λr s1 ⟨v,H1,Z,rv,q1⟩=>thn (S pins s1 σ H1 _ Z q1) λu s2 ⟨x,H2,I2,rx,q2⟩=>thn (hi pins s2 σ H2 _ I2 q2) λiv s3 ⟨y,H3,I3,ry,a,H4,ex,g,q3⟩=>?_) Y;subst ex;obtain rfl:u=Value.ref a:=rx;exact wD J I3 g ry rv λs4 I4=>⟨σ,H4,I4,q3⟩
end
def yf (h:Heap) (J:sysModules<h.objs.size):b9 P w H (h.push { cls:=.type "dict",data:=.dict #[] }) h.objs.size (.dK []):=
 ⟨KN _,KR.mpr (Ku (KA J)),[],.nil,Heap.DictOf.new h⟩
def yg (h:Heap) (J:sysModules<h.objs.size):b9 P w H (h.push { cls:=.type "dict",data:=.dict #[] }) h.objs.size (.dT []):=
 ⟨KN _,KR.mpr (Ku (KA J)),[],.nil,_,#[],0,Kv _ rfl,⟨rfl,rfl,rfl⟩,rfl,rfl,K2⟩
noncomputable def Ej:TE:=λ_ H Q=>∀p,H p=none->Q (.ref p) (upd H p (.dK []))
noncomputable def Ek:TE:=λ_ H Q=>∀p,H p=none->Q (.ref p) (upd H p (.dT []))
section
variable{X:Cx}{pos:Pos}
def yh:PE X (.Dict [] [] pos) Ej:=λpins s σ H Q I h =>
 wpAny_Dict_empty ⟨.ref s.heap.objs.size,_,I.laid (a:=s.heap.objs.size) (o:=.dK []) (t':=s.toks) (λ_ _ q=>mu _ q) (pe _) (yf s.heap I.big),rfl,h _ (I.hok.fresh (pe _))⟩
def yi:PE X (.Dict [] [] pos) Ek:=λpins s σ H Q I h =>
 wpAny_Dict_empty ⟨.ref s.heap.objs.size,_,I.laid (a:=s.heap.objs.size) (o:=.dT []) (t':=s.toks) (λ_ _ q=>mu _ q) (pe _) (yg s.heap I.big),rfl,h _ (I.hok.fresh (pe _))⟩
end
structure M2(X:Cx)(o:Expr)(m:Str)(apos:Pos)(e f:Expr)(cpos:Pos):Prop where
 base:attributeBase o m X.env (eval o X.env)=eval o X.env
 few:((backTo cpos (starEach [e,f] X.env)).all (λx=>!x.1)&&(backToKw cpos (keywordEach [] X.env)).all (λx=>x.1.isSome)
 &&decide (([e,f]:List Expr).length+([]:List Keyword).length+(if ([]:List Keyword).isEmpty then 0 else 1)<30))=true
 line:(apos.endLine==cpos.line)=true
 trees:backTo cpos (starEach [e,f] X.env)=[(false,eval e X.env),(false,eval f X.env)]
def IsD(H:Hp)(a:Addr):Prop:=(∃kvs,Rd H a (.dK kvs))\/∃kvs,Rd H a (.dT kvs)
def yj(I:Inv X pins σ H s)(d:IsD H a) :
  s.TypeIs (.ref a) "dict"/\(∀b,Value.ref a=.ref b->∃ob,s.heap.get? b=some ob/\ob.dict=none)/\(a==sysModules)=false:=by
 rcases d with⟨kvs,e⟩|⟨kvs,e⟩
 .obtain⟨_,hd,vs,_,dd⟩:=jO I.hok e;refine⟨dd.typeIs,λb q=>?_,hd⟩;cases q;refine uU dd λob _ _ h1 h2 _=>?_
  exact⟨ob,h1,h2.2.1⟩
 .obtain⟨_,hd,xs,_,dd⟩:=m8 I.hok e;refine⟨dd.typeIs,λb q=>?_,hd⟩;cases q;refine uU dd λob _ _ h1 h2 _=>?_
  exact⟨ob,h1,h2.2.1⟩
section
variable{X:Cx}{pins:List (Addr×Obj)}{σ:St}{H:Hp}{s:Shared}{a:Addr}{y d:V}{u r:Value}{o:Option V}{A:Around}{E:Value->Shared->Prop}
def El(Z:A.units+1<cLine)(I:Inv X pins σ H s)(g:m9 H a y o)(U:aF y u)(rd:aF d r)(h:∀Y s',Inv X pins σ H s'->aF (o.getD d) Y->Q Y s') :
  wpAny (model X.prog X.w) A (call (.builtin "dict.get") [.ref a,u,r]) Q E s:=by
 rcases g with⟨kvs,k,e,S,l⟩|⟨kvs,k,b,e,S,eb,l⟩
 .subst S;obtain⟨z,hd,vs,J,dd⟩:=jO I.hok e;refine call_meetsIn PySem.F.slot_dict_get dd.typeIs PySem.F.entry_dict_get (PySem.F.args_dict_get_3 _ _ _) (meets_dict_get_default _ a (oN U) hd r) ⟨_,dd.mapOf,h _ _ (I.tok _) ?_⟩;rw[l];exact(J.val k).getD rd
 .subst S;cases (show u=Value.ref b from U);obtain⟨z,hd,xs,J,dd⟩:=m8 I.hok e;refine call_meetsIn PySem.F.slot_dict_get dd.typeIs PySem.F.entry_dict_get (PySem.F.args_dict_get_3 _ _ _) (meetsH_dict_get_default (tupleKind _) a b hd r) ⟨LG Z,k,xs,kZ I.hok eb,dd,h _ _ (I.tok _) ?_⟩;rw[l];exact(J.val k).getD rd
end
noncomputable def Em(td ty tx:TE):TE:=λσ H Q=>td σ H λx H1=>∃a,x=.ref a/\IsD H1 a/\ty σ H1 λy H2=>tx σ H2 λz J=>∃o,m9 J a y o/\Q (o.getD z) J
section
variable{X:Cx}{o e f:Expr}{apos cpos:Pos}{td ty tx:TE}
def yk (U:X.A.units+1<cLine) (Y:PE X o td) (Z:PE X e ty) (hf:PE X f tx) (m:M2 X o "get" apos e f cpos):PE X (.Call (.Attribute o "get" apos) [e,f] [] cpos) (Em td ty tx):=by
 intro pins s σ H Q I h;refine wpAny_Call_method m.base m.few m.line PySem.F.plainAttrs_dict PySem.F.slot_dict_get PySem.F.type_dict_get (thn (Y pins s σ H _ I h) λu s1 ⟨x,H1,S,rx,a,ex,d,q1⟩=>?_);subst ex;obtain rfl:u=Value.ref a:=rx;obtain⟨t1,t2,_⟩:=yj S d;refine⟨t1,t2,?_⟩;rw[m.trees];refine Calls.callWith_builtin rfl (Calls.evalArgs_plain (Ml (thn (Z pins s1 σ H1 _ S q1) λiv s2 ⟨y,H2,I2,ry,q2⟩ =>
  Ml (thn (hf pins s2 σ H2 _ I2 q2) λfv s3 ⟨z,H3,I3,rz,ov,g,q3⟩=>Calls.spliced_nil ?_))))
 exact El U I3 g ry rz λw' s4 I4 J=>⟨_,H3,I4,J,q3⟩
end
section
variable{X:Cx}{pins:List (Addr×Obj)}{σ:St}{H:Hp}{s:Shared}{a:Addr}{kvs:List (Key×V)}{A:Around}{E:Value->Shared->Prop}
end
section
variable{X:Cx}{pins:List (Addr×Obj)}{σ:St}{H:Hp}{s:Shared}{a:Addr}{y:V}{u:Value}{A:Around}{E:Value->Shared->Prop}
end
end L2
namespace L2.Srt
open PySem PySem.W PyProof.Rows List Option
section
variable{O:KeyOrd}{key:Nat->O.α}{N:Nat}{cmp:Nat->Nat->(Bool->Shared->Prop)->Shared->Prop}{s:Shared}
noncomputable def kk(key:Nat->O.α)(p:Array Nat)(i:Nat):O.α:=key (p.getD i 0)
def gd(key:Nat->O.α)(p:Array Nat)(k:Nat):Prop:=∀i j,i<=j->j<k->O.kle (kk key p i) (kk key p j)
def rF(key:Nat->O.α)(p:Array Nat)(k:Nat):Prop:=∀i j,i<=j->j<k->O.kle (kk key p j) (kk key p i)
def PB(N:Nat)(p:Array Nat):Prop:=p.Perm (range N).toArray
theorem PB.size(h:PB N p):p.size=N:=by have:=h.size_eq;simpa using this
theorem PB.lt(h:PB N p)(hi:i<N):p.getD i 0<N:=by
 have J:i<p.size:=by rw[h.size];exact hi
 have hm:p[i]∈(range N):=by
  have e:=(LS.mp h).mem_iff (a:=p[i])
  simp_all
 simp_all
theorem PB.rev(h:PB N p)(i j):PB N (kas_rev p i j):=(mirror_perm _ _ _ _).trans h
theorem PB.bub(h:PB N p)(i j):PB N (bubble p i j):=(bubble_perm _ _ _).trans h
def iF(h:p[i]?=q[j]?):kk key p i=kk key q j:=by
 unfold kk;rw[Mm,Mm,h]
def wE(J:src<p.size)(hd:d<=src)(k) :
  kk key (bubble p src d) k=if k=src-d then kk key p src else if src-d<k/\k<=src then kk key p (k-1)else kk key p k:=by
 have e:=getElem?_bubble J d hd k;by_cases h1:k=src-d
 .rw[if_pos h1]at e ⊢;exact iF e
 .rw[if_neg h1]at e ⊢;by_cases h2:src-d<k/\k<=src
  .rw[if_pos h2]at e ⊢;exact iF e
  .rw[if_neg h2]at e ⊢;exact iF e
def tO(J:j<=p.size)(k) :
  kk key (kas_rev p i j) k=if i<=k/\k<j then kk key p (i+j-1-k)else kk key p k:=by
 have e:=getElem?_mirror_all (i:=i) J k;by_cases h1:i<=k/\k<j
 .rw[if_pos h1]at e ⊢;exact iF e
 .rw[if_neg h1]at e ⊢;exact iF e
def dL(J:j<=p.size)(S:∀k,i<=k->k<j->kk key p k=kk key p (j-1))(k) :
  kk key (kas_rev p i j) k=kk key p k:=by
 rw[tO J]
 grind
variable(hc:∀a b C,a<N->b<N->C (O.blt (key a) (key b)) s->cmp a b C s)
include hc
def rG{Q:α->Shared->Prop}(J:PB N p)(hi:i<N)(S:j<N)
  (h:(k (O.blt (kk key p i) (kk key p j))).kasWp cmp Q s):(KasT.ask (p.getD i 0) (p.getD j 0) k).kasWp cmp Q s:=
 hc _ _ _ (J.lt hi) (J.lt S) h
theorem ym(hp:PB N p)(hn:J<=N):∀f n,n+f=J->1<=n->gd key p n ->
  (∀m,n<=m->m<=J->gd key p m->(m=J\/O.klt (kk key p m) (kk key p (m-1)))->Q m s)->(kas_asc p f n).kasWp cmp Q s
 |0,n,e,h1,U,h=>h n (pe _) (LN e) U (.inl e)
 |f+1,n,e,h1,U,h=>by
  have nN:n<N:=by omega
  refine rG hc hp nN (KD (Mw n 1) nN) ?_;cases S:O.blt (kk key p n) (kk key p (n-1))with
  |true =>
   rw[if_pos rfl];exact h n (pe _) (xw (Ll n (f+1)) (LN e)) U (.inr S)
  |false =>
   rw[if_neg (by simp)];refine ym hp hn f (n+1) ((LZ n 1 f).trans e) (Me 1 n) (λi j Y hj=>?_) λm a b c d=>h m (L4 a) b c d
   by_cases Z:j<n
   .exact U i j Y Z
   .have ar:=Li (Lk hj) (Lx.mp Z);subst ar;by_cases ao:i=j
    .subst ao;exact Lb _
    .exact LP (U i (j-1) (LQ (LH Y ao)) (MO h1 Nat.one_pos)) S
def vf{n J:Nat}{Q:Nat×Array Nat->Shared->Prop}(U:PB N p)(hn:J<=N)(h1:1<=n)(S:n<=J)(hs:rF key p n)
  (h:∀m Y,PB N Y->1<=m->m<=J->gd key Y m->Q (m,Y) s):(kas_tail3 n J p).kasWp cmp Q s:=by
 unfold kas_tail3;rw[LU];have hz:n<=p.size:=by rw[U.size];exact xw S hn
 refine ym hc (U.rev 0 n) hn (J-n) n (Nat.add_sub_cancel' S) h1 (λi j Z hj=>?_) λm a b c _=>h m _ (U.rev 0 n) (xw h1 a) b c
 rw[tO hz,tO hz,if_pos ⟨KN _,KD Z hj⟩,if_pos ⟨KN _,hj⟩];exact hs _ _ (by omega) (by omega)
theorem pS(hn:aP<=N):∀f p n q,n+f=aP->PB N p->rF key p n->q+1<=n ->
  (∀i,n-(q+1)<=i->i<n->kk key p i=kk key p (n-1)) ->
  (∀J m q',n<=m->m<=aP->PB N J->rF key J m->q'+1<=m->(∀i,m-(q'+1)<=i->i<m->kk key J i=kk key J (m-1))->Q (J,m,q') s) ->
  (kas_desc f p n q).kasWp cmp Q s
 |0,p,n,q,e,hp,hs,hq,he,h=>h p n q (pe _) (by omega) hp hs hq he
 |f+1,p,n,q,e,hp,hs,hq,he,h=>by
  show(KasT.ask (p.getD n 0) (p.getD (n-1) 0) λc =>
   if c=true then(if q > 0 then kas_desc f (kas_rev p (n-(q+1)) n) (n+1) 0 else kas_desc f p (n+1) 0)
   else .ask (p.getD (n-1) 0) (p.getD n 0) λd=>if d=true then .ret (p,n,q)else kas_desc f p (n+1) (q+1)).kasWp cmp Q s
  have nN:n<N:=by omega
  have hz:n<=p.size:=by rw[hp.size];exact K9 nN
  refine rG hc hp nN (KD (Mw n 1) nN) ?_;cases S:O.blt (kk key p n) (kk key p (n-1))with
  |true =>
   rw[if_pos rfl];have U:∀J,(∀k,kk key J k=kk key p k)->rF key J (n+1):=by
    intro J hk i j Y hj;rw[hk,hk];by_cases Z:j<n
    .exact hs i j Y Z
    .have a3:=Li (Lk hj) (Lx.mp Z);subst a3;by_cases ao:i=j
     .subst ao;exact Lb _
     .exact LP (LM S) (hs i (j-1) (LQ (LH Y ao)) (MO (wh (Nat.succ_pos q) hq) Nat.one_pos))
   by_cases a0:q > 0
   .rw[if_pos a0];exact pS hn f _ (n+1) 0 ((LZ n 1 f).trans e) (hp.rev _ _) (U _ (dL hz he)) (Me 1 n) (λi a b=>by congr 1;omega)
     λJ m q' a=>h J m q' (L4 a)
   .rw[if_neg a0];exact pS hn f p (n+1) 0 ((LZ n 1 f).trans e) hp (U _ λ_=>rfl) (Me 1 n) (λi a b=>by congr 1;omega) λJ m q' a=>h J m q' (L4 a)
  |false =>
   rw[if_neg (by simp)];refine rG hc hp (KD (Mw n 1) nN) nN ?_;cases ar:O.blt (kk key p (n-1)) (kk key p n)with
   |true =>
    rw[if_pos rfl];exact h p n q (pe _) (by omega) hp hs hq he
   |false =>
    rw[if_neg (by simp)];have a1:=KeyOrd.kle_antisymm ar S;refine pS hn f p (n+1) (q+1) ((LZ n 1 f).trans e) hp (λi j Y hj=>?_) (Nat.succ_le_succ hq) (λi a b=>?_) λJ m q' a=>h J m q' (L4 a)
    .by_cases Z:j<n
     .exact hs i j Y Z
     .have a3:=Li (Lk hj) (Lx.mp Z);subst a3;by_cases ao:i=j
      .subst ao;exact Lb _
      .rw[a1];exact hs i (j-1) (LQ (LH Y ao)) (MO (wh (Nat.succ_pos q) hq) Nat.one_pos)
    .rw[L0];by_cases bt:i=n
     .subst bt;rfl
     .rw[a1];exact he i (by omega) (by omega)
def nc{n J:Nat}{Q:Nat×Array Nat->Shared->Prop}(hp:PB N p)(hn:J<=N)(aP:n+1<=J)(hs:rF key p (n+1))
  (h:∀m Y,PB N Y->1<=m->m<=J->gd key Y m->Q (m,Y) s):(kas_descPart n J p).kasWp cmp Q s:=by
 unfold kas_descPart;rw[LU];refine pS hc hn (J-_) p _ 0 (by simp[*]) hp hs (Nat.succ_pos _) (λi a b=>by congr 1;omega) λY m q' a2 Z U ao hq he=>?_
 dsimp only;have hz:m<=Y.size:=by rw[U.size];exact(xw ‹_› ‹_›)
 by_cases S:q' > 0
 .rw[if_pos S];refine vf hc (U.rev _ _) hn (Nat.lt_trans ‹_› ‹_›) Z (λi j ar hj=>?_) h;rw[dL hz he,dL hz he];exact ao i j ar hj
 .rw[if_neg S];exact vf hc U hn (by omega) Z ao h
def A8(hp:PB N p)(hn:J<=N)(h1:1<=J)
  (h:∀m p',PB N p'->1<=m->m<=J->gd key p' m->Q (m,p') s):(kas_count J p).kasWp cmp Q s:=by
 unfold kas_count;rw[LU];refine ym hc hp hn (J-1) 1 (by simp[*]) (pe _) (λi j U hj=>by have:=Li U (xw (Lk hj) (KN i));subst this;exact Lb _) λn Y aL Z bO=>?_
 by_cases ao:n=J
 .rw[if_pos (by simpa using ao)];exact h n p hp Y aL Z
 .rw[if_neg (by simpa using ao)];have nr:=LH aL ao;have nN:=wh nr hn;have a4:=bO.resolve_left ao;by_cases aP:n > 1
  .rw[if_pos aP];refine rG hc hp (KD (KN n) nN) (KD (Mw n 1) nN) ?_;cases a0:O.blt (kk key p 0) (kk key p (n-1))with
   |true =>
    rw[if_pos rfl];exact h n p hp Y aL Z
   |false =>
    rw[if_neg (by simp)];have a5:n<=p.size:=by rw[hp.size];exact K9 nN
    have S:∀k,0<=k->k<n->kk key p k=kk key p (n-1):=by
     intro k _ hk;have a1:=Z 0 k (KN k) hk;have a2:=Z k (n-1) (LQ hk) (MO Y Nat.one_pos);exact KeyOrd.kle_antisymm a2 (LP a0 a1)
    refine nc hc (hp.rev _ _) hn nr (λi j U hj=>?_) h;rw[dL a5 S,dL a5 S];by_cases a3:j<n
    .rw[S i (KN _) (KD U a3),S j (KN _) a3];exact Lb _
    .have bT:=Li (Lk hj) (Lx.mp a3);subst bT;by_cases ar:i=j
     .subst ar;exact Lb _
     .rw[S i (KN _) (LH U ar)];exact LM a4
  .rw[if_neg aP];have a6:=Li (Lx.mp aP) Y;subst a6;refine nc hc hp hn nr (λi j U hj=>?_) h;by_cases ar:i=j
   .subst ar;exact Lb _
   .have bW:i=0:=by omega
    have bX:j=1:=by omega
    subst bW;subst bX
    exact LM a4
theorem pT(hp:PB N p)(hk:k<N)(hs:gd key p k):∀f l r,r<=l+f->l<=r->r<=k ->
  (∀i,i<l->O.kle (kk key p i) (kk key p k))->(∀i,r<=i->i<k->O.klt (kk key p k) (kk key p i)) ->
  (∀l,l<=k->(∀i,i<l->O.kle (kk key p i) (kk key p k))->(∀i,l<=i->i<k->O.klt (kk key p k) (kk key p i))->Q l s)->(kas_place p k f l r).kasWp cmp Q s
 |0,l,r,hf,Z,J,U,Y,h=>by
  have:=Li Z hf;subst this;exact h l J U Y
 |f+1,l,r,hf,Z,J,U,Y,h=>by
  show(if l>=r then KasT.ret l else .ask (p.getD k 0) (p.getD ((l+r) / 2) 0) λc=>if c=true then kas_place p k f l ((l+r) / 2)else kas_place p k f ((l+r) / 2+1) r).kasWp cmp Q s;by_cases ao:l>=r
  .rw[if_pos ao];have:=Li Z ao;subst this;exact h l J U Y
  .rw[if_neg ao];obtain⟨m,em,m1,m2⟩:∃m,(l+r) / 2=m/\l<=m/\m<r:=⟨_,rfl,by omega,by omega⟩;rw[em];have mk:=wh m2 J;refine rG hc hp hk (Nat.lt_trans mk hk) ?_;cases S:O.blt (kk key p k) (kk key p m)with
   |true =>
    rw[if_pos rfl];exact pT hp hk hs f l m (by omega) m1 (K9 mk) U (λi a b=>KeyOrd.klt_of_klt_of_kle S (hs _ _ a b)) h
   |false =>
    rw[if_neg (by simp)];exact pT hp hk hs f (m+1) r (by omega) m2 J (λi a=>LP (hs i m (Lk a) mk) (show O.kle _ _ from S)) Y h
theorem CB :∀f p k,k+f=N->PB N p->gd key p k->(∀p',PB N p'->gd key p' N->Q p' s)->(kas_bin f p k).kasWp cmp Q s
 |0,p,k,e,Z,Y,h=>by
  have:k=N:=by omega
  subst this;exact h p Z Y
 |f+1,p,k,e,Z,Y,h=>by
  show((kas_place p k k 0 k).bind λl=>kas_bin f (bubble p k (k-l)) (k+1)).kasWp cmp Q s;rw[LU];refine pT hc Z (by omega) Y k 0 k (Me k 0) (KN k) (pe k) (λi a=>absurd a (Nat.not_lt_zero i)) (λi a b=>absurd b (Lx.mpr a)) λl hl aH aL=>?_
  refine CB f _ (k+1) (by omega) (Z.bub _ _) (λi j J hj=>?_) h;have aP:k<p.size:=by rw[Z.size];omega
  have val:∀i,i<k+1->(i<l/\kk key (bubble p k (k-l)) i=kk key p i)\/(i=l/\kk key (bubble p k (k-l)) i=kk key p k)\/∃S,i=S+1/\l<=S/\S<k/\kk key (bubble p k (k-l)) i=kk key p S:=λi hi=>by
   rw[wE aP (Mw k l),Nat.sub_sub_self hl];rcases Nat.lt_trichotomy i l with q|q|q
   .exact .inl ⟨q,by rw[if_neg (KA q),if_neg λz=>Nat.lt_asymm q z.1]⟩
   .exact .inr (.inl ⟨q,by rw[if_pos q]⟩)
   .obtain⟨c,rfl⟩:=Nat.exists_eq_add_of_lt q;exact .inr (.inr ⟨l+c,rfl,Ll _ _,Nat.lt_of_succ_lt_succ hi,by rw[if_neg (LW q),if_pos ⟨q,Lk hi⟩];rfl⟩)
  rcases val i (KD J hj)with⟨a,e1⟩|⟨a,e1⟩|⟨S,a,b,c,e1⟩<;>rcases val j hj with⟨U,e2⟩|⟨U,e2⟩|⟨j',U,b',c',e2⟩<;>rw[e1,e2]
  .exact Y i j J (wh U hl)
  .exact aH i a
  .exact Y i j' (xw (K9 a) b') c'
  .exact absurd U (Lx.mpr (a▸J))
  .exact Lb _
  .exact LM (aL j' b' c')
  .exact absurd (KD (a▸J:S+1<=j) U) (Lx.mpr (Nat.le_succ_of_le b))
  .exact absurd (U▸a▸J:S+1<=l) (Nat.not_le.mpr (Mr b))
  .exact Y S j' (Ma (U▸a▸J:S+1<=j'+1)) c'
def Eo(h1:1<=N)(h:∀p,PB N p->gd key p N->Q p s):(kas_sort N).kasWp cmp Q s:=by
 unfold kas_sort;rw[LU];refine A8 hc (Array.Perm.refl _) (pe _) h1 λm Y J Z ao S=>?_
 by_cases U:m<N
 .rw[if_pos U,show max m 1=m by omega];exact CB hc _ _ _ (by simp[*]) J S h
 .rw[if_neg U];have:m=N:=by omega
  subst this;exact h Y J S
end
end L2.Srt
namespace L2.Srt
open PySem PyProof.Rows List Option
theorem ng:∀a,HT.lexLt a a=false
 | []=>rfl
 |x::r=>by rw[HT.lexLt_cons,if_pos rfl];exact ng r
theorem k6:∀a b c,HT.lexLt a b=true->HT.lexLt b c=true->HT.lexLt a c=true
 | [],[],_,h,_=>dD h
 | [],_::_,[],_,h=>dD h
 | [],_::_,_::_,_,_=>rfl
 | _::_,[],_,h,_=>dD h
 | _::_,_::_,[],_,h=>dD h
 |x::a,y::b,z::c,h1,h2=>by
  rw[HT.lexLt_cons]at h1 h2 ⊢;by_cases J:x=y
  .rw[if_pos J]at h1;by_cases S:y=z
   .rw[if_pos S]at h2;rw[if_pos (J.trans S)];exact k6 a b c h1 h2
   .simp_all
  .grind
theorem k9:∀a b,HT.lexLt a b=false->HT.lexLt b a=false->a=b
 | [],[],_,_=>rfl
 | [],_::_,h,_=>sW h
 | _::_,[],_,h=>sW h
 |x::a,y::b,h1,h2=>by
  rw[HT.lexLt_cons]at h1 h2;by_cases e:x=y
  .rw[if_pos e]at h1;rw[if_pos e.symm]at h2;rw[e,k9 a b h1 h2]
  .grind
def A9(a b c)(h:HT.lexLt a c=true):HT.lexLt a b=true\/HT.lexLt b c=true:=by
 cases h1:HT.lexLt a b with
 |true=>exact .inl rfl
 |false =>
  cases h2:HT.lexLt b a<;>first|exact .inr (k6 b a c h2 h)|(rw[k9 a b h1 h2]at h;exact .inr h)
noncomputable def eE:KeyOrd:=⟨List Int,HT.lexLt,ng,k6,A9,k9⟩
noncomputable def dM:KeyOrd:=⟨Int,λa b=>decide (a<b),λa=>KH (by omega),λa b c h1 h2=>Ks (by have:=KQ h1;have:=KQ h2;omega),
 λa b c h=>by
  have:=KQ h;by_cases q:a<b
  .exact .inl (Ks q)
  .exact .inr (Ks (by omega)),
 λa b h1 h2=>by have:=of_decide_eq_false h1;have:=of_decide_eq_false h2;omega⟩
section
variable(O:KeyOrd)
noncomputable def lV(x:O.α):List O.α->List O.α
 | []=>[x]
 |y::r=>if O.blt y x then y::lV x r else x::y::r
noncomputable def ir:List O.α->List O.α
 | []=>[]
 |x::r=>lV O x (ir r)
theorem k_(x):∀l,(lV O x l).Perm (x::l)
 | []=>.refl _
 |y::r=>by
  show(if O.blt y x then y::lV O x r else x::y::r).Perm _;split
  .exact(Perm.cons y (k_ x r)).trans (.swap x y r)
  .exact .refl _
theorem fH:∀l,(ir O l).Perm l
 | []=>.refl _
 |x::r=>(k_ O x _).trans (.cons x (fH r))
theorem nh(x):∀l,l.Pairwise O.kle->(lV O x l).Pairwise O.kle
 | [],_=>pairwise_singleton _ _
 |y::r,h=>by
  show(if O.blt y x then y::lV O x r else x::y::r).Pairwise O.kle;obtain⟨h1,h2⟩:=Mb.mp h;by_cases q:O.blt y x=true
  .rw[if_pos q];refine Mb.mpr ⟨λz hz=>?_,nh x r h2⟩;rcases nW.mp ((k_ O x r).mem_iff.mp hz)with e|e
   .rw[e];exact LM q
   .exact h1 z e
  .rw[if_neg q];have J:=Bool.eq_false_iff.mpr q;refine Mb.mpr ⟨λz hz=>?_,h⟩;rcases nW.mp hz with e|e
   .rw[e];exact J
   .exact LP J (h1 z e)
theorem eW:∀l,(ir O l).Pairwise O.kle
 | []=>Pairwise.nil
 |x::r=>nh O x _ (eW r)
theorem jP:∀{a b:List O.α},a.Perm b->a.Pairwise O.kle->b.Pairwise O.kle->a=b
 | [],b,p,_,_=>p.nil_eq
 |x::a,[],p,_,_=>by have:=p.length_eq;injection this
 |x::a,y::b,p,ha,S=>by
  obtain⟨U,Y⟩:=Mb.mp ha;obtain⟨Z,b2⟩:=Mb.mp S;have e:x=y:=by
   have hx:=p.mem_iff.mp (.head _);have hy:=p.mem_iff.mpr (.head _);rcases nW.mp hx with q|q
   .exact q
   .rcases nW.mp hy with J|J
    .exact J.symm
    .exact KeyOrd.kle_antisymm (U y J) (Z x q)
  subst e;rw[jP (p.cons_inv) Y b2]
def jQ(p:a.Perm l)(h:a.Pairwise O.kle):a=ir O l:=jP O (p.trans (fH O l).symm) h (eW O l)
def jc(p:a.Perm b):ir O a=ir O b:=jQ O ((fH O a).trans p) (eW O a)
def rJ(h:a.Pairwise O.kle):ir O a=a:=(jQ O (.refl a) h).symm
end
def iS{α:Type}(xs)(d:α):(range xs.length).map (λi=>xs.getD i d)=xs:=by
 apply ext_getElem?;intro i;rw[Kx];by_cases q:i<xs.length
 .simp_all
 .simp_all
def Ep(S:PB xs.length p)(Y:gd (λi=>xs.getD i d) p xs.length):p.toList.map (λi=>xs.getD i d)=ir O xs:=by
 refine jQ O ?_ ?_
 .have h:=(LS.mp S).map λi=>xs.getD i d
  have e:=iS xs d;rw[e]at h;exact h
 .rw[pairwise_iff_getElem];intro i j hi U J;rw[tr,Array.length_toList]at hi U;have hz:=S.size;have q:=Y i j (K9 J) (by omega);simp only[getElem_map];have Z:p.getD i 0=p[i]:=by simp[hi]
  have ej:p.getD j 0=p[j]:=by simp[U]
  unfold kk at q;rw[Z,ej]at q;exact q
end L2.Srt
namespace L2.Srt
open PySem PySem.W PySem.Calls PyProof.Rows List Option
section
variable{prog:Program}{w:World}{A:Around}{E:Value->Shared->Prop}{s:Shared}
def KOk(g:SortKind):Prop:=g=tuples' true\/g=general'\/g=oneType'
def pU {KO:SortKind->Prop}{O:KeyOrd}{key:Nat->O.α}{a:Addr}{vs:List Value}{n:Nat}{R:PySem.Fin->Shared->Prop} (ho:s.heap.get? a=some (seqObj "list" vs.toArray n)) (aL:vs.length<64)
  (hk:2<=vs.length->∀s' Q,(∀b o,b≠a->s.heap.get? b=some o->s'.heap.get? b=some o)->(∀g,KO g->Q g s')->wpAny (model prog w) A (keyKind' vs.toArray) Q (λ_ _=>False) s')
  (hc:∀g,KO g->∀s' i j C,(∀b o,b≠a->s.heap.get? b=some o->s'.heap.get? b=some o)->i<vs.length->j<vs.length->C (O.blt (key i) (key j)) s' ->
   wpAny (model prog w) A (keyLt' g (vs.getD i Value.none) (vs.getD j Value.none)) C (λ_ _=>False) s')
  (h:∀p,PB vs.length p->gd key p vs.length->R (.done (.ret .none)) { s with heap:=sortedHeap s.heap a vs (p.toList.map λi=>vs.getD i Value.none).toArray }) :
  wpAny (model prog w) A (Builtin.«list.sort» ⟨[.ref a],[]⟩) R E s:=by
 rw[list_sort_plain];have ha:=u0 ho;refine j0 (listItems_at ho rfl ?_);refine j0 (listUpdate_at ho rfl ?_ (by rw[oe,K7];omega) (KN _));obtain⟨e1,Z⟩:∃e1,(s.heap.update a (Obj.mapSeq λ_=>(#[]:Array Value))).get? a=some (seqObj "list" #[] e1):=⟨_,get?_update_seq ho λ_=>#[]⟩;refine j0 (seqEpoch_at Z rfl ?_);refine j0 (wpAny_newTuple ?_ (by show vs.length<=_;rw[K7];omega));refine j0 (wpAny_newList ?_ (KN _));refine Lw ?_;have S:(((s.heap.update a (Obj.mapSeq λ_=>(#[]:Array Value))).push (seqObj "tuple" vs.toArray 0)).push (seqObj "list" #[] 0)).get? a=some (seqObj "list" #[] e1):=mu _ (mu _ Z);have kp:∀b o,b≠a->s.heap.get? b=some o->(((s.heap.update a (Obj.mapSeq λ_=>(#[]:Array Value))).push (seqObj "tuple" vs.toArray 0)).push (seqObj "list" #[] 0)).get? b=some o:=λb o hb e =>
  mu _ (mu _ ((L9 _ _ (Ku hb)).trans e))
 dsimp only;have bT:vs.toArray.size=vs.length:=by rfl
 by_cases h2:vs.toArray.size<2
 .rw[if_pos h2,if_pos h2];refine j0 (ox ?_);rw[StateT.run_pure];refine j0 (ox ?_);dsimp only;refine j0 (seqEpoch_at S rfl ?_);refine j0 (listUpdate_at S rfl ?_ (KN _) (by rw[Array.size_map];show(pairsOf vs).size<=_;rw[pairsOf_size,K7];omega));simp only[bne_self_eq_false,LI,MN];have e:((arrOf (SortSt.mk' general' (vs.toArray.zip vs.toArray) #[] 7 none)).map (·.2))=((range vs.length).toArray.toList.map λi=>vs.getD i Value.none).toArray:=by
   have e2:(arrOf (SortSt.mk' general' (vs.toArray.zip vs.toArray) #[] 7 none))=vs.toArray.zip vs.toArray:=rfl;rw[e2];apply Array.toList_inj.mp;rw[iS];simp[map_snd_zip]
  refine ox ?_;have q:=h (range vs.length).toArray (Array.Perm.refl _) (λi j bX hj=>by
   have:i=j:=by omega
   subst this;exact Lb _)
  rw[<- e]at q;exact q
 .rw[if_neg h2,if_neg h2];have ao:2<=vs.length:=by exact(MF ‹_›)
  refine j0 (K3 (hk ao _ (λg s0=>KO g/\s0={ s with heap:=((s.heap.update a (Obj.mapSeq λ_=>(#[]:Array Value))).push (seqObj "tuple" vs.toArray 0)).push (seqObj "list" #[] 0) }) kp λg J=>⟨J,rfl⟩) (λg s0 J=>?_) λ_ _ x=>x.elim);obtain⟨J,rfl⟩:=J;refine j0 (K3 (kat_run (Q:=λU s'=>∃p,p.size=vs.length/\arrOf U=p.map (kas_item (vs.toArray.zip vs.toArray))/\failedOf U=none/\PB vs.length p/\gd key p vs.length/\s'={ s with heap:=((s.heap.update a (Obj.mapSeq λ_=>(#[]:Array Value))).push (seqObj "tuple" vs.toArray 0)).push (seqObj "list" #[] 0) })
   (G:=λp s'=>PB vs.length p/\gd key p vs.length/\s'={ s with heap:=((s.heap.update a (Obj.mapSeq λ_=>(#[]:Array Value))).push (seqObj "tuple" vs.toArray 0)).push (seqObj "list" #[] 0) })
   rfl ao aL (λp' U s' a1 a2 a3 a4=>⟨p',a1,a2,a3,a4⟩)
   (Eo (key:=key) (λi j C hi hj q=>hc g J _ i j C kp hi hj q) (K9 ‹_›) λp hp hr=>⟨hp,hr,rfl⟩)) ?_ λ_ _ e=>e)
  rintro ⟨⟨⟩,U⟩ s' ⟨p,hp,a5,hf,a6,bt,rfl⟩;have Y:=kat_snds rfl a5;refine j0 (seqEpoch_at S rfl ?_);refine j0 (listUpdate_at S rfl ?_ (KN _) (by rw[Y];refine xw (LN ?_) (show vs.length<=_ by rw[K7];omega);simp[hp]));rw[hf,Y];simp only[bne_self_eq_false,LI,MN];exact ox (h p a6 bt)
theorem lM :∀{vs ws}{ns ms} i,IntsAre vs ns->IntsAre ws ms->fin=decide (ns.length<ms.length)->C (HT.lexLt ns ms) s->KatLex prog w A true fin C (vs.zip ws) i s
 | _,_,_,_,i,.nil,.nil,hf,h=>by
  refine kat_nil ?_;rw[hf];exact h
 | _,_,_,_,i,.nil,.cons c u hw,hf,h=>by
  refine kat_nil ?_;rw[hf,Ks (by simp)];exact h
 | _,_,_,_,i,.cons a t J,.nil,hf,h=>by
  refine kat_nil ?_;rw[hf,KH (by simp)];exact h
 | _,_,_,_,i,.cons (ns:=ns) a t J,.cons (ns:=ms) c u hw,hf,h=>by
  rw[HT.lexLt_cons]at h;refine kat_cons (wpAny_eqBool_int ?_);by_cases e:a=c
  .rw[if_pos e]at h;have q:(a==c)=true:=by rw[e];exact Ld c
   rw[q];refine kat_yes (lM _ J hw ?_ h);rw[hf];simp
  .rw[if_neg e]at h;have q:=KR.mpr e;rw[q];refine kat_no ?_;cases i with
   |zero=>exact oneLt_int h
   |succ i=>exact kat_one _ _ (lt_int h)
def A_(hk:KOk g){a b:Addr}{its J:Array Value}{ns ms:List Int}{C:Bool->Shared->Prop}(ha:IsTup s.heap a its)(hb:IsTup s.heap b J)(hi:IntsAre its.toList ns)(hj:IntsAre J.toList ms)
  (hu:A.units<cLine) (h:C (HT.lexLt ns ms) s):wpAny (model prog w) A (keyLt' g (.ref a) (.ref b)) C E s:=by
 rcases hk with rfl|rfl|rfl
 .obtain⟨o,Y,_,n,hd⟩:=id ha;obtain⟨o2,U,_,n2,S⟩:=id hb;refine kat_lt Y hd U S (lM 0 hi hj ?_ h);have z1:its.size=ns.length:=by rw[<- hi.length];simp
  have z2:J.size=ms.length:=by rw[<- hj.length];simp
  rw[z1,z2]
 .show wpAny _ _ (oneLt' false _ _) _ _ _;exact kat_one _ _ (HT.lt_tupInts ha hb hi hj hu h)
 .rw[keyLt'_oneType,oneLt'_eq];refine j0 (wpAny_cRoomFor hu ?_);refine cw λZq kq=>?_
  obtain⟨⟨cls,dd,data,sl⟩,Y,hc,n,hd⟩:=id ha;obtain⟨⟨a0,aH,data2,aL⟩,U,Z,n2,S⟩:=id hb;simp only at hc hd Z S;subst hc hd Z S;refine kq ?_;refine j0 (wpAny_callSpecialIfBound?_slot ⟨_,Y,rfl⟩ PySem.F.slot_tuple_lt (Mv PySem.F.slot_tuple_lt ⟨_,Y,rfl⟩ PySem.F.entry_tuple_lt (PySem.F.args_tuple_lt_2 _ _) (HT.tuple_lt_ints a b its J n n2 dd aH sl aL ns ms hi hj) ⟨Y,U,?_⟩));exact KZ h
theorem lN:∀(vs:List Value) {Q},(∀v∈vs,∃a its ns,v=.ref a/\IsTup s.heap a its/\IntsAre its.toList ns) ->
  (∀fs,fs.length=vs.length->(∀f∈fs,∀v,f=some v->∃n t,v=Value.int n t)->Q fs s)->wpAny (model prog w) A (vs.mapM firstOfTuple') Q E s
 | [],Q,_,h=>by rw[mapM_nil];exact ox (h [] rfl (by simp))
 |v::vs,Q,S,h=>by
  refine cw λZq Y=>?_
  obtain⟨a,its,ns,rfl,⟨o,U,hc,n,hd⟩,hi⟩:=S v (.head _);refine Y ?_;rw[mapM_cons];refine j0 ?_;refine j0 (Looks.here (show Looks (model prog w) s.heap (typeOf (.ref a)) o.cls from(Looks.ld U).andThen .now) ?_);rw[hc,if_neg (by first|decide|simp)];refine j0 (listItems_at U hd (ox ?_));refine j0 (lN vs (Q:=λbs s'=>wpAny (model prog w) A (pure (its[0]?::bs)) Q E s') (λu Z=>S u (.tail _ Z)) λfs hl hf=>?_);refine ox (h _ (by simp[hl]) λf hm u e=>?_);rcases nW.mp hm with z|z
  .rw[z]at e;have J:u∈its.toList:=by
    rw[<- Array.getElem?_toList]at e;exact LF e
   exact hi.all u J
  .exact hf f z u e
def wF{vs:List Value}{Q:SortKind->Shared->Prop}(h2:2<=vs.length)(hv:∀v∈vs,∃a its ns,v=.ref a/\IsTup s.heap a its/\IntsAre its.toList ns)(h:∀g,KOk g->Q g s) :
  wpAny (model prog w) A (keyKind' vs.toArray) Q E s:=by
 rw[kat_kind_eq,mapM_toArray,MG];refine j0 (j0 (lN vs hv λfs Z hf=>ox ?_));by_cases J:(fs.toArray.all λx=>x.isSome)=true
 .rw[if_pos J];refine j0 (wpAny_rule ?_);have ao:(fs.toArray.filterMap id)=(fs.filterMap id).toArray:=by simp
  rw[ao,oneTypeOnly'_eq,mapM_toArray,MG];have U:∀v∈fs.filterMap id,∃n t,v=Value.int n t:=λv hm=>by
   refine ag (mem_filterMap.mp hm) λf ar e=>?_
   exact hf f ar v e
  have aH:0<(fs.filterMap id).length:=by
   match fs,Z,J with
   | [],Z,_=>simp at Z;omega
   |f::r,_,J =>
    have:f.isSome=true:=by simp at J;exact J.1
    obtain⟨u,rfl⟩:=isSome_iff_exists.mp this;simp
  refine j0 (j0 (j0 (kas_mapM (r:=Value.type "int") _ (λv hm Q' hq=>?_) (ox ?_))))
  .refine oB (U v hm) λn t aP=>?_
   subst aP;exact ox hq
  .have h0:(map (λ_=>Value.type "int") (fs.filterMap id)).toArray[0]?=some (Value.type "int"):=by
    simp[aH]
   rw[h0];have S:((map (λ_=>Value.type "int") (fs.filterMap id)).toArray.all λx=>x==Value.type "int")=true:=by
    simp only[all_toArray,MH,Mc];intro _ _
    rfl
   simp only[S,if_true];exact ox (ox (h _ (.inl rfl)))
 .rw[if_neg J];by_cases Y:((fs.toArray[0]?).bind id).isSome=true
  .rw[if_pos Y];exact ox (h _ (.inr (.inl rfl)))
  .rw[if_neg Y];rw[oneTypeOnly'_eq,mapM_toArray,MG];refine j0 (j0 (j0 (kas_mapM (r:=Value.type "tuple") _ (λv hm Q' hq=>?_) (ox ?_))))
   .obtain⟨a,its,ns,rfl,⟨o,ho,hc,n,hd⟩,hi⟩:=hv v hm;have q:Looks (model prog w) s.heap (typeOf (.ref a)) o.cls:=(Looks.ld ho).andThen .now;rw[hc]at q;exact q.here hq
   .have h0:(map (λ_=>Value.type "tuple") vs).toArray[0]?=some (Value.type "tuple"):=by
     have:0<vs.length:=by exact(K9 ‹_›)
     simp[this]
    rw[h0];have S:((map (λ_=>Value.type "tuple") vs).toArray.all λx=>x==Value.type "tuple")=true:=by
     simp only[all_toArray,MH,Mc];intro _ _
     rfl
    simp only[S,if_true];exact ox (ox (h _ (.inr (.inr rfl))))
end
end L2.Srt
namespace L2.St
open PySem PyProof.Rows List Option
section
variable{P:Program}{w:World}{A:Around}{E:Value->Shared->Prop}{s:Shared}
def wG{v:Value}{vs:Array Value}{it:Addr}{Q:Option Value->Shared->Prop}(J:A.handled=none){R:Value->Shared->Prop}
  (S:∀e s',(∀b o,s.heap.get? b=some o->s'.heap.get? b=some o)->(∃h',s'={ s with heap:=h' })->s'.TypeIs e "StopIteration"->R e s') {U:PySem.Fin->Shared->Prop} :
  wpAny (model P w) A (newExc (.type "StopIteration") [] >>= λe=>(raiseNew e:Sem PySem.Fin)) U R s:=by
 refine wpAny_bind ?_;simp only[newExc,newTuple];refine wpAny_bind (wpAny_newObj_type ?_ (by size_fits));refine wpAny_bind (m:=firstArgMember _ _) (wpAny_of_eq (a:=Value.none) (by first|rfl|(simp only[firstArgMember];rfl)) ?_);refine wpAny_newObj_type ?_ (by size_fits);simp only[raiseNew];refine wpAny_bind (wpAny_handled ?_);rw[J];refine wpAny_bind (wpAny_pure (wpAny_throw ?_));exact S _ _ (λb o e=>Heap.get?_push_of_some _ (Heap.get?_push_of_some _ e)) ⟨_,rfl⟩ ⟨_,Heap.get?_push_size _ rfl,rfl⟩
def om(h:ItemsOf (λi v=>∃t,v=Value.int (order.getD i 0) t) acc order.length):IntsAre acc.toList order:=by
 obtain⟨hz,U⟩:=h;have S:acc.toList.length=order.length:=by simpa using hz
 have J:∀j v,acc.toList[j]?=some v->∃t,v=Value.int _ t:=λj v e=>U j v (by rw[<- Array.getElem?_toList];exact e)
 clear U hz;generalize acc.toList=vs at S J
 induction vs generalizing order with
 |nil =>
  have:=Lr.mp S.symm;rw[this];exact .nil
 |cons v r ih =>
  match order,S,J with
  | [],S,_=>simp at S
  |k::ks,S,J =>
   obtain⟨t,e⟩:=J 0 v rfl;have Y:=e;rw[Y];exact .cons k t (ih (by simpa using S) λj u q=>J (j+1) u (by simpa using q))
end
end L2.St
namespace L2
open PySem PySem.Spec PyProof.Rows List Option
noncomputable def on(scope osc:Scope):Scope:=
 { scope with names:=scope.names.map λ(n,k)=>if (k==.free&&osc.kind==.function&&osc.names.lookup n==some .cell)then(n,.cell)else(n,k) }
noncomputable def oq(osc:Scope)(n:Str)(k:NameKind):NameKind:=if (k==.free&&osc.kind==.function&&osc.names.lookup n==some .cell)then .cell else k
def jm(scope osc):(on scope osc).names=scope.names.map λq=>(q.1,oq osc q.1 q.2):=by
 refine Lp λq _=>?_
 obtain⟨n,k⟩:=q;show(if _=true then _ else _)=(n,oq osc n k);unfold oq;split<;>rfl
theorem gf{α S:Type}(g:Str->α->S)(y):∀names:List (Str×α),(names.map λq=>(q.1,g q.1 q.2)).lookup y=(names.lookup y).map (g y)
 | []=>rfl
 | (n,k)::r=>by
  cases J:y==n with
  |true =>
   simp[lookup_cons,J,map_some];rw[eq_of_beq J]
  |false =>
   simp[lookup_cons,J];exact gf g y r
def wH(osc)(n):oq osc n .free=.cell\/oq osc n .free=.free:=by
 unfold oq;split
 .exact .inl rfl
 .exact .inr rfl
def wI(J:k≠.cell)(h:oq osc n k=.cell\/oq osc n k=.free):k=.free:=by
 unfold oq at h;by_cases hc:(k==NameKind.free&&osc.kind==.function&&osc.names.lookup n==some .cell)=true
 .simp_all
 .simp_all
theorem jn{α:Type}{k:α}:∀{l:List (Str×α)},l.lookup y=some k->(y,k)∈l
 | [],h=>by injection h
 | (n,S)::r,h=>by
  cases J:y==n with
  |true =>
   simp only[lookup_cons,J]at h;rw[eq_of_beq J,uW h];exact .head _
  |false =>
   simp[lookup_cons,J]at h;exact .tail _ (jn h)
def wJ(h:scope.names.lookup y=some .free):(on scope osc).names.lookup y=some .cell\/(on scope osc).names.lookup y=some .free:=by
 rw[jm,gf,h,map_some];rcases wH osc y with e|e
 .exact .inl (by rw[e])
 .exact .inr (by rw[e])
def wK(hn:∀z∈scope.names,z.2=.cell->z.1=x)(h:(on scope osc).names.lookup y=some .cell\/(on scope osc).names.lookup y=some .free):(y,NameKind.free)∈scope.names\/(y=x/\scope.names.lookup x=some .cell):=by
 rw[jm,gf]at h;cases e:scope.names.lookup y with
 |none=>rw[e]at h;rcases h with h|h<;>exact bn h
 |some k =>
  rw[e,map_some]at h;have hm:=jn e;by_cases hc:k=.cell
  .subst hc;have q:=hn _ hm rfl;exact .inr ⟨q,by rw[<- q];exact e⟩
  .have J:=wI hc (h.elim (λz=>.inl (uW z)) λz=>.inr (uW z));rw[J]at hm;exact .inl hm
def wL(h:scope.names.lookup y=some .cell):(on scope osc).names.lookup y=some .cell:=by
 rw[jm,gf,h,map_some];unfold oq;split
 .rfl
 .rfl
noncomputable def gr(env:Env):List (Str×NameKind)->List (Str×Addr)->List (Str×Addr)
 | [],acc=>acc
 | (n,k)::r,acc=>if k==.free then gr env r ((n,(env.cells.lookup n).getD 0)::acc)else gr env r acc
theorem lb :∀names J,(∀y∈names,y.2=.free->∃c,env.cells.lookup y.1=some c) ->
  (forIn names J λx r=>(match x with|(name,kind)=>if (kind==NameKind.free)=true then do let c <- cellOf env name;pure (ForInStep.yield ((name,c)::r))else pure (ForInStep.yield r)):Sem (List (Str×Addr)))=pure (gr env names J)
 | [],J,_=>rfl
 | (n,k)::r,J,h=>by
  rw[forIn_cons];have U:∀y∈r,y.2=.free->∃c,env.cells.lookup y.1=some c:=λy Y=>h y (.tail _ Y)
  by_cases S:(k==NameKind.free)=true
  .obtain⟨c,hc⟩:=h (n,k) (.head _) (eq_of_beq S);dsimp only;rw[if_pos S];have Z:cellOf env n=pure c:=by unfold cellOf;rw[hc]
   rw[Z];simp only[pure_bind];rw[lb r _ U];show _=pure (if _=true then _ else _);rw[if_pos S,hc]
   all_goals rfl
  .dsimp only;rw[if_neg S];simp only[pure_bind];rw[lb r _ U];show _=pure (if _=true then _ else _);rw[if_neg S]
def ni(h:∀y∈scope.names,y.2=.free->∃c,env.cells.lookup y.1=some c):closureFor scope env=pure (gr env scope.names []):=by
 unfold closureFor;have:=lb scope.names [] h
 first
  | exact this
  | (rw[bind_pure];exact this)
  | simpa using this
theorem nj :∀names J,(∀z∈names,z.2=.free->∃c,env.cells.lookup z.1=some c)->(∀c,J.lookup y=some c->env.cells.lookup y=some c) ->
  (gr env names J).lookup y=some c->env.cells.lookup y=some c
 | [],J,_,ha,e=>ha c e
 | (n,k)::r,J,h,ha,e=>by
  have Y:∀y∈r,y.2=.free->∃c,env.cells.lookup y.1=some c:=λy Z=>h y (.tail _ Z)
  have S:(if (k==NameKind.free)=true then gr env r ((n,(env.cells.lookup n).getD 0)::J)else gr env r J).lookup y=some c:=e;by_cases U:(k==NameKind.free)=true
  .rw[if_pos U]at S;refine nj r _ Y (λc' q=>?_) S;cases hx:y==n with
   |true =>
    obtain⟨c0,aH⟩:=h (n,k) (.head _) (eq_of_beq U)
    simp_all
   |false =>
    simp[lookup_cons,hx]at q;exact ha c' q
  .rw[if_neg U]at S;exact nj r _ Y ha S
theorem jR :∀names J,((y,NameKind.free)∈names\/∃c,J.lookup y=some c)->∃c,(gr env names J).lookup y=some c
 | [],J,h=>by
  rcases h with h|h
  .simp at h
  .exact h
 | (n,k)::r,J,h=>by
  show ∃c,(if (k==NameKind.free)=true then gr env r ((n,(env.cells.lookup n).getD 0)::J)else gr env r J).lookup y=some c;by_cases S:(k==NameKind.free)=true
  .rw[if_pos S];refine jR r _ ?_;cases U:y==n with
   |true=>exact .inr ⟨(env.cells.lookup n).getD 0,by simp[lookup_cons,U]⟩
   |false =>
    rcases h with h|⟨c,h⟩
    .simp_all
    .exact .inr ⟨c,by simp[lookup_cons,U];exact h⟩
  .rw[if_neg S];refine jR r _ ?_;rcases h with h|h
   .rcases nW.mp h with z|z
    .have:=(Prod.mk.inj z).2
     simp_all
    .exact .inl z
   .exact .inr h
structure lc(osc:Scope)(N:List Str)(scope:Scope)(x:Str)(fvs:List Str)(js:List Nat):Prop where
 cells:∀y∈scope.names,y.2=.cell->y.1=x
 once:scope.names.lookup x=some .local/\(scope.names.filter λy=>y.2==.cell)=[]\/scope.names.lookup x=some .cell/\(scope.names.filter λy=>y.2==.cell)=[(x,.cell)]
 xf:∀y∈scope.names,y.2=.free->y.1≠x
 kind:scope.kind=.function
 names:∀y∈scope.names,y.2=.local->scope.names.lookup y.1=some .local
 nd:(x::fvs).Nodup
 out:∀y∈scope.names,y.2=.free->osc.names.lookup y.1=some .cell\/osc.names.lookup y.1=some .free
 slots:(js.map λj=>N[j]?)=fvs.map some
 free:∀y∈fvs,scope.names.lookup y=some .free
structure pV(osc:Scope)(N:List Str)(scope:Scope)(x:Str)(ys fvs:List Str)(js:List Nat):Prop where
 cells:∀y∈scope.names,y.2=.cell->y.1=x
 once:scope.names.lookup x=some .local/\(scope.names.filter λy=>y.2==.cell)=[]\/scope.names.lookup x=some .cell/\(scope.names.filter λy=>y.2==.cell)=[(x,.cell)]
 xf:∀y∈scope.names,y.2=.free->y.1≠x
 kind:scope.kind=.function
 names:∀y∈scope.names,y.2=.local->scope.names.lookup y.1=some .local
 nd:(x::(ys++fvs)).Nodup
 out:∀y∈scope.names,y.2=.free->osc.names.lookup y.1=some .cell\/osc.names.lookup y.1=some .free
 slots:(js.map λj=>N[j]?)=fvs.map some
 free:∀y∈fvs,scope.names.lookup y=some .free
theorem lc.g{osc:Scope}{N:List Str}{scope:Scope}{x:Str}{fvs:List Str}{js:List Nat}(h:lc osc N scope x fvs js):pV osc N scope x [] fvs js:=⟨h.cells,h.once,h.xf,h.kind,h.names,h.nd,h.out,h.slots,h.free⟩
noncomputable def lh(scope:Scope)(x:Str)(C:Addr):List (Str×Addr):=if scope.names.lookup x=some .cell then [(x,C+1)]else []
noncomputable def Cx.blk(X:Cx)(x:Str)(fvs:List Str)(scope:Scope)(J:Shared)(S:Hp)(C:Addr)(U:List Addr):Cx:=
 { X with N:=x::fvs,s₀:=J,H₀:=S,env:=compEnvC scope (lh scope x C++gr X.env scope.names []) C X.env,outer:=X.stack,ex:=U,fn:=λy=>decide (y=x/\scope.names.lookup x=some .cell),pn:=[],xe:=λ_ _=>False }
theorem nk :∀{names:List (Str×NameKind)}{J}{s}{Q},(names.filter λy=>y.2==.cell)=[]->Q J s ->
  wpAny M A (forIn names J λx r=>(match x with|(name,kind)=>if (kind==NameKind.cell)=true then do let c <- alloc { cls:=.type "cell",data:=.cell none };pure (ForInStep.yield ((name,c)::r))else pure (ForInStep.yield r)):Sem (List (Str×Addr))) Q E s
 | [],_,_,_,_,h=>ox h
 | (n,k)::r,J,s,Q,hf,h=>by
  rw[forIn_cons];have S:(k==NameKind.cell)=false:=by
   simp_all
  rw[Mn (by rw[S];decide)]at hf;dsimp only;rw[if_neg (by rw[S];decide)];exact j0 (ox (nk hf h))
theorem oQ{x:Str}:∀{names:List (Str×NameKind)}{J}{s}{Q},(names.filter λy=>y.2==.cell)=[(x,.cell)] ->
  Q ((x,s.heap.objs.size)::J) { s with heap:=s.heap.push { cls:=.type "cell",data:=.cell none } } ->
  wpAny M A (forIn names J λx r=>(match x with|(name,kind)=>if (kind==NameKind.cell)=true then do let c <- alloc { cls:=.type "cell",data:=.cell none };pure (ForInStep.yield ((name,c)::r))else pure (ForInStep.yield r)):Sem (List (Str×Addr))) Q E s
 | [],_,_,_,hf,_=>wa hf
 | (n,k)::r,J,s,Q,hf,h=>by
  rw[forIn_cons];dsimp only;cases S:(k==NameKind.cell)with
  |false =>
   rw[Mn (by rw[S];decide)]at hf;exact j0 (ox (oQ hf h))
  |true =>
   rw[filter_cons_of_pos (by exact S)]at hf;obtain⟨U,Y⟩:=List.cons.inj hf;cases U;exact j0 (j0 (wpAny_alloc (ox (nk Y h))))
def tP{scope:Scope}{x:Str}{globals:Addr}{cl:List (Str×Addr)}{qual:Str}{env:Env}{s:Shared}{Q:Env->Shared->Prop}(Z:scope.kind=.function)
  (ho:scope.names.lookup x=some .local/\(scope.names.filter λy=>y.2==.cell)=[]\/scope.names.lookup x=some .cell/\(scope.names.filter λy=>y.2==.cell)=[(x,.cell)])
  (h:∀h' m,h'.Ns s.heap.objs.size m->(∀b u,s.heap.get? b=some u->h'.get? b=some u)->(scope.names.lookup x=some .cell->h'.IsCell (s.heap.objs.size+1) none)->Q (newEnv scope s.heap.objs.size globals (lh scope x s.heap.objs.size++cl) qual none .none (some env) builtinsNs) { s with heap:=h' }) :
  wpAny M A (newFunctionEnv scope globals cl [] qual none .none (some env)) Q E s:=by
 rcases ho with⟨h1,h2⟩|⟨h1,h2⟩
 .refine wpAny_newFunctionEnv (λy J z=>?_) (by intro y J;simp at J) (λh' S U=>?_) Z
  .have:y∈scope.names.filter λy=>y.2==.cell:=Kw.mpr ⟨J,by rw[z];rfl⟩
   rw[h2]at this;cases this
  .have q:=h h' _ S (λb u e=>U.extBut b u (KA (u0 e)) (mu _ e)) λz=>by rw[h1]at z;cases z
   unfold lh at q
   simp_all
 .unfold newFunctionEnv;refine j0 (wpAny_alloc (j0 (oQ h2 ?_)));have hn:=Heap.Ns.new s.heap (.type "dict");have Y:(s.heap.push { cls:=.type "dict",data:=.dict #[] }).objs.size=s.heap.objs.size+1:=Lm _ _;have q:=h ((s.heap.push { cls:=.type "dict",data:=.dict #[] }).push { cls:=.type "cell",data:=.cell none }) _ (hn.keeps λb o e=>mu _ e) (λb u e=>mu _ (mu _ e)) λ_=>⟨_,by rw[<- Y];exact Kv _ rfl,rfl⟩
  unfold lh at q;rw[if_pos h1]at q;rw[<- Y]at q;exact j0 (ox (ox q))
noncomputable def np(js:List Nat)(σ:St):St:=none::js.map λj=>(σ[j]?).join
noncomputable def wM(n:Nat)(js:List Nat)(σ:St):St:=none::(replicate n none++js.map λj=>(σ[j]?).join)
def PF(X:Cx)(ifs:List Expr)(t:TT):Prop:=
 ∀pins s (σ:St) H Q,Inv X pins σ H s->t σ H Q ->
  wpAny (model X.prog X.w) X.A (forIn ifs true λc r=>if r=true then do let ok <- isTrue c X.env (eval c X.env);pure (ForInStep.yield ok)else pure (ForInStep.yield r)) (TP X pins σ Q) X.xe s
noncomputable def JS:TT:=λ_ H Q=>Q true H
def Er :PF X [] JS:=λ_ _ _ H _ I h=>wpAny_tests_nil ⟨H,I,h⟩
def Es(h:PT X c t):PF X [c] t:=λpins s σ H Q I q=>wpAny_tests_one (h pins s σ H Q I q)
section
variable{prog:Program}{w:World}{A:Around}{R:Result->Shared->Prop}{s:Shared}
def wN{elt target iter:Expr}{ifs:List Expr}{scope:Scope}{pos:Pos}{it S:Value}{env:Env}(J:Nat->Shared->Prop)
  (turn:∀n s,J n s->wpAny (model prog w) A (pyNext it) (λr s1=>match r with
   |none=>R (.ok .next) s1
   |some v=>wpAny (model prog w) A (letOwnedTupleGo target it v) (λ_ Z=>wpAny (model prog w) A (assign target env v) (λ_ s3 =>
     wpAny (model prog w) A (forIn ifs true λc r=>if r=true then do let ok <- isTrue c env (eval c env);pure (ForInStep.yield ok)else pure (ForInStep.yield r)) (λok Y =>
      if ok=true then wpAny (model prog w) A (eval elt env) (λx s5 =>
       wpAny (model prog w) A (call (.builtin "list.append") [S,x]) (λ_ s6=>∃m,m<n/\J m s6) (λ_ _=>False) s5) (λ_ _=>False) Y
      else ∃m,m<n/\J m Y) (λ_ _=>False) s3) (λ_ _=>False) Z) (λ_ _=>False) s1) (λ_ _=>False) s)
  (n) (h:J n s):codeAny (model prog w) A (.compLoop (.ListComp elt [⟨target,iter,ifs,0⟩] scope pos) 0 it S env) R s:=by
 have U:∀{α}{t}{Q:α->Shared->Prop}{E}{s},wpAny (model prog w) A t Q (λ_ _=>False) s->wpAny (model prog w) A t Q E s:=λq=>K3 q (λ_ _ z=>z) λ_ _ z=>z.elim
 refine codeAny_loop rfl J (λn s hJ=>?_) n h;show wpAny _ A ((compTurn (.ListComp elt [⟨target,iter,ifs,0⟩] scope pos) 0 it S env).onRaise (λx=>do noteFrame x env;theTreesLotGoes x)) _ _ s;refine wpAny_noted ?_;rw[compTurn_list];refine j0 (wpAny_standAt (j0 (K3 (U (turn n s hJ)) (λr s1 h1=>?_) λ_ _ z=>z)));cases r with
 |none=>exact ox h1
 |some v =>
  refine j0 (K3 (U h1) (λ_ Z h2=>?_) λ_ _ z=>z);refine j0 (K3 (U h2) (λ_ s3 h3=>j0 (K3 (U h3) (λok Y h4=>?_) λ_ _ z=>z)) λ_ _ z=>z);cases ok<;>first|exact ox ⟨rfl,h4⟩|exact j0 (j0 (K3 (U h4) (λx s5 h5=>j0 (K3 (U h5) (λ_ s6 h6=>ox (ox ⟨rfl,h6⟩)) λ_ _ z=>z)) λ_ _ z=>z))
end
def vg(J:It)(Y:St)(H1:Hp)(tt:TT)(te:TE)(D:Addr)(Q:VK):Prop:=
 ∃W:Nat->Nat->St->Hp->Prop,(∃m,W 0 m Y (upd H1 D (.lst [])))/\∀i m S H',W i m S H' ->
  (J.stop i H'/\Q (.ref D) H')\/(J.go i H'/\∃N:St->Hp->Prop,(∀U H2,N U H2->∃Z,Z<m/\W (i+1) Z U H2)/\∀x H2,J.yld i H' x H2 ->
   tt (S.set 0 (some x)) H2 λb H3=>if b=true then te (S.set 0 (some x)) H3 λy H4=>∃ys,H4 D=some (.lst ys)/\ys.length<sizeLine/\N (S.set 0 (some x)) (upd H4 D (.lst (ys++[y])))else N (S.set 0 (some x)) H3)
def yn(J:It)(g:TG)(Z:St)(H1:Hp)(tt:TT)(te:TE)(D:Addr)(Q:VK):Prop:=
 ∃W:Nat->Nat->St->Hp->Prop,(∃m,W 0 m Z (upd H1 D (.lst [])))/\∀i m U H',W i m U H' ->
  (J.stop i H'/\Q (.ref D) H')\/(J.go i H'/\∃N:St->Hp->Prop,(∀Y H2,N Y H2->∃m',m'<m/\W (i+1) m' Y H2)/\∀x H2,J.yld i H' x H2 ->
   g x U H2 λS H3=>tt S H3 λb H4=>if b=true then te S H4 λy H5=>∃ys,H5 D=some (.lst ys)/\ys.length<sizeLine/\N S (upd H5 D (.lst (ys++[y])))else N S H4)
theorem vg.g(h:vg J S H1 tt te D Q):yn J (gc 0) S H1 tt te D Q:=h
noncomputable def yo(wi:TI)(js:List Nat)(tt:TT)(te:TE):TE:=λσ H Q=>wi σ H λJ H1=>∀D,H1 D=none->vg J (np js σ) H1 tt te D Q
section
variable{X:Cx}{elt iter:Expr}{x:Str}{px:Pos}{ifs:List Expr}{scope:Scope}{pos:Pos}{fvs:List Str}{js:List Nat}{wi:TI}{tt:TT}{te:TE}
def yp{tg:Expr}{ys:List Str}(Y:pV X.env.scope X.N scope x ys fvs js){pins:List (Addr×Obj)}{σ:St}{H2:Hp}{S:Shared}{it:Addr}{fp:List Addr}{tn:Nat->Heap->Prop}{J:It}{G h1:Heap}{m1}(I2:Inv X pins σ H2 S)(T:re X.prog X.w X.K tg J fp it tn)(bK:tn 0 S.heap)(f2:∀b∈fp,jJ X pins H2 b)
  (U:Inv X pins σ (upd H2 S.heap.objs.size (.lst [])) { S with heap:=G,toks:=S.toks }) (hG:S.heap.push { cls:=.type "list",dict:=none,data:=.seq ([]:List Value).toArray }=G) (bP:h1.Ns G.objs.size m1) (up:∀b u,G.get? b=some u->h1.get? b=some u) (bT:scope.names.lookup x=some .cell->h1.IsCell (G.objs.size+1) none) :
  (X.blk x (ys++fvs) scope { S with heap:=G,toks:=S.toks } (upd H2 S.heap.objs.size (.lst [])) G.objs.size fp).Ok/\Inv (X.blk x (ys++fvs) scope { S with heap:=G,toks:=S.toks } (upd H2 S.heap.objs.size (.lst [])) G.objs.size fp) [] (wM ys.length js σ) (upd H2 S.heap.objs.size (.lst [])) { S with heap:=h1,toks:=S.toks }/\tn 0 h1/\∀b∈fp,(upd H2 S.heap.objs.size (.lst [])) b=none:=by
 have fr:∀y∈scope.names,y.2=.free->∃c,X.env.cells.lookup y.1=some c:=λy hy hk=>I2.ok.has y.1 (Y.out y hy hk)
 have sub:∀y c,(gr X.env scope.names []).lookup y=some c->X.env.cells.lookup y=some c:=λy c e=>nj scope.names [] fr (λ_ q=>by injection q) e
 have hC:G.objs.size=S.heap.objs.size+1:=by rw[<- hG,Lm]
 have look:∀{y:Str}{c:Addr},(lh scope x G.objs.size++gr X.env scope.names []).lookup y=some c->(y=x/\scope.names.lookup x=some .cell/\c=G.objs.size+1)\/(gr X.env scope.names []).lookup y=some c:=λ{y c} e=>by
  unfold lh at e;by_cases q:scope.names.lookup x=some .cell
  .rw[if_pos q]at e;by_cases z:(y==x)=true
   .rw[cons_append,lookup_cons,z]at e;exact .inl ⟨eq_of_beq z,q,(uW e).symm⟩
   .rw[cons_append,lookup_cons,(Bool.not_eq_true _).mp z]at e;exact .inr e
  .rw[if_neg q]at e;exact .inr e
 have nC:(upd H2 S.heap.objs.size (.lst [])) G.objs.size=none:=U.hok.fresh (pe _);have cL:G.objs.size≠X.env.locals:=LW U.lt;have cS:X.s₀.heap.objs.size<=G.objs.size:=U.sz;have cC:∀y c,X.env.cells.lookup y=some c->c≠G.objs.size:=λy c e z=>by
  obtain⟨v,q⟩:=U.cell y c e;exact absurd (show c<G.objs.size from q.lt) (by rw[z];exact La _)
 have cP:∀p∈X.pn++pins,p.1≠G.objs.size:=λp hp z=>absurd (show p.1<G.objs.size from u0 (U.pin p hp).1) (by rw[z];exact La _)
 have a4:∀b∈fp,b<S.heap.objs.size:=λb hb=>by
  refine ag (T.obj 0 _ bK b hb) λo e _=>?_
  exact u0 e
 have ok:(X.blk x (ys++fvs) scope { S with heap:=G,toks:=S.toks } (upd H2 S.heap.objs.size (.lst [])) G.objs.size fp).Ok:=by
  have hb:∀b∈fp,b∉frs X.stack:=λb hb z=>(nW.mp (I2.stkSub b z)).elim (f2 b hb).2.1 (f2 b hb).2.2.1
  exact {
   mod:=U.ok.mod
   kind:=by show(relabel scope X.env).kind=_;exact Y.kind
   glob:=U.ok.glob
   blt:=U.ok.blt
   above:=pe _
   inj:=λy z c e1 e2=>by
    have lt:∀{y:Str},(gr X.env scope.names []).lookup y=some c->c<G.objs.size:=λ{y} e=>by
     obtain⟨v,q⟩:=U.cell y c (sub y c e);exact q.lt
    rcases look e1 with⟨a1,_,a2⟩|a1
    .rcases look e2 with⟨b1,_,_⟩|b1
     .rw[a1,b1]
     .exact absurd (lt b1) (by rw[a2];exact Lx.mpr (Ly _))
    .rcases look e2 with⟨_,_,b2⟩|b1
     .exact absurd (lt a1) (by rw[b2];exact Lx.mpr (Ly _))
     .exact U.ok.inj y z c (sub y c a1) (sub z c b1)
   has:=λy hy=>by
    show ∃c,(lh scope x G.objs.size++gr X.env scope.names []).lookup y=some c;unfold lh;rcases wK Y.cells hy with hm|⟨e,q⟩
    .obtain⟨c,ec⟩:=jR (env:=X.env) scope.names [] (.inl hm);by_cases q:scope.names.lookup x=some .cell
     .have z:(y==x)=false:=KR.mpr (Y.xf _ hm rfl);exact⟨c,by rw[if_pos q,cons_append,lookup_cons,z];exact ec⟩
     .exact⟨c,by rw[if_neg q];exact ec⟩
    .subst e;exact⟨G.objs.size+1,by rw[if_pos q,cons_append,lookup_cons,Ld]⟩
   cab:=λy c h e=>by
    obtain⟨h1,h2⟩:=KQ h;have e':(lh scope x G.objs.size++gr X.env scope.names []).lookup y=some c:=e;unfold lh at e';rw[if_pos h2,h1,cons_append,lookup_cons,Ld]at e';rw[<- uW e'];exact Ly _
   hd:=U.ok.hd
   frames:=U.ok.frames
   stk:=.inl rfl
   exf:=λb Z=>⟨KA (show b<G.objs.size from wh (a4 b Z) (by rw[hC];exact Ly _)),λy c e=>by
    rcases look e with⟨_,_,a⟩|a
    .rw[a,hC];exact LW (wh (a4 b Z) (xw (Ly _) (Ly _)))
    .exact(f2 b Z).2.2.2.2.1 y c (sub y c a)⟩
   bs:=U.bs
   bsz:=xw U.ok.bsz U.sz
   noex:=λb o e Z=>by
    have q:=(f2 b Z).2.2.2.1;rcases q with q|q
    .exact U.ok.noex b o e q
    .exact absurd (wh (u0 e) (xw U.ok.bsz q)) (La _)
   exfs:=hb
   funs:=U.stack
   frf:=U.stkFree }
 have bY:(wM ys.length js σ).length=(x::(ys++fvs)).length:=by
  have e:=Lg List.length Y.slots;simp only[tr]at e;simp[wM,e]
 have I4:Inv (X.blk x (ys++fvs) scope { S with heap:=G,toks:=S.toks } (upd H2 S.heap.objs.size (.lst [])) G.objs.size fp) [] (wM ys.length js σ) (upd H2 S.heap.objs.size (.lst [])) { S with heap:=h1,toks:=S.toks }:=by
  refine⟨ok,rfl,U.bare,Un.kept up,⟨_,bP,λi y v e1 e2 e3=>?_⟩,λy c e=>?_,nC,λy c e=>(look e).elim (λhq=>mC hq λ_ _ a=>by rw[a];exact U.hok.fresh (Ly _)) λa=>U.freeC y c (sub y c a),λp hp=>by simp[Cx.blk]at hp,U.hok.kept up,bY⟩
  .cases i with
   |zero=>cases e2
   |succ i0 =>
    have a5:(ys++fvs)[i0]?=some y:=e1;have ao:(replicate ys.length none++js.map λj=>(σ[j]?).join)[i0]?=some (some v):=by simpa[wM]using e2
    by_cases aP:i0<ys.length
    .rw[Lh (by simpa using aP),LX,if_pos aP]at ao;cases ao
    rw[Lu (by simpa using MF aP),length_replicate]at ao;rw[Lu (MF aP)]at a5;generalize i0-ys.length=i at a5 ao;have b0:fvs[i]?=some y:=a5;have hm:y∈fvs:=LF b0;have b3:=Y.free y hm;have a6:(y,NameKind.free)∈scope.names:=jn b3;have ar:(js.map λj=>(σ[j]?).join)[i]?=some (some v):=ao;rw[Kx]at ar;cases ej:js[i]? with
    |none=>rw[ej]at ar;exact bn ar
    |some j =>
     rw[ej]at ar;have a0:(σ[j]?).join=some v:=uW ar;have e4:σ[j]?=some (some v):=by
      cases q:σ[j]? with
      |none=>rw[q]at a0;exact bn a0
      |some z=>rw[q]at a0;exact Lg some a0
     have e5:X.N[j]?=some y:=by
      have q:=Lg (λl=>l[i]?) Y.slots;simp only[Kx,ej,b0,map_some]at q;exact uW q
     refine ag U.loc λm hn hl=>?_
     have a3:=Y.out (y,.free) a6 rfl;refine ag (hl j y v e5 e4 (.inr a3)) λu ru lk=>?_
     refine⟨u,ru,.inr ⟨?_,?_⟩⟩
     .show(relabel scope X.env).names.lookup y=_\/(relabel scope X.env).names.lookup y=_;exact wJ (osc:=X.env.scope) b3
     .obtain⟨c,ec⟩:=jR (env:=X.env) scope.names [] (.inl a6);have nx:(y==x)=false:=KR.mpr (Y.xf _ a6 rfl);refine⟨c,?_,?_⟩
      .show(lh scope x G.objs.size++gr X.env scope.names []).lookup y=some c;unfold lh;split
       .rw[cons_append,lookup_cons,nx];exact ec
       .exact ec
      rcases lk with⟨z,_⟩|⟨_,c',c2,q⟩
      .have z':X.env.scope.names.lookup y=some .local:=z;rcases a3 with w|w
       .rw[show X.env.scope.names.lookup y=some .cell from w]at z';cases z'
       .rw[show X.env.scope.names.lookup y=some .free from w]at z';cases z'
      .have:=sub y c ec;rw[c2]at this;cases this;refine ag q λo ho hd=>?_
       exact⟨o,up _ _ ho,hd⟩
  .rcases look e with⟨_,q,a⟩|a
   .exact⟨none,by rw[a];exact bT q⟩
   .refine dc (U.cell y c (sub y c a)) λv o ho hd=>?_
    exact⟨v,o,up _ _ ho,hd⟩
 have c4:tn 0 h1:=T.keep 0 _ _ bK λb hb o e=>up b o (by rw[<- hG];exact mu _ e)
 have df:∀b∈fp,(upd H2 S.heap.objs.size (.lst [])) b=none:=λb hb=>by
  rw[aA (KA (a4 b hb))];exact(f2 b hb).1
 exact⟨ok,I4,c4,df⟩
def tQ{tg:Expr}{g:TG}{ys:List Str}(bK:pV X.env.scope X.N scope x ys fvs js)(hc:X.calm=true)(hg:∀Y Z C U,PG (X.blk x (ys++fvs) scope Y Z C U) tg g)
  (ht:∀Y Z C U,PF (X.blk x (ys++fvs) scope Y Z C U) ifs tt) (he:∀Y Z C U,PE (X.blk x (ys++fvs) scope Y Z C U) elt te)
  {pins:List (Addr×Obj)}{σ:St}{H2:Hp}{S:Shared}{Q:VK}{it:Addr}{U:List Addr}{tn:Nat->Heap->Prop}{J:It}{RR:Value->Addr->Result->Shared->Prop}
  (I2:Inv X pins σ H2 S) (T:re X.prog X.w X.K tg J U it tn) (b7:tn 0 S.heap) (f2:∀b∈U,jJ X pins H2 b)
  (hh:∀D,H2 D=none->yn J g (wM ys.length js σ) H2 tt te D Q)
  (fin:∀(D C:Addr) (H':Hp) (s':Shared),Inv X pins σ H' s'->(∃m,s'.heap.Ns C m)->H' C=none->C≠X.env.locals->X.s₀.heap.objs.size<=C->(∀y c,X.env.cells.lookup y=some c->c≠C)->(∀p∈X.pn++pins,p.1≠C)->Q (.ref D) H' ->
   RR (.ref D) C (.ok .next) s') {E:Value->Shared->Prop} :
  wpAny (model X.prog X.w) X.A (newList []) (λacc s3=>wpAny (model X.prog X.w) X.A (newFunctionEnv scope X.env.globals (gr X.env scope.names []) [] X.env.qual none .none (some X.env)) (λa3 s4 =>
   codeAny (model X.prog X.w) X.A (.compStart (.ListComp elt [⟨tg,iter,ifs,0⟩] scope pos) 0 (.ref it) acc { a3 with scope:=relabel scope X.env }) (RR acc a3.locals) s4) E s3) E S:=by
 refine Lj (tP (x:=x) bK.kind bK.once λh1 m1 a4 a5 a6=>?_);have I3:Inv X pins σ (upd H2 S.heap.objs.size (.lst [])) { S with heap:=S.heap.push { cls:=.type "list",data:=.seq ([]:List Value).toArray },toks:=S.toks }:=I2.lnew (ys:=[]) (its:=[]) .nil (KN _);generalize hG:S.heap.push { cls:=.type "list",dict:=none,data:=.seq ([]:List Value).toArray }=G at a4 a5 a6 I3 ⊢;obtain⟨W,⟨m0,w0⟩,turn⟩:=hh S.heap.objs.size I2.fresh;refine gE (yp bK I2 T b7 f2 I3 hG a4 a5 a6) λok I4 bX cd=>?_
 have cL:G.objs.size≠X.env.locals:=LW I3.lt;have cS:X.s₀.heap.objs.size<=G.objs.size:=I3.sz;have cC:∀y c,X.env.cells.lookup y=some c->c≠G.objs.size:=λy c e z=>by
  obtain⟨v,q⟩:=I3.cell y c e;exact absurd (show c<G.objs.size from q.lt) (by rw[z];exact La _)
 have cP:∀p∈X.pn++pins,p.1≠G.objs.size:=λp hp z=>absurd (show p.1<G.objs.size from u0 (I3.pin p hp).1) (by rw[z];exact La _)
 have aL:∀{H':Hp},(∀b∈U,H' b=none)->∀b∈U,jJ (X.blk x (ys++fvs) scope { S with heap:=G,toks:=S.toks } (upd H2 S.heap.objs.size (.lst [])) G.objs.size U) [] H' b:=λhn b hb =>
  ⟨hn b hb,(ok.exf b hb).1,ok.exfs b hb,.inl hb,(ok.exf b hb).2,λp hp=>by simp[Cx.blk]at hp⟩
 have cz:∀b∈U,(b∈X.ex\/X.s₀.heap.objs.size<=b)/\b≠X.env.locals/\(∀x c,X.env.cells.lookup x=some c->c≠b)/\∀p∈X.pn++pins,p.1≠b:=λb hb =>
  let ⟨_,q1,_,q2,q3,q4⟩:=f2 b hb;⟨q2,q1,q3,q4⟩
 have bt:∀s5:Shared,s5={ S with heap:=h1,toks:=S.toks } ->
   codeAny (model X.prog X.w) X.A (.compLoop (.ListComp elt [⟨tg,iter,ifs,0⟩] scope pos) 0 (.ref it) (.ref S.heap.objs.size) (compEnvC scope (lh scope x G.objs.size++gr X.env scope.names []) G.objs.size X.env)) (RR (.ref S.heap.objs.size) G.objs.size) s5:=by
  rintro s5 rfl;refine wN (λn s'=>∃i aP H',Inv (X.blk x (ys++fvs) scope { S with heap:=G,toks:=S.toks } (upd H2 S.heap.objs.size (.lst [])) G.objs.size U) [] aP H' s'/\tn i s'.heap/\(∀b∈U,H' b=none)/\W i n aP H') ?_ m0 ⟨0,_,_,I4,bX,cd,w0⟩;rintro n s6 ⟨i,a2,H6,I6,b0,b1,w6⟩;rcases turn i n a2 H6 w6 with⟨stop,qn⟩|⟨go,N,hN,step⟩
  .refine thn (T.done (X.blk x (ys++fvs) scope { S with heap:=G,toks:=S.toks } (upd H2 S.heap.objs.size (.lst [])) G.objs.size U) rfl rfl rfl hc i [] s6 a2 H6 _ I6 (aL b1) b0 stop) λr s7 hq=>qT hq λhr I7=>?_
   subst hr;have I8:Inv X pins σ H6 s7:=I3.call' (ch:=U) I7.os I7.base I7.hok I7.bare cz;refine ag I7.loc λm hn _=>?_
   exact fin _ _ H6 s7 I8 ⟨m,hn⟩ I7.free cL cS cC cP qn
  .refine thn (T.item (X.blk x (ys++fvs) scope { S with heap:=G,toks:=S.toks } (upd H2 S.heap.objs.size (.lst [])) G.objs.size U) rfl rfl rfl hc i [] s6 a2 H6 _ I6 (aL b1) b0 go) λr s7 hq=>ag hq λu hr h7=>?_
   subst hr;refine thn h7 λ_ s8 hq=>uT hq λx8 H8 I8 r8 y8 bP c4=>?_
   have df:=I8.pinned (aL c4) (T.obj _ _ bP);refine thn (hg _ _ _ _ _ s8 a2 H8 x8 u _ df r8 (step x8 H8 y8)) λ_ s9 hq=>dc hq λbR H9 I9 q9=>?_
   refine thn (ht _ _ _ _ _ s9 _ H9 _ I9 q9) λdr dt hq=>ag hq λdv b2 b3=>?_
   have again:∀{ar:Shared}{ao:Hp},Inv (X.blk x (ys++fvs) scope { S with heap:=G,toks:=S.toks } (upd H2 S.heap.objs.size (.lst [])) G.objs.size U) ([]++mE U s8.heap) bR ao ar->N bR ao ->
     ∃m,m<n/\∃i aP H',Inv (X.blk x (ys++fvs) scope { S with heap:=G,toks:=S.toks } (upd H2 S.heap.objs.size (.lst [])) G.objs.size U) [] aP H' ar/\tn i ar.heap/\(∀b∈U,H' b=none)/\W i m aP H':=λ{ar ao} a1 bT=>by
    refine ag (hN _ ao bT) λm' hm dB=>?_
    refine⟨m',hm,i+1,_,ao,a1.unpinned,T.keep _ _ _ bP λb hb o e=>(a1.pin (b,o) (K5 _ (K5 _ (g6 hb e)))).1,λb hb=>?_,dB⟩;refine ag (T.obj _ _ bP b hb) λo e d=>?_
    exact(a1.pin (b,o) (K5 _ (K5 _ (g6 hb e)))).2.1
   cases dr with
   |false =>
    exact again b2 b3
   |true =>
    refine thn (he _ _ _ _ _ dt _ dv _ b2 b3) λy ar ⟨yv,ao,a1,ry,ys,dO,hl,bT⟩=>?_
    refine thn (gJ _ ar _ ao (.ref S.heap.objs.size) [yv] (.ref S.heap.objs.size) [y] (λ_ b4=>N bR b4) a1 rfl (.cons ry .nil) ⟨_,ys,yv,rfl,rfl,dO,hl,bT⟩) λ_ e2 hq=>au hq λ_ b4 dP _ dR=>again dP dR
 exact codeAny_compStart_list (bt _ rfl) (T.self _ 0 _ _ _ bX (bt _ rfl))
def oR(Y:lc X.env.scope X.N scope x fvs js)(hc:X.calm=true)
  (ht:∀S U C Z,PF (X.blk x fvs scope S U C Z) ifs tt) (he:∀S U C Z,PE (X.blk x fvs scope S U C Z) elt te)
  {pins:List (Addr×Obj)}{σ:St}{H2:Hp}{s2:Shared}{Q:VK}{it:Addr}{Z:List Addr}{tn:Nat->Heap->Prop}{J:It}{RR:Value->Addr->Result->Shared->Prop}
  (I2:Inv X pins σ H2 s2) (T:re X.prog X.w X.K (.Name x px) J Z it tn) (aH:tn 0 s2.heap) (f2:∀b∈Z,jJ X pins H2 b)
  (hh:∀D,H2 D=none->vg J (np js σ) H2 tt te D Q)
  (fin:∀(D C:Addr) (H':Hp) (s':Shared),Inv X pins σ H' s'->(∃m,s'.heap.Ns C m)->H' C=none->C≠X.env.locals->X.s₀.heap.objs.size<=C->(∀y c,X.env.cells.lookup y=some c->c≠C)->(∀p∈X.pn++pins,p.1≠C)->Q (.ref D) H' ->
   RR (.ref D) C (.ok .next) s') {E:Value->Shared->Prop} :
  wpAny (model X.prog X.w) X.A (newList []) (λacc s3=>wpAny (model X.prog X.w) X.A (newFunctionEnv scope X.env.globals (gr X.env scope.names []) [] X.env.qual none .none (some X.env)) (λao s4 =>
   codeAny (model X.prog X.w) X.A (.compStart (.ListComp elt [⟨.Name x px,iter,ifs,0⟩] scope pos) 0 (.ref it) acc { ao with scope:=relabel scope X.env }) (RR acc ao.locals) s4) E s3) E s2:=
 tQ (ys:=[]) Y.g hc (λS U C Z=>lZ (X:=X.blk x fvs scope S U C Z) (i:=0) (x:=x) (pos:=px) Y.nd rfl (Y.once.elim (λq=>.inl (lookup_relabel_local q.1)) λq=>.inr (wL q.1)) (Y.once.elim (λq=>.inr (lookup_relabel_local q.1)) λq=>.inl (Ks ⟨rfl,q.1⟩))) ht he I2 T aH f2 (λD hD=>(hh D hD).g) fin
def Ba(Y:lc X.env.scope X.N scope x fvs js)(hc:X.calm=true)(hi:PI X (.Name x px) iter wi)
  (ht:∀S U C Z,PF (X.blk x fvs scope S U C Z) ifs tt) (he:∀S U C Z,PE (X.blk x fvs scope S U C Z) elt te)
  (hs:∀v,foldedSetIterable iter X.env v=pure v:=by intro _;rfl):PE X (.ListComp elt [⟨.Name x px,iter,ifs,0⟩] scope pos) (yo wi js tt te):=by
 intro pins s σ H Q I h;have fr:∀y∈scope.names,y.2=.free->∃c,X.env.cells.lookup y.1=some c:=λy hy hk=>I.ok.has y.1 (Y.out y hy hk)
 rw[eval_ListComp];refine wpAny_comprehension_free (use:=none) rfl hs (ni fr) Y.kind Y.names (thn (hi pins s σ H _ I h) λv s1 h1=>thn h1 λa1 s2 h2=>?_);refine uV h2 λit Z tn J H2 e I2 T ao f2 hh=>?_
 subst e;refine oR (RR:=λacc C=>compPost (model X.prog X.w) X.A X.xe none (EP X pins σ Q) acc C) Y hc ht he I2 T ao f2 hh λD C H' s' I' hn nC cL cS cC cP q=>?_
 obtain⟨m,hn⟩:=hn;refine⟨m,hn,λh' sb=>⟨.ref D,H',?_,rfl,q⟩⟩;exact I'.turned (t':=s'.toks) (λb o hb e=>(sb.2 b hb).trans e) nC cL (.inr cS) cC cP
def tR{py Z:Pos}(hN:X.N.Nodup)(aH:X.N[i]?=some y)(hy:Loc X.env.scope y)(Y:lc X.env.scope X.N scope x fvs js)(hc:X.calm=true)(hi:PI X (.Name x px) iter wi)
  (ht:∀S U C fp,PF (X.blk x fvs scope S U C fp) ifs tt) (he:∀S U C fp,PE (X.blk x fvs scope S U C fp) elt te)
  (aP:swapsWith (.ListComp elt [⟨.Name x px,iter,ifs,0⟩] scope pos) (some (.Name y py)) Z.line X.env=pure true:=by rfl)
  (hs:∀v,foldedSetIterable iter X.env v=pure v:=by intro _;rfl) (hf:X.fn y=true\/X.env.scope.names.lookup y=some .local:=by first|exact .inl rfl|exact .inr rfl|assumption) :
  PS X (.Assign [.Name y py] (.ListComp elt [⟨.Name x px,iter,ifs,0⟩] scope pos) Z) (pK (yo wi js tt te) (gc i)):=by
 intro pins s σ H D I h;have fr:∀y∈scope.names,y.2=.free->∃c,X.env.cells.lookup y.1=some c:=λy hy hk=>I.ok.has y.1 (Y.out y hy hk)
 rw[exec_Assign_Name_used _ _ _ _ aP];refine j0 (wpAny_standAt (j0 ?_));refine j0 (thn (wpAny_comprehension_free (use:=some (assign (.Name y py) X.env)) (Q:=λ_ s'=>SP X pins D .next s') rfl hs (ni fr) Y.kind Y.names (thn (hi pins s σ H _ I h) λv s1 h1=>thn h1 λbR s2 h2=>?_)) λ_ s' q=>?_)
 .refine cw λZq kq=>?_
  refine uV h2 λit fp tn J H2 e I2 T a0 f2 hh=>?_
  subst e;refine kq ?_;refine oR (RR:=λacc C=>compPost (model X.prog X.w) X.A X.xe (some (assign (.Name y py) X.env)) (λ_ s'=>SP X pins D .next s') acc C) (Q:=λv H'=>gc i v σ H' D.nx) Y hc ht he I2 T a0 f2 hh λD' C H' s' I' hn nC cL cS cC cP q=>?_
  obtain⟨m,hn⟩:=hn;refine wpAny_assign_Name (oF I' hN aH hy (v:=.ref D') rfl (λa1 a2 hq=>ag hq λa sb ha=>?_) hf);have ne:C≠a:=by
   rcases ha with z|z
   .rw[z];exact cL
   .exact λw=>cC y a z w.symm
  refine⟨m,hn.sameBut sb ne,λh' a3=>?_⟩;exact⟨_,H',a2.turned (t':=a1.toks) (λb o hb e=>(a3.2 b hb).trans e) nC cL (.inr cS) cC cP,q⟩
 .exact ox (ox q)
end
abbrev tU(K:MP)(H:Hp):List V->List (List Int)->Prop:=Paired λx J=>∃a,x=V.ref a/\SqT K H a (J.map V.int)
theorem tU.len{K:MP}(h:tU K H xs J):xs.length=J.length:=Paired.length h
def bE(h:H p=none)(o):ae H (upd H p o):=λb u q=>by rw[aA (a9 q h)];exact q
def ae.seqT{K:MP}(e:ae H H')(h:SqT K H a xs):SqT K H' a xs:=by
 rcases h with(h|⟨o,h⟩)|h
 .exact .inl (.inl (e _ _ h))
 .exact .inl (.inr ⟨o,e _ _ h⟩)
 .exact .inr h
section
variable{X:Cx}{pins:List (Addr×Obj)}{σ:St}{H:Hp}{s:Shared}
def Inv.tupInts(I:Inv X pins σ H s)(h:SqT X.K H a (ns.map V.int)):∃its,IsTup s.heap a its.toArray/\IntsAre its ns:=by
 refine bq (I.tuple h) λits r p _=>?_
 exact⟨its,p,jl r⟩
theorem Inv.tupsAt(I:Inv X pins σ H s):∀{xs}{us}{J},tU X.K H xs J->aN xs us->Paired (λu S=>∃a its,u=Value.ref a/\IsTup s.heap a its/\IntsAre its.toList S) us J
 | _,_,_,.nil,.nil=>.nil
 | _,_,_,.cons ⟨a,U,Y⟩ t,.cons r q=>by
  refine ag (I.tupInts Y) λits p hi=>?_
  rw[U]at r;exact .cons ⟨a,its.toArray,r,p,by simpa using hi⟩ (I.tupsAt t q)
end
namespace Srt
noncomputable def sortI(l:List Int):List Int:=ir dM l
noncomputable def sortT(l:List (List Int)):List (List Int):=ir eE l
def leT(a b:List Int):Prop:=HT.lexLt b a=false
def sortI_perm(l):(sortI l).Perm l:=fH dM l
def sortT_perm(l):(sortT l).Perm l:=fH eE l
def sortI_len(l):(sortI l).length=l.length:=(sortI_perm l).length_eq
def sortT_len(l):(sortT l).length=l.length:=(sortT_perm l).length_eq
def sortT_rises(l):(sortT l).Pairwise leT:=eW eE l
def sortT_id(h:l.Pairwise leT):sortT l=l:=rJ eE h
def sortT_of_perm(p:a.Perm b):sortT a=sortT b:=jc eE p
def sortI_of_perm(p:a.Perm b):sortI a=sortI b:=jc dM p
def vh{a b:Int}:dM.kle a b ↔ a<=b:=by
 show decide _=false ↔ a<=b
 simp_all
def sortI_rises(l):(sortI l).Pairwise (· <= ·):=(eW dM l).imp λh=>vh.mp h
def sortI_id(h:l.Pairwise (· <= ·)):sortI l=l:=rJ dM (h.imp λq=>vh.mpr q)
section
variable{P:Program}{w:World}{A:Around}{E:Value->Shared->Prop}{s:Shared}
def rK(J:ns.Perm ks)(S:ns.Pairwise (· <= ·)):ns=sortI ks:=by
 refine jQ dM J (S.imp λ{a b} h=>?_);show decide _=false
 simp_all
def iG{ks:List Int}{Q:Value->Shared->Prop}(a0:ks.length<64)
  (Y:∀Q',(∀h' tk d' S J,(∀b o,s.heap.get? b=some o->h'.get? b=some o)->J.Perm ks->IntsAre S J->Q' S { s with heap:=h',toks:=tk,drawn:=d' }) ->
   wpAny (model P w) A.in1 (collect x) Q' E s)
  (h:∀(h1 h':Heap) tk d' out c,(∀b o,s.heap.get? b=some o->h1.get? b=some o)->(∀b o,h1.get? b=some o->h'.get? b=some o)->h'.get? h1.objs.size=some { cls:=.type "list",data:=.seq out.toArray c } ->
   IntsAre out (sortI ks)->Q (.ref h1.objs.size) { s with heap:=h',toks:=tk,drawn:=d' }) :
  wpAny (model P w) A (call (.builtin "sorted") [x]) Q E s:=by
 refine Calls.call_function_entry kind_sorted plain_sorted entry_sorted (args_sorted1 _) ?_;refine j0 (m:=checkCount "sorted" 1 1 _) (ox ?_);refine j0 (Y _ λh1 tk d1 S J kp hp hi=>?_);have a2:=hi.length;have a3:=hp.length_eq;refine j0 (wpAny_newList ?_ (by rw[K7];omega));have U:(h1.push (seqObj "list" S.toArray 0)).get? h1.objs.size=some (seqObj "list" S.toArray 0):=Kv _ rfl;refine j0 (Lw (Ln slot_list_sort ⟨_,U,rfl⟩ entry_list_sort (list_sort_tree U hi (by simp[*]) λout a4 Z ao ar=>⟨_,rfl,?_⟩) (args_list_sort _)));obtain⟨c,hc⟩:=sortedHeap_at (out:=out) (vs:=S) U;refine ox ⟨_,rfl,h h1 _ tk d1 out.toList c kp (λb o e=>?_) ?_ ?_⟩
 .have hb:=u0 e;rw[sortedHeap_old (KA hb) (by rw[Lm];exact Ms hb)];exact mu _ e
 .rw[Array.toArray_toList];exact hc
 .rw[<- rK (ao.trans hp) ar];exact Z
def nq{vs:List Value}{J:List (List Int)}{Q:Value->Shared->Prop}(aH:vs.length<64)(hu:A.units+2<cLine)
  (hv:Paired (λu ts=>∃a its,u=Value.ref a/\IsTup s.heap a its/\IntsAre its.toList ts) vs J)
  (Z:∀Q',(∀h',(∀b o,s.heap.get? b=some o->h'.get? b=some o)->Q' vs { s with heap:=h' })->wpAny (model P w) A.in1 (collect x) Q' E s)
  (h:∀(h1 h':Heap) (p:Array Nat) (c:Nat),(∀b o,s.heap.get? b=some o->h1.get? b=some o)->(∀b o,h1.get? b=some o->h'.get? b=some o)->h'.get? h1.objs.size=some { cls:=.type "list",data:=.seq (p.toList.map λi=>vs.getD i Value.none).toArray c } ->
   PB vs.length p->p.toList.map (λi=>J.getD i [])=sortT J->Q (.ref h1.objs.size) { s with heap:=h' }) :
  wpAny (model P w) A (call (.builtin "sorted") [x]) Q E s:=by
 have S:vs.length=J.length:=Paired.length hv;refine Calls.call_function_entry kind_sorted plain_sorted entry_sorted (args_sorted1 _) ?_;refine j0 (m:=checkCount "sorted" 1 1 _) (ox ?_);refine j0 (Z _ λh1 kp=>?_);refine j0 (wpAny_newList ?_ (by rw[K7];omega));have U:(h1.push (seqObj "list" vs.toArray 0)).get? h1.objs.size=some (seqObj "list" vs.toArray 0):=Kv _ rfl;have at_:∀(s':Shared),(∀b o,b≠h1.objs.size->(h1.push (seqObj "list" vs.toArray 0)).get? b=some o->s'.heap.get? b=some o)->∀i,i<vs.length->∃a its,vs.getD i Value.none=.ref a/\IsTup s'.heap a its/\IntsAre its.toList (J.getD i []):=λs' k i hi=>by
  have gen:∀{us:List Value}{Y:List (List Int)},Paired (λu ts=>∃a its,u=Value.ref a/\IsTup s.heap a its/\IntsAre its.toList ts) us Y->∀i,i<us.length->∃a its,us.getD i Value.none=.ref a/\IsTup s.heap a its/\IntsAre its.toList (Y.getD i []):=by
   intro us Y hp
   induction hp with
   |nil=>intro i hi;simp at hi
   |cons q _ ih =>
    intro i hi;cases i with
    |zero=>obtain⟨a,its,e,r⟩:=q;exact⟨a,its,by exact e,by exact r⟩
    |succ i=>obtain⟨a,its,e,r⟩:=ih i (by simpa using hi);exact⟨a,its,by exact e,by exact r⟩
  obtain⟨a,its,e,⟨o,ho,r⟩,a0⟩:=gen hv i hi;have ao:=kp a o ho;exact⟨a,its,e,⟨o,k a o (KA (u0 ao)) (mu _ ao),r⟩,a0⟩
 refine j0 (Lw (Ln slot_list_sort ⟨_,U,rfl⟩ entry_list_sort (pU (O:=eE) (key:=λi=>J.getD i []) U aH (λh2 s' Q' k q=>wF h2 (λv hm=>?_) q) (λg a1 s' i j C k hi hj q=>?_) λp hp hr=>⟨_,rfl,?_⟩) (args_list_sort _)))
 .obtain⟨i,hi,e⟩:=getElem_of_mem hm;refine au (at_ s' k i hi) λa its e' r1 r2=>?_
  exact⟨a,its,_,by rw[<- e',<- e];simp[hi],r1,r2⟩
 .refine au (at_ s' k i hi) λa its e r1 r2=>?_
  refine au (at_ s' k j hj) λa' its' e' a3 a4=>?_
  rw[e,e'];exact A_ a1 r1 a3 r2 a4 (show A.units+1+1<cLine from hu) q
 .obtain⟨c,hc⟩:=sortedHeap_at (out:=(p.toList.map λi=>vs.getD i Value.none).toArray) (vs:=vs) U;have a5:PB J.length p:=by rw[<- S];exact hp
  have a6:gd (O:=eE) (λi=>J.getD i []) p J.length:=by rw[<- S];exact hr
  refine ox ⟨_,rfl,h h1 _ p c kp (λb o e=>?_) hc hp (Ep (O:=eE) (d:=([]:List Int)) (xs:=J) a5 a6)⟩;have hb:b<h1.objs.size:=u0 e;rw[sortedHeap_old (KA hb) (by rw[Lm];exact Ms hb)];exact mu _ e
end
end Srt
section
variable{X:Cx}
def Inv.keptD(I:Inv X pins σ H s)(k:∀b u,s.heap.get? b=some u->h'.get? b=some u):Inv X pins σ H { s with heap:=h',toks:=t',drawn:=d' }:=
 I.call (g':=s.gens) (d':=d') (t':=t') (ch:=[]) (Un.kept k) (I.hok.kept k) I.bare λ_ z=>nomatch z
def oS:∀{vs}{ns},IntsAre vs ns->aN (ns.map V.int) vs:=kY
def Et(X:Cx):List V->Hp->VK->Prop:=λxs H Q=>∃(p:Addr) (ks:List Int),xs=[.ref p]/\(SqL X.K H p (ks.map V.int)\/SqT X.K H p (ks.map V.int)\/False)/\ks.length<64/\∀l:Addr,H l=none->Q (.ref l) (upd H l (.lst ((Srt.sortI ks).map V.int)))
def pW (hc:X.calm=true):dy X (.builtin "sorted") (Et X):=by
 intro pins s σ H xs us Q I r h;obtain⟨p,ks,rfl,J,Z,q⟩:=h;obtain⟨u,rfl,rx⟩:=jL r;cases rx;have hh:=I.ok.hd hc;refine Srt.iG (ks:=ks) Z (λQ' U=>?_) λh1 h' tk d' out c k1 k2 e hi=>?_
 .rcases J with J|J|J
  .obtain⟨its,Y,pl,hz⟩:=I.list J;obtain⟨o,ho,S,n,hd⟩:=pl.isList;refine L5 p (.inl rfl) ho S hd (λh' kp=>?_) (by have:=Y.length;simp only[oe]<;>omega);exact U h' s.toks s.drawn _ ks kp (.refl _) (by simpa using jl Y)
  .obtain⟨its,Y,pl,hz⟩:=I.tuple J;obtain⟨o,ho,S,n,hd⟩:=pl;refine L5 p (.inr rfl) ho S hd (λh' kp=>?_) (by have:=Y.length;simp only[oe]<;>omega);exact U h' s.toks s.drawn _ ks kp (.refl _) (by simpa using jl Y)
  .exact J.elim
 .have I1:Inv X pins σ H { s with heap:=h1,toks:=tk,drawn:=d' }:=I.keptD k1;have I2:Inv X pins σ (upd H h1.objs.size (.lst ((Srt.sortI ks).map V.int))) { s with heap:=h',toks:=tk,drawn:=d' }:=
   I1.laid (t':=tk) k2 (pe _) (show b9 X.prog X.w _ h' _ (.lst _)from⟨by rw[tr,Srt.sortI_len,K7];omega,out,c,oS hi,e⟩)
  exact⟨.ref h1.objs.size,_,I2,rfl,q _ (I1.hok.fresh (pe _))⟩
def Eu(X:Cx):List V->Hp->VK->Prop:=λxs H Q=>∃(p:Addr) (vs:List V) (J:List (List Int)),xs=[.ref p]/\(SqL X.K H p vs\/SqT X.K H p vs)/\tU X.K H vs J/\J.length<64 /\
 ∀(l:Addr) (pm:List Nat),H l=none->(∀i∈pm,i<vs.length)->pm.map (λi=>J.getD i [])=Srt.sortT J->Q (.ref l) (upd H l (.lst (pm.map λi=>vs.getD i .non)))
theorem oT(h:aN vs us):∀(l:List Nat),(∀i∈l,i<vs.length)->aN (l.map λi=>vs.getD i .non) (l.map λi=>us.getD i Value.none)
 | [],_=>.nil
 |i::l,J=>by
  have hi:=J i (.head _);obtain⟨u,U,Y⟩:=h.get (i:=i) (x:=vs[i]) (Kz hi);refine .cons ?_ (oT h l λj S=>J j (.tail _ S))
  simp_all
def pX (hu:X.A.units+64<cLine):dy X (.builtin "sorted") (Eu X):=by
 intro pins s σ H xs us Q I r h;refine oC h λp vs a2 aL Y ht a3 q=>?_
 subst aL;refine ag (jL r) λu aP rx=>?_
 subst aP;subst rx;have key:∀its,aN vs its->vs.length<=sizeLine->(∀Q',(∀h',(∀b o,s.heap.get? b=some o->h'.get? b=some o)->Q' its { s with heap:=h' })->wpAny (model X.prog X.w) X.A.in1 (collect _) Q' X.xe s) ->
   wpAny _ X.A (call _ [.ref p]) (EP X pins σ Q) X.xe s:=λits J hz Z=>by
  have hl:=J.length;have a5:=ht.len;refine Srt.nq (by omega) (by omega) (I.tupsAt ht J) Z λh1 h' pm c k1 k2 e hp ho=>?_
  have ar:∀i∈pm.toList,i<vs.length:=λi hi=>by
   have:=(LS.mp hp).mem_iff.mp hi
   simp_all
  have I1:=I.kept (t':=s.toks) k1;have I2:Inv X pins σ (upd H h1.objs.size (.lst _)) { s with heap:=h' }:=
   I1.laid k2 (pe _) (show b9 X.prog X.w _ h' _ _ from⟨by have:=hp.size;rw[tr,Array.length_toList,K7];omega,_,c,oT J _ ar,e⟩)
  exact⟨.ref h1.objs.size,_,I2,rfl,q _ pm.toList (I1.hok.fresh (pe _)) ar ho⟩
 rcases Y with Y|Y
 .obtain⟨its,J,pl,hz⟩:=I.list Y;obtain⟨o,ho,S,n,hd⟩:=pl.isList;refine key its J hz λQ' U=>L5 p (.inl rfl) ho S hd (λh' kp=>?_) (by have:=J.length;simp[oe]<;>omega)
  have:=U h' kp;simpa using this
 .obtain⟨its,J,pl,hz⟩:=I.tuple Y;obtain⟨o,ho,S,n,hd⟩:=pl;refine key its J hz λQ' U=>L5 p (.inr rfl) ho S hd (λh' kp=>?_) (by have:=J.length;simp[oe]<;>omega)
  have:=U h' kp;simpa using this
end
end L2
namespace L2.En
open PySem PyProof.Rows List Option
open AutoSeq1 (wpAny_loadPart')
section
variable{P:Program}{w:World}{A:Around}{E:Value->Shared->Prop}{s:Shared}
def tX(J:s.heap.IsTupleIter it t i)
  (h:wpAny (model P w) A.in1 (Builtin.«tuple_iterator.__next__» ⟨[.ref it],[]⟩) (λfin s'=>∃v,fin=.done (.ret v)/\Q v s') E s):wpAny (model P w) A (Builtin.SmallTypes.nextOf (.ref it)) Q E s:=by
 refine j0 (LC J.typeIs F.slot_tuple_iterator_next ?_);refine Ln F.slot_tuple_iterator_next J.typeIs F.entry_tuple_iterator_next ?_ (F.args_tuple_iterator_next_1 _);refine K3 h (λfin s' S=>?_) λ_ _ z=>z
 obtain⟨v,rfl,q⟩:=S;exact⟨v,rfl,ox q⟩
def G9 (J:A.handled=none) (h:∀h' e,(∀b o,s.heap.get? b=some o->h'.get? b=some o)->(∃o,h'.get? e=some o/\o.cls=.type "StopIteration")->E (.ref e) { s with heap:=h' }) :
  wpAny (model P w) A (Builtin.SmallTypes.stopIteration:Sem α) Q E s:=by
 wp_walk
 exact wpAny_raiseNew_none J (h _ _ (λb o q=>mu _ (mu _ q)) ⟨_,Kv _ rfl,rfl⟩)
def oU(Y:A.handled=none)(J:s.heap.IsTupleIter it t i)(ht:s.heap.IsTuple t items)
  (Z:∀x h',items[i]?=some x->h'.IsTupleIter it t (i+1)->Heap.SameBut it s.heap h'->Q x { s with heap:=h' })
  (hE:∀h' e,items[i]?=none->Heap.ExtBut it s.heap h'->(∃o,h'.get? e=some o/\o.cls=.type "StopIteration")->E (.ref e) { s with heap:=h' }):wpAny (model P w) A (Builtin.SmallTypes.nextOf (.ref it)) Q E s:=by
 refine tX J ?_;refine cw λZq kq=>?_
 obtain⟨⟨c1,d1,t1,l1⟩,h1,e1,e2⟩:=J;obtain⟨⟨c2,d2,t2,l2⟩,h2,e3,n2,e4⟩:=ht;subst e1;subst e2;subst e3;subst e4;obtain⟨S,g,d,tk,os⟩:=s;refine kq ?_
 wp_walk using wpAny_loadPart' h1,wpAny_loadPart' h2
 have self:∀k v,(S.update it (Obj.mapFields (·.setIfInBounds k v))).get? it=some { cls:=.type "tuple_iterator",dict:=d1,data:=.fields _,slots:=l1 }:=λk v=>LO _ h1 rfl
 rw[Int.toNat_natCast];cases U:items[i]? with
 |some x =>
  refine j0 (wpAny_setField h1 rfl (by simp) (ox ⟨x,rfl,Z x _ U ⟨_,self 1 _,rfl,?_⟩ (LB ..)⟩))
  rfl
 |none =>
  refine j0 (wpAny_rule (j0 (wpAny_setField h1 rfl (by simp) (G9 Y λh' e k st=>?_))));exact hE h' e U (λb o hb q=>k b o ((LB S it _).extBut b o hb q)) st
def draws(Z:A.handled=none)(it t)(S:t≠it)(items):Draws P w A it [it,t] items.size (λi v=>items[i]?=some v) (λi h=>h.IsTupleIter it t i/\h.IsTuple t items) where
 live:=λ_ _ ⟨⟨o,U,_⟩,_⟩=>⟨o,U⟩
 frame:=λi h h' ⟨⟨o,U,r⟩,⟨o2,Y,r2⟩⟩ k=>⟨⟨o,k it (.head _) o U,r⟩,⟨o2,k t (.tail _ (.head _)) o2 Y,r2⟩⟩
 item:=λi s Q E hi ⟨h1,h2⟩ hQ=>oU Z h1 h2 (λx h' J h3 sb=>hQ x h' s.toks J ⟨h3,h2.extBut sb.extBut S⟩ sb) λh' e J _ _=>absurd J (by simp;omega)
 done:=λs Q E ⟨h1,h2⟩ hE=>oU Z h1 h2 (λx h' J _ _=>absurd J (by simp)) λh' e _ eb st=>hE h' e eb st
def yq{Q:Bool->Shared->Prop}(h:∀c,Q c s):wpAny (model P w) A (pure b) Q E s:=ox (h b)
def Bb(l)(items)(n)(J)(S) :
  Meets (Builtin.«enumerate.__new__» ⟨[.type "enumerate",.ref l],[]⟩) (λ_ R s=>s.heap.get? l=some { cls:=.type "tuple",dict:=J,data:=.seq items n,slots:=S } /\
   R (.ok (.ret (.ref (s.heap.push { cls:=.type "tuple_iterator",data:=.fields #[.ref l,.int 0 0] }).objs.size)))
    { s with heap:=(s.heap.push { cls:=.type "tuple_iterator",data:=.fields #[.ref l,.int 0 0] }).push { cls:=.type "enumerate",data:=.fields #[.none,.bool false,.ref s.heap.objs.size,rawInt 0,.none,.none] } }):=by
 refine .of_wp λP w A R s h=>?_
 have tl:Heap.IsTuple _ l items:=⟨_,h.1,rfl,n,rfl⟩;have U:=sub_enumerate
 wp_walk using wpAny_loadPart' h.1
 apply wpAny_stack_any;intro st;refine yq λc=>?_
 cases c
 .wp_walk using wpAny_pyIter_tuple tl
  exact⟨_,rfl,h.2⟩
 .wp_walk using wpAny_pyIter_tuple tl
  exact⟨_,rfl,h.2⟩
def call_tup(ht:s.heap.IsTuple l items)
  (h:∀h',IsEnum h' (s.heap.objs.size+1) s.heap.objs.size 0 .none->h'.IsTupleIter s.heap.objs.size l 0->h'.objs.size=s.heap.objs.size+2 ->
   (∀b o,s.heap.get? b=some o->h'.get? b=some o)->Q (.ref (s.heap.objs.size+1)) { s with heap:=h' }):wpAny (model P w) A (call (.type "enumerate") [.ref l]) Q E s:=by
 obtain⟨⟨c,S,dt,Z⟩,hl,hc,n,hd⟩:=ht;subst hc;subst hd;have made:=Bb l items n S Z;refine callType_new F.called_enumerate (by decide) (F.typeCall_enumerate_1 _) (F.newCall_enumerate_1 _) (λv=>F.args_object_init_2 v _) F.entry_enumerate_new made ⟨hl,?_⟩;generalize hi:({ cls:=.type "tuple_iterator",data:=.fields #[.ref l,.int 0 0] }:Obj)=io;generalize J:({ cls:=.type "enumerate",data:=.fields #[.none,.bool false,.ref s.heap.objs.size,rawInt 0,.none,.none] }:Obj)=U;have z:(s.heap.push io).objs.size=s.heap.objs.size+1:=Lm ..;have Y:((s.heap.push io).push U).get? (s.heap.objs.size+1)=some U:=by
  rw[<- z];exact Kv _ (by rw[<- J];rfl)
 have g2:((s.heap.push io).push U).get? s.heap.objs.size=some io:=mu _ (Kv _ (by rw[<- hi];rfl));rw[z];refine⟨⟨_,Y,by rw[<- J]⟩,h _ (by rw[<- J]at Y;rw[<- J];exact Y) ⟨_,g2,by rw[<- hi],by rw[<- hi];rfl⟩ (by rw[Lm,z]) λb o q=>mu _ (mu _ q)⟩
end
end L2.En
namespace L2.Dv
open PySem PyProof.Rows List Option
open AutoSeq1 (wpAny_loadPart')
section
variable{P:Program}{w:World}{A:Around}{E:Value->Shared->Prop}{s:Shared}
def pY(h:Heap)(d:Addr)(es:Array DictEntry)(ep:Nat):Prop:=∃o,h.get? d=some o/\o.ExactDict/\o.data=.dict es ep
theorem pY.at(x:pY h d es ep)(k:∀o,h.get? d=some o->h'.get? d=some o):pY h' d es ep:=by
 refine ag x λo J r=>?_
 exact⟨o,k o J,r⟩
def pY.type (x:pY s.heap d es ep):s.TypeIs (.ref d) "dict":=by
 refine bq x λo J r _=>?_
 exact⟨o,J,r.1⟩
def Bc(J:s.heap.IsValuesView v d)(x:pY s.heap d es ep)
  (h:Q (.ref s.heap.objs.size) { s with heap:=s.heap.push { cls:=.type "dict_valueiterator",data:=.fields #[.ref d,.int 0 0,.int es.size 0,.int ep 0] } }):wpAny (model P w) A (pyIter (.ref v)) Q E s:=by
 refine wpAny_pyIter_slot J.typeIs F.slot_dict_values_iter (Ln F.slot_dict_values_iter J.typeIs F.entry_dict_values_iter ?_ (F.args_dict_values_iter_1 _));refine cw λZq S=>?_
 obtain⟨⟨c1,d1,t1,l1⟩,h1,U,Y⟩:=x;have Z:=U.1;subst Z;subst Y;obtain⟨⟨c3,d3,t3,l3⟩,h3,e3,e4⟩:=J;subst e3;subst e4;refine S ?_
 wp_walk using wpAny_loadPart' h1,wpAny_loadPart' h3
 exact⟨_,rfl,_,_,⟨_,Kv _ rfl,rfl⟩,LJ.lookup,h⟩
def vi{ep:Nat}{Q:Option Value->Shared->Prop}(hh:A.handled=none)(Y:s.heap.IsValIter it d i es.size ep)(x:pY s.heap d es ep)
  (h1:∀e h',es[i]?=some e->h'.IsValIter it d (i+1) es.size ep->Heap.SameBut it s.heap h'->Q (some e.val) { s with heap:=h' })
  (h2:∀h',es[i]?=none->Heap.ExtBut it s.heap h'->Q none { s with heap:=h' }):wpAny (model P w) A (pyNext (.ref it)) Q E s:=by
 have ty:=Y.typeIs;obtain⟨⟨c1,d1,t1,l1⟩,g1,S,e2⟩:=x;have e1:=S.1;cases e1;cases e2;obtain⟨⟨c3,d3,t3,l3⟩,J,e3,e4⟩:=Y;cases e3;cases e4;obtain⟨U,g,dr,tk,os⟩:=s;unfold pyNext;refine j0 (wpAny_attempt (LC (name:=Str.ofString "__next__") ty LJ (Ln LJ ty F.entry_dict_valueiterator_next ?_ (F.args_dict_valueiterator_next_1 _))));unfold Builtin.«dict_valueiterator.__next__»
 wp_walk using wpAny_loadPart' g1,wpAny_loadPart' J
 rw[if_neg (by omega),Int.toNat_natCast];have self:∀k v,(U.update it (Obj.mapFields (·.setIfInBounds k v))).get? it=some { cls:=.type "dict_valueiterator",dict:=d3,data:=.fields ((#[.ref d,.int (i:Int) 0,.int (es.size:Int) 0,.int (ep:Int) 0]:Array Value).setIfInBounds k v),slots:=l3 }:=λk v=>LO _ J rfl
 cases S:es[i]? with
 |some e =>
  have Z:=self 1 (rawInt ((i:Int)+1))
  wp_walk using wpAny_loadPart' J,wpAny_loadPart' Z
  exact⟨_,rfl,ox (h1 e _ S ⟨_,Z,rfl,rfl⟩ (LB ..))⟩
 |none =>
  refine j0 (K3 (Q:=λn s'=>n=0/\s'=⟨U,g,dr,tk,os⟩) (E:=λ_ _=>False) ?_ (λn s' q=>?_) λ_ _ z=>z.elim)
  .wp_walk using wpAny_loadPart' J
   exact⟨by decide +kernel,rfl⟩
  obtain⟨rfl,rfl⟩:=q;refine j0 (wpAny_setField J rfl (by simp) ?_);refine St.wG (v:=.none) (vs:=#[]) (it:=0) (Q:=λ_ _=>True) (by simpa using hh) λe s' kp ⟨h',eq⟩ hT=>?_
  subst eq;refine j0 (wpAny_isInstance (T:="StopIteration") (b:=true) hT isSubtype_stop ?_);exact ox (h2 h' S λb o hb q=>kp b o ((LB U it _).extBut b o hb q))
def src :PySem.W.KdlSrc P w "dict_values" r d es.size (λi v=>∃e,es[i]?=some e/\v=e.val) (λh=>h.IsValuesView r d/\pY h d es ep) where
 type:=λ_ q=>q.1.typeIs
 there:=λ_ ⟨⟨o,J,_⟩,⟨o',Z,_⟩⟩=>⟨u0 J,u0 Z⟩
 keep:=λ_ _ ⟨⟨o,J,z⟩,x⟩ k=>⟨⟨o,k r (.inl rfl) o J,z⟩,x.at λo e=>k d (.inr rfl) o e⟩
 notList:=by decide
 notTuple:=by decide
 hint:=λ_ _ _ _ q z=>PySem.W.kdl_hint_values q.1.typeIs z
 iter:=λA s hh hq=>qT hq λq x=>by
  have lt:d<s.heap.objs.size:=by obtain⟨o,J,_⟩:=x;exact u0 J
  have ne:=KA lt;refine⟨{ cls:=.type "dict_valueiterator",data:=.fields #[.ref d,.int 0 0,.int es.size 0,.int ep 0] },λi h=>h.IsValIter s.heap.objs.size d i es.size ep/\pY h d es ep,λE Q z=>Bc q x z,?_,⟨_,Kv _ rfl,rfl,rfl⟩,x.at λo e=>mu _ e⟩;refine⟨λb S=>by simp at S;simp[S],λi h h' ⟨⟨o,J,z⟩,y⟩ k=>⟨⟨o,k _ (by simp) o J,z⟩,y.at λo e=>k d (by simp) o e⟩,λi s' Q E hi ⟨y,z⟩ U=>?_,λs' Q E ⟨y,z⟩ U=>?_,λi s' Q E ⟨y,z⟩ U=>?_⟩
  .refine vi hh y z (λe h' Y y' sb=>?_) λh' Y _=>absurd Y (by simp;omega)
   exact U _ h' s'.toks ⟨e,Y,rfl⟩ ⟨y',z.at λo q=>sb.extBut d o ne q⟩ λb o S q=>sb.extBut b o (λw=>S (by simp[w])) q
  .refine vi hh y z (λe h' Y _ _=>absurd Y (by simp)) λh' _ eb=>?_
   exact U h' s'.toks λb o S q=>eb b o (λw=>S (by simp[w])) q
  .exact wpAny_pyIter_valiter y U
end
end L2.Dv
namespace HT
open PySem PyProof.Rows List Option
section
variable{prog:Program}{w:World}{A:Around}{E:Value->Shared->Prop}{s:Shared}
def getItem_tuple_whole{J:Array Value}{Z vu:Value}{lo hi:Option Int}{Q:Value->Shared->Prop}(ht:IsTup s.heap t J)(hs:s.heap.IsSliceOf sl Z vu .none)(pl:IsPart Z lo)(pu:IsPart vu hi)
  (h0:sIx J.size 0 lo=0) (h1:sIx J.size J.size hi=J.size) (h:Q (.ref t) s):wpAny (model prog w) A (getItem (.ref t) (.ref sl)) Q E s:=by
 have S:s.TypeIs (.ref sl) "slice":=by obtain⟨os,U,Y,_⟩:=hs;exact⟨os,U,Y⟩
 unfold getItem
 try with_reducible refine Lw ?_
 first|refine j0 (ox ?_)|skip
 refine j0 (wpAny_sequenceKey ht.typeIs (by decide) ?_);refine j0 (LC (name:=Str.ofString "__getitem__") ht.typeIs K0
  (Ln K0 ht.typeIs entry_tuple_getitem ?_ (args_tuple_getitem _ _)))
 show wpAny _ _ (Builtin.Tuple.tupleItemsOf _ >>= _) _ _ s;refine j0 (tupleItemsOf_ ht ?_);refine j0 (wpAny_typeOf S ?_);rw[if_pos (by decide)];refine j0 (gH hs pl pu ?_);show wpAny _ _ (if (((sIx J.size 0 lo:Nat):Int)==0&&_==1&&_==J.size)=true then _ else _) _ _ s;rw[h0,h1,if_pos (by simp)];refine j0 (j0 (wpAny_typeOf ht.typeIs (ox ?_)));rw[if_pos (by decide)];refine j0 (wpAny_rule ?_);exact ox ⟨_,rfl,ox h⟩
end
end HT
namespace L2
open PySem PySem.Spec PyProof.Rows List Option
section
variable{X:Cx}
def Bd:SlR X (λx lo hi H Q=>∃a xs,x=.ref a/\SqT X.K H a xs/\HT.sIx xs.length 0 lo=0/\HT.sIx xs.length xs.length hi=xs.length/\Q (.ref a) H):=by
 intro pins s σ H x v vl vu lo hi sl Q I U Y pl Z h;refine uT h λa xs S hx h0 h1 q=>?_
 subst S;subst U;refine bq (I.tuple hx) λits r ht hz=>?_
 have J:its.toArray.size=xs.length:=by rw[oe];exact r.length.symm
 refine⟨"tuple",_,K0.lookup,ht.typeIs,?_⟩;exact HT.getItem_tuple_whole ht Y pl Z (by rw[J];exact h0) (by rw[J];exact h1) ⟨.ref a,H,I,rfl,q⟩
end
end L2
namespace L2.Rv
open PySem PyProof.Rows List Option
section
variable{P:Program}{w:World}{A:Around}{E:Value->Shared->Prop}{s:Shared}
end
end L2.Rv
namespace L2
open PySem PySem.Spec PyProof.Rows List Option
section
variable{X:Cx}
end
end L2
namespace L2.Rg
open PySem PyProof.Rows List Option
section
variable{P:Program}{w:World}{A:Around}{E:Value->Shared->Prop}{s:Shared}
end
end L2.Rg
namespace L2
open PySem PySem.Spec PyProof.Rows List Option
section
variable{X:Cx}
end
structure CFn(K:MP)(C:Addr)(m:Str)(f:Addr):Prop where
 ga:PySem.W.specialIn K (.ref C) "__getattribute__"=some (some (.builtin "type.__getattribute__"))
 rd:PySem.W.readsIn K C (.type "type")=true
 at_:PySem.W.findCls K (.ref C) (.type "type") m=some (.val (.ref f))
 kp:PySem.W.keepIn K (.ref f)=true
section
variable{X:Cx}{x m:Str}{e:Expr}{es:List Expr}{t:TA}{p apos pos:Pos}{C f:Addr}{fd:FuncData}{k:Nat}{ps:List Str}{sp:Sp}{ds:List Value}{dvs:List V}{CX:CXT}{E:XK}
def Ev{pl:Sem Bool}(c:CFn X.K C m f)(F:bw X.prog X.w X.K X.mg X.base CX k f fd ps sp)(hr:dH k X.A)(hg:Gl X x)(hm:X.mg x=some (.ref C))(hb:aG X.K fd ps ds)(hd:aN dvs ds)(hx:g7 CX X E)(ha:PA X (e::es) t)
  (J:(x==("__debug__":Str))=false:=by decide) (S:starEach (e::es) X.env=(false,eval e X.env)::starEach es X.env:=by rfl) (U:(backTo pos (starEach es X.env)).any (·.1)=false:=by rfl)
  (ht:eval (.Call (.Attribute (.Name x p) m apos) (e::es) [] pos) X.env=(do
   let Y <- eval (.Name x p) X.env
   standAt apos.atName
   let (f,first) <- holding [Y] (getMethod Y m pl)
   callWith pos f first (backTo pos (starEach (e::es) X.env)) (backToKw pos (keywordEach [] X.env))):=by rfl) :
  PE X (.Call (.Attribute (.Name x p) m apos) (e::es) [] pos) (iq sp dvs E t):=by
 intro pins s σ H Q I h;refine PySem.W.methodCall_KW (pl:=pl) (jH I hg hm ?_ J) ht;refine PySem.W.method_cls I.kIn c.ga (PySem.W.cls_value I.kIn c.rd c.at_ rfl ?_);refine PySem.W.callWith_K (first:=[]) (h₀:=X.base) I.ok.mod.kin c.kp (thn (ha pos pins _ σ H _ (I.tok _) h) λus s2 ⟨vs,H2,Z,r,q2⟩=>⟨Z.kIn,?_⟩) S U;exact mL F hr hb hd hx Z r q2
def g_ (c:Addr):dy X (.builtin "isinstance") (λus H Q=>∃y t b,us=[y,.ref c]/\jk X.K H y t/\PySem.W.kitOne X.K t (.ref c)=some b/\Q (.bl b) H):=by
 intro pins s σ H xs us Q I r h;obtain⟨y,t,b,rfl,ty,e,q⟩:=h;cases r with
 |cons r1 r=>cases r with
  |cons r2 J =>
   cases J;cases r2;exact wv I r1 ty e λtk=>⟨.bl b,H,I.tok tk,rfl,q⟩
end
end L2
namespace MM
open PySem List Option
inductive Sc where
 | non|bl (b:Bool)|int (i:Int)|str (x:Str)
 deriving Inhabited,DecidableEq
inductive DD where
 | k (kvs:List (Int×Sc))|t (kvs:List (List Int×Sc))
 deriving Inhabited
inductive PV where
 | non|bl (b:Bool)|int (i:Int)|str (x:Str)|tup (xs:List PV)|lst (xs:List PV)|dI (d:DD)
 deriving Inhabited
noncomputable def Sc.pv:Sc->PV
 | .non=>.non
 | .bl b=>.bl b
 | .int i=>.int i
 | .str x=>.str x
noncomputable def sc?:PV->Option Sc
 | .non=>some .non
 | .bl b=>some (.bl b)
 | .int i=>some (.int i)
 | .str x=>some (.str x)
 | _=>none
noncomputable def bF{α:Type} [DecidableEq α] (kvs:List (α×Sc)) (k:α):Option Sc:=(kvs.find? λp=>decide (p.1=k)).map (·.2)
noncomputable def de{α:Type} [DecidableEq α] (kvs:List (α×Sc)) (k:α) (v:Sc):List (α×Sc):=
 if (kvs.any λp=>decide (p.1=k))=true then kvs.map (λp=>if p.1=k then(p.1,v)else p)else kvs++[(k,v)]
noncomputable def eqL(f:PV->PV->Option Bool):List PV->List PV->Option Bool
 | [],[]=>some true
 |x::xs,y::ys=>(f x y).bind λp=>(eqL f xs ys).map λq=>p&&q
 | _,_=>some false
noncomputable def eqF:Nat->PV->PV->Option Bool
 | _,.non,.non=>some true
 | _,.bl a,.bl b=>some (a==b)
 | _,.bl a,.int b=>some ((if a then 1 else 0)==b)
 | _,.int a,.bl b=>some (a==(if b then 1 else 0))
 | _,.int a,.int b=>some (a==b)
 | _,.str a,.str b=>some (a==b)
 |0,.tup _,.tup _=>none
 |0,.lst _,.lst _=>none
 | _,.dI _,_=>none
 | _,_,.dI _=>none
 |n+1,.tup a,.tup b=>eqL (eqF n) a b
 |n+1,.lst a,.lst b=>if a.length=b.length then eqL (eqF n) a b else some false
 | _,_,_=>some false
noncomputable def tY:PV->PV->Bool
 | .tup _,.tup _=>true
 | .lst _,.lst _=>true
 | .tup _,_=>false
 | _,.tup _=>false
 | .lst _,_=>false
 | _,.lst _=>false
 | .bl _,.int _=>false
 | .int _,.bl _=>false
 | .dI _,_=>false
 | _,.dI _=>false
 | _,_=>true
noncomputable def inL(f:PV->Option Bool):List PV->Option Bool
 | []=>some false
 |y::ys=>(f y).bind λp=>(inL f ys).map λq=>p||q
inductive MV where
 | val (v:PV)|own (xs:List PV)|brw (xs:List PV)|ownD (d:DD)|brwD (d:DD)
 | ownO (m:Bool) (fs xs:List PV)|brwO (fs xs:List PV)
 deriving Inhabited
noncomputable abbrev Rho:=List (Option MV)
inductive Op2 where
 | add|sub|mul|fdiv|mod|pow|shr
inductive Cp where
 | eq|ne|lt|le|gt|ge|isN|notN|isIn|notIn
inductive Blt where
 | len|tupleOf|listOf|sorted|any|all|sum|max1|min1|max2|min2|intOf|boolOf|isInt|isBool|isStr|isList|isTuple
 | sortedSet|lenSet|lenSetSub|sortedKeys|valuesOf|tupleRev
 deriving DecidableEq
inductive Sk where
 | seq|rng|enm|rev
noncomputable def sk2:Sk:=.enm
set_option genInjectivity false in
inductive ME where
 | var (i:Nat)
 | bor (i:Nat)
 | cst (v:PV)
 | glob (x:Str) (v:PV)
 | bin (op:Op2) (a b:ME)
 | neg (a:ME)
 | not (a:ME)
 | and (a b:ME)
 | or (a b:ME)
 | ite (c a b:ME)
 | cmp (op:Cp) (a b:ME)
 | chain (op op':Cp) (a b c:ME)
 | tup (es:List ME)
 | lst (es:List ME)
 | idx (a i:ME)
 | slice (a lo hi:ME)
 | blt (b:Blt) (es:List ME)
 | call (f:Nat) (es:List ME)
 | callD (f:Nat) (es:List ME) (d:List Sc)
 | comp (k:Sk) (src:List ME) (js:List Nat) (cond elt:ME)
 | dget (a k d:ME)
 | dat (a k:ME)
 | dIn (neg:Bool) (k a:ME)
 | fld (i n:Nat)
 | fldL (i:Nat)
 | inO (neg:Bool) (e:ME) (i:Nat)
 | callM (f i:Nat) (es:List ME)
 | comp2 (src:List ME) (js:List Nat) (cond elt:ME)
 | callV (f:Nat) (es:List ME)
 deriving Inhabited
noncomputable def cR:List PV->Option (List Int)
 | []=>some []
 | .int i::r=>(cR r).map (i::·)
 | _=>none
noncomputable def nu:List PV->Option (List (List Int))
 | []=>some []
 | .tup xs::r=>(cR xs).bind λx=>(nu r).map (x::·)
 | _=>none
noncomputable def gu:List PV->Option (List Bool)
 | []=>some []
 | .bl i::r=>(gu r).map (i::·)
 | _=>none
noncomputable def wO:PV->PV->Option (Option Sc)
 | .dI (.k kvs),.int i=>some (bF kvs i)
 | .dI (.t kvs),.tup xs=>(cR xs).map (bF kvs)
 | _,_=>none
noncomputable def tZ:DD->PV->Sc->Option DD
 | .k kvs,.int i,s=>if kvs.length<10000 then some (.k (de kvs i s))else none
 | .t kvs,.tup xs,s=>(cR xs).bind λk=>if kvs.length<10000 then some (.t (de kvs k s))else none
 | _,_,_=>none
noncomputable def dSc:DD->List Sc
 | .k kvs=>kvs.map (·.2)
 | .t kvs=>kvs.map (·.2)
noncomputable def vj(d:DD):List PV:=(dSc d).map Sc.pv
noncomputable def lexLt:List Int->List Int->Bool
 | [],[]=>false
 | [],_::_=>true
 | _::_,[]=>false
 |x::xs,y::ys=>if x=y then lexLt xs ys else decide (x<y)
noncomputable def yr(x:Int):List Int->List Int
 | []=>[x]
 |y::r=>if y<x then y::yr x r else x::y::r
noncomputable def sortI:List Int->List Int
 | []=>[]
 |x::r=>yr x (sortI r)
noncomputable def yt(x:List Int):List (List Int)->List (List Int)
 | []=>[x]
 |y::r=>if lexLt y x=true then y::yt x r else x::y::r
noncomputable def sortT:List (List Int)->List (List Int)
 | []=>[]
 |x::r=>yt x (sortT r)
noncomputable def dd:List Int->List Int
 | []=>[]
 |x::r=>if x∈dd r then dd r else x::dd r
noncomputable def jS{α:Type}(f:Int->Int->Option α):PV->PV->Option α
 | .int i,.int j=>f i j
 | _,_=>none
noncomputable def CC:PV->PV->Option PV
 | .int i,.int j=>some (.int (i+j))
 | .lst a,.lst b=>if a.length+b.length<=10000 then some (.lst (a++b))else none
 | .tup a,.tup b=>if a.length+b.length<=10000 then some (.tup (a++b))else none
 | .str a,.str b=>if a.length+b.length<=1000000 then some (.str (a++b))else none
 | _,_=>none
noncomputable def iu(op:Op2):PV->PV->Option PV:=match op with
 | .add=>CC
 | .sub=>jS λi j=>some (.int (i-j))
 | .mul=>jS λi j=>if (-(2 ^ 64)<i/\i<2 ^ 64)\/(-(2 ^ 64)<j/\j<2 ^ 64)then some (.int (i*j))else none
 | .fdiv=>jS λi j=>if 0<j/\j<1073741824 then some (.int (i / j))else none
 | .mod=>jS λi j=>if 0<j then some (.int (i % j))else none
 | .pow=>jS λi j=>if 0<=j/\j<=1000000/\i.natAbs<2 ^ 64 then some (.int (i ^ j.toNat))else none
 | .shr=>jS λi j=>if 0<=j then some (.int (i / 2 ^ j.toNat))else none
noncomputable def iw:PV->Bool
 | .non=>true
 | _=>false
noncomputable def isIn(x:PV)(xs:List PV):Option Bool:=inL (λy=>eqF 100 y x) xs
noncomputable def G_(a b:PV):Option Bool:=match b with
 | .non=>some (iw a)
 | .bl q=>(match a with|.bl p=>some (p==q)|_=>none)
 | _=>none
noncomputable def cx:PV->Option (List PV)
 | .tup xs=>some xs
 | .lst xs=>some xs
 | _=>none
noncomputable def jT:PV->Option (List PV)
 | .lst xs=>some xs
 | _=>none
noncomputable def cT(op:Cp):PV->PV->Option Bool:=match op with
 | .eq=>eqF 100
 | .ne=>λa b=>if tY a b=true then(eqF 100 a b).map λp=>!p else none
 | .lt=>jS λi j=>some (decide (i<j))
 | .le=>jS λi j=>some (decide (i<=j))
 | .gt=>jS λi j=>some (decide (j<i))
 | .ge=>jS λi j=>some (decide (j<=i))
 | .isN=>G_
 | .notN=>λa b=>(G_ a b).map λp=>!p
 | .isIn=>λa b=>(cx b).bind (isIn a)
 | .notIn=>λa b=>((cx b).bind (isIn a)).map λp=>!p
noncomputable def gh(n:Nat)(i:Int):Option Nat:=
 if 0<=i then(if i<n then some i.toNat else none)else if -(n:Int)<=i then some (i+n).toNat else none
noncomputable def jU:PV->PV->Option PV
 | .tup xs,.int i=>(gh xs.length i).bind λj=>xs[j]?
 | .lst xs,.int i=>(gh xs.length i).bind λj=>xs[j]?
 | _,_=>none
noncomputable def jd(n d:Nat):Option Int->Nat
 |none=>d
 |some i=>if i<0 then(i+n).toNat else min i.toNat n
noncomputable def cut(xs:List PV)(lo hi:Option Int):List PV:=(xs.drop (jd xs.length 0 lo)).take (jd xs.length xs.length hi-jd xs.length 0 lo)
noncomputable def gi:PV->Option Int->Option Int->Option PV
 | .lst xs,lo,hi=>some (.lst (cut xs lo hi))
 | .tup xs,lo,hi=>some (.tup (cut xs lo hi))
 | _,_,_=>none
noncomputable def bnd:ME->PV->Option (Option Int)
 | .cst .non,_=>some none
 | _,.int i=>some (some i)
 | _,_=>none
noncomputable def Ha:List Int->Option Int
 | []=>none
 |x::r=>some (r.foldl (λa b=>if a<b then b else a) x)
noncomputable def iH(xs:List PV):Option PV:=
 if xs.length<64 then
  match cR xs with
  |some ns=>some (.lst ((sortI ns).map .int))
  |none=>(nu xs).map λJ=>.lst ((sortT J).map λt=>.tup (t.map .int))
 else none
noncomputable def isT(b:Blt):PV->Bool
 | .int _=>b==.isInt
 | .bl _=>b==.isInt||b==.isBool
 | .str _=>b==.isStr
 | .lst _=>b==.isList
 | .tup _=>b==.isTuple
 | .non=>false
 | .dI _=>false
noncomputable def isD:PV->Bool
 | .dI _=>true
 | _=>false
noncomputable def dw(vs:List PV)(f:PV->Option PV):Option PV:=match vs with
 | [a]=>f a
 | _=>none
noncomputable def pZ(vs:List PV)(f:PV->PV->Option PV):Option PV:=match vs with
 | [a,b]=>f a b
 | _=>none
noncomputable def jV(b:Blt)(vs:List PV):Option PV:=dw vs λa=>if isD a=true then none else some (.bl (isT b a))
noncomputable def CD:PV->Option PV
 | .tup xs=>some (.int xs.length)
 | .lst xs=>some (.int xs.length)
 | .dI (.k kvs)=>some (.int kvs.length)
 | _=>none
noncomputable def aY(b:Blt)(vs:List PV):Option PV:=match b with
 | .len=>dw vs CD
 | .tupleOf=>dw vs λa=>(cx a).map .tup
 | .listOf=>dw vs λa=>(cx a).map .lst
 | .sorted=>dw vs λa=>(cx a).bind iH
 | .any=>dw vs λa=>(jT a).bind λxs=>(gu xs).map λbs=>.bl (bs.any id)
 | .all=>dw vs λa=>(jT a).bind λxs=>(gu xs).map λbs=>.bl (bs.all id)
 | .sum=>dw vs λa=>(jT a).bind λxs=>(cR xs).map λns=>.int ns.sum
 | .max1=>dw vs λa=>(jT a).bind λxs=>(cR xs).bind λns=>(Ha ns).map .int
 | .min1=>none
 | .max2=>pZ vs (jS λi j=>some (.int (if j > i then j else i)))
 | .min2=>pZ vs (jS λi j=>some (.int (if j<i then j else i)))
 | .intOf=>dw vs λa=>match a with|.int i=>some (.int i)|.bl b=>some (.int (if b then 1 else 0))|_=>none
 | .boolOf=>dw vs λa=>match a with|.bl b=>some (.bl b)|_=>none
 | .isInt=>jV .isInt vs
 | .isBool=>jV .isBool vs
 | .isStr=>jV .isStr vs
 | .isList=>jV .isList vs
 | .isTuple=>jV .isTuple vs
 | .sortedSet=>dw vs λa=>(cx a).bind λxs=>(cR xs).bind λns=>if ns.length<=4000/\(dd ns).length<64 then some (.lst ((sortI (dd ns)).map .int))else none
 | .lenSet=>dw vs λa=>(cx a).bind λxs=>(cR xs).bind λns=>if ns.length<=4000 then some (.int (dd ns).length)else none
 | .lenSetSub=>pZ vs λa b=>(cx a).bind λxs=>(cR xs).bind λns=>(cx b).bind λys=>(cR ys).bind λms =>
   if ns.length<=4000/\ms.length<=4000/\(dd ns).length<=60 then some (.int ((dd ns).filter λn=>!decide (n∈ms)).length)else none
 | .sortedKeys=>dw vs λa=>match a with|.dI (.k kvs)=>if kvs.length<64 then some (.lst ((sortI (kvs.map (·.1))).map .int))else none|_=>none
 | .tupleRev=>dw vs λa=>(jT a).map λxs=>.tup xs.reverse
 | .valuesOf=>dw vs λa=>match a with|.dI d=>if (vj d).length<=10000 then some (.lst (vj d))else none|_=>none
noncomputable def dN(n:Nat):List PV->List PV
 | []=>[]
 |x::r=>.tup [.int (n:Nat),x]::dN (n+1) r
noncomputable def cB:Sk->List PV->Option (List PV)
 | .seq,[a]=>cx a
 | .rng,[.int j]=>if -(2 ^ 62)<=j/\j<2 ^ 62 then some ((range j.toNat).map λ(k:Nat)=>.int ((0:Int)+k))else none
 | .rng,[.int i,.int j]=>if -(2 ^ 62)<=i/\i<2 ^ 62/\-(2 ^ 62)<=j/\j<2 ^ 62 then some ((range (j-i).toNat).map λ(k:Nat)=>.int (i+k))else none
 | .enm,[a]=>(cx a).map (dN 0)
 | .rev,[.lst xs]=>some xs.reverse
 | _,_=>none
noncomputable def fJ(c:PV->Option Bool)(f:PV->Option PV):List PV->Option (List PV)
 | []=>some []
 |x::r=>(c x).bind λb=>if b=true then(f x).bind λy=>(fJ c f r).map (y::·)else fJ c f r
noncomputable def be:PV->Option Bool
 | .bl b=>some b
 | _=>none
noncomputable abbrev Cal:=Nat->List MV->Option PV
noncomputable def yu:Option MV->Option PV
 |some (.val v)=>some v
 | _=>none
noncomputable def ce:Option MV->Option PV
 |some (.val v)=>some v
 |some (.own xs)=>some (.lst xs)
 |some (.brw xs)=>some (.lst xs)
 |some (.ownD kvs)=>some (.dI kvs)
 |some (.brwD kvs)=>some (.dI kvs)
 |some (.ownO _ _ _)=>none
 |some (.brwO _ _)=>none
 |none=>none
noncomputable def gj:Option MV->Option MV
 |some (.val v)=>some (.val v)
 |some (.own xs)=>some (.brw xs)
 |some (.brw xs)=>some (.brw xs)
 |some (.ownD xs)=>some (.brwD xs)
 |some (.brwD xs)=>some (.brwD xs)
 |some (.ownO _ fs xs)=>some (.brwO fs xs)
 |some (.brwO fs xs)=>some (.brwO fs xs)
 |none=>none
noncomputable def eD:Option MV->Option MV
 |some (.own xs)=>some (.brw xs)
 |some (.ownD xs)=>some (.brwD xs)
 |some (.ownO _ fs xs)=>some (.brwO fs xs)
 |o=>o
noncomputable def eF(js:List Nat)(G:Rho)(x:PV):Rho:=some (.val x)::js.map λj=>eD (G[j]?).join
noncomputable def lj:Option MV->Option (List PV×List PV)
 |some (.ownO _ fs xs)=>some (fs,xs)
 |some (.brwO fs xs)=>some (fs,xs)
 | _=>none
noncomputable def oV:Option MV->Option PV
 |some (.brwO _ xs)=>some (.lst xs)
 | _=>none
noncomputable def unB:MV->MV
 | .brw xs=>.val (.lst xs)
 |m=>m
noncomputable def Hb(js:List Nat)(G:Rho):PV->Rho
 | .tup [a,b]=>some (.val a)::some (.val b)::js.map λj=>eD (G[j]?).join
 | _=>[]
noncomputable def CF:Option MV->Option PV
 |some (.ownO _ _ xs)=>some (.lst xs)
 | _=>none
mutual
noncomputable def ev(cal:Cal):ME->Rho->Option PV
 | .var i,G=>yu (G[i]?).join
 | .bor i,G=>ce (G[i]?).join
 | .cst v,_=>some v
 | .glob _ v,_=>some v
 | .bin op a b,G=>(ev cal a G).bind λx=>(ev cal b G).bind λy=>iu op x y
 | .neg a,G=>(ev cal a G).bind λx=>match x with|.int i=>some (.int (-i))|_=>none
 | .not a,G=>((ev cal a G).bind be).map λb=>.bl (!b)
 | .and a b,G=>((ev cal a G).bind be).bind λc=>if c=true then(ev cal b G).bind λy=>(be y).map .bl else some (.bl false)
 | .or a b,G=>((ev cal a G).bind be).bind λc=>if c=true then some (.bl true)else(ev cal b G).bind λy=>(be y).map .bl
 | .ite c a b,G=>((ev cal c G).bind be).bind λk=>if k=true then ev cal a G else ev cal b G
 | .cmp op a b,G=>(ev cal a G).bind λx=>(ev cal b G).bind λy=>(cT op x y).map .bl
 | .chain op J a b c,G=>(ev cal a G).bind λx=>(ev cal b G).bind λy=>(cT op x y).bind λk=>if k=true then(ev cal c G).bind λz=>(cT J y z).map .bl else some (.bl false)
 | .tup es,G=>(evs cal es G).bind λvs=>if vs.length<=10000 then some (.tup vs)else none
 | .lst es,G=>(evs cal es G).bind λvs=>if vs.length<=10000 then some (.lst vs)else none
 | .idx a i,G=>(ev cal a G).bind λx=>(ev cal i G).bind λy=>jU x y
 | .slice a lo hi,G=>(ev cal a G).bind λx=>((ev cal lo G).bind λl=>bnd lo l).bind λl=>((ev cal hi G).bind λh=>bnd hi h).bind λh=>gi x l h
 | .blt b es,G=>(evs cal es G).bind λvs=>aY b vs
 | .call f es,G=>(evA cal es G).bind λvs=>cal f vs
 | .callD f es d,G=>(evA cal es G).bind λvs=>cal f (vs++d.map λx=>.val x.pv)
 | .comp k src js cond elt,G=>(evs cal src G).bind λvs=>(cB k vs).bind λxs =>
   if xs.length<=10000 then(fJ (λx=>(ev cal cond (eF js G x)).bind be) (λx=>ev cal elt (eF js G x)) xs).map .lst else none
 | .dget a k d,G=>(ev cal a G).bind λx=>(ev cal k G).bind λy=>(ev cal d G).bind λz=>(wO x y).bind λo=>(sc? z).map λs=>(o.getD s).pv
 | .dat a k,G=>(ev cal a G).bind λx=>(ev cal k G).bind λy=>(wO x y).bind λo=>o.map Sc.pv
 | .dIn neg k a,G=>(ev cal k G).bind λy=>(ev cal a G).bind λx=>(wO x y).map λo=>.bl (if neg=true then !o.isSome else o.isSome)
 | .fld i n,G=>(lj (G[i]?).join).bind λo=>o.1[n]?
 | .fldL i,G=>oV (G[i]?).join
 | .inO neg e i,G=>(ev cal e G).bind λy=>(CF (G[i]?).join).bind λx=>(cT (if neg=true then .notIn else .isIn) y x).map .bl
 | .callM f i es,G=>(lj (G[i]?).join).bind λo=>(evA cal es G).bind λvs=>cal f (.brwO o.1 o.2::vs)
 | .callV f es,G=>(evA cal es G).bind λvs=>(cal f (vs.map unB)).bind λr=>(sc? r).map λ_=>r
 | .comp2 src js cond elt,G=>(evs cal src G).bind λvs=>(cB sk2 vs).bind λxs =>
   if xs.length<=10000 then(fJ (λx=>(ev cal cond (Hb js G x)).bind be) (λx=>ev cal elt (Hb js G x)) xs).map .lst else none
noncomputable def evs(cal:Cal):List ME->Rho->Option (List PV)
 | [],_=>some []
 |e::es,G=>(ev cal e G).bind λv=>(evs cal es G).map (v::·)
noncomputable def evA(cal:Cal):List ME->Rho->Option (List MV)
 | [],_=>some []
 | .bor i::es,G=>(gj (G[i]?).join).bind λv=>(evA cal es G).map (v::·)
 | .fldL _::_,_=>none
 |e::es,G=>(ev cal e G).bind λv=>(evA cal es G).map (MV.val v::·)
end
noncomputable def evB(cal:Cal)(e:ME)(G:Rho):Option Bool:=(ev cal e G).bind be
set_option genInjectivity false in
inductive MS where
 | set (i:Nat) (e:ME)
 | setOwn (i:Nat) (e:ME)
 | freeze (i:Nat)
 | append (i:Nat) (e:ME)
 | extend (i:Nat) (e:ME)
 | insert (i:Nat) (k e:ME)
 | mkO (i:Nat) (es:List ME)
 | appO (i:Nat) (e:ME)
 | retT (e:ME)
 | takeO (j:Option Nat) (i f:Nat) (es:List ME)
 | setIdx (i:Nat) (k v:ME)
 | unpack (is:List Nat) (e:ME)
 | expr (e:ME)
 | ite (c:ME) (a b:List MS)
 | for1 (i:Nat) (k:Sk) (src:List ME) (body:List MS)
 | forT (is:List Nat) (k:Sk) (src:List ME) (body:List MS)
 | while (n:Nat) (c:ME) (body:List MS)
 | ret (e:ME)
 | retOwn (i:Nat)
 | retN
 | brk
 | cont
 | pass
 | never
 | newD (m:Bool) (i:Nat)
 | retF (e:ME)
 | setCall (i f:Nat) (es:List ME)
 | clear (i:Nat)
 | dput (i:Nat) (k v:ME)
 deriving Inhabited
inductive R where
 | next (G:Rho)|brk (G:Rho)|cont (G:Rho)|ret (v:PV)|bad
 | retF (xs:List PV)
 | retT (v:Sc) (G:Rho)
 deriving Inhabited
noncomputable def R.andThen:R->(Rho->R)->R
 | .next G,k=>k G
 |r,_=>r
noncomputable def put(G:Rho)(i:Nat)(v:MV):Rho:=G.set i (some v)
noncomputable def dQ(o:Option PV)(k:PV->R):R:=match o with
 |some v=>k v
 |none=>.bad
noncomputable def yw(o:Option Bool)(k:Bool->R):R:=match o with
 |some v=>k v
 |none=>.bad
noncomputable def t5:List Nat->List PV->Rho->Option Rho
 | [],[],G=>some G
 |i::is,v::vs,G=>t5 is vs (put G i (.val v))
 | _,_,_=>none
noncomputable def nv(is:List Nat):PV->Rho->Option Rho
 | .tup vs,G=>t5 is vs G
 | _,_=>none
noncomputable def iy(o:Option Rho)(f:Rho->R):R:=match o with
 |some G=>f G
 |none=>.bad
noncomputable def bA(body:PV->Rho->R):List PV->Rho->R
 | [],G=>.next G
 |x::r,G=>match body x G with
  | .next A=>bA body r A
  | .cont A=>bA body r A
  | .brk A=>.next A
  | .ret v=>.ret v
  | .bad=>.bad
  | .retF xs=>.retF xs
  | .retT v A=>.retT v A
noncomputable def p_(c:Rho->Option Bool)(body:Rho->R):Nat->Rho->R
 |0,_=>.bad
 |n+1,G=>match c G with
  |none=>.bad
  |some false=>.next G
  |some true=>match body G with
   | .next A=>p_ c body n A
   | .cont A=>p_ c body n A
   | .brk A=>.next A
   | .ret v=>.ret v
   | .bad=>.bad
   | .retF xs=>.retF xs
   | .retT v A=>.retT v A
noncomputable def ca(src:List ME)(G:Rho):Rho:=match src with
 | [.bor i]=>(match (G[i]?).join with|some (.own xs)=>put G i (.brw xs)|_=>G)
 | _=>G
noncomputable def br(src:List ME)(J G:Rho):Rho:=match src with
 | [.bor i]=>(match (J[i]?).join,(G[i]?).join with|some (.own _),some (.brw xs)=>put G i (.own xs)|_,_=>G)
 | _=>G
noncomputable def R.back(src:List ME)(J:Rho):R->R
 | .next G=>.next (br src J G)
 | .brk G=>.brk (br src J G)
 | .cont G=>.cont (br src J G)
 | .retT v G=>.retT v (br src J G)
 |r=>r
noncomputable def isL:MV->Bool
 | .ownO _ _ _=>true
 | _=>false
noncomputable def yx(G:Rho)(i:Nat):Bool:=(G.set i none).all λo=>match o with|some m=>!isL m|none=>true
noncomputable def wP:List PV->Option (List PV)
 | [.tup [c,r],o]=>some [c,r,o]
 | [.tup [c,r]]=>some [c,r,.str "weaver"]
 | _=>none
mutual
noncomputable def ex(cal:Cal):MS->Rho->R
 | .set i e,G=>dQ (ev cal e G) λv=>.next (put G i (.val v))
 | .setOwn i e,G=>dQ (ev cal e G) λv=>match v with|.lst xs=>.next (put G i (.own xs))|_=>.bad
 | .freeze i,G=>match (G[i]?).join with|some (.own xs)=>.next (put G i (.val (.lst xs)))|some _=>.next G|none=>.bad
 | .append i e,G=>dQ (ev cal e G) λv=>match (G[i]?).join with
  |some (.own xs)=>if xs.length<10000 then .next (put G i (.own (xs++[v])))else .bad
  | _=>.bad
 | .insert i k e,G=>dQ (ev cal k G) λk=>dQ (ev cal e G) λv=>match (G[i]?).join,k with
  |some (.own xs),.int j=>if 0<=j/\j<=xs.length/\xs.length<10000 then .next (put G i (.own (xs.take j.toNat++v::xs.drop j.toNat)))else .bad
  | _,_=>.bad
 | .extend i e,G=>dQ (ev cal e G) λv=>match (G[i]?).join,cx v with
  |some (.own xs),some ys=>if xs.length+ys.length<=10000 then .next (put G i (.own (xs++ys)))else .bad
  | _,_=>.bad
 | .mkO i es,G=>match (evs cal es G).bind wP with
  |some fs=>if yx G i=true/\cal 4000 []≠none then .next (put G i (.ownO false fs []))else .bad
  |none=>.bad
 | .appO i e,G=>dQ (ev cal e G) λv=>match (G[i]?).join with
  |some (.ownO m fs xs)=>if xs.length<10000 then .next (put G i (.ownO m fs (xs++[v])))else .bad
  | _=>.bad
 | .retT e,G=>dQ (ev cal e G) λv=>match sc? v with
  |some s=>.retT s G
  |none=>.bad
 | .takeO j i f es,G=>match (G[i]?).join with
  |some (.ownO m fs xs)=>(match (evs cal es G).bind λvs=>cal (f+3000) (.ownO true fs xs::vs.map .val)with
   |some (.tup [v,.lst ys])=>(match sc? v with
    |some _=>(match j with
     |some j=>if i=j then .bad else .next (put (put G i (.ownO m fs ys)) j (.val v))
     |none=>.next (put G i (.ownO m fs ys)))
    |none=>.bad)
   | _=>.bad)
  | _=>.bad
 | .setIdx i k v,G=>dQ (ev cal v G) λv=>dQ (ev cal k G) λk=>match (G[i]?).join,k with
  |some (.own xs),.int k=>(match gh xs.length k with|some j=>.next (put G i (.own (xs.set j v)))|none=>.bad)
  | _,_=>.bad
 | .unpack is e,G=>dQ (ev cal e G) λv=>iy (nv is v G) .next
 | .expr e,G=>dQ (ev cal e G) λ_=>.next G
 | .ite c a b,G=>yw (evB cal c G) λk=>if k=true then exs cal a G else exs cal b G
 | .for1 i k src body,G=>match (evs cal src G).bind (cB k)with
  |some xs=>(bA (λx A=>exs cal body (put A i (.val x))) xs (ca src G)).back src G
  |none=>.bad
 | .forT is k src body,G=>match (evs cal src G).bind (cB k)with
  |some xs=>(bA (λx A=>iy (nv is x A) λJ=>exs cal body J) xs (ca src G)).back src G
  |none=>.bad
 | .while n c body,G=>p_ (evB cal c) (λA=>exs cal body A) n G
 | .ret e,G=>dQ (ev cal e G) .ret
 | .retOwn i,G=>match (G[i]?).join with|some (.own xs)=>.ret (.lst xs)|some (.ownD kvs)=>.ret (.dI kvs)|some (.val v)=>.ret v|_=>.bad
 | .newD m i,G=>.next (put G i (.ownD (if m=true then .t []else .k [])))
 | .dput i k v,G=>dQ (ev cal v G) λv=>dQ (ev cal k G) λk=>match (G[i]?).join,sc? v with
  |some (.ownD d),some s=>match tZ d k s with|some d'=>.next (put G i (.ownD d'))|none=>.bad
  | _,_=>.bad
 | .retF e,G=>dQ (ev cal e G) λv=>match v with|.lst xs=>.retF xs|_=>.bad
 | .setCall i f es,G=>dQ ((evA cal es G).bind λvs=>cal (f+1000) vs) λv=>match v with|.lst xs=>.next (put G i (.own xs))|_=>.bad
 | .clear i,G=>match (G[i]?).join with|some (.own _)=>.next (put G i (.own []))|_=>.bad
 | .retN,_=>.ret .non
 | .brk,G=>.brk G
 | .cont,G=>.cont G
 | .pass,G=>.next G
 | .never,_=>.bad
noncomputable def exs(cal:Cal):List MS->Rho->R
 | [],G=>.next G
 |s::ss,G=>(ex cal s G).andThen λA=>exs cal ss A
end
structure MD where
 name:Str
 params:List Str
 names:List Str
 body:List MS
 meth:Option Str:=none
 deriving Inhabited
noncomputable def wQ:Sc->Rho->Option PV
 |v,some (.ownO true _ xs)::_=>some (.tup [v.pv,.lst xs])
 | _,_=>none
noncomputable def ab(ds:List MD):Nat->Cal
 |0,_,_=>none
 |n+1,f,args=>match ds[f]? with
  |none=>if f=4000 then(if 1<=n then some (.bl true)else none)else if 2000<=f then(
   match ds[f-3000]? with
   |none=>none
   |some d=>if args.length=d.params.length then
     (match exs (ab ds n) d.body (args.map some++replicate (d.names.length-args.length) none)with
     | .retT v G=>wQ v G
     | _=>none)else none)else
   (match ds[f-1000]? with
   |none=>none
   |some d=>if args.length=d.params.length then
     (match exs (ab ds n) d.body (args.map some++replicate (d.names.length-args.length) none)with
     | .retF xs=>some (.lst xs)
     | _=>none)else none)
  |some d=>if args.length=d.params.length then
    (match exs (ab ds n) d.body (args.map some++replicate (d.names.length-args.length) none)with
    | .next _=>some .non
    | .ret v=>some v
    | .retF xs=>some (.lst xs)
    | _=>none)else none
end MM
namespace MM
open PySem PySem.Spec PyProof.Rows L2 List Option
noncomputable abbrev St:=L2.St
noncomputable def ah(H:Hp)(O:List Addr):Hp:=λb=>if b∈O then none else H b
def dq(h:b∈O):ah H O b=none:=if_pos h
def aV(h:b∉O):ah H O b=H b:=if_neg h
theorem ae.rd(s:ae H H')(h:Rd H a u):Rd H' a u:=h.elim (λe=>.inl (s a _ e)) λJ=>GC J λo e=>.inr ⟨o,s a _ e⟩
def a_(H)(O):ae (ah H O) H:=λb u e=>by
 unfold ah at e
 simp_all
def aQ(s:ae H H')(h:∀b∈O',b∈O\/H b=none):ae (ah H O) (ah H' O'):=λb u e=>by
 have J:b∉O:=λz=>by rw[dq z]at e;exact bn e
 rw[aV J]at e;rw[aV]
 .exact s b u e
 .intro z;rcases h b z with q|q
  .exact J q
  .rw[q]at e;exact bn e
def aj(s:ae H H'):ae (ah H O) (ah H' O):=aQ s λ_ h=>.inl h
noncomputable def Sc.v:Sc->V
 | .non=>.non
 | .bl b=>.bl b
 | .int i=>.int i
 | .str x=>.str x
noncomputable def gK(kvs:List (Int×Sc)):List (Key×V):=kvs.map λp=>(Sum.inl p.1,p.2.v)
noncomputable def jW(kvs:List (List Int×Sc)):List (List Key×V):=kvs.map λp=>(p.1.map Sum.inl,p.2.v)
noncomputable def lW:DD->HO
 | .k kvs=>.dK (gK kvs)
 | .t kvs=>.dT (jW kvs)
abbrev RdD(F:Hp)(a:Addr)(d:DD):Prop:=Rd F a (lW d)
theorem RdD.rd(h:RdD F a d):Rd F a (lW d):=h
theorem ae.rdD(s:ae H H')(h:RdD H a d):RdD H' a d:=ae.rd s h
mutual
noncomputable def Rep(K:MP)(F:Hp):PV->V->Prop
 | .non,u=>u=.non
 | .bl b,u=>u=.bl b
 | .int i,u=>u=.int i
 | .str x,u=>u=.str x
 | .tup xs,u=>∃a us,u=.ref a/\F a=some (.tup us)/\Reps K F xs us
 | .lst xs,u=>∃a us,u=.ref a/\SqL K F a us/\Reps K F xs us
 | .dI kvs,u=>∃a,u=.ref a/\RdD F a kvs
noncomputable def Reps(K:MP)(F:Hp):List PV->List V->Prop
 | [],us=>us=[]
 |x::xs,us=>∃u r,us=u::r/\Rep K F x u/\Reps K F xs r
end
section
variable{K:MP}{F F':Hp}
mutual
theorem Rep.mono(s:ae F F'):∀(x:PV) {u:V},Rep K F x u->Rep K F' x u
 | .non,_,h=>by simpa only[Rep]using h
 | .bl _,_,h=>by simpa only[Rep]using h
 | .int _,_,h=>by simpa only[Rep]using h
 | .str _,_,h=>by simpa only[Rep]using h
 | .tup xs,_,h=>by
  refine au h λa us e q r=>?_
  exact⟨a,us,e,s a _ q,Reps.mono s xs r⟩
 | .lst xs,_,h=>by
  refine au h λa us e q r=>?_
  exact⟨a,us,e,s.seq q,Reps.mono s xs r⟩
 | .dI kvs,_,h=>by
  refine ag h λa e q=>?_
  exact⟨a,e,ae.rdD s q⟩
theorem Reps.mono(s:ae F F'):∀(xs:List PV) {us:List V},Reps K F xs us->Reps K F' xs us
 | [],_,h=>by simpa only[Reps]using h
 |x::xs,_,h=>by
  refine au h λu r e q t=>?_
  exact⟨u,r,e,Rep.mono s x q,Reps.mono s xs t⟩
end
theorem Reps.nil:Reps K F [] []:=rfl
theorem Reps.cons{u:V}{us:List V}(h:Rep K F x u)(t:Reps K F xs us):Reps K F (x::xs) (u::us):=by
 rw[Reps];exact⟨u,us,rfl,h,t⟩
theorem Reps.length:∀{xs}{us},Reps K F xs us->xs.length=us.length
 | [],_,h=>by rw[Reps]at h;subst h;rfl
 |x::xs,_,h=>by
  refine au h λu r e _ t=>?_
  subst e;simp[Reps.length t]
theorem Reps.get:∀{xs}{us}{i:Nat}{x},Reps K F xs us->xs[i]?=some x->∃u,us[i]?=some u/\Rep K F x u
 | [],_,_,_,_,e=>by injection e
 |x::xs,_,i,y,h,e=>by
  refine au h λu r J q t=>?_
  subst J;cases i with
  |zero=>simp at e;subst e;exact⟨u,by rfl,q⟩
  |succ i=>obtain⟨w,h1,h2⟩:=Reps.get (i:=i) t e;exact⟨w,by simpa using h1,h2⟩
theorem Reps.get':∀{xs}{us}{i:Nat}{u},Reps K F xs us->us[i]?=some u->∃x,xs[i]?=some x/\Rep K F x u
 | [],_,i,_,h,e=>by rw[Reps]at h;subst h;injection e
 |x::xs,_,i,y,h,e=>by
  refine au h λu r J q t=>?_
  subst J;cases i with
  |zero=>simp at e;subst e;exact⟨x,by rfl,q⟩
  |succ i=>obtain⟨w,h1,h2⟩:=Reps.get' (i:=i) t e;exact⟨w,by simpa using h1,h2⟩
theorem Reps.append:∀{xs ys}{us ws},Reps K F xs us->Reps K F ys ws->Reps K F (xs++ys) (us++ws)
 | [],_,_,_,h,g=>by rw[Reps]at h;subst h;exact g
 |x::xs,_,_,_,h,g=>by
  refine au h λu r J q t=>?_
  subst J;exact .cons q (Reps.append t g)
theorem Reps.snoc(h:Reps K F xs us)(g:Rep K F x u):Reps K F (xs++[x]) (us++[u]):=h.append (.cons g .nil)
theorem Reps.take:∀{xs}{us} n,Reps K F xs us->Reps K F (xs.take n) (us.take n)
 | _,_,0,_=>by exact Reps.nil
 | [],_,n+1,h=>by rw[Reps]at h;subst h;exact Reps.nil
 |x::xs,_,n+1,h=>by
  refine au h λu r J q t=>?_
  subst J;exact .cons q (Reps.take n t)
theorem Reps.drop:∀{xs}{us} n,Reps K F xs us->Reps K F (xs.drop n) (us.drop n)
 | _,_,0,h=>h
 | [],_,n+1,h=>by rw[Reps]at h;subst h;exact Reps.nil
 |x::xs,_,n+1,h=>by
  refine au h λu r J q t=>?_
  subst J;exact Reps.drop n t
theorem Reps.set:∀{xs}{us}{x}{u} n,Reps K F xs us->Rep K F x u->Reps K F (xs.set n x) (us.set n u)
 | [],_,_,_,n,h,_=>by rw[Reps]at h;subst h;exact Reps.nil
 |x::xs,_,_,_,0,h,g=>by
  refine au h λu r J q t=>?_
  subst J;exact .cons g t
 |x::xs,_,_,_,n+1,h,g=>by
  refine au h λu r J q t=>?_
  subst J;exact .cons q (Reps.set n t g)
theorem Reps.ints:∀{ns:List Int}{us},Reps K F (ns.map .int) us->us=ns.map V.int
 | [],_,h=>by exact h
 |n::ns,_,h=>by
  refine au h λu r J q t=>?_
  subst J;rw[q,Reps.ints t];rfl
theorem Reps.of_ints:∀(ns:List Int),Reps K F (ns.map .int) (ns.map V.int)
 | []=>.nil
 |n::ns=>.cons (by rw[Rep]) (Reps.of_ints ns)
theorem jX:∀{xs}{ns},cR xs=some ns->xs=ns.map .int
 | [],_,h=>by simp[cR]at h;subst h;rfl
 | .int i::r,ns,h=>by
  simp[cR]at h;obtain⟨ms,h1,rfl⟩:=h;rw[jX h1];rfl
 | .non::_,_,h=>by injection h
 | .bl _::_,_,h=>by injection h
 | .str _::_,_,h=>by injection h
 | .tup _::_,_,h=>by injection h
 | .lst _::_,_,h=>by injection h
 | .dI _::_,_,h=>by injection h
theorem rL:∀{xs}{ns},nu xs=some ns->xs=ns.map λt=>.tup (t.map .int)
 | [],_,h=>by simp[nu]at h;subst h;rfl
 | .tup i::r,ns,h=>by
  simp[nu,gI]at h;obtain⟨t,h0,ms,h1,rfl⟩:=h;rw[rL h1,jX h0];rfl
 | .non::_,_,h=>by injection h
 | .bl _::_,_,h=>by injection h
 | .str _::_,_,h=>by injection h
 | .int _::_,_,h=>by injection h
 | .lst _::_,_,h=>by injection h
 | .dI _::_,_,h=>by injection h
theorem lm:∀{xs}{ns},gu xs=some ns->xs=ns.map .bl
 | [],_,h=>by simp[gu]at h;subst h;rfl
 | .bl i::r,ns,h=>by
  simp[gu]at h;obtain⟨ms,h1,rfl⟩:=h;rw[lm h1];rfl
 | .non::_,_,h=>by injection h
 | .int _::_,_,h=>by injection h
 | .str _::_,_,h=>by injection h
 | .tup _::_,_,h=>by injection h
 | .lst _::_,_,h=>by injection h
 | .dI _::_,_,h=>by injection h
end
def fh{K:MP}{H:Hp}{a:Addr}{us:List V}(h:H a=some (.tup us)):SqT K H a us:=SqT.of h
def b8(K:MP)(H:Hp)(O:List Addr)(v:PV)(u:V):Prop:=
 Rep K (ah H O) v u\/(∃xs a us,v=.lst xs/\u=.ref a/\SqL K H a us/\Reps K (ah H O) xs us)\/∃kvs a,v=.dI kvs/\u=.ref a/\RdD H a kvs
section
variable{K:MP}{H H':Hp}{O:List Addr}
theorem b8.of(h:Rep K (ah H O) v u):b8 K H O v u:=.inl h
theorem b8.mono(s:ae H H')(h:b8 K H O v u):b8 K H' O v u:=by
 rcases h with h|⟨xs,a,us,J,S,q,r⟩|⟨kvs,a,J,S,q⟩
 .exact .inl (Rep.mono (aj s) _ h)
 .exact .inr (.inl ⟨xs,a,us,J,S,s.seq q,Reps.mono (aj s) _ r⟩)
 .exact .inr (.inr ⟨kvs,a,J,S,ae.rdD s q⟩)
theorem b8.lst(h:b8 K H O (.lst xs) u):∃a us,u=.ref a/\SqL K H a us/\Reps K (ah H O) xs us:=by
 rcases h with h|⟨ys,a,us,J,S,q,r⟩|⟨kvs,a,J,S,q⟩
 .rw[Rep]at h;refine au h λa us e q r=>?_
  exact⟨a,us,e,(a_ H O).seq q,r⟩
 .cases J;exact⟨a,us,S,q,r⟩
 .cases J
def b8.tupH(h:b8 K H O (.tup xs) u):∃a us,u=.ref a/\H a=some (.tup us)/\Reps K (ah H O) xs us:=by
 rcases h with h|⟨ys,a,us,J,S,q,r⟩|⟨kvs,a,J,S,q⟩
 .rw[Rep]at h;refine au h λa us e q r=>?_
  exact⟨a,us,e,a_ H O a _ q,r⟩
 .cases J
 .cases J
theorem b8.tup(h:b8 K H O (.tup xs) u):∃a us,u=.ref a/\SqT K H a us/\Reps K (ah H O) xs us:=by
 refine au h.tupH λa us e q r=>?_
 exact⟨a,us,e,SqT.of q,r⟩
def b8.tupR(h:b8 K H O (.tup xs) u):Rep K (ah H O) (.tup xs) u:=by
 rcases h with h|⟨ys,a,us,J,S,q,r⟩|⟨kvs,a,J,S,q⟩
 .exact h
 .cases J
 .cases J
theorem b8.dI(h:b8 K H O (.dI kvs) u):∃a,u=.ref a/\RdD H a kvs:=by
 rcases h with h|⟨ys,a,us,J,S,q,r⟩|⟨kvs,a,J,S,q⟩
 .rw[Rep]at h;obtain⟨a,e,q⟩:=h;exact⟨a,e,ae.rdD (a_ H O) q⟩
 .cases J
 .simp_all
theorem b8.int(h:b8 K H O (.int i) u):u=.int i:=by
 rcases h with h|⟨ys,a,us,J,S,q,r⟩|⟨kvs,a,J,S,q⟩
 .rw[Rep]at h;exact h
 .cases J
 .cases J
theorem b8.bl(h:b8 K H O (.bl i) u):u=.bl i:=by
 rcases h with h|⟨ys,a,us,J,S,q,r⟩|⟨kvs,a,J,S,q⟩
 .rw[Rep]at h;exact h
 .cases J
 .cases J
theorem b8.str(h:b8 K H O (.str i) u):u=.str i:=by
 rcases h with h|⟨ys,a,us,J,S,q,r⟩|⟨kvs,a,J,S,q⟩
 .rw[Rep]at h;exact h
 .cases J
 .cases J
theorem b8.non(h:b8 K H O .non u):u=.non:=by
 rcases h with h|⟨ys,a,us,J,S,q,r⟩|⟨kvs,a,J,S,q⟩
 .rw[Rep]at h;exact h
 .cases J
 .cases J
theorem b8.seq(h:b8 K H O v u)(e:cx v=some xs):∃a us,u=.ref a/\(SqL K H a us\/SqT K H a us)/\Reps K (ah H O) xs us:=by
 cases v<;>first|(simp[cx]at e;subst e;obtain⟨a,us,e,q,r⟩:=h.lst;exact⟨a,us,e,.inl q,r⟩)|(simp[cx]at e;subst e;obtain⟨a,us,e,q,r⟩:=h.tup;exact⟨a,us,e,.inr q,r⟩)|injection e
def b8.whole(h:b8 K H O v u):Rep K H v u:=by
 rcases h with h|⟨xs,a,us,rfl,J,q,r⟩|⟨kvs,a,rfl,J,q⟩
 .exact Rep.mono (a_ H O) _ h
 .rw[Rep];exact⟨a,us,J,q,Reps.mono (a_ H O) _ r⟩
 .rw[Rep];exact⟨a,J,q⟩
end
def IsC (K:MP) (C:Addr):Prop:=PySem.W.nsIn K mainGlobals "Table"=some (some (.ref C))
noncomputable def jo:List Str:=["hole_count","ribbons","opener"]
noncomputable def oW:List Str:=["hand_at","holes_taken_by","turn","deeds","knots","bites","free","rest","winner","take","back"]
structure ObF(K:MP)(C:Addr)(F:Hp)(fs:List PV)(l:Addr)(gs:List (Str×V)):Prop where
 cls:IsC K C
 fld:∀(n:Nat) (x:Str) (v:PV),jo[n]?=some x->fs[n]?=some v->∃u,gs.lookup x=some u/\Rep K F v u
 lst:gs.lookup ("taken":Str)=some (.ref l)
 no:∀m∈oW,gs.lookup m=none
theorem ObF.mono{K:MP}{C:Addr}{F F':Hp}{fs:List PV}{l:Addr}{gs:List (Str×V)}(s:ae F F')(h:ObF K C F fs l gs):ObF K C F' fs l gs:=
 ⟨h.cls,λn x v J S=>let ⟨u,U,Y⟩:=h.fld n x v J S;⟨u,U,Rep.mono s _ Y⟩,h.lst,h.no⟩
structure cm(K:MP)(B:Hp)(O:List Addr)(H:Hp)(fs xs:List PV)(a l:Addr):Prop where
 ob:∃C dx gs,H a=some (.ins C dx gs)/\ObF K C (ah H O) fs l gs
 li:∃us,H l=some (.lst us)/\Reps K (ah H O) xs us
 aO:a∈O
 lO:l∈O
 aB:B a=none
 lB:B l=none
 ne:a≠l
def cm.move{K:MP}{B B' H H':Hp}{O O':List Addr}{fs xs:List PV}{a l:Addr}(h:cm K B O H fs xs a l)(v:ae (ah H O) (ah H' O'))(ha:∀o,H a=some o->H' a=some o)(J:∀o,H l=some o->H' l=some o)(aO:a∈O')(lO:l∈O')(aB:B' a=none)(lB:B' l=none):cm K B' O' H' fs xs a l:=by
 obtain⟨C,dx,gs,S,U⟩:=h.ob;obtain⟨us,Y,Z⟩:=h.li;exact⟨⟨C,dx,gs,ha _ S,U.mono v⟩,⟨us,J _ Y,Reps.mono v _ Z⟩,aO,lO,aB,lB,h.ne⟩
def eG(K:MP)(B F:Hp)(fs xs:List PV)(a:Addr):Prop:=∃C dx gs l us,B a=some (.ins C dx gs)/\ObF K C F fs l gs/\SqL K B l us/\Reps K F xs us
def eG.move{K:MP}{B B' F F':Hp}{fs xs:List PV}{a:Addr}(h:eG K B F fs xs a)(b:ae B B')(v:ae F F'):eG K B' F' fs xs a:=by
 obtain⟨C,dx,gs,l,us,J,S,U,Y⟩:=h;exact⟨C,dx,gs,l,us,b _ _ J,S.mono v,b.seq U,Reps.mono v _ Y⟩
def cm.lent{K:MP}{B H:Hp}{O:List Addr}{fs xs:List PV}{a l:Addr}(h:cm K B O H fs xs a l):eG K H (ah H O) fs xs a:=by
 obtain⟨C,dx,gs,J,S⟩:=h.ob;obtain⟨us,U,Y⟩:=h.li;exact⟨C,dx,gs,l,us,J,S,SqL.of U,Y⟩
noncomputable def lOf:Option HO->Option Addr
 |some (.ins _ _ gs)=>(match gs.lookup ("taken":Str)with|some (.ref l)=>some l|_=>none)
 | _=>none
theorem cm.l{K:MP}{B H:Hp}{O:List Addr}{fs xs:List PV}{a l:Addr}(h:cm K B O H fs xs a l):lOf (H a)=some l:=by
 obtain⟨C,dx,gs,J,S⟩:=h.ob;rw[J];show(match gs.lookup ("taken":Str)with|some (.ref l)=>some l|_=>none)=some l;rw[S.lst]
abbrev DAt(_:MP)(H:Hp)(_:List Addr)(a:Addr)(d:DD):Prop:=H a=some (lW d)
theorem DAt.here{K:MP}(h:DAt K H O a d):∃o,H a=some o:=⟨_,h⟩
theorem DAt.put1{K:MP}(_:tZ d y s=some d')(h:DAt K H O a d):H a=some (lW d):=h
theorem DAt.put2{K:MP}{H:Hp}{O:List Addr}{a:Addr}{d d':DD}{y:PV}{s:Sc}(_:tZ d y s=some d')(h:H a=some (lW d')):DAt K H O a d':=h
theorem DAt.move{K:MP}{H H':Hp}{O O':List Addr}{a:Addr}{d:DD}(h:DAt K H O a d)(e:∀o,H a=some o->H' a=some o)(_:ae (ah H O) (ah H' O')):DAt K H' O' a d:=e _ h
def fj(K:MP)(B:Hp)(O:List Addr)(H:Hp):MV->V->Prop
 | .val v,u=>Rep K (ah H O) v u
 | .own xs,u=>∃a us,u=.ref a/\H a=some (.lst us)/\Reps K (ah H O) xs us/\a∈O/\B a=none
 | .brw xs,u=>∃a us,u=.ref a/\SqL K B a us/\Reps K (ah H O) xs us
 | .ownD kvs,u=>∃a,u=.ref a/\DAt K H O a kvs/\a∈O/\B a=none
 | .ownO _ fs xs,u=>∃a l,u=.ref a/\cm K B O H fs xs a l
 | .brwO fs xs,u=>∃a,u=.ref a/\eG K B (ah H O) fs xs a
 | .brwD kvs,u=>∃a,u=.ref a/\Rd B a (lW kvs)
noncomputable def fk:MV->Bool
 | .own _=>true
 | .ownD _=>true
 | .ownO _ _ _=>true
 | _=>false
def Be(H:Hp)(G:Rho)(σ:St):Prop:=∀(i:Nat) (J:MV) (a l:Addr),G[i]?=some (some J)->isL J=true->σ[i]?=some (some (.ref a))->lOf (H a)=some l->∀(j:Nat) (m:MV),j≠i->G[j]?=some (some m)->isL m=false/\∀c,fk m=true->σ[j]?=some (some (.ref c))->c≠l
def nw{H:Hp}{G:Rho}{σ:St}(h:∀(i:Nat) (m:MV),G[i]?=some (some m)->isL m=false):Be H G σ:=λi m _ _ e l=>by rw[h i m e]at l;cases l
def fM{H H':Hp}{G A:Rho}{σ U:St}(h:Be H G σ)(hL:∀(i:Nat) (J:MV),A[i]?=some (some J)->isL J=true->(∃S,G[i]?=some (some S)/\isL S=true)/\U[i]?=σ[i]?/\∀a l,σ[i]?=some (some (.ref a))->lOf (H' a)=some l->lOf (H a)=some l)
  (hj:∀(j:Nat) (m:MV) (c:Addr),A[j]?=some (some m)->isL m=false->fk m=true->U[j]?=some (some (.ref c))->(∃J,G[j]?=some (some J)/\fk J=true/\σ[j]?=some (some (.ref c)))\/∀(i:Nat) (S:MV) (a l:Addr),G[i]?=some (some S)->isL S=true->σ[i]?=some (some (.ref a))->lOf (H a)=some l->c≠l):Be H' A U:=λi J a l e1 l0 Y e3 j m Z e4=>by
 obtain⟨⟨S,f1,l1⟩,f2,f3⟩:=hL i J e1 l0;rw[f2]at Y;have f4:=f3 a l Y e3;have hl:isL m=false:=by
  cases q:isL m with
  |false=>rfl
  |true =>
   obtain⟨⟨m2,g1,g2⟩,_⟩:=hL j m e4 q;rw[(h i S a l f1 l1 Y f4 j m2 Z g1).1]at g2;cases g2
 refine⟨hl,λc o e5=>?_⟩;rcases hj j m c e4 hl o e5 with⟨J,g1,g2,g3⟩|g
 .exact(h i S a l f1 l1 Y f4 j J Z g1).2 c g2 g3
 .exact g i S a l f1 l1 Y f4
structure a7(K:MP)(B:Hp)(E O:List Addr)(H:Hp)(G:Rho)(σ:St):Prop where
 keep:ae B H
 here:∀a∈O,H a≠none
 sub:∀a∈E,a∈O
 old:∀a∈E,B a≠none
 len:G.length=σ.length
 slot:∀(i:Nat) (m:MV),G[i]?=some (some m)->∃u,σ[i]?=some (some u)/\fj K B O H m u
 apart:∀(i j:Nat) (m m':MV) (a:Addr),i≠j->G[i]?=some (some m)->G[j]?=some (some m')->fk m=true->fk m'=true->σ[i]?=some (some (.ref a))->σ[j]?≠some (some (.ref a))
 inn:Be H G σ
section
variable{K:MP}{B H H':Hp}{E O:List Addr}{G:Rho}{σ:St}
theorem fj.mono(s:ae H H'){m:MV}{u:V}(h:fj K B O H m u):fj K B O H' m u:=by
 cases m with
 |val v=>exact Rep.mono (aj s) _ h
 |own xs=>obtain⟨a,us,e,q,r,h1,h2⟩:=h;exact⟨a,us,e,s _ _ q,Reps.mono (aj s) _ r,h1,h2⟩
 |brw xs=>obtain⟨a,us,e,q,r⟩:=h;exact⟨a,us,e,q,Reps.mono (aj s) _ r⟩
 |ownD kvs=>obtain⟨a,e,q,h1,h2⟩:=h;exact⟨a,e,q.move (s _) (aj s),h1,h2⟩
 |ownO _ fs xs=>obtain⟨a,l,e,q⟩:=h;exact⟨a,l,e,q.move (aj s) (λ_=>s _ _) (λ_=>s _ _) q.aO q.lO q.aB q.lB⟩
 |brwO fs xs=>obtain⟨a,e,q⟩:=h;exact⟨a,e,q.move (ae.refl B) (aj s)⟩
 |brwD kvs=>exact h
theorem a7.mono(s:ae H H')(h:a7 K B E O H G σ):a7 K B E O H' G σ where
 keep:=h.keep.trans s
 here:=λa ha e=>h.here a ha (s.free e)
 sub:=h.sub
 old:=h.old
 len:=h.len
 slot:=λi m e=>let ⟨u,J,q⟩:=h.slot i m e;⟨u,J,q.mono s⟩
 apart:=h.apart
 inn:=fM h.inn (λi S e U=>⟨⟨S,e,U⟩,rfl,λa l J Y=>by
  obtain⟨u,Z,q⟩:=h.slot i _ e;rw[J]at Z;cases Z;cases S<;>try (cases U;done)
  obtain⟨a',l',e4,q⟩:=q;cases e4;obtain⟨C,dx,gs,e5,_⟩:=q.ob;rw[s _ _ e5]at Y;rw[e5];exact Y⟩) λj m c e _ o J=>.inl ⟨m,e,o,J⟩
theorem fj.bor{m:MV}{u:V}{v:PV}(J:ae B H)(h:fj K B O H m u)(e:ce (some m)=some v):b8 K H O v u:=by
 cases m with
 |val w=>simp[ce]at e;subst e;exact .inl h
 |own xs=>simp[ce]at e;subst e;obtain⟨a,us,e,q,r,_⟩:=h;exact .inr (.inl ⟨xs,a,us,rfl,e,SqL.of q,r⟩)
 |brw xs=>simp[ce]at e;subst e;obtain⟨a,us,e,q,r⟩:=h;exact .inr (.inl ⟨xs,a,us,rfl,e,J.seq q,r⟩)
 |ownD kvs=>simp[ce]at e;subst e;obtain⟨a,e,q,_⟩:=h;exact .inr (.inr ⟨kvs,a,rfl,e,.inl q⟩)
 |ownO _ _ _=>simp[ce]at e
 |brwO _ _=>simp[ce]at e
 |brwD kvs=>simp[ce]at e;subst e;obtain⟨a,e,q⟩:=h;exact .inr (.inr ⟨kvs,a,rfl,e,ae.rd J q⟩)
end
def join_some{α:Type}{o:Option (Option α)}{x:α}(h:o.join=some x):o=some (some x):=by
 cases o<;>simp_all
structure Tab where
 fs:List Str
 gs:List (Str×PV)
 ds:List (List Sc)
 ms:List (Option Str)
noncomputable def Ew(sc:Scope)(x:Str):Bool:=sc.names.lookup x==some .local||sc.names.lookup x==some .cell||sc.names.lookup x==some .free
noncomputable def hU(sc:Scope)(x:Str):Bool:=sc.names.lookup x==some .local||sc.names.lookup x==some .cell
noncomputable def glB(sc:Scope)(x:Str):Bool:=sc.names.lookup x==some .globalImplicit
noncomputable def aJ (x:Str):Bool:=!(x==("__debug__":Str))&&!(x==("__classdict__":Str))&&!(x==("__name__":Str))
noncomputable def aD(N:List Str)(sc:Scope)(i:Nat)(x:Str):Bool:=N[i]?==some x&&Ew sc x&&aJ x
noncomputable def onQ{α:Type}:Option α->(α->Bool)->Bool
 |some a,f=>f a
 |none,_=>false
def aw(h:onQ o f=true):∃a,o=some a/\f a=true:=by
 cases o with
 |none=>exact dD h
 |some a=>exact⟨a,rfl,h⟩
def iB{α:Type}{P:Prop}{x:α}(h:none=some x):P:=by cases h
def eI{α J:Type}{o:Option α}{f:α->Option J}{b:J}(h:o.bind f=some b):∃a,o=some a/\f a=some b:=gI.mp h
noncomputable def okQ{α:Type}(b:Bool)(x:α):Option α:=if b=true then some x else none
def qa(h:okQ b x=some y):b=true/\x=y:=by
 cases b with
 |false=>exact bn h
 |true=>cases h;exact⟨rfl,rfl⟩
noncomputable def nz{α:Type}:List α->Option α
 | [x]=>some x
 | _=>none
def eR(h:nz l=some x):l=[x]:=by
 rcases l with _|⟨a,_|⟨b,l⟩⟩<;>cases h
 rfl
noncomputable def Bf{α:Type}:List α->Option (α×α)
 | [x,y]=>some (x,y)
 | _=>none
def qb(h:Bf l=some q):l=[q.1,q.2]:=by
 rcases l with _|⟨a,_|⟨b,_|⟨c,l⟩⟩⟩<;>cases h
 rfl
structure Vw where
 nmP:Option (Str×Pos)
 caP:Option (Expr×List Expr×List Keyword×Pos)
 atP:Option (Expr×Str×Pos)
 biP:Option (Expr×Operator×Expr×Pos)
 suP:Option (Expr×Expr×Pos)
 lcP:Option (Expr×List Comprehension×Scope×Pos)
 coP:Option (Expr×List CmpOp×List Expr×Pos)
 ctP:Option (Const×Nat×Pos)
 tuP:Option (List Expr×Nat×Pos)
 liP:Option (List Expr×Pos)
 unP:Option (UnaryOp×Expr×Pos)
 boP:Option (BoolOp×List Expr×Pos)
 ifP:Option (Expr×Expr×Expr×Pos)
 slP:Option (Option Expr×Option Expr×Option Expr×Pos)
 diP:Option (List (Option Expr)×List Expr×Pos)
noncomputable def vw:Expr->Vw
 | .Name x p=>⟨some (x,p),none,none,none,none,none,none,none,none,none,none,none,none,none,none⟩
 | .Call f as ks p=>⟨none,some (f,as,ks,p),none,none,none,none,none,none,none,none,none,none,none,none,none⟩
 | .Attribute o m p=>⟨none,none,some (o,m,p),none,none,none,none,none,none,none,none,none,none,none,none⟩
 | .BinOp l o r p=>⟨none,none,none,some (l,o,r,p),none,none,none,none,none,none,none,none,none,none,none⟩
 | .Subscript v s p=>⟨none,none,none,none,some (v,s,p),none,none,none,none,none,none,none,none,none,none⟩
 | .ListComp e g s p=>⟨none,none,none,none,none,some (e,g,s,p),none,none,none,none,none,none,none,none,none⟩
 | .Compare l o r p=>⟨none,none,none,none,none,none,some (l,o,r,p),none,none,none,none,none,none,none,none⟩
 | .Constant c j p=>⟨none,none,none,none,none,none,none,some (c,j,p),none,none,none,none,none,none,none⟩
 | .Tuple xs j p=>⟨none,none,none,none,none,none,none,none,some (xs,j,p),none,none,none,none,none,none⟩
 | .List xs p=>⟨none,none,none,none,none,none,none,none,none,some (xs,p),none,none,none,none,none⟩
 | .UnaryOp o e p=>⟨none,none,none,none,none,none,none,none,none,none,some (o,e,p),none,none,none,none⟩
 | .BoolOp o vs p=>⟨none,none,none,none,none,none,none,none,none,none,none,some (o,vs,p),none,none,none⟩
 | .IfExp t x y p=>⟨none,none,none,none,none,none,none,none,none,none,none,none,some (t,x,y,p),none,none⟩
 | .Slice l u s p=>⟨none,none,none,none,none,none,none,none,none,none,none,none,none,some (l,u,s,p),none⟩
 | .Dict ks vs p=>⟨none,none,none,none,none,none,none,none,none,none,none,none,none,none,some (ks,vs,p)⟩
 | _=>⟨none,none,none,none,none,none,none,none,none,none,none,none,none,none,none⟩
noncomputable def nmP(e:Expr):Option (Str×Pos):=(vw e).nmP
def fN(h:nmP e=some q):e=.Name q.1 q.2:=by
 revert h;cases e<;>first|exact iB|(rintro ⟨⟩;rfl)
noncomputable def caP(e:Expr):Option (Expr×List Expr×List Keyword×Pos):=(vw e).caP
def yy(h:caP e=some q):e=.Call q.1 q.2.1 q.2.2.1 q.2.2.2:=by
 revert h;cases e<;>first|exact iB|(rintro ⟨⟩;rfl)
noncomputable def atP(e:Expr):Option (Expr×Str×Pos):=(vw e).atP
def Ex(h:atP e=some q):e=.Attribute q.1 q.2.1 q.2.2:=by
 revert h;cases e<;>first|exact iB|(rintro ⟨⟩;rfl)
noncomputable def biP(e:Expr):Option (Expr×Operator×Expr×Pos):=(vw e).biP
def Ey(h:biP e=some q):e=.BinOp q.1 q.2.1 q.2.2.1 q.2.2.2:=by
 revert h;cases e<;>first|exact iB|(rintro ⟨⟩;rfl)
noncomputable def suP(e:Expr):Option (Expr×Expr×Pos):=(vw e).suP
def qc(h:suP e=some q):e=.Subscript q.1 q.2.1 q.2.2:=by
 revert h;cases e<;>first|exact iB|(rintro ⟨⟩;rfl)
noncomputable def lcP(e:Expr):Option (Expr×List Comprehension×Scope×Pos):=(vw e).lcP
def t6(h:lcP e=some q):e=.ListComp q.1 q.2.1 q.2.2.1 q.2.2.2:=by
 revert h;cases e<;>first|exact iB|(rintro ⟨⟩;rfl)
noncomputable def coP(e:Expr):Option (Expr×List CmpOp×List Expr×Pos):=(vw e).coP
def Ez(h:coP e=some q):e=.Compare q.1 q.2.1 q.2.2.1 q.2.2.2:=by
 revert h;cases e<;>first|exact iB|(rintro ⟨⟩;rfl)
noncomputable def ctP(e:Expr):Option (Const×Nat×Pos):=(vw e).ctP
def EA(h:ctP e=some q):e=.Constant q.1 q.2.1 q.2.2:=by
 revert h;cases e<;>first|exact iB|(rintro ⟨⟩;rfl)
noncomputable def tuP(e:Expr):Option (List Expr×Nat×Pos):=(vw e).tuP
def EB(h:tuP e=some q):e=.Tuple q.1 q.2.1 q.2.2:=by
 revert h;cases e<;>first|exact iB|(rintro ⟨⟩;rfl)
noncomputable def liP(e:Expr):Option (List Expr×Pos):=(vw e).liP
def yz(h:liP e=some q):e=.List q.1 q.2:=by
 revert h;cases e<;>first|exact iB|(rintro ⟨⟩;rfl)
noncomputable def unP(e:Expr):Option (UnaryOp×Expr×Pos):=(vw e).unP
def yA(h:unP e=some q):e=.UnaryOp q.1 q.2.1 q.2.2:=by
 revert h;cases e<;>first|exact iB|(rintro ⟨⟩;rfl)
noncomputable def boP(e:Expr):Option (BoolOp×List Expr×Pos):=(vw e).boP
def yB(h:boP e=some q):e=.BoolOp q.1 q.2.1 q.2.2:=by
 revert h;cases e<;>first|exact iB|(rintro ⟨⟩;rfl)
noncomputable def ifP(e:Expr):Option (Expr×Expr×Expr×Pos):=(vw e).ifP
def EC(h:ifP e=some q):e=.IfExp q.1 q.2.1 q.2.2.1 q.2.2.2:=by
 revert h;cases e<;>first|exact iB|(rintro ⟨⟩;rfl)
noncomputable def slP(e:Expr):Option (Option Expr×Option Expr×Option Expr×Pos):=(vw e).slP
def ED(h:slP e=some q):e=.Slice q.1 q.2.1 q.2.2.1 q.2.2.2:=by
 revert h;cases e<;>first|exact iB|(rintro ⟨⟩;rfl)
noncomputable def asP:Stmt->Option (List Expr×Expr×Pos)
 | .Assign J v p=>some (J,v,p)
 | _=>none
def yC(h:asP s=some q):s=.Assign q.1 q.2.1 q.2.2:=by
 revert h;cases s<;>first|exact iB|(rintro ⟨⟩;rfl)
noncomputable def wR(e:Expr):Option (Str×List Expr):=(caP e).bind λc=>(nmP c.1).bind λx=>okQ c.2.2.1.isEmpty (x.1,c.2.1)
def iT(h:wR e=some q):∃p cp,e=.Call (.Name q.1 p) q.2 [] cp:=by
 refine ag (eI h) λc h1 h=>?_
 refine ag (eI h) λx h2 h=>?_
 obtain⟨h3,rfl⟩:=qa h;exact⟨_,_,by rw[yy h1,fN h2,MK.mp h3]⟩
noncomputable def EE(e:Expr):Option (Str×Expr):=(wR e).bind λc=>(nz c.2).bind λa=>some (c.1,a)
def vk(h:EE e=some q):∃p cp,e=.Call (.Name q.1 p) [q.2] [] cp:=by
 refine ag (eI h) λc h1 h=>?_
 refine ag (eI h) λa h2 h=>?_
 cases h;refine oB (iT h1) λp cp J=>?_
 subst J;exact⟨p,cp,by rw[eR h2]⟩
noncomputable def maP(e:Expr):Option (Expr×Str×Pos×List Expr×Pos):=(caP e).bind λc=>(atP c.1).bind λa=>okQ c.2.2.1.isEmpty (a.1,a.2.1,a.2.2,c.2.1,c.2.2.2)
def yD(h:maP e=some q):e=.Call (.Attribute q.1 q.2.1 q.2.2.1) q.2.2.2.1 [] q.2.2.2.2:=by
 refine ag (eI h) λc h1 h=>?_
 refine ag (eI h) λx h2 h=>?_
 obtain⟨h3,rfl⟩:=qa h;rw[yy h1,Ex h2,MK.mp h3]
noncomputable def maN(e:Expr):Option (Str×Str×Pos×List Expr×Pos):=(maP e).bind λa=>(nmP a.1).bind λx=>some (x.1,a.2.1,a.2.2.1,a.2.2.2.1,a.2.2.2.2)
def yE(h:maN e=some q):∃p,e=.Call (.Attribute (.Name q.1 p) q.2.1 q.2.2.1) q.2.2.2.1 [] q.2.2.2.2:=by
 refine ag (eI h) λc h1 h=>?_
 refine ag (eI h) λx h2 h=>?_
 cases h;exact⟨x.2,by rw[yD h1,fN h2]⟩
noncomputable def wS(e:Expr):Option (Expr×CmpOp×Expr):=(coP e).bind λc=>(nz c.2.1).bind λo=>(nz c.2.2.1).bind λr=>some (c.1,o,r)
def qd(h:wS e=some q):∃pos,e=.Compare q.1 [q.2.1] [q.2.2] pos:=by
 refine ag (eI h) λc h1 h=>?_
 refine ag (eI h) λx h2 h=>?_
 refine ag (eI h) λy h3 h=>?_
 cases h;exact⟨c.2.2.2,by rw[Ez h1,eR h2,eR h3]⟩
noncomputable def Hc(e:Expr):Option (Expr×Option Expr×Option Expr):=(suP e).bind λc=>(slP c.2.1).bind λs=>okQ s.2.2.1.isNone (c.1,s.1,s.2.1)
def Bg(h:Hc e=some q):∃p pos,e=.Subscript q.1 (.Slice q.2.1 q.2.2 none p) pos:=by
 refine ag (eI h) λc h1 h=>?_
 refine ag (eI h) λx h2 h=>?_
 obtain⟨h3,rfl⟩:=qa h;exact⟨_,_,by rw[qc h1,ED h2,isNone_iff_eq_none.mp h3]⟩
noncomputable def lcX(e:Expr):Option (Expr×Scope×(Str×Pos)×Expr×List Expr):=(lcP e).bind λc=>(nz c.2.1).bind λg=>(nmP g.target).bind λx=>okQ (g.is_async==0) (c.1,c.2.2.1,x,g.iter,g.ifs)
def EF(h:lcX e=some q):∃pos,e=.ListComp q.1 [⟨.Name q.2.2.1.1 q.2.2.1.2,q.2.2.2.1,q.2.2.2.2,0⟩] q.2.1 pos:=by
 refine ag (eI h) λc h1 h=>?_
 obtain⟨⟨tg,it,is,as⟩,h2,h⟩:=eI h;refine ag (eI h) λx h3 h=>?_
 obtain⟨h4,rfl⟩:=qa h;exact⟨c.2.2.2,by rw[t6 h1,eR h2,fN (e:=tg) h3,show as=0 from eq_of_beq h4]⟩
noncomputable def diP(e:Expr):Option (List (Option Expr)×List Expr×Pos):=(vw e).diP
def EG{e:Expr}{q:List (Option Expr)×List Expr×Pos}(h:diP e=some q):e=.Dict q.1 q.2.1 q.2.2:=by
 revert h;cases e<;>first|exact iB|(rintro ⟨⟩;rfl)
noncomputable def exP:Stmt->Option (Expr×Pos)
 | .Expr e p=>some (e,p)
 | _=>none
def EH(h:exP s=some q):s=.Expr q.1 q.2:=by
 revert h;cases s<;>first|exact iB|(rintro ⟨⟩;rfl)
noncomputable def reP:Stmt->Option (Option Expr×Pos)
 | .Return v p=>some (v,p)
 | _=>none
def EI(h:reP s=some q):s=.Return q.1 q.2:=by
 revert h;cases s<;>first|exact iB|(rintro ⟨⟩;rfl)
noncomputable def aZ:ME->Bool
 | .bor _=>true
 | .fldL _=>true
 | _=>false
def t7{m:ME}(h:aZ m=true):(∃i,m=.bor i)\/∃i,m=.fldL i:=by
 cases m<;>first|(cases h;done)|exact .inl ⟨_,rfl⟩|exact .inr ⟨_,rfl⟩
noncomputable def nA:Expr->Option (Str×Str)
 | .Attribute (.Name y _) m _=>some (y,m)
 | _=>none
def jY{e:Expr}{q:Str×Str}(h:nA e=some q):∃p ap,e=.Attribute (.Name q.1 p) q.2 ap:=by
 unfold nA at h;split at h
 .cases h;exact⟨_,_,rfl⟩
 .cases h
noncomputable def yF(e:Expr):Option (Str×Str×List Expr×Pos×Pos):=(maN e).bind λa=>some (a.1,a.2.1,a.2.2.2.1,a.2.2.1,a.2.2.2.2)
def qe{e:Expr}{q:Str×Str×List Expr×Pos×Pos}(h:yF e=some q):∃p,e=.Call (.Attribute (.Name q.1 p) q.2.1 q.2.2.2.1) q.2.2.1 [] q.2.2.2.2:=by
 obtain⟨x,h1,h⟩:=eI h;cases h;exact yE h1
noncomputable def rM(N:List Str)(sc:Scope)(ms:List (Option Str))(f i:Nat)(J:List Expr->Bool)(q:Str×Str×List Expr×Pos×Pos):Bool:=ms[f]?==some (some q.2.1)&&oW.contains q.2.1&&aD N sc i q.1&&J q.2.2.1&&q.2.2.2.1.endLine==q.2.2.2.2.line&&decide (q.2.2.1.length<30)
noncomputable def EJ:Op2->Operator
 | .add=>.Add|.sub=>.Sub|.mul=>.Mult|.fdiv=>.FloorDiv|.mod=>.Mod|.pow=>.Pow|.shr=>.RShift
noncomputable def hV:Cp->CmpOp
 | .eq=>.Eq|.ne=>.NotEq|.lt=>.Lt|.le=>.LtE|.gt=>.Gt|.ge=>.GtE|.isN=>.Is|.notN=>.IsNot|.isIn=>.In|.notIn=>.NotIn
noncomputable def t8:PV->Const->Bool
 | .non,.none=>true
 | .bl a,.bool b=>a==b
 | .int a,.int b=>a==b
 | .str a,.str b=>a==b
 | _,_=>false
noncomputable def CG:PV->PV->Bool
 | .non,.non=>true
 | .bl a,.bl b=>a==b
 | .int a,.int b=>a==b
 | .str a,.str b=>a==b
 | _,_=>false
noncomputable def CH(gs:List (Str×PV))(x:Str)(v:PV):Bool:=gs.any λp=>p.1==x&&CG p.2 v
noncomputable def aE:Expr->Bool
 | .Starred ..=>false
 | _=>true
noncomputable def ln:Expr->Bool
 | .Set ..=>false
 | _=>true
noncomputable def eX:Expr->Bool
 | .Slice ..=>false
 | _=>true
noncomputable def c6:Expr->Bool
 | .ListComp ..=>false
 | .SetComp ..=>false
 | .DictComp ..=>false
 | _=>true
noncomputable def wT:Expr->Bool
 | .UnaryOp .Not _ _=>false
 | .BoolOp ..=>false
 | .IfExp ..=>false
 | .Compare ..=>false
 | _=>true
noncomputable def rN:Blt->String
 | .len=>"len" | .tupleOf=>"tuple" | .listOf=>"list" | .sorted=>"sorted" | .any=>"any" | .all=>"all" | .sum=>"sum" | .max1=>"max" | .min1=>"min" | .max2=>"max" | .min2=>"min"
 | .intOf=>"int" | .boolOf=>"bool" | .isInt=>"isinstance" | .isBool=>"isinstance" | .isStr=>"isinstance" | .isList=>"isinstance" | .isTuple=>"isinstance" | .sortedKeys=>"sorted" | .valuesOf=>"list" | .sortedSet=>"sorted" | .lenSet=>"len" | .lenSetSub=>"len" | .tupleRev=>"tuple"
noncomputable def dS:Blt->Option String
 | .isInt=>some "int" | .isBool=>some "bool" | .isStr=>some "str" | .isList=>some "list" | .isTuple=>some "tuple"
 | _=>none
noncomputable def lq:Blt->Option Nat
 | .len|.tupleOf|.listOf|.sorted|.any|.all|.sum|.intOf|.boolOf|.max1|.sortedKeys=>some 1
 | .max2|.min2=>some 2
 | _=>none
noncomputable def jZ(osc:Scope)(N:List Str)(scope:Scope)(x:Str)(fvs:List Str)(js:List Nat):Bool:=
 decide (∀y∈scope.names,y.2=.cell->y.1=x)&&decide (scope.names.lookup x=some .local/\(scope.names.filter λy=>y.2==.cell)=[]\/scope.names.lookup x=some .cell/\(scope.names.filter λy=>y.2==.cell)=[(x,.cell)])
 &&decide (∀y∈scope.names,y.2=.free->y.1≠x)&&scope.kind==.function&&decide (∀y∈scope.names,y.2=.local->scope.names.lookup y.1=some .local)
 &&decide ((x::fvs).Nodup)&&decide (∀y∈scope.names,y.2=.free->osc.names.lookup y.1=some .cell\/osc.names.lookup y.1=some .free)&&decide ((js.map λj=>N[j]?)=fvs.map some)
 &&decide (∀y∈fvs,scope.names.lookup y=some .free)
noncomputable def fQ(N:List Str)(js:List Nat):List Str:=js.map λj=>(N[j]?).getD Str.empty
noncomputable def qf(sc:Scope)(tup:Bool)(f:List Expr->Bool):Sk->Expr->Bool
 | .seq,it=>ln it&&f [it]
 | .rng,it=>onQ (wR it) λc=>c.1==("range":Str)&&glB sc c.1&&f c.2&&(c.2.length==1||c.2.length==2)
 | .rev,_=>false
 | .enm,it=>onQ (EE it) λc=>tup&&c.1==("enumerate":Str)&&glB sc c.1&&f [c.2]&&aE c.2
noncomputable def rO(sc:Scope)(f:List Expr->Bool)(n:Nat)(c:String)(args:List Expr):Bool:=onQ (Bf args) λa=>onQ (nmP a.2) λt=>t.1==(c:Str)&&glB sc t.1&&f [a.1]&&n==1
noncomputable def EK(sc:Scope)(f:List Expr->Bool)(n:Nat)(g:Str)(args:List Expr):Bool:=onQ (nz args) λa=>onQ (EE a) λc=>c.1==g&&glB sc c.1&&f [c.2]&&n==1
noncomputable def yG:Expr->Bool
 | .Name _ _=>true
 | .Call _ (_::_) _ _=>true
 | _=>false
noncomputable def vn(sc:Scope)(f:List Expr->Bool)(n:Nat)(b:Blt)(args:List Expr):Bool:=match b with
 | .sortedSet=>false
 | .lenSet=>false
 | .lenSetSub=>false
 | .tupleRev=>false
 | .valuesOf=>false
 | .max1=>false
 | .sum=>false
 | .max2=>false
 | .min2=>false
 | .intOf=>false
 | .boolOf=>false
 | .isStr=>false
 | .isList=>false
 |b=>match dS b with
  |some c=>rO sc f n c args
  |none=>lq b==some n&&f args
noncomputable def lr:ME->Bool
 | .cst .non=>true
 | _=>false
noncomputable def qg(f:Expr->Bool)(non:Bool):Option Expr->Bool
 |none=>non
 |some l=>f l&&!non
noncomputable def vo(f:Expr->Bool)(m:ME):List Expr->Bool
 | []=>(match m with|.cst (.bl true)=>true|_=>false)
 | [c]=>f c
 | _=>false
noncomputable def Hd(f:Expr->Bool)(op:BoolOp)(pos:Pos)(y:Expr):List Expr->Bool
 | []=>f y
 |z::r=>f (.BoolOp op (y::z::r) pos)
noncomputable def EL(g f:Expr->Bool)(op:BoolOp)(pos:Pos):List Expr->Bool
 |x::y::r=>g x&&Hd f op pos y r
 | _=>false
def vp(h:EL g f op pos vs=true):(∃x y,vs=[x,y]/\g x=true/\f y=true)\/∃x y z r,vs=x::y::z::r/\g x=true/\f (.BoolOp op (y::z::r) pos)=true:=by
 rcases vs with _|⟨x,_|⟨y,_|⟨z,r⟩⟩⟩
 .exact dD h
 .exact dD h
 .exact .inl ⟨x,y,rfl,pb.mp h⟩
 .exact .inr ⟨x,y,z,r,rfl,pb.mp h⟩
mutual
noncomputable def chk(T:Tab):ME->List Str->Scope->Expr->Bool
 | .var i,N,sc,J=>onQ (nmP J) λx=>aD N sc i x.1
 | .bor i,N,sc,J=>onQ (nmP J) λx=>aD N sc i x.1
 | .cst v,_,_,J=>onQ (ctP J) λc=>t8 v c.1
 | .glob x v,_,sc,J=>onQ (nmP J) λy=>x==y.1&&glB sc x&&CH T.gs x v&&aJ x
 | .bin op a b,N,sc,J=>onQ (biP J) λq=>q.2.1==EJ op&&chk T a N sc q.1&&chk T b N sc q.2.2.1
 | .neg a,N,sc,J=>onQ (unP J) λq=>q.1==.USub&&chk T a N sc q.2.1
 | .not a,N,sc,J=>onQ (unP J) λq=>q.1==.Not&&chk T a N sc q.2.1
 | .and a b,N,sc,J=>onQ (boP J) λq=>q.1==.And&&EL (λe=>chk T a N sc e) (λe=>chk T b N sc e) .And q.2.2 q.2.1
 | .or a b,N,sc,J=>onQ (boP J) λq=>q.1==.Or&&EL (λe=>chk T a N sc e) (λe=>chk T b N sc e) .Or q.2.2 q.2.1
 | .ite c a b,N,sc,J=>onQ (ifP J) λq=>chk T c N sc q.1&&chk T a N sc q.2.1&&chk T b N sc q.2.2.1&&!aZ a&&!aZ b
 | .cmp op a b,N,sc,J=>onQ (wS J) λq=>q.2.1==hV op&&chk T a N sc q.1&&chk T b N sc q.2.2&&!behindInMarks q.2.1 q.2.2
 | .chain op S a b c,N,sc,J=>(match J with|.Compare l [o,o'] [m,r] _=>o==hV op&&o'==hV S&&chk T a N sc l&&chk T b N sc m&&chk T c N sc r&&!lastMarks [o,o'] [m,r]|_=>false)
 | .tup es,N,sc,J=>onQ (tuP J) λq=>chks T es N sc q.1&&es.all (λe=>!aZ e)
 | .lst es,N,sc,J=>onQ (liP J) λq=>chks T es N sc q.1&&es.all (λe=>!aZ e)
 | .idx a i,N,sc,J=>onQ (suP J) λq=>chk T a N sc q.1&&chk T i N sc q.2.1&&eX q.2.1
 | .slice a lo hi,N,sc,J=>onQ (Hc J) λq=>chk T a N sc q.1&&qg (λe=>chk T lo N sc e) (lr lo) q.2.1&&qg (λe=>chk T hi N sc e) (lr hi) q.2.2
 | .blt b es,N,sc,J=>onQ (wR J) λq=>q.1==(rN b:Str)&&glB sc q.1&&vn sc (λxs=>chks T es N sc xs) es.length b q.2
 | .call f es,N,sc,J=>onQ (wR J) λq=>T.fs[f]?==some q.1&&glB sc q.1&&aJ q.1&&chks T es N sc q.2
 | .callD _ _ _,_,_,_=>false
 | .comp k src js cond elt,N,sc,J=>onQ (lcX J) λq=>jZ sc N q.2.1 q.2.2.1.1 (fQ N js) js&&qf sc false (λxs=>chks T src N sc xs) k q.2.2.2.1&&vo (λc=>chk T cond (q.2.2.1.1::fQ N js) (on q.2.1 sc) c) cond q.2.2.2.2&&chk T elt (q.2.2.1.1::fQ N js) (on q.2.1 sc) q.1&&!aZ elt
 | .dget a k d,N,sc,J=>onQ (maP J) λc=>onQ (Bf c.2.2.2.1) λz=>c.2.1==("get":Str)&&yG c.1&&c.2.2.1.endLine==c.2.2.2.2.line&&chk T a N sc c.1&&chk T k N sc z.1&&chk T d N sc z.2&&aE z.1&&aE z.2
 | .dat a k,N,sc,J=>onQ (suP J) λq=>chk T a N sc q.1&&chk T k N sc q.2.1&&eX q.2.1
 | .dIn neg k a,N,sc,J=>onQ (wS J) λq=>q.2.1==(if neg=true then CmpOp.NotIn else CmpOp.In)&&chk T k N sc q.1&&chk T a N sc q.2.2&&!behindInMarks q.2.1 q.2.2
 | .fld i n,N,sc,J=>onQ (nA J) λq=>jo[n]?==some q.2&&aD N sc i q.1
 | .fldL i,N,sc,J=>onQ (nA J) λq=>q.2==("taken":Str)&&aD N sc i q.1
 | .inO neg e i,N,sc,J=>onQ (wS J) λz=>onQ (nA z.2.2) λq=>z.2.1==(if neg=true then CmpOp.NotIn else CmpOp.In)&&chk T e N sc z.1&&q.2==("taken":Str)&&aD N sc i q.1
 | .callV _ _,_,_,_=>false
 | .comp2 _ _ _ _,_,_,_=>false
 | .callM f i es,N,sc,J=>onQ (yF J) λq=>rM N sc T.ms f i (λxs=>chks T es N sc xs) q
noncomputable def chks(T:Tab):List ME->List Str->Scope->List Expr->Bool
 | [],_,_,[]=>true
 |m::ms,N,sc,e::es=>chk T m N sc e&&aE e&&chks T ms N sc es
 | _,_,_,_=>false
end
def yH(T)(op J)(a b c)(N)(sc)(S):chk T (.chain op J a b c) N sc S=(match S with|.Compare l [o,o'] [m,r] _=>o==hV op&&o'==hV J&&chk T a N sc l&&chk T b N sc m&&chk T c N sc r&&!lastMarks [o,o'] [m,r]|_=>false):=rfl
def qh(h:chk T (.bor i) N sc e=true):∃x p,e=.Name x p/\aD N sc i x=true:=by
 replace h:=aw h
 refine ag h λx h1 h=>?_
 exact⟨x.1,x.2,fN h1,h⟩
def cW(h:chks T (m::ms) N sc (e::es)=true):(chk T m N sc e=true/\aE e=true)/\chks T ms N sc es=true:=by
 obtain⟨a,b⟩:=pb.mp h;exact⟨pb.mp a,b⟩
def lu{cond elt:ME}(h:chk T (.comp J src js cond elt) N sc S=true):∃e x px it ifs scope pos,S=.ListComp e [⟨.Name x px,it,ifs,0⟩] scope pos /\
  (jZ sc N scope x (fQ N js) js&&qf sc false (λxs=>chks T src N sc xs) J it&&vo (λc=>chk T cond (x::fQ N js) (on scope sc) c) cond ifs&&chk T elt (x::fQ N js) (on scope sc) e&&!aZ elt)=true:=by
 replace h:=aw h
 obtain⟨q,w,h⟩:=h;obtain⟨pos,rfl⟩:=EF w;exact⟨_,_,_,_,_,_,_,rfl,h⟩
noncomputable def jp:ME->Bool
 | .lst _=>true
 | .comp ..=>true
 | .blt .listOf _=>true
 | .blt .sorted _=>true
 | .blt .sortedSet _=>true
 | .blt .sortedKeys _=>true
 | .blt .valuesOf _=>true
 | _=>false
noncomputable def CI(sc:Scope)(t:Str)(tpos:Pos)(e:Expr):Bool:=onQ (lcP e) λq=>sc.names.lookup t==some .local&&tpos.line==q.2.2.2.line&&!(q.2.2.1.names.any λ(n,k)=>n==t&&(k==.local||k==.cell))
noncomputable def JT:ME->Bool
 | .comp2 ..=>true
 | _=>false
noncomputable def oX(sc:Scope)(t:Str)(tpos:Pos)(v:Expr)(e:ME):Bool:=CI sc t tpos v&&!JT e
noncomputable def eS(N:List Str)(sc:Scope):List Nat->List Expr->Bool
 | [],[]=>true
 |i::is,.Name x _::es=>N[i]?==some x&&hU sc x&&aJ x&&eS N sc is es
 | _,_=>false
def qi(N)(sc)(i)(is)(x)(p)(es):eS N sc (i::is) (.Name x p::es)=(N[i]?==some x&&hU sc x&&aJ x&&eS N sc is es):=rfl
noncomputable def wU(s:Stmt):Option (Str×Pos×Expr):=(asP s).bind λc=>(nz c.1).bind λu=>(nmP u).bind λx=>some (x.1,x.2,c.2.1)
def j7(h:wU s=some q):∃pos,s=.Assign [.Name q.1 q.2.1] q.2.2 pos:=by
 refine ag (eI h) λc h1 h=>?_
 refine ag (eI h) λu h2 h=>?_
 refine ag (eI h) λx h3 h=>?_
 cases h;exact⟨c.2.2,by rw[yC h1,eR h2,fN h3]⟩
noncomputable def Bh(s:Stmt):Option (Str×Str×Pos×List Expr×Pos):=(exP s).bind λa=>maN a.1
def qj(h:Bh s=some q):∃p pos,s=.Expr (.Call (.Attribute (.Name q.1 p) q.2.1 q.2.2.1) q.2.2.2.1 [] q.2.2.2.2) pos:=by
 refine ag (eI h) λx h1 h=>?_
 obtain⟨p,e⟩:=yE h;exact⟨p,x.2,by rw[EH h1,e]⟩
noncomputable def He(s:Stmt):Option (Str×Expr×Expr):=(asP s).bind λc=>(nz c.1).bind λu=>(suP u).bind λw=>(nmP w.1).bind λx=>some (x.1,w.2.1,c.2.1)
def Bi(h:He s=some q):∃p sp pos,s=.Assign [.Subscript (.Name q.1 p) q.2.1 sp] q.2.2 pos:=by
 refine cw λS J=>?_
 refine ag (eI h) λc h1 h=>?_
 refine ag (eI h) λu h2 h=>?_
 refine ag (eI h) λw h3 h=>?_
 refine ag (eI h) λx h4 h=>?_
 cases h;refine J ?_;exact⟨x.2,w.2.2,c.2.2,by rw[yC h1,eR h2,qc h3,fN h4]⟩
noncomputable def Bj(s:Stmt):Option (Expr):=(reP s).bind λc=>c.1
def qk(h:Bj s=some v):∃pos,s=.Return (some v) pos:=by
 refine ag (eI h) λc h1 h=>?_
 exact⟨c.2,by rw[EI h1,h]⟩
noncomputable def CJ(e:Expr):Option (Str):=(nmP e).bind λx=>some x.1
def yI(h:CJ e=some x):∃p,e=.Name x p:=by
 refine ag (eI h) λx h1 h=>?_
 cases h;exact⟨x.2,fN h1⟩
noncomputable def CK(e:Expr):Bool:=onQ (diP e) λd=>d.1.isEmpty&&d.2.1.isEmpty
def yJ(h:CK e=true):∃p,e=.Dict [] [] p:=by
 replace h:=aw h
 refine ag h λd h1 h=>?_
 obtain⟨h2,h3⟩:=pb.mp h;exact⟨d.2.2,by rw[EG h1,MK.mp h2,MK.mp h3]⟩
noncomputable def EM:Stmt->Option (Str×Str×Str×Pos×List Expr×Pos)
 | .Expr (.Call (.Attribute (.Attribute (.Name x _) f _) m ap) args [] cp) _=>some (x,f,m,ap,args,cp)
 | _=>none
def Bk{s:Stmt}{q:Str×Str×Str×Pos×List Expr×Pos}(h:EM s=some q):∃p J pos,s=.Expr (.Call (.Attribute (.Attribute (.Name q.1 p) q.2.1 J) q.2.2.1 q.2.2.2.1) q.2.2.2.2.1 [] q.2.2.2.2.2) pos:=by
 unfold EM at h;split at h
 .cases h;exact⟨_,_,_,rfl⟩
 .cases h
noncomputable def yK:Stmt->Option Expr
 | .Expr e _=>some e
 | _=>none
def yL{s:Stmt}{e:Expr}(h:yK s=some e):∃pos,s=.Expr e pos:=by
 unfold yK at h;split at h
 .cases h;exact⟨_,rfl⟩
 .cases h
mutual
noncomputable def fz(T:Tab)(N:List Str)(sc:Scope):MS->Stmt->Bool
 | .set i e,s0=>onQ (wU s0) λq=>N[i]?==some q.1&&hU sc q.1&&aJ q.1&&chk T e N sc q.2.2&&!aZ e&&(c6 q.2.2||oX sc q.1 q.2.1 q.2.2 e)
 | .setOwn i e,s0=>onQ (wU s0) λq=>N[i]?==some q.1&&hU sc q.1&&aJ q.1&&chk T e N sc q.2.2&&jp e&&(c6 q.2.2||oX sc q.1 q.2.1 q.2.2 e)
 | .insert i k e,s0=>onQ (Bh s0) λq=>onQ (Bf q.2.2.2.1) λz=>aD N sc i q.1&&q.2.1==("insert":Str)&&chk T k N sc z.1&&chk T e N sc z.2&&!aZ e&&aE z.1&&aE z.2&&q.2.2.1.endLine==q.2.2.2.2.line
 | .append i e,s0=>onQ (Bh s0) λq=>onQ (nz q.2.2.2.1) λv=>aD N sc i q.1&&q.2.1==("append":Str)&&chk T e N sc v&&!aZ e&&aE v&&q.2.2.1.endLine==q.2.2.2.2.line
 | .extend i e,s0=>onQ (Bh s0) λq=>onQ (nz q.2.2.2.1) λv=>aD N sc i q.1&&q.2.1==("extend":Str)&&chk T e N sc v&&aE v&&q.2.2.1.endLine==q.2.2.2.2.line
 | .mkO i es,s0=>onQ (wU s0) λq=>onQ (wR q.2.2) λc=>N[i]?==some q.1&&hU sc q.1&&aJ q.1&&c.1==("Table":Str)&&glB sc c.1&&chks T es N sc c.2&&(es.all λm=>!aZ m)&&!c.2.isEmpty
 | .appO i e,s0=>onQ (EM s0) λq=>onQ (nz q.2.2.2.2.1) λv=>aD N sc i q.1&&q.2.1==("taken":Str)&&q.2.2.1==("append":Str)&&chk T e N sc v&&!aZ e&&aE v&&q.2.2.2.1.endLine==q.2.2.2.2.2.line
 | .retT e,s0=>onQ (Bj s0) λv=>chk T e N sc v&&!aZ e
 | .takeO (some j) i f es,s0=>onQ (wU s0) λq=>onQ (yF q.2.2) λc=>N[j]?==some q.1&&hU sc q.1&&aJ q.1&&(rM N sc T.ms f i (λxs=>chks T es N sc xs) c&&(es.all λm=>!aZ m))
 | .takeO none i f es,s0=>onQ (yK s0) λv=>onQ (yF v) λc=>rM N sc T.ms f i (λxs=>chks T es N sc xs) c&&(es.all λm=>!aZ m)
 | .setIdx _ _ _,_=>false
 | .unpack _ _,_=>false
 | .ite c a b,s0=>(match s0 with|.If t x y _=>chk T c N sc t&&chkSs T N sc a x&&chkSs T N sc b y|_=>false)
 | .for1 i k src body,s0=>(match s0 with|.For (.Name x _) it b [] _=>N[i]?==some x&&hU sc x&&aJ x&&qf sc false (λxs=>chks T src N sc xs) k it&&chkSs T N sc body b|_=>false)
 | .forT is k src body,s0=>(match s0 with|.For (.Tuple J _ _) it b [] _=>eS N sc is J&&qf sc true (λxs=>chks T src N sc xs) k it&&chkSs T N sc body b|_=>false)
 | .ret e,s0=>onQ (Bj s0) λv=>chk T e N sc v&&!aZ e
 | .retOwn i,s0=>onQ (Bj s0) λv=>onQ (CJ v) λx=>aD N sc i x
 | .never,_=>true
 | .newD _ i,s0=>onQ (wU s0) λq=>CK q.2.2&&(N[i]?==some q.1&&hU sc q.1&&aJ q.1)
 | .dput i k e,s0=>onQ (He s0) λq=>aD N sc i q.1&&chk T k N sc q.2.1&&eX q.2.1&&chk T e N sc q.2.2&&!aZ e&&c6 q.2.2
 | _,_=>false
noncomputable def chkSs(T:Tab)(N:List Str)(sc:Scope):List MS->List Stmt->Bool
 | [],[]=>true
 | .freeze _::_,_=>false
 |m::ms,s::ss=>fz T N sc m s&&chkSs T N sc ms ss
 | _,_=>false
end
def Bl(T)(N)(sc)(i)(k)(src)(body)(s0):fz T N sc (.for1 i k src body) s0=(match s0 with|.For (.Name x _) it b [] _=>N[i]?==some x&&hU sc x&&aJ x&&qf sc false (λxs=>chks T src N sc xs) k it&&chkSs T N sc body b|_=>false):=rfl
def Bm(T)(N)(sc)(is)(k)(src)(body)(s0):fz T N sc (.forT is k src body) s0=(match s0 with|.For (.Tuple J _ _) it b [] _=>eS N sc is J&&qf sc true (λxs=>chks T src N sc xs) k it&&chkSs T N sc body b|_=>false):=rfl
theorem nB(J:∀x b,f x x=some b->b=true):∀xs {b},eqL f xs xs=some b->b=true
 | [],b,h=>by simp[eqL]at h;exact h
 |x::xs,b,h=>by
  simp only[eqL,gI,ti]at h;obtain⟨p,h1,q,h2,rfl⟩:=h;rw[J x p h1,nB J xs h2];rfl
theorem j_:∀n x {b},eqF n x x=some b->b=true
 |n,.non,b,h=>by cases n<;>cases h<;>rfl
 |n,.bl x,b,h=>by cases n<;>cases h<;>exact Ld x
 |n,.int x,b,h=>by cases n<;>cases h<;>exact Ld x
 |n,.str x,b,h=>by cases n<;>cases h<;>exact Ld x
 |0,.tup _,b,h=>bn h
 |0,.lst _,b,h=>bn h
 |n+1,.tup xs,b,h=>nB (λx b=>j_ n x) xs h
 |n+1,.lst xs,b,h=>nB (λx b=>j_ n x) xs ((if_pos rfl).symm.trans h)
 |n,.dI _,b,h=>by cases n<;>exact bn h
def gv(h:eqF n x y=some b):isD x=false/\isD y=false:=by
 cases x<;>cases y<;>first|exact⟨rfl,rfl⟩|(cases n<;>exact bn h)
noncomputable def EN:PV->Bool
 | .tup _=>true
 | .lst _=>true
 | _=>false
def gk(h:eqF n x y=some b)(e:EN x=!EN y):b=false:=by
 cases x<;>cases y<;>first|(cases e;done)|(cases n<;>cases h<;>rfl)
theorem kg :∀xs ys {b},eqL f xs ys=some b ->
  (∀(j:Nat) x y,xs[j]?=some x->ys[j]?=some y->∃c,f x y=some c) /\
   b=((range (min xs.length ys.length)).all (λj=>(f (xs.getD j .non) (ys.getD j .non)).getD false)&&xs.length==ys.length)
 | [],[],b,h=>by simp[eqL]at h;subst h;simp
 | [],y::ys,b,h=>by simp[eqL]at h;subst h;simp
 |x::xs,[],b,h=>by simp[eqL]at h;subst h;simp
 |x::xs,y::ys,b,h=>by
  simp only[eqL,gI,ti]at h;obtain⟨p,h1,q,h2,rfl⟩:=h;obtain⟨J,S⟩:=kg xs ys h2;refine⟨λj Z y' U Y=>?_,?_⟩
  .cases j with
   |zero=>simp at U Y;subst U Y;exact⟨p,h1⟩
   |succ j=>exact J j Z y' U Y
  .rw[S];have hm:min (x::xs).length (y::ys).length=min xs.length ys.length+1:=by simp only[length_cons];exact(by simp)
   rw[hm,range_succ_eq_map,all_cons,MH];have hl:((x::xs).length==(y::ys).length)=(xs.length==ys.length):=by
    simp_all
   rw[hl,Bool.and_assoc];simp only[getD_cons_zero,h1,getD_some,Function.comp_def,getD_cons_succ]
theorem vq :∀xs {b},inL f xs=some b->(∀x∈xs,∃c,f x=some c)/\b=xs.any λx=>(f x).getD false
 | [],b,h=>by simp[inL]at h;subst h;simp
 |x::xs,b,h=>by
  simp only[inL,gI,ti]at h;obtain⟨p,h1,q,h2,rfl⟩:=h;obtain⟨J,U⟩:=vq xs h2;refine⟨λy S=>?_,?_⟩
  .rcases nW.mp S with rfl|S
   .exact⟨p,h1⟩
   .exact J y S
  .simp_all
section
variable{X:Cx}{pins:List (Addr×Obj)}{σ:St}{H:Hp}{s:Shared}
def rP(I:Inv X pins σ H s)(h1:SqL X.K H a xs)(h2:SqT X.K H a ys):False:=by
 refine bq (I.list h1) λits _ p _=>?_
 refine bq (I.tuple h2) λJ _ q _=>?_
 exact SeqAt.ne_of_list_tuple p.isList (show s.heap.IsTuple a J.toArray from q) rfl
def vt{H:Hp}{a:Addr}{d:DD}(h:RdD H a d):IsD H a:=by
 cases d with
 |k kvs=>exact .inl ⟨_,h.rd⟩
 |t kvs=>exact .inr ⟨_,h.rd⟩
def mh(I:Inv X pins σ H s)(h1:SqL X.K H a xs\/SqT X.K H a xs)(h2:RdD H a d):False:=by
 refine ag ((yj I (vt h2)).1) λo U hc=>?_
 rcases h1 with h1|h1
 .obtain⟨its,_,p,_⟩:=I.list h1;obtain⟨o',J,S,_⟩:=p.isList;rw[U]at J;cases J;rw[hc]at S;exact absurd S (by decide)
 .obtain⟨its,_,⟨o',J,S,_⟩,_⟩:=I.tuple h1;rw[U]at J;cases J;rw[hc]at S;exact absurd S (by decide)
def Sc.v_inj:∀{a b:Sc},a.v=b.v->a=b:=by
 intro a b h;cases a<;>cases b<;>simp[Sc.v]at h ⊢<;>exact h
theorem rQ:∀{a b},gK a=gK b->a=b
 | [],[],_=>rfl
 | [],_::_,h=>wa h
 | _::_,[],h=>by cases h
 | (k,v)::a,(J,S)::b,h=>by
  simp[gK,KI,Prod.mk.injEq]at h;obtain⟨⟨h1,h2⟩,h3⟩:=h;rw[h1,Sc.v_inj h2,rQ h3]
theorem mi:∀{a b:List Int},(a.map Sum.inl:List Key)=b.map Sum.inl->a=b
 | [],[],_=>rfl
 | [],_::_,h=>wa h
 | _::_,[],h=>by cases h
 |x::a,y::b,h=>by
  simp[List.cons.injEq]at h;rw[h.1,mi h.2]
theorem rR:∀{a b},jW a=jW b->a=b
 | [],[],_=>rfl
 | [],_::_,h=>wa h
 | _::_,[],h=>by cases h
 | (k,v)::a,(J,S)::b,h=>by
  simp[jW,KI]at h;obtain⟨⟨h1,h2⟩,h3⟩:=h;rw[mi h1,Sc.v_inj h2,rR h3]
def rS{a b:DD}(h:lW a=lW b):a=b:=by
 cases a<;>cases b
 .rw[rQ (HO.dK.inj h)]
 .cases h
 .cases h
 .rw[rR (HO.dT.inj h)]
def EO(h:RdD H a x)(g:RdD H a y):x=y:=by
 have h:=h.rd;have g:=g.rd;have ne:∀x o u,lW x≠.frz o u:=λx o u e=>by cases x<;>cases e
 rcases h with h|⟨o,h⟩<;>rcases g with g|⟨o',g⟩
 .rw[h]at g;exact rS (uW g)
 .rw[h]at g;exact absurd (uW g) (ne x _ _)
 .simp_all
 .rw[h]at g;exact rS (HO.frz.inj (uW g)).2
mutual
theorem mj(I:Inv X pins σ H s):∀(x y:PV) {u:V},Rep X.K H x u->Rep X.K H y u->x=y
 | .non,y,u,h,g=>by rw[Rep]at h;subst h;cases y<;>simp[Rep]at g ⊢
 | .bl b,y,u,h,g=>by rw[Rep]at h;subst h;cases y<;>simp[Rep]at g ⊢;exact g
 | .int b,y,u,h,g=>by rw[Rep]at h;subst h;cases y<;>simp[Rep]at g ⊢;exact g
 | .str b,y,u,h,g=>by rw[Rep]at h;subst h;cases y<;>simp[Rep]at g ⊢;exact g
 | .tup xs,y,u,h,g=>by
  obtain⟨a,us,rfl,q,r⟩:=h;cases y with
  |tup ys =>
   refine au g λb vs e J S=>?_
   cases e;have:=I.tuple_inj (fh q) (fh J);subst this;rw[reps_inj I xs ys r S]
  |lst ys =>
   refine au g λb vs e J S=>?_
   cases e;exact(rP I J (fh q)).elim
  |dI kvs =>
   obtain⟨b,e,J⟩:=g;cases e;exact(mh I (.inr (fh q)) J).elim
  | _=>injection g
 | .lst xs,y,u,h,g=>by
  obtain⟨a,us,rfl,q,r⟩:=h;cases y with
  |lst ys =>
   refine au g λb vs e J S=>?_
   cases e;have:=I.list_inj q J;subst this;rw[reps_inj I xs ys r S]
  |tup ys =>
   refine au g λb vs e J S=>?_
   cases e;exact(rP I q (fh J)).elim
  |dI kvs =>
   obtain⟨b,e,J⟩:=g;cases e;exact(mh I (.inl q) J).elim
  | _=>injection g
 | .dI kvs,y,u,h,g=>by
  obtain⟨a,rfl,q⟩:=h;cases y with
  |dI ks =>
   refine ag g λb e J=>?_
   cases e;rw[EO q J]
  |tup ys =>
   obtain⟨b,vs,e,J,S⟩:=g;cases e;exact(mh I (.inr (fh J)) q).elim
  |lst ys =>
   obtain⟨b,vs,e,J,S⟩:=g;cases e;exact(mh I (.inl J) q).elim
  | _=>injection g
theorem reps_inj(I:Inv X pins σ H s):∀(xs ys:List PV) {us:List V},Reps X.K H xs us->Reps X.K H ys us->xs=ys
 | [],ys,us,h,g=>by
  rw[Reps]at h;subst h
  cases ys with
  |nil=>rfl
  |cons y ys=>rw[Reps]at g;obtain⟨_,_,e,_⟩:=g;exact wa e
 |x::xs,ys,us,h,g=>by
  refine au h λu r J q t=>?_
  subst J;cases ys with
  |nil=>rw[Reps]at g;cases g
  |cons y ys =>
   refine au g λU Y e S t'=>?_
   cases e;rw[mj I x y q S,reps_inj I xs ys t t']
end
def Rep.tupAt(I:Inv X pins σ H s)(h:Rep X.K H (.tup xs) u)(r:aF u v) :
  ∃(a:Addr) (us:List V) (its:List Value),u=.ref a/\v=.ref a/\Reps X.K H xs us/\aN us its/\s.heap.IsTuple a its.toArray/\xs.length=its.length:=by
 refine au h λa us J q t=>?_
 subst J;refine bq (I.tuple (fh q)) λits S p _=>?_
 exact⟨a,us,its,rfl,r,t,S,p,t.length.trans S.length⟩
def Rep.lstAt(I:Inv X pins σ H s)(h:Rep X.K H (.lst xs) u)(r:aF u v) :
  ∃a us its,u=.ref a/\v=.ref a/\Reps X.K H xs us/\aN us its/\s.heap.IsList a its.toArray/\xs.length=its.length:=by
 refine au h λa us J q t=>?_
 subst J;refine bq (I.list q) λits S p _=>?_
 exact⟨a,us,its,rfl,r,t,S,p.isList,t.length.trans S.length⟩
def kh{A:Around}(ih:∀x y {Y Z}{S U}{b}{A},A.units+n<cLine->eqF n x y=some b->Rep X.K H x Y->Rep X.K H y Z->aF Y S->aF Z U->SeqAt.EqAt A s S U b)
  (hu:A.units+(n+1)<cLine) (rx:Reps X.K H xs us) (ry:Reps X.K H ys ws) (S:aN us its) (U:aN ws J)
  (hs:∀(j:Nat) x y,xs[j]?=some x->ys[j]?=some y->∃c,eqF n x y=some c) :
  ∀j (h1:j<its.toArray.size) (h2:j<J.toArray.size),SeqAt.EqAt A.in1 s its.toArray[j] J.toArray[j] ((eqF n (xs.getD j .non) (ys.getD j .non)).getD false):=λj h1 h2=>by
 have l1:=rx.length.trans S.length;have l2:=ry.length.trans U.length;simp only[oe]at h1 h2;have e1:xs[j]?=some xs[j]:=Kz (by simp[*]);have e2:ys[j]?=some ys[j]:=Kz (by omega);refine ag (rx.get e1) λY q1 p1=>?_
 refine ag (ry.get e2) λZ q2 p2=>?_
 refine ag (S.get q1) λwx q3 p3=>?_
 refine ag (U.get q2) λwy q4 p4=>?_
 obtain⟨c,hc⟩:=hs j _ _ e1 e2;have d1:xs.getD j .non=xs[j]:=by simp[List.getD,e1]
 have d2:ys.getD j .non=ys[j]:=by simp[List.getD,e2]
 have g1:its.toArray[j]=wx:=by
  simp_all
 have g2:J.toArray[j]=wy:=by
  simp_all
 rw[d1,d2,hc,g1,g2];exact ih _ _ (show A.units+1+n<cLine by omega) hc p1 p2 p3 p4
def Bn(I:Inv X pins σ H s)(ih:∀x y {U Y}{Z vy}{b}{A},A.units+n<cLine->eqF n x y=some b->Rep X.K H x U->Rep X.K H y Y->aF U Z->aF Y vy->SeqAt.EqAt A s Z vy b)
  (hu:A.units+(n+1)<cLine):(∀{xs ys}{U Y}{Z vy}{b},eqF (n+1) (.tup xs) (.tup ys)=some b->Rep X.K H (.tup xs) U->Rep X.K H (.tup ys) Y->aF U Z->aF Y vy->SeqAt.RcAt A s Z vy b) /\
   (∀{xs ys}{U Y}{Z vy}{b},eqF (n+1) (.lst xs) (.lst ys)=some b->Rep X.K H (.lst xs) U->Rep X.K H (.lst ys) Y->aF U Z->aF Y vy->SeqAt.RcAt A s Z vy b):=by
 refine⟨λ{xs ys U Y Z vy b} h rx ry r1 r2=>?_,λ{xs ys U Y Z vy b} h rx ry r1 r2=>?_⟩
 .refine cV (rx.tupAt I r1) λa us its J S t1 w1 p1 l1=>?_
  subst J;subst S;refine cV (ry.tupAt I r2) λc ws ar J S t2 w2 p2 l2=>?_
  subst J;subst S;have h:=h;obtain⟨hs,hb⟩:=kg xs ys h;have q:=SeqAt.RcAt.tuples (A:=A) p1 p2 (by omega) (kh ih hu t1 t2 w1 w2 hs);rw[hb];simpa[l1,l2]using q
 .refine cV (rx.lstAt I r1) λa us its J S t1 w1 p1 l1=>?_
  subst J;subst S;refine cV (ry.lstAt I r2) λc ws ar J S t2 w2 p2 l2=>?_
  subst J;subst S;have h:(if xs.length=ys.length then eqL (eqF n) xs ys else some false)=some b:=h;by_cases hl:xs.length=ys.length
  .rw[if_pos hl]at h;obtain⟨hs,hb⟩:=kg xs ys h;have q:=SeqAt.RcAt.lists (A:=A) p1 p2 (by simp only[oe];omega) (by omega) (kh ih hu t1 t2 w1 w2 hs)
   simp_all
  .rw[if_neg hl]at h;cases h;exact SeqAt.RcAt.lists_lengths (A:=A) p1 p2 (by simp only[oe,bne_iff_ne];omega) (by omega)
def dj(hd:isD x=false)(h:Rep X.K H x u):(∃xs,x=.tup xs)\/(∃xs,x=.lst xs)\/iE u=true:=by
 cases x with
 |dI _=>exact sW hd
 |tup xs=>exact .inl ⟨xs,rfl⟩
 |lst xs=>exact .inr (.inl ⟨xs,rfl⟩)
 | _=>rw[Rep]at h;subst h;exact .inr (.inr rfl)
def hZ(J:A.units<cLine)(f:iE u=true)(r:aF u v)(p:s.heap.IsTuple a its) :
  SeqAt.EqAt A s v (.ref a) false/\SeqAt.EqAt A s (.ref a) v false/\SeqAt.RcAt A s v (.ref a) false/\SeqAt.RcAt A s (.ref a) v false:=by
 cases u with
 |non=>subst r;exact⟨.none_tuple p J,.tuple_none p J,.none_tuple p J,.tuple_none p J⟩
 |bl b=>subst r;exact⟨.bool_tuple b p J,.tuple_bool b p J,.bool_tuple b p J,.tuple_bool b p J⟩
 |int b=>obtain⟨t,rfl⟩:=r;exact⟨.int_tuple b t p J,.tuple_int b t p J,.int_tuple b t p J,.tuple_int b t p J⟩
 |str b=>obtain⟨t,rfl⟩:=r;exact⟨.str_tuple b t p J,.tuple_str b t p J,.str_tuple b t p J,.tuple_str b t p J⟩
 | _=>exact absurd (show false=true from f) kn
def iU(J:A.units<cLine)(f:iE u=true)(r:aF u v)(p:s.heap.IsList a its) :
  SeqAt.EqAt A s v (.ref a) false/\SeqAt.EqAt A s (.ref a) v false/\SeqAt.RcAt A s v (.ref a) false/\SeqAt.RcAt A s (.ref a) v false:=by
 cases u with
 |non=>subst r;exact⟨.none_list p J,.list_none p J,.none_list p J,.list_none p J⟩
 |bl b=>subst r;exact⟨.bool_list b p J,.list_bool b p J,.bool_list b p J,.list_bool b p J⟩
 |int b=>obtain⟨t,rfl⟩:=r;exact⟨.int_list b t p J,.list_int b t p J,.int_list b t p J,.list_int b t p J⟩
 |str b=>obtain⟨t,rfl⟩:=r;exact⟨.str_list b t p J,.list_str b t p J,.str_list b t p J,.list_str b t p J⟩
 | _=>exact absurd (show false=true from f) kn
def yM(S:aF y u)(J:aF x v)(Y:iE y=true)(U:iE x=true):SeqAt.RcAt A s u v (eqV y x):=by
 cases y with
 |non =>
  cases S;cases x with
  |non=>subst J;exact SeqAt.RcAt.none_none
  |bl b=>subst J;exact SeqAt.RcAt.none_bool b
  |int b=>obtain⟨t,rfl⟩:=J;exact SeqAt.RcAt.none_int b t
  |str b=>obtain⟨t,rfl⟩:=J;exact SeqAt.RcAt.none_str b t
  | _=>exact absurd (show false=true from U) kn
 |bl a =>
  subst S;cases x with
  |non=>subst J;exact SeqAt.RcAt.bool_none a
  |bl b=>subst J;exact SeqAt.RcAt.bool_bool a b
  |int b=>obtain⟨t,rfl⟩:=J;exact SeqAt.RcAt.bool_int a b t
  |str b=>obtain⟨t,rfl⟩:=J;exact SeqAt.RcAt.bool_str a b t
  | _=>exact absurd (show false=true from U) kn
 |int a =>
  obtain⟨t',rfl⟩:=S;cases x with
  |non=>subst J;exact SeqAt.RcAt.int_none a t'
  |bl b=>subst J;exact SeqAt.RcAt.int_bool a t' b
  |int b=>obtain⟨t,rfl⟩:=J;exact SeqAt.RcAt.int_int a t' b t
  |str b=>obtain⟨t,rfl⟩:=J;exact SeqAt.RcAt.int_str a t' b t
  | _=>exact absurd (show false=true from U) kn
 |str a =>
  obtain⟨t',rfl⟩:=S;cases x with
  |non=>subst J;exact SeqAt.RcAt.str_none a t'
  |bl b=>subst J;exact SeqAt.RcAt.str_bool a t' b
  |int b=>obtain⟨t,rfl⟩:=J;exact SeqAt.RcAt.str_int a t' b t
  |str b=>obtain⟨t,rfl⟩:=J;exact SeqAt.RcAt.str_str a t' b t
  | _=>exact absurd (show false=true from U) kn
 | _=>exact absurd (show false=true from Y) kn
def nD(J:Rep X.K H x u)(S:Rep X.K H y v)(U:iE u=true)(Y:iE v=true)(h:eqF n x y=some b):b=eqV u v:=by
 cases x<;>cases y<;>simp[Rep]at J S
 all_goals first
  | (obtain⟨_,_,rfl,_⟩:=J;exact absurd (show false=true from U) kn)
  | (obtain⟨_,_,rfl,_⟩:=S;exact absurd (show false=true from Y) kn)
  | (obtain⟨_,rfl,_⟩:=J;exact absurd (show false=true from U) kn)
  | (obtain⟨_,rfl,_⟩:=S;exact absurd (show false=true from Y) kn)
  | (subst J S;cases n<;>cases h<;>rfl)
def gm(r:Rep X.K H y v)(f:iE v=true):EN y=false:=by
 cases y with
 |tup _|lst _=>obtain⟨_,_,rfl,_⟩:=r;exact dD f
 | _=>rfl
def ql(I:Inv X pins σ H s):∀n x y {ux uy}{vx vy}{b}{A},A.units+n<cLine->eqF n x y=some b->Rep X.K H x ux->Rep X.K H y uy->aF ux vx->aF uy vy ->
  SeqAt.EqAt A s vx vy b/\SeqAt.RcAt A s vx vy b:=by
 intro n
 induction n with
 |zero =>
  intro x y ux uy vx vy b A hu h rx Z r1 r2;have J:A.units<cLine:=by omega
  rcases dj (gv h).1 rx with⟨xs,rfl⟩|⟨xs,rfl⟩|fx
  .refine cV (rx.tupAt I r1) λa us its S U t1 w1 p1 l1=>?_
   subst S;subst U;rcases dj (gv h).2 Z with⟨ys,rfl⟩|⟨ys,rfl⟩|fy
   .exact bn h
   .refine cV (Z.lstAt I r2) λc ws Y S U t2 w2 p2 l2=>?_
    subst S;subst U;cases h;exact⟨.tuple_list p1 p2 J,.tuple_list p1 p2 J⟩
   .refine gE (hZ J fy r2 p1) λz1 z2 z3 z4=>?_
    have:=gk h (by rw[gm Z fy];rfl);subst this;exact⟨z2,z4⟩
  .refine cV (rx.lstAt I r1) λa us its S U t1 w1 p1 l1=>?_
   subst S;subst U;rcases dj (gv h).2 Z with⟨ys,rfl⟩|⟨ys,rfl⟩|fy
   .refine cV (Z.tupAt I r2) λc ws Y S U t2 w2 p2 l2=>?_
    subst S;subst U;cases h;exact⟨.list_tuple p1 p2 J,.list_tuple p1 p2 J⟩
   .exact bn h
   .refine gE (iU J fy r2 p1) λz1 z2 z3 z4=>?_
    have:=gk h (by rw[gm Z fy];rfl);subst this;exact⟨z2,z4⟩
  .rcases dj (gv h).2 Z with⟨ys,rfl⟩|⟨ys,rfl⟩|fy
   .refine cV (Z.tupAt I r2) λc ws Y S U t2 w2 p2 l2=>?_
    subst S;subst U;refine gE (hZ J fx r1 p2) λz1 z2 z3 z4=>?_
    have:=gk h (by rw[gm rx fx];rfl);subst this;exact⟨z1,z3⟩
   .refine cV (Z.lstAt I r2) λc ws Y S U t2 w2 p2 l2=>?_
    subst S;subst U;refine gE (iU J fx r1 p2) λz1 z2 z3 z4=>?_
    have:=gk h (by rw[gm rx fx];rfl);subst this;exact⟨z1,z3⟩
   .rw[nD rx Z fx fy h];exact⟨yc r1 r2 fx fy,yM r1 r2 fx fy⟩
 |succ n ih =>
  intro x y ux uy vx vy b A hu h rx Z r1 r2;have J:A.units<cLine:=by exact(KD (Ll _ _) ‹_›)
  obtain⟨kt,kl⟩:=Bn I (λx y {_ _ _ _ _ _} a1 a2 a3 a4 a5 a6=>(ih x y a1 a2 a3 a4 a5 a6).1) hu;rcases dj (gv h).1 rx with⟨xs,rfl⟩|⟨xs,rfl⟩|fx
  .refine cV (rx.tupAt I r1) λa us its e1 aL t1 w1 p1 l1=>?_
   rcases dj (gv h).2 Z with⟨ys,rfl⟩|⟨ys,rfl⟩|fy
   .have q:=kt h rx Z r1 r2;refine cV (Z.tupAt I r2) λc ws Y e2 aP t2 w2 p2 l2=>?_
    subst e1 aL e2 aP;refine⟨?_,q⟩;by_cases bP:a=c
    .subst bP;have e:=mj I _ _ rx Z;rw[e]at h;rw[j_ _ _ h];exact .same _
    .exact .of_refs bP q
   .refine cV (Z.lstAt I r2) λc ws Y e2 aP t2 w2 p2 l2=>?_
    subst e1 aL e2 aP;cases h;exact⟨.tuple_list p1 p2 J,.tuple_list p1 p2 J⟩
   .subst e1 aL;refine gE (hZ J fy r2 p1) λz1 z2 z3 z4=>?_
    have:=gk h (by rw[gm Z fy];rfl);subst this;exact⟨z2,z4⟩
  .refine cV (rx.lstAt I r1) λa us its e1 aL t1 w1 p1 l1=>?_
   rcases dj (gv h).2 Z with⟨ys,rfl⟩|⟨ys,rfl⟩|fy
   .refine cV (Z.tupAt I r2) λc ws Y e2 aP t2 w2 p2 l2=>?_
    subst e1 aL e2 aP;cases h;exact⟨.list_tuple p1 p2 J,.list_tuple p1 p2 J⟩
   .have q:=kl h rx Z r1 r2;refine cV (Z.lstAt I r2) λc ws Y e2 aP t2 w2 p2 l2=>?_
    subst e1 aL e2 aP;refine⟨?_,q⟩;by_cases bP:a=c
    .subst bP;have e:=mj I _ _ rx Z;rw[e]at h;rw[j_ _ _ h];exact .same _
    .exact .of_refs bP q
   .subst e1 aL;refine gE (iU J fy r2 p1) λz1 z2 z3 z4=>?_
    have:=gk h (by rw[gm Z fy];rfl);subst this;exact⟨z2,z4⟩
  .rcases dj (gv h).2 Z with⟨ys,rfl⟩|⟨ys,rfl⟩|fy
   .refine cV (Z.tupAt I r2) λc ws Y S U t2 w2 p2 l2=>?_
    subst S;subst U;refine gE (hZ J fx r1 p2) λz1 z2 z3 z4=>?_
    have:=gk h (by rw[gm rx fx];rfl);subst this;exact⟨z1,z3⟩
   .refine cV (Z.lstAt I r2) λc ws Y S U t2 w2 p2 l2=>?_
    subst S;subst U;refine gE (iU J fx r1 p2) λz1 z2 z3 z4=>?_
    have:=gk h (by rw[gm rx fx];rfl);subst this;exact⟨z1,z3⟩
   .rw[nD rx Z fx fy h];exact⟨yc r1 r2 fx fy,yM r1 r2 fx fy⟩
end
section
variable{X:Cx}
def EQ(Z:X.A.units+101<cLine):OpR X (compareOp .Eq) (λJ S H Q=>∃x y b,Rep X.K H x J/\Rep X.K H y S/\eqF 100 x y=some b/\Q (.bl b) H):=by
 intro pins s σ H J S v u Q I U Y h;refine mD h λx y b r1 r2 e q=>?_
 exact(ql I 100 x y (K9 ‹_›) e r1 r2 U Y).2 _ _ _ _ ⟨.bl b,H,I,rfl,q⟩
def ER(hu:X.A.units+101<cLine):OpR X (compareOp .NotEq) (λux uy H Q=>∃x y b,Rep X.K H x ux/\Rep X.K H y uy/\tY x y=true/\eqF 100 x y=some b/\Q (.bl (!b)) H):=by
 intro pins s σ H ux uy v u Q I rx ry h;obtain⟨x,y,b,r1,r2,ok,e,q⟩:=h;rcases dj (gv e).1 r1 with⟨xs,rfl⟩|⟨xs,rfl⟩|fx
 .cases y with
  |tup ys =>
   refine cV (r1.tupAt I rx) λa us its J S t1 w1 p1 l1=>?_
   subst J;subst S;refine cV (r2.tupAt I ry) λc ws Y J S t2 w2 p2 l2=>?_
   subst J;subst S;have e:eqL (eqF 99) xs ys=some b:=e;obtain⟨hs,hb⟩:=kg xs ys e;obtain⟨⟨cls,dd,data,sl⟩,ho,hc,n,hd⟩:=id p1;obtain⟨⟨bO,Z,data2,ao⟩,U,ar,n2,aH⟩:=id p2;subst hc hd ar aH;refine LK (op:=.NotEq) ⟨_,ho,rfl⟩ ⟨_,U,rfl⟩ PySem.F.slot_tuple_ne PySem.F.entry_tuple_ne (PySem.F.args_tuple_ne_2 _ _) (SeqAt.tuple_neAt a c its.toArray Y.toArray n n2 dd Z sl ao _)
    ⟨ho,U,kh (n:=99) (λx y {_ _ _ _ _ _} a1 a2 a3 a4 a5 a6=>(ql I 99 x y a1 a2 a3 a4 a5 a6).1) (by omega) t1 t2 w1 w2 hs,?_⟩ (by omega)
   refine⟨(λx=>nomatch x),⟨.bl (!b),H,I,?_,q⟩⟩;rw[hb];simp[l1,l2,L2.aF]
  | _=>exact dD ok
 .cases y with
  |lst ys =>
   refine cV (r1.lstAt I rx) λa us its J S t1 w1 p1 l1=>?_
   subst J;subst S;refine cV (r2.lstAt I ry) λc ws Y J S t2 w2 p2 l2=>?_
   subst J;subst S;have e:(if xs.length=ys.length then eqL (eqF 99) xs ys else some false)=some b:=e;obtain⟨⟨cls,dd,data,sl⟩,ho,hc,n,hd⟩:=id p1;obtain⟨⟨bO,Z,data2,ao⟩,U,ar,n2,aH⟩:=id p2;simp only at hc hd ar aH;subst hc hd ar aH;by_cases hl:xs.length=ys.length
   .rw[if_pos hl]at e;obtain⟨hs,hb⟩:=kg xs ys e;refine LK (op:=.NotEq) ⟨_,ho,rfl⟩ ⟨_,U,rfl⟩ PySem.F.slot_list_ne PySem.F.entry_list_ne (PySem.F.args_list_ne_2 _ _) (SeqAt.list_neAt a c its.toArray Y.toArray n n2 dd Z sl ao (by simp only[oe];omega) _)
     ⟨ho,U,kh (n:=99) (λx y {_ _ _ _ _ _} a1 a2 a3 a4 a5 a6=>(ql I 99 x y a1 a2 a3 a4 a5 a6).1) (by omega) t1 t2 w1 w2 hs,?_⟩ (by omega)
    refine⟨(λx=>nomatch x),⟨.bl (!b),H,I,?_,q⟩⟩;rw[hb,hl,Nat.min_self];simp[<- l1,hl,L2.aF]
   .rw[if_neg hl]at e;cases e;refine LK (op:=.NotEq) ⟨_,ho,rfl⟩ ⟨_,U,rfl⟩ PySem.F.slot_list_ne PySem.F.entry_list_ne (PySem.F.args_list_ne_2 _ _) (SeqAt.list_ne_lengthsAt a c its.toArray Y.toArray n n2 dd Z sl ao (by simp only[oe,bne_iff_ne];omega)) ⟨ho,U,?_⟩ (by omega);exact⟨(λx=>nomatch x),⟨.bl true,H,I,rfl,q⟩⟩
  | _=>exact dD ok
 .have fy:iE uy=true:=by
   rcases dj (gv e).2 r2 with⟨ys,rfl⟩|⟨ys,rfl⟩|fy
   .cases x<;>cases ok
    obtain⟨_,_,rfl,_⟩:∃a us,ux=V.ref a/\_:=by rw[Rep]at r1;exact r1
    exact absurd (show false=true from fx) kn
   .cases x<;>cases ok
    obtain⟨_,_,rfl,_⟩:∃a us,ux=V.ref a/\_:=by rw[Rep]at r1;exact r1
    exact absurd (show false=true from fx) kn
   .exact fy
  have hb:=nD r1 r2 fx fy e;subst hb;refine Cy pins s σ H ux uy v u Q I rx ry ?_;have key:scal ux uy=true/\decide (ux=uy)=eqV ux uy:=by
   cases x<;>cases y<;>simp only[Rep]at r1 r2<;>first
    | (obtain⟨_,_,rfl,_⟩:=r1;exact absurd (show false=true from fx) kn)
    | (obtain⟨_,_,rfl,_⟩:=r2;exact absurd (show false=true from fy) kn)
    | (obtain⟨_,rfl,_⟩:=r1;exact absurd (show false=true from fx) kn)
    | (obtain⟨_,rfl,_⟩:=r2;exact absurd (show false=true from fy) kn)
    | (subst r1 r2;first|(exact dD ok;done)|exact⟨rfl,by first|exact pM|exact tu|exact l_|exact Ks rfl|exact KH (λz=>by cases z)⟩)
  exact⟨key.1,by rw[key.2];exact q⟩
def kj(I:Inv X pins σ H s)(hu:X.A.units+101<cLine)(rx:Rep X.K H x ux)(r1:aF ux vx)(t:Reps X.K H xs us)(w:aN us its)(h:isIn x xs=some b) :
  ∃e,(∀y,y∈its.toArray->SeqAt.EqAt X.A.in1 s y vx (e y))/\its.toArray.any e=b:=by
 obtain⟨h1,h2⟩:=vq xs h
 classical
 have J:∀z u y,aF u y->Rep X.K H z u->∀p:(∃z u,aF u y/\Rep X.K H z u),p.choose=z:=λz u y r q p=>by
  refine ag p.choose_spec λu' r' q'=>?_
  have e:=r.inj r';subst e;exact mj I _ _ q' q
 refine⟨λy=>if p:∃z u,aF u y/\Rep X.K H z u then(eqF 100 p.choose x).getD false else false,?_,?_⟩
 .intro y hy;refine cw λZq kq=>?_
  obtain⟨j,hj,e⟩:=getElem_of_mem (by simpa using hy:y∈its);have ej:its[j]?=some y:=by rw[Kz hj,e]
  have l1:=w.length;obtain⟨S,Z⟩:∃S,us[j]?=some S:=⟨_,Kz (by simp[*])⟩;obtain⟨wy,e2,U⟩:=w.get Z;rw[ej]at e2;cases e2;refine ag (t.get' Z) λz e3 Y=>?_
  obtain⟨c,hc⟩:=h1 z (LF e3);have q:=(ql I 100 z x (A:=X.A.in1) (show X.A.units+1+100<cLine by omega) hc Y rx U r1).1;have p:∃z u,aF u y/\Rep X.K H z u:=⟨z,S,U,Y⟩;have e4:=J z S y U Y p;refine kq ?_
  simp_all
 .rw[h2];simp only[any_toArray];clear h h1 h2
  induction xs generalizing us its with
  |nil =>
   subst t;cases w
   rfl
  |cons z zs ih =>
   obtain⟨u,r,rfl,q,t⟩:=t;cases w with
   |cons rv w =>
    rename_i y ys;have p:∃z u,aF u y/\Rep X.K H z u:=⟨z,u,rv,q⟩;have e4:=J z u y rv q p;rw[any_cons,any_cons,ih t w];simp only[p,dite_true,e4]
def ES(U:X.A.units+101<cLine):OpR X (compareOp .In) (λY Z H Q=>∃x xs a us b,Rep X.K H x Y/\Z=.ref a/\(SqL X.K H a us\/SqT X.K H a us)/\Reps X.K H xs us/\isIn x xs=some b/\Q (.bl b) H):=by
 intro pins s σ H Y Z v u Q I rx ry h;refine uV h λx xs a us b r1 S J r2 e q=>?_
 subst S;subst ry;rcases J with J|J
 .obtain⟨its,r,pl,hz⟩:=I.list J;obtain⟨f,h1,h2⟩:=kj I U r1 rx r2 r e;refine SeqAt.in_listAt f pl.isList h1 ?_;rw[h2];exact⟨.bl b,H,I,rfl,q⟩
 .obtain⟨its,r,pl,hz⟩:=I.tuple J;obtain⟨f,h1,h2⟩:=kj I U r1 rx r2 r e;refine SeqAt.in_tupleAt f pl h1 ?_;rw[h2];exact⟨.bl b,H,I,rfl,q⟩
def wV(U:X.A.units+101<cLine):OpR X (compareOp .NotIn) (λY Z H Q=>∃x xs a us b,Rep X.K H x Y/\Z=.ref a/\(SqL X.K H a us\/SqT X.K H a us)/\Reps X.K H xs us/\isIn x xs=some b/\Q (.bl (!b)) H):=by
 intro pins s σ H Y Z v u Q I rx ry h;refine uV h λx xs a us b r1 S J r2 e q=>?_
 subst S;subst ry;rcases J with J|J
 .obtain⟨its,r,pl,hz⟩:=I.list J;obtain⟨f,h1,h2⟩:=kj I U r1 rx r2 r e;refine SeqAt.notIn_listAt f pl.isList h1 ?_;rw[h2];exact⟨.bl (!b),H,I,rfl,q⟩
 .obtain⟨its,r,pl,hz⟩:=I.tuple J;obtain⟨f,h1,h2⟩:=kj I U r1 rx r2 r e;refine SeqAt.notIn_tupleAt f pl h1 ?_;rw[h2];exact⟨.bl (!b),H,I,rfl,q⟩
end
end MM
namespace L2
open PySem PySem.Spec PyProof.Rows List Option
theorem PE.imp(h:PE X e t)(i:∀σ H Q,t' σ H Q->t σ H Q):PE X e t':=λpins s σ H Q I q=>h pins s σ H Q I (i σ H Q q)
theorem PT.imp(h:PT X e t)(i:∀σ H Q,t' σ H Q->t σ H Q):PT X e t':=λpins s σ H Q I q=>h pins s σ H Q I (i σ H Q q)
theorem PA.imp(h:PA X e t)(i:∀σ H Q,t' σ H Q->t σ H Q):PA X e t':=λpos pins s σ H Q I q=>h pos pins s σ H Q I (i σ H Q q)
theorem PS.imp(h:PS X e t)(i:∀D σ H,t' D σ H->t D σ H):PS X e t':=λpins s σ H D I q=>h pins s σ H D I (i D σ H q)
theorem PSs.imp(h:PSs X e t)(i:∀D σ H,t' D σ H->t D σ H):PSs X e t':=λpins s σ H D I q=>h pins s σ H D I (i D σ H q)
theorem PI.imp(h:PI X tg e t)(i:∀σ H R,t' σ H R->t σ H R):PI X tg e t':=λpins s σ H R I q=>h pins s σ H R I (i σ H R q)
end L2
namespace MM
open PySem PySem.Spec PyProof.Rows L2 List Option
noncomputable def eY(H:Hp)(ms:List Addr):Hp:=λb=>if b∈ms then none else H b
def oY{H:Hp}{O:List Addr}{a l:Addr}(ha:a∈O)(S:l∈O):ah (eY H [a,l]) O=ah H O:=by
 funext b
 by_cases J:b∈O
 .rw[dq J,dq J]
 .rw[aV J,aV J];unfold eY;rw[if_neg λz=>J (by
   rcases nW.mp z with rfl|z
   .exact ha
   .rw[KW.mp z];exact S)]
theorem nE{α J:Type}{F G:α->J->Prop}(h:∀a b,F a b->G a b):∀{as:List α}{bs:List J},Paired F as bs->Paired G as bs
 | _,_,.nil=>.nil
 | _,_,.cons x t=>.cons (h _ _ x) (nE h t)
def fS(K:MP)(O:List Addr)(H:Hp):MV->V->Prop
 | .val v,u=>Rep K (ah H O) v u
 | .brw xs,u=>∃a us,u=.ref a/\SqL K H a us/\Reps K (ah H O) xs us
 | .own _,_=>False
 | .ownD _,_=>False
 | .ownO _ _ _,_=>False
 | .brwO fs xs,u=>∃a,u=.ref a/\eG K H (ah H O) fs xs a
 | .brwD kvs,u=>∃a,u=.ref a/\Rd H a (lW kvs)
noncomputable def spM(K:MP)(cal:Cal)(f:Nat):Sp:=λvs H Q _ =>
 ∃O args r,(∀a∈O,H a≠none)/\Paired (fS K O H) args vs/\cal f args=some r/\∀u H',ae H H'->Rep K (ah H' O) r u->Q u H'
noncomputable def spF(K:MP)(cal:Cal)(f:Nat):Sp:=λvs H Q _ =>
 ∃O args xs,(∀a∈O,H a≠none)/\Paired (fS K O H) args vs/\cal (f+1000) args=some (.lst xs)/\∀p us H',ae H H'->H p=none->H' p=some (.lst us)->Reps K (ah H' (p::O)) xs us->Q (.ref p) H'
noncomputable def spT(K:MP)(cal:Cal)(f:Nat):Sp:=λvs H Q _ =>
 ∃(O:List Addr) (a l:Addr) (fs xs:List PV) (as:List MV) (ws:List V) (v:Sc) (ys:List PV),vs=.ref a::ws/\(∀b∈O,H b≠none)/\cm K (λ_=>none) O H fs xs a l/\Paired (fS K O (eY H [a,l])) as ws/\cal (f+3000) (.ownO true fs xs::as)=some (.tup [v.pv,.lst ys]) /\
  ∀l' H',(∀b o,b≠a->b≠l->H b=some o->H' b=some o)->(l'=l\/H l'=none)->cm K (λ_=>none) (l'::O.filter λb=>decide (b≠l)) H' fs ys a l'->Q v.v H'
noncomputable def rT (c r o:V) (l:Addr):List (Str×V):=dE "taken" (.ref l) (dE "opener" o (dE "ribbons" r (dE "hole_count" c [])))
noncomputable def spI(K:MP)(C:Addr):Sp:=λvs H Q _ =>
 ∃(x dx J:Addr) (c r o:V),vs=[.ref x,.ref J,o]/\H x=some (.ins C dx [])/\SqT K H J [c,r] /\
  ∀(l:Addr) (H':Hp),H l=none->H' x=some (.ins C dx (rT c r o l))->H' l=some (.lst [])->(∀b u,b≠x->H b=some u->H' b=some u)->Q .non H'
noncomputable def km:List String:=["len","tuple","list","sorted","any","all","sum","max","min","int","bool","str","isinstance","set","range","enumerate","reversed"
 ]
noncomputable def toV:PV->V
 | .non=>.non
 | .bl b=>.bl b
 | .int i=>.int i
 | .str x=>.str x
 | _=>.non
structure Gf(X:Cx)(T:Tab)(k:Nat)(cal:Cal):Prop where
 calm:X.calm=true
 room:dH k X.A
 fns:∀(f:Nat) (x:Str),T.fs[f]?=some x->aJ x=true->∃(fa:Addr) (fd:FuncData) (ps:List Str),X.mg x=some (.ref fa)/\PySem.W.keepIn X.K (.ref fa)=true/\aG X.K fd ps []/\bw X.prog X.w X.K X.mg X.base CX0 k fa fd ps (spM X.K cal f)/\∀l,T.ds[f]?=some l->∃vs,aG X.K fd ps vs/\aN (l.map Sc.v) vs
 blt:∀x∈km,X.mg (x:Str)=none
 gs:∀p∈T.gs,∃u,X.mg p.1=some u/\aF (toV p.2) u
 cls:∀C,IsC X.K C->Cls X.K C/\(∀x∈jo,cA X.K C x)/\cA X.K C "taken"
 meths:∀(f:Nat) (m:Str),T.ms[f]?=some (some m)->∀C,IsC X.K C->∃(fa:Addr) (fd:FuncData) (ps:List Str),gG X.K C m fa/\aG X.K fd ps []/\bw X.prog X.w X.K X.mg X.base CX0 k fa fd ps (spM X.K cal f)
 methsT:∀(f:Nat) (m:Str),T.ms[f]?=some (some m)->∀C,IsC X.K C->∃(fa:Addr) (fd:FuncData) (ps:List Str),gG X.K C m fa/\aG X.K fd ps []/\bw X.prog X.w X.K X.mg X.base CX0 k fa fd ps (spT X.K cal f)
 lvl:cal 4000 []≠none->dH 2 X.A
 ini:cal 4000 []≠none->∃C,IsC X.K C/\X.mg ("Table":Str)=some (.ref C)/\∃(fa:Addr) (fd:FuncData) (ps:List Str),Mk X.K C fa/\aG X.K fd ps []/\bw X.prog X.w X.K X.mg X.base CX0 1 fa fd ps (spI X.K C)/\∃vs,aG X.K fd ps vs/\aN [V.str "weaver"] vs
 fnsF:∀(f:Nat) (x:Str),T.fs[f]?=some x->aJ x=true->∃(fa:Addr) (fd:FuncData) (ps:List Str),X.mg x=some (.ref fa)/\PySem.W.keepIn X.K (.ref fa)=true/\aG X.K fd ps []/\bw X.prog X.w X.K X.mg X.base CX0 k fa fd ps (spF X.K cal f)
theorem Gf.units(g:Gf X T k cal):X.A.units+200<cLine:=by have:=g.room.un;omega
def Got(K:MP)(H:Hp)(O:List Addr)(me:ME)(v:PV)(u:V):Prop:=b8 K H O v u/\(aZ me=false->Rep K (ah H O) v u)
noncomputable def tE(K:MP)(cal:Cal)(me:ME):TE:=λσ H Q=>∃B E O G v,a7 K B E O H G σ/\ev cal me G=some v/\∀u H',ae H H'->Got K H' O me v u->Q u H'
noncomputable def tT(K:MP)(cal:Cal)(me:ME):TT:=λσ H Q=>∃B E O G b,a7 K B E O H G σ/\evB cal me G=some b/\∀H',ae H H'->Q b H'
def JU(K:MP)(H:Hp)(O:List Addr)(ms:List ME)(vs:List PV)(us:List V):Prop:=Paired (b8 K H O) vs us/\((ms.all λm=>!aZ m)=true->Reps K (ah H O) vs us)
noncomputable def tEs(K:MP)(cal:Cal)(ms:List ME):TA:=λσ H Q=>∃B E O G vs,a7 K B E O H G σ/\evs cal ms G=some vs/\∀us H',ae H H'->JU K H' O ms vs us->Q us H'
noncomputable def tAs(K:MP)(cal:Cal)(ms:List ME):TA:=λσ H Q=>∃B E O G vs,a7 K B E O H G σ/\evA cal ms G=some vs/\∀us H',ae H H'->Paired (fS K O H') vs us->Q us H'
section
variable{K:MP}{H H':Hp}{O:List Addr}
theorem Got.of(h:Rep K (ah H O) v u):Got K H O me v u:=⟨.inl h,λ_=>h⟩
theorem Got.scal(h:∀F,Rep K F v u):Got K H O me v u:=.of (h _)
theorem Got.mono(s:ae H H')(h:Got K H O me v u):Got K H' O me v u:=⟨h.1.mono s,λe=>Rep.mono (aj s) _ (h.2 e)⟩
def cX(F)(b):Rep K F (.bl b) (.bl b):=rfl
def aR(F)(b):Rep K F (.int b) (.int b):=rfl
def iV(F)(b):Rep K F (.str b) (.str b):=rfl
def qm(F):Rep K F .non .non:=rfl
def ko(S:∀a∈O,H1 a≠none)(J:H1 p=none)(h:Reps K (ah H1 O) xs us):Rep K (ah (upd H1 p (.tup us)) O) (.tup xs) (.ref p):=by
 refine⟨p,us,rfl,?_,Reps.mono (aj (bE J _)) _ h⟩;rw[aV (λz=>S p z J)];exact ax
def rV(S:∀a∈O,H1 a≠none)(J:H1 p=none)(h:Reps K (ah H1 O) xs us):Rep K (ah (upd H1 p (.lst us)) O) (.lst xs) (.ref p):=by
 refine⟨p,us,rfl,SqL.of ?_,Reps.mono (aj (bE J _)) _ h⟩;rw[aV (λz=>S p z J)];exact ax
def cg(s:ae H H')(h:∀a∈O,H a≠none):∀a∈O,H' a≠none:=λa ha e=>h a ha (s.free e)
def gM(h:n<=10000):n<=sizeLine:=xw h (by decide)
end
section
variable{X:Cx}{T:Tab}{k:Nat}{cal:Cal}
def Hf(h:Ew sc x=true):Vis sc x:=by
 unfold Ew at h;simp[Kt]at h;rcases h with(h|h)|h
 .exact .inl h
 .exact .inr (.inl h)
 .exact .inr (.inr h)
def iI(h:hU sc x=true):Loc sc x:=by
 unfold hU at h;simp[Kt]at h;exact h
def ml (h:aJ x=true):(x==("__debug__":Str))=false/\(x==("__classdict__":Str))=false/\x ≠ "__name__":=by simp_all [aJ]
def cY(h:glB X.env.scope x=true):Gl X x:=by
 unfold glB at h;simp at h;exact h
def cn(h:aD X.N X.env.scope i x=true):PE X (.Name x pos) (aq i):=by
 unfold aD at h;simp[ll,Kt]at h;obtain⟨⟨h1,h2⟩,h3⟩:=h;refine mC (ml h3) λp1 p2 _=>?_
 exact xD h1 (Hf h2) p1 p2
def bC{K:MP}(st:a7 K B E O H G σ){i:Nat}(e:(G[i]?).join=some m):∃u,σ[i]?=some (some u)/\fj K B O H m u:=st.slot i m (join_some e)
def CL{i:Nat}{x:Str}{pos:Pos}(h:aD X.N X.env.scope i x=true):PE X (.Name x pos) (tE X.K cal (.var i)):=by
 refine(cn h).imp λσ H Q U=>?_
 obtain⟨B,E,O,G,v,st,J,q⟩:=U;rw[ev]at J;cases S:(G[i]?).join with
 |none=>rw[S]at J;cases J
 |some m =>
  rw[S]at J;cases m with
  |val w =>
   simp only[yu,mn]at J;subst J;obtain⟨u,Y,r⟩:=bC st S;exact⟨u,Y,q u H (ae.refl H) (.of r)⟩
  |own _=>cases J
  |brw _=>cases J
  |ownD _=>cases J
  |ownO _ _ _=>cases J
  |brwO _ _=>cases J
  |brwD _=>cases J
def CM(h:aD X.N X.env.scope i x=true):PE X (.Name x pos) (tE X.K cal (.bor i)):=by
 refine(cn h).imp λσ H Q U=>?_
 refine bH U λB E O G v st J q=>?_
 rw[ev]at J;cases S:(G[i]?).join with
 |none=>rw[S]at J;exact bn J
 |some m =>
  rw[S]at J;refine ag (bC st S) λu Y r=>?_
  exact⟨u,Y,q u H (ae.refl H) ⟨r.bor st.keep J,λz=>sW z⟩⟩
def CN(h:t8 v c=true):PE X (.Constant c j pos) (tE X.K cal (.cst v)):=by
 have key:∀u,(∀F,Rep X.K F v u)->PE X (.Constant c j pos) _->PE X _ (tE X.K cal (.cst v)):=λu r p=>p.imp λσ H Q J=>by
  refine bH J λB E O G w st S q=>?_
  cases S;exact q u H (ae.refl H) (.scal r)
 cases v<;>cases c<;>simp[t8,LI,Kt]at h
 .exact key .non (λF=>qm F) xE
 .subst h;exact key _ (λF=>cX F _) i_
 .subst h;exact key _ (λF=>aR F _) dh
 .subst h;exact key _ (λF=>iV F _) pJ
def yN(g:Gf X T k cal)(h:(x==y&&glB X.env.scope x&&CH T.gs x v&&aJ x)=true):PE X (.Name y pos) (tE X.K cal (.glob x v)):=by
 simp[ll,Kt]at h;obtain⟨⟨⟨rfl,Y⟩,Z⟩,hp⟩:=h;refine ag (Le.mp Z) λp U S=>?_
 simp[ll,Kt]at S;obtain⟨rfl,J⟩:=S;refine ag (g.gs p U) λu e1 r=>?_
 have e:p.2=v/\∀F,Rep X.K F v (toV v):=by
  revert J;generalize p.2=z;intro J;cases z<;>cases v<;>simp[CG,LI,Kt]at J
  .exact⟨rfl,λF=>qm F⟩
  .subst J;exact⟨rfl,λF=>cX F _⟩
  .subst J;exact⟨rfl,λF=>aR F _⟩
  .subst J;exact⟨rfl,λF=>iV F _⟩
 rw[e.1]at r;refine(jI (cY Y) e1 r (ml hp).1).imp λσ H Q hq=>?_
 refine bH hq λB E O G w st he q=>?_
 cases he;exact q _ H (ae.refl H) (.scal e.2)
end
section
variable{X:Cx}
noncomputable def R2M(K:MP)(f:PV->PV->Option PV):R2:=λJ S H Q =>
 ∃O x y v,(∀a∈O,H a≠none)/\b8 K H O x J/\b8 K H O y S/\f x y=some v/\∀u H',ae H H'->Rep K (ah H' O) v u->Q u H'
def lv{g:Int->Int->Int}(h:OpR X (binaryOp op) (rI C λi j=>.int (g i j)))
  (Y:∀x y v,f x y=some v->∃i j,x=.int i/\y=.int j/\C i j/\v=.int (g i j)):OpR X (binaryOp op) (R2M X.K f):=by
 intro pins s σ H ux uy v u Q I Z ry hq;refine cw λZq kq=>?_
 refine oE hq λO x y w hO r1 r2 e q=>?_
 refine jF (Y x y w e) λi j J S c U=>?_
 subst J;subst S;subst U;have e1:=r1.int;have e2:=r2.int;subst e1 e2;refine kq ?_;exact h pins s σ H _ _ v u Q I Z ry ⟨i,j,rfl,rfl,c,q _ H (ae.refl H) (aR _ _)⟩
def Bo:OpR X (binaryOp .Add) (λx y H Q=>∃l b xs zs,x=.ref l/\y=.ref b/\SqL X.K H l xs/\SqL X.K H b zs/\xs.length+zs.length<=sizeLine/\∀p,H p=none->Q (.ref p) (upd H p (.lst (xs++zs)))):=by
 intro pins s σ H x y v u Q I rx ry h;obtain⟨l,b,xs,zs,rfl,rfl,hH,hB,hz,q⟩:=h;subst rx;subst ry;refine bq (I.list hH) λits r pl _=>?_
 refine bq (I.list hB) λJ r2 Z _=>?_
 refine cw λZq kq=>?_
 have l1:=r.length;have l2:=r2.length;obtain⟨⟨cls,dd,data,sl⟩,ho,hc,n,hd⟩:=pl.isList;obtain⟨⟨aL,ao,data2,ar⟩,S,U,n2,Y⟩:=Z.isList;simp only at hc hd U Y;subst hc hd U Y;have e:its.toArray++J.toArray=(its++J).toArray:=by simp
 refine kq ?_;refine MB ⟨_,ho,rfl⟩ ⟨_,S,rfl⟩ noFill_list_add seq_list_add PySem.F.slot_list_add PySem.F.entry_list_add (PySem.F.args_list_add_2 _ _) (list_addW l b its.toArray J.toArray n n2 dd ao sl ar (by rw[oe,oe];omega)) ⟨ho,S,?_⟩;rw[e];exact⟨.ref _,_,I.lnew (t':=s.toks) (r.append r2) (by rw[KU];omega),rfl,q _ I.fresh⟩
def Bp:OpR X (binaryOp .Add) (λx y H Q=>∃a b ys,x=.ref a/\y=.ref b/\SqT X.K H a []/\SqT X.K H b ys/\Q (.ref b) H):=by
 intro pins s σ H x y v u Q I rx ry h;refine cw λZq kq=>?_
 refine oC h λa b ys Z ao ha hb q=>?_
 subst Z;subst ao;subst rx;subst ry;obtain⟨its,r1,⟨⟨c1,d1,t1,l1⟩,ho,hc,n,hd⟩,_⟩:=I.tuple ha;obtain⟨U,r2,⟨⟨c2,d2,t2,l2⟩,Y,ar,n2,aH⟩,_⟩:=I.tuple hb;subst hc;subst hd;subst ar;subst aH;have J:=r1.nil_iff.mpr rfl;have S:=tuple_addW0 a b its.toArray U.toArray n n2 d1 d2 l1 l2 (by simp[J]);refine kq ?_;exact MB ⟨_,ho,rfl⟩ ⟨_,Y,rfl⟩ MC seq_tuple_add PySem.F.slot_tuple_add PySem.F.entry_tuple_add (PySem.F.args_tuple_add_2 _ _) S ⟨ho,Y,.ref b,H,I,rfl,q⟩
def fF(h:jS f x y=some v):∃i j,x=.int i/\y=.int j/\f i j=some v:=by
 cases x<;>try (exact bn h;done)
 cases y<;>try (exact bn h;done)
 exact⟨_,_,rfl,rfl,h⟩
def kr{C:Int->Int->Prop} [∀i j,Decidable (C i j)] {g:Int->Int->Int}{x y v:PV} (h:jS (λi j=>if C i j then some (.int (g i j))else none) x y=some v):∃i j,x=.int i/\y=.int j/\C i j/\v=.int (g i j):=by
 refine au (fF h) λi j S U J=>?_
 by_cases c:C i j
 .rw[if_pos c]at J;exact⟨i,j,S,U,c,(uW J).symm⟩
 .rw[if_neg c]at J;exact bn J
def ET(op):OpR X (binaryOp (EJ op)) (R2M X.K (iu op)):=by
 cases op with
 |sub=>exact lv (C:=λ_ _=>True) (g:=λi j=>i-j) (λpins s σ H x y v u Q I S U h=>DS pins s σ H x y v u Q I S U (by obtain⟨i,j,Y,Z,_,q⟩:=h;exact⟨i,j,Y,Z,q⟩)) (λx y v h=>by
   refine au (fF h) λi j Y Z e3=>?_
   exact⟨i,j,Y,Z,trivial,(uW e3).symm⟩)
 |mul=>exact lv DU λx y v h=>by have q:=kr h;exact q
 |fdiv=>exact lv AR λx y v h=>by have q:=kr h;exact q
 |mod=>exact lv xP λx y v h=>by have q:=kr h;exact q
 |pow=>exact lv DV λx y v h=>by have q:=kr h;exact q
 |shr=>exact lv DZ λx y v h=>by have q:=kr h;exact q
 |add =>
  intro pins s σ H ux uy v u Q I S U hq;refine oE hq λO x y w hO r1 r2 e q=>?_
  cases x<;>try (exact bn e;done)
  all_goals (cases y<;>simp only[iu,CC]at e<;>try (exact bn e;done))
  .cases e;have Y:=r1.int;have Z:=r2.int;subst Y Z;exact DQ pins s σ H _ _ v u Q I S U ⟨_,_,rfl,rfl,q _ H (ae.refl H) (aR _ _)⟩
  .split at e
   .rename_i c;cases e;have Y:=r1.str;have Z:=r2.str;subst Y Z;exact tz pins s σ H _ _ v u Q I S U ⟨_,_,rfl,rfl,xw c (by decide),q _ H (ae.refl H) (iV _ _)⟩
   .exact bn e
  .split at e
   .rename_i c;cases e;refine au r1.tup λa us J s1 t1=>?_
    subst J;refine au r2.tup λb ws J s2 t2=>?_
    subst J;have l1:=t1.length;have l2:=t2.length;have w1:=r1.tupR;have w2:=r2.tupR;by_cases z0:us=[]
    .subst z0;have z1:=eq_nil_of_length_eq_zero l1;subst z1;exact Bp pins s σ H _ _ v u Q I S U ⟨a,b,ws,rfl,rfl,s1,s2,q _ H (ae.refl H) w2⟩
    refine A0 pins s σ H _ _ v u Q I S U ⟨a,b,us,ws,rfl,rfl,s1,s2,z0,gM (by omega),λz=>?_,λz p hp=>?_⟩
    .rw[z,length_nil]at l2;have z1:=eq_nil_of_length_eq_zero l2;subst z1;rw[L1]at q;exact q _ H (ae.refl H) w1
    .exact q _ _ (bE hp _) (ko hO hp (t1.append t2))
   .exact bn e
  .split at e
   .rename_i c;cases e;refine au r1.lst λa us J s1 t1=>?_
    subst J;refine au r2.lst λb ws J s2 t2=>?_
    subst J;have l1:=t1.length;have l2:=t2.length;exact Bo pins s σ H _ _ v u Q I S U ⟨a,b,us,ws,rfl,rfl,s1,s2,gM (by omega),λp hp=>q _ _ (bE hp _) (rV hO hp (t1.append t2))⟩
   .exact bn e
noncomputable def R2C(K:MP)(f:PV->PV->Option Bool):R2:=λJ S H Q =>
 ∃O x y b,b8 K H O x J/\b8 K H O y S/\f x y=some b/\Q (.bl b) H
def mq{g:Int->Int->Bool}(h:OpR X (compareOp op) (rI0 λi j=>.bl (g i j)))
  (Y:∀x y v,f x y=some v->∃i j,x=.int i/\y=.int j/\v=g i j):OpR X (compareOp op) (R2C X.K f):=by
 intro pins s σ H ux uy v u Q I Z ry hq;refine cw λZq kq=>?_
 refine qU hq λO x y w r1 r2 e q=>?_
 refine au (Y x y w e) λi j J S U=>?_
 subst J;subst S;subst U;have e1:=r1.int;have e2:=r2.int;subst e1 e2;refine kq ?_;exact h pins s σ H _ _ v u Q I Z ry ⟨i,j,rfl,rfl,q⟩
def EU:OpR X (compareOp .Is) (λx y H Q=>∃p q,x=.bl p/\y=.bl q/\Q (.bl (p==q)) H):=by
 rintro pins s σ H x y v u Q I J S ⟨p,q,rfl,rfl,U⟩;subst J;subst S;exact ox (bb I U (by cases p<;>cases q<;>rfl))
def wW:OpR X (compareOp .IsNot) (λx y H Q=>∃p q,x=.bl p/\y=.bl q/\Q (.bl (!(p==q))) H):=by
 rintro pins s σ H x y v u Q I J S ⟨p,q,rfl,rfl,U⟩;subst J;subst S;exact ox (bb I U (by cases p<;>cases q<;>rfl))
def vv{K:MP}{x:PV}{u:V}(r:b8 K H O x u):decide (u=.non)=iw x:=by
 cases x with
 |non=>rw[r.non];rfl
 |bl b=>rw[r.bl];rfl
 |int b=>rw[r.int];rfl
 |str b=>rw[r.str];rfl
 |tup xs=>obtain⟨a,us,rfl,_⟩:=r.tup;rfl
 |lst xs=>obtain⟨a,us,rfl,_⟩:=r.lst;rfl
 |dI kvs=>obtain⟨a,rfl,_⟩:=r.dI;rfl
def iJ(hu:X.A.units+200<cLine)(op):OpR X (compareOp (hV op)) (R2C X.K (cT op)):=by
 cases op with
 |lt=>exact mq GS λx y v h=>by obtain⟨i,j,S,J,e3⟩:=fF h;exact⟨i,j,S,J,(uW e3).symm⟩
 |le=>exact mq GT λx y v h=>by obtain⟨i,j,S,J,e3⟩:=fF h;exact⟨i,j,S,J,(uW e3).symm⟩
 |gt=>exact mq GU λx y v h=>by obtain⟨i,j,S,J,e3⟩:=fF h;exact⟨i,j,S,J,(uW e3).symm⟩
 |ge=>exact mq Cz λx y v h=>by obtain⟨i,j,S,J,e3⟩:=fF h;exact⟨i,j,S,J,(uW e3).symm⟩
 |eq =>
  intro pins s σ H Z uy v u Q I U Y hq;refine qU hq λO x y w r1 r2 e q=>?_
  exact EQ (by omega) pins s σ H Z uy v u Q I U Y ⟨x,y,w,r1.whole,r2.whole,e,q⟩
 |ne =>
  intro pins s σ H Z uy v u Q I U Y hq;refine qU hq λO x y w r1 r2 e q=>?_
  simp only[cT]at e;split at e
  .rename_i c;simp only[ti]at e;obtain⟨b,e,rfl⟩:=e;exact ER (by omega) pins s σ H Z uy v u Q I U Y ⟨x,y,b,r1.whole,r2.whole,c,e,q⟩
  .exact bn e
 |isN =>
  intro pins s σ H Z uy v u Q I U Y hq;obtain⟨O,x,y,w,r1,r2,e,q⟩:=hq;cases y<;>try (exact bn e;done)
  .have J:=r2.non;subst J;refine Ea pins s σ H Z _ v u Q I U Y ⟨rfl,?_⟩;have e:=e;rw[vv r1,uW e];exact q
  .cases x<;>try (exact bn e;done)
   have S:=r1.bl;have J:=r2.bl;subst S J;exact EU pins s σ H _ _ v u Q I U Y ⟨_,_,rfl,rfl,by rw[uW e];exact q⟩
 |notN =>
  intro pins s σ H Z uy v u Q I U Y hq;obtain⟨O,x,y,w,r1,r2,e,q⟩:=hq;cases y<;>try (exact bn e;done)
  .have J:=r2.non;subst J;refine uZ pins s σ H Z _ v u Q I U Y ⟨rfl,?_⟩;have e:some (!iw x)=some w:=e;rw[vv r1,uW e];exact q
  .cases x<;>try (exact bn e;done)
   have S:=r1.bl;have J:=r2.bl;subst S J;cases e;exact wW pins s σ H _ _ v u Q I U Y ⟨_,_,rfl,rfl,q⟩
 |isIn =>
  intro pins s σ H Z uy v u Q I U Y hq;refine qU hq λO x y w r1 r2 e q=>?_
  simp only[cT,gI]at e;obtain⟨xs,S,J⟩:=e;refine au (r2.seq S) λa us aL s2 t2=>?_
  subst aL;exact ES (by omega) pins s σ H Z _ v u Q I U Y ⟨x,_,a,us,w,r1.whole,rfl,s2,Reps.mono (a_ H O) _ t2,J,q⟩
 |notIn =>
  intro pins s σ H Z uy v u Q I U Y hq;refine qU hq λO x y w r1 r2 e q=>?_
  simp only[cT,gI,ti]at e;obtain⟨b,⟨xs,S,J⟩,rfl⟩:=e;refine au (r2.seq S) λa us aL s2 t2=>?_
  subst aL;exact wV (by omega) pins s σ H Z _ v u Q I U Y ⟨x,_,a,us,b,r1.whole,rfl,s2,Reps.mono (a_ H O) _ t2,J,q⟩
def rW(n)(i):gh n i=ixN n i:=rfl
def EV:IxR X (R2M X.K jU):=by
 intro value slice pins s σ H ux uy v u Q I rx ry hq J;refine oE hq λO x y w hO r1 r2 e q=>?_
 cases x<;>cases y<;>simp only[jU]at e<;>try (exact bn e;done)
 .simp only[gI]at e;obtain⟨j,Y,Z⟩:=e;obtain⟨a,us,rfl,s1,U⟩:=r1.tup;have e3:=r2.int;subst e3;obtain⟨uw,e4,S⟩:=U.get Z;refine ya value slice pins s σ H _ _ v u Q I rx ry (.inr (.inl ⟨a,us,_,uw,rfl,rfl,s1,?_,q uw H (ae.refl H) S⟩)) J;unfold atI;rw[<- U.length,<- rW,Y];exact e4
 .simp only[gI]at e;obtain⟨j,Y,Z⟩:=e;obtain⟨a,us,rfl,s1,U⟩:=r1.lst;have e3:=r2.int;subst e3;obtain⟨uw,e4,S⟩:=U.get Z;refine ya value slice pins s σ H _ _ v u Q I rx ry (.inl ⟨a,us,_,uw,rfl,rfl,s1,?_,q uw H (ae.refl H) S⟩) J;unfold atI;rw[<- U.length,<- rW,Y];exact e4
def t9(h:eX b=true):vc b:=by
 intro o i;cases b<;>first|rfl|(injection h)
def rX{K:MP}(h:Reps K F xs us)(lo hi):Reps K F (cut xs lo hi) (rA us lo hi):=by
 have J:=h.length;have e:∀n d o,jd n d o=HT.sIx n d o:=λn d o=>by cases o<;>rfl
 unfold cut rA;rw[e,e,J];exact(h.drop _).take _
def EW:SlR X (λx lo hi H Q=>∃O v w,(∀a∈O,H a≠none)/\b8 X.K H O v x/\gi v lo hi=some w/\∀u H',ae H H'->Rep X.K (ah H' O) w u->Q u H'):=by
 intro pins s σ H x v U Y lo hi Z Q I rx hs pl pu hq;refine mD hq λO pv w hO r1 e q=>?_
 cases pv<;>simp only[gi]at e<;>try (exact bn e;done)
 .rename_i xs;cases e;obtain⟨a,us,rfl,s1,J⟩:=r1.tup;have e:∀n d o,jd n d o=HT.sIx n d o:=λn d o=>by cases o<;>rfl
  by_cases hn:HT.sIx us.length 0 lo=0/\HT.sIx us.length us.length hi=us.length
  .refine Bd pins s σ H _ v U Y lo hi Z Q I rx hs pl pu ⟨a,us,rfl,s1,hn.1,hn.2,q _ _ (ae.refl H) ?_⟩;have:cut xs lo hi=xs:=by
    unfold cut;rw[e,e,J.length,hn.1,hn.2,drop_zero,<- J.length,Nat.sub_zero,take_length]
   rw[this];exact r1.tupR
  .exact Ee pins s σ H _ v U Y lo hi Z Q I rx hs pl pu ⟨a,us,rfl,s1,hn,λp S=>q _ _ (bE S _) (ko hO S (rX J lo hi))⟩
 .cases e;obtain⟨a,us,rfl,s1,J⟩:=r1.lst;exact A1 pins s σ H _ v U Y lo hi Z Q I rx hs pl pu ⟨a,us,rfl,s1,λp S=>q _ _ (bE S _) (rV hO S (rX J lo hi))⟩
end
theorem vz(x):∀l,yr x l=Srt.lV Srt.dM x l
 | []=>rfl
 |y::r=>by
  show(if y<x then y::yr x r else x::y::r)=(if Srt.dM.blt y x=true then y::Srt.lV Srt.dM x r else x::y::r);rw[vz x r];by_cases h:y<x
  .have e:Srt.dM.blt y x=true:=Ks h;rw[if_pos h,if_pos e]
  .have e:Srt.dM.blt y x=false:=KH h;rw[if_neg h,if_neg (by rw[e];exact kn)]
theorem eZ:∀l,sortI l=Srt.sortI l
 | []=>rfl
 |x::r=>by
  show yr x (sortI r)=Srt.lV Srt.dM x (Srt.ir Srt.dM r);rw[eZ r,vz];rfl
theorem kz:∀a b,lexLt a b=HT.lexLt a b
 | [],[]=>rfl
 | [],_::_=>rfl
 | _::_,[]=>rfl
 |x::xs,y::ys=>by
  rw[lexLt,HT.lexLt_cons,kz xs ys]
theorem vA(x):∀l,yt x l=Srt.lV Srt.eE x l
 | []=>rfl
 |y::r=>by
  show(if lexLt y x=true then y::yt x r else x::y::r)=(if Srt.eE.blt y x=true then y::Srt.lV Srt.eE x r else x::y::r);rw[vA x r,kz]
  rfl
theorem fU:∀l,sortT l=Srt.sortT l
 | []=>rfl
 |x::r=>by
  show yt x (sortT r)=Srt.lV Srt.eE x (Srt.ir Srt.eE r);rw[fU r,vA];rfl
section
variable{X:Cx}{T:Tab}{k:Nat}{cal:Cal}
def RBM(K:MP)(f:List PV->Option PV):List V->Hp->VK->Prop:=λus H Q =>
 ∃O vs v,(∀a∈O,H a≠none)/\Paired (b8 K H O) vs us/\f vs=some v/\∀u H',ae H H'->Rep K (ah H' O) v u->Q u H'
def p1{K:MP}(h:Paired (b8 K H O) [x] us):∃u,us=[u]/\b8 K H O x u:=by
 cases h with
 |cons r t=>cases t;exact⟨_,rfl,r⟩
def p2{K:MP}(h:Paired (b8 K H O) [x,y] us):∃u w,us=[u,w]/\b8 K H O x u/\b8 K H O y w:=by
 cases h with
 |cons r t=>cases t with
  |cons J t'=>cases t';exact⟨_,_,rfl,r,J⟩
def fm(h:aY f vs=some v)(J:lq f=some 1\/(dS f).isSome=true\/f=.sortedSet\/f=.lenSet\/f=.valuesOf):∃x,vs=[x]:=by
 cases vs with
 |nil=>cases f<;>injection h
 |cons x r=>cases r<;>first|exact⟨x,rfl⟩|(cases f<;>simp[aY,dw,jV,lq,dS]at h J)
def Hg:dy X (.builtin "len") (RBM X.K (aY .len)):=by
 intro pins s σ H xs us Q I r h;obtain⟨O,vs,v,hO,rs,e,q⟩:=h;obtain⟨x,rfl⟩:=fm e (.inl rfl);obtain⟨u,rfl,S⟩:=p1 rs;cases x<;>simp only[aY,dw,CD]at e<;>try (cases e;done)
 .cases e;obtain⟨a,ws,rfl,s1,U⟩:=S.tup;exact fw pins s σ H _ us Q I r ⟨a,ws,rfl,.inr s1,by rw[<- U.length];exact q _ H (ae.refl H) (aR _ _)⟩
 .cases e;obtain⟨a,ws,rfl,s1,U⟩:=S.lst;exact fw pins s σ H _ us Q I r ⟨a,ws,rfl,.inl s1,by rw[<- U.length];exact q _ H (ae.refl H) (aR _ _)⟩
 .rename_i d;cases d with
  |t kvs=>cases e
  |k kvs =>
   cases e;obtain⟨a,rfl,ha⟩:=S.dI;obtain⟨u,rfl,Z⟩:=jL r;cases Z;obtain⟨hz,hs,ws,Y,dd⟩:=jO I.hok (show Rd H a (.dK (gK kvs))from ha.rd);have J:ws.length=kvs.length:=by rw[<- Y.length];unfold gK;rw[tr]
   have hz:kvs.length<=sizeLine:=by unfold gK at hz;rw[tr]at hz;exact hz
   have hn:=kU;exact call_len_dict hs dd (by rw[J];omega) ⟨.int kvs.length,H,I.tok _,⟨s.toks+1,by rw[J]⟩,q _ H (ae.refl H) (aR _ _)⟩
def Bq:dy X (.type "tuple") (RBM X.K (aY .tupleOf)):=by
 intro pins s σ H xs us Q I r h;refine mD h λO vs v Z rs e q=>?_
 obtain⟨x,rfl⟩:=fm e (.inl rfl);refine ag (p1 rs) λu J S=>?_
 subst J;simp only[aY,dw,pZ,jT,jV,ti]at e;obtain⟨ys,e,rfl⟩:=e;cases x<;>simp[cx]at e
 .subst e;obtain⟨a,ws,rfl,s1,U⟩:=S.tup;refine jb pins s σ H _ us Q I r ⟨a,ws,rfl,.inr ⟨s1,q _ H (ae.refl H) ?_⟩⟩;exact S.tupR
 .subst e;obtain⟨a,ws,rfl,s1,U⟩:=S.lst;exact jb pins s σ H _ us Q I r ⟨a,ws,rfl,.inl ⟨s1,λl Y=>q _ _ (bE Y _) (ko Z Y U)⟩⟩
def RBF(K:MP)(f:List PV->Option PV):List V->Hp->VK->Prop:=λus H Q =>
 ∃O vs xs,(∀a∈O,H a≠none)/\Paired (b8 K H O) vs us/\f vs=some (.lst xs)/\∀l ws,H l=none->Reps K (ah H O) xs ws->Q (.ref l) (upd H l (.lst ws))
def EX:dy X (.type "list") (RBF X.K (aY .listOf)):=by
 intro pins s σ H xs us Q I r h;refine mD h λO vs v hO rs e q=>?_
 obtain⟨x,rfl⟩:=fm e (.inl rfl);refine ag (p1 rs) λu J U=>?_
 subst J;simp only[aY,dw,pZ,jT,jV,ti,PV.lst.injEq,exists_eq_right]at e;refine au (U.seq e) λa ws S s1 Y=>?_
 subst S;exact pR pins s σ H _ us Q I r ⟨a,ws,rfl,s1,λl Z=>q l ws Z Y⟩
theorem oZ{K:MP} :∀{J}{us},Reps K F (J.map λt=>.tup (t.map .int)) us->tU K F us J
 | [],_,h=>by rw[map_nil,Reps]at h;subst h;exact .nil
 |t::J,_,h=>by
  refine au h λu r S q z=>?_
  subst S;refine au q λa vs e s1 r1=>?_
  rw[r1.ints]at s1;exact .cons ⟨a,e,fh s1⟩ (oZ z)
theorem o3{K:MP}(s:ae F F'):∀{us}{J},tU K F us J->tU K F' us J
 | _,_,.nil=>.nil
 | _,_,.cons ⟨a,S,U⟩ t=>.cons ⟨a,S,s.seqT U⟩ (o3 s t)
theorem o4{K:MP}(h:Reps K F xs us):∀(l:List Nat),(∀i∈l,i<us.length)->Reps K F (l.map λi=>xs.getD i .non) (l.map λi=>us.getD i .non)
 | [],_=>.nil
 |i::l,J=>by
  have hi:=J i (.head _);have S:i<xs.length:=by rw[h.length];exact hi
  refine ag (h.get (Kz S)) λu Y Z=>?_
  refine .cons ?_ (o4 h l λj U=>J j (.tail _ U))
  simp_all
def yO (g:Gf X T k cal):dy X (.builtin "sorted") (RBF X.K (aY .sorted)):=by
 intro pins s σ H xs us Q I r h;refine cw λZq kq=>?_
 refine mD h λO vs v hO rs e q=>?_
 obtain⟨x,rfl⟩:=fm e (.inl rfl);refine ag (p1 rs) λu Z rx=>?_
 subst Z;simp only[aY,dw,pZ,jT,jV,gI]at e;obtain⟨ys,e,S⟩:=e;refine au (rx.seq e) λa ws ao s1 U=>?_
 subst ao;unfold iH at S;refine kq ?_;split at S
 .rename_i J;split at S
  .rename_i ns hn;cases S;have:=jX hn;subst this;have e3:=U.ints;subst e3;rw[tr]at J;refine pW g.calm pins s σ H _ us Q I r ⟨a,ns,rfl,s1.imp id .inl,J,λl hl=>?_⟩;rw[<- eZ];exact q l _ hl (.of_ints _)
  .simp only[ti,PV.lst.injEq]at S;obtain⟨Y,e3,rfl⟩:=S;have:=rL e3;subst this;rw[tr]at J;refine pX (by have:=g.units;omega) pins s σ H _ us Q I r ⟨a,ws,Y,rfl,s1,o3 (a_ H O) (oZ U),J,λl pm hl hp e=>q l _ hl ?_⟩;have q2:=o4 U pm hp;have e4:(pm.map λi=>(Y.map λt=>PV.tup (t.map .int)).getD i .non)=(sortT Y).map λt=>.tup (t.map .int):=by
    rw[fU,<- e,KY];refine Lp λi hi=>?_
    have aL:i<Y.length:=by have:=hp i hi;rw[<- U.length,tr]at this;exact this
    simp[aL]
   rw[e4]at q2;exact q2
 .exact bn S
def vB(h:jT x=some ys):x=.lst ys:=by
 cases x<;>cases h
 rfl
def EY (J:dS b=some c):dy X (.builtin "isinstance") (λus H Q=>∃O v u,us=[u,.ty c]/\isD v=false/\b8 X.K H O v u/\Q (.bl (isT b v)) H):=by
 intro pins s σ H xs us Q I r h;obtain⟨O,v,x,rfl,nd,S,q⟩:=h;obtain⟨u,t,rfl,r1,rc⟩:=GV r;have U:=rc;subst U;have fin:∀z tk,z=isT b v->EP X pins σ Q (.bool z) { s with toks:=tk }:=λz tk e=>⟨.bl z,H,I.tok tk,rfl,by rw[e];exact q⟩
 cases v with
 |dI _=>cases nd
 |non =>
  have e:=S.non;subst e;cases (show u=Value.none from r1);cases b<;>simp only[dS,mn,reduceCtorEq]at J<;>subst J <;>
   exact PySem.W.kia_one PySem.W.kitx_none I.kIn True.intro (b:=false) (by first|rfl|kernel_rfl|decide) (λz=>nomatch z) λtk=>fin _ tk rfl
 |bl y =>
  have e:=S.bl;subst e;cases (show u=Value.bool y from r1);cases b<;>simp only[dS,mn,reduceCtorEq]at J<;>subst J<;>first
   |exact PySem.W.kia_one PySem.W.kitx_bool I.kIn True.intro (b:=true) (by first|rfl|kernel_rfl|decide) (λz=>nomatch z) λtk=>fin _ tk rfl
   |exact PySem.W.kia_one PySem.W.kitx_bool I.kIn True.intro (b:=false) (by first|rfl|kernel_rfl|decide) (λz=>nomatch z) λtk=>fin _ tk rfl
 |int y =>
  have e:=S.int;subst e;obtain⟨t,z⟩:=(show ∃t,u=Value.int y t from r1);cases z;cases b<;>simp only[dS,mn,reduceCtorEq]at J<;>subst J<;>first
   |exact PySem.W.kia_one PySem.W.kitx_int I.kIn True.intro (b:=true) (by first|rfl|kernel_rfl|decide) (λz=>nomatch z) λtk=>fin _ tk rfl
   |exact PySem.W.kia_one PySem.W.kitx_int I.kIn True.intro (b:=false) (by first|rfl|kernel_rfl|decide) (λz=>nomatch z) λtk=>fin _ tk rfl
 |str y =>
  have e:=S.str;subst e;obtain⟨t,z⟩:=(show ∃t,u=Value.str y t from r1);cases z;cases b<;>simp only[dS,mn,reduceCtorEq]at J<;>subst J<;>first
   |exact PySem.W.kia_one PySem.W.kitx_str I.kIn True.intro (b:=true) (by first|rfl|kernel_rfl|decide) (λz=>nomatch z) λtk=>fin _ tk rfl
   |exact PySem.W.kia_one PySem.W.kitx_str I.kIn True.intro (b:=false) (by first|rfl|kernel_rfl|decide) (λz=>nomatch z) λtk=>fin _ tk rfl
 |lst ys =>
  obtain⟨a,us,rfl,s1,Y⟩:=S.lst;cases (show u=Value.ref a from r1);obtain⟨its,_,p,_⟩:=I.list s1;obtain⟨o,h1,h2,_⟩:=p.isList;cases b<;>simp only[dS,mn,reduceCtorEq]at J<;>subst J<;>first
   |exact PySem.W.kia_one PySem.W.kitx_list I.kIn ⟨o,h1,h2⟩ (b:=true) (by first|rfl|kernel_rfl|decide) (λz=>nomatch z) λtk=>fin _ tk rfl
   |exact PySem.W.kia_one PySem.W.kitx_list I.kIn ⟨o,h1,h2⟩ (b:=false) (by first|rfl|kernel_rfl|decide) (λz=>nomatch z) λtk=>fin _ tk rfl
 |tup ys =>
  obtain⟨a,us,rfl,s1,Y⟩:=S.tup;cases (show u=Value.ref a from r1);obtain⟨its,_,p,_⟩:=I.tuple s1;obtain⟨o,h1,h2,_⟩:=p;cases b<;>simp only[dS,mn,reduceCtorEq]at J<;>subst J<;>first
   |exact PySem.W.kia_one PySem.W.kitx_tuple I.kIn ⟨o,h1,h2⟩ (b:=true) (by first|rfl|kernel_rfl|decide) (λz=>nomatch z) λtk=>fin _ tk rfl
   |exact PySem.W.kia_one PySem.W.kitx_tuple I.kIn ⟨o,h1,h2⟩ (b:=false) (by first|rfl|kernel_rfl|decide) (λz=>nomatch z) λtk=>fin _ tk rfl
theorem jq{K:MP} :∀{bs:List Bool}{us}{its},Reps K F (bs.map .bl) us->aN us its->its=bs.map Value.bool
 | [],_,_,h,w=>by rw[map_nil,Reps]at h;subst h;cases w;rfl
 |b::bs,_,_,h,w=>by
  refine au h λu r J q t=>?_
  subst J;subst q;cases w with
  |cons r1 S =>
   subst r1;rw[jq t S];rfl
def wX(bs:List Bool):(range bs.length).all (λi=>bs.getD i false)=bs.all id:=by
 conv=>rhs;rw[<- Srt.iS bs false]
 rw[MH]
 rfl
def wY(bs:List Bool):(range bs.length).any (λi=>bs.getD i false)=bs.any id:=by
 conv=>rhs;rw[<- Srt.iS bs false]
 rw[MI]
 rfl
def lP(bs:List Bool):TruthOf P w A (λi v=>(bs.map Value.bool).toArray[i]?=some v) (λi=>bs.getD i false):=by
 intro i v s Q E h q;simp only[getElem?_toArray,Kx,ti]at h;obtain⟨b,e,rfl⟩:=h;have:bs.getD i false=b:=by rw[Lv,e];rfl
 have J:Q (bs.getD i false) s:=q;rw[this]at J;exact KZ J
def Hh (hc:X.calm=true):dy X (.builtin "any") (RBM X.K (aY .any)):=by
 intro pins s σ H xs us Q I r h;refine mD h λO vs v hO rs e q=>?_
 obtain⟨x,rfl⟩:=fm e (.inl rfl);refine ag (p1 rs) λu J Y=>?_
 subst J;simp only[aY,dw,gI,ti]at e;obtain⟨ys,Z,bs,e,rfl⟩:=e;obtain rfl:=vB Z;have:=lm e;subst this;refine au Y.lst λa ws S s1 t1=>?_
 subst S;refine ag (jL r) λu J ru=>?_
 subst J;subst ru;refine bq (I.list s1) λits r' pl hz=>?_
 have:=jq t1 r';subst this;have U:a<s.heap.objs.size:=by obtain⟨o,ho,_⟩:=pl.isList;exact u0 ho
 refine call_any_walk (Mp pl.isList ?_);refine⟨s.heap.objs.size,_,_,_,_,_,λi=>bs.getD i false,rfl,Walks.list (by first|exact I.ok.hd hc|simpa using I.ok.hd hc) s.heap.objs.size a (KA U) (bs.map Value.bool).toArray,⟨⟨_,Kv _ rfl,rfl,rfl⟩,pl.isList.push _⟩,lP bs,λh' tk hk=>?_⟩;have e2:(range (bs.map Value.bool).toArray.size).any (λi=>bs.getD i false)=bs.any id:=by
  rw[oe,tr];exact wY bs
 rw[e2];refine⟨.bl _,H,?_,rfl,q _ H (ae.refl H) (cX _ _)⟩;refine I.kept (t':=tk) λb o e=>hk b o ?_ (mu _ e)
 intro hm;have hb:=u0 e
 simp_all
def Hi (hc:X.calm=true):dy X (.builtin "all") (RBM X.K (aY .all)):=by
 intro pins s σ H xs us Q I r h;refine mD h λO vs v hO rs e q=>?_
 obtain⟨x,rfl⟩:=fm e (.inl rfl);refine ag (p1 rs) λu J Y=>?_
 subst J;simp only[aY,dw,gI,ti]at e;obtain⟨ys,Z,bs,e,rfl⟩:=e;obtain rfl:=vB Z;have:=lm e;subst this;refine au Y.lst λa ws S s1 t1=>?_
 subst S;refine ag (jL r) λu J ru=>?_
 subst J;subst ru;refine bq (I.list s1) λits r' pl hz=>?_
 have:=jq t1 r';subst this;have U:a<s.heap.objs.size:=by obtain⟨o,ho,_⟩:=pl.isList;exact u0 ho
 refine call_all_walk (Mp pl.isList ?_);refine⟨s.heap.objs.size,_,_,_,_,_,λi=>bs.getD i false,rfl,Walks.list (by first|exact I.ok.hd hc|simpa using I.ok.hd hc) s.heap.objs.size a (KA U) (bs.map Value.bool).toArray,⟨⟨_,Kv _ rfl,rfl,rfl⟩,pl.isList.push _⟩,lP bs,λh' tk hk=>?_⟩;have e2:(range (bs.map Value.bool).toArray.size).all (λi=>bs.getD i false)=bs.all id:=by
  rw[oe,tr];exact wX bs
 rw[e2];refine⟨.bl _,H,?_,rfl,q _ H (ae.refl H) (cX _ _)⟩;refine I.kept (t':=tk) λb o e=>hk b o ?_ (mu _ e)
 intro hm;have hb:=u0 e;simp at hm;exact absurd hm (KA hb)
end
end MM
namespace L2
open PySem PySem.Spec PyProof.Rows List Option
def Inv.turned2(I:Inv X pins σ H s)(he:s.heap.get? e=some J)(hf:J.isFreed=false)(Y:∃o,h'.get? e=some o)
  (k:∀b o,b≠e->b≠it->s.heap.get? b=some o->h'.get? b=some o) (fe:jJ X pins H e) (fi:jJ X pins H it):Inv X pins σ H { s with heap:=h',toks:=t' }:=by
 obtain⟨o',Z⟩:=Y;refine jE fe λa0 a1 a2 a3 a4 a5=>?_
 refine jE fi λb0 b1 b2 b3 b4 b5=>?_
 have ao:(h'.update e λ_=>J).get? e=some J:=LO _ Z hf;have S:∀b,b≠e->(h'.update e λ_=>J).get? b=h'.get? b:=λb U=>(LB h' e _).2 b U
 have I1:Inv X pins σ H { s with heap:=h'.update e λ_=>J,toks:=t' }:=I.turned (it:=it) (λb o U q=>by
  by_cases z:b=e
  .subst z;rw[ao,<- he];exact q
  .rw[S b z];exact k b o z U q) b0 b1 b3 b4 b5
 exact Inv.turned (s:={ s with heap:=h'.update e λ_=>J,toks:=t' }) (it:=e) I1 (λb o U q=>by
  have q:=q;rw[S b U]at q;exact q) a0 a1 a3 a4 a5
noncomputable def Ite(q:Hp->List V->Prop):It:=
 ⟨λi H=>∃xs,q H xs/\i<xs.length,λi H x H'=>∃p,x=.ref p/\H p=none/\∃u,H'=upd H p (.tup [.int i,u])/\∀xs,q H xs->xs[i]?=some u,λi H=>∃xs,q H xs/\i=xs.length⟩
structure Src(P:Program)(w:World)(K:MP)(a it:Addr)(q:Hp->List V->Prop)(r:Nat->Heap->Prop):Prop where
 ne:a≠it
 keep:∀i h h',r i h->(∀o,h.get? it=some o->h'.get? it=some o)->r i h'
 live:∀i h,r i h->∃o,h.get? it=some o/\∀v,o.data≠.cell v
 one:∀(X:Cx),X.K=K->∀(pins:List (Addr×Obj)) (s:Shared) (σ:St) (H:Hp) (xs ys:List V),Inv X pins σ H s->q H xs->q H ys->xs=ys
 row:∀(X:Cx),X.prog=P->X.w=w->X.K=K->∀(pins:List (Addr×Obj)) (s:Shared) (σ:St) (H:Hp) (xs:List V),Inv X pins σ H s->q H xs->∃(its:List Value),aN xs its/\∀(A:Around),A.handled=none ->
  ∃St:Nat->Heap->Prop,Draws P w A it [it,a] its.length (λi v=>its[i]?=some v) St/\(∀i,r i s.heap->St i s.heap)/\∀i h,St i h->r i h
def yP{K:MP}(S:Src P w K a it q r)(ar:e≠it)(a4:e≠a) :
  re P w K (.Tuple ts j tp) (Ite q) [e,it] e (λi h=>(∃old,IsEnum h e it (i:Nat) old)/\r i h) where
 mem:=.head _
 obj:=λi h st b J=>by
  obtain⟨⟨old,U⟩,Y⟩:=st;rcases nW.mp J with rfl|J
  .exact⟨_,U,λv z=>by cases z⟩
  .have z:b=it:=by simpa using J
   subst z;exact S.live i h Y
 keep:=λi h h' ⟨⟨old,U⟩,Y⟩ k=>⟨⟨old,k e (.head _) _ U⟩,S.keep i h h' Y (k it (.tail _ (.head _)))⟩
 item:=by
  intro X hP hw hK hc i pins s σ H E I hf st hg;obtain⟨⟨old,U⟩,Y⟩:=st;refine ag hg λxs hq hi=>?_
  refine ag (S.row X hP hw hK pins s σ H xs I hq) λits rv dr=>?_
  have hh:=I.ok.hd hc;refine bq (dr X.A.in1 hh) λSt D Z aH=>?_
  have hl:=rv.length;have fe:=hf e (.head _);have fi:=hf it (.tail _ (.head _));refine wpAny_pyNext_enum_itemD D U (Z i Y) (by omega) ar (by simp only[nW,xm,Ky,not_or];exact⟨ar,a4⟩) λx h' tk px eo bO tup sz kp=>?_
  refine⟨_,rfl,wpAny_letOwnedTupleGo_enum eo λh2 aL aP=>?_⟩;have hx:=hi;refine ag (rv.get (Kz hx)) λu hu ru=>?_
  have ex:x=u:=by
   have:=px.symm.trans hu;simpa using this
  subst ex;have fresh:=I.hok.fresh (pe _);have ne:∀b o,s.heap.get? b=some o->b≠s.heap.objs.size:=λb o q z=>La _ (by have:=u0 q;rw[z]at this;exact this)
  have en:=ne _ _ U;refine ag (S.live i _ Y) λoi bP _=>?_
  have inn:=ne _ _ bP;have I1:Inv X pins σ (upd H s.heap.objs.size (.tup [.int i,xs[i]])) { s with heap:=s.heap.push { cls:=.type "tuple",data:=.seq #[.int i tk,x] } }:=
   I.laid (t':=s.toks) (λb o q=>mu _ q) (pe _) ⟨by show 2<=sizeLine;decide,_,.cons ⟨_,rfl⟩ (.cons ru .nil),IsTup.new _ _⟩
  have up:∀b,b≠s.heap.objs.size->jJ X pins H b->jJ X pins (upd H s.heap.objs.size (.tup [.int i,xs[i]])) b:=λb J hq=>qT hq λz r=>⟨by rw[aA J];exact z,r⟩
  have I2:=I1.turned2 (h':=h2) (t':=tk+1) (e:=e) (it:=it) (mu _ U) rfl ⟨_,aL⟩ (λb o a0 bR q=>?_) (up e en fe) (up it inn fi)
  .refine⟨.ref s.heap.objs.size,_,I2,rfl,⟨_,rfl,fresh,_,rfl,λys hy=>?_⟩,⟨⟨_,by simpa using aL⟩,?_⟩,λb J=>?_⟩
   .rw[S.one X hK pins s σ H ys xs I hy hq];exact Kz hx
   .refine aH _ _ (D.frame _ _ _ bO λb J o q=>?_);rw[aP.2 b λz=>?_]
    .exact q
    .simp_all
   .rcases nW.mp J with rfl|J
    .exact(up b en fe).1
    .have z:b=it:=by simpa using J
     subst z;exact(up b inn fi).1
  .rw[aP.2 b a0];rcases Heap.get?_push_cases q with⟨rfl,rfl⟩|q
   .exact tup
   .exact kp b o a0 bR q
 done:=by
  intro X hP hw hK hc i pins s σ H E I hf st hg;obtain⟨⟨old,U⟩,Y⟩:=st;refine ag hg λxs hq hi=>?_
  refine ag (S.row X hP hw hK pins s σ H xs I hq) λits rv dr=>?_
  have hh:=I.ok.hd hc;refine bq (dr X.A.in1 hh) λSt D Z aH=>?_
  have hl:=rv.length;refine jE (hf it (.tail _ (.head _))) λf0 f1 f2 f3 f4 f5=>?_
  have e:i=its.length:=by exact(by simp[*])
  subst e;exact wpAny_pyNext_enum_endD D U (Z _ Y) λh' eb=>⟨rfl,I.turned (t':=s.toks) (λb o J q=>eb b o J q) f0 f1 f3 f4 f5⟩
 self:=λ_ i s Q E ⟨⟨old,U⟩,_⟩ h=>wpAny_pyIter_enum U h
def yQ{K:MP}(ne:a≠it):Src P w K a it (λH xs=>SqL K H a xs) (λi h=>h.IsListIter it a i) where
 ne:=ne
 keep:=λi h h' ⟨o,J,r⟩ k=>⟨o,k o J,r⟩
 live:=λi h S=>bq S λo J _ hd=>⟨o,J,λv z=>by rw[hd]at z;cases z⟩
 one:=λX hK pins s σ H xs ys I h h'=>by subst hK;exact I.list_inj h h'
 row:=λX U hw hK pins s σ H xs I h=>by
  subst U hw hK;refine bq (I.list h) λits Y p _=>?_
  refine⟨its,Y,λA Z=>⟨λi h=>h.IsListIter it a i/\h.IsList a its.toArray,?_,λi st=>⟨st,p.isList⟩,λi h' st=>st.1⟩⟩;simpa using Draws.list (prog:=X.prog) (w:=X.w) Z it a ne its.toArray
def Br{K:MP}(ne:a≠it):Src P w K a it (λH xs=>SqT K H a xs) (λi h=>h.IsTupleIter it a i) where
 ne:=ne
 keep:=λi h h' ⟨o,J,r⟩ k=>⟨o,k o J,r⟩
 live:=λi h S=>bq S λo J _ hd=>⟨o,J,λv z=>by rw[hd]at z;cases z⟩
 one:=λX hK pins s σ H xs ys I h h'=>by subst hK;exact I.tuple_inj h h'
 row:=λX U hw hK pins s σ H xs I h=>by
  subst U hw hK;refine bq (I.tuple h) λits Y p _=>?_
  refine⟨its,Y,λA Z=>⟨λi h=>h.IsTupleIter it a i/\h.IsTuple a its.toArray,?_,λi st=>⟨st,(show s.heap.IsTuple a its.toArray from p)⟩,λi h' st=>st.1⟩⟩;simpa using En.draws (P:=X.prog) (w:=X.w) Z it a ne its.toArray
noncomputable def JV(K:MP)(tl:TE):TI:=λσ H R=>tl σ H λx H1=>∃a,x=.ref a/\(((∃xs,SqL K H1 a xs)/\R (Ite λH xs=>SqL K H a xs) H1)\/((∃xs,SqT K H1 a xs)/\R (Ite λH xs=>SqT K H a xs) H1))
def rY{σ:St}{H:Hp}{s:Shared}{E:Value->Shared->Prop}{h':Heap}{Y:List Expr}{j:Nat}{Z:Pos}{a:Addr}{q:Hp->List V->Prop}{r:Nat->Heap->Prop}{R:It->Hp->Prop}(I:Inv X pins σ H s)(la:a<s.heap.objs.size)
  (S:Src X.prog X.w X.K a s.heap.objs.size q r) (U:IsEnum h' (s.heap.objs.size+1) s.heap.objs.size 0 .none) (hr:r 0 h') (k:∀b o,s.heap.get? b=some o->h'.get? b=some o) (hR:R (Ite q) H) :
  wpAny (model X.prog X.w) X.A (pyIter (.ref (s.heap.objs.size+1))) (PIE X pins σ (.Tuple Y j Z) R) E { s with heap:=h' }:=by
 have I1:=I.kept (t':=s.toks) k;refine wpAny_pyIter_enum (s:={ s with heap:=h' }) U ⟨s.heap.objs.size+1,[s.heap.objs.size+1,s.heap.objs.size],_,_,H,rfl,I1,yP S (Nat.succ_ne_self _) (LW (Ms la)),⟨⟨_,U⟩,hr⟩,λb J=>?_,hR⟩;have J:s.heap.objs.size<=b:=by
  simp only[nW,xm,Ky]at J;rcases J with rfl|rfl
  .exact Ly _
  .exact pe _
 exact I.fpOk J (I.hok.fresh J)
def t_ (hg:Gl X "enumerate") (hm:X.mg "enumerate"=none) (hl:PE X l tl) (hs:starEach [l] X.env=[(false,eval l X.env)]:=by rfl) :
  PI X (.Tuple ts j tp) (.Call (.Name "enumerate" p) [l] [] pos) (JV X.K tl):=by
 intro pins s σ H R I h;refine Call_ (kT I hg hm PyProof.Rows.boot_enumerate (Lq (thn (ak hl aS hs pos pins s σ H (λvs H1=>match vs with
  | [x]=>∃a,x=.ref a/\(((∃xs,SqL X.K H1 a xs)/\R (Ite λH xs=>SqL X.K H a xs) H1)\/((∃xs,SqT X.K H1 a xs)/\R (Ite λH xs=>SqT X.K H a xs) H1))
  | _=>False) I h) λus s1 J=>au J λvs H1 U r1 Y=>?_) hs rfl))
 cases r1 with
 |nil=>exact Y.elim
 |cons r rr =>
  cases rr with
  |cons _ _=>exact Y.elim
  |nil =>
   obtain⟨a,e,q⟩:=Y;subst e;subst r;rcases q with⟨⟨xs,J⟩,q⟩|⟨⟨xs,J⟩,q⟩
   .obtain⟨its,_,pl,_⟩:=U.list J;have S:=let ⟨o,Z,_⟩:=pl.isList;u0 Z
    exact call_enumerate_list pl.isList λh' en it _ k=>rY U S (yQ (KA S)) en it k q
   .obtain⟨its,_,pt,_⟩:=U.tuple J;have S:=let ⟨o,Z,_⟩:=pt;u0 Z
    exact En.call_tup pt λh' en it _ k=>rY U S (Br (KA S)) en it k q
end L2
namespace MM
open PySem PySem.Spec PyProof.Rows L2 List Option
structure qo(K:MP)(J:It)(xs:List PV)(V G:Hp):Prop where
 stop:∀H',ae G H'->J.stop xs.length H'
 go:∀(i:Nat) x H',ae G H'->xs[i]?=some x->J.go i H'
 yld:∀(i:Nat) x H' u H2,ae G H'->xs[i]?=some x->J.yld i H' u H2->ae H' H2/\∀O',(∀a∈O',H' a≠none)->ae V (ah H2 O')->Rep K (ah H2 O') x u
def qo.weak{K:MP}{V G S:Hp}(h:qo K J xs V G)(s:ae G S):qo K J xs V S:=
 ⟨λH' s'=>h.stop H' (s.trans s'),λi x H' s'=>h.go i x H' (s.trans s'),λi x H' u H2 s'=>h.yld i x H' u H2 (s.trans s')⟩
noncomputable def bh(ms:List ME)(G:Rho)(σ:St):List Addr:=match ms with
 | [.bor i]=>(match (G[i]?).join,(σ[i]?).join with|some (.own _),some (.ref a)=>[a]|_,_=>[])
 | _=>[]
noncomputable def cf(B:Hp)(O:List Addr)(H:Hp)(L:List Addr):Hp:=λb=>if b∈O then(if b∈L then H b else B b)else H b
section
variable{K:MP}{B H:Hp}{O L:List Addr}
def rZ(s:ae B H):ae (cf B O H L) H:=λb u e=>by
 unfold cf at e;split at e
 .split at e
  .exact e
  .exact s b u e
 .exact e
def dU(s:ae B H):ae B (cf B O H L):=λb u e=>by
 unfold cf;split
 .split
  .exact s b u e
  .exact e
 .exact s b u e
def cG:ae (ah H O) (cf B O H L):=λb u e=>by
 have J:b∉O:=λz=>by rw[dq z]at e;exact bn e
 unfold cf;rw[if_neg J];rw[aV J]at e;exact e
end
def kA{K:MP}{V G:Hp}(h:SqL K G a us)(r:Reps K V xs us):qo K (Itl K a) xs V G where
 stop:=λH' s=>⟨us,s.seq h,LN r.length.symm⟩
 go:=λi x H' s e=>by
  refine ag (r.get e) λu J _=>?_
  exact⟨us,u,s.seq h,J⟩
 yld:=λi x H' u H2 s e y=>by
  obtain⟨rfl,y⟩:=y;refine ag (r.get e) λw J q=>?_
  have S:=y us (s.seq h);rw[J]at S;cases S;exact⟨ae.refl _,λO' _ sv=>Rep.mono sv _ q⟩
def yR{K:MP}{V G:Hp}(h:SqT K G a us)(r:Reps K V xs us):qo K (Itt K a) xs V G where
 stop:=λH' s=>⟨us,s.seqT h,LN r.length.symm⟩
 go:=λi x H' s e=>by
  refine ag (r.get e) λu J _=>?_
  exact⟨us,u,s.seqT h,J⟩
 yld:=λi x H' u H2 s e y=>by
  obtain⟨rfl,y⟩:=y;refine ag (r.get e) λw J q=>?_
  have S:=y us (s.seqT h);rw[J]at S;cases S;exact⟨ae.refl _,λO' _ sv=>Rep.mono sv _ q⟩
def r_{K:MP}{V G:Hp}{lo:Int} :qo K (Itr lo n) ((range n).map λ(k:Nat)=>.int (lo+k)) V G where
 stop:=λH' s=>by simp[Itr]
 go:=λi x H' s e=>by
  have:=(uM.mp e).1;simpa[Itr]using this
 yld:=λi x H' u H2 s e y=>by
  obtain⟨rfl,rfl⟩:=y;refine⟨ae.refl _,λO' _ sv=>?_⟩;have hi:i<n:=by have:=(uM.mp e).1;simpa using this
  rw[Kx,getElem?_range hi]at e;cases e;rw[Rep]
def EZ{K:MP}(J:∀a∈O,H a≠none)(S:H p=none)(h:Reps K (ah (upd H p (.tup us)) O) xs us):Rep K (ah (upd H p (.tup us)) O) (.tup xs) (.ref p):=by
 refine⟨p,us,rfl,?_,h⟩;rw[aV λz=>J p z S];exact ax ..
theorem vC:∀xs (k i:Nat),(dN k xs)[i]?=(xs[i]?).map λx=>.tup [.int ((k+i:Nat):Int),x]
 | [],k,i=>by rfl
 |x::xs,k,0=>by rfl
 |x::xs,k,i+1=>by
  rw[dN,getElem?_cons_succ,getElem?_cons_succ,vC xs (k+1) i,show k+1+i=k+(i+1)by omega]
theorem nF:∀xs k,(dN k xs).length=xs.length
 | [],_=>rfl
 |x::xs,k=>by rw[dN,length_cons,length_cons,nF xs]
def jr{K:MP}{V G:Hp}{q:Hp->List L2.V->Prop}{xs:List PV}{us:List L2.V}(h:∀H',ae G H'->q H' us)(r:Reps K V xs us):qo K (Ite q) (dN 0 xs) V G where
 stop:=λH' s=>⟨us,h H' s,by rw[nF];exact r.length⟩
 go:=λi x H' s e=>by
  refine⟨us,h H' s,?_⟩;have:=(uM.mp e).1;rw[nF]at this;rw[<- r.length];exact this
 yld:=λi x H' u H2 s e y=>by
  obtain⟨p,rfl,S,v,rfl,y⟩:=y;rw[vC]at e;refine ag (ti.mp e) λz Y J=>?_
  subst J;refine ag (r.get Y) λw Z rz=>?_
  have U:=y us (h H' s);rw[Z]at U;cases U;refine⟨bE S _,λO' hO sv=>?_⟩;rw[Mf];refine EZ hO S (.cons (aR _ _) (.cons (Rep.mono sv _ rz) .nil))
noncomputable def tW(K:MP)(cal:Cal)(k:Sk)(ms:List ME):TI:=λσ H R =>
 ∃B E O G vs xs,a7 K B E O H G σ/\evs cal ms G=some vs/\cB k vs=some xs/\∀J H1,ae H H1->qo K J xs (ah H1 O) (cf B O H1 (bh ms G σ))->R J H1
section
variable{X:Cx}{cal:Cal}{tg:Expr}
theorem PI.or(h:PI X tg e t)(g:PI X tg e u):PI X tg e (λσ H R=>t σ H R\/u σ H R):=λpins s σ H R I q=>q.elim (h pins s σ H R I) (g pins s σ H R I)
theorem kB:∀{ms}{G}{vs},evs cal ms G=some vs->vs.length=ms.length
 | [],_,_,h=>by simp[evs]at h;subst h;rfl
 |m::ms,_,_,h=>by
  simp[evs,gI]at h;obtain⟨v,_,w,J,rfl⟩:=h;simp[kB J]
def ub(h:evs cal [m] G=some vs):∃v,vs=[v]/\ev cal m G=some v:=by
 simp[evs,gI]at h;obtain⟨v,e,w,J,rfl⟩:=h
 simp_all
def qp{K:MP}(h:Rep K F v u)(e:cx v=some xs):∃a us,u=.ref a/\Reps K F xs us/\((v=.lst xs/\SqL K F a us)\/(v=.tup xs/\SqT K F a us)):=by
 cases v<;>first|(simp[cx]at e;subst e;rw[Rep]at h;obtain⟨a,us,e,q,r⟩:=h;exact⟨a,us,e,r,.inl ⟨rfl,q⟩⟩)|(simp[cx]at e;subst e;rw[Rep]at h;obtain⟨a,us,e,q,r⟩:=h;exact⟨a,us,e,r,.inr ⟨rfl,fh q⟩⟩)|injection e
def Hj(Y:aZ m=false)(h:PE X e (tE X.K cal m)):PI X tg e (tW X.K cal .seq [m]):=by
 refine(PI.or (jK h) (xO h)).imp λσ H R q=>?_
 refine uX q λB E O G vs xs st e1 e2 q=>?_
 refine ag (ub e1) λv Z e3=>?_
 subst Z;have S:cx v=some xs:=e2;have hl:bh [m] G σ=[]:=by cases m<;>first|rfl|exact sW Y
 cases v with
 |lst ys =>
  simp[cx]at S;subst S
  refine .inl ⟨B,E,O,G,_,st,e3,λu H' s g=>?_⟩;have r:=g.2 Y;refine au r λa us J U rs=>?_
  subst J;exact⟨a,rfl,⟨us,(a_ H' O).seq U⟩,q _ _ s (kA (cG.seq U) rs)⟩
 |tup ys =>
  simp[cx]at S;subst S
  refine .inr ⟨B,E,O,G,_,st,e3,λu H' s g=>?_⟩;have r:=g.2 Y;refine au r λa us J U rs=>?_
  subst J;exact⟨a,rfl,⟨us,(a_ H' O).seqT (fh U)⟩,q _ _ s (yR (cG.seqT (fh U)) rs)⟩
 | _=>injection S
def Hk{i:Nat}{x:Str}{pos:Pos}(h:aD X.N X.env.scope i x=true):PI X tg (.Name x pos) (tW X.K cal .seq [.bor i]):=by
 refine(PI.or (jK (cn h)) (xO (cn h))).imp λσ H R q=>?_
 obtain⟨B,E,O,G,vs,xs,st,e1,e2,q⟩:=q;obtain⟨v,rfl,J⟩:=ub e1;have U:cx v=some xs:=e2;rw[ev]at J;cases Z:(G[i]?).join with
 |none=>rw[Z]at J;cases J
 |some m =>
  rw[Z]at J;obtain⟨u,Y,so⟩:=bC st Z;cases m with
  |val w =>
   simp only[ce,mn]at J;subst J;have ar:Rep X.K (ah H O) w u:=so;obtain⟨a,us,rfl,rs,z⟩:=qp ar U;rcases z with⟨rfl,S⟩|⟨rfl,S⟩
   .exact .inl ⟨_,Y,a,rfl,⟨us,(a_ H O).seq S⟩,q _ _ (ae.refl H) (kA (cG.seq S) rs)⟩
   .exact .inr ⟨_,Y,a,rfl,⟨us,(a_ H O).seqT S⟩,q _ _ (ae.refl H) (yR (cG.seqT S) rs)⟩
  |own ys =>
   simp only[ce,mn]at J;subst J;simp[cx]at U;subst U
   obtain⟨a,us,rfl,ha,rs,hO,_⟩:=so;refine .inl ⟨_,Y,a,rfl,⟨us,SqL.of ha⟩,q _ _ (ae.refl H) (kA (SqL.of ?_) rs)⟩;have hl:bh [.bor i] G σ=[a]:=by simp[bh,Z,Y]
   unfold cf;rw[hl,if_pos hO,if_pos (by simp)];exact ha
  |brw ys =>
   simp only[ce,mn]at J;subst J;simp[cx]at U;subst U
   obtain⟨a,us,rfl,S,rs⟩:=so;exact .inl ⟨_,Y,a,rfl,⟨us,st.keep.seq S⟩,q _ _ (ae.refl H) (kA ((dU st.keep).seq S) rs)⟩
  |ownD ys =>
   simp only[ce,mn]at J;subst J;simp[cx]at U
  |ownO _ _ _=>simp[ce]at J
  |brwO _ _=>simp[ce]at J
  |brwD ys =>
   simp only[ce,mn]at J;subst J;simp[cx]at U
def Hl (g:Gf X T k cal) (hf:f=("enumerate":Str)) (hg:glB X.env.scope f=true) (hs:aE e=true) (hb:aZ m=false) (h:PE X e (tE X.K cal m)):PI X (.Tuple ts j tp) (.Call (.Name f p) [e] [] pos) (tW X.K cal .enm [m]):=by
 subst hf;have J:starEach [e] X.env=[(false,eval e X.env)]:=by cases e<;>first|rfl|(injection hs)
 refine(t_ (cY hg) (g.blt "enumerate" (by decide)) h J).imp λσ H R q=>?_
 refine uX q λB E O G vs xs st e1 e2 q=>?_
 refine ag (ub e1) λv U e3=>?_
 subst U;have hl:bh [m] G σ=[]:=by cases m<;>first|rfl|exact sW hb
 simp[cB,ti]at e2;obtain⟨ys,e4,rfl⟩:=e2;refine⟨B,E,O,G,_,st,e3,λu H' s g=>?_⟩;refine au (qp (g.2 hb) e4) λa us Y rs z=>?_
 subst Y;rcases z with⟨_,S⟩|⟨_,S⟩
 .exact⟨a,rfl,.inl ⟨⟨us,(a_ H' O).seq S⟩,q _ _ s (jr (λH2 Z=>Z.seq (cG.seq S)) rs)⟩⟩
 .exact⟨a,rfl,.inr ⟨⟨us,(a_ H' O).seqT S⟩,q _ _ s (jr (λH2 Z=>Z.seqT (cG.seqT S)) rs)⟩⟩
def E1 {i:Nat}{x:Str}{px:Pos}{f:Str}{ts:List Expr}{j:Nat}{tp p pos:Pos}{T:Tab}{k:Nat} (g:Gf X T k cal) (hf:f=("enumerate":Str)) (hg:glB X.env.scope f=true) (h:aD X.N X.env.scope i x=true):PI X (.Tuple ts j tp) (.Call (.Name f p) [.Name x px] [] pos) (tW X.K cal .enm [.bor i]):=by
 subst hf;refine(t_ (cY hg) (g.blt "enumerate" (by decide)) (cn h) rfl).imp λσ H R q=>?_
 obtain⟨B,E,O,G,vs,xs,st,e1,e2,q⟩:=q;obtain⟨v,rfl,J⟩:=ub e1;simp only[cB,ti]at e2;obtain⟨zs,U,rfl⟩:=e2;rw[ev]at J;cases hj:(G[i]?).join with
 |none=>rw[hj]at J;cases J
 |some m =>
  rw[hj]at J;obtain⟨u,Z,so⟩:=bC st hj;cases m with
  |val w =>
   simp only[ce,mn]at J;subst J;have aH:Rep X.K (ah H O) w u:=so;obtain⟨a,us,rfl,rs,z⟩:=qp aH U;rcases z with⟨rfl,S⟩|⟨rfl,S⟩
   .exact⟨_,Z,a,rfl,.inl ⟨⟨us,(a_ H O).seq S⟩,q _ _ (ae.refl H) (jr (λH2 Y=>Y.seq (cG.seq S)) rs)⟩⟩
   .exact⟨_,Z,a,rfl,.inr ⟨⟨us,(a_ H O).seqT S⟩,q _ _ (ae.refl H) (jr (λH2 Y=>Y.seqT (cG.seqT S)) rs)⟩⟩
  |own ys =>
   simp only[ce,mn]at J;subst J;simp[cx]at U;subst U
   obtain⟨a,us,rfl,ha,rs,hO,_⟩:=so;have hl:bh [.bor i] G σ=[a]:=by simp[bh,hj,Z]
   have hG:cf B O H (bh [.bor i] G σ) a=some (.lst us):=by
    unfold cf;rw[hl,if_pos hO,if_pos (by simp)];exact ha
   exact⟨_,Z,a,rfl,.inl ⟨⟨us,SqL.of ha⟩,q _ _ (ae.refl H) (jr (λH2 Y=>Y.seq (SqL.of hG)) rs)⟩⟩
  |brw ys =>
   simp only[ce,mn]at J;subst J;simp[cx]at U;subst U
   obtain⟨a,us,rfl,S,rs⟩:=so;exact⟨_,Z,a,rfl,.inl ⟨⟨us,st.keep.seq S⟩,q _ _ (ae.refl H) (jr (λH2 Y=>Y.seq ((dU st.keep).seq S)) rs)⟩⟩
  |ownD ys =>
   simp only[ce,mn]at J;subst J;simp[cx]at U
  |ownO _ _ _=>simp[ce]at J
  |brwO _ _=>simp[ce]at J
  |brwD ys =>
   simp only[ce,mn]at J;subst J;simp[cx]at U
abbrev JX(as:List Expr):Prop:=as.length=1\/as.length=2
def Bs (g:Gf X T k cal) (hf:f=("range":Str)) (hg:glB X.env.scope f=true) (ha:PA X args (tEs X.K cal ms)) (hn:JX args) (U:args.all aE=true) (hm:ms.length=args.length) :
  PI X tg (.Call (.Name f p) args [] pos) (tW X.K cal .rng ms):=by
 subst hf;have S:∀e,aE e=true->∀es env,starEach (e::es) env=(false,eval e env)::starEach es env:=λe he es env=>by
  cases e<;>first|rfl|(injection he)
 match args,hn with
 | [a],_ =>
  simp only[all_cons,all_nil,Bool.and_true]at U;refine(oG (cY hg) (g.blt "range" (by decide)) ha (by rw[S a U];rfl)).imp λσ H R q=>?_
  refine uX q λB E O G vs xs st Y J q=>?_
  refine⟨B,E,O,G,vs,st,Y,λus H' s gs=>?_⟩
  match vs,J,gs with
  | [.int j],J,gs =>
   simp only[cB]at J;split at J
   .rename_i c;cases J;refine ag (p1 gs.1) λu Z ru=>?_
    subst Z;have e3:=ru.int;subst e3;exact⟨j,rfl,c.1,c.2,q _ _ s r_⟩
   .exact bn J
  | [.int j,.int j'],J,gs =>
   have:=kB Y
   simp_all
 | [a,b],_ =>
  simp only[all_cons,all_nil,Bool.and_true,ll]at U;refine(wl (cY hg) (g.blt "range" (by decide)) ha (by rw[S a U.1,S b U.2];rfl) (by rw[S b U.2];rfl)).imp λσ H R q=>?_
  refine uX q λB E O G vs xs st Y J q=>?_
  refine⟨B,E,O,G,vs,st,Y,λus H' s gs=>?_⟩
  match vs,J,gs with
  | [.int i,.int j],J,gs =>
   simp only[cB]at J;split at J
   .rename_i c;cases J;refine au (p2 gs.1) λu u' aH ru aL=>?_
    subst aH;have e3:=ru.int;have e4:=aL.int;subst e3 e4;exact⟨i,j,rfl,c,q _ _ s r_⟩
   .exact bn J
  | [.int j],J,gs =>
   have:=kB Y;simp at this hm;omega
end
noncomputable def tF(K:MP)(cal:Cal)(me:ME):TE:=λσ H Q=>∃B E O G xs,a7 K B E O H G σ/\ev cal me G=some (.lst xs) /\
 ∀p us H',ae H H'->H p=none->H' p=some (.lst us)->Reps K (ah H' (p::O)) xs us->Q (.ref p) H'
def kC :ae (ah H (p::O)) (ah H O):=aQ (ae.refl H) λb J=>.inl (KJ _ J)
def e_(h:p∈O):ah (upd H p o) O=ah H O:=by
 funext b
 unfold ah;split
 .rfl
 .rename_i J;exact aA λz=>J (by rw[z];exact h)
def vD{K:MP}{H H':Hp}{O:List Addr}{me:ME}{xs:List PV}{p:Addr}{us:List V}(J:∀a∈O,H a≠none)(S:H p=none)(e:H' p=some (.lst us))(r:Reps K (ah H' (p::O)) xs us):Got K H' O me (.lst xs) (.ref p):=by
 refine .of ?_;refine⟨p,us,rfl,SqL.of ?_,Reps.mono kC _ r⟩;rw[aV λz=>J p z S];exact e
section
variable{X:Cx}{T:Tab}{k:Nat}{cal:Cal}
def gN(S:∀G v,ev cal me G=some v->∃xs,v=.lst xs)(h:PE X e (tF X.K cal me)):PE X e (tE X.K cal me):=by
 refine h.imp λσ H Q q=>?_
 refine bH q λB E O G v st J q=>?_
 obtain⟨xs,rfl⟩:=S G v J;exact⟨B,E,O,G,xs,st,J,λp us H' s U Y r=>q _ _ s (vD st.here U Y r)⟩
theorem Gf.blk(g:Gf X T k cal)(x)(fvs)(scope)(J)(S)(C)(U):Gf (X.blk x fvs scope J S C U) T k cal:={ g with }
def o5(h:jZ osc N scope x fvs js=true):lc osc N scope x fvs js:=by
 unfold jZ at h;simp only[ll,Kt,decide_eq_true_eq]at h;refine JA h λh1 h2 h3 h4 h5 h6 h7 h8 h9=>?_
 exact⟨h1,h2,h3,h4,h5,h6,h7,h8,h9⟩
def E2{K:MP}{B H H1 H2:Hp}{E O:List Addr}{G:Rho}{σ S:St}{js:List Nat}{D:Addr}{x:PV}{ux:V}(st:a7 K B E O H G σ)(s1:ae H H1)(s2:ae H1 H2)(hD:H1 D=none)(aH:H2 D≠none)
  (aL:∀z,S.set 0 z=(np js σ).set 0 z) (hl:0<S.length) (hx:Rep K (ah H2 (D::O)) x ux):a7 K H1 [] (D::O) H2 (eF js G x) (S.set 0 (some ux)):=by
 have Z:ae (ah H O) (ah H2 (D::O)):=aQ (s1.trans s2) λb hb=>by
  rcases nW.mp hb with rfl|hb
  .exact .inr (s1.free hD)
  .exact .inl hb
 rw[aL];have J:∀(i:Nat) (m:MV),fk m=true->(eF js G x)[i]?≠some (some m):=λi m hm e=>by
  unfold eF at e;cases i with
  |zero =>
   simp at e;subst e;cases hm
  |succ i =>
   simp only[getElem?_cons_succ,Kx,ti]at e;obtain⟨j,_,e⟩:=e;cases Y:(G[j]?).join with
   |none=>rw[Y]at e;cases e
   |some mm =>
    rw[Y]at e;cases mm<;>first|(simp[eD]at e;done)|(simp only[eD,mn]at e;subst e;cases hm)
 refine⟨s2,λa ha=>?_,λa ha=>by simp at ha,λa ha=>by simp at ha,?_,λi m e=>?_,λi j m m' a _ e _ hm=>absurd e (J i m hm)
  ,nw λi m e=>by
   cases q:isL m with
   |false=>rfl
   |true=>exact absurd e (J i m (by cases m<;>first|(cases q;done)|rfl))
  ⟩
 .rcases nW.mp ha with rfl|ha
  .exact aH
  .exact λe=>st.here a ha ((s1.trans s2).free e)
 .simp[eF,np]
 .cases i with
  |zero =>
   simp only[eF,getElem?_cons_zero,mn]at e;subst e;exact⟨ux,by simp[np],hx⟩
  |succ i =>
   simp only[eF,getElem?_cons_succ,Kx,ti]at e;obtain⟨j,ej,e⟩:=e;cases Y:(G[j]?).join with
   |none=>rw[Y]at e;cases e
   |some mm =>
    rw[Y]at e;obtain⟨u,eu,U⟩:=bC st Y;have a0:((np js σ).set 0 (some ux))[i+1]?=some (some u):=by
     simp[np,ej,eu]
    refine⟨u,a0,?_⟩;cases mm with
    |val w =>
     simp only[eD,mn]at e;subst e;exact Rep.mono Z _ U
    |own ys =>
     simp only[eD,mn]at e;subst e;obtain⟨a,us,rfl,ha,rs,hO,_⟩:=U;exact⟨a,us,rfl,SqL.of (s1 _ _ ha),Reps.mono Z _ rs⟩
    |brw ys =>
     simp only[eD,mn]at e;subst e;obtain⟨a,us,rfl,sq,rs⟩:=U;exact⟨a,us,rfl,(st.keep.trans s1).seq sq,Reps.mono Z _ rs⟩
    |ownD kvs =>
     simp only[eD,mn]at e;subst e;obtain⟨a,rfl,ha,_⟩:=U;exact⟨a,rfl,.inl (s1 _ _ ha)⟩
    |ownO _ fs ys =>
     simp only[eD,mn]at e;subst e;obtain⟨a,l,rfl,q⟩:=U;exact⟨a,rfl,q.lent.move s1 Z⟩
    |brwO fs ys =>
     simp only[eD,mn]at e;subst e;obtain⟨a,rfl,q⟩:=U;exact⟨a,rfl,q.move (st.keep.trans s1) Z⟩
    |brwD kvs =>
     simp only[eD,mn]at e;subst e;obtain⟨a,rfl,ha⟩:=U;exact⟨a,rfl,ae.rd (st.keep.trans s1) ha⟩
def ue{cond elt:ME}(g:Gf X T k cal)(U:jZ X.env.scope X.N scope x (fQ X.N js) js=true)
  (hw:PI X (.Name x px) it (tW X.K cal k' ms)) (Y:ln it=true)
  (hc:∀J S C Z,PF (X.blk x (fQ X.N js) scope J S C Z) ifs (tT X.K cal cond)) (he:∀J S C Z,PE (X.blk x (fQ X.N js) scope J S C Z) e (tE X.K cal elt)) (hb:aZ elt=false) :
  PE X (.ListComp e [⟨.Name x px,it,ifs,0⟩] scope pos) (tF X.K cal (.comp k' ms js cond elt)):=by
 refine(Ba (o5 U) g.calm hw hc he (by intro v;cases it<;>first|rfl|(injection Y))).imp λσ H Q q=>?_
 exact comp_go hb q
where
 comp_go {k':Sk}{ms:List ME}{js:List Nat}{cond elt:ME}{K:MP}{σ:St}{H:Hp}{Q:VK} (hb:aZ elt=false) (q:tF K cal (.comp k' ms js cond elt) σ H Q):yo (tW K cal k' ms) js (tT K cal cond) (tE K cal elt) σ H Q:=by
  refine cw λZq kq=>?_
  refine bH q λB E O G ws st e1 q=>?_
  rw[ev]at e1;simp only[gI]at e1;obtain⟨vs,e1,xs,e2,e3⟩:=e1;refine kq ?_;split at e3
  .rename_i hlen;refine⟨B,E,O,G,vs,xs,st,e1,e2,λJ H1 s1 it D hD=>?_⟩;have hDO:D∉O:=λz=>cg s1 st.here D z hD
   have it1:=it.weak (rZ (st.keep.trans s1));refine⟨λi m σ' H'=>m=xs.length-i/\i<=xs.length/\ae H1 H'/\(∀z,σ'.set 0 z=(np js σ).set 0 z)/\0<σ'.length/\∃done dF ys,fJ (λx=>(ev cal cond (eF js G x)).bind be) (λx=>ev cal elt (eF js G x)) (xs.drop i)=some dF/\ws=done++dF/\done.length<=i/\H' D=some (.lst ys)/\Reps K (ah H' (D::O)) done ys,⟨xs.length,by simp,KN _,bE hD _,λ_=>rfl,by simp[np],[],ws,[],by simpa using e3,rfl,pe _,ax,.nil⟩,?_⟩;rintro i m σ' H' ⟨rfl,hi,s2,hσ,hl,done,dF,ys,eg,ew,hdl,hDy,rs⟩;by_cases hlt:i<xs.length
   .right;have ex:=Kz hlt;refine⟨it1.go i _ H' s2 ex,λσ2 H2=>∃m',m'<xs.length-i/\(m'=xs.length-(i+1)/\i+1<=xs.length/\ae H1 H2/\(∀z,σ2.set 0 z=(np js σ).set 0 z)/\0<σ2.length/\∃done dF ys,fJ (λx=>(ev cal cond (eF js G x)).bind be) (λx=>ev cal elt (eF js G x)) (xs.drop (i+1))=some dF/\ws=done++dF/\done.length<=i+1/\H2 D=some (.lst ys)/\Reps K (ah H2 (D::O)) done ys),λσ2 H2 z=>z,λux H2 y=>?_⟩;obtain⟨s3,hr⟩:=it1.yld i _ H' ux H2 s2 ex y;have sv:ae (ah H1 O) (ah H2 (D::O)):=aQ (s2.trans s3) λb hb=>by
     rcases nW.mp hb with rfl|hb
     .exact .inr hD
     .exact .inl hb
    have hx:=hr (D::O) (λa ha=>by
     rcases nW.mp ha with rfl|ha
     .rw[hDy];simp
     .exact λz=>cg s1 st.here a ha (s2.free z)) sv
    have hD2:=s3 _ _ hDy;have stb:=E2 (js:=js) (G:=G) st s1 (s2.trans s3) hD (by rw[hD2];simp) hσ hl hx;rw[drop_eq_getElem_cons hlt,fJ]at eg;simp only[gI]at eg;obtain⟨b,eb,eg⟩:=eg;refine⟨H1,[],D::O,_,b,stb,by simpa[evB,gI]using eb,λH3 s4=>?_⟩;have hσ2:∀z,(σ'.set 0 (some ux)).set 0 z=(np js σ).set 0 z:=λz=>by rw[set_set];exact hσ z
    have hl2:0<(σ'.set 0 (some ux)).length:=by rw[L3];exact hl
    cases b with
    |false =>
     dsimp only;rw[if_neg (by simp)];refine⟨_,by omega,rfl,hlt,(s2.trans s3).trans s4,hσ2,hl2,done,dF,ys,eg,ew,by exact(xw ‹_› (Ll _ _)),s4 _ _ hD2,Reps.mono ?_ _ rs⟩;exact(aj s3).trans (aj s4)
    |true =>
     rw[if_pos rfl]at eg;dsimp only;rw[if_pos rfl];refine cw λZq kq=>?_
     simp only[gI,ti]at eg;obtain⟨y',ey,rest',eg,rfl⟩:=eg;refine kq ?_;refine⟨H1,[],D::O,_,y',stb.mono s4,ey,λuy H4 s5 gy=>?_⟩;have hD4:=s5 _ _ (s4 _ _ hD2);have ry:=gy.2 hb;have rs4:=Reps.mono (((aj s3).trans (aj s4)).trans (aj s5)) _ rs;have hyl:ys.length<=10000:=by rw[<- rs.length];omega
     refine⟨ys,hD4,KD hyl (by decide),_,by omega,rfl,hlt,?_,hσ2,hl2,done++[y'],rest',ys++[uy],eg,by simp[ew],by simp;omega,ax,?_⟩
     .intro b u eb;rw[aA (a9 eb hD)];exact s5 _ _ (s4 _ _ ((s2.trans s3) _ _ eb))
     .rw[e_ (K1)];exact rs4.snoc ry
   .left;have ei:i=xs.length:=by omega
    subst ei;rw[drop_length,fJ]at eg;cases eg;rw[L1]at ew;subst ew;exact⟨it1.stop H' s2,q D ys H' (s1.trans s2) (s1.free hD) hDy rs⟩
  .exact bn e3
def bZ(J:aE e=true)(es)(env):starEach (e::es) env=(false,eval e env)::starEach es env:=by
 cases e<;>first|rfl|(injection J)
theorem cb :∀{es},es.all aE=true->(backTo pos (starEach es env)).any (·.1)=false
 | [],_=>rfl
 |e::es,h=>by
  simp only[all_cons,ll]at h;rw[bZ h.1];show(false||(backTo pos (starEach es env)).any (·.1))=false;rw[cb h.2];rfl
theorem bv:∀{ms}{N}{sc}{es},chks T ms N sc es=true->es.all aE=true/\ms.length=es.length
 | [],_,_,[],_=>⟨rfl,rfl⟩
 | [],_,_,_::_,h=>by simp[chks]at h
 | _::_,_,_,[],h=>by simp[chks]at h
 |m::ms,N,sc,e::es,h=>by
  simp[chks]at h;obtain⟨h1,h2⟩:=bv h.2;exact⟨by simp[h.1.2,h1],by simp[h2]⟩
def bB(h:PE X e (tE X.K cal me))(S:wT e=true):PT X e (tT X.K cal me):=by
 refine(jh h (by intro w;cases e<;>first|rfl|(injection S;done)|(rename_i op _ _;cases op<;>first|rfl|(injection S)))).imp λσ H Q q=>?_
 refine bH q λB E O G b st J q=>?_
 simp[evB,gI]at J;obtain⟨v,J,U⟩:=J;refine⟨B,E,O,G,v,st,J,λu H' s g=>?_⟩;cases v<;>simp[be]at U
 subst U;exact⟨_,g.1.bl,q H' s⟩
def yS(h:PE X e (tE X.K cal m))(hs:PA X es (tEs X.K cal ms))(hn:aE e=true):PA X (e::es) (tEs X.K cal (m::ms)):=by
 refine(ak h hs (bZ hn es _)).imp λσ H Q q=>?_
 refine bH q λB E O G vs st J q=>?_
 simp[evs,gI,ti]at J;obtain⟨v,J,ws,e2,rfl⟩:=J;refine⟨B,E,O,G,v,st,J,λu H1 s1 Y=>⟨B,E,O,G,ws,st.mono s1,e2,λus H2 S Z=>q _ H2 (s1.trans S) ⟨.cons (Y.1.mono S) Z.1,λU=>?_⟩⟩⟩;simp only[all_cons,ll,KL]at U;exact .cons ((Y.mono S).2 U.1) (Z.2 U.2)
def Bt:PA X [] (tEs X.K cal []):=by
 refine aS.imp λσ H Q q=>?_
 refine bH q λB E O G vs st J q=>?_
 simp only[evs,mn]at J;subst J;exact q [] H (ae.refl H) ⟨.nil,λ_=>.nil⟩
def yT:PA X [] (tAs X.K cal []):=by
 refine aS.imp λσ H Q q=>?_
 refine bH q λB E O G vs st J q=>?_
 simp only[evA,mn]at J;subst J;exact q [] H (ae.refl H) .nil
def yU{K:MP}{H H':Hp}{O:List Addr}(s:ae H H'){m:MV}{u:V}(h:fS K O H m u):fS K O H' m u:=by
 cases m with
 |val v=>exact Rep.mono (aj s) _ h
 |own _=>exact h
 |brw xs=>obtain⟨a,us,e,q,r⟩:=h;exact⟨a,us,e,s.seq q,Reps.mono (aj s) _ r⟩
 |ownD _=>exact h
 |ownO _ _ _=>exact h
 |brwO fs xs=>obtain⟨a,e,q⟩:=h;exact⟨a,e,q.move s (aj s)⟩
 |brwD kvs=>obtain⟨a,e,q⟩:=h;exact⟨a,e,ae.rd s q⟩
def wZ(S:aZ m=false)(h:PE X e (tE X.K cal m))(Y:PA X es (tAs X.K cal ms))(hn:aE e=true):PA X (e::es) (tAs X.K cal (m::ms)):=by
 refine(ak h Y (bZ hn es _)).imp λσ H Q q=>?_
 refine bH q λB E O G vs st Z q=>?_
 have J:(ev cal m G).bind (λv=>(evA cal ms G).map (MV.val v::·))=some vs:=by
  rw[<- Z];cases m<;>first|(exact sW S;done)|(simp;done)|rfl
 simp[gI]at J;obtain⟨v,e9,ws,e2,rfl⟩:=J;exact⟨B,E,O,G,v,st,e9,λu H1 s1 g1=>⟨B,E,O,G,ws,st.mono s1,e2,λus H2 U g2=>q _ H2 (s1.trans U) (.cons ((g1.mono U).2 S) g2)⟩⟩
def yV{i:Nat}{ms:List ME}{x:Str}{pos:Pos}{es:List Expr}(h:aD X.N X.env.scope i x=true)(Z:PA X es (tAs X.K cal ms)):PA X (.Name x pos::es) (tAs X.K cal (.bor i::ms)):=by
 refine(ak (cn h) Z rfl).imp λσ H Q q=>?_
 obtain⟨B,E,O,G,vs,st,J,q⟩:=q;rw[evA]at J;simp only[gI,ti]at J;obtain⟨m',J,ws,e2,rfl⟩:=J;cases U:(G[i]?).join with
 |none=>rw[U]at J;cases J
 |some m =>
  rw[U]at J;obtain⟨u,eu,S⟩:=bC st U;have ao:fS X.K O H m' u:=by
   cases m with
   |val w=>simp only[gj,mn]at J;subst J;exact S
   |own ys=>simp only[gj,mn]at J;subst J;obtain⟨a,us,rfl,ha,rs,_⟩:=S;exact⟨a,us,rfl,SqL.of ha,rs⟩
   |brw ys=>simp only[gj,mn]at J;subst J;obtain⟨a,us,rfl,sq,rs⟩:=S;exact⟨a,us,rfl,st.keep.seq sq,rs⟩
   |ownD kvs=>simp only[gj,mn]at J;subst J;obtain⟨a,rfl,ha,_⟩:=S;exact⟨a,rfl,.inl ha⟩
   |ownO _ fs ys=>simp only[gj,mn]at J;subst J;obtain⟨a,l,rfl,q⟩:=S;exact⟨a,rfl,q.lent⟩
   |brwO fs ys=>simp only[gj,mn]at J;subst J;obtain⟨a,rfl,q⟩:=S;exact⟨a,rfl,q.move st.keep (ae.refl _)⟩
   |brwD kvs=>simp only[gj,mn]at J;subst J;obtain⟨a,rfl,ha⟩:=S;exact⟨a,rfl,ae.rd st.keep ha⟩
  exact⟨u,eu,⟨B,E,O,G,ws,st,e2,λus H2 Y g2=>q (u::us) H2 Y (.cons (yU Y ao) g2)⟩⟩
def Hm(ha:PE X l (tE X.K cal a))(U:PE X r (tE X.K cal b)):PE X (.BinOp l (EJ op) r pos) (tE X.K cal (.bin op a b)):=by
 refine(Cw (ET op) ha U).imp λσ H Q q=>?_
 refine bH q λB E O G v st J q=>?_
 rw[ev]at J;simp only[gI]at J;obtain⟨x,J,y,Y,Z⟩:=J;exact⟨B,E,O,G,x,st,J,λux H1 s1 g1=>⟨B,E,O,G,y,st.mono s1,Y,λuy H2 S g2=>⟨O,x,y,v,cg (s1.trans S) st.here,g1.1.mono S,g2.1,Z,λu H3 s3 r=>q u H3 ((s1.trans S).trans s3) (.of r)⟩⟩⟩
def Hn{a:ME}{e:Expr}{pos:Pos}(ha:PE X e (tE X.K cal a)):PE X (.UnaryOp .USub e pos) (tE X.K cal (.neg a)):=by
 refine(GP D_ ha).imp λσ H Q q=>?_
 obtain⟨B,E,O,G,v,st,J,q⟩:=q;rw[ev]at J;simp only[gI]at J;obtain⟨x,J,S⟩:=J;cases x<;>simp only[mn,reduceCtorEq]at S
 subst S;exact⟨B,E,O,G,_,st,J,λY H1 s1 U=>⟨_,U.1.int,q _ H1 s1 (.of (aR _ _))⟩⟩
def Ho(ha:PE X e (tE X.K cal a)):PE X (.UnaryOp .Not e pos) (tE X.K cal (.not a)):=by
 refine(s_ ha).imp λσ H Q q=>?_
 refine bH q λB E O G v st J q=>?_
 rw[ev]at J;simp only[gI,ti]at J;obtain⟨b,⟨x,J,S⟩,rfl⟩:=J;cases x<;>simp[be,mn,reduceCtorEq]at S
 subst S;exact⟨B,E,O,G,_,st,J,λY H1 s1 U=>⟨_,U.1.bl,q _ H1 s1 (.of (cX _ _))⟩⟩
def Hq(ha:PT X e (tT X.K cal a)):PT X (.UnaryOp .Not e pos) (tT X.K cal (.not a)):=by
 refine(ji ha).imp λσ H Q q=>?_
 refine bH q λB E O G b st J q=>?_
 simp only[evB,ev,gI,ti]at J;obtain⟨v,⟨c,⟨x,J,U⟩,rfl⟩,S⟩:=J;simp only[be,mn]at S;subst S;exact⟨B,E,O,G,c,st,by simp[evB,J,U],λH' s=>q H' s⟩
def CO(ha:PE X x (tE X.K cal a))(Z:PE X (.BoolOp .And (y::r) pos) (tE X.K cal b)):PE X (.BoolOp .And (x::y::r) pos) (tE X.K cal (.and a b)):=by
 refine(xJ ha Z).imp λσ H Q q=>?_
 refine bH q λB E O G v st S q=>?_
 rw[ev]at S;simp only[gI]at S;obtain⟨c,⟨z,S,U⟩,J⟩:=S;cases z<;>simp[be,mn,reduceCtorEq]at U
 subst U;refine⟨B,E,O,G,_,st,S,λux H1 s1 g1=>⟨_,g1.1.bl,?_⟩⟩;split at J
 .rename_i h;rw[if_pos h];simp only[gI,ti]at J;obtain⟨z',J,c',Y,rfl⟩:=J;cases z'<;>simp[be,mn,reduceCtorEq]at Y
  subst Y;exact⟨B,E,O,G,_,st.mono s1,J,λu H2 s2 g2=>q u H2 (s1.trans s2) (by rw[g2.1.bl];exact .of (cX _ _))⟩
 .rename_i h;rw[if_neg h];cases J;exact q _ H1 s1 (.of (cX _ _))
def Hr(ha:PE X x (tE X.K cal a))(Z:PE X (.BoolOp .Or (y::r) pos) (tE X.K cal b)):PE X (.BoolOp .Or (x::y::r) pos) (tE X.K cal (.or a b)):=by
 refine(GJ ha Z).imp λσ H Q q=>?_
 refine bH q λB E O G v st S q=>?_
 rw[ev]at S;simp only[gI]at S;obtain⟨c,⟨z,S,U⟩,J⟩:=S;cases z<;>simp[be,mn,reduceCtorEq]at U
 subst U;refine⟨B,E,O,G,_,st,S,λux H1 s1 g1=>⟨_,g1.1.bl,?_⟩⟩;split at J
 .rename_i h;rw[if_pos h];cases J;exact q _ H1 s1 (.of (cX _ _))
 .rename_i h;rw[if_neg h];simp only[gI,ti]at J;obtain⟨z',J,c',Y,rfl⟩:=J;cases z'<;>simp[be,mn,reduceCtorEq]at Y
  subst Y;exact⟨B,E,O,G,_,st.mono s1,J,λu H2 s2 g2=>q u H2 (s1.trans s2) (by rw[g2.1.bl];exact .of (cX _ _))⟩
def CQ(h:PT X (.BoolOp op vs pos) t):PW X (.BoolOp op vs pos) t:=λw pins s σ H Q I q=>by
 have:=h pins s σ H Q I q;exact this
def CS(ha:PT X x (tT X.K cal a))(Y:PW X (.BoolOp .And (y::r) pos) (tT X.K cal b)):PT X (.BoolOp .And (x::y::r) pos) (tT X.K cal (.and a b)):=by
 refine(DE ha Y).pt.imp λσ H Q q=>?_
 refine bH q λB E O G v st S q=>?_
 simp only[evB,ev,gI]at S;obtain⟨w,⟨c,⟨z,S,Z⟩,J⟩,U⟩:=S;refine⟨B,E,O,G,c,st,by simp[evB,S,Z],λH1 s1=>?_⟩;split at J
 .rename_i h;rw[if_pos h];simp only[gI,ti]at J;obtain⟨z',J,c',e5,rfl⟩:=J;simp only[be,mn]at U;subst U;exact⟨B,E,O,G,_,st.mono s1,by simp[evB,J,e5],λH2 s2=>q H2 (s1.trans s2)⟩
 .rename_i h;rw[if_neg h];cases J;cases U;exact q H1 s1
def Hs(ha:PT X x (tT X.K cal a))(Y:PW X (.BoolOp .Or (y::r) pos) (tT X.K cal b)):PT X (.BoolOp .Or (x::y::r) pos) (tT X.K cal (.or a b)):=by
 refine(xI ha Y).pt.imp λσ H Q q=>?_
 refine bH q λB E O G v st S q=>?_
 simp only[evB,ev,gI]at S;obtain⟨w,⟨c,⟨z,S,Z⟩,J⟩,U⟩:=S;refine⟨B,E,O,G,c,st,by simp[evB,S,Z],λH1 s1=>?_⟩;split at J
 .rename_i h;rw[if_pos h];cases J;cases U;exact q H1 s1
 .rename_i h;rw[if_neg h];simp only[gI,ti]at J;obtain⟨z',J,c',e5,rfl⟩:=J;simp[be,mn]at U;subst U;exact⟨B,E,O,G,_,st.mono s1,by simp[evB,J,e5],λH2 s2=>q H2 (s1.trans s2)⟩
def Ht(hc:PT X t (tT X.K cal c))(ha:PE X x (tE X.K cal a))(Z:PE X y (tE X.K cal b))(na:aZ a=false)(nb:aZ b=false):PE X (.IfExp t x y pos) (tE X.K cal (.ite c a b)):=by
 refine(qZ hc ha Z).imp λσ H Q q=>?_
 refine bH q λB E O G v st J q=>?_
 rw[ev]at J;simp only[gI]at J;refine ag J λk' J S=>?_
 refine⟨B,E,O,G,k',st,by simpa[evB,gI]using J,λH1 s1=>?_⟩;split at S
 .rename_i h;rw[if_pos h];exact⟨B,E,O,G,v,st.mono s1,S,λu H2 U Y=>q u H2 (s1.trans U) (.of (Y.2 na))⟩
 .rename_i h;rw[if_neg h];exact⟨B,E,O,G,v,st.mono s1,S,λu H2 U Y=>q u H2 (s1.trans U) (.of (Y.2 nb))⟩
def Hu(hc:PT X t (tT X.K cal c))(ha:PT X x (tT X.K cal a))(hb:PT X y (tT X.K cal b)):PT X (.IfExp t x y pos) (tT X.K cal (.ite c a b)):=by
 intro pins s σ H Q I q;refine cw λZq kq=>?_
 refine bH q λB E O G v st J q=>?_
 simp only[evB,ev,gI]at J;obtain⟨w,⟨Z,J,U⟩,e4⟩:=J;refine kq ?_;refine isTrue_IfExp (thn (hc pins s σ H (λb H1=>b=Z/\ae H H1) I ⟨B,E,O,G,Z,st,by simpa[evB,gI]using J,λH1 s1=>⟨rfl,s1⟩⟩) λb s1 hq=>bq hq λH1 I1 eb S=>?_);subst eb;split at U
 .rename_i h;subst h;exact ha pins s1 σ H1 Q I1 ⟨B,E,O,G,v,st.mono S,by simp[evB,U,e4],λH2 Y=>q H2 (S.trans Y)⟩
 .rename_i h;have:b=false:=by cases b<;>simp at h ⊢
  subst this;exact hb pins s1 σ H1 Q I1 ⟨B,E,O,G,v,st.mono S,by simp[evB,U,e4],λH2 Y=>q H2 (S.trans Y)⟩
def Hv(g:Gf X T k cal)(ha:PE X l (tE X.K cal a))(hb:PE X r (tE X.K cal b))(hm:behindInMarks (hV op) r=false):PE X (.Compare l [hV op] [r] pos) (tE X.K cal (.cmp op a b))/\PT X (.Compare l [hV op] [r] pos) (tT X.K cal (.cmp op a b)):=by
 refine⟨(u_ (iJ g.units op) ha hb hm).imp λσ H Q q=>?_,(iQ (iJ g.units op) ha hb hm).imp λσ H Q q=>?_⟩
 .refine bH q λB E O G v st J q=>?_
  rw[ev]at J;simp only[gI,ti]at J;obtain⟨x,J,y,U,c,Y,rfl⟩:=J;exact⟨B,E,O,G,x,st,J,λux H1 s1 Z=>⟨B,E,O,G,y,st.mono s1,U,λuy H2 S g2=>⟨O,x,y,c,Z.1.mono S,g2.1,Y,q _ H2 (s1.trans S) (.of (cX _ _))⟩⟩⟩
 .refine bH q λB E O G v st J q=>?_
  simp only[evB,ev,gI,ti]at J;obtain⟨w,⟨x,J,y,U,c,Y,rfl⟩,e4⟩:=J;simp[be,mn]at e4;subst e4;exact⟨B,E,O,G,x,st,J,λux H1 s1 Z=>⟨B,E,O,G,y,st.mono s1,U,λuy H2 S g2=>⟨O,x,y,c,Z.1.mono S,g2.1,Y,_,rfl,q H2 (s1.trans S)⟩⟩⟩
def Bu(g:Gf X T k cal)(ha:PE X l (tE X.K cal a))(hb:PE X m (tE X.K cal b))(hc:PE X r (tE X.K cal c))(hm:lastMarks [hV op,hV J] [m,r]=false) :
  PE X (.Compare l [hV op,hV J] [m,r] pos) (tE X.K cal (.chain op J a b c))/\PT X (.Compare l [hV op,hV J] [m,r] pos) (tT X.K cal (.chain op J a b c)):=by
 refine⟨(xR (iJ g.units op) (iJ g.units J) ha hb hc hm).imp λσ H Q q=>?_,(xS (iJ g.units op) (iJ g.units J) ha hb hc hm).imp λσ H Q q=>?_⟩
 .refine bH q λB E O G v st U q=>?_
  rw[ev]at U;simp only[gI]at U;obtain⟨x,U,y,e2,c',e3,S⟩:=U;refine⟨B,E,O,G,x,st,U,λux H1 s1 g1=>⟨B,E,O,G,y,st.mono s1,e2,λuy H2 Y Z=>⟨O,x,y,c',g1.1.mono Y,Z.1,e3,_,rfl,?_⟩⟩⟩;split at S
  .rename_i h;rw[if_pos h];simp only[gI,ti]at S;obtain⟨z,S,d,e5,rfl⟩:=S;exact⟨B,E,O,G,z,(st.mono s1).mono Y,S,λuz H3 s3 g3=>⟨O,y,z,d,Z.1.mono s3,g3.1,e5,q _ H3 ((s1.trans Y).trans s3) (.of (cX _ _))⟩⟩
  .rename_i h;rw[if_neg h];cases S;exact q _ H2 (s1.trans Y) (.of (cX _ _))
 .refine bH q λB E O G v st U q=>?_
  simp only[evB,ev,gI]at U;obtain⟨w,⟨x,U,y,e2,c',e3,S⟩,e6⟩:=U;refine⟨B,E,O,G,x,st,U,λux H1 s1 g1=>⟨B,E,O,G,y,st.mono s1,e2,λuy H2 Y Z=>⟨O,x,y,c',g1.1.mono Y,Z.1,e3,_,rfl,?_⟩⟩⟩;split at S
  .rename_i h;rw[if_pos h];simp only[gI,ti]at S;obtain⟨z,S,d,e5,rfl⟩:=S;simp only[be,mn]at e6;subst e6;exact⟨B,E,O,G,z,(st.mono s1).mono Y,S,λuz H3 s3 g3=>⟨O,y,z,d,Z.1.mono s3,g3.1,e5,_,rfl,q H3 ((s1.trans Y).trans s3)⟩⟩
  .rename_i h;rw[if_neg h];cases S;cases e6;exact⟨_,rfl,q H2 (s1.trans Y)⟩
def Hw(h:PA X es (tEs X.K cal ms))(U:(ms.all λm=>!aZ m)=true):PE X (.Tuple es j pos) (tE X.K cal (.tup ms)):=by
 refine(Ec h).imp λσ H Q q=>?_
 refine bH q λB E O G v st J q=>?_
 rw[ev]at J;simp only[gI]at J;obtain⟨vs,J,S⟩:=J;split at S
 .rename_i hl;cases S;refine⟨B,E,O,G,vs,st,J,λus H1 s1 Y=>⟨?_,λp Z=>?_⟩⟩
  .rw[<- (Y.2 U).length];exact gM hl
  .exact q _ _ (s1.trans (bE Z _)) (.of (ko (cg s1 st.here) Z (Y.2 U)))
 .exact bn S
def CT(h:PA X es (tEs X.K cal ms))(J:(ms.all λm=>!aZ m)=true):PE X (.List es pos) (tF X.K cal (.lst ms)):=by
 refine(mJ h).imp λσ H Q q=>?_
 refine bH q λB E O G xs st S q=>?_
 rw[ev]at S;simp only[gI]at S;refine ag S λvs S U=>?_
 split at U
 .rename_i hl;cases U;refine⟨B,E,O,G,xs,st,S,λus H1 s1 Z=>⟨?_,λp Y=>?_⟩⟩
  .rw[<- (Z.2 J).length];exact gM hl
  .refine q p us _ (s1.trans (bE Y _)) (s1.free Y) ax ?_;rw[e_ (K1)];refine Reps.mono (aQ (ae.refl H1) λb J=>?_) _ (Z.2 J);rcases nW.mp J with rfl|J
   .exact .inr Y
   .exact .inl J
 .exact bn U
def Hx(ha:PE X v (tE X.K cal a))(hi:PE X s (tE X.K cal i))(U:eX s=true):PE X (.Subscript v s pos) (tE X.K cal (.idx a i)):=by
 refine(iD EV ha hi (t9 U)).imp λσ H Q q=>?_
 refine bH q λB E O G v st J q=>?_
 rw[ev]at J;simp[gI]at J;obtain⟨x,J,y,Y,Z⟩:=J;exact⟨B,E,O,G,x,st,J,λux H1 s1 g1=>⟨B,E,O,G,y,st.mono s1,Y,λuy H2 S g2=>⟨O,x,y,v,cg (s1.trans S) st.here,g1.1.mono S,g2.1,Z,λu H3 s3 r=>q u H3 ((s1.trans S).trans s3) (.of r)⟩⟩⟩
noncomputable def tB1(K:MP)(cal:Cal)(me:ME):TO:=λσ H Q=>∃B E O G o,a7 K B E O H G σ/\((ev cal me G).bind λv=>bnd me v)=some o/\∀H',ae H H'->Q o H'
def E3(h:lr m=true):PO X none (tB1 X.K cal m):=by
 have e:m=.cst .non:=by
  unfold lr at h;split at h
  .rfl
  .exact dD h
 subst e;intro pins s σ H Q I q;refine cw λU S=>?_
 refine bH q λB E O G o st J q=>?_
 simp[ev,bind_some,bnd]at J;subst J;refine S ?_;exact AY pins s σ H Q I (q H (ae.refl H))
def E4(h:PE X l (tE X.K cal m))(hn:lr m=false):PO X (some l) (tB1 X.K cal m):=by
 intro pins s σ H Q I q;refine cw λY U=>?_
 refine bH q λB E O G o st J q=>?_
 simp[gI]at J;obtain⟨v,J,S⟩:=J;obtain⟨i,rfl,rfl⟩:∃i,v=.int i/\o=some i:=by
  unfold bnd at S;split at S
  .injection hn
  .simp_all
  .exact bn S
 refine U ?_;exact AZ h pins s σ H Q I ⟨B,E,O,G,_,st,J,λu H' s' g=>⟨i,g.1.int,q H' s'⟩⟩
def Bv{a lo hi:ME}{p2 pos:Pos}(ha:PE X v (tE X.K cal a))(hl:PO X l (tB1 X.K cal lo))(hu:PO X u (tB1 X.K cal hi)):PE X (.Subscript v (.Slice l u none p2) pos) (tE X.K cal (.slice a lo hi)):=by
 refine(x_ EW ha hl hu).imp λσ H Q q=>?_
 refine cw λZq kq=>?_
 refine bH q λB E O G w st J q=>?_
 rw[ev,gI]at J;refine ag J λx J S=>?_
 rw[gI]at S;refine ag S λZ S U=>?_
 rw[gI]at U;refine ag U λao U e4=>?_
 refine kq ?_;exact⟨B,E,O,G,x,st,J,λux H1 s1 g1=>⟨B,E,O,G,Z,st.mono s1,S,λH2 Y=>⟨B,E,O,G,ao,(st.mono s1).mono Y,U,λH3 s3 =>
  ⟨O,x,w,cg ((s1.trans Y).trans s3) st.here,g1.1.mono (Y.trans s3),e4,λu H4 s4 r=>q u H4 (((s1.trans Y).trans s3).trans s4) (.of r)⟩⟩⟩⟩
def yW {id:String} (hc:dy X (.builtin id) (RBM X.K (aY f))) (U:glB X.env.scope x=true) (hm:X.mg x=none) (Y:bootBuiltins x=some (.builtin id)) (hn:x ≠ "__name__") (hd:(x==("__debug__":Str))=false)
  (ha:PA X (e::es) (tEs X.K cal ms)) (S:(e::es).all aE=true):PE X (.Call (.Name x p) (e::es) [] pos) (tE X.K cal (.blt f ms)):=by
 simp only[all_cons,ll]at S;refine(dJ hc (cY U) hm Y ha hn hd (bZ S.1 es _) (cb S.2)).imp λσ H Q q=>?_
 refine bH q λB E O G v st J q=>?_
 rw[ev,gI]at J;refine ag J λvs J Z=>?_
 exact⟨B,E,O,G,vs,st,J,λus H1 s1 g1=>⟨O,vs,v,cg s1 st.here,g1.1,Z,λu H2 s2 r=>q u H2 (s1.trans s2) (.of r)⟩⟩
def E5 {id:String} (hc:dy X (.type id) (RBM X.K (aY f))) (U:glB X.env.scope x=true) (hm:X.mg x=none) (Y:bootBuiltins x=some (.type id)) (hn:x ≠ "__name__") (hd:(x==("__debug__":Str))=false)
  (ha:PA X (e::es) (tEs X.K cal ms)) (S:(e::es).all aE=true):PE X (.Call (.Name x p) (e::es) [] pos) (tE X.K cal (.blt f ms)):=by
 simp only[all_cons,ll]at S;refine(oM hc (cY U) hm Y ha hn hd (bZ S.1 es _) (cb S.2)).imp λσ H Q q=>?_
 refine bH q λB E O G v st J q=>?_
 rw[ev,gI]at J;refine ag J λvs J Z=>?_
 exact⟨B,E,O,G,vs,st,J,λus H1 s1 g1=>⟨O,vs,v,cg s1 st.here,g1.1,Z,λu H2 s2 r=>q u H2 (s1.trans s2) (.of r)⟩⟩
def o6{K:MP}(q:tF K cal (.blt f ms) σ H Q):tCB (RBF K (aY f)) (tEs K cal ms) σ H Q:=by
 refine bH q λB E O G xs st J q=>?_
 rw[ev,gI]at J;refine ag J λvs J Y=>?_
 refine⟨B,E,O,G,vs,st,J,λus H1 s1 Z=>⟨O,vs,xs,cg s1 st.here,Z.1,Y,λl ws S r=>q l ws _ (s1.trans (bE S _)) (s1.free S) ax ?_⟩⟩;rw[e_ (K1)];refine Reps.mono (aQ (ae.refl H1) λb U=>?_) _ r;rcases nW.mp U with rfl|U
 .exact .inr S
 .exact .inl U
def yX {id:String} (hc:dy X (.builtin id) (RBF X.K (aY f))) (S:glB X.env.scope x=true) (hm:X.mg x=none) (U:bootBuiltins x=some (.builtin id)) (hn:x ≠ "__name__") (hd:(x==("__debug__":Str))=false)
  (ha:PA X (e::es) (tEs X.K cal ms)) (J:(e::es).all aE=true):PE X (.Call (.Name x p) (e::es) [] pos) (tF X.K cal (.blt f ms)):=by
 simp only[all_cons,ll]at J;exact(dJ hc (cY S) hm U ha hn hd (bZ J.1 es _) (cb J.2)).imp λσ H Q q=>o6 q
def Bw {id:String} (hc:dy X (.type id) (RBF X.K (aY f))) (S:glB X.env.scope x=true) (hm:X.mg x=none) (U:bootBuiltins x=some (.type id)) (hn:x ≠ "__name__") (hd:(x==("__debug__":Str))=false)
  (ha:PA X (e::es) (tEs X.K cal ms)) (J:(e::es).all aE=true):PE X (.Call (.Name x p) (e::es) [] pos) (tF X.K cal (.blt f ms)):=by
 simp only[all_cons,ll]at J;exact(oM hc (cY S) hm U ha hn hd (bZ J.1 es _) (cb J.2)).imp λσ H Q q=>o6 q
def E6{f:Nat}{ms:List ME}{x:Str}{es:List Expr}{p pos:Pos}(g:Gf X T k cal)(Y:T.fs[f]?=some x)(U:glB X.env.scope x=true)(hn:aJ x=true)(ha:PA X es (tAs X.K cal ms))(S:es.all aE=true)(Z:ms.length=es.length):PE X (.Call (.Name x p) es [] pos) (tE X.K cal (.call f ms)):=by
 obtain⟨fa,fd,ps,h1,h2,h3,F,_⟩:=g.fns f x Y hn;have key:∀σ H Q,tE X.K cal (.call f ms) σ H Q->iq (spM X.K cal f) [] E0 (tAs X.K cal ms) σ H Q:=λσ H Q q=>by
  obtain⟨B,E,O,G,v,st,J,q⟩:=q;rw[ev,gI]at J;obtain⟨vs,J,e2⟩:=J;refine⟨B,E,O,G,vs,st,J,λus H1 s1 g1=>⟨O,vs,v,cg s1 st.here,?_,e2,λu H2 s2 r=>q u H2 (s1.trans s2) (.of r)⟩⟩;rw[L1];exact g1
 cases es with
 |nil =>
  refine(xV F g.room (cY U) h1 h2 h3 .nil bc (ml hn).1).imp λσ H Q q=>?_
  obtain⟨B,E,O,G,vs,st,J,q⟩:=key σ H Q q;cases ms with
  |nil =>
   simp only[evA,mn]at J;subst J;exact q [] H (ae.refl H) .nil
  |cons m ms=>simp at Z
 |cons e es =>
  simp only[all_cons,ll]at S;exact(g9 F g.room (cY U) h1 h2 h3 .nil bc ha (ml hn).1 (bZ S.1 es _) (cb S.2)).imp key
end
section
variable{K:MP}{H:Hp}{O:List Addr}
def yY(kvs)(i):jN (gK kvs) (Sum.inl i:Key)=(bF kvs i).map Sc.v:=by
 unfold jN gK bF;rw[find?_map,Mg,Mg];have e:((λJ:Key×V=>decide (J.1=(Sum.inl i:Key)))∘λp:Int×Sc=>((Sum.inl p.1:Key),p.2.v))=λp:Int×Sc=>decide (p.1=i):=by
  funext p
  simp
 rw[e]
 rfl
def yZ(kvs)(k):jN (jW kvs) (k.map Sum.inl)=(bF kvs k).map Sc.v:=by
 unfold jN jW bF;rw[find?_map,Mg,Mg];have e:((λJ:List Key×V=>decide (J.1=k.map Sum.inl))∘λp:List Int×Sc=>((p.1.map Sum.inl:List Key),p.2.v))=λp:List Int×Sc=>decide (p.1=k):=by
  funext p
  exact decide_eq_decide.mpr ⟨mi,λe=>Lg _ e⟩
 rw[e]
 rfl
def Bx(ns:List Int):(ns.map Sum.inl:List Key).map kV=ns.map V.int:=by
 rw[KY]
 rfl
def vE(e:cR xs=some ns)(r:b8 K H O (.tup xs) u):∃b,u=.ref b/\H b=some (.tup ((ns.map Sum.inl:List Key).map kV)):=by
 have S:=jX e;subst S;refine au r.tupH λb us J h t=>?_
 subst J;have U:=t.ints;subst U;exact⟨b,rfl,by rw[Bx];exact h⟩
def qr{d:DD}{y:PV}{o:Option Sc}{a:Addr}{u:V}(e:wO (.dI d) y=some o)(ha:RdD H a d)(r:b8 K H O y u):m9 H a u (o.map Sc.v):=by
 cases d with
 |k kvs =>
  cases y<;>try (cases e;done)
  rename_i i;have J:=r.int;subst J;have S:bF kvs i=o:=uW e;rw[<- S,<- yY];exact .inl ⟨_,Sum.inl i,ha.rd,rfl,rfl⟩
 |t kvs =>
  cases y<;>try (cases e;done)
  rename_i xs;have e:(cR xs).map (bF kvs)=some o:=e;rw[ti]at e;obtain⟨ns,J,S⟩:=e;obtain⟨b,rfl,U⟩:=vE J r;rw[<- S,<- yZ];exact .inr ⟨_,_,b,ha.rd,rfl,U,rfl⟩
def y0(kvs)(k)(s):i8 (gK kvs) (Sum.inl k:Key) s.v=gK (de kvs k s):=by
 have J:((gK kvs).any λS=>decide (S.1=(Sum.inl k:Key)))=kvs.any λp=>decide (p.1=k):=by
  unfold gK;rw[MI]
  congr 1
  funext p
  simp
 unfold i8 de;rw[J];split
 .unfold gK;rw[KY,KY];refine Lp λp _=>?_
  by_cases h:p.1=k<;>simp[h]
 .unfold gK;rw[LR]
  rfl
def y1(kvs)(k)(s):i8 (jW kvs) (k.map Sum.inl:List Key) s.v=jW (de kvs k s):=by
 have J:∀q,_ ↔ q=k:=λq=>⟨mi,λe=>by rw[e]⟩
 have S:((jW kvs).any λU=>decide (U.1=(k.map Sum.inl:List Key)))=kvs.any λp=>decide (p.1=k):=by
  unfold jW;rw[MI]
  congr 1
  funext p
  simp_all
 unfold i8 de;rw[S];split
 .unfold jW;rw[KY,KY];refine Lp λp _=>?_
  by_cases h:p.1=k
  .have h2:=(J p.1).mpr h;simp[h]
  .have h2:¬ _=k.map Sum.inl:=λz=>h ((J p.1).mp z)
   simp[h,h2]
 .unfold jW;rw[LR]
  rfl
def By{d d':DD}{y:PV}{s:Sc}{a:Addr}{u:V}(e:tZ d y s=some d')(ha:H a=some (lW d))(r:b8 K H O y u):m_ H a u s.v (upd H a (lW d')):=by
 cases d with
 |k kvs =>
  cases y<;>try (cases e;done)
  rename_i i;have S:=r.int;subst S;have J:(if kvs.length<10000 then some (DD.k (de kvs i s))else none)=some d':=e;split at J
  .rename_i U;cases J;show m_ H a (.int i) s.v (upd H a (.dK (gK (de kvs i s))));rw[<- y0];exact m_.k (k:=Sum.inl i) ha (by unfold gK;rw[tr,K7];omega)
  .cases J
 |t kvs =>
  cases y<;>try (cases e;done)
  rename_i xs;have e:((cR xs).bind λk=>if kvs.length<10000 then some (DD.t (de kvs k s))else none)=some d':=e;rw[gI]at e;obtain⟨ns,S,J⟩:=e;obtain⟨b,rfl,Y⟩:=vE S r;split at J
  .rename_i U;cases J;show m_ H a (.ref b) s.v (upd H a (.dT (jW (de kvs ns s))));rw[<- y1];exact m_.t ha Y (by unfold jW;rw[tr,K7];omega)
  .cases J
end
section
variable{X:Cx}{pins:List (Addr×Obj)}{σ:St}{H:Hp}{s:Shared}
end
section
variable{X:Cx}{T:Tab}{k:Nat}{cal:Cal}
def Bz{P:Program}{w:World}{n:Int}{v:Value}(h:(cy P w).is (Sum.inl n) v=true):∃t,v=.int n t:=by
 rw[sX]at h;cases v<;>simp[lI,Value.isInt]at h
 subst h;exact⟨_,rfl⟩
def qt (hc:X.calm=true):dy X (.builtin "sorted") (RBF X.K (aY .sortedKeys)):=by
 intro pins s σ H xs us Q I r h;obtain⟨O,vs,ys,hO,rs,e,q⟩:=h;obtain⟨x,rfl⟩:=fm e (.inl rfl);obtain⟨u,rfl,rx⟩:=p1 rs;have hd:∃kvs,x=.dI (.k kvs)/\kvs.length<64/\ys=(sortI (kvs.map (·.1))).map .int:=by
  simp only[aY,dw]at e;split at e
  .split at e
   .rename_i kvs hl;cases e;exact⟨kvs,rfl,hl,rfl⟩
   .cases e
  .cases e
 obtain⟨kvs,rfl,Y,rfl⟩:=hd;obtain⟨a,rfl,ha⟩:=rx.dI;obtain⟨u,rfl,ru⟩:=jL r;cases ru;obtain⟨hz,hs,ws,U,dd⟩:=jO I.hok (show Rd H a (.dK (gK kvs))from ha.rd);obtain⟨ep,Z⟩:=dd.dictAt;have J:ws.length=kvs.length:=by rw[<- U.length];unfold gK;rw[tr]
 have S:ws.map (·.1)=kvs.map λp=>(Sum.inl p.1:Key):=by
  rw[<- U.keys];unfold gK;rw[KY]
  rfl
 refine Srt.iG (ks:=kvs.map (·.1)) (by rw[tr];exact Y) (λQ' ao=>?_) λh1 h' tk d' out c k1 k2 e hi=>?_
 .refine PySem.W.kdu_collect (PySem.W.kdl_dict (knd:=cy X.prog X.w) (kvs:=ws) (ep:=ep) hs) (by simpa using I.ok.hd hc) Z (by rw[J,K7];omega) λh' tk a2 kp it=>?_
  refine ao h' tk s.drawn _ (kvs.map (·.1)) kp (.refl _) (St.om ⟨by rw[it.1,J,tr],λj v ej=>?_⟩);obtain⟨kk,xx,e1,e2⟩:=it.2 j v ej;have e3:(ws.map (·.1))[j]?=some kk:=by rw[Kx,e1];rfl
  rw[S,Kx,ti]at e3;obtain⟨p,e4,rfl⟩:=e3;rw[Lv,Kx,e4];exact Bz e2
 .have I1:Inv X pins σ H { s with heap:=h1,toks:=tk,drawn:=d' }:=I.keptD k1;have I2:Inv X pins σ (upd H h1.objs.size (.lst ((Srt.sortI (kvs.map (·.1))).map V.int))) { s with heap:=h',toks:=tk,drawn:=d' }:=
   I1.laid (t':=tk) k2 (pe _) (show b9 X.prog X.w _ h' _ (.lst _)from⟨by rw[tr,Srt.sortI_len,tr,K7];omega,out,c,oS hi,e⟩)
  refine⟨.ref h1.objs.size,_,I2,rfl,q _ _ (I1.hok.fresh (pe _)) ?_⟩;rw[eZ];exact .of_ints _
end
def ug:bootBuiltins "len"=some (.builtin "len"):=by decide +kernel
def sd:bootBuiltins "tuple"=some (.type "tuple"):=by decide +kernel
def BA:bootBuiltins "list"=some (.type "list"):=by decide +kernel
def o7:bootBuiltins "sorted"=some (.builtin "sorted"):=by decide +kernel
def E7:bootBuiltins "any"=some (.builtin "any"):=by decide +kernel
def E8:bootBuiltins "all"=some (.builtin "all"):=by decide +kernel
def E9:bootBuiltins "int"=some (.type "int"):=by decide +kernel
def BB:bootBuiltins "bool"=some (.type "bool"):=by decide +kernel
def dk:bootBuiltins "isinstance"=some (.builtin "isinstance"):=by decide +kernel
section
variable{X:Cx}{T:Tab}{k:Nat}{cal:Cal}
def E_ {p p2 pos:Pos} (g:Gf X T k cal) (U:dS f=some c) (hg:glB X.env.scope "isinstance"=true) (ht:t=(c:Str)) (Y:glB X.env.scope t=true)
  (Z:bootBuiltins c=some (.type c)) (ao:X.mg c=none) (hn:(c:Str) ≠ "__name__") (hd:((c:Str)==("__debug__":Str))=false) (h:PE X e (tE X.K cal m)) (hs:aE e=true):PE X (.Call (.Name "isinstance" p) [e,.Name t p2] [] pos) (tE X.K cal (.blt f [m])):=by
 subst ht;refine(dJ (EY U) (cY hg) (g.blt "isinstance" (by decide)) dk (ak h (ak (AK (v:=.ty c) (cY Y) ao Z rfl hn hd) aS rfl) (bZ hs _ _)) (by decide) (by decide) (bZ hs _ _) rfl).imp λσ H Q q=>?_
 refine bH q λB E O G v st J q=>?_
 rw[ev,gI]at J;obtain⟨vs,J,S⟩:=J;refine ag (ub J) λw ar e3=>?_
 subst ar;have e5:isD w=false/\v=.bl (isT f w):=by
  cases hd:isD w with
  |true=>cases f<;>simp[dS,reduceCtorEq]at U<;>(simp only[aY,dw,jT,jV,hd]at S;exact bn S)
  |false=>cases f<;>simp[dS,reduceCtorEq]at U<;>(simp[aY,dw,jT,jV,hd,LI,MN,mn]at S;exact⟨rfl,S.symm⟩)
 obtain⟨e5,rfl⟩:=e5;refine⟨B,E,O,G,w,st,e3,λu H1 s1 g1=>⟨O,w,u,rfl,e5,g1.1,q _ H1 s1 (.of (cX _ _))⟩⟩
def se{cond elt:ME}:∀G v,ev cal (.comp S src js cond elt) G=some v->∃xs,v=.lst xs:=λG v J=>by
 rw[ev,gI]at J;obtain⟨vs,_,J⟩:=J;rw[gI]at J;obtain⟨xs,_,J⟩:=J;split at J
 .simp at J;obtain⟨ys,_,rfl⟩:=J;exact⟨_,rfl⟩
 .exact bn J
def gn(S:f=.listOf\/f=.sorted\/f=.sortedSet\/f=.sortedKeys\/f=.valuesOf) :∀G v,ev cal (.blt f ms) G=some v->∃xs,v=.lst xs:=λG v J=>by
 rw[ev,gI]at J;obtain⟨vs,_,J⟩:=J;rcases S with rfl|rfl|rfl|rfl|rfl
 .obtain⟨x,rfl⟩:=fm J (.inl rfl);simp only[aY,dw,pZ,jT,jV,ti]at J;obtain⟨ys,_,rfl⟩:=J;exact⟨_,rfl⟩
 .obtain⟨x,rfl⟩:=fm J (.inl rfl);simp only[aY,dw,pZ,jT,jV,gI]at J;obtain⟨ys,_,J⟩:=J;unfold iH at J;split at J
  .split at J
   .cases J;exact⟨_,rfl⟩
   .simp only[ti]at J;obtain⟨U,_,rfl⟩:=J;exact⟨_,rfl⟩
  .exact bn J
 .obtain⟨x,rfl⟩:=fm J (.inr (.inr (.inl rfl)));simp only[aY,dw,pZ,jT,jV,gI]at J;obtain⟨ys,_,ns,_,J⟩:=J;split at J
  .cases J;exact⟨_,rfl⟩
  .exact bn J
 .obtain⟨x,rfl⟩:=fm J (.inl rfl);simp only[aY,dw]at J;split at J
  .split at J
   .cases J;exact⟨_,rfl⟩
   .exact bn J
  .exact bn J
 .obtain⟨x,rfl⟩:=fm J (.inr (.inr (.inr (.inr rfl))));simp only[aY,dw]at J;split at J
  .grind
  .exact bn J
def ui{cond:ME}(h:vo f cond ifs=true)(hc:∀c,f c=true->PT X c (tT X.K cal cond)):PF X ifs (tT X.K cal cond):=by
 match ifs,h with
 | [],h =>
  have e:cond=.cst (.bl true):=by
   simp[vo]at h;split at h
   .rfl
   .exact dD h
  subst e;intro pins s σ H Q I q;refine cw λU S=>?_
  refine bH q λB E O G b st J q=>?_
  simp only[evB,ev,bind_some,be,mn]at J;subst J;refine S ?_;exact Er pins s σ H Q I (q H (ae.refl H))
 | [c],h=>exact Es (hc c h)
def qu{N:List Str}{sc:Scope}{ms:List (Option Str)}{f i:Nat}{J:List Expr->Bool}{q:Str×Str×List Expr×Pos×Pos}(h:rM N sc ms f i J q=true):ms[f]?=some (some q.2.1)/\q.2.1∈oW/\aD N sc i q.1=true/\J q.2.2.1=true/\(q.2.2.2.1.endLine==q.2.2.2.2.line)=true/\decide (q.2.2.1.length<30)=true:=by
 unfold rM at h;obtain⟨S,h6⟩:=pb.mp h;obtain⟨U,h5⟩:=pb.mp S;obtain⟨Y,h4⟩:=pb.mp U;obtain⟨Z,h3⟩:=pb.mp Y;obtain⟨a5,h2⟩:=pb.mp Z;exact⟨eq_of_beq a5,contains_iff_mem.mp h2,h3,h4,h5,h6⟩
def uj{i:Nat}{x m:Str}{p ap:Pos}(hn:aD X.N X.env.scope i x=true):PE X (.Attribute (.Name x p) m ap) (AV X.K (aq i) m):=tG (cn hn) rfl
def qv{K:MP}{B H:Hp}{E O:List Addr}{G:Rho}{σ:St}{i:Nat}{o:List PV×List PV}(st:a7 K B E O H G σ)(e:lj (G[i]?).join=some o):∃a,σ[i]?=some (some (.ref a))/\eG K H (ah H O) o.1 o.2 a:=by
 cases J:(G[i]?).join with
 |none=>rw[J]at e;cases e
 |some m =>
  rw[J]at e;cases m with
  |ownO _ fs xs =>
   cases e;obtain⟨u,S,a,l,rfl,q⟩:=bC st J;exact⟨a,S,q.lent⟩
  |brwO fs xs =>
   cases e;obtain⟨u,S,a,rfl,q⟩:=bC st J;exact⟨a,S,q.move st.keep (ae.refl _)⟩
  | _=>cases e
def uq{K:MP}{B H:Hp}{E O:List Addr}{G:Rho}{σ:St}{i:Nat}{v:PV}(st:a7 K B E O H G σ)(e:oV (G[i]?).join=some v):∃a fs xs,v=.lst xs/\σ[i]?=some (some (.ref a))/\eG K B (ah H O) fs xs a:=by
 cases J:(G[i]?).join with
 |none=>rw[J]at e;cases e
 |some m =>
  rw[J]at e;cases m with
  |brwO fs xs =>
   cases e;obtain⟨u,S,a,rfl,q⟩:=bC st J;exact⟨a,fs,xs,rfl,S,q⟩
  | _=>cases e
def Hy{i n:Nat}{x m:Str}{p ap:Pos}(g:Gf X T k cal)(hm:jo[n]?=some m)(hn:aD X.N X.env.scope i x=true):PE X (.Attribute (.Name x p) m ap) (tE X.K cal (.fld i n)):=by
 refine(uj hn).imp λσ H Q q=>?_
 obtain⟨B,E,O,G,v,st,J,q⟩:=q;rw[ev,gI]at J;obtain⟨o,J,S⟩:=J;obtain⟨a,U,C,dx,gs,l,us,h1,h2,_⟩:=qv st J;obtain⟨Y,Z,_⟩:=g.cls C h2.cls;obtain⟨u,f1,f2⟩:=h2.fld n m v hm S;exact⟨_,U,a,C,dx,gs,u,rfl,h1,Y,Z m (LF hm),f1,q u H (ae.refl H) (.of f2)⟩
def Fa {i:Nat}{x:Str}{p ap:Pos} (g:Gf X T k cal) (hn:aD X.N X.env.scope i x=true):PE X (.Attribute (.Name x p) ("taken":Str) ap) (tE X.K cal (.fldL i)):=by
 refine(uj hn).imp λσ H Q q=>?_
 obtain⟨B,E,O,G,v,st,J,q⟩:=q;rw[ev]at J;obtain⟨a,fs,xs,rfl,S,C,dx,gs,l,us,h1,h2,h3,h4⟩:=uq st J;obtain⟨U,_,Y⟩:=g.cls C h2.cls;exact⟨_,S,a,C,dx,gs,.ref l,rfl,st.keep _ _ h1,U,Y,h2.lst,q _ H (ae.refl H) ⟨.inr (.inl ⟨xs,l,us,rfl,rfl,st.keep.seq h3,h4⟩),λz=>by cases z⟩⟩
def Fb {tg:Expr}{i:Nat}{x:Str}{p ap:Pos} (g:Gf X T k cal) (hn:aD X.N X.env.scope i x=true):PI X tg (.Attribute (.Name x p) ("taken":Str) ap) (tW X.K cal .seq [.fldL i]):=by
 refine(jK (uj hn)).imp λσ H R q=>?_
 obtain⟨B,E,O,G,vs,zs,st,S,U,q⟩:=q;obtain⟨v,rfl,J⟩:=ub S;have Y:cx v=some zs:=U;rw[ev]at J;obtain⟨a,fs,xs,rfl,Z,C,dx,gs,l,us,h1,h2,h3,h4⟩:=uq st J;cases Y;obtain⟨c1,_,c2⟩:=g.cls C h2.cls;exact⟨_,Z,a,C,dx,gs,.ref l,rfl,st.keep _ _ h1,c1,c2,h2.lst,l,rfl,⟨us,st.keep.seq h3⟩,q _ _ (ae.refl H) (kA ((dU st.keep).seq h3) h4)⟩
def Fc {i:Nat}{x:Str}{px ap:Pos}{f:Str}{U:List Expr}{j:Nat}{Y p pos:Pos} (g:Gf X T k cal) (Z:f=("enumerate":Str)) (hg:glB X.env.scope f=true) (hn:aD X.N X.env.scope i x=true):PI X (.Tuple U j Y) (.Call (.Name f p) [.Attribute (.Name x px) ("taken":Str) ap] [] pos) (tW X.K cal .enm [.fldL i]):=by
 subst Z;refine(t_ (cY hg) (g.blt "enumerate" (by decide)) (uj hn) rfl).imp λσ H R q=>?_
 obtain⟨B,E,O,G,vs,zs,st,e1,J,q⟩:=q;obtain⟨v,rfl,S⟩:=ub e1;simp only[cB,ti]at J;obtain⟨ys,e4,rfl⟩:=J;rw[ev]at S;obtain⟨a,fs,xs,rfl,ea,C,dx,gs,l,us,h1,h2,h3,h4⟩:=uq st S;cases e4;obtain⟨c1,_,c2⟩:=g.cls C h2.cls;exact⟨_,ea,a,C,dx,gs,.ref l,rfl,st.keep _ _ h1,c1,c2,h2.lst,l,rfl,.inl ⟨⟨us,st.keep.seq h3⟩,q _ _ (ae.refl H) (jr (λH2 s2=>s2.seq ((dU st.keep).seq h3)) h4)⟩⟩
def Hz {neg:Bool}{me:ME}{i:Nat}{l:Expr}{x:Str}{p ap pos:Pos} (g:Gf X T k cal) (ha:PE X l (tE X.K cal me)) (hn:aD X.N X.env.scope i x=true):PE X (.Compare l [hV (if neg=true then .notIn else .isIn)] [.Attribute (.Name x p) ("taken":Str) ap] pos) (tE X.K cal (.inO neg me i)):=by
 refine(u_ (iJ g.units _) ha (uj hn) (by cases neg<;>rfl)).imp λσ H Q q=>?_
 obtain⟨B,E,O,G,v,st,J,q⟩:=q;rw[ev]at J;simp only[gI,ti]at J;obtain⟨y,J,w,S,c,e3,rfl⟩:=J;refine⟨B,E,O,G,y,st,J,λux H1 s1 g1=>?_⟩;cases U:(G[i]?).join with
 |none=>rw[U]at S;cases S
 |some m =>
  rw[U]at S;cases m with
  |ownO b fs xs =>
   cases S;obtain⟨u,eu,a,Y,rfl,Z⟩:=bC (st.mono s1) U;obtain⟨C,dx,gs,h1,h2⟩:=Z.ob;obtain⟨us,h3,h4⟩:=Z.li;obtain⟨c1,_,c2⟩:=g.cls C h2.cls;exact⟨_,eu,a,C,dx,gs,.ref Y,rfl,h1,c1,c2,h2.lst,O,y,_,c,g1.1,.inr (.inl ⟨xs,Y,us,rfl,rfl,SqL.of h3,h4⟩),e3,q _ H1 s1 (.of (cX _ _))⟩
  | _=>cases S
def Fd {neg:Bool}{me:ME}{i:Nat}{l:Expr}{x:Str}{p ap pos:Pos} (g:Gf X T k cal) (ha:PE X l (tE X.K cal me)) (hn:aD X.N X.env.scope i x=true):PT X (.Compare l [hV (if neg=true then .notIn else .isIn)] [.Attribute (.Name x p) ("taken":Str) ap] pos) (tT X.K cal (.inO neg me i)):=by
 refine(iQ (iJ g.units _) ha (uj hn) (by cases neg<;>rfl)).imp λσ H Q q=>?_
 obtain⟨B,E,O,G,v,st,J,q⟩:=q;rw[evB,ev]at J;simp only[gI,ti]at J;obtain⟨b,⟨y,J,w,S,c,e3,rfl⟩,Y⟩:=J;simp only[be,mn]at Y;subst Y;refine⟨B,E,O,G,y,st,J,λux H1 s1 g1=>?_⟩;cases U:(G[i]?).join with
 |none=>rw[U]at S;cases S
 |some m =>
  rw[U]at S;cases m with
  |ownO b fs xs =>
   cases S;obtain⟨u,eu,a,Z,rfl,qq⟩:=bC (st.mono s1) U;obtain⟨C,dx,gs,h1,h2⟩:=qq.ob;obtain⟨us,h3,h4⟩:=qq.li;obtain⟨c1,_,c2⟩:=g.cls C h2.cls;exact⟨_,eu,a,C,dx,gs,.ref Z,rfl,h1,c1,c2,h2.lst,O,y,_,c,g1.1,.inr (.inl ⟨xs,Z,us,rfl,rfl,SqL.of h3,h4⟩),e3,_,rfl,q H1 s1⟩
  | _=>cases S
def Fe {neg:Bool}{i:Nat}{N:List Str}{sc:Scope}{J:Expr->Bool}{e:Expr}{z:Expr×CmpOp×Expr} (S:wS e=some z) (h:(onQ (nA z.2.2) λq=>z.2.1==(if neg=true then CmpOp.NotIn else CmpOp.In)&&J z.1&&q.2==("taken":Str)&&aD N sc i q.1)=true):J z.1=true/\∃(x:Str) (p ap pos:Pos),aD N sc i x=true/\e=.Compare z.1 [hV (if neg=true then .notIn else .isIn)] [.Attribute (.Name x p) ("taken":Str) ap] pos:=by
 replace h:=aw h
 obtain⟨q,U,h⟩:=h;obtain⟨pos,rfl⟩:=qd S;obtain⟨p,ap,Y⟩:=jY U;obtain⟨Z,h4⟩:=pb.mp h;obtain⟨a2,h3⟩:=pb.mp Z;obtain⟨h1,h2⟩:=pb.mp a2;refine⟨h2,q.1,p,ap,pos,h4,?_⟩;rw[Y,eq_of_beq h1,eq_of_beq h3];cases neg<;>rfl
def Fg {neg:Bool}{me:ME}{i:Nat}{e l:Expr}{c:Prop} (g:Gf X T k cal) (h:c/\∃(x:Str) (p ap pos:Pos),aD X.N X.env.scope i x=true/\e=.Compare l [hV (if neg=true then .notIn else .isIn)] [.Attribute (.Name x p) ("taken":Str) ap] pos) (ha:PE X l (tE X.K cal me)):PE X e (tE X.K cal (.inO neg me i))/\PT X e (tT X.K cal (.inO neg me i)):=by
 obtain⟨_,x,p,ap,pos,h1,rfl⟩:=h;exact⟨Hz g ha h1,Fd g ha h1⟩
def mr(U:es.all aE=true)(Y:decide (es.length<30)=true)(J:(ap.endLine==pos.line)=true):eval (.Call (.Attribute (.Name x p) m ap) es [] pos) env=(do
   let S <- eval (.Name x p) env
   standAt ap.atName
   let (f,first) <- holding [S] (getMethod S m (do return (<- importBound (.Name x p) env).getD true))
   callWith pos f first (backTo pos (starEach es env)) (backToKw pos (keywordEach [] env))):=by
 have Z:methodCallForm (es.length+([]:List Keyword).length) (backTo pos (starEach es env)) (backToKw pos (keywordEach [] env))=true:=by
  unfold methodCallForm;have h1:((backTo pos (starEach es env)).all λx=>!x.1)=true:=by
   have:=cb (pos:=pos) (env:=env) U;rw[Mq]at this;rw[Mc];intro x hx;have:=this x hx;simpa using this
  rw[h1];exact Y
 rw[arm_eval_Call];unfold methodCall calleeOf methodCallPos;rw[Z,J]
 rfl
def BC{f i:Nat}{ms:List ME}{x m:Str}{es:List Expr}{p ap pos:Pos}(g:Gf X T k cal)(hf:T.ms[f]?=some (some m))(hM:m∈oW)(hn:aD X.N X.env.scope i x=true)(ha:PA X es (tAs X.K cal ms))(hs:es.all aE=true)(hl:ms.length=es.length)(S:(ap.endLine==pos.line)=true)(h30:decide (es.length<30)=true):PE X (.Call (.Attribute (.Name x p) m ap) es [] pos) (tE X.K cal (.callM f i ms)):=by
 by_cases Y:∃C,IsC X.K C
 .obtain⟨C,Y⟩:=Y;have one:∀U,IsC X.K U->U=C:=λU h=>by
   have:=h.symm.trans Y;cases this
   rfl
  obtain⟨fa,fd,ps,h1,h3,F⟩:=g.meths f m hf C Y;have key:∀σ H Q,tE X.K cal (.callM f i ms) σ H Q->eV C m (spM X.K cal f) [] E0 (aq i) (tAs X.K cal ms) σ H Q:=λσ H Q q=>by
   obtain⟨B,E,O,G,v,st,J,q⟩:=q;rw[ev,gI]at J;obtain⟨o,e0,J⟩:=J;rw[gI]at J;obtain⟨vs,J,e2⟩:=J;obtain⟨a,ea,U,dx,gs,l,us,f1,Z,f3⟩:=qv st e0;have aL:=one U Z.cls;subst aL;refine⟨_,ea,a,dx,gs,rfl,f1,Z.no m hM,B,E,O,G,vs,st,J,λa4 H1 s1 g1=>⟨O,_,v,cg s1 st.here,?_,e2,λu H2 s2 r=>q u H2 (s1.trans s2) (.of r)⟩⟩;rw[L1];exact .cons ⟨a,rfl,eG.move ⟨U,dx,gs,l,us,f1,Z,f3⟩ s1 (aj s1)⟩ g1
  cases es with
  |nil =>
   refine(rk (cn hn) (g.cls C Y).1 h1 F g.room h3 .nil bc (mr hs h30 S)).imp λσ H Q q=>?_
   obtain⟨u,eu,a,dx,gs,e,f1,Z,B,E,O,G,vs,st,J,q⟩:=key σ H Q q;cases ms with
   |nil =>
    simp only[evA,mn]at J;subst J;exact⟨u,eu,a,dx,gs,e,f1,Z,q [] H (ae.refl H) .nil⟩
   |cons _ _=>cases hl
  |cons e es =>
   simp only[all_cons,ll]at hs;exact(bf (cn hn) (g.cls C Y).1 h1 F g.room h3 .nil bc ha (bZ hs.1 _ _) (cb hs.2) (mr (by simp[hs]) h30 S)).imp key
 .exact λpins s σ H Q I q=>by
   obtain⟨B,E,O,G,v,st,J,q⟩:=q;rw[ev,gI]at J;obtain⟨o,e0,_⟩:=J;obtain⟨a,ea,U,dx,gs,l,us,f1,Z,f3⟩:=qv st e0;exact absurd ⟨U,Z.cls⟩ Y
def nG{k':Sk}{src:List ME}{it tg:Expr}{tup:Bool}(ar:tup=true->∃ts j tp,tg=.Tuple ts j tp)(g:Gf X T k cal)(h:qf X.env.scope tup (λxs=>chks T src X.N X.env.scope xs) k' it=true)(hs:∀xs,chks T src X.N X.env.scope xs=true->PA X xs (tEs X.K cal src)/\xs.all aE=true/\src.length=xs.length)
  (h1:∀m x,src=[m]->chks T src X.N X.env.scope [x]=true->PE X x (tE X.K cal m)):PI X tg it (tW X.K cal k' src)/\ln it=true:=by
 cases k' with
 |seq =>
  replace h:=pb.mp h
  obtain⟨hn,h⟩:=h;refine⟨?_,hn⟩;obtain⟨_,_,J⟩:=hs _ h;obtain⟨m,rfl⟩:=L6.mp J;cases S:aZ m with
  |false=>exact Hj S (h1 m it rfl h)
  |true =>
   have U:=(cW h).1.1;rcases t7 S with⟨i,rfl⟩|⟨i,rfl⟩
   rotate_left
   .obtain⟨z,e,h2⟩:=aw (show onQ (nA it) (λq=>q.2==("taken":Str)&&aD X.N X.env.scope i q.1)=true from U);obtain⟨p,ap,rfl⟩:=jY e;obtain⟨h3,h4⟩:=pb.mp h2;rw[eq_of_beq h3];exact Fb g h4
   obtain⟨x,p,rfl,q⟩:=qh U;exact Hk q
 |rng =>
  replace h:=aw h
  obtain⟨c,e1,h⟩:=h;obtain⟨p,pos,rfl⟩:=iT e1;simp only[ll,Kt,LV]at h;obtain⟨⟨⟨Y,Z⟩,ha⟩,hn⟩:=h;obtain⟨q,aP,J⟩:=hs _ ha;exact⟨Bs g Y Z q hn aP J,rfl⟩
 |enm =>
  replace h:=aw h
  obtain⟨⟨x,a⟩,e1,h⟩:=h;obtain⟨p,pos,rfl⟩:=vk e1;simp only[ll,Kt]at h;obtain⟨⟨⟨⟨ht,Y⟩,Z⟩,ha⟩,hn⟩:=h;obtain⟨ts,j,tp,rfl⟩:=ar ht;obtain⟨_,_,J⟩:=hs _ ha;refine⟨?_,rfl⟩;obtain⟨m,rfl⟩:=L6.mp J;cases S:aZ m with
  |false=>exact Hl g Y Z hn S (h1 m a rfl ha)
  |true =>
   have U:=(cW ha).1.1;rcases t7 S with⟨i,rfl⟩|⟨i,rfl⟩
   rotate_left
   .obtain⟨z,e,h2⟩:=aw (show onQ (nA a) (λq=>q.2==("taken":Str)&&aD X.N X.env.scope i q.1)=true from U);obtain⟨p,ap,rfl⟩:=jY e;obtain⟨h3,h4⟩:=pb.mp h2;rw[eq_of_beq h3];exact Fc g Y Z h4
   obtain⟨y,p,rfl,q⟩:=qh U;exact E1 g Y Z q
 |rev=>cases h
def y2(K)(F)(s:Sc):Rep K F s.pv s.v:=by cases s<;>rfl
def y3{K:MP}(e:sc? x=some s)(r:b8 K H O x u):u=s.v:=by
 cases x<;>simp[sc?,mn,reduceCtorEq]at e<;>subst e
 .exact r.non
 .exact r.bl
 .exact r.int
 .exact r.str
def base_of(J:yG o=true):attributeBase o n X.env (eval o X.env)=eval o X.env:=by
 cases o<;>first|rfl|(simp at J;done)|skip
 rename_i fn args kws pos;cases args with
 |nil=>injection J
 |cons _ _=>cases fn<;>rfl
def sg{b:Blt}{es:List ME}{x:Str}{args:List Expr}{p pos:Pos}(g:Gf X T k cal)(hx:x=(rN b:Str))(U:glB X.env.scope x=true)(ha:vn X.env.scope (λxs=>chks T es X.N X.env.scope xs) es.length b args=true)
  (hs:∀xs,chks T es X.N X.env.scope xs=true->PA X xs (tEs X.K cal es)/\xs.all aE=true/\es.length=xs.length)
  (h1:∀m x,es=[m]->chks T es X.N X.env.scope [x]=true->PE X x (tE X.K cal m))
  (a5:∀m m' x x',es=[m,m']->chks T es X.N X.env.scope [x,x']=true->PE X x (tE X.K cal m)/\PE X x' (tE X.K cal m')) :
  (jp (.blt b es)=true->PE X (.Call (.Name x p) args [] pos) (tF X.K cal (.blt b es)))/\PE X (.Call (.Name x p) args [] pos) (tE X.K cal (.blt b es)):=by
 subst hx;have inst:∀{b:Blt}{args:List Expr} (c:String),glB X.env.scope (rN b)=true->dS b=some c->rN b="isinstance"->bootBuiltins c=some (.type c)->X.mg c=none->(c:Str) ≠ "__name__"->((c:Str)==("__debug__":Str))=false->rO X.env.scope (λxs=>chks T es X.N X.env.scope xs) es.length c args=true ->
   PE X (.Call (.Name (rN b) p) args [] pos) (tE X.K cal (.blt b es)):=λ{b args} c U hc hb ar hm hn hd ha=>by
  replace ha:=aw ha
  obtain⟨⟨y,t0⟩,e1,ha⟩:=ha
  replace ha:=aw ha
  obtain⟨⟨t,p2⟩,e2,ha⟩:=ha;obtain rfl:=qb e1;obtain rfl:=fN (e:=t0) e2;simp only[ll,Kt]at ha;obtain⟨⟨⟨h2,h3⟩,h4⟩,h5⟩:=ha;obtain⟨m,rfl⟩:=L6.mp h5;rw[hb]at U ⊢;exact E_ g hc U h2 h3 ar hm hn hd (h1 m y rfl h4) (cW h4).1.2
 have c1:∀{nm:Str},EK X.env.scope (λxs=>chks T es X.N X.env.scope xs) es.length nm args=true->∃m y gg p2 Z,es=[m]/\args=[.Call (.Name gg p2) [y] [] Z]/\gg=nm/\glB X.env.scope gg=true/\PE X y (tE X.K cal m)/\aE y=true:=λ{nm} ha=>by
  replace ha:=aw ha
  obtain⟨a,e1,ha⟩:=ha
  replace ha:=aw ha
  obtain⟨⟨gg,y⟩,e2,ha⟩:=ha;obtain⟨p2,Z,rfl⟩:=vk e2;simp only[ll,Kt]at ha;obtain⟨⟨⟨h2,h3⟩,h4⟩,h5⟩:=ha;obtain⟨m,rfl⟩:=L6.mp h5;exact⟨m,y,gg,p2,Z,rfl,eR e1,h2,h3,h1 m y rfl h4,(cW h4).1.2⟩
 have plain:∀{args:List Expr} (n:Nat),0<n->(some n==some es.length&&chks T es X.N X.env.scope args)=true->∃e r,args=e::r/\PA X (e::r) (tEs X.K cal es)/\(e::r).all aE=true:=λ{args} n a1 ha=>by
  simp only[ll,Kt,mn]at ha;obtain⟨J,S,q3⟩:=hs _ ha.2;cases args with
  |nil=>rw[<- ha.1]at q3;simp at q3;omega
  |cons e r=>exact⟨e,r,rfl,J,S⟩
 cases b with
 |len =>
  obtain⟨e,r,Y,J,S⟩:=plain 1 (by decide) ha;rw[Y];exact⟨λz=>(by cases z),yW Hg U (g.blt "len" (by decide)) ug (by decide) (by decide) J S⟩
 |tupleOf =>
  obtain⟨e,r,Y,J,S⟩:=plain 1 (by decide) ha;rw[Y];exact⟨λz=>(by cases z),E5 Bq U (g.blt "tuple" (by decide)) sd (by decide) (by decide) J S⟩
 |listOf =>
  obtain⟨e,r,Y,J,S⟩:=plain 1 (by decide) ha;rw[Y];have q:=Bw (p:=p) (pos:=pos) EX U (g.blt "list" (by decide)) BA (by decide) (by decide) J S;exact⟨λ_=>q,gN (gn (.inl rfl)) q⟩
 |sorted =>
  obtain⟨e,r,Y,J,S⟩:=plain 1 (by decide) ha;rw[Y];have q:=yX (p:=p) (pos:=pos) (yO g) U (g.blt "sorted" (by decide)) o7 (by decide) (by decide) J S;exact⟨λ_=>q,gN (gn (.inr (.inl rfl))) q⟩
 |any =>
  obtain⟨e,r,Y,J,S⟩:=plain 1 (by decide) ha;rw[Y];exact⟨λz=>(by cases z),yW (Hh g.calm) U (g.blt "any" (by decide)) E7 (by decide) (by decide) J S⟩
 |all =>
  obtain⟨e,r,Y,J,S⟩:=plain 1 (by decide) ha;rw[Y];exact⟨λz=>(by cases z),yW (Hi g.calm) U (g.blt "all" (by decide)) E8 (by decide) (by decide) J S⟩
 |intOf=>exact absurd ha kn
 |boolOf=>exact absurd ha kn
 |max2=>exact absurd ha kn
 |min2=>exact absurd ha kn
 |isInt=>exact⟨λz=>(by cases z),inst "int" U rfl rfl E9 (g.blt "int" (by decide)) (by decide) (by decide) ha⟩
 |isBool=>exact⟨λz=>(by cases z),inst "bool" U rfl rfl BB (g.blt "bool" (by decide)) (by decide) (by decide) ha⟩
 |isStr=>exact absurd ha kn
 |isList=>exact absurd ha kn
 |isTuple=>exact⟨λz=>(by cases z),inst "tuple" U rfl rfl sd (g.blt "tuple" (by decide)) (by decide) (by decide) ha⟩
 |sortedSet=>cases ha
 |sum=>exact absurd ha kn
 |max1=>exact absurd ha kn
 |sortedKeys =>
  obtain⟨e,r,Y,J,S⟩:=plain 1 (by decide) ha;rw[Y];have q:=yX (p:=p) (pos:=pos) (qt g.calm) U (g.blt "sorted" (by decide)) o7 (by decide) (by decide) J S;exact⟨λ_=>q,gN (gn (.inr (.inr (.inr (.inl rfl))))) q⟩
 |valuesOf=>exact absurd ha kn
 |min1=>cases ha
 |tupleRev=>cases ha
 |lenSet=>cases ha
 |lenSetSub=>cases ha
def HA(g:Gf X T k cal)(hk:PE X l (tE X.K cal mk))(ha:PE X r (tE X.K cal S))(hm:behindInMarks (if neg=true then CmpOp.NotIn else CmpOp.In) r=false) :
  PE X (.Compare l [if neg=true then CmpOp.NotIn else CmpOp.In] [r] pos) (tE X.K cal (.dIn neg mk S))/\PT X (.Compare l [if neg=true then CmpOp.NotIn else CmpOp.In] [r] pos) (tT X.K cal (.dIn neg mk S)):=by
 have hu:X.A.units+1<cLine:=by have:=g.units;omega
 have go:∀{σ}{H}{Q:Bool->Hp->Prop},(∃B E O G b,a7 X.K B E O H G σ/\ev cal (.dIn neg mk S) G=some (.bl b)/\∀H',ae H H'->Q b H') ->
   tE X.K cal mk σ H λy H1=>tE X.K cal S σ H1 λx H2=>∃a o,x=.ref a/\m9 H2 a y o/\Q (if neg=true then !o.isSome else o.isSome) H2:=λ{σ H Q} q=>by
  refine cw λZq Y=>?_
  obtain⟨B,E,O,G,b,st,J,q⟩:=q;rw[ev]at J;simp only[gI]at J;obtain⟨y,J,x,e2,U⟩:=J;refine Y ?_;refine⟨B,E,O,G,y,st,J,λuy H1 s1 g1=>⟨B,E,O,G,x,st.mono s1,e2,λux H2 s2 g2=>?_⟩⟩;rw[ti]at U;obtain⟨o,U,e4⟩:=U;cases x<;>try (cases U;done)
  obtain⟨a,rfl,ha⟩:=g2.1.dI;refine⟨a,_,rfl,qr U ha (g1.1.mono s2),?_⟩;rw[isSome_map,PV.bl.inj e4];exact q H2 (s1.trans s2)
 have Z:∀{σ}{H}{Q},tE X.K cal (.dIn neg mk S) σ H Q->∃B E O G b,a7 X.K B E O H G σ/\ev cal (.dIn neg mk S) G=some (.bl b)/\∀H',ae H H'->Q (.bl b) H':=λ{σ H Q} q=>by
  refine cw λZq Y=>?_
  obtain⟨B,E,O,G,v,st,J,q⟩:=q;have hb:∃b,v=.bl b:=by
   rw[ev]at J;simp only[gI]at J;obtain⟨y,_,x,_,U⟩:=J;rw[ti]at U;obtain⟨o,_,e4⟩:=U;exact⟨_,e4.symm⟩
  obtain⟨b,rfl⟩:=hb;refine Y ?_;exact⟨B,E,O,G,b,st,J,λH' s=>q _ H' s (.of (cX _ _))⟩
 have ao:∀{σ}{H}{Q},tT X.K cal (.dIn neg mk S) σ H Q->∃B E O G b,a7 X.K B E O H G σ/\ev cal (.dIn neg mk S) G=some (.bl b)/\∀H',ae H H'->Q b H':=λ{σ H Q} q=>by
  refine cw λZq Y=>?_
  obtain⟨B,E,O,G,b,st,J,q⟩:=q;unfold evB at J;simp only[gI]at J;obtain⟨v,J,e2⟩:=J;refine Y ?_;cases v<;>simp only[be,reduceCtorEq,mn]at e2
  subst e2;exact⟨B,E,O,G,_,st,J,q⟩
 cases neg with
 |false =>
  refine⟨(xF (ye hu hk ha) hm).imp λσ H Q q=>?_,(xG (ye hu hk ha) hm).imp λσ H Q q=>?_⟩
  .exact go (Q:=λb H'=>Q (.bl b) H') (Z q)
  .exact go (Q:=λb H'=>∃c,V.bl b=.bl c/\Q c H') (by
    obtain⟨B,E,O,G,b,st,J,q⟩:=ao q;exact⟨B,E,O,G,b,st,J,λH' s=>⟨b,rfl,q H' s⟩⟩)
 |true =>
  refine⟨(xF (oP hu hk ha) hm).imp λσ H Q q=>?_,(xG (oP hu hk ha) hm).imp λσ H Q q=>?_⟩
  .exact go (Q:=λb H'=>Q (.bl b) H') (Z q)
  .exact go (Q:=λb H'=>∃c,V.bl b=.bl c/\Q c H') (by
    obtain⟨B,E,O,G,b,st,J,q⟩:=ao q;exact⟨B,E,O,G,b,st,J,λH' s=>⟨b,rfl,q H' s⟩⟩)
def Fh{ma mk md:ME}{o e f:Expr}{ap cp:Pos}(g:Gf X T k cal)(ha:PE X o (tE X.K cal ma))(hk:PE X e (tE X.K cal mk))(hd:PE X f (tE X.K cal md))(hb:yG o=true)(hl:(ap.endLine==cp.line)=true)(h1:aE e=true)(h2:aE f=true) :
  PE X (.Call (.Attribute o "get" ap) [e,f] [] cp) (tE X.K cal (.dget ma mk md)):=by
 have hu:X.A.units+1<cLine:=by have:=g.units;omega
 have J:starEach [e,f] X.env=[(false,eval e X.env),(false,eval f X.env)]:=by rw[bZ h1,bZ h2];rfl
 have m:M2 X o "get" ap e f cp:=by
  refine⟨base_of hb,?_,hl,?_⟩
  .rw[J];rfl
  .rw[J];rfl
 refine(yk hu ha hk hd m).imp λσ H Q q=>?_
 refine cw λZq kq=>?_
 obtain⟨B,E,O,G,v,st,S,q⟩:=q;rw[ev]at S;simp only[gI,ti]at S;obtain⟨x,S,y,e2,z,e3,U,e4,sz,e5,e6⟩:=S;refine kq ?_;cases x<;>try (cases e4;done)
 refine⟨B,E,O,G,_,st,S,λux H1 s1 g1=>?_⟩;obtain⟨a,rfl,hH⟩:=g1.1.dI;refine⟨a,rfl,vt hH,B,E,O,G,_,st.mono s1,e2,λuy H2 Y g2=>⟨B,E,O,G,z,st.mono (s1.trans Y),e3,λuz H3 Z g3=>?_⟩⟩;refine⟨_,qr e4 (ae.rdD Z (ae.rdD Y hH)) (g2.1.mono Z),?_⟩;rw[y3 e5 g3.1];have e7:(U.map Sc.v).getD sz.v=(U.getD sz).v:=by cases U<;>rfl
 rw[e7];refine q _ H3 (s1.trans (Y.trans Z)) ?_;rw[<- e6];exact .of (y2 _ _ _)
def HC(g:Gf X T k cal)(ha:PE X o (tE X.K cal Y))(Z:PE X i (tE X.K cal mk))(hs:eX i=true):PE X (.Subscript o i pos) (tE X.K cal (.dat Y mk)):=by
 have hu:X.A.units+1<cLine:=by have:=g.units;omega
 refine(A6 hu ha Z (by cases i<;>first|(intro _ _;rfl)|(simp[eX]at hs))).imp λσ H Q q=>?_
 refine cw λZq kq=>?_
 obtain⟨B,E,O,G,v,st,J,q⟩:=q;rw[ev]at J;simp[gI,ti]at J;obtain⟨x,J,y,e2,oo,S,sz,rfl,e6⟩:=J;refine kq ?_;cases x<;>try (cases S;done)
 refine⟨B,E,O,G,_,st,J,λux H1 s1 g1=>?_⟩;obtain⟨a,rfl,hH⟩:=g1.1.dI;refine⟨B,E,O,G,_,st.mono s1,e2,λuy H2 U g2=>?_⟩;refine⟨a,_,rfl,qr S (ae.rdD U hH) g2.1,q _ H2 (s1.trans U) ?_⟩;rw[<- e6];exact .of (y2 _ _ _)
end
set_option maxHeartbeats 0 in
mutual
theorem az{T:Tab}{k:Nat}{cal:Cal}:∀(me:ME) {X:Cx}{e:Expr},Gf X T k cal->chk T me X.N X.env.scope e=true->PE X e (tE X.K cal me)/\PT X e (tT X.K cal me)
 | .var i,X,e,g,h=>by
  replace h:=aw h
  obtain⟨x,w,h⟩:=h;obtain rfl:=fN w;exact⟨CL h,bB (CL h) rfl⟩
 | .bor i,X,e,g,h=>by
  replace h:=aw h
  obtain⟨x,w,h⟩:=h;obtain rfl:=fN w;exact⟨CM h,bB (CM h) rfl⟩
 | .cst v,X,e,g,h=>by
  replace h:=aw h
  obtain⟨x,w,h⟩:=h;obtain rfl:=EA w;exact⟨CN h,bB (CN h) rfl⟩
 | .glob x v,X,e,g,h=>by
  replace h:=aw h
  obtain⟨y,w,h⟩:=h;obtain rfl:=fN w;exact⟨yN g h,bB (yN g h) rfl⟩
 | .bin op a b,X,e,g,h=>by
  replace h:=aw h
  obtain⟨⟨l,o,r,pos⟩,w,h⟩:=h;obtain rfl:=Ey w;simp only[ll,Kt]at h;obtain⟨⟨rfl,h1⟩,h2⟩:=h;have p:=Hm (op:=op) (pos:=pos) (az a g h1).1 (az b g h2).1;exact⟨p,bB p rfl⟩
 | .neg a,X,e,g,h=>by
  replace h:=aw h
  obtain⟨⟨o,x,pos⟩,w,h⟩:=h;obtain rfl:=yA w
  replace h:=pb.mp h
  obtain⟨h2,h⟩:=h;obtain rfl:=eq_of_beq h2;have p:=Hn (pos:=pos) (az a g h).1;exact⟨p,bB p rfl⟩
 | .not a,X,e,g,h=>by
  replace h:=aw h
  obtain⟨⟨o,x,pos⟩,w,h⟩:=h;obtain rfl:=yA w
  replace h:=pb.mp h
  obtain⟨h2,h⟩:=h;obtain rfl:=eq_of_beq h2;exact⟨Ho (az a g h).1,Hq (az a g h).2⟩
 | .and a b,X,e,g,h=>by
  replace h:=aw h
  obtain⟨⟨o,vs,pos⟩,w,h⟩:=h;obtain rfl:=yB w
  replace h:=pb.mp h
  obtain⟨h2,h⟩:=h;obtain rfl:=eq_of_beq h2;rcases vp h with⟨x,y,rfl,h1,h2⟩|⟨x,y,z,r,rfl,h1,h2⟩
  .exact⟨CO (az a g h1).1 (sZ (az b g h2).1),CS (az a g h1).2 (AL (az b g h2).2)⟩
  .exact⟨CO (az a g h1).1 (az b g h2).1,CS (az a g h1).2 (CQ (az b g h2).2)⟩
 | .or a b,X,e,g,h=>by
  replace h:=aw h
  obtain⟨⟨o,vs,pos⟩,w,h⟩:=h;obtain rfl:=yB w
  replace h:=pb.mp h
  obtain⟨h2,h⟩:=h;obtain rfl:=eq_of_beq h2;rcases vp h with⟨x,y,rfl,h1,h2⟩|⟨x,y,z,r,rfl,h1,h2⟩
  .exact⟨Hr (az a g h1).1 (sZ (az b g h2).1),Hs (az a g h1).2 (sY (az b g h2).2)⟩
  .exact⟨Hr (az a g h1).1 (az b g h2).1,Hs (az a g h1).2 (CQ (az b g h2).2)⟩
 | .ite c a b,X,e,g,h=>by
  replace h:=aw h
  obtain⟨q,w,h⟩:=h;obtain rfl:=EC w;simp only[ll,KL]at h;obtain⟨⟨⟨⟨h1,h2⟩,h3⟩,h4⟩,h5⟩:=h;exact⟨Ht (az c g h1).2 (az a g h2).1 (az b g h3).1 h4 h5,Hu (az c g h1).2 (az a g h2).2 (az b g h3).2⟩
 | .cmp op a b,X,e,g,h=>by
  replace h:=aw h
  obtain⟨⟨l,o,r⟩,w,h⟩:=h;obtain⟨pos,rfl⟩:=qd w;simp only[ll,Kt,KL]at h;obtain⟨⟨⟨rfl,h1⟩,h2⟩,h3⟩:=h;exact Hv g (az a g h1).1 (az b g h2).1 h3
 | .chain op a2 a b c,X,e,g,h=>by
  cases e with
  |Compare l ops rs pos =>
   match ops,rs,h with
   | [o,o'],[m,r],h =>
    simp only[yH,ll,Kt,KL]at h;obtain⟨⟨⟨⟨⟨rfl,rfl⟩,h1⟩,h2⟩,h3⟩,h4⟩:=h;exact Bu g (az a g h1).1 (az b g h2).1 (az c g h3).1 h4
   | [],_,h=>cases (show false=true from h)
   | [_],_,h=>cases (show false=true from h)
   | [_,_],[],h=>cases (show false=true from h)
   | [_,_],[_],h=>cases (show false=true from h)
   | [_,_],_::_::_::_,h=>cases (show false=true from h)
   | _::_::_::_,_,h=>cases (show false=true from h)
  | _=>cases (show false=true from h)
 | .tup es,X,e,g,h=>by
  replace h:=aw h
  obtain⟨q,w,h⟩:=h;obtain rfl:=EB w;obtain⟨h1,h2⟩:=pb.mp h;have p:=Hw (j:=q.2.1) (pos:=q.2.2) (sounds es g h1) h2;exact⟨p,bB p rfl⟩
 | .lst es,X,e,g,h=>by
  replace h:=aw h
  obtain⟨q,w,h⟩:=h;obtain rfl:=yz w
  replace h:=pb.mp h
  have p:=λ(pos:Pos)=>gN (λG v hv=>by
   rw[ev,gI]at hv;obtain⟨vs,_,hv⟩:=hv;split at hv
   .cases hv;exact⟨_,rfl⟩
   .cases hv) (CT (pos:=pos) (sounds es g h.1) h.2)
  exact⟨p _,bB (p _) rfl⟩
 | .idx a i,X,e,g,h=>by
  replace h:=aw h
  obtain⟨q,w,h⟩:=h;obtain rfl:=qc w;simp only[ll]at h;have p:=Hx (pos:=q.2.2) (az a g h.1.1).1 (az i g h.1.2).1 h.2;exact⟨p,bB p rfl⟩
 | .slice a lo hi,X,e,g,h=>by
  replace h:=aw h
  obtain⟨⟨v,l,u⟩,w,h⟩:=h;obtain⟨p2,pos,rfl⟩:=Bg w;simp only[ll]at h;obtain⟨⟨h1,h2⟩,h3⟩:=h;have bd:∀{b:ME}{o:Option Expr},(∀e,chk T b X.N X.env.scope e=true->PE X e (tE X.K cal b))->qg (λe=>chk T b X.N X.env.scope e) (lr b) o=true->PO X o (tB1 X.K cal b):=λ{b o} hb h2=>by
   cases o with
   |none=>exact E3 h2
   |some l =>
    simp only[qg,ll,KL]at h2;exact E4 (hb l h2.1) h2.2
  have p:=Bv (p2:=p2) (pos:=pos) (az a g h1).1 (bd (λe he=>(az lo g he).1) h2) (bd (λe he=>(az hi g he).1) h3);exact⟨p,bB p rfl⟩
 | .blt b es,X,e,g,h=>by
  replace h:=aw h
  obtain⟨⟨x,args⟩,w,h⟩:=h;obtain⟨p,pos,rfl⟩:=iT w;simp only[ll,Kt]at h;obtain⟨⟨Y,hg⟩,ha⟩:=h;have q:=(sg (p:=p) (pos:=pos) g Y hg ha (λxs J=>⟨sounds es g J,bv J⟩) (λm x hm Y=>match es,hm with|[m'],rfl=>(az m' g (cW Y).1.1).1) (λa b x x' hm Y=>match es,hm with|[m1,m2],rfl=>⟨(az m1 g (cW Y).1.1).1,(az m2 g (cW (cW Y).2).1.1).1⟩)).2;exact⟨q,bB q rfl⟩
 | .call f es,X,e,g,h=>by
  replace h:=aw h
  obtain⟨⟨x,args⟩,w,h⟩:=h;obtain⟨p,pos,rfl⟩:=iT w;simp only[ll,Kt]at h;obtain⟨⟨⟨h1,h2⟩,h3⟩,h4⟩:=h;obtain⟨hs,hl⟩:=bv h4;have q:=E6 (p:=p) (pos:=pos) g h1 h2 h3 (soundA es g h4) hs hl;exact⟨q,bB q rfl⟩
 | .callD _ _ _,X,e,g,h=>absurd (show false=true from h) kn
 | .fld i n,X,e,g,h=>by
  obtain⟨z,Z,h2⟩:=aw (show onQ (nA e) (λq=>jo[n]?==some q.2&&aD X.N X.env.scope i q.1)=true from h);obtain⟨p,ap,rfl⟩:=jY Z;obtain⟨h3,h4⟩:=pb.mp h2;have q:=Hy (p:=p) (ap:=ap) g (eq_of_beq h3) h4;exact⟨q,bB q rfl⟩
 | .fldL i,X,e,g,h=>by
  obtain⟨z,Z,h2⟩:=aw (show onQ (nA e) (λq=>q.2==("taken":Str)&&aD X.N X.env.scope i q.1)=true from h);obtain⟨p,ap,rfl⟩:=jY Z;obtain⟨h3,h4⟩:=pb.mp h2;rw[eq_of_beq h3];have q:=Fa (p:=p) (ap:=ap) g h4;exact⟨q,bB q rfl⟩
 | .inO neg me i,X,e,g,h=>by
  obtain⟨z,Z,h⟩:=aw (show onQ (wS e) (λz=>onQ (nA z.2.2) λq=>z.2.1==(if neg=true then CmpOp.NotIn else CmpOp.In)&&chk T me X.N X.env.scope z.1&&q.2==("taken":Str)&&aD X.N X.env.scope i q.1)=true from h);have hz:=Fe Z h;exact Fg g hz (az me g hz.1).1
 | .callV _ _,X,e,g,h=>(by cases h)
 | .comp2 _ _ _ _,X,e,g,h=>(by cases h)
 | .callM f i es,X,e,g,h=>by
  obtain⟨z,Z,h⟩:=aw (show onQ (yF e) (λq=>rM X.N X.env.scope T.ms f i (λxs=>chks T es X.N X.env.scope xs) q)=true from h);obtain⟨p,rfl⟩:=qe Z;obtain⟨h1,h2,h3,h4,h5,h6⟩:=qu h;obtain⟨hs,hl⟩:=bv h4;have q:=BC (p:=p) g h1 h2 h3 (soundA es g h4) hs hl h5 h6;exact⟨q,bB q rfl⟩
 | .dIn neg mk ma,X,e,g,h=>by
  replace h:=aw h
  obtain⟨⟨l,o,r⟩,w,h⟩:=h;obtain⟨pos,rfl⟩:=qd w;simp only[ll,Kt,KL]at h;obtain⟨⟨⟨rfl,h1⟩,h2⟩,h3⟩:=h;exact HA g (az mk g h1).1 (az ma g h2).1 h3
 | .dat ma mk,X,e,g,h=>by
  replace h:=aw h
  obtain⟨q,w,h⟩:=h;obtain rfl:=qc w;simp only[ll]at h;have p:=HC (pos:=q.2.2) g (az ma g h.1.1).1 (az mk g h.1.2).1 h.2;exact⟨p,bB p rfl⟩
 | .dget ma mk md,X,e,g,h=>by
  replace h:=aw h
  obtain⟨⟨o,m,ap,args,cp⟩,w,h⟩:=h;obtain rfl:=yD w
  replace h:=aw h
  obtain⟨⟨x,y⟩,w,h⟩:=h;obtain rfl:=qb w;simp only[ll,Kt]at h;obtain⟨⟨⟨⟨⟨⟨⟨rfl,h1⟩,h2⟩,h3⟩,h4⟩,h5⟩,h6⟩,h7⟩:=h;have p:=Fh (ap:=ap) (cp:=cp) g (az ma g h3).1 (az mk g h4).1 (az md g h5).1 h1 (by rw[h2];simp) h6 h7;exact⟨p,bB p rfl⟩
 | .comp k' src js cond elt,X,e,g,h=>by
  replace h:=lu h
  obtain⟨e,x,px,it,ifs,scope,pos,rfl,h⟩:=h;simp only[ll,KL]at h;obtain⟨⟨⟨⟨h1,h2⟩,h3⟩,h4⟩,h5⟩:=h;have hw:=nG (tg:=.Name x px) (λz=>by cases z) g h2 (λxs J=>⟨sounds src g J,bv J⟩) (λm x hm Y=>match src,hm with|[m'],rfl=>(az m' g (cW Y).1.1).1);have q:=gN se (ue (pos:=pos) g h1 hw.1 hw.2 (λS U C fp=>ui h3 λc hc=>(az cond (g.blk x (fQ X.N js) scope S U C fp) hc).2) (λS U C fp=>(az elt (g.blk x (fQ X.N js) scope S U C fp) h4).1) h5);exact⟨q,bB q rfl⟩
theorem sounds{T:Tab}{k:Nat}{cal:Cal}:∀(ms:List ME) {X:Cx}{es:List Expr},Gf X T k cal->chks T ms X.N X.env.scope es=true->PA X es (tEs X.K cal ms)
 | [],X,es,g,h=>by
  cases es with
  |nil=>exact Bt
  |cons _ _=>cases h
 |m::ms,X,es,g,h=>by
  cases es with
  |nil=>cases h
  |cons e es =>
   replace h:=cW h
   exact yS (az m g h.1.1).1 (sounds ms g h.2) h.1.2
theorem soundA{T:Tab}{k:Nat}{cal:Cal}:∀(ms:List ME) {X:Cx}{es:List Expr},Gf X T k cal->chks T ms X.N X.env.scope es=true->PA X es (tAs X.K cal ms)
 | [],X,es,g,h=>by
  cases es with
  |nil=>exact yT
  |cons _ _=>cases h
 |m::ms,X,es,g,h=>by
  cases es with
  |nil=>cases h
  |cons e es =>
   replace h:=cW h
   have J:=soundA ms g h.2;cases S:aZ m with
   |false=>exact wZ S (az m g h.1.1).1 J h.1.2
   |true =>
    have U:=(az m g h.1.1).1;rcases t7 S with⟨i,rfl⟩|⟨i,rfl⟩
    rotate_left
    .exact(ak U J (bZ h.1.2 es _)).imp λσ H Q q=>by
      obtain⟨B,E,O,G,vs,st,Y,q⟩:=q;cases (show none=some vs from Y)
    obtain⟨x,p,rfl,h1⟩:=qh h.1.1;exact yV h1 J
end
def Fi(g:Gf X T k cal)(h:chk T me X.N X.env.scope e=true)(hf:jp me=true):PE X e (tF X.K cal me):=by
 cases me with
 |lst es =>
  replace h:=aw h
  obtain⟨q,w,h⟩:=h;obtain rfl:=yz w
  replace h:=pb.mp h
  exact CT (sounds es g h.1) h.2
 |blt b es =>
  replace h:=aw h
  obtain⟨⟨x,args⟩,w,h⟩:=h;refine oB (iT w) λp pos Z=>?_
  subst Z;simp only[ll,Kt]at h;obtain⟨⟨Y,hg⟩,ha⟩:=h;exact(sg (p:=p) (pos:=pos) g Y hg ha (λxs J=>⟨sounds es g J,bv J⟩) (λm x hm Y=>match es,hm with|[m'],rfl=>(az m' g (cW Y).1.1).1) (λa b x x' hm Y=>match es,hm with|[m1,m2],rfl=>⟨(az m1 g (cW Y).1.1).1,(az m2 g (cW (cW Y).2).1.1).1⟩)).1 hf
 |comp k' src js cond elt =>
  replace h:=lu h
  obtain⟨e,x,px,it,ifs,scope,pos,rfl,h⟩:=h;simp only[ll,KL]at h;obtain⟨⟨⟨⟨h1,h2⟩,h3⟩,h4⟩,h5⟩:=h;have hw:=nG (tg:=.Name x px) (λz=>by exact dD z) g h2 (λxs J=>⟨sounds src g J,bv J⟩) (λm x hm Y=>match src,hm with|[m'],rfl=>(az m' g (cW Y).1.1).1);exact ue (pos:=pos) g h1 hw.1 hw.2 (λS U C fp=>ui h3 λc hc=>(az cond (g.blk x (fQ X.N js) scope S U C fp) hc).2) (λS U C fp=>(az elt (g.blk x (fQ X.N js) scope S U C fp) h4).1) h5
 | _=>exact dD hf
noncomputable def HE:MV->Bool
 | .brw _=>true
 | .brwD _=>true
 | .brwO _ _=>true
 | _=>false
def vF(h1:fk m=true)(h2:HE m=true):False:=by cases m<;>first|(exact dD h2;done)|(exact dD h1;done)
structure cq(B:Hp)(O O':List Addr)(G A:Rho)(σ σ':St):Prop where
 stay:∀a,B a≠none->a∈O->a∈O'
 new:∀a∈O',a∈O\/B a=none
 brw:∀(i:Nat) (m:MV),HE m=true->A[i]?=some (some m)->G[i]?=some (some m)/\σ'[i]?=σ[i]?
 len:A.length=G.length
 mutO:∀(i:Nat) (fs xs:List PV),A[i]?=some (some (.ownO true fs xs))->(∃ys,G[i]?=some (some (.ownO true fs ys)))/\σ'[i]?=σ[i]?
def cq.refl{B:Hp}{O:List Addr}{G:Rho}{σ:St}:cq B O O G G σ σ:=⟨λ_ _ h=>h,λ_ h=>.inl h,λ_ _ _ h=>⟨h,rfl⟩,rfl,λ_ _ xs h=>⟨⟨xs,h⟩,rfl⟩⟩
theorem cq.trans{B:Hp}{O O1 O2:List Addr}{G ρ1 J:Rho}{σ S U:St}(a:cq B O O1 G ρ1 σ S)(b:cq B O1 O2 ρ1 J S U):cq B O O2 G J σ U where
 stay:=λx h1 h2=>b.stay x h1 (a.stay x h1 h2)
 new:=λx h=>(b.new x h).elim (a.new x) .inr
 brw:=λi xs hm h=>by
  obtain⟨h1,Y⟩:=b.brw i xs hm h;obtain⟨h2,Z⟩:=a.brw i xs hm h1;exact⟨h2,Y.trans Z⟩
 len:=b.len.trans a.len
 mutO:=λi fs xs h=>by
  obtain⟨⟨d1,h1⟩,Y⟩:=b.mutO i fs xs h;obtain⟨h2,Z⟩:=a.mutO i fs d1 h1;exact⟨h2,Y.trans Z⟩
def fV(K:MP)(B:Hp)(E O:List Addr)(G:Rho)(σ:St)(D:gF):R->Prop
 | .next A=>∀J H' O',a7 K B E O' H' A J->cq B O O' G A σ J->D.nx J H'
 | .brk A=>∀J H' O',a7 K B E O' H' A J->cq B O O' G A σ J->D.bk J H'
 | .cont A=>∀J H' O',a7 K B E O' H' A J->cq B O O' G A σ J->D.ct J H'
 | .ret v=>∀u H',ae B H'->Rep K (ah H' E) v u->D.rt u H'
 | .retF xs=>∀p us H',ae B H'->B p=none->H' p=some (.lst us)->Reps K (ah H' (p::E)) xs us->D.rt (.ref p) H'
 | .retT v A=>∀J H' O',a7 K B E O' H' A J->cq B O O' G A σ J->D.rt v.v H'
 | .bad=>False
theorem fV.trans{K:MP}{B:Hp}{E O O':List Addr}{G A:Rho}{σ Y:St}{D:gF}{r:R}(h:fV K B E O G σ D r)(k:cq B O O' G A σ Y):fV K B E O' A Y D r:=by
 cases r with
 |next S=>exact λJ H2 U st k2=>h J H2 U st (k.trans k2)
 |brk S=>exact λJ H2 U st k2=>h J H2 U st (k.trans k2)
 |cont S=>exact λJ H2 U st k2=>h J H2 U st (k.trans k2)
 |ret v=>exact h
 |bad=>exact h
 |retF xs=>exact h
 |retT v S=>exact λJ H2 U st k2=>h J H2 U st (k.trans k2)
noncomputable def tS(K:MP)(cal:Cal)(m:MS):TS:=λD σ H=>∃B E O G,a7 K B E O H G σ/\fV K B E O G σ D (ex cal m G)
noncomputable def tSs(K:MP)(cal:Cal)(ms:List MS):TS:=λD σ H=>∃B E O G,a7 K B E O H G σ/\fV K B E O G σ D (exs cal ms G)
section
variable{K:MP}{B H H':Hp}{E O:List Addr}{G:Rho}{σ:St}
def ac(h:i<G.length):(put G i m)[i]?=some (some m):=by unfold put;exact KS h
def aa(h:i≠j):(put G i m)[j]?=G[j]?:=by unfold put;exact Kr h
def put_len :(put G i m).length=G.length:=by unfold put;exact L3
def a7.store(st:a7 K B E O H G σ){i:Nat}{v:PV}{u:V}(hi:i<σ.length)(r:Rep K (ah H O) v u):a7 K B E O H (put G i (.val v)) (σ.set i (some u))/\cq B O O G (put G i (.val v)) σ (σ.set i (some u)):=by
 have J:i<G.length:=by rw[st.len];exact hi
 refine⟨⟨st.keep,st.here,st.sub,st.old,by rw[put_len,L3];exact st.len,λj m e=>?_,λa b xs ys ad Z U Y o1 o2 e3 e4=>?_
  ,fM st.inn (λj m0 e l0=>by
   have S:i≠j:=λz=>by subst z;rw[ac J]at e;cases e;cases l0
   rw[aa S]at e;exact⟨⟨m0,e,l0⟩,Kr S,λ_ _ _ h=>h⟩) λj m c e _ o es=>.inl (by
   have S:i≠j:=λz=>by subst z;rw[ac J]at e;cases e;cases o
   rw[aa S]at e;rw[Kr S]at es;exact⟨m,e,o,es⟩)
  ⟩,⟨λ_ _ h=>h,λ_ h=>.inl h,λj xs ao e=>?_,put_len
  ,λj fs xs e=>by
   have S:i≠j:=λz=>by subst z;rw[ac J]at e;cases e
   rw[aa S]at e;exact⟨⟨xs,e⟩,Kr S⟩
  ⟩⟩
 .by_cases S:i=j
  .subst S;rw[ac J]at e;cases e;exact⟨u,KS hi,r⟩
  .rw[aa S]at e;obtain⟨w,U,q⟩:=st.slot j m e;exact⟨w,by rw[Kr S];exact U,q⟩
 .have h1:i≠a:=λz=>by subst z;rw[ac J]at U;cases U;cases o1
  have h2:i≠b:=λz=>by subst z;rw[ac J]at Y;cases Y;cases o2
  rw[aa h1]at U;rw[aa h2]at Y;rw[Kr h1]at e3;rw[Kr h2]at e4;exact st.apart a b xs ys ad Z U Y o1 o2 e3 e4
 .have S:i≠j:=λz=>by subst z;rw[ac J]at e;cases e;cases ao
  rw[aa S]at e;exact⟨e,Kr S⟩
def a7.storeM(st:a7 K B E O H G σ){i:Nat}{mm:MV}{p:Addr}(hi:i<σ.length)(s:ae H H')(hp:H p=none)(e:H' p≠none)(hm:fk mm=true)
  (r:B p=none->fj K B (p::O) H' mm (.ref p))
  (a1:isL mm=false:=by rfl)
  :
  a7 K B E (p::O) H' (put G i mm) (σ.set i (some (.ref p)))/\cq B O (p::O) G (put G i mm) σ (σ.set i (some (.ref p))):=by
 have ar:i<G.length:=by rw[st.len];exact hi
 have a2:B p=none:=st.keep.free hp;have Y:ae (ah H O) (ah H' (p::O)):=aQ s λb hb=>by
  rcases nW.mp hb with rfl|hb
  .exact .inr hp
  .exact .inl hb
 refine⟨⟨st.keep.trans s,λa ha=>?_,λa ha=>KJ _ (st.sub a ha),st.old,by rw[put_len,L3];exact st.len,λj m U=>?_,λa b xs ys ad a3 e1 J o1 o2 e3 e4=>?_
  ,fM (st.mono s).inn (λj m0 e l0=>by
   have S:i≠j:=λz=>by subst z;rw[ac ar]at e;cases e;rw[a1]at l0;cases l0
   rw[aa S]at e;exact⟨⟨m0,e,l0⟩,Kr S,λ_ _ _ h=>h⟩) λj m c e _ o es=>by
   by_cases S:i=j
   .subst S;rw[KS hi]at es;cases es;refine .inr λk m1 a l f1 f0 f2 f3 z=>?_
    subst z;obtain⟨u,e3,q⟩:=st.slot k _ f1;rw[f2]at e3;cases e3;cases m1<;>try (cases f0;done)
    obtain⟨a',l',e4,q⟩:=q;cases e4;obtain⟨C,dx,gs,e5,_⟩:=q.ob;have e6:=q.l;rw[s _ _ e5]at f3;rw[e5]at e6;rw[e6]at f3;cases f3;obtain⟨us,e7,_⟩:=q.li;rw[hp]at e7;cases e7
   .rw[aa S]at e;rw[Kr S]at es;exact .inl ⟨m,e,o,es⟩
  ⟩,⟨λ_ _ h=>KJ _ h,λa ha=>?_,λj xs bt U=>?_,put_len
  ,λj fs xs U=>by
   have S:i≠j:=λz=>by subst z;rw[ac ar]at U;cases U;cases a1
   rw[aa S]at U;exact⟨⟨xs,U⟩,Kr S⟩
  ⟩⟩
 .rcases nW.mp ha with rfl|ha
  .exact e
  .exact λz=>st.here a ha (s.free z)
 .by_cases S:i=j
  .subst S;rw[ac ar]at U;cases U;exact⟨_,KS hi,r a2⟩
  .rw[aa S]at U;obtain⟨w,e1,q⟩:=st.slot j m U;refine⟨w,by rw[Kr S];exact e1,?_⟩;cases m with
   |val v=>exact Rep.mono Y _ q
   |own ys=>obtain⟨a,ws,J,h1,h2,h3,h4⟩:=q;exact⟨a,ws,J,s _ _ h1,Reps.mono Y _ h2,KJ _ h3,h4⟩
   |brw ys=>obtain⟨a,ws,J,h1,h2⟩:=q;exact⟨a,ws,J,h1,Reps.mono Y _ h2⟩
   |ownD ys=>obtain⟨a,J,h1,h3,h4⟩:=q;exact⟨a,J,h1.move (s _) Y,KJ _ h3,h4⟩
   |ownO _ fs ys=>obtain⟨a,l,J,q⟩:=q;exact⟨a,l,J,q.move Y (λ_=>s _ _) (λ_=>s _ _) (KJ _ q.aO) (KJ _ q.lO) q.aB q.lB⟩
   |brwO fs ys=>obtain⟨a,J,q⟩:=q;exact⟨a,J,q.move (ae.refl B) Y⟩
   |brwD ys=>exact q
 .have Z:∀(j:Nat) (zs:MV) (ad:Addr),G[j]?=some (some zs)->fk zs=true->σ[j]?=some (some (.ref ad))->ad≠p:=λj zs ad h1 ho h2 z=>by
   obtain⟨w,e1,q⟩:=st.slot j _ h1;rw[h2]at e1;cases e1;cases zs with
   |own zs =>
    obtain⟨a,ws,J,h1,_⟩:=q;cases J;rw[z,hp]at h1;cases h1
   |ownD zs =>
    obtain⟨a,J,h1,_⟩:=q;cases J;obtain⟨o,h1⟩:=h1.here;rw[z,hp]at h1;cases h1
   |ownO _ fs zs =>
    obtain⟨a,l,J,q⟩:=q;cases J;obtain⟨C,dx,gs,h1,_⟩:=q.ob;rw[z,hp]at h1;cases h1
   |brwO _ _=>cases ho
   |val _=>cases ho
   |brw _=>cases ho
   |brwD _=>cases ho
  by_cases ha:i=a
  .subst ha;have hb:i≠b:=a3;rw[KS hi]at e3;rw[aa hb]at J;rw[Kr hb]at e4;cases e3;exact Z b ys _ J o2 e4 rfl
  .by_cases hb:i=b
   .subst hb;rw[KS hi]at e4;rw[aa ha]at e1;rw[Kr ha]at e3;cases e4;exact Z a xs _ e1 o1 e3 rfl
   .rw[aa ha]at e1;rw[aa hb]at J;rw[Kr ha]at e3;rw[Kr hb]at e4;exact st.apart a b _ _ ad a3 e1 J o1 o2 e3 e4
 .rcases nW.mp ha with rfl|ha
  .exact .inr a2
  .exact .inl ha
 .have S:i≠j:=λz=>by subst z;rw[ac ar]at U;cases U;exact vF hm bt
  rw[aa S]at U;exact⟨U,Kr S⟩
def a7.storeOwn(st:a7 K B E O H G σ){i:Nat}{xs:List PV}{p:Addr}{us:List V}(hi:i<σ.length)(s:ae H H')(J:H p=none)(e:H' p=some (.lst us))(r:Reps K (ah H' (p::O)) xs us) :
  a7 K B E (p::O) H' (put G i (.own xs)) (σ.set i (some (.ref p)))/\cq B O (p::O) G (put G i (.own xs)) σ (σ.set i (some (.ref p))):=
 st.storeM hi s J (by rw[e];simp) rfl λS=>⟨p,us,rfl,e,r,K1,S⟩
def a7.changeM(st:a7 K B E O H G σ){i:Nat}{m0 m1:MV}{a:Addr}{ob:HO}(e:G[i]?=some (some m0))(o0:fk m0=true)(o1:fk m1=true)
  (es:σ[i]?=some (some (.ref a))) (h3:a∈O) (h4:B a=none) (r:ah (upd H a ob) O=ah H O->fj K B O (upd H a ob) m1 (.ref a))
  (a0:isL m1=false:=by rfl) (bT:isL m0=false:=by rfl)
  :
  a7 K B E O (upd H a ob) (put G i m1) σ/\cq B O O G (put G i m1) σ σ:=by
 have Z:i<G.length:=(uM.mp e).1;have Y:ah (upd H a ob) O=ah H O:=e_ h3;have U:∀(j:Nat) (zs:MV) (ad:Addr),i≠j->G[j]?=some (some zs)->fk zs=true->σ[j]?=some (some (.ref ad))->ad≠a:=λj zs ad S q1 o2 q2 z=>by
  subst z;exact st.apart i j m0 zs ad S e q1 o0 o2 es q2
 refine⟨⟨λb u eb=>?_,λb hb=>?_,st.sub,st.old,by rw[put_len];exact st.len,λj m J=>?_,λc d ps qs ad a5 e1 e2 p1 p2 e3 e4=>?_
  ,fM st.inn (λj mo J l0=>by
   have S:i≠j:=λz=>by subst z;rw[ac Z]at J;cases J;rw[a0]at l0;cases l0
   rw[aa S]at J;refine⟨⟨mo,J,l0⟩,rfl,λb l e1 e2=>?_⟩;rw[aA (U j _ b S J (by cases mo<;>first|(cases l0;done)|rfl) e1)]at e2;exact e2) λj m c J _ o ec=>.inl (by
   by_cases S:i=j
   .subst S;exact⟨m0,e,o0,ec⟩
   .rw[aa S]at J;exact⟨m,J,o,ec⟩)
  ⟩,⟨λ_ _ h=>h,λ_ h=>.inl h,λj zs a6 J=>?_,put_len
  ,λj fs xs J=>by
   have S:i≠j:=λz=>by subst z;rw[ac Z]at J;cases J;cases a0
   rw[aa S]at J;exact⟨⟨xs,J⟩,rfl⟩
  ⟩⟩
 .rw[aA (a9 eb h4)];exact st.keep b u eb
 .unfold upd;split
  .simp
  .exact st.here b hb
 .by_cases S:i=j
  .subst S;rw[ac Z]at J;cases J;exact⟨_,es,r Y⟩
  .rw[aa S]at J;obtain⟨w,ew,q⟩:=st.slot j m J;refine⟨w,ew,?_⟩;cases m with
   |val v=>show Rep K (ah (upd H a ob) O) v w;rw[Y];exact q
   |own zs =>
    obtain⟨ad,ws,rfl,q1,q2,q3,q4⟩:=q;refine⟨ad,ws,rfl,?_,by rw[Y];exact q2,q3,q4⟩;rw[aA (U j (.own zs) ad S J rfl ew)];exact q1
   |ownD zs =>
    obtain⟨ad,rfl,q1,q3,q4⟩:=q;refine⟨ad,rfl,q1.move (λo eo=>?_) (by rw[Y];exact ae.refl _),q3,q4⟩;rw[aA (U j (.ownD zs) ad S J rfl ew)];exact eo
   |ownO b fs zs =>
    obtain⟨ad,l,rfl,q⟩:=q;have n1:=U j (.ownO b fs zs) ad S J rfl ew;have n2:=(st.inn j _ ad l J rfl ew q.l i m0 (λz=>S z) e).2 a o0 es;exact⟨ad,l,rfl,q.move (by rw[Y];exact ae.refl _) (λo h=>by rw[aA n1];exact h) (λo h=>by rw[aA (Ku n2)];exact h) q.aO q.lO q.aB q.lB⟩
   |brwO fs zs=>obtain⟨ad,rfl,q⟩:=q;exact⟨ad,rfl,q.move (ae.refl B) (by rw[Y];exact ae.refl _)⟩
   |brwD zs=>exact q
   |brw zs=>obtain⟨ad,ws,rfl,q1,q2⟩:=q;exact⟨ad,ws,rfl,q1,by rw[Y];exact q2⟩
 .have h1:∀(j:Nat) (zs:MV),(put G i m1)[j]?=some (some zs)->fk zs=true->∃zs,G[j]?=some (some zs)/\fk zs=true:=λj zs q oz=>by
   by_cases S:i=j
   .subst S;exact⟨m0,e,o0⟩
   .rw[aa S]at q;exact⟨zs,q,oz⟩
  obtain⟨q1,e1,p1⟩:=h1 c ps e1 p1;obtain⟨q2,e2,p2⟩:=h1 d qs e2 p2;exact st.apart c d q1 q2 ad a5 e1 e2 p1 p2 e3 e4
 .have S:i≠j:=λz=>by subst z;rw[ac Z]at J;cases J;exact vF o1 a6
  rw[aa S]at J;exact⟨J,rfl⟩
def a7.change(st:a7 K B E O H G σ){i:Nat}{xs ys:List PV}{a:Addr}{us:List V}(e:G[i]?=some (some (.own xs)))(es:σ[i]?=some (some (.ref a)))(r:Reps K (ah H O) ys us) :
  a7 K B E O (upd H a (.lst us)) (put G i (.own ys)) σ/\cq B O O G (put G i (.own ys)) σ σ:=by
 obtain⟨w,S,Z,U,Y,h1,h2,h3,h4⟩:=st.slot i _ e;rw[es]at S;cases S;cases Y;exact st.changeM e rfl rfl es h3 h4 λJ=>⟨a,us,rfl,ax,by rw[J];exact r,h3,h4⟩
def a7.changeD(st:a7 K B E O H G σ){i:Nat}{xs ys:DD}{a:Addr}{ob:HO}(e:G[i]?=some (some (.ownD xs)))(es:σ[i]?=some (some (.ref a)))(hd:ah (upd H a ob) O=ah H O->DAt K (upd H a ob) O a ys) :
  a7 K B E O (upd H a ob) (put G i (.ownD ys)) σ/\cq B O O G (put G i (.ownD ys)) σ σ:=by
 obtain⟨w,S,Y,U,h1,h3,h4⟩:=st.slot i _ e;rw[es]at S;cases S;cases U;exact st.changeM e rfl rfl es h3 h4 λJ=>⟨a,rfl,hd J,h3,h4⟩
def a7.freeze(st:a7 K B E O H G σ){i:Nat}{xs:List PV}(e:G[i]?=some (some (.own xs))):∃O',a7 K B E O' H (put G i (.val (.lst xs))) σ/\cq B O O' G (put G i (.val (.lst xs))) σ σ:=by
 obtain⟨w,es,a,us,rfl,h1,h2,h3,h4⟩:=st.slot i _ e;have Y:i<G.length:=(uM.mp e).1;have U:ae (ah H O) (ah H (O.filter λb=>decide (b≠a))):=aQ (ae.refl H) λb Z=>.inl (Kw.mp Z).1
 have mem:∀b,b≠a->b∈O->b∈O.filter λb=>decide (b≠a):=λb Z ho=>Kw.mpr ⟨ho,Ks Z⟩
 refine⟨O.filter λb=>decide (b≠a),⟨st.keep,λb Z=>st.here b (Kw.mp Z).1,λb Z=>mem b (λz=>st.old b Z (z▸h4)) (st.sub b Z),st.old,by rw[put_len];exact st.len,λj m J=>?_,λc d ps qs ad aL e1 e2 p1 p2 e3 e4=>?_
  ,fM st.inn (λj mo J l0=>by
   have S:i≠j:=λz=>by subst z;rw[ac Y]at J;cases J;cases l0
   rw[aa S]at J;exact⟨⟨mo,J,l0⟩,rfl,λ_ _ _ h=>h⟩) λj m c J _ o ec=>.inl (by
   have S:i≠j:=λz=>by subst z;rw[ac Y]at J;cases J;cases o
   rw[aa S]at J;exact⟨m,J,o,ec⟩)
  ⟩,⟨λb Z ho=>mem b (λz=>Z (z▸h4)) ho,λb Z=>.inl (Kw.mp Z).1,λj zs aP J=>?_,put_len
  ,λj fs xs J=>by
   have S:i≠j:=λz=>by subst z;rw[ac Y]at J;cases J
   rw[aa S]at J;exact⟨⟨xs,J⟩,rfl⟩
  ⟩⟩
 .by_cases S:i=j
  .subst S;rw[ac Y]at J;cases J;refine⟨_,es,?_⟩;show Rep K _ (.lst xs) (.ref a);rw[Rep];refine⟨a,us,rfl,SqL.of ?_,Reps.mono U _ h2⟩;have a0:a∉O.filter λb=>decide (b≠a):=λz=>by simpa using (Kw.mp z).2
   rw[aV a0];exact h1
  .rw[aa S]at J;obtain⟨w,ew,q⟩:=st.slot j m J;refine⟨w,ew,?_⟩;cases m with
   |val v=>exact Rep.mono U _ q
   |own zs =>
    obtain⟨ad,ws,rfl,q1,q2,q3,q4⟩:=q;exact⟨ad,ws,rfl,q1,Reps.mono U _ q2,mem ad (λz=>st.apart i j (.own xs) (.own zs) a S e J rfl rfl es (by rw[ew,z])) q3,q4⟩
   |ownD zs =>
    obtain⟨ad,rfl,q1,q3,q4⟩:=q;exact⟨ad,rfl,q1.move (λ_ eo=>eo) U,mem ad (λz=>st.apart i j (.own xs) (.ownD zs) a S e J rfl rfl es (by rw[ew,z])) q3,q4⟩
   |ownO b fs zs =>
    obtain⟨ad,l,rfl,q⟩:=q;have n2:=(st.inn j _ ad l J rfl ew q.l i (.own xs) (λz=>S z) e).2 a rfl es;exact⟨ad,l,rfl,q.move U (λ_ h=>h) (λ_ h=>h) (mem ad (λz=>st.apart i j (.own xs) (.ownO b fs zs) a S e J rfl rfl es (by rw[ew,z])) q.aO) (mem l (Ku n2) q.lO) q.aB q.lB⟩
   |brwO fs zs=>obtain⟨ad,rfl,q⟩:=q;exact⟨ad,rfl,q.move (ae.refl B) U⟩
   |brwD zs=>exact q
   |brw zs=>obtain⟨ad,ws,rfl,q1,q2⟩:=q;exact⟨ad,ws,rfl,q1,Reps.mono U _ q2⟩
 .have h1:∀(j:Nat) (zs:MV),fk zs=true->(put G i (.val (.lst xs)))[j]?=some (some zs)->G[j]?=some (some zs):=λj zs oz q=>by
   by_cases S:i=j
   .subst S;rw[ac Y]at q;cases q;cases oz
   .rw[aa S]at q;exact q
  exact st.apart c d ps qs ad aL (h1 c ps p1 e1) (h1 d qs p2 e2) p1 p2 e3 e4
 .have S:i≠j:=λz=>by subst z;rw[ac Y]at J;cases J;cases aP
  rw[aa S]at J;exact⟨J,rfl⟩
end
section
open AutoSeq1 (wpAny_loadPart')
open MeetsSeq MeetsSeq2 MeetsSeq3 SeqRoads2 AutoSeq1
def qw(l)(items)(n)(b)(J)(n2)(S)(U)(ao:¬(!items.isEmpty&&Builtin.List.listTooLong (items.size+J.size))=true)(Y:items.size<=sizeLine)(ar:items.size+J.size<=sizeLine+1) :
  Meets (Builtin.«list.extend» ⟨[.ref l,.ref b],[]⟩) (λ_ R s=>s.heap.get? l=some { cls:=.type "list",dict:=none,data:=.seq items n,slots:=#[] }/\s.heap.get? b=some { cls:=.type "tuple",dict:=S,data:=.seq J n2,slots:=U }/\R (.ok (.ret Value.none)) { s with heap:=s.heap.update l (Obj.mapSeq λx=>x++J),toks:=s.toks }):=
 .of_wp λprog w A R s h=>by
  obtain⟨hp,g,d,tk,os⟩:=s;obtain⟨Z,hb,h⟩:=h;have f1:=AutoSeq1.idx_int;have f2:=LY;have f3:=AutoSeq1.sub_list_list;have f4:=AutoSeq1.sub_tuple_list;have f5:=AutoSeq1.sub_list_tuple;
  wp_walk using (wpAny_updateSeq Z rfl (hz:=Y)),wpAny_loadPart' Z,wpAny_loadPart' hb;exact⟨_,rfl,h⟩
def qx(l)(items)(n)(b)(J)(n2)(S)(U)(ao:¬(!items.isEmpty&&Builtin.List.listTooLong (items.size+J.size))=true)(Y:items.size<=sizeLine)(ar:items.size+J.size<=sizeLine+1) :
  Meets (Builtin.«list.extend» ⟨[.ref l,.ref b],[]⟩) (λ_ R s=>s.heap.get? l=some { cls:=.type "list",dict:=none,data:=.seq items n,slots:=#[] }/\s.heap.get? b=some { cls:=.type "list",dict:=S,data:=.seq J n2,slots:=U }/\R (.ok (.ret Value.none)) { s with heap:=s.heap.update l (Obj.mapSeq λx=>x++J),toks:=s.toks }):=
 .of_wp λprog w A R s h=>by
  obtain⟨hp,g,d,tk,os⟩:=s;obtain⟨Z,hb,h⟩:=h;have f1:=AutoSeq1.idx_int;have f2:=LY;have f3:=AutoSeq1.sub_list_list;have f4:=AutoSeq1.sub_tuple_list;have f5:=AutoSeq1.sub_list_tuple;
  wp_walk using (wpAny_updateSeq Z rfl (hz:=Y)),wpAny_loadPart' Z,wpAny_loadPart' hb;exact⟨_,rfl,h⟩
end
section
variable{X:Cx}{T:Tab}{k:Nat}{cal:Cal}
def uu:MtM X "list.extend" (λx vs H Q=>∃l b xs zs,x=.ref l/\vs=[.ref b]/\H l=some (.lst xs)/\(SqL X.K H b zs\/SqT X.K H b zs)/\xs.length+zs.length<=sizeLine/\Q .non (upd H l (.lst (xs++zs)))):=by
 intro pins s σ H x vs v us Q I rx rv h;refine cw λZq kq=>?_
 obtain⟨l,b,xs,zs,rfl,rfl,hH,Y,hz,q⟩:=h;subst rx;refine ag rv.one λu Z ru=>?_
 subst Z;subst ru;obtain⟨z,its,n,r,hl,e⟩:=I.lstM hH;have fin:∀J,aN zs J->EP X pins σ Q .none { s with heap:=s.heap.update l (Obj.mapSeq λx=>x++J.toArray),toks:=s.toks }:=λJ r2 =>
  ⟨.non,_,I.lset (its':=its++J) hH e (by simp) (r.append r2) (by rw[KU];omega),rfl,q⟩
 refine kq ?_;rcases Y with Y|Y
 .obtain⟨J,r2,pl,z2⟩:=I.list Y;have ao:=r2.length;have U:its.toArray.size+J.toArray.size<=sizeLine:=by rw[oe,oe];omega
  have S:¬ (!its.toArray.isEmpty&&Builtin.List.listTooLong (its.toArray.size+J.toArray.size))=true:=by
   rw[rC U,Bool.and_false];exact kn
  obtain⟨⟨cls,dd,data,sl⟩,ho,hc,n2,hd⟩:=pl.isList;simp only at hc hd;subst hc hd;exact Mv PySem.F.slot_list_extend ⟨_,e,rfl⟩ PySem.F.entry_list_extend (PySem.F.args_list_extend_2 _ _) (qx l its.toArray n b J.toArray n2 dd sl S (by rw[oe];omega) (by omega)) ⟨e,ho,fin J r2⟩
 .obtain⟨J,r2,pl,z2⟩:=I.tuple Y;have ao:=r2.length;have U:its.toArray.size+J.toArray.size<=sizeLine:=by rw[oe,oe];omega
  have S:¬ (!its.toArray.isEmpty&&Builtin.List.listTooLong (its.toArray.size+J.toArray.size))=true:=by
   rw[rC U,Bool.and_false];exact kn
  obtain⟨⟨cls,dd,data,sl⟩,ho,hc,n2,hd⟩:=pl;simp only at hc hd;subst hc hd;exact Mv PySem.F.slot_list_extend ⟨_,e,rfl⟩ PySem.F.entry_list_extend (PySem.F.args_list_extend_2 _ _) (qw l its.toArray n b J.toArray n2 dd sl S (by rw[oe];omega) (by omega)) ⟨e,ho,fin J r2⟩
structure Df(X:Cx):Prop where
 nd:X.N.Nodup
 fn:∀x,X.fn x=true
 own:PassesOwn (model X.prog X.w) X.A X.env X.xe
 blk:(X.env.blockKind==.function)=true
def am(h:c6 v=true)(t)(n)(env):swapsWith v t n env=pure false:=by
 cases v<;>first|rfl|(injection h)
def w5(d:Df X)(h:CI X.env.scope x px v=true):swapsWith v (some (.Name x px)) n X.env=pure true:=by
 obtain⟨⟨e,gs,s,p⟩,w,h⟩:=aw h;obtain rfl:=t6 w;show pure _=pure true;rw[d.blk,Bool.true_and];exact Lg pure h
def PS.imp'(h:PS X e t)(i:∀D σ H,σ.length=X.N.length->t' D σ H->t D σ H):PS X e t':=λpins s σ H D I q=>h pins s σ H D I (i D σ H I.len q)
def ltN{N:List Str}{σ:St}(h:N[i]?=some x)(J:σ.length=N.length):i<σ.length:=by rw[J];exact(uM.mp h).1
def cD{K:MP}(h:fV K B E O G σ D (dQ o f)):∃v,o=some v/\fV K B E O G σ D (f v):=by
 cases o with
 |none=>exact(show False from h).elim
 |some v=>exact⟨v,rfl,h⟩
def w8{K:MP}(h:fV K B E O G σ D (yw o f)):∃v,o=some v/\fV K B E O G σ D (f v):=by
 cases o with
 |none=>exact(show False from h).elim
 |some v=>exact⟨v,rfl,h⟩
def y4{K:MP}(hi:i<σ.length)(S:aZ me=false)(q:tS K cal (.set i me) D σ H):pK (tE K cal me) (gc i) D σ H:=by
 refine jG q λB E O G st q=>?_
 refine ag (cD q) λw e q=>?_
 refine⟨B,E,O,G,w,st,e,λu H' s g=>?_⟩;obtain⟨J,U⟩:=(st.mono s).store hi (g.2 S);exact q _ H' O J U
def HF(d:Df X)(hi:X.N[i]?=some x)(J:Loc X.env.scope x)(h:PE X v (tE X.K cal me))(S:aZ me=false)(hc:c6 v=true):PS X (.Assign [.Name x px] v pos) (tS X.K cal (.set i me)):=
 PS.imp' (iC d.nd hi J h (am hc _ _ _) (.inl (d.fn x))) λD σ H U q=>y4 (ltN hi U) S q
def y9{K:MP}(hi:i<σ.length)(q:tS K cal (.setOwn i me) D σ H):pK (tF K cal me) (gc i) D σ H:=by
 refine jG q λB E O G st q=>?_
 refine ag (cD q) λw e q=>?_
 cases w with
 |lst xs =>
  refine⟨B,E,O,G,xs,st,e,λp us H' s S U r=>?_⟩;obtain⟨J,Y⟩:=st.storeOwn hi s S U r;exact q _ H' _ J Y
 | _=>exact(show False from q).elim
def HG(d:Df X)(hi:X.N[i]?=some x)(J:Loc X.env.scope x)(h:PE X v (tF X.K cal me))(hc:c6 v=true):PS X (.Assign [.Name x px] v pos) (tS X.K cal (.setOwn i me)):=
 PS.imp' (iC d.nd hi J h (am hc _ _ _) (.inl (d.fn x))) λD σ H S q=>y9 (ltN hi S) q
def qy:V->List V->Hp->VK->Prop:=λx vs H Q=>∃l xs,∃k:Int,∃y,x=.ref l/\vs=[.int k,y]/\H l=some (.lst xs)/\0<=k/\k<=xs.length/\xs.length<10000/\Q .non (upd H l (.lst (xs.take k.toNat++y::xs.drop k.toNat)))
theorem sh{K:MP}{F:Hp}{w:PV}{u:V}:∀{xs:List PV}{us:List V},Reps K F xs us->Rep K F w u->∀k:Nat,Reps K F (xs.take k++w::xs.drop k) (us.take k++u::us.drop k)
 |xs,us,r,q,0=>.cons q r
 | [],us,r,q,k+1=>by
  have e:us=[]:=by simpa only[Reps]using r
  subst e;exact .cons q .nil
 |x::xs,us,r,q,k+1=>by
  rw[Reps]at r;obtain⟨v,t,rfl,h1,h2⟩:=r;exact .cons h1 (sh h2 q k)
def o8:MtM X "list.insert" qy:=by
 intro pins s σ H x vs v us Q I Z rv h;obtain⟨l,xs,k,y,rfl,rfl,Y,h0,hk,hz,q⟩:=h;cases Z;obtain⟨J,u,rfl,r1,r2⟩:∃J u,us=[J,u]/\aF (.int k) J/\aF y u:=by
  cases rv with
  |cons r1 r2 =>
   cases r2 with
   |cons r2 r3 =>
    cases r3;exact⟨_,_,rfl,r1,r2⟩
 obtain⟨t,rfl⟩:=r1;obtain⟨z,its,n,r,hl,e⟩:=I.lstM Y;have h10:(10000:Nat)<=sizeLine:=by decide
 have ff:Builtin.List.listFitsIndex k=true:=fitsIndex_both (by omega) (by omega);have S:its.toArray.size<=sizeLine:=by rw[oe];omega
 have U:¬ (!Builtin.List.listFitsIndex k)=true:=by rw[ff];exact kn
 have M:=PySem.AutoSeq1.list_insert_list_int_val_1 l its.toArray n k t u U S;have ar:=PySem.F.args_list_insert_3 (.ref l) (.int k t) u;refine Mv PySem.F.slot_list_insert ⟨_,e,rfl⟩ PySem.F.entry_list_insert ar M ⟨e,?_⟩;refine⟨.non,_,I.lset (its':=its.take k.toNat++u::its.drop k.toNat) Y e ?_ ((r.take k.toNat).append (.cons r2 (r.drop k.toNat))) ?_,rfl,q⟩
 .dsimp only;rw[if_neg (by omega),oe,Nat.min_eq_left (by omega)];apply Array.toList_inj.mp;simp;exact take_of_length_le (by simp)
 .rw[KU,length_cons,L8,Mi];omega
def y_{i:Nat}{ke me:ME}{x:Str}{a v:Expr}{p apos cpos pos:Pos}(hk:PE X a (tE X.K cal ke))(h:PE X v (tE X.K cal me))(hn:aD X.N X.env.scope i x=true)(hb:aZ me=false)(J:aE a=true)(Y:aE v=true)(S:(apos.endLine==cpos.line)=true) :
  PS X (.Expr (.Call (.Attribute (.Name x p) "insert" apos) [a,v] [] cpos) pos) (tS X.K cal (.insert i ke me)):=by
 refine(c5 (mS PySem.F.plainAttrs_list PySem.F.slot_list_insert PySem.F.type_list_insert o8 (cn hn) (ak hk (ak h aS (bZ Y _ _)) (bZ J _ _)) rfl (by rw[bZ J,bZ Y];rfl) S (bZ J _ _) (by rw[bZ Y];rfl)) rfl).imp λD σ H q=>?_
 obtain⟨B,E,O,G,st,q⟩:=q;rw[ex]at q;obtain⟨kv,e0,q⟩:=cD q;obtain⟨w,e,q⟩:=cD q;cases U:(G[i]?).join with
 |none=>rw[U]at q;exact(show False from q).elim
 |some m =>
  rw[U]at q;cases m with
  |own xs =>
   cases kv with
   |int j =>
    dsimp only at q;split at q
    .rename_i Z;obtain⟨u,eu,b,us,rfl,ha,rs,hO,hB⟩:=bC st U;refine⟨_,eu,.inl ⟨rfl,us,SqL.of ha⟩,B,E,O,G,.int j,st,e0,λu1 H1 s1 g1=>⟨B,E,O,G,w,st.mono s1,e,λu2 H2 s2 g2=>⟨b,us,j,u2,rfl,?_,s2 _ _ (s1 _ _ ha),Z.1,?_,?_,?_⟩⟩⟩
     .rw[g1.1.int]
     .rw[<- rs.length];exact Z.2.1
     .rw[<- rs.length];exact Z.2.2
     .have ar:=s1.trans s2;have aH:=Reps.mono (aj ar) _ rs;obtain⟨aL,k'⟩:=((st.mono s1).mono s2).change (us:=us.take j.toNat++u2::us.drop j.toNat) (ys:=xs.take j.toNat++w::xs.drop j.toNat) (join_some U) eu (sh aH (g2.2 hb) _);exact q _ _ _ aL k'
    .exact(show False from q).elim
   | _=>exact(show False from q).elim
  |val _=>exact(show False from q).elim
  |brw _=>exact(show False from q).elim
  |ownD _=>exact(show False from q).elim
  |ownO _ _ _=>exact(show False from q).elim
  |brwO _ _=>exact(show False from q).elim
  |brwD _=>exact(show False from q).elim
def za{i:Nat}{me:ME}{x:Str}{v:Expr}{p apos cpos pos:Pos}(h:PE X v (tE X.K cal me))(hn:aD X.N X.env.scope i x=true)(hb:aZ me=false)(U:aE v=true)(J:(apos.endLine==cpos.line)=true) :
  PS X (.Expr (.Call (.Attribute (.Name x p) "append" apos) [v] [] cpos) pos) (tS X.K cal (.append i me)):=by
 refine(c5 (mS PySem.F.plainAttrs_list PySem.F.slot_list_append PySem.F.type_list_append gJ (cn hn) (ak h aS (bZ U _ _)) rfl (by rw[bZ U];rfl) J (bZ U _ _) rfl) rfl).imp λD σ H q=>?_
 obtain⟨B,E,O,G,st,q⟩:=q;rw[ex]at q;obtain⟨w,e,q⟩:=cD q;cases S:(G[i]?).join with
 |none=>rw[S]at q;exact(show False from q).elim
 |some m =>
  rw[S]at q;cases m with
  |own xs =>
   dsimp only at q;split at q
   .rename_i hl;obtain⟨u,Z,a,us,rfl,ha,rs,hO,hB⟩:=bC st S;refine⟨_,Z,.inl ⟨rfl,us,SqL.of ha⟩,B,E,O,G,w,st,e,λu H1 s g=>⟨a,us,u,rfl,rfl,s _ _ ha,?_,?_⟩⟩
    .rw[<- rs.length];exact wh hl (by decide)
    .obtain⟨Y,k'⟩:=(st.mono s).change (us:=us++[u]) (ys:=xs++[w]) (join_some S) Z ((Reps.mono (aj s) _ rs).snoc (g.2 hb));exact q _ _ _ Y k'
   .exact(show False from q).elim
  |val _=>exact(show False from q).elim
  |brw _=>exact(show False from q).elim
  |ownD _=>exact(show False from q).elim
  |ownO _ _ _=>exact(show False from q).elim
  |brwO _ _=>exact(show False from q).elim
  |brwD _=>exact(show False from q).elim
def zb{i:Nat}{me:ME}{x:Str}{v:Expr}{p apos cpos pos:Pos}(h:PE X v (tE X.K cal me))(hn:aD X.N X.env.scope i x=true)(Y:aE v=true)(J:(apos.endLine==cpos.line)=true) :
  PS X (.Expr (.Call (.Attribute (.Name x p) "extend" apos) [v] [] cpos) pos) (tS X.K cal (.extend i me)):=by
 refine(c5 (mS PySem.F.plainAttrs_list PySem.F.slot_list_extend PySem.F.type_list_extend uu (cn hn) (ak h aS (bZ Y _ _)) rfl (by rw[bZ Y];rfl) J (bZ Y _ _) rfl) rfl).imp λD σ H q=>?_
 obtain⟨B,E,O,G,st,q⟩:=q;rw[ex]at q;obtain⟨w,e,q⟩:=cD q;cases U:(G[i]?).join with
 |none=>rw[U]at q;exact(show False from q).elim
 |some m =>
  rw[U]at q;cases m with
  |own xs =>
   cases hw:cx w with
   |none=>rw[hw]at q;exact(show False from q).elim
   |some ys =>
    rw[hw]at q;dsimp only at q;split at q
    .rename_i hl;obtain⟨u,eu,a,us,rfl,ha,rs,hO,hB⟩:=bC st U;refine⟨_,eu,.inl ⟨rfl,us,SqL.of ha⟩,B,E,O,G,w,st,e,λu H1 s g=>?_⟩;obtain⟨b,ws,rfl,sq,S⟩:=g.1.seq hw;refine⟨a,b,us,ws,rfl,rfl,s _ _ ha,sq,?_,?_⟩
     .rw[<- rs.length,<- S.length];exact gM hl
     .obtain⟨Z,k'⟩:=(st.mono s).change (us:=us++ws) (ys:=xs++ys) (join_some U) eu ((Reps.mono (aj s) _ rs).append S);exact q _ _ _ Z k'
    .exact(show False from q).elim
  |val _=>exact(show False from q).elim
  |brw _=>exact(show False from q).elim
  |ownD _=>exact(show False from q).elim
  |ownO _ _ _=>exact(show False from q).elim
  |brwO _ _=>exact(show False from q).elim
  |brwD _=>exact(show False from q).elim
def Fj{m:Bool}{i:Nat}{x:Str}{px dp pos:Pos}(d:Df X)(hi:X.N[i]?=some x)(hx:Loc X.env.scope x):PS X (.Assign [.Name x px] (.Dict [] [] dp) pos) (tS X.K cal (.newD m i)):=by
 cases m with
 |false =>
  refine PS.imp' (iC d.nd hi hx yh (am (v:=.Dict [] [] dp) rfl _ _ _) (.inl (d.fn x))) λD σ H U q=>?_
  obtain⟨B,E,O,G,st,q⟩:=q;rw[ex]at q;intro p S;obtain⟨J,Y⟩:=st.storeM (mm:=.ownD (.k [])) (ltN hi U) (bE S (.dK [])) S (by rw[ax];simp) rfl λZ=>⟨p,rfl,ax,K1,Z⟩
  exact q _ _ _ J Y
 |true =>
  refine PS.imp' (iC d.nd hi hx yi (am (v:=.Dict [] [] dp) rfl _ _ _) (.inl (d.fn x))) λD σ H U q=>?_
  obtain⟨B,E,O,G,st,q⟩:=q;rw[ex]at q;intro p S;obtain⟨J,Y⟩:=st.storeM (mm:=.ownD (.t [])) (ltN hi U) (bE S (.dT [])) S (by rw[ax];simp) rfl λZ=>⟨p,rfl,ax,K1,Z⟩
  exact q _ _ _ J Y
def Fk{i:Nat}{mk me:ME}{x:Str}{v s:Expr}{p J pos:Pos}(g0:Gf X T k cal)(hk:PE X s (tE X.K cal mk))(h:PE X v (tE X.K cal me))(hn:aD X.N X.env.scope i x=true)(hc:c6 v=true) :
  PS X (.Assign [.Subscript (.Name x p) s J] v pos) (tS X.K cal (.dput i mk me)):=by
 have hu:X.A.units+1<cLine:=by have:=g0.units;omega
 refine(A7 hu (cn hn) hk h (by cases v<;>first|rfl|(simp[c6]at hc))).imp λD σ H q=>?_
 obtain⟨B,E,O,G,st,q⟩:=q;rw[ex]at q;obtain⟨w,e,q⟩:=cD q;obtain⟨kv,ek,q⟩:=cD q;cases S:(G[i]?).join with
 |none=>rw[S]at q;exact(show False from q).elim
 |some m =>
  rw[S]at q;cases m with
  |ownD d =>
   cases hz:sc? w with
   |none=>rw[hz]at q;exact(show False from q).elim
   |some sz =>
    rw[hz]at q;dsimp only at q;cases hd:tZ d kv sz with
    |none=>rw[hd]at q;exact(show False from q).elim
    |some d' =>
     rw[hd]at q;obtain⟨u,Y,a,rfl,ha,hO,hB⟩:=bC st S;refine⟨B,E,O,G,w,st,e,λu H1 s1 g1=>⟨_,Y,B,E,O,G,_,st.mono s1,ek,λuk H2 Z g2=>?_⟩⟩;refine⟨a,_,rfl,by rw[y3 hz g1.1];exact By hd (Z _ _ (s1 _ _ (ha.put1 hd))) g2.1,?_⟩;obtain⟨U,k'⟩:=((st.mono s1).mono Z).changeD (ys:=d') (join_some S) Y λ_=>.put2 hd ax
     exact q _ _ _ U k'
  |val _=>exact(show False from q).elim
  |brw _=>exact(show False from q).elim
  |own _=>exact(show False from q).elim
  |ownO _ _ _=>exact(show False from q).elim
  |brwO _ _=>exact(show False from q).elim
  |brwD _=>exact(show False from q).elim
def HH(h:PE X v (tE X.K cal me))(J:aZ me=false):PS X (.Return (some v) pos) (tS X.K cal (.ret me)):=by
 refine(cv h).imp λD σ H q=>?_
 refine jG q λB E O G st q=>?_
 refine ag (cD q) λw e q=>?_
 exact⟨B,E,O,G,w,st,e,λu H' s g=>q u H' (st.keep.trans s) (Rep.mono (aQ (ae.refl H') λb J=>.inl (st.sub b J)) _ (g.2 J))⟩
def zc{i:Nat}{x:Str}{p pos:Pos}(hn:aD X.N X.env.scope i x=true):PS X (.Return (some (.Name x p)) pos) (tS X.K cal (.retOwn i)):=by
 refine(cv (cn hn)).imp λD σ H q=>?_
 obtain⟨B,E,O,G,st,q⟩:=q;rw[ex]at q;have J:ae (ah H O) (ah H E):=aQ (ae.refl H) λb Z=>.inl (st.sub b Z)
 cases S:(G[i]?).join with
 |none=>rw[S]at q;exact(show False from q).elim
 |some m =>
  rw[S]at q;cases m with
  |own xs =>
   obtain⟨u,U,a,us,rfl,ha,rs,hO,Y⟩:=bC st S;refine⟨_,U,q _ H st.keep ?_⟩;rw[Rep];refine⟨a,us,rfl,SqL.of ?_,Reps.mono J _ rs⟩;rw[aV λz=>st.old a z Y];exact ha
  |val v =>
   obtain⟨u,U,so⟩:=bC st S;exact⟨_,U,q _ H st.keep (Rep.mono J _ so)⟩
  |brw _=>exact(show False from q).elim
  |ownD kvs =>
   obtain⟨u,U,a,rfl,ha,hO,Y⟩:=bC st S;refine⟨_,U,q _ H st.keep ?_⟩;rw[Rep];refine⟨a,rfl,.inl ?_⟩;rw[aV λz=>st.old a z Y];exact ha
  |ownO _ _ _=>exact(show False from q).elim
  |brwO _ _=>exact(show False from q).elim
  |brwD _=>exact(show False from q).elim
def JY(hc:PT X t (tT X.K cal c))(ha:PSs X x (tSs X.K cal a))(J:PSs X y (tSs X.K cal b)):PS X (.If t x y pos) (tS X.K cal (.ite c a b)):=by
 refine(gb hc ha J).imp λD σ H q=>?_
 refine jG q λB E O G st q=>?_
 refine ag (w8 q) λw e q=>?_
 refine⟨B,E,O,G,w,st,e,λH' s=>?_⟩;cases w<;>first|(rw[if_pos rfl]at q ⊢;exact⟨B,E,O,G,st.mono s,q⟩)|(rw[if_neg (by simp)]at q ⊢;exact⟨B,E,O,G,st.mono s,q⟩)
def Fl{m:MS}{ms:List MS}{st:Stmt}{ss:List Stmt}(h1:PS X st (tS X.K cal m))(h2:PSs X ss (tSs X.K cal ms)):PSs X (st::ss) (tSs X.K cal (m::ms)):=by
 refine(al h1 h2).imp λD σ H q=>?_
 obtain⟨B,E,O,G,st,q⟩:=q;refine⟨B,E,O,G,st,?_⟩;rw[exs]at q;cases e:ex cal m G with
 |next A=>rw[e]at q;exact λS H' O' J k=>⟨B,E,O',A,J,fV.trans q k⟩
 |brk A=>rw[e]at q;exact q
 |cont A=>rw[e]at q;exact q
 |ret v=>rw[e]at q;exact q
 |bad=>rw[e]at q;exact q
 |retF xs=>rw[e]at q;exact q
 |retT v U=>rw[e]at q;exact q
def HI:PSs X [] (tSs X.K cal []):=by
 refine cQ.imp λD σ H q=>?_
 refine jG q λB E O G st q=>?_
 exact q σ H O st .refl
end
section
variable{K:MP}{B H H':Hp}{E O:List Addr}{G:Rho}{σ:St}
def zd{i j:Nat}{m:MV}(h:yx G i=true)(J:i≠j)(e:G[j]?=some (some m)):isL m=false:=by
 have:=Mc.mp h (some m) (LF (show(G.set i none)[j]?=some (some m)by rw[Kr J];exact e));simpa using this
def own_here(st:a7 K B E O H G σ){j:Nat}{m:MV}{c:Addr}(e:G[j]?=some (some m))(o:fk m=true)(es:σ[j]?=some (some (.ref c))):H c≠none:=by
 obtain⟨w,S,q⟩:=st.slot j _ e;rw[es]at S;cases S;cases m with
 |own zs=>obtain⟨a,ws,J,h1,_⟩:=q;cases J;rw[h1];simp
 |ownD zs=>obtain⟨a,J,h1,_⟩:=q;cases J;rw[h1];simp
 |ownO _ _ _=>obtain⟨a,l,J,q⟩:=q;cases J;obtain⟨C,dx,gs,h1,_⟩:=q.ob;rw[h1];simp
 |val _=>cases o
 |brw _=>cases o
 |brwD _=>cases o
 |brwO _ _=>cases o
def a7.changeO(st:a7 K B E O H G σ){i:Nat}{b:Bool}{fs xs ys:List PV}{a l l':Addr}(e:G[i]?=some (some (.ownO b fs xs)))(es:σ[i]?=some (some (.ref a)))(q:cm K B O H fs xs a l)(kp:∀c o,c≠a->c≠l->H c=some o->H' c=some o)(hl:l'=l\/H l'=none)
  (q':cm K (λ_=>none) (l'::O.filter λb=>decide (b≠l)) H' fs ys a l'):a7 K B E (l'::O.filter λb=>decide (b≠l)) H' (put G i (.ownO b fs ys)) σ/\cq B O (l'::O.filter λb=>decide (b≠l)) G (put G i (.ownO b fs ys)) σ σ:=by
 have ao:i<G.length:=(uM.mp e).1;have lB:B l'=none:=hl.elim (λz=>by rw[z];exact q.lB) st.keep.free;have mem:∀c,c≠l->c∈O->c∈l'::O.filter λb=>decide (b≠l):=λc hc ho=>KJ _ (Kw.mpr ⟨ho,Ks hc⟩)
 have keep:ae B H':=λc u S=>kp c u (λz=>by rw[z,q.aB]at S;cases S) (λz=>by rw[z,q.lB]at S;cases S) (st.keep c u S)
 have Y:ae (ah H O) (ah H' (l'::O.filter λb=>decide (b≠l))):=λc u S=>by
  have hc:c∉O:=λz=>by rw[dq z]at S;cases S
  rw[aV hc]at S;rw[aV]
  .exact kp c u (λz=>hc (z▸q.aO)) (λz=>hc (z▸q.lO)) S
  .intro z;rcases nW.mp z with z|z
   .rcases hl with w|w
    .exact hc (by rw[z,w];exact q.lO)
    .rw[z,w]at S;cases S
   .exact hc (Kw.mp z).1
 have a1:∀(j:Nat) (m:MV) (c:Addr),i≠j->G[j]?=some (some m)->fk m=true->σ[j]?=some (some (.ref c))->c≠a/\c≠l:=λj m c U J o S=>⟨λz=>st.apart i j _ m a U e J rfl o es (by rw[S,z]),(st.inn i _ a l e rfl es q.l j m (Ku U) J).2 c o S⟩
 refine⟨⟨keep,λc hc=>?_,λc hc=>mem c (λz=>st.old c hc (z▸q.lB)) (st.sub c hc),st.old,by rw[put_len];exact st.len,λj m J=>?_,λc d ps qs ad bt e1 e2 p1 p2 e3 e4=>?_,λk m0 a2 l2 e1 l0 e2 e3 j m ar J=>?_⟩,⟨λc hc ho=>mem c (λz=>hc (z▸q.lB)) ho,λc hc=>?_,λj zs bK J=>?_,put_len,λj gs zs J=>?_⟩⟩
 .rcases nW.mp hc with rfl|hc
  .obtain⟨us,h1,_⟩:=q'.li;rw[h1];simp
  .obtain⟨h1,h2⟩:=Kw.mp hc;by_cases z:c=a
   .subst z;obtain⟨C,dx,gs,h1,_⟩:=q'.ob;rw[h1];simp
   .cases eo:H c with
    |none=>exact absurd eo (st.here c h1)
    |some o=>rw[kp c o z (KQ h2) eo];simp
 .by_cases U:i=j
  .subst U;rw[ac ao]at J;cases J;exact⟨_,es,a,l',rfl,q'.move (ae.refl _) (λ_ h=>h) (λ_ h=>h) q'.aO q'.lO q.aB lB⟩
  .rw[aa U]at J;obtain⟨w,ew,qq⟩:=st.slot j m J;refine⟨w,ew,?_⟩;cases m with
   |val v=>exact Rep.mono Y _ qq
   |own zs =>
    obtain⟨ad,ws,rfl,Z,q2,q3,q4⟩:=qq;obtain⟨n1,n2⟩:=a1 j _ ad U J rfl ew;exact⟨ad,ws,rfl,kp _ _ n1 n2 Z,Reps.mono Y _ q2,mem _ n2 q3,q4⟩
   |ownD zs =>
    obtain⟨ad,rfl,Z,q3,q4⟩:=qq;obtain⟨n1,n2⟩:=a1 j _ ad U J rfl ew;exact⟨ad,rfl,kp _ _ n1 n2 Z,mem _ n2 q3,q4⟩
   |ownO _ _ _=>cases (st.inn i _ a l e rfl es q.l j _ (Ku U) J).1
   |brw zs=>obtain⟨ad,ws,rfl,Z,q2⟩:=qq;exact⟨ad,ws,rfl,Z,Reps.mono Y _ q2⟩
   |brwD zs=>exact qq
   |brwO gs zs=>obtain⟨ad,rfl,Z⟩:=qq;exact⟨ad,rfl,Z.move (ae.refl B) Y⟩
 .have h1:∀(j:Nat) (zs:MV),(put G i (.ownO b fs ys))[j]?=some (some zs)->fk zs=true->∃zs,G[j]?=some (some zs)/\fk zs=true:=λj zs q oz=>by
   by_cases U:i=j
   .subst U;exact⟨_,e,rfl⟩
   .rw[aa U]at q;exact⟨zs,q,oz⟩
  obtain⟨Z,e1,p1⟩:=h1 c ps e1 p1;obtain⟨q2,e2,p2⟩:=h1 d qs e2 p2;exact st.apart c d Z q2 ad bt e1 e2 p1 p2 e3 e4
 .have hk:i=k:=by
   cases Nat.decEq i k with
   |isTrue z=>exact z
   |isFalse z =>
    rw[aa z]at e1;rw[(st.inn i _ a l e rfl es q.l k _ (Ku z) e1).1]at l0;cases l0
  subst hk;rw[es]at e2;cases e2;rw[q'.l]at e3;cases e3;rw[aa (Ku ar)]at J;refine⟨(st.inn i _ a l e rfl es q.l j m ar J).1,λc o S z=>?_⟩;rcases hl with w|w
  .exact(st.inn i _ a l e rfl es q.l j m ar J).2 c o S (by rw[z,w])
  .exact own_here st J o S (by rw[z,w])
 .rcases nW.mp hc with rfl|hc
  .exact .inr lB
  .exact .inl (Kw.mp hc).1
 .have U:i≠j:=λz=>by subst z;rw[ac ao]at J;cases J;cases bK
  rw[aa U]at J;exact⟨J,rfl⟩
 .by_cases U:i=j
  .subst U;rw[ac ao]at J;cases J;exact⟨⟨xs,e⟩,rfl⟩
  .rw[aa U]at J;exact⟨⟨zs,J⟩,rfl⟩
def a7.storeO(st:a7 K B E O H G σ){i:Nat}{fs:List PV}{a l:Addr}(hi:i<σ.length)(hn:yx G i=true)(s:ae H H')(ha:H a=none)(hl:H l=none)(q:cm K (λ_=>none) (a::l::O) H' fs [] a l) :
  a7 K B E (a::l::O) H' (put G i (.ownO false fs [])) (σ.set i (some (.ref a)))/\cq B O (a::l::O) G (put G i (.ownO false fs [])) σ (σ.set i (some (.ref a))):=by
 have ar:i<G.length:=by rw[st.len];exact hi
 have inO:∀b∈O,b∈a::l::O:=λb h=>.tail _ (.tail _ h)
 have free:∀b∈a::l::O,b∈O\/H b=none:=λb h=>by
  rcases nW.mp h with rfl|h
  .exact .inr ha
  .rcases nW.mp h with rfl|h
   .exact .inr hl
   .exact .inl h
 have Y:ae (ah H O) (ah H' (a::l::O)):=aQ s free;refine⟨⟨st.keep.trans s,λb h=>?_,λb h=>inO b (st.sub b h),st.old,by rw[put_len,L3];exact st.len,λj m J=>?_,λc d xs ys ad aH Z S o1 o2 e3 e4=>?_,λk m0 a2 l2 Z l0 S e3 j m aL J=>?_⟩,⟨λ_ _ h=>inO _ h,λb h=>(free b h).imp id st.keep.free,λj xs a3 J=>?_,put_len,λj gs zs J=>?_⟩⟩
 .rcases nW.mp h with rfl|h
  .obtain⟨C,dx,gs,h1,_⟩:=q.ob;rw[h1];simp
  .rcases nW.mp h with rfl|h
   .obtain⟨us,h1,_⟩:=q.li;rw[h1];simp
   .exact λz=>st.here b h (s.free z)
 .by_cases U:i=j
  .subst U;rw[ac ar]at J;cases J;exact⟨_,KS hi,a,l,rfl,q.move (ae.refl _) (λ_ h=>h) (λ_ h=>h) q.aO q.lO (st.keep.free ha) (st.keep.free hl)⟩
  .rw[aa U]at J;obtain⟨w,Z,qq⟩:=st.slot j m J;refine⟨w,by rw[Kr U];exact Z,?_⟩;cases m with
   |val v=>exact Rep.mono Y _ qq
   |own ys=>obtain⟨a,ws,S,h1,h2,h3,h4⟩:=qq;exact⟨a,ws,S,s _ _ h1,Reps.mono Y _ h2,inO _ h3,h4⟩
   |brw ys=>obtain⟨a,ws,S,h1,h2⟩:=qq;exact⟨a,ws,S,h1,Reps.mono Y _ h2⟩
   |ownD ys=>obtain⟨a,S,h1,h3,h4⟩:=qq;exact⟨a,S,s _ _ h1,inO _ h3,h4⟩
   |ownO _ _ _=>cases zd hn U J
   |brwD ys=>exact qq
   |brwO gs zs=>obtain⟨ad,S,q1⟩:=qq;exact⟨ad,S,q1.move (ae.refl B) Y⟩
 .by_cases hc:i=c
  .subst hc;rw[KS hi]at e3;cases e3;rw[aa aH]at S;rw[Kr aH]at e4;exact own_here st S o2 e4 ha
  .by_cases hd:i=d
   .subst hd;rw[KS hi]at e4;cases e4;rw[aa hc]at Z;rw[Kr hc]at e3;exact own_here st Z o1 e3 ha
   .rw[aa hc]at Z;rw[aa hd]at S;rw[Kr hc]at e3;rw[Kr hd]at e4;exact st.apart c d _ _ ad aH Z S o1 o2 e3 e4
 .have hk:i=k:=by
   cases Nat.decEq i k with
   |isTrue z=>exact z
   |isFalse z =>
    rw[aa z]at Z;rw[zd hn z Z]at l0;cases l0
  subst hk;rw[KS hi]at S;cases S;rw[q.l]at e3;cases e3;rw[aa (Ku aL)]at J;refine⟨zd hn (Ku aL) J,λc o ec z=>?_⟩;rw[Kr (Ku aL)]at ec;exact own_here st J o ec (by rw[z,hl])
 .have U:i≠j:=λz=>by subst z;rw[ac ar]at J;cases J;cases a3
  rw[aa U]at J;exact⟨J,Kr U⟩
 .have U:i≠j:=λz=>by subst z;rw[ac ar]at J;cases J
  rw[aa U]at J;exact⟨⟨zs,J⟩,Kr U⟩
def BD{F:Hp}{v:PV}{s:Sc}{u:V}(h:sc? v=some s)(r:Rep K F v u):u=s.v:=by
 cases v<;>first|(cases h;done)|(cases h;rw[Rep]at r;exact r)
def HJ{v:PV}{s:Sc}(h:sc? v=some s):v=s.pv:=by
 cases v<;>first|(cases h;done)|(cases h;rfl)
def BE(F:Hp)(s:Sc):Rep K F s.pv s.v:=by
 cases s<;>(show Rep K F _ _;unfold Sc.pv;rw[Rep];rfl)
end
section
variable{X:Cx}{T:Tab}{k:Nat}{cal:Cal}
def Fm{me:ME}{v:Expr}{pos:Pos}(h:PE X v (tE X.K cal me))(J:aZ me=false):PS X (.Return (some v) pos) (tS X.K cal (.retT me)):=by
 refine(cv h).imp λD σ H q=>?_
 obtain⟨B,E,O,G,st,q⟩:=q;rw[ex]at q;obtain⟨w,e,q⟩:=cD q;refine⟨B,E,O,G,w,st,e,λu H' s g=>?_⟩;cases es:sc? w with
 |none=>rw[es]at q;exact(show False from q).elim
 |some sv =>
  rw[es]at q;rw[BD es (g.2 J)];exact q σ H' O (st.mono s) .refl
def Fn{i:Nat}{me:ME}{x:Str}{v:Expr}{p fp apos cpos pos:Pos}(g:Gf X T k cal)(h:PE X v (tE X.K cal me))(hn:aD X.N X.env.scope i x=true)(hb:aZ me=false)(hs:aE v=true)(S:(apos.endLine==cpos.line)=true) :
  PS X (.Expr (.Call (.Attribute (.Attribute (.Name x p) "taken" fp) "append" apos) [v] [] cpos) pos) (tS X.K cal (.appO i me)):=by
 refine(c5 (mS PySem.F.plainAttrs_list PySem.F.slot_list_append PySem.F.type_list_append gJ (uj hn) (ak h aS (bZ hs _ _)) rfl (by rw[bZ hs];rfl) S (bZ hs _ _) rfl) rfl).imp λD σ H q=>?_
 obtain⟨B,E,O,G,st,q⟩:=q;rw[ex]at q;obtain⟨w,e,q⟩:=cD q;cases Z:(G[i]?).join with
 |none=>rw[Z]at q;exact(show False from q).elim
 |some m =>
  rw[Z]at q;cases m with
  |ownO b fs xs =>
   dsimp only at q;split at q
   .rename_i hl;obtain⟨u,eu,a,l,rfl,J⟩:=bC st Z;obtain⟨C,dx,gs,h1,h2⟩:=J.ob;obtain⟨us,h3,h4⟩:=J.li;obtain⟨c1,_,c2⟩:=g.cls C h2.cls;refine⟨_,eu,a,C,dx,gs,.ref l,rfl,h1,c1,c2,h2.lst,.inl ⟨rfl,us,SqL.of h3⟩,B,E,O,G,w,st,e,λu H1 s g1=>⟨l,us,u,rfl,rfl,s _ _ h3,?_,?_⟩⟩
    .rw[<- h4.length];exact wh hl (by decide)
    .have ar:=st.mono s;have q1:=J.move (aj s) (λ_=>s _ _) (λ_=>s _ _) J.aO J.lO J.aB J.lB;have Y:ae (ah H1 O) (ah (upd H1 l (.lst (us++[u]))) (l::O.filter λb=>decide (b≠l))):=λc o U=>by
      have hc:c∉O:=λz=>by rw[dq z]at U;cases U
      rw[aV hc]at U;have hn:c∉l::O.filter λb=>decide (b≠l):=λz=>by
       rcases nW.mp z with z|z
       .exact hc (z▸J.lO)
       .exact hc (Kw.mp z).1
      have aH:c≠l:=λz=>hc (z▸J.lO)
      rw[aV hn,aA aH];exact U
     obtain⟨aL,k'⟩:=ar.changeO (ys:=xs++[w]) (l':=l) (H':=upd H1 l (.lst (us++[u]))) (join_some Z) eu q1 (λc o _ n2 U=>by rw[aA n2];exact U) (.inl rfl)
      ⟨⟨C,dx,gs,by rw[aA J.ne];exact s _ _ h1,(h2.mono (aj s)).mono Y⟩,⟨_,ax,Reps.mono Y _ ((Reps.mono (aj s) _ h4).snoc (g1.2 hb))⟩,KJ _ (Kw.mpr ⟨J.aO,Ks J.ne⟩),K1,rfl,rfl,J.ne⟩
     exact q _ _ _ aL k'
   .exact(show False from q).elim
  | _=>exact(show False from q).elim
theorem o9{K:MP}{O:List Addr}{H:Hp}{a l:Addr}(ha:a∈O)(J:l∈O):∀{as:List PV}{ws:List V},Reps K (ah H O) as ws->Paired (fS K O (eY H [a,l])) (as.map .val) ws
 | [],ws,r=>by
  have e:ws=[]:=by simpa only[Reps]using r
  subst e;exact .nil
 |v::as,ws,r=>by
  rw[Reps]at r;obtain⟨u,t,rfl,h1,h2⟩:=r;exact .cons (by show Rep K (ah (eY H [a,l]) O) v u;rw[oY ha J];exact h1) (o9 ha J h2)
noncomputable def tTk(K:MP)(cal:Cal)(f i:Nat)(ms:List ME):TE:=λσ H Q=>∃B E O G b fs xs vs v ys,a7 K B E O H G σ/\(G[i]?).join=some (.ownO b fs xs)/\evs cal ms G=some vs/\cal (f+3000) (.ownO true fs xs::vs.map .val)=some (.tup [Sc.pv v,.lst ys]) /\
 ∀H' O',a7 K B E O' H' (put G i (.ownO b fs ys)) σ->cq B O O' G (put G i (.ownO b fs ys)) σ σ->Q v.v H'
def vG{f i:Nat}{ms:List ME}{x m:Str}{es:List Expr}{p ap pos:Pos}(g:Gf X T k cal)(hf:T.ms[f]?=some (some m))(hM:m∈oW)(hn:aD X.N X.env.scope i x=true)(ha:PA X es (tEs X.K cal ms))(hb:(ms.all λm=>!aZ m)=true)(hs:es.all aE=true)(hl:ms.length=es.length)(S:(ap.endLine==pos.line)=true)(h30:decide (es.length<30)=true):PE X (.Call (.Attribute (.Name x p) m ap) es [] pos) (tTk X.K cal f i ms):=by
 by_cases U:∃C,IsC X.K C
 .obtain⟨C,U⟩:=U;have one:∀Y,IsC X.K Y->Y=C:=λY h=>by
   have:=h.symm.trans U;cases this
   rfl
  obtain⟨fa,fd,ps,h1,h3,F⟩:=g.methsT f m hf C U;have key:∀σ H Q,tTk X.K cal f i ms σ H Q->eV C m (spT X.K cal f) [] E0 (aq i) (tEs X.K cal ms) σ H Q:=λσ H Q q=>by
   obtain⟨B,E,O,G,b,fs,xs,vs,v,ys,st,hj,e1,e2,q⟩:=q;obtain⟨u,eu,a,l,rfl,J⟩:=bC st hj;obtain⟨Y,dx,gs,f1,Z⟩:=id J.ob;have a1:=one Y Z.cls;subst a1;refine⟨_,eu,a,dx,gs,rfl,f1,Z.no m hM,B,E,O,G,vs,st,e1,λaH H1 s1 g1=>?_⟩;show spT X.K cal f (V.ref a::(aH++[])) H1 Q E0;rw[L1];have q1:cm X.K B O H1 fs xs a l:=J.move (aj s1) (λ_=>s1 _ _) (λ_=>s1 _ _) J.aO J.lO J.aB J.lB;refine⟨O,a,l,fs,xs,vs.map .val,aH,v,ys,rfl,cg s1 st.here,q1.move (ae.refl _) (λ_ h=>h) (λ_ h=>h) J.aO J.lO rfl rfl,o9 J.aO J.lO (g1.2 hb),e2,λl' H' kp a2 q2=>?_⟩;obtain⟨a3,k'⟩:=(st.mono s1).changeO (join_some hj) eu q1 kp a2 q2;exact q _ _ a3 k'
  cases es with
  |nil =>
   refine(rk (cn hn) (g.cls C U).1 h1 F g.room h3 .nil bc (mr hs h30 S)).imp λσ H Q q=>?_
   obtain⟨u,eu,a,dx,gs,e,f1,Z,B,E,O,G,vs,st,e1,q⟩:=key σ H Q q;cases ms with
   |nil =>
    simp only[evs,mn]at e1;subst e1;exact⟨u,eu,a,dx,gs,e,f1,Z,q [] H (ae.refl H) ⟨.nil,λ_=>.nil⟩⟩
   |cons _ _=>cases hl
  |cons e es =>
   simp only[all_cons,ll]at hs;exact(bf (cn hn) (g.cls C U).1 h1 F g.room h3 .nil bc ha (bZ hs.1 _ _) (cb hs.2) (mr (by simp[hs]) h30 S)).imp key
 .exact λpins s σ H Q I q=>by
   obtain⟨B,E,O,G,b,fs,xs,vs,v,ys,st,hj,_⟩:=q;obtain⟨u,eu,a,l,rfl,J⟩:=bC st hj;obtain⟨Y,dx,gs,f1,Z⟩:=id J.ob;exact absurd ⟨Y,Z.cls⟩ U
noncomputable def CU(G:Rho)(i:Nat)(m:MV)(v:PV):Option Nat->R
 |some j=>if i=j then .bad else .next (put (put G i m) j (.val v))
 |none=>.next (put G i m)
def o_{B:Hp}{E O:List Addr}{G:Rho}{σ:St}{D:gF}{j:Option Nat}{i f:Nat}{ms:List ME}(q:fV X.K B E O G σ D (ex cal (.takeO j i f ms) G)):∃b fs xs vs v ys,(G[i]?).join=some (.ownO b fs xs)/\evs cal ms G=some vs/\cal (f+3000) (.ownO true fs xs::vs.map .val)=some (.tup [Sc.pv v,.lst ys]) /\
  fV X.K B E O G σ D (CU G i (.ownO b fs ys) v.pv j):=by
 rw[ex]at q;cases J:(G[i]?).join with
 |none=>rw[J]at q;exact(show False from q).elim
 |some m =>
  rw[J]at q;cases m with
  |ownO b fs xs =>
   dsimp only at q;split at q
   .rename_i v ys e;rw[gI]at e;obtain⟨vs,S,U⟩:=e;cases es:sc? v with
    |none=>rw[es]at q;exact(show False from q).elim
    |some sv =>
     rw[es]at q;have Y:=HJ es;subst Y;cases j<;>exact⟨b,fs,xs,vs,sv,ys,rfl,S,U,q⟩
   .exact(show False from q).elim
  | _=>exact(show False from q).elim
def BF{i j f:Nat}{ms:List ME}{x:Str}{v:Expr}{px pos:Pos}(d:Df X)(hi:X.N[j]?=some x)(U:Loc X.env.scope x)(h:PE X v (tTk X.K cal f i ms))(hc:c6 v=true):PS X (.Assign [.Name x px] v pos) (tS X.K cal (.takeO (some j) i f ms)):=
 PS.imp' (iC d.nd hi U h (am hc _ _ _) (.inl (d.fn x))) λD σ H Y q=>by
  obtain⟨B,E,O,G,st,q⟩:=q;obtain⟨b,fs,xs,vs,w,ys,Z,e2,e3,q⟩:=o_ q;refine⟨B,E,O,G,b,fs,xs,vs,w,ys,st,Z,e2,e3,λH' O' J k'=>?_⟩;simp only[CU]at q;split at q
  .exact(show False from q).elim
  .obtain⟨S,k2⟩:=J.store (ltN hi Y) (BE (K:=X.K) _ w);exact q _ _ _ S (k'.trans k2)
def BG{i f:Nat}{ms:List ME}{v:Expr}{pos:Pos}(h:PE X v (tTk X.K cal f i ms))(S:c6 v=true):PS X (.Expr v pos) (tS X.K cal (.takeO none i f ms)):=by
 refine(c5 h (by cases v<;>first|rfl|(cases S;done))).imp λD σ H q=>?_
 obtain⟨B,E,O,G,st,q⟩:=q;obtain⟨b,fs,xs,vs,w,ys,U,Y,Z,q⟩:=o_ q;exact⟨B,E,O,G,b,fs,xs,vs,w,ys,st,U,Y,Z,λH' O' J k'=>q _ _ _ J k'⟩
def si {c r o:V}{l:Addr}:(rT c r o l).lookup ("hole_count":Str)=some c/\(rT c r o l).lookup ("ribbons":Str)=some r/\(rT c r o l).lookup ("opener":Str)=some o/\(rT c r o l).lookup ("taken":Str)=some (.ref l)/\∀m∈oW,(rT c r o l).lookup m=none:=by
 unfold rT;refine⟨?_,?_,?_,?_,λm hm=>?_⟩
 .rw[a8,if_neg (by decide +kernel),a8,if_neg (by decide +kernel),a8,if_neg (by decide +kernel),a8,if_pos rfl]
 .rw[a8,if_neg (by decide +kernel),a8,if_neg (by decide +kernel),a8,if_pos rfl]
 .rw[a8,if_neg (by decide +kernel),a8,if_pos rfl]
 .rw[a8,if_pos rfl]
 .have ne:∀x∈(["taken","opener","ribbons","hole_count"]:List Str),m≠x:=λx J z=>by
   subst z;exact absurd J (by revert m;decide +kernel)
  rw[a8,if_neg (ne _ (by simp)),a8,if_neg (ne _ (by simp)),a8,if_neg (ne _ (by simp)),a8,if_neg (ne _ (by simp))]
  rfl
def vH {vs fs:List PV} (h:wP vs=some fs):∃c r o,(vs=[.tup [c,r],o]\/vs=[.tup [c,r]]/\o=.str "weaver")/\fs=[c,r,o]:=by
 unfold wP at h;split at h
 .cases h;exact⟨_,_,_,.inl rfl,rfl⟩
 .cases h;exact⟨_,_,_,.inr ⟨rfl,rfl⟩,rfl⟩
 .cases h
def ze{K:MP}{B H H1:Hp}{E O:List Addr}{G:Rho}{σ:St}{D:gF}{i:Nat}{c r o:PV}{C a dx la:Addr}{ts:List V}{Y:V}(hi:i<σ.length)(hC:IsC K C)(hn:yx G i=true)(st:a7 K B E O H G σ)(s1:ae H H1)(q:fV K B E O G σ D (.next (put G i (.ownO false [c,r,o] []))))
  (ht:ah H1 O la=some (.tup ts)) (rt:Reps K (ah H1 O) [c,r] ts) (ro:Rep K (ah H1 O) o Y) (na:H1 a=none) (nd:H1 dx=none):spI K C [.ref a,.ref la,Y] (upd (upd H1 dx (.own a)) a (.ins C dx [])) (λv H2=>v=.non/\D.nx (σ.set i (some (.ref a))) H2) E0:=by
 rw[Reps]at rt;obtain⟨uc,r3,rfl,rc,rt⟩:=rt;rw[Reps]at rt;obtain⟨ur,r4,rfl,rr,rt⟩:=rt;rw[Reps]at rt;subst rt;have s2:ae H1 (upd (upd H1 dx (.own a)) a (.ins C dx [])):=λb u Z=>by rw[aA (a9 Z na),aA (a9 Z nd)];exact Z
 refine⟨a,dx,la,uc,ur,Y,rfl,ax,s2.seqT (SqT.of (a_ H1 O _ _ ht)),λl H' nl ea el kp=>⟨rfl,?_⟩⟩;have a1:a≠l:=λz=>by rw[<- z,ax]at nl;cases nl
 have ao:H1 l=none:=s2.free nl;have s3:ae H1 H':=λb u Z=>kp b u (a9 Z na) (s2 b u Z)
 have S:ae (ah H1 O) (ah H' (a::l::O)):=aQ s3 λb h=>by
  rcases nW.mp h with rfl|h
  .exact .inr na
  .rcases nW.mp h with rfl|h
   .exact .inr ao
   .exact .inl h
 obtain⟨f1,f2,f3,f4,f5⟩:=si (c:=uc) (r:=ur) (o:=Y) (l:=l);have hf:∀(n:Nat) (x:Str) (v:PV),jo[n]?=some x->([c,r,o]:List PV)[n]?=some v->∃u,(rT uc ur Y l).lookup x=some u/\Rep K (ah H' (a::l::O)) v u:=λn x v U J=>by
  match n,U,J with
  |0,U,J=>cases U;cases J;exact⟨uc,f1,Rep.mono S _ rc⟩
  |1,U,J=>cases U;cases J;exact⟨ur,f2,Rep.mono S _ rr⟩
  |2,U,J=>cases U;cases J;exact⟨Y,f3,Rep.mono S _ ro⟩
 obtain⟨a2,k'⟩:=st.storeO (fs:=[c,r,o]) hi hn (s1.trans s3) (s1.free na) (s1.free ao) ⟨⟨C,dx,_,ea,hC,hf,f4,f5⟩,⟨[],el,.nil⟩,K1,KJ _ K1,rfl,rfl,a1⟩;exact q _ _ _ a2 k'
def HK {i:Nat}{ms:List ME}{e:Expr}{es:List Expr}{x:Str}{px p cp pos:Pos} (g:Gf X T k cal) (d:Df X) (hi:X.N[i]?=some x) (hx:Loc X.env.scope x) (hg:glB X.env.scope ("Table":Str)=true) (ha:PA X (e::es) (tEs X.K cal ms)) (hb:(ms.all λm=>!aZ m)=true) (U:(e::es).all aE=true) (Y:ms.length=(e::es).length) :
  PS X (.Assign [.Name x px] (.Call (.Name ("Table":Str) p) (e::es) [] cp) pos) (tS X.K cal (.mkO i ms)):=by
 by_cases hL:cal 4000 []≠none
 .obtain⟨C,hC,hm,fa,fd,ps,M,ao,F,dv,ar,aH⟩:=g.ini hL;simp only[all_cons,ll]at U;cases es with
  |nil =>
   refine PS.imp' (iC d.nd hi hx (ft M F (g.lvl hL) (cY hg) hm ar aH bc ha (by decide) (bZ U.1 _ _) (cb U.2)) (am (v:=.Call (.Name ("Table":Str) p) [e] [] cp) rfl _ _ _) (.inl (d.fn x))) λD σ H hl q=>?_
   obtain⟨B,E,O,G,st,q⟩:=q;rw[ex]at q;cases J:(evs cal ms G).bind wP with
   |none=>rw[J]at q;exact(show False from q).elim
   |some fs =>
    rw[J]at q;dsimp only at q;split at q
    .rename_i c0;rw[gI]at J;obtain⟨vs,Z,e2⟩:=J;obtain⟨c,r,o,hv,rfl⟩:=vH e2;have S:=kB Z;rcases hv with rfl|⟨rfl,rfl⟩
     .rw[Y]at S;simp at S
     .refine⟨B,E,O,G,_,st,Z,λus H1 s1 g1 a dx na nd ne=>?_⟩;have rs:=g1.2 hb;rw[Reps]at rs;obtain⟨ut,r1,rfl,rt,rs⟩:=rs;rw[Reps]at rs;subst rs;rw[Rep]at rt;obtain⟨la,ts,rfl,ht,rt⟩:=rt;exact ze (ltN hi hl) hC c0.1 st s1 q ht rt (by rw[Rep]) na nd
    .exact(show False from q).elim
  |cons e' es =>
   refine PS.imp' (iC d.nd hi hx (ft M F (g.lvl hL) (cY hg) hm ao .nil bc ha (by decide) (bZ U.1 _ _) (cb (by simpa using U.2))) (am (v:=.Call (.Name ("Table":Str) p) (e::e'::es) [] cp) rfl _ _ _) (.inl (d.fn x))) λD σ H hl q=>?_
   obtain⟨B,E,O,G,st,q⟩:=q;rw[ex]at q;cases J:(evs cal ms G).bind wP with
   |none=>rw[J]at q;exact(show False from q).elim
   |some fs =>
    rw[J]at q;dsimp only at q;split at q
    .rename_i c0;rw[gI]at J;obtain⟨vs,Z,e2⟩:=J;obtain⟨c,r,o,hv,rfl⟩:=vH e2;have S:=kB Z;rcases hv with rfl|⟨rfl,rfl⟩
     .refine⟨B,E,O,G,_,st,Z,λus H1 s1 g1 a dx na nd ne=>?_⟩;have rs:=g1.2 hb;rw[Reps]at rs;obtain⟨ut,r1,rfl,rt,rs⟩:=rs;rw[Reps]at rs;obtain⟨uo,r2,rfl,ro,rs⟩:=rs;rw[Reps]at rs;subst rs;rw[Rep]at rt;obtain⟨la,ts,rfl,ht,rt⟩:=rt;exact ze (ltN hi hl) hC c0.1 st s1 q ht rt ro na nd
     .rw[Y]at S;simp at S
    .exact(show False from q).elim
 .exact λpins s σ H D I q=>by
   obtain⟨B,E,O,G,st,q⟩:=q;rw[ex]at q;cases J:(evs cal ms G).bind wP with
   |none=>rw[J]at q;exact(show False from q).elim
   |some fs =>
    rw[J]at q;dsimp only at q;rw[if_neg λz=>hL z.2]at q;exact(show False from q).elim
end
section
variable{K:MP}{B H:Hp}{E O:List Addr}{G:Rho}{σ:St}
def HL(J:a7 K (cf B O H1 L) E O' H' A S)(k:cq (cf B O H1 L) O O' G A σ S):ae (ah H1 O) (ah H' O'):=λb u e=>by
 have Y:b∉O:=λz=>by rw[dq z]at e;exact bn e
 have U:cf B O H1 L b=some u:=cG b u e;rw[aV]
 .exact J.keep b u U
 .intro z;rcases k.new b z with q|q
  .exact Y q
  .rw[U]at q;cases q
def BH{ms:List ME}(st:a7 K B E O H G σ):a7 K (cf B O H (bh ms G σ)) E O H (ca ms G) σ/\(ca ms G).length=G.length:=by
 have base:∀L:List Addr,(∀a∈L,∀(j:Nat) (ys:MV),(ca ms G)[j]?=some (some ys)->fk ys=true->σ[j]?≠some (some (.ref a)))->(∀(j:Nat) (m:MV),(ca ms G)[j]?=some (some m)->(∃ys,m=.brw ys/\G[j]?=some (some (.own ys))/\∃a,σ[j]?=some (some (.ref a))/\a∈L)\/G[j]?=some (some m))->(ca ms G).length=G.length ->
   (∀a∈L,∀(j:Nat) (m1:MV) (c l:Addr),G[j]?=some (some m1)->isL m1=true->σ[j]?=some (some (.ref c))->lOf (H c)=some l->a≠l) ->
   a7 K (cf B O H L) E O H (ca ms G) σ:=λL h1 h2 h3 h4=>by
  have gl:=rZ (O:=O) (L:=L) st.keep;have lg:=dU (O:=O) (L:=L) st.keep;refine⟨gl,st.here,st.sub,λa ha z=>st.old a ha (lg.free z),h3.trans st.len,λj m e=>?_,λc d ps qs ad a5 e1 U p1 p2 e3 e4=>?_
   ,fM st.inn (λj mo e l0=>by
    rcases h2 j _ e with⟨_,z,_⟩|U
    .rw[z]at l0;cases l0
    .exact⟨⟨mo,U,l0⟩,rfl,λ_ _ _ h=>h⟩) λj m c e _ o ec=>.inl (by
    rcases h2 j _ e with⟨_,z,_⟩|U
    .rw[z]at o;cases o
    .exact⟨m,U,o,ec⟩)
   ⟩
  .rcases h2 j m e with⟨ys,rfl,U,a,ea,S⟩|U
   .obtain⟨u,Y,a',us,rfl,Z,q2,q3,q4⟩:=st.slot j _ U;rw[ea]at Y;cases Y;refine⟨_,ea,a,us,rfl,SqL.of ?_,q2⟩;unfold cf;rw[if_pos q3,if_pos S];exact Z
   .obtain⟨u,Y,q⟩:=st.slot j m U;refine⟨u,Y,?_⟩;cases m with
    |val v=>exact q
    |own ys =>
     obtain⟨a,us,rfl,Z,q2,q3,q4⟩:=q;refine⟨a,us,rfl,Z,q2,q3,?_⟩;unfold cf;rw[if_pos q3,if_neg λS=>h1 a S j (.own ys) e rfl Y];exact q4
    |ownD ys =>
     obtain⟨a,rfl,Z,q3,q4⟩:=q;refine⟨a,rfl,Z,q3,?_⟩;unfold cf;rw[if_pos q3,if_neg λS=>h1 a S j (.ownD ys) e rfl Y];exact q4
    |ownO b fs ys =>
     obtain⟨a,l,rfl,q⟩:=q;refine⟨a,l,rfl,q.move (ae.refl _) (λ_ h=>h) (λ_ h=>h) q.aO q.lO ?_ ?_⟩
     .unfold cf;rw[if_pos q.aO,if_neg λS=>h1 a S j (.ownO b fs ys) e rfl Y];exact q.aB
     .unfold cf;rw[if_pos q.lO,if_neg λbt=>h4 l bt j _ a l U rfl Y q.l rfl];exact q.lB
    |brwO fs ys=>obtain⟨a,rfl,q⟩:=q;exact⟨a,rfl,q.move lg (ae.refl _)⟩
    |brwD ys=>obtain⟨a,rfl,Z⟩:=q;exact⟨a,rfl,ae.rd lg Z⟩
    |brw ys=>obtain⟨a,us,rfl,Z,q2⟩:=q;exact⟨a,us,rfl,lg.seq Z,q2⟩
  .rcases h2 c _ e1 with⟨_,rfl,_⟩|e1
   .cases p1
   .rcases h2 d _ U with⟨_,rfl,_⟩|U
    .cases p2
    .exact st.apart c d ps qs ad a5 e1 U p1 p2 e3 e4
 have plain:ca ms G=G->bh ms G σ=[]->a7 K (cf B O H (bh ms G σ)) E O H (ca ms G) σ/\(ca ms G).length=G.length:=λe1 U=>by
  rw[U];exact⟨base [] (λa ha=>by simp at ha) (λj m e=>.inr (by rw[e1]at e;exact e)) (by rw[e1]) (λa ha=>by simp at ha),by rw[e1]⟩
 match ms with
 | []=>exact plain rfl rfl
 | [.bor i] =>
  cases J:(G[i]?).join with
  |none=>exact plain (by simp[ca,J]) (by simp[bh,J])
  |some m =>
   cases m with
   |val _=>exact plain (by simp[ca,J]) (by simp[bh,J])
   |brw _=>exact plain (by simp[ca,J]) (by simp[bh,J])
   |ownD _=>exact plain (by simp[ca,J]) (by simp[bh,J])
   |ownO _ _ _=>exact plain (by simp[ca,J]) (by simp[bh,J])
   |brwO _ _=>exact plain (by simp[ca,J]) (by simp[bh,J])
   |brwD _=>exact plain (by simp[ca,J]) (by simp[bh,J])
   |own xs =>
    have el:ca [.bor i] G=put G i (.brw xs):=by simp[ca,J]
    have e0:=join_some J;obtain⟨u,Y,a,us,rfl,Z,q2,q3,q4⟩:=st.slot i _ e0;have eL:bh [.bor i] G σ=[a]:=by simp[bh,J,Y]
    have aP:i<G.length:=(uM.mp e0).1;rw[eL];refine⟨base [a] (λb hb j ys e oy z=>?_) (λj m e=>?_) (by rw[el,put_len]) (λb hb j m1 c l f1 f0 f2 f3=>by
     rw[KW.mp hb];exact(st.inn j m1 c l f1 f0 f2 f3 i (.own xs) (λz=>by subst z;rw[e0]at f1;cases f1;cases f0) e0).2 a rfl Y),by rw[el,put_len]⟩
    .have:b=a:=by simpa using hb
     subst this;rw[el]at e;have a0:i≠j:=λz=>by subst z;rw[ac aP]at e;cases e;cases oy
     rw[aa a0]at e;exact st.apart i j (.own xs) ys b a0 e0 e rfl oy Y z
    .rw[el]at e;by_cases a1:i=j
     .subst a1;rw[ac aP]at e;cases e;exact .inl ⟨xs,rfl,e0,a,Y,by simp⟩
     .rw[aa a1]at e;exact .inr e
 | .var _::_=>exact plain rfl rfl
 | .cst _::_=>exact plain rfl rfl
 | .glob _ _::_=>exact plain rfl rfl
 | .bin _ _ _::_=>exact plain rfl rfl
 | .neg _::_=>exact plain rfl rfl
 | .not _::_=>exact plain rfl rfl
 | .and _ _::_=>exact plain rfl rfl
 | .or _ _::_=>exact plain rfl rfl
 | .ite _ _ _::_=>exact plain rfl rfl
 | .cmp _ _ _::_=>exact plain rfl rfl
 | .chain _ _ _ _ _::_=>exact plain rfl rfl
 | .tup _::_=>exact plain rfl rfl
 | .lst _::_=>exact plain rfl rfl
 | .idx _ _::_=>exact plain rfl rfl
 | .slice _ _ _::_=>exact plain rfl rfl
 | .blt _ _::_=>exact plain rfl rfl
 | .call _ _::_=>exact plain rfl rfl
 | .callD _ _ _::_=>exact plain rfl rfl
 | .comp _ _ _ _ _::_=>exact plain rfl rfl
 | .dget _ _ _::_=>exact plain rfl rfl
 | .dat _ _::_=>exact plain rfl rfl
 | .dIn _ _ _::_=>exact plain rfl rfl
 | .fld _ _::_=>exact plain rfl rfl
 | .fldL _::_=>exact plain rfl rfl
 | .inO _ _ _::_=>exact plain rfl rfl
 | .callM _ _ _::_=>exact plain rfl rfl
 | .comp2 _ _ _ _::_=>exact plain rfl rfl
 | .callV _ _::_=>exact plain rfl rfl
 | .bor _::_::_=>exact plain rfl rfl
def kD(h:(ca ms G)[j]?=some (some (.brw ys))):G[j]?=some (some (.brw ys))\/(ms=[.bor j]/\G[j]?=some (some (.own ys))):=by
 unfold ca at h;split at h
 .rename_i i;split at h
  .rename_i xs U;have Y:=join_some U;have S:=(uM.mp Y).1;by_cases J:i=j
   .subst J;rw[ac S]at h
    simp_all
   .rw[aa J]at h;exact .inl h
  .exact .inl h
 .exact .inl h
def lw{j:Nat}(h:(ca ms G)[j]?=some (some (.brwD ys))):G[j]?=some (some (.brwD ys)):=by
 unfold ca at h;split at h
 .rename_i i;split at h
  .rename_i xs U;have Y:=join_some U;have S:=(uM.mp Y).1;by_cases J:i=j
   .subst J;rw[ac S]at h;cases h
   .rw[aa J]at h;exact h
  .exact h
 .exact h
def iW{ms:List ME}{j:Nat}{m:MV}(U:∀xs,m≠.brw xs)(h:(ca ms G)[j]?=some (some m)):G[j]?=some (some m):=by
 unfold ca at h;split at h
 .rename_i i;split at h
  .rename_i xs Y;have Z:=join_some Y;have S:i<G.length:=(uM.mp Z).1;by_cases J:i=j
   .subst J;rw[ac S]at h;cases h;exact absurd rfl (U xs)
   .rw[aa J]at h;exact h
  .exact h
 .exact h
def nH :(ca ms G).length=G.length:=by
 unfold ca;split
 .split
  .exact put_len
  .rfl
 .rfl
def qz{ms:List ME}{H1 H':Hp}{O':List Addr}{A:Rho}{ao:St}(st:a7 K B E O H1 G σ)(J:a7 K (cf B O H1 (bh ms G σ)) E O' H' A ao)(k:cq (cf B O H1 (bh ms G σ)) O O' (ca ms G) A σ ao) :
  a7 K B E O' H' (br ms G A) ao/\cq B O O' G (br ms G A) σ ao:=by
 have lg:=dU (O:=O) (L:=bh ms G σ) st.keep;have a4:=HL J k;have stay:∀a,B a≠none->a∈O->a∈O':=λa h1 h2=>k.stay a (λz=>h1 (lg.free z)) h2
 have new:∀a∈O',a∈O\/B a=none:=λa h=>(k.new a h).imp id lg.free
 have mutO:∀(j:Nat) (fs xs:List PV),A[j]?=some (some (.ownO true fs xs))->(∃ys,G[j]?=some (some (.ownO true fs ys)))/\ao[j]?=σ[j]?:=λj fs xs e=>by
  obtain⟨⟨d,Z⟩,S⟩:=k.mutO j fs xs e;exact⟨⟨d,iW (λ_ z=>by cases z) Z⟩,S⟩
 have slot:∀(j:Nat) (m:MV),A[j]?=some (some m)->(∀ys,m=.brw ys->¬ (ms=[.bor j]/\G[j]?=some (some (.own ys))))->∃u,ao[j]?=some (some u)/\fj K B O' H' m u:=λj m e hn=>by
  obtain⟨u,eu,q⟩:=J.slot j m e;refine⟨u,eu,?_⟩;cases m with
  |val v=>exact q
  |own ys=>obtain⟨a,us,rfl,q1,q2,q3,q4⟩:=q;exact⟨a,us,rfl,q1,q2,q3,lg.free q4⟩
  |brw ys =>
   obtain⟨Z,S⟩:=k.brw j (.brw ys) rfl e;rcases kD Z with Y|Y
   .obtain⟨w,ew,a,us,rfl,q1,q2⟩:=st.slot j _ Y;rw[eu,ew]at S;cases S;exact⟨a,us,rfl,q1,Reps.mono a4 _ q2⟩
   .exact absurd Y (hn ys rfl)
  |ownD ys=>obtain⟨a,rfl,q1,q3,q4⟩:=q;exact⟨a,rfl,q1,q3,lg.free q4⟩
  |ownO b fs ys=>obtain⟨a,l,rfl,q⟩:=q;exact⟨a,l,rfl,q.move (ae.refl _) (λ_ h=>h) (λ_ h=>h) q.aO q.lO (lg.free q.aB) (lg.free q.lB)⟩
  |brwO fs ys =>
   obtain⟨Z,S⟩:=k.brw j (.brwO fs ys) rfl e;obtain⟨w,ew,a,rfl,q1⟩:=st.slot j _ (iW (λ_ z=>by cases z) Z);rw[eu,ew]at S;cases S;exact⟨a,rfl,q1.move (ae.refl B) a4⟩
  |brwD ys =>
   obtain⟨Z,S⟩:=k.brw j (.brwD ys) rfl e;obtain⟨w,ew,a,rfl,q1⟩:=st.slot j _ (lw Z);rw[eu,ew]at S;cases S;exact⟨a,rfl,q1⟩
 by_cases hA:∃i aP xs,ms=[.bor i]/\(G[i]?).join=some (.own aP)/\(A[i]?).join=some (.brw xs)
 .obtain⟨i,aP,xs,rfl,h0,h1⟩:=hA;have eb:br [.bor i] G A=put A i (.own xs):=by simp[br,h0,h1]
  rw[eb];have e0:=join_some h0;have Z:=join_some h1;have a1:i<A.length:=(uM.mp Z).1;obtain⟨el,es⟩:=k.brw i (.brw xs) rfl Z;have exs:xs=aP:=by
   rcases kD el with Y|⟨_,Y⟩
   .rw[e0]at Y;cases Y
   .rw[e0]at Y;cases Y;rfl
  subst exs;obtain⟨w,ew,a,us,rfl,q1,q2,q3,q4⟩:=st.slot i _ e0;have eL:bh [.bor i] G σ=[a]:=by simp[bh,h0,ew]
  have ga:cf B O H1 (bh [.bor i] G σ) a=some (.lst us):=by
   unfold cf;rw[eL,if_pos q3,if_pos (by simp)];exact q1
  have a0:∀(j:Nat) (ys:MV) (ad:Addr),A[j]?=some (some ys)->fk ys=true->ao[j]?=some (some (.ref ad))->ad≠a:=λj ys ad h1 oy h2 z=>by
   obtain⟨u,eu,qq⟩:=J.slot j _ h1;rw[h2]at eu;cases eu;cases ys with
   |own ys =>
    obtain⟨b,_,S,_,_,_,q⟩:=qq;cases S;rw[z,ga]at q;cases q
   |ownD ys =>
    obtain⟨b,S,_,_,q⟩:=qq;cases S;rw[z,ga]at q;cases q
   |ownO _ _ _ =>
    obtain⟨b,l,S,q⟩:=qq;cases S;have q:=q.aB;rw[z,ga]at q;cases q
   |brwO _ _=>cases oy
   |val _=>cases oy
   |brw _=>cases oy
   |brwD _=>cases oy
  refine⟨⟨lg.trans J.keep,J.here,J.sub,st.old,by rw[put_len];exact J.len,λj m e=>?_,λc d ps qs ad bP Z S p1 p2 Y e4=>?_
   ,fM J.inn (λj mo e l0=>by
    have hj:i≠j:=λz=>by subst z;rw[ac a1]at e;cases e;cases l0
    rw[aa hj]at e;exact⟨⟨mo,e,l0⟩,rfl,λ_ _ _ h=>h⟩) λj m c e _ o ec=>by
    by_cases hj:i=j
    .subst hj;rw[es,ew]at ec;cases ec;refine .inr λk' m1 a' l' f1 f0 f2 f3 z=>?_
     obtain⟨u,Y,q⟩:=J.slot k' _ f1;rw[f2]at Y;cases Y;cases m1<;>try (cases f0;done)
     obtain⟨a2,l2,e4,q⟩:=q;cases e4;have e6:=q.l;rw[e6]at f3;cases f3;have:=q.lB;rw[<- z,ga]at this;cases this
    .rw[aa hj]at e;exact .inl ⟨m,e,o,ec⟩
   ⟩,⟨stay,new,λj ys U e=>?_,by rw[put_len];exact k.len.trans nH
   ,λj fs xs e=>by
    have hj:i≠j:=λz=>by subst z;rw[ac a1]at e;cases e
    rw[aa hj]at e;exact mutO j fs xs e
   ⟩⟩
  .by_cases ar:i=j
   .subst ar;rw[ac a1]at e;cases e;refine⟨_,by rw[es];exact ew,a,us,rfl,J.keep _ _ ga,Reps.mono a4 _ q2,k.stay a (by rw[ga];simp) q3,q4⟩
   .rw[aa ar]at e;exact slot j m e λys _ ⟨z,_⟩=>ar (by cases z;rfl)
  .by_cases hc:i=c
   .subst hc;rw[es,ew]at Y;cases Y;rw[aa bP]at S;exact a0 d qs _ S p2 e4 rfl
   .rw[aa hc]at Z;by_cases hd:i=d
    .subst hd;rw[es,ew]at e4;cases e4;exact a0 c ps _ Z p1 Y rfl
    .rw[aa hd]at S;exact J.apart c d ps qs ad bP Z S p1 p2 Y e4
  .by_cases ar:i=j
   .subst ar;rw[ac a1]at e;cases e;cases U
   .rw[aa ar]at e;obtain⟨Z,S⟩:=k.brw j ys U e;cases ys with
    |brw ys =>
     rcases kD Z with Y|⟨z,_⟩
     .exact⟨Y,S⟩
     .cases z;exact absurd rfl ar
    |brwD ys=>exact⟨lw Z,S⟩
    |val _=>cases U
    |own _=>cases U
    |ownD _=>cases U
    |ownO _ _ _=>cases U
    |brwO fs ys=>exact⟨iW (λ_ z=>by cases z) Z,S⟩
 .have eb:br ms G A=A:=by
   unfold br;split
   .rename_i i;split
    .rename_i aP xs h0 h1;exact absurd ⟨i,aP,xs,rfl,h0,h1⟩ hA
    .rfl
   .rfl
  rw[eb];have no:∀(j:Nat) (ys:List PV),A[j]?=some (some (.brw ys))->¬ (ms=[.bor j]/\G[j]?=some (some (.own ys))):=λj ys e ⟨h1,h2⟩=>hA ⟨j,ys,ys,h1,by rw[h2];rfl,by rw[e];rfl⟩
  refine⟨⟨lg.trans J.keep,J.here,J.sub,st.old,J.len,λj m e=>slot j m e λys z=>no j ys (by rw[e,z]),J.apart
   ,J.inn
   ⟩,⟨stay,new,λj ys U e=>?_,k.len.trans nH
   ,mutO
   ⟩⟩
  obtain⟨Z,S⟩:=k.brw j ys U e;cases ys with
  |brw ys =>
   rcases kD Z with Y|Y
   .exact⟨Y,S⟩
   .exact absurd Y (no j ys e)
  |brwD ys=>exact⟨lw Z,S⟩
  |val _=>cases U
  |own _=>cases U
  |ownD _=>cases U
  |ownO _ _ _=>cases U
  |brwO fs ys=>exact⟨iW (λ_ z=>by cases z) Z,S⟩
end
section
variable{X:Cx}{T:Tab}{k:Nat}{cal:Cal}
def BI(K:MP)(n:Nat)(g:TG)(tk:PV->Rho->Option Rho):Prop:=
 ∀B E O H G A σ x u (Q:St->Hp->Prop),σ.length=n->a7 K B E O H G σ->Rep K (ah H O) x u->tk x G=some A ->
  (∀J,a7 K B E O H A J->cq B O O G A σ J->Q J H)->g u σ H Q
def zf{K:MP}{n:Nat}{ms:List ME}{g:TG}{tk:PV->Rho->Option Rho}{body:List MS}{D:gF}{σ:St}{H1:Hp}{J:It}(hn:σ.length=n)(hg:BI K n g tk){B:Hp}{E O:List Addr}{G:Rho}{xs:List PV}(U:a7 K B E O H1 G σ)(it:qo K J xs (ah H1 O) (cf B O H1 (bh ms G σ)))
  (q:fV K B E O G σ D ((bA (λx A=>iy (tk x A) λS=>exs cal body S) xs (ca ms G)).back ms G)):wo (λ_ _ R=>R J H1) g (tSs K cal body) D σ H1:=by
 obtain⟨bK,_⟩:=BH (ms:=ms) U;refine⟨λi m ao H'=>m=xs.length-i/\i<=xs.length/\∃A O',a7 K (cf B O H1 (bh ms G σ)) E O' H' A ao/\cq (cf B O H1 (bh ms G σ)) O O' (ca ms G) A σ ao /\
  bA (λx A=>iy (tk x A) λS=>exs cal body S) (xs.drop i) A=bA (λx A=>iy (tk x A) λS=>exs cal body S) xs (ca ms G),⟨xs.length,by simp,KN _,ca ms G,O,bK,.refl,by simp⟩,?_⟩
 rintro i m ao H' ⟨rfl,hi,A,O',Y,k',eq⟩;by_cases a0:i<xs.length
 .right;have ex:xs[i]?=some xs[i]:=Kz a0;refine⟨it.go i _ H' Y.keep ex,λa1 H2=>∃m',m'<xs.length-i/\(m'=xs.length-(i+1)/\i+1<=xs.length/\∃A O',a7 K (cf B O H1 (bh ms G σ)) E O' H2 A a1/\cq (cf B O H1 (bh ms G σ)) O O' (ca ms G) A σ a1 /\
   bA (λx A=>iy (tk x A) λS=>exs cal body S) (xs.drop (i+1)) A=bA (λx A=>iy (tk x A) λS=>exs cal body S) xs (ca ms G)),λa1 H2 z=>z,λu H2 y=>?_⟩
  obtain⟨s2,hr⟩:=it.yld i _ H' u H2 Y.keep ex y;have bO:=HL Y k';have hx:Rep K (ah H2 O') xs[i] u:=hr O' Y.here (bO.trans (aj s2));rw[drop_eq_getElem_cons a0,bA]at eq;cases et:tk xs[i] A with
  |none =>
   rw[et]at eq;rw[<- eq]at q;exact(show False from q).elim
  |some ar =>
   rw[et,show iy (some ar) (λS=>exs cal body S)=exs cal body ar from rfl]at eq;have a5:ao.length=n:=by rw[<- Y.len,k'.len,nH,U.len];exact hn
   refine hg _ E O' H2 A ar ao _ u _ a5 (Y.mono s2) hx et λa1 bR k2=>?_
   refine⟨_,E,O',ar,bR,?_⟩;have kk:=k'.trans k2;cases er:exs cal body ar with
   |next aH =>
    rw[er]at eq;exact λaL H3 O3 Z k3=>⟨_,by omega,rfl,a0,aH,O3,Z,kk.trans k3,eq⟩
   |cont aH =>
    rw[er]at eq;exact λaL H3 O3 Z k3=>⟨_,by omega,rfl,a0,aH,O3,Z,kk.trans k3,eq⟩
   |brk aH =>
    rw[er]at eq;rw[<- eq]at q;exact λaL H3 O3 Z k3=>by
     obtain⟨aP,kb⟩:=qz U Z (kk.trans k3);exact q aL H3 O3 aP kb
   |ret v =>
    rw[er]at eq;rw[<- eq]at q;exact λw H3 s3 r=>q w H3 ((dU U.keep).trans s3) r
   |retT v aH =>
    rw[er]at eq;rw[<- eq]at q;exact λaL H3 O3 Z k3=>by
     obtain⟨aP,kb⟩:=qz U Z (kk.trans k3);exact q aL H3 O3 aP kb
   |retF ys =>
    rw[er]at eq;rw[<- eq]at q;exact λp us H3 s3 hp he r=>q p us H3 ((dU U.keep).trans s3) ((dU U.keep).free hp) he r
   |bad =>
    rw[er]at eq;rw[<- eq]at q;exact(show False from q).elim
 .left;have ei:i=xs.length:=by omega
  subst ei;rw[drop_length,bA]at eq;rw[<- eq]at q;obtain⟨aP,kb⟩:=qz U Y k';exact⟨it.stop H' Y.keep,q ao H' O' aP kb⟩
def zg{K:MP}(hn:σ.length=n)(U:BI K n g tk)(st:a7 K B E O H G σ)(Y:evs cal ms G=some vs)(Z:cB k' vs=some xs)
  (q:fV K B E O G σ D ((bA (λx A=>iy (tk x A) λS=>exs cal body S) xs (ca ms G)).back ms G)):wo (tW K cal k' ms) g (tSs K cal body) D σ H:=by
 exact⟨B,E,O,G,vs,xs,st,Y,Z,λJ H1 s1 it=>zf hn U (st.mono s1) it q⟩
def BJ{K:MP}(hi:i<n):BI K n (gc i) (λx G=>some (put G i (.val x))):=by
 intro B E O H G A σ x u Q hn st r e q;cases e;obtain⟨J,S⟩:=st.store (i:=i) (by simp[*]) r;exact q _ J S
def Fo(g:Gf X T k cal)(d:Df X)(hi:X.N[i]?=some x)(U:Loc X.env.scope x)(hw:PI X (.Name x px) it (tW X.K cal S src))(J:ln it=true)(Y:PSs X b (tSs X.K cal body)) :
  PS X (.For (.Name x px) it b [] pos) (tS X.K cal (.for1 i S src body)):=by
 refine PS.imp' (mF d.own g.calm hw (lZ d.nd hi U (.inl (d.fn x))) Y (by intro v;cases it<;>first|rfl|(injection J))) λD σ H Z q=>?_
 refine jG q λB E O G st q=>?_
 rw[ex]at q;cases e:(evs cal src G).bind (cB S)with
 |none=>rw[e]at q;exact(show False from q).elim
 |some xs =>
  rw[e]at q;simp only[gI]at e;refine ag e λvs e1 e2=>?_
  exact zg (tk:=λx G=>some (put G i (.val x))) rfl (BJ (ltN hi Z)) st e1 e2 q
end
noncomputable def qA:List Nat->TGs
 | []=>GM
 |i::is=>Cu (gc i) (qA is)
section
variable{X:Cx}{T:Tab}{k:Nat}{cal:Cal}
theorem nI:∀{is}{J},eS X.N X.env.scope is J=true->(assignEach J X.env).length=is.length/\(assignEach J X.env).findIdx? (·.1)=none
 | [],[],_=>⟨rfl,rfl⟩
 | [],_::_,h=>dD h
 | _::_,[],h=>dD h
 |i::is,e::J,h=>by
  cases e<;>first|(exact dD h;done)|skip
  simp only[qi,ll]at h;rename_i x p;obtain⟨h1,h2⟩:=nI h.2;refine⟨?_,?_⟩
  .show((false,assign (.Name x p) X.env)::assignEach J X.env).length=_;simp[h1]
  .show((false,assign (.Name x p) X.env)::assignEach J X.env).findIdx? (·.1)=none;rw[findIdx?_cons];simp[h2]
theorem ph(d:Df X):∀{is}{J},eS X.N X.env.scope is J=true->PGs X J (qA is)
 | [],[],_=>AN
 | [],_::_,h=>dD h
 | _::_,[],h=>dD h
 |i::is,e::J,h=>by
  cases e<;>first|(exact dD h;done)|skip
  simp[qi,ll]at h;rename_i x p;exact xL (lZ d.nd h.1.1.1 (iI h.1.1.2) (.inl (d.fn x))) (ph d h.2) rfl
theorem sj:∀{is}{S},eS X.N X.env.scope is S=true->∀i∈is,i<X.N.length
 | [],[],_=>λi hi=>by simp at hi
 | [],_::_,h=>dD h
 | _::_,[],h=>dD h
 |i::is,e::S,h=>λj J=>by
  cases e<;>first|(exact dD h;done)|skip
  simp[qi,ll]at h;rcases nW.mp J with rfl|J
  .exact(uM.mp h.1.1.1).1
  .exact sj h.2 j J
theorem vI{K:MP}:∀{is}{vs}{us}{B}{E O}{H}{G A}{σ}{Q:St->Hp->Prop},(∀i∈is,i<σ.length)->a7 K B E O H G σ->Reps K (ah H O) vs us->t5 is vs G=some A ->
  (∀J,a7 K B E O H A J->cq B O O G A σ J->Q J H)->qA is us σ H Q
 | [],[],us,_,_,_,_,_,_,_,_,_,st,r,e,q=>by
  subst r;cases e;exact⟨rfl,q _ st .refl⟩
 | [],_::_,_,_,_,_,_,_,_,_,_,_,_,_,e,_=>by cases e
 | _::_,[],_,_,_,_,_,_,_,_,_,_,_,_,e,_=>by injection e
 |i::is,v::vs,us,B,E,O,H,G,A,σ,Q,hi,st,r,e,q=>by
  refine au r λu Z S r1 r2=>?_
  subst S;obtain⟨U,k1⟩:=st.store (i:=i) (hi i (.head _)) r1;refine⟨u,Z,rfl,?_⟩;exact vI (λj hj=>by rw[L3];exact hi j (.tail _ hj)) U r2 e λJ Y k'=>q J Y (k1.trans k')
def Fp{K:MP}(hi:∀i∈is,i<n):BI K n (GN K is.length (qA is)) (nv is):=by
 intro B E O H G A σ x u Q hn st r e q;cases x with
 |tup vs =>
  refine au r λa us J S rs=>?_
  subst J;have U:∀{is}{vs}{G A},t5 is vs G=some A->vs.length=is.length:=by
   intro is
   induction is with
   |nil=>intro vs G A h;cases vs<;>simp[t5]at h ⊢
   |cons i is ih=>intro vs G A h;cases vs<;>simp[t5]at h ⊢;exact ih h
  exact⟨a,us,rfl,(a_ H O).seqT (fh S),by rw[<- rs.length];exact U e,vI (λi h=>by rw[hn];exact hi i h) st rs e q⟩
 | _=>exact bn e
def Fq(g:Gf X T k cal)(d:Df X)(hi:eS X.N X.env.scope is S=true)(hw:PI X (.Tuple S j Y) it (tW X.K cal U src))(J:ln it=true)(Z:PSs X b (tSs X.K cal body)) :
  PS X (.For (.Tuple S j Y) it b [] pos) (tS X.K cal (.forT is U src body)):=by
 obtain⟨h1,h2⟩:=nI hi;refine PS.imp' (mF d.own g.calm hw (DG g.calm (ph d hi) h1 h2) Z (by intro v;cases it<;>first|rfl|(simp[ln]at J))) λD σ H hl q=>?_
 refine jG q λB E O G st q=>?_
 rw[ex]at q;cases e:(evs cal src G).bind (cB U)with
 |none=>rw[e]at q;exact(show False from q).elim
 |some xs =>
  rw[e]at q;simp only[gI]at e;refine ag e λvs e1 e2=>?_
  exact zg (tk:=nv is) hl (Fp (sj hi)) st e1 e2 q
def vJ(g:Gf X T k cal)(d:Df X)(hi:X.N[i]?=some x)(Z:Loc X.env.scope x)(hc:chk T me X.N X.env.scope v=true)(U:oX X.env.scope x px v me=true):∃t,PS X (.Assign [.Name x px] v pos) (pK t (gc i))/\(∀σ H Q,tF X.K cal me σ H Q->t σ H Q)/\jp me=true:=by
 unfold oX at U;rw[ll]at U;obtain⟨U,hk⟩:=U;have hl:=aw U;refine ag hl λc w _=>?_
 obtain rfl:=t6 w;cases me with
 |comp2 _ _ _ _=>exact dD hk
 |comp k' src js cond elt =>
  refine GF (lu hc) λe y py it ifs scope cpos e0 h=>?_
  rw[e0]at U ⊢;simp only[ll,KL]at h;obtain⟨⟨⟨⟨h1,h2⟩,h3⟩,h4⟩,h5⟩:=h;have hw:=nG (tg:=.Name y py) (λz=>by exact dD z) g h2 (λxs Y=>⟨sounds src g Y,bv Y⟩) (λm x hm Z=>match src,hm with|[m'],rfl=>(az m' g (cW Z).1.1).1);exact⟨_,tR d.nd hi Z (o5 h1) g.calm hw.1 (λJ S C fp=>ui h3 λc hc=>(az cond (g.blk y (fQ X.N js) scope J S C fp) hc).2) (λJ S C fp=>(az elt (g.blk y (fQ X.N js) scope J S C fp) h4).1) (w5 d U) (by have:=hw.2;intro v;cases it<;>first|rfl|(injection this)) (.inl (d.fn x)),
   λσ H Q q=>ue.comp_go h5 q,rfl⟩
 | _=>cases (show false=true from hc)
def HN(U:jp me=true){K:MP}(q:tE K cal me σ H Q):tF K cal me σ H Q:=by
 obtain⟨B,E,O,G,v,st,J,q⟩:=q;have S:∃xs,v=.lst xs:=by
  cases me with
  |lst es =>
   rw[ev,gI]at J;obtain⟨vs,_,S⟩:=J;split at S
   .cases S;exact⟨_,rfl⟩
   .exact bn S
  |comp _ _ _ _ _=>exact se G v J
  |blt b es=>cases b<;>first|exact gn (.inl rfl) G v J|exact gn (.inr (.inl rfl)) G v J|exact gn (.inr (.inr (.inl rfl))) G v J|exact gn (.inr (.inr (.inr (.inl rfl)))) G v J|exact gn (.inr (.inr (.inr (.inr rfl)))) G v J|(simp[jp]at U)
  | _=>injection U
 obtain⟨xs,rfl⟩:=S;exact⟨B,E,O,G,xs,st,J,λp us H' s Y Z r=>q _ _ s (vD st.here Y Z r)⟩
end
section
variable{T:Tab}{N:List Str}{sc:Scope}
def BK(h:fz T N sc (.set i e) s=true):∃x px v pos,s=.Assign [.Name x px] v pos/\(N[i]?==some x&&hU sc x&&aJ x&&chk T e N sc v&&!aZ e&&(c6 v||oX sc x px v e))=true:=by
 refine ag (aw h) λq J h1=>?_
 obtain⟨pos,rfl⟩:=j7 J;exact⟨_,_,_,_,rfl,h1⟩
def BL(h:fz T N sc (.setOwn i e) s=true):∃x px v pos,s=.Assign [.Name x px] v pos/\(N[i]?==some x&&hU sc x&&aJ x&&chk T e N sc v&&jp e&&(c6 v||oX sc x px v e))=true:=by
 refine ag (aw h) λq J h1=>?_
 obtain⟨pos,rfl⟩:=j7 J;exact⟨_,_,_,_,rfl,h1⟩
def uv (h:fz T N sc (.append i e) s=true):∃x p m ap v cp pos,s=.Expr (.Call (.Attribute (.Name x p) m ap) [v] [] cp) pos/\(aD N sc i x&&m==("append":Str)&&chk T e N sc v&&!aZ e&&aE v&&ap.endLine==cp.line)=true:=by
 refine ag (aw h) λq S h1=>?_
 refine ag (aw h1) λv U h2=>?_
 refine oB (qj S) λp pos J=>?_
 subst J;rw[eR U];exact⟨_,_,_,_,_,_,_,rfl,h2⟩
def uA {i:Nat}{k e:ME}{s:Stmt} (h:fz T N sc (.insert i k e) s=true):∃x p m ap a v cp pos,s=.Expr (.Call (.Attribute (.Name x p) m ap) [a,v] [] cp) pos/\(aD N sc i x&&m==("insert":Str)&&chk T k N sc a&&chk T e N sc v&&!aZ e&&aE a&&aE v&&ap.endLine==cp.line)=true:=by
 obtain⟨q,J,h1⟩:=aw h;obtain⟨v,S,h2⟩:=aw h1;obtain⟨p,pos,rfl⟩:=qj J;rw[qb S];exact⟨_,_,_,_,_,_,_,_,rfl,h2⟩
def BM {i:Nat}{es:List ME}{s:Stmt} (h:fz T N sc (.mkO i es) s=true):∃x px y J args cp pos,s=.Assign [.Name x px] (.Call (.Name y J) args [] cp) pos/\(N[i]?==some x&&hU sc x&&aJ x&&y==("Table":Str)&&glB sc y&&chks T es N sc args&&(es.all λm=>!aZ m)&&!args.isEmpty)=true:=by
 obtain⟨q,S,h1⟩:=aw h;obtain⟨c,U,h2⟩:=aw h1;obtain⟨pos,rfl⟩:=j7 S;obtain⟨p,cp,Y⟩:=iT U;rw[Y];exact⟨_,_,_,_,_,_,_,rfl,h2⟩
def zh {i:Nat}{e:ME}{s:Stmt} (h:fz T N sc (.appO i e) s=true):∃x p f J m ap v cp pos,s=.Expr (.Call (.Attribute (.Attribute (.Name x p) f J) m ap) [v] [] cp) pos/\(aD N sc i x&&f==("taken":Str)&&m==("append":Str)&&chk T e N sc v&&!aZ e&&aE v&&ap.endLine==cp.line)=true:=by
 obtain⟨q,S,h1⟩:=aw h;obtain⟨v,U,h2⟩:=aw h1;obtain⟨p,J,pos,rfl⟩:=Bk S;rw[eR U];exact⟨_,_,_,_,_,_,_,_,_,rfl,h2⟩
def zi{e:ME}{s:Stmt}(h:fz T N sc (.retT e) s=true):∃v pos,s=.Return (some v) pos/\(chk T e N sc v&&!aZ e)=true:=by
 obtain⟨v,J,h1⟩:=aw h;obtain⟨pos,rfl⟩:=qk J;exact⟨v,pos,rfl,h1⟩
def w_{i j f:Nat}{es:List ME}{s:Stmt}(h:fz T N sc (.takeO (some j) i f es) s=true):∃x px c p pos,s=.Assign [.Name x px] (.Call (.Attribute (.Name c.1 p) c.2.1 c.2.2.2.1) c.2.2.1 [] c.2.2.2.2) pos/\(N[j]?==some x&&hU sc x&&aJ x&&(rM N sc T.ms f i (λxs=>chks T es N sc xs) c&&(es.all λm=>!aZ m)))=true:=by
 obtain⟨q,J,h1⟩:=aw h;obtain⟨c,S,h2⟩:=aw h1;obtain⟨pos,rfl⟩:=j7 J;obtain⟨p,U⟩:=qe S;rw[U];exact⟨_,_,c,_,_,rfl,h2⟩
def xa{i f:Nat}{es:List ME}{s:Stmt}(h:fz T N sc (.takeO none i f es) s=true):∃c p pos,s=.Expr (.Call (.Attribute (.Name c.1 p) c.2.1 c.2.2.2.1) c.2.2.1 [] c.2.2.2.2) pos/\(rM N sc T.ms f i (λxs=>chks T es N sc xs) c&&(es.all λm=>!aZ m))=true:=by
 obtain⟨q,J,h1⟩:=aw h;obtain⟨c,S,h2⟩:=aw h1;obtain⟨pos,rfl⟩:=yL J;obtain⟨p,U⟩:=qe S;rw[U];exact⟨c,_,_,rfl,h2⟩
def uB (h:fz T N sc (.extend i e) s=true):∃x p m ap v cp pos,s=.Expr (.Call (.Attribute (.Name x p) m ap) [v] [] cp) pos/\(aD N sc i x&&m==("extend":Str)&&chk T e N sc v&&aE v&&ap.endLine==cp.line)=true:=by
 refine ag (aw h) λq S h1=>?_
 refine ag (aw h1) λv U h2=>?_
 refine oB (qj S) λp pos J=>?_
 subst J;rw[eR U];exact⟨_,_,_,_,_,_,_,rfl,h2⟩
def zj(h:fz T N sc (.dput i k e) s=true):∃x p s' sp v pos,s=.Assign [.Subscript (.Name x p) s' sp] v pos/\(aD N sc i x&&chk T k N sc s'&&eX s'&&chk T e N sc v&&!aZ e&&c6 v)=true:=by
 refine ag (aw h) λq S h1=>?_
 refine GD (Bi S) λp sp pos J=>?_
 subst J;exact⟨_,_,_,_,_,_,rfl,h1⟩
def zk(h:fz T N sc (.newD m i) s=true):∃x p dp pos,s=.Assign [.Name x p] (.Dict [] [] dp) pos/\(N[i]?==some x&&hU sc x&&aJ x)=true:=by
 refine ag (aw h) λq J h1=>?_
 rw[ll]at h1;obtain⟨pos,rfl⟩:=j7 J;obtain⟨p,S⟩:=yJ h1.1;rw[S];exact⟨_,_,_,_,rfl,h1.2⟩
def BN(h:fz T N sc (.ite c a b) s=true):∃t x y pos,s=.If t x y pos/\(chk T c N sc t&&chkSs T N sc a x&&chkSs T N sc b y)=true:=by
 cases s with
 |If t x y pos=>exact⟨t,x,y,pos,rfl,h⟩
 | _=>cases (show false=true from h)
def zl(h:fz T N sc (.for1 i k src body) s=true):∃x px it b pos,s=.For (.Name x px) it b [] pos/\(N[i]?==some x&&hU sc x&&aJ x&&qf sc false (λxs=>chks T src N sc xs) k it&&chkSs T N sc body b)=true:=by
 simp[Bl]at h;split at h<;>first|(exact bn h;done)|(rename_i J;exact bn J;exact⟨_,_,_,_,_,rfl,h⟩)|(injections;done)|(injections;subst_vars;exact⟨_,_,_,_,_,rfl,h⟩)
def zm(h:fz T N sc (.forT is k src body) s=true):∃S j U it b pos,s=.For (.Tuple S j U) it b [] pos/\(eS N sc is S&&qf sc true (λxs=>chks T src N sc xs) k it&&chkSs T N sc body b)=true:=by
 simp[Bm]at h;split at h<;>first|(exact bn h;done)|(rename_i J;exact bn J;exact⟨_,_,_,_,_,_,rfl,h⟩)|(injections;done)|(injections;subst_vars;exact⟨_,_,_,_,_,_,rfl,h⟩)
def BO(h:fz T N sc (.ret e) s=true):∃v pos,s=.Return (some v) pos/\(chk T e N sc v&&!aZ e)=true:=by
 refine ag (aw h) λv J h1=>?_
 obtain⟨pos,rfl⟩:=qk J;exact⟨_,_,rfl,h1⟩
def uC(h:fz T N sc (.retOwn i) s=true):∃x p pos,s=.Return (some (.Name x p)) pos/\(aD N sc i x)=true:=by
 refine ag (aw h) λv J h1=>?_
 refine ag (aw h1) λx S h2=>?_
 obtain⟨pos,rfl⟩:=qk J;obtain⟨p,rfl⟩:=yI S;exact⟨_,_,_,rfl,h2⟩
end
def xb(g:Gf X T k cal)(d:Df X)(h:fz T X.N X.env.scope (.set i e) s=true):PS X s (tS X.K cal (.set i e)):=by
 refine jG (BK h) λx px v pos J hc=>?_
 subst J;simp only[ll,LV,Kt,KL]at hc;refine Jz hc λh1 h2 h3 h4 h5 h6=>?_
 rcases h6 with h6|h6
 .exact HF d h1 (iI h2) (az e g h4).1 h5 h6
 .obtain⟨t,p,S,U⟩:=vJ (pos:=pos) g d h1 (iI h2) h4 h6;exact PS.imp' p λD σ H Y q=>S _ _ _ (HN U (y4 (ltN h1 Y) h5 q))
noncomputable def Fs:MS->Bool
 | .freeze _=>true
 | _=>false
mutual
theorem zn{T:Tab}{k:Nat}{cal:Cal}{X:Cx}(g:Gf X T k cal)(d:Df X):∀(m:MS) (s:Stmt),fz T X.N X.env.scope m s=true->PS X s (tS X.K cal m)
 | .set i e,s,h=>xb g d h
 | .setOwn i e,s,h=>by
  obtain⟨x,px,v,pos,rfl,hc⟩:=BL h;simp only[ll,LV,Kt]at hc;obtain⟨⟨⟨⟨⟨h1,h2⟩,h3⟩,h4⟩,h5⟩,h6⟩:=hc;rcases h6 with h6|h6
  .exact HG d h1 (iI h2) (Fi g h4 h5) h6
  .obtain⟨t,p,hp,hf⟩:=vJ (pos:=pos) g d h1 (iI h2) h4 h6;exact PS.imp' p λD σ H hl q=>hp _ _ _ (y9 (ltN h1 hl) q)
 | .insert i k e,s,h=>by
  obtain⟨x,p,m,ap,a,v,cp,pos,rfl,hc⟩:=uA h;simp only[ll,Kt,KL]at hc;obtain⟨⟨⟨⟨⟨⟨⟨h1,rfl⟩,h2⟩,h3⟩,h4⟩,h5⟩,h6⟩,h7⟩:=hc;exact y_ (az k g h2).1 (az e g h3).1 h1 h4 h5 h6 (Kt.mpr h7)
 | .append i e,s,h=>by
  obtain⟨x,p,m,ap,v,cp,pos,rfl,hc⟩:=uv h;simp only[ll,Kt,KL]at hc;obtain⟨⟨⟨⟨⟨h1,rfl⟩,h3⟩,h4⟩,h5⟩,h6⟩:=hc;exact za (az e g h3).1 h1 h4 h5 (Kt.mpr h6)
 | .extend i e,s,h=>by
  obtain⟨x,p,m,ap,v,cp,pos,rfl,hc⟩:=uB h;simp only[ll,Kt]at hc;obtain⟨⟨⟨⟨h1,rfl⟩,h3⟩,h5⟩,h6⟩:=hc;exact zb (az e g h3).1 h1 h5 (Kt.mpr h6)
 | .setIdx _ _ _,s,h=>absurd (show false=true from h) kn
 | .unpack _ _,s,h=>absurd (show false=true from h) kn
 | .expr _,s,h=>absurd (show false=true from h) kn
 | .ite c a b,s,h=>by
  obtain⟨t,x,y,pos,rfl,hc⟩:=BN h;simp only[ll]at hc;exact JY (az c g hc.1.1).2 (soundSs g d a x hc.1.2) (soundSs g d b y hc.2)
 | .for1 i k' src body,s,h=>by
  obtain⟨x,px,it,b,pos,rfl,hc⟩:=zl h;simp only[ll,Kt]at hc;obtain⟨⟨⟨⟨h1,h2⟩,h3⟩,h4⟩,h5⟩:=hc;have hw:=nG (tg:=.Name x px) (λz=>by cases z) g h4 (λxs J=>⟨sounds src g J,bv J⟩) (λm x hm S=>match src,hm with|[U],rfl=>(az U g (by simp only[chks,ll]at S;exact S.1.1)).1);exact Fo g d h1 (iI h2) hw.1 hw.2 (soundSs g d body b h5)
 | .forT is k' src body,s,h=>by
  obtain⟨ts,j,tp,it,b,pos,rfl,hc⟩:=zm h;simp only[ll]at hc;obtain⟨⟨h1,h4⟩,h5⟩:=hc;have hw:=nG (tg:=.Tuple ts j tp) (λ_=>⟨_,_,_,rfl⟩) g h4 (λxs J=>⟨sounds src g J,bv J⟩) (λm x hm S=>match src,hm with|[U],rfl=>(az U g (by simp only[chks,ll]at S;exact S.1.1)).1);exact Fq g d h1 hw.1 hw.2 (soundSs g d body b h5)
 | .while _ _ _,s,h=>absurd (show false=true from h) kn
 | .ret e,s,h=>by
  obtain⟨v,pos,rfl,hc⟩:=BO h;simp only[ll,KL]at hc;exact HH (az e g hc.1).1 hc.2
 | .mkO i es,s,h=>by
  obtain⟨x,px,y,py,args,cp,pos,rfl,hc⟩:=BM h;simp only[ll,Kt]at hc;obtain⟨⟨⟨⟨⟨⟨⟨h1,h2⟩,h3⟩,h4⟩,h5⟩,h6⟩,h7⟩,h8⟩:=hc;subst h4;cases args with
  |nil=>cases h8
  |cons e args=>exact HK g d h1 (iI h2) h5 (sounds es g h6) h7 (bv h6).1 (bv h6).2
 | .appO i e,s,h=>by
  obtain⟨x,p,f,fp,m,ap,v,cp,pos,rfl,hc⟩:=zh h;simp only[ll,KL]at hc;obtain⟨⟨⟨⟨⟨⟨h1,h2⟩,h3⟩,h4⟩,h5⟩,h6⟩,h7⟩:=hc;rw[eq_of_beq h2,eq_of_beq h3];exact Fn g (az e g h4).1 h1 h5 h6 h7
 | .retT e,s,h=>by
  obtain⟨v,pos,rfl,hc⟩:=zi h;simp only[ll,KL]at hc;exact Fm (az e g hc.1).1 hc.2
 | .takeO (some j) i f es,s,h=>by
  obtain⟨x,px,c,p,pos,rfl,hc⟩:=w_ h;obtain⟨a1,a2⟩:=pb.mp hc;obtain⟨h4,h5⟩:=pb.mp a2;simp only[ll,Kt]at a1;obtain⟨⟨h1,h2⟩,h3⟩:=a1;obtain⟨Y,Z,q3,q4,q5,q6⟩:=qu h4;exact BF d h1 (iI h2) (vG g Y Z q3 (sounds es g q4) h5 (bv q4).1 (bv q4).2 q5 q6) rfl
 | .takeO none i f es,s,h=>by
  obtain⟨c,p,pos,rfl,hc⟩:=xa h;obtain⟨h4,h5⟩:=pb.mp hc;obtain⟨Y,Z,q3,q4,q5,q6⟩:=qu h4;exact BG (vG g Y Z q3 (sounds es g q4) h5 (bv q4).1 (bv q4).2 q5 q6) rfl
 | .retF _,s,h=>absurd (show false=true from h) kn
 | .setCall _ _ _,s,h=>absurd (show false=true from h) kn
 | .clear _,s,h=>absurd (show false=true from h) kn
 | .retOwn i,s,h=>by
  obtain⟨x,p,pos,rfl,hc⟩:=uC h;exact zc hc
 | .retN,s,h=>absurd (show false=true from h) kn
 | .brk,s,h=>absurd (show false=true from h) kn
 | .cont,s,h=>absurd (show false=true from h) kn
 | .pass,s,h=>absurd (show false=true from h) kn
 | .never,s,h=>by
  refine xK.imp λD σ H q=>?_
  obtain⟨B,E,O,G,st,q⟩:=q;rw[ex]at q;exact q
 | .newD m i,s,h=>by
  obtain⟨x,p,dp,pos,rfl,hc⟩:=zk h;simp only[ll,Kt]at hc;exact Fj d hc.1.1 (iI hc.1.2)
 | .dput i mk me,s,h=>by
  obtain⟨x,p,s',sp,v,pos,rfl,hc⟩:=zj h;simp only[ll]at hc;exact Fk g (az mk g hc.1.1.1.1.2).1 (az me g hc.1.1.2).1 hc.1.1.1.1.1 hc.2
 | .freeze _,s,h=>absurd (show false=true from h) kn
theorem soundSs{T:Tab}{k:Nat}{cal:Cal}{X:Cx}(g:Gf X T k cal)(d:Df X):∀(ms:List MS) (ss:List Stmt),chkSs T X.N X.env.scope ms ss=true->PSs X ss (tSs X.K cal ms)
 | [],ss,h=>by
  cases ss with
  |nil=>exact HI
  |cons _ _=>cases h
 |m::ms,ss,h=>by
  cases hm:Fs m with
  |true =>
   cases m<;>simp[Fs]at hm
   cases h
  |false =>
   cases ss with
   |nil=>cases m<;>first|(cases h;done)|cases hm
   |cons s ss =>
    have h:(fz T X.N X.env.scope m s&&chkSs T X.N X.env.scope ms ss)=true:=by cases m<;>first|exact h|(simp[Fs]at hm)
    simp only[ll]at h;exact Fl (zn g d m s h.1) (soundSs g d ms ss h.2)
end
structure FnD(K:MP)(x y:Str)(st:Stmt)(fa:Addr)(fd:FuncData):Prop where
 it:∃(c0 d0 k0 o0 m0:Value) (a0:Option Addr) (c1 t1:Value) (a1:Option Addr) (sl:Array (Option Value)),
  K.lookup fa=some ⟨c0,a1,.func fd,sl⟩/\PySem.W.codeIn K c1 y=true/\fd=PySem.W.fnOf x y (jM st) (aK st) (af st) d0 k0 o0 m0 a0 c1 t1
 kp:PySem.W.keepIn K (.ref fa)=true
theorem FnD.mk'{K:MP}{st:Stmt} 
  (l:K.lookup J=some ⟨Y,a1,.func (PySem.W.fnOf x y (jM st) (aK st) (af st) d0 k0 o0 m0 U S t1),Z⟩) (c:PySem.W.codeIn K S y=true) (k:PySem.W.keepIn K (.ref J)=true) :
  FnD K x y st J (PySem.W.fnOf x y (jM st) (aK st) (af st) d0 k0 o0 m0 U S t1):=⟨⟨_,_,_,_,_,_,_,_,_,_,l,c,rfl⟩,k⟩
theorem FnD.mkd{K:MP}{st:Stmt} 
  (l:K.lookup J=some ⟨Y,a1,.func (PySem.W.fnOf x y (jM st) (aK st) (af st) (.ref T) k0 o0 m0 U S t1),Z⟩) (c:PySem.W.codeIn K S y=true) (k:PySem.W.keepIn K (.ref J)=true) :
  FnD K x y st J (PySem.W.fnOf x y (jM st) (aK st) (af st) (.ref T) k0 o0 m0 U S t1):=.mk' l c k
structure pi(T:Tab)(K:MP)(mg:Str->Option Value)(st:Stmt)(d:MD)(fa:Addr)(fd:FuncData):Prop where
 fn:FnD K (d.meth.getD d.name) d.name st fa fd
 binds:aG K fd d.params []
 named:(d.meth=none/\mg d.name=some (.ref fa))\/∃m,d.meth=some m/\∀C,IsC K C->gG K C m fa
 scope:bQ d.names d.params (af st)
 body:chkSs T d.names (af st) d.body (aK st)=true
def uncons{α:Type} :∀{us:List α},us.length=n+1->∃a t,us=a::t/\t.length=n
 | _::_,h=>⟨_,_,rfl,Nat.succ.inj h⟩
def bn1{K:MP}(h:∀a,bindArgs fd ⟨[a],[]⟩=pure [(S,a)]):aG K fd [S] []:=.all λus h0=>by
 refine dc (uncons h0) λa U J h1=>?_
 subst J;obtain rfl:=Lr.mp h1;exact h a
def bn2{K:MP}(h:∀a b,bindArgs fd ⟨[a,b],[]⟩=pure [(S,a),(U,b)]):aG K fd [S,U] []:=.all λus h0=>by
 refine dc (uncons h0) λa Y J h1=>?_
 subst J;refine dc (uncons h1) λb Z J h2=>?_
 subst J;obtain rfl:=Lr.mp h2;exact h a b
def bn3{K:MP}(h:∀a b c,bindArgs fd ⟨[a,b,c],[]⟩=pure [(S,a),(U,b),(pc,c)]):aG K fd [S,U,pc] []:=.all λus h0=>by
 refine dc (uncons h0) λa Y J h1=>?_
 subst J;refine dc (uncons h1) λb Z J h2=>?_
 subst J;refine dc (uncons h2) λc u3 J h3=>?_
 subst J
 simp_all
def bn4{K:MP}(h:∀a b c d,bindArgs fd ⟨[a,b,c,d],[]⟩=pure [(S,a),(U,b),(pc,c),(pd,d)]):aG K fd [S,U,pc,pd] []:=.all λus h0=>by
 refine dc (uncons h0) λa Y J h1=>?_
 subst J;refine dc (uncons h1) λb Z J h2=>?_
 subst J;refine dc (uncons h2) λc u3 J h3=>?_
 subst J;refine dc (uncons h3) λd u4 J h4=>?_
 subst J
 simp_all
def bn6{K:MP}{fd:FuncData}{J S pc pd U pf:Str}(h:∀a b c d e f,bindArgs fd ⟨[a,b,c,d,e,f],[]⟩=pure [(J,a),(S,b),(pc,c),(pd,d),(U,e),(pf,f)]):aG K fd [J,S,pc,pd,U,pf] []:=.all λus h0=>by
 obtain⟨a,Y,rfl,h1⟩:=uncons h0;obtain⟨b,Z,rfl,h2⟩:=uncons h1;obtain⟨c,u3,rfl,h3⟩:=uncons h2;obtain⟨d,u4,rfl,h4⟩:=uncons h3;obtain⟨e,u5,rfl,h5⟩:=uncons h4;obtain⟨f,u6,rfl,h6⟩:=uncons h5;obtain rfl:=Lr.mp h6;exact h a b c d e f
def uD{K:MP}(hd:fd.defaults=.ref T)(l:K.lookup T=some ⟨c,o,.seq vs n,S⟩)
  (h:∀us,us.length=ps.length->∃k,bindArgs fd ⟨us,[]⟩=seqItems? fd.defaults >>= k/\k (some vs)=pure (ps.zip us)):aG K fd ps []:=λs us X J=>by
 rw[L1]at J ⊢;refine ag (h us J) λk h1 h2=>?_
 exact .of_defaults hd (X _ _ l) rfl h1 h2
def uE{K:MP}(hd:fd.defaults=.ref T)(l:K.lookup T=some ⟨c,o,.seq #[v] n,S⟩)
  (h:∀us,us.length+1=ps.length->∃k,bindArgs fd ⟨us,[]⟩=seqItems? fd.defaults >>= k/\k (some #[v])=pure (ps.zip (us++[v]))):aG K fd ps [v]:=λs us X J=>by
 refine ag (h us (by simpa using J)) λk h1 h2=>?_
 exact .of_defaults hd (X _ _ l) rfl h1 h2
def BP{K:MP}{fd:FuncData}{ps:List Str}{T:Addr}{c:Value}{x:Str}{k:Tok}{o:Option Addr}{n:Nat}{J:Array (Option Value)}(hd:fd.defaults=.ref T)(l:K.lookup T=some ⟨c,o,.seq #[.str x k] n,J⟩)
  (h:∀us:List Value,us.length+1=ps.length->∃j,bindArgs fd ⟨us,[]⟩=seqItems? fd.defaults >>= j/\j (some #[.str x k])=pure (ps.zip (us++[.str x k]))):∃vs,aG K fd ps vs/\aN ([Sc.str x].map Sc.v) vs:=⟨_,uE hd l h,.cons ⟨k,rfl⟩ .nil⟩
def HD(K:MP)(x:Str)(st:Stmt)(d:MD)(q:FuncData->Prop:=λ_=>True):Prop:=d.name=x/\∃J fd,PySem.W.nsIn K mainGlobals x=some (some (.ref J))/\FnD K x x st J fd/\aG K fd d.params []/\q fd
def HM(K:MP)(C:Addr)(x y:Str)(st:Stmt)(d:MD):Prop:=d.meth=some x/\d.name=y/\∃J fd,gG K C x J/\FnD K x y st J fd/\aG K fd d.params []
structure vK(K:MP)(C:Addr):Prop where
 cls:Cls K C
 nf:∀x∈jo,cA K C x
 nt:cA K C "taken"
noncomputable def okD(T:Tab)(st:Stmt)(d:MD):Bool:=
 decide ((af st).kind=.function/\(af st).isCoroutine=false/\(af st).isGenerator=false/\d.names.Nodup/\d.names.take d.params.length=d.params/\(∀x∈d.params,(af st).names.lookup x=some .local\/(af st).names.lookup x=some .cell)/\∀y∈(af st).names,y.2≠.free)
 &&d.meth.isNone
 &&chkSs T d.names (af st) d.body (aK st)
def bJ{T:Tab}{K:MP}{mg:Str->Option Value}{h:Heap}{st:Stmt}{d:MD}(X:K.In h)(G:h.Ns mainGlobals mg){q:FuncData->Prop}{x:Str}(hd:HD K x st d q)(S:okD T st d=true):∃U fd,pi T K mg st d U fd/\q fd:=by
 obtain⟨e,_,_,n,f,b,z⟩:=hd;obtain⟨J,Y⟩:=pb.mp S;obtain⟨J,Z⟩:=pb.mp J;obtain⟨s1,s2,s3,s4,s5,s6,s7⟩:=KQ J;subst e;have hm:d.meth=none:=isNone_iff_eq_none.mp Z;exact⟨_,_,⟨by rw[hm];exact f,b,.inl ⟨hm,PySem.W.mg_of X G n⟩,⟨s1,s2,s3,s4,s5,s6,s7⟩,Y⟩,z⟩
noncomputable def okM(T:Tab)(st:Stmt)(d:MD):Bool:=
 decide ((af st).kind=.function/\(af st).isCoroutine=false/\(af st).isGenerator=false/\d.names.Nodup/\d.names.take d.params.length=d.params/\(∀x∈d.params,(af st).names.lookup x=some .local\/(af st).names.lookup x=some .cell)/\∀y∈(af st).names,y.2≠.free)&&chkSs T d.names (af st) d.body (aK st)
def h_{T:Tab}{K:MP}{mg:Str->Option Value}{C:Addr}{st:Stmt}{d:MD}{x y:Str}(J:IsC K C)(hd:HM K C x y st d)(S:okM T st d=true):∃U fd,pi T K mg st d U fd:=by
 obtain⟨e,Y,_,_,n,f,b⟩:=hd;obtain⟨Z,c2⟩:=pb.mp S;obtain⟨s1,s2,s3,s4,s5,s6,s7⟩:=KQ Z;subst Y;exact⟨_,_,⟨by rw[e];exact f,b,.inr ⟨x,e,λC' h=>by
  have:=h.symm.trans J;cases this;exact n⟩,⟨s1,s2,s3,s4,s5,s6,s7⟩,c2⟩⟩
def zo(T:Tab)(K:MP)(mg:Str->Option Value):List MD->List (List Sc)->Prop
 | [],[]=>True
 |d::ds,l::ls=>(∃st J fd,pi T K mg st d J fd/\∃vs,aG K fd d.params vs/\aN (l.map Sc.v) vs)/\zo T K mg ds ls
 | _,_=>False
theorem zo.get{K:MP} :∀{ds}{S}{f:Nat}{d},zo T K mg ds S->ds[f]?=some d->∃l st J fd,S[f]?=some l/\pi T K mg st d J fd/\∃vs,aG K fd d.params vs/\aN (l.map Sc.v) vs
 | [],_,f,d,_,e=>by injection e
 | _::_,[],f,d,h,e=>h.elim
 |d0::ds,l::S,0,d,h,e=>by
  cases e;obtain⟨⟨st,J,fd,r⟩,_⟩:=h;exact⟨l,st,J,fd,rfl,r⟩
 |d0::ds,l::S,f+1,d,h,e=>by
  refine jG (zo.get h.2 (show ds[f]?=some d from by simpa using e)) λk st J fd q r=>?_
  exact⟨k,st,J,fd,by simpa using q,r⟩
noncomputable def zp(d:MD):Str:=match d.meth with
 |none=>d.name
 |some _=>"__debug__"
def mw{d:MD}(h:aJ (zp d)=true):d.meth=none/\zp d=d.name:=by
 unfold zp at h ⊢;cases e:d.meth with
 |none=>exact⟨rfl,rfl⟩
 |some m =>
  rw[e]at h;exact absurd (show aJ ("__debug__":Str)=true from h) (by decide +kernel)
structure ia(T:Tab)(K:MP)(mg:Str->Option Value)(ds:List MD)
 :Prop where
 tab:T.fs=ds.map zp
 tabM:T.ms=ds.map (·.meth)
 cls:∀C,IsC K C->vK K C
 ini:∃C,IsC K C/\mg ("Table":Str)=some (.ref C)/\∃fa fd ps,Mk K C fa/\aG K fd ps []/\(∀P w base,bw P w K mg base CX0 1 fa fd ps (spI K C))/\∃vs,aG K fd ps vs/\aN [V.str "weaver"] vs
 defs:zo T K mg ds T.ds
 blt:∀x∈km,mg (x:Str)=none
 gs:∀p∈T.gs,∃u,mg p.1=some u/\aF (toV p.2) u
def nJ{ds:List MD}{n f:Nat}{d:MD}{args:List MV}{r:PV}(hd:ds[f]?=some d)(h:ab ds (n+1) f args=some r):args.length=d.params.length /\
  ((∃G,exs (ab ds n) d.body (args.map some++replicate (d.names.length-args.length) none)=.next G/\r=.non)\/exs (ab ds n) d.body (args.map some++replicate (d.names.length-args.length) none)=.ret r \/
   ∃xs,exs (ab ds n) d.body (args.map some++replicate (d.names.length-args.length) none)=.retF xs/\r=.lst xs):=by
 rw[ab,hd]at h;dsimp only at h;by_cases J:args.length=d.params.length
 .rw[if_pos J]at h;refine⟨J,?_⟩;cases he:exs (ab ds n) d.body (args.map some++replicate (d.names.length-args.length) none)with
  |next G=>rw[he]at h;cases h;exact .inl ⟨G,rfl,rfl⟩
  |ret v=>rw[he]at h;cases h;exact .inr (.inl rfl)
  |retF xs=>rw[he]at h;cases h;exact .inr (.inr ⟨xs,rfl,rfl⟩)
  |retT v G=>rw[he]at h;cases h
  |brk G=>rw[he]at h;cases h
  |cont G=>rw[he]at h;cases h
  |bad=>rw[he]at h;cases h
 .rw[if_neg J]at h;cases h
def lQ{ds:List MD}{n f:Nat}{d:MD}{args:List MV}{r:PV}(S:f<1000)(hn:ds[f+1000]?=none)(hd:ds[f]?=some d)(h:ab ds (n+1) (f+1000) args=some r):args.length=d.params.length /\
  ∃xs,exs (ab ds n) d.body (args.map some++replicate (d.names.length-args.length) none)=.retF xs/\r=.lst xs:=by
 rw[ab,hn]at h;dsimp only at h;rw[if_neg (by omega),if_neg (by omega),L0,hd]at h;dsimp only at h;by_cases J:args.length=d.params.length
 .rw[if_pos J]at h;refine⟨J,?_⟩;cases he:exs (ab ds n) d.body (args.map some++replicate (d.names.length-args.length) none)with
  |retF xs=>rw[he]at h;cases h;exact⟨xs,rfl,rfl⟩
  |retT v G=>rw[he]at h;cases h
  |next G=>rw[he]at h;cases h
  |ret v=>rw[he]at h;cases h
  |brk G=>rw[he]at h;cases h
  |cont G=>rw[he]at h;cases h
  |bad=>rw[he]at h;cases h
 .rw[if_neg J]at h;cases h
def nK{ds:List MD}{n f:Nat}{d:MD}{args:List MV}{r:PV}(S:f<1000)(hn:ds[f+3000]?=none)(hd:ds[f]?=some d)(h:ab ds (n+1) (f+3000) args=some r):args.length=d.params.length /\
  ∃v G,exs (ab ds n) d.body (args.map some++replicate (d.names.length-args.length) none)=.retT v G/\wQ v G=some r:=by
 rw[ab,hn]at h;dsimp only at h;rw[if_neg (by omega),if_pos (by omega)]at h;rw[L0,hd]at h;dsimp only at h;by_cases J:args.length=d.params.length
 .rw[if_pos J]at h;refine⟨J,?_⟩;cases he:exs (ab ds n) d.body (args.map some++replicate (d.names.length-args.length) none)with
  |retT v G=>rw[he]at h;exact⟨v,G,rfl,h⟩
  |next G=>rw[he]at h;cases h
  |ret v=>rw[he]at h;cases h
  |retF xs=>rw[he]at h;cases h
  |brk G=>rw[he]at h;cases h
  |cont G=>rw[he]at h;cases h
  |bad=>rw[he]at h;cases h
 .rw[if_neg J]at h;cases h
def zq{ds:List MD}{n:Nat}(J:ds.length<=1000)(h:ab ds n 4000 []≠none):2<=n:=by
 match n,h with
 |0,h=>exact absurd rfl h
 |1,h =>
  refine absurd ?_ h;rw[ab,MJ (by omega)]
  rfl
 |n+2,h=>omega
def BQ{v w:Sc}{G:Rho}{ys:List PV}(h:wQ v G=some (.tup [w.pv,.lst ys])):v=w/\∃fs,G[0]?=some (some (.ownO true fs ys)):=by
 unfold wQ at h;split at h
 .cases v<;>cases w<;>cases h<;>exact⟨rfl,_,rfl⟩
 .cases h
theorem jt :∀{xs}{ys}{i:Nat}{x},Paired F xs ys->xs[i]?=some x->∃y,ys[i]?=some y/\F x y
 | _,_,_,_,.nil,e=>by injection e
 | _,_,0,_,.cons r _,e=>by simp at e;subst e;exact⟨_,rfl,r⟩
 | _,_,i+1,x,.cons _ t,e=>by
  obtain⟨u,h1,h2⟩:=jt (i:=i) (x:=x) t e;exact⟨u,by simpa using h1,h2⟩
def nL{K:MP}{H:Hp}{O:List Addr}{args:List MV}{vs:List V}{N:List Str}(Y:∀a∈O,H a≠none)(h:Paired (fS K O H) args vs):a7 K H O O H (args.map some++replicate (N.length-args.length) none) (fG N vs):=by
 have Z:args.length=vs.length:=Paired.length h;have get:∀(i:Nat) (m:MV),(args.map some++replicate (N.length-args.length) none)[i]?=some (some m)->∃u,(fG N vs)[i]?=some (some u)/\fS K O H m u:=λi m e=>by
  by_cases hi:i<args.length
  .rw[Lh (by simpa using hi),Kx]at e;cases U:args[i]? with
   |none=>rw[U]at e;cases e
   |some m' =>
    rw[U]at e;cases e;obtain⟨u,J,q⟩:=jt h U;refine⟨u,?_,q⟩;unfold L2.fG;rw[Lh (by rw[tr,<- Z];exact hi),Kx,J]
    rfl
  .rw[Lu (by simpa using hi),LX]at e;split at e<;>cases e
 refine⟨ae.refl H,Y,λa ha=>ha,Y,by unfold L2.fG;simp[Z],λi m e=>?_,λi j xs ys a _ e _ S _=>?_
  ,nw λi m e=>by
   obtain⟨u,J,q⟩:=get i _ e;cases m<;>first|rfl|exact q.elim
  ⟩
 .obtain⟨u,J,q⟩:=get i m e;refine⟨u,J,?_⟩;cases m with
  |val v=>exact q
  |own _=>exact q.elim
  |ownO _ _ _=>exact q.elim
  |brwO _ _=>exact q
  |brw ys=>exact q
  |ownD _=>exact q.elim
  |brwD _=>exact q
 .obtain⟨u,J,q⟩:=get i _ e;cases xs with
  |own _=>exact q.elim
  |ownD _=>exact q.elim
  |ownO _ _ _=>exact q.elim
  |brwO _ _=>cases S
  |val _=>cases S
  |brw _=>cases S
  |brwD _=>cases S
def lx(h:Paired F args vs):∀(i:Nat) m,(args.map some++replicate (N.length-args.length) none)[i]?=some (some m)->args[i]?=some m/\∃u,vs[i]?=some u/\(fG N vs)[i]?=some (some u)/\F m u:=λi m e=>by
 have U:=Paired.length h;by_cases hi:i<args.length
 .rw[Lh (by simpa using hi),Kx]at e;cases J:args[i]? with
  |none=>rw[J]at e;exact bn e
  |some Y =>
   rw[J]at e;cases e;refine ag (jt h J) λu S q=>?_
   refine⟨rfl,u,S,?_,q⟩;unfold L2.fG;rw[Lh (by rw[tr,<- U];exact hi),Kx,S]
   rfl
 .rw[Lu (by simpa using hi),LX]at e;split at e<;>cases e
section
variable{T:Tab}{P:Program}{w:World}{K:MP}{mg:Str->Option Value}{base:Heap}{ds:List MD}
theorem lR{K:MP}{O:List Addr}{H:Hp}:∀{as:List MV}{ws:List V}{i:Nat}{m:MV},Paired (fS K O H) as ws->as[i]?=some m->fk m=true->False
 | _,_,i,m,.nil,e,_=>by cases i<;>cases e
 | _,_,0,m,.cons x _,e,o=>by
  cases e;cases m<;>first|(cases o;done)|exact x
 | _,_,i+1,m,.cons _ t,e,o=>lR t (by simpa using e) o
def zr{K:MP}{O:List Addr}{H B:Hp}{m:MV}{u:V}(J:ah B O=ah H O)(h:fS K O B m u):fj K B O H m u:=by
 cases m with
 |val v=>rw[show fS K O B (.val v) u=Rep K (ah B O) v u from rfl,J]at h;exact h
 |brw xs=>obtain⟨c,us,e,q,r⟩:=h;rw[J]at r;exact⟨c,us,e,q,r⟩
 |brwD d=>exact h
 |brwO fs xs=>obtain⟨c,e,q⟩:=h;rw[J]at q;exact⟨c,e,q⟩
 |own _=>exact h.elim
 |ownD _=>exact h.elim
 |ownO _ _ _=>exact h.elim
def xc{K:MP}{H:Hp}{O:List Addr}{a l:Addr}{ws:List V}{fs xs:List PV}{as:List MV}{N:List Str}(hO:∀b∈O,H b≠none)(q:cm K (λ_=>none) O H fs xs a l)(r:Paired (fS K O (eY H [a,l])) as ws) :
  a7 K (eY H [a,l]) (O.filter λb=>decide (b∉[a,l])) O H ((.ownO true fs xs::as).map some++replicate (N.length-(MV.ownO true fs xs::as).length) none) (fG N (.ref a::ws)):=by
 have hh:=oY (H:=H) q.aO q.lO;have U:Paired (λ(m:MV) (u:V)=>(m=.ownO true fs xs/\u=.ref a)\/fS K O (eY H [a,l]) m u) (.ownO true fs xs::as) (.ref a::ws):=.cons (.inl ⟨rfl,rfl⟩) (nE (λ_ _ h=>.inr h) r);have hl:=Paired.length U;have key:∀(i:Nat) (m:MV),((.ownO true fs xs::as).map some++replicate (N.length-(MV.ownO true fs xs::as).length) none)[i]?=some (some m)->fk m=true->i=0:=λi m e o=>by
  obtain⟨Y,u,S,Z,q⟩:=lx U i m e;cases i with
  |zero=>rfl
  |succ i =>
   rw[getElem?_cons_succ]at Y;exact(lR r Y o).elim
 refine⟨λb u e=>?_,hO,λb hb=>(Kw.mp hb).1,λb hb=>?_,by unfold L2.fG;simp at hl ⊢;omega,λi m e=>?_,λi j m m' c ar e1 e2 o1 o2 s1 s2=>ar ((key i m e1 o1).trans (key j m' e2 o2).symm),λi m0 a2 l2 e1 l0 e2 e3 j m aP ej=>?_⟩
 .unfold eY at e;split at e
  .cases e
  .exact e
 .obtain⟨h1,h2⟩:=Kw.mp hb;unfold eY;rw[if_neg (KQ h2)];exact hO b h1
 .obtain⟨Y,u,S,Z,J⟩:=lx U i m e;refine⟨u,Z,?_⟩;rcases J with⟨rfl,rfl⟩|J
  .refine⟨a,l,rfl,q.move (ae.refl _) (λ_ h=>h) (λ_ h=>h) q.aO q.lO ?_ ?_⟩
   .unfold eY;rw[if_pos (by simp)]
   .unfold eY;rw[if_pos (by simp)]
  .exact zr hh J
 .have o0:fk m0=true:=by cases m0<;>first|(cases l0;done)|rfl
  have hi:=key i m0 e1 o0;obtain⟨Y,u,S,Z,J⟩:=lx U j m ej;rcases J with⟨rfl,rfl⟩|J
  .exact absurd ((key j _ ej rfl).trans hi.symm) aP
  .cases m<;>first|exact J.elim|exact⟨rfl,λc o=>by cases o⟩
structure HP(T:Tab)(P:Program)(w:World)(K:MP)(mg:Str->Option Value)(base:Heap)(ds:List MD)(n g:Nat)(fa:Addr)(fd:FuncData)(ps:List Str):Prop where
 m:bw P w K mg base CX0 n fa fd ps (spM K (ab ds n) g)
 f:bw P w K mg base CX0 n fa fd ps (spF K (ab ds n) g)
 t:bw P w K mg base CX0 n fa fd ps (spT K (ab ds n) g)
theorem gp(Y:ds.length<=1000)
  (Z:ia T K mg ds)
 :∀(n f:Nat) (d:MD),ds[f]?=some d->∀st fa fd,pi T K mg st d fa fd->HP T P w K mg base ds n f fa fd d.params
 |0,f,d,hd,st,fa,fd,D=>{
   m:=⟨λvs H Q E h=>(by obtain⟨O,args,r,_,_,e,_⟩:=h;exact absurd e (by simp[ab])),λA outer s H args us vs Q E _ _ _ _ h=>(by obtain⟨O,args,r,_,_,e,_⟩:=h;exact absurd e (by simp[ab]))⟩
   f:=⟨λvs H Q E h=>(by obtain⟨O,args,r,_,_,e,_⟩:=h;exact absurd e (by simp[ab])),λA outer s H args us vs Q E _ _ _ _ h=>(by obtain⟨O,args,r,_,_,e,_⟩:=h;exact absurd e (by simp[ab]))⟩
   t:=⟨λvs H Q E h=>(by obtain⟨O,a,l,fs,xs,as,ws,v,ys,_,_,_,_,e,_⟩:=h;exact absurd e (by simp[ab])),λA outer s H args us vs Q E _ _ _ _ h=>(by obtain⟨O,a,l,fs,xs,as,ws,v,ys,_,_,_,_,e,_⟩:=h;exact absurd e (by simp[ab]))⟩
   }
 |n+1,f,d,hd,st,fa,fd,D=>by
  obtain⟨c0,d0,k0,o0,m0,a0,bt,t1,a1,sl,lk,hc,rfl⟩:=D.fn.it;have hf:f<1000:=wh (uM.mp hd).1 Y;have hn:ds[f+1000]?=none:=MJ (by omega);have bT:ds[f+3000]?=none:=MJ (by omega);have gg:∀{CX:CXT}{A:Around}{outer:_}{s:Shared}{H:Hp}{E:_},_->Gf (cU CX P w K mg base d.names d.name (af st) fa bt A outer s H E).nox T n (ab ds n):=λ{CX A outer s H E} hr=>{
   calm:=rfl
   room:=hr
   fns:=λf' x J hp=>by
    rw[Z.tab,Kx]at J;cases hd2:ds[f']? with
    |none=>rw[hd2]at J;cases J
    |some d2 =>
     rw[hd2]at J;cases J;obtain⟨hm,bK⟩:=mw hp;obtain⟨l2,aH,S,U,el,D2,bd⟩:=Z.defs.get hd2;rcases D2.named with⟨_,nd⟩|⟨m,em,_⟩
     .exact⟨S,U,d2.params,by rw[bK];exact nd,D2.fn.kp,D2.binds,(gp Y Z n f' d2 hd2 aH S U D2).m,λl hl=>by rw[el]at hl;cases hl;exact bd⟩
     .rw[hm]at em;cases em
   cls:=λC h=>⟨(Z.cls C h).cls,(Z.cls C h).nf,(Z.cls C h).nt⟩
   meths:=λf' m J C hC=>by
    rw[Z.tabM,Kx]at J;cases hd2:ds[f']? with
    |none=>rw[hd2]at J;cases J
    |some d2 =>
     rw[hd2]at J;have J:d2.meth=some m:=uW J;obtain⟨l2,aH,S,U,el,D2,bd⟩:=Z.defs.get hd2;rcases D2.named with⟨em,_⟩|⟨m',em,nd⟩
     .rw[J]at em;cases em
     .rw[J]at em;cases em;exact⟨S,U,d2.params,nd C hC,D2.binds,(gp Y Z n f' d2 hd2 aH S U D2).m⟩
   methsT:=λf' m J C hC=>by
    rw[Z.tabM,Kx]at J;cases hd2:ds[f']? with
    |none=>rw[hd2]at J;cases J
    |some d2 =>
     rw[hd2]at J;have J:d2.meth=some m:=uW J;obtain⟨l2,aH,S,U,el,D2,bd⟩:=Z.defs.get hd2;rcases D2.named with⟨em,_⟩|⟨m',em,nd⟩
     .rw[J]at em;cases em
     .rw[J]at em;cases em;exact⟨S,U,d2.params,nd C hC,D2.binds,(gp Y Z n f' d2 hd2 aH S U D2).t⟩
   lvl:=λh=>dH.mono hr (zq Y h)
   ini:=λ_=>by
    obtain⟨C,h1,h2,fa,fd,ps,h3,h4,h5,h6⟩:=Z.ini;exact⟨C,h1,h2,fa,fd,ps,h3,h4,h5 _ _ _,h6⟩
   blt:=Z.blt
   gs:=Z.gs
   fnsF:=λf' x J hp=>by
    rw[Z.tab,Kx]at J;cases hd2:ds[f']? with
    |none=>rw[hd2]at J;cases J
    |some d2 =>
     rw[hd2]at J;cases J;obtain⟨hm,bK⟩:=mw hp;obtain⟨l2,aH,S,U,el,D2,bd⟩:=Z.defs.get hd2;rcases D2.named with⟨_,nd⟩|⟨m,em,_⟩
     .exact⟨S,U,d2.params,by rw[bK];exact nd,D2.fn.kp,D2.binds,(gp Y Z n f' d2 hd2 aH S U D2).f⟩
     .rw[hm]at em;cases em
   }
  have df:∀{CX:CXT}{A:Around}{outer:_}{s:Shared}{H:Hp}{E:_},Df (cU CX P w K mg base d.names d.name (af st) fa bt A outer s H E).nox:=λ{CX A outer s H E}=>⟨D.scope.nd,λ_=>rfl,PassesOwn.never,by
    have hk:(cU CX P w K mg base d.names d.name (af st) fa bt A outer s H E).nox.env.scope.kind=.function:=D.scope.kind;unfold Env.blockKind;rw[hk]
    rfl
    ⟩
  refine {
   m:=?_
   f:=?_
   t:=?_
   }
  .refine ez lk hc D.scope (λvs H Q E h=>?_) (λA outer s H vs Q E hr h=>?_)
   .obtain⟨O,args,r,_,hp,e,_⟩:=h;rw[<- (nJ hd e).1];exact(Paired.length hp).symm
   .obtain⟨O,args,r,hO,hp,e,q⟩:=h;obtain⟨hl,b6⟩:=nJ hd e;refine⟨_,(soundSs (gg hr) df d.body (aK st) D.body).nox,H,O,O,_,nL hO hp,?_⟩;rcases b6 with⟨G,he,rfl⟩|he|⟨xs,he,rfl⟩
    .rw[he];exact λb7 H' O' a5 _=>q _ H' a5.keep (qm _)
    .rw[he];exact λu H' s' r'=>q u H' s' r'
    .rw[he];refine λp us H' s' bP bR r'=>q _ H' s' ?_
     rw[Rep];refine⟨p,us,rfl,SqL.of ?_,Reps.mono kC _ r'⟩;rw[aV λz=>hO p z bP];exact bR
  .refine ez lk hc D.scope (λvs H Q E h=>?_) (λA outer s H vs Q E hr h=>?_)
   .obtain⟨O,args,r,_,hp,e,_⟩:=h;rw[<- (lQ hf hn hd e).1];exact(Paired.length hp).symm
   .obtain⟨O,args,xs,hO,hp,e,q⟩:=h;obtain⟨hl,ys,he,ey⟩:=lQ hf hn hd e;cases ey;refine⟨_,(soundSs (gg hr) df d.body (aK st) D.body).nox,H,O,O,_,nL hO hp,?_⟩;rw[he];exact λp us H' s' bP bR r'=>q p us H' s' bP bR r'
  .refine ez lk hc D.scope (λvs H Q E h=>?_) (λA outer s H vs Q E hr h=>?_)
   .obtain⟨O,a,l,fs,xs,as,ws,v,ys,rfl,_,_,r,e,_⟩:=h;rw[<- (nK hf bT hd e).1];simp[Paired.length r]
   .obtain⟨O,a,l,fs,xs,as,ws,v,ys,rfl,hO,q,r,e,kq⟩:=h;obtain⟨hl,v',G,he,ee⟩:=nK hf bT hd e;obtain⟨rfl,fs',e0⟩:=BQ ee;refine⟨_,(soundSs (gg hr) df d.body (aK st) D.body).nox,eY H [a,l],_,O,_,xc hO q r,?_⟩;rw[he];intro b7 H' O' a5 k';obtain⟨⟨cd,e1⟩,es⟩:=k'.mutO 0 fs' ys e0;have cz:fs'=fs:=by
     have e1:some (some (MV.ownO true fs xs))=some (some (MV.ownO true fs' cd)):=e1;cases e1
     rfl
    subst cz;obtain⟨u,eu,a',l',rfl,q2⟩:=a5.slot 0 _ e0;have ea:a'=a:=by
     rw[eu]at es;have es:some (some (V.ref a'))=some (some (V.ref a)):=es;cases es
     rfl
    subst ea;have lB:=q2.lB;refine kq l' H' (λb o n1 n2 eb=>a5.keep b o ?_) ?_ (q2.move (aQ (ae.refl _) λb hb=>.inl ?_) (λ_ h=>h) (λ_ h=>h) (KJ _ (Kw.mpr ⟨q.aO,Ks q.ne⟩)) K1 rfl rfl)
    .unfold eY;rw[if_neg λz=>by
      rcases nW.mp z with z|z
      .exact n1 z
      .exact n2 (KW.mp z)]
     exact eb
    .unfold eY at lB;split at lB
     .rename_i z;rcases nW.mp z with z|z
      .exact absurd z.symm q2.ne
      .exact .inl (KW.mp z)
     .exact .inr lB
    .rcases nW.mp hb with rfl|hb
     .exact q2.lO
     .obtain⟨h1,h2⟩:=Kw.mp hb;by_cases z:b=a'
      .subst z;exact q2.aO
      .refine k'.stay b ?_ h1;unfold eY;rw[if_neg λw=>by
        rcases nW.mp w with w|w
        .exact z w
        .exact KQ h2 (KW.mp w)]
       exact hO b h1
end
def BR{K:MP}{H:Hp}{J x C dx:Addr}{us:List V}{gs:List (Str×V)}{o:HO}(h:SqT K H J us)(S:H x=some (.ins C dx gs)):SqT K (upd H x o) J us:=by
 rcases h with(e|⟨o',e⟩)|e
 .have n:J≠x:=λz=>by rw[z,S]at e;cases e
  exact .inl (.inl (by rw[aA n];exact e))
 .have n:J≠x:=λz=>by rw[z,S]at e;cases e
  exact .inl (.inr ⟨o',by rw[aA n];exact e⟩)
 .exact .inr e
def kE{x:Str}{v:V}{gs:List (Str×V)}{n:Nat}(h:gs.length<=n):(dE x v gs).length<=n+1:=by
 induction gs generalizing n with
 |nil=>exact Nat.succ_le_succ (KN _)
 |cons p gs ih =>
  obtain⟨y,w⟩:=p;show(if y=x then(y,v)::gs else(y,w)::dE x v gs).length<=_;cases n with
  |zero=>cases h
  |succ n =>
   have:=ih (Ma h);have:=Ma h;split
   .simp only[length_cons];omega
   .simp only[length_cons];omega
def Ft{K:MP}{C J:Addr}(h:IsC K C)(c:vK K C)(h':IsC K J):vK K J:=by
 have:=h'.symm.trans h;cases this;exact c
def CV {K:MP}{C:Addr} (n0:PySem.W.findIn K (.ref C) "hole_count"=some none) (n1:PySem.W.findIn K (.ref C) "ribbons"=some none) (n2:PySem.W.findIn K (.ref C) "opener"=some none) (x:Str) (J:x∈jo):cA K C x:=by
 simp only[jo,nW,xm,Ky]at J;rcases J with rfl|rfl|rfl
 .exact n0
 .exact n1
 .exact n2
end MM
namespace MM
open PySem List Option
noncomputable abbrev ofS(J:List Int):PV:=.tup (J.map .int)
noncomputable abbrev ofR(R:List (List Int)):PV:=.tup (R.map ofS)
noncomputable abbrev ofL(ns:List Int):PV:=.lst (ns.map .int)
theorem gS:∀ns,cR (ns.map .int)=some ns
 | []=>rfl
 |n::ns=>by simp[cR,gS ns]
theorem pj:∀R,nu (R.map ofS)=some R
 | []=>rfl
 |t::R=>by simp[nu,gS,pj R]
theorem nO:∀ns,gu (ns.map .bl)=some ns
 | []=>rfl
 |n::ns=>by simp[gu,nO ns]
def pk(h:ns.length<64):iH (ns.map .int)=some (ofL (sortI ns)):=by
 unfold iH;rw[if_pos (by simpa using h),gS]
def iX{R:List (List Int)}(h:R.length<64):iH (R.map ofS)=some (.lst ((sortT R).map ofS)):=by
 unfold iH;rw[if_pos (by simpa using h)];cases R with
 |nil=>rfl
 |cons t R =>
  have:cR ((t::R).map ofS)=none:=rfl;rw[this];simp only[pj,map_some]
theorem cZ{α:Type}{g:α->PV}{c:PV->Option Bool}{f:PV->Option PV}{p:α->Bool}{h:α->PV}:∀{xs:List α},(∀x∈xs,c (g x)=some (p x))->(∀x∈xs,p x=true->f (g x)=some (h x))->fJ c f (xs.map g)=some ((xs.filter p).map h)
 | [],_,_=>rfl
 |x::xs,hc,hf=>by
  rw[KI,fJ,hc x (.head _),bind_some];have ih:=cZ (xs:=xs) (λy J=>hc y (.tail _ J)) (λy J=>hf y (.tail _ J));cases S:p x<;>simp_all
def uF{α:Type}{g:α->PV}{c:PV->Option Bool}{f:PV->Option PV}{h:α->PV}{xs:List α}(hc:∀x∈xs,c (g x)=some true)(J:∀x∈xs,f (g x)=some (h x)):fJ c f (xs.map g)=some (xs.map h):=by
 rw[cZ (p:=λ_=>true) hc (λx S _=>J x S),Mh.mpr λ_ _=>rfl]
def Fu(a b)(J:List Int):((b==a)||decide (a∈J))=decide (a=b\/a∈J):=by grind
def Fv(a b)(J:List (List Int)):(decide (b=a)||decide (a∈J))=decide (a=b\/a∈J):=by grind
@[simp] theorem mx(n)(i j):eqF n (.int i) (.int j)=some (i==j):=by cases n<;>rfl
theorem dz(h):∀J:List Int,isIn (.int h) (J.map .int)=some (decide (h∈J))
 | []=>rfl
 |t::J=>by
  have ih:=dz h J;unfold isIn at ih ⊢;rw[KI,inL,ih];simp only[mx,bind_some,map_some,nW,Fu]
theorem nQ(n):∀a b:List Int,eqL (eqF n) (a.map .int) (b.map .int)=some (decide (a=b))
 | [],[]=>rfl
 | [],_::_=>rfl
 | _::_,[]=>rfl
 |x::a,y::b=>by
  rw[KI,KI,eqL,nQ n a b];simp only[mx,bind_some,map_some]
  congr 1
  rw[K8];simp
def zt(n)(a b):eqF (n+1) (ofS a) (ofS b)=some (decide (a=b)):=nQ n a b
def HQ(n:Nat)(a b:List Int):eqF (n+1) (ofL a) (ofL b)=some (decide (a=b)):=by
 show(if (a.map PV.int).length=(b.map PV.int).length then eqL (eqF n) (a.map .int) (b.map .int)else some false)=_;rw[nQ];split
 .rfl
 .rename_i h
  congr 1
  exact(KH λe=>h (by rw[e])).symm
theorem CY(n):∀a b:List (List Int),eqL (eqF (n+1)) (a.map ofS) (b.map ofS)=some (decide (a=b))
 | [],[]=>rfl
 | [],_::_=>rfl
 | _::_,[]=>rfl
 |x::a,y::b=>by
  rw[KI,KI,eqL,CY n a b,zt]
  simp_all
def HR(n)(a b):eqF (n+2) (ofR a) (ofR b)=some (decide (a=b)):=CY n a b
theorem uG(h):∀J:List (List Int),isIn (ofS h) (J.map ofS)=some (decide (h∈J))
 | []=>rfl
 |t::J=>by
  have ih:=uG h J;unfold isIn at ih ⊢;rw[KI,inL,ih,zt 99];simp only[bind_some,map_some,nW,Fv]
noncomputable def dA:R->Option PV
 | .next _=>some .non
 | .ret v=>some v
 | .retF xs=>some (.lst xs)
 | _=>none
def aI(hd:ds[f]?=some d)(J:args.length=d.params.length):ab ds (n+1) f args=dA (exs (ab ds n) d.body (args.map some++replicate (d.names.length-args.length) none)):=by
 rw[ab,hd];simp[J]
 rfl
noncomputable def Fw:R->Option PV
 | .retT v G=>wQ v G
 | _=>none
def xg{ds:List MD}{n f:Nat}{d:MD}{args:List MV}(S:f<1000)(hn:ds[f+3000]?=none)(hd:ds[f]?=some d)(J:args.length=d.params.length):ab ds (n+1) (f+3000) args=Fw (exs (ab ds n) d.body (args.map some++replicate (d.names.length-args.length) none)):=by
 rw[ab,hn];dsimp only;rw[if_neg (by omega),if_pos (by omega)];rw[L0,hd];simp only[J,if_true];unfold Fw
 rfl
@[simp] theorem Gj(xs)(k):(R.retF xs).andThen k=.retF xs:=rfl
@[simp] theorem Gk(v):ce (some (.val v))=some v:=rfl
@[simp] theorem Gm(v):ce (some (.own v))=some (.lst v):=rfl
@[simp] theorem Gn(v):ce (some (.brw v))=some (.lst v):=rfl
@[simp] theorem Fx(v):ce (some (.ownD v))=some (.dI v):=rfl
@[simp] theorem Fy(v):ce (some (.brwD v))=some (.dI v):=rfl
@[simp] theorem Fz(v):gj (some (.ownD v))=some (.brwD v):=rfl
@[simp] theorem FA(v):gj (some (.brwD v))=some (.brwD v):=rfl
@[simp] theorem FB(v):eD (some (.ownD v))=some (.brwD v):=rfl
@[simp] theorem FC(v):eD (some (.brwD v))=some (.brwD v):=rfl
@[simp] theorem JZ(i):sc? (.int i)=some (.int i):=rfl
@[simp] theorem Ko(i):sc? (.bl i)=some (.bl i):=rfl
@[simp] theorem J0:sc? .non=some .non:=rfl
@[simp] theorem J1(i):(Sc.int i).pv=.int i:=rfl
@[simp] theorem Kp(i):(Sc.bl i).pv=.bl i:=rfl
@[simp] theorem Go(v):yu (some (.val v))=some v:=rfl
@[simp] theorem Gp(v):gj (some (.val v))=some (.val v):=rfl
@[simp] theorem Gq(v):gj (some (.own v))=some (.brw v):=rfl
@[simp] theorem Gr(v):gj (some (.brw v))=some (.brw v):=rfl
@[simp] theorem Gs(v):eD (some (.val v))=some (.val v):=rfl
@[simp] theorem Gu(v):eD (some (.own v))=some (.brw v):=rfl
@[simp] theorem Gv(v):eD (some (.brw v))=some (.brw v):=rfl
@[simp] theorem Gw(b):be (.bl b)=some b:=rfl
@[simp] theorem qB(i j):iu .add (.int i) (.int j)=some (.int (i+j)):=rfl
@[simp] theorem Jh(i j):iu .sub (.int i) (.int j)=some (.int (i-j)):=rfl
@[simp] theorem Ji(i j):iu .mul (.int i) (.int j)=if (-(2 ^ 64)<i/\i<2 ^ 64)\/(-(2 ^ 64)<j/\j<2 ^ 64)then some (.int (i*j))else none:=rfl
@[simp] theorem zu(i j):iu .fdiv (.int i) (.int j)=if 0<j/\j<1073741824 then some (.int (i / j))else none:=rfl
@[simp] theorem du(i j):iu .mod (.int i) (.int j)=if 0<j then some (.int (i % j))else none:=rfl
@[simp] theorem Jj(x y):iu .add (.lst x) (.lst y)=if x.length+y.length<=10000 then some (.lst (x++y))else none:=rfl
@[simp] theorem J2(i j):cT .lt (.int i) (.int j)=some (decide (i<j)):=rfl
@[simp] theorem J3(i j):cT .le (.int i) (.int j)=some (decide (i<=j)):=rfl
@[simp] theorem J4(i j):cT .gt (.int i) (.int j)=some (decide (j<i)):=rfl
@[simp] theorem J5(i j):cT .ge (.int i) (.int j)=some (decide (j<=i)):=rfl
@[simp] theorem zv(x y):cT .eq x y=eqF 100 x y:=rfl
@[simp] theorem J6(x y):cT .ne x y=if tY x y=true then(eqF 100 x y).map (λp=>!p)else none:=rfl
@[simp] theorem qC(x):cT .isN x .non=some (iw x):=rfl
@[simp] theorem HS(x):cT .notN x .non=some (!iw x):=rfl
@[simp] theorem BS(x)(xs):cT .isIn x (.tup xs)=isIn x xs:=rfl
@[simp] theorem Jk(x)(xs):cT .isIn x (.lst xs)=isIn x xs:=rfl
@[simp] theorem HU(x)(xs):cT .notIn x (.tup xs)=(isIn x xs).map λp=>!p:=rfl
@[simp] theorem HV(x)(xs):cT .notIn x (.lst xs)=(isIn x xs).map λp=>!p:=rfl
@[simp] theorem J7(n)(i j):eqF n (.bl i) (.bl j)=some (i==j):=by cases n<;>rfl
@[simp] theorem qD(n)(i j):eqF n (.str i) (.str j)=some (i==j):=by cases n<;>rfl
@[simp] theorem Jl(x y):tY (.tup x) (.tup y)=true:=rfl
@[simp] theorem Jm(x y):tY (.lst x) (.lst y)=true:=rfl
@[simp] theorem Jn(x y):tY (.int x) (.int y)=true:=rfl
@[simp] theorem Jo(x y:Str):tY (.str x) (.str y)=true:=rfl
@[simp] theorem BT(x):cx (.tup x)=some x:=rfl
@[simp] theorem mz(x):cx (.lst x)=some x:=rfl
@[simp] theorem HW(x):aY .len [.tup x]=some (.int x.length):=rfl
@[simp] theorem HX(x):aY .len [.lst x]=some (.int x.length):=rfl
@[simp] theorem HY(x):aY .len [.dI (.k x)]=some (.int x.length):=rfl
@[simp] theorem Jp(x):aY .tupleOf [x]=(cx x).map .tup:=rfl
@[simp] theorem HZ(x):aY .listOf [x]=(cx x).map .lst:=rfl
@[simp] theorem ju(x):aY .sorted [x]=(cx x).bind iH:=rfl
@[simp] theorem BU(x):aY .any [.lst x]=(gu x).map λbs=>.bl (bs.any id):=rfl
@[simp] theorem Jq(x):aY .all [.lst x]=(gu x).map λbs=>.bl (bs.all id):=rfl
@[simp] theorem H_(i):aY .intOf [.int i]=some (.int i):=rfl
@[simp] theorem Ia(b):aY .intOf [.bl b]=some (.int (if b then 1 else 0)):=rfl
@[simp] theorem Jr(i):isD (.int i)=false:=rfl
@[simp] theorem J8(i):isD (.bl i)=false:=rfl
@[simp] theorem Js(i):isD (.str i)=false:=rfl
@[simp] theorem Jt(i):isD (.tup i)=false:=rfl
@[simp] theorem Ju(i):isD (.lst i)=false:=rfl
@[simp] theorem Jv:isD .non=false:=rfl
@[simp] theorem Gx(x):aY .isInt [x]=if isD x=true then none else some (.bl (isT .isInt x)):=rfl
@[simp] theorem Av(i):isT .isInt (.int i)=true:=rfl
@[simp] theorem BV(i):isT .isInt (.bl i)=true:=rfl
@[simp] theorem Aw(i):isT .isInt (.str i)=false:=rfl
@[simp] theorem Ax(i):isT .isInt (.lst i)=false:=rfl
@[simp] theorem Ay(i):isT .isInt (.tup i)=false:=rfl
@[simp] theorem Az:isT .isInt .non=false:=rfl
@[simp] theorem FD(x):aY .isBool [x]=if isD x=true then none else some (.bl (isT .isBool x)):=rfl
@[simp] theorem zw(i):isT .isBool (.int i)=false:=rfl
@[simp] theorem AA(i):isT .isBool (.bl i)=true:=rfl
@[simp] theorem zx(i):isT .isBool (.str i)=false:=rfl
@[simp] theorem zy(i):isT .isBool (.lst i)=false:=rfl
@[simp] theorem zz(i):isT .isBool (.tup i)=false:=rfl
@[simp] theorem zA:isT .isBool .non=false:=rfl
@[simp] theorem Gy(x):aY .isStr [x]=if isD x=true then none else some (.bl (isT .isStr x)):=rfl
@[simp] theorem AB(i):isT .isStr (.int i)=false:=rfl
@[simp] theorem BW(i):isT .isStr (.bl i)=false:=rfl
@[simp] theorem AC(i):isT .isStr (.str i)=true:=rfl
@[simp] theorem AD(i):isT .isStr (.lst i)=false:=rfl
@[simp] theorem AE(i):isT .isStr (.tup i)=false:=rfl
@[simp] theorem AF:isT .isStr .non=false:=rfl
@[simp] theorem FE(x):aY .isList [x]=if isD x=true then none else some (.bl (isT .isList x)):=rfl
@[simp] theorem zB(i):isT .isList (.int i)=false:=rfl
@[simp] theorem AG(i):isT .isList (.bl i)=false:=rfl
@[simp] theorem zC(i):isT .isList (.str i)=false:=rfl
@[simp] theorem zD(i):isT .isList (.lst i)=true:=rfl
@[simp] theorem zE(i):isT .isList (.tup i)=false:=rfl
@[simp] theorem zF:isT .isList .non=false:=rfl
@[simp] theorem CZ(x):aY .isTuple [x]=if isD x=true then none else some (.bl (isT .isTuple x)):=rfl
@[simp] theorem xt(i):isT .isTuple (.int i)=false:=rfl
@[simp] theorem zG(i):isT .isTuple (.bl i)=false:=rfl
@[simp] theorem xu(i):isT .isTuple (.str i)=false:=rfl
@[simp] theorem xv(i):isT .isTuple (.lst i)=false:=rfl
@[simp] theorem xy(i):isT .isTuple (.tup i)=true:=rfl
@[simp] theorem xz:isT .isTuple .non=false:=rfl
@[simp] theorem Ib(xs):aY .max1 [.lst xs]=(cR xs).bind λns=>(Ha ns).map .int:=rfl
@[simp] theorem FF(d):aY .valuesOf [.dI d]=if (vj d).length<=10000 then some (.lst (vj d))else none:=rfl
@[simp] theorem zH(kvs):aY .sortedKeys [.dI (.k kvs)]=if kvs.length<64 then some (ofL (sortI (kvs.map (·.1))))else none:=rfl
@[simp] theorem J9(kvs)(i):wO (.dI (.k kvs)) (.int i)=some (bF kvs i):=rfl
@[simp] theorem J_(kvs)(ns):wO (.dI (.t kvs)) (.tup (ns.map .int))=some (bF kvs ns):=by
 show(cR _).map _=_;rw[gS]
 rfl
@[simp] theorem Ka(kvs)(i)(s):tZ (.k kvs) (.int i) s=if kvs.length<10000 then some (.k (de kvs i s))else none:=rfl
@[simp] theorem Kb(kvs)(ns)(s):tZ (.t kvs) (.tup (ns.map .int)) s=if kvs.length<10000 then some (.t (de kvs ns s))else none:=by
 show((cR _).bind λk=>if kvs.length<10000 then some _ else none)=_;rw[gS]
 rfl
@[simp] theorem Jw(p q):cT .isN (.bl p) (.bl q)=some (p==q):=rfl
@[simp] theorem Ic(p q):cT .notN (.bl p) (.bl q)=some (!(p==q)):=rfl
@[simp] theorem BX(xs):aY .tupleRev [.lst xs]=some (.tup xs.reverse):=rfl
@[simp] theorem AH(x):aY .sortedSet [x]=(cx x).bind λxs=>(cR xs).bind λns=>if ns.length<=4000/\(dd ns).length<64 then some (.lst ((sortI (dd ns)).map .int))else none:=rfl
@[simp] theorem Ie(x)(i):jU (.lst x) (.int i)=(gh x.length i).bind λj=>x[j]?:=rfl
@[simp] theorem Kq(x)(i):jU (.tup x) (.int i)=(gh x.length i).bind λj=>x[j]?:=rfl
@[simp] theorem Jx(x)(lo hi):gi (.lst x) lo hi=some (.lst (cut x lo hi)):=rfl
@[simp] theorem Jy(i j):bnd (.cst (.int i)) (.int j)=some (some j):=rfl
@[simp] theorem vL(x):cB .seq [x]=cx x:=rfl
def BY(j):cB .rng [.int j]=if -(2 ^ 62)<=j/\j<2 ^ 62 then some ((range j.toNat).map λk=>.int ((0:Int)+k))else none:=rfl
@[simp] theorem bi(G)(k):(R.next G).andThen k=k G:=rfl
@[simp] theorem Ig(v)(k):(R.ret v).andThen k=.ret v:=rfl
@[simp] theorem Ih(k):R.bad.andThen k=.bad:=rfl
@[simp] theorem Ii(G)(k):(R.brk G).andThen k=.brk G:=rfl
@[simp] theorem Gz(G)(k):(R.cont G).andThen k=.cont G:=rfl
@[simp] theorem FG(v)(k):dQ (some v) k=k v:=rfl
@[simp] theorem fZ(v)(k):yw (some v) k=k v:=rfl
@[simp] theorem FH(v)(k):iy (some v) k=k v:=rfl
@[simp] theorem GA(v):dA (.ret v)=some v:=rfl
@[simp] theorem FJ(G):dA (.next G)=some .non:=rfl
@[simp] theorem f6(a)(l)(m):put (a::l) 0 m=some m::l:=rfl
@[simp] theorem f7(a)(l)(n)(m):put (a::l) (n+1) m=a::put l n m:=rfl
@[simp] theorem eJ(src)(J G):(R.next G).back src J=.next (br src J G):=rfl
@[simp] theorem Ij(src)(J)(v):(R.ret v).back src J=.ret v:=rfl
@[simp] theorem GB(body)(G):bA body [] G=.next G:=rfl
def f8(h0:0<=j)(h1:j<4611686018427387904):cB .rng [.int j]=some ((range j.toNat).map λk=>.int (k:Int)):=by
 rw[BY,if_pos ⟨by omega,by exact ‹_›⟩]
 congr 1
 simp_all
def fc{n:Nat}{i:Int}(h0:0<=i)(h:i<n):gh n i=some i.toNat:=by unfold gh;rw[if_pos h0,if_pos h]
def leT(a b:List Int):Prop:=lexLt b a=false
theorem sortI_perm(l):(sortI l).Perm l:=by rw[eZ];exact L2.Srt.sortI_perm l
theorem sortT_perm(l):(sortT l).Perm l:=by rw[fU];exact L2.Srt.sortT_perm l
def sortI_len(l):(sortI l).length=l.length:=(sortI_perm l).length_eq
def sortT_len(l):(sortT l).length=l.length:=(sortT_perm l).length_eq
def gU :x∈sortI l ↔ x∈l:=(sortI_perm l).mem_iff
def eK :x∈sortT l ↔ x∈l:=(sortT_perm l).mem_iff
theorem sortI_rises(l):(sortI l).Pairwise (· <= ·):=by rw[eZ];exact L2.Srt.sortI_rises l
theorem sortT_rises(l):(sortT l).Pairwise leT:=by
 rw[fU];exact(L2.Srt.sortT_rises l).imp λh=>by unfold leT;rw[kz];exact h
theorem sortI_id(h:l.Pairwise (· <= ·)):sortI l=l:=by rw[eZ];exact L2.Srt.sortI_id h
theorem sortT_id(h:l.Pairwise leT):sortT l=l:=by
 rw[fU];exact L2.Srt.sortT_id (h.imp λh=>by unfold leT at h;rw[kz]at h;exact h)
theorem sortT_of_perm(p:a.Perm b):sortT a=sortT b:=by rw[fU,fU];exact L2.Srt.sortT_of_perm p
theorem sortI_of_perm(p:a.Perm b):sortI a=sortI b:=by rw[eZ,eZ];exact L2.Srt.sortI_of_perm p
def sk(h:l.Nodup):(sortI l).Pairwise (· < ·):=by
 have h1:=sortI_rises l;have h2:=(sortI_perm l).nodup_iff.mpr h;exact(h1.and h2).imp λJ=>qT J λa b=>by omega
def iK{l:List Int}(h:l.Pairwise (· < ·)):l.Nodup:=h.imp λ{a b} q=>by omega
def lS(J:List Int):Prop:=J.Pairwise (· < ·)/\∀h∈J,0<=h/\h<=59
def dg(R:List (List Int)):Prop:=(∀J∈R,lS J)/\R.Pairwise leT/\R.length<=60
theorem qE:∀(n:Nat) (l:List Int),l.Nodup->(∀x∈l,0<=x/\x<(n:Int))->l.length<=n
 |0,l,_,h=>by
  cases l with
  |nil=>simp
  |cons x r=>have:=h x (.head _);omega
 |n+1,l,hn,h=>by
  have h1:=qE n (l.filter λx=>decide (x≠(n:Int))) (hn.filter _) (λx J=>by
   obtain⟨h2,h3⟩:=Kw.mp J;have h4:=KQ h3;have:=h x h2;omega)
  have h2:∀l:List Int,l.Nodup->l.length<=(l.filter λx=>decide (x≠(n:Int))).length+1:=by
   intro l
   induction l with
   |nil=>intro _;simp
   |cons x r ih =>
    intro hn;by_cases e:x=(n:Int)
    .have S:r.filter (λx=>decide (x≠(n:Int)))=r:=Mh.mpr λy U=>Ks λz=>(KP.mp hn).1 (by rw[e,<- z];exact U)
     rw[Mn (by simp[e]),S];simp
    .rw[filter_cons_of_pos (by simp[e])];have:=ih (KP.mp hn).2;simp only[length_cons];exact(Mr ‹_›)
  have:=h2 l hn;omega
def ly(h:lS J):J.length<=60:=qE 60 J (iK h.1) λx S=>by have:=h.2 x S;omega
noncomputable def gX(ns:List Int)(lo hi:Option Int):List Int:=(ns.drop (jd ns.length 0 lo)).take (jd ns.length ns.length hi-jd ns.length 0 lo)
@[simp] theorem Ik(ns)(lo hi):cut (ns.map .int) lo hi=(gX ns lo hi).map .int:=by
 unfold cut gX
 simp_all
def zI(ns)(ha:0<=a)(J:0<=b):(gX ns (some a) (some b)).length<=(b-a).toNat:=by
 unfold gX;rw[L8,Mi];have S:jd ns.length ns.length (some b)=min b.toNat ns.length:=by show(if b<0 then _ else _)=_;rw[if_neg (Int.not_lt.mpr J)]
 have U:jd ns.length 0 (some a)=min a.toNat ns.length:=by show(if a<0 then _ else _)=_;rw[if_neg (Int.not_lt.mpr ha)]
 rw[S,U];obtain⟨A,rfl⟩:=Int.eq_ofNat_of_zero_le ha;obtain⟨B,rfl⟩:=Int.eq_ofNat_of_zero_le J;rw[Int.toNat_sub,Int.toNat_natCast,Int.toNat_natCast];refine xw (Nat.min_le_left _ _) ?_;rcases Nat.le_total A ns.length with h|h
 .rw[Nat.min_eq_left h];exact Nat.sub_le_sub_right (Nat.min_le_left _ _) A
 .rw[Nat.min_eq_right h,Nat.sub_eq_zero_of_le (Nat.min_le_right _ _)];exact KN _
def vM(ns:List Int)(lo hi:Option Int):(gX ns lo hi).length<=ns.length:=by
 unfold gX;rw[L8,Mi];omega
end MM
structure PySem.W.Fast:Prop where (tw7167188376070926207 tw17103963616477224854 tw483170138330813424 tw12580780017132676744 tw16933590114775322974 tw9775682328761133343 tw10196658193134561109 tw11269686985561509985 tw8438552241264233531 tw11634905000659600398 tw5096509672589789450 tw10036760985073331733 tw11845910881574863961 tw13739483159477964107 tw15795983733209836887 tw223373985780372245 tw9322768904598645861 tw407969162725150408 tw8301157850374457861 tw2775903187137249453 tw3414876511222814924 tw14570540254266169709 tw5410768464522294944 tw13746821370780216468 tw11375929143353569955 tw10455650364917716353 tw18022080293476931481 tw17920600849414398053 tw17621826433232122717 tw1622652943295599531 tw14038889858692106293 tw5673862158503303756 tw963157491763301376 tw9731019956479616037 tw5481331316787289715 tw6024238396417509231 tw18385418859394970352 tw11962227022804204853 tw6615398783298474717 tw15142394324792699273 tw5052500119532087089 tw1717712950073480096 tw17131142885378067126 tw1170122738347396875 tw12821034829700580606 tw6352433504072858752 tw16945971173914183119 tw15854204199139217240 tw1427347634123380296 tw10633531638947140983 tw4802043129642407697 tw17127744505359176833 tw6280334589893023825 tw12327366207438851227 tw8305562996077779562 tw11308611484565862318 tw18250077397556723339 tw9450084705146559334 tw12102900656414324648 tw14068128828254704569 tw4314349188698488307 tw7225525314623404024 tw2851169544449558705 tw1064175547794016513 tw3156262792432230036 tw6173717006269812344 tw12454145767858608661 tw17360992179655291055 tw886793321451432114 tw18159660949350377358 tw11445359603799672654 tw16584425520032111912 tw17047911419912598929 tw9079936740976982773 tw6265745681791809444 tw3775950269864626204 tw10230495653224927059 tw5430890753855044183 tw259850575101910870 tw7002410378550691153 tw5827558379263245493 tw16959328680448659451 tw2605528763217423783 tw6658089511412616154 tw13548858892915279547 tw6672740259275161400 tw14364139555624050226 tw1723420292656257784 tw8865764618660556757 tw4518988755370369019 tw3163326910588345061 tw6196766153157268885 tw15989332316537015587 tw8421756065443059330 tw1206482041025783377 tw6091200203661183821 tw14937700917717426654 tw10375263890748133376 tw17326719150969224903 tw7390956619637318376 tw15881559472830228367 tw3094981895283005571 tw8847980828981891564 tw11610712005204982536 tw2774138200166504265 tw15530758297646322759 tw13316004298808736148 tw1667687724249714452 tw2181922411329981698 tw10732699618510544334 tw17019729399503578759 tw12358374206646173218 tw13985578865740548143 tw16269828201305740541 tw6005377308664532736 tw18036501063345980257 tw13298280023439570633 tw2016494215576888231 tw13910791889476794381 tw10451300609281082970 tw15024901657396373864 tw5010021519635723887 tw14352735427102070487 tw10132665657080462438 tw662887023263453152 tw8619260236701092366 tw11219152106746640717 tw7905952009446634913 tw14877713944093220112 tw16865635489936542592 tw17867508641098229067 tw12301439052572185748 tw1216202061568794678 tw2791052182186033856 tw12760097521661967780 tw16352541580481122825 tw13019124534144122739 tw950924711782990151 tw3304007600193776579 tw17257353417679304238 tw4079566574611578953 tw5683526361559026083 tw10594710002223878177 tw16109281795259516673 tw6251974809386901270 tw12839139309602741198 tw12470317655495503119 tw1049337984402928918 tw12504121079209400837 tw14259853411207801433 tw17508268504625655809 tw14169512475450280257 tw7029301313984871328 tw14090200631867012971 tw12347724114223885897 tw11137152416505959664 tw7261830505879839270 tw6278773156513631682 tw11411554361587765121 tw1010117475138474357 tw15766473077377418000 tw9490109403321840502 tw1759486765998717523 tw13880401635800436344 tw17281383258335252854 tw5804434333281544326 tw17837788585947871721 tw11168172930621976060 tw15300518935467664683 tw2462222558138089877 tw9098668286897157150 tw12583448169276621173 tw5643500691766839906 tw6137343091352157320 tw15870119366776051536 tw15432489633579252837 tw9519669452604867650 tw16240905876411426121 tw16430937281919904955 tw2149068773227321429 tw5933519857110924123 tw9941834579751325528 tw1076678443986400071 tw7440474594502053416 tw18296820994388076044 tw12684674940790763437 tw7307029763732283726 tw254958542969502997 tw971077103883711354 tw436178472875151105 tw12559892240368495323 tw2063574517577794408 tw1916675263959122294 tw18186193371977443552 tw8343256367373282510 tw189535867479123232 tw12063009024202920043 tw6420076162080667818 tw3900306232105235139 tw14721377104041270963 tw1078623541700328846 tw5517880960903874769 tw17955696485442199467 tw5210284429761205920 tw8448196921816008968 tw4517812260675674260 tw14227388841567214878 tw13302678699106884488 tw1204790276816678190 tw17776133507018904590 tw8921088286041783347 tw9531647349058541206 tw11775615250412275348 tw14780060628160956275 tw15195777787985850214 tw15571198627248680600 tw2789882836151364716 tw12329942102547535177 tw6220927512073749299 tw5436054757146312727 tw4393474390250055378 tw6226804879575393204 tw3829010542906756883 tw11577711529819866749 tw17837192335578227839 tw9964440389200825932 tw1672004805745179324 tw17406425981624267961 tw7785812288543833016 tw11833396339055670436 tw14112520028275028774 tw16348215897906601102 tw14858233927043806358 tw10872801701548309759 tw9953324806239178304 tw4358419154658306700 tw13540551492773833231 tw4264661129298924024 tw14808976953074961975 tw9483275705069893864 tw16106872910548221497 tw11131021790856654653 tw5209293159755558093 tw9657206139268058116 tw18446534689725933018 tw13238514321618529313 tw370199724154805871 tw14039387619942317105 tw676717693478645074 tw16938506845691925002 tw10935193826890383738 tw8800408032209500207 tw2611299908233460462 tw273469397952210906 tw11875614150750211457 tw10729758744342447669 tw9723615923360638595 tw10767595266623356105 tw17512484957952898830 tw17291457766860898050 tw6125511791377456095 tw5994597190525288316 tw3420529513171017184 tw6542396006884894971 tw10659408681113276503 tw5476244519742199799 tw17708202471921050749 tw6206384916767711936 tw677950809790016724 tw11676576288998490787 tw13061807192612217332 tw1663289601924049618 tw6023753471420703840 tw1825526825365826341 tw18149604636088247514 tw5977936094893488393 tw15566633191447119849 tw14810542123225448485 tw12683071785221519001 tw13070440970696333131 tw2939556363810037853 tw784718604149906933 tw2823084101615430094 tw17569044925963527851 tw8487770565995911168 tw10699320155330819945 tw14829529778085366471 tw10553030324020564706 tw9493325268390287950 tw15987954991230672147 tw12460936240120448690 tw16111853469255044101 tw13539699717649692820 tw9905669771969006183 tw6134879498161042105 tw17841789226577496823 tw17509783435327836400 tw15281915734182290929 tw14136168182171725364 tw5400191572342469758 tw16607846985127801486 tw8591527386727993660 tw15285848443825808254 tw5392412798173666644 tw5946307284595478743 tw5463724958341904163 tw5907836200693457424 tw3506930659549030533 tw8584728992615904998 tw16797177013508156938 tw17646482110679647166 tw2672729164974548792 tw17374986754287697239 tw18275517621544347828 tw18347086052841586358 tw4813483795194494306 tw1747365097041476307 tw1444569221220926425 tw13036630853368541080 tw10835248506220678750 tw6449323413180747904 tw5964085411603125750 tw5021842920054572376 tw1067580593795140877 tw16004522335681190311 tw14777970695903851219 tw11122458275049047680 tw7602940585777097215 tw2248805267947066384 tw10329382792950920337 tw4280290387921099975 tw1126710924312587087 tw8322551245606944739 tw11005209604931909525 tw12365760310854493289 tw4091815024538279391 tw11294546138595713873 tw10048120991421913154 tw4409054002368010422 tw5508685797157129233 tw11765583206469004642 tw13839619792887454577 tw11916174071658333952 tw12044009040723115229 tw12444186470984794800 tw15165465329058518601 tw10551364969573179380 tw14472308954869759513 tw11794716241683459987 tw74208969802106932 tw13617325983435248236 tw2193098180397323764 tw936175474754982714 tw10610863857297035592 tw4533615131406362840 tw7175024224881359329 tw10467760602454636748 tw9346719065590865346 tw9352917816387731020 tw17342172475126980330 tw2472982093208001972 tw9315706915371051799 tw1377192757671683538 tw18390683702062329303 tw17274875756863525117 tw9719179114892492698 tw558107571628966264 tw2135209942389825790 tw6444473114614347637 tw16450413661046599277 tw13149461972008611408 tw12459633008149721075 tw7978056875732524253 tw6919408282370328724 tw12231147993116215225 tw9862722416079392839 tw12552071160576512206 tw10475625440749884656 tw16384435890968826656 tw5333079519974377411 tw9598978647320847870 tw15788609897281658715 tw18376159729122300025 tw11671861683591513231 tw5105923801273431644 tw17473994805570784780 tw12582897211078501975 tw8126630679693706693 tw2683893411852918251 tw9442327103131455168 tw5865187127992798906 tw8208878489608911373 tw894774311809990383 tw3488746853017663046 tw1536780163114542048 tw11400490416724555065 tw16945044180721439309 tw3816395676302482347 tw7053537432999518598 tw1861620304129912539 tw8440205569017604254 tw13467534769745849093 tw17846683929871720521 tw10134413096909830112 tw564261081547309201 tw17783506921015782679 tw15673471888573141120 tw8165992495615997455 tw10833276798209559622 tw3689025338372111686 tw5157430359192179097 tw11686927424354172234 tw8566582251980470185 tw1154663884059682824 tw12661538181550069076 tw16748623278966221685 tw9692089282454994909 tw8269700105209136645 tw12937568830493975253 tw1836029699138388400 tw2734374890348536909 tw16995672093582493826 tw17936668282608297829 tw3661681711381729525 tw5455244851737744357 tw15481187040891958649 tw8449359442839305299 tw15976309766041370588 tw1023811010575189785 tw5982019862217845583 tw12228511767768523878 tw16791845817946596116 tw8603845092981698878 tw420999421453518306 tw13567512603534535165 tw13455097227715421085 tw6445030533827419924:True)
namespace My
open PySem L2 MM List Option
noncomputable abbrev ix(a:Nat)(b:Int):ME:=.idx (.bor a) (.cst (.int b))
noncomputable abbrev sv(x:PV):Option MV:=some (.val x)
abbrev LL:=List (List Int)
noncomputable abbrev ci(x:Int):ME:=.cst (.int x)
noncomputable abbrev cs(x:Str):ME:=.cst (.str x)
noncomputable def cr:MD:=⟨"is_number_below",["thing","bound"],["thing","bound"],
  [.ite (.or (.blt .isBool [.bor 0]) (.not (.blt .isInt [.bor 0])))
   [.ret (.cst (.bl false))]
   [],
  .ret (.chain .le .lt (ci 0) (.bor 0) (.bor 1))],none⟩
noncomputable def fo:MD:=⟨"strip_without",["strip","hole"],["strip","hole"],
  [.ret (.blt .tupleOf [(.comp .seq [.bor 0] [1] (.cmp .ne (.bor 0) (.bor 1)) (.var 0))])],none⟩
noncomputable def lz:MD:=⟨"knotted",["rest","hole"],["rest","hole"],
  [.ret (.blt .tupleOf [(.blt .sorted [(.comp .seq [.bor 0] [1] (.cst (.bl true)) (.call 1 [.bor 0,.bor 1]))])])],none⟩
noncomputable def nR:MD:=⟨"bitten",["rest","hole"],["rest","hole"],
  [.ret (.blt .tupleOf [(.comp .seq [.bor 0] [1] (.cmp .notIn (.bor 1) (.bor 0)) (.var 0))])],none⟩
noncomputable def jv:MD:=⟨"is_whole",["rest"],["rest"],
  [.ret (.cmp .isIn (.tup []) (.bor 0))],none⟩
noncomputable def lA:MD:=⟨"is_bare",["rest"],["rest"],
  [.ret (.cmp .eq (.blt .len [.bor 0]) (ci 0))],none⟩
noncomputable def ib:MD:=⟨"other_hand",["hand"],["hand"],
  [.ret (.ite (.cmp .eq (.bor 0) (cs "weaver")) (cs "moth") (cs "weaver"))],none⟩
noncomputable def nS:MD:=⟨"behind",["rest","hand","reply"],["rest","hand","reply"],
  [.ite (.cmp .isN (.bor 2) (.cst .non))
   [.ret (.var 0)]
   [],
  .ret (.ite (.cmp .eq (.bor 1) (cs "weaver")) (.call 2 [.bor 0,.bor 2]) (.call 3 [.bor 0,.bor 2]))],none⟩
noncomputable def f9:MD:=⟨"strip_weight",["strip"],["strip"],
  [.ret (.bin .shr (.glob "UNIT" (.int 1152921504606846976)) (.blt .len [.bor 0]))],none⟩
noncomputable def pq:List MS:=[.dput 1 (.bor 3) (.bin .add (.dget (.bor 1) (.bor 3) (ci 0)) (.call 8 [.bor 2]))]
noncomputable def pz:List MS:=[.for1 3 .seq [.bor 2] pq]
noncomputable def qF:MD:=⟨"pulls",["rest"],["rest","pull_of","strip","hole"],
  [.newD false 1,
  .for1 2 .seq [.bor 0] pz,
  .retOwn 1],none⟩
noncomputable def c7:List MS:=[.ite (.or (.cmp .isN (.bor 2) (.cst .non)) (.cmp .gt (.dat (.bor 1) (.bor 3)) (.dat (.bor 1) (.bor 2))))
   [.set 2 (.var 3)]
   []]
noncomputable def jw:MD:=⟨"heaviest",["rest"],["rest","pull_of","best","hole"],
  [.set 1 (.call 9 [.bor 0]),
  .set 2 (.cst .non),
  .for1 3 .seq [(.blt .sortedKeys [.bor 1])] c7,
  .ret (.var 2)],none⟩
noncomputable def ic:MD:=⟨"_law_cell",["script","k"],["script","k"],
  [.ite (.cmp .lt (.bor 1) (.blt .len [.bor 0]))
   [.ret (.idx (.bor 0) (.bor 1))]
   [],
  .ret (ci 0)],none⟩
noncomputable def iL:MD:=⟨"_law_mixed",["cell","by"],["cell","by"],
  [.ret (.bin .mod (.bin .mul (.bin .mod (.bor 0) (ci 2305843009213693951)) (.bor 1)) (ci 2305843009213693951))],none⟩
noncomputable def dm:List MS:=[.ite (.cmp .notIn (.bin .mod (.bor 3) (.bor 1)) (.bor 5))
   [.append 5 (.bin .mod (.bor 3) (.bor 1))]
   [],
  .set 3 (.bin .fdiv (.bor 3) (.bor 1))]
noncomputable def gq:MD:=⟨"_law_strip",["cell","many","most"],["cell","many","most","left","size","strip","k"],
  [.set 3 (.call 12 [.bor 0,(ci 1181783497276652981)]),
  .set 4 (.bin .mod (.bor 3) (.bin .add (.bor 2) (ci 1))),
  .set 3 (.bin .fdiv (.bor 3) (.bin .add (.bor 2) (ci 1))),
  .setOwn 5 (.lst []),
  .for1 6 .rng [.bor 4] dm,
  .ret (.blt .tupleOf [(.blt .sorted [.bor 5])])],none⟩
noncomputable def iM:MD:=⟨"_law_whole",["found"],["found"],
  [.ret (.and (.blt .isInt [.bor 0]) (.not (.blt .isBool [.bor 0])))],none⟩
noncomputable def gw:MD:=⟨"_law_ribbons",["script","count"],["script","count","some","strips"],
  [.ite (.cmp .eq (.bor 1) (ci 0))
   [.ret (.lst [])]
   [],
  .set 2 (.call 11 [.bor 0,(ci 1)]),
  .set 3 (.comp .seq [(.slice (.bor 0) (ci 3) (.bin .add (ci 3) (.bin .mod (.bor 2) (ci 9))))] [1,2] (.cst (.bl true)) (.call 13 [.bor 0,.bor 1,(.bin .add (ci 1) (.bin .mod (.bin .fdiv (.bor 2) (ci 9)) (ci 6)))])),
  .ret (.comp .seq [.bor 3] [] (.cmp .ne (.bor 0) (.tup [])) (.var 0))],none⟩
noncomputable def f_:MD:=⟨"_law_taken_by",["taken","begin"],["taken","begin"],
  [.ret (.blt .sorted [(.comp .rng [(.blt .len [.bor 0])] [0,1] (.cmp .eq (.bin .mod (.bor 0) (ci 2)) (.bor 2)) (.idx (.bor 1) (.bor 0)))])],none⟩
noncomputable def dX:List MS:=[.ite (.not (.blt .any [(.comp .seq [.bor 4] [2] (.cst (.bl true)) (.cmp .isIn (.bor 0) (.bor 1)))]))
   [.append 3 (.blt .tupleOf [(.comp .seq [.bor 4] [1] (.cmp .notIn (.bor 0) (.bor 1)) (.var 0))])]
   []]
noncomputable def ie:MD:=⟨"_law_left",["ribbons","knots","bites"],["ribbons","knots","bites","strips","ribbon"],
  [.setOwn 3 (.lst []),
  .for1 4 .seq [.bor 0] dX,
  .ret (.blt .tupleOf [(.blt .sorted [.bor 3])])],none⟩
noncomputable def gY:MD:=⟨"_law_won",["strips"],["strips"],
  [.ite (.cmp .isIn (.tup []) (.bor 0))
   [.ret (cs "weaver")]
   [],
  .ite (.cmp .eq (.bor 0) (.tup []))
   [.ret (cs "moth")]
   [],
  .ret (.cst .non)],none⟩
noncomputable def ig:List MS:=[.dput 2 (.bor 3) (.cst (.bl true))]
noncomputable def jx:MD:=⟨"_law_free",["count","taken"],["count","taken","marks","hole"],
  [.newD false 2,
  .for1 3 .seq [.bor 1] ig,
  .ret (.comp .rng [.bor 0] [2] (.dIn true (.bor 0) (.bor 1)) (.var 0))],none⟩
noncomputable def iN:MD:=⟨"_law_share",["strip"],["strip"],
  [.ret (.idx (.lst [(ci 256),(ci 128),(ci 64),(ci 32),(ci 16),(ci 8),(ci 4),(ci 2),(ci 1)]) (.blt .len [.bor 0]))],none⟩
noncomputable def iO:List MS:=[.set 3 (.bin .mod (.bor 2) (.bin .pow (ci 10) (ci 60))),
  .ite (.cmp .eq (.bin .mod (.blt .len [.bor 1]) (ci 3)) (ci 2))
   [.set 3 (.bin .sub (.neg (ci 1)) (.bor 3))]
   [],
  .append 1 (.var 3)]
noncomputable def lC:MD:=⟨"_law_row",["cells"],["cells","row","cell","number"],
  [.setOwn 1 (.lst []),
  .for1 2 .seq [.bor 0] iO,
  .retOwn 1],none⟩
noncomputable def kF:List MS:=[.dput 1 (.bor 3) (.bin .add (.dget (.bor 1) (.bor 3) (ci 0)) (.call 20 [.bor 2]))]
noncomputable def kG:List MS:=[.for1 3 .seq [.bor 2] kF]
noncomputable def ij:List MS:=[.ite (.cmp .gt (.dget (.bor 1) (.bor 3) (ci 0)) (.bor 5))
   [.set 4 (.var 3),
   .set 5 (.dat (.bor 1) (.bor 3))]
   []]
noncomputable def jy:MD:=⟨"_law_best",["strips"],["strips","pulls_v","strip","hole","best","most"],
  [.newD false 1,
  .for1 2 .seq [.bor 0] kG,
  .set 4 (.cst .non),
  .set 5 (ci 0),
  .for1 3 .rng [(ci 60)] ij,
  .ret (.var 4)],none⟩
noncomputable def lD:MD:=⟨"_law_due",["free","row","done","left"],["free","row","done","left","placed","best"],
  [.set 4 (ix 0 0),
  .ite (.cmp .lt (.bor 2) (.blt .len [.bor 1]))
   [.set 4 (.idx (.bor 0) (.bin .mod (.idx (.bor 1) (.bor 2)) (.blt .len [.bor 0])))]
   [],
  .set 5 (.call 22 [.bor 3]),
  .ite (.cmp .isN (.bor 5) (.cst .non))
   [.set 5 (ix 0 0)]
   [],
  .ret (.lst [(ix 0 0),.var 4,.var 5])],none⟩
noncomputable def dY:MD:=⟨"_law_left_behind",["ribbons","taken","begin"],["ribbons","taken","begin"],
  [.ret (.call 17 [.bor 0,(.call 16 [.bor 1,.bor 2]),(.call 16 [.bor 1,(.bin .sub (ci 1) (.bor 2))])])],none⟩
noncomputable def cN:MD:=⟨"Table.hand_at",["self","place"],["self","place"],
  [.ret (.ite (.cmp .eq (.bin .mod (.bor 1) (ci 2)) (ci 0)) (.fld 0 2) (.call 6 [.fld 0 2]))],some "hand_at"⟩
noncomputable def ik:MD:=⟨"Table.turn",["self"],["self"],
  [.ret (.callM 25 0 [(.blt .len [.fldL 0])])],some "turn"⟩
noncomputable def gz:MD:=⟨"Table.deeds",["self"],["self"],
  [.ret (.blt .listOf [.fldL 0])],some "deeds"⟩
noncomputable def il:MD:=⟨"Table.free",["self"],["self"],
  [.ret (.comp .rng [.fld 0 0] [0] (.cmp .notIn (.bor 0) (.fldL 1)) (.var 0))],some "free"⟩
noncomputable def dZ:List MS:=[.set 1 (.call 7 [.bor 1,(.callM 25 0 [.bor 2]),.bor 3])]
noncomputable def fA:MD:=⟨"Table.rest",["self"],["self","left","place","hole"],
  [.set 1 (.fld 0 1),
  .forT [2,3] .enm [.fldL 0] dZ,
  .ret (.var 1)],some "rest"⟩
noncomputable def cE:MD:=⟨"Table.winner",["self"],["self","left"],
  [.set 1 (.callM 29 0 []),
  .ite (.call 4 [.bor 1])
   [.ret (cs "weaver")]
   [],
  .ite (.call 5 [.bor 1])
   [.ret (cs "moth")]
   [],
  .ret (.cst .non)],some "winner"⟩
noncomputable def fB:MD:=⟨"Table.take",["self","hole"],["self","hole"],
  [.ite (.cmp .notN (.callM 30 0 []) (.cst .non))
   [.never]
   [],
  .ite (.not (.call 0 [.bor 1,.fld 0 0]))
   [.never]
   [],
  .ite (.inO false (.bor 1) 0)
   [.never]
   [],
  .appO 0 (.var 1),
  .retT (.callM 30 0 [])],some "take"⟩
noncomputable def defs:List MD:=[cr,fo,lz,nR,jv,lA,ib,nS,f9,qF,jw,ic,iL,gq,iM,gw,f_,ie,gY,jx,iN,lC,jy,lD,dY,cN,ik,gz,il,fA,cE,fB]
noncomputable def kH:MD:=⟨"law",["script"],["script","count","ribbons","left","some","begin","mine","row","handed","players","table","taken","done","cell","hand","free","due","hole"],[],none⟩
noncomputable def eM:MD:=⟨"play_out",["table","weaver","moth"],["table","weaver","moth","hand","hole"],[],none⟩
noncomputable def c8:MD:=⟨"_law_picked",["players","table","due","order"],["players","table","due","order","k","which","found","again"],[],none⟩
noncomputable def eN:MD:=⟨"_law_told",["players","hand","hole"],["players","hand","hole","player"],[],none⟩
noncomputable def c9:MD:=⟨"_law_walked",["count","ribbons","begin","taken","rows","weighs"],["count","ribbons","begin","taken","rows","weighs","done","left","which","due","hole"],[],none⟩
noncomputable def c_:MD:=⟨"_law_played",["script","count","ribbons","begin"],["script","count","ribbons","begin","table","taken","cell","free","rows","weighs","moth","won"],[],none⟩
noncomputable def bD:MD:=⟨"_law_classes",["players"],["players"],[],none⟩
noncomputable def tab:Tab:=⟨defs.map zp,[("UNIT",(.int 1152921504606846976))],[[],[],[],[],[],[],[],[],[],[],[],[],[],[],[],[],[],[],[],[],[],[],[],[],[],[],[],[],[],[],[],[]],defs.map (·.meth)⟩
noncomputable def cellOf(ns:List Int)(k:Int):Int:=ns.getD k.toNat 0
def qG(n:Nat)(m:MV)(ns:List Int)(k:Int)(hm:ce (some m)=some (ofL ns))(h0:0<=k):ab defs (n+1) 11 [m,.val (.int k)]=some (.int (cellOf ns k)):=by
 rw[aI (d:=ic) rfl rfl];unfold cellOf;simp[ic,exs,ex,ev,evs,evB,hm];by_cases h:k<(ns.length:Int)
 .have h2:k.toNat<ns.length:=by omega
  simp[h,fc h0 h,h2]
 .have h2:ns.length<=k.toNat:=by omega
  simp[h,h2]
def fC(h:(evs cal src G).bind (cB k)=some xs):ex cal (.for1 i k src body) G=(bA (λx A=>exs cal body (put A i (.val x))) xs (ca src G)).back src G:=by
 rw[ex,h]
def bj(cal)(m)(ms)(G):exs cal (m::ms) G=(ex cal m G).andThen λA=>exs cal ms A:=rfl
def bz(h:ev cal e G=some v):ev cal (.blt b [e]) G=aY b [v]:=by
 rw[ev,evs,h,bind_some,evs,map_some,bind_some]
def im(h:ev cal e G=some v):ex cal (.set i e) G=.next (put G i (.val v)):=by
 rw[ex,h];rfl
def uH(h:ev cal a G=some (.bl p))(h':p=true->ev cal b G=some (.bl q)):ev cal (.and a b) G=some (.bl (p&&q)):=by
 rw[ev,h];cases p<;>first|rfl|simp[h' rfl]
def zJ(h:ev cal e G=some v):ex cal (.ret e) G=.ret v:=by
 rw[ex,h];rfl
def aX(h:evA cal es G=some vs)(h':cal f vs=some v):ev cal (.call f es) G=some v:=by
 rw[ev,h,bind_some,h']
def xh(h:ev cal e G=some (.lst xs)):ex cal (.setOwn i e) G=.next (put G i (.own xs)):=by
 rw[ex,h];rfl
def qH{α:Type}{xs:List α}{g h:α->PV}(h1:evs cal src G=some vs)(h2:cB k vs=some (xs.map g))(J:xs.length<=10000)
  (h3:∀x∈xs,ev cal elt (eF js G (g x))=some (h x)):ev cal (.comp k src js (.cst (.bl true)) elt) G=some (.lst (xs.map h)):=by
 rw[ev,h1,bind_some,h2,bind_some,if_pos (by simpa using J),uF (h:=h) (λx _=>by simp[ev]) h3]
 rfl
def cH(cal)(v)(G):ev cal (.cst v) G=some v:=rfl
def bM(h:ev cal a G=some x)(h':ev cal b G=some y):ev cal (.bin op a b) G=iu op x y:=by
 rw[ev,h,bind_some,h',bind_some]
def di(h:ev cal a G=some x)(h':ev cal b G=some y):ev cal (.cmp op a b) G=(cT op x y).map .bl:=by
 rw[ev,h,bind_some,h',bind_some]
def sn(h:ev cal a G=some (.int x))(J:0<k):ev cal (.cmp .eq (.bin .mod a (ci k)) (ci j)) G=some (.bl (x % k==j)):=by
 rw[di (bM h (cH _ _ _) |>.trans (by rw[du,if_pos J])) (cH _ _ _),zv,mx]
 rfl
def kI(h:ev cal a G=some (.int x))(J:0<k/\k<1073741824):ev cal (.bin .fdiv a (ci k)) G=some (.int (x / k)):=by
 rw[bM h (cH _ _ _),zu,if_pos J]
def zK(h:ev cal a G=some (.bl b)):evB cal a G=some b:=by simp_all [evB]
def vN{cal:Cal}{e:ME}{G:Rho}{v:PV}(hn:∀i,e≠.bor i)(h:ev cal e G=some v)(J:∀i,e≠.fldL i:=by intro i z;cases z):evA cal [e] G=some [.val v]:=by
 rw[evA,h,bind_some,evA]
 .rfl
 .exact λi z=>hn i z
 .exact λi z=>J i z
def sr{cal:Cal}{f:Nat}{e:ME}{G:Rho}{v r:PV}(hn:∀i,e≠.bor i)(h:ev cal e G=some v)(h':cal f [.val v]=some r)(J:∀i,e≠.fldL i:=by intro i z;cases z):ev cal (.call f [e]) G=some r:=aX (vN hn h J) h'
def fq(h:ev cal a G=some x)(h':ev cal i G=some y):ev cal (.idx a i) G=jU x y:=by
 rw[ev,h,bind_some,h',bind_some]
def ip(h:body x G=.next ρ1):bA body (x::xs) G=bA body xs ρ1:=by rw[bA,h]
def vO(h:ev cal e G=some v)(k:dA (exs cal ms (put G i (.val v)))=X):dA (exs cal (.set i e::ms) G)=X:=by simp_all [bj,im]
def jz(h:ex cal m G=.next A)(k:dA (exs cal ms A)=X):dA (exs cal (m::ms) G)=X:=by simp_all [bj]
def fg(h:ev cal e G=some v):dA (exs cal (.ret e::ms) G)=some v:=by
 rw[bj,zJ h];rfl
def je(h:ev cal e G=some v)(k:exs cal ms (put G i (.val v))=r):exs cal (.set i e::ms) G=r:=by
 rw[bj,im h,bi,k]
def uI(h:ex cal m G=.next A)(k:exs cal ms A=r):exs cal (m::ms) G=r:=by simp_all [bj]
def nU(h:ex cal m G=.next A):exs cal [m] G=.next A:=by
 rw[bj,h,bi,exs]
def lE(h:ev cal c G=some (.bl p)):ex cal (.ite c a b) G=if p=true then exs cal a G else exs cal b G:=by
 rw[ex,zK h,fZ]
def BZ(h:ev cal c G=some (.bl false))(k:dA (exs cal ms G)=X):dA (exs cal (.ite c a []::ms) G)=X:=by simp_all [lE,exs]
def lF{cal:Cal}{f:Nat}{as es:List ME}{G:Rho}{v:PV}{vs:List MV}(h:ev cal (.call f as) G=some v)(k:evA cal es G=some vs):evA cal (.call f as::es) G=some (.val v::vs):=by
 rw[evA,h,bind_some,k]
 .rfl
 .exact nofun
 .exact nofun
def C0{cal:Cal}{a i:ME}{es:List ME}{G:Rho}{v:PV}{vs:List MV}(h:ev cal (.idx a i) G=some v)(k:evA cal es G=some vs):evA cal (.idx a i::es) G=some (.val v::vs):=by
 rw[evA,h,bind_some,k]
 .rfl
 .exact nofun
 .exact nofun
def kJ(h:gj (G[i]?).join=some m)(k:evA cal es G=some vs):evA cal (.bor i::es) G=some (m::vs):=by simp_all [evA]
def Il(h:ev cal a G=some (.bl p)):ev cal (.not a) G=some (.bl (!p)):=by
 rw[ev,h];rfl
def Im(h:ev cal c G=some (.bl false))(k:exs cal ms G=r):exs cal (.ite c a []::ms) G=r:=by simp_all [lE,exs]
def Kc(h:ev cal a G=some (.bl p))(h':p=false->ev cal b G=some (.bl q)):ev cal (.or a b) G=some (.bl (p||q)):=by
 rw[ev,h];cases p<;>first|rfl|simp[h' rfl]
def Kd(h:isIn x xs=some p)(ha:ev cal a G=some x)(J:ev cal b G=some (.tup xs)):ev cal (.cmp .isIn a b) G=some (.bl p):=by
 rw[di ha J,BS,h];rfl
def C1(J:(G[i]?).join=some (.own xs))(h:ev cal e G=some v)(S:xs.length<10000):ex cal (.append i e) G=.next (put G i (.own (xs++[v]))):=by
 rw[ex,J,h];simp[S]
def B0(h:((xs.length:Int)==0)=p)(ha:ev cal a G=some (.tup xs)):ev cal (.cmp .eq (.blt .len [a]) (ci 0)) G=some (.bl p):=by
 rw[di (bz ha) (cH _ _ _),<- h];rfl
def Ke(h:ev cal e G=some (.lst xs)):(evs cal [e] G).bind (cB .seq)=some xs:=by simp_all [evs]
def gB(h:ev cal e G=some v)(k:evs cal es G=some vs):evs cal (e::es) G=some (v::vs):=by simp_all [evs]
def B1(h:evs cal es G=some vs)(J:vs.length<=10000:=by simp):ev cal (.tup es) G=some (.tup vs):=by
 rw[ev,h,bind_some,if_pos J]
def qI{cal:Cal}{a lo hi:ME}{G:Rho}{x y:PV}{l h:Option Int}(ha:ev cal a G=some x)(J:((ev cal lo G).bind λl=>bnd lo l)=some l)(S:((ev cal hi G).bind λv=>bnd hi v)=some h)(U:gi x l h=some y):ev cal (.slice a lo hi) G=some y:=by
 rw[ev,ha,bind_some,J,bind_some,S,bind_some,U]
def zL{cal:Cal}{c a b:ME}{G:Rho}{v:PV}(h:ev cal c G=some (.bl true))(k:ev cal a G=some v):ev cal (.ite c a b) G=some v:=by
 rw[ev,h];exact k
def zM{cal:Cal}{c a b:ME}{G:Rho}{v:PV}(h:ev cal c G=some (.bl false))(k:ev cal b G=some v):ev cal (.ite c a b) G=some v:=by
 rw[ev,h];exact k
def su{α:Type}{cal:Cal}{k:Sk}{src:List ME}{js:List Nat}{c elt:ME}{G:Rho}{vs:List PV}{xs:List α}{g h:α->PV}{p:α->Bool}(h1:evs cal src G=some vs)(h2:cB k vs=some (xs.map g))(J:xs.length<=10000)
  (h3:∀x∈xs,ev cal c (eF js G (g x))=some (.bl (p x))) (h4:∀x∈xs,p x=true->ev cal elt (eF js G (g x))=some (h x)):ev cal (.comp k src js c elt) G=some (.lst ((xs.filter p).map h)):=by
 rw[ev,h1,bind_some,h2,bind_some,if_pos (by rw[tr];exact J),cZ (p:=p) (h:=h) (λx m=>by rw[h3 x m];rfl) h4]
 rfl
def Io{cal:Cal}{a b:ME}{G:Rho}{x y:PV}{xs:List PV}{p:Bool}(h:isIn x xs=some p)(ha:ev cal a G=some x)(J:ev cal b G=some y)(S:cx y=some xs):ev cal (.cmp .notIn a b) G=some (.bl (!p)):=by
 rw[di ha J,show cT .notIn x y=((cx y).bind (isIn x)).map λp=>!p from rfl,S,bind_some,h];rfl
def C2{cal:Cal}{c:ME}{a b ms:List MS}{G A:Rho}{r:R}(h:ev cal c G=some (.bl true))(k:exs cal a G=.next A)(J:exs cal ms A=r):exs cal (.ite c a b::ms) G=r:=by
 rw[bj,lE h,if_pos rfl,k,bi,J]
noncomputable def dC(c b:Int):Int:=c % 2305843009213693951*b % 2305843009213693951
def B2(n:Nat)(c b:Int):ab defs (n+1) 12 [.val (.int c),.val (.int b)]=some (.int (dC c b)):=by
 rw[aI (d:=iL) rfl rfl];have h1:0<=c % 2305843009213693951:=Lc _ (by decide);have h2:c % 2305843009213693951<2305843009213693951:=K4 _ (by decide);have h3:(-18446744073709551616<c % 2305843009213693951/\c % 2305843009213693951<18446744073709551616\/-18446744073709551616<b/\b<18446744073709551616):=.inl ⟨by omega,by omega⟩;exact fg ((bM ((bM ((bM rfl rfl).trans rfl) rfl).trans (show iu .mul (.int (c % 2305843009213693951)) (.int b)=some (.int (c % 2305843009213693951*b))from if_pos h3)) rfl).trans rfl)
noncomputable def fD(J:Int):Nat->Int->List Int->List Int
 |0,_,acc=>acc
 |n+1,left,acc=>fD J n (left / J) (if left % J∈acc then acc else acc++[left % J])
theorem eO(J)(hm:0<J):∀n left S,S.Nodup->(∀h∈S,0<=h/\h<J)->(fD J n left S).Nodup/\(∀h∈fD J n left S,0<=h/\h<J)/\(fD J n left S).length<=S.length+n
 |0,_,S,h1,h2=>⟨h1,h2,by simp[fD]⟩
 |n+1,left,S,h1,h2=>by
  rw[fD];by_cases q:left % J∈S
  .rw[if_pos q];refine mC (eO J hm n (left / J) S h1 h2) λa b c=>?_
   exact⟨a,b,by exact(Nat.le_succ_of_le ‹_›)⟩
  .rw[if_neg q];obtain⟨a,b,c⟩:=eO J hm n (left / J) (S++[left % J]) (nodup_append.mpr ⟨h1,by simp,λx Y y Z=>by rw[KW.mp Z];exact λz=>q (z▸Y)⟩) (λh U=>by
    rcases Mt.mp U with U|U
    .exact h2 h U
    .rw[KW.mp U];exact⟨Lc _ (Int.ne_of_gt ‹_›),K4 _ hm⟩)
   exact⟨a,b,by rw[KU,length_singleton]at c;omega⟩
noncomputable def da(c J most:Int):List Int:=sortI (fD J (dC c 1181783497276652981 % (most+1)).toNat (dC c 1181783497276652981 / (most+1)) [])
theorem nV(cal)(c many most size)(S)(U:ce (some many)=some (.int S))(h1:0<S)(h2:S<1073741824):∀xs left J kk,J.length+xs.length<=10000 ->
  ∃Y Z,bA (λx A=>exs cal dm (put A 6 (.val x))) xs
   [some c,some many,some most,sv (.int left),some size,some (.own (J.map .int)),kk]=.next [some c,some many,some most,sv (.int Y),some size,some (.own ((fD S xs.length left J).map .int)),Z]
 | [],left,J,kk,_=>⟨left,kk,rfl⟩
 |x::xs,left,J,kk,hl=>by
  simp only[length_cons]at hl;rw[bA];have e:exs cal dm (put [some c,some many,some most,sv (.int left),some size,some (.own (J.map .int)),kk] 6 (.val x)) =
    .next [some c,some many,some most,sv (.int (left / S)),some size,some (.own ((if left % S∈J then J else J++[left % S]).map .int)),sv x]:=by
   by_cases q:left % S∈J
   .simp[dm,exs,ex,ev,evB,U,h1,h2,dz,q]
   .have ao:J.length<10000:=by exact(KD (Ll _ _) ‹_›)
    simp[dm,exs,ex,ev,evB,U,h1,h2,dz,q,ao]
  rw[e];obtain⟨l',k',e2⟩:=nV cal c many most size S U h1 h2 xs (left / S) (if left % S∈J then J else J++[left % S]) (sv x) (by
   split
   .exact(K9 ‹_›)
   .rw[KU,length_singleton];omega)
  exact⟨l',k',e2⟩
def B3(n:Nat)(c J most:Int)(h1:0<J)(h2:J<1073741824)(h3:0<=most)(h4:most<=60):ab defs (n+2) 13 [.val (.int c),.val (.int J),.val (.int most)]=some (ofS (da c J most)):=by
 rw[aI (d:=gq) rfl rfl];have Y:0<most+1:=by omega
 have U:most+1<1073741824:=by omega
 have q0:0<=dC c 1181783497276652981 % (most+1):=Lc _ (by omega);have q1:dC c 1181783497276652981 % (most+1)<most+1:=K4 _ Y;obtain⟨l',k',e⟩:=nV (ab defs (n+1)) (.val (.int c)) (.val (.int J)) (.val (.int most)) (.val (.int (dC c 1181783497276652981 % (most+1)))) J rfl h1 h2 ((range (dC c 1181783497276652981 % (most+1)).toNat).map λ(k:Nat)=>PV.int (k:Int)) (dC c 1181783497276652981 / (most+1)) [] none (by simp;omega);rw[tr,length_range]at e;obtain⟨g1,g2,Z⟩:=eO J h1 (dC c 1181783497276652981 % (most+1)).toNat (dC c 1181783497276652981 / (most+1)) [] K2 (λ_ h=>by cases h);have S:(fD J (dC c 1181783497276652981 % (most+1)).toNat (dC c 1181783497276652981 / (most+1)) []).length<64:=by simp at Z;omega
 simp only[map_nil]at e;simp[gq,exs,ex,ev,evs,evA,evB,B2,Y,U,ca,f8 q0 (by omega),e,br,pk S,da]
def uJ(c J most:Int)(h1:0<J)(h2:J<=60):lS (da c J most):=by
 obtain⟨a,b,_⟩:=eO J h1 (dC c 1181783497276652981 % (most+1)).toNat (dC c 1181783497276652981 / (most+1)) [] K2 (λ_ h=>by cases h);exact⟨sk a,λh S=>by have:=b h (gU.mp S);omega⟩
noncomputable def ay (b:Bool):PySem.Str:=if b=true then "moth" else "weaver"
def skip{cal:Cal}{i:Nat}{x y:PySem.Str}{G:Rho}{a:List MS}(hi:(G[i]?).join=sv (.str x))(h:(x==y)=false):ex cal (.ite (.cmp .eq (.bor i) (.cst (.str y))) a []) G=.next G:=by
 rw[ex,zK (b:=false) ((di (x:=.str x) (by rw[ev,hi];rfl) (cH _ _ _)).trans (by rw[zv,qD,h];rfl)),fZ,if_neg (by decide),exs]
noncomputable def i9:Option Int->PV
 |none=>.non
 |some i=>.int i
def B4(x h:Int):(x==h)=decide (x=h):=rfl
noncomputable def drp(h:Int)(J:List Int):List Int:=J.filter λx=>!decide (x=h)
noncomputable def sx(h:Int)(R:LL):LL:=sortT (R.map (drp h))
def zN(g:lS J):lS (drp h J):=⟨g.1.filter _,λx S=>g.2 x (Kw.mp S).1⟩
def xi{R:LL}(g:dg R):dg (sx h R):=by
 refine⟨λS hm=>?_,sortT_rises _,by unfold sx;rw[sortT_len,tr];exact g.2.2⟩;refine ag (mem_map.mp (eK.mp hm)) λt ht J=>?_
 subst J;exact zN (g.1 t ht)
def lX(n:Nat)(J:List Int)(h:Int)(S:J.length<=10000):ab defs (n+1) 1 [.val (ofS J),.val (.int h)]=some (ofS (drp h J)):=by
 rw[aI (d:=fo) rfl rfl];exact fg ((bz (su (xs:=J) (g:=.int) (h:=.int) (p:=λx=>!decide (x=h)) rfl rfl S (λ_ _=>rfl) λ_ _ _=>rfl)).trans rfl)
def xj(n:Nat)(R:LL)(h:Int)(g:dg R):ab defs (n+2) 2 [.val (ofR R),.val (.int h)]=some (ofR (sx h R)):=by
 rw[aI (d:=lz) rfl rfl];have J:(R.map (drp h)).length<64:=by rw[tr];exact KD g.2.2 (by decide)
 have e:=iX J;rw[KY]at e;have e:aY .sorted [.lst (R.map (ofS∘drp h))]=some (.lst ((sx h R).map ofS)):=e;exact fg ((bz ((bz (qH (xs:=R) (g:=ofS) (h:=ofS∘drp h) rfl rfl (xw g.2.2 (by decide)) λc hc=>aX rfl (lX n c h (xw (ly (g.1 c hc)) (by decide))))).trans e)).trans rfl)
noncomputable def B5(h:Int)(R:LL):LL:=R.filter λJ=>!decide (h∈J)
def xk{R:LL}(g:dg R):dg (B5 h R):=⟨λJ hm=>g.1 J (Kw.mp hm).1,g.2.1.filter _,xw (Lz _ _) g.2.2⟩
def zO(n:Nat)(R:LL)(h:Int)(S:R.length<=10000):ab defs (n+1) 3 [.val (ofR R),.val (.int h)]=some (ofR (B5 h R)):=by
 rw[aI (d:=nR) rfl rfl];exact fg ((bz (su (xs:=R) (g:=ofS) (h:=ofS) (p:=λJ=>!decide (h∈J)) rfl rfl S (λJ _=>Io (dz h J) rfl rfl rfl) λ_ _ _=>rfl)).trans rfl)
noncomputable def bhd(h:Bool)(R:LL):Option Int->LL
 |none=>R
 |some k=>if h=true then B5 k R else sx k R
def sy{R:LL}(g:dg R)(r):dg (bhd h R r):=by
 cases r<;>first|exact g|cases h with|true=>exact xk g|false=>exact xi g
def B6(n:Nat)(h:Bool):ab defs (n+1) 6 [.val (.str (ay h))]=some (.str (ay (!h))):=by
 rw[aI (d:=ib) rfl rfl];cases h<;>rfl
def zP(n:Nat)(R:LL)(g:dg R)(h:Bool)(r:Option Int):ab defs (n+3) 7 [.val (ofR R),.val (.str (ay h)),.val (i9 r)]=some (ofR (bhd h R r)):=by
 rw[aI (d:=nS) rfl rfl];cases r with
 |none=>rfl
 |some k =>
  have J:=xj n R k g;have S:=λn=>zO n R k (by have:=g.2.2;omega)
  cases h with
  |false=>exact BZ rfl (fg (zL rfl (aX (vs:=[.val (ofR R),.val (.int k)]) rfl J)))
  |true=>exact BZ rfl (fg (zM rfl (aX (vs:=[.val (ofR R),.val (.int k)]) rfl (S _))))
def uK(n:Nat)(R:LL):ab defs (n+1) 4 [.val (ofR R)]=some (.bl (decide ([]∈R))):=by
 rw[aI (d:=jv) rfl rfl];exact fg (Kd (uG [] R) rfl rfl)
def xl(n:Nat)(R:LL):ab defs (n+1) 5 [.val (ofR R)]=some (.bl (decide (R=[]))):=by
 rw[aI (d:=lA) rfl rfl];cases R with
 |nil=>rfl
 |cons t R =>
  have:¬ ((R.length:Int)+1=0):=by omega
  rw[KH (cons_ne_nil t R)];exact fg (B0 (KR.mpr (by rw[tr,length_cons];exact this)) rfl)
def kK{h x:Int}{J:List Int}:x∈drp h J ↔ x∈J/\x≠h:=by
 unfold drp;rw[Kw];simp
noncomputable def xn(R:LL)(d:Bool×Int):LL:=if d.1 then sx d.2 R else B5 d.2 R
def xo{R:LL}{d:Bool×Int}:∀J∈xn R d,d.2∉J:=by
 intro J h;unfold xn at h;split at h
 .obtain⟨t,_,rfl⟩:=mem_map.mp (eK.mp h);exact λz=>(kK.mp z).2 rfl
 .have:=(Kw.mp h).2;simpa using this
def uN{R:LL}{d:Bool×Int}{x:Int}(h:∀J∈R,x∉J):∀J∈xn R d,x∉J:=by
 intro J hm;unfold xn at hm;split at hm
 .obtain⟨t,ht,rfl⟩:=mem_map.mp (eK.mp hm);exact λz=>h t ht (kK.mp z).1
 .exact h J (Kw.mp hm).1
noncomputable def hat(o:Bool)(k:Nat):Bool:=if k % 2=0 then o else !o
noncomputable def lft(o:Bool):Nat->LL->List Int->LL
 | _,R,[]=>R
 |k,R,h::t=>lft o (k+1) (bhd (hat o k) R (some h)) t
theorem iP(o:Bool):∀(t:List Int) (k:Nat) {R:LL},dg R->dg (lft o k R t)
 | [],_,_,g=>g
 |x::t,k,R,g=>iP o t (k+1) (sy g (some x))
def sA(b:Bool)(R:LL)(h:Int):bhd b R (some h)=xn R (!b,h):=by cases b<;>rfl
theorem sB(o:Bool){R:LL}:∀(t:List Int) (k:Nat) (R:LL) (x:Int),((∀J∈R,x∉J)\/x∈t)->∀J∈lft o k R t,x∉J
 | [],k,R,x,h=>h.elim id λz=>by cases z
 |y::t,k,R,x,h=>by
  rw[lft,sA];refine sB (R:=R) o t (k+1) _ x ?_;rcases h with h|h
  .exact .inl (uN h)
  .rcases nW.mp h with rfl|h
   .exact .inl (xo (d:=(!hat o k,x)))
   .exact .inr h
theorem vP(o:Bool){P:Int->Prop}:∀(t:List Int) (k:Nat) (R:LL),(∀S∈R,∀x∈S,P x)->∀S∈lft o k R t,∀x∈S,P x
 | [],k,R,h=>h
 |y::t,k,R,h=>by
  rw[lft,sA];refine vP o t (k+1) _ λS J x U=>?_
  unfold xn at J;split at J
  .obtain⟨s,Y,rfl⟩:=mem_map.mp (eK.mp J);exact h s Y x (kK.mp U).1
  .exact h S (Kw.mp J).1 x U
noncomputable def bo (R:LL):Sc:=if []∈R then .str "weaver" else if R=[]then .str "moth" else .non
def pA(n:Nat)(c r:PV)(xs:List PV)(o:Bool)(k:Nat):ab defs (n+2) 25 [.brwO [c,r,.str (ay o)] xs,.val (.int (k:Nat))]=some (.str (ay (hat o k))):=by
 rw[aI (d:=cN) rfl rfl];have J:=B6 n o;by_cases h:k % 2=0
 .have h':((k:Int) % 2==0)=true:=by rw[Kt];omega
  simp[cN,exs,ex,ev,evs,evB,evA,lj,h',hat,h]
 .have h':((k:Int) % 2==0)=false:=by rw[KR];omega
  simp[cN,exs,ex,ev,evs,evB,evA,lj,h',hat,h,J]
theorem pB(n:Nat)(c r:PV)(xs:List PV)(o:Bool):∀(t:List Int) (k:Nat) (R:LL) (p h:Option MV),dg R ->
  ∃S h',bA (λx A=>iy (nv [2,3] x A) λJ=>exs (ab defs (n+3)) dZ J) (dN k (t.map .int)) [some (.brwO [c,r,.str (ay o)] xs),sv (ofR R),p,h]
  =.next [some (.brwO [c,r,.str (ay o)] xs),sv (ofR (lft o k R t)),S,h']
 | [],k,R,p,h,_=>⟨p,h,rfl⟩
 |x::t,k,R,p,h,g=>by
  have U:=pA (n+1) c r xs o k;have Y:=zP n R g (hat o k) (some x);have e:(iy (nv [2,3] (.tup [.int (k:Nat),.int x]) [some (.brwO [c,r,.str (ay o)] xs),sv (ofR R),p,h]) λJ=>exs (ab defs (n+3)) dZ J)
   =.next [some (.brwO [c,r,.str (ay o)] xs),sv (ofR (bhd (hat o k) R (some x))),sv (.int (k:Nat)),sv (.int x)]:=by
   simp[nv,t5,dZ,exs,ex,ev,evs,evA,lj,U,<- i9.eq_def,show PV.int x=i9 (some x)from rfl,Y]
  rw[KI,dN,ip e];obtain⟨S,h',q⟩:=pB n c r xs o t (k+1) _ (sv (.int (k:Nat))) (sv (.int x)) (sy g (some x));exact⟨S,h',q⟩
noncomputable abbrev tbl(c:Int)(R:LL)(o:Bool):List PV:=[.int c,ofR R,.str (ay o)]
def zQ(n:Nat)(c:Int)(R:LL)(o:Bool)(t:List Int)(g:dg R):ab defs (n+4) 29 [.brwO (tbl c R o) (t.map .int)]=some (ofR (lft o 0 R t)):=by
 rw[aI (d:=fA) rfl rfl];obtain⟨J,h',e⟩:=pB n (.int c) (ofR R) (t.map .int) o t 0 R none none g;simp[fA,exs,ex,ev,evs,evB,evA,lj,oV,cB,ca,e,br]
def kL(n:Nat)(c:Int)(R:LL)(o:Bool)(t:List Int)(g:dg R):ab defs (n+5) 30 [.brwO (tbl c R o) (t.map .int)]=some (bo (lft o 0 R t)).pv:=by
 rw[aI (d:=cE) rfl rfl];have J:=zQ n c R o t g;generalize lft o 0 R t=L at J;have S:=uK (n+3) L;have U:=xl (n+3) L;unfold bo;by_cases h:[]∈L
 .simp[cE,exs,ex,ev,evs,evB,evA,lj,J,S,h,Sc.pv]
 .by_cases h2:L=[]
  .subst h2;simp[cE,exs,ex,ev,evs,evB,evA,lj,J,S,U,Sc.pv]
  .simp[cE,exs,ex,ev,evs,evB,evA,lj,J,S,U,h,h2,Sc.pv]
def B7(n:Nat)(h c:Int):ab defs (n+1) 0 [.val (.int h),.val (.int c)]=some (.bl (decide (0<=h)&&decide (h<c))):=by
 rw[aI (d:=cr) rfl rfl];by_cases q:0<=h
 .simp[cr,exs,ex,ev,evs,evB,q]
 .simp[cr,exs,ex,ev,evs,evB,q]
def zR(n:Nat)(c:Int)(R:LL)(o:Bool)(t:List Int)(h:Int)(g:dg R)(hw:bo (lft o 0 R t)=.non)(h0:0<=h)(h1:h<c)(hn:h∉t)(Y:t.length<10000) :
  ab defs (n+6) (31+3000) [.ownO true (tbl c R o) (t.map .int),.val (.int h)]=some (.tup [(bo (lft o 0 R (t++[h]))).pv,.lst ((t++[h]).map .int)]):=by
 rw[xg (d:=fB) (by decide) rfl rfl rfl];have S:=kL n c R o t g;have Z:=B7 (n+4) h c;have J:=kL n c R o (t++[h]) g;have e4:(t++[h]).map PV.int=t.map PV.int++[PV.int h]:=by simp
 rw[hw,show Sc.non.pv=PV.non from rfl]at S;rw[e4]at J ⊢;have U:sc? (bo (lft o 0 R (t++[h]))).pv=some (bo (lft o 0 R (t++[h]))):=by
  unfold bo;split
  .rfl
  .split<;>rfl
 generalize bo (lft o 0 R (t++[h]))=w at J U;simp[fB,exs,ex,ev,evs,evB,evA,lj,CF,S,Z,h0,h1,dz,hn,Y,J,U,iw,Fw,wQ,MM.R.andThen]
def zS(c J most:Int)(h1:0<J):(da c J most).Pairwise (· < ·)/\∀h∈da c J most,0<=h/\h<=J-1:=by
 obtain⟨a,b,_⟩:=eO J h1 (dC c 1181783497276652981 % (most+1)).toNat (dC c 1181783497276652981 / (most+1)) [] K2 (λ_ h=>by cases h);exact⟨sk a,λh S=>by have:=b h (gU.mp S);omega⟩
def eQ (L:LL):bo L=.str "weaver" \/ bo L=.str "moth" \/ bo L=.non:=by
 unfold bo;split
 .exact .inl rfl
 .split
  .exact .inr (.inl rfl)
  .exact .inr (.inr rfl)
noncomputable def Ff(J S:Int->Bool)(Rb:LL):LL:=(Rb.filter λs=>!s.any S).map λs=>s.filter λx=>!J x
noncomputable def tkB(w:Bool)(o:Bool):Nat->List Int->Int->Bool
 | _,[],_=>false
 |k,h::t,x=>(decide (x=h)&&(hat o k==w))||tkB w o (k+1) t x
theorem vQ{w o:Bool}:∀{t:List Int}{k:Nat}{x:Int},x∉t->tkB w o k t x=false
 | [],_,_,_=>rfl
 |h::t,k,x,J=>by
  rw[nW]at J;rw[tkB,vQ λz=>J (.inr z),KH λz=>J (.inl z)]
  rfl
def B8{S J:Int->Bool}{h:Int}(Y:J h=false)(Rb:LL):Ff S J (Rb.map (drp h))=Ff (λx=>decide (x=h)||S x) J Rb:=by
 unfold Ff;rw[List.filter_map,KY];have Z:((λs:List Int=>!s.any J)∘drp h)=λs=>!s.any J:=by
  funext s
  show(!(drp h s).any J)=!s.any J
  congr 1
  rw[K8,Le,Le];refine⟨λ⟨x,U,q⟩=>⟨x,(kK.mp U).1,q⟩,λ⟨x,U,q⟩=>⟨x,kK.mpr ⟨U,λz=>?_⟩,q⟩⟩;rw[z,Y]at q;cases q
 rw[Z];refine Lp λs _=>?_
 show(drp h s).filter _=_;unfold drp;rw[List.filter_filter]
 congr 1
 funext x
 show((!S x)&&!decide (x=h))=!(decide (x=h)||S x);cases decide (x=h)<;>cases S x<;>rfl
def B9{U J:Int->Bool}{h:Int}(Rb:LL):Ff U J (Rb.filter λY=>!decide (h∈Y))=Ff U (λx=>decide (x=h)||J x) Rb:=by
 unfold Ff;rw[List.filter_filter]
 congr 1
 congr 1
 funext s
 have:(s.any λx=>decide (x=h)||J x)=(decide (h∈s)||s.any J):=by
  rw[K8,Le,LV,Le,Lf];constructor
  .rintro ⟨x,S,q⟩;rcases Bool.or_eq_true_iff.mp q with q|q
   .exact .inl (KQ q▸S)
   .exact .inr ⟨x,S,q⟩
  .rintro (q|⟨x,S,q⟩)
   .exact⟨h,q,by simp⟩
   .exact⟨x,S,by simp[q]⟩
 rw[this];cases decide (h∈s)<;>cases s.any J<;>rfl
theorem qJ(o:Bool):∀(t:List Int) (k:Nat) (Rb:LL),t.Nodup->lft o k (sortT Rb) t=sortT (Ff (tkB false o k t) (tkB true o k t) Rb)
 | [],k,Rb,_=>by
  unfold lft Ff;have e:(Rb.filter λs=>!s.any (tkB true o k []))=Rb:=Mh.mpr λs _=>by
   have:s.any (tkB true o k [])=false:=by rw[Mq];intro x _ z;cases z
   rw[this]
   rfl
  rw[e];have U:(Rb.map λs=>s.filter λx=>!tkB false o k [] x)=Rb.map id:=Lp λs _=>Mh.mpr λx _=>rfl
  rw[U,List.map_id]
 |h::t,k,Rb,nd=>by
  obtain⟨n1,n2⟩:=KP.mp nd;rw[lft];cases e:hat o k with
  |false =>
   have J:bhd false (sortT Rb) (some h)=sortT (Rb.map (drp h)):=sortT_of_perm ((sortT_perm Rb).map _);rw[J,qJ o t (k+1) _ n2,B8 (vQ n1)]
   congr 2
   .funext x
    rw[tkB,e];simp
   .funext x
    rw[tkB,e];simp
  |true =>
   have J:bhd true (sortT Rb) (some h)=sortT (Rb.filter λS=>!decide (h∈S)):=by
    show(sortT Rb).filter _=_;rw[<- sortT_id ((sortT_rises Rb).filter λS=>!decide (h∈S))];exact sortT_of_perm ((sortT_perm Rb).filter _)
   rw[J,qJ o t (k+1) _ n2,B9]
   congr 2
   .funext x
    rw[tkB,e];simp
   .funext x
    rw[tkB,e];simp
theorem qK(w o:Bool):∀(t:List Int) (k:Nat) (x:Int),tkB w o k t x=true ↔ ∃i,t[i]?=some x/\hat o (k+i)=w
 | [],k,x=>⟨λz=>(by cases z),λ⟨i,h,_⟩=>(by simp at h)⟩
 |h::t,k,x=>by
  rw[tkB,LV,ll,Lf,Kt,qK w o t (k+1) x];constructor
  .rintro (⟨rfl,e⟩|⟨i,J,S⟩)
   .exact⟨0,rfl,e⟩
   .exact⟨i+1,by simpa using J,by rw[<- S];congr 1;omega⟩
  .rintro ⟨i,J,S⟩;cases i with
   |zero=>simp at J;exact .inl ⟨J.symm,S⟩
   |succ i=>exact .inr ⟨i,by simpa using J,by rw[<- S];congr 1;omega⟩
noncomputable def frl(c:Int)(t:List Int):List Int:=((range c.toNat).filter λ(k:Nat)=>!decide ((k:Int)∈t)).map λ(k:Nat)=>(k:Int)
def mB{c x:Int}{t:List Int}:x∈frl c t ↔ (0<=x/\x<c)/\x∉t:=by
 unfold frl;rw[mem_map];constructor
 .rintro ⟨k,J,rfl⟩;obtain⟨h1,h2⟩:=Kw.mp J;have h1:k<c.toNat:=by simpa using h1
  exact⟨by omega,by simpa using h2⟩
 .rintro ⟨h1,h2⟩;have e:((x.toNat:Nat):Int)=x:=by omega
  refine⟨x.toNat,Kw.mpr ⟨by simp;omega,?_⟩,e⟩;rw[e];simpa using h2
def zT{L:LL}(h:bo L=.non):[]∉L/\L≠[]:=by
 unfold bo at h;split at h
 .cases h
 .rename_i h1;split at h
  .cases h
  .rename_i h2;exact⟨h1,h2⟩
def jA  [DecidableEq α] (d:List (α×Sc)) (f:α->Int):Prop:=(∀k,bF d k=none->f k=0)/\∀k s,bF d k=some s->s=.int (f k)
def jB{α:Type}(d:List (α×Sc))(P:α->Prop):Prop:=(d.map (·.1)).Nodup/\∀k,k∈d.map (·.1) ↔ P k
section
variable{α:Type} [DecidableEq α]
def nX{k:α}:bF d k=none ↔ k∉d.map (·.1):=by
 unfold bF;rw[map_eq_none_iff,find?_eq_none];constructor
 .intro h z;refine ag (mem_map.mp z) λp J S=>?_
  subst S;exact h p J (Ks rfl)
 .intro h p J e;exact h (mem_map.mpr ⟨p,J,KQ e⟩)
def zU(d)(k:α)(v):(de d k v).map (·.1)=if k∈d.map (·.1)then d.map (·.1)else d.map (·.1)++[k]:=by
 have e:(d.any λp=>decide (p.1=k))=decide (k∈d.map (·.1)):=by
  rw[K8,Le,Lf,mem_map]
  simp_all
 unfold de;rw[e];by_cases h:k∈d.map (·.1)
 .rw[if_pos (Ks h),if_pos h,KY];refine Lp λp _=>?_
  show(if p.1=k then(p.1,v)else p).1=p.1;split<;>rfl
 .rw[if_neg (by simpa using h),if_neg h,LR]
  rfl
def vR(d)(k j:α)(v):bF (de d k v) j=if j=k then some v else bF d j:=by
 have gen:∀d,(d.any λp=>decide (p.1=k))=true->bF (d.map λp=>if p.1=k then(p.1,v)else p) j=if j=k then some v else bF d j:=by
  intro d
  induction d with
  |nil=>intro h;exact dD h
  |cons p d ih =>
   intro h;by_cases S:p.1=k
   .by_cases J:j=k
    .subst J;simp[bF,S]
    .rw[if_neg J];have:¬ p.1=j:=λz=>J (by rw[<- z,S])
     unfold bF;rw[KI,if_pos S,L7 (by simpa using this),L7 (by simpa using this)];by_cases ha:(d.any λp=>decide (p.1=k))=true
     .have:=ih ha;rw[if_neg J]at this;exact this
     .have e:(d.map λp=>if p.1=k then(p.1,v)else p)=d:=by
       conv=>rhs;rw[<- List.map_id d]
       refine Lp λq U=>?_
       rw[if_neg λz=>ha (Le.mpr ⟨q,U,Ks z⟩)]
       rfl
      rw[e]
   .have ha:(d.any λp=>decide (p.1=k))=true:=by simpa[S]using h
    have ih:=ih ha;unfold bF at ih ⊢;rw[KI,if_neg S];by_cases J:p.1=j
    .have:¬ j=k:=λz=>S (J.trans z)
     rw[find?_cons_of_pos (by simpa using J),find?_cons_of_pos (by simpa using J),if_neg this]
    .rw[L7 (by simpa using J),L7 (by simpa using J)];exact ih
 unfold de;by_cases h:(d.any λp=>decide (p.1=k))=true
 .rw[if_pos h];exact gen d h
 .rw[if_neg h];have no:∀p∈d,¬ p.1=k:=λp S z=>h (Le.mpr ⟨p,S,Ks z⟩)
  unfold bF;rw[find?_append];by_cases J:j=k
  .subst J;have:d.find? (λp=>decide (p.1=j))=none:=find?_eq_none.mpr λp S=>by simpa using no p S
   rw[this,if_pos rfl];simp
  .rw[if_neg J];have:¬ k=j:=λz=>J z.symm
   cases d.find? (λp=>decide (p.1=j))<;>first|rfl|simp[this]
def put_len(d)(k:α)(v):(de d k v).length<=d.length+1:=by
 unfold de;split
 .simp_all
 .simp_all
def nY(h:jA d f)(k:α):((bF d k).getD (.int 0)).pv=.int (f k):=by
 cases e:bF d k with
 |none=>rw[h.1 k e];rfl
 |some s=>rw[h.2 k s e];rfl
def zV(h:jA d f)(k:α)(w):jA (de d k (.int (f k+w))) (λj=>if j=k then f j+w else f j):=by
 refine⟨λj e=>?_,λj s e=>?_⟩
 .rw[vR]at e;by_cases J:j=k
  .simp_all
  .rw[if_neg J]at e;dsimp only;rw[if_neg J];exact h.1 j e
 .rw[vR]at e;by_cases J:j=k
  .simp_all
  .rw[if_neg J]at e;dsimp only;rw[if_neg J];exact h.2 j s e
def sC:jA ([]:List (α×Sc)) λ_=>0:=⟨λ_ _=>rfl,λk s z=>bn z⟩
def sD:jB ([]:List (α×Sc)) λ_=>False:=⟨K2,λk=>by simp⟩
def sF(h:jB d P)(k:α)(v):jB (de d k v) (λj=>P j\/j=k):=by
 unfold jB;rw[zU];by_cases J:k∈d.map (·.1)
 .rw[if_pos J];refine⟨h.1,λj=>?_⟩;rw[h.2 j];refine⟨.inl,λz=>z.elim id λe=>?_⟩;rw[e];exact(h.2 k).mp J
 .rw[if_neg J];refine⟨nodup_append.mpr ⟨h.1,by simp,λa ha b S=>by rw[KW.mp S];exact λe=>J (e▸ha)⟩,λj=>?_⟩;rw[Mt,KW,h.2 j]
theorem FK{body:PV->Rho->R}{I:List (α×Sc)->Rho->Prop}{w:Int}:∀{xs:List α},(∀x∈xs,∀d G (f:α->Int),I d G->jA d f->d.length<9500->∃A,I (de d x (.int (f x+w))) A/\body (g x) G=.next A) ->
  xs.Nodup->∀{d}{G}{f}{P},I d G->jA d f->jB d P->d.length+xs.length<=9000 ->
  ∃d' A,bA body (xs.map g) G=.next A/\I d' A/\jA d' (λj=>f j+if j∈xs then w else 0)/\jB d' (λk=>P k\/k∈xs)/\d'.length<=d.length+xs.length
 | [],_,_,d,G,f,P,S,hd,U,_=>⟨d,G,rfl,S,by simpa using hd,by simpa using U,by simp⟩
 |x::xs,hb,hn,d,G,f,P,S,hd,U,hl=>by
  rw[length_cons]at hl;obtain⟨hx,hn⟩:=KP.mp hn;refine ag (hb x (.head _) d G f S hd (by omega)) λρ1 Y e1=>?_
  refine cw λZq kq=>?_
  have a0:=put_len d x (.int (f x+w));obtain⟨d',A,e2,Z,ao,J,a2⟩:=FK (xs:=xs) (λy hy=>hb y (.tail _ hy)) hn Y (zV hd x w) (sF U x _) (by omega);refine kq ?_;rw[KI,bA,e1];refine⟨d',A,e2,Z,?_,?_,by rw[length_cons];omega⟩
  .have ef:(λj=>(if j=x then f j+w else f j)+if j∈xs then w else 0)=λj=>f j+if j∈x::xs then w else 0:=by
    funext j
    by_cases hj:j=x
    .simp_all
    .simp[hj]
   rw[<- ef];exact ao
  .refine⟨J.1,λk=>?_⟩;rw[J.2 k];simp only[nW,_root_.or_assoc]
theorem FL{S:Type}{ge:S->PV}{m:S->List α}{w:S->Int}{body:PV->Rho->R}{I:List (α×Sc)->Rho->Prop}{top:Nat}:∀{R:List S},(∀s∈R,∀d G (f:α->Int) (P:α->Prop),I d G->jA d f->jB d P->d.length<=8000 ->
   ∃d' A,body (ge s) G=.next A/\I d' A/\jA d' (λj=>f j+if j∈m s then w s else 0)/\jB d' (λk=>P k\/k∈m s)/\d'.length<=d.length+top) ->
  ∀{d}{G}{f}{P},I d G->jA d f->jB d P->d.length+top*R.length<=8000 ->
  ∃d' A,bA body (R.map ge) G=.next A/\I d' A/\jA d' (λj=>f j+(R.map λs=>if j∈m s then w s else 0).sum)/\jB d' (λk=>P k\/∃s∈R,k∈m s)/\d'.length<=d.length+top*R.length
 | [],_,d,G,f,P,U,hd,Y,_=>⟨d,G,rfl,U,by simpa using hd,by simpa using Y,by simp⟩
 |s::R,hb,d,G,f,P,U,hd,Y,hl=>by
  rw[length_cons,Nat.mul_succ]at hl;refine uT (hb s (.head _) d G f P U hd Y (xw (Ll _ _) ‹_›)) λd1 ρ1 e1 Z ao ar a2=>?_
  refine cw λZq kq=>?_
  obtain⟨d',A,e2,aH,aL,J,a5⟩:=FL (R:=R) (λy hy=>hb y (.tail _ hy)) Z ao ar (by omega);refine kq ?_;rw[KI,bA,e1];refine⟨d',A,e2,aH,?_,⟨J.1,λk=>?_⟩,by rw[length_cons,Nat.mul_succ];omega⟩
  .have ef:(λj=>(f j+if j∈m s then w s else 0)+(R.map λs=>if j∈m s then w s else 0).sum)=λj=>f j+((s::R).map λs=>if j∈m s then w s else 0).sum:=by
    funext j
    simp only[KI,sum_cons];omega
   rw[<- ef];exact aL
  .rw[J.2 k];simp only[nW,exists_eq_or_imp,_root_.or_assoc]
theorem C3{g:α->PV}{body:PV->Rho->R}{I:List (α×Sc)->Rho->Prop}{v:Sc}:∀{xs:List α},(∀x∈xs,∀d G,I d G->d.length<9500->∃A,I (de d x v) A/\body (g x) G=.next A) ->
  ∀{d:List (α×Sc)}{G:Rho}{P:α->Prop},I d G->jB d P->d.length+xs.length<=9000 ->
  ∃d' A,bA body (xs.map g) G=.next A/\I d' A/\jB d' (λk=>P k\/k∈xs)/\d'.length<=d.length+xs.length
 | [],_,d,G,P,S,U,_=>⟨d,G,rfl,S,by simpa using U,by simp⟩
 |x::xs,hb,d,G,P,S,U,hl=>by
  rw[length_cons]at hl;obtain⟨ρ1,Y,e1⟩:=hb x (.head _) d G S (by omega);have aL:=put_len d x v;obtain⟨d',A,e2,Z,J,a0⟩:=C3 (xs:=xs) (λy hy=>hb y (.tail _ hy)) Y (sF U x v) (by omega);rw[KI,bA,e1];refine⟨d',A,e2,Z,⟨J.1,λk=>?_⟩,by rw[length_cons];omega⟩;rw[J.2 k];simp only[nW,_root_.or_assoc]
end
noncomputable def tb(t:List Int)(b:Int):List Int:=((range t.length).filter λ(k:Nat)=>decide ((k:Int) % 2=b)).map λk=>t.getD k 0
def FM(t:List Int)(b:Int):(tb t b).length<=t.length:=by
 unfold tb;rw[tr];exact xw (Lz _ _) (by rw[length_range];exact pe _)
def zW{t:List Int}{b x:Int}:x∈tb t b ↔ ∃i:Nat,t[i]?=some x/\(i:Int) % 2=b:=by
 unfold tb;rw[mem_map];constructor
 .rintro ⟨k,S,rfl⟩;obtain⟨h1,h2⟩:=Kw.mp S;have h1:k<t.length:=by simpa using h1
  exact⟨k,by simp[List.getD,h1],KQ h2⟩
 .rintro ⟨i,J,U⟩;have h1:i<t.length:=(uM.mp J).1;refine⟨i,Kw.mpr ⟨by simpa using h1,Ks U⟩,?_⟩;simp[List.getD,J]
def qM{o:Bool}{b:Int}(U:b=if o=true then 1 else 0)(t:List Int):(tkB false o 0 t=λx=>decide (x∈sortI (tb t b)))/\tkB true o 0 t=λx=>decide (x∈sortI (tb t (1-b))):=by
 constructor
 .funext x
  rw[K8,qK,Lf,gU,zW];refine⟨λ⟨i,S,J⟩=>⟨i,S,?_⟩,λ⟨i,S,J⟩=>⟨i,S,?_⟩⟩
  .rw[Mf]at J;unfold hat at J;subst U;cases o<;>simp at J ⊢<;>omega
  .rw[Mf];unfold hat;subst U;cases o<;>simp at J ⊢<;>omega
 .funext x
  rw[K8,qK,Lf,gU,zW];refine⟨λ⟨i,S,J⟩=>⟨i,S,?_⟩,λ⟨i,S,J⟩=>⟨i,S,?_⟩⟩
  .rw[Mf]at J;unfold hat at J;subst U;cases o<;>simp at J ⊢<;>omega
  .rw[Mf];unfold hat;subst U;cases o<;>simp at J ⊢<;>omega
def zX(n:Nat)(L:LL):ab defs (n+1) 18 [.val (ofR L)]=some (bo L).pv:=by
 rw[aI (d:=gY) rfl rfl];have J:isIn (.tup []) (L.map ofS)=some (decide ([]∈L)):=uG [] L;have eq:eqF 100 (ofR L) (.tup [])=some (decide (L=[])):=HR 98 L [];unfold bo;by_cases h:[]∈L
 .simp[gY,exs,ex,ev,evs,evB,J,h,Sc.pv]
 .by_cases h2:L=[]
  .subst h2
   rfl
  .simp[gY,exs,ex,ev,evs,evB,J,eq,h,h2,Sc.pv]
def sH(n:Nat)(t:List Int)(b:Int)(U:t.length<64)(m:MV)(hm:m=.brw (t.map .int)\/m=.val (ofL t)):ab defs (n+1) 16 [m,.val (.int b)]=some (ofL (sortI (tb t b))):=by
 rw[aI (d:=f_) rfl rfl];have J:(tb t b).length<64:=KD (FM t b) U;have e:ev (ab defs n) (.comp .rng [(.blt .len [.bor 0])] [0,1] (.cmp .eq (.bin .mod (.bor 0) (ci 2)) (.bor 2)) (.idx (.bor 1) (.bor 0))) [some m,sv (.int b)]=some (.lst ((tb t b).map .int)):=by
  rw[ev,show evs (ab defs n) [(.blt .len [.bor 0])] [some m,sv (.int b)]=some [.int t.length]from by rcases hm with rfl|rfl<;>simp[evs,ev],bind_some,f8 (by omega) (by omega),bind_some,if_pos (by simp;omega),cZ (p:=λ(k:Nat)=>decide ((k:Int) % 2=b)) (h:=λ(k:Nat)=>.int (t.getD k 0))]
  .unfold tb;rw[KY];simp only[Int.toNat_natCast]
   rfl
  .intro k _;rcases hm with rfl|rfl<;>simp[ev,eF,B4]
  .intro k S _;have S:k<t.length:=by simpa using S
   rcases hm with rfl|rfl<;>simp[ev,eF,fc (show(0:Int)<=(k:Nat)by omega) (show((k:Nat):Int)<t.length by omega),S]
 show dA (exs _ [.ret _] [some _,some _])=_;rw[fg (v:=ofL (sortI (tb t b)))];rw[bz e,ju,mz,bind_some,pk J]
def jC(n:Nat)(t:List Int)(b:Int)(J:t.length<64):ab defs (n+1) 16 [.brw (t.map .int),.val (.int b)]=some (ofL (sortI (tb t b))):=sH n t b J _ (.inl rfl)
theorem pC(cal:Cal)(K B:List Int)(a:MV):∀(Rb J:LL) (rb:Option MV),(∀s∈Rb,s.length<=10000)->J.length+Rb.length<10000 ->
  ∃U,bA (λx A=>exs cal dX (put A 4 (.val x))) (Rb.map ofS) [some a,sv (ofL K),sv (ofL B),some (.own (J.map ofS)),rb]
  =.next [some a,sv (ofL K),sv (ofL B),some (.own ((J++Ff (λx=>decide (x∈K)) (λx=>decide (x∈B)) Rb).map ofS)),U]
 | [],J,rb,_,_=>⟨rb,by simp[Ff]⟩
 |s::Rb,J,rb,hs,hl=>by
  rw[length_cons]at hl;have h1:=hs s (.head _);have e1:∀G:Rho,(G[4]?).join=sv (ofS s)->(G[2]?).join=sv (ofL B)->ev cal (.blt .any [(.comp .seq [.bor 4] [2] (.cst (.bl true)) (.cmp .isIn (.bor 0) (.bor 1)))]) G=some (.bl (s.any λx=>decide (x∈B))):=λG S Y=>by
   rw[bz (qH (vs:=[ofS s]) (xs:=s) (g:=PV.int) (h:=λx=>.bl (decide (x∈B))) (by rw[evs,ev,S];rfl) rfl h1 λx _=>by simp[ev,eF,Y,dz]),BU];have:(s.map λx=>PV.bl (decide (x∈B)))=(s.map λx=>decide (x∈B)).map PV.bl:=by rw[KY];rfl
   rw[this,nO,map_some,MI]
   rfl
  have e2:∀G:Rho,(G[4]?).join=sv (ofS s)->(G[1]?).join=sv (ofL K)->ev cal (.blt .tupleOf [(.comp .seq [.bor 4] [1] (.cmp .notIn (.bor 0) (.bor 1)) (.var 0))]) G=some (ofS (s.filter λx=>!decide (x∈K))):=λG S Y=>by
   have:ev cal (.comp .seq [.bor 4] [1] (.cmp .notIn (.bor 0) (.bor 1)) (.var 0)) G=some (.lst ((s.filter λx=>!decide (x∈K)).map .int)):=by
    rw[ev,show evs cal [.bor 4] G=some [ofS s]from by rw[evs,ev,S];rfl,bind_some,vL,BT,bind_some,if_pos (by simpa using h1),cZ (p:=λx=>!decide (x∈K)) (h:=PV.int)]
    .rfl
    .intro x _;simp[ev,eF,Y,dz]
    .intro x _ _;simp[ev,eF]
   rw[bz this]
   rfl
  have e:exs cal dX (put [some a,sv (ofL K),sv (ofL B),some (.own (J.map ofS)),rb] 4 (.val (ofS s)))
   =.next [some a,sv (ofL K),sv (ofL B),some (.own ((J++Ff (λx=>decide (x∈K)) (λx=>decide (x∈B)) [s]).map ofS)),sv (ofS s)]:=by
   have ao:J.length<10000:=by omega
   simp only[f7,f6];have S:=e1 [some a,sv (ofL K),sv (ofL B),some (.own (J.map ofS)),sv (ofS s)] rfl rfl;have Y:=e2 [some a,sv (ofL K),sv (ofL B),some (.own (J.map ofS)),sv (ofS s)] rfl rfl;cases Z:s.any λx=>decide (x∈B)with
   |true =>
    rw[Z]at S;have q3:evB cal (.not (.blt .any [(.comp .seq [.bor 4] [2] (.cst (.bl true)) (.cmp .isIn (.bor 0) (.bor 1)))])) [some a,sv (ofL K),sv (ofL B),some (.own (J.map ofS)),sv (ofS s)]=some false:=by
     unfold evB;rw[ev,S]
     rfl
    rw[dX,bj,ex,q3,fZ,if_neg (by decide),exs,bi,exs];simp[Ff,Z]
   |false =>
    rw[Z]at S;have q3:evB cal (.not (.blt .any [(.comp .seq [.bor 4] [2] (.cst (.bl true)) (.cmp .isIn (.bor 0) (.bor 1)))])) [some a,sv (ofL K),sv (ofL B),some (.own (J.map ofS)),sv (ofS s)]=some true:=by
     unfold evB;rw[ev,S]
     rfl
    rw[dX,bj,ex,q3,fZ,if_pos rfl,bj,ex,Y];simp[Ff,Z,ao,exs]
  rw[KI,ip e];obtain⟨U,q⟩:=pC cal K B a Rb (J++Ff (λx=>decide (x∈K)) (λx=>decide (x∈B)) [s]) (sv (ofS s)) (λs aH=>hs s (.tail _ aH)) (by
   have:(Ff (λx=>decide (x∈K)) (λx=>decide (x∈B)) [s]).length<=1:=by unfold Ff;rw[tr];exact Lz _ _
   rw[KU];omega)
  refine⟨U,?_⟩;rw[q,append_assoc];have:Ff (λx=>decide (x∈K)) (λx=>decide (x∈B)) [s]++Ff (λx=>decide (x∈K)) (λx=>decide (x∈B)) Rb=Ff (λx=>decide (x∈K)) (λx=>decide (x∈B)) (s::Rb):=by
   unfold Ff;rw[<- LR,<- filter_append]
   rfl
  rw[this]
def zY(n:Nat)(Rb:LL)(K B:List Int)(S:∀s∈Rb,s.length<=10000)(U:Rb.length<64):ab defs (n+1) 17 [.val (.lst (Rb.map ofS)),.val (ofL K),.val (ofL B)]=some (ofR (sortT (Ff (λx=>decide (x∈K)) (λx=>decide (x∈B)) Rb))):=by
 rw[aI (d:=ie) rfl rfl];obtain⟨Y,e⟩:=pC (ab defs n) K B (.val (.lst (Rb.map ofS))) Rb [] none S (by simp;omega);rw[nil_append,map_nil]at e;have J:(Ff (λx=>decide (x∈K)) (λx=>decide (x∈B)) Rb).length<64:=by
  unfold Ff;rw[tr];exact KD (Lz _ _) U
 simp[ie,exs,ex,ev,evs,evB,ca,e,br,iX J]
def zZ(n:Nat)(c:Int)(t:List Int)(h0:0<=c)(h1:c<=60)(hl:t.length<=60)(m:MV)(hm:m=.brw (t.map .int)\/m=.val (ofL t)):ab defs (n+1) 19 [.val (.int c),m]=some (ofL (frl c t)):=by
 rw[aI (d:=jx) rfl rfl];obtain⟨d,A,e,S,Y,_⟩:=C3 (g:=PV.int) (v:=.bl true) (body:=λx A=>exs (ab defs n) ig (put A 3 (.val x))) (I:=λd G=>∃J,G=[sv (.int c),some m,some (.ownD (.k d)),J]) (xs:=t)
  (λx _ d G ⟨J,S⟩ hd=>by
   subst S;have hd:d.length<10000:=by omega
   refine⟨_,⟨sv (.int x),rfl⟩,?_⟩;simp[ig,exs,ex,ev,hd,sc?])
  (d:=[]) (G:=[sv (.int c),some m,some (.ownD (.k [])),none]) (P:=λ_=>False) ⟨none,rfl⟩ ⟨by simp,λk=>by simp⟩ (by simp;omega)
 obtain⟨J,rfl⟩:=S;have Z:∀x,(bF d x).isSome=decide (x∈t):=λx=>by
  cases q:bF d x with
  |none =>
   have:=nX.mp q;rw[Y.2 x]at this;rw[KH (λz=>this (.inr z))]
   rfl
  |some s =>
   have:x∈d.map (·.1):=by
    by_cases z:x∈d.map (·.1)
    .exact z
    .rw[nX.mpr z]at q;cases q
   rw[Y.2 x]at this;rw[Ks (this.elim False.elim id)]
   rfl
 have U:c.toNat<=10000:=by omega
 have e2:ev (ab defs n) (.comp .rng [.bor 0] [2] (.dIn true (.bor 0) (.bor 1)) (.var 0)) [sv (.int c),some m,some (.ownD (.k d)),J]=some (ofL (frl c t)):=by
  rw[ev,show evs (ab defs n) [.bor 0] [sv (.int c),some m,some (.ownD (.k d)),J]=some [.int c]from by simp[evs,ev],bind_some,f8 h0 (by omega),bind_some,if_pos (by simpa using U),cZ (p:=λ(k:Nat)=>!decide ((k:Int)∈t)) (h:=λ(k:Nat)=>.int (k:Int))]
  .unfold frl;rw[map_some];show some (PV.lst _)=some (PV.lst ((map _ _).map PV.int));rw[KY]
   rfl
  .intro k _;simp[ev,eF,eD];rw[<- Z];cases bF d (k:Int)<;>rfl
  .intro k _ _;simp[ev,eF]
 show dA (exs _ [_,_,.ret _] (some _::some _::_))=_;refine jz (A:=[sv (.int c),some m,some (.ownD (.k [])),none]) rfl ?_;refine jz (A:=[sv (.int c),some m,some (.ownD (.k d)),J]) ?_ ?_
 .rw[fC (xs:=t.map .int) (by rcases hm with rfl|rfl<;>simp[evs,ev]),show ca [.bor 1] [sv (.int c),some m,some (.ownD (.k [])),none]=[sv (.int c),some m,some (.ownD (.k [])),none]from by rcases hm with rfl|rfl<;>rfl,e,eJ];rcases hm with rfl|rfl<;>rfl
 .exact fg e2
def qN(n:Nat)(c:Int)(t:List Int)(h0:0<=c)(h1:c<=60)(J:t.length<=60):ab defs (n+1) 19 [.val (.int c),.brw (t.map .int)]=some (ofL (frl c t)):=zZ n c t h0 h1 J _ (.inl rfl)
def FN(c J most:Int)(h1:0<J)(h2:0<=most):((da c J most).length:Int)<=most:=by
 obtain⟨_,_,h⟩:=eO J h1 (dC c 1181783497276652981 % (most+1)).toNat (dC c 1181783497276652981 / (most+1)) [] K2 (λ_ h=>by cases h);unfold da;rw[sortI_len];have S:dC c 1181783497276652981 % (most+1)<most+1:=K4 _ (by omega);have q0:0<=dC c 1181783497276652981 % (most+1):=Lc _ (by omega);simp only[length_nil]at h;omega
def uO(n:Nat)(ns:List Int)(c:Int)(h0:0<=c)(h1:c<=60):∃Rb:LL,ab defs (n+3) 15 [.brw (ns.map .int),.val (.int c)]=some (.lst (Rb.map ofS))/\(∀s∈Rb,lS s/\s.length<=8/\∀x∈s,0<=x/\x<c)/\Rb.length<=8:=by
 rw[aI (d:=gw) rfl rfl];by_cases hc:c=0
 .subst hc;exact⟨[],rfl,λs Z=>(by cases Z),by simp⟩
 .have Y:0<c:=by omega
  have ec:=qG (n+1) (.brw (ns.map .int)) ns 1 rfl (by decide);generalize cellOf ns 1=J at ec;have q0:0<=J % 9:=Lc _ (by decide);have q1:J % 9<9:=K4 _ (by decide);have r0:0<=J / 9 % 6:=Lc _ (by decide);have r1:J / 9 % 6<6:=K4 _ (by decide);have U:(gX ns (some 3) (some (3+J % 9))).length<=8:=by have:=zI ns (a:=3) (b:=3+J % 9) (by decide) (by omega);omega
  have es:∀x,ab defs (n+2) 13 [.val (.int x),.val (.int c),.val (.int (1+J / 9 % 6))]=some (ofS (da x c (1+J / 9 % 6))):=λx=>B3 n x c (1+J / 9 % 6) Y (by omega) (by omega) (by omega)
  have aP:decide (c=0)=false:=KH hc;refine⟨((gX ns (some 3) (some (3+J % 9))).map λx=>da x c (1+J / 9 % 6)).filter λs=>!decide (s=[]),?_,λs Z=>?_,?_⟩
  .have ao:(c==0)=false:=by rw[KR];exact hc
   have e1:ev (ab defs (n+2)) (.comp .seq [(.slice (.bor 0) (ci 3) (.bin .add (ci 3) (.bin .mod (.bor 2) (ci 9))))] [1,2] (.cst (.bl true)) (.call 13 [.bor 0,.bor 1,(.bin .add (ci 1) (.bin .mod (.bin .fdiv (.bor 2) (ci 9)) (ci 6)))])) [some (.brw (ns.map .int)),sv (.int c),sv (.int J),none]=some (.lst (((gX ns (some 3) (some (3+J % 9))).map λx=>da x c (1+J / 9 % 6)).map ofS)):=by
    rw[qH (vs:=[ofL (gX ns (some 3) (some (3+J % 9)))]) (xs:=gX ns (some 3) (some (3+J % 9))) (g:=PV.int) (h:=λx=>ofS (da x c (1+J / 9 % 6))) (by simp[evs,ev,bnd]) rfl (by omega) λx _=>by simp[ev,evA,eF,es],KY]
    rfl
   have hS:((gX ns (some 3) (some (3+J % 9))).map λx=>da x c (1+J / 9 % 6)).length<=10000:=by rw[tr];omega
   generalize (gX ns (some 3) (some (3+J % 9))).map (λx=>da x c (1+J / 9 % 6))=S at e1 hS;have e2:ev (ab defs (n+2)) (.comp .seq [.bor 3] [] (.cmp .ne (.bor 0) (.tup [])) (.var 0)) [some (.brw (ns.map .int)),sv (.int c),sv (.int J),sv (.lst (S.map ofS))]=some (.lst ((S.filter λs=>!decide (s=[])).map ofS)):=by
    rw[ev,show evs (ab defs (n+2)) [.bor 3] [some (.brw (ns.map .int)),sv (.int c),sv (.int J),sv (.lst (S.map ofS))]=some [.lst (S.map ofS)]from by simp[evs,ev],bind_some,vL,mz,bind_some,if_pos (by simpa using hS),cZ (p:=λs=>!decide (s=[])) (h:=ofS)]
    .rfl
    .intro s _;have:eqF 100 (ofS s) (.tup [])=some (decide (s=[])):=zt 99 s [];simp[ev,evs,eF,this]
    .intro s _ _;simp[ev,eF]
   show dA (exs _ [.ite _ _ _,.set 2 _,.set 3 _,.ret _] (some _::some _::[none,none]))=_;refine jz (by rw[lE (p:=false) (by simp[ev,ao]),if_neg (by decide),exs]) ?_;refine vO (v:=.int J) (by simp[ev,evA,ec]) ?_;simp only[f7,f6];refine vO e1 ?_;simp only[f7,f6];exact fg e2
  .obtain⟨x,_,rfl⟩:=mem_map.mp (Kw.mp Z).1;exact⟨uJ x c _ Y h1,by have:=FN x c (1+J / 9 % 6) Y (by omega);omega,λy hy=>by have:=(zS x c (1+J / 9 % 6) Y).2 y hy;omega⟩
  .exact xw (Lz _ _) (by rw[tr];exact U)
def C4(n:Nat)(C:List Int)(hC:C.length<=100):∃W:List Int,W.length=C.length/\ab defs (n+1) 21 [.val (ofL C)]=some (ofL W):=by
 obtain⟨m,hm,em⟩:∃m:Int,0<m/\∀G:Rho,ev (ab defs n) (.bin .pow (ci 10) (ci 60)) G=some (.int m):=⟨10 ^ 60,by decide,λG=>by
  rw[bM (cH _ _ _) (cH _ _ _)]
  rfl⟩
 have lp:∀(xs W:List Int) (c y:Option MV),W.length+xs.length<=9000->∃(S:List Int) (U Y:Option MV),S.length=W.length+xs.length/\bA (λv A=>exs (ab defs n) iO (put A 2 (.val v))) (xs.map .int) [sv (ofL C),some (.own (W.map .int)),c,y]=.next [sv (ofL C),some (.own (S.map .int)),U,Y]:=by
  intro xs
  induction xs with
  |nil=>exact λW c y _=>⟨W,c,y,rfl,rfl⟩
  |cons x xs ih =>
   intro W c y hl;rw[length_cons]at hl;have key:∃z:Int,exs (ab defs n) iO (put [sv (ofL C),some (.own (W.map .int)),c,y] 2 (.val (.int x)))=.next [sv (ofL C),some (.own ((W++[z]).map .int)),sv (.int x),sv (.int z)]:=by
    have Z:ev (ab defs n) (.bin .mod (.bor 2) (.bin .pow (ci 10) (ci 60))) [sv (ofL C),some (.own (W.map .int)),sv (.int x),y]=some (.int (x % m)):=by
     rw[bM (x:=.int x) rfl (em _),du,if_pos hm]
    have e2:ev (ab defs n) (.cmp .eq (.bin .mod (.blt .len [.bor 1]) (ci 3)) (ci 2)) [sv (ofL C),some (.own (W.map .int)),sv (.int x),sv (.int (x % m))]=some (.bl (((W.length:Nat):Int) % 3==2)):=sn (by
     rw[bz (v:=ofL W) rfl];show some (PV.int ((W.map PV.int).length:Nat))=_;rw[tr]) (by decide)
    have J:∀z:Int,exs (ab defs n) [.append 1 (.var 3)] [sv (ofL C),some (.own (W.map .int)),sv (.int x),sv (.int z)]=.next [sv (ofL C),some (.own ((W++[z]).map .int)),sv (.int x),sv (.int z)]:=λz=>by
     refine nU ((C1 (xs:=W.map .int) (v:=.int z) rfl rfl (by rw[tr];omega)).trans ?_);rw[LR]
     rfl
    cases hb:(((W.length:Nat):Int) % 3==2)with
    |true=>exact⟨-1-x % m,je Z (C2 (e2.trans (by rw[hb])) (nU (im (v:=.int (-1-x % m)) rfl)) (J _))⟩
    |false=>exact⟨x % m,je Z (Im (e2.trans (by rw[hb])) (J _))⟩
   obtain⟨z,e⟩:=key;obtain⟨S,U,Y,h1,h2⟩:=ih (W++[z]) (sv (.int x)) (sv (.int z)) (by rw[KU,length_singleton];omega);refine⟨S,U,Y,by rw[h1,KU,length_singleton,length_cons];omega,?_⟩;rw[KI];exact(ip e).trans h2
 obtain⟨W,c,y,h1,h2⟩:=lp C [] none none (by simp;omega);refine⟨W,by simpa using h1,?_⟩;rw[aI (d:=lC) rfl rfl];refine jz (A:=[sv (ofL C),some (.own []),none,none]) rfl ?_;refine jz (A:=[sv (ofL C),some (.own (W.map .int)),c,y]) ?_ rfl;rw[fC (xs:=C.map .int) rfl];show(MM.R.back _ _ (bA _ _ [sv (ofL C),some (.own (([]:List Int).map PV.int)),none,none]))=_;rw[h2]
 rfl
noncomputable def wgt(s:List Int):Int:=2 ^ (60-s.length)
def z5:∀n,n<=60->(1152921504606846976:Int) / 2 ^ n=2 ^ (60-n):=by decide +kernel
def B_(n:Nat)(s:List Int)(J:s.length<=60):ab defs (n+1) 8 [.val (ofS s)]=some (.int (wgt s)):=by
 rw[aI (d:=f9) rfl rfl];have e:iu .shr (.int 1152921504606846976) (.int (s.length:Int))=some (.int (wgt s)):=by
  show(if 0<=(s.length:Int)then some (PV.int (1152921504606846976 / 2 ^ ((s.length:Int)).toNat))else none)=_;rw[if_pos (by omega),Int.toNat_natCast,z5 _ J]
  rfl
 exact fg ((bM rfl ((bz rfl).trans (by show some (PV.int (s.map PV.int).length)=_;rw[tr]))).trans e)
noncomputable def bx(R:LL)(h:Int):Int:=(R.map λs=>if h∈s then wgt s else 0).sum
def sI(n:Nat)(R:LL)(g:dg R):∃d,ab defs (n+2) 9 [.val (ofR R)]=some (.dI (.k d))/\jA d (bx R)/\jB d (λk=>∃s∈R,k∈s)/\d.length<=3600:=by
 have hl:=g.2.2;obtain⟨d,A,e,⟨x,y,rfl⟩,hd,S,U⟩:=FL (R:=R) (ge:=ofS) (m:=id) (w:=wgt) (top:=60) (body:=λv A=>exs (ab defs (n+1)) pz (put A 2 (.val v))) (I:=λd G=>∃x y,G=[sv (ofR R),some (.ownD (.k d)),x,y]) (d:=[]) (G:=[sv (ofR R),some (.ownD (.k [])),none,none]) (f:=λ_=>0) (P:=λ_=>False)
  (by
   rintro s hs d G f P ⟨x,y,rfl⟩ hd S hl;have gs:=g.1 s hs;have Y:=ly gs;have ew:=B_ n s Y;obtain⟨d',A,e,⟨y',rfl⟩,r⟩:=FK (xs:=s) (g:=.int) (w:=wgt s) (body:=λv A=>exs (ab defs (n+1)) pq (put A 3 (.val v))) (I:=λd G=>∃y,G=[sv (ofR R),some (.ownD (.k d)),sv (ofS s),y]) (d:=d) (G:=[sv (ofR R),some (.ownD (.k d)),sv (ofS s),y])
    (by
     rintro z _ d G f ⟨y,rfl⟩ hd hl;have eg:ev (ab defs (n+1)) (.dget (.bor 1) (.bor 3) (ci 0)) [sv (ofR R),some (.ownD (.k d)),sv (ofS s),sv (.int z)]=some (.int (f z)):=by
      rw[<- nY hd z];simp[ev]
     have es:ev (ab defs (n+1)) (.bin .add (.dget (.bor 1) (.bor 3) (ci 0)) (.call 8 [.bor 2])) [sv (ofR R),some (.ownD (.k d)),sv (ofS s),sv (.int z)]=some (.int (f z+wgt s)):=by
      rw[ev,eg,aX (vs:=[.val (ofS s)]) (by simp[evA]) ew]
      rfl
     have Z:d.length<10000:=by omega
     refine⟨_,⟨sv (.int z),rfl⟩,?_⟩;show exs (ab defs (n+1)) [_] [sv (ofR R),some (.ownD (.k d)),sv (ofS s),sv (.int z)]=_;rw[bj,ex,es];simp[ev,Z,exs])
    (iK gs.1) ⟨y,rfl⟩ hd S (by omega)
   refine⟨d',_,?_,⟨sv (ofS s),y',rfl⟩,r.1,r.2.1,by have:=r.2.2;omega⟩;have J:(evs (ab defs (n+1)) [.bor 2] [sv (ofR R),some (.ownD (.k d)),sv (ofS s),y]).bind (cB .seq)=some (s.map .int):=by simp[evs,ev]
   show exs (ab defs (n+1)) [_] [sv (ofR R),some (.ownD (.k d)),sv (ofS s),y]=_;rw[bj,fC J,show ca [.bor 2] [sv (ofR R),some (.ownD (.k d)),sv (ofS s),y]=[sv (ofR R),some (.ownD (.k d)),sv (ofS s),y]from rfl,e,eJ,bi];simp[exs,br])
  ⟨none,none,rfl⟩ sC sD (by simp;omega)
 refine⟨d,?_,?_,?_,by simp at U;omega⟩
 .rw[aI (d:=qF) rfl rfl];have J:(evs (ab defs (n+1)) [.bor 0] [sv (ofR R),some (.ownD (.k [])),none,none]).bind (cB .seq)=some (R.map ofS):=by simp[evs,ev]
  show dA (exs (ab defs (n+1)) (_::_::[_]) [sv (ofR R),none,none,none])=_;simp only[bj];rw[show ex (ab defs (n+1)) (.newD false 1) [sv (ofR R),none,none,none]=.next [sv (ofR R),some (.ownD (.k [])),none,none]from by rw[ex];rfl,bi,fC J,show ca [.bor 0] [sv (ofR R),some (.ownD (.k [])),none,none]=[sv (ofR R),some (.ownD (.k [])),none,none]from rfl,e,eJ,bi]
  rfl
 .have ef:(λj=>(0:Int)+(R.map λs=>if j∈id s then wgt s else 0).sum)=bx R:=by funext j;rw[Int.zero_add];rfl
  rw[<- ef];exact hd
 .refine⟨S.1,λk=>?_⟩;rw[S.2 k];simp
def Ca(n:Nat)(R:LL)(g:dg R):∃d,ab defs (n+2) 9 [.val (ofR R)]=some (.dI (.k d))/\jA d (bx R)/\jB d (λk=>∃s∈R,k∈s):=by
 obtain⟨d,h1,h2,h3,_⟩:=sI n R g;exact⟨d,h1,h2,h3⟩
def sJ(R)(h):0<=bx R h:=by
 unfold bx
 induction R with
 |nil=>simp
 |cons s R ih =>
  rw[KI,sum_cons];have:0<=(if h∈s then wgt s else 0):=by
   split
   .exact Mz (Int.pow_pos (by decide))
   .exact ML _
  omega
def sK{R:LL} :0<bx R h ↔ ∃s∈R,h∈s:=by
 unfold bx
 induction R with
 |nil=>simp
 |cons s R ih =>
  rw[KI,sum_cons];have nn:0<=(R.map λs=>if h∈s then wgt s else 0).sum:=sJ R h;have wp:0<wgt s:=Int.pow_pos (by decide);by_cases J:h∈s
  .rw[if_pos J];exact⟨λ_=>⟨s,.head _,J⟩,λ_=>by omega⟩
  .simp_all
noncomputable def ot:Option Int->PV
 |none=>.non
 |some i=>.int i
noncomputable def cc(f:Int->Int)(b:Option Int)(h:Int):Option Int:=match b with
 |none=>some h
 |some c=>if f c<f h then some h else some c
noncomputable def cI(f:Int->Int):List Int:=((range 60).map λ(k:Nat)=>(k:Int)).filter λh=>decide (0<f h)
def lG(f):(cI f).Pairwise (· < ·):=by
 refine Pairwise.filter _ (pairwise_map.mpr (pairwise_lt_range.imp λ{a b} q=>by omega))
def sL{R:LL}(g:∀s∈R,lS s)(h:jB d (λk=>∃s∈R,k∈s)):sortI (d.map (·.1))=cI (bx R):=by
 have p:(d.map (·.1)).Perm (cI (bx R)):=by
  refine(perm_ext_iff_of_nodup h.1 (iK (lG _))).mpr λk=>?_
  rw[h.2 k];unfold cI;rw[Kw,Lf,sK];refine⟨λq=>⟨?_,q⟩,λq=>q.2⟩;obtain⟨s,J,S⟩:=q;have:=(g s J).2 k S;exact mem_map.mpr ⟨k.toNat,mem_range.mpr (by omega),by omega⟩
 rw[sortI_of_perm p,sortI_id ((lG _).imp λ{a b} q=>by omega)]
theorem jf(cal)(a)(d)(f)(hd:jA d f):∀(xs:List Int) b y,(∀x∈xs,bF d x≠none)->(∀c,b=some c->bF d c≠none) ->
  ∃y',bA (λx A=>exs cal c7 (put A 3 (.val x))) (xs.map .int) [a,sv (.dI (.k d)),sv (ot b),y]=.next [a,sv (.dI (.k d)),sv (ot (xs.foldl (cc f) b)),y']
 | [],b,y,_,_=>⟨y,rfl⟩
 |x::xs,b,y,J,hb=>by
  have U:∀z,bF d z≠none->bF d z=some (.int (f z)):=λz q=>by
   cases e:bF d z with
   |none=>exact absurd e q
   |some s=>rw[hd.2 z s e]
  have Y:=U x (J x (.head _));rw[KI,bA];have e:exs cal c7 (put [a,sv (.dI (.k d)),sv (ot b),y] 3 (.val (.int x)))=.next [a,sv (.dI (.k d)),sv (ot (cc f b x)),sv (.int x)]:=by
   cases b with
   |none=>simp[c7,exs,ex,ev,evB,ot,cc,iw]
   |some c =>
    have Z:=U c (hb c rfl);by_cases q:f c<f x
    .simp[c7,exs,ex,ev,evB,ot,cc,iw,Y,Z,q]
    .simp[c7,exs,ex,ev,evB,ot,cc,iw,Y,Z,q]
  rw[e];refine jf cal a d f hd xs (cc f b x) _ (λz hz=>J z (.tail _ hz)) λc hc=>?_
  cases b with
  |none=>cases hc;exact J x (.head _)
  |some S =>
   have hc:(if f S<f x then some x else some S)=some c:=hc;by_cases q:f S<f x
   .simp_all
   .simp_all
def uP(n:Nat)(R:LL)(g:dg R):ab defs (n+3) 10 [.val (ofR R)]=some (ot ((cI (bx R)).foldl (cc (bx R)) none)):=by
 obtain⟨d,e,hd,Z⟩:=Ca n R g;have J:=sL g.1 Z;have hl:d.length<64:=by
  have:d.length=(cI (bx R)).length:=by rw[<- J,sortI_len,tr]
  rw[this];have ar:(cI (bx R)).length<=60:=qE 60 _ (iK (lG _)) λx S=>by
   unfold cI at S;obtain⟨k,J,rfl⟩:=mem_map.mp (Kw.mp S).1;have:=mem_range.mp J;omega
  omega
 rw[aI (d:=jw) rfl rfl];have U:∀x∈cI (bx R),bF d x≠none:=λx S z=>by
  rw[<- J,gU]at S;exact nX.mp z S
 obtain⟨y,Y⟩:=jf (ab defs (n+2)) (sv (ofR R)) d (bx R) hd (cI (bx R)) none none U (λc z=>by cases z);rw[show ot none=.non from rfl]at Y;have hs:(evs (ab defs (n+2)) [.blt .sortedKeys [.bor 1]] [sv (ofR R),sv (.dI (.k d)),sv .non,none]).bind (cB .seq)=some ((cI (bx R)).map .int):=by
  simp[evs,ev,hl,J]
 show dA (exs (ab defs (n+2)) (_::_::_::[_]) [sv (ofR R),none,none,none])=_;simp only[bj];rw[im (aX (vs:=[.val (ofR R)]) (by simp[evA]) e),bi];simp only[f6,f7];rw[im (v:=.non) (by simp[ev]),bi];simp only[f6,f7];rw[fC hs,show ∀G:Rho,ca [.blt .sortedKeys [.bor 1]] G=G from λ_=>rfl,Y,eJ,bi];simp[exs,ex,ev,br]
noncomputable def iz(s:List Int):Int:=2 ^ (8-s.length)
noncomputable def jD(S:LL)(h:Int):Int:=(S.map λs=>if h∈s then iz s else 0).sum
def z_:∀n:Nat,n<=8->([.int 256,.int 128,.int 64,.int 32,.int 16,.int 8,.int 4,.int 2,.int 1]:List PV)[n]?=some (.int (2 ^ (8-n)))
 |0,_=>rfl
 |1,_=>rfl
 |2,_=>rfl
 |3,_=>rfl
 |4,_=>rfl
 |5,_=>rfl
 |6,_=>rfl
 |7,_=>rfl
 |8,_=>rfl
 |n+9,h=>by omega
def Cd(n:Nat)(s:List Int)(J:s.length<=8):ab defs (n+1) 20 [.val (ofS s)]=some (.int (iz s)):=by
 rw[aI (d:=iN) rfl rfl];have e:jU (.lst [.int 256,.int 128,.int 64,.int 32,.int 16,.int 8,.int 4,.int 2,.int 1]) (.int (s.length:Int))=some (.int (iz s)):=by
  show((gh 9 (s.length:Int)).bind λj=>_)=_;rw[fc (by omega) (by omega),bind_some,Int.toNat_natCast,z_ _ J]
  rfl
 show dA (exs (ab defs n) [_] [sv (ofS s)])=_;rw[bj,zJ (v:=.int (iz s))]
 .rfl
 .rw[ev,<- e];simp[ev,evs,-Ie]
def xp(s:List Int):0<iz s:=Int.pow_pos (by decide)
def xq{s:List Int}(h:s.length<=8):wgt s=4503599627370496*iz s:=by
 unfold wgt iz;have e:(4503599627370496:Int)=2 ^ 52:=by decide
 rw[e,<- Int.pow_add]
 congr 1
 omega
def pD(S:LL)(h:Int):0<=jD S h:=by
 unfold jD
 induction S with
 |nil=>simp
 |cons s S ih =>
  rw[KI,sum_cons];have:0<=(if h∈s then iz s else 0):=by
   split
   .exact Mz (xp s)
   .exact ML _
  omega
noncomputable def hvy(R:LL):Option Int:=(cI (bx R)).foldl (cc (bx R)) none
def Ip(n:Nat)(R:LL)(g:dg R):ab defs (n+3) 10 [.val (ofR R)]=some (i9 (hvy R)):=by
 rw[uP n R g];show some (ot (hvy R))=_;cases hvy R<;>rfl
def qO{R:LL}(h8:∀s∈R,s.length<=8)(x:Int):bx R x=4503599627370496*jD R x:=by
 unfold bx jD
 induction R with
 |nil=>rfl
 |cons s R ih =>
  rw[KI,sum_cons,KI,sum_cons,ih λt ht=>h8 t (.tail _ ht),Int.mul_add,xq (h8 s (.head _))];split<;>omega
noncomputable def jg(f:Int->Int)(b:Option Int)(h:Int):Option Int:=if b.elim 0 f<f h then some h else b
theorem nZ(f:Int->Int)(h0:∀x,0<=f x):∀(xs:List Int) (b:Option Int),xs.foldl (jg f) b=(xs.filter λh=>decide (0<f h)).foldl (cc f) b
 | [],_=>rfl
 |x::xs,b=>by
  rw[foldl_cons,filter_cons,nZ f h0 xs];by_cases q:0<f x
  .rw[if_pos (Ks q),foldl_cons]
   congr 1
   unfold jg;cases b with
   |none=>exact if_pos q
   |some c=>rfl
  .rw[if_neg (by simpa using q)]
   congr 1
   unfold jg;refine if_neg ?_;cases b with
   |none=>exact q
   |some c =>
    have:=h0 c;show ¬ f c<f x;omega
theorem n_(cal:Cal)(J S:Option MV)(d:List (Int×Sc))(f:Int->Int)(hd:jA d f)(h0:∀x,0<=f x):∀(xs:List Int) (b:Option Int) (y:Option MV),
  ∃U,bA (λx A=>exs cal ij (put A 3 (.val x))) (xs.map .int) [J,some (.ownD (.k d)),S,y,sv (i9 b),sv (.int (b.elim 0 f))]=.next [J,some (.ownD (.k d)),S,U,sv (i9 (xs.foldl (jg f) b)),sv (.int ((xs.foldl (jg f) b).elim 0 f))]
 | [],b,y=>⟨y,rfl⟩
 |x::xs,b,y=>by
  rw[KI,bA];have hb:0<=b.elim 0 f:=by
   cases b with
   |none=>exact ML _
   |some c=>exact h0 c
  have e:exs cal ij (put [J,some (.ownD (.k d)),S,y,sv (i9 b),sv (.int (b.elim 0 f))] 3 (.val (.int x)))=.next [J,some (.ownD (.k d)),S,sv (.int x),sv (i9 (jg f b x)),sv (.int ((jg f b x).elim 0 f))]:=by
   have Y:=nY hd x;have Z:∀m,ev cal (.dget (.bor 1) (.bor 3) (ci 0)) [J,some (.ownD (.k d)),S,sv (.int x),sv (i9 b),sv (.int m)]=some (.int (f x)):=λm=>by
    rw[<- Y];simp[ev]
   have ec:∀m,evB cal (.cmp .gt (.dget (.bor 1) (.bor 3) (ci 0)) (.bor 5)) [J,some (.ownD (.k d)),S,sv (.int x),sv (i9 b),sv (.int m)]=some (decide (m<f x)):=λm=>by
    rw[evB,ev,Z m];simp[ev]
   show exs cal [_] [J,some (.ownD (.k d)),S,sv (.int x),sv (i9 b),sv (.int (b.elim 0 f))]=_;rw[bj,ex,ec,fZ];unfold jg;by_cases q:b.elim 0 f<f x
   .rw[Ks q,if_pos rfl,if_pos q];have hn:bF d x=some (.int (f x)):=by
     cases e:bF d x with
     |none =>
      have:=hd.1 x e;omega
     |some s=>rw[hd.2 x s e]
    generalize b.elim 0 f=m;simp[exs,ex,ev,hn,i9]
   .rw[KH q,if_neg (by simp),if_neg q]
    rfl
  rw[e];exact n_ cal J S d f hd h0 xs (jg f b x) _
def Ce(n:Nat)(R:LL)(g:dg R)(h8:∀s∈R,s.length<=8):ab defs (n+2) 22 [.val (ofR R)]=some (i9 (hvy R)):=by
 have Y:=g.2.2;obtain⟨d,A,e,⟨x,y,rfl⟩,hd,Z,aH⟩:=FL (R:=R) (ge:=ofS) (m:=id) (w:=iz) (top:=60) (body:=λv A=>exs (ab defs (n+1)) kG (put A 2 (.val v))) (I:=λd G=>∃x y,G=[sv (ofR R),some (.ownD (.k d)),x,y,none,none]) (d:=[]) (G:=[sv (ofR R),some (.ownD (.k [])),none,none,none,none]) (f:=λ_=>0) (P:=λ_=>False)
  (by
   rintro s S d G f P ⟨x,y,rfl⟩ hd Z Y;have gs:=g.1 s S;have aL:=ly gs;have ew:=Cd n s (h8 s S);obtain⟨d',A,e,⟨y',rfl⟩,r⟩:=FK (xs:=s) (g:=.int) (w:=iz s) (body:=λv A=>exs (ab defs (n+1)) kF (put A 3 (.val v))) (I:=λd G=>∃y,G=[sv (ofR R),some (.ownD (.k d)),sv (ofS s),y,none,none]) (d:=d) (G:=[sv (ofR R),some (.ownD (.k d)),sv (ofS s),y,none,none])
    (by
     rintro z _ d G f ⟨y,rfl⟩ hd Y;have eg:ev (ab defs (n+1)) (.dget (.bor 1) (.bor 3) (ci 0)) [sv (ofR R),some (.ownD (.k d)),sv (ofS s),sv (.int z),none,none]=some (.int (f z)):=by
      rw[<- nY hd z];simp[ev]
     have es:ev (ab defs (n+1)) (.bin .add (.dget (.bor 1) (.bor 3) (ci 0)) (.call 20 [.bor 2])) [sv (ofR R),some (.ownD (.k d)),sv (ofS s),sv (.int z),none,none]=some (.int (f z+iz s)):=by
      rw[ev,eg,aX (vs:=[.val (ofS s)]) (by simp[evA]) ew]
      rfl
     have U:d.length<10000:=by omega
     refine⟨_,⟨sv (.int z),rfl⟩,?_⟩;show exs (ab defs (n+1)) [_] [sv (ofR R),some (.ownD (.k d)),sv (ofS s),sv (.int z),none,none]=_;rw[bj,ex,es];simp[ev,U,exs])
    (iK gs.1) ⟨y,rfl⟩ hd Z (by omega)
   refine⟨d',_,?_,⟨sv (ofS s),y',rfl⟩,r.1,r.2.1,by have:=r.2.2;omega⟩;have J:(evs (ab defs (n+1)) [.bor 2] [sv (ofR R),some (.ownD (.k d)),sv (ofS s),y,none,none]).bind (cB .seq)=some (s.map .int):=by simp[evs,ev]
   show exs (ab defs (n+1)) [_] [sv (ofR R),some (.ownD (.k d)),sv (ofS s),y,none,none]=_;rw[bj,fC J,show ca [.bor 2] [sv (ofR R),some (.ownD (.k d)),sv (ofS s),y,none,none]=[sv (ofR R),some (.ownD (.k d)),sv (ofS s),y,none,none]from rfl,e,eJ,bi];simp[exs,br])
  ⟨none,none,rfl⟩ sC sD (by simp;omega)
 have ef:(λj=>(0:Int)+(R.map λs=>if j∈id s then iz s else 0).sum)=jD R:=by funext j;rw[Int.zero_add];rfl
 rw[ef]at hd;obtain⟨y',e2⟩:=n_ (ab defs (n+1)) (sv (ofR R)) x d (jD R) hd (pD R) ((range 60).map λ(k:Nat)=>(k:Int)) none y;have eh:((range 60).map λ(k:Nat)=>(k:Int)).foldl (jg (jD R)) none=hvy R:=by
  rw[nZ _ (pD R)];have h1:cI (jD R)=cI (bx R):=by
   unfold cI;refine filter_congr λz _=>?_
   rw[qO h8 z];exact decide_eq_decide.mpr ⟨λq=>by omega,λq=>by omega⟩
  have h2:cc (jD R)=cc (bx R):=by
   funext b z
   cases b with
   |none=>rfl
   |some c =>
    show(if jD R c<jD R z then some z else some c)=(if bx R c<bx R z then some z else some c);rw[qO h8 z,qO h8 c];by_cases q:jD R c<jD R z
    .rw[if_pos q,if_pos (by omega)]
    .rw[if_neg q,if_neg (by omega)]
  show(cI (jD R)).foldl (cc (jD R)) none=_;rw[h1,h2]
  rfl
 rw[eh]at e2;have S:(evs (ab defs (n+1)) [ci 60] [sv (ofR R),some (.ownD (.k d)),x,y,sv .non,sv (.int 0)]).bind (cB .rng)=some (((range 60).map λ(k:Nat)=>(k:Int)).map .int):=by
  rw[show evs (ab defs (n+1)) [ci 60] [sv (ofR R),some (.ownD (.k d)),x,y,sv .non,sv (.int 0)]=some [.int (60:Int)]from by simp[evs,ev],bind_some,f8 (by omega) (by omega),KY]
  rfl
 rw[aI (d:=jy) rfl rfl];have J:(evs (ab defs (n+1)) [.bor 0] [sv (ofR R),some (.ownD (.k [])),none,none,none,none]).bind (cB .seq)=some (R.map ofS):=by simp[evs,ev]
 show dA (exs (ab defs (n+1)) (_::_::_::_::_::[_]) [sv (ofR R),none,none,none,none,none])=_;simp only[bj];rw[show ex (ab defs (n+1)) (.newD false 1) [sv (ofR R),none,none,none,none,none]=.next [sv (ofR R),some (.ownD (.k [])),none,none,none,none]from by rw[ex];rfl,bi,fC J,show ca [.bor 0] [sv (ofR R),some (.ownD (.k [])),none,none,none,none]=[sv (ofR R),some (.ownD (.k [])),none,none,none,none]from rfl,e,eJ,bi];rw[show br [.bor 0] [sv (ofR R),some (.ownD (.k [])),none,none,none,none] [sv (ofR R),some (.ownD (.k d)),x,y,none,none]=[sv (ofR R),some (.ownD (.k d)),x,y,none,none]from rfl];rw[im (v:=.non) (by simp[ev]),bi];simp only[f6,f7];rw[im (v:=.int 0) (by simp[ev]),bi];simp only[f6,f7];rw[fC S,show ∀G:Rho,ca [ci 60] G=G from λ_=>rfl];rw[show bA _ _ [sv (ofR R),some (.ownD (.k d)),x,y,sv .non,sv (.int 0)]=_ from e2,eJ,bi];simp[exs,ex,ev,br]
noncomputable def plc(J row:List Int)(k:Nat):Int:=match row[k]? with
 |some x=>J.getD (x % (J.length:Int)).toNat 0
 |none=>J.headD 0
noncomputable def bst(J:List Int)(L:LL):Int:=(hvy L).getD (J.headD 0)
def sM{J:List Int}(h:J≠[]):J.headD 0∈J:=by
 cases J with
 |nil=>exact absurd rfl h
 |cons y ys=>exact .head _
def uQ{J:List Int}(h:J≠[])(x:Int):J.getD (x % (J.length:Int)).toNat 0∈J:=by
 have S:0<J.length:=length_pos_iff.mpr h;have h0:0<=x % (J.length:Int):=Lc _ (by omega);have h1:x % (J.length:Int)<J.length:=K4 _ (by omega);have h2:(x % (J.length:Int)).toNat<J.length:=by omega
 rw[Lv,Kz h2];exact getElem_mem h2
def vS{J row:List Int}{k:Nat}(h:J≠[]):plc J row k∈J:=by
 unfold plc;split
 .exact uQ h _
 .exact sM h
def vT{cal:Cal}{i:Nat}{G:Rho}{J:List Int}(hi:ev cal (.bor i) G=some (ofL J))(h:J≠[]):ev cal (.idx (.bor i) (ci 0)) G=some (.int (J.headD 0)):=by
 rw[fq hi (cH _ _ _)];cases J with
 |nil=>exact absurd rfl h
 |cons y ys =>
  show(gh ((y::ys).map PV.int).length (0:Int)).bind (λj=>((y::ys).map PV.int)[j]?)=_;rw[fc (by omega) (by simp)]
  rfl
def Aa{cal:Cal}{i:Nat}{me:ME}{G:Rho}{J:List Int}{x:Int}(hi:ev cal (.bor i) G=some (ofL J))(hm:ev cal me G=some (.int x))(h:J≠[]):ev cal (.idx (.bor i) (.bin .mod me (.blt .len [.bor i]))) G=some (.int (J.getD (x % (J.length:Int)).toNat 0)):=by
 have U:0<J.length:=length_pos_iff.mpr h;have h0:0<=x % (J.length:Int):=Lc _ (by omega);have h1:x % (J.length:Int)<J.length:=K4 _ (by omega);have h2:(x % (J.length:Int)).toNat<J.length:=by omega
 have S:ev cal (.blt .len [.bor i]) G=some (.int (J.length:Nat)):=by
  rw[bz hi];show some (PV.int ((J.map PV.int).length:Nat))=_;rw[tr]
 rw[fq hi (bM hm S |>.trans (by rw[du,if_pos (by omega)]))];show(gh (J.map PV.int).length (x % (J.length:Int))).bind (λj=>(J.map PV.int)[j]?)=_;rw[tr,fc h0 h1,bind_some,Kx,Lv,Kz h2]
 rfl
def FQ{row:List Int}{k:Nat}{v:PV}(J:v=ofL row\/v=ofS row){x:Int}(h:row[k]?=some x):jU v (.int (k:Nat))=some (.int x):=by
 have S:=(uM.mp h).1;rcases J with rfl|rfl
 .show(gh (row.map PV.int).length ((k:Nat):Int)).bind (λj=>(row.map PV.int)[j]?)=_;rw[fc (by omega) (by rw[tr];omega),bind_some,Int.toNat_natCast,Kx,h]
  rfl
 .show(gh (row.map PV.int).length ((k:Nat):Int)).bind (λj=>(row.map PV.int)[j]?)=_;rw[fc (by omega) (by rw[tr];omega),bind_some,Int.toNat_natCast,Kx,h]
  rfl
def Cf{row:List Int}{v:PV}(J:v=ofL row\/v=ofS row):aY .len [v]=some (.int (row.length:Nat)):=by
 rcases J with rfl|rfl
 .show some (PV.int ((row.map PV.int).length:Nat))=_;rw[tr]
 .show some (PV.int ((row.map PV.int).length:Nat))=_;rw[tr]
def C5(n:Nat){J row:List Int}{L:LL}{v:PV}(hv:v=ofL row\/v=ofS row)(k:Nat)(h:J≠[])(g:dg L)(h8:∀s∈L,s.length<=8) :
  ab defs (n+3) 23 [.val (ofL J),.val v,.val (.int (k:Nat)),.val (ofR L)]=some (.lst [.int (J.headD 0),.int (plc J row k),.int (bst J L)]):=by
 rw[aI (d:=lD) rfl rfl];have Z:∀S Y:Option MV,ev (ab defs (n+2)) (ix 0 0) [sv (ofL J),sv v,sv (.int (k:Nat)),sv (ofR L),S,Y]=some (.int (J.headD 0)):=λS Y=>vT rfl h
 have e5:∀S Y:Option MV,ev (ab defs (n+2)) (.call 22 [.bor 3]) [sv (ofL J),sv v,sv (.int (k:Nat)),sv (ofR L),S,Y]=some (i9 (hvy L)):=λS Y=>aX (vs:=[.val (ofR L)]) rfl (Ce n L g h8)
 have fin:∀p:Int,dA (exs (ab defs (n+2)) [.set 5 (.call 22 [.bor 3]),.ite (.cmp .isN (.bor 5) (.cst .non)) [.set 5 (ix 0 0)] [],.ret (.lst [(ix 0 0),.var 4,.var 5])] [sv (ofL J),sv v,sv (.int (k:Nat)),sv (ofR L),sv (.int p),none])=some (.lst [.int (J.headD 0),.int p,.int (bst J L)]):=λp=>by
  refine vO (e5 _ _) ?_;have U:∀b:Int,dA (exs (ab defs (n+2)) [.ret (.lst [(ix 0 0),.var 4,.var 5])] [sv (ofL J),sv v,sv (.int (k:Nat)),sv (ofR L),sv (.int p),sv (.int b)])=some (.lst [.int (J.headD 0),.int p,.int b]):=λb=>by
   refine fg ?_;rw[ev,gB (Z _ _) (gB (v:=.int p) rfl (gB (v:=.int b) rfl rfl))]
   rfl
  unfold bst;cases hvy L with
  |none=>exact jz (A:=[sv (ofL J),sv v,sv (.int (k:Nat)),sv (ofR L),sv (.int p),sv (.int (J.headD 0))]) (by rw[lE (p:=true) rfl,if_pos rfl];exact nU (im (Z _ _))) (U _)
  |some b=>exact BZ rfl (U b)
 refine vO (Z _ _) ?_;show dA (exs _ (_::[_,_,_]) [sv (ofL J),sv v,sv (.int (k:Nat)),sv (ofR L),sv (.int (J.headD 0)),none])=_;have el:∀S:Option MV,ev (ab defs (n+2)) (.cmp .lt (.bor 2) (.blt .len [.bor 1])) [sv (ofL J),sv v,sv (.int (k:Nat)),sv (ofR L),S,none]=some (.bl (decide (((k:Nat):Int)<(row.length:Nat)))):=λS=>by
  rw[di (x:=.int (k:Nat)) (y:=.int (row.length:Nat)) rfl ((bz (v:=v) rfl).trans (Cf hv))]
  rfl
 unfold plc;cases hk:row[k]? with
 |some x =>
  have hl:=(uM.mp hk).1;refine jz (A:=[sv (ofL J),sv v,sv (.int (k:Nat)),sv (ofR L),sv (.int (J.getD (x % (J.length:Int)).toNat 0)),none]) ?_ (fin _);rw[lE ((el _).trans (by rw[Ks (by omega)])),if_pos rfl];exact nU (im (Aa rfl ((fq (x:=v) (y:=.int (k:Nat)) rfl rfl).trans (FQ hv hk)) h))
 |none =>
  have hl:=Mx.mp hk;exact BZ ((el _).trans (by rw[KH (by omega)])) (fin _)
def Cg(n:Nat)(fs:List PV)(t:List Int):ab defs (n+1) 27 [.brwO fs (t.map .int)]=some (ofL t):=by
 rw[aI (d:=gz) rfl rfl];exact fg (by simp[ev,evs,oV])
def FS(n:Nat)(c:Int)(R:LL)(o:Bool)(t:List Int):ab defs (n+3) 26 [.brwO (tbl c R o) (t.map .int)]=some (.str (ay (hat o t.length))):=by
 rw[aI (d:=ik) rfl rfl];have e:=pA n (.int c) (ofR R) (t.map .int) o t.length;exact fg (by simp[ev,evs,evA,oV,lj,e])
theorem pE(f):∀xs b,(xs.foldl (cc f) b=none/\xs=[]/\b=none)\/∃r,xs.foldl (cc f) b=some r/\(r∈xs\/b=some r)/\(∀x∈xs,f x<=f r)/\∀c,b=some c->f c<=f r
 | [],none=>.inl ⟨rfl,rfl,rfl⟩
 | [],some c=>.inr ⟨c,rfl,.inr rfl,λx S=>(by cases S),λd e=>by cases e;exact ML _⟩
 |x::xs,b=>by
  rw[foldl_cons];rcases pE f xs (cc f b x)with⟨_,_,h⟩|⟨r,h1,h2,h3,h4⟩
  .cases b with
   |none=>cases h
   |some c =>
    have h:(if f c<f x then some x else some c)=none:=h;split at h<;>cases h
  .refine .inr ⟨r,h1,?_,?_,?_⟩
   .rcases h2 with h2|h2
    .exact .inl (.tail _ h2)
    .cases b with
     |none=>cases h2;exact .inl (.head _)
     |some c =>
      have h2:(if f c<f x then some x else some c)=some r:=h2;split at h2
      .cases h2;exact .inl (.head _)
      .exact .inr h2
   .intro y J;rcases nW.mp J with rfl|J
    .cases b with
     |none=>exact h4 _ rfl
     |some c =>
      by_cases q:f c<f y
      .exact h4 y (if_pos q)
      .have:=h4 c (if_neg q);omega
    .exact h3 y J
   .intro c e;subst e;by_cases q:f c<f x
    .have:=h4 x (if_pos q);omega
    .exact h4 c (if_neg q)
def uR{R:LL}(g:∀s∈R,lS s){k:Int}:k∈cI (bx R) ↔ ∃s∈R,k∈s:=by
 unfold cI;rw[Kw,Lf,sK];refine⟨λq=>q.2,λq=>⟨?_,q⟩⟩;obtain⟨s,J,S⟩:=q;have:=(g s J).2 k S;exact mem_map.mpr ⟨k.toNat,mem_range.mpr (by omega),by omega⟩
def Kf{R:LL}(h8:∀s∈R,s.length<=8)(h:Bool)(r:Option Int):∀s∈bhd h R r,s.length<=8:=by
 cases r with
 |none=>exact h8
 |some k =>
  cases h with
  |true=>exact λs J=>h8 s (Kw.mp J).1
  |false =>
   intro s J;have J:s∈sx k R:=J;unfold sx at J;obtain⟨t,ht,rfl⟩:=mem_map.mp ((sortT_perm _).mem_iff.mp J);exact xw (Lz _ _) (h8 t ht)
theorem FU(o:Bool):∀(t:List Int) (k:Nat) {R:LL},(∀s∈R,s.length<=8)->∀s∈lft o k R t,s.length<=8
 | [],_,_,h=>h
 |x::t,k,_,h=>FU o t (k+1) (Kf h _ (some x))
structure Lo(c:Int)(R:LL):Prop where
 p:1<=c
 q:c<=60
 g:dg R
 e:∀s∈R,s.length<=8
 b:∀s∈R,∀x∈s,0<=x/\x<c
structure Tk(c:Int)(t:List Int):Prop where
 nd:t.Nodup
 b:∀x∈t,0<=x/\x<c
section
variable{c:Int}{R:LL}{t:List Int}{o:Bool}
theorem Tk.len(h:Tk c t)(hc:c<=60):t.length<=60:=qE 60 t h.nd λx J=>by have:=h.b x J;omega
theorem Tk.add(h:Tk c t){a:Int}(ha:a∈frl c t):Tk c (t++[a]):=by
 obtain⟨h1,h2⟩:=mB.mp ha;refine⟨nodup_append.mpr ⟨h.nd,by simp,λx J y S z=>h2 (by rw[KW.mp S]at z;exact z▸J)⟩,λx J=>?_⟩;rcases Mt.mp J with J|J
 .exact h.b x J
 .rw[KW.mp J];exact h1
def Tk.room(h:Tk c t)(hc:c<=60)(hn:frl c t≠[]):t.length<60:=by
 obtain⟨a,ha⟩:=exists_mem_of_ne_nil _ hn;have:=(h.add ha).len hc;rw[KU,length_singleton]at this;omega
def Lo.left(l:Lo c R){s:List Int}(J:s∈lft o 0 R t){x:Int}(S:x∈s):x∈frl c t:=
 mB.mpr ⟨vP o (P:=λy=>0<=y/\y<c) t 0 _ l.b _ J x S,λz=>sB (R:=[]) o t 0 _ x (.inr z) _ J S⟩
def Lo.free(l:Lo c R)(h:bo (lft o 0 R t)=.non):frl c t≠[]:=by
 obtain⟨J,S⟩:=zT h;cases e:lft o 0 R t with
 |nil=>exact absurd e S
 |cons s L =>
  cases s with
  |nil=>rw[e]at J;exact absurd (K1) J
  |cons y s=>exact ne_nil_of_mem (l.left (o:=o) (s:=y::s) (by rw[e];exact .head _) (.head _))
theorem Lo.bst(l:Lo c R)(h:bo (lft o 0 R t)=.non):bst (frl c t) (lft o 0 R t)∈frl c t:=by
 unfold My.bst;cases e:hvy (lft o 0 R t)with
 |none=>exact sM (l.free h)
 |some a =>
  show a∈_;unfold hvy at e;rcases pE (bx (lft o 0 R t)) (cI (bx (lft o 0 R t))) none with⟨J,_⟩|⟨r,J,S,_⟩
  .rw[J]at e;cases e
  .rw[e]at J;cases J;obtain⟨s,U,Y⟩:=(uR (iP o t 0 l.g).1).mp (S.resolve_right nofun);exact l.left U Y
noncomputable def nxt(c:Int)(o:Bool)(R:LL)(rw rm:List Int)(wg:Bool)(t:List Int)(k0 k1:Nat):Int:=
 if hat o t.length=true then(if wg=true then bst (frl c t) (lft o 0 R t)else plc (frl c t) rm k1)else plc (frl c t) rw k0
noncomputable def up0(o:Bool)(t:List Int)(k:Nat):Nat:=if hat o t.length=true then k else k+1
noncomputable def up1(o:Bool)(t:List Int)(k:Nat):Nat:=if hat o t.length=true then k+1 else k
inductive kM(c:Int)(o:Bool)(R:LL)(rw rm:List Int)(wg:Bool):List Int->Nat->Nat->List Int->Prop
 | done {t:List Int}{k0 k1:Nat}:bo (lft o 0 R t)≠.non->kM c o R rw rm wg t k0 k1 t
 | step {t tf:List Int}{k0 k1:Nat}:bo (lft o 0 R t)=.non->kM c o R rw rm wg (t++[nxt c o R rw rm wg t k0 k1]) (up0 o t k0) (up1 o t k1) tf->kM c o R rw rm wg t k0 k1 tf
theorem Lo.nxt(l:Lo c R)(h:bo (lft o 0 R t)=.non){rw rm:List Int}{wg:Bool}{k0 k1:Nat}:nxt c o R rw rm wg t k0 k1∈frl c t:=by
 unfold My.nxt;split
 .split
  .exact l.bst h
  .exact vS (l.free h)
 .exact vS (l.free h)
theorem Lo.runs(l:Lo c R){rw rm:List Int}{wg:Bool}:∀(m:Nat) (t:List Int) (k0 k1:Nat),Tk c t->61<=t.length+m->∃J,kM c o R rw rm wg t k0 k1 J/\Tk c J
 |0,t,k0,k1,h,hm=>by have:=h.len l.q;omega
 |m+1,t,k0,k1,h,hm=>by
  by_cases hw:bo (lft o 0 R t)=.non
  .obtain⟨J,r,k⟩:=l.runs m (t++[My.nxt c o R rw rm wg t k0 k1]) (up0 o t k0) (up1 o t k1) (h.add (l.nxt hw)) (by rw[KU,length_singleton];omega);exact⟨J,.step hw r,k⟩
  .exact⟨t,.done hw,h⟩
end
def vU(n:Nat)(c:Int)(R:LL)(o:Bool)(t:List Int)(h0:0<=c)(h1:c<=60):ab defs (n+1) 28 [.brwO (tbl c R o) (t.map .int)]=some (ofL (frl c t)):=by
 rw[aI (d:=il) rfl rfl];have J:c.toNat<=10000:=by omega
 have e:ev (ab defs n) (.comp .rng [.fld 0 0] [0] (.cmp .notIn (.bor 0) (.fldL 1)) (.var 0)) [some (.brwO (tbl c R o) (t.map .int))]=some (ofL (frl c t)):=by
  rw[ev,show evs (ab defs n) [.fld 0 0] [some (.brwO (tbl c R o) (t.map .int))]=some [.int c]from by simp[evs,ev,lj],bind_some,f8 h0 (by omega),bind_some,if_pos (by simpa using J),cZ (p:=λ(k:Nat)=>!decide ((k:Int)∈t)) (h:=λ(k:Nat)=>.int (k:Int))]
  .unfold frl;rw[map_some];show some (PV.lst _)=some (PV.lst ((map _ _).map PV.int));rw[KY]
   rfl
  .intro k _;simp[ev,eF,eD,oV,dz]
  .intro k _ _;simp[ev,eF]
 exact fg e
def qP(n:Nat){Rb:LL}(Y:∀s∈Rb,s.length<=8)(Z:Rb.length<=8){o:Bool}{b:Int}(J:b=if o=true then 1 else 0){t:List Int}(nd:t.Nodup)(ht:t.length<=60):ab defs (n+2) 24 [.val (.lst (Rb.map ofS)),.brw (t.map .int),.val (.int b)]=some (ofR (lft o 0 (sortT Rb) t)):=by
 rw[aI (d:=dY) rfl rfl];have S:=λb=>jC n t b (by omega)
 have U:=zY n Rb (sortI (tb t b)) (sortI (tb t (1-b))) (λs h=>by have:=Y s h;omega) (by omega);have eq:=qJ o t 0 Rb nd;rw[(qM J t).1,(qM J t).2]at eq;rw[<- eq]at U;exact fg (aX (vs:=[.val (.lst (Rb.map ofS)),.val (ofL (sortI (tb t b))),.val (ofL (sortI (tb t (1-b))))]) (kJ rfl (lF (aX (vs:=[.brw (t.map .int),.val (.int b)]) rfl (S b)) (lF (aX (vs:=[.brw (t.map .int),.val (.int (1-b))]) rfl (S (1-b))) rfl))) U)
noncomputable def mAt:ME:=.idx (.bor 7) (.bin .mod (.bor 6) (.blt .len [.bor 7]))
noncomputable def Ab:List MS:=[.ite (.cmp .isN (.call 18 [(.call 24 [.bor 2,.bor 5,.bor 3])]) (.cst .non)) [.set 7 (.call 19 [.bor 1,.bor 5]),.takeO none 4 31 [mAt],.append 5 mAt] []]
noncomputable def C6:ME:=.slice (.bor 0) (ci 3) (.bin .add (ci 3) (.bin .mod (.bin .fdiv (.call 11 [.bor 0,(ci 2)]) (ci 160)) (ci 4)))
noncomputable def Iq:List MS:=[.mkO 4 [(.tup [.var 1,(.blt .tupleOf [(.blt .sorted [.bor 2])])]),(.idx (.lst [(cs "weaver"),(cs "moth")]) (.bor 3))],
  .setOwn 5 (.lst []),
  .for1 6 .seq [C6] Ab]
def Ac(n:Nat){c b:Int}{Rb:LL}{o:Bool}(lo:Lo c (sortT Rb))(h8:∀s∈Rb,s.length<=8)(hl:Rb.length<=8)(hb:b=if o=true then 1 else 0)(Z:MV)(x:Int){t:List Int}(k:Tk c t)(x7 x8 x9 J S:Option MV) :
  ∃(t':List Int) (y7:Option MV),Tk c t'/\exs (ab defs (n+7)) Ab [some Z,sv (.int c),sv (.lst (Rb.map ofS)),sv (.int b),some (.ownO false (tbl c (sortT Rb) o) (t.map .int)),some (.own (t.map .int)),sv (.int x),x7,x8,x9,J,S]
  =.next [some Z,sv (.int c),sv (.lst (Rb.map ofS)),sv (.int b),some (.ownO false (tbl c (sortT Rb) o) (t'.map .int)),some (.own (t'.map .int)),sv (.int x),y7,x8,x9,J,S]:=by
 have aL:=qP (n+5) h8 hl hb k.nd (k.len lo.q);have ew:=zX (n+6) (lft o 0 (sortT Rb) t);have ec:∀G:Rho,(G[2]?).join=sv (.lst (Rb.map ofS))->(G[5]?).join=some (.own (t.map .int))->(G[3]?).join=sv (.int b)->ev (ab defs (n+7)) (.cmp .isN (.call 18 [(.call 24 [.bor 2,.bor 5,.bor 3])]) (.cst .non)) G=some (.bl (iw (bo (lft o 0 (sortT Rb) t)).pv)):=λG h2 h5 h3=>by
  rw[di (x:=(bo (lft o 0 (sortT Rb) t)).pv) (aX (lF (aX (vs:=[.val (.lst (Rb.map ofS)),.brw (t.map .int),.val (.int b)]) (kJ (by rw[h2];rfl) (kJ (by rw[h5];rfl) (kJ (by rw[h3];rfl) rfl))) aL) rfl) ew) (cH _ _ _),qC]
  rfl
 by_cases hw:bo (lft o 0 (sortT Rb) t)=.non
 .have U:=lo.free hw;have len:=k.room lo.q U;rw[hw]at ec;have e1:∀G:Rho,G=[some Z,sv (.int c),sv (.lst (Rb.map ofS)),sv (.int b),some (.ownO false (tbl c (sortT Rb) o) (t.map .int)),some (.own (t.map .int)),sv (.int x),x7,x8,x9,J,S]->ev (ab defs (n+7)) (.call 19 [.bor 1,.bor 5]) G=some (ofL (frl c t)):=λG h=>by
   subst h;exact aX (vs:=[.val (.int c),.brw (t.map .int)]) rfl (qN (n+6) c t (by have:=lo.p;omega) lo.q (by omega))
  obtain⟨a,ha,ea⟩:∃a∈frl c t,∀G:Rho,(G[7]?).join=sv (ofL (frl c t))->(G[6]?).join=sv (.int x)->ev (ab defs (n+7)) mAt G=some (.int a):=by
   exact⟨(frl c t).getD (x % ((frl c t).length:Int)).toNat 0,uQ U x,λG h7 h6=>Aa (by rw[ev,h7];rfl) (by rw[ev,h6];rfl) U⟩
  obtain⟨⟨b0,b1⟩,b2⟩:=mB.mp ha;have et:=zR (n+1) c (sortT Rb) o t a lo.g hw b0 b1 b2 (by omega);have Y:∃s,sc? (bo (lft o 0 (sortT Rb) (t++[a]))).pv=some s:=by
   rcases eQ (lft o 0 (sortT Rb) (t++[a]))with e|e|e<;>rw[e]<;>exact⟨_,rfl⟩
  obtain⟨w9,Y⟩:=Y;refine⟨t++[a],sv (ofL (frl c t)),k.add ha,?_⟩;refine C2 (A:=[some Z,sv (.int c),sv (.lst (Rb.map ofS)),sv (.int b),some (.ownO false (tbl c (sortT Rb) o) ((t++[a]).map .int)),some (.own ((t++[a]).map .int)),sv (.int x),sv (ofL (frl c t)),x8,x9,J,S]) (ec _ rfl rfl rfl) ?_ rfl;refine je (e1 _ rfl) ?_;refine uI (A:=[some Z,sv (.int c),sv (.lst (Rb.map ofS)),sv (.int b),some (.ownO false (tbl c (sortT Rb) o) ((t++[a]).map .int)),some (.own (t.map .int)),sv (.int x),sv (ofL (frl c t)),x8,x9,J,S]) ?_ ?_
  .show ex (ab defs (n+7)) _ [some Z,sv (.int c),sv (.lst (Rb.map ofS)),sv (.int b),some (.ownO false (tbl c (sortT Rb) o) (t.map .int)),some (.own (t.map .int)),sv (.int x),sv (ofL (frl c t)),x8,x9,J,S]=_;rw[ex];simp only[getElem?_cons_succ,getElem?_cons_zero,Option.join_some];rw[gB (ea _ rfl rfl) rfl];simp only[bind_some,KI,map_nil,et,Y]
   rfl
  .refine nU ((C1 (xs:=t.map .int) rfl (ea _ rfl rfl) (by rw[tr];omega)).trans ?_);rw[LR]
   rfl
 .refine⟨t,x7,k,Im ((ec _ rfl rfl rfl).trans ?_) rfl⟩;rcases eQ (lft o 0 (sortT Rb) t)with e|e|e
  .rw[e];rfl
  .rw[e];rfl
  .exact absurd e hw
def FV(n:Nat)(h4:ab defs (n+7) 4000 []≠none){c b:Int}{Rb:LL}{o:Bool}(lo:Lo c (sortT Rb))(h8:∀s∈Rb,s.length<=8)(hl:Rb.length<=8)(hb:b=if o=true then 1 else 0)(ns:List Int)(a0:ns.length<=63) :
  ∃(t:List Int) (U J:Option MV),Tk c t/\exs (ab defs (n+7)) Iq [some (.brw (ns.map .int)),sv (.int c),sv (.lst (Rb.map ofS)),sv (.int b),none,none,none,none,none,none,none,none]
  =.next [some (.brw (ns.map .int)),sv (.int c),sv (.lst (Rb.map ofS)),sv (.int b),some (.ownO false (tbl c (sortT Rb) o) (t.map .int)),some (.own (t.map .int)),U,J,none,none,none,none]:=by
 have lp:∀(S t:List Int) (Z Y:Option MV),Tk c t->∃(t':List Int) (U J:Option MV),Tk c t'/\bA (λv A=>exs (ab defs (n+7)) Ab (put A 6 (.val v))) (S.map .int) [some (.brw (ns.map .int)),sv (.int c),sv (.lst (Rb.map ofS)),sv (.int b),some (.ownO false (tbl c (sortT Rb) o) (t.map .int)),some (.own (t.map .int)),Z,Y,none,none,none,none]
  =.next [some (.brw (ns.map .int)),sv (.int c),sv (.lst (Rb.map ofS)),sv (.int b),some (.ownO false (tbl c (sortT Rb) o) (t'.map .int)),some (.own (t'.map .int)),U,J,none,none,none,none]:=by
  intro S
  induction S with
  |nil=>exact λt Z Y k=>⟨t,Z,Y,k,by rw[map_nil,bA]⟩
  |cons x S ih =>
   intro t Z Y k;obtain⟨t1,J,k1,e1⟩:=Ac n lo h8 hl hb (.brw (ns.map .int)) x k Y none none none none;obtain⟨t2,z6,z7,k2,e2⟩:=ih t1 (sv (.int x)) J k1;refine⟨t2,z6,z7,k2,?_⟩;rw[KI,ip (ρ1:=[some (.brw (ns.map .int)),sv (.int c),sv (.lst (Rb.map ofS)),sv (.int b),some (.ownO false (tbl c (sortT Rb) o) (t1.map .int)),some (.own (t1.map .int)),sv (.int x),J,none,none,none,none])]
   .exact e2
   .exact e1
 obtain⟨S,aH⟩:∃S:List Int,∀G:Rho,(G[0]?).join=some (.brw (ns.map .int))->ev (ab defs (n+7)) C6 G=some (ofL S):=by
  refine⟨gX ns (some 3) (some (3+cellOf ns 2 / 160 % 4)),λG h0=>?_⟩;refine qI (x:=ofL ns) (l:=some 3) (h:=some (3+cellOf ns 2 / 160 % 4)) (by rw[ev,h0];rfl) rfl ?_ (by simp[gi]);have e:ev (ab defs (n+7)) (.call 11 [.bor 0,(ci 2)]) G=some (.int (cellOf ns 2)):=aX (vs:=[.brw (ns.map .int),.val (.int 2)]) (kJ (by rw[h0];rfl) rfl) (qG (n+6) (.brw (ns.map .int)) ns 2 rfl (by decide));rw[bM (cH _ _ _) (bM (kI e (by decide)) (cH _ _ _) |>.trans (by rw[du,if_pos (by decide)])),qB]
  rfl
 obtain⟨t,U,J,k,e⟩:=lp S [] none none ⟨K2,λx h=>(by cases h)⟩;refine⟨t,U,J,k,?_⟩;refine uI (A:=[some (.brw (ns.map .int)),sv (.int c),sv (.lst (Rb.map ofS)),sv (.int b),some (.ownO false (tbl c (sortT Rb) o) []),none,none,none,none,none,none,none]) ?_ ?_
 .have e1:evs (ab defs (n+7)) [(.tup [.var 1,(.blt .tupleOf [(.blt .sorted [.bor 2])])]),(.idx (.lst [(cs "weaver"),(cs "moth")]) (.bor 3))] [some (.brw (ns.map .int)),sv (.int c),sv (.lst (Rb.map ofS)),sv (.int b),none,none,none,none,none,none,none,none]=some [.tup [.int c,ofR (sortT Rb)],.str (ay o)]:=by
   refine gB (B1 (gB (v:=.int c) rfl (gB (v:=ofR (sortT Rb)) ?_ rfl))) (gB ?_ rfl)
   .refine(bz (v:=.lst ((sortT Rb).map ofS)) ?_).trans rfl;refine(bz (v:=.lst (Rb.map ofS)) rfl).trans ?_;rw[ju,mz,bind_some,iX (by omega)]
   .rw[fq (x:=.lst [.str "weaver",.str "moth"]) (y:=.int b) rfl rfl,hb];cases o<;>rfl
  rw[ex,e1];show(if yx _ 4=true/\_ then _ else _)=_;rw[if_pos ⟨rfl,h4⟩]
  rfl
 refine uI (A:=[some (.brw (ns.map .int)),sv (.int c),sv (.lst (Rb.map ofS)),sv (.int b),some (.ownO false (tbl c (sortT Rb) o) []),some (.own []),none,none,none,none,none,none]) rfl ?_;refine nU ?_;rw[fC (Ke (aH _ rfl))];show(MM.R.back _ _ (bA _ _ [some (.brw (ns.map .int)),sv (.int c),sv (.lst (Rb.map ofS)),sv (.int b),some (.ownO false (tbl c (sortT Rb) o) (([]:List Int).map .int)),some (.own (([]:List Int).map .int)),none,none,none,none,none,none]))=_;rw[e]
 rfl
noncomputable def Ir:ME:=.slice (.bor 0) (ci 3) (.bin .add (ci 3) (.bin .mod (.bin .fdiv (.bor 4) (ci 4)) (ci 40)))
noncomputable def Iu:List MS:=[.set 1 (.bin .add (ci 1) (.bin .mod (.call 11 [.bor 0,(ci 0)]) (ci 60))),
  .set 2 (.call 15 [.bor 0,.bor 1]),
  .set 3 (.blt .tupleOf [(.blt .sorted [.bor 2])]),
  .set 4 (.call 11 [.bor 0,(ci 2)]),
  .set 5 (.bin .mod (.bor 4) (ci 2)),
  .set 6 (.idx (.lst [(cs "weaver"),(cs "moth")]) (.bin .mod (.bin .fdiv (.bor 4) (ci 2)) (ci 2))),
  .set 7 (.call 21 [Ir]),
  .setOwn 8 (.blt .listOf [.bor 7])]
def Ch(n:Nat)(ns:List Int)(ar:ns.length<=63)(x:Rho):∃(c b:Int) (o my:Bool) (Rb:LL) (row:List Int) (z4:PV),Lo c (sortT Rb)/\(∀s∈Rb,s.length<=8)/\Rb.length<=8/\b=(if o=true then 1 else 0)/\row.length<=63 /\
  exs (ab defs (n+3)) Iu (some (.brw (ns.map .int))::none::none::none::none::none::none::none::none::x)=.next (some (.brw (ns.map .int))::sv (.int c)::sv (.lst (Rb.map ofS))::sv (ofR (sortT Rb))::sv z4::sv (.int b)::sv (.str (ay my))::sv (ofL row)::some (.own (row.map .int))::x):=by
 have ec:∀(k:Int) (h0:0<=k) (r:Rho),ev (ab defs (n+3)) (.call 11 [.bor 0,(ci k)]) (some (.brw (ns.map .int))::r)=some (.int (cellOf ns k)):=λk h0 r=>aX (vs:=[.brw (ns.map .int),.val (.int k)]) rfl (qG (n+2) (.brw (ns.map .int)) ns k rfl h0)
 have S:=ec 0 (by decide);have U:=ec 2 (by decide);generalize cellOf ns 0=z0 at S;generalize cellOf ns 2=J at U;obtain⟨c,hc⟩:∃c,c=1+z0 % 60:=⟨_,rfl⟩;have c0:1<=c/\c<=60:=by omega
 obtain⟨Rb,er,hR,hl⟩:=uO n ns c (by omega) (by omega);have g:dg (sortT Rb):=⟨λts aH=>(hR ts (eK.mp aH)).1,sortT_rises _,by rw[sortT_len];omega⟩;have lo:Lo c (sortT Rb):=⟨c0.1,c0.2,g,λs Y=>(hR s (eK.mp Y)).2.1,λs Y=>(hR s (eK.mp Y)).2.2⟩;obtain⟨o,ho⟩:∃o:Bool,J % 2=if o=true then 1 else 0:=by
  rcases(by omega:J % 2=0\/J % 2=1)with e|e<;>rw[e]
  .exact⟨false,rfl⟩
  .exact⟨true,rfl⟩
 obtain⟨my,aL⟩:∃my:Bool,jU (.lst [.str "weaver",.str "moth"]) (.int (J / 2 % 2))=some (.str (ay my)):=by
  rcases(by omega:J / 2 % 2=0\/J / 2 % 2=1)with e|e<;>rw[e]
  .exact⟨false,rfl⟩
  .exact⟨true,rfl⟩
 have bK:(gX ns (some 3) (some (3+J / 4 % 40))).length<=63:=xw (vM ns _ _) ar;obtain⟨row,a1,Z⟩:=C4 (n+2) (gX ns (some 3) (some (3+J / 4 % 40))) (by omega);refine⟨c,J % 2,o,my,Rb,row,.int J,lo,λs Y=>(hR s Y).2.1,hl,ho,by omega,?_⟩;refine je (v:=.int c) ?_ (je (v:=.lst (Rb.map ofS)) ?_ (je (v:=ofR (sortT Rb)) ?_ (je (v:=.int J) (U _) (je (v:=.int (J % 2)) ?_ (je (v:=.str (ay my)) ?_ (je (v:=ofL row) ?_ (nU ?_)))))))
 .rw[bM (cH _ _ _) ((bM (S _) (cH _ _ _)).trans (by rw[du,if_pos (by decide)])),qB,hc]
 .exact aX (vs:=[.brw (ns.map .int),.val (.int c)]) rfl er
 .refine(bz (v:=.lst ((sortT Rb).map ofS)) ?_).trans rfl;refine(bz (v:=.lst (Rb.map ofS)) rfl).trans ?_;rw[ju,mz,bind_some,iX (by omega)]
 .exact(bM (x:=.int J) (y:=.int 2) rfl rfl).trans (by rw[du,if_pos (by decide)])
 .refine(fq (x:=.lst [.str "weaver",.str "moth"]) (y:=.int (J / 2 % 2)) rfl ?_).trans aL;exact(bM (y:=.int 2) (kI (x:=J) (k:=2) rfl (by decide)) rfl).trans (by rw[du,if_pos (by decide)])
 .refine sr nofun (qI (x:=ofL ns) (l:=some 3) (h:=some (3+J / 4 % 40)) rfl rfl ?_ (by simp[gi])) Z;rw[bM (cH _ _ _) ((bM (y:=.int 40) (kI (x:=J) (k:=4) rfl (by decide)) rfl).trans (by rw[du,if_pos (by decide)])),qB]
  rfl
 .exact xh (xs:=row.map .int) ((bz (v:=.lst (row.map .int)) rfl).trans rfl)
noncomputable def top(i:Nat):Stmt:=PySem.Challenge.pw_mothloom_k48_plain_rower_weigher.main.body.getD i (.Pass ⟨0,0,0,0⟩)
noncomputable def Ad:Stmt:=cF (top 27) 0
def scI:bQ ["self","loom","first"] ["self","loom","first"] (af Ad):=⟨rfl,rfl,rfl,by decide +kernel,rfl,by decide +kernel,by decide +kernel⟩
def Ci {P:Program}{w:World}{K:MP}{mg:Str->Option Value}{base:Heap}{f C:Addr}{fd:FuncData} (D:FnD K "__init__" "Table.__init__" Ad f fd) (c:vK K C):bw P w K mg base CX0 1 f fd ["self","loom","first"] (spI K C):=by
 obtain⟨c0,d0,k0,o0,m0,a0,ar,t1,a1,sl,lk,hc,rfl⟩:=D.it;have n0:=c.nf _ (show("hole_count":Str)∈jo by simp[jo]);have n1:=c.nf _ (show("ribbons":Str)∈jo by simp[jo]);have n2:=c.nf _ (show("opener":Str)∈jo by simp[jo]);refine ez lk hc scI (λvs H Q E h=>?_) (λA outer s H vs Q E hr h=>?_)
 .obtain⟨x,dx,J,u,r,o,rfl,_⟩:=h
  rfl
 .obtain⟨x,dx,J,u,r,o,rfl,Y,ht,k⟩:=h;refine⟨_,al (jj (pv 0) (iD tM (pv 1) dh (λ_ _=>rfl)) rfl) (al (jj (pv 0) (iD tM (pv 1) dh (λ_ _=>rfl)) rfl) (al (jj (pv 0) (pv 2) rfl) (aU (jj (pv 0) (mJ aS) rfl)))),?_⟩;have s1:SqT K (upd H x (.ins C dx (dE "hole_count" u []))) J [u,r]:=BR ht Y;refine⟨_,rfl,J,_,0,u,rfl,rfl,ht,rfl,_,rfl,x,C,dx,[],rfl,Y,c.cls,n0,(by show 0<1000;decide),?_⟩;refine⟨_,rfl,J,_,1,r,rfl,rfl,s1,rfl,_,rfl,x,C,dx,_,rfl,ax,c.cls,n1,(by show 1<1000;decide),?_⟩;refine⟨_,rfl,_,rfl,x,C,dx,_,rfl,ax,c.cls,n2,KD (kE (kE (pe 0))) (by decide),?_⟩;refine⟨KN _,λl S=>?_⟩;have nx:l≠x:=λz=>by rw[z,ax]at S;cases S
  have Z:H l=none:=by rw[aA nx,aA nx,aA nx]at S;exact S
  refine⟨_,rfl,x,C,dx,_,rfl,(by rw[aA (Ku nx)];exact ax),c.cls,c.nt,KD (kE (kE (kE (pe 0)))) (by decide),?_⟩;refine k l _ Z ax (by rw[aA nx,ax]) λb o U eb=>?_
  rw[aA U,aA (a9 eb Z),aA U,aA U,aA U];exact eb
noncomputable def cJ:Stmt:=top 25
noncomputable def bS:Stmt:=top 41
noncomputable def cK:Stmt:=top 43
noncomputable def bU:Stmt:=top 45
noncomputable def bV:Stmt:=top 46
noncomputable def ba:Stmt:=top 47
noncomputable def bu:Stmt:=cF (top 22) 0
noncomputable def d5:List Str:=["self","hand"]
noncomputable def cO:Stmt:=cF (top 22) 1
noncomputable def gD:List Str:=["self","table"]
noncomputable def eT:Stmt:=cF (top 22) 2
noncomputable def ou:List Str:=["self","hand","hole"]
noncomputable def bm:Stmt:=cF (top 23) 0
noncomputable def db:List Str:=["self","hand","row"]
noncomputable def bg:Stmt:=cF (top 23) 1
noncomputable def cM:List Str:=["self","table","free"]
noncomputable def cu:Stmt:=cF (top 23) 2
noncomputable def fE:List Str:=["self","hand","hole"]
noncomputable def bG:Stmt:=cF (top 24) 0
noncomputable def d6:List Str:=["self","table","hole"]
noncomputable def og:Stmt:=top 48
section
open PySem PySem.Spec PyProof.Rows L2 MM List Option
inductive Vw(K:MP)(H:Hp)(O:List Addr):Rho->L2.St->Prop
 | nil:Vw K H O [] []
 | skip {G:Rho}{σ:L2.St}{z:Option V}:Vw K H O G σ->Vw K H O (none::G) (z::σ)
 | val {G:Rho}{σ:L2.St}{v:PV}{u:V}:Rep K (ah H O) v u->Vw K H O G σ->Vw K H O (sv v::G) (some u::σ)
 | brw {G:Rho}{σ:L2.St}{xs:List PV}{a:Addr}{us:List V}:SqL K H a us->Reps K (ah H O) xs us->Vw K H O G σ->Vw K H O (some (.brw xs)::G) (some (.ref a)::σ)
 | obj {G:Rho}{σ:L2.St}{fs xs:List PV}{a:Addr}:eG K H (ah H O) fs xs a->Vw K H O G σ->Vw K H O (some (.brwO fs xs)::G) (some (.ref a)::σ)
section
variable{K:MP}{H:Hp}{O:List Addr}
theorem Vw.get:∀{G:Rho}{σ:L2.St}{i:Nat}{m:MV},Vw K H O G σ->G[i]?=some (some m)->fk m=false/\∃u,σ[i]?=some (some u)/\fj K H O H m u:=by
 intro G σ i m h
 induction h generalizing i with
 |nil=>intro e;simp at e
 |skip _ ih =>
  intro e;cases i with
  |zero=>cases e
  |succ i=>exact ih e
 |val r _ ih =>
  intro e;cases i with
  |zero=>cases e;exact⟨rfl,_,rfl,r⟩
  |succ i=>exact ih e
 |brw s r _ ih =>
  intro e;cases i with
  |zero=>cases e;exact⟨rfl,_,rfl,_,_,rfl,s,r⟩
  |succ i=>exact ih e
 |obj r _ ih =>
  intro e;cases i with
  |zero=>cases e;exact⟨rfl,_,rfl,_,rfl,r⟩
  |succ i=>exact ih e
theorem Vw.len{G:Rho}{σ:L2.St}(h:Vw K H O G σ):G.length=σ.length:=by
 induction h with
 |nil=>rfl
 |skip _ ih=>simp[ih]
 |val _ _ ih=>simp[ih]
 |brw _ _ _ ih=>simp[ih]
 |obj _ _ ih=>simp[ih]
theorem Vw.st{G:Rho}{σ:L2.St}(h:Vw K H O G σ)(J:∀a∈O,H a≠none):a7 K H [] O H G σ where
 keep:=ae.refl H
 here:=J
 sub:=λa ha=>by cases ha
 old:=λa ha=>by cases ha
 len:=h.len
 slot:=λi m e=>(h.get e).2
 apart:=λi j m S a _ e _ o=>by rw[(h.get e).1]at o;cases o
 inn:=nw λi m e=>by
  have:=(h.get e).1;cases m<;>first|rfl|(cases this)
end
noncomputable def tV(K:MP)(cal:Cal)(me:ME):TE:=λσ H Q=>∃O G v,(∀a∈O,H a≠none)/\Vw K H O G σ/\ev cal me G=some v/\∀u H',ae H H'->Rep K (ah H' O) v u->Q u H'
noncomputable def tVB(K:MP)(cal:Cal)(me:ME):TT:=λσ H Q=>∃O G b,(∀a∈O,H a≠none)/\Vw K H O G σ/\ev cal me G=some (.bl b)/\∀H',ae H H'->Q b H'
section
variable{X:Cx}{T:Tab}{k:Nat}{cal:Cal}
def Kg{me:ME}{e:Expr}(g:Gf X T k cal)(h:chk T me X.N X.env.scope e=true)(J:aZ me=false):PE X e (tV X.K cal me):=
 (az me g h).1.imp λσ H Q ⟨O,G,v,S,vw,U,q⟩=>⟨H,[],O,G,v,vw.st S,U,λu H' s g=>q u H' s (g.2 J)⟩
def Kh{me:ME}{e:Expr}(g:Gf X T k cal)(h:chk T me X.N X.env.scope e=true):PT X e (tVB X.K cal me):=
 (az me g h).2.imp λσ H Q ⟨O,G,v,J,vw,S,q⟩=>⟨H,[],O,G,v,vw.st J,by unfold evB;rw[S];rfl,λH' s=>q H' s⟩
end
noncomputable def sN(K:MP):Sp:=λvs H Q _=>∃(a:Addr) (ns:List Int),vs=[.ref a]/\ns.length<=63/\SqL K H a (ns.map V.int)/\∀H',Q (.bl true) H'
section
variable{T:Tab}{P:Program}{w:World}{K:MP}{mg:Str->Option Value}{base:Heap}{ds:List MD}
def C7(pr:ia T K mg ds){f:Nat}{d:MD}{m:Str}(hd:ds[f]?=some d)(hm:d.meth=some m){C:Addr}(hC:IsC K C):∃st Z fd,pi T K mg st d Z fd/\gG K C m Z:=by
 obtain⟨l2,S,U,Y,el,D2,bd⟩:=pr.defs.get hd;rcases D2.named with⟨J,_⟩|⟨m',J,nd⟩
 .rw[hm]at J;cases J
 .rw[hm]at J;cases J;exact⟨S,U,Y,D2,nd C hC⟩
def Iv(U:ds.length<=1000)(S:ia T K mg ds){X:Cx}{n:Nat}(h1:X.prog=P)(h2:X.w=w)(h3:X.K=K)(h4:X.mg=mg)(h5:X.base=base)(h6:X.calm=true)(hr:dH n X.A):Gf X T n (ab ds n):=by
 subst h1 h2 h3 h4 h5;exact {
  calm:=h6
  room:=hr
  fns:=λZ x J hp=>by
   rw[S.tab,Kx]at J;cases hd2:ds[Z]? with
   |none=>rw[hd2]at J;cases J
   |some d2 =>
    rw[hd2]at J;cases J;obtain⟨hm,aL⟩:=mw hp;obtain⟨l2,aP,ar,aH,el,Y,bd⟩:=S.defs.get hd2;rcases Y.named with⟨_,nd⟩|⟨m,em,_⟩
    .exact⟨ar,aH,d2.params,by rw[aL];exact nd,Y.fn.kp,Y.binds,(gp U S n Z d2 hd2 aP ar aH Y).m,λl hl=>by rw[el]at hl;cases hl;exact bd⟩
    .rw[hm]at em;cases em
  cls:=λC h=>⟨(S.cls C h).cls,(S.cls C h).nf,(S.cls C h).nt⟩
  meths:=λZ m J C hC=>by
   rw[S.tabM,Kx]at J;cases hd2:ds[Z]? with
   |none=>rw[hd2]at J;cases J
   |some d2 =>
    rw[hd2]at J;obtain⟨st,fa,fd,Y,nd⟩:=C7 S hd2 (uW J) hC;exact⟨fa,fd,d2.params,nd,Y.binds,(gp U S n Z d2 hd2 st fa fd Y).m⟩
  methsT:=λZ m J C hC=>by
   rw[S.tabM,Kx]at J;cases hd2:ds[Z]? with
   |none=>rw[hd2]at J;cases J
   |some d2 =>
    rw[hd2]at J;obtain⟨st,fa,fd,Y,nd⟩:=C7 S hd2 (uW J) hC;exact⟨fa,fd,d2.params,nd,Y.binds,(gp U S n Z d2 hd2 st fa fd Y).t⟩
  lvl:=λh=>dH.mono hr (zq U h)
  ini:=λ_=>by
   obtain⟨C,h1,h2,fa,fd,ps,h3,h4,h5,h6⟩:=S.ini;exact⟨C,h1,h2,fa,fd,ps,h3,h4,h5 _ _ _,h6⟩
  blt:=S.blt
  gs:=S.gs
  fnsF:=λZ x J hp=>by
   rw[S.tab,Kx]at J;cases hd2:ds[Z]? with
   |none=>rw[hd2]at J;cases J
   |some d2 =>
    rw[hd2]at J;cases J;obtain⟨hm,aL⟩:=mw hp;obtain⟨l2,aP,ar,aH,el,Y,bd⟩:=S.defs.get hd2;rcases Y.named with⟨_,nd⟩|⟨m,em,_⟩
    .exact⟨ar,aH,d2.params,by rw[aL];exact nd,Y.fn.kp,Y.binds,(gp U S n Z d2 hd2 aP ar aH Y).f⟩
    .rw[hm]at em;cases em }
end
def dl:defs.length<=1000:=by decide
structure Fr(X:Cx)(N:List Str)(st:Stmt)(n:Nat):Prop where
 nn:X.N=N
 s:X.env.scope=af st
 d:Df X
 g:Gf X tab n (ab defs n)
 x:∀e s,¬ X.xe e s
section
variable{X:Cx}{N:List Str}{st:Stmt}{n:Nat}
theorem Fr.of{P:Program}{w:World}{K:MP}{mg:Str->Option Value}{base:Heap}{q:Str}{S:Addr}{J:Value}{A:Around}{outer:List Env}{s:Shared}{H:Hp}{E:XK}{ps:List Str}(U:ia tab K mg defs)(sc:bQ N ps (af st))(Y:dH n (A.deeper (envOfC q (af st) s.heap.objs.size S J))) :
  Fr (cU CX0 P w K mg base N q (af st) S J A outer s H E).nox N st n:=
 ⟨rfl,rfl,⟨sc.nd,λ_=>rfl,PassesOwn.never,by
  have Z:(cU CX0 P w K mg base N q (af st) S J A outer s H E).nox.env.scope.kind=.function:=sc.kind;unfold Env.blockKind;rw[Z]
  rfl⟩,Iv dl U rfl rfl rfl rfl rfl rfl Y,λ_ _ z=>z⟩
theorem Fr.ss(l:Fr X N st n){ms:List MS}{ss:List Stmt}(h:chkSs tab N (af st) ms ss=true):PSs X ss (tSs X.K (ab defs n) ms):=soundSs l.g l.d ms ss (by rw[l.nn,l.s];exact h)
theorem Fr.nm(l:Fr X N st n){i:Nat}{x:Str}{pos:Pos}(h:aD N (af st) i x=true):PE X (.Name x pos) (aq i):=cn (by rw[l.nn,l.s];exact h)
theorem Fr.v(l:Fr X N st n){me:ME}{e:Expr}(h:chk tab me N (af st) e=true)(J:aZ me=false:=by rfl):PE X e (tV X.K (ab defs n) me):=Kg l.g (by rw[l.nn,l.s];exact h) J
theorem Fr.t(l:Fr X N st n){me:ME}{e:Expr}(h:chk tab me N (af st) e=true):PT X e (tVB X.K (ab defs n) me):=Kh l.g (by rw[l.nn,l.s];exact h)
theorem Fr.s1(l:Fr X N st n){m:MS}{s:Stmt}(h:fz tab N (af st) m s=true):PS X s (tS X.K (ab defs n) m):=zn l.g l.d m s (by rw[l.nn,l.s];exact h)
end
noncomputable def tSk(K:MP)(cal:Cal)(ms:List MS)(u:TS):TS:=λD σ H=>∃B E O G A,a7 K B E O H G σ/\exs cal ms G=.next A/\∀J H' O',a7 K B E O' H' A J->cq B O O' G A σ J->u D J H'
section
variable{X:Cx}{cal:Cal}
def Ae{b:List Stmt}{u:TS}(h:PSs X b u):PSs X b (tSk X.K cal [] u):=h.imp λD σ H ⟨B,E,O,G,A,st,e,q⟩=>by
 cases e;exact q σ H O st .refl
def d8{s:Stmt}{dF:List Stmt}{m:MS}{ms:List MS}{u:TS}(h1:PS X s (tS X.K cal m))(h2:PSs X dF (tSk X.K cal ms u)):PSs X (s::dF) (tSk X.K cal (m::ms) u):=(al h1 h2).imp λD σ H ⟨B,E,O,G,A,st,e,q⟩=>by
 rw[bj]at e;cases J:ex cal m G with
 |next ρ1 =>
  rw[J,bi]at e;refine⟨B,E,O,G,st,?_⟩;rw[J];exact λZ H1 O1 S k1=>⟨B,E,O1,ρ1,A,S,e,λU H' O' Y k'=>q U H' O' Y (k1.trans k')⟩
 | _=>rw[J]at e;cases e
end
section
variable{X:Cx}
theorem Fr.set{N:List Str}{st:Stmt}{n:Nat}{i:Nat}{x:Str}{px pos:Pos}{v:Expr}{te:TE}(l:Fr X N st n)(hi:N[i]?=some x)(J:hU (af st) x=true)(h:PE X v te)(hc:swapsWith v (some (.Name x px)) pos.line X.env=pure false):PS X (.Assign [.Name x px] v pos) (λD σ H=>te σ H λu H'=>D.nx (σ.set i (some u)) H'):=
 iC l.d.nd (by rw[l.nn];exact hi) (by have:=iI J;rw[<- l.s]at this;exact this) h hc (.inl (l.d.fn x))
end
theorem Fr.pg{X:Cx}{N:List Str}{st:Stmt}{n:Nat}(l:Fr X N st n){i:Nat}{x:Str}{pos:Pos}(h1:N[i]?=some x)(h2:hU (af st) x=true):PG X (.Name x pos) (gc i):=lZ l.d.nd (by rw[l.nn];exact h1) (by have:=iI h2;rw[<- l.s]at this;exact this) (.inl (l.d.fn _))
def ow{a b:Prop}(h:a):if true=true then a else b:=by rw[if_pos rfl];exact h
def gZ{a b:Prop}(h:b):if false=true then a else b:=by rw[if_neg (by decide)];exact h
def sO(H:Hp):ah H []=H:=by funext b;unfold ah;rw[if_neg (by simp)]
def le0{H:Hp}{M:List Addr}:ae (ah H M) (ah H []):=by rw[sO];exact a_ H M
def pF{H G:Hp}{M:List Addr}(s:ae H G)(h:∀b∈M,H b=none):ae H (ah G M):=λb o e=>by
 rw[aV λz=>by rw[h b z]at e;cases e];exact s b o e
def no0{H:Hp}:∀a∈([]:List Addr),H a≠none:=λa h=>by cases h
noncomputable def fb:Stmt->List Stmt
 | .For _ _ b _ _=>b
 | .If _ b _ _=>b
 | _=>[]
def d9{X:Cx}{e:Expr}{t u:TE}(h1:PE X e t)(h2:PE X e u):PE X e (λσ H Q=>t σ H Q\/u σ H Q):=λpins s σ H Q I q=>q.elim (h1 pins s σ H Q I) (h2 pins s σ H Q I)
def Ki{X:Cx}{ss:List Stmt}{t u:TS}(h1:PSs X ss t)(h2:PSs X ss u):PSs X ss (λD σ H=>t D σ H\/u D σ H):=λpins s σ H D I q=>q.elim (h1 pins s σ H D I) (h2 pins s σ H D I)
def Af{f g:Str}{v x:V}{r:List (Str×V)}(h:g≠f):dE f v ((g,x)::r)=(g,x)::dE f v r:=by rw[dE,if_neg h]
def FX{f:Str}{v x:V}{r:List (Str×V)}:dE f v ((f,x)::r)=(f,v)::r:=by rw[dE,if_pos rfl]
def d_{H H':Hp}{M:List Addr}{x:Addr}(hM:x∈M)(k:∀b o,b≠x->H b=some o->H' b=some o):ae (ah H M) (ah H' M):=λb o e=>by
 have J:b∉M:=λz=>by rw[dq z]at e;cases e
 rw[aV J]at e ⊢;exact k b o (λz=>J (z▸hM)) e
def xr{H H':Hp}{M:List Addr}{x:Addr}(h:∀a∈M,H a≠none)(S:H' x≠none)(k:∀b o,b≠x->H b=some o->H' b=some o):∀a∈M,H' a≠none:=λa ha=>by
 by_cases e:a=x
 .rw[e];exact S
 .cases J:H a with
  |none=>exact absurd J (h a ha)
  |some o=>rw[k a o e J];simp
noncomputable abbrev sV(K:MP)(cal:Cal)(i:Nat)(me:ME):TS:=λD σ H=>tV K cal me σ H λu H'=>D.nx (σ.set i (some u)) H'
structure KC(K:MP)(C:Addr):Prop where
 cls:Cls K C
 n0:cA K C "hand"
 ha:PySem.W.findIn K (.ref C) "__class__"=some (some (.builtin "object.__class__"))
 hm:PySem.W.mroIn K C (.type "object")=some true
structure Cc where
 p:Addr
 r:Addr
 w:Addr
structure uS(K:MP)(CP CR CW fP fR fPp fPs fRp fRs fWp:Addr):Prop where
 pn:PySem.W.nsIn K mainGlobals "Player"=some (some (.ref CP))
 rn:PySem.W.nsIn K mainGlobals "Rower"=some (some (.ref CR))
 wn:PySem.W.nsIn K mainGlobals "Weigher"=some (some (.ref CW))
 pf:CFn K CP "__init__" fP
 pc:KC K CP
 rc:KC K CR
 wc:KC K CW
 pm:Mk K CP fP
 rm:Mk K CR fR
 wm:Mk K CW fP
 r1:cA K CR "numbers"
 r2:cA K CR "own_deeds"
 pp:gG K CP "pick" fPp
 ps:gG K CP "sees" fPs
 rp:gG K CR "pick" fRp
 rs:gG K CR "sees" fRs
 wp:gG K CW "pick" fWp
 ws:gG K CW "sees" fPs
 hn:PySem.W.specialIn K (.builtin "object.__class__") "__get__"=some (some (.builtin "getset_descriptor.__get__"))
 ht:PySem.W.takesIn K (.builtin "object.__class__")=some true
 k1:PySem.W.kitOne K (.ref CR) (.ref CP)=some true
 k2:PySem.W.kitOne K (.ref CW) (.ref CP)=some true
 k3:PySem.W.kitOne K (.ref CP) (.ref CR)=some false
 k4:PySem.W.kitOne K (.ref CP) (.ref CW)=some false
inductive Pk where
 | pl
 | we
 | ro (ns:List Int) (k:Nat)
noncomputable def Pk.cls(z:Cc):Pk->Addr
 | .pl=>z.p
 | .we=>z.w
 | .ro _ _=>z.r
noncomputable def Pk.gs(a:Addr)(hd:Str):Pk->List (Str×V)
 | .ro _ k=>[("hand",.str hd),("numbers",.ref a),("own_deeds",.int k)]
 | _=>[("hand",.str hd)]
noncomputable def Pk.ns:Pk->List Int
 | .ro ns _=>ns
 | _=>[]
noncomputable def Pk.pick(J:List Int)(L:LL):Pk->Int
 | .pl=>J.headD 0
 | .we=>bst J L
 | .ro ns k=>plc J ns k
noncomputable def Pk.see(m:Bool):Pk->Pk
 | .ro ns k=>.ro ns (if m=true then k+1 else k)
 |q=>q
def bp(K:MP)(z:Cc)(M:List Addr)(H:Hp)(x:Addr)(hd:Str)(q:Pk):Prop:=∃dx a,H x=some (.ins (q.cls z) dx (q.gs a hd))/\((∃ns k,q=.ro ns k)->SqL K (ah H M) a (q.ns.map V.int))
section
variable{K:MP}{z:Cc}{M M':List Addr}{H H':Hp}{x:Addr}{hd:Str}{q:Pk}
theorem bp.to(h:bp K z M H x hd q)(s:ae (ah H M) (ah H' M'))(k:∀o,H x=some o->H' x=some o):bp K z M' H' x hd q:=by
 obtain⟨dx,a,h1,h2⟩:=h;exact⟨dx,a,k _ h1,λe=>s.seq (h2 e)⟩
theorem bp.mv(h:bp K z M H x hd q)(s:ae H H'):bp K z M H' x hd q:=h.to (aj s) (s x)
def bp.here(h:bp K z M H x hd q):H x≠none:=by
 obtain⟨_,_,h1,_⟩:=h;rw[h1];simp
end
section
variable{P:Program}{w:World}{K:MP}{mg:Str->Option Value}{base:Heap}{z:Cc}{fP fR fPp fPs fRp fRs fWp:Addr}
def C8:bQ d5 ["self","hand"] (af bu):=⟨rfl,rfl,rfl,by decide +kernel,rfl,by decide +kernel,by decide +kernel⟩
noncomputable def qQ (K:MP):Sp:=λvs H Q _=>∃(x C dx:Addr) (u:V),vs=[.ref x,u]/\H x=some (.ins C dx [])/\KC K C/\Q .non (upd H x (.ins C dx [("hand",u)]))
def vV {J:Addr}{fd:FuncData}{n:Nat} (Y:ia tab K mg defs) (D:FnD K "__init__" "Player.__init__" bu J fd):bw P w K mg base CX0 (n+1) J fd ["self","hand"] (qQ K):=by
 obtain⟨c0,d0,k0,o0,m0,a0,S,t1,a1,sl,lk,U,rfl⟩:=D.it;refine ez lk U C8 (λvs H Q E h=>?_) (λA outer s H vs Q E Z h=>?_)
 .obtain⟨x,C,dx,u,rfl,_⟩:=h
  rfl
 .obtain⟨x,C,dx,u,rfl,hx,c,q⟩:=h;have l:Fr (cU CX0 P w K mg base d5 "Player.__init__" (af bu) J S A outer s H E).nox d5 bu n:=Fr.of Y C8 Z;refine⟨_,(show PSs _ (aK bu) _ from aU (jj (l.nm (i:=0) (x:="self") (by decide +kernel)) (l.nm (i:=1) (x:="hand") (by decide +kernel)) rfl)).nox,?_⟩;exact⟨u,rfl,.ref x,rfl,x,C,dx,[],rfl,hx,c.cls,c.n0,by decide,q⟩
def C9:bQ db ["self","hand","row"] (af bm):=⟨rfl,rfl,rfl,by decide +kernel,rfl,by decide +kernel,by decide +kernel⟩
noncomputable def sQ(K:MP)(z:Cc):Sp:=λvs H Q _=>∃(x dx r:Addr) (hd:Str) (ns:List Int) (M:List Addr),vs=[.ref x,.str hd,.ref r]/\H x=some (.ins z.r dx [])/\x∈M/\(∀a∈M,H a≠none)/\(SqL K H r (ns.map V.int)\/Rep K (ah H M) (ofS ns) (.ref r)) /\
 ∀H',bp K z M H' x hd (.ro ns 0)->(∀b o,b≠x->H b=some o->H' b=some o)->Q .non H'
noncomputable abbrev Ri(i:Nat):Stmt:=(aK bm).getD i (.Pass ⟨0,0,0,0⟩)
def Cj{H:Hp}{r x:Addr}{us:List V}{C dx:Addr}{gs:List (Str×V)}{o:HO}(J:H x=some (.ins C dx gs))(h:SqL K H r us):SqL K (upd H x o) r us:=by
 rcases h with(e|⟨o',e⟩)|e
 .have n:r≠x:=λz=>by rw[z,J]at e;cases e
  exact .inl (.inl (by rw[aA n];exact e))
 .have n:r≠x:=λz=>by rw[z,J]at e;cases e
  exact .inl (.inr ⟨o',by rw[aA n];exact e⟩)
 .exact .inr e
def C_ {S fd:FuncData}{n:Nat} (pr:ia tab K mg defs) (k:uS K z.p z.r z.w fP fR fPp fPs fRp fRs fWp) (mP:mg ("Player":Str)=some (.ref z.p)) (DP:FnD K "__init__" "Player.__init__" bu fP S) (bP:aG K S ["self","hand"] [])
  (D:FnD K "__init__" "Rower.__init__" bm fR fd):bw P w K mg base CX0 (n+2) fR fd ["self","hand","row"] (sQ K z):=by
 obtain⟨c0,d0,k0,o0,m0,a0,U,t1,a1,sl,lk,ar,rfl⟩:=D.it;refine ez lk ar C9 (λvs H Q E h=>?_) (λA outer s H vs Q E hr h=>?_)
 .obtain⟨x,dx,r,hd,ns,M,rfl,_⟩:=h
  rfl
 .obtain⟨x,dx,r,hd,ns,M,rfl,hx,hM,hh,aH,q⟩:=h;have l:Fr (cU CX0 P w K mg base db "Rower.__init__" (af bm) fR U A outer s H E).nox db bm (n+1):=Fr.of pr C9 hr;have FP:=vV (P:=P) (w:=w) (base:=base) (mg:=mg) (n:=n) pr DP;have gP:Gl (cU CX0 P w K mg base db "Rower.__init__" (af bm) fR U A outer s H E).nox "Player":=cY (by rw[l.s];decide +kernel);have eB:aK bm=[Ri 0,Ri 1,Ri 2]:=rfl;rw[eB];refine⟨_,(show PSs _ [Ri 0,Ri 1,Ri 2] _ from al (c5 (Ev k.pf FP l.g.room gP mP bP .nil bc (ak (l.nm (i:=0) (x:="self") (by decide +kernel)) (ak (l.nm (i:=1) (x:="hand") (by decide +kernel)) aS))) rfl)
   (al (jj (l.nm (i:=0) (x:="self") (by decide +kernel)) (l.v (me:=.blt .listOf [.bor 2]) (by kernel_rfl)) rfl)
   (aU (jj (l.nm (i:=0) (x:="self") (by decide +kernel)) dh rfl)))).nox,?_⟩
  refine⟨.ref x,rfl,.str hd,rfl,x,z.r,dx,.str hd,rfl,hx,k.rc,?_⟩;have k1:∀b o,b≠x->H b=some o->(upd H x (.ins z.r dx [(("hand":Str),V.str hd)])) b=some o:=λb o Y eb=>by rw[aA Y];exact eb
  have J:(upd H x (.ins z.r dx [(("hand":Str),V.str hd)])) x=some (.ins z.r dx [(("hand":Str),V.str hd)]):=ax;have Z:SqL K (upd H x (.ins z.r dx [(("hand":Str),V.str hd)])) r (ns.map V.int)\/Rep K (ah (upd H x (.ins z.r dx [(("hand":Str),V.str hd)])) M) (ofS ns) (.ref r):=by
   rcases aH with h|h
   .exact .inl (Cj hx h)
   .exact .inr (by rw[e_ hM];exact h)
  generalize upd H x (.ins z.r dx [(("hand":Str),V.str hd)])=H1 at k1 J Z;have aP:=xr hh (by rw[J];simp) k1;obtain⟨m,vm,em⟩:∃m:MV,Vw K H1 M [none,none,some m] [some (.ref x),some (.str hd),some (.ref r)]/\ev (ab defs (n+1)) (.blt .listOf [.bor 2]) [none,none,some m]=some (ofL ns):=by
   rcases Z with h|h
   .exact⟨_,.skip (.skip (.brw h (Reps.of_ints ns) .nil)),(bz (v:=.lst (ns.map .int)) rfl).trans rfl⟩
   .exact⟨_,.skip (.skip (.val h .nil)),(bz (v:=ofS ns) rfl).trans rfl⟩
  refine⟨M,_,ofL ns,aP,vm,em,λu H2 s2 ru=>?_⟩;have ru:Rep K (ah H2 M) (.lst (ns.map .int)) u:=ru;rw[Rep]at ru;obtain⟨a,us,rfl,sq,rs⟩:=ru;rw[Reps.ints rs]at sq;refine⟨.ref x,rfl,x,z.r,dx,_,rfl,s2 _ _ J,k.rc.cls,k.r1,(by show 1<1000;decide),?_⟩;refine⟨.ref x,rfl,x,z.r,dx,_,rfl,ax,k.rc.cls,k.r2,(by show 2<1000;decide),?_⟩;refine q _ ⟨dx,a,ax,λ_=>?_⟩ λb o Y eb=>by rw[aA Y,aA Y];exact s2 _ _ (k1 b o Y eb)
  rw[e_ hM,e_ hM];exact sq
noncomputable def Pk.kd:Pk->Nat
 | .pl=>0
 | .ro _ _=>1
 | .we=>2
noncomputable def qR(K:MP)(z:Cc)(i:Nat):Sp:=λvs H Q _=>∃(x tb:Addr) (hd:Str) (q:Pk) (Rb:LL) (M:List Addr) (c:Int) (o:Bool) (t:List Int),vs=[.ref x,.ref tb]/\q.kd=i/\bp K z M H x hd q/\eG K H (ah H []) (tbl c Rb o) (t.map .int) tb/\Lo c Rb/\bo (lft o 0 Rb t)=.non/\∀H',ae H H'->Q (.int (q.pick (frl c t) (lft o 0 Rb t))) H'
def c60{c:Int}{Rb:LL}(l:Lo c Rb):0<=c/\c<=60:=⟨by have:=l.p;omega,l.q⟩
def FY{X:Cx}{N:List Str}{st:Stmt}{i n:Nat}{c:Int}{t:List Int}{u:V}{H:Hp}{σ:L2.St}{G:Rho}(v:Vw K H [] G σ)(hi:(G[i]?).join=sv (ofL (frl c t)))(J:frl c t≠[]){Q:VK}(q:∀H',ae H H'->Q (.int ((frl c t).headD 0)) H'):tV K (ab defs n) (.idx (.bor i) (ci 0)) σ H Q:=
 ⟨[],G,.int ((frl c t).headD 0),no0,v,vT (by rw[ev,hi];rfl) J,λu H' s r=>by rw[Rep]at r;subst r;exact q H' s⟩
def sR{c:Int}{Rb:LL}{o:Bool}{t:List Int}(n:Nat)(lo:Lo c Rb)(J:frl c t≠[])(G:Rho):ev (ab defs (n+1)) (.idx (.callM 28 1 []) (ci 0)) (none::some (.brwO (tbl c Rb o) (t.map .int))::G)=some (.int ((frl c t).headD 0)):=by
 have e:ev (ab defs (n+1)) (.callM 28 1 []) (none::some (.brwO (tbl c Rb o) (t.map .int))::G)=some (ofL (frl c t)):=vU n c Rb o t (c60 lo).1 (c60 lo).2;rw[fq e (cH _ _ _)];cases e:frl c t with
 |nil=>exact absurd e J
 |cons y ys =>
  show(gh ((y::ys).map PV.int).length (0:Int)).bind (λj=>((y::ys).map PV.int)[j]?)=_;rw[fc (by omega) (by simp)]
  rfl
def Da:bQ gD ["self","table"] (af cO):=⟨rfl,rfl,rfl,by decide +kernel,rfl,by decide +kernel,by decide +kernel⟩
def Iw {J:Addr}{fd:FuncData}{n:Nat} (pr:ia tab K mg defs) (D:FnD K "pick" "Player.pick" cO J fd):bw P w K mg base CX0 (n+2) J fd ["self","table"] (qR K z 0):=by
 obtain⟨c0,d0,k0,o0,m0,a0,S,t1,a1,sl,lk,U,rfl⟩:=D.it;refine ez lk U Da (λvs H Q E h=>?_) (λA outer s H vs Q E hr h=>?_)
 .obtain⟨x,tb,hd,q,Rb,M,c,o,t,rfl,_⟩:=h
  rfl
 .obtain⟨x,tb,hd,q,Rb,M,c,o,t,rfl,eq,hp,lt,lo,hw,q'⟩:=h;have l:Fr (cU CX0 P w K mg base gD "Player.pick" (af cO) J S A outer s H E).nox gD cO (n+1):=Fr.of pr Da hr;refine⟨_,(show PSs _ (aK cO) _ from aU (cv (l.v (me:=.idx (.callM 28 1 []) (ci 0)) (by kernel_rfl)))).nox,?_⟩;have Y:=lo.free hw;refine⟨[],[none,some (.brwO (tbl c Rb o) (t.map .int))],.int ((frl c t).headD 0),no0,.skip (.obj lt .nil),sR n lo Y [],λu H1 s1 Z=>?_⟩;rw[Rep]at Z;subst Z;cases q with
  |pl=>exact q' H1 s1
  |we=>cases eq
  |ro _ _=>cases eq
def Db:bQ d6 ["self","table"] (af bG):=⟨rfl,rfl,rfl,by decide +kernel,rfl,by decide +kernel,by decide +kernel⟩
noncomputable abbrev Wp(i:Nat):Stmt:=(aK bG).getD i (.Pass ⟨0,0,0,0⟩)
def Ix {U:Addr}{fd:FuncData}{n:Nat} (pr:ia tab K mg defs) (D:FnD K "pick" "Weigher.pick" bG U fd):bw P w K mg base CX0 (n+5) U fd ["self","table"] (qR K z 2):=by
 obtain⟨c0,d0,k0,o0,m0,a0,J,t1,a1,sl,lk,Y,rfl⟩:=D.it;refine ez lk Y Db (λvs H Q E h=>?_) (λA outer s H vs Q E hr h=>?_)
 .obtain⟨x,tb,hd,q,Rb,M,c,o,t,rfl,_⟩:=h
  rfl
 .obtain⟨x,tb,hd,q,Rb,M,c,o,t,rfl,eq,hp,lt,lo,hw,q'⟩:=h;have l:Fr (cU CX0 P w K mg base d6 "Weigher.pick" (af bG) U J A outer s H E).nox d6 bG (n+4):=Fr.of pr Db hr;have eB:aK bG=[Wp 0,Wp 1]:=rfl;rw[eB];have p0:PS (cU CX0 P w K mg base d6 "Weigher.pick" (af bG) U J A outer s H E).nox (Wp 0) (sV K (ab defs (n+4)) 2 (.call 10 [(.callM 29 1 [])])):=
   l.set (i:=2) (x:="hole") rfl (by decide +kernel) (l.v (by kernel_rfl)) (am rfl _ _ _)
  refine⟨_,(show PSs _ [Wp 0,Wp 1] _ from al p0 (aU (cv (l.v (me:=.ite (.cmp .isN (.bor 2) (.cst .non)) (.idx (.callM 28 1 []) (ci 0)) (.var 2)) (by kernel_rfl))))).nox,?_⟩;have Z:=lo.free hw;refine⟨[],[none,some (.brwO (tbl c Rb o) (t.map .int)),none],i9 (hvy (lft o 0 Rb t)),no0,.skip (.obj lt (.skip .nil)),?_,λu H1 s1 ru=>?_⟩
  .refine aX (vs:=[.val (ofR (lft o 0 Rb t))]) ?_ (Ip (n+1) _ (iP o t 0 lo.g));have e:ev (ab defs (n+4)) (.callM 29 1 []) [none,some (.brwO (tbl c Rb o) (t.map .int)),none]=some (ofR (lft o 0 Rb t)):=zQ n c Rb o t lo.g;exact vN nofun e
  have ao:=lt.move s1 (aj s1);refine⟨[],[none,some (.brwO (tbl c Rb o) (t.map .int)),sv (i9 (hvy (lft o 0 Rb t)))],.int (bst (frl c t) (lft o 0 Rb t)),no0,.skip (.obj ao (.val ru .nil)),?_,λu2 H2 s2 S=>?_⟩
  .unfold bst;cases hvy (lft o 0 Rb t)with
   |none=>exact zL rfl (sR (n+3) lo Z _)
   |some a=>exact zM rfl rfl
  .rw[Rep]at S;subst S;cases q with
   |we=>exact q' H2 (s1.trans s2)
   |pl=>cases eq
   |ro _ _=>cases eq
def Dc:bQ cM ["self","table"] (af bg):=⟨rfl,rfl,rfl,by decide +kernel,rfl,by decide +kernel,by decide +kernel⟩
noncomputable abbrev Rp(i:Nat):Stmt:=(aK bg).getD i (.Pass ⟨0,0,0,0⟩)
def Iy {U:Addr}{fd:FuncData}{n:Nat} (pr:ia tab K mg defs) (k:uS K z.p z.r z.w fP fR fPp fPs fRp fRs fWp) (D:FnD K "pick" "Rower.pick" bg U fd):bw P w K mg base CX0 (n+2) U fd ["self","table"] (qR K z 1):=by
 obtain⟨c0,d0,k0,o0,m0,a0,J,t1,a1,sl,lk,aL,rfl⟩:=D.it;refine ez lk aL Dc (λvs H Q E h=>?_) (λA outer s H vs Q E hr h=>?_)
 .obtain⟨x,tb,hd,q,Rb,M,c,o,t,rfl,_⟩:=h
  rfl
 .obtain⟨x,tb,hd,q,Rb,M,c,o,t,rfl,eq,hp,lt,lo,hw,q'⟩:=h;have l:Fr (cU CX0 P w K mg base cM "Rower.pick" (af bg) U J A outer s H E).nox cM bg (n+1):=Fr.of pr Dc hr;have eB:aK bg=[Rp 0,Rp 1,Rp 2]:=rfl;rw[eB];have gL:Gl (cU CX0 P w K mg base cM "Rower.pick" (af bg) U J A outer s H E).nox "len":=cY (by rw[l.s];decide +kernel);have p0:PS (cU CX0 P w K mg base cM "Rower.pick" (af bg) U J A outer s H E).nox (Rp 0) (sV K (ab defs (n+1)) 2 (.callM 28 1 [])):=
   l.set (i:=2) (x:="free") rfl (by decide +kernel) (l.v (by kernel_rfl)) (am rfl _ _ _)
  have fld:∀{f:Str}{p1 p2:Pos},PE (cU CX0 P w K mg base cM "Rower.pick" (af bg) U J A outer s H E).nox (.Attribute (.Name "self" p1) f p2) (AV K (aq 0) f):=λ{f p1 p2}=>tG (l.nm (i:=0) (x:="self") (by decide +kernel)) rfl
  refine⟨_,(show PSs _ [Rp 0,Rp 1,Rp 2] _ from al p0 (al (gb (iQ Cz fld (dJ fw gL (l.g.blt "len" (by decide)) ug (ak fld aS)) (pN _)) (aU (cv (l.v (me:=.idx (.bor 2) (ci 0)) (by kernel_rfl)))) cQ)
   (aU (cv (iD fu (l.nm (i:=2) (x:="free") (by decide +kernel)) (Cw xP (iD fu fld fld (λ_ _=>rfl)) (dJ fw gL (l.g.blt "len" (by decide)) ug (ak (l.nm (i:=2) (x:="free") (by decide +kernel)) aS))) (λ_ _=>rfl)))))).nox,?_⟩
  have Y:=lo.free hw;cases q with
  |pl=>cases eq
  |we=>cases eq
  |ro ns m =>
   obtain⟨dx,a,hx,sq⟩:=hp;have sq:SqL K (ah H M) a (ns.map V.int):=sq ⟨ns,m,rfl⟩;have l1:(Pk.gs a hd (.ro ns m)).lookup ("own_deeds":Str)=some (.int m):=rfl;have l2:(Pk.gs a hd (.ro ns m)).lookup ("numbers":Str)=some (.ref a):=rfl;refine⟨[],[none,some (.brwO (tbl c Rb o) (t.map .int)),none],ofL (frl c t),no0,.skip (.obj lt (.skip .nil)),vU n c Rb o t (c60 lo).1 (c60 lo).2,λu H1 s1 ru=>?_⟩;have S:=s1 _ _ hx;have Z:SqL K H1 a (ns.map V.int):=s1.seq ((a_ _ _).seq sq);refine⟨.ref x,rfl,x,z.r,dx,_,_,rfl,S,k.rc.cls,k.r2,l1,.ref x,rfl,x,z.r,dx,_,_,rfl,S,k.rc.cls,k.r1,l2,a,_,rfl,.inl Z,m,((ns.map V.int).length:Nat),rfl,rfl,_,rfl,?_⟩;have len:(ns.map V.int).length=ns.length:=tr ..;by_cases hm:ns.length<=m
   .rw[Ks (by omega)];have ep:plc (frl c t) ns m=(frl c t).headD 0:=by unfold plc;rw[Mx.mpr hm]
    refine ow (FY (X:=(cU CX0 P w K mg base cM "Rower.pick" (af bg) U J A outer s H E)) (N:=[]) (st:=bg) (u:=u) (G:=[none,none,sv (ofL (frl c t))]) (.skip (.skip (.val ru .nil))) rfl Y λH' s'=>?_);have:=q' H' (s1.trans s');rw[show Pk.pick (frl c t) (lft o 0 Rb t) (.ro ns m)=plc (frl c t) ns m from rfl,ep]at this;exact this
   .rw[KH (by omega)];have ao:Rep K (ah H1 []) (.lst ((frl c t).map .int)) u:=ru;rw[Rep]at ao;obtain⟨b,us,rfl,sf,rs⟩:=ao;have eu:=Reps.ints rs;subst eu;have ar:SqL K H1 b ((frl c t).map V.int):=(a_ _ _).seq sf;have aH:m<ns.length:=by omega
    have ei:(ns.map V.int)[m]?=some (.int ns[m]):=by rw[Kx,Kz aH];rfl
    have hp:0<(frl c t).length:=length_pos_iff.mpr Y;have h0:0<=ns[m] % ((frl c t).length:Int):=Lc _ (by omega);have h1:ns[m] % ((frl c t).length:Int)<(frl c t).length:=K4 _ (by omega);have h2:(ns[m] % ((frl c t).length:Int)).toNat<(frl c t).length:=by omega
    have ep:plc (frl c t) ns m=(frl c t)[(ns[m] % ((frl c t).length:Int)).toNat]:=by
     unfold plc;rw[Kz aH];show(frl c t).getD _ 0=_;rw[Lv,Kz h2]
     rfl
    refine gZ ⟨.ref b,rfl,.ref x,rfl,x,z.r,dx,_,_,rfl,S,k.rc.cls,k.r1,l2,.ref x,rfl,x,z.r,dx,_,_,rfl,S,k.rc.cls,k.r2,l1,a,_,m,_,rfl,rfl,Z,pP ei,.ref b,rfl,b,_,rfl,.inl ar,ns[m],(((frl c t).map V.int).length:Nat),rfl,rfl,?_,b,_,_,.int (plc (frl c t) ns m),rfl,rfl,ar,?_,?_⟩
    .rw[tr];omega
    .rw[tr,show ns[m] % ((frl c t).length:Int)=((ns[m] % ((frl c t).length:Int)).toNat:Nat)by omega];refine pP ?_;rw[Kx,Kz h2,ep]
     rfl
    .exact q' H1 s1
noncomputable def sS(K:MP)(z:Cc)(i:Nat):Sp:=λvs H Q _=>∃(x:Addr) (hd h2:Str) (J:Int) (q:Pk) (M:List Addr),vs=[.ref x,.str h2,.int J]/\q.kd=i/\bp K z M H x hd q/\x∈M /\
 ∀H',bp K z M H' x hd (q.see (h2==hd))->(∀b o,b≠x->H b=some o->H' b=some o)->Q .non H'
def Iz:bQ ou ["self","hand","hole"] (af eT):=⟨rfl,rfl,rfl,by decide +kernel,rfl,by decide +kernel,by decide +kernel⟩
def Dd {U:Addr}{fd:FuncData}{n i:Nat} (hi:i≠1) (pr:ia tab K mg defs) (D:FnD K "sees" "Player.sees" eT U fd):bw P w K mg base CX0 (n+1) U fd ["self","hand","hole"] (sS K z i):=by
 obtain⟨c0,d0,k0,o0,m0,a0,Z,t1,a1,sl,lk,S,rfl⟩:=D.it;refine ez lk S Iz (λvs H Q E h=>?_) (λA outer s H vs Q E hr h=>?_)
 .obtain⟨x,hd,h2,J,q,M,rfl,_⟩:=h
  rfl
 .obtain⟨x,hd,h2,J,q,M,rfl,eq,Y,hM,q'⟩:=h;refine⟨_,(show PSs _ (aK eT) _ from aU AM).nox,?_⟩;refine q' H ?_ λb o _ e=>e
  cases q with
  |pl=>exact Y
  |we=>exact Y
  |ro _ _=>exact absurd eq.symm hi
def De:bQ fE ["self","hand","hole"] (af cu):=⟨rfl,rfl,rfl,by decide +kernel,rfl,by decide +kernel,by decide +kernel⟩
noncomputable abbrev Rs(i:Nat):Stmt:=(aK cu).getD i (.Pass ⟨0,0,0,0⟩)
def IA {U:Addr}{fd:FuncData}{n:Nat} (pr:ia tab K mg defs) (k:uS K z.p z.r z.w fP fR fPp fPs fRp fRs fWp) (D:FnD K "sees" "Rower.sees" cu U fd):bw P w K mg base CX0 (n+1) U fd ["self","hand","hole"] (sS K z 1):=by
 obtain⟨c0,d0,k0,o0,m0,a0,J,t1,a1,sl,lk,Z,rfl⟩:=D.it;refine ez lk Z De (λvs H Q E h=>?_) (λA outer s H vs Q E hr h=>?_)
 .obtain⟨x,hd,h2,S,q,M,rfl,_⟩:=h
  rfl
 .obtain⟨x,hd,h2,S,q,M,rfl,eq,hp,hM,q'⟩:=h;have l:Fr (cU CX0 P w K mg base fE "Rower.sees" (af cu) U J A outer s H E).nox fE cu n:=Fr.of pr De hr;have eB:aK cu=[Rs 0]:=rfl;rw[eB];have fld:∀{f:Str}{p1 p2:Pos},PE (cU CX0 P w K mg base fE "Rower.sees" (af cu) U J A outer s H E).nox (.Attribute (.Name "self" p1) f p2) (AV K (aq 0) f):=λ{f p1 p2}=>tG (l.nm (i:=0) (x:="self") (by decide +kernel)) rfl
  refine⟨_,(show PSs _ [Rs 0] _ from aU (gb (iQ GR (l.nm (i:=1) (x:="hand") (by decide +kernel)) fld (pN _)) (aU (wu (l.nm (i:=0) (x:="self") (by decide +kernel)) dh Eb)) cQ)).nox,?_⟩;cases q with
  |pl=>cases eq
  |we=>cases eq
  |ro ns m =>
   obtain⟨dx,a,Y,sq⟩:=hp;have l0:(Pk.gs a hd (.ro ns m)).lookup ("hand":Str)=some (.str hd):=rfl;have l1:(Pk.gs a hd (.ro ns m)).lookup ("own_deeds":Str)=some (.int m):=rfl;refine⟨.str h2,rfl,.ref x,rfl,x,z.r,dx,_,_,rfl,Y,k.rc.cls,k.rc.n0,l0,rfl,decide (V.str h2=V.str hd),rfl,?_⟩;have ed:decide (V.str h2=V.str hd)=(h2==hd):=l_;rw[ed];cases hb:(h2==hd)with
   |true =>
    refine ow ⟨.ref x,rfl,x,z.r,dx,_,_,rfl,Y,k.rc.cls,k.r2,l1,(m:Int),1,rfl,rfl,dx,_,Y,(by show 3<1000;decide),?_⟩;have eg:dE "own_deeds" (.int ((m:Int)+1)) (Pk.gs a hd (.ro ns m))=Pk.gs a hd (.ro ns (m+1)):=by
     unfold Pk.gs;rw[Af (by decide),Af (by decide),FX]
     rfl
    refine q' _ ⟨dx,a,?_,λ_=>?_⟩ λb o nb eb=>by rw[aA nb];exact eb
    .rw[ax,eg,hb];rfl
    .rw[e_ hM];exact sq ⟨ns,m,rfl⟩
   |false =>
    refine gZ (q' H ?_ λb o _ e=>e);rw[hb];exact⟨dx,a,Y,sq⟩
noncomputable abbrev tPk (K:MP) (z:Cc) (tx tt:TE):TE:=λσ H Q=>eV z.p "pick" (qR K z 0) [] E0 tx (av tt bN) σ H Q\/eV z.r "pick" (qR K z 1) [] E0 tx (av tt bN) σ H Q\/eV z.w "pick" (qR K z 2) [] E0 tx (av tt bN) σ H Q
noncomputable abbrev tSe (K:MP) (z:Cc) (tx th ta:TE):TE:=λσ H Q=>eV z.p "sees" (sS K z 0) [] E0 tx (av th (av ta bN)) σ H Q\/eV z.r "sees" (sS K z 1) [] E0 tx (av th (av ta bN)) σ H Q\/eV z.w "sees" (sS K z 2) [] E0 tx (av th (av ta bN)) σ H Q
def kN{x tb:Addr}{hd:Str}{q:Pk}{Rb:LL}{M:List Addr}{c:Int}{o:Bool}{t:List Int}{H:Hp}{σ:L2.St}{tx tt:TE}{Q:VK}(S:bp K z M H x hd q)(lt:eG K H (ah H []) (tbl c Rb o) (t.map .int) tb)(lo:Lo c Rb)(hw:bo (lft o 0 Rb t)=.non)
  (U:∀J:VK,J (.ref x) H->tx σ H J) (ht:∀J:VK,J (.ref tb) H->tt σ H J) (k:∀H',ae H H'->Q (.int (q.pick (frl c t) (lft o 0 Rb t))) H'):tPk K z tx tt σ H Q:=by
 obtain⟨dx,a,h1,h2⟩:=id S;cases q with
 |pl=>exact .inl (U _ ⟨x,dx,_,rfl,h1,rfl,ht _ ⟨x,tb,hd,.pl,Rb,M,c,o,t,rfl,rfl,S,lt,lo,hw,k⟩⟩)
 |ro ns m=>exact .inr (.inl (U _ ⟨x,dx,_,rfl,h1,rfl,ht _ ⟨x,tb,hd,.ro ns m,Rb,M,c,o,t,rfl,rfl,S,lt,lo,hw,k⟩⟩))
 |we=>exact .inr (.inr (U _ ⟨x,dx,_,rfl,h1,rfl,ht _ ⟨x,tb,hd,.we,Rb,M,c,o,t,rfl,rfl,S,lt,lo,hw,k⟩⟩))
def oh{x:Addr}{hd h2:Str}{J:Int}{q:Pk}{M:List Addr}{H:Hp}{σ:L2.St}{tx th ta:TE}{Q:VK}(U:bp K z M H x hd q)(hM:x∈M)
  (Y:∀S:VK,S (.ref x) H->tx σ H S) (Z:∀S:VK,S (.str h2) H->th σ H S) (ha:∀S:VK,S (.int J) H->ta σ H S) (k:∀H',bp K z M H' x hd (q.see (h2==hd))->(∀b o,b≠x->H b=some o->H' b=some o)->Q .non H'):tSe K z tx th ta σ H Q:=by
 obtain⟨dx,a,h1,_⟩:=id U;cases q with
 |pl=>exact .inl (Y _ ⟨x,dx,_,rfl,h1,rfl,Z _ (ha _ ⟨x,hd,h2,J,.pl,M,rfl,rfl,U,hM,k⟩)⟩)
 |ro ns m=>exact .inr (.inl (Y _ ⟨x,dx,_,rfl,h1,rfl,Z _ (ha _ ⟨x,hd,h2,J,.ro ns m,M,rfl,rfl,U,hM,k⟩)⟩))
 |we=>exact .inr (.inr (Y _ ⟨x,dx,_,rfl,h1,rfl,Z _ (ha _ ⟨x,hd,h2,J,.we,M,rfl,rfl,U,hM,k⟩)⟩))
structure KFn(P:Program)(w:World)(K:MP)(mg:Str->Option Value)(base:Heap)(z:Cc)(n:Nat):Prop where
 pc:Cls K z.p
 rc:Cls K z.r
 wc:Cls K z.w
 pp:∃f fd,gG K z.p "pick" f/\aG K fd ["self","table"] []/\bw P w K mg base CX0 n f fd ["self","table"] (qR K z 0)
 rp:∃f fd,gG K z.r "pick" f/\aG K fd ["self","table"] []/\bw P w K mg base CX0 n f fd ["self","table"] (qR K z 1)
 wp:∃f fd,gG K z.w "pick" f/\aG K fd ["self","table"] []/\bw P w K mg base CX0 n f fd ["self","table"] (qR K z 2)
 ps:∃f fd,gG K z.p "sees" f/\aG K fd ["self","hand","hole"] []/\bw P w K mg base CX0 n f fd ["self","hand","hole"] (sS K z 0)
 rs:∃f fd,gG K z.r "sees" f/\aG K fd ["self","hand","hole"] []/\bw P w K mg base CX0 n f fd ["self","hand","hole"] (sS K z 1)
 ws:∃f fd,gG K z.w "sees" f/\aG K fd ["self","hand","hole"] []/\bw P w K mg base CX0 n f fd ["self","hand","hole"] (sS K z 2)
def Dg:bQ bD.names ["players"] (af ba):=⟨rfl,rfl,rfl,by decide +kernel,rfl,by decide +kernel,by decide +kernel⟩
noncomputable def FZ(K:MP)(z:Cc):Sp:=λvs H Q _=>∃(J S p1 p2:Addr) (hd:Str) (ns:List Int) (m:Nat) (M:List Addr),vs=[.ref J]/\H J=some (.lst [.ref S,.ref p1,.ref p2])/\bp K z M H S hd .pl/\bp K z M H p1 hd (.ro ns m)/\bp K z M H p2 hd .we/\Q (.bl true) H
noncomputable abbrev Cl(i:Nat):Stmt:=(aK ba).getD i (.Pass ⟨0,0,0,0⟩)
def vW(k:uS K z.p z.r z.w fP fR fPp fPs fRp fRs fWp){M:List Addr}{H:Hp}{x:Addr}{hd:Str}{q:Pk}(h:bp K z M H x hd q):jk K H (.ref x) (.ref (q.cls z)):=by
 obtain⟨dx,a,h1,_⟩:=h;have kc:KC K (q.cls z):=by
  cases q with
  |pl=>exact k.pc
  |we=>exact k.wc
  |ro _ _=>exact k.rc
 exact jk.ins h1 kc.cls kc.ha k.hn k.ht kc.hm
def IB {U:Addr}{fd:FuncData}{n:Nat} (pr:ia tab K mg defs) (k:uS K z.p z.r z.w fP fR fPp fPs fRp fRs fWp) (hm:∀{x:Str}{u:Value},PySem.W.nsIn K mainGlobals x=some (some u)->mg x=some u) (D:FnD K "_law_classes" "_law_classes" ba U fd):bw P w K mg base CX0 (n+1) U fd ["players"] (FZ K z):=by
 obtain⟨c0,d0,k0,o0,m0,a0,J,t1,a1,sl,lk,ar,rfl⟩:=D.it;refine ez lk ar Dg (λvs H Q E h=>?_) (λA outer s H vs Q E hr h=>?_)
 .obtain⟨S,Y,p1,p2,hd,ns,m,M,rfl,_⟩:=h
  rfl
 .obtain⟨S,Y,p1,p2,hd,ns,m,M,rfl,eP,h0,h1,h2,q⟩:=h;have l:Fr (cU CX0 P w K mg base bD.names "_law_classes" (af ba) U J A outer s H E).nox bD.names ba n:=Fr.of pr Dg hr;have Z:Gl (cU CX0 P w K mg base bD.names "_law_classes" (af ba) U J A outer s H E).nox "isinstance":=cY (by rw[l.s];decide +kernel);have gP:Gl (cU CX0 P w K mg base bD.names "_law_classes" (af ba) U J A outer s H E).nox "Player":=cY (by rw[l.s];decide +kernel);have gR:Gl (cU CX0 P w K mg base bD.names "_law_classes" (af ba) U J A outer s H E).nox "Rower":=cY (by rw[l.s];decide +kernel);have gW:Gl (cU CX0 P w K mg base bD.names "_law_classes" (af ba) U J A outer s H E).nox "Weigher":=cY (by rw[l.s];decide +kernel);have eB:aK ba=[Cl 0,Cl 1]:=rfl;rw[eB];have nm:∀{pos:Pos},PE (cU CX0 P w K mg base bD.names "_law_classes" (af ba) U J A outer s H E).nox (.Name "players" pos) (aq 0):=l.nm (i:=0) (x:="players") (by decide +kernel);refine⟨_,(show PSs _ [Cl 0,Cl 1] _ from al (gb (xI (ji (jh (dJ (g_ z.p) Z (l.g.blt "isinstance" (by decide)) dk (ak (iD fu nm dh (λ_ _=>rfl)) (ak (jI (v:=.ref z.p) gP (hm k.pn) rfl) aS)))))
    (sY (ji (jh (dJ (g_ z.p) Z (l.g.blt "isinstance" (by decide)) dk (ak (iD fu nm dh (λ_ _=>rfl)) (ak (jI (v:=.ref z.p) gP (hm k.pn) rfl) aS))))))).pt (aU (cv i_)) cQ)
   (aU (cv (xJ (s_ (dJ (g_ z.r) Z (l.g.blt "isinstance" (by decide)) dk (ak (iD fu nm dh (λ_ _=>rfl)) (ak (jI (v:=.ref z.r) gR (hm k.rn) rfl) aS))))
    (sZ (s_ (dJ (g_ z.w) Z (l.g.blt "isinstance" (by decide)) dk (ak (iD fu nm dh (λ_ _=>rfl)) (ak (jI (v:=.ref z.w) gW (hm k.wn) rfl) aS))))))))).nox,?_⟩
  have sP:SqL K H S [.ref Y,.ref p1,.ref p2]:=SqL.of eP;refine⟨.ref S,rfl,S,_,1,.ref p1,rfl,rfl,sP,rfl,.ref p1,_,true,rfl,vW k h1,k.k1,true,rfl,?_⟩;refine gZ ⟨.ref S,rfl,S,_,2,.ref p2,rfl,rfl,sP,rfl,.ref p2,_,true,rfl,vW k h2,k.k2,true,rfl,?_⟩;refine gZ ⟨.ref S,rfl,S,_,0,.ref Y,rfl,rfl,sP,rfl,.ref Y,_,false,rfl,vW k h0,k.k3,false,rfl,true,rfl,?_⟩;refine ow ⟨.ref S,rfl,S,_,0,.ref Y,rfl,rfl,sP,rfl,.ref Y,_,false,rfl,vW k h0,k.k4,false,rfl,q⟩
def Dh:bQ c8.names ["players","table","due","order"] (af bS):=⟨rfl,rfl,rfl,by decide +kernel,rfl,by decide +kernel,by decide +kernel⟩
noncomputable def F3(K:MP)(z:Cc):Sp:=λvs H Q _=>∃(S U p1 p2 tb:Addr) (hd:Str) (ns:List Int) (m:Nat) (M:List Addr) (Rb:LL) (c:Int) (o:Bool) (t:List Int) (Y:V) (J:Int),vs=[.ref S,.ref tb,Y,.int J]/\H S=some (.lst [.ref U,.ref p1,.ref p2])/\bp K z M H U hd .pl/\bp K z M H p1 hd (.ro ns m)/\bp K z M H p2 hd .we /\
 eG K H (ah H []) (tbl c Rb o) (t.map .int) tb/\Lo c Rb/\bo (lft o 0 Rb t)=.non/\Rep K (ah H []) (.lst [.int ((frl c t).headD 0),.int (plc (frl c t) ns m),.int (bst (frl c t) (lft o 0 Rb t))]) Y/\∀H',ae H H'->Q (.bl true) H'
noncomputable abbrev Pd(i:Nat):Stmt:=(aK bS).getD i (.Pass ⟨0,0,0,0⟩)
noncomputable abbrev Pb(i:Nat):Stmt:=(fb (Pd 0)).getD i (.Pass ⟨0,0,0,0⟩)
noncomputable abbrev Ag:ME:=.bin .mod (.bin .mod (.bin .add (.bor 4) (.bor 3)) (ci 4)) (ci 3)
noncomputable abbrev IC:ME:=.or (.not (.call 14 [.bor 6])) (.cmp .ne (.bor 6) (.idx (.bor 2) (.bor 5)))
noncomputable abbrev ID:ME:=.and (.call 14 [.bor 7]) (.cmp .eq (.bor 7) (ix 2 1))
def pG(n:Nat)(i:Int):ab defs (n+1) 14 [.val (.int i)]=some (.bl true):=by
 rw[aI (d:=iM) rfl rfl]
 rfl
noncomputable abbrev tPd(K:MP)(z:Cc)(n:Nat):TS:=b_ (wo (Cv (av (tC (.int 4)) bN)) (gc 4) (b_ (sV K (ab defs n) 5 Ag) (b_ (λD σ H=>tPk K z (tOp (rB K) (aq 0) (aq 5)) (aq 1) σ H λu H'=>D.nx (σ.set 6 (some u)) H') (i4 (tVB K (ab defs n) IC) (iZ (tC (.bl false))) eU))))
 (b_ (λD σ H=>tPk K z (tOp (rB K) (aq 0) (tC (.int 1))) (aq 1) σ H λu H'=>D.nx (σ.set 7 (some u)) H') (iZ (tV K (ab defs n) ID)))
def IE{X:Cx}{n:Nat}(l:Fr X c8.names bS n)(F:KFn X.prog X.w X.K X.mg X.base z n):PSs X [Pd 0,Pd 1,Pd 2] (tPd X.K z n):=by
 obtain⟨f0,d0,U,Y,F0⟩:=F.pp;obtain⟨f1,d1,Z,b1,F1⟩:=F.rp;obtain⟨f2,d2,m2,b2,F2⟩:=F.wp;have nm:∀{i:Nat}{x:Str}{pos:Pos},aD c8.names (af bS) i x=true->PE X (.Name x pos) (aq i):=λh=>l.nm h
 have ix:∀{p1 p2 S:Pos},PE X (.Subscript (.Name "players" p1) (.Name "which" p2) S) (tOp (rB X.K) (aq 0) (aq 5)):=iD fu (nm (by decide +kernel)) (nm (by decide +kernel)) (λ_ _=>rfl);have J:∀{i j p1 p2 S},PE X (.Subscript (.Name "players" p1) (.Constant (.int i) j p2) S) (tOp (rB X.K) (aq 0) (tC (.int i))):=iD fu (nm (by decide +kernel)) dh (λ_ _=>rfl);have tt:∀{p:Pos},PA X [.Name "table" p] (av (aq 1) bN):=ak (nm (by decide +kernel)) aS;have q0:PS X (Pb 0) (sV X.K (ab defs n) 5 Ag):=l.set (i:=5) (x:="which") rfl (by decide +kernel) (l.v (by kernel_rfl)) (am rfl _ _ _);have q1:PS X (Pb 1) (λD σ H=>tPk X.K z (tOp (rB X.K) (aq 0) (aq 5)) (aq 1) σ H λu H'=>D.nx (σ.set 6 (some u)) H'):=l.set (i:=6) (x:="found") rfl (by decide +kernel) (d9 (bf ix F.pc U F0 l.g.room Y .nil bc tt) (d9 (bf ix F.rc Z F1 l.g.room b1 .nil bc tt) (bf ix F.wc m2 F2 l.g.room b2 .nil bc tt))) (am rfl _ _ _);have q2:PS X (Pb 2) (i4 (tVB X.K (ab defs n) IC) (iZ (tC (.bl false))) eU):=gb (l.t (by kernel_rfl)) (aU (cv i_)) cQ;have p0:PS X (Pd 0) _:=mF l.d.own l.g.calm (oG (cY (by rw[l.s];decide +kernel)) (l.g.blt "range" (by decide)) (ak dh aS)) (l.pg (i:=4) (x:="k") rfl (by decide +kernel)) (show PSs X [Pb 0,Pb 1,Pb 2] _ from al q0 (al q1 (aU q2)));have p1:PS X (Pd 1) (λD σ H=>tPk X.K z (tOp (rB X.K) (aq 0) (tC (.int 1))) (aq 1) σ H λu H'=>D.nx (σ.set 7 (some u)) H'):=l.set (i:=7) (x:="again") rfl (by decide +kernel) (d9 (bf J F.pc U F0 l.g.room Y .nil bc tt) (d9 (bf J F.rc Z F1 l.g.room b1 .nil bc tt) (bf J F.wc m2 F2 l.g.room b2 .nil bc tt))) (am rfl _ _ _);exact al p0 (al p1 (aU (cv (l.v (by kernel_rfl)))))
noncomputable def lY(J ns:List Int)(m:Nat)(L:LL):Nat->Int
 |0=>J.headD 0
 |1=>plc J ns m
 | _=>bst J L
def IF {fa:Addr}{fd:FuncData}{n:Nat} (pr:ia tab K mg defs) (F:KFn P w K mg base z (n+1)) (D:FnD K "_law_picked" "_law_picked" bS fa fd):bw P w K mg base CX0 (n+2) fa fd ["players","table","due","order"] (F3 K z):=by
 obtain⟨c0,d0,k0,o0,m0,a0,bT,t1,a1,sl,lk,bW,rfl⟩:=D.it;refine ez lk bW Dh (λvs H Q E h=>?_) (λA outer s H vs Q E hr h=>?_)
 .obtain⟨aP,p0,p1,p2,tb,hd,ns,m,M,Rb,c,o,t,ud,S,rfl,_⟩:=h
  rfl
 .obtain⟨aP,p0,p1,p2,tb,hd,ns,m,M,Rb,c,o,t,ud,S,rfl,eP,h0,h1,h2,lt,lo,hw,ru,q⟩:=h;have l:Fr (cU CX0 P w K mg base c8.names "_law_picked" (af bS) fa bT A outer s H E).nox c8.names bS (n+1):=Fr.of pr Dh hr;have eB:aK bS=[Pd 0,Pd 1,Pd 2]:=rfl;rw[eB];refine⟨_,(IE l F).nox,?_⟩;have ask:∀(H':Hp) (j:Nat) (tx:TE) (σ:L2.St) (Q':VK),ae H H'->j<3->(∀J:VK,(∀p,(if j=0 then p0 else if j=1 then p1 else p2)=p->J (.ref p) H')->tx σ H' J)->σ[1]?=some (some (.ref tb))->(∀H2,ae H' H2->Q' (.int (lY (frl c t) ns m (lft o 0 Rb t) j)) H2)->tPk K z tx (aq 1) σ H' Q':=by
   intro H' j tx σ Q' s Y Z b1 k;have tt:∀J:VK,J (.ref tb) H'->aq 1 σ H' J:=λJ q=>⟨_,b1,q⟩
   match j,Y,Z,k with
   |0,_,Z,k=>exact kN (h0.mv s) (lt.move s (aj s)) lo hw (λJ q=>Z J λp e=>e▸q) tt k
   |1,_,Z,k=>exact kN (h1.mv s) (lt.move s (aj s)) lo hw (λJ q=>Z J λp e=>e▸q) tt k
   |2,_,Z,k=>exact kN (h2.mv s) (lt.move s (aj s)) lo hw (λJ q=>Z J λp e=>e▸q) tt k
  have sP:∀H',ae H H'->SqL K H' aP [.ref p0,.ref p1,.ref p2]:=λH' s=>SqL.of (s _ _ eP)
  have a3:∀{cal:Cal}{G:Rho}{i:ME} (j:Nat),j<3->(G[2]?).join=sv (.lst [.int ((frl c t).headD 0),.int (plc (frl c t) ns m),.int (bst (frl c t) (lft o 0 Rb t))])->ev cal i G=some (.int (j:Nat))->ev cal (.idx (.bor 2) i) G=some (.int (lY (frl c t) ns m (lft o 0 Rb t) j)):=by
   intro cal G i j Y b2 hi;rw[fq (by rw[ev,b2];rfl) hi]
   match j,Y with
   |0,_=>rfl
   |1,_=>rfl
   |2,_=>rfl
  refine⟨4,rfl,by decide,by decide,λi mm a4 H'=>mm=4-i/\i<=4/\ae H H'/\∃r4 r5 r6 r7,a4=[some (.ref aP),some (.ref tb),some ud,some (.int S),r4,r5,r6,r7],⟨_,rfl,by decide,ae.refl H,_,_,_,_,rfl⟩,?_⟩;rintro i mm a4 H' ⟨rfl,hi,s,r4,r5,r6,r7,rfl⟩;have cC:=Rep.mono (aj s) _ ru;by_cases a5:i<4
  .right;refine⟨a5,λa6 H2=>∃m',m'<4-i/\(m'=4-(i+1)/\i+1<=4/\ae H H2/\∃r4 r5 r6 r7,a6=[some (.ref aP),some (.ref tb),some ud,some (.int S),r4,r5,r6,r7]),λa6 H2 w=>w,λy H2 yl=>?_⟩;obtain⟨rfl,rfl⟩:=yl;obtain⟨j,Y,ej⟩:∃j:Nat,j<3/\(((0:Int)+(i:Nat))+S) % 4 % 3=(j:Nat):=⟨((((0:Int)+(i:Nat))+S) % 4 % 3).toNat,by omega,by omega⟩;refine⟨[],[none,none,none,sv (.int S),sv (.int ((0:Int)+(i:Nat))),none,none,none],.int (j:Nat),no0,.skip (.skip (.skip (.val (aR (K:=K) _ _) (.val (aR (K:=K) _ _) (.skip (.skip (.skip .nil))))))),?_,λu H3 s3 r3=>?_⟩
   .rw[bM (x:=.int ((((0:Int)+(i:Nat))+S) % 4)) (y:=.int 3) ((bM (x:=.int (((0:Int)+(i:Nat))+S)) (y:=.int 4) rfl rfl).trans (by rw[du,if_pos (by decide)])) rfl,du,if_pos (by decide),ej]
   rw[Rep]at r3;subst r3;have U:=s.trans s3;refine ask H3 j _ _ _ U Y (λJ ar=>⟨_,rfl,_,rfl,aP,[.ref p0,.ref p1,.ref p2],j,.ref (if j=0 then p0 else if j=1 then p1 else p2),rfl,rfl,sP _ U,?_,ar _ rfl⟩) rfl λH4 s4=>?_
   .refine pP ?_
    match j,Y with
    |0,_=>rfl
    |1,_=>rfl
    |2,_=>rfl
   have aH:=Rep.mono (aj (U.trans s4)) _ ru;refine⟨[],[none,none,sv (.lst [.int ((frl c t).headD 0),.int (plc (frl c t) ns m),.int (bst (frl c t) (lft o 0 Rb t))]),none,none,sv (.int (j:Nat)),sv (.int (lY (frl c t) ns m (lft o 0 Rb t) j)),none],false,no0,.skip (.skip (.val aH (.skip (.skip (.val (aR (K:=K) _ _) (.val (aR (K:=K) _ _) (.skip .nil))))))),?_,λH5 s5=>gZ ⟨_,by omega,rfl,a5,(U.trans s4).trans s5,_,_,_,_,rfl⟩⟩;refine Kc (p:=false) (Il (aX (vs:=[.val (.int (lY (frl c t) ns m (lft o 0 Rb t) j))]) rfl (pG n _))) λ_=>?_
   rw[di (x:=.int (lY (frl c t) ns m (lft o 0 Rb t) j)) (y:=.int (lY (frl c t) ns m (lft o 0 Rb t) j)) rfl (a3 j Y rfl rfl)];show(some ((lY (frl c t) ns m (lft o 0 Rb t) j)==(lY (frl c t) ns m (lft o 0 Rb t) j))).map (λp=>PV.bl !p)=some (.bl false);rw[Ld]
   rfl
  .left;have:i=4:=by omega
   subst this;refine⟨pe _,ask H' 1 _ _ _ s (by decide) (λJ ar=>⟨_,rfl,aP,[.ref p0,.ref p1,.ref p2],1,.ref p1,rfl,rfl,sP _ s,rfl,ar _ rfl⟩) rfl λH4 s4=>?_⟩;have aH:=Rep.mono (aj (s.trans s4)) _ ru;refine⟨[],[none,none,sv (.lst [.int ((frl c t).headD 0),.int (plc (frl c t) ns m),.int (bst (frl c t) (lft o 0 Rb t))]),none,none,none,none,sv (.int (lY (frl c t) ns m (lft o 0 Rb t) 1))],.bl true,no0,.skip (.skip (.val aH (.skip (.skip (.skip (.skip (.val (aR (K:=K) _ _) .nil))))))),?_,λu H5 s5 r5=>?_⟩
   .refine uH (p:=true) (q:=true) (aX (vs:=[.val (.int (lY (frl c t) ns m (lft o 0 Rb t) 1))]) rfl (pG n _)) λ_=>?_
    rw[di (x:=.int (lY (frl c t) ns m (lft o 0 Rb t) 1)) (y:=.int (lY (frl c t) ns m (lft o 0 Rb t) 1)) rfl (a3 1 (by decide) rfl rfl)];show(eqF 100 (.int _) (.int _)).map PV.bl=_;rw[mx,Ld]
    rfl
   .rw[Rep]at r5;subst r5;exact q H5 ((s.trans s4).trans s5)
def Di:bQ eN.names ["players","hand","hole"] (af cK):=⟨rfl,rfl,rfl,by decide +kernel,rfl,by decide +kernel,by decide +kernel⟩
noncomputable def F4(K:MP)(z:Cc):Sp:=λvs H Q _=>∃(U J p1 p2:Addr) (hd h2:Str) (S:Int) (ns:List Int) (m:Nat) (M:List Addr),vs=[.ref U,.str h2,.int S]/\H U=some (.lst [.ref J,.ref p1,.ref p2])/\bp K z M H J hd .pl/\bp K z M H p1 hd (.ro ns m)/\bp K z M H p2 hd .we/\[U,J,p1,p2].Nodup/\J∈M/\p1∈M/\p2∈M /\
 ∀H',bp K z M H' J hd .pl->bp K z M H' p1 hd (Pk.see (h2==hd) (.ro ns m))->bp K z M H' p2 hd .we->(∀b o,b≠J->b≠p1->b≠p2->H b=some o->H' b=some o)->Q (.bl true) H'
noncomputable abbrev To(i:Nat):Stmt:=(aK cK).getD i (.Pass ⟨0,0,0,0⟩)
noncomputable abbrev Tb(i:Nat):Stmt:=(fb (To 0)).getD i (.Pass ⟨0,0,0,0⟩)
noncomputable abbrev tTo(K:MP)(z:Cc):TS:=b_ (wo (xN K (aq 0)) (gc 3) (i4 (rj (tOp (λx y H Q=>y=.non/\Q (.bl (!decide (x=.non))) H) (tSe K z (aq 3) (aq 1) (aq 2)) (tC .non))) (iZ (tC (.bl false))) eU)) (iZ (tC (.bl true)))
def IG{X:Cx}{n:Nat}(l:Fr X eN.names cK n)(F:KFn X.prog X.w X.K X.mg X.base z n):PSs X [To 0,To 1] (tTo X.K z):=by
 obtain⟨f0,d0,J,S,F0⟩:=F.ps;obtain⟨f1,d1,U,Y,Z⟩:=F.rs;obtain⟨f2,d2,m2,b2,F2⟩:=F.ws;have nm:∀{i:Nat}{x:Str}{pos:Pos},aD eN.names (af cK) i x=true->PE X (.Name x pos) (aq i):=λh=>l.nm h
 have tx:∀{p:Pos},PE X (.Name "player" p) (aq 3):=nm (by decide +kernel);have tt:∀{p1 p2:Pos},PA X [.Name "hand" p1,.Name "hole" p2] (av (aq 1) (av (aq 2) bN)):=ak (nm (by decide +kernel)) (ak (nm (by decide +kernel)) aS);have q0:PS X (Tb 0) _:=gb (iQ uZ (d9 (bf tx F.pc J F0 l.g.room S .nil bc tt) (d9 (bf tx F.rc U Z l.g.room Y .nil bc tt) (bf tx F.wc m2 F2 l.g.room b2 .nil bc tt))) xE (pN _)) (aU (cv i_)) cQ;exact al (mF l.d.own l.g.calm (jK (nm (by decide +kernel))) (l.pg (i:=3) (x:="player") rfl (by decide +kernel)) (show PSs X [Tb 0] _ from aU q0)) (aU (cv i_))
end
section
variable{P:Program}{w:World}{K:MP}{mg:Str->Option Value}{base:Heap}{z:Cc}
def IH {fa:Addr}{fd:FuncData}{n:Nat} (pr:ia tab K mg defs) (F:KFn P w K mg base z n) (D:FnD K "_law_told" "_law_told" cK fa fd):bw P w K mg base CX0 (n+1) fa fd ["players","hand","hole"] (F4 K z):=by
 obtain⟨c0,d0,k0,o0,m0,a0,b0,t1,a1,sl,lk,b4,rfl⟩:=D.it;refine ez lk b4 Di (λvs H Q E h=>?_) (λA outer s H vs Q E hr h=>?_)
 .obtain⟨aP,Y,p1,p2,hd,h2,J,ns,m,M,rfl,_⟩:=h
  rfl
 .obtain⟨aP,Y,p1,p2,hd,h2,J,ns,m,M,rfl,eP,h0,h1,b5,nd,i0,i1,i2,q⟩:=h;have l:Fr (cU CX0 P w K mg base eN.names "_law_told" (af cK) fa b0 A outer s H E).nox eN.names cK n:=Fr.of pr Di hr;have eB:aK cK=[To 0,To 1]:=rfl;rw[eB];refine⟨_,(IG l F).nox,?_⟩;simp only[KP,nW,xm,not_or,Ky,K2,K6,LA]at nd;obtain⟨⟨b6,b7,cd⟩,⟨bt,bK⟩,bO⟩:=nd;refine⟨_,rfl,aP,rfl,⟨_,SqL.of eP⟩,λi mm bP H'=>mm=3-i/\i<=3/\(∃r3,bP=[some (.ref aP),some (.str h2),some (.int J),r3])/\bp K z M H' Y hd .pl/\bp K z M H' p1 hd (if i<=1 then .ro ns m else Pk.see (h2==hd) (.ro ns m))/\bp K z M H' p2 hd .we/\(∀b o,b≠Y->b≠p1->b≠p2->H b=some o->H' b=some o),⟨_,rfl,by decide,⟨_,rfl⟩,h0,h1,b5,λb o _ _ _ e=>e⟩,?_⟩;rintro i mm bP H' ⟨rfl,hi,⟨r3,rfl⟩,g0,g1,g2,kp⟩;have sP:SqL K H' aP [.ref Y,.ref p1,.ref p2]:=SqL.of (kp _ _ b6 b7 cd eP);have arg:∀{y:V}{H2:Hp}{U:VK},U (.str h2) H2->aq 1 [some (.ref aP),some (.str h2),some (.int J),some y] H2 U:=λq=>⟨_,rfl,q⟩
  have Z:∀{y:V}{H2:Hp}{U:VK},U (.int J) H2->aq 2 [some (.ref aP),some (.str h2),some (.int J),some y] H2 U:=λq=>⟨_,rfl,q⟩
  match i,hi with
  |0,_ =>
   right;refine⟨⟨_,_,sP,rfl⟩,λS H2=>∃m',m'<3-0/\(m'=3-(0+1)/\0+1<=3/\(∃r3,S=[some (.ref aP),some (.str h2),some (.int J),r3])/\bp K z M H2 Y hd .pl/\bp K z M H2 p1 hd (if 0+1<=1 then .ro ns m else Pk.see (h2==hd) (.ro ns m))/\bp K z M H2 p2 hd .we/\(∀b o,b≠Y->b≠p1->b≠p2->H b=some o->H2 b=some o)),λS H2 w=>w,λy H2 yl=>?_⟩;obtain⟨rfl,yl⟩:=yl;cases yl _ sP;refine oh g0 i0 (λU q=>⟨_,rfl,q⟩) (λU q=>arg q) (λU q=>Z q) λH3 e k3=>⟨rfl,false,rfl,gZ ?_⟩
   have s3:=d_ i0 k3;exact⟨_,by decide,rfl,by decide,⟨_,rfl⟩,e,g1.to s3 (λo=>k3 p1 o (Ku bt)),g2.to s3 (λo=>k3 p2 o (Ku bK)),λb o b1 b2 b3 eb=>k3 b o b1 (kp b o b1 b2 b3 eb)⟩
  |1,_ =>
   right;refine⟨⟨_,_,sP,rfl⟩,λS H2=>∃m',m'<3-1/\(m'=3-(1+1)/\1+1<=3/\(∃r3,S=[some (.ref aP),some (.str h2),some (.int J),r3])/\bp K z M H2 Y hd .pl/\bp K z M H2 p1 hd (if 1+1<=1 then .ro ns m else Pk.see (h2==hd) (.ro ns m))/\bp K z M H2 p2 hd .we/\(∀b o,b≠Y->b≠p1->b≠p2->H b=some o->H2 b=some o)),λS H2 w=>w,λy H2 yl=>?_⟩;obtain⟨rfl,yl⟩:=yl;cases yl _ sP;refine oh g1 i1 (λU q=>⟨_,rfl,q⟩) (λU q=>arg q) (λU q=>Z q) λH3 e k3=>⟨rfl,false,rfl,gZ ?_⟩
   have s3:=d_ i1 k3;exact⟨_,by decide,rfl,by decide,⟨_,rfl⟩,g0.to s3 (λo=>k3 Y o bt),e,g2.to s3 (λo=>k3 p2 o (Ku bO)),λb o b1 b2 b3 eb=>k3 b o b2 (kp b o b1 b2 b3 eb)⟩
  |2,_ =>
   right;refine⟨⟨_,_,sP,rfl⟩,λS H2=>∃m',m'<3-2/\(m'=3-(2+1)/\2+1<=3/\(∃r3,S=[some (.ref aP),some (.str h2),some (.int J),r3])/\bp K z M H2 Y hd .pl/\bp K z M H2 p1 hd (if 2+1<=1 then .ro ns m else Pk.see (h2==hd) (.ro ns m))/\bp K z M H2 p2 hd .we/\(∀b o,b≠Y->b≠p1->b≠p2->H b=some o->H2 b=some o)),λS H2 w=>w,λy H2 yl=>?_⟩;obtain⟨rfl,yl⟩:=yl;cases yl _ sP;refine oh g2 i2 (λU q=>⟨_,rfl,q⟩) (λU q=>arg q) (λU q=>Z q) λH3 e k3=>⟨rfl,false,rfl,gZ ?_⟩
   have s3:=d_ i2 k3;exact⟨_,by decide,rfl,by decide,⟨_,rfl⟩,g0.to s3 (λo=>k3 Y o bK),g1.to s3 (λo=>k3 p1 o bO),e,λb o b1 b2 b3 eb=>k3 b o b3 (kp b o b1 b2 b3 eb)⟩
  |3,_ =>
   left;exact⟨⟨_,sP,pe _⟩,q H' g0 g1 g2 kp⟩
end
structure JW(K:MP)(Rb:LL)(rw rm:List Int)(t:List Int)(k0 k1:Nat)(L:LL)(ur uw ul:V)(d a:Addr)(H:Hp):Prop where
 ne:a≠d
 rb:Rep K (ah H [d,a]) (.lst (Rb.map ofS)) ur
 ro:Rep K (ah H [d,a]) (.lst [ofS rw,ofL rm]) uw
 rl:Rep K (ah H [d,a]) (ofR L) ul
 dd:H d=some (.lst (t.map V.int))
 dn:H a=some (.lst [.int k0,.int k1])
section
variable{K:MP}{Rb L:LL}{rw rm t:List Int}{k0 k1:Nat}{ur uw ul:V}{d a:Addr}{H H':Hp}{c b:Int}{wg:Bool}
theorem JW.mono(j:JW K Rb rw rm t k0 k1 L ur uw ul d a H)(s:ae H H'):JW K Rb rw rm t k0 k1 L ur uw ul d a H':=⟨j.ne,Rep.mono (aj s) _ j.rb,Rep.mono (aj s) _ j.ro,Rep.mono (aj s) _ j.rl,s _ _ j.dd,s _ _ j.dn⟩
def JW.here(j:JW K Rb rw rm t k0 k1 L ur uw ul d a H):∀x∈[d,a],H x≠none:=λx J=>by
 simp only[nW,xm,Ky]at J;rcases J with rfl|rfl
 .rw[j.dd];simp
 .rw[j.dn];simp
noncomputable def frW(c:Int)(ur:V)(b:Int)(d:Addr)(uw:V)(wg:Bool)(a:Addr)(ul:V)(σ:L2.St):L2.St:=some (.int c)::some ur::some (.int b)::some (.ref d)::some uw::some (.bl wg)::some (.ref a)::some ul::σ
noncomputable def vwW(c:Int)(Rb:LL)(b:Int)(t:List Int)(rw rm:List Int)(wg:Bool)(k0 k1:Nat)(L:LL)(G:Rho):Rho:=sv (.int c)::sv (.lst (Rb.map ofS))::sv (.int b)::some (.brw (t.map .int))::sv (.lst [ofS rw,ofL rm])::sv (.bl wg)::some (.brw [.int k0,.int k1])::sv (ofR L)::G
def JW.view(j:JW K Rb rw rm t k0 k1 L ur uw ul d a H){G:Rho}{σ:L2.St}(v:Vw K H [d,a] G σ):Vw K H [d,a] (vwW c Rb b t rw rm wg k0 k1 L G) (frW c ur b d uw wg a ul σ):=
 .val (aR (K:=K) _ _) (.val j.rb (.val (aR (K:=K) _ _) (.brw (SqL.of j.dd) (Reps.of_ints t) (.val j.ro (.val (cX _ _) (.brw (SqL.of j.dn) (.cons (aR (K:=K) _ _) (.cons (aR (K:=K) _ _) .nil)) (.val j.rl v)))))))
end
def Dj:bQ c9.names ["count","ribbons","begin","taken","rows","weighs"] (af bU):=⟨rfl,rfl,rfl,by decide +kernel,rfl,by decide +kernel,by decide +kernel⟩
noncomputable def Ah(K:MP):Sp:=λvs H Q _=>∃(c b:Int) (o wg:Bool) (Rb:LL) (rw rm t J:List Int) (ur uw:V) (d:Addr),vs=[.int c,ur,.int b,.ref d,uw,.bl wg]/\Lo c (sortT Rb)/\(∀s∈Rb,s.length<=8)/\Rb.length<=8/\b=(if o=true then 1 else 0)/\Tk c t/\kM c o (sortT Rb) rw rm wg t 0 0 J /\
 Rep K (ah H [d]) (.lst (Rb.map ofS)) ur/\Rep K (ah H [d]) (.lst [ofS rw,ofL rm]) uw/\H d=some (.lst (t.map V.int))/\∀H',H' d=some (.lst (J.map V.int))->(∀x o,x≠d->H x=some o->H' x=some o)->Q (bo (lft o 0 (sortT Rb) J)).v H'
noncomputable abbrev Wk(i:Nat):Stmt:=(aK bU).getD i (.Pass ⟨0,0,0,0⟩)
noncomputable def wb:Stmt->List Stmt
 | .While _ b _ _=>b
 | _=>[]
noncomputable abbrev Wb(i:Nat):Stmt:=(wb (Wk 2)).getD i (.Pass ⟨0,0,0,0⟩)
noncomputable abbrev mLb:ME:=.call 24 [.bor 1,.bor 3,.bor 2]
noncomputable abbrev II:ME:=.cmp .isN (.call 18 [.bor 7]) (.cst .non)
noncomputable abbrev mWh:ME:=.bin .mod (.bin .add (.blt .len [.bor 3]) (.bor 2)) (ci 2)
noncomputable abbrev IJ:ME:=.call 23 [(.call 19 [.bor 0,.bor 3]),(.idx (.bor 4) (.bor 8)),(.idx (.bor 6) (.bor 8)),.bor 7]
noncomputable abbrev Ai:ME:=.bin .add (.idx (.bor 6) (.bor 8)) (ci 1)
noncomputable abbrev tWb(K:MP)(cal:Cal):TS:=b_ (sV K cal 8 mWh) (b_ (sV K cal 9 IJ) (b_ (sV K cal 10 (ix 9 1)) (b_ (i4 (tVB K cal (.and (.cmp .eq (.bor 8) (ci 1)) (.bor 5))) (sV K cal 10 (ix 9 2)) eU)
 (b_ (pK (tV K cal Ai) (AO (aq 6) (aq 8) vd)) (b_ (dG (tBM K "list" iR (aq 3) (av (aq 10) bN))) (sV K cal 7 mLb))))))
noncomputable abbrev tWk(K:MP)(cal:Cal):TS:=b_ (λD σ H=>ww (av (tC (.int 0)) (av (tC (.int 0)) bN)) σ H λu H'=>D.nx (σ.set 6 (some u)) H') (b_ (sV K cal 7 mLb) (b_ (pL (tVB K cal II) (tWb K cal)) (iZ (tV K cal (.call 18 [.bor 7])))))
def IK{X:Cx}{n:Nat}(l:Fr X c9.names bU n):PSs X [Wk 0,Wk 1,Wk 2,Wk 3] (tWk X.K (ab defs n)):=by
 have nm:∀{i:Nat}{x:Str}{pos:Pos},aD c9.names (af bU) i x=true->PE X (.Name x pos) (aq i):=λh=>l.nm h
 have J:PS X (Wb 0) (sV X.K (ab defs n) 8 mWh):=l.set (i:=8) (x:="which") rfl (by decide +kernel) (l.v (by kernel_rfl)) (am rfl _ _ _);have S:PS X (Wb 1) (sV X.K (ab defs n) 9 IJ):=l.set (i:=9) (x:="due") rfl (by decide +kernel) (l.v (by kernel_rfl)) (am rfl _ _ _);have U:PS X (Wb 2) (sV X.K (ab defs n) 10 (ix 9 1)):=l.set (i:=10) (x:="hole") rfl (by decide +kernel) (l.v (by kernel_rfl)) (am rfl _ _ _);have Y:PS X (Wb 3) (i4 (tVB X.K (ab defs n) (.and (.cmp .eq (.bor 8) (ci 1)) (.bor 5))) (sV X.K (ab defs n) 10 (ix 9 2)) eU):=gb (l.t (by kernel_rfl)) (aU (l.set (i:=10) (x:="hole") rfl (by decide +kernel) (l.v (by kernel_rfl)) (am rfl _ _ _))) cQ;have Z:PS X (Wb 4) (pK (tV X.K (ab defs n) Ai) (AO (aq 6) (aq 8) vd)):=DJ (l.v (by kernel_rfl)) (DH (nm (by decide +kernel)) (nm (by decide +kernel)) yb);have b5:PS X (Wb 5) (dG (tBM X.K "list" iR (aq 3) (av (aq 10) bN))):=c5 (mS PySem.F.plainAttrs_list PySem.F.slot_list_append PySem.F.type_list_append gJ (nm (by decide +kernel)) (ak (nm (by decide +kernel)) aS)) rfl;have b6:PS X (Wb 6) (sV X.K (ab defs n) 7 mLb):=l.set (i:=7) (x:="left") rfl (by decide +kernel) (l.v (by kernel_rfl)) (am rfl _ _ _);have p0:PS X (Wk 0) (λD σ H=>ww (av (tC (.int 0)) (av (tC (.int 0)) bN)) σ H λu H'=>D.nx (σ.set 6 (some u)) H'):=l.set (i:=6) (x:="done") rfl (by decide +kernel) (mJ (ak dh (ak dh aS))) (am rfl _ _ _);have p1:PS X (Wk 1) (sV X.K (ab defs n) 7 mLb):=l.set (i:=7) (x:="left") rfl (by decide +kernel) (l.v (by kernel_rfl)) (am rfl _ _ _);have p2:PS X (Wk 2) (pL (tVB X.K (ab defs n) II) (tWb X.K (ab defs n))):=q_ l.d.own (l.t (by kernel_rfl)) (show PSs X [Wb 0,Wb 1,Wb 2,Wb 3,Wb 4,Wb 5,Wb 6] _ from al J (al S (al U (al Y (al Z (al b5 (aU b6)))))));exact al p0 (al p1 (al p2 (aU (cv (l.v (by kernel_rfl))))))
def Dk{K:MP}{F:Hp}{L:LL}{u:V}(r:Rep K F (bo L).pv u):u=(bo L).v:=by
 rcases eQ L with e|e|e
 .rw[e]at r ⊢;have r:Rep K F (.str "weaver") u:=r;rw[Rep]at r;exact r
 .rw[e]at r ⊢;have r:Rep K F (.str "moth") u:=r;rw[Rep]at r;exact r
 .rw[e]at r ⊢;have r:Rep K F .non u:=r;rw[Rep]at r;exact r
def Aj{n:Nat}{G:Rho}{i:Nat}{L:LL}(h:(G[i]?).join=sv (ofR L)):ev (ab defs (n+1)) (.cmp .isN (.call 18 [.bor i]) (.cst .non)) G=some (.bl (iw (bo L).pv)):=by
 rw[di (x:=(bo L).pv) (aX (vs:=[.val (ofR L)]) (kJ (by rw[h];rfl) rfl) (zX n L)) (cH _ _ _),qC]
 rfl
def lH{L:LL}:iw (bo L).pv=decide (bo L=.non):=by
 rcases eQ L with e|e|e<;>rw[e]<;>rfl
def Ak{cal:Cal}{G:Rho}{t:List Int}{b:Int}{o:Bool}(h3:(G[3]?).join=some (.brw (t.map .int)))(h2:(G[2]?).join=sv (.int b))(J:b=if o=true then 1 else 0):ev cal mWh G=some (.int (if hat o t.length=true then 1 else 0)):=by
 have S:ev cal (.blt .len [.bor 3]) G=some (.int (t.length:Nat)):=by
  rw[bz (v:=ofL t) (by rw[ev,h3];rfl)];show some (PV.int ((t.map PV.int).length:Nat))=_;rw[tr]
 rw[bM (x:=.int ((t.length:Int)+b)) (bM (x:=.int (t.length:Nat)) (y:=.int b) S (by rw[ev,h2];rfl)) (cH _ _ _),du,if_pos (by decide)]
 congr 2
 unfold hat;rw[J];by_cases q:t.length % 2=0
 .rw[if_pos q];cases o<;>simp<;>omega
 .rw[if_neg q];cases o<;>simp<;>omega
section
variable{K:MP}{Rb:LL}{rw rm t:List Int}{k0 k1:Nat}{ur uw ul:V}{d a:Addr}{H:Hp}{c b:Int}{o wg:Bool}
def IL{n:Nat}(lo:Lo c (sortT Rb))(h8:∀s∈Rb,s.length<=8)(hl:Rb.length<=8)(hb:b=if o=true then 1 else 0)(k:Tk c t)(hw:bo (lft o 0 (sortT Rb) t)=.non)(j:JW K Rb rw rm t k0 k1 (lft o 0 (sortT Rb) t) ur uw ul d a H){z8 z9 bK:Option V}{D:gF}
  (q:∀S H' r8 Z U,JW K Rb rw rm (t++[nxt c o (sortT Rb) rw rm wg t k0 k1]) (up0 o t k0) (up1 o t k1) (lft o 0 (sortT Rb) (t++[nxt c o (sortT Rb) rw rm wg t k0 k1])) ur uw S d a H'->(∀x u,x≠d->x≠a->H x=some u->H' x=some u)->D.nx (frW c ur b d uw wg a S [r8,Z,U]) H') :
  tWb K (ab defs (n+3)) D (frW c ur b d uw wg a ul [z8,z9,bK]) H:=by
 have aH:=lo.free hw;have len:=k.room lo.q aH;have g:=iP o t 0 lo.g;have g8:=FU o t 0 lo.e;have aL:=lo.nxt (o:=o) hw (rw:=rw) (rm:=rm) (wg:=wg) (k0:=k0) (k1:=k1);have J:nxt c o (sortT Rb) rw rm wg t k0 k1=if (hat o t.length&&wg)=true then bst (frl c t) (lft o 0 (sortT Rb) t)else plc (frl c t) (if hat o t.length=true then rm else rw) (if hat o t.length=true then k1 else k0):=by
  unfold nxt;cases hat o t.length<;>cases wg<;>rfl
 refine⟨_,_,_,j.here,j.view (.skip (.skip (.skip .nil))),Ak rfl rfl hb,λu8 H1 s1 r8=>?_⟩;have j1:=j.mono s1;rw[Rep]at r8;subst r8;have bP:up0 o t k0=if hat o t.length=true then k0 else k0+1:=rfl
 have bR:up1 o t k1=if hat o t.length=true then k1+1 else k1:=rfl
 generalize nxt c o (sortT Rb) rw rm wg t k0 k1=Y at J q aL;rw[bP,bR]at q;generalize hat o t.length=y at J q;refine⟨_,_,.lst [.int ((frl c t).headD 0),.int (plc (frl c t) (if y=true then rm else rw) (if y=true then k1 else k0)),.int (bst (frl c t) (lft o 0 (sortT Rb) t))],j1.here,j1.view (c:=c) (b:=b) (wg:=wg) (.val (aR (K:=K) _ (if y=true then 1 else 0)) (.skip (.skip .nil))),?_,λu9 H2 s2 Z=>?_⟩
 .refine aX (vs:=[.val (ofL (frl c t)),.val (if y=true then ofL rm else ofS rw),.val (.int ((if y=true then k1 else k0:Nat):Int)),.val (ofR (lft o 0 (sortT Rb) t))]) (lF (aX (vs:=[.val (.int c),.brw (t.map .int)]) rfl (qN (n+2) c t (c60 lo).1 (c60 lo).2 (by omega))) (C0 ?_ (C0 ?_ (kJ rfl rfl)))) (C5 n ?_ _ aH g g8)
  .refine(fq (x:=.lst [ofS rw,ofL rm]) (y:=.int (if y=true then 1 else 0)) rfl rfl).trans ?_;cases y<;>rfl
  .refine(fq (x:=.lst [.int k0,.int k1]) (y:=.int (if y=true then 1 else 0)) rfl rfl).trans ?_;cases y<;>rfl
  .cases y
   .exact .inr rfl
   .exact .inl rfl
 have j2:=j1.mono s2;refine⟨_,_,.int (plc (frl c t) (if y=true then rm else rw) (if y=true then k1 else k0)),j2.here,j2.view (c:=c) (b:=b) (wg:=wg) (.val (aR (K:=K) _ (if y=true then 1 else 0)) (.val Z (.skip .nil))),rfl,λdr H3 s3 U=>?_⟩;have j3:=j2.mono s3;have aP:=Rep.mono (aj s3) _ Z;rw[Rep]at U;subst U;refine⟨_,_,(y&&wg),j3.here,j3.view (c:=c) (b:=b) (wg:=wg) (.val (aR (K:=K) _ (if y=true then 1 else 0)) (.val aP (.skip .nil))),?_,λH4 s4=>?_⟩
 .refine uH (p:=y) ?_ λ_=>rfl
  refine(di (x:=.int (if y=true then 1 else 0)) (y:=.int 1) rfl rfl).trans ?_;cases y<;>rfl
 have j4:=j3.mono s4;have b2:=Rep.mono (aj s4) _ aP;have dF:∀(H5:Hp),ae H4 H5->b_ (pK (tV K (ab defs (n+3)) Ai) (AO (aq 6) (aq 8) vd)) (b_ (dG (tBM K "list" iR (aq 3) (av (aq 10) bN))) (sV K (ab defs (n+3)) 7 mLb)) D (frW c ur b d uw wg a ul [some (.int (if y=true then 1 else 0)),some u9,some (.int Y)]) H5:=λH5 s5=>by
  have j5:=j4.mono s5;refine⟨_,_,.int ((if y=true then k1 else k0:Nat)+1),j5.here,j5.view (c:=c) (b:=b) (wg:=wg) (.val (aR (K:=K) _ (if y=true then 1 else 0)) (.skip (.skip .nil))),?_,λu H6 s6 r6=>?_⟩
  .refine(bM (x:=.int ((if y=true then k1 else k0:Nat):Int)) (y:=.int 1) ?_ rfl).trans rfl;refine(fq (x:=.lst [.int k0,.int k1]) (y:=.int (if y=true then 1 else 0)) rfl rfl).trans ?_;cases y<;>rfl
  have j6:=j5.mono s6;rw[Rep]at r6;subst r6;refine⟨_,rfl,_,rfl,a,_,(if y=true then 1 else 0),(if y=true then 1 else 0),rfl,rfl,j6.dn,by cases y<;>rfl,?_⟩;have e7:(upd H6 a (.lst ([V.int k0,.int k1].set (if y=true then 1 else 0) (.int ((if y=true then k1 else k0:Nat)+1))))) a=some (.lst [.int ((if y=true then k0 else k0+1:Nat):Int),.int ((if y=true then k1+1 else k1:Nat):Int)]):=by
   rw[ax];cases y<;>rfl
  have k7:∀x u,x≠a->H6 x=some u->(upd H6 a (.lst ([V.int k0,.int k1].set (if y=true then 1 else 0) (.int ((if y=true then k1 else k0:Nat)+1))))) x=some u:=λx u n e=>by rw[aA n];exact e
  generalize upd H6 a (.lst ([V.int k0,.int k1].set (if y=true then 1 else 0) (.int ((if y=true then k1 else k0:Nat)+1))))=H7 at e7 k7;have v7:ae (ah H6 [d,a]) (ah H7 [d,a]):=d_ (x:=a) (by simp) k7;have d7:=k7 d _ (Ku j6.ne) j6.dd;refine⟨_,rfl,.inl ⟨rfl,_,SqL.of d7⟩,_,rfl,d,t.map V.int,.int Y,rfl,rfl,d7,?_,?_⟩
  .rw[tr];exact wh len (by decide)
  have e8:(upd H7 d (.lst (t.map V.int++[.int Y]))) d=some (.lst ((t++[Y]).map V.int)):=by rw[ax,LR];rfl
  have k8:∀x u,x≠d->H7 x=some u->(upd H7 d (.lst (t.map V.int++[.int Y]))) x=some u:=λx u n e=>by rw[aA n];exact e
  generalize upd H7 d (.lst (t.map V.int++[.int Y]))=H8 at e8 k8;have v8:ae (ah H7 [d,a]) (ah H8 [d,a]):=d_ (x:=d) (by simp) k8;have v:=v7.trans v8;have j8:JW K Rb rw rm (t++[Y]) (if y=true then k0 else k0+1) (if y=true then k1+1 else k1) (lft o 0 (sortT Rb) t) ur uw ul d a H8:=⟨j.ne,Rep.mono v _ j6.rb,Rep.mono v _ j6.ro,Rep.mono v _ j6.rl,e8,k8 a _ j.ne e7⟩;have kt:=k.add aL;refine⟨_,_,_,j8.here,j8.view (c:=c) (b:=b) (wg:=wg) (.skip (.skip (.skip .nil))),aX (vs:=[.val (.lst (Rb.map ofS)),.brw ((t++[Y]).map .int),.val (.int b)]) rfl (qP (n+1) h8 hl hb kt.nd (kt.len lo.q)),λS H9 s9 Z=>?_⟩;have j9:=j8.mono s9;exact q S H9 _ _ _ ⟨j9.ne,j9.rb,j9.ro,Z,j9.dd,j9.dn⟩ λx u nd na e=>s9 _ _ (k8 x u nd (k7 x u na (s6 _ _ (s5 _ _ (s4 _ _ (s3 _ _ (s2 _ _ (s1 _ _ e))))))))
 cases a3:(y&&wg)with
 |true =>
  rw[a3]at J;refine ow ⟨_,_,.int (bst (frl c t) (lft o 0 (sortT Rb) t)),j4.here,j4.view (c:=c) (b:=b) (wg:=wg) (.val (aR (K:=K) _ (if y=true then 1 else 0)) (.val b2 (.skip .nil))),rfl,λu H5 s5 r5=>?_⟩;rw[Rep]at r5;subst r5;rw[if_pos rfl]at J;rw[<- J];exact dF H5 s5
 |false =>
  rw[a3,if_neg (by decide)]at J;rw[<- J];exact gZ (dF H4 (ae.refl H4))
end
section
variable{P:Program}{w:World}{K:MP}{mg:Str->Option Value}{base:Heap}
def kQ{c:Int}{o:Bool}{R:LL}{rw rm:List Int}{wg:Bool}{t J:List Int}{k0 k1:Nat}(r:kM c o R rw rm wg t k0 k1 J)(h:bo (lft o 0 R t)≠.non):J=t:=by
 cases r with
 |done _=>rfl
 |step h' _=>exact absurd h' h
def pH{c:Int}{o:Bool}{R:LL}{rw rm:List Int}{wg:Bool}{t J:List Int}{k0 k1:Nat}(r:kM c o R rw rm wg t k0 k1 J)(h:bo (lft o 0 R t)=.non):kM c o R rw rm wg (t++[nxt c o R rw rm wg t k0 k1]) (up0 o t k0) (up1 o t k1) J:=by
 cases r with
 |done h'=>exact absurd h h'
 |step _ r=>exact r
def IM {fa:Addr}{fd:FuncData}{n:Nat} (pr:ia tab K mg defs) (D:FnD K "_law_walked" "_law_walked" bU fa fd):bw P w K mg base CX0 (n+4) fa fd ["count","ribbons","begin","taken","rows","weighs"] (Ah K):=by
 obtain⟨c0,d0,k0,o0,m0,a0,a6,t1,a1,sl,lk,bt,rfl⟩:=D.it;refine ez lk bt Dj (λvs H Q E h=>?_) (λA outer s H vs Q E hr h=>?_)
 .obtain⟨c,b,o,wg,Rb,rw,rm,t,tf,ur,uw,d,rfl,_⟩:=h
  rfl
 .obtain⟨c,b,o,wg,Rb,rw,rm,t,tf,ur,uw,d,rfl,lo,h8,hl,hb,kt,rn,rb,ro,ed,q⟩:=h;have l:Fr (cU CX0 P w K mg base c9.names "_law_walked" (af bU) fa a6 A outer s H E).nox c9.names bU (n+3):=Fr.of pr Dj hr;have eB:aK bU=[Wk 0,Wk 1,Wk 2,Wk 3]:=rfl;rw[eB];refine⟨_,(IK l).nox,?_⟩;refine⟨by show 2<=sizeLine;decide,λa ha=>?_⟩;have s1:ae H (upd H a (.lst [.int ((0:Nat):Int),.int ((0:Nat):Int)])):=bE ha _;have e1:(upd H a (.lst [.int ((0:Nat):Int),.int ((0:Nat):Int)])) a=some (.lst [.int ((0:Nat):Int),.int ((0:Nat):Int)]):=ax;show b_ _ _ _ _ (upd H a (.lst [.int ((0:Nat):Int),.int ((0:Nat):Int)]));generalize upd H a (.lst [.int ((0:Nat):Int),.int ((0:Nat):Int)])=H1 at s1 e1;have bR:a≠d:=λz=>by rw[z,ed]at ha;cases ha
  have v1:ae (ah H [d]) (ah H1 [d,a]):=aQ s1 λy hy=>by
   simp only[nW,xm,Ky]at hy ⊢;rcases hy with rfl|rfl
   .exact .inl rfl
   .exact .inr ha
  have Z:=Rep.mono v1 _ rb;have bT:=Rep.mono v1 _ ro;have bW:∀x∈[d,a],H1 x≠none:=λx S=>by
   simp only[nW,xm,Ky]at S;rcases S with rfl|rfl
   .rw[s1 _ _ ed];simp
   .rw[e1];simp
  refine⟨[d,a],[none,sv (.lst (Rb.map ofS)),sv (.int b),some (.brw (t.map .int)),none,none,none,none,none,none,none],_,bW,.skip (.val Z (.val (aR (K:=K) _ _) (.brw (SqL.of (s1 _ _ ed)) (Reps.of_ints t) (.skip (.skip (.skip (.skip (.skip (.skip (.skip .nil)))))))))),aX (vs:=[.val (.lst (Rb.map ofS)),.brw (t.map .int),.val (.int b)]) rfl (qP (n+1) h8 hl hb kt.nd (kt.len lo.q)),λul H2 s2 r2=>?_⟩;have j2:JW K Rb rw rm t 0 0 (lft o 0 (sortT Rb) t) ur uw ul d a H2:=⟨bR,Rep.mono (aj s2) _ Z,Rep.mono (aj s2) _ bT,r2,s2 _ _ (s1 _ _ ed),s2 _ _ e1⟩;refine⟨λm ar H'=>∃(t:List Int) (k0 k1:Nat) (ul:V) (r8 r9 J:Option V),m=61-t.length/\ar=frW c ur b d uw wg a ul [r8,r9,J]/\JW K Rb rw rm t k0 k1 (lft o 0 (sortT Rb) t) ur uw ul d a H'/\Tk c t/\kM c o (sortT Rb) rw rm wg t k0 k1 tf/\∀x u,x≠d->H x=some u->H' x=some u,⟨_,t,0,0,ul,none,none,none,rfl,rfl,j2,kt,rn,λx u _ e=>s2 _ _ (s1 _ _ e)⟩,?_⟩;rintro m ar H' ⟨t',k0,k1,cL,r8,r9,J,rfl,rfl,j',U,Y,kp⟩;refine⟨_,_,_,j'.here,j'.view (c:=c) (b:=b) (wg:=wg) (.skip (.skip (.skip .nil))),(Aj rfl).trans (by rw[lH]),λH3 s3=>?_⟩;have j3:=j'.mono s3;by_cases hw:bo (lft o 0 (sortT Rb) t')=.non
  .rw[Ks hw];have len:=U.room lo.q (lo.free hw);refine ow ⟨λaH H2=>∃m',m'<61-t'.length/\∃(t:List Int) (k0 k1:Nat) (ul:V) (r8 r9 J:Option V),m'=61-t.length/\aH=frW c ur b d uw wg a ul [r8,r9,J]/\JW K Rb rw rm t k0 k1 (lft o 0 (sortT Rb) t) ur uw ul d a H2/\Tk c t/\kM c o (sortT Rb) rw rm wg t k0 k1 tf/\∀x u,x≠d->H x=some u->H2 x=some u,λaH H2 w=>w,?_⟩;refine IL (n:=n) lo h8 hl hb U hw j3 λb0 H4 s8 s9 b1 j4 k4=>⟨_,?_,_,_,_,b0,s8,s9,b1,rfl,rfl,j4,U.add (lo.nxt hw),pH Y hw,λx u S e=>?_⟩
   .rw[KU,length_singleton];omega
   .exact k4 x u S (a9 e ha) (s3 _ _ (kp x u S e))
  .rw[KH hw];refine gZ ⟨_,_,_,j3.here,j3.view (c:=c) (b:=b) (wg:=wg) (.skip (.skip (.skip .nil))),aX (vs:=[.val (ofR (lft o 0 (sortT Rb) t'))]) rfl (zX (n+2) _),λu H4 s4 r4=>?_⟩;rw[Dk r4,<- kQ Y hw];have j4:=j3.mono s4;rw[<- kQ Y hw]at j4;exact q H4 j4.dd λx u S e=>s4 _ _ (s3 _ _ (kp x u S e))
end
section
variable{K:MP}{fs xs ys:List PV}{aT lT l':Addr}{N:List Addr}{H H':Hp}
def took(nd:(aT::lT::N).Nodup)(Z:∀a∈aT::lT::N,H a≠none)(kp:∀b o,b≠aT->b≠lT->H b=some o->H' b=some o)(U:l'=lT\/H l'=none)(oa:cm K (λ_=>none) (l'::(aT::lT::N).filter λb=>decide (b≠lT)) H' fs ys aT l') :
  (aT::l'::N).Nodup/\ae (ah H (aT::lT::N)) (ah H' (aT::l'::N))/\cm K (λ_=>none) (aT::l'::N) H' fs ys aT l':=by
 have Y:=nd;simp only[KP,nW,not_or]at Y;obtain⟨⟨n1,n2⟩,n3,n4⟩:=Y;have nl:aT≠l'/\l'∉N:=by
  rcases U with rfl|U
  .exact⟨n1,n3⟩
  .exact⟨λz=>Z aT (.head _) (z▸U),λz=>Z l' (.tail _ (.tail _ z)) U⟩
 refine⟨by simp only[KP,nW,not_or];exact⟨⟨nl.1,n2⟩,nl.2,n4⟩,λy w S=>?_,oa.move (B':=λ_=>none) (aQ (ae.refl H') λy J=>.inl ?_) (λ_ z=>z) (λ_ z=>z) (.head _) (.tail _ (.head _)) rfl rfl⟩
 .have J:y∉aT::lT::N:=λz=>by rw[dq z]at S;cases S
  rw[aV J]at S;simp only[nW,not_or]at J;have hn:y∉aT::l'::N:=λz=>by
   simp only[nW]at z;rcases z with z|z|z
   .exact J.1 z
   .rcases U with e|e
    .exact J.2.1 (z.trans e)
    .rw[z,e]at S;cases S
   .exact J.2.2 z
  rw[aV hn];exact kp y w J.1 J.2.1 S
 .simp only[nW,Kw,decide_eq_true_eq]at J ⊢;rcases J with h|h|h
  .exact .inr ⟨.inl h,λe=>n1 (h.symm.trans e)⟩
  .exact .inl h
  .exact .inr ⟨.inr (.inr h),λe=>n3 (e▸h)⟩
def vX{C:Addr}(U:IsC K C){n:Nat}{c:Int}{R:LL}{o:Bool}{t:List Int}{a:Int}(lo:Lo c R)(k:Tk c t)(hw:bo (lft o 0 R t)=.non)(ha:a∈frl c t)(nd:(aT::lT::N).Nodup)(J:∀a∈aT::lT::N,H a≠none)(tb:cm K (λ_=>none) (aT::lT::N) H (tbl c R o) (t.map .int) aT lT)
  {σ:L2.St}{tx ta:TE}{D:gF} (Y:∀Q:VK,Q (.ref aT) H->tx σ H Q) (Z:∀Q:VK,Q (.int a) H->ta σ H Q) (q:∀l' H',(aT::l'::N).Nodup->ae (ah H (aT::lT::N)) (ah H' (aT::l'::N))->cm K (λ_=>none) (aT::l'::N) H' (tbl c R o) ((t++[a]).map .int) aT l'->(∀b o,b≠aT->b≠lT->H b=some o->H' b=some o)->(l'=lT\/H l'=none)->D.nx σ H') :
  dG (eV C "take" (spT K (ab defs (n+6)) 31) [] E0 tx (av ta bN)) D σ H:=by
 obtain⟨⟨m0,m1⟩,m2⟩:=mB.mp ha;have len:=k.room lo.q (lo.free hw);obtain⟨C',dx,gs,h1,h2⟩:=tb.ob;have eC:C'=C:=by
  have:=h2.cls.symm.trans U;cases this
  rfl
 subst eC;have et:=zR n c R o t a lo.g hw m0 m1 m2 (by omega);refine Y _ ⟨aT,dx,gs,rfl,h1,h2.no _ (by decide),Z _ ⟨aT::lT::N,aT,lT,tbl c R o,t.map .int,[.val (.int a)],[.int a],_,_,rfl,J,tb,.cons (aR (K:=K) (ah (eY H [aT,lT]) (aT::lT::N)) a) .nil,et,λl' H1 kp S ob=>?_⟩⟩;obtain⟨g1,g2,g3⟩:=took nd J kp S ob;exact q l' H1 g1 g2 g3 kp S
end
structure JP(K:MP)(z:Cc)(c:Int)(R:LL)(o:Bool)(t:List Int)(pw pm:Pk)(aT lT aW aM:Addr)(N:List Addr)(H:Hp):Prop where
 nd:(aT::lT::aW::aM::N).Nodup
 tb:cm K (λ_=>none) (aT::lT::aW::aM::N) H (tbl c R o) (t.map .int) aT lT
 hW:bp K z (aT::lT::aW::aM::N) H aW "weaver" pw
 hM:bp K z (aT::lT::aW::aM::N) H aM "moth" pm
 hN:∀a∈N,H a≠none
section
variable{K:MP}{z:Cc}{c:Int}{R:LL}{o:Bool}{t:List Int}{pw pm:Pk}{aT lT aW aM:Addr}{N:List Addr}{H H':Hp}
def JP.mono(j:JP K z c R o t pw pm aT lT aW aM N H)(s:ae H H'):JP K z c R o t pw pm aT lT aW aM N H':=
 ⟨j.nd,j.tb.move (B':=λ_=>none) (aj s) (λ_=>s _ _) (λ_=>s _ _) j.tb.aO j.tb.lO rfl rfl,j.hW.mv s,j.hM.mv s,λa ha e=>j.hN a ha (s.free e)⟩
def own_here{fs xs:List PV}{O:List Addr}(tb:cm K (λ_=>none) O H fs xs aT lT):H aT≠none/\H lT≠none:=by
 obtain⟨_,_,_,h1,_⟩:=tb.ob;obtain⟨_,h2,_⟩:=tb.li;exact⟨by rw[h1];simp,by rw[h2];simp⟩
theorem JP.here(j:JP K z c R o t pw pm aT lT aW aM N H):∀a∈aT::lT::aW::aM::N,H a≠none:=λa ha=>by
 simp only[nW]at ha;rcases ha with rfl|rfl|rfl|rfl|ha
 .exact(own_here j.tb).1
 .exact(own_here j.tb).2
 .exact j.hW.here
 .exact j.hM.here
 .exact j.hN a ha
theorem JP.ne(j:JP K z c R o t pw pm aT lT aW aM N H):aW≠aT/\aW≠lT/\aM≠aT/\aM≠lT/\aW≠aM/\(∀a∈N,a≠aT/\a≠lT/\a≠aW/\a≠aM):=by
 have nd:=j.nd;simp only[KP,nW,not_or]at nd;obtain⟨⟨n1,n2,n3,S⟩,⟨U,Y,Z⟩,⟨n8,n9⟩,J,_⟩:=nd;exact⟨Ku n2,Ku U,Ku n3,Ku Y,n8,λa ha=>⟨λe=>S (e▸ha),λe=>Z (e▸ha),λe=>n9 (e▸ha),λe=>J (e▸ha)⟩⟩
def JP.took(j:JP K z c R o t pw pm aT lT aW aM N H){l':Addr}{t':List Int}(nd:(aT::l'::aW::aM::N).Nodup)(v:ae (ah H (aT::lT::aW::aM::N)) (ah H' (aT::l'::aW::aM::N)))(tb:cm K (λ_=>none) (aT::l'::aW::aM::N) H' (tbl c R o) (t'.map .int) aT l')(kp:∀b o,b≠aT->b≠lT->H b=some o->H' b=some o):JP K z c R o t' pw pm aT l' aW aM N H':=by
 obtain⟨U,Y,Z,e4,_,J⟩:=j.ne;refine⟨nd,tb,j.hW.to v λu=>kp _ u U Y,j.hM.to v λu=>kp _ u Z e4,λa ha e=>?_⟩;cases S:H a with
 |none=>exact j.hN a ha S
 |some u=>rw[kp a u (J a ha).1 (J a ha).2.1 S]at e;cases e
def JP.sawW (j:JP K z c R o t pw pm aT lT aW aM N H) {q:Pk} (h:bp K z (aT::lT::aW::aM::N) H' aW "weaver" q) (kp:∀b o,b≠aW->H b=some o->H' b=some o):JP K z c R o t q pm aT lT aW aM N H':=by
 obtain⟨S,U,e3,e4,Y,Z⟩:=j.ne;have v:ae (ah H (aT::lT::aW::aM::N)) (ah H' (aT::lT::aW::aM::N)):=d_ (x:=aW) (by simp) kp;refine⟨j.nd,j.tb.move (B':=λ_=>none) v (λu=>kp aT u (Ku S)) (λu=>kp lT u (Ku U)) j.tb.aO j.tb.lO rfl rfl,h,j.hM.to v λu=>kp aM u (Ku Y),λa ha e=>?_⟩;cases J:H a with
 |none=>exact j.hN a ha J
 |some u=>rw[kp a u (Z a ha).2.2.1 J]at e;cases e
def JP.sawM (j:JP K z c R o t pw pm aT lT aW aM N H) {q:Pk} (h:bp K z (aT::lT::aW::aM::N) H' aM "moth" q) (kp:∀b o,b≠aM->H b=some o->H' b=some o):JP K z c R o t pw q aT lT aW aM N H':=by
 obtain⟨e1,e2,S,U,Y,Z⟩:=j.ne;have v:ae (ah H (aT::lT::aW::aM::N)) (ah H' (aT::lT::aW::aM::N)):=d_ (x:=aM) (by simp) kp;refine⟨j.nd,j.tb.move (B':=λ_=>none) v (λu=>kp aT u (Ku S)) (λu=>kp lT u (Ku U)) j.tb.aO j.tb.lO rfl rfl,j.hW.to v λu=>kp aW u Y,h,λa ha e=>?_⟩;cases J:H a with
 |none=>exact j.hN a ha J
 |some u=>rw[kp a u (Z a ha).2.2.2 J]at e;cases e
end
noncomputable def mpk(wg:Bool)(rm:List Int)(k1:Nat):Pk:=if wg=true then .we else .ro rm k1
def Dl:bQ eM.names ["table","weaver","moth"] (af cJ):=⟨rfl,rfl,rfl,by decide +kernel,rfl,by decide +kernel,by decide +kernel⟩
noncomputable def Al(K:MP)(z:Cc):Sp:=λvs H Q _=>∃(aT lT aW aM:Addr) (N:List Addr) (c:Int) (o wg:Bool) (R:LL) (rw rm t J:List Int),vs=[.ref aT,.ref aW,.ref aM]/\JP K z c R o t (.ro rw 0) (mpk wg rm 0) aT lT aW aM N H/\Lo c R/\Tk c t/\kM c o R rw rm wg t 0 0 J /\
 ∀H' l',(aT::l'::aW::aM::N).Nodup->cm K (λ_=>none) (aT::l'::aW::aM::N) H' (tbl c R o) (J.map .int) aT l'->(∀b u,b≠aT->b≠lT->b≠aW->b≠aM->H b=some u->H' b=some u)->Q (bo (lft o 0 R J)).v H'
noncomputable abbrev Po(i:Nat):Stmt:=(aK cJ).getD i (.Pass ⟨0,0,0,0⟩)
noncomputable abbrev Pw(i:Nat):Stmt:=(wb (Po 0)).getD i (.Pass ⟨0,0,0,0⟩)
noncomputable abbrev IN:ME:=.cmp .isN (.callM 30 0 []) (.cst .non)
noncomputable abbrev F5:ME:=.cmp .eq (.bor 3) (cs "weaver")
noncomputable abbrev tPw(K:MP)(z:Cc)(C:Addr)(cal:Cal):TS:=b_ (sV K cal 3 (.callM 26 0 [])) (b_ (λD σ H=>tIf (tVB K cal F5) (tPk K z (aq 1) (aq 0)) (tPk K z (aq 2) (aq 0)) σ H λu H'=>D.nx (σ.set 4 (some u)) H')
 (b_ (dG (eV C "take" (spT K cal 31) [] E0 (aq 0) (av (aq 4) bN))) (b_ (dG (tSe K z (aq 1) (aq 3) (aq 4))) (dG (tSe K z (aq 2) (aq 3) (aq 4))))))
def IP{X:Cx}{n:Nat}{C:Addr}(U:IsC X.K C)(l:Fr X eM.names cJ n)(F:KFn X.prog X.w X.K X.mg X.base z n):PSs X [Po 0,Po 1] (b_ (pL (tVB X.K (ab defs n) IN) (tPw X.K z C (ab defs n))) (iZ (tV X.K (ab defs n) (.callM 30 0 [])))):=by
 obtain⟨f0,d0,Y,Z,F0⟩:=F.pp;obtain⟨f1,d1,m1,b1,F1⟩:=F.rp;obtain⟨f2,d2,m2,b2,F2⟩:=F.wp;obtain⟨g0,e0,n0,c0,G0⟩:=F.ps;obtain⟨g1,e1,n1,c1,G1⟩:=F.rs;obtain⟨g2,e2,n2,c2,G2⟩:=F.ws;obtain⟨fa,fd,ps,h1,h3,FT⟩:=l.g.methsT 31 "take" rfl C U;have cC:=(l.g.cls C U).1;have nm:∀{i:Nat}{x:Str}{pos:Pos},aD eM.names (af cJ) i x=true->PE X (.Name x pos) (aq i):=λh=>l.nm h
 have tt:∀{p:Pos},PA X [.Name "table" p] (av (aq 0) bN):=ak (nm (by decide +kernel)) aS;have th:∀{p1 p2:Pos},PA X [.Name "hand" p1,.Name "hole" p2] (av (aq 3) (av (aq 4) bN)):=ak (nm (by decide +kernel)) (ak (nm (by decide +kernel)) aS);have J:∀{p:Pos},PE X (.Name "weaver" p) (aq 1):=nm (by decide +kernel);have S:∀{p:Pos},PE X (.Name "moth" p) (aq 2):=nm (by decide +kernel);have v0:PS X (Pw 0) (sV X.K (ab defs n) 3 (.callM 26 0 [])):=l.set (i:=3) (x:="hand") rfl (by decide +kernel) (l.v (by kernel_rfl)) (am rfl _ _ _);have v1:PS X (Pw 1) (λD σ H=>tIf (tVB X.K (ab defs n) F5) (tPk X.K z (aq 1) (aq 0)) (tPk X.K z (aq 2) (aq 0)) σ H λu H'=>D.nx (σ.set 4 (some u)) H'):=l.set (i:=4) (x:="hole") rfl (by decide +kernel)
  (qZ (l.t (by kernel_rfl)) (d9 (bf J F.pc Y F0 l.g.room Z .nil bc tt) (d9 (bf J F.rc m1 F1 l.g.room b1 .nil bc tt) (bf J F.wc m2 F2 l.g.room b2 .nil bc tt)))
   (d9 (bf S F.pc Y F0 l.g.room Z .nil bc tt) (d9 (bf S F.rc m1 F1 l.g.room b1 .nil bc tt) (bf S F.wc m2 F2 l.g.room b2 .nil bc tt)))) (am rfl _ _ _)
 have v2:PS X (Pw 2) (dG (eV C "take" (spT X.K (ab defs n) 31) [] E0 (aq 0) (av (aq 4) bN))):=c5 (bf (nm (by decide +kernel)) cC h1 FT l.g.room h3 .nil bc (ak (nm (by decide +kernel)) aS)) rfl;have v3:PS X (Pw 3) (dG (tSe X.K z (aq 1) (aq 3) (aq 4))):=c5 (d9 (bf J F.pc n0 G0 l.g.room c0 .nil bc th) (d9 (bf J F.rc n1 G1 l.g.room c1 .nil bc th) (bf J F.wc n2 G2 l.g.room c2 .nil bc th))) rfl;have v4:PS X (Pw 4) (dG (tSe X.K z (aq 2) (aq 3) (aq 4))):=c5 (d9 (bf S F.pc n0 G0 l.g.room c0 .nil bc th) (d9 (bf S F.rc n1 G1 l.g.room c1 .nil bc th) (bf S F.wc n2 G2 l.g.room c2 .nil bc th))) rfl;exact al (q_ l.d.own (l.t (by kernel_rfl)) (show PSs X [Pw 0,Pw 1,Pw 2,Pw 3,Pw 4] _ from al v0 (al v1 (al v2 (al v3 (aU v4)))))) (aU (cv (l.v (by kernel_rfl))))
section
variable{P:Program}{w:World}{K:MP}{mg:Str->Option Value}{base:Heap}{z:Cc}
def vY (y:Bool):(ay y==("weaver":Str))=!y:=by cases y<;>decide
def Am (y:Bool):(ay y==("moth":Str))=y:=by cases y<;>decide
def IQ (o:Bool) (t:List Int) (rw:List Int) (k0:Nat):Pk.see (ay (hat o t.length)==("weaver":Str)) (.ro rw k0)=.ro rw (up0 o t k0):=by
 rw[vY];unfold up0;cases hat o t.length<;>rfl
def IR (o:Bool) (t:List Int) (wg:Bool) (rm:List Int) (k1:Nat):Pk.see (ay (hat o t.length)==("moth":Str)) (mpk wg rm k1)=mpk wg rm (up1 o t k1):=by
 rw[Am];unfold up1;cases wg<;>cases hat o t.length<;>rfl
def Dm{n:Nat}{H:Hp}{c:Int}{R:LL}{o:Bool}{t:List Int}{M:List Addr}{aT lT:Addr}{J S:Option V}{U Y:V}(lo:Lo c R)(hM:∀a∈M,H a≠none)(tb:cm K (λ_=>none) M H (tbl c R o) (t.map .int) aT lT) :
  (∀Q:Bool->Hp->Prop,(∀H',ae H H'->Q (decide (bo (lft o 0 R t)=.non)) H')->tVB K (ab defs (n+7)) IN [some (.ref aT),some U,some Y,J,S] H Q)/\(∀Q:VK,(∀H',ae H H'->Q (bo (lft o 0 R t)).v H')->tV K (ab defs (n+7)) (.callM 30 0 []) [some (.ref aT),some U,some Y,J,S] H Q):=by
 have v:Vw K H M [some (.brwO (tbl c R o) (t.map .int)),none,none,none,none] [some (.ref aT),some U,some Y,J,S]:=.obj tb.lent (.skip (.skip (.skip (.skip .nil))));have e:ev (ab defs (n+7)) (.callM 30 0 []) [some (.brwO (tbl c R o) (t.map .int)),none,none,none,none]=some (bo (lft o 0 R t)).pv:=kL (n+2) c R o t lo.g;refine⟨λQ q=>⟨M,_,_,hM,v,?_,q⟩,λQ q=>⟨M,_,_,hM,v,e,λu H' s r=>?_⟩⟩
 .rw[di e (cH _ _ _),qC];exact Lg (λb=>some (PV.bl b)) lH
 .rw[Dk r];exact q H' s
def IS{C:Addr}(hC:IsC K C){n:Nat}{c:Int}{R:LL}{o wg:Bool}{t rw rm:List Int}{k0 k1:Nat}{aT lT aW aM:Addr}{N:List Addr}{H:Hp}(lo:Lo c R)(k:Tk c t)(hw:bo (lft o 0 R t)=.non)(j:JP K z c R o t (.ro rw k0) (mpk wg rm k1) aT lT aW aM N H){r3 r4:Option V}{D:gF}
  (q:∀l' H' r3 r4,JP K z c R o (t++[nxt c o R rw rm wg t k0 k1]) (.ro rw (up0 o t k0)) (mpk wg rm (up1 o t k1)) aT l' aW aM N H'->(∀b u,b≠aT->b≠lT->b≠aW->b≠aM->H b=some u->H' b=some u)->(l'=lT\/H l'=none)->D.nx [some (.ref aT),some (.ref aW),some (.ref aM),r3,r4] H') :
  tPw K z C (ab defs (n+7)) D [some (.ref aT),some (.ref aW),some (.ref aM),r3,r4] H:=by
 have Y:=lo.nxt (o:=o) hw (rw:=rw) (rm:=rm) (wg:=wg) (k0:=k0) (k1:=k1);have J:nxt c o R rw rm wg t k0 k1=if hat o t.length=true then(mpk wg rm k1).pick (frl c t) (lft o 0 R t)else Pk.pick (frl c t) (lft o 0 R t) (.ro rw k0):=by
  unfold nxt mpk;cases hat o t.length<;>cases wg<;>rfl
 have sw:=IQ o t rw k0;have sm:=IR o t wg rm k1;refine⟨_,[some (.brwO (tbl c R o) (t.map .int)),none,none,none,none],.str (ay (hat o t.length)),j.here,.obj j.tb.lent (.skip (.skip (.skip (.skip .nil)))),FS (n+4) c R o t,λu3 H1 s1 r=>?_⟩;rw[Rep]at r;subst r;have j1:=j.mono s1;have pick:∀(Q:VK),(∀H2,ae H1 H2->Q (.int (nxt c o R rw rm wg t k0 k1)) H2)->tIf (tVB K (ab defs (n+7)) F5) (tPk K z (aq 1) (aq 0)) (tPk K z (aq 2) (aq 0)) [some (.ref aT),some (.ref aW),some (.ref aM),some (.str (ay (hat o t.length))),r4] H1 Q:=by
  intro Q q';refine⟨[],[none,none,none,sv (.str (ay (hat o t.length))),none],!hat o t.length,no0,.skip (.skip (.skip (.val (iV (K:=K) _ _) (.skip .nil)))),?_,λH2 U=>?_⟩
  .refine(di (x:=.str (ay (hat o t.length))) (y:=.str "weaver") rfl rfl).trans ?_;show(eqF 100 (.str _) (.str _)).map PV.bl=_;rw[qD,vY]
   rfl
  have S:=j1.mono U;have Z:=S.tb.lent.move (F':=ah H2 []) (ae.refl H2) le0;cases hy:hat o t.length with
  |true =>
   rw[hy,if_pos rfl]at J;rw[J]at q';exact gZ (kN S.hM Z lo hw (λQ' q=>⟨_,rfl,q⟩) (λQ' q=>⟨_,rfl,q⟩) λH' s'=>q' H' (U.trans s'))
  |false =>
   rw[hy,if_neg (by decide)]at J;rw[J]at q';exact ow (kN S.hW Z lo hw (λQ' q=>⟨_,rfl,q⟩) (λQ' q=>⟨_,rfl,q⟩) λH' s'=>q' H' (U.trans s'))
 refine pick _ λH2 U=>?_
 have S:=j1.mono U;generalize nxt c o R rw rm wg t k0 k1=a at Y q;show dG (eV C "take" (spT K (ab defs (n+7)) 31) [] E0 (aq 0) (av (aq 4) bN)) _ [some (.ref aT),some (.ref aW),some (.ref aM),some (.str (ay (hat o t.length))),some (.int a)] H2;refine vX hC (n:=n+1) lo k hw Y S.nd S.here S.tb (λQ q=>⟨_,rfl,q⟩) (λQ q=>⟨_,rfl,q⟩) λl' H3 g1 g2 g3 kp hl=>?_
 have j3:=S.took g1 g2 g3 kp;show tSe K z (aq 1) (aq 3) (aq 4) [some (.ref aT),some (.ref aW),some (.ref aM),some (.str (ay (hat o t.length))),some (.int a)] H3 _;refine oh j3.hW (by simp) (λQ q=>⟨_,rfl,q⟩) (λQ q=>⟨_,rfl,q⟩) (λQ q=>⟨_,rfl,q⟩) λH4 e4 k4=>?_
 rw[sw]at e4;have j4:=j3.sawW e4 k4;show tSe K z (aq 2) (aq 3) (aq 4) [some (.ref aT),some (.ref aW),some (.ref aM),some (.str (ay (hat o t.length))),some (.int a)] H4 _;refine oh j4.hM (by simp) (λQ q=>⟨_,rfl,q⟩) (λQ q=>⟨_,rfl,q⟩) (λQ q=>⟨_,rfl,q⟩) λH5 e5 k5=>?_
 rw[sm]at e5;have j5:=j4.sawM e5 k5;refine q l' H5 _ _ j5 (λb u b1 b2 b3 b4 e=>k5 b u b4 (k4 b u b3 (kp b u b1 b2 (U _ _ (s1 _ _ e))))) ?_;rcases hl with h|h
 .exact .inl h
 .exact .inr (s1.free (U.free h))
def IT {C fa:Addr}{fd:FuncData}{n:Nat} (hC:IsC K C) (pr:ia tab K mg defs) (F:KFn P w K mg base z (n+7)) (D:FnD K "play_out" "play_out" cJ fa fd):bw P w K mg base CX0 (n+8) fa fd ["table","weaver","moth"] (Al K z):=by
 obtain⟨c0,d0,k0,o0,m0,a0,bK,t1,a1,sl,lk,bO,rfl⟩:=D.it;refine ez lk bO Dl (λvs H Q E h=>?_) (λA outer s H vs Q E hr h=>?_)
 .obtain⟨aT,lT,aW,aM,N,c,o,wg,R,rw,rm,t,tf,rfl,_⟩:=h
  rfl
 .obtain⟨aT,lT,aW,aM,N,c,o,wg,R,rw,rm,t,tf,rfl,j,lo,kt,rn,q⟩:=h;have l:Fr (cU CX0 P w K mg base eM.names "play_out" (af cJ) fa bK A outer s H E).nox eM.names cJ (n+7):=Fr.of pr Dl hr;have eB:aK cJ=[Po 0,Po 1]:=rfl;rw[eB];refine⟨_,(IP hC l F).nox,?_⟩;refine⟨λm U H'=>∃(t:List Int) (k0 k1:Nat) (l':Addr) (r3 r4:Option V),m=61-t.length/\U=[some (.ref aT),some (.ref aW),some (.ref aM),r3,r4]/\JP K z c R o t (.ro rw k0) (mpk wg rm k1) aT l' aW aM N H'/\Tk c t/\kM c o R rw rm wg t k0 k1 tf/\(l'=lT\/H l'=none)/\∀b u,b≠aT->b≠lT->b≠aW->b≠aM->H b=some u->H' b=some u,⟨_,t,0,0,lT,none,none,rfl,rfl,j,kt,rn,.inl rfl,λb u _ _ _ _ e=>e⟩,?_⟩;rintro m U H' ⟨t',k0,k1,l',r3,r4,rfl,rfl,j',J,S,Y,kp⟩;refine(Dm (n:=n) lo j'.here j'.tb).1 _ λH3 s3=>?_
  have Z:=j'.mono s3;by_cases hw:bo (lft o 0 R t')=.non
  .rw[Ks hw];have len:=J.room lo.q (lo.free hw);refine ow ⟨λao H2=>∃m',m'<61-t'.length/\∃(t:List Int) (k0 k1:Nat) (l':Addr) (r3 r4:Option V),m'=61-t.length/\ao=[some (.ref aT),some (.ref aW),some (.ref aM),r3,r4]/\JP K z c R o t (.ro rw k0) (mpk wg rm k1) aT l' aW aM N H2/\Tk c t/\kM c o R rw rm wg t k0 k1 tf/\(l'=lT\/H l'=none)/\∀b u,b≠aT->b≠lT->b≠aW->b≠aM->H b=some u->H2 b=some u,λao H2 w=>w,?_⟩;refine IS hC (n:=n) lo J hw Z λl2 H4 s8 s9 j4 k4 bT=>⟨_,?_,_,_,_,l2,s8,s9,rfl,rfl,j4,J.add (lo.nxt hw),pH S hw,?_,λb u b1 b2 b3 b4 e=>?_⟩
   .rw[KU,length_singleton];omega
   .rcases bT with h|h
    .rw[h];exact Y
    .by_cases e2:l2=lT
     .exact .inl e2
     .refine .inr ?_;cases eo:H l2 with
      |none=>rfl
      |some u =>
       have nn:∀b∈aT::l'::aW::aM::N,l2≠b:=λb hb e=>Z.here b hb (e▸h)
       have:=s3 _ _ (kp l2 u (nn _ (by simp)) e2 (nn _ (by simp)) (nn _ (by simp)) eo);rw[h]at this;cases this
   .have nl:b≠l':=λz=>by
     rcases Y with h|h
     .exact b2 (z.trans h)
     .rw[z,h]at e;cases e
    exact k4 b u b1 nl b3 b4 (s3 _ _ (kp b u b1 b2 b3 b4 e))
  .rw[KH hw];refine gZ ((Dm (n:=n) lo Z.here Z.tb).2 _ λH4 s4=>?_);rw[<- kQ S hw];have j4:=Z.mono s4;rw[<- kQ S hw]at j4;exact q H4 l' j4.nd j4.tb λb u b1 b2 b3 b4 e=>s4 _ _ (s3 _ _ (kp b u b1 b2 b3 b4 e))
end
noncomputable abbrev c38:Cal:=ab defs 38
def Dn:bQ c_.names ["script","count","ribbons","begin"] (af bV):=⟨rfl,rfl,rfl,by decide +kernel,rfl,by decide +kernel,by decide +kernel⟩
noncomputable def F6(K:MP):Sp:=λvs H Q _=>∃(sa:Addr) (ns:List Int) (c b:Int) (o:Bool) (Rb:LL) (ur:V),vs=[.ref sa,.int c,ur,.int b]/\ns.length<=63/\SqL K H sa (ns.map V.int)/\Rep K H (.lst (Rb.map ofS)) ur/\Lo c (sortT Rb)/\(∀s∈Rb,s.length<=8)/\Rb.length<=8/\b=(if o=true then 1 else 0)/\∀H',ae H H'->Q (.bl true) H'
noncomputable abbrev Pl(i:Nat):Stmt:=(aK bV).getD i (.Pass ⟨0,0,0,0⟩)
noncomputable abbrev Pg:Stmt:=(fb (Pl 6)).getD 0 (.Pass ⟨0,0,0,0⟩)
noncomputable abbrev F7(lo hi:Int):ME:=.call 21 [.slice (.bor 0) (ci lo) (ci hi)]
noncomputable abbrev Do:ME:=.lst [.blt .tupleOf [F7 3 23],F7 23 63]
noncomputable abbrev mWg:ME:=.cmp .eq (.bin .mod (.bin .fdiv (.call 11 [.bor 0,(ci 2)]) (ci 640)) (ci 2)) (ci 1)
noncomputable abbrev IU:ME:=.and (.cmp .eq (.callM 27 4 []) (.bor 5)) (.cmp .eq (.callM 30 4 []) (.bor 11))
noncomputable abbrev tRo(K:MP)(z:Cc)(w:Str)(i:Int):TE:=ja z.r (sQ K z) [] E0 (av (tC (.str w)) (av (tV K c38 (.idx (.bor 8) (ci i))) bN))
noncomputable abbrev tWe (K:MP) (z:Cc):TE:=ja z.w (qQ K) [] E0 (av (tC (.str "moth")) bN)
noncomputable abbrev sE(te:TE)(i:Nat):TS:=λD σ H=>te σ H λu H'=>D.nx (σ.set i (some u)) H'
noncomputable abbrev Kj(K:MP):TS:=b_ (i4 (rj (tOp rNe (aq 11) (iq (Ah K) [] E0 (av (aq 1) (av (aq 2) (av (aq 3) (av (aq 5) (av (aq 8) (av (aq 9) bN))))))))) (iZ (tC (.bl false))) eU) (iZ (tV K c38 IU))
noncomputable abbrev F8 (K:MP) (z:Cc):TS:=b_ (sE (iq (Al K z) [] E0 (av (aq 4) (av (tRo K z "weaver" 0) (av (aq 10) bN)))) 11) (Kj K)
noncomputable abbrev IV (K:MP) (z:Cc):TS:=b_ (sE (tRo K z "moth" 1) 10) (b_ (i4 (tVB K c38 (.bor 9)) (sE (tWe K z) 10) eU) (F8 K z))
noncomputable abbrev Kk(K:MP)(z:Cc):TS:=b_ (sV K c38 8 Do) (b_ (sV K c38 9 mWg) (IV K z))
def IW {X:Cx}{z:Cc}{fR fP S U:Addr}{Z dP dO dW:FuncData} (l:Fr X c_.names bV 38) (J:X.mg ("Rower":Str)=some (.ref z.r)) (Y:X.mg ("Weigher":Str)=some (.ref z.w)) (kR:Mk X.K z.r fR) (bR:aG X.K Z ["self","hand","row"] []) (FR:bw X.prog X.w X.K X.mg X.base CX0 37 fR Z ["self","hand","row"] (sQ X.K z))
  (kP:Mk X.K z.w fP) (bP:aG X.K dP ["self","hand"] []) (FP:bw X.prog X.w X.K X.mg X.base CX0 37 fP dP ["self","hand"] (qQ X.K))
  (mO:X.mg ("play_out":Str)=some (.ref S)) (kO:PySem.W.keepIn X.K (.ref S)=true) (bO:aG X.K dO ["table","weaver","moth"] []) (FO:bw X.prog X.w X.K X.mg X.base CX0 38 S dO ["table","weaver","moth"] (Al X.K z))
  (mW:X.mg ("_law_walked":Str)=some (.ref U)) (kW:PySem.W.keepIn X.K (.ref U)=true) (bW:aG X.K dW ["count","ribbons","begin","taken","rows","weighs"] []) (FW:bw X.prog X.w X.K X.mg X.base CX0 38 U dW ["count","ribbons","begin","taken","rows","weighs"] (Ah X.K)) :
  PSs X [Pl 0,Pl 1,Pl 2,Pl 3,Pl 4,Pl 5,Pl 6,Pl 7,Pl 8,Pl 9] (tSk X.K c38 Iq (Kk X.K z)):=by
 have gR:Gl X "Rower":=cY (by rw[l.s];decide +kernel);have gW:Gl X "Weigher":=cY (by rw[l.s];decide +kernel);have gO:Gl X "play_out":=cY (by rw[l.s];decide +kernel);have gA:Gl X "_law_walked":=cY (by rw[l.s];decide +kernel);have nm:∀{i:Nat}{x:Str}{pos:Pos},aD c_.names (af bV) i x=true->PE X (.Name x pos) (aq i):=λh=>l.nm h
 have p3:PS X (Pl 3) (sV X.K c38 8 Do):=l.set (i:=8) (x:="rows") rfl (by decide +kernel) (l.v (by kernel_rfl)) (am rfl _ _ _);have p4:PS X (Pl 4) (sV X.K c38 9 mWg):=l.set (i:=9) (x:="weighs") rfl (by decide +kernel) (l.v (by kernel_rfl)) (am rfl _ _ _);have p5:PS X (Pl 5) (sE (tRo X.K z "moth" 1) 10):=l.set (i:=10) (x:="moth") rfl (by decide +kernel) (ft kR FR l.g.room gR J bR .nil bc (ak pJ (ak (l.v (by kernel_rfl)) aS))) (am rfl _ _ _);have p6:PS X (Pl 6) (i4 (tVB X.K c38 (.bor 9)) (sE (tWe X.K z) 10) eU):=gb (l.t (by kernel_rfl)) (show PSs X [Pg] _ from aU (l.set (i:=10) (x:="moth") rfl (by decide +kernel) (ft kP FP l.g.room gW Y bP .nil bc (ak pJ aS)) (am rfl _ _ _))) cQ;have p7:PS X (Pl 7) (sE (iq (Al X.K z) [] E0 (av (aq 4) (av (tRo X.K z "weaver" 0) (av (aq 10) bN)))) 11):=l.set (i:=11) (x:="won") rfl (by decide +kernel) (g9 FO l.g.room gO mO kO bO .nil bc (ak (nm (by decide +kernel)) (ak (ft kR FR l.g.room gR J bR .nil bc (ak pJ (ak (l.v (by kernel_rfl)) aS))) (ak (nm (by decide +kernel)) aS)))) (am rfl _ _ _);have p8:PS X (Pl 8) (i4 (rj (tOp rNe (aq 11) (iq (Ah X.K) [] E0 (av (aq 1) (av (aq 2) (av (aq 3) (av (aq 5) (av (aq 8) (av (aq 9) bN))))))))) (iZ (tC (.bl false))) eU):=gb (iQ Cy (nm (by decide +kernel)) (g9 FW l.g.room gA mW kW bW .nil bc (ak (nm (by decide +kernel)) (ak (nm (by decide +kernel)) (ak (nm (by decide +kernel)) (ak (nm (by decide +kernel)) (ak (nm (by decide +kernel)) (ak (nm (by decide +kernel)) aS))))))) (pN _)) (aU (cv i_)) cQ;have p9:PS X (Pl 9) (iZ (tV X.K c38 IU)):=cv (l.v (by kernel_rfl));exact d8 (l.s1 (by kernel_rfl)) (d8 (l.s1 (by kernel_rfl)) (d8 (l.s1 (by kernel_rfl)) (Ae (al p3 (al p4 (al p5 (al p6 (al p7 (al p8 (aU p9))))))))))
section
variable{K:MP}{z:Cc}
def kS{ta:TE}{t:TA}{σ:L2.St}{H:Hp}{Q:List V->Hp->Prop}(h:ta σ H λx H1=>t σ H1 λxs H2=>Q (x::xs) H2):av ta t σ H Q:=h
def qS{H:Hp}{a dx C:Addr}(S:H a=none)(nd:H dx=none):ae H (upd (upd H dx (.own a)) a (.ins C dx [])):=λb u J=>by rw[aA (a9 J S),aA (a9 J nd)];exact J
def iY{H G:Hp}{M:List Addr}{a:Addr}(h:∀b∈M,H b≠none)(s:ae H G)(ha:G a≠none):∀b∈a::M,G b≠none:=λb J=>by
 rcases nW.mp J with rfl|J
 .exact ha
 .cases e:H b with
  |none=>exact absurd e (h b J)
  |some o=>rw[s _ _ e];simp
def An{σ:L2.St}{H:Hp}{Q:VK}{w:Str}{Z te:TE}{M:List Addr}{ns:List Int}(hM:∀a∈M,H a≠none)(hw:∀J:VK,J (.str w) H->Z σ H J)(ht:∀J:VK,(∀u H1,ae H H1->((∃r,u=.ref r/\SqL K H1 r (ns.map V.int))\/Rep K (ah H1 M) (ofS ns) u)->J u H1)->te σ H J)(q:∀a H',ae H H'->H a=none->bp K z (a::M) H' a w (.ro ns 0)->Q (.ref a) H') :
  ja z.r (sQ K z) [] E0 (av Z (av te bN)) σ H Q:=by
 refine hw _ (ht _ λu H1 s1 r1 a dx U nd ne=>?_);have S:ae H1 (upd (upd H1 dx (.own a)) a (.ins z.r dx [])):=qS U nd;have ex:(upd (upd H1 dx (.own a)) a (.ins z.r dx [])) a=some (.ins z.r dx []):=ax;show sQ K z [.ref a,.str w,u] (upd (upd H1 dx (.own a)) a (.ins z.r dx [])) _ _;generalize upd (upd H1 dx (.own a)) a (.ins z.r dx [])=G at S ex;have v:ae (ah H1 M) (ah G (a::M)):=aQ S λy Y=>by
  rcases nW.mp Y with rfl|Y
  .exact .inr U
  .exact .inl Y
 obtain⟨r,rfl,hr⟩:∃r,u=.ref r/\(SqL K G r (ns.map V.int)\/Rep K (ah G (a::M)) (ofS ns) (.ref r)):=by
  rcases r1 with⟨r,rfl,sq⟩|r1
  .exact⟨r,rfl,.inl (S.seq sq)⟩
  .have r2:=Rep.mono v _ r1;have r1:Rep K (ah H1 M) (.tup (ns.map .int)) u:=r1;rw[Rep]at r1;obtain⟨r,_,rfl,_⟩:=r1;exact⟨r,rfl,.inr r2⟩
 exact⟨a,dx,r,w,ns,a::M,rfl,ex,.head _,iY (λb hb e=>hM b hb (s1.free e)) S (by rw[ex];simp),hr,λH2 hp kp=>⟨rfl,q a H2 (λb o eb=>kp b o (a9 eb (s1.free U)) (S _ _ (s1 _ _ eb))) (s1.free U) hp⟩⟩
def Ao {σ:L2.St}{H:Hp}{Q:VK}{w:Str}{te:TE}{C:Addr}{M:List Addr}{p:Pk} (kc:KC K C) (Y:p.cls z=C) (Z:∀a,p.gs a w=[(("hand":Str),V.str w)]) (hq:¬ ∃ns k,p=.ro ns k) (ht:∀S:VK,S (.str w) H->te σ H S) (q:∀a H',ae H H'->H a=none->bp K z (a::M) H' a w p->Q (.ref a) H') :
  ja C (qQ K) [] E0 (av te bN) σ H Q:=by
 refine ht _ λa dx J nd ne=>?_
 refine⟨a,C,dx,.str w,rfl,ax,kc,rfl,q a _ (λb o U=>?_) J ⟨dx,a,by rw[ax,Z,Y],λh=>absurd h hq⟩⟩;rw[aA (a9 U J)];exact qS J nd b o U
def Ck{F:Hp}{L:LL}:Rep K F (bo L).pv (bo L).v:=by
 rcases eQ L with e|e|e<;>rw[e]
 .show Rep K F (.str "weaver") (.str "weaver");rw[Rep]
 .show Rep K F (.str "moth") (.str "moth");rw[Rep]
 .show Rep K F .non .non;rw[Rep]
def Ap{c:Int}{o:Bool}{R:LL}{rw rm:List Int}{wg:Bool}{t J:List Int}{k0 k1:Nat}(r:kM c o R rw rm wg t k0 k1 J):bo (lft o 0 R J)≠.non:=by
 induction r with
 |done h=>exact h
 |step _ _ ih=>exact ih
def F9{c b:Int}{o wg:Bool}{Rb:LL}{rw rm t:List Int}{ur uw:V}{aT lT aM d:Addr}{H0 H:Hp}{z0 z6 z7 a0:Option V}{D:gF}(lo:Lo c (sortT Rb))(h8:∀s∈Rb,s.length<=8)(hl:Rb.length<=8)(hb:b=if o=true then 1 else 0)(kt:Tk c t)(nd:[aT,lT,aM,d].Nodup)(rb:Rep K (ah H [aT,lT,aM,d]) (.lst (Rb.map ofS)) ur)(ro:Rep K (ah H [aT,lT,aM,d]) (.lst [ofS rw,ofL rm]) uw)
  (tb:cm K (λ_=>none) [aT,lT,aM,d] H (tbl c (sortT Rb) o) (t.map .int) aT lT) (hm:bp K z [aT,lT,aM,d] H aM "moth" (mpk wg rm 0)) (ed:H d=some (.lst (t.map V.int))) (s0:ae H0 H) (f0:∀x∈[aT,lT,aM,d],H0 x=none) (q:∀H',ae H0 H'->D.rt (.bl true) H') :
  F8 K z D [z0,some (.int c),some ur,some (.int b),some (.ref aT),some (.ref d),z6,z7,some uw,some (.bl wg),some (.ref aM),a0] H:=by
 obtain⟨J,rn,kf⟩:=lo.runs (o:=o) (rw:=rw) (rm:=rm) (wg:=wg) 61 t 0 0 kt (by omega);have Y:∀x∈[aT,lT,aM,d],H x≠none:=λx hx=>by
  simp only[nW,xm,Ky]at hx;rcases hx with rfl|rfl|rfl|rfl
  .exact(own_here tb).1
  .exact(own_here tb).2
  .exact hm.here
  .rw[ed];simp
 refine⟨_,rfl,?_⟩;refine kS (An (M:=[aT,lT,aM,d]) (ns:=rw) Y (λQ' q'=>q') (λQ' q'=>⟨[aT,lT,aM,d],[none,none,none,none,none,none,none,none,sv (.lst [ofS rw,ofL rm]),none,none,none],ofS rw,Y,.skip (.skip (.skip (.skip (.skip (.skip (.skip (.skip (.val ro (.skip (.skip (.skip .nil))))))))))),rfl,λu H1 s1 r1=>q' u H1 s1 (.inr r1)⟩) λaW H1 s1 Z hW=>⟨_,rfl,?_⟩);simp only[KP,nW,xm,not_or,Ky,K2,K6,LA]at nd;obtain⟨⟨n1,n2,n3⟩,⟨n4,n5⟩,n6⟩:=nd;have w1:aW≠aT:=λe=>Y aT (by simp) (e▸Z)
 have w2:aW≠lT:=λe=>Y lT (by simp) (e▸Z)
 have w3:aW≠aM:=λe=>Y aM (by simp) (e▸Z)
 have w4:aW≠d:=λe=>Y d (by simp) (e▸Z)
 have v1:ae (ah H [aT,lT,aM,d]) (ah H1 [aT,lT,aW,aM,d]):=aQ s1 λy S=>by
  simp only[nW,xm,Ky]at S ⊢;rcases S with rfl|rfl|rfl|rfl|rfl
  .exact .inl (.inl rfl)
  .exact .inl (.inr (.inl rfl))
  .exact .inr Z
  .exact .inl (.inr (.inr (.inl rfl)))
  .exact .inl (.inr (.inr (.inr rfl)))
 have a3:ae (ah H1 [aW,aT,lT,aM,d]) (ah H1 [aT,lT,aW,aM,d]):=aQ (ae.refl H1) λy S=>.inl (by
  simp only[nW,xm,Ky]at S ⊢;rcases S with rfl|rfl|rfl|rfl|rfl<;>simp)
 have j:JP K z c (sortT Rb) o t (.ro rw 0) (mpk wg rm 0) aT lT aW aM [d] H1:=⟨by
  simp only[KP,nW,xm,not_or,Ky,K2,K6,LA];exact⟨⟨n1,Ku w1,n2,n3⟩,⟨Ku w2,n4,n5⟩,⟨w3,w4⟩,n6⟩,tb.move (B':=λ_=>none) v1 (λ_=>s1 _ _) (λ_=>s1 _ _) (by simp) (by simp) rfl rfl,hW.to a3 λ_ e=>e,hm.to v1 λ_=>s1 _ _,λa ha e=>by
   rw[KW.mp ha]at e;exact Y d (by simp) (s1.free e)⟩
 refine⟨aT,lT,aW,aM,[d],c,o,wg,sortT Rb,rw,rm,t,J,rfl,j,lo,kt,rn,λH2 l' ar a4 ao=>?_⟩;have a5:H2 d=some (.lst (t.map V.int)):=ao d _ (Ku n3) (Ku n5) (Ku w4) (Ku n6) (s1 _ _ ed);have v2:ae (ah H [aT,lT,aM,d]) (ah H2 [d]):=λy u e=>by
  have S:y∉[aT,lT,aM,d]:=λz=>by rw[dq z]at e;cases e
  rw[aV S]at e;simp only[nW,xm,not_or,Ky]at S;rw[aV (by simp only[nW,xm,Ky];exact S.2.2.2)];exact ao y u S.1 S.2.1 (λz=>by rw[z,Z]at e;cases e) S.2.2.1 (s1 _ _ e)
 have a6:=Ap rn;have bt:scal (bo (lft o 0 (sortT Rb) J)).v (bo (lft o 0 (sortT Rb) J)).v=true:=by
  rcases eQ (lft o 0 (sortT Rb) J)with e|e|e
  .rw[e];rfl
  .rw[e];rfl
  .exact absurd e a6
 simp only[KP,nW,xm,not_or,Ky,K2,K6,LA]at ar;obtain⟨⟨m1,m2,m3,m4⟩,⟨m5,m6,m7⟩,_⟩:=ar;refine⟨_,rfl,_,rfl,_,rfl,_,rfl,_,rfl,_,rfl,_,rfl,c,b,o,wg,Rb,rw,rm,t,J,ur,uw,d,rfl,lo,h8,hl,hb,kt,rn,Rep.mono v2 _ rb,Rep.mono v2 _ ro,a5,λH3 bO U=>⟨bt,false,by rw[Ks rfl];rfl,gZ ?_⟩⟩;have v3:ae (ah H2 [aT,l',aW,aM,d]) (ah H3 [aT,l',aW,aM,d]):=d_ (x:=d) (by simp) U;have bP:=a4.move (B':=λ_=>none) (O':=[aT,l',aW,aM,d]) v3 (λu=>U aT u m4) (λu=>U l' u m7) (by simp) (by simp) rfl rfl;have bR:=bP.lent.move (F':=ah H3 []) (ae.refl H3) le0;refine⟨[],[none,none,none,none,some (.brwO (tbl c (sortT Rb) o) (J.map .int)),some (.brw (J.map .int)),none,none,none,none,none,sv (bo (lft o 0 (sortT Rb) J)).pv],.bl true,no0,.skip (.skip (.skip (.skip (.obj bR (.brw (SqL.of bO) (Reps.of_ints J) (.skip (.skip (.skip (.skip (.skip (.val Ck .nil))))))))))),?_,λu H4 s4 r4=>?_⟩
 .have e1:ev c38 (.callM 27 4 []) [none,none,none,none,some (.brwO (tbl c (sortT Rb) o) (J.map .int)),some (.brw (J.map .int)),none,none,none,none,none,sv (bo (lft o 0 (sortT Rb) J)).pv]=some (ofL J):=Cg 37 (tbl c (sortT Rb) o) J;have e2:ev c38 (.callM 30 4 []) [none,none,none,none,some (.brwO (tbl c (sortT Rb) o) (J.map .int)),some (.brw (J.map .int)),none,none,none,none,none,sv (bo (lft o 0 (sortT Rb) J)).pv]=some (bo (lft o 0 (sortT Rb) J)).pv:=kL 33 c _ o J lo.g;refine uH (p:=true) (q:=true) ?_ λ_=>?_
  .rw[di (y:=ofL J) e1 rfl];show(eqF 100 (ofL J) (ofL J)).map PV.bl=_;rw[HQ,Ks rfl]
   rfl
  .rw[di (y:=(bo (lft o 0 (sortT Rb) J)).pv) e2 rfl];rcases eQ (lft o 0 (sortT Rb) J)with e|e|e<;>rw[e]<;>rfl
 .rw[Rep]at r4;subst r4;refine q H4 λy u e=>s4 _ _ ?_
  have ny:∀x∈[aT,lT,aM,d],y≠x:=λx hx z=>by rw[z,f0 x hx]at e;cases e
  have bT:y≠aW:=λz=>by rw[z,s0.free Z]at e;cases e
  exact U y u (ny d (by simp)) (ao y u (ny aT (by simp)) (ny lT (by simp)) bT (ny aM (by simp)) (s1 _ _ (s0 _ _ e)))
end
section
variable{K:MP}{z:Cc}{fP fR fPp fPs fRp fRs fWp:Addr}
def sT{te:TE}{i:Nat}{u:TS}{D:gF}{σ:L2.St}{H:Hp}(h:te σ H λv H'=>u D (σ.set i (some v)) H'):b_ (sE te i) u D σ H:=h
def F_{te:TE}{i:Nat}{D:gF}{σ:L2.St}{H:Hp}(h:te σ H λv H'=>D.nx (σ.set i (some v)) H'):sE te i D σ H:=h
def uncons{α:Type}{l:List α}{n:Nat}(h:l.length=n+1):∃a t,l=a::t/\t.length=n:=by
 cases l with
 |nil=>cases h
 |cons a t=>exact⟨a,t,rfl,Nat.succ.inj h⟩
theorem sU{H:Hp}{O:List Addr}:∀{n:Nat}{σ:L2.St},σ.length=n->Vw K H O (replicate n none) σ
 |0,[],_=>.nil
 |n+1,_::σ,h=>.skip (sU (Nat.succ.inj h))
def Ga(wc:KC K z.w){c b:Int}{o wg:Bool}{Rb:LL}{rw rm t:List Int}{ur uw:V}{aT lT d:Addr}{H0 H:Hp}{z0 z6 z7 aP Z:Option V}{D:gF}(lo:Lo c (sortT Rb))(h8:∀s∈Rb,s.length<=8)(hl:Rb.length<=8)(hb:b=if o=true then 1 else 0)(kt:Tk c t)(nd:[aT,lT,d].Nodup)(rb:Rep K (ah H [aT,lT,d]) (.lst (Rb.map ofS)) ur)(ro:Rep K (ah H [aT,lT,d]) (.lst [ofS rw,ofL rm]) uw)
  (tb:cm K (λ_=>none) [aT,lT,d] H (tbl c (sortT Rb) o) (t.map .int) aT lT) (ed:H d=some (.lst (t.map V.int))) (s0:ae H0 H) (f0:∀x∈[aT,lT,d],H0 x=none) (q:∀H',ae H0 H'->D.rt (.bl true) H') :
  IV K z D [z0,some (.int c),some ur,some (.int b),some (.ref aT),some (.ref d),z6,z7,some uw,some (.bl wg),aP,Z] H:=by
 have Y:∀x∈[aT,lT,d],H x≠none:=λx U=>by
  simp only[nW,xm,Ky]at U;rcases U with rfl|rfl|rfl
  .exact(own_here tb).1
  .exact(own_here tb).2
  .rw[ed];simp
 have S:∀(aM:Addr) (H2:Hp),ae H H2->H aM=none->bp K z [aM,aT,lT,d] H2 aM "moth" (mpk wg rm 0)->F8 K z D [z0,some (.int c),some ur,some (.int b),some (.ref aT),some (.ref d),z6,z7,some uw,some (.bl wg),some (.ref aM),Z] H2:=λaM H2 J nM hm=>by
  simp only[KP,nW,xm,not_or,Ky,K2,K6,LA]at nd;obtain⟨⟨n1,n2⟩,n3⟩:=nd;have w1:aM≠aT:=λe=>Y aT (by simp) (e▸nM)
  have w2:aM≠lT:=λe=>Y lT (by simp) (e▸nM)
  have w3:aM≠d:=λe=>Y d (by simp) (e▸nM)
  have v:ae (ah H [aT,lT,d]) (ah H2 [aT,lT,aM,d]):=aQ J λy hy=>by
   simp only[nW,xm,Ky]at hy ⊢;rcases hy with rfl|rfl|rfl|rfl
   .exact .inl (.inl rfl)
   .exact .inl (.inr (.inl rfl))
   .exact .inr nM
   .exact .inl (.inr (.inr rfl))
  have v':ae (ah H2 [aM,aT,lT,d]) (ah H2 [aT,lT,aM,d]):=aQ (ae.refl H2) λy hy=>.inl (by
   simp only[nW,xm,Ky]at hy ⊢;rcases hy with rfl|rfl|rfl|rfl<;>simp)
  refine F9 lo h8 hl hb kt ?_ (Rep.mono v _ rb) (Rep.mono v _ ro) (tb.move (B':=λ_=>none) v (λ_=>J _ _) (λ_=>J _ _) (by simp) (by simp) rfl rfl) (hm.to v' λ_ e=>e) (J _ _ ed) (λy u e=>J _ _ (s0 _ _ e)) (λx U=>?_) q
  .simp only[KP,nW,xm,not_or,Ky,K2,K6,LA];exact⟨⟨n1,Ku w1,n2⟩,⟨Ku w2,n3⟩,w3⟩
  .simp only[nW,xm,Ky]at U;rcases U with rfl|rfl|rfl|rfl
   .exact f0 _ (by simp)
   .exact f0 _ (by simp)
   .exact s0.free nM
   .exact f0 _ (by simp)
 refine sT (An (M:=[aT,lT,d]) (ns:=rm) Y (λQ' q'=>q') (λQ' q'=>⟨[aT,lT,d],[none,none,none,none,none,none,none,none,sv (.lst [ofS rw,ofL rm]),none,none,none],ofL rm,Y,.skip (.skip (.skip (.skip (.skip (.skip (.skip (.skip (.val ro (.skip (.skip (.skip .nil))))))))))),rfl,λu H1 s1 r1=>q' u H1 s1 (.inl ?_)⟩) λa1 H1 s1 n1 h1=>?_)
 .have r1:Rep K (ah H1 [aT,lT,d]) (.lst (rm.map .int)) u:=r1;rw[Rep]at r1;obtain⟨r,us,rfl,sq,rs⟩:=r1;rw[Reps.ints rs]at sq;exact⟨r,rfl,(a_ _ _).seq sq⟩
 refine⟨[],[none,none,none,none,none,none,none,none,none,sv (.bl wg),none,none],wg,no0,.skip (.skip (.skip (.skip (.skip (.skip (.skip (.skip (.skip (.val (cX _ _) (.skip (.skip .nil))))))))))),rfl,λH2 J=>?_⟩;cases wg with
 |false=>exact gZ (S a1 H2 (λy u e=>J _ _ (s1 _ _ e)) n1 (h1.mv J))
 |true =>
  have b1:∀x∈[aT,lT,d],H2 x≠none:=λx U e=>Y x U (s1.free (J.free e))
  refine ow (F_ (Ao (M:=[aT,lT,d]) (z:=z) (p:=.we) wc rfl (λ_=>rfl) (by rintro ⟨_,_,h⟩;cases h) (λQ' q'=>q') λa2 H3 s3 n2 h2=>?_));exact S a2 H3 (λy u e=>s3 _ _ (J _ _ (s1 _ _ e))) (s1.free (J.free n2)) h2
def Aq{ns:List Int}{lo hi:Int}{G:Rho}(h0:(G[0]?).join=some (.brw (ns.map .int)))(J:ns.length<=63):∃W:List Int,ev c38 (F7 lo hi) G=some (ofL W):=by
 have S:(gX ns (some lo) (some hi)).length<=63:=xw (vM ns _ _) J;obtain⟨W,_,e⟩:=C4 37 (gX ns (some lo) (some hi)) (by omega);exact⟨W,sr nofun (qI (x:=ofL ns) (l:=some lo) (h:=some hi) (by rw[ev,h0];rfl) rfl rfl (by simp[gi])) e⟩
def IX{ns:List Int}:∃wg:Bool,∀G:Rho,(G[0]?).join=some (.brw (ns.map .int))->ev c38 mWg G=some (.bl wg):=by
 refine⟨cellOf ns 2 / 640 % 2==1,λG h0=>?_⟩;have e:ev c38 (.call 11 [.bor 0,(ci 2)]) G=some (.int (cellOf ns 2)):=aX (vs:=[.brw (ns.map .int),.val (.int 2)]) (kJ (by rw[h0];rfl) rfl) (qG 37 (.brw (ns.map .int)) ns 2 rfl (by decide));exact sn (kI e (by decide)) (by decide)
end
section
variable{P:Program}{w:World}{K:MP}{mg:Str->Option Value}{base:Heap}{z:Cc}{fP fR fPp fPs fRp fRs fWp:Addr}
structure PlF(P:Program)(w:World)(K:MP)(mg:Str->Option Value)(base:Heap)(z:Cc):Prop where
 mR:mg ("Rower":Str)=some (.ref z.r)
 mW:mg ("Weigher":Str)=some (.ref z.w)
 wc:KC K z.w
 r:∃f fd,Mk K z.r f/\aG K fd ["self","hand","row"] []/\bw P w K mg base CX0 37 f fd ["self","hand","row"] (sQ K z)
 we:∃f fd,Mk K z.w f/\aG K fd ["self","hand"] []/\bw P w K mg base CX0 37 f fd ["self","hand"] (qQ K)
 o:∃f fd,mg ("play_out":Str)=some (.ref f)/\PySem.W.keepIn K (.ref f)=true/\aG K fd ["table","weaver","moth"] []/\bw P w K mg base CX0 38 f fd ["table","weaver","moth"] (Al K z)
 a:∃f fd,mg ("_law_walked":Str)=some (.ref f)/\PySem.W.keepIn K (.ref f)=true/\aG K fd ["count","ribbons","begin","taken","rows","weighs"] []/\bw P w K mg base CX0 38 f fd ["count","ribbons","begin","taken","rows","weighs"] (Ah K)
def Dp(n:Nat):ab defs (n+2) 4000 []≠none:=by
 rw[ab];exact nofun
def IY {fa:Addr}{fd:FuncData} (pr:ia tab K mg defs) (F:PlF P w K mg base z) (D:FnD K "_law_played" "_law_played" bV fa fd):bw P w K mg base CX0 39 fa fd ["script","count","ribbons","begin"] (F6 K):=by
 obtain⟨c0,d0,k0,o0,m0,a0,a3,t1,a1,sl,lk,a4,rfl⟩:=D.it;refine ez lk a4 Dn (λvs H Q E h=>?_) (λA outer s H vs Q E hr h=>?_)
 .obtain⟨sa,ns,c,b,o,Rb,ur,rfl,_⟩:=h
  rfl
 .obtain⟨sa,ns,c,b,o,Rb,ur,rfl,Z,sq,rb,lo,h8,hl,hb,q⟩:=h;have l:Fr (cU CX0 P w K mg base c_.names "_law_played" (af bV) fa a3 A outer s H E).nox c_.names bV 38:=Fr.of pr Dn hr;have eB:aK bV=[Pl 0,Pl 1,Pl 2,Pl 3,Pl 4,Pl 5,Pl 6,Pl 7,Pl 8,Pl 9]:=rfl;rw[eB];obtain⟨f1,d1,r1,r2,r3⟩:=F.r;obtain⟨f2,d2,w1,w2,w3⟩:=F.we;obtain⟨f3,d3,p1,p2,p3,p4⟩:=F.o;obtain⟨f4,d4,q1,q2,q3,q4⟩:=F.a;refine⟨_,(IW l F.mR F.mW r1 r2 r3 w1 w2 w3 p1 p2 p3 p4 q1 q2 q3 q4).nox,?_⟩;obtain⟨t,y6,y7,kt,e⟩:=FV 31 (Dp 36) lo h8 hl hb ns Z;have v0:Vw K H [] [some (.brw (ns.map .int)),sv (.int c),sv (.lst (Rb.map ofS)),sv (.int b),none,none,none,none,none,none,none,none] [some (.ref sa),some (.int c),some ur,some (.int b),none,none,none,none,none,none,none,none]:=.brw sq (Reps.of_ints ns) (.val (aR (K:=K) _ _) (.val (by rw[sO];exact rb) (.val (aR (K:=K) _ _) (.skip (.skip (.skip (.skip (.skip (.skip (.skip (.skip .nil)))))))))));refine⟨H,[],[],_,_,v0.st no0,e,λσ H2 O2 J k2=>?_⟩;obtain⟨u1,e1,i1⟩:=J.slot 1 _ rfl;obtain⟨u2,e2,i2⟩:=J.slot 2 _ rfl;obtain⟨u3,e3,i3⟩:=J.slot 3 _ rfl;obtain⟨u4,e4,aT,lT,rfl,Y⟩:=J.slot 4 _ rfl;obtain⟨u5,e5,d,us,rfl,ed,rd,dO,dB⟩:=J.slot 5 _ rfl;have s0:=(k2.brw 0 _ rfl rfl).2;have i1:Rep K (ah H2 O2) (.int c) u1:=i1;have i3:Rep K (ah H2 O2) (.int b) u3:=i3;rw[Rep]at i1;rw[Rep]at i3;subst i1 i3;have bK:=Reps.ints rd;subst bK;have bO:d≠lT:=(J.inn 4 _ aT lT rfl rfl e4 Y.l 5 _ (by decide) rfl).2 d rfl e5;have bP:aT≠d:=λe=>J.apart 4 5 _ _ aT (by decide) rfl rfl rfl rfl e4 (by rw[e];exact e5)
  have keep:ae H (ah H2 [aT,lT,d]):=pF J.keep λx U=>by
   simp only[nW,xm,Ky]at U;rcases U with rfl|rfl|rfl
   .exact Y.aB
   .exact Y.lB
   .exact dB
  have ao:ae (ah H2 O2) (ah H2 [aT,lT,d]):=aQ (ae.refl H2) λy hy=>by
   simp only[nW,xm,Ky]at hy;rcases hy with rfl|rfl|rfl
   .exact .inl Y.aO
   .exact .inl Y.lO
   .exact .inl dO
  have tb:=Y.move (B':=λ_=>none) (O':=[aT,lT,d]) ao (λ_ z=>z) (λ_ z=>z) (by simp) (by simp) rfl rfl;have hh:∀x∈[aT,lT,d],H2 x≠none:=λx U=>by
   simp only[nW,xm,Ky]at U;rcases U with rfl|rfl|rfl
   .exact(own_here tb).1
   .exact(own_here tb).2
   .rw[ed];simp
  have l0:σ.length=11+1:=J.len.symm;obtain⟨x0,r0,rfl,l1⟩:=uncons l0;obtain⟨x1,r1,rfl,l2⟩:=uncons l1;obtain⟨x2,r2,rfl,l3⟩:=uncons l2;obtain⟨x3,r3,rfl,l4⟩:=uncons l3;obtain⟨x4,r4,rfl,l5⟩:=uncons l4;obtain⟨x5,r5,rfl,l6⟩:=uncons l5;obtain⟨x6,r6,rfl,l7⟩:=uncons l6;obtain⟨x7,r7,rfl,l8⟩:=uncons l7;obtain⟨x8,r8,rfl,l9⟩:=uncons l8;obtain⟨x9,r9,rfl,bT⟩:=uncons l9;obtain⟨eA,eC,rfl,bW⟩:=uncons bT;obtain⟨eH,eL,rfl,bX⟩:=uncons bW;obtain rfl:=Lr.mp bX;cases e1;cases e2;cases e3;cases e4;cases e5;cases s0;have bY:=keep.seq sq;have b0:=Rep.mono ao _ i2;have vw:∀{H3:Hp}{σ:L2.St},ae H2 H3->σ.length=11->Vw K H3 [aT,lT,d] (some (.brw (ns.map .int))::replicate 11 none) (some (.ref sa)::σ):=λ{H3 σ} s3 b1=>.brw ((a_ _ _).seq ((aj s3).seq bY)) (Reps.of_ints ns) (sU b1)
  obtain⟨rw,er⟩:=Aq (G:=some (.brw (ns.map .int))::replicate 11 none) (lo:=3) (hi:=23) rfl Z;obtain⟨rm,em⟩:=Aq (G:=some (.brw (ns.map .int))::replicate 11 none) (lo:=23) (hi:=63) rfl Z;refine⟨_,_,.lst [ofS rw,ofL rm],hh,vw (ae.refl H2) rfl,?_,λuw H3 s3 b2=>?_⟩
  .rw[ev,gB (v:=ofS rw) ((bz er).trans rfl) (gB em rfl)]
   rfl
  have b3:∀x∈[aT,lT,d],H3 x≠none:=λx U e=>hh x U (s3.free e)
  obtain⟨wg,ew⟩:=IX (ns:=ns);refine⟨_,_,.bl wg,b3,vw s3 rfl,ew _ rfl,λu9 H4 s4 r9=>?_⟩;rw[Rep]at r9;subst r9;have S:ae H2 H4:=λy u e=>s4 _ _ (s3 _ _ e)
  exact Ga F.wc lo h8 hl hb kt (by
   simp only[KP,nW,xm,not_or,Ky,K2,K6,LA];exact⟨⟨Y.ne,bP⟩,Ku bO⟩) (Rep.mono (aj S) _ b0) (Rep.mono (aj s4) _ b2) (tb.move (B':=λ_=>none) (aj S) (λ_=>S _ _) (λ_=>S _ _) (by simp) (by simp) rfl rfl) (S _ _ ed) (λy u e=>S _ _ (J.keep _ _ e)) (λx U=>by
   simp only[nW,xm,Ky]at U;rcases U with rfl|rfl|rfl
   .exact Y.aB
   .exact Y.lB
   .exact dB) q
end
noncomputable abbrev c39:Cal:=ab defs 39
noncomputable abbrev L(i:Nat):Stmt:=(aK og).getD i (.Pass ⟨0,0,0,0⟩)
noncomputable abbrev F0:Stmt:=(fb (L 14)).getD 0 (.Pass ⟨0,0,0,0⟩)
noncomputable abbrev B(i:Nat):Stmt:=(fb F0).getD i (.Pass ⟨0,0,0,0⟩)
noncomputable abbrev Cb(i:Nat):Stmt:=(fb (B 2)).getD i (.Pass ⟨0,0,0,0⟩)
noncomputable abbrev Dq:ME:=.call 19 [.bor 1,.bor 11]
noncomputable abbrev Dr:ME:=.idx (.bor 15) (.bin .mod (.bor 13) (.blt .len [.bor 15]))
noncomputable abbrev Ar:ME:=.idx (.lst [(cs "weaver"),(cs "moth")]) (.bin .mod (.bin .add (.blt .len [.bor 11]) (.bor 5)) (ci 2))
noncomputable abbrev Ds:ME:=.call 23 [.bor 15,.bor 7,.bor 12,.bor 3]
noncomputable abbrev Dt:ME:=.call 17 [.bor 2,(.call 16 [.bor 11,.bor 5]),(.call 16 [.bor 11,(.bin .sub (ci 1) (.bor 5))])]
noncomputable abbrev Du:ME:=.cmp .isN (.call 18 [.bor 3]) (.cst .non)
noncomputable abbrev Dw:ME:=.cmp .eq (.bor 14) (.bor 6)
noncomputable abbrev IZ(K:MP)(z:Cc):TS:=i4 (xH (tB (iq (F3 K z) [] E0 (av (aq 9) (av (aq 10) (av (aq 16) (av (tV K c39 (.bin .fdiv (.bor 13) (ci 60))) bN))))))) (iZ (tC (.bl false))) eU
noncomputable abbrev As(K:MP)(z:Cc):TS:=b_ (sV K c39 16 Ds) (b_ (IZ K z) (sV K c39 12 (.bin .add (.bor 12) (ci 1))))
noncomputable abbrev Dx(K:MP)(z:Cc):TS:=i4 (xH (tB (iq (F4 K z) [] E0 (av (aq 9) (av (aq 14) (av (aq 17) bN)))))) (iZ (tC (.bl false))) eU
noncomputable abbrev Dy (K:MP) (z:Cc) (C:Addr):TS:=b_ (sV K c39 17 Dr) (b_ (dG (eV C "take" (spT K c39 31) [] E0 (aq 10) (av (aq 17) bN))) (b_ (dG (tBM K "list" iR (aq 11) (av (aq 17) bN))) (b_ (Dx K z) (sV K c39 3 Dt))))
noncomputable abbrev vZ(K:MP)(z:Cc)(C:Addr):TS:=i4 (tVB K c39 Du) (b_ (sV K c39 14 Ar) (b_ (sV K c39 15 Dq) (b_ (i4 (tVB K c39 Dw) (As K z) eU) (Dy K z C)))) eU
noncomputable abbrev Kl:ME:=.slice (.bor 0) (ci 3) (ci 33)
noncomputable abbrev At(K:MP)(z:Cc)(C:Addr):TS:=wo (xN K (tV K c39 Kl)) (gc 13) (vZ K z C)
noncomputable abbrev I0:ME:=.tup [.var 1,.var 3]
noncomputable abbrev I_:ME:=.idx (.lst [(cs "weaver"),(cs "moth")]) (.bor 5)
noncomputable abbrev Ja(K:MP)(C:Addr):TE:=ja C (spI K C) [] E0 (av (tV K c39 I0) (av (tV K c39 I_) bN))
noncomputable abbrev Jb(K:MP)(z:Cc)(C:Addr):TS:=b_ (sE (Ja K C) 10) (b_ (sE (ww bN) 11) (b_ (sE (tC (.int 0)) 12) (b_ (At K z C) (iZ (tC (.bl true))))))
noncomputable abbrev Jc(K:MP)(z:Cc):TS:=i4 (tOr (xH (tB (iq (FZ K z) [] E0 (av (aq 9) bN)))) (xH (tB (iq (F6 K) [] E0 (av (aq 0) (av (aq 1) (av (aq 2) (av (aq 5) bN)))))))) (iZ (tC (.bl false))) eU
noncomputable abbrev Jd(K:MP)(z:Cc):TE:=ww (av (ja z.p (qQ K) [] E0 (av (aq 6) bN)) (av (ja z.r (sQ K z) [] E0 (av (aq 6) (av (aq 8) bN))) (av (ja z.w (qQ K) [] E0 (av (aq 6) bN)) bN)))
noncomputable abbrev Gb (K:MP) (z:Cc) (C:Addr):TS:=b_ (sE (Jd K z) 9) (b_ (dG (tBM K "list" qy (aq 8) (av (tC (.int 0)) (av (tC (.int 1)) bN)))) (b_ (Jc K z) (Jb K z C)))
section
variable{P:Program}{w:World}{K:MP}{mg:Str->Option Value}{base:Heap}{z:Cc}
structure Gc(P:Program)(w:World)(K:MP)(mg:Str->Option Value)(base:Heap)(z:Cc):Prop where
 mP:mg ("Player":Str)=some (.ref z.p)
 mR:mg ("Rower":Str)=some (.ref z.r)
 mW:mg ("Weigher":Str)=some (.ref z.w)
 p:∃f fd,Mk K z.p f/\aG K fd ["self","hand"] []/\bw P w K mg base CX0 38 f fd ["self","hand"] (qQ K)
 r:∃f fd,Mk K z.r f/\aG K fd ["self","hand","row"] []/\bw P w K mg base CX0 38 f fd ["self","hand","row"] (sQ K z)
 we:∃f fd,Mk K z.w f/\aG K fd ["self","hand"] []/\bw P w K mg base CX0 38 f fd ["self","hand"] (qQ K)
 cl:∃f fd,mg ("_law_classes":Str)=some (.ref f)/\PySem.W.keepIn K (.ref f)=true/\aG K fd ["players"] []/\bw P w K mg base CX0 39 f fd ["players"] (FZ K z)
 pl:∃f fd,mg ("_law_played":Str)=some (.ref f)/\PySem.W.keepIn K (.ref f)=true/\aG K fd ["script","count","ribbons","begin"] []/\bw P w K mg base CX0 39 f fd ["script","count","ribbons","begin"] (F6 K)
 pd:∃f fd,mg ("_law_picked":Str)=some (.ref f)/\PySem.W.keepIn K (.ref f)=true/\aG K fd ["players","table","due","order"] []/\bw P w K mg base CX0 39 f fd ["players","table","due","order"] (F3 K z)
 to:∃f fd,mg ("_law_told":Str)=some (.ref f)/\PySem.W.keepIn K (.ref f)=true/\aG K fd ["players","hand","hole"] []/\bw P w K mg base CX0 39 f fd ["players","hand","hole"] (F4 K z)
end
section
variable{X:Cx}{z:Cc}
def Gd(l:Fr X kH.names og 39){C:Addr}(Z:IsC X.K C)(F:Gc X.prog X.w X.K X.mg X.base z):PSs X [F0] (vZ X.K z C):=by
 obtain⟨f1,d1,a1,a2,a3,a4⟩:=F.pd;obtain⟨f2,d2,b1,b2,b3,b4⟩:=F.to;have gP:Gl X "_law_picked":=cY (by rw[l.s];decide +kernel);have gT:Gl X "_law_told":=cY (by rw[l.s];decide +kernel);obtain⟨fa,fd,ps,h1,h3,FT⟩:=l.g.methsT 31 "take" rfl C Z;have cC:=(l.g.cls C Z).1;have nm:∀{i:Nat}{x:Str}{pos:Pos},aD kH.names (af og) i x=true->PE X (.Name x pos) (aq i):=λh=>l.nm h
 have k0:PS X (Cb 0) (sV X.K c39 16 Ds):=l.set (i:=16) (x:="due") rfl (by decide +kernel) (l.v (by kernel_rfl)) (am rfl _ _ _);have k1:PS X (Cb 1) (IZ X.K z):=gb (ji (jh (g9 a4 l.g.room gP a1 a2 a3 .nil bc (ak (nm (by decide +kernel)) (ak (nm (by decide +kernel)) (ak (nm (by decide +kernel)) (ak (l.v (by kernel_rfl)) aS))))))) (aU (cv i_)) cQ;have k2:PS X (Cb 2) (sV X.K c39 12 (.bin .add (.bor 12) (ci 1))):=l.set (i:=12) (x:="done") rfl (by decide +kernel) (l.v (by kernel_rfl)) (am rfl _ _ _);have b0:PS X (B 0) (sV X.K c39 14 Ar):=l.set (i:=14) (x:="hand") rfl (by decide +kernel) (l.v (by kernel_rfl)) (am rfl _ _ _);have J:PS X (B 1) (sV X.K c39 15 Dq):=l.set (i:=15) (x:="free") rfl (by decide +kernel) (l.v (by kernel_rfl)) (am rfl _ _ _);have S:PS X (B 2) (i4 (tVB X.K c39 Dw) (As X.K z) eU):=gb (l.t (by kernel_rfl)) (show PSs X [Cb 0,Cb 1,Cb 2] _ from al k0 (al k1 (aU k2))) cQ;have U:PS X (B 3) (sV X.K c39 17 Dr):=l.set (i:=17) (x:="hole") rfl (by decide +kernel) (l.v (by kernel_rfl)) (am rfl _ _ _);have Y:PS X (B 4) (dG (eV C "take" (spT X.K c39 31) [] E0 (aq 10) (av (aq 17) bN))):=c5 (bf (nm (by decide +kernel)) cC h1 FT l.g.room h3 .nil bc (ak (nm (by decide +kernel)) aS)) rfl;have b5:PS X (B 5) (dG (tBM X.K "list" iR (aq 11) (av (aq 17) bN))):=c5 (mS PySem.F.plainAttrs_list PySem.F.slot_list_append PySem.F.type_list_append gJ (nm (by decide +kernel)) (ak (nm (by decide +kernel)) aS)) rfl;have b6:PS X (B 6) (Dx X.K z):=gb (ji (jh (g9 b4 l.g.room gT b1 b2 b3 .nil bc (ak (nm (by decide +kernel)) (ak (nm (by decide +kernel)) (ak (nm (by decide +kernel)) aS)))))) (aU (cv i_)) cQ;have b7:PS X (B 7) (sV X.K c39 3 Dt):=l.set (i:=3) (x:="left") rfl (by decide +kernel) (l.v (by kernel_rfl)) (am rfl _ _ _);exact aU (gb (l.t (by kernel_rfl)) (show PSs X [B 0,B 1,B 2,B 3,B 4,B 5,B 6,B 7] _ from al b0 (al J (al S (al U (al Y (al b5 (al b6 (aU b7)))))))) cQ)
def Je:ab defs 39 4000 []≠none:=Dp 37
def Jf(l:Fr X kH.names og 39)(F:Gc X.prog X.w X.K X.mg X.base z):∃C,IsC X.K C/\PSs X [L 8,L 9,L 10,L 11,L 12,L 13,L 14,L 15] (Gb X.K z C):=by
 obtain⟨C,hC,hm,fa,fd,ps,M,J,FI,_⟩:=l.g.ini Je;have gt:Gl X "Table":=cY (by rw[l.s];decide +kernel);have r:=l.g.lvl Je;have nm:∀{i:Nat}{x:Str}{pos:Pos},aD kH.names (af og) i x=true->PE X (.Name x pos) (aq i):=λh=>l.nm h
 obtain⟨g1,e1,p1,p2,p3⟩:=F.p;obtain⟨g2,e2,r1,r2,r3⟩:=F.r;obtain⟨g3,e3,w1,w2,w3⟩:=F.we;obtain⟨g4,e4,c1,c2,c3,c4⟩:=F.cl;obtain⟨g5,e5,q1,q2,q3,q4⟩:=F.pl;have gP:Gl X "Player":=cY (by rw[l.s];decide +kernel);have gR:Gl X "Rower":=cY (by rw[l.s];decide +kernel);have gW:Gl X "Weigher":=cY (by rw[l.s];decide +kernel);have gC:Gl X "_law_classes":=cY (by rw[l.s];decide +kernel);have gQ:Gl X "_law_played":=cY (by rw[l.s];decide +kernel);have s8:PS X (L 8) (sE (Jd X.K z) 9):=l.set (i:=9) (x:="players") rfl (by decide +kernel) (mJ (ak (ft p1 p3 l.g.room gP F.mP p2 .nil bc (ak (nm (by decide +kernel)) aS)) (ak (ft r1 r3 l.g.room gR F.mR r2 .nil bc (ak (nm (by decide +kernel)) (ak (nm (by decide +kernel)) aS))) (ak (ft w1 w3 l.g.room gW F.mW w2 .nil bc (ak (nm (by decide +kernel)) aS)) aS)))) (am rfl _ _ _);have s9:PS X (L 9) (dG (tBM X.K "list" qy (aq 8) (av (tC (.int 0)) (av (tC (.int 1)) bN)))):=c5 (mS PySem.F.plainAttrs_list PySem.F.slot_list_insert PySem.F.type_list_insert o8 (nm (by decide +kernel)) (ak dh (ak dh aS))) rfl;have S:PS X (L 10) (Jc X.K z):=gb (xI (ji (jh (g9 c4 l.g.room gC c1 c2 c3 .nil bc (ak (nm (by decide +kernel)) aS)))) (sY (ji (jh (g9 q4 l.g.room gQ q1 q2 q3 .nil bc (ak (nm (by decide +kernel)) (ak (nm (by decide +kernel)) (ak (nm (by decide +kernel)) (ak (nm (by decide +kernel)) aS))))))))).pt (aU (cv i_)) cQ;have U:PS X (L 11) (sE (Ja X.K C) 10):=l.set (i:=10) (x:="table") rfl (by decide +kernel) (ft M FI r gt hm J .nil bc (ak (l.v (by kernel_rfl)) (ak (l.v (by kernel_rfl)) aS))) (am rfl _ _ _);have Y:PS X (L 12) (sE (ww bN) 11):=l.set (i:=11) (x:="taken") rfl (by decide +kernel) (mJ aS) (am rfl _ _ _);have Z:PS X (L 13) (sE (tC (.int 0)) 12):=l.set (i:=12) (x:="done") rfl (by decide +kernel) dh (am rfl _ _ _);have ao:PS X (L 14) (At X.K z C):=mF l.d.own l.g.calm (jK (l.v (by kernel_rfl))) (l.pg (i:=13) (x:="cell") rfl (by decide +kernel)) (show PSs X [F0] _ from Gd l hC F);exact⟨C,hC,al s8 (al s9 (al S (al U (al Y (al Z (al ao (aU (cv i_))))))))⟩
end
structure Cl8 where
 T:Addr
 l:Addr
 d:Addr
 P:Addr
 a:Addr
 b:Addr
 c:Addr
noncomputable def Cl8.n(z:Cl8):List Addr:=[z.d,z.P,z.a,z.b,z.c]
noncomputable def Cl8.m(z:Cl8):List Addr:=z.T::z.l::z.n
structure JL(K:MP)(z:Cc)(y:Cl8)(c:Int)(Rb:LL)(o:Bool)(hd:Str)(row:List Int)(m:Nat)(t t':List Int)(L:LL)(ur uL uw:V)(sa:Addr)(cs:List Int)(H:Hp):Prop where
 nd:y.m.Nodup
 rb:Rep K (ah H y.m) (.lst (Rb.map ofS)) ur
 rr:Rep K (ah H y.m) (ofL row) uw
 rl:Rep K (ah H y.m) (ofR L) uL
 sc:SqL K (ah H y.m) sa (cs.map V.int)
 tb:cm K (λ_=>none) y.m H (tbl c (sortT Rb) o) (t.map .int) y.T y.l
 dd:H y.d=some (.lst (t'.map V.int))
 eP:H y.P=some (.lst [.ref y.a,.ref y.b,.ref y.c])
 h0:bp K z y.m H y.a hd .pl
 h1:bp K z y.m H y.b hd (.ro row m)
 h2:bp K z y.m H y.c hd .we
noncomputable def frL(q0:Option V)(c:Int)(ur uL:V)(q4:Option V)(b:Int)(hd:Str)(uw:V)(q8:Option V)(y:Cl8)(m:Nat)(σ:L2.St):L2.St:=q0::some (.int c)::some ur::some uL::q4::some (.int b)::some (.str hd)::some uw::q8::some (.ref y.P)::some (.ref y.T)::some (.ref y.d)::some (.int m)::σ
noncomputable def vwL(c:Int)(Rb L:LL)(b:Int)(hd:Str)(row:List Int)(o:Bool)(t t':List Int)(m:Nat)(G:Rho):Rho:=none::sv (.int c)::sv (.lst (Rb.map ofS))::sv (ofR L)::none::sv (.int b)::sv (.str hd)::sv (ofL row)::none::none::some (.brwO (tbl c (sortT Rb) o) (t.map .int))::some (.brw (t'.map .int))::sv (.int m)::G
section
variable{K:MP}{z:Cc}{y:Cl8}{c b:Int}{Rb L:LL}{o:Bool}{hd:Str}{row:List Int}{m:Nat}{t t':List Int}{ur uL uw:V}{sa:Addr}{cs:List Int}{H H':Hp}
theorem JL.mono(j:JL K z y c Rb o hd row m t t' L ur uL uw sa cs H)(s:ae H H'):JL K z y c Rb o hd row m t t' L ur uL uw sa cs H':=
 ⟨j.nd,Rep.mono (aj s) _ j.rb,Rep.mono (aj s) _ j.rr,Rep.mono (aj s) _ j.rl,(aj s).seq j.sc,j.tb.move (B':=λ_=>none) (aj s) (λ_=>s _ _) (λ_=>s _ _) j.tb.aO j.tb.lO rfl rfl,s _ _ j.dd,s _ _ j.eP,j.h0.mv s,j.h1.mv s,j.h2.mv s⟩
theorem JL.here(j:JL K z y c Rb o hd row m t t' L ur uL uw sa cs H):∀x∈y.m,H x≠none:=λx J=>by
 simp only[Cl8.m,Cl8.n,nW,xm,Ky]at J;rcases J with rfl|rfl|rfl|rfl|rfl|rfl|rfl
 .exact(own_here j.tb).1
 .exact(own_here j.tb).2
 .rw[j.dd];simp
 .rw[j.eP];simp
 .exact j.h0.here
 .exact j.h1.here
 .exact j.h2.here
def JL.view(j:JL K z y c Rb o hd row m t t' L ur uL uw sa cs H){q0 q4 q8:Option V}{G:Rho}{σ:L2.St}(v:Vw K H y.m G σ):Vw K H y.m (vwL c Rb L b hd row o t t' m G) (frL q0 c ur uL q4 b hd uw q8 y m σ):=
 .skip (.val (aR (K:=K) _ _) (.val j.rb (.val j.rl (.skip (.val (aR (K:=K) _ _) (.val (iV (K:=K) _ _) (.val j.rr (.skip (.skip (.obj j.tb.lent (.brw (SqL.of j.dd) (Reps.of_ints t') (.val (aR (K:=K) _ _) v))))))))))))
theorem JL.ne(j:JL K z y c Rb o hd row m t t' L ur uL uw sa cs H):(y.T≠y.d/\y.l≠y.d/\y.P≠y.d/\y.a≠y.d/\y.b≠y.d/\y.c≠y.d)/\(y.P≠y.T/\y.P≠y.l)/\(y.a≠y.T/\y.a≠y.l)/\(y.b≠y.T/\y.b≠y.l)/\(y.c≠y.T/\y.c≠y.l)/\[y.P,y.a,y.b,y.c].Nodup:=by
 have nd:=j.nd;simp only[Cl8.m,Cl8.n,KP,nW,xm,not_or,Ky,K2,K6,LA]at nd ⊢
 grind
def JL.took(j:JL K z y c Rb o hd row m t t' L ur uL uw sa cs H){l':Addr}{s:List Int}(nd:(y.T::l'::y.n).Nodup)(v:ae (ah H y.m) (ah H' (y.T::l'::y.n)))(tb:cm K (λ_=>none) (y.T::l'::y.n) H' (tbl c (sortT Rb) o) (s.map .int) y.T l')(kp:∀b o,b≠y.T->b≠y.l->H b=some o->H' b=some o):JL K z { y with l:=l' } c Rb o hd row m s t' L ur uL uw sa cs H':=by
 obtain⟨J,S,U,Y,Z,_⟩:=j.ne;exact⟨nd,Rep.mono v _ j.rb,Rep.mono v _ j.rr,Rep.mono v _ j.rl,v.seq j.sc,tb,kp _ _ (Ku J.1) (Ku J.2.1) j.dd,kp _ _ S.1 S.2 j.eP,j.h0.to v λu=>kp _ u U.1 U.2,j.h1.to v λu=>kp _ u Y.1 Y.2,j.h2.to v λu=>kp _ u Z.1 Z.2⟩
def JL.wrote(j:JL K z y c Rb o hd row m t t' L ur uL uw sa cs H){s:List Int}:JL K z y c Rb o hd row m t s L ur uL uw sa cs (upd H y.d (.lst (s.map V.int))):=by
 obtain⟨⟨S,U,Y,Z,e5,e6⟩,_⟩:=j.ne;have kp:∀b o,b≠y.d->H b=some o->(upd H y.d (.lst (s.map V.int))) b=some o:=λb o nb eb=>by rw[aA nb];exact eb
 have J:ae (ah H y.m) (ah (upd H y.d (.lst (s.map V.int))) y.m):=d_ (by simp[Cl8.m,Cl8.n]) kp;exact⟨j.nd,Rep.mono J _ j.rb,Rep.mono J _ j.rr,Rep.mono J _ j.rl,J.seq j.sc,j.tb.move (B':=λ_=>none) J (λu=>kp _ u S) (λu=>kp _ u U) j.tb.aO j.tb.lO rfl rfl,ax,kp _ _ Y j.eP,j.h0.to J λu=>kp _ u Z,j.h1.to J λu=>kp _ u e5,j.h2.to J λu=>kp _ u e6⟩
def JL.told(j:JL K z y c Rb o hd row m t t' L ur uL uw sa cs H){U:Nat}(h0:bp K z y.m H' y.a hd .pl)(h1:bp K z y.m H' y.b hd (.ro row U))(h2:bp K z y.m H' y.c hd .we)(kp:∀b o,b≠y.a->b≠y.b->b≠y.c->H b=some o->H' b=some o):JL K z y c Rb o hd row U t t' L ur uL uw sa cs H':=by
 obtain⟨⟨_,_,_,Y,Z,d3⟩,_,⟨a1,a2⟩,⟨b1,b2⟩,⟨c1,c2⟩,nd⟩:=j.ne;simp only[KP,nW,xm,not_or,Ky,K2,K6,LA]at nd;have J:ae (ah H y.m) (ah H' y.m):=λx u e=>by
  have S:x∉y.m:=λz=>by rw[dq z]at e;cases e
  rw[aV S]at e ⊢;simp only[Cl8.m,Cl8.n,nW,xm,not_or,Ky]at S;exact kp x u S.2.2.2.2.1 S.2.2.2.2.2.1 S.2.2.2.2.2.2 e
 exact⟨j.nd,Rep.mono J _ j.rb,Rep.mono J _ j.rr,Rep.mono J _ j.rl,J.seq j.sc,j.tb.move (B':=λ_=>none) J (λu=>kp _ u (Ku a1) (Ku b1) (Ku c1)) (λu=>kp _ u (Ku a2) (Ku b2) (Ku c2)) j.tb.aO j.tb.lO rfl rfl,kp _ _ (Ku Y) (Ku Z) (Ku d3) j.dd,kp _ _ nd.1.1 nd.1.2.1 nd.1.2.2 j.eP,h0,h1,h2⟩
def JL.newL(j:JL K z y c Rb o hd row m t t' L ur uL uw sa cs H){L2:LL}{u:V}(r:Rep K (ah H y.m) (ofR L2) u):JL K z y c Rb o hd row m t t' L2 ur u uw sa cs H:=⟨j.nd,j.rb,j.rr,r,j.sc,j.tb,j.dd,j.eP,j.h0,j.h1,j.h2⟩
end
section
variable{K:MP}{z:Cc}{y:Cl8}{c b:Int}{Rb:LL}{o my:Bool}{row:List Int}{m:Nat}{t:List Int}{ur uL uw:V}{sa:Addr}{cs:List Int}{H:Hp}{q0 q4 q8:Option V}
def Cm{cal:Cal}{G:Rho}{t:List Int}{b:Int}{o:Bool}(h11:(G[11]?).join=some (.brw (t.map .int)))(h5:(G[5]?).join=sv (.int b))(J:b=if o=true then 1 else 0):ev cal Ar G=some (.str (ay (hat o t.length))):=by
 have S:ev cal (.blt .len [.bor 11]) G=some (.int (t.length:Nat)):=by
  rw[bz (v:=ofL t) (by rw[ev,h11];rfl)];show some (PV.int ((t.map PV.int).length:Nat))=_;rw[tr]
 have U:((t.length:Int)+b) % 2=if hat o t.length=true then 1 else 0:=by
  unfold hat;rw[J];by_cases q:t.length % 2=0
  .rw[if_pos q];cases o<;>simp<;>omega
  .rw[if_neg q];cases o<;>simp<;>omega
 have Y:ev cal (.bin .mod (.bin .add (.blt .len [.bor 11]) (.bor 5)) (ci 2)) G=some (.int (((t.length:Int)+b) % 2)):=by
  rw[bM (x:=.int ((t.length:Int)+b)) (bM (x:=.int (t.length:Nat)) (y:=.int b) S (by rw[ev,h5];rfl)) (cH _ _ _),du,if_pos (by decide)]
 rw[fq (x:=.lst [.str "weaver",.str "moth"]) rfl Y,U];cases hat o t.length<;>rfl
def Cn{G:Rho}{L:LL}(h:(G[3]?).join=sv (ofR L)):ev c39 Du G=some (.bl (decide (bo L=.non))):=(Aj (n:=38) (i:=3) h).trans (by rw[lH])
def Co(lo:Lo c (sortT Rb))(hw:bo (lft o 0 (sortT Rb) t)=.non)(j:JL K z y c Rb o (ay my) row m t t (lft o 0 (sortT Rb) t) ur uL uw sa cs H){Y:V}(rf:Rep K (ah H y.m) (ofL (frl c t)) Y){cell:Int}{S Z U:Option V}{D:gF}
  (q:∀H' ao,ae H H'->D.nx (frL q0 c ur uL q4 b (ay my) uw q8 y (m+1) [some (.int cell),S,some Y,ao,U]) H') :
  As K z D (frL q0 c ur uL q4 b (ay my) uw q8 y m [some (.int cell),S,some Y,Z,U]) H:=by
 have ar:=lo.free hw;refine⟨_,_,_,j.here,j.view (b:=b) (.skip (.skip (.val rf (.skip (.skip .nil))))),aX (vs:=[.val (ofL (frl c t)),.val (ofL row),.val (.int m),.val (ofR (lft o 0 (sortT Rb) t))]) rfl (C5 36 (.inl rfl) m ar (iP o t 0 lo.g) (FU o t 0 lo.e)),λud H1 s1 rd=>?_⟩;have j1:=j.mono s1;refine⟨_,rfl,_,rfl,_,rfl,[],[none,none,none,none,none,none,none,none,none,none,none,none,none,sv (.int cell),none,none,none,none],.int (cell / 60),no0,.skip (.skip (.skip (.skip (.skip (.skip (.skip (.skip (.skip (.skip (.skip (.skip (.skip (.val (aR (K:=K) _ _) (.skip (.skip (.skip (.skip .nil))))))))))))))))),kI rfl (by decide),λuo H2 s2 ro=>?_⟩;rw[Rep]at ro;subst ro;have J:=j1.mono s2;refine⟨y.P,y.a,y.b,y.c,y.T,ay my,row,m,y.m,sortT Rb,c,o,t,ud,cell / 60,rfl,J.eP,J.h0,J.h1,J.h2,J.tb.lent.move (ae.refl H2) le0,lo,hw,Rep.mono (ae.trans (aj s2) le0) _ rd,λH3 s3=>⟨true,rfl,gZ ?_⟩⟩;have j3:=J.mono s3;have aL:ae H1 H3:=s2.trans s3;refine⟨_,_,.int ((m:Int)+1),j3.here,j3.view (b:=b) (.skip (.skip (.skip (.skip (.skip .nil))))),(bM (x:=.int (m:Int)) (y:=.int 1) rfl rfl).trans rfl,λum H4 s4 rm=>?_⟩;rw[Rep]at rm;subst rm;exact q H4 _ (s1.trans (aL.trans s4))
def v_{C:Addr}(hC:IsC K C)(lo:Lo c (sortT Rb))(h8:∀s∈Rb,s.length<=8)(hl:Rb.length<=8)(hb:b=if o=true then 1 else 0)(k:Tk c t)(hw:bo (lft o 0 (sortT Rb) t)=.non)(j:JL K z y c Rb o (ay my) row m t t (lft o 0 (sortT Rb) t) ur uL uw sa cs H){uf:V}(rf:Rep K (ah H y.m) (ofL (frl c t)) uf){cell:Int}{x:Bool}{Y:Nat}(aH:Y=if (ay x==ay my)=true then m+1 else m){J aL:Option V}{D:gF}
  (q:∀l' t' Z H' aP,JL K z { y with l:=l' } c Rb o (ay my) row Y t' t' (lft o 0 (sortT Rb) t') ur Z uw sa cs H'->Tk c t'->D.nx (frL q0 c ur Z q4 b (ay my) uw q8 { y with l:=l' } Y [some (.int cell),some (.str (ay x)),some uf,J,aP]) H') :
  Dy K z C D (frL q0 c ur uL q4 b (ay my) uw q8 y Y [some (.int cell),some (.str (ay x)),some uf,J,aL]) H:=by
 have S:=lo.free hw;have len:=k.room lo.q S;have ha:=uQ S cell;refine⟨[],[none,none,none,none,none,none,none,none,none,none,none,none,none,sv (.int cell),none,sv (ofL (frl c t)),none,none],_,no0,.skip (.skip (.skip (.skip (.skip (.skip (.skip (.skip (.skip (.skip (.skip (.skip (.skip (.val (aR (K:=K) _ _) (.skip (.val (Rep.mono le0 _ rf) (.skip (.skip .nil))))))))))))))))),Aa rfl rfl S,λua H1 s1 ra=>?_⟩;rw[Rep]at ra;subst ra;have j1:=j.mono s1;generalize (frl c t).getD (cell % ((frl c t).length:Int)).toNat 0=a at ha;show b_ (dG (eV C "take" (spT K c39 31) [] E0 (aq 10) (av (aq 17) bN))) _ D (frL q0 c ur uL q4 b (ay my) uw q8 y Y [some (.int cell),some (.str (ay x)),some uf,J,some (.int a)]) H1;refine vX (D:={ D with nx:=_ }) hC (n:=33) (N:=y.n) lo k hw ha j1.nd j1.here j1.tb (λQ q=>⟨_,rfl,q⟩) (λQ q=>⟨_,rfl,q⟩) λl' H2 g1 g2 g3 kp bW=>?_
 have j2:=j1.took g1 g2 g3 kp;refine⟨_,rfl,.inl ⟨rfl,_,SqL.of j2.dd⟩,_,rfl,y.d,t.map V.int,.int a,rfl,rfl,j2.dd,?_,?_⟩
 .rw[tr];exact wh len (by decide)
 have U:=j2.wrote (s:=t++[a]);rw[LR]at U;obtain⟨_,_,_,_,_,a1⟩:=U.ne;refine⟨_,rfl,_,rfl,_,rfl,y.P,y.a,y.b,y.c,ay my,ay x,a,row,m,({ y with l:=l' }:Cl8).m,rfl,U.eP,U.h0,U.h1,U.h2,a1,by simp[Cl8.m,Cl8.n],by simp[Cl8.m,Cl8.n],by simp[Cl8.m,Cl8.n],λH4 e0 e1 e2 k4=>⟨true,rfl,gZ ?_⟩⟩;have e1:bp K z ({ y with l:=l' }:Cl8).m H4 y.b (ay my) (.ro row Y):=by rw[aH];exact e1
 have j4:=U.told e0 e1 e2 k4;have kt:=k.add ha;have lt':=kt.len lo.q;refine⟨_,_,_,j4.here,j4.view (b:=b) (.skip (.skip (.skip (.skip (.skip .nil))))),aX (vs:=[.val (.lst (Rb.map ofS)),.val (ofL (sortI (tb (t++[a]) b))),.val (ofL (sortI (tb (t++[a]) (1-b))))]) (kJ rfl (lF (aX (vs:=[.brw ((t++[a]).map .int),.val (.int b)]) rfl (jC 38 _ _ (by omega))) (lF (aX (vs:=[.brw ((t++[a]).map .int),.val (.int (1-b))]) rfl (jC 38 _ _ (by omega))) rfl))) (zY 38 Rb _ _ (λs h=>by have:=h8 s h;omega) (by omega)),λu H5 s5 r5=>?_⟩;have eq:=qJ o (t++[a]) 0 Rb kt.nd;rw[(qM hb (t++[a])).1,(qM hb (t++[a])).2]at eq;rw[<- eq]at r5;exact q l' (t++[a]) u H5 _ ((j4.mono s5).newL r5) kt
def Cq{C:Addr}(hC:IsC K C)(lo:Lo c (sortT Rb))(h8:∀s∈Rb,s.length<=8)(hl:Rb.length<=8)(hb:b=if o=true then 1 else 0)(k:Tk c t)(j:JL K z y c Rb o (ay my) row m t t (lft o 0 (sortT Rb) t) ur uL uw sa cs H){cell:Int}{ar aH aL aP:Option V}{D:gF}
  (q:∀l' m' t' J H' a0 a1 Y S,JL K z { y with l:=l' } c Rb o (ay my) row m' t' t' (lft o 0 (sortT Rb) t') ur J uw sa cs H'->Tk c t'->D.nx (frL q0 c ur J q4 b (ay my) uw q8 { y with l:=l' } m' [some (.int cell),a0,a1,Y,S]) H') :
  vZ K z C D (frL q0 c ur uL q4 b (ay my) uw q8 y m [some (.int cell),ar,aH,aL,aP]) H:=by
 refine⟨_,_,_,j.here,j.view (b:=b) (.skip (.skip (.skip (.skip (.skip .nil))))),Cn rfl,λH1 s1=>?_⟩;have Z:=j.mono s1;by_cases hw:bo (lft o 0 (sortT Rb) t)=.non
 .have a2:=lo.free hw;have len:=k.room lo.q a2;rw[Ks hw];refine ow ⟨_,_,_,Z.here,Z.view (b:=b) (.skip (.skip (.skip (.skip (.skip .nil))))),Cm rfl rfl hb,λuh H2 s2 rh=>?_⟩;rw[Rep]at rh;subst rh;have j2:=Z.mono s2;generalize hat o t.length=x;refine⟨_,_,_,j2.here,j2.view (b:=b) (.skip (.skip (.skip (.skip (.skip .nil))))),aX (vs:=[.val (.int c),.brw (t.map .int)]) rfl (qN 38 c t (c60 lo).1 (c60 lo).2 (by omega)),λuf H3 s3 rf=>?_⟩;have j3:=j2.mono s3;refine⟨_,_,(ay x==ay my),j3.here,j3.view (b:=b) (.skip (.val (iV (K:=K) _ (ay x)) (.skip (.skip (.skip .nil))))),?_,λH4 s4=>?_⟩
  .refine(di (x:=.str (ay x)) (y:=.str (ay my)) rfl rfl).trans ?_;show(eqF 100 (.str (ay x)) (.str (ay my))).map PV.bl=_;rw[qD]
   rfl
  have j4:=j3.mono s4;have U:=Rep.mono (aj s4) _ rf;cases hx:(ay x==ay my)with
  |true =>
   refine ow (Co lo hw j4 U λH5 Y s5=>?_);exact v_ hC lo h8 hl hb k hw (j4.mono s5) (Rep.mono (aj s5) _ U) (by rw[hx];rfl) λl' t' J H' S j' k'=>q l' _ t' J H' _ _ _ S j' k'
  |false=>exact gZ (v_ hC lo h8 hl hb k hw j4 U (by rw[hx];rfl) λl' t' J H' S j' k'=>q l' _ t' J H' _ _ _ S j' k')
 .rw[KH hw];exact gZ (q y.l m t uL H1 _ _ _ _ Z k)
end
section
variable{K:MP}{z:Cc}{y:Cl8}{c b:Int}{Rb:LL}{o my:Bool}{row:List Int}{m:Nat}{t:List Int}{ur uL uw:V}{ns:List Int}{H:Hp}{q4 q8:Option V}
def Cr{C:Addr}{sa:Addr}(hC:IsC K C)(lo:Lo c (sortT Rb))(h8:∀s∈Rb,s.length<=8)(hl:Rb.length<=8)(hb:b=if o=true then 1 else 0)(j:JL K z y c Rb o (ay my) row m [] [] (lft o 0 (sortT Rb) []) ur uL uw sa ns H){a0 a1 a2 a3 a4:Option V}{D:gF}(q:∀σ H',D.nx σ H') :
  At K z C D (frL (some (.ref sa)) c ur uL q4 b (ay my) uw q8 y m [a0,a1,a2,a3,a4]) H:=by
 refine⟨y.m,some (.brw (ns.map .int))::replicate 17 none,ofL (gX ns (some 3) (some 33)),j.here,.brw ((a_ H _).seq j.sc) (Reps.of_ints _) (sU rfl),by simp[ev],λu H1 s1 r1=>?_⟩;generalize gX ns (some 3) (some 33)=cs at r1;have r1:Rep K (ah H1 y.m) (.lst (cs.map .int)) u:=r1;rw[Rep]at r1;obtain⟨a,us,rfl,sq,rs⟩:=r1;have eu:=Reps.ints rs;subst eu;have Z:=j.mono s1;have j1:JL K z y c Rb o (ay my) row m [] [] (lft o 0 (sortT Rb) []) ur uL uw a cs H1:=⟨Z.nd,Z.rb,Z.rr,Z.rl,sq,Z.tb,Z.dd,Z.eP,Z.h0,Z.h1,Z.h2⟩;refine⟨a,rfl,⟨_,(a_ _ _).seq sq⟩,?_⟩;refine⟨λi mm ar H'=>mm=cs.length-i/\i<=cs.length/\∃(l':Addr) (m:Nat) (t:List Int) (uL:V) (ao J S U Y:Option V),ar=frL (some (.ref sa)) c ur uL q4 b (ay my) uw q8 { y with l:=l' } m [ao,J,S,U,Y]/\JL K z { y with l:=l' } c Rb o (ay my) row m t t (lft o 0 (sortT Rb) t) ur uL uw a cs H'/\Tk c t,⟨_,rfl,KN _,y.l,m,[],uL,_,_,_,_,_,rfl,j1,⟨K2,λx h=>(by cases h)⟩⟩,?_⟩;rintro i mm ar H' ⟨rfl,hi,l',m',t',a5,ao,J,S,U,Y,rfl,j',k'⟩;have sc:=(a_ H' _).seq j'.sc;by_cases aH:i<cs.length
 .right;have ei:(cs.map V.int)[i]?=some (.int cs[i]):=by rw[Kx,Kz aH];rfl
  refine⟨⟨_,_,sc,ei⟩,λaL H2=>∃m',m'<cs.length-i/\(m'=cs.length-(i+1)/\i+1<=cs.length/\∃(l':Addr) (m:Nat) (t:List Int) (uL:V) (ao J S U Y:Option V),aL=frL (some (.ref sa)) c ur uL q4 b (ay my) uw q8 { y with l:=l' } m [ao,J,S,U,Y]/\JL K z { y with l:=l' } c Rb o (ay my) row m t t (lft o 0 (sortT Rb) t) ur uL uw a cs H2/\Tk c t),λaL H2 w=>w,λx H2 yl=>?_⟩;obtain⟨rfl,yl⟩:=yl;have ey:=yl _ sc;rw[ei]at ey;cases ey;show vZ K z C _ (frL (some (.ref sa)) c ur a5 q4 b (ay my) uw q8 { y with l:=l' } m' [some (.int cs[i]),J,S,U,Y]) H2;exact Cq hC lo h8 hl hb k' j' λl2 m2 t2 bt H3 b5 b6 b7 cd j2 k2=>⟨_,by omega,rfl,aH,l2,m2,t2,bt,_,_,_,_,_,rfl,j2,k2⟩
 .left;have:i=cs.length:=by omega
  subst this;exact⟨⟨_,sc,by rw[tr];exact pe _⟩,q _ H'⟩
def Ge{C:Addr}(hC:IsC K C){σ:L2.St}{Q:VK}{te tw:TE}{M:List Addr}{R:LL}(ht:∀Y:VK,(∀u H1,ae H H1->Rep K (ah H1 M) (.tup [.int c,ofR R]) u->Y u H1)->te σ H Y)(hw:∀H1 (Y:VK),ae H H1->(∀H2,ae H1 H2->Y (.str (ay o)) H2)->tw σ H1 Y)
  (q:∀t l H',ae H H'->H t=none->H l=none->cm K (λ_=>none) (t::l::M) H' (tbl c R o) [] t l->Q (.ref t) H'):ja C (spI K C) [] E0 (av te (av tw bN)) σ H Q:=by
 refine ht _ λu H1 s1 r=>?_
 rw[Rep]at r;obtain⟨la,ts,rfl,aH,rt⟩:=r;rw[Reps]at rt;obtain⟨uc,r4,rfl,rc,rt⟩:=rt;rw[Reps]at rt;obtain⟨ur,r5,rfl,rr,rt⟩:=rt;rw[Reps]at rt;subst rt;rw[Rep]at rc;subst rc;refine hw H1 _ s1 λH2 S t dx nt nd ne=>?_
 have s3:ae H2 (upd (upd H2 dx (.own t)) t (.ins C dx [])):=qS nt nd;refine⟨t,dx,la,.int c,ur,.str (ay o),rfl,ax,s3.seqT (SqT.of (S _ _ (a_ _ _ _ _ aH))),λl H' nl et el kp=>⟨rfl,?_⟩⟩;have a0:l≠t:=λz=>by rw[z,ax]at nl;cases nl
 have Z:H2 l=none:=s3.free nl;have s4:ae H2 H':=λb u eb=>kp b u (a9 eb nt) (s3 b u eb)
 have v:ae (ah H1 M) (ah H' (t::l::M)):=aQ (λb u e=>s4 _ _ (S _ _ e)) λx hx=>by
  rcases nW.mp hx with rfl|hx
  .exact .inr (S.free nt)
  .rcases nW.mp hx with rfl|hx
   .exact .inr (S.free Z)
   .exact .inl hx
 obtain⟨f1,f2,f3,f4,f5⟩:=si (c:=.int c) (r:=ur) (o:=.str (ay o)) (l:=l);refine q t l H' (λb u eb=>s4 _ _ (S _ _ (s1 _ _ eb))) (s1.free (S.free nt)) (s1.free (S.free Z)) ⟨⟨C,dx,_,et,hC,λn x v U J=>?_,f4,f5⟩,⟨_,el,.nil⟩,.head _,.tail _ (.head _),rfl,rfl,Ku a0⟩
 match n,U,J with
 |0,U,J=>cases U;cases J;exact⟨_,f1,by rw[Rep]⟩
 |1,U,J=>cases U;cases J;exact⟨ur,f2,Rep.mono v _ rr⟩
 |2,U,J=>cases U;cases J;exact⟨_,f3,by rw[Rep]⟩
def Gg{C:Addr}{sa J S p1 p2:Addr}(hC:IsC K C)(lo:Lo c (sortT Rb))(h8:∀s∈Rb,s.length<=8)(hl:Rb.length<=8)(hb:b=if o=true then 1 else 0)(nd:[J,S,p1,p2].Nodup)(rb:Rep K (ah H [J,S,p1,p2]) (.lst (Rb.map ofS)) ur)(rr:Rep K (ah H [J,S,p1,p2]) (ofL row) uw)(rl:Rep K (ah H [J,S,p1,p2]) (ofR (sortT Rb)) uL)(sc:SqL K (ah H [J,S,p1,p2]) sa (ns.map V.int))(eP:H J=some (.lst [.ref S,.ref p1,.ref p2]))
  (h0:bp K z [J,S,p1,p2] H S (ay my) .pl) (h1:bp K z [J,S,p1,p2] H p1 (ay my) (.ro row 0)) (h2:bp K z [J,S,p1,p2] H p2 (ay my) .we) {aL a0 a1 a2 a3 a4 a5 a6:Option V}{D:gF} (q:∀H',D.rt (.bl true) H') :
  Jb K z C D [some (.ref sa),some (.int c),some ur,some uL,q4,some (.int b),some (.str (ay my)),some uw,q8,some (.ref J),aL,a0,a1,a2,a3,a4,a5,a6] H:=by
 have hh:∀x∈[J,S,p1,p2],H x≠none:=λx U=>by
  simp only[nW,xm,Ky]at U;rcases U with rfl|rfl|rfl|rfl
  .rw[eP];simp
  .exact h0.here
  .exact h1.here
  .exact h2.here
 refine sT (Ge (c:=c) (o:=o) (R:=sortT Rb) (M:=[J,S,p1,p2]) hC (λQ' q'=>⟨[J,S,p1,p2],none::sv (.int c)::none::sv (ofR (sortT Rb))::replicate 14 none,.tup [.int c,ofR (sortT Rb)],hh,.skip (.val (aR (K:=K) _ _) (.skip (.val rl (sU rfl)))),rfl,λu H1 s1 r1=>q' u H1 s1 r1⟩)
  (λH1 Q' s1 q'=>⟨[],none::none::none::none::none::sv (.int b)::replicate 12 none,.str (ay o),no0,.skip (.skip (.skip (.skip (.skip (.val (aR (K:=K) _ _) (sU rfl)))))),by
   rw[fq (x:=.lst [.str "weaver",.str "moth"]) (y:=.int b) rfl rfl,hb];cases o<;>rfl,λu H2 Z r2=>by rw[Rep]at r2;subst r2;exact q' H2 Z⟩) λT l H1 s1 nT nl tb=>?_)
 refine sT ⟨by decide,λd hd=>?_⟩;have Z:ae H1 (upd H1 d (.lst [])):=bE hd _;have ed:(upd H1 d (.lst [])) d=some (.lst (([]:List Int).map V.int)):=ax;generalize upd H1 d (.lst [])=H2 at Z ed;have aH:H d=none:=s1.free hd;have Y:ae H H2:=λx u e=>Z _ _ (s1 _ _ e)
 simp only[KP,nW,xm,not_or,Ky,K2,K6,LA]at nd;have dT:T≠d:=λe=>(own_here tb).1 (e▸hd)
 have dl:l≠d:=λe=>(own_here tb).2 (e▸hd)
 have ao:∀{x:Addr},H x=none->x≠J/\x≠S/\x≠p1/\x≠p2:=λ{x} U=>⟨λe=>hh J (by simp) (e▸U),λe=>hh S (by simp) (e▸U),λe=>hh p1 (by simp) (e▸U),λe=>hh p2 (by simp) (e▸U)⟩
 obtain⟨t1,t2,t3,t4⟩:=ao nT;obtain⟨l1,l2,l3,l4⟩:=ao nl;obtain⟨d1,d2,d3,d4⟩:=ao aH;have v:ae (ah H [J,S,p1,p2]) (ah H2 [T,l,d,J,S,p1,p2]):=aQ Y λx U=>by
  rcases nW.mp U with rfl|U
  .exact .inr nT
  rcases nW.mp U with rfl|U
  .exact .inr nl
  rcases nW.mp U with rfl|U
  .exact .inr aH
  .exact .inl U
 have v1:ae (ah H1 [T,l,J,S,p1,p2]) (ah H2 [T,l,d,J,S,p1,p2]):=aQ Z λx U=>by
  simp only[nW,xm,Ky]at U ⊢;rcases U with h|h|h|h
  .exact .inl (.inl h)
  .exact .inl (.inr (.inl h))
  .exact .inr (h▸hd)
  .exact .inl (.inr (.inr h))
 have j:JL K z ⟨T,l,d,J,S,p1,p2⟩ c Rb o (ay my) row 0 [] [] (lft o 0 (sortT Rb) []) ur uL uw sa ns H2:=⟨by
  simp only[Cl8.m,Cl8.n,KP,nW,xm,not_or,Ky,K2,K6,LA];exact⟨⟨tb.ne,dT,t1,t2,t3,t4⟩,⟨dl,l1,l2,l3,l4⟩,⟨d1,d2,d3,d4⟩,nd⟩,Rep.mono v _ rb,Rep.mono v _ rr,Rep.mono v _ rl,v.seq sc,tb.move (B':=λ_=>none) v1 (λ_=>Z _ _) (λ_=>Z _ _) (.head _) (.tail _ (.head _)) rfl rfl,ed,Y _ _ eP,h0.to v λ_=>Y _ _,h1.to v λ_=>Y _ _,h2.to v λ_=>Y _ _⟩
 exact sT (Cr hC lo h8 hl hb j λσ H'=>q H')
end
section
variable{K:MP}{z:Cc}{c b:Int}{Rb:LL}{o my:Bool}{row:List Int}{ur uL uw:V}{ns:List Int}{H:Hp}{q4:Option V}
def Gh{C:Addr}{sa J:Addr}(hC:IsC K C)(pc:KC K z.p)(wc:KC K z.w)(lo:Lo c (sortT Rb))(h8:∀s∈Rb,s.length<=8)(hl:Rb.length<=8)(hb:b=if o=true then 1 else 0)(cd:ns.length<=63)(dO:row.length<=63)(rb:Rep K (ah H [J]) (.lst (Rb.map ofS)) ur)(rr:Rep K (ah H [J]) (ofL row) uw)(rl:Rep K (ah H [J]) (ofR (sortT Rb)) uL)(sc:SqL K (ah H [J]) sa (ns.map V.int))(eH:H J=some (.lst (row.map V.int)))
  {z9 cz cC cL cP cS c0 c1 c2:Option V}{D:gF} (q:∀H',D.rt (.bl true) H') :
  Gb K z C D [some (.ref sa),some (.int c),some ur,some uL,q4,some (.int b),some (.str (ay my)),some uw,some (.ref J),z9,cz,cC,cL,cP,cS,c0,c1,c2] H:=by
 have hh:∀x∈[J],H x≠none:=λx Y=>by
  rw[KW.mp Y,eH];simp
 refine sT (kS (Ao (M:=[J]) (z:=z) (p:=.pl) pc rfl (λ_=>rfl) (by rintro ⟨_,_,h⟩;cases h) (λQ' q'=>⟨_,rfl,q'⟩) λS H1 s1 n0 g0=>?_));have Z:∀x∈[S,J],H1 x≠none:=iY hh s1 g0.here;refine kS (An (M:=[S,J]) (ns:=row) Z (λQ' q'=>⟨_,rfl,q'⟩) (λQ' q'=>⟨_,rfl,q' _ H1 (ae.refl H1) (.inl ⟨J,rfl,SqL.of (s1 _ _ eH)⟩)⟩) λp1 H2 s2 n1 g1=>?_);have ao:∀x∈[p1,S,J],H2 x≠none:=iY Z s2 g1.here;refine kS (Ao (M:=[p1,S,J]) (z:=z) (p:=.we) wc rfl (λ_=>rfl) (by rintro ⟨_,_,h⟩;cases h) (λQ' q'=>⟨_,rfl,q'⟩) λp2 H3 s3 n2 g2=>⟨by show 3<=sizeLine;decide,λU nP=>?_⟩);have ar:∀x∈[p2,p1,S,J],H3 x≠none:=iY ao s3 g2.here;have s4:ae H3 (upd H3 U (.lst [.ref S,.ref p1,.ref p2])):=bE nP _;have eP:(upd H3 U (.lst [.ref S,.ref p1,.ref p2])) U=some (.lst [.ref S,.ref p1,.ref p2]):=ax;generalize upd H3 U (.lst [.ref S,.ref p1,.ref p2])=H4 at s4 eP;have a6:ae H2 H4:=λx u e=>s4 _ _ (s3 _ _ e)
 have bt:ae H1 H4:=λx u e=>a6 _ _ (s2 _ _ e)
 have bP:ae H H4:=λx u e=>bt _ _ (s1 _ _ e)
 have a2:p1≠S/\p1≠J:=⟨λe=>Z S (by simp) (e▸n1),λe=>Z J (by simp) (e▸n1)⟩;have a1:S≠J:=λe=>hh J (by simp) (e▸n0)
 have a3:p2≠p1/\p2≠S/\p2≠J:=⟨λe=>ao p1 (by simp) (e▸n2),λe=>ao S (by simp) (e▸n2),λe=>ao J (by simp) (e▸n2)⟩;have a4:U≠p2/\U≠p1/\U≠S/\U≠J:=⟨λe=>ar p2 (by simp) (e▸nP),λe=>ar p1 (by simp) (e▸nP),λe=>ar S (by simp) (e▸nP),λe=>ar J (by simp) (e▸nP)⟩;have bR:H2 U=none:=s3.free nP;have bT:H1 U=none:=s2.free bR;have dr:H U=none:=s1.free bT;have bW:H1 p2=none:=s2.free n2;have bX:=bP _ _ eH;refine⟨_,rfl,.inl ⟨rfl,_,SqL.of bX⟩,J,row.map V.int,0,.int 1,rfl,rfl,bX,by decide,by omega,by rw[tr];omega,?_⟩;have k5:∀x u,x≠J->H4 x=some u->(upd H4 J (.lst ((row.map V.int).take (0:Int).toNat++V.int 1::(row.map V.int).drop (0:Int).toNat))) x=some u:=λx u n e=>by rw[aA n];exact e
 generalize upd H4 J (.lst ((row.map V.int).take (0:Int).toNat++V.int 1::(row.map V.int).drop (0:Int).toNat))=H5 at k5;have v5:∀{G:Hp}{M:List Addr},ae G H4->J∈M->(∀x∈[U,S,p1,p2],x∈M\/G x=none)->ae (ah G M) (ah H5 [U,S,p1,p2]):=λ{G M} sG hM Y x u e=>by
  have hm:x∉M:=λz=>by rw[dq z]at e;cases e
  rw[aV hm]at e;have hn:x∉[U,S,p1,p2]:=λz=>by
   rcases Y x z with h|h
   .exact hm h
   .rw[h]at e;cases e
  rw[aV hn];exact k5 x u (λz=>hm (z▸hM)) (sG _ _ e)
 have v0:ae (ah H [J]) (ah H5 [U,S,p1,p2]):=v5 bP (by simp) λx Y=>by
  simp only[nW,xm,Ky]at Y;rcases Y with rfl|rfl|rfl|rfl
  .exact .inr dr
  .exact .inr n0
  .exact .inr (s1.free n1)
  .exact .inr (s1.free bW)
 have b0:bp K z [U,S,p1,p2] H5 S (ay my) .pl:=g0.to (v5 bt (by simp) λx Y=>by
  simp only[nW,xm,Ky]at Y;rcases Y with rfl|rfl|rfl|rfl
  .exact .inr bT
  .exact .inl (by simp)
  .exact .inr n1
  .exact .inr bW) λu e=>k5 _ u a1 (bt _ _ e)
 have b1:bp K z [U,S,p1,p2] H5 p1 (ay my) (.ro row 0):=g1.to (v5 a6 (by simp) λx Y=>by
  simp only[nW,xm,Ky]at Y;rcases Y with rfl|rfl|rfl|rfl
  .exact .inr bR
  .exact .inl (by simp)
  .exact .inl (by simp)
  .exact .inr n2) λu e=>k5 _ u a2.2 (a6 _ _ e)
 have b2:bp K z [U,S,p1,p2] H5 p2 (ay my) .we:=g2.to (v5 s4 (by simp) λx Y=>by
  simp only[nW,xm,Ky]at Y;rcases Y with rfl|rfl|rfl|rfl
  .exact .inr nP
  .exact .inl (by simp)
  .exact .inl (by simp)
  .exact .inl (by simp)) λu e=>k5 _ u a3.2.2 (s4 _ _ e)
 have b3:=k5 _ _ a4.2.2.2 eP;refine⟨_,rfl,U,S,p1,p2,ay my,row,0,[U,S,p1,p2],rfl,b3,b0,b1,b2,true,rfl,gZ ⟨_,rfl,_,rfl,_,rfl,_,rfl,sa,ns,c,b,o,Rb,ur,rfl,cd,(a_ _ _).seq (v0.seq sc),Rep.mono (ae.trans v0 (a_ _ _)) _ rb,lo,h8,hl,hb,λH6 s6=>⟨true,rfl,gZ ?_⟩⟩⟩;have v6:ae (ah H [J]) (ah H6 [U,S,p1,p2]):=v0.trans (aj s6);refine Gg hC lo h8 hl hb ?_ (Rep.mono v6 _ rb) (Rep.mono v6 _ rr) (Rep.mono v6 _ rl) (v6.seq sc) (s6 _ _ b3) (b0.mv s6) (b1.mv s6) (b2.mv s6) q;simp only[KP,nW,xm,not_or,Ky,K2,K6,LA];exact⟨⟨a4.2.2.1,a4.2.1,a4.1⟩,⟨Ku a2.1,Ku a3.2.1⟩,Ku a3.1⟩
end
def scL:bQ kH.names ["script"] (af og):=⟨rfl,rfl,rfl,by decide +kernel,rfl,by decide +kernel,by decide +kernel⟩
def Jg (K:MP):Prop:=∃(J CR S fP fR fPp fPs fRp fRs fWp:Addr),uS K J CR S fP fR fPp fPs fRp fRs fWp/\(∃fd,FnD K "__init__" "Player.__init__" bu fP fd/\aG K fd ["self","hand"] [])/\(∃fd,FnD K "__init__" "Rower.__init__" bm fR fd/\aG K fd ["self","hand","row"] []) /\
 (∃fd,FnD K "pick" "Player.pick" cO fPp fd/\aG K fd ["self","table"] [])/\(∃fd,FnD K "sees" "Player.sees" eT fPs fd/\aG K fd ["self","hand","hole"] [])/\(∃fd,FnD K "pick" "Rower.pick" bg fRp fd/\aG K fd ["self","table"] [])/\(∃fd,FnD K "sees" "Rower.sees" cu fRs fd/\aG K fd ["self","hand","hole"] [])/\∃fd,FnD K "pick" "Weigher.pick" bG fWp fd/\aG K fd ["self","table"] []
abbrev HFn(K:MP)(mg:Str->Option Value)(x:Str)(s:Stmt)(ps:List Str):Prop:=∃f fd,mg x=some (.ref f)/\FnD K x x s f fd/\aG K fd ps []
def Au {P:Program}{w:World}{K:MP}{mg:Str->Option Value}{base:Heap}{fa:Addr}{fd:FuncData} (J:ia tab K mg defs) (D:FnD K "law" "law" og fa fd)
  (hO:HFn K mg "play_out" cJ ["table","weaver","moth"]) (hP:HFn K mg "_law_picked" bS ["players","table","due","order"]) (hT:HFn K mg "_law_told" cK ["players","hand","hole"]) (hW:HFn K mg "_law_walked" bU ["count","ribbons","begin","taken","rows","weighs"]) (hY:HFn K mg "_law_played" bV ["script","count","ribbons","begin"]) (hX:HFn K mg "_law_classes" ba ["players"])
  (hK:Jg K) (hm:∀{x:Str}{u:Value},PySem.W.nsIn K mainGlobals x=some (some u)->mg x=some u):bw P w K mg base CX0 40 fa fd ["script"] (sN K):=by
 obtain⟨c0,d0,k0,o0,m0,a0,Y,t1,a1,sl,lk,b0,rfl⟩:=D.it;refine ez lk b0 scL (λvs H Q E h=>?_) (λA outer s H vs Q E hr h=>?_)
 .obtain⟨a,ns,rfl,_⟩:=h
  rfl
 .obtain⟨a,ns,rfl,Z,hS,hq⟩:=h;obtain⟨fO,eh,mO,DO,bO⟩:=hO;obtain⟨fK,ek,mK,DK,bK⟩:=hP;obtain⟨fT,en,mT,DT,bT⟩:=hT;obtain⟨fW,et,mW,DW,bW⟩:=hW;obtain⟨fY,ew,mY,DY,bY⟩:=hY;obtain⟨fX,eL,mX,DX,bX⟩:=hX;obtain⟨CP,CR,CW,fP,fR,fPp,fPs,fRp,fRs,fWp,b1,⟨gP,DP,bP⟩,⟨gR,DR,bR⟩,⟨ff,b2,b3⟩,⟨fi,aL,aP⟩,⟨fl,b4,b5⟩,⟨fp,b6,b7⟩,fr,cd,ck⟩:=hK;obtain⟨z,hz⟩:∃z:Cc,z=⟨CP,CR,CW⟩:=⟨_,rfl⟩;have k:uS K z.p z.r z.w fP fR fPp fPs fRp fRs fWp:=by rw[hz];exact b1
  have mP:=hm k.pn;have mR:=hm k.rn;have mV:=hm k.wn;obtain⟨C,hC,_⟩:=J.ini;have l:Fr (cU CX0 P w K mg base kH.names "law" (af og) fa Y A outer s H E).nox kH.names og 39:=Fr.of J scL hr;have kf:∀n,KFn P w K mg base z (n+5):=λn=>⟨k.pc.cls,k.rc.cls,k.wc.cls,⟨_,_,k.pp,b3,Iw (n:=n+3) J b2⟩,⟨_,_,k.rp,b5,Iy (n:=n+3) J k b4⟩,⟨_,_,k.wp,ck,Ix (n:=n) J cd⟩,⟨_,_,k.ps,aP,Dd (n:=n+4) (by decide) J aL⟩,⟨_,_,k.rs,b7,IA (n:=n+4) J k b6⟩,⟨_,_,k.ws,aP,Dd (n:=n+4) (by decide) J aL⟩⟩
  have pf:PlF P w K mg base z:=⟨mR,mV,k.wc,⟨_,_,k.rm,bR,C_ (n:=35) J k mP DP bP DR⟩,⟨_,_,k.wm,bP,vV (n:=36) J DP⟩,⟨_,_,mO,DO.kp,bO,IT (n:=30) hC J (kf 32) DO⟩,⟨_,_,mW,DW.kp,bW,IM (n:=34) J DW⟩⟩;have lf:Gc P w K mg base z:=⟨mP,mR,mV,⟨_,_,k.pm,bP,vV (n:=37) J DP⟩,⟨_,_,k.rm,bR,C_ (n:=36) J k mP DP bP DR⟩,⟨_,_,k.wm,bP,vV (n:=37) J DP⟩,⟨_,_,mX,DX.kp,bX,IB (n:=38) J k hm DX⟩,⟨_,_,mY,DY.kp,bY,IY J pf DY⟩,⟨_,_,mK,DK.kp,bK,IF (n:=37) J (kf 33) DK⟩,⟨_,_,mT,DT.kp,bT,IH (n:=38) J (kf 33) DT⟩⟩;obtain⟨C,hC,hp⟩:=Jf l lf;have eB:aK og=[L 0,L 1,L 2,L 3,L 4,L 5,L 6,L 7,L 8,L 9,L 10,L 11,L 12,L 13,L 14,L 15]:=rfl;rw[eB];have hp:PSs (cU CX0 P w K mg base kH.names "law" (af og) fa Y A outer s H E).nox [L 0,L 1,L 2,L 3,L 4,L 5,L 6,L 7,L 8,L 9,L 10,L 11,L 12,L 13,L 14,L 15] (tSk K c39 Iu (Gb K z C)):=
   d8 (l.s1 (by kernel_rfl)) (d8 (l.s1 (by kernel_rfl)) (d8 (l.s1 (by kernel_rfl)) (d8 (l.s1 (by kernel_rfl)) (d8 (l.s1 (by kernel_rfl)) (d8 (l.s1 (by kernel_rfl)) (d8 (l.s1 (by kernel_rfl)) (d8 (l.s1 (by kernel_rfl)) (Ae hp))))))))
  refine⟨_,hp.nox,?_⟩;obtain⟨c,b,o,my,Rb,row,z4,lo,h8,hl,hb,a2,eA⟩:=Ch 36 ns Z (replicate 9 none);refine⟨H,[],[],_,_,nL (args:=[.brw (ns.map .int)]) (λa ha=>by cases ha) (.cons ⟨a,_,rfl,hS,Reps.of_ints ns⟩ .nil),eA,λσ H2 O2 S k2=>?_⟩;obtain⟨u1,e1,i1⟩:=S.slot 1 _ rfl;obtain⟨u2,e2,i2⟩:=S.slot 2 _ rfl;obtain⟨u3,e3,i3⟩:=S.slot 3 _ rfl;obtain⟨u5,e5,i5⟩:=S.slot 5 _ rfl;obtain⟨u6,e6,i6⟩:=S.slot 6 _ rfl;obtain⟨u7,e7,i7⟩:=S.slot 7 _ rfl;obtain⟨u8,e8,aH,us,rfl,eH,rH,HO,HB⟩:=S.slot 8 _ rfl;have s0:=(k2.brw 0 _ rfl rfl).2;have i1:Rep K (ah H2 O2) (.int c) u1:=i1;have i5:Rep K (ah H2 O2) (.int b) u5:=i5;have i6:Rep K (ah H2 O2) (.str (ay my)) u6:=i6;rw[Rep]at i1;rw[Rep]at i5;rw[Rep]at i6;subst i1 i5 i6;have cP:=Reps.ints rH;subst cP;have keep:ae H (ah H2 [aH]):=pF S.keep λx hx=>by rw[KW.mp hx];exact HB
  have U:ae (ah H2 O2) (ah H2 [aH]):=aQ (ae.refl H2) λy hy=>by rw[KW.mp hy];exact .inl HO
  have l0:σ.length=17+1:=S.len.symm;obtain⟨x0,r0,rfl,l1⟩:=uncons l0;obtain⟨x1,r1,rfl,l2⟩:=uncons l1;obtain⟨x2,r2,rfl,l3⟩:=uncons l2;obtain⟨x3,r3,rfl,l4⟩:=uncons l3;obtain⟨x4,r4,rfl,l5⟩:=uncons l4;obtain⟨x5,r5,rfl,l6⟩:=uncons l5;obtain⟨x6,r6,rfl,l7⟩:=uncons l6;obtain⟨x7,r7,rfl,l8⟩:=uncons l7;obtain⟨x8,r8,rfl,l9⟩:=uncons l8;obtain⟨x9,r9,rfl,cS⟩:=uncons l9;obtain⟨hj,hk,rfl,c1⟩:=uncons cS;obtain⟨ho,hs,rfl,c2⟩:=uncons c1;obtain⟨hu,hv,rfl,c3⟩:=uncons c2;obtain⟨hA,hB,rfl,c4⟩:=uncons c3;obtain⟨hD,hE,rfl,df⟩:=uncons c4;obtain⟨hF,hG,rfl,dr⟩:=uncons df;obtain⟨hH,hI,rfl,dt⟩:=uncons dr;obtain⟨hJ,hQ,rfl,dv⟩:=uncons dt;obtain rfl:=Lr.mp dv;cases e1;cases e2;cases e3;cases e5;cases e6;cases e7;cases e8;cases s0;exact Gh hC k.pc k.wc lo h8 hl hb Z a2 (Rep.mono U _ i2) (Rep.mono U _ i7) (Rep.mono U _ i3) (keep.seq hS) eH hq
def Cs{K:MP}{H:Hp}{a:Addr}{ns:List Int}{E:XK}(J:ns.length<=63)(S:SqL K H a (ns.map V.int)):sN K [.ref a] H (λv _=>v=.bl true) E:=⟨a,ns,rfl,J,S,λ_=>rfl⟩
end
def Gi {l:PySem.W.OpenLaw}{w:World}{K:MP}{h:Heap}{mg:Str->Option Value}{fa:Addr} (X:K.In h) (G:h.Ns mainGlobals mg) (b7:mg "law"=some (.ref fa))
  {C fI:Addr}{J:FuncData} (aC:PySem.W.nsIn K mainGlobals "Table"=some (some (.ref C))) (pg:PySem.W.plainGet K C Str.empty=true) (hd:PySem.W.hasDictIn K C=true) (po:PySem.W.plainOver K C=true) (sa:PySem.W.findIn K (.ref C) "__setattr__"=some (some (.builtin "object.__setattr__"))) (mk:PySem.W.makesIn K C=true) (kc:PySem.W.keepIn K (.ref C)=true)
  (n0:PySem.W.findIn K (.ref C) "hole_count"=some none) (n1:PySem.W.findIn K (.ref C) "ribbons"=some none) (n2:PySem.W.findIn K (.ref C) "opener"=some none) (n3:PySem.W.findIn K (.ref C) "taken"=some none)
  (ai:PySem.W.findIn K (.ref C) "__init__"=some (some (.ref fI))) (ii:PySem.W.isFn K (.ref fI)=true) (DI:FnD K "__init__" "Table.__init__" Ad fI J) (bI:aG K J ["self","loom","first"] []) (bL:∃vs,aG K J ["self","loom","first"] vs/\aN ([Sc.str "weaver"].map Sc.v) vs)
  (h0:HD K "is_number_below" (top 7) cr) (h1:HD K "strip_without" (top 8) fo) (h2:HD K "knotted" (top 9) lz) (h3:HD K "bitten" (top 10) nR) (h4:HD K "is_whole" (top 11) jv) (h5:HD K "is_bare" (top 12) lA) (h6:HD K "other_hand" (top 14) ib) (h7:HD K "behind" (top 15) nS) (h8:HD K "strip_weight" (top 18) f9) (h9:HD K "pulls" (top 19) qF) (h10:HD K "heaviest" (top 20) jw) (h11:HD K "_law_cell" (top 29) ic) (h12:HD K "_law_mixed" (top 30) iL) (h13:HD K "_law_strip" (top 31) gq) (h14:HD K "_law_whole" (top 32) iM) (h15:HD K "_law_ribbons" (top 33) gw) (h16:HD K "_law_taken_by" (top 34) f_) (h17:HD K "_law_left" (top 35) ie) (h18:HD K "_law_won" (top 36) gY) (h19:HD K "_law_free" (top 37) jx) (h20:HD K "_law_share" (top 38) iN) (h21:HD K "_law_row" (top 39) lC) (h22:HD K "_law_best" (top 40) jy) (h23:HD K "_law_due" (top 42) lD) (h24:HD K "_law_left_behind" (top 44) dY) (h25:HM K C "hand_at" "Table.hand_at" (cF (top 27) 1) cN) (h26:HM K C "turn" "Table.turn" (cF (top 27) 3) ik) (h27:HM K C "deeds" "Table.deeds" (cF (top 27) 4) gz) (h28:HM K C "free" "Table.free" (cF (top 27) 7) il) (h29:HM K C "rest" "Table.rest" (cF (top 27) 8) fA) (h30:HM K C "winner" "Table.winner" (cF (top 27) 9) cE) (h31:HM K C "take" "Table.take" (cF (top 27) 10) fB) (hL:HD K "law" (top 48) kH λfd=>∀(s:Shared) (v:Value),BindsTo s fd ⟨[v],[]⟩ [("script",v)]) (hH0:HD K "play_out" (top 25) eM) (hH1:HD K "_law_picked" (top 41) c8) (hH2:HD K "_law_told" (top 43) eN) (hH3:HD K "_law_walked" (top 45) c9) (hH4:HD K "_law_played" (top 46) c_) (hH5:HD K "_law_classes" (top 47) bD) (hK:Jg K)
  (zs:∀x∈km,PySem.W.nsIn K mainGlobals x=some none)
  {S:Value} (g0:PySem.W.nsIn K mainGlobals "UNIT"=some (some S)) (r0:aF (toV (.int 1152921504606846976)) S)
 :∃fd:FuncData,(∀(s:Shared) (v:Value),BindsTo s fd ⟨[v],[]⟩ [("script",v)])/\∀base:Heap,K.In base->base.Ns mainGlobals mg->bw l.prog w K mg base CX0 40 fa fd ["script"] (sN K):=by
 obtain⟨_,e0,D0,q0⟩:=bJ (T:=tab) X G h0 (by kernel_rfl);obtain⟨_,e1,D1,q1⟩:=bJ (T:=tab) X G h1 (by kernel_rfl);obtain⟨_,e2,D2,q2⟩:=bJ (T:=tab) X G h2 (by kernel_rfl);obtain⟨_,e3,D3,q3⟩:=bJ (T:=tab) X G h3 (by kernel_rfl);obtain⟨_,e4,D4,q4⟩:=bJ (T:=tab) X G h4 (by kernel_rfl);obtain⟨_,e5,D5,q5⟩:=bJ (T:=tab) X G h5 (by kernel_rfl);obtain⟨_,e6,D6,q6⟩:=bJ (T:=tab) X G h6 (by kernel_rfl);obtain⟨_,e7,D7,q7⟩:=bJ (T:=tab) X G h7 (by kernel_rfl);obtain⟨_,e8,D8,q8⟩:=bJ (T:=tab) X G h8 (by kernel_rfl);obtain⟨_,e9,D9,q9⟩:=bJ (T:=tab) X G h9 (by kernel_rfl);obtain⟨_,em,U,en⟩:=bJ (T:=tab) X G h10 (by kernel_rfl);obtain⟨_,eo,Y,er⟩:=bJ (T:=tab) X G h11 (by kernel_rfl);obtain⟨_,et,Z,eu⟩:=bJ (T:=tab) X G h12 (by kernel_rfl);obtain⟨_,ew,ao,ey⟩:=bJ (T:=tab) X G h13 (by kernel_rfl);obtain⟨_,eA,ar,eB⟩:=bJ (T:=tab) X G h14 (by kernel_rfl);obtain⟨_,eC,aH,eH⟩:=bJ (T:=tab) X G h15 (by kernel_rfl);obtain⟨_,eL,aP,fe⟩:=bJ (T:=tab) X G h16 (by kernel_rfl);obtain⟨_,ff,a0,fi⟩:=bJ (T:=tab) X G h17 (by kernel_rfl);obtain⟨_,fl,a1,fp⟩:=bJ (T:=tab) X G h18 (by kernel_rfl);obtain⟨_,fr,a2,fv⟩:=bJ (T:=tab) X G h19 (by kernel_rfl);obtain⟨_,fx,a3,fy⟩:=bJ (T:=tab) X G h20 (by kernel_rfl);obtain⟨_,fK,a4,fO⟩:=bJ (T:=tab) X G h21 (by kernel_rfl);obtain⟨_,fT,a5,fW⟩:=bJ (T:=tab) X G h22 (by kernel_rfl);obtain⟨_,fX,a6,fY⟩:=bJ (T:=tab) X G h23 (by kernel_rfl);obtain⟨_,f0,bt,f1⟩:=bJ (T:=tab) X G h24 (by kernel_rfl);obtain⟨_,f2,bK⟩:=h_ (T:=tab) (mg:=mg) aC h25 (by kernel_rfl);obtain⟨_,f3,bO⟩:=h_ (T:=tab) (mg:=mg) aC h26 (by kernel_rfl);obtain⟨_,f4,bP⟩:=h_ (T:=tab) (mg:=mg) aC h27 (by kernel_rfl);obtain⟨_,f5,bR⟩:=h_ (T:=tab) (mg:=mg) aC h28 (by kernel_rfl);obtain⟨_,gg,bT⟩:=h_ (T:=tab) (mg:=mg) aC h29 (by kernel_rfl);obtain⟨_,gl,bW⟩:=h_ (T:=tab) (mg:=mg) aC h30 (by kernel_rfl);obtain⟨_,gx,bX⟩:=h_ (T:=tab) (mg:=mg) aC h31 (by kernel_rfl);obtain⟨_,fL,cd,aL,DL,_,qL⟩:=hL;cases b7.symm.trans (PySem.W.mg_of X G aL);obtain⟨_,ck,bY,cz,cC,cL,_⟩:=hH0;obtain⟨_,cP,b0,cS,c0,c1,_⟩:=hH1;obtain⟨_,c2,b1,c3,c4,df,_⟩:=hH2;obtain⟨_,dr,b2,dt,dv,dB,_⟩:=hH3;obtain⟨_,dO,b3,dP,dR,dV,_⟩:=hH4;obtain⟨_,dW,b4,d1,d2,d3,_⟩:=hH5;have pr:ia tab K mg defs:=by
  refine⟨rfl,rfl,λC' h'=>Ft aC ⟨⟨pg,hd,po,sa⟩,λx hx=>CV n0 n1 n2 x hx,n3⟩ h',⟨C,aC,PySem.W.mg_of X G aC,fI,J,_,⟨mk,ai,ii,kc⟩,bI,λP w base=>Ci DI ⟨⟨pg,hd,po,sa⟩,λx hx=>CV n0 n1 n2 x hx,n3⟩,bL⟩,⟨⟨_,_,_,D0,_,D0.binds,.nil⟩,⟨_,_,_,D1,_,D1.binds,.nil⟩,⟨_,_,_,D2,_,D2.binds,.nil⟩,⟨_,_,_,D3,_,D3.binds,.nil⟩,⟨_,_,_,D4,_,D4.binds,.nil⟩,⟨_,_,_,D5,_,D5.binds,.nil⟩,⟨_,_,_,D6,_,D6.binds,.nil⟩,⟨_,_,_,D7,_,D7.binds,.nil⟩,⟨_,_,_,D8,_,D8.binds,.nil⟩,⟨_,_,_,D9,_,D9.binds,.nil⟩,⟨_,_,_,U,_,U.binds,.nil⟩,⟨_,_,_,Y,_,Y.binds,.nil⟩,⟨_,_,_,Z,_,Z.binds,.nil⟩,⟨_,_,_,ao,_,ao.binds,.nil⟩,⟨_,_,_,ar,_,ar.binds,.nil⟩,⟨_,_,_,aH,_,aH.binds,.nil⟩,⟨_,_,_,aP,_,aP.binds,.nil⟩,⟨_,_,_,a0,_,a0.binds,.nil⟩,⟨_,_,_,a1,_,a1.binds,.nil⟩,⟨_,_,_,a2,_,a2.binds,.nil⟩,⟨_,_,_,a3,_,a3.binds,.nil⟩,⟨_,_,_,a4,_,a4.binds,.nil⟩,⟨_,_,_,a5,_,a5.binds,.nil⟩,⟨_,_,_,a6,_,a6.binds,.nil⟩,⟨_,_,_,bt,_,bt.binds,.nil⟩,⟨_,_,_,bK,_,bK.binds,.nil⟩,⟨_,_,_,bO,_,bO.binds,.nil⟩,⟨_,_,_,bP,_,bP.binds,.nil⟩,⟨_,_,_,bR,_,bR.binds,.nil⟩,⟨_,_,_,bT,_,bT.binds,.nil⟩,⟨_,_,_,bW,_,bW.binds,.nil⟩,⟨_,_,_,bX,_,bX.binds,.nil⟩,trivial⟩,λx hx=>PySem.W.mg_none_of X G (zs x hx),λp hp=>?_⟩
  .simp only[tab,nW,xm,Ky]at hp;rcases hp with rfl
   .exact⟨_,PySem.W.mg_of X G g0,r0⟩
 exact⟨cd,qL,λbase _ _=>Au pr DL ⟨ck,bY,PySem.W.mg_of X G cz,cC,cL⟩ ⟨cP,b0,PySem.W.mg_of X G cS,c0,c1⟩ ⟨c2,b1,PySem.W.mg_of X G c3,c4,df⟩ ⟨dr,b2,PySem.W.mg_of X G dt,dv,dB⟩ ⟨dO,b3,PySem.W.mg_of X G dP,dR,dV⟩ ⟨dW,b4,PySem.W.mg_of X G d1,d2,d3⟩ hK (PySem.W.mg_of X G)⟩
def Km{l:PySem.W.OpenLaw}{q:Program}{J:List Str}{Z:(Str->Option Value)->Heap->Prop}{U:World->Heap->Prop}{d:DefRec}{K:Params->MP}(hn:l.most=some 63)(S:d.params.defaults=[])
  (hY:∀(w:World) (h:Heap),U w h->(K w.params).In h)
  (F:∀(w:World) (mg:Str->Option Value) (Y:Addr) (h:Heap),(K w.params).In h->h.Ns mainGlobals mg->mg d.name=some (.ref Y) ->
   ∃fd:FuncData,(∀(s:Shared) (u:Value),BindsTo s fd ⟨[u],[]⟩ [("script",u)])/\∀base:Heap,(K w.params).In base->base.Ns mainGlobals mg->bw l.prog w (K w.params) mg base CX0 40 Y fd ["script"] (sN (K w.params))) :
  PySem.W.WalkO q J Z U l.row.toRowW d [] (λf vs=>PySem.call f vs):=
 L2.A2 (n:=63) (k:=40) (x:="script") (CX:=λ_=>CX0) (sp:=λw=>sN (K w.params)) hn (by decide) S ⟨rfl,by decide,by decide⟩ hY F (λ_ _ a ns hl _ hS=>Cs hl hS) λ_ _ _ _ _ z=>z
end My
open PySem PySem.W PyProof.Rows List Option
set_option maxRecDepth 100000 in
set_option maxHeartbeats 0 in
theorem PySem.Challenge.cw_mothloom_k48_plain_rower_weigher_holds : PySem.Challenge.rw_mothloom_k48_plain_rower_weigher.Holds := by
 w_on;o_law;k_head;(case hw=>w_witness2)
 k_fill
 refine My.Km (l:=PySem.Challenge.rw_mothloom_k48_plain_rower_weigher) rfl rfl (λw h Y=>PySem.W.kIn_of Y) ?F
 case F =>
  intro w mg fa h KX G hmg
  refine' My.Gi KX G hmg ?aC ?pg ?hd ?po ?sa ?mk ?kc ?n0 ?n1 ?n2 ?n3 ?ai ?ii ?DI ?bI ?bL ?h0 ?h1 ?h2 ?h3 ?h4 ?h5 ?h6 ?h7 ?h8 ?h9 ?h10 ?h11 ?h12 ?h13 ?h14 ?h15 ?h16 ?h17 ?h18 ?h19 ?h20 ?h21 ?h22 ?h23 ?h24 ?h25 ?h26 ?h27 ?h28 ?h29 ?h30 ?h31 ?hL ?hH0 ?hH1 ?hH2 ?hH3 ?hH4 ?hH5 ?hK ?zs ?gq0 ?rq0
  (case aC=>k_is)
  (case pg=>k_is)
  (case hd=>k_is)
  (case po=>k_is)
  (case sa=>k_is)
  (case mk=>k_is)
  (case kc=>k_is)
  (case n0=>k_is)
  (case n1=>k_is)
  (case n2=>k_is)
  (case n3=>k_is)
  (case ai=>k_is)
  (case ii=>k_is)
  (case DI=>refine' .mkd ?kl ?kc ?kk;(case kl=>k_is);(case kc=>k_is);(case kk=>k_is))
  (case bI=>refine' MM.uD rfl ?kx ?ky;(case kx=>k_is);(case ky=>exact λus hl=>match us,hl with|[_,_,_],_=>⟨_,rfl,rfl⟩))
  (case bL=>refine' MM.BP rfl ?ku ?kw;(case ku=>k_is);(case kw=>exact λus hl=>match us,hl with|[_,_],_=>⟨_,rfl,rfl⟩))
  (case hL=>refine' ⟨rfl,_,_,?ka,.mk' (d0:=.none) ?kl ?kc ?kk,MM.bn1 λ_=>rfl,λs v=>.of_eq rfl⟩;(case ka=>k_is);(case kl=>k_is);(case kc=>k_is);(case kk=>k_is))
  (case hH0=>refine' ⟨rfl,_,_,?ka,.mk' (d0:=.none) ?kl ?kc ?kk,MM.bn3 λ_ _ _=>rfl,trivial⟩;(case ka=>k_is);(case kl=>k_is);(case kc=>k_is);(case kk=>k_is))
  (case hH1=>refine' ⟨rfl,_,_,?ka,.mk' (d0:=.none) ?kl ?kc ?kk,MM.bn4 λ_ _ _ _=>rfl,trivial⟩;(case ka=>k_is);(case kl=>k_is);(case kc=>k_is);(case kk=>k_is))
  (case hH2=>refine' ⟨rfl,_,_,?ka,.mk' (d0:=.none) ?kl ?kc ?kk,MM.bn3 λ_ _ _=>rfl,trivial⟩;(case ka=>k_is);(case kl=>k_is);(case kc=>k_is);(case kk=>k_is))
  (case hH3=>refine' ⟨rfl,_,_,?ka,.mk' (d0:=.none) ?kl ?kc ?kk,MM.bn6 λ_ _ _ _ _ _=>rfl,trivial⟩;(case ka=>k_is);(case kl=>k_is);(case kc=>k_is);(case kk=>k_is))
  (case hH4=>refine' ⟨rfl,_,_,?ka,.mk' (d0:=.none) ?kl ?kc ?kk,MM.bn4 λ_ _ _ _=>rfl,trivial⟩;(case ka=>k_is);(case kl=>k_is);(case kc=>k_is);(case kk=>k_is))
  (case hH5=>refine' ⟨rfl,_,_,?ka,.mk' (d0:=.none) ?kl ?kc ?kk,MM.bn1 λ_=>rfl,trivial⟩;(case ka=>k_is);(case kl=>k_is);(case kc=>k_is);(case kk=>k_is))
  (case hK =>
   refine' ⟨_,_,_,_,_,_,_,_,_,_,⟨?v1,?v2,?v3,⟨?v4,?v5,?v6,?v7⟩,⟨⟨?v8,?v9,?v10,?v11⟩,?v12,?v13,?v14⟩,⟨⟨?v15,?v16,?v17,?v18⟩,?v19,?v20,?v21⟩,⟨⟨?v22,?v23,?v24,?v25⟩,?v26,?v27,?v28⟩,⟨?v29,?v30,?v31,?v32⟩,⟨?v33,?v34,?v35,?v36⟩,⟨?v37,?v38,?v39,?v40⟩,?v41,?v42,⟨?v43,?v44,?v45⟩,⟨?v46,?v47,?v48⟩,⟨?v49,?v50,?v51⟩,⟨?v52,?v53,?v54⟩,⟨?v55,?v56,?v57⟩,⟨?v58,?v59,?v60⟩,?v61,?v62,?v63,?v64,?v65,?v66⟩,⟨_,.mk' (d0:=.none) ?v67 ?v68 ?v69,MM.bn2 λ_ _=>rfl⟩,⟨_,.mk' (d0:=.none) ?v76 ?v77 ?v78,MM.bn3 λ_ _ _=>rfl⟩,⟨_,.mk' (d0:=.none) ?v70 ?v71 ?v72,MM.bn2 λ_ _=>rfl⟩,⟨_,.mk' (d0:=.none) ?v73 ?v74 ?v75,MM.bn3 λ_ _ _=>rfl⟩,⟨_,.mk' (d0:=.none) ?v79 ?v80 ?v81,MM.bn2 λ_ _=>rfl⟩,⟨_,.mk' (d0:=.none) ?v82 ?v83 ?v84,MM.bn3 λ_ _ _=>rfl⟩,⟨_,.mk' (d0:=.none) ?v85 ?v86 ?v87,MM.bn2 λ_ _=>rfl⟩⟩
   (case v1=>k_is)
   (case v2=>k_is)
   (case v3=>k_is)
   (case v4=>k_is)
   (case v5=>k_is)
   (case v6=>k_is)
   (case v7=>k_is)
   (case v8=>k_is)
   (case v9=>k_is)
   (case v10=>k_is)
   (case v11=>k_is)
   (case v12=>unfold L2.cA;k_is)
   (case v13=>k_is)
   (case v14=>k_is)
   (case v15=>k_is)
   (case v16=>k_is)
   (case v17=>k_is)
   (case v18=>k_is)
   (case v19=>unfold L2.cA;k_is)
   (case v20=>k_is)
   (case v21=>k_is)
   (case v22=>k_is)
   (case v23=>k_is)
   (case v24=>k_is)
   (case v25=>k_is)
   (case v26=>unfold L2.cA;k_is)
   (case v27=>k_is)
   (case v28=>k_is)
   (case v29=>k_is)
   (case v30=>k_is)
   (case v31=>k_is)
   (case v32=>k_is)
   (case v33=>k_is)
   (case v34=>k_is)
   (case v35=>k_is)
   (case v36=>k_is)
   (case v37=>k_is)
   (case v38=>k_is)
   (case v39=>k_is)
   (case v40=>k_is)
   (case v41=>unfold L2.cA;k_is)
   (case v42=>unfold L2.cA;k_is)
   (case v43=>k_is)
   (case v44=>k_is)
   (case v45=>k_is)
   (case v46=>k_is)
   (case v47=>k_is)
   (case v48=>k_is)
   (case v49=>k_is)
   (case v50=>k_is)
   (case v51=>k_is)
   (case v52=>k_is)
   (case v53=>k_is)
   (case v54=>k_is)
   (case v55=>k_is)
   (case v56=>k_is)
   (case v57=>k_is)
   (case v58=>k_is)
   (case v59=>k_is)
   (case v60=>k_is)
   (case v61=>k_is)
   (case v62=>k_is)
   (case v63=>kit_is)
   (case v64=>kit_is)
   (case v65=>kit_is)
   (case v66=>kit_is)
   (case v67=>k_is)
   (case v68=>k_is)
   (case v69=>k_is)
   (case v70=>k_is)
   (case v71=>k_is)
   (case v72=>k_is)
   (case v73=>k_is)
   (case v74=>k_is)
   (case v75=>k_is)
   (case v76=>k_is)
   (case v77=>k_is)
   (case v78=>k_is)
   (case v79=>k_is)
   (case v80=>k_is)
   (case v81=>k_is)
   (case v82=>k_is)
   (case v83=>k_is)
   (case v84=>k_is)
   (case v85=>k_is)
   (case v86=>k_is)
   (case v87=>k_is))
  (case h0|h1|h2|h3|h11|h12|h15|h16|h19=>refine' ⟨rfl,_,_,?ka,.mk' (d0:=.none) ?kl ?kc ?kk,MM.bn2 λ_ _=>rfl,trivial⟩;(case ka=>k_is);(case kl=>k_is);(case kc=>k_is);(case kk=>k_is))
  (case h4|h5|h6|h8|h9|h10|h14|h18|h20|h21|h22=>refine' ⟨rfl,_,_,?ka,.mk' (d0:=.none) ?kl ?kc ?kk,MM.bn1 λ_=>rfl,trivial⟩;(case ka=>k_is);(case kl=>k_is);(case kc=>k_is);(case kk=>k_is))
  (case h7|h13|h17|h24=>refine' ⟨rfl,_,_,?ka,.mk' (d0:=.none) ?kl ?kc ?kk,MM.bn3 λ_ _ _=>rfl,trivial⟩;(case ka=>k_is);(case kl=>k_is);(case kc=>k_is);(case kk=>k_is))
  (case h23=>refine' ⟨rfl,_,_,?ka,.mk' (d0:=.none) ?kl ?kc ?kk,MM.bn4 λ_ _ _ _=>rfl,trivial⟩;(case ka=>k_is);(case kl=>k_is);(case kc=>k_is);(case kk=>k_is))
  (case h25=>refine' ⟨rfl,rfl,_,_,⟨?ka,?ki,?ku⟩,.mk' (d0:=.none) ?kl ?kc ?kk,MM.bn2 λ_ _=>rfl⟩;(case ka=>k_is);(case ki=>k_is);(case ku=>k_is);(case kl=>k_is);(case kc=>k_is);(case kk=>k_is))
  (case h26=>refine' ⟨rfl,rfl,_,_,⟨?ka,?ki,?ku⟩,.mk' (d0:=.none) ?kl ?kc ?kk,MM.bn1 λ_=>rfl⟩;(case ka=>k_is);(case ki=>k_is);(case ku=>k_is);(case kl=>k_is);(case kc=>k_is);(case kk=>k_is))
  (case h27=>refine' ⟨rfl,rfl,_,_,⟨?ka,?ki,?ku⟩,.mk' (d0:=.none) ?kl ?kc ?kk,MM.bn1 λ_=>rfl⟩;(case ka=>k_is);(case ki=>k_is);(case ku=>k_is);(case kl=>k_is);(case kc=>k_is);(case kk=>k_is))
  (case h28=>refine' ⟨rfl,rfl,_,_,⟨?ka,?ki,?ku⟩,.mk' (d0:=.none) ?kl ?kc ?kk,MM.bn1 λ_=>rfl⟩;(case ka=>k_is);(case ki=>k_is);(case ku=>k_is);(case kl=>k_is);(case kc=>k_is);(case kk=>k_is))
  (case h29=>refine' ⟨rfl,rfl,_,_,⟨?ka,?ki,?ku⟩,.mk' (d0:=.none) ?kl ?kc ?kk,MM.bn1 λ_=>rfl⟩;(case ka=>k_is);(case ki=>k_is);(case ku=>k_is);(case kl=>k_is);(case kc=>k_is);(case kk=>k_is))
  (case h30=>refine' ⟨rfl,rfl,_,_,⟨?ka,?ki,?ku⟩,.mk' (d0:=.none) ?kl ?kc ?kk,MM.bn1 λ_=>rfl⟩;(case ka=>k_is);(case ki=>k_is);(case ku=>k_is);(case kl=>k_is);(case kc=>k_is);(case kk=>k_is))
  (case h31=>refine' ⟨rfl,rfl,_,_,⟨?ka,?ki,?ku⟩,.mk' (d0:=.none) ?kl ?kc ?kk,MM.bn2 λ_ _=>rfl⟩;(case ka=>k_is);(case ki=>k_is);(case ku=>k_is);(case kl=>k_is);(case kc=>k_is);(case kk=>k_is))
  (case zs=>intro x hx;simp only[MM.km,nW,xm,Ky]at hx;rcases hx with rfl|rfl|rfl|rfl|rfl|rfl|rfl|rfl|rfl|rfl|rfl|rfl|rfl|rfl|rfl|rfl|rfl<;>k_is)
  (case gq0=>k_is);(case rq0=>exact⟨_,rfl⟩)
