import PyProof.Rows.All
import Wide.All
import OpenK.AllK
import Wide.FinOn
import Lean
import PyProof.EqAt
import PyProof.EqKinds
import PyProof.TupleCall
import PySem.Challenge.RW_mothloom_k29_parts
set_option Elab.async false
set_option linter.all false
set_option maxRecDepth 100000
set_option maxHeartbeats 1500000
set_option genSizeOf false
set_option backward.eqns.nonrecursive false
set_option bootstrap.genMatcherCode false
def gf:=@PySem.wpAny_bind
def oe:=@PySem.wpAny_pure
def ox:=@PySem.Heap.get?_push_of_some
def rp:=@Option.bind_eq_some_iff
def tf:=@Bool.false_ne_true
def tr:=@Bool.and_eq_true
def y4:=@Nat.le_refl
def B1:=@List.size_toArray
def IC:=@List.length_map
def ID:=@Option.some.injEq
def IE:=@PyProof.Rows.wpS_bind
def IF:=@List.getElem?_eq_getElem
def IG:=@PySem.Heap.lt_size
def IH:=@PySem.Heap.get?_push_size
def II:=@List.getElem?_eq_some_iff
def IJ:=@PyProof.Rows.wpS_pure
def IK:=@Nat.lt_of_lt_of_le
def IL:=@Option.map_eq_some_iff
def IM:=@List.mem_cons
def IP:=@Nat.ne_of_lt
def IQ:=@Nat.le_trans
def IS:=@beq_iff_eq
def IT:=@Option.some.inj
def IU:=@Bool.false_eq_true
def IV:=@List.getElem?_set_ne
def IW:=@Bool.and_eq_true_iff
def IX:=@List.length_append
def IY:=@Nat.zero_le
def IZ:=@List.map_map
def I0:=@decide_eq_true
def Ja:=@PySem.wpAny_loadPart'
def Jb:=@List.getElem?_map
def Jc:=@List.map_cons
def Jd:=@List.mem_singleton
def Je:=@PySem.wpAny_setState_of
def Jf:=@PySem.Heap.size_push
def Jg:=@Array.size_extract
def Jh:=@PySem.wpAny_call_entry
def Ji:=@List.nodup_cons
def Jj:=@PySem.wpAny_holding
def Jk:=@Nat.lt_succ_of_lt
def Jl:=@Nat.lt_of_le_of_lt
def Jm:=@Int.emod_lt_of_pos
def Jn:=@PySem.wpAny_mono
def Jo:=@List.map_append
def Jp:=@Bool.eq_iff_iff
def Jq:=@List.getElem?_set_self
def Jr:=@Bool.not_eq_true'
def Js:=@PyProof.Rows.wpS_forRange
def Jt:=@decide_eq_false
def Ju:=@Array.getElem?_toList
def Jv:=@Int.emod_nonneg
def Jw:=@PySem.sizeLine_eq
def Jx:=@PySem.Heap.SameBut.update
def Jy:=@Nat.lt_irrefl
def Jz:=@Nat.le_of_lt
def JA:=@List.mem_of_getElem?
def JB:=@PySem.wpAny_newObj_type
def JC:=@PyProof.Rows.slot_tuple_getitem
def JD:=@congrArg
def JE:=@PySem.wpAny_callSpecial?_slot
def JF:=@Ne.symm
def JG:=@List.mem_cons_of_mem
def JH:=@Nat.add_right_comm
def JI:=@PySem.wpAny_ite_split
def JJ:=@List.length_eq_zero_iff
def JK:=@PySem.Heap.get?_update_other
def JL:=@List.any_eq_true
def JM:=@List.mem_append
def JN:=@PySem.Heap.get?_update_self
def JO:=@Nat.le_antisymm
def JP:=@decide_eq_true_iff
def JQ:=@List.mem_filter
def JR:=@List.mem_append_right
def JS:=@if_false
def JT:=@PySem.wpAny_rule
def JU:=@of_decide_eq_true
def JV:=@Array.size_append
def JW:=@List.length_set
def JX:=@Nat.not_lt
def JY:=@PyProof.Rows.wpS_mono
def JZ:=@PySem.wpAny_truthy_bool
def J0:=@Nat.le_of_succ_le
def J1:=@Nat.le_of_lt_succ
def J2:=@PyProof.Rows.callWith_type1
def J3:=@PyProof.Rows.KeyOrd.kle_refl
def J4:=@Nat.ne_of_gt
def J5:=@List.getElem_mem
def J6:=@List.mem_cons_self
def J7:=@Nat.le_add_right
def J8:=@List.all_eq_true
def J9:=@PySem.wpAny_isInstance
def Ka:=@List.getElem?_append_right
def Kb:=@Nat.le_succ
def Kc:=@List.not_mem_nil
def Kd:=@List.getElem?_append_left
def Ke:=@Array.size_push
def Kf:=@Nat.zero_add
def Kg:=@PySem.fits_of_scanBound
def Kh:=@Nat.exists_eq_add_of_lt
def Ki:=@beq_eq_false_iff_ne
def Kj:=@Nat.le_of_succ_le_succ
def Kk:=@List.append_assoc
def Kl:=@Nat.le_of_eq
def Km:=@Array.getD_eq_getD_getElem?
def Kn:=@Nat.lt_of_le_of_ne
def Ko:=@PySem.wpAny_setField_rec
def Kp:=@Nat.min_eq_left
def Kq:=@List.perm_ext_iff_of_nodup
def Kr:=@bne_self_eq_false
def Ks:=@PySem.Heap.SameBut.refl
def Kt:=@PySem.wpAny_storeSet_of
def Ku:=@PySem.wpAny_setEpoch_of
def Kv:=@PySem.wpAny_collect_seq
def Kw:=@List.find?_cons_of_neg
def Kx:=@Nat.sub_le
def Ky:=@Array.getElem?_eq_getElem
def Kz:=@List.mem_or_eq_of_mem_set
def KA:=@List.map_congr_left
def KC:=@Nat.lt_trans
def KD:=@beq_self_eq_true
def KG:=@Nat.lt_succ_self
def KH:=@PySem.tupleKind_room_in1
def KI:=@List.nodup_nil
def KJ:=@Nat.add_sub_cancel
def KL:=@List.length_take
def KN:=@PySem.richCompare_meets_room
def KP:=@Nat.lt_of_succ_lt_succ
def KQ:=@Array.getElem?_eq_none
def KR:=@or_false
def KS:=@PySem.wpAny_pyIter_list
def KU:=@PyProof.Rows.KeyOrd.kle_of_klt
def KW:=@decide_eq_true_eq
def KY:=@List.length_eq_one_iff
def KZ:=@PySem.codeAny_mono
def K0:=@Array.size_map
def K1:=@List.length_eraseIdx_of_lt
def K2:=@List.getD_eq_getElem?_getD
def K3:=@List.length_range
def K4:=@PySem.call_meets
def K5:=@PyProof.Rows.KeyOrd.kle_trans
def K6:=@Nat.le_sub_one_of_lt
def K7:=@Array.perm_iff_toList_perm
def K8:=@PySem.wpAny_attempt
def K9:=@Bool.not_true
def La:=@List.mem_flatten
def Lb:=@List.filterMap_cons_some
def Lc:=@PySem.wpAny_passesOwn
def Ld:=@Nat.le_add_left
def Le:=@PySem.W.KasT.kasWp_bind
def Lf:=@PySem.Calls.call_function_entry
def Lg:=@Nat.min_le_left
def Lh:=@PySem.wpAny_pyIter_tuple
def Li:=@PySem.wpAny_Call_Name_kw
def Lj:=@PySem.AutoSeq1.sub_tuple_tuple
def Lk:=@PySem.wpAny_typeOf
def Ll:=@List.filter_cons_of_neg
def Lm:=@List.nodup_append
def Ln:=@List.eq_nil_of_length_eq_zero
def Lo:=@Bool.false_and
def Lp:=@List.append_nil
def Lq:=@List.getElem_of_mem
def Lr:=@List.filter_eq_self
def Ls:=@PyProof.Rows.wpS_modify
def Lu:=@Nat.lt_trichotomy
def Lv:=@List.find?_cons_of_pos
def Lw:=@PySem.Calls.callWith_builtin
def Lx:=@LawfulMonad.bind_assoc
def Ly:=@List.map_flatten
def Lz:=@List.pairwise_cons
def LA:=@PyProof.Rows.listUpdate_at
def LB:=@PySem.wpAny_newList
def LC:=@List.find?_eq_none
def LD:=@Nat.le_of_not_lt
def LF:=@PySem.codeAny_builtin
def LG:=@PySem.Around.under_plainId
def LH:=@PySem.wpAny_updateSeq
def LI:=@List.mem_of_find?_eq_some
def LJ:=@Nat.add_sub_cancel'
def LK:=@PySem.wpAny_setEntries_of
def LM:=@List.filterMap_cons_none
def LN:=@PySem.wpAny_fieldsOf
def LO:=@PyProof.Rows.wpS_lift
def LP:=@Option.map_map
def LQ:=@List.length_flatten
def LR:=@PyProof.Rows.seqEpoch_at
def LS:=@PySem.wpAny_of_eq
def LU:=@List.isEmpty_iff
def LV:=@List.mem_range
def LW:=@PySem.Calls.spliced_cons
def LX:=@List.getElem?_replicate
def LY:=@of_decide_eq_false
def LZ:=@Nat.lt_or_eq_of_le
def L0:=@PySem.wpAny_forIn_array'
def L1:=@Array.size_reverse
def L3:=@Int.fdiv_eq_ediv_of_nonneg
def L4:=@Array.getElem?_append_left
def L5:=@PySem.plainId_quiet
def L6:=@Bool.true_and
def L7:=@PySem.Value.isInt_shape
def L8:=@Nat.lt_succ_of_le
def L9:=@List.take_of_length_le
def Ma:=@PySem.wpAny_pyIter_slot
def Mb:=@Int.not_le
def Mc:=@Nat.sub_lt
def Md:=@PySem.intKind_is
def Me:=@List.length_replicate
def Mf:=@PySem.concat_meets
def Mi:=@PySem.noFill_tuple_add
def Mj:=@Nat.lt_asymm
def Mk:=@List.ext_getElem?
def Ml:=@map_eq_pure_bind
def Mm:=@List.all_map
def Mn:=@List.perm_append_comm
def Mo:=@PySem.wpAny_askSetting
def Mp:=@Array.size_setIfInBounds
def Mq:=@decide_eq_decide
def Mr:=@List.getElem?_reverse
def Ms:=@Bool.or_eq_true
def Mt:=@List.mem_reverse
def Mu:=@Bool.and_false
def Mv:=@Nat.mod_lt
def Mw:=@Nat.add_assoc
abbrev Mx:=PySem.W.Frag
def bf{P:Prop}(h:∀Q:Prop,(P->Q)->Q):P:=h P id
def qy{P Q:Prop}{Z:Prop}(h:P/\Q)(k:P->Q->Z):Z:=k h.1 h.2
def eT{P Q R:Prop}{Z:Prop}(h:P/\Q/\R)(k:P->Q->R->Z):Z:=k h.1 h.2.1 h.2.2
def fW{P Q R S:Prop}{Z:Prop}(h:P/\Q/\R/\S)(k:P->Q->R->S->Z):Z:=k h.1 h.2.1 h.2.2.1 h.2.2.2
def wC{P Q R S T:Prop}{Z:Prop}(h:P/\Q/\R/\S/\T)(k:P->Q->R->S->T->Z):Z:=k h.1 h.2.1 h.2.2.1 h.2.2.2.1 h.2.2.2.2
def i9{P Q R S T U:Prop}{Z:Prop}(h:P/\Q/\R/\S/\T/\U)(k:P->Q->R->S->T->U->Z):Z:=k h.1 h.2.1 h.2.2.1 h.2.2.2.1 h.2.2.2.2.1 h.2.2.2.2.2
def Fb{P Q R S T U V:Prop}{Z:Prop}(h:P/\Q/\R/\S/\T/\U/\V)(k:P->Q->R->S->T->U->V->Z):Z:=k h.1 h.2.1 h.2.2.1 h.2.2.2.1 h.2.2.2.2.1 h.2.2.2.2.2.1 h.2.2.2.2.2.2
def Fc{P:A->Prop}{Z:Prop}(h:∃a,P a)(k:∀a,P a->Z):Z:=h.elim λa h=>k a h
def ae{P Q:A->Prop}{Z:Prop}(h:∃a,P a/\Q a)(k:∀a,P a->Q a->Z):Z:=h.elim λa h=>k a h.1 h.2
def aQ{P Q R:A->Prop}{Z:Prop}(h:∃a,P a/\Q a/\R a)(k:∀a,P a->Q a->R a->Z):Z:=h.elim λa h=>k a h.1 h.2.1 h.2.2
def wD{P Q R S T:A->Prop}{Z:Prop}(h:∃a,P a/\Q a/\R a/\S a/\T a)(k:∀a,P a->Q a->R a->S a->T a->Z):Z:=h.elim λa h=>k a h.1 h.2.1 h.2.2.1 h.2.2.2.1 h.2.2.2.2
def iI{P:A->B->Prop}{Z:Prop}(h:∃a b,P a b)(k:∀a b,P a b->Z):Z:=h.elim λa h=>h.elim λb h=>k a b h
def cf{P Q:A->B->Prop}{Z:Prop}(h:∃a b,P a b/\Q a b)(k:∀a b,P a b->Q a b->Z):Z:=h.elim λa h=>h.elim λb h=>k a b h.1 h.2
def ak{P Q R:A->B->Prop}{Z:Prop}(h:∃a b,P a b/\Q a b/\R a b)(k:∀a b,P a b->Q a b->R a b->Z):Z:=h.elim λa h=>h.elim λb h=>k a b h.1 h.2.1 h.2.2
def iJ{P Q R S:A->B->Prop}{Z:Prop}(h:∃a b,P a b/\Q a b/\R a b/\S a b)(k:∀a b,P a b->Q a b->R a b->S a b->Z):Z:=h.elim λa h=>h.elim λb h=>k a b h.1 h.2.1 h.2.2.1 h.2.2.2
def tQ{P Q R S T:A->B->Prop}{Z:Prop}(h:∃a b,P a b/\Q a b/\R a b/\S a b/\T a b)(k:∀a b,P a b->Q a b->R a b->S a b->T a b->Z):Z:=h.elim λa h=>h.elim λb h=>k a b h.1 h.2.1 h.2.2.1 h.2.2.2.1 h.2.2.2.2
def By{P Q R S T U:A->B->Prop}{Z:Prop}(h:∃a b,P a b/\Q a b/\R a b/\S a b/\T a b/\U a b)(k:∀a b,P a b->Q a b->R a b->S a b->T a b->U a b->Z):Z:=h.elim λa h=>h.elim λb h=>k a b h.1 h.2.1 h.2.2.1 h.2.2.2.1 h.2.2.2.2.1 h.2.2.2.2.2
def Bz{P:A->B->C->Prop}{Z:Prop}(h:∃a b c,P a b c)(k:∀a b c,P a b c->Z):Z:=h.elim λa h=>h.elim λb h=>h.elim λc h=>k a b c h
def wE{P Q:A->B->C->Prop}{Z:Prop}(h:∃a b c,P a b c/\Q a b c)(k:∀a b c,P a b c->Q a b c->Z):Z:=h.elim λa h=>h.elim λb h=>h.elim λc h=>k a b c h.1 h.2
def wF{P Q R:A->B->C->Prop}{Z:Prop}(h:∃a b c,P a b c/\Q a b c/\R a b c)(k:∀a b c,P a b c->Q a b c->R a b c->Z):Z:=h.elim λa h=>h.elim λb h=>h.elim λc h=>k a b c h.1 h.2.1 h.2.2
def i_{P Q R S:A->B->C->Prop}{Z:Prop}(h:∃a b c,P a b c/\Q a b c/\R a b c/\S a b c)(k:∀a b c,P a b c->Q a b c->R a b c->S a b c->Z):Z:=h.elim λa h=>h.elim λb h=>h.elim λc h=>k a b c h.1 h.2.1 h.2.2.1 h.2.2.2
def n5{P Q R S T:A->B->C->Prop}{Z:Prop}(h:∃a b c,P a b c/\Q a b c/\R a b c/\S a b c/\T a b c)(k:∀a b c,P a b c->Q a b c->R a b c->S a b c->T a b c->Z):Z:=h.elim λa h=>h.elim λb h=>h.elim λc h=>k a b c h.1 h.2.1 h.2.2.1 h.2.2.2.1 h.2.2.2.2
def cM{P Q R S T U:A->B->C->Prop}{Z:Prop}(h:∃a b c,P a b c/\Q a b c/\R a b c/\S a b c/\T a b c/\U a b c)(k:∀a b c,P a b c->Q a b c->R a b c->S a b c->T a b c->U a b c->Z):Z:=h.elim λa h=>h.elim λb h=>h.elim λc h=>k a b c h.1 h.2.1 h.2.2.1 h.2.2.2.1 h.2.2.2.2.1 h.2.2.2.2.2
def de{P Q:A->B->C->D->Prop}{Z:Prop}(h:∃a b c d,P a b c d/\Q a b c d)(k:∀a b c d,P a b c d->Q a b c d->Z):Z:=h.elim λa h=>h.elim λb h=>h.elim λc h=>h.elim λd h=>k a b c d h.1 h.2
def Fd{P Q R:A->B->C->D->Prop}{Z:Prop}(h:∃a b c d,P a b c d/\Q a b c d/\R a b c d)(k:∀a b c d,P a b c d->Q a b c d->R a b c d->Z):Z:=h.elim λa h=>h.elim λb h=>h.elim λc h=>h.elim λd h=>k a b c d h.1 h.2.1 h.2.2
def qz{P Q R S:A->B->C->D->Prop}{Z:Prop}(h:∃a b c d,P a b c d/\Q a b c d/\R a b c d/\S a b c d)(k:∀a b c d,P a b c d->Q a b c d->R a b c d->S a b c d->Z):Z:=h.elim λa h=>h.elim λb h=>h.elim λc h=>h.elim λd h=>k a b c d h.1 h.2.1 h.2.2.1 h.2.2.2
def lK{P Q R S T:A->B->C->D->Prop}{Z:Prop}(h:∃a b c d,P a b c d/\Q a b c d/\R a b c d/\S a b c d/\T a b c d)(k:∀a b c d,P a b c d->Q a b c d->R a b c d->S a b c d->T a b c d->Z):Z:=h.elim λa h=>h.elim λb h=>h.elim λc h=>h.elim λd h=>k a b c d h.1 h.2.1 h.2.2.1 h.2.2.2.1 h.2.2.2.2
def Fe{P Q R S T U:A->B->C->D->Prop}{Z:Prop}(h:∃a b c d,P a b c d/\Q a b c d/\R a b c d/\S a b c d/\T a b c d/\U a b c d)(k:∀a b c d,P a b c d->Q a b c d->R a b c d->S a b c d->T a b c d->U a b c d->Z):Z:=h.elim λa h=>h.elim λb h=>h.elim λc h=>h.elim λd h=>k a b c d h.1 h.2.1 h.2.2.1 h.2.2.2.1 h.2.2.2.2.1 h.2.2.2.2.2
def Ff{P:A->B->C->D->E->Prop}{Z:Prop}(h:∃a b c d e,P a b c d e)(k:∀a b c d e,P a b c d e->Z):Z:=h.elim λa h=>h.elim λb h=>h.elim λc h=>h.elim λd h=>h.elim λe h=>k a b c d e h
def Fg{P Q:A->B->C->D->E->Prop}{Z:Prop}(h:∃a b c d e,P a b c d e/\Q a b c d e)(k:∀a b c d e,P a b c d e->Q a b c d e->Z):Z:=h.elim λa h=>h.elim λb h=>h.elim λc h=>h.elim λd h=>h.elim λe h=>k a b c d e h.1 h.2
def bi{P Q R:A->B->C->D->E->Prop}{Z:Prop}(h:∃a b c d e,P a b c d e/\Q a b c d e/\R a b c d e)(k:∀a b c d e,P a b c d e->Q a b c d e->R a b c d e->Z):Z:=h.elim λa h=>h.elim λb h=>h.elim λc h=>h.elim λd h=>h.elim λe h=>k a b c d e h.1 h.2.1 h.2.2
def tR{P Q R S T U:A->B->C->D->E->Prop}{Z:Prop}(h:∃a b c d e,P a b c d e/\Q a b c d e/\R a b c d e/\S a b c d e/\T a b c d e/\U a b c d e)(k:∀a b c d e,P a b c d e->Q a b c d e->R a b c d e->S a b c d e->T a b c d e->U a b c d e->Z):Z:=h.elim λa h=>h.elim λb h=>h.elim λc h=>h.elim λd h=>h.elim λe h=>k a b c d e h.1 h.2.1 h.2.2.1 h.2.2.2.1 h.2.2.2.2.1 h.2.2.2.2.2
def tU{P Q R S:A->B->C->D->E->F->Prop}{Z:Prop}(h:∃a b c d e f,P a b c d e f/\Q a b c d e f/\R a b c d e f/\S a b c d e f)(k:∀a b c d e f,P a b c d e f->Q a b c d e f->R a b c d e f->S a b c d e f->Z):Z:=h.elim λa h=>h.elim λb h=>h.elim λc h=>h.elim λd h=>h.elim λe h=>h.elim λf h=>k a b c d e f h.1 h.2.1 h.2.2.1 h.2.2.2
def Hy{J Y P2 P3:Prop}{Z:Prop}(h:(((J/\Y)/\P2)/\P3))(k:J->Y->P2->P3->Z):Z:=
 let ⟨⟨⟨p0,p1⟩,p2⟩,p3⟩:=h
 k p0 p1 p2 p3
def Fh{J Y P2 P3 P4 P5:Prop}{Z:Prop}(h:(((((J/\Y)/\P2)/\P3)/\P4)/\P5))(k:J->Y->P2->P3->P4->P5->Z):Z:=
 let ⟨⟨⟨⟨⟨p0,p1⟩,p2⟩,p3⟩,p4⟩,p5⟩:=h
 k p0 p1 p2 p3 p4 p5
def Hz{J Y P2 P3 P4 P5 P6:Prop}{Z:Prop}(h:((((((J/\Y)/\P2)/\P3)/\P4)/\P5)/\P6))(k:J->Y->P2->P3->P4->P5->P6->Z):Z:=
 let ⟨⟨⟨⟨⟨⟨p0,p1⟩,p2⟩,p3⟩,p4⟩,p5⟩,p6⟩:=h
 k p0 p1 p2 p3 p4 p5 p6
def HA{J Y P2 P3 P4 P5 P6 P7 P8:Prop}{Z:Prop}(h:((((((((J/\Y)/\P2)/\P3)/\P4)/\P5)/\P6)/\P7)/\P8))(k:J->Y->P2->P3->P4->P5->P6->P7->P8->Z):Z:=
 let ⟨⟨⟨⟨⟨⟨⟨⟨p0,p1⟩,p2⟩,p3⟩,p4⟩,p5⟩,p6⟩,p7⟩,p8⟩:=h
 k p0 p1 p2 p3 p4 p5 p6 p7 p8
def aT{α:Type _}{P:Prop}{x:α}(h:none=some x):P:=by cases h
def dq{P:Prop}(h:false=true):P:=by cases h
def qA{P:Prop}(h:true=false):P:=by cases h
def vh{α:Type _}{P:Prop}{x:α}{l:List α}(h:[]=x::l):P:=by cases h
namespace L2
open PySem PySem.Spec PyProof.Rows List Option
noncomputable abbrev Key:=Sum Int Str
noncomputable def n6:Key->Value->Bool
 | .inl k,v=>Value.isInt k v
 | .inr x,v=>Value.isStrOf x v
noncomputable def HB(w:World):Key->Int
 | .inl k=>hashInt k
 | .inr x=>hashStr w x
def bV:∀{k}{v},n6 k v=true->(∃i t,k=Sum.inl i/\v=Value.int i t)\/(∃x t,k=Sum.inr x/\v=Value.str x t)
 | .inl i,v,h=>by
  obtain⟨t,e⟩:=L7 (k:=i) (v:=v) h;exact .inl ⟨i,t,rfl,e⟩
 | .inr x,v,h=>by
  obtain⟨t,e⟩:=Value.isStrOf_shape (x:=x) (v:=v) h;exact .inr ⟨x,t,rfl,e⟩
def vi(i)(t):n6 (.inl i) (.int i t)=true:=by simp[n6,Value.isInt]
def vj(x)(t):n6 (.inr x) (.str x t)=true:=by simp[n6,Value.isStrOf]
def Cd(a b):decide ((Sum.inl a:Key)=Sum.inl b)=(a==b):=by
 by_cases e:a=b
 .subst e;simp
 .simp_all
def Ce(a b):decide ((Sum.inr a:Key)=Sum.inr b)=decide (a=b):=by simp
def Cf(a)(b):decide ((Sum.inl a:Key)=Sum.inr b)=false:=rfl
def Cg(a)(b):decide ((Sum.inr a:Key)=Sum.inl b)=false:=rfl
noncomputable def cH(prog)(w):PySem.KeyKind prog w Key where
 is:=n6
 hash:=HB w
 inj:=λv a b Z Y=>by
  rcases bV Z with⟨i,t,rfl,rfl⟩|⟨x,t,rfl,rfl⟩
  .rcases bV Y with⟨j,u,rfl,e⟩|⟨y,u,rfl,e⟩
   .injection e with J _;rw[J]
   .exact nomatch e
  .rcases bV Y with⟨j,u,rfl,e⟩|⟨y,u,rfl,e⟩
   .exact nomatch e
   .injection e with J _;rw[J]
 byValue:=λk v h=>by
  rcases bV h with⟨i,t,rfl,rfl⟩|⟨x,t,rfl,rfl⟩<;>rfl
 pyHash:=λhv h=>by
  rcases bV hv with⟨i,t,rfl,rfl⟩|⟨x,t,rfl,rfl⟩
  .exact wpAny_pyHash_int h
  .exact wpAny_pyHash_str h
 eqBool:=λhu hv h=>by
  rcases bV hu with⟨i,t,rfl,rfl⟩|⟨x,t,rfl,rfl⟩
  .rcases bV hv with⟨j,u,rfl,rfl⟩|⟨y,u,rfl,rfl⟩
   .rw[Cd]at h;exact wpAny_eqBool_int h
   .rw[Cf]at h;exact SeqAt.EqAt.int_str i t y u _ _ _ _ h
  .rcases bV hv with⟨j,u,rfl,rfl⟩|⟨y,u,rfl,rfl⟩
   .rw[Cg]at h;exact SeqAt.EqAt.str_int x t j u _ _ _ _ h
   .rw[Ce]at h;exact wpAny_eqBool_str h
 «strs»:=λk x t v h=>by
  rcases bV h with⟨i,u,rfl,e⟩|⟨y,u,rfl,e⟩
  .exact nomatch e
  .injection e with J _
   subst J;cases v<;>rfl
def qB(prog)(w)(i)(t):(cH prog w).is (.inl i) (.int i t)=true:=vi i t
def qC(prog)(w)(x)(t):(cH prog w).is (.inr x) (.str x t)=true:=vj x t
inductive V where
 | non|bl (b:Bool)|int (i:Int)|str (x:Str)|byt (b:Array UInt8)|flt (b:UInt64)|ref (a:Addr)|ty (n:String)
 deriving DecidableEq
def aK:V->Value->Prop
 | .non,u=>u=Value.none
 | .bl b,u=>u=Value.bool b
 | .int i,u=>∃t,u=Value.int i t
 | .str x,u=>∃t,u=Value.str x t
 | .byt b,u=>∃t,u=Value.bytes b t
 | .flt b,u=>∃t,u=Value.float b t
 | .ref a,u=>u=Value.ref a
 | .ty n,u=>u=Value.type n
abbrev aF:List V->List Value->Prop:=Paired aK
theorem aF.length(r:aF xs us):xs.length=us.length:=Paired.length r
theorem aF.get:∀{xs}{us}{i:Nat}{x},aF xs us->xs[i]?=some x->∃u,us[i]?=some u/\aK x u
 | _,_,_,_,.nil,e=>by injection e
 | _,_,0,_,.cons r _,e=>by simp at e;subst e;exact⟨_,rfl,r⟩
 | _,_,i+1,x,.cons _ t,e=>by
  obtain⟨u,h1,h2⟩:=aF.get (i:=i) (x:=x) t e;exact⟨u,by simpa using h1,h2⟩
theorem aF.set(r:aK x u):∀{xs}{us} i,aF xs us->aF (xs.set i x) (us.set i u)
 | _,_,_,.nil=>.nil
 | _,_,0,.cons _ t=>.cons r t
 | _,_,i+1,.cons q t=>.cons q (aF.set r i t)
theorem aF.append:∀{xs ys}{us ws},aF xs us->aF ys ws->aF (xs++ys) (us++ws)
 | _,_,_,_,.nil,s=>s
 | _,_,_,_,.cons r t,s=>.cons r (aF.append t s)
theorem aF.take:∀{xs}{us} n,aF xs us->aF (xs.take n) (us.take n)
 | _,_,0,_=>.nil
 | _,_,_+1,.nil=>.nil
 | _,_,n+1,.cons r t=>.cons r (aF.take n t)
theorem aF.drop:∀{xs}{us} n,aF xs us->aF (xs.drop n) (us.drop n)
 | _,_,0,r=>r
 | _,_,_+1,.nil=>.nil
 | _,_,n+1,.cons _ t=>aF.drop n t
def lb:Option V->Option Value->Prop
 |some v,some u=>aK v u
 |none,none=>True
 | _,_=>False
def KV :List (g×V)->List (g×Value)->Prop:=Paired λp q=>p.1=q.1/\aK p.2 q.2
noncomputable def kV:Key->V
 | .inl i=>.int i
 | .inr x=>.str x
inductive HO where
 | lst (xs:List V)
 | tup (xs:List V)
 | dK (kvs:List (Key×V))|dT (kvs:List (List Key×V))
 | set (S:Int->Bool) (n:Nat)
 | ins (C dx:Addr) (fs:List (Str×V))
 | own (x:Addr)
 | xd (fs:List (Str×V))
 | met (f x:Addr)
 | rng (lo hi:Int)
 | frz (o:Obj) (u:HO)
 | tbl (ps:Array Value)
 | ext (φ:Heap->Prop)
noncomputable abbrev Hp:=Addr->Option HO
noncomputable def upd(H:Hp)(a:Addr)(o:HO):Hp:=λb=>if b=a then some o else H b
def aq :upd H a o a=some o:=by unfold upd;rw[if_pos rfl]
def az(h:b≠a):upd H a o b=H b:=by unfold upd;rw[if_neg h]
def Fi{H:Hp}{a b:Addr}{o u:HO}(h:H a=some o)(h':H b=some u)(d:o≠u):a≠b:=by
 intro e;subst e;rw[h]at h';exact d (IT h')
def bt{H:Hp}{a b:Addr}{o:HO}(h:H a=some o)(h':H b=none):a≠b:=by
 intro e;subst e;rw[h]at h';cases h'
section
variable(P:Program)(w:World)
def bD(H:Hp)(h:Heap)(a:Addr):HO->Prop
 | .lst xs=>xs.length<=sizeLine/\∃its n,aF xs its/\h.get? a=some { cls:=.type "list",data:=.seq its.toArray n }
 | .tup xs=>xs.length<=sizeLine/\∃its,aF xs its/\IsTup h a its.toArray
 | .dK kvs=>kvs.length<=sizeLine/\(a==sysModules)=false/\∃vs,KV kvs vs/\h.DictOf (cH P w) a vs
 | .dT kvs=>kvs.length<=sizeLine/\(a==sysModules)=false/\∃xs,
   Paired (λp q=>p.1=q.1/\H q.2.1=some (.tup (p.1.map kV))/\aK p.2 q.2.2) kvs xs /\
   ∃o es ep,h.get? a=some o/\o.ExactDict/\o.data=.dict es ep/\es.toList=xs.map (entryOfKey (tupleKind (cH P w)))/\(xs.map (·.1)).Nodup
 | .set S n=>h.SetOf (intKind P w) a S n
 | .ins C dx fs=>H dx=some (.own a)/\fs.length<=1000/\dx≠a/\h.get? a=some (PySem.W.instObj C dx) /\
   ∃mA,h.Ns1 dx mA/\(∀f,lb (fs.lookup f) (mA f))/\PySem.Within mA (fs.map (·.1))
 | .own _=>∃o,h.get? a=some o
 | .xd fs=>∃mA,h.Ns1 a mA/\∀f,lb (fs.lookup f) (mA f)
 | .rng lo hi=>∃t u v,h.get? a=some { cls:=.type "range",data:=.fields #[.int lo t,.int hi u,.int 1 v] }
 | .frz o u=>h.get? a=some o/\bD H h a u
 | .tbl ps=>h.get? a=some { cls:=.none,data:=.fields ps }
 | .met f x=>h.get? a=some (PySem.W.methodObj (.ref f) (.ref x))
 | .ext J=>J h/\(∃o,h.get? a=some o)/\∀h1 h2,J h1->(∀o,h1.get? a=some o->h2.get? a=some o)->J h2
def HOk(H:Hp)(h:Heap):Prop:=∀a o,H a=some o->bD P w H h a o
end
section
variable{P:Program}{w:World}{H H':Hp}{h h':Heap}{a:Addr}{o:HO}
theorem bD.lt(x:bD P w H h a o):a<h.objs.size:=by
 cases o with
 |own y=>obtain⟨_,e⟩:=x;exact IG e
 |xd fs=>obtain⟨_,⟨_,_,_,e,_⟩,_⟩:=x;exact IG e
 |ext J=>obtain⟨_,⟨_,e⟩,_⟩:=x;exact IG e
 |lst xs=>obtain⟨_,_,_,_,e⟩:=x;exact IG e
 |tup xs=>obtain⟨_,_,_,p⟩:=x;exact p.lt
 |set S n=>obtain⟨o,_,_,_,e,_⟩:=x;exact IG e
 |frz Y u=>obtain⟨e,_⟩:=x;exact IG e
 |rng lo hi=>obtain⟨_,_,_,e⟩:=x;exact IG e
 |ins C dx fs=>obtain⟨_,_,_,e,_⟩:=x;exact IG e
 |dK kvs|dT kvs=>obtain⟨_,_,_,_,o,_,_,e,_⟩:=x;exact IG e
 | _=>exact IG (show h.get? a=some _ from x)
theorem Paired.mapP :∀{l₁}{J},Paired F l₁ J->(∀a b,F a b->G a b)->Paired G l₁ J
 | _,_,.nil,_=>.nil
 | _,_,.cons r t,f=>.cons (f _ _ r) (Paired.mapP t f)
def bD.stay(x:bD P w H h a o)(k:∀b u,(b=a\/H b=some (.own a))->h.get? b=some u->h'.get? b=some u)
  (ho:∀b,H b=some (.own a)->H' b=some (.own a)) (Z:∀b xs,H b=some (.tup xs)->H' b=some (.tup xs)):bD P w H' h' a o:=by
 induction o with
 |lst xs=>obtain⟨z,its,n,r,e⟩:=x;exact⟨z,its,n,r,k _ _ (.inl rfl) e⟩
 |tup xs=>obtain⟨z,its,r,J,e,c⟩:=x;exact⟨z,its,r,J,k _ _ (.inl rfl) e,c⟩
 |dK kvs=>obtain⟨z,y,vs,r,J,es,ep,e,c⟩:=x;exact⟨z,y,vs,r,J,es,ep,k _ _ (.inl rfl) e,c⟩
 |dT kvs =>
  obtain⟨z,y,xs,r,J,es,ep,e,c⟩:=x;exact⟨z,y,xs,Paired.mapP r λp q z=>⟨z.1,Z _ _ z.2.1,z.2.2⟩,J,es,ep,k _ _ (.inl rfl) e,c⟩
 |set S n=>obtain⟨J,es,ep,t,e,c⟩:=x;exact⟨J,es,ep,t,k _ _ (.inl rfl) e,c⟩
 |ins C dx fs =>
  obtain⟨d,z,ne,e,mA,⟨Y,es,ep,e2,c⟩,r⟩:=x;exact⟨ho _ d,z,ne,k _ _ (.inl rfl) e,mA,⟨Y,es,ep,k _ _ (.inr d) e2,c⟩,r⟩
 |own y=>obtain⟨J,e⟩:=x;exact⟨J,k _ _ (.inl rfl) e⟩
 |xd fs=>obtain⟨mA,⟨Y,es,ep,e,c⟩,r⟩:=x;exact⟨mA,⟨Y,es,ep,k _ _ (.inl rfl) e,c⟩,r⟩
 |rng lo hi=>obtain⟨t,u,v,e⟩:=x;exact⟨t,u,v,k _ _ (.inl rfl) e⟩
 |frz J u ih=>obtain⟨e,q⟩:=x;exact⟨k _ _ (.inl rfl) e,ih q⟩
 |tbl ps =>
  have e:=x;exact k a _ (.inl rfl) e
 |met f y =>
  have e:=x;exact k a _ (.inl rfl) e
 |ext φ=>obtain⟨p,⟨o,e⟩,st⟩:=x;exact⟨st _ _ p λo q=>k _ _ (.inl rfl) q,⟨o,k _ _ (.inl rfl) e⟩,st⟩
theorem HOk.lt(x:HOk P w H h)(e:H a=some o):a<h.objs.size:=(x a o e).lt
def HOk.fresh(x:HOk P w H h)(e:h.objs.size<=a):H a=none:=by
 cases q:H a<;>first|rfl|exact absurd (IK (x.lt q) e) (Jy _)
theorem HOk.kept(x:HOk P w H h)(k:∀b u,h.get? b=some u->h'.get? b=some u):HOk P w H h':=λa o e =>
 (x a o e).stay (λb u _ q=>k b u q) (λ_ q=>q) λ_ _ q=>q
theorem HOk.laid(x:HOk P w H h)(k:∀b u,h.get? b=some u->h'.get? b=some u)(Z:h.objs.size<=a)(new:bD P w (upd H a o) h' a o):HOk P w (upd H a o) h':=λb u e=>by
 have J:=x.fresh Z;by_cases Y:b=a
 .subst Y;rw[aq]at e;cases e;exact new
 .rw[az Y]at e;exact(x b u e).stay (λc v _ q=>k c v q) (λc q=>by rw[az (bt q J)];exact q) λc xs q=>by rw[az (bt q J)];exact q
end
def Rd(H:Hp)(a:Addr)(u:HO):Prop:=H a=some u\/∃o,H a=some (.frz o u)
theorem Rd.ok(r:Rd H a u)(x:HOk P w H h):bD P w H h a u:=by
 rcases r with r|⟨o,r⟩
 .exact x a u r
 .obtain⟨_,q⟩:=x a _ r;exact q
def Mut:Option HO->Prop
 |some (.lst _)=>True
 |some (.dK _)=>True
 |some (.dT _)=>True
 |some (.set _ _)=>True
 |some (.ins _ _ _)=>True
 |some (.ext _)=>True
 | _=>False
section
variable{P:Program}{w:World}{H:Hp}{h h':Heap}{x e:Addr}{o':HO}
def HOk.write(ok:HOk P w H h)(mu:Mut (H x))(he:e=x\/H e=some (.own x))(k:∀b u,b≠e->h.get? b=some u->h'.get? b=some u)(ao:∃u,h'.get? e=some u)
  (new:bD P w (upd H x o') h' x o'):HOk P w (upd H x o') h':=λb u q=>by
 have Y:∀c y,H c=some (.own y)->c≠x:=λc y r z=>by subst z;rw[r]at mu;exact mu
 have Z:∀c xs,H c=some (.tup xs)->c≠x:=λc xs r z=>by subst z;rw[r]at mu;exact mu
 by_cases hb:b=x
 .subst hb;rw[aq]at q;cases q;exact new
 .rw[az hb]at q;by_cases J:b=e
  .have q':H b=some (.own x):=by
    rcases he with z|z
    .exact absurd (J.trans z) hb
    .rw[J];exact z
   rw[q]at q';cases q'
   obtain⟨v,hv⟩:=ao;exact⟨v,by rw[J];exact hv⟩
  .refine(ok b u q).stay (λc v hc r=>k c v ?_ r) (λc r=>by rw[az (Y c b r)];exact r) λc xs r=>by rw[az (Z c xs r)];exact r
   rcases hc with rfl|hc
   .exact J
   .rintro rfl
    simp_all
end
structure Un(fs ex:List Addr)(H H':Hp)(h h':Heap):Prop where
 keep:∀b o,h.get? b=some o->H b=none->b∉fs->b∉ex->h'.get? b=some o
 slot:∀b o,h.get? b=some o->H b=none->b∈fs->b∉ex->∃sl,h'.get? b=some { o with slots:=sl }
 free:∀b o,h.get? b=some o->H b=none->b∉ex->H' b=none
 there:∀b o,h.get? b=some o->b∉ex->∃o',h'.get? b=some o'
 tups:∀b xs,H b=some (.tup xs)->H' b=some (.tup xs)
 frzs:∀b o u,H b=some (.frz o u)->H' b=some (.frz o u)
 tbls:∀b ps,H b=some (.tbl ps)->∃more,H' b=some (.tbl (ps++more))
section
variable{fs fs' ex ex':List Addr}{H H1 H2:Hp}{h h1 h2 h':Heap}{a x e:Addr}{o:HO}
theorem Un.any(u:Un fs ex H H1 h h1)(q:h.get? b=some J)(n:H b=none)(hx:b∉ex):∃Z,h1.get? b=some { J with slots:=Z }:=by
 by_cases Y:b∈fs
 .exact u.slot b J q n Y hx
 .exact⟨J.slots,u.keep b J q n Y hx⟩
def Un.kept(k:∀b u,h.get? b=some u->h'.get? b=some u):Un fs ex H H h h':=
 ⟨λb J q _ _ _=>k b J q,λb J q _ _ _=>⟨J.slots,k b J q⟩,λ_ _ _ n _=>n,λb J q _=>⟨J,k b J q⟩,λ_ _ q=>q,λ_ _ _ q=>q,λ_ ps q=>⟨#[],by rw[q];rfl⟩⟩
def Un.refl:Un fs ex H H h h:=Un.kept λ_ _ q=>q
def Un.laid(k:∀b u,h.get? b=some u->h'.get? b=some u)(Y:h.objs.size<=a)(J:H a=none):Un fs ex H (upd H a o) h h' where
 keep:=λb u q _ _ _=>k b u q
 slot:=λb u q _ _ _=>⟨u.slots,k b u q⟩
 free:=λb u q n _=>by rw[az (IP (IK (IG q) Y))];exact n
 there:=λb u q _=>⟨u,k b u q⟩
 tups:=λb xs q=>by rw[az (bt q J)];exact q
 frzs:=λb u xs q=>by rw[az (bt q J)];exact q
 tbls:=λb ps q=>⟨#[],by rw[az (bt q J),q];rfl⟩
def Un.write(Y:Mut (H x))(he:e=x\/H e=some (.own x))(k:∀b u,b≠e->h.get? b=some u->h'.get? b=some u)(Z:∃u,h'.get? e=some u):Un fs ex H (upd H x o) h h':=by
 have hx:∀b,H b=none->b≠x:=λb n z=>by subst z;rw[n]at Y;exact Y
 have hb:∀b,H b=none->b≠e:=λb n z=>by
  simp_all
 have hm:∀b u,H b=some u->¬ Mut (some u)->b≠x:=λb u q nm z=>by subst z;rw[q]at Y;exact nm Y
 refine⟨λb u q n _ _=>k b u (hb b n) q,λb u q n _ _=>⟨u.slots,k b u (hb b n) q⟩,λb u q n _=>by rw[az (hx b n)];exact n,λb u q _=>?_,
  λb xs q=>by rw[az (hm b _ q λz=>z)];exact q,λb u xs q=>by rw[az (hm b _ q λz=>z)];exact q,λb ps q=>⟨#[],by rw[az (hm b _ q λz=>z),q];rfl⟩⟩
 by_cases J:b=e
 .subst J;exact Z
 .exact⟨u,k b u J q⟩
end
noncomputable def trk(h:Heap)(H:Hp):List Addr:=(range h.objs.size).filter λa=>(H a).isSome
noncomputable def pg(h:Heap)(H:Hp):Heap:=PySem.W.hideAll h (trk h H)
def vk(h)(H):(pg h H).objs.size=h.objs.size:=PySem.W.hideAll_size _ _
def wG{H:Hp}{b:Addr}{o:Obj}(e:h.get? b=some o)(n:H b=none):(pg h H).get? b=some o:=
 PySem.W.hideAll_get _ e λhm=>by
  have q:=(JQ.mp hm).2;rw[n]at q;simp at q
def z7(e:(pg h H).get? b=some o):h.get? b=some o/\H b=none:=by
 have J:=PySem.W.of_hideAll _ e;refine⟨J,?_⟩;cases q:H b with
 |none=>rfl
 |some x =>
  have Y:b∈trk h H:=JQ.mpr ⟨LV.mpr (IG J),by simp[q]⟩;have z:(pg h H).get? b=none:=PySem.W.hideAll_none _ Y;rw[z]at e;exact aT e
noncomputable def z8(g h:Heap)(L:Addr):List (Addr×Obj):=(range h.objs.size).filterMap λa=>if a=L\/(g.get? a).isSome=true then none else(h.get? a).map λo=>(a,o)
noncomputable def cE(g h:Heap)(L d:Addr):List (Addr×Obj):=(z8 g h L).filter λp=>decide (p.1≠d)
structure Mod(K:Mx)(mg:Str->Option Value)(base:Heap):Prop where
 kin:K.In base
 glob:base.Ns mainGlobals mg
 blt:∃mb,base.Ns builtinsNs mb/\∀x:Str,x ≠ "__name__"->mb x=bootBuiltins x
 nolimit:base.NoLimit
structure Cx where
 prog:Program
 w:World
 K:Mx
 mg:Str->Option Value
 base:Heap
 A:Around
 N:List Str
 s₀:Shared
 H₀:Hp
 env:Env
 outer:List Env
 stack:List Env
 ex:List Addr
 fn:Str->Bool
 calm:Bool
 pn:List (Addr×Obj)
 xe:Value->Shared->Prop
noncomputable def frs(l:List Env):List Addr:=l.filterMap (·.frame)
noncomputable abbrev Cx.fs(X:Cx):List Addr:=frs X.outer
def Vis(sc:Scope)(x:Str):Prop:=sc.names.lookup x=some .local\/sc.names.lookup x=some .cell\/sc.names.lookup x=some .free
def Loc(sc:Scope)(x:Str):Prop:=sc.names.lookup x=some .local\/sc.names.lookup x=some .cell
def HC(env:Env)(h:Heap)(m:Str->Option Value)(x:Str)(u:Value):Prop:=
 (env.kindOf x=some .local/\m x=some u)\/((env.kindOf x=some .cell\/env.kindOf x=some .free)/\∃c,env.cells.lookup x=some c/\h.IsCell c (some u))
structure Cx.Ok(X:Cx):Prop where
 mod:Mod X.K X.mg X.base
 kind:X.env.scope.kind=.function
 glob:X.env.globals=mainGlobals
 blt:X.env.builtins=builtinsNs
 above:X.s₀.heap.objs.size<=X.env.locals
 inj:∀x y c,X.env.cells.lookup x=some c->X.env.cells.lookup y=some c->x=y
 has:∀x,(X.env.kindOf x=some .cell\/X.env.kindOf x=some .free)->∃c,X.env.cells.lookup x=some c
 cab:∀x c,X.fn x=true->X.env.cells.lookup x=some c->X.s₀.heap.objs.size<=c
 hd:X.calm=true->X.A.handled=none
 frames:X.A.frames=some X.stack
 stk:X.stack=X.outer\/(X.stack=X.env::X.outer/\X.env.frame=some X.env.locals)
 exf:∀b∈X.ex,b≠X.env.locals/\∀x c,X.env.cells.lookup x=some c->c≠b
 bs:∀b o,X.base.get? b=some o->X.s₀.heap.get? b=some o/\X.H₀ b=none
 bsz:X.base.objs.size<=X.s₀.heap.objs.size
 noex:∀b o,X.base.get? b=some o->b∉X.ex
 exfs:∀b∈X.ex,b∉X.fs
 funs:X.s₀.heap.FunFrames X.base X.outer
 frf:∀b∈X.fs,X.H₀ b=none
structure Inv(X:Cx)(pins:List (Addr×Obj))(σ:List (Option V))(H:Hp)(s:Shared):Prop where
 ok:X.Ok
 os:s.os=X.s₀.os
 bare:AllBare s.gens
 base:Un X.fs X.ex X.H₀ H X.s₀.heap s.heap
 loc:∃m,s.heap.Ns X.env.locals m/\∀(i:Nat) (x:Str) (v:V),X.N[i]?=some x->σ[i]?=some (some v)->Vis X.env.scope x->∃u,aK v u/\HC X.env s.heap m x u
 cell:∀x c,X.env.cells.lookup x=some c->∃v,s.heap.IsCell c v
 free:H X.env.locals=none
 freeC:∀x c,X.env.cells.lookup x=some c->H c=none
 pin:∀p∈X.pn++pins,s.heap.get? p.1=some p.2/\H p.1=none/\p.1≠X.env.locals/\p.1∉X.fs/\∀v,p.2.data≠.cell v
 hok:HOk X.prog X.w H s.heap
 len:σ.length=X.N.length
section
variable{X:Cx}{pins:List (Addr×Obj)}{σ:List (Option V)}{H H':Hp}{s:Shared}{h':Heap}
theorem Cx.Ok.nofr(ok:X.Ok)(e:X.base.get? b=some o):b∉X.fs:=λJ=>by
 have:=(ok.funs.mem J).1;rw[e]at this;cases this
theorem Inv.bs(I:Inv X pins σ H s):∀b o,X.base.get? b=some o->s.heap.get? b=some o/\H b=none:=λb o e =>
 ⟨I.base.keep b o (I.ok.bs b o e).1 (I.ok.bs b o e).2 (I.ok.nofr e) (I.ok.noex b o e),I.base.free b o (I.ok.bs b o e).1 (I.ok.bs b o e).2 (I.ok.noex b o e)⟩
theorem Inv.bk(I:Inv X pins σ H s):∀b o,X.base.get? b=some o->s.heap.get? b=some o:=λb o e=>(I.bs b o e).1
theorem Inv.mod(I:Inv X pins σ H s):Mod X.K X.mg X.base:=I.ok.mod
theorem Inv.kIn(I:Inv X pins σ H s):X.K.In s.heap:=I.ok.mod.kin.keeps I.bk
theorem Inv.lt(I:Inv X pins σ H s):X.env.locals<s.heap.objs.size:=let ⟨_,J,_⟩:=I.loc;J.lt
theorem Inv.sz(I:Inv X pins σ H s):X.s₀.heap.objs.size<=s.heap.objs.size:=IQ I.ok.above (Jz I.lt)
theorem Inv.nofs(I:Inv X pins σ H s)(h:s.heap.objs.size<=a):a∉X.fs:=λJ=>by
 obtain⟨_,o,ho,_⟩:=I.ok.funs.mem J;exact absurd (IK (IG ho) (IQ I.sz h)) (Jy _)
theorem Inv.cne(I:Inv X pins σ H s):∀x c,X.env.cells.lookup x=some c->c≠X.env.locals:=λx c e z=>by
 refine cf (I.cell x c e) λv o ho hd=>?_
 obtain⟨m,⟨o',es,ep,J,Y,_⟩,_⟩:=I.loc
 simp_all
theorem Inv.funs(I:Inv X pins σ H s):s.heap.FunFrames X.base X.outer:=by
 have all:∀l,(∀b∈frs l,b∈X.fs)->X.s₀.heap.FunFrames X.base l->s.heap.FunFrames X.base l:=by
  intro l
  induction l with
  |nil=>intro _ _;trivial
  |cons env r ih =>
   intro hs Z;obtain⟨hk,⟨L,o,J,hn,ho,hd⟩,hr⟩:=Z;have hL:=hs L (by unfold frs;rw[filterMap_cons,J];exact J6);obtain⟨sl,e⟩:=I.base.slot L o ho (I.ok.frf L hL) hL λz=>I.ok.exfs L z hL
   exact⟨hk,⟨L,_,J,hn,e,hd⟩,ih (λb Y=>hs b (by unfold frs;rw[filterMap_cons,J];exact JG _ Y)) hr⟩
 exact all X.outer (λ_ Y=>Y) I.ok.funs
theorem Inv.stack(I:Inv X pins σ H s):s.heap.FunFrames X.base X.stack:=by
 rcases I.ok.stk with e|⟨e,J⟩
 .rw[e];exact I.funs
 .rw[e];refine ae I.loc λm Y _=>?_
  refine .cons (by rw[I.ok.kind];decide) J Y ?_ I.funs;exact Heap.get?_none_of_le (IQ I.ok.bsz I.ok.above)
def Inv.stkSub(I:Inv X pins σ H s):∀b∈frs X.stack,b∈X.env.locals::X.fs:=λb J=>by
 rcases I.ok.stk with e|⟨e,Y⟩
 .rw[e]at J;exact JG _ J
 .rw[e]at J;unfold frs at J;rw[filterMap_cons,Y]at J;exact J
def Inv.stkFree(I:Inv X pins σ H s):∀b∈frs X.stack,H b=none:=λb J=>by
 rcases IM.mp (I.stkSub b J)with e|J
 .rw[e];exact I.free
 .obtain⟨_,o,ho,_⟩:=I.ok.funs.mem J;exact I.base.free b o ho (I.ok.frf b J) λz=>I.ok.exfs b z J
theorem Inv.step{ch:List Addr}(I:Inv X pins σ H s)
  (J:∀b∈ch,(b∈X.ex\/X.s₀.heap.objs.size<=b)/\b≠X.env.locals/\(∀x c,X.env.cells.lookup x=some c->c≠b)/\∀p∈X.pn++pins,p.1≠b)
  (keep:∀b o,b≠X.env.locals->b∉X.fs->b∉ch->s.heap.get? b=some o->H b=none->h'.get? b=some o)
  (slot:∀b o,b≠X.env.locals->b∈X.fs->b∉ch->s.heap.get? b=some o->H b=none->∃sl,h'.get? b=some { o with slots:=sl }) (free:∀b o,b∉ch->s.heap.get? b=some o->H b=none->H' b=none)
  (there:∀b o,b∉ch->s.heap.get? b=some o->∃o',h'.get? b=some o')
  (tups:∀b xs,H b=some (.tup xs)->H' b=some (.tup xs)) (frzs:∀b o u,H b=some (.frz o u)->H' b=some (.frz o u)) (tbls:∀b ps,H b=some (.tbl ps)->∃more,H' b=some (.tbl (ps++more)))
  (ns:∀m,s.heap.Ns X.env.locals m->h'.Ns X.env.locals m) (hok:HOk X.prog X.w H' h') (hg:AllBare g') :
  Inv X pins σ H' { s with heap:=h',gens:=g',drawn:=d',toks:=t' }:=by
 have aL:∀b o,X.s₀.heap.get? b=some o->b≠X.env.locals:=λb o e=>IP (IK (IG e) I.ok.above)
 have ac:∀b o,X.s₀.heap.get? b=some o->b∉X.ex->b∉ch:=λb o e hx hb=>by
  rcases(J b hb).1 with z|z
  .exact hx z
  .exact absurd (IK (IG e) z) (Jy _)
 have Y:∀x c,X.env.cells.lookup x=some c->∀v,s.heap.IsCell c v->h'.IsCell c v:=λx c e v hq=>ae hq λo ho hd=>by
  have Z:c∉ch:=λz=>(J c z).2.2.1 x c e rfl
  by_cases hc:c∈X.fs
  .obtain⟨sl,q⟩:=slot c o (I.cne x c e) hc Z ho (I.freeC x c e);exact⟨_,q,hd⟩
  .exact⟨o,keep c o (I.cne x c e) hc Z ho (I.freeC x c e),hd⟩
 refine⟨I.ok,I.os,hg,⟨λb o e n hb hx=>?_,λb o e n hb hx=>?_,λb o e n hx=>?_,λb o e hx=>?_,λb xs e=>tups b xs (I.base.tups b xs e),λb o xs e=>frzs b o xs (I.base.frzs b o xs e),λb ps e=>?_⟩,?_,λx c e=>?_,?_,λx c e=>?_,λp hp=>?_,hok,I.len⟩
 .exact keep b o (aL b o e) hb (ac b o e hx) (I.base.keep b o e n hb hx) (I.base.free b o e n hx)
 .obtain⟨sl,e1⟩:=I.base.slot b o e n hb hx;obtain⟨a2,e2⟩:=slot b _ (aL b o e) hb (ac b o e hx) e1 (I.base.free b o e n hx);exact⟨a2,e2⟩
 .obtain⟨o',e1⟩:=I.base.there b o e hx;exact free b o' (ac b o e hx) e1 (I.base.free b o e n hx)
 .obtain⟨o',e1⟩:=I.base.there b o e hx;exact there b o' (ac b o e hx) e1
 .obtain⟨m1,e1⟩:=I.base.tbls b ps e;obtain⟨m2,e2⟩:=tbls b _ e1;exact⟨m1++m2,by rw[e2,Array.append_assoc]⟩
 .refine ae I.loc λm hn hl=>?_
  refine⟨m,ns m hn,λi x v e1 e2 e3=>?_⟩;refine ae (hl i x v e1 e2 e3) λu r l=>?_
  refine⟨u,r,?_⟩;rcases l with l|⟨k,c,e,z⟩
  .exact .inl l
  .exact .inr ⟨k,c,e,Y x c e _ z⟩
 .obtain⟨v,z⟩:=I.cell x c e;exact⟨v,Y x c e v z⟩
 .obtain⟨m,⟨o,_,_,ho,_⟩,_⟩:=I.loc;exact free _ o (λz=>(J _ z).2.1 rfl) ho I.free
 .refine cf (I.cell x c e) λv o ho hd=>?_
  exact free c o (λz=>(J c z).2.2.1 x c e rfl) ho (I.freeC x c e)
 .refine wC (I.pin p hp) λe n ne nf d=>?_
  have Z:p.1∉ch:=λz=>(J p.1 z).2.2.2 p hp rfl
  exact⟨keep p.1 p.2 ne nf Z e n,free p.1 p.2 Z e n,ne,nf,d⟩
theorem Inv.un(I:Inv X pins σ H s)(u:Un X.fs [] H H' s.heap h')(hok:HOk X.prog X.w H' h'):Inv X pins σ H' { s with heap:=h',toks:=t' }:=by
 obtain⟨m,⟨o,es,ep,ho,r⟩,_⟩:=id I.loc;obtain⟨sl,hL⟩:=u.any ho I.free (by simp);exact I.step (ch:=[]) (λ_ z=>nomatch z) (λb o _ Y _ e n=>u.keep b o e n Y (by simp)) (λb o _ Y _ e n=>u.slot b o e n Y (by simp)) (λb o _ e n=>u.free b o e n (by simp)) (λb o _ e=>u.there b o e (by simp)) u.tups u.frzs u.tbls (λm' hm=>by
  refine wE hm λo' Z ac J r'=>?_
  rw[ho]at J;cases J
  exact⟨_,Z,ac,hL,r'⟩) hok I.bare
theorem Inv.call(I:Inv X pins σ H s)(u:Un (frs X.stack) ch H H' s.heap h')(hok:HOk X.prog X.w H' h')(hg:AllBare g')
  (J:∀b∈ch,(b∈X.ex\/X.s₀.heap.objs.size<=b)/\b≠X.env.locals/\(∀x c,X.env.cells.lookup x=some c->c≠b)/\∀p∈X.pn++pins,p.1≠b) :
  Inv X pins σ H' { s with heap:=h',gens:=g',drawn:=d',toks:=t' }:=by
 obtain⟨m,⟨o,es,ep,ho,r⟩,_⟩:=id I.loc;obtain⟨sl,hL⟩:=u.any ho I.free λz=>(J _ z).2.1 rfl
 exact I.step J (λb o hL hb hc e n=>u.keep b o e n (λz=>(IM.mp (I.stkSub b z)).elim hL hb) hc) (λb o _ _ hc e n=>u.any e n hc) (λb o hc e n=>u.free b o e n hc) (λb o hc e=>u.there b o e hc) u.tups u.frzs u.tbls (λm' hm=>by
  refine wE hm λo' Z ac Y r'=>?_
  rw[ho]at Y;cases Y
  exact⟨_,Z,ac,hL,r'⟩) hok hg
def Inv.turned(I:Inv X pins σ H s)(k:∀b o,b≠it->s.heap.get? b=some o->h'.get? b=some o)(Y:H it=none)(hL:it≠X.env.locals)
  (h1:it∈X.ex\/X.s₀.heap.objs.size<=it) (h2:∀x c,X.env.cells.lookup x=some c->c≠it) (Z:∀p∈X.pn++pins,p.1≠it):Inv X pins σ H { s with heap:=h',toks:=t' }:=by
 have J:∀b u,H b=some u->b≠it:=λb u e z=>by rw[z,Y]at e;exact aT e
 refine I.step (ch:=[it]) (λb hb=>?_) (λb o _ _ hc e _=>k b o (λz=>hc (by simp[z])) e) (λb o _ _ hc e _=>⟨o.slots,k b o (λz=>hc (by simp[z])) e⟩) (λ_ _ _ _ n=>n)
  (λb o hc e=>⟨o,k b o (λz=>hc (by simp[z])) e⟩) (λ_ _ e=>e) (λ_ _ _ e=>e) (λb ps e=>⟨#[],by rw[e];rfl⟩) (λm hm=>?_) (λb u e=>?_) I.bare
 .have e:b=it:=by simpa using hb
  subst e;exact⟨h1,hL,h2,Z⟩
 .refine wE hm λo es ep ho r=>?_
  exact⟨o,es,ep,k _ o (JF hL) ho,r⟩
 .refine(I.hok b u e).stay (λc v hc q=>k c v ?_ q) (λ_ q=>q) λ_ _ q=>q
  rcases hc with z|z
  .rw[z];exact J b u e
  .exact J c _ z
theorem Inv.tok(I:Inv X pins σ H s)(t):Inv X pins σ H { s with toks:=t }:=I.un (h':=s.heap) (t':=t) Un.refl I.hok
theorem Inv.kept(I:Inv X pins σ H s)(k:∀b u,s.heap.get? b=some u->h'.get? b=some u):Inv X pins σ H { s with heap:=h',toks:=t' }:=I.un (Un.kept k) (I.hok.kept k)
theorem Inv.laid(I:Inv X pins σ H s)(k:∀b u,s.heap.get? b=some u->h'.get? b=some u)(J:s.heap.objs.size<=a)(new:bD X.prog X.w (upd H a o) h' a o) :
  Inv X pins σ (upd H a o) { s with heap:=h',toks:=t' }:=I.un (Un.laid k J (I.hok.fresh J)) (I.hok.laid k J new)
theorem Inv.write(I:Inv X pins σ H s)(Y:Mut (H x))(Z:e=x\/H e=some (.own x))(k:∀b u,b≠e->s.heap.get? b=some u->h'.get? b=some u)(J:∃u,h'.get? e=some u)
  (new:bD X.prog X.w (upd H x o) h' x o):Inv X pins σ (upd H x o) { s with heap:=h',toks:=t' }:=I.un (Un.write Y Z k J) (I.hok.write Y Z k J new)
def Inv.pins_of{J:List (Addr×Obj)}(I:Inv X pins σ H s)(h:∀p∈J,s.heap.get? p.1=some p.2/\H p.1=none/\p.1≠X.env.locals/\p.1∉X.fs/\∀v,p.2.data≠.cell v):Inv X J σ H s:=
 ⟨I.ok,I.os,I.bare,I.base,I.loc,I.cell,I.free,I.freeC,λp Y=>(JM.mp Y).elim (λz=>I.pin p (mem_append_left _ z)) (h p),I.hok,I.len⟩
def qD{N:List Str}(J:N.Nodup){i j:Nat}(a:N[i]?=some x)(b:N[j]?=some x):i=j:=by
 obtain⟨h1,Y⟩:=II.mp a;obtain⟨h2,Z⟩:=II.mp b;exact(getElem_inj J).mp (Y.trans Z.symm)
def n8{i:Nat}{x:Str}{v:V}{u:Value}{Q:Unit->Shared->Prop}(I:Inv X pins σ H s)(hN:X.N.Nodup)(hi:X.N[i]?=some x)(hx:Loc X.env.scope x)(r:aK v u)
  (h:∀s',Inv X pins (σ.set i (some v)) H s'->(∃a,Heap.SameBut a s.heap s'.heap/\(a=X.env.locals\/X.env.cells.lookup x=some a))->Q () s') (hf:X.fn x=true\/X.env.scope.names.lookup x=some .local:=by first|exact .inl rfl|exact .inr rfl|assumption):wpAny M A (storeName X.env x u) Q E s:=by
 refine ae (id I.loc) λm hn hl=>?_
 have a2:(X.env.scope.kind==.class||(X.env.scope.kind==.module&&X.env.locals != X.env.globals))=false:=by rw[I.ok.kind];rfl
 have ao:i<σ.length:=by rw[I.len];exact(II.mp hi).1
 have cne:=I.cne;have J:∀{a}{h'},(∃o,s.heap.get? a=some o/\H a=none)->Heap.SameBut a s.heap h'->HOk X.prog X.w H h':=λ{a h'} ha hs b ob e=>by
  obtain⟨_,_,Z⟩:=ha;refine(I.hok b ob e).stay (λc w' hc q=>(hs.2 c ?_).trans q) (λ_ q=>q) λ_ _ q=>q
  rintro rfl;rcases hc with rfl|hc
  .rw[Z]at e;exact aT e
  .rw[Z]at hc;exact aT hc
 rcases hx with hk|hk
 .refine wpAny_storeName_local hk hn (λh' br hs=>?_) a2;obtain⟨oL,_,_,bB,_⟩:=id hn;refine h _ ⟨I.ok,I.os,I.bare,⟨λb o e n hb hx=>?_,λb o e n hb hx=>?_,I.base.free,λb o e hx=>?_,I.base.tups,I.base.frzs,I.base.tbls⟩,⟨_,br,λj y v' Y e2 e3=>?_⟩,λy c e=>?_,I.free,I.freeC,λp hp=>?_,J ⟨oL,bB,I.free⟩ hs,by simpa using I.len⟩ ⟨_,hs,.inl rfl⟩
  .exact(hs.2 b (IP (IK (IG e) I.ok.above))).trans (I.base.keep b o e n hb hx)
  .obtain⟨sl,Y⟩:=I.base.slot b o e n hb hx;exact⟨sl,(hs.2 b (IP (IK (IG e) I.ok.above))).trans Y⟩
  .obtain⟨o',Y⟩:=I.base.there b o e hx;exact⟨o',(hs.2 b (IP (IK (IG e) I.ok.above))).trans Y⟩
  .by_cases hj:j=i
   .subst hj;rw[hi]at Y;cases Y
    rw[Jq ao]at e2;cases e2;exact⟨u,r,.inl ⟨hk,by simp⟩⟩
   .rw[IV (JF hj)]at e2;refine ae (hl j y v' Y e2 e3) λu' r' q=>?_
    refine⟨u',r',?_⟩;rcases q with⟨k,e⟩|⟨k,c,e,z⟩
    .refine .inl ⟨k,?_⟩;have:y≠x:=λe=>hj (qD hN Y (e▸hi))
     simp[this,e]
    .exact .inr ⟨k,c,e,z.sameBut hs (cne y c e)⟩
  .obtain⟨w',z⟩:=I.cell y c e;exact⟨w',z.sameBut hs (cne y c e)⟩
  .refine wC (I.pin p hp) λe n ne nf d=>?_
   exact⟨(hs.2 p.1 ne).trans e,n,ne,nf,d⟩
 .have a1:X.fn x=true:=by
   rcases hf with z|z
   .exact z
   .rw[z]at hk;cases hk
  obtain⟨c,hc⟩:=I.ok.has x (.inl hk);obtain⟨w',z⟩:=I.cell x c hc;refine wpAny_storeName_cell I.ok.kind hk hc z (λh' a3 hs=>?_);refine ae (id z) λoc a4 a5=>?_
  refine h { s with heap:=h' } ⟨I.ok,I.os,I.bare,⟨λb o e n hb hx=>?_,λb o e n hb hx=>?_,I.base.free,λb o e hx=>?_,I.base.tups,I.base.frzs,I.base.tbls⟩,⟨m,hn.sameBut hs (JF (cne x c hc)),λj y v' Y e2 e3=>?_⟩,λy c' e=>?_,I.free,I.freeC,λp hp=>?_,J ⟨oc,a4,I.freeC x c hc⟩ hs,by simpa using I.len⟩ ⟨c,hs,.inr hc⟩
  .exact(hs.2 b (IP (IK (IG e) (I.ok.cab x c a1 hc)))).trans (I.base.keep b o e n hb hx)
  .obtain⟨sl,Y⟩:=I.base.slot b o e n hb hx;exact⟨sl,(hs.2 b (IP (IK (IG e) (I.ok.cab x c a1 hc)))).trans Y⟩
  .obtain⟨o',Y⟩:=I.base.there b o e hx;exact⟨o',(hs.2 b (IP (IK (IG e) (I.ok.cab x c a1 hc)))).trans Y⟩
  .by_cases hj:j=i
   .subst hj;rw[hi]at Y;cases Y
    rw[Jq ao]at e2;cases e2;exact⟨u,r,.inr ⟨.inl hk,c,hc,a3⟩⟩
   .rw[IV (JF hj)]at e2;refine ae (hl j y v' Y e2 e3) λu' r' q=>?_
    refine⟨u',r',?_⟩;rcases q with q|⟨k,c',e,z'⟩
    .exact .inl q
    .refine .inr ⟨k,c',e,z'.sameBut hs ?_⟩;rintro rfl;exact hj (qD hN Y (I.ok.inj _ _ _ e hc▸hi))
  .by_cases a6:c'=c
   .subst a6;exact⟨_,a3⟩
   .obtain⟨w2,z2⟩:=I.cell y c' e;exact⟨w2,z2.sameBut hs a6⟩
  .refine wC (I.pin p hp) λe n ne nf d=>?_
   refine⟨(hs.2 p.1 ?_).trans e,n,ne,nf,d⟩;intro q;rw[q,a4]at e;have q':=IT e;exact d w' (by rw[<- q'];exact a5)
def qE{i:Nat}{x:Str}{v:V}{u:Value}{Q:Unit->Shared->Prop}(I:Inv X pins σ H s)(J:X.N.Nodup)(hi:X.N[i]?=some x)(hx:Loc X.env.scope x)(r:aK v u)
  (h:∀s',Inv X pins (σ.set i (some v)) H s'->Q () s') (Y:X.fn x=true\/X.env.scope.names.lookup x=some .local:=by first|exact .inl rfl|exact .inr rfl|assumption):wpAny M A (storeName X.env x u) Q E s:=
 n8 I J hi hx r (λs' Z _=>h s' Z) Y
def Inv.call'(I:Inv X pins σ H s)(ho:s'.os=s.os)(u:Un (frs X.stack) ch H H' s.heap s'.heap)(hok:HOk X.prog X.w H' s'.heap)(Y:AllBare s'.gens)
  (J:∀b∈ch,(b∈X.ex\/X.s₀.heap.objs.size<=b)/\b≠X.env.locals/\(∀x c,X.env.cells.lookup x=some c->c≠b)/\∀p∈X.pn++pins,p.1≠b):Inv X pins σ H' s':=by
 obtain⟨h',g',d',t',o'⟩:=s';have e:=ho;subst e;exact I.call u hok Y J
end
noncomputable abbrev XK:=Value->Option Addr->Hp->Prop
noncomputable abbrev St:=List (Option V)
noncomputable abbrev VK:=V->Hp->Prop
noncomputable abbrev TE:=St->Hp->VK->Prop
noncomputable abbrev TT:=St->Hp->(Bool->Hp->Prop)->Prop
noncomputable abbrev TA:=St->Hp->(List V->Hp->Prop)->Prop
structure jP where
 nx:St->Hp->Prop
 rt:VK
 bk:St->Hp->Prop:=λ_ _=>False
 ct:St->Hp->Prop:=λ_ _=>False
noncomputable abbrev TS:=jP->St->Hp->Prop
def EP(X:Cx)(pins:List (Addr×Obj))(σ:St)(Q:VK)(u:Value)(s':Shared):Prop:=∃v H',Inv X pins σ H' s'/\aK v u/\Q v H'
def TP(X:Cx)(pins:List (Addr×Obj))(σ:St)(Q:Bool->Hp->Prop)(b:Bool)(s':Shared):Prop:=∃H',Inv X pins σ H' s'/\Q b H'
def AP(X:Cx)(pins:List (Addr×Obj))(σ:St)(Q:List V->Hp->Prop)(us:List Value)(s':Shared):Prop:=∃vs H',Inv X pins σ H' s'/\aF vs us/\Q vs H'
def SP(X:Cx)(pins:List (Addr×Obj))(D:jP)(f:Flow)(s':Shared):Prop:=
 match f with
 | .next=>∃J H',Inv X pins J H' s'/\D.nx J H'
 | .brk=>∃J H',Inv X pins J H' s'/\D.bk J H'
 | .cont=>∃J H',Inv X pins J H' s'/\D.ct J H'
 | .ret u=>∃v J H',Inv X pins J H' s'/\aK v u/\D.rt v H'
def PE(X:Cx)(e:Expr)(t:TE):Prop:=
 ∀pins s (σ:St) H Q,Inv X pins σ H s->t σ H Q->wpAny (model X.prog X.w) X.A (eval e X.env) (EP X pins σ Q) X.xe s
def PT(X:Cx)(e:Expr)(t:TT):Prop:=
 ∀pins s (σ:St) H Q,Inv X pins σ H s->t σ H Q->wpAny (model X.prog X.w) X.A (isTrue e X.env (eval e X.env)) (TP X pins σ Q) X.xe s
def PW(X:Cx)(e:Expr)(t:TT):Prop:=
 ∀whole pins s (σ:St) H Q,Inv X pins σ H s->t σ H Q->wpAny (model X.prog X.w) X.A (isTrue e X.env whole) (TP X pins σ Q) X.xe s
theorem PW.pt(h:PW X e t):PT X e t:=h _
def PA(X:Cx)(es:List Expr)(t:TA):Prop:=
 ∀pos pins s (σ:St) H Q,Inv X pins σ H s->t σ H Q->wpAny (model X.prog X.w) X.A (spliced (backTo pos (starEach es X.env))) (AP X pins σ Q) X.xe s
def PS(X:Cx)(st:Stmt)(t:TS):Prop:=
 ∀pins s (σ:St) H D,Inv X pins σ H s->t D σ H->wpAny (model X.prog X.w) X.A (exec st X.env) (SP X pins D) X.xe s
def PSs(X:Cx)(st:List Stmt)(t:TS):Prop:=
 ∀pins s (σ:St) H D,Inv X pins σ H s->t D σ H->wpAny (model X.prog X.w) X.A (execs st X.env) (SP X pins D) X.xe s
def thn(h:wpAny M A t Q E s)(J:∀a s,Q a s->Y a s):wpAny M A t Y E s:=Jn h J λ_ _ x=>x
section
variable{X:Cx}
def bin(ha:PE X a ta)(hb:PE X b tb){σ:St}{R:V->V->Hp->Prop}(I:Inv X pins σ H s)(h:ta σ H λx H1=>tb σ H1 λy H2=>R x y H2)
  {f:Value->Value->Sem α}
  (hf:∀v u Z x y H2,Inv X pins σ H2 Z->aK x v->aK y u->R x y H2->wpAny (model X.prog X.w) X.A (f v u) Q X.xe Z) :
  wpAny (model X.prog X.w) X.A (eval a X.env) (λv J=>wpAny (model X.prog X.w) X.A (eval b X.env) (λu Y=>wpAny (model X.prog X.w) X.A (f v u) Q X.xe Y) X.xe J) X.xe s:=by
 refine thn (ha pins s σ H _ I h) λv s1 hq=>ak hq λx H1 I1 r1 q1=>?_
 refine thn (hb pins s1 σ H1 _ I1 q1) λu Z hq=>ak hq λy H2 I2 r2 q2=>?_
 exact hf v u Z x y H2 I2 r1 r2 q2
noncomputable def cN(i:Nat):TE:=λσ H Q=>∃v,σ[i]?=some (some v)/\Q v H
noncomputable def tC(v:V):TE:=λ_ H Q=>Q v H
def Ci (hN:X.N[i]?=some x) (hv:Vis X.env.scope x) (hd:(x==("__debug__":Str))=false:=by decide) (Z:(x==("__classdict__":Str))=false:=by decide):PE X (.Name x pos) (cN i):=by
 intro pins s σ H Q I h;refine ae h λv e h=>?_
 refine ae I.loc λm hn hl=>?_
 refine ae (hl i x v hN e hv) λu r l=>?_
 have fin:EP X pins σ Q u s:=⟨v,H,I,r,h⟩;rcases l with⟨Y,hm⟩|⟨Y,c,hc,J⟩
 .exact wpAny_Name (wpAny_loadName_local I.ok.kind Y hn hm fin) hd
 .rcases Y with Y|Y
  .exact wpAny_Name (wpAny_loadName_cell I.ok.kind Y hc J fin) hd
  .exact wpAny_Name (wpAny_loadName_free I.ok.kind Y hc J fin Z) hd
def wH{i j pos}:PE X (.Constant (.int i) j pos) (tC (.int i)):=λ_ _ _ H _ I h=>wpAny_Constant_int ⟨.int i,H,I.tok _,⟨_,rfl⟩,h⟩
def BA{b j pos}:PE X (.Constant (.bool b) j pos) (tC (.bl b)):=λ_ _ _ H _ I h=>Constant_bool ⟨.bl b,H,I,rfl,h⟩
def Cj{j pos}:PE X (.Constant .none j pos) (tC .non):=λ_ _ _ H _ I h=>Constant_none ⟨.non,H,I,rfl,h⟩
def r9{x j pos}:PE X (.Constant (.str x) j pos) (tC (.str x)):=λ_ _ _ H _ I h=>Calls.Constant_str ⟨.str x,H,I.tok _,⟨_,rfl⟩,h⟩
def Gl(X:Cx)(x:Str):Prop:=X.env.kindOf x=some .globalImplicit
def ph{pins:List (Addr×Obj)}{s:Shared}{σ:St}{H:Hp}{x:Str}{u:Value}{pos:Pos}{Q:Value->Shared->Prop}(I:Inv X pins σ H s)(J:Gl X x)(Y:X.mg x=some u)(h:Q u s)
  (hd:(x==("__debug__":Str))=false:=by decide):wpAny (model X.prog X.w) X.A (eval (.Name x pos) X.env) Q E s:=
 Calls.Name_function_global I.ok.kind J (Calls.loadGlobal_global (by rw[I.ok.glob];exact I.mod.glob.keeps I.bk) Y h) hd
def iO{E:Value->Shared->Prop}{pins:List (Addr×Obj)}{s:Shared}{σ:St}{H:Hp}{x:Str}{u:Value}{pos:Pos}{Q:Value->Shared->Prop}(I:Inv X pins σ H s)(J:Gl X x)(Y:X.mg x=none)(hv:bootBuiltins x=some u)(h:Q u s)
  (Z:x ≠ "__name__":=by decide) (hd:(x==("__debug__":Str))=false:=by decide):wpAny (model X.prog X.w) X.A (eval (.Name x pos) X.env) Q E s:=by
 refine ae I.mod.blt λmb h1 h2=>?_
 exact Calls.Name_function_global I.ok.kind J (Calls.loadGlobal_builtin (by rw[I.ok.glob];exact I.mod.glob.keeps I.bk) Y (by rw[I.ok.blt];exact h1.keeps I.bk) ((h2 x Z).trans hv) h) hd
def z_ (J:Gl X x) (Y:X.mg x=some u) (r:aK v u) (hd:(x==("__debug__":Str))=false:=by decide):PE X (.Name x pos) (tC v):=
 λ_ _ _ H _ I h=>ph I J Y ⟨v,H,I,r,h⟩ hd
def Aa (J:Gl X x) (Y:X.mg x=none) (hv:bootBuiltins x=some u) (r:aK v u) (Z:x ≠ "__name__":=by decide) (hd:(x==("__debug__":Str))=false:=by decide):PE X (.Name x pos) (tC v):=
 λ_ _ _ H _ I h=>iO I J Y hv ⟨v,H,I,r,h⟩ Z hd
variable{a b:Expr}{ta tb:TE}{pos:Pos}
def PC(X:Cx)(op:CmpOp)(a b:Expr)(t:TE):Prop:=
 ∀pins s (σ:St) H Q,Inv X pins σ H s->t σ H Q ->
  wpAny (model X.prog X.w) X.A (eval a X.env) (λv J=>wpAny (model X.prog X.w) X.A (eval b X.env) (λu Y=>wpAny (model X.prog X.w) X.A (compareOp op v u) (EP X pins σ Q) X.xe Y) X.xe J) X.xe s
def lM(b:Expr){op:CmpOp}(h:op≠.In)(h2:op≠.NotIn):behindInMarks op b=false:=by
 have J:(op==CmpOp.In)=false:=by cases op<;>first|rfl|exact absurd rfl h
 have Y:(op==CmpOp.NotIn)=false:=by cases op<;>first|rfl|exact absurd rfl h2
 cases b<;>simp[behindInMarks,J,Y]
noncomputable def tB(t:TE):TT:=λσ H Q=>t σ H λx H1=>∃c,x=.bl c/\Q c H1
def wI(h:PC X op a b t)(h1:behindInMarks op b=false:=by first|exact lM _ (by decide) (by decide)|rfl):PE X (.Compare a [op] [b] pos) t:=λpins s σ H Q I hw=>wpAny_Compare1 (h pins s σ H Q I hw) h1
def wJ(h:PC X op a b t)(h1:behindInMarks op b=false:=by first|exact lM _ (by decide) (by decide)|rfl):PT X (.Compare a [op] [b] pos) (tB t):=by
 intro pins s σ H Q I hw;refine wpAny_isTrue_Compare1 (thn (h pins s σ H _ I hw) λv s1 h1=>thn h1 λu s2 h2=>thn h2 λc s3 Y=>ak Y λx H1 Z r1 q1=>?_) h1;refine ae q1 λd J q=>?_
 subst J;subst r1;exact JZ ⟨H1,Z,q⟩
def Ck(h:PE X e t)(Y:∀whole,isTrue e X.env whole=(do let v <- whole;standAt e.pos;holding [v] (truthy v)):=by intro _;rfl):PT X e (tB t):=by
 intro pins s σ H Q I hw;refine isTrue_plain (thn (h pins s σ H _ I hw) λv s1 Z=>ak Z λx H1 I1 r1 q1=>?_) (Y _);refine ae q1 λd J q=>?_
 subst J;subst r1;exact JZ ⟨H1,I1,q⟩
variable{tA tB':TT}{cE:List Expr}
noncomputable def HE(t u:TT):TT:=λσ H Q=>t σ H λc H1=>if c=true then u σ H1 Q else Q false H1
noncomputable def tOr(t u:TT):TT:=λσ H Q=>t σ H λc H1=>if c=true then Q true H1 else u σ H1 Q
noncomputable def HF(t:TT):TT:=λσ H Q=>t σ H λc H1=>Q (!c) H1
def Ab(J:PT X a tA):PW X (.BoolOp .And [a] pos) tA:=by
 intro Y pins s σ H Q I h;refine isTrue_and (thn (J pins s σ H Q I h) λc s1 e=>?_);cases c<;>first|exact isTrue_and_nil e|exact e
def wK(J:PT X a tA):PW X (.BoolOp .Or [a] pos) tA:=by
 intro Y pins s σ H Q I h;refine isTrue_or (thn (J pins s σ H Q I h) λc s1 e=>?_);cases c<;>first|exact isTrue_or_nil e|exact e
def Cl(Z:PT X a tA)(hb:PW X (.BoolOp .And (b::cE) pos) tB'):PW X (.BoolOp .And (a::b::cE) pos) (HE tA tB'):=by
 intro wh pins s σ H Q I h;refine isTrue_and (thn (Z pins s σ H _ I h) λc s1 hq=>ae hq λH1 J Y=>?_);cases c<;>first|exact hb wh pins s1 σ H1 Q J Y|exact⟨H1,J,Y⟩
def BB(Z:PT X a tA)(hb:PW X (.BoolOp .Or (b::cE) pos) tB'):PW X (.BoolOp .Or (a::b::cE) pos) (tOr tA tB'):=by
 intro wh pins s σ H Q I h;refine isTrue_or (thn (Z pins s σ H _ I h) λc s1 hq=>ae hq λH1 J Y=>?_);cases c<;>first|exact⟨H1,J,Y⟩|exact hb wh pins s1 σ H1 Q J Y
def Cm(J:PT X a tA):PT X (.UnaryOp .Not a pos) (HF tA):=by
 intro pins s σ H Q I h;exact isTrue_not (J pins s σ H (λc H1=>Q _ H1) I h)
noncomputable def Fj(ta tb:TE):TE:=λσ H Q=>ta σ H λx H1=>∃c,x=.bl c/\if c=true then tb σ H1 Q else Q (.bl false) H1
noncomputable def HG(ta tb:TE):TE:=λσ H Q=>ta σ H λx H1=>∃c,x=.bl c/\if c=true then Q (.bl true) H1 else tb σ H1 Q
noncomputable def Fk(ta:TE):TE:=λσ H Q=>ta σ H λx H1=>∃c,x=.bl c/\Q (.bl (!c)) H1
def r_{op}(h:PE X a t):PE X (.BoolOp op [a] pos) t:=λpins s σ H Q I hw=>BoolOp_one (h pins s σ H Q I hw)
def wL(Z:PE X a ta)(hb:PE X (.BoolOp .And (b::cE) pos) tb):PE X (.BoolOp .And (a::b::cE) pos) (Fj ta tb):=by
 intro pins s σ H Q I h;refine BoolOp_and (thn (Z pins s σ H _ I h) λv s1 hq=>ak hq λx H1 Y r1 J=>?_);obtain⟨c,rfl,J⟩:=J;subst r1;refine JZ ?_;cases c<;>first|exact hb pins s1 σ H1 Q Y J|exact⟨.bl false,H1,Y,rfl,J⟩
def Fl(Z:PE X a ta)(hb:PE X (.BoolOp .Or (b::cE) pos) tb):PE X (.BoolOp .Or (a::b::cE) pos) (HG ta tb):=by
 intro pins s σ H Q I h;refine BoolOp_or (thn (Z pins s σ H _ I h) λv s1 hq=>ak hq λx H1 Y r1 J=>?_);obtain⟨c,rfl,J⟩:=J;subst r1;refine JZ ?_;cases c<;>first|exact hb pins s1 σ H1 Q Y J|exact⟨.bl true,H1,Y,rfl,J⟩
def Cn(Y:PE X a ta):PE X (.UnaryOp .Not a pos) (Fk ta):=by
 intro pins s σ H Q I h;refine UnaryOp_ (thn (Y pins s σ H _ I h) λv s1 Z=>ak Z λx H1 I1 r1 J=>?_);obtain⟨c,rfl,J⟩:=J;subst r1;exact not_of (JZ ⟨.bl _,H1,I1,rfl,J⟩)
noncomputable def tIf(t:TT)(ta tb:TE):TE:=λσ H Q=>t σ H λc H1=>if c=true then ta σ H1 Q else tb σ H1 Q
def wM(hc:PT X c tA)(Z:PE X a ta)(hb:PE X b tb):PE X (.IfExp c a b pos) (tIf tA ta tb):=by
 intro pins s σ H Q I h;refine wpAny_IfExp (thn (hc pins s σ H _ I h) λd s1 hq=>ae hq λH1 J Y=>?_);cases d<;>first|exact Z pins s1 σ H1 Q J Y|exact hb pins s1 σ H1 Q J Y
end
def SqL(K:Mx)(H:Hp)(a:Addr)(xs:List V):Prop:=
 Rd H a (.lst xs) \/
  ∃o its n,K.lookup a=some o/\o.cls=.type "list"/\o.dict=none/\o.data=.seq its n/\its.size<=sizeLine/\aF xs its.toList
def SqT(K:Mx)(H:Hp)(a:Addr)(xs:List V):Prop:=
 Rd H a (.tup xs) \/
  ∃o its n,K.lookup a=some o/\o.cls=.type "tuple"/\o.data=.seq its n/\its.size<=sizeLine/\aF xs its.toList
noncomputable def HH:Value->Option V
 | .none=>some .non
 | .bool b=>some (.bl b)
 | .int i _=>some (.int i)
 | .str x _=>some (.str x)
 | .bytes b _=>some (.byt b)
 | .float b _=>some (.flt b)
 | .ref a=>some (.ref a)
 | .type n=>some (.ty n)
 | _=>none
theorem aK.abs(r:aK x u):HH u=some x:=by
 cases x<;>first|(subst r;rfl)|(obtain⟨t,rfl⟩:=r;rfl)
theorem aK.inj(r:aK x u)(q:aK y u):x=y:=IT (r.abs.symm.trans q.abs)
theorem aF.inj:∀{xs ys}{us},aF xs us->aF ys us->xs=ys
 | _,_,_,.nil,.nil=>rfl
 | _,_,_,.cons r t,.cons J t'=>by rw[r.inj J,aF.inj t t']
section
variable{X:Cx}{pins:List (Addr×Obj)}{σ:St}{H:Hp}{s:Shared}{a:Addr}{xs ys:List V}
theorem SqL.of{K:Mx}(h:H a=some (.lst xs)):SqL K H a xs:=.inl (.inl h)
theorem SqT.of{K:Mx}(h:H a=some (.tup xs)):SqT K H a xs:=.inl (.inl h)
theorem Inv.list(I:Inv X pins σ H s)(h:SqL X.K H a xs):∃its,aF xs its/\PlainL s.heap a its.toArray/\xs.length<=sizeLine:=by
 rcases h with h|⟨o,its,n,J,hc,hd,hs,hz,r⟩
 .obtain⟨z,its,n,r,e⟩:=h.ok I.hok;exact⟨its,r,⟨_,n,e,rfl,rfl,rfl⟩,z⟩
 .refine⟨its.toList,r,⟨o,n,I.kIn a o J,hc,hd,by simpa using hs⟩,?_⟩;have e:=r.length
  simp_all
def Inv.tuple(I:Inv X pins σ H s)(h:SqT X.K H a xs):∃its,aF xs its/\IsTup s.heap a its.toArray/\xs.length<=sizeLine:=by
 rcases h with h|⟨o,its,n,J,hc,hs,hz,r⟩
 .obtain⟨z,its,r,p⟩:=h.ok I.hok;exact⟨its,r,p,z⟩
 .refine⟨its.toList,r,⟨o,I.kIn a o J,hc,n,by simpa using hs⟩,?_⟩;have e:=r.length
  simp_all
def Inv.list_inj(I:Inv X pins σ H s)(h:SqL X.K H a xs)(h':SqL X.K H a ys):xs=ys:=by
 obtain⟨its,r,⟨o,n,e,_,_,d⟩,_⟩:=I.list h;obtain⟨its',Y,⟨o',n',J,_,_,d'⟩,_⟩:=I.list h';rw[e]at J;cases J
 rw[d]at d';injection d' with Z _
 have:its=its':=by simpa using JD Array.toList Z
 subst this;exact r.inj Y
def Inv.tuple_inj(I:Inv X pins σ H s)(h:SqT X.K H a xs)(h':SqT X.K H a ys):xs=ys:=by
 obtain⟨its,r,⟨o,e,_,n,d⟩,_⟩:=I.tuple h;obtain⟨its',Y,⟨o',J,_,n',d'⟩,_⟩:=I.tuple h';rw[e]at J;cases J
 rw[d]at d';injection d' with Z _
 have:its=its':=by simpa using JD Array.toList Z
 subst this;exact r.inj Y
end
noncomputable abbrev Cx.wish(X:Cx)(E:Value->Shared->Prop):Cx:={ X with xe:=E }
noncomputable abbrev Cx.nox(X:Cx):Cx:=X.wish λ_ _=>False
theorem Cx.Ok.wish{X:Cx}(ok:X.Ok)(E:Value->Shared->Prop):(X.wish E).Ok:=
 ⟨ok.mod,ok.kind,ok.glob,ok.blt,ok.above,ok.inj,ok.has,ok.cab,ok.hd,ok.frames,ok.stk,ok.exf,ok.bs,ok.bsz,ok.noex,ok.exfs,ok.funs,ok.frf⟩
theorem Cx.Ok.unwish{X:Cx}{E:Value->Shared->Prop}(ok:(X.wish E).Ok):X.Ok:=
 ⟨ok.mod,ok.kind,ok.glob,ok.blt,ok.above,ok.inj,ok.has,ok.cab,ok.hd,ok.frames,ok.stk,ok.exf,ok.bs,ok.bsz,ok.noex,ok.exfs,ok.funs,ok.frf⟩
section
variable{X:Cx}{pins:List (Addr×Obj)}{σ:St}{H:Hp}{s:Shared}{E:Value->Shared->Prop}
theorem Inv.wish(I:Inv X pins σ H s)(E:Value->Shared->Prop):Inv (X.wish E) pins σ H s:=⟨I.ok.wish E,I.os,I.bare,I.base,I.loc,I.cell,I.free,I.freeC,I.pin,I.hok,I.len⟩
theorem Inv.unwish(I:Inv (X.wish E) pins σ H s):Inv X pins σ H s:=⟨I.ok.unwish,I.os,I.bare,I.base,I.loc,I.cell,I.free,I.freeC,I.pin,I.hok,I.len⟩
theorem SP.unwish(h:SP (X.wish E) pins D f s'):SP X pins D f s':=by
 cases f<;>first|(obtain⟨J,H',I,q⟩:=h;exact⟨J,H',I.unwish,q⟩)|(obtain⟨v,J,H',I,r,q⟩:=h;exact⟨v,J,H',I.unwish,r,q⟩)
theorem PSs.nox{st:List Stmt}(h:PSs X.nox st t):PSs X st t:=λpins s σ H D I hw =>
 Jn (h pins s σ H D (I.wish _) hw) (λ_ _ q=>q.unwish) λ_ _ z=>False.elim z
end
section
variable{X:Cx}{st:Stmt}{cE:List Stmt}{t u:TS}{e:Expr}{te:TE}{pos:Pos}
noncomputable def cW:TS:=λD σ H=>D.nx σ H
noncomputable def gW(t u:TS):TS:=λD σ H=>t { D with nx:=u D } σ H
def dv:PSs X [] cW:=λ_ _ σ H _ I h=>wpAny_execs_nil ⟨σ,H,I,h⟩
def bm(h1:PS X st t)(h2:PSs X cE u):PSs X (st::cE) (gW t u):=by
 intro pins s σ H D I h;refine wpAny_execs_cons (thn (h1 pins s σ H { D with nx:=u D } I h) λf s1 q=>?_);cases f with
 |next =>
  refine cf q λJ H' Y q=>?_
  exact h2 pins s1 J H' D Y q
 | _=>exact q
def cI(h1:PS X st t):PSs X [st] t:=by
 intro pins s σ H D I h;refine wpAny_execs_cons (thn (h1 pins s σ H D I h) λf s1 q=>?_);cases f with
 |next=>exact wpAny_execs_nil q
 |ret v=>exact q
 |brk=>exact q
 |cont=>exact q
def Inv.quiet(I:Inv X pins σ H s):interactive X.env=false:=by simp[interactive,I.ok.kind]
noncomputable def fw(te:TE):TS:=λD σ H=>te σ H λ_ H1=>D.nx σ H1
def eF(J:PE X e te)(hs:swapsWith e none pos.line X.env=pure false:=by rfl):PS X (.Expr e pos) (fw te):=by
 intro pins s σ H D I h;exact wpAny_Expr_any (thn (J pins s σ H _ I h) λv s1 Y=>ak Y λx H1 Z r1 q1=>⟨σ,H1,Z,q1⟩) I.quiet hs
noncomputable def HI(te:TE):TS:=λD σ H=>te σ H D.rt
def iP(J:PE X e te):PS X (.Return (some e) pos) (HI te):=by
 intro pins s σ H D I h;exact wpAny_Return_some (thn (J pins s σ H _ I h) λv s1 Y=>ak Y λx H1 Z r1 q1=>⟨x,σ,H1,Z,r1,q1⟩)
noncomputable def fu(c:TT)(t u:TS):TS:=λD σ H=>c σ H λb H1=>if b=true then t D σ H1 else u D σ H1
def hX(hc:PT X c tc)(Z:PSs X a t)(hb:PSs X b u):PS X (.If c a b pos) (fu tc t u):=by
 intro pins s σ H D I h;refine wpAny_If (thn (hc pins s σ H _ I h) λd s1 hq=>ae hq λH1 J Y=>?_);cases d<;>first|exact Z pins s1 σ H1 D J Y|exact hb pins s1 σ H1 D J Y
noncomputable def Co:TS:=λ_ _ _=>False
def wN:PS X st Co:=λ_ _ _ _ _ _ h=>h.elim
end
noncomputable abbrev TG:=V->St->Hp->(St->Hp->Prop)->Prop
noncomputable abbrev TGs:=List V->St->Hp->(St->Hp->Prop)->Prop
def PG(X:Cx)(target:Expr)(t:TG):Prop:=
 ∀pins s (σ:St) H v u Q,Inv X pins σ H s->aK v u->t v σ H Q ->
  wpAny (model X.prog X.w) X.A (assign target X.env u) (λ_ s'=>∃J H',Inv X pins J H' s'/\Q J H') X.xe s
def PGs(X:Cx)(Y:List Expr)(t:TGs):Prop:=
 ∀pins s (σ:St) H vs us Q,Inv X pins σ H s->aF vs us->t vs σ H Q ->
  wpAny (model X.prog X.w) X.A (assignInOrder ((assignEach Y X.env).map (·.2)) us) (λ_ s'=>∃J H',Inv X pins J H' s'/\Q J H') X.xe s
noncomputable abbrev Fm:=V->V->V->Hp->(Hp->Prop)->Prop
def Fn(X:Cx)(t:Fm):Prop:=
 ∀pins s (σ:St) H o i v J Y u Q,Inv X pins σ H s->aK o J->aK i Y->aK v u->t o i v H Q ->
  wpAny (model X.prog X.w) X.A (setItem J Y u) (λ_ s'=>∃H',Inv X pins σ H' s'/\Q H') X.xe s
section
variable{X:Cx}{pos:Pos}
noncomputable def hZ(i:Nat):TG:=λv σ H Q=>Q (σ.set i (some v)) H
def lq(J:X.N.Nodup)(hi:X.N[i]?=some x)(hx:Loc X.env.scope x)(Y:X.fn x=true\/X.env.scope.names.lookup x=some .local:=by first|exact .inl rfl|exact .inr rfl|assumption):PG X (.Name x pos) (hZ i):=by
 intro pins s σ H v u Q I r h;exact wpAny_assign_Name (qE I J hi hx r (λs' Z=>⟨_,H,Z,h⟩) Y)
noncomputable def Fo:TGs:=λvs σ H Q=>vs=[]/\Q σ H
noncomputable def BC(t:TG)(u:TGs):TGs:=λvs σ H Q=>∃v r,vs=v::r/\t v σ H λJ H'=>u r J H' Q
def Ac:PGs X [] Fo:=by
 intro pins s σ H vs us Q I r h;obtain⟨e,h⟩:=h;subst e;cases r;exact assignInOrder_nil ⟨σ,H,I,h⟩
def wO(h1:PG X e t)(h2:PGs X es u)
  (hs:(assignEach (e::es) X.env).map (·.2)=assign e X.env::(assignEach es X.env).map (·.2):=by rfl):PGs X (e::es) (BC t u):=by
 intro pins s σ H vs us Q I r h;obtain⟨v,vr,Y,h⟩:=h;subst Y;cases r with
 |cons r Z =>
  rw[hs];refine assignInOrder_cons (thn (h1 pins s σ H _ _ _ I r h) λ_ s1 hq=>cf hq λJ H1 I1 q1=>?_);exact h2 pins s1 J H1 _ _ Q I1 Z q1
noncomputable def Fp(K:Mx)(n:Nat)(t:TGs):TG:=λv σ H Q=>∃a xs,v=.ref a/\SqT K H a xs/\xs.length=n/\t xs σ H Q
def Cq{k:Nat}(hc:X.calm=true)(h:PGs X es t)
  (Z:(assignEach es X.env).length=n:=by rfl) (J:(assignEach es X.env).findIdx? (·.1)=none:=by rfl):PG X (.Tuple es k pos) (Fp X.K n t):=by
 intro pins s σ H v u Q I r hw;refine bf λZq kq=>?_
 obtain⟨a,xs,e1,hq,hl,hw⟩:=hw;subst e1;subst r;refine aQ (I.tuple hq) λits Y ht hz=>?_
 refine kq ?_;refine assign_Tuple_tuple (I.ok.hd hc) ht (by simp[Z,<- hl,Y.length]) J λh' hx=>?_
 have I1:=I.kept (t':=s.toks) λb o e=>hx b o (IP (IG e)) e
 exact h pins _ σ H xs _ Q I1 Y hw
noncomputable def HJ(to J:TE)(t:Fm):TG:=λv σ H Q=>to σ H λo H1=>J σ H1 λi H2=>t o i v H2 λY=>Q σ Y
def Cr(ho:PE X o to)(hi:PE X i Z)(hs:Fn X t)
  (ha:∀v,assign (.Subscript o i pos) X.env v=(do
   let J <- holding [v] (eval o X.env)
   let Y <- holding [v,J] (eval i X.env)
   standAt pos
   holding [v,J,Y] (setItem J Y v)
   release [v,J,Y] []):=by intro _;rfl):PG X (.Subscript o i pos) (HJ to Z t):=by
 intro pins s σ H v u Q I r h;rw[ha];refine gf (Jj (thn (ho pins s σ H _ I h) λJ s1 ⟨x,H1,I1,r1,q1⟩=>?_));refine gf (Jj (thn (hi pins s1 σ H1 _ I1 q1) λY s2 ⟨y,H2,I2,r2,q2⟩=>?_));refine gf (wpAny_standAt (gf (Jj (thn (hs pins s2 σ H2 x y v J Y u _ I2 r1 r2 r q2) λ_ s3 ⟨H3,I3,q3⟩=>?_))));exact wpAny_release ⟨σ,H3,I3,q3⟩
noncomputable def vm(te:TE)(g:TG):TS:=λD σ H=>te σ H λx H1=>g x σ H1 D.nx
def Cs(J:PE X e te)(Y:PG X tg g)(hs:swapsWithSole [tg] e pos.line X.env=pure false:=by rfl)(hw:swappedStores [tg] e X.env=pure none:=by rfl)
  (h1:(assignEach [tg] X.env).map (·.2)=[assign tg X.env]:=by rfl):PS X (.Assign [tg] e pos) (vm te g):=by
 intro pins s σ H D I h;refine wpAny_Assign_stores (thn (J pins s σ H _ I h) λv s1 ⟨x,H1,Z,r1,q1⟩=>?_) hs hw;rw[h1];exact thn (Y pins s1 σ H1 x v _ Z r1 q1) λ_ s2 q=>q
def jQ(J:X.N.Nodup)(hi:X.N[i]?=some x)(hx:Loc X.env.scope x)(Y:PE X e te)(hs:swapsWith e (some (.Name x pos')) pos.line X.env=pure false:=by rfl)(Z:X.fn x=true\/X.env.scope.names.lookup x=some .local:=by first|exact .inl rfl|exact .inr rfl|assumption) :
  PS X (.Assign [.Name x pos'] e pos) (vm te (hZ i)):=by
 intro pins s σ H D I h;refine wpAny_Assign_Name (thn (Y pins s σ H _ I h) λv s1 hq=>ak hq λy H1 I1 r1 q1=>?_) hs;exact qE I1 J hi hx r1 (λs2 I2=>⟨_,H1,I2,q1⟩) Z
end
structure It where
 go:Nat->Hp->Prop
 yld:Nat->Hp->V->Hp->Prop
 stop:Nat->Hp->Prop
def jc(X:Cx)(pins:List (Addr×Obj))(H:Hp)(b:Addr):Prop:=
 H b=none/\b≠X.env.locals/\b∉X.fs/\(b∈X.ex\/X.s₀.heap.objs.size<=b)/\(∀x c,X.env.cells.lookup x=some c->c≠b)/\∀p∈X.pn++pins,p.1≠b
theorem Inv.fpOk{σ:St}{H H':Hp}{s:Shared}{b:Addr}(I:Inv X pins σ H s)(J:s.heap.objs.size<=b)(Y:H' b=none):jc X pins H' b:=by
 refine⟨Y,J4 (IK I.lt J),I.nofs J,.inr (IQ I.sz J),λx c e z=>?_,λp Z z=>?_⟩
 .obtain⟨v,q⟩:=I.cell x c e;exact absurd (IK q.lt (by rw[z];exact J)) (Jy _)
 .exact absurd (IK (IG (I.pin p Z).1) (by rw[z];exact J)) (Jy _)
structure pi(P:Program)(w:World)(K:Mx)(tg:Expr)(J:It)(fp:List Addr)(it:Addr)(tn:Nat->Heap->Prop):Prop where
 mem:it∈fp
 obj:∀i h,tn i h->∀b∈fp,∃o,h.get? b=some o/\∀v,o.data≠.cell v
 keep:∀i h h',tn i h->(∀b∈fp,∀o,h.get? b=some o->h'.get? b=some o)->tn i h'
 item:∀(X:Cx),X.prog=P->X.w=w->X.K=K->X.calm=true->∀(i:Nat) (pins:List (Addr×Obj)) (s:Shared) (σ:St) (H:Hp) (E:Value->Shared->Prop),Inv X pins σ H s->(∀b∈fp,jc X pins H b)->tn i s.heap->J.go i H ->
  wpAny (model P w) X.A (pyNext (.ref it)) (λr s1=>∃u,r=some u /\
   wpAny (model P w) X.A (letOwnedTupleGo tg (.ref it) u) (λ_ s2=>∃x H',Inv X pins σ H' s2/\aK x u/\J.yld i H x H'/\tn (i+1) s2.heap/\∀b∈fp,H' b=none) E s1) E s
 done:∀(X:Cx),X.prog=P->X.w=w->X.K=K->X.calm=true->∀(i:Nat) (pins:List (Addr×Obj)) (s:Shared) (σ:St) (H:Hp) (E:Value->Shared->Prop),Inv X pins σ H s->(∀b∈fp,jc X pins H b)->tn i s.heap->J.stop i H ->
  wpAny (model P w) X.A (pyNext (.ref it)) (λr s1=>r=none/\Inv X pins σ H s1) E s
 self:∀(A:Around) (i:Nat) (s:Shared) (Q:Value->Shared->Prop) (E:Value->Shared->Prop),tn i s.heap->Q (.ref it) s->wpAny (model P w) A (pyIter (.ref it)) Q E s
noncomputable abbrev TI:=St->Hp->(It->Hp->Prop)->Prop
def PIE(X:Cx)(pins:List (Addr×Obj))(σ:St)(tg:Expr)(R:It->Hp->Prop)(Y:Value)(Z:Shared):Prop:=
 ∃it fp tn J H',Y=.ref it/\Inv X pins σ H' Z/\pi X.prog X.w X.K tg J fp it tn/\tn 0 Z.heap/\(∀b∈fp,jc X pins H' b)/\R J H'
def PI(X:Cx)(tg iter:Expr)(wi:TI):Prop:=
 ∀pins s (σ:St) H R,Inv X pins σ H s->wi σ H R ->
  wpAny (model X.prog X.w) X.A (eval iter X.env) (λv s1=>wpAny (model X.prog X.w) X.A (pyIter v) (PIE X pins σ tg R) X.xe s1) X.xe s
def tX{s:Shared}{tg:Expr}{it:Addr}{u:Value}{o:Obj}{n:String}{vs:Array Value}{Q:Unit->Shared->Prop}(ho:s.heap.get? it=some o)(hc:o.cls=.type n)(hd:o.data=.fields vs)
    (hn:["enumerate","zip","dict_itemiterator","dict_reverseitemiterator","odict_iterator","itertools.zip_longest","itertools.pairwise"].contains n=false) (hQ:Q () s):wpAny M A (letOwnedTupleGo tg (.ref it) u) Q E s:=by
  cases tg<;>first
    | exact oe hQ
    | (cases u<;>first
        | exact oe hQ
        | (refine gf (wpAny_load ho ?_)
           rw[hc,hd];show wpAny M A (if (["enumerate","zip","dict_itemiterator","dict_reverseitemiterator","odict_iterator","itertools.zip_longest","itertools.pairwise"].contains n&&vs[0]?==some (rawInt _))=true then _ else _) Q E s;rw[if_neg (by intro h;rw[hn,Lo]at h;exact dq h)];exact oe hQ))
noncomputable def Itl(K:Mx)(a:Addr):It:=
 ⟨λi H=>∃xs x,SqL K H a xs/\xs[i]?=some x,λi H x H'=>H'=H/\∀xs,SqL K H a xs->xs[i]?=some x,λi H=>∃xs,SqL K H a xs/\xs.length<=i⟩
noncomputable def Itt(K:Mx)(a:Addr):It:=
 ⟨λi H=>∃xs x,SqT K H a xs/\xs[i]?=some x,λi H x H'=>H'=H/\∀xs,SqT K H a xs->xs[i]?=some x,λi H=>∃xs,SqT K H a xs/\xs.length<=i⟩
noncomputable def Itr(lo:Int)(n:Nat):It:=⟨λi _=>i<n,λi H x H'=>H'=H/\x=.int (lo+i),λi _=>n<=i⟩
def vn{K:Mx}(a it):pi P w K tg (Itl K a) [it] it (λi h=>h.IsListIter it a i) where
 mem:=by simp
 obj:=λi h st b J=>by
  refine aQ st λo e c d=>?_
  simp_all
 keep:=λi h h' st k=>st.at λo e=>k it (by simp) o e
 item:=by
  intro X hP hw hK hc i pins s σ H E I Z st hg;refine bf λZq kq=>?_
  subst hP hw hK;refine cf hg λxs x hq hx=>?_
  refine aQ (I.list hq) λits rv p hz=>?_
  refine ae (rv.get hx) λu hu ru=>?_
  refine i9 (Z it (by simp)) λf0 f1 f2 f3 f4 f5=>?_
  refine kq ?_;refine wpAny_pyNext_list_item st p.isList (by simpa using hu) λh' Y sb=>?_
  have I1:=I.turned (t':=s.toks) (λb o J e=>(sb.2 b J).trans e) f0 f1 f3 f4 f5;refine aQ (id Y) λo e c d=>?_
  exact⟨u,rfl,tX e c d (by decide) ⟨x,H,I1,ru,⟨rfl,λys hy=>by rw[I.list_inj hy hq];exact hx⟩,Y,λb J=>(Z b J).1⟩⟩
 done:=by
  intro X hP hw hK hc i pins s σ H E I Z st hg;refine bf λZq kq=>?_
  subst hP hw hK;refine ae hg λxs hq hx=>?_
  refine aQ (I.list hq) λits rv p hz=>?_
  refine i9 (Z it (by simp)) λf0 f1 f2 f3 f4 f5=>?_
  have hl:=rv.length;refine kq ?_;exact wpAny_pyNext_list_end (I.ok.hd hc) st p.isList (by simp;omega) λh' eb=>⟨rfl,I.turned (λb o J e=>eb b o J e) f0 f1 f3 f4 f5⟩
 self:=λ_ _ _ _ _ st h=>wpAny_pyIter_listiter st h
def sd{K:Mx}(a it):pi P w K tg (Itt K a) [it] it (λi h=>h.IsTupleIter it a i) where
 mem:=by simp
 obj:=λi h st b J=>by
  refine aQ st λo e c d=>?_
  simp_all
 keep:=λi h h' st k=>st.at λo e=>k it (by simp) o e
 item:=by
  intro X hP hw hK hc i pins s σ H E I Z st hg;refine bf λZq kq=>?_
  subst hP hw hK;refine cf hg λxs x hq hx=>?_
  refine aQ (I.tuple hq) λits rv p hz=>?_
  refine ae (rv.get hx) λu hu ru=>?_
  refine i9 (Z it (by simp)) λf0 f1 f2 f3 f4 f5=>?_
  refine kq ?_;refine wpAny_pyNext_tuple_item st (show s.heap.IsTuple a its.toArray from p) (by simpa using hu) λh' Y sb=>?_
  have I1:=I.turned (t':=s.toks) (λb o J e=>(sb.2 b J).trans e) f0 f1 f3 f4 f5;refine aQ (id Y) λo e c d=>?_
  exact⟨u,rfl,tX e c d (by decide) ⟨x,H,I1,ru,⟨rfl,λys hy=>by rw[I.tuple_inj hy hq];exact hx⟩,Y,λb J=>(Z b J).1⟩⟩
 done:=by
  intro X hP hw hK hc i pins s σ H E I Z st hg;refine bf λZq kq=>?_
  subst hP hw hK;refine ae hg λxs hq hx=>?_
  refine aQ (I.tuple hq) λits rv p hz=>?_
  refine i9 (Z it (by simp)) λf0 f1 f2 f3 f4 f5=>?_
  have hl:=rv.length;refine kq ?_;exact wpAny_pyNext_tuple_end (I.ok.hd hc) st (show s.heap.IsTuple a its.toArray from p) (by simp;omega) λh' eb=>⟨rfl,I.turned (λb o J e=>eb b o J e) f0 f1 f3 f4 f5⟩
 self:=λ_ _ _ _ _ st h=>wpAny_pyIter_tupleiter st h
def se{K:Mx}(it)(lo)(n):pi P w K tg (Itr lo n) [it] it (λi h=>IsRangeIter h it (lo+(i:Nat)*1) ((n:Int)-(i:Nat)) 1) where
 mem:=by simp
 obj:=λi h st b J=>by
  simp_all
 keep:=λi h h' st k=>k it (by simp) _ st
 item:=by
  intro X hP hw hK hc i pins s σ H E I Z st hg;subst hP hw hK;refine i9 (Z it (by simp)) λf0 f1 f2 f3 f4 f5=>?_
  have W:=Walks.range (prog:=X.prog) (w:=X.w) (I.ok.hd hc) it lo 1 n;refine W.item i s _ _ hg st λv h' tk hv Y kk=>?_
  obtain⟨t,rfl⟩:=hv;have I1:Inv X pins σ H { s with heap:=h',toks:=tk }:=I.turned (λb o J e=>kk b o (by simpa using J) e) f0 f1 f3 f4 f5;refine⟨_,rfl,tX Y rfl rfl (by decide) ⟨.int _,H,I1,⟨t,?_⟩,⟨rfl,rfl⟩,Y,λb J=>(Z b J).1⟩⟩;rw[Int.mul_one]
 done:=by
  intro X hP hw hK hc i pins s σ H E I Z st hg;refine i9 (Z it (by simp)) λf0 f1 f2 f3 f4 f5=>?_
  exact wpAny_pyNext_range_end (I.ok.hd hc) st (by have:n<=i:=hg;omega) λh' eb=>⟨rfl,I.turned (λb o J e=>eb b o J e) f0 f1 f3 f4 f5⟩
 self:=λ_ _ _ _ _ st h=>wpAny_pyIter_rangeiter st h
section
variable{X:Cx}{tg:Expr}
noncomputable def BD(K:Mx)(tl:TE):TI:=λσ H R=>tl σ H λx H1=>∃a,x=.ref a/\(∃xs,SqL K H1 a xs)/\R (Itl K a) H1
noncomputable def HK(K:Mx)(tl:TE):TI:=λσ H R=>tl σ H λx H1=>∃a,x=.ref a/\(∃xs,SqT K H1 a xs)/\R (Itt K a) H1
def pj(Y:PE X l tl):PI X tg l (BD X.K tl):=by
 intro pins s σ H R I h;refine thn (Y pins s σ H _ I h) λv s1 ⟨x,H1,J,Z,q1⟩=>?_
 obtain⟨a,e,⟨xs,hq⟩,q⟩:=q1;subst e;subst Z;refine aQ (J.list hq) λits rv p hz=>?_
 refine KS p.isList ?_;refine⟨s1.heap.objs.size,[s1.heap.objs.size],_,_,H1,rfl,J.kept (t':=s1.toks) λb o e=>ox _ e,vn a _,⟨_,IH _ rfl,rfl,rfl⟩,λb hb=>?_,q⟩;have e:b=s1.heap.objs.size:=by simpa using hb
 subst e;exact J.fpOk (y4 _) (J.hok.fresh (y4 _))
def wP(Y:PE X l tl):PI X tg l (HK X.K tl):=by
 intro pins s σ H R I h;refine thn (Y pins s σ H _ I h) λv s1 ⟨x,H1,J,Z,q1⟩=>?_
 obtain⟨a,e,⟨xs,hq⟩,q⟩:=q1;subst e;subst Z;refine aQ (J.tuple hq) λits rv p hz=>?_
 refine Lh (show s1.heap.IsTuple a its.toArray from p) ?_;refine⟨s1.heap.objs.size,[s1.heap.objs.size],_,_,H1,rfl,J.kept λb o e=>ox _ e,sd a _,⟨_,IH _ rfl,rfl,rfl⟩,λb hb=>?_,q⟩;have e:b=s1.heap.objs.size:=by simpa using hb
 subst e;exact J.fpOk (y4 _) (J.hok.fresh (y4 _))
def qF{σ:St}{H:Hp}{s:Shared}{R:It->Hp->Prop}{E:Value->Shared->Prop}{lo hi:Int}{t u v:Tok}{tk:Nat}(I:Inv X pins σ H s)(h1:-(2 ^ 62)<=lo)(h2:lo<2 ^ 62)(Y:-(2 ^ 62)<=hi)(Z:hi<2 ^ 62)
  (q:R (Itr lo (hi-lo).toNat) H):wpAny (model X.prog X.w) X.A (pyIter (.ref s.heap.objs.size)) (PIE X pins σ tg R) E { s with heap:=s.heap.push { cls:=.type "range",data:=.fields #[.int lo t,.int hi u,.int 1 v] },toks:=tk }:=by
 refine wpAny_pyIter_range (IsRange.new ..) (small_one h1 h2 Y Z) ?_;have J:Inv X pins σ H { s with heap:=s.heap.push { cls:=.type "range",data:=.fields #[.int lo t,.int hi u,.int 1 v] },toks:=tk }:=I.kept λb o e=>ox _ e
 refine⟨(s.heap.push { cls:=.type "range",data:=.fields #[.int lo t,.int hi u,.int 1 v] }).objs.size,[(s.heap.push { cls:=.type "range",data:=.fields #[.int lo t,.int hi u,.int 1 v] }).objs.size],_,_,H,rfl,
  J.kept (t':=tk) λb o e=>ox _ e,se _ lo (hi-lo).toNat,?_,λb hb=>?_,q⟩
 .have e1:lo+((0:Nat):Int)*1=lo:=by simp
  have e2:(((hi-lo).toNat:Nat):Int)-((0:Nat):Int)=Builtin.Range.rangeSize lo hi 1:=by rw[rangeSize_one];split<;>omega
  show IsRangeIter _ _ (lo+((0:Nat):Int)*1) ((((hi-lo).toNat:Nat):Int)-((0:Nat):Int)) 1;rw[e1,e2];exact IH _ rfl
 .have e:b=(s.heap.push { cls:=.type "range",data:=.fields #[.int lo t,.int hi u,.int 1 v] }).objs.size:=by simpa using hb
  subst e;exact J.fpOk (y4 _) (J.hok.fresh (y4 _))
noncomputable def Fq(ta:TA):TI:=λσ H R=>ta σ H λvs H1=>∃j,vs=[.int j]/\-(2 ^ 62)<=j/\j<2 ^ 62/\R (Itr 0 j.toNat) H1
noncomputable def Fs(ta:TA):TI:=λσ H R=>ta σ H λvs H1=>∃i j,vs=[.int i,.int j]/\(-(2 ^ 62)<=i/\i<2 ^ 62/\-(2 ^ 62)<=j/\j<2 ^ 62)/\R (Itr i (j-i).toNat) H1
def vo (Y:Gl X "range") (Z:X.mg "range"=none) (ha:PA X [a] ta) (hs:starEach [a] X.env=[(false,eval a X.env)]:=by rfl):PI X tg (.Call (.Name "range" p) [a] [] pos) (Fq ta):=by
 intro pins s σ H R I h;refine Call_ (iO I Y Z boot_range (J2 (thn (ha pos pins s σ H _ I h) λus s1 hq=>ak hq λvs H1 I1 r1 J=>?_) hs rfl));obtain⟨j,e,J,q2,q⟩:=J;subst e;cases r1 with
 |cons r rr =>
  cases rr;obtain⟨t,rfl⟩:=r;exact call_range_1 (qF I1 (by decide) (by decide) J q2 (by simpa using q))
def vp (hg:Gl X "range") (hm:X.mg "range"=none) (ha:PA X [a,b] ta) (hs:starEach [a,b] X.env=[(false,eval a X.env),(false,eval b X.env)]:=by rfl) (J:starEach [b] X.env=[(false,eval b X.env)]:=by rfl) :
  PI X tg (.Call (.Name "range" p) [a,b] [] pos) (Fs ta):=by
 intro pins s σ H R I h;refine Call_ (iO I hg hm boot_range (J2 (thn (ha pos pins s σ H _ I h) λus s1 hq=>ak hq λvs H1 I1 r1 Y=>?_) (by rw[hs,J]) (by rw[J];rfl)));obtain⟨i,j,e,⟨Y,q2,q3,q4⟩,q⟩:=Y;subst e;cases r1 with
 |cons r Z =>
  cases Z with
  |cons r' Z =>
   cases Z;obtain⟨t,rfl⟩:=r;obtain⟨t',rfl⟩:=r';exact call_range_2 (qF I1 Y q2 q3 q4 q)
noncomputable def Ad(wi:TI)(g:TG)(tb:TS):TS:=λD σ H=>wi σ H λJ H1=>∃W:Nat->Nat->St->Hp->Prop,(∃m,W 0 m σ H1)/\∀i m σ H,W i m σ H ->
 (J.stop i H/\D.nx σ H)\/(J.go i H/\∃N,(∀Y H',N Y H'->∃m',m'<m/\W (i+1) m' Y H')/\∀x H',J.yld i H x H'->g x σ H' λZ H2=>tb { D with nx:=N,ct:=N,bk:=D.nx } Z H2)
noncomputable def lN(fp:List Addr)(h:Heap):List (Addr×Obj):=fp.filterMap λb=>(h.get? b).map λo=>(b,o)
def gq(J:b∈fp)(e:h.get? b=some o):(b,o)∈lN fp h:=mem_filterMap.mpr ⟨b,J,by rw[e];rfl⟩
def vq(J:p∈lN fp h):p.1∈fp/\h.get? p.1=some p.2:=by
 refine ae (mem_filterMap.mp J) λb Y e=>?_
 cases q:h.get? b with
 |none=>rw[q]at e;exact aT e
 |some o =>
  rw[q]at e;have Z:=IT e;subst Z;exact⟨Y,q⟩
def Inv.pinned(I:Inv X pins σ H s)(Y:∀b∈fp,jc X pins H b)(ho:∀b∈fp,∃o,s.heap.get? b=some o/\∀v,o.data≠.cell v):Inv X (pins++lN fp s.heap) σ H s:=
 I.pins_of λp Z=>(JM.mp Z).elim (λz=>I.pin p (JR _ z)) λz=>by
  obtain⟨J,e⟩:=vq z;refine fW (Y p.1 J) λf0 f1 f2 _=>?_
  refine ae (ho p.1 J) λo e' d=>?_
  simp_all
def Inv.unpinned(I:Inv X (pins++Y) σ H s):Inv X pins σ H s:=I.pins_of λp J=>I.pin p (JR _ (mem_append_left _ J))
def sf{iter:Expr}(hp:PassesOwn (model X.prog X.w) X.A X.env X.xe)(hc:X.calm=true)(hi:PI X tg iter wi)(hg:PG X tg g)(Z:PSs X body tb)(hs:∀x,foldedSetIterable iter X.env x=pure x:=by intro _;rfl):PS X (.For tg iter body [] pos) (Ad wi g tb):=by
 intro pins s σ H D I h;refine wpAny_For (thn (hi pins s σ H _ I h) λv s1 h1=>thn h1 λb2 s2 h2=>?_) hs;refine bf λZq kq=>?_
 obtain⟨it,fp,tn,J,H2,e,I2,T,a8,f2,W,⟨m0,w0⟩,turn⟩:=h2;subst e;have ac:∀{H'},(∀b∈fp,H' b=none)->∀b∈fp,jc X pins H' b:=λhn b Z=>⟨hn b Z,(f2 b Z).2⟩
 refine kq ?_;refine codeAny_forLoop_any (λn s'=>∃i ao H',Inv X pins ao H' s'/\tn i s'.heap/\(∀b∈fp,H' b=none)/\W i n ao H') ?_ m0 ⟨0,σ,H2,I2,a8,λb Z=>(f2 b Z).1,w0⟩;rintro n s3 ⟨i,ar,H3,I3,a4,a5,w3⟩;rcases turn i n ar H3 w3 with⟨stop,qn⟩|⟨go,N,hN,step⟩
 .refine Lc hp (thn (T.done X rfl rfl rfl hc i pins s3 ar H3 X.xe I3 (ac a5) a4 stop) λr s4 hq=>qy hq λhr I4=>?_);subst hr;exact wpAny_execs_nil ⟨ar,H3,I4,qn⟩
 .refine Lc hp (thn (T.item X rfl rfl rfl hc i pins s3 ar H3 X.xe I3 (ac a5) a4 go) λr s4 hq=>ae hq λu hr h4=>?_);subst hr;refine Lc hp (thn h4 λ_ s5 hq=>tQ hq λx H5 I5 r5 y5 st5 bc=>?_);have br:=I5.pinned (ac bc) (T.obj _ _ st5);refine Lc hp (thn (hg _ s5 ar H5 x u _ br r5 (step x H5 y5)) λ_ s6 hq=>cf hq λbB H6 I6 q6=>?_);refine Lc hp (thn (Z _ s6 bB H6 _ I6 q6) λf s7 q7=>?_);have again:∀{Y}{H7},Inv X (pins++lN fp s5.heap) Y H7 s7->N Y H7->∃m,m<n/\∃i ao H',Inv X pins ao H' s7/\tn i s7.heap/\(∀b∈fp,H' b=none)/\W i m ao H':=λ{Y H7} I7 n7=>by
   refine ae (hN Y H7 n7) λm' hm w7=>?_
   refine⟨m',hm,i+1,Y,H7,I7.unpinned,T.keep _ _ _ st5 λb Z o e=>(I7.pin (b,o) (JR _ (JR _ (gq Z e)))).1,λb Z=>?_,w7⟩;refine ae (T.obj _ _ st5 b Z) λo e d=>?_
   exact(I7.pin (b,o) (JR _ (JR _ (gq Z e)))).2.1
  cases f<;>first|(obtain⟨Y,H7,I7,n7⟩:=q7;exact again I7 n7)|(obtain⟨Y,H7,I7,q7⟩:=q7;exact⟨Y,H7,I7.unpinned,q7⟩)|(obtain⟨x7,Y,H7,I7,r7,q7⟩:=q7;exact⟨x7,Y,H7,I7.unpinned,r7,q7⟩)
end
noncomputable abbrev R2:=V->V->Hp->VK->Prop
def OpR(X:Cx)(f:Value->Value->Sem Value)(r:R2):Prop:=
 ∀pins s (σ:St) H x y v u Q,Inv X pins σ H s->aK x v->aK y u->r x y H Q ->
  wpAny (model X.prog X.w) X.A (f v u) (EP X pins σ Q) X.xe s
def bW(X:Cx)(f:Value)(r:List V->Hp->VK->Prop):Prop:=
 ∀pins s (σ:St) H xs us Q,Inv X pins σ H s->aF xs us->r xs H Q ->
  wpAny (model X.prog X.w) X.A (call f us) (EP X pins σ Q) X.xe s
noncomputable def tOp(r:R2)(ta tb:TE):TE:=λσ H Q=>ta σ H λx H1=>tb σ H1 λy H2=>r x y H2 Q
noncomputable def rI(C:Int->Int->Prop)(g:Int->Int->V):R2:=λx y H Q=>∃i j,x=.int i/\y=.int j/\C i j/\Q (g i j) H
noncomputable def rI0(g:Int->Int->V):R2:=λx y H Q=>∃i j,x=.int i/\y=.int j/\Q (g i j) H
section
variable{X:Cx}{a b c:Expr}{ta tb tc:TE}{pos:Pos}
def Ct(ha:PE X a ta)(hb:PE X b tb){R:V->V->Hp->Prop}(I:Inv X pins σ H s)
  (h:ta σ H λx H1=>tb σ H1 λy H2=>R x y H2) {f:Value->Value->Sem Value}
  (hf:∀v u Z x y H2,Inv X pins σ H2 Z->aK x v->aK y u->R x y H2->wpAny (model X.prog X.w) X.A (f v u) Q X.xe Z) :
  wpAny (model X.prog X.w) X.A (eval a X.env) (λv J=>wpAny (model X.prog X.w) X.A (eval b X.env) (λu Y=>wpAny (model X.prog X.w) X.A (f v u) Q X.xe Y) X.xe J) X.xe s:=by
 refine thn (ha pins s σ H _ I h) λv s1 hq=>ak hq λx H1 I1 r1 q1=>?_
 refine thn (hb pins s1 σ H1 _ I1 q1) λu Z hq=>ak hq λy H2 I2 r2 q2=>?_
 exact hf v u Z x y H2 I2 r1 r2 q2
def wQ(ho:OpR X (binaryOp op) r)(J:PE X a ta)(Y:PE X b tb):PE X (.BinOp a op b pos) (tOp r ta tb):=by
 intro pins s σ H Q I h;exact wpAny_BinOp (Ct J Y I h λv u Z x y H2 I2 rx ry q=>ho pins Z σ H2 x y v u Q I2 rx ry q)
def opI{C:Int->Int->Prop}{g:Int->Int->Int}
  (rule:∀i j t u s Q E,C i j->Q (.int (g i j) s.toks) { s with toks:=s.toks+1 }->wpAny (model X.prog X.w) X.A (f (.int i t) (.int j u)) Q E s) :
  OpR X f (rI C λi j=>.int (g i j)):=by
 intro pins s σ H x y v u Q I Z ry h;refine iJ h λi j J Y hc q=>?_
 subst J;subst Y;obtain⟨t,rfl⟩:=Z;obtain⟨t',rfl⟩:=ry;exact rule i j t t' s _ _ hc ⟨.int (g i j),H,I.tok _,⟨_,rfl⟩,q⟩
def Ft{g:Int->Int->Int}
  (rule:∀i j t u s Q E,Q (.int (g i j) s.toks) { s with toks:=s.toks+1 }->wpAny (model X.prog X.w) X.A (f (.int i t) (.int j u)) Q E s) :
  OpR X f (rI0 λi j=>.int (g i j)):=by
 intro pins s σ H x y v u Q I Z ry h;refine ak h λi j J Y q=>?_
 subst J;subst Y;obtain⟨t,rfl⟩:=Z;obtain⟨t',rfl⟩:=ry;exact rule i j t t' s _ _ ⟨.int _,H,I.tok _,⟨_,rfl⟩,q⟩
def Ae{g:Int->Int->Bool}
  (rule:∀i j t u s Q E,Q (.bool (g i j)) s->wpAny (model X.prog X.w) X.A (f (.int i t) (.int j u)) Q E s) :
  OpR X f (rI0 λi j=>.bl (g i j)):=by
 intro pins s σ H x y v u Q I Z ry h;refine ak h λi j J Y q=>?_
 subst J;subst Y;obtain⟨t,rfl⟩:=Z;obtain⟨t',rfl⟩:=ry;exact rule i j t t' s _ _ ⟨.bl _,H,I,rfl,q⟩
def HL(i j:Int):Prop:=0<j/\j<1073741824
def HM(i j:Int):Prop:=0<=j/\j<=1000000/\i.natAbs<2 ^ 64
def Cu(i j:Int):Prop:=(-(2 ^ 64)<i/\i<2 ^ 64)\/(-(2 ^ 64)<j/\j<2 ^ 64)
theorem Cu.ok(h:Cu i j):IntMulOk i j:=by
 rcases h with⟨h1,h2⟩|⟨h1,h2⟩
 .exact .of_left (intBits_le_64 h1 h2)
 .exact .of_right (intBits_le_64 h1 h2)
def sg(k):(0:Int)<=2 ^ k:=
  Int.natCast_nonneg _
def Cv:OpR X (binaryOp .Add) (rI0 λi j=>.int (i+j)):=Ft λ_ _ _ _ _ _ _ q=>add_int q
def Cw:OpR X (binaryOp .Sub) (rI0 λi j=>.int (i-j)):=Ft λ_ _ _ _ _ _ _ q=>sub_int q
def Cy:OpR X (binaryOp .Mult) (rI Cu λi j=>.int (i*j)):=opI λ_ _ _ _ _ _ _ hc q=>mul_int q hc.ok
def Af:OpR X (binaryOp .FloorDiv) (rI HL λi j=>.int (i / j)):=opI λi j _ _ _ _ _ hc q=>by
 have h1:=hc.1;have h2:=hc.2;exact floordiv_int (Int.ne_of_gt ‹_›) (by rw[L3 i (Int.le_of_lt ‹_›)];exact q) (.inl (PyProof.noPylong_small (by omega)))
def Cz:OpR X (binaryOp .Mod) (rI (λ_ j=>0<j) λi j=>.int (i % j)):=opI λi j _ _ _ _ _ hc q=>by
 exact mod_int' (Int.ne_of_gt ‹_›) (by rw[Int.fmod_eq_emod_of_nonneg i (Int.le_of_lt ‹_›)];exact q)
def CA:OpR X (binaryOp .Pow) (rI HM λi j=>.int (i ^ j.toNat)):=opI λ_ _ _ _ _ _ _ hc q=>pow_int_small hc.1 hc.2.1 hc.2.2 q
def CB:OpR X (binaryOp .RShift) (rI (λ_ j=>0<=j) λi j=>.int (i / 2 ^ j.toNat)):=opI λi j _ _ _ _ _ hc q =>
 rshift_int hc (by rw[L3 i (sg _)];exact q)
end
noncomputable def scal:V->V->Bool
 | .non,.non=>true|.non,.int _=>true|.int _,.non=>true|.non,.bl _=>true|.bl _,.non=>true|.non,.str _=>true|.str _,.non=>true
 | .int _,.int _=>true|.bl _,.bl _=>true|.str _,.str _=>true|.byt _,.byt _=>true
 | .int _,.str _=>true|.str _,.int _=>true|.bl _,.str _=>true|.str _,.bl _=>true
 | _,_=>false
noncomputable def rNe:R2:=λx y H Q=>scal x y=true/\Q (.bl (!decide (x=y))) H
def tY :decide (V.int i=V.int j)=(i==j):=by
 rw[Jp];simp
def wR :decide (V.bl i=V.bl j)=(i==j):=by
 rw[Jp];simp
def tZ :decide (V.str i=V.str j)=(i==j):=by
 rw[Jp];simp
def Ag :decide (V.byt i=V.byt j)=(i.toList==j.toList):=by
 rw[Jp];cases i;cases j;simp
section
variable{X:Cx}{a b c:Expr}{ta tb tc:TE}{pos:Pos}
def cr{σ:St}{H:Hp}{s:Shared}{Q:VK}{k J:Bool}(I:Inv X pins σ H s)(q:Q (.bl k) H)(e:k=J):EP X pins σ Q (.bool J) s:=by
 subst e;exact⟨.bl k,H,I,rfl,q⟩
def Fu:OpR X (compareOp .NotEq) rNe:=by
 intro pins s σ H x y v u Q I Y J h;obtain⟨hs,q⟩:=h;cases x with
 |non =>
  cases Y;cases y with
  |non=>cases J;exact PySem.EqNone.ne_none_none (cr I q (by simp))
  |bl j=>cases J;exact PySem.EqNone.ne_none_bool (cr I q (by simp))
  |int j=>obtain⟨t',rfl⟩:=J;exact PySem.EqNone.ne_none_int (cr I q (by simp))
  |str j=>obtain⟨t',rfl⟩:=J;exact PySem.EqNone.ne_none_str (cr I q (by simp))
  | _=>exact absurd (show false=true from hs) tf
 |bl i =>
  cases Y;cases y with
  |non=>cases J;exact PySem.EqNone.ne_bool_none (cr I q (by simp))
  |bl j=>cases J;exact ne_bool (cr I q (JD not wR))
  |str j=>obtain⟨t',rfl⟩:=J;exact PySem.EqMixed.ne_bool_str (cr I q (by simp))
  | _=>exact absurd (show false=true from hs) tf
 |int i =>
  obtain⟨t,rfl⟩:=Y;cases y with
  |non=>cases J;exact PySem.EqNone.ne_int_none (cr I q rfl)
  |int j=>obtain⟨t',rfl⟩:=J;exact ne_int (cr I q (JD not tY))
  |str j=>obtain⟨t',rfl⟩:=J;exact PySem.EqMixed.ne_int_str (cr I q rfl)
  | _=>exact absurd (show false=true from hs) tf
 |str i =>
  obtain⟨t,rfl⟩:=Y;cases y with
  |non=>cases J;exact PySem.EqNone.ne_str_none (cr I q rfl)
  |bl j=>cases J;exact PySem.EqMixed.ne_str_bool (cr I q rfl)
  |int j=>obtain⟨t',rfl⟩:=J;exact PySem.EqMixed.ne_str_int (cr I q rfl)
  |str j=>obtain⟨t',rfl⟩:=J;exact ne_str (cr I q (JD not tZ))
  | _=>exact absurd (show false=true from hs) tf
 |byt i =>
  obtain⟨t,rfl⟩:=Y;cases y with
  |byt j=>obtain⟨t',rfl⟩:=J;exact PySem.W.ne_bytes (cr I q (JD not Ag))
  | _=>exact absurd (show false=true from hs) tf
 | _=>cases y<;>exact absurd (show false=true from hs) tf
def Fv:OpR X (compareOp .Lt) (rI0 λi j=>.bl (decide (i<j))):=Ae λ_ _ _ _ _ _ _ q=>lt_int q
def Fw:OpR X (compareOp .LtE) (rI0 λi j=>.bl (decide (i<=j))):=Ae λ_ _ _ _ _ _ _ q=>le_int q
def Fx:OpR X (compareOp .Gt) (rI0 λi j=>.bl (decide (j<i))):=Ae λ_ _ _ _ _ _ _ q=>gt_int q
def Fy:OpR X (compareOp .GtE) (rI0 λi j=>.bl (decide (j<=i))):=Ae λ_ _ _ _ _ _ _ q=>ge_int q
def CC:OpR X (compareOp .Is) (λx y H Q=>y=.non/\Q (.bl (decide (x=.non))) H):=by
 intro pins s σ H x y v u Q I J Y h;obtain⟨rfl,q⟩:=h;subst Y;refine is_none_gen (cr I q ?_);cases x<;>first
  | (subst J;rfl)
  | (obtain⟨t,rfl⟩:=J;rfl)
def Ah:OpR X (compareOp .IsNot) (λx y H Q=>y=.non/\Q (.bl (!decide (x=.non))) H):=by
 intro pins s σ H x y v u Q I J Y h;obtain⟨rfl,q⟩:=h;subst Y;refine isnot_none_gen (cr I q ?_);cases x<;>first
  | (subst J;rfl)
  | (obtain⟨t,rfl⟩:=J;rfl)
def Ai(ho:OpR X (compareOp op) r)(J:PE X a ta)(Y:PE X b tb)(Z:behindInMarks op b=false):PE X (.Compare a [op] [b] pos) (tOp r ta tb):=by
 intro pins s σ H Q I h;exact wpAny_Compare1 (Ct J Y I h λv u s2 x y H2 I2 rx ry q=>ho pins s2 σ H2 x y v u Q I2 rx ry q) Z
noncomputable def Fz(t:TE):TT:=λσ H Q=>t σ H λx H'=>∃k,x=.bl k/\Q k H'
def t6(ho:OpR X (compareOp op) r)(J:PE X a ta)(Y:PE X b tb)(Z:behindInMarks op b=false):PT X (.Compare a [op] [b] pos) (Fz (tOp r ta tb)):=by
 intro pins s σ H Q I h;refine wpAny_isTrue_Compare1 (thn (J pins s σ H _ I h) λv s1 hq=>ak hq λx H1 I1 r1 q1=>thn (Y pins s1 σ H1 _ I1 q1) λu s2 ⟨y,H2,I2,r2,q2⟩ =>
  thn (ho pins s2 σ H2 x y v u _ I2 r1 r2 q2) λc s3 ⟨z,H3,I3,r3,k,e,q3⟩=>?_) Z
 subst e;subst r3;exact JZ ⟨H3,I3,q3⟩
def jR:(sizeLine:Nat)<2 ^ 63:=by simp_all [Jw]
def sh:OpR X (binaryOp .Add) (λx y H Q=>∃i j,x=.str i/\y=.str j/\i.length+j.length<=sizeLine/\Q (.str (i++j)) H):=by
 intro pins s σ H x y v u Q I Z ry h;refine iJ h λi j J Y hz q=>?_
 subst J;subst Y;obtain⟨t,rfl⟩:=Z;obtain⟨t',rfl⟩:=ry;exact add_str (λt' tk=>⟨.str _,H,I.tok _,⟨_,rfl⟩,q⟩) hz
def dW(r:aF [x] us):∃u,us=[u]/\aK x u:=by
 cases r with
 |cons J Y=>cases Y;exact⟨_,rfl,J⟩
def FA(r:aF [x,y] us):∃u J,us=[u,J]/\aK x u/\aK y J:=by
 cases r with
 |cons Y Z =>
  cases Z with
  |cons r3 r4=>cases r4;exact⟨_,_,rfl,Y,r3⟩
def n_:bW X (.type "int") (λxs H Q=>(∃i,xs=[.int i]/\Q (.int i) H)\/∃k,xs=[.bl k]/\Q (.int (if k then 1 else 0)) H):=by
 intro pins s σ H xs us Q I r h;rcases h with⟨i,rfl,q⟩|⟨k,rfl,q⟩
 .obtain⟨u,rfl,t,rfl⟩:=dW r;exact call_int_int ⟨.int i,H,I,⟨_,rfl⟩,q⟩
 .obtain⟨u,rfl,J⟩:=dW r;subst J;exact call_int_bool ⟨.int _,H,I.tok _,⟨_,rfl⟩,q⟩
end
section
variable{prog:Program}{w:World}{A:Around}{E:Value->Shared->Prop}{s:Shared}{K:Mx}{x dx C f:Addr}{mA:Str->Option Value}{name:Str}{v:Value}
end
def lb.some_of(r:lb (some v) o):∃u,o=some u/\aK v u:=by
 cases o with
 |none=>exact(show False from r).elim
 |some u=>exact⟨u,rfl,r⟩
section
variable{P:Program}{w:World}{H H':Hp}{h h':Heap}{a C dx:Addr}{fs fs':List (Str×V)}
end
section
variable{X:Cx}{pins:List (Addr×Obj)}{σ:St}{H:Hp}{s:Shared}{a C dx:Addr}{fs:List (Str×V)}{f:Str}{v:V}{A:Around}{E:Value->Shared->Prop}
end
section
variable{X:Cx}{o e value:Expr}{f:Str}{pos pos' tpos:Pos}{ta tv:TE}
end
section
variable{X:Cx}{pins:List (Addr×Obj)}{σ:St}{H:Hp}{s:Shared}{A:Around}{E:Value->Shared->Prop}{Q:Value->Shared->Prop}{c:Value}{b:Bool}
end
structure iQ(k:Nat)(A:Around):Prop where
 hd:A.handled=none
 dp:A.depth+3*k+5<recursionLimit
 un:A.units+16*k+200<cLine
theorem iQ.deeper(r:iQ (k+1) A)(env):iQ k (A.deeper env):=
 ⟨r.hd,by have:=r.dp;show A.depth+1+3*k+5<_;omega,by have:=r.un;show A.units+3+16*k+200<_;omega⟩
theorem iQ.depth(r:iQ k A):A.depth<recursionLimit:=by have:=r.dp;omega
noncomputable def d7:TA:=λ_ H Q=>Q [] H
noncomputable def cq(ta:TE)(J:TA):TA:=λσ H Q=>ta σ H λx H1=>J σ H1 λxs H2=>Q (x::xs) H2
section
variable{X:Cx}{e:Expr}{es:List Expr}{te:TE}{t:TA}{pos:Pos}
def aV:PA X [] d7:=λ_ _ _ _ H Q I h=>Calls.spliced_nil ⟨[],H,I,.nil,h⟩
def aB(Y:PE X e te)(Z:PA X es t)(hs:starEach (e::es) X.env=(false,eval e X.env)::starEach es X.env:=by rfl):PA X (e::es) (cq te t):=by
 intro pos pins s σ H Q I h;rw[hs];show wpAny _ _ (spliced ((false,eval e X.env)::backTo pos _)) _ _ s;refine LW (thn (Y pins s σ H _ I h) λu s1 J=>ak J λx H1 I1 r1 q1=>?_);exact thn (Z pos pins s1 σ H1 _ I1 q1) λus s2 J=>ak J λxs H2 I2 r2 q2=>⟨x::xs,H2,I2,.cons r1 r2,q2⟩
noncomputable def HN(t:TA):TE:=λσ H Q=>t σ H λxs H1=>xs.length<=sizeLine/\∀p,H1 p=none->Q (.ref p) (upd H1 p (.tup xs))
noncomputable def vt(t:TA):TE:=λσ H Q=>t σ H λxs H1=>xs.length<=sizeLine/\∀p,H1 p=none->Q (.ref p) (upd H1 p (.lst xs))
def CD{Z}(h:PA X es t):PE X (.Tuple es Z pos) (HN t):=by
 intro pins s σ H Q I J;refine wpAny_Tuple_spliced (thn (h pos pins s σ H _ I J) λus s1 J=>iJ J λxs H1 Y r z q=>⟨by rw[<- r.length];exact z,?_⟩);have hf:=Y.hok.fresh (y4 _);refine⟨.ref s1.heap.objs.size,upd H1 s1.heap.objs.size _,Y.laid (λb u e=>ox _ e) (y4 _) ?_,rfl,q _ hf⟩;exact⟨z,us,r,⟨_,IH _ rfl,rfl,_,rfl⟩⟩
def lO(h:PA X es t):PE X (.List es pos) (vt t):=by
 intro pins s σ H Q I J;refine wpAny_List_spliced (thn (h pos pins s σ H _ I J) λus s1 J=>iJ J λxs H1 Y r z q=>⟨by rw[<- r.length];exact z,?_⟩);have Z:=Y.hok.fresh (y4 _);refine⟨.ref s1.heap.objs.size,upd H1 s1.heap.objs.size _,Y.laid (λb u e=>ox _ e) (y4 _) ?_,rfl,q _ Z⟩;exact⟨z,us,0,r,IH _ rfl⟩
end
noncomputable abbrev Sp:=List V->Hp->VK->XK->Prop
noncomputable abbrev CXT:=List Env->Hp->Shared->XK->Value->Shared->Prop
structure Aj(P:Program)(w:World)(K:Mx)(mg:Str->Option Value)(base:Heap)(A:Around)(outer:List Env)(s:Shared)(H:Hp):Prop where
 frames:A.frames=some outer
 mod:Mod K mg base
 bs:∀b o,base.get? b=some o->s.heap.get? b=some o/\H b=none
 bsz:base.objs.size<=s.heap.objs.size
 funs:s.heap.FunFrames base outer
 frf:∀b∈frs outer,H b=none
 hok:HOk P w H s.heap
 bare:AllBare s.gens
def CE(outer:List Env)(P:Program)(w:World)(H:Hp)(s:Shared)(Q:VK)(u:Value)(s':Shared):Prop:=
 ∃v H',s'.os=s.os/\AllBare s'.gens/\Un (frs outer) [] H H' s.heap s'.heap/\HOk P w H' s'.heap/\aK v u/\Q v H'
def CR(CX:CXT)(outer:List Env)(P:Program)(w:World)(H:Hp)(s:Shared)(Q:VK)(E:XK)(r:Result)(s':Shared):Prop:=
 match r with
 | .ok (.ret u)=>CE outer P w H s Q u s'
 | .ok _=>False
 | .error e=>CX outer H s E e s'
structure gX(P:Program)(w:World)(K:Mx)(mg:Str->Option Value)(base:Heap)(CX:CXT)(k:Nat)(f:Addr)(fd:FuncData)(ps:List Str)(sp:Sp):Prop where
 len:∀vs H Q E,sp vs H Q E->vs.length=ps.length
 run:∀(A:Around) (outer:List Env) (s:Shared) (H:Hp) (args:Args) (us:List Value) (vs:List V) (Q:VK) (E:XK),iQ k A->Aj P w K mg base A outer s H->BindsTo s fd args (ps.zip us)->aF vs us->sp vs H Q E ->
  codeAny (model P w) A (.call (.ref f) args) (CR CX outer P w H s Q E) s
section
variable{X:Cx}{pins:List (Addr×Obj)}{σ:St}{H:Hp}{s s':Shared}
theorem Inv.env0(I:Inv X pins σ H s):Aj X.prog X.w X.K X.mg X.base X.A X.stack s H:=
 ⟨I.ok.frames,I.ok.mod,I.bs,IQ I.ok.bsz I.sz,I.stack,I.stkFree,I.hok,I.bare⟩
def Inv.after(I:Inv X pins σ H s)(h:CE X.stack X.prog X.w H s Q u s'):EP X pins σ Q u s':=by
 refine By h λv H' os bare un hok r q=>?_
 obtain⟨Y,g,d,t,J⟩:=s';obtain rfl:J=s.os:=os;exact⟨v,H',I.call un hok bare (λb z=>absurd z (by simp)),r,q⟩
end
noncomputable def lP(sp:Sp)(dvs:List V)(E:XK)(t:TA):TE:=λσ H Q=>t σ H λvs H1=>sp (vs++dvs) H1 Q E
def bE(K:Mx)(fd:FuncData)(ps:List Str)(ds:List Value):Prop:=
 ∀(s:Shared) (us:List Value),K.In s.heap->(us++ds).length=ps.length->BindsTo s fd ⟨us,[]⟩ (ps.zip (us++ds))
theorem bE.all{K:Mx}(h:∀us,us.length=ps.length->bindArgs fd ⟨us,[]⟩=pure (ps.zip us)):bE K fd ps []:=λs us _ J=>by
 rw[Lp]at J ⊢;exact .of_eq (h us J)
def pk(CX:CXT)(X:Cx)(E:XK):Prop:=∀pins (σ:St) H s e s',Inv X pins σ H s->CX X.stack H s E e s'->X.xe e s'
section
variable{X:Cx}{CX:CXT}{k:Nat}{f C:Addr}{fd:FuncData}{ps:List Str}{sp:Sp}{dvs:List V}{ds:List Value}{E:XK}{x m:Str}{p pos apos:Pos}{e o:Expr}{es:List Expr}{ta:TE}{t:TA}
def wS(F:gX X.prog X.w X.K X.mg X.base CX k f fd ps sp)(Z:iQ k X.A)(hb:bE X.K fd ps ds)(hd:aF dvs ds)(hx:pk CX X E)
  (I:Inv X pins σ H s) (r:aF vs us) (h:sp (vs++dvs) H Q E):wpAny (model X.prog X.w) X.A (call (.ref f) us) (EP X pins σ Q) X.xe s:=by
 have Y:=r.append hd;have hl:(us++ds).length=ps.length:=by rw[<- Y.length];exact F.len _ _ _ _ h
 refine wpAny_call (KZ (F.run X.A X.stack s H ⟨us,[]⟩ (us++ds) (vs++dvs) Q E Z I.env0 (hb s us I.kIn hl) Y h) λr s' J=>?_);cases r with
 |error e=>exact hx pins σ H s e s' I J
 |ok fl =>
  cases fl with
  |ret u=>exact I.after J
  |next=>exact False.elim J
  |brk=>exact False.elim J
  |cont=>exact False.elim J
def iz(F:gX X.prog X.w X.K X.mg X.base CX k f fd ps sp)(hr:iQ k X.A)(hg:Gl X x)(hm:X.mg x=some (.ref f))(hk:PySem.W.keepIn X.K (.ref f)=true)(hb:bE X.K fd ps ds)(hd:aF dvs ds)(hx:pk CX X E)
  (ha:PA X (e::es) t) (J:(x==("__debug__":Str))=false:=by decide) (he:starEach (e::es) X.env=(false,eval e X.env)::starEach es X.env:=by rfl) (Y:(backTo pos (starEach es X.env)).any (·.1)=false:=by rfl) :
  PE X (.Call (.Name x p) (e::es) [] pos) (lP sp dvs E t):=by
 intro pins s σ H Q I h;refine Li (ph I hg hm ?_ J);refine PySem.W.callWith_K I.ok.mod.kin hk (thn (ha pos pins s σ H _ I h) λus s1 hq=>ak hq λvs H1 Z r q=>⟨Z.kIn,?_⟩) he Y;exact wS F hr hb hd hx Z r q
def wT(F:gX X.prog X.w X.K X.mg X.base CX k f fd ps sp)(Y:iQ k X.A)(Z:Gl X x)(hm:X.mg x=some (.ref f))(hk:PySem.W.keepIn X.K (.ref f)=true)(hb:bE X.K fd ps ds)(hd:aF dvs ds)(hx:pk CX X E)
  (J:(x==("__debug__":Str))=false:=by decide):PE X (.Call (.Name x p) [] [] pos) (lP sp dvs E d7):=by
 intro pins s σ H Q I h;refine Li (ph I Z hm ?_ J);exact PySem.W.callWith_K0 I.kIn hk (wS (us:=[]) F Y hb hd hx I .nil h)
end
section
variable{X:Cx}{CX:CXT}{k:Nat}{f C:Addr}{fd:FuncData}{ps ks:List Str}{sp:Sp}{E:XK}{x m:Str}{p pos apos kpos:Pos}{e o:Expr}{es:List Expr}{kws:List Keyword}{te ta:TE}{t tk:TA}{nm:Option Str}
variable{g:List Value->List Value->List Value}{gV:List V->List V->List V}
end
structure dO(N P:List Str)(sc:Scope):Prop where
 kind:sc.kind=.function
 co:sc.isCoroutine=false
 gen:sc.isGenerator=false
 nd:N.Nodup
 pre:N.take P.length=P
 par:∀x∈P,sc.names.lookup x=some .local\/sc.names.lookup x=some .cell
 nofree:∀y∈sc.names,y.2≠.free
theorem og{kindOf:Str->Option NameKind} :∀{binds}{m},(∀v,(x,v)∉binds)->bindL kindOf binds m x=m x
 | [],_,_=>rfl
 | (n,v)::r,m,h=>by
  unfold bindL;rw[og λw hw=>h w (JG _ hw)];split
  .have:x≠n:=by rintro rfl;exact h v J6
   simp[this]
  .rfl
theorem oh{kindOf:Str->Option NameKind} :∀{binds}{m},(∀v,(x,v)∉binds)->bindC kindOf binds m x=m x
 | [],_,_=>rfl
 | (n,v)::r,m,h=>by
  unfold bindC;rw[oh λw hw=>h w (JG _ hw)];split
  .rfl
  .have:x≠n:=by rintro rfl;exact h v J6
   simp[this]
theorem oj{kindOf:Str->Option NameKind}{x:Str}{v:Value}:∀{P:List Str}{vs}{i:Nat}{m},P.Nodup->P[i]?=some x->vs[i]?=some v->kindOf x=some .local ->
  bindL kindOf (P.zip vs) m x=some v
 | [],_,_,_,_,h,_,_=>by injection h
 | _::_,[],_,_,_,_,h,_=>by injection h
 |p::P,w::vs,0,m,nd,h1,h2,J=>by
  simp at h1 h2;subst h1;subst h2
  show bindL kindOf ((p,w)::P.zip vs) m p=_;unfold bindL;rw[og λv hv=>(Ji.mp nd).1 (of_mem_zip hv).1,if_pos J];simp
 |p::P,w::vs,i+1,m,nd,h1,h2,J=>by
  show bindL kindOf ((p,w)::P.zip vs) m x=_;exact oj (i:=i) (Ji.mp nd).2 h1 h2 J
theorem ol{kindOf:Str->Option NameKind}{x:Str}{v:Value}:∀{P:List Str}{vs}{i:Nat}{m},P.Nodup->P[i]?=some x->vs[i]?=some v->kindOf x≠some .local ->
  bindC kindOf (P.zip vs) m x=some v
 | [],_,_,_,_,h,_,_=>by injection h
 | _::_,[],_,_,_,_,h,_=>by injection h
 |p::P,w::vs,0,m,nd,h1,h2,J=>by
  simp at h1 h2;subst h1;subst h2
  show bindC kindOf ((p,w)::P.zip vs) m p=_;unfold bindC;rw[oh λv hv=>(Ji.mp nd).1 (of_mem_zip hv).1,if_neg J];simp
 |p::P,w::vs,i+1,m,nd,h1,h2,J=>by
  show bindC kindOf ((p,w)::P.zip vs) m x=_;exact ol (i:=i) (Ji.mp nd).2 h1 h2 J
noncomputable def h_(N:List Str)(vs:List V):St:=vs.map some++replicate (N.length-vs.length) none
noncomputable def cX(CX:CXT)(P:Program)(w:World)(K:Mx)(mg:Str->Option Value)(base:Heap)(N:List Str)(qual:Str)(scope:Scope)(f:Addr)(Y:Value)(A:Around)(outer:List Env)(s:Shared)(H:Hp)(E:XK):Cx where
 prog:=P
 w:=w
 K:=K
 mg:=mg
 base:=base
 A:=A.deeper (envOfC qual scope s.heap.objs.size f Y)
 N:=N
 s₀:=s
 H₀:=H
 env:=envOfC qual scope s.heap.objs.size f Y
 outer:=outer
 stack:=envOfC qual scope s.heap.objs.size f Y::outer
 ex:=[]
 calm:=true
 fn:=λ_=>true
 pn:=[]
 xe:=λe s'=>wpAny (model P w) (A.deeper (envOfC qual scope s.heap.objs.size f Y)) (leaving (envOfC qual scope s.heap.objs.size f Y) e) (λ_ J=>CX outer H s E e J) (λZ J=>CX outer H s E Z J) s'
def qG{sc:Scope}(h:sc.names.lookup x=some .cell):∃c,(cellsFrom n sc.names []).lookup x=some c:=by
 have q:=PySem.W.cellsFrom_some sc.names n [] (.inl h);exact isSome_iff_exists.mp q
def vv{K:Mx} 
  (S:dO N ps scope) (hd:A.handled=none) (J:Aj P w K mg base A outer s H) (hl:vs.length=ps.length) (r:aF vs us)
  (x:InCallC s s.heap.objs.size (bindL (envOfC qual scope s.heap.objs.size f cd).kindOf (ps.zip us) λ_=>none) (cellsFrom (s.heap.objs.size+1) scope.names []) (bindC (envOfC qual scope s.heap.objs.size f cd).kindOf (ps.zip us) λ_=>none) s1) :
  Inv (cX CX P w K mg base N qual scope f cd A outer s H E) [] (h_ N vs) H s1:=by
 have a1:ps.length<=N.length:=by have:=JD List.length S.pre;rw[KL]at this;omega
 refine cf x.done λh1 tk ar hk=>?_
 subst ar;have Y:∀b,b∉(cX CX P w K mg base N qual scope f cd A outer s H E).ex:=λb z=>absurd (show b∈([]:List Addr)from z) (by simp)
 refine⟨⟨J.mod,S.kind,rfl,rfl,y4 _,λy z c h1 h2=>?_,λy Z=>?_,λy c _ h=>?_,λ_=>hd,Around.frames_deeper J.frames,.inr ⟨rfl,rfl⟩,λb z=>absurd z (Y b),J.bs,J.bsz,λb _ _=>Y b,λb z=>absurd z (Y b),J.funs,J.frf⟩,
  rfl,J.bare,Un.kept hk,⟨_,x.toInCall.ns,λi y v h1 h2 h3=>?_⟩,λy c h=>⟨_,x.cell y c h⟩,J.hok.fresh (y4 _),λy c h=>?_,λp hp=>absurd (show p∈([]:List (Addr×Obj))from hp) (by simp),J.hok.kept hk,?_⟩
 .exact name_of_addr x.apart (PySem.mem_of_lookup h1) (PySem.mem_of_lookup h2)
 .have Z:=Z;rcases Z with Z|Z
  .exact qG Z
  .exact absurd rfl (S.nofree _ (PySem.mem_of_lookup Z))
 .exact Jz (x.above y c (PySem.mem_of_lookup h))
 .have hi:i<vs.length:=by
   unfold h_ at h2;by_cases hi:i<vs.length
   .exact hi
   .rw[Ka (by simpa using hi)]at h2;rw[LX]at h2;split at h2<;>cases h2
  have ha:vs[i]?=some v:=by
   unfold h_ at h2;rw[Kd (by simpa using hi),Jb]at h2;cases e:vs[i]?<;>simp_all
  refine ae (r.get ha) λu hu rv=>?_
  have hp:ps[i]?=some y:=by
   rw[<- S.pre,getElem?_take_of_lt (by omega)];exact h1
  have ao:ps.Nodup:=by rw[<- S.pre];exact S.nd.sublist (take_sublist _ _)
  refine⟨u,rv,?_⟩;rcases S.par y (JA hp)with k|k
  .exact .inl ⟨k,oj ao hp hu k⟩
  .obtain⟨c,e⟩:=qG (n:=s.heap.objs.size+1) k;refine .inr ⟨.inl k,c,e,?_⟩;have q:=x.cell y c e;rw[ol ao hp hu (by show scope.names.lookup y≠_;rw[k];decide)]at q;exact q
 .exact J.hok.fresh (Jz (x.above y c (PySem.mem_of_lookup h)))
 .unfold h_;show _=N.length;rw[IX,IC,Me];exact(by simp[*])
def kK{K:Mx}{dV kV ar pm Y ct oc:Value} 
  (lk:K.lookup f=some ⟨oc,od,.func (PySem.W.fnOf name qual params body scope dV kV ar pm an Y ct),a9⟩) (a1:PySem.W.codeIn K Y qual=true) (S:dO N ps scope)
  (len:∀vs H Q E,sp vs H Q E->vs.length=ps.length)
  (ac:∀A outer s H vs Q E,iQ k (A.deeper (envOfC qual scope s.heap.objs.size f Y))->sp vs H Q E ->
   ∃t,PSs (cX CX P w K mg base N qual scope f Y A outer s H E) body t/\t { nx:=λ_ H'=>Q .non H',rt:=Q } (h_ N vs) H) :
  gX P w K mg base CX (k+1) f (PySem.W.fnOf name qual params body scope dV kV ar pm an Y ct) ps sp:=by
 refine⟨len,λA outer s H args us vs Q E hr e0 hb r a0=>?_⟩;have hl:=len _ _ _ _ a0;have KX:=e0.mod.kin.keeps λb o e=>(e0.bs b o e).1
 have a3:=e0.mod.nolimit.keeps λb o e=>(e0.bs b o e).1
 have ao:∀y∈ps.zip us,scope.names.lookup y.1=some .local\/(scope.names.lookup y.1=some .cell/\((cellsFrom (s.heap.objs.size+1) scope.names []).lookup y.1).isSome=true):=λ⟨n,v⟩ hy=>by
  rcases S.par n (of_mem_zip hy).1 with q|q
  .exact .inl q
  .exact .inr ⟨q,PySem.W.cellsFrom_some _ _ _ (.inl q)⟩
 refine codeAny_call_function hr.depth (KX _ _ lk) rfl S.co S.gen rfl (PySem.W.codeRec_of KX a1) (hb _ _ _ _ ?_);refine wpAny_newFunctionEnv_cells S.kind ao λenv he s1 x=>?_
 subst he;refine⟨a3.keeps x.toInCall.keep,codeAny_func ?_⟩;refine ae (ac A outer s H vs Q E (hr.deeper _) a0) λt ht hq=>?_
 have I:Inv (cX CX P w K mg base N qual scope f Y A outer s H E) [] (h_ N vs) H s1:=vv S hr.hd e0 hl r x;refine Jn (ht [] s1 (h_ N vs) H _ I hq) (λfl s' hs=>?_) λe s' hs=>hs
 have fin:∀{Z}{H'}{v}{u},Inv (cX CX P w K mg base N qual scope f Y A outer s H E) [] Z H' s'->aK v u->Q v H'->CE outer P w H s Q u s':=
  λ{Z H' v u} J rv q=>⟨v,H',J.os,J.bare,J.base,J.hok,rv,q⟩
 cases fl with
 |next =>
  refine cf hs λZ H' J q=>?_
  exact fin (v:=V.non) (u:=Value.none) J rfl q
 |ret u =>
  refine wF hs λv Z H' J rv q=>?_
  exact fin J rv q
 | _ =>
  refine cf hs λ_ _ _ q=>?_
  exact False.elim q
section
variable{X:Cx}{x:Str}{p pos:Pos}{e:Expr}{es:List Expr}{t:TA}{id T:String}{r:List V->Hp->VK->Prop}
noncomputable def tCB(r:List V->Hp->VK->Prop)(t:TA):TE:=λσ H Q=>t σ H λvs H1=>r vs H1 Q
def dX (hc:bW X (.builtin id) r) (Z:Gl X x) (hm:X.mg x=none) (hv:bootBuiltins x=some (.builtin id)) (ha:PA X (e::es) t) (hn:x ≠ "__name__":=by decide) (J:(x==("__debug__":Str))=false:=by decide)
  (he:starEach (e::es) X.env=(false,eval e X.env)::starEach es X.env:=by rfl) (Y:(backTo pos (starEach es X.env)).any (·.1)=false:=by rfl):PE X (.Call (.Name x p) (e::es) [] pos) (tCB r t):=by
 intro pins s σ H Q I h;refine Li (iO I Z hm hv ?_ hn J);exact PyProof.Rows.callWith_builtin1 (thn (ha pos pins s σ H _ I h) λus s1 hq=>ak hq λvs H1 I1 r1 q1=>hc pins s1 σ H1 vs us Q I1 r1 q1) he Y
def dg (hc:bW X (.type T) r) (Z:Gl X x) (hm:X.mg x=none) (hv:bootBuiltins x=some (.type T)) (ha:PA X (e::es) t) (hn:x ≠ "__name__":=by decide) (J:(x==("__debug__":Str))=false:=by decide)
  (he:starEach (e::es) X.env=(false,eval e X.env)::starEach es X.env:=by rfl) (Y:(backTo pos (starEach es X.env)).any (·.1)=false:=by rfl):PE X (.Call (.Name x p) (e::es) [] pos) (tCB r t):=by
 intro pins s σ H Q I h;refine Li (iO I Z hm hv ?_ hn J);exact J2 (thn (ha pos pins s σ H _ I h) λus s1 hq=>ak hq λvs H1 I1 r1 q1=>hc pins s1 σ H1 vs us Q I1 r1 q1) he Y
end
end L2
namespace HT
open PySem PyProof.Rows List Option
noncomputable def lexLt:List Int->List Int->Bool
 | [],[]=>false
 | [],_::_=>true
 | _::_,[]=>false
 |x::xs,y::ys=>if x=y then lexLt xs ys else decide (x<y)
def lexLt_cons(x y)(xs ys):lexLt (x::xs) (y::ys)=if x=y then lexLt xs ys else decide (x<y):=rfl
def nG:lexLt [] []=false:=rfl
def lQ(y)(ys):lexLt [] (y::ys)=true:=rfl
def lR(x)(xs):lexLt (x::xs) []=false:=rfl
def wU(A)(s)(a)(t)(c)(u):∃e,SeqAt.EqAt A s (.int a t) (.int c u) e/\(e=true ↔ a=c):=
 ⟨(a==c),SeqAt.EqAt.int_int a t c u,by simp⟩
def wV(A)(s)(a)(t)(c)(u)(prog)(w)(E)(Q)(h:Q (.bool (decide (a<c))) s) :
  wpAny (model prog w) A (richCompare .Lt (.int a t) (.int c u)) Q E s:=
 (PyProof.Rows.lt_int h:wpAny (model prog w) A (compareOp .Lt (.int a t) (.int c u)) Q E s)
section
open PySem.SeqAt List Option
open PySem.AutoSeq1 (wpAny_loadPart')
open PySem.MeetsSeq PySem.MeetsSeq2 PySem.MeetsSeq3 List Option
def tuple_lt_ints(l b)(items J)(n n2)(dd a6)(sl a8)(ns ms)(hi:IntsAre items.toList ns)(hj:IntsAre J.toList ms) :
  Meets (Builtin.«tuple.__lt__» ⟨[.ref l,.ref b],[]⟩)
   (λ_ R s=>s.heap.get? l=some { cls:=.type "tuple",dict:=dd,data:=.seq items n,slots:=sl }/\s.heap.get? b=some { cls:=.type "tuple",dict:=a6,data:=.seq J n2,slots:=a8 } /\
    R (.ok (.ret (.bool (lexLt ns ms)))) s):=
 .of_wp λprog w A R s h=>by
  obtain⟨hp,g,d,tk,os⟩:=s;refine eT h λhl hb h=>?_
  have f2:=Lj;have z1:items.size=ns.length:=by rw[<- hi.length];simp
  have z2:J.size=ms.length:=by rw[<- hj.length];simp
  wp_walk using wpAny_loadPart' hl,wpAny_loadPart' hb,wpAny_forIn_list _ (λcE b s'=>b.1=none/\s'=⟨hp,g,d,tk,os⟩/\∃vs ws Z ac,cE=vs.zip ws /\
   IntsAre vs Z/\IntsAre ws ac/\Z.length+J.size=ac.length+items.size/\R (.ok (.ret (.bool (lexLt Z ac)))) ⟨hp,g,d,tk,os⟩) _
  case turn =>
   rintro ⟨y,x⟩ cE b s' ⟨a0,rfl,vs,ws,Z,ac,hz,a1,ao,Y,hR⟩;cases a1 with
   |nil=>rw[zip_nil_left]at hz;cases hz
   |cons a t a3 =>
    cases ao with
    |nil=>rw[zip_nil_right]at hz;cases hz
    |cons c u a4 =>
     rw[zip_cons_cons]at hz;injection hz with a9 a2
     injection a9 with hy hx
     subst hy hx;rw[lexLt_cons]at hR;simp only[length_cons]at Y;refine ae (wU A.in1 ⟨hp,g,d,tk,os⟩ a t c u) λe he aL=>?_
     refine gf (he prog w _ _ ?_);cases e with
     |true =>
      rw[if_pos (aL.mp rfl)]at hR
      wp_walk
      exact⟨rfl,rfl,_,_,_,_,a2,a3,a4,by omega,hR⟩
     |false =>
      rw[if_neg (λq=>absurd (aL.mpr q) tf)]at hR;have bc:=wV A.in1 ⟨hp,g,d,tk,os⟩ a t c u prog w
      wp_walk using bc
      exact⟨_,rfl,by simpa using hR⟩
  case fin =>
   rintro ⟨b1,b2⟩ s' ⟨a0,rfl,vs,ws,Z,ac,hz,a1,ao,Y,hR⟩;simp only at a0;subst a0;have hv:lexLt Z ac=decide (items.size<J.size):=by
    cases a1 with
    |nil =>
     cases ao with
     |nil =>
      simp only[length_nil]at Y;rw[nG];exact(Jt (by omega)).symm
     |cons c u hw =>
      simp only[length_nil,length_cons]at Y;rw[lQ];exact(I0 (by omega)).symm
    |cons a t hv =>
     cases ao with
     |nil =>
      simp only[length_nil,length_cons]at Y;rw[lR];exact(Jt (by omega)).symm
     |cons c u hw =>
      rw[zip_cons_cons]at hz;exact vh hz
   rw[hv]at hR
   wp_walk
   exact⟨_,rfl,by simpa[Builtin.Tuple.tupleCompareSizes]using hR⟩
  case h =>
   exact⟨rfl,rfl,items.toList,J.toList,ns,ms,rfl,hi,hj,by omega,h⟩
end
section
variable{prog:Program}{w:World}{A:Around}{E:Value->Shared->Prop}{s:Shared}
def lt_tupInts{items J:Array Value}{ns ms:List Int}{Q:Value->Shared->Prop}(hl:IsTup s.heap l items)(hb:IsTup s.heap b J)(hi:IntsAre items.toList ns)(hj:IntsAre J.toList ms)
  (hu:A.units<cLine) (h:Q (.bool (lexLt ns ms)) s):wpAny (model prog w) A (compareOp .Lt (.ref l) (.ref b)) Q E s:=by
 refine bf λZq kq=>?_
 obtain⟨⟨cls,dd,data,sl⟩,ho,hc,n,hd⟩:=id hl;obtain⟨⟨aL,ao,data2,ar⟩,Y,Z,n2,ac⟩:=id hb;simp only at hc hd Z ac;subst hc hd Z ac;refine kq ?_;exact KN (op:=.Lt) ⟨_,ho,rfl⟩ ⟨_,Y,rfl⟩ PySem.F.slot_tuple_lt PySem.F.entry_tuple_lt (PySem.F.args_tuple_lt_2 _ _) (tuple_lt_ints l b items J n n2 dd ao sl ar ns ms hi hj)
  ⟨ho,Y,show Value.bool _≠Value.notImplemented/\Q _ s from⟨(λx=>nomatch x),h⟩⟩ hu
def cat_tup(ht:IsTup s.heap t vs.toArray)(hb:IsTup s.heap b ws.toArray)(hv:vs≠[])
  (h1:ws=[]->Q (.ref t) s) (h2:ws≠[]->Q (.ref s.heap.objs.size) { s with heap:=s.heap.push { cls:=.type "tuple",data:=.seq (vs++ws).toArray } })
  (ar:vs.length+ws.length<=sizeLine):wpAny (model prog w) A (binaryOp .Add (.ref t) (.ref b)) Q E s:=by
 refine bf λZq kq=>?_
 obtain⟨⟨cls,dd,data,sl⟩,ho,hc,n,hd⟩:=id ht;obtain⟨⟨a0,Y,data2,Z⟩,J,ac,n2,ao⟩:=id hb;simp only at hc hd ac ao;subst hc hd ac ao;have e:vs.toArray++ws.toArray=(vs++ws).toArray:=by simp
 refine kq ?_;by_cases hw:ws=[]
 .exact Mf ⟨_,ho,rfl⟩ ⟨_,J,rfl⟩ Mi seq_tuple_add PySem.F.slot_tuple_add PySem.F.entry_tuple_add (PySem.F.args_tuple_add_2 _ _)
   (tuple_addW1 t b vs.toArray ws.toArray n n2 dd Y sl Z (by simpa using hv) (by simp[hw])) ⟨ho,J,h1 hw⟩
 .refine Mf ⟨_,ho,rfl⟩ ⟨_,J,rfl⟩ Mi seq_tuple_add PySem.F.slot_tuple_add PySem.F.entry_tuple_add (PySem.F.args_tuple_add_2 _ _)
   (tuple_addW2 t b vs.toArray ws.toArray n n2 dd Y sl Z (by simpa using hv) (by simpa using hw) (by rw[B1,B1];exact ar)) ⟨ho,J,?_⟩
  rw[e];exact h2 hw
noncomputable def sIx(n d:Nat):Option Int->Nat
 |none=>d
 |some v=>if v<0 then(v+(n:Int)).toNat else min v.toNat n
def sIx_none(n d:Nat):sIx n d none=d:=rfl
def sIx_nat(n d k:Nat):sIx n d (some (k:Int))=min k n:=by
 show(if (k:Int)<0 then((k:Int)+(n:Int)).toNat else min (k:Int).toNat n)=min k n;rw[if_neg (by omega),Int.toNat_natCast]
def CF(n d)(hd:d<=n)(o):sIx n d o<=n:=by
 cases o with
 |none=>exact hd
 |some v =>
  show(if v<0 then(v+_).toNat else min v.toNat n)<=n
  grind
def t7(v)(n d:Nat):(if v<0 then max (v+(n:Int)) 0 else min v (n:Int))=((sIx n d (some v):Nat):Int):=by
 show(if v<0 then max _ 0 else min v _)=(((if v<0 then(v+_).toNat else min v.toNat n):Nat):Int)
 grind
def si(lo hi)(n:Nat):Builtin.Slice.sliceAdjust lo hi 1 (n:Int)=(((sIx n 0 lo:Nat):Int),((sIx n n hi:Nat):Int)):=by
 refine Prod.ext ?_ ?_
 .cases lo with
  |none=>rfl
  |some v=>exact t7 v n 0
 .cases hi with
  |none=>rfl
  |some v=>exact t7 v n n
def sj(i j:Nat):Builtin.Slice.slicePlaces (i:Int) (j:Int) 1=j-i:=by
 unfold Builtin.Slice.slicePlaces
 grind
def lS(p:IsPart v o)(h:Q o s):wpAny (model prog w) A (Builtin.Slice.slicePartIndex v) Q E s:=by
 cases p<;>first|exact slicePart_none h|exact slicePart_int h
def fX{lo hi:Option Int}{n:Nat}{Q:Int×Int×Nat->Shared->Prop}(hs:s.heap.IsSliceOf sl Z vu .none)(pl:IsPart Z lo)(pu:IsPart vu hi)
  (h:Q (((sIx n 0 lo:Nat):Int),1,sIx n n hi-sIx n 0 lo) s):wpAny (model prog w) A (Builtin.Slice.sliceApplied (.ref sl) (pure (n:Int))) Q E s:=by
 refine aQ (id hs) λos J a0 Y=>?_
 refine gf (gf (wpAny_field J Y (x:=Z) rfl (gf (wpAny_field J Y (x:=vu) rfl (gf (wpAny_field J Y (x:=.none) rfl (oe ?_)))))));refine gf (slicePart_none ?_);rw[if_neg (by decide)];refine gf (lS pl (gf (lS pu (gf (oe ?_)))));show wpAny _ _ (match Builtin.Slice.sliceAdjust lo hi 1 _ with|(lo,hi)=>pure (lo,_,Builtin.Slice.slicePlaces lo hi 1)) _ _ s;rw[si lo hi n];show wpAny _ _ (pure (((sIx n 0 lo:Nat):Int),_,Builtin.Slice.slicePlaces _ _ 1)) _ _ s;rw[sj];exact oe h
def wW(xs:Array Value)(i k:Nat):((range k).filterMap λ(m:Nat)=>xs[((i:Int)+(m:Int)*1).toNat]?).toArray=((xs.toList.drop i).take k).toArray:=by
 have e:(λ(m:Nat)=>xs[((i:Int)+(m:Int)*1).toNat]?)=λm=>xs[i+m]?:=by
  funext m
  have:((i:Int)+(m:Int)*1).toNat=i+m:=by omega
  rw[this]
 rw[e];have:=pick_run xs i k;rw[filterMap_map]at this;have J:((λx=>xs[x]?)∘λx=>i+x)=λm=>xs[i+m]?:=rfl
 rw[J]at this;rw[this]
def getItem_tuple_cut{items:Array Value}{vl vu:Value}{lo hi:Option Int}{Q:Value->Shared->Prop}(Y:IsTup s.heap t items)(hs:s.heap.IsSliceOf sl vl vu .none)(pl:IsPart vl lo)(pu:IsPart vu hi)
  (hw:¬ (sIx items.size 0 lo=0/\sIx items.size items.size hi=items.size))
  (h:Q (.ref s.heap.objs.size) { s with heap:=s.heap.push { cls:=.type "tuple",data:=.seq ((items.toList.drop (sIx items.size 0 lo)).take (sIx items.size items.size hi-sIx items.size 0 lo)).toArray } })
  (a4:items.size<=sizeLine):wpAny (model prog w) A (getItem (.ref t) (.ref sl)) Q E s:=by
 have J:sizeOk (.seq ((items.toList.drop (sIx items.size 0 lo)).take (sIx items.size items.size hi-sIx items.size 0 lo)).toArray):=by
  show((items.toList.drop (sIx items.size 0 lo)).take (sIx items.size items.size hi-sIx items.size 0 lo)).toArray.size<=sizeLine;rw[B1,KL,length_drop,Array.length_toList];omega
 have hj:sIx items.size items.size hi<=items.size:=CF _ _ (y4 _) hi;refine aQ (id hs) λos Z ac a5=>?_
 have ao:s.TypeIs (.ref sl) "slice":=⟨os,Z,ac⟩;unfold getItem
 try with_reducible refine Jj ?_
 first|refine gf (oe ?_)|skip
 refine gf (wpAny_sequenceKey Y.typeIs (by decide) ?_);refine gf (JE (name:=Str.ofString "__getitem__") Y.typeIs JC
  (Jh JC Y.typeIs entry_tuple_getitem ?_ (args_tuple_getitem _ _)))
 show wpAny _ _ (Builtin.Tuple.tupleItemsOf (.ref t) >>= _) _ _ s;refine gf (tupleItemsOf_ Y ?_);refine gf (Lk ao ?_);rw[if_pos (by decide)];refine gf (fX hs pl pu ?_);have ar:¬ ((((sIx items.size 0 lo:Nat):Int)==0&&(1:Int)==1&&(sIx items.size items.size hi-sIx items.size 0 lo)==items.size)=true):=by
  simp_all
 show wpAny _ _ (if (((sIx items.size 0 lo:Nat):Int)==0&&(1:Int)==1&&(sIx items.size items.size hi-sIx items.size 0 lo)==items.size)=true then _ else _) _ _ s;rw[if_neg ar,wW]
 first
  | exact gf (m:=Builtin.Tuple.tupleExact _) (JB (oe ⟨_,rfl,oe h⟩) J)
  | exact gf (m:=Builtin.Tuple.tupleExact _) (JB (gf (oe (oe ⟨_,rfl,oe h⟩))) J)
  | exact gf (gf (m:=Builtin.Tuple.tupleExact _) (JB (oe (oe ⟨_,rfl,oe h⟩)) J))
  | exact gf (gf (m:=Builtin.Tuple.tupleExact _) (JB (oe ⟨_,rfl,oe h⟩) J))
end
end HT
namespace L2
open PySem PySem.Spec PyProof.Rows List Option
noncomputable abbrev TO:=St->Hp->(Option Int->Hp->Prop)->Prop
def PO(X:Cx)(e:Option Expr)(t:TO):Prop:=
 ∀pins s (σ:St) H Q,Inv X pins σ H s->t σ H Q ->
  wpAny (model X.prog X.w) X.A (evalPart e X.env) (λu s'=>∃o H',Inv X pins σ H' s'/\IsPart u o/\Q o H') X.xe s
noncomputable def t8:TO:=λ_ H Q=>Q none H
noncomputable def BE(t:TE):TO:=λσ H Q=>t σ H λx H1=>∃i,x=.int i/\Q (some i) H1
def da :∀{us},aF (ns.map V.int) us->IntsAre us ns:=by
 induction ns with
 |nil=>intro us r;rw[map_nil]at r;cases r;exact .nil
 |cons n ns ih =>
  intro us r;cases r with
  |cons J Y =>
   obtain⟨t,e⟩:=J;subst e;exact .cons n t (ih Y)
section
variable{X:Cx}{e:Expr}{te:TE}{lo hi:Option Expr}{tl th:TO}{pos p2:Pos}
def t9:PO X none t8:=by
 intro pins s σ H Q I h;rw[evalPart_none];exact oe ⟨none,H,I,.none,h⟩
def t_(h:PE X e te):PO X (some e) (BE te):=by
 intro pins s σ H Q I hw;rw[evalPart_some];refine thn (h pins s σ H _ I hw) λu s1 Y=>ak Y λx H1 Z r1 q1=>?_
 refine ae q1 λi J q=>?_
 subst J;obtain⟨t,rfl⟩:=r1;exact⟨some i,H1,Z,.int i t,q⟩
def SlR(X:Cx)(r:V->Option Int->Option Int->Hp->VK->Prop):Prop:=
 ∀pins s (σ:St) H x v J Y lo hi Z Q,Inv X pins σ H s->aK x v->s.heap.IsSliceOf Z J Y .none->IsPart J lo->IsPart Y hi->r x lo hi H Q ->
  ∃T id,typeLookup (.type T) "__getitem__"=pure (some (.builtin id))/\s.TypeIs v T/\wpAny (model X.prog X.w) X.A (getItem v (.ref Z)) (EP X pins σ Q) X.xe s
noncomputable def tSl(r:V->Option Int->Option Int->Hp->VK->Prop)(te:TE)(tl th:TO):TE:=λσ H Q=>te σ H λx H1=>tl σ H1 λl H2=>th σ H2 λu J=>r x l u J Q
def qH(hr:SlR X r)(he:PE X e te)(hl:PO X lo tl)(hu:PO X hi th):PE X (.Subscript e (.Slice lo hi none p2) pos) (tSl r te tl th):=by
 intro pins s σ H Q I h;refine Subscript_ (thn (he pins s σ H _ I h) λv s1 Y=>ak Y λx H1 I1 r1 q1=>?_);refine wpAny_Slice (thn (hl pins s1 σ H1 _ I1 q1) λZ s2 Y=>ak Y λl H2 I2 pl q2=>thn (hu pins s2 σ H2 _ I2 q2) λvu J Y=>ak Y λu H3 I3 pu q3=>?_);rw[evalPart_none];refine oe ?_;have I4:Inv X pins σ H3 { J with heap:=J.heap.push { cls:=.type "slice",data:=.fields #[Z,vu,.none] } }:=I3.kept (t':=J.toks) λb ob q=>ox _ q
 obtain⟨T,id,hT,ht,hg⟩:=hr pins { J with heap:=J.heap.push { cls:=.type "slice",data:=.fields #[Z,vu,.none] } } σ H3 x v Z vu l u J.heap.objs.size Q I4 r1 (Heap.IsSliceOf.new ..) pl pu q3;exact tail_any ht hT hg (by with_unfolding_all rfl)
noncomputable def nH(xs:List V)(lo hi:Option Int):List V:=(xs.drop (HT.sIx xs.length 0 lo)).take (HT.sIx xs.length xs.length hi-HT.sIx xs.length 0 lo)
def kL(xs)(lo hi):(nH xs lo hi).length<=xs.length:=by
 unfold nH;rw[KL,length_drop];omega
def HP(K:Mx):V->Option Int->Option Int->Hp->VK->Prop:=λx lo hi H Q=>∃a xs,x=.ref a/\SqT K H a xs /\
 ¬ (HT.sIx xs.length 0 lo=0/\HT.sIx xs.length xs.length hi=xs.length)/\∀p,H p=none->Q (.ref p) (upd H p (.tup (nH xs lo hi)))
def CG:SlR X (HP X.K):=by
 intro pins s σ H x v vl vu lo hi sl Q I rx hs pl pu h;refine iJ h λa xs Y hx hw q=>?_
 subst Y;subst rx;refine aQ (I.tuple hx) λits r Z hz=>?_
 have J:its.toArray.size=xs.length:=by rw[B1];exact r.length.symm
 refine⟨"tuple",_,JC.lookup,Z.typeIs,?_⟩;refine HT.getItem_tuple_cut Z hs pl pu (by rw[J];exact hw) ?_ (by rw[J];exact hz);rw[J];refine⟨.ref s.heap.objs.size,_,I.laid (t':=s.toks) (o:=.tup (nH xs lo hi)) (λb ob q=>ox _ q) (y4 _) ?_,rfl,q _ (I.hok.fresh (y4 _))⟩;exact⟨IQ (kL xs lo hi) hz,_,(r.drop (HT.sIx xs.length 0 lo)).take (HT.sIx xs.length xs.length hi-HT.sIx xs.length 0 lo),IsTup.new _ _⟩
noncomputable def FB(K:Mx):R2:=λx y H Q=>∃a b xs ys,x=.ref a/\y=.ref b/\SqT K H a xs/\SqT K H b ys/\xs≠[]/\xs.length+ys.length<=sizeLine /\
 (ys=[]->Q (.ref a) H)/\(ys≠[]->∀p,H p=none->Q (.ref p) (upd H p (.tup (xs++ys))))
def aF.nil_iff(r:aF xs us):us=[] ↔ xs=[]:=by
 cases r<;>simp_all
def Ak:OpR X (binaryOp .Add) (FB X.K):=by
 intro pins s σ H x y v u Q I rx ry h;refine bf λZq kq=>?_
 obtain⟨a,b,xs,ys,rfl,rfl,ha,hb,hx,hz,q1,q2⟩:=h;subst rx;subst ry;refine kq ?_;refine aQ (I.tuple ha) λits Y p1 _=>?_
 refine aQ (I.tuple hb) λZ J p2 _=>?_
 refine HT.cat_tup p1 p2 (λz=>hx (Y.nil_iff.mp z)) (λz=>⟨.ref a,H,I,rfl,q1 (J.nil_iff.mp z)⟩) (λz=>?_) (by rw[<- Y.length,<- J.length];exact hz);refine⟨.ref s.heap.objs.size,_,I.laid (t':=s.toks) (o:=.tup (xs++ys)) (λb ob q=>ox _ q) (y4 _) ?_,rfl,q2 (λw=>z (J.nil_iff.mpr w)) _ (I.hok.fresh (y4 _))⟩;exact⟨by rw[IX];exact hz,_,Y.append J,IsTup.new _ _⟩
end
noncomputable def ixN(n:Nat)(i:Int):Option Nat:=if 0<=i then(if i<n then some i.toNat else none)else if -(n:Int)<=i then some (i+n).toNat else none
noncomputable def atI{α:Type}(xs:List α)(i:Int):Option α:=(ixN xs.length i).bind λj=>xs[j]?
def ua(h:ixN n i=some j):seqIndex? i n=some j/\j<n/\-(n:Int)<=i/\i<n:=by
 unfold ixN at h;by_cases J:0<=i
 .rw[if_pos J]at h;by_cases h1:i<n
  .rw[if_pos h1]at h;have e:=IT h;exact⟨by rw[seqIndex_of J h1,e],by omega,by omega,h1⟩
  .simp_all
 .rw[if_neg J]at h;by_cases h1:-(n:Int)<=i
  .rw[if_pos h1]at h;have e:=IT h;exact⟨by rw[seqIndex_neg (Mb.mp ‹_›) h1,e],by omega,h1,by omega⟩
  .simp_all
def po(h:atI xs i=some v):∃j,seqIndex? i xs.length=some j/\xs[j]?=some v/\j<xs.length/\-(xs.length:Int)<=i/\i<xs.length:=by
 unfold atI at h;cases e:ixN xs.length i with
 |none=>rw[e]at h;exact aT h
 |some j =>
  rw[e]at h;refine fW (ua e) λh1 h2 J Y=>?_
  exact⟨j,h1,h,h2,J,Y⟩
def Am{α:Type}{xs:List α}{j:Nat}{v:α}(h:xs[j]?=some v):atI xs (j:Int)=some v:=by
 have J:j<xs.length:=(II.mp h).1;have e:ixN xs.length (j:Int)=some j:=by
  unfold ixN;rw[if_pos (by omega),if_pos (by omega)];simp
 unfold atI;rw[e];exact h
def pq(b:Expr):Prop:=∀o i,subscripted b false o i=operate [o,i] (getItem o i)
def IxR(X:Cx)(r:R2):Prop:=
 ∀value slice pins s (σ:St) H x y v u Q,Inv X pins σ H s->aK x v->aK y u->r x y H Q ->
  subscripted slice false v u=operate [v,u] (getItem v u)->wpAny (model X.prog X.w) X.A (subscriptTail value slice v u) (EP X pins σ Q) X.xe s
def MtR(X:Cx)(id:String)(r:V->List V->Hp->VK->Prop):Prop:=
 ∀pins s (σ:St) H x xs v us Q,Inv X pins σ H s->aK x v->aF xs us->r x xs H Q ->
  wpAny (model X.prog X.w) X.A (call (.builtin id) (v::us)) (EP X pins σ Q) X.xe s
section
variable{X:Cx}{a b:Expr}{ta tb:TE}{pos:Pos}
theorem IxR.or(h:IxR X r)(h':IxR X Z):IxR X (λx y H Q=>r x y H Q\/Z x y H Q):=by
 intro value slice pins s σ H x y v u Q I J Y q hs;rcases q with q|q
 .exact h value slice pins s σ H x y v u Q I J Y q hs
 .exact h' value slice pins s σ H x y v u Q I J Y q hs
def wX(J:IxR X r)(Y:PE X a ta)(Z:PE X b tb)(hs:pq b):PE X (.Subscript a b pos) (tOp r ta tb):=by
 intro pins s σ H Q I h;exact Subscript_ (Ct Y Z I h λv u s2 x y H2 I2 rx ry q=>J a b pins s2 σ H2 x y v u Q I2 rx ry q (hs _ _))
noncomputable def An(K:Mx):R2:=λx y H Q=>∃p xs i v,x=.ref p/\y=.int i/\SqL K H p xs/\atI xs i=some v/\Q v H
noncomputable def FC(K:Mx):R2:=λx y H Q=>∃p xs i v,x=.ref p/\y=.int i/\SqT K H p xs/\atI xs i=some v/\Q v H
noncomputable def FD:R2:=λx y H Q=>∃z i c,x=.str z/\y=.int i/\z.length<=sizeLine/\atI z.cps.toList i=some c/\Q (.str ⟨#[c]⟩) H
def pz:IxR X (An X.K):=by
 intro value slice pins s σ H x y v u Q I rx ry h hs;refine lK h λp xs i z J Y hq he q=>?_
 subst J;subst Y;subst rx;obtain⟨t,rfl⟩:=ry;refine aQ (I.list hq) λits r Z hz=>?_
 refine wD (po he) λj h1 h2 h3 h4 h5=>?_
 refine ae (r.get h2) λw ew ac=>?_
 have hl:=r.length;have hn:=jR;have fin:EP X pins σ Q w s:=⟨z,H,I,ac,q⟩;by_cases h0:0<=i
 .have hj:i.toNat=j:=by
   rw[seqIndex_of h0 h5]at h1;exact IT h1
  exact item_listR Z.isList h0 (by omega) (by rw[hj];simpa using ew) fin hs
 .have hj:(i+(its.toArray.size:Int)).toNat=j:=by
   rw[seqIndex_neg (Mb.mp ‹_›) h4]at h1;rw[B1,<- hl];exact IT h1
  exact subscriptTail_builtinR (x:=w) Z.isList.typeIs slot_list_getitem.lookup
   (wpAny_getItem_list_neg (Q:=λr s'=>r=w/\EP X pins σ Q r s') Z.isList (Mb.mp ‹_›) (by rw[B1]<;>omega) (by omega) (by rw[hj];simpa using ew) ⟨rfl,fin⟩) hs
def CH:IxR X (FC X.K):=by
 intro value slice pins s σ H x y v u Q I rx ry h hs;refine bf λZq kq=>?_
 refine lK h λp xs i z J Y hq he q=>?_
 subst J;subst Y;subst rx;obtain⟨t,rfl⟩:=ry;refine aQ (I.tuple hq) λits r pl hz=>?_
 refine wD (po he) λj h1 h2 h3 h4 h5=>?_
 refine ae (r.get h2) λw ew Z=>?_
 have hl:=r.length;have hn:=jR;have fin:EP X pins σ Q w s:=⟨z,H,I,Z,q⟩;refine kq ?_;exact subscriptTail_builtinR pl.typeIs slot_tuple_getitem.lookup
  (getItem_tuple pl (by omega) (by omega) (by rw[B1,<- hl];exact h1) (by simpa using ew) ⟨rfl,fin⟩) hs
def CI:IxR X FD:=by
 intro value slice pins s σ H x y v u Q I Z ry h hs;refine bf λZq kq=>?_
 refine n5 h λz i c J Y hz he q=>?_
 subst J;subst Y;obtain⟨t,rfl⟩:=Z;obtain⟨t',rfl⟩:=ry;refine wD (po he) λj h1 h2 h3 h4 h5=>?_
 have hl:z.cps.toList.length=z.length:=by rfl
 rw[hl]at h1 h4 h5;have hn:=jR;refine kq ?_;exact tail_any (typeIs_str s z t) slot_str_getitem.lookup (getItem_str (by
  have e1:decide (i < -(2 ^ 63:Int))=false:=Jt (by omega);have e2:decide (i>=2 ^ 63)=false:=Jt (by omega);rw[e1,e2,Bool.or_false]) (by rw[h1];simpa using h2) ⟨.str ⟨#[c]⟩,H,I.tok _,⟨_,rfl⟩,q⟩) hs
noncomputable def rIx(K:Mx):R2:=λx y H Q=>An K x y H Q\/FC K x y H Q\/FD x y H Q
def wY:IxR X (rIx X.K):=pz.or (CH.or CI)
def sk (its:List Value) (n j) (u):Obj.mapSeq (·.setIfInBounds j u) { cls:=.type "list",data:=.seq its.toArray n }={ cls:=.type "list",data:=.seq (its.set j u).toArray n }:=by
 simp[Obj.mapSeq]
theorem Inv.lst(I:Inv X pins σ H s)(h:H p=some (.lst xs)) :
  ∃its n,aF xs its/\s.heap.get? p=some { cls:=.type "list",data:=.seq its.toArray n }/\xs.length<=sizeLine:=by
 obtain⟨z,its,n,r,e⟩:=I.hok p _ h;exact⟨its,n,r,e,z⟩
def Inv.lstUpd{σ:St}{H:Hp}{s:Shared}{p:Addr}{xs ys:List V}{its its':List Value}{n J:Nat}{f:Obj->Obj}(I:Inv X pins σ H s)(h:H p=some (.lst xs))
  (ho:s.heap.get? p=some { cls:=.type "list",data:=.seq its.toArray n }) (Y:f { cls:=.type "list",data:=.seq its.toArray n }={ cls:=.type "list",data:=.seq its'.toArray J }) (r:aF ys its') (hz:ys.length<=sizeLine) (t) :
  Inv X pins σ (upd H p (.lst ys)) { s with heap:=s.heap.update p f,toks:=t }:=by
 have e:(s.heap.update p f).get? p=some { cls:=.type "list",data:=.seq its'.toArray J }:=by
  rw[JN f ho (by rw[Y]<;>rfl),Y]
 refine I.write (x:=p) (e:=p) (by rw[h];trivial) (.inl rfl) (λb u Z q=>(JK _ _ (JF Z)).trans q) ⟨_,e⟩ ?_;exact⟨hz,its',J,r,e⟩
def FE:V->V->V->Hp->(Hp->Prop)->Prop:=λo i v H Q=>∃p xs k j,o=.ref p/\i=.int k/\H p=some (.lst xs)/\ixN xs.length k=some j/\Q (upd H p (.lst (xs.set j v)))
def set_list:Fn X FE:=by
 intro pins s σ H o i v ov iv u Q I ro ri rv h;refine lK h λp xs k j J Y hp hj q=>?_
 subst J;subst Y;subst ro;obtain⟨t,rfl⟩:=ri;refine ak (I.lst hp) λits n r ho hz=>?_
 refine fW (ua hj) λh1 h2 h3 h4=>?_
 have Z:=r.length;have hn:=jR;have I':Inv X pins σ (upd H p (.lst (xs.set j v))) { s with heap:=s.heap.update p (Obj.mapSeq (·.setIfInBounds j u)) }:=
  I.lstUpd hp ho (sk its n j u) (r.set rv j) (by rw[JW];exact hz) s.toks
 by_cases h0:0<=k
 .have hk:k.toNat=j:=by
   rw[seqIndex_of h0 h4]at h1;exact IT h1
  exact PySem.W.ki_setAt ho h0 (by omega) (by rw[B1,<- Z];exact h4) (by rw[hk];exact⟨_,I',q⟩)
 .have hk:(k+(its.toArray.size:Int)).toNat=j:=by
   rw[seqIndex_neg (Mb.mp ‹_›) h3]at h1;rw[B1,<- Z];exact IT h1
  exact PySem.W.ki_setBack ho (Mb.mp ‹_›) (by rw[B1,<- Z];exact h3) (by omega) (by rw[hk];exact⟨_,I',q⟩)
def pA(lo hi)(n):(sliceBounds lo hi none n).1=((HT.sIx n 0 lo:Nat):Int)/\(sliceBounds lo hi none n).2.1=((HT.sIx n n hi:Nat):Int)/\(sliceBounds lo hi none n).2.2=1:=by
 refine⟨?_,?_,rfl⟩
 .cases lo with
  |none=>rfl
  |some i =>
   simp[sliceBounds,HT.sIx,getD_none,show(1:Int) > 0 by decide,if_true];by_cases h:i<0
   .simp[h,if_true]<;>omega
   .simp[h,JS]<;>omega
 .cases hi with
  |none=>rfl
  |some i =>
   simp[sliceBounds,HT.sIx,getD_none,show(1:Int) > 0 by decide,if_true];by_cases h:i<0
   .simp[h,if_true]<;>omega
   .simp[h,JS]<;>omega
def nI(its:List Value)(lo hi:Option Int):slicePick its.toArray lo hi none=((its.drop (HT.sIx its.length 0 lo)).take (HT.sIx its.length its.length hi-HT.sIx its.length 0 lo)).toArray:=by
 refine eT (pA lo hi its.toArray.size) λh1 h2 J=>?_
 unfold slicePick;rw[h1,h2,J];simp only[sliceRange_one,pick_run,B1]<;>rfl
def FF(K:Mx):V->Option Int->Option Int->Hp->VK->Prop:=λx lo hi H Q=>∃a xs,x=.ref a/\SqL K H a xs/\∀p,H p=none->Q (.ref p) (upd H p (.lst (nH xs lo hi)))
def ub:SlR X (FF X.K):=by
 intro pins s σ H x v vl vu lo hi sl Q I rx hs pl pu h;refine ak h λa xs Y hx q=>?_
 subst Y;subst rx;refine aQ (I.list hx) λits r Z hz=>?_
 have J:=r.length;refine⟨"list",_,slot_list_getitem.lookup,Z.isList.typeIs,?_⟩;refine wpAny_getItem_list_slice Z.isList hs pl pu .none (by simp) ?_ (by rw[B1]<;>omega);rw[nI,<- J];refine⟨.ref s.heap.objs.size,_,I.laid (t':=s.toks) (o:=.lst (nH xs lo hi)) (λb ob q=>ox _ q) (y4 _) ?_,rfl,q _ (I.hok.fresh (y4 _))⟩;exact⟨IQ (kL xs lo hi) hz,_,0,(r.drop (HT.sIx xs.length 0 lo)).take (HT.sIx xs.length xs.length hi-HT.sIx xs.length 0 lo),IH _ rfl⟩
noncomputable def ic:V->Bool
 | .non=>true
 | .bl _=>true
 | .int _=>true
 | .str _=>true
 | _=>false
noncomputable def eqV:V->V->Bool
 | .non,.non=>true
 | .bl a,.bl b=>a==b
 | .bl a,.int b=>(if a then 1 else 0)==b
 | .int a,.bl b=>a==(if b then 1 else 0)
 | .int a,.int b=>a==b
 | .str a,.str b=>a==b
 | _,_=>false
def wZ(Y:aK y u)(J:aK x v)(fy:ic y=true)(Z:ic x=true):SeqAt.EqAt A s u v (eqV y x):=by
 cases y with
 |non =>
  cases Y;cases x with
  |non=>subst J;exact SeqAt.EqAt.same _
  |bl b=>subst J;exact SeqAt.EqAt.none_bool b
  |int b=>obtain⟨t,rfl⟩:=J;exact SeqAt.EqAt.none_int b t
  |str b=>obtain⟨t,rfl⟩:=J;exact SeqAt.EqAt.none_str b t
  | _=>exact absurd (show false=true from Z) tf
 |bl a =>
  subst Y;cases x with
  |non=>subst J;exact SeqAt.EqAt.bool_none a
  |bl b=>subst J;exact SeqAt.EqAt.bool_bool a b
  |int b=>obtain⟨t,rfl⟩:=J;exact SeqAt.EqAt.bool_int a b t
  |str b=>obtain⟨t,rfl⟩:=J;exact SeqAt.EqAt.bool_str a b t
  | _=>exact absurd (show false=true from Z) tf
 |int a =>
  obtain⟨t',rfl⟩:=Y;cases x with
  |non=>subst J;exact SeqAt.EqAt.int_none a t'
  |bl b=>subst J;exact SeqAt.EqAt.int_bool a t' b
  |int b=>obtain⟨t,rfl⟩:=J;exact SeqAt.EqAt.int_int a t' b t
  |str b=>obtain⟨t,rfl⟩:=J;exact SeqAt.EqAt.int_str a t' b t
  | _=>exact absurd (show false=true from Z) tf
 |str a =>
  obtain⟨t',rfl⟩:=Y;cases x with
  |non=>subst J;exact SeqAt.EqAt.str_none a t'
  |bl b=>subst J;exact SeqAt.EqAt.str_bool a t' b
  |int b=>obtain⟨t,rfl⟩:=J;exact SeqAt.EqAt.str_int a t' b t
  |str b=>obtain⟨t,rfl⟩:=J;exact SeqAt.EqAt.str_str a t' b t
  | _=>exact absurd (show false=true from Z) tf
 | _=>exact absurd (show false=true from fy) tf
def gw:bW X (.builtin "len") (λxs H Q=>∃p ys,xs=[.ref p]/\(SqL X.K H p ys\/SqT X.K H p ys)/\Q (.int ys.length) H):=by
 intro pins s σ H xs us Q I r h;refine ak h λp ys Z Y q=>?_
 subst Z;refine ae (dW r) λu ac rx=>?_
 subst ac;subst rx;have hn:=jR;rcases Y with Y|Y
 .obtain⟨its,r',pl,hz⟩:=I.list Y;have J:=r'.length;exact Calls.call_len_list pl.isList (by simp[B1]<;>omega) ⟨.int ys.length,H,I.tok _,⟨s.toks+1,by rw[B1,J]⟩,q⟩
 .obtain⟨its,r',pl,hz⟩:=I.tuple Y;have J:=r'.length;exact len_tuple pl (by simp[B1]<;>omega) ⟨.int ys.length,H,I.tok _,⟨s.toks+1,by rw[B1,J]⟩,q⟩
def pB:bW X (.type "list") (λxs H Q=>∃p ys,xs=[.ref p]/\(SqL X.K H p ys\/SqT X.K H p ys)/\∀l,H l=none->Q (.ref l) (upd H l (.lst ys))):=by
 intro pins s σ H xs us Q I r h;refine ak h λp ys ao Z q=>?_
 subst ao;refine ae (dW r) λu ar rx=>?_
 subst ar;subst rx;have fin:∀its,aF ys its->ys.length<=sizeLine->∀h' J,(∀b o',s.heap.get? b=some o'->h'.get? b=some o') ->
   h'.get? s.heap.objs.size=some { cls:=.type "list",dict:=none,data:=.seq its.toArray J,slots:=#[] }->EP X pins σ Q (.ref s.heap.objs.size) { s with heap:=h' }:=λits Y hz h' J kp e =>
  ⟨.ref s.heap.objs.size,_,I.laid (t':=s.toks) kp (y4 _) (show bD X.prog X.w _ h' _ (.lst ys)from⟨hz,its,J,Y,e⟩),rfl,q _ (I.hok.fresh (y4 _))⟩
 rcases Z with Z|Z
 .obtain⟨its,Y,pl,hz⟩:=I.list Z;have ac:=Y.length;obtain⟨o,ho,hc,n,hd⟩:=pl.isList;exact call_list_seq p (.inl rfl) ho hc hd (λh' J kp e=>fin its Y hz h' J kp e) (by simp only[B1]<;>omega)
 .obtain⟨its,Y,pl,hz⟩:=I.tuple Z;have ac:=Y.length;obtain⟨o,ho,hc,n,hd⟩:=pl;exact call_list_seq p (.inr rfl) ho hc hd (λh' J kp e=>fin its Y hz h' J kp e) (by simp only[B1]<;>omega)
def fI:bW X (.type "tuple") (λxs H Q=>∃p ys,xs=[.ref p]/\((SqL X.K H p ys/\∀l,H l=none->Q (.ref l) (upd H l (.tup ys)))\/(SqT X.K H p ys/\Q (.ref p) H))):=by
 intro pins s σ H xs us Q I r h;obtain⟨p,ys,rfl,h⟩:=h;refine ae (dW r) λu J rx=>?_
 subst J;subst rx;rcases h with⟨Y,q⟩|⟨Y,q⟩
 .refine aQ (I.list Y) λits Z pl hz=>?_
  have ao:=Z.length;refine call_tuple_list pl.isList (λh' kp=>?_) (by simp[B1]<;>omega);have I1:=I.kept (t':=s.toks) kp;have I2:Inv X pins σ (upd H h'.objs.size (.tup ys)) { s with heap:=h'.push { cls:=.type "tuple",data:=.seq its.toArray } }:=
   I1.laid (λb o e=>ox _ e) (y4 _) (show bD X.prog X.w _ _ _ _ from⟨hz,its,Z,IsTup.new _ _⟩)
  exact⟨.ref h'.objs.size,_,I2,rfl,q _ (I1.hok.fresh (y4 _))⟩
 .refine aQ (I.tuple Y) λits Z pl hz=>?_
  exact call_tuple_same pl ⟨.ref p,H,I,rfl,q⟩
def tyV(K:Mx)(T:String)(x:V)(H:Hp):Prop:=match x with
 | .str _=>T="str"
 | .int _=>T="int"
 | .ref p=>(T="list"/\∃xs,SqL K H p xs)\/(T="tuple"/\∃o,K.lookup p=some o/\o.cls=.type "tuple"/\o.dict=none) \/
   (T="dict"/\((∃kvs,H p=some (.dK kvs))\/∃kvs,H p=some (.dT kvs)))\/(T="set"/\∃S n,H p=some (.set S n))
 | _=>False
def CJ(I:Inv X pins σ H s)(r:aK x v)(ty:tyV X.K T x H) :
  s.TypeIs v T/\∀a,v=.ref a->∃Z,s.heap.get? a=some Z/\Z.dict=none:=by
 cases x with
 |str z =>
  obtain⟨t,rfl⟩:=r;cases (show T="str" from ty);exact⟨typeIs_str s z t,λ_ e=>nomatch e⟩
 |int i =>
  obtain⟨t,rfl⟩:=r;cases (show T="int" from ty);exact⟨typeIs_int s i t,λ_ e=>nomatch e⟩
 |ref p =>
  subst r;rcases ty with⟨rfl,xs,hq⟩|⟨rfl,o,J,hc,hd⟩|⟨rfl,J⟩|⟨rfl,S,n,J⟩
  .refine aQ (I.list hq) λits _ pl _=>?_
   refine⟨pl.isList.typeIs,λa e=>?_⟩;cases e;refine iJ pl λo n e c hd _=>?_
   exact⟨o,e,hd⟩
  .refine⟨⟨o,I.kIn p o J,hc⟩,λa e=>?_⟩;cases e;exact⟨o,I.kIn _ o J,hd⟩
  .have z:∃o,s.heap.get? p=some o/\o.ExactDict:=by
    rcases J with⟨kvs,J⟩|⟨kvs,J⟩
    .obtain⟨_,_,_,_,o,_,_,e,ex,_⟩:=I.hok p _ J;exact⟨o,e,ex⟩
    .obtain⟨_,_,_,_,o,_,_,e,ex,_⟩:=I.hok p _ J;exact⟨o,e,ex⟩
   obtain⟨o,e,ex⟩:=z;refine⟨⟨o,e,ex.1⟩,λa Y=>?_⟩;cases Y;exact⟨o,e,ex.2.1⟩
  .refine Fd (I.hok p _ J) λo _ _ _ e ex _=>?_
   refine⟨⟨o,e,ex.1⟩,λa Y=>?_⟩;cases Y;exact⟨o,e,ex.2.1⟩
 | _=>exact False.elim ty
noncomputable def tBM(K:Mx)(T:String)(r:V->List V->Hp->VK->Prop)(to:TE)(t:TA):TE:=λσ H Q=>to σ H λx H1=>tyV K T x H1/\t σ H1 λxs H2=>r x xs H2 Q
variable{o e:Expr}{es:List Expr}{to:TE}{t:TA}{name:Str}{apos cpos:Pos}{T id:String}{r:V->List V->Hp->VK->Prop}
def kM (pa:PlainAttrs T) (slot:Slot T name id) (ao:typeOf (.builtin id)=pure (.type "method_descriptor")) (hm:MtR X id r) (ho:PE X o to) (ha:PA X (e::es) t)
  (Y:attributeBase o name X.env (eval o X.env)=eval o X.env:=by rfl)
  (ac:((backTo cpos (starEach (e::es) X.env)).all (λx=>!x.1)&&(backToKw cpos (keywordEach [] X.env)).all (λx=>x.1.isSome)
  &&decide ((e::es).length+([]:List Keyword).length+(if ([]:List Keyword).isEmpty then 0 else 1)<30))=true:=by rfl)
  (Z:(apos.endLine==cpos.line)=true:=by rfl) (hs:starEach (e::es) X.env=(false,eval e X.env)::starEach es X.env:=by rfl) (J:(backTo cpos (starEach es X.env)).any (·.1)=false:=by rfl) :
  PE X (.Call (.Attribute o name apos) (e::es) [] cpos) (tBM X.K T r to t):=by
 intro pins s σ H Q I h;refine wpAny_Call_method_late Y ac Z rfl (thn (ho pins s σ H _ I h) λv s1 hq=>iJ hq λx H1 I1 r1 ty q1=>?_);obtain⟨h1,h2⟩:=CJ I1 r1 ty;refine⟨T,id,pa,slot,ao,h1,h2,?_⟩;have hA:=ha cpos pins s1 σ H1 _ I1 q1;rw[hs]at hA ⊢;refine Lw (by show(false||(backTo cpos (starEach es X.env)).any (·.1))=false;rw[J]<;>rfl) (Calls.evalArgs_plain ?_);exact thn hA λus s2 hq=>ak hq λvs H2 I2 r2 q2=>hm pins s2 σ H2 x vs v us Q I2 r1 r2 q2
end
def MtM(X:Cx)(id:String)(r:V->List V->Hp->VK->Prop):Prop:=
 ∀pins s (σ:St) H x xs v us Q,Inv X pins σ H s->aK x v->aF xs us->r x xs H Q ->
  wpAny (model X.prog X.w) X.A (call (.builtin id) (v::us)) (EP X pins σ Q) X.xe s
theorem aF.one:∀{x}{us},aF [x] us->∃u,us=[u]/\aK x u
 | _,_,.cons r .nil=>⟨_,rfl,r⟩
def aF.zero:∀{us},aF [] us->us=[]
 | _,.nil=>rfl
theorem aF.eraseIdx:∀{xs:List V}{us:List Value} (i:Nat),aF xs us->aF (xs.eraseIdx i) (us.eraseIdx i)
 | _,_,_,.nil=>.nil
 | _,_,0,.cons _ t=>t
 | _,_,i+1,.cons r t=>.cons r (aF.eraseIdx i t)
theorem aF.reverse(h:aF xs us):aF xs.reverse us.reverse:=by
 induction h with
 |nil=>exact .nil
 |cons r t ih=>rw[reverse_cons,reverse_cons];exact aF.append ih (.cons r .nil)
theorem aF.rep{xs:List V}{us:List Value}(h:aF xs us):∀k:Nat,aF (replicate k xs).flatten (replicate k us).flatten
 |0=>.nil
 |k+1=>by
  rw[replicate_succ,replicate_succ,flatten_cons,flatten_cons];exact aF.append h (aF.rep h k)
theorem om{α:Type}:∀(l:List α) (i:Nat),(l.eraseIdx i).length<=l.length
 | [],_=>y4 _
 | _::_,0=>Kb _
 | _::r,i+1=>Nat.succ_le_succ (om r i)
theorem oq(its:List Value):∀(k:Nat) (J:List Value),
  foldl (λY Z=>Y++Z) J.toArray (replicate k its.toArray)=(J++(replicate k its).flatten).toArray
 |0,J=>by simp
 |k+1,J=>by
  have e:J.toArray++its.toArray=(J++its).toArray:=by simp
  have e2:(J++its)++(replicate k its).flatten=J++(replicate (k+1) its).flatten:=by
   rw[replicate_succ,flatten_cons,Kk]
  rw[<- e2,<- oq its k (J++its),<- e,replicate_succ,foldl_cons]
section
variable{X:Cx}{pins:List (Addr×Obj)}{σ:St}{H:Hp}{s:Shared}{l b:Addr}{xs ys zs:List V}
theorem Inv.lset{its its':List Value}{n:Nat}{f:Array Value->Array Value}{t':Nat}(I:Inv X pins σ H s)(J:H l=some (.lst xs))
  (e:s.heap.get? l=some { cls:=.type "list",data:=.seq its.toArray n }) (Y:f its.toArray=its'.toArray) (hv:aF ys its') (hz:ys.length<=sizeLine) :
  Inv X pins σ (upd H l (.lst ys)) { s with heap:=s.heap.update l (Obj.mapSeq f),toks:=t' }:=by
 have q:=PySem.IsL.update e f;rw[Y]at q;refine I.write (x:=l) (e:=l) (by rw[J];exact trivial) (.inl rfl) (λb' u Z hu=>(JK s.heap (Obj.mapSeq f) (JF Z)).trans hu) ⟨_,q⟩ ?_;exact⟨hz,its',_,hv,q⟩
theorem Inv.lnew(I:Inv X pins σ H s)(hv:aF ys its)(hz:ys.length<=sizeLine) :
  Inv X pins σ (upd H s.heap.objs.size (.lst ys)) { s with heap:=s.heap.push { cls:=.type "list",data:=.seq its.toArray },toks:=t' }:=
 I.laid (λ_ _ q=>ox _ q) (y4 _) ⟨hz,its,0,hv,IH _ rfl⟩
theorem Inv.fresh(I:Inv X pins σ H s):H s.heap.objs.size=none:=I.hok.fresh (y4 _)
theorem Inv.lstM (I:Inv X pins σ H s) (J:H l=some (.lst xs)):xs.length<=sizeLine/\∃its n,aF xs its/\xs.length=its.length/\s.heap.get? l=some { cls:=.type "list",data:=.seq its.toArray n }:=by
 obtain⟨z,its,n,r,e⟩:=I.hok l _ J;exact⟨z,its,n,r,r.length,e⟩
def jd(h:n<=sizeLine):Builtin.List.listTooLong n=false:=by simp_all [Builtin.List.listTooLong]
end
section
variable{X:Cx}
def eI:V->List V->Hp->VK->Prop:=λx vs H Q=>∃l xs y,x=.ref l/\vs=[y]/\H l=some (.lst xs)/\xs.length<sizeLine/\Q .non (upd H l (.lst (xs++[y])))
def eP:MtM X "list.append" eI:=by
 intro pins s σ H x vs v us Q I rx rv h;refine bf λZq kq=>?_
 refine n5 h λl xs y J Y hH hz q=>?_
 subst J;subst Y;subst rx;refine ae rv.one λu Z ru=>?_
 subst Z;obtain⟨z,its,n,r,hl,e⟩:=I.lstM hH;refine kq ?_;refine K4 F.slot_list_append ⟨_,e,rfl⟩ F.entry_list_append (F.args_list_append_2 _ _) (PySem.list_append l its.toArray n u (by rw[B1];omega)) ⟨e,?_⟩;refine⟨.non,_,I.lset hH e (by simp) (r.append (.cons ru .nil)) ?_,rfl,q⟩
 grind
def pC:V->List V->Hp->VK->Prop:=λx vs H Q=>∃l b xs zs,x=.ref l/\vs=[.ref b]/\H l=some (.lst xs)/\H b=some (.lst zs)/\xs.length+zs.length<=sizeLine/\Q .non (upd H l (.lst (xs++zs)))
def vz:MtM X "list.extend" pC:=by
 intro pins s σ H x vs v us Q I rx rv h;obtain⟨l,b,xs,zs,rfl,rfl,hH,hB,hz,q⟩:=h;cases rx;obtain⟨u,rfl,ru⟩:=rv.one;cases ru;obtain⟨z,its,n,r,hl,e⟩:=I.lstM hH;obtain⟨z2,J,n2,r2,a3,e2⟩:=I.lstM hB;have Z:its.toArray.size+J.toArray.size<=sizeLine:=by rw[B1,B1];omega
 have Y:¬ (!its.toArray.isEmpty&&Builtin.List.listTooLong (its.toArray.size+J.toArray.size))=true:=by
  rw[jd Z,Mu];exact tf
 refine K4 F.slot_list_extend ⟨_,e,rfl⟩ F.entry_list_extend (F.args_list_extend_2 _ _)
  (AutoSeq1.list_extend_list_list_0 l its.toArray n b J.toArray n2 Y (by rw[B1];omega) (by omega)) ⟨e,e2,?_⟩
 refine⟨.non,_,I.lset (its':=its++J) hH e (by simp) (r.append r2) ?_,rfl,q⟩;rw[IX];omega
def lT:V->List V->Hp->VK->Prop:=λx vs H Q=>∃l xs i k y,x=.ref l/\vs=[.int i]/\H l=some (.lst xs)/\-(2 ^ 63)<=i/\i<2 ^ 63/\seqIndex? i xs.length=some k/\xs[k]?=some y/\Q y (upd H l (.lst (xs.eraseIdx k)))
def w_:MtM X "list.pop" lT:=by
 intro pins s σ H x vs v us Q I Z rv h;obtain⟨l,xs,i,k,y,rfl,rfl,Y,h1,h2,hk,hy,q⟩:=h;cases Z;obtain⟨u,rfl,ru⟩:=rv.one;obtain⟨t,rfl⟩:=ru;obtain⟨z,its,n,r,hl,e⟩:=I.lstM Y;obtain⟨w,hw,J⟩:=r.get hy;refine K4 F.slot_list_pop ⟨_,e,rfl⟩ F.entry_list_pop (F.args_list_pop_2 _ _)
  (MeetsSeq.list_pop_at l its.toArray n i t k w (fitsIndex_both h1 h2) (by rw[B1,<- hl];exact hk) (by rw[<- Ju];exact hw) (by rw[B1];omega)) ⟨e,?_⟩
 refine⟨y,_,I.lset (its':=its.eraseIdx k) Y e ?_ (r.eraseIdx k) ?_,J,q⟩
 .show its.toArray.eraseIdxIfInBounds k=(its.eraseIdx k).toArray;rw[eraseIdxIfInBounds_toArray]
 .have:=om xs k;omega
noncomputable def FH:R2:=λx y H Q=>∃l k xs,x=.ref l/\y=.int k/\H l=some (.lst xs)/\-(2 ^ 63)<=k/\k<2 ^ 63/\xs.length*k.toNat<=sizeLine /\
 ∀p,H p=none->Q (.ref p) (upd H p (.lst (replicate k.toNat xs).flatten))
def pD{α:Type}(xs:List α)(k:Nat):(replicate k xs).flatten.length=k*xs.length:=by
 induction k with
 |zero=>simp
 |succ k ih=>rw[replicate_succ,flatten_cons,IX,ih,Nat.succ_mul,Nat.add_comm]
def CK:OpR X (binaryOp .Mult) FH:=by
 intro pins s σ H x y v u Q I rx ry h;obtain⟨l,k,xs,rfl,rfl,hH,h1,h2,hz,q⟩:=h;cases rx;obtain⟨t,rfl⟩:=ry;obtain⟨z,its,n,r,hl,e⟩:=I.lstM hH;have Y:its.toArray.size*k.toNat<=sizeLine:=by rw[B1,<- hl];exact hz
 have Z:¬ its.toArray.size*k.toNat > (2 ^ 63-1) / 8:=by
  have:(sizeLine:Nat)<=(2 ^ 63-1) / 8:=by decide
  omega
 have ac:¬ (!Builtin.List.listFitsIndex k)=true:=by
  rw[fitsIndex_both h1 h2];exact tf
 have J:¬ Builtin.List.listTooLong (its.toArray.size*k.toNat)=true:=by
  rw[jd Y];exact tf
 have ao:foldl (λx1 x2=>x1++x2) #[] (replicate (if its.toArray.isEmpty=true then 0 else k.toNat) its.toArray)=(replicate k.toNat its).flatten.toArray:=by
  have f0:∀m:Nat,foldl (λx1 x2=>x1++x2) #[] (replicate m its.toArray)=(replicate m its).flatten.toArray:=λm=>by
   have:=oq its m [];rw[nil_append]at this;exact this
  rw[f0];cases its with
  |nil=>simp
  |cons a r'=>rw[if_neg (by simp)]
 refine wpAny_binaryOp_repeat_ref (T:="list") (U:="int") (by decide) ⟨_,e,rfl⟩ (λs'=>typeIs_int s' k t) noFill_list_mul F.fills_int_mul F.slot_int_rmul repeat_list F.slot_int_index.lookup
  (K4 F.slot_int_rmul (typeIs_int s k t) F.entry_int_rmul (F.args_int_rmul_2 _ _) (int___rmul___int_list k t l its.toArray n)
   ⟨e,rfl,⟨_,e,rfl⟩,K4 F.slot_list_mul ⟨_,e,rfl⟩ F.entry_list_mul (F.args_list_mul_2 _ _) (AutoListH.list___mul___list_int_3 l its.toArray n k t ac Z J) ⟨e,?_⟩⟩)
 rw[ao];exact⟨.ref _,_,I.lnew (t':=s.toks) (r.rep k.toNat) (by rw[pD,Nat.mul_comm];exact hz),rfl,q _ I.fresh⟩
end
section
variable{prog:Program}{w:World}{A:Around}{E:Value->Shared->Prop}{s:Shared}
end
section
variable{X:Cx}
end
end L2
namespace Att
open PySem PySem.W PySem.Calls PyProof.Rows List Option
def lc :∀ns vs,WellAll P h vs (ns.map WData.int)->IntsAre vs ns:=by
 intro ns
 induction ns with
 |nil =>
  intro vs w;cases w;exact .nil
 |cons n ns ih =>
  intro vs w;cases w with
  |cons a b =>
   cases a;exact .cons _ _ (ih _ b)
def vA{l:OpenLaw}(hn:l.most=some n) 
  (J:l.row.toRowW.claim.pre args=true) (ao:WellAll P h vals args) :
  ∃a vs ns,vals=[Value.ref a]/\args=[WData.list (ns.map WData.int)]/\h.get? a=some { cls:=.type "list",data:=.seq vs.toArray }/\IntsAre vs ns/\ns.length<=n:=by
 have ar:WShape.hasAll [] args [.list .int]=true:=(pre_splitW J).1;have hc:l.pre.holds [] { args:=args }=true:=(pre_splitW J).2;refine ak (hasAllW_cons ar) λd r aL h1 h2=>?_
 subst aL;obtain rfl:=hasAllW_nil h2;refine ae (hasW_list h1) λxs a0 h3=>?_
 subst a0;obtain⟨ns,rfl⟩:=items_int h3;have Y:ns.length<=n:=by
  have h4:(WTm.not (.lt (.lit (.int (n:Int))) (.len (.arg 0)))).holds [] { args:=[.list (ns.map .int)] }=true:=by
   have h4:=(holds_andW hc).1;rw[hn]at h4;exact h4
  have h5:=condW_of h4 (w_not (w_lt w_lit (w_len_list (w_arg rfl))))
  simp_all
 cases ao with
 |cons w1 w2 =>
  cases w2;cases w1 with
  |list ho Z=>exact⟨_,_,ns,rfl,rfl,ho,lc ns _ Z,Y⟩
def vB(l:OpenLaw)(args):l.row.toRowW.claim.post args (.bool true) args=true:=
 postW_of (r:=l.row.toRowW) (X:=(true==true))
  (show WShape.has [] (.bool true) .bool=true by first|rfl|decide|simp[WShape.arms])
  (show(WTm.eq .res (.lit (.bool true))).value [] { args:=args,res:=some (.bool true),after:=args }=some (.bool (true==true))from w_eq_bool (w_res rfl) w_lit) rfl
def attach_call{l:OpenLaw}{n:Nat}{q:Program}{Z:List Str}{XP:(Str->Option Value)->Heap->Prop}{YP:World->Heap->Prop}{d:DefRec}
  (hn:l.most=some n) (a3:d.params.defaults=[])
  (call:∀w s₀ J mg mb fa o pm cd ac a vs ns,
   Ground q Z [] XP w s₀ mg mb J.heap->YP w J.heap ->
   J.heap.get? fa=some o->o.data=.func (docDef d.name d.params d.body d.scope pm cd ac)->J.heap.CodeRec cd d.name->mg d.name=some (.ref fa) ->
   J.heap.get? a=some { cls:=.type "list",data:=.seq vs.toArray }->IntsAre vs ns->ns.length<=n->J.gens=#[] ->
   codeAny (model l.prog w) callerA (.call (.ref fa) ⟨[.ref a],[]⟩) (λr s'=>r=.ok (.ret (.bool true))/\OldK J.heap s'.heap/\s'.os=J.os/\AllBare s'.gens) J) :
  WalkO q Z XP YP l.row.toRowW d [] (λf vs=>PySem.call f vs):=by
 intro w s₀ J mg mb G Y fa o pm cd ac dV kV ho hd a5 hD a6 hg args vals as aL bM bT a8 b0;obtain rfl:dV=.none:=Dflts.none hD a3;obtain rfl:kV=.none:=Dflts.noKw hD;refine n5 (vA hn aL a8) λa vs ns a9 bc a0 ao a1=>?_
 subst a9;subst bc;refine enter_call (KZ (call w s₀ J mg mb fa o pm cd ac a vs ns G Y ho (fd_plain hd) a5 a6 a0 ao a1 hg) λr s' hq=>?_);refine fW hq λbr h2 h3 h4=>?_
 subst br;exact⟨.inl ⟨.bool true,.bool true,[],rfl,λ_=>rfl,.bool true,vB l _,λ_=>⟨Pairwise.nil,λ_ hm=>(nomatch hm)⟩⟩,h2,h3,h4⟩
section
variable{prog:Program}{w:World}{A:Around}{E:Value->Shared->Prop}{s:Shared}{K:Frag}
end
end Att
namespace L2
open PySem PySem.Spec PyProof.Rows List Option
theorem jS:∀{vs}{ns},IntsAre vs ns->aF (ns.map V.int) vs
 | _,_,.nil=>.nil
 | _,_,.cons n t h=>.cons ⟨t,rfl⟩ (jS h)
def CL(H:Hp):Prop:=∀b,H b=none\/∃o xs,H b=some (.frz o (.lst xs))
def xa{K:Mx} 
  (KX:K.In J.heap) (ar:J.heap.Ns mainGlobals mg) (Y:J.heap.Ns builtinsNs mb) (a5:∀x:Str,x ≠ "__name__"->mb x=bootBuiltins x) (aL:J.heap.NoLimit) (hg:J.gens=#[])
  (ha:J.heap.get? a=some { cls:=.type "list",data:=.seq vs.toArray }) (hi:IntsAre vs ns) (hl:ns.length<=sizeLine) (hr:iQ k callerA)
  (F:∀base,K.In base->base.Ns mainGlobals mg->gX P w K mg base CX k fa fd [x] sp) (ao:∀s u,BindsTo s fd ⟨[u],[]⟩ [(x,u)])
  (a6:∀H,CL H->SqL K H a (ns.map V.int)->sp [.ref a] H (λv _=>v=.bl true) λ_ _ _=>False)
  (a8:∀H e s',CX [] H J (λ_ _ _=>False) e s'->False) :
  codeAny (model P w) callerA (.call (.ref fa) ⟨[.ref a],[]⟩) (λr s'=>r=.ok (.ret (.bool true))/\OldK J.heap s'.heap/\s'.os=J.os/\AllBare s'.gens) J:=by
 have rv:=jS hi;have a0:=hi.length;have ac:∀H,CL H->SqL K H a (ns.map V.int)->HOk P w H J.heap->(∀b,H b≠none->b=a)->(H a≠none->K.lookup a=none) ->
   codeAny (model P w) callerA (.call (.ref fa) ⟨[.ref a],[]⟩) (λr s'=>r=.ok (.ret (.bool true))/\OldK J.heap s'.heap/\s'.os=J.os/\AllBare s'.gens) J:=by
  intro H hO hS hok hA hK;have base_of:∀{b}{o},J.heap.get? b=some o->H b=none->(pg J.heap H).get? b=some o:=λe n=>wG e n
  have a9:∀{b}{o}{es}{ep},J.heap.get? b=some o->o.data=.dict es ep->H b=none:=λ{b o es ep} e d=>by
   cases q:H b with
   |none=>rfl
   |some u =>
    have e':=hA b (by rw[q];simp);subst e';rw[ha]at e;cases e
    have d':=d;cases d'
  have Z:∀{b}{m},J.heap.Ns b m->(pg J.heap H).Ns b m:=λ{b m} ⟨o,es,ep,e,d,r⟩=>⟨o,es,ep,base_of e (a9 e d),d,r⟩
  have a1:K.In (pg J.heap H):=λb o e=>base_of (KX b o e) (by
   cases q:H b with
   |none=>rfl
   |some u =>
    have e':=hA b (by rw[q];simp);subst e';rw[hK (by rw[q];simp)]at e;exact aT e)
  have hM:Mod K mg (pg J.heap H):=⟨a1,Z ar,⟨mb,Z Y,a5⟩,let ⟨mc,h1,h2⟩:=aL;⟨mc,Z h1,h2⟩⟩;have e0:Aj P w K mg (pg J.heap H) callerA [] J H:=⟨rfl,hM,λb o e=>z7 e,Kl (vk _ _),trivial,λb Y=>absurd (show b∈([]:List Addr)from Y) (by simp),hok,.of_eq hg⟩;refine KZ ((F _ a1 (Z ar)).run callerA [] J H ⟨[.ref a],[]⟩ [.ref a] [.ref a] _ _ hr e0 (ao J (.ref a)) (.cons rfl .nil) (a6 H hO hS)) λr s' h=>?_
  cases r with
  |error e=>exact(a8 H e s' h).elim
  |ok fl =>
   cases fl with
   |ret u =>
    refine By h λv H' os bare un a2 r' q=>?_
    have q':=q;subst q';obtain rfl:u=Value.bool true:=r';refine⟨rfl,OldK.of_keep λb o e=>?_,os,bare⟩;cases q:H b with
    |none=>exact un.keep b o e q (by intro z;exact absurd (show b∈([]:List Addr)from z) (by simp)) (by simp)
    |some u =>
     rcases hO b with z|⟨ob,xs,z⟩
     .rw[q]at z;cases z
     .have z2:=un.frzs b ob _ z;obtain⟨e1,_⟩:=hok b _ z;obtain⟨e2,_⟩:=a2 b _ z2;rw[e]at e1;cases e1
      exact e2
   | _=>exact False.elim h
 cases hk:K.lookup a with
 |some o =>
  have e:=KX a o hk;rw[ha]at e;cases e;refine ac (λ_=>none) (λ_=>.inl rfl) (.inr ⟨_,vs.toArray,_,hk,rfl,rfl,rfl,by rw[B1,a0];exact hl,by simpa using rv⟩) (λb u z=>by have z':=z;exact aT z') (λb z=>absurd rfl z) λz=>absurd rfl z
 |none =>
  refine ac (λb=>if b=a then some (.frz { cls:=.type "list",data:=.seq vs.toArray } (.lst (ns.map V.int)))else none) (λb=>?_) (.inl (.inr ⟨{ cls:=.type "list",data:=.seq vs.toArray },if_pos rfl⟩)) (λb u z=>?_) (λb z=>?_) λ_=>hk
  .by_cases Y:b=a
   .exact .inr ⟨_,_,if_pos Y⟩
   .exact .inl (if_neg Y)
  .by_cases Y:b=a
   .have z':=(if_pos Y).symm.trans z;cases z';subst Y;exact⟨ha,by rw[IC];exact hl,vs,_,rv,ha⟩
   .have z':=(if_neg Y).symm.trans z;exact aT z'
  .by_cases Y:b=a
   .exact Y
   .exact absurd (if_neg Y) z
def Ao{l:PySem.W.OpenLaw}{n k:Nat}{q:Program}{Z:List Str}{XP:(Str->Option Value)->Heap->Prop}{YP:World->Heap->Prop}{d:DefRec}{K:Params->Mx}{CX:World->CXT}{sp:World->Sp}{x:Str}
  (hn:l.most=some n) (a0:n<=sizeLine) (a1:d.params.defaults=[]) (hr:iQ k callerA)
  (hY:∀w h,YP w h->(K w.params).In h)
  (F:∀w mg fa h,(K w.params).In h->h.Ns mainGlobals mg->mg d.name=some (.ref fa) ->
   ∃fd,(∀s u,BindsTo s fd ⟨[u],[]⟩ [(x,u)]) /\
    ∀base,(K w.params).In base->base.Ns mainGlobals mg->gX l.prog w (K w.params) mg base (CX w) k fa fd [x] (sp w))
  (a2:∀w H a (ns:List Int),ns.length<=n->CL H->SqL (K w.params) H a (ns.map V.int)->sp w [.ref a] H (λv _=>v=.bl true) λ_ _ _=>False)
  (a3:∀w H s e s',CX w [] H s (λ_ _ _=>False) e s'->False) :
  PySem.W.WalkO q Z XP YP l.row.toRowW d [] (λf vs=>PySem.call f vs):=by
 refine Att.attach_call hn a1 λw s₀ ao mg mb fa o pm cd bB a vs ns G Y ho hd bG a4 ar ac J hg=>?_
 have KX:=hY w _ Y;refine ae (F w mg fa _ KX G.T.g a4) λfd hb hF=>?_
 exact xa KX G.T.g G.T.b G.T.builtins G.T.nolimit hg ar ac (IQ J a0) hr hF hb (λH hO hS=>a2 w H a ns J hO hS) λH e s'=>a3 w H ao e s'
noncomputable def je(s:Stmt):Arguments:=match s with
 | .FunctionDef _ a _ _ _ _ _ _ _ _=>a
 | _=>{ posonlyargs:=[],args:=[],vararg:=none,kwonlyargs:=[],kw_defaults:=[],kwarg:=none,defaults:=[] }
noncomputable def bb(s:Stmt):List Stmt:=match s with
 | .FunctionDef _ _ b _ _ _ _ _ _ _=>b
 | _=>[]
noncomputable def ah(s:Stmt):Scope:=match s with
 | .FunctionDef _ _ _ _ _ _ sc _ _ _=>sc
 | _=>{ kind:=.function,names:=[],isGenerator:=false,isCoroutine:=false }
noncomputable abbrev CX0:CXT:=λ_ _ _ _ _ _=>False
noncomputable abbrev E0:XK:=λ_ _ _=>False
def lU :pk CX0 X E0:=λ_ _ _ _ _ _ _ h=>h.elim
section
variable{P:Program}{w:World}{K:Mx}{mg:Str->Option Value}{base:Heap}
end
section
variable{X:Cx}
end
def ai(H H':Hp):Prop:=∀b o,H b=some o->H' b=some o
def ai.refl(H):ai H H:=λ_ _ h=>h
def ai.trans(a:ai H H1)(b:ai H1 H2):ai H H2:=λc o h=>b c o (a c o h)
def ai.free(e:ai H H')(h:H' l=Option.none):H l=Option.none:=by
 cases q:H l with
 |none=>rfl
 |some o =>
  rw[e l o q]at h;cases h
theorem ai.seq{K:Mx}(e:ai H H')(h:SqL K H a xs):SqL K H' a xs:=by
 rcases h with(h|⟨o,h⟩)|h
 .exact .inl (.inl (e _ _ h))
 .exact .inl (.inr ⟨o,e _ _ h⟩)
 .exact .inr h
section
variable{g:Type} [DecidableEq g]
noncomputable def jf(kvs:List (g×V))(k:g):Option V:=(kvs.find? λJ=>decide (J.1=k)).map (·.2)
noncomputable def iH(kvs:List (g×V))(k:g)(v:V):List (g×V):=
 if (kvs.any λJ=>decide (J.1=k))=true then kvs.map (λJ=>if J.1=k then(J.1,v)else J)else kvs++[(k,v)]
noncomputable def Iy(kvs:List (g×V))(k:g):List (g×V):=kvs.filter λJ=>decide (J.1≠k)
def lV{k:g}(e:p.1=k):jf (p::r) k=some p.2:=by simp_all [jf]
def lW{k:g}(e:¬ p.1=k):jf (p::r) k=jf r k:=by simp_all [jf]
theorem qI(k):∀kvs:List (g×V),(kvs.any λJ=>decide (J.1=k))=(jf kvs k).isSome
 | []=>rfl
 |p::r=>by
  rw[any_cons];by_cases e:p.1=k
  .simp[lV e,I0 e]
  .rw[lW e,Jt e,Bool.false_or];exact qI k r
def kN(kvs)(k:g)(v):(iH kvs k v).length<=kvs.length+1:=by grind [iH,length_map,length_append,length_cons,length_nil]
def lb.isSome_eq(r:lb o u):o.isSome=u.isSome:=by
 cases o<;>first|(cases u<;>first|rfl|exact(show False from r).elim)|(cases u<;>first|exact(show False from r).elim|rfl)
theorem lb.getD(r:lb o u)(rd:aK d d'):aK (o.getD d) (u.getD d'):=by
 cases o<;>first|(cases u<;>first|exact rd|exact(show False from r).elim)|(cases u<;>first|exact(show False from r).elim|exact r)
theorem KV.val(r:KV kvs vs)(k:g):lb (jf kvs k) (valueAt vs k):=by
 induction r with
 |nil=>exact True.intro
 | @cons p q ps J h t ih =>
  obtain⟨h1,h2⟩:=h;by_cases e:p.1=k
  .have Y:=h1.symm.trans e;have b:valueAt (q::J) k=some q.2:=by simp[valueAt,find?_cons,Y]
   rw[lV e,b];exact h2
  .have Y:¬ q.1=k:=λz=>e (h1.trans z)
   have b:valueAt (q::J) k=valueAt J k:=by simp[valueAt,find?_cons,Y]
   rw[lW e,b];exact ih
theorem KV.any(r:KV kvs vs)(k:g):(kvs.any λJ=>decide (J.1=k))=vs.any λJ=>decide (J.1=k):=by
 induction r with
 |nil=>rfl
 |cons h t ih=>rw[any_cons,any_cons,ih,h.1]
def KV.repl(r:KV kvs vs)(k:g)(Y:aK y u) :
  KV (kvs.map λJ=>if J.1=k then(J.1,y)else J) (vs.map λJ=>if J.1=k then(J.1,u)else J):=by
 induction r with
 |nil=>exact .nil
 | @cons p q ps Z h t ih =>
  rw[Jc,Jc];refine .cons ?_ ih;obtain⟨h1,h2⟩:=h;by_cases e:p.1=k
  .rw[if_pos e,if_pos (h1.symm.trans e)];exact⟨h1,Y⟩
  .rw[if_neg e,if_neg (λz=>e (h1.trans z))];exact⟨h1,h2⟩
theorem KV.put(r:KV kvs vs)(k:g)(J:aK y u):KV (iH kvs k y) (stored vs k u):=by
 unfold iH stored;rw[r.any k];by_cases e:(vs.any λY=>decide (Y.1=k))=true
 .rw[if_pos e,if_pos e];exact r.repl k J
 .rw[if_neg e,if_neg e];exact Paired.snoc r ⟨rfl,J⟩
theorem KV.length(r:KV kvs vs):kvs.length=vs.length:=Paired.length r
end
def ou(r:aK (kV k) u):(cH P w).is k u=true:=by
 cases k with
 |inl i=>obtain⟨t,e⟩:=(show ∃t,u=Value.int i t from r);subst e;exact qB P w i t
 |inr x=>obtain⟨t,e⟩:=(show ∃t,u=Value.str x t from r);subst e;exact qC P w x t
theorem oA :∀{ks}{us},aF (ks.map kV) us->ItemsAre (cH P w) ks us
 | [],_,r=>by rw[map_nil]at r;cases r;exact .nil
 |k::ks,_,r=>by
  cases r with
  |cons h t=>exact .cons (ou h) (oA t)
abbrev KT(H:Hp):List (List Key×V)->List (List Key×Addr×Value)->Prop:=Paired λp q=>p.1=q.1/\H q.2.1=some (.tup (p.1.map kV))/\aK p.2 q.2.2
theorem KT.val(r:KT H kvs xs)(k):lb (jf kvs k) ((atKey xs k).map (·.2)):=by
 induction r with
 |nil=>exact True.intro
 | @cons p q ps J h t ih =>
  refine eT h λh1 _ h2=>?_
  by_cases e:p.1=k
  .have Y:=h1.symm.trans e;have b:atKey (q::J) k=some q.2:=by simp[atKey,find?_cons,Y]
   rw[lV e,b];exact h2
  .have Y:¬ q.1=k:=λz=>e (h1.trans z)
   have b:atKey (q::J) k=atKey J k:=by simp[atKey,find?_cons,Y]
   rw[lW e,b];exact ih
def KT.repl(r:KT H kvs xs)(k)(Y:aK y u) :
  KT H (kvs.map λJ=>if J.1=k then(J.1,y)else J) (xs.map (putAt k u)):=by
 induction r with
 |nil=>exact .nil
 | @cons p q ps qs h t ih =>
  rw[Jc,Jc];refine .cons ?_ ih;refine eT h λh1 h2 Z=>?_
  unfold putAt;by_cases e:p.1=k
  .rw[if_pos e,if_pos (h1.symm.trans e)];exact⟨h1,h2,Y⟩
  .rw[if_neg e,if_neg (λz=>e (h1.trans z))];exact⟨h1,h2,Z⟩
theorem KT.put(r:KT H kvs xs)(k)(Y:H b=some (.tup (k.map kV)))(J:aK y u) :
  KT H (iH kvs k y) (storedH xs k b u):=by
 have e:(kvs.any λZ=>decide (Z.1=k))=(atKey xs k).isSome:=by
  rw[qI,(r.val k).isSome_eq,isSome_map]
 unfold iH storedH;rw[e];by_cases q:(atKey xs k).isSome=true
 .rw[if_pos q,if_pos q];exact r.repl k J
 .rw[if_neg q,if_neg q];exact Paired.snoc r ⟨rfl,Y,J⟩
def KT.keeps(r:KT H kvs xs)(J:∀b ys,H b=some (.tup ys)->H' b=some (.tup ys)):KT H' kvs xs:=
 Paired.mapP r λ_ _ z=>⟨z.1,J _ _ z.2.1,z.2.2⟩
section
variable{P:Program}{w:World}{H:Hp}{h:Heap}{a:Addr}
def BF(ok:HOk P w H h)(e:Rd H a u):bD P w H h a u:=e.ok ok
def jg(ok:HOk P w H h)(e:Rd H a (.dK kvs)):kvs.length<=sizeLine/\(a==sysModules)=false/\∃vs,KV kvs vs/\h.DictOf (cH P w) a vs:=
 show bD P w H h a (.dK kvs)from BF ok e
def FI(ok:HOk P w H h)(e:H a=some (.dK kvs)):kvs.length<=sizeLine/\(a==sysModules)=false/\∃vs,KV kvs vs/\h.DictOf (cH P w) a vs:=jg ok (.inl e)
def jT(ok:HOk P w H h)(e:H a=some (.tup (ks.map kV))):(tupleKind (cH P w)).is h ks a:=by
 obtain⟨_,its,r,o,h1,h2,n,J⟩:=(show bD P w H h a _ from ok a _ e);exact⟨o,its.toArray,n,h1,h2,J,by simpa using oA r⟩
def kO(ok:HOk P w H h)(e:Rd H a (.dT kvs)):kvs.length<=sizeLine/\(a==sysModules)=false /\
  ∃xs,KT H kvs xs/\h.DictOfH (tupleKind (cH P w)) a xs:=by
 refine bf λZq Y=>?_
 obtain⟨z,y,xs,r,o,es,ep,h1,h2,Z,h4,h5⟩:=(show bD P w H h a _ from BF ok e);refine Y ?_;refine⟨z,y,xs,r,o,es,ep,h1,h2,Z,h4,λx hx=>?_,h5⟩;have all:∀{l}{m},KT H l m->∀x∈m,(tupleKind (cH P w)).is h x.1 x.2.1:=by
  intro l m q
  induction q with
  |nil=>intro x hx;exact nomatch hx
  | @cons p q ps qs J t ih =>
   intro x hx;rcases IM.mp hx with e|hx
   .subst e;exact jT ok (by rw[<- J.1];exact J.2.1)
   .exact ih x hx
 exact all r x hx
def FJ(ok:HOk P w H h)(e:H a=some (.dT kvs)):kvs.length<=sizeLine/\(a==sysModules)=false /\
  ∃xs,KT H kvs xs/\h.DictOfH (tupleKind (cH P w)) a xs:=kO ok (.inl e)
end
def lX(H:Hp)(a:Addr)(y:V)(r:Option V):Prop:=
 (∃kvs k,Rd H a (.dK kvs)/\y=kV k/\r=jf kvs k)\/∃kvs k b,Rd H a (.dT kvs)/\y=.ref b/\H b=some (.tup (k.map kV))/\r=jf kvs k
def lY(H:Hp)(a:Addr)(y v:V)(H':Hp):Prop:=
 (∃kvs k,H a=some (.dK kvs)/\y=kV k/\kvs.length<sizeLine/\H'=upd H a (.dK (iH kvs k v))) \/
 ∃kvs k b,H a=some (.dT kvs)/\y=.ref b/\H b=some (.tup (k.map kV))/\kvs.length<sizeLine/\H'=upd H a (.dT (iH kvs k v))
theorem lY.k{k:Key}{v:V}(e:H a=some (.dK kvs))(J:kvs.length<sizeLine):lY H a (kV k) v (upd H a (.dK (iH kvs k v))):=.inl ⟨kvs,k,e,rfl,J,rfl⟩
theorem lY.t{k:List Key}{v:V}(e:H a=some (.dT kvs))(J:H b=some (.tup (k.map kV)))(Y:kvs.length<sizeLine) :
  lY H a (.ref b) v (upd H a (.dT (iH kvs k v))):=.inr ⟨kvs,k,b,e,rfl,J,Y,rfl⟩
section
variable{X:Cx}{pins:List (Addr×Obj)}{σ:St}{H:Hp}{s:Shared}{a:Addr}{y v:V}{u r:Value}{o:Option V}{A:Around}{E:Value->Shared->Prop}
theorem Inv.big(I:Inv X pins σ H s):sysModules<s.heap.objs.size:=by
 have h:=(I.mod.glob.keeps I.bk).lt;exact KC (by decide) h
def vC(hu:A.units+1<cLine)(I:Inv X pins σ H s)(g:lX H a y (some v))(ry:aK y u)(h:∀Z s',Inv X pins σ H s'->aK v Z->Q Z s') :
  wpAny (model X.prog X.w) A (getItem (.ref a) u) Q E s:=by
 rcases g with⟨kvs,k,e,ey,l⟩|⟨kvs,k,b,e,ey,eb,l⟩
 .subst ey;obtain⟨z,hd,vs,J,dd⟩:=jg I.hok e;obtain⟨Z,hw,Y⟩:=lb.some_of (by rw[l];exact J.val k);exact wpAny_getItem_of (ou ry) dd.mapOf hw (h Z _ (I.tok _) Y)
 .subst ey;cases (show u=Value.ref b from ry);obtain⟨z,hd,xs,J,dd⟩:=kO I.hok e;obtain⟨Z,hw,Y⟩:=lb.some_of (o:=(atKey xs k).map _) (by rw[l];exact J.val k);refine ae (IL.mp hw) λp hp ao=>?_
  refine wpAny_getItem_heap (KH hu) (jT I.hok eb) dd hp ?_;rw[ao];exact h Z _ (I.tok _) Y
def HR(hu:A.units+1<cLine)(I:Inv X pins σ H s)(g:lX H a y o)(Z:aK y u)(h:∀s',Inv X pins σ H s'->Q (.bool o.isSome) s') :
  wpAny (model X.prog X.w) A (compareOp .In u (.ref a)) Q E s:=by
 rcases g with⟨kvs,k,e,Y,l⟩|⟨kvs,k,b,e,Y,eb,l⟩
 .subst Y;obtain⟨z,hd,vs,J,dd⟩:=jg I.hok e;refine wpAny_in_of (ou Z) hd dd.mapOf ?_;rw[<- (J.val k).isSome_eq,<- l];exact h _ (I.tok _)
 .subst Y;cases (show u=Value.ref b from Z);obtain⟨z,hd,xs,J,dd⟩:=kO I.hok e;refine wpAny_in_heap (KH hu) (jT I.hok eb) hd dd ?_;have q:=(J.val k).isSome_eq;rw[isSome_map]at q;rw[<- q,<- l];exact h _ (I.tok _)
def Ap(hu:A.units+1<cLine)(I:Inv X pins σ H s)(g:lX H a y o)(Z:aK y u)(h:∀s',Inv X pins σ H s'->Q (.bool (!o.isSome)) s') :
  wpAny (model X.prog X.w) A (compareOp .NotIn u (.ref a)) Q E s:=by
 rcases g with⟨kvs,k,e,Y,l⟩|⟨kvs,k,b,e,Y,eb,l⟩
 .subst Y;obtain⟨z,hd,vs,J,dd⟩:=jg I.hok e;refine wpAny_notIn_of (ou Z) hd dd.mapOf ?_;rw[<- (J.val k).isSome_eq,<- l];exact h _ (I.tok _)
 .subst Y;cases (show u=Value.ref b from Z);obtain⟨z,hd,xs,J,dd⟩:=kO I.hok e;refine wpAny_notIn_heap (KH hu) (jT I.hok eb) hd dd ?_;have q:=(J.val k).isSome_eq;rw[isSome_map]at q;rw[<- q,<- l];exact h _ (I.tok _)
def uc(I:Inv X pins σ H s)(Y:Mut (H a))(hs:Heap.SameBut a s.heap h')(Z:∃q,h'.get? a=some q)(new:bD X.prog X.w (upd H a J) h' a J) :
  Inv X pins σ (upd H a J) { s with heap:=h',toks:=t' }:=
 I.write (x:=a) (e:=a) Y (.inl rfl) (λb q hb z=>(hs.2 b hb).trans z) Z new
def CM(z:kvs.length<=sizeLine)(hd:(a==sysModules)=false)(J:KV kvs vs)(dd:h'.DictOf (cH P w) a vs) :
  bD P w H' h' a (.dK kvs):=⟨z,hd,vs,J,dd⟩
def vD(hu:A.units+1<cLine)(I:Inv X pins σ H s)(g:lY H a y v H')(ry:aK y u)(rv:aK v r)(h:∀s',Inv X pins σ H' s'->Q () s') :
  wpAny (model X.prog X.w) A (setItem (.ref a) u r) Q E s:=by
 rcases g with⟨kvs,k,e,ey,l,eH⟩|⟨kvs,k,b,e,ey,eb,l,eH⟩
 .subst ey eH;obtain⟨z,hd,vs,J,dd⟩:=FI I.hok e;have hz:vs.length<=sizeLine:=by rw[<- J.length];exact z
  have hl:(iH kvs k v).length<=sizeLine:=by have:=kN kvs k v;exact(IQ ‹_› ‹_›)
  refine wpAny_setItem_pairs (ou ry) dd λh' Y hs=>h _ ?_
  have he:∃q,h'.get? a=some q:=let ⟨q,_,_,Z,_⟩:=Y;⟨q,Z⟩
  exact uc I (by rw[e];exact True.intro) hs he (CM hl hd (J.put k rv) Y)
 .subst ey eH;cases (show u=Value.ref b from ry);obtain⟨z,hd,xs,J,dd⟩:=FJ I.hok e;have hz:xs.length<=sizeLine:=by rw[<- Paired.length J];exact z
  have hl:(iH kvs k v).length<=sizeLine:=by have:=kN kvs k v;exact(IQ ‹_› ‹_›)
  refine wpAny_setItem_heap (KH hu) (jT I.hok eb) dd λh' Y hs=>h _ ?_
  refine bf λZq kq=>?_
  refine cM Y λq es ep Z h2 h3 h4 _ h5=>?_
  refine kq ?_;refine uc I (by rw[e];exact True.intro) hs ⟨q,Z⟩ ⟨hl,hd,_,(J.put k eb rv).keeps λc ys ec=>?_,q,es,ep,Z,h2,h3,h4,h5⟩;rw[az (Fi ec e (λz=>nomatch z))];exact ec
end
section
variable{X:Cx}{pins:List (Addr×Obj)}{σ:St}{H:Hp}{s:Shared}{a:Addr}{kvs:List (Key×V)}{k:Key}{u:Value}{A:Around}{E:Value->Shared->Prop}
end
def FK(i:Expr):Prop:=∀J Y,subscripted i false J Y=operate [J,Y] (getItem J Y)
def Aq{T id:String} 
  (hl:typeLookup (.type T) "__getitem__"=pure (some (.builtin id))) (hs:FK slice)
  (h:wpAny (model prog w) A (eval value env) (λo Z=>wpAny (model prog w) A (eval slice env) (λi J=>J.TypeIs o T/\wpAny (model prog w) A (getItem o i) Q E J) E Z) E s) :
  wpAny (model prog w) A (eval (.Subscript value slice pos) env) Q E s:=by
 refine Subscript_ (Jn h (λo Z ao=>Jn ao (λi J Y=>?_) λ_ _ x=>x) λ_ _ x=>x);obtain⟨hT,Y⟩:=Y;refine gf ?_;rw[getitemInPython_of_ne hT.not_modules];refine gf (wpAny_specialOf hT hl ?_);have fin:wpAny (model prog w) A (subscripted slice false o i) (λr ac=>wpAny (model prog w) A (letTemporaryGo value o r >>= λ_=>pure r) Q E ac) E J:=by
  rw[hs o i];exact wpAny_operating (Jn Y (λr ac ar=>gf (wpAny_letTemporaryGo (oe ar))) λ_ _ x=>x)
 first
  | exact oe (gf fin)
  | exact gf (oe _)
  | exact gf fin
def qJ (I:Inv X pins σ H s) (g:lX H a y o):s.TypeIs (.ref a) "dict":=by
 rcases g with⟨kvs,k,e,_,_⟩|⟨kvs,k,b,e,_,_,_⟩
 .obtain⟨_,_,vs,_,dd⟩:=jg I.hok e;exact dd.typeIs
 .obtain⟨_,_,xs,_,dd⟩:=kO I.hok e;exact dd.typeIs
noncomputable def FN(td ty:TE):TE:=λσ H Q=>td σ H λx H1=>ty σ H1 λy H2=>∃a v,x=.ref a/\lX H2 a y (some v)/\Q v H2
noncomputable def HS(ty td:TE):TE:=λσ H Q=>ty σ H λy H1=>td σ H1 λx H2=>∃a o,x=.ref a/\lX H2 a y o/\Q (.bl o.isSome) H2
noncomputable def Ar(ty td:TE):TE:=λσ H Q=>ty σ H λy H1=>td σ H1 λx H2=>∃a o,x=.ref a/\lX H2 a y o/\Q (.bl (!o.isSome)) H2
noncomputable def FO(td ty tv:TE):TS:=λD σ H=>tv σ H λv H1=>td σ H1 λx H2=>ty σ H2 λy Y=>∃a J,x=.ref a/\lY Y a y v J/\D.nx σ J
section
variable{X:Cx}{o i e value:Expr}{pos pos' tpos:Pos}{td ty tv:TE}
def As(Z:X.A.units+1<cLine)(ho:PE X o td)(hi:PE X i ty)(hs:FK i):PE X (.Subscript o i pos) (FN td ty):=by
 intro pins s σ H Q I h;refine Aq PySem.F.slot_dict_getitem.lookup hs (thn (ho pins s σ H _ I h) λu s1 hq=>ak hq λx H1 I1 rx q1=>thn (hi pins s1 σ H1 _ I1 q1) λiv s2 ⟨y,H2,Y,ry,a,v,ex,g,q2⟩=>?_);subst ex;obtain rfl:u=Value.ref a:=rx;exact⟨qJ Y g,vC Z Y g ry λw' s3 I3 J=>⟨v,H2,I3,J,q2⟩⟩
def xb(J:X.A.units+1<cLine)(hi:PE X i ty)(ho:PE X o td):PC X .In i o (HS ty td):=by
 intro pins s σ H Q I h;refine thn (hi pins s σ H _ I h) λiv s1 ⟨y,H1,Y,Z,q1⟩=>thn (ho pins s1 σ H1 _ Y q1) λu s2 ⟨x,H2,I2,rx,a,ov,ex,g,q2⟩=>?_
 subst ex;obtain rfl:u=Value.ref a:=rx;exact HR J I2 g Z λs3 I3=>⟨.bl ov.isSome,H2,I3,rfl,q2⟩
def oB(J:X.A.units+1<cLine)(hi:PE X i ty)(ho:PE X o td):PC X .NotIn i o (Ar ty td):=by
 intro pins s σ H Q I h;refine thn (hi pins s σ H _ I h) λiv s1 ⟨y,H1,Y,Z,q1⟩=>thn (ho pins s1 σ H1 _ Y q1) λu s2 ⟨x,H2,I2,rx,a,ov,ex,g,q2⟩=>?_
 subst ex;obtain rfl:u=Value.ref a:=rx;exact Ap J I2 g Z λs3 I3=>⟨.bl _,H2,I3,rfl,q2⟩
def At(J:X.A.units+1<cLine)(ho:PE X o td)(hi:PE X i ty)(hv:PE X value tv)(hs:swapsWith value (some (.Subscript o i pos')) pos.line X.env=pure false) :
  PS X (.Assign [.Subscript o i pos'] value pos) (FO td ty tv):=by
 intro pins s σ H D I h;refine wpAny_Assign_Subscript (thn (hv pins s σ H _ I h) λr s1 ⟨v,H1,Y,Z,q1⟩=>thn (ho pins s1 σ H1 _ Y q1) λu s2 ⟨x,H2,I2,rx,q2⟩=>thn (hi pins s2 σ H2 _ I2 q2) λiv s3 ⟨y,H3,I3,ry,a,H4,ex,g,q3⟩=>?_) hs;subst ex;obtain rfl:u=Value.ref a:=rx;exact vD J I3 g ry Z λs4 I4=>⟨σ,H4,I4,q3⟩
end
def xc (h:Heap) (J:sysModules<h.objs.size):bD P w H (h.push { cls:=.type "dict",data:=.dict #[] }) h.objs.size (.dK []):=
 ⟨IY _,Ki.mpr (JF (IP J)),[],.nil,Heap.DictOf.new h⟩
def xg (h:Heap) (J:sysModules<h.objs.size):bD P w H (h.push { cls:=.type "dict",data:=.dict #[] }) h.objs.size (.dT []):=
 ⟨IY _,Ki.mpr (JF (IP J)),[],.nil,_,#[],0,IH _ rfl,⟨rfl,rfl,rfl⟩,rfl,rfl,KI⟩
noncomputable def CN:TE:=λ_ H Q=>∀p,H p=none->Q (.ref p) (upd H p (.dK []))
noncomputable def CO:TE:=λ_ H Q=>∀p,H p=none->Q (.ref p) (upd H p (.dT []))
section
variable{X:Cx}{pos:Pos}
def xh:PE X (.Dict [] [] pos) CN:=λpins s σ H Q I h =>
 wpAny_Dict_empty ⟨.ref s.heap.objs.size,_,I.laid (a:=s.heap.objs.size) (o:=.dK []) (t':=s.toks) (λ_ _ q=>ox _ q) (y4 _) (xc s.heap I.big),rfl,h _ (I.hok.fresh (y4 _))⟩
def xi:PE X (.Dict [] [] pos) CO:=λpins s σ H Q I h =>
 wpAny_Dict_empty ⟨.ref s.heap.objs.size,_,I.laid (a:=s.heap.objs.size) (o:=.dT []) (t':=s.toks) (λ_ _ q=>ox _ q) (y4 _) (xg s.heap I.big),rfl,h _ (I.hok.fresh (y4 _))⟩
end
structure M2(X:Cx)(o:Expr)(m:Str)(apos:Pos)(e f:Expr)(cpos:Pos):Prop where
 base:attributeBase o m X.env (eval o X.env)=eval o X.env
 few:((backTo cpos (starEach [e,f] X.env)).all (λx=>!x.1)&&(backToKw cpos (keywordEach [] X.env)).all (λx=>x.1.isSome)
 &&decide (([e,f]:List Expr).length+([]:List Keyword).length+(if ([]:List Keyword).isEmpty then 0 else 1)<30))=true
 line:(apos.endLine==cpos.line)=true
 trees:backTo cpos (starEach [e,f] X.env)=[(false,eval e X.env),(false,eval f X.env)]
def IsD(H:Hp)(a:Addr):Prop:=(∃kvs,Rd H a (.dK kvs))\/∃kvs,Rd H a (.dT kvs)
def sm(I:Inv X pins σ H s)(d:IsD H a) :
  s.TypeIs (.ref a) "dict"/\(∀b,Value.ref a=.ref b->∃J,s.heap.get? b=some J/\J.dict=none)/\(a==sysModules)=false:=by
 rcases d with⟨kvs,e⟩|⟨kvs,e⟩
 .obtain⟨_,hd,vs,_,dd⟩:=jg I.hok e;refine⟨dd.typeIs,λb q=>?_,hd⟩;cases q;refine wF dd λJ _ _ h1 h2 _=>?_
  exact⟨J,h1,h2.2.1⟩
 .obtain⟨_,hd,xs,_,dd⟩:=kO I.hok e;refine⟨dd.typeIs,λb q=>?_,hd⟩;cases q;refine wF dd λJ _ _ h1 h2 _=>?_
  exact⟨J,h1,h2.2.1⟩
section
variable{X:Cx}{pins:List (Addr×Obj)}{σ:St}{H:Hp}{s:Shared}{a:Addr}{y d:V}{u r:Value}{o:Option V}{A:Around}{E:Value->Shared->Prop}
def CP(hu:A.units+1<cLine)(I:Inv X pins σ H s)(g:lX H a y o)(Z:aK y u)(rd:aK d r)(h:∀w' s',Inv X pins σ H s'->aK (o.getD d) w'->Q w' s') :
  wpAny (model X.prog X.w) A (call (.builtin "dict.get") [.ref a,u,r]) Q E s:=by
 rcases g with⟨kvs,k,e,Y,l⟩|⟨kvs,k,b,e,Y,eb,l⟩
 .subst Y;obtain⟨z,hd,vs,J,dd⟩:=jg I.hok e;refine call_meetsIn PySem.F.slot_dict_get dd.typeIs PySem.F.entry_dict_get (PySem.F.args_dict_get_3 _ _ _) (meets_dict_get_default _ a (ou Z) hd r) ⟨_,dd.mapOf,h _ _ (I.tok _) ?_⟩;rw[l];exact(J.val k).getD rd
 .subst Y;cases (show u=Value.ref b from Z);obtain⟨z,hd,xs,J,dd⟩:=kO I.hok e;refine call_meetsIn PySem.F.slot_dict_get dd.typeIs PySem.F.entry_dict_get (PySem.F.args_dict_get_3 _ _ _) (meetsH_dict_get_default (tupleKind _) a b hd r) ⟨KH hu,k,xs,jT I.hok eb,dd,h _ _ (I.tok _) ?_⟩;rw[l];exact(J.val k).getD rd
end
noncomputable def CQ(td ty tx:TE):TE:=λσ H Q=>td σ H λx H1=>∃a,x=.ref a/\IsD H1 a/\ty σ H1 λy H2=>tx σ H2 λz J=>∃o,lX J a y o/\Q (o.getD z) J
section
variable{X:Cx}{o e f:Expr}{apos cpos:Pos}{td ty tx:TE}
def xj (Z:X.A.units+1<cLine) (ho:PE X o td) (he:PE X e ty) (hf:PE X f tx) (m:M2 X o "get" apos e f cpos):PE X (.Call (.Attribute o "get" apos) [e,f] [] cpos) (CQ td ty tx):=by
 intro pins s σ H Q I h;refine wpAny_Call_method m.base m.few m.line PySem.F.plainAttrs_dict PySem.F.slot_dict_get PySem.F.type_dict_get (thn (ho pins s σ H _ I h) λu s1 ⟨x,H1,Y,rx,a,ex,d,q1⟩=>?_);subst ex;obtain rfl:u=Value.ref a:=rx;obtain⟨t1,t2,_⟩:=sm Y d;refine⟨t1,t2,?_⟩;rw[m.trees];refine Lw rfl (Calls.evalArgs_plain (LW (thn (he pins s1 σ H1 _ Y q1) λiv s2 ⟨y,H2,I2,ry,q2⟩ =>
  LW (thn (hf pins s2 σ H2 _ I2 q2) λfv s3 ⟨z,H3,I3,rz,ov,g,q3⟩=>Calls.spliced_nil ?_))))
 exact CP Z I3 g ry rz λw' s4 I4 J=>⟨_,H3,I4,J,q3⟩
end
section
variable{X:Cx}{pins:List (Addr×Obj)}{σ:St}{H:Hp}{s:Shared}{a:Addr}{kvs:List (Key×V)}{A:Around}{E:Value->Shared->Prop}
end
section
variable{X:Cx}{pins:List (Addr×Obj)}{σ:St}{H:Hp}{s:Shared}{a:Addr}{y:V}{u:Value}{A:Around}{E:Value->Shared->Prop}
end
end L2
namespace L2.Srt
open PySem PySem.W PyProof.Rows List Option
section
variable{O:KeyOrd}{key:Nat->O.α}{N:Nat}{cmp:Nat->Nat->(Bool->Shared->Prop)->Shared->Prop}{s:Shared}
noncomputable def kk(key:Nat->O.α)(p:Array Nat)(i:Nat):O.α:=key (p.getD i 0)
def fz(key:Nat->O.α)(p:Array Nat)(k:Nat):Prop:=∀i j,i<=j->j<k->O.kle (kk key p i) (kk key p j)
def qK(key:Nat->O.α)(p:Array Nat)(k:Nat):Prop:=∀i j,i<=j->j<k->O.kle (kk key p j) (kk key p i)
def PB(N:Nat)(p:Array Nat):Prop:=p.Perm (range N).toArray
theorem PB.size(h:PB N p):p.size=N:=by have:=h.size_eq;simpa using this
theorem PB.lt(h:PB N p)(hi:i<N):p.getD i 0<N:=by
 have hs:i<p.size:=by rw[h.size];exact hi
 have J:p[i]∈(range N):=by
  have e:=(K7.mp h).mem_iff (a:=p[i])
  simp_all
 simp_all
theorem PB.rev(h:PB N p)(i j):PB N (kas_rev p i j):=(mirror_perm _ _ _ _).trans h
theorem PB.bub(h:PB N p)(i j):PB N (bubble p i j):=(bubble_perm _ _ _).trans h
def ie(h:p[i]?=q[j]?):kk key p i=kk key q j:=by
 unfold kk;rw[Km,Km,h]
def vE(hs:src<p.size)(hd:d<=src)(k) :
  kk key (bubble p src d) k=if k=src-d then kk key p src else if src-d<k/\k<=src then kk key p (k-1)else kk key p k:=by
 have e:=getElem?_bubble hs d hd k;by_cases h1:k=src-d
 .rw[if_pos h1]at e ⊢;exact ie e
 .rw[if_neg h1]at e ⊢;by_cases h2:src-d<k/\k<=src
  .rw[if_pos h2]at e ⊢;exact ie e
  .rw[if_neg h2]at e ⊢;exact ie e
def sn(J:j<=p.size)(k) :
  kk key (kas_rev p i j) k=if i<=k/\k<j then kk key p (i+j-1-k)else kk key p k:=by
 have e:=getElem?_mirror_all (i:=i) J k;by_cases h1:i<=k/\k<j
 .rw[if_pos h1]at e ⊢;exact ie e
 .rw[if_neg h1]at e ⊢;exact ie e
def dw(J:j<=p.size)(Y:∀k,i<=k->k<j->kk key p k=kk key p (j-1))(k) :
  kk key (kas_rev p i j) k=kk key p k:=by
 rw[sn J]
 grind
variable(hc:∀a b C,a<N->b<N->C (O.blt (key a) (key b)) s->cmp a b C s)
include hc
def qM{Q:α->Shared->Prop}(J:PB N p)(hi:i<N)(Y:j<N)
  (h:(k (O.blt (kk key p i) (kk key p j))).kasWp cmp Q s):(KasT.ask (p.getD i 0) (p.getD j 0) k).kasWp cmp Q s:=
 hc _ _ _ (J.lt hi) (J.lt Y) h
theorem xk(hp:PB N p)(hn:nrem<=N):∀f n,n+f=nrem->1<=n->fz key p n ->
  (∀m,n<=m->m<=nrem->fz key p m->(m=nrem\/O.klt (kk key p m) (kk key p (m-1)))->Q m s)->(kas_asc p f n).kasWp cmp Q s
 |0,n,e,h1,hs,h=>h n (y4 _) (Kl e) hs (.inl e)
 |f+1,n,e,h1,hs,h=>by
  have nN:n<N:=by omega
  refine qM hc hp nN (Jl (Kx n 1) nN) ?_;cases J:O.blt (kk key p n) (kk key p (n-1))with
  |true =>
   rw[if_pos rfl];exact h n (y4 _) (IQ (J7 n (f+1)) (Kl e)) hs (.inr J)
  |false =>
   rw[if_neg (by simp)];refine xk hp hn f (n+1) ((JH n 1 f).trans e) (Ld 1 n) (λi j Y hj=>?_) λm a b c d=>h m (J0 a) b c d
   by_cases Z:j<n
   .exact hs i j Y Z
   .have ao:=JO (J1 hj) (JX.mp Z);subst ao;by_cases ac:i=j
    .subst ac;exact J3 _
    .exact K5 (hs i (j-1) (K6 (Kn Y ac)) (Mc h1 Nat.one_pos)) J
def ud{n nrem:Nat}{Q:Nat×Array Nat->Shared->Prop}(Y:PB N p)(hn:nrem<=N)(h1:1<=n)(J:n<=nrem)(hs:qK key p n)
  (h:∀m Z,PB N Z->1<=m->m<=nrem->fz key Z m->Q (m,Z) s):(kas_tail3 n nrem p).kasWp cmp Q s:=by
 unfold kas_tail3;rw[Le];have hz:n<=p.size:=by rw[Y.size];exact IQ J hn
 refine xk hc (Y.rev 0 n) hn (nrem-n) n (LJ J) h1 (λi j ac hj=>?_) λm a b c _=>h m _ (Y.rev 0 n) (IQ h1 a) b c
 rw[sn hz,sn hz,if_pos ⟨IY _,Jl ac hj⟩,if_pos ⟨IY _,hj⟩];exact hs _ _ (by omega) (by omega)
theorem pE(hn:nrem<=N):∀f p n q,n+f=nrem->PB N p->qK key p n->q+1<=n ->
  (∀i,n-(q+1)<=i->i<n->kk key p i=kk key p (n-1)) ->
  (∀J m q',n<=m->m<=nrem->PB N J->qK key J m->q'+1<=m->(∀i,m-(q'+1)<=i->i<m->kk key J i=kk key J (m-1))->Q (J,m,q') s) ->
  (kas_desc f p n q).kasWp cmp Q s
 |0,p,n,q,e,hp,hs,hq,he,h=>h p n q (y4 _) (by omega) hp hs hq he
 |f+1,p,n,q,e,hp,hs,hq,he,h=>by
  show(KasT.ask (p.getD n 0) (p.getD (n-1) 0) λc =>
   if c=true then(if q > 0 then kas_desc f (kas_rev p (n-(q+1)) n) (n+1) 0 else kas_desc f p (n+1) 0)
   else .ask (p.getD (n-1) 0) (p.getD n 0) λd=>if d=true then .ret (p,n,q)else kas_desc f p (n+1) (q+1)).kasWp cmp Q s
  have nN:n<N:=by omega
  have hz:n<=p.size:=by rw[hp.size];exact Jz nN
  refine qM hc hp nN (Jl (Kx n 1) nN) ?_;cases Y:O.blt (kk key p n) (kk key p (n-1))with
  |true =>
   rw[if_pos rfl];have Z:∀J,(∀k,kk key J k=kk key p k)->qK key J (n+1):=by
    intro J hk i j ac hj;rw[hk,hk];by_cases ao:j<n
    .exact hs i j ac ao
    .have a4:=JO (J1 hj) (JX.mp ao);subst a4;by_cases ar:i=j
     .subst ar;exact J3 _
     .exact K5 (KU Y) (hs i (j-1) (K6 (Kn ac ar)) (Mc (IK (Nat.succ_pos q) hq) Nat.one_pos))
   by_cases a2:q > 0
   .rw[if_pos a2];exact pE hn f _ (n+1) 0 ((JH n 1 f).trans e) (hp.rev _ _) (Z _ (dw hz he)) (Ld 1 n) (λi a b=>by congr 1;omega)
     λJ m q' a=>h J m q' (J0 a)
   .rw[if_neg a2];exact pE hn f p (n+1) 0 ((JH n 1 f).trans e) hp (Z _ λ_=>rfl) (Ld 1 n) (λi a b=>by congr 1;omega) λJ m q' a=>h J m q' (J0 a)
  |false =>
   rw[if_neg (by simp)];refine qM hc hp (Jl (Kx n 1) nN) nN ?_;cases aL:O.blt (kk key p (n-1)) (kk key p n)with
   |true =>
    rw[if_pos rfl];exact h p n q (y4 _) (by omega) hp hs hq he
   |false =>
    rw[if_neg (by simp)];have a3:=KeyOrd.kle_antisymm aL Y;refine pE hn f p (n+1) (q+1) ((JH n 1 f).trans e) hp (λi j ac hj=>?_) (Nat.succ_le_succ hq) (λi a b=>?_) λJ m q' a=>h J m q' (J0 a)
    .by_cases ao:j<n
     .exact hs i j ac ao
     .have a4:=JO (J1 hj) (JX.mp ao);subst a4;by_cases ar:i=j
      .subst ar;exact J3 _
      .rw[a3];exact hs i (j-1) (K6 (Kn ac ar)) (Mc (IK (Nat.succ_pos q) hq) Nat.one_pos)
    .rw[KJ];by_cases bc:i=n
     .subst bc;rfl
     .rw[a3];exact he i (by omega) (by omega)
def lZ{n nrem:Nat}{Q:Nat×Array Nat->Shared->Prop}(hp:PB N p)(hn:nrem<=N)(a2:n+1<=nrem)(hs:qK key p (n+1))
  (h:∀m Z,PB N Z->1<=m->m<=nrem->fz key Z m->Q (m,Z) s):(kas_descPart n nrem p).kasWp cmp Q s:=by
 unfold kas_descPart;rw[Le];refine pE hc hn (nrem-_) p _ 0 (by simp[*]) hp hs (Nat.succ_pos _) (λi a b=>by congr 1;omega) λZ m q' a4 ac Y ao hq he=>?_
 dsimp only;have hz:m<=Z.size:=by rw[Y.size];exact(IQ ‹_› ‹_›)
 by_cases J:q' > 0
 .rw[if_pos J];refine ud hc (Y.rev _ _) hn (KC ‹_› ‹_›) ac (λi j aL hj=>?_) h;rw[dw hz he,dw hz he];exact ao i j aL hj
 .rw[if_neg J];exact ud hc Y hn (by omega) ac ao h
def Au(hp:PB N p)(hn:nrem<=N)(h1:1<=nrem)
  (h:∀m p',PB N p'->1<=m->m<=nrem->fz key p' m->Q (m,p') s):(kas_count nrem p).kasWp cmp Q s:=by
 unfold kas_count;rw[Le];refine xk hc hp hn (nrem-1) 1 (by simp[*]) (y4 _) (λi j Y hj=>by have:=JO Y (IQ (J1 hj) (IY i));subst this;exact J3 _) λn Z a0 ac bG=>?_
 by_cases ao:n=nrem
 .rw[if_pos (by simpa using ao)];exact h n p hp Z a0 ac
 .rw[if_neg (by simpa using ao)];have nr:=Kn a0 ao;have nN:=IK nr hn;have a6:=bG.resolve_left ao;by_cases a3:n > 1
  .rw[if_pos a3];refine qM hc hp (Jl (IY n) nN) (Jl (Kx n 1) nN) ?_;cases a4:O.blt (kk key p 0) (kk key p (n-1))with
   |true =>
    rw[if_pos rfl];exact h n p hp Z a0 ac
   |false =>
    rw[if_neg (by simp)];have a8:n<=p.size:=by rw[hp.size];exact Jz nN
    have J:∀k,0<=k->k<n->kk key p k=kk key p (n-1):=by
     intro k _ hk;have a1:=ac 0 k (IY k) hk;have a2:=ac k (n-1) (K6 hk) (Mc Z Nat.one_pos);exact KeyOrd.kle_antisymm a2 (K5 a4 a1)
    refine lZ hc (hp.rev _ _) hn nr (λi j Y hj=>?_) h;rw[dw a8 J,dw a8 J];by_cases a5:j<n
    .rw[J i (IY _) (Jl Y a5),J j (IY _) a5];exact J3 _
    .have bO:=JO (J1 hj) (JX.mp a5);subst bO;by_cases ar:i=j
     .subst ar;exact J3 _
     .rw[J i (IY _) (Kn Y ar)];exact KU a6
  .rw[if_neg a3];have a9:=JO (JX.mp a3) Z;subst a9;refine lZ hc hp hn nr (λi j Y hj=>?_) h;by_cases ar:i=j
   .subst ar;exact J3 _
   .have bP:i=0:=by omega
    have bS:j=1:=by omega
    subst bP;subst bS
    exact KU a6
theorem pF(hp:PB N p)(hk:k<N)(hs:fz key p k):∀f l r,r<=l+f->l<=r->r<=k ->
  (∀i,i<l->O.kle (kk key p i) (kk key p k))->(∀i,r<=i->i<k->O.klt (kk key p k) (kk key p i)) ->
  (∀l,l<=k->(∀i,i<l->O.kle (kk key p i) (kk key p k))->(∀i,l<=i->i<k->O.klt (kk key p k) (kk key p i))->Q l s)->(kas_place p k f l r).kasWp cmp Q s
 |0,l,r,hf,ao,J,Z,ac,h=>by
  have:=JO ao hf;subst this;exact h l J Z ac
 |f+1,l,r,hf,ao,J,Z,ac,h=>by
  show(if l>=r then KasT.ret l else .ask (p.getD k 0) (p.getD ((l+r) / 2) 0) λc=>if c=true then kas_place p k f l ((l+r) / 2)else kas_place p k f ((l+r) / 2+1) r).kasWp cmp Q s;by_cases ar:l>=r
  .rw[if_pos ar];have:=JO ao ar;subst this;exact h l J Z ac
  .rw[if_neg ar];obtain⟨m,em,m1,m2⟩:∃m,(l+r) / 2=m/\l<=m/\m<r:=⟨_,rfl,by omega,by omega⟩;rw[em];have mk:=IK m2 J;refine qM hc hp hk (KC mk hk) ?_;cases Y:O.blt (kk key p k) (kk key p m)with
   |true =>
    rw[if_pos rfl];exact pF hp hk hs f l m (by omega) m1 (Jz mk) Z (λi a b=>KeyOrd.klt_of_klt_of_kle Y (hs _ _ a b)) h
   |false =>
    rw[if_neg (by simp)];exact pF hp hk hs f (m+1) r (by omega) m2 J (λi a=>K5 (hs i m (J1 a) mk) (show O.kle _ _ from Y)) ac h
theorem BG :∀f p k,k+f=N->PB N p->fz key p k->(∀p',PB N p'->fz key p' N->Q p' s)->(kas_bin f p k).kasWp cmp Q s
 |0,p,k,e,hp,hs,h=>by
  have:k=N:=by omega
  subst this;exact h p hp hs
 |f+1,p,k,e,hp,hs,h=>by
  show((kas_place p k k 0 k).bind λl=>kas_bin f (bubble p k (k-l)) (k+1)).kasWp cmp Q s;rw[Le];refine pF hc hp (by omega) hs k 0 k (Ld k 0) (IY k) (y4 k) (λi a=>absurd a (Nat.not_lt_zero i)) (λi a b=>absurd b (JX.mpr a)) λl hl aL a0=>?_
  refine BG f _ (k+1) (by omega) (hp.bub _ _) (λi j J hj=>?_) h;have a1:k<p.size:=by rw[hp.size];omega
  have val:∀i,i<k+1->(i<l/\kk key (bubble p k (k-l)) i=kk key p i)\/(i=l/\kk key (bubble p k (k-l)) i=kk key p k)\/∃Y,i=Y+1/\l<=Y/\Y<k/\kk key (bubble p k (k-l)) i=kk key p Y:=λi hi=>by
   rw[vE a1 (Kx k l),Nat.sub_sub_self hl];rcases Lu i l with q|q|q
   .exact .inl ⟨q,by rw[if_neg (IP q),if_neg λz=>Mj q z.1]⟩
   .exact .inr (.inl ⟨q,by rw[if_pos q]⟩)
   .obtain⟨c,rfl⟩:=Kh q;exact .inr (.inr ⟨l+c,rfl,J7 _ _,KP hi,by rw[if_neg (J4 q),if_pos ⟨q,J1 hi⟩];rfl⟩)
  rcases val i (Jl J hj)with⟨a,e1⟩|⟨a,e1⟩|⟨Y,a,b,c,e1⟩<;>rcases val j hj with⟨Z,e2⟩|⟨Z,e2⟩|⟨j',Z,b',c',e2⟩<;>rw[e1,e2]
  .exact hs i j J (IK Z hl)
  .exact aL i a
  .exact hs i j' (IQ (Jz a) b') c'
  .exact absurd Z (JX.mpr (a▸J))
  .exact J3 _
  .exact KU (a0 j' b' c')
  .exact absurd (Jl (a▸J:Y+1<=j) Z) (JX.mpr (Nat.le_succ_of_le b))
  .exact absurd (Z▸a▸J:Y+1<=l) (Nat.not_le.mpr (L8 b))
  .exact hs Y j' (Kj (Z▸a▸J:Y+1<=j'+1)) c'
def CS(h1:1<=N)(h:∀p,PB N p->fz key p N->Q p s):(kas_sort N).kasWp cmp Q s:=by
 unfold kas_sort;rw[Le];refine Au hc (Array.Perm.refl _) (y4 _) h1 λm p' J ao ar Y=>?_
 by_cases Z:m<N
 .rw[if_pos Z,show max m 1=m by omega];exact BG hc _ _ _ (by simp[*]) J Y h
 .rw[if_neg Z];have:m=N:=by omega
  subst this;exact h p' J Y
end
end L2.Srt
namespace L2.Srt
open PySem PyProof.Rows List Option
theorem l_:∀a,HT.lexLt a a=false
 | []=>rfl
 |x::r=>by rw[HT.lexLt_cons,if_pos rfl];exact l_ r
theorem jU:∀a b c,HT.lexLt a b=true->HT.lexLt b c=true->HT.lexLt a c=true
 | [],[],_,h,_=>dq h
 | [],_::_,[],_,h=>dq h
 | [],_::_,_::_,_,_=>rfl
 | _::_,[],_,h,_=>dq h
 | _::_,_::_,[],_,h=>dq h
 |x::a,y::b,z::c,h1,h2=>by
  rw[HT.lexLt_cons]at h1 h2 ⊢;by_cases J:x=y
  .rw[if_pos J]at h1;by_cases Y:y=z
   .rw[if_pos Y]at h2;rw[if_pos (J.trans Y)];exact jU a b c h1 h2
   .simp_all
  .grind
theorem jV:∀a b,HT.lexLt a b=false->HT.lexLt b a=false->a=b
 | [],[],_,_=>rfl
 | [],_::_,h,_=>qA h
 | _::_,[],_,h=>qA h
 |x::a,y::b,h1,h2=>by
  rw[HT.lexLt_cons]at h1 h2;by_cases e:x=y
  .rw[if_pos e]at h1;rw[if_pos e.symm]at h2;rw[e,jV a b h1 h2]
  .grind
def Av(a b c)(h:HT.lexLt a c=true):HT.lexLt a b=true\/HT.lexLt b c=true:=by
 cases h1:HT.lexLt a b with
 |true=>exact .inl rfl
 |false =>
  cases h2:HT.lexLt b a<;>first|exact .inr (jU b a c h2 h)|(rw[jV a b h1 h2]at h;exact .inr h)
noncomputable def eU:KeyOrd:=⟨List Int,HT.lexLt,l_,jU,Av,jV⟩
noncomputable def dy:KeyOrd:=⟨Int,λa b=>decide (a<b),λa=>Jt (by omega),λa b c h1 h2=>I0 (by have:=JU h1;have:=JU h2;omega),
 λa b c h=>by
  have:=JU h;by_cases q:a<b
  .exact .inl (I0 q)
  .exact .inr (I0 (by omega)),
 λa b h1 h2=>by have:=LY h1;have:=LY h2;omega⟩
section
variable(O:KeyOrd)
noncomputable def lf(x:O.α):List O.α->List O.α
 | []=>[x]
 |y::r=>if O.blt y x then y::lf x r else x::y::r
noncomputable def gP:List O.α->List O.α
 | []=>[]
 |x::r=>lf O x (gP r)
theorem jW(x):∀l,(lf O x l).Perm (x::l)
 | []=>.refl _
 |y::r=>by
  show(if O.blt y x then y::lf O x r else x::y::r).Perm _;split
  .exact(Perm.cons y (jW x r)).trans (.swap x y r)
  .exact .refl _
theorem eV:∀l,(gP O l).Perm l
 | []=>.refl _
 |x::r=>(jW O x _).trans (.cons x (eV r))
theorem mf(x):∀l,l.Pairwise O.kle->(lf O x l).Pairwise O.kle
 | [],_=>pairwise_singleton _ _
 |y::r,h=>by
  show(if O.blt y x then y::lf O x r else x::y::r).Pairwise O.kle;obtain⟨h1,h2⟩:=Lz.mp h;by_cases q:O.blt y x=true
  .rw[if_pos q];refine Lz.mpr ⟨λz hz=>?_,mf x r h2⟩;rcases IM.mp ((jW O x r).mem_iff.mp hz)with e|e
   .rw[e];exact KU q
   .exact h1 z e
  .rw[if_neg q];have J:=Bool.eq_false_iff.mpr q;refine Lz.mpr ⟨λz hz=>?_,h⟩;rcases IM.mp hz with e|e
   .rw[e];exact J
   .exact K5 J (h1 z e)
theorem dY:∀l,(gP O l).Pairwise O.kle
 | []=>Pairwise.nil
 |x::r=>mf O x _ (dY r)
theorem jh:∀{a b:List O.α},a.Perm b->a.Pairwise O.kle->b.Pairwise O.kle->a=b
 | [],b,p,_,_=>p.nil_eq
 |x::a,[],p,_,_=>by have:=p.length_eq;injection this
 |x::a,y::b,p,Y,Z=>by
  obtain⟨a1,a2⟩:=Lz.mp Y;obtain⟨b1,b2⟩:=Lz.mp Z;have e:x=y:=by
   have hx:=p.mem_iff.mp (.head _);have hy:=p.mem_iff.mpr (.head _);rcases IM.mp hx with q|q
   .exact q
   .rcases IM.mp hy with J|J
    .exact J.symm
    .exact KeyOrd.kle_antisymm (a1 y J) (b1 x q)
  subst e;rw[jh (p.cons_inv) a2 b2]
def ji(p:a.Perm l)(h:a.Pairwise O.kle):a=gP O l:=jh O (p.trans (eV O l).symm) h (dY O l)
def nJ(p:a.Perm b):gP O a=gP O b:=ji O ((eV O a).trans p) (dY O a)
def xl(h:a.Pairwise O.kle):gP O a=a:=(ji O (.refl a) h).symm
end
def iA{α:Type}(xs)(d:α):(range xs.length).map (λi=>xs.getD i d)=xs:=by
 apply Mk;intro i;rw[Jb];by_cases q:i<xs.length
 .simp_all
 .simp_all
def CT(Y:PB xs.length p)(hr:fz (λi=>xs.getD i d) p xs.length):p.toList.map (λi=>xs.getD i d)=gP O xs:=by
 refine ji O ?_ ?_
 .have h:=(K7.mp Y).map λi=>xs.getD i d
  have e:=iA xs d;rw[e]at h;exact h
 .rw[pairwise_iff_getElem];intro i j hi Z J;rw[IC,Array.length_toList]at hi Z;have hz:=Y.size;have q:=hr i j (Jz J) (by omega);simp only[getElem_map];have ei:p.getD i 0=p[i]:=by simp[hi]
  have ej:p.getD j 0=p[j]:=by simp[Z]
  unfold kk at q;rw[ei,ej]at q;exact q
end L2.Srt
namespace L2.Srt
open PySem PySem.W PySem.Calls PyProof.Rows List Option
section
variable{prog:Program}{w:World}{A:Around}{E:Value->Shared->Prop}{s:Shared}
def KOk(g:SortKind):Prop:=g=tuples' true\/g=general'\/g=oneType'
def pG {KO:SortKind->Prop}{O:KeyOrd}{key:Nat->O.α}{a:Addr}{vs:List Value}{n:Nat}{R:PySem.Fin->Shared->Prop} (ho:s.heap.get? a=some (seqObj "list" vs.toArray n)) (aL:vs.length<64)
  (hk:2<=vs.length->∀s' Q,(∀b o,b≠a->s.heap.get? b=some o->s'.heap.get? b=some o)->(∀g,KO g->Q g s')->wpAny (model prog w) A (keyKind' vs.toArray) Q (λ_ _=>False) s')
  (hc:∀g,KO g->∀s' i j C,(∀b o,b≠a->s.heap.get? b=some o->s'.heap.get? b=some o)->i<vs.length->j<vs.length->C (O.blt (key i) (key j)) s' ->
   wpAny (model prog w) A (keyLt' g (vs.getD i Value.none) (vs.getD j Value.none)) C (λ_ _=>False) s')
  (h:∀p,PB vs.length p->fz key p vs.length->R (.done (.ret .none)) { s with heap:=sortedHeap s.heap a vs (p.toList.map λi=>vs.getD i Value.none).toArray }) :
  wpAny (model prog w) A (Builtin.«list.sort» ⟨[.ref a],[]⟩) R E s:=by
 rw[list_sort_plain];have ha:=IG ho;refine gf (listItems_at ho rfl ?_);refine gf (LA ho rfl ?_ (by rw[B1,Jw];omega) (IY _));obtain⟨e1,ao⟩:∃e1,(s.heap.update a (Obj.mapSeq λ_=>(#[]:Array Value))).get? a=some (seqObj "list" #[] e1):=⟨_,get?_update_seq ho λ_=>#[]⟩;refine gf (LR ao rfl ?_);refine gf (wpAny_newTuple ?_ (by show vs.length<=_;rw[Jw];omega));refine gf (LB ?_ (IY _));refine Jj ?_;have Y:(((s.heap.update a (Obj.mapSeq λ_=>(#[]:Array Value))).push (seqObj "tuple" vs.toArray 0)).push (seqObj "list" #[] 0)).get? a=some (seqObj "list" #[] e1):=ox _ (ox _ ao);have kp:∀b o,b≠a->s.heap.get? b=some o->(((s.heap.update a (Obj.mapSeq λ_=>(#[]:Array Value))).push (seqObj "tuple" vs.toArray 0)).push (seqObj "list" #[] 0)).get? b=some o:=λb o hb e =>
  ox _ (ox _ ((JK _ _ (JF hb)).trans e))
 dsimp only;have bL:vs.toArray.size=vs.length:=by rfl
 by_cases h2:vs.toArray.size<2
 .rw[if_pos h2,if_pos h2];refine gf (oe ?_);rw[StateT.run_pure];refine gf (oe ?_);dsimp only;refine gf (LR Y rfl ?_);refine gf (LA Y rfl ?_ (IY _) (by rw[K0];show(pairsOf vs).size<=_;rw[pairsOf_size,Jw];omega));simp only[Kr,IU,JS];have e:((arrOf (SortSt.mk' general' (vs.toArray.zip vs.toArray) #[] 7 none)).map (·.2))=((range vs.length).toArray.toList.map λi=>vs.getD i Value.none).toArray:=by
   have e2:(arrOf (SortSt.mk' general' (vs.toArray.zip vs.toArray) #[] 7 none))=vs.toArray.zip vs.toArray:=rfl;rw[e2];apply Array.toList_inj.mp;rw[iA];simp[map_snd_zip]
  refine oe ?_;have q:=h (range vs.length).toArray (Array.Perm.refl _) (λi j bO hj=>by
   have:i=j:=by omega
   subst this;exact J3 _)
  rw[<- e]at q;exact q
 .rw[if_neg h2,if_neg h2];have ar:2<=vs.length:=by exact(LD ‹_›)
  refine gf (Jn (hk ar _ (λg s0=>KO g/\s0={ s with heap:=((s.heap.update a (Obj.mapSeq λ_=>(#[]:Array Value))).push (seqObj "tuple" vs.toArray 0)).push (seqObj "list" #[] 0) }) kp λg J=>⟨J,rfl⟩) (λg s0 J=>?_) λ_ _ x=>x.elim);obtain⟨J,rfl⟩:=J;refine gf (Jn (kat_run (Q:=λZ s'=>∃p,p.size=vs.length/\arrOf Z=p.map (kas_item (vs.toArray.zip vs.toArray))/\failedOf Z=none/\PB vs.length p/\fz key p vs.length/\s'={ s with heap:=((s.heap.update a (Obj.mapSeq λ_=>(#[]:Array Value))).push (seqObj "tuple" vs.toArray 0)).push (seqObj "list" #[] 0) })
   (G:=λp s'=>PB vs.length p/\fz key p vs.length/\s'={ s with heap:=((s.heap.update a (Obj.mapSeq λ_=>(#[]:Array Value))).push (seqObj "tuple" vs.toArray 0)).push (seqObj "list" #[] 0) })
   rfl ar aL (λp' Z s' a1 a2 a3 a4=>⟨p',a1,a2,a3,a4⟩)
   (CS (key:=key) (λi j C hi hj q=>hc g J _ i j C kp hi hj q) (Jz ‹_›) λp hp hr=>⟨hp,hr,rfl⟩)) ?_ λ_ _ e=>e)
  rintro ⟨⟨⟩,Z⟩ s' ⟨p,hp,a6,hf,a8,a9,rfl⟩;have ac:=kat_snds rfl a6;refine gf (LR Y rfl ?_);refine gf (LA Y rfl ?_ (IY _) (by rw[ac];refine IQ (Kl ?_) (show vs.length<=_ by rw[Jw];omega);simp[hp]));rw[hf,ac];simp only[Kr,IU,JS];exact oe (h p a8 a9)
theorem kP :∀{vs ws}{ns ms} i,IntsAre vs ns->IntsAre ws ms->fin=decide (ns.length<ms.length)->C (HT.lexLt ns ms) s->KatLex prog w A true fin C (vs.zip ws) i s
 | _,_,_,_,i,.nil,.nil,hf,h=>by
  refine kat_nil ?_;rw[hf];exact h
 | _,_,_,_,i,.nil,.cons c u hw,hf,h=>by
  refine kat_nil ?_;rw[hf,I0 (by simp)];exact h
 | _,_,_,_,i,.cons a t hv,.nil,hf,h=>by
  refine kat_nil ?_;rw[hf,Jt (by simp)];exact h
 | _,_,_,_,i,.cons (ns:=ns) a t hv,.cons (ns:=ms) c u hw,hf,h=>by
  rw[HT.lexLt_cons]at h;refine kat_cons (wpAny_eqBool_int ?_);by_cases e:a=c
  .rw[if_pos e]at h;have q:(a==c)=true:=by rw[e];exact KD c
   rw[q];refine kat_yes (kP _ hv hw ?_ h);rw[hf];simp
  .rw[if_neg e]at h;have q:=Ki.mpr e;rw[q];refine kat_no ?_;cases i with
   |zero=>exact oneLt_int h
   |succ i=>exact kat_one _ _ (lt_int h)
def ue(hk:KOk g){a b:Addr}{its J:Array Value}{ns ms:List Int}{C:Bool->Shared->Prop}(ha:IsTup s.heap a its)(hb:IsTup s.heap b J)(hi:IntsAre its.toList ns)(hj:IntsAre J.toList ms)
  (hu:A.units<cLine) (h:C (HT.lexLt ns ms) s):wpAny (model prog w) A (keyLt' g (.ref a) (.ref b)) C E s:=by
 rcases hk with rfl|rfl|rfl
 .obtain⟨o,ho,_,n,hd⟩:=id ha;obtain⟨o2,Z,_,n2,Y⟩:=id hb;refine kat_lt ho hd Z Y (kP 0 hi hj ?_ h);have z1:its.size=ns.length:=by rw[<- hi.length];simp
  have z2:J.size=ms.length:=by rw[<- hj.length];simp
  rw[z1,z2]
 .show wpAny _ _ (oneLt' false _ _) _ _ _;exact kat_one _ _ (HT.lt_tupInts ha hb hi hj hu h)
 .rw[keyLt'_oneType,oneLt'_eq];refine gf (wpAny_cRoomFor hu ?_);refine bf λZq kq=>?_
  obtain⟨⟨cls,dd,data,sl⟩,ho,hc,n,hd⟩:=id ha;obtain⟨⟨a4,a0,data2,a1⟩,Z,ac,n2,Y⟩:=id hb;simp only at hc hd ac Y;subst hc hd ac Y;refine kq ?_;refine gf (wpAny_callSpecialIfBound?_slot ⟨_,ho,rfl⟩ PySem.F.slot_tuple_lt (K4 PySem.F.slot_tuple_lt ⟨_,ho,rfl⟩ PySem.F.entry_tuple_lt (PySem.F.args_tuple_lt_2 _ _) (HT.tuple_lt_ints a b its J n n2 dd a0 sl a1 ns ms hi hj) ⟨ho,Z,?_⟩));exact JZ h
theorem kQ:∀(vs:List Value) {Q},(∀v∈vs,∃a its ns,v=.ref a/\IsTup s.heap a its/\IntsAre its.toList ns) ->
  (∀fs,fs.length=vs.length->(∀f∈fs,∀v,f=some v->∃n t,v=Value.int n t)->Q fs s)->wpAny (model prog w) A (vs.mapM firstOfTuple') Q E s
 | [],Q,_,h=>by rw[mapM_nil];exact oe (h [] rfl (by simp))
 |v::vs,Q,hv,h=>by
  refine bf λZq Y=>?_
  obtain⟨a,its,ns,rfl,⟨o,ho,hc,n,hd⟩,hi⟩:=hv v (.head _);refine Y ?_;rw[mapM_cons];refine gf ?_;refine gf (Looks.here (show Looks (model prog w) s.heap (typeOf (.ref a)) o.cls from(Looks.ld ho).andThen .now) ?_);rw[hc,if_neg (by first|decide|simp)];refine gf (listItems_at ho hd (oe ?_));refine gf (kQ vs (Q:=λbs s'=>wpAny (model prog w) A (pure (its[0]?::bs)) Q E s') (λu Z=>hv u (.tail _ Z)) λfs hl hf=>?_);refine oe (h _ (by simp[hl]) λf hm u e=>?_);rcases IM.mp hm with z|z
  .rw[z]at e;have J:u∈its.toList:=by
    rw[<- Ju]at e;exact JA e
   exact hi.all u J
  .exact hf f z u e
def oC{vs:List Value}{Q:SortKind->Shared->Prop}(h2:2<=vs.length)(hv:∀v∈vs,∃a its ns,v=.ref a/\IsTup s.heap a its/\IntsAre its.toList ns)(h:∀g,KOk g->Q g s) :
  wpAny (model prog w) A (keyKind' vs.toArray) Q E s:=by
 rw[kat_kind_eq,mapM_toArray,Ml];refine gf (gf (kQ vs hv λfs hl hf=>oe ?_));by_cases J:(fs.toArray.all λx=>x.isSome)=true
 .rw[if_pos J];refine gf (JT ?_);have aL:(fs.toArray.filterMap id)=(fs.filterMap id).toArray:=by simp
  rw[aL,oneTypeOnly'_eq,mapM_toArray,Ml];have Z:∀v∈fs.filterMap id,∃n t,v=Value.int n t:=λv hm=>by
   refine ae (mem_filterMap.mp hm) λf a0 e=>?_
   exact hf f a0 v e
  have a1:0<(fs.filterMap id).length:=by
   match fs,hl,J with
   | [],hl,_=>simp at hl;omega
   |f::r,_,J =>
    have:f.isSome=true:=by simp at J;exact J.1
    obtain⟨u,rfl⟩:=isSome_iff_exists.mp this;simp
  refine gf (gf (gf (kas_mapM (r:=Value.type "int") _ (λv hm Q' hq=>?_) (oe ?_))))
  .refine iI (Z v hm) λn t a3=>?_
   subst a3;exact oe hq
  .have h0:(map (λ_=>Value.type "int") (fs.filterMap id)).toArray[0]?=some (Value.type "int"):=by
    simp[a1]
   rw[h0];have Y:((map (λ_=>Value.type "int") (fs.filterMap id)).toArray.all λx=>x==Value.type "int")=true:=by
    simp only[all_toArray,Mm,J8];intro _ _
    rfl
   simp only[Y,if_true];exact oe (oe (h _ (.inl rfl)))
 .rw[if_neg J];by_cases ao:((fs.toArray[0]?).bind id).isSome=true
  .rw[if_pos ao];exact oe (h _ (.inr (.inl rfl)))
  .rw[if_neg ao];rw[oneTypeOnly'_eq,mapM_toArray,Ml];refine gf (gf (gf (kas_mapM (r:=Value.type "tuple") _ (λv hm Q' hq=>?_) (oe ?_))))
   .obtain⟨a,its,ns,rfl,⟨o,ho,hc,n,hd⟩,hi⟩:=hv v hm;have q:Looks (model prog w) s.heap (typeOf (.ref a)) o.cls:=(Looks.ld ho).andThen .now;rw[hc]at q;exact q.here hq
   .have h0:(map (λ_=>Value.type "tuple") vs).toArray[0]?=some (Value.type "tuple"):=by
     have:0<vs.length:=by exact(Jz ‹_›)
     simp[this]
    rw[h0];have Y:((map (λ_=>Value.type "tuple") vs).toArray.all λx=>x==Value.type "tuple")=true:=by
     simp only[all_toArray,Mm,J8];intro _ _
     rfl
    simp only[Y,if_true];exact oe (oe (h _ (.inr (.inr rfl))))
end
end L2.Srt
namespace L2.St
open PySem PyProof.Rows List Option
section
variable{P:Program}{w:World}{A:Around}{E:Value->Shared->Prop}{s:Shared}
def lr{items:Array Value}(hi:IntsAre items.toList ns):∀i (v:Value),items[i]?=some v->∃t,v=.int (ns.getD i 0) t:=
 λi v e=>IntsAre.int_at hi i v (by rw[Ju];exact e)
def jX{v:Value}{vs:Array Value}{it:Addr}{Q:Option Value->Shared->Prop}(J:A.handled=none){R:Value->Shared->Prop}
  (Y:∀e s',(∀b o,s.heap.get? b=some o->s'.heap.get? b=some o)->(∃h',s'={ s with heap:=h' })->s'.TypeIs e "StopIteration"->R e s') {Z:PySem.Fin->Shared->Prop} :
  wpAny (model P w) A (newExc (.type "StopIteration") [] >>= λe=>(raiseNew e:Sem PySem.Fin)) Z R s:=by
 refine wpAny_bind ?_;simp only[newExc,newTuple];refine wpAny_bind (wpAny_newObj_type ?_ (by size_fits));refine wpAny_bind (m:=firstArgMember _ _) (wpAny_of_eq (a:=Value.none) (by first|rfl|(simp only[firstArgMember];rfl)) ?_);refine wpAny_newObj_type ?_ (by size_fits);simp only[raiseNew];refine wpAny_bind (wpAny_handled ?_);rw[J];refine wpAny_bind (wpAny_pure (wpAny_throw ?_));exact Y _ _ (λb o e=>Heap.get?_push_of_some _ (Heap.get?_push_of_some _ e)) ⟨_,rfl⟩ ⟨_,Heap.get?_push_size _ rfl,rfl⟩
end
end L2.St
namespace L2.St
open PySem List Option
def lh(xs:Array Nat):Prop:=∀i j,i<j->j<xs.size->xs.getD i 0<xs.getD j 0
def xm{xs:Array Nat}(h:i<xs.size)(d e):xs.getD i d=xs.getD i e:=by simp[Array.getD,h]
theorem mh(hr:lh xs):∀J lo hi,hi<=lo+J->lo<=hi->hi<=xs.size->(∀i,i<lo->xs.getD i 0<j)->(∀i,hi<=i->i<xs.size->j<=xs.getD i 0) ->
  (SetTable.below.go xs j J lo hi<=xs.size/\(∀i,i<SetTable.below.go xs j J lo hi->xs.getD i 0<j)/\∀i,SetTable.below.go xs j J lo hi<=i->i<xs.size->j<=xs.getD i 0)
 |0,lo,hi,hf,h1,h2,a,b=>by
  have e:SetTable.below.go xs j 0 lo hi=lo:=rfl;rw[e];have:=JO h1 hf;subst this;exact⟨h2,a,b⟩
 |J+1,lo,hi,hf,h1,h2,a,b=>by
  have e:SetTable.below.go xs j (J+1) lo hi=if lo<hi then(if xs.getD ((lo+hi) / 2) j<j then SetTable.below.go xs j J ((lo+hi) / 2+1) hi else SetTable.below.go xs j J lo ((lo+hi) / 2))else lo:=rfl
  rw[e];by_cases hl:lo<hi
  .rw[if_pos hl];refine bf λZq kq=>?_
   obtain⟨m,em,m1,m2⟩:∃m,(lo+hi) / 2=m/\lo<=m/\m<hi:=⟨_,rfl,by omega,by omega⟩;refine kq ?_;rw[em];have hm:=IK m2 h2;rw[xm hm j 0];by_cases Z:xs.getD m 0<j
   .rw[if_pos Z];refine mh hr J _ hi (by omega) m2 h2 (λi Y=>?_) b;rcases LZ (J1 Y)with z|z
    .exact KC (hr i m z hm) Z
    .rw[z];exact Z
   .rw[if_neg Z];refine mh hr J lo _ (by omega) m1 (Jz hm) a λi Y hz=>?_
    rcases LZ Y with z|z
    .exact IQ (JX.mp Z) (Jz (hr m i z hz))
    .rw[<- z];exact JX.mp Z
  .rw[if_neg hl];have:=JO h1 (JX.mp hl);subst this;exact⟨h2,a,b⟩
def iR(J:lh xs)(j):SetTable.below xs j<=xs.size/\(∀i,i<SetTable.below xs j->xs.getD i 0<j)/\∀i,SetTable.below xs j<=i->i<xs.size->j<=xs.getD i 0:=
 mh J xs.size 0 xs.size (Ld _ _) (IY _) (y4 _) (λi h=>absurd h (Nat.not_lt_zero i)) λi h1 h2=>absurd h2 (JX.mpr h1)
def nK(xs)(p)(x:α)(J:p<=xs.size):(SetTable.insertAt xs p x).size=xs.size+1:=by grind [SetTable.insertAt]
def jj(xs)(p)(x:α)(J:p<=xs.size)(i):(SetTable.insertAt xs p x)[i]?=if i<p then xs[i]? else if i=p then some x else xs[i-1]?:=by
 unfold SetTable.insertAt;have hz:((xs.extract 0 p).push x).size=p+1:=by rw[Ke,Jg,Kp J,Nat.sub_zero]
 rcases Lu i p with h1|h1|h1
 .rw[if_pos h1,L4 (by rw[hz];exact Jk h1)];rw[Array.getElem?_push,if_neg (by rw[Jg,Kp J];exact IP h1),Array.getElem?_extract,if_pos (by rw[Kp J];exact h1),Kf]
 .subst h1;rw[if_neg (Jy _),if_pos rfl,L4 (by rw[hz];exact KG _)];rw[Array.getElem?_push,if_pos (by rw[Jg,Kp J];rfl)]
 .obtain⟨k,rfl⟩:=Kh h1;rw[if_neg (Mj h1),if_neg (J4 h1),Array.getElem?_append_right (by rw[hz];exact h1),hz,Array.getElem?_extract,JH,Nat.add_sub_cancel_left,Nat.min_self,JH,KJ];by_cases Y:k<xs.size-p
  .rw[if_pos Y]
  .rw[if_neg Y,KQ (Nat.sub_le_iff_le_add'.mp (JX.mp Y))]
def eJ{xs:Array Nat} :xs.getD i 0=(xs[i]?).getD 0:=Km
def qN(Z:lh xs)(hn:xs[SetTable.below xs j]?≠some j):lh (SetTable.insertAt xs (SetTable.below xs j) j):=by
 refine eT (iR Z j) λhp ha hb=>?_
 generalize SetTable.below xs j=p at *
 have ao:∀i,p<=i->i<xs.size->j<xs.getD i 0:=λi h1 h2=>by
  rcases LZ h1 with z|z
  .exact Jl (hb p (y4 _) (KC z h2)) (Z p i z h2)
  .subst z;have e:xs[p]?=some (xs.getD p 0):=by rw[Ky h2];simp[Array.getD,h2]
   exact Kn (hb p h1 h2) λz=>hn (by rw[e,<- z])
 intro i k Y hk;rw[nK _ _ _ hp]at hk;rw[eJ,eJ,jj _ _ _ hp,jj _ _ _ hp];rcases Lu k p with h1|h1|h1
 .rw[if_pos h1,if_pos (KC Y h1),<- eJ,<- eJ];exact Z i k Y (IK h1 hp)
 .simp_all
 .obtain⟨c,rfl⟩:=Kh h1;have hc:=KP hk;rw[if_neg (Mj h1),if_neg (J4 h1),KJ];rcases Lu i p with J|J|J
  .rw[if_pos J,<- eJ,<- eJ];exact Z i (p+c) (IK J (J7 p c)) hc
  .rw[if_neg (J▸Jy p),if_pos J,<- eJ];exact ao (p+c) (J7 p c) hc
  .obtain⟨b,rfl⟩:=Kh J;rw[if_neg (Mj J),if_neg (J4 J),KJ,<- eJ,<- eJ];exact Z (p+b) (p+c) (KP Y) hc
def sr(n):lh (Array.range n):=λi j h1 h2=>by
 rw[Array.size_range]at h2;simp[Array.getD,h2,KC h1 h2];exact h1
def xn:lh #[]:=λi j _ h=>by simp at h
structure Gd(L:Bool)(t:SetTable):Prop where
 led:t.led=L
 dum:t.dummies=#[]
 rise:lh t.place
theorem Gd.fresh(L):Gd L (.fresh 0 0 L):=⟨rfl,rfl,xn⟩
theorem Gd.standIn(h:Gd L t)(n):Gd L (t.standIn n):=⟨h.led,rfl,sr n⟩
theorem Gd.orStandIn(h:Gd L t)(n):Gd L (t.orStandIn n):=by
 unfold SetTable.orStandIn;split
 .exact h
 .exact h.standIn n
def Gd.unplain(h:Gd L t):Gd L { t with plain:=false }:=⟨h.led,h.dum,h.rise⟩
def pH{t:SetTable}(hd:t.dummies=#[])(j):t.slot j≠.dummy:=by
 unfold SetTable.slot SetTable.has;rw[hd];dsimp only;split
 .simp
 .simp
def su{t:SetTable}(h:t.slot j=.empty):t.place[SetTable.below t.place j]?≠some j:=by
 intro e;unfold SetTable.slot at h
 simp_all
theorem qO(hd:t.dummies=#[]) :∀J p,p.dummy=none->∀j d,SetTable.probe.go t Y h J p=some (.empty j d)->d=none/\t.slot j=.empty
 |0,p,Z,j,d,e=>by
  have:SetTable.probe.go t Y h 0 p=none:=rfl;rw[this]at e;exact aT e
 |J+1,p,Z,j,d,e=>by
  have step:SetTable.probe.go t Y h (J+1) p=(match t.slot p.j with
   | .empty=>some (.empty p.j p.dummy)
   | .dummy=>SetTable.probe.go t Y h J (t.advance { p with dummy:=some p.j })
   | .live i=>if Y i==h then some (.candidate p.j i (t.advance p))else SetTable.probe.go t Y h J (t.advance p)):=rfl
  rw[step]at e;have ac:(t.advance p).dummy=none:=by unfold SetTable.advance;split<;>simp[Z]
  cases hs:t.slot p.j with
  |empty =>
   rw[hs]at e;dsimp only at e;cases e;exact⟨Z,hs⟩
  |dummy=>exact absurd hs (pH hd _)
  |live i =>
   rw[hs]at e;dsimp only at e;split at e
   .cases e
   .exact qO hd J _ ac j d e
def vF{t:SetTable}(hd:t.dummies=#[])(e:t.freeSlot h=some (j,b)):t.slot j=.empty:=by
 unfold SetTable.freeSlot at e;split at e
 .rename_i J d Y;obtain⟨rfl,hs⟩:=qO hd _ _ rfl J d Y
  simp_all
 .exact aT e
theorem Gd.put(h:Gd L t)(hs:t.slot j=.empty):Gd L (t.put j).1:=by
 refine⟨h.led,?_,qN h.rise (su hs)⟩;show(if SetTable.has t.dummies j then _ else t.dummies)=#[];rw[if_neg (by unfold SetTable.has;rw[h.dum];simp)];exact h.dum
theorem Gd.layNew(g:Gd L t)(es)(h)(x):Gd L (layNew t es h x).2.1:=by
 unfold PySem.layNew;cases e:t.freeSlot h with
 |none=>exact g.standIn _
 |some q =>
  exact(g.put (vF g.dum e)).orStandIn _
def xo(f:Nat->Option Nat)(n):lh ((((range n).filterMap λj=>(f j).map λi=>(j,i)).map λq:Nat×Nat=>q.1).toArray):=by
 have e:((range n).filterMap λj=>(f j).map λi=>(j,i)).map (λq:Nat×Nat=>q.1)=(range n).filter λj=>(f j).isSome:=by
  generalize range n=l
  induction l with
  |nil=>rfl
  |cons a l ih =>
   cases h:f a<;>simp[filterMap_cons,filter_cons,h,ih]
 rw[e];have hp:((range n).filter λj=>(f j).isSome).Pairwise (· < ·):=Pairwise.filter _ pairwise_lt_range;intro i j Y hj;have J:j<((range n).filter λj=>(f j).isSome).length:=by exact hj
 have Z:i<((range n).filter λj=>(f j).isSome).length:=KC Y J;have:=pairwise_iff_getElem.mp hp i j Z J Y;simpa[Array.getD,J,Z]using this
theorem Gd.relaid(g:Gd L t)(e:t.relaid hs n=some (t',o)):Gd L t':=by
 unfold SetTable.relaid SetTable.laid at e;cases h:SetTable.layClean (SetTable.sizeAbove n-1) hs with
 |none=>rw[h]at e;exact aT e
 |some ow =>
  rw[h]at e;cases e;exact⟨g.led,rfl,xo (λj=>ow.getD j none) _⟩
theorem Gd.relayAll(g:Gd L t)(es)(n):Gd L (relayAll t es n).2.1:=by
 unfold PySem.relayAll;cases e:t.relaid (es.map (·.1)) n with
 |none=>exact g.standIn _
 |some q =>
  obtain⟨t',o⟩:=q;dsimp only;split
  .exact g.relaid e
  .exact g.standIn _
end L2.St
namespace L2.St
open PySem PyProof.Rows List Option
noncomputable def byT (w:World):Bool:=w.params.followText "set-order"
structure Arr(P:Program)(w:World)(ks:List Int)(es:Array (Int×Value))(t:SetTable):Prop where
 el:ElemsOf (intKind P w) es.toList
 pm:(es.toList.map λe=>numOf e.2).Perm ks
 nd:ks.Nodup
 bd:es.size<scanBound
 fi:t.fits es.size=true
 gd:Gd (!byT w) t
def cA(P:Program)(w:World)(h:Heap)(a:Addr)(ks:List Int):Prop:=
 ∃o es ep t,h.get? a=some o/\o.ExactSet/\o.data=.set es ep t/\ElemsOf (intKind P w) es.toList/\(es.toList.map λe=>numOf e.2).Perm ks/\ks.Nodup/\es.size<scanBound/\t.fits es.size=true/\Gd (!byT w) t
section
variable{P:Program}{w:World}{h h':Heap}{a:Addr}{ks ks':List Int}{o:Obj}{es:Array (Int×Value)}{ep:Nat}{t:SetTable}
theorem cA.arr(g:cA P w h a ks):∃o es ep t,(h.get? a=some o/\o.ExactSet/\o.data=.set es ep t)/\Arr P w ks es t:=by
 refine bf λZq Y=>?_
 obtain⟨o,es,ep,t,ho,J,hd,Z,c2,c3,c4,c5,c6⟩:=g;refine Y ?_;exact⟨o,es,ep,t,⟨ho,J,hd⟩,⟨Z,c2,c3,c4,c5,c6⟩⟩
theorem Arr.set(r:Arr P w ks es t)(ho:h.get? a=some o)(J:o.ExactSet)(hd:o.data=.set es ep t):cA P w h a ks:=
 ⟨o,es,ep,t,ho,J,hd,r.el,r.pm,r.nd,r.bd,r.fi,r.gd⟩
theorem Arr.len(r:Arr P w ks es t):es.size=ks.length:=by simpa using r.pm.length_eq
theorem Arr.bare(r:Arr P w ks es t)(b:Bool):Arr P w ks es (if b=true then t else { t with plain:=false }):=by
 cases b
 .exact⟨r.el,r.pm,r.nd,r.bd,SetTable.fits_plain_off r.fi,r.gd.unplain⟩
 .exact r
theorem Arr.lay(r:Arr P w ks es t)(tk)(J:k∉ks)(Y:ks.length+1<scanBound):Arr P w (k::ks) (layNew t es (hashInt k) (.int k tk)).1 (layNew t es (hashInt k) (.int k tk)).2.1:=by
 have p:(layNew t es (hashInt k) (.int k tk)).1.toList.Perm (es.toList++[(hashInt k,.int k tk)]):=by simpa using layNew_perm t es _ _
 have z:=p.length_eq;have l:=r.len;constructor
 .exact ElemsOf.perm (r.el.push (Md _ _ _ _) rfl) p
 .have q:((es.toList++[(hashInt k,Value.int k tk)]).map λe=>numOf e.2).Perm (k::ks):=by
   rw[Jo];exact Mn.trans (r.pm.cons k)
  exact(p.map _).trans q
 .exact Ji.mpr ⟨J,r.nd⟩
 .simp at z;exact(by simp[*])
 .exact layNew_fits _ _ _ _
 .exact r.gd.layNew _ _ _
def Arr.relay(r:Arr P w ks es t)(n):Arr P w ks (relayAll t es n).1 (relayAll t es n).2.1:=by
 have p:=relayAll_perm t es n;have z:=p.length_eq;have b:=r.bd;exact⟨r.el.perm p,(p.map _).trans r.pm,r.nd,by simp at z;exact(by simp[*]),relayAll_fits t es n,r.gd.relayAll es n⟩
theorem cA.at(g:cA P w h a ks)(k:∀o,h.get? a=some o->h'.get? a=some o):cA P w h' a ks:=by
 obtain⟨o,es,ep,t,⟨ho,J,hd⟩,r⟩:=g.arr;exact r.set (k o ho) J hd
end
def fY(h:ElemsOf (intKind P w) es):∀e∈es,∃t,e.2=.int (numOf e.2) t:=λe J=>by
 obtain⟨⟨k,Y,_⟩,_⟩:=h e J;obtain⟨t,q⟩:=L7 (show Value.isInt k e.2=true from Y);exact⟨t,by rw[q];rfl⟩
def iS(h:ElemsOf (intKind P w) es)(J:e∈es)(k):(intKind P w).is k e.2=true ↔ numOf e.2=k:=by
 obtain⟨t,q⟩:=fY h e J;constructor
 .intro z;obtain⟨t',Y⟩:=L7 (show Value.isInt k e.2=true from z);rw[Y];rfl
 .intro z;rw[q,z];exact Md _ _ _ _
section
variable{P:Program}{w:World}{A:Around}{E:Value->Shared->Prop}{s:Shared}
def Now(P:Program)(w:World)(a:Addr)(s:Shared)(ks:List Int)(s':Shared):Prop:=
 ∃h',s'={ s with heap:=h' }/\Heap.SameBut a s.heap h'/\cA P w h' a ks
theorem Now.stay(g:cA P w s.heap a ks):Now P w a s ks s:=⟨s.heap,rfl,Ks a s.heap,g⟩
def uf{h:Heap}{a:Addr}{o:Obj}{es:Array (Int×Value)}{ep:Nat}{t:SetTable}(ho:h.get? a=some o)(Y:o.ExactSet)(hd:o.data=.set es ep t)
  {J:Array (Int×Value)}{t':SetTable}{ks:List Int} (r:Arr P w ks J t'):cA P w (h.update a (Obj.putSet J t')) a ks:=by
 refine r.set (o:={ o with data:=.set J (ep+1) t' }) (ep:=ep+1) ?_ Y rfl;have e:Obj.putSet J t' o={ o with data:=.set J (ep+1) t' }:=putSet_of J t' hd;rw[<- e];exact JN _ ho (by rw[e];rfl)
theorem Now.put{s':Shared}(n:Now P w a s ks s'){es:Array (Int×Value)}{t:SetTable}(r:Arr P w ks' es t){Q:Unit->Shared->Prop}(h:∀J,Now P w a s ks' J->Q () J) :
  wpAny (model P w) A (storeSet a es t) Q E s':=by
 refine bf λZq kq=>?_
 refine aQ n λh' Y sb g=>?_
 subst Y;obtain⟨o,_,_,_,⟨ho,Z,hd⟩,_⟩:=g.arr;refine kq ?_;exact Kt ho hd (h _ ⟨_,rfl,sb.trans (Jx h' a _),uf ho Z hd r⟩) (Kg r.bd)
def FP{Q:Unit->Shared->Prop}(J:m=pure ()\/∃n,m=rule n)(h:Q () s'):wpAny (model P w) A m Q E s':=by
 rcases J with rfl|⟨n,rfl⟩
 .exact oe h
 .exact JT h
def FQ(k)(tk)(c)(h:∀b,wpAny (model P w) A (f b) Q E s') :
  wpAny (model P w) A (if c=true then hashByValue 8 (.int k tk) >>= f else(pure true:Sem Bool) >>= f) Q E s':=by
 cases c
 .exact gf (oe (h true))
 .rw[if_pos rfl,hashByValue_scannable 8 (show(Value.int k tk).scannable=true from rfl)];exact gf (oe (h _))
def oD{Q:Bool->Shared->Prop}(hS:cA P w s.heap a ks)(J:ks.length+1<scanBound)
  (h:∀h' b,Heap.SameBut a s.heap h'->cA P w h' a (if k∈ks then ks else k::ks)->Q b { s with heap:=h' }) :
  wpAny (model P w) A (setAddHashed a (.int k tk) (hashInt k)) Q E s:=by
 have fin:∀b s',Now P w a s (if k∈ks then ks else k::ks) s'->Q b s':=by
  rintro b _ ⟨h',rfl,sb,g⟩;exact h h' b sb g
 have now:=Now.stay hS;obtain⟨o,es,ep,t,⟨ho,a6,hd⟩,r⟩:=hS.arr;have here:k∈ks ↔ ((es.toList.findIdx? λe=>(intKind P w).is k e.2).isSome=true):=by
  rw[findIdx?_isSome,JL,<- r.pm.mem_iff,mem_map];exact⟨λhq=>ae hq λe Z q=>⟨e,Z,(iS r.el Z k).mpr q⟩,λhq=>ae hq λe Z q=>⟨e,Z,(iS r.el Z k).mp q⟩⟩
 refine Jj (gf (Je ho hd r.fi ?_));dsimp only;rw[byScan_of (x:=.int k tk) rfl r.bd r.el,if_pos rfl];refine gf ?_;refine gf (JT (gf (wpAny_setScan_of (knd:=intKind P w) (Md _ _ _ _) ho hd r.fi r.el ?_)));rcases hf:es.toList.findIdx? λe=>(intKind P w).is k e.2 with _|j
 .rw[hf];have hk:k∉ks:=λz=>by rw[here,hf]at z;exact Bool.noConfusion z
  rw[if_neg hk]at fin;have r1:=r.lay tk hk J;rcases hl:layNew t es (hashInt k) (.int k tk)with⟨Y,t1,dm,gv⟩
  rw[hl]at r1;dsimp only at r1 ⊢;refine gf (FP ?_ ?_)
  .cases gv
   .exact .inl rfl
   .exact .inr ⟨_,rfl⟩
  refine FQ k tk _ λb=>?_
  have r2:=r1.bare b;generalize (if b=true then t1 else _)=t2 at r2 ⊢;refine gf (now.put r2 λs2 n2=>?_);refine JI (λ_=>?_) (λ_=>oe (oe (fin _ _ n2)));have r3:=r2.relay (SetTable.grown Y.size);rcases hm:relayAll t2 Y (SetTable.grown Y.size)with⟨bG,t3,a2⟩
  rw[hm]at r3;dsimp only at r3 ⊢;refine gf (FP ?_ ?_)
  .cases a2
   .exact .inl rfl
   .exact .inr ⟨_,rfl⟩
  exact gf (n2.put r3 λs3 n3=>oe (oe (fin _ _ n3)))
 .rw[hf];have hk:=here.mpr (by rw[hf];rfl);rw[if_pos hk]at fin;exact oe (oe (fin _ _ now))
end
noncomputable def dd:List Int->List Int
 | []=>[]
 |k::r=>if k∈dd r then dd r else k::dd r
theorem fJ :∀{l},k∈dd l ↔ k∈l
 | []=>Iff.rfl
 |x::r=>by
  show k∈(if x∈dd r then dd r else x::dd r) ↔ _;have ih:=@fJ k r;by_cases h:x∈dd r
  .rw[if_pos h,ih,IM];exact⟨.inr,λz=>z.elim (λe=>by rw[e];exact fJ.mp h) id⟩
  .simp_all
theorem dd_nodup:∀l,(dd l).Nodup
 | []=>KI
 |x::r=>by
  show(if x∈dd r then dd r else x::dd r).Nodup;by_cases h:x∈dd r
  .rw[if_pos h];exact dd_nodup r
  .rw[if_neg h];exact Ji.mpr ⟨h,dd_nodup r⟩
theorem xp:∀l,(dd l).length<=l.length
 | []=>y4 _
 |x::r=>by
  show(if x∈dd r then dd r else x::dd r).length<=_;have:=xp r
  grind
def But(ws:List Addr)(s s':Shared):Prop:=
 ∃h' tk,s'={ s with heap:=h',toks:=tk }/\∀b o,b∉ws->s.heap.get? b=some o->h'.get? b=some o
theorem But.on(x:But ws s s')(y:But vs s' Y)(hs:∀b∈ws,b∈vs):But vs s Y:=by
 refine cf x λh1 t1 J k1=>?_
 subst J;refine cf y λh2 t2 J k2=>?_
 subst J;exact⟨h2,t2,rfl,λb o Z e=>k2 b o Z (k1 b o (λz=>Z (hs b z)) e)⟩
section
variable{P:Program}{w:World}{A:Around}{R:Result->Shared->Prop}{I S:Addr}{fp wr:List Addr}{n:Nat}{Pv:Nat->Value->Prop}{St:Nat->Heap->Prop}
noncomputable abbrev upd (S I:Addr):Code:=.builtin "set.update.loop" ⟨[.ref S,.ref I],[]⟩
def qP (h:wpAny (model P w) A.in1 (pyNext (.ref I)) (λv s'=>match v with
   |none=>R (.ok (.ret .none)) s'
   |some x=>wpAny (model P w) A.in1 (setAdd S x) (λ_ J=>codeAny (model P w) A (upd S I) R J) (λe J=>R (.error e) J) s') (λe s'=>R (.error e) s') s) :
  codeAny (model P w) A (upd S I) R s:=by
 have Y:=PyProof.Rows.F.plain_set_update_loop;apply LF PyProof.Rows.F.entry_set_update_loop;rw[LG Y];apply gf (m:=pyNext _);refine Jn h (λv s' hv=>?_) λ_ _ x=>x
 cases v with
 |none=>exact oe hv
 |some x =>
  refine gf (Jj (Jn hv (λ_ J hc=>?_) λ_ _ x=>x));exact oe ⟨L5 Y _,hc⟩
def add_int(g:cA P w s.heap S ks)(room:ks.length+1<scanBound) 
  (h:∀b s',But [S] s s'->cA P w s'.heap S (if k∈ks then ks else k::ks)->(∀b,b≠S->s'.heap.get? b=s.heap.get? b)->Q b s'):wpAny (model P w) B (setAdd S (.int k t)) Q E s:=by
 refine Jj (gf ((intKind P w).pyHash (Md _ _ _ _) ?_));refine oD g room λh' b J g'=>h b _ ⟨h',_,rfl,λc o hc e=>?_⟩ g' λc hc=>?_
 .rw[J.2 c (by simpa using hc)];exact e
 .exact J.2 c hc
theorem ug(W:Walks P w A.in1 I fp wr n Pv St)(Z:S∉fp)(xs:List Int)(hn:xs.length=n)(hv:∀i v,Pv i v->∃t,v=.int (xs.getD i 0) t)(hb:n+1<scanBound) :
  ∀m i s,i+m=n->St i s.heap->cA P w s.heap S (dd (xs.take i).reverse)->(∀s',But (S::wr) s s'->cA P w s'.heap S (dd xs.reverse)->R (.ok (.ret .none)) s') ->
   codeAny (model P w) A (upd S I) R s
 |0,i,s,e,st,g,h=>by
  have hi:i=n:=e;subst hi;refine qP (W.done s _ _ st λh' tk kp=>h _ ⟨h',tk,rfl,λb o J=>kp b o λz=>J (.tail _ z)⟩ ?_);rw[L9 (by simp[*])]at g;exact g.at λo=>kp S o λz=>Z (W.sub S z)
 |m+1,i,s,e,st,g,h=>by
  have hi:i<n:=by omega
  refine qP (W.item i s _ _ hi st λv h1 Y pv ac kp=>?_);obtain⟨t,rfl⟩:=hv i v pv;have b1:But wr s { s with heap:=h1,toks:=Y }:=⟨h1,Y,rfl,kp⟩;have l:(dd (xs.take i).reverse).length+1<scanBound:=by
   have:=xp (xs.take i).reverse;simp at this;omega
  refine add_int (g.at λo=>kp S o λz=>Z (W.sub S z)) l λ_ s2 b2 g2 ao=>?_
  refine ug W Z xs hn hv hb m _ s2 (by omega) (W.frame _ h1 _ ac λb J o e'=>?_) ?_ λs3 b3 g3=>h s3 ?_ g3
  .rw[ao b λz=>Z (z▸J)];exact e'
  .have:xs.take (i+1)=xs.take i++[xs.getD i 0]:=by
    simp_all
   rw[this,reverse_append];exact g2
  .exact(b1.on (b2.on b3 (by simp)) λb z=>.tail _ z)
end
section
variable{P:Program}{w:World}{A:Around}{E:Value->Shared->Prop}{s:Shared}
def di(h:Q (byT w) s):wpAny (model P w) A setsByText Q E s:=
  gf (Mo (oe h))
noncomputable abbrev bq (w:World):Obj:={ cls:=.type "set",dict:=none,data:=.set #[] 0 (.fresh 0 0 (!byT w)) }
noncomputable abbrev bj(w:World)(s:Shared):Shared:={ s with heap:=s.heap.push (bq w) }
def pI (h:Q (.ref s.heap.objs.size) (bj w s)):wpAny (model P w) A (newSet (.type "set")) Q E s:=by
 refine gf (di ?_);exact gf (wpAny_alloc (oe h))
def qQ(h:Heap):cA P w (h.push (bq w)) h.objs.size []:=
 Arr.set (es:=#[]) (ep:=0) ⟨λe J=>by simp at J,by simp,KI,by decide,rfl,Gd.fresh _⟩ (IH _ rfl) ⟨rfl,rfl,rfl⟩ rfl
def Aw (x) {Q:Value->Shared->Prop} (h:Q (.ref s.heap.objs.size) (bj w s)):codeAny (model P w) A (.call (.builtin "set.__new__") ⟨[.type "set",x],[]⟩) (wants Q E) s:=by
 refine codeAny_call_builtin PySem.F.plain_set_new PySem.F.entry_set_new (LS (PySem.F.newCall_set_1 x) ?_);have cls:∀{R}{F},R (.type "set",[x]) s->wpAny (model P w) A.in1 (Builtin.Frozenset.newClass "set" ⟨[.type "set",x],[]⟩) R F s:=by
  intro R F Y;have J:=sub_set_self
  wp_walk
  exact Y
 exact gf (cls (gf (pI (oe h))))
def xq(x){Q:Value->Shared->Prop}
  (hU:∀B,B.handled=A.handled->wpAny (model P w) B (Builtin.Frozenset.updateFrom "set.__init__" s.heap.objs.size x) (λ_ s'=>Q (.ref s.heap.objs.size) s') E (bj w s)) :
  wpAny (model P w) A (call (.type "set") [x]) Q E s:=by
 have Y:(bj w s).heap.get? s.heap.objs.size=some (bq w):=IH _ rfl;have init:codeAny (model P w) A.in1 (.call (.builtin "set.__init__") ⟨[.ref s.heap.objs.size,x],[]⟩) (wants (λr s'=>r=.none/\Q (.ref s.heap.objs.size) s') E) (bj w s):=by
  refine codeAny_call_builtin PySem.F.called_set.init.plain PySem.F.entry_set_init (check_set_init_1 ⟨_,Y,rfl⟩ ?_);have hu:=hU A.in1.in1 (by simp);generalize hw:bj w s=s1 at Y hu ⊢;generalize s.heap.objs.size=S at Y hu ⊢;obtain⟨hp,g,d,tk,os⟩:=s1;unfold Builtin.«set.__init__» noKeywords;generalize Builtin.Frozenset.updateFrom=U at hu ⊢
  wp_walk
  exact Jn hu (λ_ s' hq=>oe ⟨rfl,hq⟩) λ_ _ z=>z
 have Z:=PySem.F.called_set;refine wpAny_call (codeAny_of_tree (oe ⟨Code.quiet_builtin _ (by decide +kernel),LF PySem.F.entry_type_call ?_⟩));rw[Around.under_plain (weight_type_call_type "set" [x] []) rfl];have f1:=Z.notType;have f2:=Z.canCreate;have f3:=Z.made;have f4:=Z.sub
 have f5:=PySem.F.typeCall_set_1 x;refine iI Z.mro λc tl f6=>?_
 repeat (any_goals (first|assumption|wp_step))
 refine KZ (Aw x (E:=E) (Q:=λv s'=>v=.ref s.heap.objs.size/\s'=bj w s) ⟨rfl,rfl⟩) λr s1 J=>?_
 match r,J with
 | .error e,J=>exact J
 | .ok (.ret v),J =>
  obtain⟨rfl,rfl⟩:=J;have f7:Shared.TypeIs (bj w s) (.ref s.heap.objs.size) "set":=⟨_,Y,rfl⟩;have f8:=Z.init.lookup;have f9:=Z.init.bind (.ref s.heap.objs.size)
  repeat (any_goals (first|assumption|wp_step))
  refine KZ init λr s2 J=>?_
  match r,J with
  | .error e,J=>exact J
  | .ok (.ret v),J =>
   obtain⟨rfl,hq⟩:=J;show wpAny _ A.in1 (pure (some Value.none)) _ _ _;exact oe (oe hq)
def mi {o:Obj} (x:s.heap.get? l=some o) (hc:o.cls=.type J) (hd:(Value.type J==.type "dict")=false)
  (Z:isSubtype (.type J) (.type "set")=pure false) (ac:isSubtype (.type J) (.type "frozenset")=pure false)
  {ns:List Int}{Pv:Nat->Value->Prop}{St:Nat->Heap->Prop} (hv:∀i v,Pv i v->∃t,v=.int (ns.getD i 0) t) (Y:ns.length+1<scanBound) {io:Obj}
  (W:∀B,B.handled=A.handled->Walks P w B ((bj w s).heap.objs.size) [(bj w s).heap.objs.size,l] [(bj w s).heap.objs.size] ns.length Pv St)
  (it:∀B E' R,R (.ref (bj w s).heap.objs.size) { s with heap:=(bj w s).heap.push io }->wpAny (model P w) B (pyIter (.ref l)) R E' (bj w s))
  (st:St 0 ((bj w s).heap.push io)) {Q:Value->Shared->Prop}
  (h:∀h' tk,cA P w h' s.heap.objs.size (dd ns.reverse)->(∀b o,s.heap.get? b=some o->h'.get? b=some o)->Q (.ref s.heap.objs.size) { s with heap:=h',toks:=tk }) :
  wpAny (model P w) A (call (.type "set") [.ref l]) Q E s:=by
 have z1:(bj w s).heap.objs.size=s.heap.objs.size+1:=Jf ..;have ar:∀b,b<s.heap.objs.size->b∉[s.heap.objs.size,(bj w s).heap.objs.size]:=λb Y=>by
  rw[z1];simp only[IM,Kc,KR,not_or];exact⟨IP Y,IP (Jk Y)⟩
 have kept:∀b o,s.heap.get? b=some o->((bj w s).heap.push io).get? b=some o:=λb o e=>ox _ (ox _ e)
 refine xq _ λB hB=>?_
 have hT:(bj w s).TypeIs (.ref l) J:=⟨o,ox _ x,hc⟩;refine gf (gf (J9 hT Z ?_));refine J9 hT ac ?_;rw[if_neg tf];refine gf (Lk hT ?_);rw[hd,if_neg tf];refine gf (it _ _ _ (gf (wpAny_runValue ?_)));have hS:s.heap.objs.size∉[(bj w s).heap.objs.size,l]:=by
  have:=IG x;rw[z1];simp only[IM,Kc,KR,not_or];exact⟨IP (KG _),J4 this⟩
 refine ug (W _ hB) hS ns rfl hv Y ns.length 0 _ (Nat.add_comm _ _) st ((qQ s.heap).at λo e=>ox _ e) ?_;rintro s' ⟨h',tk,rfl,kp⟩ g;exact oe (h h' tk g λb o e=>kp b o (ar b (IG e)) (kept b o e))
def set_list 
  (Y:A.handled=none) (Z:s.heap.IsList l items) (hi:IntsAre items.toList ns) (hb:items.size+1<scanBound)
  (h:∀h' tk,cA P w h' s.heap.objs.size (dd ns.reverse)->(∀b o,s.heap.get? b=some o->h'.get? b=some o)->Q (.ref s.heap.objs.size) { s with heap:=h',toks:=tk }) :
  wpAny (model P w) A (call (.type "set") [.ref l]) Q E s:=by
 have z:items.size=ns.length:=by simpa using IntsAre.length hi
 refine aQ Z λo ho hc hr=>?_
 have J:(bj w s).heap.IsList l items:=⟨o,ox _ ho,hc,hr⟩;refine mi ho hc (by decide) PySem.F.sub_list_set PySem.F.sub_list_frozenset (lr hi) (z▸hb) (λB hB=>z▸Walks.list (hB.trans Y) _ l ?_ items)
  (λB E' R=>KS J) ⟨⟨_,IH _ rfl,rfl,rfl⟩,J.push _⟩ h
 exact IP (Nat.lt_of_lt_of_eq (Jk (IG ho)) (Jf ..).symm)
def vG 
  (Y:A.handled=none) (Z:s.heap.IsTuple l items) (hi:IntsAre items.toList ns) (hb:items.size+1<scanBound)
  (h:∀h' tk,cA P w h' s.heap.objs.size (dd ns.reverse)->(∀b o,s.heap.get? b=some o->h'.get? b=some o)->Q (.ref s.heap.objs.size) { s with heap:=h',toks:=tk }) :
  wpAny (model P w) A (call (.type "set") [.ref l]) Q E s:=by
 have z:items.size=ns.length:=by simpa using IntsAre.length hi
 refine aQ Z λo ho hc hr=>?_
 have J:(bj w s).heap.IsTuple l items:=⟨o,ox _ ho,hc,hr⟩;refine mi ho hc (by decide) PySem.F.sub_tuple_set PySem.F.sub_tuple_frozenset (lr hi) (z▸hb) (λB hB=>z▸Walks.tuple (hB.trans Y) _ l ?_ items)
  (λB E' R=>Lh J) ⟨⟨_,IH _ rfl,rfl,rfl⟩,J.push _⟩ h
 exact IP (Nat.lt_of_lt_of_eq (Jk (IG ho)) (Jf ..).symm)
end
set_option maxRecDepth 100000 in
def mj:entryFor table "set.__iter__"=some Builtin.«frozenset.__iter__»:=
 entryFor_alias (id':="frozenset.__iter__") (by kernel_rfl) rfl (by decide +kernel) (by kernel_rfl)
set_option maxRecDepth 100000 in
def oE:Manifest.owners.lookup (String.ofList ['r','o','t','a','r','e','t','i','_','t','e','s'].reverse)=some Manifest.sig_set_iterator:=by kernel_rfl
set_option maxRecDepth 100000 in
def aS:Slot "set_iterator" "__next__" "set_iterator.__next__":=
 .of (owner:="set_iterator") (n:="__next__") (by rw[typeLookup_type,builtinLookup_eq_fast];kernel_rfl) (by decide +kernel) (by decide +kernel) (by decide +kernel)
  (by first|exact .inl (by decide +kernel)|exact .inr (by decide +kernel)) (by rw[isSubtype_type];kernel_rfl)
set_option maxRecDepth 100000 in
def dz:entryFor table "set_iterator.__next__"=some Builtin.«set_iterator.__next__»:=entryFor_of_tree (by kernel_rfl)
set_option maxRecDepth 100000 in
def dP (a):argsOk "set_iterator.__next__" ⟨[a],[]⟩:=by
 unfold argsOk;rw[signature?_of (n:=['_','_','t','x','e','n','_','_']) (by kernel_rfl) oE];kernel_rfl
set_option maxRecDepth 100000 in
def iK:Slot "set_iterator" "__iter__" "set_iterator.__iter__":=
 .of (owner:="set_iterator") (n:="__iter__") (by rw[typeLookup_type,builtinLookup_eq_fast];kernel_rfl) (by decide +kernel) (by decide +kernel) (by decide +kernel)
  (by first|exact .inl (by decide +kernel)|exact .inr (by decide +kernel)) (by rw[isSubtype_type];kernel_rfl)
set_option maxRecDepth 100000 in
def ml:entryFor table "set_iterator.__iter__"=some Builtin.«dict_keyiterator.__iter__»:=
 entryFor_alias (id':="dict_keyiterator.__iter__") (by kernel_rfl) rfl (by decide +kernel) (by kernel_rfl)
set_option maxRecDepth 100000 in
def nL (a):argsOk "set_iterator.__iter__" ⟨[a],[]⟩:=by
 unfold argsOk;rw[signature?_of (n:=['_','_','r','e','t','i','_','_']) (by kernel_rfl) oE];kernel_rfl
def xr {s:Shared}{I:Addr}{Q:Value->Shared->Prop} (J:s.TypeIs (.ref I) "set_iterator") (h:Q (.ref I) s):wpAny (model P w) A (pyIter (.ref I)) Q E s:=by
 refine Ma J iK (Jh iK J ml ?_ (nL _));exact oe ⟨_,rfl,"set_iterator",_,J,aS.lookup,h⟩
theorem gx{α:Type}:∀{l}{i}{x:α},l[i]?=some x->(x::l.eraseIdx i).Perm l
 | [],i,x,h=>by injection h
 |a::l,0,x,h=>by
  simp_all
 |a::l,i+1,x,h=>by
  have h':l[i]?=some x:=by simpa using h
  exact(Perm.swap a x _).trans (.cons a (gx h'))
theorem uh(next):∀J k left (out:Array α),J=left.length->(pickOrder.go next J k left out).toList.Perm (out.toList++left)
 |0,k,left,out,h=>by
  have:=JJ.mp h.symm;subst this;rw[Lp];exact .refl _
 |J+1,k,left,out,h=>by
  have Y:next k % left.length<left.length:=Mv _ (by omega);obtain⟨x,hx⟩:∃x,left[next k % left.length]?=some x:=⟨_,IF Y⟩;have e:pickOrder.go next (J+1) k left out=pickOrder.go next J (k+1) (left.eraseIdx (next k % left.length)) (out.push x):=by
   show(match left[next k % left.length]? with
    |some x=>pickOrder.go next J _ (left.eraseIdx _) _
    |none=>out)=_
   rw[hx]
  rw[e];refine(uh next J _ _ _ (by rw[K1 Y];omega)).trans ?_;rw[Array.toList_push,Kk];exact Perm.append_left _ (gx hx)
def oF(next)(xs:Array α):(pickOrder next xs).toList.Perm xs.toList:=by
 have:=uh next xs.size 0 xs.toList #[] (by simp);exact this
section
variable{M:Model}{A:Around}{E:Value->Shared->Prop}{s:Shared}
def sw{n:Nat}{Q:Nat->Shared->Prop}(J:n≠0)(h:∀i d',i<n->Q i { s with drawn:=d' }):wpAny M A (choose src n) Q E s:=λ_ _ _ =>
 ⟨J,h _ _ (Mv _ (Nat.pos_of_ne_zero J))⟩
theorem iT :∀n xs s {Q:List α->Shared->Prop},n=xs.length->(∀ys d',ys.Perm xs->Q ys { s with drawn:=d' })->wpAny M A (drawOrder n xs) Q E s
 |0,xs,s,Q,h,q=>by
  have:=JJ.mp h.symm;subst this;exact oe (q [] s.drawn (.refl _))
 |n+1,[],s,Q,h,q=>by injection h
 |n+1,x::r,s,Q,h,q=>by
  refine gf (sw (by simp) λi d' hi=>?_);obtain⟨y,Y⟩:∃y,(x::r)[i]?=some y:=⟨_,IF hi⟩;rw[Y];refine gf (iT n _ _ (by rw[K1 hi];simp at h ⊢;omega) λys J Z=>oe ?_);exact q (y::ys) J ((Perm.cons y Z).trans (gx Y))
end
def SIt(h:Heap)(I S:Addr)(o:Obj)(f:Value)(i n ep:Nat):Prop:=
 h.get? I=some { cls:=.type "set_iterator",dict:=none,data:=.fields #[f,.int i 0,.ref S,.int n 0,.int ep 0],slots:=#[] }/\h.get? S=some o
theorem SIt.type {s:Shared} (h:SIt s.heap I S o f i n ep):s.TypeIs (.ref I) "set_iterator":=⟨_,h.1,rfl⟩
section
variable{P:Program}{w:World}{A:Around}{E:Value->Shared->Prop}{s:Shared}
def eW(ho:s.heap.get? S=some o)(hd:o.data=.set es ep t)(J:t.fits es.size=true)(h:Q es s) :
  wpAny (model P w) A (setEntries S) Q E s:=LK ho hd J h
def oG{ep slot i:Nat}{t:SetTable}{Q:Option (Value×Nat)->Shared->Prop}(ho:s.heap.get? S=some o)(hd:o.data=.set es ep t)(J:t.fits es.size=true)(Y:byT w=true)
  (h:Q (((pickOrder (w.params.setOrder S ep) es)[i]?).map λe=>(e.2,slot)) s):wpAny (model P w) A (setNext S slot i ep) Q E s:=by
 refine gf (Je ho hd J ?_);refine gf (di ?_);rw[if_pos Y];simp only[Kr,IU,JS];refine gf ?_;refine gf (Je ho hd J ?_);refine gf (di ?_);rw[if_pos Y];refine gf (Mo (oe ?_));exact oe h
def mn{t:SetTable}{Q:Option (Value×Nat)->Shared->Prop}(ho:s.heap.get? S=some o)(hd:o.data=.set es ep t)(hf:t.fits es.size=true)(hb:byT w=false)
  (Y:(!t.plain&&decide (es.size > 1))=false) (J:t.led=true)
  (h:Q (match es[SetTable.below t.place slot]?,t.place[SetTable.below t.place slot]? with|some (_,x),some j=>some (x,j+1)|_,_=>none) s):wpAny (model P w) A (setNext S slot i ep) Q E s:=by
 refine gf (Je ho hd hf ?_);refine gf (di ?_);rw[if_neg (by rw[hb];simp)];refine JI (λZ=>absurd (show(!t.plain&&decide (es.size > 1))=true from Z) (by rw[Y];simp)) (λ_=>?_);refine gf ?_;show wpAny _ _ (if (!t.led&&!es.isEmpty)=true then _ else _) _ _ s;rw[if_neg (by rw[J];simp)];exact oe (oe h)
def xt(J:lh xs)(hi:i<xs.size):SetTable.below xs (xs.getD i 0+1)=i+1:=by
 obtain⟨h1,h2,Y⟩:=iR J _;have a:i<SetTable.below xs (xs.getD i 0+1):=by
  by_cases q:SetTable.below xs (xs.getD i 0+1)<=i
  .have:=Y i q hi;omega
  .exact(Nat.lt_of_not_le ‹_›)
 have b:SetTable.below xs (xs.getD i 0+1)<=i+1:=by
  by_cases q:i+1<SetTable.below xs (xs.getD i 0+1)
  .have:=h2 _ q;have:=J i (i+1) (y4 _) (IQ ‹_› ‹_›);omega
  .exact(LD ‹_›)
 exact(JO ‹_› ‹_›)
def sx(xs)(J:lh xs):SetTable.below xs 0=0:=by
 refine eT (iR J 0) λh1 h2 Y=>?_
 by_cases q:0<SetTable.below xs 0
 .have:=h2 0 q;omega
 .omega
end
section
variable{P:Program}{w:World}{A:Around}{E:Value->Shared->Prop}{s:Shared}{I S:Addr}{o:Obj}{es:Array (Int×Value)}{t:SetTable}{i n ep:Nat}
def nM{slot nx:Nat}{x:Value}{Q:Option Value->Shared->Prop}(J:SIt s.heap I S o (.int slot 0) i n ep)(hd:o.data=.set es ep t)(hf:t.fits es.size=true)(hn:es.size=n)(ac:S≠I)
  (ao:∀A' s' Q' E',s'.heap.get? S=some o->Q' (some (x,nx)) s'->wpAny (model P w) A' (setNext S slot i ep) Q' E' s')
  (hQ:∀h',SIt h' I S o (.int nx 0) (i+1) n ep->Heap.SameBut I s.heap h'->Q (some x) { s with heap:=h' }):wpAny (model P w) A (pyNext (.ref I)) Q E s:=by
 refine gf (K8 (JE (name:=Str.ofString "__next__") J.type aS (Jh aS J.type dz ?_ (dP _))));refine gf (m:=slotArgs "__next__" 0 _) (oe ?_);refine gf (LN J.1 rfl ?_);dsimp only;refine gf (eW J.2 hd hf ?_);rw[if_neg (by simp[hn])]
 try dsimp only
 simp only[Int.toNat_natCast];refine gf (ao _ _ _ _ J.2 ?_);refine gf (Ko J.1 (by simp) λh1 e1 Y=>?_);refine gf (Ko e1 (by simp) λh2 e2 Z=>?_);refine oe ⟨x,rfl,oe (hQ h2 ⟨?_,?_⟩ (Y.trans Z))⟩
 .exact e2
 .exact((Y.trans Z).2 S ac).trans J.2
def nO{slot:Nat}{Q:Option Value->Shared->Prop}(hh:A.handled=none)(J:SIt s.heap I S o (.int slot 0) i n ep)(hd:o.data=.set es ep t)(hf:t.fits es.size=true)(hn:es.size=n)
  (Y:∀A' s' Q' E',s'.heap.get? S=some o->Q' none s'->wpAny (model P w) A' (setNext S slot i ep) Q' E' s')
  (hQ:∀h',(∀b o,b≠I->s.heap.get? b=some o->h'.get? b=some o)->Q none { s with heap:=h' }):wpAny (model P w) A (pyNext (.ref I)) Q E s:=by
 refine gf (K8 (JE (name:=Str.ofString "__next__") J.type aS (Jh aS J.type dz ?_ (dP _))));refine gf (m:=slotArgs "__next__" 0 _) (oe ?_);refine gf (LN J.1 rfl ?_);dsimp only;refine gf (eW J.2 hd hf ?_);rw[if_neg (by simp[hn])]
 try dsimp only
 simp[Int.toNat_natCast];refine gf (Y _ _ _ _ J.2 ?_);refine gf (Ko J.1 (by simp) λh1 e1 Z=>?_);refine jX (v:=.none) (vs:=#[]) (it:=0) (Q:=λ_ _=>True) (by first|exact hh|simpa using hh) λe s' kp ⟨h',eq⟩ hT=>?_
 subst eq;refine gf (J9 hT isSubtype_stop ?_);exact oe (hQ h' λb o hb q=>kp b o ((Z.2 b hb).trans q))
def mo{pn place:Nat}{pt:Tok}{hx:Int}{x:Value}{Q:Option Value->Shared->Prop}(J:SIt s.heap I S o (.ref Tp) i n ep)(hd:o.data=.set es ep t)(hf:t.fits es.size=true)(hn:es.size=n)(Z:S≠I)
  (ac:s.heap.get? Tp=some ot) (ao:ot.data=.seq ps pn) (hp:ps[i]?=some (.int place pt)) (ar:es[place]?=some (hx,x))
  (hQ:∀h',SIt h' I S o (.ref Tp) (i+1) n ep->Heap.SameBut I s.heap h'->Q (some x) { s with heap:=h' }):wpAny (model P w) A (pyNext (.ref I)) Q E s:=by
 refine gf (K8 (JE (name:=Str.ofString "__next__") J.type aS (Jh aS J.type dz ?_ (dP _))));refine gf (m:=slotArgs "__next__" 0 _) (oe ?_);refine gf (LN J.1 rfl ?_);dsimp only;refine gf (eW J.2 hd hf ?_);rw[if_neg (by simp[hn])]
 try dsimp only
 refine gf (wpAny_seqItems ac ao ?_);simp only[Int.toNat_natCast,hp];refine gf ?_;refine gf (Je J.2 hd hf ?_);simp only[Kr,IU,JS,Int.toNat_natCast,ar];refine oe ?_;refine gf (Ko J.1 (by simp) λh1 e1 Y=>?_);refine oe ⟨x,rfl,oe (hQ h1 ⟨?_,?_⟩ Y)⟩
 .exact e1
 .exact(Y.2 S Z).trans J.2
def mq(hh:A.handled=none)(J:SIt s.heap I S o (.ref Tp) i n ep)(hd:o.data=.set es ep t)(hf:t.fits es.size=true)(hn:es.size=n)
  (Y:s.heap.get? Tp=some ot) (Z:ot.data=.seq ps pn) (hp:ps[i]?=none)
  (hQ:∀h',(∀b o,b≠I->s.heap.get? b=some o->h'.get? b=some o)->Q none { s with heap:=h' }):wpAny (model P w) A (pyNext (.ref I)) Q E s:=by
 refine gf (K8 (JE J.type aS (Jh aS J.type dz ?_ (dP _))));refine gf (oe ?_);refine gf (LN J.1 rfl ?_);dsimp only;refine gf (eW J.2 hd hf ?_);rw[if_neg (by simp[hn])]
 try dsimp only
 refine gf (wpAny_seqItems Y Z ?_);simp[Int.toNat_natCast,hp];refine gf (Ko J.1 (by simp) λh1 e1 ac=>?_);refine gf (Ko e1 (by simp) λh2 e2 ao=>?_);refine jX (v:=.none) (vs:=#[]) (it:=0) (Q:=λ_ _=>True) (by first|exact hh|simpa using hh) λe s' kp ⟨h',eq⟩ hT=>?_
 subst eq;refine gf (J9 hT isSubtype_stop ?_);exact oe (hQ h' λb o hb q=>kp b o (((ac.trans ao).2 b hb).trans q))
end
def xu(xs:List Value):(range xs.length).map (λi=>xs.getD i .none)=xs:=by
 apply Mk;intro i;by_cases q:i<xs.length
 .simp_all
 .simp_all
structure mw(P:Program)(w:World)(I:Addr)(fp:List Addr)(order:List Value)(St:Nat->Heap->Prop):Prop where
 mem:I∈fp
 ty:∀i h,St i h->∃o,h.get? I=some o/\o.cls=.type "set_iterator"
 frame:∀i h h',St i h->(∀b∈fp,∀o,h.get? b=some o->h'.get? b=some o)->St i h'
 item:∀(A:Around) i (s:Shared) (Q:Option Value->Shared->Prop) (E:Value->Shared->Prop),i<order.length->St i s.heap ->
  (∀h',St (i+1) h'->(∀b o,b≠I->s.heap.get? b=some o->h'.get? b=some o)->Q (some (order.getD i .none)) { s with heap:=h' })->wpAny (model P w) A (pyNext (.ref I)) Q E s
 done:∀(A:Around) (s:Shared) (Q:Option Value->Shared->Prop) (E:Value->Shared->Prop),A.handled=none->St order.length s.heap ->
  (∀h',(∀b o,b≠I->s.heap.get? b=some o->h'.get? b=some o)->Q none { s with heap:=h' })->wpAny (model P w) A (pyNext (.ref I)) Q E s
def mw.walks{St:Nat->Heap->Prop}(W:mw P w I fp order St)(hh:A.handled=none) :
  Walks P w A I fp [I] order.length (λi v=>v=order.getD i .none) St where
 sub:=λb J=>by rw[Jd.mp J];exact W.mem
 frame:=W.frame
 item:=λi s Q E hi st Y=>W.item A i s Q E hi st λh' Z kp=>Y _ h' s.toks rfl Z λb o J e=>kp b o (λz=>J (by rw[z];exact Jd.mpr rfl)) e
 done:=λs Q E st Y=>W.done A s Q E hh st λh' kp=>Y h' s.toks λb o J e=>kp b o (λz=>J (by rw[z];exact Jd.mpr rfl)) e
 self:=λi s Q E st h=>by
  refine ae (W.ty i _ st) λo e c=>?_
  exact xr ⟨o,e,c⟩ h
section
variable{P:Program}{w:World}{A:Around}{E:Value->Shared->Prop}{s:Shared}
def jk{l:List (Int×Value)}(h:l[i]?=some e):(l.map λe=>e.2).getD i .none=e.2:=by simp_all
set_option maxRecDepth 100000 in
def xv(ho:s.heap.get? S=some o)(b3:o.ExactSet)(hd:o.data=.set es ep t)(hb:es.size<scanBound)(hf:t.fits es.size=true)(hl:t.led=!byT w)(bT:lh t.place)
  (hQ:∀(I:Addr) h' d' fp Y St,Y.Perm (es.toList.map λe=>e.2)->(∀b o,s.heap.get? b=some o->h'.get? b=some o)->s.heap.objs.size<=I->(∀b∈fp,b=S\/s.heap.objs.size<=b)->(∀b∈fp,b<h'.objs.size) ->
   mw P w I fp Y St->St 0 h'->Q (.ref I) { s with heap:=h',drawn:=d' }):wpAny (model P w) A (pyIter (.ref S)) Q E s:=by
 have hT:s.TypeIs (.ref S) "set":=⟨o,ho,b3.1⟩;have a0:=IG ho;have b4:t.place.size=es.size:=by simp[SetTable.fits]at hf;exact hf.1
 refine Ma hT PySem.F.slot_set_iter (Jh PySem.F.slot_set_iter hT mj ?_ (PySem.F.args_set_iter_1 _));refine gf (m:=Builtin.Frozenset.slot0 "__iter__" _) (oe ?_);refine gf (m:=Builtin.Frozenset.sizeOf S) (gf (eW ho hd hf (oe ?_)));refine gf (m:=setDrawn S) ?_;refine gf (Je ho hd hf ?_);dsimp only;refine gf (di (oe ?_));have ac:∀(Y:List (Int×Value)) (fs:Nat->Nat),Y.Perm es.toList->fs 0=0 ->
   (∀A' i (s':Shared) (Q':Option (Value×Nat)->Shared->Prop) (E':Value->Shared->Prop) e,Y[i]?=some e->s'.heap.get? S=some o->Q' (some (e.2,fs (i+1))) s'->wpAny (model P w) A' (setNext S (fs i) i ep) Q' E' s') ->
   (∀A' s' Q' E',s'.heap.get? S=some o->Q' none s'->wpAny (model P w) A' (setNext S (fs Y.length) Y.length ep) Q' E' s') ->
   Q (.ref s.heap.objs.size) { s with heap:=s.heap.push { cls:=.type "set_iterator",data:=.fields #[.int 0 0,.int 0 0,.ref S,.int (es.size:Nat) 0,.int (ep:Nat) 0] } }:=by
  intro Y fs hp h0 bB b0;have cP:Y.length=es.size:=by have:=hp.length_eq;simpa using this
  refine hQ s.heap.objs.size _ s.drawn [s.heap.objs.size,S] (Y.map λe=>e.2) (λi h=>SIt h s.heap.objs.size S o (.int (fs i) 0) i es.size ep) (hp.map _) (λb o e=>ox _ e) (y4 _) (λb hb=>?_) (λb hb=>?_) ?_ ?_
  .rcases IM.mp hb with e|e
   .exact .inr (Kl e.symm)
   .exact .inl (Jd.mp e)
  .rw[Jf];rcases IM.mp hb with e|e
   .rw[e];exact KG _
   .rw[Jd.mp e];exact Jk a0
  .refine⟨.head _,λi h st=>⟨_,st.1,rfl⟩,λi h h' st k=>⟨k _ (.head _) _ st.1,k _ (.tail _ (.head _)) _ st.2⟩,λA' i s' Q' E' hi st hq=>?_,λA' s' Q' E' hh st hq=>?_⟩
   .rw[IC]at hi;obtain⟨e,he⟩:∃e,Y[i]?=some e:=⟨_,IF hi⟩;rw[jk he]at hq;refine nM (slot:=fs i) (nx:=fs (i+1)) (x:=e.2) st hd hf rfl (IP a0) (λbG bL bM bO a4 q=>bB bG i bL bM bO e he a4 q) λh' bP sb=>?_
    exact hq h' bP λb o hb q=>(sb.2 b hb).trans q
   .rw[IC]at st;exact nO (slot:=fs Y.length) hh st hd hf rfl (λbG bL bM bO a4 q=>b0 bG bL bM bO a4 q) hq
  .refine⟨?_,ox _ ho⟩;rw[h0];exact IH _ rfl
 cases a5:byT w with
 |true =>
  simp only[K9,Lo,IU,JS];refine gf (oe ?_);refine gf (Ku ho hd hf ?_);refine gf (JB (oe ⟨_,rfl,"set_iterator",_,⟨_,IH _ rfl,rfl⟩,aS.lookup,?_⟩));have q:=ac (pickOrder (w.params.setOrder S ep) es).toList (λ_=>0) (oF _ _) rfl
   (λA' i s' Q' E' e he aL q=>oG aL hd hf a5 (by rw[<- Ju,he];exact q))
   (λA' s' Q' E' aL q=>oG aL hd hf a5 (by rw[KQ (by simp)];exact q))
  simpa[rawInt]using q
 |false =>
  cases a9:(!t.plain&&decide (es.size > 1))with
  |false =>
   refine JI (λbS=>absurd (show(!false&&(!t.plain&&decide (es.size > 1)))=true from bS) (by rw[a9];simp)) (λ_=>?_);refine gf (oe ?_);refine gf (Ku ho hd hf ?_);refine gf (JB (oe ⟨_,rfl,"set_iterator",_,⟨_,IH _ rfl,rfl⟩,aS.lookup,?_⟩));have br:t.led=true:=by rw[hl,a5];rfl
   have b1:∀i,i<=t.place.size->SetTable.below t.place (match i with|0=>0|j+1=>t.place.getD j 0+1)=i:=λi hi=>by
    cases i<;>first|exact sx _ bT|exact xt bT ‹_›
   have q:=ac es.toList (λi=>match i with|0=>0|j+1=>t.place.getD j 0+1) (.refl _) rfl
    (λA' i s' Q' E' e he aL q=>mn aL hd hf a5 a9 br (by
     have hi:i<es.size:=by have:=(II.mp he).1;simpa using this
     rw[b1 i (by omega)];rw[<- Ju,he,Ky (by omega:i<t.place.size)];have e2:t.place.getD i 0=t.place[i]:=by simp[Array.getD,(by omega:i<t.place.size)]
     dsimp only at q ⊢;rw[e2]at q;exact q))
    (λA' s' Q' E' aL q=>mn aL hd hf a5 a9 br (by
     rw[b1 _ (by simp[b4]),KQ (by simp)];exact q))
   simpa[rawInt]using q
  |true =>
   refine JI (λ_=>?_) (λbS=>absurd (show(!false&&(!t.plain&&decide (es.size > 1)))=true by rw[a9];rfl) bS);refine gf (iT _ _ _ (by simp) λJ d' Z=>?_);refine gf (wpAny_newTuple ?_ (by simp;have:=Z.length_eq;simp at this;rw[this,Jw];unfold scanBound at hb;omega));refine gf (Ku (ox _ ho) hd hf ?_);refine gf (JB (oe ⟨_,rfl,"set_iterator",_,⟨_,IH _ rfl,rfl⟩,aS.lookup,?_⟩));have c0:J.length=es.size:=by have:=Z.length_eq;simpa using this
   have cc:∀p∈J,p<es.size:=λp hp=>by have:=Z.mem_iff.mp hp;simpa using this
   have cd:((s.heap.push { cls:=.type "tuple",data:=.seq (map (λ(i:Nat)=>rawInt i) J).toArray }).push { cls:=.type "set_iterator",data:=.fields #[.ref s.heap.objs.size,.int 0 0,.ref S,.int (es.size:Nat) 0,.int (ep:Nat) 0] }).get? s.heap.objs.size=some { cls:=.type "tuple",data:=.seq (map (λ(i:Nat)=>rawInt i) J).toArray }:=
    ox _ (IH _ rfl)
   have q:=hQ (s.heap.push { cls:=.type "tuple",data:=.seq (map (λ(i:Nat)=>rawInt i) J).toArray }).objs.size
    ((s.heap.push { cls:=.type "tuple",data:=.seq (map (λ(i:Nat)=>rawInt i) J).toArray }).push { cls:=.type "set_iterator",data:=.fields #[.ref s.heap.objs.size,.int 0 0,.ref S,.int (es.size:Nat) 0,.int (ep:Nat) 0] }) d'
    [(s.heap.push { cls:=.type "tuple",data:=.seq (map (λ(i:Nat)=>rawInt i) J).toArray }).objs.size,S,s.heap.objs.size]
    (J.map λp=>(es.toList.map λe=>e.2).getD p .none)
    (λi h=>SIt h (s.heap.push { cls:=.type "tuple",data:=.seq (map (λ(i:Nat)=>rawInt i) J).toArray }).objs.size S o (.ref s.heap.objs.size) i es.size ep/\h.get? s.heap.objs.size=some { cls:=.type "tuple",data:=.seq (map (λ(i:Nat)=>rawInt i) J).toArray })
    ?p1 (λb o e=>ox _ (ox _ e)) (by rw[Jf];exact Kb _) ?p2 ?p3 ?p4 ⟨⟨IH _ rfl,ox _ (ox _ ho)⟩,cd⟩
   .exact q
   case p1 =>
    have e1:(es.toList.map λe=>e.2).length=es.size:=by simp
    have h1:=Z.map λp=>(es.toList.map λe=>e.2).getD p .none
    rw[<- e1,xu]at h1;exact h1
   case p2 =>
    intro b hb;simp only[IM,Kc,KR]at hb;rcases hb with e|e|e
    .exact .inr (by rw[e,Jf];exact Kb _)
    .exact .inl e
    .exact .inr (Kl e.symm)
   case p3 =>
    intro b hb;rw[Jf];simp only[IM,Kc,KR]at hb;rcases hb with e|e|e
    .rw[e];exact KG _
    .rw[e,Jf];exact Jk (Jk a0)
    .rw[e,Jf];exact Jk (KG _)
   case p4 =>
    refine⟨.head _,λi h st=>⟨_,st.1.1,rfl⟩,λi h h' st k=>⟨⟨k _ (.head _) _ st.1.1,k _ (.tail _ (.head _)) _ st.1.2⟩,k _ (.tail _ (.tail _ (.head _))) _ st.2⟩,λA' i s' Q' E' hi st hq=>?_,λA' s' Q' E' hh st hq=>?_⟩
    .rw[IC]at hi;obtain⟨p,hp⟩:∃p,J[i]?=some p:=⟨_,IF hi⟩;have ck:=cc p (JA hp);obtain⟨e,he⟩:∃e,es.toList[p]?=some e:=⟨_,IF ck⟩;have e3:(J.map λp=>(es.toList.map λe=>e.2).getD p .none).getD i .none=e.2:=by
      rw[K2,Jb,hp];exact jk he
     rw[e3]at hq;refine mo (place:=p) (pt:=0) (hx:=e.1) (x:=e.2) st.1 hd hf rfl (by rw[Jf];exact IP (Jk a0)) st.2 rfl (by simp[hp,rawInt]) (by rw[<- Ju,he]) λh' bP sb=>?_
     exact hq h' ⟨bP,(sb.2 _ (by rw[Jf];exact IP (KG _))).trans st.2⟩ λb o hb q=>(sb.2 b hb).trans q
    .rw[IC]at st;exact mq hh st.1 hd hf rfl st.2 rfl (by simp) hq
def xw (Z:s.TypeIs (.ref r) "set") (h:Q false s):wpAny (model P w) A (Builtin.List.listLengthHint (.ref r)) Q E s:=by
 refine gf (wpAny_specialOf Z PySem.F.slot_set_len.lookup ?_);generalize Y:("set.__len__":String)=ac
 wp_delta
 rw[show splitId ac=some ("set","__len__")from by subst Y;decide +kernel];subst Y;refine gf (J9 (T:="set") (b:=true) Z (by rw[isSubtype_type];kernel_rfl) ?_);refine JI (λJ=>absurd J (by decide)) (λ_=>?_);refine JI (λ_=>?_) (λJ=>absurd (by decide +kernel) J);refine gf (Lk Z ?_);exact oe h
end
def nQ(h:ItemsOf (λi v=>v=order.getD i .none) acc order.length):acc.toList=order:=by
 obtain⟨hz,hv⟩:=h;refine Mk λi=>?_
 by_cases q:i<order.length
 .have J:i<acc.size:=by exact(by simp[*])
  have:=hv i acc[i] (Ky J)
  simp_all
 .simp_all
section
variable{P:Program}{w:World}{A:Around}{E:Value->Shared->Prop}{s:Shared}
set_option maxRecDepth 100000 in
def qR(hh:A.handled=none)(ho:s.heap.get? S=some o)(a4:o.ExactSet)(hd:o.data=.set es ep t)(hb:es.size<scanBound)(hf:t.fits es.size=true)(hl:t.led=!byT w)(bM:lh t.place)
  (h:∀h' tk d' a5,(∀b o,s.heap.get? b=some o->h'.get? b=some o)->a5.Perm (es.toList.map λe=>e.2)->R a5 { s with heap:=h',toks:=tk,drawn:=d' }) :
  wpAny (model P w) A (collect (.ref S)) R E s:=by
 have Z:=IG ho;refine gf (wpAny_runValue (LF entry_proto_collect' ?_));rw[LG PySem.F.plain_proto_collect _];refine gf (JB ?_);refine oe ⟨L5 PySem.F.plain_list_iadd _,LF entry_list_iadd' ?_⟩;rw[LG PySem.F.plain_list_iadd _];have bO:(s.heap.push { cls:=.type "list",data:=.seq ([]:List Value).toArray }).get? s.heap.objs.size=some { cls:=.type "list",data:=.seq #[] }:=IH _ rfl;show wpAny _ A.in1 (Builtin.List.listExtendWith (.ref s.heap.objs.size) (.ref S) (.ref s.heap.objs.size)) _ _ _;have a6:(s.heap.push { cls:=.type "list",data:=.seq ([]:List Value).toArray }).get? S=some o:=ox _ ho;have hT:Shared.TypeIs { s with heap:=s.heap.push { cls:=.type "list",data:=.seq ([]:List Value).toArray } } (.ref S) "set":=⟨o,a6,a4.1⟩;refine gf (Lk (T:="set") hT ?_);have q1:Builtin.List.listSameRef (.ref s.heap.objs.size) (.ref S)=false:=by simp[Builtin.List.listSameRef,J4 Z]
 have q2:(Value.type "set" == Value.type "list")=false:=by decide
 have q3:(Value.type "set" == Value.type "tuple")=false:=by decide
 simp only[q1,q2,q3,Bool.or_false,IU,JS];refine gf (xv a6 a4 hd hb hf hl bM λI h1 d1 fp Y St ac kp hI bP cS W st=>?_);have a8:(s.heap.push { cls:=.type "list",data:=.seq ([]:List Value).toArray }).objs.size=s.heap.objs.size+1:=Jf ..;have a9:s.heap.objs.size∉fp:=λhm=>by
  rcases bP _ hm with e|e
  .exact Jy _ (by rw[<- e]at Z;exact Z)
  .dsimp only at e;rw[a8]at e;exact Nat.not_succ_le_self _ e
 have bS:Y.length<=sizeLine:=by
  have:=ac.length_eq;rw[this,IC,Array.length_toList];exact Kg hb
 have bT:Shared.TypeIs { s with heap:=h1,drawn:=d1 } (.ref S) "set":=by
  refine ae hT λo e c=>?_
  exact⟨o,kp S o e,c⟩
 refine gf (Jj (xw bT ?_));have WS:=(W.walks (A:=A.in1) (by first|exact hh|simpa using hh)).toS;have fin:∀h2 c1,St 0 h2->(∀b o,b≠s.heap.objs.size->h1.get? b=some o->h2.get? b=some o)->h2.get? s.heap.objs.size=some { cls:=.type "list",dict:=none,data:=.seq #[] c1,slots:=#[] } ->
   codeAny (model P w) A (.builtin "list.extend.loop" ⟨[.ref s.heap.objs.size,.ref I,.ref s.heap.objs.size],[]⟩)
    (λr s'=>∃h' tk J c',r=.ok (.ret (.ref s.heap.objs.size))/\s'={ s with heap:=h',toks:=tk,drawn:=d1 }/\(∀b o,s.heap.get? b=some o->h'.get? b=some o) /\
     h'.get? s.heap.objs.size=some { cls:=.type "list",dict:=none,data:=.seq J c',slots:=#[] }/\J.toList=Y) { s with heap:=h2,drawn:=d1 }:=by
  intro h2 c1 b1 k2 ao;refine codeAny_extend_loopS WS bS s.heap.objs.size a9 _ Y.length 0 _ #[] c1 rfl (IY _) b1 ao (ItemsOf.nil _) λs' J c' hm aL bc=>?_
  refine⟨s'.heap,s'.toks,J,c',rfl,(by
   obtain⟨h',g',b2,c3,b3⟩:=s';have eg:g'=s.gens:=hm.gens;have ed:b2=d1:=hm.drawn;have eo:b3=s.os:=hm.os;subst eg;subst ed;subst eo;rfl),λb o e=>?_,aL,nQ bc⟩
  have br:=IP (IG e);refine hm.heap b o (λbB=>?_) (k2 b o br (kp b o (ox _ e)));rcases IM.mp bB with z|z
  .exact br z
  .have b4:=Jd.mp z;rw[b4]at e;have bG:=hI;rw[a8]at bG;exact absurd (IK (IG e) (J0 bG)) (Jy _)
 have done:∀r s',(∃h' tk J c',r=.ok (.ret (.ref s.heap.objs.size))/\s'={ s with heap:=h',toks:=tk,drawn:=d1 }/\(∀b o,s.heap.get? b=some o->h'.get? b=some o) /\
     h'.get? s.heap.objs.size=some { cls:=.type "list",dict:=none,data:=.seq J c',slots:=#[] }/\J.toList=Y) ->
   wants (λv s'=>wpAny (model P w) A (match v with
    |Value.ref a=>do
     match (<- load a).data with
      |Data.seq xs _=>pure xs.toList
      | _=>unsupported "internal:collect"
    | _=>unsupported "internal:collect") R E s') E r s':=by
  rintro r s' ⟨h',tk,J,c',rfl,rfl,k',aL,hi⟩;refine gf (wpAny_load aL ?_);exact oe (h h' tk d1 J.toList k' (by rw[hi];exact ac))
 have a0:=kp _ _ bO;refine JI (λ_=>?_) (λ_=>oe ⟨L5 PySem.F.plain_extend_loop _,KZ (fin h1 0 st (λ_ _ _ e=>e) a0) done⟩);refine gf (JT ?_);refine gf ?_;refine gf (LH a0 rfl ?_);have ao:=JN (Obj.mapSeq (·.push Value.none)) a0 rfl;refine LH (hz:=by seq_fits) ao rfl ?_;have b5:=JN (Obj.mapSeq (·.pop)) ao rfl;refine oe ⟨L5 PySem.F.plain_extend_loop _,KZ (fin _ _ ?_ (λb o hb e=>?_) b5) done⟩
 .refine W.frame 0 _ _ st λb hb o e=>?_
  have bL:b≠s.heap.objs.size:=λz=>a9 (z▸hb)
  exact(JK _ _ (JF bL)).trans ((JK _ _ (JF bL)).trans e)
 .exact(JK _ _ (JF hb)).trans ((JK _ _ (JF hb)).trans e)
end
def qS{s:Shared}{S:Addr}{ks:List Int}{R:List Value->Shared->Prop}(hh:A.handled=none)(g:cA P w s.heap S ks)
  (h:∀h' tk d' J Y,(∀b o,s.heap.get? b=some o->h'.get? b=some o)->Y.Perm ks->IntsAre J Y->R J { s with heap:=h',toks:=tk,drawn:=d' }) :
  wpAny (model P w) A (collect (.ref S)) R E s:=by
 refine bf λZq kq=>?_
 obtain⟨o,es,ep,t,ho,ac,hd,ao,ar,a3,hb,hf,Z⟩:=g;refine kq ?_;refine qR hh ho ac hd hb hf Z.led Z.rise λh' tk d' J kp hp=>h h' tk d' J (J.map numOf) kp ((hp.map numOf).trans (by rw[IZ];exact ar)) ?_
 have key:∀l,(∀v∈l,∃t,v=.int (numOf v) t)->IntsAre l (l.map numOf):=λl=>by
  induction l with
  |nil=>exact λ_=>.nil
  |cons v l ih =>
   intro hv;obtain⟨t,e⟩:=hv v (.head _);have:=IntsAre.cons (numOf v) t (ih λu hu=>hv u (.tail _ hu));rw[<- e]at this;exact this
 refine key J λv hv=>?_
 refine ae (mem_map.mp (hp.mem_iff.mp hv)) λe he aL=>?_
 subst aL;exact fY ao e he
end L2.St
namespace L2
open PySem PySem.Spec PyProof.Rows List Option
noncomputable def nR(scope osc:Scope):Scope:=
 { scope with names:=scope.names.map λ(n,k)=>if (k==.free&&osc.kind==.function&&osc.names.lookup n==some .cell)then(n,.cell)else(n,k) }
noncomputable def nS(osc:Scope)(n:Str)(k:NameKind):NameKind:=if (k==.free&&osc.kind==.function&&osc.names.lookup n==some .cell)then .cell else k
def iU(scope osc):(nR scope osc).names=scope.names.map λq=>(q.1,nS osc q.1 q.2):=by
 refine KA λq _=>?_
 obtain⟨n,k⟩:=q;show(if _=true then _ else _)=(n,nS osc n k);unfold nS;split<;>rfl
theorem fA{α J:Type}(g:Str->α->J)(y):∀names:List (Str×α),(names.map λq=>(q.1,g q.1 q.2)).lookup y=(names.lookup y).map (g y)
 | []=>rfl
 | (n,k)::r=>by
  cases hx:y==n with
  |true =>
   simp[lookup_cons,hx,map_some];rw[eq_of_beq hx]
  |false =>
   simp[lookup_cons,hx];exact fA g y r
def vH(osc)(n):nS osc n .free=.cell\/nS osc n .free=.free:=by
 unfold nS;split
 .exact .inl rfl
 .exact .inr rfl
def vI(J:k≠.cell)(h:nS osc n k=.cell\/nS osc n k=.free):k=.free:=by
 unfold nS at h;by_cases hc:(k==NameKind.free&&osc.kind==.function&&osc.names.lookup n==some .cell)=true
 .simp_all
 .simp_all
theorem iV{α:Type}{k:α}:∀{l:List (Str×α)},l.lookup y=some k->(y,k)∈l
 | [],h=>by injection h
 | (n,J)::r,h=>by
  cases hx:y==n with
  |true =>
   simp only[lookup_cons,hx]at h;rw[eq_of_beq hx,IT h];exact .head _
  |false =>
   simp[lookup_cons,hx]at h;exact .tail _ (iV h)
def vJ(h:scope.names.lookup y=some .free):(nR scope osc).names.lookup y=some .cell\/(nR scope osc).names.lookup y=some .free:=by
 rw[iU,fA,h,map_some];rcases vH osc y with e|e
 .exact .inl (by rw[e])
 .exact .inr (by rw[e])
def vK(Y:∀z∈scope.names,z.2=.cell->z.1=x)(h:(nR scope osc).names.lookup y=some .cell\/(nR scope osc).names.lookup y=some .free):(y,NameKind.free)∈scope.names\/(y=x/\scope.names.lookup x=some .cell):=by
 rw[iU,fA]at h;cases e:scope.names.lookup y with
 |none=>rw[e]at h;rcases h with h|h<;>exact aT h
 |some k =>
  rw[e,map_some]at h;have J:=iV e;by_cases hc:k=.cell
  .subst hc;have q:=Y _ J rfl;exact .inr ⟨q,by rw[<- q];exact e⟩
  .have Z:=vI hc (h.elim (λz=>.inl (IT z)) λz=>.inr (IT z));rw[Z]at J;exact .inl J
def vL(h:scope.names.lookup y=some .cell):(nR scope osc).names.lookup y=some .cell:=by
 rw[iU,fA,h,map_some];unfold nS;split
 .rfl
 .rfl
noncomputable def fK(env:Env):List (Str×NameKind)->List (Str×Addr)->List (Str×Addr)
 | [],acc=>acc
 | (n,k)::r,acc=>if k==.free then fK env r ((n,(env.cells.lookup n).getD 0)::acc)else fK env r acc
theorem jY :∀names J,(∀y∈names,y.2=.free->∃c,env.cells.lookup y.1=some c) ->
  (forIn names J λx r=>(match x with|(name,kind)=>if (kind==NameKind.free)=true then do let c <- cellOf env name;pure (ForInStep.yield ((name,c)::r))else pure (ForInStep.yield r)):Sem (List (Str×Addr)))=pure (fK env names J)
 | [],J,_=>rfl
 | (n,k)::r,J,h=>by
  rw[forIn_cons];have Z:∀y∈r,y.2=.free->∃c,env.cells.lookup y.1=some c:=λy hy=>h y (.tail _ hy)
  by_cases Y:(k==NameKind.free)=true
  .obtain⟨c,hc⟩:=h (n,k) (.head _) (eq_of_beq Y);dsimp only;rw[if_pos Y];have e1:cellOf env n=pure c:=by unfold cellOf;rw[hc]
   rw[e1];simp only[pure_bind];rw[jY r _ Z];show _=pure (if _=true then _ else _);rw[if_pos Y,hc]
   all_goals rfl
  .dsimp only;rw[if_neg Y];simp only[pure_bind];rw[jY r _ Z];show _=pure (if _=true then _ else _);rw[if_neg Y]
def mx(h:∀y∈scope.names,y.2=.free->∃c,env.cells.lookup y.1=some c):closureFor scope env=pure (fK env scope.names []):=by
 unfold closureFor;have:=jY scope.names [] h
 first
  | exact this
  | (rw[bind_pure];exact this)
  | simpa using this
theorem my :∀names J,(∀z∈names,z.2=.free->∃c,env.cells.lookup z.1=some c)->(∀c,J.lookup y=some c->env.cells.lookup y=some c) ->
  (fK env names J).lookup y=some c->env.cells.lookup y=some c
 | [],J,_,Y,e=>Y c e
 | (n,k)::r,J,h,Y,e=>by
  have hr:∀y∈r,y.2=.free->∃c,env.cells.lookup y.1=some c:=λy hy=>h y (.tail _ hy)
  have Z:(if (k==NameKind.free)=true then fK env r ((n,(env.cells.lookup n).getD 0)::J)else fK env r J).lookup y=some c:=e;by_cases hk:(k==NameKind.free)=true
  .rw[if_pos hk]at Z;refine my r _ hr (λc' q=>?_) Z;cases hx:y==n with
   |true =>
    obtain⟨c0,a0⟩:=h (n,k) (.head _) (eq_of_beq hk)
    simp_all
   |false =>
    simp[lookup_cons,hx]at q;exact Y c' q
  .rw[if_neg hk]at Z;exact my r _ hr Y Z
theorem jl :∀names J,((y,NameKind.free)∈names\/∃c,J.lookup y=some c)->∃c,(fK env names J).lookup y=some c
 | [],J,h=>by
  rcases h with h|h
  .simp at h
  .exact h
 | (n,k)::r,J,h=>by
  show ∃c,(if (k==NameKind.free)=true then fK env r ((n,(env.cells.lookup n).getD 0)::J)else fK env r J).lookup y=some c;by_cases Y:(k==NameKind.free)=true
  .rw[if_pos Y];refine jl r _ ?_;cases hx:y==n with
   |true=>exact .inr ⟨(env.cells.lookup n).getD 0,by simp[lookup_cons,hx]⟩
   |false =>
    rcases h with h|⟨c,h⟩
    .simp_all
    .exact .inr ⟨c,by simp[lookup_cons,hx];exact h⟩
  .rw[if_neg Y];refine jl r _ ?_;rcases h with h|h
   .rcases IM.mp h with z|z
    .have:=(Prod.mk.inj z).2
     simp_all
    .exact .inl z
   .exact .inr h
structure jZ(osc:Scope)(N:List Str)(scope:Scope)(x:Str)(fvs:List Str)(js:List Nat):Prop where
 cells:∀y∈scope.names,y.2=.cell->y.1=x
 once:scope.names.lookup x=some .local/\(scope.names.filter λy=>y.2==.cell)=[]\/scope.names.lookup x=some .cell/\(scope.names.filter λy=>y.2==.cell)=[(x,.cell)]
 xf:∀y∈scope.names,y.2=.free->y.1≠x
 kind:scope.kind=.function
 names:∀y∈scope.names,y.2=.local->scope.names.lookup y.1=some .local
 nd:(x::fvs).Nodup
 out:∀y∈scope.names,y.2=.free->osc.names.lookup y.1=some .cell\/osc.names.lookup y.1=some .free
 slots:(js.map λj=>N[j]?)=fvs.map some
 free:∀y∈fvs,scope.names.lookup y=some .free
structure pJ(osc:Scope)(N:List Str)(scope:Scope)(x:Str)(ys fvs:List Str)(js:List Nat):Prop where
 cells:∀y∈scope.names,y.2=.cell->y.1=x
 once:scope.names.lookup x=some .local/\(scope.names.filter λy=>y.2==.cell)=[]\/scope.names.lookup x=some .cell/\(scope.names.filter λy=>y.2==.cell)=[(x,.cell)]
 xf:∀y∈scope.names,y.2=.free->y.1≠x
 kind:scope.kind=.function
 names:∀y∈scope.names,y.2=.local->scope.names.lookup y.1=some .local
 nd:(x::(ys++fvs)).Nodup
 out:∀y∈scope.names,y.2=.free->osc.names.lookup y.1=some .cell\/osc.names.lookup y.1=some .free
 slots:(js.map λj=>N[j]?)=fvs.map some
 free:∀y∈fvs,scope.names.lookup y=some .free
theorem jZ.g{osc:Scope}{N:List Str}{scope:Scope}{x:Str}{fvs:List Str}{js:List Nat}(h:jZ osc N scope x fvs js):pJ osc N scope x [] fvs js:=⟨h.cells,h.once,h.xf,h.kind,h.names,h.nd,h.out,h.slots,h.free⟩
noncomputable def j_(scope:Scope)(x:Str)(C:Addr):List (Str×Addr):=if scope.names.lookup x=some .cell then [(x,C+1)]else []
noncomputable def Cx.blk(X:Cx)(x:Str)(fvs:List Str)(scope:Scope)(J:Shared)(Y:Hp)(C:Addr)(fp:List Addr):Cx:=
 { X with N:=x::fvs,s₀:=J,H₀:=Y,env:=compEnvC scope (j_ scope x C++fK X.env scope.names []) C X.env,outer:=X.stack,ex:=fp,fn:=λy=>decide (y=x/\scope.names.lookup x=some .cell),pn:=[],xe:=λ_ _=>False }
theorem mz :∀{names:List (Str×NameKind)}{J}{s}{Q},(names.filter λy=>y.2==.cell)=[]->Q J s ->
  wpAny M A (forIn names J λx r=>(match x with|(name,kind)=>if (kind==NameKind.cell)=true then do let c <- alloc { cls:=.type "cell",data:=.cell none };pure (ForInStep.yield ((name,c)::r))else pure (ForInStep.yield r)):Sem (List (Str×Addr))) Q E s
 | [],_,_,_,_,h=>oe h
 | (n,k)::r,J,s,Q,hf,h=>by
  rw[forIn_cons];have Y:(k==NameKind.cell)=false:=by
   simp_all
  rw[Ll (by rw[Y];decide)]at hf;dsimp only;rw[if_neg (by rw[Y];decide)];exact gf (oe (mz hf h))
theorem oH{x:Str}:∀{names:List (Str×NameKind)}{J}{s}{Q},(names.filter λy=>y.2==.cell)=[(x,.cell)] ->
  Q ((x,s.heap.objs.size)::J) { s with heap:=s.heap.push { cls:=.type "cell",data:=.cell none } } ->
  wpAny M A (forIn names J λx r=>(match x with|(name,kind)=>if (kind==NameKind.cell)=true then do let c <- alloc { cls:=.type "cell",data:=.cell none };pure (ForInStep.yield ((name,c)::r))else pure (ForInStep.yield r)):Sem (List (Str×Addr))) Q E s
 | [],_,_,_,hf,_=>vh hf
 | (n,k)::r,J,s,Q,hf,h=>by
  rw[forIn_cons];dsimp only;cases Y:(k==NameKind.cell)with
  |false =>
   rw[Ll (by rw[Y];decide)]at hf;exact gf (oe (oH hf h))
  |true =>
   rw[filter_cons_of_pos (by exact Y)]at hf;obtain⟨Z,e2⟩:=List.cons.inj hf;cases Z;exact gf (gf (wpAny_alloc (oe (mz e2 h))))
def sy{scope:Scope}{x:Str}{globals:Addr}{cl:List (Str×Addr)}{qual:Str}{env:Env}{s:Shared}{Q:Env->Shared->Prop}(hk:scope.kind=.function)
  (ho:scope.names.lookup x=some .local/\(scope.names.filter λy=>y.2==.cell)=[]\/scope.names.lookup x=some .cell/\(scope.names.filter λy=>y.2==.cell)=[(x,.cell)])
  (h:∀h' m,h'.Ns s.heap.objs.size m->(∀b u,s.heap.get? b=some u->h'.get? b=some u)->(scope.names.lookup x=some .cell->h'.IsCell (s.heap.objs.size+1) none)->Q (newEnv scope s.heap.objs.size globals (j_ scope x s.heap.objs.size++cl) qual none .none (some env) builtinsNs) { s with heap:=h' }) :
  wpAny M A (newFunctionEnv scope globals cl [] qual none .none (some env)) Q E s:=by
 rcases ho with⟨h1,h2⟩|⟨h1,h2⟩
 .refine wpAny_newFunctionEnv (λy J z=>?_) (by intro y J;simp at J) (λh' Y Z=>?_) hk
  .have:y∈scope.names.filter λy=>y.2==.cell:=JQ.mpr ⟨J,by rw[z];rfl⟩
   rw[h2]at this;cases this
  .have q:=h h' _ Y (λb u e=>Z.extBut b u (IP (IG e)) (ox _ e)) λz=>by rw[h1]at z;cases z
   unfold j_ at q
   simp_all
 .unfold newFunctionEnv;refine gf (wpAny_alloc (gf (oH h2 ?_)));have hn:=Heap.Ns.new s.heap (.type "dict");have hs:(s.heap.push { cls:=.type "dict",data:=.dict #[] }).objs.size=s.heap.objs.size+1:=Jf _ _;have q:=h ((s.heap.push { cls:=.type "dict",data:=.dict #[] }).push { cls:=.type "cell",data:=.cell none }) _ (hn.keeps λb o e=>ox _ e) (λb u e=>ox _ (ox _ e)) λ_=>⟨_,by rw[<- hs];exact IH _ rfl,rfl⟩
  unfold j_ at q;rw[if_pos h1]at q;rw[<- hs]at q;exact gf (oe (oe q))
noncomputable def mB(js:List Nat)(σ:St):St:=none::js.map λj=>(σ[j]?).join
noncomputable def vM(n:Nat)(js:List Nat)(σ:St):St:=none::(replicate n none++js.map λj=>(σ[j]?).join)
def PF(X:Cx)(ifs:List Expr)(t:TT):Prop:=
 ∀pins s (σ:St) H Q,Inv X pins σ H s->t σ H Q ->
  wpAny (model X.prog X.w) X.A (forIn ifs true λc r=>if r=true then do let ok <- isTrue c X.env (eval c X.env);pure (ForInStep.yield ok)else pure (ForInStep.yield r)) (TP X pins σ Q) X.xe s
noncomputable def CU:TT:=λ_ H Q=>Q true H
def xx :PF X [] CU:=λ_ _ _ H _ I h=>wpAny_tests_nil ⟨H,I,h⟩
def CV(h:PT X c t):PF X [c] t:=λpins s σ H Q I q=>wpAny_tests_one (h pins s σ H Q I q)
section
variable{prog:Program}{w:World}{A:Around}{R:Result->Shared->Prop}{s:Shared}
def vN{elt target iter:Expr}{ifs:List Expr}{scope:Scope}{pos:Pos}{it Y:Value}{env:Env}(J:Nat->Shared->Prop)
  (turn:∀n s,J n s->wpAny (model prog w) A (pyNext it) (λr s1=>match r with
   |none=>R (.ok .next) s1
   |some v=>wpAny (model prog w) A (letOwnedTupleGo target it v) (λ_ s2=>wpAny (model prog w) A (assign target env v) (λ_ s3 =>
     wpAny (model prog w) A (forIn ifs true λc r=>if r=true then do let ok <- isTrue c env (eval c env);pure (ForInStep.yield ok)else pure (ForInStep.yield r)) (λok Z =>
      if ok=true then wpAny (model prog w) A (eval elt env) (λx s5 =>
       wpAny (model prog w) A (call (.builtin "list.append") [Y,x]) (λ_ s6=>∃m,m<n/\J m s6) (λ_ _=>False) s5) (λ_ _=>False) Z
      else ∃m,m<n/\J m Z) (λ_ _=>False) s3) (λ_ _=>False) s2) (λ_ _=>False) s1) (λ_ _=>False) s)
  (n) (h:J n s):codeAny (model prog w) A (.compLoop (.ListComp elt [⟨target,iter,ifs,0⟩] scope pos) 0 it Y env) R s:=by
 have up:∀{α}{t}{Q:α->Shared->Prop}{E}{s},wpAny (model prog w) A t Q (λ_ _=>False) s->wpAny (model prog w) A t Q E s:=λq=>Jn q (λ_ _ z=>z) λ_ _ z=>z.elim
 refine codeAny_loop rfl J (λn s hJ=>?_) n h;show wpAny _ A ((compTurn (.ListComp elt [⟨target,iter,ifs,0⟩] scope pos) 0 it Y env).onRaise (λx=>do noteFrame x env;theTreesLotGoes x)) _ _ s;refine wpAny_noted ?_;rw[compTurn_list];refine gf (wpAny_standAt (gf (Jn (up (turn n s hJ)) (λr s1 h1=>?_) λ_ _ z=>z)));cases r with
 |none=>exact oe h1
 |some v =>
  refine gf (Jn (up h1) (λ_ s2 h2=>?_) λ_ _ z=>z);refine gf (Jn (up h2) (λ_ s3 h3=>gf (Jn (up h3) (λok Z h4=>?_) λ_ _ z=>z)) λ_ _ z=>z);cases ok<;>first|exact oe ⟨rfl,h4⟩|exact gf (gf (Jn (up h4) (λx s5 h5=>gf (Jn (up h5) (λ_ s6 h6=>oe (oe ⟨rfl,h6⟩)) λ_ _ z=>z)) λ_ _ z=>z))
end
def qT(J:It)(ac:St)(H1:Hp)(tt:TT)(te:TE)(D:Addr)(Q:VK):Prop:=
 ∃W:Nat->Nat->St->Hp->Prop,(∃m,W 0 m ac (upd H1 D (.lst [])))/\∀i m Y H',W i m Y H' ->
  (J.stop i H'/\Q (.ref D) H')\/(J.go i H'/\∃N:St->Hp->Prop,(∀Z H2,N Z H2->∃m',m'<m/\W (i+1) m' Z H2)/\∀x H2,J.yld i H' x H2 ->
   tt (Y.set 0 (some x)) H2 λb H3=>if b=true then te (Y.set 0 (some x)) H3 λy H4=>∃ys,H4 D=some (.lst ys)/\ys.length<sizeLine/\N (Y.set 0 (some x)) (upd H4 D (.lst (ys++[y])))else N (Y.set 0 (some x)) H3)
def xy(J:It)(g:TG)(ao:St)(H1:Hp)(tt:TT)(te:TE)(D:Addr)(Q:VK):Prop:=
 ∃W:Nat->Nat->St->Hp->Prop,(∃m,W 0 m ao (upd H1 D (.lst [])))/\∀i m Z H',W i m Z H' ->
  (J.stop i H'/\Q (.ref D) H')\/(J.go i H'/\∃N:St->Hp->Prop,(∀ac H2,N ac H2->∃m',m'<m/\W (i+1) m' ac H2)/\∀x H2,J.yld i H' x H2 ->
   g x Z H2 λY H3=>tt Y H3 λb H4=>if b=true then te Y H4 λy H5=>∃ys,H5 D=some (.lst ys)/\ys.length<sizeLine/\N Y (upd H5 D (.lst (ys++[y])))else N Y H4)
theorem qT.g(h:qT J Y H1 tt te D Q):xy J (hZ 0) Y H1 tt te D Q:=h
noncomputable def xz(wi:TI)(js:List Nat)(tt:TT)(te:TE):TE:=λσ H Q=>wi σ H λJ H1=>∀D,H1 D=none->qT J (mB js σ) H1 tt te D Q
section
variable{X:Cx}{elt iter:Expr}{x:Str}{px:Pos}{ifs:List Expr}{scope:Scope}{pos:Pos}{fvs:List Str}{js:List Nat}{wi:TI}{tt:TT}{te:TE}
def xA{tg:Expr}{ys:List Str}(ao:pJ X.env.scope X.N scope x ys fvs js){pins:List (Addr×Obj)}{σ:St}{H2:Hp}{Y:Shared}{it:Addr}{fp:List Addr}{tn:Nat->Heap->Prop}{J:It}{G h1:Heap}{m1}(I2:Inv X pins σ H2 Y)(T:pi X.prog X.w X.K tg J fp it tn)(bB:tn 0 Y.heap)(f2:∀b∈fp,jc X pins H2 b)
  (Z:Inv X pins σ (upd H2 Y.heap.objs.size (.lst [])) { Y with heap:=G,toks:=Y.toks }) (hG:Y.heap.push { cls:=.type "list",dict:=none,data:=.seq ([]:List Value).toArray }=G) (bL:h1.Ns G.objs.size m1) (up:∀b u,G.get? b=some u->h1.get? b=some u) (bM:scope.names.lookup x=some .cell->h1.IsCell (G.objs.size+1) none) :
  (X.blk x (ys++fvs) scope { Y with heap:=G,toks:=Y.toks } (upd H2 Y.heap.objs.size (.lst [])) G.objs.size fp).Ok/\Inv (X.blk x (ys++fvs) scope { Y with heap:=G,toks:=Y.toks } (upd H2 Y.heap.objs.size (.lst [])) G.objs.size fp) [] (vM ys.length js σ) (upd H2 Y.heap.objs.size (.lst [])) { Y with heap:=h1,toks:=Y.toks }/\tn 0 h1/\∀b∈fp,(upd H2 Y.heap.objs.size (.lst [])) b=none:=by
 have fr:∀y∈scope.names,y.2=.free->∃c,X.env.cells.lookup y.1=some c:=λy hy hk=>I2.ok.has y.1 (ao.out y hy hk)
 have sub:∀y c,(fK X.env scope.names []).lookup y=some c->X.env.cells.lookup y=some c:=λy c e=>my scope.names [] fr (λ_ q=>by injection q) e
 have hC:G.objs.size=Y.heap.objs.size+1:=by rw[<- hG,Jf]
 have ac:∀{y:Str}{c:Addr},(j_ scope x G.objs.size++fK X.env scope.names []).lookup y=some c->(y=x/\scope.names.lookup x=some .cell/\c=G.objs.size+1)\/(fK X.env scope.names []).lookup y=some c:=λ{y c} e=>by
  unfold j_ at e;by_cases q:scope.names.lookup x=some .cell
  .rw[if_pos q]at e;by_cases z:(y==x)=true
   .rw[cons_append,lookup_cons,z]at e;exact .inl ⟨eq_of_beq z,q,(IT e).symm⟩
   .rw[cons_append,lookup_cons,(Bool.not_eq_true _).mp z]at e;exact .inr e
  .rw[if_neg q]at e;exact .inr e
 have nC:(upd H2 Y.heap.objs.size (.lst [])) G.objs.size=none:=Z.hok.fresh (y4 _);have cL:G.objs.size≠X.env.locals:=J4 Z.lt;have cS:X.s₀.heap.objs.size<=G.objs.size:=Z.sz;have cC:∀y c,X.env.cells.lookup y=some c->c≠G.objs.size:=λy c e z=>by
  obtain⟨v,q⟩:=Z.cell y c e;exact absurd (show c<G.objs.size from q.lt) (by rw[z];exact Jy _)
 have cP:∀p∈X.pn++pins,p.1≠G.objs.size:=λp hp z=>absurd (show p.1<G.objs.size from IG (Z.pin p hp).1) (by rw[z];exact Jy _)
 have a8:∀b∈fp,b<Y.heap.objs.size:=λb hb=>by
  refine ae (T.obj 0 _ bB b hb) λo e _=>?_
  exact IG e
 have ok:(X.blk x (ys++fvs) scope { Y with heap:=G,toks:=Y.toks } (upd H2 Y.heap.objs.size (.lst [])) G.objs.size fp).Ok:=by
  have hb:∀b∈fp,b∉frs X.stack:=λb hb z=>(IM.mp (I2.stkSub b z)).elim (f2 b hb).2.1 (f2 b hb).2.2.1
  exact {
   mod:=Z.ok.mod
   kind:=by show(relabel scope X.env).kind=_;exact ao.kind
   glob:=Z.ok.glob
   blt:=Z.ok.blt
   above:=y4 _
   inj:=λy z c e1 e2=>by
    have lt:∀{y:Str},(fK X.env scope.names []).lookup y=some c->c<G.objs.size:=λ{y} e=>by
     obtain⟨v,q⟩:=Z.cell y c (sub y c e);exact q.lt
    rcases ac e1 with⟨a1,_,a2⟩|a1
    .rcases ac e2 with⟨b1,_,_⟩|b1
     .rw[a1,b1]
     .exact absurd (lt b1) (by rw[a2];exact JX.mpr (Kb _))
    .rcases ac e2 with⟨_,_,b2⟩|b1
     .exact absurd (lt a1) (by rw[b2];exact JX.mpr (Kb _))
     .exact Z.ok.inj y z c (sub y c a1) (sub z c b1)
   has:=λy hy=>by
    show ∃c,(j_ scope x G.objs.size++fK X.env scope.names []).lookup y=some c;unfold j_;rcases vK ao.cells hy with hm|⟨e,q⟩
    .obtain⟨c,ec⟩:=jl (env:=X.env) scope.names [] (.inl hm);by_cases q:scope.names.lookup x=some .cell
     .have z:(y==x)=false:=Ki.mpr (ao.xf _ hm rfl);exact⟨c,by rw[if_pos q,cons_append,lookup_cons,z];exact ec⟩
     .exact⟨c,by rw[if_neg q];exact ec⟩
    .subst e;exact⟨G.objs.size+1,by rw[if_pos q,cons_append,lookup_cons,KD]⟩
   cab:=λy c h e=>by
    obtain⟨h1,h2⟩:=JU h;have e':(j_ scope x G.objs.size++fK X.env scope.names []).lookup y=some c:=e;unfold j_ at e';rw[if_pos h2,h1,cons_append,lookup_cons,KD]at e';rw[<- IT e'];exact Kb _
   hd:=Z.ok.hd
   frames:=Z.ok.frames
   stk:=.inl rfl
   exf:=λb ar=>⟨IP (show b<G.objs.size from IK (a8 b ar) (by rw[hC];exact Kb _)),λy c e=>by
    rcases ac e with⟨_,_,a⟩|a
    .rw[a,hC];exact J4 (IK (a8 b ar) (IQ (Kb _) (Kb _)))
    .exact(f2 b ar).2.2.2.2.1 y c (sub y c a)⟩
   bs:=Z.bs
   bsz:=IQ Z.ok.bsz Z.sz
   noex:=λb o e ar=>by
    have q:=(f2 b ar).2.2.2.1;rcases q with q|q
    .exact Z.ok.noex b o e q
    .exact absurd (IK (IG e) (IQ Z.ok.bsz q)) (Jy _)
   exfs:=hb
   funs:=Z.stack
   frf:=Z.stkFree }
 have bS:(vM ys.length js σ).length=(x::(ys++fvs)).length:=by
  have e:=JD List.length ao.slots;simp only[IC]at e;simp[vM,e]
 have I4:Inv (X.blk x (ys++fvs) scope { Y with heap:=G,toks:=Y.toks } (upd H2 Y.heap.objs.size (.lst [])) G.objs.size fp) [] (vM ys.length js σ) (upd H2 Y.heap.objs.size (.lst [])) { Y with heap:=h1,toks:=Y.toks }:=by
  refine⟨ok,rfl,Z.bare,Un.kept up,⟨_,bL,λi y v e1 e2 e3=>?_⟩,λy c e=>?_,nC,λy c e=>(ac e).elim (λhq=>eT hq λ_ _ a=>by rw[a];exact Z.hok.fresh (Kb _)) λa=>Z.freeC y c (sub y c a),λp hp=>by simp[Cx.blk]at hp,Z.hok.kept up,bS⟩
  .cases i with
   |zero=>cases e2
   |succ i0 =>
    have a9:(ys++fvs)[i0]?=some y:=e1;have aL:(replicate ys.length none++js.map λj=>(σ[j]?).join)[i0]?=some (some v):=by simpa[vM]using e2
    by_cases a4:i0<ys.length
    .rw[Kd (by simpa using a4),LX,if_pos a4]at aL;cases aL
    rw[Ka (by simpa using LD a4),Me]at aL;rw[Ka (LD a4)]at a9;generalize i0-ys.length=i at a9 aL;have bT:fvs[i]?=some y:=a9;have hm:y∈fvs:=JA bT;have b0:=ao.free y hm;have bc:(y,NameKind.free)∈scope.names:=iV b0;have a0:(js.map λj=>(σ[j]?).join)[i]?=some (some v):=aL;rw[Jb]at a0;cases ej:js[i]? with
    |none=>rw[ej]at a0;exact aT a0
    |some j =>
     rw[ej]at a0;have a5:(σ[j]?).join=some v:=IT a0;have e4:σ[j]?=some (some v):=by
      cases q:σ[j]? with
      |none=>rw[q]at a5;exact aT a5
      |some z=>rw[q]at a5;exact JD some a5
     have e5:X.N[j]?=some y:=by
      have q:=JD (λl=>l[i]?) ao.slots;simp only[Jb,ej,bT,map_some]at q;exact IT q
     refine ae Z.loc λm hn hl=>?_
     have a6:=ao.out (y,.free) bc rfl;refine ae (hl j y v e5 e4 (.inr a6)) λu ru lk=>?_
     refine⟨u,ru,.inr ⟨?_,?_⟩⟩
     .show(relabel scope X.env).names.lookup y=_\/(relabel scope X.env).names.lookup y=_;exact vJ (osc:=X.env.scope) b0
     .obtain⟨c,ec⟩:=jl (env:=X.env) scope.names [] (.inl bc);have nx:(y==x)=false:=Ki.mpr (ao.xf _ bc rfl);refine⟨c,?_,?_⟩
      .show(j_ scope x G.objs.size++fK X.env scope.names []).lookup y=some c;unfold j_;split
       .rw[cons_append,lookup_cons,nx];exact ec
       .exact ec
      rcases lk with⟨z,_⟩|⟨_,c',c2,q⟩
      .have z':X.env.scope.names.lookup y=some .local:=z;rcases a6 with w|w
       .rw[show X.env.scope.names.lookup y=some .cell from w]at z';cases z'
       .rw[show X.env.scope.names.lookup y=some .free from w]at z';cases z'
      .have:=sub y c ec;rw[c2]at this;cases this;refine ae q λo ho hd=>?_
       exact⟨o,up _ _ ho,hd⟩
  .rcases ac e with⟨_,q,a⟩|a
   .exact⟨none,by rw[a];exact bM q⟩
   .refine cf (Z.cell y c (sub y c a)) λv o ho hd=>?_
    exact⟨v,o,up _ _ ho,hd⟩
 have c3:tn 0 h1:=T.keep 0 _ _ bB λb hb o e=>up b o (by rw[<- hG];exact ox _ e)
 have c4:∀b∈fp,(upd H2 Y.heap.objs.size (.lst [])) b=none:=λb hb=>by
  rw[az (IP (a8 b hb))];exact(f2 b hb).1
 exact⟨ok,I4,c3,c4⟩
def sB{tg:Expr}{g:TG}{ys:List Str}(br:pJ X.env.scope X.N scope x ys fvs js)(hc:X.calm=true)(hg:∀Z ac C fp,PG (X.blk x (ys++fvs) scope Z ac C fp) tg g)
  (ht:∀Z ac C fp,PF (X.blk x (ys++fvs) scope Z ac C fp) ifs tt) (he:∀Z ac C fp,PE (X.blk x (ys++fvs) scope Z ac C fp) elt te)
  {pins:List (Addr×Obj)}{σ:St}{H2:Hp}{Y:Shared}{Q:VK}{it:Addr}{fp:List Addr}{tn:Nat->Heap->Prop}{J:It}{RR:Value->Addr->Result->Shared->Prop}
  (I2:Inv X pins σ H2 Y) (T:pi X.prog X.w X.K tg J fp it tn) (cc:tn 0 Y.heap) (f2:∀b∈fp,jc X pins H2 b)
  (hh:∀D,H2 D=none->xy J g (vM ys.length js σ) H2 tt te D Q)
  (fin:∀(D C:Addr) (H':Hp) (s':Shared),Inv X pins σ H' s'->(∃m,s'.heap.Ns C m)->H' C=none->C≠X.env.locals->X.s₀.heap.objs.size<=C->(∀y c,X.env.cells.lookup y=some c->c≠C)->(∀p∈X.pn++pins,p.1≠C)->Q (.ref D) H' ->
   RR (.ref D) C (.ok .next) s') {E:Value->Shared->Prop} :
  wpAny (model X.prog X.w) X.A (newList []) (λacc s3=>wpAny (model X.prog X.w) X.A (newFunctionEnv scope X.env.globals (fK X.env scope.names []) [] X.env.qual none .none (some X.env)) (λa5 s4 =>
   codeAny (model X.prog X.w) X.A (.compStart (.ListComp elt [⟨tg,iter,ifs,0⟩] scope pos) 0 (.ref it) acc { a5 with scope:=relabel scope X.env }) (RR acc a5.locals) s4) E s3) E Y:=by
 refine JB (sy (x:=x) br.kind br.once λh1 m1 a6 a8 a9=>?_);have I3:Inv X pins σ (upd H2 Y.heap.objs.size (.lst [])) { Y with heap:=Y.heap.push { cls:=.type "list",data:=.seq ([]:List Value).toArray },toks:=Y.toks }:=I2.lnew (ys:=[]) (its:=[]) .nil (IY _);generalize hG:Y.heap.push { cls:=.type "list",dict:=none,data:=.seq ([]:List Value).toArray }=G at a6 a8 a9 I3 ⊢;obtain⟨W,⟨m0,w0⟩,turn⟩:=hh Y.heap.objs.size I2.fresh;refine fW (xA br I2 T cc f2 I3 hG a6 a8 a9) λok I4 bP cd=>?_
 have cL:G.objs.size≠X.env.locals:=J4 I3.lt;have cS:X.s₀.heap.objs.size<=G.objs.size:=I3.sz;have cC:∀y c,X.env.cells.lookup y=some c->c≠G.objs.size:=λy c e z=>by
  obtain⟨v,q⟩:=I3.cell y c e;exact absurd (show c<G.objs.size from q.lt) (by rw[z];exact Jy _)
 have cP:∀p∈X.pn++pins,p.1≠G.objs.size:=λp hp z=>absurd (show p.1<G.objs.size from IG (I3.pin p hp).1) (by rw[z];exact Jy _)
 have a0:∀{H':Hp},(∀b∈fp,H' b=none)->∀b∈fp,jc (X.blk x (ys++fvs) scope { Y with heap:=G,toks:=Y.toks } (upd H2 Y.heap.objs.size (.lst [])) G.objs.size fp) [] H' b:=λhn b hb =>
  ⟨hn b hb,(ok.exf b hb).1,ok.exfs b hb,.inl hb,(ok.exf b hb).2,λp hp=>by simp[Cx.blk]at hp⟩
 have cu:∀b∈fp,(b∈X.ex\/X.s₀.heap.objs.size<=b)/\b≠X.env.locals/\(∀x c,X.env.cells.lookup x=some c->c≠b)/\∀p∈X.pn++pins,p.1≠b:=λb hb =>
  let ⟨_,q1,_,q2,q3,q4⟩:=f2 b hb;⟨q2,q1,q3,q4⟩
 have bc:∀s5:Shared,s5={ Y with heap:=h1,toks:=Y.toks } ->
   codeAny (model X.prog X.w) X.A (.compLoop (.ListComp elt [⟨tg,iter,ifs,0⟩] scope pos) 0 (.ref it) (.ref Y.heap.objs.size) (compEnvC scope (j_ scope x G.objs.size++fK X.env scope.names []) G.objs.size X.env)) (RR (.ref Y.heap.objs.size) G.objs.size) s5:=by
  rintro s5 rfl;refine vN (λn s'=>∃i a1 H',Inv (X.blk x (ys++fvs) scope { Y with heap:=G,toks:=Y.toks } (upd H2 Y.heap.objs.size (.lst [])) G.objs.size fp) [] a1 H' s'/\tn i s'.heap/\(∀b∈fp,H' b=none)/\W i n a1 H') ?_ m0 ⟨0,_,_,I4,bP,cd,w0⟩;rintro n s6 ⟨i,a4,H6,I6,bT,b0,w6⟩;rcases turn i n a4 H6 w6 with⟨stop,qn⟩|⟨go,N,hN,step⟩
  .refine thn (T.done (X.blk x (ys++fvs) scope { Y with heap:=G,toks:=Y.toks } (upd H2 Y.heap.objs.size (.lst [])) G.objs.size fp) rfl rfl rfl hc i [] s6 a4 H6 _ I6 (a0 b0) bT stop) λr s7 hq=>qy hq λhr I7=>?_
   subst hr;have I8:Inv X pins σ H6 s7:=I3.call' (ch:=fp) I7.os I7.base I7.hok I7.bare cu;refine ae I7.loc λm hn _=>?_
   exact fin _ _ H6 s7 I8 ⟨m,hn⟩ I7.free cL cS cC cP qn
  .refine thn (T.item (X.blk x (ys++fvs) scope { Y with heap:=G,toks:=Y.toks } (upd H2 Y.heap.objs.size (.lst [])) G.objs.size fp) rfl rfl rfl hc i [] s6 a4 H6 _ I6 (a0 b0) bT go) λr s7 hq=>ae hq λu hr h7=>?_
   subst hr;refine thn h7 λ_ s8 hq=>tQ hq λx8 H8 I8 r8 y8 bG c4=>?_
   have c5:=I8.pinned (a0 c4) (T.obj _ _ bG);refine thn (hg _ _ _ _ _ s8 a4 H8 x8 u _ c5 r8 (step x8 H8 y8)) λ_ s9 hq=>cf hq λbL H9 I9 q9=>?_
   refine thn (ht _ _ _ _ _ s9 _ H9 _ I9 q9) λc6 df hq=>ae hq λdm b1 b2=>?_
   have again:∀{ar:Shared}{ao:Hp},Inv (X.blk x (ys++fvs) scope { Y with heap:=G,toks:=Y.toks } (upd H2 Y.heap.objs.size (.lst [])) G.objs.size fp) ([]++lN fp s8.heap) bL ao ar->N bL ao ->
     ∃m,m<n/\∃i a1 H',Inv (X.blk x (ys++fvs) scope { Y with heap:=G,toks:=Y.toks } (upd H2 Y.heap.objs.size (.lst [])) G.objs.size fp) [] a1 H' ar/\tn i ar.heap/\(∀b∈fp,H' b=none)/\W i m a1 H':=λ{ar ao} a3 bM=>by
    refine ae (hN _ ao bM) λm' hm dn=>?_
    refine⟨m',hm,i+1,_,ao,a3.unpinned,T.keep _ _ _ bG λb hb o e=>(a3.pin (b,o) (JR _ (JR _ (gq hb e)))).1,λb hb=>?_,dn⟩;refine ae (T.obj _ _ bG b hb) λo e d=>?_
    exact(a3.pin (b,o) (JR _ (JR _ (gq hb e)))).2.1
   cases c6 with
   |false =>
    exact again b1 b2
   |true =>
    refine thn (he _ _ _ _ _ df _ dm _ b1 b2) λy ar ⟨yv,ao,a3,ry,ys,dr,hl,bM⟩=>?_
    refine thn (eP _ ar _ ao (.ref Y.heap.objs.size) [yv] (.ref Y.heap.objs.size) [y] (λ_ b3=>N bL b3) a3 rfl (.cons ry .nil) ⟨_,ys,yv,rfl,rfl,dr,hl,bM⟩) λ_ fa hq=>ak hq λ_ b3 dt _ dV=>again dt dV
 exact codeAny_compStart_list (bc _ rfl) (T.self _ 0 _ _ _ bP (bc _ rfl))
def oI(ac:jZ X.env.scope X.N scope x fvs js)(hc:X.calm=true)
  (ht:∀Y Z C fp,PF (X.blk x fvs scope Y Z C fp) ifs tt) (he:∀Y Z C fp,PE (X.blk x fvs scope Y Z C fp) elt te)
  {pins:List (Addr×Obj)}{σ:St}{H2:Hp}{s2:Shared}{Q:VK}{it:Addr}{fp:List Addr}{tn:Nat->Heap->Prop}{J:It}{RR:Value->Addr->Result->Shared->Prop}
  (I2:Inv X pins σ H2 s2) (T:pi X.prog X.w X.K (.Name x px) J fp it tn) (aL:tn 0 s2.heap) (f2:∀b∈fp,jc X pins H2 b)
  (hh:∀D,H2 D=none->qT J (mB js σ) H2 tt te D Q)
  (fin:∀(D C:Addr) (H':Hp) (s':Shared),Inv X pins σ H' s'->(∃m,s'.heap.Ns C m)->H' C=none->C≠X.env.locals->X.s₀.heap.objs.size<=C->(∀y c,X.env.cells.lookup y=some c->c≠C)->(∀p∈X.pn++pins,p.1≠C)->Q (.ref D) H' ->
   RR (.ref D) C (.ok .next) s') {E:Value->Shared->Prop} :
  wpAny (model X.prog X.w) X.A (newList []) (λacc s3=>wpAny (model X.prog X.w) X.A (newFunctionEnv scope X.env.globals (fK X.env scope.names []) [] X.env.qual none .none (some X.env)) (λao s4 =>
   codeAny (model X.prog X.w) X.A (.compStart (.ListComp elt [⟨.Name x px,iter,ifs,0⟩] scope pos) 0 (.ref it) acc { ao with scope:=relabel scope X.env }) (RR acc ao.locals) s4) E s3) E s2:=
 sB (ys:=[]) ac.g hc (λY Z C fp=>lq (X:=X.blk x fvs scope Y Z C fp) (i:=0) (x:=x) (pos:=px) ac.nd rfl (ac.once.elim (λq=>.inl (lookup_relabel_local q.1)) λq=>.inr (vL q.1)) (ac.once.elim (λq=>.inr (lookup_relabel_local q.1)) λq=>.inl (I0 ⟨rfl,q.1⟩))) ht he I2 T aL f2 (λD hD=>(hh D hD).g) fin
def Ax(ac:jZ X.env.scope X.N scope x fvs js)(hc:X.calm=true)(hi:PI X (.Name x px) iter wi)
  (ht:∀Y Z C fp,PF (X.blk x fvs scope Y Z C fp) ifs tt) (he:∀Y Z C fp,PE (X.blk x fvs scope Y Z C fp) elt te)
  (hs:∀v,foldedSetIterable iter X.env v=pure v:=by intro _;rfl):PE X (.ListComp elt [⟨.Name x px,iter,ifs,0⟩] scope pos) (xz wi js tt te):=by
 intro pins s σ H Q I h;have fr:∀y∈scope.names,y.2=.free->∃c,X.env.cells.lookup y.1=some c:=λy hy hk=>I.ok.has y.1 (ac.out y hy hk)
 rw[eval_ListComp];refine wpAny_comprehension_free (use:=none) rfl hs (mx fr) ac.kind ac.names (thn (hi pins s σ H _ I h) λv s1 h1=>thn h1 λa4 s2 h2=>?_);refine tR h2 λit fp tn J H2 e I2 T ao f2 hh=>?_
 subst e;refine oI (RR:=λacc C=>compPost (model X.prog X.w) X.A X.xe none (EP X pins σ Q) acc C) ac hc ht he I2 T ao f2 hh λD C H' s' I' hn nC cL cS cC cP q=>?_
 obtain⟨m,hn⟩:=hn;refine⟨m,hn,λh' sb=>⟨.ref D,H',?_,rfl,q⟩⟩;exact I'.turned (t':=s'.toks) (λb o hb e=>(sb.2 b hb).trans e) nC cL (.inr cS) cC cP
def mC{py ao:Pos}(hN:X.N.Nodup)(aL:X.N[i]?=some y)(hy:Loc X.env.scope y)(ac:jZ X.env.scope X.N scope x fvs js)(hc:X.calm=true)(hi:PI X (.Name x px) iter wi)
  (ht:∀Y Z C fp,PF (X.blk x fvs scope Y Z C fp) ifs tt) (he:∀Y Z C fp,PE (X.blk x fvs scope Y Z C fp) elt te)
  (a1:swapsWith (.ListComp elt [⟨.Name x px,iter,ifs,0⟩] scope pos) (some (.Name y py)) ao.line X.env=pure true:=by rfl)
  (hs:∀v,foldedSetIterable iter X.env v=pure v:=by intro _;rfl) (hf:X.fn y=true\/X.env.scope.names.lookup y=some .local:=by first|exact .inl rfl|exact .inr rfl|assumption) :
  PS X (.Assign [.Name y py] (.ListComp elt [⟨.Name x px,iter,ifs,0⟩] scope pos) ao) (vm (xz wi js tt te) (hZ i)):=by
 intro pins s σ H D I h;have fr:∀y∈scope.names,y.2=.free->∃c,X.env.cells.lookup y.1=some c:=λy hy hk=>I.ok.has y.1 (ac.out y hy hk)
 rw[exec_Assign_Name_used _ _ _ _ a1];refine gf (wpAny_standAt (gf ?_));refine gf (thn (wpAny_comprehension_free (use:=some (assign (.Name y py) X.env)) (Q:=λ_ s'=>SP X pins D .next s') rfl hs (mx fr) ac.kind ac.names (thn (hi pins s σ H _ I h) λv s1 h1=>thn h1 λbO s2 h2=>?_)) λ_ s' q=>?_)
 .refine bf λZq kq=>?_
  refine tR h2 λit fp tn J H2 e I2 T a2 f2 hh=>?_
  subst e;refine kq ?_;refine oI (RR:=λacc C=>compPost (model X.prog X.w) X.A X.xe (some (assign (.Name y py) X.env)) (λ_ s'=>SP X pins D .next s') acc C) (Q:=λv H'=>hZ i v σ H' D.nx) ac hc ht he I2 T a2 f2 hh λD' C H' s' I' hn nC cL cS cC cP q=>?_
  obtain⟨m,hn⟩:=hn;refine wpAny_assign_Name (n8 I' hN aL hy (v:=.ref D') rfl (λa4 a5 hq=>ae hq λa sb ha=>?_) hf);have ne:C≠a:=by
   rcases ha with z|z
   .rw[z];exact cL
   .exact λw=>cC y a z w.symm
  refine⟨m,hn.sameBut sb ne,λh' a6=>?_⟩;exact⟨_,H',a5.turned (t':=a4.toks) (λb o hb e=>(a6.2 b hb).trans e) nC cL (.inr cS) cC cP,q⟩
 .exact oe (oe q)
end
abbrev qU(K:Mx)(H:Hp):List V->List (List Int)->Prop:=Paired λx J=>∃a,x=V.ref a/\SqT K H a (J.map V.int)
theorem qU.len{K:Mx}(h:qU K H xs tss):xs.length=tss.length:=Paired.length h
def aD(h:H p=none)(o):ai H (upd H p o):=λb u q=>by rw[az (bt q h)];exact q
def ai.seqT{K:Mx}(e:ai H H')(h:SqT K H a xs):SqT K H' a xs:=by
 rcases h with(h|⟨o,h⟩)|h
 .exact .inl (.inl (e _ _ h))
 .exact .inl (.inr ⟨o,e _ _ h⟩)
 .exact .inr h
section
variable{X:Cx}{pins:List (Addr×Obj)}{σ:St}{H:Hp}{s:Shared}
def Inv.laidD(I:Inv X pins σ H s)(k:∀b u,s.heap.get? b=some u->h'.get? b=some u)(J:s.heap.objs.size<=a)(new:bD X.prog X.w (upd H a o) h' a o) :
  Inv X pins σ (upd H a o) { s with heap:=h',toks:=t',drawn:=d' }:=
 I.call (g':=s.gens) (d':=d') (t':=t') (ch:=[]) (Un.laid k J (I.hok.fresh J)) (I.hok.laid k J new) I.bare λ_ z=>nomatch z
def Inv.tupInts(I:Inv X pins σ H s)(h:SqT X.K H a (ns.map V.int)):∃its,IsTup s.heap a its.toArray/\IntsAre its ns:=by
 refine aQ (I.tuple h) λits r p _=>?_
 exact⟨its,p,da r⟩
theorem Inv.tupsAt(I:Inv X pins σ H s):∀{xs}{us}{tss},qU X.K H xs tss->aF xs us->Paired (λu J=>∃a its,u=Value.ref a/\IsTup s.heap a its/\IntsAre its.toList J) us tss
 | _,_,_,.nil,.nil=>.nil
 | _,_,_,.cons ⟨a,Y,Z⟩ t,.cons r q=>by
  refine ae (I.tupInts Z) λits p hi=>?_
  rw[Y]at r;exact .cons ⟨a,its.toArray,r,p,by simpa using hi⟩ (I.tupsAt t q)
end
noncomputable def iL(P:Program)(w:World)(a:Addr)(ks:List Int):HO:=.ext λh=>St.cA P w h a ks
def qV(g:St.cA P w h a ks):bD P w H h a (iL P w a ks):=by
 refine de (id g) λo es ep t ho r=>?_
 exact⟨g,⟨o,ho⟩,λh1 h2 J k=>J.at k⟩
theorem Inv.set(I:Inv X pins σ H s)(h:H a=some (iL X.prog X.w a ks)):St.cA X.prog X.w s.heap a ks:=
 (show bD X.prog X.w H s.heap a (iL X.prog X.w a ks)from I.hok a _ h).1
section
variable{X:Cx}
def xB (hc:X.calm=true):bW X (.type "set") (λxs H Q=>∃(p:Addr) (ns:List Int),xs=[.ref p]/\(SqL X.K H p (ns.map V.int)\/SqT X.K H p (ns.map V.int))/\ns.length<=4000/\∀l,H l=none->Q (.ref l) (upd H l (iL X.prog X.w l (St.dd ns.reverse)))):=by
 intro pins s σ H xs us Q I r h;obtain⟨p,ns,rfl,J,hz,q⟩:=h;refine ae (dW r) λu Y rx=>?_
 subst Y;subst rx;have hh:=I.ok.hd hc;rcases J with J|J
 .obtain⟨its,Z,pl,_⟩:=I.list J;have hi:=da Z;have hl:=hi.length;refine St.set_list hh pl.isList (ns:=ns) hi (by simp;unfold scanBound;omega) λh' tk g kp=>?_
  exact⟨.ref s.heap.objs.size,_,I.laidD (d':=s.drawn) kp (y4 _) (qV g),rfl,q _ (I.hok.fresh (y4 _))⟩
 .obtain⟨its,Z,pl,_⟩:=I.tuple J;have hi:=da Z;have hl:=hi.length;refine St.vG hh (show s.heap.IsTuple p its.toArray from pl) (ns:=ns) hi (by simp;unfold scanBound;omega) λh' tk g kp=>?_
  exact⟨.ref s.heap.objs.size,_,I.laidD (d':=s.drawn) kp (y4 _) (qV g),rfl,q _ (I.hok.fresh (y4 _))⟩
end
namespace Srt
noncomputable def sortI(l:List Int):List Int:=gP dy l
noncomputable def sortT(l:List (List Int)):List (List Int):=gP eU l
def leT(a b:List Int):Prop:=HT.lexLt b a=false
def sortI_perm(l):(sortI l).Perm l:=eV dy l
def sortT_perm(l):(sortT l).Perm l:=eV eU l
def sortI_len(l):(sortI l).length=l.length:=(sortI_perm l).length_eq
def sortT_len(l):(sortT l).length=l.length:=(sortT_perm l).length_eq
def sortT_rises(l):(sortT l).Pairwise leT:=dY eU l
def sortI_of_perm(p:a.Perm b):sortI a=sortI b:=nJ dy p
def ui{a b:Int}:dy.kle a b ↔ a<=b:=by
 show decide _=false ↔ a<=b
 simp_all
def sortI_rises(l):(sortI l).Pairwise (· <= ·):=(dY dy l).imp λh=>ui.mp h
def sortI_id(h:l.Pairwise (· <= ·)):sortI l=l:=xl dy (h.imp λq=>ui.mpr q)
section
variable{P:Program}{w:World}{A:Around}{E:Value->Shared->Prop}{s:Shared}
def qW(J:ns.Perm ks)(hs:ns.Pairwise (· <= ·)):ns=sortI ks:=by
 refine ji dy J (hs.imp λ{a b} h=>?_);show decide _=false
 simp_all
def mD{ks:List Int}{Q:Value->Shared->Prop}(a3:ks.length<64)
  (ac:∀Q',(∀h' tk d' Y J,(∀b o,s.heap.get? b=some o->h'.get? b=some o)->J.Perm ks->IntsAre Y J->Q' Y { s with heap:=h',toks:=tk,drawn:=d' }) ->
   wpAny (model P w) A.in1 (collect x) Q' E s)
  (h:∀(h1 h':Heap) tk d' out c,(∀b o,s.heap.get? b=some o->h1.get? b=some o)->(∀b o,h1.get? b=some o->h'.get? b=some o)->h'.get? h1.objs.size=some { cls:=.type "list",data:=.seq out.toArray c } ->
   IntsAre out (sortI ks)->Q (.ref h1.objs.size) { s with heap:=h',toks:=tk,drawn:=d' }) :
  wpAny (model P w) A (call (.builtin "sorted") [x]) Q E s:=by
 refine Lf kind_sorted plain_sorted entry_sorted (args_sorted1 _) ?_;refine gf (m:=checkCount "sorted" 1 1 _) (oe ?_);refine gf (ac _ λh1 tk d1 Y J kp hp hi=>?_);have a5:=hi.length;have a6:=hp.length_eq;refine gf (LB ?_ (by rw[Jw];omega));have Z:(h1.push (seqObj "list" Y.toArray 0)).get? h1.objs.size=some (seqObj "list" Y.toArray 0):=IH _ rfl;refine gf (Jj (Jh slot_list_sort ⟨_,Z,rfl⟩ entry_list_sort (list_sort_tree Z hi (by simp[*]) λout a8 ao ar aL=>⟨_,rfl,?_⟩) (args_list_sort _)));obtain⟨c,hc⟩:=sortedHeap_at (out:=out) (vs:=Y) Z;refine oe ⟨_,rfl,h h1 _ tk d1 out.toList c kp (λb o e=>?_) ?_ ?_⟩
 .have hb:=IG e;rw[sortedHeap_old (IP hb) (by rw[Jf];exact Jk hb)];exact ox _ e
 .rw[Array.toArray_toList];exact hc
 .rw[<- qW (ar.trans hp) aL];exact ao
def mE{vs:List Value}{tss:List (List Int)}{Q:Value->Shared->Prop}(aL:vs.length<64)(hu:A.units+2<cLine)
  (hv:Paired (λu ts=>∃a its,u=Value.ref a/\IsTup s.heap a its/\IntsAre its.toList ts) vs tss)
  (ac:∀Q',(∀h',(∀b o,s.heap.get? b=some o->h'.get? b=some o)->Q' vs { s with heap:=h' })->wpAny (model P w) A.in1 (collect x) Q' E s)
  (h:∀(h1 h':Heap) (p:Array Nat) (c:Nat),(∀b o,s.heap.get? b=some o->h1.get? b=some o)->(∀b o,h1.get? b=some o->h'.get? b=some o)->h'.get? h1.objs.size=some { cls:=.type "list",data:=.seq (p.toList.map λi=>vs.getD i Value.none).toArray c } ->
   PB vs.length p->p.toList.map (λi=>tss.getD i [])=sortT tss->Q (.ref h1.objs.size) { s with heap:=h' }) :
  wpAny (model P w) A (call (.builtin "sorted") [x]) Q E s:=by
 have J:vs.length=tss.length:=Paired.length hv;refine Lf kind_sorted plain_sorted entry_sorted (args_sorted1 _) ?_;refine gf (m:=checkCount "sorted" 1 1 _) (oe ?_);refine gf (ac _ λh1 kp=>?_);refine gf (LB ?_ (by rw[Jw];omega));have Y:(h1.push (seqObj "list" vs.toArray 0)).get? h1.objs.size=some (seqObj "list" vs.toArray 0):=IH _ rfl;have at_:∀(s':Shared),(∀b o,b≠h1.objs.size->(h1.push (seqObj "list" vs.toArray 0)).get? b=some o->s'.heap.get? b=some o)->∀i,i<vs.length->∃a its,vs.getD i Value.none=.ref a/\IsTup s'.heap a its/\IntsAre its.toList (tss.getD i []):=λs' k i hi=>by
  have gen:∀{us:List Value}{Z:List (List Int)},Paired (λu ts=>∃a its,u=Value.ref a/\IsTup s.heap a its/\IntsAre its.toList ts) us Z->∀i,i<us.length->∃a its,us.getD i Value.none=.ref a/\IsTup s.heap a its/\IntsAre its.toList (Z.getD i []):=by
   intro us Z hp
   induction hp with
   |nil=>intro i hi;simp at hi
   |cons q _ ih =>
    intro i hi;cases i with
    |zero=>obtain⟨a,its,e,r⟩:=q;exact⟨a,its,by exact e,by exact r⟩
    |succ i=>obtain⟨a,its,e,r⟩:=ih i (by simpa using hi);exact⟨a,its,by exact e,by exact r⟩
  obtain⟨a,its,e,⟨o,ho,r⟩,a2⟩:=gen hv i hi;have ao:=kp a o ho;exact⟨a,its,e,⟨o,k a o (IP (IG ao)) (ox _ ao),r⟩,a2⟩
 refine gf (Jj (Jh slot_list_sort ⟨_,Y,rfl⟩ entry_list_sort (pG (O:=eU) (key:=λi=>tss.getD i []) Y aL (λh2 s' Q' k q=>oC h2 (λv hm=>?_) q) (λg a3 s' i j C k hi hj q=>?_) λp hp hr=>⟨_,rfl,?_⟩) (args_list_sort _)))
 .obtain⟨i,hi,e⟩:=Lq hm;refine ak (at_ s' k i hi) λa its e' r1 r2=>?_
  exact⟨a,its,_,by rw[<- e',<- e];simp[hi],r1,r2⟩
 .refine ak (at_ s' k i hi) λa its e r1 r2=>?_
  refine ak (at_ s' k j hj) λa' its' e' a8 a9=>?_
  rw[e,e'];exact ue a3 r1 a8 r2 a9 (show A.units+1+1<cLine from hu) q
 .obtain⟨c,hc⟩:=sortedHeap_at (out:=(p.toList.map λi=>vs.getD i Value.none).toArray) (vs:=vs) Y;have bc:PB tss.length p:=by rw[<- J];exact hp
  have br:fz (O:=eU) (λi=>tss.getD i []) p tss.length:=by rw[<- J];exact hr
  refine oe ⟨_,rfl,h h1 _ p c kp (λb o e=>?_) hc hp (CT (O:=eU) (d:=([]:List Int)) (xs:=tss) bc br)⟩;have hb:b<h1.objs.size:=IG e;rw[sortedHeap_old (IP hb) (by rw[Jf];exact Jk hb)];exact ox _ e
end
end Srt
section
variable{X:Cx}
def Inv.keptD(I:Inv X pins σ H s)(k:∀b u,s.heap.get? b=some u->h'.get? b=some u):Inv X pins σ H { s with heap:=h',toks:=t',drawn:=d' }:=
 I.call (g':=s.gens) (d':=d') (t':=t') (ch:=[]) (Un.kept k) (I.hok.kept k) I.bare λ_ z=>nomatch z
def vO:∀{vs}{ns},IntsAre vs ns->aF (ns.map V.int) vs:=jS
def CW(X:Cx):List V->Hp->VK->Prop:=λxs H Q=>∃p ks,xs=[.ref p]/\(SqL X.K H p (ks.map V.int)\/SqT X.K H p (ks.map V.int)\/H p=some (iL X.prog X.w p ks))/\ks.length<64/\∀l,H l=none->Q (.ref l) (upd H l (.lst ((Srt.sortI ks).map V.int)))
def jm (hc:X.calm=true):bW X (.builtin "sorted") (CW X):=by
 intro pins s σ H xs us Q I r h;refine iJ h λp ks ar J aL q=>?_
 subst ar;refine ae (dW r) λu a0 rx=>?_
 subst a0;subst rx;have hh:=I.ok.hd hc;refine Srt.mD (ks:=ks) aL (λQ' Y=>?_) λh1 h' tk d' out c k1 k2 e hi=>?_
 .rcases J with J|J|J
  .refine aQ (I.list J) λits r' pl hz=>?_
   obtain⟨o,ho,Z,n,hd⟩:=pl.isList;refine Kv p (.inl rfl) ho Z hd (λh' kp=>?_) (by have:=r'.length;simp only[B1]<;>omega);exact Y h' s.toks s.drawn _ ks kp (.refl _) (by simpa using da r')
  .refine aQ (I.tuple J) λits r' pl hz=>?_
   obtain⟨o,ho,Z,n,hd⟩:=pl;refine Kv p (.inr rfl) ho Z hd (λh' kp=>?_) (by have:=r'.length;simp only[B1]<;>omega);exact Y h' s.toks s.drawn _ ks kp (.refl _) (by simpa using da r')
  .exact St.qS (by first|exact hh|simpa using hh) (I.set J) λh' tk d' a2 ac kp hp hi=>Y h' tk d' a2 ac kp hp hi
 .have I1:Inv X pins σ H { s with heap:=h1,toks:=tk,drawn:=d' }:=I.keptD k1;have I2:Inv X pins σ (upd H h1.objs.size (.lst ((Srt.sortI ks).map V.int))) { s with heap:=h',toks:=tk,drawn:=d' }:=
   I1.laid (t':=tk) k2 (y4 _) (show bD X.prog X.w _ h' _ (.lst _)from⟨by rw[IC,Srt.sortI_len,Jw];omega,out,c,vO hi,e⟩)
  exact⟨.ref h1.objs.size,_,I2,rfl,q _ (I1.hok.fresh (y4 _))⟩
def CY(X:Cx):List V->Hp->VK->Prop:=λxs H Q=>∃(p:Addr) (vs:List V) (tss:List (List Int)),xs=[.ref p]/\(SqL X.K H p vs\/SqT X.K H p vs)/\qU X.K H vs tss/\tss.length<64 /\
 ∀(l:Addr) (pm:List Nat),H l=none->(∀i∈pm,i<vs.length)->pm.map (λi=>tss.getD i [])=Srt.sortT tss->Q (.ref l) (upd H l (.lst (pm.map λi=>vs.getD i .non)))
theorem oJ(h:aF vs us):∀(l:List Nat),(∀i∈l,i<vs.length)->aF (l.map λi=>vs.getD i .non) (l.map λi=>us.getD i Value.none)
 | [],_=>.nil
 |i::l,J=>by
  have hi:=J i (.head _);obtain⟨u,Z,e2⟩:=h.get (i:=i) (x:=vs[i]) (IF hi);refine .cons ?_ (oJ h l λj Y=>J j (.tail _ Y))
  simp_all
def pK (hu:X.A.units+64<cLine):bW X (.builtin "sorted") (CY X):=by
 intro pins s σ H xs us Q I r h;refine n5 h λp vs tss a0 hq ht a6 q=>?_
 subst a0;refine ae (dW r) λu a1 rx=>?_
 subst a1;subst rx;have key:∀its,aF vs its->vs.length<=sizeLine->(∀Q',(∀h',(∀b o,s.heap.get? b=some o->h'.get? b=some o)->Q' its { s with heap:=h' })->wpAny (model X.prog X.w) X.A.in1 (collect _) Q' X.xe s) ->
   wpAny _ X.A (call _ [.ref p]) (EP X pins σ Q) X.xe s:=λits J hz ao=>by
  have hl:=J.length;have a9:=ht.len;refine Srt.mE (by omega) (by omega) (I.tupsAt ht J) ao λh1 h' pm c k1 k2 e hp ho=>?_
  have ar:∀i∈pm.toList,i<vs.length:=λi hi=>by
   have:=(K7.mp hp).mem_iff.mp hi
   simp_all
  have I1:=I.kept (t':=s.toks) k1;have I2:Inv X pins σ (upd H h1.objs.size (.lst _)) { s with heap:=h' }:=
   I1.laid k2 (y4 _) (show bD X.prog X.w _ h' _ _ from⟨by have:=hp.size;rw[IC,Array.length_toList,Jw];omega,_,c,oJ J _ ar,e⟩)
  exact⟨.ref h1.objs.size,_,I2,rfl,q _ pm.toList (I1.hok.fresh (y4 _)) ar ho⟩
 rcases hq with hq|hq
 .obtain⟨its,J,pl,hz⟩:=I.list hq;obtain⟨o,ho,Y,n,hd⟩:=pl.isList;refine key its J hz λQ' Z=>Kv p (.inl rfl) ho Y hd (λh' kp=>?_) (by have:=J.length;simp[B1]<;>omega)
  have:=Z h' kp;simpa using this
 .obtain⟨its,J,pl,hz⟩:=I.tuple hq;obtain⟨o,ho,Y,n,hd⟩:=pl;refine key its J hz λQ' Z=>Kv p (.inr rfl) ho Y hd (λh' kp=>?_) (by have:=J.length;simp[B1]<;>omega)
  have:=Z h' kp;simpa using this
end
end L2
namespace L2.St
open PySem PyProof.Rows List Option
structure cg(P:Program)(w:World)(h:Heap)(a:Addr)(ks:List Int)(o:Obj)(es:Array (Int×Value))(ep:Nat)(t:SetTable):Prop where
 ho:h.get? a=some o
 ex:o.ExactSet
 hd:o.data=.set es ep t
 el:ElemsOf (intKind P w) es.toList
 pm:(es.toList.map λe=>numOf e.2).Perm ks
 nd:ks.Nodup
 bd:es.size<scanBound
 fi:t.fits es.size=true
theorem cA.w{w:World}(g:cA P w h a ks):∃o es ep t,cg P w h a ks o es ep t/\Gd (!byT w) t:=by
 refine bf λZq Z=>?_
 obtain⟨o,es,ep,t,ho,J,hd,Y,hp,hn,hb,hf,hg⟩:=g;refine Z ?_;exact⟨o,es,ep,t,⟨ho,J,hd,Y,hp,hn,hb,hf⟩,hg⟩
theorem cg.len(g:cg P w h a ks o es ep t):es.size=ks.length:=by
 have:=g.pm.length_eq;simpa using this
theorem cg.at{P:Program}{w:World}{h h':Heap}{a:Addr}{ks:List Int}{o:Obj}{es:Array (Int×Value)}{ep:Nat}{t:SetTable}(g:cg P w h a ks o es ep t)(k:∀o,h.get? a=some o->h'.get? a=some o):cg P w h' a ks o es ep t:=
 ⟨k o g.ho,g.ex,g.hd,g.el,g.pm,g.nd,g.bd,g.fi⟩
section
variable{P:Program}{w:World}{A:Around}{E:Value->Shared->Prop}{s:Shared}
variable{a:Addr}{ks:List Int}{o:Obj}{es:Array (Int×Value)}{ep:Nat}{t:SetTable}
def xC(g:cg P w s.heap a ks o es ep t)(Y:t.led=!byT w){Q:Array (Int×Value)->Shared->Prop}(h:∀J d',J.toList.Perm es.toList->Q J { s with drawn:=d' }):wpAny (model P w) A (setWalk a) Q E s:=by
 refine gf (Je g.ho g.hd g.fi ?_);refine gf (di ?_);cases Z:byT w with
 |true =>
  rw[if_pos rfl];refine gf (Mo (oe ?_));exact h _ s.drawn (oF _ _)
 |false =>
  rw[if_neg (by simp)];refine JI (λ_=>?_) (λ_=>?_)
  .refine gf (iT es.size es.toList s (by simp) λys d' hp=>?_);exact oe (h _ d' hp)
  .refine gf ?_;rw[Z]at Y;show wpAny _ _ (if (!t.led&&decide (es.size > 1))=true then _ else _) _ _ s;rw[if_neg (by rw[Y];simp)];exact oe (oe (h es s.drawn (.refl _)))
def uj:∀J,(∀b∈J,∃ks o es ep t,cg P w s.heap b ks o es ep t)->∀{Q},Q true s->wpAny (model P w) A (setsQuiet J) Q E s:=by
 intro J hs Q hq;refine gf (wpAny_forIn_list _ (λcE b s'=>(∀c∈cE,c∈J)/\b.1=none/\s'=s) _ ?_ ?_ J _ ⟨λc hc=>hc,rfl,rfl⟩)
 .rintro c cE b s' ⟨hc,hb,rfl⟩;refine Ff (hs c (hc c (.head _))) λks o es ep t g=>?_
  refine gf (LK g.ho g.hd g.fi ?_);refine gf (L0 _ (λcE b Y=>(∀e∈cE,e∈es.toList)/\b.1=none/\Y=s') _ ?_ ?_ es _ ⟨λe he=>he,rfl,rfl⟩)
  .rintro e ao b' Y ⟨he,Z,rfl⟩;obtain⟨t',q⟩:=fY g.el e (he e (.head _));obtain⟨hx,x⟩:=e;dsimp only at q ⊢;rw[q];exact oe ⟨λe' ar=>he e' (.tail _ ar),rfl,rfl⟩
  .rintro b' Y ⟨_,Z,rfl⟩;dsimp only;rw[Z];exact oe ⟨λc' aL=>hc c' (.tail _ aL),rfl,rfl⟩
 .rintro b s' ⟨_,hb,rfl⟩;dsimp only;rw[hb];exact oe hq
def xD(g:cg P w s.heap a ks o es ep t)(Z:t.led=!byT w){others:List Addr}(hs:∀b∈others,∃ks o es ep t,cg P w s.heap b ks o es ep t){Q:Array (Int×Value)->Shared->Prop}
  (h:∀J d',J.toList.Perm es.toList->Q J { s with drawn:=d' }):wpAny (model P w) A (setWalkUnseen a others none) Q E s:=by
 refine gf (Je g.ho g.hd g.fi ?_);dsimp only;refine gf (di ?_);refine JI (λ_=>?_) (λ_=>?_)
 .exact xC g Z h
 .refine gf (uj (a::others) (λb Y=>?_) ?_)
  .rcases IM.mp Y with rfl|Y
   .exact⟨_,_,_,_,_,g⟩
   .exact hs b Y
  .simp only[K9,IU,JS];refine gf (JT ?_);exact oe (h es s.drawn (.refl _))
def xE(g:cg P w s.heap a ks o es ep t)(hl:t.led=!byT w){others:List Addr}(hs:∀b∈others,∃ks o es ep t,cg P w s.heap b ks o es ep t){f:Addr}(hf:cA P w s.heap f []){Q:Array (Int×Value)->Shared->Prop}
  (h:∀Y d' h',Y.toList.Perm es.toList->Heap.SameBut f s.heap h'->cA P w h' f []->Q Y { s with drawn:=d',heap:=h' }):wpAny (model P w) A (setWalkUnseen a others (some f)) Q E s:=by
 refine gf (Je g.ho g.hd g.fi ?_);refine gf (di ?_);refine JI (λ_=>?_) (λ_=>?_)
 .exact xC g hl λY d' hp=>h Y d' s.heap hp (Ks f s.heap) hf
 .refine gf (uj (a::others) (λb hb=>?_) ?_)
  .rcases IM.mp hb with rfl|hb
   .exact⟨_,_,_,_,_,g⟩
   .exact hs b hb
  .simp only[K9,IU,JS];refine gf (JT ?_);refine de hf.w λof ef a3 Z J gd=>?_
   refine gf (Je J.ho J.hd J.fi ?_);refine JI (λ_=>?_) (λ_=>?_)
   .have ar:({ Z with led:=Z.led&&t.led,plain:=Z.plain&&t.plain }:SetTable).fits ef.size=true:=J.fi;have aL:Gd (!byT w) ({ Z with led:=Z.led&&t.led,plain:=Z.plain&&t.plain }:SetTable):=⟨by show(Z.led&&t.led)=_;rw[gd.led,hl];simp,gd.dum,gd.rise⟩;refine gf (Kt J.ho J.hd ?_ (Kg J.bd));have g2:=uf (P:=P) (w:=w) J.ho J.ex J.hd ⟨J.el,J.pm,J.nd,J.bd,ar,aL⟩;exact oe (h es s.drawn _ (.refl _) (Jx _ f _) g2)
   .exact oe (h es s.drawn s.heap (.refl _) (Ks f s.heap) hf)
def xF(g:cg P w s.heap a ks o es ep t){k:Int}{tk:Tok}{Q:Option Nat->Shared->Prop}(h:Q (es.toList.findIdx? λe=>(intKind P w).is k e.2) s):wpAny (model P w) A (setFind a (.int k tk) (hashInt k)) Q E s:=by
 have J:(intKind P w).is k (.int k tk)=true:=Md _ _ _ _;have Y:(Value.int k tk).scannable=true:=rfl;refine gf (Je g.ho g.hd g.fi ?_);dsimp only;rw[byScan_of Y g.bd g.el];simp only[↓reduceIte];refine gf (JT ?_);refine gf (wpAny_setScan_of (knd:=intKind P w) J g.ho g.hd g.fi g.el ?_);cases Z:findIdx? (λe=>(intKind P w).is k e.2) es.toList with
 |some j =>
  rw[Z]at h;dsimp only;rw[Kf];exact oe h
 |none =>
  rw[Z]at h;exact oe h
theorem cg.mem(g:cg P w s.heap a ks o es ep t) :k∈ks ↔ ∃e∈es.toList,(intKind P w).is k e.2=true:=by
 rw[<- g.pm.mem_iff,mem_map];constructor
 .rintro ⟨e,J,q⟩;exact⟨e,J,(iS g.el J k).mpr q⟩
 .rintro ⟨e,J,q⟩;exact⟨e,J,(iS g.el J k).mp q⟩
def qX(g:cg P w s.heap a ks o es ep t)(k):(es.toList.findIdx? λe=>(intKind P w).is k e.2).isSome=decide (k∈ks):=by
 rw[Jp,JP,g.mem,findIdx?_isSome,JL]
end
section
variable{P:Program}{w:World}{A:Around}{E:Value->Shared->Prop}{s:Shared}
def cg.type (g:cg P w s.heap a ks o es ep t):s.TypeIs (.ref a) "set":=⟨o,g.ho,g.ex.1⟩
def jn (J:s.TypeIs (.ref a) "set") {Q:Bool->Shared->Prop} (h:Q true s):wpAny (model P w) A (Builtin.Frozenset.isAnySet (.ref a)) Q E s:=by
 refine gf (J9 J F.sub_set_set ?_);exact oe h
def qY (J:s.TypeIs (.ref a) "set") {Q:Value->Shared->Prop} (h:Q (.type "set") s):wpAny (model P w) A (Builtin.Frozenset.baseOf a) Q E s:=by
 refine gf (J9 J F.sub_set_set ?_);exact oe h
def fZ(g:cg P w s.heap a ks o es ep t){Q:Nat->Shared->Prop}(h:Q ks.length s):wpAny (model P w) A (Builtin.Frozenset.sizeOf a) Q E s:=by
 refine gf (LK g.ho g.hd g.fi ?_);rw[<- g.len]at h;exact oe h
def CZ{id:String}{a:Addr}{ks:List Int}{o:Obj}{es:Array (Int×Value)}{ep:Nat}{t:SetTable}(g:cg P w s.heap a ks o es ep t){α:Type}{x:α}{R:α->Shared->Prop}(h:R x s):wpAny (model P w) A (Builtin.Frozenset.unchanged id a ep >>= λ_=>pure x) R E s:=by
 refine gf (gf (Ku g.ho g.hd g.fi ?_));simp only[Kr,IU,JS];exact oe (oe h)
def C0{id:String}{a b:Addr}{ks js:List Int}{Q:Value->Shared->Prop}(ga:cA P w s.heap a ks)(gb:cA P w s.heap b js)(bO:¬ ks.length / 4 > js.length)
  (h:∀h' d' J,(∀c o,s.heap.get? c=some o->h'.get? c=some o)->J.Perm (ks.filter λk=>!decide (k∈js))->cA P w h' s.heap.objs.size J->Q (.ref s.heap.objs.size) { s with heap:=h',drawn:=d' }) :
  wpAny (model P w) A (Builtin.Frozenset.difference id a (.ref b)) Q E s:=by
 refine de ga.w λoa ea cC ta wa bP=>?_
 refine de gb.w λob eb cL tb wb cP=>?_
 refine gf (jn wb.type ?_);simp only[K9,IU,JS,Lo,if_true,Builtin.Frozenset.addrOf,pure_bind];refine gf (fZ wb ?_);refine gf (fZ wa ?_);rw[if_neg bO];refine gf (qY wa.type ?_);refine gf (pI ?_);have keep:∀c o,s.heap.get? c=some o->(s.heap.push (bq w)).get? c=some o:=λc o e=>ox _ e
 have ao:=wa.at (keep a);have bS:=wb.at (keep b);have gn:cA P w (s.heap.push (bq w)) s.heap.objs.size []:=qQ _;have ha:=IP (IG wa.ho);have hb:=IP (IG wb.ho);refine gf (oe ?_);refine gf (Ku (s:={ s with heap:=s.heap.push (bq w) }) ao.ho ao.hd ao.fi ?_);refine gf (Jj ?_);refine gf (xE (s:={ s with heap:=s.heap.push (bq w) }) ao bP.led (others:=[b,s.heap.objs.size]) (λc hc=>?_) gn λar d0 h0 hp b0 g0=>?_)
 .rcases IM.mp hc with rfl|hc
  .exact⟨_,_,_,_,_,bS⟩
  .rw[Jd.mp hc];refine de gn.w λ_ _ _ _ q _=>?_
   exact⟨_,_,_,_,_,q⟩
 have a1:=wa.el.perm hp;have hK:=(hp.map _).trans wa.pm;have a6:=hK.nodup_iff.mpr wa.nd;refine gf (L0 _ (λcE _ s'=>∃dn h' d' J,dn++cE=ar.toList/\s'={ s with heap:=h',drawn:=d' }/\Heap.SameBut s.heap.objs.size (s.heap.push (bq w)) h'/\cA P w h' s.heap.objs.size J/\J.Perm ((dn.map λe:Int×Value=>numOf e.2).filter λk=>!decide (k∈js))) _ ?_ ?_ ar _ ⟨[],h0,d0,[],rfl,rfl,b0,g0,by simp⟩)
 .rintro ⟨hx,x⟩ cE u s' ⟨dn,h',d',J,e1,rfl,sb,gl,pl⟩;have Y:(hx,x)∈ar.toList:=by rw[<- e1];simp
  obtain⟨t',q⟩:=fY a1 _ Y;obtain⟨⟨k0,b1,aL⟩,_⟩:=a1 _ Y;have a3:=(iS a1 Y k0).mp b1;dsimp only at q a3 aL;generalize numOf x=k at q a3;subst q a3;have aL:=aL;subst aL;have Z:∀c o,c≠s.heap.objs.size->s.heap.get? c=some o->h'.get? c=some o:=λc o hc e=>(sb.2 c hc).trans (keep c o e)
  have bc:=wa.at λo e=>Z a o ha e
  have br:=wb.at λo e=>Z b o hb e
  have bB:numOf (Value.int k t')=k:=rfl;have b2:k∉J:=λz=>by
   have:=pl.mem_iff.mp z;have:=(JQ.mp this).1;rw[<- e1,Jo,Jc]at a6;exact(Lm.mp a6).2.2 k this k (by rw[bB];exact .head _) rfl
  refine gf (Jj ?_);refine gf (xF (s:={ s with heap:=h',drawn:=d' }) br ?_);rw[qX (s:={ s with heap:=h',drawn:=d' }) br k];by_cases hj:k∈js
  .simp only[hj,decide_true,K9,IU,JS];refine oe (CZ (s:={ s with heap:=h',drawn:=d' }) bc ⟨dn++[(hashInt k,Value.int k t')],h',d',J,by rw[Kk];exact e1,rfl,sb,gl,?_⟩)
   simp_all
  .simp only[hj,decide_false,Bool.not_false,if_true];have a4:J.length+1<scanBound:=by
    have h1:=pl.length_eq;have h2:=length_filter_le (λk=>!decide (k∈js)) (dn.map λe:Int×Value=>numOf e.2);rw[IC]at h2;have h3:ar.toList.length<scanBound:=by rw[hp.length_eq,Array.length_toList];exact wa.bd
    rw[<- e1,IX,length_cons]at h3;omega
   refine gf (oD (s:={ s with heap:=h',drawn:=d' }) gl a4 λbG b' bL g2=>?_);rw[if_neg b2]at g2;have b4:=bc.at λo e=>(bL.2 a ha).trans e
   refine oe (CZ (s:={ s with heap:=bG,drawn:=d' }) b4 ⟨dn++[(hashInt k,Value.int k t')],bG,d',k::J,by rw[Kk];exact e1,rfl,sb.trans bL,g2,?_⟩);rw[Jo,filter_append];have:filter (λk=>!decide (k∈js)) (map (λe:Int×Value=>numOf e.2) [(hashInt k,Value.int k t')])=[k]:=by simp[bB,hj]
   rw[this];exact(Perm.cons k pl).trans (Mn (l₁:=[k]))
 .rintro u s' ⟨dn,h',d',J,e1,rfl,sb,gl,pl⟩;rw[Lp]at e1;subst e1;refine oe (oe (h h' d' J (λc o e=>?_) (pl.trans (hK.filter _)) gl));exact(sb.2 c (IP (IG e))).trans (keep c o e)
end
noncomputable def itL(m:Nat):Nat->Nat->Nat
 |0,i=>i
 |t+1,i=>itL m t ((i*5+1) % (m+1))
theorem lu(m):∀a b i,itL m (a+b) i=itL m b (itL m a i)
 |0,b,i=>by rw[Kf];rfl
 |a+1,b,i=>by rw[JH];exact lu m a b _
noncomputable def f_(m:Nat):Bool:=itL m (m+1) 0==0&&(range (m+1)).all λj=>(range (m+1)).any λt=>itL m t 0==j
theorem ul(h:itL m (m+1) 0=0):∀q r,itL m (q*(m+1)+r) 0=itL m r 0
 |0,r=>by simp
 |q+1,r=>by
  have e:(q+1)*(m+1)+r=(m+1)+(q*(m+1)+r):=by rw[Nat.succ_mul];omega
  rw[e,lu,h,ul h q r]
def cov(h:f_ m=true)(hi:i<=m)(Z:j<=m):∃t,t<=m/\itL m t i=j:=by
 unfold f_ at h;rw[tr,IS,J8]at h;obtain⟨h0,h1⟩:=h;have at_:∀x,x<=m->∃t,t<=m/\itL m t 0=x:=λx hx=>by
  have:=h1 x (LV.mpr (L8 ‹_›));rw[JL]at this;refine ae this λt ht e=>?_
  exact⟨t,by have:=LV.mp ht;exact(Kj ‹_›),by simpa using e⟩
 refine ae (at_ i hi) λa ha J=>?_
 refine ae (at_ j Z) λb hb Y=>?_
 rcases Nat.lt_or_ge b a with c|c
 .obtain⟨k,rfl⟩:=Kh c;refine⟨m-k,Kx m k,?_⟩;rw[<- J,<- lu,show b+k+1+(m-k)=1*(m+1)+b by omega,ul h0,Y]
 .refine⟨b-a,IQ (Kx b a) hb,?_⟩;rw[<- J,<- lu,LJ c,Y]
def BH:f_ 7=true:=rfl
def C1:f_ 15=true:=rfl
def C2:f_ 31=true:=rfl
def C3:f_ 63=true:=by decide +kernel
def Ay:f_ 127=true:=by decide +kernel
def Az:f_ 255=true:=by decide +kernel
noncomputable def lp(m:Nat):Nat->Nat×Nat->Nat×Nat
 |0,p=>p
 |t+1,p=>lp m t (SetTable.leap m p.1 p.2)
theorem xG(m):∀a b p,lp m (a+b) p=lp m b (lp m a p)
 |0,b,p=>by rw[Kf];rfl
 |a+1,b,p=>by rw[JH];exact xG m a b _
theorem um(m):∀t i,lp m t (i,0)=(itL m t i,0)
 |0,_=>rfl
 |t+1,i=>by
  show lp m t (SetTable.leap m i 0)=_;have:SetTable.leap m i 0=((i*5+1) % (m+1),0):=by rfl
  rw[this,um m t]
  rfl
theorem BI(m):∀t p,p.1<=m->(lp m t p).1<=m
 |0,_,h=>h
 |t+1,p,_=>BI m t _ (by
  have:=Mv (p.1*5+1+p.2 / 32) (show 0<m+1 by omega);exact(Kj ‹_›))
theorem uo(m):∀t p,(lp m t p).2=p.2 / 32 ^ t
 |0,p=>by simp[lp]
 |t+1,p=>by
  show(lp m t (SetTable.leap m p.1 p.2)).2=_;rw[uo m t];show p.2 / 32 / 32 ^ t=_;rw[Nat.div_div_eq_div_mul,Nat.pow_succ,Nat.mul_comm]
theorem oK :∀J i p,SetTable.layClean.free m ow J i p=none->∀t,t<J->(ow.getD (lp m t (i,p)).1 (some 0)).isNone=false
 |0,_,_,_,t,h=>absurd h (by simp)
 |J+1,i,p,e,t,h=>by
  rw[SetTable.layClean.free]at e;split at e
  .cases e
  .rename_i q;cases t with
   |zero =>
    have:=LC.mp q 0 (LV.mpr (by unfold SetTable.runEnd;split<;>omega));exact(Bool.not_eq_true _).mp this
   |succ t=>exact oK J _ _ e t (KP ‹_›)
theorem oM :∀J i p k,SetTable.layClean.free m ow J i p=some k->(ow.getD k (some 0)).isNone=true
 |0,_,_,_,e=>aT e
 |J+1,i,p,k,e=>by
  rw[SetTable.layClean.free]at e;split at e
  .rename_i q;cases e;exact find?_some (p:=λk=>(ow.getD (i+k) (some 0)).isNone) q
  .exact oM J _ _ k e
def AA(Y:f_ m=true)(Z:j<=m)(hn:(ow.getD j (some 0)).isNone=true)(hi:i<=m)(hp:p<2 ^ 64):∃k,SetTable.layClean.free m ow (SetTable.turns m) i p=some k/\(ow.getD k (some 0)).isNone=true:=by
 cases e:SetTable.layClean.free m ow (SetTable.turns m) i p with
 |some k=>exact⟨k,rfl,oM _ _ _ _ e⟩
 |none =>
  exfalso;have q:=oK _ _ _ e;refine ae (cov Y (BI m 13 (i,p) hi) Z) λt ht et=>?_
  have z:(lp m 13 (i,p)).2=0:=by
   rw[uo];exact Nat.div_eq_of_lt (IK hp (by decide))
  have J:lp m 13 (i,p)=((lp m 13 (i,p)).1,0):=by rw[<- z]
  have:=q (13+t) (by unfold SetTable.turns;omega);rw[xG,J,um,et]at this;rw[hn]at this;exact qA this
noncomputable def vals(m:Nat)(ow:Array (Option Nat)):List Nat:=(range (m+1)).filterMap λj=>ow.getD j none
theorem xH{j k:Nat}(h1:g j=none)(h2:g' j=some k)(Y:∀x,x≠j->g' x=g x):∀l:List Nat,l.Nodup->j∈l->(l.filterMap g').Perm (k::l.filterMap g)
 | [],_,h=>by cases h
 |x::l,Z,h=>by
  obtain⟨n1,n2⟩:=Ji.mp Z;by_cases e:x=j
  .subst e;rw[LM h1,Lb h2];have:∀J:List Nat,x∉J->J.filterMap g'=J.filterMap g:=by
    intro J
    induction J with
    |nil=>intro _;rfl
    |cons y J ih =>
     intro hx;have hy:y≠x:=λz=>hx (z ▸ .head _)
     rw[filterMap_cons,filterMap_cons,Y y hy,ih λz=>hx (.tail _ z)]
   rw[this l n1]
  .have hm:=(IM.mp h).resolve_left λz=>e z.symm
   have ih:=xH h1 h2 Y l n2 hm;cases q:g x with
   |none =>
    rw[LM q,LM ((Y x e).trans q)];exact ih
   |some v =>
    rw[Lb q,Lb ((Y x e).trans q)];exact(Perm.cons v ih).trans (Perm.swap k v _)
theorem xI{g:Nat->Option Nat}:∀l:List Nat,(∀x∈l,g x≠none)->(l.filterMap g).length=l.length
 | [],_=>rfl
 |x::l,h=>by
  cases q:g x with
  |none=>exact absurd q (h x (.head _))
  |some v =>
   rw[Lb q,length_cons,length_cons,xI l λy J=>h y (.tail _ J)]
def xJ(hs:ow.size=m+1)(h:(vals m ow).length<=m):∃j,j<=m/\(ow.getD j (some 0)).isNone=true:=by
 cases Classical.em (∃j,j<=m/\ow.getD j none=none)with
 |inl q =>
  obtain⟨j,Y,e⟩:=q;refine⟨j,Y,?_⟩;have J:j<ow.size:=by omega
  simp[Array.getD,J]at e ⊢;exact e
 |inr q =>
  have:=xI (g:=λj=>ow.getD j none) (range (m+1)) λx hx z=>q ⟨x,by have:=LV.mp hx;exact(Kj ‹_›),z⟩
  unfold vals at h;rw[this,K3]at h;omega
noncomputable abbrev FR(m:Nat):Option (Array (Option Nat)×Nat)->Int->Option (Array (Option Nat)×Nat):=λacc h=>do
  let (owner,k) <- acc
  let j <- SetTable.layClean.free m owner (SetTable.turns m) (SetTable.bits h % (m+1)) (SetTable.bits h)
  pure (owner.setIfInBounds j (some k),k+1)
def AB(h):SetTable.bits h<2 ^ 64:=by grind [SetTable.bits]
theorem xK(hg:f_ m=true):∀(hs:List Int) ow k,ow.size=m+1->(vals m ow).Perm (range k)->k+hs.length<=m ->
  ∃J,hs.foldl (FR m) (some (ow,k))=some (J,k+hs.length)/\J.size=m+1/\(vals m J).Perm (range (k+hs.length))
 | [],ow,k,h1,h2,_=>⟨ow,rfl,h1,h2⟩
 |h::hs,ow,k,h1,h2,h3=>by
  rw[length_cons]at h3;have hl:=h2.length_eq;rw[K3]at hl;refine ae (xJ h1 (by omega)) λj0 Z ac=>?_
  refine bf λZq kq=>?_
  obtain⟨j,ej,hj⟩:=AA hg (ow:=ow) (i:=SetTable.bits h % (m+1)) (p:=SetTable.bits h) Z ac (by have:=Mv (SetTable.bits h) (show 0<m+1 by omega);exact(Kj ‹_›)) (AB h);have Y:j<ow.size:=by
   refine Decidable.byContradiction λz=>?_
   simp[Array.getD,z]at hj
  have e1:FR m (some (ow,k)) h=some (ow.setIfInBounds j (some k),k+1):=by
   show(Option.bind (SetTable.layClean.free m ow (SetTable.turns m) (SetTable.bits h % (m+1)) (SetTable.bits h)) _)=_;rw[ej]
   rfl
  have hv:(vals m (ow.setIfInBounds j (some k))).Perm (range (k+1)):=by
   refine(xH (g:=λj=>ow.getD j none) (j:=j) (k:=k) ?_ ?_ ?_ (range (m+1)) nodup_range (LV.mpr (by omega))).trans ?_
   .simp[Array.getD,Y]at hj ⊢;exact hj
   .simp[Array.getD,Y]
   .intro x hx;simp only[Km,Array.getElem?_setIfInBounds];rw[if_neg λz=>hx z.symm]
   .rw[range_succ (n:=k)];exact(Perm.cons k h2).trans (Mn (l₁:=[k]))
  obtain⟨J,q1,q2,q3⟩:=xK hg hs (ow.setIfInBounds j (some k)) (k+1) (by rw[Mp];exact h1) hv (by omega);refine kq ?_;refine⟨J,?_,q2,?_⟩
  .rw[foldl_cons,e1,q1,length_cons]
   congr 2;exact(JH _ _ _)
  .rw[length_cons];have:k+(hs.length+1)=k+1+hs.length:=by omega
   simp_all
def uq(hg:f_ m=true){led plain:Bool}(h:hs.size<=m):∃t J,SetTable.laid m f mv led plain hs=some (t,J)/\J.toList.Perm (range hs.size)/\t.place.size=hs.size/\t.mask=m/\t.dummies=#[]:=by
 have e0:(vals m (Array.replicate (m+1) none)).Perm (range 0):=by
  have:vals m (Array.replicate (m+1) none)=[]:=by
   unfold vals
   simp_all
  rw[this];simp
 refine aQ (xK hg hs.toList (Array.replicate (m+1) none) 0 (by simp) e0 (by simpa using h)) λow Z e2 Y=>?_
 rw[Kf,Array.length_toList]at Z Y;have ec:SetTable.layClean m hs=some ow:=by
  unfold SetTable.layClean;rw[<- Array.foldl_toList];rw[Z]
  rfl
 have el:((range (m+1)).filterMap λj=>(ow.getD j none).map (j,·)).map (·.2)=vals m ow:=by
  rw[map_filterMap]
  congr 1
  funext j
  cases ow.getD j none<;>rfl
 refine⟨_,_,by unfold SetTable.laid;rw[ec];rfl,?_,?_,rfl,rfl⟩
 .show(map _ _).Perm _;rw[el];exact Y
 .show(map _ _).toArray.size=_;rw[B1,IC];have:=JD List.length el;rw[IC]at this;rw[this,Y.length_eq,K3]
def FU:∀n,n<241->(SetTable.sizeAbove n=8\/SetTable.sizeAbove n=16\/SetTable.sizeAbove n=32\/SetTable.sizeAbove n=64\/SetTable.sizeAbove n=128\/SetTable.sizeAbove n=256)/\n<SetTable.sizeAbove n:=by decide +kernel
def ut(h:n<241):f_ (SetTable.sizeAbove n-1)=true/\n<=SetTable.sizeAbove n-1/\SetTable.sizeAbove n<=256:=by
 obtain⟨h1,h2⟩:=FU n h;refine⟨?_,by omega,by omega⟩;rcases h1 with e|e|e|e|e|e<;>rw[e]
 .exact BH
 .exact C1
 .exact C2
 .exact C3
 .exact Ay
 .exact Az
def mF{es:Array (Int×Value)}{J:Array Nat}(h:J.toList.Perm (range es.size)):(J.filterMap (es[·]?)).toList.Perm es.toList:=by
 rw[Array.toList_filterMap];refine(h.filterMap _).trans ?_;have:=PySem.List.filterMap_getElem?_range_length es.toList
 simp_all
section
variable{P:Program}{w:World}{A:Around}{E:Value->Shared->Prop}{s:Shared}
variable{a:Addr}{ks:List Int}{o:Obj}{es:Array (Int×Value)}{ep:Nat}{t:SetTable}
def lv(g:cg P w h a ks o es ep t)(Y:ElemsOf (intKind P w) J.toList)(Z:(J.toList.map λe=>numOf e.2).Perm ks')(hn:ks'.Nodup)(hb:J.size<scanBound)(hf:t'.fits J.size=true) :
  cg P w (h.update a (Obj.putSet J t')) a ks' { o with data:=.set J (ep+1) t' } J (ep+1) t':=by
 have hq:(h.update a (Obj.putSet J t')).get? a=some { o with data:=.set J (ep+1) t' }:=by
  have:=JN (Obj.putSet J t') g.ho (by rw[putSet_of J t' g.hd];rfl);rw[putSet_of J t' g.hd]at this;exact this
 exact⟨hq,g.ex,rfl,Y,Z,hn,hb,hf⟩
def AC:(256:Nat)<=sizeLine:=by simp_all [Jw]
def uu(g:cg P w s.heap a ks o es ep t){J:Nat}(hw:J<241)(hn:es.size<=J){Q:Unit->Shared->Prop}
  (h:∀h' o' ar aL t',Heap.SameBut a s.heap h'->cg P w h' a ks o' ar aL t'->t'.dummies=#[]->t'.mask=SetTable.sizeAbove J-1->Q () { s with heap:=h' }):wpAny (model P w) A (setRelay a J) Q E s:=by
 refine eT (ut hw) λhg a8 hz=>?_
 refine gf (Je g.ho g.hd g.fi ?_);dsimp only;rw[if_neg (by have:=AC;omega)];refine bf λZq kq=>?_
 obtain⟨t',Y,e1,e2,e3,e4,e5⟩:=uq hg (f:=t.finger) (mv:=t.movedTo (SetTable.sizeAbove J-1)) (led:=t.led) (plain:=t.plain) (hs:=es.map (·.1)) (by rw[K0];exact(IQ ‹_› ‹_›));have a1:t.relaid (es.map (·.1)) J=some (t',Y):=e1;rw[K0]at e2 e3;have hp:=mF e2;have ac:(Y.filterMap (es[·]?)).size=es.size:=by rw[<- Array.length_toList,hp.length_eq,Array.length_toList]
 refine kq ?_;rw[a1];refine gf (LS (a:=(Y.filterMap (es[·]?),t')) ?_ ?_)
 .show(if ((Y.filterMap (es[·]?)).size != es.size)=true then _ else _)=_
  simp_all
 .dsimp only;have ao:(Y.filterMap (es[·]?)).size<scanBound:=by rw[ac];exact g.bd
  have a3:t'.fits (Y.filterMap (es[·]?)).size=true:=by
   have Z:t'.fill=es.size:=by unfold SetTable.fill;rw[e5,e3];rfl
   simp only[SetTable.fits,Z,tr,IS,KW];exact⟨by rw[e3,ac],by omega⟩
  refine Kt g.ho g.hd ?_ (Kg ao);exact h _ _ _ _ _ (Jx _ a _) (lv g (g.el.perm hp) ((hp.map _).trans g.pm) g.nd ao a3) e5 e4
def C4(g:cg P w s.heap a [] o es ep t)(hd:t.dummies=#[])(h7:t.mask=7){n:Nat}(hn:n<=60){Q:Unit->Shared->Prop}
  (h:∀h' o' J Y t',Heap.SameBut a s.heap h'->cg P w h' a [] o' J Y t'->t'.dummies=#[]->f_ t'.mask=true->n<=t'.mask->Q () { s with heap:=h' }):wpAny (model P w) A (setRoomFor a n) Q E s:=by
 have hz:es.size=0:=g.len;have ac:t.place.size=0:=by
  have:=g.fi;simp only[SetTable.fits,tr,IS]at this;omega
 have Z:t.fill=0:=by unfold SetTable.fill;rw[hd,ac];rfl
 refine gf (Je g.ho g.hd g.fi ?_);have er:t.roomFor n=if (0+n)*5>=7*3 then some ((0+n)*2)else none:=by
  unfold SetTable.roomFor;rw[Z,ac,h7]
 rw[er];by_cases c:(0+n)*5>=7*3
 .rw[if_pos c];have hw:(0+n)*2<241:=by omega
  refine uu g hw (by omega) λh' o' J Y t' sb g' h1 h2=>?_
  refine eT (ut hw) λq1 q2 _=>?_
  exact h h' o' J Y t' sb g' h1 (by rw[h2];exact q1) (by rw[h2];omega)
 .rw[if_neg c];exact oe (h s.heap o es ep t (Ks a s.heap) g hd (by rw[h7];exact BH) (by omega))
def C5(g:cg P w s.heap a ks o es ep t)(h0:0<ks.length)(hn:ks.length<=60){Q:Value->Shared->Prop}
  (h:∀h' o' Y ac t',(∀c o,s.heap.get? c=some o->h'.get? c=some o)->cg P w h' s.heap.objs.size ks o' Y ac t'->Q (.ref s.heap.objs.size) { s with heap:=h' }):wpAny (model P w) A (Builtin.Frozenset.copyOf a) Q E s:=by
 have keep:∀c o,s.heap.get? c=some o->(s.heap.push (bq w)).get? c=some o:=λc o e=>ox _ e
 have ha:=IP (IG g.ho);refine gf (qY g.type ?_);refine gf (pI ?_);simp only[Builtin.Frozenset.addrOf,pure_bind];have g1:cg P w (s.heap.push (bq w)) s.heap.objs.size [] (bq w) #[] 0 (.fresh 0 0 (!byT w)):=⟨IH _ rfl,⟨rfl,rfl,rfl⟩,rfl,λe he=>by simp at he,by simp,KI,by decide,by rfl⟩;have a1:(s.heap.objs.size==a)=false:=by simpa using λz=>ha z.symm
 have ga:=g.at (keep a);have a3:es.isEmpty=false:=by
  have:=g.len;rw[Array.isEmpty_eq_false_iff];intro z
  simp_all
 unfold setMerge;rw[a1];simp only[IU,JS,Lx];refine gf (Je (s:={ s with heap:=s.heap.push (bq w) }) ga.ho ga.hd ga.fi ?_);simp only[a3,IU,JS,Lx];refine gf (C4 (s:={ s with heap:=s.heap.push (bq w) }) g1 rfl rfl (n:=es.size) (by have:=g.len;omega) λh' o' Y ac t' sb g' hd hm bM=>?_);have fin:∀h' o' Y ac t',Heap.SameBut s.heap.objs.size (s.heap.push (bq w)) h'->cg P w h' s.heap.objs.size ks o' Y ac t'->Q (.ref s.heap.objs.size) { s with heap:=h' }:=λh' o' Y ac t' sb g' =>
  h h' o' Y ac t' (λc o e=>(sb.2 c (IP (IG e))).trans (keep c o e)) g'
 refine gf (Je (s:={ s with heap:=h' }) g'.ho g'.hd g'.fi ?_);have hz:Y.size=0:=g'.len;have a4:t'.place.size=0:=by
  have:=g'.fi;simp only[SetTable.fits,tr,IS]at this;omega
 have Z:t'.fill=0:=by unfold SetTable.fill;rw[hd,a4];rfl
 have ao:t'.road t=if (t'.mask==t.mask&&t.dummies.isEmpty)=true then .slotForSlot else .clean:=by
  unfold SetTable.road;rw[Z]
  rfl
 dsimp only;rw[ao];by_cases c:(t'.mask==t.mask&&t.dummies.isEmpty)=true
 .rw[if_pos c];refine gf (Kt (s:={ s with heap:=h' }) g'.ho g'.hd ?_ (Kg g.bd));refine oe (fin _ _ _ _ _ (sb.trans (Jx _ _ _)) (lv g' g.el g.pm g.nd g.bd ?_));exact g.fi
 .rw[if_neg c];dsimp only;refine bf λZq kq=>?_
  obtain⟨t2,J,e1,e2,e3,e4,e5⟩:=uq hm (f:=t'.finger) (mv:=t'.moves) (led:=t'.led&&t.led) (plain:=t'.plain&&t.plain) (hs:=es.map (·.1)) (by rw[K0];have:=g.len;omega);rw[K0]at e2 e3;have hp:=mF e2;have ar:(J.filterMap (es[·]?)).size=es.size:=by rw[<- Array.length_toList,hp.length_eq,Array.length_toList]
  have aL:(J.filterMap (es[·]?)).size<scanBound:=by rw[ar];exact g.bd
  refine kq ?_;rw[e1];simp only[Lx];refine gf (LS (a:=(J.filterMap (es[·]?),t2)) ?_ ?_)
  .show(if ((J.filterMap (es[·]?)).size != es.size)=true then _ else _)=_;rw[if_neg (by rw[ar];simp)]
  .dsimp only;have a8:t2.fits (J.filterMap (es[·]?)).size=true:=by
    have Z:t2.fill=es.size:=by unfold SetTable.fill;rw[e5,e3];rfl
    simp only[SetTable.fits,Z,tr,IS,KW]
    simp_all
   refine gf (Kt (s:={ s with heap:=h' }) g'.ho g'.hd ?_ (Kg aL));exact oe (fin _ _ _ _ _ (sb.trans (Jx _ _ _)) (lv g' (g.el.perm hp) ((hp.map _).trans g.pm) g.nd aL a8))
def eK(xs:Array α)(i):(SetTable.eraseAt xs i).toList=xs.toList.eraseIdx i:=by
 unfold SetTable.eraseAt;rw[Array.toList_append,Array.toList_extract,Array.toList_extract,eraseIdx_eq_take_drop_succ,extract_eq_take_drop,extract_eq_take_drop];simp;exact L9 (by simp)
def vP(g:cg P w s.heap a ks o es ep t){k:Int}{tk:Tok}{Q:Bool->Shared->Prop}
  (h:∀b h' o' a1 a2 t',Heap.SameBut a s.heap h'->cg P w h' a (ks.filter λx=>!decide (x=k)) o' a1 a2 t'->Q b { s with heap:=h' }):wpAny (model P w) A (setDiscardHashed a (.int k tk) (hashInt k)) Q E s:=by
 refine gf (xF g ?_);cases hr:findIdx? (λe=>(intKind P w).is k e.2) es.toList with
 |none =>
  have hk:k∉ks:=λz=>by
   have:=qX (s:=s) g k;rw[hr]at this;simp[z]at this
  have e:ks.filter (λx=>!decide (x=k))=ks:=Lr.mpr λx hx=>by
   have:x≠k:=λz=>hk (z▸hx)
   simpa using this
  have e2:s={ s with heap:=s.heap }:=by cases s;rfl
  rw[e]at h;have:=h false s.heap o es ep t (Ks a s.heap) g;exact oe this
 |some i =>
  refine ae (findIdx?_eq_some_iff_getElem.mp hr) λhi a3 _=>?_
  refine gf (Je g.ho g.hd g.fi ?_);have Y:=(iS g.el (J5 hi) k).mp a3;have a4:=gx (IF hi);have Z:(SetTable.eraseAt es i).size=es.size-1:=by
   rw[<- Array.length_toList,eK,K1 hi,Array.length_toList]
  have bc:i<es.size:=by simpa using hi
  have ac:(SetTable.eraseAt es i).size<scanBound:=by rw[Z];have:=g.bd;exact(Jl (Kx _ _) ‹_›)
  have J:=g.fi;simp only[SetTable.fits,tr,IS,KW]at J;have ao:i<t.place.size:=by exact(by simp[*])
  have a5:(t.drop i).fits (SetTable.eraseAt es i).size=true:=by
   have ed:t.drop i={ t with place:=SetTable.eraseAt t.place i,dummies:=SetTable.insertAt t.dummies (SetTable.below t.dummies (t.place[i])) (t.place[i]) }:=by
    unfold SetTable.drop;rw[Ky ao]
   rw[ed];have h1:(SetTable.eraseAt t.place i).size=t.place.size-1:=by
    rw[<- Array.length_toList,eK,K1 ao,Array.length_toList]
   have h2:(SetTable.insertAt t.dummies (SetTable.below t.dummies (t.place[i])) (t.place[i])).size<=t.dummies.size+1:=by
    unfold SetTable.insertAt;generalize SetTable.below t.dummies (t.place[i])=p;rw[JV,Ke,Jg,Jg,Nat.min_self,Nat.sub_zero];rcases Nat.le_total p t.dummies.size with q|q
    .rw[Kp q,JH,LJ q];exact y4 _
    .rw[Nat.min_eq_right q,Nat.sub_eq_zero_of_le q];exact y4 _
   have h3:(⟨t.mask,SetTable.eraseAt t.place i,SetTable.insertAt t.dummies (SetTable.below t.dummies (t.place[i])) (t.place[i]),t.finger,t.led,t.moves,t.plain⟩:SetTable).fill<=t.mask:=by
    show(SetTable.eraseAt t.place i).size+(SetTable.insertAt t.dummies (SetTable.below t.dummies (t.place[i])) (t.place[i])).size<=t.mask;have:t.place.size+t.dummies.size<=t.mask:=J.2;omega
   simp only[SetTable.fits,tr,IS,KW];exact⟨by rw[h1,Z,J.1],h3⟩
  have ar:ElemsOf (intKind P w) (SetTable.eraseAt es i).toList:=λe he=>g.el e (by rw[eK]at he;exact mem_of_mem_eraseIdx he)
  have aL:((SetTable.eraseAt es i).toList.map λe=>numOf e.2).Perm (ks.filter λx=>!decide (x=k)):=by
   rw[eK];have h1:(k::(es.toList.eraseIdx i).map λe=>numOf e.2).Perm ks:=by
    have:=(a4.map λe=>numOf e.2).trans g.pm;rwa[Jc,Y]at this
   have h2:=h1.nodup_iff.mpr g.nd;obtain⟨n1,_⟩:=Ji.mp h2;have h3:=h1.filter λx=>!decide (x=k)
   rw[Ll (by simp)]at h3;refine Perm.trans (Perm.of_eq ?_) h3;refine(Lr.mpr λx hx=>?_).symm;have:x≠k:=λz=>n1 (z▸hx)
   simpa using this
  refine gf (Kt g.ho g.hd ?_ (Kg ac));refine gf (wpAny_point ?_);exact oe (h true _ _ _ _ _ (Jx _ _ _) (lv g ar aL (g.nd.filter _) ac a5))
def FV{id:String}{r b:Addr}{js:List Int}{ob:Obj}{eb:Array (Int×Value)}{br:Nat}{tb:SetTable}(g:cg P w s.heap r ks o es ep t)(gb:cg P w s.heap b js ob eb br tb)(hl:tb.led=!byT w)(a2:b≠r)(bB:¬ js.length / 8 > ks.length)(hn:ks.length<=60){Q:Unit->Shared->Prop}
  (h:∀h' d' o' J Y t' ls,Heap.SameBut r s.heap h'->cg P w h' r ls o' J Y t'->ls=(ks.filter λk=>!decide (k∈js))->Q () { s with heap:=h',drawn:=d' }):wpAny (model P w) A (Builtin.Frozenset.differenceUpdate id r (.ref b)) Q E s:=by
 unfold Builtin.Frozenset.differenceUpdate;have bG:(Value.ref b==Value.ref r)=false:=by
  simpa using a2
 rw[bG];simp only[IU,JS];refine gf (jn gb.type ?_);simp only[if_true,Builtin.Frozenset.addrOf,pure_bind];refine gf (fZ gb ?_);refine gf (fZ g ?_);rw[if_neg bB];refine gf (Ku gb.ho gb.hd gb.fi ?_);refine gf (Jj ?_);refine gf (xD gb hl (others:=[r]) (λc hc=>?_) λao d0 hp=>?_)
 .rw[Jd.mp hc];exact⟨_,_,_,_,_,g⟩
 have a3:=gb.el.perm hp;have hK:=(hp.map _).trans gb.pm;refine gf (L0 _ (λcE _ s'=>∃dn h' d' o' J Y t',dn++cE=ao.toList/\s'={ s with heap:=h',drawn:=d' }/\Heap.SameBut r s.heap h'/\cg P w h' r (ks.filter λk=>!decide (k∈dn.map λe:Int×Value=>numOf e.2)) o' J Y t') _ ?_ ?_ ao _ ⟨[],s.heap,d0,o,es,ep,t,rfl,rfl,Ks r s.heap,by
  have:ks.filter (λk=>!decide (k∈([]:List (Int×Value)).map λe=>numOf e.2))=ks:=Lr.mpr λx _=>by rfl
  rw[this];exact g⟩)
 .rintro ⟨hx,x⟩ cE u s' ⟨dn,h',d',o',J,Y,t',e1,rfl,sb,gl⟩;have Z:(hx,x)∈ao.toList:=by rw[<- e1];simp
  obtain⟨a4,q⟩:=fY a3 _ Z;obtain⟨⟨k0,bL,aL⟩,_⟩:=a3 _ Z;have a5:=(iS a3 Z k0).mp bL;dsimp only at q a5 aL;generalize numOf x=k at q a5;subst q a5;have aL:=aL;subst aL;refine gf (Jj (vP (s:={ s with heap:=h',drawn:=d' }) gl λb' h2 o2 a6 a8 t2 a0 g2=>?_));have bS:=gb.at λo e=>(a0.2 b a2).trans ((sb.2 b a2).trans e)
  refine CZ (s:={ s with heap:=h2,drawn:=d' }) bS ⟨dn++[(hashInt k,Value.int k a4)],h2,d',o2,a6,a8,t2,by rw[Kk];exact e1,rfl,sb.trans a0,?_⟩;have:(ks.filter λx=>!decide (x∈(dn++[(hashInt k,Value.int k a4)]).map λe:Int×Value=>numOf e.2))=(ks.filter λk=>!decide (k∈dn.map λe:Int×Value=>numOf e.2)).filter λx=>!decide (x=k):=by
   rw[List.filter_filter]
   congr 1
   funext x
   have bT:numOf (Value.int k a4)=k:=rfl;rw[Jo,Jc,map_nil,bT];by_cases h1:x=k<;>by_cases h2:x∈dn.map (λe:Int×Value=>numOf e.2)<;>simp[h1,h2]
  rw[this];exact g2
 .rintro u s' ⟨dn,h',d',o',J,Y,t',e1,rfl,sb,gl⟩;rw[Lp]at e1;subst e1;have e3:(ks.filter λk=>!decide (k∈ao.toList.map λe:Int×Value=>numOf e.2))=ks.filter λk=>!decide (k∈js):=by
   congr 1
   funext k
   congr 1
   rw[Mq];exact hK.mem_iff
  rw[e3]at gl;refine oe ?_;refine gf (Je (s:={ s with heap:=h',drawn:=d' }) gl.ho gl.hd gl.fi ?_);refine JI (λ_=>?_) (λ_=>?_)
  .have cu:J.size<=60:=by
    rw[gl.len];exact IQ (length_filter_le _ _) hn
   have b0:SetTable.grown J.size=J.size*4:=by unfold SetTable.grown;rw[if_neg (by omega)]
   rw[b0];exact uu (s:={ s with heap:=h',drawn:=d' }) gl (by omega) (by omega) λh2 o2 a6 a8 t2 a0 g2 _ _=>h h2 d' o2 a6 a8 t2 _ (sb.trans a0) g2 rfl
  .exact oe (h h' d' o' J Y t' _ sb gl rfl)
def C6{id:String}{b:Addr}{js:List Int}{Q:Value->Shared->Prop}(ga:cA P w s.heap a ks)(gb:cA P w s.heap b js)(Z:ks.length / 4 > js.length)(hn:ks.length<=60)
  (h:∀h' d' J o' ac ao t',(∀c o,s.heap.get? c=some o->h'.get? c=some o)->J.length=(ks.filter λk=>!decide (k∈js)).length->cg P w h' s.heap.objs.size J o' ac ao t'->Q (.ref s.heap.objs.size) { s with heap:=h',drawn:=d' }) :
  wpAny (model P w) A (Builtin.Frozenset.difference id a (.ref b)) Q E s:=by
 refine de ga.w λoa ea a9 ta wa bc=>?_
 refine de gb.w λob eb br tb Y ar=>?_
 have hb:=IP (IG Y.ho);refine gf (jn Y.type ?_);simp[IU,Lo,Builtin.Frozenset.addrOf,pure_bind];refine gf (fZ Y ?_);refine gf (fZ wa ?_);rw[if_pos Z];refine gf (JT ?_);refine gf (C5 wa (by omega) hn λh1 o1 bG bL t1 k1 g1=>?_);refine gf (oe ?_);have aL:=Y.at (k1 b);refine gf (Jj (FV (s:={ s with heap:=h1 }) g1 aL ar.led hb (by omega) hn λh2 d2 o2 a0 a1 t2 J a2 g2 e2=>?_));exact oe (h h2 d2 J o2 a0 a1 t2 (λc o e=>(a2.2 c (IP (IG e))).trans (k1 c o e)) (by rw[e2]) g2)
def xL{id:String}{b:Addr}{js:List Int}{Q:Value->Shared->Prop}(ga:cA P w s.heap a ks)(gb:cA P w s.heap b js)(hn:ks.length<=60)
  (h:∀h' d' Z o' J Y t',(∀c o,s.heap.get? c=some o->h'.get? c=some o)->Z.length=(ks.filter λk=>!decide (k∈js)).length->cg P w h' s.heap.objs.size Z o' J Y t'->Q (.ref s.heap.objs.size) { s with heap:=h',drawn:=d' }) :
  wpAny (model P w) A (Builtin.Frozenset.difference id a (.ref b)) Q E s:=by
 by_cases c:ks.length / 4 > js.length
 .exact C6 ga gb c hn h
 .refine C0 ga gb c λh' d' Z k p g=>?_
  refine de g.w λo' J Y t' g' _=>?_
  exact h h' d' Z o' J Y t' k p.length_eq g'
end
def nT:entryFor table "set.__sub__"=some Builtin.«frozenset.__sub__»:=
 entryFor_alias (id':="frozenset.__sub__") (by kernel_rfl) (by first|rfl|decide +kernel|(unfold String.splitOn;simp +decide [String.splitOnAux])) (by decide +kernel) (by kernel_rfl)
section
variable{P:Program}{w:World}{A:Around}{E:Value->Shared->Prop}{s:Shared}
def xM{ks js:List Int}{Q:Value->Shared->Prop}(ga:cA P w s.heap a ks)(gb:cA P w s.heap b js)(hn:ks.length<=60)
  (h:∀h' d' Z o' J Y t',(∀c o,s.heap.get? c=some o->h'.get? c=some o)->Z.length=(ks.filter λk=>!decide (k∈js)).length->cg P w h' s.heap.objs.size Z o' J Y t'->Q (.ref s.heap.objs.size) { s with heap:=h',drawn:=d' }) :
  wpAny (model P w) A (binaryOp .Sub (.ref a) (.ref b)) Q E s:=by
 refine de ga.w λoa ea a1 ta wa a2=>?_
 refine de gb.w λob eb a3 tb wb a4=>?_
 refine wpAny_binaryOp_same wa.type wb.type F.fills_set_sub F.slot_set_sub ?_;refine Jh F.slot_set_sub wa.type nT ?_ (F.args_set_sub_2 _ _);show wpAny _ _ (do
  let (self,other) <- Builtin.Frozenset.slot1 "__sub__" ⟨[.ref a,.ref b],[]⟩
  let (l,r):=if false then(other,self)else(self,other)
  if !(<- Builtin.Frozenset.isAnySet l <&&> Builtin.Frozenset.isAnySet r)then rule s!"frozenset.{"__sub__"}.declined";return <- ret .notImplemented
  ret (<- Builtin.Frozenset.difference s!"frozenset.{"__sub__"}" _ r)) _ _ s
 refine gf (LS (a:=_) rfl ?_);refine gf (gf (jn wa.type ?_));refine jn wb.type ?_;refine gf (xL ga gb hn λh' d' Z o' J Y t' k hl g=>?_);exact oe ⟨_,rfl,by simp,h h' d' Z o' J Y t' k hl g⟩
end
end L2.St
namespace L2
open PySem PySem.Spec PyProof.Rows List Option
noncomputable def pL(P:Program)(w:World)(a:Addr)(n:Nat):HO:=.ext λh=>∃ks o es ep t,St.cg P w h a ks o es ep t/\ks.length=n
def vQ(g:St.cg P w h a ks o es ep t)(e:ks.length=n):bD P w H h a (pL P w a n):=
 ⟨⟨ks,o,es,ep,t,g,e⟩,⟨o,g.ho⟩,λh1 h2 ⟨ks,o,es,ep,t,g,e⟩ k=>⟨ks,o,es,ep,t,g.at k,e⟩⟩
section
variable{X:Cx}
def vR:OpR X (binaryOp .Sub) (λx y H Q=>∃a b ks js,x=.ref a/\y=.ref b/\H a=some (iL X.prog X.w a ks)/\H b=some (iL X.prog X.w b js)/\ks.length<=60/\∀p,H p=none->Q (.ref p) (upd H p (pL X.prog X.w p (ks.filter λk=>!decide (k∈js)).length))):=by
 intro pins s σ H x y v u Q I Z ry h;refine Fe h λa b ks js J Y ha hb hn q=>?_
 subst J;subst Y;subst Z;subst ry;refine St.xM (I.set ha) (I.set hb) hn λh' d' ls o' a0 a1 t' kp hl g=>?_
 exact⟨.ref s.heap.objs.size,_,I.laidD (t':=s.toks) (d':=d') kp (y4 _) (vQ g hl),rfl,q _ (I.hok.fresh (y4 _))⟩
def qZ:bW X (.builtin "len") (λxs H Q=>∃a n,xs=[.ref a]/\H a=some (pL X.prog X.w a n)/\Q (.int n) H):=by
 intro pins s σ H xs us Q I r h;refine ak h λa n J e q=>?_
 subst J;refine ae (dW r) λu Y Z=>?_
 subst Y;subst Z;refine Fg ((show bD X.prog X.w H s.heap a (pL X.prog X.w a n)from I.hok a _ e).1) λks o es ep t g hk=>?_
 have hl:=g.len;have hb:=g.bd;have ar:scanBound=4096:=rfl;refine call_len_set g.ho g.ex g.hd g.fi (by omega) ⟨.int n,H,I.tok _,⟨s.toks+1,?_⟩,q⟩;rw[hl,hk]
def pN:bW X (.builtin "len") (λxs H Q=>∃a ks,xs=[.ref a]/\H a=some (iL X.prog X.w a ks)/\Q (.int ks.length) H):=by
 intro pins s σ H xs us Q I r h;refine ak h λa ks J e q=>?_
 subst J;refine ae (dW r) λu Y Z=>?_
 subst Y;subst Z;refine de ((I.set e).w) λo es ep t g _=>?_
 have hb:=g.bd;have ac:scanBound=4096:=rfl;refine call_len_set g.ho g.ex g.hd g.fi (by omega) ⟨.int ks.length,H,I.tok _,⟨s.toks+1,?_⟩,q⟩;rw[g.len]
end
end L2
namespace L2.En
open PySem PyProof.Rows List Option
open AutoSeq1 (wpAny_loadPart')
section
variable{P:Program}{w:World}{A:Around}{E:Value->Shared->Prop}{s:Shared}
def sC(J:s.heap.IsTupleIter it t i)
  (h:wpAny (model P w) A.in1 (Builtin.«tuple_iterator.__next__» ⟨[.ref it],[]⟩) (λfin s'=>∃v,fin=.done (.ret v)/\Q v s') E s):wpAny (model P w) A (Builtin.SmallTypes.nextOf (.ref it)) Q E s:=by
 refine gf (JE J.typeIs F.slot_tuple_iterator_next ?_);refine Jh F.slot_tuple_iterator_next J.typeIs F.entry_tuple_iterator_next ?_ (F.args_tuple_iterator_next_1 _);refine Jn h (λfin s' hv=>?_) λ_ _ z=>z
 obtain⟨v,rfl,q⟩:=hv;exact⟨v,rfl,oe q⟩
def FW (J:A.handled=none) (h:∀h' e,(∀b o,s.heap.get? b=some o->h'.get? b=some o)->(∃o,h'.get? e=some o/\o.cls=.type "StopIteration")->E (.ref e) { s with heap:=h' }) :
  wpAny (model P w) A (Builtin.SmallTypes.stopIteration:Sem α) Q E s:=by
 wp_walk
 exact wpAny_raiseNew_none J (h _ _ (λb o q=>ox _ (ox _ q)) ⟨_,IH _ rfl,rfl⟩)
def oN(Z:A.handled=none)(J:s.heap.IsTupleIter it t i)(ht:s.heap.IsTuple t items)
  (hQ:∀x h',items[i]?=some x->h'.IsTupleIter it t (i+1)->Heap.SameBut it s.heap h'->Q x { s with heap:=h' })
  (hE:∀h' e,items[i]?=none->Heap.ExtBut it s.heap h'->(∃o,h'.get? e=some o/\o.cls=.type "StopIteration")->E (.ref e) { s with heap:=h' }):wpAny (model P w) A (Builtin.SmallTypes.nextOf (.ref it)) Q E s:=by
 refine sC J ?_;refine bf λZq kq=>?_
 obtain⟨⟨c1,d1,t1,l1⟩,h1,e1,e2⟩:=J;obtain⟨⟨c2,d2,t2,l2⟩,h2,e3,n2,e4⟩:=ht;subst e1;subst e2;subst e3;subst e4;obtain⟨Y,g,d,tk,os⟩:=s;refine kq ?_
 wp_walk using wpAny_loadPart' h1,wpAny_loadPart' h2
 have self:∀k v,(Y.update it (Obj.mapFields (·.setIfInBounds k v))).get? it=some { cls:=.type "tuple_iterator",dict:=d1,data:=.fields _,slots:=l1 }:=λk v=>JN _ h1 rfl
 rw[Int.toNat_natCast];cases hx:items[i]? with
 |some x =>
  refine gf (wpAny_setField h1 rfl (by simp) (oe ⟨x,rfl,hQ x _ hx ⟨_,self 1 _,rfl,?_⟩ (Jx ..)⟩))
  rfl
 |none =>
  refine gf (JT (gf (wpAny_setField h1 rfl (by simp) (FW Z λh' e k st=>?_))));exact hE h' e hx (λb o hb q=>k b o ((Jx Y it _).extBut b o hb q)) st
def draws(Z:A.handled=none)(it t)(J:t≠it)(items):Draws P w A it [it,t] items.size (λi v=>items[i]?=some v) (λi h=>h.IsTupleIter it t i/\h.IsTuple t items) where
 live:=λ_ _ ⟨⟨o,ho,_⟩,_⟩=>⟨o,ho⟩
 frame:=λi h h' ⟨⟨o,ho,r⟩,⟨o2,Y,r2⟩⟩ k=>⟨⟨o,k it (.head _) o ho,r⟩,⟨o2,k t (.tail _ (.head _)) o2 Y,r2⟩⟩
 item:=λi s Q E hi ⟨h1,h2⟩ hQ=>oN Z h1 h2 (λx h' hx h3 sb=>hQ x h' s.toks hx ⟨h3,h2.extBut sb.extBut J⟩ sb) λh' e hx _ _=>absurd hx (by simp;omega)
 done:=λs Q E ⟨h1,h2⟩ hE=>oN Z h1 h2 (λx h' hx _ _=>absurd hx (by simp)) λh' e _ eb st=>hE h' e eb st
def xN{Q:Bool->Shared->Prop}(h:∀c,Q c s):wpAny (model P w) A (pure b) Q E s:=oe (h b)
def AD(l)(items)(n)(J)(Y) :
  Meets (Builtin.«enumerate.__new__» ⟨[.type "enumerate",.ref l],[]⟩) (λ_ R s=>s.heap.get? l=some { cls:=.type "tuple",dict:=J,data:=.seq items n,slots:=Y } /\
   R (.ok (.ret (.ref (s.heap.push { cls:=.type "tuple_iterator",data:=.fields #[.ref l,.int 0 0] }).objs.size)))
    { s with heap:=(s.heap.push { cls:=.type "tuple_iterator",data:=.fields #[.ref l,.int 0 0] }).push { cls:=.type "enumerate",data:=.fields #[.none,.bool false,.ref s.heap.objs.size,rawInt 0,.none,.none] } }):=by
 refine .of_wp λP w A R s h=>?_
 have tl:Heap.IsTuple _ l items:=⟨_,h.1,rfl,n,rfl⟩;have Z:=sub_enumerate
 wp_walk using wpAny_loadPart' h.1
 apply wpAny_stack_any;intro st;refine xN λc=>?_
 cases c
 .wp_walk using wpAny_pyIter_tuple tl
  exact⟨_,rfl,h.2⟩
 .wp_walk using wpAny_pyIter_tuple tl
  exact⟨_,rfl,h.2⟩
def call_tup(ht:s.heap.IsTuple l items)
  (h:∀h',IsEnum h' (s.heap.objs.size+1) s.heap.objs.size 0 .none->h'.IsTupleIter s.heap.objs.size l 0->h'.objs.size=s.heap.objs.size+2 ->
   (∀b o,s.heap.get? b=some o->h'.get? b=some o)->Q (.ref (s.heap.objs.size+1)) { s with heap:=h' }):wpAny (model P w) A (call (.type "enumerate") [.ref l]) Q E s:=by
 obtain⟨⟨c,J,dt,sl⟩,hl,hc,n,hd⟩:=ht;subst hc;subst hd;have made:=AD l items n J sl;refine callType_new F.called_enumerate (by decide) (F.typeCall_enumerate_1 _) (F.newCall_enumerate_1 _) (λv=>F.args_object_init_2 v _) F.entry_enumerate_new made ⟨hl,?_⟩;generalize hi:({ cls:=.type "tuple_iterator",data:=.fields #[.ref l,.int 0 0] }:Obj)=io;generalize ho:({ cls:=.type "enumerate",data:=.fields #[.none,.bool false,.ref s.heap.objs.size,rawInt 0,.none,.none] }:Obj)=Y;have z:(s.heap.push io).objs.size=s.heap.objs.size+1:=Jf ..;have Z:((s.heap.push io).push Y).get? (s.heap.objs.size+1)=some Y:=by
  rw[<- z];exact IH _ (by rw[<- ho];rfl)
 have g2:((s.heap.push io).push Y).get? s.heap.objs.size=some io:=ox _ (IH _ (by rw[<- hi];rfl));rw[z];refine⟨⟨_,Z,by rw[<- ho]⟩,h _ (by rw[<- ho]at Z;rw[<- ho];exact Z) ⟨_,g2,by rw[<- hi],by rw[<- hi];rfl⟩ (by rw[Jf,z]) λb o q=>ox _ (ox _ q)⟩
end
end L2.En
namespace L2.Dv
open PySem PyProof.Rows List Option
open AutoSeq1 (wpAny_loadPart')
section
variable{P:Program}{w:World}{A:Around}{E:Value->Shared->Prop}{s:Shared}
def Ents(h:Heap)(d:Addr)(es:Array DictEntry)(ep:Nat):Prop:=∃o,h.get? d=some o/\o.ExactDict/\o.data=.dict es ep
theorem Ents.at(x:Ents h d es ep)(k:∀o,h.get? d=some o->h'.get? d=some o):Ents h' d es ep:=by
 refine ae x λo ho r=>?_
 exact⟨o,k o ho,r⟩
theorem Ents.type (x:Ents s.heap d es ep):s.TypeIs (.ref d) "dict":=by
 refine aQ x λo ho r _=>?_
 exact⟨o,ho,r.1⟩
def values_of(hd:(d==sysModules)=false)(x:Ents s.heap d es ep)
  (h:Q (.ref s.heap.objs.size) { s with heap:=s.heap.push { cls:=.type "dict_values",data:=.fields #[.ref d] } }):wpAny (model P w) A (call (.builtin "dict.values") [.ref d]) Q E s:=by
 refine Jh F.slot_dict_values x.type F.entry_dict_values ?_ (F.args_dict_values_1 _);refine bf λZq J=>?_
 obtain⟨⟨c1,d1,t1,l1⟩,h1,hx,Y⟩:=x;have Z:=hx.1;subst Z;subst Y;refine J ?_
 wp_walk using wpAny_loadPart' h1
 exact⟨_,rfl,h⟩
def AE(hv:s.heap.IsValuesView v d)(x:Ents s.heap d es ep)
  (h:Q (.ref s.heap.objs.size) { s with heap:=s.heap.push { cls:=.type "dict_valueiterator",data:=.fields #[.ref d,.int 0 0,.int es.size 0,.int ep 0] } }):wpAny (model P w) A (pyIter (.ref v)) Q E s:=by
 refine Ma hv.typeIs F.slot_dict_values_iter (Jh F.slot_dict_values_iter hv.typeIs F.entry_dict_values_iter ?_ (F.args_dict_values_iter_1 _));refine bf λZq J=>?_
 obtain⟨⟨c1,d1,t1,l1⟩,h1,hx,Y⟩:=x;have Z:=hx.1;subst Z;subst Y;obtain⟨⟨c3,d3,t3,l3⟩,h3,e3,e4⟩:=hv;subst e3;subst e4;refine J ?_
 wp_walk using wpAny_loadPart' h1,wpAny_loadPart' h3
 exact⟨_,rfl,_,_,⟨_,IH _ rfl,rfl⟩,F.slot_dict_valueiterator_next.lookup,h⟩
def uv{ep:Nat}{Q:Option Value->Shared->Prop}(hh:A.handled=none)(hv:s.heap.IsValIter it d i es.size ep)(x:Ents s.heap d es ep)
  (h1:∀e h',es[i]?=some e->h'.IsValIter it d (i+1) es.size ep->Heap.SameBut it s.heap h'->Q (some e.val) { s with heap:=h' })
  (h2:∀h',es[i]?=none->Heap.ExtBut it s.heap h'->Q none { s with heap:=h' }):wpAny (model P w) A (pyNext (.ref it)) Q E s:=by
 have ty:=hv.typeIs;obtain⟨⟨c1,d1,t1,l1⟩,g1,hx,e2⟩:=x;have e1:=hx.1;cases e1;cases e2;obtain⟨⟨c3,d3,t3,l3⟩,J,e3,e4⟩:=hv;cases e3;cases e4;obtain⟨Y,g,dr,tk,os⟩:=s;unfold pyNext;refine gf (K8 (JE (name:=Str.ofString "__next__") ty F.slot_dict_valueiterator_next (Jh F.slot_dict_valueiterator_next ty F.entry_dict_valueiterator_next ?_ (F.args_dict_valueiterator_next_1 _))));unfold Builtin.«dict_valueiterator.__next__»
 wp_walk using wpAny_loadPart' g1,wpAny_loadPart' J
 rw[if_neg (by omega),Int.toNat_natCast];have self:∀k v,(Y.update it (Obj.mapFields (·.setIfInBounds k v))).get? it=some { cls:=.type "dict_valueiterator",dict:=d3,data:=.fields ((#[.ref d,.int (i:Int) 0,.int (es.size:Int) 0,.int (ep:Int) 0]:Array Value).setIfInBounds k v),slots:=l3 }:=λk v=>JN _ J rfl
 cases hx:es[i]? with
 |some e =>
  have Z:=self 1 (rawInt ((i:Int)+1))
  wp_walk using wpAny_loadPart' J,wpAny_loadPart' Z
  exact⟨_,rfl,oe (h1 e _ hx ⟨_,Z,rfl,rfl⟩ (Jx ..))⟩
 |none =>
  refine gf (Jn (Q:=λn s'=>n=0/\s'=⟨Y,g,dr,tk,os⟩) (E:=λ_ _=>False) ?_ (λn s' q=>?_) λ_ _ z=>z.elim)
  .wp_walk using wpAny_loadPart' J
   exact⟨by decide +kernel,rfl⟩
  obtain⟨rfl,rfl⟩:=q;refine gf (wpAny_setField J rfl (by simp) ?_);refine St.jX (v:=.none) (vs:=#[]) (it:=0) (Q:=λ_ _=>True) (by simpa using hh) λe s' kp ⟨h',eq⟩ hT=>?_
  subst eq;refine gf (J9 (T:="StopIteration") (b:=true) hT isSubtype_stop ?_);exact oe (h2 h' hx λb o hb q=>kp b o ((Jx Y it _).extBut b o hb q))
def src :PySem.W.KdlSrc P w "dict_values" r d es.size (λi v=>∃e,es[i]?=some e/\v=e.val) (λh=>h.IsValuesView r d/\Ents h d es ep) where
 type:=λ_ q=>q.1.typeIs
 there:=λ_ ⟨⟨o,ho,_⟩,⟨o',ac,_⟩⟩=>⟨IG ho,IG ac⟩
 keep:=λ_ _ ⟨⟨o,ho,z⟩,x⟩ k=>⟨⟨o,k r (.inl rfl) o ho,z⟩,x.at λo e=>k d (.inr rfl) o e⟩
 notList:=by decide
 notTuple:=by decide
 hint:=λ_ _ _ _ q z=>PySem.W.kdl_hint_values q.1.typeIs z
 iter:=λA s hh hq=>qy hq λq x=>by
  have lt:d<s.heap.objs.size:=by obtain⟨o,ho,_⟩:=x;exact IG ho
  have ne:=IP lt;refine⟨{ cls:=.type "dict_valueiterator",data:=.fields #[.ref d,.int 0 0,.int es.size 0,.int ep 0] },λi h=>h.IsValIter s.heap.objs.size d i es.size ep/\Ents h d es ep,λE Q z=>AE q x z,?_,⟨_,IH _ rfl,rfl,rfl⟩,x.at λo e=>ox _ e⟩;refine⟨λb J=>by simp at J;simp[J],λi h h' ⟨⟨o,ho,z⟩,y⟩ k=>⟨⟨o,k _ (by simp) o ho,z⟩,y.at λo e=>k d (by simp) o e⟩,λi s' Q E hi ⟨y,z⟩ Y=>?_,λs' Q E ⟨y,z⟩ Y=>?_,λi s' Q E ⟨y,z⟩ Y=>?_⟩
  .refine uv hh y z (λe h' Z y' sb=>?_) λh' Z _=>absurd Z (by simp;omega)
   exact Y _ h' s'.toks ⟨e,Z,rfl⟩ ⟨y',z.at λo q=>sb.extBut d o ne q⟩ λb o J q=>sb.extBut b o (λw=>J (by simp[w])) q
  .refine uv hh y z (λe h' Z _ _=>absurd Z (by simp)) λh' _ eb=>?_
   exact Y h' s'.toks λb o J q=>eb b o (λw=>J (by simp[w])) q
  .exact wpAny_pyIter_valiter y Y
end
end L2.Dv
namespace HT
open PySem PyProof.Rows List Option
section
variable{prog:Program}{w:World}{A:Around}{E:Value->Shared->Prop}{s:Shared}
def getItem_tuple_whole{items:Array Value}{vl vu:Value}{lo hi:Option Int}{Q:Value->Shared->Prop}(J:IsTup s.heap t items)(hs:s.heap.IsSliceOf sl vl vu .none)(pl:IsPart vl lo)(pu:IsPart vu hi)
  (h0:sIx items.size 0 lo=0) (h1:sIx items.size items.size hi=items.size) (h:Q (.ref t) s):wpAny (model prog w) A (getItem (.ref t) (.ref sl)) Q E s:=by
 have Y:s.TypeIs (.ref sl) "slice":=by obtain⟨os,Z,ac,_⟩:=hs;exact⟨os,Z,ac⟩
 unfold getItem
 try with_reducible refine Jj ?_
 first|refine gf (oe ?_)|skip
 refine gf (wpAny_sequenceKey J.typeIs (by decide) ?_);refine gf (JE (name:=Str.ofString "__getitem__") J.typeIs JC
  (Jh JC J.typeIs entry_tuple_getitem ?_ (args_tuple_getitem _ _)))
 show wpAny _ _ (Builtin.Tuple.tupleItemsOf _ >>= _) _ _ s;refine gf (tupleItemsOf_ J ?_);refine gf (Lk Y ?_);rw[if_pos (by decide)];refine gf (fX hs pl pu ?_);show wpAny _ _ (if (((sIx items.size 0 lo:Nat):Int)==0&&_==1&&_==items.size)=true then _ else _) _ _ s;rw[h0,h1,if_pos (by simp)];refine gf (gf (Lk J.typeIs (oe ?_)));rw[if_pos (by decide)];refine gf (JT ?_);exact oe ⟨_,rfl,oe h⟩
end
end HT
namespace L2
open PySem PySem.Spec PyProof.Rows List Option
section
variable{X:Cx}
def AF:SlR X (λx lo hi H Q=>∃a xs,x=.ref a/\SqT X.K H a xs/\HT.sIx xs.length 0 lo=0/\HT.sIx xs.length xs.length hi=xs.length/\Q (.ref a) H):=by
 intro pins s σ H x v vl vu lo hi sl Q I rx hs pl pu h;refine tQ h λa xs Y hx h0 h1 q=>?_
 subst Y;subst rx;refine aQ (I.tuple hx) λits r Z hz=>?_
 have J:its.toArray.size=xs.length:=by rw[B1];exact r.length.symm
 refine⟨"tuple",_,JC.lookup,Z.typeIs,?_⟩;exact HT.getItem_tuple_whole Z hs pl pu (by rw[J];exact h0) (by rw[J];exact h1) ⟨.ref a,H,I,rfl,q⟩
end
end L2
namespace L2.Rv
open PySem PyProof.Rows List Option
section
variable{P:Program}{w:World}{A:Around}{E:Value->Shared->Prop}{s:Shared}
end
end L2.Rv
namespace L2
open PySem PySem.Spec PyProof.Rows List Option
section
variable{X:Cx}
end
end L2
namespace L2.Rg
open PySem PyProof.Rows List Option
section
variable{P:Program}{w:World}{A:Around}{E:Value->Shared->Prop}{s:Shared}
end
end L2.Rg
namespace L2
open PySem PySem.Spec PyProof.Rows List Option
section
variable{X:Cx}
end
end L2
namespace L2.Sw
open PySem PyProof.Rows List Option
noncomputable def gal:Bool->Keyed->Array Keyed->Nat->Nat->Nat->StateT SortSt Sem (Option Nat):=sortPriv% PySem.Builtin.gallop
noncomputable def mLo:Array Keyed->Array Keyed->StateT SortSt Sem (Array Keyed):=sortPriv% PySem.Builtin.mergeLo
noncomputable def mHi:Array Keyed->Array Keyed->StateT SortSt Sem (Array Keyed):=sortPriv% PySem.Builtin.mergeHi
section
variable{prog:Program}{w:World}{A:Around}{E:Value->Shared->Prop}{s:Shared}{g:SortKind}{P:Keyed->Prop}{st:SortSt}
def Ask(prog:Program)(w:World)(A:Around)(s:Shared)(g:SortKind)(P:Keyed->Prop):Prop:=∀x y,P x->P y->∀C:Bool->Shared->Prop,(∀b,C b s)->wpAny (model prog w) A (keyLt' g x.1 y.1) C (λ_ _=>False) s
def Ok(g:SortKind)(st:SortSt):Prop:=kindOf st=g/\failedOf st=none
def w_lt(Y:Ask prog w A s g P){x y:Keyed}{Q:Option Bool->SortSt->Prop}(Z:Ok g st)(hx:P x)(hy:P y)(h:∀b,Q (some b) st):wpS (model prog w) A E s (lt' x y) Q st:=by
 rw[lt'_eq];refine IE (wpS_get ?_);have J:wpAny (model prog w) A (keyLt' (kindOf st) x.1 y.1) (λ_ s'=>s'=s) (λ_ _=>False) s:=by
  rw[Z.1];exact Y x y hx hy _ λ_=>rfl
 refine IE (LO (K8 (Jn J (λc s' e=>?_) λ_ _ (z:False)=>z.elim)));exact⟨e,IJ (h c)⟩
def bF{arr:Array Keyed}{i:Nat}{p:Keyed}{Q:Keyed->SortSt->Prop}(e:arr[i]?=some p)(h:Q p st):wpS (model prog w) A E s (elem' arr i) Q st:=by
 rw[elem'_eq,e];exact IJ h
def gc(hq:Ask prog w A s g P){left:Bool}{key:Keyed}{arr:Array Keyed}{base n hint:Nat}{Q:Option Nat->SortSt->Prop}(hk:Ok g st)(ha:∀i,i<n->∃p,arr[base+i]?=some p/\P p)(hp:P key)(hh:hint<n)(h:∀k,k<=n->Q (some k) st):wpS (model prog w) A E s (gal left key arr base n hint) Q st:=by
 have Y:∀(i:Nat) (R:Option Bool->SortSt->Prop),i<n->(∀b,R (some b) st)->wpS (model prog w) A E s (do
   let x <- elem' arr (base+i)
   if left=true then lt' x key else do
    let r <- lt' key x
    pure (Option.map (λx=>!x) r)) R st:=λi R hi hR=>by
  obtain⟨p,e,pp⟩:=ha i hi;refine IE (bF e ?_);cases left with
  |true=>exact w_lt hq hk pp hp hR
  |false=>exact IE (w_lt hq hk hp pp λb=>IJ (hR _))
 refine IE (Y hint _ hh λright=>?_);cases right with
 |true =>
  refine IE (JY (Js (I:=λ_ c J=>c.1=none/\st=J) (Q:=λc J=>c.1=none/\st=J) ?_ (λc J q=>q) ⟨rfl,rfl⟩) ?_)
  .rintro i ⟨r,Z,of⟩ J _ _ ⟨rfl,rfl⟩;dsimp only;split
   .exact IJ ⟨rfl,rfl⟩
   .refine IE (Y _ _ (by omega) λb=>?_);cases b with
    |true=>exact IJ ⟨rfl,rfl⟩
    |false=>exact IJ ⟨rfl,rfl⟩
  .rintro ⟨r,Z,of⟩ J ⟨rfl,rfl⟩;refine IE (JY (Js (I:=λ_ c J=>c.1=none/\c.2.2<=n/\st=J) (Q:=λc J=>c.1=none/\c.2.2<=n/\st=J) ?_ (λc J q=>q) ⟨rfl,by dsimp only;omega,rfl⟩) ?_)
   .rintro i ⟨r,lo,hi⟩ J _ _ ⟨rfl,h1,rfl⟩;dsimp only at h1 ⊢;split
    .exact IJ ⟨rfl,h1,rfl⟩
    .refine IE (Y _ _ (by omega) λb=>?_);cases b with
     |true=>exact IJ ⟨rfl,h1,rfl⟩
     |false=>exact IJ ⟨rfl,by dsimp only;omega,rfl⟩
   .rintro ⟨r,lo,hi⟩ J ⟨rfl,h1,rfl⟩;exact IJ (h _ h1)
 |false =>
  refine IE (JY (Js (I:=λ_ c J=>c.1=none/\st=J) (Q:=λc J=>c.1=none/\st=J) ?_ (λc J q=>q) ⟨rfl,rfl⟩) ?_)
  .rintro i ⟨r,Z,of⟩ J _ _ ⟨rfl,rfl⟩;dsimp only;split
   .exact IJ ⟨rfl,rfl⟩
   .refine IE (Y _ _ (by omega) λb=>?_);cases b with
    |true=>exact IJ ⟨rfl,rfl⟩
    |false=>exact IJ ⟨rfl,rfl⟩
  .rintro ⟨r,Z,of⟩ J ⟨rfl,rfl⟩;refine IE (JY (Js (I:=λ_ c J=>c.1=none/\c.2.2<=n/\st=J) (Q:=λc J=>c.1=none/\c.2.2<=n/\st=J) ?_ (λc J q=>q) ⟨rfl,by dsimp only;omega,rfl⟩) ?_)
   .rintro i ⟨r,lo,hi⟩ J _ _ ⟨rfl,h1,rfl⟩;dsimp only at h1 ⊢;split
    .exact IJ ⟨rfl,h1,rfl⟩
    .refine IE (Y _ _ (by omega) λb=>?_);cases b with
     |true=>exact IJ ⟨rfl,h1,rfl⟩
     |false=>exact IJ ⟨rfl,by dsimp only;omega,rfl⟩
   .rintro ⟨r,lo,hi⟩ J ⟨rfl,h1,rfl⟩;exact IJ (h _ h1)
def Eqv(st J:SortSt):Prop:=kindOf J=kindOf st/\arrOf J=arrOf st/\pendingOf J=pendingOf st/\failedOf J=failedOf st
theorem Eqv.refl:Eqv st st:=⟨rfl,rfl,rfl,rfl⟩
theorem Ok.eqv{J:SortSt}(h:Ok g st)(e:Eqv st J):Ok g J:=⟨e.1.trans h.1,e.2.2.2.trans h.2⟩
theorem Eqv.trans{Y J:SortSt}(h:Eqv st Y)(e:Eqv Y J):Eqv st J:=⟨e.1.trans h.1,e.2.1.trans h.2.1,e.2.2.1.trans h.2.2.1,e.2.2.2.trans h.2.2.2⟩
def Al(P:Keyed->Prop)(a:Array Keyed):Prop:=∀p∈a,P p
theorem Al.at{a:Array Keyed}(h:Al P a){i:Nat}(hi:i<a.size):∃p,a[i]?=some p/\P p:=⟨a[i],by simp[hi],h _ (Array.getElem_mem hi)⟩
theorem Al.push{a:Array Keyed}{p:Keyed}(h:Al P a)(J:P p):Al P (a.push p):=λq Y=>by
 rcases Array.mem_push.mp Y with z|z
 .exact h q z
 .rw[z];exact J
theorem Al.app{a b:Array Keyed}(h:Al P a)(h':Al P b):Al P (a++b):=λq J=>(Array.mem_append.mp J).elim (h q) (h' q)
theorem Al.ext{a:Array Keyed}(h:Al P a)(i j:Nat):Al P (a.extract i j):=λq J=>by
 obtain⟨k,Y,e⟩:=Array.getElem_of_mem J;rw[Array.getElem_extract]at e;rw[<- e];exact h _ (Array.getElem_mem _)
theorem Al.rev{a:Array Keyed}(h:Al P a):Al P a.reverse:=λq J=>h q (Array.mem_reverse.mp J)
def Mg(P:Keyed->Prop)(a b out:Array Keyed)(ia ib:Nat):Prop:=out.size=ia+ib/\Al P out/\ia+1<a.size/\ib<b.size
def Dn(P:Keyed->Prop)(a b r:Array Keyed):Prop:=r.size=a.size+b.size/\Al P r
def dn1{a b out:Array Keyed}{ia ib:Nat}(J:Al P a)(Y:Al P b)(h1:out.size=ia+ib)(h2:Al P out)(Z:ia<=a.size)(h4:ib<=b.size):Dn P a b (out++a.extract ia++b.extract ib)/\Dn P a b (out++b.extract ib++a.extract ia):=by
 refine⟨⟨?_,(h2.app (J.ext _ _)).app (Y.ext _ _)⟩,?_,(h2.app (Y.ext _ _)).app (J.ext _ _)⟩
 .simp only[JV,Jg];omega
 .simp only[JV,Jg];omega
def bK{α:Type}{c:Prop} [d:Decidable c] {J Y:StateT SortSt Sem α}{Q:α->SortSt->Prop} (h1:c->wpS (model prog w) A E s J Q st) (h2:¬ c->wpS (model prog w) A E s Y Q st):wpS (model prog w) A E s (if c then J else Y) Q st:=by
 cases d with
 |isTrue z=>exact h1 z
 |isFalse z=>exact h2 z
def cY{α:Type}{x y:Nat}{J Y:StateT SortSt Sem α}{Q:α->SortSt->Prop}(h1:x=y->wpS (model prog w) A E s J Q st)(h2:x≠y->wpS (model prog w) A E s Y Q st):wpS (model prog w) A E s (if (x==y)=true then J else Y) Q st:=
 bK (λz=>h1 (IS.mp z)) λz=>h2 λe=>z (IS.mpr e)
def uA {g:Nat}{Q:PUnit->SortSt->Prop} (h:∀J,Eqv st J->Q ⟨⟩ J):wpS (model prog w) A E s ((sortPriv% PySem.Builtin.setMinGallop) g) Q st:=Ls (h _ ⟨rfl,rfl,rfl,rfl⟩)
def HU{b o:Array Keyed}{ka kb k:Nat}(J:Al P b)(h1:o.size=ka+kb)(h2:Al P o)(Y:k<=b.size-kb):(o++b.extract kb (kb+k)).size=ka+(kb+k)/\Al P (o++b.extract kb (kb+k)):=by
 refine⟨?_,h2.app (J.ext _ _)⟩;simp only[JV,Jg];omega
def nd{a b o:Array Keyed}{ka kb m:Nat}{p:Keyed}(Z:m<=o.size)(h1:o.size=ka+kb)(h2:Al P o)(h3:ka+1<a.size)(Y:kb<b.size)(J:P p):(o.push p).size=ka+1+kb/\Al P (o.push p)/\(ka+1+1≠a.size->Mg P a b (o.push p) (ka+1) kb)/\m<=(o.push p).size:=by
 have e:(o.push p).size=ka+1+kb:=by rw[Ke];omega
 exact⟨e,h2.push J,λz=>⟨e,h2.push J,by omega,Y⟩,by omega⟩
def FX(hq:Ask prog w A s g P){a b:Array Keyed}{Q:Array Keyed->SortSt->Prop}(hk:Ok g st)(ha:Al P a)(hb:Al P b)(h1:1<=a.size)(h2:1<=b.size)(h:∀out J,Dn P a b out->Eqv st J->Q out J):wpS (model prog w) A E s (mLo a b) Q st:=by
 refine IE (LO (JT ⟨rfl,?_⟩));obtain⟨p0,e0,c6⟩:=hb.at (i:=0) (by omega);refine IE (bF e0 ?_);have m0:Al P #[p0]:=λq hq=>by
  rw[Array.mem_singleton.mp hq];exact c6
 refine cY (λ_=>IJ (h _ _ (dn1 (ia:=0) (ib:=1) ha hb rfl m0 (by omega) (by omega)).1 .refl)) λn1=>?_
 refine cY (λ_=>IJ (h _ _ (dn1 (ia:=0) (ib:=1) ha hb rfl m0 (by omega) (by omega)).2 .refl)) λn2=>?_
 refine IE (wpS_get ?_);refine IE (JY (Js (I:=λi c J=>c.1=none/\Mg P a b c.2.1 c.2.2.1 c.2.2.2.1/\i+1<=c.2.1.size/\Eqv st J) (Q:=λc J=>(∃r,c.1=some r/\Dn P a b r)/\Eqv st J) ?_ ?_ ⟨rfl,(show Mg P a b #[p0] 0 1 from⟨rfl,m0,by omega,by omega⟩),y4 1,.refl⟩) ?_)
 .rintro i ⟨r,out,ia,ib,mg⟩ a8 _ hi ⟨rfl,hM,dm,he⟩;dsimp only at hM dm;refine IE (JY (Js (I:=λj c J=>c.1=none/\Mg P a b c.2.1 c.2.2.1 c.2.2.2.1/\out.size+min j 1<=c.2.1.size/\a8=J) (Q:=λc J=>((∃r,c.1=some r/\Dn P a b r)\/(c.1=none/\Mg P a b c.2.1 c.2.2.1 c.2.2.2.1/\out.size+1<=c.2.1.size))/\a8=J) ?_ (λc J q=>⟨.inr ⟨q.1,q.2.1,by have:=q.2.2.1;omega⟩,q.2.2.2⟩) ⟨rfl,hM,by dsimp only;omega,rfl⟩) ?_)
  .rintro j ⟨r,o1,ja,jb,ac,bc⟩ dn _ hj ⟨rfl,⟨q1,q2,q3,q4⟩,q5,rfl⟩;dsimp only at q1 q2 q3 q4 q5;obtain⟨pb,eb,a1⟩:=hb.at q4;obtain⟨pa,ea,Z⟩:=ha.at (i:=ja) (by omega);refine IE (bF eb (IE (bF ea (IE (w_lt hq (hk.eqv he) a1 Z λc=>?_)))));cases c with
   |true =>
    refine IE (bF eb ?_);have s1:(o1.push pb).size=ja+(jb+1):=by rw[Ke];omega
    refine cY (λ_=>IJ ⟨.inl ⟨_,rfl,(dn1 ha hb s1 (q2.push a1) (by omega) (by omega)).1⟩,rfl⟩) λz=>?_
    have z:jb+1≠b.size:=z;have m1:Mg P a b (o1.push pb) ja (jb+1):=⟨s1,q2.push a1,q3,by omega⟩;have f1:out.size+1<=(o1.push pb).size:=by omega
    have f2:out.size+min (j+1) 1<=(o1.push pb).size:=by omega
    exact bK (λ_=>IJ ⟨.inr ⟨rfl,m1,f1⟩,rfl⟩) λ_=>IJ ⟨rfl,m1,f2,rfl⟩
   |false =>
    refine IE (bF ea ?_);have s1:(o1.push pa).size=(ja+1)+jb:=by rw[Ke];omega
    refine cY (λ_=>IJ ⟨.inl ⟨_,rfl,(dn1 ha hb s1 (q2.push Z) (by omega) (by omega)).2⟩,rfl⟩) λz=>?_
    have z:ja+1+1≠a.size:=z;have m1:Mg P a b (o1.push pa) (ja+1) jb:=⟨s1,q2.push Z,by omega,q4⟩;have f1:out.size+1<=(o1.push pa).size:=by omega
    have f2:out.size+min (j+1) 1<=(o1.push pa).size:=by omega
    exact bK (λ_=>IJ ⟨.inr ⟨rfl,m1,f1⟩,rfl⟩) λ_=>IJ ⟨rfl,m1,f2,rfl⟩
  rintro ⟨r,o1,ja,jb,ac,bc⟩ dn ⟨(⟨r',er,dr⟩|⟨er,ck,dV⟩),rfl⟩
  .dsimp only at er;subst er;exact IJ ⟨⟨r',rfl,dr⟩,he⟩
  dsimp only at er ck dV;subst er;dsimp only;refine IE (LO (JT ⟨rfl,?_⟩));refine IE (JY (Js (I:=λj c J=>c.1=none/\Mg P a b c.2.1 c.2.2.1 c.2.2.2.1/\o1.size<=c.2.1.size/\Eqv st J) (Q:=λc J=>((∃r,c.1=some r/\Dn P a b r)\/(c.1=none/\Mg P a b c.2.1 c.2.2.1 c.2.2.2.1/\o1.size<=c.2.1.size))/\Eqv st J) ?_ (λc J q=>⟨.inr ⟨q.1,q.2.1,q.2.2.1⟩,q.2.2.2⟩) ⟨rfl,ck,y4 _,he⟩) ?_)
  .rintro j ⟨r,o2,ka,kb,ec,ed,ee⟩ ef _ hj ⟨rfl,⟨q1,q2,q3,q4⟩,q5,a5⟩;dsimp only at q1 q2 q3 q4 q5;obtain⟨pb,eb,a1⟩:=hb.at q4;have ask:∀(Y:SortSt) (R:Option Nat->SortSt->Prop),Eqv st Y->(∀k,k<=a.size-ka->R (some k) Y)->wpS (model prog w) A E s (gal false pb a ka (a.size-ka) 0) R Y:=λY R e4 hR=>gc hq (hk.eqv e4) (λi hi=>ha.at (by omega)) a1 (by omega) hR
   have cu:∀(o3:Array Keyed) (a2:Nat) (Y:SortSt),o3.size=a2+kb->Al P o3->a2+1<a.size->o1.size<=o3.size->Eqv st Y->(o3.push pb).size=a2+(kb+1)/\Al P (o3.push pb)/\(kb+1≠b.size->∃pa,a[a2]?=some pa/\P pa/\∀(R:Option Nat->SortSt->Prop),(∀k,k<=b.size-(kb+1)->R (some k) Y)->wpS (model prog w) A E s (gal true pa b (kb+1) (b.size-(kb+1)) 0) R Y):=λo3 a2 Y c1 c2 c3 c4 c5=>by
    refine⟨by rw[Ke];omega,c2.push a1,λz=>?_⟩;obtain⟨pa,ea,Z⟩:=ha.at (i:=a2) (by omega);exact⟨pa,ea,Z,λR hR=>gc hq (hk.eqv c5) (λi hi=>hb.at (by omega)) Z (by omega) hR⟩
   have cl:∀k,k > 0->k<=a.size-ka->ka+k+1≠a.size->ka+k≠a.size->(o2++a.extract ka (ka+k)).size=ka+k+kb/\Al P (o2++a.extract ka (ka+k))/\ka+k+1<a.size/\o1.size<=(o2++a.extract ka (ka+k)).size:=λk k0 k1 z1 z2=>by
    have e:(o2++a.extract ka (ka+k)).size=ka+k+kb:=by simp only[JV,Jg];omega
    exact⟨e,q2.app (ha.ext _ _),by omega,by omega⟩
   have cs:∀k,k<=a.size-ka->(o2++a.extract ka (ka+k)).size=ka+k+kb:=λk k1=>by simp only[JV,Jg];omega
   refine bK (λ_=>?_) λ_=>?_
   all_goals
    refine IE (uA λY e4=>IE (bF eb (IE (ask Y _ (a5.trans e4) λk bP=>?_))));have e5:=a5.trans e4;refine bK (λk0=>cY (λ_=>IJ ⟨.inl ⟨_,rfl,(dn1 ha hb (cs k bP) (q2.app (ha.ext _ _)) (by omega) (by omega)).2⟩,e5⟩) λ(z1:ka+k+1≠a.size)=>cY (λ_=>IJ ⟨.inl ⟨_,rfl,(dn1 ha hb (cs k bP) (q2.app (ha.ext _ _)) (by omega) (by omega)).1⟩,e5⟩) λ(z2:ka+k≠a.size)=>have cc:=cl k k0 bP z1 z2;?_) λk0=>have cc:o2.size=ka+kb/\Al P o2/\ka+1<a.size/\o1.size<=o2.size:=⟨q1,q2,q3,q5⟩;?_
    all_goals
     obtain⟨c1,c2,c3,c4⟩:=cc;obtain⟨d1,d2,d3⟩:=cu _ _ Y c1 c2 c3 c4 e5;refine IE (bF eb ?_);refine cY (λ_=>IJ ⟨.inl ⟨_,rfl,(dn1 ha hb d1 d2 (by omega) (by omega)).1⟩,e5⟩) λ(z:kb+1≠b.size)=>?_
     obtain⟨pa,ea,Z,d4⟩:=d3 z;refine IE (bF ea (IE (d4 _ λk2 ft=>?_)));have f1:=HU hb d1 d2 (k:=k2) (by omega);refine bK (λj0=>cY (λ_=>IJ ⟨.inl ⟨_,rfl,(dn1 ha hb f1.1 f1.2 (by omega) (by omega)).1⟩,e5⟩) λ(z3:kb+1+k2≠b.size)=>have n0:=nd (a:=a) (b:=b) (m:=o1.size) (by omega) f1.1 f1.2 c3 (by omega) Z;?_) λj0=>have n0:=nd (a:=a) (b:=b) (m:=o1.size) (by omega) d1 d2 c3 (by omega) Z;?_
     all_goals
      obtain⟨n1,n2,n3,n4⟩:=n0;refine IE (bF ea ?_);refine cY (λ_=>IJ ⟨.inl ⟨_,rfl,(dn1 ha hb n1 n2 (by omega) (by omega)).2⟩,e5⟩) λz4=>?_
      exact bK (λ_=>IJ ⟨.inr ⟨rfl,n3 z4,n4⟩,e5⟩) λ_=>IJ ⟨rfl,n3 z4,n4,e5⟩
  rintro ⟨r,o2,ka,kb,ec,ed,ee⟩ ef ⟨(⟨r',er,dr⟩|⟨er,cC,en⟩),a5⟩
  .dsimp only at er;subst er;exact IJ ⟨⟨r',rfl,dr⟩,a5⟩
  dsimp only at er cC en;subst er;refine IE (uA λY e4=>IJ ⟨rfl,cC,?_,a5.trans e4⟩);show i+1+1<=o2.size;omega
 .rintro ⟨r,out,ia,ib,mg⟩ a8 ⟨rfl,⟨q1,q2,q3,q4⟩,hs,he⟩;dsimp only at q1 q3 q4 hs;omega
 .rintro ⟨r,out,ia,ib,mg⟩ a8 ⟨⟨r',er,dr⟩,he⟩;dsimp only at er;subst er;exact IJ (h _ _ dr he)
def Mh(P:Keyed->Prop)(a b out:Array Keyed)(J nb:Nat):Prop:=out.size+J+nb=a.size+b.size/\Al P out/\1<=J/\2<=nb/\J<=a.size/\nb<=b.size
def dh{a b out:Array Keyed}{J nb:Nat}(Y:Al P a)(Z:Al P b)(h1:out.size+J+nb=a.size+b.size)(h2:Al P out)(h3:J<=a.size)(h4:nb<=b.size):Dn P a b (a.extract 0 J++b.extract 0 nb++out.reverse)/\Dn P a b (b.extract 0 nb++a.extract 0 J++out.reverse):=by
 refine⟨⟨?_,((Y.ext _ _).app (Z.ext _ _)).app h2.rev⟩,?_,((Z.ext _ _).app (Y.ext _ _)).app h2.rev⟩
 .simp only[JV,Jg,L1];omega
 .simp only[JV,Jg,L1];omega
def ha1{a b o:Array Keyed}{J nb m:Nat}{p:Keyed}(Z:m<=o.size)(h1:o.size+J+nb=a.size+b.size)(h2:Al P o)(hn:1<=J)(Y:P p):(o.push p).size+(J-1)+nb=a.size+b.size/\Al P (o.push p)/\m+1<=(o.push p).size:=by
 have e:(o.push p).size=o.size+1:=Ke ..;exact⟨by omega,h2.push Y,by omega⟩
def hb1{a b o:Array Keyed}{J nb m:Nat}{p:Keyed}(Z:m<=o.size)(h1:o.size+J+nb=a.size+b.size)(h2:Al P o)(hn:1<=nb)(Y:P p):(o.push p).size+J+(nb-1)=a.size+b.size/\Al P (o.push p)/\m+1<=(o.push p).size:=by
 have e:(o.push p).size=o.size+1:=Ke ..;exact⟨by omega,h2.push Y,by omega⟩
def hx{c o:Array Keyed}{t n k m:Nat}(hc:Al P c)(J:m<=o.size)(h1:o.size+n=t)(h2:Al P o)(Y:k<=n)(Z:n<=c.size):(o++(c.extract k n).reverse).size+k=t/\Al P (o++(c.extract k n).reverse)/\m<=(o++(c.extract k n).reverse).size:=by
 have e:(o++(c.extract k n).reverse).size=o.size+(n-k):=by simp only[JV,Jg,L1];omega
 exact⟨by omega,h2.app (hc.ext _ _).rev,by omega⟩
def FY(hq:Ask prog w A s g P){a b:Array Keyed}{Q:Array Keyed->SortSt->Prop}(hk:Ok g st)(Y:Al P a)(hb:Al P b)(h1:1<=a.size)(h2:1<=b.size)(h:∀out J,Dn P a b out->Eqv st J->Q out J):wpS (model prog w) A E s (mHi a b) Q st:=by
 refine IE (LO (JT ⟨rfl,?_⟩));obtain⟨p0,e0,c0⟩:=Y.at (i:=a.size-1) (by omega);refine IE (bF e0 ?_);have m0:Al P #[p0]:=λq hq=>by
  rw[Array.mem_singleton.mp hq];exact c0
 have z0:(#[p0]:Array Keyed).size+(a.size-1)+b.size=a.size+b.size:=by show 1+_+_=_;omega
 refine cY (λ_=>IJ (h _ _ (dh Y hb z0 m0 (by omega) (by omega)).1 .refl)) λn1=>?_
 refine cY (λ_=>IJ (h _ _ (dh Y hb z0 m0 (by omega) (by omega)).2 .refl)) λn2=>?_
 refine IE (wpS_get ?_);refine IE (JY (Js (I:=λi c J=>c.1=none/\Mh P a b c.2.2.2.1 c.2.1 c.2.2.1/\i+1<=c.2.2.2.1.size/\Eqv st J) (Q:=λc J=>(∃r,c.1=some r/\Dn P a b r)/\Eqv st J) ?_ ?_ ⟨rfl,(show Mh P a b #[p0] (a.size-1) b.size from⟨z0,m0,by omega,by omega,by omega,by omega⟩),y4 1,.refl⟩) ?_)
 .rintro i ⟨r,na,nb,out,mg⟩ a1 _ hi ⟨rfl,hM,dt,he⟩;dsimp only at hM dt;refine IE (JY (Js (I:=λj c J=>c.1=none/\Mh P a b c.2.2.2.1 c.2.1 c.2.2.1/\out.size+min j 1<=c.2.2.2.1.size/\a1=J) (Q:=λc J=>((∃r,c.1=some r/\Dn P a b r)\/(c.1=none/\Mh P a b c.2.2.2.1 c.2.1 c.2.2.1/\out.size+1<=c.2.2.2.1.size))/\a1=J) ?_ (λc J q=>⟨.inr ⟨q.1,q.2.1,by have:=q.2.2.1;omega⟩,q.2.2.2⟩) ⟨rfl,hM,by dsimp only;omega,rfl⟩) ?_)
  .rintro j ⟨r,ja,jb,o1,ac,bc⟩ dV _ hj ⟨rfl,⟨q1,q2,q3,q4,q5,q6⟩,q7,rfl⟩;dsimp only at q1 q2 q3 q4 q5 q6 q7;obtain⟨pb,eb,aL⟩:=hb.at (i:=jb-1) (by omega);obtain⟨pa,ea,ar⟩:=Y.at (i:=ja-1) (by omega);refine IE (bF eb (IE (bF ea (IE (w_lt hq (hk.eqv he) aL ar λc=>?_)))));cases c with
   |true =>
    refine IE (bF ea ?_);obtain⟨s1,s2,s3⟩:=ha1 (m:=out.size) (by omega) q1 q2 q3 ar;refine cY (λ_=>IJ ⟨.inl ⟨_,rfl,(dh Y hb s1 s2 (by omega) (by omega)).1⟩,rfl⟩) λ(z:ja-1≠0)=>?_
    have m1:Mh P a b (o1.push pa) (ja-1) jb:=⟨s1,s2,by omega,q4,by omega,q6⟩;have f2:out.size+min (j+1) 1<=(o1.push pa).size:=by omega
    exact bK (λ_=>IJ ⟨.inr ⟨rfl,m1,s3⟩,rfl⟩) λ_=>IJ ⟨rfl,m1,f2,rfl⟩
   |false =>
    refine IE (bF eb ?_);obtain⟨s1,s2,s3⟩:=hb1 (m:=out.size) (by omega) q1 q2 (by omega) aL;refine cY (λ_=>IJ ⟨.inl ⟨_,rfl,(dh Y hb s1 s2 (by omega) (by omega)).2⟩,rfl⟩) λ(z:jb-1≠1)=>?_
    have m1:Mh P a b (o1.push pb) ja (jb-1):=⟨s1,s2,q3,by omega,q5,by omega⟩;have f2:out.size+min (j+1) 1<=(o1.push pb).size:=by omega
    exact bK (λ_=>IJ ⟨.inr ⟨rfl,m1,s3⟩,rfl⟩) λ_=>IJ ⟨rfl,m1,f2,rfl⟩
  rintro ⟨r,ja,jb,o1,ac,bc⟩ dV ⟨(⟨r',Z,dr⟩|⟨Z,b4,ef⟩),rfl⟩
  .dsimp only at Z;subst Z;exact IJ ⟨⟨r',rfl,dr⟩,he⟩
  dsimp only at Z b4 ef;subst Z;refine IE (LO (JT ⟨rfl,?_⟩));refine IE (JY (Js (I:=λj c J=>c.1=none/\Mh P a b c.2.2.2.1 c.2.1 c.2.2.1/\o1.size<=c.2.2.2.1.size/\Eqv st J) (Q:=λc J=>((∃r,c.1=some r/\Dn P a b r)\/(c.1=none/\Mh P a b c.2.2.2.1 c.2.1 c.2.2.1/\o1.size<=c.2.2.2.1.size))/\Eqv st J) ?_ (λc J q=>⟨.inr ⟨q.1,q.2.1,q.2.2.1⟩,q.2.2.2⟩) ⟨rfl,b4,y4 _,he⟩) ?_)
  .rintro j ⟨r,ka,kb,o2,eg,eh,ei⟩ ej _ hj ⟨rfl,⟨q1,q2,q3,q4,q5,q6⟩,q7,a0⟩;dsimp only at q1 q2 q3 q4 q5 q6 q7;obtain⟨pb,eb,aL⟩:=hb.at (i:=kb-1) (by omega);refine bK (λ_=>?_) λ_=>?_
   all_goals
    refine IE (uA λek e4=>IE (bF eb (IE (gc hq (hk.eqv (a0.trans e4)) (λi (hi:i<ka)=>by rw[Kf];exact Y.at (by omega)) aL (show ka-1<ka by omega) λk (en:k<=ka)=>?_))));have e5:=a0.trans e4;have g1:=hx (k:=k) (n:=ka) (t:=a.size+b.size-kb) Y q7 (by omega) q2 en q5;refine bK (λk0=>cY (λ_=>IJ ⟨.inl ⟨_,rfl,(dh Y hb (show _+k+kb=_ by omega) g1.2.1 (by omega) (by omega)).1⟩,e5⟩) λ(z1:k≠0)=>have cc:(o2++(a.extract k ka).reverse).size+k+kb=a.size+b.size/\Al P (o2++(a.extract k ka).reverse)/\1<=k/\k<=a.size/\o1.size<=(o2++(a.extract k ka).reverse).size:=⟨by omega,g1.2.1,by omega,by omega,g1.2.2⟩;?_) λk0=>have cc:o2.size+ka+kb=a.size+b.size/\Al P o2/\1<=ka/\ka<=a.size/\o1.size<=o2.size:=⟨q1,q2,q3,q5,q7⟩;?_
    all_goals
     obtain⟨c1,c2,c3,c4,c5⟩:=cc;obtain⟨d1,d2,d3⟩:=hb1 c5 c1 c2 (by omega) aL;refine IE (bF eb ?_);refine cY (λ_=>IJ ⟨.inl ⟨_,rfl,(dh Y hb d1 d2 (by omega) (by omega)).2⟩,e5⟩) λ(z:kb-1≠1)=>?_
     obtain⟨pa,ea,ar⟩:=Y.at (show _-1<a.size from IK (Mc c3 Nat.one_pos) c4);refine IE (bF ea (IE (gc hq (hk.eqv e5) (λi (hi:i<kb-1)=>by rw[Kf];exact hb.at (by omega)) ar (show kb-1-1<kb-1 by omega) λk2 (ew:k2<=kb-1)=>?_)));have g2:=hx (c:=b) (k:=k2) (n:=kb-1) hb (J0 d3) rfl d2 ew (by omega);refine bK (λj0=>cY (λ_=>IJ ⟨.inl ⟨_,rfl,(dh Y hb (by omega) g2.2.1 c4 (by omega)).2⟩,e5⟩) λ(z3:k2≠1)=>cY (λ_=>IJ ⟨.inl ⟨_,rfl,(dh Y hb (by omega) g2.2.1 c4 (by omega)).1⟩,e5⟩) λ(z4:k2≠0)=>have n0:=ha1 (a:=a) (b:=b) (nb:=k2) g2.2.2 (by omega) g2.2.1 c3 ar;have n9:2<=k2/\k2<=b.size:=⟨by omega,by omega⟩;?_) λj0=>have n0:=ha1 (a:=a) (b:=b) (J0 d3) d1 d2 c3 ar;have n9:2<=kb-1/\kb-1<=b.size:=⟨by omega,by omega⟩;?_
     all_goals
      obtain⟨n1,n2,n3⟩:=n0;have n3:=J0 n3;refine IE (bF ea ?_);refine cY (λ_=>IJ ⟨.inl ⟨_,rfl,(dh Y hb n1 n2 (IQ (Kx _ _) c4) n9.2).1⟩,e5⟩) λz5=>?_
      have m1:Mh P a b _ _ _:=⟨n1,n2,Nat.one_le_iff_ne_zero.mpr z5,n9.1,IQ (Kx _ _) c4,n9.2⟩;exact bK (λ_=>IJ ⟨.inr ⟨rfl,m1,n3⟩,e5⟩) λ_=>IJ ⟨rfl,m1,n3,e5⟩
  rintro ⟨r,ka,kb,o2,eg,eh,ei⟩ ej ⟨(⟨r',Z,dr⟩|⟨Z,cd,ey⟩),a0⟩
  .dsimp only at Z;subst Z;exact IJ ⟨⟨r',rfl,dr⟩,a0⟩
  dsimp only at Z cd ey;subst Z;refine IE (uA λek e4=>IJ ⟨rfl,cd,?_,a0.trans e4⟩);show i+1+1<=o2.size;omega
 .rintro ⟨r,na,nb,out,mg⟩ a1 ⟨rfl,⟨q1,q2,q3,q4,q5,q6⟩,hs,he⟩;dsimp only at q1 q3 q4 hs;omega
 .rintro ⟨r,na,nb,out,mg⟩ a1 ⟨⟨r',Z,dr⟩,he⟩;dsimp only at Z;subst Z;exact IJ (h _ _ dr he)
end
section
variable{prog:Program}{w:World}{A:Around}{E:Value->Shared->Prop}{s:Shared}{g:SortKind}{P:Keyed->Prop}{st:SortSt}{N:Nat}
def Wb(g:SortKind)(P:Keyed->Prop)(N:Nat)(st:SortSt):Prop:=Ok g st/\(arrOf st).size=N/\Al P (arrOf st)
def Wp(g:SortKind)(P:Keyed->Prop)(N:Nat)(st J:SortSt):Prop:=Wb g P N J/\pendingOf J=pendingOf st
def Wp.refl(h:Wb g P N st):Wp g P N st st:=⟨h,rfl⟩
theorem Wp.trans{Y J:SortSt}(h:Wp g P N st Y)(h':Wp g P N Y J):Wp g P N st J:=⟨h'.1,h'.2.trans h.2⟩
def Wb.perm{xs:Array Keyed}(h:Wb g P N st)(Y:xs.Perm (arrOf st)):Wp g P N st (setArr st xs):=
 ⟨⟨h.1,Y.size_eq.trans h.2.1,λp J=>h.2.2 p (Y.mem_iff.mp J)⟩,rfl⟩
def kd(Y:Ask prog w A s g P){i j:Nat}{Q:Option Bool->SortSt->Prop}(J:Wb g P N st)(hi:i<N)(Z:j<N)(h:∀b,Q (some b) st):wpS (model prog w) A E s (ltAt' i j) Q st:=by
 rw[ltAt'_eq];obtain⟨p,e1,h1⟩:=J.2.2.at (i:=i) (by rw[J.2.1];exact hi);obtain⟨p',e2,h2⟩:=J.2.2.at (i:=j) (by rw[J.2.1];exact Z);exact IE (wpS_get (IE (bF e1 (IE (bF e2 (w_lt Y J.1 h1 h2 h))))))
def w_rev{i j:Nat}{Q:Unit->SortSt->Prop}(Y:Wb g P N st)(h:∀J,Wp g P N st J->Q () J):wpS (model prog w) A E s (reverseSlice' i j) Q st:=by
 rw[reverseSlice'_eq];exact Ls (h _ (Y.perm (mirror_perm _ _ _ _)))
def C7{i j:Nat}{Q:Unit->SortSt->Prop}(Y:Wb g P N st)(h:∀J,Wp g P N st J->Q () J):wpS (model prog w) A E s (moveDown' i j) Q st:=by
 rw[moveDown'_eq];exact Ls (h _ (Y.perm (bubble_perm _ _ _)))
def AG(hq:Ask prog w A s g P){lo nrem:Nat}{Q:Option Nat->SortSt->Prop}(hB:Wb g P N st)(h1:1<=nrem)(hn:lo+nrem<=N)(h:∀m J,1<=m->m<=nrem->Wp g P N st J->Q (some m) J):wpS (model prog w) A E s (countRun' lo nrem) Q st:=by
 refine IE (JY (Js (I:=λi c J=>c.1=none/\c.2=i/\st=J) (Q:=λc J=>c.1=none/\1<=c.2/\c.2<=nrem/\st=J) ?_ (λc J q=>⟨q.1,by have:=q.2.1;omega,by have:=q.2.1;omega,q.2.2⟩) ⟨rfl,rfl,rfl⟩) ?_)
 .rintro i ⟨r,n⟩ J Z hi ⟨rfl,rfl,rfl⟩;refine IE (kd hq hB (show lo+n<N by omega) (show lo+n-1<N by omega) λb=>?_);cases b with
  |true=>exact IJ ⟨rfl,Z,Jz hi,rfl⟩
  |false=>exact IJ ⟨rfl,rfl,rfl⟩
 rintro ⟨r,n⟩ J ⟨rfl,n1,n2,rfl⟩;dsimp only at n1 n2;refine cY (λ_=>IJ (h n st n1 n2 (.refl hB))) λ(z:n≠nrem)=>?_
 refine bK (λn0=>IE (kd hq hB (show lo<N by omega) (show lo+n-1<N by omega) λb=>bK (λ_=>IJ (h n st n1 n2 (.refl hB))) λ_=>IE (w_rev hB λa9 hw=>?_))) λn0=>have hw:Wp g P N st st:=.refl hB;?_
 all_goals
  refine IE (LO (JT ⟨rfl,?_⟩));refine IE (JY (Js (I:=λi c J=>c.1=none/\c.2.1=i/\Wp g P N st J) (Q:=λc J=>c.1=none/\n+1<=c.2.1/\c.2.1<=nrem/\Wp g P N st J) ?_ (λc J q=>⟨q.1,by have:c.2.1=max (n+1) nrem:=q.2.1;omega,by have:c.2.1=max (n+1) nrem:=q.2.1;omega,q.2.2⟩) ⟨rfl,rfl,hw⟩) ?_)
  .rintro i ⟨r,m,q⟩ a4 (Z:n+1<=i) (hi:i<nrem) ⟨rfl,rfl,Y⟩;dsimp only at Z hi;refine IE (kd hq Y.1 (show lo+m<N by omega) (show lo+m-1<N by omega) λb=>?_);refine bK (λ_=>bK (λ_=>IE (w_rev Y.1 λa5 h3=>IJ ⟨rfl,rfl,Y.trans h3⟩)) λ_=>IJ ⟨rfl,rfl,Y⟩) λ_=>?_
   refine IE (kd hq Y.1 (show lo+m-1<N by omega) (show lo+m<N by omega) λb=>?_);exact bK (λ_=>IJ ⟨rfl,Z,Jz hi,Y⟩) λ_=>IJ ⟨rfl,rfl,Y⟩
  rintro ⟨r,m,q⟩ a4 ⟨rfl,m1,m2,Y⟩;dsimp only at m1 m2;refine bK (λ_=>IE (w_rev Y.1 λa5 h3=>have ac:=Y.trans h3;?_)) λ_=>have ac:=Y;?_
  all_goals
   refine IE (w_rev ac.1 λao h4=>?_);have a0:=ac.trans h4;refine IE (JY (Js (I:=λi c J=>c.1=none/\c.2=i/\ao=J) (Q:=λc J=>c.1=none/\1<=c.2/\c.2<=nrem/\ao=J) ?_ (λc J q=>⟨q.1,by have:c.2=max m nrem:=q.2.1;omega,by have:c.2=max m nrem:=q.2.1;omega,q.2.2⟩) ⟨rfl,rfl,rfl⟩) ?_)
   .rintro i ⟨r,m'⟩ st5 (Z:m<=i) (hi:i<nrem) ⟨rfl,rfl,rfl⟩;dsimp only at Z hi;refine IE (kd hq a0.1 (show lo+m'<N by omega) (show lo+m'-1<N by omega) λb=>?_);exact bK (λ_=>IJ ⟨rfl,by dsimp only;omega,Jz hi,rfl⟩) λ_=>IJ ⟨rfl,rfl,rfl⟩
   rintro ⟨r,m'⟩ st5 ⟨rfl,m3,m4,rfl⟩;exact IJ (h m' ao m3 m4 a0)
def FZ(hq:Ask prog w A s g P){lo n ok:Nat}{Q:Bool->SortSt->Prop}(hB:Wb g P N st)(hn:lo+n<=N)(h:∀J,Wp g P N st J->Q true J):wpS (model prog w) A E s (binarySort' lo n ok) Q st:=by
 refine IE (JY (Js (I:=λ_ c J=>c.1=none/\Wp g P N st J) (Q:=λc J=>c.1=none/\Wp g P N st J) ?_ (λc J q=>q) ⟨rfl,.refl hB⟩) ?_)
 .rintro k ⟨r,u⟩ Y _ hk ⟨rfl,hw⟩;refine IE (JY (Js (I:=λ_ c J=>c.1=none/\c.2.2<=k/\Y=J) (Q:=λc J=>c.1=none/\Y=J) ?_ (λc J q=>⟨q.1,q.2.2⟩) ⟨rfl,y4 k,rfl⟩) ?_)
  .rintro i ⟨r,l,e⟩ Z _ _ ⟨rfl,h2,rfl⟩;dsimp only at h2;refine bK (λ_=>IJ ⟨rfl,rfl⟩) λ(z:¬ l>=e)=>?_
   refine IE (kd hq hw.1 (show lo+k<N by omega) (show lo+(l+e) / 2<N by omega) λb=>?_);exact bK (λ_=>IJ ⟨rfl,(show(l+e) / 2<=k by omega),rfl⟩) λ_=>IJ ⟨rfl,h2,rfl⟩
  rintro ⟨r,l,e⟩ Z ⟨rfl,rfl⟩;exact IE (C7 hw.1 λar h3=>IJ ⟨rfl,hw.trans h3⟩)
 rintro ⟨r,u⟩ Y ⟨rfl,hw⟩;exact IJ (h Y hw)
end
def Ch:Nat->List (Nat×Nat×Nat)->Nat->Prop
 |a,[],b=>a=b
 |a,x::r,b=>x.1=a/\1<=x.2.1/\Ch (a+x.2.1) r b
theorem Ch.le:∀{a b:Nat}{l:List (Nat×Nat×Nat)},Ch a l b->a<=b
 | _,_,[],h=>Kl h
 | _,_,x::r,h=>IQ (J7 _ _) (Ch.le h.2.2)
theorem Ch.snoc:∀{a b n k:Nat}{l:List (Nat×Nat×Nat)},Ch a l b->1<=n->Ch a (l++[(b,n,k)]) (b+n)
 | _,_,_,_,[],h,J=>⟨h.symm,J,by rw[h];rfl⟩
 | _,_,_,_,x::r,h,J=>⟨h.1,h.2.1,Ch.snoc h.2.2 J⟩
theorem Ch.two:∀{a b i:Nat}{l:List (Nat×Nat×Nat)}{x y:Nat×Nat×Nat},Ch a l b->l[i]?=some x->l[i+1]?=some y->(1<=x.2.1/\1<=y.2.1/\y.1=x.1+x.2.1/\y.1+y.2.1<=b)/\Ch a ((l.set i (x.1,x.2.1+y.2.1,x.2.2)).eraseIdx (i+1)) b
 | _,_,_,[],_,_,_,h,_=>by simp at h
 | _,_,0,[x],_,_,_,_,h=>by simp at h
 |a,b,0,x::y::r,_,_,hc,h1,h2=>by
  simp only[getElem?_cons_zero,getElem?_cons_succ,ID,Kf]at h1 h2;subst h1;subst h2;obtain⟨J,Y,Z,c4,c5⟩:=hc;have:=Ch.le c5;refine⟨⟨Y,c4,by omega,by omega⟩,J,(by show 1<=_+_;omega),?_⟩;show Ch (a+(x.2.1+y.2.1)) r b;rw[<- Mw];exact c5
 |a,b,i+1,x::r,x',y',hc,h1,h2=>by
  obtain⟨J,Y,Z⟩:=hc;obtain⟨d1,d2⟩:=Ch.two (i:=i) Z (by simpa using h1) (by simpa using h2);exact⟨d1,J,Y,d2⟩
theorem Ch.mod:∀{a b i p:Nat}{l:List (Nat×Nat×Nat)},Ch a l b->Ch a (l.modify i λx=>(x.1,x.2.1,p)) b
 | _,_,i,_,[],h=>by cases i<;>exact h
 | _,_,0,_,x::r,h=>h
 | _,_,i+1,_,x::r,h=>⟨h.1,h.2.1,Ch.mod h.2.2⟩
section
variable{prog:Program}{w:World}{A:Around}{E:Value->Shared->Prop}{s:Shared}{g:SortKind}{P:Keyed->Prop}{st:SortSt}{N:Nat}
theorem fill(J:Nat):∀(l:List Keyed) (k:Nat) (a:Array Keyed),(∀p∈l,P p)->Al P a->Al P ((l.zipIdx k).foldl (λa x=>a.setIfInBounds (J+x.2) x.1) a)/\((l.zipIdx k).foldl (λa x=>a.setIfInBounds (J+x.2) x.1) a).size=a.size
 | [],k,a,_,h=>⟨h,rfl⟩
 |p::l,k,a,Z,h=>by
  rw[zipIdx_cons,foldl_cons];have h2:Al P (a.setIfInBounds (J+k) p):=λq Y=>by
   rcases Array.mem_or_eq_of_mem_setIfInBounds Y with z|z
   .exact h q z
   .rw[z];exact Z p (.head _)
  obtain⟨f1,f2⟩:=fill J l (k+1) (a.setIfInBounds (J+k) p) (λq Y=>Z q (.tail _ Y)) h2;exact⟨f1,f2.trans (Mp ..)⟩
def F0{x:SortSt}{Q:PUnit->SortSt->Prop}(h:∀J,x=J->Q ⟨⟩ J):wpS (model prog w) A E s (set x:StateT SortSt Sem PUnit) Q st:=by
 unfold wpS;rw[StateT.run_set];exact oe ⟨rfl,h _ rfl⟩
def Wr(g:SortKind)(P:Keyed->Prop)(N lo:Nat)(st:SortSt):Prop:=Wb g P N st/\Ch 0 (pendingOf st).toList lo
def BJ(hq:Ask prog w A s g P){i lo:Nat}{Q:Bool->SortSt->Prop}(hB:Wr g P N lo st)(bP:lo<=N)(hi:i+1<(pendingOf st).size)(h:∀Y,Wr g P N lo Y->Q true Y):wpS (model prog w) A E s (mergeAt' i) Q st:=by
 refine IE (wpS_get ?_);have e1:(pendingOf st)[i]?=some (pendingOf st)[i]:=by simp[show i<(pendingOf st).size by omega]
 have e2:(pendingOf st)[i+1]?=some (pendingOf st)[i+1]:=by simp[hi]
 obtain⟨⟨x1,x2,x3,x4⟩,x5⟩:=hB.2.two (i:=i) (by rw[Ju];exact e1) (by rw[Ju];exact e2);generalize (pendingOf st)[i]=x at e1 x1 x2 x3 x4 x5;generalize (pendingOf st)[i+1]=y at e2 x1 x2 x3 x4 x5;obtain⟨sa,na,pw⟩:=x;obtain⟨sb,nb,bT⟩:=y;dsimp only at x1 x2 x3 x4 x5;obtain⟨⟨hO,hz,hA⟩,hc⟩:=hB;rw[e1,e2];have pe:Ch 0 (((pendingOf st).setIfInBounds i (sa,na+nb,pw)).eraseIdxIfInBounds (i+1)).toList lo:=by
  rw[Array.toList_eraseIdxIfInBounds,Array.toList_setIfInBounds];exact x5
 refine IE (F0 λaL e0=>?_);have Z:Wr g P N lo aL:=by
  rw[<- e0];exact⟨⟨hO,hz,hA⟩,pe⟩
 clear e0;obtain⟨p1,f1,g1⟩:=hA.at (i:=sb) (by omega);refine IE (bF f1 (IE (gc hq Z.1.1 (λi hi=>hA.at (by omega)) g1 (show 0<na by omega) λk hk=>?_)));refine cY (λ_=>IJ (h _ Z)) λ(n1:na-k≠0)=>?_
 obtain⟨p2,f2,g2⟩:=hA.at (i:=sa+k+(na-k)-1) (by omega);refine IE (bF f2 (IE (gc hq Z.1.1 (λi hi=>hA.at (by omega)) g2 (show nb-1<nb by omega) λk2 cc=>?_)));refine cY (λ_=>IJ (h _ Z)) λ(n2:k2≠0)=>?_
 have z1:1<=((arrOf st).extract (sa+k) sb).size:=by rw[Jg];omega
 have z2:1<=((arrOf st).extract sb (sb+k2)).size:=by rw[Jg];omega
 have fin:∀(out:Array Keyed) (J:SortSt),Dn P ((arrOf st).extract (sa+k) sb) ((arrOf st).extract sb (sb+k2)) out->Eqv aL J->Wr g P N lo (setArr J (out.toList.zipIdx.foldl (λa x=>a.setIfInBounds (sa+k+x.2) x.1) (arrOf J))):=λout J d e=>by
  obtain⟨q1,q2⟩:=fill (P:=P) (sa+k) out.toList 0 (arrOf J) (λp hp=>d.2 p (Array.mem_toList_iff.mp hp)) (by rw[e.2.1];exact Z.1.2.2);exact⟨⟨⟨(Z.1.1.eqv e).1,(Z.1.1.eqv e).2⟩,q2.trans (by rw[e.2.1];exact Z.1.2.1),q1⟩,(by show Ch 0 (pendingOf J).toList lo;rw[e.2.2.1];exact Z.2)⟩
 have br:∀Y:SortSt,Wr g P N lo Y->(failedOf Y).isNone=true:=λY h=>by rw[h.1.1.2];rfl
 refine bK (λ_=>IE (FX hq Z.1.1 (hA.ext _ _) (hA.ext _ _) z1 z2 λout J d e=>?_)) λ_=>IE (FY hq Z.1.1 (hA.ext _ _) (hA.ext _ _) z1 z2 λout J d e=>?_)
 all_goals
  refine IE (Ls (IE (wpS_get (IJ ?_))));have w0:=fin out J d e;have:=br _ w0;refine Eq.mp ?_ (h _ w0);exact JD (λb=>Q b _) this.symm
theorem Wr.run{lo n:Nat}(h:Wr g P N lo st)(J:1<=n):Wr g P N (lo+n) (SortSt.mk' (kindOf st) (arrOf st) ((pendingOf st).push (lo,n,0)) (gallopOf st) (failedOf st)):=
 ⟨⟨⟨h.1.1.1,h.1.1.2⟩,h.1.2⟩,by
  show Ch 0 ((pendingOf st).push (lo,n,0)).toList (lo+n);rw[Array.toList_push];exact h.2.snoc J⟩
theorem Wr.pow{lo p:Nat}(h:Wr g P N lo st):Wr g P N lo (SortSt.mk' (kindOf st) (arrOf st) ((pendingOf st).modify ((pendingOf st).size-1) λx=>(x.1,x.2.1,p)) (gallopOf st) (failedOf st)):=
 ⟨⟨⟨h.1.1.1,h.1.1.2⟩,h.1.2⟩,by
  show Ch 0 ((pendingOf st).modify ((pendingOf st).size-1) λx=>(x.1,x.2.1,p)).toList lo;rw[Array.toList_modify];exact h.2.mod⟩
def idx{c:Prop} [Decidable c] {n:Nat} (h:¬ n<=1):(if c then n-2-1 else n-2)+1<n:=by split<;>omega
def w_runs(hq:Ask prog w A s g P){Q:Unit->SortSt->Prop}(hB:Wb g P N st)(hp:pendingOf st=#[])(h:∀J,Wb g P N J->Q () J):wpS (model prog w) A E s sortRuns' Q st:=by
 refine IE (wpS_get ?_);have hz:(arrOf st).size=N:=hB.2.1;refine IE (JY (Js (I:=λ_ c J=>c.1=none/\c.2<=N/\Wr g P N c.2 J) (Q:=λc J=>c.1=none/\∃lo,lo<=N/\Wr g P N lo J) ?_ (λc J q=>⟨q.1,c.2,q.2⟩) ⟨rfl,IY _,hB,by rw[hp];rfl⟩) ?_)
 .rintro i ⟨r,lo⟩ a1 _ hi ⟨rfl,Z,hW⟩;dsimp only at Z hW;refine bK (λ_=>IJ ⟨rfl,lo,Z,hW⟩) λ(z:¬ lo>=(arrOf st).size)=>?_
  refine IE (AG (lo:=lo) (nrem:=(arrOf st).size-lo) hq hW.1 (by omega) (by omega) λm a2 m1 m2 ao=>?_);have W2:Wr g P N lo a2:=⟨ao.1,by rw[ao.2];exact hW.2⟩;refine bK (λmr=>IE (LO (JT ⟨rfl,IE (FZ hq ao.1 (show lo+min ((arrOf st).size-lo) _<=N by omega) λa3 aL=>bK (λz=>by cases z) λ_=>have cc:1<=min ((arrOf st).size-lo) (minRun' (arrOf st).size (arrOf st).size 0)/\lo+min ((arrOf st).size-lo) (minRun' (arrOf st).size (arrOf st).size 0)<=N:=⟨by have:m<minRun' (arrOf st).size (arrOf st).size 0:=mr;omega,by omega⟩;have W3:Wr g P N lo a3:=⟨aL.1,by rw[aL.2];exact W2.2⟩;?_)⟩))) λ_=>have cc:1<=m/\lo+m<=N:=⟨m1,by omega⟩;have W3:=W2;?_
  all_goals
   obtain⟨c1,c2⟩:=cc;refine IE (wpS_get ?_);generalize Array.back? _=o;cases o with
   |none=>exact IE (Ls (IJ ⟨rfl,c2,W3.run c1⟩))
   |some x =>
    refine IE (JY (Js (I:=λ_ c J=>c.1=none/\Wr g P N lo J) (Q:=λc J=>c.1=none/\Wr g P N lo J) ?_ (λc J q=>q) ⟨rfl,W3⟩) ?_)
    .rintro j ⟨r,u⟩ Y _ _ ⟨rfl,W4⟩;refine IE (wpS_get ?_);dsimp only;generalize he:(if (pendingOf Y).size > 1 then(pendingOf Y)[(pendingOf Y).size-2]? else none)=o;cases o with
     |none=>exact IJ ⟨rfl,W4⟩
     |some y =>
      have hs:(pendingOf Y).size > 1:=by
       cases Nat.decLt 1 (pendingOf Y).size with
       |isTrue z=>exact z
       |isFalse z=>rw[if_neg z]at he;cases he
      refine bK (λ_=>IJ ⟨rfl,W4⟩) λ_=>?_
      exact IE (BJ hq W4 Z (show(pendingOf Y).size-2+1<(pendingOf Y).size by omega) λst5 W5=>bK (λz=>by cases z) λ_=>IJ ⟨rfl,W5⟩)
    rintro ⟨r,u⟩ Y ⟨rfl,W4⟩;exact IE (Ls (IE (Ls (IJ ⟨rfl,c2,(W4.pow (p:=_)).run c1⟩))))
 rintro ⟨r,bO⟩ a1 ⟨rfl,lo,Z,hW⟩;refine IE (JY (Js (I:=λ_ c J=>c.1=none/\Wr g P N lo J) (Q:=λc J=>c.1=none/\Wr g P N lo J) ?_ (λc J q=>q) ⟨rfl,hW⟩) ?_)
 .rintro j ⟨r,u⟩ Y _ _ ⟨rfl,W4⟩;refine IE (wpS_get ?_);refine bK (λ_=>IJ ⟨rfl,W4⟩) λ(z:¬ (pendingOf Y).size<=1)=>?_
  exact IE (BJ hq W4 Z (idx z) λst5 W5=>bK (λz=>by cases z) λ_=>IJ ⟨rfl,W5⟩)
 rintro ⟨r,u⟩ Y ⟨rfl,W4⟩;exact IJ (h _ W4.1)
end
end L2.Sw
namespace L2.Srt
open PySem PySem.W PySem.Calls PyProof.Rows List Option
section
variable{prog:Program}{w:World}{A:Around}{E:Value->Shared->Prop}{s:Shared}
def mH {KO:SortKind->Prop}{a:Addr}{vs:List Value}{n:Nat}{R:PySem.Fin->Shared->Prop} (ho:s.heap.get? a=some (seqObj "list" vs.toArray n)) (h2:2<=vs.length) (a4:vs.length<=10000)
  (hk:∀(s':Shared) (Q:SortKind->Shared->Prop),(∀b o,b≠a->s.heap.get? b=some o->s'.heap.get? b=some o)->(∀g,KO g->Q g s')->wpAny (model prog w) A (keyKind' vs.toArray) Q (λ_ _=>False) s')
  (hc:∀g,KO g->∀(s':Shared) (u v:Value) (C:Bool->Shared->Prop),(∀b o,b≠a->s.heap.get? b=some o->s'.heap.get? b=some o)->u∈vs->v∈vs->(∀b,C b s')->wpAny (model prog w) A (keyLt' g u v) C (λ_ _=>False) s')
  (h:∀out:Array Value,out.size=vs.length->(∀v∈out,v∈vs)->R (.done (.ret .none)) { s with heap:=sortedHeap s.heap a vs out }) :
  wpAny (model prog w) A (Builtin.«list.sort» ⟨[.ref a],[]⟩) R E s:=by
 rw[list_sort_plain];have ha:a<s.heap.objs.size:=IG ho;refine gf (listItems_at ho rfl ?_);refine gf (LA ho rfl ?_ (by rw[B1,Jw];omega) (IY _));obtain⟨e1,ao⟩:∃e1,(s.heap.update a (Obj.mapSeq λ_=>(#[]:Array Value))).get? a=some (seqObj "list" #[] e1):=⟨_,get?_update_seq ho λ_=>#[]⟩;refine gf (LR ao rfl ?_);refine gf (wpAny_newTuple ?_ (by show vs.length<=_;rw[Jw];omega));refine gf (LB ?_ (IY _));refine Jj ?_;have ar:(((s.heap.update a (Obj.mapSeq λ_=>(#[]:Array Value))).push (seqObj "tuple" vs.toArray 0)).push (seqObj "list" #[] 0)).get? a=some (seqObj "list" #[] e1):=ox _ (ox _ ao);have kp:∀b o,b≠a->s.heap.get? b=some o->(((s.heap.update a (Obj.mapSeq λ_=>(#[]:Array Value))).push (seqObj "tuple" vs.toArray 0)).push (seqObj "list" #[] 0)).get? b=some o:=λb o hb e =>
  ox _ (ox _ ((JK _ _ (JF hb)).trans e))
 show wpAny (model prog w) A _ R E { s with heap:=((s.heap.update a (Obj.mapSeq λ_=>(#[]:Array Value))).push (seqObj "tuple" vs.toArray 0)).push (seqObj "list" #[] 0) };dsimp only;have a6:vs.toArray.size=vs.length:=by simp
 rw[if_neg (by omega),if_neg (by omega)];refine gf (Jn (hk _ (λg s0=>KO g/\s0={ s with heap:=((s.heap.update a (Obj.mapSeq λ_=>(#[]:Array Value))).push (seqObj "tuple" vs.toArray 0)).push (seqObj "list" #[] 0) }) kp λg J=>⟨J,rfl⟩) (λg s0 J=>?_) λ_ _ x=>x.elim);obtain⟨J,rfl⟩:=J;have hP:∀p∈vs.toArray.zip vs.toArray,∃v∈vs,p=(v,v):=λp hp=>by
  obtain⟨i,hi,e⟩:=Array.getElem_of_mem hp;have a1:i<vs.length:=by simpa using hi
  refine⟨vs[i],J5 a1,?_⟩;rw[<- e];simp
 refine gf (Jn (Sw.w_runs (P:=λp=>∃v∈vs,p=(v,v)) (N:=vs.length) (g:=g) (st:=SortSt.mk' g (vs.toArray.zip vs.toArray) #[] 7 none) (Q:=λ_ Y=>Sw.Wb g (λp=>∃v∈vs,p=(v,v)) vs.length Y) (λx y ⟨u,hu,ex⟩ ⟨v,hv,ey⟩ C hC=>by
  rw[ex,ey];exact hc g J _ u v C kp hu hv hC) ⟨⟨rfl,rfl⟩,by show(vs.toArray.zip vs.toArray).size=_;simp,hP⟩ rfl λY q=>q) ?_ λ_ _ e=>e)
 rintro ⟨⟨⟩,Y⟩ s' ⟨rfl,hb⟩;dsimp only at hb ⊢;have Z:((arrOf Y).map (·.2)).size=vs.length:=by rw[K0];exact hb.2.1
 refine gf (LR ar rfl ?_);refine gf (LA ar rfl ?_ (IY _) (by rw[Z,Jw];omega));rw[hb.1.2];simp only[Kr,IU,JS];refine oe (h _ Z λv hv=>?_);obtain⟨p,hp,rfl⟩:=Array.mem_map.mp hv;obtain⟨v,a2,ep⟩:=hb.2.2 p hp;rw[ep];exact a2
end
end L2.Srt
namespace L2
open PySem PySem.Spec PyProof.Rows List Option
namespace Srt
open PySem PySem.W PySem.Calls PyProof.Rows List Option
section
variable{P:Program}{w:World}{A:Around}{E:Value->Shared->Prop}{s:Shared}
def q_{x:Value}{vs:List Value}{tss:List (List Int)}{Q:Value->Shared->Prop}(h2:2<=vs.length)(ao:vs.length<=10000)(hu:A.units+2<cLine)
  (hv:Paired (λu ts=>∃a its,u=Value.ref a/\IsTup s.heap a its/\IntsAre its.toList ts) vs tss)
  (Y:∀(Q':List Value->Shared->Prop),(∀(h':Heap),(∀b o,s.heap.get? b=some o->h'.get? b=some o)->Q' vs { s with heap:=h' })->wpAny (model P w) A.in1 (collect x) Q' E s)
  (h:∀(h1 h':Heap) (out:Array Value) (c:Nat),(∀b o,s.heap.get? b=some o->h1.get? b=some o)->(∀b o,h1.get? b=some o->h'.get? b=some o)->h'.get? h1.objs.size=some { cls:=.type "list",data:=.seq out c }->out.size=vs.length->(∀v∈out,v∈vs)->Q (.ref h1.objs.size) { s with heap:=h' }) :
  wpAny (model P w) A (call (.builtin "sorted") [x]) Q E s:=by
 refine Lf kind_sorted plain_sorted entry_sorted (args_sorted1 _) ?_;unfold Builtin.«sorted»;refine gf (m:=checkCount "sorted" 1 1 _) (oe ?_);refine gf (Y _ λh1 kp=>?_);refine gf (LB ?_ (by rw[Jw];omega));have J:(h1.push (seqObj "list" vs.toArray 0)).get? h1.objs.size=some (seqObj "list" vs.toArray 0):=IH _ rfl;have at_:∀(s':Shared),(∀b o,b≠h1.objs.size->(h1.push (seqObj "list" vs.toArray 0)).get? b=some o->s'.heap.get? b=some o)->∀v∈vs,∃a its ns,v=.ref a/\IsTup s'.heap a its/\IntsAre its.toList ns:=λs' k v hm=>by
  have gen:∀{us:List Value}{Z:List (List Int)},Paired (λu ts=>∃a its,u=Value.ref a/\IsTup s.heap a its/\IntsAre its.toList ts) us Z->∀v∈us,∃a its ns,v=.ref a/\IsTup s.heap a its/\IntsAre its.toList ns:=by
   intro us Z hp
   induction hp with
   |nil=>intro v hv;cases hv
   |cons q _ ih =>
    intro v hv;rcases IM.mp hv with rfl|hv
    .obtain⟨a,its,e,r⟩:=q;exact⟨a,its,_,e,r⟩
    .exact ih v hv
  obtain⟨a,its,ns,e,⟨o,ho,r⟩,a1⟩:=gen hv v hm;have ac:=kp a o ho;exact⟨a,its,ns,e,⟨o,k a o (IP (IG ac)) (ox _ ac),r⟩,a1⟩
 refine gf (Jj (Jh slot_list_sort ⟨_,J,rfl⟩ entry_list_sort (mH (KO:=KOk) J h2 ao (λs' Q' k q=>oC h2 (at_ s' k) q) (λg a2 s' u v C k a3 a4 q=>?_) λout hz hm=>⟨_,rfl,?_⟩) (args_list_sort _)))
 .obtain⟨a,its,ns,e,r1,r2⟩:=at_ s' k u a3;obtain⟨a',its',bG,e',a5,a6⟩:=at_ s' k v a4;rw[e,e'];exact ue a2 r1 a5 r2 a6 (show A.units+1+1<cLine from hu) (q _)
 .obtain⟨c,hc⟩:=sortedHeap_at (out:=out) (vs:=vs) J;refine oe ⟨_,rfl,h h1 _ out c kp (λb o e=>?_) hc hz hm⟩;have hb:b<h1.objs.size:=IG e;rw[sortedHeap_old (IP hb) (by rw[Jf];exact Jk hb)];exact ox _ e
end
end Srt
section
variable{X:Cx}
theorem oO{vs:List V}{us:List Value}(h:aF vs us):∀(l:List Value),(∀v∈l,v∈us)->∃ws:List V,aF ws l
 | [],_=>⟨[],.nil⟩
 |v::l,Y=>by
  obtain⟨ws,q⟩:=oO h l λu hu=>Y u (.tail _ hu)
  obtain⟨i,hi,e⟩:=Lq (Y v (.head _));have J:i<vs.length:=by have:=h.length;omega
  obtain⟨u,Z,e2⟩:=h.get (i:=i) (x:=vs[i]) (IF J);rw[IF hi,e]at Z;cases Z;exact⟨vs[i]::ws,.cons e2 q⟩
def C8(X:Cx):List V->Hp->VK->Prop:=λxs H Q=>∃(p:Addr) (vs:List V) (tss:List (List Int)),xs=[.ref p]/\(SqL X.K H p vs\/SqT X.K H p vs)/\qU X.K H vs tss/\2<=tss.length/\tss.length<=10000 /\
 ∀(l:Addr) (ws:List V),H l=none->ws.length=vs.length->Q (.ref l) (upd H l (.lst ws))
def pO (hu:X.A.units+64<cLine):bW X (.builtin "sorted") (C8 X):=by
 intro pins s σ H xs us Q I r h;obtain⟨p,vs,tss,rfl,hq,ht,h2,a4,q⟩:=h;obtain⟨u,rfl,rx⟩:=dW r;cases rx;have key:∀(its:List Value),aF vs its->vs.length<=sizeLine->(∀(Q':List Value->Shared->Prop),(∀(h':Heap),(∀b o,s.heap.get? b=some o->h'.get? b=some o)->Q' its { s with heap:=h' })->wpAny (model X.prog X.w) X.A.in1 (collect (.ref p)) Q' X.xe s) ->
   wpAny (model X.prog X.w) X.A (call (.builtin "sorted") [.ref p]) (EP X pins σ Q) X.xe s:=λits J hz ao=>by
  have hl:=J.length;have a8:=ht.len;refine Srt.q_ (vs:=its) (tss:=tss) (by omega) (by omega) (by omega) (I.tupsAt ht J) ao λh1 h' out c k1 k2 e ho hm=>?_
  obtain⟨ws,ar⟩:=oO J out.toList λv hv=>hm v (Array.mem_toList_iff.mp hv)
  have aL:ws.length=vs.length:=by rw[ar.length,Array.length_toList,ho,hl]
  have I1:Inv X pins σ H { s with heap:=h1 }:=I.kept (t':=s.toks) k1;have I2:Inv X pins σ (upd H h1.objs.size (.lst ws)) { s with heap:=h' }:=
   I1.laid (t':=s.toks) k2 (y4 _) (show bD X.prog X.w _ h' _ (.lst _)from⟨by rw[aL];exact hz,_,c,ar,by simpa using e⟩)
  exact⟨.ref h1.objs.size,_,I2,rfl,q _ ws (I1.hok.fresh (y4 _)) aL⟩
 rcases hq with hq|hq
 .obtain⟨its,J,pl,hz⟩:=I.list hq;obtain⟨o,ho,Y,n,hd⟩:=pl.isList;refine key its J hz λQ' Z=>Kv p (.inl rfl) ho Y hd (λh' kp=>?_) (by have:=J.length;simp only[B1]<;>omega)
  have:=Z h' kp;simpa using this
 .obtain⟨its,J,pl,hz⟩:=I.tuple hq;obtain⟨o,ho,Y,n,hd⟩:=pl;refine key its J hz λQ' Z=>Kv p (.inr rfl) ho Y hd (λh' kp=>?_) (by have:=J.length;simp only[B1]<;>omega)
  have:=Z h' kp;simpa using this
end
end L2
namespace MM
open PySem List Option
inductive Sc where
 | non|bl (b:Bool)|int (i:Int)|str (x:Str)
 deriving Inhabited,DecidableEq
inductive DD where
 | k (kvs:List (Int×Sc))|t (kvs:List (List Int×Sc))
 deriving Inhabited
inductive PV where
 | non|bl (b:Bool)|int (i:Int)|str (x:Str)|tup (xs:List PV)|lst (xs:List PV)|dI (d:DD)
 deriving Inhabited
noncomputable def Sc.pv:Sc->PV
 | .non=>.non
 | .bl b=>.bl b
 | .int i=>.int i
 | .str x=>.str x
noncomputable def sc?:PV->Option Sc
 | .non=>some .non
 | .bl b=>some (.bl b)
 | .int i=>some (.int i)
 | .str x=>some (.str x)
 | _=>none
noncomputable def cJ{α:Type} [DecidableEq α] (kvs:List (α×Sc)) (k:α):Option Sc:=(kvs.find? λp=>decide (p.1=k)).map (·.2)
noncomputable def cZ{α:Type} [DecidableEq α] (kvs:List (α×Sc)) (k:α) (v:Sc):List (α×Sc):=
 if (kvs.any λp=>decide (p.1=k))=true then kvs.map (λp=>if p.1=k then(p.1,v)else p)else kvs++[(k,v)]
noncomputable def eqL(f:PV->PV->Option Bool):List PV->List PV->Option Bool
 | [],[]=>some true
 |x::xs,y::ys=>(f x y).bind λp=>(eqL f xs ys).map λq=>p&&q
 | _,_=>some false
noncomputable def eqF:Nat->PV->PV->Option Bool
 | _,.non,.non=>some true
 | _,.bl a,.bl b=>some (a==b)
 | _,.bl a,.int b=>some ((if a then 1 else 0)==b)
 | _,.int a,.bl b=>some (a==(if b then 1 else 0))
 | _,.int a,.int b=>some (a==b)
 | _,.str a,.str b=>some (a==b)
 |0,.tup _,.tup _=>none
 |0,.lst _,.lst _=>none
 | _,.dI _,_=>none
 | _,_,.dI _=>none
 |n+1,.tup a,.tup b=>eqL (eqF n) a b
 |n+1,.lst a,.lst b=>if a.length=b.length then eqL (eqF n) a b else some false
 | _,_,_=>some false
noncomputable def ra:PV->PV->Bool
 | .tup _,.tup _=>true
 | .lst _,.lst _=>true
 | .tup _,_=>false
 | _,.tup _=>false
 | .lst _,_=>false
 | _,.lst _=>false
 | .bl _,.int _=>false
 | .int _,.bl _=>false
 | .dI _,_=>false
 | _,.dI _=>false
 | _,_=>true
noncomputable def inL(f:PV->Option Bool):List PV->Option Bool
 | []=>some false
 |y::ys=>(f y).bind λp=>(inL f ys).map λq=>p||q
inductive MV where
 | val (v:PV)|own (xs:List PV)|brw (xs:List PV)|ownD (d:DD)|brwD (d:DD)
 | ownL (xss:List (List PV))
 deriving Inhabited
noncomputable abbrev Rho:=List (Option MV)
inductive Op2 where
 | add|sub|mul|fdiv|mod|pow|shr
inductive Cp where
 | eq|ne|lt|le|gt|ge|isN|notN|isIn|notIn
inductive Blt where
 | len|tupleOf|listOf|sorted|any|all|sum|max1|min1|max2|min2|intOf|boolOf|isInt|isBool|isStr|isList|isTuple
 | sortedSet|lenSet|lenSetSub|sortedKeys|valuesOf|tupleRev
 deriving DecidableEq
inductive Sk where
 | seq|rng|enm|rev
set_option genInjectivity false in
inductive ME where
 | var (i:Nat)
 | bor (i:Nat)
 | cst (v:PV)
 | glob (x:Str) (v:PV)
 | bin (op:Op2) (a b:ME)
 | neg (a:ME)
 | not (a:ME)
 | and (a b:ME)
 | or (a b:ME)
 | ite (c a b:ME)
 | cmp (op:Cp) (a b:ME)
 | chain (op op':Cp) (a b c:ME)
 | tup (es:List ME)
 | lst (es:List ME)
 | idx (a i:ME)
 | slice (a lo hi:ME)
 | blt (b:Blt) (es:List ME)
 | call (f:Nat) (es:List ME)
 | callD (f:Nat) (es:List ME) (d:List Sc)
 | comp (k:Sk) (src:List ME) (js:List Nat) (cond elt:ME)
 | dget (a k d:ME)
 | dat (a k:ME)
 | dIn (neg:Bool) (k a:ME)
 deriving Inhabited
noncomputable def bw:List PV->Option (List Int)
 | []=>some []
 | .int i::r=>(bw r).map (i::·)
 | _=>none
noncomputable def iM:List PV->Option (List (List Int))
 | []=>some []
 | .tup xs::r=>(bw xs).bind λx=>(iM r).map (x::·)
 | _=>none
noncomputable def fN:List PV->Option (List Bool)
 | []=>some []
 | .bl i::r=>(fN r).map (i::·)
 | _=>none
noncomputable def vS:PV->PV->Option (Option Sc)
 | .dI (.k kvs),.int i=>some (cJ kvs i)
 | .dI (.t kvs),.tup xs=>(bw xs).map (cJ kvs)
 | _,_=>none
noncomputable def sD:DD->PV->Sc->Option DD
 | .k kvs,.int i,s=>if kvs.length<10000 then some (.k (cZ kvs i s))else none
 | .t kvs,.tup xs,s=>(bw xs).bind λk=>if kvs.length<10000 then some (.t (cZ kvs k s))else none
 | _,_,_=>none
noncomputable def dSc:DD->List Sc
 | .k kvs=>kvs.map (·.2)
 | .t kvs=>kvs.map (·.2)
noncomputable def kR(d:DD):List PV:=(dSc d).map Sc.pv
noncomputable def lexLt:List Int->List Int->Bool
 | [],[]=>false
 | [],_::_=>true
 | _::_,[]=>false
 |x::xs,y::ys=>if x=y then lexLt xs ys else decide (x<y)
noncomputable def xO(x:Int):List Int->List Int
 | []=>[x]
 |y::r=>if y<x then y::xO x r else x::y::r
noncomputable def sortI:List Int->List Int
 | []=>[]
 |x::r=>xO x (sortI r)
noncomputable def xP(x:List Int):List (List Int)->List (List Int)
 | []=>[x]
 |y::r=>if lexLt y x=true then y::xP x r else x::y::r
noncomputable def sortT:List (List Int)->List (List Int)
 | []=>[]
 |x::r=>xP x (sortT r)
noncomputable def dd:List Int->List Int
 | []=>[]
 |x::r=>if x∈dd r then dd r else x::dd r
noncomputable def jo{α:Type}(f:Int->Int->Option α):PV->PV->Option α
 | .int i,.int j=>f i j
 | _,_=>none
noncomputable def BK:PV->PV->Option PV
 | .int i,.int j=>some (.int (i+j))
 | .lst a,.lst b=>if a.length+b.length<=10000 then some (.lst (a++b))else none
 | .tup a,.tup b=>if a.length+b.length<=10000 then some (.tup (a++b))else none
 | .str a,.str b=>if a.length+b.length<=1000000 then some (.str (a++b))else none
 | _,_=>none
noncomputable def gQ(op:Op2):PV->PV->Option PV:=match op with
 | .add=>BK
 | .sub=>jo λi j=>some (.int (i-j))
 | .mul=>jo λi j=>if (-(2 ^ 64)<i/\i<2 ^ 64)\/(-(2 ^ 64)<j/\j<2 ^ 64)then some (.int (i*j))else none
 | .fdiv=>jo λi j=>if 0<j/\j<1073741824 then some (.int (i / j))else none
 | .mod=>jo λi j=>if 0<j then some (.int (i % j))else none
 | .pow=>jo λi j=>if 0<=j/\j<=1000000/\i.natAbs<2 ^ 64 then some (.int (i ^ j.toNat))else none
 | .shr=>jo λi j=>if 0<=j then some (.int (i / 2 ^ j.toNat))else none
noncomputable def rb:PV->Bool
 | .non=>true
 | _=>false
noncomputable def isIn(x:PV)(xs:List PV):Option Bool:=inL (λy=>eqF 100 y x) xs
noncomputable def F1(a b:PV):Option Bool:=match b with
 | .non=>some (rb a)
 | .bl q=>(match a with|.bl p=>some (p==q)|_=>none)
 | _=>none
noncomputable def aZ:PV->Option (List PV)
 | .tup xs=>some xs
 | .lst xs=>some xs
 | _=>none
noncomputable def gY:PV->Option (List PV)
 | .lst xs=>some xs
 | _=>none
noncomputable def cO(op:Cp):PV->PV->Option Bool:=match op with
 | .eq=>eqF 100
 | .ne=>λa b=>if ra a b=true then(eqF 100 a b).map λp=>!p else none
 | .lt=>jo λi j=>some (decide (i<j))
 | .le=>jo λi j=>some (decide (i<=j))
 | .gt=>jo λi j=>some (decide (j<i))
 | .ge=>jo λi j=>some (decide (j<=i))
 | .isN=>F1
 | .notN=>λa b=>(F1 a b).map λp=>!p
 | .isIn=>λa b=>(aZ b).bind (isIn a)
 | .notIn=>λa b=>((aZ b).bind (isIn a)).map λp=>!p
noncomputable def place(n:Nat)(i:Int):Option Nat:=
 if 0<=i then(if i<n then some i.toNat else none)else if -(n:Int)<=i then some (i+n).toNat else none
noncomputable def mI:PV->PV->Option PV
 | .tup xs,.int i=>(place xs.length i).bind λj=>xs[j]?
 | .lst xs,.int i=>(place xs.length i).bind λj=>xs[j]?
 | _,_=>none
noncomputable def ig(n d:Nat):Option Int->Nat
 |none=>d
 |some i=>if i<0 then(i+n).toNat else min i.toNat n
noncomputable def cut(xs:List PV)(lo hi:Option Int):List PV:=(xs.drop (ig xs.length 0 lo)).take (ig xs.length xs.length hi-ig xs.length 0 lo)
noncomputable def lw:PV->Option Int->Option Int->Option PV
 | .lst xs,lo,hi=>some (.lst (cut xs lo hi))
 | .tup xs,lo,hi=>some (.tup (cut xs lo hi))
 | _,_,_=>none
noncomputable def bnd:ME->PV->Option (Option Int)
 | .cst .non,_=>some none
 | _,.int i=>some (some i)
 | _,_=>none
noncomputable def vT:List Int->Option Int
 | []=>none
 |x::r=>some (r.foldl (λa b=>if a<b then b else a) x)
noncomputable def gz(xs:List PV):Option PV:=
 if xs.length<64 then
  match bw xs with
  |some ns=>some (.lst ((sortI ns).map .int))
  |none=>(iM xs).map λJ=>.lst ((sortT J).map λt=>.tup (t.map .int))
 else none
noncomputable def isT(b:Blt):PV->Bool
 | .int _=>b==.isInt
 | .bl _=>b==.isInt||b==.isBool
 | .str _=>b==.isStr
 | .lst _=>b==.isList
 | .tup _=>b==.isTuple
 | .non=>false
 | .dI _=>false
noncomputable def isD:PV->Bool
 | .dI _=>true
 | _=>false
noncomputable def cF(vs:List PV)(f:PV->Option PV):Option PV:=match vs with
 | [a]=>f a
 | _=>none
noncomputable def li(vs:List PV)(f:PV->PV->Option PV):Option PV:=match vs with
 | [a,b]=>f a b
 | _=>none
noncomputable def ii(b:Blt)(vs:List PV):Option PV:=cF vs λa=>if isD a=true then none else some (.bl (isT b a))
noncomputable def BL:PV->Option PV
 | .tup xs=>some (.int xs.length)
 | .lst xs=>some (.int xs.length)
 | .dI (.k kvs)=>some (.int kvs.length)
 | _=>none
noncomputable def aH(b:Blt)(vs:List PV):Option PV:=match b with
 | .len=>cF vs BL
 | .tupleOf=>cF vs λa=>(aZ a).map .tup
 | .listOf=>cF vs λa=>(aZ a).map .lst
 | .sorted=>cF vs λa=>(aZ a).bind gz
 | .any=>cF vs λa=>(gY a).bind λxs=>(fN xs).map λbs=>.bl (bs.any id)
 | .all=>cF vs λa=>(gY a).bind λxs=>(fN xs).map λbs=>.bl (bs.all id)
 | .sum=>cF vs λa=>(gY a).bind λxs=>(bw xs).map λns=>.int ns.sum
 | .max1=>cF vs λa=>(gY a).bind λxs=>(bw xs).bind λns=>(vT ns).map .int
 | .min1=>none
 | .max2=>li vs (jo λi j=>some (.int (if j > i then j else i)))
 | .min2=>li vs (jo λi j=>some (.int (if j<i then j else i)))
 | .intOf=>cF vs λa=>match a with|.int i=>some (.int i)|.bl b=>some (.int (if b then 1 else 0))|_=>none
 | .boolOf=>cF vs λa=>match a with|.bl b=>some (.bl b)|_=>none
 | .isInt=>ii .isInt vs
 | .isBool=>ii .isBool vs
 | .isStr=>ii .isStr vs
 | .isList=>ii .isList vs
 | .isTuple=>ii .isTuple vs
 | .sortedSet=>cF vs λa=>(aZ a).bind λxs=>(bw xs).bind λns=>if ns.length<=4000/\(dd ns).length<64 then some (.lst ((sortI (dd ns)).map .int))else none
 | .lenSet=>cF vs λa=>(aZ a).bind λxs=>(bw xs).bind λns=>if ns.length<=4000 then some (.int (dd ns).length)else none
 | .lenSetSub=>li vs λa b=>(aZ a).bind λxs=>(bw xs).bind λns=>(aZ b).bind λys=>(bw ys).bind λms =>
   if ns.length<=4000/\ms.length<=4000/\(dd ns).length<=60 then some (.int ((dd ns).filter λn=>!decide (n∈ms)).length)else none
 | .sortedKeys=>cF vs λa=>match a with|.dI (.k kvs)=>if kvs.length<64 then some (.lst ((sortI (kvs.map (·.1))).map .int))else none|_=>none
 | .tupleRev=>cF vs λa=>(gY a).map λxs=>.tup xs.reverse
 | .valuesOf=>cF vs λa=>match a with|.dI d=>if (kR d).length<=10000 then some (.lst (kR d))else none|_=>none
noncomputable def c7(n:Nat):List PV->List PV
 | []=>[]
 |x::r=>.tup [.int (n:Nat),x]::c7 (n+1) r
noncomputable def bN:Sk->List PV->Option (List PV)
 | .seq,[a]=>aZ a
 | .rng,[.int j]=>if -(2 ^ 62)<=j/\j<2 ^ 62 then some ((range j.toNat).map λ(k:Nat)=>.int ((0:Int)+k))else none
 | .rng,[.int i,.int j]=>if -(2 ^ 62)<=i/\i<2 ^ 62/\-(2 ^ 62)<=j/\j<2 ^ 62 then some ((range (j-i).toNat).map λ(k:Nat)=>.int (i+k))else none
 | .enm,[a]=>(aZ a).map (c7 0)
 | .rev,[.lst xs]=>some xs.reverse
 | _,_=>none
noncomputable def fO(c:PV->Option Bool)(f:PV->Option PV):List PV->Option (List PV)
 | []=>some []
 |x::r=>(c x).bind λb=>if b=true then(f x).bind λy=>(fO c f r).map (y::·)else fO c f r
noncomputable def bg:PV->Option Bool
 | .bl b=>some b
 | _=>none
noncomputable abbrev Cal:=Nat->List MV->Option PV
noncomputable def xQ:Option MV->Option PV
 |some (.val v)=>some v
 | _=>none
noncomputable def bA:Option MV->Option PV
 |some (.val v)=>some v
 |some (.own xs)=>some (.lst xs)
 |some (.brw xs)=>some (.lst xs)
 |some (.ownD kvs)=>some (.dI kvs)
 |some (.brwD kvs)=>some (.dI kvs)
 |some (.ownL _)=>none
 |none=>none
noncomputable def eX:Option MV->Option MV
 |some (.val v)=>some (.val v)
 |some (.own xs)=>some (.brw xs)
 |some (.brw xs)=>some (.brw xs)
 |some (.ownD xs)=>some (.brwD xs)
 |some (.brwD xs)=>some (.brwD xs)
 |some (.ownL _)=>none
 |none=>none
noncomputable def fB:Option MV->Option MV
 |some (.own xs)=>some (.brw xs)
 |some (.ownD xs)=>some (.brwD xs)
 |some (.ownL _)=>none
 |o=>o
noncomputable def db(js:List Nat)(M:Rho)(x:PV):Rho:=some (.val x)::js.map λj=>fB (M[j]?).join
mutual
noncomputable def ev(cal:Cal):ME->Rho->Option PV
 | .var i,M=>xQ (M[i]?).join
 | .bor i,M=>bA (M[i]?).join
 | .cst v,_=>some v
 | .glob _ v,_=>some v
 | .bin op a b,M=>(ev cal a M).bind λx=>(ev cal b M).bind λy=>gQ op x y
 | .neg a,M=>(ev cal a M).bind λx=>match x with|.int i=>some (.int (-i))|_=>none
 | .not a,M=>((ev cal a M).bind bg).map λb=>.bl (!b)
 | .and a b,M=>((ev cal a M).bind bg).bind λc=>if c=true then(ev cal b M).bind λy=>(bg y).map .bl else some (.bl false)
 | .or a b,M=>((ev cal a M).bind bg).bind λc=>if c=true then some (.bl true)else(ev cal b M).bind λy=>(bg y).map .bl
 | .ite c a b,M=>((ev cal c M).bind bg).bind λk=>if k=true then ev cal a M else ev cal b M
 | .cmp op a b,M=>(ev cal a M).bind λx=>(ev cal b M).bind λy=>(cO op x y).map .bl
 | .chain op J a b c,M=>(ev cal a M).bind λx=>(ev cal b M).bind λy=>(cO op x y).bind λk=>if k=true then(ev cal c M).bind λz=>(cO J y z).map .bl else some (.bl false)
 | .tup es,M=>(evs cal es M).bind λvs=>if vs.length<=10000 then some (.tup vs)else none
 | .lst es,M=>(evs cal es M).bind λvs=>if vs.length<=10000 then some (.lst vs)else none
 | .idx a i,M=>(ev cal a M).bind λx=>(ev cal i M).bind λy=>mI x y
 | .slice a lo hi,M=>(ev cal a M).bind λx=>((ev cal lo M).bind λl=>bnd lo l).bind λl=>((ev cal hi M).bind λh=>bnd hi h).bind λh=>lw x l h
 | .blt b es,M=>(evs cal es M).bind λvs=>aH b vs
 | .call f es,M=>(evA cal es M).bind λvs=>cal f vs
 | .callD f es d,M=>(evA cal es M).bind λvs=>cal f (vs++d.map λx=>.val x.pv)
 | .comp k src js cond elt,M=>(evs cal src M).bind λvs=>(bN k vs).bind λxs =>
   if xs.length<=10000 then(fO (λx=>(ev cal cond (db js M x)).bind bg) (λx=>ev cal elt (db js M x)) xs).map .lst else none
 | .dget a k d,M=>(ev cal a M).bind λx=>(ev cal k M).bind λy=>(ev cal d M).bind λz=>(vS x y).bind λo=>(sc? z).map λs=>(o.getD s).pv
 | .dat a k,M=>(ev cal a M).bind λx=>(ev cal k M).bind λy=>(vS x y).bind λo=>o.map Sc.pv
 | .dIn neg k a,M=>(ev cal k M).bind λy=>(ev cal a M).bind λx=>(vS x y).map λo=>.bl (if neg=true then !o.isSome else o.isSome)
noncomputable def evs(cal:Cal):List ME->Rho->Option (List PV)
 | [],_=>some []
 |e::es,M=>(ev cal e M).bind λv=>(evs cal es M).map (v::·)
noncomputable def evA(cal:Cal):List ME->Rho->Option (List MV)
 | [],_=>some []
 | .bor i::es,M=>(eX (M[i]?).join).bind λv=>(evA cal es M).map (v::·)
 |e::es,M=>(ev cal e M).bind λv=>(evA cal es M).map (MV.val v::·)
end
noncomputable def evB(cal:Cal)(e:ME)(M:Rho):Option Bool:=(ev cal e M).bind bg
set_option genInjectivity false in
inductive MS where
 | set (i:Nat) (e:ME)
 | setOwn (i:Nat) (e:ME)
 | freeze (i:Nat)
 | append (i:Nat) (e:ME)
 | extend (i:Nat) (e:ME)
 | setL (i n:Nat)
 | setLN (i:Nat) (e:ME)
 | appI (i:Nat) (k e:ME)
 | freezeL (i:Nat)
 | setIdx (i:Nat) (k v:ME)
 | unpack (is:List Nat) (e:ME)
 | expr (e:ME)
 | ite (c:ME) (a b:List MS)
 | for1 (i:Nat) (k:Sk) (src:List ME) (body:List MS)
 | forT (is:List Nat) (k:Sk) (src:List ME) (body:List MS)
 | while (n:Nat) (c:ME) (body:List MS)
 | ret (e:ME)
 | retOwn (i:Nat)
 | retN
 | brk
 | cont
 | pass
 | never
 | newD (m:Bool) (i:Nat)
 | retF (e:ME)
 | setCall (i f:Nat) (es:List ME)
 | clear (i:Nat)
 | dput (i:Nat) (k v:ME)
 deriving Inhabited
inductive R where
 | next (M:Rho)|brk (M:Rho)|cont (M:Rho)|ret (v:PV)|bad
 | retF (xs:List PV)
 deriving Inhabited
noncomputable def R.andThen:R->(Rho->R)->R
 | .next M,k=>k M
 |r,_=>r
noncomputable def put(M:Rho)(i:Nat)(v:MV):Rho:=M.set i (some v)
noncomputable def dH(o:Option PV)(k:PV->R):R:=match o with
 |some v=>k v
 |none=>.bad
noncomputable def xR(o:Option Bool)(k:Bool->R):R:=match o with
 |some v=>k v
 |none=>.bad
noncomputable def pP:List Nat->List PV->Rho->Option Rho
 | [],[],M=>some M
 |i::is,v::vs,M=>pP is vs (put M i (.val v))
 | _,_,_=>none
noncomputable def eY(is:List Nat):PV->Rho->Option Rho
 | .tup vs,M=>pP is vs M
 | _,_=>none
noncomputable def dA(o:Option Rho)(f:Rho->R):R:=match o with
 |some M=>f M
 |none=>.bad
noncomputable def aM(body:PV->Rho->R):List PV->Rho->R
 | [],M=>.next M
 |x::r,M=>match body x M with
  | .next C=>aM body r C
  | .cont C=>aM body r C
  | .brk C=>.next C
  | .ret v=>.ret v
  | .bad=>.bad
  | .retF xs=>.retF xs
noncomputable def pQ(c:Rho->Option Bool)(body:Rho->R):Nat->Rho->R
 |0,_=>.bad
 |n+1,M=>match c M with
  |none=>.bad
  |some false=>.next M
  |some true=>match body M with
   | .next C=>pQ c body n C
   | .cont C=>pQ c body n C
   | .brk C=>.next C
   | .ret v=>.ret v
   | .bad=>.bad
   | .retF xs=>.retF xs
noncomputable def bu(src:List ME)(M:Rho):Rho:=match src with
 | [.bor i]=>(match (M[i]?).join with|some (.own xs)=>put M i (.brw xs)|_=>M)
 | _=>M
noncomputable def bn(src:List ME)(J M:Rho):Rho:=match src with
 | [.bor i]=>(match (J[i]?).join,(M[i]?).join with|some (.own _),some (.brw xs)=>put M i (.own xs)|_,_=>M)
 | _=>M
noncomputable def R.back(src:List ME)(J:Rho):R->R
 | .next M=>.next (bn src J M)
 | .brk M=>.brk (bn src J M)
 | .cont M=>.cont (bn src J M)
 |r=>r
noncomputable def isL:MV->Bool
 | .ownL _=>true
 | _=>false
noncomputable def noL(M:Rho):Bool:=M.all λo=>match o with|some m=>!isL m|none=>true
noncomputable def xS(J:List (List PV))(k v:PV):Option (List (List PV)):=match k with
 | .int j=>(place J.length j).bind λq=>(J[q]?).bind λxs=>if xs.length<10000 then some (J.set q (xs++[v]))else none
 | _=>none
mutual
noncomputable def ex(cal:Cal):MS->Rho->R
 | .set i e,M=>dH (ev cal e M) λv=>.next (put M i (.val v))
 | .setOwn i e,M=>dH (ev cal e M) λv=>match v with|.lst xs=>.next (put M i (.own xs))|_=>.bad
 | .freeze i,M=>match (M[i]?).join with|some (.own xs)=>.next (put M i (.val (.lst xs)))|some _=>.next M|none=>.bad
 | .append i e,M=>dH (ev cal e M) λv=>match (M[i]?).join with
  |some (.own xs)=>if xs.length<10000 then .next (put M i (.own (xs++[v])))else .bad
  | _=>.bad
 | .extend i e,M=>dH (ev cal e M) λv=>match (M[i]?).join,aZ v with
  |some (.own xs),some ys=>if xs.length+ys.length<=10000 then .next (put M i (.own (xs++ys)))else .bad
  | _,_=>.bad
 | .setLN i e,M=>match ev cal e M with
  |some (.int n)=>if noL M=true/\0<=n/\n<=10000 then .next (put M i (.ownL (replicate n.toNat [])))else .bad
  | _=>.bad
 | .setL i n,M=>if noL M=true/\n<=10000 then .next (put M i (.ownL (replicate n [])))else .bad
 | .appI i k e,M=>dH (ev cal k M) λk=>dH (ev cal e M) λv=>match (M[i]?).join with
  |some (.ownL J)=>(match xS J k v with|some Z=>.next (put M i (.ownL Z))|none=>.bad)
  | _=>.bad
 | .freezeL i,M=>match (M[i]?).join with|some (.ownL J)=>.next (put M i (.val (.lst (J.map .lst))))|_=>.bad
 | .setIdx i k v,M=>dH (ev cal v M) λv=>dH (ev cal k M) λk=>match (M[i]?).join,k with
  |some (.own xs),.int k=>(match place xs.length k with|some j=>.next (put M i (.own (xs.set j v)))|none=>.bad)
  | _,_=>.bad
 | .unpack is e,M=>dH (ev cal e M) λv=>dA (eY is v M) .next
 | .expr e,M=>dH (ev cal e M) λ_=>.next M
 | .ite c a b,M=>xR (evB cal c M) λk=>if k=true then exs cal a M else exs cal b M
 | .for1 i k src body,M=>match (evs cal src M).bind (bN k)with
  |some xs=>(aM (λx C=>exs cal body (put C i (.val x))) xs (bu src M)).back src M
  |none=>.bad
 | .forT is k src body,M=>match (evs cal src M).bind (bN k)with
  |some xs=>(aM (λx C=>dA (eY is x C) λY=>exs cal body Y) xs (bu src M)).back src M
  |none=>.bad
 | .while n c body,M=>pQ (evB cal c) (λC=>exs cal body C) n M
 | .ret e,M=>dH (ev cal e M) .ret
 | .retOwn i,M=>match (M[i]?).join with|some (.own xs)=>.ret (.lst xs)|some (.ownD kvs)=>.ret (.dI kvs)|some (.val v)=>.ret v|_=>.bad
 | .newD m i,M=>.next (put M i (.ownD (if m=true then .t []else .k [])))
 | .dput i k v,M=>dH (ev cal v M) λv=>dH (ev cal k M) λk=>match (M[i]?).join,sc? v with
  |some (.ownD d),some s=>match sD d k s with|some d'=>.next (put M i (.ownD d'))|none=>.bad
  | _,_=>.bad
 | .retF e,M=>dH (ev cal e M) λv=>match v with|.lst xs=>.retF xs|_=>.bad
 | .setCall i f es,M=>dH ((evA cal es M).bind λvs=>cal (f+1000) vs) λv=>match v with|.lst xs=>.next (put M i (.own xs))|_=>.bad
 | .clear i,M=>match (M[i]?).join with|some (.own _)=>.next (put M i (.own []))|_=>.bad
 | .retN,_=>.ret .non
 | .brk,M=>.brk M
 | .cont,M=>.cont M
 | .pass,M=>.next M
 | .never,_=>.bad
noncomputable def exs(cal:Cal):List MS->Rho->R
 | [],M=>.next M
 |s::ss,M=>(ex cal s M).andThen λC=>exs cal ss C
end
structure MD where
 name:Str
 params:List Str
 names:List Str
 body:List MS
 deriving Inhabited
noncomputable def ab(ds:List MD):Nat->Cal
 |0,_,_=>none
 |n+1,f,args=>match ds[f]? with
  |none=>if 2000<=f then none else
   (match ds[f-1000]? with
   |none=>none
   |some d=>if args.length=d.params.length then
     (match exs (ab ds n) d.body (args.map some++replicate (d.names.length-args.length) none)with
     | .retF xs=>some (.lst xs)
     | _=>none)else none)
  |some d=>if args.length=d.params.length then
    (match exs (ab ds n) d.body (args.map some++replicate (d.names.length-args.length) none)with
    | .next _=>some .non
    | .ret v=>some v
    | .retF xs=>some (.lst xs)
    | _=>none)else none
end MM
namespace MM
open PySem PySem.Spec PyProof.Rows L2 List Option
noncomputable abbrev St:=L2.St
noncomputable def aj(H:Hp)(O:List Addr):Hp:=λb=>if b∈O then none else H b
def lx(h:b∈O):aj H O b=none:=if_pos h
def bp(h:b∉O):aj H O b=H b:=if_neg h
theorem ai.rd(s:ai H H')(h:Rd H a u):Rd H' a u:=h.elim (λe=>.inl (s a _ e)) λJ=>Fc J λo e=>.inr ⟨o,s a _ e⟩
def be(H)(O):ai (aj H O) H:=λb u e=>by
 unfold aj at e
 simp_all
def bC(s:ai H H')(h:∀b∈Y,b∈O\/H b=none):ai (aj H O) (aj H' Y):=λb u e=>by
 have J:b∉O:=λz=>by rw[lx z]at e;exact aT e
 rw[bp J]at e;rw[bp]
 .exact s b u e
 .intro z;rcases h b z with q|q
  .exact J q
  .rw[q]at e;exact aT e
def ax(s:ai H H'):ai (aj H O) (aj H' O):=bC s λ_ h=>.inl h
noncomputable def Sc.v:Sc->V
 | .non=>.non
 | .bl b=>.bl b
 | .int i=>.int i
 | .str x=>.str x
noncomputable def gZ(kvs:List (Int×Sc)):List (Key×V):=kvs.map λp=>(Sum.inl p.1,p.2.v)
noncomputable def iW(kvs:List (List Int×Sc)):List (List Key×V):=kvs.map λp=>(p.1.map Sum.inl,p.2.v)
noncomputable def lj:DD->HO
 | .k kvs=>.dK (gZ kvs)
 | .t kvs=>.dT (iW kvs)
abbrev RdD(F:Hp)(a:Addr)(d:DD):Prop:=Rd F a (lj d)
theorem RdD.rd(h:RdD F a d):Rd F a (lj d):=h
theorem ai.rdD(s:ai H H')(h:RdD H a d):RdD H' a d:=ai.rd s h
mutual
noncomputable def Rep(K:Mx)(F:Hp):PV->V->Prop
 | .non,u=>u=.non
 | .bl b,u=>u=.bl b
 | .int i,u=>u=.int i
 | .str x,u=>u=.str x
 | .tup xs,u=>∃a us,u=.ref a/\F a=some (.tup us)/\Reps K F xs us
 | .lst xs,u=>∃a us,u=.ref a/\SqL K F a us/\Reps K F xs us
 | .dI kvs,u=>∃a,u=.ref a/\RdD F a kvs
noncomputable def Reps(K:Mx)(F:Hp):List PV->List V->Prop
 | [],us=>us=[]
 |x::xs,us=>∃u r,us=u::r/\Rep K F x u/\Reps K F xs r
end
section
variable{K:Mx}{F F':Hp}
mutual
theorem Rep.mono(s:ai F F'):∀(x:PV) {u:V},Rep K F x u->Rep K F' x u
 | .non,_,h=>by simpa only[Rep]using h
 | .bl _,_,h=>by simpa only[Rep]using h
 | .int _,_,h=>by simpa only[Rep]using h
 | .str _,_,h=>by simpa only[Rep]using h
 | .tup xs,_,h=>by
  refine ak h λa us e q r=>?_
  exact⟨a,us,e,s a _ q,Reps.mono s xs r⟩
 | .lst xs,_,h=>by
  refine ak h λa us e q r=>?_
  exact⟨a,us,e,s.seq q,Reps.mono s xs r⟩
 | .dI kvs,_,h=>by
  refine ae h λa e q=>?_
  exact⟨a,e,ai.rdD s q⟩
theorem Reps.mono(s:ai F F'):∀(xs:List PV) {us:List V},Reps K F xs us->Reps K F' xs us
 | [],_,h=>by simpa only[Reps]using h
 |x::xs,_,h=>by
  refine ak h λu r e q t=>?_
  exact⟨u,r,e,Rep.mono s x q,Reps.mono s xs t⟩
end
theorem Reps.nil:Reps K F [] []:=rfl
theorem Reps.cons{u:V}{us:List V}(h:Rep K F x u)(t:Reps K F xs us):Reps K F (x::xs) (u::us):=by
 rw[Reps];exact⟨u,us,rfl,h,t⟩
theorem Reps.length:∀{xs}{us},Reps K F xs us->xs.length=us.length
 | [],_,h=>by rw[Reps]at h;subst h;rfl
 |x::xs,_,h=>by
  refine ak h λu r e _ t=>?_
  subst e;simp[Reps.length t]
theorem Reps.get:∀{xs}{us}{i:Nat}{x},Reps K F xs us->xs[i]?=some x->∃u,us[i]?=some u/\Rep K F x u
 | [],_,_,_,_,e=>by injection e
 |x::xs,_,i,y,h,e=>by
  refine ak h λu r J q t=>?_
  subst J;cases i with
  |zero=>simp at e;subst e;exact⟨u,by rfl,q⟩
  |succ i=>obtain⟨w,h1,h2⟩:=Reps.get (i:=i) t e;exact⟨w,by simpa using h1,h2⟩
theorem Reps.get':∀{xs}{us}{i:Nat}{u},Reps K F xs us->us[i]?=some u->∃x,xs[i]?=some x/\Rep K F x u
 | [],_,i,_,h,e=>by rw[Reps]at h;subst h;injection e
 |x::xs,_,i,y,h,e=>by
  refine ak h λu r J q t=>?_
  subst J;cases i with
  |zero=>simp at e;subst e;exact⟨x,by rfl,q⟩
  |succ i=>obtain⟨w,h1,h2⟩:=Reps.get' (i:=i) t e;exact⟨w,by simpa using h1,h2⟩
theorem Reps.append:∀{xs ys}{us ws},Reps K F xs us->Reps K F ys ws->Reps K F (xs++ys) (us++ws)
 | [],_,_,_,h,g=>by rw[Reps]at h;subst h;exact g
 |x::xs,_,_,_,h,g=>by
  refine ak h λu r J q t=>?_
  subst J;exact .cons q (Reps.append t g)
theorem Reps.snoc(h:Reps K F xs us)(g:Rep K F x u):Reps K F (xs++[x]) (us++[u]):=h.append (.cons g .nil)
theorem Reps.take:∀{xs}{us} n,Reps K F xs us->Reps K F (xs.take n) (us.take n)
 | _,_,0,_=>by exact Reps.nil
 | [],_,n+1,h=>by rw[Reps]at h;subst h;exact Reps.nil
 |x::xs,_,n+1,h=>by
  refine ak h λu r J q t=>?_
  subst J;exact .cons q (Reps.take n t)
theorem Reps.drop:∀{xs}{us} n,Reps K F xs us->Reps K F (xs.drop n) (us.drop n)
 | _,_,0,h=>h
 | [],_,n+1,h=>by rw[Reps]at h;subst h;exact Reps.nil
 |x::xs,_,n+1,h=>by
  refine ak h λu r J q t=>?_
  subst J;exact Reps.drop n t
theorem Reps.set:∀{xs}{us}{x}{u} n,Reps K F xs us->Rep K F x u->Reps K F (xs.set n x) (us.set n u)
 | [],_,_,_,n,h,_=>by rw[Reps]at h;subst h;exact Reps.nil
 |x::xs,_,_,_,0,h,g=>by
  refine ak h λu r J q t=>?_
  subst J;exact .cons g t
 |x::xs,_,_,_,n+1,h,g=>by
  refine ak h λu r J q t=>?_
  subst J;exact .cons q (Reps.set n t g)
theorem Reps.ints:∀{ns:List Int}{us},Reps K F (ns.map .int) us->us=ns.map V.int
 | [],_,h=>by exact h
 |n::ns,_,h=>by
  refine ak h λu r J q t=>?_
  subst J;rw[q,Reps.ints t];rfl
theorem Reps.of_ints:∀(ns:List Int),Reps K F (ns.map .int) (ns.map V.int)
 | []=>.nil
 |n::ns=>.cons (by rw[Rep]) (Reps.of_ints ns)
theorem eZ:∀{xs}{ns},bw xs=some ns->xs=ns.map .int
 | [],_,h=>by simp[bw]at h;subst h;rfl
 | .int i::r,ns,h=>by
  simp[bw]at h;obtain⟨ms,h1,rfl⟩:=h;rw[eZ h1];rfl
 | .non::_,_,h=>by injection h
 | .bl _::_,_,h=>by injection h
 | .str _::_,_,h=>by injection h
 | .tup _::_,_,h=>by injection h
 | .lst _::_,_,h=>by injection h
 | .dI _::_,_,h=>by injection h
theorem mJ:∀{xs}{ns},iM xs=some ns->xs=ns.map λt=>.tup (t.map .int)
 | [],_,h=>by simp[iM]at h;subst h;rfl
 | .tup i::r,ns,h=>by
  simp[iM,rp]at h;obtain⟨t,J,ms,h1,rfl⟩:=h;rw[mJ h1,eZ J];rfl
 | .non::_,_,h=>by injection h
 | .bl _::_,_,h=>by injection h
 | .str _::_,_,h=>by injection h
 | .int _::_,_,h=>by injection h
 | .lst _::_,_,h=>by injection h
 | .dI _::_,_,h=>by injection h
theorem ke:∀{xs}{ns},fN xs=some ns->xs=ns.map .bl
 | [],_,h=>by simp[fN]at h;subst h;rfl
 | .bl i::r,ns,h=>by
  simp[fN]at h;obtain⟨ms,h1,rfl⟩:=h;rw[ke h1];rfl
 | .non::_,_,h=>by injection h
 | .int _::_,_,h=>by injection h
 | .str _::_,_,h=>by injection h
 | .tup _::_,_,h=>by injection h
 | .lst _::_,_,h=>by injection h
 | .dI _::_,_,h=>by injection h
end
def d8{K:Mx}{H:Hp}{a:Addr}{us:List V}(h:H a=some (.tup us)):SqT K H a us:=SqT.of h
def bx(K:Mx)(H:Hp)(O:List Addr)(v:PV)(u:V):Prop:=
 Rep K (aj H O) v u\/(∃xs a us,v=.lst xs/\u=.ref a/\SqL K H a us/\Reps K (aj H O) xs us)\/∃kvs a,v=.dI kvs/\u=.ref a/\RdD H a kvs
section
variable{K:Mx}{H H':Hp}{O:List Addr}
theorem bx.of(h:Rep K (aj H O) v u):bx K H O v u:=.inl h
theorem bx.mono(s:ai H H')(h:bx K H O v u):bx K H' O v u:=by
 rcases h with h|⟨xs,a,us,J,Y,q,r⟩|⟨kvs,a,J,Y,q⟩
 .exact .inl (Rep.mono (ax s) _ h)
 .exact .inr (.inl ⟨xs,a,us,J,Y,s.seq q,Reps.mono (ax s) _ r⟩)
 .exact .inr (.inr ⟨kvs,a,J,Y,ai.rdD s q⟩)
theorem bx.lst(h:bx K H O (.lst xs) u):∃a us,u=.ref a/\SqL K H a us/\Reps K (aj H O) xs us:=by
 rcases h with h|⟨ys,a,us,J,Y,q,r⟩|⟨kvs,a,J,Y,q⟩
 .rw[Rep]at h;refine ak h λa us e q r=>?_
  exact⟨a,us,e,(be H O).seq q,r⟩
 .cases J;exact⟨a,us,Y,q,r⟩
 .cases J
def bx.tupH(h:bx K H O (.tup xs) u):∃a us,u=.ref a/\H a=some (.tup us)/\Reps K (aj H O) xs us:=by
 rcases h with h|⟨ys,a,us,J,Y,q,r⟩|⟨kvs,a,J,Y,q⟩
 .rw[Rep]at h;refine ak h λa us e q r=>?_
  exact⟨a,us,e,be H O a _ q,r⟩
 .cases J
 .cases J
theorem bx.tup(h:bx K H O (.tup xs) u):∃a us,u=.ref a/\SqT K H a us/\Reps K (aj H O) xs us:=by
 refine ak h.tupH λa us e q r=>?_
 exact⟨a,us,e,SqT.of q,r⟩
def bx.tupR(h:bx K H O (.tup xs) u):Rep K (aj H O) (.tup xs) u:=by
 rcases h with h|⟨ys,a,us,J,Y,q,r⟩|⟨kvs,a,J,Y,q⟩
 .exact h
 .cases J
 .cases J
theorem bx.dI(h:bx K H O (.dI kvs) u):∃a,u=.ref a/\RdD H a kvs:=by
 rcases h with h|⟨ys,a,us,J,Y,q,r⟩|⟨kvs,a,J,Y,q⟩
 .rw[Rep]at h;obtain⟨a,e,q⟩:=h;exact⟨a,e,ai.rdD (be H O) q⟩
 .cases J
 .simp_all
theorem bx.int(h:bx K H O (.int i) u):u=.int i:=by
 rcases h with h|⟨ys,a,us,J,Y,q,r⟩|⟨kvs,a,J,Y,q⟩
 .rw[Rep]at h;exact h
 .cases J
 .cases J
theorem bx.bl(h:bx K H O (.bl i) u):u=.bl i:=by
 rcases h with h|⟨ys,a,us,J,Y,q,r⟩|⟨kvs,a,J,Y,q⟩
 .rw[Rep]at h;exact h
 .cases J
 .cases J
theorem bx.str(h:bx K H O (.str i) u):u=.str i:=by
 rcases h with h|⟨ys,a,us,J,Y,q,r⟩|⟨kvs,a,J,Y,q⟩
 .rw[Rep]at h;exact h
 .cases J
 .cases J
theorem bx.non(h:bx K H O .non u):u=.non:=by
 rcases h with h|⟨ys,a,us,J,Y,q,r⟩|⟨kvs,a,J,Y,q⟩
 .rw[Rep]at h;exact h
 .cases J
 .cases J
theorem bx.seq(h:bx K H O v u)(e:aZ v=some xs):∃a us,u=.ref a/\(SqL K H a us\/SqT K H a us)/\Reps K (aj H O) xs us:=by
 cases v<;>first|(simp[aZ]at e;subst e;obtain⟨a,us,e,q,r⟩:=h.lst;exact⟨a,us,e,.inl q,r⟩)|(simp[aZ]at e;subst e;obtain⟨a,us,e,q,r⟩:=h.tup;exact⟨a,us,e,.inr q,r⟩)|injection e
def bx.whole(h:bx K H O v u):Rep K H v u:=by
 rcases h with h|⟨xs,a,us,rfl,J,q,r⟩|⟨kvs,a,rfl,J,q⟩
 .exact Rep.mono (be H O) _ h
 .rw[Rep];exact⟨a,us,J,q,Reps.mono (be H O) _ r⟩
 .rw[Rep];exact⟨a,J,q⟩
end
inductive c8(K:Mx)(H:Hp)(O:List Addr)(B:Hp):List (List PV)->List Addr->Prop where
 | nil:c8 K H O B [] []
 | cons {xs:List PV}{xss:List (List PV)}{b:Addr}{bs:List Addr}{us:List V} (h:H b=some (.lst us)) (r:Reps K (aj H O) xs us) (ho:b∈O) (hb:B b=none) (t:c8 K H O B xss bs):c8 K H O B (xs::xss) (b::bs)
abbrev DAt(_:Mx)(H:Hp)(_:List Addr)(a:Addr)(d:DD):Prop:=H a=some (lj d)
theorem DAt.here{K:Mx}(h:DAt K H O a d):∃o,H a=some o:=⟨_,h⟩
theorem DAt.put1{K:Mx}(_:sD d y s=some d')(h:DAt K H O a d):H a=some (lj d):=h
theorem DAt.put2{K:Mx}{H:Hp}{O:List Addr}{a:Addr}{d d':DD}{y:PV}{s:Sc}(_:sD d y s=some d')(h:H a=some (lj d')):DAt K H O a d':=h
theorem DAt.move{K:Mx}{H H':Hp}{O J:List Addr}{a:Addr}{d:DD}(h:DAt K H O a d)(e:∀o,H a=some o->H' a=some o)(_:ai (aj H O) (aj H' J)):DAt K H' J a d:=e _ h
def e_(K:Mx)(B:Hp)(O:List Addr)(H:Hp):MV->V->Prop
 | .val v,u=>Rep K (aj H O) v u
 | .own xs,u=>∃a us,u=.ref a/\H a=some (.lst us)/\Reps K (aj H O) xs us/\a∈O/\B a=none
 | .brw xs,u=>∃a us,u=.ref a/\SqL K B a us/\Reps K (aj H O) xs us
 | .ownD kvs,u=>∃a,u=.ref a/\DAt K H O a kvs/\a∈O/\B a=none
 | .ownL J,u=>∃a bs,u=.ref a/\H a=some (.lst (bs.map .ref))/\c8 K H O B J bs/\a∈O/\B a=none/\(a::bs).Nodup
 | .brwD kvs,u=>∃a,u=.ref a/\Rd B a (lj kvs)
noncomputable def eM:MV->Bool
 | .own _=>true
 | .ownD _=>true
 | .ownL _=>true
 | _=>false
def AH(H:Hp)(M:Rho)(σ:St):Prop:=∀(i:Nat) (J:List (List PV)) (a:Addr) (us:List V),M[i]?=some (some (.ownL J))->σ[i]?=some (some (.ref a))->H a=some (.lst us)->∀(j:Nat) (m:MV),j≠i->M[j]?=some (some m)->isL m=false/\∀c,eM m=true->σ[j]?=some (some (.ref c))->V.ref c∉us
def mK{H:Hp}{M:Rho}{σ:St}(h:∀(i:Nat) (J:List (List PV)),M[i]?≠some (some (.ownL J))):AH H M σ:=λi J _ _ e=>absurd e (h i J)
def fc{H H':Hp}{M C:Rho}{σ Y:St}(h:AH H M σ)(hL:∀(i:Nat) (J:List (List PV)),C[i]?=some (some (.ownL J))->M[i]?=some (some (.ownL J))/\Y[i]?=σ[i]?/\∀a us,σ[i]?=some (some (.ref a))->H' a=some (.lst us)->H a=some (.lst us))
  (hj:∀(j:Nat) (m:MV) (c:Addr),C[j]?=some (some m)->isL m=false->eM m=true->Y[j]?=some (some (.ref c))->(∃m0,M[j]?=some (some m0)/\eM m0=true/\σ[j]?=some (some (.ref c)))\/∀(i:Nat) (J:List (List PV)) (a:Addr) (us:List V),M[i]?=some (some (.ownL J))->σ[i]?=some (some (.ref a))->H a=some (.lst us)->V.ref c∉us):AH H' C Y:=λi J a us e1 Z e3 j m ac e4=>by
 obtain⟨f1,f2,f3⟩:=hL i J e1;rw[f2]at Z;have f4:=f3 a us Z e3;have hl:isL m=false:=by
  cases q:isL m with
  |false=>rfl
  |true =>
   cases m<;>try (cases q;done)
   have:=(h i J a us f1 Z f4 j _ ac (hL j _ e4).1).1;cases this
 refine⟨hl,λc o e5=>?_⟩;rcases hj j m c e4 hl o e5 with⟨m0,g1,g2,g3⟩|g
 .exact(h i J a us f1 Z f4 j m0 ac g1).2 c g2 g3
 .exact g i J a us f1 Z f4
structure aN(K:Mx)(B:Hp)(E O:List Addr)(H:Hp)(M:Rho)(σ:St):Prop where
 keep:ai B H
 here:∀a∈O,H a≠none
 sub:∀a∈E,a∈O
 old:∀a∈E,B a≠none
 len:M.length=σ.length
 slot:∀(i:Nat) (m:MV),M[i]?=some (some m)->∃u,σ[i]?=some (some u)/\e_ K B O H m u
 apart:∀(i j:Nat) (m m':MV) (a:Addr),i≠j->M[i]?=some (some m)->M[j]?=some (some m')->eM m=true->eM m'=true->σ[i]?=some (some (.ref a))->σ[j]?≠some (some (.ref a))
 inn:AH H M σ
section
variable{K:Mx}{B H H':Hp}{E O:List Addr}{M:Rho}{σ:St}
theorem c8.mono(s:ai H H'){J:List (List PV)}{bs:List Addr}(h:c8 K H O B J bs):c8 K H' O B J bs:=by
 induction h with
 |nil=>exact .nil
 |cons h r ho Y t ih=>exact .cons (s _ _ h) (Reps.mono (ax s) _ r) ho Y ih
theorem c8.at{J:List (List PV)}{bs:List Addr}(h:c8 K H O B J bs):∀b∈bs,H b≠none/\b∈O/\B b=none:=by
 induction h with
 |nil=>intro b Y;cases Y
 |cons h r ho Y t ih =>
  intro c hc;rcases IM.mp hc with rfl|hc
  .exact⟨by rw[h];simp,ho,Y⟩
  .exact ih c hc
theorem c8.len{J:List (List PV)}{bs:List Addr}(h:c8 K H O B J bs):J.length=bs.length:=by
 induction h with
 |nil=>rfl
 |cons _ _ _ _ _ ih=>rw[length_cons,length_cons,ih]
theorem c8.get{J:List (List PV)}{bs:List Addr}(h:c8 K H O B J bs):∀{q:Nat}{xs:List PV},J[q]?=some xs->∃b us,bs[q]?=some b/\H b=some (.lst us)/\Reps K (aj H O) xs us/\b∈O/\B b=none:=by
 induction h with
 |nil=>intro q xs e;simp at e
 |cons h r ho Y t ih =>
  intro q xs e;cases q with
  |zero=>simp at e;subst e;exact⟨_,_,rfl,h,r,ho,Y⟩
  |succ q =>
   obtain⟨b,us,Z,e2⟩:=ih (q:=q) (xs:=xs) (by simpa using e);exact⟨b,us,by simpa using Z,e2⟩
def fC{b:Addr}{bs:List Addr}:V.ref b∈bs.map V.ref ↔ b∈bs:=by
 rw[mem_map];exact⟨λ⟨c,h,e⟩=>by cases e;exact h,λh=>⟨b,h,rfl⟩⟩
theorem e_.mono(s:ai H H'){m:MV}{u:V}(h:e_ K B O H m u):e_ K B O H' m u:=by
 cases m with
 |val v=>exact Rep.mono (ax s) _ h
 |own xs=>obtain⟨a,us,e,q,r,h1,h2⟩:=h;exact⟨a,us,e,s _ _ q,Reps.mono (ax s) _ r,h1,h2⟩
 |brw xs=>obtain⟨a,us,e,q,r⟩:=h;exact⟨a,us,e,q,Reps.mono (ax s) _ r⟩
 |ownD kvs=>obtain⟨a,e,q,h1,h2⟩:=h;exact⟨a,e,q.move (s _) (ax s),h1,h2⟩
 |ownL J=>obtain⟨a,bs,e,q,r,h1,h2,Y⟩:=h;exact⟨a,bs,e,s _ _ q,r.mono s,h1,h2,Y⟩
 |brwD kvs=>exact h
theorem aN.mono(s:ai H H')(h:aN K B E O H M σ):aN K B E O H' M σ where
 keep:=h.keep.trans s
 here:=λa Z e=>h.here a Z (s.free e)
 sub:=h.sub
 old:=h.old
 len:=h.len
 slot:=λi m e=>let ⟨u,J,q⟩:=h.slot i m e;⟨u,J,q.mono s⟩
 apart:=h.apart
 inn:=fc h.inn (λi ac e=>⟨e,rfl,λa us J e2=>by
  obtain⟨u,Y,a',bs,rfl,q,_⟩:=h.slot i _ e;rw[J]at Y;cases Y;have:=s _ _ q;rw[e2]at this;rw[q,this]⟩) λj m c e _ o J=>.inl ⟨m,e,o,J⟩
theorem e_.bor{m:MV}{u:V}{v:PV}(J:ai B H)(h:e_ K B O H m u)(e:bA (some m)=some v):bx K H O v u:=by
 cases m with
 |val w=>simp[bA]at e;subst e;exact .inl h
 |own xs=>simp[bA]at e;subst e;obtain⟨a,us,e,q,r,_⟩:=h;exact .inr (.inl ⟨xs,a,us,rfl,e,SqL.of q,r⟩)
 |brw xs=>simp[bA]at e;subst e;obtain⟨a,us,e,q,r⟩:=h;exact .inr (.inl ⟨xs,a,us,rfl,e,J.seq q,r⟩)
 |ownD kvs=>simp[bA]at e;subst e;obtain⟨a,e,q,_⟩:=h;exact .inr (.inr ⟨kvs,a,rfl,e,.inl q⟩)
 |ownL _=>simp[bA]at e
 |brwD kvs=>simp[bA]at e;subst e;obtain⟨a,e,q⟩:=h;exact .inr (.inr ⟨kvs,a,rfl,e,ai.rd J q⟩)
end
def bU{α:Type}{o:Option (Option α)}{x:α}(h:o.join=some x):o=some (some x):=by
 cases o<;>simp_all
structure Tab where
 fs:List Str
 gs:List (Str×PV)
 ds:List (List Sc)
noncomputable def C9(sc:Scope)(x:Str):Bool:=sc.names.lookup x==some .local||sc.names.lookup x==some .cell||sc.names.lookup x==some .free
noncomputable def ij(sc:Scope)(x:Str):Bool:=sc.names.lookup x==some .local||sc.names.lookup x==some .cell
noncomputable def glB(sc:Scope)(x:Str):Bool:=sc.names.lookup x==some .globalImplicit
noncomputable def aR (x:Str):Bool:=!(x==("__debug__":Str))&&!(x==("__classdict__":Str))&&!(x==("__name__":Str))
noncomputable def a7(N:List Str)(sc:Scope)(i:Nat)(x:Str):Bool:=N[i]?==some x&&C9 sc x&&aR x
noncomputable def onQ{α:Type}:Option α->(α->Bool)->Bool
 |some a,f=>f a
 |none,_=>false
def au(h:onQ o f=true):∃a,o=some a/\f a=true:=by
 cases o with
 |none=>exact dq h
 |some a=>exact⟨a,rfl,h⟩
def g_{α:Type}{P:Prop}{x:α}(h:none=some x):P:=by cases h
def dZ{α J:Type}{o:Option α}{f:α->Option J}{b:J}(h:o.bind f=some b):∃a,o=some a/\f a=some b:=rp.mp h
noncomputable def okQ{α:Type}(b:Bool)(x:α):Option α:=if b=true then some x else none
def pR(h:okQ b x=some y):b=true/\x=y:=by
 cases b with
 |false=>exact aT h
 |true=>cases h;exact⟨rfl,rfl⟩
noncomputable def kf{α:Type}:List α->Option α
 | [x]=>some x
 | _=>none
def c_(h:kf l=some x):l=[x]:=by
 rcases l with _|⟨a,_|⟨b,l⟩⟩<;>cases h
 rfl
noncomputable def C_{α:Type}:List α->Option (α×α)
 | [x,y]=>some (x,y)
 | _=>none
def uB(h:C_ l=some q):l=[q.1,q.2]:=by
 rcases l with _|⟨a,_|⟨b,_|⟨c,l⟩⟩⟩<;>cases h
 rfl
structure Vw where
 nmP:Option (Str×Pos)
 caP:Option (Expr×List Expr×List Keyword×Pos)
 atP:Option (Expr×Str×Pos)
 biP:Option (Expr×Operator×Expr×Pos)
 suP:Option (Expr×Expr×Pos)
 lcP:Option (Expr×List Comprehension×Scope×Pos)
 coP:Option (Expr×List CmpOp×List Expr×Pos)
 ctP:Option (Const×Nat×Pos)
 tuP:Option (List Expr×Nat×Pos)
 liP:Option (List Expr×Pos)
 unP:Option (UnaryOp×Expr×Pos)
 boP:Option (BoolOp×List Expr×Pos)
 ifP:Option (Expr×Expr×Expr×Pos)
 slP:Option (Option Expr×Option Expr×Option Expr×Pos)
 diP:Option (List (Option Expr)×List Expr×Pos)
noncomputable def vw:Expr->Vw
 | .Name x p=>⟨some (x,p),none,none,none,none,none,none,none,none,none,none,none,none,none,none⟩
 | .Call f as ks p=>⟨none,some (f,as,ks,p),none,none,none,none,none,none,none,none,none,none,none,none,none⟩
 | .Attribute o m p=>⟨none,none,some (o,m,p),none,none,none,none,none,none,none,none,none,none,none,none⟩
 | .BinOp l o r p=>⟨none,none,none,some (l,o,r,p),none,none,none,none,none,none,none,none,none,none,none⟩
 | .Subscript v s p=>⟨none,none,none,none,some (v,s,p),none,none,none,none,none,none,none,none,none,none⟩
 | .ListComp e g s p=>⟨none,none,none,none,none,some (e,g,s,p),none,none,none,none,none,none,none,none,none⟩
 | .Compare l o r p=>⟨none,none,none,none,none,none,some (l,o,r,p),none,none,none,none,none,none,none,none⟩
 | .Constant c j p=>⟨none,none,none,none,none,none,none,some (c,j,p),none,none,none,none,none,none,none⟩
 | .Tuple xs j p=>⟨none,none,none,none,none,none,none,none,some (xs,j,p),none,none,none,none,none,none⟩
 | .List xs p=>⟨none,none,none,none,none,none,none,none,none,some (xs,p),none,none,none,none,none⟩
 | .UnaryOp o e p=>⟨none,none,none,none,none,none,none,none,none,none,some (o,e,p),none,none,none,none⟩
 | .BoolOp o vs p=>⟨none,none,none,none,none,none,none,none,none,none,none,some (o,vs,p),none,none,none⟩
 | .IfExp t x y p=>⟨none,none,none,none,none,none,none,none,none,none,none,none,some (t,x,y,p),none,none⟩
 | .Slice l u s p=>⟨none,none,none,none,none,none,none,none,none,none,none,none,none,some (l,u,s,p),none⟩
 | .Dict ks vs p=>⟨none,none,none,none,none,none,none,none,none,none,none,none,none,none,some (ks,vs,p)⟩
 | _=>⟨none,none,none,none,none,none,none,none,none,none,none,none,none,none,none⟩
noncomputable def nmP(e:Expr):Option (Str×Pos):=(vw e).nmP
def ff(h:nmP e=some q):e=.Name q.1 q.2:=by
 revert h;cases e<;>first|exact g_|(rintro ⟨⟩;rfl)
noncomputable def caP(e:Expr):Option (Expr×List Expr×List Keyword×Pos):=(vw e).caP
def xT(h:caP e=some q):e=.Call q.1 q.2.1 q.2.2.1 q.2.2.2:=by
 revert h;cases e<;>first|exact g_|(rintro ⟨⟩;rfl)
noncomputable def atP(e:Expr):Option (Expr×Str×Pos):=(vw e).atP
def Da(h:atP e=some q):e=.Attribute q.1 q.2.1 q.2.2:=by
 revert h;cases e<;>first|exact g_|(rintro ⟨⟩;rfl)
noncomputable def biP(e:Expr):Option (Expr×Operator×Expr×Pos):=(vw e).biP
def xU(h:biP e=some q):e=.BinOp q.1 q.2.1 q.2.2.1 q.2.2.2:=by
 revert h;cases e<;>first|exact g_|(rintro ⟨⟩;rfl)
noncomputable def suP(e:Expr):Option (Expr×Expr×Pos):=(vw e).suP
def pS(h:suP e=some q):e=.Subscript q.1 q.2.1 q.2.2:=by
 revert h;cases e<;>first|exact g_|(rintro ⟨⟩;rfl)
noncomputable def lcP(e:Expr):Option (Expr×List Comprehension×Scope×Pos):=(vw e).lcP
def sE(h:lcP e=some q):e=.ListComp q.1 q.2.1 q.2.2.1 q.2.2.2:=by
 revert h;cases e<;>first|exact g_|(rintro ⟨⟩;rfl)
noncomputable def coP(e:Expr):Option (Expr×List CmpOp×List Expr×Pos):=(vw e).coP
def Db(h:coP e=some q):e=.Compare q.1 q.2.1 q.2.2.1 q.2.2.2:=by
 revert h;cases e<;>first|exact g_|(rintro ⟨⟩;rfl)
noncomputable def ctP(e:Expr):Option (Const×Nat×Pos):=(vw e).ctP
def Dc(h:ctP e=some q):e=.Constant q.1 q.2.1 q.2.2:=by
 revert h;cases e<;>first|exact g_|(rintro ⟨⟩;rfl)
noncomputable def tuP(e:Expr):Option (List Expr×Nat×Pos):=(vw e).tuP
def Dd(h:tuP e=some q):e=.Tuple q.1 q.2.1 q.2.2:=by
 revert h;cases e<;>first|exact g_|(rintro ⟨⟩;rfl)
noncomputable def liP(e:Expr):Option (List Expr×Pos):=(vw e).liP
def xV(h:liP e=some q):e=.List q.1 q.2:=by
 revert h;cases e<;>first|exact g_|(rintro ⟨⟩;rfl)
noncomputable def unP(e:Expr):Option (UnaryOp×Expr×Pos):=(vw e).unP
def De(h:unP e=some q):e=.UnaryOp q.1 q.2.1 q.2.2:=by
 revert h;cases e<;>first|exact g_|(rintro ⟨⟩;rfl)
noncomputable def boP(e:Expr):Option (BoolOp×List Expr×Pos):=(vw e).boP
def xW(h:boP e=some q):e=.BoolOp q.1 q.2.1 q.2.2:=by
 revert h;cases e<;>first|exact g_|(rintro ⟨⟩;rfl)
noncomputable def ifP(e:Expr):Option (Expr×Expr×Expr×Pos):=(vw e).ifP
def Dg(h:ifP e=some q):e=.IfExp q.1 q.2.1 q.2.2.1 q.2.2.2:=by
 revert h;cases e<;>first|exact g_|(rintro ⟨⟩;rfl)
noncomputable def slP(e:Expr):Option (Option Expr×Option Expr×Option Expr×Pos):=(vw e).slP
def Dh(h:slP e=some q):e=.Slice q.1 q.2.1 q.2.2.1 q.2.2.2:=by
 revert h;cases e<;>first|exact g_|(rintro ⟨⟩;rfl)
noncomputable def asP:Stmt->Option (List Expr×Expr×Pos)
 | .Assign J v p=>some (J,v,p)
 | _=>none
def xX(h:asP s=some q):s=.Assign q.1 q.2.1 q.2.2:=by
 revert h;cases s<;>first|exact g_|(rintro ⟨⟩;rfl)
noncomputable def xY(e:Expr):Option (Str×List Expr):=(caP e).bind λc=>(nmP c.1).bind λx=>okQ c.2.2.1.isEmpty (x.1,c.2.1)
def jp(h:xY e=some q):∃p cp,e=.Call (.Name q.1 p) q.2 [] cp:=by
 refine ae (dZ h) λc h1 h=>?_
 refine ae (dZ h) λx h2 h=>?_
 obtain⟨J,rfl⟩:=pR h;exact⟨_,_,by rw[xT h1,ff h2,LU.mp J]⟩
noncomputable def xZ(e:Expr):Option (Str×Expr):=(xY e).bind λc=>(kf c.2).bind λa=>some (c.1,a)
def ly(h:xZ e=some q):∃p cp,e=.Call (.Name q.1 p) [q.2] [] cp:=by
 refine ae (dZ h) λc h1 h=>?_
 refine ae (dZ h) λa h2 h=>?_
 cases h;refine iI (jp h1) λp cp J=>?_
 subst J;exact⟨p,cp,by rw[c_ h2]⟩
noncomputable def maP(e:Expr):Option (Expr×Str×Pos×List Expr×Pos):=(caP e).bind λc=>(atP c.1).bind λa=>okQ c.2.2.1.isEmpty (a.1,a.2.1,a.2.2,c.2.1,c.2.2.2)
def sF(h:maP e=some q):e=.Call (.Attribute q.1 q.2.1 q.2.2.1) q.2.2.2.1 [] q.2.2.2.2:=by
 refine ae (dZ h) λc h1 h=>?_
 refine ae (dZ h) λx h2 h=>?_
 obtain⟨J,rfl⟩:=pR h;rw[xT h1,Da h2,LU.mp J]
noncomputable def maN(e:Expr):Option (Str×Str×Pos×List Expr×Pos):=(maP e).bind λa=>(nmP a.1).bind λx=>some (x.1,a.2.1,a.2.2.1,a.2.2.2.1,a.2.2.2.2)
def Di(h:maN e=some q):∃p,e=.Call (.Attribute (.Name q.1 p) q.2.1 q.2.2.1) q.2.2.2.1 [] q.2.2.2.2:=by
 refine ae (dZ h) λc h1 h=>?_
 refine ae (dZ h) λx h2 h=>?_
 cases h;exact⟨x.2,by rw[sF h1,ff h2]⟩
noncomputable def Dj(e:Expr):Option (Expr×CmpOp×Expr):=(coP e).bind λc=>(kf c.2.1).bind λo=>(kf c.2.2.1).bind λr=>some (c.1,o,r)
def uC(h:Dj e=some q):∃pos,e=.Compare q.1 [q.2.1] [q.2.2] pos:=by
 refine ae (dZ h) λc h1 h=>?_
 refine ae (dZ h) λx h2 h=>?_
 refine ae (dZ h) λy J h=>?_
 cases h;exact⟨c.2.2.2,by rw[Db h1,c_ h2,c_ J]⟩
noncomputable def F2(e:Expr):Option (Expr×Option Expr×Option Expr):=(suP e).bind λc=>(slP c.2.1).bind λs=>okQ s.2.2.1.isNone (c.1,s.1,s.2.1)
def AI(h:F2 e=some q):∃p pos,e=.Subscript q.1 (.Slice q.2.1 q.2.2 none p) pos:=by
 refine ae (dZ h) λc h1 h=>?_
 refine ae (dZ h) λx h2 h=>?_
 obtain⟨J,rfl⟩:=pR h;exact⟨_,_,by rw[pS h1,Dh h2,isNone_iff_eq_none.mp J]⟩
noncomputable def lcX(e:Expr):Option (Expr×Scope×(Str×Pos)×Expr×List Expr):=(lcP e).bind λc=>(kf c.2.1).bind λg=>(nmP g.target).bind λx=>okQ (g.is_async==0) (c.1,c.2.2.1,x,g.iter,g.ifs)
def Dk(h:lcX e=some q):∃pos,e=.ListComp q.1 [⟨.Name q.2.2.1.1 q.2.2.1.2,q.2.2.2.1,q.2.2.2.2,0⟩] q.2.1 pos:=by
 refine ae (dZ h) λc h1 h=>?_
 obtain⟨⟨tg,it,is,as⟩,h2,h⟩:=dZ h;refine ae (dZ h) λx J h=>?_
 obtain⟨Y,rfl⟩:=pR h;exact⟨c.2.2.2,by rw[sE h1,c_ h2,ff (e:=tg) J,show as=0 from eq_of_beq Y]⟩
noncomputable def diP(e:Expr):Option (List (Option Expr)×List Expr×Pos):=(vw e).diP
def Dl{e:Expr}{q:List (Option Expr)×List Expr×Pos}(h:diP e=some q):e=.Dict q.1 q.2.1 q.2.2:=by
 revert h;cases e<;>first|exact g_|(rintro ⟨⟩;rfl)
noncomputable def exP:Stmt->Option (Expr×Pos)
 | .Expr e p=>some (e,p)
 | _=>none
def Dm(h:exP s=some q):s=.Expr q.1 q.2:=by
 revert h;cases s<;>first|exact g_|(rintro ⟨⟩;rfl)
noncomputable def reP:Stmt->Option (Option Expr×Pos)
 | .Return v p=>some (v,p)
 | _=>none
def Do(h:reP s=some q):s=.Return q.1 q.2:=by
 revert h;cases s<;>first|exact g_|(rintro ⟨⟩;rfl)
noncomputable def ba:ME->Bool
 | .bor _=>true
 | _=>false
noncomputable def Dp:Op2->Operator
 | .add=>.Add|.sub=>.Sub|.mul=>.Mult|.fdiv=>.FloorDiv|.mod=>.Mod|.pow=>.Pow|.shr=>.RShift
noncomputable def x_:Cp->CmpOp
 | .eq=>.Eq|.ne=>.NotEq|.lt=>.Lt|.le=>.LtE|.gt=>.Gt|.ge=>.GtE|.isN=>.Is|.notN=>.IsNot|.isIn=>.In|.notIn=>.NotIn
noncomputable def sG:PV->Const->Bool
 | .non,.none=>true
 | .bl a,.bool b=>a==b
 | .int a,.int b=>a==b
 | .str a,.str b=>a==b
 | _,_=>false
noncomputable def BM:PV->PV->Bool
 | .non,.non=>true
 | .bl a,.bl b=>a==b
 | .int a,.int b=>a==b
 | .str a,.str b=>a==b
 | _,_=>false
noncomputable def BN(gs:List (Str×PV))(x:Str)(v:PV):Bool:=gs.any λp=>p.1==x&&BM p.2 v
noncomputable def aC:Expr->Bool
 | .Starred ..=>false
 | _=>true
noncomputable def gA:Expr->Bool
 | .Set ..=>false
 | _=>true
noncomputable def bX:Expr->Bool
 | .Slice ..=>false
 | _=>true
noncomputable def cv:Expr->Bool
 | .ListComp ..=>false
 | .SetComp ..=>false
 | .DictComp ..=>false
 | _=>true
noncomputable def vU:Expr->Bool
 | .UnaryOp .Not _ _=>false
 | .BoolOp ..=>false
 | .IfExp ..=>false
 | .Compare ..=>false
 | _=>true
noncomputable def re:Blt->String
 | .len=>"len" | .tupleOf=>"tuple" | .listOf=>"list" | .sorted=>"sorted" | .any=>"any" | .all=>"all" | .sum=>"sum" | .max1=>"max" | .min1=>"min" | .max2=>"max" | .min2=>"min"
 | .intOf=>"int" | .boolOf=>"bool" | .isInt=>"isinstance" | .isBool=>"isinstance" | .isStr=>"isinstance" | .isList=>"isinstance" | .isTuple=>"isinstance" | .sortedKeys=>"sorted" | .valuesOf=>"list" | .sortedSet=>"sorted" | .lenSet=>"len" | .lenSetSub=>"len" | .tupleRev=>"tuple"
noncomputable def dB:Blt->Option String
 | .isInt=>some "int" | .isBool=>some "bool" | .isStr=>some "str" | .isList=>some "list" | .isTuple=>some "tuple"
 | _=>none
noncomputable def kg:Blt->Option Nat
 | .len|.tupleOf|.listOf|.sorted|.any|.all|.sum|.intOf|.boolOf|.max1|.sortedKeys=>some 1
 | .max2|.min2=>some 2
 | _=>none
noncomputable def gB(osc:Scope)(N:List Str)(scope:Scope)(x:Str)(fvs:List Str)(js:List Nat):Bool:=
 decide (∀y∈scope.names,y.2=.cell->y.1=x)&&decide (scope.names.lookup x=some .local/\(scope.names.filter λy=>y.2==.cell)=[]\/scope.names.lookup x=some .cell/\(scope.names.filter λy=>y.2==.cell)=[(x,.cell)])
 &&decide (∀y∈scope.names,y.2=.free->y.1≠x)&&scope.kind==.function&&decide (∀y∈scope.names,y.2=.local->scope.names.lookup y.1=some .local)
 &&decide ((x::fvs).Nodup)&&decide (∀y∈scope.names,y.2=.free->osc.names.lookup y.1=some .cell\/osc.names.lookup y.1=some .free)&&decide ((js.map λj=>N[j]?)=fvs.map some)
 &&decide (∀y∈fvs,scope.names.lookup y=some .free)
noncomputable def fg(N:List Str)(js:List Nat):List Str:=js.map λj=>(N[j]?).getD Str.empty
noncomputable def nU(sc:Scope)(tup:Bool)(f:List Expr->Bool):Sk->Expr->Bool
 | .seq,it=>gA it&&f [it]
 | .rng,it=>onQ (xY it) λc=>c.1==("range":Str)&&glB sc c.1&&f c.2&&(c.2.length==1||c.2.length==2)
 | .rev,_=>false
 | .enm,it=>onQ (xZ it) λc=>tup&&c.1==("enumerate":Str)&&glB sc c.1&&f [c.2]&&aC c.2
noncomputable def rf(sc:Scope)(f:List Expr->Bool)(n:Nat)(c:String)(args:List Expr):Bool:=onQ (C_ args) λa=>onQ (nmP a.2) λt=>t.1==(c:Str)&&glB sc t.1&&f [a.1]&&n==1
noncomputable def sH(sc:Scope)(f:List Expr->Bool)(n:Nat)(g:Str)(args:List Expr):Bool:=onQ (kf args) λa=>onQ (xZ a) λc=>c.1==g&&glB sc c.1&&f [c.2]&&n==1
noncomputable def rg:Expr->Bool
 | .Name _ _=>true
 | .Call _ (_::_) _ _=>true
 | _=>false
noncomputable def lz(sc:Scope)(f:List Expr->Bool)(n:Nat)(b:Blt)(args:List Expr):Bool:=match b with
 | .sortedSet=>sH sc f n "set" args
 | .lenSet=>sH sc f n "set" args
 | .lenSetSub=>onQ (kf args) λa=>onQ (biP a) λb=>onQ (xZ b.1) λc=>onQ (xZ b.2.2.1) λd=>b.2.1==.Sub&&c.1==("set":Str)&&glB sc c.1&&d.1==("set":Str)&&glB sc d.1&&f [c.2,d.2]&&n==2
 | .tupleRev=>false
 | .valuesOf=>onQ (kf args) λa=>onQ (maP a) λc=>c.2.2.2.1.isEmpty&&c.2.1==("values":Str)&&rg c.1&&c.2.2.1.endLine==c.2.2.2.2.line&&f [c.1]&&n==1
 | .sortedKeys=>false
 | .max2=>false
 | .min2=>false
 | .boolOf=>false
 | .isStr=>false
 | .isList=>false
 |b=>match dB b with
  |some c=>rf sc f n c args
  |none=>kg b==some n&&f args
noncomputable def kh:ME->Bool
 | .cst .non=>true
 | _=>false
noncomputable def pT(f:Expr->Bool)(non:Bool):Option Expr->Bool
 |none=>non
 |some l=>f l&&!non
noncomputable def uD(f:Expr->Bool)(m:ME):List Expr->Bool
 | []=>(match m with|.cst (.bl true)=>true|_=>false)
 | [c]=>f c
 | _=>false
noncomputable def F3(f:Expr->Bool)(op:BoolOp)(pos:Pos)(y:Expr):List Expr->Bool
 | []=>f y
 |z::r=>f (.BoolOp op (y::z::r) pos)
noncomputable def Dq(g f:Expr->Bool)(op:BoolOp)(pos:Pos):List Expr->Bool
 |x::y::r=>g x&&F3 f op pos y r
 | _=>false
def uE(h:Dq g f op pos vs=true):(∃x y,vs=[x,y]/\g x=true/\f y=true)\/∃x y z r,vs=x::y::z::r/\g x=true/\f (.BoolOp op (y::z::r) pos)=true:=by
 rcases vs with _|⟨x,_|⟨y,_|⟨z,r⟩⟩⟩
 .exact dq h
 .exact dq h
 .exact .inl ⟨x,y,rfl,IW.mp h⟩
 .exact .inr ⟨x,y,z,r,rfl,IW.mp h⟩
mutual
noncomputable def chk(T:Tab):ME->List Str->Scope->Expr->Bool
 | .var i,N,sc,J=>onQ (nmP J) λx=>a7 N sc i x.1
 | .bor i,N,sc,J=>onQ (nmP J) λx=>a7 N sc i x.1
 | .cst v,_,_,J=>onQ (ctP J) λc=>sG v c.1
 | .glob x v,_,sc,J=>onQ (nmP J) λy=>x==y.1&&glB sc x&&BN T.gs x v&&aR x
 | .bin op a b,N,sc,J=>onQ (biP J) λq=>q.2.1==Dp op&&chk T a N sc q.1&&chk T b N sc q.2.2.1
 | .neg _,_,_,_=>false
 | .not a,N,sc,J=>onQ (unP J) λq=>q.1==.Not&&chk T a N sc q.2.1
 | .and a b,N,sc,J=>onQ (boP J) λq=>q.1==.And&&Dq (λe=>chk T a N sc e) (λe=>chk T b N sc e) .And q.2.2 q.2.1
 | .or a b,N,sc,J=>onQ (boP J) λq=>q.1==.Or&&Dq (λe=>chk T a N sc e) (λe=>chk T b N sc e) .Or q.2.2 q.2.1
 | .ite c a b,N,sc,J=>onQ (ifP J) λq=>chk T c N sc q.1&&chk T a N sc q.2.1&&chk T b N sc q.2.2.1&&!ba a&&!ba b
 | .cmp op a b,N,sc,J=>onQ (Dj J) λq=>q.2.1==x_ op&&chk T a N sc q.1&&chk T b N sc q.2.2&&!behindInMarks q.2.1 q.2.2
 | .chain _ _ _ _ _,_,_,_=>false
 | .tup es,N,sc,J=>onQ (tuP J) λq=>chks T es N sc q.1&&es.all (λe=>!ba e)
 | .lst es,N,sc,J=>onQ (liP J) λq=>chks T es N sc q.1&&es.all (λe=>!ba e)
 | .idx a i,N,sc,J=>onQ (suP J) λq=>chk T a N sc q.1&&chk T i N sc q.2.1&&bX q.2.1
 | .slice a lo hi,N,sc,J=>onQ (F2 J) λq=>chk T a N sc q.1&&pT (λe=>chk T lo N sc e) (kh lo) q.2.1&&pT (λe=>chk T hi N sc e) (kh hi) q.2.2
 | .blt b es,N,sc,J=>onQ (xY J) λq=>q.1==(re b:Str)&&glB sc q.1&&lz sc (λxs=>chks T es N sc xs) es.length b q.2
 | .call f es,N,sc,J=>onQ (xY J) λq=>T.fs[f]?==some q.1&&glB sc q.1&&aR q.1&&chks T es N sc q.2
 | .callD _ _ _,_,_,_=>false
 | .comp k src js cond elt,N,sc,J=>onQ (lcX J) λq=>gB sc N q.2.1 q.2.2.1.1 (fg N js) js&&nU sc false (λxs=>chks T src N sc xs) k q.2.2.2.1&&uD (λc=>chk T cond (q.2.2.1.1::fg N js) (nR q.2.1 sc) c) cond q.2.2.2.2&&chk T elt (q.2.2.1.1::fg N js) (nR q.2.1 sc) q.1&&!ba elt
 | .dget a k d,N,sc,J=>onQ (maP J) λc=>onQ (C_ c.2.2.2.1) λz=>c.2.1==("get":Str)&&rg c.1&&c.2.2.1.endLine==c.2.2.2.2.line&&chk T a N sc c.1&&chk T k N sc z.1&&chk T d N sc z.2&&aC z.1&&aC z.2
 | .dat a k,N,sc,J=>onQ (suP J) λq=>chk T a N sc q.1&&chk T k N sc q.2.1&&bX q.2.1
 | .dIn neg k a,N,sc,J=>onQ (Dj J) λq=>q.2.1==(if neg=true then CmpOp.NotIn else CmpOp.In)&&chk T k N sc q.1&&chk T a N sc q.2.2&&!behindInMarks q.2.1 q.2.2
noncomputable def chks(T:Tab):List ME->List Str->Scope->List Expr->Bool
 | [],_,_,[]=>true
 |m::ms,N,sc,e::es=>chk T m N sc e&&aC e&&chks T ms N sc es
 | _,_,_,_=>false
end
def pU(h:chk T (.bor i) N sc e=true):∃x p,e=.Name x p/\a7 N sc i x=true:=by
 replace h:=au h
 refine ae h λx h1 h=>?_
 exact⟨x.1,x.2,ff h1,h⟩
def cj(h:chks T (m::ms) N sc (e::es)=true):(chk T m N sc e=true/\aC e=true)/\chks T ms N sc es=true:=by
 obtain⟨a,b⟩:=IW.mp h;exact⟨IW.mp a,b⟩
def ki{cond elt:ME}(h:chk T (.comp J src js cond elt) N sc Y=true):∃e x px it ifs scope pos,Y=.ListComp e [⟨.Name x px,it,ifs,0⟩] scope pos /\
  (gB sc N scope x (fg N js) js&&nU sc false (λxs=>chks T src N sc xs) J it&&uD (λc=>chk T cond (x::fg N js) (nR scope sc) c) cond ifs&&chk T elt (x::fg N js) (nR scope sc) e&&!ba elt)=true:=by
 replace h:=au h
 obtain⟨q,w,h⟩:=h;obtain⟨pos,rfl⟩:=Dk w;exact⟨_,_,_,_,_,_,_,rfl,h⟩
def sI(h:ba m=true):∃i,m=.bor i:=by
 cases m<;>first|(exact dq h;done)|exact⟨_,rfl⟩
noncomputable def iX:ME->Bool
 | .lst _=>true
 | .comp ..=>true
 | .blt .listOf _=>true
 | .blt .sorted _=>true
 | .blt .sortedSet _=>true
 | .blt .sortedKeys _=>true
 | .blt .valuesOf _=>true
 | _=>false
noncomputable def uF(sc:Scope)(t:Str)(tpos:Pos)(e:Expr):Bool:=onQ (lcP e) λq=>sc.names.lookup t==some .local&&tpos.line==q.2.2.2.line&&!(q.2.2.1.names.any λ(n,k)=>n==t&&(k==.local||k==.cell))
noncomputable def oQ(sc:Scope)(t:Str)(tpos:Pos)(v:Expr)(e:ME):Bool:=uF sc t tpos v
noncomputable def dQ(N:List Str)(sc:Scope):List Nat->List Expr->Bool
 | [],[]=>true
 |i::is,.Name x _::es=>N[i]?==some x&&ij sc x&&aR x&&dQ N sc is es
 | _,_=>false
def pV(N)(sc)(i)(is)(x)(p)(es):dQ N sc (i::is) (.Name x p::es)=(N[i]?==some x&&ij sc x&&aR x&&dQ N sc is es):=rfl
noncomputable def vV(s:Stmt):Option (Str×Pos×Expr):=(asP s).bind λc=>(kf c.1).bind λu=>(nmP u).bind λx=>some (x.1,x.2,c.2.1)
def jq(h:vV s=some q):∃pos,s=.Assign [.Name q.1 q.2.1] q.2.2 pos:=by
 refine ae (dZ h) λc h1 h=>?_
 refine ae (dZ h) λu h2 h=>?_
 refine ae (dZ h) λx J h=>?_
 cases h;exact⟨c.2.2,by rw[xX h1,c_ h2,ff J]⟩
noncomputable def Ds(s:Stmt):Option (Str×Str×Pos×List Expr×Pos):=(exP s).bind λa=>maN a.1
def uG(h:Ds s=some q):∃p pos,s=.Expr (.Call (.Attribute (.Name q.1 p) q.2.1 q.2.2.1) q.2.2.2.1 [] q.2.2.2.2) pos:=by
 refine ae (dZ h) λx h1 h=>?_
 obtain⟨p,e⟩:=Di h;exact⟨p,x.2,by rw[Dm h1,e]⟩
noncomputable def Dt(s:Stmt):Option (Str×Expr×Expr):=(asP s).bind λc=>(kf c.1).bind λu=>(suP u).bind λw=>(nmP w.1).bind λx=>some (x.1,w.2.1,c.2.1)
def uH(h:Dt s=some q):∃p sp pos,s=.Assign [.Subscript (.Name q.1 p) q.2.1 sp] q.2.2 pos:=by
 refine bf λZq J=>?_
 refine ae (dZ h) λc h1 h=>?_
 refine ae (dZ h) λu h2 h=>?_
 refine ae (dZ h) λw Y h=>?_
 refine ae (dZ h) λx Z h=>?_
 cases h;refine J ?_;exact⟨x.2,w.2.2,c.2.2,by rw[xX h1,c_ h2,pS Y,ff Z]⟩
noncomputable def Du(s:Stmt):Option (Expr):=(reP s).bind λc=>c.1
def uI(h:Du s=some v):∃pos,s=.Return (some v) pos:=by
 refine ae (dZ h) λc h1 h=>?_
 exact⟨c.2,by rw[Do h1,h]⟩
noncomputable def BO(e:Expr):Option (Str):=(nmP e).bind λx=>some x.1
def ya(h:BO e=some x):∃p,e=.Name x p:=by
 refine ae (dZ h) λx h1 h=>?_
 cases h;exact⟨x.2,ff h1⟩
noncomputable def BP(e:Expr):Bool:=onQ (diP e) λd=>d.1.isEmpty&&d.2.1.isEmpty
def yb(h:BP e=true):∃p,e=.Dict [] [] p:=by
 replace h:=au h
 refine ae h λd h1 h=>?_
 obtain⟨h2,J⟩:=IW.mp h;exact⟨d.2.2,by rw[Dl h1,LU.mp h2,LU.mp J]⟩
noncomputable def AJ:Expr->Bool
 | .List [] _=>true
 | _=>false
noncomputable def yc:Expr->Option (List Expr)
 | .List es _=>some es
 | _=>none
def yd{e:Expr}{es:List Expr}(h:yc e=some es):∃p,e=.List es p:=by
 unfold yc at h;split at h
 .cases h;exact⟨_,rfl⟩
 .cases h
noncomputable def Dw:Stmt->Option (Str×Expr×Str×Pos×List Expr×Pos)
 | .Expr (.Call (.Attribute (.Subscript (.Name x _) s _) m ap) args [] cp) _=>some (x,s,m,ap,args,cp)
 | _=>none
def AK{s:Stmt}{q:Str×Expr×Str×Pos×List Expr×Pos}(h:Dw s=some q):∃p sp pos,s=.Expr (.Call (.Attribute (.Subscript (.Name q.1 p) q.2.1 sp) q.2.2.1 q.2.2.2.1) q.2.2.2.2.1 [] q.2.2.2.2.2) pos:=by
 unfold Dw at h;split at h
 .cases h;exact⟨_,_,_,rfl⟩
 .cases h
noncomputable def ye:Expr->Option (Str×Pos×Expr×Scope×Pos×Pos)
 | .ListComp (.List [] lp) [⟨.Name y py,it,[],0⟩] scope p=>some (y,py,it,scope,p,lp)
 | _=>none
def yf{e:Expr}{q:Str×Pos×Expr×Scope×Pos×Pos}(h:ye e=some q):e=.ListComp (.List [] q.2.2.2.2.2) [⟨.Name q.1 q.2.1,q.2.2.1,[],0⟩] q.2.2.2.1 q.2.2.2.2.1:=by
 unfold ye at h;split at h
 .cases h;rfl
 .cases h
mutual
noncomputable def gC(T:Tab)(N:List Str)(sc:Scope):MS->Stmt->Bool
 | .set i e,s0=>onQ (vV s0) λq=>N[i]?==some q.1&&ij sc q.1&&aR q.1&&chk T e N sc q.2.2&&!ba e&&(cv q.2.2||oQ sc q.1 q.2.1 q.2.2 e)
 | .setOwn i e,s0=>onQ (vV s0) λq=>N[i]?==some q.1&&ij sc q.1&&aR q.1&&chk T e N sc q.2.2&&iX e&&(cv q.2.2||oQ sc q.1 q.2.1 q.2.2 e)
 | .append i e,s0=>onQ (Ds s0) λq=>onQ (kf q.2.2.2.1) λv=>a7 N sc i q.1&&q.2.1==("append":Str)&&chk T e N sc v&&!ba e&&aC v&&q.2.2.1.endLine==q.2.2.2.2.line
 | .extend i e,s0=>onQ (Ds s0) λq=>onQ (kf q.2.2.2.1) λv=>a7 N sc i q.1&&q.2.1==("extend":Str)&&chk T e N sc v&&aC v&&q.2.2.1.endLine==q.2.2.2.2.line
 | .setLN i e,s0=>onQ (vV s0) λq=>N[i]?==some q.1&&ij sc q.1&&aR q.1&&uF sc q.1 q.2.1 q.2.2&&onQ (ye q.2.2) λc=>gB sc N c.2.2.2.1 c.1 (fg N []) []&&nU sc false (λxs=>chks T [e] N sc xs) .rng c.2.2.1
 | .setL i n,s0=>onQ (vV s0) λq=>onQ (yc q.2.2) λes=>N[i]?==some q.1&&ij sc q.1&&aR q.1&&es.all AJ&&es.length==n
 | .appI i k e,s0=>onQ (Dw s0) λq=>onQ (kf q.2.2.2.2.1) λv=>a7 N sc i q.1&&q.2.2.1==("append":Str)&&chk T k N sc q.2.1&&bX q.2.1&&chk T e N sc v&&!ba e&&aC v&&q.2.2.2.1.endLine==q.2.2.2.2.2.line
 | .setIdx i k e,s0=>onQ (Dt s0) λq=>a7 N sc i q.1&&chk T k N sc q.2.1&&bX q.2.1&&chk T e N sc q.2.2&&!ba e&&cv q.2.2
 | .unpack _ _,_=>false
 | .ite c a b,s0=>(match s0 with|.If t x y _=>chk T c N sc t&&chkSs T N sc a x&&chkSs T N sc b y|_=>false)
 | .for1 i k src body,s0=>(match s0 with|.For (.Name x _) it b [] _=>N[i]?==some x&&ij sc x&&aR x&&nU sc false (λxs=>chks T src N sc xs) k it&&chkSs T N sc body b|_=>false)
 | .forT is k src body,s0=>(match s0 with|.For (.Tuple J _ _) it b [] _=>dQ N sc is J&&nU sc true (λxs=>chks T src N sc xs) k it&&chkSs T N sc body b|_=>false)
 | .ret e,s0=>onQ (Du s0) λv=>chk T e N sc v&&!ba e
 | .retOwn i,s0=>onQ (Du s0) λv=>onQ (BO v) λx=>a7 N sc i x
 | .never,_=>true
 | .newD _ i,s0=>onQ (vV s0) λq=>BP q.2.2&&(N[i]?==some q.1&&ij sc q.1&&aR q.1)
 | .dput i k e,s0=>onQ (Dt s0) λq=>a7 N sc i q.1&&chk T k N sc q.2.1&&bX q.2.1&&chk T e N sc q.2.2&&!ba e&&cv q.2.2
 | _,_=>false
noncomputable def chkSs(T:Tab)(N:List Str)(sc:Scope):List MS->List Stmt->Bool
 | [],[]=>true
 | .freeze _::_,_=>false
 | .freezeL _::ms,ss=>chkSs T N sc ms ss
 |m::ms,s::ss=>gC T N sc m s&&chkSs T N sc ms ss
 | _,_=>false
end
def AL(T)(N)(sc)(i)(k)(src)(body)(s0):gC T N sc (.for1 i k src body) s0=(match s0 with|.For (.Name x _) it b [] _=>N[i]?==some x&&ij sc x&&aR x&&nU sc false (λxs=>chks T src N sc xs) k it&&chkSs T N sc body b|_=>false):=rfl
def AM(T)(N)(sc)(is)(k)(src)(body)(s0):gC T N sc (.forT is k src body) s0=(match s0 with|.For (.Tuple J _ _) it b [] _=>dQ N sc is J&&nU sc true (λxs=>chks T src N sc xs) k it&&chkSs T N sc body b|_=>false):=rfl
theorem mN(J:∀x b,f x x=some b->b=true):∀xs {b},eqL f xs xs=some b->b=true
 | [],b,h=>by simp[eqL]at h;exact h
 |x::xs,b,h=>by
  simp only[eqL,rp,IL]at h;obtain⟨p,h1,q,h2,rfl⟩:=h;rw[J x p h1,mN J xs h2];rfl
theorem jr:∀n x {b},eqF n x x=some b->b=true
 |n,.non,b,h=>by cases n<;>cases h<;>rfl
 |n,.bl x,b,h=>by cases n<;>cases h<;>exact KD x
 |n,.int x,b,h=>by cases n<;>cases h<;>exact KD x
 |n,.str x,b,h=>by cases n<;>cases h<;>exact KD x
 |0,.tup _,b,h=>aT h
 |0,.lst _,b,h=>aT h
 |n+1,.tup xs,b,h=>mN (λx b=>jr n x) xs h
 |n+1,.lst xs,b,h=>mN (λx b=>jr n x) xs ((if_pos rfl).symm.trans h)
 |n,.dI _,b,h=>by cases n<;>exact aT h
def fP(h:eqF n x y=some b):isD x=false/\isD y=false:=by
 cases x<;>cases y<;>first|exact⟨rfl,rfl⟩|(cases n<;>exact aT h)
noncomputable def Dx:PV->Bool
 | .tup _=>true
 | .lst _=>true
 | _=>false
def fD(h:eqF n x y=some b)(e:Dx x=!Dx y):b=false:=by
 cases x<;>cases y<;>first|(cases e;done)|(cases n<;>cases h<;>rfl)
theorem jt :∀xs ys {b},eqL f xs ys=some b ->
  (∀(j:Nat) x y,xs[j]?=some x->ys[j]?=some y->∃c,f x y=some c) /\
   b=((range (min xs.length ys.length)).all (λj=>(f (xs.getD j .non) (ys.getD j .non)).getD false)&&xs.length==ys.length)
 | [],[],b,h=>by simp[eqL]at h;subst h;simp
 | [],y::ys,b,h=>by simp[eqL]at h;subst h;simp
 |x::xs,[],b,h=>by simp[eqL]at h;subst h;simp
 |x::xs,y::ys,b,h=>by
  simp only[eqL,rp,IL]at h;obtain⟨p,h1,q,h2,rfl⟩:=h;obtain⟨J,Y⟩:=jt xs ys h2;refine⟨λj x' y' Z e2=>?_,?_⟩
  .cases j with
   |zero=>simp at Z e2;subst Z e2;exact⟨p,h1⟩
   |succ j=>exact J j x' y' Z e2
  .rw[Y];have hm:min (x::xs).length (y::ys).length=min xs.length ys.length+1:=by simp only[length_cons];exact(by simp)
   rw[hm,range_succ_eq_map,all_cons,Mm];have hl:((x::xs).length==(y::ys).length)=(xs.length==ys.length):=by
    simp_all
   rw[hl,Bool.and_assoc];simp only[getD_cons_zero,h1,getD_some,Function.comp_def,getD_cons_succ]
theorem uJ :∀xs {b},inL f xs=some b->(∀x∈xs,∃c,f x=some c)/\b=xs.any λx=>(f x).getD false
 | [],b,h=>by simp[inL]at h;subst h;simp
 |x::xs,b,h=>by
  simp only[inL,rp,IL]at h;obtain⟨p,h1,q,h2,rfl⟩:=h;obtain⟨J,Z⟩:=uJ xs h2;refine⟨λy Y=>?_,?_⟩
  .rcases IM.mp Y with rfl|Y
   .exact⟨p,h1⟩
   .exact J y Y
  .simp_all
section
variable{X:Cx}{pins:List (Addr×Obj)}{σ:St}{H:Hp}{s:Shared}
def rh(I:Inv X pins σ H s)(h1:SqL X.K H a xs)(h2:SqT X.K H a ys):False:=by
 refine aQ (I.list h1) λits _ p _=>?_
 refine aQ (I.tuple h2) λJ _ q _=>?_
 exact SeqAt.ne_of_list_tuple p.isList (show s.heap.IsTuple a J.toArray from q) rfl
def pW{H:Hp}{a:Addr}{d:DD}(h:RdD H a d):IsD H a:=by
 cases d with
 |k kvs=>exact .inl ⟨_,h.rd⟩
 |t kvs=>exact .inr ⟨_,h.rd⟩
def lA(I:Inv X pins σ H s)(h1:SqL X.K H a xs\/SqT X.K H a xs)(h2:RdD H a d):False:=by
 refine ae ((sm I (pW h2)).1) λo ho hc=>?_
 rcases h1 with h1|h1
 .obtain⟨its,_,p,_⟩:=I.list h1;obtain⟨o',J,Y,_⟩:=p.isList;rw[ho]at J;cases J;rw[hc]at Y;exact absurd Y (by decide)
 .obtain⟨its,_,⟨o',J,Y,_⟩,_⟩:=I.tuple h1;rw[ho]at J;cases J;rw[hc]at Y;exact absurd Y (by decide)
def Sc.v_inj:∀{a b:Sc},a.v=b.v->a=b:=by
 intro a b h;cases a<;>cases b<;>simp[Sc.v]at h ⊢<;>exact h
theorem rj:∀{a b},gZ a=gZ b->a=b
 | [],[],_=>rfl
 | [],_::_,h=>vh h
 | _::_,[],h=>by cases h
 | (k,v)::a,(Y,Z)::b,h=>by
  simp[gZ,Jc,Prod.mk.injEq]at h;obtain⟨⟨h1,h2⟩,J⟩:=h;rw[h1,Sc.v_inj h2,rj J]
theorem lB:∀{a b:List Int},(a.map Sum.inl:List Key)=b.map Sum.inl->a=b
 | [],[],_=>rfl
 | [],_::_,h=>vh h
 | _::_,[],h=>by cases h
 |x::a,y::b,h=>by
  simp[List.cons.injEq]at h;rw[h.1,lB h.2]
theorem rk:∀{a b},iW a=iW b->a=b
 | [],[],_=>rfl
 | [],_::_,h=>vh h
 | _::_,[],h=>by cases h
 | (k,v)::a,(Y,Z)::b,h=>by
  simp[iW,Jc]at h;obtain⟨⟨h1,h2⟩,J⟩:=h;rw[lB h1,Sc.v_inj h2,rk J]
def rm{a b:DD}(h:lj a=lj b):a=b:=by
 cases a<;>cases b
 .rw[rj (HO.dK.inj h)]
 .cases h
 .cases h
 .rw[rk (HO.dT.inj h)]
def Dy(h:RdD H a x)(g:RdD H a y):x=y:=by
 have h:=h.rd;have g:=g.rd;have ne:∀x o u,lj x≠.frz o u:=λx o u e=>by cases x<;>cases e
 rcases h with h|⟨o,h⟩<;>rcases g with g|⟨o',g⟩
 .rw[h]at g;exact rm (IT g)
 .rw[h]at g;exact absurd (IT g) (ne x _ _)
 .simp_all
 .rw[h]at g;exact rm (HO.frz.inj (IT g)).2
mutual
theorem lC(I:Inv X pins σ H s):∀(x y:PV) {u:V},Rep X.K H x u->Rep X.K H y u->x=y
 | .non,y,u,h,g=>by rw[Rep]at h;subst h;cases y<;>simp[Rep]at g ⊢
 | .bl b,y,u,h,g=>by rw[Rep]at h;subst h;cases y<;>simp[Rep]at g ⊢;exact g
 | .int b,y,u,h,g=>by rw[Rep]at h;subst h;cases y<;>simp[Rep]at g ⊢;exact g
 | .str b,y,u,h,g=>by rw[Rep]at h;subst h;cases y<;>simp[Rep]at g ⊢;exact g
 | .tup xs,y,u,h,g=>by
  obtain⟨a,us,rfl,q,r⟩:=h;cases y with
  |tup ys =>
   refine ak g λb vs e J Y=>?_
   cases e;have:=I.tuple_inj (d8 q) (d8 J);subst this;rw[reps_inj I xs ys r Y]
  |lst ys =>
   refine ak g λb vs e J Y=>?_
   cases e;exact(rh I J (d8 q)).elim
  |dI kvs =>
   obtain⟨b,e,J⟩:=g;cases e;exact(lA I (.inr (d8 q)) J).elim
  | _=>injection g
 | .lst xs,y,u,h,g=>by
  obtain⟨a,us,rfl,q,r⟩:=h;cases y with
  |lst ys =>
   refine ak g λb vs e J Y=>?_
   cases e;have:=I.list_inj q J;subst this;rw[reps_inj I xs ys r Y]
  |tup ys =>
   refine ak g λb vs e J Y=>?_
   cases e;exact(rh I q (d8 J)).elim
  |dI kvs =>
   obtain⟨b,e,J⟩:=g;cases e;exact(lA I (.inl q) J).elim
  | _=>injection g
 | .dI kvs,y,u,h,g=>by
  obtain⟨a,rfl,q⟩:=h;cases y with
  |dI ks =>
   refine ae g λb e J=>?_
   cases e;rw[Dy q J]
  |tup ys =>
   obtain⟨b,vs,e,J,Y⟩:=g;cases e;exact(lA I (.inr (d8 J)) q).elim
  |lst ys =>
   obtain⟨b,vs,e,J,Y⟩:=g;cases e;exact(lA I (.inl J) q).elim
  | _=>injection g
theorem reps_inj(I:Inv X pins σ H s):∀(xs ys:List PV) {us:List V},Reps X.K H xs us->Reps X.K H ys us->xs=ys
 | [],ys,us,h,g=>by
  rw[Reps]at h;subst h
  cases ys with
  |nil=>rfl
  |cons y ys=>rw[Reps]at g;obtain⟨_,_,e,_⟩:=g;exact vh e
 |x::xs,ys,us,h,g=>by
  refine ak h λu r J q t=>?_
  subst J;cases ys with
  |nil=>rw[Reps]at g;cases g
  |cons y ys =>
   refine ak g λZ r' e Y t'=>?_
   cases e;rw[lC I x y q Y,reps_inj I xs ys t t']
end
def Rep.tupAt(I:Inv X pins σ H s)(h:Rep X.K H (.tup xs) u)(r:aK u v) :
  ∃(a:Addr) (us:List V) (its:List Value),u=.ref a/\v=.ref a/\Reps X.K H xs us/\aF us its/\s.heap.IsTuple a its.toArray/\xs.length=its.length:=by
 refine ak h λa us J q t=>?_
 subst J;refine aQ (I.tuple (d8 q)) λits Y p _=>?_
 exact⟨a,us,its,rfl,r,t,Y,p,t.length.trans Y.length⟩
def Rep.lstAt(I:Inv X pins σ H s)(h:Rep X.K H (.lst xs) u)(r:aK u v) :
  ∃a us its,u=.ref a/\v=.ref a/\Reps X.K H xs us/\aF us its/\s.heap.IsList a its.toArray/\xs.length=its.length:=by
 refine ak h λa us J q t=>?_
 subst J;refine aQ (I.list q) λits Y p _=>?_
 exact⟨a,us,its,rfl,r,t,Y,p.isList,t.length.trans Y.length⟩
def ju{A:Around}(ih:∀x y {ux uy}{Y Z}{b}{A},A.units+n<cLine->eqF n x y=some b->Rep X.K H x ux->Rep X.K H y uy->aK ux Y->aK uy Z->SeqAt.EqAt A s Y Z b)
  (hu:A.units+(n+1)<cLine) (rx:Reps X.K H xs us) (ry:Reps X.K H ys ws) (Y:aF us its) (Z:aF ws J)
  (hs:∀(j:Nat) x y,xs[j]?=some x->ys[j]?=some y->∃c,eqF n x y=some c) :
  ∀j (h1:j<its.toArray.size) (h2:j<J.toArray.size),SeqAt.EqAt A.in1 s its.toArray[j] J.toArray[j] ((eqF n (xs.getD j .non) (ys.getD j .non)).getD false):=λj h1 h2=>by
 have l1:=rx.length.trans Y.length;have l2:=ry.length.trans Z.length;simp only[B1]at h1 h2;have e1:xs[j]?=some xs[j]:=IF (by simp[*]);have e2:ys[j]?=some ys[j]:=IF (by omega);refine ae (rx.get e1) λux q1 p1=>?_
 refine ae (ry.get e2) λuy q2 p2=>?_
 refine ae (Y.get q1) λwx q3 p3=>?_
 refine ae (Z.get q2) λwy q4 p4=>?_
 obtain⟨c,hc⟩:=hs j _ _ e1 e2;have d1:xs.getD j .non=xs[j]:=by simp[List.getD,e1]
 have d2:ys.getD j .non=ys[j]:=by simp[List.getD,e2]
 have g1:its.toArray[j]=wx:=by
  simp_all
 have g2:J.toArray[j]=wy:=by
  simp_all
 rw[d1,d2,hc,g1,g2];exact ih _ _ (show A.units+1+n<cLine by omega) hc p1 p2 p3 p4
def AN(I:Inv X pins σ H s)(ih:∀x y {Z uy}{vx vy}{b}{A},A.units+n<cLine->eqF n x y=some b->Rep X.K H x Z->Rep X.K H y uy->aK Z vx->aK uy vy->SeqAt.EqAt A s vx vy b)
  (hu:A.units+(n+1)<cLine):(∀{xs ys}{Z uy}{vx vy}{b},eqF (n+1) (.tup xs) (.tup ys)=some b->Rep X.K H (.tup xs) Z->Rep X.K H (.tup ys) uy->aK Z vx->aK uy vy->SeqAt.RcAt A s vx vy b) /\
   (∀{xs ys}{Z uy}{vx vy}{b},eqF (n+1) (.lst xs) (.lst ys)=some b->Rep X.K H (.lst xs) Z->Rep X.K H (.lst ys) uy->aK Z vx->aK uy vy->SeqAt.RcAt A s vx vy b):=by
 refine⟨λ{xs ys Z uy vx vy b} h rx ry r1 r2=>?_,λ{xs ys Z uy vx vy b} h rx ry r1 r2=>?_⟩
 .refine cM (rx.tupAt I r1) λa us its J Y t1 w1 p1 l1=>?_
  subst J;subst Y;refine cM (ry.tupAt I r2) λc ws aL J Y t2 w2 p2 l2=>?_
  subst J;subst Y;have h:=h;obtain⟨hs,hb⟩:=jt xs ys h;have q:=SeqAt.RcAt.tuples (A:=A) p1 p2 (by omega) (ju ih hu t1 t2 w1 w2 hs);rw[hb];simpa[l1,l2]using q
 .refine cM (rx.lstAt I r1) λa us its J Y t1 w1 p1 l1=>?_
  subst J;subst Y;refine cM (ry.lstAt I r2) λc ws aL J Y t2 w2 p2 l2=>?_
  subst J;subst Y;have h:(if xs.length=ys.length then eqL (eqF n) xs ys else some false)=some b:=h;by_cases hl:xs.length=ys.length
  .rw[if_pos hl]at h;obtain⟨hs,hb⟩:=jt xs ys h;have q:=SeqAt.RcAt.lists (A:=A) p1 p2 (by simp only[B1];omega) (by omega) (ju ih hu t1 t2 w1 w2 hs)
   simp_all
  .rw[if_neg hl]at h;cases h;exact SeqAt.RcAt.lists_lengths (A:=A) p1 p2 (by simp only[B1,bne_iff_ne];omega) (by omega)
def c9(hd:isD x=false)(h:Rep X.K H x u):(∃xs,x=.tup xs)\/(∃xs,x=.lst xs)\/ic u=true:=by
 cases x with
 |dI _=>exact qA hd
 |tup xs=>exact .inl ⟨xs,rfl⟩
 |lst xs=>exact .inr (.inl ⟨xs,rfl⟩)
 | _=>rw[Rep]at h;subst h;exact .inr (.inr rfl)
def gD(J:A.units<cLine)(f:ic u=true)(r:aK u v)(p:s.heap.IsTuple a its) :
  SeqAt.EqAt A s v (.ref a) false/\SeqAt.EqAt A s (.ref a) v false/\SeqAt.RcAt A s v (.ref a) false/\SeqAt.RcAt A s (.ref a) v false:=by
 cases u with
 |non=>subst r;exact⟨.none_tuple p J,.tuple_none p J,.none_tuple p J,.tuple_none p J⟩
 |bl b=>subst r;exact⟨.bool_tuple b p J,.tuple_bool b p J,.bool_tuple b p J,.tuple_bool b p J⟩
 |int b=>obtain⟨t,rfl⟩:=r;exact⟨.int_tuple b t p J,.tuple_int b t p J,.int_tuple b t p J,.tuple_int b t p J⟩
 |str b=>obtain⟨t,rfl⟩:=r;exact⟨.str_tuple b t p J,.tuple_str b t p J,.str_tuple b t p J,.tuple_str b t p J⟩
 | _=>exact absurd (show false=true from f) tf
def iB(J:A.units<cLine)(f:ic u=true)(r:aK u v)(p:s.heap.IsList a its) :
  SeqAt.EqAt A s v (.ref a) false/\SeqAt.EqAt A s (.ref a) v false/\SeqAt.RcAt A s v (.ref a) false/\SeqAt.RcAt A s (.ref a) v false:=by
 cases u with
 |non=>subst r;exact⟨.none_list p J,.list_none p J,.none_list p J,.list_none p J⟩
 |bl b=>subst r;exact⟨.bool_list b p J,.list_bool b p J,.bool_list b p J,.list_bool b p J⟩
 |int b=>obtain⟨t,rfl⟩:=r;exact⟨.int_list b t p J,.list_int b t p J,.int_list b t p J,.list_int b t p J⟩
 |str b=>obtain⟨t,rfl⟩:=r;exact⟨.str_list b t p J,.list_str b t p J,.str_list b t p J,.list_str b t p J⟩
 | _=>exact absurd (show false=true from f) tf
def yg(Y:aK y u)(J:aK x v)(fy:ic y=true)(Z:ic x=true):SeqAt.RcAt A s u v (eqV y x):=by
 cases y with
 |non =>
  cases Y;cases x with
  |non=>subst J;exact SeqAt.RcAt.none_none
  |bl b=>subst J;exact SeqAt.RcAt.none_bool b
  |int b=>obtain⟨t,rfl⟩:=J;exact SeqAt.RcAt.none_int b t
  |str b=>obtain⟨t,rfl⟩:=J;exact SeqAt.RcAt.none_str b t
  | _=>exact absurd (show false=true from Z) tf
 |bl a =>
  subst Y;cases x with
  |non=>subst J;exact SeqAt.RcAt.bool_none a
  |bl b=>subst J;exact SeqAt.RcAt.bool_bool a b
  |int b=>obtain⟨t,rfl⟩:=J;exact SeqAt.RcAt.bool_int a b t
  |str b=>obtain⟨t,rfl⟩:=J;exact SeqAt.RcAt.bool_str a b t
  | _=>exact absurd (show false=true from Z) tf
 |int a =>
  obtain⟨t',rfl⟩:=Y;cases x with
  |non=>subst J;exact SeqAt.RcAt.int_none a t'
  |bl b=>subst J;exact SeqAt.RcAt.int_bool a t' b
  |int b=>obtain⟨t,rfl⟩:=J;exact SeqAt.RcAt.int_int a t' b t
  |str b=>obtain⟨t,rfl⟩:=J;exact SeqAt.RcAt.int_str a t' b t
  | _=>exact absurd (show false=true from Z) tf
 |str a =>
  obtain⟨t',rfl⟩:=Y;cases x with
  |non=>subst J;exact SeqAt.RcAt.str_none a t'
  |bl b=>subst J;exact SeqAt.RcAt.str_bool a t' b
  |int b=>obtain⟨t,rfl⟩:=J;exact SeqAt.RcAt.str_int a t' b t
  |str b=>obtain⟨t,rfl⟩:=J;exact SeqAt.RcAt.str_str a t' b t
  | _=>exact absurd (show false=true from Z) tf
 | _=>exact absurd (show false=true from fy) tf
def mO(J:Rep X.K H x u)(Y:Rep X.K H y v)(Z:ic u=true)(fy:ic v=true)(h:eqF n x y=some b):b=eqV u v:=by
 cases x<;>cases y<;>simp[Rep]at J Y
 all_goals first
  | (obtain⟨_,_,rfl,_⟩:=J;exact absurd (show false=true from Z) tf)
  | (obtain⟨_,_,rfl,_⟩:=Y;exact absurd (show false=true from fy) tf)
  | (obtain⟨_,rfl,_⟩:=J;exact absurd (show false=true from Z) tf)
  | (obtain⟨_,rfl,_⟩:=Y;exact absurd (show false=true from fy) tf)
  | (subst J Y;cases n<;>cases h<;>rfl)
def fE(r:Rep X.K H y v)(f:ic v=true):Dx y=false:=by
 cases y with
 |tup _|lst _=>obtain⟨_,_,rfl,_⟩:=r;exact dq f
 | _=>rfl
def pX(I:Inv X pins σ H s):∀n x y {ux uy}{vx vy}{b}{A},A.units+n<cLine->eqF n x y=some b->Rep X.K H x ux->Rep X.K H y uy->aK ux vx->aK uy vy ->
  SeqAt.EqAt A s vx vy b/\SeqAt.RcAt A s vx vy b:=by
 intro n
 induction n with
 |zero =>
  intro x y ux uy vx vy b A hu h rx ry r1 r2;have J:A.units<cLine:=by omega
  rcases c9 (fP h).1 rx with⟨xs,rfl⟩|⟨xs,rfl⟩|fx
  .refine cM (rx.tupAt I r1) λa us its Y Z t1 w1 p1 l1=>?_
   subst Y;subst Z;rcases c9 (fP h).2 ry with⟨ys,rfl⟩|⟨ys,rfl⟩|fy
   .exact aT h
   .refine cM (ry.lstAt I r2) λc ws ac Y Z t2 w2 p2 l2=>?_
    subst Y;subst Z;cases h;exact⟨.tuple_list p1 p2 J,.tuple_list p1 p2 J⟩
   .refine fW (gD J fy r2 p1) λz1 z2 z3 z4=>?_
    have:=fD h (by rw[fE ry fy];rfl);subst this;exact⟨z2,z4⟩
  .refine cM (rx.lstAt I r1) λa us its Y Z t1 w1 p1 l1=>?_
   subst Y;subst Z;rcases c9 (fP h).2 ry with⟨ys,rfl⟩|⟨ys,rfl⟩|fy
   .refine cM (ry.tupAt I r2) λc ws ac Y Z t2 w2 p2 l2=>?_
    subst Y;subst Z;cases h;exact⟨.list_tuple p1 p2 J,.list_tuple p1 p2 J⟩
   .exact aT h
   .refine fW (iB J fy r2 p1) λz1 z2 z3 z4=>?_
    have:=fD h (by rw[fE ry fy];rfl);subst this;exact⟨z2,z4⟩
  .rcases c9 (fP h).2 ry with⟨ys,rfl⟩|⟨ys,rfl⟩|fy
   .refine cM (ry.tupAt I r2) λc ws ac Y Z t2 w2 p2 l2=>?_
    subst Y;subst Z;refine fW (gD J fx r1 p2) λz1 z2 z3 z4=>?_
    have:=fD h (by rw[fE rx fx];rfl);subst this;exact⟨z1,z3⟩
   .refine cM (ry.lstAt I r2) λc ws ac Y Z t2 w2 p2 l2=>?_
    subst Y;subst Z;refine fW (iB J fx r1 p2) λz1 z2 z3 z4=>?_
    have:=fD h (by rw[fE rx fx];rfl);subst this;exact⟨z1,z3⟩
   .rw[mO rx ry fx fy h];exact⟨wZ r1 r2 fx fy,yg r1 r2 fx fy⟩
 |succ n ih =>
  intro x y ux uy vx vy b A hu h rx ry r1 r2;have J:A.units<cLine:=by exact(Jl (J7 _ _) ‹_›)
  obtain⟨kt,kl⟩:=AN I (λx y {_ _ _ _ _ _} a1 a2 a3 a4 a5 a6=>(ih x y a1 a2 a3 a4 a5 a6).1) hu;rcases c9 (fP h).1 rx with⟨xs,rfl⟩|⟨xs,rfl⟩|fx
  .refine cM (rx.tupAt I r1) λa us its e1 bc t1 w1 p1 l1=>?_
   rcases c9 (fP h).2 ry with⟨ys,rfl⟩|⟨ys,rfl⟩|fy
   .have q:=kt h rx ry r1 r2;refine cM (ry.tupAt I r2) λc ws ac e2 br t2 w2 p2 l2=>?_
    subst e1 bc e2 br;refine⟨?_,q⟩;by_cases bO:a=c
    .subst bO;have e:=lC I _ _ rx ry;rw[e]at h;rw[jr _ _ h];exact .same _
    .exact .of_refs bO q
   .refine cM (ry.lstAt I r2) λc ws ac e2 br t2 w2 p2 l2=>?_
    subst e1 bc e2 br;cases h;exact⟨.tuple_list p1 p2 J,.tuple_list p1 p2 J⟩
   .subst e1 bc;refine fW (gD J fy r2 p1) λz1 z2 z3 z4=>?_
    have:=fD h (by rw[fE ry fy];rfl);subst this;exact⟨z2,z4⟩
  .refine cM (rx.lstAt I r1) λa us its e1 bc t1 w1 p1 l1=>?_
   rcases c9 (fP h).2 ry with⟨ys,rfl⟩|⟨ys,rfl⟩|fy
   .refine cM (ry.tupAt I r2) λc ws ac e2 br t2 w2 p2 l2=>?_
    subst e1 bc e2 br;cases h;exact⟨.list_tuple p1 p2 J,.list_tuple p1 p2 J⟩
   .have q:=kl h rx ry r1 r2;refine cM (ry.lstAt I r2) λc ws ac e2 br t2 w2 p2 l2=>?_
    subst e1 bc e2 br;refine⟨?_,q⟩;by_cases bO:a=c
    .subst bO;have e:=lC I _ _ rx ry;rw[e]at h;rw[jr _ _ h];exact .same _
    .exact .of_refs bO q
   .subst e1 bc;refine fW (iB J fy r2 p1) λz1 z2 z3 z4=>?_
    have:=fD h (by rw[fE ry fy];rfl);subst this;exact⟨z2,z4⟩
  .rcases c9 (fP h).2 ry with⟨ys,rfl⟩|⟨ys,rfl⟩|fy
   .refine cM (ry.tupAt I r2) λc ws ac Y Z t2 w2 p2 l2=>?_
    subst Y;subst Z;refine fW (gD J fx r1 p2) λz1 z2 z3 z4=>?_
    have:=fD h (by rw[fE rx fx];rfl);subst this;exact⟨z1,z3⟩
   .refine cM (ry.lstAt I r2) λc ws ac Y Z t2 w2 p2 l2=>?_
    subst Y;subst Z;refine fW (iB J fx r1 p2) λz1 z2 z3 z4=>?_
    have:=fD h (by rw[fE rx fx];rfl);subst this;exact⟨z1,z3⟩
   .rw[mO rx ry fx fy h];exact⟨wZ r1 r2 fx fy,yg r1 r2 fx fy⟩
end
section
variable{X:Cx}
def Dz(hu:X.A.units+101<cLine):OpR X (compareOp .Eq) (λJ Y H Q=>∃x y b,Rep X.K H x J/\Rep X.K H y Y/\eqF 100 x y=some b/\Q (.bl b) H):=by
 intro pins s σ H J Y v u Q I Z ry h;refine i_ h λx y b r1 r2 e q=>?_
 exact(pX I 100 x y (Jz ‹_›) e r1 r2 Z ry).2 _ _ _ _ ⟨.bl b,H,I,rfl,q⟩
def DA(hu:X.A.units+101<cLine):OpR X (compareOp .NotEq) (λux uy H Q=>∃x y b,Rep X.K H x ux/\Rep X.K H y uy/\ra x y=true/\eqF 100 x y=some b/\Q (.bl (!b)) H):=by
 intro pins s σ H ux uy v u Q I rx ry h;obtain⟨x,y,b,r1,r2,ok,e,q⟩:=h;rcases c9 (fP e).1 r1 with⟨xs,rfl⟩|⟨xs,rfl⟩|fx
 .cases y with
  |tup ys =>
   refine cM (r1.tupAt I rx) λa us its J Y t1 w1 p1 l1=>?_
   subst J;subst Y;refine cM (r2.tupAt I ry) λc ws ac J Y t2 w2 p2 l2=>?_
   subst J;subst Y;have e:eqL (eqF 99) xs ys=some b:=e;obtain⟨hs,hb⟩:=jt xs ys e;obtain⟨⟨cls,dd,data,sl⟩,ho,hc,n,hd⟩:=id p1;obtain⟨⟨bL,ar,data2,aL⟩,Z,a0,n2,a8⟩:=id p2;subst hc hd a0 a8;refine KN (op:=.NotEq) ⟨_,ho,rfl⟩ ⟨_,Z,rfl⟩ PySem.F.slot_tuple_ne PySem.F.entry_tuple_ne (PySem.F.args_tuple_ne_2 _ _) (SeqAt.tuple_neAt a c its.toArray ac.toArray n n2 dd ar sl aL _)
    ⟨ho,Z,ju (n:=99) (λx y {_ _ _ _ _ _} a1 a2 a3 a4 a5 a6=>(pX I 99 x y a1 a2 a3 a4 a5 a6).1) (by omega) t1 t2 w1 w2 hs,?_⟩ (by omega)
   refine⟨(λx=>nomatch x),⟨.bl (!b),H,I,?_,q⟩⟩;rw[hb];simp[l1,l2,L2.aK]
  | _=>exact dq ok
 .cases y with
  |lst ys =>
   refine cM (r1.lstAt I rx) λa us its J Y t1 w1 p1 l1=>?_
   subst J;subst Y;refine cM (r2.lstAt I ry) λc ws ac J Y t2 w2 p2 l2=>?_
   subst J;subst Y;have e:(if xs.length=ys.length then eqL (eqF 99) xs ys else some false)=some b:=e;obtain⟨⟨cls,dd,data,sl⟩,ho,hc,n,hd⟩:=id p1;obtain⟨⟨bL,ar,data2,aL⟩,Z,a0,n2,a8⟩:=id p2;simp only at hc hd a0 a8;subst hc hd a0 a8;by_cases hl:xs.length=ys.length
   .rw[if_pos hl]at e;obtain⟨hs,hb⟩:=jt xs ys e;refine KN (op:=.NotEq) ⟨_,ho,rfl⟩ ⟨_,Z,rfl⟩ PySem.F.slot_list_ne PySem.F.entry_list_ne (PySem.F.args_list_ne_2 _ _) (SeqAt.list_neAt a c its.toArray ac.toArray n n2 dd ar sl aL (by simp only[B1];omega) _)
     ⟨ho,Z,ju (n:=99) (λx y {_ _ _ _ _ _} a1 a2 a3 a4 a5 a6=>(pX I 99 x y a1 a2 a3 a4 a5 a6).1) (by omega) t1 t2 w1 w2 hs,?_⟩ (by omega)
    refine⟨(λx=>nomatch x),⟨.bl (!b),H,I,?_,q⟩⟩;rw[hb,hl,Nat.min_self];simp[<- l1,hl,L2.aK]
   .rw[if_neg hl]at e;cases e;refine KN (op:=.NotEq) ⟨_,ho,rfl⟩ ⟨_,Z,rfl⟩ PySem.F.slot_list_ne PySem.F.entry_list_ne (PySem.F.args_list_ne_2 _ _) (SeqAt.list_ne_lengthsAt a c its.toArray ac.toArray n n2 dd ar sl aL (by simp only[B1,bne_iff_ne];omega)) ⟨ho,Z,?_⟩ (by omega);exact⟨(λx=>nomatch x),⟨.bl true,H,I,rfl,q⟩⟩
  | _=>exact dq ok
 .have fy:ic uy=true:=by
   rcases c9 (fP e).2 r2 with⟨ys,rfl⟩|⟨ys,rfl⟩|fy
   .cases x<;>cases ok
    obtain⟨_,_,rfl,_⟩:∃a us,ux=V.ref a/\_:=by rw[Rep]at r1;exact r1
    exact absurd (show false=true from fx) tf
   .cases x<;>cases ok
    obtain⟨_,_,rfl,_⟩:∃a us,ux=V.ref a/\_:=by rw[Rep]at r1;exact r1
    exact absurd (show false=true from fx) tf
   .exact fy
  have hb:=mO r1 r2 fx fy e;subst hb;refine Fu pins s σ H ux uy v u Q I rx ry ?_;have key:scal ux uy=true/\decide (ux=uy)=eqV ux uy:=by
   cases x<;>cases y<;>simp only[Rep]at r1 r2<;>first
    | (obtain⟨_,_,rfl,_⟩:=r1;exact absurd (show false=true from fx) tf)
    | (obtain⟨_,_,rfl,_⟩:=r2;exact absurd (show false=true from fy) tf)
    | (obtain⟨_,rfl,_⟩:=r1;exact absurd (show false=true from fx) tf)
    | (obtain⟨_,rfl,_⟩:=r2;exact absurd (show false=true from fy) tf)
    | (subst r1 r2;first|(exact dq ok;done)|exact⟨rfl,by first|exact tY|exact wR|exact tZ|exact I0 rfl|exact Jt (λz=>by cases z)⟩)
  exact⟨key.1,by rw[key.2];exact q⟩
def jv(I:Inv X pins σ H s)(hu:X.A.units+101<cLine)(rx:Rep X.K H x ux)(r1:aK ux vx)(t:Reps X.K H xs us)(w:aF us its)(h:isIn x xs=some b) :
  ∃e,(∀y,y∈its.toArray->SeqAt.EqAt X.A.in1 s y vx (e y))/\its.toArray.any e=b:=by
 obtain⟨h1,h2⟩:=uJ xs h
 classical
 have J:∀z u y,aK u y->Rep X.K H z u->∀p:(∃z u,aK u y/\Rep X.K H z u),p.choose=z:=λz u y r q p=>by
  refine ae p.choose_spec λu' r' q'=>?_
  have e:=r.inj r';subst e;exact lC I _ _ q' q
 refine⟨λy=>if p:∃z u,aK u y/\Rep X.K H z u then(eqF 100 p.choose x).getD false else false,?_,?_⟩
 .intro y hy;refine bf λZq kq=>?_
  obtain⟨j,hj,e⟩:=Lq (by simpa using hy:y∈its);have ej:its[j]?=some y:=by rw[IF hj,e]
  have l1:=w.length;obtain⟨Y,e1⟩:∃Y,us[j]?=some Y:=⟨_,IF (by simp[*])⟩;obtain⟨wy,e2,Z⟩:=w.get e1;rw[ej]at e2;cases e2;refine ae (t.get' e1) λz e3 rz=>?_
  obtain⟨c,hc⟩:=h1 z (JA e3);have q:=(pX I 100 z x (A:=X.A.in1) (show X.A.units+1+100<cLine by omega) hc rz rx Z r1).1;have p:∃z u,aK u y/\Rep X.K H z u:=⟨z,Y,Z,rz⟩;have e4:=J z Y y Z rz p;refine kq ?_
  simp_all
 .rw[h2];simp only[any_toArray];clear h h1 h2
  induction xs generalizing us its with
  |nil =>
   subst t;cases w
   rfl
  |cons z zs ih =>
   obtain⟨u,r,rfl,q,t⟩:=t;cases w with
   |cons rv w =>
    rename_i y ys;have p:∃z u,aK u y/\Rep X.K H z u:=⟨z,u,rv,q⟩;have e4:=J z u y rv q p;rw[any_cons,any_cons,ih t w];simp only[p,dite_true,e4]
def DB(hu:X.A.units+101<cLine):OpR X (compareOp .In) (λux uy H Q=>∃x xs a us b,Rep X.K H x ux/\uy=.ref a/\(SqL X.K H a us\/SqT X.K H a us)/\Reps X.K H xs us/\isIn x xs=some b/\Q (.bl b) H):=by
 intro pins s σ H ux uy v u Q I rx ry h;refine tR h λx xs a us b r1 Y J r2 e q=>?_
 subst Y;subst ry;rcases J with J|J
 .obtain⟨its,r,Z,hz⟩:=I.list J;obtain⟨f,h1,h2⟩:=jv I hu r1 rx r2 r e;refine SeqAt.in_listAt f Z.isList h1 ?_;rw[h2];exact⟨.bl b,H,I,rfl,q⟩
 .obtain⟨its,r,Z,hz⟩:=I.tuple J;obtain⟨f,h1,h2⟩:=jv I hu r1 rx r2 r e;refine SeqAt.in_tupleAt f Z h1 ?_;rw[h2];exact⟨.bl b,H,I,rfl,q⟩
def vW(hu:X.A.units+101<cLine):OpR X (compareOp .NotIn) (λux uy H Q=>∃x xs a us b,Rep X.K H x ux/\uy=.ref a/\(SqL X.K H a us\/SqT X.K H a us)/\Reps X.K H xs us/\isIn x xs=some b/\Q (.bl (!b)) H):=by
 intro pins s σ H ux uy v u Q I rx ry h;refine tR h λx xs a us b r1 Y J r2 e q=>?_
 subst Y;subst ry;rcases J with J|J
 .obtain⟨its,r,Z,hz⟩:=I.list J;obtain⟨f,h1,h2⟩:=jv I hu r1 rx r2 r e;refine SeqAt.notIn_listAt f Z.isList h1 ?_;rw[h2];exact⟨.bl (!b),H,I,rfl,q⟩
 .obtain⟨its,r,Z,hz⟩:=I.tuple J;obtain⟨f,h1,h2⟩:=jv I hu r1 rx r2 r e;refine SeqAt.notIn_tupleAt f Z h1 ?_;rw[h2];exact⟨.bl (!b),H,I,rfl,q⟩
end
end MM
namespace L2
open PySem PySem.Spec PyProof.Rows List Option
theorem PE.imp(h:PE X e t)(i:∀σ H Q,t' σ H Q->t σ H Q):PE X e t':=λpins s σ H Q I q=>h pins s σ H Q I (i σ H Q q)
theorem PT.imp(h:PT X e t)(i:∀σ H Q,t' σ H Q->t σ H Q):PT X e t':=λpins s σ H Q I q=>h pins s σ H Q I (i σ H Q q)
theorem PA.imp(h:PA X e t)(i:∀σ H Q,t' σ H Q->t σ H Q):PA X e t':=λpos pins s σ H Q I q=>h pos pins s σ H Q I (i σ H Q q)
theorem PS.imp(h:PS X e t)(i:∀D σ H,t' D σ H->t D σ H):PS X e t':=λpins s σ H D I q=>h pins s σ H D I (i D σ H q)
theorem PSs.imp(h:PSs X e t)(i:∀D σ H,t' D σ H->t D σ H):PSs X e t':=λpins s σ H D I q=>h pins s σ H D I (i D σ H q)
theorem PI.imp(h:PI X tg e t)(i:∀σ H R,t' σ H R->t σ H R):PI X tg e t':=λpins s σ H R I q=>h pins s σ H R I (i σ H R q)
end L2
namespace MM
open PySem PySem.Spec PyProof.Rows L2 List Option
def kS(K:Mx)(O:List Addr)(H:Hp):MV->V->Prop
 | .val v,u=>Rep K (aj H O) v u
 | .brw xs,u=>∃a us,u=.ref a/\SqL K H a us/\Reps K (aj H O) xs us
 | .own _,_=>False
 | .ownD _,_=>False
 | .ownL _,_=>False
 | .brwD kvs,u=>∃a,u=.ref a/\Rd H a (lj kvs)
noncomputable def spM(K:Mx)(cal:Cal)(f:Nat):Sp:=λvs H Q _ =>
 ∃O args r,(∀a∈O,H a≠none)/\Paired (kS K O H) args vs/\cal f args=some r/\∀u H',ai H H'->Rep K (aj H' O) r u->Q u H'
noncomputable def spF(K:Mx)(cal:Cal)(f:Nat):Sp:=λvs H Q _ =>
 ∃O args xs,(∀a∈O,H a≠none)/\Paired (kS K O H) args vs/\cal (f+1000) args=some (.lst xs)/\∀p us H',ai H H'->H p=none->H' p=some (.lst us)->Reps K (aj H' (p::O)) xs us->Q (.ref p) H'
noncomputable def ik:List String:=["len","tuple","list","sorted","any","all","sum","max","min","int","bool","str","isinstance","set","range","enumerate","reversed"
 ]
noncomputable def toV:PV->V
 | .non=>.non
 | .bl b=>.bl b
 | .int i=>.int i
 | .str x=>.str x
 | _=>.non
structure Gf(X:Cx)(T:Tab)(k:Nat)(cal:Cal):Prop where
 calm:X.calm=true
 room:iQ k X.A
 fns:∀(f:Nat) (x:Str),T.fs[f]?=some x->∃(fa:Addr) (fd:FuncData) (ps:List Str),X.mg x=some (.ref fa)/\PySem.W.keepIn X.K (.ref fa)=true/\bE X.K fd ps []/\gX X.prog X.w X.K X.mg X.base CX0 k fa fd ps (spM X.K cal f)/\∀l,T.ds[f]?=some l->∃vs,bE X.K fd ps vs/\aF (l.map Sc.v) vs
 blt:∀x∈ik,X.mg (x:Str)=none
 gs:∀p∈T.gs,∃u,X.mg p.1=some u/\aK (toV p.2) u
 fnsF:∀(f:Nat) (x:Str),T.fs[f]?=some x->∃(fa:Addr) (fd:FuncData) (ps:List Str),X.mg x=some (.ref fa)/\PySem.W.keepIn X.K (.ref fa)=true/\bE X.K fd ps []/\gX X.prog X.w X.K X.mg X.base CX0 k fa fd ps (spF X.K cal f)
theorem Gf.units(g:Gf X T k cal):X.A.units+200<cLine:=by have:=g.room.un;omega
def Got(K:Mx)(H:Hp)(O:List Addr)(me:ME)(v:PV)(u:V):Prop:=bx K H O v u/\(ba me=false->Rep K (aj H O) v u)
noncomputable def tE(K:Mx)(cal:Cal)(me:ME):TE:=λσ H Q=>∃B E O M v,aN K B E O H M σ/\ev cal me M=some v/\∀u H',ai H H'->Got K H' O me v u->Q u H'
noncomputable def tT(K:Mx)(cal:Cal)(me:ME):TT:=λσ H Q=>∃B E O M b,aN K B E O H M σ/\evB cal me M=some b/\∀H',ai H H'->Q b H'
def HV(K:Mx)(H:Hp)(O:List Addr)(ms:List ME)(vs:List PV)(us:List V):Prop:=Paired (bx K H O) vs us/\((ms.all λm=>!ba m)=true->Reps K (aj H O) vs us)
noncomputable def tEs(K:Mx)(cal:Cal)(ms:List ME):TA:=λσ H Q=>∃B E O M vs,aN K B E O H M σ/\evs cal ms M=some vs/\∀us H',ai H H'->HV K H' O ms vs us->Q us H'
noncomputable def tAs(K:Mx)(cal:Cal)(ms:List ME):TA:=λσ H Q=>∃B E O M vs,aN K B E O H M σ/\evA cal ms M=some vs/\∀us H',ai H H'->Paired (kS K O H') vs us->Q us H'
section
variable{K:Mx}{H H':Hp}{O:List Addr}
theorem Got.of(h:Rep K (aj H O) v u):Got K H O me v u:=⟨.inl h,λ_=>h⟩
theorem Got.scal(h:∀F,Rep K F v u):Got K H O me v u:=.of (h _)
theorem Got.mono(s:ai H H')(h:Got K H O me v u):Got K H' O me v u:=⟨h.1.mono s,λe=>Rep.mono (ax s) _ (h.2 e)⟩
def d9(F)(b):Rep K F (.bl b) (.bl b):=rfl
def ce(F)(b):Rep K F (.int b) (.int b):=rfl
def lD(F)(b):Rep K F (.str b) (.str b):=rfl
def pY(F):Rep K F .non .non:=rfl
def jw(Y:∀a∈O,H1 a≠none)(J:H1 p=none)(h:Reps K (aj H1 O) xs us):Rep K (aj (upd H1 p (.tup us)) O) (.tup xs) (.ref p):=by
 refine⟨p,us,rfl,?_,Reps.mono (ax (aD J _)) _ h⟩;rw[bp (λz=>Y p z J)];exact aq
def rn(Y:∀a∈O,H1 a≠none)(J:H1 p=none)(h:Reps K (aj H1 O) xs us):Rep K (aj (upd H1 p (.lst us)) O) (.lst xs) (.ref p):=by
 refine⟨p,us,rfl,SqL.of ?_,Reps.mono (ax (aD J _)) _ h⟩;rw[bp (λz=>Y p z J)];exact aq
def cB(s:ai H H')(h:∀a∈O,H a≠none):∀a∈O,H' a≠none:=λa J e=>h a J (s.free e)
def eQ(h:n<=10000):n<=sizeLine:=IQ h (by decide)
end
section
variable{X:Cx}{T:Tab}{k:Nat}{cal:Cal}
def F4(h:C9 sc x=true):Vis sc x:=by
 unfold C9 at h;simp[IS]at h;rcases h with(h|h)|h
 .exact .inl h
 .exact .inr (.inl h)
 .exact .inr (.inr h)
def il(h:ij sc x=true):Loc sc x:=by
 unfold ij at h;simp[IS]at h;exact h
def lE (h:aR x=true):(x==("__debug__":Str))=false/\(x==("__classdict__":Str))=false/\x ≠ "__name__":=by simp_all [aR]
def du(h:glB X.env.scope x=true):Gl X x:=by
 unfold glB at h;simp at h;exact h
def cV(h:a7 X.N X.env.scope i x=true):PE X (.Name x pos) (cN i):=by
 unfold a7 at h;simp[tr,IS]at h;obtain⟨⟨h1,h2⟩,J⟩:=h;refine eT (lE J) λp1 p2 _=>?_
 exact Ci h1 (F4 h2) p1 p2
def cK{K:Mx}(st:aN K B E O H M σ){i:Nat}(e:(M[i]?).join=some m):∃u,σ[i]?=some (some u)/\e_ K B O H m u:=st.slot i m (bU e)
def BQ{i:Nat}{x:Str}{pos:Pos}(h:a7 X.N X.env.scope i x=true):PE X (.Name x pos) (tE X.K cal (.var i)):=by
 refine(cV h).imp λσ H Q Z=>?_
 obtain⟨B,E,O,M,v,st,J,q⟩:=Z;rw[ev]at J;cases Y:(M[i]?).join with
 |none=>rw[Y]at J;cases J
 |some m =>
  rw[Y]at J;cases m with
  |val w =>
   simp only[xQ,ID]at J;subst J;obtain⟨u,e1,r⟩:=cK st Y;exact⟨u,e1,q u H (ai.refl H) (.of r)⟩
  |own _=>cases J
  |brw _=>cases J
  |ownD _=>cases J
  |ownL _=>cases J
  |brwD _=>cases J
def BR(h:a7 X.N X.env.scope i x=true):PE X (.Name x pos) (tE X.K cal (.bor i)):=by
 refine(cV h).imp λσ H Q Z=>?_
 refine bi Z λB E O M v st J q=>?_
 rw[ev]at J;cases Y:(M[i]?).join with
 |none=>rw[Y]at J;exact aT J
 |some m =>
  rw[Y]at J;refine ae (cK st Y) λu e1 r=>?_
  exact⟨u,e1,q u H (ai.refl H) ⟨r.bor st.keep J,λz=>qA z⟩⟩
def BS(h:sG v c=true):PE X (.Constant c j pos) (tE X.K cal (.cst v)):=by
 have key:∀u,(∀F,Rep X.K F v u)->PE X (.Constant c j pos) _->PE X _ (tE X.K cal (.cst v)):=λu r p=>p.imp λσ H Q J=>by
  refine bi J λB E O M w st Y q=>?_
  cases Y;exact q u H (ai.refl H) (.scal r)
 cases v<;>cases c<;>simp[sG,IU,IS]at h
 .exact key .non (λF=>pY F) Cj
 .subst h;exact key _ (λF=>d9 F _) BA
 .subst h;exact key _ (λF=>ce F _) wH
 .subst h;exact key _ (λF=>lD F _) r9
def yh(g:Gf X T k cal)(h:(x==y&&glB X.env.scope x&&BN T.gs x v&&aR x)=true):PE X (.Name y pos) (tE X.K cal (.glob x v)):=by
 simp[tr,IS]at h;obtain⟨⟨⟨rfl,Z⟩,hs⟩,hp⟩:=h;refine ae (JL.mp hs) λp Y J=>?_
 simp[tr,IS]at J;obtain⟨rfl,hv⟩:=J;refine ae (g.gs p Y) λu e1 r=>?_
 have e:p.2=v/\∀F,Rep X.K F v (toV v):=by
  revert hv;generalize p.2=z;intro hv;cases z<;>cases v<;>simp[BM,IU,IS]at hv
  .exact⟨rfl,λF=>pY F⟩
  .subst hv;exact⟨rfl,λF=>d9 F _⟩
  .subst hv;exact⟨rfl,λF=>ce F _⟩
  .subst hv;exact⟨rfl,λF=>lD F _⟩
 rw[e.1]at r;refine(z_ (du Z) e1 r (lE hp).1).imp λσ H Q hq=>?_
 refine bi hq λB E O M w st he q=>?_
 cases he;exact q _ H (ai.refl H) (.scal e.2)
end
section
variable{X:Cx}
noncomputable def R2M(K:Mx)(f:PV->PV->Option PV):R2:=λJ Y H Q =>
 ∃O x y v,(∀a∈O,H a≠none)/\bx K H O x J/\bx K H O y Y/\f x y=some v/\∀u H',ai H H'->Rep K (aj H' O) v u->Q u H'
def kj{g:Int->Int->Int}(h:OpR X (binaryOp op) (rI C λi j=>.int (g i j)))
  (hf:∀x y v,f x y=some v->∃i j,x=.int i/\y=.int j/\C i j/\v=.int (g i j)):OpR X (binaryOp op) (R2M X.K f):=by
 intro pins s σ H ux uy v u Q I rx ry hq;refine bf λZq kq=>?_
 refine lK hq λO x y w hO r1 r2 e q=>?_
 refine iJ (hf x y w e) λi j J Y c Z=>?_
 subst J;subst Y;subst Z;have e1:=r1.int;have e2:=r2.int;subst e1 e2;refine kq ?_;exact h pins s σ H _ _ v u Q I rx ry ⟨i,j,rfl,rfl,c,q _ H (ai.refl H) (ce _ _)⟩
def AO:OpR X (binaryOp .Add) (λx y H Q=>∃l b xs zs,x=.ref l/\y=.ref b/\SqL X.K H l xs/\SqL X.K H b zs/\xs.length+zs.length<=sizeLine/\∀p,H p=none->Q (.ref p) (upd H p (.lst (xs++zs)))):=by
 intro pins s σ H x y v u Q I rx ry h;obtain⟨l,b,xs,zs,rfl,rfl,hH,hB,hz,q⟩:=h;subst rx;subst ry;refine aQ (I.list hH) λits r pl _=>?_
 refine aQ (I.list hB) λJ r2 ao _=>?_
 refine bf λZq kq=>?_
 have l1:=r.length;have l2:=r2.length;obtain⟨⟨cls,dd,data,sl⟩,ho,hc,n,hd⟩:=pl.isList;obtain⟨⟨a1,ar,data2,aL⟩,Y,Z,n2,ac⟩:=ao.isList;simp only at hc hd Z ac;subst hc hd Z ac;have e:its.toArray++J.toArray=(its++J).toArray:=by simp
 refine kq ?_;refine Mf ⟨_,ho,rfl⟩ ⟨_,Y,rfl⟩ noFill_list_add seq_list_add PySem.F.slot_list_add PySem.F.entry_list_add (PySem.F.args_list_add_2 _ _) (list_addW l b its.toArray J.toArray n n2 dd ar sl aL (by rw[B1,B1];omega)) ⟨ho,Y,?_⟩;rw[e];exact⟨.ref _,_,I.lnew (t':=s.toks) (r.append r2) (by rw[IX];omega),rfl,q _ I.fresh⟩
def AQ:OpR X (binaryOp .Add) (λx y H Q=>∃a b ys,x=.ref a/\y=.ref b/\SqT X.K H a []/\SqT X.K H b ys/\Q (.ref b) H):=by
 intro pins s σ H x y v u Q I rx ry h;refine bf λZq kq=>?_
 refine n5 h λa b ys ao ar ha hb q=>?_
 subst ao;subst ar;subst rx;subst ry;obtain⟨its,r1,⟨⟨c1,d1,t1,l1⟩,ho,hc,n,hd⟩,_⟩:=I.tuple ha;obtain⟨Z,r2,⟨⟨c2,d2,t2,l2⟩,ac,aL,n2,a0⟩,_⟩:=I.tuple hb;subst hc;subst hd;subst aL;subst a0;have J:=r1.nil_iff.mpr rfl;have Y:=tuple_addW0 a b its.toArray Z.toArray n n2 d1 d2 l1 l2 (by simp[J]);refine kq ?_;exact Mf ⟨_,ho,rfl⟩ ⟨_,ac,rfl⟩ Mi seq_tuple_add PySem.F.slot_tuple_add PySem.F.entry_tuple_add (PySem.F.args_tuple_add_2 _ _) Y ⟨ho,ac,.ref b,H,I,rfl,q⟩
def eR(h:jo f x y=some v):∃i j,x=.int i/\y=.int j/\f i j=some v:=by
 cases x<;>try (exact aT h;done)
 cases y<;>try (exact aT h;done)
 exact⟨_,_,rfl,rfl,h⟩
def jx{C:Int->Int->Prop} [∀i j,Decidable (C i j)] {g:Int->Int->Int}{x y v:PV} (h:jo (λi j=>if C i j then some (.int (g i j))else none) x y=some v):∃i j,x=.int i/\y=.int j/\C i j/\v=.int (g i j):=by
 refine ak (eR h) λi j Y Z J=>?_
 by_cases c:C i j
 .rw[if_pos c]at J;exact⟨i,j,Y,Z,c,(IT J).symm⟩
 .rw[if_neg c]at J;exact aT J
def DC(op):OpR X (binaryOp (Dp op)) (R2M X.K (gQ op)):=by
 cases op with
 |sub=>exact kj (C:=λ_ _=>True) (g:=λi j=>i-j) (λpins s σ H x y v u Q I Y Z h=>Cw pins s σ H x y v u Q I Y Z (by obtain⟨i,j,e1,e2,_,q⟩:=h;exact⟨i,j,e1,e2,q⟩)) (λx y v h=>by
   refine ak (eR h) λi j e1 e2 e3=>?_
   exact⟨i,j,e1,e2,trivial,(IT e3).symm⟩)
 |mul=>exact kj Cy λx y v h=>by have q:=jx h;exact q
 |fdiv=>exact kj Af λx y v h=>by have q:=jx h;exact q
 |mod=>exact kj Cz λx y v h=>by have q:=jx h;exact q
 |pow=>exact kj CA λx y v h=>by have q:=jx h;exact q
 |shr=>exact kj CB λx y v h=>by have q:=jx h;exact q
 |add =>
  intro pins s σ H ux uy v u Q I Y Z hq;refine lK hq λO x y w hO r1 r2 e q=>?_
  cases x<;>try (exact aT e;done)
  all_goals (cases y<;>simp only[gQ,BK]at e<;>try (exact aT e;done))
  .cases e;have e1:=r1.int;have e2:=r2.int;subst e1 e2;exact Cv pins s σ H _ _ v u Q I Y Z ⟨_,_,rfl,rfl,q _ H (ai.refl H) (ce _ _)⟩
  .split at e
   .rename_i c;cases e;have e1:=r1.str;have e2:=r2.str;subst e1 e2;exact sh pins s σ H _ _ v u Q I Y Z ⟨_,_,rfl,rfl,IQ c (by decide),q _ H (ai.refl H) (lD _ _)⟩
   .exact aT e
  .split at e
   .rename_i c;cases e;refine ak r1.tup λa us J s1 t1=>?_
    subst J;refine ak r2.tup λb ws J s2 t2=>?_
    subst J;have l1:=t1.length;have l2:=t2.length;have w1:=r1.tupR;have w2:=r2.tupR;by_cases z0:us=[]
    .subst z0;have z1:=Ln l1;subst z1;exact AQ pins s σ H _ _ v u Q I Y Z ⟨a,b,ws,rfl,rfl,s1,s2,q _ H (ai.refl H) w2⟩
    refine Ak pins s σ H _ _ v u Q I Y Z ⟨a,b,us,ws,rfl,rfl,s1,s2,z0,eQ (by omega),λz=>?_,λz p hp=>?_⟩
    .rw[z,length_nil]at l2;have z1:=Ln l2;subst z1;rw[Lp]at q;exact q _ H (ai.refl H) w1
    .exact q _ _ (aD hp _) (jw hO hp (t1.append t2))
   .exact aT e
  .split at e
   .rename_i c;cases e;refine ak r1.lst λa us J s1 t1=>?_
    subst J;refine ak r2.lst λb ws J s2 t2=>?_
    subst J;have l1:=t1.length;have l2:=t2.length;exact AO pins s σ H _ _ v u Q I Y Z ⟨a,b,us,ws,rfl,rfl,s1,s2,eQ (by omega),λp hp=>q _ _ (aD hp _) (rn hO hp (t1.append t2))⟩
   .exact aT e
noncomputable def R2C(K:Mx)(f:PV->PV->Option Bool):R2:=λJ Y H Q =>
 ∃O x y b,bx K H O x J/\bx K H O y Y/\f x y=some b/\Q (.bl b) H
def lF{g:Int->Int->Bool}(h:OpR X (compareOp op) (rI0 λi j=>.bl (g i j)))
  (hf:∀x y v,f x y=some v->∃i j,x=.int i/\y=.int j/\v=g i j):OpR X (compareOp op) (R2C X.K f):=by
 intro pins s σ H ux uy v u Q I rx ry hq;refine bf λZq kq=>?_
 refine qz hq λO x y w r1 r2 e q=>?_
 refine ak (hf x y w e) λi j J Y Z=>?_
 subst J;subst Y;subst Z;have e1:=r1.int;have e2:=r2.int;subst e1 e2;refine kq ?_;exact h pins s σ H _ _ v u Q I rx ry ⟨i,j,rfl,rfl,q⟩
def DE:OpR X (compareOp .Is) (λx y H Q=>∃p q,x=.bl p/\y=.bl q/\Q (.bl (p==q)) H):=by
 rintro pins s σ H x y v u Q I J Y ⟨p,q,rfl,rfl,Z⟩;subst J;subst Y;exact oe (cr I Z (by cases p<;>cases q<;>rfl))
def vX:OpR X (compareOp .IsNot) (λx y H Q=>∃p q,x=.bl p/\y=.bl q/\Q (.bl (!(p==q))) H):=by
 rintro pins s σ H x y v u Q I J Y ⟨p,q,rfl,rfl,Z⟩;subst J;subst Y;exact oe (cr I Z (by cases p<;>cases q<;>rfl))
def uK{K:Mx}{x:PV}{u:V}(r:bx K H O x u):decide (u=.non)=rb x:=by
 cases x with
 |non=>rw[r.non];rfl
 |bl b=>rw[r.bl];rfl
 |int b=>rw[r.int];rfl
 |str b=>rw[r.str];rfl
 |tup xs=>obtain⟨a,us,rfl,_⟩:=r.tup;rfl
 |lst xs=>obtain⟨a,us,rfl,_⟩:=r.lst;rfl
 |dI kvs=>obtain⟨a,rfl,_⟩:=r.dI;rfl
def sJ(hu:X.A.units+200<cLine)(op):OpR X (compareOp (x_ op)) (R2C X.K (cO op)):=by
 cases op with
 |lt=>exact lF Fv λx y v h=>by obtain⟨i,j,Y,J,e3⟩:=eR h;exact⟨i,j,Y,J,(IT e3).symm⟩
 |le=>exact lF Fw λx y v h=>by obtain⟨i,j,Y,J,e3⟩:=eR h;exact⟨i,j,Y,J,(IT e3).symm⟩
 |gt=>exact lF Fx λx y v h=>by obtain⟨i,j,Y,J,e3⟩:=eR h;exact⟨i,j,Y,J,(IT e3).symm⟩
 |ge=>exact lF Fy λx y v h=>by obtain⟨i,j,Y,J,e3⟩:=eR h;exact⟨i,j,Y,J,(IT e3).symm⟩
 |eq =>
  intro pins s σ H ux uy v u Q I Z ry hq;refine qz hq λO x y w r1 r2 e q=>?_
  exact Dz (by omega) pins s σ H ux uy v u Q I Z ry ⟨x,y,w,r1.whole,r2.whole,e,q⟩
 |ne =>
  intro pins s σ H ux uy v u Q I Z ry hq;refine qz hq λO x y w r1 r2 e q=>?_
  simp only[cO]at e;split at e
  .rename_i c;simp only[IL]at e;obtain⟨b,e,rfl⟩:=e;exact DA (by omega) pins s σ H ux uy v u Q I Z ry ⟨x,y,b,r1.whole,r2.whole,c,e,q⟩
  .exact aT e
 |isN =>
  intro pins s σ H ux uy v u Q I Z ry hq;obtain⟨O,x,y,w,r1,r2,e,q⟩:=hq;cases y<;>try (exact aT e;done)
  .have J:=r2.non;subst J;refine CC pins s σ H ux _ v u Q I Z ry ⟨rfl,?_⟩;have e:=e;rw[uK r1,IT e];exact q
  .cases x<;>try (exact aT e;done)
   have Y:=r1.bl;have J:=r2.bl;subst Y J;exact DE pins s σ H _ _ v u Q I Z ry ⟨_,_,rfl,rfl,by rw[IT e];exact q⟩
 |notN =>
  intro pins s σ H ux uy v u Q I Z ry hq;obtain⟨O,x,y,w,r1,r2,e,q⟩:=hq;cases y<;>try (exact aT e;done)
  .have J:=r2.non;subst J;refine Ah pins s σ H ux _ v u Q I Z ry ⟨rfl,?_⟩;have e:some (!rb x)=some w:=e;rw[uK r1,IT e];exact q
  .cases x<;>try (exact aT e;done)
   have Y:=r1.bl;have J:=r2.bl;subst Y J;cases e;exact vX pins s σ H _ _ v u Q I Z ry ⟨_,_,rfl,rfl,q⟩
 |isIn =>
  intro pins s σ H ux uy v u Q I Z ry hq;refine qz hq λO x y w r1 r2 e q=>?_
  simp only[cO,rp]at e;obtain⟨xs,Y,J⟩:=e;refine ak (r2.seq Y) λa us a3 s2 t2=>?_
  subst a3;exact DB (by omega) pins s σ H ux _ v u Q I Z ry ⟨x,_,a,us,w,r1.whole,rfl,s2,Reps.mono (be H O) _ t2,J,q⟩
 |notIn =>
  intro pins s σ H ux uy v u Q I Z ry hq;refine qz hq λO x y w r1 r2 e q=>?_
  simp only[cO,rp,IL]at e;obtain⟨b,⟨xs,Y,J⟩,rfl⟩:=e;refine ak (r2.seq Y) λa us a3 s2 t2=>?_
  subst a3;exact vW (by omega) pins s σ H ux _ v u Q I Z ry ⟨x,_,a,us,b,r1.whole,rfl,s2,Reps.mono (be H O) _ t2,J,q⟩
def jy(n)(i):place n i=ixN n i:=rfl
def DF:IxR X (R2M X.K mI):=by
 intro value slice pins s σ H ux uy v u Q I rx ry hq J;refine lK hq λO x y w hO r1 r2 e q=>?_
 cases x<;>cases y<;>simp only[mI]at e<;>try (exact aT e;done)
 .simp only[rp]at e;obtain⟨j,e1,e2⟩:=e;obtain⟨a,us,rfl,s1,Z⟩:=r1.tup;have e3:=r2.int;subst e3;obtain⟨uw,e4,Y⟩:=Z.get e2;refine wY value slice pins s σ H _ _ v u Q I rx ry (.inr (.inl ⟨a,us,_,uw,rfl,rfl,s1,?_,q uw H (ai.refl H) Y⟩)) J;unfold atI;rw[<- Z.length,<- jy,e1];exact e4
 .simp only[rp]at e;obtain⟨j,e1,e2⟩:=e;obtain⟨a,us,rfl,s1,Z⟩:=r1.lst;have e3:=r2.int;subst e3;obtain⟨uw,e4,Y⟩:=Z.get e2;refine wY value slice pins s σ H _ _ v u Q I rx ry (.inl ⟨a,us,_,uw,rfl,rfl,s1,?_,q uw H (ai.refl H) Y⟩) J;unfold atI;rw[<- Z.length,<- jy,e1];exact e4
def mP(h:bX b=true):pq b:=by
 intro o i;cases b<;>first|rfl|(injection h)
def rq{K:Mx}(h:Reps K F xs us)(lo hi):Reps K F (cut xs lo hi) (nH us lo hi):=by
 have J:=h.length;have e:∀n d o,ig n d o=HT.sIx n d o:=λn d o=>by cases o<;>rfl
 unfold cut nH;rw[e,e,J];exact(h.drop _).take _
def DH:SlR X (λx lo hi H Q=>∃O v w,(∀a∈O,H a≠none)/\bx X.K H O v x/\lw v lo hi=some w/\∀u H',ai H H'->Rep X.K (aj H' O) w u->Q u H'):=by
 intro pins s σ H x v vl vu lo hi sl Q I rx hs pl pu hq;refine i_ hq λO pv w hO r1 e q=>?_
 cases pv<;>simp only[lw]at e<;>try (exact aT e;done)
 .rename_i xs;cases e;obtain⟨a,us,rfl,s1,J⟩:=r1.tup;have e:∀n d o,ig n d o=HT.sIx n d o:=λn d o=>by cases o<;>rfl
  by_cases Y:HT.sIx us.length 0 lo=0/\HT.sIx us.length us.length hi=us.length
  .refine AF pins s σ H _ v vl vu lo hi sl Q I rx hs pl pu ⟨a,us,rfl,s1,Y.1,Y.2,q _ _ (ai.refl H) ?_⟩;have:cut xs lo hi=xs:=by
    unfold cut;rw[e,e,J.length,Y.1,Y.2,drop_zero,<- J.length,Nat.sub_zero,take_length]
   rw[this];exact r1.tupR
  .exact CG pins s σ H _ v vl vu lo hi sl Q I rx hs pl pu ⟨a,us,rfl,s1,Y,λp Z=>q _ _ (aD Z _) (jw hO Z (rq J lo hi))⟩
 .cases e;obtain⟨a,us,rfl,s1,J⟩:=r1.lst;exact ub pins s σ H _ v vl vu lo hi sl Q I rx hs pl pu ⟨a,us,rfl,s1,λp Z=>q _ _ (aD Z _) (rn hO Z (rq J lo hi))⟩
end
theorem uL(x):∀l,xO x l=Srt.lf Srt.dy x l
 | []=>rfl
 |y::r=>by
  show(if y<x then y::xO x r else x::y::r)=(if Srt.dy.blt y x=true then y::Srt.lf Srt.dy x r else x::y::r);rw[uL x r];by_cases h:y<x
  .have e:Srt.dy.blt y x=true:=I0 h;rw[if_pos h,if_pos e]
  .have e:Srt.dy.blt y x=false:=Jt h;rw[if_neg h,if_neg (by rw[e];exact tf)]
theorem d5:∀l,sortI l=Srt.sortI l
 | []=>rfl
 |x::r=>by
  show xO x (sortI r)=Srt.lf Srt.dy x (Srt.gP Srt.dy r);rw[d5 r,uL];rfl
theorem mQ:∀a b,lexLt a b=HT.lexLt a b
 | [],[]=>rfl
 | [],_::_=>rfl
 | _::_,[]=>rfl
 |x::xs,y::ys=>by
  rw[lexLt,HT.lexLt_cons,mQ xs ys]
theorem uM(x):∀l,xP x l=Srt.lf Srt.eU x l
 | []=>rfl
 |y::r=>by
  show(if lexLt y x=true then y::xP x r else x::y::r)=(if Srt.eU.blt y x=true then y::Srt.lf Srt.eU x r else x::y::r);rw[uM x r,mQ]
  rfl
theorem jz:∀l,sortT l=Srt.sortT l
 | []=>rfl
 |x::r=>by
  show xP x (sortT r)=Srt.lf Srt.eU x (Srt.gP Srt.eU r);rw[jz r,uM];rfl
theorem oR:∀l,dd l=St.dd l
 | []=>rfl
 |x::r=>by
  unfold dd St.dd;rw[oR r]
def AR(ns):Srt.sortI (St.dd ns.reverse)=sortI (dd ns):=by
 rw[d5,oR];refine Srt.sortI_of_perm ?_;refine(Kq (St.dd_nodup _) (St.dd_nodup _)).mpr λa=>?_
 rw[St.fJ,St.fJ,Mt]
def sK(ns):(St.dd ns.reverse).length=(dd ns).length:=by
 rw[oR];refine Perm.length_eq ((Kq (St.dd_nodup _) (St.dd_nodup _)).mpr λa=>?_);rw[St.fJ,St.fJ,Mt]
section
variable{X:Cx}{T:Tab}{k:Nat}{cal:Cal}
def RBM(K:Mx)(f:List PV->Option PV):List V->Hp->VK->Prop:=λus H Q =>
 ∃O vs v,(∀a∈O,H a≠none)/\Paired (bx K H O) vs us/\f vs=some v/\∀u H',ai H H'->Rep K (aj H' O) v u->Q u H'
def p1{K:Mx}(h:Paired (bx K H O) [x] us):∃u,us=[u]/\bx K H O x u:=by
 cases h with
 |cons r t=>cases t;exact⟨_,rfl,r⟩
def p2{K:Mx}(h:Paired (bx K H O) [x,y] us):∃u w,us=[u,w]/\bx K H O x u/\bx K H O y w:=by
 cases h with
 |cons r t=>cases t with
  |cons J t'=>cases t';exact⟨_,_,rfl,r,J⟩
def dC(h:aH f vs=some v)(J:kg f=some 1\/(dB f).isSome=true\/f=.sortedSet\/f=.lenSet\/f=.valuesOf):∃x,vs=[x]:=by
 cases vs with
 |nil=>cases f<;>injection h
 |cons x r=>cases r<;>first|exact⟨x,rfl⟩|(cases f<;>simp[aH,cF,ii,kg,dB]at h J)
def F5:bW X (.builtin "len") (RBM X.K (aH .len)):=by
 intro pins s σ H xs us Q I r h;obtain⟨O,vs,v,hO,rs,e,q⟩:=h;obtain⟨x,rfl⟩:=dC e (.inl rfl);obtain⟨u,rfl,Y⟩:=p1 rs;cases x<;>simp only[aH,cF,BL]at e<;>try (cases e;done)
 .cases e;obtain⟨a,ws,rfl,s1,Z⟩:=Y.tup;exact gw pins s σ H _ us Q I r ⟨a,ws,rfl,.inr s1,by rw[<- Z.length];exact q _ H (ai.refl H) (ce _ _)⟩
 .cases e;obtain⟨a,ws,rfl,s1,Z⟩:=Y.lst;exact gw pins s σ H _ us Q I r ⟨a,ws,rfl,.inl s1,by rw[<- Z.length];exact q _ H (ai.refl H) (ce _ _)⟩
 .rename_i d;cases d with
  |t kvs=>cases e
  |k kvs =>
   cases e;obtain⟨a,rfl,ha⟩:=Y.dI;obtain⟨u,rfl,ru⟩:=dW r;cases ru;obtain⟨hz,hs,ws,ac,dd⟩:=jg I.hok (show Rd H a (.dK (gZ kvs))from ha.rd);have J:ws.length=kvs.length:=by rw[<- ac.length];unfold gZ;rw[IC]
   have hz:kvs.length<=sizeLine:=by unfold gZ at hz;rw[IC]at hz;exact hz
   have hn:=jR;exact call_len_dict hs dd (by rw[J];omega) ⟨.int kvs.length,H,I.tok _,⟨s.toks+1,by rw[J]⟩,q _ H (ai.refl H) (ce _ _)⟩
def AS:bW X (.type "tuple") (RBM X.K (aH .tupleOf)):=by
 intro pins s σ H xs us Q I r h;refine i_ h λO vs v hO rs e q=>?_
 obtain⟨x,rfl⟩:=dC e (.inl rfl);refine ae (p1 rs) λu J Y=>?_
 subst J;simp only[aH,cF,li,gY,ii,IL]at e;obtain⟨ys,e,rfl⟩:=e;cases x<;>simp[aZ]at e
 .subst e;obtain⟨a,ws,rfl,s1,Z⟩:=Y.tup;refine fI pins s σ H _ us Q I r ⟨a,ws,rfl,.inr ⟨s1,q _ H (ai.refl H) ?_⟩⟩;exact Y.tupR
 .subst e;obtain⟨a,ws,rfl,s1,Z⟩:=Y.lst;exact fI pins s σ H _ us Q I r ⟨a,ws,rfl,.inl ⟨s1,λl hl=>q _ _ (aD hl _) (jw hO hl Z)⟩⟩
def RBF(K:Mx)(f:List PV->Option PV):List V->Hp->VK->Prop:=λus H Q =>
 ∃O vs xs,(∀a∈O,H a≠none)/\Paired (bx K H O) vs us/\f vs=some (.lst xs)/\∀l ws,H l=none->Reps K (aj H O) xs ws->Q (.ref l) (upd H l (.lst ws))
def DI:bW X (.type "list") (RBF X.K (aH .listOf)):=by
 intro pins s σ H xs us Q I r h;refine i_ h λO vs v hO Z e q=>?_
 obtain⟨x,rfl⟩:=dC e (.inl rfl);refine ae (p1 Z) λu J rx=>?_
 subst J;simp only[aH,cF,li,gY,ii,IL,PV.lst.injEq,exists_eq_right]at e;refine ak (rx.seq e) λa ws Y s1 t1=>?_
 subst Y;exact pB pins s σ H _ us Q I r ⟨a,ws,rfl,s1,λl hl=>q l ws hl t1⟩
theorem km{K:Mx} :∀{tss}{us},Reps K F (tss.map λt=>.tup (t.map .int)) us->qU K F us tss
 | [],_,h=>by rw[map_nil,Reps]at h;subst h;exact .nil
 |t::tss,_,h=>by
  refine ak h λu r J q z=>?_
  subst J;refine ak q λa vs e s1 Y=>?_
  rw[Y.ints]at s1;exact .cons ⟨a,e,d8 s1⟩ (km z)
theorem kn{K:Mx}(s:ai F F'):∀{us}{tss},qU K F us tss->qU K F' us tss
 | _,_,.nil=>.nil
 | _,_,.cons ⟨a,J,Y⟩ t=>.cons ⟨a,J,s.seqT Y⟩ (kn s t)
theorem oS{K:Mx}(h:Reps K F xs us):∀(l:List Nat),(∀i∈l,i<us.length)->Reps K F (l.map λi=>xs.getD i .non) (l.map λi=>us.getD i .non)
 | [],_=>.nil
 |i::l,J=>by
  have hi:=J i (.head _);have hx:i<xs.length:=by rw[h.length];exact hi
  refine ae (h.get (IF hx)) λu Z e2=>?_
  refine .cons ?_ (oS h l λj Y=>J j (.tail _ Y))
  simp_all
def yi (g:Gf X T k cal):bW X (.builtin "sorted") (RBF X.K (aH .sorted)):=by
 intro pins s σ H xs us Q I r h;refine bf λZq kq=>?_
 refine i_ h λO vs v hO rs e q=>?_
 obtain⟨x,rfl⟩:=dC e (.inl rfl);refine ae (p1 rs) λu ao rx=>?_
 subst ao;simp only[aH,cF,li,gY,ii,rp]at e;obtain⟨ys,e,Y⟩:=e;refine ak (rx.seq e) λa ws ar s1 Z=>?_
 subst ar;unfold gz at Y;refine kq ?_;split at Y
 .rename_i J;split at Y
  .rename_i ns hn;cases Y;have:=eZ hn;subst this;have e3:=Z.ints;subst e3;rw[IC]at J;refine jm g.calm pins s σ H _ us Q I r ⟨a,ns,rfl,s1.imp id .inl,J,λl hl=>?_⟩;rw[<- d5];exact q l _ hl (.of_ints _)
  .simp only[IL,PV.lst.injEq]at Y;obtain⟨ts,e3,rfl⟩:=Y;have:=mJ e3;subst this;rw[IC]at J;refine pK (by have:=g.units;omega) pins s σ H _ us Q I r ⟨a,ws,ts,rfl,s1,kn (be H O) (km Z),J,λl pm hl hp e=>q l _ hl ?_⟩;have q2:=oS Z pm hp;have e4:(pm.map λi=>(ts.map λt=>PV.tup (t.map .int)).getD i .non)=(sortT ts).map λt=>.tup (t.map .int):=by
    rw[jz,<- e,IZ];refine KA λi hi=>?_
    have a1:i<ts.length:=by have:=hp i hi;rw[<- Z.length,IC]at this;exact this
    simp[a1]
   rw[e4]at q2;exact q2
 .exact aT Y
def F6:bW X (.type "int") (RBM X.K (aH .intOf)):=by
 intro pins s σ H xs us Q I r h;refine bf λZq Y=>?_
 obtain⟨O,vs,v,hO,Z,e,q⟩:=h;obtain⟨x,rfl⟩:=dC e (.inl rfl);obtain⟨u,rfl,J⟩:=p1 Z;refine Y ?_;cases x<;>simp[aH,cF,gY]at e<;>try (cases e;done)
 .cases e;have:=J.bl;subst this;exact n_ pins s σ H _ us Q I r (.inr ⟨_,rfl,q _ H (ai.refl H) (ce _ _)⟩)
 .cases e;have:=J.int;subst this;exact n_ pins s σ H _ us Q I r (.inl ⟨_,rfl,q _ H (ai.refl H) (ce _ _)⟩)
def lH(h:gY x=some ys):x=.lst ys:=by
 cases x<;>cases h
 rfl
def DJ (J:dB b=some c):bW X (.builtin "isinstance") (λus H Q=>∃O v u,us=[u,.ty c]/\isD v=false/\bx X.K H O v u/\Q (.bl (isT b v)) H):=by
 intro pins s σ H xs us Q I r h;obtain⟨O,v,x,rfl,nd,Y,q⟩:=h;obtain⟨u,t,rfl,Z,rc⟩:=FA r;have ac:=rc;subst ac;have fin:∀z tk,z=isT b v->EP X pins σ Q (.bool z) { s with toks:=tk }:=λz tk e=>⟨.bl z,H,I.tok tk,rfl,by rw[e];exact q⟩
 cases v with
 |dI _=>cases nd
 |non =>
  have e:=Y.non;subst e;cases (show u=Value.none from Z);cases b<;>simp only[dB,ID,reduceCtorEq]at J<;>subst J <;>
   exact PySem.W.kia_one PySem.W.kitx_none I.kIn True.intro (b:=false) (by first|rfl|kernel_rfl|decide) (λz=>nomatch z) λtk=>fin _ tk rfl
 |bl y =>
  have e:=Y.bl;subst e;cases (show u=Value.bool y from Z);cases b<;>simp only[dB,ID,reduceCtorEq]at J<;>subst J<;>first
   |exact PySem.W.kia_one PySem.W.kitx_bool I.kIn True.intro (b:=true) (by first|rfl|kernel_rfl|decide) (λz=>nomatch z) λtk=>fin _ tk rfl
   |exact PySem.W.kia_one PySem.W.kitx_bool I.kIn True.intro (b:=false) (by first|rfl|kernel_rfl|decide) (λz=>nomatch z) λtk=>fin _ tk rfl
 |int y =>
  have e:=Y.int;subst e;obtain⟨t,z⟩:=(show ∃t,u=Value.int y t from Z);cases z;cases b<;>simp only[dB,ID,reduceCtorEq]at J<;>subst J<;>first
   |exact PySem.W.kia_one PySem.W.kitx_int I.kIn True.intro (b:=true) (by first|rfl|kernel_rfl|decide) (λz=>nomatch z) λtk=>fin _ tk rfl
   |exact PySem.W.kia_one PySem.W.kitx_int I.kIn True.intro (b:=false) (by first|rfl|kernel_rfl|decide) (λz=>nomatch z) λtk=>fin _ tk rfl
 |str y =>
  have e:=Y.str;subst e;obtain⟨t,z⟩:=(show ∃t,u=Value.str y t from Z);cases z;cases b<;>simp only[dB,ID,reduceCtorEq]at J<;>subst J<;>first
   |exact PySem.W.kia_one PySem.W.kitx_str I.kIn True.intro (b:=true) (by first|rfl|kernel_rfl|decide) (λz=>nomatch z) λtk=>fin _ tk rfl
   |exact PySem.W.kia_one PySem.W.kitx_str I.kIn True.intro (b:=false) (by first|rfl|kernel_rfl|decide) (λz=>nomatch z) λtk=>fin _ tk rfl
 |lst ys =>
  obtain⟨a,us,rfl,s1,t1⟩:=Y.lst;cases (show u=Value.ref a from Z);obtain⟨its,_,p,_⟩:=I.list s1;obtain⟨o,h1,h2,_⟩:=p.isList;cases b<;>simp only[dB,ID,reduceCtorEq]at J<;>subst J<;>first
   |exact PySem.W.kia_one PySem.W.kitx_list I.kIn ⟨o,h1,h2⟩ (b:=true) (by first|rfl|kernel_rfl|decide) (λz=>nomatch z) λtk=>fin _ tk rfl
   |exact PySem.W.kia_one PySem.W.kitx_list I.kIn ⟨o,h1,h2⟩ (b:=false) (by first|rfl|kernel_rfl|decide) (λz=>nomatch z) λtk=>fin _ tk rfl
 |tup ys =>
  obtain⟨a,us,rfl,s1,t1⟩:=Y.tup;cases (show u=Value.ref a from Z);obtain⟨its,_,p,_⟩:=I.tuple s1;obtain⟨o,h1,h2,_⟩:=p;cases b<;>simp only[dB,ID,reduceCtorEq]at J<;>subst J<;>first
   |exact PySem.W.kia_one PySem.W.kitx_tuple I.kIn ⟨o,h1,h2⟩ (b:=true) (by first|rfl|kernel_rfl|decide) (λz=>nomatch z) λtk=>fin _ tk rfl
   |exact PySem.W.kia_one PySem.W.kitx_tuple I.kIn ⟨o,h1,h2⟩ (b:=false) (by first|rfl|kernel_rfl|decide) (λz=>nomatch z) λtk=>fin _ tk rfl
theorem iY{K:Mx} :∀{bs:List Bool}{us}{its},Reps K F (bs.map .bl) us->aF us its->its=bs.map Value.bool
 | [],_,_,h,w=>by rw[map_nil,Reps]at h;subst h;cases w;rfl
 |b::bs,_,_,h,w=>by
  refine ak h λu r J q t=>?_
  subst J;subst q;cases w with
  |cons Y Z =>
   subst Y;rw[iY t Z];rfl
def vY(bs:List Bool):(range bs.length).all (λi=>bs.getD i false)=bs.all id:=by
 conv=>rhs;rw[<- Srt.iA bs false]
 rw[Mm]
 rfl
def vZ(bs:List Bool):(range bs.length).any (λi=>bs.getD i false)=bs.any id:=by
 conv=>rhs;rw[<- Srt.iA bs false]
 rw[List.any_map]
 rfl
def kT(bs:List Bool):TruthOf P w A (λi v=>(bs.map Value.bool).toArray[i]?=some v) (λi=>bs.getD i false):=by
 intro i v s Q E h q;simp only[getElem?_toArray,Jb,IL]at h;obtain⟨b,e,rfl⟩:=h;have:bs.getD i false=b:=by rw[K2,e];rfl
 have J:Q (bs.getD i false) s:=q;rw[this]at J;exact JZ J
def F7 (hc:X.calm=true):bW X (.builtin "any") (RBM X.K (aH .any)):=by
 intro pins s σ H xs us Q I r h;refine i_ h λO vs v hO rs e q=>?_
 obtain⟨x,rfl⟩:=dC e (.inl rfl);refine ae (p1 rs) λu J rx=>?_
 subst J;simp only[aH,cF,rp,IL]at e;obtain⟨ys,e0,bs,e,rfl⟩:=e;obtain rfl:=lH e0;have:=ke e;subst this;refine ak rx.lst λa ws Y s1 t1=>?_
 subst Y;refine ae (dW r) λu J ru=>?_
 subst J;subst ru;refine aQ (I.list s1) λits r' Z hz=>?_
 have:=iY t1 r';subst this;have ac:a<s.heap.objs.size:=by obtain⟨o,ho,_⟩:=Z.isList;exact IG ho
 refine call_any_walk (KS Z.isList ?_);refine⟨s.heap.objs.size,_,_,_,_,_,λi=>bs.getD i false,rfl,Walks.list (by first|exact I.ok.hd hc|simpa using I.ok.hd hc) s.heap.objs.size a (IP ac) (bs.map Value.bool).toArray,⟨⟨_,IH _ rfl,rfl,rfl⟩,Z.isList.push _⟩,kT bs,λh' tk hk=>?_⟩;have e2:(range (bs.map Value.bool).toArray.size).any (λi=>bs.getD i false)=bs.any id:=by
  rw[B1,IC];exact vZ bs
 rw[e2];refine⟨.bl _,H,?_,rfl,q _ H (ai.refl H) (d9 _ _)⟩;refine I.kept (t':=tk) λb o e=>hk b o ?_ (ox _ e)
 intro hm;have hb:=IG e
 simp_all
def F8 (hc:X.calm=true):bW X (.builtin "all") (RBM X.K (aH .all)):=by
 intro pins s σ H xs us Q I r h;refine i_ h λO vs v hO rs e q=>?_
 obtain⟨x,rfl⟩:=dC e (.inl rfl);refine ae (p1 rs) λu J rx=>?_
 subst J;simp only[aH,cF,rp,IL]at e;obtain⟨ys,e0,bs,e,rfl⟩:=e;obtain rfl:=lH e0;have:=ke e;subst this;refine ak rx.lst λa ws Y s1 t1=>?_
 subst Y;refine ae (dW r) λu J ru=>?_
 subst J;subst ru;refine aQ (I.list s1) λits r' Z hz=>?_
 have:=iY t1 r';subst this;have ac:a<s.heap.objs.size:=by obtain⟨o,ho,_⟩:=Z.isList;exact IG ho
 refine call_all_walk (KS Z.isList ?_);refine⟨s.heap.objs.size,_,_,_,_,_,λi=>bs.getD i false,rfl,Walks.list (by first|exact I.ok.hd hc|simpa using I.ok.hd hc) s.heap.objs.size a (IP ac) (bs.map Value.bool).toArray,⟨⟨_,IH _ rfl,rfl,rfl⟩,Z.isList.push _⟩,kT bs,λh' tk hk=>?_⟩;have e2:(range (bs.map Value.bool).toArray.size).all (λi=>bs.getD i false)=bs.all id:=by
  rw[B1,IC];exact vY bs
 rw[e2];refine⟨.bl _,H,?_,rfl,q _ H (ai.refl H) (d9 _ _)⟩;refine I.kept (t':=tk) λb o e=>hk b o ?_ (ox _ e)
 intro hm;have hb:=IG e;simp at hm;exact absurd hm (IP hb)
theorem kU(ns:List Int):∀k,k<=ns.length->preSum (λi=>ns.getD i 0) k=(ns.take k).sum
 |0,_=>by simp[preSum]
 |k+1,h=>by
  have e:ns.take (k+1)=ns.take k++[ns.getD k 0]:=by
   rw[take_succ,K2,IF ‹_›]
   rfl
  rw[preSum,kU ns k (Jz ‹_›),e,sum_append];simp
def F9 (hc:X.calm=true):bW X (.builtin "sum") (RBM X.K (aH .sum)):=by
 intro pins s σ H xs us Q I r h;refine i_ h λO vs v hO rs e q=>?_
 obtain⟨x,rfl⟩:=dC e (.inl rfl)
 .refine bf λZq kq=>?_
  simp only[aH,cF,rp,IL]at e;obtain⟨ys,e9,ns,e0,rfl⟩:=e;obtain rfl:=lH e9;have:=eZ e0;subst this;refine ae (p1 rs) λu J rx=>?_
  subst J;refine ak rx.lst λa ws ac s1 t1=>?_
  subst ac;have:=t1.ints;subst this;refine ae (dW r) λu J ru=>?_
  subst J;subst ru;refine aQ (I.list s1) λits r' pl hz=>?_
  have ia:=da r';have hl:=r'.length;rw[IC]at hl;have Y:a<s.heap.objs.size:=by obtain⟨o,ho,_⟩:=pl.isList;exact IG ho
  have hh:X.A.in1.handled=none:=by simpa using I.ok.hd hc
  refine kq ?_;refine call_sum_walkAnyS (KS pl.isList ⟨s.heap.objs.size,_,_,_,_,_,_,λi=>ns.getD i 0,rfl,(Walks.list hh s.heap.objs.size a (IP Y) its.toArray).toS,⟨⟨_,IH _ rfl,rfl,rfl⟩,pl.isList.push _⟩,λb hb=>?_,λi v hv=>St.lr (items:=its.toArray) ia i v hv,λs' t' Z=>?_⟩)
  .simp only[IM,Kc,KR]at hb;rw[Jf];rcases hb with rfl|rfl
   .simp_all
   .exact Jk Y
  .obtain⟨h',g',d',tk,ar⟩:=s';have e1:g'=s.gens:=Z.gens;have e2:d'=s.drawn:=Z.drawn;have e3:ar=s.os:=Z.os;subst e1 e2 e3;rw[B1,<- hl,kU ns ns.length (y4 _),take_length];refine⟨.int ns.sum,H,I.kept (t':=tk) λb o eb=>Z.heap b o (λz=>?_) (ox _ eb),⟨_,rfl⟩,q _ H (ai.refl H) (ce _ _)⟩;rw[Jd.mp z]at eb;exact absurd (IG eb) (Jy _)
def ko:∀{ns}{m},vT ns=some m->m∈ns/\∀x∈ns,x<=m
 |n::ns,m,h=>by
  have gen:∀l (a:Int),(l.foldl (λa b=>if a<b then b else a) a∈a::l)/\a<=l.foldl (λa b=>if a<b then b else a) a/\∀x∈l,x<=l.foldl (λa b=>if a<b then b else a) a:=by
   intro l
   induction l with
   |nil=>intro a;exact⟨.head _,Int.le_refl _,λx hx=>by cases hx⟩
   |cons b l ih =>
    intro a;refine eT (ih (if a<b then b else a)) λh1 h2 J=>?_
    rw[foldl_cons];refine⟨?_,?_,λx hx=>?_⟩
    .rcases IM.mp h1 with e|e
     .rw[e];split
      .exact .tail _ (.head _)
      .exact .head _
     .exact .tail _ (.tail _ e)
    .exact Int.le_trans (by split<;>omega) h2
    .rcases IM.mp hx with rfl|hx
     .exact Int.le_trans (by split<;>omega) h2
     .exact J x hx
  refine eT (gen ns n) λh1 h2 J=>?_
  cases h;exact⟨h1,λx hx=>by
   rcases IM.mp hx with rfl|hx
   .exact h2
   .exact J x hx⟩
def DK (hc:X.calm=true):bW X (.builtin "max") (RBM X.K (aH .max1)):=by
 intro pins s σ H xs us Q I r h;refine i_ h λO vs v hO rs e q=>?_
 obtain⟨x,rfl⟩:=dC e (.inl rfl);simp only[aH,cF,rp,IL]at e;obtain⟨ys,e9,ns,e0,m,em,rfl⟩:=e;obtain rfl:=lH e9;have:=eZ e0;subst this;refine ae (p1 rs) λu J rx=>?_
 subst J;refine ak rx.lst λa ws ac s1 t1=>?_
 subst ac;have:=t1.ints;subst this;refine ae (dW r) λu J ru=>?_
 subst J;subst ru;refine aQ (I.list s1) λits r' pl hz=>?_
 have ia:=da r';have hl:=r'.length;rw[IC]at hl;obtain⟨Z,bL⟩:=ko em;have a1:=length_pos_iff.mpr (ne_nil_of_mem Z);obtain⟨zs,ez⟩:=ia.allInts.items;have bM:zs.size=ns.length:=by
  have:=JD Array.size ez;simp[intItems]at this;exact(by simp[*])
 have num:∀i,i<ns.length->numAt zs i=ns.getD i 0:=λi hi=>by
  have h1:(intItems zs)[i]?=some (.int (zs[i]'(by omega)).1 (zs[i]'(by omega)).2):=by simp[intItems,show i<zs.size by omega]
  obtain⟨t,e1⟩:=intItems_at h1;obtain⟨t',e2⟩:=St.lr (items:=its.toArray) ia i _ (by rw[ez];exact h1);rw[e1]at e2;exact(Value.int.inj e2).1
 have Y:s.heap.IsList a (intItems zs):=by rw[<- ez];exact pl.isList
 refine max_intList (I.ok.hd hc) Y (by omega) λv h' tk hv hk=>?_
 obtain⟨t,rfl⟩:=intItems_at hv;obtain⟨b1,b2⟩:=argBest_gt (numAt zs) (zs.size-1);generalize argBest (λi j=>decide (numAt zs i > numAt zs j)) (zs.size-1)=k at b1 b2;have aL:k<ns.length:=by omega
 have e1:numAt zs k=m:=by
  refine Int.le_antisymm ?_ ?_
  .rw[num k aL]
   simp_all
  .obtain⟨j,hj,rfl⟩:=Lq Z;have:=b2 j (by omega);rw[num j hj,K2,IF hj]at this;exact this
 rw[e1];exact⟨.int m,H,I.kept (t':=tk) hk,⟨_,rfl⟩,q _ H (ai.refl H) (ce _ _)⟩
def uN (hc:X.calm=true):bW X (.type "set") (λus H Q=>∃O v u ns,us=[u]/\bx X.K H O v u/\((aZ v).bind bw)=some ns/\ns.length<=4000/\∀l,H l=none->Q (.ref l) (upd H l (iL X.prog X.w l (St.dd ns.reverse)))):=by
 intro pins s σ H xs us Q I r h;refine lK h λO v u ns Y rx e J q=>?_
 subst Y;simp only[rp]at e;refine ae e λys e1 e2=>?_
 refine ak (rx.seq e1) λa ws Z s1 t1=>?_
 subst Z;have:=eZ e2;subst this;have e3:=t1.ints;subst e3;exact xB hc pins s σ H _ us Q I r ⟨a,ns,rfl,s1,J,λl hl=>q l hl⟩
def rA (hc:X.calm=true):bW X (.builtin "sorted") (λus H Q=>∃l ks,us=[.ref l]/\H l=some (iL X.prog X.w l ks)/\ks.length<64/\∀p,H p=none->Q (.ref p) (upd H p (.lst ((Srt.sortI ks).map V.int)))):=by
 intro pins s σ H xs us Q I r h;refine iJ h λl ks J e Y q=>?_
 subst J;exact jm hc pins s σ H _ us Q I r ⟨l,ks,rfl,.inr (.inr e),Y,q⟩
end
end MM
namespace L2
open PySem PySem.Spec PyProof.Rows List Option
noncomputable def Itv(K:Mx)(a:Addr)(n:Nat):It:=
 ⟨λi H=>∃xs,SqL K H a xs/\xs.length=n/\i<n,λi H x H'=>H'=H/\∀xs,SqL K H a xs->xs.reverse[i]?=some x,λi _=>i=n⟩
def yj{P:Program}{w:World}{K:Mx}{tg:Expr}(a it:Addr)(n:Nat):pi P w K tg (Itv K a n) [it] it (λi h=>h.IsRevIter it a ((n:Int)-1-(i:Nat))) where
 mem:=by simp
 obj:=λi h st b J=>by
  have e:b=it:=by simpa using J
  subst e;obtain⟨o,e,c,d⟩:=st;exact⟨o,e,λv z=>by rw[d]at z;cases z⟩
 keep:=λi h h' st k=>st.at λo e=>k it (by simp) o e
 item:=by
  intro X hP hw hK hc i pins s σ H E I hf st Z;subst hP hw hK;obtain⟨xs,hq,hn,hi⟩:=Z;obtain⟨its,rv,p,hz⟩:=I.list hq;have ac:n-1-i<xs.length:=by omega
  obtain⟨u,hu,ru⟩:=rv.get (IF ac);obtain⟨f0,f1,f2,f3,f4,f5⟩:=hf it (by simp);have e1:(n:Int)-1-(i:Nat)=((n-1-i:Nat):Int):=by omega
  have Y:s.heap.IsRevIter it a ((n-1-i:Nat):Int):=by rw[<- e1];exact st
  refine wpAny_pyNext_rev_item Y p.isList (x:=u) (by simpa using hu) λh' ao sb=>?_
  have I1:Inv X pins σ H { s with heap:=h' }:=I.turned (t':=s.toks) (λb o J e=>(sb.2 b J).trans e) f0 f1 f3 f4 f5;obtain⟨o,e,c,d⟩:=id ao;have e2:((n-1-i:Nat):Int)-1=(n:Int)-1-((i+1:Nat):Nat):=by omega
  have a8:Heap.IsRevIter h' it a ((n:Int)-1-((i+1:Nat):Nat)):=by rw[<- e2];exact ao
  refine⟨u,rfl,tX (s:={ s with heap:=h' }) e c d (by decide) ⟨_,H,I1,ru,⟨rfl,λys hy=>?_⟩,a8,λb J=>(hf b J).1⟩⟩;rw[I.list_inj hy hq,Mr (by omega),hn];exact IF ac
 done:=by
  intro X hP hw hK hc i pins s σ H E I hf st Z;subst hP hw hK;have Z:i=n:=Z;subst Z;obtain⟨f0,f1,f2,f3,f4,f5⟩:=hf it (by simp);have Y:s.heap.IsRevIter it a (-1):=by
   have e1:(i:Int)-1-(i:Nat)=-1:=by omega
   rw[<- e1];exact st
  exact wpAny_pyNext_rev_end (I.ok.hd hc) Y λh' eb=>⟨rfl,I.turned (t':=s.toks) (λb o J e=>eb b o J e) f0 f1 f3 f4 f5⟩
 self:=λ_ _ _ _ _ st h=>wpAny_pyIter_revIter st h
noncomputable def HW(K:Mx)(tl:TE):TI:=λσ H R=>tl σ H λx H1=>∃a xs,x=.ref a/\SqL K H1 a xs/\R (Itv K a xs.length) H1
def DN {X:Cx}{tg l:Expr}{tl:TE}{p pos:Pos} (hg:Gl X "reversed") (hm:X.mg "reversed"=none) (hl:PE X l tl) (hs:starEach [l] X.env=[(false,eval l X.env)]:=by rfl):PI X tg (.Call (.Name "reversed" p) [l] [] pos) (HW X.K tl):=by
 intro pins s σ H R I h;refine Call_ (iO I hg hm PyProof.Rows.boot_reversed (J2 (thn (aB hl aV hs pos pins s σ H (λvs H1=>match vs with|[x]=>∃a xs,x=.ref a/\SqL X.K H1 a xs/\R (Itv X.K a xs.length) H1|_=>False) I h) λus s1 ⟨vs,H1,J,r1,Y⟩=>?_) hs rfl))
 .cases r1 with
  |nil=>exact Y.elim
  |cons r rr =>
   cases rr with
   |cons _ _=>exact Y.elim
   |nil =>
   obtain⟨a,xs,e,hq,q⟩:=Y;subst e;cases r;obtain⟨its,rv,pp,hz⟩:=J.list hq;refine call_reversed_list pp.isList ?_;have Z:((its.toArray.size:Nat):Int)-1=(xs.length:Int)-1:=by have:=rv.length;simp;omega
   have I2:Inv X pins σ H1 { s1 with heap:=s1.heap.push (revObj a ((xs.length:Int)-1)) }:=J.kept (t':=s1.toks) λb o e=>ox _ e
   rw[Z];refine wpAny_pyIter_revIter (l:=a) (i:=(xs.length:Int)-1) ⟨_,IH _ rfl,rfl,rfl⟩ ?_;refine⟨s1.heap.objs.size,[s1.heap.objs.size],_,_,H1,rfl,I2,yj a _ xs.length,?_,λb hb=>?_,q⟩
   .have e1:(xs.length:Int)-1-((0:Nat):Nat)=(xs.length:Int)-1:=by omega
    show Heap.IsRevIter _ _ _ ((xs.length:Int)-1-((0:Nat):Nat));rw[e1];exact⟨_,IH _ rfl,rfl,rfl⟩
   .have e:b=s1.heap.objs.size:=by simpa using hb
    subst e;exact⟨J.hok.fresh (y4 _),(J.fpOk (y4 _) (J.hok.fresh (y4 _))).2⟩
def Inv.turned2(I:Inv X pins σ H s)(he:s.heap.get? e=some J)(hf:J.isFreed=false)(ac:∃o,h'.get? e=some o)
  (k:∀b o,b≠e->b≠it->s.heap.get? b=some o->h'.get? b=some o) (fe:jc X pins H e) (fi:jc X pins H it):Inv X pins σ H { s with heap:=h',toks:=t' }:=by
 obtain⟨o',ao⟩:=ac;refine i9 fe λa0 a1 a2 a3 a4 a5=>?_
 refine i9 fi λb0 b1 b2 b3 b4 b5=>?_
 have ar:(h'.update e λ_=>J).get? e=some J:=JN _ ao hf;have Y:∀b,b≠e->(h'.update e λ_=>J).get? b=h'.get? b:=λb Z=>(Jx h' e _).2 b Z
 have I1:Inv X pins σ H { s with heap:=h'.update e λ_=>J,toks:=t' }:=I.turned (it:=it) (λb o Z q=>by
  by_cases z:b=e
  .subst z;rw[ar,<- he];exact q
  .rw[Y b z];exact k b o z Z q) b0 b1 b3 b4 b5
 exact Inv.turned (s:={ s with heap:=h'.update e λ_=>J,toks:=t' }) (it:=e) I1 (λb o Z q=>by
  have q:=q;rw[Y b Z]at q;exact q) a0 a1 a3 a4 a5
noncomputable def Ite(q:Hp->List V->Prop):It:=
 ⟨λi H=>∃xs,q H xs/\i<xs.length,λi H x H'=>∃p,x=.ref p/\H p=none/\∃u,H'=upd H p (.tup [.int i,u])/\∀xs,q H xs->xs[i]?=some u,λi H=>∃xs,q H xs/\i=xs.length⟩
structure Src(P:Program)(w:World)(K:Mx)(a it:Addr)(q:Hp->List V->Prop)(r:Nat->Heap->Prop):Prop where
 ne:a≠it
 keep:∀i h h',r i h->(∀o,h.get? it=some o->h'.get? it=some o)->r i h'
 live:∀i h,r i h->∃o,h.get? it=some o/\∀v,o.data≠.cell v
 one:∀(X:Cx),X.K=K->∀(pins:List (Addr×Obj)) (s:Shared) (σ:St) (H:Hp) (xs ys:List V),Inv X pins σ H s->q H xs->q H ys->xs=ys
 row:∀(X:Cx),X.prog=P->X.w=w->X.K=K->∀(pins:List (Addr×Obj)) (s:Shared) (σ:St) (H:Hp) (xs:List V),Inv X pins σ H s->q H xs->∃(its:List Value),aF xs its/\∀(A:Around),A.handled=none ->
  ∃St:Nat->Heap->Prop,Draws P w A it [it,a] its.length (λi v=>its[i]?=some v) St/\(∀i,r i s.heap->St i s.heap)/\∀i h,St i h->r i h
def yk{K:Mx}(S:Src P w K a it q r)(ar:e≠it)(a6:e≠a) :
  pi P w K (.Tuple ts j tp) (Ite q) [e,it] e (λi h=>(∃old,IsEnum h e it (i:Nat) old)/\r i h) where
 mem:=.head _
 obj:=λi h st b J=>by
  obtain⟨⟨old,Y⟩,Z⟩:=st;rcases IM.mp J with rfl|J
  .exact⟨_,Y,λv z=>by cases z⟩
  .have z:b=it:=by simpa using J
   subst z;exact S.live i h Z
 keep:=λi h h' ⟨⟨old,Y⟩,Z⟩ k=>⟨⟨old,k e (.head _) _ Y⟩,S.keep i h h' Z (k it (.tail _ (.head _)))⟩
 item:=by
  intro X hP hw hK hc i pins s σ H E I hf st hg;obtain⟨⟨old,Y⟩,Z⟩:=st;refine ae hg λxs hq hi=>?_
  refine ae (S.row X hP hw hK pins s σ H xs I hq) λits rv dr=>?_
  have hh:=I.ok.hd hc;refine aQ (dr X.A.in1 hh) λSt D ac aL=>?_
  have hl:=rv.length;have fe:=hf e (.head _);have fi:=hf it (.tail _ (.head _));refine wpAny_pyNext_enum_itemD D Y (ac i Z) (by omega) ar (by simp only[IM,Kc,KR,not_or];exact⟨ar,a6⟩) λx h' tk px eo bB tup sz kp=>?_
  refine⟨_,rfl,wpAny_letOwnedTupleGo_enum eo λh2 a0 a1=>?_⟩;have hx:=hi;refine ae (rv.get (IF hx)) λu hu ru=>?_
  have ex:x=u:=by
   have:=px.symm.trans hu;simpa using this
  subst ex;have fresh:=I.hok.fresh (y4 _);have ne:∀b o,s.heap.get? b=some o->b≠s.heap.objs.size:=λb o q z=>Jy _ (by have:=IG q;rw[z]at this;exact this)
  have en:=ne _ _ Y;refine ae (S.live i _ Z) λoi bG _=>?_
  have inn:=ne _ _ bG;have I1:Inv X pins σ (upd H s.heap.objs.size (.tup [.int i,xs[i]])) { s with heap:=s.heap.push { cls:=.type "tuple",data:=.seq #[.int i tk,x] } }:=
   I.laid (t':=s.toks) (λb o q=>ox _ q) (y4 _) ⟨by show 2<=sizeLine;decide,_,.cons ⟨_,rfl⟩ (.cons ru .nil),IsTup.new _ _⟩
  have up:∀b,b≠s.heap.objs.size->jc X pins H b->jc X pins (upd H s.heap.objs.size (.tup [.int i,xs[i]])) b:=λb J hq=>qy hq λz r=>⟨by rw[az J];exact z,r⟩
  have I2:=I1.turned2 (h':=h2) (t':=tk+1) (e:=e) (it:=it) (ox _ Y) rfl ⟨_,a0⟩ (λb o a2 bL q=>?_) (up e en fe) (up it inn fi)
  .refine⟨.ref s.heap.objs.size,_,I2,rfl,⟨_,rfl,fresh,_,rfl,λys hy=>?_⟩,⟨⟨_,by simpa using a0⟩,?_⟩,λb J=>?_⟩
   .rw[S.one X hK pins s σ H ys xs I hy hq];exact IF hx
   .refine aL _ _ (D.frame _ _ _ bB λb J o q=>?_);rw[a1.2 b λz=>?_]
    .exact q
    .simp_all
   .rcases IM.mp J with rfl|J
    .exact(up b en fe).1
    .have z:b=it:=by simpa using J
     subst z;exact(up b inn fi).1
  .rw[a1.2 b a2];rcases Heap.get?_push_cases q with⟨rfl,rfl⟩|q
   .exact tup
   .exact kp b o a2 bL q
 done:=by
  intro X hP hw hK hc i pins s σ H E I hf st hg;obtain⟨⟨old,Y⟩,Z⟩:=st;refine ae hg λxs hq hi=>?_
  refine ae (S.row X hP hw hK pins s σ H xs I hq) λits rv dr=>?_
  have hh:=I.ok.hd hc;refine aQ (dr X.A.in1 hh) λSt D ac aL=>?_
  have hl:=rv.length;refine i9 (hf it (.tail _ (.head _))) λf0 f1 f2 f3 f4 f5=>?_
  have e:i=its.length:=by exact(by simp[*])
  subst e;exact wpAny_pyNext_enum_endD D Y (ac _ Z) λh' eb=>⟨rfl,I.turned (t':=s.toks) (λb o J q=>eb b o J q) f0 f1 f3 f4 f5⟩
 self:=λ_ i s Q E ⟨⟨old,Y⟩,_⟩ h=>wpAny_pyIter_enum Y h
def yl{K:Mx}(ne:a≠it):Src P w K a it (λH xs=>SqL K H a xs) (λi h=>h.IsListIter it a i) where
 ne:=ne
 keep:=λi h h' ⟨o,ho,r⟩ k=>⟨o,k o ho,r⟩
 live:=λi h Y=>aQ Y λo ho _ hd=>⟨o,ho,λv z=>by rw[hd]at z;cases z⟩
 one:=λX J pins s σ H xs ys I h h'=>by subst J;exact I.list_inj h h'
 row:=λX Z hw J pins s σ H xs I h=>by
  subst Z hw J;refine aQ (I.list h) λits rv p _=>?_
  refine⟨its,rv,λA hA=>⟨λi h=>h.IsListIter it a i/\h.IsList a its.toArray,?_,λi st=>⟨st,p.isList⟩,λi h' st=>st.1⟩⟩;simpa using Draws.list (prog:=X.prog) (w:=X.w) hA it a ne its.toArray
def AT{K:Mx}(ne:a≠it):Src P w K a it (λH xs=>SqT K H a xs) (λi h=>h.IsTupleIter it a i) where
 ne:=ne
 keep:=λi h h' ⟨o,ho,r⟩ k=>⟨o,k o ho,r⟩
 live:=λi h Y=>aQ Y λo ho _ hd=>⟨o,ho,λv z=>by rw[hd]at z;cases z⟩
 one:=λX J pins s σ H xs ys I h h'=>by subst J;exact I.tuple_inj h h'
 row:=λX Z hw J pins s σ H xs I h=>by
  subst Z hw J;refine aQ (I.tuple h) λits rv p _=>?_
  refine⟨its,rv,λA hA=>⟨λi h=>h.IsTupleIter it a i/\h.IsTuple a its.toArray,?_,λi st=>⟨st,(show s.heap.IsTuple a its.toArray from p)⟩,λi h' st=>st.1⟩⟩;simpa using En.draws (P:=X.prog) (w:=X.w) hA it a ne its.toArray
noncomputable def HX(K:Mx)(tl:TE):TI:=λσ H R=>tl σ H λx H1=>∃a,x=.ref a/\(((∃xs,SqL K H1 a xs)/\R (Ite λH xs=>SqL K H a xs) H1)\/((∃xs,SqT K H1 a xs)/\R (Ite λH xs=>SqT K H a xs) H1))
def rB{σ:St}{H:Hp}{s:Shared}{E:Value->Shared->Prop}{h':Heap}{Z:List Expr}{j:Nat}{tp:Pos}{a:Addr}{q:Hp->List V->Prop}{r:Nat->Heap->Prop}{R:It->Hp->Prop}(I:Inv X pins σ H s)(la:a<s.heap.objs.size)
  (S:Src X.prog X.w X.K a s.heap.objs.size q r) (Y:IsEnum h' (s.heap.objs.size+1) s.heap.objs.size 0 .none) (hr:r 0 h') (k:∀b o,s.heap.get? b=some o->h'.get? b=some o) (hR:R (Ite q) H) :
  wpAny (model X.prog X.w) X.A (pyIter (.ref (s.heap.objs.size+1))) (PIE X pins σ (.Tuple Z j tp) R) E { s with heap:=h' }:=by
 have I1:=I.kept (t':=s.toks) k;refine wpAny_pyIter_enum (s:={ s with heap:=h' }) Y ⟨s.heap.objs.size+1,[s.heap.objs.size+1,s.heap.objs.size],_,_,H,rfl,I1,yk S (Nat.succ_ne_self _) (J4 (Jk la)),⟨⟨_,Y⟩,hr⟩,λb J=>?_,hR⟩;have J:s.heap.objs.size<=b:=by
  simp only[IM,Kc,KR]at J;rcases J with rfl|rfl
  .exact Kb _
  .exact y4 _
 exact I.fpOk J (I.hok.fresh J)
def ym (hg:Gl X "enumerate") (hm:X.mg "enumerate"=none) (hl:PE X l tl) (hs:starEach [l] X.env=[(false,eval l X.env)]:=by rfl) :
  PI X (.Tuple ts j tp) (.Call (.Name "enumerate" p) [l] [] pos) (HX X.K tl):=by
 intro pins s σ H R I h;refine Call_ (iO I hg hm PyProof.Rows.boot_enumerate (J2 (thn (aB hl aV hs pos pins s σ H (λvs H1=>match vs with
  | [x]=>∃a,x=.ref a/\(((∃xs,SqL X.K H1 a xs)/\R (Ite λH xs=>SqL X.K H a xs) H1)\/((∃xs,SqT X.K H1 a xs)/\R (Ite λH xs=>SqT X.K H a xs) H1))
  | _=>False) I h) λus s1 J=>ak J λvs H1 Z r1 q1=>?_) hs rfl))
 cases r1 with
 |nil=>exact q1.elim
 |cons r rr =>
  cases rr with
  |cons _ _=>exact q1.elim
  |nil =>
   obtain⟨a,e,q⟩:=q1;subst e;subst r;rcases q with⟨⟨xs,J⟩,q⟩|⟨⟨xs,J⟩,q⟩
   .obtain⟨its,_,pl,_⟩:=Z.list J;have Y:=let ⟨o,ho,_⟩:=pl.isList;IG ho
    exact call_enumerate_list pl.isList λh' en it _ k=>rB Z Y (yl (IP Y)) en it k q
   .obtain⟨its,_,pt,_⟩:=Z.tuple J;have Y:=let ⟨o,ho,_⟩:=pt;IG ho
    exact En.call_tup pt λh' en it _ k=>rB Z Y (AT (IP Y)) en it k q
end L2
namespace MM
open PySem PySem.Spec PyProof.Rows L2 List Option
structure mR(K:Mx)(J:It)(xs:List PV)(V G:Hp):Prop where
 stop:∀H',ai G H'->J.stop xs.length H'
 go:∀(i:Nat) x H',ai G H'->xs[i]?=some x->J.go i H'
 yld:∀(i:Nat) x H' u H2,ai G H'->xs[i]?=some x->J.yld i H' u H2->ai H' H2/\∀O',(∀a∈O',H' a≠none)->ai V (aj H2 O')->Rep K (aj H2 O') x u
def mR.weak{K:Mx}{V G Y:Hp}(h:mR K J xs V G)(s:ai G Y):mR K J xs V Y:=
 ⟨λH' s'=>h.stop H' (s.trans s'),λi x H' s'=>h.go i x H' (s.trans s'),λi x H' u H2 s'=>h.yld i x H' u H2 (s.trans s')⟩
noncomputable def a_(ms:List ME)(M:Rho)(σ:St):List Addr:=match ms with
 | [.bor i]=>(match (M[i]?).join,(σ[i]?).join with|some (.own _),some (.ref a)=>[a]|_,_=>[])
 | _=>[]
noncomputable def bQ(B:Hp)(O:List Addr)(H:Hp)(L:List Addr):Hp:=λb=>if b∈O then(if b∈L then H b else B b)else H b
section
variable{K:Mx}{B H:Hp}{O L:List Addr}
def mU(s:ai B H):ai (bQ B O H L) H:=λb u e=>by
 unfold bQ at e;split at e
 .split at e
  .exact e
  .exact s b u e
 .exact e
def fh(s:ai B H):ai B (bQ B O H L):=λb u e=>by
 unfold bQ;split
 .split
  .exact s b u e
  .exact e
 .exact s b u e
def ca:ai (aj H O) (bQ B O H L):=λb u e=>by
 have J:b∉O:=λz=>by rw[lx z]at e;exact aT e
 unfold bQ;rw[if_neg J];rw[bp J]at e;exact e
end
def lI{K:Mx}{V G:Hp}(h:SqL K G a us)(r:Reps K V xs us):mR K (Itl K a) xs V G where
 stop:=λH' s=>⟨us,s.seq h,Kl r.length.symm⟩
 go:=λi x H' s e=>by
  refine ae (r.get e) λu J _=>?_
  exact⟨us,u,s.seq h,J⟩
 yld:=λi x H' u H2 s e y=>by
  obtain⟨rfl,y⟩:=y;refine ae (r.get e) λw J q=>?_
  have Y:=y us (s.seq h);rw[J]at Y;cases Y;exact⟨ai.refl _,λZ _ sv=>Rep.mono sv _ q⟩
def yn{K:Mx}{V G:Hp}(h:SqT K G a us)(r:Reps K V xs us):mR K (Itt K a) xs V G where
 stop:=λH' s=>⟨us,s.seqT h,Kl r.length.symm⟩
 go:=λi x H' s e=>by
  refine ae (r.get e) λu J _=>?_
  exact⟨us,u,s.seqT h,J⟩
 yld:=λi x H' u H2 s e y=>by
  obtain⟨rfl,y⟩:=y;refine ae (r.get e) λw J q=>?_
  have Y:=y us (s.seqT h);rw[J]at Y;cases Y;exact⟨ai.refl _,λZ _ sv=>Rep.mono sv _ q⟩
def rC{K:Mx}{V G:Hp}{lo:Int} :mR K (Itr lo n) ((range n).map λ(k:Nat)=>.int (lo+k)) V G where
 stop:=λH' s=>by simp[Itr]
 go:=λi x H' s e=>by
  have:=(II.mp e).1;simpa[Itr]using this
 yld:=λi x H' u H2 s e y=>by
  obtain⟨rfl,rfl⟩:=y;refine⟨ai.refl _,λJ _ sv=>?_⟩;have hi:i<n:=by have:=(II.mp e).1;simpa using this
  rw[Jb,getElem?_range hi]at e;cases e;rw[Rep]
def DO{K:Mx}{V G:Hp}{a:Addr}{xs:List PV}{us:List L2.V}(h:SqL K G a us)(r:Reps K V xs us):mR K (Itv K a us.length) xs.reverse V G where
 stop:=λH' s=>by show xs.reverse.length=us.length;rw[length_reverse,r.length]
 go:=λi x H' s e=>by
  have:=(II.mp e).1;rw[length_reverse,r.length]at this;exact⟨us,s.seq h,rfl,this⟩
 yld:=λi x H' u H2 s e y=>by
  obtain⟨rfl,y⟩:=y;have hi:=(II.mp e).1;rw[length_reverse]at hi;have Y:=r.length;rw[Mr hi]at e;obtain⟨w,Z,q⟩:=r.get e;have J:=y us (s.seq h);rw[Mr (by omega),<- Y,Z]at J;cases J;exact⟨ai.refl _,λO' _ sv=>Rep.mono sv _ q⟩
def DP{K:Mx}(J:∀a∈O,H a≠none)(Y:H p=none)(h:Reps K (aj (upd H p (.tup us)) O) xs us):Rep K (aj (upd H p (.tup us)) O) (.tup xs) (.ref p):=by
 refine⟨p,us,rfl,?_,h⟩;rw[bp λz=>J p z Y];exact aq ..
theorem uO:∀xs (k i:Nat),(c7 k xs)[i]?=(xs[i]?).map λx=>.tup [.int ((k+i:Nat):Int),x]
 | [],k,i=>by rfl
 |x::xs,k,0=>by rfl
 |x::xs,k,i+1=>by
  rw[c7,getElem?_cons_succ,getElem?_cons_succ,uO xs (k+1) i,show k+1+i=k+(i+1)by omega]
theorem mV:∀xs k,(c7 k xs).length=xs.length
 | [],_=>rfl
 |x::xs,k=>by rw[c7,length_cons,length_cons,mV xs]
def kr{K:Mx}{V G:Hp}{q:Hp->List L2.V->Prop}{xs:List PV}{us:List L2.V}(h:∀H',ai G H'->q H' us)(r:Reps K V xs us):mR K (Ite q) (c7 0 xs) V G where
 stop:=λH' s=>⟨us,h H' s,by rw[mV];exact r.length⟩
 go:=λi x H' s e=>by
  refine⟨us,h H' s,?_⟩;have:=(II.mp e).1;rw[mV]at this;rw[<- r.length];exact this
 yld:=λi x H' u H2 s e y=>by
  obtain⟨p,rfl,Y,v,rfl,y⟩:=y;rw[uO]at e;refine ae (IL.mp e) λz e1 J=>?_
  subst J;refine ae (r.get e1) λw e2 rz=>?_
  have Z:=y us (h H' s);rw[e2]at Z;cases Z;refine⟨aD Y _,λO' hO sv=>?_⟩;rw[Kf];refine DP hO Y (.cons (ce _ _) (.cons (Rep.mono sv _ rz) .nil))
noncomputable def tW(K:Mx)(cal:Cal)(k:Sk)(ms:List ME):TI:=λσ H R =>
 ∃B E O M vs xs,aN K B E O H M σ/\evs cal ms M=some vs/\bN k vs=some xs/\∀J H1,ai H H1->mR K J xs (aj H1 O) (bQ B O H1 (a_ ms M σ))->R J H1
section
variable{X:Cx}{cal:Cal}{tg:Expr}
theorem PI.or(h:PI X tg e t)(g:PI X tg e u):PI X tg e (λσ H R=>t σ H R\/u σ H R):=λpins s σ H R I q=>q.elim (h pins s σ H R I) (g pins s σ H R I)
theorem pZ:∀{ms}{M}{vs},evs cal ms M=some vs->vs.length=ms.length
 | [],_,_,h=>by simp[evs]at h;subst h;rfl
 |m::ms,_,_,h=>by
  simp[evs,rp]at h;obtain⟨v,_,w,J,rfl⟩:=h;simp[pZ J]
def p9(h:evs cal [m] M=some vs):∃v,vs=[v]/\ev cal m M=some v:=by
 simp[evs,rp]at h;obtain⟨v,e,w,J,rfl⟩:=h
 simp_all
def p_{K:Mx}(h:Rep K F v u)(e:aZ v=some xs):∃a us,u=.ref a/\Reps K F xs us/\((v=.lst xs/\SqL K F a us)\/(v=.tup xs/\SqT K F a us)):=by
 cases v<;>first|(simp[aZ]at e;subst e;rw[Rep]at h;obtain⟨a,us,e,q,r⟩:=h;exact⟨a,us,e,r,.inl ⟨rfl,q⟩⟩)|(simp[aZ]at e;subst e;rw[Rep]at h;obtain⟨a,us,e,q,r⟩:=h;exact⟨a,us,e,r,.inr ⟨rfl,d8 q⟩⟩)|injection e
def F_(hb:ba m=false)(h:PE X e (tE X.K cal m)):PI X tg e (tW X.K cal .seq [m]):=by
 refine(PI.or (pj h) (wP h)).imp λσ H R q=>?_
 refine tU q λB E O M vs xs st e1 e2 q=>?_
 refine ae (p9 e1) λv ao e3=>?_
 subst ao;have Y:aZ v=some xs:=e2;have hl:a_ [m] M σ=[]:=by cases m<;>first|rfl|exact qA hb
 cases v with
 |lst ys =>
  simp[aZ]at Y;subst Y
  refine .inl ⟨B,E,O,M,_,st,e3,λu H' s g=>?_⟩;have r:=g.2 hb;refine ak r λa us J Z rs=>?_
  subst J;exact⟨a,rfl,⟨us,(be H' O).seq Z⟩,q _ _ s (lI (ca.seq Z) rs)⟩
 |tup ys =>
  simp[aZ]at Y;subst Y
  refine .inr ⟨B,E,O,M,_,st,e3,λu H' s g=>?_⟩;have r:=g.2 hb;refine ak r λa us J Z rs=>?_
  subst J;exact⟨a,rfl,⟨us,(be H' O).seqT (d8 Z)⟩,q _ _ s (yn (ca.seqT (d8 Z)) rs)⟩
 | _=>injection Y
def Ga{i:Nat}{x:Str}{pos:Pos}(h:a7 X.N X.env.scope i x=true):PI X tg (.Name x pos) (tW X.K cal .seq [.bor i]):=by
 refine(PI.or (pj (cV h)) (wP (cV h))).imp λσ H R q=>?_
 obtain⟨B,E,O,M,vs,xs,st,e1,e2,q⟩:=q;obtain⟨v,rfl,J⟩:=p9 e1;have Z:aZ v=some xs:=e2;rw[ev]at J;cases hj:(M[i]?).join with
 |none=>rw[hj]at J;cases J
 |some m =>
  rw[hj]at J;obtain⟨u,eu,so⟩:=cK st hj;cases m with
  |val w =>
   simp only[bA,ID]at J;subst J;have a0:Rep X.K (aj H O) w u:=so;obtain⟨a,us,rfl,rs,z⟩:=p_ a0 Z;rcases z with⟨rfl,Y⟩|⟨rfl,Y⟩
   .exact .inl ⟨_,eu,a,rfl,⟨us,(be H O).seq Y⟩,q _ _ (ai.refl H) (lI (ca.seq Y) rs)⟩
   .exact .inr ⟨_,eu,a,rfl,⟨us,(be H O).seqT Y⟩,q _ _ (ai.refl H) (yn (ca.seqT Y) rs)⟩
  |own ys =>
   simp only[bA,ID]at J;subst J;simp[aZ]at Z;subst Z
   obtain⟨a,us,rfl,ha,rs,hO,_⟩:=so;refine .inl ⟨_,eu,a,rfl,⟨us,SqL.of ha⟩,q _ _ (ai.refl H) (lI (SqL.of ?_) rs)⟩;have hl:a_ [.bor i] M σ=[a]:=by simp[a_,hj,eu]
   unfold bQ;rw[hl,if_pos hO,if_pos (by simp)];exact ha
  |brw ys =>
   simp only[bA,ID]at J;subst J;simp[aZ]at Z;subst Z
   obtain⟨a,us,rfl,Y,rs⟩:=so;exact .inl ⟨_,eu,a,rfl,⟨us,st.keep.seq Y⟩,q _ _ (ai.refl H) (lI ((fh st.keep).seq Y) rs)⟩
  |ownD ys =>
   simp only[bA,ID]at J;subst J;simp[aZ]at Z
  |ownL ys=>simp[bA]at J
  |brwD ys =>
   simp only[bA,ID]at J;subst J;simp[aZ]at Z
def w_rev {m:ME}{e:Expr}{f:Str}{p pos:Pos}{T:Tab}{k:Nat} (g:Gf X T k cal) (hf:f=("reversed":Str)) (hg:glB X.env.scope f=true) (hs:aC e=true) (Z:ba m=false) (h:PE X e (tE X.K cal m)):PI X tg (.Call (.Name f p) [e] [] pos) (tW X.K cal .rev [m]):=by
 subst hf;have J:starEach [e] X.env=[(false,eval e X.env)]:=by cases e<;>first|rfl|(simp[aC]at hs)
 refine(DN (du hg) (g.blt "reversed" (by decide)) h J).imp λσ H R q=>?_
 obtain⟨B,E,O,M,vs,xs,st,e1,Y,q⟩:=q;obtain⟨v,rfl,e3⟩:=p9 e1;have hl:a_ [m] M σ=[]:=by cases m<;>first|rfl|cases Z
 rw[hl]at q;cases v with
 |lst ys =>
  simp only[bN,ID]at Y;subst Y;refine⟨B,E,O,M,_,st,e3,λu H' s g=>?_⟩;have r:=g.2 Z;rw[Rep]at r;obtain⟨a,us,rfl,sq,rs⟩:=r;exact⟨a,us,rfl,(be H' O).seq sq,q _ _ s (DO (ca.seq sq) rs)⟩
 | _=>simp[bN]at Y
def Gb (g:Gf X T k cal) (hf:f=("enumerate":Str)) (hg:glB X.env.scope f=true) (hs:aC e=true) (hb:ba m=false) (h:PE X e (tE X.K cal m)):PI X (.Tuple ts j tp) (.Call (.Name f p) [e] [] pos) (tW X.K cal .enm [m]):=by
 subst hf;have J:starEach [e] X.env=[(false,eval e X.env)]:=by cases e<;>first|rfl|(injection hs)
 refine(ym (du hg) (g.blt "enumerate" (by decide)) h J).imp λσ H R q=>?_
 refine tU q λB E O M vs xs st e1 e2 q=>?_
 refine ae (p9 e1) λv Z e3=>?_
 subst Z;have hl:a_ [m] M σ=[]:=by cases m<;>first|rfl|exact qA hb
 simp[bN,IL]at e2;obtain⟨ys,e4,rfl⟩:=e2;refine⟨B,E,O,M,_,st,e3,λu H' s g=>?_⟩;refine ak (p_ (g.2 hb) e4) λa us ac rs z=>?_
 subst ac;rcases z with⟨_,Y⟩|⟨_,Y⟩
 .exact⟨a,rfl,.inl ⟨⟨us,(be H' O).seq Y⟩,q _ _ s (kr (λH2 s2=>s2.seq (ca.seq Y)) rs)⟩⟩
 .exact⟨a,rfl,.inr ⟨⟨us,(be H' O).seqT Y⟩,q _ _ s (kr (λH2 s2=>s2.seqT (ca.seqT Y)) rs)⟩⟩
def DQ {i:Nat}{x:Str}{px:Pos}{f:Str}{ts:List Expr}{j:Nat}{tp p pos:Pos}{T:Tab}{k:Nat} (g:Gf X T k cal) (hf:f=("enumerate":Str)) (hg:glB X.env.scope f=true) (h:a7 X.N X.env.scope i x=true):PI X (.Tuple ts j tp) (.Call (.Name f p) [.Name x px] [] pos) (tW X.K cal .enm [.bor i]):=by
 subst hf;refine(ym (du hg) (g.blt "enumerate" (by decide)) (cV h) rfl).imp λσ H R q=>?_
 obtain⟨B,E,O,M,vs,xs,st,e1,e2,q⟩:=q;obtain⟨v,rfl,J⟩:=p9 e1;simp only[bN,IL]at e2;obtain⟨zs,Z,rfl⟩:=e2;rw[ev]at J;cases hj:(M[i]?).join with
 |none=>rw[hj]at J;cases J
 |some m =>
  rw[hj]at J;obtain⟨u,eu,so⟩:=cK st hj;cases m with
  |val w =>
   simp only[bA,ID]at J;subst J;have a1:Rep X.K (aj H O) w u:=so;obtain⟨a,us,rfl,rs,z⟩:=p_ a1 Z;rcases z with⟨rfl,Y⟩|⟨rfl,Y⟩
   .exact⟨_,eu,a,rfl,.inl ⟨⟨us,(be H O).seq Y⟩,q _ _ (ai.refl H) (kr (λH2 s2=>s2.seq (ca.seq Y)) rs)⟩⟩
   .exact⟨_,eu,a,rfl,.inr ⟨⟨us,(be H O).seqT Y⟩,q _ _ (ai.refl H) (kr (λH2 s2=>s2.seqT (ca.seqT Y)) rs)⟩⟩
  |own ys =>
   simp only[bA,ID]at J;subst J;simp[aZ]at Z;subst Z
   obtain⟨a,us,rfl,ha,rs,hO,_⟩:=so;have hl:a_ [.bor i] M σ=[a]:=by simp[a_,hj,eu]
   have hG:bQ B O H (a_ [.bor i] M σ) a=some (.lst us):=by
    unfold bQ;rw[hl,if_pos hO,if_pos (by simp)];exact ha
   exact⟨_,eu,a,rfl,.inl ⟨⟨us,SqL.of ha⟩,q _ _ (ai.refl H) (kr (λH2 s2=>s2.seq (SqL.of hG)) rs)⟩⟩
  |brw ys =>
   simp only[bA,ID]at J;subst J;simp[aZ]at Z;subst Z
   obtain⟨a,us,rfl,Y,rs⟩:=so;exact⟨_,eu,a,rfl,.inl ⟨⟨us,st.keep.seq Y⟩,q _ _ (ai.refl H) (kr (λH2 s2=>s2.seq ((fh st.keep).seq Y)) rs)⟩⟩
  |ownD ys =>
   simp only[bA,ID]at J;subst J;simp[aZ]at Z
  |ownL ys=>simp[bA]at J
  |brwD ys =>
   simp only[bA,ID]at J;subst J;simp[aZ]at Z
abbrev HY(as:List Expr):Prop:=as.length=1\/as.length=2
def AU (g:Gf X T k cal) (hf:f=("range":Str)) (hg:glB X.env.scope f=true) (ha:PA X args (tEs X.K cal ms)) (hn:HY args) (hs:args.all aC=true) (hm:ms.length=args.length) :
  PI X tg (.Call (.Name f p) args [] pos) (tW X.K cal .rng ms):=by
 subst hf;have Y:∀e,aC e=true->∀es env,starEach (e::es) env=(false,eval e env)::starEach es env:=λe he es env=>by
  cases e<;>first|rfl|(injection he)
 match args,hn with
 | [a],_ =>
  simp only[all_cons,all_nil,Bool.and_true]at hs;refine(vo (du hg) (g.blt "range" (by decide)) ha (by rw[Y a hs];rfl)).imp λσ H R q=>?_
  refine tU q λB E O M vs xs st Z J q=>?_
  refine⟨B,E,O,M,vs,st,Z,λus H' s gs=>?_⟩
  match vs,J,gs with
  | [.int j],J,gs =>
   simp only[bN]at J;split at J
   .rename_i c;cases J;refine ae (p1 gs.1) λu ac ru=>?_
    subst ac;have e3:=ru.int;subst e3;exact⟨j,rfl,c.1,c.2,q _ _ s rC⟩
   .exact aT J
  | [.int j,.int j'],J,gs =>
   have:=pZ Z
   simp_all
 | [a,b],_ =>
  simp only[all_cons,all_nil,Bool.and_true,tr]at hs;refine(vp (du hg) (g.blt "range" (by decide)) ha (by rw[Y a hs.1,Y b hs.2];rfl) (by rw[Y b hs.2];rfl)).imp λσ H R q=>?_
  refine tU q λB E O M vs xs st Z J q=>?_
  refine⟨B,E,O,M,vs,st,Z,λus H' s gs=>?_⟩
  match vs,J,gs with
  | [.int i,.int j],J,gs =>
   simp only[bN]at J;split at J
   .rename_i c;cases J;refine ak (p2 gs.1) λu u' aL ru a0=>?_
    subst aL;have e3:=ru.int;have e4:=a0.int;subst e3 e4;exact⟨i,j,rfl,c,q _ _ s rC⟩
   .exact aT J
  | [.int j],J,gs =>
   have:=pZ Z;simp at this hm;omega
end
noncomputable def tF(K:Mx)(cal:Cal)(me:ME):TE:=λσ H Q=>∃B E O M xs,aN K B E O H M σ/\ev cal me M=some (.lst xs) /\
 ∀p us H',ai H H'->H p=none->H' p=some (.lst us)->Reps K (aj H' (p::O)) xs us->Q (.ref p) H'
def jA :ai (aj H (p::O)) (aj H O):=bC (ai.refl H) λb J=>.inl (JG _ J)
def fj(h:p∈O):aj (upd H p o) O=aj H O:=by
 funext b
 unfold aj;split
 .rfl
 .rename_i J;exact az λz=>J (by rw[z];exact h)
def uP{K:Mx}{H H':Hp}{O:List Addr}{me:ME}{xs:List PV}{p:Addr}{us:List V}(J:∀a∈O,H a≠none)(Y:H p=none)(e:H' p=some (.lst us))(r:Reps K (aj H' (p::O)) xs us):Got K H' O me (.lst xs) (.ref p):=by
 refine .of ?_;refine⟨p,us,rfl,SqL.of ?_,Reps.mono jA _ r⟩;rw[bp λz=>J p z Y];exact e
section
variable{X:Cx}{T:Tab}{k:Nat}{cal:Cal}
def eS(Y:∀M v,ev cal me M=some v->∃xs,v=.lst xs)(h:PE X e (tF X.K cal me)):PE X e (tE X.K cal me):=by
 refine h.imp λσ H Q q=>?_
 refine bi q λB E O M v st J q=>?_
 obtain⟨xs,rfl⟩:=Y M v J;exact⟨B,E,O,M,xs,st,J,λp us H' s Z he r=>q _ _ s (uP st.here Z he r)⟩
theorem Gf.blk(g:Gf X T k cal)(x)(fvs)(scope)(J)(Y)(C)(fp):Gf (X.blk x fvs scope J Y C fp) T k cal:={ g with }
def ku(h:gB osc N scope x fvs js=true):jZ osc N scope x fvs js:=by
 unfold gB at h;simp only[tr,IS,KW]at h;refine HA h λh1 h2 J Y Z h6 h7 h8 h9=>?_
 exact⟨h1,h2,J,Y,Z,h6,h7,h8,h9⟩
def DR{K:Mx}{B H H1 H2:Hp}{E O:List Addr}{M:Rho}{σ Z:St}{js:List Nat}{D:Addr}{x:PV}{ux:V}(st:aN K B E O H M σ)(s1:ai H H1)(s2:ai H1 H2)(hD:H1 D=none)(a1:H2 D≠none)
  (a2:∀z,Z.set 0 z=(mB js σ).set 0 z) (hl:0<Z.length) (hx:Rep K (aj H2 (D::O)) x ux):aN K H1 [] (D::O) H2 (db js M x) (Z.set 0 (some ux)):=by
 have hv:ai (aj H O) (aj H2 (D::O)):=bC (s1.trans s2) λb hb=>by
  rcases IM.mp hb with rfl|hb
  .exact .inr (s1.free hD)
  .exact .inl hb
 rw[a2];have Y:∀(i:Nat) (m:MV),eM m=true->(db js M x)[i]?≠some (some m):=λi m hm e=>by
  unfold db at e;cases i with
  |zero =>
   simp at e;subst e;cases hm
  |succ i =>
   simp only[getElem?_cons_succ,Jb,IL]at e;obtain⟨j,_,e⟩:=e;cases hj:(M[j]?).join with
   |none=>rw[hj]at e;cases e
   |some mm =>
    rw[hj]at e;cases mm<;>first|(simp[fB]at e;done)|(simp only[fB,ID]at e;subst e;cases hm)
 refine⟨s2,λa J=>?_,λa J=>by simp at J,λa J=>by simp at J,?_,λi m e=>?_,λi j m m' a _ e _ hm=>absurd e (Y i m hm)
  ,mK λi a8=>Y i _ rfl
  ⟩
 .rcases IM.mp J with rfl|J
  .exact a1
  .exact λe=>st.here a J ((s1.trans s2).free e)
 .simp[db,mB]
 .cases i with
  |zero =>
   simp only[db,getElem?_cons_zero,ID]at e;subst e;exact⟨ux,by simp[mB],hx⟩
  |succ i =>
   simp only[db,getElem?_cons_succ,Jb,IL]at e;obtain⟨j,ej,e⟩:=e;cases hj:(M[j]?).join with
   |none=>rw[hj]at e;cases e
   |some mm =>
    rw[hj]at e;obtain⟨u,eu,so⟩:=cK st hj;have a4:((mB js σ).set 0 (some ux))[i+1]?=some (some u):=by
     simp[mB,ej,eu]
    refine⟨u,a4,?_⟩;cases mm with
    |val w =>
     simp only[fB,ID]at e;subst e;exact Rep.mono hv _ so
    |own ys =>
     simp only[fB,ID]at e;subst e;obtain⟨a,us,rfl,J,rs,hO,_⟩:=so;exact⟨a,us,rfl,SqL.of (s1 _ _ J),Reps.mono hv _ rs⟩
    |brw ys =>
     simp only[fB,ID]at e;subst e;obtain⟨a,us,rfl,sq,rs⟩:=so;exact⟨a,us,rfl,(st.keep.trans s1).seq sq,Reps.mono hv _ rs⟩
    |ownD kvs =>
     simp only[fB,ID]at e;subst e;obtain⟨a,rfl,J,_⟩:=so;exact⟨a,rfl,.inl (s1 _ _ J)⟩
    |ownL _=>simp[fB]at e
    |brwD kvs =>
     simp only[fB,ID]at e;subst e;obtain⟨a,rfl,J⟩:=so;exact⟨a,rfl,ai.rd (st.keep.trans s1) J⟩
def sL{cond elt:ME}(g:Gf X T k cal)(Z:gB X.env.scope X.N scope x (fg X.N js) js=true)
  (hw:PI X (.Name x px) it (tW X.K cal k' ms)) (ac:gA it=true)
  (hc:∀J Y C fp,PF (X.blk x (fg X.N js) scope J Y C fp) ifs (tT X.K cal cond)) (he:∀J Y C fp,PE (X.blk x (fg X.N js) scope J Y C fp) e (tE X.K cal elt)) (hb:ba elt=false) :
  PE X (.ListComp e [⟨.Name x px,it,ifs,0⟩] scope pos) (tF X.K cal (.comp k' ms js cond elt)):=by
 refine(Ax (ku Z) g.calm hw hc he (by intro v;cases it<;>first|rfl|(injection ac))).imp λσ H Q q=>?_
 exact comp_go hb q
where
 comp_go {k':Sk}{ms:List ME}{js:List Nat}{cond elt:ME}{K:Mx}{σ:St}{H:Hp}{Q:VK} (hb:ba elt=false) (q:tF K cal (.comp k' ms js cond elt) σ H Q):xz (tW K cal k' ms) js (tT K cal cond) (tE K cal elt) σ H Q:=by
  refine bf λZq kq=>?_
  refine bi q λB E O M ws st e1 q=>?_
  rw[ev]at e1;simp only[rp]at e1;obtain⟨vs,e1,xs,e2,e3⟩:=e1;refine kq ?_;split at e3
  .rename_i hlen;refine⟨B,E,O,M,vs,xs,st,e1,e2,λJ H1 s1 it D hD=>?_⟩;have hDO:D∉O:=λz=>cB s1 st.here D z hD
   have it1:=it.weak (mU (st.keep.trans s1));refine⟨λi m σ' H'=>m=xs.length-i/\i<=xs.length/\ai H1 H'/\(∀z,σ'.set 0 z=(mB js σ).set 0 z)/\0<σ'.length/\∃done cE ys,fO (λx=>(ev cal cond (db js M x)).bind bg) (λx=>ev cal elt (db js M x)) (xs.drop i)=some cE/\ws=done++cE/\done.length<=i/\H' D=some (.lst ys)/\Reps K (aj H' (D::O)) done ys,⟨xs.length,by simp,IY _,aD hD _,λ_=>rfl,by simp[mB],[],ws,[],by simpa using e3,rfl,y4 _,aq,.nil⟩,?_⟩;rintro i m σ' H' ⟨rfl,hi,s2,hσ,hl,done,cE,ys,eg,ew,hdl,hDy,rs⟩;by_cases hlt:i<xs.length
   .right;have ex:=IF hlt;refine⟨it1.go i _ H' s2 ex,λσ2 H2=>∃m',m'<xs.length-i/\(m'=xs.length-(i+1)/\i+1<=xs.length/\ai H1 H2/\(∀z,σ2.set 0 z=(mB js σ).set 0 z)/\0<σ2.length/\∃done cE ys,fO (λx=>(ev cal cond (db js M x)).bind bg) (λx=>ev cal elt (db js M x)) (xs.drop (i+1))=some cE/\ws=done++cE/\done.length<=i+1/\H2 D=some (.lst ys)/\Reps K (aj H2 (D::O)) done ys),λσ2 H2 z=>z,λux H2 y=>?_⟩;obtain⟨s3,hr⟩:=it1.yld i _ H' ux H2 s2 ex y;have sv:ai (aj H1 O) (aj H2 (D::O)):=bC (s2.trans s3) λb hb=>by
     rcases IM.mp hb with rfl|hb
     .exact .inr hD
     .exact .inl hb
    have hx:=hr (D::O) (λa ha=>by
     rcases IM.mp ha with rfl|ha
     .rw[hDy];simp
     .exact λz=>cB s1 st.here a ha (s2.free z)) sv
    have hD2:=s3 _ _ hDy;have stb:=DR (js:=js) (M:=M) st s1 (s2.trans s3) hD (by rw[hD2];simp) hσ hl hx;rw[drop_eq_getElem_cons hlt,fO]at eg;simp only[rp]at eg;obtain⟨b,eb,eg⟩:=eg;refine⟨H1,[],D::O,_,b,stb,by simpa[evB,rp]using eb,λH3 s4=>?_⟩;have hσ2:∀z,(σ'.set 0 (some ux)).set 0 z=(mB js σ).set 0 z:=λz=>by rw[set_set];exact hσ z
    have hl2:0<(σ'.set 0 (some ux)).length:=by rw[JW];exact hl
    cases b with
    |false =>
     dsimp only;rw[if_neg (by simp)];refine⟨_,by omega,rfl,hlt,(s2.trans s3).trans s4,hσ2,hl2,done,cE,ys,eg,ew,by exact(IQ ‹_› (J7 _ _)),s4 _ _ hD2,Reps.mono ?_ _ rs⟩;exact(ax s3).trans (ax s4)
    |true =>
     rw[if_pos rfl]at eg;dsimp only;rw[if_pos rfl];refine bf λZq kq=>?_
     simp only[rp,IL]at eg;obtain⟨y',ey,rest',eg,rfl⟩:=eg;refine kq ?_;refine⟨H1,[],D::O,_,y',stb.mono s4,ey,λuy H4 s5 gy=>?_⟩;have hD4:=s5 _ _ (s4 _ _ hD2);have ry:=gy.2 hb;have rs4:=Reps.mono (((ax s3).trans (ax s4)).trans (ax s5)) _ rs;have hyl:ys.length<=10000:=by rw[<- rs.length];omega
     refine⟨ys,hD4,Jl hyl (by decide),_,by omega,rfl,hlt,?_,hσ2,hl2,done++[y'],rest',ys++[uy],eg,by simp[ew],by simp;omega,aq,?_⟩
     .intro b u eb;rw[az (bt eb hD)];exact s5 _ _ (s4 _ _ ((s2.trans s3) _ _ eb))
     .rw[fj (J6)];exact rs4.snoc ry
   .left;have ei:i=xs.length:=by omega
    subst ei;rw[drop_length,fO]at eg;cases eg;rw[Lp]at ew;subst ew;exact⟨it1.stop H' s2,q D ys H' (s1.trans s2) (s1.free hD) hDy rs⟩
  .exact aT e3
def bH(J:aC e=true)(es)(env):starEach (e::es) env=(false,eval e env)::starEach es env:=by
 cases e<;>first|rfl|(injection J)
theorem dJ :∀{es},es.all aC=true->(backTo pos (starEach es env)).any (·.1)=false
 | [],_=>rfl
 |e::es,h=>by
  simp only[all_cons,tr]at h;rw[bH h.1];show(false||(backTo pos (starEach es env)).any (·.1))=false;rw[dJ h.2];rfl
theorem cD:∀{ms}{N}{sc}{es},chks T ms N sc es=true->es.all aC=true/\ms.length=es.length
 | [],_,_,[],_=>⟨rfl,rfl⟩
 | [],_,_,_::_,h=>by simp[chks]at h
 | _::_,_,_,[],h=>by simp[chks]at h
 |m::ms,N,sc,e::es,h=>by
  simp[chks]at h;obtain⟨h1,h2⟩:=cD h.2;exact⟨by simp[h.1.2,h1],by simp[h2]⟩
def bY(h:PE X e (tE X.K cal me))(Y:vU e=true):PT X e (tT X.K cal me):=by
 refine(Ck h (by intro w;cases e<;>first|rfl|(injection Y;done)|(rename_i op _ _;cases op<;>first|rfl|(injection Y)))).imp λσ H Q q=>?_
 refine bi q λB E O M b st J q=>?_
 simp[evB,rp]at J;obtain⟨v,J,Z⟩:=J;refine⟨B,E,O,M,v,st,J,λu H' s g=>?_⟩;cases v<;>simp[bg]at Z
 subst Z;exact⟨_,g.1.bl,q H' s⟩
def yo(h:PE X e (tE X.K cal m))(hs:PA X es (tEs X.K cal ms))(hn:aC e=true):PA X (e::es) (tEs X.K cal (m::ms)):=by
 refine(aB h hs (bH hn es _)).imp λσ H Q q=>?_
 refine bi q λB E O M vs st J q=>?_
 simp[evs,rp,IL]at J;obtain⟨v,J,ws,e2,rfl⟩:=J;refine⟨B,E,O,M,v,st,J,λu H1 s1 g1=>⟨B,E,O,M,ws,st.mono s1,e2,λus H2 Y g2=>q _ H2 (s1.trans Y) ⟨.cons (g1.1.mono Y) g2.1,λZ=>?_⟩⟩⟩;simp only[all_cons,tr,Jr]at Z;exact .cons ((g1.mono Y).2 Z.1) (g2.2 Z.2)
def AV:PA X [] (tEs X.K cal []):=by
 refine aV.imp λσ H Q q=>?_
 refine bi q λB E O M vs st J q=>?_
 simp only[evs,ID]at J;subst J;exact q [] H (ai.refl H) ⟨.nil,λ_=>.nil⟩
def yp:PA X [] (tAs X.K cal []):=by
 refine aV.imp λσ H Q q=>?_
 refine bi q λB E O M vs st J q=>?_
 simp only[evA,ID]at J;subst J;exact q [] H (ai.refl H) .nil
def yq{K:Mx}{H H':Hp}{O:List Addr}(s:ai H H'){m:MV}{u:V}(h:kS K O H m u):kS K O H' m u:=by
 cases m with
 |val v=>exact Rep.mono (ax s) _ h
 |own _=>exact h
 |brw xs=>obtain⟨a,us,e,q,r⟩:=h;exact⟨a,us,e,s.seq q,Reps.mono (ax s) _ r⟩
 |ownD _=>exact h
 |ownL _=>exact h
 |brwD kvs=>obtain⟨a,e,q⟩:=h;exact⟨a,e,ai.rd s q⟩
def v4(Y:ba m=false)(h:PE X e (tE X.K cal m))(hs:PA X es (tAs X.K cal ms))(hn:aC e=true):PA X (e::es) (tAs X.K cal (m::ms)):=by
 refine(aB h hs (bH hn es _)).imp λσ H Q q=>?_
 refine bi q λB E O M vs st e1 q=>?_
 have J:(ev cal m M).bind (λv=>(evA cal ms M).map (MV.val v::·))=some vs:=by
  rw[<- e1];cases m<;>first|(exact qA Y;done)|(simp;done)|rfl
 simp[rp]at J;obtain⟨v,e9,ws,e2,rfl⟩:=J;exact⟨B,E,O,M,v,st,e9,λu H1 s1 g1=>⟨B,E,O,M,ws,st.mono s1,e2,λus H2 Z g2=>q _ H2 (s1.trans Z) (.cons ((g1.mono Z).2 Y) g2)⟩⟩
def yr{i:Nat}{ms:List ME}{x:Str}{pos:Pos}{es:List Expr}(h:a7 X.N X.env.scope i x=true)(hs:PA X es (tAs X.K cal ms)):PA X (.Name x pos::es) (tAs X.K cal (.bor i::ms)):=by
 refine(aB (cV h) hs rfl).imp λσ H Q q=>?_
 obtain⟨B,E,O,M,vs,st,J,q⟩:=q;rw[evA]at J;simp only[rp,IL]at J;obtain⟨m',J,ws,e2,rfl⟩:=J;cases hj:(M[i]?).join with
 |none=>rw[hj]at J;cases J
 |some m =>
  rw[hj]at J;obtain⟨u,eu,Y⟩:=cK st hj;have ao:kS X.K O H m' u:=by
   cases m with
   |val w=>simp only[eX,ID]at J;subst J;exact Y
   |own ys=>simp only[eX,ID]at J;subst J;obtain⟨a,us,rfl,Z,rs,_⟩:=Y;exact⟨a,us,rfl,SqL.of Z,rs⟩
   |brw ys=>simp only[eX,ID]at J;subst J;obtain⟨a,us,rfl,sq,rs⟩:=Y;exact⟨a,us,rfl,st.keep.seq sq,rs⟩
   |ownD kvs=>simp only[eX,ID]at J;subst J;obtain⟨a,rfl,Z,_⟩:=Y;exact⟨a,rfl,.inl Z⟩
   |ownL _=>simp[eX]at J
   |brwD kvs=>simp only[eX,ID]at J;subst J;obtain⟨a,rfl,Z⟩:=Y;exact⟨a,rfl,ai.rd st.keep Z⟩
  exact⟨u,eu,⟨B,E,O,M,ws,st,e2,λus H2 s2 g2=>q (u::us) H2 s2 (.cons (yq s2 ao) g2)⟩⟩
def Gc(Z:PE X l (tE X.K cal a))(hb:PE X r (tE X.K cal b)):PE X (.BinOp l (Dp op) r pos) (tE X.K cal (.bin op a b)):=by
 refine(wQ (DC op) Z hb).imp λσ H Q q=>?_
 refine bi q λB E O M v st J q=>?_
 rw[ev]at J;simp only[rp]at J;obtain⟨x,J,y,e2,e3⟩:=J;exact⟨B,E,O,M,x,st,J,λux H1 s1 g1=>⟨B,E,O,M,y,st.mono s1,e2,λuy H2 Y g2=>⟨O,x,y,v,cB (s1.trans Y) st.here,g1.1.mono Y,g2.1,e3,λu H3 s3 r=>q u H3 ((s1.trans Y).trans s3) (.of r)⟩⟩⟩
def Ge(Z:PE X e (tE X.K cal a)):PE X (.UnaryOp .Not e pos) (tE X.K cal (.not a)):=by
 refine(Cn Z).imp λσ H Q q=>?_
 refine bi q λB E O M v st J q=>?_
 rw[ev]at J;simp only[rp,IL]at J;obtain⟨b,⟨x,J,Y⟩,rfl⟩:=J;cases x<;>simp[bg,ID,reduceCtorEq]at Y
 subst Y;exact⟨B,E,O,M,_,st,J,λux H1 s1 g1=>⟨_,g1.1.bl,q _ H1 s1 (.of (d9 _ _))⟩⟩
def Gg(Z:PT X e (tT X.K cal a)):PT X (.UnaryOp .Not e pos) (tT X.K cal (.not a)):=by
 refine(Cm Z).imp λσ H Q q=>?_
 refine bi q λB E O M b st J q=>?_
 simp only[evB,ev,rp,IL]at J;obtain⟨v,⟨c,⟨x,J,e2⟩,rfl⟩,Y⟩:=J;simp only[bg,ID]at Y;subst Y;exact⟨B,E,O,M,c,st,by simp[evB,J,e2],λH' s=>q H' s⟩
def BT(ha:PE X x (tE X.K cal a))(hb:PE X (.BoolOp .And (y::r) pos) (tE X.K cal b)):PE X (.BoolOp .And (x::y::r) pos) (tE X.K cal (.and a b)):=by
 refine(wL ha hb).imp λσ H Q q=>?_
 refine bi q λB E O M v st Y q=>?_
 rw[ev]at Y;simp only[rp]at Y;obtain⟨c,⟨z,Y,Z⟩,J⟩:=Y;cases z<;>simp[bg,ID,reduceCtorEq]at Z
 subst Z;refine⟨B,E,O,M,_,st,Y,λux H1 s1 g1=>⟨_,g1.1.bl,?_⟩⟩;split at J
 .rename_i h;rw[if_pos h];simp only[rp,IL]at J;obtain⟨z',J,c',e4,rfl⟩:=J;cases z'<;>simp[bg,ID,reduceCtorEq]at e4
  subst e4;exact⟨B,E,O,M,_,st.mono s1,J,λu H2 s2 g2=>q u H2 (s1.trans s2) (by rw[g2.1.bl];exact .of (d9 _ _))⟩
 .rename_i h;rw[if_neg h];cases J;exact q _ H1 s1 (.of (d9 _ _))
def Gh(ha:PE X x (tE X.K cal a))(hb:PE X (.BoolOp .Or (y::r) pos) (tE X.K cal b)):PE X (.BoolOp .Or (x::y::r) pos) (tE X.K cal (.or a b)):=by
 refine(Fl ha hb).imp λσ H Q q=>?_
 refine bi q λB E O M v st Y q=>?_
 rw[ev]at Y;simp only[rp]at Y;obtain⟨c,⟨z,Y,Z⟩,J⟩:=Y;cases z<;>simp[bg,ID,reduceCtorEq]at Z
 subst Z;refine⟨B,E,O,M,_,st,Y,λux H1 s1 g1=>⟨_,g1.1.bl,?_⟩⟩;split at J
 .rename_i h;rw[if_pos h];cases J;exact q _ H1 s1 (.of (d9 _ _))
 .rename_i h;rw[if_neg h];simp only[rp,IL]at J;obtain⟨z',J,c',e4,rfl⟩:=J;cases z'<;>simp[bg,ID,reduceCtorEq]at e4
  subst e4;exact⟨B,E,O,M,_,st.mono s1,J,λu H2 s2 g2=>q u H2 (s1.trans s2) (by rw[g2.1.bl];exact .of (d9 _ _))⟩
def BU(h:PT X (.BoolOp op vs pos) t):PW X (.BoolOp op vs pos) t:=λw pins s σ H Q I q=>by
 have:=h pins s σ H Q I q;exact this
def BV(ha:PT X x (tT X.K cal a))(hb:PW X (.BoolOp .And (y::r) pos) (tT X.K cal b)):PT X (.BoolOp .And (x::y::r) pos) (tT X.K cal (.and a b)):=by
 refine(Cl ha hb).pt.imp λσ H Q q=>?_
 refine bi q λB E O M v st Y q=>?_
 simp only[evB,ev,rp]at Y;obtain⟨w,⟨c,⟨z,Y,e2⟩,J⟩,Z⟩:=Y;refine⟨B,E,O,M,c,st,by simp[evB,Y,e2],λH1 s1=>?_⟩;split at J
 .rename_i h;rw[if_pos h];simp only[rp,IL]at J;obtain⟨z',J,c',e5,rfl⟩:=J;simp only[bg,ID]at Z;subst Z;exact⟨B,E,O,M,_,st.mono s1,by simp[evB,J,e5],λH2 s2=>q H2 (s1.trans s2)⟩
 .rename_i h;rw[if_neg h];cases J;cases Z;exact q H1 s1
def Gi(ha:PT X x (tT X.K cal a))(hb:PW X (.BoolOp .Or (y::r) pos) (tT X.K cal b)):PT X (.BoolOp .Or (x::y::r) pos) (tT X.K cal (.or a b)):=by
 refine(BB ha hb).pt.imp λσ H Q q=>?_
 refine bi q λB E O M v st Y q=>?_
 simp only[evB,ev,rp]at Y;obtain⟨w,⟨c,⟨z,Y,e2⟩,J⟩,Z⟩:=Y;refine⟨B,E,O,M,c,st,by simp[evB,Y,e2],λH1 s1=>?_⟩;split at J
 .rename_i h;rw[if_pos h];cases J;cases Z;exact q H1 s1
 .rename_i h;rw[if_neg h];simp only[rp,IL]at J;obtain⟨z',J,c',e5,rfl⟩:=J;simp[bg,ID]at Z;subst Z;exact⟨B,E,O,M,_,st.mono s1,by simp[evB,J,e5],λH2 s2=>q H2 (s1.trans s2)⟩
def Gj(hc:PT X t (tT X.K cal c))(ha:PE X x (tE X.K cal a))(hb:PE X y (tE X.K cal b))(na:ba a=false)(nb:ba b=false):PE X (.IfExp t x y pos) (tE X.K cal (.ite c a b)):=by
 refine(wM hc ha hb).imp λσ H Q q=>?_
 refine bi q λB E O M v st J q=>?_
 rw[ev]at J;simp only[rp]at J;refine ae J λk' J Y=>?_
 refine⟨B,E,O,M,k',st,by simpa[evB,rp]using J,λH1 s1=>?_⟩;split at Y
 .rename_i h;rw[if_pos h];exact⟨B,E,O,M,v,st.mono s1,Y,λu H2 Z g2=>q u H2 (s1.trans Z) (.of (g2.2 na))⟩
 .rename_i h;rw[if_neg h];exact⟨B,E,O,M,v,st.mono s1,Y,λu H2 Z g2=>q u H2 (s1.trans Z) (.of (g2.2 nb))⟩
def Gk(hc:PT X t (tT X.K cal c))(ha:PT X x (tT X.K cal a))(hb:PT X y (tT X.K cal b)):PT X (.IfExp t x y pos) (tT X.K cal (.ite c a b)):=by
 intro pins s σ H Q I q;refine bf λZq kq=>?_
 refine bi q λB E O M v st J q=>?_
 simp only[evB,ev,rp]at J;obtain⟨w,⟨k',J,Y⟩,e4⟩:=J;refine kq ?_;refine isTrue_IfExp (thn (hc pins s σ H (λb H1=>b=k'/\ai H H1) I ⟨B,E,O,M,k',st,by simpa[evB,rp]using J,λH1 s1=>⟨rfl,s1⟩⟩) λb s1 hq=>aQ hq λH1 I1 eb hs=>?_);subst eb;split at Y
 .rename_i h;subst h;exact ha pins s1 σ H1 Q I1 ⟨B,E,O,M,v,st.mono hs,by simp[evB,Y,e4],λH2 Z=>q H2 (hs.trans Z)⟩
 .rename_i h;have:b=false:=by cases b<;>simp at h ⊢
  subst this;exact hb pins s1 σ H1 Q I1 ⟨B,E,O,M,v,st.mono hs,by simp[evB,Y,e4],λH2 Z=>q H2 (hs.trans Z)⟩
def Gm(g:Gf X T k cal)(ha:PE X l (tE X.K cal a))(hb:PE X r (tE X.K cal b))(hm:behindInMarks (x_ op) r=false):PE X (.Compare l [x_ op] [r] pos) (tE X.K cal (.cmp op a b))/\PT X (.Compare l [x_ op] [r] pos) (tT X.K cal (.cmp op a b)):=by
 refine⟨(Ai (sJ g.units op) ha hb hm).imp λσ H Q q=>?_,(t6 (sJ g.units op) ha hb hm).imp λσ H Q q=>?_⟩
 .refine bi q λB E O M v st J q=>?_
  rw[ev]at J;simp only[rp,IL]at J;obtain⟨x,J,y,Z,c,e3,rfl⟩:=J;exact⟨B,E,O,M,x,st,J,λux H1 s1 g1=>⟨B,E,O,M,y,st.mono s1,Z,λuy H2 Y g2=>⟨O,x,y,c,g1.1.mono Y,g2.1,e3,q _ H2 (s1.trans Y) (.of (d9 _ _))⟩⟩⟩
 .refine bi q λB E O M v st J q=>?_
  simp only[evB,ev,rp,IL]at J;obtain⟨w,⟨x,J,y,Z,c,e3,rfl⟩,e4⟩:=J;simp[bg,ID]at e4;subst e4;exact⟨B,E,O,M,x,st,J,λux H1 s1 g1=>⟨B,E,O,M,y,st.mono s1,Z,λuy H2 Y g2=>⟨O,x,y,c,g1.1.mono Y,g2.1,e3,_,rfl,q H2 (s1.trans Y)⟩⟩⟩
def Gn(h:PA X es (tEs X.K cal ms))(Z:(ms.all λm=>!ba m)=true):PE X (.Tuple es j pos) (tE X.K cal (.tup ms)):=by
 refine(CD h).imp λσ H Q q=>?_
 refine bi q λB E O M v st J q=>?_
 rw[ev]at J;simp only[rp]at J;obtain⟨vs,J,Y⟩:=J;split at Y
 .rename_i hl;cases Y;refine⟨B,E,O,M,vs,st,J,λus H1 s1 g1=>⟨?_,λp hp=>?_⟩⟩
  .rw[<- (g1.2 Z).length];exact eQ hl
  .exact q _ _ (s1.trans (aD hp _)) (.of (jw (cB s1 st.here) hp (g1.2 Z)))
 .exact aT Y
def BW(h:PA X es (tEs X.K cal ms))(J:(ms.all λm=>!ba m)=true):PE X (.List es pos) (tF X.K cal (.lst ms)):=by
 refine(lO h).imp λσ H Q q=>?_
 refine bi q λB E O M xs st Y q=>?_
 rw[ev]at Y;simp only[rp]at Y;refine ae Y λvs Y Z=>?_
 split at Z
 .rename_i hl;cases Z;refine⟨B,E,O,M,xs,st,Y,λus H1 s1 g1=>⟨?_,λp hp=>?_⟩⟩
  .rw[<- (g1.2 J).length];exact eQ hl
  .refine q p us _ (s1.trans (aD hp _)) (s1.free hp) aq ?_;rw[fj (J6)];refine Reps.mono (bC (ai.refl H1) λb J=>?_) _ (g1.2 J);rcases IM.mp J with rfl|J
   .exact .inr hp
   .exact .inl J
 .exact aT Z
def Go(Z:PE X v (tE X.K cal a))(hi:PE X s (tE X.K cal i))(hs:bX s=true):PE X (.Subscript v s pos) (tE X.K cal (.idx a i)):=by
 refine(wX DF Z hi (mP hs)).imp λσ H Q q=>?_
 refine bi q λB E O M v st J q=>?_
 rw[ev]at J;simp[rp]at J;obtain⟨x,J,y,e2,e3⟩:=J;exact⟨B,E,O,M,x,st,J,λux H1 s1 g1=>⟨B,E,O,M,y,st.mono s1,e2,λuy H2 Y g2=>⟨O,x,y,v,cB (s1.trans Y) st.here,g1.1.mono Y,g2.1,e3,λu H3 s3 r=>q u H3 ((s1.trans Y).trans s3) (.of r)⟩⟩⟩
noncomputable def tB1(K:Mx)(cal:Cal)(me:ME):TO:=λσ H Q=>∃B E O M o,aN K B E O H M σ/\((ev cal me M).bind λv=>bnd me v)=some o/\∀H',ai H H'->Q o H'
def DU(h:kh m=true):PO X none (tB1 X.K cal m):=by
 have e:m=.cst .non:=by
  unfold kh at h;split at h
  .rfl
  .exact dq h
 subst e;intro pins s σ H Q I q;refine bf λZ Y=>?_
 refine bi q λB E O M o st J q=>?_
 simp[ev,bind_some,bnd]at J;subst J;refine Y ?_;exact t9 pins s σ H Q I (q H (ai.refl H))
def DV(h:PE X l (tE X.K cal m))(Z:kh m=false):PO X (some l) (tB1 X.K cal m):=by
 intro pins s σ H Q I q;refine bf λZq kq=>?_
 refine bi q λB E O M o st J q=>?_
 simp[rp]at J;obtain⟨v,J,Y⟩:=J;obtain⟨i,rfl,rfl⟩:∃i,v=.int i/\o=some i:=by
  unfold bnd at Y;split at Y
  .injection Z
  .simp_all
  .exact aT Y
 refine kq ?_;exact t_ h pins s σ H Q I ⟨B,E,O,M,_,st,J,λu H' s' g=>⟨i,g.1.int,q H' s'⟩⟩
def AW{a lo hi:ME}{p2 pos:Pos}(ha:PE X v (tE X.K cal a))(hl:PO X l (tB1 X.K cal lo))(hu:PO X u (tB1 X.K cal hi)):PE X (.Subscript v (.Slice l u none p2) pos) (tE X.K cal (.slice a lo hi)):=by
 refine(qH DH ha hl hu).imp λσ H Q q=>?_
 refine bf λZq kq=>?_
 refine bi q λB E O M w st J q=>?_
 rw[ev,rp]at J;refine ae J λx J Y=>?_
 rw[rp]at Y;refine ae Y λao Y Z=>?_
 rw[rp]at Z;refine ae Z λar Z e4=>?_
 refine kq ?_;exact⟨B,E,O,M,x,st,J,λux H1 s1 g1=>⟨B,E,O,M,ao,st.mono s1,Y,λH2 s2=>⟨B,E,O,M,ar,(st.mono s1).mono s2,Z,λH3 s3 =>
  ⟨O,x,w,cB ((s1.trans s2).trans s3) st.here,g1.1.mono (s2.trans s3),e4,λu H4 s4 r=>q u H4 (((s1.trans s2).trans s3).trans s4) (.of r)⟩⟩⟩⟩
def rD {id:String} (hc:bW X (.builtin id) (RBM X.K (aH f))) (Y:glB X.env.scope x=true) (Z:X.mg x=none) (hv:bootBuiltins x=some (.builtin id)) (hn:x ≠ "__name__") (hd:(x==("__debug__":Str))=false)
  (ha:PA X (e::es) (tEs X.K cal ms)) (hs:(e::es).all aC=true):PE X (.Call (.Name x p) (e::es) [] pos) (tE X.K cal (.blt f ms)):=by
 simp only[all_cons,tr]at hs;refine(dX hc (du Y) Z hv ha hn hd (bH hs.1 es _) (dJ hs.2)).imp λσ H Q q=>?_
 refine bi q λB E O M v st J q=>?_
 rw[ev,rp]at J;refine ae J λvs J e2=>?_
 exact⟨B,E,O,M,vs,st,J,λus H1 s1 g1=>⟨O,vs,v,cB s1 st.here,g1.1,e2,λu H2 s2 r=>q u H2 (s1.trans s2) (.of r)⟩⟩
def yt {id:String} (hc:bW X (.type id) (RBM X.K (aH f))) (Y:glB X.env.scope x=true) (Z:X.mg x=none) (hv:bootBuiltins x=some (.type id)) (hn:x ≠ "__name__") (hd:(x==("__debug__":Str))=false)
  (ha:PA X (e::es) (tEs X.K cal ms)) (hs:(e::es).all aC=true):PE X (.Call (.Name x p) (e::es) [] pos) (tE X.K cal (.blt f ms)):=by
 simp only[all_cons,tr]at hs;refine(dg hc (du Y) Z hv ha hn hd (bH hs.1 es _) (dJ hs.2)).imp λσ H Q q=>?_
 refine bi q λB E O M v st J q=>?_
 rw[ev,rp]at J;refine ae J λvs J e2=>?_
 exact⟨B,E,O,M,vs,st,J,λus H1 s1 g1=>⟨O,vs,v,cB s1 st.here,g1.1,e2,λu H2 s2 r=>q u H2 (s1.trans s2) (.of r)⟩⟩
def oT{K:Mx}(q:tF K cal (.blt f ms) σ H Q):tCB (RBF K (aH f)) (tEs K cal ms) σ H Q:=by
 refine bi q λB E O M xs st J q=>?_
 rw[ev,rp]at J;refine ae J λvs J e2=>?_
 refine⟨B,E,O,M,vs,st,J,λus H1 s1 g1=>⟨O,vs,xs,cB s1 st.here,g1.1,e2,λl ws Y r=>q l ws _ (s1.trans (aD Y _)) (s1.free Y) aq ?_⟩⟩;rw[fj (J6)];refine Reps.mono (bC (ai.refl H1) λb Z=>?_) _ r;rcases IM.mp Z with rfl|Z
 .exact .inr Y
 .exact .inl Z
def DW {id:String} (hc:bW X (.builtin id) (RBF X.K (aH f))) (J:glB X.env.scope x=true) (Y:X.mg x=none) (hv:bootBuiltins x=some (.builtin id)) (Z:x ≠ "__name__") (hd:(x==("__debug__":Str))=false)
  (ha:PA X (e::es) (tEs X.K cal ms)) (hs:(e::es).all aC=true):PE X (.Call (.Name x p) (e::es) [] pos) (tF X.K cal (.blt f ms)):=by
 simp only[all_cons,tr]at hs;exact(dX hc (du J) Y hv ha Z hd (bH hs.1 es _) (dJ hs.2)).imp λσ H Q q=>oT q
def AX {id:String} (hc:bW X (.type id) (RBF X.K (aH f))) (J:glB X.env.scope x=true) (Y:X.mg x=none) (hv:bootBuiltins x=some (.type id)) (Z:x ≠ "__name__") (hd:(x==("__debug__":Str))=false)
  (ha:PA X (e::es) (tEs X.K cal ms)) (hs:(e::es).all aC=true):PE X (.Call (.Name x p) (e::es) [] pos) (tF X.K cal (.blt f ms)):=by
 simp only[all_cons,tr]at hs;exact(dg hc (du J) Y hv ha Z hd (bH hs.1 es _) (dJ hs.2)).imp λσ H Q q=>oT q
def DX(g:Gf X T k cal)(hf:T.fs[f]?=some x)(Y:glB X.env.scope x=true)(Z:aR x=true)(ha:PA X es (tAs X.K cal ms))(hs:es.all aC=true)(hl:ms.length=es.length):PE X (.Call (.Name x p) es [] pos) (tE X.K cal (.call f ms)):=by
 refine n5 (g.fns f x hf) λfa fd ps h1 h2 h3 F _=>?_
 have key:∀σ H Q,tE X.K cal (.call f ms) σ H Q->lP (spM X.K cal f) [] E0 (tAs X.K cal ms) σ H Q:=λσ H Q q=>by
  refine bi q λB E O M v st J q=>?_
  rw[ev,rp]at J;refine ae J λvs J e2=>?_
  refine⟨B,E,O,M,vs,st,J,λus H1 s1 g1=>⟨O,vs,v,cB s1 st.here,?_,e2,λu H2 s2 r=>q u H2 (s1.trans s2) (.of r)⟩⟩
  simp_all
 cases es with
 |nil =>
  refine(wT F g.room (du Y) h1 h2 h3 .nil lU (lE Z).1).imp λσ H Q q=>?_
  refine bi (key σ H Q q) λB E O M vs st J q=>?_
  cases ms with
  |nil =>
   simp only[evA,ID]at J;subst J;exact q [] H (ai.refl H) .nil
  |cons m ms=>injection hl
 |cons e es =>
  simp only[all_cons,tr]at hs;exact(iz F g.room (du Y) h1 h2 h3 .nil lU ha (lE Z).1 (bH hs.1 es _) (dJ hs.2)).imp key
end
section
variable{K:Mx}{H:Hp}{O:List Addr}
def yu(kvs)(i):jf (gZ kvs) (Sum.inl i:Key)=(cJ kvs i).map Sc.v:=by
 unfold jf gZ cJ;rw[find?_map,LP,LP];have e:((λJ:Key×V=>decide (J.1=(Sum.inl i:Key)))∘λp:Int×Sc=>((Sum.inl p.1:Key),p.2.v))=λp:Int×Sc=>decide (p.1=i):=by
  funext p
  simp
 rw[e]
 rfl
def yw(kvs)(k):jf (iW kvs) (k.map Sum.inl)=(cJ kvs k).map Sc.v:=by
 unfold jf iW cJ;rw[find?_map,LP,LP];have e:((λJ:List Key×V=>decide (J.1=k.map Sum.inl))∘λp:List Int×Sc=>((p.1.map Sum.inl:List Key),p.2.v))=λp:List Int×Sc=>decide (p.1=k):=by
  funext p
  exact Mq.mpr ⟨lB,λe=>JD _ e⟩
 rw[e]
 rfl
def AY(ns:List Int):(ns.map Sum.inl:List Key).map kV=ns.map V.int:=by
 rw[IZ]
 rfl
def uQ(e:bw xs=some ns)(r:bx K H O (.tup xs) u):∃b,u=.ref b/\H b=some (.tup ((ns.map Sum.inl:List Key).map kV)):=by
 have Y:=eZ e;subst Y;refine ak r.tupH λb us J h t=>?_
 subst J;have Z:=t.ints;subst Z;exact⟨b,rfl,by rw[AY];exact h⟩
def qa{d:DD}{y:PV}{o:Option Sc}{a:Addr}{u:V}(e:vS (.dI d) y=some o)(Z:RdD H a d)(r:bx K H O y u):lX H a u (o.map Sc.v):=by
 cases d with
 |k kvs =>
  cases y<;>try (cases e;done)
  rename_i i;have J:=r.int;subst J;have Y:cJ kvs i=o:=IT e;rw[<- Y,<- yu];exact .inl ⟨_,Sum.inl i,Z.rd,rfl,rfl⟩
 |t kvs =>
  cases y<;>try (cases e;done)
  rename_i xs;have e:(bw xs).map (cJ kvs)=some o:=e;rw[IL]at e;obtain⟨ns,J,Y⟩:=e;obtain⟨b,rfl,hb⟩:=uQ J r;rw[<- Y,<- yw];exact .inr ⟨_,_,b,Z.rd,rfl,hb,rfl⟩
def yx(kvs)(k)(s):iH (gZ kvs) (Sum.inl k:Key) s.v=gZ (cZ kvs k s):=by
 have J:((gZ kvs).any λY=>decide (Y.1=(Sum.inl k:Key)))=kvs.any λp=>decide (p.1=k):=by
  unfold gZ;rw[List.any_map]
  congr 1
  funext p
  simp
 unfold iH cZ;rw[J];split
 .unfold gZ;rw[IZ,IZ];refine KA λp _=>?_
  by_cases h:p.1=k<;>simp[h]
 .unfold gZ;rw[Jo]
  rfl
def yy(kvs)(k)(s):iH (iW kvs) (k.map Sum.inl:List Key) s.v=iW (cZ kvs k s):=by
 have J:∀q,_ ↔ q=k:=λq=>⟨lB,λe=>by rw[e]⟩
 have Y:((iW kvs).any λZ=>decide (Z.1=(k.map Sum.inl:List Key)))=kvs.any λp=>decide (p.1=k):=by
  unfold iW;rw[List.any_map]
  congr 1
  funext p
  simp_all
 unfold iH cZ;rw[Y];split
 .unfold iW;rw[IZ,IZ];refine KA λp _=>?_
  by_cases h:p.1=k
  .have h2:=(J p.1).mpr h;simp[h]
  .have h2:¬ _=k.map Sum.inl:=λz=>h ((J p.1).mp z)
   simp[h,h2]
 .unfold iW;rw[Jo]
  rfl
def AZ{d d':DD}{y:PV}{s:Sc}{a:Addr}{u:V}(e:sD d y s=some d')(Z:H a=some (lj d))(r:bx K H O y u):lY H a u s.v (upd H a (lj d')):=by
 cases d with
 |k kvs =>
  cases y<;>try (cases e;done)
  rename_i i;have Y:=r.int;subst Y;have J:(if kvs.length<10000 then some (DD.k (cZ kvs i s))else none)=some d':=e;split at J
  .rename_i hl;cases J;show lY H a (.int i) s.v (upd H a (.dK (gZ (cZ kvs i s))));rw[<- yx];exact lY.k (k:=Sum.inl i) Z (by unfold gZ;rw[IC,Jw];omega)
  .cases J
 |t kvs =>
  cases y<;>try (cases e;done)
  rename_i xs;have e:((bw xs).bind λk=>if kvs.length<10000 then some (DD.t (cZ kvs k s))else none)=some d':=e;rw[rp]at e;obtain⟨ns,Y,J⟩:=e;obtain⟨b,rfl,hb⟩:=uQ Y r;split at J
  .rename_i hl;cases J;show lY H a (.ref b) s.v (upd H a (.dT (iW (cZ kvs ns s))));rw[<- yy];exact lY.t Z hb (by unfold iW;rw[IC,Jw];omega)
  .cases J
end
section
variable{X:Cx}{pins:List (Addr×Obj)}{σ:St}{H:Hp}{s:Shared}
def uR(I:Inv X pins σ H s){a:Addr}{d:DD}(h:RdD H a d):(a==sysModules)=false/\∃es ep,Dv.Ents s.heap a es ep/\aF ((dSc d).map Sc.v) (es.toList.map (·.val)):=by
 cases d with
 |k kvs =>
  obtain⟨_,hs,vs,r,o,es,ep,ho,hx,hd,_,J,_⟩:=jg I.hok h.rd;refine⟨hs,es,ep,⟨o,ho,hx,hd⟩,?_⟩;have gen:∀(kvs:List (Int×Sc)) (vs:List (Key×Value)) (l:List DictEntry),KV (gZ kvs) vs->Pairs (cH X.prog X.w) l vs->aF ((kvs.map (·.2)).map Sc.v) (l.map (·.val)):=by
   intro kvs
   induction kvs with
   |nil =>
    intro vs l r p;cases r;cases p;exact .nil
   |cons q kvs ih =>
    intro vs l r p;cases r with
    |cons Y Z =>
     cases p with
     |cons p1 p2 p3=>exact .cons (by have h:=Y.2;rw[<- p2]at h;exact h) (ih _ _ Z p3)
  exact gen kvs vs es.toList r J
 |t kvs =>
  obtain⟨_,hs,xs,r,o,es,ep,ho,hx,hd,J,_⟩:=kO I.hok h.rd;refine⟨hs,es,ep,⟨o,ho,hx,hd⟩,?_⟩;rw[J,IZ];have gen:∀(kvs:List (List Int×Sc)) (xs:List (List Key×Addr×Value)),KT H (iW kvs) xs->aF ((kvs.map (·.2)).map Sc.v) (xs.map (·.2.2)):=by
   intro kvs
   induction kvs with
   |nil =>
    intro xs r;cases r;exact .nil
   |cons q kvs ih =>
    intro xs r;cases r with
    |cons Y Z=>exact .cons Y.2.2 (ih _ Z)
  exact gen kvs xs r
noncomputable def Gp(p a:Addr):HO:=.ext λh=>h.IsValuesView p a
def sM{es:Array DictEntry}(h:ItemsOf (λi v=>∃e,es[i]?=some e/\v=e.val) acc es.size):acc.toList=es.toList.map (·.val):=by
 refine Mk λi=>?_
 rw[Jb,Ju,Ju];cases e:acc[i]? with
 |none =>
  have:acc.size<=i:=by simpa using e
  rw[KQ (by rw[<- h.1];exact this)]
  rfl
 |some v =>
  refine ae (h.2 i v e) λq Y J=>?_
  subst J;rw[Y]
  rfl
end
section
variable{X:Cx}{T:Tab}{k:Nat}{cal:Cal}
def A0 (Y:attributeBase o "values" X.env (eval o X.env)=eval o X.env) (Z:(ap.endLine==cp.line)=true) (ho:PE X o td) :
  PE X (.Call (.Attribute o "values" ap) [] [] cp) (λσ H Q=>td σ H λx H1=>∃a d,x=.ref a/\RdD H1 a d/\∀p,H1 p=none->Q (.ref p) (upd H1 p (Gp p a))):=by
 intro pins s σ H Q I h;refine wpAny_Call_method Y rfl Z PySem.F.plainAttrs_dict PySem.F.slot_dict_values PySem.F.type_dict_values (thn (ho pins s σ H _ I h) λu s1 ⟨x,H1,J,rx,a,d,ex,hd,q1⟩=>?_);subst ex;obtain rfl:u=Value.ref a:=rx;obtain⟨t1,t2,_⟩:=sm J (pW hd);refine⟨t1,t2,?_⟩;refine Lw rfl (PyProof.Rows.evalArgs_empty ?_);obtain⟨hs,es,ep,x,_⟩:=uR J hd;refine Dv.values_of hs x ⟨.ref s1.heap.objs.size,_,J.laid (λb o e=>ox _ e) (y4 _) ?_,rfl,q1 _ (J.hok.fresh (y4 _))⟩;exact⟨⟨_,IH _ rfl,rfl,rfl⟩,⟨_,IH _ rfl⟩,λh1 h2 ⟨o,ho,r⟩ k=>⟨o,k o ho,r⟩⟩
def sN (hc:X.calm=true):bW X (.type "list") (λus H Q=>∃p a d,us=[.ref p]/\H p=some (Gp p a)/\RdD H a d/\(dSc d).length<=10000/\∀l,H l=none->Q (.ref l) (upd H l (.lst ((dSc d).map Sc.v)))):=by
 intro pins s σ H xs us Q I r h;refine bf λZq kq=>?_
 obtain⟨p,a,d,rfl,hp,ha,hl,q⟩:=h;refine ae (dW r) λu J ru=>?_
 subst J;subst ru;obtain⟨_,es,ep,x,vs⟩:=uR I ha;have hv:=(show bD X.prog X.w H s.heap p _ from I.hok p _ hp).1;have Y:es.size=(dSc d).length:=by have:=vs.length;simp at this;exact(by simp[*])
 refine kq ?_;refine PySem.W.kdl_call (Dv.src) (I.ok.hd hc) ⟨hv,x⟩ (by rw[Y,Jw];omega) λh' tk Z c kp e it=>?_
 refine⟨.ref s.heap.objs.size,_,I.laid kp (y4 _) (o:=.lst _) ⟨by rw[IC,Jw];omega,Z.toList,c,?_,by rw[Array.toArray_toList];exact e⟩,rfl,q _ (I.hok.fresh (y4 _))⟩;rw[sM it];exact vs
end
def qb:bootBuiltins "len"=some (.builtin "len"):=by decide +kernel
def mW:bootBuiltins "tuple"=some (.type "tuple"):=by decide +kernel
def uS:bootBuiltins "list"=some (.type "list"):=by decide +kernel
def kw:bootBuiltins "sorted"=some (.builtin "sorted"):=by decide +kernel
def DY:bootBuiltins "any"=some (.builtin "any"):=by decide +kernel
def DZ:bootBuiltins "all"=some (.builtin "all"):=by decide +kernel
def D1:bootBuiltins "max"=some (.builtin "max"):=by decide +kernel
def yz:bootBuiltins "int"=some (.type "int"):=by decide +kernel
def A1:bootBuiltins "bool"=some (.type "bool"):=by decide +kernel
def qc:bootBuiltins "set"=some (.type "set"):=by decide +kernel
def nV:bootBuiltins "isinstance"=some (.builtin "isinstance"):=by decide +kernel
section
variable{X:Cx}{T:Tab}{k:Nat}{cal:Cal}
def D6 {p p2 pos:Pos} (g:Gf X T k cal) (Z:dB f=some c) (hg:glB X.env.scope "isinstance"=true) (ht:t=(c:Str)) (ac:glB X.env.scope t=true)
  (ao:bootBuiltins c=some (.type c)) (ar:X.mg c=none) (hn:(c:Str) ≠ "__name__") (hd:((c:Str)==("__debug__":Str))=false) (h:PE X e (tE X.K cal m)) (hs:aC e=true):PE X (.Call (.Name "isinstance" p) [e,.Name t p2] [] pos) (tE X.K cal (.blt f [m])):=by
 subst ht;refine(dX (DJ Z) (du hg) (g.blt "isinstance" (by decide)) nV (aB h (aB (Aa (v:=.ty c) (du ac) ar ao rfl hn hd) aV rfl) (bH hs _ _)) (by decide) (by decide) (bH hs _ _) rfl).imp λσ H Q q=>?_
 refine bi q λB E O M v st J q=>?_
 rw[ev,rp]at J;obtain⟨vs,J,Y⟩:=J;refine ae (p9 J) λw aL e3=>?_
 subst aL;have e5:isD w=false/\v=.bl (isT f w):=by
  cases hd:isD w with
  |true=>cases f<;>simp[dB,reduceCtorEq]at Z<;>(simp only[aH,cF,gY,ii,hd]at Y;exact aT Y)
  |false=>cases f<;>simp[dB,reduceCtorEq]at Z<;>(simp[aH,cF,gY,ii,hd,IU,JS,ID]at Y;exact⟨rfl,Y.symm⟩)
 obtain⟨e5,rfl⟩:=e5;refine⟨B,E,O,M,w,st,e3,λu H1 s1 g1=>⟨O,w,u,rfl,e5,g1.1,q _ H1 s1 (.of (d9 _ _))⟩⟩
def rE {p p2 pos pos2:Pos} (g:Gf X T k cal) (hx:x=("sorted":Str)) (hy:y=("set":Str)) (hg:glB X.env.scope x=true) (Z:glB X.env.scope y=true) (h:PE X e (tE X.K cal m)) (hs:aC e=true):PE X (.Call (.Name x p) [.Call (.Name y p2) [e] [] pos2] [] pos) (tF X.K cal (.blt .sortedSet [m])):=by
 subst hx hy;refine(dX (rA g.calm) (du hg) (g.blt "sorted" (by decide)) kw (aB (dg (uN g.calm) (du Z) (g.blt "set" (by decide)) qc (aB h aV (bH hs _ _)) (by decide) (by decide) (bH hs _ _) rfl) aV rfl) (by decide) (by decide) rfl rfl).imp λσ H Q q=>?_
 refine bf λZq kq=>?_
 refine bi q λB E O M xs st Y q=>?_
 rw[ev,rp]at Y;obtain⟨vs,Y,e2⟩:=Y;refine ae (p9 Y) λw ac e3=>?_
 subst ac;simp only[aH,cF,li,gY,ii,rp]at e2;obtain⟨ys,e4,ns,e5,e6⟩:=e2;refine kq ?_;split at e6
 .rename_i hc;cases e6;refine⟨B,E,O,M,w,st,e3,λu H1 s1 g1=>⟨O,w,u,ns,rfl,g1.1,by simp[e4,e5],hc.1,λl hl=>⟨l,_,rfl,aq,?_,λp' J=>?_⟩⟩⟩
  .rw[sK];exact hc.2
  .rw[AR];refine q p' _ _ ((s1.trans (aD hl _)).trans (aD J _)) (s1.free ((aD hl _).free J)) aq (.of_ints _)
 .exact aT e6
def yA {p p2 pos pos2:Pos} (g:Gf X T k cal) (hx:x=("len":Str)) (hy:y=("set":Str)) (hg:glB X.env.scope x=true) (Y:glB X.env.scope y=true) (h:PE X e (tE X.K cal m)) (hs:aC e=true):PE X (.Call (.Name x p) [.Call (.Name y p2) [e] [] pos2] [] pos) (tE X.K cal (.blt .lenSet [m])):=by
 subst hx hy;refine(dX pN (du hg) (g.blt "len" (by decide)) qb (aB (dg (uN g.calm) (du Y) (g.blt "set" (by decide)) qc (aB h aV (bH hs _ _)) (by decide) (by decide) (bH hs _ _) rfl) aV rfl) (by decide) (by decide) rfl rfl).imp λσ H Q q=>?_
 refine bf λZq kq=>?_
 refine bi q λB E O M v st J q=>?_
 rw[ev,rp]at J;obtain⟨vs,J,e2⟩:=J;refine ae (p9 J) λw Z e3=>?_
 subst Z;simp only[aH,cF,li,gY,ii,rp]at e2;obtain⟨ys,e4,ns,e5,e6⟩:=e2;refine kq ?_;split at e6
 .rename_i hc;cases e6;refine⟨B,E,O,M,w,st,e3,λu H1 s1 g1=>⟨O,w,u,ns,rfl,g1.1,by simp[e4,e5],hc,λl hl=>⟨l,_,rfl,aq,?_⟩⟩⟩;rw[sK];exact q _ _ (s1.trans (aD hl _)) (.of (ce _ _))
 .exact aT e6
def rF {p p2 p3 q2 q3 q4 pos:Pos} (g:Gf X T k cal) (hx:x=("len":Str)) (hy:y=("set":Str)) (hz:z=("set":Str)) (hg:glB X.env.scope x=true) (ao:glB X.env.scope y=true) (ar:glB X.env.scope z=true) (ha:PE X a (tE X.K cal m1)) (hb:PE X b (tE X.K cal m2)) (J:aC a=true) (Y:aC b=true) :
  PE X (.Call (.Name x p) [.BinOp (.Call (.Name y p2) [a] [] q2) .Sub (.Call (.Name z p3) [b] [] q3) q4] [] pos) (tE X.K cal (.blt .lenSetSub [m1,m2])):=by
 subst hx hy hz;refine(dX qZ (du hg) (g.blt "len" (by decide)) qb (aB (wQ vR (dg (uN g.calm) (du ao) (g.blt "set" (by decide)) qc (aB ha aV (bH J _ _)) (by decide) (by decide) (bH J _ _) rfl) (dg (uN g.calm) (du ar) (g.blt "set" (by decide)) qc (aB hb aV (bH Y _ _)) (by decide) (by decide) (bH Y _ _) rfl)) aV rfl) (by decide) (by decide) rfl rfl).imp λσ H Q q=>?_
 refine bf λZq kq=>?_
 refine bi q λB E O M v st Z q=>?_
 rw[ev,rp]at Z;obtain⟨vs,Z,e2⟩:=Z;simp only[evs,rp,IL]at Z;obtain⟨v1,e3,w1,⟨v2,e4,w2,e5,rfl⟩,rfl⟩:=Z;cases e5;simp only[aH,cF,li,gY,ii,rp]at e2;obtain⟨xs,f1,ns,f2,ys,f3,ms,f4,f5⟩:=e2;refine kq ?_;split at f5
 .rename_i hc;cases f5;refine⟨B,E,O,M,v1,st,e3,λu H1 s1 g1=>⟨O,v1,u,ns,rfl,g1.1,by simp[f1,f2],hc.1,λl hl=>?_⟩⟩;refine⟨B,E,O,M,v2,st.mono (s1.trans (aD hl _)),e4,λu2 H2 s2 g2=>⟨O,v2,u2,ms,rfl,g2.1,by simp[f3,f4],hc.2.1,λl2 ac=>?_⟩⟩;refine⟨l,l2,_,_,rfl,rfl,(aD ac _) l _ (s2 l _ aq),aq,by rw[sK];exact hc.2.2,λp' a0=>⟨p',_,rfl,aq,?_⟩⟩;have e6:((St.dd ns.reverse).filter λk=>!decide (k∈St.dd ms.reverse)).length=((dd ns).filter λn=>!decide (n∈ms)).length:=by
   rw[oR];have e7:(λk=>!decide (k∈St.dd ms.reverse))=λn=>!decide (n∈ms):=by
    funext k
    congr 1
    rw[Mq,St.fJ,Mt]
   rw[e7];refine Perm.length_eq (Perm.filter _ ((Kq (St.dd_nodup _) (St.dd_nodup _)).mpr λa=>?_));rw[St.fJ,St.fJ,Mt]
  rw[e6];exact q _ _ ((s1.trans (aD hl _)).trans (s2.trans ((aD ac _).trans (aD a0 _)))) (.of (ce _ _))
 .exact aT f5
def rG{cond elt:ME}:∀M v,ev cal (.comp J src js cond elt) M=some v->∃xs,v=.lst xs:=λM v hv=>by
 rw[ev,rp]at hv;obtain⟨vs,_,hv⟩:=hv;rw[rp]at hv;obtain⟨xs,_,hv⟩:=hv;split at hv
 .simp at hv;obtain⟨ys,_,rfl⟩:=hv;exact⟨_,rfl⟩
 .exact aT hv
def eN(J:f=.listOf\/f=.sorted\/f=.sortedSet\/f=.sortedKeys\/f=.valuesOf) :∀M v,ev cal (.blt f ms) M=some v->∃xs,v=.lst xs:=λM v hv=>by
 rw[ev,rp]at hv;obtain⟨vs,_,hv⟩:=hv;rcases J with rfl|rfl|rfl|rfl|rfl
 .obtain⟨x,rfl⟩:=dC hv (.inl rfl);simp only[aH,cF,li,gY,ii,IL]at hv;obtain⟨ys,_,rfl⟩:=hv;exact⟨_,rfl⟩
 .obtain⟨x,rfl⟩:=dC hv (.inl rfl);simp only[aH,cF,li,gY,ii,rp]at hv;obtain⟨ys,_,hv⟩:=hv;unfold gz at hv;split at hv
  .split at hv
   .cases hv;exact⟨_,rfl⟩
   .simp only[IL]at hv;obtain⟨Y,_,rfl⟩:=hv;exact⟨_,rfl⟩
  .exact aT hv
 .obtain⟨x,rfl⟩:=dC hv (.inr (.inr (.inl rfl)));simp only[aH,cF,li,gY,ii,rp]at hv;obtain⟨ys,_,ns,_,hv⟩:=hv;split at hv
  .cases hv;exact⟨_,rfl⟩
  .exact aT hv
 .obtain⟨x,rfl⟩:=dC hv (.inl rfl);simp only[aH,cF]at hv;split at hv
  .split at hv
   .cases hv;exact⟨_,rfl⟩
   .exact aT hv
  .exact aT hv
 .obtain⟨x,rfl⟩:=dC hv (.inr (.inr (.inr (.inr rfl))));simp only[aH,cF]at hv;split at hv
  .grind
  .exact aT hv
def sO{cond:ME}(h:uD f cond ifs=true)(hc:∀c,f c=true->PT X c (tT X.K cal cond)):PF X ifs (tT X.K cal cond):=by
 match ifs,h with
 | [],h =>
  have e:cond=.cst (.bl true):=by
   simp[uD]at h;split at h
   .rfl
   .exact dq h
  subst e;intro pins s σ H Q I q;refine bf λZ Y=>?_
  refine bi q λB E O M b st J q=>?_
  simp only[evB,ev,bind_some,bg,ID]at J;subst J;refine Y ?_;exact xx pins s σ H Q I (q H (ai.refl H))
 | [c],h=>exact CV (hc c h)
def kz(aL:tup=true->∃ts j tp,tg=.Tuple ts j tp)(g:Gf X T k cal)(h:nU X.env.scope tup (λxs=>chks T src X.N X.env.scope xs) k' it=true)(hs:∀xs,chks T src X.N X.env.scope xs=true->PA X xs (tEs X.K cal src)/\xs.all aC=true/\src.length=xs.length)
  (h1:∀m x,src=[m]->chks T src X.N X.env.scope [x]=true->PE X x (tE X.K cal m)):PI X tg it (tW X.K cal k' src)/\gA it=true:=by
 cases k' with
 |seq =>
  replace h:=IW.mp h
  obtain⟨Y,h⟩:=h;refine⟨?_,Y⟩;refine eT (hs _ h) λ_ _ Z=>?_
  obtain⟨m,rfl⟩:=KY.mp Z;cases hb:ba m with
  |false=>exact F_ hb (h1 m it rfl h)
  |true =>
   have q1:=(cj h).1.1;obtain⟨i,rfl⟩:=sI hb;refine cf (pU q1) λx p J q=>?_
   subst J;exact Ga q
 |rng =>
  replace h:=au h
  obtain⟨c,e1,h⟩:=h;refine iI (jp e1) λp pos J=>?_
  subst J;simp only[tr,IS,Ms]at h;refine Hy h λhx hg ha Y=>?_
  refine eT (hs _ ha) λq a2 Z=>?_
  exact⟨AU g hx hg q Y a2 Z,rfl⟩
 |enm =>
  replace h:=au h
  obtain⟨⟨x,a⟩,e1,h⟩:=h;refine iI (ly e1) λp pos J=>?_
  subst J;simp only[tr,IS]at h;obtain⟨⟨⟨⟨ht,hx⟩,hg⟩,ha⟩,Y⟩:=h;refine Bz (aL ht) λts j tp a3=>?_
  subst a3;refine eT (hs _ ha) λ_ _ Z=>?_
  refine⟨?_,rfl⟩;obtain⟨m,rfl⟩:=KY.mp Z;cases hb:ba m with
  |false=>exact Gb g hx hg Y hb (h1 m a rfl ha)
  |true =>
   have q1:=(cj ha).1.1;obtain⟨i,rfl⟩:=sI hb;refine cf (pU q1) λy p J q=>?_
   subst J;exact DQ g hx hg q
 |rev=>exact dq h
def sP(K)(F)(s:Sc):Rep K F s.pv s.v:=by cases s<;>rfl
def yB{K:Mx}(e:sc? x=some s)(r:bx K H O x u):u=s.v:=by
 cases x<;>simp[sc?,ID,reduceCtorEq]at e<;>subst e
 .exact r.non
 .exact r.bl
 .exact r.int
 .exact r.str
def base_of(J:rg o=true):attributeBase o n X.env (eval o X.env)=eval o X.env:=by
 cases o<;>first|rfl|(simp at J;done)|skip
 rename_i fn args kws pos;cases args with
 |nil=>injection J
 |cons _ _=>cases fn<;>rfl
theorem uT(K)(F):∀ss:List Sc,Reps K F (ss.map Sc.pv) (ss.map Sc.v)
 | []=>rfl
 |s::ss=>⟨_,_,rfl,sP K F s,uT K F ss⟩
def yC (g:Gf X T k cal) (hx:x=("list":Str)) (hg:glB X.env.scope x=true) (h:PE X o (tE X.K cal m)) (hb:attributeBase o "values" X.env (eval o X.env)=eval o X.env) (Z:(ap.endLine==cp.line)=true) :
  PE X (.Call (.Name x p) [.Call (.Attribute o "values" ap) [] [] cp] [] pos) (tF X.K cal (.blt .valuesOf [m])):=by
 subst hx;refine(dg (sN g.calm) (du hg) (g.blt "list" (by decide)) uS (aB (A0 hb Z h) aV rfl) (by decide) (by decide) rfl rfl).imp λσ H Q q=>?_
 refine bi q λB E O M xs st e1 q=>?_
 rw[ev,rp]at e1;obtain⟨vs,e1,e2⟩:=e1;refine ae (p9 e1) λw J e3=>?_
 subst J;have hd:∃d,w=.dI d/\(kR d).length<=10000/\xs=kR d:=by
  simp only[aH,cF]at e2;split at e2
  .split at e2
   .rename_i d Z
    simp_all
   .exact aT e2
  .exact aT e2
 refine aQ hd λd J hz ar=>?_
 subst J;subst ar;have aL:(dSc d).length<=10000:=by unfold kR at hz;rw[IC]at hz;exact hz
 refine⟨B,E,O,M,_,st,e3,λu H1 s1 g1=>?_⟩;refine ae g1.1.dI λa J ha=>?_
 subst J;refine⟨a,d,rfl,ha,λp' Y=>⟨p',a,d,rfl,aq,ai.rdD (aD Y _) ha,aL,λl Z=>?_⟩⟩;refine q l _ _ ((s1.trans (aD Y _)).trans (aD Z _)) (s1.free ((aD Y _).free Z)) aq ?_;exact uT _ _ _
def A2{α:Type}:∀{es:List α},es.length=2->∃m J,es=[m,J]
 | [_,_],_=>⟨_,_,rfl⟩
def D7 (Y:lz sc f n .lenSetSub args=true):∃Z y J y' p2 q2 p3 q3 q4,args=[.BinOp (.Call (.Name Z p2) [y] [] q2) .Sub (.Call (.Name J p3) [y'] [] q3) q4]/\Z="set"/\glB sc Z=true/\J="set"/\glB sc J=true/\f [y,y']=true/\n=2:=by
 refine ae (au Y) λa e1 Y=>?_
 refine bf λZq kq=>?_
 obtain⟨⟨l,o,r,q4⟩,e2,Y⟩:=au Y;obtain⟨⟨Z,y⟩,e3,Y⟩:=au Y;obtain⟨⟨J,y'⟩,e4,Y⟩:=au Y;simp only[tr,IS]at Y;refine kq ?_;refine Hz Y λa0 a1 a2 a3 a4 a5 a6=>?_
 refine iI (ly e3) λp2 q2 e3=>?_
 refine iI (ly e4) λp3 q3 e4=>?_
 exact⟨Z,y,J,y',p2,q2,p3,q3,q4,by rw[c_ e1,xU e2,e3,e4,a0],a1,a2,a3,a4,a5,a6⟩
def A3 (J:lz sc f n .valuesOf args=true):∃y ap cp,args=[.Call (.Attribute y "values" ap) [] [] cp]/\rg y=true/\ap.endLine=cp.line/\f [y]=true/\n=1:=by
 refine ae (au J) λa Y J=>?_
 obtain⟨⟨y,mm,ap,as,cp⟩,Z,J⟩:=au J;simp[tr,IS,LU]at J;refine Fh J λa0 a1 h3 h4 h5 h6=>?_
 exact⟨y,ap,cp,by rw[c_ Y,sF Z,a0,a1],h3,h4,h5,h6⟩
def rH{b:Blt}{es:List ME}{x:Str}{args:List Expr}{p pos:Pos}(g:Gf X T k cal)(hx:x=(re b:Str))(Z:glB X.env.scope x=true)(J:lz X.env.scope (λxs=>chks T es X.N X.env.scope xs) es.length b args=true)
  (hs:∀xs,chks T es X.N X.env.scope xs=true->PA X xs (tEs X.K cal es)/\xs.all aC=true/\es.length=xs.length)
  (h1:∀m x,es=[m]->chks T es X.N X.env.scope [x]=true->PE X x (tE X.K cal m))
  (bM:∀m m' x x',es=[m,m']->chks T es X.N X.env.scope [x,x']=true->PE X x (tE X.K cal m)/\PE X x' (tE X.K cal m')) :
  (iX (.blt b es)=true->PE X (.Call (.Name x p) args [] pos) (tF X.K cal (.blt b es)))/\PE X (.Call (.Name x p) args [] pos) (tE X.K cal (.blt b es)):=by
 subst hx;have inst:∀{b:Blt}{args:List Expr} (c:String),glB X.env.scope (re b)=true->dB b=some c->re b="isinstance"->bootBuiltins c=some (.type c)->X.mg c=none->(c:Str) ≠ "__name__"->((c:Str)==("__debug__":Str))=false->rf X.env.scope (λxs=>chks T es X.N X.env.scope xs) es.length c args=true ->
   PE X (.Call (.Name (re b) p) args [] pos) (tE X.K cal (.blt b es)):=λ{b args} c Z hc hb bO hm hn hd J=>by
  replace J:=au J
  obtain⟨⟨y,t0⟩,e1,J⟩:=J
  replace J:=au J
  obtain⟨⟨t,p2⟩,e2,J⟩:=J;obtain rfl:=uB e1;obtain rfl:=ff (e:=t0) e2;simp only[tr,IS]at J;obtain⟨⟨⟨h2,h3⟩,h4⟩,h5⟩:=J;obtain⟨m,rfl⟩:=KY.mp h5;rw[hb]at Z ⊢;exact D6 g hc Z h2 h3 bO hm hn hd (h1 m y rfl h4) (cj h4).1.2
 have c1:∀{nm:Str},sH X.env.scope (λxs=>chks T es X.N X.env.scope xs) es.length nm args=true->∃m y gg p2 pos2,es=[m]/\args=[.Call (.Name gg p2) [y] [] pos2]/\gg=nm/\glB X.env.scope gg=true/\PE X y (tE X.K cal m)/\aC y=true:=λ{nm} J=>by
  refine bf λZq kq=>?_
  replace J:=au J
  obtain⟨a,e1,J⟩:=J
  replace J:=au J
  obtain⟨⟨gg,y⟩,e2,J⟩:=J;obtain⟨p2,pos2,rfl⟩:=ly e2;simp only[tr,IS]at J;obtain⟨⟨⟨h2,h3⟩,h4⟩,h5⟩:=J;obtain⟨m,rfl⟩:=KY.mp h5;refine kq ?_;exact⟨m,y,gg,p2,pos2,rfl,c_ e1,h2,h3,h1 m y rfl h4,(cj h4).1.2⟩
 have plain:∀{args:List Expr} (n:Nat),0<n->(some n==some es.length&&chks T es X.N X.env.scope args)=true->∃e r,args=e::r/\PA X (e::r) (tEs X.K cal es)/\(e::r).all aC=true:=λ{args} n cc J=>by
  simp only[tr,IS,ID]at J;obtain⟨q1,Y,q3⟩:=hs _ J.2;cases args with
  |nil=>rw[<- J.1]at q3;simp at q3;omega
  |cons e r=>exact⟨e,r,rfl,q1,Y⟩
 cases b with
 |len =>
  obtain⟨e,r,er,q1,Y⟩:=plain 1 (by decide) J;rw[er];exact⟨λz=>(by cases z),rD F5 Z (g.blt "len" (by decide)) qb (by decide) (by decide) q1 Y⟩
 |tupleOf =>
  obtain⟨e,r,er,q1,Y⟩:=plain 1 (by decide) J;rw[er];exact⟨λz=>(by cases z),yt AS Z (g.blt "tuple" (by decide)) mW (by decide) (by decide) q1 Y⟩
 |listOf =>
  obtain⟨e,r,er,q1,Y⟩:=plain 1 (by decide) J;rw[er];have q:=AX (p:=p) (pos:=pos) DI Z (g.blt "list" (by decide)) uS (by decide) (by decide) q1 Y;exact⟨λ_=>q,eS (eN (.inl rfl)) q⟩
 |sorted =>
  obtain⟨e,r,er,q1,Y⟩:=plain 1 (by decide) J;rw[er];have q:=DW (p:=p) (pos:=pos) (yi g) Z (g.blt "sorted" (by decide)) kw (by decide) (by decide) q1 Y;exact⟨λ_=>q,eS (eN (.inr (.inl rfl))) q⟩
 |any =>
  obtain⟨e,r,er,q1,Y⟩:=plain 1 (by decide) J;rw[er];exact⟨λz=>(by cases z),rD (F7 g.calm) Z (g.blt "any" (by decide)) DY (by decide) (by decide) q1 Y⟩
 |all =>
  obtain⟨e,r,er,q1,Y⟩:=plain 1 (by decide) J;rw[er];exact⟨λz=>(by cases z),rD (F8 g.calm) Z (g.blt "all" (by decide)) DZ (by decide) (by decide) q1 Y⟩
 |intOf =>
  obtain⟨e,r,er,q1,Y⟩:=plain 1 (by decide) J;rw[er];exact⟨λz=>(by cases z),yt F6 Z (g.blt "int" (by decide)) yz (by decide) (by decide) q1 Y⟩
 |boolOf=>exact absurd J tf
 |max2=>exact absurd J tf
 |min2=>exact absurd J tf
 |isInt=>exact⟨λz=>(by cases z),inst "int" Z rfl rfl yz (g.blt "int" (by decide)) (by decide) (by decide) J⟩
 |isBool=>exact⟨λz=>(by cases z),inst "bool" Z rfl rfl A1 (g.blt "bool" (by decide)) (by decide) (by decide) J⟩
 |isStr=>exact absurd J tf
 |isList=>exact absurd J tf
 |isTuple=>exact⟨λz=>(by cases z),inst "tuple" Z rfl rfl mW (g.blt "tuple" (by decide)) (by decide) (by decide) J⟩
 |sortedSet =>
  obtain⟨m,y,gg,p2,pos2,ee,ea,h2,h3,hp,bc⟩:=c1 J;rw[ee,ea];have q:=rE (p:=p) (p2:=p2) (pos:=pos) (pos2:=pos2) g rfl h2 Z h3 hp bc;exact⟨λ_=>q,eS (eN (.inr (.inr (.inl rfl)))) q⟩
 |sum =>
  obtain⟨e,r,er,q1,Y⟩:=plain 1 (by decide) J;rw[er];exact⟨λz=>(by cases z),rD (F9 g.calm) Z (g.blt "sum" (by decide)) PyProof.Rows.boot_sum (by decide) (by decide) q1 Y⟩
 |max1 =>
  obtain⟨e,r,er,q1,Y⟩:=plain 1 (by decide) J;rw[er];exact⟨λz=>(by cases z),rD (DK g.calm) Z (g.blt "max" (by decide)) D1 (by decide) (by decide) q1 Y⟩
 |sortedKeys=>exact absurd J tf
 |valuesOf =>
  refine bf λZq kq=>?_
  obtain⟨y,ap,cp,ea,h3,h4,h5,h6⟩:=A3 J;obtain⟨m,ee⟩:=KY.mp h6;have hy:=h1 m y ee h5;refine kq ?_;rw[ee,ea];have q:=yC (p:=p) (ap:=ap) (cp:=cp) (pos:=pos) g rfl Z hy (base_of h3) (by rw[h4];simp);exact⟨λ_=>q,eS (eN (.inr (.inr (.inr (.inr rfl))))) q⟩
 |min1=>cases J
 |tupleRev=>cases J
 |lenSet =>
  obtain⟨m,y,gg,p2,pos2,ee,ea,h2,h3,hp,bc⟩:=c1 J;rw[ee,ea];exact⟨λz=>(by cases z),yA g rfl h2 Z h3 hp bc⟩
 |lenSetSub =>
  refine bf λZq kq=>?_
  obtain⟨gg,y,cP,y',p2,Y,p3,q3,q4,ea,a1,a2,a3,a4,a5,a6⟩:=D7 J;obtain⟨m,m',ee⟩:=A2 a6;obtain⟨b1,b2⟩:=bM m m' y y' ee a5;refine kq ?_;rw[ee]at a5 ⊢;rw[ea];exact⟨λz=>(by cases z),rF g rfl a1 a3 Z a2 a4 b1 b2 (cj a5).1.2 (cj (cj a5).2).1.2⟩
def Gq(g:Gf X T k cal)(hk:PE X l (tE X.K cal mk))(ha:PE X r (tE X.K cal Y))(hm:behindInMarks (if neg=true then CmpOp.NotIn else CmpOp.In) r=false) :
  PE X (.Compare l [if neg=true then CmpOp.NotIn else CmpOp.In] [r] pos) (tE X.K cal (.dIn neg mk Y))/\PT X (.Compare l [if neg=true then CmpOp.NotIn else CmpOp.In] [r] pos) (tT X.K cal (.dIn neg mk Y)):=by
 have hu:X.A.units+1<cLine:=by have:=g.units;omega
 have go:∀{σ}{H}{Q:Bool->Hp->Prop},(∃B E O M b,aN X.K B E O H M σ/\ev cal (.dIn neg mk Y) M=some (.bl b)/\∀H',ai H H'->Q b H') ->
   tE X.K cal mk σ H λy H1=>tE X.K cal Y σ H1 λx H2=>∃a o,x=.ref a/\lX H2 a y o/\Q (if neg=true then !o.isSome else o.isSome) H2:=λ{σ H Q} q=>by
  refine bf λZq kq=>?_
  obtain⟨B,E,O,M,b,st,J,q⟩:=q;rw[ev]at J;simp only[rp]at J;obtain⟨y,J,x,e2,Z⟩:=J;refine kq ?_;refine⟨B,E,O,M,y,st,J,λuy H1 s1 g1=>⟨B,E,O,M,x,st.mono s1,e2,λux H2 s2 g2=>?_⟩⟩;rw[IL]at Z;obtain⟨o,Z,e4⟩:=Z;cases x<;>try (cases Z;done)
  obtain⟨a,rfl,ha⟩:=g2.1.dI;refine⟨a,_,rfl,qa Z ha (g1.1.mono s2),?_⟩;rw[isSome_map,PV.bl.inj e4];exact q H2 (s1.trans s2)
 have ar:∀{σ}{H}{Q},tE X.K cal (.dIn neg mk Y) σ H Q->∃B E O M b,aN X.K B E O H M σ/\ev cal (.dIn neg mk Y) M=some (.bl b)/\∀H',ai H H'->Q (.bl b) H':=λ{σ H Q} q=>by
  refine bf λZq kq=>?_
  obtain⟨B,E,O,M,v,st,J,q⟩:=q;have hb:∃b,v=.bl b:=by
   rw[ev]at J;simp only[rp]at J;obtain⟨y,_,x,_,Z⟩:=J;rw[IL]at Z;obtain⟨o,_,e4⟩:=Z;exact⟨_,e4.symm⟩
  obtain⟨b,rfl⟩:=hb;refine kq ?_;exact⟨B,E,O,M,b,st,J,λH' s=>q _ H' s (.of (d9 _ _))⟩
 have aL:∀{σ}{H}{Q},tT X.K cal (.dIn neg mk Y) σ H Q->∃B E O M b,aN X.K B E O H M σ/\ev cal (.dIn neg mk Y) M=some (.bl b)/\∀H',ai H H'->Q b H':=λ{σ H Q} q=>by
  refine bf λZq kq=>?_
  obtain⟨B,E,O,M,b,st,J,q⟩:=q;unfold evB at J;simp only[rp]at J;obtain⟨v,J,e2⟩:=J;refine kq ?_;cases v<;>simp only[bg,reduceCtorEq,ID]at e2
  subst e2;exact⟨B,E,O,M,_,st,J,q⟩
 cases neg with
 |false =>
  refine⟨(wI (xb hu hk ha) hm).imp λσ H Q q=>?_,(wJ (xb hu hk ha) hm).imp λσ H Q q=>?_⟩
  .exact go (Q:=λb H'=>Q (.bl b) H') (ar q)
  .exact go (Q:=λb H'=>∃c,V.bl b=.bl c/\Q c H') (by
    obtain⟨B,E,O,M,b,st,J,q⟩:=aL q;exact⟨B,E,O,M,b,st,J,λH' s=>⟨b,rfl,q H' s⟩⟩)
 |true =>
  refine⟨(wI (oB hu hk ha) hm).imp λσ H Q q=>?_,(wJ (oB hu hk ha) hm).imp λσ H Q q=>?_⟩
  .exact go (Q:=λb H'=>Q (.bl b) H') (ar q)
  .exact go (Q:=λb H'=>∃c,V.bl b=.bl c/\Q c H') (by
    obtain⟨B,E,O,M,b,st,J,q⟩:=aL q;exact⟨B,E,O,M,b,st,J,λH' s=>⟨b,rfl,q H' s⟩⟩)
def D_{ma mk md:ME}{o e f:Expr}{ap cp:Pos}(g:Gf X T k cal)(ha:PE X o (tE X.K cal ma))(hk:PE X e (tE X.K cal mk))(hd:PE X f (tE X.K cal md))(hb:rg o=true)(hl:(ap.endLine==cp.line)=true)(h1:aC e=true)(h2:aC f=true) :
  PE X (.Call (.Attribute o "get" ap) [e,f] [] cp) (tE X.K cal (.dget ma mk md)):=by
 have hu:X.A.units+1<cLine:=by have:=g.units;omega
 have J:starEach [e,f] X.env=[(false,eval e X.env),(false,eval f X.env)]:=by rw[bH h1,bH h2];rfl
 have m:M2 X o "get" ap e f cp:=by
  refine⟨base_of hb,?_,hl,?_⟩
  .rw[J];rfl
  .rw[J];rfl
 refine(xj hu ha hk hd m).imp λσ H Q q=>?_
 refine bf λZq kq=>?_
 obtain⟨B,E,O,M,v,st,Y,q⟩:=q;rw[ev]at Y;simp only[rp,IL]at Y;obtain⟨x,Y,y,e2,z,e3,Z,e4,sz,e5,e6⟩:=Y;refine kq ?_;cases x<;>try (cases e4;done)
 refine⟨B,E,O,M,_,st,Y,λux H1 s1 g1=>?_⟩;obtain⟨a,rfl,hH⟩:=g1.1.dI;refine⟨a,rfl,pW hH,B,E,O,M,_,st.mono s1,e2,λuy H2 s2 g2=>⟨B,E,O,M,z,st.mono (s1.trans s2),e3,λuz H3 s3 g3=>?_⟩⟩;refine⟨_,qa e4 (ai.rdD s3 (ai.rdD s2 hH)) (g2.1.mono s3),?_⟩;rw[yB e5 g3.1];have e7:(Z.map Sc.v).getD sz.v=(Z.getD sz).v:=by cases Z<;>rfl
 rw[e7];refine q _ H3 (s1.trans (s2.trans s3)) ?_;rw[<- e6];exact .of (sP _ _ _)
def Gs(g:Gf X T k cal)(ha:PE X o (tE X.K cal ma))(hk:PE X i (tE X.K cal mk))(hs:bX i=true):PE X (.Subscript o i pos) (tE X.K cal (.dat ma mk)):=by
 have hu:X.A.units+1<cLine:=by have:=g.units;omega
 refine(As hu ha hk (by cases i<;>first|(intro _ _;rfl)|(simp[bX]at hs))).imp λσ H Q q=>?_
 refine bf λZq kq=>?_
 obtain⟨B,E,O,M,v,st,J,q⟩:=q;rw[ev]at J;simp[rp,IL]at J;obtain⟨x,J,y,e2,oo,Y,sz,rfl,e6⟩:=J;refine kq ?_;cases x<;>try (cases Y;done)
 refine⟨B,E,O,M,_,st,J,λux H1 s1 g1=>?_⟩;obtain⟨a,rfl,hH⟩:=g1.1.dI;refine⟨B,E,O,M,_,st.mono s1,e2,λuy H2 Z g2=>?_⟩;refine⟨a,_,rfl,qa Y (ai.rdD Z hH) g2.1,q _ H2 (s1.trans Z) ?_⟩;rw[<- e6];exact .of (sP _ _ _)
end
mutual
theorem aw{T:Tab}{k:Nat}{cal:Cal}:∀(me:ME) {X:Cx}{e:Expr},Gf X T k cal->chk T me X.N X.env.scope e=true->PE X e (tE X.K cal me)/\PT X e (tT X.K cal me)
 | .var i,X,e,g,h=>by
  replace h:=au h
  obtain⟨x,w,h⟩:=h;obtain rfl:=ff w;exact⟨BQ h,bY (BQ h) rfl⟩
 | .bor i,X,e,g,h=>by
  replace h:=au h
  obtain⟨x,w,h⟩:=h;obtain rfl:=ff w;exact⟨BR h,bY (BR h) rfl⟩
 | .cst v,X,e,g,h=>by
  replace h:=au h
  obtain⟨x,w,h⟩:=h;obtain rfl:=Dc w;exact⟨BS h,bY (BS h) rfl⟩
 | .glob x v,X,e,g,h=>by
  replace h:=au h
  obtain⟨y,w,h⟩:=h;obtain rfl:=ff w;exact⟨yh g h,bY (yh g h) rfl⟩
 | .bin op a b,X,e,g,h=>by
  replace h:=au h
  obtain⟨⟨l,o,r,pos⟩,w,h⟩:=h;obtain rfl:=xU w;simp only[tr,IS]at h;obtain⟨⟨rfl,h1⟩,h2⟩:=h;have p:=Gc (op:=op) (pos:=pos) (aw a g h1).1 (aw b g h2).1;exact⟨p,bY p rfl⟩
 | .neg _,X,e,g,h=>absurd (show false=true from h) tf
 | .not a,X,e,g,h=>by
  replace h:=au h
  obtain⟨⟨o,x,pos⟩,w,h⟩:=h;obtain rfl:=De w
  replace h:=IW.mp h
  obtain⟨h2,h⟩:=h;obtain rfl:=eq_of_beq h2;exact⟨Ge (aw a g h).1,Gg (aw a g h).2⟩
 | .and a b,X,e,g,h=>by
  replace h:=au h
  obtain⟨⟨o,vs,pos⟩,w,h⟩:=h;obtain rfl:=xW w
  replace h:=IW.mp h
  obtain⟨h2,h⟩:=h;obtain rfl:=eq_of_beq h2;rcases uE h with⟨x,y,rfl,h1,h2⟩|⟨x,y,z,r,rfl,h1,h2⟩
  .exact⟨BT (aw a g h1).1 (r_ (aw b g h2).1),BV (aw a g h1).2 (Ab (aw b g h2).2)⟩
  .exact⟨BT (aw a g h1).1 (aw b g h2).1,BV (aw a g h1).2 (BU (aw b g h2).2)⟩
 | .or a b,X,e,g,h=>by
  replace h:=au h
  obtain⟨⟨o,vs,pos⟩,w,h⟩:=h;obtain rfl:=xW w
  replace h:=IW.mp h
  obtain⟨h2,h⟩:=h;obtain rfl:=eq_of_beq h2;rcases uE h with⟨x,y,rfl,h1,h2⟩|⟨x,y,z,r,rfl,h1,h2⟩
  .exact⟨Gh (aw a g h1).1 (r_ (aw b g h2).1),Gi (aw a g h1).2 (wK (aw b g h2).2)⟩
  .exact⟨Gh (aw a g h1).1 (aw b g h2).1,Gi (aw a g h1).2 (BU (aw b g h2).2)⟩
 | .ite c a b,X,e,g,h=>by
  replace h:=au h
  obtain⟨q,w,h⟩:=h;obtain rfl:=Dg w;simp only[tr,Jr]at h;obtain⟨⟨⟨⟨h1,h2⟩,J⟩,h4⟩,h5⟩:=h;exact⟨Gj (aw c g h1).2 (aw a g h2).1 (aw b g J).1 h4 h5,Gk (aw c g h1).2 (aw a g h2).2 (aw b g J).2⟩
 | .cmp op a b,X,e,g,h=>by
  replace h:=au h
  obtain⟨⟨l,o,r⟩,w,h⟩:=h;obtain⟨pos,rfl⟩:=uC w;simp only[tr,IS,Jr]at h;obtain⟨⟨⟨rfl,h1⟩,h2⟩,J⟩:=h;exact Gm g (aw a g h1).1 (aw b g h2).1 J
 | .chain _ _ _ _ _,X,e,g,h=>absurd (show false=true from h) tf
 | .tup es,X,e,g,h=>by
  replace h:=au h
  obtain⟨q,w,h⟩:=h;obtain rfl:=Dd w;obtain⟨h1,h2⟩:=IW.mp h;have p:=Gn (j:=q.2.1) (pos:=q.2.2) (sounds es g h1) h2;exact⟨p,bY p rfl⟩
 | .lst es,X,e,g,h=>by
  replace h:=au h
  obtain⟨q,w,h⟩:=h;obtain rfl:=xV w
  replace h:=IW.mp h
  have p:=λ(pos:Pos)=>eS (λM v hv=>by
   rw[ev,rp]at hv;obtain⟨vs,_,hv⟩:=hv;split at hv
   .cases hv;exact⟨_,rfl⟩
   .cases hv) (BW (pos:=pos) (sounds es g h.1) h.2)
  exact⟨p _,bY (p _) rfl⟩
 | .idx a i,X,e,g,h=>by
  replace h:=au h
  obtain⟨q,w,h⟩:=h;obtain rfl:=pS w;simp only[tr]at h;have p:=Go (pos:=q.2.2) (aw a g h.1.1).1 (aw i g h.1.2).1 h.2;exact⟨p,bY p rfl⟩
 | .slice a lo hi,X,e,g,h=>by
  replace h:=au h
  obtain⟨⟨v,l,u⟩,w,h⟩:=h;obtain⟨p2,pos,rfl⟩:=AI w;simp only[tr]at h;obtain⟨⟨h1,h2⟩,J⟩:=h;have bd:∀{b:ME}{o:Option Expr},(∀e,chk T b X.N X.env.scope e=true->PE X e (tE X.K cal b))->pT (λe=>chk T b X.N X.env.scope e) (kh b) o=true->PO X o (tB1 X.K cal b):=λ{b o} hb h2=>by
   cases o with
   |none=>exact DU h2
   |some l =>
    simp only[pT,tr,Jr]at h2;exact DV (hb l h2.1) h2.2
  have p:=AW (p2:=p2) (pos:=pos) (aw a g h1).1 (bd (λe he=>(aw lo g he).1) h2) (bd (λe he=>(aw hi g he).1) J);exact⟨p,bY p rfl⟩
 | .blt b es,X,e,g,h=>by
  replace h:=au h
  obtain⟨⟨x,args⟩,w,h⟩:=h;obtain⟨p,pos,rfl⟩:=jp w;simp only[tr,IS]at h;obtain⟨⟨hx,hg⟩,ha⟩:=h;have q:=(rH (p:=p) (pos:=pos) g hx hg ha (λxs Y=>⟨sounds es g Y,cD Y⟩) (λm x hm hx=>match es,hm with|[m'],rfl=>(aw m' g (cj hx).1.1).1) (λa b x x' hm hx=>match es,hm with|[m1,m2],rfl=>⟨(aw m1 g (cj hx).1.1).1,(aw m2 g (cj (cj hx).2).1.1).1⟩)).2;exact⟨q,bY q rfl⟩
 | .call f es,X,e,g,h=>by
  replace h:=au h
  obtain⟨⟨x,args⟩,w,h⟩:=h;obtain⟨p,pos,rfl⟩:=jp w;simp only[tr,IS]at h;obtain⟨⟨⟨h1,h2⟩,J⟩,h4⟩:=h;obtain⟨hs,hl⟩:=cD h4;have q:=DX (p:=p) (pos:=pos) g h1 h2 J (soundA es g h4) hs hl;exact⟨q,bY q rfl⟩
 | .callD _ _ _,X,e,g,h=>absurd (show false=true from h) tf
 | .dIn neg mk ma,X,e,g,h=>by
  replace h:=au h
  obtain⟨⟨l,o,r⟩,w,h⟩:=h;obtain⟨pos,rfl⟩:=uC w;simp only[tr,IS,Jr]at h;obtain⟨⟨⟨rfl,h1⟩,h2⟩,J⟩:=h;exact Gq g (aw mk g h1).1 (aw ma g h2).1 J
 | .dat ma mk,X,e,g,h=>by
  replace h:=au h
  obtain⟨q,w,h⟩:=h;obtain rfl:=pS w;simp only[tr]at h;have p:=Gs (pos:=q.2.2) g (aw ma g h.1.1).1 (aw mk g h.1.2).1 h.2;exact⟨p,bY p rfl⟩
 | .dget ma mk md,X,e,g,h=>by
  replace h:=au h
  obtain⟨⟨o,m,ap,args,cp⟩,w,h⟩:=h;obtain rfl:=sF w
  replace h:=au h
  obtain⟨⟨x,y⟩,w,h⟩:=h;obtain rfl:=uB w;simp only[tr,IS]at h;obtain⟨⟨⟨⟨⟨⟨⟨rfl,h1⟩,h2⟩,J⟩,h4⟩,h5⟩,h6⟩,h7⟩:=h;have p:=D_ (ap:=ap) (cp:=cp) g (aw ma g J).1 (aw mk g h4).1 (aw md g h5).1 h1 (by rw[h2];simp) h6 h7;exact⟨p,bY p rfl⟩
 | .comp k' src js cond elt,X,e,g,h=>by
  replace h:=ki h
  obtain⟨e,x,px,it,ifs,scope,pos,rfl,h⟩:=h;simp only[tr,Jr]at h;obtain⟨⟨⟨⟨h1,h2⟩,J⟩,h4⟩,h5⟩:=h;have hw:=kz (tg:=.Name x px) (λz=>by cases z) g h2 (λxs Y=>⟨sounds src g Y,cD Y⟩) (λm x hm hx=>match src,hm with|[m'],rfl=>(aw m' g (cj hx).1.1).1);have q:=eS rG (sL (pos:=pos) g h1 hw.1 hw.2 (λZ ac C fp=>sO J λc hc=>(aw cond (g.blk x (fg X.N js) scope Z ac C fp) hc).2) (λZ ac C fp=>(aw elt (g.blk x (fg X.N js) scope Z ac C fp) h4).1) h5);exact⟨q,bY q rfl⟩
theorem sounds{T:Tab}{k:Nat}{cal:Cal}:∀(ms:List ME) {X:Cx}{es:List Expr},Gf X T k cal->chks T ms X.N X.env.scope es=true->PA X es (tEs X.K cal ms)
 | [],X,es,g,h=>by
  cases es with
  |nil=>exact AV
  |cons _ _=>cases h
 |m::ms,X,es,g,h=>by
  cases es with
  |nil=>cases h
  |cons e es =>
   replace h:=cj h
   exact yo (aw m g h.1.1).1 (sounds ms g h.2) h.1.2
theorem soundA{T:Tab}{k:Nat}{cal:Cal}:∀(ms:List ME) {X:Cx}{es:List Expr},Gf X T k cal->chks T ms X.N X.env.scope es=true->PA X es (tAs X.K cal ms)
 | [],X,es,g,h=>by
  cases es with
  |nil=>exact yp
  |cons _ _=>cases h
 |m::ms,X,es,g,h=>by
  cases es with
  |nil=>cases h
  |cons e es =>
   replace h:=cj h
   have hs:=soundA ms g h.2;cases J:ba m with
   |false=>exact v4 J (aw m g h.1.1).1 hs h.1.2
   |true =>
    obtain⟨i,rfl⟩:=sI J;obtain⟨x,p,rfl,h1⟩:=pU h.1.1;exact yr h1 hs
end
def Ea(g:Gf X T k cal)(h:chk T me X.N X.env.scope e=true)(hf:iX me=true):PE X e (tF X.K cal me):=by
 cases me with
 |lst es =>
  replace h:=au h
  obtain⟨q,w,h⟩:=h;obtain rfl:=xV w
  replace h:=IW.mp h
  exact BW (sounds es g h.1) h.2
 |blt b es =>
  replace h:=au h
  obtain⟨⟨x,args⟩,w,h⟩:=h;refine iI (jp w) λp pos ao=>?_
  subst ao;simp only[tr,IS]at h;obtain⟨⟨hx,hg⟩,ha⟩:=h;exact(rH (p:=p) (pos:=pos) g hx hg ha (λxs J=>⟨sounds es g J,cD J⟩) (λm x hm hx=>match es,hm with|[m'],rfl=>(aw m' g (cj hx).1.1).1) (λa b x x' hm hx=>match es,hm with|[m1,m2],rfl=>⟨(aw m1 g (cj hx).1.1).1,(aw m2 g (cj (cj hx).2).1.1).1⟩)).1 hf
 |comp k' src js cond elt =>
  replace h:=ki h
  obtain⟨e,x,px,it,ifs,scope,pos,rfl,h⟩:=h;simp only[tr,Jr]at h;obtain⟨⟨⟨⟨h1,h2⟩,h3⟩,h4⟩,h5⟩:=h;have hw:=kz (tg:=.Name x px) (λz=>by exact dq z) g h2 (λxs J=>⟨sounds src g J,cD J⟩) (λm x hm hx=>match src,hm with|[m'],rfl=>(aw m' g (cj hx).1.1).1);exact sL (pos:=pos) g h1 hw.1 hw.2 (λY Z C fp=>sO h3 λc hc=>(aw cond (g.blk x (fg X.N js) scope Y Z C fp) hc).2) (λY Z C fp=>(aw elt (g.blk x (fg X.N js) scope Y Z C fp) h4).1) h5
 | _=>exact dq hf
noncomputable def Gu:MV->Bool
 | .brw _=>true
 | .brwD _=>true
 | _=>false
def uU(h1:eM m=true)(h2:Gu m=true):False:=by cases m<;>first|(exact dq h2;done)|(exact dq h1;done)
structure bZ(B:Hp)(O O':List Addr)(M C:Rho)(σ σ':St):Prop where
 stay:∀a,B a≠none->a∈O->a∈O'
 new:∀a∈O',a∈O\/B a=none
 brw:∀(i:Nat) (m:MV),Gu m=true->C[i]?=some (some m)->M[i]?=some (some m)/\σ'[i]?=σ[i]?
 len:C.length=M.length
def bZ.refl{B:Hp}{O:List Addr}{M:Rho}{σ:St}:bZ B O O M M σ σ:=⟨λ_ _ h=>h,λ_ h=>.inl h,λ_ _ _ h=>⟨h,rfl⟩,rfl⟩
theorem bZ.trans{B:Hp}{O O1 O2:List Addr}{M J Y:Rho}{σ Z ac:St}(a:bZ B O O1 M J σ Z)(b:bZ B O1 O2 J Y Z ac):bZ B O O2 M Y σ ac where
 stay:=λx h1 h2=>b.stay x h1 (a.stay x h1 h2)
 new:=λx h=>(b.new x h).elim (a.new x) .inr
 brw:=λi xs hm h=>by
  obtain⟨h1,e1⟩:=b.brw i xs hm h;obtain⟨h2,e2⟩:=a.brw i xs hm h1;exact⟨h2,e1.trans e2⟩
 len:=b.len.trans a.len
def gh(K:Mx)(B:Hp)(E O:List Addr)(M:Rho)(σ:St)(D:jP):R->Prop
 | .next C=>∀J H' Y,aN K B E Y H' C J->bZ B O Y M C σ J->D.nx J H'
 | .brk C=>∀J H' Y,aN K B E Y H' C J->bZ B O Y M C σ J->D.bk J H'
 | .cont C=>∀J H' Y,aN K B E Y H' C J->bZ B O Y M C σ J->D.ct J H'
 | .ret v=>∀u H',ai B H'->Rep K (aj H' E) v u->D.rt u H'
 | .retF xs=>∀p us H',ai B H'->B p=none->H' p=some (.lst us)->Reps K (aj H' (p::E)) xs us->D.rt (.ref p) H'
 | .bad=>False
theorem gh.trans{K:Mx}{B:Hp}{E O O':List Addr}{M C:Rho}{σ Y:St}{D:jP}{r:R}(h:gh K B E O M σ D r)(k:bZ B O O' M C σ Y):gh K B E O' C Y D r:=by
 cases r with
 |next Z=>exact λJ H2 O2 st k2=>h J H2 O2 st (k.trans k2)
 |brk Z=>exact λJ H2 O2 st k2=>h J H2 O2 st (k.trans k2)
 |cont Z=>exact λJ H2 O2 st k2=>h J H2 O2 st (k.trans k2)
 |ret v=>exact h
 |bad=>exact h
 |retF xs=>exact h
noncomputable def tS(K:Mx)(cal:Cal)(m:MS):TS:=λD σ H=>∃B E O M,aN K B E O H M σ/\gh K B E O M σ D (ex cal m M)
noncomputable def tSs(K:Mx)(cal:Cal)(ms:List MS):TS:=λD σ H=>∃B E O M,aN K B E O H M σ/\gh K B E O M σ D (exs cal ms M)
section
variable{K:Mx}{B H H':Hp}{E O:List Addr}{M:Rho}{σ:St}
def af(h:i<M.length):(put M i m)[i]?=some (some m):=by unfold put;exact Jq h
def aa(h:i≠j):(put M i m)[j]?=M[j]?:=by unfold put;exact IV h
def put_len :(put M i m).length=M.length:=by unfold put;exact JW
def c8.view{Y:List Addr}(s:ai H H')(v:ai (aj H O) (aj H' Y))(ho:∀b∈O,b∈Y){J:List (List PV)}{bs:List Addr}(h:c8 K H O B J bs):c8 K H' Y B J bs:=by
 induction h with
 |nil=>exact .nil
 |cons h r o Z t ih=>exact .cons (s _ _ h) (Reps.mono v _ r) (ho _ o) Z ih
theorem c8.upd{a:Addr}{ob:HO}(Y:aj (L2.upd H a ob) O=aj H O){J:List (List PV)}{bs:List Addr}(h:c8 K H O B J bs)(hn:∀b∈bs,b≠a):c8 K (L2.upd H a ob) O B J bs:=by
 induction h with
 |nil=>exact .nil
 |cons h r o Z t ih=>exact .cons (by rw[az (hn _ (.head _))];exact h) (by rw[Y];exact r) o Z (ih λb Z=>hn b (.tail _ Z))
def c8.less{Y:List Addr}(v:ai (aj H O) (aj H Y)){J:List (List PV)}{bs:List Addr}(h:c8 K H O B J bs)(ho:∀b∈bs,b∈O->b∈Y):c8 K H Y B J bs:=by
 induction h with
 |nil=>exact .nil
 |cons h r o Z t ih=>exact .cons h (Reps.mono v _ r) (ho _ (.head _) o) Z (ih λb Z=>ho b (.tail _ Z))
def c8.base{Z:Hp}{J:List (List PV)}{bs:List Addr}(h:c8 K H O B J bs)(hb:∀b∈bs,b∈O->B b=none->Z b=none):c8 K H O Z J bs:=by
 induction h with
 |nil=>exact .nil
 |cons h r o Y t ih=>exact .cons h r o (hb _ (.head _) o Y) (ih λb h=>hb b (.tail _ h))
def aN.store(st:aN K B E O H M σ){i:Nat}{v:PV}{u:V}(hi:i<σ.length)(r:Rep K (aj H O) v u):aN K B E O H (put M i (.val v)) (σ.set i (some u))/\bZ B O O M (put M i (.val v)) σ (σ.set i (some u)):=by
 have J:i<M.length:=by rw[st.len];exact hi
 refine⟨⟨st.keep,st.here,st.sub,st.old,by rw[put_len,JW];exact st.len,λj m e=>?_,λa b xs ys ad ao Z e2 o1 o2 e3 e4=>?_
  ,fc st.inn (λj a3 e=>by
   have Y:i≠j:=λz=>by subst z;rw[af J]at e;cases e
   rw[aa Y]at e;exact⟨e,IV Y,λ_ _ _ h=>h⟩) λj m c e _ o es=>.inl (by
   have Y:i≠j:=λz=>by subst z;rw[af J]at e;cases e;cases o
   rw[aa Y]at e;rw[IV Y]at es;exact⟨m,e,o,es⟩)
  ⟩,⟨λ_ _ h=>h,λ_ h=>.inl h,λj xs ar e=>?_,put_len
  ⟩⟩
 .by_cases Y:i=j
  .subst Y;rw[af J]at e;cases e;exact⟨u,Jq hi,r⟩
  .rw[aa Y]at e;obtain⟨w,Z,q⟩:=st.slot j m e;exact⟨w,by rw[IV Y];exact Z,q⟩
 .have h1:i≠a:=λz=>by subst z;rw[af J]at Z;cases Z;cases o1
  have h2:i≠b:=λz=>by subst z;rw[af J]at e2;cases e2;cases o2
  rw[aa h1]at Z;rw[aa h2]at e2;rw[IV h1]at e3;rw[IV h2]at e4;exact st.apart a b xs ys ad ao Z e2 o1 o2 e3 e4
 .have Y:i≠j:=λz=>by subst z;rw[af J]at e;cases e;cases ar
  rw[aa Y]at e;exact⟨e,IV Y⟩
def aN.storeM(st:aN K B E O H M σ){i:Nat}{mm:MV}{p:Addr}(hi:i<σ.length)(s:ai H H')(hp:H p=none)(e:H' p≠none)(hm:eM mm=true)
  (r:B p=none->e_ K B (p::O) H' mm (.ref p))
  (bc:isL mm=false:=by rfl)
  :
  aN K B E (p::O) H' (put M i mm) (σ.set i (some (.ref p)))/\bZ B O (p::O) M (put M i mm) σ (σ.set i (some (.ref p))):=by
 have a2:i<M.length:=by rw[st.len];exact hi
 have a5:B p=none:=st.keep.free hp;have ar:ai (aj H O) (aj H' (p::O)):=bC s λb hb=>by
  rcases IM.mp hb with rfl|hb
  .exact .inr hp
  .exact .inl hb
 refine⟨⟨st.keep.trans s,λa Y=>?_,λa Y=>JG _ (st.sub a Y),st.old,by rw[put_len,JW];exact st.len,λj m ej=>?_,λa b xs ys ad a6 e1 J o1 o2 e3 e4=>?_
  ,fc st.inn (λj br e=>by
   have Z:i≠j:=λz=>by subst z;rw[af a2]at e;cases e;cases bc
   rw[aa Z]at e;refine⟨e,IV Z,λa us e1 J=>?_⟩;obtain⟨u,e3,a',bs,rfl,q,_⟩:=st.slot j _ e;rw[e1]at e3;cases e3;have:=s _ _ q;rw[J]at this;rw[q,this]) λj m c e _ o es=>by
   by_cases Z:i=j
   .subst Z;rw[Jq hi]at es;cases es;refine .inr λk br a us f1 f2 f3 z=>?_
    obtain⟨u,e3,a',bs,rfl,q,r,_⟩:=st.slot k _ f1;rw[f2]at e3;cases e3;rw[q]at f3;cases f3;exact(r.at p (fC.mp z)).1 hp
   .rw[aa Z]at e;rw[IV Z]at es;exact .inl ⟨m,e,o,es⟩
  ⟩,⟨λ_ _ h=>JG _ h,λa Y=>?_,λj xs bB ej=>?_,put_len
  ⟩⟩
 .rcases IM.mp Y with rfl|Y
  .exact e
  .exact λz=>st.here a Y (s.free z)
 .by_cases Z:i=j
  .subst Z;rw[af a2]at ej;cases ej;exact⟨_,Jq hi,r a5⟩
  .rw[aa Z]at ej;obtain⟨w,e1,q⟩:=st.slot j m ej;refine⟨w,by rw[IV Z];exact e1,?_⟩;cases m with
   |val v=>exact Rep.mono ar _ q
   |own ys=>obtain⟨a,ws,J,h1,h2,h3,h4⟩:=q;exact⟨a,ws,J,s _ _ h1,Reps.mono ar _ h2,JG _ h3,h4⟩
   |brw ys=>obtain⟨a,ws,J,h1,h2⟩:=q;exact⟨a,ws,J,h1,Reps.mono ar _ h2⟩
   |ownD ys=>obtain⟨a,J,h1,h3,h4⟩:=q;exact⟨a,J,h1.move (s _) ar,JG _ h3,h4⟩
   |ownL b0 =>
    obtain⟨a,bs,J,h1,h2,h3,h4,h5⟩:=q;exact⟨a,bs,J,s _ _ h1,h2.view s ar λb hb=>JG _ hb,JG _ h3,h4,h5⟩
   |brwD ys=>exact q
 .have a0:∀(j:Nat) (zs:MV) (ad:Addr),M[j]?=some (some zs)->eM zs=true->σ[j]?=some (some (.ref ad))->ad≠p:=λj zs ad h1 ho h2 z=>by
   obtain⟨w,e1,q⟩:=st.slot j _ h1;rw[h2]at e1;cases e1;cases zs with
   |own zs =>
    obtain⟨a,ws,J,h1,_⟩:=q;cases J;rw[z,hp]at h1;cases h1
   |ownD zs =>
    obtain⟨a,J,h1,_⟩:=q;cases J;obtain⟨o,h1⟩:=h1.here;rw[z,hp]at h1;cases h1
   |ownL zs =>
    obtain⟨a,bs,J,h1,_⟩:=q;cases J;rw[z,hp]at h1;cases h1
   |val _=>cases ho
   |brw _=>cases ho
   |brwD _=>cases ho
  by_cases Y:i=a
  .subst Y;have hb:i≠b:=a6;rw[Jq hi]at e3;rw[aa hb]at J;rw[IV hb]at e4;cases e3;exact a0 b ys _ J o2 e4 rfl
  .by_cases hb:i=b
   .subst hb;rw[Jq hi]at e4;rw[aa Y]at e1;rw[IV Y]at e3;cases e4;exact a0 a xs _ e1 o1 e3 rfl
   .rw[aa Y]at e1;rw[aa hb]at J;rw[IV Y]at e3;rw[IV hb]at e4;exact st.apart a b _ _ ad a6 e1 J o1 o2 e3 e4
 .rcases IM.mp Y with rfl|Y
  .exact .inr a5
  .exact .inl Y
 .have Z:i≠j:=λz=>by subst z;rw[af a2]at ej;cases ej;exact uU hm bB
  rw[aa Z]at ej;exact⟨ej,IV Z⟩
def aN.storeOwn(st:aN K B E O H M σ){i:Nat}{xs:List PV}{p:Addr}{us:List V}(hi:i<σ.length)(s:ai H H')(J:H p=none)(e:H' p=some (.lst us))(r:Reps K (aj H' (p::O)) xs us) :
  aN K B E (p::O) H' (put M i (.own xs)) (σ.set i (some (.ref p)))/\bZ B O (p::O) M (put M i (.own xs)) σ (σ.set i (some (.ref p))):=
 st.storeM hi s J (by rw[e];simp) rfl λY=>⟨p,us,rfl,e,r,J6,Y⟩
def aN.changeM(st:aN K B E O H M σ){i:Nat}{m0 m1:MV}{a:Addr}{ob:HO}(e:M[i]?=some (some m0))(o0:eM m0=true)(o1:eM m1=true)
  (es:σ[i]?=some (some (.ref a))) (h3:a∈O) (h4:B a=none) (r:aj (upd H a ob) O=aj H O->e_ K B O (upd H a ob) m1 (.ref a))
  (br:isL m1=false:=by rfl)
  :
  aN K B E O (upd H a ob) (put M i m1) σ/\bZ B O O M (put M i m1) σ σ:=by
 have aL:i<M.length:=(II.mp e).1;have ac:aj (upd H a ob) O=aj H O:=fj h3;have Y:∀(j:Nat) (zs:MV) (ad:Addr),i≠j->M[j]?=some (some zs)->eM zs=true->σ[j]?=some (some (.ref ad))->ad≠a:=λj zs ad Z q1 o2 q2 z=>by
  subst z;exact st.apart i j m0 zs ad Z e q1 o0 o2 es q2
 refine⟨⟨λb u eb=>?_,λb hb=>?_,st.sub,st.old,by rw[put_len];exact st.len,λj m J=>?_,λc d ps qs ad bG e1 e2 p1 p2 e3 e4=>?_
  ,fc st.inn (λj b4 J=>by
   have Z:i≠j:=λz=>by subst z;rw[af aL]at J;cases J;cases br
   rw[aa Z]at J;refine⟨J,rfl,λb us e1 e2=>?_⟩;rw[az (Y j _ b Z J rfl e1)]at e2;exact e2) λj m c J _ o ec=>.inl (by
   by_cases Z:i=j
   .subst Z;exact⟨m0,e,o0,ec⟩
   .rw[aa Z]at J;exact⟨m,J,o,ec⟩)
  ⟩,⟨λ_ _ h=>h,λ_ h=>.inl h,λj zs bL J=>?_,put_len
  ⟩⟩
 .rw[az (bt eb h4)];exact st.keep b u eb
 .unfold upd;split
  .simp
  .exact st.here b hb
 .by_cases Z:i=j
  .subst Z;rw[af aL]at J;cases J;exact⟨_,es,r ac⟩
  .rw[aa Z]at J;obtain⟨w,ew,q⟩:=st.slot j m J;refine⟨w,ew,?_⟩;cases m with
   |val v=>show Rep K (aj (upd H a ob) O) v w;rw[ac];exact q
   |own zs =>
    obtain⟨ad,ws,rfl,q1,q2,q3,q4⟩:=q;refine⟨ad,ws,rfl,?_,by rw[ac];exact q2,q3,q4⟩;rw[az (Y j (.own zs) ad Z J rfl ew)];exact q1
   |ownD zs =>
    obtain⟨ad,rfl,q1,q3,q4⟩:=q;refine⟨ad,rfl,q1.move (λo eo=>?_) (by rw[ac];exact ai.refl _),q3,q4⟩;rw[az (Y j (.ownD zs) ad Z J rfl ew)];exact eo
   |ownL a9 =>
    obtain⟨ad,bs,rfl,q1,q2,q3,q4,q5⟩:=q;refine⟨ad,bs,rfl,?_,q2.upd ac λb hb z=>?_,q3,q4,q5⟩
    .rw[az (Y j (.ownL a9) ad Z J rfl ew)];exact q1
    .have:=(st.inn j a9 ad _ J ew q1 i m0 (λz=>Z z) e).2 a o0 es;exact this (fC.mpr (z▸hb))
   |brwD zs=>exact q
   |brw zs=>obtain⟨ad,ws,rfl,q1,q2⟩:=q;exact⟨ad,ws,rfl,q1,by rw[ac];exact q2⟩
 .have h1:∀(j:Nat) (zs:MV),(put M i m1)[j]?=some (some zs)->eM zs=true->∃zs,M[j]?=some (some zs)/\eM zs=true:=λj zs q oz=>by
   by_cases Z:i=j
   .subst Z;exact⟨m0,e,o0⟩
   .rw[aa Z]at q;exact⟨zs,q,oz⟩
  obtain⟨q1,e1,p1⟩:=h1 c ps e1 p1;obtain⟨q2,e2,p2⟩:=h1 d qs e2 p2;exact st.apart c d q1 q2 ad bG e1 e2 p1 p2 e3 e4
 .have Z:i≠j:=λz=>by subst z;rw[af aL]at J;cases J;exact uU o1 bL
  rw[aa Z]at J;exact⟨J,rfl⟩
def aN.change(st:aN K B E O H M σ){i:Nat}{xs ys:List PV}{a:Addr}{us:List V}(e:M[i]?=some (some (.own xs)))(es:σ[i]?=some (some (.ref a)))(r:Reps K (aj H O) ys us) :
  aN K B E O (upd H a (.lst us)) (put M i (.own ys)) σ/\bZ B O O M (put M i (.own ys)) σ σ:=by
 obtain⟨w,Y,a',ao,e2,h1,h2,Z,h4⟩:=st.slot i _ e;rw[es]at Y;cases Y;cases e2;exact st.changeM e rfl rfl es Z h4 λJ=>⟨a,us,rfl,aq,by rw[J];exact r,Z,h4⟩
def aN.changeD(st:aN K B E O H M σ){i:Nat}{xs ys:DD}{a:Addr}{J:HO}(e:M[i]?=some (some (.ownD xs)))(es:σ[i]?=some (some (.ref a)))(hd:aj (upd H a J) O=aj H O->DAt K (upd H a J) O a ys) :
  aN K B E O (upd H a J) (put M i (.ownD ys)) σ/\bZ B O O M (put M i (.ownD ys)) σ σ:=by
 obtain⟨w,Z,a',e2,h1,h3,h4⟩:=st.slot i _ e;rw[es]at Z;cases Z;cases e2;exact st.changeM e rfl rfl es h3 h4 λY=>⟨a,rfl,hd Y,h3,h4⟩
def aN.freeze(st:aN K B E O H M σ){i:Nat}{xs:List PV}(e:M[i]?=some (some (.own xs))):∃O',aN K B E O' H (put M i (.val (.lst xs))) σ/\bZ B O O' M (put M i (.val (.lst xs))) σ σ:=by
 obtain⟨w,es,a,us,rfl,h1,h2,h3,h4⟩:=st.slot i _ e;have ao:i<M.length:=(II.mp e).1;have ac:ai (aj H O) (aj H (O.filter λb=>decide (b≠a))):=bC (ai.refl H) λb Z=>.inl (JQ.mp Z).1
 have mem:∀b,b≠a->b∈O->b∈O.filter λb=>decide (b≠a):=λb Z ho=>JQ.mpr ⟨ho,I0 Z⟩
 refine⟨O.filter λb=>decide (b≠a),⟨st.keep,λb Z=>st.here b (JQ.mp Z).1,λb Z=>mem b (λz=>st.old b Z (z▸h4)) (st.sub b Z),st.old,by rw[put_len];exact st.len,λj m J=>?_,λc d ps qs ad a4 e1 e2 p1 p2 e3 e4=>?_
  ,fc st.inn (λj bM J=>by
   have Y:i≠j:=λz=>by subst z;rw[af ao]at J;cases J
   rw[aa Y]at J;exact⟨J,rfl,λ_ _ _ h=>h⟩) λj m c J _ o ec=>.inl (by
   have Y:i≠j:=λz=>by subst z;rw[af ao]at J;cases J;cases o
   rw[aa Y]at J;exact⟨m,J,o,ec⟩)
  ⟩,⟨λb Z ho=>mem b (λz=>Z (z▸h4)) ho,λb Z=>.inl (JQ.mp Z).1,λj zs a5 J=>?_,put_len
  ⟩⟩
 .by_cases Y:i=j
  .subst Y;rw[af ao]at J;cases J;refine⟨_,es,?_⟩;show Rep K _ (.lst xs) (.ref a);rw[Rep];refine⟨a,us,rfl,SqL.of ?_,Reps.mono ac _ h2⟩;have a6:a∉O.filter λb=>decide (b≠a):=λz=>by simpa using (JQ.mp z).2
   rw[bp a6];exact h1
  .rw[aa Y]at J;obtain⟨w,ew,q⟩:=st.slot j m J;refine⟨w,ew,?_⟩;cases m with
   |val v=>exact Rep.mono ac _ q
   |own zs =>
    obtain⟨ad,ws,rfl,q1,q2,q3,q4⟩:=q;exact⟨ad,ws,rfl,q1,Reps.mono ac _ q2,mem ad (λz=>st.apart i j (.own xs) (.own zs) a Y e J rfl rfl es (by rw[ew,z])) q3,q4⟩
   |ownD zs =>
    obtain⟨ad,rfl,q1,q3,q4⟩:=q;exact⟨ad,rfl,q1.move (λ_ eo=>eo) ac,mem ad (λz=>st.apart i j (.own xs) (.ownD zs) a Y e J rfl rfl es (by rw[ew,z])) q3,q4⟩
   |ownL a3 =>
    obtain⟨ad,bs,rfl,q1,q2,q3,q4,q5⟩:=q;refine⟨ad,bs,rfl,q1,q2.less ac λb Z ho=>mem b (λz=>?_) ho,mem ad (λz=>st.apart i j (.own xs) (.ownL a3) a Y e J rfl rfl es (by rw[ew,z])) q3,q4,q5⟩;have:=(st.inn j a3 ad _ J ew q1 i (.own xs) (λz=>Y z) e).2 a rfl es;exact this (fC.mpr (z▸Z))
   |brwD zs=>exact q
   |brw zs=>obtain⟨ad,ws,rfl,q1,q2⟩:=q;exact⟨ad,ws,rfl,q1,Reps.mono ac _ q2⟩
 .have h1:∀(j:Nat) (zs:MV),eM zs=true->(put M i (.val (.lst xs)))[j]?=some (some zs)->M[j]?=some (some zs):=λj zs oz q=>by
   by_cases Y:i=j
   .subst Y;rw[af ao]at q;cases q;cases oz
   .rw[aa Y]at q;exact q
  exact st.apart c d ps qs ad a4 (h1 c ps p1 e1) (h1 d qs p2 e2) p1 p2 e3 e4
 .have Y:i≠j:=λz=>by subst z;rw[af ao]at J;cases J;cases a5
  rw[aa Y]at J;exact⟨J,rfl⟩
end
section
open AutoSeq1 (wpAny_loadPart')
open MeetsSeq MeetsSeq2 MeetsSeq3 SeqRoads2 AutoSeq1
def qd(l)(items)(n)(b)(J)(n2)(Y)(Z)(aL:¬(!items.isEmpty&&Builtin.List.listTooLong (items.size+J.size))=true)(ac:items.size<=sizeLine)(a0:items.size+J.size<=sizeLine+1) :
  Meets (Builtin.«list.extend» ⟨[.ref l,.ref b],[]⟩) (λ_ R s=>s.heap.get? l=some { cls:=.type "list",dict:=none,data:=.seq items n,slots:=#[] }/\s.heap.get? b=some { cls:=.type "tuple",dict:=Y,data:=.seq J n2,slots:=Z }/\R (.ok (.ret Value.none)) { s with heap:=s.heap.update l (Obj.mapSeq λx=>x++J),toks:=s.toks }):=
 .of_wp λprog w A R s h=>by
  obtain⟨hp,g,d,tk,os⟩:=s;obtain⟨hl,hb,h⟩:=h;have f1:=AutoSeq1.idx_int;have f2:=Lj;have f3:=AutoSeq1.sub_list_list;have f4:=AutoSeq1.sub_tuple_list;have f5:=AutoSeq1.sub_list_tuple;
  wp_walk using (wpAny_updateSeq hl rfl (hz:=ac)),wpAny_loadPart' hl,wpAny_loadPart' hb;exact⟨_,rfl,h⟩
def qe(l)(items)(n)(b)(J)(n2)(Y)(Z)(aL:¬(!items.isEmpty&&Builtin.List.listTooLong (items.size+J.size))=true)(ac:items.size<=sizeLine)(a0:items.size+J.size<=sizeLine+1) :
  Meets (Builtin.«list.extend» ⟨[.ref l,.ref b],[]⟩) (λ_ R s=>s.heap.get? l=some { cls:=.type "list",dict:=none,data:=.seq items n,slots:=#[] }/\s.heap.get? b=some { cls:=.type "list",dict:=Y,data:=.seq J n2,slots:=Z }/\R (.ok (.ret Value.none)) { s with heap:=s.heap.update l (Obj.mapSeq λx=>x++J),toks:=s.toks }):=
 .of_wp λprog w A R s h=>by
  obtain⟨hp,g,d,tk,os⟩:=s;obtain⟨hl,hb,h⟩:=h;have f1:=AutoSeq1.idx_int;have f2:=Lj;have f3:=AutoSeq1.sub_list_list;have f4:=AutoSeq1.sub_tuple_list;have f5:=AutoSeq1.sub_list_tuple;
  wp_walk using (wpAny_updateSeq hl rfl (hz:=ac)),wpAny_loadPart' hl,wpAny_loadPart' hb;exact⟨_,rfl,h⟩
end
section
variable{X:Cx}{T:Tab}{k:Nat}{cal:Cal}
def sQ:MtM X "list.extend" (λx vs H Q=>∃l b xs zs,x=.ref l/\vs=[.ref b]/\H l=some (.lst xs)/\(SqL X.K H b zs\/SqT X.K H b zs)/\xs.length+zs.length<=sizeLine/\Q .non (upd H l (.lst (xs++zs)))):=by
 intro pins s σ H x vs v us Q I rx rv h;refine bf λZq kq=>?_
 obtain⟨l,b,xs,zs,rfl,rfl,hH,hB,hz,q⟩:=h;subst rx;refine ae rv.one λu ar ru=>?_
 subst ar;subst ru;obtain⟨z,its,n,r,hl,e⟩:=I.lstM hH;have fin:∀J,aF zs J->EP X pins σ Q .none { s with heap:=s.heap.update l (Obj.mapSeq λx=>x++J.toArray),toks:=s.toks }:=λJ Z =>
  ⟨.non,_,I.lset (its':=its++J) hH e (by simp) (r.append Z) (by rw[IX];omega),rfl,q⟩
 refine kq ?_;rcases hB with hB|hB
 .obtain⟨J,Z,pl,z2⟩:=I.list hB;have a0:=Z.length;have ac:its.toArray.size+J.toArray.size<=sizeLine:=by rw[B1,B1];omega
  have Y:¬ (!its.toArray.isEmpty&&Builtin.List.listTooLong (its.toArray.size+J.toArray.size))=true:=by
   rw[jd ac,Mu];exact tf
  obtain⟨⟨cls,dd,data,sl⟩,ho,hc,n2,hd⟩:=pl.isList;simp only at hc hd;subst hc hd;exact K4 PySem.F.slot_list_extend ⟨_,e,rfl⟩ PySem.F.entry_list_extend (PySem.F.args_list_extend_2 _ _) (qe l its.toArray n b J.toArray n2 dd sl Y (by rw[B1];omega) (by omega)) ⟨e,ho,fin J Z⟩
 .obtain⟨J,Z,pl,z2⟩:=I.tuple hB;have a0:=Z.length;have ac:its.toArray.size+J.toArray.size<=sizeLine:=by rw[B1,B1];omega
  have Y:¬ (!its.toArray.isEmpty&&Builtin.List.listTooLong (its.toArray.size+J.toArray.size))=true:=by
   rw[jd ac,Mu];exact tf
  obtain⟨⟨cls,dd,data,sl⟩,ho,hc,n2,hd⟩:=pl;simp only at hc hd;subst hc hd;exact K4 PySem.F.slot_list_extend ⟨_,e,rfl⟩ PySem.F.entry_list_extend (PySem.F.args_list_extend_2 _ _) (qd l its.toArray n b J.toArray n2 dd sl Y (by rw[B1];omega) (by omega)) ⟨e,ho,fin J Z⟩
structure Df(X:Cx):Prop where
 nd:X.N.Nodup
 fn:∀x,X.fn x=true
 own:PassesOwn (model X.prog X.w) X.A X.env X.xe
 blk:(X.env.blockKind==.function)=true
def cw(h:cv v=true)(t)(n)(env):swapsWith v t n env=pure false:=by
 cases v<;>first|rfl|(injection h)
def oU(d:Df X)(h:uF X.env.scope x px v=true):swapsWith v (some (.Name x px)) n X.env=pure true:=by
 obtain⟨⟨e,gs,s,p⟩,w,h⟩:=au h;obtain rfl:=sE w;show pure _=pure true;rw[d.blk,L6];exact JD pure h
def PS.imp'(h:PS X e t)(i:∀D σ H,σ.length=X.N.length->t' D σ H->t D σ H):PS X e t':=λpins s σ H D I q=>h pins s σ H D I (i D σ H I.len q)
def ltN{N:List Str}{σ:St}(h:N[i]?=some x)(J:σ.length=N.length):i<σ.length:=by rw[J];exact(II.mp h).1
def cm{K:Mx}(h:gh K B E O M σ D (dH o f)):∃v,o=some v/\gh K B E O M σ D (f v):=by
 cases o with
 |none=>exact(show False from h).elim
 |some v=>exact⟨v,rfl,h⟩
def v5{K:Mx}(h:gh K B E O M σ D (xR o f)):∃v,o=some v/\gh K B E O M σ D (f v):=by
 cases o with
 |none=>exact(show False from h).elim
 |some v=>exact⟨v,rfl,h⟩
def yD{K:Mx}(hi:i<σ.length)(Y:ba me=false)(q:tS K cal (.set i me) D σ H):vm (tE K cal me) (hZ i) D σ H:=by
 refine de q λB E O M st q=>?_
 refine ae (cm q) λw e q=>?_
 refine⟨B,E,O,M,w,st,e,λu H' s g=>?_⟩;obtain⟨J,Z⟩:=(st.mono s).store hi (g.2 Y);exact q _ H' O J Z
def Gv(d:Df X)(hi:X.N[i]?=some x)(hx:Loc X.env.scope x)(h:PE X v (tE X.K cal me))(J:ba me=false)(hc:cv v=true):PS X (.Assign [.Name x px] v pos) (tS X.K cal (.set i me)):=
 PS.imp' (jQ d.nd hi hx h (cw hc _ _ _) (.inl (d.fn x))) λD σ H Y q=>yD (ltN hi Y) J q
def yE{K:Mx}(hi:i<σ.length)(q:tS K cal (.setOwn i me) D σ H):vm (tF K cal me) (hZ i) D σ H:=by
 refine de q λB E O M st q=>?_
 refine ae (cm q) λw e q=>?_
 cases w with
 |lst xs =>
  refine⟨B,E,O,M,xs,st,e,λp us H' s Y Z r=>?_⟩;obtain⟨J,k'⟩:=st.storeOwn hi s Y Z r;exact q _ H' _ J k'
 | _=>exact(show False from q).elim
def Gw(d:Df X)(hi:X.N[i]?=some x)(hx:Loc X.env.scope x)(h:PE X v (tF X.K cal me))(hc:cv v=true):PS X (.Assign [.Name x px] v pos) (tS X.K cal (.setOwn i me)):=
 PS.imp' (jQ d.nd hi hx h (cw hc _ _ _) (.inl (d.fn x))) λD σ H J q=>yE (ltN hi J) q
def yF{i:Nat}{me:ME}{x:Str}{v:Expr}{p apos cpos pos:Pos}(h:PE X v (tE X.K cal me))(hn:a7 X.N X.env.scope i x=true)(hb:ba me=false)(hs:aC v=true)(J:(apos.endLine==cpos.line)=true) :
  PS X (.Expr (.Call (.Attribute (.Name x p) "append" apos) [v] [] cpos) pos) (tS X.K cal (.append i me)):=by
 refine(eF (kM PySem.F.plainAttrs_list PySem.F.slot_list_append PySem.F.type_list_append eP (cV hn) (aB h aV (bH hs _ _)) rfl (by rw[bH hs];rfl) J (bH hs _ _) rfl) rfl).imp λD σ H q=>?_
 obtain⟨B,E,O,M,st,q⟩:=q;rw[ex]at q;obtain⟨w,e,q⟩:=cm q;cases Y:(M[i]?).join with
 |none=>rw[Y]at q;exact(show False from q).elim
 |some m =>
  rw[Y]at q;cases m with
  |own xs =>
   dsimp only at q;split at q
   .rename_i hl;obtain⟨u,eu,a,us,rfl,ha,rs,hO,hB⟩:=cK st Y;refine⟨_,eu,.inl ⟨rfl,us,SqL.of ha⟩,B,E,O,M,w,st,e,λu H1 s g=>⟨a,us,u,rfl,rfl,s _ _ ha,?_,?_⟩⟩
    .rw[<- rs.length];exact IK hl (by decide)
    .obtain⟨Z,k'⟩:=(st.mono s).change (us:=us++[u]) (ys:=xs++[w]) (bU Y) eu ((Reps.mono (ax s) _ rs).snoc (g.2 hb));exact q _ _ _ Z k'
   .exact(show False from q).elim
  |val _=>exact(show False from q).elim
  |brw _=>exact(show False from q).elim
  |ownD _=>exact(show False from q).elim
  |ownL _=>exact(show False from q).elim
  |brwD _=>exact(show False from q).elim
def yG{i:Nat}{me:ME}{x:Str}{v:Expr}{p apos cpos pos:Pos}(h:PE X v (tE X.K cal me))(hn:a7 X.N X.env.scope i x=true)(hs:aC v=true)(J:(apos.endLine==cpos.line)=true) :
  PS X (.Expr (.Call (.Attribute (.Name x p) "extend" apos) [v] [] cpos) pos) (tS X.K cal (.extend i me)):=by
 refine(eF (kM PySem.F.plainAttrs_list PySem.F.slot_list_extend PySem.F.type_list_extend sQ (cV hn) (aB h aV (bH hs _ _)) rfl (by rw[bH hs];rfl) J (bH hs _ _) rfl) rfl).imp λD σ H q=>?_
 obtain⟨B,E,O,M,st,q⟩:=q;rw[ex]at q;obtain⟨w,e,q⟩:=cm q;cases Z:(M[i]?).join with
 |none=>rw[Z]at q;exact(show False from q).elim
 |some m =>
  rw[Z]at q;cases m with
  |own xs =>
   cases hw:aZ w with
   |none=>rw[hw]at q;exact(show False from q).elim
   |some ys =>
    rw[hw]at q;dsimp only at q;split at q
    .rename_i hl;obtain⟨u,eu,a,us,rfl,ha,rs,hO,hB⟩:=cK st Z;refine⟨_,eu,.inl ⟨rfl,us,SqL.of ha⟩,B,E,O,M,w,st,e,λu H1 s g=>?_⟩;obtain⟨b,ws,rfl,sq,Y⟩:=g.1.seq hw;refine⟨a,b,us,ws,rfl,rfl,s _ _ ha,sq,?_,?_⟩
     .rw[<- rs.length,<- Y.length];exact eQ hl
     .obtain⟨ac,k'⟩:=(st.mono s).change (us:=us++ws) (ys:=xs++ys) (bU Z) eu ((Reps.mono (ax s) _ rs).append Y);exact q _ _ _ ac k'
    .exact(show False from q).elim
  |val _=>exact(show False from q).elim
  |brw _=>exact(show False from q).elim
  |ownD _=>exact(show False from q).elim
  |ownL _=>exact(show False from q).elim
  |brwD _=>exact(show False from q).elim
def yH{i:Nat}{mk me:ME}{x:Str}{v s:Expr}{p J pos:Pos}(hk:PE X s (tE X.K cal mk))(h:PE X v (tE X.K cal me))(hn:a7 X.N X.env.scope i x=true)(hb:ba me=false)(hc:cv v=true)(ac:bX s=true) :
  PS X (.Assign [.Subscript (.Name x p) s J] v pos) (tS X.K cal (.setIdx i mk me)):=by
 refine(Cs h (Cr (cV hn) hk set_list (by intro v';cases s<;>first|rfl|(simp[bX]at ac))) (by cases v<;>first|rfl|(simp[cv]at hc)) (by cases v<;>rfl) rfl).imp λD σ H q=>?_
 obtain⟨B,E,O,M,st,q⟩:=q;rw[ex]at q;obtain⟨w,e,q⟩:=cm q;obtain⟨kv,ek,q⟩:=cm q;cases Y:(M[i]?).join with
 |none=>rw[Y]at q;exact(show False from q).elim
 |some m =>
  rw[Y]at q;cases m with
  |own xs =>
   cases kv with
   |int kk =>
    dsimp only at q;split at q
    .rename_i j hp;obtain⟨u,eu,a,us,rfl,ha,rs,hO,hB⟩:=cK st Y;refine⟨B,E,O,M,w,st,e,λu H1 s1 g=>⟨_,eu,B,E,O,M,_,st.mono s1,ek,λuk H2 Z g2=>⟨a,us,kk,j,rfl,g2.1.int,Z _ _ (s1 _ _ ha),?_,?_⟩⟩⟩
     .rw[<- rs.length,<- jy];exact hp
     .obtain⟨ao,k'⟩:=((st.mono s1).mono Z).change (us:=us.set j u) (ys:=xs.set j w) (bU Y) eu ((Reps.mono (ax (s1.trans Z)) _ rs).set j (Rep.mono (ax Z) _ (g.2 hb)));exact q _ _ _ ao k'
    .exact(show False from q).elim
   | _=>exact(show False from q).elim
  |val _=>exact(show False from q).elim
  |brw _=>exact(show False from q).elim
  |ownD _=>exact(show False from q).elim
  |ownL _=>exact(show False from q).elim
  |brwD _=>exact(show False from q).elim
def Eb{m:Bool}{i:Nat}{x:Str}{px dp pos:Pos}(d:Df X)(hi:X.N[i]?=some x)(hx:Loc X.env.scope x):PS X (.Assign [.Name x px] (.Dict [] [] dp) pos) (tS X.K cal (.newD m i)):=by
 cases m with
 |false =>
  refine PS.imp' (jQ d.nd hi hx xh (cw (v:=.Dict [] [] dp) rfl _ _ _) (.inl (d.fn x))) λD σ H Z q=>?_
  obtain⟨B,E,O,M,st,q⟩:=q;rw[ex]at q;intro p Y;obtain⟨J,k'⟩:=st.storeM (mm:=.ownD (.k [])) (ltN hi Z) (aD Y (.dK [])) Y (by rw[aq];simp) rfl λhB=>⟨p,rfl,aq,J6,hB⟩
  exact q _ _ _ J k'
 |true =>
  refine PS.imp' (jQ d.nd hi hx xi (cw (v:=.Dict [] [] dp) rfl _ _ _) (.inl (d.fn x))) λD σ H Z q=>?_
  obtain⟨B,E,O,M,st,q⟩:=q;rw[ex]at q;intro p Y;obtain⟨J,k'⟩:=st.storeM (mm:=.ownD (.t [])) (ltN hi Z) (aD Y (.dT [])) Y (by rw[aq];simp) rfl λhB=>⟨p,rfl,aq,J6,hB⟩
  exact q _ _ _ J k'
def Ec{i:Nat}{mk me:ME}{x:Str}{v s:Expr}{p J pos:Pos}(g0:Gf X T k cal)(hk:PE X s (tE X.K cal mk))(h:PE X v (tE X.K cal me))(hn:a7 X.N X.env.scope i x=true)(hc:cv v=true) :
  PS X (.Assign [.Subscript (.Name x p) s J] v pos) (tS X.K cal (.dput i mk me)):=by
 have hu:X.A.units+1<cLine:=by have:=g0.units;omega
 refine(At hu (cV hn) hk h (by cases v<;>first|rfl|(simp[cv]at hc))).imp λD σ H q=>?_
 obtain⟨B,E,O,M,st,q⟩:=q;rw[ex]at q;obtain⟨w,e,q⟩:=cm q;obtain⟨kv,ek,q⟩:=cm q;cases Y:(M[i]?).join with
 |none=>rw[Y]at q;exact(show False from q).elim
 |some m =>
  rw[Y]at q;cases m with
  |ownD d =>
   cases hz:sc? w with
   |none=>rw[hz]at q;exact(show False from q).elim
   |some sz =>
    rw[hz]at q;dsimp only at q;cases hd:sD d kv sz with
    |none=>rw[hd]at q;exact(show False from q).elim
    |some d' =>
     rw[hd]at q;obtain⟨u,eu,a,rfl,ha,hO,hB⟩:=cK st Y;refine⟨B,E,O,M,w,st,e,λu H1 s1 g1=>⟨_,eu,B,E,O,M,_,st.mono s1,ek,λuk H2 s2 g2=>?_⟩⟩;refine⟨a,_,rfl,by rw[yB hz g1.1];exact AZ hd (s2 _ _ (s1 _ _ (ha.put1 hd))) g2.1,?_⟩;obtain⟨Z,k'⟩:=((st.mono s1).mono s2).changeD (ys:=d') (bU Y) eu λ_=>.put2 hd aq
     exact q _ _ _ Z k'
  |val _=>exact(show False from q).elim
  |brw _=>exact(show False from q).elim
  |own _=>exact(show False from q).elim
  |ownL _=>exact(show False from q).elim
  |brwD _=>exact(show False from q).elim
def Gx(h:PE X v (tE X.K cal me))(J:ba me=false):PS X (.Return (some v) pos) (tS X.K cal (.ret me)):=by
 refine(iP h).imp λD σ H q=>?_
 refine de q λB E O M st q=>?_
 refine ae (cm q) λw e q=>?_
 exact⟨B,E,O,M,w,st,e,λu H' s g=>q u H' (st.keep.trans s) (Rep.mono (bC (ai.refl H') λb J=>.inl (st.sub b J)) _ (g.2 J))⟩
def yI{i:Nat}{x:Str}{p pos:Pos}(hn:a7 X.N X.env.scope i x=true):PS X (.Return (some (.Name x p)) pos) (tS X.K cal (.retOwn i)):=by
 refine(iP (cV hn)).imp λD σ H q=>?_
 obtain⟨B,E,O,M,st,q⟩:=q;rw[ex]at q;have J:ai (aj H O) (aj H E):=bC (ai.refl H) λb hb=>.inl (st.sub b hb)
 cases Y:(M[i]?).join with
 |none=>rw[Y]at q;exact(show False from q).elim
 |some m =>
  rw[Y]at q;cases m with
  |own xs =>
   obtain⟨u,Z,a,us,rfl,ha,rs,hO,hB⟩:=cK st Y;refine⟨_,Z,q _ H st.keep ?_⟩;rw[Rep];refine⟨a,us,rfl,SqL.of ?_,Reps.mono J _ rs⟩;rw[bp λz=>st.old a z hB];exact ha
  |val v =>
   obtain⟨u,Z,so⟩:=cK st Y;exact⟨_,Z,q _ H st.keep (Rep.mono J _ so)⟩
  |brw _=>exact(show False from q).elim
  |ownD kvs =>
   obtain⟨u,Z,a,rfl,ha,hO,hB⟩:=cK st Y;refine⟨_,Z,q _ H st.keep ?_⟩;rw[Rep];refine⟨a,rfl,.inl ?_⟩;rw[bp λz=>st.old a z hB];exact ha
  |ownL _=>exact(show False from q).elim
  |brwD _=>exact(show False from q).elim
def HZ(hc:PT X t (tT X.K cal c))(J:PSs X x (tSs X.K cal a))(Y:PSs X y (tSs X.K cal b)):PS X (.If t x y pos) (tS X.K cal (.ite c a b)):=by
 refine(hX hc J Y).imp λD σ H q=>?_
 refine de q λB E O M st q=>?_
 refine ae (v5 q) λw e q=>?_
 refine⟨B,E,O,M,w,st,e,λH' s=>?_⟩;cases w<;>first|(rw[if_pos rfl]at q ⊢;exact⟨B,E,O,M,st.mono s,q⟩)|(rw[if_neg (by simp)]at q ⊢;exact⟨B,E,O,M,st.mono s,q⟩)
def Ed{m:MS}{ms:List MS}{st:Stmt}{ss:List Stmt}(h1:PS X st (tS X.K cal m))(h2:PSs X ss (tSs X.K cal ms)):PSs X (st::ss) (tSs X.K cal (m::ms)):=by
 refine(bm h1 h2).imp λD σ H q=>?_
 obtain⟨B,E,O,M,st,q⟩:=q;refine⟨B,E,O,M,st,?_⟩;rw[exs]at q;cases e:ex cal m M with
 |next C=>rw[e]at q;exact λY H' Z J k=>⟨B,E,Z,C,J,gh.trans q k⟩
 |brk C=>rw[e]at q;exact q
 |cont C=>rw[e]at q;exact q
 |ret v=>rw[e]at q;exact q
 |bad=>rw[e]at q;exact q
 |retF xs=>rw[e]at q;exact q
def Gy:PSs X [] (tSs X.K cal []):=by
 refine dv.imp λD σ H q=>?_
 refine de q λB E O M st q=>?_
 exact q σ H O st .refl
end
section
variable{K:Mx}{B H H':Hp}{E O:List Addr}{M:Rho}{σ:St}
def Ee(h:noL M=true){j:Nat}{m:MV}(e:M[j]?=some (some m)):isL m=false:=by
 have:=J8.mp h (some m) (JA e);simpa using this
def mX(st:aN K B E O H M σ){j:Nat}{m:MV}{c:Addr}(e:M[j]?=some (some m))(o:eM m=true)(es:σ[j]?=some (some (.ref c))):H c≠none:=by
 obtain⟨w,Y,q⟩:=st.slot j _ e;rw[es]at Y;cases Y;cases m with
 |own zs=>obtain⟨a,ws,J,h1,_⟩:=q;cases J;rw[h1];simp
 |ownD zs=>obtain⟨a,J,h1,_⟩:=q;cases J;rw[h1];simp
 |ownL zs=>obtain⟨a,bs,J,h1,_⟩:=q;cases J;rw[h1];simp
 |val _=>cases o
 |brw _=>cases o
 |brwD _=>cases o
def yJ{n:Nat}{bs:List Addr}(J:bs.length=n)(h:∀b∈bs,H b=some (.lst [])/\b∈O/\B b=none):c8 K H O B (replicate n []) bs:=by
 subst J
 induction bs with
 |nil=>exact .nil
 |cons b bs ih =>
  obtain⟨h1,h2,Y⟩:=h b (.head _);exact .cons h1 .nil h2 Y (ih λc hc=>h c (.tail _ hc))
theorem c8.put{b:Addr}{ws:List V}{ys:List PV}(J:aj (L2.upd H b (.lst ws)) O=aj H O)(r':Reps K (aj H O) ys ws){Y:List (List PV)}{bs:List Addr}(h:c8 K H O B Y bs):∀{q:Nat},bs.Nodup->bs[q]?=some b->c8 K (L2.upd H b (.lst ws)) O B (Y.set q ys) bs:=by
 induction h with
 |nil=>intro q _ e;simp at e
 |cons h r ho hb t ih =>
  intro q nd e;obtain⟨Z,n2⟩:=Ji.mp nd;cases q with
  |zero =>
   simp at e;subst e;exact .cons aq (by rw[J];exact r') ho hb (t.upd J λc hc z=>Z (z▸hc))
  |succ q =>
   have e':=(getElem?_cons_succ ..).symm.trans e;refine .cons ?_ (by rw[J];exact r) ho hb (ih n2 e');have hm:=JA e';rw[az λz=>by rw[z]at Z;exact Z hm];exact h
def aN.storeLs(st:aN K B E O H M σ){i:Nat}{a:Addr}{bs:List Addr}{Z:List (List PV)}(hi:i<σ.length)(hn:noL M=true)(s:ai H H')(ha:H a=none)(ea:H' a=some (.lst (bs.map .ref)))(nd:(a::bs).Nodup)(hb:∀b∈bs,H b=none/\H' b≠none)(rr:c8 K H' (a::bs++O) B Z bs) :
  aN K B E (a::bs++O) H' (put M i (.ownL Z)) (σ.set i (some (.ref a)))/\bZ B O (a::bs++O) M (put M i (.ownL Z)) σ (σ.set i (some (.ref a))):=by
 have a3:i<M.length:=by rw[st.len];exact hi
 have free:∀b∈a::bs,H b=none/\H' b≠none:=λb a9=>by
  rcases IM.mp a9 with rfl|h
  .exact⟨ha,by rw[ea];simp⟩
  .exact hb b h
 have aL:ai (aj H O) (aj H' (a::bs++O)):=bC s λb h=>by
  rcases JM.mp h with h|h
  .exact .inr (free b h).1
  .exact .inl h
 have ac:∀b∈O,b∈a::bs++O:=λb h=>JM.mpr (.inr h)
 refine⟨⟨st.keep.trans s,λb h=>?_,λb h=>ac b (st.sub b h),st.old,by rw[put_len,JW];exact st.len,λj m J=>?_,λc d xs ys ad a0 e1 Y o1 o2 e3 e4=>?_,λk Z a' us e1 Y e3 j m a4 J=>?_⟩,⟨λ_ _ h=>ac _ h,λb h=>?_,λj xs bc J=>?_,put_len
  ⟩⟩
 .rcases JM.mp h with h|h
  .exact(free b h).2
  .exact λz=>st.here b h (s.free z)
 .by_cases hj:i=j
  .subst hj;rw[af a3]at J;cases J;exact⟨_,Jq hi,a,bs,rfl,ea,rr,JM.mpr (.inl (.head _)),st.keep.free ha,nd⟩
  .rw[aa hj]at J;obtain⟨w,e1,q⟩:=st.slot j m J;refine⟨w,by rw[IV hj];exact e1,?_⟩;cases m with
   |val v=>exact Rep.mono aL _ q
   |own ys=>obtain⟨a,ws,Y,h1,h2,h3,h4⟩:=q;exact⟨a,ws,Y,s _ _ h1,Reps.mono aL _ h2,ac _ h3,h4⟩
   |brw ys=>obtain⟨a,ws,Y,h1,h2⟩:=q;exact⟨a,ws,Y,h1,Reps.mono aL _ h2⟩
   |ownD ys=>obtain⟨a,Y,h1,h3,h4⟩:=q;exact⟨a,Y,s _ _ h1,ac _ h3,h4⟩
   |ownL bS=>cases Ee hn J
   |brwD ys=>exact q
 .by_cases hc:i=c
  .subst hc;rw[Jq hi]at e3;cases e3;rw[aa a0]at Y;rw[IV a0]at e4;exact mX st Y o2 e4 ha
  .by_cases hd:i=d
   .subst hd;rw[Jq hi]at e4;cases e4;rw[aa hc]at e1;rw[IV hc]at e3;exact mX st e1 o1 e3 ha
   .rw[aa hc]at e1;rw[aa hd]at Y;rw[IV hc]at e3;rw[IV hd]at e4;exact st.apart c d _ _ ad a0 e1 Y o1 o2 e3 e4
 .have hk:i=k:=by
   cases Nat.decEq i k with
   |isTrue z=>exact z
   |isFalse z =>
    rw[aa z]at e1;cases Ee hn e1
  subst hk;rw[Jq hi]at Y;cases Y;rw[ea]at e3;cases e3;rw[aa (JF a4)]at J;refine⟨Ee hn J,λc o ec z=>?_⟩;rw[IV (JF a4)]at ec;exact mX st J o ec (hb c (fC.mp z)).1
 .rcases JM.mp h with h|h
  .exact .inr (st.keep.free (free b h).1)
  .exact .inl h
 .have hj:i≠j:=λz=>by subst z;rw[af a3]at J;cases J;cases bc
  rw[aa hj]at J;exact⟨J,IV hj⟩
def aN.storeL(st:aN K B E O H M σ){i n:Nat}{a:Addr}{bs:List Addr}(hi:i<σ.length)(Y:noL M=true)(s:ai H H')(Z:H a=none)(ea:H' a=some (.lst (bs.map .ref)))(hl:bs.length=n)(nd:(a::bs).Nodup)(J:∀b∈bs,H b=none/\H' b=some (.lst [])) :
  aN K B E (a::bs++O) H' (put M i (.ownL (replicate n []))) (σ.set i (some (.ref a)))/\bZ B O (a::bs++O) M (put M i (.ownL (replicate n []))) σ (σ.set i (some (.ref a))):=
 st.storeLs hi Y s Z ea nd (λb h=>⟨(J b h).1,by rw[(J b h).2];simp⟩) (yJ hl λb h=>⟨(J b h).2,JM.mpr (.inl (.tail _ h)),st.keep.free (J b h).1⟩)
def aN.changeI(st:aN K B E O H M σ){i q:Nat}{J:List (List PV)}{a b:Addr}{bs:List Addr}{ys:List PV}{ws:List V}(e:M[i]?=some (some (.ownL J)))(es:σ[i]?=some (some (.ref a)))(ha:H a=some (.lst (bs.map .ref)))(r:c8 K H O B J bs)(hO:a∈O)(hB:B a=none)(nd:(a::bs).Nodup)
  (eb:bs[q]?=some b) (r':Reps K (aj H O) ys ws):aN K B E O (upd H b (.lst ws)) (put M i (.ownL (J.set q ys))) σ/\bZ B O O M (put M i (.ownL (J.set q ys))) σ σ:=by
 have a2:i<M.length:=(II.mp e).1;have ac:=JA eb;obtain⟨_,bO,bB⟩:=r.at b ac;obtain⟨n1,n2⟩:=Ji.mp nd;have ao:aj (upd H b (.lst ws)) O=aj H O:=fj bO;have ar:∀(j:Nat) (m:MV) (c:Addr),i≠j->M[j]?=some (some m)->eM m=true->σ[j]?=some (some (.ref c))->c≠b:=λj m c Z Y o ec z=>(st.inn i J a _ e es ha j m (JF Z) Y).2 c o ec (fC.mpr (z▸ac))
 have a3:a≠b:=λz=>n1 (z▸ac)
 refine⟨⟨λc u ec=>?_,λc hc=>?_,st.sub,st.old,by rw[put_len];exact st.len,λj m Y=>?_,λc d ps qs ad bc e1 e2 p1 p2 e3 e4=>?_,λk cc a' us e1 e2 e3 j m a4 Y=>?_⟩,⟨λ_ _ h=>h,λ_ h=>.inl h,λj zs ac Y=>?_,put_len
  ⟩⟩
 .rw[az (bt ec bB)];exact st.keep c u ec
 .unfold upd;split
  .simp
  .exact st.here c hc
 .by_cases Z:i=j
  .subst Z;rw[af a2]at Y;cases Y;exact⟨_,es,a,bs,rfl,by rw[az a3];exact ha,r.put ao r' n2 eb,hO,hB,nd⟩
  .rw[aa Z]at Y;obtain⟨w,ew,q⟩:=st.slot j m Y;refine⟨w,ew,?_⟩;cases m with
   |val v=>show Rep K (aj (upd H b (.lst ws)) O) v w;rw[ao];exact q
   |own zs=>obtain⟨ad,us,rfl,q1,q2,q3,q4⟩:=q;exact⟨ad,us,rfl,by rw[az (ar j _ ad Z Y rfl ew)];exact q1,by rw[ao];exact q2,q3,q4⟩
   |ownD zs=>obtain⟨ad,rfl,q1,q3,q4⟩:=q;exact⟨ad,rfl,q1.move (λo eo=>by rw[az (ar j _ ad Z Y rfl ew)];exact eo) (by rw[ao];exact ai.refl _),q3,q4⟩
   |ownL ck=>cases (st.inn i J a _ e es ha j _ (JF Z) Y).1
   |brwD zs=>exact q
   |brw zs=>obtain⟨ad,us,rfl,q1,q2⟩:=q;exact⟨ad,us,rfl,q1,by rw[ao];exact q2⟩
 .have h1:∀(j:Nat) (zs:MV),(put M i (.ownL (J.set q ys)))[j]?=some (some zs)->eM zs=true->∃zs,M[j]?=some (some zs)/\eM zs=true:=λj zs q oz=>by
   by_cases Z:i=j
   .subst Z;exact⟨_,e,rfl⟩
   .rw[aa Z]at q;exact⟨zs,q,oz⟩
  obtain⟨q1,e1,p1⟩:=h1 c ps e1 p1;obtain⟨q2,e2,p2⟩:=h1 d qs e2 p2;exact st.apart c d q1 q2 ad bc e1 e2 p1 p2 e3 e4
 .have hk:i=k:=by
   cases Nat.decEq i k with
   |isTrue z=>exact z
   |isFalse z =>
    rw[aa z]at e1;cases (st.inn i J a _ e es ha k _ (JF z) e1).1
  subst hk;rw[es]at e2;cases e2;rw[az a3]at e3;rw[aa (JF a4)]at Y;exact st.inn i J a us e es e3 j m a4 Y
 .have Z:i≠j:=λz=>by subst z;rw[af a2]at Y;cases Y;cases ac
  rw[aa Z]at Y;exact⟨Y,rfl⟩
def v6{F:Hp}{J:List (List PV)}{bs:List Addr}(h:c8 K H O B J bs)(v:ai (aj H O) F)(Y:∀b∈bs,∀o,H b=some o->F b=some o):Reps K F (J.map .lst) (bs.map .ref):=by
 induction h with
 |nil=>exact .nil
 |cons h r ho Z t ih =>
  refine .cons ?_ (ih λb h=>Y b (.tail _ h));rw[Rep];exact⟨_,_,rfl,SqL.of (Y _ (.head _) _ h),Reps.mono v _ r⟩
def aN.freezeL(st:aN K B E O H M σ){i:Nat}{Y:List (List PV)}(e:M[i]?=some (some (.ownL Y))):∃O',aN K B E O' H (put M i (.val (.lst (Y.map .lst)))) σ/\bZ B O O' M (put M i (.val (.lst (Y.map .lst)))) σ σ:=by
 obtain⟨w,es,a,bs,rfl,ha,r,hO,hB,nd⟩:=st.slot i _ e;have ao:i<M.length:=(II.mp e).1;have ar:ai (aj H O) (aj H (O.filter λb=>decide (b∉a::bs))):=bC (ai.refl H) λb J=>.inl (JQ.mp J).1
 have mem:∀b,b∉a::bs->b∈O->b∈O.filter λb=>decide (b∉a::bs):=λb J ho=>JQ.mpr ⟨ho,I0 J⟩
 have out:∀b∈a::bs,∀o,H b=some o->aj H (O.filter λb=>decide (b∉a::bs)) b=some o:=λb J o eo=>by
  have hn:b∉O.filter λb=>decide (b∉a::bs):=λz=>absurd J (by simpa using (JQ.mp z).2)
  rw[bp hn];exact eo
 have none:∀b∈a::bs,B b=none:=λb J=>by
  rcases IM.mp J with rfl|h
  .exact hB
  .exact(r.at b h).2.2
 have apart:∀(j:Nat) (m:MV) (c:Addr),i≠j->M[j]?=some (some m)->eM m=true->σ[j]?=some (some (.ref c))->c∉a::bs:=λj m c hj Z o ec z=>by
  rcases IM.mp z with rfl|z
  .exact st.apart i j _ m _ hj e Z rfl o es ec
  .exact(st.inn i Y a _ e es ha j m (JF hj) Z).2 c o ec (fC.mpr z)
 refine⟨O.filter λb=>decide (b∉a::bs),⟨st.keep,λb J=>st.here b (JQ.mp J).1,λb J=>mem b (λz=>st.old b J (none b z)) (st.sub b J),st.old,by rw[put_len];exact st.len,λj m Z=>?_,λc d ps qs ad a2 e1 e2 p1 p2 e3 e4=>?_,λk bT a' us e1 e2 e3 j m b0 Z=>?_⟩,⟨λb J ho=>mem b (λz=>J (none b z)) ho,λb J=>.inl (JQ.mp J).1,λj zs a3 Z=>?_,put_len
  ⟩⟩
 .by_cases hj:i=j
  .subst hj;rw[af ao]at Z;cases Z;refine⟨_,es,?_⟩;show Rep K _ (.lst (Y.map .lst)) (.ref a);rw[Rep];exact⟨a,_,rfl,SqL.of (out a (.head _) _ ha),v6 r ar λb J=>out b (.tail _ J)⟩
  .rw[aa hj]at Z;obtain⟨w,ew,q⟩:=st.slot j m Z;refine⟨w,ew,?_⟩;cases m with
   |val v=>exact Rep.mono ar _ q
   |own zs=>obtain⟨ad,ws,rfl,q1,q2,q3,q4⟩:=q;exact⟨ad,ws,rfl,q1,Reps.mono ar _ q2,mem ad (apart j _ ad hj Z rfl ew) q3,q4⟩
   |ownD zs=>obtain⟨ad,rfl,q1,q3,q4⟩:=q;exact⟨ad,rfl,q1,mem ad (apart j _ ad hj Z rfl ew) q3,q4⟩
   |ownL b1=>cases (st.inn i Y a _ e es ha j _ (JF hj) Z).1
   |brwD zs=>exact q
   |brw zs=>obtain⟨ad,ws,rfl,q1,q2⟩:=q;exact⟨ad,ws,rfl,q1,Reps.mono ar _ q2⟩
 .have h1:∀(j:Nat) (zs:MV),eM zs=true->(put M i (.val (.lst (Y.map .lst))))[j]?=some (some zs)->M[j]?=some (some zs):=λj zs oz q=>by
   by_cases hj:i=j
   .subst hj;rw[af ao]at q;cases q;cases oz
   .rw[aa hj]at q;exact q
  exact st.apart c d ps qs ad a2 (h1 c ps p1 e1) (h1 d qs p2 e2) p1 p2 e3 e4
 .have hk:i≠k:=λz=>by subst z;rw[af ao]at e1;cases e1
  rw[aa hk]at e1;cases (st.inn i Y a _ e es ha k _ (JF hk) e1).1
 .have hj:i≠j:=λz=>by subst z;rw[af ao]at Z;cases Z;cases a3
  rw[aa hj]at Z;exact⟨Z,rfl⟩
end
section
variable{X:Cx}{T:Tab}{k:Nat}{cal:Cal}
def v7{i:Nat}{ms:List MS}{ss:List Stmt}(h:PSs X ss (tSs X.K cal ms)):PSs X ss (tSs X.K cal (.freezeL i::ms)):=by
 refine h.imp λD σ H q=>?_
 obtain⟨B,E,O,M,st,q⟩:=q;rw[exs,ex]at q;cases J:(M[i]?).join with
 |none=>rw[J]at q;exact(show False from q).elim
 |some m =>
  rw[J]at q;cases m with
  |ownL Z =>
   obtain⟨O',Y,k'⟩:=st.freezeL (bU J);exact⟨B,E,O',_,Y,gh.trans q k'⟩
  | _=>exact(show False from q).elim
def Ef{i:Nat}{mk me:ME}{x:Str}{sl v:Expr}{p sp apos cpos pos:Pos}(hk:PE X sl (tE X.K cal mk))(ar:bX sl=true)(h:PE X v (tE X.K cal me))(hn:a7 X.N X.env.scope i x=true)(hb:ba me=false)(hs:aC v=true)(J:(apos.endLine==cpos.line)=true) :
  PS X (.Expr (.Call (.Attribute (.Subscript (.Name x p) sl sp) "append" apos) [v] [] cpos) pos) (tS X.K cal (.appI i mk me)):=by
 refine(eF (kM PySem.F.plainAttrs_list PySem.F.slot_list_append PySem.F.type_list_append eP (wX pz (cV hn) hk (mP ar)) (aB h aV (bH hs _ _)) rfl (by rw[bH hs];rfl) J (bH hs _ _) rfl) rfl).imp λD σ H q=>?_
 obtain⟨B,E,O,M,st,q⟩:=q;rw[ex]at q;obtain⟨kv,ek,q⟩:=cm q;obtain⟨w,e,q⟩:=cm q;cases Z:(M[i]?).join with
 |none=>rw[Z]at q;exact(show False from q).elim
 |some m =>
  rw[Z]at q;cases m with
  |ownL aL =>
   dsimp only at q;cases Y:xS aL kv w with
   |none=>rw[Y]at q;exact(show False from q).elim
   |some bL =>
    rw[Y]at q;cases kv<;>try (cases Y;done)
    rename_i j;simp only[xS,rp]at Y;obtain⟨pl,e1,xs,e2,e3⟩:=Y;split at e3
    .rename_i hl;cases e3;obtain⟨u,eu,a,bs,rfl,ha,r,hO,hB,nd⟩:=cK st Z;obtain⟨b,us,f1,f2,f3,f4,f5⟩:=r.get e2;refine⟨_,eu,B,E,O,M,_,st,ek,λuk H1 s1 g1=>?_⟩;have e4:=g1.1.int;subst e4;refine⟨a,bs.map .ref,j,.ref b,rfl,rfl,SqL.of (s1 _ _ ha),?_,.inl ⟨rfl,us,SqL.of (s1 _ _ f2)⟩,B,E,O,M,w,st.mono s1,e,λu H2 s2 g2=>⟨b,us,u,rfl,rfl,s2 _ _ (s1 _ _ f2),?_,?_⟩⟩
     .unfold atI;rw[IC,<- r.len,<- jy,e1,bind_some,Jb,f1]
      rfl
     .rw[<- f3.length];exact IK hl (by decide)
     .have s3:=s1.trans s2;obtain⟨a1,k'⟩:=(st.mono s3).changeI (q:=pl) (ys:=xs++[w]) (ws:=us++[u]) (bU Z) eu (s3 _ _ ha) (r.mono s3) hO hB nd f1 ((Reps.mono (ax s3) _ f3).snoc (g2.2 hb));exact q _ _ _ a1 k'
    .cases e3
  | _=>exact(show False from q).elim
noncomputable def tEn(n:Nat):TA:=λ_ H Q=>∀(bs:List Addr) (H':Hp),ai H H'->bs.length=n->bs.Nodup->(∀b∈bs,H b=none/\H' b=some (.lst []))->Q (bs.map .ref) H'
theorem mY:∀(es:List Expr),es.all AJ=true->PA X es (tEn es.length)
 | [],_=>aV.imp λσ H Q q=>q [] H (ai.refl H) rfl .nil λb J=>nomatch J
 |e::es,h=>by
  simp only[all_cons,tr]at h;have he:∃p,e=.List [] p:=by
   have h1:=h.1;unfold AJ at h1;split at h1
   .exact⟨_,rfl⟩
   .cases h1
  obtain⟨p,rfl⟩:=he;refine(aB (lO aV) (mY es h.2) rfl).imp λσ H Q q=>?_
  refine⟨IY _,λp Y bs H' s hl nd J=>q (p::bs) H' ((aD Y _).trans s) (by rw[length_cons,hl];rfl) (Ji.mpr ⟨λz=>?_,nd⟩) λb Z=>?_⟩
  .have:=(J p z).1;rw[aq]at this;cases this
  .rcases IM.mp Z with rfl|h
   .exact⟨Y,s _ _ aq⟩
   .exact⟨(aD Y _).free (J b h).1,(J b h).2⟩
def Eg{i:Nat}{es:List Expr}{x:Str}{px lp pos:Pos}(d:Df X)(hi:X.N[i]?=some x)(hx:Loc X.env.scope x)(h:es.all AJ=true):PS X (.Assign [.Name x px] (.List es lp) pos) (tS X.K cal (.setL i es.length)):=by
 refine PS.imp' (jQ d.nd hi hx (lO (mY es h)) (cw (v:=.List es lp) rfl _ _ _) (.inl (d.fn x))) λD σ H hl q=>?_
 obtain⟨B,E,O,M,st,q⟩:=q;rw[ex]at q;by_cases c:noL M=true/\es.length<=10000
 .rw[if_pos c]at q;refine λbs H' s J nd hb=>⟨by rw[IC,J];exact eQ c.2,λa Z=>?_⟩
  have Y:∀b∈bs,b≠a:=λb h z=>by rw[z]at h;rw[(hb a h).2]at Z;cases Z
  obtain⟨ao,k'⟩:=st.storeL (ltN hi hl) c.1 (s.trans (aD Z _)) (s.free Z) aq J (Ji.mpr ⟨λz=>Y a z rfl,nd⟩) λb h=>⟨(hb b h).1,by rw[az (Y b h)];exact(hb b h).2⟩
  exact q _ _ _ ao k'
 .rw[if_neg c]at q;exact(show False from q).elim
def sS{J:It}{xs:List PV}{V H1:Hp}{K:Mx}{a2:St}{D:Addr}{Q:VK}(it:mR K J xs V H1)(hn:xs.length<=10000)(hD:H1 D=none)
  (q:∀bs H',bs.length=xs.length->ai H1 H'->H' D=some (.lst (bs.map .ref))->(D::bs).Nodup->(∀b∈bs,H1 b=none/\H' b=some (.lst []))->Q (.ref D) H'):qT J a2 H1 CU (vt d7) D Q:=by
 refine⟨λi m _ H'=>m=xs.length-i/\i<=xs.length/\ai H1 H'/\∃bs:List Addr,bs.length=i/\H' D=some (.lst (bs.map .ref))/\(D::bs).Nodup/\∀b∈bs,H1 b=none/\H' b=some (.lst []),⟨xs.length,by simp,IY _,aD hD _,[],rfl,aq,by simp,λb hb=>by cases hb⟩,?_⟩;rintro i m br H' ⟨rfl,hi,Y,bs,hl,Z,nd,hb⟩;by_cases ac:i<xs.length
 .right;have ex:xs[i]?=some xs[i]:=IF ac;refine⟨it.go i _ H' Y ex,λ_ H2=>∃m',m'<xs.length-i/\(m'=xs.length-(i+1)/\i+1<=xs.length/\ai H1 H2/\∃bs:List Addr,bs.length=i+1/\H2 D=some (.lst (bs.map .ref))/\(D::bs).Nodup/\∀b∈bs,H1 b=none/\H2 b=some (.lst [])),λbB H2 z=>z,λux H2 y=>?_⟩;obtain⟨s3,_⟩:=it.yld i _ H' ux H2 Y ex y;unfold CU;dsimp only;rw[if_pos rfl];refine⟨IY _,λp hp=>?_⟩;have aL:D≠p:=λz=>by rw[<- z,s3 _ _ Z]at hp;cases hp
  have a1:∀b∈bs,b≠p:=λb h z=>by rw[<- z,s3 _ _ (hb b h).2]at hp;cases hp
  refine⟨bs.map .ref,by rw[az aL];exact s3 _ _ Z,by rw[IC,hl];exact IK (IK ac hn) (by decide),xs.length-(i+1),by omega,rfl,ac,λb o e=>?_,bs++[p],by simp[hl],?_,?_,λb h=>?_⟩
  .have nD:b≠D:=bt e hD;have np:b≠p:=λz=>by rw[<- z,s3 _ _ (Y _ _ e)]at hp;cases hp
   rw[az nD,az np];exact s3 _ _ (Y _ _ e)
  .rw[aq,Jo]
   rfl
  .rw[<- cons_append,Lm];refine⟨nd,by simp,λa ha b a5 z=>?_⟩;rw[Jd.mp a5]at z;subst z;rcases IM.mp ha with z|z
   .exact aL z.symm
   .exact a1 _ z rfl
  .rcases JM.mp h with h|h
   .obtain⟨h1,h2⟩:=hb b h;have nD:b≠D:=λz=>(Ji.mp nd).1 (z▸h)
    rw[az nD,az (a1 b h)];exact⟨h1,s3 _ _ h2⟩
   .rw[Jd.mp h];refine⟨(Y.trans s3).free hp,?_⟩;rw[az (JF aL)];exact aq
 .left;have a6:i=xs.length:=by omega
  subst a6;exact⟨it.stop H' Y,q bs H' hl Y Z nd hb⟩
def A4{i:Nat}{me:ME}{x y:Str}{px py lp cpos pos:Pos}{it:Expr}{scope:Scope}(g:Gf X T k cal)(d:Df X)(hi:X.N[i]?=some x)(hx:Loc X.env.scope x)(hs:uF X.env.scope x px (.ListComp (.List [] lp) [⟨.Name y py,it,[],0⟩] scope cpos)=true)(ar:gB X.env.scope X.N scope y (fg X.N []) []=true)(hw:PI X (.Name y py) it (tW X.K cal .rng [me]))(aL:gA it=true) :
  PS X (.Assign [.Name x px] (.ListComp (.List [] lp) [⟨.Name y py,it,[],0⟩] scope cpos) pos) (tS X.K cal (.setLN i me)):=by
 refine PS.imp' (mC d.nd hi hx (ku ar) g.calm hw (λY Z C fp=>xx) (λY Z C fp=>lO aV) (oU d hs) (by intro v;cases it<;>first|rfl|(simp[gA]at aL)) (.inl (d.fn x))) λD σ H hl q=>?_
 obtain⟨B,E,O,M,st,q⟩:=q;rw[ex]at q;cases e:ev cal me M with
 |none=>rw[e]at q;exact(show False from q).elim
 |some v =>
  rw[e]at q;cases v<;>first|exact(show False from q).elim|skip
  rename_i n;dsimp only at q;by_cases c:noL M=true/\0<=n/\n<=10000
  .rw[if_pos c]at q;refine⟨B,E,O,M,[.int n],(range n.toNat).map λ(k:Nat)=>.int ((0:Int)+k),st,by rw[evs,e];rfl,(show bN .rng [.int n]=if -(2 ^ 62)<=n/\n<2 ^ 62 then some ((range n.toNat).map λ(k:Nat)=>.int ((0:Int)+k))else none from rfl).trans (if_pos ⟨by omega,by omega⟩),λJ H1 s1 a0 D' hD=>?_⟩;have a1:=a0.weak (mU (st.keep.trans s1));refine sS a1 (by simp;omega) hD λbs H' ac s2 eD nd hb=>?_
   obtain⟨a2,k'⟩:=st.storeL (n:=n.toNat) (ltN hi hl) c.1 (s1.trans s2) (s1.free hD) eD (by simpa using ac) nd λb h=>⟨s1.free (hb b h).1,(hb b h).2⟩
   exact q _ _ _ a2 k'
  .rw[if_neg c]at q;exact(show False from q).elim
end
section
variable{K:Mx}{B H:Hp}{E O:List Addr}{M:Rho}{σ:St}
def Gz(J:aN K (bQ B O H1 L) E Z H' C Y)(k:bZ (bQ B O H1 L) O Z M C σ Y):ai (aj H1 O) (aj H' Z):=λb u e=>by
 have hb:b∉O:=λz=>by rw[lx z]at e;exact aT e
 have hg:bQ B O H1 L b=some u:=ca b u e;rw[bp]
 .exact J.keep b u hg
 .intro z;rcases k.new b z with q|q
  .exact hb q
  .rw[hg]at q;cases q
def A5{ms:List ME}(st:aN K B E O H M σ):aN K (bQ B O H (a_ ms M σ)) E O H (bu ms M) σ/\(bu ms M).length=M.length:=by
 have base:∀L:List Addr,(∀a∈L,∀(j:Nat) (ys:MV),(bu ms M)[j]?=some (some ys)->eM ys=true->σ[j]?≠some (some (.ref a)))->(∀(j:Nat) (m:MV),(bu ms M)[j]?=some (some m)->(∃ys,m=.brw ys/\M[j]?=some (some (.own ys))/\∃a,σ[j]?=some (some (.ref a))/\a∈L)\/M[j]?=some (some m))->(bu ms M).length=M.length ->
   (∀a∈L,∀(j:Nat) (a0:List (List PV)) (c:Addr) (us:List V),M[j]?=some (some (.ownL a0))->σ[j]?=some (some (.ref c))->H c=some (.lst us)->V.ref a∉us) ->
   aN K (bQ B O H L) E O H (bu ms M) σ:=λL h1 h2 h3 h4=>by
  have gl:=mU (O:=O) (L:=L) st.keep;have lg:=fh (O:=O) (L:=L) st.keep;refine⟨gl,st.here,st.sub,λa ha z=>st.old a ha (lg.free z),h3.trans st.len,λj m e=>?_,λc d ps qs ad bB e1 Z p1 p2 e3 e4=>?_
   ,fc st.inn (λj b3 e=>by
    rcases h2 j _ e with⟨_,z,_⟩|Z
    .cases z
    .exact⟨Z,rfl,λ_ _ _ h=>h⟩) λj m c e _ o ec=>.inl (by
    rcases h2 j _ e with⟨_,z,_⟩|Z
    .rw[z]at o;cases o
    .exact⟨m,Z,o,ec⟩)
   ⟩
  .rcases h2 j m e with⟨ys,rfl,Z,a,ea,J⟩|Z
   .obtain⟨u,eu,a',us,rfl,q1,q2,q3,q4⟩:=st.slot j _ Z;rw[ea]at eu;cases eu;refine⟨_,ea,a,us,rfl,SqL.of ?_,q2⟩;unfold bQ;rw[if_pos q3,if_pos J];exact q1
   .obtain⟨u,eu,q⟩:=st.slot j m Z;refine⟨u,eu,?_⟩;cases m with
    |val v=>exact q
    |own ys =>
     obtain⟨a,us,rfl,q1,q2,q3,q4⟩:=q;refine⟨a,us,rfl,q1,q2,q3,?_⟩;unfold bQ;rw[if_pos q3,if_neg λJ=>h1 a J j (.own ys) e rfl eu];exact q4
    |ownD ys =>
     obtain⟨a,rfl,q1,q3,q4⟩:=q;refine⟨a,rfl,q1,q3,?_⟩;unfold bQ;rw[if_pos q3,if_neg λJ=>h1 a J j (.ownD ys) e rfl eu];exact q4
    |ownL a5 =>
     obtain⟨a,bs,rfl,q1,q2,q3,q4,q5⟩:=q;refine⟨a,bs,rfl,q1,q2.base λb hb ho hB=>?_,q3,?_,q5⟩
     .unfold bQ;rw[if_pos ho,if_neg λbG=>h4 b bG j a5 a _ Z eu q1 (fC.mpr hb)];exact hB
     .unfold bQ;rw[if_pos q3,if_neg λJ=>h1 a J j (.ownL a5) e rfl eu];exact q4
    |brwD ys=>obtain⟨a,rfl,q1⟩:=q;exact⟨a,rfl,ai.rd lg q1⟩
    |brw ys=>obtain⟨a,us,rfl,q1,q2⟩:=q;exact⟨a,us,rfl,lg.seq q1,q2⟩
  .rcases h2 c _ e1 with⟨_,rfl,_⟩|e1
   .cases p1
   .rcases h2 d _ Z with⟨_,rfl,_⟩|Z
    .cases p2
    .exact st.apart c d ps qs ad bB e1 Z p1 p2 e3 e4
 have plain:bu ms M=M->a_ ms M σ=[]->aN K (bQ B O H (a_ ms M σ)) E O H (bu ms M) σ/\(bu ms M).length=M.length:=λe1 Z=>by
  rw[Z];exact⟨base [] (λa ha=>by simp at ha) (λj m e=>.inr (by rw[e1]at e;exact e)) (by rw[e1]) (λa ha=>by simp at ha),by rw[e1]⟩
 match ms with
 | []=>exact plain rfl rfl
 | [.bor i] =>
  cases Y:(M[i]?).join with
  |none=>exact plain (by simp[bu,Y]) (by simp[a_,Y])
  |some m =>
   cases m with
   |val _=>exact plain (by simp[bu,Y]) (by simp[a_,Y])
   |brw _=>exact plain (by simp[bu,Y]) (by simp[a_,Y])
   |ownD _=>exact plain (by simp[bu,Y]) (by simp[a_,Y])
   |ownL _=>exact plain (by simp[bu,Y]) (by simp[a_,Y])
   |brwD _=>exact plain (by simp[bu,Y]) (by simp[a_,Y])
   |own xs =>
    have el:bu [.bor i] M=put M i (.brw xs):=by simp[bu,Y]
    have e0:=bU Y;obtain⟨u,eu,a,us,rfl,q1,q2,q3,q4⟩:=st.slot i _ e0;have eL:a_ [.bor i] M σ=[a]:=by simp[a_,Y,eu]
    have a8:i<M.length:=(II.mp e0).1;rw[eL];refine⟨base [a] (λb hb j ys e oy z=>?_) (λj m e=>?_) (by rw[el,put_len]) (λb hb j a0 c us f1 f2 f3=>by
     rw[Jd.mp hb];exact(st.inn j a0 c us f1 f2 f3 i (.own xs) (λz=>by subst z;rw[e0]at f1;cases f1) e0).2 a rfl eu),by rw[el,put_len]⟩
    .have:b=a:=by simpa using hb
     subst this;rw[el]at e;have a9:i≠j:=λz=>by subst z;rw[af a8]at e;cases e;cases oy
     rw[aa a9]at e;exact st.apart i j (.own xs) ys b a9 e0 e rfl oy eu z
    .rw[el]at e;by_cases bc:i=j
     .subst bc;rw[af a8]at e;cases e;exact .inl ⟨xs,rfl,e0,a,eu,by simp⟩
     .rw[aa bc]at e;exact .inr e
 | .var _::_=>exact plain rfl rfl
 | .cst _::_=>exact plain rfl rfl
 | .glob _ _::_=>exact plain rfl rfl
 | .bin _ _ _::_=>exact plain rfl rfl
 | .neg _::_=>exact plain rfl rfl
 | .not _::_=>exact plain rfl rfl
 | .and _ _::_=>exact plain rfl rfl
 | .or _ _::_=>exact plain rfl rfl
 | .ite _ _ _::_=>exact plain rfl rfl
 | .cmp _ _ _::_=>exact plain rfl rfl
 | .chain _ _ _ _ _::_=>exact plain rfl rfl
 | .tup _::_=>exact plain rfl rfl
 | .lst _::_=>exact plain rfl rfl
 | .idx _ _::_=>exact plain rfl rfl
 | .slice _ _ _::_=>exact plain rfl rfl
 | .blt _ _::_=>exact plain rfl rfl
 | .call _ _::_=>exact plain rfl rfl
 | .callD _ _ _::_=>exact plain rfl rfl
 | .comp _ _ _ _ _::_=>exact plain rfl rfl
 | .dget _ _ _::_=>exact plain rfl rfl
 | .dat _ _::_=>exact plain rfl rfl
 | .dIn _ _ _::_=>exact plain rfl rfl
 | .bor _::_::_=>exact plain rfl rfl
def jB(h:(bu ms M)[j]?=some (some (.brw ys))):M[j]?=some (some (.brw ys))\/(ms=[.bor j]/\M[j]?=some (some (.own ys))):=by
 unfold bu at h;split at h
 .rename_i i;split at h
  .rename_i xs Z;have e0:=bU Z;have Y:=(II.mp e0).1;by_cases J:i=j
   .subst J;rw[af Y]at h
    simp_all
   .rw[aa J]at h;exact .inl h
  .exact .inl h
 .exact .inl h
def kA{j:Nat}(h:(bu ms M)[j]?=some (some (.brwD ys))):M[j]?=some (some (.brwD ys)):=by
 unfold bu at h;split at h
 .rename_i i;split at h
  .rename_i xs Z;have e0:=bU Z;have Y:=(II.mp e0).1;by_cases J:i=j
   .subst J;rw[af Y]at h;cases h
   .rw[aa J]at h;exact h
  .exact h
 .exact h
def mZ :(bu ms M).length=M.length:=by
 unfold bu;split
 .split
  .exact put_len
  .rfl
 .rfl
def uV{ms:List ME}{H1 H':Hp}{O':List Addr}{C:Rho}{aL:St}(st:aN K B E O H1 M σ)(J:aN K (bQ B O H1 (a_ ms M σ)) E O' H' C aL)(k:bZ (bQ B O H1 (a_ ms M σ)) O O' (bu ms M) C σ aL) :
  aN K B E O' H' (bn ms M C) aL/\bZ B O O' M (bn ms M C) σ aL:=by
 have lg:=fh (O:=O) (L:=a_ ms M σ) st.keep;have bG:=Gz J k;have stay:∀a,B a≠none->a∈O->a∈O':=λa h1 h2=>k.stay a (λz=>h1 (lg.free z)) h2
 have new:∀a∈O',a∈O\/B a=none:=λa h=>(k.new a h).imp id lg.free
 have slot:∀(j:Nat) (m:MV),C[j]?=some (some m)->(∀ys,m=.brw ys->¬ (ms=[.bor j]/\M[j]?=some (some (.own ys))))->∃u,aL[j]?=some (some u)/\e_ K B O' H' m u:=λj m e hn=>by
  obtain⟨u,eu,q⟩:=J.slot j m e;refine⟨u,eu,?_⟩;cases m with
  |val v=>exact q
  |own ys=>obtain⟨a,us,rfl,q1,q2,q3,q4⟩:=q;exact⟨a,us,rfl,q1,q2,q3,lg.free q4⟩
  |brw ys =>
   obtain⟨e1,e2⟩:=k.brw j (.brw ys) rfl e;rcases jB e1 with Z|Z
   .obtain⟨w,ew,a,us,rfl,q1,q2⟩:=st.slot j _ Z;rw[eu,ew]at e2;cases e2;exact⟨a,us,rfl,q1,Reps.mono bG _ q2⟩
   .exact absurd Z (hn ys rfl)
  |ownD ys=>obtain⟨a,rfl,q1,q3,q4⟩:=q;exact⟨a,rfl,q1,q3,lg.free q4⟩
  |ownL bT=>obtain⟨a,bs,rfl,q1,q2,q3,q4,q5⟩:=q;exact⟨a,bs,rfl,q1,q2.base λ_ _ _ h=>lg.free h,q3,lg.free q4,q5⟩
  |brwD ys =>
   obtain⟨e1,e2⟩:=k.brw j (.brwD ys) rfl e;obtain⟨w,ew,a,rfl,q1⟩:=st.slot j _ (kA e1);rw[eu,ew]at e2;cases e2;exact⟨a,rfl,q1⟩
 by_cases hA:∃i a1 xs,ms=[.bor i]/\(M[i]?).join=some (.own a1)/\(C[i]?).join=some (.brw xs)
 .obtain⟨i,a1,xs,rfl,h0,h1⟩:=hA;have eb:bn [.bor i] M C=put C i (.own xs):=by simp[bn,h0,h1]
  rw[eb];have e0:=bU h0;have e1:=bU h1;have bc:i<C.length:=(II.mp e1).1;obtain⟨el,es⟩:=k.brw i (.brw xs) rfl e1;have exs:xs=a1:=by
   rcases jB el with Z|⟨_,Z⟩
   .rw[e0]at Z;cases Z
   .rw[e0]at Z;cases Z;rfl
  subst exs;obtain⟨w,ew,a,us,rfl,q1,q2,q3,q4⟩:=st.slot i _ e0;have eL:a_ [.bor i] M σ=[a]:=by simp[a_,h0,ew]
  have ga:bQ B O H1 (a_ [.bor i] M σ) a=some (.lst us):=by
   unfold bQ;rw[eL,if_pos q3,if_pos (by simp)];exact q1
  have a2:∀(j:Nat) (ys:MV) (ad:Addr),C[j]?=some (some ys)->eM ys=true->aL[j]?=some (some (.ref ad))->ad≠a:=λj ys ad h1 oy h2 z=>by
   obtain⟨u,eu,qq⟩:=J.slot j _ h1;rw[h2]at eu;cases eu;cases ys with
   |own ys =>
    obtain⟨b,_,e2,_,_,_,q⟩:=qq;cases e2;rw[z,ga]at q;cases q
   |ownD ys =>
    obtain⟨b,e2,_,_,q⟩:=qq;cases e2;rw[z,ga]at q;cases q
   |ownL bT =>
    obtain⟨b,bs,e2,_,_,_,q,_⟩:=qq;cases e2;rw[z,ga]at q;cases q
   |val _=>cases oy
   |brw _=>cases oy
   |brwD _=>cases oy
  refine⟨⟨lg.trans J.keep,J.here,J.sub,st.old,by rw[put_len];exact J.len,λj m e=>?_,λc d ps qs ad bO e1 e2 p1 p2 Z e4=>?_
   ,fc J.inn (λj b4 e=>by
    have hj:i≠j:=λz=>by subst z;rw[af bc]at e;cases e
    rw[aa hj]at e;exact⟨e,rfl,λ_ _ _ h=>h⟩) λj m c e _ o ec=>by
    by_cases hj:i=j
    .subst hj;rw[es,ew]at ec;cases ec;refine .inr λk' b4 a' cP f1 f2 f3 z=>?_
     obtain⟨u,Z,c1,bs,rfl,qq,r,_⟩:=J.slot k' _ f1;rw[f2]at Z;cases Z;rw[qq]at f3;cases f3;have:=(r.at a (fC.mp z)).2.2;rw[ga]at this;cases this
    .rw[aa hj]at e;exact .inl ⟨m,e,o,ec⟩
   ⟩,⟨stay,new,λj ys Y e=>?_,by rw[put_len];exact k.len.trans mZ
   ⟩⟩
  .by_cases ar:i=j
   .subst ar;rw[af bc]at e;cases e;refine⟨_,by rw[es];exact ew,a,us,rfl,J.keep _ _ ga,Reps.mono bG _ q2,k.stay a (by rw[ga];simp) q3,q4⟩
   .rw[aa ar]at e;exact slot j m e λys _ ⟨z,_⟩=>ar (by cases z;rfl)
  .by_cases hc:i=c
   .subst hc;rw[es,ew]at Z;cases Z;rw[aa bO]at e2;exact a2 d qs _ e2 p2 e4 rfl
   .rw[aa hc]at e1;by_cases hd:i=d
    .subst hd;rw[es,ew]at e4;cases e4;exact a2 c ps _ e1 p1 Z rfl
    .rw[aa hd]at e2;exact J.apart c d ps qs ad bO e1 e2 p1 p2 Z e4
  .by_cases ar:i=j
   .subst ar;rw[af bc]at e;cases e;cases Y
   .rw[aa ar]at e;obtain⟨e1,e2⟩:=k.brw j ys Y e;cases ys with
    |brw ys =>
     rcases jB e1 with Z|⟨z,_⟩
     .exact⟨Z,e2⟩
     .cases z;exact absurd rfl ar
    |brwD ys=>exact⟨kA e1,e2⟩
    |val _=>cases Y
    |own _=>cases Y
    |ownD _=>cases Y
    |ownL _=>cases Y
 .have eb:bn ms M C=C:=by
   unfold bn;split
   .rename_i i;split
    .rename_i a1 xs h0 h1;exact absurd ⟨i,a1,xs,rfl,h0,h1⟩ hA
    .rfl
   .rfl
  rw[eb];have no:∀(j:Nat) (ys:List PV),C[j]?=some (some (.brw ys))->¬ (ms=[.bor j]/\M[j]?=some (some (.own ys))):=λj ys e ⟨h1,h2⟩=>hA ⟨j,ys,ys,h1,by rw[h2];rfl,by rw[e];rfl⟩
  refine⟨⟨lg.trans J.keep,J.here,J.sub,st.old,J.len,λj m e=>slot j m e λys z=>no j ys (by rw[e,z]),J.apart
   ,J.inn
   ⟩,⟨stay,new,λj ys Y e=>?_,k.len.trans mZ
   ⟩⟩
  obtain⟨e1,e2⟩:=k.brw j ys Y e;cases ys with
  |brw ys =>
   rcases jB e1 with Z|Z
   .exact⟨Z,e2⟩
   .exact absurd Z (no j ys e)
  |brwD ys=>exact⟨kA e1,e2⟩
  |val _=>cases Y
  |own _=>cases Y
  |ownD _=>cases Y
  |ownL _=>cases Y
end
section
variable{X:Cx}{T:Tab}{k:Nat}{cal:Cal}
def A6(K:Mx)(n:Nat)(g:TG)(tk:PV->Rho->Option Rho):Prop:=
 ∀B E O H M C σ x u (Q:St->Hp->Prop),σ.length=n->aN K B E O H M σ->Rep K (aj H O) x u->tk x M=some C ->
  (∀J,aN K B E O H C J->bZ B O O M C σ J->Q J H)->g u σ H Q
def yK{K:Mx}{n:Nat}{ms:List ME}{g:TG}{tk:PV->Rho->Option Rho}{body:List MS}{D:jP}{σ:St}{H1:Hp}{J:It}(hn:σ.length=n)(hg:A6 K n g tk){B:Hp}{E O:List Addr}{M:Rho}{xs:List PV}(ac:aN K B E O H1 M σ)(it:mR K J xs (aj H1 O) (bQ B O H1 (a_ ms M σ)))
  (q:gh K B E O M σ D ((aM (λx C=>dA (tk x C) λY=>exs cal body Y) xs (bu ms M)).back ms M)):Ad (λ_ _ R=>R J H1) g (tSs K cal body) D σ H1:=by
 obtain⟨bG,_⟩:=A5 (ms:=ms) ac;refine⟨λi m ao H'=>m=xs.length-i/\i<=xs.length/\∃C O',aN K (bQ B O H1 (a_ ms M σ)) E O' H' C ao/\bZ (bQ B O H1 (a_ ms M σ)) O O' (bu ms M) C σ ao /\
  aM (λx C=>dA (tk x C) λY=>exs cal body Y) (xs.drop i) C=aM (λx C=>dA (tk x C) λY=>exs cal body Y) xs (bu ms M),⟨xs.length,by simp,IY _,bu ms M,O,bG,.refl,by simp⟩,?_⟩
 rintro i m ao H' ⟨rfl,hi,C,O',Z,k',eq⟩;by_cases a1:i<xs.length
 .right;have ex:xs[i]?=some xs[i]:=IF a1;refine⟨it.go i _ H' Z.keep ex,λa2 H2=>∃m',m'<xs.length-i/\(m'=xs.length-(i+1)/\i+1<=xs.length/\∃C O',aN K (bQ B O H1 (a_ ms M σ)) E O' H2 C a2/\bZ (bQ B O H1 (a_ ms M σ)) O O' (bu ms M) C σ a2 /\
   aM (λx C=>dA (tk x C) λY=>exs cal body Y) (xs.drop (i+1)) C=aM (λx C=>dA (tk x C) λY=>exs cal body Y) xs (bu ms M)),λa2 H2 z=>z,λu H2 y=>?_⟩
  obtain⟨s2,hr⟩:=it.yld i _ H' u H2 Z.keep ex y;have bL:=Gz Z k';have hx:Rep K (aj H2 O') xs[i] u:=hr O' Z.here (bL.trans (ax s2));rw[drop_eq_getElem_cons a1,aM]at eq;cases et:tk xs[i] C with
  |none =>
   rw[et]at eq;rw[<- eq]at q;exact(show False from q).elim
  |some aL =>
   rw[et,show dA (some aL) (λY=>exs cal body Y)=exs cal body aL from rfl]at eq;have a9:ao.length=n:=by rw[<- Z.len,k'.len,mZ,ac.len];exact hn
   refine hg _ E O' H2 C aL ao _ u _ a9 (Z.mono s2) hx et λa2 bO k2=>?_
   refine⟨_,E,O',aL,bO,?_⟩;have kk:=k'.trans k2;cases er:exs cal body aL with
   |next a3 =>
    rw[er]at eq;exact λa4 H3 O3 a0 k3=>⟨_,by omega,rfl,a1,a3,O3,a0,kk.trans k3,eq⟩
   |cont a3 =>
    rw[er]at eq;exact λa4 H3 O3 a0 k3=>⟨_,by omega,rfl,a1,a3,O3,a0,kk.trans k3,eq⟩
   |brk a3 =>
    rw[er]at eq;rw[<- eq]at q;exact λa4 H3 O3 a0 k3=>by
     obtain⟨a6,kb⟩:=uV ac a0 (kk.trans k3);exact q a4 H3 O3 a6 kb
   |ret v =>
    rw[er]at eq;rw[<- eq]at q;exact λw H3 s3 r=>q w H3 ((fh ac.keep).trans s3) r
   |retF ys =>
    rw[er]at eq;rw[<- eq]at q;exact λp us H3 s3 hp he r=>q p us H3 ((fh ac.keep).trans s3) ((fh ac.keep).free hp) he r
   |bad =>
    rw[er]at eq;rw[<- eq]at q;exact(show False from q).elim
 .left;have ei:i=xs.length:=by omega
  subst ei;rw[drop_length,aM]at eq;rw[<- eq]at q;obtain⟨a6,kb⟩:=uV ac Z k';exact⟨it.stop H' Z.keep,q ao H' O' a6 kb⟩
def yL{K:Mx}(Z:σ.length=n)(hg:A6 K n g tk)(st:aN K B E O H M σ)(e1:evs cal ms M=some vs)(e2:bN k' vs=some xs)
  (q:gh K B E O M σ D ((aM (λx C=>dA (tk x C) λY=>exs cal body Y) xs (bu ms M)).back ms M)):Ad (tW K cal k' ms) g (tSs K cal body) D σ H:=by
 exact⟨B,E,O,M,vs,xs,st,e1,e2,λJ H1 s1 it=>yK Z hg (st.mono s1) it q⟩
def A7{K:Mx}(hi:i<n):A6 K n (hZ i) (λx M=>some (put M i (.val x))):=by
 intro B E O H M C σ x u Q Z st r e q;cases e;obtain⟨J,Y⟩:=st.store (i:=i) (by simp[*]) r;exact q _ J Y
def Eh(g:Gf X T k cal)(d:Df X)(hi:X.N[i]?=some x)(hx:Loc X.env.scope x)(hw:PI X (.Name x px) it (tW X.K cal Y src))(J:gA it=true)(Z:PSs X b (tSs X.K cal body)) :
  PS X (.For (.Name x px) it b [] pos) (tS X.K cal (.for1 i Y src body)):=by
 refine PS.imp' (sf d.own g.calm hw (lq d.nd hi hx (.inl (d.fn x))) Z (by intro v;cases it<;>first|rfl|(injection J))) λD σ H hl q=>?_
 refine de q λB E O M st q=>?_
 rw[ex]at q;cases e:(evs cal src M).bind (bN Y)with
 |none=>rw[e]at q;exact(show False from q).elim
 |some xs =>
  rw[e]at q;simp only[rp]at e;refine ae e λvs e1 e2=>?_
  exact yL (tk:=λx M=>some (put M i (.val x))) rfl (A7 (ltN hi hl)) st e1 e2 q
end
noncomputable def qf:List Nat->TGs
 | []=>Fo
 |i::is=>BC (hZ i) (qf is)
section
variable{X:Cx}{T:Tab}{k:Nat}{cal:Cal}
theorem m5:∀{is}{J},dQ X.N X.env.scope is J=true->(assignEach J X.env).length=is.length/\(assignEach J X.env).findIdx? (·.1)=none
 | [],[],_=>⟨rfl,rfl⟩
 | [],_::_,h=>dq h
 | _::_,[],h=>dq h
 |i::is,e::J,h=>by
  cases e<;>first|(exact dq h;done)|skip
  simp only[pV,tr]at h;rename_i x p;obtain⟨h1,h2⟩:=m5 h.2;refine⟨?_,?_⟩
  .show((false,assign (.Name x p) X.env)::assignEach J X.env).length=_;simp[h1]
  .show((false,assign (.Name x p) X.env)::assignEach J X.env).findIdx? (·.1)=none;rw[findIdx?_cons];simp[h2]
theorem oV(d:Df X):∀{is}{J},dQ X.N X.env.scope is J=true->PGs X J (qf is)
 | [],[],_=>Ac
 | [],_::_,h=>dq h
 | _::_,[],h=>dq h
 |i::is,e::J,h=>by
  cases e<;>first|(exact dq h;done)|skip
  simp[pV,tr]at h;rename_i x p;exact wO (lq d.nd h.1.1.1 (il h.1.1.2) (.inl (d.fn x))) (oV d h.2) rfl
theorem rJ:∀{is}{Y},dQ X.N X.env.scope is Y=true->∀i∈is,i<X.N.length
 | [],[],_=>λi hi=>by simp at hi
 | [],_::_,h=>dq h
 | _::_,[],h=>dq h
 |i::is,e::Y,h=>λj J=>by
  cases e<;>first|(exact dq h;done)|skip
  simp[pV,tr]at h;rcases IM.mp J with rfl|J
  .exact(II.mp h.1.1.1).1
  .exact rJ h.2 j J
theorem uW{K:Mx}:∀{is}{vs}{us}{B}{E O}{H}{M C}{σ}{Q:St->Hp->Prop},(∀i∈is,i<σ.length)->aN K B E O H M σ->Reps K (aj H O) vs us->pP is vs M=some C ->
  (∀J,aN K B E O H C J->bZ B O O M C σ J->Q J H)->qf is us σ H Q
 | [],[],us,_,_,_,_,_,_,_,_,_,st,r,e,q=>by
  subst r;cases e;exact⟨rfl,q _ st .refl⟩
 | [],_::_,_,_,_,_,_,_,_,_,_,_,_,_,e,_=>by cases e
 | _::_,[],_,_,_,_,_,_,_,_,_,_,_,_,e,_=>by injection e
 |i::is,v::vs,us,B,E,O,H,M,C,σ,Q,hi,st,r,e,q=>by
  refine ak r λu r' Y r1 r2=>?_
  subst Y;obtain⟨Z,k1⟩:=st.store (i:=i) (hi i (.head _)) r1;refine⟨u,r',rfl,?_⟩;exact uW (λj hj=>by rw[JW];exact hi j (.tail _ hj)) Z r2 e λJ ac k'=>q J ac (k1.trans k')
def Ei{K:Mx}(hi:∀i∈is,i<n):A6 K n (Fp K is.length (qf is)) (eY is):=by
 intro B E O H M C σ x u Q Z st r e q;cases x with
 |tup vs =>
  refine ak r λa us J sq Y=>?_
  subst J;have hl:∀{is}{vs}{M C},pP is vs M=some C->vs.length=is.length:=by
   intro is
   induction is with
   |nil=>intro vs M C h;cases vs<;>simp[pP]at h ⊢
   |cons i is ih=>intro vs M C h;cases vs<;>simp[pP]at h ⊢;exact ih h
  exact⟨a,us,rfl,(be H O).seqT (d8 sq),by rw[<- Y.length];exact hl e,uW (λi h=>by rw[Z];exact hi i h) st Y e q⟩
 | _=>exact aT e
def Ej(g:Gf X T k cal)(d:Df X)(hi:dQ X.N X.env.scope is Y=true)(hw:PI X (.Tuple Y j tp) it (tW X.K cal Z src))(J:gA it=true)(hb:PSs X b (tSs X.K cal body)) :
  PS X (.For (.Tuple Y j tp) it b [] pos) (tS X.K cal (.forT is Z src body)):=by
 obtain⟨h1,h2⟩:=m5 hi;refine PS.imp' (sf d.own g.calm hw (Cq g.calm (oV d hi) h1 h2) hb (by intro v;cases it<;>first|rfl|(simp[gA]at J))) λD σ H hl q=>?_
 refine de q λB E O M st q=>?_
 rw[ex]at q;cases e:(evs cal src M).bind (bN Z)with
 |none=>rw[e]at q;exact(show False from q).elim
 |some xs =>
  rw[e]at q;simp only[rp]at e;refine ae e λvs e1 e2=>?_
  exact yL (tk:=eY is) hl (Ei (rJ hi)) st e1 e2 q
def uX(g:Gf X T k cal)(d:Df X)(hi:X.N[i]?=some x)(hx:Loc X.env.scope x)(hc:chk T me X.N X.env.scope v=true)(hs:oQ X.env.scope x px v me=true):∃t,PS X (.Assign [.Name x px] v pos) (vm t (hZ i))/\(∀σ H Q,tF X.K cal me σ H Q->t σ H Q)/\iX me=true:=by
 unfold oQ at hs;have hl:=au hs;obtain⟨c,w,_⟩:=hl;obtain rfl:=sE w;cases me with
 |comp k' src js cond elt =>
  obtain⟨e,y,py,it,ifs,scope,cpos,e0,h⟩:=ki hc;rw[e0]at hs ⊢;simp only[tr,Jr]at h;obtain⟨⟨⟨⟨h1,h2⟩,h3⟩,h4⟩,h5⟩:=h;have hw:=kz (tg:=.Name y py) (λz=>by cases z) g h2 (λxs Z=>⟨sounds src g Z,cD Z⟩) (λm x hm hx=>match src,hm with|[m'],rfl=>(aw m' g (cj hx).1.1).1);exact⟨_,mC d.nd hi hx (ku h1) g.calm hw.1 (λJ Y C fp=>sO h3 λc hc=>(aw cond (g.blk y _ scope J Y C fp) hc).2) (λJ Y C fp=>(aw elt (g.blk y _ scope J Y C fp) h4).1) (oU d hs) (by have:=hw.2;intro v;cases it<;>first|rfl|(simp[gA]at this)) (.inl (d.fn x)),
   λσ H Q q=>sL.comp_go h5 q,rfl⟩
 | _=>cases (show false=true from hc)
def GA(Y:iX me=true){K:Mx}(q:tE K cal me σ H Q):tF K cal me σ H Q:=by
 obtain⟨B,E,O,M,v,st,J,q⟩:=q;have hv:∃xs,v=.lst xs:=by
  cases me with
  |lst es =>
   rw[ev,rp]at J;obtain⟨vs,_,hv⟩:=J;split at hv
   .cases hv;exact⟨_,rfl⟩
   .exact aT hv
  |comp _ _ _ _ _=>exact rG M v J
  |blt b es=>cases b<;>first|exact eN (.inl rfl) M v J|exact eN (.inr (.inl rfl)) M v J|exact eN (.inr (.inr (.inl rfl))) M v J|exact eN (.inr (.inr (.inr (.inl rfl)))) M v J|exact eN (.inr (.inr (.inr (.inr rfl)))) M v J|(simp[iX]at Y)
  | _=>injection Y
 obtain⟨xs,rfl⟩:=hv;exact⟨B,E,O,M,xs,st,J,λp us H' s Z he r=>q _ _ s (uP st.here Z he r)⟩
end
section
variable{T:Tab}{N:List Str}{sc:Scope}
def A8(h:gC T N sc (.set i e) s=true):∃x px v pos,s=.Assign [.Name x px] v pos/\(N[i]?==some x&&ij sc x&&aR x&&chk T e N sc v&&!ba e&&(cv v||oQ sc x px v e))=true:=by
 refine ae (au h) λq J h1=>?_
 obtain⟨pos,rfl⟩:=jq J;exact⟨_,_,_,_,rfl,h1⟩
def A9(h:gC T N sc (.setOwn i e) s=true):∃x px v pos,s=.Assign [.Name x px] v pos/\(N[i]?==some x&&ij sc x&&aR x&&chk T e N sc v&&iX e&&(cv v||oQ sc x px v e))=true:=by
 refine ae (au h) λq J h1=>?_
 obtain⟨pos,rfl⟩:=jq J;exact⟨_,_,_,_,rfl,h1⟩
def sT (h:gC T N sc (.append i e) s=true):∃x p m ap v cp pos,s=.Expr (.Call (.Attribute (.Name x p) m ap) [v] [] cp) pos/\(a7 N sc i x&&m==("append":Str)&&chk T e N sc v&&!ba e&&aC v&&ap.endLine==cp.line)=true:=by
 refine ae (au h) λq Y h1=>?_
 refine ae (au h1) λv Z h2=>?_
 refine iI (uG Y) λp pos J=>?_
 subst J;rw[c_ Z];exact⟨_,_,_,_,_,_,_,rfl,h2⟩
def sU (h:gC T N sc (.extend i e) s=true):∃x p m ap v cp pos,s=.Expr (.Call (.Attribute (.Name x p) m ap) [v] [] cp) pos/\(a7 N sc i x&&m==("extend":Str)&&chk T e N sc v&&aC v&&ap.endLine==cp.line)=true:=by
 refine ae (au h) λq Y h1=>?_
 refine ae (au h1) λv Z h2=>?_
 refine iI (uG Y) λp pos J=>?_
 subst J;rw[c_ Z];exact⟨_,_,_,_,_,_,_,rfl,h2⟩
def sV(h:gC T N sc (.setIdx i k e) s=true):∃x p s' sp v pos,s=.Assign [.Subscript (.Name x p) s' sp] v pos/\(a7 N sc i x&&chk T k N sc s'&&bX s'&&chk T e N sc v&&!ba e&&cv v)=true:=by
 obtain⟨q,J,h1⟩:=au h;obtain⟨p,sp,pos,rfl⟩:=uH J;exact⟨_,_,_,_,_,_,rfl,h1⟩
def yM(h:gC T N sc (.dput i k e) s=true):∃x p s' sp v pos,s=.Assign [.Subscript (.Name x p) s' sp] v pos/\(a7 N sc i x&&chk T k N sc s'&&bX s'&&chk T e N sc v&&!ba e&&cv v)=true:=by
 refine ae (au h) λq Y h1=>?_
 refine Bz (uH Y) λp sp pos J=>?_
 subst J;exact⟨_,_,_,_,_,_,rfl,h1⟩
def yN(h:gC T N sc (.newD m i) s=true):∃x p dp pos,s=.Assign [.Name x p] (.Dict [] [] dp) pos/\(N[i]?==some x&&ij sc x&&aR x)=true:=by
 refine ae (au h) λq J h1=>?_
 rw[tr]at h1;obtain⟨pos,rfl⟩:=jq J;obtain⟨p,Y⟩:=yb h1.1;rw[Y];exact⟨_,_,_,_,rfl,h1.2⟩
def A_(h:gC T N sc (.ite c a b) s=true):∃t x y pos,s=.If t x y pos/\(chk T c N sc t&&chkSs T N sc a x&&chkSs T N sc b y)=true:=by
 cases s with
 |If t x y pos=>exact⟨t,x,y,pos,rfl,h⟩
 | _=>cases (show false=true from h)
def yO(h:gC T N sc (.for1 i k src body) s=true):∃x px it b pos,s=.For (.Name x px) it b [] pos/\(N[i]?==some x&&ij sc x&&aR x&&nU sc false (λxs=>chks T src N sc xs) k it&&chkSs T N sc body b)=true:=by
 simp[AL]at h;split at h<;>first|(exact aT h;done)|(rename_i J;exact aT J;exact⟨_,_,_,_,_,rfl,h⟩)|(injections;done)|(injections;subst_vars;exact⟨_,_,_,_,_,rfl,h⟩)
def yP(h:gC T N sc (.forT is k src body) s=true):∃Y j Z it b pos,s=.For (.Tuple Y j Z) it b [] pos/\(dQ N sc is Y&&nU sc true (λxs=>chks T src N sc xs) k it&&chkSs T N sc body b)=true:=by
 simp[AM]at h;split at h<;>first|(exact aT h;done)|(rename_i J;exact aT J;exact⟨_,_,_,_,_,_,rfl,h⟩)|(injections;done)|(injections;subst_vars;exact⟨_,_,_,_,_,_,rfl,h⟩)
def Ba(h:gC T N sc (.ret e) s=true):∃v pos,s=.Return (some v) pos/\(chk T e N sc v&&!ba e)=true:=by
 refine ae (au h) λv J h1=>?_
 obtain⟨pos,rfl⟩:=uI J;exact⟨_,_,rfl,h1⟩
def sW(h:gC T N sc (.retOwn i) s=true):∃x p pos,s=.Return (some (.Name x p)) pos/\(a7 N sc i x)=true:=by
 refine ae (au h) λv J h1=>?_
 refine ae (au h1) λx Y h2=>?_
 obtain⟨pos,rfl⟩:=uI J;obtain⟨p,rfl⟩:=ya Y;exact⟨_,_,_,rfl,h2⟩
end
def v8(g:Gf X T k cal)(d:Df X)(h:gC T X.N X.env.scope (.set i e) s=true):PS X s (tS X.K cal (.set i e)):=by
 refine de (A8 h) λx px v pos Y hc=>?_
 subst Y;simp only[tr,Ms,IS,Jr]at hc;refine Fh hc λh1 h2 h3 Z h5 J=>?_
 rcases J with J|J
 .exact Gv d h1 (il h2) (aw e g Z).1 h5 J
 .obtain⟨t,p,hp,hf⟩:=uX (pos:=pos) g d h1 (il h2) Z J;exact PS.imp' p λD σ H hl q=>hp _ _ _ (GA hf (yD (ltN h1 hl) h5 q))
noncomputable def Ek:MS->Bool
 | .freeze _=>true
 | .freezeL _=>true
 | _=>false
mutual
theorem yQ{T:Tab}{k:Nat}{cal:Cal}{X:Cx}(g:Gf X T k cal)(d:Df X):∀(m:MS) (s:Stmt),gC T X.N X.env.scope m s=true->PS X s (tS X.K cal m)
 | .set i e,s,h=>v8 g d h
 | .setOwn i e,s,h=>by
  obtain⟨x,px,v,pos,rfl,hc⟩:=A9 h;simp only[tr,Ms,IS]at hc;obtain⟨⟨⟨⟨⟨h1,h2⟩,h3⟩,h4⟩,Y⟩,Z⟩:=hc;rcases Z with Z|Z
  .exact Gw d h1 (il h2) (Ea g h4 Y) Z
  .obtain⟨t,p,hp,hf⟩:=uX (pos:=pos) g d h1 (il h2) h4 Z;exact PS.imp' p λD σ H hl q=>hp _ _ _ (yE (ltN h1 hl) q)
 | .append i e,s,h=>by
  obtain⟨x,p,m,ap,v,cp,pos,rfl,hc⟩:=sT h;simp only[tr,IS,Jr]at hc;obtain⟨⟨⟨⟨⟨h1,rfl⟩,h3⟩,h4⟩,Y⟩,Z⟩:=hc;exact yF (aw e g h3).1 h1 h4 Y (IS.mpr Z)
 | .setLN i e,s,h=>by
  obtain⟨⟨x,px,v⟩,e1,hc⟩:=au h;obtain⟨pos,rfl⟩:=jq e1;obtain⟨hc,a1⟩:=IW.mp hc;obtain⟨⟨y,py,it,scope,cpos,lp⟩,e2,hd⟩:=au a1;have e3:v=_:=yf e2;subst e3;simp only[tr,IS]at hc hd;have hw:=kz (tg:=.Name y py) (λz=>by cases z) g hd.2 (λxs J=>⟨sounds [e] g J,cD J⟩) (λm x hm hx=>by cases hm;exact(aw e g (by simp only[chks,tr]at hx;exact hx.1.1)).1);exact A4 g d hc.1.1.1 (il hc.1.1.2) hc.2 hd.1 hw.1 hw.2
 | .setL i n,s,h=>by
  obtain⟨q,e1,h1⟩:=au h;obtain⟨es,e2,h2⟩:=au h1;obtain⟨pos,rfl⟩:=jq e1;obtain⟨x,px,v⟩:=q;dsimp only at e2 h2 ⊢;obtain⟨lp,rfl⟩:=yd e2;simp only[tr,IS]at h2;obtain⟨⟨⟨⟨c1,c2⟩,c3⟩,c4⟩,rfl⟩:=h2;exact Eg d c1 (il c2) c4
 | .appI i k' e,s,h=>by
  obtain⟨q,e1,h1⟩:=au h;obtain⟨v,e2,h2⟩:=au h1;obtain⟨p,sp,pos,rfl⟩:=AK e1;obtain⟨x,sl,m,ap,args,cp⟩:=q;dsimp only at e2 h2 ⊢;have:=c_ e2;subst this;simp only[tr,Jr,IS]at h2;obtain⟨⟨⟨⟨⟨⟨⟨c1,rfl⟩,h3⟩,h4⟩,Y⟩,Z⟩,h7⟩,h8⟩:=h2;exact Ef (aw k' g h3).1 h4 (aw e g Y).1 c1 Z h7 (IS.mpr h8)
 | .freezeL _,s,h=>absurd (show false=true from h) tf
 | .extend i e,s,h=>by
  obtain⟨x,p,m,ap,v,cp,pos,rfl,hc⟩:=sU h;simp only[tr,IS]at hc;obtain⟨⟨⟨⟨h1,rfl⟩,h3⟩,Y⟩,Z⟩:=hc;exact yG (aw e g h3).1 h1 Y (IS.mpr Z)
 | .setIdx i kk e,s,h=>by
  obtain⟨x,p,s',sp,v,pos,rfl,hc⟩:=sV h;simp only[tr,Jr]at hc;obtain⟨⟨⟨⟨⟨h1,h2⟩,h3⟩,h4⟩,Y⟩,Z⟩:=hc;exact yH (aw kk g h2).1 (aw e g h4).1 h1 Y Z h3
 | .unpack _ _,s,h=>absurd (show false=true from h) tf
 | .expr _,s,h=>absurd (show false=true from h) tf
 | .ite c a b,s,h=>by
  obtain⟨t,x,y,pos,rfl,hc⟩:=A_ h;simp only[tr]at hc;exact HZ (aw c g hc.1.1).2 (soundSs g d a x hc.1.2) (soundSs g d b y hc.2)
 | .for1 i k' src body,s,h=>by
  obtain⟨x,px,it,b,pos,rfl,hc⟩:=yO h;simp only[tr,IS]at hc;obtain⟨⟨⟨⟨h1,h2⟩,h3⟩,h4⟩,Y⟩:=hc;have hw:=kz (tg:=.Name x px) (λz=>by cases z) g h4 (λxs J=>⟨sounds src g J,cD J⟩) (λm x hm hx=>match src,hm with|[m'],rfl=>(aw m' g (by simp only[chks,tr]at hx;exact hx.1.1)).1);exact Eh g d h1 (il h2) hw.1 hw.2 (soundSs g d body b Y)
 | .forT is k' src body,s,h=>by
  obtain⟨ts,j,tp,it,b,pos,rfl,hc⟩:=yP h;simp only[tr]at hc;obtain⟨⟨h1,h4⟩,Y⟩:=hc;have hw:=kz (tg:=.Tuple ts j tp) (λ_=>⟨_,_,_,rfl⟩) g h4 (λxs J=>⟨sounds src g J,cD J⟩) (λm x hm hx=>match src,hm with|[m'],rfl=>(aw m' g (by simp only[chks,tr]at hx;exact hx.1.1)).1);exact Ej g d h1 hw.1 hw.2 (soundSs g d body b Y)
 | .while _ _ _,s,h=>absurd (show false=true from h) tf
 | .ret e,s,h=>by
  obtain⟨v,pos,rfl,hc⟩:=Ba h;simp only[tr,Jr]at hc;exact Gx (aw e g hc.1).1 hc.2
 | .retF _,s,h=>absurd (show false=true from h) tf
 | .setCall _ _ _,s,h=>absurd (show false=true from h) tf
 | .clear _,s,h=>absurd (show false=true from h) tf
 | .retOwn i,s,h=>by
  obtain⟨x,p,pos,rfl,hc⟩:=sW h;exact yI hc
 | .retN,s,h=>absurd (show false=true from h) tf
 | .brk,s,h=>absurd (show false=true from h) tf
 | .cont,s,h=>absurd (show false=true from h) tf
 | .pass,s,h=>absurd (show false=true from h) tf
 | .never,s,h=>by
  refine wN.imp λD σ H q=>?_
  obtain⟨B,E,O,M,st,q⟩:=q;rw[ex]at q;exact q
 | .newD m i,s,h=>by
  obtain⟨x,p,dp,pos,rfl,hc⟩:=yN h;simp only[tr,IS]at hc;exact Eb d hc.1.1 (il hc.1.2)
 | .dput i mk me,s,h=>by
  obtain⟨x,p,s',sp,v,pos,rfl,hc⟩:=yM h;simp only[tr]at hc;exact Ec g (aw mk g hc.1.1.1.1.2).1 (aw me g hc.1.1.2).1 hc.1.1.1.1.1 hc.2
 | .freeze _,s,h=>absurd (show false=true from h) tf
theorem soundSs{T:Tab}{k:Nat}{cal:Cal}{X:Cx}(g:Gf X T k cal)(d:Df X):∀(ms:List MS) (ss:List Stmt),chkSs T X.N X.env.scope ms ss=true->PSs X ss (tSs X.K cal ms)
 | [],ss,h=>by
  cases ss with
  |nil=>exact Gy
  |cons _ _=>cases h
 |m::ms,ss,h=>by
  cases hm:Ek m with
  |true =>
   cases m<;>simp[Ek]at hm
   .cases h
   .exact v7 (soundSs g d ms ss h)
  |false =>
   cases ss with
   |nil=>cases m<;>first|(cases h;done)|cases hm
   |cons s ss =>
    have h:(gC T X.N X.env.scope m s&&chkSs T X.N X.env.scope ms ss)=true:=by cases m<;>first|exact h|(simp[Ek]at hm)
    simp only[tr]at h;exact Ed (yQ g d m s h.1) (soundSs g d ms ss h.2)
end
structure FnD(K:Mx)(x y:Str)(st:Stmt)(fa:Addr)(fd:FuncData):Prop where
 it:∃(c0 d0 k0 o0 m0:Value) (a0:Option Addr) (c1 t1:Value) (a1:Option Addr) (sl:Array (Option Value)),
  K.lookup fa=some ⟨c0,a1,.func fd,sl⟩/\PySem.W.codeIn K c1 y=true/\fd=PySem.W.fnOf x y (je st) (bb st) (ah st) d0 k0 o0 m0 a0 c1 t1
 kp:PySem.W.keepIn K (.ref fa)=true
theorem FnD.mk'{K:Mx}{st:Stmt} 
  (l:K.lookup J=some ⟨c0,a1,.func (PySem.W.fnOf x y (je st) (bb st) (ah st) d0 Z o0 m0 a0 Y t1),sl⟩) (c:PySem.W.codeIn K Y y=true) (k:PySem.W.keepIn K (.ref J)=true) :
  FnD K x y st J (PySem.W.fnOf x y (je st) (bb st) (ah st) d0 Z o0 m0 a0 Y t1):=⟨⟨_,_,_,_,_,_,_,_,_,_,l,c,rfl⟩,k⟩
theorem FnD.mkd{K:Mx}{st:Stmt} 
  (l:K.lookup J=some ⟨c0,a1,.func (PySem.W.fnOf x y (je st) (bb st) (ah st) (.ref T) Z o0 m0 a0 Y t1),sl⟩) (c:PySem.W.codeIn K Y y=true) (k:PySem.W.keepIn K (.ref J)=true) :
  FnD K x y st J (PySem.W.fnOf x y (je st) (bb st) (ah st) (.ref T) Z o0 m0 a0 Y t1):=.mk' l c k
structure uY(T:Tab)(K:Mx)(mg:Str->Option Value)(st:Stmt)(d:MD)(fa:Addr)(fd:FuncData):Prop where
 fn:FnD K d.name d.name st fa fd
 binds:bE K fd d.params []
 named:mg d.name=some (.ref fa)
 scope:dO d.names d.params (ah st)
 body:chkSs T d.names (ah st) d.body (bb st)=true
def aA{α:Type} :∀{us:List α},us.length=n+1->∃a t,us=a::t/\t.length=n
 | _::_,h=>⟨_,_,rfl,Nat.succ.inj h⟩
def bn1{K:Mx}(h:∀a,bindArgs fd ⟨[a],[]⟩=pure [(Y,a)]):bE K fd [Y] []:=.all λus Z=>by
 refine cf (aA Z) λa u1 J h1=>?_
 subst J;obtain rfl:=JJ.mp h1;exact h a
def bn2{K:Mx}(h:∀a b,bindArgs fd ⟨[a,b],[]⟩=pure [(Y,a),(Z,b)]):bE K fd [Y,Z] []:=.all λus h0=>by
 refine cf (aA h0) λa u1 J h1=>?_
 subst J;refine cf (aA h1) λb u2 J h2=>?_
 subst J;obtain rfl:=JJ.mp h2;exact h a b
def bn3{K:Mx}(h:∀a b c,bindArgs fd ⟨[a,b,c],[]⟩=pure [(Y,a),(Z,b),(pc,c)]):bE K fd [Y,Z,pc] []:=.all λus h0=>by
 refine cf (aA h0) λa u1 J h1=>?_
 subst J;refine cf (aA h1) λb u2 J h2=>?_
 subst J;refine cf (aA h2) λc u3 J h3=>?_
 subst J
 simp_all
def bn4{K:Mx}(h:∀a b c d,bindArgs fd ⟨[a,b,c,d],[]⟩=pure [(Y,a),(Z,b),(pc,c),(pd,d)]):bE K fd [Y,Z,pc,pd] []:=.all λus h0=>by
 refine cf (aA h0) λa u1 J h1=>?_
 subst J;refine cf (aA h1) λb u2 J h2=>?_
 subst J;refine cf (aA h2) λc u3 J h3=>?_
 subst J;refine cf (aA h3) λd u4 J h4=>?_
 subst J
 simp_all
def sX{K:Mx}(hd:fd.defaults=.ref T)(l:K.lookup T=some ⟨c,o,.seq vs n,Y⟩)
  (h:∀us,us.length=ps.length->∃k,bindArgs fd ⟨us,[]⟩=seqItems? fd.defaults >>= k/\k (some vs)=pure (ps.zip us)):bE K fd ps []:=λs us X J=>by
 rw[Lp]at J ⊢;refine ae (h us J) λk h1 h2=>?_
 exact .of_defaults hd (X _ _ l) rfl h1 h2
def HD(K:Mx)(x:Str)(st:Stmt)(d:MD)(q:FuncData->Prop:=λ_=>True):Prop:=d.name=x/\∃J fd,PySem.W.nsIn K mainGlobals x=some (some (.ref J))/\FnD K x x st J fd/\bE K fd d.params []/\q fd
noncomputable def okD(T:Tab)(st:Stmt)(d:MD):Bool:=
 decide ((ah st).kind=.function/\(ah st).isCoroutine=false/\(ah st).isGenerator=false/\d.names.Nodup/\d.names.take d.params.length=d.params/\(∀x∈d.params,(ah st).names.lookup x=some .local\/(ah st).names.lookup x=some .cell)/\∀y∈(ah st).names,y.2≠.free)
 &&chkSs T d.names (ah st) d.body (bb st)
def El{K:Mx}{st:Stmt}(X:K.In h)(G:h.Ns mainGlobals mg)(hd:HD K x st d q)(J:okD T st d=true):∃Y fd,uY T K mg st d Y fd/\q fd:=by
 refine bf λZq Z=>?_
 obtain⟨e,_,_,n,f,b,z⟩:=hd;obtain⟨c1,c2⟩:=IW.mp J;refine Fb (JU c1) λs1 s2 s3 s4 s5 s6 s7=>?_
 subst e;refine Z ?_;exact⟨_,_,⟨f,b,PySem.W.mg_of X G n,⟨s1,s2,s3,s4,s5,s6,s7⟩,c2⟩,z⟩
def v9(T:Tab)(K:Mx)(mg:Str->Option Value):List MD->List (List Sc)->Prop
 | [],[]=>True
 |d::ds,l::ls=>(∃st J fd,uY T K mg st d J fd/\∃vs,bE K fd d.params vs/\aF (l.map Sc.v) vs)/\v9 T K mg ds ls
 | _,_=>False
theorem v9.get{K:Mx} :∀{ds}{Y}{f:Nat}{d},v9 T K mg ds Y->ds[f]?=some d->∃l st J fd,Y[f]?=some l/\uY T K mg st d J fd/\∃vs,bE K fd d.params vs/\aF (l.map Sc.v) vs
 | [],_,f,d,_,e=>by injection e
 | _::_,[],f,d,h,e=>h.elim
 |d0::ds,l::Y,0,d,h,e=>by
  cases e;obtain⟨⟨st,J,fd,r⟩,_⟩:=h;exact⟨l,st,J,fd,rfl,r⟩
 |d0::ds,l::Y,f+1,d,h,e=>by
  refine de (v9.get h.2 (show ds[f]?=some d from by simpa using e)) λk st J fd q r=>?_
  exact⟨k,st,J,fd,by simpa using q,r⟩
def HQ(K:Mx)(d:MD)(fd:FuncData):List Sc->Prop
 | []=>True
 |l=>∃vs,bE K fd d.params vs/\aF (l.map Sc.v) vs
inductive sY(K:Mx)(tp:Nat->Stmt):List MD->List Nat->List (List Sc)->Prop
 | nil:sY K tp [] [] []
 |cons {d:MD}{ds:List MD}{i:Nat}{is:List Nat}{l:List Sc}{ls:List (List Sc)}:HD K d.name (tp i) d (λfd=>HQ K d fd l)->sY K tp ds is ls->sY K tp (d::ds) (i::is) (l::ls)
noncomputable def GB(T:Tab)(J:Nat->Stmt):List MD->List Nat->Bool
 |d::ds,i::is=>okD T (J i) d&&GB T J ds is
 | _,_=>true
def Em{K:Mx}(X:K.In h)(G:h.Ns mainGlobals mg)(a:sY K J ds is ls)(Y:GB T J ds is=true):v9 T K mg ds ls:=by
 induction a with
 |nil=>trivial
 | @cons d ds i is l ls hd _ ih =>
  obtain⟨Z,c2⟩:=IW.mp Y;refine cf (El X G hd Z) λfa fd D q=>?_
  refine⟨⟨_,fa,fd,D,?_⟩,ih c2⟩;cases l<;>first|exact⟨_,D.binds,.nil⟩|exact q
structure nW(T:Tab)(K:Mx)(mg:Str->Option Value)(ds:List MD)
 :Prop where
 tab:T.fs=ds.map (·.name)
 defs:v9 T K mg ds T.ds
 blt:∀x∈ik,mg (x:Str)=none
 gs:∀p∈T.gs,∃u,mg p.1=some u/\aK (toV p.2) u
def m6{ds:List MD}{n f:Nat}{d:MD}{args:List MV}{r:PV}(hd:ds[f]?=some d)(h:ab ds (n+1) f args=some r):args.length=d.params.length /\
  ((∃M,exs (ab ds n) d.body (args.map some++replicate (d.names.length-args.length) none)=.next M/\r=.non)\/exs (ab ds n) d.body (args.map some++replicate (d.names.length-args.length) none)=.ret r \/
   ∃xs,exs (ab ds n) d.body (args.map some++replicate (d.names.length-args.length) none)=.retF xs/\r=.lst xs):=by
 rw[ab,hd]at h;dsimp only at h;by_cases J:args.length=d.params.length
 .rw[if_pos J]at h;refine⟨J,?_⟩;cases he:exs (ab ds n) d.body (args.map some++replicate (d.names.length-args.length) none)with
  |next M=>rw[he]at h;cases h;exact .inl ⟨M,rfl,rfl⟩
  |ret v=>rw[he]at h;cases h;exact .inr (.inl rfl)
  |retF xs=>rw[he]at h;cases h;exact .inr (.inr ⟨xs,rfl,rfl⟩)
  |brk M=>rw[he]at h;cases h
  |cont M=>rw[he]at h;cases h
  |bad=>rw[he]at h;cases h
 .rw[if_neg J]at h;cases h
def kW{ds:List MD}{n f:Nat}{d:MD}{args:List MV}{r:PV}(Z:f<1000)(Y:ds[f+1000]?=none)(hd:ds[f]?=some d)(h:ab ds (n+1) (f+1000) args=some r):args.length=d.params.length /\
  ∃xs,exs (ab ds n) d.body (args.map some++replicate (d.names.length-args.length) none)=.retF xs/\r=.lst xs:=by
 rw[ab,Y]at h;dsimp only at h;rw[if_neg (by omega),KJ,hd]at h;dsimp only at h;by_cases J:args.length=d.params.length
 .rw[if_pos J]at h;refine⟨J,?_⟩;cases he:exs (ab ds n) d.body (args.map some++replicate (d.names.length-args.length) none)with
  |retF xs=>rw[he]at h;cases h;exact⟨xs,rfl,rfl⟩
  |next M=>rw[he]at h;cases h
  |ret v=>rw[he]at h;cases h
  |brk M=>rw[he]at h;cases h
  |cont M=>rw[he]at h;cases h
  |bad=>rw[he]at h;cases h
 .rw[if_neg J]at h;cases h
theorem m7 :∀{xs}{ys}{i:Nat}{x},Paired F xs ys->xs[i]?=some x->∃y,ys[i]?=some y/\F x y
 | _,_,_,_,.nil,e=>by injection e
 | _,_,0,_,.cons r _,e=>by simp at e;subst e;exact⟨_,rfl,r⟩
 | _,_,i+1,x,.cons _ t,e=>by
  obtain⟨u,h1,h2⟩:=m7 (i:=i) (x:=x) t e;exact⟨u,by simpa using h1,h2⟩
def im{K:Mx}{H:Hp}{O:List Addr}{args:List MV}{vs:List V}{N:List Str}(hO:∀a∈O,H a≠none)(h:Paired (kS K O H) args vs):aN K H O O H (args.map some++replicate (N.length-args.length) none) (h_ N vs):=by
 have hl:args.length=vs.length:=Paired.length h;have get:∀(i:Nat) (m:MV),(args.map some++replicate (N.length-args.length) none)[i]?=some (some m)->∃u,(h_ N vs)[i]?=some (some u)/\kS K O H m u:=λi m e=>by
  by_cases hi:i<args.length
  .rw[Kd (by simpa using hi),Jb]at e;cases Y:args[i]? with
   |none=>rw[Y]at e;cases e
   |some m' =>
    rw[Y]at e;cases e;obtain⟨u,J,q⟩:=m7 h Y;refine⟨u,?_,q⟩;unfold L2.h_;rw[Kd (by rw[IC,<- hl];exact hi),Jb,J]
    rfl
  .rw[Ka (by simpa using hi),LX]at e;split at e<;>cases e
 refine⟨ai.refl H,hO,λa ha=>ha,hO,by unfold L2.h_;simp[hl],λi m e=>?_,λi j xs ys a _ e _ Z _=>?_
  ,?_
  ⟩
 .obtain⟨u,J,q⟩:=get i m e;refine⟨u,J,?_⟩;cases m with
  |val v=>exact q
  |own _=>exact q.elim
  |brw ys=>exact q
  |ownD _=>exact q.elim
  |ownL _=>exact q.elim
  |brwD _=>exact q
 .obtain⟨u,J,q⟩:=get i _ e;cases xs with
  |own _=>exact q.elim
  |ownD _=>exact q.elim
  |ownL _=>exact q.elim
  |val _=>cases Z
  |brw _=>cases Z
  |brwD _=>cases Z
 .exact mK λi aL e=>by
   obtain⟨u,J,q⟩:=get i _ e;exact q.elim
section
variable{T:Tab}{P:Program}{w:World}{K:Mx}{mg:Str->Option Value}{base:Heap}{ds:List MD}
structure BX(T:Tab)(P:Program)(w:World)(K:Mx)(mg:Str->Option Value)(base:Heap)(ds:List MD)(n g:Nat)(fa:Addr)(fd:FuncData)(ps:List Str):Prop where
 m:gX P w K mg base CX0 n fa fd ps (spM K (ab ds n) g)
 f:gX P w K mg base CX0 n fa fd ps (spF K (ab ds n) g)
theorem qg(J:ds.length<=1000)
  (pr:nW T K mg ds)
 :∀(n f:Nat) (d:MD),ds[f]?=some d->∀st fa fd,uY T K mg st d fa fd->BX T P w K mg base ds n f fa fd d.params
 |0,f,d,hd,st,fa,fd,D=>{
   m:=⟨λvs H Q E h=>(by obtain⟨O,args,r,_,_,e,_⟩:=h;exact absurd e (by simp[ab])),λA outer s H args us vs Q E _ _ _ _ h=>(by obtain⟨O,args,r,_,_,e,_⟩:=h;exact absurd e (by simp[ab]))⟩
   f:=⟨λvs H Q E h=>(by obtain⟨O,args,r,_,_,e,_⟩:=h;exact absurd e (by simp[ab])),λA outer s H args us vs Q E _ _ _ _ h=>(by obtain⟨O,args,r,_,_,e,_⟩:=h;exact absurd e (by simp[ab]))⟩
   }
 |n+1,f,d,hd,st,fa,fd,D=>by
  obtain⟨c0,d0,k0,o0,m0,a0,aL,t1,a1,sl,lk,hc,rfl⟩:=D.fn.it;have hf:f<1000:=IK (II.mp hd).1 J;have hn:ds[f+1000]?=none:=getElem?_eq_none (by omega);have gg:∀{CX:CXT}{A:Around}{outer:_}{s:Shared}{H:Hp}{E:_},_->Gf (cX CX P w K mg base d.names d.name (ah st) fa aL A outer s H E).nox T n (ab ds n):=λ{CX A outer s H E} hr=>{
   calm:=rfl
   room:=hr
   fns:=λf' x hx=>by
    rw[pr.tab,Jb]at hx;cases hd2:ds[f']? with
    |none=>rw[hd2]at hx;cases hx
    |some d2 =>
     rw[hd2]at hx;cases hx;obtain⟨l2,a2,Y,Z,el,D2,bd⟩:=pr.defs.get hd2;exact⟨Y,Z,d2.params,D2.named,D2.fn.kp,D2.binds,(qg J pr n f' d2 hd2 a2 Y Z D2).m,λl hl=>by rw[el]at hl;cases hl;exact bd⟩
   blt:=pr.blt
   gs:=pr.gs
   fnsF:=λf' x hx=>by
    rw[pr.tab,Jb]at hx;cases hd2:ds[f']? with
    |none=>rw[hd2]at hx;cases hx
    |some d2 =>
     rw[hd2]at hx;cases hx;obtain⟨l2,a2,Y,Z,el,D2,bd⟩:=pr.defs.get hd2;exact⟨Y,Z,d2.params,D2.named,D2.fn.kp,D2.binds,(qg J pr n f' d2 hd2 a2 Y Z D2).f⟩
   }
  have df:∀{CX:CXT}{A:Around}{outer:_}{s:Shared}{H:Hp}{E:_},Df (cX CX P w K mg base d.names d.name (ah st) fa aL A outer s H E).nox:=λ{CX A outer s H E}=>⟨D.scope.nd,λ_=>rfl,PassesOwn.never,by
    have hk:(cX CX P w K mg base d.names d.name (ah st) fa aL A outer s H E).nox.env.scope.kind=.function:=D.scope.kind;unfold Env.blockKind;rw[hk]
    rfl
    ⟩
  refine {
   m:=?_
   f:=?_
   }
  .refine kK lk hc D.scope (λvs H Q E h=>?_) (λA outer s H vs Q E hr h=>?_)
   .obtain⟨O,args,r,_,hp,e,_⟩:=h;rw[<- (m6 hd e).1];exact(Paired.length hp).symm
   .obtain⟨O,args,r,hO,hp,e,q⟩:=h;obtain⟨hl,bL⟩:=m6 hd e;refine⟨_,(soundSs (gg hr) df d.body (bb st) D.body).nox,H,O,O,_,im hO hp,?_⟩;rcases bL with⟨M,he,rfl⟩|he|⟨xs,he,rfl⟩
    .rw[he];exact λb2 H' O' bM _=>q _ H' bM.keep (pY _)
    .rw[he];exact λu H' s' r'=>q u H' s' r'
    .rw[he];refine λp us H' s' a5 a6 r'=>q _ H' s' ?_
     rw[Rep];refine⟨p,us,rfl,SqL.of ?_,Reps.mono jA _ r'⟩;rw[bp λz=>hO p z a5];exact a6
  .refine kK lk hc D.scope (λvs H Q E h=>?_) (λA outer s H vs Q E hr h=>?_)
   .obtain⟨O,args,r,_,hp,e,_⟩:=h;rw[<- (kW hf hn hd e).1];exact(Paired.length hp).symm
   .obtain⟨O,args,xs,hO,hp,e,q⟩:=h;obtain⟨hl,ys,he,ey⟩:=kW hf hn hd e;cases ey;refine⟨_,(soundSs (gg hr) df d.body (bb st) D.body).nox,H,O,O,_,im hO hp,?_⟩;rw[he];exact λp us H' s' a5 a6 r'=>q p us H' s' a5 a6 r'
end
end MM
namespace MM
open PySem List Option
noncomputable abbrev ofS(J:List Int):PV:=.tup (J.map .int)
noncomputable abbrev ofR(R:List (List Int)):PV:=.tup (R.map ofS)
noncomputable abbrev ofL(ns:List Int):PV:=.lst (ns.map .int)
theorem bo:∀ns,bw (ns.map .int)=some ns
 | []=>rfl
 |n::ns=>by simp[bw,bo ns]
theorem oW:∀R,iM (R.map ofS)=some R
 | []=>rfl
 |t::R=>by simp[iM,bo,oW R]
theorem cQ:∀ns,fN (ns.map .bl)=some ns
 | []=>rfl
 |n::ns=>by simp[fN,cQ ns]
def iC(h:ns.length<64):gz (ns.map .int)=some (ofL (sortI ns)):=by
 unfold gz;rw[if_pos (by simpa using h),bo]
def kB{R:List (List Int)}(h:R.length<64):gz (R.map ofS)=some (.lst ((sortT R).map ofS)):=by
 unfold gz;rw[if_pos (by simpa using h)];cases R with
 |nil=>rfl
 |cons t R =>
  have:bw ((t::R).map ofS)=none:=rfl;rw[this];simp only[oW,map_some]
theorem gE{α:Type}{g:α->PV}{c:PV->Option Bool}{f:PV->Option PV}{p:α->Bool}{h:α->PV}:∀{xs:List α},(∀x∈xs,c (g x)=some (p x))->(∀x∈xs,p x=true->f (g x)=some (h x))->fO c f (xs.map g)=some ((xs.filter p).map h)
 | [],_,_=>rfl
 |x::xs,hc,hf=>by
  rw[Jc,fO,hc x (.head _),bind_some];have ih:=gE (xs:=xs) (λy J=>hc y (.tail _ J)) (λy J=>hf y (.tail _ J));cases Y:p x<;>simp_all
def m8{α:Type}{g:α->PV}{c:PV->Option Bool}{f:PV->Option PV}{h:α->PV}{xs:List α}(hc:∀x∈xs,c (g x)=some true)(J:∀x∈xs,f (g x)=some (h x)):fO c f (xs.map g)=some (xs.map h):=by
 rw[gE (p:=λ_=>true) hc (λx hx _=>J x hx),Lr.mpr λ_ _=>rfl]
def Eo(a b)(J:List Int):((b==a)||decide (a∈J))=decide (a=b\/a∈J):=by grind
def Ep(a b)(J:List (List Int)):(decide (b=a)||decide (a∈J))=decide (a=b\/a∈J):=by grind
@[simp] theorem qh(n)(i j):eqF n (.int i) (.int j)=some (i==j):=by cases n<;>rfl
theorem cn(h):∀J:List Int,isIn (.int h) (J.map .int)=some (decide (h∈J))
 | []=>rfl
 |t::J=>by
  have ih:=cn h J;unfold isIn at ih ⊢;rw[Jc,inL,ih];simp only[qh,bind_some,map_some,IM,Eo]
theorem rK(n):∀a b:List Int,eqL (eqF n) (a.map .int) (b.map .int)=some (decide (a=b))
 | [],[]=>rfl
 | [],_::_=>rfl
 | _::_,[]=>rfl
 |x::a,y::b=>by
  rw[Jc,Jc,eqL,rK n a b];simp only[qh,bind_some,map_some]
  congr 1
  rw[Jp];simp
def GC(n)(a b):eqF (n+1) (ofS a) (ofS b)=some (decide (a=b)):=rK n a b
theorem yR(h):∀J:List (List Int),isIn (ofS h) (J.map ofS)=some (decide (h∈J))
 | []=>rfl
 |t::J=>by
  have ih:=yR h J;unfold isIn at ih ⊢;rw[Jc,inL,ih,GC 99];simp only[bind_some,map_some,IM,Ep]
noncomputable def b6:R->Option PV
 | .next _=>some .non
 | .ret v=>some v
 | .retF xs=>some (.lst xs)
 | _=>none
def al(hd:ds[f]?=some d)(J:args.length=d.params.length):ab ds (n+1) f args=b6 (exs (ab ds n) d.body (args.map some++replicate (d.names.length-args.length) none)):=by
 rw[ab,hd];simp[J]
 rfl
@[simp] theorem ET(xs)(k):(R.retF xs).andThen k=.retF xs:=rfl
@[simp] theorem EU(v):bA (some (.val v))=some v:=rfl
@[simp] theorem EV(v):bA (some (.own v))=some (.lst v):=rfl
@[simp] theorem EW(v):bA (some (.brw v))=some (.lst v):=rfl
@[simp] theorem Er(v):bA (some (.ownD v))=some (.dI v):=rfl
@[simp] theorem Es(v):bA (some (.brwD v))=some (.dI v):=rfl
@[simp] theorem Et(v):eX (some (.ownD v))=some (.brwD v):=rfl
@[simp] theorem Eu(v):eX (some (.brwD v))=some (.brwD v):=rfl
@[simp] theorem Ev(v):fB (some (.ownD v))=some (.brwD v):=rfl
@[simp] theorem Ew(v):fB (some (.brwD v))=some (.brwD v):=rfl
@[simp] theorem H0(i):sc? (.int i)=some (.int i):=rfl
@[simp] theorem Iz(i):sc? (.bl i)=some (.bl i):=rfl
@[simp] theorem H_:sc? .non=some .non:=rfl
@[simp] theorem Ia(i):(Sc.int i).pv=.int i:=rfl
@[simp] theorem IA(i):(Sc.bl i).pv=.bl i:=rfl
@[simp] theorem EX(v):xQ (some (.val v))=some v:=rfl
@[simp] theorem EY(v):eX (some (.val v))=some (.val v):=rfl
@[simp] theorem EZ(v):eX (some (.own v))=some (.brw v):=rfl
@[simp] theorem E1(v):eX (some (.brw v))=some (.brw v):=rfl
@[simp] theorem E2(v):fB (some (.val v))=some (.val v):=rfl
@[simp] theorem E3(v):fB (some (.own v))=some (.brw v):=rfl
@[simp] theorem E4(v):fB (some (.brw v))=some (.brw v):=rfl
@[simp] theorem E5(b):bg (.bl b)=some b:=rfl
@[simp] theorem Hf(i j):gQ .add (.int i) (.int j)=some (.int (i+j)):=rfl
@[simp] theorem Hg(i j):gQ .sub (.int i) (.int j)=some (.int (i-j)):=rfl
@[simp] theorem Hh(i j):gQ .mul (.int i) (.int j)=if (-(2 ^ 64)<i/\i<2 ^ 64)\/(-(2 ^ 64)<j/\j<2 ^ 64)then some (.int (i*j))else none:=rfl
@[simp] theorem yS(i j):gQ .fdiv (.int i) (.int j)=if 0<j/\j<1073741824 then some (.int (i / j))else none:=rfl
@[simp] theorem iD(i j):gQ .mod (.int i) (.int j)=if 0<j then some (.int (i % j))else none:=rfl
@[simp] theorem uZ(x y):gQ .add (.lst x) (.lst y)=if x.length+y.length<=10000 then some (.lst (x++y))else none:=rfl
@[simp] theorem yT(i j):cO .lt (.int i) (.int j)=some (decide (i<j)):=rfl
@[simp] theorem Ib(i j):cO .le (.int i) (.int j)=some (decide (i<=j)):=rfl
@[simp] theorem Ex(i j):cO .gt (.int i) (.int j)=some (decide (j<i)):=rfl
@[simp] theorem Ic(i j):cO .ge (.int i) (.int j)=some (decide (j<=i)):=rfl
@[simp] theorem yU(x y):cO .eq x y=eqF 100 x y:=rfl
@[simp] theorem Ie(x y):cO .ne x y=if ra x y=true then(eqF 100 x y).map (λp=>!p)else none:=rfl
@[simp] theorem Hi(x):cO .isN x .non=some (rb x):=rfl
@[simp] theorem GD(x):cO .notN x .non=some (!rb x):=rfl
@[simp] theorem Bb(x)(xs):cO .isIn x (.tup xs)=isIn x xs:=rfl
@[simp] theorem Hj(x)(xs):cO .isIn x (.lst xs)=isIn x xs:=rfl
@[simp] theorem GE(x)(xs):cO .notIn x (.tup xs)=(isIn x xs).map λp=>!p:=rfl
@[simp] theorem GF(x)(xs):cO .notIn x (.lst xs)=(isIn x xs).map λp=>!p:=rfl
@[simp] theorem Ig(n)(i j):eqF n (.bl i) (.bl j)=some (i==j):=by cases n<;>rfl
@[simp] theorem Bc(n)(i j):eqF n (.str i) (.str j)=some (i==j):=by cases n<;>rfl
@[simp] theorem Hk(x y):ra (.tup x) (.tup y)=true:=rfl
@[simp] theorem Hl(x y):ra (.lst x) (.lst y)=true:=rfl
@[simp] theorem Hm(x y):ra (.int x) (.int y)=true:=rfl
@[simp] theorem Hn(x y:Str):ra (.str x) (.str y)=true:=rfl
@[simp] theorem u5(x):aZ (.tup x)=some x:=rfl
@[simp] theorem qi(x):aZ (.lst x)=some x:=rfl
@[simp] theorem GG(x):aH .len [.tup x]=some (.int x.length):=rfl
@[simp] theorem GH(x):aH .len [.lst x]=some (.int x.length):=rfl
@[simp] theorem GI(x):aH .len [.dI (.k x)]=some (.int x.length):=rfl
@[simp] theorem Ho(x):aH .tupleOf [x]=(aZ x).map .tup:=rfl
@[simp] theorem GJ(x):aH .listOf [x]=(aZ x).map .lst:=rfl
@[simp] theorem Ey(x):aH .sorted [x]=(aZ x).bind gz:=rfl
@[simp] theorem lJ(x):aH .any [.lst x]=(fN x).map λbs=>.bl (bs.any id):=rfl
@[simp] theorem qj(x):aH .all [.lst x]=(fN x).map λbs=>.bl (bs.all id):=rfl
@[simp] theorem GK(i):aH .intOf [.int i]=some (.int i):=rfl
@[simp] theorem GL(b):aH .intOf [.bl b]=some (.int (if b then 1 else 0)):=rfl
@[simp] theorem Hq(i):isD (.int i)=false:=rfl
@[simp] theorem Ih(i):isD (.bl i)=false:=rfl
@[simp] theorem Hr(i):isD (.str i)=false:=rfl
@[simp] theorem Hs(i):isD (.tup i)=false:=rfl
@[simp] theorem Ht(i):isD (.lst i)=false:=rfl
@[simp] theorem Hu:isD .non=false:=rfl
@[simp] theorem E6(x):aH .isInt [x]=if isD x=true then none else some (.bl (isT .isInt x)):=rfl
@[simp] theorem zP(i):isT .isInt (.int i)=true:=rfl
@[simp] theorem Bd(i):isT .isInt (.bl i)=true:=rfl
@[simp] theorem zQ(i):isT .isInt (.str i)=false:=rfl
@[simp] theorem zR(i):isT .isInt (.lst i)=false:=rfl
@[simp] theorem zS(i):isT .isInt (.tup i)=false:=rfl
@[simp] theorem zT:isT .isInt .non=false:=rfl
@[simp] theorem Ez(x):aH .isBool [x]=if isD x=true then none else some (.bl (isT .isBool x)):=rfl
@[simp] theorem yV(i):isT .isBool (.int i)=false:=rfl
@[simp] theorem zU(i):isT .isBool (.bl i)=true:=rfl
@[simp] theorem yW(i):isT .isBool (.str i)=false:=rfl
@[simp] theorem yX(i):isT .isBool (.lst i)=false:=rfl
@[simp] theorem yY(i):isT .isBool (.tup i)=false:=rfl
@[simp] theorem yZ:isT .isBool .non=false:=rfl
@[simp] theorem E7(x):aH .isStr [x]=if isD x=true then none else some (.bl (isT .isStr x)):=rfl
@[simp] theorem zV(i):isT .isStr (.int i)=false:=rfl
@[simp] theorem Be(i):isT .isStr (.bl i)=false:=rfl
@[simp] theorem zW(i):isT .isStr (.str i)=true:=rfl
@[simp] theorem zX(i):isT .isStr (.lst i)=false:=rfl
@[simp] theorem zY(i):isT .isStr (.tup i)=false:=rfl
@[simp] theorem zZ:isT .isStr .non=false:=rfl
@[simp] theorem EA(x):aH .isList [x]=if isD x=true then none else some (.bl (isT .isList x)):=rfl
@[simp] theorem y0(i):isT .isList (.int i)=false:=rfl
@[simp] theorem z6(i):isT .isList (.bl i)=false:=rfl
@[simp] theorem y3(i):isT .isList (.str i)=false:=rfl
@[simp] theorem y_(i):isT .isList (.lst i)=true:=rfl
@[simp] theorem za(i):isT .isList (.tup i)=false:=rfl
@[simp] theorem zb:isT .isList .non=false:=rfl
@[simp] theorem BY(x):aH .isTuple [x]=if isD x=true then none else some (.bl (isT .isTuple x)):=rfl
@[simp] theorem wv(i):isT .isTuple (.int i)=false:=rfl
@[simp] theorem zc(i):isT .isTuple (.bl i)=false:=rfl
@[simp] theorem ww(i):isT .isTuple (.str i)=false:=rfl
@[simp] theorem wz(i):isT .isTuple (.lst i)=false:=rfl
@[simp] theorem wA(i):isT .isTuple (.tup i)=true:=rfl
@[simp] theorem wB:isT .isTuple .non=false:=rfl
@[simp] theorem rL(xs):aH .max1 [.lst xs]=(bw xs).bind λns=>(vT ns).map .int:=rfl
@[simp] theorem sZ(d):aH .valuesOf [.dI d]=if (kR d).length<=10000 then some (.lst (kR d))else none:=rfl
@[simp] theorem zd(kvs):aH .sortedKeys [.dI (.k kvs)]=if kvs.length<64 then some (ofL (sortI (kvs.map (·.1))))else none:=rfl
@[simp] theorem Ii(kvs)(i):vS (.dI (.k kvs)) (.int i)=some (cJ kvs i):=rfl
@[simp] theorem Ij(kvs)(ns):vS (.dI (.t kvs)) (.tup (ns.map .int))=some (cJ kvs ns):=by
 show(bw _).map _=_;rw[bo]
 rfl
@[simp] theorem Ik(kvs)(i)(s):sD (.k kvs) (.int i) s=if kvs.length<10000 then some (.k (cZ kvs i s))else none:=rfl
@[simp] theorem Il(kvs)(ns)(s):sD (.t kvs) (.tup (ns.map .int)) s=if kvs.length<10000 then some (.t (cZ kvs ns s))else none:=by
 show((bw _).bind λk=>if kvs.length<10000 then some _ else none)=_;rw[bo]
 rfl
@[simp] theorem Hv(p q):cO .isN (.bl p) (.bl q)=some (p==q):=rfl
@[simp] theorem GM(p q):cO .notN (.bl p) (.bl q)=some (!(p==q)):=rfl
@[simp] theorem Bf(xs):aH .tupleRev [.lst xs]=some (.tup xs.reverse):=rfl
@[simp] theorem nX(x):aH .sortedSet [x]=(aZ x).bind λxs=>(bw xs).bind λns=>if ns.length<=4000/\(dd ns).length<64 then some (.lst ((sortI (dd ns)).map .int))else none:=rfl
@[simp] theorem GN(x)(i):mI (.lst x) (.int i)=(place x.length i).bind λj=>x[j]?:=rfl
@[simp] theorem IB(x)(i):mI (.tup x) (.int i)=(place x.length i).bind λj=>x[j]?:=rfl
@[simp] theorem Hw(x)(lo hi):lw (.lst x) lo hi=some (.lst (cut x lo hi)):=rfl
@[simp] theorem Hx(i j):bnd (.cst (.int i)) (.int j)=some (some j):=rfl
@[simp] theorem u6(x):bN .seq [x]=aZ x:=rfl
def Bg(j):bN .rng [.int j]=if -(2 ^ 62)<=j/\j<2 ^ 62 then some ((range j.toNat).map λk=>.int ((0:Int)+k))else none:=rfl
@[simp] theorem bh(M)(k):(R.next M).andThen k=k M:=rfl
@[simp] theorem GO(v)(k):(R.ret v).andThen k=.ret v:=rfl
@[simp] theorem GP(k):R.bad.andThen k=.bad:=rfl
@[simp] theorem GQ(M)(k):(R.brk M).andThen k=.brk M:=rfl
@[simp] theorem E8(M)(k):(R.cont M).andThen k=.cont M:=rfl
@[simp] theorem EB(v)(k):dH (some v) k=k v:=rfl
@[simp] theorem dL(v)(k):xR (some v) k=k v:=rfl
@[simp] theorem EC(v)(k):dA (some v) k=k v:=rfl
@[simp] theorem E9(v):b6 (.ret v)=some v:=rfl
@[simp] theorem ED(M):b6 (.next M)=some .non:=rfl
@[simp] theorem cR(a)(l)(m):put (a::l) 0 m=some m::l:=rfl
@[simp] theorem cT(a)(l)(n)(m):put (a::l) (n+1) m=a::put l n m:=rfl
@[simp] theorem iE(src)(J M):(R.next M).back src J=.next (bn src J M):=rfl
@[simp] theorem GR(src)(J)(v):(R.ret v).back src J=.ret v:=rfl
@[simp] theorem E_(body)(M):aM body [] M=.next M:=rfl
def iZ(J:0<=j)(h1:j<4611686018427387904):bN .rng [.int j]=some ((range j.toNat).map λk=>.int (k:Int)):=by
 rw[Bg,if_pos ⟨by omega,by exact ‹_›⟩]
 congr 1
 simp_all
def d6{n:Nat}{i:Int}(J:0<=i)(h:i<n):place n i=some i.toNat:=by unfold place;rw[if_pos J,if_pos h]
def leT(a b:List Int):Prop:=lexLt b a=false
theorem sortI_perm(l):(sortI l).Perm l:=by rw[d5];exact L2.Srt.sortI_perm l
theorem sortT_perm(l):(sortT l).Perm l:=by rw[jz];exact L2.Srt.sortT_perm l
def sortI_len(l):(sortI l).length=l.length:=(sortI_perm l).length_eq
def sortT_len(l):(sortT l).length=l.length:=(sortT_perm l).length_eq
def oX :x∈sortI l ↔ x∈l:=(sortI_perm l).mem_iff
def kC :x∈sortT l ↔ x∈l:=(sortT_perm l).mem_iff
theorem sortI_rises(l):(sortI l).Pairwise (· <= ·):=by rw[d5];exact L2.Srt.sortI_rises l
theorem sortT_rises(l):(sortT l).Pairwise leT:=by
 rw[jz];exact(L2.Srt.sortT_rises l).imp λh=>by unfold leT;rw[mQ];exact h
theorem sortI_id(h:l.Pairwise (· <= ·)):sortI l=l:=by rw[d5];exact L2.Srt.sortI_id h
theorem sortI_of_perm(p:a.Perm b):sortI a=sortI b:=by rw[d5,d5];exact L2.Srt.sortI_of_perm p
def rM(h:l.Nodup):(sortI l).Pairwise (· < ·):=by
 have h1:=sortI_rises l;have h2:=(sortI_perm l).nodup_iff.mpr h;exact(h1.and h2).imp λJ=>qy J λa b=>by omega
def i3 :k∈dd l ↔ k∈l:=by rw[oR];exact L2.St.fJ
theorem dd_nodup(l):(dd l).Nodup:=by rw[oR];exact L2.St.dd_nodup l
theorem BZ:∀{l},l.Nodup->dd l=l
 | [],_=>rfl
 |x::r,h=>by
  rw[dd,BZ (Ji.mp h).2,if_neg (Ji.mp h).1]
def m9{l:List Int}(h:l.Pairwise (· < ·)):l.Nodup:=h.imp λ{a b} q=>by omega
def b7(J:List Int):Prop:=J.Pairwise (· < ·)/\∀h∈J,0<=h/\h<=59
def bR(R:List (List Int)):Prop:=(∀J∈R,b7 J)/\R.Pairwise leT/\R.length<=60
theorem s_:∀(n:Nat) (l:List Int),l.Nodup->(∀x∈l,0<=x/\x<(n:Int))->l.length<=n
 |0,l,_,h=>by
  cases l with
  |nil=>simp
  |cons x r=>have:=h x (.head _);omega
 |n+1,l,J,h=>by
  have h1:=s_ n (l.filter λx=>decide (x≠(n:Int))) (J.filter _) (λx hx=>by
   obtain⟨h2,Y⟩:=JQ.mp hx;have h4:=JU Y;have:=h x h2;omega)
  have h2:∀l:List Int,l.Nodup->l.length<=(l.filter λx=>decide (x≠(n:Int))).length+1:=by
   intro l
   induction l with
   |nil=>intro _;simp
   |cons x r ih =>
    intro J;by_cases e:x=(n:Int)
    .have Z:r.filter (λx=>decide (x≠(n:Int)))=r:=Lr.mpr λy hy=>I0 λz=>(Ji.mp J).1 (by rw[e,<- z];exact hy)
     rw[Ll (by simp[e]),Z];simp
    .rw[filter_cons_of_pos (by simp[e])];have:=ih (Ji.mp J).2;simp only[length_cons];exact(L8 ‹_›)
  have:=h2 l J;omega
def aY(h:b7 J):J.length<=60:=s_ 60 J (m9 h.1) λx hx=>by have:=h.2 x hx;omega
noncomputable def tj(ns:List Int)(lo hi:Option Int):List Int:=(ns.drop (ig ns.length 0 lo)).take (ig ns.length ns.length hi-ig ns.length 0 lo)
@[simp] theorem GS(ns)(lo hi):cut (ns.map .int) lo hi=(tj ns lo hi).map .int:=by
 unfold cut tj
 simp_all
def ze(ns)(J:0<=a)(Y:0<=b):(tj ns (some a) (some b)).length<=(b-a).toNat:=by
 unfold tj;rw[KL,length_drop];have Z:ig ns.length ns.length (some b)=min b.toNat ns.length:=by show(if b<0 then _ else _)=_;rw[if_neg (Int.not_lt.mpr Y)]
 have e2:ig ns.length 0 (some a)=min a.toNat ns.length:=by show(if a<0 then _ else _)=_;rw[if_neg (Int.not_lt.mpr J)]
 rw[Z,e2];obtain⟨A,rfl⟩:=Int.eq_ofNat_of_zero_le J;obtain⟨B,rfl⟩:=Int.eq_ofNat_of_zero_le Y;rw[Int.toNat_sub,Int.toNat_natCast,Int.toNat_natCast];refine IQ (Lg _ _) ?_;rcases Nat.le_total A ns.length with h|h
 .rw[Kp h];exact Nat.sub_le_sub_right (Lg _ _) A
 .rw[Nat.min_eq_right h,Nat.sub_eq_zero_of_le (Nat.min_le_right _ _)];exact IY _
end MM
structure PySem.W.Fast:Prop where (tw8315984321955701410 tw7479436634368796415 tw5128829790391306079 tw7219320188419647654 tw3779106527602625020 tw4362622223080197835 tw1082220062491037798 tw2202886438877217921 tw639600312822044624 tw11598812906301943295 tw16643941902536286954 tw3377305232387590090 tw241205743009775658 tw11403346166368240057 tw9174259413858028380 tw13974039574230714873 tw16687412763789202248 tw8373771568134345524 tw10382560337359731673 tw13523195593536885389 tw15097591728451876965 tw4662555472413656679 tw2633623875320668498 tw4995388506223298766 tw17590147056210233660 tw3896156790409253873 tw8841980090015803887 tw17522994388806952001 tw185261605201380654 tw14292138636825316537 tw11514074928973557724 tw11470096176079267546 tw12573070065508420589 tw8667419022963139659 tw12535120821275490226 tw13057036342973447504 tw12766169501861430106 tw16582780648404909726 tw15697673438098592553 tw12769653309979177811 tw4981329173007421975 tw13464813298660331238 tw3766506036109491476 tw16204145744818027263 tw6771666876482424026 tw9173056928521284772 tw13254307284725980577 tw3449373638691953367 tw14553240175112585510 tw15307716229093194239 tw17565584813815587470 tw17462030609885719032 tw17963378724125397305 tw5164365160955064500 tw9954040335865334662 tw7050060041903650829 tw13698555942263612455 tw958734206126655260 tw4041174798334670645 tw7865654207768954072 tw14721558298932521781 tw17760992803379663612 tw15372193105957773102 tw17368558642573237523 tw4911878226035083313 tw10659938178691571270 tw17599934740557900787 tw12307466927070080663 tw14764927436816622396 tw14629431852046848170 tw13634567783485576778 tw8205332938990115200 tw7115612865856438559 tw11538602209231836478 tw3388438209316469537 tw12773182153498283564 tw443540467335318206 tw118066536580720367 tw6282679435117773927 tw895785844869855078 tw11688039718935896788 tw1120311368704811539 tw1119896830783067515 tw9212776562492016477 tw5506791033641783201 tw9144794399779889553 tw14631945948543409830 tw15389347113510124544 tw18024711703725876701 tw10570869552515570292 tw13306361957458262288 tw10126116367654639545 tw2809348233548294377 tw7367195305721134906 tw1161877748269021758 tw12879067485838981472 tw14489237694194134261 tw14556063627864641453 tw13332493502437749593 tw9383903963188808152 tw15084713139622142647 tw10198747676423058718 tw15954830596364150766 tw18014813267662267815 tw2171457588414477098 tw11824475317046727274 tw1165800617453494092 tw9375078329735808982 tw8723586644643857320 tw17517552683157134276 tw270770395117409770 tw14999174178135475886 tw14270121098858026166 tw13866330012888766841 tw8831556774139609231 tw266537227054830306 tw3663846048070719561 tw1184958481728020145 tw11332443255931982765 tw6420869854194320276 tw15574546208569930180 tw13388308012759472003 tw11200369775903967201 tw12044510012863846961 tw13894168994075179104 tw10311497408191075550 tw13461544688506188773 tw16576701372893599258 tw11315506524175900508 tw15885219673016525453 tw14381352250691896068 tw6658988930363237552 tw15105948396807484051 tw6455288071067807182 tw15338192429495342360 tw9098198797486992349 tw15285498201360716766 tw4308328728949891656 tw2760463176040520166 tw5794604522572722571 tw10728465293184592390 tw15300254804502829451 tw11025327462741783762 tw14924042960746545811 tw1829376425791382473 tw6940208514166393362 tw5187010518359471357 tw3252924482001167306 tw10819828218588391612 tw6341668885212926553 tw17879739860467339422 tw6630744300730555656 tw7218579423663403242 tw16340169615139338834 tw17279451484486336285 tw3747426818663134259 tw6787251561039831316 tw846309180784052463 tw3353630715178697872 tw465811778273274757 tw7773419163580894292 tw10617720865130517119 tw1991415524879142447 tw1434283533858033059 tw4702824731044570402 tw2382832890514111814 tw14364763690183956110 tw16521943070293314655 tw12596497070150452614 tw11802809216884863756 tw4808880286667689886 tw3186403513130501691 tw556744874486338663 tw18227597978980492591 tw13905954877338039313 tw8521507278665556080 tw13368567339051343387 tw792270291744760278 tw5031484461951785823 tw18393057518297536434 tw1489118609999770610 tw2158416545671109014 tw3402199792998458782 tw13106061744694905876 tw14711830183940686011 tw2536168907026162553 tw9229214873269932019 tw15628250802688739970 tw6448719584138501943 tw1851386280385726580 tw16111585135824183588 tw12509448769959781345 tw13151440007921129354 tw16464112489752641643 tw14312221713016199178 tw13011114706769057193 tw890506161541116423 tw682555309732410766 tw3121561574707089294 tw254800685434571447 tw7311562104725634166 tw11683864706049743640 tw13063127460487293393 tw3953806229644404545 tw1020434450653800199 tw13313758961646642553 tw3296697445691818910 tw13521197920464952516 tw12991449665685706450 tw3409698670199909447 tw7522713784158046563 tw16307464659603352403 tw7158306094968806099 tw2893594743972420826 tw12091883591670146644 tw12228199467750841544 tw5401036155722770739 tw11110786371311859187 tw2668944224619748158 tw10373515999710656426 tw9945818032580418111 tw10668258410187698469 tw17169477000759605756 tw11160443432094778207 tw2408950423745884158 tw10158635596000738080 tw12717705812364189616 tw9179373143791745271 tw5975643445398558118 tw7293064947460940258 tw12092899994273940586 tw13372586988146276132 tw7945370988853822543 tw7148883934263345297 tw7115553951976441968 tw4893157410035108743 tw11101789569826783647 tw9462356378759640626 tw3372815502788926626 tw6450275006389027105 tw7762046813726533620 tw11854554122724026569 tw11493214835294961279 tw18000137239932087730 tw4865198962303833816 tw1957674771518661893 tw3037573566154959097 tw11728300566642199856 tw11617814421378530782 tw5775163684936227544 tw8317522974003978458 tw4161550283698648164 tw6770325965031206547 tw6472899643160360005 tw2032716222925554707 tw16547708484884417125 tw17447409389762956791 tw4232278506214734623 tw18131182699077481891 tw6683454616485361054 tw7410760921626978274 tw6000172925122672040 tw13097567960859807058 tw563766930282839928 tw5723125838204166989 tw7943608560709763848 tw8737353416742879941 tw16490575688024734913 tw59624547824716042 tw16637902639089802028 tw1070566472629601511 tw1044504113708075126 tw4591391106065225974 tw6128377868047686000 tw5674892824107590149 tw7788771278371839033 tw870377443689086869 tw11775289429316296246 tw13386642618136707980 tw6659465553230395008 tw13707449151843460926 tw12329490716383216670 tw15113378939332837876 tw9062529340468755497 tw15845561969264330733 tw4654829248019705678 tw2588083643577002765 tw16627637781021320767 tw5139925264675683001 tw14141696254575182156 tw2134585221283069931 tw18044883777586308297 tw6003196407969022265 tw9370151917537465267 tw17843542507464350024 tw13074752999315438711 tw12369200228213137621 tw17810718451243083877 tw10332373800792406906 tw11152607476669132575 tw2284419004869320327 tw17665821499128120532 tw10985906194244597497 tw10111339448959187348 tw13626799312302445091 tw2862069525040132343 tw18204106278950310544 tw6896007199383710266 tw1495204527277431803 tw5321413413488746641 tw14343701772073912115 tw7337216901892725634 tw1293233791928796319 tw15320503462525851687 tw1973372703452886964 tw11543460431242822328 tw16443790554165631703 tw16022455821225176889 tw12495129525206372371 tw15864434615167169149 tw18212952960599425375 tw2081686797440748631 tw4979529075260556632 tw5874642489427748477 tw789382637502484695 tw16850573964976295277 tw17584215526560828585 tw17524307551776645187 tw13292324702389510484 tw17784177401454926443:True)
namespace My
open PySem L2 MM List Option
noncomputable abbrev ix(a:Nat)(b:Int):ME:=.idx (.bor a) (.cst (.int b))
noncomputable abbrev sv(x:PV):Option MV:=some (.val x)
abbrev LL:=List (List Int)
noncomputable abbrev ci(x:Int):ME:=.cst (.int x)
noncomputable abbrev cs(x:Str):ME:=.cst (.str x)
noncomputable def cU:List MS:=[.extend 1 (.bor 2)]
noncomputable def gH:MD:=⟨"members_of",["rows"],["rows","members","row"],
  [.setOwn 1 (.lst []),
  .for1 2 .seq [.bor 0] cU,
  .retOwn 1]⟩
noncomputable def kX:MD:=⟨"each_once",["members"],["members"],
  [.ret (.cmp .eq (.blt .lenSet [.bor 0]) (.blt .len [.bor 0]))]⟩
noncomputable def ll:MD:=⟨"strip_without",["strip","hole"],["strip","hole"],
  [.ret (.blt .tupleOf [(.comp .seq [.bor 0] [1] (.cmp .ne (.bor 0) (.bor 1)) (.var 0))])]⟩
noncomputable def v_:MD:=⟨"knotted",["rest","hole"],["rest","hole"],
  [.ret (.blt .tupleOf [(.blt .sorted [(.comp .seq [.bor 0] [1] (.cst (.bl true)) (.call 2 [.bor 0,.bor 1]))])])]⟩
noncomputable def zf:MD:=⟨"bitten",["rest","hole"],["rest","hole"],
  [.ret (.blt .tupleOf [(.comp .seq [.bor 0] [1] (.cmp .notIn (.bor 1) (.bor 0)) (.var 0))])]⟩
noncomputable def m_:MD:=⟨"holes_of",["rest"],["rest"],
  [.ret (.blt .sortedSet [(.call 0 [.bor 0])])]⟩
noncomputable def tm:MD:=⟨"is_whole",["rest"],["rest"],
  [.ret (.cmp .isIn (.tup []) (.bor 0))]⟩
noncomputable def oY:MD:=⟨"is_bare",["rest"],["rest"],
  [.ret (.cmp .eq (.blt .len [.bor 0]) (ci 0))]⟩
noncomputable def qk:MD:=⟨"other_hand",["hand"],["hand"],
  [.ret (.ite (.cmp .eq (.bor 0) (cs "weaver")) (cs "moth") (cs "weaver"))]⟩
noncomputable def zg:MD:=⟨"behind",["rest","hand","reply"],["rest","hand","reply"],
  [.ite (.cmp .isN (.bor 2) (.cst .non))
   [.ret (.var 0)]
   [],
  .ret (.ite (.cmp .eq (.bor 1) (cs "weaver")) (.call 3 [.bor 0,.bor 2]) (.call 4 [.bor 0,.bor 2]))]⟩
noncomputable def oZ:MD:=⟨"has_all",["strip","other"],["strip","other"],
  [.ret (.cmp .eq (.blt .lenSetSub [.bor 1,.bor 0]) (ci 0))]⟩
noncomputable def bv:List MS:=[.ite (.call 10 [.bor 0,.bor 3])
   [.ret (.var 2)]
   []]
noncomputable def dR:MD:=⟨"least_place",["strip","rest"],["strip","rest","place","other"],
  [.forT [2,3] .enm [.bor 1] bv,
  .ret (.cst .non)]⟩
noncomputable def kD:MD:=⟨"footing",["rest","other"],["rest","other"],
  [.ret (.comp .seq [.bor 0] [1] (.cst (.bl true)) (.call 11 [.bor 0,.bor 1]))]⟩
noncomputable def i4:MD:=⟨"is_below",["rest","other"],["rest","other"],
  [.ret (.cmp .notIn (.cst .non) (.call 12 [.bor 0,.bor 1]))]⟩
noncomputable def jC:MD:=⟨"has_a_pair",["strip","pairs"],["strip","pairs"],
  [.ret (.blt .any [(.comp .seq [.bor 1] [0] (.cst (.bl true)) (.call 10 [.bor 1,.bor 0]))])]⟩
noncomputable def jD:MD:=⟨"pairs_hold",["pairs","rest"],["pairs","rest"],
  [.ite (.not (.call 1 [(.call 0 [.bor 0])]))
   [.ret (.cst (.bl false))]
   [],
  .ret (.blt .all [(.comp .seq [.bor 1] [0] (.cst (.bl true)) (.call 14 [.bor 0,.bor 1]))])]⟩
noncomputable def kY:MD:=⟨"are_apart",["rests"],["rests"],
  [.ret (.call 1 [(.call 0 [(.comp .seq [.bor 0] [] (.cst (.bl true)) (.call 5 [.bor 0]))])])]⟩
noncomputable def ip:MD:=⟨"strip_weight",["strip"],["strip"],
  [.ret (.bin .shr (.glob "UNIT" (.int 1152921504606846976)) (.blt .len [.bor 0]))]⟩
noncomputable def rN:MD:=⟨"weight",["rest"],["rest"],
  [.ret (.blt .sum [(.comp .seq [.bor 0] [] (.cst (.bl true)) (.call 17 [.bor 0]))])]⟩
noncomputable def o4:List MS:=[.dput 1 (.bor 3) (.bin .add (.dget (.bor 1) (.bor 3) (ci 0)) (.call 17 [.bor 2]))]
noncomputable def o5:List MS:=[.for1 3 .seq [.bor 2] o4]
noncomputable def u7:MD:=⟨"pulls",["rest"],["rest","pull_of","strip","hole"],
  [.newD false 1,
  .for1 2 .seq [.bor 0] o5,
  .retOwn 1]⟩
noncomputable def gR:MD:=⟨"greatest_pull",["rest"],["rest"],
  [.ret (.blt .max1 [(.bin .add (.lst [(ci 0)]) (.blt .valuesOf [(.call 19 [.bor 0])]))])]⟩
noncomputable def fQ:MD:=⟨"moth_weighs",["rest","turn"],["rest","turn"],
  [.ite (.cmp .eq (.bor 1) (cs "moth"))
   [.ret (.cmp .lt (.call 18 [.bor 0]) (.glob "UNIT" (.int 1152921504606846976)))]
   [],
  .ret (.cmp .lt (.bin .add (.call 18 [.bor 0]) (.call 20 [.bor 0])) (.glob "UNIT" (.int 1152921504606846976)))]⟩
noncomputable def iq:MD:=⟨"good",["paper","rest","turn","hand"],["paper","rest","turn","hand"],
  [.ite (.cmp .eq (.bor 3) (cs "moth"))
   [.ret (.call 23 [.bor 0,.bor 1,.bor 2])]
   [],
  .ret (.call 24 [.bor 0,.bor 1,.bor 2])]⟩
noncomputable def aJ:MD:=⟨"good_for_moth",["paper","rest","turn"],["paper","rest","turn","word"],
  [.set 3 (ix 0 0),
  .ite (.cmp .eq (.bor 3) (cs "bare"))
   [.ret (.call 7 [.bor 1])]
   [],
  .ite (.cmp .eq (.bor 3) (cs "weight"))
   [.ret (.call 21 [.bor 1,.bor 2])]
   [],
  .ite (.cmp .eq (.bor 2) (cs "moth"))
   [.ret (.and (.cmp .eq (.bor 3) (cs "bite")) (.call 25 [.bor 0,.bor 1,(cs "moth")]))]
   [],
  .ite (.cmp .eq (.bor 3) (cs "pairs"))
   [.ret (.call 15 [(ix 0 1),.bor 1])]
   [],
  .ite (.cmp .eq (.bor 3) (cs "cases"))
   [.never]
   [],
  .ite (.cmp .eq (.bor 3) (cs "parts"))
   [.never]
   [],
  .ret (.cst (.bl false))]⟩
noncomputable def jE:MD:=⟨"good_for_weaver",["paper","rest","turn"],["paper","rest","turn","word"],
  [.set 3 (ix 0 0),
  .ite (.cmp .eq (.bor 3) (cs "whole"))
   [.ret (.call 6 [.bor 1])]
   [],
  .ite (.cmp .eq (.bor 3) (cs "weight"))
   [.never]
   [],
  .ite (.cmp .eq (.bor 3) (cs "fewer"))
   [.never]
   [],
  .ite (.cmp .eq (.bor 2) (cs "weaver"))
   [.ret (.and (.cmp .eq (.bor 3) (cs "knot")) (.call 25 [.bor 0,.bor 1,(cs "weaver")]))]
   [],
  .ite (.cmp .eq (.bor 3) (cs "cases"))
   [.never]
   [],
  .ite (.cmp .eq (.bor 3) (cs "either"))
   [.never]
   [],
  .ret (.cst (.bl false))]⟩
noncomputable def nc:MD:=⟨"move_is_good",["paper","rest","hand"],["paper","rest","hand"],
  [.ret (.call 22 [(ix 0 2),(.call 9 [.bor 1,.bor 2,(ix 0 1)]),(.call 8 [.bor 2]),.bor 2])]⟩
noncomputable def bI:List MS:=[.ite (.not (.call 22 [.bor 2,.bor 1,(cs "weaver"),(cs "moth")]))
   [.ret (.cst (.bl false))]
   []]
noncomputable def gi:MD:=⟨"parts_are_good",["rows"],["rows","rest","paper"],
  [.forT [1,2] .seq [.bor 0] bI,
  .ret (.cst (.bl true))]⟩
noncomputable def i5:MD:=⟨"_law_cell",["script","k"],["script","k"],
  [.ite (.cmp .lt (.bor 1) (.blt .len [.bor 0]))
   [.ret (.idx (.bor 0) (.bor 1))]
   [],
  .ret (ci 0)]⟩
noncomputable def kZ:MD:=⟨"_law_mixed",["cell","by"],["cell","by"],
  [.ret (.bin .mod (.bin .mul (.bin .mod (.bor 0) (ci 2305843009213693951)) (.bor 1)) (ci 2305843009213693951))]⟩
noncomputable def fR:List MS:=[.ite (.cmp .notIn (.bor 3) (.bor 1))
   [.append 1 (.var 3)]
   []]
noncomputable def fU:List MS:=[.for1 3 .seq [.bor 2] fR]
noncomputable def ir:MD:=⟨"_law_holes",["rest"],["rest","found","strip","hole"],
  [.setOwn 1 (.lst []),
  .for1 2 .seq [.bor 0] fU,
  .ret (.blt .sorted [.bor 1])]⟩
noncomputable def bJ:List MS:=[.ite (.cmp .notIn (.bor 2) (.bor 1))
   [.ret (.cst (.bl false))]
   []]
noncomputable def cx:MD:=⟨"_law_within",["some","others"],["some","others","hole"],
  [.for1 2 .seq [.bor 0] bJ,
  .ret (.cst (.bl true))]⟩
noncomputable def dS:List MS:=[.ite (.not (.blt .any [(.comp .seq [.bor 1] [2] (.cst (.bl true)) (.call 30 [.bor 0,.bor 1]))]))
   [.ret (.cst (.bl false))]
   []]
noncomputable def k4:MD:=⟨"_law_below",["rest","other"],["rest","other","strip"],
  [.for1 2 .seq [.bor 0] dS,
  .ret (.cst (.bl true))]⟩
noncomputable def o6:MD:=⟨"_law_sum",["rest"],["rest"],
  [.ret (.blt .sum [(.comp .seq [.bor 0] [] (.cst (.bl true)) (.bin .shr (.bin .pow (ci 2) (ci 60)) (.blt .len [.bor 0])))])]⟩
noncomputable def jF:MD:=⟨"_law_pulled",["rest","hole"],["rest","hole"],
  [.ret (.blt .sum [(.comp .seq [.bor 0] [1] (.cmp .isIn (.bor 1) (.bor 0)) (.bin .shr (.bin .pow (ci 2) (ci 60)) (.blt .len [.bor 0])))])]⟩
noncomputable def dD:MD:=⟨"_law_moth_weighs",["rest","turn"],["rest","turn","top"],
  [.ite (.cmp .eq (.bor 1) (cs "moth"))
   [.ret (.cmp .lt (.call 32 [.bor 0]) (.bin .pow (ci 2) (ci 60)))]
   [],
  .set 2 (.blt .max1 [(.bin .add (.lst [(ci 0)]) (.comp .seq [(.call 29 [.bor 0])] [0] (.cst (.bl true)) (.call 33 [.bor 1,.bor 0])))]),
  .ret (.cmp .lt (.bin .add (.call 32 [.bor 0]) (.bor 2)) (.bin .pow (ci 2) (ci 60)))]⟩
noncomputable def k5:MD:=⟨"_law_pairs",["pairs","rest"],["pairs","rest","flat"],
  [.set 2 (.bin .add (.comp .seq [.bor 0] [] (.cst (.bl true)) (ix 0 0)) (.comp .seq [.bor 0] [] (.cst (.bl true)) (ix 0 1))),
  .ite (.cmp .ne (.blt .lenSet [.bor 2]) (.blt .len [.bor 2]))
   [.ret (.cst (.bl false))]
   [],
  .ret (.blt .all [(.comp .seq [.bor 1] [0] (.cst (.bl true)) (.blt .any [(.comp .seq [.bor 1] [0] (.cst (.bl true)) (.call 30 [.bor 0,.bor 1]))]))])]⟩
noncomputable def dM:MD:=⟨"_law_leaf",["paper","rest","turn","hand"],["paper","rest","turn","hand","word"],
  [.set 4 (ix 0 0),
  .ite (.cmp .eq (.bor 4) (cs "bare"))
   [.ret (.and (.cmp .eq (.bor 3) (cs "moth")) (.cmp .eq (.blt .len [.bor 1]) (ci 0)))]
   [],
  .ite (.cmp .eq (.bor 4) (cs "whole"))
   [.ret (.and (.cmp .eq (.bor 3) (cs "weaver")) (.cmp .isIn (.tup []) (.bor 1)))]
   [],
  .ite (.and (.cmp .eq (.bor 4) (cs "weight")) (.cmp .eq (.bor 3) (cs "moth")))
   [.ret (.call 34 [.bor 1,.bor 2])]
   [],
  .ite (.cmp .eq (.bor 4) (cs "weight"))
   [.never]
   [],
  .ret (.and (.cmp .eq (.bor 3) (cs "moth")) (.and (.cmp .eq (.bor 2) (cs "weaver")) (.call 35 [(ix 0 1),.bor 1])))]⟩
noncomputable def fk:List MS:=[.ite (.not (.blt .any [(.comp .seq [.bor 1] [3] (.cst (.bl true)) (.call 30 [.bor 0,.bor 1]))]))
   [.set 4 (.comp .seq [.bor 3] [2] (.cmp .notIn (.bor 0) (.bor 1)) (.var 0)),
   .ite (.cmp .gt (.blt .len [.bor 4]) (ci 1))
    [.append 1 (.tup [(ix 4 0),(ix 4 1)]),
    .set 2 (.bin .add (.bor 2) (.slice (.bor 4) (.cst .non) (ci 2)))]
    []]
   []]
noncomputable def gI:MD:=⟨"_law_greedy",["rest"],["rest","pairs","used","strip","fresh"],
  [.setOwn 1 (.lst []),
  .set 2 (.lst []),
  .for1 3 .seq [.bor 0] fk,
  .ret (.blt .tupleOf [.bor 1])]⟩
noncomputable def dc:List MS:=[.set 0 (.bin .fdiv (.bor 0) (ci 6)),
  .ite (.cmp .notIn (.bin .add (.bin .mul (ci 10) (.bor 1)) (.bin .mod (.bor 0) (ci 6))) (.bor 2))
   [.append 2 (.bin .add (.bin .mul (ci 10) (.bor 1)) (.bin .mod (.bor 0) (ci 6)))]
   []]
noncomputable def gj:MD:=⟨"_law_part_strip",["left","part"],["left","part","strip","k"],
  [.setOwn 2 (.lst []),
  .for1 3 .rng [(.bin .add (ci 1) (.bin .mod (.bor 0) (ci 4)))] dc,
  .ret (.blt .tupleOf [(.blt .sorted [.bor 2])])]⟩
noncomputable def fV:List MS:=[.set 1 (.bin .fdiv (.bor 1) (ci 64)),
  .set 5 (.bin .add (.bin .mul (.bin .mod (.bor 1) (.bor 2)) (ci 10)) (.bin .mod (.bin .fdiv (.bor 1) (.bor 2)) (ci 6))),
  .ite (.cmp .notIn (.bor 5) (.bor 3))
   [.append 3 (.var 5)]
   []]
noncomputable def k6:MD:=⟨"_law_wider",["strip","left","many"],["strip","left","many","wide","k","more"],
  [.setOwn 3 (.blt .listOf [.bor 0]),
  .for1 4 .rng [(.bin .mod (.bor 1) (ci 3))] fV,
  .ret (.blt .tupleOf [(.blt .sorted [.bor 3])])]⟩
noncomputable def fF:List MS:=[.set 3 (.bin .add (.bor 3) (.call 29 [.bor 5])),
  .set 4 (.bin .add (.bor 4) (.blt .listOf [.bor 5]))]
noncomputable def o7:MD:=⟨"_law_due",["rows","rest"],["rows","rest","rests","holes","strips","part"],
  [.set 2 (.comp .seq [.bor 0] [] (.cst (.bl true)) (ix 0 0)),
  .set 3 (.lst []),
  .set 4 (.lst []),
  .for1 5 .seq [.bor 2] fF,
  .ite (.or (.cmp .ne (.blt .lenSet [.bor 3]) (.blt .len [.bor 3])) (.not (.call 30 [.bor 3,(.call 29 [.bor 1])])))
   [.ret (.cst (.bl false))]
   [],
  .ite (.or (.cmp .gt (.blt .len [.bor 4]) (.blt .len [.bor 1])) (.not (.call 31 [.bor 1,.bor 4])))
   [.ret (.cst (.bl false))]
   [],
  .ret (.blt .all [(.comp .seq [.bor 0] [] (.cst (.bl true)) (.call 36 [(ix 0 1),(ix 0 0),(cs "weaver"),(cs "moth")]))])]⟩
noncomputable def iu:MD:=⟨"_law_leaf_for",["part","pick"],["part","pick"],
  [.ite (.or (.cmp .eq (.bin .mod (.bor 1) (ci 4)) (ci 0)) (.and (.cmp .eq (.blt .len [.bor 0]) (ci 0)) (.cmp .eq (.bin .mod (.bor 1) (ci 4)) (ci 1))))
   [.ret (.idx (.lst [(.tup [(cs "weight")]),(.tup [(cs "bare")])]) (.blt .intOf [(.cmp .eq (.blt .len [.bor 0]) (ci 0))]))]
   [],
  .ite (.cmp .lt (.bin .mod (.bor 1) (ci 4)) (ci 3))
   [.ret (.tup [(cs "pairs"),(.call 37 [.bor 0])])]
   [],
  .ret (.tup [(cs "weight")])]⟩
noncomputable def defs:List MD:=[gH,kX,ll,v_,zf,m_,tm,oY,qk,zg,oZ,dR,kD,i4,jC,jD,kY,ip,rN,u7,gR,fQ,iq,aJ,jE,nc,gi,i5,kZ,ir,cx,k4,o6,jF,dD,k5,dM,gI,gj,k6,o7,iu]
noncomputable def jG:MD:=⟨"law",["script"],["script","way","many","parts","rest","cell","left","strip","rows","k","part","at","due","paper","found"],[]⟩
noncomputable def gJ:MD:=⟨"together",["rests"],["rests"],[]⟩
noncomputable def aG:MD:=⟨"parts_stand_for",["rows","rest"],["rows","rest","rests","strips"],[]⟩
noncomputable def bz:MD:=⟨"_law_turned",["parts","rest","way"],["parts","rest","way","many","at","part"],[]⟩
noncomputable def tab:Tab:=⟨defs.map (·.name),[("UNIT",(.int 1152921504606846976))],[[],[],[],[],[],[],[],[],[],[],[],[],[],[],[],[],[],[],[],[],[],[],[],[],[],[],[],[],[],[],[],[],[],[],[],[],[],[],[],[],[],[]]⟩
theorem gK{α:Type}{g:α->PV}{body:PV->Rho->R}{I:Rho->Prop}{p:α->Bool}{r:α->PV}:∀{xs:List α}{M},I M ->
  (∀x∈xs,∀M,I M->(p x=true->body (g x) M=.ret (r x))/\(p x=false->∃C,I C/\body (g x) M=.next C)) ->
  (∀x,xs.find? p=some x->aM body (xs.map g) M=.ret (r x))/\(xs.find? p=none->∃C,I C/\aM body (xs.map g) M=.next C)
 | [],M,Y,_=>⟨λx h=>(aT h),λ_=>⟨M,Y,rfl⟩⟩
 |x::xs,M,Y,h=>by
  obtain⟨h1,h2⟩:=h x (.head _) M Y;rw[Jc,aM];cases J:p x with
  |true =>
   rw[h1 J,Lv J];exact⟨λy e=>(by cases e;rfl),λe=>(by cases e)⟩
  |false =>
   refine ae (h2 J) λC Z e=>?_
   rw[e,Kw (by simp[J])];exact gK (xs:=xs) Z λy hy=>h y (.tail _ hy)
def dU(h:(evs cal src M).bind (bN k)=some xs):ex cal (.for1 i k src body) M=(aM (λx C=>exs cal body (put C i (.val x))) xs (bu src M)).back src M:=by
 rw[ex,h]
def Bh(h:(evs cal src M).bind (bN k)=some xs):ex cal (.forT is k src body) M=(aM (λx C=>dA (eY is x C) λJ=>exs cal body J) xs (bu src M)).back src M:=by
 rw[ex,h]
def ay(cal)(m)(ms)(M):exs cal (m::ms) M=(ex cal m M).andThen λC=>exs cal ms C:=rfl
def aI(h:ev cal e M=some v):ev cal (.blt b [e]) M=aH b [v]:=by
 rw[ev,evs,h,bind_some,evs,map_some,bind_some]
def ng(h:ev cal e M=some v):ex cal (.set i e) M=.next (put M i (.val v)):=by
 rw[ex,h];rfl
def iw(h:ev cal a M=some (.bl p))(h':p=true->ev cal b M=some (.bl q)):ev cal (.and a b) M=some (.bl (p&&q)):=by
 rw[ev,h];cases p<;>first|rfl|simp[h' rfl]
def dE(h:ev cal e M=some v):ex cal (.ret e) M=.ret v:=by
 rw[ex,h];rfl
def av(h:evA cal es M=some vs)(h':cal f vs=some v):ev cal (.call f es) M=some v:=by
 rw[ev,h,bind_some,h']
def gk(h:ev cal e M=some (.lst xs)):ex cal (.setOwn i e) M=.next (put M i (.own xs)):=by
 rw[ex,h];rfl
def cy{α:Type}{xs:List α}{g h:α->PV}(h1:evs cal src M=some vs)(h2:bN k vs=some (xs.map g))(J:xs.length<=10000)
  (Y:∀x∈xs,ev cal elt (db js M (g x))=some (h x)):ev cal (.comp k src js (.cst (.bl true)) elt) M=some (.lst (xs.map h)):=by
 rw[ev,h1,bind_some,h2,bind_some,if_pos (by simpa using J),m8 (h:=h) (λx _=>by simp[ev]) Y]
 rfl
def aW(cal)(v)(M):ev cal (.cst v) M=some v:=rfl
def aP(h:ev cal a M=some x)(h':ev cal b M=some y):ev cal (.bin op a b) M=gQ op x y:=by
 rw[ev,h,bind_some,h',bind_some]
def cz(h:ev cal a M=some x)(h':ev cal b M=some y):ev cal (.cmp op a b) M=(cO op x y).map .bl:=by
 rw[ev,h,bind_some,h',bind_some]
def jH(h:ev cal a M=some (.int x))(J:0<k):ev cal (.cmp .eq (.bin .mod a (ci k)) (ci j)) M=some (.bl (x % k==j)):=by
 rw[cz (aP h (aW _ _ _) |>.trans (by rw[iD,if_pos J])) (aW _ _ _),yU,qh]
 rfl
def fH(h:ev cal a M=some (.int x))(J:0<k/\k<1073741824):ev cal (.bin .fdiv a (ci k)) M=some (.int (x / k)):=by
 rw[aP h (aW _ _ _),yS,if_pos J]
def tq(h:ev cal a M=some (.bl b)):evB cal a M=some b:=by simp_all [evB]
def u8(J:∀i,e≠.bor i)(h:ev cal e M=some v):evA cal [e] M=some [.val v]:=by simp_all [evA]
def rO(J:∀i,e≠.bor i)(h:ev cal e M=some v)(h':cal f [.val v]=some r):ev cal (.call f [e]) M=some r:=av (u8 J h) h'
def fm(h:ev cal a M=some x)(h':ev cal i M=some y):ev cal (.idx a i) M=mI x y:=by
 rw[ev,h,bind_some,h',bind_some]
def gN(h:body x M=.next J):aM body (x::xs) M=aM body xs J:=by rw[aM,h]
def jI(h:ev cal e M=some v)(k:b6 (exs cal ms (put M i (.val v)))=X):b6 (exs cal (.set i e::ms) M)=X:=by simp_all [ay,ng]
def nh(h:ex cal m M=.next C)(k:b6 (exs cal ms C)=X):b6 (exs cal (m::ms) M)=X:=by simp_all [ay]
def gU(h:ev cal e M=some v):b6 (exs cal (.ret e::ms) M)=some v:=by
 rw[ay,dE h];rfl
def dj(h:ev cal e M=some v)(k:exs cal ms (put M i (.val v))=r):exs cal (.set i e::ms) M=r:=by
 rw[ay,ng h,bh,k]
def i6(h:ex cal m M=.next C)(k:exs cal ms C=r):exs cal (m::ms) M=r:=by simp_all [ay]
def eC(h:ex cal m M=.next C):exs cal [m] M=.next C:=by
 rw[ay,h,bh,exs]
def dF(h:ev cal c M=some (.bl p)):ex cal (.ite c a b) M=if p=true then exs cal a M else exs cal b M:=by
 rw[ex,tq h,dL]
def i7(h:ev cal c M=some (.bl false))(k:b6 (exs cal ms M)=X):b6 (exs cal (.ite c a []::ms) M)=X:=by simp_all [dF,exs]
def jJ(h:ev cal c M=some (.bl true))(k:ev cal e M=some v):b6 (exs cal (.ite c [.ret e] b::ms) M)=some v:=by
 rw[ay,dF h,if_pos rfl,ay,dE k];rfl
def zh(h:ev cal (.call f as) M=some v)(k:evA cal es M=some vs):evA cal (.call f as::es) M=some (.val v::vs):=by simp_all [evA]
def GT(h:ev cal (.idx a i) M=some v)(k:evA cal es M=some vs):evA cal (.idx a i::es) M=some (.val v::vs):=by simp_all [evA]
def u9(h:eX (M[i]?).join=some m)(k:evA cal es M=some vs):evA cal (.bor i::es) M=some (m::vs):=by simp_all [evA]
def B0(h:ev cal a M=some (.bl p)):ev cal (.not a) M=some (.bl (!p)):=by
 rw[ev,h];rfl
def wc(h:ev cal c M=some (.bl false))(k:exs cal ms M=r):exs cal (.ite c a []::ms) M=r:=by simp_all [dF,exs]
def B2(h:ev cal e M=some v):exs cal (.ret e::ms) M=.ret v:=by
 rw[ay,dE h];rfl
def B3(h:ev cal c M=some (.bl true))(k:ev cal e M=some v):exs cal (.ite c [.ret e] b::ms) M=.ret v:=by
 rw[ay,dF h,if_pos rfl,ay,dE k];rfl
def GU(h:ev cal a M=some (.bl p))(h':p=false->ev cal b M=some (.bl q)):ev cal (.or a b) M=some (.bl (p||q)):=by
 rw[ev,h];cases p<;>first|rfl|simp[h' rfl]
def Im(h:isIn x xs=some p)(J:ev cal a M=some x)(Y:ev cal b M=some (.tup xs)):ev cal (.cmp .isIn a b) M=some (.bl p):=by
 rw[cz J Y,Bb,h];rfl
def o8(ho:(M[i]?).join=some (.own xs))(h:ev cal e M=some v)(J:xs.length<10000):ex cal (.append i e) M=.next (put M i (.own (xs++[v]))):=by
 rw[ex,ho,h];simp[J]
def u_(h:((xs.length:Int)==0)=p)(J:ev cal a M=some (.tup xs)):ev cal (.cmp .eq (.blt .len [a]) (ci 0)) M=some (.bl p):=by
 rw[cz (aI J) (aW _ _ _),<- h];rfl
def dN(h:ev cal e M=some v)(k:evs cal es M=some vs):evs cal (e::es) M=some (v::vs):=by simp_all [evs]
def iF(h:evs cal es M=some vs)(J:vs.length<=10000:=by simp):ev cal (.tup es) M=some (.tup vs):=by
 rw[ev,h,bind_some,if_pos J]
def va{cal:Cal}{a b:ME}{M:Rho}{x y:PV}{xs:List PV}{p:Bool}(h:isIn x xs=some p)(J:ev cal a M=some x)(Y:ev cal b M=some y)(hs:aZ y=some xs):ev cal (.cmp .notIn a b) M=some (.bl (!p)):=by
 rw[cz J Y,show cO .notIn x y=((aZ y).bind (isIn x)).map λp=>!p from rfl,hs,bind_some,h];rfl
def B4{cal:Cal}{i:Nat}{e:ME}{M:Rho}{v:PV}{xs ys:List PV}(ho:(M[i]?).join=some (.own xs))(h:ev cal e M=some v)(hs:aZ v=some ys)(J:xs.length+ys.length<=10000):ex cal (.extend i e) M=.next (put M i (.own (xs++ys))):=by
 rw[ex,ho,h];simp[hs,J]
def zi{cal:Cal}{c:ME}{a b ms:List MS}{M C:Rho}{r:R}(h:ev cal c M=some (.bl true))(k:exs cal a M=.next C)(J:exs cal ms C=r):exs cal (.ite c a b::ms) M=r:=by
 rw[ay,dF h,if_pos rfl,k,bh,J]
def Bi{cal:Cal}{b:Blt}{es:List ME}{M:Rho}{vs:List PV}(h:evs cal es M=some vs):ev cal (.blt b es) M=aH b vs:=by
 rw[ev,h];rfl
noncomputable def wgt(s:List Int):Int:=2 ^ (60-s.length)
def rP:∀n,n<=60->(1152921504606846976:Int) / 2 ^ n=2 ^ (60-n):=by decide +kernel
def vb(n:Nat)(s:List Int)(J:s.length<=60):ab defs (n+1) 17 [.val (ofS s)]=some (.int (wgt s)):=by
 rw[al (d:=ip) rfl rfl];have e:gQ .shr (.int 1152921504606846976) (.int (s.length:Int))=some (.int (wgt s)):=by
  show(if 0<=(s.length:Int)then some (PV.int (1152921504606846976 / 2 ^ ((s.length:Int)).toNat))else none)=_;rw[if_pos (by omega),Int.toNat_natCast,rP _ J]
  rfl
 exact gU ((aP rfl ((aI rfl).trans (by show some (PV.int (s.map PV.int).length)=_;rw[IC]))).trans e)
def kE  [DecidableEq α] (d:List (α×Sc)) (f:α->Int):Prop:=(∀k,cJ d k=none->f k=0)/\∀k s,cJ d k=some s->s=.int (f k)
def ln{α:Type}(d:List (α×Sc))(P:α->Prop):Prop:=(d.map (·.1)).Nodup/\∀k,k∈d.map (·.1) ↔ P k
section
variable{α:Type} [DecidableEq α]
def zj(d)(k:α)(v):(cZ d k v).map (·.1)=if k∈d.map (·.1)then d.map (·.1)else d.map (·.1)++[k]:=by
 have e:(d.any λp=>decide (p.1=k))=decide (k∈d.map (·.1)):=by
  rw[Jp,JL,JP,mem_map]
  simp_all
 unfold cZ;rw[e];by_cases h:k∈d.map (·.1)
 .rw[if_pos (I0 h),if_pos h,IZ];refine KA λp _=>?_
  show(if p.1=k then(p.1,v)else p).1=p.1;split<;>rfl
 .rw[if_neg (by simpa using h),if_neg h,Jo]
  rfl
def vc(d)(k j:α)(v):cJ (cZ d k v) j=if j=k then some v else cJ d j:=by
 have gen:∀d,(d.any λp=>decide (p.1=k))=true->cJ (d.map λp=>if p.1=k then(p.1,v)else p) j=if j=k then some v else cJ d j:=by
  intro d
  induction d with
  |nil=>intro h;exact dq h
  |cons p d ih =>
   intro h;by_cases Y:p.1=k
   .by_cases J:j=k
    .subst J;simp[cJ,Y]
    .rw[if_neg J];have:¬ p.1=j:=λz=>J (by rw[<- z,Y])
     unfold cJ;rw[Jc,if_pos Y,Kw (by simpa using this),Kw (by simpa using this)];by_cases Z:(d.any λp=>decide (p.1=k))=true
     .have:=ih Z;rw[if_neg J]at this;exact this
     .have e:(d.map λp=>if p.1=k then(p.1,v)else p)=d:=by
       conv=>rhs;rw[<- List.map_id d]
       refine KA λq hq=>?_
       rw[if_neg λz=>Z (JL.mpr ⟨q,hq,I0 z⟩)]
       rfl
      rw[e]
   .have Z:(d.any λp=>decide (p.1=k))=true:=by simpa[Y]using h
    have ih:=ih Z;unfold cJ at ih ⊢;rw[Jc,if_neg Y];by_cases J:p.1=j
    .have:¬ j=k:=λz=>Y (J.trans z)
     rw[Lv (by simpa using J),Lv (by simpa using J),if_neg this]
    .rw[Kw (by simpa using J),Kw (by simpa using J)];exact ih
 unfold cZ;by_cases h:(d.any λp=>decide (p.1=k))=true
 .rw[if_pos h];exact gen d h
 .rw[if_neg h];have no:∀p∈d,¬ p.1=k:=λp Y z=>h (JL.mpr ⟨p,Y,I0 z⟩)
  unfold cJ;rw[find?_append];by_cases J:j=k
  .subst J;have:d.find? (λp=>decide (p.1=j))=none:=LC.mpr λp Y=>by simpa using no p Y
   rw[this,if_pos rfl];simp
  .rw[if_neg J];have:¬ k=j:=λz=>J z.symm
   cases d.find? (λp=>decide (p.1=j))<;>first|rfl|simp[this]
def put_len(d)(k:α)(v):(cZ d k v).length<=d.length+1:=by
 unfold cZ;split
 .simp_all
 .simp_all
def zk(h:kE d f)(k:α):((cJ d k).getD (.int 0)).pv=.int (f k):=by
 cases e:cJ d k with
 |none=>rw[h.1 k e];rfl
 |some s=>rw[h.2 k s e];rfl
def zl(h:kE d f)(k:α)(w):kE (cZ d k (.int (f k+w))) (λj=>if j=k then f j+w else f j):=by
 refine⟨λj e=>?_,λj s e=>?_⟩
 .rw[vc]at e;by_cases J:j=k
  .simp_all
  .rw[if_neg J]at e;dsimp only;rw[if_neg J];exact h.1 j e
 .rw[vc]at e;by_cases J:j=k
  .simp_all
  .rw[if_neg J]at e;dsimp only;rw[if_neg J];exact h.2 j s e
def zm:kE ([]:List (α×Sc)) λ_=>0:=⟨λ_ _=>rfl,λk s z=>aT z⟩
def zn:ln ([]:List (α×Sc)) λ_=>False:=⟨KI,λk=>by simp⟩
def zo(h:ln d P)(k:α)(v):ln (cZ d k v) (λj=>P j\/j=k):=by
 unfold ln;rw[zj];by_cases J:k∈d.map (·.1)
 .rw[if_pos J];refine⟨h.1,λj=>?_⟩;rw[h.2 j];refine⟨.inl,λz=>z.elim id λe=>?_⟩;rw[e];exact(h.2 k).mp J
 .rw[if_neg J];refine⟨Lm.mpr ⟨h.1,by simp,λa Y b Z=>by rw[Jd.mp Z];exact λe=>J (e▸Y)⟩,λj=>?_⟩;rw[JM,Jd,h.2 j]
theorem GV{body:PV->Rho->R}{I:List (α×Sc)->Rho->Prop}{w:Int}:∀{xs:List α},(∀x∈xs,∀d M (f:α->Int),I d M->kE d f->d.length<9500->∃C,I (cZ d x (.int (f x+w))) C/\body (g x) M=.next C) ->
  xs.Nodup->∀{d}{M}{f}{P},I d M->kE d f->ln d P->d.length+xs.length<=9000 ->
  ∃d' C,aM body (xs.map g) M=.next C/\I d' C/\kE d' (λj=>f j+if j∈xs then w else 0)/\ln d' (λk=>P k\/k∈xs)/\d'.length<=d.length+xs.length
 | [],_,_,d,M,f,P,Y,hd,Z,_=>⟨d,M,rfl,Y,by simpa using hd,by simpa using Z,by simp⟩
 |x::xs,hb,hn,d,M,f,P,Y,hd,Z,hl=>by
  rw[length_cons]at hl;obtain⟨hx,hn⟩:=Ji.mp hn;refine ae (hb x (.head _) d M f Y hd (by omega)) λa2 ao e1=>?_
  refine bf λZq kq=>?_
  have a5:=put_len d x (.int (f x+w));obtain⟨d',C,e2,ar,aL,J,a8⟩:=GV (xs:=xs) (λy hy=>hb y (.tail _ hy)) hn ao (zl hd x w) (zo Z x _) (by omega);refine kq ?_;rw[Jc,aM,e1];refine⟨d',C,e2,ar,?_,?_,by rw[length_cons];omega⟩
  .have ef:(λj=>(if j=x then f j+w else f j)+if j∈xs then w else 0)=λj=>f j+if j∈x::xs then w else 0:=by
    funext j
    by_cases hj:j=x
    .simp_all
    .simp[hj]
   rw[<- ef];exact aL
  .refine⟨J.1,λk=>?_⟩;rw[J.2 k];simp only[IM,_root_.or_assoc]
theorem addR{Y:Type}{ge:Y->PV}{m:Y->List α}{w:Y->Int}{body:PV->Rho->R}{I:List (α×Sc)->Rho->Prop}{top:Nat}:∀{R:List Y},(∀s∈R,∀d M (f:α->Int) (P:α->Prop),I d M->kE d f->ln d P->d.length<=8000 ->
   ∃d' C,body (ge s) M=.next C/\I d' C/\kE d' (λj=>f j+if j∈m s then w s else 0)/\ln d' (λk=>P k\/k∈m s)/\d'.length<=d.length+top) ->
  ∀{d}{M}{f}{P},I d M->kE d f->ln d P->d.length+top*R.length<=8000 ->
  ∃d' C,aM body (R.map ge) M=.next C/\I d' C/\kE d' (λj=>f j+(R.map λs=>if j∈m s then w s else 0).sum)/\ln d' (λk=>P k\/∃s∈R,k∈m s)/\d'.length<=d.length+top*R.length
 | [],_,d,M,f,P,Z,hd,hp,_=>⟨d,M,rfl,Z,by simpa using hd,by simpa using hp,by simp⟩
 |s::R,hb,d,M,f,P,Z,hd,hp,hl=>by
  rw[length_cons,Nat.mul_succ]at hl;refine tQ (hb s (.head _) d M f P Z hd hp (IQ (J7 _ _) ‹_›)) λd1 a4 e1 ao ar aL a6=>?_
  refine bf λZq kq=>?_
  obtain⟨d',C,e2,a0,a1,J,bc⟩:=addR (R:=R) (λy hy=>hb y (.tail _ hy)) ao ar aL (by omega);refine kq ?_;rw[Jc,aM,e1];refine⟨d',C,e2,a0,?_,⟨J.1,λk=>?_⟩,by rw[length_cons,Nat.mul_succ];omega⟩
  .have ef:(λj=>(f j+if j∈m s then w s else 0)+(R.map λs=>if j∈m s then w s else 0).sum)=λj=>f j+((s::R).map λs=>if j∈m s then w s else 0).sum:=by
    funext j
    simp only[Jc,sum_cons];omega
   rw[<- ef];exact a1
  .rw[J.2 k];simp only[IM,exists_eq_or_imp,_root_.or_assoc]
end
noncomputable def fo(R:LL)(h:Int):Int:=(R.map λs=>if h∈s then wgt s else 0).sum
def rQ(n:Nat)(R:LL)(g:bR R):∃d,ab defs (n+2) 19 [.val (ofR R)]=some (.dI (.k d))/\kE d (fo R)/\ln d (λk=>∃s∈R,k∈s)/\d.length<=3600:=by
 have hl:=g.2.2;obtain⟨d,C,e,⟨x,y,rfl⟩,hd,Y,Z⟩:=addR (R:=R) (ge:=ofS) (m:=id) (w:=wgt) (top:=60) (body:=λv C=>exs (ab defs (n+1)) o5 (put C 2 (.val v))) (I:=λd M=>∃x y,M=[sv (ofR R),some (.ownD (.k d)),x,y]) (d:=[]) (M:=[sv (ofR R),some (.ownD (.k [])),none,none]) (f:=λ_=>0) (P:=λ_=>False)
  (by
   rintro s hs d M f P ⟨x,y,rfl⟩ hd Y hl;have gs:=g.1 s hs;have ac:=aY gs;have ew:=vb n s ac;obtain⟨d',C,e,⟨y',rfl⟩,r⟩:=GV (xs:=s) (g:=.int) (w:=wgt s) (body:=λv C=>exs (ab defs (n+1)) o4 (put C 3 (.val v))) (I:=λd M=>∃y,M=[sv (ofR R),some (.ownD (.k d)),sv (ofS s),y]) (d:=d) (M:=[sv (ofR R),some (.ownD (.k d)),sv (ofS s),y])
    (by
     rintro z _ d M f ⟨y,rfl⟩ hd hl;have eg:ev (ab defs (n+1)) (.dget (.bor 1) (.bor 3) (ci 0)) [sv (ofR R),some (.ownD (.k d)),sv (ofS s),sv (.int z)]=some (.int (f z)):=by
      rw[<- zk hd z];simp[ev]
     have es:ev (ab defs (n+1)) (.bin .add (.dget (.bor 1) (.bor 3) (ci 0)) (.call 17 [.bor 2])) [sv (ofR R),some (.ownD (.k d)),sv (ofS s),sv (.int z)]=some (.int (f z+wgt s)):=by
      rw[ev,eg,av (vs:=[.val (ofS s)]) (by simp[evA]) ew]
      rfl
     have ao:d.length<10000:=by omega
     refine⟨_,⟨sv (.int z),rfl⟩,?_⟩;show exs (ab defs (n+1)) [_] [sv (ofR R),some (.ownD (.k d)),sv (ofS s),sv (.int z)]=_;rw[ay,ex,es];simp[ev,ao,exs])
    (m9 gs.1) ⟨y,rfl⟩ hd Y (by omega)
   refine⟨d',_,?_,⟨sv (ofS s),y',rfl⟩,r.1,r.2.1,by have:=r.2.2;omega⟩;have J:(evs (ab defs (n+1)) [.bor 2] [sv (ofR R),some (.ownD (.k d)),sv (ofS s),y]).bind (bN .seq)=some (s.map .int):=by simp[evs,ev]
   show exs (ab defs (n+1)) [_] [sv (ofR R),some (.ownD (.k d)),sv (ofS s),y]=_;rw[ay,dU J,show bu [.bor 2] [sv (ofR R),some (.ownD (.k d)),sv (ofS s),y]=[sv (ofR R),some (.ownD (.k d)),sv (ofS s),y]from rfl,e,iE,bh];simp[exs,bn])
  ⟨none,none,rfl⟩ zm zn (by simp;omega)
 refine⟨d,?_,?_,?_,by simp at Z;omega⟩
 .rw[al (d:=u7) rfl rfl];have J:(evs (ab defs (n+1)) [.bor 0] [sv (ofR R),some (.ownD (.k [])),none,none]).bind (bN .seq)=some (R.map ofS):=by simp[evs,ev]
  show b6 (exs (ab defs (n+1)) (_::_::[_]) [sv (ofR R),none,none,none])=_;simp only[ay];rw[show ex (ab defs (n+1)) (.newD false 1) [sv (ofR R),none,none,none]=.next [sv (ofR R),some (.ownD (.k [])),none,none]from by rw[ex];rfl,bh,dU J,show bu [.bor 0] [sv (ofR R),some (.ownD (.k [])),none,none]=[sv (ofR R),some (.ownD (.k [])),none,none]from rfl,e,iE,bh]
  rfl
 .have ef:(λj=>(0:Int)+(R.map λs=>if j∈id s then wgt s else 0).sum)=fo R:=by funext j;rw[Int.zero_add];rfl
  rw[<- ef];exact hd
 .refine⟨Y.1,λk=>?_⟩;rw[Y.2 k];simp
def EE  [DecidableEq α] {P:α->Prop} (hd:kE d f) (Y:ln d P):∃M ns,(d.map (·.2)).map Sc.pv=ns.map .int/\ns.length=d.length/\vT (0::ns)=some M/\0<=M/\(M=0\/∃k,P k/\f k=M)/\∀k,P k->f k<=M:=by
 have Z:∀p∈d,p.2=.int (f p.1):=λp J=>by
  have e:cJ d p.1=some p.2:=by
   unfold cJ;have gen:∀(l:List (α×Sc)),(l.map (·.1)).Nodup->p∈l->l.find? (λq=>decide (q.1=p.1))=some p:=by
    intro l
    induction l with
    |nil=>intro _ h;cases h
    |cons q l ih =>
     intro hn h;rw[Jc,Ji]at hn;rcases IM.mp h with rfl|h
     .exact Lv (I0 rfl)
     .rw[Kw (by
       simp only[JP];intro e;exact hn.1 (mem_map.mpr ⟨p,h,e.symm⟩))]
      exact ih hn.2 h
   rw[gen d Y.1 J]
   rfl
  exact hd.2 p.1 p.2 e
 have hm:vT (0::d.map λp=>f p.1)=some ((d.map λp=>f p.1).foldl (λa b=>if a<b then b else a) 0):=rfl;obtain⟨h1,h2⟩:=ko hm;refine⟨_,d.map λp=>f p.1,?_,by simp,hm,h2 0 (.head _),?_,λk hk=>?_⟩
 .rw[IZ,IZ];refine KA λp J=>?_
  show(p.2).pv=_;rw[Z p J]
  rfl
 .rcases IM.mp h1 with h|h
  .exact .inl h
  .refine ae (mem_map.mp h) λp J e=>?_
   exact .inr ⟨p.1,(Y.2 p.1).mp (mem_map.mpr ⟨p,J,rfl⟩),e⟩
 .refine ae (mem_map.mp ((Y.2 k).mpr hk)) λp J ao=>?_
  subst ao;exact h2 _ (.tail _ (mem_map.mpr ⟨p,J,rfl⟩))
def Top(R:LL)(M:Int):Prop:=0<=M/\(M=0\/∃k,(∃s∈R,k∈s)/\fo R k=M)/\∀k,(∃s∈R,k∈s)->fo R k<=M
def ni(n:Nat)(R:LL)(g:bR R):∃M,ab defs (n+3) 20 [.val (ofR R)]=some (.int M)/\Top R M:=by
 obtain⟨d,e,hd,Z,ac⟩:=rQ n R g;obtain⟨M,ns,e1,ar,e2,h0,h1,h2⟩:=EE hd Z;refine⟨M,?_,h0,h1,h2⟩;rw[al (d:=gR) rfl rfl];have J:ev (ab defs (n+2)) (.blt .valuesOf [(.call 19 [.bor 0])]) [sv (ofR R)]=some (.lst (ns.map .int)):=by
  rw[aI (av (vs:=[.val (ofR R)]) (by simp[evA]) e),sZ,if_pos (by unfold kR dSc;rw[IC,IC];omega)];show some (PV.lst ((d.map (·.2)).map Sc.pv))=_;rw[e1]
 have Y:ev (ab defs (n+2)) (.bin .add (.lst [(ci 0)]) (.blt .valuesOf [(.call 19 [.bor 0])])) [sv (ofR R)]=some (.lst ((0::ns).map .int)):=by
  rw[ev,J];simp[ev,evs];omega
 show b6 (exs (ab defs (n+2)) [_] [sv (ofR R)])=_;rw[ay,dE (v:=.int M)]
 .rfl
 .rw[aI Y,rL,bo,bind_some,e2]
  rfl
def rR{R:LL}(h:Top R M)(h':Top R N):M=N:=by
 have key:∀{M N},Top R M->Top R N->M<=N:=λ{M N} h h'=>by
  rcases h.2.1 with e|⟨k,J,e⟩
  .rw[e];exact h'.1
  .rw[<- e];exact h'.2.2 k J
 grind
def wd(n:Nat)(R:LL):ab defs (n+1) 7 [.val (ofR R)]=some (.bl (decide (R=[]))):=by
 rw[al (d:=oY) rfl rfl];cases R with
 |nil=>rfl
 |cons t R =>
  have:¬ ((R.length:Int)+1=0):=by omega
  rw[Jt (cons_ne_nil t R)];exact gU (u_ (Ki.mpr (by rw[IC,length_cons];exact this)) rfl)
noncomputable def eE (b:Bool):PySem.Str:=if b=true then "moth" else "weaver"
def skip{cal:Cal}{i:Nat}{x y:PySem.Str}{M:Rho}{a:List MS}(hi:(M[i]?).join=sv (.str x))(h:(x==y)=false):ex cal (.ite (.cmp .eq (.bor i) (.cst (.str y))) a []) M=.next M:=by
 rw[ex,tq (b:=false) ((cz (x:=.str x) (by rw[ev,hi];rfl) (aW _ _ _)).trans (by rw[yU,Bc,h];rfl)),dL,if_neg (by decide),exs]
def Bj(a b):((PySem.Str.ofString a)==(PySem.Str.ofString b))=(a==b):=by
 rw[Jp,IS,IS];refine⟨λh=>?_,λh=>by rw[h]⟩;rw[PySem.Str.ofString_eq_byList]at h;have h1:(a.toList.map Char.toNat).toArray=(b.toList.map Char.toNat).toArray:=by injection h
 have h2:a.toList.map Char.toNat=b.toList.map Char.toNat:=by simpa using h1
 have key:∀xs ys:List Char,xs.map Char.toNat=ys.map Char.toNat->xs=ys:=by
  intro xs
  induction xs with
  |nil=>intro ys h;cases ys with|nil=>rfl|cons=>injection h
  |cons x xs ih=>intro ys h;cases ys with
   |nil=>injection h
   |cons y ys =>
    simp only[Jc,List.cons.injEq]at h;rw[ih ys h.2,Char.toNat_inj.mp h.1]
 exact String.toList_inj.mp (key _ _ h2)
noncomputable def sub(a b:List Int):Bool:=a.all λx=>decide (x∈b)
def gO :sub a b=true ↔ ∀x∈a,x∈b:=by simp[sub]
def kF(n:Nat)(m Z:MV)(a b:List Int)(Y:(bA (some m)).bind aZ=some (a.map .int))(J:(bA (some Z)).bind aZ=some (b.map .int))(ha:a.length<=4000)(hb:b.length<=4000)(hd:(dd b).length<=60):ab defs (n+1) 10 [m,Z]=some (.bl (sub b a)):=by
 rw[al (d:=oZ) rfl rfl];have h:((((dd b).filter λx=>!decide (x∈a)).length:Int)==0)=sub b a:=by
  rw[Jp,IS,gO];constructor
  .intro h x hx;have h2:(dd b).filter (λx=>!decide (x∈a))=[]:=Ln (by omega);have:=filter_eq_nil_iff.mp h2 x (i3.mpr hx);simpa using this
  .intro h;have h2:(dd b).filter (λx=>!decide (x∈a))=[]:=filter_eq_nil_iff.mpr λx hx=>by simpa using h x (i3.mp hx)
   rw[h2];rfl
 cases h1:bA (some m)with
 |none=>rw[h1]at Y;cases Y
 |some v =>
  cases h2:bA (some Z)with
  |none=>rw[h2]at J;cases J
  |some v' =>
   rw[h1]at Y;rw[h2]at J;have Y:aZ v=some (a.map .int):=Y;have J:aZ v'=some (b.map .int):=J;have e:aH .lenSetSub [v',v]=some (.int ((dd b).filter λx=>!decide (x∈a)).length):=by
    show((aZ v').bind λxs=>(bw xs).bind λns=>(aZ v).bind λys=>(bw ys).bind λms=>if ns.length<=4000/\ms.length<=4000/\(dd ns).length<=60 then some (PV.int ((dd ns).filter λn=>!decide (n∈ms)).length)else none)=_;rw[J,Y];simp[bo,ha,hb,hd]
   refine gU ((cz ((Bi ?_).trans e) (aW _ _ _)).trans (JD (λb=>some (PV.bl b)) h));exact dN h2 (dN h1 rfl)
theorem jK(cal:Cal)(a:MV):∀(R:LL) (g:List Int->PV) (Y:∀t,aZ (g t)=some (t.map .int)) (J:List Int) (s:Option MV),J.length+R.flatten.length<=10000 ->
  ∃s',aM (λx C=>exs cal cU (put C 2 (.val x))) (R.map g) [some a,some (.own (J.map .int)),s]=.next [some a,some (.own ((J++R.flatten).map .int)),s']
 | [],g,Y,J,s,_=>⟨s,by simp⟩
 |t::R,g,Y,J,s,h=>by
  rw[Jc,aM];rw[flatten_cons,IX]at h;have h2:J.length+t.length<=10000:=by omega
  have e:exs cal cU (put [some a,some (.own (J.map .int)),s] 2 (.val (g t)))=.next [some a,some (.own ((J++t).map .int)),sv (g t)]:=by
   rw[Jo];exact eC (B4 (xs:=J.map .int) rfl rfl (Y t) (by rw[IC,IC];exact h2))
  rw[e];obtain⟨s',Z⟩:=jK cal a R g Y (J++t) (sv (g t)) (by rw[IX];omega);exact⟨s',by rw[flatten_cons,<- Kk];exact Z⟩
def kG(n)(m)(ho:∀xs,m≠.own xs)(R:LL)(g)(Z:∀t,aZ (g t)=some (t.map .int))(J:(bA (some m)).bind aZ=some (R.map g))(hl:R.flatten.length<=10000):ab defs (n+1) 0 [m]=some (ofL R.flatten):=by
 rw[al rfl rfl];obtain⟨s',e⟩:=jK (ab defs n) m R g Z [] none (by simpa using hl);simp only[map_nil]at e;cases Y:bA _ with
 |none=>rw[Y]at J;cases J
 |some v =>
  rw[Y]at J;have J:aZ v=some _:=J;cases m<;>first|exact absurd rfl (ho _)|simp[gH,exs,ex,ev,evs,bu,Y,J,e,bn,-map_flatten]
theorem iG:∀l,(dd l).length<=l.length
 | []=>y4 _
 |x::r=>by
  have:=iG r;rw[dd]
  grind
theorem eO:∀l,(dd l).length=l.length ↔ l.Nodup
 | []=>by simp[dd]
 |x::r=>by
  have h:=iG r;have ih:=eO r;rw[dd,Ji,<- ih];by_cases q:x∈dd r
  .rw[if_pos q,length_cons];exact⟨λz=>by omega,λz=>absurd (i3.mp q) z.1⟩
  .rw[if_neg q,length_cons,length_cons];exact⟨λz=>⟨λw=>q (i3.mpr w),by exact(Nat.succ.inj ‹_›)⟩,λz=>by omega⟩
def zp(n:Nat)(l:List Int)(J:l.length<=4000):ab defs (n+1) 1 [.val (ofL l)]=some (.bl (decide l.Nodup)):=by
 rw[al (d:=kX) rfl rfl];have e:aH .lenSet [ofL l]=some (.int (dd l).length):=by
  show((aZ (ofL l)).bind λxs=>(bw xs).bind λns=>if ns.length<=4000 then some (PV.int (dd ns).length)else none)=_;rw[qi,bind_some,bo,bind_some,if_pos J]
 have h:(((dd l).length:Int)==(l.length:Int))=decide l.Nodup:=by
  rw[Jp,IS,JP,<- eO];omega
 refine gU ((cz ((aI rfl).trans e) (y:=.int (l.map PV.int).length) rfl).trans ?_);rw[IC,<- h];rfl
def OkP(R:LL):Prop:=∀t∈R,∃x y,t=[x,y]/\(0<=x/\x<=59)/\0<=y/\y<=59
def Bk(h:t.length<=2):(dd t).length<=60:=IQ (iG t) (by omega)
def ql{R:LL}(h:OkP R):∀t∈R,t.length=2:=λt J=>by obtain⟨x,y,rfl,_⟩:=h t J;rfl
theorem B5:∀{R},OkP R->R.flatten.length=2*R.length
 | [],_=>rfl
 |t::R,h=>by
  rw[flatten_cons,IX,ql h t (.head _),B5 λu J=>h u (.tail _ J),length_cons];omega
def tu(n:Nat)(s:List Int)(v:PV)(R:LL)(hv:aZ v=some (R.map ofS))(J:OkP R)(hl:R.length<=60)(hs:s.length<=4000):ab defs (n+2) 14 [.val (ofS s),.val v]=some (.bl (R.any λt=>sub t s)):=by
 rw[al (d:=jC) rfl rfl];have Z:ev (ab defs (n+1)) (.comp .seq [.bor 1] [0] (.cst (.bl true)) (.call 10 [.bor 1,.bor 0])) [sv (ofS s),sv v]=some (.lst (R.map λt=>.bl (sub t s))):=by
  refine cy (g:=ofS) (vs:=[v]) (by simp[evs,ev]) hv (by omega) λt Y=>?_
  refine av (vs:=[.val (ofS s),.val (ofS t)]) (by simp[evA,db]) (kF n _ _ s t rfl rfl hs (by have:=ql J t Y;omega) (Bk (by have:=ql J t Y;omega)))
 show b6 (exs _ [.ret _] _)=_;rw[ay,dE (v:=.bl (R.any λt=>sub t s))]
 .rfl
 .show ev (ab defs (n+1)) (.blt .any [_]) [sv (ofS s),sv v]=_;rw[aI Z,lJ,show(R.map λt=>PV.bl (sub t s))=(R.map λt=>sub t s).map PV.bl from by rw[IZ];rfl,cQ];simp
noncomputable def nj(R A:LL):Bool:=decide R.flatten.Nodup&&A.all λs=>R.any λt=>sub t s
def qm(n:Nat)(v:PV)(R A:LL)(hv:aZ v=some (R.map ofS))(J:OkP R)(Z:R.length<=60)(ga:∀t∈A,b7 t)(hA:A.length<=60):ab defs (n+3) 15 [.val v,.val (ofR A)]=some (.bl (nj R A)):=by
 rw[al (d:=jD) rfl rfl];have hf:=B5 J;have em:=kG (n+1) (.val v) (λ_ z=>by cases z) R ofS (λ_=>rfl) (by simpa using hv) (by omega);simp only[Mw,Nat.reduceAdd]at em;have Y:=zp (n+1) R.flatten (by omega);simp only[Mw,Nat.reduceAdd]at Y;show b6 (exs (ab defs (n+2)) (_::[_]) [sv v,sv (ofR A)])=_;have e1:ev (ab defs (n+2)) (.call 1 [(.call 0 [.bor 0])]) [sv v,sv (ofR A)]=some (.bl (decide R.flatten.Nodup)):=
  av (vs:=[.val (ofL R.flatten)]) (by
   have a1:ev (ab defs (n+2)) (.call 0 [.bor 0]) [sv v,sv (ofR A)]=some (ofL R.flatten):=av (vs:=[.val v]) (by simp[evA]) em;simp only[evA,a1]
   rfl) Y
 have ec:ev (ab defs (n+2)) (.comp .seq [.bor 1] [0] (.cst (.bl true)) (.call 14 [.bor 0,.bor 1])) [sv v,sv (ofR A)]=some (.lst (A.map λs=>.bl (R.any λt=>sub t s))):=by
  refine cy (g:=ofS) (vs:=[ofR A]) (by simp[evs,ev]) rfl (by omega) λs hs=>?_
  exact av (vs:=[.val (ofS s),.val v]) (by simp[evA,db]) (tu n s v R hv J Z (by have:=aY (ga s hs);omega))
 have e2:ev (ab defs (n+2)) (.blt .all [(.comp .seq [.bor 1] [0] (.cst (.bl true)) (.call 14 [.bor 0,.bor 1]))]) [sv v,sv (ofR A)]=some (.bl (A.all λs=>R.any λt=>sub t s)):=by
  rw[aI ec,qj,show(A.map λs=>PV.bl (R.any λt=>sub t s))=(A.map λs=>R.any λt=>sub t s).map PV.bl from by rw[IZ];rfl,cQ];simp
 rw[ay];have e3:ex (ab defs (n+2)) (.ite (.not (.call 1 [(.call 0 [.bor 0])])) [.ret (.cst (.bl false))] []) [sv v,sv (ofR A)]=if R.flatten.Nodup then .next [sv v,sv (ofR A)]else .ret (.bl false):=by
  rw[ex,evB,ev,e1];by_cases q:R.flatten.Nodup
  .simp[q,exs]
  .simp[q,exs,ex,ev]
 rw[e3];unfold nj;by_cases q:R.flatten.Nodup
 .rw[if_pos q,bh,ay,dE e2,I0 q,L6]
  rfl
 .rw[if_neg q,Jt q,Lo]
  rfl
def zq(n:Nat)(R:LL)(g:∀t∈R,b7 t)(J:R.length<=10000):ab defs (n+2) 18 [.val (ofR R)]=some (.int (R.map wgt).sum):=by
 rw[al (d:=rN) rfl rfl];have Y:ev (ab defs (n+1)) (.comp .seq [.bor 0] [] (.cst (.bl true)) (.call 17 [.bor 0])) [sv (ofR R)]=some (.lst ((R.map wgt).map .int)):=by
  refine(cy (g:=ofS) (h:=λs=>.int (wgt s)) (vs:=[ofR R]) (by simp[evs,ev]) rfl J λs hs=>?_).trans (by rw[IZ];rfl);exact av (vs:=[.val (ofS s)]) (by simp[evA,db]) (vb n s (aY (g s hs)))
 show b6 (exs (ab defs (n+1)) [_] [sv (ofR R)])=_;rw[ay,dE (v:=.int (R.map wgt).sum)]
 .rfl
 .rw[aI Y];show((bw _).map λns=>PV.int ns.sum)=_;rw[bo]
  rfl
def nY (n:Nat) (R:LL) (g:bR R):∃M,Top R M/\ab defs (n+4) 21 [.val (ofR R),.val (.str "weaver")]=some (.bl (decide ((R.map wgt).sum+M<1152921504606846976)))/\ab defs (n+4) 21 [.val (ofR R),.val (.str "moth")]=some (.bl (decide ((R.map wgt).sum<1152921504606846976))):=by
 obtain⟨M,em,Y⟩:=ni n R g;have J:=zq (n+1) R g.1 (by have:=g.2.2;omega);refine⟨M,Y,?_,?_⟩
 .rw[al (d:=fQ) rfl rfl];have h:((("weaver":Str)==("moth":Str)))=false:=by decide
  exact i7 (JD (λb=>some (PV.bl b)) h) (gU ((cz ((aP (av rfl J) (av rfl em)).trans rfl) rfl).trans rfl))
 .rw[al (d:=fQ) rfl rfl];exact jJ rfl ((cz (av rfl J) rfl).trans rfl)
def gM {n:Nat}{v:PV}{R:PV}{t:PySem.Str}{r:PV} (h:ab defs n 23 [.val v,.val R,.val (.str t)]=some r):ab defs (n+1) 22 [.val v,.val R,.val (.str t),.val (.str "moth")]=some r:=by
 rw[al (d:=iq) rfl rfl];exact jJ rfl (av rfl h)
def EF (n:Nat) (R:LL) (t:Bool):ab defs (n+3) 22 [.val (.tup [.str "bare"]),.val (ofR R),.val (.str (eE t)),.val (.str (eE true))]=some (.bl (decide (R=[]))):=by
 refine gM ?_;rw[al (d:=aJ) rfl rfl];exact jI rfl (jJ rfl (av rfl (wd n R)))
def Bl (n:Nat) (R:LL) (t:Bool):ab defs (n+3) 22 [.val (.tup [.str "whole"]),.val (ofR R),.val (.str (eE t)),.val (.str (eE true))]=some (.bl false):=by
 refine gM ?_;rw[al (d:=aJ) rfl rfl];cases t<;>rfl
noncomputable def zr(R:LL)(M:Int)(t:Bool):Bool:=
 if t=true then decide ((R.map wgt).sum<1152921504606846976)else decide ((R.map wgt).sum+M<1152921504606846976)
def zt (n:Nat) (R:LL) (g:bR R) {M:Int} (Y:Top R M) (t:Bool):ab defs (n+6) 22 [.val (.tup [.str "weight"]),.val (ofR R),.val (.str (eE t)),.val (.str (eE true))]=some (.bl (zr R M t)):=by
 obtain⟨N,Z,J,m2⟩:=nY n R g;rw[rR Z Y]at J;refine gM ?_;rw[al (d:=aJ) rfl rfl];refine jI rfl (i7 rfl (jJ rfl (av rfl ?_)));cases t
 .exact J
 .exact m2
def Bm (n:Nat) (R P:LL) (J:OkP P) (Y:P.length<=60) (g:bR R) (t:Bool):ab defs (n+5) 22 [.val (.tup [.str "pairs",ofR P]),.val (ofR R),.val (.str (eE t)),.val (.str (eE true))]=some (.bl (!t&&nj P R)):=by
 refine gM ?_;rw[al (d:=aJ) rfl rfl];cases t
 .exact jI rfl (i7 rfl (i7 rfl (i7 rfl (jJ rfl (av rfl (qm n (ofR P) P R rfl J Y g.1 g.2.2))))))
 .rfl
def o9 (v:PV):Prop:=v=.tup [.str "bare"]\/v=.tup [.str "whole"]\/v=.tup [.str "weight"]\/∃P,OkP P/\P.length<=60/\v=.tup [.str "pairs",ofR P]
def nk(n:Nat)(a b:List Int):ab defs (n+1) 30 [.val (ofS a),.val (ofS b)]=some (.bl (sub a b)):=by
 rw[al (d:=cx) rfl rfl];have key:=gK (g:=PV.int) (xs:=a) (body:=λx C=>exs (ab defs n) bJ (put C 2 (.val x))) (I:=λM=>∃kk,M=[sv (ofS a),sv (ofS b),kk]) (p:=λx=>!decide (x∈b)) (r:=λ_=>.bl false)
  (M:=[sv (ofS a),sv (ofS b),none]) ⟨_,rfl⟩ (by
   rintro x hx M ⟨kk,rfl⟩;constructor
   .intro h;simp at h;simp[bJ,exs,ex,ev,evs,evB,cn,h]
   .intro h;simp at h;exact⟨[sv (ofS a),sv (ofS b),sv (.int x)],⟨_,rfl⟩,by simp[bJ,exs,ex,ev,evs,evB,cn,h]⟩)
 cases hf:a.find? (λx=>!decide (x∈b))with
 |some x =>
  have e:=key.1 x hf;have hx:=find?_some hf;have J:=LI hf;have:sub a b=false:=by
   cases hs:sub a b with
   |false=>rfl
   |true=>simp[gO.mp hs x J]at hx
  simp[cx,exs,ex,ev,evs,bu,e,this]
 |none =>
  obtain⟨C,⟨kk,rfl⟩,e⟩:=key.2 hf;have:sub a b=true:=gO.mpr λx hx=>by
   have:=LC.mp hf x hx;simpa using this
  simp[cx,exs,ex,ev,evs,bu,e,this,bn]
theorem k7:∀{P},OkP P->((P.map λt=>t.getD 0 0)++(P.map λt=>t.getD 1 0)).Perm P.flatten
 | [],_=>Perm.refl _
 |t::P,h=>by
  obtain⟨x,y,rfl,_⟩:=h t (.head _);have ih:=k7 (P:=P) λt J=>h t (.tail _ J)
  exact .cons x ((perm_middle (a:=y)).trans (.cons y ih))
def zu(n:Nat)(P R:LL)(Y:OkP P)(hl:P.length<=60)(hR:R.length<=60):ab defs (n+2) 35 [.val (ofR P),.val (ofR R)]=some (.bl (nj P R)):=by
 rw[al (d:=k5) rfl rfl];have c0:∀M:Rho,ev (ab defs (n+1)) (.comp .seq [.bor 0] [] (.cst (.bl true)) (ix 0 0)) (sv (ofR P)::M)=some (ofL (P.map λt=>t.getD 0 0)):=λM=>by
  refine(cy (g:=ofS) (h:=λt=>.int (t.getD 0 0)) (vs:=[ofR P]) (by simp[evs,ev]) rfl (by omega) λt J=>?_).trans (by unfold ofL;rw[IZ];rfl);obtain⟨x,y,rfl,_⟩:=Y t J;simp[ev,place,db,ofS]
 have c1:∀M:Rho,ev (ab defs (n+1)) (.comp .seq [.bor 0] [] (.cst (.bl true)) (ix 0 1)) (sv (ofR P)::M)=some (ofL (P.map λt=>t.getD 1 0)):=λM=>by
  refine(cy (g:=ofS) (h:=λt=>.int (t.getD 1 0)) (vs:=[ofR P]) (by simp[evs,ev]) rfl (by omega) λt J=>?_).trans (by unfold ofL;rw[IZ];rfl);obtain⟨x,y,rfl,_⟩:=Y t J;simp[ev,place,db,ofS]
 have hq:=(k7 Y).nodup_iff;obtain⟨F,Z⟩:∃F,F=(P.map λt=>t.getD 0 0)++(P.map λt=>t.getD 1 0):=⟨_,rfl⟩;have aL:F.length=2*P.length:=by rw[Z];simp;omega
 have ef:∀M:Rho,ev (ab defs (n+1)) (.bin .add (.comp .seq [.bor 0] [] (.cst (.bl true)) (ix 0 0)) (.comp .seq [.bor 0] [] (.cst (.bl true)) (ix 0 1))) (sv (ofR P)::M)=some (ofL F):=λM=>by
  rw[aP (c0 M) (c1 M)];show(if _ then _ else _)=_;rw[if_pos (by simp;omega),Z];simp[ofL]
 rw[<- Z]at hq;have es:aH .lenSet [ofL F]=some (.int (dd F).length):=by
  show((aZ (ofL F)).bind λxs=>(bw xs).bind λns=>if ns.length<=4000 then some (PV.int (dd ns).length)else none)=_;rw[qi,bind_some,bo,bind_some,if_pos (by omega)]
 have ec:∀M:Rho,evB (ab defs (n+1)) (.cmp .ne (.blt .lenSet [.bor 2]) (.blt .len [.bor 2])) (sv (ofR P)::sv (ofR R)::sv (ofL F)::M)=some (!decide P.flatten.Nodup):=λM=>by
  have:(((dd F).length:Int)==(F.length:Int))=decide P.flatten.Nodup:=by
   rw[Jp,IS,JP,<- hq,<- eO];omega
  simp[evB,ev,evs,es,this]
 have ea:∀M:Rho,ev (ab defs (n+1)) (.blt .all [(.comp .seq [.bor 1] [0] (.cst (.bl true)) (.blt .any [(.comp .seq [.bor 1] [0] (.cst (.bl true)) (.call 30 [.bor 0,.bor 1]))]))]) (sv (ofR P)::sv (ofR R)::M)=some (.bl (R.all λs=>P.any λt=>sub t s)):=λM=>by
  rw[aI (v:=.lst ((R.map λs=>P.any λt=>sub t s).map .bl)),qj,cQ]
  .simp
  .refine(cy (g:=ofS) (h:=λs=>.bl (P.any λt=>sub t s)) (vs:=[ofR R]) (by simp[evs,ev]) rfl (by omega) λs hs=>?_).trans (by rw[IZ];rfl);rw[aI (v:=.lst ((P.map λt=>sub t s).map .bl)),lJ,cQ]
   .simp
   .refine(cy (g:=ofS) (h:=λt=>.bl (sub t s)) (vs:=[ofR P]) (by simp[evs,ev,db]) rfl (by omega) λt J=>?_).trans (by rw[IZ];rfl);exact av (vs:=[.val (ofS t),.val (ofS s)]) (by simp[evA,db]) (nk n t s)
 show b6 (exs (ab defs (n+1)) (_::_::[_]) [sv (ofR P),sv (ofR R),none])=_;rw[ay,ng (ef _),bh];simp only[cR,cT];rw[ay,ex,ec];unfold nj;cases decide P.flatten.Nodup with
 |false=>rfl
 |true =>
  rw[K9,dL,if_neg (by decide),exs,bh,ay,dE (ea _),L6]
  rfl
section
variable{α:Type} [DecidableEq α]
end
noncomputable def GW(R:LL)(a b:Int):Int:=((R.filter λs=>decide (a∈s)&&decide (b∈s)).length:Int)
def Io(R:LL)(M:Int):Prop:=0<=M/\(M=0\/∃a b,a<b/\(∃s∈R,a∈s/\b∈s)/\GW R a b=M)/\∀a b,a<b->GW R a b<=M
noncomputable def hV(J:List Int)(h:Int):List Int:=if h∈J then J else J++[h]
noncomputable def jL(R:LL):List Int:=R.foldl (λacc J=>J.foldl hV acc) []
noncomputable def ag(R:LL):List Int:=sortI (jL R)
def vd(J:acc.Nodup):(hV acc h).Nodup/\∀x,x∈hV acc h ↔ x∈acc\/x=h:=by
 unfold hV;by_cases q:h∈acc
 .simp_all
 .rw[if_neg q];refine⟨Lm.mpr ⟨J,by simp,λx hx y Y=>by rw[Jd.mp Y];exact λz=>q (z▸hx)⟩,λx=>?_⟩
  simp_all
theorem nl:∀(Y J:List Int),J.Nodup->(Y.foldl hV J).Nodup/\∀x,x∈Y.foldl hV J ↔ x∈J\/x∈Y
 | [],J,Z=>⟨Z,λx=>by simp⟩
 |t::Y,J,Z=>by
  obtain⟨h1,h2⟩:=vd (h:=t) Z;obtain⟨h3,h4⟩:=nl Y (hV J t) h1;refine⟨h3,λx=>?_⟩;rw[foldl_cons,h4,h2,IM,_root_.or_assoc]
theorem gm:∀(R:LL) J,J.Nodup->(R.foldl (λJ Y=>Y.foldl hV J) J).Nodup/\∀x,x∈R.foldl (λJ Y=>Y.foldl hV J) J ↔ x∈J\/∃Y∈R,x∈Y
 | [],J,Z=>⟨Z,λx=>by simp⟩
 |t::Y,J,Z=>by
  obtain⟨h1,h2⟩:=nl t J Z;obtain⟨h3,h4⟩:=gm Y (t.foldl hV J) h1;refine⟨h3,λx=>?_⟩;rw[foldl_cons,h4,h2];simp[_root_.or_assoc]
def dk{R:LL} :x∈ag R ↔ ∃J∈R,x∈J:=by
 unfold ag;rw[oX];have:=(gm R [] KI).2 x;unfold jL;rw[this];simp
theorem tw(R):(ag R).Pairwise (· < ·):=rM (gm R [] KI).1
def b8{R:LL}(g:∀J∈R,b7 J):b7 (ag R):=⟨tw R,λh Y=>by
 refine ae (dk.mp Y) λJ h1 h2=>?_
 exact(g J h1).2 h h2⟩
def we{R:LL}(g:∀J∈R,b7 J):(jL R).length<=60:=by
 have:=aY (b8 g);unfold ag at this;rw[sortI_len]at this;exact this
def Bn{R:LL}{J:List Int}(Y:J.Nodup)(h:∀x∈J,0<=x/\x<=59):J.length<=60:=s_ 60 J Y λx hx=>by have:=h x hx;omega
def jM(R):sortI (dd R.flatten)=ag R:=by
 refine sortI_of_perm ((Kq (dd_nodup _) (gm R [] KI).1).mpr λx=>?_);rw[i3,(gm R [] KI).2 x,La];simp
def i8(n:Nat)(R:LL)(g:∀J∈R,b7 J)(Y:R.flatten.length<=4000):ab defs (n+2) 5 [.val (ofR R)]=some (ofL (ag R)):=by
 rw[al (d:=m_) rfl rfl];have e:=kG n (.val (ofR R)) (λ_ z=>by cases z) R ofS (λ_=>rfl) rfl (by omega);have hd:(dd R.flatten).length<64:=by
  have:=aY (b8 g);rw[<- jM,sortI_len]at this;omega
 exact gU ((aI (av rfl e)).trans (by rw[nX,qi,bind_some,bo,bind_some,if_pos ⟨Y,hd⟩,jM]))
def GX(R:LL):Prop:=∃M,Io R M/\1152921504606846976*M*(((ag R).length:Int) / 2)<4*(R.map wgt).sum
noncomputable def hv(R:LL):Bool:=@decide (GX R) (Classical.propDecidable _)
def zv(cal)(M):ev cal (.bin .pow (ci 2) (ci 60)) M=some (.int 1152921504606846976):=rfl
def B6(cal)(s)(J:s.length<=60)(r):ev cal (.bin .shr (.bin .pow (ci 2) (ci 60)) (.blt .len [.bor 0])) (sv (ofS s)::r)=some (.int (wgt s)):=by
 rw[aP (zv _ _) (y:=.int (s.length:Int)) (by simp[ev,evs])];show(if 0<=(s.length:Int)then some _ else none)=_;rw[if_pos (by omega),Int.toNat_natCast,rP _ J]
 rfl
def zw{ns:List Int}(h:ev cal e M=some (.lst (ns.map .int))):ev cal (.blt .sum [e]) M=some (.int ns.sum):=by
 rw[aI h];show((bw _).map λns=>PV.int ns.sum)=_;rw[bo]
 rfl
def EG(n:Nat)(R:LL)(g:bR R):ab defs (n+1) 32 [.val (ofR R)]=some (.int (R.map wgt).sum):=by
 rw[al (d:=o6) rfl rfl];show b6 (exs (ab defs n) [.ret _] [sv (ofR R)])=_;rw[ay,dE (zw (ns:=R.map wgt) ((cy (g:=ofS) (h:=λs=>.int (wgt s)) (vs:=[ofR R]) (by simp[evs,ev]) rfl (by have:=g.2.2;omega) λs hs=>B6 _ s (aY (g.1 s hs)) _).trans (by rw[IZ];rfl)))]
 rfl
def rS(R)(h):((R.filter λs=>decide (h∈s)).map wgt).sum=fo R h:=by
 unfold fo
 induction R with
 |nil=>rfl
 |cons s R ih =>
  by_cases q:h∈s
  .simp_all
  .simp_all
def wf(n:Nat)(R:LL)(h:Int)(g:bR R):ab defs (n+1) 33 [.val (ofR R),.val (.int h)]=some (.int (fo R h)):=by
 rw[al (d:=jF) rfl rfl];show b6 (exs (ab defs n) [.ret _] [sv (ofR R),sv (.int h)])=_;rw[ay,dE (zw (ns:=(R.filter λs=>decide (h∈s)).map wgt) ?_),rS]
 .rfl
 .rw[ev,show evs (ab defs n) [.bor 0] [sv (ofR R),sv (.int h)]=some [ofR R]from by simp[evs,ev],bind_some,u6,u5,bind_some,if_pos (by rw[IC];have:=g.2.2;omega),gE (p:=λs=>decide (h∈s)) (h:=λs=>.int (wgt s)),IZ]
  .rfl
  .intro s _;simp[ev,db,cn]
  .intro s hs _;exact B6 _ s (aY (g.1 s hs)) _
theorem k8(cal:Cal)(a s:MV):∀(Y J:List Int) (kk:Option MV),J.Nodup->(∀x∈J,0<=x/\x<=59)->(∀x∈Y,0<=x/\x<=59) ->
  ∃Z,aM (λx C=>exs cal fR (put C 3 (.val x))) (Y.map .int) [some a,some (.own (J.map .int)),some s,kk]=.next [some a,some (.own ((Y.foldl hV J).map .int)),some s,Z]
 | [],J,kk,_,_,_=>⟨kk,rfl⟩
 |t::Y,J,kk,h1,h2,h3=>by
  rw[Jc,aM];have hl:J.length<10000:=by have:=Bn (R:=[]) h1 h2;omega
  have e:exs cal fR (put [some a,some (.own (J.map .int)),some s,kk] 3 (.val (.int t)))=.next [some a,some (.own ((hV J t).map .int)),some s,sv (.int t)]:=by
   by_cases q:t∈J
   .rw[show hV J t=J from if_pos q];exact wc (va (p:=true) (by rw[cn,I0 q]) rfl rfl rfl) rfl
   .rw[show hV J t=J++[t]from if_neg q,Jo];exact zi (va (p:=false) (by rw[cn,Jt q]) rfl rfl rfl) (eC (o8 (xs:=J.map .int) rfl rfl (by rw[IC];exact hl))) rfl
  rw[e];obtain⟨q1,q2⟩:=vd (h:=t) h1;exact k8 cal a s Y (hV J t) _ q1 (λx hx=>((q2 x).mp hx).elim (h2 x) λz=>z▸h3 t (.head _)) λx hx=>h3 x (.tail _ hx)
theorem nq(cal:Cal)(a:MV):∀(R:LL) (J:List Int) (s kk:Option MV),J.Nodup->(∀x∈J,0<=x/\x<=59)->(∀Y∈R,∀x∈Y,0<=x/\x<=59) ->
  ∃s' Z,aM (λx C=>exs cal fU (put C 2 (.val x))) (R.map ofS) [some a,some (.own (J.map .int)),s,kk]=.next [some a,some (.own ((R.foldl (λJ Y=>Y.foldl hV J) J).map .int)),s',Z]
 | [],J,s,kk,_,_,_=>⟨s,kk,rfl⟩
 |t::R,J,s,kk,h1,h2,h3=>by
  rw[Jc,aM];obtain⟨k',e2⟩:=k8 cal a (.val (ofS t)) t J kk h1 h2 (h3 t (.head _));have e:exs cal fU (put [some a,some (.own (J.map .int)),s,kk] 2 (.val (ofS t)))=.next [some a,some (.own ((t.foldl hV J).map .int)),sv (ofS t),k']:=by
   exact eC ((dU rfl).trans (JD (λr:MM.R=>r.back [.bor 2] _) e2))
  rw[e];obtain⟨q1,q2⟩:=nl t J h1;exact nq cal a R _ _ _ q1 (λx hx=>((q2 x).mp hx).elim (h2 x) λz=>h3 t (.head _) x z) λY ao=>h3 Y (.tail _ ao)
def qo(n:Nat)(R:LL)(g:∀J∈R,b7 J):ab defs (n+1) 29 [.val (ofR R)]=some (ofL (ag R)):=by
 rw[al (d:=ir) rfl rfl];obtain⟨s',k',e⟩:=nq (ab defs n) (.val (ofR R)) R [] none none KI (λx h=>by cases h) λJ Y=>(g J Y).2
 have Z:(jL R).length<64:=by have:=we g;omega
 simp only[map_nil]at e;have e':R.foldl (λacc J=>J.foldl hV acc) []=jL R:=rfl;rw[e']at e;simp[ir,exs,ex,ev,evs,bu,e,bn,iC Z,ag]
def Bo (n:Nat) (R:LL) (g:bR R) {M:Int} (hM:Top R M):ab defs (n+2) 34 [.val (ofR R),.val (.str "weaver")]=some (.bl (decide ((R.map wgt).sum+M<1152921504606846976)))/\ab defs (n+2) 34 [.val (ofR R),.val (.str "moth")]=some (.bl (decide ((R.map wgt).sum<1152921504606846976))):=by
 have es:=EG n R g;have eh:=qo n R g.1;have ar:=aY (b8 g.1);constructor
 .rw[al (d:=dD) rfl rfl];show b6 (exs (ab defs (n+1)) (.ite _ _ []::_::[_]) [sv (ofR R),sv (.str "weaver"),none])=_;simp only[ay];rw[show ex (ab defs (n+1)) (.ite (.cmp .eq (.bor 1) (cs "moth")) [.ret (.cmp .lt (.call 32 [.bor 0]) (.bin .pow (ci 2) (ci 60)))] []) [sv (ofR R),sv (.str "weaver"),none]=.next [sv (ofR R),sv (.str "weaver"),none]from by
   have h:((("weaver":PySem.Str)==("moth":PySem.Str)))=false:=by decide
   rw[ex,show evB (ab defs (n+1)) (.cmp .eq (.bor 1) (cs "moth")) [sv (ofR R),sv (.str "weaver"),none]=some false from by simp[evB,ev,h],dL,if_neg (by decide),exs],bh]
  have ec:ev (ab defs (n+1)) (.comp .seq [(.call 29 [.bor 0])] [0] (.cst (.bl true)) (.call 33 [.bor 1,.bor 0])) [sv (ofR R),sv (.str "weaver"),none]=some (.lst (((ag R).map (fo R)).map .int)):=by
   refine(cy (g:=PV.int) (h:=λh=>.int (fo R h)) (vs:=[ofL (ag R)]) ?_ rfl (by omega) λh _=>?_).trans (by rw[IZ];rfl)
   .rw[evs,av (vs:=[.val (ofR R)]) (by simp[evA]) eh];simp[evs]
   .exact av (vs:=[.val (ofR R),.val (.int h)]) (by simp[evA,db]) (wf n R h g)
  obtain⟨N,Y⟩:∃N,vT (0::(ag R).map (fo R))=some N:=⟨_,rfl⟩;obtain⟨m1,Z⟩:=ko Y;have tN:Top R N:=by
   refine⟨Z 0 (.head _),?_,λk J=>Z _ (.tail _ (mem_map.mpr ⟨k,dk.mpr J,rfl⟩))⟩;rcases IM.mp m1 with e|e
   .exact .inl e
   .obtain⟨k,J,e⟩:=mem_map.mp e;exact .inr ⟨k,dk.mp J,e⟩
  rw[rR hM tN];rw[ng (v:=.int N) (by
   rw[aI (v:=.lst ((0::(ag R).map (fo R)).map .int)) (by
    rw[aP (x:=.lst [.int 0]) (by simp[ev,evs]) ec,uZ,if_pos (by simp;omega)]
    rfl),rL,bo,bind_some,Y]
   rfl),bh]
  simp only[cR,cT];rw[dE (v:=.bl (decide ((R.map wgt).sum+N<1152921504606846976)))]
  .rfl
  .rw[cz (aP (av (vs:=[.val (ofR R)]) (by simp[evA]) es) (y:=.int N) (by simp[ev])) (zv _ _),yT]
   rfl
 .rw[al (d:=dD) rfl rfl];show b6 (exs (ab defs (n+1)) (.ite _ [_] []::_::[_]) [sv (ofR R),sv (.str "moth"),none])=_;rw[ay,ex,show evB (ab defs (n+1)) (.cmp .eq (.bor 1) (cs "moth")) [sv (ofR R),sv (.str "moth"),none]=some true from by simp[evB,ev],dL,if_pos rfl,ay,dE (v:=.bl (decide ((R.map wgt).sum<1152921504606846976)))]
  .rfl
  .rw[cz (av (vs:=[.val (ofR R)]) (by simp[evA]) es) (zv _ _),yT]
   rfl
theorem iN{α:Type}(f:α->PV)(g:α->List PV)(cal:Cal)(a:MV):∀(W:List α) (J:List PV) (s:Option MV),(∀w∈W,aZ (f w)=some (g w))->J.length+(W.map g).flatten.length<=10000 ->
  ∃s',aM (λx C=>exs cal cU (put C 2 (.val x))) (W.map f) [some a,some (.own J),s]=.next [some a,some (.own (J++(W.map g).flatten)),s']
 | [],J,s,_,_=>⟨s,by simp⟩
 |w::W,J,s,Y,h=>by
  rw[Jc,Jc,aM];rw[Jc,flatten_cons,IX]at h;have h2:J.length+(g w).length<=10000:=by omega
  have e:exs cal cU (put [some a,some (.own J),s] 2 (.val (f w)))=.next [some a,some (.own (J++g w)),sv (f w)]:=by
   exact eC (B4 (xs:=J) rfl rfl (Y w (.head _)) h2)
  rw[e];obtain⟨s',Z⟩:=iN f g cal a W (J++g w) (sv (f w)) (λw hw=>Y w (.tail _ hw)) (by rw[IX];omega);exact⟨s',by rw[flatten_cons,<- Kk];exact Z⟩
def tz{α:Type}(f)(g)(n)(v)(W:List α)(hv:aZ v=some (W.map f))(J:∀w∈W,aZ (f w)=some (g w))(Y:(W.map g).flatten.length<=10000):ab defs (n+1) 0 [.val v]=some (.lst (W.map g).flatten):=by
 rw[al (d:=gH) rfl rfl];obtain⟨s',e⟩:=iN f g (ab defs n) (.val v) W [] none J (by simpa using Y);rw[nil_append]at e;show b6 (exs (ab defs n) (_::_::[_]) [sv v,none,none])=_;simp only[ay];rw[gk (xs:=[]) (by simp[ev,evs]),bh];simp only[cR,cT];rw[dU (xs:=W.map f) (by simp[evs,ev,hv]),show bu [.bor 0] [sv v,some (.own []),none]=[sv v,some (.own []),none]from rfl,e,iE,bh]
 rfl
def Bp(n:Nat)(Rs:List (LL))(J:∀R∈Rs,(∀t∈R,b7 t)/\R.flatten.length<=4000)(hl:Rs.length<=16):ab defs (n+3) 16 [.val (.lst (Rs.map ofR))]=some (.bl (decide (Rs.map ag).flatten.Nodup)):=by
 rw[al (d:=kY) rfl rfl];have Z:∀Rs:List (LL),(∀R∈Rs,(∀t∈R,b7 t)/\R.flatten.length<=4000)->(Rs.map ag).flatten.length<=60*Rs.length:=λRs=>by
  induction Rs with
  |nil=>intro _;simp
  |cons R Rs ih =>
   intro J;have h1:=aY (b8 (J R (.head _)).1);have h2:=ih λR Y=>J R (.tail _ Y)
   rw[Jc,flatten_cons,IX,length_cons];omega
 have hF:=Z Rs J;have c1:ev (ab defs (n+2)) (.comp .seq [.bor 0] [] (.cst (.bl true)) (.call 5 [.bor 0])) [sv (.lst (Rs.map ofR))]=some (.lst ((Rs.map ag).map ofL)):=by
  refine(cy (g:=ofR) (h:=λR=>ofL (ag R)) (vs:=[.lst (Rs.map ofR)]) (by simp[evs,ev]) rfl (by omega) λR Y=>?_).trans (by rw[IZ];rfl);exact av (vs:=[.val (ofR R)]) (by simp[evA,db]) (i8 n R (J R Y).1 (J R Y).2)
 have e1:=kG (n+1) (.val (.lst ((Rs.map ag).map ofL))) (λ_ z=>by cases z) (Rs.map ag) ofL (λ_=>rfl) rfl (by omega);have e2:=zp (n+1) (Rs.map ag).flatten (by omega);show b6 (exs (ab defs (n+2)) [.ret _] [sv (.lst (Rs.map ofR))])=_;rw[ay,dE (rO (λ_ z=>by cases z) (rO (λ_ z=>by cases z) c1 e1) e2)]
 rfl
def Bq(h:b7 t):(dd t).length<=60:=by rw[BZ (m9 h.1)];exact aY h
noncomputable def tD:Option Nat->PV
 |none=>.non
 |some i=>.int i
noncomputable def qp(s:List Int)(R:LL):Option Nat:=R.findIdx? λt=>sub t s
theorem nt(n)(s)(a b)(hs:s.length<=4000)(ha:a=sv (ofS s)):∀R k x y,(∀t∈R,b7 t) ->
  (∀i,qp s R=some i->aM (λx C=>dA (eY [2,3] x C) λJ=>exs (ab defs (n+1)) bv J) (c7 k (R.map ofS)) [a,b,x,y]=.ret (.int ((k+i:Nat):Int))) /\
  (qp s R=none->∃x' y',aM (λx C=>dA (eY [2,3] x C) λJ=>exs (ab defs (n+1)) bv J) (c7 k (R.map ofS)) [a,b,x,y]=.next [a,b,x',y'])
 | [],k,x,y,_=>⟨λi h=>(by cases h),λ_=>⟨x,y,rfl⟩⟩
 |t::R,k,x,y,h=>by
  subst ha;have e:=kF n (.val (ofS s)) (.val (ofS t)) s t rfl rfl hs (by have:=aY (h t (.head _));omega) (Bq (h t (.head _)));rw[Jc,c7,aM];unfold qp;rw[findIdx?_cons];cases Z:sub t s with
  |true =>
   rw[Z]at e;have Y:(dA (eY [2,3] (.tup [.int (k:Nat),ofS t]) [sv (ofS s),b,x,y]) λJ=>exs (ab defs (n+1)) bv J)=.ret (.int (k:Nat)):=by
    simp[eY,pP,bv,exs,ex,ev,evs,evB,evA,e]
   rw[Y];exact⟨λi hi=>(by simp at hi;subst hi;rfl),λhi=>(by simp at hi)⟩
  |false =>
   rw[Z]at e;have Y:(dA (eY [2,3] (.tup [.int (k:Nat),ofS t]) [sv (ofS s),b,x,y]) λJ=>exs (ab defs (n+1)) bv J)=.next [sv (ofS s),b,sv (.int (k:Nat)),sv (ofS t)]:=by
    simp[eY,pP,bv,exs,ex,ev,evs,evB,evA,e]
   rw[Y];obtain⟨h1,h2⟩:=nt n s (sv (ofS s)) b hs rfl R (k+1) (sv (.int (k:Nat))) (sv (ofS t)) λu hu=>h u (.tail _ hu)
   constructor
   .intro i hi;simp only[IU,JS,IL]at hi;obtain⟨j,hj,rfl⟩:=hi;rw[show k+(j+1)=k+1+j by omega];exact h1 j hj
   .intro hi;simp only[IU,JS,map_eq_none_iff]at hi;exact h2 hi
def Br(n:Nat)(s:List Int)(R:LL)(hs:s.length<=4000)(g:∀t∈R,b7 t):ab defs (n+2) 11 [.val (ofS s),.val (ofR R)]=some (tD (qp s R)):=by
 rw[al (d:=dR) rfl rfl];obtain⟨h1,h2⟩:=nt n s (sv (ofS s)) (sv (ofR R)) hs rfl R 0 none none g;cases hf:qp s R with
 |some i =>
  have e:=h1 i hf;rw[Kf]at e;simp[dR,exs,ex,ev,evs,bN,bu,e,tD]
 |none =>
  obtain⟨J,Y,e⟩:=h2 hf;simp[dR,exs,ex,ev,evs,bN,bu,e,tD,bn]
noncomputable def zx(A B:LL):List (Option Nat):=A.map λs=>qp s B
def wg(n:Nat)(A B:LL)(J:bR A)(Y:bR B):ab defs (n+3) 12 [.val (ofR A),.val (ofR B)]=some (.lst ((zx A B).map tD)):=by
 rw[al (d:=kD) rfl rfl];have Z:A.length<=10000:=by have:=J.2.2;omega
 simp[kD,exs,ex,ev,evs,Z];rw[m8 (h:=λs=>tD (qp s B))]
 .simp[zx]
 .intro c _;simp[ev]
 .intro c hc;simp[ev,evA,db,Br n c B (by have:=aY (J.1 c hc);omega) Y.1]
theorem rT:∀F:List (Option Nat),isIn .non (F.map tD)=some (decide (none∈F))
 | []=>rfl
 |o::F=>by
  have ih:=rT F;unfold isIn at ih ⊢;rw[Jc,inL,ih];cases o<;>simp[tD,show ∀v,eqF 100 (.int v) .non=some false from λ_=>rfl,show eqF 100 PV.non .non=some true from rfl]
noncomputable def below(A B:LL):Bool:=decide (none∉zx A B)
def tG(n:Nat)(A B:LL)(J:bR A)(Y:bR B):ab defs (n+4) 13 [.val (ofR A),.val (ofR B)]=some (.bl (below A B)):=by
 rw[al (d:=i4) rfl rfl];simp[i4,exs,ex,ev,evs,evA,wg n A B J Y,rT,below]
def wj{R:LL}(h:∃t∈R,sub t s=true):qp s R≠none:=λz=>by
 obtain⟨t,J,q⟩:=h;have:=findIdx?_eq_none_iff.mp z t J
 simp_all
def zy(h:∀s∈A,∃t∈B,sub t s=true):below A B=true:=by
 unfold below zx;rw[JP,mem_map];rintro ⟨s,hs,e⟩;exact wj (h s hs) e
noncomputable def nu(A R:LL):Bool:=A.all λs=>R.any λo=>sub o s
def wk(n:Nat)(A R:LL)(v:PV)(hv:aZ v=some (R.map ofS))(J:R.length<=10000):ab defs (n+2) 31 [.val (ofR A),.val v]=some (.bl (nu A R)):=by
 rw[al (d:=k4) rfl rfl];have key:=gK (g:=ofS) (xs:=A) (body:=λx C=>exs (ab defs (n+1)) dS (put C 2 (.val x))) (I:=λM=>∃kk,M=[sv (ofR A),sv v,kk]) (p:=λs=>!R.any λo=>sub o s) (r:=λ_=>.bl false)
  (M:=[sv (ofR A),sv v,none]) ⟨_,rfl⟩ (by
   rintro s hs M ⟨kk,rfl⟩;have Y:ev (ab defs (n+1)) (.comp .seq [.bor 1] [2] (.cst (.bl true)) (.call 30 [.bor 0,.bor 1])) [sv (ofR A),sv v,sv (ofS s)]=some (.lst ((R.map λo=>sub o s).map .bl)):=by
    rw[IZ];refine cy (vs:=[v]) (g:=ofS) (by simp[evs,ev]) (by simp[bN,hv]) J λo _=>?_
    exact av (vs:=[.val (ofS o),.val (ofS s)]) (by simp[evA,db]) (nk n o s)
   have Z:ev (ab defs (n+1)) (.not (.blt .any [(.comp .seq [.bor 1] [2] (.cst (.bl true)) (.call 30 [.bor 0,.bor 1]))])) [sv (ofR A),sv v,sv (ofS s)]=some (.bl (!R.any λo=>sub o s)):=by
    have:ev (ab defs (n+1)) (.blt .any [(.comp .seq [.bor 1] [2] (.cst (.bl true)) (.call 30 [.bor 0,.bor 1]))]) [sv (ofR A),sv v,sv (ofS s)]=some (.bl (R.any λo=>sub o s)):=by
     rw[aI Y,lJ,cQ];simp
    rw[ev,this]
    rfl
   have st:exs (ab defs (n+1)) dS (put [sv (ofR A),sv v,kk] 2 (.val (ofS s)))=if (!R.any λo=>sub o s)=true then .ret (.bl false)else .next [sv (ofR A),sv v,sv (ofS s)]:=by
    show exs (ab defs (n+1)) [.ite _ [.ret _] []] [sv (ofR A),sv v,sv (ofS s)]=_;rw[ay,ex,tq Z,dL];split
    .simp[exs,ex,ev]
    .simp[exs]
   exact⟨λh=>by rw[st,if_pos h],λh=>⟨_,⟨_,rfl⟩,by rw[st,if_neg (by rw[h];decide)]⟩⟩)
 show b6 (exs (ab defs (n+1)) [.for1 2 .seq [.bor 0] dS,.ret _] [sv (ofR A),sv v,none])=_;rw[ay,dU (xs:=A.map ofS) (by simp[evs,ev]),show bu [.bor 0] [sv (ofR A),sv v,none]=[sv (ofR A),sv v,none]from rfl];unfold nu;cases hf:A.find? (λs=>!R.any λo=>sub o s)with
 |some s =>
  rw[key.1 s hf];have:(A.all λs=>R.any λo=>sub o s)=false:=by
   cases q:A.all λs=>R.any λo=>sub o s with
   |false=>rfl
   |true =>
    have h1:=J8.mp q s (LI hf);have h2:=find?_some hf;rw[h1]at h2;cases h2
  rw[this]
  rfl
 |none =>
  obtain⟨C,⟨kk,rfl⟩,e⟩:=key.2 hf;have:(A.all λs=>R.any λo=>sub o s)=true:=J8.mpr λs hs=>by
   have:=LC.mp hf s hs;simpa using this
  rw[e,this];simp[exs,ex,ev,bn]
def zz(h:below A B=true):∀s∈A,∃t∈B,sub t s=true:=λs hs=>by
 cases e:qp s B with
 |none =>
  unfold below zx at h;rw[JP]at h;exact absurd (mem_map.mpr ⟨s,hs,e⟩) h
 |some k =>
  obtain⟨J,q,_⟩:=findIdx?_eq_some_iff_getElem.mp e;exact⟨_,J5 J,q⟩
def tH(A R):nu A R=below A R:=by
 cases h:nu A R with
 |true=>exact(zy λs hs=>by
   obtain⟨o,ho,e⟩:=JL.mp (J8.mp h s hs);exact⟨o,ho,e⟩).symm
 |false =>
  cases h2:below A R with
  |false=>rfl
  |true =>
   have:nu A R=true:=J8.mpr λs hs=>JL.mpr (by
    obtain⟨o,ho,e⟩:=zz h2 s hs;exact⟨o,ho,e⟩)
   simp_all
def tI(h:ev cal a M=some (.bl p))(h':ev cal b M=some (.bl q)):ev cal (.or a b) M=some (.bl (p||q)):=by
 rw[ev,h];cases p<;>first|rfl|simp[h']
noncomputable def aE(r:LL×PV):PV:=.tup [ofR r.1,r.2]
def nv(h:∀t∈F,b7 t)(J:F.length<=60):bR (sortT F):=⟨λt Y=>h t (kC.mp Y),sortT_rises F,by rw[sortT_len];exact J⟩
noncomputable def dG(D:List (LL))(R:LL):Bool:=!decide (R.length<D.flatten.length)&&decide (D.map ag).flatten.Nodup&&(sub (ag D.flatten) (ag R)&&below R (sortT D.flatten))
def rU(F):ag (sortT F)=ag F:=by
 rw[<- jM,<- jM];exact sortI_of_perm ((Kq (dd_nodup _) (dd_nodup _)).mpr λx=>by rw[i3,i3];exact(sortT_perm F).flatten.mem_iff)
theorem k9 (n:Nat) (Z:Option MV) (b:LL×PV->Bool):∀(J:List (LL×PV)),(∀r∈J,ab defs n 22 [.val r.2,.val (ofR r.1),.val (.str "weaver"),.val (.str "moth")]=some (.bl (b r)))->∀x1 x2:Option MV,
  (J.all b=true->∃y1 y2,aM (λx C=>dA (eY [1,2] x C) λY=>exs (ab defs n) bI Y) (J.map aE) [Z,x1,x2]=.next [Z,y1,y2]) /\
  (J.all b=false->aM (λx C=>dA (eY [1,2] x C) λY=>exs (ab defs n) bI Y) (J.map aE) [Z,x1,x2]=.ret (.bl false))
 | [],_,x1,x2=>⟨λ_=>⟨x1,x2,rfl⟩,λz=>by cases z⟩
 |r::J,hr,x1,x2=>by
  have e0:=hr r (.head _);have e3:(dA (eY [1,2] (aE r) [Z,x1,x2]) λY=>exs (ab defs n) bI Y)=if b r=true then .next [Z,sv (ofR r.1),sv r.2]else .ret (.bl false):=by
   cases hb:b r<;>rw[hb]at e0<;>simp[bI,aE,eY,pP,dA,exs,ex,ev,evs,evB,evA,e0]
  rw[Jc,aM,e3,all_cons];obtain⟨i1,i2⟩:=k9 n Z b J (λq hq=>hr q (.tail _ hq)) (sv (ofR r.1)) (sv r.2);cases hb:b r with
  |false=>exact⟨λz=>(by cases z),λ_=>rfl⟩
  |true=>exact⟨λz=>i1 z,λz=>i2 z⟩
def zA (n:Nat) (b:LL×PV->Bool) (J:List (LL×PV)) (Z:∀r∈J,ab defs n 22 [.val r.2,.val (ofR r.1),.val (.str "weaver"),.val (.str "moth")]=some (.bl (b r))) :
  ab defs (n+1) 26 [.val (.tup (J.map aE))]=some (.bl (J.all b)):=by
 rw[al (d:=gi) rfl rfl];obtain⟨i1,i2⟩:=k9 n (sv (.tup (J.map aE))) b J Z none none;show b6 (exs _ [.forT _ _ _ _,.ret _] [sv (.tup (J.map aE)),none,none])=_;rw[ay,Bh (xs:=J.map aE) (by simp[evs,ev,bN])];rw[show bu [ME.bor 0] [some (MV.val (.tup (J.map aE))),none,none]=[sv (.tup (J.map aE)),none,none]from rfl];cases Y:J.all b with
 |false =>
  rw[i2 Y]
  rfl
 |true =>
  obtain⟨y1,y2,e⟩:=i1 Y;rw[e];simp[iE,bn,exs,ex,ev]
def wl(n:Nat)(a b:List Int):ab defs (n+1) 30 [.val (ofL a),.val (ofL b)]=some (.bl (sub a b)):=by
 rw[al (d:=cx) rfl rfl];have key:=gK (g:=PV.int) (xs:=a) (body:=λx C=>exs (ab defs n) bJ (put C 2 (.val x))) (I:=λM=>∃kk,M=[sv (ofL a),sv (ofL b),kk]) (p:=λx=>!decide (x∈b)) (r:=λ_=>.bl false)
  (M:=[sv (ofL a),sv (ofL b),none]) ⟨_,rfl⟩ (by
   rintro x hx M ⟨kk,rfl⟩;constructor
   .intro h;simp at h;simp[bJ,exs,ex,ev,evs,evB,cn,h,ofL]
   .intro h;simp at h;exact⟨[sv (ofL a),sv (ofL b),sv (.int x)],⟨_,rfl⟩,by simp[bJ,exs,ex,ev,evs,evB,cn,h,ofL]⟩)
 cases hf:a.find? (λx=>!decide (x∈b))with
 |some x =>
  have e:=key.1 x hf;have hx:=find?_some hf;have J:=LI hf;have:sub a b=false:=by
   cases hs:sub a b with
   |false=>rfl
   |true=>simp[gO.mp hs x J]at hx
  simp[cx,exs,ex,ev,evs,bu,e,this,bN,ofL]at e ⊢
 |none =>
  obtain⟨C,⟨kk,rfl⟩,e⟩:=key.2 hf;have:sub a b=true:=gO.mpr λx hx=>by
   have:=LC.mp hf x hx;simpa using this
  simp[cx,exs,ex,ev,evs,bu,e,this,bN,ofL]at e ⊢
def zB(h:∀x,x∈a ↔ x∈b):sub a c=sub b c:=by
 rw[Jp,gO,gO];exact⟨λk x hx=>k x ((h x).mpr hx),λk x hx=>k x ((h x).mp hx)⟩
def tJ(D)(R):((decide (D.map ag).flatten.Nodup&&sub (D.map ag).flatten (ag R))&&(!decide (R.length<D.flatten.length)&&nu R D.flatten))=dG D R:=by
 have h1:sub (D.map ag).flatten (ag R)=sub (ag D.flatten) (ag R):=zB λx=>by
  rw[dk];constructor
  .intro h;obtain⟨l,h1,h2⟩:=La.mp h;obtain⟨G,J,rfl⟩:=mem_map.mp h1;obtain⟨t,Y,Z⟩:=dk.mp h2;exact⟨t,La.mpr ⟨G,J,Y⟩,Z⟩
  .rintro ⟨t,h1,h2⟩;obtain⟨G,J,Y⟩:=La.mp h1;exact La.mpr ⟨_,List.mem_map_of_mem J,dk.mpr ⟨t,Y,h2⟩⟩
 have h2:nu R D.flatten=below R (sortT D.flatten):=by
  rw[<- tH];unfold nu
  congr 1
  funext s
  rw[Jp,JL,JL];exact⟨λ⟨t,a,b⟩=>⟨t,kC.mpr a,b⟩,λ⟨t,a,b⟩=>⟨t,kC.mp a,b⟩⟩
 rw[h1,h2];unfold dG;generalize decide (D.map ag).flatten.Nodup=p1;generalize sub (ag D.flatten) (ag R)=p2;generalize decide (R.length<D.flatten.length)=p3;generalize below R (sortT D.flatten)=p4;cases p1<;>cases p2<;>cases p3<;>cases p4<;>rfl
def EH (n:Nat) (R:LL) (t h:Bool):ab defs (n+1) 36 [.val (.tup [.str "bare"]),.val (ofR R),.val (.str (eE t)),.val (.str (eE h))]=some (.bl (h&&decide (R=[]))):=by
 rw[al (d:=dM) rfl rfl];have q:(((R.length:Int))==0)=decide (R=[]):=by
  rw[Jp,IS,JP,<- JJ];omega
 cases h<;>simp[dM,exs,ex,ev,evs,evB,evA,place,Bj,eE,q]
def Bs (n:Nat) (R:LL) (t h:Bool):ab defs (n+1) 36 [.val (.tup [.str "whole"]),.val (ofR R),.val (.str (eE t)),.val (.str (eE h))]=some (.bl (!h&&decide ([]∈R))):=by
 rw[al (d:=dM) rfl rfl];cases h
 .exact jI rfl (i7 rfl (jJ rfl (iw (p:=true) rfl λ_=>Im (yR [] R) rfl rfl)))
 .rfl
def Bt (n:Nat) (R P:LL) (J:OkP P) (Y:P.length<=60) (Z:R.length<=60) (t h:Bool):ab defs (n+3) 36 [.val (.tup [.str "pairs",ofR P]),.val (ofR R),.val (.str (eE t)),.val (.str (eE h))]=some (.bl (h&&!t&&nj P R)):=by
 rw[al (d:=dM) rfl rfl];cases h<;>cases t<;>first|rfl|exact jI rfl (i7 rfl (i7 rfl (i7 rfl (i7 rfl (gU (iw (p:=true) rfl λ_=>iw (p:=true) (q:=nj P R) rfl λ_=>av rfl (zu n P R J Y Z)))))))
def wm (n:Nat) (R:LL) (g:bR R) {M:Int} (J:Top R M) (t:Bool):ab defs (n+4) 36 [.val (.tup [.str "weight"]),.val (ofR R),.val (.str (eE t)),.val (.str "moth")]=some (.bl (zr R M t)):=by
 rw[al (d:=dM) rfl rfl];obtain⟨Y,Z⟩:=Bo (n+1) R g J;refine jI rfl (i7 rfl (i7 rfl (jJ rfl (av rfl ?_))));cases t
 .exact Y
 .exact Z
def tK {v:PV} (hv:o9 v) (R:LL) (g:bR R):∃b,∀n,ab defs (n+6) 22 [.val v,.val (ofR R),.val (.str "weaver"),.val (.str "moth")]=some (.bl b)/\ab defs (n+6) 36 [.val v,.val (ofR R),.val (.str "weaver"),.val (.str "moth")]=some (.bl b):=by
 rcases hv with rfl|rfl|rfl|⟨P,J,Y,rfl⟩
 .exact⟨_,λn=>⟨EF (n+3) R false,EH (n+5) R false true⟩⟩
 .exact⟨_,λn=>⟨Bl (n+3) R false,Bs (n+5) R false true⟩⟩
 .obtain⟨M,_,Z⟩:=ni 30 R g;exact⟨_,λn=>⟨zt n R g Z false,wm (n+2) R g Z false⟩⟩
 .exact⟨_,λn=>⟨Bm (n+1) R P J Y g false,Bt (n+3) R P J Y g.2.2 false true⟩⟩
theorem o_(n:Nat)(J Y Z:Option MV):∀(D:List (LL)) (hs:List Int) (F:LL) (x5:Option MV),(∀G∈D,bR G)->hs.length+60*D.length<=5000->F.length+60*D.length<=5000 ->
  ∃y5,aM (λx C=>exs (ab defs (n+1)) fF (put C 5 (.val x))) (D.map ofR) [J,Y,Z,sv (ofL hs),sv (.lst (F.map ofS)),x5]=.next [J,Y,Z,sv (ofL (hs++(D.map ag).flatten)),sv (.lst ((F++D.flatten).map ofS)),y5]
 | [],hs,F,x5,_,_,_=>⟨x5,by simp[aM]⟩
 |G::D,hs,F,x5,hg,h1,h2=>by
  have gr:=hg G (.head _);have e1:=qo n G gr.1;have l1:=aY (b8 gr.1);have l2:=gr.2.2;rw[length_cons]at h1 h2;have q1:hs.length+(ag G).length<=10000:=by omega
  have q2:F.length+G.length<=10000:=by omega
  have e:exs (ab defs (n+1)) fF (put [J,Y,Z,sv (ofL hs),sv (.lst (F.map ofS)),x5] 5 (.val (ofR G)))=.next [J,Y,Z,sv (ofL (hs++ag G)),sv (.lst ((F++G).map ofS)),sv (ofR G)]:=by
   have c1:ev (ab defs (n+1)) (.call 29 [.bor 5]) [J,Y,Z,sv (ofL hs),sv (.lst (F.map ofS)),sv (ofR G)]=some (ofL (ag G)):=av (vs:=[.val (ofR G)]) rfl e1;simp only[cR,cT,fF];refine dj (v:=ofL (hs++ag G)) (by rw[ev,c1];simp[ev,ofL,q1]) ?_;simp only[cR,cT];refine dj (v:=.lst ((F++G).map ofS)) (by simp[ev,evs,ofR,q2]) ?_;simp[exs]
  rw[Jc,aM,e];obtain⟨y5,e2⟩:=o_ n J Y Z D (hs++ag G) (F++G) (sv (ofR G)) (λq hq=>hg q (.tail _ hq)) (by rw[IX];omega) (by rw[IX];omega);refine⟨y5,?_⟩;rw[Jc,flatten_cons,flatten_cons,<- Kk,<- Kk];exact e2
def EI (n:Nat) (b:LL×PV->Bool) (J:List (LL×PV)) (R:LL) (g:bR R) (hl:J.length<=16) (hg:∀r∈J,bR r.1) (Z:∀r∈J,ab defs (n+2) 36 [.val r.2,.val (ofR r.1),.val (.str "weaver"),.val (.str "moth")]=some (.bl (b r))) :
  ab defs (n+3) 40 [.brw (J.map aE),.val (ofR R)]=some (.bl ((decide ((J.map (·.1)).map ag).flatten.Nodup&&sub ((J.map (·.1)).map ag).flatten (ag R))&&(!decide (R.length<(J.map (·.1)).flatten.length)&&nu R (J.map (·.1)).flatten)&&J.all b)):=by
 rw[al (d:=o7) rfl rfl];have hF:∀J:List (LL×PV),(∀r∈J,bR r.1)->((J.map (·.1)).map ag).flatten.length<=60*J.length/\(J.map (·.1)).flatten.length<=60*J.length:=λJ=>by
  induction J with
  |nil=>intro _;exact⟨y4 _,y4 _⟩
  |cons r J ih =>
   intro h;have h1:=ih λq hq=>h q (.tail _ hq)
   have h2:=aY (b8 (h r (.head _)).1);have h3:=(h r (.head _)).2.2;simp only[Jc,flatten_cons,IX,length_cons];omega
 have hF:=hF J hg;obtain⟨Y,e⟩:=o_ (n+1) (some (.brw (J.map aE))) (sv (ofR R)) (sv (.lst ((J.map (·.1)).map ofR))) (J.map (·.1)) [] [] none (λG hG=>by
  obtain⟨r,Z,rfl⟩:=mem_map.mp hG;exact hg r Z) (by rw[IC,length_nil];omega) (by rw[IC,length_nil];omega)
 simp only[nil_append]at e;have ea:ev (ab defs (n+2)) (.blt .all [(.comp .seq [.bor 0] [] (.cst (.bl true)) (.call 36 [(ix 0 1),(ix 0 0),(cs "weaver"),(cs "moth")]))]) [some (.brw (J.map aE)),sv (ofR R),sv (.lst ((J.map (·.1)).map ofR)),sv (ofL ((J.map (·.1)).map ag).flatten),sv (.lst ((J.map (·.1)).flatten.map ofS)),Y]=some (.bl (J.all b)):=by
  rw[aI (v:=.lst ((J.map b).map .bl)),qj,cQ]
  .simp[Function.comp_def]
  .rw[show(J.map b).map PV.bl=J.map λr=>PV.bl (b r)from by rw[IZ];rfl];refine cy (vs:=[.lst (J.map aE)]) (xs:=J) (g:=aE) ?_ rfl (by omega) λr h=>?_
   .simp[evs,ev]
   exact av (vs:=[.val r.2,.val (ofR r.1),.val (.str "weaver"),.val (.str "moth")]) (by simp[evA,ev,aE,place,db]) (Z r h)
 have e1:=qo (n+1) R g.1;have c0:ev (ab defs (n+2)) (.comp .seq [.bor 0] [] (.cst (.bl true)) (ix 0 0)) [some (.brw (J.map aE)),sv (ofR R),none,none,none,none]=some (.lst ((J.map (·.1)).map ofR)):=by
  rw[IZ];exact cy (vs:=[.lst (J.map aE)]) (xs:=J) (g:=aE) (by simp[evs,ev]) (by simp[bN]) (by omega) λr _=>by simp[ev,aE,place,db]
 refine jI (M:=[some (.brw (J.map aE)),sv (ofR R),none,none,none,none]) c0 ?_;generalize hD:J.map (·.1)=D at *
 simp only[cR,cT];have e2:=wl (n+1) (D.map ag).flatten (ag R);have e3:=wk n R D.flatten (.lst (D.flatten.map ofS)) rfl (by omega);refine jI (M:=[some (.brw (J.map aE)),sv (ofR R),sv (.lst (D.map ofR)),none,none,none]) (v:=ofL []) (by simp[ev,evs,ofL]) ?_;simp only[cR,cT];refine jI (v:=.lst (([]:LL).map ofS)) (by simp[ev,evs]) ?_;simp only[cR,cT];refine nh (C:=[some (.brw (J.map aE)),sv (ofR R),sv (.lst (D.map ofR)),sv (ofL (D.map ag).flatten),sv (.lst (D.flatten.map ofS)),Y]) ?_ ?_
 .rw[dU (xs:=D.map ofR) rfl];show(aM _ _ [some (.brw (J.map aE)),sv (ofR R),sv (.lst (D.map ofR)),sv (ofL []),sv (.lst (([]:LL).map ofS)),none]).back _ _=_;rw[e]
  rfl
 have es:aH .lenSet [ofL (D.map ag).flatten]=some (.int (dd (D.map ag).flatten).length):=by
  show((aZ (ofL (D.map ag).flatten)).bind λxs=>(bw xs).bind λns=>if ns.length<=4000 then some (PV.int (dd ns).length)else none)=_;rw[show aZ (ofL (D.map ag).flatten)=some ((D.map ag).flatten.map .int)from rfl,bind_some,bo,bind_some,if_pos (by omega)]
 have c1:ev (ab defs (n+2)) (.or (.cmp .ne (.blt .lenSet [.bor 3]) (.blt .len [.bor 3])) (.not (.call 30 [.bor 3,(.call 29 [.bor 1])]))) [some (.brw (J.map aE)),sv (ofR R),sv (.lst (D.map ofR)),sv (ofL (D.map ag).flatten),sv (.lst (D.flatten.map ofS)),Y]=some (.bl (!decide (D.map ag).flatten.Nodup||!sub (D.map ag).flatten (ag R))):=by
  refine tI ?_ ?_
  .have:(((dd (D.map ag).flatten).length:Int)==((D.map ag).flatten.length:Int))=decide (D.map ag).flatten.Nodup:=by
    rw[Jp,IS,JP,<- eO];omega
   have el:ev (ab defs (n+2)) (.blt .len [.bor 3]) [some (.brw (J.map aE)),sv (ofR R),sv (.lst (D.map ofR)),sv (ofL (D.map ag).flatten),sv (.lst (D.flatten.map ofS)),Y]=some (.int (D.map ag).flatten.length):=by
    rw[aI (v:=ofL (D.map ag).flatten) (by simp[ev])];simp[ofL,-length_flatten,-map_flatten]
   rw[cz (x:=.int (dd (D.map ag).flatten).length) (by rw[aI (v:=ofL (D.map ag).flatten) (by simp[ev]),es]) el];simp[this,ra,-length_flatten,-map_flatten]
  .rw[ev,av (vs:=[.val (ofL (D.map ag).flatten),.val (ofL (ag R))]) (by simp[evA,ev,e1]) e2]
   rfl
 have c2:ev (ab defs (n+2)) (.or (.cmp .gt (.blt .len [.bor 4]) (.blt .len [.bor 1])) (.not (.call 31 [.bor 1,.bor 4]))) [some (.brw (J.map aE)),sv (ofR R),sv (.lst (D.map ofR)),sv (ofL (D.map ag).flatten),sv (.lst (D.flatten.map ofS)),Y]=some (.bl (decide (R.length<D.flatten.length)||!nu R D.flatten)):=by
  refine tI ?_ ?_
  .simp[ev,evs,ofR,-length_flatten,-map_flatten]
  .rw[ev,av (vs:=[.val (ofR R),.val (.lst (D.flatten.map ofS))]) (by simp[evA]) e3]
   rfl
 refine(show b6 (exs (ab defs (n+2)) (.ite _ [.ret (.cst (.bl false))] []::.ite _ [.ret (.cst (.bl false))] []::[.ret _]) _)=_ from ?_);rw[ay,dF c1];generalize decide (D.map ag).flatten.Nodup=p1 at *
 generalize sub (D.map ag).flatten (ag R)=p2 at *
 generalize decide (R.length<D.flatten.length)=p3 at *
 generalize nu R D.flatten=p4 at *
 cases p1<;>cases p2<;>try (simp[exs,ex,ev];done)
 rw[if_neg (by decide),exs,bh,ay,dF c2];cases p3<;>cases p4<;>try (simp[exs,ex,ev];done)
 rw[if_neg (by decide),exs,bh,gU ea]
 rfl
theorem k_(n:Nat)(a:Option MV):∀(S P:LL) (U:List Int) (x y:Option MV),OkP P->(∀t∈S,b7 t)->P.length+S.length<=60->U.length<=2*P.length ->
  ∃P' U' x' y',OkP P'/\P'.length<=P.length+S.length/\aM (λv C=>exs (ab defs (n+1)) fk (put C 3 (.val v))) (S.map ofS) [a,some (.own (P.map ofS)),sv (ofL U),x,y]=.next [a,some (.own (P'.map ofS)),sv (ofL U'),x',y']
 | [],P,U,x,y,Y,_,hl,_=>⟨P,U,x,y,Y,by simp,rfl⟩
 |s::S,P,U,x,y,Y,hS,hl,hU=>by
  simp only[length_cons]at hl;have gs:=hS s (.head _);have ea:ev (ab defs (n+1)) (.blt .any [(.comp .seq [.bor 1] [3] (.cst (.bl true)) (.call 30 [.bor 0,.bor 1]))]) [a,some (.own (P.map ofS)),sv (ofL U),sv (ofS s),y]=some (.bl (P.any λt=>sub t s)):=by
   rw[aI (v:=.lst ((P.map λt=>sub t s).map .bl)),lJ,cQ]
   .simp
   .refine(cy (g:=ofS) (h:=λt=>.bl (sub t s)) (vs:=[.lst (P.map ofS)]) (by simp[evs,ev]) rfl (by omega) λt ht=>?_).trans (by rw[IZ];rfl);exact av (vs:=[.val (ofS t),.val (ofS s)]) (by simp[evA,db]) (nk n t s)
  obtain⟨F,hF⟩:∃F,F=s.filter λh=>!decide (h∈U):=⟨_,rfl⟩
  have hm:∀h∈F,0<=h/\h<=59:=λh hh=>gs.2 h (by rw[hF]at hh;exact(JQ.mp hh).1)
  have J:ev (ab defs (n+1)) (.comp .seq [.bor 3] [2] (.cmp .notIn (.bor 0) (.bor 1)) (.var 0)) [a,some (.own (P.map ofS)),sv (ofL U),sv (ofS s),y]=some (ofL F):=by
   rw[ev,show evs (ab defs (n+1)) [.bor 3] [a,some (.own (P.map ofS)),sv (ofL U),sv (ofS s),y]=some [ofS s]from by simp[evs,ev],bind_some,u6,u5,bind_some,if_pos (by rw[IC];have:=aY gs;omega),gE (p:=λh=>!decide (h∈U)) (h:=PV.int),hF]
   .rfl
   .intro h _;simp[ev,db,cn]
   .intro h _ _;simp[ev,db]
  rw[Jc,aM];have st:∃Z U1 y1,OkP Z/\Z.length<=P.length+1/\U1.length<=2*Z.length/\exs (ab defs (n+1)) fk (put [a,some (.own (P.map ofS)),sv (ofL U),x,y] 3 (.val (ofS s)))=.next [a,some (.own (Z.map ofS)),sv (ofL U1),sv (ofS s),y1]:=by
   have c:ev (ab defs (n+1)) (.not (.blt .any [(.comp .seq [.bor 1] [3] (.cst (.bl true)) (.call 30 [.bor 0,.bor 1]))])) [a,some (.own (P.map ofS)),sv (ofL U),sv (ofS s),y]=some (.bl (!(P.any λt=>sub t s))):=B0 ea;cases hq:P.any λt=>sub t s with
   |true =>
    rw[hq]at c;exact⟨P,U,y,Y,by omega,hU,eC ((dF c).trans rfl)⟩
   |false =>
    rw[hq]at c
    match F,hm,J with
    | [],_,J=>exact⟨P,U,sv (ofL []),Y,by omega,hU,eC ((dF c).trans (dj J rfl))⟩
    | [z],_,J=>exact⟨P,U,sv (ofL [z]),Y,by omega,hU,eC ((dF c).trans (dj J rfl))⟩
    |z::w::r,hm,J =>
     refine⟨P++[[z,w]],U++[z,w],sv (ofL (z::w::r)),λt ht=>?_,by simp,by simp;omega,?_⟩
     .rcases JM.mp ht with h|h
      .exact Y t h
      .exact⟨z,w,by simpa using h,hm z (.head _),hm w (.tail _ (.head _))⟩
     .have hn:(((z::w::r).map PV.int).length:Int)=(r.length:Int)+1+1:=by simp
      have ao:∀(k:Int) (v:PV),0<=k->k<=1->((z::w::r).map PV.int)[k.toNat]?=some v->mI (ofL (z::w::r)) (.int k)=some v:=λk v h0 h1 e=>by
       rw[GN,d6 h0 (by omega)];exact e
      have cu:cut ((z::w::r).map .int) none (some 2)=[.int z,.int w]:=by
       have h4:min 2 (r.length+1+1)=2:=by omega
       simp[cut,ig,h4]
      rw[Jo,show ofL (U++[z,w])=.lst (U.map .int++[.int z,.int w])from JD PV.lst Jo];exact eC ((dF c).trans (dj J (eC ((dF (p:=true) ((cz (x:=.int ((((z::w::r).map PV.int).length:Nat):Int)) (y:=.int 1) rfl rfl).trans (by rw[Ex,hn,I0 (by omega)];rfl))).trans (i6 (o8 rfl (iF (dN ((fm rfl rfl).trans (ao 0 (.int z) (by decide) (by decide) rfl)) (dN ((fm rfl rfl).trans (ao 1 (.int w) (by decide) (by decide) rfl)) rfl))) (by rw[IC];omega)) (eC (ng ((aP rfl (show _=some (PV.lst (cut ((z::w::r).map .int) none (some 2)))from rfl)).trans (by rw[cu,uZ,if_pos (by rw[IC];simp;omega)])))))))))
  obtain⟨Z,U1,y1,q1,q2,q3,e⟩:=st;rw[e];obtain⟨P',U',x',y',r1,r2,r3⟩:=k_ n a S Z U1 (sv (ofS s)) y1 q1 (λt ht=>hS t (.tail _ ht)) (by omega) q3;exact⟨P',U',x',y',r1,by rw[length_cons];omega,r3⟩
def zC(n:Nat)(R:LL)(g:bR R):∃P,OkP P/\P.length<=60/\ab defs (n+2) 37 [.val (ofR R)]=some (ofR P):=by
 obtain⟨P,U,x,y,h1,h2,e⟩:=k_ n (sv (ofR R)) R [] [] none none (λ_ h=>by cases h) g.1 (by have:=g.2.2;simpa using this) (by simp);refine⟨P,h1,by have:=g.2.2;simp at h2;omega,?_⟩;rw[al (d:=gI) rfl rfl];simp only[map_nil]at e;rw[show ofL []=PV.lst []from rfl]at e;simp[gI,exs,ex,ev,evs,evA,bu,bn,ofR,e]
structure Dr(n:Nat)(l:List Int):Prop where
 nd:l.Nodup
 m:∀x∈l,0<=x/\x<=59
 l:l.length<=n
def Dr.good{n:Nat}{l:List Int}(h:Dr n l):b7 (sortI l)/\(sortI l).length<=n:=⟨⟨rM h.nd,λx hx=>h.m x (oX.mp hx)⟩,by rw[sortI_len];exact h.l⟩
theorem Dr.add{n:Nat}{l:List Int}{x:Int}(h:Dr n l)(hx:x∉l)(Y:0<=x/\x<=59):Dr (n+1) (l++[x]):=by
 refine⟨?_,λy J=>?_,by rw[IX,length_singleton];have:=h.l;omega⟩
 .rw[Lm];exact⟨h.nd,by simp,λa Z b hb z=>hx (by rw[Jd.mp hb]at z;exact z▸Z)⟩
 .rcases JM.mp J with J|J
  .exact h.m y J
  .rw[Jd.mp J];exact Y
def Dr.more{n m:Nat}{l:List Int}(h:Dr n l)(e:n<=m):Dr m l:=⟨h.nd,h.m,IQ h.l e⟩
theorem ve(cal:Cal)(p:Int)(hp:0<=p/\p<=4):∀(xs:List PV) (n:Nat) (left:Int) (J:List Int) (k:Option MV),Dr n J->n+xs.length<=60 ->
  ∃Y Z k',aM (λx C=>exs cal dc (put C 3 (.val x))) xs [sv (.int left),sv (.int p),some (.own (J.map .int)),k]=.next [sv (.int Y),sv (.int p),some (.own (Z.map .int)),k']/\Dr (n+xs.length) Z
 | [],n,left,J,k,d,_=>⟨left,J,k,rfl,d⟩
 |x::xs,n,left,J,k,d,hl=>by
  rw[length_cons]at hl;have m0:0<=left / 6 % 6:=Jv _ (by decide);have m1:left / 6 % 6<6:=Jm _ (by decide);have e0:∀(J:List Int),ev cal (.bin .fdiv (.bor 0) (ci 6)) [sv (.int left),sv (.int p),some (.own (J.map .int)),sv x]=some (.int (left / 6)):=λJ=>fH rfl (by decide)
  have eh:∀(J:List Int),ev cal (.bin .add (.bin .mul (ci 10) (.bor 1)) (.bin .mod (.bor 0) (ci 6))) [sv (.int (left / 6)),sv (.int p),some (.own (J.map .int)),sv x]=some (.int (10*p+left / 6 % 6)):=λJ=>by
   refine(aP (x:=.int (10*p)) (y:=.int (left / 6 % 6)) ((aP (x:=.int 10) (y:=.int p) (aW _ _ _) rfl).trans ?_) ((aP (x:=.int (left / 6)) (y:=.int 6) rfl (aW _ _ _)).trans rfl)).trans rfl;show(if (-(2 ^ 64)<(10:Int)/\(10:Int)<2 ^ 64)\/(-(2 ^ 64)<p/\p<2 ^ 64)then some (PV.int (10*p))else none)=_;rw[if_pos (.inl (by decide))]
  have et:ev cal (.cmp .notIn (.bin .add (.bin .mul (ci 10) (.bor 1)) (.bin .mod (.bor 0) (ci 6))) (.bor 2)) [sv (.int (left / 6)),sv (.int p),some (.own (J.map .int)),sv x]=some (.bl (!decide (10*p+left / 6 % 6∈J))):=va (x:=.int (10*p+left / 6 % 6)) (xs:=J.map .int) (by rw[cn]) (eh J) rfl rfl;have key:∃ac,exs cal dc (put [sv (.int left),sv (.int p),some (.own (J.map .int)),k] 3 (.val x))=.next [sv (.int (left / 6)),sv (.int p),some (.own (ac.map .int)),sv x]/\Dr (n+1) ac:=by
   by_cases hi:10*p+left / 6 % 6∈J
   .rw[I0 hi]at et;exact⟨J,dj (e0 J) (wc et rfl),d.more (by omega)⟩
   .rw[Jt hi]at et;refine⟨J++[10*p+left / 6 % 6],?_,d.add hi (by omega)⟩;rw[Jo];exact dj (e0 J) (zi et (eC (o8 rfl (eh J) (by rw[IC];have:=d.l;omega))) rfl)
  obtain⟨ac,e,d1⟩:=key;obtain⟨Y,Z,k',q,r⟩:=ve cal p hp xs (n+1) (left / 6) ac (sv x) d1 (by omega);exact⟨Y,Z,k',by rw[gN e,q],r.more (by rw[length_cons];omega)⟩
def zD(n:Nat)(left p:Int)(hp:0<=p/\p<=4):∃t,ab defs (n+1) 38 [.val (.int left),.val (.int p)]=some (ofS t)/\b7 t/\t.length<=4:=by
 rw[al (d:=gj) rfl rfl];have s0:0<=left % 4:=Jv _ (by decide);have s1:left % 4<4:=Jm _ (by decide);obtain⟨Y,J,k',q,r⟩:=ve (ab defs n) p hp ((range (1+left % 4).toNat).map λ(k:Nat)=>.int (k:Int)) 0 left [] none ⟨.nil,(λ_ h=>by cases h),y4 _⟩ (by rw[IC,K3];omega);rw[IC,K3]at r;have Z:=r.more (m:=4) (by omega);refine⟨sortI J,?_,Z.good⟩;show b6 (exs _ [.setOwn 2 _,.for1 3 .rng _ _,.ret _] [sv (.int left),sv (.int p),none,none])=_;refine nh (gk (xs:=[]) rfl) (nh (C:=[sv (.int Y),sv (.int p),some (.own (J.map .int)),k']) ?_ (gU ?_))
 .rw[dU (xs:=(range (1+left % 4).toNat).map λ(k:Nat)=>.int (k:Int)) (by
   rw[show evs (ab defs n) [(.bin .add (ci 1) (.bin .mod (.bor 0) (ci 4)))] (put [sv (.int left),sv (.int p),none,none] 2 (.own []))=some [.int (1+left % 4)]from rfl,bind_some];exact iZ (by omega) (by omega))]
  show(aM _ _ [sv (.int left),sv (.int p),some (.own (([]:List Int).map .int)),none]).back _ _=_;rw[q]
  rfl
 .rw[aI (v:=ofL (sortI J))]
  .rfl
  .rw[aI (v:=.lst (J.map .int)) rfl];exact iC (by have:=Z.l;omega)
theorem vf(cal:Cal)(J:Int)(hp:1<=J/\J<=4)(a0:Option MV):∀(xs:List PV) (n:Nat) (left:Int) (Y:List Int) (k f:Option MV),Dr n Y->n+xs.length<=60 ->
  ∃Z ac k' f',aM (λx C=>exs cal fV (put C 4 (.val x))) xs [a0,sv (.int left),sv (.int J),some (.own (Y.map .int)),k,f]=.next [a0,sv (.int Z),sv (.int J),some (.own (ac.map .int)),k',f']/\Dr (n+xs.length) ac
 | [],n,left,Y,k,f,d,_=>⟨left,Y,k,f,rfl,d⟩
 |x::xs,n,left,Y,k,f,d,hl=>by
  rw[length_cons]at hl;have ar:0<J:=by omega
  have a6:J<1073741824:=by omega
  have q0:0<=left / 64 % J:=Jv _ (by omega);have q1:left / 64 % J<J:=Jm _ ar;have m0:0<=left / 64 / J % 6:=Jv _ (by decide);have m1:left / 64 / J % 6<6:=Jm _ (by decide);obtain⟨h,hh⟩:∃h,h=left / 64 % J*10+left / 64 / J % 6:=⟨_,rfl⟩;have e0:ev cal (.bin .fdiv (.bor 1) (ci 64)) [a0,sv (.int left),sv (.int J),some (.own (Y.map .int)),sv x,f]=some (.int (left / 64)):=fH rfl (by decide);have e1:ev cal (.bin .add (.bin .mul (.bin .mod (.bor 1) (.bor 2)) (ci 10)) (.bin .mod (.bin .fdiv (.bor 1) (.bor 2)) (ci 6))) [a0,sv (.int (left / 64)),sv (.int J),some (.own (Y.map .int)),sv x,f]=some (.int h):=by
   have a1:ev cal (.bin .mod (.bor 1) (.bor 2)) [a0,sv (.int (left / 64)),sv (.int J),some (.own (Y.map .int)),sv x,f]=some (.int (left / 64 % J)):=by
    rw[aP (x:=.int (left / 64)) (y:=.int J) rfl rfl,iD,if_pos ar]
   have a2:ev cal (.bin .fdiv (.bor 1) (.bor 2)) [a0,sv (.int (left / 64)),sv (.int J),some (.own (Y.map .int)),sv x,f]=some (.int (left / 64 / J)):=by
    rw[aP (x:=.int (left / 64)) (y:=.int J) rfl rfl];show(if _ then _ else _)=_;rw[if_pos ⟨ar,a6⟩]
   rw[hh];refine(aP (x:=.int (left / 64 % J*10)) (y:=.int (left / 64 / J % 6)) ((aP (y:=.int 10) a1 (aW _ _ _)).trans ?_) ((aP (y:=.int 6) a2 (aW _ _ _)).trans rfl)).trans rfl;show(if (-(2 ^ 64)<left / 64 % J/\left / 64 % J<2 ^ 64)\/(-(2 ^ 64)<(10:Int)/\(10:Int)<2 ^ 64)then some (PV.int (left / 64 % J*10))else none)=_;rw[if_pos (.inr (by decide))]
  have hr:0<=h/\h<=59:=by rw[hh];omega
  have et:ev cal (.cmp .notIn (.bor 5) (.bor 3)) [a0,sv (.int (left / 64)),sv (.int J),some (.own (Y.map .int)),sv x,sv (.int h)]=some (.bl (!decide (h∈Y))):=va (x:=.int h) (xs:=Y.map .int) (by rw[cn]) rfl rfl rfl;have key:∃ao,exs cal fV (put [a0,sv (.int left),sv (.int J),some (.own (Y.map .int)),k,f] 4 (.val x))=.next [a0,sv (.int (left / 64)),sv (.int J),some (.own (ao.map .int)),sv x,sv (.int h)]/\Dr (n+1) ao:=by
   by_cases hi:h∈Y
   .rw[I0 hi]at et;exact⟨Y,dj e0 (dj e1 (wc et rfl)),d.more (by omega)⟩
   .rw[Jt hi]at et;refine⟨Y++[h],?_,d.add hi hr⟩;rw[Jo];exact dj e0 (dj e1 (zi et (eC (o8 rfl rfl (by rw[IC];have:=d.l;omega))) rfl))
  obtain⟨ao,e,d1⟩:=key;obtain⟨Z,ac,k',f',q,r⟩:=vf cal J hp a0 xs (n+1) (left / 64) ao (sv x) (sv (.int h)) d1 (by omega);exact⟨Z,ac,k',f',by rw[gN e,q],r.more (by rw[length_cons];omega)⟩
def Bu(n:Nat)(t:List Int)(left J:Int)(hp:1<=J/\J<=4)(ht:b7 t/\t.length<=4):∃u,ab defs (n+1) 39 [.val (ofS t),.val (.int left),.val (.int J)]=some (ofS u)/\b7 u/\u.length<=6:=by
 rw[al (d:=k6) rfl rfl];have s0:0<=left % 3:=Jv _ (by decide);have s1:left % 3<3:=Jm _ (by decide);obtain⟨Z,Y,k',f',q,r⟩:=vf (ab defs n) J hp (sv (ofS t)) ((range (left % 3).toNat).map λ(k:Nat)=>.int (k:Int)) 4 left t none none ⟨ht.1.1.imp (λ{a b} h=>by omega),ht.1.2,ht.2⟩ (by rw[IC,K3];omega);rw[IC,K3]at r;have r4:=r.more (m:=6) (by omega);refine⟨sortI Y,?_,r4.good⟩;show b6 (exs _ [.setOwn 3 _,.for1 4 .rng _ _,.ret _] [sv (ofS t),sv (.int left),sv (.int J),none,none,none])=_;refine nh (gk (xs:=t.map .int) rfl) (nh (C:=[sv (ofS t),sv (.int Z),sv (.int J),some (.own (Y.map .int)),k',f']) ?_ (gU ?_))
 .rw[dU (xs:=(range (left % 3).toNat).map λ(k:Nat)=>.int (k:Int)) (by
   rw[show evs (ab defs n) [(.bin .mod (.bor 1) (ci 3))] (put [sv (ofS t),sv (.int left),sv (.int J),none,none,none] 3 (.own (t.map .int)))=some [.int (left % 3)]from rfl,bind_some];exact iZ (by omega) (by omega))]
  show(aM _ _ [sv (ofS t),sv (.int left),sv (.int J),some (.own (t.map .int)),none,none]).back _ _=_;rw[q]
  rfl
 .rw[aI (v:=ofL (sortI Y))]
  .rfl
  .rw[aI (v:=.lst (Y.map .int)) rfl];exact iC (by have:=r4.l;omega)
noncomputable def cellOf(ns:List Int)(k:Int):Int:=ns.getD k.toNat 0
def zE(n:Nat)(m:MV)(ns:List Int)(k:Int)(J:bA (some m)=some (ofL ns))(Y:0<=k):ab defs (n+1) 27 [m,.val (.int k)]=some (.int (cellOf ns k)):=by
 rw[al (d:=i5) rfl rfl];unfold cellOf;simp[i5,exs,ex,ev,evs,evB,J];by_cases h:k<(ns.length:Int)
 .have h2:k.toNat<ns.length:=by omega
  simp[h,d6 Y h,h2]
 .have h2:ns.length<=k.toNat:=by omega
  simp[h,h2]
noncomputable def rV(c b:Int):Int:=c % 2305843009213693951*b % 2305843009213693951
def qt(c b):0<=rV c b:=Jv _ (by decide)
def qu(n:Nat)(c b:Int):ab defs (n+1) 28 [.val (.int c),.val (.int b)]=some (.int (rV c b)):=by
 rw[al (d:=kZ) rfl rfl];have h1:0<=c % 2305843009213693951:=Jv _ (by decide);have h2:c % 2305843009213693951<2305843009213693951:=Jm _ (by decide);have J:(-18446744073709551616<c % 2305843009213693951/\c % 2305843009213693951<18446744073709551616\/-18446744073709551616<b/\b<18446744073709551616):=.inl ⟨by omega,by omega⟩;exact gU ((aP ((aP ((aP rfl rfl).trans rfl) rfl).trans (show gQ .mul (.int (c % 2305843009213693951)) (.int b)=some (.int (c % 2305843009213693951*b))from if_pos J)) rfl).trans rfl)
noncomputable def qv:List MS:=[.set 6 (.call 28 [.bor 5,(ci 1181783497276652981)]),
  .set 7 (.call 38 [(.bin .fdiv (.bor 6) (.bor 2)),(.bin .mod (.bor 6) (.bor 2))]),
  .appI 3 (.bin .mod (.bor 6) (.bor 2)) (.var 7),
  .append 4 (.call 39 [.bor 7,(.bin .fdiv (.bor 6) (ci 20736)),.bor 2])]
noncomputable def zF:List MS:=[.set 1 (.call 28 [(.call 27 [.bor 0,(ci 0)]),(ci 1865811235122147685)]),
  .set 2 (.bin .add (ci 1) (.bin .mod (.call 28 [(.call 27 [.bor 0,(ci 1)]),(ci 1442695040888963407)]) (ci 4))),
  .setLN 3 (.bor 2),
  .setOwn 4 (.lst []),
  .for1 5 .seq [(.slice (.bor 0) (ci 2) (ci 14))] qv]
def Sm(F:LL):Prop:=∀t∈F,b7 t
theorem Sm.add{F:LL}{t:List Int}(h:Sm F)(g:b7 t):Sm (F++[t]):=λu J=>by
 rcases JM.mp J with J|J
 .exact h u J
 .rw[Jd.mp J];exact g
structure Gr(m n:Nat)(D:List (LL)):Prop where
 m:D.length=m
 n:∀F∈D,F.length<=n
 g:∀F∈D,Sm F
noncomputable def lL(D:List (LL)):List (List PV):=D.map λF=>F.map ofS
theorem Gr.app{m n:Nat}{D:List (LL)}(h:Gr m n D){q:Nat}{F:LL}(Z:D[q]?=some F){t:List Int}(g:b7 t):Gr m (n+1) (D.set q (F++[t])):=by
 have Y:=JA Z;refine⟨by rw[JW];exact h.m,λG J=>?_,λG J=>?_⟩
 .rcases Kz J with J|rfl
  .have:=h.n G J;omega
  .rw[IX,length_singleton];have:=h.n F Y;omega
 .rcases Kz J with J|rfl
  .exact h.g G J
  .exact(h.g F Y).add g
def EJ{cal:Cal}{i:Nat}{k e:ME}{M:Rho}{D:List (LL)}{j:Int}{t:List Int}{F:LL}(hi:(M[i]?).join=some (.ownL (lL D)))(hk:ev cal k M=some (.int j))(he:ev cal e M=some (ofS t))(h0:0<=j)(Z:D[j.toNat]?=some F)(hl:F.length<10000) :
  ex cal (.appI i k e) M=.next (put M i (.ownL (lL (D.set j.toNat (F++[t]))))):=by
 have hj:j.toNat<D.length:=(II.mp Z).1;rw[ex,hk];show dH (ev cal e M) _=_;rw[he];show(match (M[i]?).join with|some (.ownL J)=>(match xS J (.int j) (ofS t)with|some Y=>R.next (put M i (.ownL Y))|none=>.bad)|_=>.bad)=_;rw[hi];have e:xS (lL D) (.int j) (ofS t)=some (lL (D.set j.toNat (F++[t]))):=by
  show(place (lL D).length j).bind (λq=>((lL D)[q]?).bind λxs=>if xs.length<10000 then some ((lL D).set q (xs++[ofS t]))else none)=_;rw[d6 h0 (by unfold lL;rw[IC];omega),bind_some];unfold lL;rw[Jb,Z,map_some,bind_some,if_pos (by rw[IC];exact hl),map_set,Jo]
  rfl
 dsimp only;rw[e]
theorem zG(n:Nat)(Y J:Int)(hm:1<=J/\J<=4)(a0 a8 a9 Z ac ao ar aL:Option MV):∀(cs:List Int) (k:Nat) (D:List (LL)) (R:LL) (x5 x6 x7:Option MV),Gr J.toNat k D->Sm R->R.length<=k->k+cs.length<=60 ->
  ∃D' R' y5 y6 y7,Gr J.toNat (k+cs.length) D'/\Sm R'/\R'.length<=k+cs.length/\aM (λx C=>exs (ab defs (n+2)) qv (put C 5 (.val x))) (cs.map .int) [a0,sv (.int Y),sv (.int J),some (.ownL (lL D)),some (.own (R.map ofS)),x5,x6,x7,a8,a9,Z,ac,ao,ar,aL]
  =.next [a0,sv (.int Y),sv (.int J),some (.ownL (lL D')),some (.own (R'.map ofS)),y5,y6,y7,a8,a9,Z,ac,ao,ar,aL]
 | [],k,D,R,x5,x6,x7,g,s,hR,hl=>⟨D,R,x5,x6,x7,g,s,hR,rfl⟩
 |x::cs,k,D,R,x5,x6,x7,g,s,hR,hl=>by
  rw[length_cons]at hl;have a2:0<J:=by omega
  have b0:J<1073741824:=by omega
  have em:=qu (n+1) x 1181783497276652981;generalize rV x 1181783497276652981=l at em;have q0:0<=l % J:=Jv _ (by omega);have q1:l % J<J:=Jm _ a2;obtain⟨t,et,gt,lt⟩:=zD (n+1) (l / J) (l % J) (by omega);obtain⟨u,eu,gu,_⟩:=Bu (n+1) t (l / 20736) J hm ⟨gt,lt⟩;have hq:(l % J).toNat<D.length:=by rw[g.m];omega
  have hF:D[(l % J).toNat]?=some D[(l % J).toNat]:=IF hq;have b2:=g.n _ (J5 hq);generalize D[(l % J).toNat]=F at hF b2;have e:exs (ab defs (n+2)) qv (put [a0,sv (.int Y),sv (.int J),some (.ownL (lL D)),some (.own (R.map ofS)),x5,x6,x7,a8,a9,Z,ac,ao,ar,aL] 5 (.val (.int x)))=.next [a0,sv (.int Y),sv (.int J),some (.ownL (lL (D.set (l % J).toNat (F++[t])))),some (.own ((R++[u]).map ofS)),sv (.int x),sv (.int l),sv (ofS t),a8,a9,Z,ac,ao,ar,aL]:=by
   have a4:∀(x3 x4 x7:Option MV),ev (ab defs (n+2)) (.bin .mod (.bor 6) (.bor 2)) [a0,sv (.int Y),sv (.int J),x3,x4,sv (.int x),sv (.int l),x7,a8,a9,Z,ac,ao,ar,aL]=some (.int (l % J)):=λ_ _ _=>by
    rw[aP (x:=.int l) (y:=.int J) rfl rfl,iD,if_pos a2]
   have bL:∀(x3 x4 x7:Option MV),ev (ab defs (n+2)) (.bin .fdiv (.bor 6) (.bor 2)) [a0,sv (.int Y),sv (.int J),x3,x4,sv (.int x),sv (.int l),x7,a8,a9,Z,ac,ao,ar,aL]=some (.int (l / J)):=λ_ _ _=>by
    rw[aP (x:=.int l) (y:=.int J) rfl rfl];show(if _ then _ else _)=_;rw[if_pos ⟨a2,b0⟩]
   have a1:∀{e:ME}{es:List ME}{M:Rho}{v:PV}{vs:List MV},(∀i,e≠.bor i)->ev (ab defs (n+2)) e M=some v->evA (ab defs (n+2)) es M=some vs->evA (ab defs (n+2)) (e::es) M=some (.val v::vs):=λ{e es M v vs} h1 h2 h3=>by
    cases e with
    |bor i=>exact absurd rfl (h1 i)
    | _=>simp only[evA,h2,h3];rfl
   rw[Jo];refine dj (v:=.int l) (av (vs:=[.val (.int x),.val (.int 1181783497276652981)]) rfl em) ?_;refine dj (v:=ofS t) (av (vs:=[.val (.int (l / J)),.val (.int (l % J))]) (a1 (λi z=>by cases z) (bL _ _ _) (a1 (λi z=>by cases z) (a4 _ _ _) rfl)) et) ?_;refine i6 (EJ (j:=l % J) (t:=t) (F:=F) rfl (a4 _ _ _) rfl q0 hF (by omega)) ?_;refine eC (o8 rfl (av (vs:=[.val (ofS t),.val (.int (l / 20736)),.val (.int J)]) (u9 rfl (a1 (λi z=>by cases z) (fH rfl (by decide)) rfl)) eu) (by rw[IC];omega))
  obtain⟨D',R',y5,y6,y7,h1,h2,h3,h4⟩:=zG n Y J hm a0 a8 a9 Z ac ao ar aL cs (k+1) _ (R++[u]) (sv (.int x)) (sv (.int l)) (sv (ofS t)) (g.app hF gt) (s.add gu) (by rw[IX,length_singleton];omega) (by omega);rw[show k+1+cs.length=k+(x::cs).length by rw[length_cons];omega]at h1 h3;exact⟨D',R',y5,y6,y7,h1,h2,h3,by rw[Jc,gN e,h4]⟩
def wn(ns:List Int)(a9:ns.length<=63):∃(J Y:Int) (D:List (LL)) (R:LL) (y5 y6 y7:Option MV),0<=J/\(1<=Y/\Y<=4)/\Gr Y.toNat 12 D/\Sm R/\R.length<=12 /\
  exs (ab defs 39) zF [some (.brw (ns.map .int)),none,none,none,none,none,none,none,none,none,none,none,none,none,none]=.next [some (.brw (ns.map .int)),sv (.int J),sv (.int Y),some (.ownL (lL D)),some (.own (R.map ofS)),y5,y6,y7,none,none,none,none,none,none,none]:=by
 have Z:=zE 38 (.brw (ns.map .int)) ns 0 rfl (by decide);have ac:=zE 38 (.brw (ns.map .int)) ns 1 rfl (by decide);generalize cellOf ns 0=z0 at Z;generalize cellOf ns 1=z1 at ac;have ao:=qu 38 z0 1865811235122147685;have ar:=qu 38 z1 1442695040888963407;have aL:=qt z0 1865811235122147685;generalize rV z0 1865811235122147685=J at ao aL;generalize rV z1 1442695040888963407=b at ar;have m0:0<=b % 4:=Jv _ (by decide);have m1:b % 4<4:=Jm _ (by decide);have a8:(tj ns (some 2) (some 14)).length<=12:=by have:=ze ns (a:=2) (b:=14) (by decide) (by decide);omega
 obtain⟨D,R,y5,y6,y7,g,s,hR,q⟩:=zG 37 J (1+b % 4) ⟨by omega,by omega⟩ (some (.brw (ns.map .int))) none none none none none none none (tj ns (some 2) (some 14)) 0 (replicate (1+b % 4).toNat []) [] none none none ⟨Me,(λF hF=>by rw[(mem_replicate.mp hF).2];exact y4 _),λF hF=>by rw[(mem_replicate.mp hF).2];exact λt ht=>by cases ht⟩ (λt ht=>by cases ht) (y4 _) (by omega);refine⟨J,1+b % 4,D,R,y5,y6,y7,aL,⟨by omega,by omega⟩,⟨g.m,(λF hF=>IQ (g.n F hF) (by omega)),g.g⟩,s,by omega,?_⟩;refine dj (v:=.int J) (by simp[ev,evA,eX,Z,ao]) ?_;refine dj (v:=.int (1+b % 4)) (by simp[cT,cR,ev,evA,eX,ac,ar]) ?_;refine i6 (C:=[some (.brw (ns.map .int)),sv (.int J),sv (.int (1+b % 4)),some (.ownL (replicate (1+b % 4).toNat [])),none,none,none,none,none,none,none,none,none,none,none]) ?_ ?_
 .rw[ex,show ev (ab defs 39) (.bor 2) (put (put [some (.brw (ns.map .int)),none,none,none,none,none,none,none,none,none,none,none,none,none,none] 1 (.val (.int J))) 2 (.val (.int (1+b % 4))))=some (.int (1+b % 4))from rfl];show(if noL _=true/\_ then _ else _)=_;rw[if_pos ⟨rfl,by omega,by omega⟩]
  rfl
 refine i6 (gk (xs:=[]) rfl) (eC ?_);rw[dU (xs:=(tj ns (some 2) (some 14)).map .int) (by simp[evs,ev,bnd,cT,cR])];show(aM _ _ (bu [.slice _ _ _] _)).back _ _=_;rw[show ∀(x y z:ME) (M:Rho),bu [.slice x y z] M=M from λ_ _ _ _=>rfl];have hL:lL (replicate (1+b % 4).toNat [])=replicate (1+b % 4).toNat []:=by unfold lL;rw[map_replicate];rfl
 rw[hL,map_nil]at q;simp only[cT,cR];rw[q]
 rfl
def wo(n:Nat)(P:LL)(g:bR P)(J:Int):∃v,o9 v/\ab defs (n+3) 41 [.val (ofR P),.val (.int J)]=some v:=by
 rw[al (d:=iu) rfl rfl];obtain⟨G,hG,lG,eG⟩:=zC n P g;show ∃v,o9 v/\b6 (exs (ab defs (n+2)) [.ite _ _ _,.ite _ _ _,.ret _] [sv (ofR P),sv (.int J)])=some v;have e1:ev (ab defs (n+2)) (.cmp .eq (.bin .mod (.bor 1) (ci 4)) (ci 0)) [sv (ofR P),sv (.int J)]=some (.bl (J % 4==0)):=jH rfl (by decide);have e2:ev (ab defs (n+2)) (.cmp .eq (.bin .mod (.bor 1) (ci 4)) (ci 1)) [sv (ofR P),sv (.int J)]=some (.bl (J % 4==1)):=jH rfl (by decide);have el:ev (ab defs (n+2)) (.cmp .eq (.blt .len [.bor 0]) (ci 0)) [sv (ofR P),sv (.int J)]=some (.bl (((P.map ofS).length:Int)==0)):=u_ (xs:=P.map ofS) rfl rfl;have Y:ev (ab defs (n+2)) (.cmp .lt (.bin .mod (.bor 1) (ci 4)) (ci 3)) [sv (ofR P),sv (.int J)]=some (.bl (decide (J % 4<3))):=(cz (x:=.int (J % 4)) (y:=.int 3) ((aP (x:=.int J) (y:=.int 4) rfl (aW _ _ _)).trans rfl) (aW _ _ _)).trans rfl;have ei:∃v,o9 v/\ev (ab defs (n+2)) (.idx (.lst [(.tup [(cs "weight")]),(.tup [(cs "bare")])]) (.blt .intOf [(.cmp .eq (.blt .len [.bor 0]) (ci 0))])) [sv (ofR P),sv (.int J)]=some v:=by
  rw[fm (x:=.lst [.tup [.str "weight"],.tup [.str "bare"]]) (y:=.int (if ((P.map ofS).length:Int)==0 then 1 else 0)) rfl (by rw[aI el];cases (((P.map ofS).length:Int)==0)<;>rfl)];cases (((P.map ofS).length:Int)==0)
  .exact⟨_,.inr (.inr (.inl rfl)),rfl⟩
  .exact⟨_,.inl rfl,rfl⟩
 have Z:=GU e1 λ_=>iw el λ_=>e2
 generalize ((J % 4==0)||((((P.map ofS).length:Int)==0)&&(J % 4==1)))=b at Z;cases b with
 |true =>
  obtain⟨v,hv,e⟩:=ei;exact⟨v,hv,jJ Z e⟩
 |false =>
  cases hd:decide (J % 4<3)with
  |true =>
   rw[hd]at Y;exact⟨_,.inr (.inr (.inr ⟨G,hG,lG,rfl⟩)),i7 Z (jJ Y (iF (dN (aW _ _ _) (dN (av (vs:=[.val (ofR P)]) rfl eG) rfl))))⟩
  |false =>
   rw[hd]at Y;exact⟨_,.inr (.inr (.inl rfl)),i7 Z (i7 Y (gU rfl))⟩
noncomputable def nw:List MS:=[.set 10 (.blt .tupleOf [(.blt .sorted [(.idx (.bor 3) (.bor 9))])]),
  .append 8 (.tup [.var 10,(.call 41 [.bor 10,(.bin .shr (.bor 1) (.bin .add (ci 20) (.bin .mul (ci 3) (.bor 9))))])])]
def rW(r:LL×PV):Prop:=bR r.1/\o9 r.2
noncomputable def aX(D:List (LL)):PV:=.lst (D.map λF=>.lst (F.map ofS))
def kH{F:LL}(h:Sm F)(J:F.length<=60):bR (sortT F):=nv h J
noncomputable abbrev fq(w p r:MV)(x8 x9 J Y Z ac ao:Option MV):Rho:=[none,some w,none,some p,some r,none,none,none,x8,x9,J,Y,Z,ac,ao]
theorem pf(n:Nat)(Y:Int)(D:List (LL))(hD:∀F∈D,F.length<=60/\Sm F)(hl:D.length<=60)(r:MV)(ac ao ar aL:Option MV):∀(m k:Nat) (J:List (LL×PV)) (x9 a0:Option MV),k+m=D.length->J.map (·.1)=(D.take k).map sortT->(∀r∈J,rW r) ->
  ∃(Z:List (LL×PV)) (y9 a1:Option MV),Z.map (·.1)=D.map sortT/\(∀r∈Z,rW r)/\aM (λx C=>exs (ab defs (n+3)) nw (put C 9 (.val x))) ((range' k m).map λ(j:Nat)=>.int (j:Int)) (fq (.val (.int Y)) (.val (aX D)) r (some (.own (J.map aE))) x9 a0 ac ao ar aL)
  =.next (fq (.val (.int Y)) (.val (aX D)) r (some (.own (Z.map aE))) y9 a1 ac ao ar aL)
 |0,k,J,x9,a0,hk,hm,hr=>⟨J,x9,a0,by rw[hm,L9 (by omega)],hr,rfl⟩
 |m+1,k,J,x9,a0,hk,hm,hr=>by
  have a2:k<D.length:=by omega
  have hF:=hD _ (J5 a2);have gF:=kH hF.2 hF.1;obtain⟨v,hv,a9⟩:=wo n (sortT D[k]) gF (Y / 2 ^ (20+3*(k:Int)).toNat);have bL:J.length=k:=by have:=JD List.length hm;rw[IC,IC,KL]at this;omega
  have e:exs (ab defs (n+3)) nw (put (fq (.val (.int Y)) (.val (aX D)) r (some (.own (J.map aE))) x9 a0 ac ao ar aL) 9 (.val (.int (k:Int))))=.next (fq (.val (.int Y)) (.val (aX D)) r (some (.own ((J++[(sortT D[k],v)]).map aE))) (sv (.int (k:Int))) (sv (ofR (sortT D[k]))) ac ao ar aL):=by
   rw[Jo];refine dj (v:=ofR (sortT D[k])) ?_ (eC (o8 rfl (iF (dN rfl (dN (av (vs:=[.val (ofR (sortT D[k])),.val (.int (Y / 2 ^ (20+3*(k:Int)).toNat))]) ?_ a9) rfl))) (by rw[IC];omega)))
   .rw[aI (v:=.lst ((sortT D[k]).map ofS))]
    .rfl
    .rw[aI (v:=.lst (D[k].map ofS))]
     .exact kB (by have:=hF.1;omega)
     .rw[fm (x:=aX D) (y:=.int (k:Int)) rfl rfl];show(place (D.map λF=>PV.lst (F.map ofS)).length (k:Int)).bind (λj=>(D.map λF=>PV.lst (F.map ofS))[j]?)=_;rw[d6 (by omega) (by rw[IC];omega),bind_some,Jb,Int.toNat_natCast,IF a2]
      rfl
   .have es:∀M:Rho,(M[1]?).join=sv (.int Y)->(M[9]?).join=sv (.int (k:Int))->ev (ab defs (n+3)) (.bin .shr (.bor 1) (.bin .add (ci 20) (.bin .mul (ci 3) (.bor 9)))) M=some (.int (Y / 2 ^ (20+3*(k:Int)).toNat)):=λM h1 h9=>by
     have e9:ev (ab defs (n+3)) (.bor 9) M=some (.int (k:Int)):=by rw[ev,h9];rfl
     have em:ev (ab defs (n+3)) (.bin .mul (ci 3) (.bor 9)) M=some (.int (3*(k:Int))):=by
      rw[aP (x:=.int 3) (y:=.int (k:Int)) (aW _ _ _) e9];show(if (-(2 ^ 64)<(3:Int)/\(3:Int)<2 ^ 64)\/(-(2 ^ 64)<(k:Int)/\(k:Int)<2 ^ 64)then some (PV.int (3*(k:Int)))else none)=_;rw[if_pos (.inl (by decide))]
     rw[aP (x:=.int Y) (y:=.int (20+3*(k:Int))) (by rw[ev,h1];rfl) ((aP (x:=.int 20) (y:=.int (3*(k:Int))) (aW _ _ _) em).trans rfl)];show(if 0<=20+3*(k:Int)then some (PV.int (Y / 2 ^ (20+3*(k:Int)).toNat))else none)=_;rw[if_pos (by omega)]
    refine u9 rfl ?_;simp only[evA,es _ (show((fq (.val (.int Y)) (.val (aX D)) r (some (.own (J.map aE))) (sv (.int (k:Int))) (sv (ofR (sortT D[k]))) ac ao ar aL)[1]?).join=_ from rfl) rfl]
    rfl
  obtain⟨Z,y9,a1,h1,h2,h3⟩:=pf n Y D hD hl r ac ao ar aL m (k+1) (J++[(sortT D[k],v)]) (sv (.int (k:Int))) (sv (ofR (sortT D[k]))) (by omega) (by
   rw[Jo,hm,take_succ_eq_append_getElem a2,Jo]
   rfl) (λq hq=>by
   rcases JM.mp hq with hq|hq
   .exact hr q hq
   .rw[Jd.mp hq];exact⟨gF,hv⟩)
  refine⟨Z,y9,a1,h1,h2,?_⟩;rw[range'_succ,Jc,gN e];exact h3
noncomputable def bOf(r:LL×PV):Bool:=open Classical in if h:rW r then Classical.choose (tK h.2 r.1 h.1)else false
def zH {r:LL×PV} (h:rW r) (n:Nat):ab defs (n+6) 22 [.val r.2,.val (ofR r.1),.val (.str "weaver"),.val (.str "moth")]=some (.bl (bOf r))/\ab defs (n+6) 36 [.val r.2,.val (ofR r.1),.val (.str "weaver"),.val (.str "moth")]=some (.bl (bOf r)):=by
 have e:bOf r=Classical.choose (tK h.2 r.1 h.1):=by unfold bOf;rw[dif_pos h]
 rw[e];exact Classical.choose_spec (tK h.2 r.1 h.1) n
noncomputable def zI:List MS:=[.setOwn 8 (.lst []),
  .for1 9 .rng [(.blt .len [.bor 3])] nw,
  .ite (.cmp .eq (.bin .mod (.bor 1) (ci 16)) (ci 7))
   [.set 11 (.bin .mod (.bin .fdiv (.bor 1) (ci 16)) (.blt .len [.bor 8])),
   .setIdx 8 (.bor 11) (.tup [(.idx (.idx (.bor 8) (.bor 11)) (ci 0)),(.idx (.lst [(.tup [(cs "bare")]),(.tup [(cs "whole")])]) (.bin .mod (.bin .fdiv (.bor 1) (ci 256)) (ci 2)))])]
   [],
  .set 12 (.call 40 [.bor 8,(.blt .tupleOf [(.blt .sorted [.bor 4])])]),
  .set 13 (.tup [(cs "parts"),(.blt .tupleOf [.bor 8])])]
noncomputable def zJ:List MS:=[.ite (.or (.not (.blt .isBool [.bor 14])) (.cmp .ne (.bor 14) (.bor 12)))
   [.ret (.cst (.bl false))]
   [],
  .ite (.cmp .notN (.call 22 [.bor 13,(.blt .tupleOf [(.blt .sorted [.bor 4])]),(cs "moth"),(cs "moth")]) (.cst (.bl false)))
   [.ret (.cst (.bl false))]
   [],
  .ret (.cmp .isN (.call 22 [.bor 13,(.blt .tupleOf [(.blt .sorted [.bor 4])]),(cs "weaver"),(cs "weaver")]) (.cst (.bl false)))]
noncomputable def cG (J:List (LL×PV)):PV:=.tup [.str "parts",.tup (J.map aE)]
def ny{cal:Cal}{R:LL}(J:R.length<64){M:Rho}(h:(M[4]?).join=sv (.lst (R.map ofS))):ev cal (.blt .tupleOf [(.blt .sorted [.bor 4])]) M=some (ofR (sortT R)):=by
 rw[aI (v:=.lst ((sortT R).map ofS))]
 .rfl
 .rw[aI (v:=.lst (R.map ofS)) (by rw[ev,h];rfl)];exact kB J
def wp(Y:Int)(D:List (LL))(hD:∀F∈D,F.length<=60/\Sm F)(hl:D.length<=8)(h0:0<D.length)(R:LL)(sR:Sm R)(hR:R.length<=60) :
  ∃(Z:List (LL×PV)) (y9 ac ar:Option MV),Z.map (·.1)=D.map sortT/\(∀r∈Z,rW r) /\
   exs (ab defs 39) zI (fq (.val (.int Y)) (.val (aX D)) (.val (.lst (R.map ofS))) none none none none none none none)
   =.next (fq (.val (.int Y)) (.val (aX D)) (.val (.lst (R.map ofS))) (some (.own (Z.map aE))) y9 ac ar (sv (.bl (dG (Z.map (·.1)) (sortT R)&&Z.all bOf))) (sv (cG Z)) none):=by
 obtain⟨J,y9,ac,m0,p0,q⟩:=pf 36 Y D hD (by omega) (.val (.lst (R.map ofS))) none none none none D.length 0 [] none none (by omega) rfl (λ_ h=>by cases h);have l0:J.length=D.length:=by have:=JD List.length m0;rwa[IC,IC]at this
 have key:∃(Z:List (LL×PV)) (ar:Option MV),Z.map (·.1)=D.map sortT/\(∀r∈Z,rW r)/\ex (ab defs 39) (.ite (.cmp .eq (.bin .mod (.bor 1) (ci 16)) (ci 7))
   [.set 11 (.bin .mod (.bin .fdiv (.bor 1) (ci 16)) (.blt .len [.bor 8])),
   .setIdx 8 (.bor 11) (.tup [(.idx (.idx (.bor 8) (.bor 11)) (ci 0)),(.idx (.lst [(.tup [(cs "bare")]),(.tup [(cs "whole")])]) (.bin .mod (.bin .fdiv (.bor 1) (ci 256)) (ci 2)))])]
   []) (fq (.val (.int Y)) (.val (aX D)) (.val (.lst (R.map ofS))) (some (.own (J.map aE))) y9 ac none none none none)=.next (fq (.val (.int Y)) (.val (aX D)) (.val (.lst (R.map ofS))) (some (.own (Z.map aE))) y9 ac ar none none none):=by
  have et:ev (ab defs 39) (.cmp .eq (.bin .mod (.bor 1) (ci 16)) (ci 7)) (fq (.val (.int Y)) (.val (aX D)) (.val (.lst (R.map ofS))) (some (.own (J.map aE))) y9 ac none none none none)=some (.bl (Y % 16==7)):=jH rfl (by decide);cases hw:(Y % 16==7)with
  |false =>
   rw[hw]at et;exact⟨J,none,m0,p0,by rw[dF et,if_neg (by decide),exs]⟩
  |true =>
   rw[hw]at et;have hp:0<(J.length:Int):=by omega
   have q0:0<=Y / 16 % (J.length:Int):=Jv _ (by omega);have q1:Y / 16 % (J.length:Int)<J.length:=Jm _ hp;obtain⟨j,hj⟩:∃j:Nat,(j:Int)=Y / 16 % (J.length:Int):=⟨(Y / 16 % (J.length:Int)).toNat,by omega⟩;have a0:j<J.length:=by omega
   obtain⟨w,a4,a5⟩:∃w:PV,o9 w/\ev (ab defs 39) (.idx (.lst [(.tup [(cs "bare")]),(.tup [(cs "whole")])]) (.bin .mod (.bin .fdiv (.bor 1) (ci 256)) (ci 2))) (fq (.val (.int Y)) (.val (aX D)) (.val (.lst (R.map ofS))) (some (.own (J.map aE))) y9 ac (sv (.int (j:Int))) none none none)=some w:=by
    have r0:0<=Y / 256 % 2:=Jv _ (by decide);have r1:Y / 256 % 2<2:=Jm _ (by decide);rw[fm (x:=.lst [.tup [.str "bare"],.tup [.str "whole"]]) (y:=.int (Y / 256 % 2)) rfl ((aP (x:=.int (Y / 256)) (y:=.int 2) (fH rfl (by decide)) (aW _ _ _)).trans rfl)];by_cases c:Y / 256 % 2=0
    .rw[c];exact⟨_,.inl rfl,rfl⟩
    .rw[show Y / 256 % 2=1 by omega];exact⟨_,.inr (.inl rfl),rfl⟩
   have ej:ev (ab defs 39) (.bin .mod (.bin .fdiv (.bor 1) (ci 16)) (.blt .len [.bor 8])) (fq (.val (.int Y)) (.val (aX D)) (.val (.lst (R.map ofS))) (some (.own (J.map aE))) y9 ac none none none none)=some (.int (j:Int)):=by
    rw[aP (x:=.int (Y / 16)) (y:=.int (J.length:Int)) (fH rfl (by decide)) (by
     rw[aI (v:=.lst (J.map aE)) rfl];show some (PV.int ((J.map aE).length:Nat))=_;rw[IC]),iD,if_pos hp,hj]
   have pl:place (J.map aE).length (j:Int)=some j:=by rw[d6 (by omega) (by rw[IC];omega),Int.toNat_natCast]
   refine⟨J.set j (J[j].1,w),sv (.int (j:Int)),?_,λr hr=>?_,?_⟩
   .rw[map_set,<- m0];refine ext_getElem (by simp) λi h1 h2=>?_
    rw[getElem_set];split
    .rename_i h;subst h;simp
    .rfl
   .rcases Kz hr with hr|rfl
    .exact p0 r hr
    .exact⟨(p0 _ (J5 a0)).1,a4⟩
   .rw[dF et,if_pos rfl];refine dj ej (eC ?_);have e8:ev (ab defs 39) (.tup [(.idx (.idx (.bor 8) (.bor 11)) (ci 0)),(.idx (.lst [(.tup [(cs "bare")]),(.tup [(cs "whole")])]) (.bin .mod (.bin .fdiv (.bor 1) (ci 256)) (ci 2)))]) (fq (.val (.int Y)) (.val (aX D)) (.val (.lst (R.map ofS))) (some (.own (J.map aE))) y9 ac (sv (.int (j:Int))) none none none)=some (aE (J[j].1,w)):=by
     refine iF (dN ?_ (dN a5 rfl));rw[fm (x:=aE J[j]) (y:=.int 0) ?_ (aW _ _ _)]
     .rfl
     .rw[fm (x:=.lst (J.map aE)) (y:=.int (j:Int)) rfl rfl];show(place (J.map aE).length (j:Int)).bind (λq=>(J.map aE)[q]?)=_;rw[pl,bind_some,Jb,IF a0]
      rfl
    rw[ex,show put (fq (.val (.int Y)) (.val (aX D)) (.val (.lst (R.map ofS))) (some (.own (J.map aE))) y9 ac none none none none) 11 (.val (.int (j:Int)))=fq (.val (.int Y)) (.val (aX D)) (.val (.lst (R.map ofS))) (some (.own (J.map aE))) y9 ac (sv (.int (j:Int))) none none none from rfl,e8];show(match place (J.map aE).length (j:Int)with|some q=>MM.R.next (put _ 8 (.own ((J.map aE).set q (aE (J[j].1,w)))))|none=>MM.R.bad)=_;rw[pl];dsimp only;rw[map_set]
    rfl
 obtain⟨Z,ar,m1,p1,ek⟩:=key;have l1:Z.length=D.length:=by have:=JD List.length m1;rwa[IC,IC]at this
 have ed:=EI 36 bOf Z (sortT R) (kH sR hR) (by omega) (λr hr=>(p1 r hr).1) λr hr=>(zH (p1 r hr) 32).2
 rw[tJ]at ed;refine⟨Z,y9,ac,ar,m1,p1,?_⟩;refine i6 (gk (xs:=[]) rfl) (i6 (C:=fq (.val (.int Y)) (.val (aX D)) (.val (.lst (R.map ofS))) (some (.own (J.map aE))) y9 ac none none none none) ?_ (i6 ek (dj (av (vs:=[.brw (Z.map aE),.val (ofR (sortT R))]) (u9 rfl (u8 (λi z=>by cases z) (ny (by omega) rfl))) ed) (dj (v:=cG Z) (iF (dN (aW _ _ _) (dN rfl rfl))) rfl))));rw[dU (xs:=(range D.length).map λ(j:Nat)=>.int (j:Int))]
 .show(aM _ _ (fq (.val (.int Y)) (.val (aX D)) (.val (.lst (R.map ofS))) (some (.own (([]:List (LL×PV)).map aE))) none none none none none none)).back _ _=_;rw[range_eq_range',q]
  rfl
 .rw[show evs (ab defs 39) [(.blt .len [.bor 3])] (put (fq (.val (.int Y)) (.val (aX D)) (.val (.lst (R.map ofS))) none none none none none none none) 8 (.own []))=some [.int (D.map λF=>PV.lst (F.map ofS)).length]from rfl,bind_some,IC,iZ (by omega) (by omega),Int.toNat_natCast]
def wt(Y:Int)(D:List (LL))(R:LL)(hR:R.length<=60)(J:List (LL×PV))(x8 y9 Z ac:Option MV)(b:Bool) :
  exs (ab defs 39) zJ (fq (.val (.int Y)) (.val (aX D)) (.val (.lst (R.map ofS))) x8 y9 Z ac (sv (.bl b)) (sv (cG J)) (sv (.bl b)))=.ret (.bl true):=by
 have g1:ab defs 39 22 [.val (cG J),.val (ofR (sortT R)),.val (.str "moth"),.val (.str "moth")]=some (.bl false):=rfl;have g2:ab defs 39 22 [.val (cG J),.val (ofR (sortT R)),.val (.str "weaver"),.val (.str "weaver")]=some (.bl false):=rfl;have a1:∀(x:Str),evA (ab defs 39) [.bor 13,(.blt .tupleOf [(.blt .sorted [.bor 4])]),(.cst (.str x)),(.cst (.str x))] (fq (.val (.int Y)) (.val (aX D)) (.val (.lst (R.map ofS))) x8 y9 Z ac (sv (.bl b)) (sv (cG J)) (sv (.bl b)))=some [.val (cG J),.val (ofR (sortT R)),.val (.str x),.val (.str x)]:=λx=>by
  refine u9 rfl ?_;simp only[evA,ny (cal:=ab defs 39) (R:=R) (by omega) (show((fq (.val (.int Y)) (.val (aX D)) (.val (.lst (R.map ofS))) x8 y9 Z ac (sv (.bl b)) (sv (cG J)) (sv (.bl b)))[4]?).join=_ from rfl)]
  rfl
 refine wc (GU (p:=false) (q:=false) rfl λ_=>?_) (wc ?_ (B2 ?_))
 .rw[cz (x:=.bl b) (y:=.bl b) rfl rfl];cases b<;>rfl
 .exact(cz (x:=.bl false) (y:=.bl false) (av (a1 _) g1) (aW _ _ _)).trans rfl
 .exact(cz (x:=.bl false) (y:=.bl false) (av (a1 _) g2) (aW _ _ _)).trans rfl
noncomputable def top(i:Nat):Stmt:=PySem.Challenge.pw_mothloom_k29_parts.main.body.getD i (.Pass ⟨0,0,0,0⟩)
noncomputable def cb:Stmt:=top 22
noncomputable def am:Stmt:=top 41
noncomputable def aU:Stmt:=top 63
noncomputable def d_:Stmt:=top 36
noncomputable def aO:Stmt:=top 37
noncomputable def nz:Stmt:=top 66
section
open PySem PySem.Spec PyProof.Rows L2 MM List Option
inductive Vw(K:Mx)(H:Hp)(O:List Addr):Rho->L2.St->Prop
 | nil:Vw K H O [] []
 | skip {M:Rho}{σ:L2.St}{z:Option V}:Vw K H O M σ->Vw K H O (none::M) (z::σ)
 | val {M:Rho}{σ:L2.St}{v:PV}{u:V}:Rep K (aj H O) v u->Vw K H O M σ->Vw K H O (sv v::M) (some u::σ)
 | brw {M:Rho}{σ:L2.St}{xs:List PV}{a:Addr}{us:List V}:SqL K H a us->Reps K (aj H O) xs us->Vw K H O M σ->Vw K H O (some (.brw xs)::M) (some (.ref a)::σ)
section
variable{K:Mx}{H:Hp}{O:List Addr}
theorem Vw.get:∀{M:Rho}{σ:L2.St}{i:Nat}{m:MV},Vw K H O M σ->M[i]?=some (some m)->eM m=false/\∃u,σ[i]?=some (some u)/\e_ K H O H m u:=by
 intro M σ i m h
 induction h generalizing i with
 |nil=>intro e;simp at e
 |skip _ ih =>
  intro e;cases i with
  |zero=>cases e
  |succ i=>exact ih e
 |val r _ ih =>
  intro e;cases i with
  |zero=>cases e;exact⟨rfl,_,rfl,r⟩
  |succ i=>exact ih e
 |brw s r _ ih =>
  intro e;cases i with
  |zero=>cases e;exact⟨rfl,_,rfl,_,_,rfl,s,r⟩
  |succ i=>exact ih e
theorem Vw.len{M:Rho}{σ:L2.St}(h:Vw K H O M σ):M.length=σ.length:=by
 induction h with
 |nil=>rfl
 |skip _ ih=>simp[ih]
 |val _ _ ih=>simp[ih]
 |brw _ _ _ ih=>simp[ih]
theorem Vw.st{M:Rho}{σ:L2.St}(h:Vw K H O M σ)(Y:∀a∈O,H a≠none):aN K H [] O H M σ where
 keep:=ai.refl H
 here:=Y
 sub:=λa J=>by cases J
 old:=λa J=>by cases J
 len:=h.len
 slot:=λi m e=>(h.get e).2
 apart:=λi j m m' a _ e _ o=>by rw[(h.get e).1]at o;cases o
 inn:=mK λi Z e=>by
  have:=(h.get e).1;cases this
end
noncomputable def tV(K:Mx)(cal:Cal)(me:ME):TE:=λσ H Q=>∃O M v,(∀a∈O,H a≠none)/\Vw K H O M σ/\ev cal me M=some v/\∀u H',ai H H'->Rep K (aj H' O) v u->Q u H'
noncomputable def tVB(K:Mx)(cal:Cal)(me:ME):TT:=λσ H Q=>∃O M b,(∀a∈O,H a≠none)/\Vw K H O M σ/\ev cal me M=some (.bl b)/\∀H',ai H H'->Q b H'
section
variable{X:Cx}{T:Tab}{k:Nat}{cal:Cal}
def Ip{me:ME}{e:Expr}(g:Gf X T k cal)(h:chk T me X.N X.env.scope e=true)(J:ba me=false):PE X e (tV X.K cal me):=
 (aw me g h).1.imp λσ H Q ⟨O,M,v,Y,vw,Z,q⟩=>⟨H,[],O,M,v,vw.st Y,Z,λu H' s g=>q u H' s (g.2 J)⟩
def Iq{me:ME}{e:Expr}(g:Gf X T k cal)(h:chk T me X.N X.env.scope e=true):PT X e (tVB X.K cal me):=
 (aw me g h).2.imp λσ H Q ⟨O,M,v,J,vw,Y,q⟩=>⟨H,[],O,M,v,vw.st J,by unfold evB;rw[Y];rfl,λH' s=>q H' s⟩
end
noncomputable def rX(K:Mx):Sp:=λvs H Q _=>∃(a:Addr) (ns:List Int),vs=[.ref a]/\ns.length<=63/\SqL K H a (ns.map V.int)/\∀H',Q (.bl true) H'
section
variable{T:Tab}{P:Program}{w:World}{K:Mx}{mg:Str->Option Value}{base:Heap}{ds:List MD}
def GY(Z:ds.length<=1000)(pr:nW T K mg ds){X:Cx}{n:Nat}(h1:X.prog=P)(h2:X.w=w)(h3:X.K=K)(h4:X.mg=mg)(h5:X.base=base)(h6:X.calm=true)(hr:iQ n X.A):Gf X T n (ab ds n):=by
 subst h1 h2 h3 h4 h5;have all:∀(f:Nat) (x:Str),T.fs[f]?=some x->∃(Y:Addr) (fd:FuncData) (J:MD),X.mg x=some (.ref Y)/\PySem.W.keepIn X.K (.ref Y)=true/\bE X.K fd J.params []/\BX T X.prog X.w X.K X.mg X.base ds n f Y fd J.params/\∀l,T.ds[f]?=some l->∃vs,bE X.K fd J.params vs/\aF (l.map Sc.v) vs:=λf' x hx=>by
  rw[pr.tab,Jb]at hx;cases hd2:ds[f']? with
  |none=>rw[hd2]at hx;cases hx
  |some J =>
   rw[hd2]at hx;cases hx;obtain⟨l2,a0,ao,ar,el,D2,bd⟩:=pr.defs.get hd2;exact⟨ao,ar,J,D2.named,D2.fn.kp,D2.binds,qg Z pr n f' J hd2 a0 ao ar D2,λl hl=>by rw[el]at hl;cases hl;exact bd⟩
 exact {
  calm:=h6
  room:=hr
  fns:=λf x hx=>by obtain⟨Y,fd,J,a1,a2,a3,a4,a5⟩:=all f x hx;exact⟨Y,fd,_,a1,a2,a3,a4.m,a5⟩
  blt:=pr.blt
  gs:=pr.gs
  fnsF:=λf x hx=>by obtain⟨Y,fd,J,a1,a2,a3,a4,a5⟩:=all f x hx;exact⟨Y,fd,_,a1,a2,a3,a4.f⟩ }
end
def dl:defs.length<=1000:=by decide
structure Fr(X:Cx)(N:List Str)(st:Stmt)(n:Nat):Prop where
 nn:X.N=N
 s:X.env.scope=ah st
 d:Df X
 g:Gf X tab n (ab defs n)
 x:∀e s,¬ X.xe e s
section
variable{X:Cx}{N:List Str}{st:Stmt}{n:Nat}
theorem Fr.of{P:Program}{w:World}{K:Mx}{mg:Str->Option Value}{base:Heap}{q:Str}{Y:Addr}{J:Value}{A:Around}{outer:List Env}{s:Shared}{H:Hp}{E:XK}{ps:List Str}(Z:nW tab K mg defs)(sc:dO N ps (ah st))(hr:iQ n (A.deeper (envOfC q (ah st) s.heap.objs.size Y J))) :
  Fr (cX CX0 P w K mg base N q (ah st) Y J A outer s H E).nox N st n:=
 ⟨rfl,rfl,⟨sc.nd,λ_=>rfl,PassesOwn.never,by
  have hk:(cX CX0 P w K mg base N q (ah st) Y J A outer s H E).nox.env.scope.kind=.function:=sc.kind;unfold Env.blockKind;rw[hk]
  rfl⟩,GY dl Z rfl rfl rfl rfl rfl rfl hr,λ_ _ z=>z⟩
theorem Fr.ss(l:Fr X N st n){ms:List MS}{ss:List Stmt}(h:chkSs tab N (ah st) ms ss=true):PSs X ss (tSs X.K (ab defs n) ms):=soundSs l.g l.d ms ss (by rw[l.nn,l.s];exact h)
theorem Fr.nm(l:Fr X N st n){i:Nat}{x:Str}{pos:Pos}(h:a7 N (ah st) i x=true):PE X (.Name x pos) (cN i):=cV (by rw[l.nn,l.s];exact h)
theorem Fr.v(l:Fr X N st n){me:ME}{e:Expr}(h:chk tab me N (ah st) e=true)(J:ba me=false:=by rfl):PE X e (tV X.K (ab defs n) me):=Ip l.g (by rw[l.nn,l.s];exact h) J
theorem Fr.t(l:Fr X N st n){me:ME}{e:Expr}(h:chk tab me N (ah st) e=true):PT X e (tVB X.K (ab defs n) me):=Iq l.g (by rw[l.nn,l.s];exact h)
theorem Fr.s1(l:Fr X N st n){m:MS}{s:Stmt}(h:gC tab N (ah st) m s=true):PS X s (tS X.K (ab defs n) m):=yQ l.g l.d m s (by rw[l.nn,l.s];exact h)
end
noncomputable def tSk(K:Mx)(cal:Cal)(ms:List MS)(u:TS):TS:=λD σ H=>∃B E O M C,aN K B E O H M σ/\exs cal ms M=.next C/\∀J H' Y,aN K B E Y H' C J->bZ B O Y M C σ J->u D J H'
section
variable{X:Cx}{cal:Cal}
def qw{b:List Stmt}{u:TS}(h:PSs X b u):PSs X b (tSk X.K cal [] u):=h.imp λD σ H ⟨B,E,O,M,C,st,e,q⟩=>by
 cases e;exact q σ H O st .refl
def b9{s:Stmt}{cE:List Stmt}{m:MS}{ms:List MS}{u:TS}(h1:PS X s (tS X.K cal m))(h2:PSs X cE (tSk X.K cal ms u)):PSs X (s::cE) (tSk X.K cal (m::ms) u):=(bm h1 h2).imp λD σ H ⟨B,E,O,M,C,st,e,q⟩=>by
 rw[ay]at e;cases J:ex cal m M with
 |next Y =>
  rw[J,bh]at e;refine⟨B,E,O,M,st,?_⟩;rw[J];exact λar H1 O1 Z k1=>⟨B,E,O1,Y,C,Z,e,λac H' O' ao k'=>q ac H' O' ao (k1.trans k')⟩
 | _=>rw[J]at e;cases e
end
section
variable{X:Cx}
theorem Fr.set{N:List Str}{st:Stmt}{n:Nat}{i:Nat}{x:Str}{px pos:Pos}{v:Expr}{te:TE}(l:Fr X N st n)(hi:N[i]?=some x)(hx:ij (ah st) x=true)(h:PE X v te)(hc:swapsWith v (some (.Name x px)) pos.line X.env=pure false):PS X (.Assign [.Name x px] v pos) (λD σ H=>te σ H λu H'=>D.nx (σ.set i (some u)) H'):=
 jQ l.d.nd (by rw[l.nn];exact hi) (by have:=il hx;rw[<- l.s]at this;exact this) h hc (.inl (l.d.fn x))
end
def nZ{a b:Prop}(h:a):if true=true then a else b:=by rw[if_pos rfl];exact h
def rY{a b:Prop}(h:b):if false=true then a else b:=by rw[if_neg (by decide)];exact h
def b_(H:Hp):aj H []=H:=by funext b;unfold aj;rw[if_neg (by simp)]
def le0{H:Hp}{M:List Addr}:ai (aj H M) (aj H []):=by rw[b_];exact be H M
def Fa{H G:Hp}{M:List Addr}(s:ai H G)(h:∀b∈M,H b=none):ai H (aj G M):=λb o e=>by
 rw[bp λz=>by rw[h b z]at e;cases e];exact s b o e
def no0{H:Hp}:∀a∈([]:List Addr),H a≠none:=λa h=>by cases h
noncomputable def fb:Stmt->List Stmt
 | .For _ _ b _ _=>b
 | .If _ b _ _=>b
 | _=>[]
def EK{X:Cx}{ss:List Stmt}{t u:TS}(h1:PSs X ss t)(h2:PSs X ss u):PSs X ss (λD σ H=>t D σ H\/u D σ H):=λpins s σ H D I q=>q.elim (h1 pins s σ H D I) (h2 pins s σ H D I)
def B7:dO gJ.names ["rests"] (ah cb):=⟨rfl,rfl,rfl,by decide +kernel,rfl,by decide +kernel,by decide +kernel⟩
noncomputable def GZ(K:Mx):Sp:=λvs H Q _=>∃(u:V) (D:List (LL)),vs=[u]/\Rep K H (.lst (D.map ofR)) u/\D.flatten.length<=10000 /\
 (D.flatten.length<64->∀v H',ai H H'->Rep K H' (ofR (sortT D.flatten)) v->Q v H')/\(64<=D.flatten.length->∀a us H',ai H H'->H' a=some (.tup us)->us.length=D.flatten.length->Q (.ref a) H')
section
variable{X:Cx}{T:Tab}{k:Nat}{cal:Cal}
noncomputable def EL(K:Mx)(cal:Cal)(me:ME):TE:=λσ H Q=>∃B E O M v xs J,aN K B E O H M σ/\ev cal me M=some v/\aZ v=some xs/\iM xs=some J/\64<=J.length/\J.length<=10000/\∀(a:Addr) (us:List V) (H':Hp),ai H H'->H' a=some (.tup us)->us.length=J.length->Q (.ref a) H'
def G0 {me:ME}{e:Expr}{p p1 p2 p3:Pos} (g:Gf X T k cal) (Y:glB X.env.scope ("tuple":Str)=true) (g2:glB X.env.scope ("sorted":Str)=true) (he:chk T me X.N X.env.scope e=true) (hs:aC e=true):PE X (.Call (.Name "tuple" p) [.Call (.Name "sorted" p1) [e] [] p2] [] p3) (EL X.K cal me):=by
 refine(dg fI (du Y) (g.blt "tuple" (by decide)) mW (aB (dX (pO (by have:=g.units;omega)) (du g2) (g.blt "sorted" (by decide)) kw (aB (aw me g he).1 aV (bH hs _ _)) (by decide) (by decide) (bH hs _ _) rfl) aV rfl) (by decide) (by decide) rfl rfl).imp λσ H Q q=>?_
 obtain⟨B,E,O,M,v,xs,ts,st,e1,e2,e3,l1,l2,q⟩:=q;have ex:=mJ e3;subst ex;refine⟨B,E,O,M,v,st,e1,λu H1 s1 Y=>?_⟩;obtain⟨a,ws,rfl,sq,rs⟩:=Y.1.seq e2;have hl:=rs.length;rw[IC]at hl;refine⟨a,ws,ts,rfl,sq,kn (be H1 O) (km rs),by omega,l2,λl J hf hw=>?_⟩;refine⟨l,J,rfl,.inl ⟨SqL.of aq,λt ht=>q t J _ (λb o eb=>?_) aq (by omega)⟩⟩;have Z:=s1 b o eb;have n1:b≠l:=λz=>by rw[z,hf]at Z;cases Z
 have e4:upd H1 l (.lst J) b=some o:=by rw[az n1];exact Z
 rw[az λz=>by rw[z,ht]at e4;cases e4];exact e4
end
theorem vg:∀F:LL,iM (F.map ofS)=some F
 | []=>rfl
 |t::F=>by
  show(bw (t.map .int)).bind (λx=>(iM (F.map ofS)).map (x::·))=_;rw[bo,bind_some,vg F]
  rfl
noncomputable abbrev EM:ME:=.call 0 [.bor 0]
def G1 {P:Program}{w:World}{K:Mx}{mg:Str->Option Value}{base:Heap}{J:Addr}{fd:FuncData}{n:Nat} (pr:nW tab K mg defs) (D:FnD K "together" "together" cb J fd):gX P w K mg base CX0 (n+2) J fd ["rests"] (GZ K):=by
 obtain⟨c0,d0,k0,o0,m0,a0,Y,t1,a1,sl,lk,Z,rfl⟩:=D.it;refine kK lk Z B7 (λvs H Q E h=>?_) (λA outer s H vs Q E hr h=>?_)
 .obtain⟨u,D,rfl,_⟩:=h
  rfl
 .obtain⟨u,D,rfl,r0,hl,q1,q2⟩:=h;have l:Fr (cX CX0 P w K mg base gJ.names "together" (ah cb) J Y A outer s H E).nox gJ.names cb (n+1):=Fr.of pr B7 hr;have fl:(D.map λG=>G.map ofS).flatten=D.flatten.map ofS:=by rw[Ly]
  have em:=tz ofR (λG=>G.map ofS) n (.lst (D.map ofR)) D rfl (λ_ _=>rfl) (by rw[fl,IC];exact hl);rw[fl]at em;have vw:Vw K H [] [sv (.lst (D.map ofR))] [some u]:=.val (by rw[b_];exact r0) .nil;have ee:ev (ab defs (n+1)) EM [sv (.lst (D.map ofR))]=some (.lst (D.flatten.map ofS)):=av (vs:=[.val (.lst (D.map ofR))]) rfl em;by_cases hs:D.flatten.length<64
  .refine⟨_,(show PSs _ (bb cb) _ from cI (iP (l.v (me:=.blt .tupleOf [(.blt .sorted [EM])]) (by kernel_rfl)))).nox,?_⟩;refine⟨[],_,ofR (sortT D.flatten),no0,vw,?_,λv H' s' r=>q1 hs v H' s' (by rw[b_]at r;exact r)⟩;rw[aI (v:=.lst ((sortT D.flatten).map ofS))]
   .rfl
   .rw[aI ee];exact kB hs
  .refine⟨_,(show PSs _ (bb cb) _ from cI (iP (G0 (me:=EM) l.g (by rw[l.s];decide +kernel) (by rw[l.s];decide +kernel) (by rw[l.nn,l.s];kernel_rfl) (by rfl)))).nox,?_⟩;exact⟨H,[],[],_,_,_,D.flatten,vw.st no0,ee,rfl,vg _,by omega,hl,λa us H' s' ha hu=>q2 (by omega) a us H' s' ha hu⟩
def B8:dO aG.names ["rows","rest"] (ah am):=⟨rfl,rfl,rfl,by decide +kernel,rfl,by decide +kernel,by decide +kernel⟩
noncomputable abbrev F(i:Nat):Stmt:=(bb am).getD i (.Pass ⟨0,0,0,0⟩)
noncomputable abbrev sfA:MS:=.set 2 (.comp .seq [.bor 0] [] (.cst (.bl true)) (ix 0 0))
noncomputable abbrev sfB:List MS:=[.ite (.or (.cmp .gt (.blt .len [.bor 3]) (.blt .len [.bor 1])) (.not (.call 16 [.bor 2]))) [.ret (.cst (.bl false))] [],.ret (.and (.call 10 [(.call 5 [.bor 1]),(.call 5 [.bor 3])]) (.call 13 [.bor 1,.bor 3]))]
noncomputable def Ir(K:Mx):Sp:=λvs H Q _=>∃(Y Z:V) (J:List (LL×PV)) (R:LL),vs=[Y,Z]/\Rep K H (.tup (J.map aE)) Y/\Rep K H (ofR R) Z/\bR R/\(∀r∈J,rW r)/\J.length<=8/\∀H',ai H H'->Q (.bl (dG (J.map (·.1)) R)) H'
def kI{R:LL}(g:bR R):R.flatten.length<=4000:=by
 have:∀{R:LL},(∀t∈R,t.length<=60)->R.flatten.length<=60*R.length:=λ{R}=>by
  induction R with
  |nil=>intro _;exact y4 _
  |cons t R ih =>
   intro h;have h1:=h t (.head _);have h2:=ih λu J=>h u (.tail _ J)
   rw[flatten_cons,IX,length_cons];omega
 have h:=this λt Y=>aY (g.1 t Y)
 have:=g.2.2;omega
def G2(n:Nat)(D:List (LL))(R:LL)(g:bR R)(Z:∀G∈D,bR G)(hl:D.length<=8)(hs:D.flatten.length<64)(x0:Option MV) :
  exs (ab defs (n+4)) sfB [x0,sv (ofR R),sv (.lst (D.map ofR)),sv (ofR (sortT D.flatten))]=.ret (.bl (dG D R)):=by
 have J:∀t∈D.flatten,b7 t:=λt ht=>by
  obtain⟨G,J,ht⟩:=La.mp ht;exact(Z G J).1 t ht
 have e2:=Bp (n+1) D (λG J=>⟨(Z G J).1,kI (Z G J)⟩) (by omega);have q1:ev (ab defs (n+4)) (.cmp .gt (.blt .len [.bor 3]) (.blt .len [.bor 1])) [x0,sv (ofR R),sv (.lst (D.map ofR)),sv (ofR (sortT D.flatten))]=some (.bl (decide (R.length<D.flatten.length))):=by
  simp[ev,evs,ofR,sortT_len,-length_flatten]
 have q2:ev (ab defs (n+4)) (.not (.call 16 [.bor 2])) [x0,sv (ofR R),sv (.lst (D.map ofR)),sv (ofR (sortT D.flatten))]=some (.bl (!decide (D.map ag).flatten.Nodup)):=B0 (av (vs:=[.val (.lst (D.map ofR))]) rfl e2);have Y:=tI q1 q2;unfold dG;cases h1:decide (R.length<D.flatten.length)with
 |true =>
  rw[h1]at Y;exact B3 Y (aW _ _ _)
 |false =>
  rw[h1]at Y;cases h2:decide (D.map ag).flatten.Nodup with
  |false =>
   rw[h2]at Y;exact B3 Y (aW _ _ _)
  |true =>
   rw[h2]at Y;have a3:=g.2.2;have ao:D.flatten.length<=60:=by have:=LY h1;omega
   have gT:=nv J ao;have e3:=i8 (n+2) R g.1 (kI g);have e4:=i8 (n+2) (sortT D.flatten) gT.1 (kI gT);have e5:=tG n R (sortT D.flatten) g gT;rw[rU]at e4;have l1:=aY (b8 g.1);have l2:=aY (b8 J);have e6:=kF (n+3) (.val (ofL (ag R))) (.val (ofL (ag D.flatten))) (ag R) (ag D.flatten) rfl rfl (by omega) (by omega) (IQ (iG _) l2);refine wc Y (B2 ?_);refine(iw (av (vs:=[.val (ofL (ag R)),.val (ofL (ag D.flatten))]) (zh (av (vs:=[.val (ofR R)]) rfl e3) (zh (av (vs:=[.val (ofR (sortT D.flatten))]) rfl e4) rfl)) e6) λ_=>av (vs:=[.val (ofR R),.val (ofR (sortT D.flatten))]) rfl e5).trans ?_
   rfl
def G3 {P:Program}{w:World}{K:Mx}{mg:Str->Option Value}{base:Heap}{fa fT:Addr}{fd a5:FuncData}{n:Nat} (pr:nW tab K mg defs) (D:FnD K "parts_stand_for" "parts_stand_for" am fa fd) (mT:mg ("together":Str)=some (.ref fT)) (DT:FnD K "together" "together" cb fT a5) (bT:bE K a5 ["rests"] []):gX P w K mg base CX0 (n+5) fa fd ["rows","rest"] (Ir K):=by
 obtain⟨c0,d0,k0,o0,m0,a0,Y,t1,a1,sl,lk,bc,rfl⟩:=D.it;refine kK lk bc B8 (λvs H Q E h=>?_) (λA outer s H vs Q E hr h=>?_)
 .obtain⟨u0,u1,J,R,rfl,_⟩:=h
  rfl
 .obtain⟨u0,u1,J,R,rfl,r0,r1,g,hp,hl,q⟩:=h;have l:Fr (cX CX0 P w K mg base aG.names "parts_stand_for" (ah am) fa Y A outer s H E).nox aG.names am (n+4):=Fr.of pr B8 hr;have FT:=G1 (P:=P) (w:=w) (base:=base) (n:=n+2) pr DT;have gT:Gl (cX CX0 P w K mg base aG.names "parts_stand_for" (ah am) fa Y A outer s H E).nox "together":=du (by rw[l.s];decide +kernel);have eB:bb am=[F 0,F 1,F 2,F 3]:=rfl;rw[eB];have p1:PS (cX CX0 P w K mg base aG.names "parts_stand_for" (ah am) fa Y A outer s H E).nox (F 1) (λD σ H=>lP (GZ K) [] E0 (cq (cN 2) d7) σ H λu H'=>D.nx (σ.set 3 (some u)) H'):=
   l.set (i:=3) (x:="strips") rfl (by decide +kernel) (iz FT l.g.room gT mT DT.kp bT .nil lU (aB (l.nm (i:=2) (x:="rests") (by decide +kernel)) aV)) (cw rfl _ _ _)
  have hm:(cX CX0 P w K mg base aG.names "parts_stand_for" (ah am) fa Y A outer s H E).nox.mg ("len":Str)=none:=l.g.blt _ (by simp[ik]);have gl:Gl (cX CX0 P w K mg base aG.names "parts_stand_for" (ah am) fa Y A outer s H E).nox "len":=du (by rw[l.s];decide +kernel);have a2:∀{i:Nat}{x:Str}{p p1 p2:Pos},a7 aG.names (ah am) i x=true->PE (cX CX0 P w K mg base aG.names "parts_stand_for" (ah am) fa Y A outer s H E).nox (.Call (.Name "len" p) [.Name x p1] [] p2) _:=λ{i x p p1 p2} hx=>dX gw gl hm qb (aB (l.nm (i:=i) (x:=x) hx) aV rfl) (by decide) (by decide) rfl rfl
  have pM:=show PSs (cX CX0 P w K mg base aG.names "parts_stand_for" (ah am) fa Y A outer s H E).nox [F 2,F 3] _ from bm (hX (BB (t6 (sJ l.g.units .gt) (a2 (i:=3) (x:="strips") (by decide +kernel)) (a2 (i:=1) (x:="rest") (by decide +kernel)) (lM _ (by decide) (by decide))) (wK (l.t (me:=.not (.call 16 [.bor 2])) (by kernel_rfl)))).pt (cI (iP BA)) dv) (show PSs (cX CX0 P w K mg base aG.names "parts_stand_for" (ah am) fa Y A outer s H E).nox [F 3] _ from l.ss (ms:=[sfB.getD 1 .never]) (by kernel_rfl))
  have bB:=b9 (l.s1 (m:=sfA) (s:=F 0) (by kernel_rfl)) (qw (bm p1 (EK pM (l.ss (ms:=sfB) (by kernel_rfl)))));refine⟨_,bB.nox,?_⟩;have c0:exs (ab defs (n+4)) [sfA] [sv (.tup (J.map aE)),sv (ofR R),none,none]=.next [sv (.tup (J.map aE)),sv (ofR R),sv (.lst ((J.map (·.1)).map ofR)),none]:=by
   refine dj (v:=.lst ((J.map (·.1)).map ofR)) ?_ rfl;rw[IZ];exact cy (vs:=[.tup (J.map aE)]) (xs:=J) (g:=aE) (by simp[evs,ev]) (by simp[bN]) (by omega) λr _=>by simp[ev,aE,place,db]
  refine⟨H,[],[],_,_,im (args:=[.val (.tup (J.map aE)),.val (ofR R)]) no0 (.cons (by show Rep K (aj H []) _ _;rw[b_];exact r0) (.cons (by show Rep K (aj H []) _ _;rw[b_];exact r1) .nil)),c0,λbG H1 O1 Z k1=>?_⟩;have hD:∀G∈J.map (·.1),bR G:=λG hG=>by
   obtain⟨r,hr,rfl⟩:=mem_map.mp hG;exact(hp r hr).1
  have bL:(J.map (·.1)).length<=8:=by rw[IC];exact hl
  have bM:∀D:List (LL),(∀G∈D,bR G)->D.flatten.length<=60*D.length:=λD=>by
   induction D with
   |nil=>intro _;exact y4 _
   |cons G D ih =>
    intro h;have h1:=(h G (.head _)).2.2;have h2:=ih λu hu=>h u (.tail _ hu)
    rw[flatten_cons,IX,length_cons];omega
  have hf:=bM _ hD;generalize J.map (·.1)=D at *
  have l0:bG.length=3+1:=Z.len.symm;obtain⟨a3,e1,aL⟩:=Z.slot 1 _ rfl;obtain⟨u2,e2,r2⟩:=Z.slot 2 _ rfl;have aL:Rep K (aj H1 O1) (ofR R) a3:=aL;have r2:Rep K (aj H1 O1) (.lst (D.map ofR)) u2:=r2;obtain⟨q0,dt,rfl,l1⟩:=aA l0;obtain⟨q1,d1,rfl,l2⟩:=aA l1;obtain⟨q2,d3,rfl,l3⟩:=aA l2;obtain⟨q3,ea,rfl,l4⟩:=aA l3;obtain rfl:=JJ.mp l4;cases e1;cases e2;refine⟨u2,rfl,u2,D,rfl,Rep.mono (be H1 O1) _ r2,by omega,λhs v H2 s2 r=>.inr ?_,λhm a us H2 s2 ha hu=>.inl ?_⟩
  .refine⟨H2,[],[],_,(Vw.skip (.val (Rep.mono ((ax s2).trans le0) _ aL) (.val (Rep.mono ((ax s2).trans le0) _ r2) (.val (by rw[b_];exact r) .nil)))).st no0,?_⟩;rw[G2 n D R g hD bL hs none];intro u H3 s3 r3;rw[Rep]at r3;subst r3;exact q H3 (Z.keep.trans (s2.trans s3))
  .have bO:R.length<D.flatten.length:=by have:=g.2.2;omega
   have hz:dG D R=false:=by unfold dG;rw[I0 bO];rfl
   rw[hz]at q;have ac:Rep K H2 (ofR R) a3:=Rep.mono ((be H1 O1).trans s2) _ aL;show gW _ _ _ [q0,some a3,some u2,some (.ref a)] H2;unfold ofR at ac;rw[Rep]at ac;obtain⟨ar,ur,rfl,sq,rs⟩:=ac;have bS:=rs.length;rw[IC]at bS;refine⟨_,rfl,a,us,rfl,.inr (SqT.of ha),_,rfl,ar,ur,rfl,.inr (SqT.of sq),[],.int us.length,.int ur.length,true,.inl (ce _ _),.inl (ce _ _),?_,true,rfl,?_⟩
   .show some (decide ((ur.length:Int)<us.length))=_;rw[I0 (by omega)]
   .exact q H2 (Z.keep.trans s2)
noncomputable def EN(K:Mx)(ws:List V):Sp:=λvs H Q _=>∃(Y Z:V) (J:List (LL×PV)) (R:LL),vs=Y::Z::ws/\Rep K H (cG J) Y/\Rep K H (ofR R) Z/\bR R/\(∀r∈J,rW r)/\J.length<=8/\∀H',ai H H'->Q (.bl (dG (J.map (·.1)) R&&J.all bOf)) H'
noncomputable abbrev G(i:Nat):Stmt:=(bb aO).getD i (.Pass ⟨0,0,0,0⟩)
def B9:dO aJ.names ["paper","rest","turn"] (ah aO):=⟨rfl,rfl,rfl,by decide +kernel,rfl,by decide +kernel,by decide +kernel⟩
def B_:dO iq.names ["paper","rest","turn","hand"] (ah d_):=⟨rfl,rfl,rfl,by decide +kernel,rfl,by decide +kernel,by decide +kernel⟩
noncomputable abbrev gmA:List MS:=aJ.body.take 6
section
variable{P:Program}{w:World}{K:Mx}{mg:Str->Option Value}{base:Heap}
def G4 {fa fS fT:Addr}{fd a2 a3:FuncData}{n:Nat} (pr:nW tab K mg defs) (D:FnD K "good_for_moth" "good_for_moth" aO fa fd) (mS:mg ("parts_stand_for":Str)=some (.ref fS)) (DS:FnD K "parts_stand_for" "parts_stand_for" am fS a2) (bS:bE K a2 ["rows","rest"] []) (mT:mg ("together":Str)=some (.ref fT)) (DT:FnD K "together" "together" cb fT a3) (bT:bE K a3 ["rests"] []):gX P w K mg base CX0 (n+11) fa fd ["paper","rest","turn"] (EN K [.str "weaver"]):=by
 obtain⟨c0,d0,k0,o0,m0,a0,Z,t1,a1,sl,lk,a8,rfl⟩:=D.it;refine kK lk a8 B9 (λvs H Q E h=>?_) (λA outer s H vs Q E hr h=>?_)
 .obtain⟨u0,u1,J,R,rfl,_⟩:=h
  rfl
 .obtain⟨u0,u1,J,R,rfl,r0,r1,g,hp,hl,q⟩:=h;have l:Fr (cX CX0 P w K mg base aJ.names "good_for_moth" (ah aO) fa Z A outer s H E).nox aJ.names aO (n+10):=Fr.of pr B9 hr;have FS:=G3 (P:=P) (w:=w) (base:=base) (n:=n+5) pr DS mT DT bT;have gS:Gl (cX CX0 P w K mg base aJ.names "good_for_moth" (ah aO) fa Z A outer s H E).nox "parts_stand_for":=du (by rw[l.s];decide +kernel);have eB:bb aO=[G 0,G 1,G 2,G 3,G 4,G 5,G 6,G 7]:=rfl;rw[eB];have p6:=show PSs (cX CX0 P w K mg base aJ.names "good_for_moth" (ah aO) fa Z A outer s H E).nox [G 6,G 7] _ from bm (hX (l.t (me:=.cmp .eq (.bor 3) (cs "parts")) (by kernel_rfl)) (cI (iP (wL (iz FS l.g.room gS mS DS.kp bS .nil lU (aB (l.v (me:=.idx (.bor 0) (ci 1)) (by kernel_rfl)) (aB (l.nm (i:=1) (x:="rest") (by decide +kernel)) aV))) (r_ (l.v (me:=.call 26 [(ix 0 1)]) (by kernel_rfl)))))) dv) (l.ss (ms:=[.ret (.cst (.bl false))]) (by kernel_rfl))
  have bc:PSs (cX CX0 P w K mg base aJ.names "good_for_moth" (ah aO) fa Z A outer s H E).nox [G 0,G 1,G 2,G 3,G 4,G 5,G 6,G 7] (tSk K (ab defs (n+10)) gmA _):=
   b9 (l.s1 (by kernel_rfl)) (b9 (l.s1 (by kernel_rfl)) (b9 (l.s1 (by kernel_rfl)) (b9 (l.s1 (by kernel_rfl)) (b9 (l.s1 (by kernel_rfl)) (b9 (l.s1 (by kernel_rfl)) (qw p6))))))
  refine⟨_,bc.nox,?_⟩;have c0:exs (ab defs (n+10)) gmA [sv (cG J),sv (ofR R),sv (.str "weaver"),none]=.next [sv (cG J),sv (ofR R),sv (.str "weaver"),sv (.str "parts")]:=rfl;refine⟨H,[],[],_,_,im (args:=[.val (cG J),.val (ofR R),.val (.str "weaver")]) no0 (.cons (by show Rep K (aj H []) _ _;rw[b_];exact r0) (.cons (by show Rep K (aj H []) _ _;rw[b_];exact r1) (.cons (lD (K:=K) (aj H []) "weaver") .nil))),c0,λbr H1 O1 Y k1=>?_⟩;have l0:br.length=3+1:=Y.len.symm;obtain⟨v0,e0,ar⟩:=Y.slot 0 _ rfl;obtain⟨v1,e1,ac⟩:=Y.slot 1 _ rfl;obtain⟨v3,e3,ao⟩:=Y.slot 3 _ rfl;have ar:Rep K (aj H1 O1) (cG J) v0:=ar;have ac:Rep K (aj H1 O1) (ofR R) v1:=ac;have ao:Rep K (aj H1 O1) (.str "parts") v3:=ao;rw[Rep]at ao;subst ao;obtain⟨q0,dV,rfl,l1⟩:=aA l0;obtain⟨q1,d2,rfl,l2⟩:=aA l1;obtain⟨q2,ea,rfl,l3⟩:=aA l2;obtain⟨q3,ec,rfl,l4⟩:=aA l3;obtain rfl:=JJ.mp l4;cases e0;cases e1;cases e3;have vw:∀{H2:Hp},ai H1 H2->Vw K H2 [] [sv (cG J),sv (ofR R),none,sv (.str "parts")] [some v0,some v1,q2,some (.str "parts")]:=λs=>.val (Rep.mono ((ax s).trans le0) _ ar) (.val (Rep.mono ((ax s).trans le0) _ ac) (.skip (.val (by rw[Rep]) .nil)))
  refine⟨[],_,true,no0,vw (ai.refl H1),rfl,λH2 s2=>nZ ?_⟩;have i1:∀M:Rho,(M[0]?).join=sv (cG J)->ev (ab defs (n+10)) (ix 0 1) M=some (.tup (J.map aE)):=λM h=>(fm (x:=cG J) (y:=.int 1) (by rw[ev,h];rfl) (aW _ _ _)).trans rfl
  refine⟨[],_,.tup (J.map aE),no0,vw s2,i1 _ rfl,λu2 H3 s3 r2=>⟨v1,rfl,u2,v1,J,R,rfl,by rw[b_]at r2;exact r2,Rep.mono ((be H1 O1).trans (s2.trans s3)) _ ac,g,hp,hl,λH4 s4=>⟨_,rfl,?_⟩⟩⟩;have sA:ai H H4:=Y.keep.trans (s2.trans (s3.trans s4));have eg:=zA (n+9) bOf J λr hr=>(zH (hp r hr) (n+3)).1
  cases hz:dG (J.map (·.1)) R with
  |false =>
   rw[hz]at q;exact rY (q H4 sA)
  |true =>
   rw[hz,L6]at q;refine nZ ⟨[],_,.bl (J.all bOf),no0,vw (s2.trans (s3.trans s4)),av (vs:=[.val (.tup (J.map aE))]) (GT (i1 _ rfl) rfl) eg,λu H5 s5 r5=>?_⟩;rw[Rep]at r5;subst r5;exact q H5 (sA.trans s5)
def G5 {Z fM fS fT:Addr}{fd ac ao ar:FuncData}{n:Nat} (pr:nW tab K mg defs) (D:FnD K "good" "good" d_ Z fd) (mM:mg ("good_for_moth":Str)=some (.ref fM)) (DM:FnD K "good_for_moth" "good_for_moth" aO fM ac) (bM:bE K ac ["paper","rest","turn"] []) (mS:mg ("parts_stand_for":Str)=some (.ref fS)) (DS:FnD K "parts_stand_for" "parts_stand_for" am fS ao) (bS:bE K ao ["rows","rest"] []) (mT:mg ("together":Str)=some (.ref fT)) (DT:FnD K "together" "together" cb fT ar) (bT:bE K ar ["rests"] []):gX P w K mg base CX0 (n+12) Z fd ["paper","rest","turn","hand"] (EN K [.str "weaver",.str "moth"]):=by
 obtain⟨c0,d0,k0,o0,m0,a0,Y,t1,a1,sl,lk,aL,rfl⟩:=D.it;refine kK lk aL B_ (λvs H Q E h=>?_) (λA outer s H vs Q E hr h=>?_)
 .obtain⟨u0,u1,J,R,rfl,_⟩:=h
  rfl
 .obtain⟨u0,u1,J,R,rfl,r0,r1,g,hp,hl,q⟩:=h;have l:Fr (cX CX0 P w K mg base iq.names "good" (ah d_) Z Y A outer s H E).nox iq.names d_ (n+11):=Fr.of pr B_ hr;have FM:=G4 (P:=P) (w:=w) (base:=base) (n:=n) pr DM mS DS bS mT DT bT;have a4:Gl (cX CX0 P w K mg base iq.names "good" (ah d_) Z Y A outer s H E).nox "good_for_moth":=du (by rw[l.s];decide +kernel);have eB:bb d_=[(bb d_).getD 0 (.Pass ⟨0,0,0,0⟩),(bb d_).getD 1 (.Pass ⟨0,0,0,0⟩)]:=rfl;rw[eB];have p0:=show PSs (cX CX0 P w K mg base iq.names "good" (ah d_) Z Y A outer s H E).nox [(bb d_).getD 0 (.Pass ⟨0,0,0,0⟩),(bb d_).getD 1 (.Pass ⟨0,0,0,0⟩)] _ from bm (hX (l.t (me:=.cmp .eq (.bor 3) (cs "moth")) (by kernel_rfl)) (cI (iP (iz FM l.g.room a4 mM DM.kp bM .nil lU (aB (l.nm (i:=0) (x:="paper") (by decide +kernel)) (aB (l.nm (i:=1) (x:="rest") (by decide +kernel)) (aB (l.nm (i:=2) (x:="turn") (by decide +kernel)) aV)))))) dv) (l.ss (ms:=[.ret (.call 24 [.bor 0,.bor 1,.bor 2])]) (by kernel_rfl))
  refine⟨_,p0.nox,?_⟩;refine⟨[],[none,none,none,sv (.str "moth")],true,no0,.skip (.skip (.skip (.val (by rw[Rep]) .nil))),rfl,λH1 s1=>nZ ?_⟩;exact⟨u0,rfl,u1,rfl,.str "weaver",rfl,u0,u1,J,R,rfl,Rep.mono s1 _ r0,Rep.mono s1 _ r1,g,hp,hl,λH' s'=>q H' (s1.trans s')⟩
end
structure J29(K:Mx)(D:List (LL))(R:LL)(P r:Addr)(bs:List Addr)(H:Hp):Prop where
 nd:(P::r::bs).Nodup
 p:H P=some (.lst (bs.map V.ref))
 len:bs.length=D.length
 b:∀(i:Nat) (a:Addr) (F:LL),bs[i]?=some a->D[i]?=some F->∃us,H a=some (.lst us)/\Reps K (aj H (P::r::bs)) (F.map ofS) us
 r:∃us,H r=some (.lst us)/\Reps K (aj H (P::r::bs)) (R.map ofS) us
section
variable{K:Mx}{D:List (LL)}{R:LL}{P r:Addr}{bs:List Addr}{H H':Hp}
theorem J29.mono(j:J29 K D R P r bs H)(s:ai H H'):J29 K D R P r bs H' where
 nd:=j.nd
 p:=s _ _ j.p
 len:=j.len
 b:=λi a F h1 h2=>let ⟨us,e,q⟩:=j.b i a F h1 h2;⟨us,s _ _ e,Reps.mono (ax s) _ q⟩
 r:=let ⟨us,e,q⟩:=j.r;⟨us,s _ _ e,Reps.mono (ax s) _ q⟩
theorem J29.lsts(j:J29 K D R P r bs H):∀a∈P::r::bs,∃us,H a=some (.lst us):=λa J=>by
 rcases IM.mp J with rfl|J
 .exact⟨_,j.p⟩
 rcases IM.mp J with rfl|J
 .obtain⟨us,e,_⟩:=j.r;exact⟨us,e⟩
 .obtain⟨i,hi,e⟩:=Lq J;have hd:i<D.length:=by rw[<- j.len];exact hi
  obtain⟨us,Y,_⟩:=j.b i a D[i] (by rw[IF hi,e]) (IF hd);exact⟨us,Y⟩
theorem J29.here(j:J29 K D R P r bs H):∀a∈P::r::bs,H a≠none:=λa J e=>by
 obtain⟨us,Y⟩:=j.lsts a J;rw[Y]at e;cases e
def J29.strip(j:J29 K D R P r bs H){t:List Int}{v:V}(h:Rep K (aj H []) (ofS t) v):Rep K (aj H (P::r::bs)) (ofS t) v:=by
 rw[b_]at h;show Rep K _ (.tup (t.map .int)) v;have h:Rep K H (.tup (t.map .int)) v:=h;rw[Rep]at h ⊢;obtain⟨a,us,rfl,e,q⟩:=h;refine⟨a,us,rfl,?_,?_⟩
 .rw[bp λz=>?_]
  .exact e
  .obtain⟨ws,J⟩:=j.lsts a z;rw[J]at e;cases e
 .have:=Reps.ints q;subst this;exact Reps.of_ints t
theorem nA:∀{D:List (LL)}{bs:List Addr},bs.length=D.length->(∀(i:Nat) (a:Addr) (F:LL),bs[i]?=some a->D[i]?=some F->Rep K H (.lst (F.map ofS)) (.ref a))->Reps K H (D.map λF=>PV.lst (F.map ofS)) (bs.map V.ref)
 | [],[],_,_=>.nil
 |F::D,a::bs,J,h=>.cons (h 0 a F rfl rfl) (nA (by simpa using J) λi a F h1 h2=>h (i+1) a F h1 h2)
 | [],_::_,J,_=>by cases J
 | _::_,[],J,_=>by cases J
theorem J29.repF(j:J29 K D R P r bs H){i:Nat}{a:Addr}{F:LL}(h1:bs[i]?=some a)(h2:D[i]?=some F):Rep K (aj H []) (.lst (F.map ofS)) (.ref a):=by
 obtain⟨us,e,q⟩:=j.b i a F h1 h2;rw[Rep];exact⟨_,us,rfl,SqL.of (by rw[b_];exact e),Reps.mono le0 _ q⟩
theorem J29.repD(j:J29 K D R P r bs H):Rep K (aj H []) (aX D) (.ref P):=by
 unfold aX;rw[Rep];exact⟨_,_,rfl,SqL.of (by rw[b_];exact j.p),nA j.len λi a F h1 h2=>j.repF h1 h2⟩
theorem J29.repR(j:J29 K D R P r bs H):Rep K (aj H []) (.lst (R.map ofS)) (.ref r):=by
 obtain⟨us,e,q⟩:=j.r;rw[Rep];exact⟨_,us,rfl,SqL.of (by rw[b_];exact e),Reps.mono le0 _ q⟩
theorem J29.ne(j:J29 K D R P r bs H):P≠r/\P∉bs/\r∉bs/\bs.Nodup:=by
 obtain⟨h1,h2⟩:=Ji.mp j.nd;obtain⟨J,Y⟩:=Ji.mp h2;exact⟨λz=>h1 (z▸J6),λz=>h1 (JG _ z),J,Y⟩
theorem J29.setP(j:J29 K D R P r bs H){i:Nat}{a:Addr}(h1:bs[i]?=some a){F:LL}{us:List V}(q:Reps K (aj H (P::r::bs)) (F.map ofS) us):J29 K (D.set i F) R P r bs (upd H a (.lst us)):=by
 obtain⟨n1,n2,n3,n4⟩:=j.ne;have Z:=JA h1;have hh:aj (upd H a (.lst us)) (P::r::bs)=aj H (P::r::bs):=fj (.tail _ (.tail _ Z));have ac:P≠a:=λz=>n2 (z▸Z)
 have ao:r≠a:=λz=>n3 (z▸Z)
 refine⟨j.nd,by rw[az ac];exact j.p,by rw[JW];exact j.len,λk c G J Y=>?_,?_⟩
 .rw[hh];by_cases hk:i=k
  .subst hk;rw[h1]at J;cases J;have hi:i<D.length:=by rw[<- j.len];exact(II.mp h1).1
   rw[Jq hi]at Y;cases Y;exact⟨us,aq,q⟩
  .rw[IV hk]at Y;obtain⟨ws,e3,q3⟩:=j.b k c G J Y;have hc:c≠a:=λz=>hk (by
    subst z;obtain⟨l1,g1⟩:=II.mp h1;obtain⟨l2,g2⟩:=II.mp J;exact(getElem_inj n4).mp (g1.trans g2.symm))
   exact⟨ws,by rw[az hc];exact e3,q3⟩
 .obtain⟨ws,e3,q3⟩:=j.r;rw[hh];exact⟨ws,by rw[az ao];exact e3,q3⟩
theorem J29.setR(j:J29 K D R P r bs H){Y:LL}{us:List V}(q:Reps K (aj H (P::r::bs)) (Y.map ofS) us):J29 K D Y P r bs (upd H r (.lst us)):=by
 obtain⟨n1,n2,n3,n4⟩:=j.ne;have Z:aj (upd H r (.lst us)) (P::r::bs)=aj H (P::r::bs):=fj (.tail _ (.head _));refine⟨j.nd,by rw[az n1];exact j.p,j.len,λk c G e1 e2=>?_,⟨us,aq,by rw[Z];exact q⟩⟩;obtain⟨ws,e3,q3⟩:=j.b k c G e1 e2;rw[Z];have J:c≠r:=λz=>n3 (z▸JA e1)
 exact⟨ws,by rw[az J];exact e3,q3⟩
theorem J29.new(j:J29 K D R P r bs H){p:Addr}(hp:H p=none):J29 K (D++[[]]) R P r (bs++[p]) (upd (upd H p (.lst [])) P (.lst (bs.map V.ref++[.ref p]))):=by
 obtain⟨n1,n2,n3,n4⟩:=j.ne;have np:∀c∈P::r::bs,c≠p:=λc hc z=>j.here c hc (z▸hp)
 have nP:=np P (.head _);have nr:=np r (.tail _ (.head _));have Z:ai (aj H (P::r::bs)) (aj (upd (upd H p (.lst [])) P (.lst (bs.map V.ref++[.ref p]))) (P::r::(bs++[p]))):=λc o ec=>by
  have hc:c∉P::r::bs:=λz=>by rw[lx z]at ec;cases ec
  rw[bp hc]at ec;have ao:c≠p:=bt ec hp;have J:c≠P:=λz=>hc (z ▸ .head _)
  rw[bp λz=>?_,az J,az ao]
  .exact ec
  .rcases IM.mp z with z|z
   .exact J z
   rcases IM.mp z with z|z
   .exact hc (z ▸ .tail _ (.head _))
   rcases JM.mp z with z|z
   .exact hc (.tail _ (.tail _ z))
   .exact ao (Jd.mp z)
 refine⟨?_,by rw[aq,Jo];rfl,by rw[IX,IX,j.len];rfl,λk c G Y e2=>?_,?_⟩
 .have h:=j.nd;rw[<- cons_append,<- cons_append,Lm];exact⟨h,by simp,λa ha b hb z=>np a ha (by rw[z];exact Jd.mp hb)⟩
 .by_cases hk:k<bs.length
  .rw[Kd hk]at Y;rw[Kd (by rw[<- j.len];exact hk)]at e2;obtain⟨ws,e3,q3⟩:=j.b k c G Y e2;have hc:=JA Y;have J:c≠P:=λz=>n2 (z▸hc)
   exact⟨ws,by rw[az J,az (np c (.tail _ (.tail _ hc)))];exact e3,Reps.mono Z _ q3⟩
  .rw[Ka (by omega)]at Y;rw[Ka (by rw[<- j.len];omega),<- j.len]at e2;have a2:k-bs.length=0:=by
    have:=(II.mp Y).1;simp at this;omega
   rw[a2]at Y e2;cases Y;cases e2;exact⟨[],by rw[az (JF nP),aq],.nil⟩
 .obtain⟨ws,e3,q3⟩:=j.r;exact⟨ws,by rw[az (JF n1),az nr];exact e3,Reps.mono Z _ q3⟩
def jN{xs ys:List PV}{us ws:List V}(h:Reps K H xs us)(h':Reps K H ys ws):Reps K H (xs++ys) (us++ws):=by
 induction xs generalizing us with
 |nil=>rw[Reps]at h;subst h;exact h'
 |cons x xs ih =>
  rw[Reps]at h;obtain⟨u,r,rfl,h1,h2⟩:=h;exact .cons h1 (ih h2)
def wu{xs:List PV}{us:List V}(h:Reps K H xs us)(k:Nat):Reps K H (xs.take k) (us.take k):=by
 induction xs generalizing us k with
 |nil=>rw[Reps]at h;subst h;rw[take_nil,take_nil];exact .nil
 |cons x xs ih =>
  rw[Reps]at h;obtain⟨u,r,rfl,h1,h2⟩:=h;cases k with
  |zero=>exact .nil
  |succ k=>exact .cons h1 (ih h2 k)
def tL{xs:List PV}{us:List V}(h:Reps K H xs us)(k:Nat):Reps K H (xs.eraseIdx k) (us.eraseIdx k):=by
 induction xs generalizing us k with
 |nil=>rw[Reps]at h;subst h;rw[eraseIdx_nil,eraseIdx_nil];exact .nil
 |cons x xs ih =>
  rw[Reps]at h;obtain⟨u,r,rfl,h1,h2⟩:=h;cases k with
  |zero=>exact h2
  |succ k=>exact .cons h1 (ih h2 k)
theorem rZ{xs:List PV}{us:List V}(h:Reps K H xs us):∀k:Nat,Reps K H (replicate k xs).flatten (replicate k us).flatten
 |0=>.nil
 |k+1=>by rw[replicate_succ,replicate_succ,flatten_cons,flatten_cons];exact jN h (rZ h k)
end
def Ca:dO bz.names ["parts","rest","way"] (ah aU):=⟨rfl,rfl,rfl,by decide +kernel,rfl,by decide +kernel,by decide +kernel⟩
noncomputable abbrev T(i:Nat):Stmt:=(bb aU).getD i (.Pass ⟨0,0,0,0⟩)
noncomputable abbrev U(i k:Nat):Stmt:=(fb (T i)).getD k (.Pass ⟨0,0,0,0⟩)
noncomputable abbrev wq(k:Int):ME:=.cmp .eq (.bin .mod (.bor 2) (ci 16)) (ci k)
noncomputable abbrev w64(e:ME):ME:=.bin .mod (.bin .fdiv (.bor 2) (ci 64)) e
noncomputable abbrev jO:ME:=.blt .tupleOf [(.blt .sorted [(.lst [(ci 0),(.bin .sub (.bin .mul (ci 10) (.bor 3)) (ci 9))])])]
noncomputable abbrev iy:ME:=.blt .len [.bor 1]
noncomputable abbrev mAt:ME:=.bin .mod (.bin .fdiv (.bor 2) (ci 16)) (.bor 3)
noncomputable abbrev kJ (K:Mx) (J tv:TE):TS:=fw (tBM K "list" eI (tOp (An K) (cN 0) J) (cq tv d7))
noncomputable abbrev gp (K:Mx) (tv:TE):TS:=fw (tBM K "list" eI (cN 1) (cq tv d7))
noncomputable abbrev c38:Cal:=ab defs 38
noncomputable abbrev tEx(K:Mx):TE:=tOp FH (tSl (FF K) (cN 5) t8 (BE (tC (.int 1)))) (tV K c38 (.bin .sub (ci 60) (.blt .len [.bor 5])))
noncomputable abbrev tT8 (K:Mx):TS:=Ad (BD K (cN 0)) (hZ 5) (fw (tBM K "list" pC (cN 5) (cq (tEx K) d7)))
noncomputable abbrev tLT(K:Mx):TS:=
 gW (λD σ H=>tV K c38 (.blt .len [.bor 0]) σ H λu H'=>D.nx (σ.set 3 (some u)) H')
 (gW (λD σ H=>tV K c38 mAt σ H λu H'=>D.nx (σ.set 4 (some u)) H')
 (gW (fu (tVB K c38 (wq 1)) (gW (kJ K (tV K c38 (.bin .sub (.bor 3) (ci 1))) (tV K c38 jO)) (gp K (tV K c38 jO))) cW)
 (gW (fu (tVB K c38 (.and (wq 2) (.cmp .gt (.blt .len [(.idx (.bor 0) (.bor 4))]) (ci 0)))) (kJ K (cN 4) (tV K c38 (.idx (.idx (.bor 0) (.bor 4)) (ci 0)))) cW)
 (gW (fu (tVB K c38 (.and (wq 3) (.cmp .gt iy (ci 0)))) (gW (kJ K (cN 4) (tV K c38 (.tup [(ci 57),(ci 58)]))) (gp K (tV K c38 (.idx (.bor 1) (w64 iy))))) cW)
 (gW (fu (tVB K c38 (wq 4)) (gp K (tV K c38 (.tup [(.bin .add (.bin .mul (ci 10) (.bor 4)) (w64 (ci 6)))]))) cW)
 (gW (fu (tVB K c38 (.and (wq 5) (.cmp .gt iy (ci 0)))) (fw (tBM K "list" L2.lT (cN 1) (cq (tV K c38 (w64 iy)) d7))) cW)
 (gW (fu (tVB K c38 (wq 6)) (fw (tBM K "list" eI (cN 0) (cq (vt d7) d7))) cW)
 (fu (tVB K c38 (wq 8)) (tT8 K) cW))))))))
section
variable{X:Cx}
def zK(l:Fr X bz.names aU 38){e v:Expr}{J tv:TE}{x:Str}{Y p1 p2 p3 p4:Pos}(hx:a7 bz.names (ah aU) 0 x=true)(hi:PE X e J)(hs:pq e)(hv:PE X v tv)(Z:(p2.endLine==p3.line)=true)(h1:starEach [v] X.env=(false,eval v X.env)::starEach [] X.env)(h2:((backTo p3 (starEach [v] X.env)).all (λx=>!x.1)&&(backToKw p3 (keywordEach [] X.env)).all (λx=>x.1.isSome)&&decide ([v].length+([]:List Keyword).length+(if ([]:List Keyword).isEmpty then 0 else 1)<30))=true) :
  PS X (.Expr (.Call (.Attribute (.Subscript (.Name x Y) e p1) "append" p2) [v] [] p3) p4) (kJ X.K J tv):=
 eF (kM PySem.F.plainAttrs_list PySem.F.slot_list_append PySem.F.type_list_append eP (wX pz (l.nm hx) hi hs) (aB hv aV h1) rfl h2 Z h1 rfl) rfl
def tM(l:Fr X bz.names aU 38){v:Expr}{tv:TE}{x:Str}{J p2 p3 p4:Pos}(hx:a7 bz.names (ah aU) 1 x=true)(hv:PE X v tv)(Y:(p2.endLine==p3.line)=true)(h1:starEach [v] X.env=(false,eval v X.env)::starEach [] X.env)(h2:((backTo p3 (starEach [v] X.env)).all (λx=>!x.1)&&(backToKw p3 (keywordEach [] X.env)).all (λx=>x.1.isSome)&&decide ([v].length+([]:List Keyword).length+(if ([]:List Keyword).isEmpty then 0 else 1)<30))=true) :
  PS X (.Expr (.Call (.Attribute (.Name x J) "append" p2) [v] [] p3) p4) (gp X.K tv):=
 eF (kM PySem.F.plainAttrs_list PySem.F.slot_list_append PySem.F.type_list_append eP (l.nm hx) (aB hv aV h1) rfl h2 Y h1 rfl) rfl
def Iu(l:Fr X bz.names aU 38):PSs X [T 0,T 1,T 2,T 3,T 4,T 5,T 6,T 7,T 8] (tLT X.K):=by
 have p0:PS X (T 0) (λD σ H=>tV X.K c38 (.blt .len [.bor 0]) σ H λu H'=>D.nx (σ.set 3 (some u)) H'):=l.set (i:=3) (x:="many") rfl (by decide +kernel) (l.v (by kernel_rfl)) (cw rfl _ _ _);have p1:PS X (T 1) (λD σ H=>tV X.K c38 mAt σ H λu H'=>D.nx (σ.set 4 (some u)) H'):=l.set (i:=4) (x:="at") rfl (by decide +kernel) (l.v (by kernel_rfl)) (cw rfl _ _ _);have J:PS X (U 2 0) (kJ X.K (tV X.K c38 (.bin .sub (.bor 3) (ci 1))) (tV X.K c38 jO)):=zK l (x:="parts") (by decide +kernel) (l.v (by kernel_rfl)) (λ_ _=>rfl) (l.v (by kernel_rfl)) rfl rfl rfl;have Y:PS X (U 2 1) (gp X.K (tV X.K c38 jO)):=tM l (x:="rest") (by decide +kernel) (l.v (by kernel_rfl)) rfl rfl rfl;have p2:PS X (T 2) (fu (tVB X.K c38 (wq 1)) (gW (kJ X.K (tV X.K c38 (.bin .sub (.bor 3) (ci 1))) (tV X.K c38 jO)) (gp X.K (tV X.K c38 jO))) cW):=hX (l.t (by kernel_rfl)) (show PSs X [U 2 0,U 2 1] _ from bm J (cI Y)) dv;have Z:PS X (U 3 0) (kJ X.K (cN 4) (tV X.K c38 (.idx (.idx (.bor 0) (.bor 4)) (ci 0)))):=zK l (x:="parts") (by decide +kernel) (l.nm (i:=4) (x:="at") (by decide +kernel)) (λ_ _=>rfl) (l.v (by kernel_rfl)) rfl rfl rfl;have p3:PS X (T 3) (fu (tVB X.K c38 (.and (wq 2) (.cmp .gt (.blt .len [(.idx (.bor 0) (.bor 4))]) (ci 0)))) (kJ X.K (cN 4) (tV X.K c38 (.idx (.idx (.bor 0) (.bor 4)) (ci 0)))) cW):=hX (l.t (by kernel_rfl)) (show PSs X [U 3 0] _ from cI Z) dv;have ac:PS X (U 4 0) (kJ X.K (cN 4) (tV X.K c38 (.tup [(ci 57),(ci 58)]))):=zK l (x:="parts") (by decide +kernel) (l.nm (i:=4) (x:="at") (by decide +kernel)) (λ_ _=>rfl) (l.v (by kernel_rfl)) rfl rfl rfl;have ao:PS X (U 4 1) (gp X.K (tV X.K c38 (.idx (.bor 1) (w64 iy)))):=tM l (x:="rest") (by decide +kernel) (l.v (by kernel_rfl)) rfl rfl rfl;have p4:PS X (T 4) (fu (tVB X.K c38 (.and (wq 3) (.cmp .gt iy (ci 0)))) (gW (kJ X.K (cN 4) (tV X.K c38 (.tup [(ci 57),(ci 58)]))) (gp X.K (tV X.K c38 (.idx (.bor 1) (w64 iy))))) cW):=hX (l.t (by kernel_rfl)) (show PSs X [U 4 0,U 4 1] _ from bm ac (cI ao)) dv;have ar:PS X (U 5 0) (gp X.K (tV X.K c38 (.tup [(.bin .add (.bin .mul (ci 10) (.bor 4)) (w64 (ci 6)))]))):=tM l (x:="rest") (by decide +kernel) (l.v (by kernel_rfl)) rfl rfl rfl;have p5:PS X (T 5) (fu (tVB X.K c38 (wq 4)) (gp X.K (tV X.K c38 (.tup [(.bin .add (.bin .mul (ci 10) (.bor 4)) (w64 (ci 6)))]))) cW):=hX (l.t (by kernel_rfl)) (show PSs X [U 5 0] _ from cI ar) dv;have aL:PS X (U 6 0) (fw (tBM X.K "list" L2.lT (cN 1) (cq (tV X.K c38 (w64 iy)) d7))):=eF (kM PySem.F.plainAttrs_list PySem.F.slot_list_pop PySem.F.type_list_pop L2.w_ (l.nm (i:=1) (x:="rest") (by decide +kernel)) (aB (l.v (by kernel_rfl)) aV)) rfl;have p6:PS X (T 6) (fu (tVB X.K c38 (.and (wq 5) (.cmp .gt iy (ci 0)))) (fw (tBM X.K "list" L2.lT (cN 1) (cq (tV X.K c38 (w64 iy)) d7))) cW):=hX (l.t (by kernel_rfl)) (show PSs X [U 6 0] _ from cI aL) dv;have a0:PS X (U 7 0) (fw (tBM X.K "list" eI (cN 0) (cq (vt d7) d7))):=eF (kM PySem.F.plainAttrs_list PySem.F.slot_list_append PySem.F.type_list_append eP (l.nm (i:=0) (x:="parts") (by decide +kernel)) (aB (lO aV) aV)) rfl;have p7:PS X (T 7) (fu (tVB X.K c38 (wq 6)) (fw (tBM X.K "list" eI (cN 0) (cq (vt d7) d7))) cW):=hX (l.t (by kernel_rfl)) (show PSs X [U 7 0] _ from cI a0) dv;have a1:PS X (U 8 0) (tT8 X.K):=sf l.d.own l.g.calm (pj (l.nm (i:=0) (x:="parts") (by decide +kernel))) (lq l.d.nd (by rw[l.nn];rfl) (by have:=il (x:="part") (show ij (ah aU) "part"=true by decide +kernel);rw[<- l.s]at this;exact this) (.inl (l.d.fn _)))
  (cI (eF (kM PySem.F.plainAttrs_list PySem.F.slot_list_extend PySem.F.type_list_extend vz (l.nm (i:=5) (x:="part") (by decide +kernel)) (aB (wQ CK (qH ub (l.nm (i:=5) (x:="part") (by decide +kernel)) t9 (t_ wH)) (l.v (by kernel_rfl))) aV)) rfl))
 have p8:PS X (T 8) (fu (tVB X.K c38 (wq 8)) (tT8 X.K) cW):=hX (l.t (by kernel_rfl)) (show PSs X [U 8 0] _ from cI a1) dv;exact bm p0 (bm p1 (bm p2 (bm p3 (bm p4 (bm p5 (bm p6 (bm p7 (cI p8))))))))
end
structure I29(m n k:Nat)(D:List (LL))(R:LL):Prop where
 l0:0<D.length
 lm:D.length<=m
 d:∀F∈D,F.length<=n/\Sm F
 r:Sm R
 rl:R.length<=k
theorem I29.up{m n k J Y Z:Nat}{D:List (LL)}{R:LL}(h:I29 m n k D R)(a:m<=J)(b:n<=Y)(c:k<=Z):I29 J Y Z D R:=⟨h.l0,IQ h.lm a,λF hF=>⟨IQ (h.d F hF).1 b,(h.d F hF).2⟩,h.r,IQ h.rl c⟩
theorem I29.app{m n k:Nat}{D:List (LL)}{R:LL}(h:I29 m n k D R){i:Nat}{F:LL}(Z:D[i]?=some F){t:List Int}(g:b7 t):I29 m (n+1) k (D.set i (F++[t])) R:=by
 have Y:=JA Z;refine⟨by rw[JW];exact h.l0,by rw[JW];exact h.lm,λG J=>?_,h.r,h.rl⟩;rcases Kz J with J|rfl
 .exact⟨by have:=(h.d G J).1;omega,(h.d G J).2⟩
 .exact⟨by rw[IX,length_singleton];have:=(h.d F Y).1;omega,(h.d F Y).2.add g⟩
theorem I29.addR{m n k:Nat}{D:List (LL)}{R:LL}(h:I29 m n k D R){t:List Int}(g:b7 t):I29 m n (k+1) D (R++[t]):=⟨h.l0,h.lm,h.d,h.r.add g,by rw[IX,length_singleton];have:=h.rl;omega⟩
noncomputable def st5(P r:Addr)(Y J at_:Int)(z:Option V):L2.St:=[some (.ref P),some (.ref r),some (.int Y),some (.int J),some (.int at_),z]
noncomputable abbrev rh5(D:List (LL))(R:LL)(Y J at_:Int):Rho:=[sv (aX D),sv (.lst (R.map ofS)),sv (.int Y),sv (.int J),sv (.int at_),none]
section
variable{K:Mx}{D:List (LL)}{R:LL}{P r:Addr}{bs:List Addr}{H:Hp}
theorem J29.view(j:J29 K D R P r bs H){Y J at_:Int}{z:Option V}:Vw K H [] (rh5 D R Y J at_) (st5 P r Y J at_ z):=
 .val j.repD (.val j.repR (.val (by rw[Rep]) (.val (by rw[Rep]) (.val (by rw[Rep]) (.skip .nil)))))
def nB{n:Nat}(h:n<10000):n<sizeLine:=IK h (by decide)
def tO(j:J29 K D R P r bs H){σ:L2.St}(h0:σ[0]?=some (some (.ref P))){i:Nat}{a:Addr}{F:LL}(Y:bs[i]?=some a)(hD:D[i]?=some F)(hl:F.length<10000){t:List Int}{ti tv:TE}{Q:VK}
  (hi:∀(J:VK),(∀H',ai H H'->J (.int (i:Nat)) H')->ti σ H J)
  (hv:∀H1,J29 K D R P r bs H1->∀(J:VK),(∀v H',ai H1 H'->Rep K (aj H' []) (ofS t) v->J v H')->tv σ H1 J)
  (q:∀H',J29 K (D.set i (F++[t])) R P r bs H'->Q .non H'):tBM K "list" eI (tOp (An K) (cN 0) ti) (cq tv d7) σ H Q:=by
 refine⟨_,h0,hi _ λH1 s1=>?_⟩;have Z:=j.mono s1;obtain⟨us,e,_⟩:=Z.b i a F Y hD;refine⟨P,bs.map V.ref,((i:Nat):Int),.ref a,rfl,rfl,SqL.of Z.p,Am (by rw[Jb,Y];rfl),.inl ⟨rfl,us,SqL.of e⟩,hv H1 Z _ λv H2 s2 rv=>?_⟩;have j2:=Z.mono s2;obtain⟨ws,e2,q2⟩:=j2.b i a F Y hD;have hw:=q2.length;rw[IC]at hw;refine⟨a,ws,v,rfl,rfl,e2,nB (by omega),q _ (j2.setP Y ?_)⟩;rw[Jo];exact jN q2 (.cons (j2.strip rv) .nil)
def qx(j:J29 K D R P r bs H){σ:L2.St}(h1:σ[1]?=some (some (.ref r)))(hl:R.length<10000){t:List Int}{tv:TE}{Q:VK}
  (hv:∀(Y:VK),(∀v H',ai H H'->Rep K (aj H' []) (ofS t) v->Y v H')->tv σ H Y)
  (q:∀H',J29 K D (R++[t]) P r bs H'->Q .non H'):tBM K "list" eI (cN 1) (cq tv d7) σ H Q:=by
 obtain⟨us,e,_⟩:=j.r;refine⟨_,h1,.inl ⟨rfl,us,SqL.of e⟩,hv _ λv H2 s2 rv=>?_⟩;have J:=j.mono s2;obtain⟨ws,e2,Z⟩:=J.r;have hw:=Z.length;rw[IC]at hw;refine⟨r,ws,v,rfl,rfl,e2,nB (by omega),q _ (J.setR ?_)⟩;rw[Jo];exact jN Z (.cons (J.strip rv) .nil)
def nE(j:J29 K D R P r bs H){Y J at_:Int}{z:Option V}{me:ME}{v:PV}(e:ev c38 me (rh5 D R Y J at_)=some v){Q:VK}(q:∀u H',ai H H'->Rep K (aj H' []) v u->Q u H'):tV K c38 me (st5 P r Y J at_ z) H Q:=
 ⟨[],_,v,no0,j.view,e,q⟩
def nF(j:J29 K D R P r bs H){Y J at_:Int}{z:Option V}{me:ME}{b:Bool}(e:ev c38 me (rh5 D R Y J at_)=some (.bl b)){Q:Bool->Hp->Prop}(q:∀H',J29 K D R P r bs H'->Q b H'):tVB K c38 me (st5 P r Y J at_ z) H Q:=
 ⟨[],_,b,no0,j.view,e,λH' s=>q H' (j.mono s)⟩
def Cb(j:J29 K D R P r bs H){Y J at_:Int}{z:Option V}{me:ME}{i:Int}(e:ev c38 me (rh5 D R Y J at_)=some (.int i)){Q:VK}(q:∀H',ai H H'->Q (.int i) H'):tV K c38 me (st5 P r Y J at_ z) H Q:=
 nE j e λu H' s Z=>by
  rw[Rep]at Z;subst Z;exact q H' s
def tP{M:Rho}{J k:Int}(h:(M[2]?).join=sv (.int J)):ev c38 (wq k) M=some (.bl (J % 16==k)):=jH (by rw[ev,h];rfl) (by decide)
def zL{M:Rho}(h:(M[1]?).join=sv (.lst (R.map ofS))):ev c38 iy M=some (.int (R.length:Nat)):=by
 rw[aI (v:=.lst (R.map ofS)) (by rw[ev,h];rfl)];show some (PV.int ((R.map ofS).length:Nat))=_;rw[IC]
def zM{M:Rho}(h:(M[1]?).join=sv (.lst (R.map ofS))):ev c38 (.cmp .gt iy (ci 0)) M=some (.bl (decide (0<(R.length:Int)))):=(cz (zL h) (aW _ _ _)).trans rfl
def G6{M:Rho}{J:Int}(h2:(M[2]?).join=sv (.int J))(h:(M[1]?).join=sv (.lst (R.map ofS)))(Z:0<R.length):∃k:Nat,k<R.length/\ev c38 (w64 iy) M=some (.int (k:Nat)):=by
 have Y:0<(R.length:Int):=by omega
 have q0:0<=J / 64 % (R.length:Int):=Jv _ (by omega);have q1:J / 64 % (R.length:Int)<R.length:=Jm _ Y;refine⟨(J / 64 % (R.length:Int)).toNat,by omega,?_⟩;rw[aP (x:=.int (J / 64)) (y:=.int (R.length:Nat)) (fH (by rw[ev,h2];rfl) (by decide)) (zL h),iD,if_pos Y]
 congr 2
 omega
def Bv{M:Rho}{i:Nat}{F:LL}(h:(M[0]?).join=sv (aX D))(Y:(M[4]?).join=sv (.int (i:Nat)))(J:D[i]?=some F):ev c38 (.idx (.bor 0) (.bor 4)) M=some (.lst (F.map ofS)):=by
 have hi:i<D.length:=(II.mp J).1;rw[fm (x:=aX D) (y:=.int (i:Nat)) (by rw[ev,h];rfl) (by rw[ev,Y];rfl)];show(place (D.map λF=>PV.lst (F.map ofS)).length ((i:Nat):Int)).bind (λj=>(D.map λF=>PV.lst (F.map ofS))[j]?)=_;rw[d6 (by omega) (by rw[IC];omega),bind_some,Jb,Int.toNat_natCast,J]
 rfl
def G7(j:J29 K D R P r bs H)(I:I29 4 12 12 D R){J at_:Int}{z:Option V}{Z:jP}(q:∀Y R' H',Y.length=D.length->J29 K Y R' P r bs H'->I29 4 13 13 Y R'->Z.nx (st5 P r J (D.length:Nat) at_ z) H') :
  fu (tVB K c38 (wq 1)) (gW (kJ K (tV K c38 (.bin .sub (.bor 3) (ci 1))) (tV K c38 jO)) (gp K (tV K c38 jO))) cW Z (st5 P r J (D.length:Nat) at_ z) H:=by
 refine nF j (tP rfl) λH1 j1=>?_
 cases hw:(J % 16==1)with
 |false=>exact rY (q D R H1 rfl j1 (I.up (by omega) (by omega) (by omega)))
 |true =>
  have l0:=I.l0;have lm:=I.lm;obtain⟨t,ht⟩:∃t:List Int,t=[0,10*(D.length:Int)-9]:=⟨_,rfl⟩;have gt:b7 t:=by
   rw[ht];refine⟨by simp;omega,λx hx=>?_⟩;simp only[IM,Kc,KR]at hx;omega
  have em:∀(Y:List (LL)) (R':LL),ev c38 jO (rh5 Y R' J (D.length:Nat) at_)=some (ofS t):=λY R'=>by
   have ex:ev c38 (.bin .sub (.bin .mul (ci 10) (.bor 3)) (ci 9)) (rh5 Y R' J (D.length:Nat) at_)=some (.int (10*(D.length:Int)-9)):=by
    refine(aP (x:=.int (10*(D.length:Int))) (y:=.int 9) ((aP (x:=.int 10) (y:=.int (D.length:Int)) (aW _ _ _) rfl).trans ?_) (aW _ _ _)).trans rfl;show(if (-(2 ^ 64)<(10:Int)/\(10:Int)<2 ^ 64)\/(-(2 ^ 64)<(D.length:Int)/\(D.length:Int)<2 ^ 64)then some (PV.int (10*(D.length:Int)))else none)=_;rw[if_pos (.inl (by decide))]
   rw[aI (v:=ofL t)]
   .rfl
   .rw[aI (v:=.lst (([0,10*(D.length:Int)-9]:List Int).map .int))]
    .show gz (([0,10*(D.length:Int)-9]:List Int).map .int)=_;rw[iC (by show 2<64;decide),sortI_id (by simp;omega),ht]
    .rw[ev,evs,aW,bind_some,evs,ex,bind_some,evs]
     rfl
  have hi:D.length-1<D.length:=by omega
  have hb:D.length-1<bs.length:=by rw[j.len];exact hi
  have hF:D[D.length-1]?=some D[D.length-1]:=IF hi;have a0:=(I.d _ (J5 hi)).1;generalize D[D.length-1]=F at hF a0;refine nZ (tO j1 rfl (IF hb) hF (by omega) (t:=t) (λQ' q'=>Cb j1 ((aP (x:=.int (D.length:Nat)) (y:=.int 1) rfl (aW _ _ _)).trans (by show some (PV.int ((D.length:Int)-1))=_;congr 2;omega)) q') (λH2 j2 Q' q'=>nE j2 (em D R) q') λH3 j3=>?_);exact qx j3 rfl (by have:=I.rl;omega) (t:=t) (λQ' q'=>nE j3 (em _ R) q') λH4 j4=>q _ _ H4 (by rw[JW]) j4 ((I.app hF gt).addR gt)
def G8(j:J29 K D R P r bs H)(I:I29 4 13 13 D R){Y J:Int}{i:Nat}(hi:i<D.length){z:Option V}{Z:jP}(q:∀D' R' H',D'.length=D.length->J29 K D' R' P r bs H'->I29 4 14 13 D' R'->Z.nx (st5 P r Y J (i:Nat) z) H') :
  fu (tVB K c38 (.and (wq 2) (.cmp .gt (.blt .len [(.idx (.bor 0) (.bor 4))]) (ci 0)))) (kJ K (cN 4) (tV K c38 (.idx (.idx (.bor 0) (.bor 4)) (ci 0)))) cW Z (st5 P r Y J (i:Nat) z) H:=by
 have hF:D[i]?=some D[i]:=IF hi;have ac:=I.d _ (J5 hi);generalize D[i]=F at hF ac;have hb:i<bs.length:=by rw[j.len];exact hi
 have ef:=Bv (M:=rh5 D R Y J (i:Nat)) rfl rfl hF;refine nF j (iw (tP rfl) λ_=>(cz (x:=.int (F.length:Nat)) (y:=.int 0) (by
  rw[aI ef];show some (PV.int ((F.map ofS).length:Nat))=_;rw[IC]) (aW _ _ _)).trans (show _=some (PV.bl (decide (0<(F.length:Int))))from rfl)) λH1 j1=>?_
 cases hw:(Y % 16==2&&decide (0<(F.length:Int)))with
 |false=>exact rY (q D R H1 rfl j1 (I.up (by omega) (by omega) (by omega)))
 |true =>
  have hp:0<F.length:=by
   have:=JU (IW.mp hw).2;omega
  refine nZ (tO j1 rfl (IF hb) hF (by omega) (t:=F[0]) (λQ' q'=>⟨_,rfl,q' H1 (ai.refl _)⟩) (λH2 j2 Q' q'=>nE j2 ?_ q') λH3 j3=>q _ _ H3 (by rw[JW]) j3 (I.app hF (ac.2 _ (J5 hp))));rw[fm (x:=.lst (F.map ofS)) (y:=.int 0) ef (aW _ _ _)];show(place (F.map ofS).length (0:Int)).bind (λj=>(F.map ofS)[j]?)=_;rw[d6 (by omega) (by rw[IC];omega),bind_some,Jb];show(F[0]?).map ofS=_;rw[IF hp]
  rfl
def G9(j:J29 K D R P r bs H)(I:I29 4 14 13 D R){Y J:Int}{i:Nat}(hi:i<D.length){z:Option V}{Z:jP}(q:∀D' R' H',D'.length=D.length->J29 K D' R' P r bs H'->I29 4 15 14 D' R'->Z.nx (st5 P r Y J (i:Nat) z) H') :
  fu (tVB K c38 (.and (wq 3) (.cmp .gt iy (ci 0)))) (gW (kJ K (cN 4) (tV K c38 (.tup [(ci 57),(ci 58)]))) (gp K (tV K c38 (.idx (.bor 1) (w64 iy))))) cW Z (st5 P r Y J (i:Nat) z) H:=by
 have hF:D[i]?=some D[i]:=IF hi;have aL:=I.d _ (J5 hi);generalize D[i]=F at hF aL;have hb:i<bs.length:=by rw[j.len];exact hi
 refine nF j (iw (tP rfl) λ_=>zM rfl) λH1 j1=>?_
 cases hw:(Y % 16==3&&decide (0<(R.length:Int)))with
 |false=>exact rY (q D R H1 rfl j1 (I.up (by omega) (by omega) (by omega)))
 |true =>
  have hp:0<R.length:=by
   have:=JU (IW.mp hw).2;omega
  have a0:b7 [57,58]:=⟨by simp,λx hx=>by simp only[IM,Kc,KR]at hx;omega⟩;refine nZ (tO j1 rfl (IF hb) hF (by omega) (t:=[57,58]) (λQ' q'=>⟨_,rfl,q' H1 (ai.refl _)⟩) (λH2 j2 Q' q'=>nE j2 rfl q') λH3 j3=>?_);obtain⟨k,hk,ek⟩:=G6 (R:=R) (M:=rh5 (D.set i (F++[[57,58]])) R Y J (i:Nat)) rfl rfl hp;refine qx j3 rfl (by have:=I.rl;omega) (t:=R[k]) (λQ' q'=>nE j3 ?_ q') λH4 j4=>q _ _ H4 (by rw[JW]) j4 ((I.app hF a0).addR (I.r _ (J5 hk)))
  rw[fm (x:=.lst (R.map ofS)) (y:=.int (k:Nat)) rfl ek];show(place (R.map ofS).length ((k:Nat):Int)).bind (λj=>(R.map ofS)[j]?)=_;rw[d6 (by omega) (by rw[IC];omega),bind_some,Jb,Int.toNat_natCast,IF hk]
  rfl
def G_(j:J29 K D R P r bs H)(I:I29 4 15 14 D R){J Y:Int}{i:Nat}(hi:i<D.length){z:Option V}{Z:jP}(q:∀R' H',J29 K D R' P r bs H'->I29 4 15 15 D R'->Z.nx (st5 P r J Y (i:Nat) z) H') :
  fu (tVB K c38 (wq 4)) (gp K (tV K c38 (.tup [(.bin .add (.bin .mul (ci 10) (.bor 4)) (w64 (ci 6)))]))) cW Z (st5 P r J Y (i:Nat) z) H:=by
 refine nF j (tP rfl) λH1 j1=>?_
 cases hw:(J % 16==4)with
 |false=>exact rY (q R H1 j1 (I.up (by omega) (by omega) (by omega)))
 |true =>
  have m0:0<=J / 64 % 6:=Jv _ (by decide);have m1:J / 64 % 6<6:=Jm _ (by decide);have lm:=I.lm;have gt:b7 [10*(i:Int)+J / 64 % 6]:=⟨by simp,λx hx=>by rw[Jd.mp hx];omega⟩;refine nZ (qx j1 rfl (by have:=I.rl;omega) (t:=[10*(i:Int)+J / 64 % 6]) (λQ' q'=>nE j1 ?_ q') λH4 j4=>q _ H4 j4 (I.addR gt));refine iF (dN ?_ rfl);refine(aP (x:=.int (10*(i:Int))) (y:=.int (J / 64 % 6)) ((aP (x:=.int 10) (y:=.int (i:Int)) (aW _ _ _) rfl).trans ?_) ((aP (x:=.int (J / 64)) (y:=.int 6) (fH rfl (by decide)) (aW _ _ _)).trans rfl)).trans rfl;show(if (-(2 ^ 64)<(10:Int)/\(10:Int)<2 ^ 64)\/(-(2 ^ 64)<(i:Int)/\(i:Int)<2 ^ 64)then some (PV.int (10*(i:Int)))else none)=_;rw[if_pos (.inl (by decide))]
def Ha(j:J29 K D R P r bs H)(I:I29 4 15 15 D R){Y J at_:Int}{z:Option V}{Z:jP}(q:∀R' H',J29 K D R' P r bs H'->I29 4 15 15 D R'->Z.nx (st5 P r Y J at_ z) H') :
  fu (tVB K c38 (.and (wq 5) (.cmp .gt iy (ci 0)))) (fw (tBM K "list" L2.lT (cN 1) (cq (tV K c38 (w64 iy)) d7))) cW Z (st5 P r Y J at_ z) H:=by
 refine nF j (iw (tP rfl) λ_=>zM rfl) λH1 j1=>?_
 cases hw:(Y % 16==5&&decide (0<(R.length:Int)))with
 |false=>exact rY (q R H1 j1 I)
 |true =>
  have hp:0<R.length:=by
   have:=JU (IW.mp hw).2;omega
  obtain⟨k,hk,ek⟩:=G6 (R:=R) (M:=rh5 D R Y J at_) rfl rfl hp;obtain⟨us,e,_⟩:=j1.r;refine nZ ⟨_,rfl,.inl ⟨rfl,us,SqL.of e⟩,Cb j1 ek λH2 s2=>?_⟩;have j2:=j1.mono s2;obtain⟨ws,e2,q2⟩:=j2.r;have ar:=q2.length;rw[IC]at ar;have ac:k<ws.length:=by omega
  have hr:=I.rl;refine⟨r,ws,((k:Nat):Int),k,ws[k],rfl,rfl,e2,by omega,by omega,?_,IF ac,q (R.eraseIdx k) _ (j2.setR ?_) ⟨I.l0,I.lm,I.d,λt ht=>I.r t (mem_of_mem_eraseIdx ht),?_⟩⟩
  .simp[seqIndex?,ac];omega
  .have:∀(L:LL) (k:Nat),(L.eraseIdx k).map ofS=(L.map ofS).eraseIdx k:=λL=>by
    induction L with
    |nil=>intro k;rfl
    |cons x L ih=>intro k;cases k with|zero=>rfl|succ k=>show ofS x::_=ofS x::_;rw[ih k]
   rw[this];exact tL q2 k
  .have:=length_eraseIdx_le R k;omega
def Hb(j:J29 K D R P r bs H)(I:I29 4 15 15 D R){Y J at_:Int}{z:Option V}{Z:jP}(q:∀D' ar H',J29 K D' R P r ar H'->I29 5 15 15 D' R->Z.nx (st5 P r Y J at_ z) H') :
  fu (tVB K c38 (wq 6)) (fw (tBM K "list" eI (cN 0) (cq (vt d7) d7))) cW Z (st5 P r Y J at_ z) H:=by
 refine nF j (tP rfl) λH1 j1=>?_
 cases hw:(Y % 16==6)with
 |false=>exact rY (q D bs H1 j1 (I.up (by omega) (by omega) (by omega)))
 |true =>
  refine nZ ⟨_,rfl,.inl ⟨rfl,_,SqL.of j1.p⟩,by decide,λp hp=>?_⟩;have hP:(upd H1 p (.lst [])) P=some (.lst (bs.map V.ref)):=by rw[az (bt j1.p hp)];exact j1.p
  have lm:=I.lm;have a2:=j1.len;refine⟨P,bs.map V.ref,.ref p,rfl,rfl,hP,nB (by rw[IC];omega),q _ _ _ (j1.new hp) ⟨by simp,by simp;omega,λF hF=>?_,I.r,I.rl⟩⟩;rcases JM.mp hF with hF|hF
  .exact I.d F hF
  .rw[Jd.mp hF];exact⟨IY _,λt ht=>by cases ht⟩
noncomputable def lng(F:LL):LL:=F++(replicate (60-F.length) (F.take 1)).flatten
def EO{F:LL}(h:F.length<=60/\Sm F):(lng F).length<=60/\Sm (lng F):=by
 unfold lng;refine⟨?_,λt J=>?_⟩
 .rw[IX,pD,KL];have:(60-F.length)*min 1 F.length<=(60-F.length)*1:=Nat.mul_le_mul_left _ (Lg _ _);omega
 .rcases JM.mp J with J|J
  .exact h.2 t J
  .obtain⟨l,Y,J⟩:=La.mp J;rw[(mem_replicate.mp Y).2]at J;exact h.2 t (mem_of_mem_take J)
def Bw(F:LL):(lng F).map ofS=F.map ofS++(replicate (60-F.length) ((F.map ofS).take 1)).flatten:=by
 unfold lng;rw[Jo,Ly,map_replicate,map_take]
def EQ(j:J29 K D R P r bs H){i:Nat}{a:Addr}{F:LL}(J:bs[i]?=some a)(hF:D[i]?=some F)(hl:F.length<=60){σ:L2.St}(hs:σ.length=6)(Y:σ[5]?=some (some (.ref a))){Q:VK}(q:∀H',J29 K (D.set i (lng F)) R P r bs H'->Q .non H') :
  tBM K "list" pC (cN 5) (cq (tEx K) d7) σ H Q:=by
 obtain⟨us,e,q0⟩:=j.b i a F J hF;have hu:=q0.length;rw[IC]at hu;refine⟨_,Y,.inl ⟨rfl,us,SqL.of e⟩,_,Y,1,rfl,a,us,rfl,SqL.of e,λp hp=>?_⟩;have ec:nH us none (some 1)=us.take 1:=by
  unfold nH;rw[HT.sIx_none,show(1:Int)=((1:Nat):Int)from rfl,HT.sIx_nat,drop_zero,Nat.sub_zero];cases us with
  |nil=>rfl
  |cons x us=>rw[Kp (by simp)]
 rw[ec];have s1:ai H (upd H p (.lst (us.take 1))):=aD hp _;have e1:(upd H p (.lst (us.take 1))) p=some (.lst (us.take 1)):=aq;generalize upd H p (.lst (us.take 1))=H1 at s1 e1;have j1:=j.mono s1;obtain⟨x0,t0,rfl,l1⟩:=aA hs;obtain⟨x1,t1,rfl,l2⟩:=aA l1;obtain⟨x2,t2,rfl,l3⟩:=aA l2;obtain⟨x3,t3,rfl,l4⟩:=aA l3;obtain⟨x4,t4,rfl,l5⟩:=aA l4;obtain⟨x5,t5,rfl,l6⟩:=aA l5;obtain rfl:=JJ.mp l6;cases Y;refine⟨[],[none,none,none,none,none,sv (.lst (F.map ofS))],.int (60-(F.length:Int)),no0,.skip (.skip (.skip (.skip (.skip (.val (j1.repF J hF) .nil))))),?_,λu H2 s2 ru=>?_⟩
 .refine(aP (x:=.int 60) (y:=.int (F.length:Nat)) (aW _ _ _) ?_).trans rfl;rw[aI (v:=.lst (F.map ofS)) rfl];show some (PV.int ((F.map ofS).length:Nat))=_;rw[IC]
 rw[Rep]at ru;subst ru;have hk:(60-(F.length:Int)).toNat=60-F.length:=by omega
 refine⟨p,60-(F.length:Int),us.take 1,rfl,rfl,s2 _ _ e1,by omega,by omega,?_,λp2 Z=>?_⟩
 .rw[hk,KL];have:min 1 us.length*(60-F.length)<=1*60:=Nat.mul_le_mul (Lg _ _) (by omega);exact IQ this (by decide)
 rw[hk];have s3:ai H2 (upd H2 p2 (.lst (replicate (60-F.length) (us.take 1)).flatten)):=aD Z _;have e3:(upd H2 p2 (.lst (replicate (60-F.length) (us.take 1)).flatten)) p2=some (.lst (replicate (60-F.length) (us.take 1)).flatten):=aq;generalize upd H2 p2 (.lst (replicate (60-F.length) (us.take 1)).flatten)=H3 at s3 e3;have sA:ai H H3:=s1.trans (s2.trans s3);have j3:=j.mono sA;have q3:=Reps.mono (ax sA) _ q0;refine⟨a,p2,us,_,rfl,rfl,sA _ _ e,e3,?_,q _ (j3.setP J ?_)⟩
 .rw[pD,KL];have:(60-F.length)*min 1 us.length<=60*1:=Nat.mul_le_mul (by omega) (Lg _ _);exact IQ (show us.length+_<=200 by omega) (by decide)
 .rw[Bw];exact jN q3 (rZ (wu q3 1) _)
def Hc(j:J29 K D R P r bs H)(I:I29 5 15 15 D R){ac Y at_:Int}{z:Option V}{Z:jP}(q:∀J H' z',J29 K J R P r bs H'->I29 5 60 15 J R->Z.nx (st5 P r ac Y at_ z') H') :
  fu (tVB K c38 (wq 8)) (tT8 K) cW Z (st5 P r ac Y at_ z) H:=by
 refine nF j (tP rfl) λH1 j1=>?_
 cases hw:(ac % 16==8)with
 |false=>exact rY (q D H1 z j1 (I.up (by omega) (by omega) (by omega)))
 |true =>
  refine nZ ⟨_,rfl,P,rfl,⟨_,SqL.of j1.p⟩,λi m σ H'=>∃z' J,σ=st5 P r ac Y at_ z'/\J29 K J R P r bs H'/\J.length=D.length/\(∀F∈J,F.length<=60/\Sm F)/\m=D.length-i/\i<=D.length,⟨_,z,D,rfl,j1,rfl,λF hF=>⟨by have:=(I.d F hF).1;omega,(I.d F hF).2⟩,rfl,IY _⟩,λi m σ H2 w=>?_⟩;obtain⟨z',J,rfl,j2,hl,hd,rfl,hi⟩:=w;by_cases a5:i<D.length
  .have aL:i<J.length:=by omega
   have hb:i<bs.length:=by rw[j2.len];exact aL
   have hF:J[i]?=some J[i]:=IF aL;have a0:=hd _ (J5 aL);generalize J[i]=F at hF a0;refine .inr ⟨⟨bs.map V.ref,.ref bs[i],SqL.of j2.p,by rw[Jb,IF hb];rfl⟩,λa2 H'=>∃z' J,a2=st5 P r ac Y at_ z'/\J29 K J R P r bs H'/\J.length=D.length/\(∀F∈J,F.length<=60/\Sm F),λa2 H' ⟨z',J,h1,h2,h3,h4⟩=>⟨D.length-(i+1),by omega,z',J,h1,h2,h3,h4,rfl,a5⟩,λx H' hy=>?_⟩;obtain⟨rfl,hy⟩:=hy;have hx:=hy _ (SqL.of j2.p);rw[Jb,IF hb]at hx;cases hx;exact EQ j2 (IF hb) hF a0.1 (σ:=st5 P r ac Y at_ (some (.ref bs[i]))) rfl rfl λH3 j3=>⟨_,_,rfl,j3,by rw[JW];exact hl,λG hG=>by
    rcases Kz hG with hG|rfl
    .exact hd G hG
    .exact EO a0⟩
  .have e:i=D.length:=by omega
   subst e;exact .inl ⟨⟨_,SqL.of j2.p,by rw[IC,j2.len,hl];exact y4 _⟩,q J H2 z' j2 ⟨by rw[hl];exact I.l0,by rw[hl];exact I.lm,hd,I.r,I.rl⟩⟩
def Hd(j:J29 K D R P r bs H)(I:I29 4 12 12 D R){J:Int}{Z:jP}(q:∀D' R' ac H' ao,J29 K D' R' P r ac H'->I29 5 60 15 D' R'->Z.nx ao H'):tLT K Z [some (.ref P),some (.ref r),some (.int J),none,none,none] H:=by
 refine⟨[],[sv (aX D),sv (.lst (R.map ofS)),sv (.int J),none,none,none],.int (D.length:Nat),no0,.val j.repD (.val j.repR (.val (by rw[Rep]) (.skip (.skip (.skip .nil))))),?_,λu H1 s1 Y=>?_⟩
 .rw[aI (v:=aX D) rfl];show some (PV.int ((D.map λF=>PV.lst (F.map ofS)).length:Nat))=_;rw[IC]
 rw[Rep]at Y;subst Y;have j1:=j.mono s1;have l0:=I.l0;have lm:=I.lm;have hp:0<(D.length:Int):=by omega
 have q0:0<=J / 16 % (D.length:Int):=Jv _ (by omega);have q1:J / 16 % (D.length:Int)<D.length:=Jm _ hp;obtain⟨i,hi⟩:∃i:Nat,(i:Int)=J / 16 % (D.length:Int):=⟨(J / 16 % (D.length:Int)).toNat,by omega⟩;have a2:i<D.length:=by omega
 refine⟨[],[sv (aX D),sv (.lst (R.map ofS)),sv (.int J),sv (.int (D.length:Nat)),none,none],.int (i:Nat),no0,.val j1.repD (.val j1.repR (.val (by rw[Rep]) (.val (by rw[Rep]) (.skip (.skip .nil))))),?_,λu H2 s2 Y=>?_⟩
 .rw[aP (x:=.int (J / 16)) (y:=.int (D.length:Int)) (fH rfl (by decide)) rfl,iD,if_pos hp,hi]
 rw[Rep]at Y;subst Y;have j2:=j1.mono s2;refine G7 (at_:=(i:Nat)) (z:=none) j2 I λD3 R3 H3 l3 j3 I3=>?_
 refine G8 (i:=i) (by exact j3) I3 (by omega) λD4 R4 H4 l4 j4 I4=>?_
 refine G9 (i:=i) j4 I4 (by omega) λD5 R5 H5 l5 j5 I5=>?_
 refine G_ (i:=i) j5 I5 (by omega) λR6 H6 j6 I6=>?_
 refine Ha j6 I6 λR7 H7 j7 I7=>?_
 refine Hb j7 I7 λD8 bO H8 j8 I8=>?_
 exact Hc j8 I8 λD9 H9 z9 j9 I9=>q _ _ _ _ _ j9 I9
end
noncomputable def ER(K:Mx):Sp:=λvs H Q _=>∃(D:List (LL)) (R:LL) (P r:Addr) (bs:List Addr) (J:Int),vs=[.ref P,.ref r,.int J]/\J29 K D R P r bs H/\I29 4 12 12 D R/\∀Z R' Y H',J29 K Z R' P r Y H'->I29 5 60 15 Z R'->Q .non H'
def He {P:Program}{w:World}{K:Mx}{mg:Str->Option Value}{base:Heap}{J:Addr}{fd:FuncData} (pr:nW tab K mg defs) (D:FnD K "_law_turned" "_law_turned" aU J fd):gX P w K mg base CX0 39 J fd ["parts","rest","way"] (ER K):=by
 obtain⟨c0,d0,k0,o0,m0,a0,Y,t1,a1,sl,lk,Z,rfl⟩:=D.it;refine kK lk Z Ca (λvs H Q E h=>?_) (λA outer s H vs Q E hr h=>?_)
 .obtain⟨D,R,P,r,bs,ac,rfl,_⟩:=h
  rfl
 .obtain⟨D,R,P',r,bs,ac,rfl,j,I,q⟩:=h;have l:Fr (cX CX0 P w K mg base bz.names "_law_turned" (ah aU) J Y A outer s H E).nox bz.names aU 38:=Fr.of pr Ca hr;have eB:bb aU=[T 0,T 1,T 2,T 3,T 4,T 5,T 6,T 7,T 8]:=rfl;rw[eB];refine⟨_,(Iu l).nox,?_⟩;exact Hd j I λD' R' ao H' a5 j' I'=>q D' R' ao H' j' I'
def scL:dO jG.names ["script"] (ah nz):=⟨rfl,rfl,rfl,by decide +kernel,rfl,by decide +kernel,by decide +kernel⟩
noncomputable abbrev L(i:Nat):Stmt:=(bb nz).getD i (.Pass ⟨0,0,0,0⟩)
noncomputable abbrev c39:Cal:=ab defs 39
noncomputable abbrev Cc:ME:=.blt .tupleOf [(.blt .sorted [.bor 4])]
noncomputable abbrev zN (K:Mx):TS:=λD σ H=>lP (EN K [.str "weaver",.str "moth"]) [] E0 (cq (cN 13) (cq (tV K c39 Cc) (cq (tC (.str "weaver")) (cq (tC (.str "moth")) d7)))) σ H λu H'=>D.nx (σ.set 14 (some u)) H'
noncomputable abbrev Iv(K:Mx):TS:=tSk K c39 zF (gW (fw (lP (ER K) [] E0 (cq (cN 3) (cq (cN 4) (cq (cN 1) d7))))) (tSk K c39 zI (gW (zN K) (tSs K c39 zJ))))
def Iw{K:Mx}{B H:Hp}{O:List Addr}{M:Rho}{σ:L2.St}{D:List (LL)}{R:LL}(st:aN K B [] O H M σ)(Z:M[3]?=some (some (.ownL (lL D))))(e4:M[4]?=some (some (.own (R.map ofS)))) :
  ∃(P r:Addr) (bs:List Addr),σ[3]?=some (some (.ref P))/\σ[4]?=some (some (.ref r))/\J29 K D R P r bs H:=by
 obtain⟨u3,f3,P,bs,rfl,hP,hi,oP,bP,nd⟩:=st.slot 3 _ Z;obtain⟨u4,f4,r,us,rfl,hr,qr,or',br⟩:=st.slot 4 _ e4;have n1:P≠r:=λz=>st.apart 3 4 _ _ P (by decide) Z e4 rfl rfl f3 (by rw[z];exact f4)
 have n2:r∉bs:=λz=>(st.inn 3 _ P _ Z f3 hP 4 _ (by decide) e4).2 r rfl f4 (List.mem_map_of_mem z)
 obtain⟨n3,n4⟩:=Ji.mp nd;have hO:∀b∈P::r::bs,b∈O:=λb J=>by
  rcases IM.mp J with rfl|J
  .exact oP
  rcases IM.mp J with rfl|J
  .exact or'
  .exact(hi.at b J).2.1
 have Y:ai (aj H O) (aj H (P::r::bs)):=bC (ai.refl H) λb J=>.inl (hO b J)
 refine⟨P,r,bs,f3,f4,⟨Ji.mpr ⟨λz=>?_,Ji.mpr ⟨n2,n4⟩⟩,hP,by rw[<- hi.len];unfold lL;rw[IC],λi a F h1 h2=>?_,⟨us,hr,Reps.mono Y _ qr⟩⟩⟩
 .rcases IM.mp z with z|z
  .exact n1 z
  .exact n3 z
 .obtain⟨b,ws,g1,g2,g3,_⟩:=hi.get (q:=i) (xs:=F.map ofS) (by unfold lL;rw[Jb,h2];rfl);rw[h1]at g1;cases g1;exact⟨ws,g2,Reps.mono Y _ g3⟩
def zO {P:Program}{w:World}{K:Mx}{mg:Str->Option Value}{base:Heap}{fa:Addr}{fd:FuncData} (pr:nW tab K mg defs) (D:FnD K "law" "law" nz fa fd)
  (hT:∃f fd,mg ("together":Str)=some (.ref f)/\FnD K "together" "together" cb f fd/\bE K fd ["rests"] [])
  (hS:∃f fd,mg ("parts_stand_for":Str)=some (.ref f)/\FnD K "parts_stand_for" "parts_stand_for" am f fd/\bE K fd ["rows","rest"] [])
  (hL:∃f fd,mg ("_law_turned":Str)=some (.ref f)/\FnD K "_law_turned" "_law_turned" aU f fd/\bE K fd ["parts","rest","way"] [])
  (hG:∃f fd,mg ("good":Str)=some (.ref f)/\FnD K "good" "good" d_ f fd/\bE K fd ["paper","rest","turn","hand"] [])
  (hM:∃f fd,mg ("good_for_moth":Str)=some (.ref f)/\FnD K "good_for_moth" "good_for_moth" aO f fd/\bE K fd ["paper","rest","turn"] []):gX P w K mg base CX0 40 fa fd ["script"] (rX K):=by
 obtain⟨c0,d0,k0,o0,m0,a0,Z,t1,a1,sl,lk,b4,rfl⟩:=D.it;refine kK lk b4 scL (λvs H Q E h=>?_) (λA outer s H vs Q E hr h=>?_)
 .obtain⟨a,ns,rfl,_⟩:=h
  rfl
 .obtain⟨a,ns,rfl,b5,cc,hq⟩:=h;obtain⟨fT,fr,mT,DT,bT⟩:=hT;obtain⟨fS,fy,mS,DS,bS⟩:=hS;obtain⟨fL,f5,mL,DL,bL⟩:=hL;obtain⟨fG,f8,mG,DG,bG⟩:=hG;obtain⟨fM,gb,mM,DM,bM⟩:=hM;have l:Fr (cX CX0 P w K mg base jG.names "law" (ah nz) fa Z A outer s H E).nox jG.names nz 39:=Fr.of pr scL hr;have FL:=He (P:=P) (w:=w) (base:=base) pr DL;have FG:=G5 (P:=P) (w:=w) (base:=base) (n:=27) pr DG mM DM bM mS DS bS mT DT bT;have gL:Gl (cX CX0 P w K mg base jG.names "law" (ah nz) fa Z A outer s H E).nox "_law_turned":=du (by rw[l.s];decide +kernel);have gG:Gl (cX CX0 P w K mg base jG.names "law" (ah nz) fa Z A outer s H E).nox "good":=du (by rw[l.s];decide +kernel);have eB:bb nz=[L 0,L 1,L 2,L 3,L 4,L 5,L 6,L 7,L 8,L 9,L 10,L 11,L 12,L 13,L 14]:=rfl;rw[eB];have p5:PS (cX CX0 P w K mg base jG.names "law" (ah nz) fa Z A outer s H E).nox (L 5) (fw (lP (ER K) [] E0 (cq (cN 3) (cq (cN 4) (cq (cN 1) d7))))):=
   eF (iz FL l.g.room gL mL DL.kp bL .nil lU (aB (l.nm (i:=3) (x:="parts") (by decide +kernel)) (aB (l.nm (i:=4) (x:="rest") (by decide +kernel)) (aB (l.nm (i:=1) (x:="way") (by decide +kernel)) aV)))) rfl
  have cd:PS (cX CX0 P w K mg base jG.names "law" (ah nz) fa Z A outer s H E).nox (L 11) (zN K):=
   l.set (i:=14) (x:="found") rfl (by decide +kernel) (iz FG l.g.room gG mG DG.kp bG .nil lU (aB (l.nm (i:=13) (x:="paper") (by decide +kernel)) (aB (l.v (me:=Cc) (by kernel_rfl)) (aB r9 (aB r9 aV))))) (cw rfl _ _ _)
  have hp:PSs (cX CX0 P w K mg base jG.names "law" (ah nz) fa Z A outer s H E).nox [L 0,L 1,L 2,L 3,L 4,L 5,L 6,L 7,L 8,L 9,L 10,L 11,L 12,L 13,L 14] (Iv K):=
   b9 (l.s1 (by kernel_rfl)) (b9 (l.s1 (by kernel_rfl)) (b9 (l.s1 (by kernel_rfl)) (b9 (l.s1 (by kernel_rfl)) (b9 (l.s1 (by kernel_rfl)) (qw
   (bm p5 (b9 (l.s1 (by kernel_rfl)) (b9 (l.s1 (by kernel_rfl)) (b9 (l.s1 (by kernel_rfl)) (b9 (l.s1 (by kernel_rfl)) (b9 (l.s1 (by kernel_rfl)) (qw
   (bm cd (l.ss (by kernel_rfl)))))))))))))))
  refine⟨_,hp.nox,?_⟩;obtain⟨Y,ee,D0,R0,y5,y6,y7,hw,hm,gr,sR,hR,eA⟩:=wn ns b5;refine⟨H,[],[],_,_,im (args:=[.brw (ns.map .int)]) no0 (.cons ⟨a,_,rfl,cc,Reps.of_ints ns⟩ .nil),eA,λck H1 O1 a6 k1=>?_⟩;obtain⟨P',r,bs,f3,f4,j⟩:=Iw a6 rfl rfl;obtain⟨u1,e1,r1⟩:=a6.slot 1 _ rfl;have r1:Rep K (aj H1 O1) (.int Y) u1:=r1;rw[Rep]at r1;subst r1;have bB:ck.length=14+1:=a6.len.symm;have I:I29 4 12 12 D0 R0:=⟨by have:=gr.m;omega,by have:=gr.m;omega,λF hF=>⟨gr.n F hF,gr.g F hF⟩,sR,hR⟩;refine⟨_,f3,_,f4,_,e1,D0,R0,P',r,bs,Y,rfl,j,I,λD R hg H2 j2 I2=>?_⟩;obtain⟨q0,hj,rfl,l1⟩:=aA bB;obtain⟨q1,hl,rfl,l2⟩:=aA l1;obtain⟨q2,hu,rfl,l3⟩:=aA l2;obtain⟨q3,hA,rfl,l4⟩:=aA l3;obtain⟨q4,hC,rfl,l5⟩:=aA l4;obtain⟨q5,hH,rfl,l6⟩:=aA l5;obtain⟨q6,hK,rfl,l7⟩:=aA l6;obtain⟨q7,hP,rfl,l8⟩:=aA l7;obtain⟨q8,hW,rfl,l9⟩:=aA l8;obtain⟨q9,h5,rfl,cl⟩:=aA l9;obtain⟨cu,eo,rfl,cC⟩:=aA cl;obtain⟨cL,er,rfl,cP⟩:=aA cC;obtain⟨cS,et,rfl,c1⟩:=aA cP;obtain⟨c2,eu,rfl,c3⟩:=aA c1;obtain⟨c4,ew,rfl,c5⟩:=aA c3;obtain rfl:=JJ.mp c5;cases f3;cases f4;cases e1;obtain⟨J,y9,h6,h7,m1,p1,eL⟩:=wp Y D (λF hF=>I2.d F hF) (by have:=I2.lm;omega) I2.l0 R I2.r (by have:=I2.rl;omega);have a8:J.length<=8:=by
   have h1:=JD List.length m1;rw[IC,IC]at h1;have:=I2.lm;omega
  have vw:Vw K H2 [] (fq (.val (.int Y)) (.val (aX D)) (.val (.lst (R.map ofS))) none none none none none none none) [q0,some (.int Y),q2,some (.ref P'),some (.ref r),q5,q6,q7,q8,q9,cu,cL,cS,c2,c4]:=
   .skip (.val (by rw[Rep]) (.skip (.val j2.repD (.val j2.repR (.skip (.skip (.skip (.skip (.skip (.skip (.skip (.skip (.skip (.skip .nil))))))))))))))
  refine⟨H2,[],[],_,_,vw.st no0,eL,λc6 H3 O3 ac k3=>?_⟩;have g0:c6.length=14+1:=ac.len.symm;obtain⟨u3,h3,r3⟩:=ac.slot 3 _ rfl;obtain⟨u4,h4,r4⟩:=ac.slot 4 _ rfl;obtain⟨u1,h1,r1⟩:=ac.slot 1 _ rfl;obtain⟨bO,dm,br⟩:=ac.slot 12 _ rfl;obtain⟨ar,dn,aL⟩:=ac.slot 13 _ rfl;have r3:Rep K (aj H3 O3) (aX D) u3:=r3;have r4:Rep K (aj H3 O3) (.lst (R.map ofS)) u4:=r4;have r1:Rep K (aj H3 O3) (.int Y) u1:=r1;have br:Rep K (aj H3 O3) (.bl (dG (J.map (·.1)) (sortT R)&&J.all bOf)) bO:=br;have aL:Rep K (aj H3 O3) (cG J) ar:=aL;obtain⟨w0,i2,rfl,g1⟩:=aA g0;obtain⟨w1,jb,rfl,g2⟩:=aA g1;obtain⟨w2,j3,rfl,g3⟩:=aA g2;obtain⟨w3,j5,rfl,g4⟩:=aA g3;obtain⟨w4,j7,rfl,g5⟩:=aA g4;obtain⟨w5,kq,rfl,g6⟩:=aA g5;obtain⟨w6,k2,rfl,g7⟩:=aA g6;obtain⟨w7,ls,rfl,g8⟩:=aA g7;obtain⟨w8,mb,rfl,g9⟩:=aA g8;obtain⟨w9,mr,rfl,dr⟩:=aA g9;obtain⟨dt,eD,rfl,dV⟩:=aA dr;obtain⟨d1,eG,rfl,d2⟩:=aA dV;obtain⟨mu,eH,rfl,d3⟩:=aA d2;obtain⟨m2,e0,rfl,d4⟩:=aA d3;obtain⟨m3,e2,rfl,ea⟩:=aA d4;obtain rfl:=JJ.mp ea;cases h3;cases h4;cases h1;cases dm;cases dn;have a5:R.length<=60:=by have:=I2.rl;omega
  refine⟨ar,rfl,[],[none,none,none,none,sv (.lst (R.map ofS)),none,none,none,none,none,none,none,none,none,none],ofR (sortT R),no0,.skip (.skip (.skip (.skip (.val (Rep.mono le0 _ r4) (.skip (.skip (.skip (.skip (.skip (.skip (.skip (.skip (.skip (.skip .nil)))))))))))))),ny (by omega) rfl,λus H4 s4 rs=>?_⟩;refine⟨ar,us,J,sortT R,rfl,Rep.mono ((be H3 O3).trans s4) _ aL,by rw[b_]at rs;exact rs,kH I2.r a5,p1,a8,λH5 s5=>?_⟩;have ao:ai (aj H3 O3) (aj H5 []):=(ax (s4.trans s5)).trans le0;refine⟨H5,[],[],fq (.val (.int Y)) (.val (aX D)) (.val (.lst (R.map ofS))) none none none none (sv (.bl (dG (J.map (·.1)) (sortT R)&&J.all bOf))) (sv (cG J)) (sv (.bl (dG (J.map (·.1)) (sortT R)&&J.all bOf))),(show Vw K H5 [] _ [w0,some u1,w2,some u3,some u4,w5,w6,w7,w8,w9,dt,d1,some bO,some ar,some (.bl (dG (J.map (·.1)) (sortT R)&&J.all bOf))]from .skip (.val (Rep.mono ao _ r1) (.skip (.val (Rep.mono ao _ r3) (.val (Rep.mono ao _ r4) (.skip (.skip (.skip (.skip (.skip (.skip (.skip (.val (Rep.mono ao _ br) (.val (Rep.mono ao _ aL) (.val (by rw[Rep]) .nil))))))))))))))).st no0,?_⟩;rw[wt Y D R a5 J none none none none _];intro u H6 s6 r6;rw[Rep]at r6;subst r6;exact hq H6
def Bx{K:Mx}{H:Hp}{a:Addr}{ns:List Int}{E:XK}(J:ns.length<=63)(Y:SqL K H a (ns.map V.int)):rX K [.ref a] H (λv _=>v=.bl true) E:=⟨a,ns,rfl,J,Y,λ_=>rfl⟩
end
def ES {l:PySem.W.OpenLaw}{w:World}{K:Mx}{h:Heap}{mg:Str->Option Value}{fa:Addr} (X:K.In h) (G:h.Ns mainGlobals mg) (a0:mg "law"=some (.ref fa))
  (hs:sY K top defs [1,2,3,4,5,6,7,8,10,11,14,15,16,17,19,20,23,26,27,28,29,32,36,37,38,39,42,45,46,49,50,51,52,53,55,58,59,60,61,62,64,65] tab.ds) (hL:HD K "law" (top 66) jG λfd=>∀(s:Shared) (v:Value),BindsTo s fd ⟨[v],[]⟩ [("script",v)]) (hH0:HD K "together" (top 22) gJ) (hH1:HD K "parts_stand_for" (top 41) aG) (hH2:HD K "_law_turned" (top 63) bz) (hH3:HD K "good" (top 36) iq) (hH4:HD K "good_for_moth" (top 37) aJ)
  (zs:∀x∈ik,PySem.W.nsIn K mainGlobals x=some none)
  {J:Value} (g0:PySem.W.nsIn K mainGlobals "UNIT"=some (some J)) (r0:aK (toV (.int 1152921504606846976)) J)
 :∃fd:FuncData,(∀(s:Shared) (v:Value),BindsTo s fd ⟨[v],[]⟩ [("script",v)])/\∀base:Heap,K.In base->base.Ns mainGlobals mg->gX l.prog w K mg base CX0 40 fa fd ["script"] (rX K):=by
 obtain⟨_,fL,a1,aL,DL,_,qL⟩:=hL;cases a0.symm.trans (PySem.W.mg_of X G aL);obtain⟨_,a2,Y,a3,a4,a5,_⟩:=hH0;obtain⟨_,a6,Z,a8,a9,bc,_⟩:=hH1;obtain⟨_,br,ac,bB,bG,bL,_⟩:=hH2;obtain⟨_,bM,ao,bO,bP,bS,_⟩:=hH3;obtain⟨_,bT,ar,b0,b1,b2,_⟩:=hH4;have pr:nW tab K mg defs:=by
  refine⟨rfl,Em X G hs (by kernel_rfl),λx hx=>PySem.W.mg_none_of X G (zs x hx),λp hp=>?_⟩
  .simp only[tab,IM,Kc,KR]at hp;rcases hp with rfl
   .exact⟨_,PySem.W.mg_of X G g0,r0⟩
 exact⟨a1,qL,λbase _ _=>zO pr DL ⟨a2,Y,PySem.W.mg_of X G a3,a4,a5⟩ ⟨a6,Z,PySem.W.mg_of X G a8,a9,bc⟩ ⟨br,ac,PySem.W.mg_of X G bB,bG,bL⟩ ⟨bM,ao,PySem.W.mg_of X G bO,bP,bS⟩ ⟨bT,ar,PySem.W.mg_of X G b0,b1,b2⟩⟩
def Ix{l:PySem.W.OpenLaw}{q:Program}{J:List Str}{XP:(Str->Option Value)->Heap->Prop}{Z:World->Heap->Prop}{d:DefRec}{K:Params->Mx}(hn:l.most=some 63)(Y:d.params.defaults=[])
  (hY:∀(w:World) (h:Heap),Z w h->(K w.params).In h)
  (F:∀(w:World) (mg:Str->Option Value) (fa:Addr) (h:Heap),(K w.params).In h->h.Ns mainGlobals mg->mg d.name=some (.ref fa) ->
   ∃fd:FuncData,(∀(s:Shared) (u:Value),BindsTo s fd ⟨[u],[]⟩ [("script",u)])/\∀base:Heap,(K w.params).In base->base.Ns mainGlobals mg->gX l.prog w (K w.params) mg base CX0 40 fa fd ["script"] (rX (K w.params))) :
  PySem.W.WalkO q J XP Z l.row.toRowW d [] (λf vs=>PySem.call f vs):=
 L2.Ao (n:=63) (k:=40) (x:="script") (CX:=λ_=>CX0) (sp:=λw=>rX (K w.params)) hn (by decide) Y ⟨rfl,by decide,by decide⟩ hY F (λ_ _ a ns hl _ hS=>Bx hl hS) λ_ _ _ _ _ z=>z
end My
open PySem PySem.W PyProof.Rows List Option
set_option maxRecDepth 100000 in
set_option maxHeartbeats 0 in
theorem PySem.Challenge.cw_mothloom_k29_parts_holds : PySem.Challenge.rw_mothloom_k29_parts.Holds := by
 w_on;o_law;k_head;(case hw=>w_witness2)
 k_fill
 refine My.Ix (l:=PySem.Challenge.rw_mothloom_k29_parts) rfl rfl (λw h Y=>PySem.W.kIn_of Y) ?F
 case F =>
  intro w mg fa h KX G hmg
  refine' My.ES KX G hmg ?hs ?hL ?hH0 ?hH1 ?hH2 ?hH3 ?hH4 ?zs ?gq0 ?rq0
  (case hs =>
   repeat' first|exact MM.sY.nil|apply MM.sY.cons
   all_goals (conv=>arg 2;whnf)
   all_goals first
    | (refine' ⟨rfl,_,_,?ka,.mk' (d0:=.none) ?kl ?kc ?kk,MM.bn2 λ_ _=>rfl,trivial⟩;(case ka=>k_is);(case kl=>k_is);(case kc=>k_is);(case kk=>k_is))
    | (refine' ⟨rfl,_,_,?ka,.mk' (d0:=.none) ?kl ?kc ?kk,MM.bn1 λ_=>rfl,trivial⟩;(case ka=>k_is);(case kl=>k_is);(case kc=>k_is);(case kk=>k_is))
    | (refine' ⟨rfl,_,_,?ka,.mk' (d0:=.none) ?kl ?kc ?kk,MM.bn3 λ_ _ _=>rfl,trivial⟩;(case ka=>k_is);(case kl=>k_is);(case kc=>k_is);(case kk=>k_is))
    | (refine' ⟨rfl,_,_,?ka,.mk' (d0:=.none) ?kl ?kc ?kk,MM.bn4 λ_ _ _ _=>rfl,trivial⟩;(case ka=>k_is);(case kl=>k_is);(case kc=>k_is);(case kk=>k_is))
    | (refine' ⟨rfl,_,_,?ka,.mkd ?kl ?kc ?kk,?kb,trivial⟩;(case ka=>k_is);(case kl=>k_is);(case kc=>k_is);(case kk=>k_is);(case kb=>refine' MM.sX rfl ?kx ?ky;(case kx=>k_is);(case ky=>exact λus hl=>match us,hl with|[_,_],_=>⟨_,rfl,rfl⟩))))
  (case hL=>refine' ⟨rfl,_,_,?ka,.mk' (d0:=.none) ?kl ?kc ?kk,MM.bn1 λ_=>rfl,λs v=>.of_eq rfl⟩;(case ka=>k_is);(case kl=>k_is);(case kc=>k_is);(case kk=>k_is))
  (case hH0=>refine' ⟨rfl,_,_,?ka,.mk' (d0:=.none) ?kl ?kc ?kk,MM.bn1 λ_=>rfl,trivial⟩;(case ka=>k_is);(case kl=>k_is);(case kc=>k_is);(case kk=>k_is))
  (case hH1=>refine' ⟨rfl,_,_,?ka,.mk' (d0:=.none) ?kl ?kc ?kk,MM.bn2 λ_ _=>rfl,trivial⟩;(case ka=>k_is);(case kl=>k_is);(case kc=>k_is);(case kk=>k_is))
  (case hH2=>refine' ⟨rfl,_,_,?ka,.mk' (d0:=.none) ?kl ?kc ?kk,MM.bn3 λ_ _ _=>rfl,trivial⟩;(case ka=>k_is);(case kl=>k_is);(case kc=>k_is);(case kk=>k_is))
  (case hH3=>refine' ⟨rfl,_,_,?ka,.mk' (d0:=.none) ?kl ?kc ?kk,MM.bn4 λ_ _ _ _=>rfl,trivial⟩;(case ka=>k_is);(case kl=>k_is);(case kc=>k_is);(case kk=>k_is))
  (case hH4=>refine' ⟨rfl,_,_,?ka,.mk' (d0:=.none) ?kl ?kc ?kk,MM.bn3 λ_ _ _=>rfl,trivial⟩;(case ka=>k_is);(case kl=>k_is);(case kc=>k_is);(case kk=>k_is))
  (case zs=>intro x hx;simp only[MM.ik,IM,Kc,KR]at hx;rcases hx with rfl|rfl|rfl|rfl|rfl|rfl|rfl|rfl|rfl|rfl|rfl|rfl|rfl|rfl|rfl|rfl|rfl<;>k_is)
  (case gq0=>k_is);(case rq0=>exact⟨_,rfl⟩)
